import PyProof.Rows.All
import Wide.All
import OpenK.AllK
import Wide.FinOn
import Lean
import PyProof.EqAt
import PyProof.EqKinds
import PyProof.TupleCall
import PySem.Challenge.RW_twinwalk_k71_whole_read_as_written
open PySem.W renaming Frag->GP,mg_none_of->HI,mg_of->HP,kia_one->HS,emptyDict->HW,findIn->Ia,fnOf->Ig,instObj->Ii,keepIn->IA,plainGet->Jl,kia_tup->Jp,lookIn->Jx,kitOne->Jy,codeIn->Jz,plainGet_of->JD,callWith_K->JJ,methodObj->JP,kitx_list->JQ,hasDictIn->JR,takerIn->JX,cellsFrom_some->Ki,methodCall_KW->Kt,isFn->Ku,kitx_tuple->KJ,plainOver->KP,kitx_dict->KQ
open PySem.Str renaming ofString->GQ,empty->HM,join->IE,append_assoc->Js
open List renaming length_map->GR,length_append->GU,mem_cons_self->GZ,mem_cons_of_mem->G0,map_append->G2,getElem?_eq_getElem->G3,size_toArray->G4,length_cons->G5,length_take->G8,mem_of_getElem? -> Hh,map_cons->Hi,take_add_one->Hl,append_nil->Hm,length_singleton->Hq,filterMap_append->Hs,take_length->HB,not_mem_nil->HG,reverse_cons->HH,mem_append_right->HK,mem_cons->HL,map_map->HQ,getElem?_map->HR,getD_eq_getElem?_getD->HX,sum_cons->Ib,length_nil->Ik,append_assoc->Il,lookup_cons->Iq,length_drop->Ir,length_reverse->IF,filterMap_cons->IG,map_nil->IH,find?_cons->IM,range->IT,mem_append_left->IY,lookup->Jb,length_filterMap_le->Jm,any_cons->Jn,all_eq_true->Jr,sum_nil->JA,forIn_cons->JB,dropLast_concat->JI,length_take_le->JL,eraseIdxIfInBounds_toArray->JV,any_eq_false->JW,of_mem_zip->J6,nil_append->J7,getElem?_append_right->Kf,take_zero->Kn,drop_zero->Ko,eraseIdx_cons_succ->Kz,take_of_length_le->KD,getElem?_set_self->KG,getElem?_set_ne->KY
open PySem.Heap renaming get?_push_of_some->GV,lt_size->G6,get?_push_size->G9,SameBut->Iw,size_push->Jg,get?_update_other->KH,get?_update_self->KL
open PySem renaming Spec->GW,boot_len->G1,mem_of_lookup->HN,wpAny_callSpecial?_slot->Ic,wpAny_passesOwn->IB,ofString_length->Jv,wpAny_execs_nil->JO,seqIndex? -> J2,intText? -> Kb,Within->KC
open Nat renaming le_refl->GX,le_trans->GY,lt_of_lt_of_le->Hn,lt_of_le_of_lt->Ho,zero_le->HD,ne_of_lt->HE,le_of_lt->HV,lt_trans->Im,lt_succ_self->Iu,succ_pos->Iz,lt_irrefl->Ja,ne_of_gt->Jf,toDigits_of_lt_base->Jq,le_add_right->Ju,toDigits->JF,min_eq_left->JG,le_succ->JS,one_le_two_pow->JU,toDigits_append_toDigits->J4,mul_le_mul->Ky,sub_zero->KS,sub_self->KU,pow_succ->KW
open Bool renaming false_ne_true->G7,and_eq_true->ID,eq_iff_iff->JC,false_eq_true->JT
open PySem.Txt renaming join->Hj,split->Jc,slice_le->J0,contains->J1,slice->Ka
open True renaming intro->Ht
open Option.some renaming inj->HA
open PySem.Value renaming ref->HC,none->Ip,isStrOf->IJ,str->IU,type->IZ,bool->I0,int->I9,float->KO
open PySem.Builtin.SmallTypes renaming nextOf->HF,ownedTupleIsFree->HY,ownedTupleHandOut->Jd
open PySem.NameKind renaming free->HJ,cell->J5
open PySem.Builtin.Str renaming glued->HU,strSliceIndices->IW,occurrences->JZ,strKind->Kh
open PyProof.Rows renaming callWith_type1->HZ,slot_tupleiter_next->Ie,slot_tuple_getitem->Ih,entry_tupleiter_next->Jt,args_tupleiter_next->Jw,callWith_builtin1->JE
open False renaming elim->Ij
open Int renaming eq_ofNat_of_zero_le->Io,toNat_natCast->IV,ediv_nonneg->Kg,fdiv_eq_ediv_of_nonneg->Kq,zero_add->KZ
open PySem.Builtin.Slice renaming slicePlaces->Iv,sliceAdjust->IX,sliceApplied->JN
open PySem.Builtin.Tuple renaming tupleExact->Iy,tupleItemsOf->JM
open ForInStep renaming yield->IC
open Option renaming map_some->II
open PySem.Calls renaming spliced_cons->IK,callWith_builtin->IP,spliced_nil->Jk,evalArgs_plain->JH,Name_function_global->J9
open PySem.F renaming slot_str_split->IL,slot_zip_next->IQ,slot_dict_get->IS,args_str_split_2->Je,plainAttrs_list->Jh,entry_str_split->Ji,args_tuple_add_2->J3,plainAttrs_dict->Kc,entry_tuple_add->Kd,args_zip_next_1->Ke,slot_tuple_add->Kj,plainAttrs_str->Kk,entry_zip_next->Kl,entry_dict_get->Km,type_list_pop->Kv,type_dict_get->Kw,slot_list_pop->Kx
open PyProof.Rows.F renaming plain_set_update_loop->Jj
open PySem.Code renaming compLoop->Jo,isFrame->KN
open Array renaming length_toList->JK,getElem?_toList->KI
open PySem.Obj renaming mapSeq->JY
open PySem.Heap.SameBut renaming update->J8
open PySem.SeqAt.EqAt renaming str_int->Kr,int_str->Ks
open PySem.Around renaming under->KA
open PySem.PassesOwn renaming never->KR
set_option Elab.async false
set_option linter.all false
set_option maxRecDepth 100000
/-! THE F7 FA,for ints,bools,texts,own classes,FC and tuples (index,slices,in,append,pop ..),calls,loops. FE it whole ahead of Ei own text; what Ei proof does not reach may be deleted. -/
theorem Nr:0<=PySem.sizeLine:=by decide
theorem Nt:1<=PySem.sizeLine:=by decide
theorem Nu:2<=PySem.sizeLine:=by decide
theorem Nv:3<=PySem.sizeLine:=by decide
theorem Nw:4<=PySem.sizeLine:=by decide
theorem Nx:5<=PySem.sizeLine:=by decide
theorem Ny:10<=PySem.sizeLine:=by decide
theorem Nz:14<=PySem.sizeLine:=by decide
theorem NB:24<=PySem.sizeLine:=by decide
namespace L2
open PySem PySem.Spec PyProof.Rows

/-- a key: an int or a str -/
abbrev Key:=Sum Int Str
def kM:Key->Value->Bool
 | .inl k,v=>Value.isInt k v
 | .inr x,v=>IJ x v
def E8 (w:World):Key->Int
 | .inl k=>hashInt k
 | .inr x=>hashStr w x
theorem bj:∀{k:Key} {v:Value},kM k v=true->(∃i t,k=Sum.inl i/\v=I9 i t)\/(∃x t,k=Sum.inr x/\v=IU x t)
 | .inl i,v,h=>by
   obtain ⟨t,e⟩:=Value.isInt_shape (k:=i) (v:=v) h
   exact .inl ⟨i,t,rfl,e⟩
 | .inr x,v,h=>by
   obtain ⟨t,e⟩:=Value.isStrOf_shape (x:=x) (v:=v) h
   exact .inr ⟨x,t,rfl,e⟩
theorem qU (i:Int)(t:Tok):kM (.inl i) (.int i t)=true:=by simp [kM,Value.isInt]
theorem qV (x:Str)(t:Tok):kM (.inr x) (.str x t)=true:=by simp [kM,IJ]
theorem Ai (a b:Int):decide ((Sum.inl a:Key)=Sum.inl b)=(a == b):=by
 by_cases e:a=b
 · subst e; simp
 · have h:¬ (Sum.inl a:Key)=Sum.inl b:=fun q=>e (Sum.inl.inj q)
   rw [decide_eq_false h]
   exact (beq_eq_false_iff_ne.mpr e).symm
theorem Am (a b:Str):decide ((Sum.inr a:Key)=Sum.inr b)=decide (a=b):=by
 by_cases e:a=b
 · subst e; simp
 · have h:¬ (Sum.inr a:Key)=Sum.inr b:=fun q=>e (Sum.inr.inj q)
   rw [decide_eq_false h,decide_eq_false e]
theorem Aj (a:Int)(b:Str):decide ((Sum.inl a:Key)=Sum.inr b)=false:=decide_eq_false (fun q=>nomatch q)
theorem Ak (a:Str)(b:Int):decide ((Sum.inr a:Key)=Sum.inl b)=false:=decide_eq_false (fun q=>nomatch q)

def bp (prog:Program)(w:World):PySem.KeyKind prog w Key where
 is:=kM
 hash:=E8 w
 inj:=fun v a b ha hb=>by
   rcases bj ha with ⟨i,t,rfl,rfl⟩ | ⟨x,t,rfl,rfl⟩
   · rcases bj hb with ⟨j,u,rfl,e⟩ | ⟨y,u,rfl,e⟩
     · injection e with e1 _; rw [e1]
     · exact nomatch e
   · rcases bj hb with ⟨j,u,rfl,e⟩ | ⟨y,u,rfl,e⟩
     · exact nomatch e
     · injection e with e1 _; rw [e1]
 byValue:=fun k v h=>by
   rcases bj h with ⟨i,t,rfl,rfl⟩ | ⟨x,t,rfl,rfl⟩ <;> rfl
 pyHash:=fun hv h=>by
   rcases bj hv with ⟨i,t,rfl,rfl⟩ | ⟨x,t,rfl,rfl⟩
   · exact wpAny_pyHash_int h
   · exact wpAny_pyHash_str h
 eqBool:=fun hu hv h=>by
   rcases bj hu with ⟨i,t,rfl,rfl⟩ | ⟨x,t,rfl,rfl⟩
   · rcases bj hv with ⟨j,u,rfl,rfl⟩ | ⟨y,u,rfl,rfl⟩
     · rw [Ai] at h; exact wpAny_eqBool_int h
     · rw [Aj] at h; exact Ks i t y u _ _ _ _ h
   · rcases bj hv with ⟨j,u,rfl,rfl⟩ | ⟨y,u,rfl,rfl⟩
     · rw [Ak] at h; exact Kr x t j u _ _ _ _ h
     · rw [Am] at h; exact wpAny_eqBool_str h
 «strs»:=fun k x t v h=>by
   rcases bj h with ⟨i,u,rfl,e⟩ | ⟨y,u,rfl,e⟩
   · exact nomatch e
   · injection e with e1 _
     subst e1
     cases v <;> rfl

theorem m3 (prog:Program)(w:World)(i:Int)(t:Tok):(bp prog w).is (.inl i) (.int i t)=true:=qU i t
theorem m5 (prog:Program)(w:World)(x:Str)(t:Tok):(bp prog w).is (.inr x) (.str x t)=true:=qV x t
end L2

namespace L2
open PySem PySem.Spec PyProof.Rows

/-- a value,without the heap -/
inductive V where
 | bq | bl (b:Bool) | int (i:Int) | str (x:Str) | byt (b:Array UInt8) | flt (b:UInt64) | ref (a:Addr) | ty (n:String)
 deriving DecidableEq

def RelV:V->Value->Prop
 | .bq,u=>u=Ip
 | .bl b,u=>u=I0 b
 | .int i,u=>∃t,u=I9 i t
 | .str x,u=>∃t,u=IU x t
 | .byt b,u=>∃t,u=Value.bytes b t
 | .flt b,u=>∃t,u=KO b t
 | .ref a,u=>u=HC a
 | .ty n,u=>u=IZ n

abbrev Vals:List V->List Value->Prop:=Paired RelV
theorem Vals.length {xs:List V}{us:List Value}(r:Vals xs us):xs.length=us.length:=Paired.length r
theorem Vals.get:∀{xs:List V} {us:List Value} {i:Nat} {x:V},Vals xs us->xs[i]? = some x->∃u,us[i]? = some u/\RelV x u
 | _,_,_,_,.nil,e=>by simp at e
 | _,_,0,_,.cons r _,e=>by simp at e; subst e; exact ⟨_,rfl,r⟩
 | _,_,i + 1,x,.cons _ t,e=>by
   obtain ⟨u,h1,h2⟩:=Vals.get (i:=i) (x:=x) t (by simpa using e)
   exact ⟨u,by simpa using h1,h2⟩
theorem Vals.set {x:V}{u:Value}(r:RelV x u):∀{xs:List V} {us:List Value} (i:Nat),Vals xs us->Vals (xs.set i x) (us.set i u)
 | _,_,_,.nil=>.nil
 | _,_,0,.cons _ t=>.cons r t
 | _,_,i + 1,.cons q t=>.cons q (Vals.set r i t)
theorem Vals.append:∀{xs ys:List V} {us ws:List Value},Vals xs us->Vals ys ws->Vals (xs++ys) (us++ws)
 | _,_,_,_,.nil,s=>s
 | _,_,_,_,.cons r t,s=>.cons r (Vals.append t s)
theorem Vals.take:∀{xs:List V} {us:List Value} (n:Nat),Vals xs us->Vals (xs.take n) (us.take n)
 | _,_,0,_=>.nil
 | _,_,_ + 1,.nil=>.nil
 | _,_,n + 1,.cons r t=>.cons r (Vals.take n t)
theorem Vals.drop:∀{xs:List V} {us:List Value} (n:Nat),Vals xs us->Vals (xs.drop n) (us.drop n)
 | _,_,0,r=>r
 | _,_,_ + 1,.nil=>.nil
 | _,_,n + 1,.cons _ t=>Vals.drop n t
def cS:Option V->Option Value->Prop
 | some v,some u=>RelV v u
 | none,none=>True
 | _,_=>False
def KV {κ:Type}:List (κ×V)->List (κ×Value)->Prop:=Paired fun (p:κ×V) (q:κ×Value)=>p.1=q.1/\RelV p.2 q.2

/-- a key of a dict (00Gd): an int or a text -/
def kV:Key->V
 | .inl i=>.int i
 | .inr x=>.str x

/-- what stands at a tracked address -/
inductive HO where
 /-- a list -/
 | lst (xs:List V)
 /-- a tuple (never changes) -/
 | tup (xs:List V)
 /-- a dict whose keys are ints and texts; one whose keys are tuples of ints and texts (the empty one is both) -/
 | dK (kvs:List (Key×V)) | dT (kvs:List (List Key×V))
 /-- a set of ints: its members,its size -/
 | set (S:Int->Bool) (n:Nat)
 /-- an instance of the class at C,its dict at dx,its attributes -/
 | ins (C dx:Addr) (fs:List (Str×V))
 /-- the dict of the instance at x -/
 | own (x:Addr)
 /-- the dict of an exception -/
 | xd (fs:List (Str×V))
 /-- a bound method,f of x -/
 | met (f x:Addr)
 /-- a range object lo,lo + 1,.. below hi -/
 | rng (lo hi:Int)
 /-- a Eg that is known to the object (the l9; a dict while a loop walks it): read,never written while it is so -/
 | frz (o:Obj) (u:HO)
 /-- a code uK table -/
 | tbl (ps:Array Value)
 /-- any other Eg,by what is true of its one object (a def of FR own: Gb a S n:=HO.ext fun h=>..) -/
 | ext (φ:Heap->Prop)

abbrev Hp:=Addr->Option HO
def upd (H:Hp)(a:Addr)(o:HO):Hp:=fun b=>if b=a then some o else H b
theorem ae {H:Hp}{a:Addr}{o:HO}:upd H a o a=some o:=by unfold upd; rw [if_pos rfl]
theorem aj {H:Hp}{a b:Addr}{o:HO}(h:b≠a):upd H a o b=H b:=by unfold upd; rw [if_neg h]
theorem iW {H:Hp}{a:Addr}{o u:HO}:upd (upd H a o) a u=upd H a u:=by
 funext b; unfold upd; split <;> rfl
/-- two objects of Cf content stand apart -/
theorem y9 {H:Hp}{a b:Addr}{o u:HO}(h:H a=some o)(h':H b=some u)(d:o≠u):a≠b:=by
 intro e; subst e; rw [h] at h'; exact d (HA h')
theorem ai {H:Hp}{a b:Addr}{o:HO}(h:H a=some o)(h':H b=none):a≠b:=by
 intro e; subst e; rw [h] at h'; cases h'

section
variable (P:Program)(w:World)
def a8 (H:Hp)(h:Heap)(a:Addr):HO->Prop
 | .lst xs=>xs.length<=sizeLine/\∃(its:List Value) (n:Nat),Vals xs its/\h.get? a=some { cls:=.type "list",data:=.seq its.toArray n }
 | .tup xs=>xs.length<=sizeLine/\∃its:List Value,Vals xs its/\IsTup h a its.toArray
 | .dK kvs=>kvs.length<=sizeLine/\(a == sysModules)=false/\∃vs,KV kvs vs/\h.DictOf (bp P w) a vs
 | .dT kvs=>kvs.length<=sizeLine/\(a == sysModules)=false/\∃xs:List (List Key×Addr×Value),
     Paired (fun (p:List Key×V) (q:List Key×Addr×Value)=>p.1=q.1/\H q.2.1=some (.tup (p.1.map kV))/\RelV p.2 q.2.2) kvs xs /\
     ∃o es ep,h.get? a=some o/\o.ExactDict/\o.data=.dict es ep/\es.toList=xs.map (entryOfKey (tupleKind (bp P w)))/\(xs.map (·.1)).Nodup
 | .set S n=>h.SetOf (intKind P w) a S n
 | .ins C dx fs=>H dx=some (.own a)/\fs.length<=1000/\dx≠a/\h.get? a=some (Ii C dx) /\
     ∃mA,h.Ns1 dx mA/\(∀f,cS (fs.lookup f) (mA f))/\KC mA (fs.map (·.1))
 | .own _=>∃o,h.get? a=some o
 | .xd fs=>∃mA,h.Ns1 a mA/\∀f,cS (fs.lookup f) (mA f)
 | .rng lo hi=>∃t u v,h.get? a=some { cls:=.type "range",data:=.fields #[.int lo t,.int hi u,.int 1 v] }
 | .frz o u=>h.get? a=some o/\a8 H h a u
 | .tbl ps=>h.get? a=some { cls:=.none,data:=.fields ps }
 | .met f x=>h.get? a=some (JP (.ref f) (.ref x))
 | .ext φ=>φ h/\(∃o,h.get? a=some o)/\∀h1 h2:Heap,φ h1->(∀o,h1.get? a=some o->h2.get? a=some o)->φ h2
/-- the abstract heap is held -/
def fk (H:Hp)(h:Heap):Prop:=∀a o,H a=some o->a8 P w H h a o
end

section
variable {P:Program}{w:World}{H H':Hp}{h h':Heap}{a:Addr}{o:HO}
theorem a8.lt (x:a8 P w H h a o):a < h.objs.size:=by
 cases o with
 | lst xs=>obtain ⟨_,_,_,_,e⟩:=x; exact G6 e
 | tup xs=>obtain ⟨_,_,_,p⟩:=x; exact p.lt
 | dK kvs=>obtain ⟨_,_,_,_,o,_,_,e,_⟩:=x; exact G6 e
 | dT kvs=>obtain ⟨_,_,_,_,o,_,_,e,_⟩:=x; exact G6 e
 | set S n=>obtain ⟨o,_,_,_,e,_⟩:=x; exact G6 e
 | ins C dx fs=>obtain ⟨_,_,_,e,_⟩:=x; exact G6 e
 | own y=>obtain ⟨_,e⟩:=x; exact G6 e
 | xd fs=>obtain ⟨_,⟨_,_,_,e,_⟩,_⟩:=x; exact G6 e
 | rng lo hi=>obtain ⟨_,_,_,e⟩:=x; exact G6 e
 | frz ob u=>obtain ⟨e,_⟩:=x; exact G6 e
 | tbl ps=>exact G6 (show h.get? a=some _ from x)
 | met f y=>exact G6 (show h.get? a=some _ from x)
 | ext φ=>obtain ⟨_,⟨_,e⟩,_⟩:=x; exact G6 e
theorem Paired.mapP {α β:Type}{F G:α->β->Prop}:∀{l₁:List α} {l₂:List β},Paired F l₁ l₂->(∀a b,F a b->G a b)->Paired G l₁ l₂
 | _,_,.nil,_=>.nil
 | _,_,.cons r t,f=>.cons (f _ _ r) (Paired.mapP t f)
/-- what an uK description FO on: its own object,its own dict,the tuples -/
theorem a8.stay (x:a8 P w H h a o)(k:∀b u,(b=a\/H b=some (.own a))->h.get? b=some u->h'.get? b=some u)
   (ho:∀b,H b=some (.own a)->H' b=some (.own a)) (ht:∀b xs,H b=some (.tup xs)->H' b=some (.tup xs)):a8 P w H' h' a o:=by
 induction o with
 | lst xs=>obtain ⟨z,its,n,r,e⟩:=x; exact ⟨z,its,n,r,k _ _ (.inl rfl) e⟩
 | tup xs=>obtain ⟨z,its,r,ob,e,c⟩:=x; exact ⟨z,its,r,ob,k _ _ (.inl rfl) e,c⟩
 | dK kvs=>obtain ⟨z,y,vs,r,ob,es,ep,e,c⟩:=x; exact ⟨z,y,vs,r,ob,es,ep,k _ _ (.inl rfl) e,c⟩
 | dT kvs=>
   obtain ⟨z,y,xs,r,ob,es,ep,e,c⟩:=x
   exact ⟨z,y,xs,Paired.mapP r fun p q z=>⟨z.1,ht _ _ z.2.1,z.2.2⟩,ob,es,ep,k _ _ (.inl rfl) e,c⟩
 | set S n=>obtain ⟨ob,es,ep,t,e,c⟩:=x; exact ⟨ob,es,ep,t,k _ _ (.inl rfl) e,c⟩
 | ins C dx fs=>
   obtain ⟨d,z,ne,e,mA,⟨od,es,ep,e2,c⟩,r⟩:=x
   exact ⟨ho _ d,z,ne,k _ _ (.inl rfl) e,mA,⟨od,es,ep,k _ _ (.inr d) e2,c⟩,r⟩
 | own y=>obtain ⟨ob,e⟩:=x; exact ⟨ob,k _ _ (.inl rfl) e⟩
 | xd fs=>obtain ⟨mA,⟨od,es,ep,e,c⟩,r⟩:=x; exact ⟨mA,⟨od,es,ep,k _ _ (.inl rfl) e,c⟩,r⟩
 | rng lo hi=>obtain ⟨t,u,v,e⟩:=x; exact ⟨t,u,v,k _ _ (.inl rfl) e⟩
 | frz ob u ih=>obtain ⟨e,q⟩:=x; exact ⟨k _ _ (.inl rfl) e,ih q⟩
 | tbl ps=>
   have e:h.get? a=some { cls:=.none,data:=.fields ps }:=x
   show h'.get? a=some { cls:=.none,data:=.fields ps }
   exact k a _ (.inl rfl) e
 | met f y=>
   have e:h.get? a=some (JP (.ref f) (.ref y)):=x
   show h'.get? a=some (JP (.ref f) (.ref y))
   exact k a _ (.inl rfl) e
 | ext φ=>obtain ⟨p,⟨o,e⟩,st⟩:=x; exact ⟨st _ _ p fun o q=>k _ _ (.inl rfl) q,⟨o,k _ _ (.inl rfl) e⟩,st⟩
theorem fk.lt (x:fk P w H h)(e:H a=some o):a < h.objs.size:=(x a o e).lt
theorem fk.fresh (x:fk P w H h)(e:h.objs.size<=a):H a=none:=by
 cases q:H a with
 | none=>rfl
 | some u=>exact absurd (Hn (x.lt q) e) (Ja _)
/-- pw object of the heap is kept -/
theorem fk.kept (x:fk P w H h)(k:∀b u,h.get? b=some u->h'.get? b=some u):fk P w H h':=fun a o e=>
 (x a o e).stay (fun b u _ q=>k b u q) (fun _ q=>q) fun _ _ q=>q
/-- a new object is laid and tracked -/
theorem fk.laid (x:fk P w H h)(k:∀b u,h.get? b=some u->h'.get? b=some u)(hp:h.objs.size<=a)(new:a8 P w (upd H a o) h' a o):fk P w (upd H a o) h':=fun b u e=>by
 have hn:=x.fresh hp
 by_cases hb:b=a
 · subst hb; rw [ae] at e; cases e; exact new
 · rw [aj hb] at e
   exact (x b u e).stay (fun c v _ q=>k c v q) (fun c q=>by rw [aj (ai q hn)]; exact q) fun c xs q=>by rw [aj (ai q hn)]; exact q
end

/-- what may be read as u: it is u,or a known u -/
def Rd (H:Hp)(a:Addr)(u:HO):Prop:=H a=some u\/∃o,H a=some (.frz o u)
theorem Rd.ok {P:Program}{w:World}{H:Hp}{h:Heap}{a:Addr}{u:HO}(r:Rd H a u)(x:fk P w H h):a8 P w H h a u:=by
 rcases r with r | ⟨o,r⟩
 · exact x a u r
 · obtain ⟨_,q⟩:=x a _ r
   exact q
/-- what may be written -/
def Ct:Option HO->Prop
 | some (.lst _)=>True
 | some (.dK _)=>True
 | some (.dT _)=>True
 | some (.set _ _)=>True
 | some (.ins _ _ _)=>True
 | some (.ext _)=>True
 | _=>False
section
variable {P:Program}{w:World}{H:Hp}{h h':Heap}{x e:Addr}{o':HO}
/-- the object at e is changed: x itself,or the dict of the instance x -/
theorem fk.write (ok:fk P w H h)(mu:Ct (H x))(he:e=x\/H e=some (.own x))(k:∀b u,b≠e->h.get? b=some u->h'.get? b=some u)(heo:∃u,h'.get? e=some u)
   (new:a8 P w (upd H x o') h' x o'):fk P w (upd H x o') h':=fun b u q=>by
 have nown:∀c y,H c=some (.own y)->c≠x:=fun c y r z=>by subst z; rw [r] at mu; exact mu
 have ntup:∀c xs,H c=some (.tup xs)->c≠x:=fun c xs r z=>by subst z; rw [r] at mu; exact mu
 by_cases hb:b=x
 · subst hb; rw [ae] at q; cases q; exact new
 · rw [aj hb] at q
   by_cases z8:b=e
   · have q':H b=some (.own x):=by
       rcases he with z | z
       · exact absurd (z8.trans z) hb
       · rw [z8]; exact z
     rw [q] at q'; cases q'
     obtain ⟨v,hv⟩:=heo
     exact ⟨v,by rw [z8]; exact hv⟩
   · refine (ok b u q).stay (fun c v hc r=>k c v ?_ r) (fun c r=>by rw [aj (nown c b r)]; exact r) fun c xs r=>by rw [aj (ntup c xs r)]; exact r
     rcases hc with rfl | hc
     · exact z8
     · rintro rfl
       rcases he with z | z
       · exact nown c b hc z
       · rw [hc] at z; cases z; exact hb rfl
end

/-! ### kept unless tracked; of the frames at fs (the i9) the slots may change (an exception that passes writes there); of the records at ex (iterators) nothing is said -/
structure Un (fs ex:List Addr)(H H':Hp)(h h':Heap):Prop where
 keep:∀b o,h.get? b=some o->H b=none->b ∉ fs->b ∉ ex->h'.get? b=some o
 slot:∀b o,h.get? b=some o->H b=none->b∈fs->b ∉ ex->∃sl,h'.get? b=some { o with slots:=sl }
 free:∀b o,h.get? b=some o->H b=none->b ∉ ex->H' b=none
 there:∀b o,h.get? b=some o->b ∉ ex->∃o',h'.get? b=some o'
 tups:∀b xs,H b=some (.tup xs)->H' b=some (.tup xs)
 frzs:∀b o u,H b=some (.frz o u)->H' b=some (.frz o u)
 tbls:∀b ps,H b=some (.tbl ps)->∃more,H' b=some (.tbl (ps++more))
section
variable {fs Cg ex GL:List Addr}{H H1 H2:Hp}{h h1 h2 h':Heap}{a x e:Addr}{o:HO}
theorem Un.any (u:Un fs ex H H1 h h1){b:Addr}{ob:Obj}(q:h.get? b=some ob)(n:H b=none)(hx:b ∉ ex):∃sl,h1.get? b=some { ob with slots:=sl }:=by
 by_cases hb:b∈fs
 · exact u.slot b ob q n hb hx
 · exact ⟨ob.slots,u.keep b ob q n hb hx⟩
theorem Un.kept (k:∀b u,h.get? b=some u->h'.get? b=some u):Un fs ex H H h h':=
 ⟨fun b ob q _ _ _=>k b ob q,fun b ob q _ _ _=>⟨ob.slots,k b ob q⟩,fun _ _ _ n _=>n,fun b ob q _=>⟨ob,k b ob q⟩,fun _ _ q=>q,fun _ _ _ q=>q,fun _ ps q=>⟨#[],by rw [q]; simp⟩⟩
theorem Un.refl:Un fs ex H H h h:=Un.kept fun _ _ q=>q
theorem Un.laid (k:∀b u,h.get? b=some u->h'.get? b=some u)(hp:h.objs.size<=a)(hn:H a=none):Un fs ex H (upd H a o) h h' where
 keep:=fun b u q _ _ _=>k b u q
 slot:=fun b u q _ _ _=>⟨u.slots,k b u q⟩
 free:=fun b u q n _=>by rw [aj (HE (Hn (G6 q) hp))]; exact n
 there:=fun b u q _=>⟨u,k b u q⟩
 tups:=fun b xs q=>by rw [aj (ai q hn)]; exact q
 frzs:=fun b u xs q=>by rw [aj (ai q hn)]; exact q
 tbls:=fun b ps q=>⟨#[],by rw [aj (ai q hn),q]; simp⟩
theorem Un.write (mu:Ct (H x))(he:e=x\/H e=some (.own x))(k:∀b u,b≠e->h.get? b=some u->h'.get? b=some u)(heo:∃u,h'.get? e=some u):Un fs ex H (upd H x o) h h':=by
 have hx:∀b,H b=none->b≠x:=fun b n z=>by subst z; rw [n] at mu; exact mu
 have hb:∀b,H b=none->b≠e:=fun b n z=>by
   subst z
   rcases he with r | r
   · exact hx b n r
   · rw [n] at r; cases r
 have hm:∀b u,H b=some u->¬ Ct (some u)->b≠x:=fun b u q nm z=>by subst z; rw [q] at mu; exact nm mu
 refine ⟨fun b u q n _ _=>k b u (hb b n) q,fun b u q n _ _=>⟨u.slots,k b u (hb b n) q⟩,fun b u q n _=>by rw [aj (hx b n)]; exact n,fun b u q _=>?_,
   fun b xs q=>by rw [aj (hm b _ q fun z=>z)]; exact q,fun b u xs q=>by rw [aj (hm b _ q fun z=>z)]; exact q,fun b ps q=>⟨#[],by rw [aj (hm b _ q fun z=>z),q]; simp⟩⟩
 by_cases z8:b=e
 · subst z8; exact heo
 · exact ⟨u,k b u z8 q⟩
end

/-! ### the heap without what is tracked -/
def Ey (h:Heap)(H:Hp):List Addr:=(IT h.objs.size).filter fun a=>(H a).isSome
def lJ (h:Heap)(H:Hp):Heap:=PySem.W.hideAll h (Ey h H)
theorem qQ (h:Heap)(H:Hp):(lJ h H).objs.size=h.objs.size:=PySem.W.hideAll_size _ _
theorem ub {h:Heap}{H:Hp}{b:Addr}{o:Obj}(e:h.get? b=some o)(n:H b=none):(lJ h H).get? b=some o:=
 PySem.W.hideAll_get _ e fun hm=>by
   have q:(H b).isSome=true:=(List.mem_filter.mp hm).2
   rw [n] at q; simp at q
theorem xq {h:Heap}{H:Hp}{b:Addr}{o:Obj}(e:(lJ h H).get? b=some o):h.get? b=some o/\H b=none:=by
 have e':h.get? b=some o:=PySem.W.of_hideAll (Ey h H) e
 refine ⟨e',?_⟩
 cases q:H b with
 | none=>rfl
 | some x=>
   have hm:b∈Ey h H:=List.mem_filter.mpr ⟨List.mem_range.mpr (G6 e'),by simp [q]⟩
   have z:(lJ h H).get? b=none:=PySem.W.hideAll_none (Ey h H) hm
   rw [z] at e; cases e

/-! ### El ledger,filled with pw new object but one -/
end L2

namespace L2
open PySem PySem.Spec PyProof.Rows

/-- the jz facts,over the base: the heap at the law's entry without what is tracked there -/
structure Mod (K:GP)(mg:Str->Option Value)(base:Heap):Prop where
 kin:K.In base
 glob:base.Ns mainGlobals mg
 blt:∃mb,base.Ns builtinsNs mb/\∀x:Str,x≠"__name__"->mb x=bootBuiltins x
 nolimit:base.NoLimit

/-- the context: a def's body (or a comprehension's block) running. base: fixed through the whole law; s₀,H₀: the entry; outer: the frames whose slots others may change (a def's Eo); stack: all frames that run;
  ex: iterators that Fs made ahead of the entry and are walked here (a comprehension's); fn: the names whose cells Fs made at the entry (a def: all; a comprehension's block: its own); calm: not within an except suite; pn: pins that pw state bears; xe: what is wanted of an exception that leaves the code -/
structure Cx where
 prog:Program
 w:World
 K:GP
 mg:Str->Option Value
 base:Heap
 A:Around
 N:List Str
 s₀:Shared
 H₀:Hp
 env:Env
 outer:List Env
 stack:List Env
 ex:List Addr
 fn:Str->Bool
 calm:Bool
 pn:List (Addr×Obj)
 xe:Value->Shared->Prop
/-- the i9 frames -/
def sW (l:List Env):List Addr:=l.filterMap (·.frame)
abbrev Cx.fs (X:Cx):List Addr:=sW X.outer

def EI (sc:Scope)(x:Str):Prop:=sc.names.lookup x=some .local\/sc.names.lookup x=some .cell\/sc.names.lookup x=some .free
def Loc (sc:Scope)(x:Str):Prop:=sc.names.lookup x=some .local\/sc.names.lookup x=some .cell
def Look (env:Env)(h:Heap)(m:Str->Option Value)(x:Str)(u:Value):Prop:=
 (env.kindOf x=some .local/\m x=some u)\/((env.kindOf x=some .cell\/env.kindOf x=some .free)/\∃c,env.cells.lookup x=some c/\h.IsCell c (some u))

structure Cx.Ok (X:Cx):Prop where
 mod:Mod X.K X.mg X.base
 kind:X.env.scope.kind=.function
 glob:X.env.globals=mainGlobals
 blt:X.env.builtins=builtinsNs
 above:X.s₀.heap.objs.size<=X.env.locals
 inj:∀x y c,X.env.cells.lookup x=some c->X.env.cells.lookup y=some c->x=y
 has:∀x,(X.env.kindOf x=some .cell\/X.env.kindOf x=some .free)->∃c,X.env.cells.lookup x=some c
 cab:∀x c,X.fn x=true->X.env.cells.lookup x=some c->X.s₀.heap.objs.size<=c
 hd:X.calm=true->X.A.handled=none
 frames:X.A.frames=some X.stack
 stk:X.stack=X.outer\/(X.stack=X.env :: X.outer/\X.env.frame=some X.env.locals)
 exf:∀b∈X.ex,b≠X.env.locals/\∀x c,X.env.cells.lookup x=some c->c≠b
 bs:∀b o,X.base.get? b=some o->X.s₀.heap.get? b=some o/\X.H₀ b=none
 bsz:X.base.objs.size<=X.s₀.heap.objs.size
 noex:∀b o,X.base.get? b=some o->b ∉ X.ex
 exfs:∀b∈X.ex,b ∉ X.fs
 ij:X.s₀.heap.FunFrames X.base X.outer
 frf:∀b∈X.fs,X.H₀ b=none

structure Inv (X:Cx)(pins:List (Addr×Obj))(σ:List (Option V))(H:Hp)(s:Shared):Prop where
 ok:X.Ok
 os:s.os=X.s₀.os
 bare:AllBare s.gens
 base:Un X.fs X.ex X.H₀ H X.s₀.heap s.heap
 loc:∃m,s.heap.Ns X.env.locals m/\∀(i:Nat) (x:Str) (v:V),X.N[i]? = some x->σ[i]? = some (some v)->EI X.env.scope x->∃u,RelV v u/\Look X.env s.heap m x u
 cell:∀x c,X.env.cells.lookup x=some c->∃v,s.heap.IsCell c v
 free:H X.env.locals=none
 freeC:∀x c,X.env.cells.lookup x=some c->H c=none
 pin:∀p∈X.pn++pins,s.heap.get? p.1=some p.2/\H p.1=none/\p.1≠X.env.locals/\p.1 ∉ X.fs/\∀v,p.2.data≠.cell v
 hok:fk X.prog X.w H s.heap
 len:σ.length=X.N.length

section
variable {X:Cx}{pins:List (Addr×Obj)}{σ:List (Option V)}{H H':Hp}{s:Shared}{h':Heap}

theorem Cx.Ok.Fe (ok:X.Ok){b:Addr}{o:Obj}(e:X.base.get? b=some o):b ∉ X.fs:=fun hb=>by
 have:=(ok.ij.mem hb).1
 rw [e] at this; cases this
theorem Inv.bs (I:Inv X pins σ H s):∀b o,X.base.get? b=some o->s.heap.get? b=some o/\H b=none:=fun b o e=>
 ⟨I.base.keep b o (I.ok.bs b o e).1 (I.ok.bs b o e).2 (I.ok.Fe e) (I.ok.noex b o e),I.base.free b o (I.ok.bs b o e).1 (I.ok.bs b o e).2 (I.ok.noex b o e)⟩
theorem Inv.bk (I:Inv X pins σ H s):∀b o,X.base.get? b=some o->s.heap.get? b=some o:=fun b o e=>(I.bs b o e).1
theorem Inv.mod (I:Inv X pins σ H s):Mod X.K X.mg X.base:=I.ok.mod
theorem Inv.kIn (I:Inv X pins σ H s):X.K.In s.heap:=I.ok.mod.kin.keeps I.bk
theorem Inv.lt (I:Inv X pins σ H s):X.env.locals < s.heap.objs.size:=let ⟨_,hn,_⟩:=I.loc; hn.lt
theorem Inv.sz (I:Inv X pins σ H s):X.s₀.heap.objs.size<=s.heap.objs.size:=GY I.ok.above (HV I.lt)
theorem Inv.Ff (I:Inv X pins σ H s){a:Addr}(h:s.heap.objs.size<=a):a ∉ X.fs:=fun hb=>by
 obtain ⟨_,o,ho,_⟩:=I.ok.ij.mem hb
 exact absurd (Hn (G6 ho) (GY I.sz h)) (Ja _)
theorem Inv.zQ (I:Inv X pins σ H s):∀x c,X.env.cells.lookup x=some c->c≠X.env.locals:=fun x c e z=>by
 obtain ⟨v,o,ho,hd⟩:=I.cell x c e
 obtain ⟨m,⟨o',es,ep,ho',hd',_⟩,_⟩:=I.loc
 rw [z,ho'] at ho; cases ho; rw [hd'] at hd; cases hd
theorem Inv.ij (I:Inv X pins σ H s):s.heap.FunFrames X.base X.outer:=by
 have all:∀(l:List Env),(∀b∈sW l,b∈X.fs)->X.s₀.heap.FunFrames X.base l->s.heap.FunFrames X.base l:=by
   intro l
   induction l with
   | nil=>intro _ _; trivial
   | cons env r ih=>
     intro hs hl
     obtain ⟨hk,⟨L,o,hf,hn,ho,hd⟩,hr⟩:=hl
     have hL:L∈X.fs:=hs L (by unfold sW; rw [IG,hf]; exact GZ)
     obtain ⟨sl,e⟩:=I.base.slot L o ho (I.ok.frf L hL) hL fun z=>I.ok.exfs L z hL
     exact ⟨hk,⟨L,_,hf,hn,e,hd⟩,ih (fun b hb=>hs b (by unfold sW; rw [IG,hf]; exact G0 _ hb)) hr⟩
 exact all X.outer (fun _ hb=>hb) I.ok.ij

/-- the frames that run,for a call -/
theorem Inv.stack (I:Inv X pins σ H s):s.heap.FunFrames X.base X.stack:=by
 rcases I.ok.stk with e | ⟨e,hf⟩
 · rw [e]; exact I.ij
 · rw [e]
   obtain ⟨m,hn,_⟩:=I.loc
   refine .cons (by rw [I.ok.kind]; decide) hf hn ?_ I.ij
   exact Heap.get?_none_of_le (GY I.ok.bsz I.ok.above)
theorem Inv.stkSub (I:Inv X pins σ H s):∀b∈sW X.stack,b∈X.env.locals :: X.fs:=fun b hb=>by
 rcases I.ok.stk with e | ⟨e,hf⟩
 · rw [e] at hb; exact G0 _ hb
 · rw [e] at hb
   unfold sW at hb
   rw [IG,hf] at hb
   exact hb
theorem Inv.stkFree (I:Inv X pins σ H s):∀b∈sW X.stack,H b=none:=fun b hb=>by
 rcases List.mem_cons.mp (I.stkSub b hb) with e | hb
 · rw [e]; exact I.free
 · obtain ⟨_,o,ho,_⟩:=I.ok.ij.mem hb
   exact I.base.free b o ho (I.ok.frf b hb) fun z=>I.ok.exfs b z hb

/-- THE Ga: the rV objects but the frame and the records at ch are kept (the i9 frames up to slots),the pz map is kept,the new abstract heap is held -/
theorem Inv.step {g':Array GenState}{t':Nat}{d':Drawn}{ch:List Addr}(I:Inv X pins σ H s)
   (hch:∀b∈ch,(b∈X.ex\/X.s₀.heap.objs.size<=b)/\b≠X.env.locals/\(∀x c,X.env.cells.lookup x=some c->c≠b)/\∀p∈X.pn++pins,p.1≠b)
   (keep:∀b o,b≠X.env.locals->b ∉ X.fs->b ∉ ch->s.heap.get? b=some o->H b=none->h'.get? b=some o)
   (slot:∀b o,b≠X.env.locals->b∈X.fs->b ∉ ch->s.heap.get? b=some o->H b=none->∃sl,h'.get? b=some { o with slots:=sl }) (free:∀b o,b ∉ ch->s.heap.get? b=some o->H b=none->H' b=none)
   (there:∀b o,b ∉ ch->s.heap.get? b=some o->∃o',h'.get? b=some o')
   (tups:∀b xs,H b=some (.tup xs)->H' b=some (.tup xs)) (frzs:∀b o u,H b=some (.frz o u)->H' b=some (.frz o u)) (tbls:∀b ps,H b=some (.tbl ps)->∃more,H' b=some (.tbl (ps++more)))
   (ns:∀m,s.heap.Ns X.env.locals m->h'.Ns X.env.locals m) (hok:fk X.prog X.w H' h') (hg:AllBare g') :
   Inv X pins σ H' { s with heap:=h',gens:=g',drawn:=d',toks:=t' }:=by
 have neL:∀b o,X.s₀.heap.get? b=some o->b≠X.env.locals:=fun b o e=>HE (Hn (G6 e) I.ok.above)
 have neC:∀b o,X.s₀.heap.get? b=some o->b ∉ X.ex->b ∉ ch:=fun b o e hx hb=>by
   rcases (hch b hb).1 with z | z
   · exact hx z
   · exact absurd (Hn (G6 e) z) (Ja _)
 have cellK:∀x c,X.env.cells.lookup x=some c->∀v,s.heap.IsCell c v->h'.IsCell c v:=fun x c e v ⟨o,ho,hd⟩=>by
   have nch:c ∉ ch:=fun z=>(hch c z).2.2.1 x c e rfl
   by_cases hc:c∈X.fs
   · obtain ⟨sl,q⟩:=slot c o (I.zQ x c e) hc nch ho (I.freeC x c e)
     exact ⟨_,q,hd⟩
   · exact ⟨o,keep c o (I.zQ x c e) hc nch ho (I.freeC x c e),hd⟩
 refine ⟨I.ok,I.os,hg,⟨fun b o e n hb hx=>?_,fun b o e n hb hx=>?_,fun b o e n hx=>?_,fun b o e hx=>?_,fun b xs e=>tups b xs (I.base.tups b xs e),fun b o xs e=>frzs b o xs (I.base.frzs b o xs e),fun b ps e=>?_⟩,?_,fun x c e=>?_,?_,fun x c e=>?_,fun p hp=>?_,hok,I.len⟩
 · exact keep b o (neL b o e) hb (neC b o e hx) (I.base.keep b o e n hb hx) (I.base.free b o e n hx)
 · obtain ⟨sl,e1⟩:=I.base.slot b o e n hb hx
   obtain ⟨GA,e2⟩:=slot b _ (neL b o e) hb (neC b o e hx) e1 (I.base.free b o e n hx)
   exact ⟨GA,e2⟩
 · obtain ⟨o',e1⟩:=I.base.there b o e hx
   exact free b o' (neC b o e hx) e1 (I.base.free b o e n hx)
 · obtain ⟨o',e1⟩:=I.base.there b o e hx
   exact there b o' (neC b o e hx) e1
 · obtain ⟨m1,e1⟩:=I.base.tbls b ps e
   obtain ⟨m2,e2⟩:=tbls b _ e1
   exact ⟨m1++m2,by rw [e2,Array.append_assoc]⟩
 · obtain ⟨m,hn,hl⟩:=I.loc
   refine ⟨m,ns m hn,fun i x v e1 e2 e3=>?_⟩
   obtain ⟨u,r,l⟩:=hl i x v e1 e2 e3
   refine ⟨u,r,?_⟩
   rcases l with l | ⟨k,c,e,z⟩
   · exact .inl l
   · exact .inr ⟨k,c,e,cellK x c e _ z⟩
 · obtain ⟨v,z⟩:=I.cell x c e
   exact ⟨v,cellK x c e v z⟩
 · obtain ⟨m,⟨o,_,_,ho,_⟩,_⟩:=I.loc
   exact free _ o (fun z=>(hch _ z).2.1 rfl) ho I.free
 · obtain ⟨v,o,ho,hd⟩:=I.cell x c e
   exact free c o (fun z=>(hch c z).2.2.1 x c e rfl) ho (I.freeC x c e)
 · obtain ⟨e,n,ne,nf,d⟩:=I.pin p hp
   have nch:p.1 ∉ ch:=fun z=>(hch p.1 z).2.2.2 p hp rfl
   exact ⟨keep p.1 p.2 ne nf nch e n,free p.1 p.2 nch e n,ne,nf,d⟩
/-- .. where the pz own object is kept too -/
theorem Inv.un {t':Nat}(I:Inv X pins σ H s)(u:Un X.fs [] H H' s.heap h')(hok:fk X.prog X.w H' h'):Inv X pins σ H' { s with heap:=h',toks:=t' }:=by
 obtain ⟨m,⟨o,es,ep,ho,r⟩,_⟩:=id I.loc
 obtain ⟨sl,hL⟩:=u.any ho I.free (by simp)
 exact I.step (g':=s.gens) (d':=s.drawn) (ch:=[]) (fun _ z=>nomatch z) (fun b o _ hb _ e n=>u.keep b o e n hb (by simp)) (fun b o _ hb _ e n=>u.slot b o e n hb (by simp)) (fun b o _ e n=>u.free b o e n (by simp)) (fun b o _ e=>u.there b o e (by simp)) u.tups u.frzs u.tbls (fun m' hm=>by
   obtain ⟨o',EX,EW,ho',r'⟩:=hm
   rw [ho] at ho'; cases ho'
   exact ⟨_,EX,EW,hL,r'⟩) hok I.bare
/-- behind a call (or a comprehension's block): the slots of this frame may have changed too,the records at ch may have turned -/
theorem Inv.call {g':Array GenState}{t':Nat}{d':Drawn}{ch:List Addr}(I:Inv X pins σ H s)(u:Un (sW X.stack) ch H H' s.heap h')(hok:fk X.prog X.w H' h')(hg:AllBare g')
   (hch:∀b∈ch,(b∈X.ex\/X.s₀.heap.objs.size<=b)/\b≠X.env.locals/\(∀x c,X.env.cells.lookup x=some c->c≠b)/\∀p∈X.pn++pins,p.1≠b) :
   Inv X pins σ H' { s with heap:=h',gens:=g',drawn:=d',toks:=t' }:=by
 obtain ⟨m,⟨o,es,ep,ho,r⟩,_⟩:=id I.loc
 obtain ⟨sl,hL⟩:=u.any ho I.free fun z=>(hch _ z).2.1 rfl
 exact I.step (ch:=ch) hch (fun b o hL hb hc e n=>u.keep b o e n (fun z=>(List.mem_cons.mp (I.stkSub b z)).elim hL hb) hc) (fun b o _ _ hc e n=>u.any e n hc) (fun b o hc e n=>u.free b o e n hc) (fun b o hc e=>u.there b o e hc) u.tups u.frzs u.tbls (fun m' hm=>by
   obtain ⟨o',EX,EW,ho',r'⟩:=hm
   rw [ho] at ho'; cases ho'
   exact ⟨_,EX,EW,hL,r'⟩) hok hg
/-- an rV record of ours (an iterator) has turned -/
theorem Inv.turned {t':Nat}{it:Addr}(I:Inv X pins σ H s)(k:∀b o,b≠it->s.heap.get? b=some o->h'.get? b=some o)(hn:H it=none)(hL:it≠X.env.locals)
   (h1:it∈X.ex\/X.s₀.heap.objs.size<=it) (h2:∀x c,X.env.cells.lookup x=some c->c≠it) (h3:∀p∈X.pn++pins,p.1≠it):Inv X pins σ H { s with heap:=h',toks:=t' }:=by
 have FQ:∀b u,H b=some u->b≠it:=fun b u e z=>by rw [z,hn] at e; cases e
 refine I.step (g':=s.gens) (d':=s.drawn) (ch:=[it]) (fun b hb=>?_) (fun b o _ _ hc e _=>k b o (fun z=>hc (by simp [z])) e) (fun b o _ _ hc e _=>⟨o.slots,k b o (fun z=>hc (by simp [z])) e⟩) (fun _ _ _ _ n=>n)
   (fun b o hc e=>⟨o,k b o (fun z=>hc (by simp [z])) e⟩) (fun _ _ e=>e) (fun _ _ _ e=>e) (fun b ps e=>⟨#[],by rw [e]; simp⟩) (fun m hm=>?_) (fun b u e=>?_) I.bare
 · have e:b=it:=by simpa using hb
   subst e
   exact ⟨h1,hL,h2,h3⟩
 · obtain ⟨o,es,ep,ho,r⟩:=hm
   exact ⟨o,es,ep,k _ o (Ne.symm hL) ho,r⟩
 · refine (I.hok b u e).stay (fun c v hc q=>k c v ?_ q) (fun _ q=>q) fun _ _ q=>q
   rcases hc with z | z
   · rw [z]; exact FQ b u e
   · exact FQ c _ z
theorem Inv.tok (I:Inv X pins σ H s)(t:Nat):Inv X pins σ H { s with toks:=t }:=I.un (h':=s.heap) (t':=t) Un.refl I.hok
/-- all objects kept -/
theorem Inv.kept {t':Nat}(I:Inv X pins σ H s)(k:∀b u,s.heap.get? b=some u->h'.get? b=some u):Inv X pins σ H { s with heap:=h',toks:=t' }:=I.un (Un.kept k) (I.hok.kept k)
/-- a new object laid and tracked -/
theorem Inv.laid {a:Addr}{o:HO}{t':Nat}(I:Inv X pins σ H s)(k:∀b u,s.heap.get? b=some u->h'.get? b=some u)(hp:s.heap.objs.size<=a)(new:a8 X.prog X.w (upd H a o) h' a o) :
   Inv X pins σ (upd H a o) { s with heap:=h',toks:=t' }:=I.un (Un.laid k hp (I.hok.fresh hp)) (I.hok.laid k hp new)
/-- an object written -/
theorem Inv.write {x e:Addr}{o:HO}{t':Nat}(I:Inv X pins σ H s)(mu:Ct (H x))(he:e=x\/H e=some (.own x))(k:∀b u,b≠e->s.heap.get? b=some u->h'.get? b=some u)(heo:∃u,h'.get? e=some u)
   (new:a8 X.prog X.w (upd H x o) h' x o):Inv X pins σ (upd H x o) { s with heap:=h',toks:=t' }:=I.un (Un.write mu he k heo) (I.hok.write mu he k heo new)
/-- zS slots,pins -/
theorem Inv.weak {σ':List (Option V)}(I:Inv X pins σ H s)(hl:σ'.length=σ.length)(w:∀(i:Nat) v,σ'[i]? = some (some v)->σ[i]? = some (some v)):Inv X pins σ' H s:=
 ⟨I.ok,I.os,I.bare,I.base,let ⟨m,hn,hl'⟩:=I.loc; ⟨m,hn,fun i x v e1 e2 e3=>hl' i x v e1 (w i v e2) e3⟩,I.cell,I.free,I.freeC,I.pin,I.hok,hl.trans I.len⟩
theorem Inv.pJ {zd:List (Addr×Obj)}(I:Inv X pins σ H s)(h:∀p∈zd,s.heap.get? p.1=some p.2/\H p.1=none/\p.1≠X.env.locals/\p.1 ∉ X.fs/\∀v,p.2.data≠.cell v):Inv X zd σ H s:=
 ⟨I.ok,I.os,I.bare,I.base,I.loc,I.cell,I.free,I.freeC,fun p hp=>(List.mem_append.mp hp).elim (fun z=>I.pin p (IY _ z)) (h p),I.hok,I.len⟩

theorem m6 {N:List Str}(hN:N.Nodup){i j:Nat}{x:Str}(a:N[i]? = some x)(b:N[j]? = some x):i=j:=by
 obtain ⟨h1,e1⟩:=List.getElem?_eq_some_iff.mp a
 obtain ⟨h2,e2⟩:=List.getElem?_eq_some_iff.mp b
 exact (List.getElem_inj hN).mp (e1.trans e2.symm)

/-- a name is stored; what changed -/
theorem kZ {M:Model}{A:Around}{E:Value->Shared->Prop}{i:Nat}{x:Str}{v:V}{u:Value}{Q:Unit->Shared->Prop}(I:Inv X pins σ H s)(hN:X.N.Nodup)(hi:X.N[i]? = some x)(hx:Loc X.env.scope x)(r:RelV v u)
   (h:∀s',Inv X pins (σ.set i (some v)) H s'->(∃a,Iw a s.heap s'.heap/\(a=X.env.locals\/X.env.cells.lookup x=some a))->Q () s') (hf:X.fn x=true\/X.env.scope.names.lookup x=some .local:=by first | exact .inl rfl | exact .inr rfl | assumption):wpAny M A (storeName X.env x u) Q E s:=by
 obtain ⟨m,hn,hl⟩:=id I.loc
 have EY:(X.env.scope.kind == .class || (X.env.scope.kind == .module && X.env.locals != X.env.globals))=false:=by rw [I.ok.kind]; rfl
 have hiσ:i < σ.length:=by rw [I.len]; exact (List.getElem?_eq_some_iff.mp hi).1
 have zQ:=I.zQ
 have tracked:∀{a:Addr} {h':Heap},(∃o,s.heap.get? a=some o/\H a=none)->Iw a s.heap h'->fk X.prog X.w H h':=fun {a h'} ha hs b ob e=>by
   obtain ⟨_,_,yW⟩:=ha
   refine (I.hok b ob e).stay (fun c w' hc q=>(hs.2 c ?_).trans q) (fun _ q=>q) fun _ _ q=>q
   rintro rfl
   rcases hc with rfl | hc
   · rw [yW] at e; cases e
   · rw [yW] at hc; cases hc
 rcases hx with hk | hk
 · refine wpAny_storeName_local hk hn (fun h' Gk hs=>?_) EY
   obtain ⟨oL,_,_,Gp,_⟩:=id hn
   refine h _ ⟨I.ok,I.os,I.bare,⟨fun b o e n hb hx=>?_,fun b o e n hb hx=>?_,I.base.free,fun b o e hx=>?_,I.base.tups,I.base.frzs,I.base.tbls⟩,⟨_,Gk,fun j y v' e1 e2 e3=>?_⟩,fun y c e=>?_,I.free,I.freeC,fun p hp=>?_,tracked ⟨oL,Gp,I.free⟩ hs,by simpa using I.len⟩ ⟨_,hs,.inl rfl⟩
   · exact (hs.2 b (HE (Hn (G6 e) I.ok.above))).trans (I.base.keep b o e n hb hx)
   · obtain ⟨sl,e1⟩:=I.base.slot b o e n hb hx
     exact ⟨sl,(hs.2 b (HE (Hn (G6 e) I.ok.above))).trans e1⟩
   · obtain ⟨o',e1⟩:=I.base.there b o e hx
     exact ⟨o',(hs.2 b (HE (Hn (G6 e) I.ok.above))).trans e1⟩
   · by_cases hj:j=i
     · subst hj
       rw [hi] at e1; cases e1
       rw [KG hiσ] at e2
       cases e2
       exact ⟨u,r,.inl ⟨hk,by simp⟩⟩
     · rw [KY (Ne.symm hj)] at e2
       obtain ⟨u',r',q⟩:=hl j y v' e1 e2 e3
       refine ⟨u',r',?_⟩
       rcases q with ⟨k,e⟩ | ⟨k,c,e,z⟩
       · refine .inl ⟨k,?_⟩
         have:y≠x:=fun e=>hj (m6 hN e1 (e ▸ hi))
         simp [this,e]
       · exact .inr ⟨k,c,e,z.sameBut hs (zQ y c e)⟩
   · obtain ⟨w',z⟩:=I.cell y c e
     exact ⟨w',z.sameBut hs (zQ y c e)⟩
   · obtain ⟨e,n,ne,nf,d⟩:=I.pin p hp
     exact ⟨(hs.2 p.1 ne).trans e,n,ne,nf,d⟩
 · have hfn:X.fn x=true:=by
     rcases hf with z | z
     · exact z
     · rw [z] at hk; cases hk
   obtain ⟨c,hc⟩:=I.ok.has x (.inl hk)
   obtain ⟨w',z⟩:=I.cell x c hc
   refine wpAny_storeName_cell I.ok.kind hk hc z (fun h' hc' hs=>?_)
   obtain ⟨oc,hoc,E5⟩:=id z
   refine h { s with heap:=h' } ⟨I.ok,I.os,I.bare,⟨fun b o e n hb hx=>?_,fun b o e n hb hx=>?_,I.base.free,fun b o e hx=>?_,I.base.tups,I.base.frzs,I.base.tbls⟩,⟨m,hn.sameBut hs (Ne.symm (zQ x c hc)),fun j y v' e1 e2 e3=>?_⟩,fun y c' e=>?_,I.free,I.freeC,fun p hp=>?_,tracked ⟨oc,hoc,I.freeC x c hc⟩ hs,by simpa using I.len⟩ ⟨c,hs,.inr hc⟩
   · exact (hs.2 b (HE (Hn (G6 e) (I.ok.cab x c hfn hc)))).trans (I.base.keep b o e n hb hx)
   · obtain ⟨sl,e1⟩:=I.base.slot b o e n hb hx
     exact ⟨sl,(hs.2 b (HE (Hn (G6 e) (I.ok.cab x c hfn hc)))).trans e1⟩
   · obtain ⟨o',e1⟩:=I.base.there b o e hx
     exact ⟨o',(hs.2 b (HE (Hn (G6 e) (I.ok.cab x c hfn hc)))).trans e1⟩
   · by_cases hj:j=i
     · subst hj
       rw [hi] at e1; cases e1
       rw [KG hiσ] at e2
       cases e2
       exact ⟨u,r,.inr ⟨.inl hk,c,hc,hc'⟩⟩
     · rw [KY (Ne.symm hj)] at e2
       obtain ⟨u',r',q⟩:=hl j y v' e1 e2 e3
       refine ⟨u',r',?_⟩
       rcases q with q | ⟨k,c',e,z'⟩
       · exact .inl q
       · refine .inr ⟨k,c',e,z'.sameBut hs ?_⟩
         rintro rfl
         exact hj (m6 hN e1 (I.ok.inj _ _ _ e hc ▸ hi))
   · by_cases FI:c'=c
     · subst FI; exact ⟨_,hc'⟩
     · obtain ⟨w2,z2⟩:=I.cell y c' e
       exact ⟨w2,z2.sameBut hs FI⟩
   · obtain ⟨e,n,ne,nf,d⟩:=I.pin p hp
     refine ⟨(hs.2 p.1 ?_).trans e,n,ne,nf,d⟩
     intro q
     rw [q,hoc] at e
     have q':oc=p.2:=HA e
     exact d w' (by rw [← q']; exact E5)
theorem nq {M:Model}{A:Around}{E:Value->Shared->Prop}{i:Nat}{x:Str}{v:V}{u:Value}{Q:Unit->Shared->Prop}(I:Inv X pins σ H s)(hN:X.N.Nodup)(hi:X.N[i]? = some x)(hx:Loc X.env.scope x)(r:RelV v u)
   (h:∀s',Inv X pins (σ.set i (some v)) H s'->Q () s') (hf:X.fn x=true\/X.env.scope.names.lookup x=some .local:=by first | exact .inl rfl | exact .inr rfl | assumption):wpAny M A (storeName X.env x u) Q E s:=
 kZ I hN hi hx r (fun s' I' _=>h s' I') hf
/-- behind a call or a block,the state as it is -/
theorem Inv.call' {s':Shared}{ch:List Addr}(I:Inv X pins σ H s)(ho:s'.os=s.os)(u:Un (sW X.stack) ch H H' s.heap s'.heap)(hok:fk X.prog X.w H' s'.heap)(hg:AllBare s'.gens)
   (hch:∀b∈ch,(b∈X.ex\/X.s₀.heap.objs.size<=b)/\b≠X.env.locals/\(∀x c,X.env.cells.lookup x=some c->c≠b)/\∀p∈X.pn++pins,p.1≠b):Inv X pins σ H' s':=by
 obtain ⟨h',g',d',t',o'⟩:=s'
 have e:o'=s.os:=ho
 subst e
 exact I.call (g':=g') (t':=t') (d':=d') u hok hg hch
end

/-! ### the Ah -/
/-- an exception: its class,its own dict's address (where it has one),the abstract heap behind it -/
abbrev XK:=Value->Option Addr->Hp->Prop
abbrev St:=List (Option V)
abbrev VK:=V->Hp->Prop
/-- an wI reading; a Fp; an argument Ap -/
abbrev TE:=St->Hp->VK->Prop
abbrev TT:=St->Hp->(Bool->Hp->Prop)->Prop
abbrev TA:=St->Hp->(List V->Hp->Prop)->Prop
/-- what is wanted behind a Co -/
structure Ends where
 nx:St->Hp->Prop
 rt:VK
 bk:St->Hp->Prop:=fun _ _=>False
 ct:St->Hp->Prop:=fun _ _=>False
abbrev TS:=Ends->St->Hp->Prop

def EP (X:Cx)(pins:List (Addr×Obj))(σ:St)(Q:VK)(u:Value)(s':Shared):Prop:=∃v H',Inv X pins σ H' s'/\RelV v u/\Q v H'
def TP (X:Cx)(pins:List (Addr×Obj))(σ:St)(Q:Bool->Hp->Prop)(b:Bool)(s':Shared):Prop:=∃H',Inv X pins σ H' s'/\Q b H'
def AP (X:Cx)(pins:List (Addr×Obj))(σ:St)(Q:List V->Hp->Prop)(us:List Value)(s':Shared):Prop:=∃vs H',Inv X pins σ H' s'/\Vals vs us/\Q vs H'
def SP (X:Cx)(pins:List (Addr×Obj))(D:Ends)(f:Flow)(s':Shared):Prop:=
 match f with
 | .next=>∃σ' H',Inv X pins σ' H' s'/\D.nx σ' H'
 | .brk=>∃σ' H',Inv X pins σ' H' s'/\D.bk σ' H'
 | .cont=>∃σ' H',Inv X pins σ' H' s'/\D.ct σ' H'
 | .ret u=>∃v σ' H',Inv X pins σ' H' s'/\RelV v u/\D.rt v H'

def PE (X:Cx)(e:Expr)(t:TE):Prop:=
 ∀(pins:List (Addr×Obj)) (s:Shared) (σ:St) (H:Hp) (Q:VK),Inv X pins σ H s->t σ H Q->wpAny (model X.prog X.w) X.A (eval e X.env) (EP X pins σ Q) X.xe s
def PT (X:Cx)(e:Expr)(t:TT):Prop:=
 ∀(pins:List (Addr×Obj)) (s:Shared) (σ:St) (H:Hp) (Q:Bool->Hp->Prop),Inv X pins σ H s->t σ H Q->wpAny (model X.prog X.w) X.A (isTrue e X.env (eval e X.env)) (TP X pins σ Q) X.xe s
/-- a test Eh its 'Ft is (and,or) -/
def PW (X:Cx)(e:Expr)(t:TT):Prop:=
 ∀(whole:Sem Value) (pins:List (Addr×Obj)) (s:Shared) (σ:St) (H:Hp) (Q:Bool->Hp->Prop),Inv X pins σ H s->t σ H Q->wpAny (model X.prog X.w) X.A (isTrue e X.env whole) (TP X pins σ Q) X.xe s
theorem PW.pt {X:Cx}{e:Expr}{t:TT}(h:PW X e t):PT X e t:=h _
/-- an argument list (no star),from the left -/
def PA (X:Cx)(es:List Expr)(t:TA):Prop:=
 ∀(pos:Pos) (pins:List (Addr×Obj)) (s:Shared) (σ:St) (H:Hp) (Q:List V->Hp->Prop),Inv X pins σ H s->t σ H Q->wpAny (model X.prog X.w) X.A (spliced (backTo pos (starEach es X.env))) (AP X pins σ Q) X.xe s
def PS (X:Cx)(st:Stmt)(t:TS):Prop:=
 ∀(pins:List (Addr×Obj)) (s:Shared) (σ:St) (H:Hp) (D:Ends),Inv X pins σ H s->t D σ H->wpAny (model X.prog X.w) X.A (exec st X.env) (SP X pins D) X.xe s
def mz (X:Cx)(st:List Stmt)(t:TS):Prop:=
 ∀(pins:List (Addr×Obj)) (s:Shared) (σ:St) (H:Hp) (D:Ends),Inv X pins σ H s->t D σ H->wpAny (model X.prog X.w) X.A (execs st X.env) (SP X pins D) X.xe s
/-- weaken the end -/
theorem bb {α:Type}{t:Sem α}{Q Q':α->Shared->Prop}{M:Model}{A:Around}{E:Value->Shared->Prop}{s:Shared}(h:wpAny M A t Q E s)(hQ:∀a s,Q a s->Q' a s):wpAny M A t Q' E s:=wpAny_mono h hQ fun _ _ x=>x
end L2

namespace L2
open PySem PySem.Spec PyProof.Rows
section
variable {X:Cx}

/-! ### names and constants -/
def yL (i:Nat):TE:=fun σ H Q=>∃v,σ[i]? = some (some v)/\Q v H
def tC (v:V):TE:=fun _ H Q=>Q v H
theorem Be {i:Nat}{x:Str}{pos:Pos}(hN:X.N[i]? = some x)(hv:EI X.env.scope x)(hd:(x == ("__debug__":Str))=false:=by decide)(hcd:(x == ("__classdict__":Str))=false:=by decide):PE X (.Name x pos) (yL i):=by
 intro pins s σ H Q I h
 obtain ⟨v,e,h⟩:=h
 obtain ⟨m,hn,hl⟩:=I.loc
 obtain ⟨u,r,l⟩:=hl i x v hN e hv
 have fin:EP X pins σ Q u s:=⟨v,H,I,r,h⟩
 rcases l with ⟨hk,hm⟩ | ⟨hk,c,hc,hcell⟩
 · exact wpAny_Name (wpAny_loadName_local I.ok.kind hk hn hm fin) hd
 · rcases hk with hk | hk
   · exact wpAny_Name (wpAny_loadName_cell I.ok.kind hk hc hcell fin) hd
   · exact wpAny_Name (wpAny_loadName_free I.ok.kind hk hc hcell fin hcd) hd
theorem A6 {i j pos}:PE X (.Constant (.int i) j pos) (tC (.int i)):=fun _ _ _ H _ I h=>wpAny_Constant_int ⟨.int i,H,I.tok _,⟨_,rfl⟩,h⟩
theorem Dq {b j pos}:PE X (.Constant (.bool b) j pos) (tC (.bl b)):=fun _ _ _ H _ I h=>Constant_bool ⟨.bl b,H,I,rfl,h⟩
theorem Ba {j pos}:PE X (.Constant .none j pos) (tC .bq):=fun _ _ _ H _ I h=>Constant_none ⟨.bq,H,I,rfl,h⟩
theorem vc {x j pos}:PE X (.Constant (.str x) j pos) (tC (.str x)):=fun _ _ _ H _ I h=>Calls.Constant_str ⟨.str x,H,I.tok _,⟨_,rfl⟩,h⟩

/-- a global name of the def -/
def Gl (X:Cx)(x:Str):Prop:=X.env.kindOf x=some .globalImplicit
theorem lN {E:Value->Shared->Prop}{pins:List (Addr×Obj)}{s:Shared}{σ:St}{H:Hp}{x:Str}{u:Value}{pos:Pos}{Q:Value->Shared->Prop}(I:Inv X pins σ H s)(hg:Gl X x)(hm:X.mg x=some u)(h:Q u s)
   (hd:(x == ("__debug__":Str))=false:=by decide):wpAny (model X.prog X.w) X.A (eval (.Name x pos) X.env) Q E s:=
 J9 I.ok.kind hg (Calls.loadGlobal_global (by rw [I.ok.glob]; exact I.mod.glob.keeps I.bk) hm h) hd
theorem dY {E:Value->Shared->Prop}{pins:List (Addr×Obj)}{s:Shared}{σ:St}{H:Hp}{x:Str}{u:Value}{pos:Pos}{Q:Value->Shared->Prop}(I:Inv X pins σ H s)(hg:Gl X x)(hm:X.mg x=none)(hv:bootBuiltins x=some u)(h:Q u s)
   (hn:x≠"__name__":=by decide) (hd:(x == ("__debug__":Str))=false:=by decide):wpAny (model X.prog X.w) X.A (eval (.Name x pos) X.env) Q E s:=by
 obtain ⟨mb,h1,h2⟩:=I.mod.blt
 exact J9 I.ok.kind hg (Calls.loadGlobal_builtin (by rw [I.ok.glob]; exact I.mod.glob.keeps I.bk) hm (by rw [I.ok.blt]; exact h1.keeps I.bk) ((h2 x hn).trans hv) h) hd
/-- a jz constant,a class,a function,as a value -/
theorem xY {x:Str}{v:V}{u:Value}{pos:Pos}(hg:Gl X x)(hm:X.mg x=some u)(r:RelV v u)(hd:(x == ("__debug__":Str))=false:=by decide):PE X (.Name x pos) (tC v):=
 fun _ _ _ H _ I h=>lN I hg hm ⟨v,H,I,r,h⟩ hd
theorem xS {x:Str}{v:V}{u:Value}{pos:Pos}(hg:Gl X x)(hm:X.mg x=none)(hv:bootBuiltins x=some u)(r:RelV v u)(hn:x≠"__name__":=by decide)(hd:(x == ("__debug__":Str))=false:=by decide):PE X (.Name x pos) (tC v):=
 fun _ _ _ H _ I h=>dY I hg hm hv ⟨v,H,I,r,h⟩ hn hd

/-! ### zJ -/
variable {a b:Expr}{ta tb:TE}{pos:Pos}
/-! ### mJ -/
def PC (X:Cx)(op:CmpOp)(a b:Expr)(t:TE):Prop:=
 ∀(pins:List (Addr×Obj)) (s:Shared) (σ:St) (H:Hp) (Q:VK),Inv X pins σ H s->t σ H Q ->
   wpAny (model X.prog X.w) X.A (eval a X.env) (fun v s₁=>wpAny (model X.prog X.w) X.A (eval b X.env) (fun u s₂=>wpAny (model X.prog X.w) X.A (compareOp op v u) (EP X pins σ Q) X.xe s₂) X.xe s₁) X.xe s
/-- a nP as a value,as a test -/
def tB (t:TE):TT:=fun σ H Q=>t σ H fun x H1=>∃c,x=.bl c/\Q c H1
theorem A4 {op:CmpOp}{t:TE}(h:PC X op a b t)(h1:behindInMarks op b=false:=by first | exact nobehind _ (by decide) (by decide) | rfl):PE X (.Compare a [op] [b] pos) t:=fun pins s σ H Q I hw=>wpAny_Compare1 (h pins s σ H Q I hw) h1
/-- an expression whose value is a bool,as a test -/
theorem Bx {e:Expr}{t:TE}(h:PE X e t)(he:∀whole,isTrue e X.env whole=(do let v ← whole; standAt e.pos; holding [v] (truthy v)):=by intro _; rfl):PT X e (tB t):=by
 intro pins s σ H Q I hw
 refine isTrue_plain (bb (h pins s σ H _ I hw) fun v s1 ⟨x,H1,I1,r1,q1⟩=>?_) (he _)
 obtain ⟨d,rfl,q⟩:=q1
 cases r1
 exact wpAny_truthy_bool ⟨H1,I1,q⟩

/-! ### and,or,not -/
variable {tA Ex:TT}{rest:List Expr}
def D3 (t u:TT):TT:=fun σ H Q=>t σ H fun c H1=>if c=true then u σ H1 Q else Q false H1
def F0 (t u:TT):TT:=fun σ H Q=>t σ H fun c H1=>if c=true then Q true H1 else u σ H1 Q
def Ed (t:TT):TT:=fun σ H Q=>t σ H fun c H1=>Q (!c) H1
theorem yl (ha:PT X a tA):PW X (.BoolOp .And [a] pos) tA:=by
 intro wh pins s σ H Q I h
 refine isTrue_and (bb (ha pins s σ H Q I h) fun c s1 e=>?_)
 cases c with
 | true=>exact isTrue_and_nil e
 | false=>exact e
theorem Bz (ha:PT X a tA):PW X (.BoolOp .Or [a] pos) tA:=by
 intro wh pins s σ H Q I h
 refine isTrue_or (bb (ha pins s σ H Q I h) fun c s1 e=>?_)
 cases c with
 | false=>exact isTrue_or_nil e
 | true=>exact e
theorem By (ha:PT X a tA)(hb:PW X (.BoolOp .And (b :: rest) pos) Ex):PW X (.BoolOp .And (a :: b :: rest) pos) (D3 tA Ex):=by
 intro wh pins s σ H Q I h
 refine isTrue_and (bb (ha pins s σ H _ I h) fun c s1 ⟨H1,I1,q1⟩=>?_)
 cases c with
 | true=>exact hb wh pins s1 σ H1 Q I1 q1
 | false=>exact ⟨H1,I1,q1⟩
theorem DE (ha:PT X a tA)(hb:PW X (.BoolOp .Or (b :: rest) pos) Ex):PW X (.BoolOp .Or (a :: b :: rest) pos) (F0 tA Ex):=by
 intro wh pins s σ H Q I h
 refine isTrue_or (bb (ha pins s σ H _ I h) fun c s1 ⟨H1,I1,q1⟩=>?_)
 cases c with
 | true=>exact ⟨H1,I1,q1⟩
 | false=>exact hb wh pins s1 σ H1 Q I1 q1
theorem Bw (ha:PT X a tA):PT X (.UnaryOp .Not a pos) (Ed tA):=by
 intro pins s σ H Q I h
 exact isTrue_not (ha pins s σ H (fun c H1=>Q (!c) H1) I h)
/-- .. as values (bools) -/
def zl (ta tb:TE):TE:=fun σ H Q=>ta σ H fun x H1=>∃c,x=.bl c/\if c=true then tb σ H1 Q else Q (.bl false) H1
def zv (ta:TE):TE:=fun σ H Q=>ta σ H fun x H1=>∃c,x=.bl c/\Q (.bl (!c)) H1
theorem Bc {op}{t:TE}(h:PE X a t):PE X (.BoolOp op [a] pos) t:=fun pins s σ H Q I hw=>BoolOp_one (h pins s σ H Q I hw)
theorem A2 (ha:PE X a ta)(hb:PE X (.BoolOp .And (b :: rest) pos) tb):PE X (.BoolOp .And (a :: b :: rest) pos) (zl ta tb):=by
 intro pins s σ H Q I h
 refine BoolOp_and (bb (ha pins s σ H _ I h) fun v s1 ⟨x,H1,I1,r1,q1⟩=>?_)
 obtain ⟨c,rfl,q1⟩:=q1
 cases r1
 refine wpAny_truthy_bool ?_
 cases c with
 | true=>exact hb pins s1 σ H1 Q I1 q1
 | false=>exact ⟨.bl false,H1,I1,rfl,q1⟩
theorem Bb (ha:PE X a ta):PE X (.UnaryOp .Not a pos) (zv ta):=by
 intro pins s σ H Q I h
 refine UnaryOp_ (bb (ha pins s σ H _ I h) fun v s1 ⟨x,H1,I1,r1,q1⟩=>?_)
 obtain ⟨c,rfl,q1⟩:=q1
 cases r1
 exact not_of (wpAny_truthy_bool ⟨.bl (!c),H1,I1,rfl,q1⟩)
/-- a if t else b -/
def FY (t:TT)(ta tb:TE):TE:=fun σ H Q=>t σ H fun c H1=>if c=true then ta σ H1 Q else tb σ H1 Q
theorem u7 {c:Expr}(hc:PT X c tA)(ha:PE X a ta)(hb:PE X b tb):PE X (.IfExp c a b pos) (FY tA ta tb):=by
 intro pins s σ H Q I h
 refine wpAny_IfExp (bb (hc pins s σ H _ I h) fun d s1 ⟨H1,I1,q1⟩=>?_)
 cases d with
 | true=>exact ha pins s1 σ H1 Q I1 q1
 | false=>exact hb pins s1 σ H1 Q I1 q1
end
end L2

namespace L2
open PySem PySem.Spec PyProof.Rows

/-! ### a list,a tuple that is read: tracked,frozen,or an object of the module -/
def aw (K:GP)(H:Hp)(a:Addr)(xs:List V):Prop:=
 Rd H a (.lst xs) \/
   ∃(o:Obj) (its:Array Value) (n:Nat),K.lookup a=some o/\o.cls=.type "list"/\o.dict=none/\o.data=.seq its n/\its.size<=sizeLine/\Vals xs its.toList
def aC (K:GP)(H:Hp)(a:Addr)(xs:List V):Prop:=
 Rd H a (.tup xs) \/
   ∃(o:Obj) (its:Array Value) (n:Nat),K.lookup a=some o/\o.cls=.type "tuple"/\o.data=.seq its n/\its.size<=sizeLine/\Vals xs its.toList
def EJ:Value->Option V
 | .none=>some .bq
 | .bool b=>some (.bl b)
 | .int i _=>some (.int i)
 | .str x _=>some (.str x)
 | .bytes b _=>some (.byt b)
 | .float b _=>some (.flt b)
 | .ref a=>some (.ref a)
 | .type n=>some (.ty n)
 | _=>none
theorem RelV.abs {x:V}{u:Value}(r:RelV x u):EJ u=some x:=by
 cases x with
 | bq=>cases r; rfl
 | bl _=>cases r; rfl
 | int _=>obtain ⟨t,rfl⟩:=r; rfl
 | str _=>obtain ⟨t,rfl⟩:=r; rfl
 | byt _=>obtain ⟨t,rfl⟩:=r; rfl
 | flt _=>obtain ⟨t,rfl⟩:=r; rfl
 | ref _=>cases r; rfl
 | ty _=>cases r; rfl
theorem RelV.inj {x y:V}{u:Value}(r:RelV x u)(q:RelV y u):x=y:=HA (r.abs.symm.trans q.abs)
theorem Vals.inj:∀{xs ys:List V} {us:List Value},Vals xs us->Vals ys us->xs=ys
 | _,_,_,.nil,.nil=>rfl
 | _,_,_,.cons r t,.cons r' t'=>by rw [r.inj r',Vals.inj t t']
section
variable {X:Cx}{pins:List (Addr×Obj)}{σ:St}{H:Hp}{s:Shared}{a:Addr}{xs ys:List V}
theorem aw.of {K:GP}(h:H a=some (.lst xs)):aw K H a xs:=.inl (.inl h)
theorem aC.of {K:GP}(h:H a=some (.tup xs)):aC K H a xs:=.inl (.inl h)
theorem Inv.list (I:Inv X pins σ H s)(h:aw X.K H a xs):∃its:List Value,Vals xs its/\PlainL s.heap a its.toArray/\xs.length<=sizeLine:=by
 rcases h with h | ⟨o,its,n,hk,hc,hd,hs,hz,r⟩
 · obtain ⟨z,its,n,r,e⟩:=h.ok I.hok
   exact ⟨its,r,⟨_,n,e,rfl,rfl,rfl⟩,z⟩
 · refine ⟨its.toList,r,⟨o,n,I.kIn a o hk,hc,hd,by simpa using hs⟩,?_⟩
   have e:=r.length
   simp only [JK] at e
   omega
theorem Inv.tuple (I:Inv X pins σ H s)(h:aC X.K H a xs):∃its:List Value,Vals xs its/\IsTup s.heap a its.toArray/\xs.length<=sizeLine:=by
 rcases h with h | ⟨o,its,n,hk,hc,hs,hz,r⟩
 · obtain ⟨z,its,r,p⟩:=h.ok I.hok
   exact ⟨its,r,p,z⟩
 · refine ⟨its.toList,r,⟨o,I.kIn a o hk,hc,n,by simpa using hs⟩,?_⟩
   have e:=r.length
   simp only [JK] at e
   omega
theorem Inv.list_inj (I:Inv X pins σ H s)(h:aw X.K H a xs)(h':aw X.K H a ys):xs=ys:=by
 obtain ⟨its,r,⟨o,n,e,_,_,d⟩,_⟩:=I.list h
 obtain ⟨its',r',⟨o',n',e',_,_,d'⟩,_⟩:=I.list h'
 rw [e] at e'; cases e'
 rw [d] at d'
 injection d' with d1 _
 have:its=its':=by simpa using congrArg Array.toList d1
 subst this
 exact r.inj r'
theorem Inv.tuple_inj (I:Inv X pins σ H s)(h:aC X.K H a xs)(h':aC X.K H a ys):xs=ys:=by
 obtain ⟨its,r,⟨o,e,_,n,d⟩,_⟩:=I.tuple h
 obtain ⟨its',r',⟨o',e',_,n',d'⟩,_⟩:=I.tuple h'
 rw [e] at e'; cases e'
 rw [d] at d'
 injection d' with d1 _
 have:its=its':=by simpa using congrArg Array.toList d1
 subst this
 exact r.inj r'
end

/-! ### another iC about exceptions -/
abbrev Cx.iC (X:Cx)(E:Value->Shared->Prop):Cx:={ X with xe:=E }
/-- no exception leaves -/
abbrev Cx.nox (X:Cx):Cx:=X.iC fun _ _=>False
theorem Cx.Ok.iC {X:Cx}(ok:X.Ok)(E:Value->Shared->Prop):(X.iC E).Ok:=
 ⟨ok.mod,ok.kind,ok.glob,ok.blt,ok.above,ok.inj,ok.has,ok.cab,ok.hd,ok.frames,ok.stk,ok.exf,ok.bs,ok.bsz,ok.noex,ok.exfs,ok.ij,ok.frf⟩
theorem Cx.Ok.ei {X:Cx}{E:Value->Shared->Prop}(ok:(X.iC E).Ok):X.Ok:=
 ⟨ok.mod,ok.kind,ok.glob,ok.blt,ok.above,ok.inj,ok.has,ok.cab,ok.hd,ok.frames,ok.stk,ok.exf,ok.bs,ok.bsz,ok.noex,ok.exfs,ok.ij,ok.frf⟩
section
variable {X:Cx}{pins:List (Addr×Obj)}{σ:St}{H:Hp}{s:Shared}{E:Value->Shared->Prop}
theorem Inv.iC (I:Inv X pins σ H s)(E:Value->Shared->Prop):Inv (X.iC E) pins σ H s:=⟨I.ok.iC E,I.os,I.bare,I.base,I.loc,I.cell,I.free,I.freeC,I.pin,I.hok,I.len⟩
theorem Inv.ei (I:Inv (X.iC E) pins σ H s):Inv X pins σ H s:=⟨I.ok.ei,I.os,I.bare,I.base,I.loc,I.cell,I.free,I.freeC,I.pin,I.hok,I.len⟩
theorem SP.ei {D:Ends}{f:Flow}{s':Shared}(h:SP (X.iC E) pins D f s'):SP X pins D f s':=by
 cases f with
 | next=>obtain ⟨σ',H',I,q⟩:=h; exact ⟨σ',H',I.ei,q⟩
 | brk=>obtain ⟨σ',H',I,q⟩:=h; exact ⟨σ',H',I.ei,q⟩
 | cont=>obtain ⟨σ',H',I,q⟩:=h; exact ⟨σ',H',I.ei,q⟩
 | ret u=>obtain ⟨v,σ',H',I,r,q⟩:=h; exact ⟨v,σ',H',I.ei,r,q⟩
theorem mz.nox {st:List Stmt}{t:TS}(h:mz X.nox st t):mz X st t:=fun pins s σ H D I hw=>
 wpAny_mono (h pins s σ H D (I.iC _) hw) (fun _ _ q=>q.ei) fun _ _ z=>Ij z
end

/-! ### blocks and small statements -/
section
variable {X:Cx}{st:Stmt}{rest:List Stmt}{t u:TS}{e:Expr}{te:TE}{pos:Pos}
def zu:TS:=fun D σ H=>D.nx σ H
def g6 (t u:TS):TS:=fun D σ H=>t { D with nx:=u D } σ H
theorem yi:mz X [] zu:=fun _ _ σ H _ I h=>JO ⟨σ,H,I,h⟩
theorem vp (h1:PS X st t)(h2:mz X rest u):mz X (st :: rest) (g6 t u):=by
 intro pins s σ H D I h
 refine wpAny_execs_cons (bb (h1 pins s σ H { D with nx:=u D } I h) fun f s1 q=>?_)
 cases f with
 | next=>
   obtain ⟨σ',H',I',q⟩:=q
   exact h2 pins s1 σ' H' D I' q
 | ret v=>exact q
 | brk=>exact q
 | cont=>exact q
theorem yj (h1:PS X st t):mz X [st] t:=by
 intro pins s σ H D I h
 refine wpAny_execs_cons (bb (h1 pins s σ H D I h) fun f s1 q=>?_)
 cases f with
 | next=>exact JO q
 | ret v=>exact q
 | brk=>exact q
 | cont=>exact q
/-- in a def's body nothing is shown -/
theorem Inv.quiet {pins:List (Addr×Obj)}{σ:St}{H:Hp}{s:Shared}(I:Inv X pins σ H s):interactive X.env=false:=by simp [interactive,I.ok.kind]
/-- an expression whose value is dropped -/
def zp (te:TE):TS:=fun D σ H=>te σ H fun _ H1=>D.nx σ H1
theorem yh (he:PE X e te)(hs:swapsWith e none pos.line X.env=pure false:=by rfl):PS X (.Expr e pos) (zp te):=by
 intro pins s σ H D I h
 exact wpAny_Expr_any (bb (he pins s σ H _ I h) fun v s1 ⟨x,H1,I1,r1,q1⟩=>⟨σ,H1,I1,q1⟩) I.quiet hs
def Ee (te:TE):TS:=fun D σ H=>te σ H D.rt
theorem Bu (he:PE X e te):PS X (.Return (some e) pos) (Ee te):=by
 intro pins s σ H D I h
 exact wpAny_Return_some (bb (he pins s σ H _ I h) fun v s1 ⟨x,H1,I1,r1,q1⟩=>⟨x,σ,H1,I1,r1,q1⟩)
def Ea (c:TT)(t u:TS):TS:=fun D σ H=>c σ H fun b H1=>if b=true then t D σ H1 else u D σ H1
theorem DC {c:Expr}{a b:List Stmt}{tc:TT}(hc:PT X c tc)(ha:mz X a t)(hb:mz X b u):PS X (.If c a b pos) (Ea tc t u):=by
 intro pins s σ H D I h
 refine wpAny_If (bb (hc pins s σ H _ I h) fun d s1 ⟨H1,I1,q1⟩=>?_)
 cases d with
 | true=>exact ha pins s1 σ H1 D I1 q1
 | false=>exact hb pins s1 σ H1 D I1 q1
/-- code that the proof never comes to -/
def vU:TS:=fun _ _ _=>False
theorem rK {GB:List Stmt}:mz X GB vU:=fun _ _ _ _ _ _ h=>h.elim
end

/-! ### targets -/
abbrev TG:=V->St->Hp->(St->Hp->Prop)->Prop
abbrev TGs:=List V->St->Hp->(St->Hp->Prop)->Prop
def PG (X:Cx)(target:Expr)(t:TG):Prop:=
 ∀(pins:List (Addr×Obj)) (s:Shared) (σ:St) (H:Hp) (v:V) (u:Value) (Q:St->Hp->Prop),Inv X pins σ H s->RelV v u->t v σ H Q ->
   wpAny (model X.prog X.w) X.A (assign target X.env u) (fun _ s'=>∃σ' H',Inv X pins σ' H' s'/\Q σ' H') X.xe s
/-- Ew targets,one after another -/
def Cb (X:Cx)(ts:List Expr)(t:TGs):Prop:=
 ∀(pins:List (Addr×Obj)) (s:Shared) (σ:St) (H:Hp) (vs:List V) (us:List Value) (Q:St->Hp->Prop),Inv X pins σ H s->Vals vs us->t vs σ H Q ->
   wpAny (model X.prog X.w) X.A (assignInOrder ((assignEach ts X.env).map (·.2)) us) (fun _ s'=>∃σ' H',Inv X pins σ' H' s'/\Q σ' H') X.xe s
/-- o[i]=v,by values -/
abbrev zE:=V->V->V->Hp->(Hp->Prop)->Prop
def Cv (X:Cx)(t:zE):Prop:=
 ∀(pins:List (Addr×Obj)) (s:Shared) (σ:St) (H:Hp) (o i v:V) (ov iv u:Value) (Q:Hp->Prop),Inv X pins σ H s->RelV o ov->RelV i iv->RelV v u->t o i v H Q ->
   wpAny (model X.prog X.w) X.A (setItem ov iv u) (fun _ s'=>∃H',Inv X pins σ H' s'/\Q H') X.xe s
section
variable {X:Cx}{pos:Pos}
def eR (i:Nat):TG:=fun v σ H Q=>Q (σ.set i (some v)) H
theorem x6 {i:Nat}{x:Str}(hN:X.N.Nodup)(hi:X.N[i]? = some x)(hx:Loc X.env.scope x)(hf:X.fn x=true\/X.env.scope.names.lookup x=some .local:=by first | exact .inl rfl | exact .inr rfl | assumption):PG X (.Name x pos) (eR i):=by
 intro pins s σ H v u Q I r h
 exact wpAny_assign_Name (nq I hN hi hx r (fun s' I'=>⟨_,H,I',h⟩) hf)
def CK:TGs:=fun vs σ H Q=>vs=[]/\Q σ H
def yU (t:TG)(u:TGs):TGs:=fun vs σ H Q=>∃v r,vs=v :: r/\t v σ H fun σ' H'=>u r σ' H' Q
theorem x9:Cb X [] CK:=by
 intro pins s σ H vs us Q I r h
 obtain ⟨e,h⟩:=h
 subst e
 cases r
 exact assignInOrder_nil ⟨σ,H,I,h⟩
theorem vd {e:Expr}{es:List Expr}{t:TG}{u:TGs}(h1:PG X e t)(h2:Cb X es u)
   (hs:(assignEach (e :: es) X.env).map (·.2)=assign e X.env :: (assignEach es X.env).map (·.2):=by rfl):Cb X (e :: es) (yU t u):=by
 intro pins s σ H vs us Q I r h
 obtain ⟨v,vr,e1,h⟩:=h
 subst e1
 cases r with
 | cons r rr=>
   rw [hs]
   refine assignInOrder_cons (bb (h1 pins s σ H _ _ _ I r h) fun _ s1 ⟨σ1,H1,I1,q1⟩=>?_)
   exact h2 pins s1 σ1 H1 _ _ Q I1 rr q1
/-- (a,b,..)=a tuple of that length -/
def CM (K:GP)(n:Nat)(t:TGs):TG:=fun v σ H Q=>∃a xs,v=.ref a/\aC K H a xs/\xs.length=n/\t xs σ H Q
theorem Bk {es:List Expr}{k:Nat}{t:TGs}{n:Nat}(hc:X.calm=true)(h:Cb X es t)
   (hn:(assignEach es X.env).length=n:=by rfl) (hst:(assignEach es X.env).findIdx? (·.1)=none:=by rfl):PG X (.Tuple es k pos) (CM X.K n t):=by
 intro pins s σ H v u Q I r hw
 obtain ⟨a,xs,e1,hq,hl,hw⟩:=hw
 subst e1
 cases r
 obtain ⟨its,rv,ht,hz⟩:=I.tuple hq
 refine assign_Tuple_tuple (I.ok.hd hc) ht (by simp [hn,← hl,rv.length]) hst fun h' hx=>?_
 have I1:Inv X pins σ H { s with heap:=h' }:=I.kept (t':=s.toks) fun b o e=>hx b o (HE (G6 e)) e
 exact h pins _ σ H xs _ Q I1 (by simpa using rv) hw
/-- o[i]=.. -/
def CL (to ti:TE)(t:zE):TG:=fun v σ H Q=>to σ H fun o H1=>ti σ H1 fun i H2=>t o i v H2 fun H3=>Q σ H3
theorem Bj {o i:Expr}{to ti:TE}{t:zE}(ho:PE X o to)(hi:PE X i ti)(hs:Cv X t)
   (ha:∀v,assign (.Subscript o i pos) X.env v=(do
     let ov ← holding [v] (eval o X.env)
     let iv ← holding [v,ov] (eval i X.env)
     standAt pos
     holding [v,ov,iv] (setItem ov iv v)
     release [v,ov,iv] []):=by intro _; rfl):PG X (.Subscript o i pos) (CL to ti t):=by
 intro pins s σ H v u Q I r h
 rw [ha]
 refine wpAny_bind (wpAny_holding (bb (ho pins s σ H _ I h) fun ov s1 ⟨x,H1,I1,r1,q1⟩=>?_))
 refine wpAny_bind (wpAny_holding (bb (hi pins s1 σ H1 _ I1 q1) fun iv s2 ⟨y,H2,I2,r2,q2⟩=>?_))
 refine wpAny_bind (wpAny_standAt (wpAny_bind (wpAny_holding (bb (hs pins s2 σ H2 x y v ov iv u _ I2 r1 r2 r q2) fun _ s3 ⟨H3,I3,q3⟩=>?_))))
 exact wpAny_release ⟨σ,H3,I3,q3⟩
/-- target=value -/
def nu (te:TE)(g:TG):TS:=fun D σ H=>te σ H fun x H1=>g x σ H1 D.nx
theorem Bq {tg e:Expr}{te:TE}{g:TG}(he:PE X e te)(hg:PG X tg g)(hs:swapsWithSole [tg] e pos.line X.env=pure false:=by rfl)(hw:swappedStores [tg] e X.env=pure none:=by rfl)
   (h1:(assignEach [tg] X.env).map (·.2)=[assign tg X.env]:=by rfl):PS X (.Assign [tg] e pos) (nu te g):=by
 intro pins s σ H D I h
 refine wpAny_Assign_stores (bb (he pins s σ H _ I h) fun v s1 ⟨x,H1,I1,r1,q1⟩=>?_) hs hw
 rw [h1]
 exact bb (hg pins s1 σ H1 x v _ I1 r1 q1) fun _ s2 q=>q
/-- name=value -/
theorem Bv {i:Nat}{x:Str}{e:Expr}{te:TE}{pos':Pos}(hN:X.N.Nodup)(hi:X.N[i]? = some x)(hx:Loc X.env.scope x)(he:PE X e te)(hs:swapsWith e (some (.Name x pos')) pos.line X.env=pure false:=by rfl)(hf:X.fn x=true\/X.env.scope.names.lookup x=some .local:=by first | exact .inl rfl | exact .inr rfl | assumption) :
   PS X (.Assign [.Name x pos'] e pos) (nu te (eR i)):=by
 intro pins s σ H D I h
 refine wpAny_Assign_Name (bb (he pins s σ H _ I h) fun v s1 ⟨y,H1,I1,r1,q1⟩=>?_) hs
 exact nq I1 hN hi hx r1 (fun s2 I2=>⟨_,H1,I2,q1⟩) hf
end

/-! ### while -/
section
variable {X:Cx}{pos:Pos}
/-- the invariant W with its measure -/
def vW (c:TT)(tb:TS):TS:=fun D σ H=>∃W:Nat->St->Hp->Prop,(∃m,W m σ H)/\∀m σ H,W m σ H ->
 c σ H fun b H1=>if b=true then ∃N:St->Hp->Prop,(∀σ' H',N σ' H'->∃m',m' < m/\W m' σ' H')/\tb { D with nx:=N,ct:=N,bk:=D.nx } σ H1 else D.nx σ H1
theorem vo {c:Expr}{body:List Stmt}{tc:TT}{tb:TS}(hp:PassesOwn (model X.prog X.w) X.A X.env X.xe)(hc:PT X c tc)(hb:mz X body tb):PS X (.While c body [] pos) (vW tc tb):=by
 intro pins s σ H D I h
 obtain ⟨W,⟨m0,w0⟩,turn⟩:=h
 refine wpAny_While (codeAny_whileLoop (fun n s'=>∃σ' H',Inv X pins σ' H' s'/\W n σ' H') ?_ m0 ⟨σ,H,I,w0⟩)
 rintro n s1 ⟨σ1,H1,I1,w1⟩
 refine IB hp (bb (hc pins s1 σ1 H1 _ I1 (turn n σ1 H1 w1)) fun b s2 ⟨H2,I2,q2⟩=>?_)
 cases b with
 | true=>
   obtain ⟨N,hN,q2⟩:=q2
   rw [if_pos rfl]
   refine IB hp (bb (hb pins s2 σ1 H2 _ I2 q2) fun f s3 q3=>?_)
   cases f with
   | next=>
     obtain ⟨σ3,H3,I3,n3⟩:=q3
     obtain ⟨m',hm,w3⟩:=hN σ3 H3 n3
     exact ⟨m',hm,σ3,H3,I3,w3⟩
   | cont=>
     obtain ⟨σ3,H3,I3,n3⟩:=q3
     obtain ⟨m',hm,w3⟩:=hN σ3 H3 n3
     exact ⟨m',hm,σ3,H3,I3,w3⟩
   | brk=>exact q3
   | ret v=>exact q3
 | false=>
   rw [if_neg G7]
   exact JO ⟨σ1,H2,I2,q2⟩
end

/-! ### what a loop or a comprehension walks -/
/-- at turn i: it yields x (the heap may grow),or it FX -/
structure It where
 go:Nat->Hp->Prop
 yld:Nat->Hp->V->Hp->Prop
 stop:Nat->Hp->Prop
/-- the oo own objects may turn: they are not the pz,not pinned,EC GD the entry (or a comprehension's own) -/
def dN (X:Cx)(pins:List (Addr×Obj))(H:Hp)(b:Addr):Prop:=
 H b=none/\b≠X.env.locals/\b ∉ X.fs/\(b∈X.ex\/X.s₀.heap.objs.size<=b)/\(∀x c,X.env.cells.lookup x=some c->c≠b)/\∀p∈X.pn++pins,p.1≠b
theorem Inv.fpOk {X:Cx}{pins:List (Addr×Obj)}{σ:St}{H H':Hp}{s:Shared}{b:Addr}(I:Inv X pins σ H s)(hb:s.heap.objs.size<=b)(hn:H' b=none):dN X pins H' b:=by
 refine ⟨hn,Jf (Hn I.lt hb),I.Ff hb,.inr (GY I.sz hb),fun x c e z=>?_,fun p hp z=>?_⟩
 · obtain ⟨v,q⟩:=I.cell x c e
   exact absurd (Hn q.lt (by rw [z]; exact hb)) (Ja _)
 · exact absurd (Hn (G6 (I.pin p hp).1) (by rw [z]; exact hb)) (Ja _)
structure Turn (P:Program)(w:World)(K:GP)(tg:Expr)(J:It)(fp:List Addr)(it:Addr)(tn:Nat->Heap->Prop):Prop where
 mem:it∈fp
 obj:∀i h,tn i h->∀b∈fp,∃o,h.get? b=some o/\∀v,o.data≠.cell v
 keep:∀i h h',tn i h->(∀b∈fp,∀o,h.get? b=some o->h'.get? b=some o)->tn i h'
 item:∀(X:Cx),X.prog=P->X.w=w->X.K=K->X.calm=true->∀(i:Nat) (pins:List (Addr×Obj)) (s:Shared) (σ:St) (H:Hp) (E:Value->Shared->Prop),Inv X pins σ H s->(∀b∈fp,dN X pins H b)->tn i s.heap->J.go i H ->
   wpAny (model P w) X.A (pyNext (.ref it)) (fun r s1=>∃u,r=some u /\
     wpAny (model P w) X.A (letOwnedTupleGo tg (.ref it) u) (fun _ s2=>∃x H',Inv X pins σ H' s2/\RelV x u/\J.yld i H x H'/\tn (i + 1) s2.heap/\∀b∈fp,H' b=none) E s1) E s
 done:∀(X:Cx),X.prog=P->X.w=w->X.K=K->X.calm=true->∀(i:Nat) (pins:List (Addr×Obj)) (s:Shared) (σ:St) (H:Hp) (E:Value->Shared->Prop),Inv X pins σ H s->(∀b∈fp,dN X pins H b)->tn i s.heap->J.stop i H ->
   wpAny (model P w) X.A (pyNext (.ref it)) (fun r s1=>r=none/\Inv X pins σ H s1) E s
 self:∀(A:Around) (i:Nat) (s:Shared) (Q:Value->Shared->Prop) (E:Value->Shared->Prop),tn i s.heap->Q (.ref it) s->wpAny (model P w) A (pyIter (.ref it)) Q E s
abbrev TI:=St->Hp->(It->Hp->Prop)->Prop
/-- an iterator has come -/
def FD (X:Cx)(pins:List (Addr×Obj))(σ:St)(tg:Expr)(R:It->Hp->Prop)(itv:Value)(s2:Shared):Prop:=
 ∃(it:Addr) (fp:List Addr) (tn:Nat->Heap->Prop) (J:It) (H':Hp),itv=.ref it/\Inv X pins σ H' s2/\Turn X.prog X.w X.K tg J fp it tn/\tn 0 s2.heap/\(∀b∈fp,dN X pins H' b)/\R J H'
def PI (X:Cx)(tg iter:Expr)(wi:TI):Prop:=
 ∀(pins:List (Addr×Obj)) (s:Shared) (σ:St) (H:Hp) (R:It->Hp->Prop),Inv X pins σ H s->wi σ H R ->
   wpAny (model X.prog X.w) X.A (eval iter X.env) (fun v s1=>wpAny (model X.prog X.w) X.A (pyIter v) (FD X pins σ tg R) X.xe s1) X.xe s

/-- the step ahead of the store is nothing for an iterator that keeps no tuple -/
theorem tE {M:Model}{A:Around}{E:Value->Shared->Prop}{s:Shared}{tg:Expr}{it:Addr}{u:Value}{o:Obj}{n:String}{vs:Array Value}{Q:Unit->Shared->Prop}(ho:s.heap.get? it=some o)(hc:o.cls=.type n)(hd:o.data=.fields vs)
   (hn:["enumerate","zip","dict_itemiterator","dict_reverseitemiterator","odict_iterator","itertools.zip_longest","itertools.pairwise"].contains n=false) (hQ:Q () s):wpAny M A (letOwnedTupleGo tg (.ref it) u) Q E s:=by
 unfold letOwnedTupleGo
 cases tg <;> first
   | exact wpAny_pure hQ
   | (cases u <;> first
       | exact wpAny_pure hQ
       | (refine wpAny_bind (wpAny_load ho ?_)
          rw [hc,hd]
          show wpAny M A (if (["enumerate","zip","dict_itemiterator","dict_reverseitemiterator","odict_iterator","itertools.zip_longest","itertools.pairwise"].contains n && vs[0]? == some (rawInt _))=true then _ else _) Q E s
          rw [if_neg (by intro h; rw [hn,Bool.false_and] at h; cases h)]
          exact wpAny_pure hQ))

/-- the list at a,as it stands at each turn (a loop may append to it) -/
def B7 (K:GP)(a:Addr):It:=
 ⟨fun i H=>∃xs x,aw K H a xs/\xs[i]? = some x,fun i H x H'=>H'=H/\∀xs,aw K H a xs->xs[i]? = some x,fun i H=>∃xs,aw K H a xs/\xs.length<=i⟩
def B8 (K:GP)(a:Addr):It:=
 ⟨fun i H=>∃xs x,aC K H a xs/\xs[i]? = some x,fun i H x H'=>H'=H/\∀xs,aC K H a xs->xs[i]? = some x,fun i H=>∃xs,aC K H a xs/\xs.length<=i⟩
/-- lo,lo + 1,.. (n of them) -/
def zz (lo:Int)(n:Nat):It:=⟨fun i _=>i < n,fun i H x H'=>H'=H/\x=.int (lo + i),fun i _=>n<=i⟩
theorem rS {P:Program}{w:World}{K:GP}{tg:Expr}(a it:Addr):Turn P w K tg (B7 K a) [it] it (fun i h=>h.IsListIter it a i) where
 mem:=by simp
 obj:=fun i h st b hb=>by
   have e:b=it:=by simpa using hb
   subst e
   obtain ⟨o,e,c,d⟩:=st
   exact ⟨o,e,fun v z=>by rw [d] at z; cases z⟩
 keep:=fun i h h' st k=>st.at fun o e=>k it (by simp) o e
 item:=by
   intro X hP hw hK hc i pins s σ H E I hf st hg
   subst hP hw hK
   obtain ⟨xs,x,hq,hx⟩:=hg
   obtain ⟨its,rv,p,hz⟩:=I.list hq
   obtain ⟨u,hu,ru⟩:=rv.get hx
   obtain ⟨f0,f1,f2,f3,f4,f5⟩:=hf it (by simp)
   refine wpAny_pyNext_list_item st p.isList (x:=u) (by simpa using hu) fun h' zk sb=>?_
   have I1:Inv X pins σ H { s with heap:=h' }:=I.turned (t':=s.toks) (fun b o hb e=>(sb.2 b hb).trans e) f0 f1 f3 f4 f5
   obtain ⟨o,e,c,d⟩:=id zk
   exact ⟨u,rfl,tE (s:={ s with heap:=h' }) e c d (by decide) ⟨x,H,I1,ru,⟨rfl,fun ys hy=>by rw [I.list_inj hy hq]; exact hx⟩,zk,fun b hb=>(hf b hb).1⟩⟩
 done:=by
   intro X hP hw hK hc i pins s σ H E I hf st hg
   subst hP hw hK
   obtain ⟨xs,hq,hx⟩:=hg
   obtain ⟨its,rv,p,hz⟩:=I.list hq
   obtain ⟨f0,f1,f2,f3,f4,f5⟩:=hf it (by simp)
   have hl:=rv.length
   exact wpAny_pyNext_list_end (I.ok.hd hc) st p.isList (by simp; omega) fun h' eb=>⟨rfl,I.turned (t':=s.toks) (fun b o hb e=>eb b o hb e) f0 f1 f3 f4 f5⟩
 self:=fun _ _ _ _ _ st h=>wpAny_pyIter_listiter st h
theorem oQ {P:Program}{w:World}{K:GP}{tg:Expr}(a it:Addr):Turn P w K tg (B8 K a) [it] it (fun i h=>h.IsTupleIter it a i) where
 mem:=by simp
 obj:=fun i h st b hb=>by
   have e:b=it:=by simpa using hb
   subst e
   obtain ⟨o,e,c,d⟩:=st
   exact ⟨o,e,fun v z=>by rw [d] at z; cases z⟩
 keep:=fun i h h' st k=>st.at fun o e=>k it (by simp) o e
 item:=by
   intro X hP hw hK hc i pins s σ H E I hf st hg
   subst hP hw hK
   obtain ⟨xs,x,hq,hx⟩:=hg
   obtain ⟨its,rv,p,hz⟩:=I.tuple hq
   obtain ⟨u,hu,ru⟩:=rv.get hx
   obtain ⟨f0,f1,f2,f3,f4,f5⟩:=hf it (by simp)
   refine wpAny_pyNext_tuple_item st (show s.heap.IsTuple a its.toArray from p) (x:=u) (by simpa using hu) fun h' zk sb=>?_
   have I1:Inv X pins σ H { s with heap:=h' }:=I.turned (t':=s.toks) (fun b o hb e=>(sb.2 b hb).trans e) f0 f1 f3 f4 f5
   obtain ⟨o,e,c,d⟩:=id zk
   exact ⟨u,rfl,tE (s:={ s with heap:=h' }) e c d (by decide) ⟨x,H,I1,ru,⟨rfl,fun ys hy=>by rw [I.tuple_inj hy hq]; exact hx⟩,zk,fun b hb=>(hf b hb).1⟩⟩
 done:=by
   intro X hP hw hK hc i pins s σ H E I hf st hg
   subst hP hw hK
   obtain ⟨xs,hq,hx⟩:=hg
   obtain ⟨its,rv,p,hz⟩:=I.tuple hq
   obtain ⟨f0,f1,f2,f3,f4,f5⟩:=hf it (by simp)
   have hl:=rv.length
   exact wpAny_pyNext_tuple_end (I.ok.hd hc) st (show s.heap.IsTuple a its.toArray from p) (by simp; omega) fun h' eb=>⟨rfl,I.turned (t':=s.toks) (fun b o hb e=>eb b o hb e) f0 f1 f3 f4 f5⟩
 self:=fun _ _ _ _ _ st h=>wpAny_pyIter_tupleiter st h
theorem oP {P:Program}{w:World}{K:GP}{tg:Expr}(it:Addr)(lo:Int)(n:Nat):Turn P w K tg (zz lo n) [it] it (fun i h=>IsRangeIter h it (lo + (i:Nat) * 1) ((n:Int) - (i:Nat)) 1) where
 mem:=by simp
 obj:=fun i h st b hb=>by
   have e:b=it:=by simpa using hb
   subst e
   exact ⟨_,st,fun v z=>by
     have z':Data.fields _=Data.cell v:=z
     cases z'⟩
 keep:=fun i h h' st k=>k it (by simp) _ st
 item:=by
   intro X hP hw hK hc i pins s σ H E I hf st hg
   subst hP hw hK
   obtain ⟨f0,f1,f2,f3,f4,f5⟩:=hf it (by simp)
   have W:=Walks.range (prog:=X.prog) (w:=X.w) (I.ok.hd hc) it lo 1 n
   refine W.item i s _ _ hg st fun v h' tk hv zk kk=>?_
   obtain ⟨t,rfl⟩:=hv
   have I1:Inv X pins σ H { s with heap:=h',toks:=tk }:=I.turned (fun b o hb e=>kk b o (by simpa using hb) e) f0 f1 f3 f4 f5
   refine ⟨_,rfl,tE (s:={ s with heap:=h',toks:=tk }) (n:="range_iterator") zk rfl rfl (by decide) ⟨.int (lo + i),H,I1,⟨t,?_⟩,⟨rfl,rfl⟩,zk,fun b hb=>(hf b hb).1⟩⟩
   rw [Int.mul_one]
 done:=by
   intro X hP hw hK hc i pins s σ H E I hf st hg
   subst hP hw hK
   obtain ⟨f0,f1,f2,f3,f4,f5⟩:=hf it (by simp)
   exact wpAny_pyNext_range_end (I.ok.hd hc) st (by have:n<=i:=hg; omega) fun h' eb=>⟨rfl,I.turned (t':=s.toks) (fun b o hb e=>eb b o hb e) f0 f1 f3 f4 f5⟩
 self:=fun _ _ _ _ _ st h=>wpAny_pyIter_rangeiter st h
end L2

namespace L2
open PySem PySem.Spec PyProof.Rows
section
variable {X:Cx}{tg:Expr}
def yX (K:GP)(tl:TE):TI:=fun σ H R=>tl σ H fun x H1=>∃a,x=.ref a/\(∃xs,aw K H1 a xs)/\R (B7 K a) H1
def CS (K:GP)(tl:TE):TI:=fun σ H R=>tl σ H fun x H1=>∃a,x=.ref a/\(∃xs,aC K H1 a xs)/\R (B8 K a) H1
theorem yb {l:Expr}{tl:TE}(hl:PE X l tl):PI X tg l (yX X.K tl):=by
 intro pins s σ H R I h
 refine bb (hl pins s σ H _ I h) fun v s1 ⟨x,H1,I1,r1,q1⟩=>?_
 obtain ⟨a,e,⟨xs,hq⟩,q⟩:=q1
 subst e
 cases r1
 obtain ⟨its,rv,p,hz⟩:=I1.list hq
 refine wpAny_pyIter_list p.isList ?_
 refine ⟨s1.heap.objs.size,[s1.heap.objs.size],_,_,H1,rfl,I1.kept (t':=s1.toks) fun b o e=>GV _ e,rS a _,⟨_,G9 _ rfl,rfl,rfl⟩,fun b hb=>?_,q⟩
 have e:b=s1.heap.objs.size:=by simpa using hb
 subst e
 exact I1.fpOk (GX _) (I1.hok.fresh (GX _))
theorem Bm {l:Expr}{tl:TE}(hl:PE X l tl):PI X tg l (CS X.K tl):=by
 intro pins s σ H R I h
 refine bb (hl pins s σ H _ I h) fun v s1 ⟨x,H1,I1,r1,q1⟩=>?_
 obtain ⟨a,e,⟨xs,hq⟩,q⟩:=q1
 subst e
 cases r1
 obtain ⟨its,rv,p,hz⟩:=I1.tuple hq
 refine wpAny_pyIter_tuple (show s1.heap.IsTuple a its.toArray from p) ?_
 refine ⟨s1.heap.objs.size,[s1.heap.objs.size],_,_,H1,rfl,I1.kept (t':=s1.toks) fun b o e=>GV _ e,oQ a _,⟨_,G9 _ rfl,rfl,rfl⟩,fun b hb=>?_,q⟩
 have e:b=s1.heap.objs.size:=by simpa using hb
 subst e
 exact I1.fpOk (GX _) (I1.hok.fresh (GX _))
/-- a range object just made,walked -/
theorem vz {pins:List (Addr×Obj)}{σ:St}{H:Hp}{s:Shared}{R:It->Hp->Prop}{E:Value->Shared->Prop}{lo hi:Int}{t u v:Tok}{tk:Nat}(I:Inv X pins σ H s)(h1 : -(2 ^ 62)<=lo)(h2:lo < 2 ^ 62)(h3 : -(2 ^ 62)<=hi)(h4:hi < 2 ^ 62)
   (q:R (zz lo (hi - lo).toNat) H):wpAny (model X.prog X.w) X.A (pyIter (.ref s.heap.objs.size)) (FD X pins σ tg R) E { s with heap:=s.heap.push { cls:=.type "range",data:=.fields #[.int lo t,.int hi u,.int 1 v] },toks:=tk }:=by
 refine wpAny_pyIter_range (IsRange.new ..) (small_one h1 h2 h3 h4) ?_
 have I1:Inv X pins σ H { s with heap:=s.heap.push { cls:=.type "range",data:=.fields #[.int lo t,.int hi u,.int 1 v] },toks:=tk }:=I.kept fun b o e=>GV _ e
 refine ⟨(s.heap.push { cls:=.type "range",data:=.fields #[.int lo t,.int hi u,.int 1 v] }).objs.size,[(s.heap.push { cls:=.type "range",data:=.fields #[.int lo t,.int hi u,.int 1 v] }).objs.size],_,_,H,rfl,
   I1.kept (t':=tk) fun b o e=>GV _ e,oP _ lo (hi - lo).toNat,?_,fun b hb=>?_,q⟩
 · have e1:lo + ((0:Nat):Int) * 1=lo:=by simp
   have e2:(((hi - lo).toNat:Nat):Int) - ((0:Nat):Int)=Builtin.Range.rangeSize lo hi 1:=by rw [rangeSize_one]; split <;> omega
   show IsRangeIter _ _ (lo + ((0:Nat):Int) * 1) ((((hi - lo).toNat:Nat):Int) - ((0:Nat):Int)) 1
   rw [e1,e2]
   exact G9 _ rfl
 · have e:b=(s.heap.push { cls:=.type "range",data:=.fields #[.int lo t,.int hi u,.int 1 v] }).objs.size:=by simpa using hb
   subst e
   exact I1.fpOk (GX _) (I1.hok.fresh (GX _))
def uc (ta:TA):TI:=fun σ H R=>ta σ H fun vs H1=>∃j:Int,vs=[.int j] /\ -(2 ^ 62)<=j/\j < 2 ^ 62/\R (zz 0 j.toNat) H1
theorem rG {a:Expr}{ta:TA}{p pos:Pos}(hg:Gl X "range")(hm:X.mg "range"=none)(ha:PA X [a] ta)(hs:starEach [a] X.env=[(false,eval a X.env)]:=by rfl):PI X tg (.Call (.Name "range" p) [a] [] pos) (uc ta):=by
 intro pins s σ H R I h
 refine Call_ (dY I hg hm boot_range (HZ (bb (ha pos pins s σ H _ I h) fun us s1 ⟨vs,H1,I1,r1,q1⟩=>?_) hs rfl))
 obtain ⟨j,e,q1,q2,q⟩:=q1
 subst e
 cases r1 with
 | cons r rr=>
   cases rr
   obtain ⟨t,rfl⟩:=r
   exact call_range_1 (vz I1 (by omega) (by omega) q1 q2 (by simpa using q))
/-! ### for -/
/-- W: the invariant by the turn and a measure; N: what the body is to reach -/
def D8 (wi:TI)(g:TG)(tb:TS):TS:=fun D σ H=>wi σ H fun J H1=>∃W:Nat->Nat->St->Hp->Prop,(∃m,W 0 m σ H1)/\∀i m σ H,W i m σ H ->
 (J.stop i H/\D.nx σ H)\/(J.go i H/\∃N:St->Hp->Prop,(∀σ' H',N σ' H'->∃m',m' < m/\W (i + 1) m' σ' H')/\∀x H',J.yld i H x H'->g x σ H' fun σ2 H2=>tb { D with nx:=N,ct:=N,bk:=D.nx } σ2 H2)
/-- the records at fp as they stand -/
def jF (fp:List Addr)(h:Heap):List (Addr×Obj):=fp.filterMap fun b=>(h.get? b).map fun o=>(b,o)
theorem dt {fp:List Addr}{h:Heap}{b:Addr}{o:Obj}(hb:b∈fp)(e:h.get? b=some o):(b,o)∈jF fp h:=List.mem_filterMap.mpr ⟨b,hb,by rw [e]; rfl⟩
theorem rh {fp:List Addr}{h:Heap}{p:Addr×Obj}(hp:p∈jF fp h):p.1∈fp/\h.get? p.1=some p.2:=by
 obtain ⟨b,hb,e⟩:=List.mem_filterMap.mp hp
 cases q:h.get? b with
 | none=>rw [q] at e; cases e
 | some o=>
   rw [q] at e
   have e':(b,o)=p:=HA e
   subst e'
   exact ⟨hb,q⟩
theorem Inv.pinned {pins:List (Addr×Obj)}{σ:St}{H:Hp}{s:Shared}{fp:List Addr}(I:Inv X pins σ H s)(hf:∀b∈fp,dN X pins H b)(ho:∀b∈fp,∃o,s.heap.get? b=some o/\∀v,o.data≠.cell v):Inv X (pins++jF fp s.heap) σ H s:=
 I.pJ fun p hp=>(List.mem_append.mp hp).elim (fun z=>I.pin p (HK _ z)) fun z=>by
   obtain ⟨hb,e⟩:=rh z
   obtain ⟨f0,f1,f2,_⟩:=hf p.1 hb
   obtain ⟨o,e',d⟩:=ho p.1 hb
   rw [e] at e'; cases e'
   exact ⟨e,f0,f1,f2,d⟩
theorem Inv.unpinned {pins pl:List (Addr×Obj)}{σ:St}{H:Hp}{s:Shared}(I:Inv X (pins++pl) σ H s):Inv X pins σ H s:=I.pJ fun p hp=>I.pin p (HK _ (IY _ hp))
theorem Bt {iter:Expr}{body:List Stmt}{wi:TI}{g:TG}{tb:TS}{pos:Pos}(hp:PassesOwn (model X.prog X.w) X.A X.env X.xe)(hc:X.calm=true)(hi:PI X tg iter wi)(hg:PG X tg g)(hb:mz X body tb)
   (hs:∀x,foldedSetIterable iter X.env x=pure x:=by intro _; rfl):PS X (.For tg iter body [] pos) (D8 wi g tb):=by
 intro pins s σ H D I h
 refine wpAny_For (bb (hi pins s σ H _ I h) fun v s1 h1=>bb h1 fun itv s2 h2=>?_) hs
 obtain ⟨it,fp,tn,J,H2,e,I2,T,st2,f2,W,⟨m0,w0⟩,turn⟩:=h2
 subst e
 -- what stays true of the oo objects through the loop
 have stat:∀{H':Hp},(∀b∈fp,H' b=none)->∀b∈fp,dN X pins H' b:=fun hn b hb=>⟨hn b hb,(f2 b hb).2⟩
 refine codeAny_forLoop_any (fun n s'=>∃i σ' H',Inv X pins σ' H' s'/\tn i s'.heap/\(∀b∈fp,H' b=none)/\W i n σ' H') ?_ m0 ⟨0,σ,H2,I2,st2,fun b hb=>(f2 b hb).1,w0⟩
 rintro n s3 ⟨i,σ3,H3,I3,st3,fr3,w3⟩
 rcases turn i n σ3 H3 w3 with ⟨stop,qn⟩ | ⟨go,N,hN,step⟩
 · refine IB hp (bb (T.done X rfl rfl rfl hc i pins s3 σ3 H3 X.xe I3 (stat fr3) st3 stop) fun r s4 ⟨hr,I4⟩=>?_)
   subst hr
   exact JO ⟨σ3,H3,I4,qn⟩
 · refine IB hp (bb (T.item X rfl rfl rfl hc i pins s3 σ3 H3 X.xe I3 (stat fr3) st3 go) fun r s4 ⟨u,hr,h4⟩=>?_)
   subst hr
   refine IB hp (bb h4 fun _ s5 ⟨x,H5,I5,r5,y5,st5,fr5⟩=>?_)
   have I5':=I5.pinned (stat fr5) (T.obj _ _ st5)
   refine IB hp (bb (hg _ s5 σ3 H5 x u _ I5' r5 (step x H5 y5)) fun _ s6 ⟨σ6,H6,I6,q6⟩=>?_)
   refine IB hp (bb (hb _ s6 σ6 H6 _ I6 q6) fun f s7 q7=>?_)
   have again:∀{σ7:St} {H7:Hp},Inv X (pins++jF fp s5.heap) σ7 H7 s7->N σ7 H7->∃m,m < n/\∃i σ' H',Inv X pins σ' H' s7/\tn i s7.heap/\(∀b∈fp,H' b=none)/\W i m σ' H':=fun {σ7 H7} I7 n7=>by
     obtain ⟨m',hm,w7⟩:=hN σ7 H7 n7
     refine ⟨m',hm,i + 1,σ7,H7,I7.unpinned,T.keep _ _ _ st5 fun b hb o e=>(I7.pin (b,o) (HK _ (HK _ (dt hb e)))).1,fun b hb=>?_,w7⟩
     obtain ⟨o,e,d⟩:=T.obj _ _ st5 b hb
     exact (I7.pin (b,o) (HK _ (HK _ (dt hb e)))).2.1
   cases f with
   | next=>obtain ⟨σ7,H7,I7,n7⟩:=q7; exact again I7 n7
   | cont=>obtain ⟨σ7,H7,I7,n7⟩:=q7; exact again I7 n7
   | brk=>obtain ⟨σ7,H7,I7,q7⟩:=q7; exact ⟨σ7,H7,I7.unpinned,q7⟩
   | ret v=>obtain ⟨x7,σ7,H7,I7,r7,q7⟩:=q7; exact ⟨x7,σ7,H7,I7.unpinned,r7,q7⟩
end

/-! ### the forms one uses -/
/-- over a list that the body leaves as it is -/
theorem cf {K:GP}{a:Addr}{xs:List V}{g:TG}{tb:TS}{D:Ends}{σ:St}{H:Hp}(Pv:Nat->St->Hp->Prop)(h0:Pv 0 σ H)(hl:∀i σ H,i<=xs.length->Pv i σ H->aw K H a xs)
   (hs:∀i x σ H,xs[i]? = some x->Pv i σ H->g x σ H fun σ2 H2=>tb { D with nx:=Pv (i + 1),ct:=Pv (i + 1),bk:=D.nx } σ2 H2) (hd:∀σ H,Pv xs.length σ H->D.nx σ H) :
   ∃W:Nat->Nat->St->Hp->Prop,(∃m,W 0 m σ H)/\∀i m σ H,W i m σ H ->
     ((B7 K a).stop i H/\D.nx σ H)\/((B7 K a).go i H/\∃N:St->Hp->Prop,(∀σ' H',N σ' H'->∃m',m' < m/\W (i + 1) m' σ' H')/\∀x H',(B7 K a).yld i H x H'->g x σ H' fun σ2 H2=>tb { D with nx:=N,ct:=N,bk:=D.nx } σ2 H2):=by
 refine ⟨fun i m σ H=>m=xs.length - i/\i<=xs.length/\Pv i σ H,⟨xs.length,by simp,HD _,h0⟩,?_⟩
 rintro i m σ H ⟨rfl,hi,p⟩
 have q:=hl i σ H hi p
 by_cases hlt:i < xs.length
 · refine .inr ⟨⟨xs,xs[i],q,by simp [hlt]⟩,Pv (i + 1),fun σ' H' p'=>⟨xs.length - (i + 1),by omega,rfl,hlt,p'⟩,fun x H' y=>?_⟩
   obtain ⟨e,y⟩:=y
   subst e
   exact hs i x σ _ (y xs q) p
 · have e:i=xs.length:=by omega
   subst e
   exact .inl ⟨⟨xs,q,GX _⟩,hd σ H p⟩
theorem lE {K:GP}{a:Addr}{xs:List V}{g:TG}{tb:TS}{D:Ends}{σ:St}{H:Hp}(Pv:Nat->St->Hp->Prop)(h0:Pv 0 σ H)(hl:∀i σ H,i<=xs.length->Pv i σ H->aC K H a xs)
   (hs:∀i x σ H,xs[i]? = some x->Pv i σ H->g x σ H fun σ2 H2=>tb { D with nx:=Pv (i + 1),ct:=Pv (i + 1),bk:=D.nx } σ2 H2) (hd:∀σ H,Pv xs.length σ H->D.nx σ H) :
   ∃W:Nat->Nat->St->Hp->Prop,(∃m,W 0 m σ H)/\∀i m σ H,W i m σ H ->
     ((B8 K a).stop i H/\D.nx σ H)\/((B8 K a).go i H/\∃N:St->Hp->Prop,(∀σ' H',N σ' H'->∃m',m' < m/\W (i + 1) m' σ' H')/\∀x H',(B8 K a).yld i H x H'->g x σ H' fun σ2 H2=>tb { D with nx:=N,ct:=N,bk:=D.nx } σ2 H2):=by
 refine ⟨fun i m σ H=>m=xs.length - i/\i<=xs.length/\Pv i σ H,⟨xs.length,by simp,HD _,h0⟩,?_⟩
 rintro i m σ H ⟨rfl,hi,p⟩
 have q:=hl i σ H hi p
 by_cases hlt:i < xs.length
 · refine .inr ⟨⟨xs,xs[i],q,by simp [hlt]⟩,Pv (i + 1),fun σ' H' p'=>⟨xs.length - (i + 1),by omega,rfl,hlt,p'⟩,fun x H' y=>?_⟩
   obtain ⟨e,y⟩:=y
   subst e
   exact hs i x σ _ (y xs q) p
 · have e:i=xs.length:=by omega
   subst e
   exact .inl ⟨⟨xs,q,GX _⟩,hd σ H p⟩
theorem c4 {lo:Int}{n:Nat}{g:TG}{tb:TS}{D:Ends}{σ:St}{H:Hp}(Pv:Nat->St->Hp->Prop)(h0:Pv 0 σ H)
   (hs:∀i σ H,i < n->Pv i σ H->g (.int (lo + i)) σ H fun σ2 H2=>tb { D with nx:=Pv (i + 1),ct:=Pv (i + 1),bk:=D.nx } σ2 H2) (hd:∀σ H,Pv n σ H->D.nx σ H) :
   ∃W:Nat->Nat->St->Hp->Prop,(∃m,W 0 m σ H)/\∀i m σ H,W i m σ H ->
     ((zz lo n).stop i H/\D.nx σ H)\/((zz lo n).go i H/\∃N:St->Hp->Prop,(∀σ' H',N σ' H'->∃m',m' < m/\W (i + 1) m' σ' H')/\∀x H',(zz lo n).yld i H x H'->g x σ H' fun σ2 H2=>tb { D with nx:=N,ct:=N,bk:=D.nx } σ2 H2):=by
 refine ⟨fun i m σ H=>m=n - i/\i<=n/\Pv i σ H,⟨n,by simp,HD _,h0⟩,?_⟩
 rintro i m σ H ⟨rfl,hi,p⟩
 by_cases hlt:i < n
 · refine .inr ⟨hlt,Pv (i + 1),fun σ' H' p'=>⟨n - (i + 1),by omega,rfl,hlt,p'⟩,fun x H' y=>?_⟩
   obtain ⟨e,y⟩:=y
   subst e y
   exact hs i σ _ hlt p
 · have e:i=n:=by omega
   subst e
   exact .inl ⟨GX _,hd σ H p⟩
end L2

namespace L2
open PySem PySem.Spec PyProof.Rows

abbrev R2:=V->V->Hp->VK->Prop
/-- a two-place operation on values: f is binaryOp op,inplaceOp op or compareOp op -/
def eW (X:Cx)(f:Value->Value->Sem Value)(r:R2):Prop:=
 ∀(pins:List (Addr×Obj)) (s:Shared) (σ:St) (H:Hp) (x y:V) (v u:Value) (Q:VK),Inv X pins σ H s->RelV x v->RelV y u->r x y H Q ->
   wpAny (model X.prog X.w) X.A (f v u) (EP X pins σ Q) X.xe s
/-- a one-place operation -/
def EH (X:Cx)(f:Value->Sem Value)(r:V->Hp->VK->Prop):Prop:=
 ∀(pins:List (Addr×Obj)) (s:Shared) (σ:St) (H:Hp) (x:V) (v:Value) (Q:VK),Inv X pins σ H s->RelV x v->r x H Q ->
   wpAny (model X.prog X.w) X.A (f v) (EP X pins σ Q) X.xe s
/-- a call of a value that is known (a builtin,a type) with values -/
def bZ (X:Cx)(f:Value)(r:List V->Hp->VK->Prop):Prop:=
 ∀(pins:List (Addr×Obj)) (s:Shared) (σ:St) (H:Hp) (xs:List V) (us:List Value) (Q:VK),Inv X pins σ H s->Vals xs us->r xs H Q ->
   wpAny (model X.prog X.w) X.A (call f us) (EP X pins σ Q) X.xe s
def zx (r:R2)(ta tb:TE):TE:=fun σ H Q=>ta σ H fun x H1=>tb σ H1 fun y H2=>r x y H2 Q
def F1 (r:V->Hp->VK->Prop)(ta:TE):TE:=fun σ H Q=>ta σ H fun x H1=>r x H1 Q
/-- ints in,under C,and a value out -/
def rI (C:Int->Int->Prop)(g:Int->Int->V):R2:=fun x y H Q=>∃i j,x=.int i/\y=.int j/\C i j/\Q (g i j) H
def rZ (g:Int->Int->V):R2:=fun x y H Q=>∃i j,x=.int i/\y=.int j/\Q (g i j) H
def rU (g:Int->V):V->Hp->VK->Prop:=fun x H Q=>∃i,x=.int i/\Q (g i) H

section
variable {X:Cx}{a b c:Expr}{ta tb tc:TE}{pos:Pos}

theorem zL (ha:PE X a ta)(hb:PE X b tb){pins:List (Addr×Obj)}{s:Shared}{σ:St}{H:Hp}{R:V->V->Hp->Prop}(I:Inv X pins σ H s)
   (h:ta σ H fun x H1=>tb σ H1 fun y H2=>R x y H2) {Q:Value->Shared->Prop} {f:Value->Value->Sem Value}
   (hf:∀v u s2 x y H2,Inv X pins σ H2 s2->RelV x v->RelV y u->R x y H2->wpAny (model X.prog X.w) X.A (f v u) Q X.xe s2) :
   wpAny (model X.prog X.w) X.A (eval a X.env) (fun v s₁=>wpAny (model X.prog X.w) X.A (eval b X.env) (fun u s₂=>wpAny (model X.prog X.w) X.A (f v u) Q X.xe s₂) X.xe s₁) X.xe s:=by
 refine bb (ha pins s σ H _ I h) fun v s1 ⟨x,H1,I1,r1,q1⟩=>?_
 refine bb (hb pins s1 σ H1 _ I1 q1) fun u s2 ⟨y,H2,I2,r2,q2⟩=>?_
 exact hf v u s2 x y H2 I2 r1 r2 q2

theorem Dv {op:Operator}{r:R2}(ho:eW X (binaryOp op) r)(ha:PE X a ta)(hb:PE X b tb):PE X (.BinOp a op b pos) (zx r ta tb):=by
 intro pins s σ H Q I h
 exact wpAny_BinOp (zL ha hb I h fun v u s2 x y H2 I2 rx ry q=>ho pins s2 σ H2 x y v u Q I2 rx ry q)
theorem Dw {op:UnaryOp}{r:V->Hp->VK->Prop}(ho:EH X (unaryOp op) r)(ha:PE X a ta):PE X (.UnaryOp op a pos) (F1 r ta):=by
 intro pins s σ H Q I h
 exact UnaryOp_ (bb (ha pins s σ H _ I h) fun v s1 ⟨x,H1,I1,r1,q1⟩=>ho pins s1 σ H1 x v Q I1 r1 q1)
/-! ### ints -/
theorem Di {f:Value->Value->Sem Value}{C:Int->Int->Prop}{g:Int->Int->Int}
   (rule:∀(i j:Int) (t u:Tok) (s:Shared) (Q:Value->Shared->Prop) (E:Value->Shared->Prop),C i j->Q (.int (g i j) s.toks) { s with toks:=s.toks + 1 }->wpAny (model X.prog X.w) X.A (f (.int i t) (.int j u)) Q E s) :
   eW X f (rI C fun i j=>.int (g i j)):=by
 intro pins s σ H x y v u Q I rx ry h
 obtain ⟨i,j,rfl,rfl,hc,q⟩:=h
 obtain ⟨t,rfl⟩:=rx
 obtain ⟨t',rfl⟩:=ry
 exact rule i j t t' s _ _ hc ⟨.int (g i j),H,I.tok _,⟨_,rfl⟩,q⟩
theorem Dj {f:Value->Value->Sem Value}{g:Int->Int->Int}
   (rule:∀(i j:Int) (t u:Tok) (s:Shared) (Q:Value->Shared->Prop) (E:Value->Shared->Prop),Q (.int (g i j) s.toks) { s with toks:=s.toks + 1 }->wpAny (model X.prog X.w) X.A (f (.int i t) (.int j u)) Q E s) :
   eW X f (rZ fun i j=>.int (g i j)):=by
 intro pins s σ H x y v u Q I rx ry h
 obtain ⟨i,j,rfl,rfl,q⟩:=h
 obtain ⟨t,rfl⟩:=rx
 obtain ⟨t',rfl⟩:=ry
 exact rule i j t t' s _ _ ⟨.int (g i j),H,I.tok _,⟨_,rfl⟩,q⟩
theorem AH {f:Value->Value->Sem Value}{g:Int->Int->Bool}
   (rule:∀(i j:Int) (t u:Tok) (s:Shared) (Q:Value->Shared->Prop) (E:Value->Shared->Prop),Q (.bool (g i j)) s->wpAny (model X.prog X.w) X.A (f (.int i t) (.int j u)) Q E s) :
   eW X f (rZ fun i j=>.bl (g i j)):=by
 intro pins s σ H x y v u Q I rx ry h
 obtain ⟨i,j,rfl,rfl,q⟩:=h
 obtain ⟨t,rfl⟩:=rx
 obtain ⟨t',rfl⟩:=ry
 exact rule i j t t' s _ _ ⟨.bl (g i j),H,I,rfl,q⟩

def Cq (i j:Int):Prop:=0<=j/\j<=1000000/\i.natAbs < 2 ^ 64
def wg (i j:Int):Prop:=(-(2 ^ 64) < i/\i < 2 ^ 64)\/(-(2 ^ 64) < j/\j < 2 ^ 64)
theorem wg.ok {i j:Int}(h:wg i j):IntMulOk i j:=by
 rcases h with ⟨h1,h2⟩ | ⟨h1,h2⟩
 · exact .of_left (intBits_le_64 h1 h2)
 · exact .of_right (intBits_le_64 h1 h2)
theorem two_pow_nn (k:Nat):(0:Int)<=2 ^ k:=by
 rw [two_pow_cast]
 exact Int.natCast_nonneg _

theorem AI:eW X (binaryOp .Add) (rZ fun i j=>.int (i + j)):=Dj fun _ _ _ _ _ _ _ q=>add_int q
theorem AY:eW X (binaryOp .Sub) (rZ fun i j=>.int (i - j)):=Dj fun _ _ _ _ _ _ _ q=>sub_int q
theorem AU:eW X (binaryOp .Mult) (rI wg fun i j=>.int (i * j)):=Di fun _ _ _ _ _ _ _ hc q=>mul_int q hc.ok
/-- % by a positive Ep of any size -/
theorem AR:eW X (binaryOp .Mod) (rI (fun _ j=>0 < j) fun i j=>.int (i % j)):=Di fun i j _ _ _ _ _ hc q=>by
 have h1:(0:Int) < j:=hc
 exact mod_int' (by omega) (by rw [Int.fmod_eq_emod_of_nonneg i (by omega)]; exact q)
theorem AW:eW X (binaryOp .Pow) (rI Cq fun i j=>.int (i ^ j.toNat)):=Di fun _ _ _ _ _ _ _ hc q=>pow_int_small hc.1 hc.2.1 hc.2.2 q
theorem AX:eW X (binaryOp .RShift) (rI (fun _ j=>0<=j) fun i j=>.int (i / 2 ^ j.toNat)):=Di fun i j _ _ _ _ _ hc q=>
 rshift_int hc (by rw [Kq i (two_pow_nn _)]; exact q)
theorem GF {f:Value->Sem Value}{g:Int->Int}
   (rule:∀(i:Int) (t:Tok) (s:Shared) (Q:Value->Shared->Prop) (E:Value->Shared->Prop),Q (.int (g i) s.toks) { s with toks:=s.toks + 1 }->wpAny (model X.prog X.w) X.A (f (.int i t)) Q E s) :
   EH X f (rU fun i=>.int (g i)):=by
 intro pins s σ H x v Q I rx h
 obtain ⟨i,rfl,q⟩:=h
 obtain ⟨t,rfl⟩:=rx
 exact rule i t s _ _ ⟨.int (g i),H,I.tok _,⟨_,rfl⟩,q⟩
theorem B3:EH X (unaryOp .USub) (rU fun i=>.int (-i)):=GF fun _ _ _ _ _ q=>neg_int q
/-! ### bools among ints: n += (a < b) -/
end

/-! ### mJ -/
/-- the Eu that == tells apart as data does -/
def DT:V->V->Bool
 | .bq,.bq=>true | .bq,.int _=>true | .int _,.bq=>true | .bq,.bl _=>true | .bl _,.bq=>true | .bq,.str _=>true | .str _,.bq=>true
 | .int _,.int _=>true | .bl _,.bl _=>true | .str _,.str _=>true | .byt _,.byt _=>true
 | .int _,.str _=>true | .str _,.int _=>true | .bl _,.str _=>true | .str _,.bl _=>true
 | _,_=>false
def FT:R2:=fun x y H Q=>DT x y=true/\Q (.bl (decide (x=y))) H
def FU:R2:=fun x y H Q=>DT x y=true/\Q (.bl (!decide (x=y))) H

theorem pd {i j:Int}:decide (V.int i=V.int j)=(i == j):=by
 rw [JC]
 simp
theorem sF {i j:Bool}:decide (V.bl i=V.bl j)=(i == j):=by
 rw [JC]
 simp
theorem ph {i j:Str}:decide (V.str i=V.str j)=(i == j):=by
 rw [JC]
 simp
theorem oZ {i j:Array UInt8}:decide (V.byt i=V.byt j)=(i.toList == j.toList):=by
 rw [JC]
 cases i
 cases j
 simp

section
variable {X:Cx}{a b c:Expr}{ta tb tc:TE}{pos:Pos}
theorem aV {pins:List (Addr×Obj)}{σ:St}{H:Hp}{s:Shared}{Q:VK}{k k':Bool}(I:Inv X pins σ H s)(q:Q (.bl k) H)(e:k=k'):EP X pins σ Q (.bool k') s:=by
 subst e
 exact ⟨.bl k,H,I,rfl,q⟩
theorem Dk:eW X (compareOp .Eq) FT:=by
 intro pins s σ H x y v u Q I rx ry h
 obtain ⟨hs,q⟩:=h
 cases x with
 | bq=>
   cases rx
   cases y with
   | bq=>cases ry; exact PySem.EqNone.eq_none_none (aV I q (by simp))
   | bl j=>cases ry; exact PySem.EqNone.eq_none_bool (aV I q (by simp))
   | int j=>obtain ⟨t',rfl⟩:=ry; exact PySem.EqNone.eq_none_int (aV I q (by simp))
   | str j=>obtain ⟨t',rfl⟩:=ry; exact PySem.EqNone.eq_none_str (aV I q (by simp))
   | _=>exact absurd (show false=true from hs) G7
 | bl i=>
   cases rx
   cases y with
   | bq=>cases ry; exact PySem.EqNone.eq_bool_none (aV I q (by simp))
   | bl j=>cases ry; exact eq_bool (aV I q sF)
   | str j=>obtain ⟨t',rfl⟩:=ry; exact PySem.EqMixed.eq_bool_str (aV I q (by simp))
   | _=>exact absurd (show false=true from hs) G7
 | int i=>
   obtain ⟨t,rfl⟩:=rx
   cases y with
   | bq=>cases ry; exact PySem.EqNone.eq_int_none (aV I q (by simp))
   | int j=>obtain ⟨t',rfl⟩:=ry; exact eq_int (aV I q pd)
   | str j=>obtain ⟨t',rfl⟩:=ry; exact PySem.EqMixed.eq_int_str (aV I q (by simp))
   | _=>exact absurd (show false=true from hs) G7
 | str i=>
   obtain ⟨t,rfl⟩:=rx
   cases y with
   | bq=>cases ry; exact PySem.EqNone.eq_str_none (aV I q (by simp))
   | bl j=>cases ry; exact PySem.EqMixed.eq_str_bool (aV I q (by simp))
   | int j=>obtain ⟨t',rfl⟩:=ry; exact PySem.EqMixed.eq_str_int (aV I q (by simp))
   | str j=>obtain ⟨t',rfl⟩:=ry; exact eq_str (aV I q ph)
   | _=>exact absurd (show false=true from hs) G7
 | byt i=>
   obtain ⟨t,rfl⟩:=rx
   cases y with
   | byt j=>obtain ⟨t',rfl⟩:=ry; exact PySem.W.eq_bytes (aV I q oZ)
   | _=>exact absurd (show false=true from hs) G7
 | _=>cases y <;> exact absurd (show false=true from hs) G7
theorem Dp:eW X (compareOp .NotEq) FU:=by
 intro pins s σ H x y v u Q I rx ry h
 obtain ⟨hs,q⟩:=h
 cases x with
 | bq=>
   cases rx
   cases y with
   | bq=>cases ry; exact PySem.EqNone.ne_none_none (aV I q (by simp))
   | bl j=>cases ry; exact PySem.EqNone.ne_none_bool (aV I q (by simp))
   | int j=>obtain ⟨t',rfl⟩:=ry; exact PySem.EqNone.ne_none_int (aV I q (by simp))
   | str j=>obtain ⟨t',rfl⟩:=ry; exact PySem.EqNone.ne_none_str (aV I q (by simp))
   | _=>exact absurd (show false=true from hs) G7
 | bl i=>
   cases rx
   cases y with
   | bq=>cases ry; exact PySem.EqNone.ne_bool_none (aV I q (by simp))
   | bl j=>cases ry; exact ne_bool (aV I q (congrArg not sF))
   | str j=>obtain ⟨t',rfl⟩:=ry; exact PySem.EqMixed.ne_bool_str (aV I q (by simp))
   | _=>exact absurd (show false=true from hs) G7
 | int i=>
   obtain ⟨t,rfl⟩:=rx
   cases y with
   | bq=>cases ry; exact PySem.EqNone.ne_int_none (aV I q (by simp))
   | int j=>obtain ⟨t',rfl⟩:=ry; exact ne_int (aV I q (congrArg not pd))
   | str j=>obtain ⟨t',rfl⟩:=ry; exact PySem.EqMixed.ne_int_str (aV I q (by simp))
   | _=>exact absurd (show false=true from hs) G7
 | str i=>
   obtain ⟨t,rfl⟩:=rx
   cases y with
   | bq=>cases ry; exact PySem.EqNone.ne_str_none (aV I q (by simp))
   | bl j=>cases ry; exact PySem.EqMixed.ne_str_bool (aV I q (by simp))
   | int j=>obtain ⟨t',rfl⟩:=ry; exact PySem.EqMixed.ne_str_int (aV I q (by simp))
   | str j=>obtain ⟨t',rfl⟩:=ry; exact ne_str (aV I q (congrArg not ph))
   | _=>exact absurd (show false=true from hs) G7
 | byt i=>
   obtain ⟨t,rfl⟩:=rx
   cases y with
   | byt j=>obtain ⟨t',rfl⟩:=ry; exact PySem.W.ne_bytes (aV I q (congrArg not oZ))
   | _=>exact absurd (show false=true from hs) G7
 | _=>cases y <;> exact absurd (show false=true from hs) G7

theorem Dn:eW X (compareOp .Lt) (rZ fun i j=>.bl (decide (i < j))):=AH fun _ _ _ _ _ _ _ q=>lt_int q
theorem Dm:eW X (compareOp .Gt) (rZ fun i j=>.bl (decide (j < i))):=AH fun _ _ _ _ _ _ _ q=>gt_int q
theorem Dl:eW X (compareOp .GtE) (rZ fun i j=>.bl (decide (j<=i))):=AH fun _ _ _ _ _ _ _ q=>ge_int q
/-- is None,is not None: the right side a value none -/
theorem AN:eW X (compareOp .Is) (fun x y H Q=>y=.bq/\Q (.bl (decide (x=.bq))) H):=by
 intro pins s σ H x y v u Q I rx ry h
 obtain ⟨rfl,q⟩:=h
 cases ry
 refine is_none_gen (aV I q ?_)
 cases x <;> first
   | (cases rx; rfl)
   | (obtain ⟨t,rfl⟩:=rx; rfl)
theorem xP:eW X (compareOp .IsNot) (fun x y H Q=>y=.bq/\Q (.bl (!decide (x=.bq))) H):=by
 intro pins s σ H x y v u Q I rx ry h
 obtain ⟨rfl,q⟩:=h
 cases ry
 refine isnot_none_gen (aV I q ?_)
 cases x <;> first
   | (cases rx; rfl)
   | (obtain ⟨t,rfl⟩:=rx; rfl)

theorem oA (b:Expr){op:CmpOp}(h:op≠.In:=by decide)(h2:op≠.NotIn:=by decide):behindInMarks op b=false:=by
 have e1:(op == CmpOp.In)=false:=by cases op <;> first | rfl | exact absurd rfl h
 have e2:(op == CmpOp.NotIn)=false:=by cases op <;> first | rfl | exact absurd rfl h2
 cases b <;> simp [behindInMarks,e1,e2]
/-- a nP as a value; hm: oA b,or (for in,not in) by with_unfolding_all rfl -/
theorem xU {op:CmpOp}{r:R2}(ho:eW X (compareOp op) r)(ha:PE X a ta)(hb:PE X b tb)(hm:behindInMarks op b=false):PE X (.Compare a [op] [b] pos) (zx r ta tb):=by
 intro pins s σ H Q I h
 exact wpAny_Compare1 (zL ha hb I h fun v u s2 x y H2 I2 rx ry q=>ho pins s2 σ H2 x y v u Q I2 rx ry q) hm
/-- a reading of a value as a test -/
def zy (t:TE):TT:=fun σ H Q=>t σ H fun x H'=>∃k,x=.bl k/\Q k H'
theorem yk {op:CmpOp}{r:R2}(ho:eW X (compareOp op) r)(ha:PE X a ta)(hb:PE X b tb)(hm:behindInMarks op b=false):PT X (.Compare a [op] [b] pos) (zy (zx r ta tb)):=by
 intro pins s σ H Q I h
 refine wpAny_isTrue_Compare1 (bb (ha pins s σ H _ I h) fun v s1 ⟨x,H1,I1,r1,q1⟩=>bb (hb pins s1 σ H1 _ I1 q1) fun u s2 ⟨y,H2,I2,r2,q2⟩=>
   bb (ho pins s2 σ H2 x y v u _ I2 r1 r2 q2) fun c s3 ⟨z,H3,I3,r3,k,e,q3⟩=>?_) hm
 subst e
 cases r3
 exact wpAny_truthy_bool ⟨H3,I3,q3⟩
/-! ### truth -/
theorem gU:(sizeLine:Nat) < 2 ^ 63:=by rw [sizeLine_eq]; decide
/-! ### strs and bytes -/
/-! ### scalar builtins,by bZ -/
theorem vals1 {x:V}{us:List Value}(r:Vals [x] us):∃u,us=[u]/\RelV x u:=by
 cases r with
 | cons r1 r2=>cases r2; exact ⟨_,rfl,r1⟩
theorem qa:bZ X (.type "int") (fun xs H Q=>(∃i,xs=[.int i]/\Q (.int i) H)\/∃k,xs=[.bl k]/\Q (.int (if k then 1 else 0)) H):=by
 intro pins s σ H xs us Q I r h
 rcases h with ⟨i,rfl,q⟩ | ⟨k,rfl,q⟩
 · obtain ⟨u,rfl,t,rfl⟩:=vals1 r
   exact call_int_int ⟨.int i,H,I,⟨_,rfl⟩,q⟩
 · obtain ⟨u,rfl,r1⟩:=vals1 r
   cases r1
   exact call_int_bool ⟨.int (if k then 1 else 0),H,I.tok _,⟨_,rfl⟩,q⟩
theorem lB:bZ X (.type "str") (fun xs H Q=>∃i,xs=[.int i]/\i.natAbs.log2 < 1920/\Q (.str (toString i)) H):=by
 intro pins s σ H xs us Q I r h
 obtain ⟨i,rfl,hz,q⟩:=h
 obtain ⟨u,rfl,t,rfl⟩:=vals1 r
 exact PySem.P.str_of_int hz ⟨.str _,H,I.tok _,⟨_,rfl⟩,q⟩
end
end L2

namespace L2
open PySem PySem.Spec PyProof.Rows

/-! ### an instance,its attributes a map -/
structure nD (h:Heap)(x dx C:Addr)(mA:Str->Option Value):Prop where
 obj:h.get? x=some (Ii C dx)
 ns:h.Ns1 dx mA
 ne:dx≠x

theorem qZ {h:Heap}{dx:Addr}{mA:Str->Option Value}(n:h.Ns1 dx mA):∃od,h.get? dx=some od/\∀name,Jx name od=some (mA name):=by
 obtain ⟨o,es,ep,ho,hd,hk,_,hm⟩:=n
 refine ⟨o,ho,fun name=>?_⟩
 have e:=hm name
 unfold nsFind findBy at e
 rw [← Array.find?_toList] at e
 unfold Jx
 rw [hd]
 dsimp only
 split
 · rename_i y q
   rw [q] at e
   exact congrArg some e
 · rename_i q
   rw [q] at e
   have a:es.toList.any (·.refKey)=false:=by
     rw [JW]
     intro y hy
     obtain ⟨z,t,EZ⟩:=hk y (Array.mem_toList_iff.mp hy)
     simp [DictEntry.refKey,EZ]
   have a':¬ es.toList.any (·.refKey)=true:=by rw [a]; exact G7
   rw [if_neg a']
   exact congrArg some e

theorem nD.look {h:Heap}{x dx C:Addr}{mA:Str->Option Value}(I:nD h x dx C mA):∃od,PySem.W.InstAt h x (Ii C dx) C (some od)/\∀name,Jx name od=some (mA name):=
 let ⟨od,ho,hl⟩:=qZ I.ns
 ⟨od,⟨I.obj,rfl,rfl,ho⟩,hl⟩

section
variable {prog:Program}{w:World}{A:Around}{E:Value->Shared->Prop}{s:Shared}{K:GP}{x dx C f:Addr}{mA:Str->Option Value}{name:Str}{v:Value}

theorem get_map {expr:Bool}{Q:Value->Shared->Prop}(X:K.In s.heap)(I:nD s.heap x dx C mA)(hg:Jl K C name=true)(hh:JR K C=true)
   (ha:Ia K (.ref C) name=some none) (hv:mA name=some v) (hv':PySem.W.handedIn v=true) (h:Q v { s with toks:=s.toks + 1 }) :
   wpAny (model prog w) A (getAttr (.ref x) name expr) Q E s:=by
 obtain ⟨od,J,hl⟩:=I.look
 exact PySem.W.get_value X J (JD hg).1 (PySem.W.findObj_own hh ha rfl (by rw [hl,hv])) hv' h

theorem tD {pl:Sem Bool}{Q:Value×List Value->Shared->Prop}(X:K.In s.heap)(I:nD s.heap x dx C mA)(hg:Jl K C name=true)
   (hf:Ia K (.ref C) name=some (some (.ref f))) (ht:Ku K (.ref f)=true) (hv:mA name=none) (h:Q (.ref f,[.ref x]) s) :
   wpAny (model prog w) A (getMethod (.ref x) name pl) Q E s:=by
 obtain ⟨od,J,hl⟩:=I.look
 exact PySem.W.method_fn X J (JD hg).1 (JD hg).2 hf (beq_iff_eq.mp ht) (by show (Jx name od).map (·.isSome)=some false; rw [hl,hv]; rfl) h

theorem yw {ns:List Str}{Q:Unit->Shared->Prop}(X:K.In s.heap)(I:nD s.heap x dx C mA)
   (hs:Ia K (.ref C) "__setattr__"=some (some (.builtin "object.__setattr__"))) (hp:KP K C=true) (ht:JX K C name=some none) (hh:JR K C=true)
   (hw:KC mA ns) (hsz:ns.length<=sizeLine)
   (h:∀h',nD h' x dx C (fun y=>if y=name then some v else mA y)->Iw dx s.heap h'->Q () { s with heap:=h',toks:=s.toks + 2 }) :
   wpAny (model prog w) A (setAttr (.ref x) name v) Q E s:=by
 obtain ⟨od,J,hl⟩:=I.look
 refine PySem.W.set_plain X J hs (PySem.W.osa_open (s:={ s with toks:=s.toks + 1 }) (r:=none) X J hp ht fun b=>?_)
 obtain ⟨cd,hc,hd'⟩:=PySem.W.any_some hh
 have hx:s.heap.get? x=some ⟨.ref C,some dx,.plain,#[]⟩:=I.obj
 refine wpAny_bind (wpAny_pure (wpAny_bind (wpAny_bind (wpAny_loadPart hx (wpAny_bind (PySem.W.Looks.here (s:={ s with toks:=s.toks + 1 }) (PySem.W.looks_clsIn X hc) ?_))))))
 rw [hd']
 refine wpAny_pure (a:=some dx) (wpAny_bind (wpAny_pure (wpAny_bind ?_)))
 refine wpAny_nsSet1 (s:={ s with toks:=s.toks + 1 }) I.ns fun h' hn2 hs2=>?_
 obtain ⟨oD,GK,GJ,Gn,Gi,Gh⟩:=hn2.count (PySem.Within.cons name v hw)
 refine wpAny_bind (wpAny_lookBehind Gn (by rw [Gi]; exact pastItsLine_dict (GY Gh (by rw [G5]; omega))) ?_)
 exact wpAny_pure (h _ ⟨(hs2.2 _ (Ne.symm I.ne)).trans I.obj,hn2,I.ne⟩ hs2)

/-- C(..): the dict at the heap's end,the instance behind it; then its r8 -/
theorem uo {R:Result->Shared->Prop}{vs:List Value}{kw:List (Str×Value)}(X:K.In s.heap)(hm:PySem.W.makesIn K C=true)
   (hi:Ia K (.ref C) "__init__"=some (some (.ref f))) (hf:PySem.W.typeIn K (.ref f)=some (.type "function"))
   (h:codeAny (model prog w) (A.under (.builtin "type.__call__" ⟨.ref C :: vs,kw⟩)) (.call (.ref f) ⟨.ref (s.heap.objs.size + 1) :: vs,kw⟩) (PySem.W.InitBack (s.heap.objs.size + 1) R)
     { s with heap:=(s.heap.push HW).push (Ii C s.heap.objs.size) }) :
   codeAny (model prog w) A (.call (.ref C) ⟨vs,kw⟩) R s:=by
 obtain ⟨hh,g,d,t,os⟩:=s
 exact PySem.W.make_core (PySem.W.makes_of X hm) (PySem.W.looks_findIn X hi) (fun self=>PySem.W.bind_fn X self hf) (.inl rfl) h
end

/-! ### the attributes as a list of pairs -/
def d7 (f:Str)(v:V):List (Str×V)->List (Str×V)
 | []=>[(f,v)]
 | (g,x) :: r=>if g=f then (g,v) :: r else (g,x) :: d7 f v r
theorem hW (f g:Str)(v:V):∀fs:List (Str×V),(d7 f v fs).lookup g=if g=f then some v else fs.lookup g
 | []=>by
   show Jb g [(f,v)]=_
   by_cases h:g=f
   · have hb:(g == f)=true:=beq_iff_eq.mpr h
     simp only [Jb,hb,if_pos h]
   · have hb:(g == f)=false:=beq_eq_false_iff_ne.mpr h
     simp only [Jb,hb,if_neg h]
 | (k,x) :: r=>by
   have ih:=hW f g v r
   rw [show d7 f v ((k,x) :: r)=(if k=f then (k,v) :: r else (k,x) :: d7 f v r) from rfl]
   by_cases hk:k=f
   · rw [if_pos hk]
     by_cases h:g=k
     · have hb:(g == k)=true:=beq_iff_eq.mpr h
       simp only [Jb,hb,if_pos (h.trans hk)]
     · have hb:(g == k)=false:=beq_eq_false_iff_ne.mpr h
       simp only [Jb,hb,if_neg (fun e:g=f=>h (e.trans hk.symm))]
   · rw [if_neg hk]
     by_cases h:g=k
     · have hb:(g == k)=true:=beq_iff_eq.mpr h
       simp only [Jb,hb,if_neg (fun e:g=f=>hk (h.symm.trans e))]
     · have hb:(g == k)=false:=beq_eq_false_iff_ne.mpr h
       simp only [Jb,hb]
       exact ih
theorem gS (f:Str)(v:V):∀fs:List (Str×V),f∈(d7 f v fs).map (·.1)/\∀g,g∈fs.map (·.1)->g∈(d7 f v fs).map (·.1)
 | []=>⟨by simp [d7],fun g h=>by simp at h⟩
 | (k,x) :: r=>by
   obtain ⟨i1,i2⟩:=gS f v r
   rw [show d7 f v ((k,x) :: r)=(if k=f then (k,v) :: r else (k,x) :: d7 f v r) from rfl]
   by_cases hk:k=f
   · rw [if_pos hk]
     subst hk
     exact ⟨by simp,fun g h=>by simpa using h⟩
   · rw [if_neg hk]
     refine ⟨?_,fun g h=>?_⟩
     · rw [Hi]
       exact G0 _ i1
     · rw [Hi] at h ⊢
       rcases List.mem_cons.mp h with e | e
       · exact List.mem_cons.mpr (.inl e)
       · exact G0 _ (i2 g e)
theorem hV (f:Str)(v:V):∀fs:List (Str×V),(d7 f v fs).length<=fs.length + 1
 | []=>by simp [d7]
 | (k,x) :: r=>by
   have ih:=hV f v r
   rw [show d7 f v ((k,x) :: r)=(if k=f then (k,v) :: r else (k,x) :: d7 f v r) from rfl]
   by_cases hk:k=f
   · rw [if_pos hk,G5,G5]; omega
   · rw [if_neg hk,G5,G5]; omega

theorem cS.some_of {v:V}{o:Option Value}(r:cS (some v) o):∃u,o=some u/\RelV v u:=by
 cases o with
 | none=>exact (show False from r).elim
 | some u=>exact ⟨u,rfl,r⟩
theorem cS.none_of {o:Option Value}(r:cS none o):o=none:=by
 cases o with
 | none=>rfl
 | some u=>exact (show False from r).elim
theorem qE {v:V}{u:Value}(r:RelV v u):PySem.W.handedIn u=true:=by
 cases v with
 | bq=>cases (show u=Ip from r); rfl
 | bl b=>cases (show u=I0 b from r); rfl
 | int i=>obtain ⟨t,e⟩:=(show ∃t,u=I9 i t from r); cases e; rfl
 | str x=>obtain ⟨t,e⟩:=(show ∃t,u=IU x t from r); cases e; rfl
 | byt b=>obtain ⟨t,e⟩:=(show ∃t,u=Value.bytes b t from r); cases e; rfl
 | flt b=>obtain ⟨t,e⟩:=(show ∃t,u=KO b t from r); cases e; rfl
 | ref a=>cases (show u=HC a from r); rfl
 | ty n=>cases (show u=IZ n from r); rfl

section
variable {P:Program}{w:World}{H H':Hp}{h h':Heap}{a C dx:Addr}{fs Cg:List (Str×V)}
theorem iH (hok:fk P w H h)(e:H a=some (.ins C dx fs)):∃mA,nD h a dx C mA/\(∀f,cS (fs.lookup f) (mA f))/\KC mA (fs.map (·.1))/\fs.length<=1000/\H dx=some (.own a):=by
 obtain ⟨d,z,ne,ob,mA,n,r,q⟩:=(show a8 P w H h a (.ins C dx fs) from hok a _ e)
 exact ⟨mA,⟨ob,n,ne⟩,r,q,z,d⟩
end

/-! ### what of the text a class must have -/
structure nA (K:GP)(C:Addr):Prop where
 pg:Jl K C HM=true
 hd:JR K C=true
 po:KP K C=true
 sa:Ia K (.ref C) "__setattr__"=some (some (.builtin "object.__setattr__"))
theorem nA.get {K:GP}{C:Addr}(c:nA K C)(f:Str):Jl K C f=true:=c.pg
/-- no class of it has the name -/
def b9 (K:GP)(C:Addr)(f:Str):Prop:=Ia K (.ref C) f=some none
theorem b9.Ef {K:GP}{C:Addr}{f:Str}(n:b9 K C f):JX K C f=some none:=by
 unfold JX
 rw [show Ia K (.ref C) f=some none from n]
 rfl
/-- a method: a plain def of the class or of one above it -/
structure Meth (K:GP)(C:Addr)(m:Str)(f:Addr):Prop where
 at_:Ia K (.ref C) m=some (some (.ref f))
 fn:Ku K (.ref f)=true
 kp:IA K (.ref f)=true

section
variable {X:Cx}{pins:List (Addr×Obj)}{σ:St}{H:Hp}{s:Shared}{a C dx:Addr}{fs:List (Str×V)}{f:Str}{v:V}{A:Around}{E:Value->Shared->Prop}

theorem jv {b:Bool}{Q:Value->Shared->Prop}(I:Inv X pins σ H s)(e:H a=some (.ins C dx fs))(c:nA X.K C)(n:b9 X.K C f)(l:fs.lookup f=some v)
   (h:∀u s',Inv X pins σ H s'->RelV v u->Q u s'):wpAny (model X.prog X.w) A (getAttr (.ref a) f b) Q E s:=by
 obtain ⟨mA,O,r,_,_,_⟩:=iH I.hok e
 obtain ⟨u,hu,ru⟩:=cS.some_of (v:=v) (o:=mA f) (by rw [← l]; exact r f)
 exact get_map I.kIn O (c.get f) c.hd n hu (qE ru) (h u _ (I.tok _) ru)

theorem jw {m:Str}{g:Addr}{pl:Sem Bool}{Q:Value×List Value->Shared->Prop}(I:Inv X pins σ H s)(e:H a=some (.ins C dx fs))(c:nA X.K C)(k:Meth X.K C m g)(l:fs.lookup m=none)
   (h:Q (.ref g,[.ref a]) s):wpAny (model X.prog X.w) A (getMethod (.ref a) m pl) Q E s:=by
 obtain ⟨mA,O,r,_,_,_⟩:=iH I.hok e
 have hn:mA m=none:=cS.none_of (by rw [← l]; exact r m)
 exact tD I.kIn O (c.get m) k.at_ k.fn hn h

theorem jL {y:V}{u:Value}{Q:Unit->Shared->Prop}(I:Inv X pins σ H s)(e:H a=some (.ins C dx fs))(c:nA X.K C)(n:b9 X.K C f)(hl:fs.length < 1000)(ry:RelV y u)
   (h:∀s',Inv X pins σ (upd H a (.ins C dx (d7 f y fs))) s'->Q () s'):wpAny (model X.prog X.w) A (setAttr (.ref a) f u) Q E s:=by
 obtain ⟨mA,O,r,wi,_,ho⟩:=iH I.hok e
 have hz:(fs.map (·.1)).length<=sizeLine:=by rw [GR,sizeLine_eq]; omega
 refine yw I.kIn O c.sa c.po n.Ef c.hd wi hz fun h' O' sb=>h _ ?_
 have hd:∃o,h'.get? dx=some o:=let ⟨o,_,_,e',_⟩:=O'.ns; ⟨o,e'⟩
 refine I.write (x:=a) (e:=dx) (by rw [e]; exact Ht) (.inr ho) (fun b q hb z=>(sb.2 b hb).trans z) hd ?_
 refine ⟨by rw [aj O.ne]; exact ho,?_,O.ne,O'.obj,_,O'.ns,fun g=>?_,fun g hg=>?_⟩
 · have:=hV f y fs; omega
 · show cS ((d7 f y fs).lookup g) (if g=f then some u else mA g)
   rw [hW]
   by_cases q:g=f
   · rw [if_pos q,if_pos q]; exact ry
   · rw [if_neg q,if_neg q]; exact r g
 · by_cases q:g=f
   · rw [q]; exact (gS f y fs).1
   · refine (gS f y fs).2 g (wi g fun z=>hg ?_)
     show (if g=f then some u else mA g)=none
     rw [if_neg q]; exact z

/-- a new instance,tracked,without attributes -/
theorem Inv.made (I:Inv X pins σ H s):Inv X pins σ (upd (upd H s.heap.objs.size (.own (s.heap.objs.size + 1))) (s.heap.objs.size + 1) (.ins C s.heap.objs.size []))
   { s with heap:=(s.heap.push HW).push (Ii C s.heap.objs.size) }:=by
 have e1:(s.heap.push HW).get? s.heap.objs.size=some HW:=G9 s.heap rfl
 have e2:((s.heap.push HW).push (Ii C s.heap.objs.size)).get? (s.heap.objs.size + 1)=some (Ii C s.heap.objs.size):=by
   have:=G9 (s.heap.push HW) (o:=Ii C s.heap.objs.size) rfl
   rwa [Jg] at this
 have e3:(s.heap.push HW).Ns s.heap.objs.size (fun _=>none):=⟨HW,#[],_,e1,rfl,(fun e he=>absurd he (by simp)),fun _=>rfl⟩
 have I1:=I.laid (a:=s.heap.objs.size) (o:=.own (s.heap.objs.size + 1)) (h':=s.heap.push HW) (t':=s.toks) (fun b u q=>GV _ q) (GX _) ⟨_,e1⟩
 refine I1.laid (a:=s.heap.objs.size + 1) (o:=.ins C s.heap.objs.size []) (t':=s.toks) (fun b u q=>GV _ q) (Nat.le_of_eq (Jg _ _)) ?_
 have ne:s.heap.objs.size≠s.heap.objs.size + 1:=HE (Iu _)
 refine ⟨by rw [aj ne,ae],HD _,ne,e2,fun _=>none,(Heap.Ns1.of_empty e3).at fun o q=>GV _ q,fun _=>Ht,fun y hy=>absurd rfl hy⟩

/-- e.f where nothing but the object is asked: through attributeBase (super) and the last hold -/
theorem wt {prog:Program}{w:World}{env:Env}{e:Expr}{f:Str}{pos:Pos}{s:Shared}{Q:Value->Shared->Prop}(hb:attributeBase e f env (eval e env)=eval e env)
   (h:wpAny (model prog w) A (eval e env) (fun o s₁=>wpAny (model prog w) A (getAttr o f true) Q E s₁) E s):wpAny (model prog w) A (eval (.Attribute e f pos) env) Q E s:=
 Attribute_any_ h (by rw [arm_eval_Attribute,hb])
end

/-! ### readings and rules -/
/-- e.f,an attribute of the instance -/
def D7 (K:GP)(ta:TE)(f:Str):TE:=fun σ H Q=>ta σ H fun x H1=>∃a C dx fs v,x=.ref a/\H1 a=some (.ins C dx fs)/\nA K C/\b9 K C f/\fs.lookup f=some v/\Q v H1
/-- e.f=value -/
def DQ (K:GP)(ta tv:TE)(f:Str):TS:=fun D σ H=>tv σ H fun y H1=>ta σ H1 fun x H2=>∃a C dx fs,x=.ref a/\H2 a=some (.ins C dx fs)/\nA K C/\b9 K C f/\fs.length < 1000 /\
 D.nx σ (upd H2 a (.ins C dx (d7 f y fs)))
/-- an Cd operator on two values -/
def Cs (X:Cx)(op:Operator)(rd:V->V->Hp->VK->Prop):Prop:=
 ∀(pins:List (Addr×Obj)) (s:Shared) (σ:St) (H:Hp) (x y:V) (u v:Value) (Q:VK),Inv X pins σ H s->RelV x u->RelV y v->rd x y H Q->wpAny (model X.prog X.w) X.A (inplaceOp op u v) (EP X pins σ Q) X.xe s
/-- e.f op= value -/
def pQ (K:GP)(ta tv:TE)(rd:V->V->Hp->VK->Prop)(f:Str):TS:=fun D σ H=>ta σ H fun x H1=>∃a C dx fs v,x=.ref a/\H1 a=some (.ins C dx fs)/\nA K C/\b9 K C f/\fs.lookup f=some v /\
 tv σ H1 fun y H2=>rd v y H2 fun z H3=>∃EV Cg,H3 a=some (.ins C EV Cg)/\Cg.length < 1000/\D.nx σ (upd H3 a (.ins C EV (d7 f z Cg)))

section
variable {X:Cx}{o e value:Expr}{f:Str}{pos pos' tpos:Pos}{ta tv:TE}
theorem A5 (he:PE X e ta)(hb:attributeBase e f X.env (eval e X.env)=eval e X.env):PE X (.Attribute e f pos) (D7 X.K ta f):=by
 intro pins s σ H Q I h
 refine wt hb (bb (he pins s σ H _ I h) fun u s1 ⟨x,H1,I1,rx,a,C,dx,fs,v,ex,ea,c,n,l,q⟩=>?_)
 subst ex
 obtain rfl:u=HC a:=rx
 exact jv I1 ea c n l fun u' s2 I2 ru=>⟨v,H1,I2,ru,q⟩
theorem Bs (ha:PE X o ta)(hv:PE X value tv)(hs:swapsWith value (some (.Attribute o f pos')) pos.line X.env=pure false):PS X (.Assign [.Attribute o f pos'] value pos) (DQ X.K ta tv f):=by
 intro pins s σ H D I h
 refine plainObj_wpAny_Assign_Attribute (bb (hv pins s σ H _ I h) fun u s1 ⟨y,H1,I1,ry,q⟩=>bb (ha pins s1 σ H1 _ I1 q) fun ov s2 ⟨x,H2,I2,rx,a,C,dx,fs,ex,ea,c,n,l,q2⟩=>?_) hs
 subst ex
 obtain rfl:ov=HC a:=rx
 exact jL I2 ea c n l ry fun s3 I3=>⟨σ,_,I3,q2⟩
theorem rJ {op:Operator}{rd:V->V->Hp->VK->Prop}(ha:PE X o ta)(hv:PE X value tv)(hop:Cs X op rd):PS X (.AugAssign (.Attribute o f tpos) op value pos) (pQ X.K ta tv rd f):=by
 intro pins s σ H D I h
 refine wpAny_AugAssign_AttributeAny (bb (ha pins s σ H _ I h) fun ov s1 ⟨x,H1,I1,rx,a,C,dx,fs,v,ex,ea,c,n,l,q⟩=>?_)
 subst ex
 obtain rfl:ov=HC a:=rx
 refine jv I1 ea c n l fun u s2 I2 ru=>bb (hv pins s2 σ H1 _ I2 q) fun w3 s3 ⟨y,H2,I3,ry,q3⟩=>bb (hop pins s3 σ H2 v y u w3 _ I3 ru ry q3) fun w4 s4 ⟨z,H3,I4,rz,EV,Cg,Gg,l',q4⟩=>?_
 exact jL I4 Gg c n l' rz fun s5 I5=>⟨σ,_,I5,q4⟩
def DF:V->V->Hp->VK->Prop:=fun x y H Q=>∃i j,x=.int i/\y=.int j/\Q (.int (i + j)) H
theorem Ac:Cs X .Add DF:=by
 rintro pins s σ H x y u v Q I rx ry ⟨i,j,rfl,rfl,q⟩
 obtain ⟨t,rfl⟩:=(show ∃t,u=I9 i t from rx)
 obtain ⟨t',rfl⟩:=(show ∃t',v=I9 j t' from ry)
 exact PyProof.Rows.iadd_int ⟨.int (i + j),H,I.tok _,⟨_,rfl⟩,q⟩
end

/-! ### isinstance -/
section
variable {X:Cx}{pins:List (Addr×Obj)}{σ:St}{H:Hp}{s:Shared}{A:Around}{E:Value->Shared->Prop}{Q:Value->Shared->Prop}{c:Value}{b:Bool}
/-- the type of a value,as the zT CD take it; for an instance its class -/
inductive TyOf (K:GP) (H:Hp):V->Value->Prop where
 | bq:TyOf K H .bq (.type "NoneType")
 | bl (x:Bool):TyOf K H (.bl x) (.type "bool")
 | int (i:Int):TyOf K H (.int i) (.type "int")
 | str (x:Str):TyOf K H (.str x) (.type "str")
 | flt (x:UInt64):TyOf K H (.flt x) (.type "float")
 | lst {a:Addr} {xs:List V} (e:H a=some (.lst xs)):TyOf K H (.ref a) (.type "list")
 | frz {a:Addr} {o:Obj} {xs:List V} (e:H a=some (.frz o (.lst xs))):TyOf K H (.ref a) (.type "list")
 | tup {a:Addr} {xs:List V} (e:H a=some (.tup xs)):TyOf K H (.ref a) (.type "tuple")
 | dK {a:Addr} {kvs:List (Key×V)} (e:H a=some (.dK kvs)):TyOf K H (.ref a) (.type "dict")
 | dT {a:Addr} {kvs:List (List Key×V)} (e:H a=some (.dT kvs)):TyOf K H (.ref a) (.type "dict")
 | ins {a C dx:Addr} {fs:List (Str×V)} (e:H a=some (.ins C dx fs)) (cl:nA K C) (ha:Ia K (.ref C) "__class__"=some (some (.builtin "object.__class__")))
     (hn:PySem.W.specialIn K (.builtin "object.__class__") "__get__"=some (some (.builtin "getset_descriptor.__get__"))) (htk:PySem.W.takesIn K (.builtin "object.__class__")=some true)
     (hm:PySem.W.mroIn K C (.type "object")=some true):TyOf K H (.ref a) (.ref C)
/-- isinstance(x,c) for one class c,a built-in or an own one: CY answer -/
theorem qT {x:V}{u t:Value}(I:Inv X pins σ H s)(rx:RelV x u)(ty:TyOf X.K H x t)(e:Jy X.K t c=some b)(h:∀tk,Q (.bool b) { s with toks:=tk }) :
   wpAny (model X.prog X.w) A (call (.builtin "isinstance") [u,c]) Q E s:=by
 cases ty with
 | bq=>cases (show u=Ip from rx); exact HS PySem.W.kitx_none I.kIn Ht e (fun z=>nomatch z) h
 | bl y=>cases (show u=I0 y from rx); exact HS PySem.W.kitx_bool I.kIn Ht e (fun z=>nomatch z) h
 | int i=>obtain ⟨t,q⟩:=(show ∃t,u=I9 i t from rx); cases q; exact HS PySem.W.kitx_int I.kIn Ht e (fun z=>nomatch z) h
 | str y=>obtain ⟨t,q⟩:=(show ∃t,u=IU y t from rx); cases q; exact HS PySem.W.kitx_str I.kIn Ht e (fun z=>nomatch z) h
 | flt y=>obtain ⟨t,q⟩:=(show ∃t,u=KO y t from rx); cases q; exact HS PySem.W.kitx_float I.kIn Ht e (fun z=>nomatch z) h
 | @lst a xs ea=>
   cases (show u=HC a from rx)
   obtain ⟨_,_,n,_,h1⟩:=(show a8 X.prog X.w H s.heap a (.lst xs) from I.hok a _ ea)
   exact HS JQ I.kIn ⟨_,h1,rfl⟩ e (fun z=>nomatch z) h
 | @frz a ob xs ea=>
   cases (show u=HC a from rx)
   obtain ⟨_,_,_,n,_,h1⟩:=(show a8 X.prog X.w H s.heap a (.frz ob (.lst xs)) from I.hok a _ ea)
   exact HS JQ I.kIn ⟨_,h1,rfl⟩ e (fun z=>nomatch z) h
 | @tup a xs ea=>
   cases (show u=HC a from rx)
   obtain ⟨_,_,_,p⟩:=(show a8 X.prog X.w H s.heap a (.tup xs) from I.hok a _ ea)
   obtain ⟨o,h1,h2,_⟩:=p
   exact HS KJ I.kIn ⟨o,h1,h2⟩ e (fun z=>nomatch z) h
 | @dK a kvs ea=>
   cases (show u=HC a from rx)
   obtain ⟨_,_,vs,_,p⟩:=(show a8 X.prog X.w H s.heap a (.dK kvs) from I.hok a _ ea)
   obtain ⟨o,es,ep,h1,h2,_⟩:=p
   exact HS KQ I.kIn ⟨o,h1,h2.1⟩ e (fun z=>nomatch z) h
 | @dT a kvs ea=>
   cases (show u=HC a from rx)
   obtain ⟨_,_,xs,_,o,es,ep,h1,h2,_⟩:=(show a8 X.prog X.w H s.heap a (.dT kvs) from I.hok a _ ea)
   exact HS KQ I.kIn ⟨o,h1,h2.1⟩ e (fun z=>nomatch z) h
 | @ins a C dx fs ea cl ha hn htk hm=>
   cases (show u=HC a from rx)
   obtain ⟨mA,O,_⟩:=iH I.hok ea
   obtain ⟨od,J,_⟩:=O.look
   exact HS (PySem.W.kitx_own (cl.get _) cl.hd ha hn htk hm) I.kIn J e (fun z=>nomatch z) h
end
end L2

namespace L2
open PySem PySem.Spec PyProof.Rows

/-! ### room -/
structure bP (k:Nat)(A:Around):Prop where
 hd:A.handled=none
 dp:A.depth + 3 * k + 5 < recursionLimit
 un:A.units + 16 * k + 200 < cLine
theorem bP.mono {j k:Nat}{A:Around}(r:bP k A)(h:j<=k):bP j A:=⟨r.hd,by have:=r.dp; omega,by have:=r.un; omega⟩
theorem bP.deeper {k:Nat}{A:Around}(r:bP (k + 1) A)(env:Env):bP k (A.deeper env):=
 ⟨r.hd,by have:=r.dp; show A.depth + 1 + 3 * k + 5 < _; omega,by have:=r.un; show A.units + 3 + 16 * k + 200 < _; omega⟩
theorem ot {A:Around}{C:Addr}{us:List Value}{kw:List (Str×Value)}:(A.under (.builtin "type.__call__" ⟨.ref C :: us,kw⟩)).depth=A.depth + 1:=by
 first | rfl | simp [KA,Code.weight,Code.isCreation,Code.isGuard,Code.isCaller,Code.frames,KN,guardIds]
theorem ou {A:Around}{C:Addr}{us:List Value}{kw:List (Str×Value)}:(A.under (.builtin "type.__call__" ⟨.ref C :: us,kw⟩)).units=A.units + 1:=by
 first | rfl | simp [KA,Code.cUnits,Code.frames,KN]
theorem bP.make {k:Nat}{A:Around}(r:bP (k + 1) A)(C:Addr)(us:List Value)(kw:List (Str×Value)):bP k (A.under (.builtin "type.__call__" ⟨.ref C :: us,kw⟩)):=
 ⟨r.hd,by have:=r.dp; rw [ot]; omega,by have:=r.un; rw [ou]; omega⟩
theorem bP.depth {k:Nat}{A:Around}(r:bP k A):A.depth < recursionLimit:=by have:=r.dp; omega
theorem bP.units {k:Nat}{A:Around}(r:bP k A):A.units + 64 < cLine:=by have:=r.un; omega
/-! ### argument lists and displays -/
def vV:TA:=fun _ H Q=>Q [] H
def vT (ta:TE)(tr:TA):TA:=fun σ H Q=>ta σ H fun x H1=>tr σ H1 fun xs H2=>Q (x :: xs) H2
section
variable {X:Cx}{e:Expr}{es:List Expr}{te:TE}{t:TA}{pos:Pos}
theorem A0:PA X [] vV:=fun _ _ _ _ H Q I h=>Jk ⟨[],H,I,.nil,h⟩
theorem xR (ha:PE X e te)(hr:PA X es t)(hs:starEach (e :: es) X.env=(false,eval e X.env) :: starEach es X.env:=by rfl):PA X (e :: es) (vT te t):=by
 intro pos pins s σ H Q I h
 rw [hs]
 show wpAny _ _ (spliced ((false,eval e X.env) :: backTo pos (starEach es X.env))) _ _ s
 refine IK (bb (ha pins s σ H _ I h) fun u s1 ⟨x,H1,I1,r1,q1⟩=>?_)
 exact bb (hr pos pins s1 σ H1 _ I1 q1) fun us s2 ⟨xs,H2,I2,r2,q2⟩=>⟨x :: xs,H2,I2,.cons r1 r2,q2⟩

/-- a tuple,a list of written items -/
def B0 (t:TA):TE:=fun σ H Q=>t σ H fun xs H1=>xs.length<=sizeLine/\∀p,H1 p=none->Q (.ref p) (upd H1 p (.tup xs))
def BY (t:TA):TE:=fun σ H Q=>t σ H fun xs H1=>xs.length<=sizeLine/\∀p,H1 p=none->Q (.ref p) (upd H1 p (.lst xs))
theorem Bd {x1}(h:PA X es t):PE X (.Tuple es x1 pos) (B0 t):=by
 intro pins s σ H Q I hq
 refine wpAny_Tuple_spliced (bb (h pos pins s σ H _ I hq) fun us s1 ⟨xs,H1,I1,r,z,q⟩=>⟨by rw [← r.length]; exact z,?_⟩)
 have hf:H1 s1.heap.objs.size=none:=I1.hok.fresh (GX _)
 refine ⟨.ref s1.heap.objs.size,upd H1 s1.heap.objs.size (.tup xs),I1.laid (t':=s1.toks) (fun b u e=>GV _ e) (GX _) ?_,rfl,q _ hf⟩
 exact ⟨z,us,r,⟨_,G9 _ rfl,rfl,_,rfl⟩⟩
theorem A9 (h:PA X es t):PE X (.List es pos) (BY t):=by
 intro pins s σ H Q I hq
 refine wpAny_List_spliced (bb (h pos pins s σ H _ I hq) fun us s1 ⟨xs,H1,I1,r,z,q⟩=>⟨by rw [← r.length]; exact z,?_⟩)
 have hf:H1 s1.heap.objs.size=none:=I1.hok.fresh (GX _)
 refine ⟨.ref s1.heap.objs.size,upd H1 s1.heap.objs.size (.lst xs),I1.laid (t':=s1.toks) (fun b u e=>GV _ e) (GX _) ?_,rfl,q _ hf⟩
 exact ⟨z,us,0,r,G9 _ rfl⟩
end

/-! ### what a def promises -/
/-- a def's promise: the bound arguments in the ng order,the heap,the wanted end,the wanted exception -/
abbrev Sp:=List V->Hp->VK->XK->Prop
/-- how an exception lies behind a call (file 08 gives it): the i9 frames,abstract heap and state ahead of the call,the iC,the exception,the state -/
abbrev CXT:=List Env->Hp->Shared->XK->Value->Shared->Prop

/-- the state at a call -/
structure nC (P:Program)(w:World)(K:GP)(mg:Str->Option Value)(base:Heap)(A:Around)(outer:List Env)(s:Shared)(H:Hp):Prop where
 frames:A.frames=some outer
 mod:Mod K mg base
 bs:∀b o,base.get? b=some o->s.heap.get? b=some o/\H b=none
 bsz:base.objs.size<=s.heap.objs.size
 ij:s.heap.FunFrames base outer
 frf:∀b∈sW outer,H b=none
 hok:fk P w H s.heap
 bare:AllBare s.gens
/-- a EL end -/
def CE (outer:List Env)(P:Program)(w:World)(H:Hp)(s:Shared)(Q:VK)(u:Value)(s':Shared):Prop:=
 ∃v H',s'.os=s.os/\AllBare s'.gens/\Un (sW outer) [] H H' s.heap s'.heap/\fk P w H' s'.heap/\RelV v u/\Q v H'
def CR (CX:CXT)(outer:List Env)(P:Program)(w:World)(H:Hp)(s:Shared)(Q:VK)(E:XK)(r:Result)(s':Shared):Prop:=
 match r with
 | .ok (.ret u)=>CE outer P w H s Q u s'
 | .ok _=>False
 | .error e=>CX outer H s E e s'
structure aL (P:Program)(w:World)(K:GP)(mg:Str->Option Value)(base:Heap)(CX:CXT)(k:Nat)(f:Addr)(fd:FuncData)(ps:List Str)(sp:Sp):Prop where
 len:∀vs H Q E,sp vs H Q E->vs.length=ps.length
 run:∀(A:Around) (outer:List Env) (s:Shared) (H:Hp) (args:Args) (us:List Value) (vs:List V) (Q:VK) (E:XK),bP k A->nC P w K mg base A outer s H->BindsTo s fd args (ps.zip us)->Vals vs us->sp vs H Q E ->
   codeAny (model P w) A (.call (.ref f) args) (CR CX outer P w H s Q E) s
theorem aL.mono {P:Program}{w:World}{K:GP}{mg:Str->Option Value}{base:Heap}{CX:CXT}{j k:Nat}{f:Addr}{fd:FuncData}{ps:List Str}{sp:Sp}(F:aL P w K mg base CX j f fd ps sp)(h:j<=k) :
   aL P w K mg base CX k f fd ps sp:=⟨F.len,fun A outer s H args us vs Q E hr=>F.run A outer s H args us vs Q E (hr.mono h)⟩
theorem nC.make {P:Program}{w:World}{K:GP}{mg:Str->Option Value}{base:Heap}{A:Around}{outer:List Env}{s:Shared}{H:Hp}(e:nC P w K mg base A outer s H)(C:Addr)(us:List Value)(kw:List (Str×Value)) :
   nC P w K mg base (A.under (.builtin "type.__call__" ⟨.ref C :: us,kw⟩)) outer s H:=⟨by first | exact e.frames | (simpa [KA,Code.envs,KN,pushEnvs] using e.frames),e.mod,e.bs,e.bsz,e.ij,e.frf,e.hok,e.bare⟩
section
variable {X:Cx}{pins:List (Addr×Obj)}{σ:St}{H:Hp}{s s':Shared}
/-- from a body: what a callee wants -/
theorem Inv.CH (I:Inv X pins σ H s):nC X.prog X.w X.K X.mg X.base X.A X.stack s H:=
 ⟨I.ok.frames,I.ok.mod,I.bs,GY I.ok.bsz I.sz,I.stack,I.stkFree,I.hok,I.bare⟩
/-- behind a call -/
theorem Inv.after {Q:VK}{u:Value}(I:Inv X pins σ H s)(h:CE X.stack X.prog X.w H s Q u s'):EP X pins σ Q u s':=by
 obtain ⟨v,H',os,bare,un,hok,r,q⟩:=h
 obtain ⟨hh,g,d,t,Gy⟩:=s'
 obtain rfl:Gy=s.os:=os
 exact ⟨v,H',I.call (h':=hh) (g':=g) (d':=d) (t':=t) (ch:=[]) un hok bare (fun b z=>absurd z (by simp)),r,q⟩
end

/-! ### calls -/
/-- f(..): the written arguments,then the defaults dvs; E: what is wanted of an exception -/
def vS (sp:Sp)(dvs:List V)(E:XK)(t:TA):TE:=fun σ H Q=>t σ H fun vs H1=>sp (vs++dvs) H1 Q E
/-- o.m(..) of an instance of the class at C -/
def p6 (C:Addr)(m:Str)(sp:Sp)(dvs:List V)(E:XK)(ta:TE)(t:TA):TE:=fun σ H Q=>ta σ H fun x H1=>∃a dx fs,x=.ref a/\H1 a=some (.ins C dx fs)/\fs.lookup m=none /\
 t σ H1 fun vs H2=>sp (x :: (vs++dvs)) H2 Q E
/-- C(..): a new instance and its dict,then r8 -/
def zq (C:Addr)(sp:Sp)(dvs:List V)(E:XK)(t:TA):TE:=fun σ H Q=>t σ H fun vs H1=>∀x dx,H1 x=none->H1 dx=none->dx≠x ->
 sp (.ref x :: (vs++dvs)) (upd (upd H1 dx (.own x)) x (.ins C dx [])) (fun v H2=>v=.bq/\Q (.ref x) H2) E

/-- how the parameters are bound: us the positional arguments,kw the Ck values by name,ds the defaults that fill up -/
def Binds (K:GP)(fd:FuncData)(ps:List Str)(ds:List Value):Prop:=
 ∀(s:Shared) (us:List Value),K.In s.heap->(us++ds).length=ps.length->BindsTo s fd ⟨us,[]⟩ (ps.zip (us++ds))
/-- pw parameter is given -/
theorem Binds.all {K:GP}{fd:FuncData}{ps:List Str}(h:∀us:List Value,us.length=ps.length->bindArgs fd ⟨us,[]⟩ = pure (ps.zip us)):Binds K fd ps []:=fun s us _ hl=>by
 rw [Hm] at hl ⊢
 exact .of_eq (h us hl)

/-- an exception of a callee Et what this body wants of exceptions -/
def Passes (CX:CXT)(X:Cx)(E:XK):Prop:=∀(pins:List (Addr×Obj)) (σ:St) (H:Hp) (s:Shared) (e:Value) (s':Shared),Inv X pins σ H s->CX X.stack H s E e s'->X.xe e s'

section
variable {X:Cx}{CX:CXT}{k:Nat}{f C:Addr}{fd:FuncData}{ps:List Str}{sp:Sp}{dvs:List V}{ds:List Value}{E:XK}{x m:Str}{p pos apos:Pos}{e o:Expr}{es:List Expr}{ta:TE}{t:TA}

/-- the callee runs -/
theorem oG {pins:List (Addr×Obj)}{σ:St}{H:Hp}{s:Shared}{Q:VK}{us:List Value}{vs:List V}(F:aL X.prog X.w X.K X.mg X.base CX k f fd ps sp)(hr:bP k X.A)(hb:Binds X.K fd ps ds)(hd:Vals dvs ds)(hx:Passes CX X E)
   (I:Inv X pins σ H s) (r:Vals vs us) (h:sp (vs++dvs) H Q E):wpAny (model X.prog X.w) X.A (call (.ref f) us) (EP X pins σ Q) X.xe s:=by
 have r2:Vals (vs++dvs) (us++ds):=r.append hd
 have hl:(us++ds).length=ps.length:=by rw [← r2.length]; exact F.len _ _ _ _ h
 refine wpAny_call (codeAny_mono (F.run X.A X.stack s H ⟨us,[]⟩ (us++ds) (vs++dvs) Q E hr I.CH (hb s us I.kIn hl) r2 h) fun r s' hq=>?_)
 cases r with
 | error e=>exact hx pins σ H s e s' I hq
 | ok fl=>
   cases fl with
   | ret u=>exact I.after hq
   | next=>exact Ij hq
   | brk=>exact Ij hq
   | cont=>exact Ij hq

theorem xT (F:aL X.prog X.w X.K X.mg X.base CX k f fd ps sp)(hr:bP k X.A)(hg:Gl X x)(hm:X.mg x=some (.ref f))(hk:IA X.K (.ref f)=true)(hb:Binds X.K fd ps ds)(hd:Vals dvs ds)(hx:Passes CX X E)
   (ha:PA X (e :: es) t) (hdb:(x == ("__debug__":Str))=false:=by decide) (he:starEach (e :: es) X.env=(false,eval e X.env) :: starEach es X.env:=by rfl) (hpl:(backTo pos (starEach es X.env)).any (·.1)=false:=by rfl) :
   PE X (.Call (.Name x p) (e :: es) [] pos) (vS sp dvs E t):=by
 intro pins s σ H Q I h
 refine wpAny_Call_Name_kw (lN I hg hm ?_ hdb)
 refine JJ (h₀:=X.base) I.ok.mod.kin hk (bb (ha pos pins s σ H _ I h) fun us s1 ⟨vs,H1,I1,r,q⟩=>⟨I1.kIn,?_⟩) he hpl
 exact oG F hr hb hd hx I1 r q
/-- o.m(e,..) -/
theorem x5 {pl:Sem Bool}(he:PE X o ta)(c:nA X.K C)(hm:Meth X.K C m f)(F:aL X.prog X.w X.K X.mg X.base CX k f fd ps sp)(hr:bP k X.A)(hb:Binds X.K fd ps ds)(hd:Vals dvs ds)(hx:Passes CX X E)(ha:PA X (e :: es) t)
   (hst:starEach (e :: es) X.env=(false,eval e X.env) :: starEach es X.env:=by rfl) (hpl:(backTo pos (starEach es X.env)).any (·.1)=false:=by rfl)
   (ht:eval (.Call (.Attribute o m apos) (e :: es) [] pos) X.env=(do
     let ov ← eval o X.env
     standAt apos.atName
     let (f,first) ← holding [ov] (getMethod ov m pl)
     callWith pos f first (backTo pos (starEach (e :: es) X.env)) (backToKw pos (keywordEach [] X.env))):=by rfl) :
   PE X (.Call (.Attribute o m apos) (e :: es) [] pos) (p6 C m sp dvs E ta t):=by
 intro pins s σ H Q I h
 refine Kt (pl:=pl) (bb (he pins s σ H _ I h) fun u s1 ⟨x,H1,I1,rx,a,dx,fs,ex,ea,l,q⟩=>?_) ht
 subst ex
 obtain rfl:u=HC a:=rx
 refine jw I1 ea c hm l ?_
 refine JJ (first:=[.ref a]) (h₀:=X.base) I.ok.mod.kin hm.kp (bb (ha pos pins s1 σ H1 _ I1 q) fun us s2 ⟨vs,H2,I2,r,q2⟩=>⟨I2.kIn,?_⟩) hst hpl
 exact oG (us:=.ref a :: us) (vs:=.ref a :: vs) F hr hb hd hx I2 (.cons rfl r) q2
/-- o.m() -/
theorem u9 {pl:Sem Bool}(he:PE X o ta)(c:nA X.K C)(hm:Meth X.K C m f)(F:aL X.prog X.w X.K X.mg X.base CX k f fd ps sp)(hr:bP k X.A)(hb:Binds X.K fd ps ds)(hd:Vals dvs ds)(hx:Passes CX X E)
   (ht:eval (.Call (.Attribute o m apos) [] [] pos) X.env=(do
     let ov ← eval o X.env
     standAt apos.atName
     let (f,first) ← holding [ov] (getMethod ov m pl)
     callWith pos f first (backTo pos (starEach [] X.env)) (backToKw pos (keywordEach [] X.env))):=by rfl) :
   PE X (.Call (.Attribute o m apos) [] [] pos) (p6 C m sp dvs E ta vV):=by
 intro pins s σ H Q I h
 refine Kt (pl:=pl) (bb (he pins s σ H _ I h) fun u s1 ⟨x,H1,I1,rx,a,dx,fs,ex,ea,l,q⟩=>?_) ht
 subst ex
 obtain rfl:u=HC a:=rx
 refine jw I1 ea c hm l ?_
 exact PySem.W.callWith_K0 (first:=[.ref a]) I1.kIn hm.kp (oG (us:=[.ref a]) (vs:=[.ref a]) F hr hb hd hx I1 (.cons rfl .nil) q)

/-- what a class must have to be made -/
structure Mk (K:GP)(C f:Addr):Prop where
 makes:PySem.W.makesIn K C=true
 init:Ia K (.ref C) "__init__"=some (some (.ref f))
 fn:Ku K (.ref f)=true
 kp:IA K (.ref C)=true

theorem vC {pins:List (Addr×Obj)}{σ:St}{H:Hp}{s:Shared}{Q:VK}{us:List Value}{vs:List V}(M:Mk X.K C f)(F:aL X.prog X.w X.K X.mg X.base CX k f fd ps sp)(hr:bP (k + 1) X.A)(hb:Binds X.K fd ps ds)(hd:Vals dvs ds)
   (hx:Passes CX X E) (I:Inv X pins σ H s) (r:Vals vs us)
   (h:∀x dx,H x=none->H dx=none->dx≠x->sp (.ref x :: (vs++dvs)) (upd (upd H dx (.own x)) x (.ins C dx [])) (fun v H2=>v=.bq/\Q (.ref x) H2) E) :
   wpAny (model X.prog X.w) X.A (call (.ref C) us) (EP X pins σ Q) X.xe s:=by
 have hq:=h (s.heap.objs.size + 1) s.heap.objs.size (I.hok.fresh (JS _)) (I.hok.fresh (GX _)) (HE (Iu _))
 have I2:=Inv.made (C:=C) I
 have r2:Vals (V.ref (s.heap.objs.size + 1) :: (vs++dvs)) (HC (s.heap.objs.size + 1) :: (us++ds)):=.cons rfl (r.append hd)
 have hl:(HC (s.heap.objs.size + 1) :: us++ds).length=ps.length:=by
   have e:=r2.length
   rw [F.len _ _ _ _ hq] at e
   exact e.symm
 refine wpAny_call (uo (f:=f) I.kIn M.makes M.init (beq_iff_eq.mp M.fn) (codeAny_mono (F.run _ X.stack _ _ ⟨HC (s.heap.objs.size + 1) :: us,[]⟩ (HC (s.heap.objs.size + 1) :: (us++ds)) _ _ E (hr.make C us [])
   (I2.CH.make C us []) (hb _ (HC (s.heap.objs.size + 1) :: us) I2.kIn hl) r2 hq) fun r s' CP=>?_))
 cases r with
 | error e=>exact hx pins σ _ _ e s' I2 CP
 | ok fl=>
   cases fl with
   | ret u=>
     obtain ⟨v,H',I3,rv,ev,q3⟩:=I2.after CP
     subst ev
     exact ⟨rv,⟨V.ref (s.heap.objs.size + 1),H',I3,rfl,q3⟩⟩
   | next=>exact Ij CP
   | brk=>exact Ij CP
   | cont=>exact Ij CP
theorem xZ (M:Mk X.K C f)(F:aL X.prog X.w X.K X.mg X.base CX k f fd ps sp)(hr:bP (k + 1) X.A)(hg:Gl X x)(hm:X.mg x=some (.ref C))(hb:Binds X.K fd ps ds)(hd:Vals dvs ds)(hx:Passes CX X E)
   (ha:PA X (e :: es) t) (hdb:(x == ("__debug__":Str))=false:=by decide) (he:starEach (e :: es) X.env=(false,eval e X.env) :: starEach es X.env:=by rfl) (hpl:(backTo pos (starEach es X.env)).any (·.1)=false:=by rfl) :
   PE X (.Call (.Name x p) (e :: es) [] pos) (zq C sp dvs E t):=by
 intro pins s σ H Q I h
 refine wpAny_Call_Name_kw (lN I hg hm ?_ hdb)
 refine JJ (h₀:=X.base) I.ok.mod.kin M.kp (bb (ha pos pins s σ H _ I h) fun us s1 ⟨vs,H1,I1,r,q⟩=>⟨I1.kIn,?_⟩) he hpl
 exact vC M F hr hb hd hx I1 r q
end

/-! ### keywords -/

/-! ### a def's body keeps its promise -/
/-- names: the parameters first -/
structure aq (N P:List Str)(sc:Scope):Prop where
 kind:sc.kind=.function
 co:sc.isCoroutine=false
 gen:sc.isGenerator=false
 nd:N.Nodup
 pre:N.take P.length=P
 par:∀x∈P,sc.names.lookup x=some .local\/sc.names.lookup x=some .cell
 nofree:∀y∈sc.names,y.2≠.free

theorem ky {kindOf:Str->Option NameKind}{x:Str}:∀{binds:List (Str×Value)} {m:Str->Option Value},(∀v,(x,v) ∉ binds)->bindL kindOf binds m x=m x
 | [],_,_=>rfl
 | (n,v) :: r,m,h=>by
   unfold bindL
   rw [ky fun w hw=>h w (G0 _ hw)]
   split
   · have:x≠n:=by rintro rfl; exact h v GZ
     simp [this]
   · rfl
theorem kq {kindOf:Str->Option NameKind}{x:Str}:∀{binds:List (Str×Value)} {m:Str->Option Value},(∀v,(x,v) ∉ binds)->bindC kindOf binds m x=m x
 | [],_,_=>rfl
 | (n,v) :: r,m,h=>by
   unfold bindC
   rw [kq fun w hw=>h w (G0 _ hw)]
   split
   · rfl
   · have:x≠n:=by rintro rfl; exact h v GZ
     simp [this]
theorem kr {kindOf:Str->Option NameKind}{x:Str}{v:Value}:∀{P:List Str} {vs:List Value} {i:Nat} {m:Str->Option Value},P.Nodup->P[i]? = some x->vs[i]? = some v->kindOf x=some .local ->
   bindL kindOf (P.zip vs) m x=some v
 | [],_,_,_,_,h,_,_=>by simp at h
 | _ :: _,[],_,_,_,_,h,_=>by simp at h
 | p :: P,w :: vs,0,m,nd,h1,h2,hk=>by
   simp at h1 h2; subst h1; subst h2
   show bindL kindOf ((p,w) :: P.zip vs) m p=_
   unfold bindL
   rw [ky fun v hv=>(List.nodup_cons.mp nd).1 (J6 hv).1,if_pos hk]
   simp
 | p :: P,w :: vs,i + 1,m,nd,h1,h2,hk=>by
   show bindL kindOf ((p,w) :: P.zip vs) m x=_
   unfold bindL
   exact kr (i:=i) (List.nodup_cons.mp nd).2 (by simpa using h1) (by simpa using h2) hk
theorem ko {kindOf:Str->Option NameKind}{x:Str}{v:Value}:∀{P:List Str} {vs:List Value} {i:Nat} {m:Str->Option Value},P.Nodup->P[i]? = some x->vs[i]? = some v->kindOf x≠some .local ->
   bindC kindOf (P.zip vs) m x=some v
 | [],_,_,_,_,h,_,_=>by simp at h
 | _ :: _,[],_,_,_,_,h,_=>by simp at h
 | p :: P,w :: vs,0,m,nd,h1,h2,hk=>by
   simp at h1 h2; subst h1; subst h2
   show bindC kindOf ((p,w) :: P.zip vs) m p=_
   unfold bindC
   rw [kq fun v hv=>(List.nodup_cons.mp nd).1 (J6 hv).1,if_neg hk]
   simp
 | p :: P,w :: vs,i + 1,m,nd,h1,h2,hk=>by
   show bindC kindOf ((p,w) :: P.zip vs) m x=_
   unfold bindC
   exact ko (i:=i) (List.nodup_cons.mp nd).2 (by simpa using h1) (by simpa using h2) hk

/-- the Fd values at the entry -/
def start (N:List Str)(vs:List V):St:=vs.map some++List.replicate (N.length - vs.length) none

/-- the context of a def's body,at its entry; an exception leaves the frame,then lies as CX says -/
def qj (CX:CXT)(P:Program)(w:World)(K:GP)(mg:Str->Option Value)(base:Heap)(N:List Str)(qual:Str)(scope:Scope)(f:Addr)(cd:Value)(A:Around)(outer:List Env)(s:Shared)(H:Hp)(E:XK):Cx where
 prog:=P
 w:=w
 K:=K
 mg:=mg
 base:=base
 A:=A.deeper (envOfC qual scope s.heap.objs.size f cd)
 N:=N
 s₀:=s
 H₀:=H
 env:=envOfC qual scope s.heap.objs.size f cd
 outer:=outer
 stack:=envOfC qual scope s.heap.objs.size f cd :: outer
 ex:=[]
 calm:=true
 fn:=fun _=>true
 pn:=[]
 xe:=fun e s'=>wpAny (model P w) (A.deeper (envOfC qual scope s.heap.objs.size f cd)) (leaving (envOfC qual scope s.heap.objs.size f cd) e) (fun _ Fi=>CX outer H s E e Fi) (fun e' Fi=>CX outer H s E e' Fi) s'

theorem mG {sc:Scope}{n:Nat}{x:Str}(h:sc.names.lookup x=some .cell):∃c,(cellsFrom n sc.names []).lookup x=some c:=by
 have q:=Ki sc.names n [] (.inl h)
 exact Option.isSome_iff_exists.mp q

theorem qS {CX:CXT}{P:Program}{w:World}{K:GP}{mg:Str->Option Value}{base:Heap}{N ps:List Str}{qual:Str}{scope:Scope}{f:Addr}{cd:Value}{A:Around}{outer:List Env}{s s1:Shared}{H:Hp}{E:XK}{us:List Value}{vs:List V}
   (S:aq N ps scope) (hd:A.handled=none) (e0:nC P w K mg base A outer s H) (hl:vs.length=ps.length) (r:Vals vs us)
   (x:InCallC s s.heap.objs.size (bindL (envOfC qual scope s.heap.objs.size f cd).kindOf (ps.zip us) fun _=>none) (cellsFrom (s.heap.objs.size + 1) scope.names []) (bindC (envOfC qual scope s.heap.objs.size f cd).kindOf (ps.zip us) fun _=>none) s1) :
   Inv (qj CX P w K mg base N qual scope f cd A outer s H E) [] (start N vs) H s1:=by
 have hpl:ps.length<=N.length:=by have:=congrArg List.length S.pre; rw [G8] at this; omega
 obtain ⟨h1,tk,rfl,hk⟩:=x.done
 have noA:∀b:Addr,b ∉ (qj CX P w K mg base N qual scope f cd A outer s H E).ex:=fun b z=>absurd (show b∈([]:List Addr) from z) (by simp)
 refine ⟨⟨e0.mod,S.kind,rfl,rfl,GX _,fun y z c h1 h2=>?_,fun y hy=>?_,fun y c _ h=>?_,fun _=>hd,Around.frames_deeper e0.frames,.inr ⟨rfl,rfl⟩,fun b z=>absurd z (noA b),e0.bs,e0.bsz,fun b _ _=>noA b,fun b z=>absurd z (noA b),e0.ij,e0.frf⟩,
   rfl,e0.bare,Un.kept hk,⟨_,x.toInCall.ns,fun i y v h1 h2 h3=>?_⟩,fun y c h=>⟨_,x.cell y c h⟩,e0.hok.fresh (GX _),fun y c h=>?_,fun p hp=>absurd (show p∈([]:List (Addr×Obj)) from hp) (by simp),e0.hok.kept hk,?_⟩
 · exact name_of_addr x.apart (HN h1) (HN h2)
 · have hy:scope.names.lookup y=some .cell\/scope.names.lookup y=some .free:=hy
   rcases hy with hy | hy
   · exact mG hy
   · exact absurd rfl (S.nofree _ (HN hy))
 · exact HV (x.above y c (HN h))
 · have hi:i < vs.length:=by
     unfold start at h2
     by_cases hi:i < vs.length
     · exact hi
     · rw [Kf (by simpa using hi)] at h2
       rw [List.getElem?_replicate] at h2
       split at h2 <;> cases h2
   have ha:vs[i]? = some v:=by
     unfold start at h2
     rw [List.getElem?_append_left (by simpa using hi),HR] at h2
     cases e:vs[i]? with
     | none=>rw [e] at h2; cases h2
     | some a=>rw [e] at h2; cases h2; rfl
   obtain ⟨u,hu,rv⟩:=r.get ha
   have hp:ps[i]? = some y:=by
     rw [← S.pre,List.getElem?_take_of_lt (by omega)]; exact h1
   have FP:ps.Nodup:=by rw [← S.pre]; exact S.nd.sublist (List.take_sublist _ _)
   refine ⟨u,rv,?_⟩
   rcases S.par y (Hh hp) with k | k
   · exact .inl ⟨k,kr FP hp hu k⟩
   · obtain ⟨c,e⟩:=mG (n:=s.heap.objs.size + 1) k
     refine .inr ⟨.inl k,c,e,?_⟩
     have q:=x.cell y c e
     rw [ko FP hp hu (by show scope.names.lookup y≠_; rw [k]; decide)] at q
     exact q
 · exact e0.hok.fresh (HV (x.above y c (HN h)))
 · unfold start
   show _=N.length
   rw [GU,GR,List.length_replicate]
   omega

/-- THE RULE: a def (or a method) of the text,by its body. GI EK reading t is EM for each entry; it is run at the ng values -/
theorem CI {CX:CXT}{P:Program}{w:World}{K:GP}{mg:Str->Option Value}{base:Heap}{k:Nat}{f:Addr}{name qual:Str}{params:Arguments}{body:List Stmt}{scope:Scope}{dV kV doc pm cdv ct oc:Value}{an od:Option Addr}
   {osl:Array (Option Value)} {N ps:List Str} {sp:Sp} (lk:K.lookup f=some ⟨oc,od,.func (Ig name qual params body scope dV kV doc pm an cdv ct),osl⟩) (hcd:Jz K cdv qual=true) (S:aq N ps scope)
   (len:∀vs H Q E,sp vs H Q E->vs.length=ps.length)
   (hbody:∀(A:Around) (outer:List Env) (s:Shared) (H:Hp) (vs:List V) (Q:VK) (E:XK),bP k (A.deeper (envOfC qual scope s.heap.objs.size f cdv))->sp vs H Q E ->
     ∃t,mz (qj CX P w K mg base N qual scope f cdv A outer s H E) body t/\t { nx:=fun _ H'=>Q .bq H',rt:=Q } (start N vs) H) :
   aL P w K mg base CX (k + 1) f (Ig name qual params body scope dV kV doc pm an cdv ct) ps sp:=by
 refine ⟨len,fun A outer s H args us vs Q E hr e0 hb r hsp=>?_⟩
 have hl:=len _ _ _ _ hsp
 have KX:K.In s.heap:=e0.mod.kin.keeps fun b o e=>(e0.bs b o e).1
 have lim:s.heap.NoLimit:=e0.mod.nolimit.keeps fun b o e=>(e0.bs b o e).1
 have CN:∀y∈ps.zip us,scope.names.lookup y.1=some .local\/(scope.names.lookup y.1=some .cell/\((cellsFrom (s.heap.objs.size + 1) scope.names []).lookup y.1).isSome=true):=fun ⟨n,v⟩ hy=>by
   rcases S.par n (J6 hy).1 with q | q
   · exact .inl q
   · exact .inr ⟨q,Ki _ _ _ (.inl q)⟩
 refine codeAny_call_function hr.depth (KX _ _ lk) rfl S.co S.gen rfl (PySem.W.codeRec_of KX hcd) (hb _ _ _ _ ?_)
 refine wpAny_newFunctionEnv_cells S.kind CN fun env he s1 x=>?_
 subst he
 refine ⟨lim.keeps x.toInCall.keep,codeAny_func ?_⟩
 obtain ⟨t,ht,hq⟩:=hbody A outer s H vs Q E (hr.deeper _) hsp
 have I:Inv (qj CX P w K mg base N qual scope f cdv A outer s H E) [] (start N vs) H s1:=qS S hr.hd e0 hl r x
 refine wpAny_mono (ht [] s1 (start N vs) H _ I hq) (fun fl s' hs=>?_) fun e s' hs=>hs
 have fin:∀{σ':St} {H':Hp} {v:V} {u:Value},Inv (qj CX P w K mg base N qual scope f cdv A outer s H E) [] σ' H' s'->RelV v u->Q v H'->CE outer P w H s Q u s':=
   fun {σ' H' v u} J rv q=>⟨v,H',J.os,J.bare,J.base,J.hok,rv,q⟩
 cases fl with
 | ret u=>
   obtain ⟨v,σ',H',J,rv,q⟩:=hs
   exact fin J rv q
 | next=>
   obtain ⟨σ',H',J,q⟩:=hs
   exact fin (v:=V.bq) (u:=Ip) J rfl q
 | brk=>
   obtain ⟨_,_,_,q⟩:=hs
   exact Ij q
 | cont=>
   obtain ⟨_,_,_,q⟩:=hs
   exact Ij q
end L2

namespace L2
open PySem PySem.Spec PyProof.Rows
section
variable {X:Cx}{x:Str}{p pos:Pos}{e:Expr}{es:List Expr}{t:TA}{id T:String}{r:List V->Hp->VK->Prop}

def Cp (r:List V->Hp->VK->Prop)(t:TA):TE:=fun σ H Q=>t σ H fun vs H1=>r vs H1 Q
/-- f(e,..),f a built-in function -/
theorem u5 (hc:bZ X (.builtin id) r)(hg:Gl X x)(hm:X.mg x=none)(hv:bootBuiltins x=some (.builtin id))(ha:PA X (e :: es) t)(hn:x≠"__name__":=by decide)(hdb:(x == ("__debug__":Str))=false:=by decide)
   (he:starEach (e :: es) X.env=(false,eval e X.env) :: starEach es X.env:=by rfl) (hpl:(backTo pos (starEach es X.env)).any (·.1)=false:=by rfl):PE X (.Call (.Name x p) (e :: es) [] pos) (Cp r t):=by
 intro pins s σ H Q I h
 refine wpAny_Call_Name_kw (dY I hg hm hv ?_ hn hdb)
 exact JE (bb (ha pos pins s σ H _ I h) fun us s1 ⟨vs,H1,I1,r1,q1⟩=>hc pins s1 σ H1 vs us Q I1 r1 q1) he hpl
/-- T(e,..),T a built-in type -/
theorem rE (hc:bZ X (.type T) r)(hg:Gl X x)(hm:X.mg x=none)(hv:bootBuiltins x=some (.type T))(ha:PA X (e :: es) t)(hn:x≠"__name__":=by decide)(hdb:(x == ("__debug__":Str))=false:=by decide)
   (he:starEach (e :: es) X.env=(false,eval e X.env) :: starEach es X.env:=by rfl) (hpl:(backTo pos (starEach es X.env)).any (·.1)=false:=by rfl):PE X (.Call (.Name x p) (e :: es) [] pos) (Cp r t):=by
 intro pins s σ H Q I h
 refine wpAny_Call_Name_kw (dY I hg hm hv ?_ hn hdb)
 exact HZ (bb (ha pos pins s σ H _ I h) fun us s1 ⟨vs,H1,I1,r1,q1⟩=>hc pins s1 σ H1 vs us Q I1 r1 q1) he hpl
end
end L2

namespace HT
open PySem PyProof.Rows


section
variable {prog:Program}{w:World}{A:Around}{E:Value->Shared->Prop}{s:Shared}

/-- t + u,t not empty -/
theorem wC {t b:Addr}{vs ws:List Value}{Q:Value->Shared->Prop}(ht:IsTup s.heap t vs.toArray)(hb:IsTup s.heap b ws.toArray)(hv:vs≠[])
   (h1:ws=[]->Q (.ref t) s) (h2:ws≠[]->Q (.ref s.heap.objs.size) { s with heap:=s.heap.push { cls:=.type "tuple",data:=.seq (vs++ws).toArray } })
   (hsz:vs.length + ws.length<=sizeLine):wpAny (model prog w) A (binaryOp .Add (.ref t) (.ref b)) Q E s:=by
 obtain ⟨⟨cls,dd,data,sl⟩,ho,hc,n,hd⟩:=id ht
 obtain ⟨⟨Ge,FG,data2,FV⟩,ho2,hc2,n2,hd2⟩:=id hb
 simp only at hc hd hc2 hd2
 subst hc hd hc2 hd2
 have e:vs.toArray++ws.toArray=(vs++ws).toArray:=by simp
 by_cases hw:ws=[]
 · exact concat_meets ⟨_,ho,rfl⟩ ⟨_,ho2,rfl⟩ noFill_tuple_add seq_tuple_add Kj Kd (J3 _ _)
     (tuple_addW1 t b vs.toArray ws.toArray n n2 dd FG sl FV (by simpa using hv) (by simp [hw])) ⟨ho,ho2,h1 hw⟩
 · refine concat_meets ⟨_,ho,rfl⟩ ⟨_,ho2,rfl⟩ noFill_tuple_add seq_tuple_add Kj Kd (J3 _ _)
     (tuple_addW2 t b vs.toArray ws.toArray n n2 dd FG sl FV (by simpa using hv) (by simpa using hw) (by rw [G4,G4]; exact hsz)) ⟨ho,ho2,?_⟩
   rw [e]
   exact h2 hw

/-! ### t[a:b],not the whole -/
/-- a yz bound as a place among n (d where it is left out) -/
def bD (n d:Nat):Option Int->Nat
 | none=>d
 | some v=>if v < 0 then (v + (n:Int)).toNat else min v.toNat n
theorem fY (n d:Nat):bD n d none=d:=rfl
theorem cJ (n d k:Nat):bD n d (some (k:Int))=min k n:=by
 show (if (k:Int) < 0 then ((k:Int) + (n:Int)).toNat else min (k:Int).toNat n)=min k n
 rw [if_neg (by omega),IV]
theorem BH (n d:Nat)(hd:d<=n)(o:Option Int):bD n d o<=n:=by
 cases o with
 | none=>exact hd
 | some v=>
   show (if v < 0 then (v + (n:Int)).toNat else min v.toNat n)<=n
   by_cases hv:v < 0
   · rw [if_pos hv]; omega
   · rw [if_neg hv]; exact Nat.min_le_right _ _
theorem oY (v:Int)(n d:Nat):(if v < 0 then max (v + (n:Int)) 0 else min v (n:Int))=((bD n d (some v):Nat):Int):=by
 show (if v < 0 then max (v + (n:Int)) 0 else min v (n:Int))=(((if v < 0 then (v + (n:Int)).toNat else min v.toNat n):Nat):Int)
 by_cases hv:v < 0
 · simp only [if_pos hv]; omega
 · simp only [if_neg hv]; omega
theorem nG (lo hi:Option Int)(n:Nat):IX lo hi 1 (n:Int)=(((bD n 0 lo:Nat):Int),((bD n n hi:Nat):Int)):=by
 have h1:¬ ((1:Int) < 0):=by omega
 unfold IX
 simp only [h1,if_false]
 refine Prod.ext ?_ ?_
 · cases lo with
   | none=>rfl
   | some v=>exact oY v n 0
 · cases hi with
   | none=>rfl
   | some v=>exact oY v n n
theorem oF (i j:Nat):Iv (i:Int) (j:Int) 1=j - i:=by
 unfold Iv
 have h1:(1:Int) > 0:=by omega
 simp only [h1,if_true,Int.ediv_one]
 split <;> omega
theorem jN {v:Value}{o:Option Int}{Q:Option Int->Shared->Prop}(p:IsPart v o)(h:Q o s):wpAny (model prog w) A (Builtin.Slice.slicePartIndex v) Q E s:=by
 cases p with
 | none=>exact slicePart_none h
 | int i t=>exact slicePart_int h
theorem dh {sl:Addr}{vl vu:Value}{lo hi:Option Int}{n:Nat}{Q:Int×Int×Nat->Shared->Prop}(hs:s.heap.IsSliceOf sl vl vu .none)(pl:IsPart vl lo)(pu:IsPart vu hi)
   (h:Q (((bD n 0 lo:Nat):Int),1,bD n n hi - bD n 0 lo) s):wpAny (model prog w) A (JN (.ref sl) (pure (n:Int))) Q E s:=by
 obtain ⟨os,hos,hcs,hds⟩:=id hs
 unfold JN Builtin.Slice.sliceFields
 refine wpAny_bind (wpAny_bind (wpAny_field hos hds (x:=vl) rfl (wpAny_bind (wpAny_field hos hds (x:=vu) rfl (wpAny_bind (wpAny_field hos hds (x:=.none) rfl (wpAny_pure ?_)))))))
 refine wpAny_bind (slicePart_none ?_)
 show wpAny _ _ (if ((1:Int) == 0)=true then _ else _) _ _ s
 rw [if_neg (by decide)]
 refine wpAny_bind (jN pl (wpAny_bind (jN pu (wpAny_bind (wpAny_pure ?_)))))
 show wpAny _ _ (match IX lo hi 1 (n:Int) with | (lo,hi)=>pure (lo,(1:Int),Iv lo hi 1)) _ _ s
 rw [nG lo hi n]
 show wpAny _ _ (pure (((bD n 0 lo:Nat):Int),(1:Int),Iv ((bD n 0 lo:Nat):Int) ((bD n n hi:Nat):Int) 1)) _ _ s
 rw [oF]
 exact wpAny_pure h
theorem vf (xs:Array Value)(i k:Nat):((IT k).filterMap fun (m:Nat)=>xs[((i:Int) + (m:Int) * 1).toNat]?).toArray=((xs.toList.drop i).take k).toArray:=by
 have e:(fun (m:Nat)=>xs[((i:Int) + (m:Int) * 1).toNat]?)=fun m=>xs[i + m]?:=by
   funext m
   have:((i:Int) + (m:Int) * 1).toNat=i + m:=by omega
   rw [this]
 rw [e]
 have:=pick_run xs i k
 rw [List.filterMap_map] at this
 have e2:((fun x=>xs[x]?) ∘ fun x=>i + x)=fun m=>xs[i + m]?:=rfl
 rw [e2] at this
 rw [this]

theorem fT {t sl:Addr}{items:Array Value}{vl vu:Value}{lo hi:Option Int}{Q:Value->Shared->Prop}(ht:IsTup s.heap t items)(hs:s.heap.IsSliceOf sl vl vu .none)(pl:IsPart vl lo)(pu:IsPart vu hi)
   (hw:¬ (bD items.size 0 lo=0/\bD items.size items.size hi=items.size))
   (h:Q (.ref s.heap.objs.size) { s with heap:=s.heap.push { cls:=.type "tuple",data:=.seq ((items.toList.drop (bD items.size 0 lo)).take (bD items.size items.size hi - bD items.size 0 lo)).toArray } })
   (hsz:items.size<=sizeLine):wpAny (model prog w) A (getItem (.ref t) (.ref sl)) Q E s:=by
 have pA:sizeOk (.seq ((items.toList.drop (bD items.size 0 lo)).take (bD items.size items.size hi - bD items.size 0 lo)).toArray):=by
   show ((items.toList.drop (bD items.size 0 lo)).take (bD items.size items.size hi - bD items.size 0 lo)).toArray.size<=sizeLine
   rw [G4,G8,Ir,JK]
   omega
 have hj:bD items.size items.size hi<=items.size:=BH _ _ (GX _) hi
 obtain ⟨os,hos,hcs,hds⟩:=id hs
 have hTs:s.TypeIs (.ref sl) "slice":=⟨os,hos,hcs⟩
 unfold getItem
 try with_reducible refine wpAny_holding ?_
 first | refine wpAny_bind (wpAny_pure ?_) | skip
 refine wpAny_bind (wpAny_sequenceKey ht.typeIs (by decide) ?_)
 refine wpAny_bind (Ic (name:=GQ "__getitem__") ht.typeIs Ih
   (wpAny_call_entry Ih ht.typeIs entry_tuple_getitem ?_ (args_tuple_getitem _ _)))
 show wpAny _ _ (JM (.ref t) >>= _) _ _ s
 refine wpAny_bind (tupleItemsOf_ ht ?_)
 refine wpAny_bind (wpAny_typeOf hTs ?_)
 rw [if_pos (by decide)]
 refine wpAny_bind (dh hs pl pu ?_)
 have Gm:¬ ((((bD items.size 0 lo:Nat):Int) == 0 && (1:Int) == 1 && (bD items.size items.size hi - bD items.size 0 lo) == items.size)=true):=by
   intro q
   rw [ID,ID] at q
   have q1:((bD items.size 0 lo:Nat):Int)=0:=eq_of_beq q.1.1
   have q2:bD items.size items.size hi - bD items.size 0 lo=items.size:=eq_of_beq q.2
   exact hw ⟨by omega,by omega⟩
 show wpAny _ _ (if (((bD items.size 0 lo:Nat):Int) == 0 && (1:Int) == 1 && (bD items.size items.size hi - bD items.size 0 lo) == items.size)=true then _ else _) _ _ s
 rw [if_neg Gm,vf]
 first
   | exact wpAny_bind (m:=Iy _) (wpAny_newObj_type (wpAny_pure ⟨_,rfl,wpAny_pure h⟩) pA)
   | exact wpAny_bind (m:=Iy _) (wpAny_newObj_type (wpAny_bind (wpAny_pure (wpAny_pure ⟨_,rfl,wpAny_pure h⟩))) pA)
   | exact wpAny_bind (wpAny_bind (m:=Iy _) (wpAny_newObj_type (wpAny_pure (wpAny_pure ⟨_,rfl,wpAny_pure h⟩)) pA))
   | exact wpAny_bind (wpAny_bind (m:=Iy _) (wpAny_newObj_type (wpAny_pure ⟨_,rfl,wpAny_pure h⟩) pA))
end
end HT

namespace L2
open PySem PySem.Spec PyProof.Rows

/-! ### the parts of a slice -/
abbrev TO:=St->Hp->(Option Int->Hp->Prop)->Prop
/-- a yz part (left out,or an int) -/
def PO (X:Cx)(e:Option Expr)(t:TO):Prop:=
 ∀(pins:List (Addr×Obj)) (s:Shared) (σ:St) (H:Hp) (Q:Option Int->Hp->Prop),Inv X pins σ H s->t σ H Q ->
   wpAny (model X.prog X.w) X.A (evalPart e X.env) (fun u s'=>∃o H',Inv X pins σ H' s'/\IsPart u o/\Q o H') X.xe s
def gj:TO:=fun _ H Q=>Q none H
def gk (t:TE):TO:=fun σ H Q=>t σ H fun x H1=>∃i,x=.int i/\Q (some i) H1

section
variable {X:Cx}{e:Expr}{te:TE}{lo hi:Option Expr}{tl th:TO}{pos p2:Pos}

theorem iK:PO X none gj:=by
 intro pins s σ H Q I h
 rw [evalPart_none]
 exact wpAny_pure ⟨none,H,I,.none,h⟩
theorem cI (h:PE X e te):PO X (some e) (gk te):=by
 intro pins s σ H Q I hw
 rw [evalPart_some]
 refine bb (h pins s σ H _ I hw) fun u s1 ⟨x,H1,I1,r1,q1⟩=>?_
 obtain ⟨i,rfl,q⟩:=q1
 obtain ⟨t,rfl⟩:=r1
 exact ⟨some i,H1,I1,.int i t,q⟩

/-- what a slice of a value is,by values: the slice object stands at sl -/
def v9 (X:Cx)(r:V->Option Int->Option Int->Hp->VK->Prop):Prop:=
 ∀(pins:List (Addr×Obj)) (s:Shared) (σ:St) (H:Hp) (x:V) (v vl vu:Value) (lo hi:Option Int) (sl:Addr) (Q:VK),Inv X pins σ H s->RelV x v->s.heap.IsSliceOf sl vl vu .none->IsPart vl lo->IsPart vu hi->r x lo hi H Q ->
   ∃T id,typeLookup (.type T) "__getitem__"=pure (some (.builtin id))/\s.TypeIs v T/\wpAny (model X.prog X.w) X.A (getItem v (.ref sl)) (EP X pins σ Q) X.xe s
theorem v9.or {r r':V->Option Int->Option Int->Hp->VK->Prop}(h:v9 X r)(h':v9 X r'):v9 X (fun x lo hi H Q=>r x lo hi H Q\/r' x lo hi H Q):=by
 intro pins s σ H x v vl vu lo hi sl Q I rx hs pl pu q
 rcases q with q | q
 · exact h pins s σ H x v vl vu lo hi sl Q I rx hs pl pu q
 · exact h' pins s σ H x v vl vu lo hi sl Q I rx hs pl pu q
def BZ (r:V->Option Int->Option Int->Hp->VK->Prop)(te:TE)(tl th:TO):TE:=fun σ H Q=>te σ H fun x H1=>tl σ H1 fun l H2=>th σ H2 fun u H3=>r x l u H3 Q
/-- a[lo:hi],any a -/
theorem df {r:V->Option Int->Option Int->Hp->VK->Prop}(hr:v9 X r)(he:PE X e te)(hl:PO X lo tl)(hu:PO X hi th):PE X (.Subscript e (.Slice lo hi none p2) pos) (BZ r te tl th):=by
 intro pins s σ H Q I h
 refine Subscript_ (bb (he pins s σ H _ I h) fun v s1 ⟨x,H1,I1,r1,q1⟩=>?_)
 refine wpAny_Slice (bb (hl pins s1 σ H1 _ I1 q1) fun vl s2 ⟨l,H2,I2,pl,q2⟩=>bb (hu pins s2 σ H2 _ I2 q2) fun vu s3 ⟨u,H3,I3,pu,q3⟩=>?_)
 rw [evalPart_none]
 refine wpAny_pure ?_
 have I4:Inv X pins σ H3 { s3 with heap:=s3.heap.push { cls:=.type "slice",data:=.fields #[vl,vu,.none] } }:=I3.kept (t':=s3.toks) fun b ob q=>GV _ q
 obtain ⟨T,id,hT,ht,hg⟩:=hr pins { s3 with heap:=s3.heap.push { cls:=.type "slice",data:=.fields #[vl,vu,.none] } } σ H3 x v vl vu l u s3.heap.objs.size Q I4 r1 (Heap.IsSliceOf.new ..) pl pu q3
 show wpAny (model X.prog X.w) X.A (subscriptTail e (.Slice lo hi none p2) v (.ref s3.heap.objs.size)) (EP X pins σ Q) X.xe { s3 with heap:=s3.heap.push { cls:=.type "slice",data:=.fields #[vl,vu,.none] } }
 exact tail_any (ops:=[.ref s3.heap.objs.size,v]) ht hT hg (by with_unfolding_all rfl)

/-- the items of xs[lo:hi] -/
def dO (xs:List V)(lo hi:Option Int):List V:=(xs.drop (HT.bD xs.length 0 lo)).take (HT.bD xs.length xs.length hi - HT.bD xs.length 0 lo)
theorem g7 (xs:List V)(lo hi:Option Int):(dO xs lo hi).length<=xs.length:=by
 unfold dO
 rw [G8,Ir]
 omega
/-- t[lo:hi],not the whole of it (the whole F3 be t itself) -/
def BC (K:GP):V->Option Int->Option Int->Hp->VK->Prop:=fun x lo hi H Q=>∃a xs,x=.ref a/\aC K H a xs /\
 ¬ (HT.bD xs.length 0 lo=0/\HT.bD xs.length xs.length hi=xs.length)/\∀p,H p=none->Q (.ref p) (upd H p (.tup (dO xs lo hi)))
theorem vO:v9 X (BC X.K):=by
 intro pins s σ H x v vl vu lo hi sl Q I rx hs pl pu h
 obtain ⟨a,xs,rfl,hx,hw,q⟩:=h
 cases rx
 obtain ⟨its,r,ht,hz⟩:=I.tuple hx
 have hlen:its.toArray.size=xs.length:=by rw [G4]; exact r.length.symm
 refine ⟨"tuple",_,PyProof.Rows.slot_tuple_getitem.lookup,ht.typeIs,?_⟩
 refine HT.fT ht hs pl pu (by rw [hlen]; exact hw) ?_ (by rw [hlen]; exact hz)
 rw [hlen]
 refine ⟨.ref s.heap.objs.size,_,I.laid (t':=s.toks) (o:=.tup (dO xs lo hi)) (fun b ob q=>GV _ q) (GX _) ?_,rfl,q _ (I.hok.fresh (GX _))⟩
 exact ⟨GY (g7 xs lo hi) hz,_,(r.drop (HT.bD xs.length 0 lo)).take (HT.bD xs.length xs.length hi - HT.bD xs.length 0 lo),IsTup.new _ _⟩

/-! ### t < u,t + u -/
/-- t + u,t not empty: u empty gives t itself -/
def vt (K:GP):R2:=fun x y H Q=>∃a b xs ys,x=.ref a/\y=.ref b/\aC K H a xs/\aC K H b ys/\xs≠[]/\xs.length + ys.length<=sizeLine /\
 (ys=[]->Q (.ref a) H)/\(ys≠[]->∀p,H p=none->Q (.ref p) (upd H p (.tup (xs++ys))))
theorem Vals.lQ {xs:List V}{us:List Value}(r:Vals xs us):us=[]↔xs=[]:=by
 cases r with
 | nil=>simp
 | cons _ _=>simp
theorem xN:eW X (binaryOp .Add) (vt X.K):=by
 intro pins s σ H x y v u Q I rx ry h
 obtain ⟨a,b,xs,ys,rfl,rfl,ha,hb,hx,hz,q1,q2⟩:=h
 cases rx
 cases ry
 obtain ⟨its,r1,p1,_⟩:=I.tuple ha
 obtain ⟨its2,r2,p2,_⟩:=I.tuple hb
 refine HT.wC p1 p2 (fun z=>hx (r1.lQ.mp z)) (fun z=>⟨.ref a,H,I,rfl,q1 (r2.lQ.mp z)⟩) (fun z=>?_) (by rw [← r1.length,← r2.length]; exact hz)
 refine ⟨.ref s.heap.objs.size,_,I.laid (t':=s.toks) (o:=.tup (xs++ys)) (fun b ob q=>GV _ q) (GX _) ?_,rfl,q2 (fun w=>z (r2.lQ.mpr w)) _ (I.hok.fresh (GX _))⟩
 exact ⟨by rw [GU]; exact hz,_,r1.append r2,IsTup.new _ _⟩
end
end L2

namespace L2
open PySem PySem.Spec PyProof.Rows

/-! ### places -/
/-- the place that an index of any sign means -/
def uf (n:Nat)(i:Int):Option Nat:=if 0<=i then (if i < n then some i.toNat else none) else if -(n:Int)<=i then some (i + n).toNat else none
def ig {α:Type}(xs:List α)(i:Int):Option α:=(uf xs.length i).bind fun j=>xs[j]?
theorem pE {n:Nat}{i:Int}{j:Nat}(h:uf n i=some j):J2 i n=some j/\j < n /\ -(n:Int)<=i/\i < n:=by
 unfold uf at h
 by_cases h0:0<=i
 · rw [if_pos h0] at h
   by_cases h1:i < n
   · rw [if_pos h1] at h
     have e:i.toNat=j:=HA h
     exact ⟨by rw [seqIndex_of h0 h1,e],by omega,by omega,h1⟩
   · rw [if_neg h1] at h; cases h
 · rw [if_neg h0] at h
   by_cases h1 : -(n:Int)<=i
   · rw [if_pos h1] at h
     have e:(i + n).toNat=j:=HA h
     exact ⟨by rw [seqIndex_neg (by omega) h1,e],by omega,h1,by omega⟩
   · rw [if_neg h1] at h; cases h
theorem eB {α:Type}{xs:List α}{i:Int}{v:α}(h:ig xs i=some v):∃j,J2 i xs.length=some j/\xs[j]? = some v/\j < xs.length /\ -(xs.length:Int)<=i/\i < xs.length:=by
 unfold ig at h
 cases e:uf xs.length i with
 | none=>rw [e] at h; cases h
 | some j=>
   rw [e] at h
   obtain ⟨h1,h2,h3,h4⟩:=pE e
   exact ⟨j,h1,h,h2,h3,h4⟩
theorem cA {α:Type}{xs:List α}{j:Nat}{v:α}(h:xs[j]? = some v):ig xs (j:Int)=some v:=by
 have hj:j < xs.length:=(List.getElem?_eq_some_iff.mp h).1
 have e:uf xs.length (j:Int)=some j:=by
   unfold uf
   rw [if_pos (by omega),if_pos (by omega)]; simp
 unfold ig; rw [e]; exact h
theorem cb {α:Type}(xs:List α)(v:α):ig (xs++[v]) (-1)=some v:=by
 have hl:(xs++[v]).length=xs.length + 1:=by simp
 have e:uf (xs++[v]).length (-1)=some xs.length:=by
   unfold uf
   rw [hl,if_neg (by decide),if_pos (by omega)]
   congr 1
   omega
 unfold ig
 rw [e]
 show (xs++[v])[xs.length]? = some v
 simp

/-! ### what may be subscripted -/
/-- what stands as an index of a plain subscript -/
def oU (b:Expr):Prop:=∀o i,subscripted b false o i=operate [o,i] (getItem o i)
/-- a subscript by values -/
def v8 (X:Cx)(r:R2):Prop:=
 ∀(value slice:Expr) (pins:List (Addr×Obj)) (s:Shared) (σ:St) (H:Hp) (x y:V) (v u:Value) (Q:VK),Inv X pins σ H s->RelV x v->RelV y u->r x y H Q ->
   subscripted slice false v u=operate [v,u] (getItem v u)->wpAny (model X.prog X.w) X.A (subscriptTail value slice v u) (EP X pins σ Q) X.xe s
/-- a call of a builtin's method by values: the receiver,the arguments -/
def zB (X:Cx)(id:String)(r:V->List V->Hp->VK->Prop):Prop:=
 ∀(pins:List (Addr×Obj)) (s:Shared) (σ:St) (H:Hp) (x:V) (xs:List V) (v:Value) (us:List Value) (Q:VK),Inv X pins σ H s->RelV x v->Vals xs us->r x xs H Q ->
   wpAny (model X.prog X.w) X.A (call (.builtin id) (v :: us)) (EP X pins σ Q) X.xe s
section
variable {X:Cx}{a b:Expr}{ta tb:TE}{pos:Pos}
theorem v8.or {r r':R2}(h:v8 X r)(h':v8 X r'):v8 X (fun x y H Q=>r x y H Q\/r' x y H Q):=by
 intro value slice pins s σ H x y v u Q I rx ry q hs
 rcases q with q | q
 · exact h value slice pins s σ H x y v u Q I rx ry q hs
 · exact h' value slice pins s σ H x y v u Q I rx ry q hs
/-- a[b] -/
theorem Ds {r:R2}(hr:v8 X r)(ha:PE X a ta)(hb:PE X b tb)(hs:oU b):PE X (.Subscript a b pos) (zx r ta tb):=by
 intro pins s σ H Q I h
 exact Subscript_ (zL ha hb I h fun v u s2 x y H2 I2 rx ry q=>hr a b pins s2 σ H2 x y v u Q I2 rx ry q (hs _ _))

def BA (K:GP):R2:=fun x y H Q=>∃p xs i v,x=.ref p/\y=.int i/\aw K H p xs/\ig xs i=some v/\Q v H
def BB (K:GP):R2:=fun x y H Q=>∃p xs i v,x=.ref p/\y=.int i/\aC K H p xs/\ig xs i=some v/\Q v H
def DJ:R2:=fun x y H Q=>∃z i c,x=.str z/\y=.int i/\z.length<=sizeLine/\ig z.cps.toList i=some c/\Q (.str ⟨#[c]⟩) H
theorem pG:v8 X (BA X.K):=by
 intro value slice pins s σ H x y v u Q I rx ry h hs
 obtain ⟨p,xs,i,z,rfl,rfl,hq,he,q⟩:=h
 cases rx
 obtain ⟨t,rfl⟩:=ry
 obtain ⟨its,r,pl,hz⟩:=I.list hq
 obtain ⟨j,h1,h2,h3,h4,h5⟩:=eB he
 obtain ⟨w,ew,rw'⟩:=r.get h2
 have hl:=r.length
 have hn:=gU
 have fin:EP X pins σ Q w s:=⟨z,H,I,rw',q⟩
 by_cases h0:0<=i
 · have hj:i.toNat=j:=by
     rw [seqIndex_of h0 h5] at h1
     exact HA h1
   exact item_listR pl.isList h0 (by omega) (by rw [hj]; simpa using ew) fin hs
 · have hj:(i + (its.toArray.size:Int)).toNat=j:=by
     rw [seqIndex_neg (by omega) h4] at h1
     rw [G4,← hl]
     exact HA h1
   exact subscriptTail_builtinR (x:=w) pl.isList.typeIs slot_list_getitem.lookup
     (wpAny_getItem_list_neg (Q:=fun r s'=>r=w/\EP X pins σ Q r s') pl.isList (by omega) (by rw [G4] <;> omega) (by omega) (by rw [hj]; simpa using ew) ⟨rfl,fin⟩) hs
theorem ug:v8 X (BB X.K):=by
 intro value slice pins s σ H x y v u Q I rx ry h hs
 obtain ⟨p,xs,i,z,rfl,rfl,hq,he,q⟩:=h
 cases rx
 obtain ⟨t,rfl⟩:=ry
 obtain ⟨its,r,pl,hz⟩:=I.tuple hq
 obtain ⟨j,h1,h2,h3,h4,h5⟩:=eB he
 obtain ⟨w,ew,rw'⟩:=r.get h2
 have hl:=r.length
 have hn:=gU
 have fin:EP X pins σ Q w s:=⟨z,H,I,rw',q⟩
 exact subscriptTail_builtinR (x:=w) pl.typeIs slot_tuple_getitem.lookup
   (getItem_tuple (j:=j) (Q:=fun r s'=>r=w/\EP X pins σ Q r s') pl (by omega) (by omega) (by rw [G4,← hl]; exact h1) (by simpa using ew) ⟨rfl,fin⟩) hs
theorem Ag:v8 X DJ:=by
 intro value slice pins s σ H x y v u Q I rx ry h hs
 obtain ⟨z,i,c,rfl,rfl,hz,he,q⟩:=h
 obtain ⟨t,rfl⟩:=rx
 obtain ⟨t',rfl⟩:=ry
 obtain ⟨j,h1,h2,h3,h4,h5⟩:=eB he
 have hl:z.cps.toList.length=z.length:=by simp [Str.length]
 rw [hl] at h1 h4 h5
 have hn:=gU
 exact tail_any (typeIs_str s z t) slot_str_getitem.lookup (getItem_str (c:=c) (by
   have e1:decide (i < -(2 ^ 63:Int))=false:=decide_eq_false (by omega)
   have e2:decide (i ≥ 2 ^ 63)=false:=decide_eq_false (by omega)
   rw [e1,e2,Bool.or_false]) (by rw [h1]; simpa using h2) ⟨.str ⟨#[c]⟩,H,I.tok _,⟨_,rfl⟩,q⟩) hs
/-! ### xs[i]=v,any sign -/
/-- the Ap object behind a store -/
theorem ow (its:List Value)(n j:Nat)(u:Value):JY (·.setIfInBounds j u) { cls:=.type "list",data:=.seq its.toArray n }={ cls:=.type "list",data:=.seq (its.set j u).toArray n }:=by
 simp [JY]
theorem Inv.lst {pins:List (Addr×Obj)}{σ:St}{H:Hp}{s:Shared}{p:Addr}{xs:List V}(I:Inv X pins σ H s)(h:H p=some (.lst xs)) :
   ∃(its:List Value) (n:Nat),Vals xs its/\s.heap.get? p=some { cls:=.type "list",data:=.seq its.toArray n }/\xs.length<=sizeLine:=by
 obtain ⟨z,its,n,r,e⟩:=I.hok p _ h
 exact ⟨its,n,r,e,z⟩
/-- the list at p is written by an update of its object -/
theorem Inv.As {pins:List (Addr×Obj)}{σ:St}{H:Hp}{s:Shared}{p:Addr}{xs ys:List V}{its its':List Value}{n n':Nat}{f:Obj->Obj}(I:Inv X pins σ H s)(h:H p=some (.lst xs))
   (ho:s.heap.get? p=some { cls:=.type "list",data:=.seq its.toArray n }) (hf:f { cls:=.type "list",data:=.seq its.toArray n }={ cls:=.type "list",data:=.seq its'.toArray n' }) (r:Vals ys its') (hz:ys.length<=sizeLine) (t:Nat) :
   Inv X pins σ (upd H p (.lst ys)) { s with heap:=s.heap.update p f,toks:=t }:=by
 have e:(s.heap.update p f).get? p=some { cls:=.type "list",data:=.seq its'.toArray n' }:=by
   rw [KL f ho (by rw [hf] <;> rfl),hf]
 refine I.write (x:=p) (e:=p) (by rw [h]; trivial) (.inl rfl) (fun b u hb q=>(KH _ _ (Ne.symm hb)).trans q) ⟨_,e⟩ ?_
 exact ⟨hz,its',n',r,e⟩
def zg:V->V->V->Hp->(Hp->Prop)->Prop:=fun o i v H Q=>∃p xs k j,o=.ref p/\i=.int k/\H p=some (.lst xs)/\uf xs.length k=some j/\Q (upd H p (.lst (xs.set j v)))
theorem set_list:Cv X zg:=by
 intro pins s σ H o i v ov iv u Q I ro ri rv h
 obtain ⟨p,xs,k,j,rfl,rfl,hp,hj,q⟩:=h
 cases ro
 obtain ⟨t,rfl⟩:=ri
 obtain ⟨its,n,r,ho,hz⟩:=I.lst hp
 obtain ⟨h1,h2,h3,h4⟩:=pE hj
 have hl:=r.length
 have hn:=gU
 have I':Inv X pins σ (upd H p (.lst (xs.set j v))) { s with heap:=s.heap.update p (JY (·.setIfInBounds j u)) }:=
   I.As hp ho (ow its n j u) (r.set rv j) (by rw [List.length_set]; exact hz) s.toks
 by_cases h0:0<=k
 · have hk:k.toNat=j:=by
     rw [seqIndex_of h0 h4] at h1
     exact HA h1
   exact PySem.W.ki_setAt ho h0 (by omega) (by rw [G4,← hl]; exact h4) (by rw [hk]; exact ⟨_,I',q⟩)
 · have hk:(k + (its.toArray.size:Int)).toNat=j:=by
     rw [seqIndex_neg (by omega) h3] at h1
     rw [G4,← hl]
     exact HA h1
   exact PySem.W.ki_setBack ho (by omega) (by rw [G4,← hl]; exact h3) (by omega) (by rw [hk]; exact ⟨_,I',q⟩)

/-! ### slices -/
theorem md (lo hi:Option Int)(n:Nat):(sliceBounds lo hi none n).1=((HT.bD n 0 lo:Nat):Int)/\(sliceBounds lo hi none n).2.1=((HT.bD n n hi:Nat):Int)/\(sliceBounds lo hi none n).2.2=1:=by
 refine ⟨?_,?_,rfl⟩
 · cases lo with
   | none=>simp [sliceBounds,HT.bD]
   | some i=>
     simp only [sliceBounds,HT.bD,Option.getD_none,show (1:Int) > 0 by decide,if_true]
     by_cases h:i < 0
     · simp only [h,if_true] <;> omega
     · simp only [h,if_false] <;> omega
 · cases hi with
   | none=>simp [sliceBounds,HT.bD]
   | some i=>
     simp only [sliceBounds,HT.bD,Option.getD_none,show (1:Int) > 0 by decide,if_true]
     by_cases h:i < 0
     · simp only [h,if_true] <;> omega
     · simp only [h,if_false] <;> omega
theorem j8 (its:List Value)(lo hi:Option Int):slicePick its.toArray lo hi none=((its.drop (HT.bD its.length 0 lo)).take (HT.bD its.length its.length hi - HT.bD its.length 0 lo)).toArray:=by
 obtain ⟨h1,h2,h3⟩:=md lo hi its.toArray.size
 unfold slicePick
 rw [h1,h2,h3]
 simp only [sliceRange_one,pick_run,G4] <;> rfl
/-- xs[lo:hi] of a list: a new list -/
def yn (K:GP):V->Option Int->Option Int->Hp->VK->Prop:=fun x lo hi H Q=>∃a xs,x=.ref a/\aw K H a xs/\∀p,H p=none->Q (.ref p) (upd H p (.lst (dO xs lo hi)))
theorem ma:v9 X (yn X.K):=by
 intro pins s σ H x v vl vu lo hi sl Q I rx hs pl pu h
 obtain ⟨a,xs,rfl,hx,q⟩:=h
 cases rx
 obtain ⟨its,r,ht,hz⟩:=I.list hx
 have hlen:=r.length
 refine ⟨"list",_,slot_list_getitem.lookup,ht.isList.typeIs,?_⟩
 refine wpAny_getItem_list_slice ht.isList hs pl pu .none (by simp) ?_ (by rw [G4] <;> omega)
 rw [j8,← hlen]
 refine ⟨.ref s.heap.objs.size,_,I.laid (t':=s.toks) (o:=.lst (dO xs lo hi)) (fun b ob q=>GV _ q) (GX _) ?_,rfl,q _ (I.hok.fresh (GX _))⟩
 exact ⟨GY (g7 xs lo hi) hz,_,0,(r.drop (HT.bD xs.length 0 lo)).take (HT.bD xs.length xs.length hi - HT.bD xs.length 0 lo),G9 _ rfl⟩

/-! ### in,not in: flat items -/
def cB:V->Bool
 | .bq=>true
 | .bl _=>true
 | .int _=>true
 | .str _=>true
 | _=>false
/-- == of flat values -/
def nz:V->V->Bool
 | .bq,.bq=>true
 | .bl a,.bl b=>a == b
 | .bl a,.int b=>(if a then 1 else 0) == b
 | .int a,.bl b=>a == (if b then 1 else 0)
 | .int a,.int b=>a == b
 | .str a,.str b=>a == b
 | _,_=>false
theorem sP {A:Around}{s:Shared}{y x:V}{u v:Value}(ry:RelV y u)(rx:RelV x v)(fy:cB y=true)(fx:cB x=true):SeqAt.EqAt A s u v (nz y x):=by
 cases y with
 | bq=>
   cases ry
   cases x with
   | bq=>cases rx; exact SeqAt.EqAt.same _
   | bl b=>cases rx; exact SeqAt.EqAt.none_bool b
   | int b=>obtain ⟨t,rfl⟩:=rx; exact SeqAt.EqAt.none_int b t
   | str b=>obtain ⟨t,rfl⟩:=rx; exact SeqAt.EqAt.none_str b t
   | _=>exact absurd (show false=true from fx) G7
 | bl a=>
   cases ry
   cases x with
   | bq=>cases rx; exact SeqAt.EqAt.bool_none a
   | bl b=>cases rx; exact SeqAt.EqAt.bool_bool a b
   | int b=>obtain ⟨t,rfl⟩:=rx; exact SeqAt.EqAt.bool_int a b t
   | str b=>obtain ⟨t,rfl⟩:=rx; exact SeqAt.EqAt.bool_str a b t
   | _=>exact absurd (show false=true from fx) G7
 | int a=>
   obtain ⟨t',rfl⟩:=ry
   cases x with
   | bq=>cases rx; exact SeqAt.EqAt.int_none a t'
   | bl b=>cases rx; exact SeqAt.EqAt.int_bool a t' b
   | int b=>obtain ⟨t,rfl⟩:=rx; exact SeqAt.EqAt.int_int a t' b t
   | str b=>obtain ⟨t,rfl⟩:=rx; exact Ks a t' b t
   | _=>exact absurd (show false=true from fx) G7
 | str a=>
   obtain ⟨t',rfl⟩:=ry
   cases x with
   | bq=>cases rx; exact SeqAt.EqAt.str_none a t'
   | bl b=>cases rx; exact SeqAt.EqAt.str_bool a t' b
   | int b=>obtain ⟨t,rfl⟩:=rx; exact Kr a t' b t
   | str b=>obtain ⟨t,rfl⟩:=rx; exact SeqAt.EqAt.str_str a t' b t
   | _=>exact absurd (show false=true from fx) G7
 | _=>exact absurd (show false=true from fy) G7
/-- the E7 answers,read off the values (a Ez own answer does not lean on its token) -/
def nQ (x:V)(u:Value):Bool:=match u with
 | .none=>nz .bq x
 | .bool b=>nz (.bl b) x
 | .int i _=>nz (.int i) x
 | .str z _=>nz (.str z) x
 | _=>false
theorem sQ {x y:V}{u:Value}(r:RelV y u)(f:cB y=true):nQ x u=nz y x:=by
 cases y with
 | bq=>cases r; rfl
 | bl b=>cases r; rfl
 | int i=>obtain ⟨t,rfl⟩:=r; rfl
 | str z=>obtain ⟨t,rfl⟩:=r; rfl
 | _=>exact absurd (show false=true from f) G7
theorem fu {x:V}:∀{xs:List V} {us:List Value},Vals xs us->xs.all cB=true->us.any (nQ x)=xs.any fun y=>nz y x
 | _,_,.nil,_=>rfl
 | y :: xs,u :: us,.cons r t,f=>by
   rw [List.all_cons,ID] at f
   rw [Jn,Jn,sQ r f.1,fu t f.2]
theorem d5 {A:Around}{s:Shared}{x:V}{v:Value}(rx:RelV x v)(fx:cB x=true):∀{xs:List V} {us:List Value},Vals xs us->xs.all cB=true->∀u∈us,SeqAt.EqAt A s u v (nQ x u)
 | _,_,.nil,_=>fun u hu=>by cases hu
 | y :: xs,u :: us,.cons r t,f=>fun u' hu=>by
   rw [List.all_cons,ID] at f
   rcases List.mem_cons.mp hu with rfl | hu
   · rw [sQ r f.1]; exact sP r rx f.1 fx
   · exact d5 rx fx t f.2 u' hu
def om (x:V)(xs:List V):Bool:=xs.any fun y=>nz y x
/-- x in a list or tuple of flat items -/
def Es (K:GP)(neg:Bool):R2:=fun x y H Q=>∃p xs,y=.ref p/\(aw K H p xs\/aC K H p xs)/\cB x=true/\xs.all cB=true/\Q (.bl (if neg then !om x xs else om x xs)) H
theorem rC:eW X (compareOp .In) (Es X.K false):=by
 intro pins s σ H x y v u Q I rx ry h
 obtain ⟨p,xs,rfl,hq,fx,fs,q⟩:=h
 cases ry
 rcases hq with hq | hq
 · obtain ⟨its,r,pl,hz⟩:=I.list hq
   refine SeqAt.in_listAt (nQ x) pl.isList (fun w hw=>d5 rx fx r fs w (by simpa using hw)) ⟨.bl _,H,I,rfl,?_⟩
   rw [show its.toArray.any (nQ x)=its.any (nQ x) by simp,fu r fs]
   exact q
 · obtain ⟨its,r,pl,hz⟩:=I.tuple hq
   refine SeqAt.in_tupleAt (nQ x) pl (fun w hw=>d5 rx fx r fs w (by simpa using hw)) ⟨.bl _,H,I,rfl,?_⟩
   rw [show its.toArray.any (nQ x)=its.any (nQ x) by simp,fu r fs]
   exact q
theorem lW:eW X (compareOp .NotIn) (Es X.K true):=by
 intro pins s σ H x y v u Q I rx ry h
 obtain ⟨p,xs,rfl,hq,fx,fs,q⟩:=h
 cases ry
 rcases hq with hq | hq
 · obtain ⟨its,r,pl,hz⟩:=I.list hq
   refine SeqAt.notIn_listAt (nQ x) pl.isList (fun w hw=>d5 rx fx r fs w (by simpa using hw)) ⟨.bl _,H,I,rfl,?_⟩
   rw [show its.toArray.any (nQ x)=its.any (nQ x) by simp,fu r fs]
   exact q
 · obtain ⟨its,r,pl,hz⟩:=I.tuple hq
   refine SeqAt.notIn_tupleAt (nQ x) pl (fun w hw=>d5 rx fx r fs w (by simpa using hw)) ⟨.bl _,H,I,rfl,?_⟩
   rw [show its.toArray.any (nQ x)=its.any (nQ x) by simp,fu r fs]
   exact q
/-! ### len,list(x),tuple(x) of any list or tuple that is read -/
theorem lu:bZ X (.builtin "len") (fun xs H Q=>∃p ys,xs=[.ref p]/\(aw X.K H p ys\/aC X.K H p ys)/\Q (.int ys.length) H):=by
 intro pins s σ H xs us Q I r h
 obtain ⟨p,ys,rfl,hq,q⟩:=h
 obtain ⟨u,rfl,rx⟩:=vals1 r
 cases rx
 have hn:=gU
 rcases hq with hq | hq
 · obtain ⟨its,r',pl,hz⟩:=I.list hq
   have hlen:=r'.length
   exact Calls.call_len_list pl.isList (by simp only [G4] <;> omega) ⟨.int ys.length,H,I.tok _,⟨s.toks + 1,by rw [G4,hlen]⟩,q⟩
 · obtain ⟨its,r',pl,hz⟩:=I.tuple hq
   have hlen:=r'.length
   exact len_tuple pl (by simp only [G4] <;> omega) ⟨.int ys.length,H,I.tok _,⟨s.toks + 1,by rw [G4,hlen]⟩,q⟩
theorem lz:bZ X (.builtin "len") (fun xs H Q=>∃z,xs=[.str z]/\z.length<=sizeLine/\Q (.int z.length) H):=by
 intro pins s σ H xs us Q I r h
 obtain ⟨z,rfl,hz,q⟩:=h
 obtain ⟨u,rfl,t,rfl⟩:=vals1 r
 have hn:=gU
 exact len_str (by omega) ⟨.int z.length,H,I.tok _,⟨_,rfl⟩,q⟩
theorem lA:bZ X (.type "list") (fun xs H Q=>∃p ys,xs=[.ref p]/\(aw X.K H p ys\/aC X.K H p ys)/\∀l,H l=none->Q (.ref l) (upd H l (.lst ys))):=by
 intro pins s σ H xs us Q I r h
 obtain ⟨p,ys,rfl,hq,q⟩:=h
 obtain ⟨u,rfl,rx⟩:=vals1 r
 cases rx
 have fin:∀(its:List Value),Vals ys its->ys.length<=sizeLine->∀(h':Heap) (c':Nat),(∀b o',s.heap.get? b=some o'->h'.get? b=some o') ->
     h'.get? s.heap.objs.size=some { cls:=.type "list",dict:=none,data:=.seq its.toArray c',slots:=#[] }->EP X pins σ Q (.ref s.heap.objs.size) { s with heap:=h' }:=fun its r' hz h' c' kp e=>
   ⟨.ref s.heap.objs.size,_,I.laid (t':=s.toks) kp (GX _) (show a8 X.prog X.w _ h' _ (.lst ys) from ⟨hz,its,c',r',e⟩),rfl,q _ (I.hok.fresh (GX _))⟩
 rcases hq with hq | hq
 · obtain ⟨its,r',pl,hz⟩:=I.list hq
   have hlen:=r'.length
   obtain ⟨o,ho,hc,n,hd⟩:=pl.isList
   exact call_list_seq p (.inl rfl) ho hc hd (fun h' c' kp e=>fin its r' hz h' c' kp e) (by simp only [G4] <;> omega)
 · obtain ⟨its,r',pl,hz⟩:=I.tuple hq
   have hlen:=r'.length
   obtain ⟨o,ho,hc,n,hd⟩:=pl
   exact call_list_seq p (.inr rfl) ho hc hd (fun h' c' kp e=>fin its r' hz h' c' kp e) (by simp only [G4] <;> omega)
theorem jW:bZ X (.type "tuple") (fun xs H Q=>∃p ys,xs=[.ref p]/\((aw X.K H p ys/\∀l,H l=none->Q (.ref l) (upd H l (.tup ys)))\/(aC X.K H p ys/\Q (.ref p) H))):=by
 intro pins s σ H xs us Q I r h
 obtain ⟨p,ys,rfl,h⟩:=h
 obtain ⟨u,rfl,rx⟩:=vals1 r
 cases rx
 rcases h with ⟨hq,q⟩ | ⟨hq,q⟩
 · obtain ⟨its,r',pl,hz⟩:=I.list hq
   have hlen:=r'.length
   refine call_tuple_list pl.isList (fun h' kp=>?_) (by simp only [G4] <;> omega)
   have I1:Inv X pins σ H { s with heap:=h' }:=I.kept (t':=s.toks) kp
   have I2:Inv X pins σ (upd H h'.objs.size (.tup ys)) { s with heap:=h'.push { cls:=.type "tuple",data:=.seq its.toArray } }:=
     I1.laid (t':=s.toks) (fun b o e=>GV _ e) (GX _) (show a8 X.prog X.w _ _ _ (.tup ys) from ⟨hz,its,r',IsTup.new _ _⟩)
   exact ⟨.ref h'.objs.size,_,I2,rfl,q _ (I1.hok.fresh (GX _))⟩
 · obtain ⟨its,r',pl,hz⟩:=I.tuple hq
   exact call_tuple_same pl ⟨.ref p,H,I,rfl,q⟩

/-! ### the call of a builtin's method: o.m(..) -/
/-- the value is of that builtin type -/
def Fq (K:GP)(T:String)(x:V)(H:Hp):Prop:=match x with
 | .str _=>T="str"
 | .int _=>T="int"
 | .ref p=>(T="list"/\∃xs,aw K H p xs)\/(T="tuple"/\∃o,K.lookup p=some o/\o.cls=.type "tuple"/\o.dict=none) \/
     (T="dict"/\((∃kvs,H p=some (.dK kvs))\/∃kvs,H p=some (.dT kvs)))\/(T="set"/\∃S n,H p=some (.set S n))
 | _=>False
theorem vX {pins:List (Addr×Obj)}{σ:St}{H:Hp}{s:Shared}{T:String}{x:V}{v:Value}(I:Inv X pins σ H s)(r:RelV x v)(ty:Fq X.K T x H) :
   s.TypeIs v T/\∀a,v=.ref a->∃ob,s.heap.get? a=some ob/\ob.dict=none:=by
 cases x with
 | str z=>
   obtain ⟨t,rfl⟩:=r
   cases (show T="str" from ty)
   exact ⟨typeIs_str s z t,fun _ e=>nomatch e⟩
 | int i=>
   obtain ⟨t,rfl⟩:=r
   cases (show T="int" from ty)
   exact ⟨typeIs_int s i t,fun _ e=>nomatch e⟩
 | ref p=>
   cases r
   rcases ty with ⟨rfl,xs,hq⟩ | ⟨rfl,o,hk,hc,hd⟩ | ⟨rfl,hk⟩ | ⟨rfl,S,n,hk⟩
   · obtain ⟨its,_,pl,_⟩:=I.list hq
     refine ⟨pl.isList.typeIs,fun a e=>?_⟩
     cases e
     obtain ⟨o,n,e,c,hd,_⟩:=pl
     exact ⟨o,e,hd⟩
   · refine ⟨⟨o,I.kIn p o hk,hc⟩,fun a e=>?_⟩
     cases e
     exact ⟨o,I.kIn _ o hk,hd⟩
   · have z:∃o,s.heap.get? p=some o/\o.ExactDict:=by
       rcases hk with ⟨kvs,hk⟩ | ⟨kvs,hk⟩
       · obtain ⟨_,_,_,_,o,_,_,e,ex,_⟩:=I.hok p _ hk
         exact ⟨o,e,ex⟩
       · obtain ⟨_,_,_,_,o,_,_,e,ex,_⟩:=I.hok p _ hk
         exact ⟨o,e,ex⟩
     obtain ⟨o,e,ex⟩:=z
     refine ⟨⟨o,e,ex.1⟩,fun a e2=>?_⟩
     cases e2
     exact ⟨o,e,ex.2.1⟩
   · obtain ⟨o,_,_,_,e,ex,_⟩:=I.hok p _ hk
     refine ⟨⟨o,e,ex.1⟩,fun a e2=>?_⟩
     cases e2
     exact ⟨o,e,ex.2.1⟩
 | _=>exact Ij ty
def D4 (K:GP)(T:String)(r:V->List V->Hp->VK->Prop)(to:TE):TE:=fun σ H Q=>to σ H fun x H1=>Fq K T x H1/\r x [] H1 Q
def BW (K:GP)(T:String)(r:V->List V->Hp->VK->Prop)(to:TE)(t:TA):TE:=fun σ H Q=>to σ H fun x H1=>Fq K T x H1/\t σ H1 fun xs H2=>r x xs H2 Q
variable {o e:Expr}{es:List Expr}{to:TE}{t:TA}{name:Str}{apos cpos:Pos}{T id:String}{r:V->List V->Hp->VK->Prop}
theorem A3 (pa:PlainAttrs T)(slot:Slot T name id)(hty:typeOf (.builtin id)=pure (.type "method_descriptor"))(hm:zB X id r)(ho:PE X o to)
   (hbase:attributeBase o name X.env (eval o X.env)=eval o X.env:=by rfl) (hline:(apos.endLine == cpos.line)=true:=by rfl):PE X (.Call (.Attribute o name apos) [] [] cpos) (D4 X.K T r to):=by
 intro pins s σ H Q I h
 refine wpAny_Call_method0_late hbase hline (bb (ho pins s σ H _ I h) fun v s1 ⟨x,H1,I1,r1,ty,q1⟩=>?_)
 obtain ⟨h1,h2⟩:=vX I1 r1 ty
 exact ⟨T,id,pa,slot,hty,h1,h2,IP rfl (PySem.evalArgs_none (hm pins s1 σ H1 x [] v [] Q I1 r1 .nil q1))⟩
theorem Dr (pa:PlainAttrs T)(slot:Slot T name id)(hty:typeOf (.builtin id)=pure (.type "method_descriptor"))(hm:zB X id r)(ho:PE X o to)(ha:PA X (e :: es) t)
   (hbase:attributeBase o name X.env (eval o X.env)=eval o X.env:=by rfl)
   (hfew:((backTo cpos (starEach (e :: es) X.env)).all (fun x=>!x.1) && (backToKw cpos (keywordEach [] X.env)).all (fun x=>x.1.isSome)
     && decide ((e :: es).length + ([]:List Keyword).length + (if ([]:List Keyword).isEmpty then 0 else 1) < 30))=true:=by rfl)
   (hline:(apos.endLine == cpos.line)=true:=by rfl) (hs:starEach (e :: es) X.env=(false,eval e X.env) :: starEach es X.env:=by rfl) (hplain:(backTo cpos (starEach es X.env)).any (·.1)=false:=by rfl) :
   PE X (.Call (.Attribute o name apos) (e :: es) [] cpos) (BW X.K T r to t):=by
 intro pins s σ H Q I h
 refine wpAny_Call_method_late hbase hfew hline rfl (bb (ho pins s σ H _ I h) fun v s1 ⟨x,H1,I1,r1,ty,q1⟩=>?_)
 obtain ⟨h1,h2⟩:=vX I1 r1 ty
 refine ⟨T,id,pa,slot,hty,h1,h2,?_⟩
 have hA:=ha cpos pins s1 σ H1 _ I1 q1
 rw [hs] at hA ⊢
 refine IP (by show (false || (backTo cpos (starEach es X.env)).any (·.1))=false; rw [hplain] <;> rfl) (JH ?_)
 exact bb hA fun us s2 ⟨vs,H2,I2,r2,q2⟩=>hm pins s2 σ H2 x vs v us Q I2 r1 r2 q2
/- xs.append(e),list.index on a jz tuple .. are zB facts of 06m -/
end
end L2

namespace L2
open PySem PySem.Spec PyProof.Rows

def EE (X:Cx)(id:String)(r:V->List V->Hp->VK->Prop):Prop:=
 ∀(pins:List (Addr×Obj)) (s:Shared) (σ:St) (H:Hp) (x:V) (xs:List V) (v:Value) (us:List Value) (Q:VK),Inv X pins σ H s->RelV x v->Vals xs us->r x xs H Q ->
   wpAny (model X.prog X.w) X.A (call (.builtin id) (v :: us)) (EP X pins σ Q) X.xe s

/-! ### lists of values -/
theorem Vals.one:∀{x:V} {us:List Value},Vals [x] us->∃u,us=[u]/\RelV x u
 | _,_,.cons r .nil=>⟨_,rfl,r⟩
theorem Vals.two:∀{x y:V} {us:List Value},Vals [x,y] us->∃u v,us=[u,v]/\RelV x u/\RelV y v
 | _,_,_,.cons r (.cons q .nil)=>⟨_,_,rfl,r,q⟩
theorem Vals.zero:∀{us:List Value},Vals [] us->us=[]
 | _,.nil=>rfl
theorem Vals.dropLast {xs:List V}{us:List Value}(h:Vals xs us):Vals xs.dropLast us.dropLast:=by
 induction h with
 | nil=>exact .nil
 | cons r t ih=>
   cases t with
   | nil=>exact .nil
   | cons q t'=>exact .cons r ih
theorem Vals.eraseIdx:∀{xs:List V} {us:List Value} (i:Nat),Vals xs us->Vals (xs.eraseIdx i) (us.eraseIdx i)
 | _,_,_,.nil=>.nil
 | _,_,0,.cons _ t=>t
 | _,_,i + 1,.cons r t=>.cons r (Vals.eraseIdx i t)
theorem nS {α:Type}(l:List α):l.eraseIdx (l.length - 1)=l.dropLast:=by
 induction l with
 | nil=>rfl
 | cons a r ih=>
   cases r with
   | nil=>rfl
   | cons b r=>
     have e:(a :: b :: r).length - 1=((b :: r).length - 1) + 1:=by
       have h1:(a :: b :: r).length=r.length + 2:=rfl
       have h2:(b :: r).length=r.length + 1:=rfl
       omega
     rw [e,Kz,ih]
     all_goals rfl
theorem kQ {α:Type}:∀(l:List α) (i:Nat),(l.eraseIdx i).length<=l.length
 | [],_=>GX _
 | _ :: _,0=>JS _
 | _ :: r,i + 1=>Nat.succ_le_succ (kQ r i)
section
variable {X:Cx}{pins:List (Addr×Obj)}{σ:St}{H:Hp}{s:Shared}{l b:Addr}{xs ys zs:List V}

/-! ### the two steps: a tracked list is Cn,a new list is laid -/
theorem Inv.Ar {its its':List Value}{n:Nat}{f:Array Value->Array Value}{t':Nat}(I:Inv X pins σ H s)(hH:H l=some (.lst xs))
   (e:s.heap.get? l=some { cls:=.type "list",data:=.seq its.toArray n }) (hf:f its.toArray=its'.toArray) (hv:Vals ys its') (hz:ys.length<=sizeLine) :
   Inv X pins σ (upd H l (.lst ys)) { s with heap:=s.heap.update l (JY f),toks:=t' }:=by
 have q:=PySem.IsL.update e f
 rw [hf] at q
 refine I.write (x:=l) (e:=l) (by rw [hH]; exact trivial) (.inl rfl) (fun b' u hb hu=>(KH s.heap (JY f) (Ne.symm hb)).trans hu) ⟨_,q⟩ ?_
 exact ⟨hz,its',_,hv,q⟩
theorem Inv.Fb {its:List Value}{t':Nat}(I:Inv X pins σ H s)(hv:Vals ys its)(hz:ys.length<=sizeLine) :
   Inv X pins σ (upd H s.heap.objs.size (.lst ys)) { s with heap:=s.heap.push { cls:=.type "list",data:=.seq its.toArray },toks:=t' }:=
 I.laid (fun _ _ q=>GV _ q) (GX _) ⟨hz,its,0,hv,G9 _ rfl⟩
theorem Inv.fresh (I:Inv X pins σ H s):H s.heap.objs.size=none:=I.hok.fresh (GX _)
theorem Inv.um (I:Inv X pins σ H s)(hH:H l=some (.lst xs)):xs.length<=sizeLine/\∃(its:List Value) (n:Nat),Vals xs its/\xs.length=its.length/\s.heap.get? l=some { cls:=.type "list",data:=.seq its.toArray n }:=by
 obtain ⟨z,its,n,r,e⟩:=I.hok l _ hH
 exact ⟨z,its,n,r,r.length,e⟩

end

section
variable {X:Cx}

/-! ### methods -/
def pO:V->List V->Hp->VK->Prop:=fun x vs H Q=>∃l xs y,x=.ref l/\vs=[y]/\H l=some (.lst xs)/\xs.length < sizeLine/\Q .bq (upd H l (.lst (xs++[y])))
theorem kU:EE X "list.append" pO:=by
 intro pins s σ H x vs v us Q I rx rv h
 obtain ⟨l,xs,y,rfl,rfl,hH,hz,q⟩:=h
 cases rx
 obtain ⟨u,rfl,ru⟩:=rv.one
 obtain ⟨z,its,n,r,hl,e⟩:=I.um hH
 refine call_meets F.slot_list_append ⟨_,e,rfl⟩ F.entry_list_append (F.args_list_append_2 _ _) (PySem.list_append l its.toArray n u (by rw [G4]; omega)) ⟨e,?_⟩
 refine ⟨.bq,_,I.Ar (its':=its++[u]) hH e (by simp) (r.append (.cons ru .nil)) ?_,rfl,q⟩
 rw [GU,Hq]
 omega

def DK:V->List V->Hp->VK->Prop:=fun x vs H Q=>∃l xs y,x=.ref l/\vs=[]/\H l=some (.lst xs)/\xs[xs.length - 1]? = some y/\Q y (upd H l (.lst xs.dropLast))
theorem Av:EE X "list.pop" DK:=by
 intro pins s σ H x vs v us Q I rx rv h
 obtain ⟨l,xs,y,rfl,rfl,hH,hy,q⟩:=h
 cases rx
 have Gr:=rv.zero
 subst Gr
 obtain ⟨z,its,n,r,hl,e⟩:=I.um hH
 obtain ⟨u,hu,ru⟩:=r.get hy
 have Gs:its.toArray[its.toArray.size - 1]? = some u:=by
   show its.toArray[its.length - 1]? = some u
   rw [← KI,← hl]
   exact hu
 refine call_meets F.slot_list_pop ⟨_,e,rfl⟩ F.entry_list_pop (F.args_list_pop_1 _) (MeetsSeq.list_pop_last l its.toArray n u Gs (by rw [G4]; omega)) ⟨e,?_⟩
 refine ⟨y,_,I.Ar (its':=its.dropLast) hH e ?_ r.dropLast ?_,ru,q⟩
 · show its.toArray.eraseIdxIfInBounds (its.toArray.size - 1)=its.dropLast.toArray
   rw [G4,JV,nS]
 · rw [List.length_dropLast]
   omega

def vw:V->List V->Hp->VK->Prop:=fun x vs H Q=>∃l xs i k y,x=.ref l/\vs=[.int i]/\H l=some (.lst xs) /\ -(2 ^ 63)<=i/\i < 2 ^ 63/\J2 i xs.length=some k/\xs[k]? = some y/\Q y (upd H l (.lst (xs.eraseIdx k)))
theorem ur:EE X "list.pop" vw:=by
 intro pins s σ H x vs v us Q I rx rv h
 obtain ⟨l,xs,i,k,y,rfl,rfl,hH,h1,h2,hk,hy,q⟩:=h
 cases rx
 obtain ⟨u,rfl,ru⟩:=rv.one
 obtain ⟨t,rfl⟩:=ru
 obtain ⟨z,its,n,r,hl,e⟩:=I.um hH
 obtain ⟨w,hw,rw'⟩:=r.get hy
 refine call_meets F.slot_list_pop ⟨_,e,rfl⟩ F.entry_list_pop (F.args_list_pop_2 _ _)
   (MeetsSeq.list_pop_at l its.toArray n i t k w (fitsIndex_both h1 h2) (by rw [G4,← hl]; exact hk) (by rw [← KI]; exact hw) (by rw [G4]; omega)) ⟨e,?_⟩
 refine ⟨y,_,I.Ar (its':=its.eraseIdx k) hH e ?_ (r.eraseIdx k) ?_,rw',q⟩
 · show its.toArray.eraseIdxIfInBounds k=(its.eraseIdx k).toArray
   rw [JV]
 · have:=kQ xs k
   omega

/-! ### list + list,list += list,list * int -/
def DH:R2:=fun x y H Q=>∃l b xs zs,x=.ref l/\y=.ref b/\H l=some (.lst xs)/\H b=some (.lst zs)/\xs.length + zs.length<=sizeLine/\∀p,H p=none->Q (.ref p) (upd H p (.lst (xs++zs)))
theorem AJ:eW X (binaryOp .Add) DH:=by
 intro pins s σ H x y v u Q I rx ry h
 obtain ⟨l,b,xs,zs,rfl,rfl,hH,hB,hz,q⟩:=h
 cases rx
 cases ry
 obtain ⟨z,its,n,r,hl,e⟩:=I.um hH
 obtain ⟨z2,its2,n2,r2,hl2,e2⟩:=I.um hB
 refine PySem.P.add_list e e2 ?_ (by rw [G4,G4]; omega)
 have ea:its.toArray++its2.toArray=(its++its2).toArray:=by simp
 rw [ea]
 exact ⟨.ref _,_,I.Fb (t':=s.toks) (r.append r2) (by rw [GU]; omega),rfl,q _ I.fresh⟩
/-! ### del xs[i] -/
end

/-! ### xs[a:b]=ys -/

end L2

namespace Fy
open PySem PySem.W PySem.Calls PyProof.Rows

/-! ### the l9 -/
theorem iB {P:Params}{h:Heap}:∀(ns:List Int) (vs:List Value),WellAll P h vs (ns.map WData.int)->IntsAre vs ns:=by
 intro ns
 induction ns with
 | nil=>
   intro vs w
   rw [IH] at w
   cases w
   exact .nil
 | cons n ns ih=>
   intro vs w
   rw [Hi] at w
   cases w with
   | cons a b=>
     cases a
     exact .cons _ _ (ih _ b)

theorem rO {l:OpenLaw}{n:Nat}(hn:l.most=some n){P:Params}{h:Heap}{args:List WData}{vals:List Value}
   (hpre:l.row.toRowW.claim.pre args=true) (hwl:WellAll P h vals args) :
   ∃a vs ns,vals=[HC a]/\args=[WData.list (ns.map WData.int)]/\h.get? a=some { cls:=.type "list",data:=.seq vs.toArray }/\IntsAre vs ns/\ns.length<=n:=by
 have Gq:WShape.hasAll [] args [.list .int]=true:=(pre_splitW hpre).1
 have hc:l.pre.holds [] { args:=args }=true:=(pre_splitW hpre).2
 obtain ⟨d,r,rfl,h1,h2⟩:=hasAllW_cons Gq
 obtain rfl:=hasAllW_nil h2
 obtain ⟨xs,rfl,h3⟩:=hasW_list h1
 obtain ⟨ns,rfl⟩:=items_int h3
 have hlen:ns.length<=n:=by
   unfold OpenLaw.pre at hc
   have h4:(WTm.not (.lt (.lit (.int (n:Int))) (.len (.arg 0)))).holds [] { args:=[.list (ns.map .int)] }=true:=by
     have h4:=(holds_andW hc).1
     rw [hn] at h4
     exact h4
   have h5:=condW_of h4 (w_not (w_lt w_lit (w_len_list (w_arg rfl))))
   rw [GR] at h5
   refine Nat.le_of_not_lt fun q=>?_
   have q':(n:Int) < ((ns.length:Nat):Int):=by omega
   first
     | (rw [decide_eq_true q'] at h5; exact absurd h5 (by decide))
     | (simp at h5; omega)
 cases hwl with
 | cons w1 w2=>
   cases w2
   cases w1 with
   | list ho hall=>exact ⟨_,_,ns,rfl,rfl,ho,iB ns _ hall,hlen⟩

theorem rH (l:OpenLaw)(args:List WData):l.row.toRowW.claim.post args (.bool true) args=true:=
 postW_of (r:=l.row.toRowW) (X:=(true == true))
   (show WShape.has [] (.bool true) .bool=true by first | rfl | decide | simp [WShape.has,WShape.arms,WShape.armsAll])
   (show (WTm.eq .res (.lit (.bool true))).value [] { args:=args,res:=some (.bool true),after:=args }=some (.bool (true == true)) from w_eq_bool (w_res rfl) w_lit) rfl

/-! ### the zK: wZ last Er (the goal 'hc' behind k_head) from a wpAny of the law's body -/
/-- the same from a codeAny of the F5 (for a layer whose function Ce FW of calls) -/
theorem mF {l:OpenLaw}{n:Nat}{q:Program}{loose:List Str}{XP:(Str->Option Value)->Heap->Prop}{YP:World->Heap->Prop}{d:DefRec}
   (hn:l.most=some n) (hdf:d.params.defaults=[])
   (call:∀(w:World) (s₀ s₁:Shared) (mg mb:Str->Option Value) (fa:Addr) (o:Obj) (pm cd doc:Value) (a:Addr) (vs:List Value) (ns:List Int),
     Ground q loose [] XP w s₀ mg mb s₁.heap->YP w s₁.heap ->
     s₁.heap.get? fa=some o->o.data=.func (docDef d.name d.params d.body d.scope pm cd doc)->s₁.heap.CodeRec cd d.name->mg d.name=some (.ref fa) ->
     s₁.heap.get? a=some { cls:=.type "list",data:=.seq vs.toArray }->IntsAre vs ns->ns.length<=n->s₁.gens = #[] ->
     codeAny (model l.prog w) callerA (.call (.ref fa) ⟨[.ref a],[]⟩) (fun r s'=>r=.ok (.ret (.bool true))/\OldK s₁.heap s'.heap/\s'.os=s₁.os/\AllBare s'.gens) s₁) :
   WalkO q loose XP YP l.row.toRowW d [] (fun f vs=>PySem.call f vs):=by
 intro w s₀ s₁ mg mb G Y fa o pm cd doc dV kV ho hd hcd hD hmg hg args vals as hpre Gj GO hwl GN
 obtain rfl:dV=.none:=Dflts.none hD hdf
 obtain rfl:kV=.none:=Dflts.noKw hD
 obtain ⟨a,vs,ns,rfl,rfl,z9,hints,hlen⟩:=rO hn hpre hwl
 refine enter_call (codeAny_mono (call w s₀ s₁ mg mb fa o pm cd doc a vs ns G Y ho (fd_plain hd) hcd hmg z9 hints hlen hg) fun r s' hq=>?_)
 obtain ⟨rfl,h2,h3,h4⟩:=hq
 exact ⟨.inl ⟨.bool true,.bool true,[],rfl,fun _=>rfl,.bool true,rH l _,fun _=>⟨List.Pairwise.nil,fun _ hm=>(nomatch hm)⟩⟩,h2,h3,h4⟩

/-! ### rules over ANY heap (no ledger) from facts about the written part K: the Cm own take a ledger (News) for what they write -/
end Fy

namespace L2
open PySem PySem.Spec PyProof.Rows

theorem k6:∀{vs:List Value} {ns:List Int},IntsAre vs ns->Vals (ns.map V.int) vs
 | _,_,.nil=>.nil
 | _,_,.cons n t h=>.cons ⟨t,rfl⟩ (k6 h)

/-- nothing is tracked but the l9,known to the object (or it is an object of the module) -/
def zC (H:Hp):Prop:=∀b,H b=none\/∃o xs,H b=some (.frz o (.lst xs))

/-- THE F8: the law's promise,at the heap behind the top. F,the promise of the law's def,may use that base is part of the heap (so K.In base,base.Ns mainGlobals mg stand in Mod) -/
theorem uj {P:Program}{w:World}{K:GP}{mg mb:Str->Option Value}{CX:CXT}{k:Nat}{fa a:Addr}{fd:FuncData}{x:Str}{sp:Sp}{s₁:Shared}{vs:List Value}{ns:List Int}
   (KX:K.In s₁.heap) (hns:s₁.heap.Ns mainGlobals mg) (hb:s₁.heap.Ns builtinsNs mb) (hbb:∀x:Str,x≠"__name__"->mb x=bootBuiltins x) (hlim:s₁.heap.NoLimit) (hg:s₁.gens = #[])
   (ha:s₁.heap.get? a=some { cls:=.type "list",data:=.seq vs.toArray }) (hi:IntsAre vs ns) (hl:ns.length<=sizeLine) (hr:bP k callerA)
   (F:∀base:Heap,K.In base->base.Ns mainGlobals mg->aL P w K mg base CX k fa fd [x] sp) (hbind:∀(s:Shared) (u:Value),BindsTo s fd ⟨[u],[]⟩ [(x,u)])
   (hsp:∀H:Hp,zC H->aw K H a (ns.map V.int)->sp [.ref a] H (fun v _=>v=.bl true) fun _ _ _=>False)
   (hCX:∀H e s',CX [] H s₁ (fun _ _ _=>False) e s'->False) :
   codeAny (model P w) callerA (.call (.ref fa) ⟨[.ref a],[]⟩) (fun r s'=>r=.ok (.ret (.bool true))/\OldK s₁.heap s'.heap/\s'.os=s₁.os/\AllBare s'.gens) s₁:=by
 have rv:=k6 hi
 have E9:=hi.length
 -- from an abstract heap in F2 nothing but the l9 may be tracked
 have core:∀H:Hp,zC H->aw K H a (ns.map V.int)->fk P w H s₁.heap->(∀b,H b≠none->b=a)->(H a≠none->K.lookup a=none) ->
     codeAny (model P w) callerA (.call (.ref fa) ⟨[.ref a],[]⟩) (fun r s'=>r=.ok (.ret (.bool true))/\OldK s₁.heap s'.heap/\s'.os=s₁.os/\AllBare s'.gens) s₁:=by
   intro H hO hS hok hA hK
   have oV:∀{b:Addr} {o:Obj},s₁.heap.get? b=some o->H b=none->(lJ s₁.heap H).get? b=some o:=fun e n=>ub e n
   have noA:∀{b:Addr} {o:Obj} {es:Array DictEntry} {ep:Nat},s₁.heap.get? b=some o->o.data=.dict es ep->H b=none:=fun {b o es ep} e d=>by
     cases q:H b with
     | none=>rfl
     | some u=>
       have e':b=a:=hA b (by rw [q]; simp)
       subst e'
       rw [ha] at e; cases e
       have d':Data.seq vs.toArray _=Data.dict es ep:=d
       cases d'
   have nsK:∀{b:Addr} {m:Str->Option Value},s₁.heap.Ns b m->(lJ s₁.heap H).Ns b m:=fun {b m} ⟨o,es,ep,e,d,r⟩=>⟨o,es,ep,oV e (noA e d),d,r⟩
   have FH:K.In (lJ s₁.heap H):=fun b o e=>oV (KX b o e) (by
     cases q:H b with
     | none=>rfl
     | some u=>
       have e':b=a:=hA b (by rw [q]; simp)
       subst e'
       rw [hK (by rw [q]; simp)] at e; cases e)
   have hM:Mod K mg (lJ s₁.heap H):=⟨FH,nsK hns,⟨mb,nsK hb,hbb⟩,let ⟨mc,h1,h2⟩:=hlim; ⟨mc,nsK h1,h2⟩⟩
   have e0:nC P w K mg (lJ s₁.heap H) callerA [] s₁ H:=⟨rfl,hM,fun b o e=>xq e,Nat.le_of_eq (qQ _ _),trivial,fun b hb=>absurd (show b∈([]:List Addr) from hb) (by simp),hok,.of_eq hg⟩
   refine codeAny_mono ((F _ FH (nsK hns)).run callerA [] s₁ H ⟨[.ref a],[]⟩ [.ref a] [.ref a] _ _ hr e0 (hbind s₁ (.ref a)) (.cons rfl .nil) (hsp H hO hS)) fun r s' h=>?_
   cases r with
   | error e=>exact (hCX H e s' h).elim
   | ok fl=>
     cases fl with
     | next=>exact Ij h
     | brk=>exact Ij h
     | cont=>exact Ij h
     | ret u=>
       obtain ⟨v,H',os,bare,un,E6,r',q⟩:=h
       have q':v=.bl true:=q
       subst q'
       obtain rfl:u=I0 true:=r'
       refine ⟨rfl,OldK.of_keep fun b o e=>?_,os,bare⟩
       cases q:H b with
       | none=>exact un.keep b o e q (by intro z; exact absurd (show b∈([]:List Addr) from z) (by simp)) (by simp)
       | some u=>
         rcases hO b with z | ⟨ob,xs,z⟩
         · rw [q] at z; cases z
         · have z2:=un.frzs b ob _ z
           obtain ⟨e1,_⟩:=hok b _ z
           obtain ⟨e2,_⟩:=E6 b _ z2
           rw [e] at e1; cases e1
           exact e2
 cases hk:K.lookup a with
 | some o=>
   -- the l9 is one of the jz own objects
   have e:=KX a o hk
   rw [ha] at e
   cases e
   refine core (fun _=>none) (fun _=>.inl rfl) (.inr ⟨_,vs.toArray,_,hk,rfl,rfl,rfl,by rw [G4,E9]; exact hl,by simpa using rv⟩) (fun b u z=>by have z':(none:Option HO)=some u:=z; cases z') (fun b z=>absurd rfl z) fun z=>absurd rfl z
 | none=>
   refine core (fun b=>if b=a then some (.frz { cls:=.type "list",data:=.seq vs.toArray } (.lst (ns.map V.int))) else none) (fun b=>?_) (.inl (.inr ⟨{ cls:=.type "list",data:=.seq vs.toArray },if_pos rfl⟩)) (fun b u z=>?_) (fun b z=>?_) fun _=>hk
   · by_cases hb:b=a
     · exact .inr ⟨_,_,if_pos hb⟩
     · exact .inl (if_neg hb)
   · by_cases hb:b=a
     · have z':=(if_pos hb).symm.trans z
       cases z'
       subst hb
       exact ⟨ha,by rw [GR]; exact hl,vs,_,rv,ha⟩
     · have z':=(if_neg hb).symm.trans z
       cases z'
   · by_cases hb:b=a
     · exact hb
     · exact absurd (if_neg hb) z
end L2

namespace L2
open PySem PySem.Spec PyProof.Rows

/-- the goal that k_head leaves (case hc),from the law's promise. F gives the function object fd (K's own) once,then the promise over pw base -/
theorem walk_of {l:PySem.W.OpenLaw}{n k:Nat}{q:Program}{loose:List Str}{XP:(Str->Option Value)->Heap->Prop}{YP:World->Heap->Prop}{d:DefRec}{K:Params->GP}{CX:World->CXT}{sp:World->Sp}{x:Str}
   (hn:l.most=some n) (hn2:n<=sizeLine) (hdf:d.params.defaults=[]) (hr:bP k callerA)
   (hY:∀(w:World) (h:Heap),YP w h->(K w.params).In h)
   (F:∀(w:World) (mg:Str->Option Value) (fa:Addr) (h:Heap),(K w.params).In h->h.Ns mainGlobals mg->mg d.name=some (.ref fa) ->
     ∃fd:FuncData,(∀(s:Shared) (u:Value),BindsTo s fd ⟨[u],[]⟩ [(x,u)]) /\
       ∀base:Heap,(K w.params).In base->base.Ns mainGlobals mg->aL l.prog w (K w.params) mg base (CX w) k fa fd [x] (sp w))
   (hsp:∀(w:World) (H:Hp) (a:Addr) (ns:List Int),ns.length<=n->zC H->aw (K w.params) H a (ns.map V.int)->sp w [.ref a] H (fun v _=>v=.bl true) fun _ _ _=>False)
   (hCX:∀(w:World) (H:Hp) (s:Shared) (e:Value) (s':Shared),CX w [] H s (fun _ _ _=>False) e s'->False) :
   PySem.W.WalkO q loose XP YP l.row.toRowW d [] (fun f vs=>PySem.call f vs):=by
 refine Fy.mF hn hdf fun w s₀ s₁ mg mb fa o pm cd doc a vs ns G Y ho hd hcd hmg z9 hints hlen hg=>?_
 have KX:=hY w _ Y
 obtain ⟨fd,hb,hF⟩:=F w mg fa _ KX G.T.g hmg
 exact uj KX G.T.g G.T.b G.T.builtins G.T.nolimit hg z9 hints (GY hlen hn2) hr hF hb (fun H hO hS=>hsp w H a ns hlen hO hS) fun H e s'=>hCX w H s₁ e s'
end L2

/- THE F9 Em (shape; LID,My.* are F4):
  My.GH: a structure of the addresses that Ei layer names (classes,Ci); My.Txt K t: a structure (Prop) of the equations over K;
  My.txt_mk:{K} {implicit addresses ..} (e1:nsIn K mainGlobals "law"=some (some (.ref f))) (e2:K.lookup f=some ⟨oc,od,.func (fnOf "law" "law" params body scope dV kV doc pm an cdv ct),sl⟩) (e3:codeIn K cdv "law"=true) .. : ∃t,My.Txt K t

set_option maxRecDepth 100000 in
set_option maxHeartbeats 0 in
theorem PySem.Challenge.cw_LID_holds : PySem.Challenge.rw_LID.Holds := by
 w_on; o_law; k_head; (case hw=>w_witness2)
 k_fill
 refine L2.walk_of (l:=PySem.Challenge.rw_LID) (n:=63) (k:=40) (x:="script") (CX:=fun w=>..) (sp:=fun _=>My.sp_law) rfl (by decide) rfl ⟨rfl,by decide,by decide⟩ (fun w h Y=>PySem.W.kIn_of Y) ?F ?S ?C
 case F=>
   intro w mg fa h KX G hmg
   have T:∃t,My.Txt (L2.KOf KX) t:=by
     dsimp only [L2.KOf]                          -- K must stand as «<heap const> w.params» for k_is
     refine' My.txt_mk ?e1 ?e2 ?e3 ..
     (case e1=>PySem.W.k_is)                    -- in the order: a name -> its address -> its object -> its parts
     (case e2=>PySem.W.k_is)
     ..
   obtain ⟨t,T⟩:=T
   have e0:=hmg.symm.trans (HP KX G T.law)
   cases e0                                       -- fa is the law's own address
   exact ⟨_,fun s u=>.of_eq rfl,fun base kb nb=>My.law_fn T kb nb⟩     -- if «.of_eq rfl» comes too early: refine' ⟨_,?b,fun base kb nb=>My.law_fn T kb nb⟩; exact fun s u=>.of_eq rfl
 case S=>exact fun w H a ns hl hO hS=>..
 case C=>exact ..
(the tactic k_is has no namespace: write k_is) -/

/-! SHORT WORDS over the layer: a def of the text,its body,what a loop and a test want. -/
namespace L2
open PySem PySem.Spec PyProof.Rows

/-! ### the text by places -/
def b7 (s:Stmt):Arguments:=match s with
 | .FunctionDef _ a _ _ _ _ _ _ _ _=>a
 | _=>{ posonlyargs:=[],args:=[],vararg:=none,kwonlyargs:=[],kw_defaults:=[],kwarg:=none,defaults:=[] }
def bX (s:Stmt):List Stmt:=match s with
 | .FunctionDef _ _ b _ _ _ _ _ _ _=>b
 | _=>[]
def af (s:Stmt):Scope:=match s with
 | .FunctionDef _ _ _ _ _ _ sc _ _ _=>sc
 | _=>{ kind:=.function,names:=[],isGenerator:=false,isCoroutine:=false }

/-! ### no exception leaves a def -/
abbrev CX0:CXT:=fun _ _ _ _ _ _=>False
abbrev E0:XK:=fun _ _ _=>False
theorem pI {X:Cx}:Passes CX0 X E0:=fun _ _ _ _ _ _ _ h=>h.elim

/-! ### a def (or method) of the text as it stands behind the top -/
structure bI (K:GP)(x qual:Str)(st:Stmt)(f:Addr)(fd:FuncData):Prop where
 ex:∃(oc:Value) (od:Option Addr) (kV doc pm:Value) (an:Option Addr) (cdv ct:Value) (osl:Array (Option Value)),
   fd=Ig x qual (b7 st) (bX st) (af st) .none kV doc pm an cdv ct/\K.lookup f=some ⟨oc,od,.func fd,osl⟩ /\ Jz K cdv qual=true
 kp:IA K (.ref f)=true
section
variable {P:Program}{w:World}{K:GP}{mg:Str->Option Value}{base:Heap}
/-- THE RULE for a def: its body as a term of rules,and the reading of that term -/
theorem bI.ok {x qual:Str}{st:Stmt}{f:Addr}{fd:FuncData}{N ps:List Str}{k:Nat}{sp:Sp}(F:bI K x qual st f fd)(S:aq N ps (af st))(len:∀vs H Q E,sp vs H Q E->vs.length=ps.length)
   (hbody:∀(cdv:Value) (A:Around) (outer:List Env) (s:Shared) (H:Hp) (vs:List V) (Q:VK) (E:XK),bP k (A.deeper (envOfC qual (af st) s.heap.objs.size f cdv))->sp vs H Q E ->
     ∃t,mz (qj CX0 P w K mg base N qual (af st) f cdv A outer s H E).nox (bX st) t/\t { nx:=fun _ H'=>Q .bq H',rt:=Q } (start N vs) H):aL P w K mg base CX0 (k + 1) f fd ps sp:=by
 obtain ⟨oc,od,kV,doc,pm,an,cdv,ct,osl,rfl,lk,hcd⟩:=F.ex
 refine CI lk hcd S len fun A outer s H vs Q E hr hsp=>?_
 obtain ⟨t,h,q⟩:=hbody cdv A outer s H vs Q E hr hsp
 exact ⟨t,h.nox,q⟩
/-- how its arguments bind (no defaults): h is «fun _ _ _ _ _ _ us hl=>match us,hl with | [_,_],_=>rfl»,one _ a parameter -/
theorem bI.binds {x qual:Str}{st:Stmt}{f:Addr}{fd:FuncData}{ps:List Str}(F:bI K x qual st f fd)
   (h:∀(kV doc pm:Value) (an:Option Addr) (cdv ct:Value) (us:List Value),us.length=ps.length->bindArgs (Ig x qual (b7 st) (bX st) (af st) .none kV doc pm an cdv ct) ⟨us,[]⟩ = pure (ps.zip us)):Binds K fd ps []:=by
 obtain ⟨oc,od,kV,doc,pm,an,cdv,ct,osl,rfl,lk,hcd⟩:=F.ex
 exact .all (h kV doc pm an cdv ct)
theorem dP {x qual:Str}{st:Stmt}{f:Addr}{oc:Value}{od an:Option Addr}{osl:Array (Option Value)}{kV doc pm cdv ct:Value}(l:K.lookup f=some ⟨oc,od,.func (Ig x qual (b7 st) (bX st) (af st) .none kV doc pm an cdv ct),osl⟩)
   (c:Jz K cdv qual=true) (k:IA K (.ref f)=true):bI K x qual st f (Ig x qual (b7 st) (bX st) (af st) .none kV doc pm an cdv ct):=⟨⟨oc,od,kV,doc,pm,an,cdv,ct,osl,rfl,l,c⟩,k⟩
end
theorem aM {n:Nat}(h:n<=1000):n < sizeLine:=Ho h (by decide)

/-! ### expressions in short: the name that stands in the i-th slot -/

/-! ### tests -/
theorem aX {A B:Prop}(h:B):if false=true then A else B:=by
 rw [if_neg G7]
 exact h
theorem bt {A B:Prop}(h:A):if true=true then A else B:=by
 rw [if_pos rfl]
 exact h
theorem aH {c A B:Prop}[Decidable c](h1:c->A)(h2:¬ c->B):if c then A else B:=by
 by_cases h:c
 · rw [if_pos h]
   exact h1 h
 · rw [if_neg h]
   exact h2 h
/-! ### heaps -/
/-- all that was tracked is as it was -/
def ah (H H':Hp):Prop:=∀b o,H b=some o->H' b=some o
theorem ah.seq {K:GP}{H H':Hp}{a:Addr}{xs:List V}(e:ah H H')(h:aw K H a xs):aw K H' a xs:=by
 rcases h with (h | ⟨o,h⟩) | h
 · exact .inl (.inl (e _ _ h))
 · exact .inl (.inr ⟨o,e _ _ h⟩)
 · exact .inr h

end L2
set_option Elab.async false
set_option linter.all false
set_option maxRecDepth 100000
namespace L2
open PySem PySem.Spec PyProof.Rows

/-! ### lists of pairs as tables -/
section
variable {κ:Type}[DecidableEq κ]
def du (kvs:List (κ×V))(k:κ):Option V:=(kvs.find? fun kv=>decide (kv.1=k)).map (·.2)
/-- in its place,or at the end -/
def putK (kvs:List (κ×V))(k:κ)(v:V):List (κ×V):=
 if (kvs.any fun kv=>decide (kv.1=k))=true then kvs.map (fun kv=>if kv.1=k then (kv.1,v) else kv) else kvs++[(k,v)]
theorem gr {p:κ×V}{r:List (κ×V)}{k:κ}(e:p.1=k):du (p :: r) k=some p.2:=by simp [du,IM,e]
theorem eo {p:κ×V}{r:List (κ×V)}{k:κ}(e:¬ p.1=k):du (p :: r) k=du r k:=by simp [du,IM,e]
theorem jV (k:κ):∀kvs:List (κ×V),(kvs.any fun kv=>decide (kv.1=k))=(du kvs k).isSome
 | []=>rfl
 | p :: r=>by
   rw [Jn]
   by_cases e:p.1=k
   · simp only [gr e,decide_eq_true e,Bool.true_or,Option.isSome_some]
   · rw [eo e,decide_eq_false e,Bool.false_or]; exact jV k r
theorem dZ (kvs:List (κ×V))(k:κ)(v:V):(putK kvs k v).length<=kvs.length + 1:=by
 unfold putK
 split
 · rw [GR]; omega
 · rw [GU,G5,Ik]; omega
theorem cS.isSome_eq {o:Option V}{u:Option Value}(r:cS o u):o.isSome=u.isSome:=by
 cases o with
 | none=>cases u with
   | none=>rfl
   | some _=>exact (show False from r).elim
 | some _=>cases u with
   | none=>exact (show False from r).elim
   | some _=>rfl
theorem cS.getD {o:Option V}{u:Option Value}{d:V}{d':Value}(r:cS o u)(rd:RelV d d'):RelV (o.getD d) (u.getD d'):=by
 cases o with
 | none=>cases u with
   | none=>exact rd
   | some _=>exact (show False from r).elim
 | some _=>cases u with
   | none=>exact (show False from r).elim
   | some _=>exact r

/-- raw tables of the same keys -/
theorem KV.val {kvs:List (κ×V)}{vs:List (κ×Value)}(r:KV kvs vs)(k:κ):cS (du kvs k) (valueAt vs k):=by
 unfold KV at r
 induction r with
 | nil=>exact Ht
 | @cons p q ps qs h t ih=>
   obtain ⟨h1,h2⟩:=h
   by_cases e:p.1=k
   · have e':q.1=k:=h1.symm.trans e
     have b:valueAt (q :: qs) k=some q.2:=by simp [valueAt,IM,e']
     rw [gr e,b]; exact h2
   · have e':¬ q.1=k:=fun z=>e (h1.trans z)
     have b:valueAt (q :: qs) k=valueAt qs k:=by simp [valueAt,IM,e']
     rw [eo e,b]; exact ih
theorem KV.any {kvs:List (κ×V)}{vs:List (κ×Value)}(r:KV kvs vs)(k:κ):(kvs.any fun kv=>decide (kv.1=k))=vs.any fun kv=>decide (kv.1=k):=by
 unfold KV at r
 induction r with
 | nil=>rfl
 | cons h t ih=>rw [Jn,Jn,ih,h.1]
theorem KV.repl {kvs:List (κ×V)}{vs:List (κ×Value)}(r:KV kvs vs)(k:κ){y:V}{u:Value}(ry:RelV y u) :
   KV (kvs.map fun kv=>if kv.1=k then (kv.1,y) else kv) (vs.map fun kv=>if kv.1=k then (kv.1,u) else kv):=by
 unfold KV at r ⊢
 induction r with
 | nil=>exact .nil
 | @cons p q ps qs h t ih=>
   rw [Hi,Hi]
   refine .cons ?_ ih
   obtain ⟨h1,h2⟩:=h
   by_cases e:p.1=k
   · rw [if_pos e,if_pos (h1.symm.trans e)]; exact ⟨h1,ry⟩
   · rw [if_neg e,if_neg (fun z=>e (h1.trans z))]; exact ⟨h1,h2⟩
theorem KV.put {kvs:List (κ×V)}{vs:List (κ×Value)}(r:KV kvs vs)(k:κ){y:V}{u:Value}(ry:RelV y u):KV (putK kvs k y) (stored vs k u):=by
 unfold putK stored
 rw [r.any k]
 by_cases e:(vs.any fun kv=>decide (kv.1=k))=true
 · rw [if_pos e,if_pos e]; exact r.repl k ry
 · rw [if_neg e,if_neg e]; exact Paired.snoc r ⟨rfl,ry⟩
theorem KV.length {kvs:List (κ×V)}{vs:List (κ×Value)}(r:KV kvs vs):kvs.length=vs.length:=Paired.length r
end


/-! ### a tracked dict,its keys ints and texts or tuples of these -/
theorem mX {P:Program}{w:World}{k:Key}{u:Value}(r:RelV (kV k) u):(bp P w).is k u=true:=by
 cases k with
 | inl i=>obtain ⟨t,e⟩:=(show ∃t,u=I9 i t from r); subst e; exact m3 P w i t
 | inr x=>obtain ⟨t,e⟩:=(show ∃t,u=IU x t from r); subst e; exact m5 P w x t
theorem kL {P:Program}{w:World}:∀{ks:List Key} {us:List Value},Vals (ks.map kV) us->ItemsAre (bp P w) ks us
 | [],_,r=>by rw [IH] at r; cases r; exact .nil
 | k :: ks,_,r=>by
   rw [Hi] at r
   cases r with
   | cons h t=>exact .cons (mX h) (kL t)

/-- raw entries of a dict with tuple keys -/
abbrev KT (H:Hp):List (List Key×V)->List (List Key×Addr×Value)->Prop:=Paired fun p q=>p.1=q.1/\H q.2.1=some (.tup (p.1.map kV))/\RelV p.2 q.2.2
theorem KT.val {H:Hp}{kvs:List (List Key×V)}{xs:List (List Key×Addr×Value)}(r:KT H kvs xs)(k:List Key):cS (du kvs k) ((atKey xs k).map (·.2)):=by
 induction r with
 | nil=>exact Ht
 | @cons p q ps qs h t ih=>
   obtain ⟨h1,_,h2⟩:=h
   by_cases e:p.1=k
   · have e':q.1=k:=h1.symm.trans e
     have b:atKey (q :: qs) k=some q.2:=by simp [atKey,IM,e']
     rw [gr e,b]; exact h2
   · have e':¬ q.1=k:=fun z=>e (h1.trans z)
     have b:atKey (q :: qs) k=atKey qs k:=by simp [atKey,IM,e']
     rw [eo e,b]; exact ih
theorem KT.repl {H:Hp}{kvs:List (List Key×V)}{xs:List (List Key×Addr×Value)}(r:KT H kvs xs)(k:List Key){y:V}{u:Value}(ry:RelV y u) :
   KT H (kvs.map fun kv=>if kv.1=k then (kv.1,y) else kv) (xs.map (putAt k u)):=by
 induction r with
 | nil=>exact .nil
 | @cons p q ps qs h t ih=>
   rw [Hi,Hi]
   refine .cons ?_ ih
   obtain ⟨h1,h2,h3⟩:=h
   unfold putAt
   by_cases e:p.1=k
   · rw [if_pos e,if_pos (h1.symm.trans e)]; exact ⟨h1,h2,ry⟩
   · rw [if_neg e,if_neg (fun z=>e (h1.trans z))]; exact ⟨h1,h2,h3⟩
theorem KT.put {H:Hp}{kvs:List (List Key×V)}{xs:List (List Key×Addr×Value)}(r:KT H kvs xs)(k:List Key){b:Addr}{y:V}{u:Value}(hb:H b=some (.tup (k.map kV)))(ry:RelV y u) :
   KT H (putK kvs k y) (storedH xs k b u):=by
 have e:(kvs.any fun kv=>decide (kv.1=k))=(atKey xs k).isSome:=by
   rw [jV,(r.val k).isSome_eq,Option.isSome_map]
 unfold putK storedH
 rw [e]
 by_cases q:(atKey xs k).isSome=true
 · rw [if_pos q,if_pos q]; exact r.repl k ry
 · rw [if_neg q,if_neg q]; exact Paired.snoc r ⟨rfl,hb,ry⟩
theorem KT.keeps {H H':Hp}{kvs:List (List Key×V)}{xs:List (List Key×Addr×Value)}(r:KT H kvs xs)(ht:∀b ys,H b=some (.tup ys)->H' b=some (.tup ys)):KT H' kvs xs:=
 Paired.mapP r fun _ _ z=>⟨z.1,ht _ _ z.2.1,z.2.2⟩

section
variable {P:Program}{w:World}{H:Hp}{h:Heap}{a:Addr}
theorem zh {u:HO}(ok:fk P w H h)(e:Rd H a u):a8 P w H h a u:=e.ok ok
theorem pj {kvs:List (Key×V)}(ok:fk P w H h)(e:Rd H a (.dK kvs)):kvs.length<=sizeLine/\(a == sysModules)=false/\∃vs,KV kvs vs/\h.DictOf (bp P w) a vs:=
 show a8 P w H h a (.dK kvs) from zh ok e
theorem yT {kvs:List (Key×V)}(ok:fk P w H h)(e:H a=some (.dK kvs)):kvs.length<=sizeLine/\(a == sysModules)=false/\∃vs,KV kvs vs/\h.DictOf (bp P w) a vs:=pj ok (.inl e)
/-- a tracked tuple of ints and texts is a key -/
theorem lM {ks:List Key}(ok:fk P w H h)(e:H a=some (.tup (ks.map kV))):(tupleKind (bp P w)).is h ks a:=by
 obtain ⟨_,its,r,o,h1,h2,n,h3⟩:=(show a8 P w H h a (.tup (ks.map kV)) from ok a _ e)
 exact ⟨o,its.toArray,n,h1,h2,h3,by simpa using kL r⟩
theorem pq {kvs:List (List Key×V)}(ok:fk P w H h)(e:Rd H a (.dT kvs)):kvs.length<=sizeLine/\(a == sysModules)=false /\
   ∃xs,KT H kvs xs/\h.DictOfH (tupleKind (bp P w)) a xs:=by
 obtain ⟨z,y,xs,r,o,es,ep,h1,h2,h3,h4,h5⟩:=(show a8 P w H h a (.dT kvs) from zh ok e)
 refine ⟨z,y,xs,r,o,es,ep,h1,h2,h3,h4,fun x hx=>?_,h5⟩
 have all:∀{l:List (List Key×V)} {m:List (List Key×Addr×Value)},KT H l m->∀x∈m,(tupleKind (bp P w)).is h x.1 x.2.1:=by
   intro l m q
   induction q with
   | nil=>intro x hx; exact nomatch hx
   | @cons p q ps qs hq t ih=>
     intro x hx
     rcases List.mem_cons.mp hx with e | hx
     · subst e
       exact lM ok (by rw [← hq.1]; exact hq.2.1)
     · exact ih x hx
 exact all r x hx
theorem CG {kvs:List (List Key×V)}(ok:fk P w H h)(e:H a=some (.dT kvs)):kvs.length<=sizeLine/\(a == sysModules)=false /\
   ∃xs,KT H kvs xs/\h.DictOfH (tupleKind (bp P w)) a xs:=pq ok (.inl e)
end

/-- what the dict at a holds at the key y -/
def iY (H:Hp)(a:Addr)(y:V)(r:Option V):Prop:=
 (∃kvs k,Rd H a (.dK kvs)/\y=kV k/\r=du kvs k)\/∃kvs k b,Rd H a (.dT kvs)/\y=.ref b/\H b=some (.tup (k.map kV))/\r=du kvs k
/-- the heap behind a[y]=v -/
def r4 (H:Hp)(a:Addr)(y v:V)(H':Hp):Prop:=
 (∃kvs k,H a=some (.dK kvs)/\y=kV k/\kvs.length < sizeLine/\H'=upd H a (.dK (putK kvs k v))) \/
 ∃kvs k b,H a=some (.dT kvs)/\y=.ref b/\H b=some (.tup (k.map kV))/\kvs.length < sizeLine/\H'=upd H a (.dT (putK kvs k v))
theorem iY.k {H:Hp}{a:Addr}{kvs:List (Key×V)}{k:Key}(e:H a=some (.dK kvs)):iY H a (kV k) (du kvs k):=.inl ⟨kvs,k,.inl e,rfl,rfl⟩
theorem iY.t {H:Hp}{a b:Addr}{kvs:List (List Key×V)}{k:List Key}(e:H a=some (.dT kvs))(eb:H b=some (.tup (k.map kV))):iY H a (.ref b) (du kvs k):=.inr ⟨kvs,k,b,.inl e,rfl,eb,rfl⟩
theorem r4.t {H:Hp}{a b:Addr}{kvs:List (List Key×V)}{k:List Key}{v:V}(e:H a=some (.dT kvs))(eb:H b=some (.tup (k.map kV)))(hl:kvs.length < sizeLine) :
   r4 H a (.ref b) v (upd H a (.dT (putK kvs k v))):=.inr ⟨kvs,k,b,e,rfl,eb,hl,rfl⟩


section
variable {X:Cx}{pins:List (Addr×Obj)}{σ:St}{H:Hp}{s:Shared}{a:Addr}{y v:V}{u r:Value}{o:Option V}{A:Around}{E:Value->Shared->Prop}

theorem Inv.big (I:Inv X pins σ H s):sysModules < s.heap.objs.size:=by
 have h:mainGlobals < s.heap.objs.size:=(I.mod.glob.keeps I.bk).lt
 exact Im (by decide) h

/-- d[y],there -/
theorem qm {Q:Value->Shared->Prop}(hu:A.units + 1 < cLine)(I:Inv X pins σ H s)(g:iY H a y (some v))(ry:RelV y u)(h:∀w' s',Inv X pins σ H s'->RelV v w'->Q w' s') :
   wpAny (model X.prog X.w) A (getItem (.ref a) u) Q E s:=by
 rcases g with ⟨kvs,k,e,ey,l⟩ | ⟨kvs,k,b,e,ey,eb,l⟩
 · subst ey
   obtain ⟨z,hd,vs,rel,dd⟩:=pj I.hok e
   obtain ⟨w',hw,rw'⟩:=cS.some_of (v:=v) (o:=valueAt vs k) (by rw [l]; exact rel.val k)
   exact wpAny_getItem_of (mX ry) dd.mapOf hw (h w' _ (I.tok _) rw')
 · subst ey
   cases (show u=HC b from ry)
   obtain ⟨z,hd,xs,rel,dd⟩:=pq I.hok e
   obtain ⟨w',hw,rw'⟩:=cS.some_of (v:=v) (o:=(atKey xs k).map (·.2)) (by rw [l]; exact rel.val k)
   obtain ⟨p,hp,hp2⟩:=Option.map_eq_some_iff.mp hw
   refine wpAny_getItem_heap (tupleKind_room_in1 hu) (lM I.hok eb) dd hp ?_
   rw [hp2]
   exact h w' _ (I.tok _) rw'
/-- y in d -/
theorem EO {Q:Value->Shared->Prop}(hu:A.units + 1 < cLine)(I:Inv X pins σ H s)(g:iY H a y o)(ry:RelV y u)(h:∀s',Inv X pins σ H s'->Q (.bool o.isSome) s') :
   wpAny (model X.prog X.w) A (compareOp .In u (.ref a)) Q E s:=by
 rcases g with ⟨kvs,k,e,ey,l⟩ | ⟨kvs,k,b,e,ey,eb,l⟩
 · subst ey
   obtain ⟨z,hd,vs,rel,dd⟩:=pj I.hok e
   refine wpAny_in_of (mX ry) hd dd.mapOf ?_
   rw [← (rel.val k).isSome_eq,← l]
   exact h _ (I.tok _)
 · subst ey
   cases (show u=HC b from ry)
   obtain ⟨z,hd,xs,rel,dd⟩:=pq I.hok e
   refine wpAny_in_heap (tupleKind_room_in1 hu) (lM I.hok eb) hd dd ?_
   have q:=(rel.val k).isSome_eq
   rw [Option.isSome_map] at q
   rw [← q,← l]
   exact h _ (I.tok _)
/-- a dict's object is replaced -/
theorem lC {h':Heap}{t':Nat}{ob:HO}(I:Inv X pins σ H s)(mu:Ct (H a))(hs:Iw a s.heap h')(he:∃q,h'.get? a=some q)(new:a8 X.prog X.w (upd H a ob) h' a ob) :
   Inv X pins σ (upd H a ob) { s with heap:=h',toks:=t' }:=
 I.write (x:=a) (e:=a) mu (.inl rfl) (fun b q hb z=>(hs.2 b hb).trans z) he new
theorem sJ {P:Program}{w:World}{H':Hp}{h':Heap}{kvs:List (Key×V)}{vs:List (Key×Value)}(z:kvs.length<=sizeLine)(hd:(a == sysModules)=false)(rel:KV kvs vs)(dd:h'.DictOf (bp P w) a vs) :
   a8 P w H' h' a (.dK kvs):=⟨z,hd,vs,rel,dd⟩
end



/-! ### readings and rules -/
/-- the element of a subscription,not a slice -/
def r6 (i:Expr):Prop:=∀ov iv,subscripted i false ov iv=operate [ov,iv] (getItem ov iv)
theorem pZ {prog:Program}{w:World}{A:Around}{E:Value->Shared->Prop}{s:Shared}{env:Env}{value slice:Expr}{pos:Pos}{T id:String}{Q:Value->Shared->Prop}
   (hl:typeLookup (.type T) "__getitem__"=pure (some (.builtin id))) (hs:r6 slice)
   (h:wpAny (model prog w) A (eval value env) (fun o s₁=>wpAny (model prog w) A (eval slice env) (fun i s₂=>s₂.TypeIs o T/\wpAny (model prog w) A (getItem o i) Q E s₂) E s₁) E s) :
   wpAny (model prog w) A (eval (.Subscript value slice pos) env) Q E s:=by
 refine Subscript_ (wpAny_mono h (fun o s₁ h₁=>wpAny_mono h₁ (fun i s₂ h₂=>?_) fun _ _ x=>x) fun _ _ x=>x)
 obtain ⟨hT,h₂⟩:=h₂
 unfold subscriptTail
 refine wpAny_bind ?_
 rw [getitemInPython_of_ne hT.not_modules]
 refine wpAny_bind (wpAny_specialOf hT hl ?_)
 have fin:wpAny (model prog w) A (subscripted slice false o i) (fun r s₃=>wpAny (model prog w) A (letTemporaryGo value o r >>= fun _=>pure r) Q E s₃) E s₂:=by
   rw [hs o i]
   exact wpAny_operating (wpAny_mono h₂ (fun r s₃ h₃=>wpAny_bind (wpAny_letTemporaryGo (wpAny_pure h₃))) fun _ _ x=>x)
 first
   | exact wpAny_pure (wpAny_bind fin)
   | exact wpAny_bind (wpAny_pure (wpAny_bind fin))
   | exact wpAny_bind fin

theorem mM {X:Cx}{pins:List (Addr×Obj)}{σ:St}{H:Hp}{s:Shared}{a:Addr}{y:V}{o:Option V}(I:Inv X pins σ H s)(g:iY H a y o):s.TypeIs (.ref a) "dict":=by
 rcases g with ⟨kvs,k,e,_,_⟩ | ⟨kvs,k,b,e,_,_,_⟩
 · obtain ⟨_,_,vs,_,dd⟩:=pj I.hok e
   exact dd.typeIs
 · obtain ⟨_,_,xs,_,dd⟩:=pq I.hok e
   exact dd.typeIs
/-- d[y] -/
def zm (td ty:TE):TE:=fun σ H Q=>td σ H fun x H1=>ty σ H1 fun y H2=>∃a v,x=.ref a/\iY H2 a y (some v)/\Q v H2
/-- y in d,y not in d -/
def D6 (ty td:TE):TE:=fun σ H Q=>ty σ H fun y H1=>td σ H1 fun x H2=>∃a o,x=.ref a/\iY H2 a y o/\Q (.bl o.isSome) H2
section
variable {X:Cx}{o i e value:Expr}{pos pos' tpos:Pos}{td ty tv:TE}
theorem xW (hu:X.A.units + 1 < cLine)(ho:PE X o td)(hi:PE X i ty)(hs:r6 i):PE X (.Subscript o i pos) (zm td ty):=by
 intro pins s σ H Q I h
 refine pZ PySem.F.slot_dict_getitem.lookup hs (bb (ho pins s σ H _ I h) fun u s1 ⟨x,H1,I1,rx,q1⟩=>bb (hi pins s1 σ H1 _ I1 q1) fun iv s2 ⟨y,H2,I2,ry,a,v,ex,g,q2⟩=>?_)
 subst ex
 obtain rfl:u=HC a:=rx
 exact ⟨mM I2 g,qm hu I2 g ry fun w' s3 I3 rw'=>⟨v,H2,I3,rw',q2⟩⟩
theorem A1 (hu:X.A.units + 1 < cLine)(hi:PE X i ty)(ho:PE X o td):PC X .In i o (D6 ty td):=by
 intro pins s σ H Q I h
 refine bb (hi pins s σ H _ I h) fun iv s1 ⟨y,H1,I1,ry,q1⟩=>bb (ho pins s1 σ H1 _ I1 q1) fun u s2 ⟨x,H2,I2,rx,a,ov,ex,g,q2⟩=>?_
 subst ex
 obtain rfl:u=HC a:=rx
 exact EO hu I2 g ry fun s3 I3=>⟨.bl ov.isSome,H2,I3,rfl,q2⟩
end


/-! ### displays -/
theorem sH {P:Program}{w:World}{H:Hp}(h:Heap)(hb:sysModules < h.objs.size):a8 P w H (h.push { cls:=.type "dict",data:=.dict #[] }) h.objs.size (.dK []):=
 ⟨HD _,beq_eq_false_iff_ne.mpr (Ne.symm (HE hb)),[],.nil,Heap.DictOf.new h⟩
theorem sO {P:Program}{w:World}{H:Hp}(h:Heap)(hb:sysModules < h.objs.size):a8 P w H (h.push { cls:=.type "dict",data:=.dict #[] }) h.objs.size (.dT []):=
 ⟨HD _,beq_eq_false_iff_ne.mpr (Ne.symm (HE hb)),[],.nil,_,#[],0,G9 _ rfl,⟨rfl,rfl,rfl⟩,rfl,rfl,List.nodup_nil⟩

/-- the pairs of a display,from the left -/
def oN:List (TE×TE)->St->Hp->(List (V×V)->Hp->Prop)->Prop
 | [],_,H,Q=>Q [] H
 | (tk,tv) :: r,σ,H,Q=>tk σ H fun x H1=>tv σ H1 fun y H2=>oN r σ H2 fun ps H3=>Q ((x,y) :: ps) H3
abbrev VV:List (V×V)->List (Value×Value)->Prop:=Paired fun p q=>RelV p.1 q.1/\RelV p.2 q.2
def Cu (X:Cx)(pos:Pos)(keys:List (Option Expr))(values:List Expr)(trs:List (TE×TE)):Prop:=
 ∀(pins:List (Addr×Obj)) (s:Shared) (σ:St) (H:Hp) (Q:List (V×V)->Hp->Prop),Inv X pins σ H s->oN trs σ H Q ->
   wpAny (model X.prog X.w) X.A (evalPairs (pairTrees keys values X.env pos)) (fun vs s'=>∃ps H',Inv X pins σ H' s'/\VV ps vs/\Q ps H') X.xe s
theorem yd {X:Cx}{pos:Pos}:Cu X pos [] [] []:=fun pins s σ H Q I h=>pairTrees_nil_walk ⟨[],H,I,.nil,h⟩
theorem vk {X:Cx}{pos:Pos}{k v:Expr}{ks:List (Option Expr)}{vs:List Expr}{tk tv:TE}{trs:List (TE×TE)}(hk:PE X k tk)(hv:PE X v tv)(hr:Cu X pos ks vs trs) :
   Cu X pos (some k :: ks) (v :: vs) ((tk,tv) :: trs):=fun pins s σ H Q I h=>
 pairTrees_cons_walk (bb (hk pins s σ H _ I h) fun u s1 ⟨x,H1,I1,rx,q1⟩=>bb (hv pins s1 σ H1 _ I1 q1) fun w2 s2 ⟨y,H2,I2,ry,q2⟩=>
   bb (hr pins s2 σ H2 _ I2 q2) fun ws s3 ⟨ps,H3,I3,rel,q3⟩=>⟨(x,y) :: ps,H3,I3,.cons ⟨rx,ry⟩ rel,q3⟩)

def d6 (kvs more:List (Key×V)):List (Key×V):=more.foldl (fun acc kv=>putK acc kv.1 kv.2) kvs
theorem KV.merge:∀{more:List (Key×V)} {rs:List (Key×Value)} {kvs:List (Key×V)} {vs:List (Key×Value)},KV more rs->KV kvs vs->KV (d6 kvs more) (merged vs rs):=by
 intro more rs kvs vs r
 unfold KV at r
 induction r generalizing kvs vs with
 | nil=>intro q; exact q
 | @cons p q ps qs h t ih=>
   intro r0
   have e:KV (putK kvs p.1 p.2) (stored vs q.1 q.2):=by
     have:=r0.put p.1 h.2
     rw [← h.1]; exact this
   exact ih e
theorem eU:∀(more kvs:List (Key×V)),(d6 kvs more).length<=kvs.length + more.length
 | [],kvs=>by show kvs.length<=kvs.length + 0; omega
 | p :: r,kvs=>by
   have h1:=eU r (putK kvs p.1 p.2)
   have h2:=dZ kvs p.1 p.2
   show (d6 (putK kvs p.1 p.2) r).length<=_
   rw [G5]; omega
theorem ja {P:Program}{w:World}:∀{kvs:List (Key×V)} {ws:List (Value×Value)},VV (kvs.map fun kv=>(kV kv.1,kv.2)) ws->∃rs,Carries (bp P w) ws rs/\KV kvs rs
 | [],_,r=>by rw [IH] at r; cases r; exact ⟨[],Ht,.nil⟩
 | p :: kvs,_,r=>by
   rw [Hi] at r
   cases r with
   | @cons a b as bs h t=>
     obtain ⟨rs,c,q⟩:=ja (P:=P) (w:=w) t
     obtain ⟨b1,b2⟩:=b
     exact ⟨(p.1,b2) :: rs,⟨mX h.1,rfl,c⟩,.cons ⟨rfl,h.2⟩ q⟩
/-- {k: v,..} with keys ints and texts; the new dict stands empty while the pairs are made -/
def zo (trs:List (TE×TE)):TE:=fun σ H Q=>∀p,H p=none->oN trs σ (upd H p (.dK [])) fun ps H2=>H2 p=some (.dK [])/\∃kvs:List (Key×V),ps=kvs.map (fun kv=>(kV kv.1,kv.2))/\kvs.length<=15/\Q (.ref p) (upd H2 p (.dK (d6 [] kvs)))
theorem xX {X:Cx}{pos:Pos}{keys:List (Option Expr)}{values:List Expr}{trs:List (TE×TE)}(h:Cu X pos keys values trs)(hall:keys.all (·.isSome)=true)(hl:keys.length=values.length)(h0:keys≠[])
   (h15:keys.length<=15):PE X (.Dict keys values pos) (zo trs):=by
 intro pins s σ H Q I q
 have hn:=I.hok.fresh (GX s.heap.objs.size)
 have I1:=I.laid (a:=s.heap.objs.size) (o:=.dK []) (h':=s.heap.push { cls:=.type "dict",data:=.dict #[] }) (t':=s.toks) (fun _ _ q=>GV _ q) (GX _) (sH s.heap I.big)
 refine wpAny_Dict_walk (knd:=bp X.prog X.w) hall hl h0 h15 (bb (h pins _ σ _ _ I1 (q _ hn)) fun ws s2 ⟨ps,H2,I2,rel,e,kvs,ep,lk,q2⟩=>?_)
 subst ep
 obtain ⟨rs,c,rk⟩:=ja (P:=X.prog) (w:=X.w) rel
 obtain ⟨z,hd,vs0,r0,dd⟩:=yT I2.hok e
 cases r0
 refine ⟨rs,c,dd,fun h' dd' hs=>⟨.ref s.heap.objs.size,_,?_,rfl,q2⟩⟩
 have hz:(d6 [] kvs).length<=sizeLine:=by
   have h1:=eU kvs []
   rw [Ik] at h1
   rw [sizeLine_eq]; omega
 have he:∃q,h'.get? s.heap.objs.size=some q:=let ⟨q,_,_,hq,_⟩:=dd'; ⟨q,hq⟩
 exact lC I2 (by rw [e]; exact Ht) hs he (sJ hz hd (rk.merge .nil) dd')


/-! ### methods -/
/-- a method call o.m(e) of a built-in,with one argument: what must be seen of the text -/
structure M1 (X:Cx)(o:Expr)(m:Str)(apos:Pos)(e:Expr)(cpos:Pos):Prop where
 base:attributeBase o m X.env (eval o X.env)=eval o X.env
 few:((backTo cpos (starEach [e] X.env)).all (fun x=>!x.1) && (backToKw cpos (keywordEach [] X.env)).all (fun x=>x.1.isSome)
   && decide (([e]:List Expr).length + ([]:List Keyword).length + (if ([]:List Keyword).isEmpty then 0 else 1) < 30))=true
 line:(apos.endLine == cpos.line)=true
 trees:backTo cpos (starEach [e] X.env)=[(false,eval e X.env)]
structure M2 (X:Cx)(o:Expr)(m:Str)(apos:Pos)(e f:Expr)(cpos:Pos):Prop where
 base:attributeBase o m X.env (eval o X.env)=eval o X.env
 few:((backTo cpos (starEach [e,f] X.env)).all (fun x=>!x.1) && (backToKw cpos (keywordEach [] X.env)).all (fun x=>x.1.isSome)
   && decide (([e,f]:List Expr).length + ([]:List Keyword).length + (if ([]:List Keyword).isEmpty then 0 else 1) < 30))=true
 line:(apos.endLine == cpos.line)=true
 trees:backTo cpos (starEach [e,f] X.env)=[(false,eval e X.env),(false,eval f X.env)]



/-! ### dict(d): a copy -/


/-! ### a dict's pairs: keys that differ -/
end L2
set_option Elab.async false
set_option linter.all false
set_option maxRecDepth 100000
namespace L2
open PySem PySem.Spec PyProof.Rows

/-! ### a comprehension's block: its context -/
def eY (scope:Scope)(env:Env):List (Str×Addr):=
 (scope.names.filterMap fun (p:Str×NameKind)=>if p.2 == .free then (env.cells.lookup p.1).map fun c=>(p.1,c) else none).reverse
theorem jb (env:Env):∀(l:List (Str×NameKind)) (acc:List (Str×Addr)),(∀p∈l,p.2=.free->∃c,env.cells.lookup p.1=some c) ->
   (forIn l acc fun (x:Str×NameKind) (r:List (Str×Addr))=>if (x.2 == HJ)=true then do let c ← cellOf env x.1; pure (IC ((x.1,c) :: r)) else pure (IC r):Sem (List (Str×Addr))) =
     pure ((l.filterMap fun (p:Str×NameKind)=>if p.2 == .free then (env.cells.lookup p.1).map fun c=>(p.1,c) else none).reverse++acc)
 | [],acc,_=>rfl
 | p :: l,acc,h=>by
   have ih:=fun acc=>jb env l acc fun q hq=>h q (G0 _ hq)
   rw [JB]
   by_cases hp:p.2=.free
   · obtain ⟨c,hc⟩:=h p GZ hp
     have e:(p.2 == HJ)=true:=by rw [hp]; rfl
     rw [if_pos e]
     have ec:cellOf env p.1=pure c:=by unfold cellOf; rw [hc]
     rw [ec,IG,if_pos e,hc]
     show (forIn l ((p.1,c) :: acc) _:Sem _)=_
     rw [ih]
     simp
   · have e:¬ (p.2 == HJ)=true:=by intro z; exact hp (by simpa using z)
     rw [if_neg e,IG,if_neg e]
     show (forIn l acc _:Sem _)=_
     rw [ih]
theorem nK {scope:Scope}{env:Env}(h:∀p∈scope.names,p.2=.free->∃c,env.cells.lookup p.1=some c):closureFor scope env=pure (eY scope env):=by
 have e:=jb env scope.names [] h
 rw [Hm] at e
 show ((forIn scope.names [] fun (x:Str×NameKind) (r:List (Str×Addr))=>if (x.2 == HJ)=true then do let c ← cellOf env x.1; pure (IC ((x.1,c) :: r)) else pure (IC r)) >>= fun cs=>pure cs:Sem (List (Str×Addr)))=_
 rw [e]
 rfl
theorem nJ {scope:Scope}{env:Env}{x:Str}{c:Addr}(h:(x,c)∈eY scope env):(x,HJ)∈scope.names/\env.cells.lookup x=some c:=by
 unfold eY at h
 obtain ⟨p,hp,e⟩:=List.mem_filterMap.mp (List.mem_reverse.mp h)
 obtain ⟨n,k⟩:=p
 dsimp only at e
 by_cases hk:(k == HJ)=true
 · rw [if_pos hk] at e
   have hk':k=.free:=by simpa using hk
   subst hk'
   cases q:env.cells.lookup n with
   | none=>rw [q] at e; cases e
   | some c'=>rw [q] at e; cases e; exact ⟨hp,q⟩
 · rw [if_neg hk] at e; cases e
theorem kA {scope:Scope}{env:Env}{x:Str}{c:Addr}(hm:(x,HJ)∈scope.names)(hc:env.cells.lookup x=some c):(eY scope env).lookup x=some c:=by
 have hin:(x,c)∈eY scope env:=by
   unfold eY
   refine List.mem_reverse.mpr (List.mem_filterMap.mpr ⟨(x,.free),hm,?_⟩)
   simp [hc]
 cases q:(eY scope env).lookup x with
 | none=>
   have:=List.lookup_eq_none_iff.mp q (x,c) hin
   simp at this
 | some c'=>
   obtain ⟨_,e⟩:=nJ (HN q)
   rw [hc] at e
   exact e.symm

/-- what of a comprehension's scope must be true (all of it by looking) -/
structure az (sc:Scope)(env:Scope):Prop where
 kind:sc.kind=.function
 cell:∀y∈sc.names,y.2≠.cell
 names:∀x∈sc.names,x.2=.local->sc.names.lookup x.1=some .local
 free:∀x∈sc.names,x.2=.free->env.names.lookup x.1=some .cell\/env.names.lookup x.1=some .free
/-- the names of the block: the own ones,then those that are read from around,by their slots there -/
def bV (sc:Scope)(src:List (Option Nat))(N' N:List Str):Bool:=
 src.length == N'.length && (src.zip N').all fun p=>match p.1 with
   | none=>true
   | some j=>N[j]? == some p.2 && sc.names.lookup p.2 == some .free
def capσ (src:List (Option Nat))(σ:St):St:=src.map fun o=>match o with
 | none=>none
 | some j=>match σ[j]? with
   | some v=>v
   | none=>none
theorem wB {sc:Scope}{N N':List Str}{src:List (Option Nat)}(h:bV sc src N' N=true){i:Nat}{x:Str}{j:Nat}(h1:src[i]? = some (some j))(h2:N'[i]? = some x):N[j]? = some x/\sc.names.lookup x=some .free:=by
 unfold bV at h
 have h':=(ID _ _ ▸ h).2
 have hz:(src.zip N')[i]? = some (some j,x):=by rw [List.getElem?_zip_eq_some]; exact ⟨h1,h2⟩
 have q:=List.all_eq_true.mp h' _ (Hh hz)
 simpa using q
theorem sr {sc:Scope}{N N':List Str}{src:List (Option Nat)}(h:bV sc src N' N=true):src.length=N'.length:=by
 unfold bV at h
 have h':=(ID _ _ ▸ h).1
 simpa using h'

/-- the context of a comprehension's block -/
def eL (X:Cx)(N':List Str)(sc:Scope)(s:Shared)(H:Hp)(C:Addr)(fp:List Addr)(xe:Value->Shared->Prop):Cx where
 prog:=X.prog
 w:=X.w
 K:=X.K
 mg:=X.mg
 base:=X.base
 A:=X.A
 N:=N'
 s₀:=s
 H₀:=H
 env:=compEnvC sc (eY sc X.env) C X.env
 outer:=X.stack
 stack:=X.stack
 ex:=fp
 fn:=fun _=>false
 calm:=X.calm
 pn:=[]
 xe:=xe

theorem d8 {sc:Scope}{env:Env}{x:Str}:∀{names:List (Str×NameKind)},
   (names.map fun (p:Str×NameKind)=>if (p.2 == HJ && env.scope.kind == .function && env.kindOf p.1 == some .cell) then (p.1,J5) else (p.1,p.2)).lookup x =
     (names.lookup x).map fun k=>if (k == HJ && env.scope.kind == .function && env.kindOf x == some .cell) then J5 else k
 | []=>rfl
 | (n,k) :: r=>by
   have ih:=@d8 sc env x r
   rw [Hi]
   cases hx:x == n with
   | true=>
     have e:x=n:=by simpa using hx
     subst e
     by_cases hc:(k == HJ && env.scope.kind == .function && env.kindOf x == some .cell)=true
     · simp only [hc,if_true,Iq,hx,II]
     · simp only [hc,if_false,Iq,hx,II,JT]
   | false=>
     by_cases hc:(k == HJ && env.scope.kind == .function && env.kindOf n == some .cell)=true
     · simp only [hc,if_true,Iq,hx]; exact ih
     · simp only [hc,if_false,Iq,hx,JT]; exact ih
theorem kB {sc:Scope}{env:Env}{cl:List (Str×Addr)}{C:Addr}(x:Str):(compEnvC sc cl C env).kindOf x =
   (sc.names.lookup x).map fun k=>if (k == HJ && env.scope.kind == .function && env.kindOf x == some .cell) then J5 else k:=
 d8 (sc:=sc) (env:=env)

section
variable {X:Cx}{pins:List (Addr×Obj)}{σ:St}{H:Hp}{s:Shared}{N':List Str}{sc:Scope}{src:List (Option Nat)}{fp:List Addr}{xe:Value->Shared->Prop}
/-- entered: the block's namespace has just been laid at the heap's end -/
theorem nM (I:Inv X pins σ H s)(S:az sc X.env.scope)(hc:bV sc src N' X.N=true)(hf:∀b∈fp,dN X pins H b)(ho:∀b∈fp,∃o,s.heap.get? b=some o){h₁:Heap}{tk:Nat}
   (hn:h₁.Ns s.heap.objs.size (fun _=>none)) (hk:∀b o,s.heap.get? b=some o->h₁.get? b=some o) :
   Inv (eL X N' sc s H s.heap.objs.size fp xe) [] (capσ src σ) H { s with heap:=h₁,toks:=tk }:=by
 have cellmem:∀x c,(eY sc X.env).lookup x=some c->X.env.cells.lookup x=some c:=fun x c e=>(nJ (HN e)).2
 have isfree:∀x,((compEnvC sc (eY sc X.env) s.heap.objs.size X.env).kindOf x=some .cell\/(compEnvC sc (eY sc X.env) s.heap.objs.size X.env).kindOf x=some .free)->(x,HJ)∈sc.names:=fun x hx=>by
   rw [kB] at hx
   cases q:sc.names.lookup x with
   | none=>rw [q] at hx; simp at hx
   | some k=>
     have hm:=HN q
     by_cases hkf:k=.free
     · subst hkf; exact hm
     · have:(k == HJ)=false:=by simpa using hkf
       have e2:(k == HJ && X.env.scope.kind == .function && X.env.kindOf x == some .cell)=false:=by rw [this]; rfl
       rw [q,II,e2] at hx
       have hx':(some k:Option NameKind)=some .cell\/(some k:Option NameKind)=some .free:=hx
       rcases hx' with hx | hx
       · exact absurd (HA hx) (S.cell _ hm)
       · exact absurd (HA hx) hkf
 have has:∀x,(x,HJ)∈sc.names->∃c,X.env.cells.lookup x=some c:=fun x hm=>I.ok.has x (S.free _ hm rfl)
 refine ⟨⟨I.ok.mod,S.kind,I.ok.glob,I.ok.blt,GX _,fun x y c h1 h2=>I.ok.inj x y c (cellmem x c h1) (cellmem y c h2),fun x hx=>?_,fun x c hfn _=>?_,I.ok.hd,I.ok.frames,.inl rfl,fun b hb=>⟨?_,fun x c e=>?_⟩,I.bs,GY I.ok.bsz I.sz,fun b o e hb=>?_,fun b hb hs=>?_,I.stack,I.stkFree⟩,
   rfl,I.bare,Un.kept hk,⟨_,hn,fun i x v h1 h2 h3=>?_⟩,fun x c e=>?_,I.hok.fresh (GX _),fun x c e=>I.freeC x c (cellmem x c e),fun p hp=>absurd (show p∈([]:List (Addr×Obj)) from hp) (by simp),I.hok.kept hk,?_⟩
 · obtain ⟨c,e⟩:=has x (isfree x hx)
   exact ⟨c,kA (isfree x hx) e⟩
 · exact absurd (show false=true from hfn) (by simp)
 · obtain ⟨o,e⟩:=ho b hb
   exact HE (G6 e)
 · exact (hf b hb).2.2.2.2.1 x c (cellmem x c e)
 · rcases (hf b hb).2.2.2.1 with z | z
   · exact I.ok.noex b o e z
   · exact absurd (Hn (G6 e) (GY I.ok.bsz z)) (Ja _)
 · rcases List.mem_cons.mp (I.stkSub b hs) with z | z
   · exact (hf b hb).2.1 z
   · exact (hf b hb).2.2.1 z
 · -- a captured name
   have h2':(capσ src σ)[i]? = some (some v):=h2
   unfold capσ at h2'
   rw [HR] at h2'
   cases q:src[i]? with
   | none=>rw [q] at h2'; cases h2'
   | some o=>
     rw [q] at h2'
     cases o with
     | none=>simp at h2'
     | some j=>
       obtain ⟨hj,hfr⟩:=wB hc q h1
       have hσ:σ[j]? = some (some v):=by
         simp only [II,Option.some.injEq] at h2'
         cases r:σ[j]? with
         | none=>rw [r] at h2'; cases h2'
         | some w=>rw [r] at h2'; rw [← h2']
       have hm:=HN hfr
       have hout:=S.free _ hm rfl
       obtain ⟨m,_,hl⟩:=I.loc
       obtain ⟨u,ru,lk⟩:=hl j x v hj hσ (Or.inr hout)
       refine ⟨u,ru,.inr ⟨?_,?_⟩⟩
       · show (compEnvC sc (eY sc X.env) s.heap.objs.size X.env).kindOf x=some .cell\/(compEnvC sc (eY sc X.env) s.heap.objs.size X.env).kindOf x=some .free
         rw [kB,hfr]
         by_cases z:(HJ == HJ && X.env.scope.kind == .function && X.env.kindOf x == some .cell)=true
         · exact .inl (by simp only [II,z,if_true])
         · exact .inr (by simp only [II,z,if_false,JT])
       · rcases lk with ⟨z,_⟩ | ⟨_,c,e,z⟩
         · have z':X.env.scope.names.lookup x=some .local:=z
           rcases hout with y | y <;> (rw [z'] at y; cases y)
         · obtain ⟨oc,hoc,hd⟩:=z
           exact ⟨c,kA hm e,oc,hk c oc hoc,hd⟩
 · obtain ⟨v,oc,hoc,hd⟩:=I.cell x c (cellmem x c e)
   exact ⟨v,oc,hk c oc hoc,hd⟩
 · show (capσ src σ).length=N'.length
   unfold capσ
   rw [GR]
   exact sr hc
/-- left: the block's end is a state of the def's body again; the namespace may still be changed -/
theorem nO {H':Hp}{σ':St}{s':Shared}(I:Inv X pins σ H s)(hf:∀b∈fp,dN X pins H b)(I':Inv (eL X N' sc s H s.heap.objs.size fp xe) [] σ' H' s'):Inv X pins σ H' s':=
 I.call' I'.os I'.base I'.hok I'.bare fun b hb=>⟨(hf b hb).2.2.2.1,(hf b hb).2.1,(hf b hb).2.2.2.2.1,(hf b hb).2.2.2.2.2⟩
theorem wG {H':Hp}{σ':St}{s':Shared}(I':Inv (eL X N' sc s H s.heap.objs.size fp xe) [] σ' H' s'):∃m,s'.heap.Ns s.heap.objs.size m:=let ⟨m,hn,_⟩:=I'.loc; ⟨m,hn⟩
theorem qh {H1:Hp}{σ1:St}{s1:Shared}{h':Heap}(I:Inv X pins σ H s)(I1:Inv X pins σ1 H1 s1)(hn:H1 s.heap.objs.size=none)(hs:Iw s.heap.objs.size s1.heap h'):Inv X pins σ1 H1 { s1 with heap:=h' }:=by
 obtain ⟨f0,f1,f2,f3,f4,f5⟩:=I.fpOk (H':=H1) (GX _) hn
 exact I1.turned (t':=s1.toks) (fun b o hb e=>(hs.2 b hb).trans e) f0 f1 f3 f4 f5
end
end L2
set_option Elab.async false
set_option linter.all false
set_option maxRecDepth 100000
namespace L2
open PySem PySem.Spec PyProof.Rows

/-! ### a comprehension's loop -/
/-- what a turn gives over: the values of the second where the first one has any -/
def aY:St->St->Prop
 | [],[]=>True
 | none :: r,_ :: r'=>aY r r'
 | some v :: r,u :: r'=>u=some v/\aY r r'
 | _,_=>False
theorem aY.len:∀{a b:St},aY a b->a.length=b.length
 | [],[],_=>rfl
 | [],_ :: _,h=>h.elim
 | none :: _,[],h=>h.elim
 | some _ :: _,[],h=>h.elim
 | none :: r,_ :: r',h=>by
   have h':aY r r':=h
   rw [G5,G5,h'.len]
 | some v :: r,u :: r',h=>by
   have h':u=some v/\aY r r':=h
   rw [G5,G5,h'.2.len]
theorem aY.get:∀{a b:St},aY a b->∀(i:Nat) (v:V),a[i]? = some (some v)->b[i]? = some (some v)
 | [],[],_,i,v,e=>by simp at e
 | [],_ :: _,h,_,_,_=>h.elim
 | none :: _,[],h,_,_,_=>h.elim
 | some _ :: _,[],h,_,_,_=>h.elim
 | none :: r,_ :: r',h,0,v,e=>by simp at e
 | none :: r,_ :: r',h,i + 1,v,e=>by
   have h':aY r r':=h
   simpa using h'.get i v (by simpa using e)
 | some w :: r,u :: r',h,0,v,e=>by
   have h':u=some w/\aY r r':=h
   simp at e
   subst e
   simp [h'.1]
 | some w :: r,u :: r',h,i + 1,v,e=>by
   have h':u=some w/\aY r r':=h
   simpa using h'.2.get i v (by simpa using e)

/-- the tests of a clause -/
def lh (X:Cx)(cs:List Expr)(t:TT):Prop:=
 ∀(pins:List (Addr×Obj)) (s:Shared) (σ:St) (H:Hp) (Q:Bool->Hp->Prop),Inv X pins σ H s->t σ H Q ->
   wpAny (model X.prog X.w) X.A (forIn cs true fun c r=>if r=true then do let ok ← isTrue c X.env (eval c X.env); pure (IC ok) else pure (IC r)) (TP X pins σ Q) X.xe s
def BX:TT:=fun _ H Q=>Q true H
theorem Fg {X:Cx}:lh X [] BX:=fun _ _ _ H _ I h=>wpAny_tests_nil ⟨H,I,h⟩
theorem Fh {X:Cx}{c:Expr}{t:TT}(h:PT X c t):lh X [c] t:=fun pins s σ H Q I q=>wpAny_tests_one (h pins s σ H Q I q)
/-- what a turn does with what it has made -/
abbrev TM:=St->Hp->(Hp->Prop)->Prop
def Ca (X:Cx)(m:Sem Unit)(t:TM):Prop:=
 ∀(pins:List (Addr×Obj)) (s:Shared) (σ:St) (H:Hp) (Q:Hp->Prop),Inv X pins σ H s->t σ H Q ->
   wpAny (model X.prog X.w) X.A m (fun _ s'=>∃H',Inv X pins σ H' s'/\Q H') X.xe s
/-- one turn -/
def oO (tg:Expr)(ipos:Pos)(ifs:List Expr)(it:Value)(env:Env)(cont:Sem Unit)(more:Sem Fin):Sem Fin:=do
 standAt ipos
 match ← pyNext it with
 | none=>pure (.done .next)
 | some v=>
   letOwnedTupleGo tg it v
   assign tg env v
   let mut ok:=true
   for c in ifs do
     if ok then ok ← isTrue c env (eval c env)
   if ok then cont
   more
/-- W: by the turn and a measure; σ0: what each turn begins with -/
def ie (J:It)(σ0:St)(g:TG)(tifs:TT)(tm:TM)(Z:Hp->Prop)(H:Hp):Prop:=
 ∃W:Nat->Nat->Hp->Prop,(∃m,W 0 m H)/\∀i m H,W i m H->(J.stop i H/\Z H) \/
   (J.go i H/\∀x H',J.yld i H x H'->g x σ0 H' fun σ2 H2=>tifs σ2 H2 fun b H3=>
     if b=true then tm σ2 H3 fun H4=>aY σ0 σ2/\∃m',m' < m/\W (i + 1) m' H4 else aY σ0 σ2/\∃m',m' < m/\W (i + 1) m' H3)

section
variable {X:Cx}{e tg:Expr}{ipos:Pos}{ifs:List Expr}{depth:Nat}{acc:Value}{cont:Sem Unit}{it:Addr}{fp:List Addr}{tn:Nat->Heap->Prop}{J:It}{g:TG}{tifs:TT}{tm:TM}{σ0:St}{Z:Hp->Prop}{R:Result->Shared->Prop}
theorem qi (hX:X.xe=notedBy (model X.prog X.w) X.A X.env fun e s'=>R (.error e) s')
   (heq:compTurn e depth (.ref it) acc X.env=oO tg ipos ifs (.ref it) X.env cont (again (.compLoop e depth (.ref it) acc X.env)))
   (hq:(Jo e depth (.ref it) acc X.env).quiet=true) (hA:X.A.under (.compLoop e depth (.ref it) acc X.env)=X.A) (hF:(Jo e depth (.ref it) acc X.env).isFrame=false)
   (hc:X.calm=true) (T:Turn X.prog X.w X.K tg J fp it tn) (hg:PG X tg g) (hif:lh X ifs tifs) (hm:Ca X cont tm)
   {pins:List (Addr×Obj)} {H:Hp} {s:Shared} (hf:∀b∈fp,dN X pins H b) (I:Inv X pins σ0 H s) (st:tn 0 s.heap)
   (hZ:∀H' s',Inv X pins σ0 H' s'->(∀b∈fp,H' b=none)->Z H'->R (.ok .next) s') (h:ie J σ0 g tifs tm Z H) :
   codeAny (model X.prog X.w) X.A (.compLoop e depth (.ref it) acc X.env) R s:=by
 obtain ⟨W,⟨m0,w0⟩,turn⟩:=h
 have stat:∀{H':Hp},(∀b∈fp,H' b=none)->∀b∈fp,dN X pins H' b:=fun hn b hb=>⟨hn b hb,(hf b hb).2⟩
 refine codeAny_loop hq (fun n s'=>∃i H',Inv X pins σ0 H' s'/\tn i s'.heap/\(∀b∈fp,H' b=none)/\W i n H') ?_ m0 ⟨0,H,I,st,fun b hb=>(hf b hb).1,w0⟩
 rintro n s3 ⟨i,H3,I3,st3,fr3,w3⟩
 rw [hA]
 have hden:(model X.prog X.w).den (.compLoop e depth (.ref it) acc X.env)=(compTurn e depth (.ref it) acc X.env).onRaise (fun x=>do noteFrame x X.env; theTreesLotGoes x):=by
   show (if (Jo e depth (.ref it) acc X.env).isFrame then _ else _)=_
   rw [if_neg (by rw [hF]; decide)]
 rw [hden]
 refine wpAny_noted ?_
 rw [← hX,heq]
 unfold oO
 refine wpAny_bind (wpAny_standAt ?_)
 have again':∀{σ7:St} {H7:Hp} {s5 s7:Shared},tn (i + 1) s5.heap->Inv X (pins++jF fp s5.heap) σ7 H7 s7->aY σ0 σ7->(∃m',m' < n/\W (i + 1) m' H7) ->
     ∃m,m < n/\∃i H',Inv X pins σ0 H' s7/\tn i s7.heap/\(∀b∈fp,H' b=none)/\W i m H':=fun {σ7 H7 s5 s7} st5 I7 k7 ⟨m',hm',w7⟩=>by
   refine ⟨m',hm',i + 1,H7,I7.unpinned.weak k7.len k7.get,T.keep _ _ _ st5 fun b hb o e=>(I7.pin (b,o) (HK _ (HK _ (dt hb e)))).1,fun b hb=>?_,w7⟩
   obtain ⟨o,e,d⟩:=T.obj _ _ st5 b hb
   exact (I7.pin (b,o) (HK _ (HK _ (dt hb e)))).2.1
 rcases turn i n H3 w3 with ⟨stop,qn⟩ | ⟨go,step⟩
 · refine wpAny_bind (bb (T.done X rfl rfl rfl hc i pins s3 σ0 H3 X.xe I3 (stat fr3) st3 stop) fun r s4 ⟨hr,I4⟩=>?_)
   subst hr
   exact wpAny_pure (hZ H3 s4 I4 fr3 qn)
 · refine wpAny_bind (bb (T.item X rfl rfl rfl hc i pins s3 σ0 H3 X.xe I3 (stat fr3) st3 go) fun r s4 ⟨u,hr,h4⟩=>?_)
   subst hr
   refine wpAny_bind (bb h4 fun _ s5 ⟨x,H5,I5,r5,y5,st5,fr5⟩=>?_)
   have I5':=I5.pinned (stat fr5) (T.obj _ _ st5)
   refine wpAny_bind (bb (hg _ s5 σ0 H5 x u _ I5' r5 (step x H5 y5)) fun _ s6 ⟨σ6,H6,I6,q6⟩=>?_)
   refine wpAny_bind (bb (hif _ s6 σ6 H6 _ I6 q6) fun b s7 ⟨H7,I7,q7⟩=>?_)
   cases b with
   | false=>
     obtain ⟨k7,w7⟩:=q7
     exact wpAny_pure ⟨rfl,again' st5 I7 k7 w7⟩
   | true=>
     refine wpAny_bind (bb (hm _ s7 σ6 H7 _ I7 q7) fun _ s8 ⟨H8,I8,k8,w8⟩=>?_)
     exact wpAny_pure ⟨rfl,again' st5 I8 k8 w8⟩
end
end L2
set_option Elab.async false
set_option linter.all false
set_option maxRecDepth 100000
namespace L2
open PySem PySem.Spec PyProof.Rows

/-- what a comprehension needs of its kind: its loop's turn and its start -/
structure dM (P:Program)(w:World)(A:Around)(e:Expr)(tg iter:Expr)(ifs:List Expr)(emit:Addr->Env->Sem Unit):Prop where
 cl:clausesOf e=[⟨tg,iter,ifs,0⟩]
 turn:∀it D env,compTurn e 0 (.ref it) (.ref D) env=oO tg iter.pos ifs (.ref it) env (emit D env) (again (.compLoop e 0 (.ref it) (.ref D) env))
 start:∀(R:Result->Shared->Prop) (s:Shared) (it acc:Value) (env:Env),codeAny (model P w) A (.compLoop e 0 it acc env) R s ->
   wpAny (model P w) A (pyIter it) (fun it' s'=>codeAny (model P w) A (.compLoop e 0 it' acc env) R s') (notedBy (model P w) A env fun x s'=>R (.error x) s') s->codeAny (model P w) A (.compStart e 0 it acc env) R s
 quiet:∀it acc env,(Jo e 0 it acc env).quiet=true
 under:∀it acc env,A.under (.compLoop e 0 it acc env)=A
 frame:∀it acc env,(Jo e 0 it acc env).isFrame=false

theorem oX {P:Program}{w:World}{A:Around}{elt tg iter:Expr}{ifs:List Expr}{sc:Scope}{pos:Pos} :
   dM P w A (.ListComp elt [⟨tg,iter,ifs,0⟩] sc pos) tg iter ifs (fun D env=>do let _ ← call (.builtin "list.append") [.ref D,← eval elt env]) where
 cl:=rfl
 turn:=fun it D env=>by rw [compTurn_list]; rfl
 start:=fun R s it acc env h0 h=>codeAny_compStart_list h0 h
 quiet:=fun _ _ _=>rfl
 under:=fun _ _ _=>rfl
 frame:=fun _ _ _=>rfl
theorem wD {P:Program}{w:World}{A:Around}{kx vx tg iter:Expr}{ifs:List Expr}{sc:Scope}{pos:Pos} :
   dM P w A (.DictComp kx vx [⟨tg,iter,ifs,0⟩] sc pos) tg iter ifs (fun D env=>do
     let kv ← eval kx env
     let vv ← holding [kv] (eval vx env)
     standAt { kx.pos with endLine:=vx.pos.endLine,endCol:=vx.pos.endCol }
     holding [kv,vv] (dictSet D kv vv)) where
 cl:=rfl
 turn:=fun it D env=>by rw [compTurn_dict]; rfl
 start:=fun R s it acc env h0 h=>codeAny_compStart_dict h0 h
 quiet:=fun _ _ _=>rfl
 under:=fun _ _ _=>rfl
 frame:=fun _ _ _=>rfl

section
variable {X:Cx}{e tg iter:Expr}{ifs:List Expr}{emit:Addr->Env->Sem Unit}{sc:Scope}{pos:Pos}{wi:TI}{N':List Str}{src:List (Option Nat)}{g:TG}{tifs:TT}{tm:Addr->TM}{newAcc:Sem Value}{ob:Obj}{accO:HO}
/-- a comprehension: the accumulator at D (it begins as accO) -/
def ef (src:List (Option Nat))(accO:HO)(wi:TI)(g:TG)(tifs:TT)(tm:Addr->TM):TE:=
 fun σ H Q=>wi σ H fun J H1=>∀D,H1 D=none->ie J (capσ src σ) g tifs (tm D) (fun H'=>Q (.ref D) H') (upd H1 D accO)
/-- the accumulator that is laid -/
structure iX (X:Cx)(newAcc:Sem Value)(ob:Obj)(accO:HO):Prop where
 new:∀(s:Shared) (Q:Value->Shared->Prop) (E:Value->Shared->Prop),Q (.ref s.heap.objs.size) { s with heap:=s.heap.push ob }->wpAny (model X.prog X.w) X.A newAcc Q E s
 live:ob.isFreed=false
 ok:∀(pins:List (Addr×Obj)) (σ:St) (H:Hp) (s:Shared),Inv X pins σ H s->a8 X.prog X.w (upd H s.heap.objs.size accO) (s.heap.push ob) s.heap.objs.size accO

theorem mH {use:Option (Value->Sem Unit)}{Q':Value->Shared->Prop}(K:dM X.prog X.w X.A e tg iter ifs emit)(hc:X.calm=true)(S:az sc X.env.scope)(hcap:bV sc src N' X.N=true)(hi:PI X tg iter wi)
   (hb:∀s H C fp xe D,PG (eL X N' sc s H C fp xe) tg g/\lh (eL X N' sc s H C fp xe) ifs tifs/\Ca (eL X N' sc s H C fp xe) (emit D (eL X N' sc s H C fp xe).env) (tm D)) (N:iX X newAcc ob accO)
   (hs:∀x,foldedSetIterable iter X.env x=pure x)
   {pins:List (Addr×Obj)} {s:Shared} {σ:St} {H:Hp} {Q:VK} (I:Inv X pins σ H s) (h:ef src accO wi g tifs tm σ H Q)
   (hQ:∀(C D:Addr) (H':Hp) (s':Shared),Inv X pins σ H' s'->Q (.ref D) H'->H' C=none->(∃m,s'.heap.Ns C m)->(∀(σ1:St) (H1:Hp) (s1:Shared) (h':Heap),Inv X pins σ1 H1 s1->H1 C=none->Iw C s1.heap h'->Inv X pins σ1 H1 { s1 with heap:=h' }) ->
     (C≠X.env.locals/\∀x c,X.env.cells.lookup x=some c->c≠C)->compPost (model X.prog X.w) X.A X.xe use Q' (.ref D) C (.ok .next) s') :
   wpAny (model X.prog X.w) X.A (comprehension e sc X.env pos newAcc false (eval iter X.env) use) Q' X.xe s:=by
 refine wpAny_comprehension_free (g:=⟨tg,iter,ifs,0⟩) (gs:=[]) K.cl hs (nK fun p hp hf=>I.ok.has p.1 (S.free p hp hf)) S.kind S.names ?_
 refine bb (hi pins s σ H _ I h) fun v s1 h1=>bb h1 fun itv s2 h2=>?_
 obtain ⟨it,fp,tn,J,H2,e1,I2,T,st2,f2,q2⟩:=h2
 subst e1
 refine N.new s2 _ _ ?_
 have hD:H2 s2.heap.objs.size=none:=I2.hok.fresh (GX _)
 have hk3:∀b o,s2.heap.get? b=some o->(s2.heap.push ob).get? b=some o:=fun b o e=>GV _ e
 have I3:Inv X pins σ (upd H2 s2.heap.objs.size accO) { s2 with heap:=s2.heap.push ob }:=I2.laid (t':=s2.toks) hk3 (GX _) (N.ok pins σ H2 s2 I2)
 have st3:tn 0 (s2.heap.push ob):=T.keep _ _ _ st2 fun b _ o e=>hk3 b o e
 have ob3:∀b∈fp,∃o,(s2.heap.push ob).get? b=some o:=fun b hb=>let ⟨o,e,_⟩:=T.obj _ _ st3 b hb; ⟨o,e⟩
 have f3:∀b∈fp,dN X pins (upd H2 s2.heap.objs.size accO) b:=fun b hb=>by
   refine ⟨?_,(f2 b hb).2⟩
   obtain ⟨o,e,_⟩:=T.obj _ _ st2 b hb
   rw [aj (HE (G6 e))]
   exact (f2 b hb).1
 have qq:=q2 s2.heap.objs.size hD
 generalize hs3:({ s2 with heap:=s2.heap.push ob }:Shared)=s3 at I3 ⊢
 have hh3:s2.heap.push ob=s3.heap:=by rw [← hs3]
 rw [hh3] at st3 ob3
 generalize s2.heap.objs.size=D at I3 f3 qq hD ⊢
 refine wpAny_newFunctionEnv S.cell (by intro y hy; simp at hy) (fun h₁ hns hsb=>?_) S.kind
 have hns':h₁.Ns s3.heap.objs.size (fun _=>none):=hns
 have hk4:∀b o,s3.heap.get? b=some o->h₁.get? b=some o:=fun b o e=>hsb.extBut b o (HE (G6 e)) (GV _ e)
 -- the block
 let R:Result->Shared->Prop:=compPost (model X.prog X.w) X.A X.xe use Q' (.ref D) s3.heap.objs.size
 let X':Cx:=eL X N' sc s3 (upd H2 D accO) s3.heap.objs.size fp (notedBy (model X.prog X.w) X.A (compEnvC sc (eY sc X.env) s3.heap.objs.size X.env) fun e s'=>R (.error e) s')
 have I4:Inv X' [] (capσ src σ) (upd H2 D accO) { s3 with heap:=h₁,toks:=s3.toks + ([]:List (Str×Value)).length }:=nM I3 S hcap f3 ob3 hns' hk4
 have st4:tn 0 h₁:=T.keep _ _ _ st3 fun b _ o e=>hk4 b o e
 obtain ⟨hg,hif,hm⟩:=hb s3 (upd H2 D accO) s3.heap.objs.size fp (notedBy (model X.prog X.w) X.A (compEnvC sc (eY sc X.env) s3.heap.objs.size X.env) fun e s'=>R (.error e) s') D
 have f4:∀b∈fp,dN X' [] (upd H2 D accO) b:=fun b hb=>by
   obtain ⟨g0,g1,g2,g3,g4,g5⟩:=f3 b hb
   refine ⟨g0,?_,?_,.inl hb,fun x c e=>?_,fun p hp=>absurd (show p∈([]:List (Addr×Obj)) from hp) (by simp)⟩
   · obtain ⟨o,e⟩:=ob3 b hb
     exact HE (G6 e)
   · intro z
     rcases List.mem_cons.mp (I3.stkSub b z) with y | y
     · exact g1 y
     · exact g2 y
   · exact g4 x c (nJ (HN e)).2
 have fpC:dN X pins (upd H2 D accO) s3.heap.objs.size:=I3.fpOk (GX _) (I3.hok.fresh (GX _))
 have loop:∀s4:Shared,s4={ s3 with heap:=h₁,toks:=s3.toks + ([]:List (Str×Value)).length }->codeAny (model X.prog X.w) X.A (.compLoop e 0 (.ref it) (.ref D) X'.env) R s4:=by
   rintro s4 rfl
   refine qi (X:=X') (Z:=fun H'=>Q (.ref D) H') rfl (K.turn it D X'.env) (K.quiet _ _ _) (K.under _ _ _) (K.frame _ _ _) hc T hg hif hm f4 I4 st4 (fun H' s' I' _ z=>?_) qq
   refine hQ s3.heap.objs.size D H' s' (nO I3 f3 I') z I'.free (wG I') (fun σ1 H1 s1 h' I1 n1 hs1=>qh I3 I1 n1 hs1) ⟨fpC.2.1,fun x c e=>fpC.2.2.2.2.1 x c e⟩
 exact K.start R _ (.ref it) (.ref D) X'.env (loop _ rfl) (T.self X.A 0 _ _ _ st4 (loop _ rfl))

/-- as an expression -/
theorem xV (K:dM X.prog X.w X.A e tg iter ifs emit)(hc:X.calm=true)(S:az sc X.env.scope)(hcap:bV sc src N' X.N=true)(hi:PI X tg iter wi)
   (hb:∀s H C fp xe D,PG (eL X N' sc s H C fp xe) tg g/\lh (eL X N' sc s H C fp xe) ifs tifs/\Ca (eL X N' sc s H C fp xe) (emit D (eL X N' sc s H C fp xe).env) (tm D)) (N:iX X newAcc ob accO)
   (hs:∀x,foldedSetIterable iter X.env x=pure x) (he:eval e X.env=comprehension e sc X.env pos newAcc false (eval iter X.env)):PE X e (ef src accO wi g tifs tm):=by
 intro pins s σ H Q I h
 rw [he]
 refine mH (use:=none) (Q:=Q) K hc S hcap hi hb N hs I h fun C D H' s' I' q hn ⟨m,hm⟩ gone _=>?_
 exact ⟨m,hm,fun h' hs'=>⟨.ref D,H',gone σ H' s' h' I' hn hs',rfl,q⟩⟩
/-- as name=[..],where the store comes ahead of the variables' end -/
theorem pN {i:Nat}{x:Str}{pos' pos2:Pos}(K:dM X.prog X.w X.A e tg iter ifs emit)(hc:X.calm=true)(S:az sc X.env.scope)(hcap:bV sc src N' X.N=true)(hi:PI X tg iter wi)
   (hb:∀s H C fp xe D,PG (eL X N' sc s H C fp xe) tg g/\lh (eL X N' sc s H C fp xe) ifs tifs/\Ca (eL X N' sc s H C fp xe) (emit D (eL X N' sc s H C fp xe).env) (tm D)) (N:iX X newAcc ob accO)
   (hs:∀x,foldedSetIterable iter X.env x=pure x) (he:∀u,evalThenUse e X.env u=(do let _ ← comprehension e sc X.env pos newAcc false (eval iter X.env) (some u)))
   (hN:X.N.Nodup) (hix:X.N[i]? = some x) (hx:Loc X.env.scope x) (hsw:swapsWith e (some (.Name x pos')) pos2.line X.env=pure true)
   (hf:X.fn x=true\/X.env.scope.names.lookup x=some .local:=by first | exact .inl rfl | exact .inr rfl | assumption) :
   PS X (.Assign [.Name x pos'] e pos2) (nu (ef src accO wi g tifs tm) (eR i)):=by
 intro pins s σ H D0 I h
 rw [exec_Assign_Name_used x pos' e pos2 hsw,he]
 refine wpAny_bind (wpAny_standAt (wpAny_bind (wpAny_bind ?_)))
 refine mH (use:=some (assign (.Name x pos') X.env)) (Q:=fun v H'=>D0.nx (σ.set i (some v)) H') (Q':=fun _ s'=>wpAny _ _ _ _ _ s') K hc S hcap hi hb N hs I h fun C D H' s' I' q hn ⟨m,hm⟩ gone ⟨hCL,hCc⟩=>?_
 refine wpAny_assign_Name (kZ (v:=.ref D) I' hN hix hx rfl (fun s2 I2 hch=>?_) hf)
 obtain ⟨a,hsb,ha⟩:=hch
 have hne:C≠a:=by
   rcases ha with z | z
   · rw [z]; exact hCL
   · exact (hCc x a z).symm
 refine ⟨m,hm.sameBut hsb hne,fun h' hs'=>?_⟩
 exact wpAny_pure (wpAny_pure ⟨_,H',gone _ H' s2 h' I2 hn hs',q⟩)
end

section
variable {X:Cx}{elt kx vx:Expr}{te tk tv:TE}
/-- the element is put behind the list at D -/
def bS (te:TE)(D:Addr):TM:=fun σ H K=>te σ H fun y H1=>∃ys,H1 D=some (.lst ys)/\ys.length < sizeLine/\K (upd H1 D (.lst (ys++[y])))
theorem vh (h:PE X elt te)(D:Addr):Ca X (do let _ ← call (.builtin "list.append") [.ref D,← eval elt X.env]) (bS te D):=by
 intro pins s σ H Q I q
 refine wpAny_bind (bb (h pins s σ H _ I q) fun u s1 ⟨y,H1,I1,ru,ys,e,z,k⟩=>?_)
 refine wpAny_bind (bb (kU pins s1 σ H1 (.ref D) [y] (.ref D) [u] (fun _ H'=>Q H') I1 rfl (.cons ru .nil) ⟨D,ys,y,rfl,rfl,e,z,k⟩) fun r s2 ⟨v,H2,I2,_,k2⟩=>?_)
 exact wpAny_pure ⟨H2,I2,k2⟩
theorem ql {pins:List (Addr×Obj)}{σ:St}{H H':Hp}{s:Shared}{a:Addr}{y v:V}{u r:Value}{A:Around}{E:Value->Shared->Prop}{Q:Unit->Shared->Prop}(hu:A.units + 1 < cLine)(I:Inv X pins σ H s)(g:r4 H a y v H')(ry:RelV y u)(rv:RelV v r)(h:∀s',Inv X pins σ H' s'->Q () s') :
   wpAny (model X.prog X.w) A (dictSet a u r) Q E s:=by
 rcases g with ⟨kvs,k,e,ey,l,eH⟩ | ⟨kvs,k,b,e,ey,eb,l,eH⟩
 · subst ey eH
   obtain ⟨z,hd,vs,rel,dd⟩:=yT I.hok e
   have hz:vs.length<=sizeLine:=by rw [← rel.length]; exact z
   have hl:(putK kvs k v).length<=sizeLine:=by have:=dZ kvs k v; omega
   refine wpAny_dictSet_pairs (hsz:=hz) (mX ry) dd fun h' dd' hs=>h _ ?_
   have he:∃q,h'.get? a=some q:=let ⟨q,_,_,hq,_⟩:=dd'; ⟨q,hq⟩
   exact lC I (by rw [e]; exact Ht) hs he (sJ hl hd (rel.put k rv) dd')
 · subst ey eH
   cases (show u=HC b from ry)
   obtain ⟨z,hd,xs,rel,dd⟩:=CG I.hok e
   have hz:xs.length<=sizeLine:=by rw [← Paired.length rel]; exact z
   have hl:(putK kvs k v).length<=sizeLine:=by have:=dZ kvs k v; omega
   have hroom:(tupleKind (bp X.prog X.w)).room A:=show A.units < cLine by omega
   refine wpAny_dictSet_heap (hsz:=hz) hroom (lM I.hok eb) dd fun h' dd' hs=>h _ ?_
   obtain ⟨q,es,ep,hq,h2,h3,h4,_,h5⟩:=dd'
   refine lC I (by rw [e]; exact Ht) hs ⟨q,hq⟩ ⟨hl,hd,_,(rel.put k eb rv).keeps fun c ys ec=>?_,q,es,ep,hq,h2,h3,h4,h5⟩
   rw [aj (y9 ec e (fun z=>nomatch z))]
   exact ec
/-- the pair is put into the dict at D -/
def Au (tk tv:TE)(D:Addr):TM:=fun σ H K=>tk σ H fun y H1=>tv σ H1 fun v H2=>∃H3,r4 H2 D y v H3/\K H3
theorem Bp (hu:X.A.units + 1 < cLine)(hk:PE X kx tk)(hv:PE X vx tv)(D:Addr):Ca X (do
     let kv ← eval kx X.env
     let vv ← holding [kv] (eval vx X.env)
     standAt { kx.pos with endLine:=vx.pos.endLine,endCol:=vx.pos.endCol }
     holding [kv,vv] (dictSet D kv vv)) (Au tk tv D):=by
 intro pins s σ H Q I q
 refine wpAny_bind (bb (hk pins s σ H _ I q) fun u s1 ⟨y,H1,I1,ru,q1⟩=>?_)
 refine wpAny_bind (wpAny_holding (bb (hv pins s1 σ H1 _ I1 q1) fun r s2 ⟨v,H2,I2,rv,H3,g,q2⟩=>?_))
 exact wpAny_bind (wpAny_standAt (wpAny_holding (ql hu I2 g ru rv fun s3 I3=>⟨H3,I3,q2⟩)))
theorem zG:iX X newDict { cls:=.type "dict",data:=.dict #[] } (.dT []) where
 new:=fun s Q E h=>wpAny_newObj_type h
 live:=rfl
 ok:=fun pins σ H s I=>sO s.heap I.big
theorem mE:iX X (newList []) { cls:=.type "list",data:=.seq #[] } (.lst []) where
 new:=fun s Q E h=>wpAny_newObj_type h
 live:=rfl
 ok:=fun pins σ H s I=>⟨HD _,[],0,.nil,G9 _ rfl⟩
end

/-! ### the rules one uses -/
section
variable {X:Cx}{elt kx vx tg iter:Expr}{ifs:List Expr}{sc:Scope}{pos:Pos}{wi:TI}{N':List Str}{src:List (Option Nat)}{g:TG}{tifs:TT}{te tk tv:TE}
/-- [elt for tg in iter if ..] -/
theorem Du (src:List (Option Nat))(N':List Str)(hc:X.calm=true)(S:az sc X.env.scope)(hcap:bV sc src N' X.N=true)(hi:PI X tg iter wi)
   (hb:∀s H C fp xe,PG (eL X N' sc s H C fp xe) tg g/\lh (eL X N' sc s H C fp xe) ifs tifs/\PE (eL X N' sc s H C fp xe) elt te)
   (hs:∀x,foldedSetIterable iter X.env x=pure x:=by intro _; rfl):PE X (.ListComp elt [⟨tg,iter,ifs,0⟩] sc pos) (ef src (.lst []) wi g tifs (bS te)):=
 xV oX hc S hcap hi (fun s H C fp xe D=>⟨(hb s H C fp xe).1,(hb s H C fp xe).2.1,vh (hb s H C fp xe).2.2 D⟩) mE hs rfl
/-- x=[elt for tg in iter if ..] on one row,x a plain local -/
theorem DD {i:Nat}{x:Str}{pos' pos2:Pos}(src:List (Option Nat))(N':List Str)(hc:X.calm=true)(S:az sc X.env.scope)(hcap:bV sc src N' X.N=true)(hi:PI X tg iter wi)
   (hb:∀s H C fp xe,PG (eL X N' sc s H C fp xe) tg g/\lh (eL X N' sc s H C fp xe) ifs tifs/\PE (eL X N' sc s H C fp xe) elt te)
   (hN:X.N.Nodup) (hix:X.N[i]? = some x) (hx:Loc X.env.scope x) (hsw:swapsWith (.ListComp elt [⟨tg,iter,ifs,0⟩] sc pos) (some (.Name x pos')) pos2.line X.env=pure true:=by rfl)
   (hs:∀x,foldedSetIterable iter X.env x=pure x:=by intro _; rfl) (hf:X.fn x=true\/X.env.scope.names.lookup x=some .local:=by first | exact .inl rfl | exact .inr rfl | assumption) :
   PS X (.Assign [.Name x pos'] (.ListComp elt [⟨tg,iter,ifs,0⟩] sc pos) pos2) (nu (ef src (.lst []) wi g tifs (bS te)) (eR i)):=
 pN oX hc S hcap hi (fun s H C fp xe D=>⟨(hb s H C fp xe).1,(hb s H C fp xe).2.1,vh (hb s H C fp xe).2.2 D⟩) mE hs (fun _=>rfl) hN hix hx hsw hf
end

/-! ### the forms one uses: Pv D i H,by the turn -/
section
variable {K:GP}{a:Addr}{xs:List V}{g:TG}{tifs:TT}{tm:TM}{σ0:St}{Z:Hp->Prop}{H:Hp}
theorem fA (n:Nat){J:It}(Pv:Nat->Hp->Prop)(h0:Pv 0 H)(hgo:∀i H,i < n->Pv i H->J.go i H)(hst:∀H,Pv n H->J.stop n H)
   (turn:∀i H,i < n->Pv i H->∀x H',J.yld i H x H'->g x σ0 H' fun σ2 H2=>tifs σ2 H2 fun b H3=>
     if b=true then tm σ2 H3 fun H4=>aY σ0 σ2/\∃m',m' < n - i/\(m'=n - (i + 1)/\i + 1<=n/\Pv (i + 1) H4) else aY σ0 σ2/\∃m',m' < n - i/\(m'=n - (i + 1)/\i + 1<=n/\Pv (i + 1) H3))
   (hZ:∀H,Pv n H->Z H):ie J σ0 g tifs tm Z H:=by
 refine ⟨fun i m H=>m=n - i/\i<=n/\Pv i H,⟨n,by simp,HD _,h0⟩,?_⟩
 rintro i m H ⟨rfl,hi,p⟩
 by_cases hlt:i < n
 · exact .inr ⟨hgo i H hlt p,turn i H hlt p⟩
 · have e:i=n:=by omega
   subst e
   exact .inl ⟨hst H p,hZ H p⟩
/-- over a list that stays -/
theorem aT (Pv:Nat->Hp->Prop)(h0:Pv 0 H)(hl:∀i H,i<=xs.length->Pv i H->aw K H a xs)
   (turn:∀i x H,xs[i]? = some x->Pv i H->g x σ0 H fun σ2 H2=>tifs σ2 H2 fun b H3=>
     if b=true then tm σ2 H3 fun H4=>aY σ0 σ2/\∃m',m' < xs.length - i/\(m'=xs.length - (i + 1)/\i + 1<=xs.length/\Pv (i + 1) H4) else aY σ0 σ2/\∃m',m' < xs.length - i/\(m'=xs.length - (i + 1)/\i + 1<=xs.length/\Pv (i + 1) H3))
   (hZ:∀H,Pv xs.length H->Z H):ie (B7 K a) σ0 g tifs tm Z H:=by
 refine fA xs.length Pv h0 (fun i H hi p=>⟨xs,xs[i],hl i H (HV hi) p,by simp [hi]⟩) (fun H p=>⟨xs,hl _ H (GX _) p,GX _⟩) (fun i H hi p x H' y=>?_) hZ
 obtain ⟨e,y⟩:=y
 subst e
 exact turn i x _ (y xs (hl i _ (HV hi) p)) p
theorem mI (Pv:Nat->Hp->Prop)(h0:Pv 0 H)(hl:∀i H,i<=xs.length->Pv i H->aC K H a xs)
   (turn:∀i x H,xs[i]? = some x->Pv i H->g x σ0 H fun σ2 H2=>tifs σ2 H2 fun b H3=>
     if b=true then tm σ2 H3 fun H4=>aY σ0 σ2/\∃m',m' < xs.length - i/\(m'=xs.length - (i + 1)/\i + 1<=xs.length/\Pv (i + 1) H4) else aY σ0 σ2/\∃m',m' < xs.length - i/\(m'=xs.length - (i + 1)/\i + 1<=xs.length/\Pv (i + 1) H3))
   (hZ:∀H,Pv xs.length H->Z H):ie (B8 K a) σ0 g tifs tm Z H:=by
 refine fA xs.length Pv h0 (fun i H hi p=>⟨xs,xs[i],hl i H (HV hi) p,by simp [hi]⟩) (fun H p=>⟨xs,hl _ H (GX _) p,GX _⟩) (fun i H hi p x H' y=>?_) hZ
 obtain ⟨e,y⟩:=y
 subst e
 exact turn i x _ (y xs (hl i _ (HV hi) p)) p
theorem jc {lo:Int}{n:Nat}(Pv:Nat->Hp->Prop)(h0:Pv 0 H)
   (turn:∀i H,i < n->Pv i H->g (.int (lo + i)) σ0 H fun σ2 H2=>tifs σ2 H2 fun b H3=>
     if b=true then tm σ2 H3 fun H4=>aY σ0 σ2/\∃m',m' < n - i/\(m'=n - (i + 1)/\i + 1<=n/\Pv (i + 1) H4) else aY σ0 σ2/\∃m',m' < n - i/\(m'=n - (i + 1)/\i + 1<=n/\Pv (i + 1) H3))
   (hZ:∀H,Pv n H->Z H):ie (zz lo n) σ0 g tifs tm Z H:=by
 refine fA n Pv h0 (fun i H hi p=>hi) (fun H p=>GX _) (fun i H hi p x H' y=>?_) hZ
 obtain ⟨e,y⟩:=y
 subst e y
 exact turn i _ hi p
/-- a turn's end -/
theorem aK {n i:Nat}{P:Prop}{Pv:Nat->Hp->Prop}{H:Hp}(k:P)(hi:i < n)(p:Pv (i + 1) H):P/\∃m',m' < n - i/\(m'=n - (i + 1)/\i + 1<=n/\Pv (i + 1) H):=⟨k,_,by omega,rfl,hi,p⟩
end
end L2
set_option Elab.async false
set_option linter.all false
set_option maxRecDepth 100000
namespace L2
open PySem PySem.Spec PyProof.Rows

section
variable {X:Cx}{pins:List (Addr×Obj)}{σ:St}{H:Hp}{s:Shared}{h':Heap}{ch:List Addr}{a:Addr}{o:HO}
/-- records of ours have turned,and a new object is laid and tracked -/
theorem Inv.many {t':Nat}(I:Inv X pins σ H s)(hch:∀b∈ch,dN X pins H b)(k:∀b ob,b ∉ ch->s.heap.get? b=some ob->h'.get? b=some ob)(hp:s.heap.objs.size<=a)(new:a8 X.prog X.w (upd H a o) h' a o) :
   Inv X pins σ (upd H a o) { s with heap:=h',toks:=t' }:=by
 have hn:H a=none:=I.hok.fresh hp
 have na:∀b ob,s.heap.get? b=some ob->b≠a:=fun b ob e=>HE (Hn (G6 e) hp)
 have nch:∀b u,H b=some u->b ∉ ch:=fun b u e z=>by rw [(hch b z).1] at e; cases e
 refine I.step (g':=s.gens) (d':=s.drawn) (ch:=ch) (fun b hb=>⟨(hch b hb).2.2.2.1,(hch b hb).2.1,(hch b hb).2.2.2.2.1,(hch b hb).2.2.2.2.2⟩) (fun b ob _ _ hc e _=>k b ob hc e) (fun b ob _ _ hc e _=>⟨ob.slots,k b ob hc e⟩)
   (fun b ob _ e n=>by rw [aj (na b ob e)]; exact n) (fun b ob hc e=>⟨ob,k b ob hc e⟩) (fun b xs e=>by rw [aj (ai e hn)]; exact e) (fun b ob u e=>by rw [aj (ai e hn)]; exact e)
   (fun b ps e=>⟨#[],by rw [aj (ai e hn),e]; simp⟩) (fun m hm=>?_) (fun b u e=>?_) I.bare
 · obtain ⟨ob,es,ep,ho,r⟩:=hm
   exact ⟨ob,es,ep,k _ ob (fun z=>(hch _ z).2.1 rfl) ho,r⟩
 · by_cases hb:b=a
   · subst hb; rw [ae] at e; cases e; exact new
   · rw [aj hb] at e
     refine (I.hok b u e).stay (fun c v hc q=>k c v ?_ q) (fun c q=>by rw [aj (ai q hn)]; exact q) fun c xs q=>by rw [aj (ai q hn)]; exact q
     rcases hc with z | z
     · subst z; exact nch c u e
     · exact nch c _ z
theorem Inv.many0 {t':Nat}(I:Inv X pins σ H s)(hch:∀b∈ch,dN X pins H b)(k:∀b ob,b ∉ ch->s.heap.get? b=some ob->h'.get? b=some ob) :
   Inv X pins σ H { s with heap:=h',toks:=t' }:=by
 have nch:∀b u,H b=some u->b ∉ ch:=fun b u e z=>by rw [(hch b z).1] at e; cases e
 refine I.step (g':=s.gens) (d':=s.drawn) (ch:=ch) (fun b hb=>⟨(hch b hb).2.2.2.1,(hch b hb).2.1,(hch b hb).2.2.2.2.1,(hch b hb).2.2.2.2.2⟩) (fun b ob _ _ hc e _=>k b ob hc e) (fun b ob _ _ hc e _=>⟨ob.slots,k b ob hc e⟩)
   (fun b ob _ e n=>n) (fun b ob hc e=>⟨ob,k b ob hc e⟩) (fun b xs e=>e) (fun b ob u e=>e)
   (fun b ps e=>⟨#[],by rw [e]; simp⟩) (fun m hm=>?_) (fun b u e=>?_) I.bare
 · obtain ⟨ob,es,ep,ho,r⟩:=hm
   exact ⟨ob,es,ep,k _ ob (fun z=>(hch _ z).2.1 rfl) ho,r⟩
 · refine (I.hok b u e).stay (fun c v hc q=>k c v ?_ q) (fun c q=>q) fun c xs q=>q
   rcases hc with z | z
   · subst z; exact nch c u e
   · exact nch c _ z
end

/-! ### zip of two lists,walked by a tuple of names -/
end L2
set_option Elab.async false
set_option linter.all false
set_option maxRecDepth 100000
namespace PySem
end PySem
set_option Elab.async false
set_option linter.all false
set_option maxRecDepth 100000
namespace L2
open PySem PySem.Spec PyProof.Rows
end L2
set_option Elab.async false
set_option linter.all false
set_option maxRecDepth 100000
namespace L2
open PySem PySem.Spec PyProof.Rows SeqAt

/-! ### equality,to any depth -/
inductive EB (K:GP) (H:Hp):Nat->V->V->Bool->Prop where
 | flat {n:Nat} {x y:V}:cB x=true->cB y=true->EB K H n x y (nz x y)
 | same {n:Nat} {a:Addr}:EB K H n (.ref a) (.ref a) true
 | lst {n:Nat} {a b:Addr} {xs ys:List V} {e:Nat->Bool}:a≠b->aw K H a xs->aw K H b ys->xs.length=ys.length->(∀j x y,xs[j]? = some x->ys[j]? = some y->EB K H n x y (e j)) ->
     EB K H (n + 1) (.ref a) (.ref b) ((IT xs.length).all e)
 | len {n:Nat} {a b:Addr} {xs ys:List V}:a≠b->aw K H a xs->aw K H b ys->xs.length≠ys.length->EB K H n (.ref a) (.ref b) false
 | tup {n:Nat} {a b:Addr} {xs ys:List V} {e:Nat->Bool}:a≠b->aC K H a xs->aC K H b ys->(∀j x y,xs[j]? = some x->ys[j]? = some y->EB K H n x y (e j)) ->
     EB K H (n + 1) (.ref a) (.ref b) ((IT (min xs.length ys.length)).all e && xs.length == ys.length)
section
variable {X:Cx}{pins:List (Addr×Obj)}{σ:St}{H:Hp}{s:Shared}
theorem da {K:GP}{n:Nat}{A:Around}{xs ys:List V}{us vs:List Value}{e:Nat->Bool}(rv:Vals xs us)(rw':Vals ys vs)
   (h:∀j x y,xs[j]? = some x->ys[j]? = some y->∀(A:Around) (u v:Value),RelV x u->RelV y v->A.units + n < cLine->EqAt A s u v (e j)) (hu:A.units + (n + 1) < cLine) :
   ∀j (h1:j < us.toArray.size) (h2:j < vs.toArray.size),EqAt A.in1 s us.toArray[j] vs.toArray[j] (e j):=fun j h1 h2=>by
 have l1:=rv.length
 have l2:=rw'.length
 have h1':j < us.length:=by simpa using h1
 have h2':j < vs.length:=by simpa using h2
 have hx:xs[j]? = some (xs[j]'(by omega)):=G3 _
 have hy:ys[j]? = some (ys[j]'(by omega)):=G3 _
 obtain ⟨u,hu1,ru⟩:=rv.get hx
 obtain ⟨v,hv1,rv1⟩:=rw'.get hy
 have eu:us[j]=u:=by have:=G3 h1'; rw [hu1] at this; exact (HA this).symm
 have ev:vs[j]=v:=by have:=G3 h2'; rw [hv1] at this; exact (HA this).symm
 have q:=h j _ _ hx hy A.in1 u v ru rv1 (by show A.units + 1 + n < cLine; omega)
 simpa [eu,ev] using q
theorem EB.at (I:Inv X pins σ H s){n:Nat}{x y:V}{b:Bool}(q:EB X.K H n x y b):∀(A:Around) (u v:Value),RelV x u->RelV y v->A.units + n < cLine->EqAt A s u v b:=by
 induction q with
 | flat h1 h2=>exact fun A u v ru rv _=>sP ru rv h1 h2
 | same=>intro A u v ru rv _; cases ru; cases rv; exact EqAt.same _
 | @lst n a b xs ys e hne ha hb hl _ ih=>
   intro A u v ru rv hu
   cases ru; cases rv
   obtain ⟨us,r1,p1,_⟩:=I.list ha
   obtain ⟨vs,r2,p2,_⟩:=I.list hb
   have l1:=r1.length
   have l2:=r2.length
   have q:=RcAt.lists (A:=A) p1.isList p2.isList (by simp; omega) (by omega) (da (K:=X.K) r1 r2 ih hu)
   rw [show us.toArray.size=xs.length by simp [l1]] at q
   exact EqAt.of_refs hne q
 | @len n a b xs ys hne ha hb hl=>
   intro A u v ru rv hu
   cases ru; cases rv
   obtain ⟨us,r1,p1,_⟩:=I.list ha
   obtain ⟨vs,r2,p2,_⟩:=I.list hb
   have l1:=r1.length
   have l2:=r2.length
   exact EqAt.of_refs hne (RcAt.lists_lengths p1.isList p2.isList (by simp; omega) (by omega))
 | @tup n a b xs ys e hne ha hb _ ih=>
   intro A u v ru rv hu
   cases ru; cases rv
   obtain ⟨us,r1,p1,_⟩:=I.tuple ha
   obtain ⟨vs,r2,p2,_⟩:=I.tuple hb
   have l1:=r1.length
   have l2:=r2.length
   have q:=RcAt.tuples (A:=A) (show s.heap.IsTuple a us.toArray from p1) (show s.heap.IsTuple b vs.toArray from p2) (by omega) (da (K:=X.K) r1 r2 ih hu)
   rw [show us.toArray.size=xs.length by simp [l1],show vs.toArray.size=ys.length by simp [l2]] at q
   exact EqAt.of_refs hne q
end
/-- == of two lists,or of two tuples (at the top no look at whether they are one) -/
def RB (K:GP)(H:Hp)(n:Nat)(x y:V)(b:Bool):Prop:=∃a c xs ys,x=.ref a/\y=.ref c /\
 ((∃e:Nat->Bool,aw K H a xs/\aw K H c ys/\xs.length=ys.length/\(∀j x y,xs[j]? = some x->ys[j]? = some y->EB K H n x y (e j))/\b=(IT xs.length).all e) \/
  (aw K H a xs/\aw K H c ys/\xs.length≠ys.length/\b=false) \/
  (∃e:Nat->Bool,aC K H a xs/\aC K H c ys/\(∀j x y,xs[j]? = some x->ys[j]? = some y->EB K H n x y (e j))/\b=((IT (min xs.length ys.length)).all e && xs.length == ys.length)))
section
variable {X:Cx}
theorem AK {m:Nat}(hu:X.A.units + (m + 1) < cLine):eW X (compareOp .Eq) (fun x y H Q=>∃b,RB X.K H m x y b/\Q (.bl b) H):=by
 intro pins s σ H x y v u Q I rx ry h
 obtain ⟨b,⟨a,c,xs,ys,rfl,rfl,q⟩,k⟩:=h
 cases rx; cases ry
 rcases q with ⟨e,ha,hb,hl,he,rfl⟩ | ⟨ha,hb,hl,rfl⟩ | ⟨e,ha,hb,he,rfl⟩
 · obtain ⟨us,r1,p1,_⟩:=I.list ha
   obtain ⟨vs,r2,p2,_⟩:=I.list hb
   have l1:=r1.length
   have l2:=r2.length
   refine eq_listAt p1.isList p2.isList (by simp; omega) (by omega) (da (K:=X.K) r1 r2 (fun j x y h1 h2=>(he j x y h1 h2).at I) hu) ?_
   rw [show us.toArray.size=xs.length by simp [l1]]
   exact ⟨.bl _,H,I,rfl,k⟩
 · obtain ⟨us,r1,p1,_⟩:=I.list ha
   obtain ⟨vs,r2,p2,_⟩:=I.list hb
   have l1:=r1.length
   have l2:=r2.length
   exact eq_list_lengthsAt p1.isList p2.isList (by simp; omega) (by omega) ⟨.bl _,H,I,rfl,k⟩
 · obtain ⟨us,r1,p1,_⟩:=I.tuple ha
   obtain ⟨vs,r2,p2,_⟩:=I.tuple hb
   have l1:=r1.length
   have l2:=r2.length
   refine eq_tupleAt (show s.heap.IsTuple a us.toArray from p1) (show s.heap.IsTuple c vs.toArray from p2) (by omega) (da (K:=X.K) r1 r2 (fun j x y h1 h2=>(he j x y h1 h2).at I) hu) ?_
   rw [show us.toArray.size=xs.length by simp [l1],show vs.toArray.size=ys.length by simp [l2]]
   exact ⟨.bl _,H,I,rfl,k⟩
theorem AV {m:Nat}(hu:X.A.units + (m + 1) < cLine):eW X (compareOp .NotEq) (fun x y H Q=>∃b,RB X.K H m x y b/\Q (.bl (!b)) H):=by
 intro pins s σ H x y v u Q I rx ry h
 obtain ⟨b,⟨a,c,xs,ys,rfl,rfl,q⟩,k⟩:=h
 cases rx; cases ry
 rcases q with ⟨e,ha,hb,hl,he,rfl⟩ | ⟨ha,hb,hl,rfl⟩ | ⟨e,ha,hb,he,rfl⟩
 · obtain ⟨us,r1,p1,_⟩:=I.list ha
   obtain ⟨vs,r2,p2,_⟩:=I.list hb
   have l1:=r1.length
   have l2:=r2.length
   refine RcNeAt.lists p1.isList p2.isList (by simp; omega) (by omega) (da (K:=X.K) r1 r2 (fun j x y h1 h2=>(he j x y h1 h2).at I) hu) X.prog X.w X.xe _ ?_
   rw [show us.toArray.size=xs.length by simp [l1]]
   exact ⟨.bl _,H,I,rfl,k⟩
 · obtain ⟨us,r1,p1,_⟩:=I.list ha
   obtain ⟨vs,r2,p2,_⟩:=I.list hb
   have l1:=r1.length
   have l2:=r2.length
   exact RcNeAt.lists_lengths p1.isList p2.isList (by simp; omega) (by omega) X.prog X.w X.xe _ ⟨.bl _,H,I,rfl,k⟩
 · obtain ⟨us,r1,p1,_⟩:=I.tuple ha
   obtain ⟨vs,r2,p2,_⟩:=I.tuple hb
   have l1:=r1.length
   have l2:=r2.length
   refine RcNeAt.tuples (show s.heap.IsTuple a us.toArray from p1) (show s.heap.IsTuple c vs.toArray from p2) (by omega) (da (K:=X.K) r1 r2 (fun j x y h1 h2=>(he j x y h1 h2).at I) hu) X.prog X.w X.xe _ ?_
   rw [show us.toArray.size=xs.length by simp [l1],show vs.toArray.size=ys.length by simp [l2]]
   exact ⟨.bl _,H,I,rfl,k⟩
end
/-- the true case -/
def ET (K:GP)(H:Hp)(n:Nat)(x y:V):Prop:=EB K H n x y true
theorem all_true {n:Nat}:(IT n).all (fun _=>true)=true:=by rw [Jr]; intro _ _; rfl
theorem ET.lst {K:GP}{H:Hp}{n:Nat}{a b:Addr}{xs ys:List V}(ha:aw K H a xs)(hb:aw K H b ys)(hl:xs.length=ys.length)(h:∀(j:Nat) (x y:V),xs[j]? = some x->ys[j]? = some y->ET K H n x y):ET K H (n + 1) (.ref a) (.ref b):=by
 by_cases e:a=b
 · subst e; exact .same
 · have q:=EB.lst (e:=fun _=>true) e ha hb hl h
   rw [all_true] at q
   exact q
theorem ET.tup {K:GP}{H:Hp}{n:Nat}{a b:Addr}{xs ys:List V}(ha:aC K H a xs)(hb:aC K H b ys)(hl:xs.length=ys.length)(h:∀(j:Nat) (x y:V),xs[j]? = some x->ys[j]? = some y->ET K H n x y):ET K H (n + 1) (.ref a) (.ref b):=by
 by_cases e:a=b
 · subst e; exact .same
 · have q:=EB.tup (e:=fun _=>true) e ha hb h
   rw [all_true,hl,beq_self_eq_true] at q
   exact q
theorem sS {x:V}(h:cB x=true):nz x x=true:=by cases x <;> simp_all [cB,nz]
theorem ET.refl {K:GP}{H:Hp}{n:Nat}{x:V}(h:cB x=true\/∃a,x=.ref a):ET K H n x x:=by
 rcases h with h | ⟨a,rfl⟩
 · have q:=EB.flat (K:=K) (H:=H) (n:=n) h h
   rw [sS h] at q
   exact q
 · exact .same
theorem RB.lst {K:GP}{H:Hp}{n:Nat}{a b:Addr}{xs ys:List V}(ha:aw K H a xs)(hb:aw K H b ys)(hl:xs.length=ys.length)(h:∀(j:Nat) (x y:V),xs[j]? = some x->ys[j]? = some y->ET K H n x y):RB K H n (.ref a) (.ref b) true:=
 ⟨a,b,xs,ys,rfl,rfl,.inl ⟨fun _=>true,ha,hb,hl,h,all_true.symm⟩⟩
theorem RB.tup {K:GP}{H:Hp}{n:Nat}{a b:Addr}{xs ys:List V}(ha:aC K H a xs)(hb:aC K H b ys)(hl:xs.length=ys.length)(h:∀(j:Nat) (x y:V),xs[j]? = some x->ys[j]? = some y->ET K H n x y):RB K H n (.ref a) (.ref b) true:=
 ⟨a,b,xs,ys,rfl,rfl,.inr (.inr ⟨fun _=>true,ha,hb,h,by rw [all_true,hl,beq_self_eq_true]; rfl⟩)⟩
/-- xs == [] -/
theorem RB.nil {K:GP}{H:Hp}{n:Nat}{a b:Addr}{xs:List V}(ha:aw K H a xs)(hb:aw K H b []):RB K H n (.ref a) (.ref b) xs.isEmpty:=by
 cases xs with
 | nil=>exact RB.lst ha hb rfl (fun j x y h=>by simp at h)
 | cons x r=>exact ⟨a,b,_,[],rfl,rfl,.inr (.inl ⟨ha,hb,by simp,rfl⟩)⟩

section
variable {X:Cx}{pos:Pos}
/-! ### (a,b,..)=a list of that length -/
def CJ (K:GP)(n:Nat)(t:TGs):TG:=fun v σ H Q=>∃a xs,v=.ref a/\aw K H a xs/\xs.length=n/\t xs σ H Q
theorem Bg {es:List Expr}{k:Nat}{t:TGs}{n:Nat}(hc:X.calm=true)(h:Cb X es t)
   (hn:(assignEach es X.env).length=n:=by rfl) (hst:(assignEach es X.env).findIdx? (·.1)=none:=by rfl):PG X (.Tuple es k pos) (CJ X.K n t):=by
 intro pins s σ H v u Q I r hw
 obtain ⟨a,xs,e1,hq,hl,hw⟩:=hw
 subst e1
 cases r
 obtain ⟨its,rv,ht,hz⟩:=I.list hq
 have hlen:=rv.length
 rw [assign_Tuple]
 refine wpAny_bind (wpAny_standAt ?_)
 unfold unpack
 rw [show (assignEach es X.env).length=its.toArray.size by simp [hn,← hl,hlen],hst]
 refine wpAny_bind (wpAny_holding (PySem.W.kun_itemsOf (I.ok.hd hc) ht.isList fun h' hx=>?_))
 have I1:Inv X pins σ H { s with heap:=h' }:=I.kept (t':=s.toks) fun b o e=>hx b o (HE (G6 e)) e
 exact h pins _ σ H xs _ Q I1 (by simpa using rv) hw
/-! ### greater numbers -/
def yQ (i j:Int):Prop:=0 < j/\j < 2 ^ 1000
theorem uY:eW X (binaryOp .FloorDiv) (rI yQ fun i j=>.int (i / j)):=Di fun i j _ _ _ _ _ hc q=>by
 have h1:(0:Int) < j:=hc.1
 have h2:j < 2 ^ 1000:=hc.2
 have h3:j.natAbs < 2 ^ 1000:=by omega
 exact floordiv_int (by omega) (by rw [Kq i (by omega)]; exact q) (.inl (PyProof.noPylong_of_log2 (Hn ((Nat.log2_lt (by omega)).mpr h3) (by decide))))
/-! ### isinstance(x,T),T a built-in type -/
theorem sk:bZ X (.builtin "isinstance") (fun xs H Q=>∃x n t b,xs=[x,.ty n]/\TyOf X.K H x t/\Jy X.K t (.type n)=some b/\Q (.bl b) H):=by
 intro pins s σ H xs us Q I r h
 obtain ⟨x,n,t,b,rfl,ty,e,q⟩:=h
 obtain ⟨u,v,rfl,ru,rv⟩:=Vals.two r
 obtain rfl:v=IZ n:=rv
 exact qT I ru ty e fun tk=>⟨.bl b,H,I.tok tk,rfl,q⟩
end
end L2
set_option Elab.async false
set_option linter.all false
set_option maxRecDepth 100000
namespace TW
open PySem L2

/-! ### sums and conditions,as data and in the heap -/
inductive K2 where
 | plus | less | same | under | both
def K2.str:K2->Str
 | .plus=>"plus" | .less=>"less" | .same=>"same" | .under=>"under" | .both=>"both"
inductive E where
 | num (n:Int) | box (tag x:Str) | yes | nt (a:E) | two (k:K2) (a b:E)
def Tp (H:Hp)(v:V)(xs:List V):Prop:=∃p,v=.ref p/\H p=some (.tup xs)
def bL (H:Hp):V->E->Prop
 | v,.num n=>Tp H v [.str "number",.int n]
 | v,.box t x=>Tp H v [.str t,.str x]
 | v,.yes=>Tp H v [.str "yes"]
 | v,.nt a=>∃x,Tp H v [.str "not",x]/\bL H x a
 | v,.two k a b=>∃x y,Tp H v [.str k.str,x,y]/\bL H x a/\bL H y b
/-- tuples stay -/
def TK (H H':Hp):Prop:=∀b xs,H b=some (.tup xs)->H' b=some (.tup xs)
theorem TK.trans {A B C:Hp}(a:TK A B)(b:TK B C):TK A C:=fun c o h=>b c o (a c o h)
theorem Tp.keep {H H':Hp}{v:V}{xs:List V}(k:TK H H')(h:Tp H v xs):Tp H' v xs:=let ⟨p,e,q⟩:=h; ⟨p,e,k p xs q⟩
theorem bL.keep {H H':Hp}(k:TK H H'):∀{e:E} {v:V},bL H v e->bL H' v e
 | .num _,_,h=>Tp.keep k h
 | .box _ _,_,h=>Tp.keep k h
 | .yes,_,h=>Tp.keep k h
 | .nt _,_,⟨x,h,a⟩=>⟨x,h.keep k,bL.keep k a⟩
 | .two _ _ _,_,⟨x,y,h,a,b⟩=>⟨x,y,h.keep k,bL.keep k a,bL.keep k b⟩
def E.dep:E->Nat
 | .num _=>0 | .box _ _=>0 | .yes=>0 | .nt a=>a.dep + 1 | .two _ a b=>max a.dep b.dep + 1
/-- a sum,a condition -/
def E.isS:E->Prop
 | .num _=>True
 | .box _ _=>True
 | .two .plus a b=>a.isS/\b.isS
 | .two .less a b=>a.isS/\b.isS
 | _=>False
def E.isC:E->Prop
 | .yes=>True
 | .nt a=>a.isC
 | .two .same a b=>a.isS/\b.isS
 | .two .under a b=>a.isS/\b.isS
 | .two .both a b=>a.isC/\b.isC
 | _=>False
/-- each box is one of these -/
def E.okIn (P:Str->Str->Prop):E->Prop
 | .num n=>n.natAbs < 2 ^ 100 | .box t x=>P t x | .yes=>True | .nt a=>a.okIn P | .two _ a b=>a.okIn P/\b.okIn P
/-! ### nodes -/
/-! ### the deck,and what stays -/
def Kp (d:Addr)(H H':Hp):Prop:=∀b o,H b=some o->b≠d->H' b=some o
theorem Kp.refl {d:Addr}(H:Hp):Kp d H H:=fun _ _ h _=>h
theorem Kp.trans {d:Addr}{A B C:Hp}(a:Kp d A B)(b:Kp d B C):Kp d A C:=fun c o h n=>b c o (a c o h n) n
theorem Kp.new {d:Addr}{H H':Hp}{p:Addr}{o:HO}(k:Kp d H H')(h:H' p=none):Kp d H (upd H' p o):=fun b u e n=>by
 rw [aj (ai (k b u e n) h)]; exact k b u e n
theorem Kp.self {d:Addr}{H H':Hp}{o:HO}(k:Kp d H H'):Kp d H (upd H' d o):=fun b u e n=>by rw [aj n]; exact k b u e n
theorem Kp.same {d:Addr}{H H1 H2:Hp}(k:Kp d H H1)(s:ah H1 H2):Kp d H H2:=fun b u e n=>s b u (k b u e n)
theorem ag {H:Hp}{p:Addr}(h:H p=none)(o:HO):ah H (upd H p o):=fun b u q=>by rw [aj (ai q h)]; exact q
theorem ah.tk {H H':Hp}(s:ah H H'):TK H H':=fun b xs h=>s b _ h
theorem jU {H:Hp}{p:Addr}(h:H p=none)(o:HO):TK H (upd H p o):=ah.tk (ag h o)
theorem small {n:Nat}(h:n<=1000):n<=sizeLine:=HV (aM h)

/-! ### programs -/
def bT (H:Hp)(v:V)(b:Str×Int):Prop:=Tp H v [.str b.1,.int b.2]
/-- boxes as the law draws them -/
structure oS (bs:List (Str×Int)):Prop where
 nd:(bs.map (·.1)).Nodup
 sz:∀b∈bs,1<=b.2/\b.2<=16
 len:bs.length<=4
end TW
set_option Elab.async false
set_option linter.all false
set_option maxRecDepth 100000
set_option exponentiation.threshold 4000
namespace TW
open PySem L2
/-! ### defs of the text,with their promises -/
def Src (K:GP)(mg:Str->Option Value)(x:Str)(st:Stmt):Prop:=∃f fd,bI K x x st f fd/\mg x=some (.ref f)
def aJ (P:Program)(w:World)(K:GP)(mg:Str->Option Value)(base:Heap)(x:Str)(ps:List Str)(k:Nat)(sp:Sp):Prop:=
 ∃f fd,aL P w K mg base CX0 k f fd ps sp/\IA K (.ref f)=true/\Binds K fd ps []/\mg x=some (.ref f)
theorem aJ.mono {P:Program}{w:World}{K:GP}{mg:Str->Option Value}{base:Heap}{x:Str}{ps:List Str}{j k:Nat}{sp:Sp}(h:aJ P w K mg base x ps j sp)(hk:j<=k):aJ P w K mg base x ps k sp:=
 let ⟨f,fd,a,b,c,d⟩:=h; ⟨f,fd,a.mono hk,b,c,d⟩
/-! ### small facts -/
theorem eC {α:Type}(f:α->V)(xs:List α){r:Int}(h0:0<=r)(h1:r < (xs.length:Int)):∃x∈xs,ig (xs.map f) r=some (f x):=by
 have hr:r.toNat < xs.length:=by omega
 have e:r=((r.toNat:Nat):Int):=by omega
 have q:ig (xs.map f) ((r.toNat:Nat):Int)=some (f xs[r.toNat]):=cA (by rw [HR,G3 hr]; rfl)
 rw [← e] at q
 exact ⟨xs[r.toNat],List.getElem_mem hr,q⟩
theorem cO {A:Around}{k:Nat}(hr:bP k A)(m:Nat)(hm:m<=64):A.units + m < cLine:=by have:=hr.units; omega
end TW
set_option Elab.async false
set_option linter.all false
set_option maxRecDepth 100000
namespace L2
open PySem PySem.Spec PyProof.Rows
/-! ### arguments: that none is starred,once for each kind of expression -/
structure bG (e:Expr):Prop where
 h:∀(es:List Expr) (env:Env),starEach (e :: es) env=(false,eval e env) :: starEach es env
theorem fW {e:Expr}(h:∀x p,e≠.Starred x p):bG e:=⟨fun es env=>by
 cases e <;> first | rfl | exact absurd rfl (h _ _)⟩
theorem m8 {c k p}:bG (.Constant c k p):=fW fun _ _ z=>nomatch z
theorem lS {x p}:bG (.Name x p):=fW fun _ _ z=>nomatch z
theorem lR {f a k p}:bG (.Call f a k p):=fW fun _ _ z=>nomatch z
theorem uz {a o b p}:bG (.BinOp a o b p):=fW fun _ _ z=>nomatch z
theorem oC {a b p}:bG (.Subscript a b p):=fW fun _ _ z=>nomatch z
theorem uE {a b p}:bG (.Tuple a b p):=fW fun _ _ z=>nomatch z
theorem uD {a p}:bG (.List a p):=fW fun _ _ z=>nomatch z
theorem uA {a b c p}:bG (.Compare a b c p):=fW fun _ _ z=>nomatch z
theorem za {a b c p}:bG (.ListComp a b c p):=fW fun _ _ z=>nomatch z
def fo (es:List Expr):Prop:=∀(pos:Pos) (env:Env),(backTo pos (starEach es env)).any (·.1)=false
theorem xl:fo []:=fun _ _=>rfl
theorem uF {e:Expr}{es:List Expr}(h:bG e)(hs:fo es):fo (e :: es):=fun pos env=>by
 rw [h.h es env]
 exact hs pos env
structure p8 (X:Cx)(es:List Expr)(t:TA):Prop where
 pa:PA X es t
 ns:∀e r,es=e :: r->bG e/\fo r
 nss:fo es
section
variable {X:Cx}{e:Expr}{es:List Expr}{te:TE}{t:TA}{pos:Pos}
theorem an:p8 X [] vV:=⟨A0,(fun _ _ z=>nomatch z),xl⟩
theorem ac (ha:PE X e te)(hr:p8 X es t)
   (hs:bG e:=by first | exact m8 | exact lS | exact lR | exact uz | exact oC | exact uE | exact uD | exact uA | exact za | exact ns_dc | exact ns_un | exact ns_bool | exact ns_attr):p8 X (e :: es) (vT te t):=
 ⟨xR ha hr.pa (hs.h es X.env),fun e' r z=>by injection z with z1 z2; subst z1 z2; exact ⟨hs,hr.nss⟩,uF hs hr.nss⟩
theorem Fx {x1}(h:p8 X es t):PE X (.Tuple es x1 pos) (B0 t):=Bd h.pa
theorem Fv (h:p8 X es t):PE X (.List es pos) (BY t):=A9 h.pa
theorem B4 {x:Str}{p:Pos}{id:String}{r:List V->Hp->VK->Prop}(hc:bZ X (.builtin id) r)(hg:Gl X x)(hm:X.mg x=none)(hv:bootBuiltins x=some (.builtin id))(ha:p8 X (e :: es) t)(hn:x≠"__name__":=by decide)(hdb:(x == ("__debug__":Str))=false:=by decide) :
   PE X (.Call (.Name x p) (e :: es) [] pos) (Cp r t):=u5 hc hg hm hv ha.pa hn hdb ((ha.ns e es rfl).1.h es X.env) ((ha.ns e es rfl).2 pos X.env)
theorem B5 {x:Str}{p:Pos}{T:String}{r:List V->Hp->VK->Prop}(hc:bZ X (.type T) r)(hg:Gl X x)(hm:X.mg x=none)(hv:bootBuiltins x=some (.type T))(ha:p8 X (e :: es) t)(hn:x≠"__name__":=by decide)(hdb:(x == ("__debug__":Str))=false:=by decide) :
   PE X (.Call (.Name x p) (e :: es) [] pos) (Cp r t):=rE hc hg hm hv ha.pa hn hdb ((ha.ns e es rfl).1.h es X.env) ((ha.ns e es rfl).2 pos X.env)
theorem Fw {x:Str}{p:Pos}{ps:List Str}{k:Nat}{sp:Sp}(D:TW.aJ X.prog X.w X.K X.mg X.base x ps k sp)(hr:bP k X.A)(hg:Gl X x)(ha:p8 X (e :: es) t)(hdb:(x == ("__debug__":Str))=false:=by decide) :
   PE X (.Call (.Name x p) (e :: es) [] pos) (vS sp [] E0 t):=
 let ⟨_,_,G,kp,b,m⟩:=D
 xT G hr hg m kp b .nil pI ha.pa hdb ((ha.ns e es rfl).1.h es X.env) ((ha.ns e es rfl).2 pos X.env)
theorem yP {tg a:Expr}{ta:TA}{p:Pos}(hg:Gl X "range")(hm:X.mg "range"=none)(ha:p8 X [a] ta):PI X tg (.Call (.Name "range" p) [a] [] pos) (uc ta):=
 rG hg hm ha.pa ((ha.ns a [] rfl).1.h [] X.env)
/-- o.m(e),a builtin's method -/
theorem Fu {o:Expr}{name:Str}{apos:Pos}{T id:String}{r:V->List V->Hp->VK->Prop}{to:TE}(pa:PlainAttrs T)(slot:Slot T name id)(hty:typeOf (.builtin id)=pure (.type "method_descriptor"))(hm:zB X id r)(ho:PE X o to)(ha:p8 X [e] t)
   (hbase:attributeBase o name X.env (eval o X.env)=eval o X.env:=by rfl) (hline:(apos.endLine == pos.line)=true:=by rfl):PE X (.Call (.Attribute o name apos) [e] [] pos) (BW X.K T r to t):=
 Dr pa slot hty hm ho ha.pa hbase (by rw [(ha.ns e [] rfl).1.h [] X.env]; rfl) hline ((ha.ns e [] rfl).1.h [] X.env) ((ha.ns e [] rfl).2 pos X.env)
end
end L2
set_option Elab.async false
set_option linter.all false
set_option maxRecDepth 100000
/-! THE SEALED JUDGEMENTS: as the layer's,but nothing looks into them while a term of rules is read (an elaborator that opens PE runs the model). -/
namespace L3
open PySem PySem.Spec PyProof.Rows L2
structure SE (X:Cx)(e:Expr)(t:TE):Prop where
 h:PE X e t
structure ST (X:Cx)(e:Expr)(t:TT):Prop where
 h:PT X e t
structure SW (X:Cx)(e:Expr)(t:TT):Prop where
 h:PW X e t
structure SA (X:Cx)(es:List Expr)(t:TA):Prop where
 h:p8 X es t
structure SS (X:Cx)(s:Stmt)(t:TS):Prop where
 h:PS X s t
structure SL (X:Cx)(ss:List Stmt)(t:TS):Prop where
 h:mz X ss t
structure SG (X:Cx)(e:Expr)(t:TG):Prop where
 h:PG X e t
structure Cw (X:Cx)(es:List Expr)(t:TGs):Prop where
 h:Cb X es t
structure SI (X:Cx)(tg iter:Expr)(t:TI):Prop where
 h:PI X tg iter t
structure Cy (X:Cx)(cs:List Expr)(t:TT):Prop where
 h:lh X cs t
structure SO (X:Cx)(f:Value->Value->Sem Value)(r:R2):Prop where
 h:eW X f r
structure SX (X:Cx)(r:R2):Prop where
 h:v8 X r
structure SC (X:Cx)(f:Value)(r:List V->Hp->VK->Prop):Prop where
 h:bZ X f r
structure SM (X:Cx)(id:String)(r:V->List V->Hp->VK->Prop):Prop where
 h:zB X id r
section
variable {X:Cx}{a b c e o:Expr}{es:List Expr}{ta tb tc te:TE}{t:TA}{tA uB:TT}{pos:Pos}{r:R2}
/-! names,constants -/
theorem v (i:Nat){x:Str}(hN:X.N[i]? = some x:=by rfl)(hv:EI X.env.scope x:=by first | exact Or.inl rfl | exact Or.inr (Or.inl rfl) | exact Or.inr (Or.inr rfl))(hd:(x == ("__debug__":Str))=false:=by decide)
   (hcd:(x == ("__classdict__":Str))=false:=by decide):SE X (.Name x pos) (yL i):=⟨Be hN hv hd hcd⟩
theorem int {i j}:SE X (.Constant (.int i) j pos) (tC (.int i)):=⟨A6⟩
theorem bl {k j}:SE X (.Constant (.bool k) j pos) (tC (.bl k)):=⟨Dq⟩
theorem bq {j}:SE X (.Constant .none j pos) (tC .bq):=⟨Ba⟩
theorem str {x j}:SE X (.Constant (.str x) j pos) (tC (.str x)):=⟨vc⟩
theorem glob {x:Str}{w:V}{u:Value}(hg:Gl X x)(hm:X.mg x=some u)(r:RelV w u)(hd:(x == ("__debug__":Str))=false:=by decide):SE X (.Name x pos) (tC w):=⟨xY hg hm r hd⟩
theorem lp {x:Str}{w:V}{u:Value}(hg:Gl X x)(hm:X.mg x=none)(hv:bootBuiltins x=some u)(r:RelV w u)(hn:x≠"__name__":=by decide)(hd:(x == ("__debug__":Str))=false:=by decide):SE X (.Name x pos) (tC w):=⟨xS hg hm hv r hn hd⟩
/-! operations -/
theorem op {k:Operator}(ho:SO X (binaryOp k) r)(ha:SE X a ta)(hb:SE X b tb):SE X (.BinOp a k b pos) (zx r ta tb):=⟨Dv ho.h ha.h hb.h⟩
theorem cmp {k:CmpOp}(ho:SO X (compareOp k) r)(ha:SE X a ta)(hb:SE X b tb)(hm:behindInMarks k b=false:=by exact oA _):ST X (.Compare a [k] [b] pos) (zy (zx r ta tb)):=⟨yk ho.h ha.h hb.h hm⟩
theorem qf {k:CmpOp}(ho:SO X (compareOp k) r)(ha:SE X a ta)(hb:SE X b tb)(hm:behindInMarks k b=false:=by exact oA _):SE X (.Compare a [k] [b] pos) (zx r ta tb):=⟨xU ho.h ha.h hb.h hm⟩
theorem aW:SO X (binaryOp .Add) (rZ fun i j=>.int (i + j)):=⟨AI⟩
theorem jD:SO X (binaryOp .Sub) (rZ fun i j=>.int (i - j)):=⟨AY⟩
theorem bU:SO X (binaryOp .Mult) (rI wg fun i j=>.int (i * j)):=⟨AU⟩
theorem aQ:SO X (binaryOp .Mod) (rI (fun _ j=>0 < j) fun i j=>.int (i % j)):=⟨AR⟩
theorem bw:SO X (binaryOp .FloorDiv) (rI yQ fun i j=>.int (i / j)):=⟨uY⟩
theorem jC:SO X (binaryOp .Pow) (rI Cq fun i j=>.int (i ^ j.toNat)):=⟨AW⟩
theorem jA:SO X (binaryOp .Add) DH:=⟨AJ⟩
theorem bc:SO X (compareOp .Eq) FT:=⟨Dk⟩
theorem jB:SO X (compareOp .NotEq) FU:=⟨Dp⟩
theorem lU:SO X (compareOp .Lt) (rZ fun i j=>.bl (decide (i < j))):=⟨Dn⟩
theorem oE:SO X (compareOp .Gt) (rZ fun i j=>.bl (decide (j < i))):=⟨Dm⟩
theorem Ax:SO X (compareOp .GtE) (rZ fun i j=>.bl (decide (j<=i))):=⟨Dl⟩
theorem nc {KK:GP}{m:Nat}(hu:X.A.units + (m + 1) < cLine)(hK:X.K=KK:=by first | exact cxC_K | rfl):SO X (compareOp .Eq) (fun x y H Q=>∃b,RB KK H m x y b/\Q (.bl b) H):=by
 subst hK
 exact ⟨AK hu⟩
theorem kX {KK:GP}{m:Nat}(hu:X.A.units + (m + 1) < cLine)(hK:X.K=KK:=by first | exact cxC_K | rfl):SO X (compareOp .NotEq) (fun x y H Q=>∃b,RB KK H m x y b/\Q (.bl (!b)) H):=by
 subst hK
 exact ⟨AV hu⟩
theorem xo {KK:GP}(hK:X.K=KK:=by first | exact cxC_K | rfl):SO X (compareOp .In) (Es KK false):=by
 subst hK
 exact ⟨rC⟩
theorem iJ {KK:GP}(hK:X.K=KK:=by first | exact cxC_K | rfl):SO X (compareOp .NotIn) (Es KK true):=by
 subst hK
 exact ⟨lW⟩
theorem C2:SO X (compareOp .Is) (fun x y H Q=>y=.bq/\Q (.bl (decide (x=.bq))) H):=⟨AN⟩
theorem ES (hu:X.A.units + 1 < cLine)(hi:SE X a ta)(ho:SE X b tb)(h1:behindInMarks .In b=false:=by first | exact nobehind _ (by decide) (by decide) | rfl):SE X (.Compare a [.In] [b] pos) (D6 ta tb):=⟨A4 (A1 hu hi.h ho.h) h1⟩
/-! and,or,not -/
theorem wc {rest:List Expr}(ha:ST X a tA)(hb:SW X (.BoolOp .Or (b :: rest) pos) uB):SW X (.BoolOp .Or (a :: b :: rest) pos) (F0 tA uB):=⟨DE ha.h hb.h⟩
theorem xQ (ha:ST X a tA):SW X (.BoolOp .Or [a] pos) tA:=⟨Bz ha.h⟩
theorem i7 {rest:List Expr}(ha:ST X a tA)(hb:SW X (.BoolOp .And (b :: rest) pos) uB):SW X (.BoolOp .And (a :: b :: rest) pos) (D3 tA uB):=⟨By ha.h hb.h⟩
theorem i6 (ha:ST X a tA):SW X (.BoolOp .And [a] pos) tA:=⟨yl ha.h⟩
theorem tw (h:SW X e tA):ST X e tA:=⟨h.h.pt⟩
theorem nt (ha:ST X a tA):ST X (.UnaryOp .Not a pos) (Ed tA):=⟨Bw ha.h⟩
theorem j9 (h:SE X e te)(he:∀whole,isTrue e X.env whole=(do let v ← whole; standAt e.pos; holding [v] (truthy v)):=by intro _; rfl):ST X e (tB te):=⟨Bx h.h he⟩
/-! items,slices,displays -/
theorem ix (hr:SX X r)(ha:SE X a ta)(hb:SE X b tb)(hs:oU b:=by exact fun _ _=>rfl):SE X (.Subscript a b pos) (zx r ta tb):=⟨Ds hr.h ha.h hb.h hs⟩
theorem eT {KK:GP}(hK:X.K=KK:=by first | exact cxC_K | rfl):SX X (BA KK):=by
 subst hK
 exact ⟨pG⟩
theorem bM {KK:GP}(hK:X.K=KK:=by first | exact cxC_K | rfl):SX X (BB KK):=by
 subst hK
 exact ⟨ug⟩
theorem ER (hu:X.A.units + 1 < cLine)(ho:SE X a ta)(hi:SE X b tb)(hs:r6 b:=by exact fun _ _=>rfl):SE X (.Subscript a b pos) (zm ta tb):=⟨xW hu ho.h hi.h hs⟩
theorem DZ {KK:GP}{p2:Pos}(ha:SE X a ta)(hb:SE X b tb)(hK:X.K=KK:=by first | exact cxC_K | rfl):SE X (.Subscript a (.Slice (some b) none none p2) pos) (BZ (BC KK) ta (gk tb) gj):=by
 subst hK
 exact ⟨df vO ha.h (cI hb.h) iK⟩
theorem DY {KK:GP}{p2:Pos}(ha:SE X a ta)(hb:SE X b tb)(hK:X.K=KK:=by first | exact cxC_K | rfl):SE X (.Subscript a (.Slice none (some b) none p2) pos) (BZ (yn KK) ta gj (gk tb)):=by
 subst hK
 exact ⟨df ma ha.h iK (cI hb.h)⟩
theorem n:SA X [] vV:=⟨an⟩
theorem k (ha:SE X e te)(hr:SA X es t)(hs:bG e:=by first | exact m8 | exact lS | exact lR | exact uz | exact oC | exact uE | exact uD | exact uA | exact za | exact ns_dc | exact ns_un | exact ns_bool | exact ns_attr) :
   SA X (e :: es) (vT te t):=⟨ac ha.h hr.h hs⟩
theorem tup {x1}(h:SA X es t):SE X (.Tuple es x1 pos) (B0 t):=⟨Fx h.h⟩
theorem lst (h:SA X es t):SE X (.List es pos) (BY t):=⟨Fv h.h⟩
/-! calls -/
theorem aU {x:Str}{p:Pos}{id:String}{rr:List V->Hp->VK->Prop}(hc:SC X (.builtin id) rr)(hg:Gl X x)(hm:X.mg x=none)(hv:bootBuiltins x=some (.builtin id))(ha:SA X (e :: es) t)(hn:x≠"__name__":=by decide)(hdb:(x == ("__debug__":Str))=false:=by decide) :
   SE X (.Call (.Name x p) (e :: es) [] pos) (Cp rr t):=⟨B4 hc.h hg hm hv ha.h hn hdb⟩
theorem bO {x:Str}{p:Pos}{T:String}{rr:List V->Hp->VK->Prop}(hc:SC X (.type T) rr)(hg:Gl X x)(hm:X.mg x=none)(hv:bootBuiltins x=some (.type T))(ha:SA X (e :: es) t)(hn:x≠"__name__":=by decide)(hdb:(x == ("__debug__":Str))=false:=by decide) :
   SE X (.Call (.Name x p) (e :: es) [] pos) (Cp rr t):=⟨B5 hc.h hg hm hv ha.h hn hdb⟩
theorem own {x:Str}{p:Pos}{ps:List Str}{kk:Nat}{sp:Sp}(D:TW.aJ X.prog X.w X.K X.mg X.base x ps kk sp)(hr:bP kk X.A)(hg:Gl X x)(ha:SA X (e :: es) t)(hdb:(x == ("__debug__":Str))=false:=by decide) :
   SE X (.Call (.Name x p) (e :: es) [] pos) (vS sp [] E0 t):=⟨Fw D hr hg ha.h hdb⟩
theorem En {KK:GP}{name:Str}{apos:Pos}{T id:String}{rr:V->List V->Hp->VK->Prop}(pa:PlainAttrs T)(slot:Slot T name id)(hty:typeOf (.builtin id)=pure (.type "method_descriptor"))(hm:SM X id rr)(ho:SE X o ta)(ha:SA X [e] t)
   (hbase:attributeBase o name X.env (eval o X.env)=eval o X.env:=by rfl) (hline:(apos.endLine == pos.line)=true:=by rfl) (hK:X.K=KK:=by first | exact cxC_K | rfl):SE X (.Call (.Attribute o name apos) [e] [] pos) (BW KK T rr ta t):=by
 subst hK
 exact ⟨Fu pa slot hty hm.h ho.h ha.h hbase hline⟩
theorem append {KK:GP}{apos:Pos}(ho:SE X o ta)(ha:SA X [e] t)(hbase:attributeBase o "append" X.env (eval o X.env)=eval o X.env:=by rfl)(hline:(apos.endLine == pos.line)=true:=by rfl)(hK:X.K=KK:=by first | exact cxC_K | rfl):SE X (.Call (.Attribute o "append" apos) [e] [] pos) (BW KK "list" pO ta t):=by
 subst hK
 exact En Jh PySem.F.slot_list_append PySem.F.type_list_append ⟨kU⟩ ho ha hbase hline
theorem DA {KK:GP}{apos:Pos}(ho:SE X o ta)(ha:SA X [e] t)(hbase:attributeBase o "pop" X.env (eval o X.env)=eval o X.env:=by rfl)(hline:(apos.endLine == pos.line)=true:=by rfl)(hK:X.K=KK:=by first | exact cxC_K | rfl):SE X (.Call (.Attribute o "pop" apos) [e] [] pos) (BW KK "list" vw ta t):=by
 subst hK
 exact En Jh Kx Kv ⟨ur⟩ ho ha hbase hline
theorem a9 {KK:GP}(hK:X.K=KK:=by first | exact cxC_K | rfl):SC X (.builtin "len") (fun xs H Q=>∃p ys,xs=[.ref p]/\(aw KK H p ys\/aC KK H p ys)/\Q (.int ys.length) H):=by
 subst hK
 exact ⟨lu⟩
theorem gv {KK:GP}(hK:X.K=KK:=by first | exact cxC_K | rfl):SC X (.type "list") (fun xs H Q=>∃p ys,xs=[.ref p]/\(aw KK H p ys\/aC KK H p ys)/\∀l,H l=none->Q (.ref l) (upd H l (.lst ys))):=by
 subst hK
 exact ⟨lA⟩
theorem yS:SC X (.type "int") (fun xs H Q=>(∃i,xs=[.int i]/\Q (.int i) H)\/∃k,xs=[.bl k]/\Q (.int (if k then 1 else 0)) H):=⟨qa⟩
/-! targets -/
theorem gn (i:Nat){x:Str}(hN:X.N.Nodup)(hi:X.N[i]? = some x:=by rfl)(hx:Loc X.env.scope x:=by first | exact Or.inl rfl | exact Or.inr rfl)(hf:X.fn x=true\/X.env.scope.names.lookup x=some .local:=by first | exact .inl rfl | exact .inr rfl):SG X (.Name x pos) (eR i):=⟨x6 hN hi hx hf⟩
theorem lI:Cw X [] CK:=⟨x9⟩
theorem cV {t:TG}{u:TGs}(h1:SG X e t)(h2:Cw X es u)(hs:(assignEach (e :: es) X.env).map (·.2)=assign e X.env :: (assignEach es X.env).map (·.2):=by rfl):Cw X (e :: es) (yU t u):=⟨vd h1.h h2.h hs⟩
theorem fi {KK:GP}{kk:Nat}{t:TGs}(m:Nat)(h:Cw X es t)(hc:X.calm=true:=by rfl)(hn:(assignEach es X.env).length=m:=by rfl)(hst:(assignEach es X.env).findIdx? (·.1)=none:=by rfl)(hK:X.K=KK:=by first | exact cxC_K | rfl):SG X (.Tuple es kk pos) (CM KK m t):=by
 subst hK
 exact ⟨Bk hc h.h hn hst⟩
theorem wQ {KK:GP}{kk:Nat}{t:TGs}(m:Nat)(h:Cw X es t)(hc:X.calm=true:=by rfl)(hn:(assignEach es X.env).length=m:=by rfl)(hst:(assignEach es X.env).findIdx? (·.1)=none:=by rfl)(hK:X.K=KK:=by first | exact cxC_K | rfl):SG X (.Tuple es kk pos) (CJ KK m t):=by
 subst hK
 exact ⟨Bg hc h.h hn hst⟩
/-! what is walked -/
theorem iL {KK:GP}{tg:Expr}(h:SE X a ta)(hK:X.K=KK:=by first | exact cxC_K | rfl):SI X tg a (yX KK ta):=by
 subst hK
 exact ⟨yb h.h⟩
theorem iT {KK:GP}{tg:Expr}(h:SE X a ta)(hK:X.K=KK:=by first | exact cxC_K | rfl):SI X tg a (CS KK ta):=by
 subst hK
 exact ⟨Bm h.h⟩
theorem iR {tg:Expr}{p:Pos}(hg:Gl X "range")(hm:X.mg "range"=none)(ha:SA X [a] t):SI X tg (.Call (.Name "range" p) [a] [] pos) (uc t):=⟨yP hg hm ha.h⟩
theorem iG:Cy X [] BX:=⟨Fg⟩
theorem if1 (h:ST X a tA):Cy X [a] tA:=⟨Fh h.h⟩
/-! comprehensions -/
theorem lc {tg iter elt:Expr}{ifs:List Expr}{sc:Scope}{wi:TI}{g:TG}{tifs:TT}(src:List (Option Nat))(N':List Str)(S:az sc X.env.scope)(hcap:bV sc src N' X.N=true)(hi:SI X tg iter wi)
   (hb:∀s H C fp xe,SG (eL X N' sc s H C fp xe) tg g/\Cy (eL X N' sc s H C fp xe) ifs tifs/\SE (eL X N' sc s H C fp xe) elt te) (hc:X.calm=true:=by rfl)
   (hs:∀x,foldedSetIterable iter X.env x=pure x:=by intro _; rfl):SE X (.ListComp elt [⟨tg,iter,ifs,0⟩] sc pos) (ef src (.lst []) wi g tifs (bS te)):=
 ⟨Du src N' hc S hcap hi.h (fun s H C fp xe=>⟨(hb s H C fp xe).1.h,(hb s H C fp xe).2.1.h,(hb s H C fp xe).2.2.h⟩) hs⟩
theorem yy {tg iter elt:Expr}{ifs:List Expr}{sc:Scope}{wi:TI}{g:TG}{tifs:TT}{i:Nat}{x:Str}{pos' pos2:Pos}(src:List (Option Nat))(N':List Str)(S:az sc X.env.scope)(hcap:bV sc src N' X.N=true)(hi:SI X tg iter wi)
   (hb:∀s H C fp xe,SG (eL X N' sc s H C fp xe) tg g/\Cy (eL X N' sc s H C fp xe) ifs tifs/\SE (eL X N' sc s H C fp xe) elt te) (hN:X.N.Nodup) (hix:X.N[i]? = some x:=by rfl) (hx:Loc X.env.scope x:=by exact Or.inl rfl)
   (hsw:swapsWith (.ListComp elt [⟨tg,iter,ifs,0⟩] sc pos) (some (.Name x pos')) pos2.line X.env=pure true:=by rfl) (hc:X.calm=true:=by rfl)
   (hs:∀x,foldedSetIterable iter X.env x=pure x:=by intro _; rfl) (hf:X.fn x=true\/X.env.scope.names.lookup x=some .local:=by first | exact .inl rfl | exact .inr rfl) :
   SS X (.Assign [.Name x pos'] (.ListComp elt [⟨tg,iter,ifs,0⟩] sc pos) pos2) (nu (ef src (.lst []) wi g tifs (bS te)) (eR i)):=
 ⟨DD src N' hc S hcap hi.h (fun s H C fp xe=>⟨(hb s H C fp xe).1.h,(hb s H C fp xe).2.1.h,(hb s H C fp xe).2.2.h⟩) hN hix hx hsw hs hf⟩
/-! statements -/
variable {st:Stmt}{rest:List Stmt}{u1 u2:TS}
theorem nil:SL X [] zu:=⟨yi⟩
theorem cons (h1:SS X st u1)(h2:SL X rest u2):SL X (st :: rest) (g6 u1 u2):=⟨vp h1.h h2.h⟩
theorem one (h1:SS X st u1):SL X [st] u1:=⟨yj h1.h⟩
theorem never:SL X rest vU:=⟨rK⟩
theorem ret (he:SE X e te):SS X (.Return (some e) pos) (Ee te):=⟨Bu he.h⟩
theorem ex (he:SE X e te)(hs:swapsWith e none pos.line X.env=pure false:=by rfl):SS X (.Expr e pos) (zp te):=⟨yh he.h hs⟩
theorem ifs {tc:TT}{x y:List Stmt}(hc:ST X c tc)(ha:SL X x u1)(hb:SL X y u2):SS X (.If c x y pos) (Ea tc u1 u2):=⟨DC hc.h ha.h hb.h⟩
theorem set (i:Nat){x:Str}{pos':Pos}(hN:X.N.Nodup)(he:SE X e te)(hi:X.N[i]? = some x:=by rfl)(hx:Loc X.env.scope x:=by first | exact Or.inl rfl | exact Or.inr rfl)(hs:swapsWith e (some (.Name x pos')) pos.line X.env=pure false:=by rfl)(hf:X.fn x=true\/X.env.scope.names.lookup x=some .local:=by first | exact .inl rfl | exact .inr rfl) :
   SS X (.Assign [.Name x pos'] e pos) (nu te (eR i)):=⟨Bv hN hi hx he.h hs hf⟩
theorem asg {tg:Expr}{g:TG}(he:SE X e te)(hg:SG X tg g)(hs:swapsWithSole [tg] e pos.line X.env=pure false:=by rfl)(hw:swappedStores [tg] e X.env=pure none:=by rfl)
   (h1:(assignEach [tg] X.env).map (·.2)=[assign tg X.env]:=by rfl):SS X (.Assign [tg] e pos) (nu te g):=⟨Bq he.h hg.h hs hw h1⟩
theorem eZ {tg iter:Expr}{body:List Stmt}{wi:TI}{g:TG}(hi:SI X tg iter wi)(hg:SG X tg g)(hb:SL X body u1)(hp:PassesOwn (model X.prog X.w) X.A X.env X.xe:=by exact KR)(hc:X.calm=true:=by rfl)
   (hs:∀x,foldedSetIterable iter X.env x=pure x:=by intro _; rfl):SS X (.For tg iter body [] pos) (D8 wi g u1):=⟨Bt hp hc hi.h hg.h hb.h hs⟩
theorem run {ss:List Stmt}{u:TS}(h:SL X ss u):mz X ss u:=h.h
end
end L3
set_option Elab.async false
set_option linter.all false
set_option maxRecDepth 100000
namespace L3
open PySem PySem.Spec PyProof.Rows L2
section
variable {X:Cx}{a b c e o:Expr}{es:List Expr}{ta tb tc te:TE}{t:TA}{tA uB:TT}{pos:Pos}{r:R2}
theorem neg (ha:SE X a ta):SE X (.UnaryOp .USub a pos) (F1 (rU fun i=>.int (-i)) ta):=⟨Dw B3 ha.h⟩
theorem Gw (ha:SE X a ta):SE X (.UnaryOp .Not a pos) (zv ta):=⟨Bb ha.h⟩
theorem se {rest:List Expr}(ha:SE X a ta)(hb:SE X (.BoolOp .And (b :: rest) pos) tb):SE X (.BoolOp .And (a :: b :: rest) pos) (zl ta tb):=⟨A2 ha.h hb.h⟩
theorem Dh {op}(ha:SE X a ta):SE X (.BoolOp op [a] pos) ta:=⟨Bc ha.h⟩
theorem Cj (hc:ST X c tA)(ha:SE X a ta)(hb:SE X b tb):SE X (.IfExp c a b pos) (FY tA ta tb):=⟨u7 hc.h ha.h hb.h⟩
theorem uJ:SO X (compareOp .IsNot) (fun x y H Q=>y=.bq/\Q (.bl (!decide (x=.bq))) H):=⟨xP⟩
end
end L3
set_option Elab.async false
set_option linter.all false
set_option maxRecDepth 100000
namespace L2
open PySem PySem.Spec PyProof.Rows
/-! ### len(set(xs)),xs a list of unlike texts -/
def j7 (nm:Nat->Str)(i:Nat):Str->Bool:=fun x=>(IT i).any fun j=>decide (x=nm j)
theorem q5 (nm:Nat->Str)(i:Nat)(x:Str):j7 nm (i + 1) x=(j7 nm i x || decide (x=nm i)):=by
 unfold j7
 rw [List.range_succ,List.any_append]
 simp
theorem uq {nm:Nat->Str}{n i:Nat}(inj:∀a b,a < n->b < n->nm a=nm b->a=b)(hi:i < n):j7 nm i (nm i)=false:=by
 unfold j7
 rw [JW]
 intro j hj
 have hj':j < i:=List.mem_range.mp hj
 have:¬ nm i=nm j:=fun e=>by have:=inj i j hi (by omega) e; omega
 simpa using this
section
variable {P:Program}{w:World}{A:Around}
theorem setLoop {it:Addr}{own wrt:List Addr}{GG:Array GenState->Array GenState->Prop}{n:Nat}{Pv:Nat->Value->Prop}{Zt:Nat->Shared->Prop}{RR:Result->Shared->Prop}
   (wk:WalksS P w A.in1 it own wrt GG n Pv Zt) (z:Addr) (hz:z ∉ own) (nm:Nat->Str) (hnm:∀i v,Pv i v->∃t,v=IU (nm i) t) (inj:∀a b,a < n->b < n->nm a=nm b->a=b) (few:n + 1 < scanBound) :
   ∀(m i:Nat) (s:Shared),n - i=m->i<=n->Zt i s->s.heap.SetOf (strKind P w) z (j7 nm i) i ->
     (∀t,Moved (z :: wrt) GG s t->t.heap.SetOf (strKind P w) z (j7 nm n) n->RR (.ok (.ret .none)) t)->codeAny (model P w) A (.builtin "set.update.loop" ⟨[.ref z,.ref it],[]⟩) RR s:=by
 intro m
 induction m using Nat.strongRecOn with
 | _ m ih=>
   intro i s hm hi zt so k
   have zw:z ∉ wrt:=fun q=>hz (wk.sub _ q)
   have more:∀b∈wrt,b∈z :: wrt:=fun b q=>G0 _ q
   have carry:∀{t:Shared} {S:Str->Bool} {c:Nat},Moved wrt GG s t->s.heap.SetOf (strKind P w) z S c->t.heap.SetOf (strKind P w) z S c:=fun mv ⟨o,es,ep,tb,ho,rest⟩=>⟨o,es,ep,tb,mv.heap z _ zw ho,rest⟩
   refine codeAny_builtin PyProof.Rows.F.entry_set_update_loop ?_
   rw [Around.under_plainId Jj _]
   show wpAny _ A.in1 (pyNext (.ref it) >>= _) _ _ s
   by_cases hlt:i < n
   · refine wpAny_bind (wk.item i s _ _ hlt zt fun v t pv zt' mv=>?_)
     obtain ⟨tk,rfl⟩:=hnm i v pv
     show wpAny _ A.in1 (holding [IU (nm i) tk] (setAdd z (.str (nm i) tk)) >>= _) _ _ t
     refine wpAny_bind (wpAny_holding ?_)
     unfold setAdd
     have sc:=carry mv so
     refine wpAny_holding (wpAny_bind ((strKind P w).pyHash (k:=nm i) (strKind_is _ _ _ _) ?_))
     refine wpAny_setAddHashed_of (knd:=strKind P w) (s:={ t with toks:=t.toks + 1 }) (strKind_is _ _ _ _) rfl sc (by omega) fun g sb so2=>?_
     have so3:g.SetOf (strKind P w) z (j7 nm (i + 1)) (i + 1):=SetOf_congr so2 (fun x=>(q5 nm i x).symm) (by rw [uq inj hlt]; rfl)
     refine wpAny_pure ⟨plainId_quiet Jj _,ih (n - (i + 1)) (by omega) (i + 1) _ rfl hlt (wk.frame _ t _ _ zt' (JS _) fun b hb o e=>?_) so3 fun t' mv' so'=>?_⟩
     · rw [sb.2 b (fun q:b=z=>hz (by rw [← q]; exact hb))]
       exact e
     · refine k t' (Moved.trans wk.gtrans ((mv.mono more).then_heap (JS _) fun b o hb e=>?_) mv') so'
       rw [sb.2 b (fun q:b=z=>hb (by rw [q]; exact GZ))]
       exact e
   · obtain rfl:i=n:=by omega
     refine wpAny_bind (wk.done s _ _ zt fun t mv=>?_)
     show wpAny _ A.in1 (ret Ip) _ _ t
     exact wpAny_pure (k t (mv.mono more) (carry mv so))
set_option maxHeartbeats 4000000 in
theorem wA {E:Value->Shared->Prop}{s:Shared}{l:Addr}{its:Array Value}{xs:List Str}{Q:Value->Shared->Prop}(free:A.handled=none)(il:s.heap.IsList l its)(hx:∀i v,its[i]? = some v->∃t,v=IU (xs.getD i "") t)(hlen:its.size=xs.length)(nd:xs.Nodup)(few:its.size + 1 < scanBound)
   (k:∀(g:Heap) (tk:Nat),g.SetOf (strKind P w) s.heap.objs.size (j7 (fun i=>xs.getD i "") its.size) its.size->(∀b o,s.heap.get? b=some o->g.get? b=some o)->Q (.ref s.heap.objs.size) { s with heap:=g,toks:=tk }) :
   wpAny (model P w) A (call (.type "set") [.ref l]) Q E s:=by
 obtain ⟨cc,tl,mro⟩:=F.called_set.mro
 have e1:=F.called_set.made
 have e2:=F.called_set.sub
 refine wpAny_call (codeAny_of_tree ?_)
 show wpAny _ _ (callAny (.type "set") _) _ _ _
 refine wpAny_pure ⟨Code.quiet_builtin _ (by decide +kernel),codeAny_builtin F.entry_type_call ?_⟩
 rw [Around.under_plain (weight_type_call_type "set" [.ref l] []) rfl]
 have e3:=F.called_set.notType
 have e4:=F.called_set.canCreate
 have e5:=F.typeCall_set_1 (.ref l)
 repeat (any_goals (first | assumption | wp_step))
 refine codeAny_mono (code_set_new_1 (.ref l) (E:=E) (Q₁:=fun ob t=>∃b:Bool,ob=.ref s.heap.objs.size/\t={ s with heap:=s.heap.push { cls:=.type "set",dict:=none,data:=.set #[] 0 (.fresh 0 0 b) } }) fun b=>⟨b,rfl,rfl⟩) fun r t hr=>?_
 cases r with
 | error _=>exact hr
 | ok fl=>
   cases fl with
   | ret ob=>
     obtain ⟨b,rfl,rfl⟩:=hr
     have g0:(s.heap.push { cls:=.type "set",dict:=none,data:=.set #[] 0 (.fresh 0 0 b) }).get? s.heap.objs.size=some { cls:=.type "set",dict:=none,data:=.set #[] 0 (.fresh 0 0 b) }:=G9 _ rfl
     have ty:Shared.TypeIs { s with heap:=s.heap.push { cls:=.type "set",dict:=none,data:=.set #[] 0 (.fresh 0 0 b) } } (.ref s.heap.objs.size) "set":=⟨_,g0,rfl⟩
     have f1:=F.called_set.init.lookup
     have f2:=F.called_set.init.bind (.ref s.heap.objs.size)
     repeat (any_goals (first | assumption | wp_step))
     refine codeAny_mono (codeAny_call_builtin (R:=wants (fun r t=>r=.none/\∃g tk,t={ s with heap:=g,toks:=tk }/\g.SetOf (strKind P w) s.heap.objs.size (j7 (fun i=>xs.getD i "") its.size) its.size/\∀c o,s.heap.get? c=some o->g.get? c=some o) E) F.called_set.init.plain F.entry_set_init (check_set_init_1 ty ?_)) fun r2 t2 hr2=>?_
     · obtain ⟨⟨oc,od,oda,osl⟩,ho,hc,nl,hd⟩:=il
       simp only at hc hd
       subst hc
       subst hd
       have ho':(s.heap.push { cls:=.type "set",dict:=none,data:=.set #[] 0 (.fresh 0 0 b) }).get? l=some { cls:=.type "list",dict:=od,data:=.seq its nl,slots:=osl }:=GV _ ho
       have n1:=F.sub_list_set
       have n2:=F.sub_list_frozenset
       have n3:(IZ "list" == IZ "dict")=false:=by decide
       have il':(s.heap.push { cls:=.type "set",dict:=none,data:=.set #[] 0 (.fresh 0 0 b) }).IsList l its:=⟨_,ho',rfl,nl,rfl⟩
       unfold Builtin.«set.__init__» noKeywords Builtin.Frozenset.updateFrom
       generalize hpi:pyIter=itr
       wp_walk
       subst hpi
       refine wpAny_pyIter_list il' ?_
       refine wpAny_bind (wpAny_runValue ?_)
       have ls:l < s.heap.objs.size:=G6 ho
       have sz1:(s.heap.push { cls:=.type "set",dict:=none,data:=.set #[] 0 (.fresh 0 0 b) }).objs.size=s.heap.objs.size + 1:=Jg ..
       have a1:l≠(s.heap.push { cls:=.type "set",dict:=none,data:=.set #[] 0 (.fresh 0 0 b) }).objs.size:=by rw [sz1]; exact HE (Nat.lt_succ_of_lt ls)
       have a2:s.heap.objs.size ∉ [(s.heap.push { cls:=.type "set",dict:=none,data:=.set #[] 0 (.fresh 0 0 b) }).objs.size,l]:=by
         rw [sz1]
         simp only [HL,HG,or_false,not_or]
         exact ⟨HE (Iu _),Jf ls⟩
       have inj:∀i j,i < its.size->j < its.size->xs.getD i ""=xs.getD j ""->i=j:=fun i j hi hj e=>by
         have hi':i < xs.length:=by omega
         have hj':j < xs.length:=by omega
         rw [HX,HX,G3 hi',G3 hj'] at e
         by_cases lt:i < j
         · exact absurd e ((List.pairwise_iff_getElem.mp nd) i j hi' hj' lt)
         · by_cases gt:j < i
           · exact absurd e.symm ((List.pairwise_iff_getElem.mp nd) j i hj' hi' gt)
           · omega
       refine setLoop ((Walks.list (by simp [free]) _ l a1 its).toS) s.heap.objs.size a2 (fun i=>xs.getD i "") hx inj few (its.size - 0) 0 _ (by omega) (HD _) ⟨⟨_,G9 _ rfl,rfl,rfl⟩,il'.push _⟩ ?start ?stop
       case start=>
         exact SetOf_congr ((setObjOf_fresh (knd:=strKind P w) b).setOf (GV _ g0) (by unfold scanBound; omega)) (fun _=>rfl) rfl
       case stop=>
         rintro ⟨g,gg,dd,tk,os⟩ mv so
         obtain rfl:gg=s.gens:=mv.gens
         obtain rfl:dd=s.drawn:=mv.drawn
         obtain rfl:os=s.os:=mv.os
         show wpAny _ _ _ _ _ _
         refine wpAny_pure ?_
         show wpAny _ _ (ret Ip) _ _ _
         refine wpAny_pure ⟨rfl,g,tk,rfl,so,fun c o e=>?_⟩
         have lc:=G6 e
         refine mv.heap c o ?_ (GV _ (GV _ e))
         rw [sz1]
         simp only [HL,HG,or_false,not_or]
         exact ⟨HE lc,HE (Nat.lt_succ_of_lt lc)⟩
     · cases r2 with
       | error _=>exact hr2
       | ok fl2=>
         cases fl2 with
         | ret r=>
           obtain ⟨rfl,g,tk,rfl,so,kk⟩:=hr2
           repeat (any_goals (first | assumption | wp_step))
           exact k _ _ so kk
         | _=>exact hr2.elim
   | _=>exact hr.elim
end
end L2
set_option Elab.async false
set_option linter.all false
set_option maxRecDepth 100000
namespace L2
open PySem PySem.Spec PyProof.Rows
section
variable {X:Cx}{a:Expr}{ta:TA}{p1 p2 pos pos2:Pos}
/-- len(set(a)),a a list of unlike texts: the set is not tracked -/
def p4 (K:GP)(ta:TA):TE:=fun σ H Q=>ta σ H fun vs H1=>∃(l:Addr) (xs:List Str),vs=[.ref l]/\aw K H1 l (xs.map V.str)/\xs.Nodup/\xs.length<=1000/\Q (.int xs.length) H1
theorem pY:∀{xs:List Str} {us:List Value} {i:Nat} {v:Value},Vals (xs.map V.str) us->us[i]? = some v->∃t,v=IU (xs.getD i "") t
 | [],_,_,_,.nil,h=>by simp at h
 | x :: r,_,0,_,.cons q _,h=>by
   obtain ⟨t,e⟩:=q
   simp at h
   subst h
   exact ⟨t,e⟩
 | x :: r,_,i + 1,v,.cons _ q,h=>by
   obtain ⟨t,e⟩:=pY (xs:=r) (i:=i) q (by simpa using h)
   exact ⟨t,by simpa using e⟩
theorem rF (hc:X.calm=true)(hg1:Gl X "len")(hm1:X.mg "len"=none)(hg2:Gl X "set")(hm2:X.mg "set"=none)(ha:p8 X [a] ta)(hv2:bootBuiltins "set"=some (.type "set"):=by first | rfl | decide +kernel) :
   PE X (.Call (.Name "len" p1) [.Call (.Name "set" p2) [a] [] pos2] [] pos) (p4 X.K ta):=by
 intro pins s σ H Q I h
 refine wpAny_Call_Name_kw (dY I hg1 hm1 G1 ?_ (by decide) (by decide))
 refine JE ?_ rfl rfl
 show wpAny _ _ (spliced ((false,eval (.Call (.Name "set" p2) [a] [] pos2) X.env) :: [])) _ _ s
 refine IK (wpAny_Call_Name_kw (dY I hg2 hm2 hv2 ?_ (by decide) (by decide)))
 refine HZ (bb (ha.pa pos2 pins s σ H _ I h) fun us s1 ⟨vs,H1,I1,r1,q1⟩=>?_) ((ha.ns a [] rfl).1.h [] X.env) rfl
 obtain ⟨l,xs,rfl,hq,nd,h1000,q⟩:=q1
 obtain ⟨u,rfl,ru⟩:=vals1 r1
 obtain rfl:u=HC l:=ru
 obtain ⟨its,rv,pl,hz⟩:=I1.list hq
 have hl:=rv.length
 rw [GR] at hl
 refine wA (xs:=xs) (I1.ok.hd hc) pl.isList (fun i v e=>pY rv (by simpa using e)) (by simp; omega) nd (by unfold scanBound; simp; omega) fun g tk so kk=>?_
 have I2:Inv X pins σ H1 { s1 with heap:=g,toks:=tk }:=I1.kept kk
 refine Jk ?_
 obtain ⟨o,es,ep,t,ho,hex,hd,_,_,hb,hf,hn⟩:=so
 refine call_len_set (s:={ s1 with heap:=g,toks:=tk }) ho hex hd hf (by rw [hn]; simp; omega) ?_
 refine ⟨.int xs.length,H1,I2.tok _,⟨tk + 1,by rw [hn,G4,hl]⟩,q⟩
end
end L2
namespace L3
open PySem PySem.Spec PyProof.Rows L2
theorem uk {X:Cx}{a:Expr}{t:TA}{p1 p2 pos pos2:Pos}{KK:GP}(hg1:Gl X "len")(hm1:X.mg "len"=none)(hg2:Gl X "set")(hm2:X.mg "set"=none)(ha:SA X [a] t)(hc:X.calm=true:=by rfl)(hK:X.K=KK:=by first | exact cxC_K | rfl) :
   SE X (.Call (.Name "len" p1) [.Call (.Name "set" p2) [a] [] pos2] [] pos) (p4 KK t):=by
 subst hK
 exact ⟨rF hc hg1 hm1 hg2 hm2 ha.h⟩
theorem Gz {X:Cx}{tg iter kx vx:Expr}{ifs:List Expr}{sc:Scope}{wi:TI}{g:TG}{tifs:TT}{tk tv:TE}{i:Nat}{x:Str}{pos pos' pos2:Pos}(src:List (Option Nat))(N':List Str)(hu:X.A.units + 1 < cLine)(S:az sc X.env.scope)(hcap:bV sc src N' X.N=true)(hi:SI X tg iter wi)
   (hb:∀s H C fp xe,SG (eL X N' sc s H C fp xe) tg g/\Cy (eL X N' sc s H C fp xe) ifs tifs/\SE (eL X N' sc s H C fp xe) kx tk/\SE (eL X N' sc s H C fp xe) vx tv) (hN:X.N.Nodup) (hix:X.N[i]? = some x:=by rfl) (hx:Loc X.env.scope x:=by exact Or.inl rfl)
   (hsw:swapsWith (.DictComp kx vx [⟨tg,iter,ifs,0⟩] sc pos) (some (.Name x pos')) pos2.line X.env=pure true:=by rfl) (hc:X.calm=true:=by rfl)
   (hs:∀x,foldedSetIterable iter X.env x=pure x:=by intro _; rfl) (hf:X.fn x=true\/X.env.scope.names.lookup x=some .local:=by first | exact .inl rfl | exact .inr rfl) :
   SS X (.Assign [.Name x pos'] (.DictComp kx vx [⟨tg,iter,ifs,0⟩] sc pos) pos2) (nu (ef src (.dT []) wi g tifs (Au tk tv)) (eR i)):=
 ⟨pN wD hc S hcap hi.h (fun s H C fp xe D=>⟨(hb s H C fp xe).1.h,(hb s H C fp xe).2.1.h,Bp (X:=eL X N' sc s H C fp xe) hu (hb s H C fp xe).2.2.1.h (hb s H C fp xe).2.2.2.h D⟩) zG hs (fun _=>rfl) hN hix hx hsw hf⟩
end L3
set_option Elab.async false
set_option linter.all false
set_option maxRecDepth 100000
namespace PySem
open Sem (wp)
/-! ### a zip whose tuple is handed out -/
end PySem
set_option Elab.async false
set_option linter.all false
set_option maxRecDepth 100000
namespace PySem
end PySem
set_option Elab.async false
set_option linter.all false
set_option maxRecDepth 100000
namespace L2
open PySem PySem.Spec PyProof.Rows
/-! ### dict(zip(a,b)),two lists of one length,the first of keys -/
end L2
set_option Elab.async false
set_option linter.all false
set_option maxRecDepth 100000
namespace L2
open PySem PySem.Spec PyProof.Rows
end L2
namespace L3
open PySem PySem.Spec PyProof.Rows L2
end L3
set_option Elab.async false
set_option linter.all false
set_option maxRecDepth 100000
namespace L2
open PySem PySem.Spec PyProof.Rows
end L2
namespace L3
open PySem PySem.Spec PyProof.Rows L2
section
variable {X:Cx}{a b c e o:Expr}{es:List Expr}{ta tb tc te:TE}{t:TA}{pos:Pos}
theorem er {cnd:Expr}{body:List Stmt}{tcn:TT}{u1:TS}(hcn:ST X cnd tcn)(hb:SL X body u1)(hp:PassesOwn (model X.prog X.w) X.A X.env X.xe:=by exact KR):SS X (.While cnd body [] pos) (vW tcn u1):=⟨vo hp hcn.h hb.h⟩
end
end L3
set_option Elab.async false
set_option linter.all false
set_option maxRecDepth 100000
/-! ### keys that are tuples with tuples within -/
namespace L2
open PySem PySem.Spec PyProof.Rows
end L2
set_option Elab.async false
set_option linter.all false
set_option maxRecDepth 100000
/-! ### a dict whose keys are tuples with tuples within -/
namespace L2
open PySem PySem.Spec PyProof.Rows
end L2
namespace L3
open PySem PySem.Spec PyProof.Rows L2
section
variable {X:Cx}{a b c e o:Expr}{es:List Expr}{ta tb tc te:TE}{t:TA}{pos pos':Pos}{P:Program}{w:World}
theorem oW {KK:GP}(hK:X.K=KK:=by first | exact cxC_K | rfl):SC X (.type "tuple") (fun xs H Q=>∃p ys,xs=[.ref p]/\aw KK H p ys/\∀l,H l=none->Q (.ref l) (upd H l (.tup ys))):=by
 subst hK
 refine ⟨fun pins s σ H xs us Q I r h=>?_⟩
 obtain ⟨p,ys,e,hq,q⟩:=h
 exact jW pins s σ H xs us Q I r ⟨p,ys,e,.inl ⟨hq,q⟩⟩
end
end L3
set_option Elab.async false
set_option linter.all false
set_option maxRecDepth 100000
namespace L2
open PySem PySem.Spec PyProof.Rows
end L2
namespace L3
open PySem PySem.Spec PyProof.Rows L2
section
variable {X:Cx}{a b c e o:Expr}{es:List Expr}{ta tb tc te:TE}{t:TA}{pos:Pos}
theorem DW {KK:GP}{p2:Pos}(ha:SE X a ta)(hb:SE X b tb)(hK:X.K=KK:=by first | exact cxC_K | rfl):SE X (.Subscript a (.Slice (some b) none none p2) pos) (BZ (yn KK) ta (gk tb) gj):=by
 subst hK
 exact ⟨df ma ha.h (cI hb.h) iK⟩
end
end L3
set_option Elab.async false
set_option linter.all false
/-! ### runs of a step function -/
namespace TW
end TW
set_option Elab.async false
set_option linter.all false
set_option maxRecDepth 100000
namespace L2
open PySem PySem.Spec PyProof.Rows
end L2
namespace L3
open PySem PySem.Spec PyProof.Rows L2
end L3
set_option Elab.async false
set_option linter.all false
set_option maxRecDepth 100000
namespace L2
open PySem PySem.Spec PyProof.Rows SeqAt
end L2
namespace L3
open PySem PySem.Spec PyProof.Rows L2
end L3
set_option Elab.async false
set_option linter.all false
set_option maxRecDepth 100000
/-! ### exceptions: how one lies behind a call -/
namespace L2
open PySem PySem.Spec PyProof.Rows
end L2
set_option Elab.async false
set_option linter.all false
set_option maxRecDepth 100000
/-! ### own refusals: their classes,texts with parts,raise -/
namespace L2
open PySem PySem.Spec PyProof.Rows
/-! texts with parts -/
end L2
set_option Elab.async false
set_option linter.all false
set_option maxRecDepth 100000
namespace L2
open PySem PySem.Spec PyProof.Rows PySem.W PySem.Builtin PySem.Builtin.ObjectAttr PySem.Builtin.Getset_descriptor
end L2
set_option Elab.async false
set_option linter.all false
set_option maxRecDepth 100000
/-! ### an exception is caught -/
namespace L2
open PySem PySem.Spec PyProof.Rows
section
variable {M:Model}{A:Around}{E:Value->Shared->Prop}{s:Shared}{nm q:Str}{C N:Addr}{bs bm:List Value}{hdct:Bool}{sn:List Str}{sub:List Value}{ab:Bool}{col:Option Bool}{dd:Option Addr}{k0 k1 k2 k3 k5:Option Value}{newId:String}
 {nm' q':Str} {T N':Addr} {bs' bm':List Value} {hdct':Bool} {sn':List Str} {sub':List Value} {ab':Bool} {col':Option Bool} {dd':Option Addr} {j0 j1 j2 j3 j5:Option Value} {newId':String}
end
end L2
set_option Elab.async false
set_option linter.all false
set_option maxRecDepth 100000
/-! ### try .. except T as e: c=e -/
namespace L2
open PySem PySem.Spec PyProof.Rows
end L2
set_option Elab.async false
set_option linter.all false
set_option maxRecDepth 100000
/-! ### defs that may refuse -/
namespace L2
open PySem PySem.Spec PyProof.Rows
end L2
namespace TW
open PySem L2
end TW
namespace L3
open PySem PySem.Spec PyProof.Rows L2
end L3
set_option Elab.async false
set_option linter.all false
set_option maxRecDepth 100000
/-! ### count and index in a list of truths -/
namespace L2
open PySem PySem.Spec PyProof.Rows
end L2
namespace L3
open PySem PySem.Spec PyProof.Rows L2
end L3
set_option Elab.async false
set_option linter.all false
set_option maxRecDepth 100000
namespace L2
open PySem PySem.Spec PyProof.Rows
/-! ### len(set(xs)),xs a list of texts,some of them perhaps alike -/
end L2
namespace L3
open PySem PySem.Spec PyProof.Rows L2
end L3
set_option Elab.async false
set_option linter.all false
set_option maxRecDepth 100000
namespace L2
open PySem PySem.Spec PyProof.Rows
/-! ### a comprehension of two clauses -/
end L2
namespace L3
open PySem PySem.Spec PyProof.Rows L2
end L3
set_option Elab.async false
set_option linter.all false
set_option maxRecDepth 100000
namespace L2
open PySem PySem.Spec PyProof.Rows
/-! ### xs[::-1] -/
end L2
namespace L3
open PySem PySem.Spec PyProof.Rows L2
end L3
set_option Elab.async false
set_option linter.all false
/-! ### runs of one step function by those of another one -/
namespace TW
end TW
set_option Elab.async false
set_option linter.all false
set_option maxRecDepth 100000
namespace L3
open PySem PySem.Spec PyProof.Rows L2
section
variable {X:Cx}{a b o i value:Expr}{ta tb td ty tv:TE}{pos:Pos}
theorem lT {KK:GP}(hK:X.K=KK:=by first | exact cxC_K | rfl):SO X (binaryOp .Add) (vt KK):=by
 subst hK
 exact ⟨xN⟩
end
end L3
set_option Elab.async false
set_option linter.all false
set_option maxRecDepth 100000
namespace L2
open PySem PySem.Spec PyProof.Rows
/-! ### xs[::n],n one or minus one -/
/-! ### a text and a text -/
def zf:R2:=fun x y H Q=>∃a b:Str,x=.str a/\y=.str b/\a.length + b.length<=sizeLine/\Q (.str (a++b)) H
theorem xM {X:Cx}:eW X (binaryOp .Add) zf:=by
 intro pins s σ H x y u v Q I rx ry h
 obtain ⟨a,b,rfl,rfl,hl,q⟩:=h
 obtain ⟨t,rfl⟩:=rx
 obtain ⟨t2,rfl⟩:=ry
 exact PyProof.Rows.add_str (fun t' tk=>⟨.str (a++b),H,I.tok _,⟨_,rfl⟩,q⟩) hl
/-! ### xs.index(n),a list of whole numbers -/
end L2
namespace L3
open PySem PySem.Spec PyProof.Rows L2
section
variable {X:Cx}{a b c e o:Expr}{es:List Expr}{ta tb tc te:TE}{t:TA}{pos:Pos}
theorem DX {KK:GP}{p2:Pos}(ha:SE X a ta)(hb:SE X b tb)(hc:SE X c tc)(hK:X.K=KK:=by first | exact cxC_K | rfl):SE X (.Subscript a (.Slice (some b) (some c) none p2) pos) (BZ (yn KK) ta (gk tb) (gk tc)):=by
 subst hK
 exact ⟨df ma ha.h (cI hb.h) (cI hc.h)⟩
theorem bN:SO X (binaryOp .Add) zf:=⟨xM⟩
end
end L3
set_option Elab.async false
set_option linter.all false
set_option maxRecDepth 100000
/-! ### d.update(e),both dicts of tuples -/
namespace L2
open PySem PySem.Spec PyProof.Rows
end L2
namespace L3
open PySem PySem.Spec PyProof.Rows L2
end L3
set_option Elab.async false
set_option linter.all false
set_option maxRecDepth 100000
namespace PySem
open Sem (wp)
/-! ### a zip whose own tuple is free,out,or gone -/
end PySem
set_option Elab.async false
set_option linter.all false
set_option maxRecDepth 100000
namespace PySem
open Sem (wp)
open AutoSeq1 (wpAny_loadPart')
end PySem
namespace L2
open PySem PySem.Spec PyProof.Rows
end L2
namespace L3
open PySem PySem.Spec PyProof.Rows L2
end L3
set_option Elab.async false
set_option linter.all false
set_option maxRecDepth 100000
namespace L2
open PySem PySem.Spec PyProof.Rows
section
variable {X:Cx}{pos:Pos}
theorem pD:∀{ns:List Int} {us:List Value},Vals (ns.map V.int) us->∃l:List (Int×Tok),us=l.map (fun p=>I9 p.1 p.2)/\l.map (·.1)=ns
 | [],_,.nil=>⟨[],rfl,rfl⟩
 | n :: ns,_,.cons r q=>by
   obtain ⟨t,rfl⟩:=r
   obtain ⟨l,rfl,rfl⟩:=pD q
   exact ⟨(n,t) :: l,rfl,rfl⟩
theorem qd (hc:X.calm=true):bZ X (.builtin "sum") (fun xs H Q=>∃(l:Addr) (ns:List Int),xs=[.ref l]/\aw X.K H l (ns.map V.int)/\Q (.int ns.sum) H):=by
 intro pins s σ H xs us Q I r h
 obtain ⟨l,ns,rfl,hq,q⟩:=h
 obtain ⟨u,rfl,ru⟩:=vals1 r
 obtain rfl:u=HC l:=ru
 obtain ⟨its,rv,pl,_⟩:=I.list hq
 obtain ⟨ps,e1,e2⟩:=pD rv
 have hl:s.heap.IsList l (intItems ps.toArray):=by
   have:=pl.isList
   rw [e1] at this
   simpa [intItems] using this
 refine sum_intListG (I.ok.hd hc) hl fun h' tk t' k=>⟨.int ns.sum,H,I.kept k,⟨t',?_⟩,q⟩
 have e3:preSum (numAt ps.toArray) ps.toArray.size=ns.sum:=by
   rw [preSum_eq,KD (by simp),← e2]
 rw [e3]
end
end L2
namespace L3
open PySem PySem.Spec PyProof.Rows L2
section
variable {X:Cx}{a b c e o:Expr}{es:List Expr}{ta tb tc te:TE}{t:TA}{pos:Pos}
theorem CC {KK:GP}(hc:X.calm=true:=by rfl)(hK:X.K=KK:=by first | exact cxC_K | rfl):SC X (.builtin "sum") (fun xs H Q=>∃(l:Addr) (ns:List Int),xs=[.ref l]/\aw KK H l (ns.map V.int)/\Q (.int ns.sum) H):=by
 subst hK
 exact ⟨qd hc⟩
end
end L3
set_option Elab.async false
set_option linter.all false
/-! ### what is said for ever: the i-th number of a run -/
namespace TW
end TW
set_option Elab.async false
set_option linter.all false
set_option maxRecDepth 100000
namespace L2
open PySem PySem.Spec PyProof.Rows SeqAt
/-! ### lists of whole numbers,alike or not; tuples of lists and None -/
theorem all_ints {xs ys:List Int}(h:xs.length=ys.length):(IT xs.length).all (fun j=>nz (.int (xs.getD j 0)) (.int (ys.getD j 0)))=decide (xs=ys):=by
 have key:(∀j,j < xs.length->xs.getD j 0=ys.getD j 0)↔xs=ys:=by
   constructor
   · intro k
     refine List.ext_getElem h fun j h1 h2=>?_
     have:=k j h1
     rw [HX,HX,G3 h1,G3 h2] at this
     exact this
   · intro e j _
     rw [e]
 by_cases e:xs=ys
 · rw [decide_eq_true e,Jr]
   intro j hj
   show decide (xs.getD j 0=ys.getD j 0)=true
   exact decide_eq_true (key.mpr e j (List.mem_range.mp hj))
 · rw [decide_eq_false e]
   rw [Bool.eq_false_iff]
   intro z
   rw [Jr] at z
   exact e (key.mp fun j hj=>of_decide_eq_true (show decide (xs.getD j 0=ys.getD j 0)=true from z j (List.mem_range.mpr hj)))
theorem qR {K:GP}{H:Hp}{n:Nat}{xs ys:List Int}:∀(j:Nat) (x y:V),(xs.map V.int)[j]? = some x->(ys.map V.int)[j]? = some y->EB K H n x y (nz (.int (xs.getD j 0)) (.int (ys.getD j 0))):=fun j x y hx hy=>by
 rw [HR] at hx hy
 obtain ⟨a,ha,rfl⟩:=Option.map_eq_some_iff.mp hx
 obtain ⟨b,hb,rfl⟩:=Option.map_eq_some_iff.mp hy
 rw [HX,HX,ha,hb]
 exact EB.flat rfl rfl
theorem RB.ints {K:GP}{H:Hp}{n:Nat}{a b:Addr}{xs ys:List Int}(ha:H a=some (.lst (xs.map V.int)))(hb:H b=some (.lst (ys.map V.int))):RB K H n (.ref a) (.ref b) (decide (xs=ys)):=by
 by_cases hl:xs.length=ys.length
 · refine ⟨a,b,_,_,rfl,rfl,.inl ⟨_,aw.of ha,aw.of hb,by rw [GR,GR]; exact hl,qR,?_⟩⟩
   rw [GR,all_ints hl]
 · exact ⟨a,b,_,_,rfl,rfl,.inr (.inl ⟨aw.of ha,aw.of hb,by rw [GR,GR]; exact hl,decide_eq_false fun z=>hl (by rw [z])⟩)⟩
end L2
namespace L3
open PySem PySem.Spec PyProof.Rows L2
end L3
namespace TW
/-! ### what is alike,by the law's own look -/
end TW
set_option Elab.async false
set_option linter.all false
/-! ### runs walked side by side -/
namespace TW
/-! ### each number said one more -/
end TW
set_option Elab.async false
set_option linter.all false
set_option maxRecDepth 100000
namespace L2
open PySem PySem.Spec PyProof.Rows
end L2
namespace L3
open PySem PySem.Spec PyProof.Rows L2
end L3
set_option Elab.async false
set_option linter.all false
set_option maxRecDepth 100000
namespace L2
open PySem PySem.Spec PyProof.Rows SeqAt
/-! ### two promises of one def; lists of anything told,alike or not -/
end L2
set_option Elab.async false
set_option linter.all false
set_option maxRecDepth 100000
/-! ### a def that is called within an except suite; try .. except T as e: any rows -/
namespace L2
open PySem PySem.Spec PyProof.Rows
end L2
namespace TW
open PySem L2
end TW
namespace L3
open PySem L2
end L3
set_option Elab.async false
set_option linter.all false
set_option maxRecDepth 100000
namespace L2
open PySem PySem.Spec PyProof.Rows SeqAt
end L2
namespace L3
open PySem PySem.Spec PyProof.Rows L2
end L3
set_option Elab.async false
set_option linter.all false
set_option maxRecDepth 100000
/-! zip of three lists of one length,walked by a tuple of names -/
namespace PySem
open Sem (wp)
end PySem
set_option Elab.async false
set_option linter.all false
set_option maxRecDepth 100000
namespace PySem
end PySem
namespace L2
open PySem PySem.Spec PyProof.Rows
end L2
namespace L3
open PySem PySem.Spec PyProof.Rows L2
end L3
set_option Elab.async false
set_option linter.all false
set_option maxRecDepth 100000
namespace L2
open PySem PySem.Spec PyProof.Rows
/-! enumerate of a list,walked by a tuple of names -/
def B6 (K:GP)(a:Addr):It:=
 ⟨fun i H=>∃xs x,aw K H a xs/\xs[i]? = some x,
  fun i H v H'=>∃p x,H p=none/\v=.ref p/\H'=upd H p (.tup [.int (i:Nat),x])/\∀xs,aw K H a xs->xs[i]? = some x,
  fun i H=>∃xs,aw K H a xs/\xs.length<=i⟩
theorem rR {P:Program}{w:World}{K:GP}{elts:List Expr}{x1:Nat}{tp:Pos}{a n:Addr} :
   Turn P w K (.Tuple elts x1 tp) (B6 K a) [n + 1,n] (n + 1) (fun i h=>(∃old,IsEnum h (n + 1) n (i:Nat) old)/\h.IsListIter n a i) where
 mem:=by simp
 obj:=fun i h st d hd=>by
   obtain ⟨⟨old,he⟩,⟨o1,e1,c1,d1⟩⟩:=st
   simp only [HL,HG,or_false] at hd
   rcases hd with rfl | rfl
   · exact ⟨_,he,fun v q=>nomatch q⟩
   · exact ⟨_,e1,fun v q=>by rw [d1] at q; cases q⟩
 keep:=fun i h h' st k=>by
   obtain ⟨⟨old,he⟩,h1⟩:=st
   exact ⟨⟨old,k _ (by simp) _ he⟩,h1.at fun o e=>k _ (by simp) o e⟩
 item:=by
   intro X hP hw hK hc i pins s σ H E I hf st hg
   subst hP hw hK
   obtain ⟨xs,x,hq1,hx⟩:=hg
   obtain ⟨its1,rv1,p1,_⟩:=I.list hq1
   obtain ⟨ux,gx,rx⟩:=rv1.get hx
   obtain ⟨⟨old,he⟩,h1⟩:=st
   have ne:(n + 1:Addr)≠n:=Nat.succ_ne_self n
   refine wpAny_pyNext_enum_item he h1 p1.isList (x:=ux) (by simpa using gx) ne fun g a1 a2 a3 a4 hk=>?_
   refine ⟨_,rfl,wpAny_letOwnedTupleGo_enum (s:={ s with heap:=g,toks:=s.toks + 1 }) a1 fun g2 he2 e2=>?_⟩
   have n0:H s.heap.objs.size=none:=I.hok.fresh (GX _)
   have lte:n + 1 < s.heap.objs.size:=G6 he
   have e2':Iw (n + 1) g g2:=e2
   have kk:∀d o,d ∉ ([n + 1,n]:List Addr)->s.heap.get? d=some o->g2.get? d=some o:=fun d o hd e=>by
     simp only [HL,HG,or_false,not_or] at hd
     exact e2'.extBut _ _ hd.1 (hk d o hd.1 hd.2 e)
   have t2:IsPair g2 s.heap.objs.size (.int i s.toks) ux:=e2'.extBut _ _ (Jf lte) a3
   have I1:Inv X pins σ (upd H s.heap.objs.size (.tup [.int (i:Nat),x])) { s with heap:=g2,toks:=s.toks + 1 }:=I.many (ch:=[n + 1,n]) hf kk (GX _)
     ⟨by show 2<=sizeLine; decide,[.int i s.toks,ux],.cons ⟨_,rfl⟩ (.cons rx .nil),_,t2,rfl,_,rfl⟩
   refine ⟨.ref s.heap.objs.size,_,I1,rfl,⟨_,x,n0,rfl,rfl,fun xs' q1=>?_⟩,⟨⟨_,by simpa using he2⟩,a2.at fun o e=>e2'.extBut _ _ ne.symm e⟩,fun d hd=>?_⟩
   · rw [I.list_inj q1 hq1]; exact hx
   · have lt:d < s.heap.objs.size:=by
       simp only [HL,HG,or_false] at hd
       rcases hd with rfl | rfl
       · exact lte
       · exact Nat.lt_of_succ_lt lte
     rw [aj (HE lt)]
     exact (hf d hd).1
 done:=by
   intro X hP hw hK hc i pins s σ H E I hf st hg
   subst hP hw hK
   obtain ⟨xs,hq1,hend⟩:=hg
   obtain ⟨its1,rv1,p1,_⟩:=I.list hq1
   have l1:=rv1.length
   obtain ⟨⟨old,he⟩,h1⟩:=st
   refine wpAny_pyNext_enum_end (I.ok.hd hc) he h1 p1.isList (by simp; omega) fun g hk=>⟨rfl,?_⟩
   exact I.many0 (t':=s.toks) (ch:=[n]) (fun d hd=>hf d (by rw [List.mem_singleton.mp hd]; simp)) fun d o hd e=>hk d o (fun z=>hd (by rw [z]; simp)) e
 self:=fun _ _ _ _ _ st h=>by
   obtain ⟨⟨old,he⟩,_⟩:=st
   exact wpAny_pyIter_enum he h
def CQ (K:GP)(ta:TA):TI:=fun σ H R=>ta σ H fun vs H1=>∃a,vs=[.ref a]/\(∃xs,aw K H1 a xs)/\R (B6 K a) H1
theorem ya {X:Cx}{a:Expr}{ta:TA}{p pos tp:Pos}{elts:List Expr}{x1:Nat}(hg:Gl X "enumerate")(hm:X.mg "enumerate"=none)(ha:p8 X [a] ta)(hv:bootBuiltins "enumerate"=some (.type "enumerate"):=by first | rfl | decide +kernel) :
   PI X (.Tuple elts x1 tp) (.Call (.Name "enumerate" p) [a] [] pos) (CQ X.K ta):=by
 intro pins s σ H R I h
 refine wpAny_Call_Name_kw (dY I hg hm hv ?_ (by decide) (by decide))
 refine HZ (bb (ha.pa pos pins s σ H _ I h) fun us s1 ⟨vs,H1,I1,r1,q1⟩=>?_) ((ha.ns a [] rfl).1.h [] X.env) ((ha.ns a [] rfl).2 pos X.env)
 obtain ⟨l1,e,⟨xs,hq1⟩,q⟩:=q1
 subst e
 cases r1 with
 | cons r1 r2=>
 cases r2
 cases r1
 obtain ⟨its1,rv1,p1,_⟩:=I1.list hq1
 refine call_enumerate_list p1.isList fun g he hi _ hk=>?_
 refine wpAny_pyIter_enum he ?_
 have I2:Inv X pins σ H1 { s1 with heap:=g }:=I1.kept (t':=s1.toks) hk
 refine ⟨_,_,_,_,H1,rfl,I2,rR,⟨⟨_,he⟩,hi⟩,fun c hc=>?_,q⟩
 simp only [HL,HG,or_false] at hc
 have up:∀k,dN X pins H1 (s1.heap.objs.size + k):=fun k=>I1.fpOk (Ju _ _) (I1.hok.fresh (Ju _ _))
 rcases hc with rfl | rfl
 · exact up 1
 · exact up 0
section
variable {K:GP}{a:Addr}{xs:List V}{g:TG}
theorem sU {tb:TS}{D:Ends}{σ:St}{H:Hp}(Pv:Nat->St->Hp->Prop)(h0:Pv 0 σ H)(hl:∀i σ H,i<=xs.length->Pv i σ H->aw K H a xs)
   (hs:∀i x p σ H,xs[i]? = some x->Pv i σ H->H p=none->g (.ref p) σ (upd H p (.tup [.int (i:Nat),x])) fun σ2 H2=>tb { D with nx:=Pv (i + 1),ct:=Pv (i + 1),bk:=D.nx } σ2 H2) (hd:∀σ H,Pv xs.length σ H->D.nx σ H) :
   ∃W:Nat->Nat->St->Hp->Prop,(∃m,W 0 m σ H)/\∀i m σ H,W i m σ H ->
     ((B6 K a).stop i H/\D.nx σ H)\/((B6 K a).go i H/\∃N:St->Hp->Prop,(∀σ' H',N σ' H'->∃m',m' < m/\W (i + 1) m' σ' H')/\∀x H',(B6 K a).yld i H x H'->g x σ H' fun σ2 H2=>tb { D with nx:=N,ct:=N,bk:=D.nx } σ2 H2):=by
 refine ⟨fun i m σ H=>m=xs.length - i/\i<=xs.length/\Pv i σ H,⟨xs.length,by simp,HD _,h0⟩,?_⟩
 rintro i m σ H ⟨rfl,hi,p⟩
 have q1:=hl i σ H hi p
 by_cases hlt:i < xs.length
 · refine .inr ⟨⟨xs,xs[i],q1,by simp [hlt]⟩,Pv (i + 1),fun σ' H' p'=>⟨xs.length - (i + 1),by omega,rfl,hlt,p'⟩,fun x H' y=>?_⟩
   obtain ⟨pp,x1,hn,rfl,rfl,k⟩:=y
   exact hs i x1 pp σ H (k xs q1) p hn
 · have e:i=xs.length:=by omega
   subst e
   exact .inl ⟨⟨xs,q1,GX _⟩,hd σ H p⟩
theorem qg {tifs:TT}{tm:TM}{σ0:St}{Z:Hp->Prop}{H:Hp}(Pv:Nat->Hp->Prop)(h0:Pv 0 H)(hl:∀i H,i<=xs.length->Pv i H->aw K H a xs)
   (turn:∀i x p H,xs[i]? = some x->Pv i H->H p=none->g (.ref p) σ0 (upd H p (.tup [.int (i:Nat),x])) fun σ2 H2=>tifs σ2 H2 fun b H3=>
     if b=true then tm σ2 H3 fun H4=>aY σ0 σ2/\∃m',m' < xs.length - i/\(m'=xs.length - (i + 1)/\i + 1<=xs.length/\Pv (i + 1) H4) else aY σ0 σ2/\∃m',m' < xs.length - i/\(m'=xs.length - (i + 1)/\i + 1<=xs.length/\Pv (i + 1) H3))
   (hZ:∀H,Pv xs.length H->Z H):ie (B6 K a) σ0 g tifs tm Z H:=by
 refine fA xs.length Pv h0 (fun i H hi p=>⟨xs,xs[i],hl i H (HV hi) p,by simp [hi]⟩) (fun H p=>⟨xs,hl _ H (GX _) p,GX _⟩) (fun i H hi p x H' y=>?_) hZ
 obtain ⟨pp,x1,hn,rfl,rfl,k⟩:=y
 exact turn i x1 pp H (k xs (hl i H (HV hi) p)) p hn
end
end L2
namespace L3
open PySem PySem.Spec PyProof.Rows L2
theorem iE {X:Cx}{a:Expr}{t:TA}{KK:GP}{p pos tp:Pos}{elts:List Expr}{x1:Nat}(hg:Gl X "enumerate")(hm:X.mg "enumerate"=none)(ha:SA X [a] t)(hK:X.K=KK:=by first | exact cxC_K | rfl) :
   SI X (.Tuple elts x1 tp) (.Call (.Name "enumerate" p) [a] [] pos) (CQ KK t):=by
 subst hK
 exact ⟨ya hg hm ha.h⟩
/-! attributes,instances,methods -/
section
variable {X:Cx}{a o e:Expr}{es:List Expr}{ta tv:TE}{t:TA}{pos pos' apos:Pos}{f m:Str}
theorem fld {KK:GP}(ha:SE X a ta)(hb:attributeBase a f X.env (eval a X.env)=eval a X.env:=by rfl)(hK:X.K=KK:=by first | exact cxC_K | rfl):SE X (.Attribute a f pos) (D7 KK ta f):=by
 subst hK
 exact ⟨A5 ha.h hb⟩
theorem DV {KK:GP}(ha:SE X a ta)(hv:SE X e tv)(hs:swapsWith e (some (.Attribute a f pos')) pos.line X.env=pure false:=by rfl)(hK:X.K=KK:=by first | exact cxC_K | rfl):SS X (.Assign [.Attribute a f pos'] e pos) (DQ KK ta tv f):=by
 subst hK
 exact ⟨Bs ha.h hv.h hs⟩
end
end L3
set_option Elab.async false
set_option linter.all false
set_option maxRecDepth 100000
namespace TW
open PySem L2
/-- a method of the class at C; an own class that is made by its name -/
def bh (P:Program)(w:World)(K:GP)(mg:Str->Option Value)(base:Heap)(C:Addr)(m:Str)(ps:List Str)(k:Nat)(sp:Sp):Prop:=
 ∃f fd,aL P w K mg base CX0 k f fd ps sp/\Binds K fd ps []/\Meth K C m f
def my (P:Program)(w:World)(K:GP)(mg:Str->Option Value)(base:Heap)(x:Str)(C:Addr)(ps:List Str)(k:Nat)(sp:Sp):Prop:=
 ∃f fd,aL P w K mg base CX0 k f fd ps sp/\Binds K fd ps []/\Mk K C f/\mg x=some (.ref C)
end TW
namespace L2
open PySem PySem.Spec PyProof.Rows
end L2
namespace L3
open PySem PySem.Spec PyProof.Rows L2
section
variable {X:Cx}{a o e:Expr}{es:List Expr}{ta tv:TE}{t:TA}{p pos pos' apos:Pos}{x m:Str}{C:Addr}{ps:List Str}{kk:Nat}{sp:Sp}
theorem make (D:TW.my X.prog X.w X.K X.mg X.base x C ps kk sp)(hr:bP (kk + 1) X.A)(hg:Gl X x)(ha:SA X (e :: es) t)(hdb:(x == ("__debug__":Str))=false:=by decide):SE X (.Call (.Name x p) (e :: es) [] pos) (zq C sp [] E0 t):=
 let ⟨_,_,G,b,M,m⟩:=D
 ⟨xZ M G hr hg m b .nil pI ha.h.pa hdb ((ha.h.ns e es rfl).1.h es X.env) ((ha.h.ns e es rfl).2 pos X.env)⟩
theorem cu {pl:Sem Bool}(ho:SE X o ta)(c:nA X.K C)(D:TW.bh X.prog X.w X.K X.mg X.base C m ps kk sp)(hr:bP kk X.A)(ha:SA X (e :: es) t)
   (ht:eval (.Call (.Attribute o m apos) (e :: es) [] pos) X.env=(do
     let ov ← eval o X.env
     standAt apos.atName
     let (f,first) ← holding [ov] (getMethod ov m pl)
     callWith pos f first (backTo pos (starEach (e :: es) X.env)) (backToKw pos (keywordEach [] X.env))):=by rfl):SE X (.Call (.Attribute o m apos) (e :: es) [] pos) (p6 C m sp [] E0 ta t):=
 let ⟨_,_,G,b,hm⟩:=D
 ⟨x5 ho.h c hm G hr b .nil pI ha.h.pa ((ha.h.ns e es rfl).1.h es X.env) ((ha.h.ns e es rfl).2 pos X.env) ht⟩
end
end L3
set_option Elab.async false
set_option linter.all false
set_option maxRecDepth 100000
namespace L3
open PySem PySem.Spec PyProof.Rows L2
end L3
set_option Elab.async false
set_option linter.all false
set_option maxRecDepth 100000
/-! ### d.setdefault(k,v),a dict of tuples -/
namespace L2
open PySem PySem.Spec PyProof.Rows
end L2
namespace L3
open PySem PySem.Spec PyProof.Rows L2
end L3
namespace L2
open PySem PySem.Spec PyProof.Rows
end L2
namespace L3
open PySem PySem.Spec PyProof.Rows L2
theorem cm {X:Cx}{o:Expr}{ta:TE}{pos apos:Pos}{m:Str}{C:Addr}{ps:List Str}{kk:Nat}{sp:Sp}{pl:Sem Bool}(ho:SE X o ta)(c:nA X.K C)(D:TW.bh X.prog X.w X.K X.mg X.base C m ps kk sp)(hr:bP kk X.A)
   (ht:eval (.Call (.Attribute o m apos) [] [] pos) X.env=(do
     let ov ← eval o X.env
     standAt apos.atName
     let (f,first) ← holding [ov] (getMethod ov m pl)
     callWith pos f first (backTo pos (starEach [] X.env)) (backToKw pos (keywordEach [] X.env))):=by rfl):SE X (.Call (.Attribute o m apos) [] [] pos) (p6 C m sp [] E0 ta vV):=
 let ⟨_,_,G,b,hm⟩:=D
 ⟨u9 ho.h c hm G hr b .nil pI ht⟩
end L3
set_option Elab.async false
set_option linter.all false
set_option maxRecDepth 100000
namespace L3
open PySem PySem.Spec PyProof.Rows L2
/-- the pairs of a dict's display -/
structure SP (X:Cx)(pos:Pos)(keys:List (Option Expr))(values:List Expr)(trs:List (TE×TE)):Prop where
 h:Cu X pos keys values trs
section
variable {X:Cx}{pos:Pos}{k v:Expr}{ks:List (Option Expr)}{vs:List Expr}{tk tv:TE}{trs:List (TE×TE)}
theorem Gf:SP X pos [] [] []:=⟨yd⟩
theorem CF (hk:SE X k tk)(hv:SE X v tv)(hr:SP X pos ks vs trs):SP X pos (some k :: ks) (v :: vs) ((tk,tv) :: trs):=⟨vk hk.h hv.h hr.h⟩
theorem EU (h:SP X pos (some k :: ks) vs trs)(hall:(some k :: ks).all (·.isSome)=true:=by rfl)(hl:(some k :: ks).length=vs.length:=by rfl)(h15:(some k :: ks).length<=15:=by decide):SE X (.Dict (some k :: ks) vs pos) (zo trs):=⟨xX h.h hall hl (fun z=>nomatch z) h15⟩
end
end L3
set_option Elab.async false
set_option linter.all false
set_option maxRecDepth 100000
namespace L2
open PySem PySem.Spec PyProof.Rows
section
variable {X:Cx}
/-! ### texts: a slice,find -/
def DM:V->Option Int->Option Int->Hp->VK->Prop:=fun x lo hi H Q=>∃z,x=.str z/\z.length<=sizeLine/\Q (.str (Ka z lo hi)) H
theorem BU:v9 X DM:=by
 intro pins s σ H x v vl vu lo hi sl Q I rx hs pl pu h
 obtain ⟨z,rfl,hz,q⟩:=h
 obtain ⟨t,rfl⟩:=rx
 refine ⟨"str",_,F.slot_str_getitem.lookup,typeIs_str _ _ _,?_⟩
 cases pl with
 | none=>
   cases pu with
   | none=>exact wpAny_getItem_str_slice (l:=none) (u:=none) (st:=none) hs rfl (post_val_or_str ⟨GY (J0 z _ _) hz,fun t' k=>⟨.str _,H,I.tok _,⟨_,rfl⟩,q⟩⟩)
   | int j u=>exact wpAny_getItem_str_slice (l:=none) (u:=some (j,u)) (st:=none) hs rfl (post_val_or_str ⟨GY (J0 z _ _) hz,fun t' k=>⟨.str _,H,I.tok _,⟨_,rfl⟩,q⟩⟩)
 | int i t'=>
   cases pu with
   | none=>exact wpAny_getItem_str_slice (l:=some (i,t')) (u:=none) (st:=none) hs rfl (post_val_or_str ⟨GY (J0 z _ _) hz,fun t' k=>⟨.str _,H,I.tok _,⟨_,rfl⟩,q⟩⟩)
   | int j u=>exact wpAny_getItem_str_slice (l:=some (i,t')) (u:=some (j,u)) (st:=none) hs rfl (post_val_or_str ⟨GY (J0 z _ _) hz,fun t' k=>⟨.str _,H,I.tok _,⟨_,rfl⟩,q⟩⟩)
end
end L2
namespace L3
open PySem PySem.Spec PyProof.Rows L2
section
variable {X:Cx}{a b c e o:Expr}{es:List Expr}{ta tb tc te:TE}{t:TA}{pos:Pos}
theorem FL:SX X DJ:=⟨Ag⟩
theorem CU {KK:GP}(hK:X.K=KK:=by first | exact cxC_K | rfl):SX X (fun x y H Q=>BA KK x y H Q\/BB KK x y H Q):=by
 subst hK
 exact ⟨v8.or pG ug⟩
end
end L3
set_option Elab.async false
set_option linter.all false
set_option maxRecDepth 100000
/-! zip of two,each a list or a tuple,walked by a tuple of names -/
namespace PySem
open Sem (wp)
open PyProof.Rows (IsTup IsTupIter)
def eV (tp:Bool)(h:Heap)(it a:Addr)(i:Nat):Prop:=if tp then IsTupIter h it a i else h.IsListIter it a i
def cY (tp:Bool)(h:Heap)(a:Addr)(xs:Array Value):Prop:=if tp then IsTup h a xs else h.IsList a xs
def Af (tp:Bool):String:=if tp then "tuple_iterator" else "list_iterator"
abbrev itObj (tp:Bool)(a:Addr):Obj:={ cls:=.type (Af tp),data:=.fields #[.ref a,.int 0 0] }
section
variable {tp:Bool}{h h':Heap}{it a:Addr}{i:Nat}{xs:Array Value}
theorem eV.stay (x:eV tp h it a i)(e:∀o,h.get? it=some o->h'.get? it=some o):eV tp h' it a i:=by
 cases tp
 · exact Heap.IsListIter.at (show h.IsListIter it a i from x) e
 · obtain ⟨o,ho,r⟩:=(show IsTupIter h it a i from x)
   exact (⟨o,e _ ho,r⟩ : IsTupIter h' it a i)
theorem eV.obj (x:eV tp h it a i):∃o,h.get? it=some o/\∀v,o.data≠.cell v:=by
 cases tp
 · obtain ⟨o,ho,_,d⟩:=(show h.IsListIter it a i from x)
   exact ⟨o,ho,fun v q=>by rw [d] at q; cases q⟩
 · obtain ⟨o,ho,_,d⟩:=(show IsTupIter h it a i from x)
   exact ⟨o,ho,fun v q=>by rw [d] at q; cases q⟩
theorem cY.stay (x:cY tp h a xs)(e:∀o,h.get? a=some o->h'.get? a=some o):cY tp h' a xs:=by
 cases tp
 · exact Heap.IsList.at (show h.IsList a xs from x) e
 · obtain ⟨o,ho,r⟩:=(show IsTup h a xs from x)
   exact (⟨o,e _ ho,r⟩ : IsTup h' a xs)
theorem cY.lt (x:cY tp h a xs):a < h.objs.size:=by
 cases tp
 · obtain ⟨o,ho,_⟩:=(show h.IsList a xs from x)
   exact G6 ho
 · exact IsTup.lt (show IsTup h a xs from x)
end
section
variable {prog:Program}{w:World}{A:Around}{E:Value->Shared->Prop}{s:Shared}{tp t1 t2:Bool}{it a:Addr}{i:Nat}{xs ys:Array Value}{x y:Value}
theorem oy {Q:Value->Shared->Prop}(hit:IsTupIter s.heap it a i)(hl:IsTup s.heap a xs)(hx:xs[i]? = some x)(hQ:∀g,IsTupIter g it a (i + 1)->Iw it s.heap g->Q x { s with heap:=g }) :
   wpAny (model prog w) A (HF (.ref it)) Q E s:=by
 obtain ⟨o,ho,hc,hd⟩:=id hit
 obtain ⟨o2,ho2,_,n2,hd2⟩:=hl
 unfold HF
 refine wpAny_bind (Ic (name:=GQ "__next__") hit.typeIs Ie (wpAny_call_entry Ie hit.typeIs Jt ?_ (Jw _)))
 show wpAny _ _ (field (.ref it) 0 >>= _) _ _ _
 refine wpAny_bind (wpAny_field ho hd (x:=.ref a) rfl ?_)
 show wpAny _ _ (if (HC a == Ip)=true then _ else _) _ _ s
 rw [if_neg (show ¬ ((HC a == Ip)=true) from G7)]
 show wpAny _ _ (field (.ref it) 1 >>= _) _ _ _
 refine wpAny_bind (wpAny_field ho hd (x:=.int i 0) rfl ?_)
 show wpAny _ _ (seqItems? (.ref a) >>= _) _ _ _
 refine wpAny_bind (wpAny_seqItems ho2 hd2 ?_)
 simp only [IV,hx]
 refine wpAny_bind (wpAny_setField ho hd (by simp) (wpAny_pure ⟨x,rfl,wpAny_pure (hQ _ ?_ (J8 ..))⟩))
 exact ⟨_,KL _ ho (Obj.isFreed_of_fields (Obj.data_mapFields hd _)),(Obj.cls_mapFields ..).trans hc,by rw [Obj.data_mapFields hd]; simp [rawInt]⟩
theorem q9 {Q:Value->Shared->Prop}(hh:A.handled=none)(hit:IsTupIter s.heap it a i)(hl:IsTup s.heap a xs)(hx:xs[i]? = none)
   (hE:∀g e,Heap.ExtBut it s.heap g->(∃o,g.get? e=some o/\o.cls=.type "StopIteration")->E (.ref e) { s with heap:=g }):wpAny (model prog w) A (HF (.ref it)) Q E s:=by
 obtain ⟨o,ho,hc,hd⟩:=id hit
 obtain ⟨o2,ho2,_,n2,hd2⟩:=hl
 unfold HF
 refine wpAny_bind (Ic (name:=GQ "__next__") hit.typeIs Ie (wpAny_call_entry Ie hit.typeIs Jt ?_ (Jw _)))
 show wpAny _ _ (field (.ref it) 0 >>= _) _ _ _
 refine wpAny_bind (wpAny_field ho hd (x:=.ref a) rfl ?_)
 show wpAny _ _ (if (HC a == Ip)=true then _ else _) _ _ s
 rw [if_neg (show ¬ ((HC a == Ip)=true) from G7)]
 show wpAny _ _ (field (.ref it) 1 >>= _) _ _ _
 refine wpAny_bind (wpAny_field ho hd (x:=.int i 0) rfl ?_)
 show wpAny _ _ (seqItems? (.ref a) >>= _) _ _ _
 refine wpAny_bind (wpAny_seqItems ho2 hd2 ?_)
 simp only [IV,hx]
 refine wpAny_bind (wpAny_rule (wpAny_bind (wpAny_setField ho hd (by simp) ?_)))
 show wpAny _ _ (newExc (.type "StopIteration") [] >>= _) _ _ _
 refine wpAny_bind ?_
 simp only [newExc,newTuple]
 refine wpAny_bind (wpAny_newObj_type ?_ (by size_fits))
 refine wpAny_bind (m:=firstArgMember _ _) (wpAny_of_eq (a:=Ip) (by first | rfl | (simp only [firstArgMember]; rfl)) ?_)
 refine wpAny_newObj_type ?_ (by size_fits)
 simp only [raiseNew]
 refine wpAny_bind (wpAny_handled ?_)
 first | rw [show A.in1.handled=none from hh] | rw [hh]
 refine wpAny_bind (wpAny_pure (wpAny_throw ?_))
 exact hE _ _ (((J8 ..).extBut.push _).push _) ⟨_,G9 _ rfl,rfl⟩
theorem fj {Q:Value->Shared->Prop}(hit:eV tp s.heap it a i)(hl:cY tp s.heap a xs)(hx:xs[i]? = some x)(hQ:∀g,eV tp g it a (i + 1)->Iw it s.heap g->Q x { s with heap:=g }) :
   wpAny (model prog w) A (HF (.ref it)) Q E s:=by
 cases tp
 · exact wpAny_nextOf_list_item (show s.heap.IsListIter it a i from hit) (show s.heap.IsList a xs from hl) hx hQ
 · exact oy (show IsTupIter s.heap it a i from hit) (show IsTup s.heap a xs from hl) hx hQ
theorem kW {Q:Value->Shared->Prop}(hh:A.handled=none)(hit:eV tp s.heap it a i)(hl:cY tp s.heap a xs)(hx:xs[i]? = none)
   (hE:∀g e,Heap.ExtBut it s.heap g->(∃o,g.get? e=some o/\o.cls=.type "StopIteration")->E (.ref e) { s with heap:=g }):wpAny (model prog w) A (HF (.ref it)) Q E s:=by
 cases tp
 · exact wpAny_nextOf_list_end hh (show s.heap.IsListIter it a i from hit) (show s.heap.IsList a xs from hl) hx hE
 · exact q9 hh (show IsTupIter s.heap it a i from hit) (show IsTup s.heap a xs from hl) hx hE
/-- a zip of two that was made when the heap had n objects,i items drawn -/
structure Z2 (t1 t2:Bool)(h:Heap)(n l1 l2:Addr)(i:Nat):Prop where
 z:IsZip h (n + 4) (n + 2) (n + 3) .none
 ti:IsPair h (n + 2) (.ref n) (.ref (n + 1))
 to:∃a b,IsPair h (n + 3) a b
 i1:eV t1 h n l1 i
 i2:eV t2 h (n + 1) l2 i
theorem rW {n l1 l2:Nat}{Q:Value->Shared->Prop}(n1:l1 < n)(n2:l2 < n)(Z:Z2 t1 t2 s.heap n l1 l2 i)(h1:cY t1 s.heap l1 xs)(h2:cY t2 s.heap l2 ys)(hx:xs[i]? = some x)(hy:ys[i]? = some y)
   (hQ:∀g,IsZip g (n + 4) (n + 2) (n + 3) (rawInt s.heap.objs.size)->IsPair g (n + 3) x y->eV t1 g n l1 (i + 1)->eV t2 g (n + 1) l2 (i + 1)->IsPair g s.heap.objs.size x y ->
     (∀c o,c ∉ ([n + 4,n + 3,n,n + 1]:List Addr)->s.heap.get? c=some o->g.get? c=some o)->Q (.ref s.heap.objs.size) { s with heap:=g }) :
   wpAny (model prog w) A (Builtin.«zip.__next__» ⟨[.ref (n + 4)],[]⟩) (fun fin s'=>∃v,fin=.done (.ret v)/\Q v s') E s:=by
 obtain ⟨zr,ti,⟨a,b,to⟩,j1,j2⟩:=Z
 show wpAny _ _ (field (.ref (n + 4)) 2 >>= _) _ _ _
 refine wpAny_bind (wpAny_field zr rfl (x:=.bool false) rfl ?_)
 show wpAny _ _ (field (.ref (n + 4)) 3 >>= _) _ _ _
 refine wpAny_bind (wpAny_field zr rfl (x:=.ref (n + 2)) rfl ?_)
 refine wpAny_bind (wpAny_seqItems ti rfl ?_)
 show wpAny _ _ (HY (.ref (n + 4)) >>= _) _ _ _
 refine wpAny_bind ?_
 unfold HY
 refine wpAny_bind (wpAny_field zr rfl (x:=.none) rfl (wpAny_pure ?_))
 simp only [if_true]
 refine wpAny_bind (wpAny_rule ?_)
 refine wpAny_bind (wpAny_field zr rfl (x:=.ref (n + 3)) rfl ?_)
 refine wpAny_bind (wpAny_setField_rec zr (by simp) fun g1 zr1 e1=>?_)
 replace zr1:IsZip g1 (n + 4) (n + 2) (n + 3) .ellipsis:=zr1
 refine wpAny_bind ?_
 simp only [List.zipIdx_cons,List.zipIdx_nil,JB,List.forIn_nil]
 refine wpAny_bind (wpAny_bind (wpAny_onRaise ?_))
 show wpAny _ _ (HF (.ref n) >>= _) _ _ _
 refine wpAny_bind (fj (j1.stay fun o e=>e1.extBut _ _ (show @Ne Nat _ _ by omega) e) (h1.stay fun o e=>e1.extBut _ _ (show @Ne Nat _ _ by omega) e) hx fun g2 k1 e2=>wpAny_pure ?_)
 have t2':IsPair g2 (n + 3) a b:=e2.extBut _ _ (show @Ne Nat _ _ by omega) (e1.extBut _ _ (show @Ne Nat _ _ by omega) to)
 refine wpAny_bind (wpAny_seqItems t2' rfl ?_)
 refine wpAny_bind (wpAny_updateSeq_pair t2' fun g3 t3 e3=>?_)
 replace t3:IsPair g3 (n + 3) x b:=t3
 refine wpAny_bind (wpAny_letGo (wpAny_pure ?_))
 have c3:∀d o,d≠n + 4->d≠n + 3->d≠n->s.heap.get? d=some o->g3.get? d=some o:=fun d o d1 d2 d3 e=>e3.extBut _ _ d2 (e2.extBut _ _ d3 (e1.extBut _ _ d1 e))
 refine wpAny_bind (wpAny_bind (wpAny_onRaise ?_))
 show wpAny _ _ (HF (.ref (n + 1)) >>= _) _ _ _
 refine wpAny_bind (fj (j2.stay fun o e=>c3 _ o (show @Ne Nat _ _ by omega) (show @Ne Nat _ _ by omega) (show @Ne Nat _ _ by omega) e) (h2.stay fun o e=>c3 _ o (show @Ne Nat _ _ by omega) (show @Ne Nat _ _ by omega) (show @Ne Nat _ _ by omega) e) hy fun g4 k2 e4=>wpAny_pure ?_)
 have t4:IsPair g4 (n + 3) x b:=e4.extBut _ _ (show @Ne Nat _ _ by omega) t3
 refine wpAny_bind (wpAny_seqItems t4 rfl ?_)
 refine wpAny_bind (wpAny_updateSeq_pair t4 fun g5 t5 e5=>?_)
 replace t5:IsPair g5 (n + 3) x y:=t5
 refine wpAny_bind (wpAny_letGo (wpAny_pure (wpAny_pure ?_)))
 refine wpAny_bind (wpAny_seqItems t5 rfl ?_)
 refine wpAny_bind (wpAny_newTuple ?_)
 have sz:g5.objs.size=s.heap.objs.size:=by rw [e5.1,e4.1,e3.1,e2.1,e1.1]
 have zr5:IsZip g5 (n + 4) (n + 2) (n + 3) .ellipsis:=e5.extBut _ _ (show @Ne Nat _ _ by omega) (e4.extBut _ _ (show @Ne Nat _ _ by omega) (e3.extBut _ _ (show @Ne Nat _ _ by omega) (e2.extBut _ _ (show @Ne Nat _ _ by omega) zr1)))
 have c5:∀d o,d≠n + 4->d≠n + 3->d≠n->d≠n + 1->s.heap.get? d=some o->g5.get? d=some o:=fun d o d1 d2 d3 d4 e=>e5.extBut _ _ d2 (e4.extBut _ _ d4 (c3 d o d1 d2 d3 e))
 have m1:eV t1 g5 n l1 (i + 1):=k1.stay fun o e=>e5.extBut _ _ (show @Ne Nat _ _ by omega) (e4.extBut _ _ (show @Ne Nat _ _ by omega) (e3.extBut _ _ (show @Ne Nat _ _ by omega) e))
 have m2:eV t2 g5 (n + 1) l2 (i + 1):=k2.stay fun o e=>e5.extBut _ _ (show @Ne Nat _ _ by omega) e
 have zlt:n + 4 < g5.objs.size:=G6 zr5
 show wpAny _ _ (Jd (.ref (n + 4)) (.ref g5.objs.size) >>= _) _ _ _
 refine wpAny_bind ?_
 unfold Jd
 have zr6:IsZip (g5.push { cls:=.type "tuple",data:=.seq #[x,y] }) (n + 4) (n + 2) (n + 3) .ellipsis:=GV _ zr5
 refine wpAny_bind (wpAny_setField_rec zr6 (by simp) fun g9 zr9 e9=>?_)
 replace zr9:IsZip g9 (n + 4) (n + 2) (n + 3) (rawInt g5.objs.size):=zr9
 refine wpAny_setField_rec zr9 (by simp) fun gA zrA eA=>?_
 replace zrA:IsZip gA (n + 4) (n + 2) (n + 3) (rawInt g5.objs.size):=zrA
 have up:∀d o,d≠n + 4->g5.get? d=some o->gA.get? d=some o:=fun d o d1 e=>eA.extBut _ _ d1 (e9.extBut _ _ d1 (GV _ e))
 have tA:IsPair gA g5.objs.size x y:=eA.extBut _ _ (Jf zlt) (e9.extBut _ _ (Jf zlt) (G9 _ rfl))
 rw [sz] at zrA tA
 refine wpAny_pure ⟨_,rfl,?_⟩
 show Q (.ref g5.objs.size) _
 rw [sz]
 refine hQ gA zrA (up _ _ (show @Ne Nat _ _ by omega) t5) (m1.stay fun o e=>up _ o (show @Ne Nat _ _ by omega) e) (m2.stay fun o e=>up _ o (show @Ne Nat _ _ by omega) e) tA fun d o hd e=>?_
 simp only [HL,HG,or_false,not_or] at hd
 exact up d o hd.1 (c5 d o hd.1 hd.2.1 hd.2.2.1 hd.2.2.2 e)
/-- one of both is at its end -/
theorem v7 {n l1 l2:Nat}{Q:Fin->Shared->Prop}(hh:A.handled=none)(n1:l1 < n)(n2:l2 < n)(Z:Z2 t1 t2 s.heap n l1 l2 i)(h1:cY t1 s.heap l1 xs)(h2:cY t2 s.heap l2 ys)(hx:xs[i]? = none\/ys[i]? = none)
   (hE:∀g e,(∀c o,c ∉ ([n + 4,n + 3,n,n + 1]:List Addr)->s.heap.get? c=some o->g.get? c=some o)->(∃o,g.get? e=some o/\o.cls=.type "StopIteration")->E (.ref e) { s with heap:=g }) :
   wpAny (model prog w) A (Builtin.«zip.__next__» ⟨[.ref (n + 4)],[]⟩) Q E s:=by
 obtain ⟨zr,ti,⟨a,b,to⟩,j1,j2⟩:=Z
 show wpAny _ _ (field (.ref (n + 4)) 2 >>= _) _ _ _
 refine wpAny_bind (wpAny_field zr rfl (x:=.bool false) rfl ?_)
 show wpAny _ _ (field (.ref (n + 4)) 3 >>= _) _ _ _
 refine wpAny_bind (wpAny_field zr rfl (x:=.ref (n + 2)) rfl ?_)
 refine wpAny_bind (wpAny_seqItems ti rfl ?_)
 show wpAny _ _ (HY (.ref (n + 4)) >>= _) _ _ _
 refine wpAny_bind ?_
 unfold HY
 refine wpAny_bind (wpAny_field zr rfl (x:=.none) rfl (wpAny_pure ?_))
 simp only [if_true]
 refine wpAny_bind (wpAny_rule ?_)
 refine wpAny_bind (wpAny_field zr rfl (x:=.ref (n + 3)) rfl ?_)
 refine wpAny_bind (wpAny_setField_rec zr (by simp) fun g1 zr1 e1=>?_)
 replace zr1:IsZip g1 (n + 4) (n + 2) (n + 3) .ellipsis:=zr1
 refine wpAny_bind ?_
 simp only [List.zipIdx_cons,List.zipIdx_nil,JB,List.forIn_nil]
 refine wpAny_bind (wpAny_bind (wpAny_onRaise ?_))
 show wpAny _ _ (HF (.ref n) >>= _) _ _ _
 cases q:xs[i]? with
 | none=>
   refine wpAny_bind (kW hh (j1.stay fun o e=>e1.extBut _ _ (show @Ne Nat _ _ by omega) e) (h1.stay fun o e=>e1.extBut _ _ (show @Ne Nat _ _ by omega) e) q fun g2 e e2 he=>?_)
   obtain ⟨oe,hoe,hce⟩:=he
   have zr2:IsZip g2 (n + 4) (n + 2) (n + 3) .ellipsis:=e2 _ _ (show @Ne Nat _ _ by omega) zr1
   have hez:e≠n + 4:=fun q=>by subst q; rw [zr2] at hoe; cases hoe; simp at hce
   refine wpAny_setField_rec zr2 (by simp) fun g3 _ e3=>hE g3 e (fun d o hd q=>?_) ⟨oe,e3.extBut _ _ hez hoe,hce⟩
   simp only [HL,HG,or_false,not_or] at hd
   exact e3.extBut _ _ hd.1 (e2 _ _ hd.2.2.1 (e1.extBut _ _ hd.1 q))
 | some x=>
   have hy:ys[i]? = none:=hx.resolve_left (by rw [q]; exact fun z=>nomatch z)
   refine wpAny_bind (fj (j1.stay fun o e=>e1.extBut _ _ (show @Ne Nat _ _ by omega) e) (h1.stay fun o e=>e1.extBut _ _ (show @Ne Nat _ _ by omega) e) q fun g2 k1 e2=>wpAny_pure ?_)
   have t2':IsPair g2 (n + 3) a b:=e2.extBut _ _ (show @Ne Nat _ _ by omega) (e1.extBut _ _ (show @Ne Nat _ _ by omega) to)
   refine wpAny_bind (wpAny_seqItems t2' rfl ?_)
   refine wpAny_bind (wpAny_updateSeq_pair t2' fun g3 t3 e3=>?_)
   refine wpAny_bind (wpAny_letGo (wpAny_pure ?_))
   have c3:∀d o,d≠n + 4->d≠n + 3->d≠n->s.heap.get? d=some o->g3.get? d=some o:=fun d o d1 d2 d3 e=>e3.extBut _ _ d2 (e2.extBut _ _ d3 (e1.extBut _ _ d1 e))
   refine wpAny_bind (wpAny_bind (wpAny_onRaise ?_))
   show wpAny _ _ (HF (.ref (n + 1)) >>= _) _ _ _
   refine wpAny_bind (kW hh (j2.stay fun o e=>c3 _ o (show @Ne Nat _ _ by omega) (show @Ne Nat _ _ by omega) (show @Ne Nat _ _ by omega) e) (h2.stay fun o e=>c3 _ o (show @Ne Nat _ _ by omega) (show @Ne Nat _ _ by omega) (show @Ne Nat _ _ by omega) e) hy fun g4 e e4 he=>?_)
   obtain ⟨oe,hoe,hce⟩:=he
   have zr4:IsZip g4 (n + 4) (n + 2) (n + 3) .ellipsis:=e4 _ _ (show @Ne Nat _ _ by omega) (e3.extBut _ _ (show @Ne Nat _ _ by omega) (e2.extBut _ _ (show @Ne Nat _ _ by omega) zr1))
   have hez:e≠n + 4:=fun q=>by subst q; rw [zr4] at hoe; cases hoe; simp at hce
   refine wpAny_setField_rec zr4 (by simp) fun g5 _ e5=>hE g5 e (fun d o hd q=>?_) ⟨oe,e5.extBut _ _ hez hoe,hce⟩
   simp only [HL,HG,or_false,not_or] at hd
   exact e5.extBut _ _ hd.1 (e4 _ _ hd.2.2.2 (c3 d o hd.1 hd.2.1 hd.2.2.1 q))
end
abbrev z2H2 (t1 t2:Bool)(h:Heap)(l1 l2:Addr):Heap:=(h.push (itObj t1 l1)).push (itObj t2 l2)
abbrev z2H (t1 t2:Bool)(h:Heap)(l1 l2:Addr):Heap:=(((z2H2 t1 t2 h l1 l2).push { cls:=.type "tuple",data:=.seq #[.ref h.objs.size,.ref (h.objs.size + 1)] }).push { cls:=.type "tuple",data:=.seq #[.none,.none] }).push
 { cls:=.type "zip",data:=.fields #[.none,.bool false,.bool false,.ref (h.objs.size + 2),.ref (h.objs.size + 3)] }
theorem yZ {prog:Program}{w:World}{A:Around}{E:Value->Shared->Prop}{s:Shared}{tp:Bool}{a:Addr}{xs:Array Value}{Q:Value->Shared->Prop}(hl:cY tp s.heap a xs)(hQ:Q (.ref s.heap.objs.size) { s with heap:=s.heap.push (itObj tp a) }):wpAny (model prog w) A (pyIter (.ref a)) Q E s:=by
 cases tp
 · exact wpAny_pyIter_list (show s.heap.IsList a xs from hl) hQ
 · exact PyProof.Rows.iter_tuple (show IsTup s.heap a xs from hl) hQ
theorem ox (t1 t2:Bool)(l1 l2:Addr)(xs ys:Array Value) :
   Meets (Builtin.«zip.__new__» ⟨[.type "zip",.ref l1,.ref l2],[]⟩) (fun _ R s=>cY t1 s.heap l1 xs/\cY t2 s.heap l2 ys/\R (.ok (.ret (.ref (s.heap.objs.size + 4)))) { s with heap:=z2H t1 t2 s.heap l1 l2 }):=
 .of_wp fun prog w A R s h=>by
   obtain ⟨hp,g,d,tk,os⟩:=s; obtain ⟨q1,q2,h⟩:=h
   have hsub:=sub_zip
   have L1:cY t1 (Shared.heap ⟨hp,g,d,tk,os⟩) l1 xs:=q1
   have L2:cY t2 (Shared.heap ⟨hp.push (itObj t1 l1),g,d,tk,os⟩) l2 ys:=cY.stay q2 fun o e=>GV _ e
   wp_walk using yZ L1,yZ L2
   refine ⟨_,rfl,?_⟩
   simp only [Jg] at h ⊢
   exact h
theorem qe {prog:Program}{w:World}{A:Around}{E:Value->Shared->Prop}{s:Shared}{t1 t2:Bool}{l1 l2:Addr}{xs ys:Array Value}{Q:Value->Shared->Prop}(q1:cY t1 s.heap l1 xs)(q2:cY t2 s.heap l2 ys)
   (h:∀g,Z2 t1 t2 g s.heap.objs.size l1 l2 0->(∀c o,s.heap.get? c=some o->g.get? c=some o)->Q (.ref (s.heap.objs.size + 4)) { s with heap:=g }) :
   wpAny (model prog w) A (call (.type "zip") [.ref l1,.ref l2]) Q E s:=by
 refine callType_new F.called_zip (by decide) (F.typeCall_zip_2 _ _) (F.newCall_zip_2 _ _) (fun obj=>F.args_object_init_3 obj _ _) F.entry_zip_new (ox t1 t2 l1 l2 xs ys) ⟨q1,q2,?_⟩
 have sz:∀(hh:Heap) (o:Obj),(hh.push o).objs.size=hh.objs.size + 1:=fun hh o=>Jg hh o
 have e1:(z2H2 t1 t2 s.heap l1 l2).objs.size=s.heap.objs.size + 2:=by rw [sz,sz]
 have g4:(z2H t1 t2 s.heap l1 l2).get? (s.heap.objs.size + 4)=some { cls:=.type "zip",data:=.fields #[.none,.bool false,.bool false,.ref (s.heap.objs.size + 2),.ref (s.heap.objs.size + 3)] }:=by
   have:=G9 (((z2H2 t1 t2 s.heap l1 l2).push { cls:=.type "tuple",data:=.seq #[.ref s.heap.objs.size,.ref (s.heap.objs.size + 1)] }).push { cls:=.type "tuple",data:=.seq #[.none,.none] }) (o:={ cls:=.type "zip",data:=.fields #[.none,.bool false,.bool false,.ref (s.heap.objs.size + 2),.ref (s.heap.objs.size + 3)] }) rfl
   rw [sz,sz,e1] at this
   exact this
 have g3:IsPair (z2H t1 t2 s.heap l1 l2) (s.heap.objs.size + 3) .none .none:=by
   have:=G9 ((z2H2 t1 t2 s.heap l1 l2).push { cls:=.type "tuple",data:=.seq #[.ref s.heap.objs.size,.ref (s.heap.objs.size + 1)] }) (o:={ cls:=.type "tuple",data:=.seq #[.none,.none] }) rfl
   rw [sz,e1] at this
   exact GV _ this
 have g2:IsPair (z2H t1 t2 s.heap l1 l2) (s.heap.objs.size + 2) (.ref s.heap.objs.size) (.ref (s.heap.objs.size + 1)):=by
   have:=G9 (z2H2 t1 t2 s.heap l1 l2) (o:={ cls:=.type "tuple",data:=.seq #[.ref s.heap.objs.size,.ref (s.heap.objs.size + 1)] }) rfl
   rw [e1] at this
   exact GV _ (GV _ this)
 have free:∀(tp:Bool) (a:Addr),(itObj tp a).isFreed=false:=fun tp a=>rfl
 have g1:(z2H t1 t2 s.heap l1 l2).get? (s.heap.objs.size + 1)=some (itObj t2 l2):=by
   have:=G9 (s.heap.push (itObj t1 l1)) (o:=itObj t2 l2) (free _ _)
   rw [sz] at this
   exact GV _ (GV _ (GV _ this))
 have g0:(z2H t1 t2 s.heap l1 l2).get? s.heap.objs.size=some (itObj t1 l1):=
   GV _ (GV _ (GV _ (GV _ (G9 _ (free _ _)))))
 have mk:∀(tp:Bool) (b a:Addr) (hh:Heap),hh.get? b=some (itObj tp a)->eV tp hh b a 0:=fun tp b a hh e=>by
   cases tp
   · exact (⟨_,e,rfl,rfl⟩ : hh.IsListIter b a 0)
   · exact (⟨_,e,rfl,rfl⟩ : IsTupIter hh b a 0)
 show _/\_
 exact ⟨⟨_,g4,rfl⟩,h _ ⟨g4,g2,⟨_,_,g3⟩,mk _ _ _ _ g0,mk _ _ _ _ g1⟩ fun c o x=>
   GV _ (GV _ (GV _ (GV _ (GV _ x))))⟩
end PySem
set_option Elab.async false
set_option linter.all false
set_option maxRecDepth 100000
/-! zip of two,each a list or a tuple: its rules -/
namespace L2
open PySem PySem.Spec PyProof.Rows
def Sq (tp:Bool)(K:GP)(H:Hp)(a:Addr)(xs:List V):Prop:=if tp then aC K H a xs else aw K H a xs
section
variable {X:Cx}{pins:List (Addr×Obj)}{σ:St}{H:Hp}{s:Shared}{tp t1 t2:Bool}{a b:Addr}{xs ys:List V}
theorem Inv.sq (I:Inv X pins σ H s)(h:Sq tp X.K H a xs):∃its:List Value,Vals xs its/\cY tp s.heap a its.toArray/\xs.length<=sizeLine:=by
 cases tp
 · obtain ⟨its,r,p,z⟩:=I.list (show aw X.K H a xs from h)
   exact ⟨its,r,p.isList,z⟩
 · exact I.tuple (show aC X.K H a xs from h)
theorem Inv.sq_inj (I:Inv X pins σ H s)(h:Sq tp X.K H a xs)(h':Sq tp X.K H a ys):xs=ys:=by
 cases tp
 · exact I.list_inj (show aw X.K H a xs from h) h'
 · exact I.tuple_inj (show aC X.K H a xs from h) h'
def zA (t1 t2:Bool)(K:GP)(a b:Addr):It:=
 ⟨fun i H=>∃xs ys x y,Sq t1 K H a xs/\Sq t2 K H b ys/\xs[i]? = some x/\ys[i]? = some y,
  fun i H v H'=>∃p x y,H p=none/\v=.ref p/\H'=upd H p (.tup [x,y])/\∀xs ys,Sq t1 K H a xs->Sq t2 K H b ys->xs[i]? = some x/\ys[i]? = some y,
  fun i H=>∃xs ys,Sq t1 K H a xs/\Sq t2 K H b ys/\(xs.length<=i\/ys.length<=i)⟩
theorem rT {P:Program}{w:World}{K:GP}{elts:List Expr}{x1:Nat}{q:Pos}{n:Nat}{a b:Nat}(n1:a < n)(n2:b < n) :
   Turn P w K (.Tuple elts x1 q) (zA t1 t2 K a b) [n + 4,n + 2,n + 3,n,n + 1] (n + 4) (fun i h=>Z2 t1 t2 h n a b i) where
 mem:=by simp
 obj:=fun i h Z c hc=>by
   obtain ⟨z,ti,⟨x,y,to⟩,i1,i2⟩:=Z
   simp only [HL,HG,or_false] at hc
   rcases hc with rfl | rfl | rfl | rfl | rfl
   · exact ⟨_,z,fun v q=>nomatch q⟩
   · exact ⟨_,ti,fun v q=>nomatch q⟩
   · exact ⟨_,to,fun v q=>nomatch q⟩
   · exact i1.obj
   · exact i2.obj
 keep:=fun i h h' Z k=>by
   obtain ⟨z,ti,⟨x,y,to⟩,i1,i2⟩:=Z
   exact ⟨k _ (by simp) _ z,k _ (by simp) _ ti,⟨x,y,k _ (by simp) _ to⟩,i1.stay fun o e=>k _ (by simp) o e,i2.stay fun o e=>k _ (by simp) o e⟩
 item:=by
   intro X hP hw hK hc i pins s σ H E I hf Z hg
   subst hP hw hK
   obtain ⟨xs,ys,x,y,q1,q2,hx,hy⟩:=hg
   obtain ⟨its1,r1,p1,_⟩:=I.sq q1
   obtain ⟨its2,r2,p2,_⟩:=I.sq q2
   obtain ⟨u,hu,ru⟩:=r1.get hx
   obtain ⟨v,hv,rv⟩:=r2.get hy
   have hT:s.TypeIs (.ref (n + 4)) "zip":=⟨_,Z.z,rfl⟩
   unfold pyNext
   refine wpAny_bind (wpAny_attempt (Ic (name:=GQ "__next__") hT IQ (wpAny_call_entry IQ hT Kl
     (rW n1 n2 Z p1 p2 (x:=u) (y:=v) (by simpa using hu) (by simpa using hv) fun g a1 a2 a3 a4 a5 hk=>wpAny_pure ?_) (Ke _))))
   refine ⟨_,rfl,wpAny_letOwnedTupleGo_zip (s:={ s with heap:=g }) a1 fun g2 z2 e2=>?_⟩
   have hN:H s.heap.objs.size=none:=I.hok.fresh (GX _)
   have ltz:n + 4 < s.heap.objs.size:=G6 Z.z
   have kk:∀c o,c ∉ ([n + 4,n + 3,n,n + 1]:List Addr)->s.heap.get? c=some o->g2.get? c=some o:=fun c o hc' e=>
     e2.extBut _ _ (fun z=>hc' (by rw [z]; simp)) (hk c o hc' e)
   have hT2:IsPair g2 s.heap.objs.size u v:=e2.extBut _ _ (Jf ltz) a5
   have I1:Inv X pins σ (upd H s.heap.objs.size (.tup [x,y])) { s with heap:=g2,toks:=s.toks }:=I.many (ch:=[n + 4,n + 3,n,n + 1]) (fun c hc'=>hf c (by simp only [HL,HG,or_false] at hc' ⊢; rcases hc' with r | r | r | r <;> simp [r])) kk (GX _)
     ⟨by show 2<=sizeLine; decide,[u,v],.cons ru (.cons rv .nil),_,hT2,rfl,_,rfl⟩
   refine ⟨.ref s.heap.objs.size,_,I1,rfl,⟨_,x,y,hN,rfl,rfl,fun xs' ys' w1 w2=>?_⟩,?_,fun c hc'=>?_⟩
   · rw [I.sq_inj w1 q1,I.sq_inj w2 q2]; exact ⟨hx,hy⟩
   · exact ⟨z2,e2.extBut _ _ (show @Ne Nat _ _ by omega) (hk _ _ (by simp only [HL,HG,or_false,not_or]; exact ⟨show @Ne Nat _ _ by omega,show @Ne Nat _ _ by omega,show @Ne Nat _ _ by omega,show @Ne Nat _ _ by omega⟩) Z.ti),⟨_,_,e2.extBut _ _ (show @Ne Nat _ _ by omega) a2⟩,a3.stay fun o e=>e2.extBut _ _ (show @Ne Nat _ _ by omega) e,a4.stay fun o e=>e2.extBut _ _ (show @Ne Nat _ _ by omega) e⟩
   · have lt:c < s.heap.objs.size:=by
       have:c<=n + 4:=by
         simp only [HL,HG,or_false] at hc'
         have:=hc'
         have h2 : @Eq Nat c (n + 4) \/ @Eq Nat c (n + 2) \/ @Eq Nat c (n + 3) \/ @Eq Nat c n \/ @Eq Nat c (n + 1):=hc'
         show @LE.le Nat _ c (n + 4)
         omega
       exact Ho this ltz
     rw [aj (HE lt)]
     exact (hf c hc').1
 done:=by
   intro X hP hw hK hc i pins s σ H E I hf Z hg
   subst hP hw hK
   obtain ⟨xs,ys,q1,q2,hend⟩:=hg
   obtain ⟨its1,r1,p1,_⟩:=I.sq q1
   obtain ⟨its2,r2,p2,_⟩:=I.sq q2
   have l1:=r1.length
   have l2:=r2.length
   have hT:s.TypeIs (.ref (n + 4)) "zip":=⟨_,Z.z,rfl⟩
   unfold pyNext
   refine wpAny_bind (wpAny_attempt (Ic (name:=GQ "__next__") hT IQ (wpAny_call_entry IQ hT Kl
     (v7 (I.ok.hd hc) n1 n2 Z p1 p2 ?_ fun g e hk he=>?_) (Ke _))))
   · rcases hend with q | q
     · exact .inl (by simp; omega)
     · exact .inr (by simp; omega)
   · obtain ⟨o,ho,hcl⟩:=he
     refine wpAny_bind (wpAny_isInstance (T:="StopIteration") (b:=true) ⟨o,ho,hcl⟩ isSubtype_stop (wpAny_pure ⟨rfl,?_⟩))
     exact I.many0 (t':=s.toks) (ch:=[n + 4,n + 3,n,n + 1]) (fun c hc'=>hf c (by simp only [HL,HG,or_false] at hc' ⊢; rcases hc' with r | r | r | r <;> simp [r])) hk
 self:=fun _ _ _ _ _ Z h=>wpAny_pyIter_zip Z.z h
def yY (t1 t2:Bool)(K:GP)(ta:TA):TI:=fun σ H R=>ta σ H fun vs H1=>∃a b,vs=[.ref a,.ref b]/\(∃xs,Sq t1 K H1 a xs)/\(∃ys,Sq t2 K H1 b ys)/\R (zA t1 t2 K a b) H1
theorem yc {e f:Expr}{ta:TA}{p pos q:Pos}{elts:List Expr}{x1:Nat}(hg:Gl X "zip")(hm:X.mg "zip"=none)(ha:PA X [e,f] ta)(hs:starEach [e,f] X.env=[(false,eval e X.env),(false,eval f X.env)]:=by rfl)(hs2:starEach [f] X.env=[(false,eval f X.env)]:=by rfl)
   (hb:bootBuiltins "zip"=some (.type "zip"):=by first | rfl | decide +kernel):PI X (.Tuple elts x1 q) (.Call (.Name "zip" p) [e,f] [] pos) (yY t1 t2 X.K ta):=by
 intro pins s σ H R I h
 refine Call_ (dY I hg hm hb (HZ (bb (ha pos pins s σ H _ I h) fun us s1 ⟨vs,H1,I1,r1,w⟩=>?_) (by rw [hs,hs2]) (by rw [hs2]; rfl)))
 obtain ⟨l1,l2,e,⟨xs,q1⟩,⟨ys,q2⟩,w⟩:=w
 subst e
 obtain ⟨u,v,rfl,ru,rv⟩:=Vals.two r1
 obtain rfl:u=HC l1:=ru
 obtain rfl:v=HC l2:=rv
 obtain ⟨its1,rv1,p1,_⟩:=I1.sq q1
 obtain ⟨its2,rv2,p2,_⟩:=I1.sq q2
 refine qe p1 p2 fun g Z hk=>?_
 refine wpAny_pyIter_zip Z.z ?_
 have I2:Inv X pins σ H1 { s1 with heap:=g }:=I1.kept (t':=s1.toks) hk
 refine ⟨_,_,_,_,H1,rfl,I2,rT p1.lt p2.lt,Z,fun c hc=>?_,w⟩
 simp only [HL,HG,or_false] at hc
 have up:∀k,dN X pins H1 (s1.heap.objs.size + k):=fun k=>I1.fpOk (Ju _ _) (I1.hok.fresh (Ju _ _))
 rcases hc with rfl | rfl | rfl | rfl | rfl
 · exact up 4
 · exact up 2
 · exact up 3
 · exact up 0
 · exact up 1
end
section
variable {K:GP}{a b:Addr}{xs ys:List V}{g:TG}{t1 t2:Bool}
theorem kC {tifs:TT}{tm:TM}{σ0:St}{Z:Hp->Prop}{H:Hp}(hlen:xs.length=ys.length)(Pv:Nat->Hp->Prop)(h0:Pv 0 H)(hl:∀i H,i<=xs.length->Pv i H->Sq t1 K H a xs/\Sq t2 K H b ys)
   (turn:∀i x y p H,xs[i]? = some x->ys[i]? = some y->Pv i H->H p=none->g (.ref p) σ0 (upd H p (.tup [x,y])) fun σ2 H2=>tifs σ2 H2 fun b H3=>
     if b=true then tm σ2 H3 fun H4=>aY σ0 σ2/\∃m',m' < xs.length - i/\(m'=xs.length - (i + 1)/\i + 1<=xs.length/\Pv (i + 1) H4) else aY σ0 σ2/\∃m',m' < xs.length - i/\(m'=xs.length - (i + 1)/\i + 1<=xs.length/\Pv (i + 1) H3))
   (hZ:∀H,Pv xs.length H->Z H):ie (zA t1 t2 K a b) σ0 g tifs tm Z H:=by
 refine fA xs.length Pv h0 (fun i H hi p=>⟨xs,ys,xs[i],ys[i]'(hlen ▸ hi),(hl i H (HV hi) p).1,(hl i H (HV hi) p).2,by simp [hi],by simp [hlen ▸ hi]⟩) (fun H p=>⟨xs,ys,(hl _ H (GX _) p).1,(hl _ H (GX _) p).2,.inl (GX _)⟩) (fun i H hi p x H' y=>?_) hZ
 obtain ⟨pp,x1,y1,hn,rfl,rfl,k⟩:=y
 obtain ⟨k1,k2⟩:=k xs ys (hl i H (HV hi) p).1 (hl i H (HV hi) p).2
 exact turn i x1 y1 pp H k1 k2 p hn
end
end L2
namespace L3
open PySem PySem.Spec PyProof.Rows L2
section
variable {X:Cx}{a b c e o:Expr}{es:List Expr}{ta tb tc te:TE}{t:TA}{pos:Pos}
theorem FK (t1 t2:Bool){KK:GP}{p q:Pos}{elts:List Expr}{x1:Nat}(hg:Gl X "zip")(hm:X.mg "zip"=none)(ha:SA X [a,b] t)(hb:bG b:=by first | exact lS | exact oC | exact lR)(hK:X.K=KK:=by first | exact cxC_K | rfl):SI X (.Tuple elts x1 q) (.Call (.Name "zip" p) [a,b] [] pos) (yY t1 t2 KK t):=by
 subst hK
 exact ⟨yc hg hm ha.h.pa (by rw [(ha.h.ns a [b] rfl).1.h [b] X.env,hb.h [] X.env]; rfl) (by rw [hb.h [] X.env]; rfl)⟩
end
end L3
set_option Elab.async false
set_option linter.all false
set_option maxRecDepth 100000
/-! texts: str(..),join,parts told exactly,a text in a text,>>; a dict of texts that the text's top level keeps -/
namespace L2
open PySem PySem.Spec PyProof.Rows
section
variable {X:Cx}
theorem k9:∀{ts:List Str} {us:List Value},Vals (ts.map V.str) us->∃l:List (Str×Tok),us=strValues l/\l.map (·.1)=ts
 | [],_,.nil=>⟨[],rfl,rfl⟩
 | t :: ts,_,.cons h r=>by
   obtain ⟨k,rfl⟩:=h
   obtain ⟨l,rfl,e⟩:=k9 r
   exact ⟨(t,k) :: l,rfl,by rw [Hi,e]⟩
def rJoin (K:GP):V->List V->Hp->VK->Prop:=fun x xs H Q=>∃(z:Str) (l:Addr) (ts:List Str),x=.str z/\xs=[.ref l]/\aw K H l (ts.map V.str)/\JoinOk z ts=true/\Q (.str (Hj z ts)) H
theorem xc:zB X "str.join" (rJoin X.K):=by
 intro pins s σ H x xs v us Q I rx rs h
 obtain ⟨z,l,ts,rfl,rfl,hl,hj,q⟩:=h
 obtain ⟨t,rfl⟩:=rx
 obtain ⟨u,rfl,ru⟩:=vals1 rs
 obtain rfl:u=HC l:=ru
 obtain ⟨its,r,p,_⟩:=I.list hl
 obtain ⟨ps,rfl,e⟩:=k9 r
 exact SC.join p.isList e hj fun t' k=>⟨.str _,H,I.tok _,⟨_,rfl⟩,q⟩
theorem qc:bZ X (.type "str") (fun xs H Q=>(∃i:Int,xs=[.int i]/\i.natAbs.log2 < 1920/\Q (.str (toString i)) H)\/∃y,xs=[.str y]/\Q (.str y) H):=by
 intro pins s σ H xs us Q I r h
 rcases h with h | ⟨y,rfl,q⟩
 · exact lB pins s σ H xs us Q I r h
 · obtain ⟨u,rfl,t,rfl⟩:=vals1 r
   exact PySem.P.str_of_str ⟨.str y,H,I,⟨_,rfl⟩,q⟩
theorem AM:eW X (compareOp .In) (fun x y H Q=>∃a b:Str,x=.str a/\y=.str b/\Q (.bl (J1 b a)) H):=by
 intro pins s σ H x y v u Q I rx ry h
 obtain ⟨a,b,rfl,rfl,q⟩:=h
 obtain ⟨t,rfl⟩:=rx
 obtain ⟨t2,rfl⟩:=ry
 exact SB.contains ⟨.bl _,H,I,rfl,q⟩
/-! parts of a text,told exactly -/
abbrev TF2:=St->Hp->Str->(Str->Hp->Prop)->Prop
def zD (X:Cx)(parts:List Expr)(t:TF2):Prop:=∀(pins:List (Addr×Obj)) (s:Shared) (σ:St) (H:Hp) (acc:Str) (k:Str->Hp->Prop),Inv X pins σ H s->t σ H acc k ->
 Joins (model X.prog X.w) X.A X.xe (evalEach parts X.env) acc (fun out s1=>out.length<=sizeLine/\EP X pins σ (fun v H'=>∃y,v=.str y/\k y H') (.str out s1.toks) { s1 with toks:=s1.toks + 1 }) s
variable {a:Expr}{ps:List Expr}{t:TF2}{te:TE}{pos:Pos}
theorem Bh:zD X [] (fun _ H acc k=>acc.length<=sizeLine/\k acc H):=fun pins s σ H acc k I h=>⟨h.1,.str acc,H,I.tok _,⟨_,rfl⟩,acc,rfl,h.2⟩
theorem Bi {x:Str}{j}(hr:zD X ps t):zD X (.Constant (.str x) j pos :: ps) (fun σ H acc k=>(acc++x).length<=sizeLine/\t σ H (acc++x) k):=by
 intro pins s σ H acc k I h
 have hp:=vc (X:=X) (x:=x) (j:=j) (pos:=pos) pins s σ H (fun v H1=>v=.str x/\H1=H) I ⟨rfl,rfl⟩
 refine bb hp fun u s1 ⟨v,H1,I1,rv,e1,e2⟩=>?_
 subst e1 e2
 obtain ⟨tk,rfl⟩:=rv
 exact ⟨x,tk,rfl,h.1,hr pins s1 σ H1 (acc++x) k I1 h.2⟩
theorem Bl (ha:PE X a te)(hr:zD X ps t):zD X (.FormattedValue a (-1) none pos :: ps) (fun σ H acc k=>te σ H fun x H1=>∃y,x=.str y/\y.length<=sizeLine/\(acc++y).length<=sizeLine/\t σ H1 (acc++y) k):=by
 intro pins s σ H acc k I h
 refine FormattedValue_plain (bb (ha pins s σ H _ I h) fun u s1 ⟨v,H1,I1,rv,y,e,hy,hl,q⟩=>?_)
 subst e
 obtain ⟨tk,rfl⟩:=rv
 exact formatField_str (fun t' tk'=>⟨y,_,rfl,hl,hr pins _ σ H1 _ k (I1.tok _) q⟩) hy
theorem u6 {v1 v2:Expr}(h:zD X (v1 :: v2 :: ps) t):PE X (.JoinedStr (v1 :: v2 :: ps) pos) (fun σ H Q=>t σ H HM fun y H1=>Q (.str y) H1):=by
 intro pins s σ H Q I hq
 refine PySem.wpAny_JoinedStr ?_
 have j:=h pins s σ H HM (fun y H1=>Q (.str y) H1) I hq
 have go:∀(l:List (Sem Value)) (acc:Str) (s:Shared),Joins (model X.prog X.w) X.A X.xe l acc (fun out s1=>out.length<=sizeLine/\EP X pins σ (fun v H'=>∃y,v=.str y/\Q (.str y) H') (.str out s1.toks) { s1 with toks:=s1.toks + 1 }) s ->
     Joins (model X.prog X.w) X.A X.xe l acc (fun out s1=>out.length<=sizeLine/\EP X pins σ Q (.str out s1.toks) { s1 with toks:=s1.toks + 1 }) s:=by
   intro l
   induction l with
   | nil=>
     rintro acc s ⟨h1,v,H',I',r,y,e,q⟩
     subst e
     exact ⟨h1,_,H',I',r,q⟩
   | cons x l ih=>
     intro acc s hj
     exact bb hj fun u s1 ⟨y,tk,e,hl,r⟩=>⟨y,tk,e,hl,ih _ _ r⟩
 exact go _ _ _ j
/-! a dict of the text's top level: its keys are texts -/
end
end L2
namespace L3
open PySem PySem.Spec PyProof.Rows L2
section
variable {X:Cx}{a b c e o:Expr}{es:List Expr}{ta tb tc te:TE}{t:TA}{tf:TF2}{pos:Pos}
theorem ib {KK:GP}{apos:Pos}(ho:SE X o ta)(ha:SA X [e] t)(hbase:attributeBase o "join" X.env (eval o X.env)=eval o X.env:=by rfl)(hline:(apos.endLine == pos.line)=true:=by rfl)(hK:X.K=KK:=by first | exact cxC_K | rfl):SE X (.Call (.Attribute o "join" apos) [e] [] pos) (BW KK "str" (rJoin KK) ta t):=by
 subst hK
 exact En Kk PySem.F.slot_str_join PySem.F.type_str_join ⟨xc⟩ ho ha hbase hline
theorem fz:SC X (.type "str") (fun xs H Q=>(∃i:Int,xs=[.int i]/\i.natAbs.log2 < 1920/\Q (.str (toString i)) H)\/∃y,xs=[.str y]/\Q (.str y) H):=⟨qc⟩
theorem lr:SC X (.builtin "len") (fun xs H Q=>∃z,xs=[.str z]/\z.length<=sizeLine/\Q (.int z.length) H):=⟨lz⟩
theorem uI:SO X (compareOp .In) (fun x y H Q=>∃a b:Str,x=.str a/\y=.str b/\Q (.bl (J1 b a)) H):=⟨AM⟩
theorem C4:SO X (binaryOp .RShift) (rI (fun _ j=>0<=j) fun i j=>.int (i / 2 ^ j.toNat)):=⟨AX⟩
structure Cc (X:Cx)(ps:List Expr)(t:TF2):Prop where
 h:zD X ps t
theorem hn:Cc X [] (fun _ H acc k=>acc.length<=sizeLine/\k acc H):=⟨Bh⟩
theorem hs {x:Str}{j}(hr:Cc X es tf):Cc X (.Constant (.str x) j pos :: es) (fun σ H acc k=>(acc++x).length<=sizeLine/\tf σ H (acc++x) k):=⟨Bi hr.h⟩
theorem hv (ha:SE X a ta)(hr:Cc X es tf):Cc X (.FormattedValue a (-1) none pos :: es) (fun σ H acc k=>ta σ H fun x H1=>∃y,x=.str y/\y.length<=sizeLine/\(acc++y).length<=sizeLine/\tf σ H1 (acc++y) k):=⟨Bl ha.h hr.h⟩
theorem Aa (h:Cc X (a :: b :: es) tf):SE X (.JoinedStr (a :: b :: es) pos) (fun σ H Q=>tf σ H HM fun y H1=>Q (.str y) H1):=⟨u6 h.h⟩
end
end L3
set_option Elab.async false
set_option linter.all false
set_option maxRecDepth 100000
/-! texts: split,int(text),parts; x in a dict of the top level,its get; pop(),x.f += y -/
namespace PySem.StrLaws
open Builtin Builtin.Str
theorem lV (s sub:Str)(hi limit:Nat):∀(l:List Nat) (st:Array Nat×Nat),st.fst.size<=limit->(forIn l st (occBody s sub hi limit)).run.fst.size<=limit
 | [],_,h=>h
 | a :: l,st,h=>by
   rw [JB]
   unfold occBody
   split
   · rename_i hc
     refine lV s sub hi limit l _ ?_
     show (st.fst.push a).size<=limit
     rw [Array.size_push]
     have:=hc.1.1.1
     omega
   · exact lV s sub hi limit l _ h
theorem xp (x y:Str)(limit:Nat):(occurrences x y 0 x.length limit).length<=limit:=by
 rw [occ_eq]
 have:=lV x y x.length limit (List.range' 0 (x.length + 1 - 0)) (#[],0) (HD _)
 simpa using this
theorem rD (x y:Str):(partsBetween x (occurrences x y 0 x.length (x.length + 1)) y.length).length<=x.length + 2:=by
 have:=xp x y (x.length + 1)
 unfold partsBetween
 simp
 omega
end PySem.StrLaws
namespace L2
open PySem PySem.Spec PyProof.Rows
section
variable {X:Cx}
def vy:V->List V->Hp->VK->Prop:=fun x xs H Q=>∃(z y:Str),x=.str z/\xs=[.str y]/\(y.length == 0)=false/\z.length + 2<=sizeLine/\(Jc z y).length<=sizeLine/\∀l,H l=none->Q (.ref l) (upd H l (.lst ((Jc z y).map V.str)))
theorem k4:∀(l:List (Str×Tok)),Vals ((l.map (·.1)).map V.str) (strValues l)
 | []=>.nil
 | p :: l=>.cons ⟨p.2,rfl⟩ (k4 l)
theorem uu:zB X "str.split" vy:=by
 intro pins s σ H x xs v us Q I rx rs h
 obtain ⟨z,y,rfl,rfl,hy,hz,hl,q⟩:=h
 obtain ⟨t,rfl⟩:=rx
 obtain ⟨u,rfl,ru⟩:=vals1 rs
 obtain ⟨t2,rfl⟩:=ru
 have fin:∀(l:List (Str×Tok)) (tk:Nat),l.map (·.1)=Jc z y->EP X pins σ Q (.ref s.heap.objs.size) { s with toks:=tk,heap:=s.heap.push { cls:=.type "list",data:=.seq (strValues l).toArray } }:=fun l tk e=>
   ⟨.ref s.heap.objs.size,_,I.laid (a:=s.heap.objs.size) (o:=.lst ((Jc z y).map V.str)) (t':=tk) (fun _ _ q=>GV _ q) (GX _) ⟨by rw [GR]; exact hl,strValues l,0,by rw [← e]; exact k4 l,G9 _ rfl⟩,rfl,q _ (I.hok.fresh (GX _))⟩
 cases h1:(decide (z.length < y.length) || decide (Kh z < Kh y))
 · cases hf:(JZ z y 0 z.length (z.length + 1)).isEmpty
   · refine call_meets IL (typeIs_str _ _ _) Ji (Je _ _) (meets_str_split_sep z y t t2 h1 hy hf (by omega) (GY (StrLaws.rD z y) hz)) ?_
     show wants _ _ _ { s with toks:=_,heap:=s.heap.push { cls:=.type "list",data:=.seq (strsFrom s.toks (Builtin.Str.partsBetween z (JZ z y 0 z.length (z.length + 1)) y.length)).toArray } }
     rw [strsFrom_eq]
     exact fin (numbered s.toks _) _ ((numbered_texts _ _).trans ((if_neg (ne_true_of_eq_false h1)).trans (if_neg (ne_true_of_eq_false hf))).symm)
   · exact call_meets IL (typeIs_str _ _ _) Ji (Je _ _) (meets_str_split_not_found z y t t2 h1 hy hf) (fin [(z,t)] _ ((if_neg (ne_true_of_eq_false h1)).trans (if_pos hf)).symm)
 · exact call_meets IL (typeIs_str _ _ _) Ji (Je _ _) (meets_str_split_cannot_occur z y t t2 h1) (fin [(z,t)] _ (if_pos h1).symm)
theorem qb:bZ X (.type "int") (fun xs H Q=>∃(x:Str) (n:Int),xs=[.str x]/\Kb x=some n/\x.length<=640/\Q (.int n) H):=by
 intro pins s σ H xs us Q I r h
 obtain ⟨x,n,rfl,hn,hl,q⟩:=h
 obtain ⟨u,rfl,t,rfl⟩:=vals1 r
 exact PySem.W.KIN.call_text hn hl ⟨.int n,H,I.tok _,⟨_,rfl⟩,q⟩
/-! a dict of the text's top level,whole -/
def cQ (w:World)(K:GP)(a:Addr)(kvs:List (Str×V)):Prop:=
 ∃(es:Array DictEntry) (n:Nat),K.lookup a=some ⟨.type "dict",none,.dict es n,#[]⟩ /\ PySem.W.KeysLit w.params es.toList/\(a == sysModules)=false/\Paired (fun (e:DictEntry) (q:Str×V)=>(∃t,e.key=.str q.1 t)/\RelV q.2 e.val) es.toList kvs
theorem cQ.find {w:World}{K:GP}{a:Addr}{es:List DictEntry}{kvs:List (Str×V)}(h:Paired (fun (e:DictEntry) (q:Str×V)=>(∃t,e.key=.str q.1 t)/\RelV q.2 e.val) es kvs)(k:Str) :
   cS (kvs.lookup k) ((es.find? fun e=>IJ k e.key).map (·.val)):=by
 induction h with
 | nil=>exact Ht
 | @cons e q l l' r _ ih=>
   obtain ⟨⟨t,ek⟩,rv⟩:=r
   obtain ⟨qk,qv⟩:=q
   by_cases hk:k=qk
   · subst hk
     have e1:IJ k e.key=true:=by rw [ek]; simp [IJ]
     rw [List.find?_cons_of_pos (by exact e1),List.lookup_cons_self]
     exact rv
   · have e1:¬ IJ k e.key=true:=by rw [ek]; simp [IJ]; exact fun z=>hk (by first | exact z | exact z.symm)
     rw [List.find?_cons_of_neg (by exact e1),Iq,beq_eq_false_iff_ne.mpr hk]
     exact ih
theorem cQ.map {X:Cx}{pins:List (Addr×Obj)}{σ:St}{H:Hp}{s:Shared}{a:Addr}{kvs:List (Str×V)}(I:Inv X pins σ H s)(d:cQ X.w X.K a kvs):∃f,s.heap.MapOf (strKind X.prog X.w) a f/\(a == sysModules)=false/\(∀k,cS (kvs.lookup k) (f k))/\∃ob,s.heap.get? a=some ob/\ob.dict=none:=by
 obtain ⟨es,n,hl,hk,hs,hp⟩:=d
 refine ⟨_,PySem.W.mapOf_K (prog:=X.prog) (w:=X.w) (h:=s.heap) I.kIn hl hk,hs,fun k=>?_,_,I.kIn _ _ hl,rfl⟩
 have:=cQ.find hp k (w:=X.w) (K:=X.K) (a:=a)
 obtain ⟨l⟩:=es
 unfold findBy
 rw [List.find?_toArray]
 exact this
def ym:Bool->World->GP->R2:=fun neg w K x y H Q=>∃k a kvs,x=.str k/\y=.ref a/\cQ w K a kvs/\Q (.bl (if neg then !(kvs.lookup k).isSome else (kvs.lookup k).isSome)) H
theorem kY {a:Option V}{b:Option Value}(h:cS a b):a.isSome=b.isSome:=by
 cases a <;> cases b <;> first | rfl | exact h.elim
theorem AQ:eW X (compareOp .In) (ym false X.w X.K):=by
 intro pins s σ H x y v u Q I rx ry h
 obtain ⟨k,a,kvs,rfl,rfl,d,q⟩:=h
 obtain ⟨t,rfl⟩:=rx
 cases ry
 obtain ⟨f,hm,hs,hf,_⟩:=d.map I
 refine wpAny_in_of (strKind_is X.prog X.w k t) hs hm ⟨.bl _,H,I.tok _,?_,q⟩
 show I0 (f k).isSome=I0 _
 rw [← kY (hf k)]
 rfl
theorem xO:eW X (compareOp .NotIn) (ym true X.w X.K):=by
 intro pins s σ H x y v u Q I rx ry h
 obtain ⟨k,a,kvs,rfl,rfl,d,q⟩:=h
 obtain ⟨t,rfl⟩:=rx
 cases ry
 obtain ⟨f,hm,hs,hf,_⟩:=d.map I
 refine wpAny_notIn_of (strKind_is X.prog X.w k t) hs hm ⟨.bl _,H,I.tok _,?_,q⟩
 show I0 (!(f k).isSome)=I0 _
 rw [← kY (hf k)]
 rfl
variable {o e f:Expr}{td ty tx:TE}{apos cpos pos:Pos}
def FZ (w:World)(K:GP)(td ty:TE):TE:=fun σ H Q=>td σ H fun x H1=>ty σ H1 fun y H2=>∃a k v kvs,x=.ref a/\y=.str k/\cQ w K a kvs/\kvs.lookup k=some v/\Q v H2
theorem Dt (ho:PE X o td)(hi:PE X e ty)(hs:r6 e):PE X (.Subscript o e pos) (FZ X.w X.K td ty):=by
 intro pins s σ H Q I h
 refine pZ PySem.F.slot_dict_getitem.lookup hs (bb (ho pins s σ H _ I h) fun u s1 ⟨x,H1,I1,rx,q1⟩=>bb (hi pins s1 σ H1 _ I1 q1) fun iv s2 ⟨y,H2,I2,ry,a,k,v,kvs,ex,ey,d,l,q2⟩=>?_)
 subst ex ey
 obtain rfl:u=HC a:=rx
 obtain ⟨t,rfl⟩:=ry
 obtain ⟨f,hm,hs,hf,_⟩:=d.map I2
 have hk:=hf k
 rw [l] at hk
 cases e2:f k with
 | none=>rw [e2] at hk; exact hk.elim
 | some z=>rw [e2] at hk; exact ⟨hm.typeIs,wpAny_getItem_of (strKind_is X.prog X.w k t) hm e2 ⟨v,H2,I2.tok _,hk,q2⟩⟩
def Eb (w:World)(K:GP)(td ty:TE):TE:=fun σ H Q=>td σ H fun x H1=>∃a kvs,x=.ref a/\cQ w K a kvs/\ty σ H1 fun y H2=>∃k,y=.str k/\Q ((kvs.lookup k).getD .bq) H2
theorem A7 (ho:PE X o td)(he:PE X e ty)(m:M1 X o "get" apos e cpos):PE X (.Call (.Attribute o "get" apos) [e] [] cpos) (Eb X.w X.K td ty):=by
 intro pins s σ H Q I h
 refine wpAny_Call_method m.base m.few m.line Kc IS Kw (bb (ho pins s σ H _ I h) fun u s1 ⟨x,H1,I1,rx,a,kvs,ex,d,q1⟩=>?_)
 subst ex
 obtain rfl:u=HC a:=rx
 obtain ⟨f1,hm1,_,_,ob1,o1,o2⟩:=d.map I1
 refine ⟨hm1.typeIs,(fun b z=>by cases z; exact ⟨ob1,o1,o2⟩),?_⟩
 rw [m.trees]
 refine IP rfl (JH (IK (bb (he pins s1 σ H1 _ I1 q1) fun iv s2 ⟨y,H2,I2,ry,k,ek,q2⟩=>Jk ?_)))
 subst ek
 obtain ⟨t,rfl⟩:=ry
 obtain ⟨f,hm,hs,hf,_⟩:=d.map I2
 exact call_meetsIn IS hm.typeIs Km (PySem.F.args_dict_get_2 _ _) (meets_dict_get (strKind X.prog X.w) a (strKind_is X.prog X.w k t) hs) ⟨_,hm,_,H2,I2.tok _,(hf k).getD (show RelV V.bq Ip from rfl),q2⟩
def Ec (w:World)(K:GP)(td ty tx:TE):TE:=fun σ H Q=>td σ H fun x H1=>∃a kvs,x=.ref a/\cQ w K a kvs/\ty σ H1 fun y H2=>tx σ H2 fun z H3=>∃k,y=.str k/\Q ((kvs.lookup k).getD z) H3
theorem A8 (ho:PE X o td)(he:PE X e ty)(hf:PE X f tx)(m:M2 X o "get" apos e f cpos):PE X (.Call (.Attribute o "get" apos) [e,f] [] cpos) (Ec X.w X.K td ty tx):=by
 intro pins s σ H Q I h
 refine wpAny_Call_method m.base m.few m.line Kc IS Kw (bb (ho pins s σ H _ I h) fun u s1 ⟨x,H1,I1,rx,a,kvs,ex,d,q1⟩=>?_)
 subst ex
 obtain rfl:u=HC a:=rx
 obtain ⟨f1,hm1,_,_,ob1,o1,o2⟩:=d.map I1
 refine ⟨hm1.typeIs,(fun b z=>by cases z; exact ⟨ob1,o1,o2⟩),?_⟩
 rw [m.trees]
 refine IP rfl (JH (IK (bb (he pins s1 σ H1 _ I1 q1) fun iv s2 ⟨y,H2,I2,ry,q2⟩=>IK (bb (hf pins s2 σ H2 _ I2 q2) fun fv s3 ⟨z,H3,I3,rz,k,ek,q3⟩=>Jk ?_))))
 subst ek
 obtain ⟨t,rfl⟩:=ry
 obtain ⟨g,hm,hs,hg,_⟩:=d.map I3
 exact call_meetsIn IS hm.typeIs Km (PySem.F.args_dict_get_3 _ _ _) (meets_dict_get_default (strKind X.prog X.w) a (strKind_is X.prog X.w k t) hs _) ⟨_,hm,_,H3,I3.tok _,(hg k).getD rz,q3⟩
end
end L2
namespace L3
open PySem PySem.Spec PyProof.Rows L2
section
variable {X:Cx}{a b c e o f:Expr}{es:List Expr}{ta tb tc te tf:TE}{t:TA}{pos:Pos}
theorem vR {KK:GP}{apos:Pos}(ho:SE X o ta)(ha:SA X [e] t)(hbase:attributeBase o "split" X.env (eval o X.env)=eval o X.env:=by rfl)(hline:(apos.endLine == pos.line)=true:=by rfl)(hK:X.K=KK:=by first | exact cxC_K | rfl):SE X (.Call (.Attribute o "split" apos) [e] [] pos) (BW KK "str" vy ta t):=by
 subst hK
 exact En Kk IL PySem.F.type_str_split ⟨uu⟩ ho ha hbase hline
theorem zP:SC X (.type "int") (fun xs H Q=>∃(x:Str) (n:Int),xs=[.str x]/\Kb x=some n/\x.length<=640/\Q (.int n) H):=⟨qb⟩
theorem zj {p2:Pos}(ha:SE X a ta)(hb:SE X b tb)(hc:SE X c tc):SE X (.Subscript a (.Slice (some b) (some c) none p2) pos) (BZ DM ta (gk tb) (gk tc)):=⟨df BU ha.h (cI hb.h) (cI hc.h)⟩
theorem C3 {KK:GP}{ww:World}(hK:X.K=KK:=by first | exact cxC_K | rfl)(hw:X.w=ww:=by rfl):SO X (compareOp .In) (ym false ww KK):=by
 subst hK hw
 exact ⟨AQ⟩
theorem Ay {KK:GP}{ww:World}(hK:X.K=KK:=by first | exact cxC_K | rfl)(hw:X.w=ww:=by rfl):SO X (compareOp .NotIn) (ym true ww KK):=by
 subst hK hw
 exact ⟨xO⟩
theorem kg {KK:GP}{ww:World}(ho:SE X a ta)(hi:SE X b tb)(hs:r6 b:=by exact fun _ _=>rfl)(hK:X.K=KK:=by first | exact cxC_K | rfl)(hw:X.w=ww:=by rfl):SE X (.Subscript a b pos) (FZ ww KK ta tb):=by
 subst hK hw
 exact ⟨Dt ho.h hi.h hs⟩
theorem Gu {KK:GP}{ww:World}{apos:Pos}(ho:SE X o ta)(he:SE X e te)(m:M1 X o "get" apos e pos:=by exact ⟨rfl,rfl,rfl,rfl⟩)(hK:X.K=KK:=by first | exact cxC_K | rfl)(hw:X.w=ww:=by rfl):SE X (.Call (.Attribute o "get" apos) [e] [] pos) (Eb ww KK ta te):=by
 subst hK hw
 exact ⟨A7 ho.h he.h m⟩
theorem Gv {KK:GP}{ww:World}{apos:Pos}(ho:SE X o ta)(he:SE X e te)(hf:SE X f tf)(m:M2 X o "get" apos e f pos:=by exact ⟨rfl,rfl,rfl,rfl⟩)(hK:X.K=KK:=by first | exact cxC_K | rfl)(hw:X.w=ww:=by rfl):SE X (.Call (.Attribute o "get" apos) [e,f] [] pos) (Ec ww KK ta te tf):=by
 subst hK hw
 exact ⟨A8 ho.h he.h hf.h m⟩
theorem Dy {KK:GP}{apos:Pos}(ho:SE X o ta)(hbase:attributeBase o "pop" X.env (eval o X.env)=eval o X.env:=by rfl)(hline:(apos.endLine == pos.line)=true:=by rfl)(hK:X.K=KK:=by first | exact cxC_K | rfl):SE X (.Call (.Attribute o "pop" apos) [] [] pos) (D4 KK "list" DK ta):=by
 subst hK
 exact ⟨A3 Jh Kx Kv Av ho.h hbase hline⟩
theorem r9 {KK:GP}{x:Str}{tpos:Pos}(ha:SE X a ta)(hv:SE X e te)(hK:X.K=KK:=by first | exact cxC_K | rfl):SS X (.AugAssign (.Attribute a x tpos) .Add e pos) (pQ KK ta te DF x):=by
 subst hK
 exact ⟨rJ ha.h hv.h Ac⟩
theorem yV {x:Expr}{op:UnaryOp}{p:Pos}(ho:SE X a ta)(hi:SE X (.UnaryOp op x p) tb):SG X (.Subscript a (.UnaryOp op x p) pos) (CL ta tb zg):=⟨Bj ho.h hi.h set_list (fun _=>rfl)⟩
end
end L3
set_option Elab.async false
set_option linter.all false
set_option maxRecDepth 100000
/-! t[:k] that may be the whole of t -/
namespace HT
open PySem PySem.Spec PyProof.Rows
section
variable {prog:Program}{w:World}{A:Around}{E:Value->Shared->Prop}{s:Shared}
theorem fS {t sl:Addr}{items:Array Value}{vl vu:Value}{lo hi:Option Int}{Q:Value->Shared->Prop}(ht:IsTup s.heap t items)(hs:s.heap.IsSliceOf sl vl vu .none)(pl:IsPart vl lo)(pu:IsPart vu hi)
   (hw:bD items.size 0 lo=0/\bD items.size items.size hi=items.size)
   (h:Q (.ref t) s):wpAny (model prog w) A (getItem (.ref t) (.ref sl)) Q E s:=by
 obtain ⟨os,hos,hcs,hds⟩:=id hs
 have hTs:s.TypeIs (.ref sl) "slice":=⟨os,hos,hcs⟩
 unfold getItem
 try with_reducible refine wpAny_holding ?_
 first | refine wpAny_bind (wpAny_pure ?_) | skip
 refine wpAny_bind (wpAny_sequenceKey ht.typeIs (by decide) ?_)
 refine wpAny_bind (Ic (name:=GQ "__getitem__") ht.typeIs Ih
   (wpAny_call_entry Ih ht.typeIs entry_tuple_getitem ?_ (args_tuple_getitem _ _)))
 show wpAny _ _ (JM (.ref t) >>= _) _ _ s
 refine wpAny_bind (tupleItemsOf_ ht ?_)
 refine wpAny_bind (wpAny_typeOf hTs ?_)
 rw [if_pos (by decide)]
 refine wpAny_bind (dh hs pl pu ?_)
 show wpAny _ _ (if (((bD items.size 0 lo:Nat):Int) == 0 && (1:Int) == 1 && (bD items.size items.size hi - bD items.size 0 lo) == items.size)=true then _ else _) _ _ s
 rw [if_pos (by rw [hw.1,hw.2]; simp)]
 unfold Builtin.Tuple.tupleIsExact
 refine wpAny_bind (wpAny_bind (wpAny_typeOf ht.typeIs (wpAny_pure ?_)))
 rw [if_pos (by decide)]
 exact wpAny_bind (wpAny_rule (wpAny_pure ⟨_,rfl,wpAny_pure h⟩))
end
end HT
namespace L2
open PySem PySem.Spec PyProof.Rows
section
variable {X:Cx}
/-- t[lo:hi]: the whole is t itself -/
def DL (K:GP):V->Option Int->Option Int->Hp->VK->Prop:=fun x lo hi H Q=>BC K x lo hi H Q\/∃a xs,x=.ref a/\aC K H a xs/\(HT.bD xs.length 0 lo=0/\HT.bD xs.length xs.length hi=xs.length)/\Q (.ref a) H
theorem yx:v9 X (DL X.K):=v9.or vO (by
 intro pins s σ H x v vl vu lo hi sl Q I rx hs pl pu h
 obtain ⟨a,xs,rfl,hx,hw,q⟩:=h
 cases rx
 obtain ⟨its,r,ht,hz⟩:=I.tuple hx
 have hlen:its.toArray.size=xs.length:=by rw [G4]; exact r.length.symm
 refine ⟨"tuple",_,PyProof.Rows.slot_tuple_getitem.lookup,ht.typeIs,?_⟩
 exact HT.fS ht hs pl pu (by rw [hlen]; exact hw) ⟨.ref a,H,I,rfl,q⟩)
/-! isinstance(x,(T1,T2)),built-in types -/
inductive lj (H:Hp):V->Value->Prop where
 | int (i:Int):lj H (.int i) (.type "int")
 | str (x:Str):lj H (.str x) (.type "str")
 | lst {a:Addr} {xs:List V} (h:H a=some (.lst xs)):lj H (.ref a) (.type "list")
 | tup {a:Addr} {xs:List V} (h:H a=some (.tup xs)):lj H (.ref a) (.type "tuple")
theorem lj.of {K:GP}{H:Hp}{x:V}{t:Value}(h:lj H x t):TyOf K H x t:=by
 cases h with
 | int i=>exact TyOf.int i
 | str y=>exact TyOf.str y
 | lst e=>exact TyOf.lst e
 | tup e=>exact TyOf.tup e
def DI (K:GP):List V->Hp->VK->Prop:=fun xs H Q=>(∃x n t b,xs=[x,.ty n]/\TyOf K H x t/\Jy K t (.type n)=some b/\Q (.bl b) H) \/
 ∃(x:V) (tp:Addr) (ns:List String) (t:Value) (b:Bool),xs=[x,.ref tp]/\H tp=some (.tup (ns.map V.ty))/\lj H x t/\PySem.W.kitAny K t (ns.map IZ)=some b/\Q (.bl b) H
theorem oR {ns:List String}:∀{us:List Value},Vals (ns.map V.ty) us->us=ns.map IZ:=by
 induction ns with
 | nil=>intro us h; cases h; rfl
 | cons a l ih=>
   intro us h
   cases h with
   | cons r t=>
     rw [ih t,Hi]
     congr 1
theorem sj:bZ X (.builtin "isinstance") (DI X.K):=by
 intro pins s σ H xs us Q I r h
 rcases h with h | ⟨x,tp,ns,t,b,rfl,ht,ty,e,q⟩
 · exact sk pins s σ H xs us Q I r h
 obtain ⟨u,v,rfl,ru,rv⟩:=Vals.two r
 obtain rfl:v=HC tp:=rv
 obtain ⟨_,its,rl,o,h1,h2,n,h3⟩:=(show a8 X.prog X.w H s.heap tp (.tup (ns.map V.ty)) from I.hok tp _ ht)
 rw [oR rl] at h3
 obtain ⟨oc,od,oda,osl⟩:=o
 simp only at h2 h3
 subst h2 h3
 cases ty with
 | int i=>obtain ⟨t,q'⟩:=(show ∃t,u=I9 i t from ru); cases q'; exact Jp PySem.W.kitx_int I.kIn Ht h1 e (fun z=>nomatch z) fun tk=>⟨.bl b,H,I.tok tk,rfl,q⟩
 | str y=>obtain ⟨t,q'⟩:=(show ∃t,u=IU y t from ru); cases q'; exact Jp PySem.W.kitx_str I.kIn Ht h1 e (fun z=>nomatch z) fun tk=>⟨.bl b,H,I.tok tk,rfl,q⟩
 | @lst a xs ea=>
   cases (show u=HC a from ru)
   obtain ⟨_,_,n,_,g1⟩:=(show a8 X.prog X.w H s.heap a (.lst xs) from I.hok a _ ea)
   exact Jp JQ I.kIn ⟨_,g1,rfl⟩ h1 e (fun z=>nomatch z) fun tk=>⟨.bl b,H,I.tok tk,rfl,q⟩
 | @tup a xs ea=>
   cases (show u=HC a from ru)
   obtain ⟨_,_,_,p⟩:=(show a8 X.prog X.w H s.heap a (.tup xs) from I.hok a _ ea)
   obtain ⟨o,g1,g2,_⟩:=p
   exact Jp KJ I.kIn ⟨o,g1,g2⟩ h1 e (fun z=>nomatch z) fun tk=>⟨.bl b,H,I.tok tk,rfl,q⟩
end
end L2
namespace L3
open PySem PySem.Spec PyProof.Rows L2
section
variable {X:Cx}{a b:Expr}{ta tb:TE}{pos:Pos}
theorem Fn {KK:GP}{p2:Pos}(ha:SE X a ta)(hb:SE X b tb)(hK:X.K=KK:=by first | exact cxC_K | rfl):SE X (.Subscript a (.Slice none (some b) none p2) pos) (BZ (DL KK) ta gj (gk tb)):=by
 subst hK
 exact ⟨df yx ha.h iK (cI hb.h)⟩
theorem kz {KK:GP}(hK:X.K=KK:=by first | exact cxC_K | rfl):SC X (.builtin "isinstance") (DI KK):=by
 subst hK
 exact ⟨sj⟩
end
end L3
open L3 renaming v->K0,k->K1,n->K3,int->K4,op->K5,cons->K6,str->K7,one->K8,own->K9,ix->La,cmp->Lb,ret->Lc,set->Ld,gn->Le,ifs->Lf,tup->Lg,nil->Lh,bM->Li,lst->Lj,aQ->Lk,bc->Ll,aU->Lm,cV->Ln,aW->Lo,a9->Lp,eT->Lq,iL->Lr,bw->Ls,iG->Lu,tw->Lv,bO->Lw,lI->Lx,bU->Ly,glob->Lz,ex->LA,never->LC,lc->LF,eZ->LG,fi->LH,bN->LJ,cm->LK,bl->LL,jB->LM,i7->LO,i6->LP,j9->LQ,wc->LR,append->LS,run->LU,lU->LX,yy->LY,xQ->LZ,fz->L0,lp->L4,ib->L5,er->L6,jC->L7,jD->L8,hv->L9,jA->Ma,asg->Mb,fld->Mc,cu->Md,oE->Me,iR->Mf,nt->Mg,gv->Mh,Cj->Mi,kX->Mj,qf->Ml,kz->Mm,r9->Mn,bq->Mo,neg->Mp,nc->Mq,CF->Mr
set_option Elab.async false
set_option linter.all false
set_option maxRecDepth 100000
set_option exponentiation.threshold 4000
set_option maxHeartbeats 1000000
namespace TW
open PySem L2
section
variable {P:Program}{w:World}{K:GP}{mg:Str->Option Value}{base:Heap}
theorem cT {x qual:Str}{st:Stmt}{f:Addr}{fd:FuncData}{p0:Str}(F:bI K x qual st f fd)(h:∀(kV doc pm:Value) (an:Option Addr) (cdv ct u0:Value),bindArgs (Ig x qual (b7 st) (bX st) (af st) .none kV doc pm an cdv ct) ⟨[u0],[]⟩ = pure (([p0]:List Str).zip [u0])):Binds K fd [p0] []:=F.binds fun kV doc pm an cdv ct us hl=>match us,hl with | [u0],_=>h kV doc pm an cdv ct u0
theorem cU {x qual:Str}{st:Stmt}{f:Addr}{fd:FuncData}{p0 p1:Str}(F:bI K x qual st f fd)(h:∀(kV doc pm:Value) (an:Option Addr) (cdv ct u0 u1:Value),bindArgs (Ig x qual (b7 st) (bX st) (af st) .none kV doc pm an cdv ct) ⟨[u0,u1],[]⟩ = pure (([p0,p1]:List Str).zip [u0,u1])):Binds K fd [p0,p1] []:=F.binds fun kV doc pm an cdv ct us hl=>match us,hl with | [u0,u1],_=>h kV doc pm an cdv ct u0 u1
theorem nH {x qual:Str}{st:Stmt}{f:Addr}{fd:FuncData}{p0 p1 p2:Str}(F:bI K x qual st f fd)(h:∀(kV doc pm:Value) (an:Option Addr) (cdv ct u0 u1 u2:Value),bindArgs (Ig x qual (b7 st) (bX st) (af st) .none kV doc pm an cdv ct) ⟨[u0,u1,u2],[]⟩ = pure (([p0,p1,p2]:List Str).zip [u0,u1,u2])):Binds K fd [p0,p1,p2] []:=F.binds fun kV doc pm an cdv ct us hl=>match us,hl with | [u0,u1,u2],_=>h kV doc pm an cdv ct u0 u1 u2
theorem zN {x qual:Str}{st:Stmt}{f:Addr}{fd:FuncData}{p0 p1 p2 p3:Str}(F:bI K x qual st f fd)(h:∀(kV doc pm:Value) (an:Option Addr) (cdv ct u0 u1 u2 u3:Value),bindArgs (Ig x qual (b7 st) (bX st) (af st) .none kV doc pm an cdv ct) ⟨[u0,u1,u2,u3],[]⟩ = pure (([p0,p1,p2,p3]:List Str).zip [u0,u1,u2,u3])):Binds K fd [p0,p1,p2,p3] []:=F.binds fun kV doc pm an cdv ct us hl=>match us,hl with | [u0,u1,u2,u3],_=>h kV doc pm an cdv ct u0 u1 u2 u3
def top (i:Nat):Stmt:=PySem.Challenge.pw_twinwalk_k71_whole_read_as_written.main.body.getD i (.Pass ⟨0,0,0,0⟩)
abbrev sCell:Stmt:=top 56
theorem TK.lst {H:Hp}{a:Addr}{xs:List V}{o:HO}(h:H a=some (.lst xs)):TK H (upd H a o):=fun b ys e=>by rw [aj (y9 e h (fun z=>nomatch z))]; exact e
theorem kS {α β:Type}(f:α->β):∀(l:List α) (i:Nat),(l.eraseIdx i).map f=(l.map f).eraseIdx i
 | [],_=>rfl
 | _ :: _,0=>rfl
 | a :: r,i + 1=>by simp only [Kz,Hi,kS f r i]
theorem Paired.get {α β:Type}{F:α->β->Prop}:∀{l₁:List α} {l₂:List β} {i:Nat} {x:α},Paired F l₁ l₂->l₁[i]? = some x->∃y,l₂[i]? = some y/\F x y
 | _,_,_,_,.nil,e=>by simp at e
 | _,_,0,_,.cons r _,e=>by simp at e; subst e; exact ⟨_,rfl,r⟩
 | _,_,i + 1,x,.cons _ t,e=>by
   obtain ⟨u,h1,h2⟩:=Paired.get (i:=i) (x:=x) t (by simpa using e)
   exact ⟨u,by simpa using h1,h2⟩
theorem bE {σ:L2.St}{H:Hp}{A B:Hp->Prop}(h:A H):BX σ H (fun b H3=>if b=true then A H3 else B H3):=bt (A:=A H) (B:=B H) h
theorem ao {i:Nat}{v:V}{σ:L2.St}{H:Hp}{Q:L2.St->Hp->Prop}(h:Q (σ.set i (some v)) H):eR i v σ H Q:=h
theorem aa {A B C:Hp}(a:ah A B)(b:ah B C):ah A C:=fun p o h=>b p o (a p o h)
theorem same_refl (A:Hp):ah A A:=fun _ _ h=>h
theorem aE {H H':Hp}{a:Addr}(s:ah H H')(h:H' a=none):H a=none:=by
 match e:H a with
 | none=>rfl
 | some o=>rw [s _ _ e] at h; cases h
/-- a list that was laid since: it may be replaced -/
theorem aG {H H':Hp}{a:Addr}{o:HO}(s:ah H H')(h:H a=none):ah H (upd H' a o):=fun b u e=>by rw [aj (ai e h)]; exact s b u e
theorem aA {H H':Hp}{a:Addr}{o:HO}(s:ah H H')(h:H' a=none):ah H (upd H' a o):=aG s (aE s h)
theorem eB {α:Type}(f:α->V)(xs:List α){r:Int}(h0:0<=r)(h1:r < (xs.length:Int)):∃x,xs[r.toNat]? = some x/\x∈xs/\ig (xs.map f) r=some (f x):=by
 have hr:r.toNat < xs.length:=by omega
 have e:r=((r.toNat:Nat):Int):=by omega
 have q:ig (xs.map f) ((r.toNat:Nat):Int)=some (f xs[r.toNat]):=cA (by rw [HR,G3 hr]; rfl)
 rw [← e] at q
 exact ⟨xs[r.toNat],G3 hr,List.getElem_mem hr,q⟩
theorem CB {xs:List V}{r:Int}(h0:0<=r)(h1:r < (xs.length:Int)):∃x,xs[r.toNat]? = some x/\ig xs r=some x:=by
 have hr:r.toNat < xs.length:=by omega
 have e:r=((r.toNat:Nat):Int):=by omega
 have q:ig xs ((r.toNat:Nat):Int)=some xs[r.toNat]:=cA (G3 hr)
 rw [← e] at q
 exact ⟨xs[r.toNat],G3 hr,q⟩
/-! ### _law_cell_at -/
def gV (K:GP):Sp:=fun vs H Q _=>∃(a:Addr) (ns:List Int) (k:Int),vs=[.ref a,.int k]/\aw K H a (ns.map V.int)/\0<=k/\∀c:Int,Q (.int c) H
theorem BM:aq ["script","k"] ["script","k"] (af sCell):=⟨rfl,rfl,rfl,by decide +kernel,rfl,by decide +kernel,by decide +kernel⟩
theorem qr:(af sCell).names.lookup (GQ "len")=some .globalImplicit:=by decide +kernel
theorem xu {f:Addr}{fd:FuncData}(F:bI K "_law_cell_at" "_law_cell_at" sCell f fd)(m_len:mg "len"=none):aL P w K mg base CX0 1 f fd ["script","k"] (gV K):=by
 refine F.ok BM (fun vs H Q E h=>?_) (fun cdv A outer s H vs Q E hr h=>?_)
 · obtain ⟨a,ns,k,rfl,_⟩:=h
   rfl
 · obtain ⟨a,ns,k,rfl,hs,h0,q⟩:=h
   refine ⟨_,LU (K6 (Lf (Lb LX (K0 1) (Lm Lp qr m_len G1 (K1 (K0 0) K3))) (K8 (Lc (La Lq (K0 0) (K0 1)))) Lh)
     (K8 (Lc K4))),?_⟩
   refine ⟨_,rfl,_,rfl,a,_,rfl,.inl hs,_,_,rfl,rfl,_,rfl,?_⟩
   refine aH (fun c=>?_) (fun _=>q 0)
   have hk:k < ((ns.map V.int).length:Int):=of_decide_eq_true c
   rw [GR] at hk
   obtain ⟨x,_,_,hat⟩:=eB V.int ns h0 hk
   exact ⟨_,rfl,_,rfl,a,_,_,_,rfl,rfl,hs,hat,q x⟩
theorem tI (s:Src K mg "_law_cell_at" sCell)(m_len:mg "len"=none):aJ P w K mg base "_law_cell_at" ["script","k"] 1 (gV K):=
 let ⟨f,fd,F,m⟩:=s
 ⟨f,fd,xu F m_len,F.kp,cU F fun _ _ _ _ _ _ _ _=>rfl,m⟩
theorem ar {u1 u2:TS}{D:L2.Ends}{σ:L2.St}{H:Hp}(h:∀R:L2.St->Hp->Prop,(∀σ H,u2 D σ H->R σ H)->u1 { D with nx:=R } σ H):g6 u1 u2 D σ H:=h _ fun _ _ z=>z
theorem sD {u1 u2 u3:TS}{D:L2.Ends}{σ:L2.St}{H:Hp}(h:∀R:L2.St->Hp->Prop,(∀σ H,u3 D σ H->R σ H)->g6 u1 (g6 u2 fun _=>R) D σ H):g6 u1 (g6 u2 u3) D σ H:=h (u3 D) fun _ _ z=>z
theorem EN {u1 u2 u3 u4:TS}{D:L2.Ends}{σ:L2.St}{H:Hp}(h:∀R:L2.St->Hp->Prop,(∀σ H,u4 D σ H->R σ H)->g6 u1 (g6 u2 (g6 u3 fun _=>R)) D σ H):g6 u1 (g6 u2 (g6 u3 u4)) D σ H:=h (u4 D) fun _ _ z=>z
theorem cH {X:Cx}{ss:List Stmt}{G:TS->Prop}(h:∃t,L3.SL X ss t/\G t):∃t,mz X ss t/\G t:=let ⟨t,a,b⟩:=h; ⟨t,a.h,b⟩
theorem aB {F:L2.St->Hp->Prop}{σ:L2.St}{H:Hp}(σ':L2.St)(e:σ=σ')(h:F σ' H):F σ H:=by subst e; exact h
theorem pH {F:L2.St->Hp->Prop}{σ:L2.St}{H:Hp}(H':Hp)(e:H=H')(h:F σ H'):F σ H:=by subst e; exact h
theorem aO {k n:Int}(h:0 < n):0<=k % n:=Int.emod_nonneg _ (by omega)
theorem aN {k n:Int}(h:0 < n):k % n < n:=Int.emod_lt_of_pos _ h
theorem ue {a b:Int}(c:decide (V.int a=V.int b)=true):a=b:=by have:=of_decide_eq_true c; injection this
theorem Ae {a b:Int}(c:¬ decide (V.int a=V.int b)=true):a≠b:=fun z=>c (decide_eq_true (by rw [z]))
theorem wq {P:V->Prop}{xs:List V}{r:Int}(h0:0<=r)(h1:r < (xs.length:Int))(h:∀x∈xs,P x):∃x,ig xs r=some x/\P x:=let ⟨x,h2,h3⟩:=CB h0 h1; ⟨x,h3,h x (Hh h2)⟩
/-! ### nodes with picks -/
inductive Np where
 | put (x:Str) (s:E) (n:Int) | say (s:E) (n:Int) | test (c:E) (n o:Int) | pick (x:Str) (n:Int) | fin
def aP (H:Hp):V->Np->Prop
 | v,.put x s n=>∃u,Tp H v [.str "put",.str x,u,.int n]/\bL H u s
 | v,.say s n=>∃u,Tp H v [.str "say",u,.int n]/\bL H u s
 | v,.test c n o=>∃u,Tp H v [.str "test",u,.int n,.int o]/\bL H u c
 | v,.pick x n=>Tp H v [.str "pick",.str x,.int n]
 | v,.fin=>Tp H v [.str "end"]
theorem aP.keep {H H':Hp}(k:TK H H'):∀{e:Np} {v:V},aP H v e->aP H' v e
 | .put _ _ _,_,⟨u,h,a⟩=>⟨u,h.keep k,a.keep k⟩
 | .say _ _,_,⟨u,h,a⟩=>⟨u,h.keep k,a.keep k⟩
 | .test _ _ _,_,⟨u,h,a⟩=>⟨u,h.keep k,a.keep k⟩
 | .pick _ _,_,h=>Tp.keep k h
 | .fin,_,h=>Tp.keep k h
theorem bC {α β:Type}{f:α->β}{l:List α}{i:Nat}{y:β}(h:(l.map f)[i]? = some y):∃x,l[i]? = some x/\y=f x:=by
 rw [HR] at h
 obtain ⟨x,h1,h2⟩:=Option.map_eq_some_iff.mp h
 exact ⟨x,h1,h2.symm⟩
abbrev sStir:Stmt:=top 57
/-! ### _law_stir -/
def bo:Sp:=fun vs H Q _=>∃c k:Int,vs=[.int c,.int k]/\0<=k/\k < 2 ^ 40/\∀r:Int,0<=r->r < 268435456->Q (.int r) H
theorem oJ:aq ["cell","k","number"] ["cell","k"] (af sStir):=⟨rfl,rfl,rfl,by decide +kernel,rfl,by decide +kernel,by decide +kernel⟩
theorem xK {f:Addr}{fd:FuncData}(F:bI K "_law_stir" "_law_stir" sStir f fd):aL P w K mg base CX0 1 f fd ["cell","k"] bo:=by
 refine F.ok oJ (fun vs H Q E h=>?_) (fun cdv A outer s H vs Q E hr h=>?_)
 · obtain ⟨c,k,rfl,_⟩:=h
   rfl
 · obtain ⟨c,k,rfl,k0,k1,q⟩:=h
   refine cH ⟨_,(K6 (Lf (Lb L3.Ax (K0 0) (K5 L7 K4 K4)) (K8 (Lc (K5 Lk (K5 L3.C4 (K5 L8 (K0 0) (K5 L7 K4 K4)) (K5 Ly K4 (K0 1))) (K5 L7 K4 K4)))) Lh)
     (K6 (Ld 2 oJ.nd (K5 Lk (K5 Ly (K5 Lo (K5 Lo (K0 0) (K5 Ly K4 (K0 1))) K4) K4) K4))
     (K6 (Ld 2 oJ.nd (K5 Lk (K5 Ly (K0 2) (K0 2)) K4))
     (K8 (Lc (K5 Ls (K5 Lk (K5 Ly (K0 2) K4) K4) K4)))))),?_⟩
   refine ar fun Rk kR=>?_
   refine ⟨_,rfl,_,_,rfl,rfl,⟨by decide,by decide,by decide⟩,_,_,rfl,rfl,_,rfl,?_⟩
   refine aH (fun _=>?_) (fun _=>?_)
   · refine ⟨_,rfl,_,_,rfl,rfl,⟨by decide,by decide,by decide⟩,_,_,rfl,rfl,_,rfl,_,_,rfl,rfl,.inr ⟨by omega,by omega⟩,_,_,rfl,rfl,(by show 0<=28 * k; omega),?_⟩
     refine ⟨_,_,rfl,rfl,⟨by decide,by decide,by decide⟩,_,_,rfl,rfl,(by show (0:Int) < 2 ^ 28; decide),?_⟩
     exact q _ (aO (by decide)) (aN (by decide))
   refine kR _ _ ?_
   refine ar fun Rk kR=>?_
   refine ⟨_,rfl,_,rfl,_,_,rfl,rfl,.inr ⟨by omega,by omega⟩,_,_,rfl,rfl,_,_,rfl,rfl,_,_,rfl,rfl,.inr ⟨by decide,by decide⟩,_,_,rfl,rfl,(by show (0:Int) < 2147483647; decide),?_⟩
   obtain ⟨b,eb,b0,b1⟩ : ∃b,b=(c + 1013 * k + 1) * 16807 % 2147483647/\0<=b/\b < 2147483647:=⟨_,rfl,aO (by decide),aN (by decide)⟩
   refine ao ?_
   refine kR _ _ ?_
   refine aB [some (.int c),some (.int k),some (.int b)] (by subst eb; rfl) ?_
   clear eb
   refine ar fun Rk kR=>?_
   refine ⟨_,rfl,_,rfl,_,_,rfl,rfl,.inl ⟨by omega,by omega⟩,_,_,rfl,rfl,(by show (0:Int) < 2147483629; decide),?_⟩
   refine ao ?_
   refine kR _ _ ?_
   refine ⟨_,rfl,_,_,rfl,rfl,.inr ⟨by decide,by decide⟩,_,_,rfl,rfl,(by show (0:Int) < 2147483587; decide),_,_,rfl,rfl,⟨by decide,by decide +kernel⟩,?_⟩
   obtain ⟨a,ea,a0,a1⟩ : ∃a,a=b * b % 2147483629 * 39373 % 2147483587/\0<=a/\a < 2147483587:=⟨_,rfl,aO (by decide),aN (by decide)⟩
   refine q (b * b % 2147483629 * 39373 % 2147483587 / 8) ?_ ?_ <;> rw [← ea] <;> omega
theorem ua (s:Src K mg "_law_stir" sStir)  : aJ P w K mg base "_law_stir" ["cell","k"] 1 bo:=
 let ⟨f,fd,F,m⟩:=s
 ⟨f,fd,xK F ,F.kp,cU F fun _ _ _ _ _ _ _ _=>rfl,m⟩
end
end TW
set_option Elab.async false
set_option linter.all false
set_option maxRecDepth 100000
namespace TW
open PySem L2
/-! ### a def with defaults: dV is the tuple of them -/
/-- a tuple of texts at the top -/
def mD (K:GP)(mg:Str->Option Value)(x:Str)(xs:List Str):Prop:=∃t,mg x=some (.ref t)/\∀H:Hp,aC K H t (xs.map V.str)
theorem mx {K:GP}{h:Heap}{mg:Str->Option Value}{x:Str}{t:Addr}{od:Option Addr}{sl:Array (Option Value)}{n:Nat}{us:Array Value}{xs:List Str}(X:K.In h)(G:h.Ns mainGlobals mg)(a:PySem.W.nsIn K mainGlobals x=some (some (.ref t)))(l:K.lookup t=some ⟨.type "tuple",od,.seq us n,sl⟩)(b:us.size<=sizeLine)(e:us.toList.length=xs.length)(r:Vals (xs.map V.str) us.toList):mD K mg x xs:=⟨_,HP X G a,fun _=>.inr ⟨_,_,_,l,rfl,rfl,b,r⟩⟩
theorem aI {K:GP}{h:Heap}{mg:Str->Option Value}{x:Str}{st:Stmt}{od an:Option Addr}{sl:Array (Option Value)}{oc kV dc pm cd ct:Value}{f:Addr}(X:K.In h)(G:h.Ns mainGlobals mg)(a:PySem.W.nsIn K mainGlobals x=some (some (.ref f)))
   (l:K.lookup f=some ⟨oc,od,.func (Ig x x (b7 st) (bX st) (af st) .none kV dc pm an cd ct),sl⟩) (c:Jz K cd x=true) (k:IA K (.ref f)=true):Src K mg x st:=⟨_,_,dP l c k,HP X G a⟩
theorem mZ {w:World}{K:GP}{a:Addr}{kvs:List (Str×V)}{es:Array DictEntry}{n:Nat}(l:K.lookup a=some ⟨.type "dict",none,.dict es n,#[]⟩)(hk:PySem.W.KeysLit w.params es.toList)(hs:(a == sysModules)=false)(p:Paired (fun (e:DictEntry) (q:Str×V)=>(∃t,e.key=.str q.1 t)/\RelV q.2 e.val) es.toList kvs):cQ w K a kvs:=⟨es,n,l,hk,hs,p⟩
theorem tw_mk {K:GP}{t:Addr}{vs:List V}{n2:Nat}{od:Option Addr}{sl:Array (Option Value)}{us:Array Value}(lt:K.lookup t=some ⟨.type "tuple",od,.seq us n2,sl⟩)(b:us.size<=sizeLine)(r:Vals vs us.toList):∀H:Hp,aC K H t vs:=fun _=>.inr ⟨_,_,_,lt,rfl,rfl,b,r⟩
theorem vm:Paired (fun (e:DictEntry) (q:Str×V)=>(∃t,e.key=.str q.1 t)/\RelV q.2 e.val) [] []:=.nil
theorem pL {e:DictEntry}{q:Str×V}{l:List DictEntry}{l2:List (Str×V)}(h1:∃t,e.key=.str q.1 t)(h2:RelV q.2 e.val)(t:Paired (fun (e:DictEntry) (q:Str×V)=>(∃t,e.key=.str q.1 t)/\RelV q.2 e.val) l l2):Paired (fun (e:DictEntry) (q:Str×V)=>(∃t,e.key=.str q.1 t)/\RelV q.2 e.val) (e :: l) (q :: l2):=.cons ⟨h1,h2⟩ t
def Ek (w:World)(K:GP)(mg:Str->Option Value)(x:Str)(kvs:List (Str×V)):Prop:=∃a,mg x=some (.ref a)/\cQ w K a kvs
def ED (w:World)(K:GP)(mg:Str->Option Value)(x:Str)(kvs:List (Str×List Str)):Prop:=∃a ts,mg x=some (.ref a)/\cQ w K a ((kvs.map (·.1)).zip (ts.map V.ref))/\Paired (fun (t:Addr) (q:Str×List Str)=>∀H:Hp,aC K H t (q.2.map V.str)) ts kvs
def mC (mg:Str->Option Value)(x s:Str):Prop:=∃t,mg x=some (.str s t)
def lg (mg:Str->Option Value)(x:Str)(n:Int):Prop:=∃t,mg x=some (.int n t)
def EG (K:GP)(mg:Str->Option Value)(x:Str)(vs:List V):Prop:=∃t,mg x=some (.ref t)/\∀H:Hp,aC K H t vs
def wF (s:Stmt):List Stmt:=match s with
 | .ClassDef _ _ _ b _ _ _ _ _ _ _=>b
 | _=>[]
def cu (i j:Nat):Stmt:=(wF (top i)).getD j (.Pass ⟨0,0,0,0⟩)
def fm (K:GP)(C:Addr):List Str->Prop
 | []=>True
 | f :: fs=>b9 K C f/\fm K C fs
theorem fm.get {K:GP}{C:Addr}:∀{fs:List Str} {f:Str},fm K C fs->f∈fs->b9 K C f
 | g :: fs,f,h,hf=>by
   rcases List.mem_cons.mp hf with rfl | hf
   · exact h.1
   · exact fm.get h.2 hf
structure la (K:GP)(mg:Str->Option Value)(x:Str)(C:Addr)(fs:List Str):Prop where
 m:mg x=some (.ref C)
 c:nA K C
 na:fm K C fs
def oT (K:GP)(C:Addr)(q:Str)(st:Stmt):Prop:=∃f fd,bI K "__init__" q st f fd/\Mk K C f
def bK (K:GP)(C:Addr)(x q:Str)(st:Stmt):Prop:=∃f fd,bI K x q st f fd/\Meth K C x f
structure Cz (w:World)(K:GP)(mg:Str->Option Value):Prop where
 s_program_of:Src K mg "program_of" (top 8)
 s_refuse_boxes:Src K mg "refuse_boxes" (top 9)
 s_refuse_inputs:Src K mg "refuse_inputs" (top 10)
 s_refuse_nodes:Src K mg "refuse_nodes" (top 11)
 s_leads_of:Src K mg "leads_of" (top 12)
 s_told_by:Src K mg "told_by" (top 13)
 s_refuse_unknown:Src K mg "refuse_unknown" (top 14)
 s_all_known:Src K mg "all_known" (top 15)
 s_joined_by:Src K mg "joined_by" (top 18)
 s_all_of:Src K mg "all_of" (top 19)
 s_picked_program:Src K mg "picked_program" (top 21)
 s_written_sum:Src K mg "written_sum" (top 33)
 s_written_condition:Src K mg "written_condition" (top 34)
 s_written_word:Src K mg "written_word" (top 35)
 s_written_row:Src K mg "written_row" (top 36)
 s_written_text:Src K mg "written_text" (top 37)
 s_read_atom:Src K mg "read_atom" (top 39)
 s_read_sum:Src K mg "read_sum" (top 40)
 s_read_test:Src K mg "read_test" (top 41)
 s_read_condition:Src K mg "read_condition" (top 42)
 s_read_word:Src K mg "read_word" (top 43)
 s_read_row:Src K mg "read_row" (top 44)
 s_read_program:Src K mg "read_program" (top 45)
 s_refuse_no_nodes:Src K mg "refuse_no_nodes" (top 48)
 s_led_anew:Src K mg "led_anew" (top 49)
 s_with_nodes:Src K mg "with_nodes" (top 50)
 s_boxes_same:Src K mg "boxes_same" (top 51)
 s_all_same:Src K mg "all_same" (top 52)
 s_level_entry:Src K mg "level_entry" (top 53)
 s_told_over:Src K mg "told_over" (top 54)
 s_law_cell_at:Src K mg "_law_cell_at" (top 56)
 s_law_stir:Src K mg "_law_stir" (top 57)
 s_law_names:Src K mg "_law_names" (top 58)
 s_law_number:Src K mg "_law_number" (top 59)
 s_law_sum:Src K mg "_law_sum" (top 60)
 s_law_condition:Src K mg "_law_condition" (top 61)
 s_law_grown_sum:Src K mg "_law_grown_sum" (top 62)
 s_law_grown_condition:Src K mg "_law_grown_condition" (top 63)
 s_law_word:Src K mg "_law_word" (top 64)
 s_law_any_sum:Src K mg "_law_any_sum" (top 65)
 s_law_any_condition:Src K mg "_law_any_condition" (top 66)
 s_law_node:Src K mg "_law_node" (top 67)
 s_law_program:Src K mg "_law_program" (top 68)
 s_law_alike:Src K mg "_law_alike" (top 69)
 s_law_over_right:Src K mg "_law_over_right" (top 70)
 s_law:Src K mg "law" (top 71)
 c_PARTED:mD K mg "PARTED" ["plus","less","same","under","not","both"]
 c_NAMELESS:mD K mg "NAMELESS" ["number","yes"]
 c_YES:mD K mg "YES" ["yes"]
 c_LETTERS:mC mg "LETTERS" "abcdefghijklmnopqrstuvwxyz"
 c_FIGURES:mC mg "FIGURES" "0123456789"
 c_MOST_FIGURES:lg mg "MOST_FIGURES" 30
 c_MOST_LETTERS:lg mg "MOST_LETTERS" 8
 c_SUM_SIGNS:Ek w K mg "SUM_SIGNS" [("plus",.str "+"),("less",.str "-")]
 c_SIGN_SUMS:Ek w K mg "SIGN_SUMS" [("+",.str "plus"),("-",.str "less")]
 c_SIGN_TESTS:Ek w K mg "SIGN_TESTS" [("=",.str "same"),("<",.str "under")]
 c_FORMS:ED w K mg "FORMS" [("box",["name","number"]),("input",["name"]),("put",["name","sum","number"]),("say",["sum","number"]),("test",["condition","number","number"]),("pick",["name","number"]),("end",[])]
 c_RANKS:Ek w K mg "RANKS" [("box",.int 0),("input",.int 1)]
 c_NODE_RANK:lg mg "NODE_RANK" 2
 c_NOUGHT:EG K mg "NOUGHT" [.str "number",.int 0]
 k_Reader:∃C,la K mg "Reader" C ["word","place"]/\oT K C "Reader.__init__" (cu 38 0)/\bK K C "sign" "Reader.sign" (cu 38 1)/\bK K C "taken" "Reader.taken" (cu 38 2)/\bK K C "due" "Reader.due" (cu 38 3)/\bK K C "stretch" "Reader.stretch" (cu 38 4)/\bK K C "number" "Reader.number" (cu 38 5)/\bK K C "name" "Reader.name" (cu 38 6)
 m_len:mg "len"=none
 m_list:mg "list"=none
 m_range:mg "range"=none
 m_zip:mg "zip"=none
 m_int:mg "int"=none
 m_isinstance:mg "isinstance"=none
 m_bool:mg "bool"=none
 m_set:mg "set"=none
 m_tuple:mg "tuple"=none
 m_sum:mg "sum"=none
 m_enumerate:mg "enumerate"=none
 m_str:mg "str"=none
 m_ValueError:mg "ValueError"=none
end TW
set_option Elab.async false
set_option linter.all false
set_option maxRecDepth 100000
set_option exponentiation.threshold 4000
set_option maxHeartbeats 1000000
namespace TW
open PySem L2
section
variable {P:Program}{w:World}{K:GP}{mg:Str->Option Value}{base:Heap}
/-- a dict of worths,its keys boxes' sums -/
def B9 (H:Hp)(a:Addr)(P:Str->Str->Prop)(W:Str->Str->Int):Prop:=∃kvs,H a=some (.dT kvs)/\∀t x,P t x->du kvs [.inr t,.inr x]=some (.int (W t x))
def zF (P:Str->Str->Prop):Prop:=∀t x,P t x->t="box"\/t="mine"\/t="yours"
def EA:List (Str×Int)->List Int->Str->Int
 | b :: bs,w :: ws,x=>if b.1=x then w else EA bs ws x
 | _,_,_=>0
def b5 (side:Str):List (Str×Int)->List Int->List (List Key×V)
 | b :: bs,w :: ws=>([.inr side,.inr b.1],.int w) :: b5 side bs ws
 | _,_=>[]
theorem kN (side:Str):∀(bs:List (Str×Int)) (ws:List Int),(b5 side bs ws).length<=bs.length
 | [],_=>by simp [b5]
 | _ :: _,[]=>by simp [b5]
 | _ :: bs,_ :: ws=>by simp [b5]; exact kN side bs ws
theorem kO (side:Str):∀(bs:List (Str×Int)) (ws:List Int) (x:Str),bs.length=ws.length->x∈bs.map (·.1)->du (b5 side bs ws) [.inr side,.inr x]=some (.int (EA bs ws x))
 | [],_,_,_,h=>by simp at h
 | _ :: _,[],_,h,_=>by simp at h
 | b :: bs,w :: ws,x,hl,hx=>by
   show du (([.inr side,.inr b.1],V.int w) :: b5 side bs ws) _=some (.int (if b.1=x then w else EA bs ws x))
   by_cases e:b.1=x
   · rw [if_pos e,gr (p:=(([.inr side,.inr b.1]:List Key),V.int w)) (by rw [← e])]
   · rw [if_neg e,eo (p:=(([.inr side,.inr b.1]:List Key),V.int w)) (fun z=>by injection z with _ z; injection z with z _; injection z with z; exact e z)]
     refine kO side bs ws x (by simpa using hl) ?_
     rcases List.mem_cons.mp hx with z | z
     · exact absurd z.symm e
     · exact z
theorem jx (side:Str):∀(bs:List (Str×Int)) (ws:List Int) (s x:Str),(s=side->x ∉ bs.map (·.1))->du (b5 side bs ws) [.inr s,.inr x]=none
 | [],_,_,_,_=>rfl
 | _ :: _,[],_,_,_=>rfl
 | b :: bs,w :: ws,s,x,h=>by
   show du (([.inr side,.inr b.1],V.int w) :: b5 side bs ws) _=none
   rw [eo (p:=(([.inr side,.inr b.1]:List Key),V.int w)) (fun z=>by injection z with z1 z; injection z1 with z1; injection z with z _; injection z with z; exact h z1.symm (List.mem_cons.mpr (.inl z.symm)))]
   exact jx side bs ws s x fun e z=>h e (List.mem_cons.mpr (.inr z))
theorem vq {κ:Type}[DecidableEq κ]{kvs:List (κ×V)}{k:κ}{v:V}(h:du kvs k=none):putK kvs k v=kvs++[(k,v)]:=by
 unfold putK
 rw [jV,h]
 rfl
theorem jy (side:Str):∀(bs:List (Str×Int)) (ws:List Int) (b:Str×Int) (w:Int),bs.length=ws.length->b5 side (bs++[b]) (ws++[w])=b5 side bs ws++[([.inr side,.inr b.1],.int w)]
 | [],[],_,_,_=>rfl
 | [],_ :: _,_,_,h=>by simp at h
 | _ :: _,[],_,_,h=>by simp at h
 | b :: bs,w :: ws,c,v,h=>by
   show _ :: b5 side (bs++[c]) (ws++[v])=_
   rw [jy side bs ws c v (by simpa using h)]
   rfl
theorem xg {bs:List (Str×Int)}(nd:(bs.map (·.1)).Nodup){i:Nat}{b:Str×Int}(h:bs[i]? = some b):b.1 ∉ (bs.take i).map (·.1):=by
 intro z
 have hi:i < bs.length:=(List.getElem?_eq_some_iff.mp h).1
 have e:bs[i]=b:=(List.getElem?_eq_some_iff.mp h).2
 obtain ⟨c,hc,e2⟩:=List.mem_map.mp z
 obtain ⟨j,hj,e3⟩:=List.getElem_of_mem hc
 have hj':j < i:=by rw [G8] at hj; omega
 rw [List.getElem_take] at e3
 have k1:(bs.map (·.1))[j]'(by rw [GR]; omega)=(bs.map (·.1))[i]'(by rw [GR]; omega):=by
   rw [List.getElem_map,List.getElem_map,e3,e,e2]
 exact (List.pairwise_iff_getElem.mp nd) j i _ _ hj' k1
abbrev bxP (bs:List (Str×Int)):Str->Str->Prop:=fun t y=>t="box"/\y∈bs.map (·.1)
theorem sh (bs:List (Str×Int)):zF (bxP bs):=fun t _ h=>.inl h.1
end
end TW
set_option Elab.async false
set_option linter.all false
set_option maxRecDepth 100000
set_option exponentiation.threshold 4000
set_option maxHeartbeats 1000000
namespace TW
open PySem L2
section
variable {P:Program}{w:World}{K:GP}{mg:Str->Option Value}{base:Heap}
theorem B9.same {H H':Hp}{a:Addr}{Pb:Str->Str->Prop}{W:Str->Str->Int}(h:B9 H a Pb W)(s:ah H H'):B9 H' a Pb W:=let ⟨kvs,e,v⟩:=h; ⟨kvs,s _ _ e,v⟩
theorem bL.same {H H':Hp}{v:V}{e:E}(h:bL H v e)(s:ah H H'):bL H' v e:=bL.keep (ah.tk s) h
abbrev sAllKnown:Stmt:=top 15
abbrev sRefUnk:Stmt:=top 14
/-! ### all_known -/
def cK (n:Nat):Sp:=fun vs H Q _=>∃(a:Addr) (v:V) (e:E) (Pb:Str->Str->Prop) (W:Str->Str->Int),vs=[.ref a,v]/\B9 H a Pb W/\zF Pb/\bL H v e/\e.okIn Pb/\e.dep < n/\∀H',ah H H'->Q (.bl true) H'
theorem jH:aq ["known","told","part"] ["known","told"] (af sAllKnown):=⟨rfl,rfl,rfl,by decide +kernel,rfl,by decide +kernel,by decide +kernel⟩
theorem eM:(af sAllKnown).names.lookup (GQ "all_known")=some .globalImplicit:=by decide +kernel
theorem fc:(af sAllKnown).names.lookup (GQ "NAMELESS")=some .globalImplicit:=by decide +kernel
theorem gy:(af sAllKnown).names.lookup (GQ "PARTED")=some .globalImplicit:=by decide +kernel
theorem uM {n:Nat}{f:Addr}{fd:FuncData}(F:bI K "all_known" "all_known" sAllKnown f fd)(N:mD K mg "NAMELESS" ["number","yes"])(PT:mD K mg "PARTED" ["plus","less","same","under","not","both"])
   (G:aJ P w K mg base "all_known" ["known","told"] (n + 1) (cK n)):aL P w K mg base CX0 (n + 2) f fd ["known","told"] (cK (n + 1)):=by
 obtain ⟨tn,mN,cN⟩:=N
 obtain ⟨tp,mP,cP⟩:=PT
 refine F.ok jH (fun vs H Q E h=>?_) (fun cdv A outer s H vs Q E hr h=>?_)
 · obtain ⟨a,v,e,Pb,W,rfl,_⟩:=h
   rfl
 · obtain ⟨a,v,e,Pb,W,rfl,kn,tg,ev,ok,hd,q⟩:=h
   refine ⟨_,LU (K6 (Lf (Lb L3.xo (La Li (K0 1) K4) (Lz (w:=.ref tn) fc mN rfl) (by rfl)) (K8 (Lc LL)) Lh)
     (K6 (Lf (Lb L3.iJ (La Li (K0 1) K4) (Lz (w:=.ref tp) gy mP rfl) (by rfl)) (K8 (Lc (L3.ES (cO hr _ (by decide)) (K0 1) (K0 0)))) Lh)
     (K6 (LG (L3.iT (L3.DZ (K0 1) K4)) (Le 2 jH.nd) (K8 (Lf (Mg (LQ (K9 G hr eM (K1 (K0 0) (K1 (K0 2) K3))))) (K8 (Lc LL)) Lh)))
     (K8 (Lc LL))))),?_⟩
   cases e with
   | num m=>
     obtain ⟨p,rfl,hp⟩:=ev
     refine ⟨_,rfl,p,_,_,_,rfl,rfl,aC.of hp,rfl,tn,_,rfl,.inr (cN _),rfl,rfl,_,rfl,?_⟩
     refine aH (fun _=>?_) (fun c=>absurd (show om (.str "number") _=true by decide) c)
     exact q _ (same_refl _)
   | yes=>
     obtain ⟨p,rfl,hp⟩:=ev
     refine ⟨_,rfl,p,_,_,_,rfl,rfl,aC.of hp,rfl,tn,_,rfl,.inr (cN _),rfl,rfl,_,rfl,?_⟩
     refine aH (fun _=>?_) (fun c=>absurd (show om (.str "yes") _=true by decide) c)
     exact q _ (same_refl _)
   | box t x=>
     obtain ⟨p,rfl,hp⟩:=ev
     obtain ⟨kvs,hk,hv⟩:=kn
     have ht:=tg t x ok
     have g:=iY.t (k:=[.inr t,.inr x]) hk hp
     rw [hv t x ok] at g
     refine ⟨_,rfl,p,_,_,_,rfl,rfl,aC.of hp,rfl,tn,_,rfl,.inr (cN _),rfl,rfl,_,rfl,?_⟩
     refine aH (fun c=>?_) (fun _=>?_)
     · exact absurd c (by rcases ht with rfl | rfl | rfl <;> decide)
     refine ⟨_,rfl,p,_,_,_,rfl,rfl,aC.of hp,rfl,tp,_,rfl,.inr (cP _),rfl,rfl,_,rfl,?_⟩
     refine aH (fun _=>?_) (fun c=>absurd (show (!om (.str t) _)=true by rcases ht with rfl | rfl | rfl <;> decide) c)
     exact ⟨_,rfl,_,rfl,a,_,rfl,g,q _ (same_refl _)⟩
   | nt e1=>
     obtain ⟨x,⟨p,rfl,hp⟩,ax⟩:=ev
     have hd':e1.dep + 1 < n + 1:=hd
     refine ⟨_,rfl,p,_,_,_,rfl,rfl,aC.of hp,rfl,tn,_,rfl,.inr (cN _),rfl,rfl,_,rfl,?_⟩
     refine aH (fun c=>absurd c (by decide)) (fun _=>?_)
     refine ⟨_,rfl,p,_,_,_,rfl,rfl,aC.of hp,rfl,tp,_,rfl,.inr (cP _),rfl,rfl,_,rfl,?_⟩
     refine aH (fun c=>absurd c (by decide)) (fun _=>?_)
     refine ⟨_,rfl,_,rfl,p,_,rfl,aC.of hp,(fun z=>absurd z.1 (show ¬ HT.bD 2 0 (some 1)=0 by decide)),fun l hl=>⟨l,rfl,⟨_,aC.of ae⟩,?_⟩⟩
     refine lE (xs:=[x]) (fun i σ H2=>(∃pv,σ=[some (.ref a),some (.ref p),pv])/\ah (upd H l (.tup [x])) H2) ⟨⟨_,rfl⟩,same_refl _⟩ (fun i σ H2 _ z=>aC.of (z.2 _ _ ae)) (fun i x0 σ H2 hx z=>?_) (fun σ H2 z=>?_)
     · obtain ⟨⟨pv,rfl⟩,z⟩:=z
       have s2:=aa (ag hl _) z
       have hx0:x0=x:=by
         match i,hx with
         | 0,hx=>exact (HA hx).symm
       subst hx0
       refine ⟨_,rfl,_,rfl,a,x0,e1,Pb,W,rfl,kn.same s2,tg,ax.same s2,ok,by omega,fun H3 s3=>⟨_,rfl,?_⟩⟩
       refine aH (fun c=>absurd c (by decide)) (fun _=>?_)
       exact ⟨⟨_,rfl⟩,aa z s3⟩
     · exact q _ (aa (ag hl _) z.2)
   | two k e1 e2=>
     obtain ⟨x,y,⟨p,rfl,hp⟩,ax,ay⟩:=ev
     have hd':max e1.dep e2.dep + 1 < n + 1:=hd
     refine ⟨_,rfl,p,_,_,_,rfl,rfl,aC.of hp,rfl,tn,_,rfl,.inr (cN _),rfl,rfl,_,rfl,?_⟩
     refine aH (fun c=>absurd c (by cases k <;> decide)) (fun _=>?_)
     refine ⟨_,rfl,p,_,_,_,rfl,rfl,aC.of hp,rfl,tp,_,rfl,.inr (cP _),rfl,rfl,_,rfl,?_⟩
     refine aH (fun c=>absurd c (by cases k <;> decide)) (fun _=>?_)
     refine ⟨_,rfl,_,rfl,p,_,rfl,aC.of hp,(fun z=>absurd z.1 (show ¬ HT.bD 3 0 (some 1)=0 by decide)),fun l hl=>⟨l,rfl,⟨_,aC.of ae⟩,?_⟩⟩
     refine lE (xs:=[x,y]) (fun i σ H2=>(∃pv,σ=[some (.ref a),some (.ref p),pv])/\ah (upd H l (.tup [x,y])) H2) ⟨⟨_,rfl⟩,same_refl _⟩ (fun i σ H2 _ z=>aC.of (z.2 _ _ ae)) (fun i x0 σ H2 hx z=>?_) (fun σ H2 z=>?_)
     · obtain ⟨⟨pv,rfl⟩,z⟩:=z
       have s2:=aa (ag hl _) z
       have hx0:∃e0,bL H x0 e0/\e0.okIn Pb/\e0.dep < n:=by
         match i,hx with
         | 0,hx=>exact ⟨e1,(HA hx) ▸ ax,ok.1,by omega⟩
         | 1,hx=>exact ⟨e2,(HA hx) ▸ ay,ok.2,by omega⟩
       obtain ⟨e0,a0,o0,d0⟩:=hx0
       refine ⟨_,rfl,_,rfl,a,x0,e0,Pb,W,rfl,kn.same s2,tg,a0.same s2,o0,d0,fun H3 s3=>⟨_,rfl,?_⟩⟩
       refine aH (fun c=>absurd c (by decide)) (fun _=>?_)
       exact ⟨⟨_,rfl⟩,aa z s3⟩
     · exact q _ (aa (ag hl _) z.2)
theorem oB {f:Addr}{fd:FuncData}:aL P w K mg base CX0 1 f fd ["known","told"] (cK 0):=by
 have no:∀vs H Q E,¬ cK 0 vs H Q E:=fun vs H Q E h=>by
   obtain ⟨_,_,_,_,_,_,_,_,_,_,h1,_⟩:=h
   omega
 exact ⟨fun vs H Q E h=>absurd h (no vs H Q E),fun A outer s H args us vs Q E _ _ _ _ h=>absurd h (no vs H Q E)⟩
theorem qG (s:Src K mg "all_known" sAllKnown)(N:mD K mg "NAMELESS" ["number","yes"])(PT:mD K mg "PARTED" ["plus","less","same","under","not","both"]):∀n:Nat,aJ P w K mg base "all_known" ["known","told"] (n + 1) (cK n):=by
 obtain ⟨f,fd,F,m⟩:=s
 have b:Binds K fd ["known","told"] []:=cU F fun _ _ _ _ _ _ _ _=>rfl
 intro n
 have all:aL P w K mg base CX0 (n + 1) f fd ["known","told"] (cK n):=by
   induction n with
   | zero=>exact oB
   | succ n ih=>exact uM F N PT ⟨f,fd,ih,F.kp,b,m⟩
 exact ⟨f,fd,all,F.kp,b,m⟩
/-! ### refuse_unknown -/
def f9 (n:Nat):Sp:=fun vs H Q _=>∃(a:Addr) (v:V) (e:E) (Pb:Str->Str->Prop) (W:Str->Str->Int),vs=[.ref a,v]/\B9 H a Pb W/\zF Pb/\bL H v e/\e.okIn Pb/\e.dep < n/\∀H',ah H H'->Q .bq H'
theorem vK:aq ["known","told"] ["known","told"] (af sRefUnk):=⟨rfl,rfl,rfl,by decide +kernel,rfl,by decide +kernel,by decide +kernel⟩
theorem fQ:(af sRefUnk).names.lookup (GQ "all_known")=some .globalImplicit:=by decide +kernel
theorem rA {n:Nat}{f:Addr}{fd:FuncData}(F:bI K "refuse_unknown" "refuse_unknown" sRefUnk f fd)(G:aJ P w K mg base "all_known" ["known","told"] (n + 1) (cK n)):aL P w K mg base CX0 (n + 2) f fd ["known","told"] (f9 n):=by
 refine F.ok vK (fun vs H Q E h=>?_) (fun cdv A outer s H vs Q E hr h=>?_)
 · obtain ⟨a,v,e,Pb,W,rfl,_⟩:=h
   rfl
 · obtain ⟨a,v,e,Pb,W,rfl,kn,tg,ev,ok,hd,q⟩:=h
   refine ⟨_,LU (K8 (Lf (Mg (LQ (K9 G hr fQ (K1 (K0 0) (K1 (K0 1) K3))))) LC Lh)),?_⟩
   refine ⟨_,rfl,_,rfl,a,v,e,Pb,W,rfl,kn,tg,ev,ok,hd,fun H3 s3=>⟨_,rfl,?_⟩⟩
   refine aH (fun c=>absurd c (by decide)) (fun _=>?_)
   exact q _ s3
theorem oh {n:Nat}(s:Src K mg "refuse_unknown" sRefUnk)(G:aJ P w K mg base "all_known" ["known","told"] (n + 1) (cK n)):aJ P w K mg base "refuse_unknown" ["known","told"] (n + 2) (f9 n):=
 let ⟨f,fd,F,m⟩:=s
 ⟨f,fd,rA F G,F.kp,cU F fun _ _ _ _ _ _ _ _=>rfl,m⟩
end
end TW
set_option Elab.async false
set_option linter.all false
set_option maxRecDepth 100000
set_option exponentiation.threshold 4000
set_option maxHeartbeats 1000000
namespace TW
open PySem L2
section
variable {P:Program}{w:World}{K:GP}{mg:Str->Option Value}{base:Heap}
abbrev sRefB:Stmt:=top 9
abbrev sRefI:Stmt:=top 10
/-! ### refuse_boxes,refuse_inputs -/
theorem w6 {xs:List Str}{x:Str}(h:x∈xs):om (.str x) (xs.map V.str)=true:=by
 unfold om
 rw [List.any_eq_true]
 exact ⟨.str x,List.mem_map.mpr ⟨x,h,rfl⟩,by simp [nz]⟩
theorem gw {xs:List Str}:(xs.map V.str).all cB=true:=by
 rw [Jr]
 intro v hv
 obtain ⟨x,_,rfl⟩:=List.mem_map.mp hv
 rfl
def mq:Sp:=fun vs H Q _=>∃(ba:Addr) (vb:List V) (bs:List (Str×Int)),vs=[.ref ba]/\H ba=some (.lst vb)/\Paired (bT H) vb bs/\(∀b∈bs,1<=b.2)/\(bs.map (·.1)).Nodup/\bs.length<=900/\∀H',ah H H'->Q .bq H'
theorem l7:aq ["boxes","name","size","names"] ["boxes"] (af sRefB):=⟨rfl,rfl,rfl,by decide +kernel,rfl,by decide +kernel,by decide +kernel⟩
theorem kH:(af sRefB).names.lookup (GQ "len")=some .globalImplicit:=by decide +kernel
theorem qB:(af sRefB).names.lookup (GQ "set")=some .globalImplicit:=by decide +kernel
theorem xH {f:Addr}{fd:FuncData}(F:bI K "refuse_boxes" "refuse_boxes" sRefB f fd)(m_len:mg "len"=none)(m_set:mg "set"=none):aL P w K mg base CX0 1 f fd ["boxes"] mq:=by
 refine F.ok l7 (fun vs H Q E h=>?_) (fun cdv A outer s H vs Q E hr h=>?_)
 · obtain ⟨ba,vb,bs,rfl,_⟩:=h
   rfl
 · obtain ⟨ba,vb,bs,rfl,hB,pb,sz,nd,h900,q⟩:=h
   refine ⟨_,LU (K6 (LG (Lr (K0 0)) (LH 2 (Ln (Le 1 l7.nd) (Ln (Le 2 l7.nd) Lx))) (K8 (Lf (Lb LX (K0 2) K4) LC Lh)))
     (K6 (LY (i:=3) [none,none] ["name","size"] (show az _ (af sRefB) from ⟨rfl,by decide +kernel,by decide +kernel,by decide +kernel⟩) (by rfl) (Lr (K0 0)) (fun _ _ _ _ _=>⟨(LH 2 (Ln (Le 0 (show (["name","size"]:List Str).Nodup from by decide +kernel)) (Ln (Le 1 (show (["name","size"]:List Str).Nodup from by decide +kernel)) Lx))),Lu,(K0 0)⟩) l7.nd)
     (K8 (Lf (Lb LM (L3.uk kH m_len qB m_set (K1 (K0 3) K3)) (Lm Lp kH m_len G1 (K1 (K0 3) K3))) LC Lh)))),?_⟩
   have hvl:vb.length=bs.length:=Paired.length pb
   refine ⟨_,rfl,ba,rfl,⟨_,aw.of hB⟩,?_⟩
   refine cf (xs:=vb) (fun i σ H2=>(∃nv sv,σ=[some (.ref ba),nv,sv,none])/\H2=H) ⟨⟨_,_,rfl⟩,rfl⟩ (fun i σ H2 _ z=>by rw [z.2]; exact aw.of hB) (fun i x0 σ H2 hx z=>?_) (fun σ H2 z=>?_)
   · obtain ⟨⟨nv,sv,rfl⟩,rfl⟩:=z
     obtain ⟨b,hbi,p,rfl,hp⟩:=Paired.get pb hx
     have hpos:=sz b (Hh hbi)
     refine ⟨p,_,rfl,aC.of hp,rfl,_,_,rfl,_,_,rfl,rfl,?_⟩
     refine ⟨_,rfl,_,_,rfl,rfl,_,rfl,?_⟩
     refine aH (fun c=>absurd (of_decide_eq_true c) (by omega)) (fun _=>?_)
     exact ⟨⟨_,_,rfl⟩,rfl⟩
   obtain ⟨⟨nv,sv,rfl⟩,hH⟩:=z
   have hH':=hH.symm
   subst hH'
   refine ⟨_,rfl,ba,rfl,⟨_,aw.of hB⟩,fun na hna=>?_⟩
   have nBa:ba≠na:=ai hB hna
   refine aT (xs:=vb) (fun i H2=>H2=upd H na (.lst ((bs.take i).map fun b=>V.str b.1))) rfl (fun i H2 _ e=>?_) (fun i x H2 hx e=>?_) (fun H2 e=>?_)
   · subst e
     exact aw.of (by rw [aj nBa]; exact hB)
   · subst e
     obtain ⟨b,hbi,p,rfl,hp⟩:=Paired.get pb hx
     have hil:i < vb.length:=(List.getElem?_eq_some_iff.mp hx).1
     refine ⟨p,_,rfl,aC.of (by rw [aj (ai hp hna)]; exact hp),rfl,_,_,rfl,_,_,rfl,rfl,?_⟩
     refine bE (A:=fun H3=>bS (yL 0) na _ H3 _) ⟨_,rfl,_,ae,Ho (show _<=1000 by rw [GR,G8]; omega) (by decide),aK (Pv:=fun i H2=>H2=upd H na (.lst ((bs.take i).map fun b=>V.str b.1))) (by repeat' constructor) hil ?_⟩
     rw [iW]
     congr 2
     rw [Hl,hbi,G2]
     rfl
   subst e
   have et:(bs.take vb.length).map (fun b=>V.str b.1)=(bs.map (·.1)).map V.str:=by rw [hvl,HB,HQ]; rfl
   rw [et]
   have sN:=ag hna (.lst ((bs.map (·.1)).map V.str))
   have hn1:(upd H na (.lst ((bs.map (·.1)).map V.str))) na=some (.lst ((bs.map (·.1)).map V.str)):=ae
   generalize upd H na (.lst ((bs.map (·.1)).map V.str))=H1 at sN hn1 ⊢
   refine ⟨_,rfl,na,_,rfl,aw.of hn1,nd,by rw [GR]; omega,_,rfl,na,_,rfl,.inl (aw.of hn1),rfl,_,rfl,?_⟩
   refine aH (fun c=>?_) (fun _=>?_)
   · simp at c
   exact q _ sN
theorem tX (s:Src K mg "refuse_boxes" sRefB)(m_len:mg "len"=none)(m_set:mg "set"=none):aJ P w K mg base "refuse_boxes" ["boxes"] 1 mq:=
 let ⟨f,fd,F,m⟩:=s
 ⟨f,fd,xH F m_len m_set,F.kp,cT F fun _ _ _ _ _ _ _=>rfl,m⟩
def mr:Sp:=fun vs H Q _=>∃(ba ia:Addr) (vb:List V) (bs:List (Str×Int)) (ins:List Str),vs=[.ref ba,.ref ia]/\H ba=some (.lst vb)/\Paired (bT H) vb bs/\H ia=some (.lst (ins.map V.str))/\ins.Nodup/\(∀x∈ins,x∈bs.map (·.1))/\bs.length<=900/\ins.length<=900/\∀H',ah H H'->Q .bq H'
theorem oI:aq ["boxes","inputs","names","name"] ["boxes","inputs"] (af sRefI):=⟨rfl,rfl,rfl,by decide +kernel,rfl,by decide +kernel,by decide +kernel⟩
theorem kI:(af sRefI).names.lookup (GQ "len")=some .globalImplicit:=by decide +kernel
theorem qC:(af sRefI).names.lookup (GQ "set")=some .globalImplicit:=by decide +kernel
theorem xI {f:Addr}{fd:FuncData}(F:bI K "refuse_inputs" "refuse_inputs" sRefI f fd)(m_len:mg "len"=none)(m_set:mg "set"=none):aL P w K mg base CX0 1 f fd ["boxes","inputs"] mr:=by
 refine F.ok oI (fun vs H Q E h=>?_) (fun cdv A outer s H vs Q E hr h=>?_)
 · obtain ⟨ba,ia,vb,bs,ins,rfl,_⟩:=h
   rfl
 · obtain ⟨ba,ia,vb,bs,ins,rfl,hB,pb,hI,nd,sub,h900,i900,q⟩:=h
   refine ⟨_,LU (K6 (LY (i:=2) [none,none] ["name","size"] (show az _ (af sRefI) from ⟨rfl,by decide +kernel,by decide +kernel,by decide +kernel⟩) (by rfl) (Lr (K0 0)) (fun _ _ _ _ _=>⟨(LH 2 (Ln (Le 0 (show (["name","size"]:List Str).Nodup from by decide +kernel)) (Ln (Le 1 (show (["name","size"]:List Str).Nodup from by decide +kernel)) Lx))),Lu,(K0 0)⟩) oI.nd)
     (K6 (LG (Lr (K0 1)) (Le 3 oI.nd) (K8 (Lf (Lb L3.iJ (K0 3) (K0 2) (by rfl)) LC Lh)))
     (K8 (Lf (Lb LM (L3.uk kI m_len qC m_set (K1 (K0 1) K3)) (Lm Lp kI m_len G1 (K1 (K0 1) K3))) LC Lh)))),?_⟩
   have hvl:vb.length=bs.length:=Paired.length pb
   refine ⟨_,rfl,ba,rfl,⟨_,aw.of hB⟩,fun na hna=>?_⟩
   have nBa:ba≠na:=ai hB hna
   refine aT (xs:=vb) (fun i H2=>H2=upd H na (.lst ((bs.take i).map fun b=>V.str b.1))) rfl (fun i H2 _ e=>?_) (fun i x H2 hx e=>?_) (fun H2 e=>?_)
   · subst e
     exact aw.of (by rw [aj nBa]; exact hB)
   · subst e
     obtain ⟨b,hbi,p,rfl,hp⟩:=Paired.get pb hx
     have hil:i < vb.length:=(List.getElem?_eq_some_iff.mp hx).1
     refine ⟨p,_,rfl,aC.of (by rw [aj (ai hp hna)]; exact hp),rfl,_,_,rfl,_,_,rfl,rfl,?_⟩
     refine bE (A:=fun H3=>bS (yL 0) na _ H3 _) ⟨_,rfl,_,ae,Ho (show _<=1000 by rw [GR,G8]; omega) (by decide),aK (Pv:=fun i H2=>H2=upd H na (.lst ((bs.take i).map fun b=>V.str b.1))) (by repeat' constructor) hil ?_⟩
     rw [iW]
     congr 2
     rw [Hl,hbi,G2]
     rfl
   subst e
   have et:(bs.take vb.length).map (fun b=>V.str b.1)=(bs.map (·.1)).map V.str:=by rw [hvl,HB,HQ]; rfl
   rw [et]
   have sN:=ag hna (.lst ((bs.map (·.1)).map V.str))
   have hn1:(upd H na (.lst ((bs.map (·.1)).map V.str))) na=some (.lst ((bs.map (·.1)).map V.str)):=ae
   generalize upd H na (.lst ((bs.map (·.1)).map V.str))=H1 at sN hn1 ⊢
   have hI1:=sN _ _ hI
   refine ⟨_,rfl,ia,rfl,⟨_,aw.of hI1⟩,?_⟩
   refine cf (xs:=ins.map V.str) (fun i σ H2=>(∃nv,σ=[some (.ref ba),some (.ref ia),some (.ref na),nv])/\H2=H1) ⟨⟨_,rfl⟩,rfl⟩ (fun i σ H2 _ z=>by rw [z.2]; exact aw.of hI1) (fun i x0 σ H2 hx z=>?_) (fun σ H2 z=>?_)
   · obtain ⟨⟨nv,rfl⟩,rfl⟩:=z
     obtain ⟨x,hxi,rfl⟩:=bC hx
     refine ⟨_,rfl,_,rfl,na,_,rfl,.inl (aw.of hn1),rfl,gw,_,rfl,?_⟩
     refine aH (fun c=>?_) (fun _=>?_)
     · rw [w6 (sub x (Hh hxi))] at c
       exact absurd c (by decide)
     exact ⟨⟨_,rfl⟩,rfl⟩
   obtain ⟨⟨nv,rfl⟩,rfl⟩:=z
   refine ⟨_,rfl,ia,_,rfl,aw.of hI1,nd,by omega,_,rfl,ia,_,rfl,.inl (aw.of hI1),rfl,_,rfl,?_⟩
   refine aH (fun c=>?_) (fun _=>?_)
   · simp at c
   exact q _ sN
theorem tZ (s:Src K mg "refuse_inputs" sRefI)(m_len:mg "len"=none)(m_set:mg "set"=none):aJ P w K mg base "refuse_inputs" ["boxes","inputs"] 1 mr:=
 let ⟨f,fd,F,m⟩:=s
 ⟨f,fd,xI F m_len m_set,F.kp,cU F fun _ _ _ _ _ _ _ _=>rfl,m⟩
abbrev sLeads:Stmt:=top 12
abbrev sToldBy:Stmt:=top 13
/-! ### leads_of,told_by -/
def Np.leads:Np->List Int
 | .put _ _ n=>[n] | .say _ n=>[n] | .test _ n o=>[n,o] | .pick _ n=>[n] | .fin=>[]
def Np.tolds:Np->List E
 | .put x s _=>[.box "box" x,s] | .say s _=>[s] | .test c _ _=>[c] | .pick x _=>[.box "box" x] | .fin=>[]
def eI:Sp:=fun vs H Q _=>∃(v:V) (nd:Np),vs=[v]/\aP H v nd/\∀l H',ah H H'->H' l=some (.lst (nd.leads.map V.int))->Q (.ref l) H'
theorem yq:aq ["node"] ["node"] (af sLeads):=⟨rfl,rfl,rfl,by decide +kernel,rfl,by decide +kernel,by decide +kernel⟩
theorem uN {f:Addr}{fd:FuncData}(F:bI K "leads_of" "leads_of" sLeads f fd):aL P w K mg base CX0 1 f fd ["node"] eI:=by
 refine F.ok yq (fun vs H Q E h=>?_) (fun cdv A outer s H vs Q E hr h=>?_)
 · obtain ⟨v,nd,rfl,_⟩:=h
   rfl
 · obtain ⟨v,nd,rfl,hn,q⟩:=h
   refine ⟨_,LU (K6 (Lf (Lb Ll (La Li (K0 0) K4) K7) (K8 (Lc (Lj K3))) Lh)
     (K6 (Lf (Lb Ll (La Li (K0 0) K4) K7) (K8 (Lc (Lj (K1 (La Li (K0 0) K4) K3)))) Lh)
     (K6 (Lf (Lb L3.xo (La Li (K0 0) K4) (Lg (K1 K7 (K1 K7 K3))) (by rfl)) (K8 (Lc (Lj (K1 (La Li (K0 0) K4) K3)))) Lh)
     (K8 (Lc (Lj (K1 (La Li (K0 0) K4) (K1 (La Li (K0 0) K4) K3)))))))),?_⟩
   cases nd with
   | fin=>
     obtain ⟨x,rfl,hx⟩:=hn
     refine ⟨_,rfl,x,_,_,_,rfl,rfl,aC.of hx,rfl,rfl,_,rfl,?_⟩
     refine aH (fun _=>?_) (fun c=>absurd (decide_eq_true rfl) c)
     exact ⟨Nr,fun l hl=>q l _ (ag hl _) ae⟩
   | put nm e n=>
     obtain ⟨u,⟨x,rfl,hx⟩,eu⟩:=hn
     refine ⟨_,rfl,x,_,_,_,rfl,rfl,aC.of hx,rfl,rfl,_,rfl,?_⟩
     refine aH (fun c=>absurd (of_decide_eq_true c) (by decide)) (fun _=>?_)
     refine ⟨_,rfl,x,_,_,_,rfl,rfl,aC.of hx,rfl,rfl,_,rfl,?_⟩
     refine aH (fun _=>?_) (fun c=>absurd (decide_eq_true rfl) c)
     exact ⟨_,rfl,x,_,_,_,rfl,rfl,aC.of hx,rfl,Nt,fun l hl=>q l _ (ag hl _) ae⟩
   | say e n=>
     obtain ⟨u,⟨x,rfl,hx⟩,eu⟩:=hn
     refine ⟨_,rfl,x,_,_,_,rfl,rfl,aC.of hx,rfl,rfl,_,rfl,?_⟩
     refine aH (fun c=>absurd (of_decide_eq_true c) (by decide)) (fun _=>?_)
     refine ⟨_,rfl,x,_,_,_,rfl,rfl,aC.of hx,rfl,rfl,_,rfl,?_⟩
     refine aH (fun c=>absurd (of_decide_eq_true c) (by decide)) (fun _=>?_)
     refine ⟨_,rfl,x,_,_,_,rfl,rfl,aC.of hx,rfl,Nu,fun t0 ht0=>⟨t0,_,rfl,.inr (aC.of ae),rfl,rfl,_,rfl,?_⟩⟩
     have s0:=ag ht0 (.tup [.str "say",.str "pick"])
     generalize upd H t0 (.tup [.str "say",.str "pick"])=H0 at s0 ⊢
     have hx:=s0 _ _ hx
     refine aH (fun _=>?_) (fun c=>absurd (show om (.str "say") _=true by decide) c)
     exact ⟨_,rfl,x,_,_,_,rfl,rfl,aC.of hx,rfl,Nt,fun l hl=>q l _ (aa s0 (ag hl _)) ae⟩
   | pick nm n=>
     obtain ⟨x,rfl,hx⟩:=hn
     refine ⟨_,rfl,x,_,_,_,rfl,rfl,aC.of hx,rfl,rfl,_,rfl,?_⟩
     refine aH (fun c=>absurd (of_decide_eq_true c) (by decide)) (fun _=>?_)
     refine ⟨_,rfl,x,_,_,_,rfl,rfl,aC.of hx,rfl,rfl,_,rfl,?_⟩
     refine aH (fun c=>absurd (of_decide_eq_true c) (by decide)) (fun _=>?_)
     refine ⟨_,rfl,x,_,_,_,rfl,rfl,aC.of hx,rfl,Nu,fun t0 ht0=>⟨t0,_,rfl,.inr (aC.of ae),rfl,rfl,_,rfl,?_⟩⟩
     have s0:=ag ht0 (.tup [.str "say",.str "pick"])
     generalize upd H t0 (.tup [.str "say",.str "pick"])=H0 at s0 ⊢
     have hx:=s0 _ _ hx
     refine aH (fun _=>?_) (fun c=>absurd (show om (.str "pick") _=true by decide) c)
     exact ⟨_,rfl,x,_,_,_,rfl,rfl,aC.of hx,rfl,Nt,fun l hl=>q l _ (aa s0 (ag hl _)) ae⟩
   | test c n o=>
     obtain ⟨u,⟨x,rfl,hx⟩,eu⟩:=hn
     refine ⟨_,rfl,x,_,_,_,rfl,rfl,aC.of hx,rfl,rfl,_,rfl,?_⟩
     refine aH (fun c=>absurd (of_decide_eq_true c) (by decide)) (fun _=>?_)
     refine ⟨_,rfl,x,_,_,_,rfl,rfl,aC.of hx,rfl,rfl,_,rfl,?_⟩
     refine aH (fun c=>absurd (of_decide_eq_true c) (by decide)) (fun _=>?_)
     refine ⟨_,rfl,x,_,_,_,rfl,rfl,aC.of hx,rfl,Nu,fun t0 ht0=>⟨t0,_,rfl,.inr (aC.of ae),rfl,rfl,_,rfl,?_⟩⟩
     have s0:=ag ht0 (.tup [.str "say",.str "pick"])
     generalize upd H t0 (.tup [.str "say",.str "pick"])=H0 at s0 ⊢
     have hx:=s0 _ _ hx
     refine aH (fun c=>absurd c (by decide)) (fun _=>?_)
     exact ⟨_,rfl,x,_,_,_,rfl,rfl,aC.of hx,rfl,_,rfl,x,_,_,_,rfl,rfl,aC.of hx,rfl,Nu,fun l hl=>q l _ (aa s0 (ag hl _)) ae⟩
theorem kK (s:Src K mg "leads_of" sLeads)  : aJ P w K mg base "leads_of" ["node"] 1 eI:=
 let ⟨f,fd,F,m⟩:=s
 ⟨f,fd,uN F ,F.kp,cT F fun _ _ _ _ _ _ _=>rfl,m⟩
def gh:Sp:=fun vs H Q _=>∃(v:V) (nd:Np),vs=[v]/\aP H v nd/\∀l H' us,ah H H'->H' l=some (.lst us)->Paired (bL H') us nd.tolds->Q (.ref l) H'
theorem vM:aq ["node"] ["node"] (af sToldBy):=⟨rfl,rfl,rfl,by decide +kernel,rfl,by decide +kernel,by decide +kernel⟩
theorem rB {f:Addr}{fd:FuncData}(F:bI K "told_by" "told_by" sToldBy f fd):aL P w K mg base CX0 1 f fd ["node"] gh:=by
 refine F.ok vM (fun vs H Q E h=>?_) (fun cdv A outer s H vs Q E hr h=>?_)
 · obtain ⟨v,nd,rfl,_⟩:=h
   rfl
 · obtain ⟨v,nd,rfl,hn,q⟩:=h
   refine ⟨_,LU (K6 (Lf (Lb Ll (La Li (K0 0) K4) K7) (K8 (Lc (Lj K3))) Lh)
     (K6 (Lf (Lb Ll (La Li (K0 0) K4) K7) (K8 (Lc (Lj (K1 (Lg (K1 K7 (K1 (La Li (K0 0) K4) K3))) (K1 (La Li (K0 0) K4) K3))))) Lh)
     (K6 (Lf (Lb Ll (La Li (K0 0) K4) K7) (K8 (Lc (Lj (K1 (Lg (K1 K7 (K1 (La Li (K0 0) K4) K3))) K3)))) Lh)
     (K8 (Lc (Lj (K1 (La Li (K0 0) K4) K3))))))),?_⟩
   cases nd with
   | fin=>
     obtain ⟨x,rfl,hx⟩:=hn
     refine ⟨_,rfl,x,_,_,_,rfl,rfl,aC.of hx,rfl,rfl,_,rfl,?_⟩
     refine aH (fun _=>?_) (fun c=>absurd (decide_eq_true rfl) c)
     exact ⟨Nr,fun l hl=>q l _ [] (ag hl _) ae .nil⟩
   | put nm e n=>
     obtain ⟨u,⟨x,rfl,hx⟩,eu⟩:=hn
     refine ⟨_,rfl,x,_,_,_,rfl,rfl,aC.of hx,rfl,rfl,_,rfl,?_⟩
     refine aH (fun c=>absurd (of_decide_eq_true c) (by decide)) (fun _=>?_)
     refine ⟨_,rfl,x,_,_,_,rfl,rfl,aC.of hx,rfl,rfl,_,rfl,?_⟩
     refine aH (fun _=>?_) (fun c=>absurd (decide_eq_true rfl) c)
     refine ⟨_,rfl,x,_,_,_,rfl,rfl,aC.of hx,rfl,Nu,fun t0 ht0=>?_⟩
     have s1:=ag ht0 (.tup [.str "box",.str nm])
     have e1:(upd H t0 (.tup [.str "box",.str nm])) t0=some (.tup [.str "box",.str nm]):=ae
     generalize upd H t0 (.tup [.str "box",.str nm])=H1 at s1 e1 ⊢
     refine ⟨_,rfl,x,_,_,_,rfl,rfl,aC.of (s1 _ _ hx),rfl,Nu,fun l hl=>?_⟩
     have s2:=ag hl (.lst [.ref t0,u])
     exact q l _ _ (aa s1 s2) ae (.cons ⟨t0,rfl,s2 _ _ e1⟩ (.cons (eu.same (aa s1 s2)) .nil))
   | say e n=>
     obtain ⟨u,⟨x,rfl,hx⟩,eu⟩:=hn
     refine ⟨_,rfl,x,_,_,_,rfl,rfl,aC.of hx,rfl,rfl,_,rfl,?_⟩
     refine aH (fun c=>absurd (of_decide_eq_true c) (by decide)) (fun _=>?_)
     refine ⟨_,rfl,x,_,_,_,rfl,rfl,aC.of hx,rfl,rfl,_,rfl,?_⟩
     refine aH (fun c=>absurd (of_decide_eq_true c) (by decide)) (fun _=>?_)
     refine ⟨_,rfl,x,_,_,_,rfl,rfl,aC.of hx,rfl,rfl,_,rfl,?_⟩
     refine aH (fun c=>absurd (of_decide_eq_true c) (by decide)) (fun _=>?_)
     exact ⟨_,rfl,x,_,_,_,rfl,rfl,aC.of hx,rfl,Nt,fun l hl=>q l _ _ (ag hl _) ae (.cons (eu.same (ag hl _)) .nil)⟩
   | pick nm n=>
     obtain ⟨x,rfl,hx⟩:=hn
     refine ⟨_,rfl,x,_,_,_,rfl,rfl,aC.of hx,rfl,rfl,_,rfl,?_⟩
     refine aH (fun c=>absurd (of_decide_eq_true c) (by decide)) (fun _=>?_)
     refine ⟨_,rfl,x,_,_,_,rfl,rfl,aC.of hx,rfl,rfl,_,rfl,?_⟩
     refine aH (fun c=>absurd (of_decide_eq_true c) (by decide)) (fun _=>?_)
     refine ⟨_,rfl,x,_,_,_,rfl,rfl,aC.of hx,rfl,rfl,_,rfl,?_⟩
     refine aH (fun _=>?_) (fun c=>absurd (decide_eq_true rfl) c)
     refine ⟨_,rfl,x,_,_,_,rfl,rfl,aC.of hx,rfl,Nu,fun t0 ht0=>?_⟩
     have s1:=ag ht0 (.tup [.str "box",.str nm])
     have e1:(upd H t0 (.tup [.str "box",.str nm])) t0=some (.tup [.str "box",.str nm]):=ae
     generalize upd H t0 (.tup [.str "box",.str nm])=H1 at s1 e1 ⊢
     refine ⟨Nt,fun l hl=>?_⟩
     have s2:=ag hl (.lst [.ref t0])
     exact q l _ _ (aa s1 s2) ae (.cons ⟨t0,rfl,s2 _ _ e1⟩ .nil)
   | test c n o=>
     obtain ⟨u,⟨x,rfl,hx⟩,eu⟩:=hn
     refine ⟨_,rfl,x,_,_,_,rfl,rfl,aC.of hx,rfl,rfl,_,rfl,?_⟩
     refine aH (fun c=>absurd (of_decide_eq_true c) (by decide)) (fun _=>?_)
     refine ⟨_,rfl,x,_,_,_,rfl,rfl,aC.of hx,rfl,rfl,_,rfl,?_⟩
     refine aH (fun c=>absurd (of_decide_eq_true c) (by decide)) (fun _=>?_)
     refine ⟨_,rfl,x,_,_,_,rfl,rfl,aC.of hx,rfl,rfl,_,rfl,?_⟩
     refine aH (fun c=>absurd (of_decide_eq_true c) (by decide)) (fun _=>?_)
     exact ⟨_,rfl,x,_,_,_,rfl,rfl,aC.of hx,rfl,Nt,fun l hl=>q l _ _ (ag hl _) ae (.cons (eu.same (ag hl _)) .nil)⟩
theorem oi (s:Src K mg "told_by" sToldBy)  : aJ P w K mg base "told_by" ["node"] 1 gh:=
 let ⟨f,fd,F,m⟩:=s
 ⟨f,fd,rB F ,F.kp,cT F fun _ _ _ _ _ _ _=>rfl,m⟩
end
end TW
set_option Elab.async false
set_option linter.all false
set_option maxRecDepth 100000
set_option exponentiation.threshold 4000
set_option maxHeartbeats 1000000
namespace TW
open PySem L2
section
variable {P:Program}{w:World}{K:GP}{mg:Str->Option Value}{base:Heap}
abbrev sRefN:Stmt:=top 11
abbrev sProgOf:Stmt:=top 8
/-! ### refuse_nodes -/
structure Np.good (bs:List (Str×Int))(m:Nat)(nd:Np):Prop where
 ld:∀n∈nd.leads,0<=n/\n < (m:Int)
 kn:∀e∈nd.tolds,e.okIn (bxP bs)/\e.dep<=29
def mw:Sp:=fun vs H Q _=>∃(ba na:Addr) (vb vn:List V) (bs:List (Str×Int)) (nds:List Np),vs=[.ref ba,.ref na]/\H ba=some (.lst vb)/\Paired (bT H) vb bs/\H na=some (.lst vn)/\Paired (aP H) vn nds/\(bs.map (·.1)).Nodup/\bs.length<=900/\1<=nds.length/\nds.length<=900 /\
 (∀e∈nds,e.good bs nds.length)/\∀H',ah H H'->Q .bq H'
theorem jK:aq ["boxes","nodes","known","node","lead","told"] ["boxes","nodes"] (af sRefN):=⟨rfl,rfl,rfl,by decide +kernel,rfl,by decide +kernel,by decide +kernel⟩
theorem jt:(af sRefN).names.lookup (GQ "leads_of")=some .globalImplicit:=by decide +kernel
theorem kJ:(af sRefN).names.lookup (GQ "len")=some .globalImplicit:=by decide +kernel
theorem dW:(af sRefN).names.lookup (GQ "refuse_unknown")=some .globalImplicit:=by decide +kernel
theorem jZ:(af sRefN).names.lookup (GQ "told_by")=some .globalImplicit:=by decide +kernel
theorem xJ {f:Addr}{fd:FuncData}(F:bI K "refuse_nodes" "refuse_nodes" sRefN f fd)(m_len:mg "len"=none)(LE:aJ P w K mg base "leads_of" ["node"] 32 eI)(TB:aJ P w K mg base "told_by" ["node"] 32 gh)(RU:aJ P w K mg base "refuse_unknown" ["known","told"] 32 (f9 30)):aL P w K mg base CX0 33 f fd ["boxes","nodes"] mw:=by
 refine F.ok jK (fun vs H Q E h=>?_) (fun cdv A outer s H vs Q E hr h=>?_)
 · obtain ⟨ba,na,vb,vn,bs,nds,rfl,_⟩:=h
   rfl
 · obtain ⟨ba,na,vb,vn,bs,nds,rfl,hB,pb,hN,pn,nd,h900,n1,n900,gd,q⟩:=h
   refine ⟨_,LU (K6 (Lf (Lb Ll (Lm Lp kJ m_len G1 (K1 (K0 1) K3)) K4) LC Lh)
     (K6 (L3.Gz (i:=2) [none,none] ["name","size"] (cO hr _ (by decide)) (show az _ (af sRefN) from ⟨rfl,by decide +kernel,by decide +kernel,by decide +kernel⟩) (by rfl) (Lr (K0 0)) (fun _ _ _ _ _=>⟨(LH 2 (Ln (Le 0 (show (["name","size"]:List Str).Nodup from by decide +kernel)) (Ln (Le 1 (show (["name","size"]:List Str).Nodup from by decide +kernel)) Lx))),Lu,(Lg (K1 K7 (K1 (K0 0) K3))),(K0 1)⟩) jK.nd)
     (K8 (LG (Lr (K0 1)) (Le 3 jK.nd) (K6 (LG (Lr (K9 LE hr jt (K1 (K0 3) K3))) (Le 4 jK.nd) (K8 (Lf (Lv (LR (Lb LX (K0 4) K4) (LZ (Lb L3.Ax (K0 4) (Lm Lp kJ m_len G1 (K1 (K0 1) K3)))))) LC Lh)))
     (K8 (LG (Lr (K9 TB hr jZ (K1 (K0 3) K3))) (Le 5 jK.nd) (K8 (LA (K9 RU hr dW (K1 (K0 2) (K1 (K0 5) K3)))))))))))),?_⟩
   have hvl:vb.length=bs.length:=Paired.length pb
   have hvn:vn.length=nds.length:=Paired.length pn
   refine ⟨_,rfl,na,_,rfl,.inl (aw.of hN),rfl,_,rfl,?_⟩
   refine aH (fun c=>?_) (fun _=>?_)
   · have:=of_decide_eq_true c
     injection this with this
     omega
   refine ⟨_,rfl,ba,rfl,⟨_,aw.of hB⟩,fun D hD=>?_⟩
   refine aT (xs:=vb) (fun i H2=>(∀b o,H b=some o->H2 b=some o)/\H2 D=some (.dT (b5 "box" (bs.take i) ((bs.take i).map (·.2))))) ⟨ag hD _,ae⟩ (fun i H2 _ z=>aw.of (z.1 _ _ hB)) (fun i x0 H2 hx z=>?_) (fun H2 z=>?_)
   · obtain ⟨z,hD2⟩:=z
     obtain ⟨b,hbi,pp,rfl,hpp⟩:=Paired.get pb hx
     have hil:i < vb.length:=(List.getElem?_eq_some_iff.mp hx).1
     refine ⟨pp,_,rfl,aC.of (z _ _ hpp),rfl,_,_,rfl,_,_,rfl,rfl,?_⟩
     refine bE (A:=fun H3=>Au _ _ D _ H3 _) ?_
     refine ⟨_,rfl,Nu,fun kp hkp=>⟨_,rfl,?_⟩⟩
     have nkp:D≠kp:=ai hD2 hkp
     have hD3:(upd H2 kp (.tup [.str "box",.str b.1])) D=some (.dT (b5 "box" (bs.take i) ((bs.take i).map (·.2)))):=by rw [aj nkp]; exact hD2
     have hl4:=kN "box" (bs.take i) ((bs.take i).map (·.2))
     have hl5:(bs.take i).length<=bs.length:=by rw [G8]; omega
     refine ⟨_,r4.t (k:=[.inr "box",.inr b.1]) hD3 ae (Ho (show _<=1000 by omega) (by decide)),aK (Pv:=fun i H2=>(∀b o,H b=some o->H2 b=some o)/\H2 D=some (.dT (b5 "box" (bs.take i) ((bs.take i).map (·.2))))) (by repeat' constructor) hil ⟨fun c o hc=>?_,?_⟩⟩
     · have hc2:=z c o hc
       rw [aj (ai hc hD),aj (ai hc2 hkp)]
       exact hc2
     · rw [ae,vq (jx "box" _ _ _ _ fun _=>xg nd hbi),Hl,hbi]
       show _=some (HO.dT (b5 "box" (bs.take i++[b]) ((bs.take i++[b]).map (·.2))))
       rw [G2]
       show _=some (HO.dT (b5 "box" (bs.take i++[b]) ((bs.take i).map (·.2)++[b.2])))
       rw [jy "box" _ _ b b.2 (by rw [GR])]
   obtain ⟨s1,hD2⟩:=z
   rw [hvl,HB] at hD2
   have kn:B9 H2 D (bxP bs) (fun _ y=>EA bs (bs.map (·.2)) y):=⟨_,hD2,fun t x h=>by rw [h.1]; exact kO "box" bs _ x (by rw [GR]) h.2⟩
   have hN2:=s1 _ _ hN
   have pn2:Paired (aP H2) vn nds:=Paired.mapP pn fun a b h=>aP.keep (ah.tk s1) h
   refine ⟨_,rfl,na,rfl,⟨_,aw.of hN2⟩,?_⟩
   refine cf (xs:=vn) (fun i σ H3=>(∃o3 o4 o5,σ=[some (.ref ba),some (.ref na),some (.ref D),o3,o4,o5])/\ah H2 H3) ⟨⟨_,_,_,rfl⟩,same_refl _⟩ (fun i σ H3 _ z=>aw.of (z.2 _ _ hN2)) (fun i x0 σ H3 hx z=>?_) (fun σ H3 z=>q _ (aa s1 z.2))
   obtain ⟨⟨o3,o4,o5,rfl⟩,s3⟩:=z
   obtain ⟨nd0,hnd0,hn0⟩:=Paired.get pn2 hx
   have g0:=gd nd0 (Hh hnd0)
   refine ⟨_,rfl,x0,nd0,rfl,aP.keep (ah.tk s3) hn0,fun l H4 s34 e4=>?_⟩
   have s4:=aa s3 s34
   refine ⟨l,rfl,⟨_,aw.of e4⟩,?_⟩
   refine cf (xs:=nd0.leads.map V.int) (fun i σ H5=>(∃o4 o5,σ=[some (.ref ba),some (.ref na),some (.ref D),some x0,o4,o5])/\H5=H4) ⟨⟨_,_,rfl⟩,rfl⟩ (fun i σ H5 _ z=>by rw [z.2]; exact aw.of e4) (fun i y0 σ H5 hy z=>?_) (fun σ H5 z=>?_)
   · obtain ⟨⟨o4,o5,rfl⟩,rfl⟩:=z
     obtain ⟨k0,hk0,rfl⟩:=bC hy
     obtain ⟨l0,l1⟩:=g0.ld k0 (Hh hk0)
     refine ⟨_,rfl,_,_,rfl,rfl,_,rfl,?_⟩
     refine aH (fun c=>absurd (of_decide_eq_true c) (by omega)) (fun _=>?_)
     refine ⟨_,rfl,_,rfl,na,_,rfl,.inl (aw.of (s4 _ _ hN2)),_,_,rfl,rfl,_,rfl,?_⟩
     refine aH (fun c=>absurd (of_decide_eq_true c) (by omega)) (fun _=>?_)
     exact ⟨⟨_,_,rfl⟩,rfl⟩
   obtain ⟨⟨o4,o5,rfl⟩,rfl⟩:=z
   refine ⟨_,rfl,x0,nd0,rfl,aP.keep (ah.tk s4) hn0,fun tl H6 us s6 e6 pe=>?_⟩
   have s26:=aa s4 s6
   refine ⟨tl,rfl,⟨_,aw.of e6⟩,?_⟩
   refine cf (xs:=us) (fun i σ H7=>(∃o4 o5,σ=[some (.ref ba),some (.ref na),some (.ref D),some x0,o4,o5])/\ah H6 H7) ⟨⟨_,_,rfl⟩,same_refl _⟩ (fun i σ H7 _ z=>aw.of (z.2 _ _ e6)) (fun i y0 σ H7 hy z=>?_) (fun σ H7 z=>?_)
   · obtain ⟨⟨o4,o5,rfl⟩,s7⟩:=z
     obtain ⟨e0,he0,a0⟩:=Paired.get pe hy
     obtain ⟨ok0,d0⟩:=g0.kn e0 (Hh he0)
     refine ⟨_,rfl,_,rfl,D,y0,e0,_,_,rfl,kn.same (aa s26 s7),sh bs,a0.same s7,ok0,by omega,fun H8 s8=>?_⟩
     exact ⟨⟨_,_,rfl⟩,aa s7 s8⟩
   · obtain ⟨⟨o4,o5,rfl⟩,s7⟩:=z
     exact ⟨⟨_,_,_,rfl⟩,aa s26 s7⟩
theorem t6 (s:Src K mg "refuse_nodes" sRefN)(m_len:mg "len"=none)(LE:aJ P w K mg base "leads_of" ["node"] 32 eI)(TB:aJ P w K mg base "told_by" ["node"] 32 gh)(RU:aJ P w K mg base "refuse_unknown" ["known","told"] 32 (f9 30)):aJ P w K mg base "refuse_nodes" ["boxes","nodes"] 33 mw:=
 let ⟨f,fd,F,m⟩:=s
 ⟨f,fd,xJ F m_len LE TB RU,F.kp,cU F fun _ _ _ _ _ _ _ _=>rfl,m⟩
/-! ### program_of -/
structure Ej (H:Hp)(B I N:Addr)(vb vn:List V)(bs:List (Str×Int))(ins:List Str)(nds:List Np):Prop where
 hB:H B=some (.lst vb)
 pb:Paired (bT H) vb bs
 hI:H I=some (.lst (ins.map V.str))
 hN:H N=some (.lst vn)
 pn:Paired (aP H) vn nds
 bx:oS bs
 ind:ins.Nodup
 insub:∀x∈ins,x∈bs.map (·.1)
 ilen:ins.length<=900
 one:1<=nds.length
 few:nds.length<=900
 good:∀e∈nds,e.good bs nds.length
theorem Ej.same {H H':Hp}{B I N:Addr}{vb vn:List V}{bs:List (Str×Int)}{ins:List Str}{nds:List Np}(h:Ej H B I N vb vn bs ins nds)(s:ah H H'):Ej H' B I N vb vn bs ins nds:=
 ⟨s _ _ h.hB,Paired.mapP h.pb fun _ _ z=>Tp.keep (ah.tk s) z,s _ _ h.hI,s _ _ h.hN,Paired.mapP h.pn fun _ _ z=>aP.keep (ah.tk s) z,h.bx,h.ind,h.insub,h.ilen,h.one,h.few,h.good⟩
/-- a tuple of three new lists -/
structure EF (H H':Hp)(p B I N:Addr)(xb xi xn:List V):Prop where
 s:ah H H'
 nB:H B=none
 nI:H I=none
 nN:H N=none
 BN:B≠N
 IN:I≠N
 BI:B≠I
 hp:H' p=some (.tup [.ref B,.ref I,.ref N])
 hB:H' B=some (.lst xb)
 hI:H' I=some (.lst xi)
 hN:H' N=some (.lst xn)
 np:H p=none
def bR:Sp:=fun vs H Q _=>∃(B I N:Addr) (vb vn:List V) (bs:List (Str×Int)) (ins:List Str) (nds:List Np),vs=[.ref B,.ref I,.ref N]/\Ej H B I N vb vn bs ins nds/\∀p' B' I' N' H',EF H H' p' B' I' N' vb (ins.map V.str) vn->Q (.ref p') H'
theorem vG:aq ["boxes","inputs","nodes"] ["boxes","inputs","nodes"] (af sProgOf):=⟨rfl,rfl,rfl,by decide +kernel,rfl,by decide +kernel,by decide +kernel⟩
theorem dq:(af sProgOf).names.lookup (GQ "list")=some .globalImplicit:=by decide +kernel
theorem dQ:(af sProgOf).names.lookup (GQ "refuse_boxes")=some .globalImplicit:=by decide +kernel
theorem dE:(af sProgOf).names.lookup (GQ "refuse_inputs")=some .globalImplicit:=by decide +kernel
theorem dU:(af sProgOf).names.lookup (GQ "refuse_nodes")=some .globalImplicit:=by decide +kernel
theorem rn {f:Addr}{fd:FuncData}(F:bI K "program_of" "program_of" sProgOf f fd)(m_list:mg "list"=none)(RB:aJ P w K mg base "refuse_boxes" ["boxes"] 34 mq)(RI:aJ P w K mg base "refuse_inputs" ["boxes","inputs"] 34 mr)(RN:aJ P w K mg base "refuse_nodes" ["boxes","nodes"] 34 mw):aL P w K mg base CX0 35 f fd ["boxes","inputs","nodes"] bR:=by
 refine F.ok vG (fun vs H Q E h=>?_) (fun cdv A outer s H vs Q E hr h=>?_)
 · obtain ⟨B,I,N,vb,vn,bs,ins,nds,rfl,_⟩:=h
   rfl
 · obtain ⟨B,I,N,vb,vn,bs,ins,nds,rfl,ft,q⟩:=h
   refine ⟨_,LU (K6 (LA (K9 RB hr dQ (K1 (K0 0) K3)))
     (K6 (LA (K9 RI hr dE (K1 (K0 0) (K1 (K0 1) K3))))
     (K6 (LA (K9 RN hr dU (K1 (K0 0) (K1 (K0 2) K3))))
     (K8 (Lc (Lg (K1 (Lw Mh dq m_list (by decide +kernel) (K1 (K0 0) K3)) (K1 (Lw Mh dq m_list (by decide +kernel) (K1 (K0 1) K3)) (K1 (Lw Mh dq m_list (by decide +kernel) (K1 (K0 2) K3)) K3))))))))),?_⟩
   have h4:=ft.bx.len
   refine ⟨_,rfl,B,vb,bs,rfl,ft.hB,ft.pb,(fun b hb=>(ft.bx.sz b hb).1),ft.bx.nd,by omega,fun Ha sa=>?_⟩
   have f1:=ft.same sa
   refine ⟨_,rfl,_,rfl,B,I,vb,bs,ins,rfl,f1.hB,f1.pb,f1.hI,ft.ind,ft.insub,by omega,ft.ilen,fun Hb sb=>?_⟩
   have f2:=f1.same sb
   refine ⟨_,rfl,_,rfl,B,N,vb,vn,bs,nds,rfl,f2.hB,f2.pb,f2.hN,f2.pn,ft.bx.nd,by omega,ft.one,ft.few,ft.good,fun Hc sc=>?_⟩
   have f3:=f2.same sc
   have s0:=aa sa (aa sb sc)
   refine ⟨_,rfl,B,_,rfl,.inl (aw.of f3.hB),fun b hb=>?_⟩
   have s1:=ag hb (.lst vb)
   have e1:(upd Hc b (.lst vb)) b=some (.lst vb):=ae
   generalize upd Hc b (.lst vb)=H1 at s1 e1 ⊢
   have f4:=f3.same s1
   refine ⟨_,rfl,I,_,rfl,.inl (aw.of f4.hI),fun i hi=>?_⟩
   have s2:=ag hi (.lst (ins.map V.str))
   have e2:(upd H1 i (.lst (ins.map V.str))) i=some (.lst (ins.map V.str)):=ae
   generalize upd H1 i (.lst (ins.map V.str))=H2 at s2 e2 ⊢
   have f5:=f4.same s2
   refine ⟨_,rfl,N,_,rfl,.inl (aw.of f5.hN),fun n hn=>⟨Nv,fun r hr'=>?_⟩⟩
   have s3:=ag hn (.lst vn)
   have e3:(upd H2 n (.lst vn)) n=some (.lst vn):=ae
   generalize upd H2 n (.lst vn)=H3 at s3 e3 hr' ⊢
   have s4:=ag hr' (.tup [.ref b,.ref i,.ref n])
   have s01:=aa s0 s1
   have s02:=aa s01 s2
   have s03:=aa s02 s3
   exact q r b i n _ ⟨aa s03 s4,aE s0 hb,aE s01 hi,aE s02 hn,ai (s2 _ _ e1) hn,ai e2 hn,ai e1 hi,ae,s4 _ _ (s3 _ _ (s2 _ _ e1)),s4 _ _ (s3 _ _ e2),s4 _ _ e3,aE s03 hr'⟩
theorem n6 (s:Src K mg "program_of" sProgOf)(m_list:mg "list"=none)(RB:aJ P w K mg base "refuse_boxes" ["boxes"] 34 mq)(RI:aJ P w K mg base "refuse_inputs" ["boxes","inputs"] 34 mr)(RN:aJ P w K mg base "refuse_nodes" ["boxes","nodes"] 34 mw):aJ P w K mg base "program_of" ["boxes","inputs","nodes"] 35 bR:=
 let ⟨f,fd,F,m⟩:=s
 ⟨f,fd,rn F m_list RB RI RN,F.kp,nH F fun _ _ _ _ _ _ _ _ _=>rfl,m⟩
end
end TW
set_option Elab.async false
set_option linter.all false
set_option maxRecDepth 100000
set_option exponentiation.threshold 4000
set_option maxHeartbeats 1000000
namespace TW
open PySem L2
section
variable {P:Program}{w:World}{K:GP}{mg:Str->Option Value}{base:Heap}
abbrev sWS:Stmt:=top 33
abbrev sWC:Stmt:=top 34
abbrev sWW:Stmt:=top 35
/-! ### sums and conditions as texts -/
def K2.sign:K2->Str
 | .plus=>"+" | .less=>"-" | .same=>"=" | .under=>"<" | .both=>"&"
abbrev sgL:List (Str×V):=[("plus",.str "+"),("less",.str "-")]
def E.txt:E->Str
 | .num n=>GQ (toString n)
 | .box _ x=>x
 | .yes=>"yes"
 | .nt a=>"!"++a.txt
 | .two .plus a b=>"("++(a.txt++K2.sign .plus++b.txt)++")"
 | .two .less a b=>"("++(a.txt++K2.sign .less++b.txt)++")"
 | .two .same a b=>a.txt++K2.sign .same++b.txt
 | .two .under a b=>a.txt++K2.sign .under++b.txt
 | .two .both a b=>"{"++(a.txt++K2.sign .both++b.txt)++"}"
def E.sz:E->Nat
 | .num _=>31 | .box _ _=>8 | .yes=>3 | .nt a=>a.sz + 1 | .two _ a b=>a.sz + b.sz + 3
/-- a name: letters -/
structure dJ (x:Str):Prop where
 l1:1<=x.length
 l8:x.length<=8
 lt:∀c∈x.cps.toList,97<=c/\c < 123
/-- numbers that can be written and read,boxes of these names -/
def E.okN (P:Str->Prop):E->Prop
 | .num n=>0<=n/\n < 10 ^ 30 | .box t x=>t="box"/\P x | .yes=>True | .nt a=>a.okN P | .two _ a b=>a.okN P/\b.okN P
theorem E.okN.imp {P Q:Str->Prop}(f:∀x,P x->Q x):∀{e:E},e.okN P->e.okN Q
 | .num _,h=>h | .box t x,h=>⟨h.1,f x h.2⟩ | .yes,_=>Ht | .nt a,h=>E.okN.imp f (e:=a) h | .two _ a b,h=>⟨E.okN.imp f (e:=a) h.1,E.okN.imp f (e:=b) h.2⟩
theorem lP {n:Int}(h:0<=n/\n < 10 ^ 30):n.natAbs < 2 ^ 100:=by
 have:n < 1000000000000000000000000000000:=h.2
 have h0:=h.1
 omega
theorem cW {n:Int}(h:n.natAbs < 2 ^ 100):n.natAbs.log2 < 100:=by
 by_cases z:n.natAbs=0
 · rw [z]; decide
 · exact (Nat.log2_lt z).mpr h
theorem xm {n:Int}(h:n.natAbs < 2 ^ 100):(GQ (toString n)).length<=101:=by
 rw [Jv]
 exact int_text_length_le (by decide) (cW h)
theorem bz {n:Int}(h:0<=n/\n < 10 ^ 30):(GQ (toString n)).length<=31:=by
 rw [Jv]
 refine int_text_length_le10 (k:=30) (by decide) ?_
 have:n < 1000000000000000000000000000000:=h.2
 have h0:=h.1
 omega
theorem E.txt_len:∀{e:E},e.okN dJ->e.txt.length<=e.sz
 | .num n,h=>bz h
 | .box _ x,h=>h.2.l8
 | .yes,_=>(by decide:3<=3)
 | .nt a,h=>by
   have:=E.txt_len (e:=a) h
   show ("!"++a.txt).length<=a.sz + 1
   rw [strLen_append,show (("!":Str)).length=1 from rfl]
   omega
 | .two k a b,h=>by
   have h1:=E.txt_len (e:=a) h.1
   have h2:=E.txt_len (e:=b) h.2
   have h3:(E.two k a b).txt.length<=a.txt.length + b.txt.length + 3:=by
     have e1:(("(":Str)).length=1:=rfl
     have e2:((")":Str)).length=1:=rfl
     have e3:(K2.sign .plus).length=1:=rfl
     have e4:(K2.sign .less).length=1:=rfl
     have e5:(K2.sign .same).length=1:=rfl
     have e6:(K2.sign .under).length=1:=rfl
     have e7:(K2.sign .both).length=1:=rfl
     have e8:(("{":Str)).length=1:=rfl
     have e9:(("}":Str)).length=1:=rfl
     cases k <;> simp only [E.txt,strLen_append] <;> omega
   show _<=a.sz + b.sz + 3
   omega
/-- a sum that can be written -/
structure ki (n:Nat)(e:E):Prop where
 is:e.isS
 ok:e.okN dJ
 sz:e.sz<=4000
 dp:e.dep < n
structure nF (n:Nat)(e:E):Prop where
 is:e.isC
 ok:e.okN dJ
 sz:e.sz<=4000
 dp:e.dep < n
theorem ki.len {n:Nat}{e:E}(h:ki n e):e.txt.length<=4000:=GY (E.txt_len h.ok) h.sz
theorem nF.len {n:Nat}{e:E}(h:nF n e):e.txt.length<=4000:=GY (E.txt_len h.ok) h.sz
theorem fit {n:Nat}(h:n<=600000):n<=sizeLine:=GY h (by decide)
def jQ (n:Nat):Sp:=fun vs H Q _=>∃(v:V) (e:E),vs=[v]/\bL H v e/\ki n e/\Q (.str e.txt) H
theorem xk {f:Addr}{fd:FuncData}:aL P w K mg base CX0 1 f fd ["sum_told"] (jQ 0):=by
 have no:∀vs H Q E,¬ jQ 0 vs H Q E:=fun vs H Q E h=>by
   obtain ⟨v,e,_,_,⟨_,_,_,dp⟩,_⟩:=h
   omega
 exact ⟨fun vs H Q E h=>absurd h (no vs H Q E),fun A outer s H args us vs Q E _ _ _ _ h=>absurd h (no vs H Q E)⟩
theorem Fl:aq ["sum_told"] ["sum_told"] (af sWS):=⟨rfl,rfl,rfl,by decide +kernel,rfl,by decide +kernel,by decide +kernel⟩
theorem j6:(af sWS).names.lookup (GQ "SUM_SIGNS")=some .globalImplicit:=by decide +kernel
theorem wN:(af sWS).names.lookup (GQ "str")=some .globalImplicit:=by decide +kernel
theorem dB:(af sWS).names.lookup (GQ "written_sum")=some .globalImplicit:=by decide +kernel
theorem De {n:Nat}{aS f:Addr}{fd:FuncData}(F:bI K "written_sum" "written_sum" sWS f fd)(m_str:mg "str"=none)(hS:mg "SUM_SIGNS"=some (.ref aS))(dS:cQ w K aS sgL)(G:aJ P w K mg base "written_sum" ["sum_told"] (n + 1) (jQ n)):aL P w K mg base CX0 (n + 1 + 1) f fd ["sum_told"] (jQ (n + 1)):=by
 refine F.ok Fl (fun vs H Q E h=>?_) (fun cdv A outer s H vs Q E hr h=>?_)
 · obtain ⟨v,e,rfl,_⟩:=h
   rfl
 · obtain ⟨v,e,rfl,ev,⟨is,ok,sz,dp⟩,q⟩:=h
   refine cH ⟨_,(K6 (Lf (Lb Ll (La Li (K0 0) K4) K7) (K8 (Lc (Lw L0 wN m_str (by decide +kernel) (K1 (La Li (K0 0) K4) K3)))) Lh)
     (K6 (Lf (Lb Ll (La Li (K0 0) K4) K7) (K8 (Lc (La Li (K0 0) K4))) Lh)
     (K8 (Lc (L3.Aa (L3.hs (L9 (K9 G hr dB (K1 (La Li (K0 0) K4) K3)) (L9 (L3.kg (Lz (w:=.ref aS) j6 hS rfl) (La Li (K0 0) K4)) (L9 (K9 G hr dB (K1 (La Li (K0 0) K4) K3)) (L3.hs L3.hn)))))))))),?_⟩
   match e,ev,is,ok,sz,dp,q with
   | .num i,ev,is,ok,sz,dp,q=>
     obtain ⟨p,rfl,hp⟩:=ev
     refine ⟨_,rfl,p,_,_,_,rfl,rfl,aC.of hp,rfl,rfl,_,rfl,bt ?_⟩
     exact ⟨_,rfl,p,_,_,_,rfl,rfl,aC.of hp,rfl,.inl ⟨i,rfl,Im (cW (lP ok)) (by decide),q⟩⟩
   | .box tg x,ev,is,ok,sz,dp,q=>
     obtain ⟨p,rfl,hp⟩:=ev
     obtain ⟨rfl,l8⟩:=ok
     refine ⟨_,rfl,p,_,_,_,rfl,rfl,aC.of hp,rfl,rfl,_,rfl,aX ?_⟩
     refine ⟨_,rfl,p,_,_,_,rfl,rfl,aC.of hp,rfl,rfl,_,rfl,bt ?_⟩
     exact ⟨_,rfl,p,_,_,_,rfl,rfl,aC.of hp,rfl,q⟩
   | .two .plus a b,ev,is,ok,sz,dp,q=>
     obtain ⟨x,y,⟨p,rfl,hp⟩,ex,ey⟩:=ev
     have wx:ki n a:=⟨is.1,ok.1,by have:a.sz + b.sz + 3<=4000:=sz; omega,by have:max a.dep b.dep + 1 < n + 1:=dp; omega⟩
     have wy:ki n b:=⟨is.2,ok.2,by have:a.sz + b.sz + 3<=4000:=sz; omega,by have:max a.dep b.dep + 1 < n + 1:=dp; omega⟩
     have lx:=wx.len
     have ly:=wy.len
     refine ⟨_,rfl,p,_,_,_,rfl,rfl,aC.of hp,rfl,rfl,_,rfl,aX ?_⟩
     refine ⟨_,rfl,p,_,_,_,rfl,rfl,aC.of hp,rfl,rfl,_,rfl,aX ?_⟩
     refine ⟨by decide,_,rfl,p,_,_,_,rfl,rfl,aC.of hp,rfl,x,a,rfl,ex,wx,_,rfl,fit (by omega),fit (by rw [strLen_append]; have:(HM++"(":Str).length=1:=rfl; omega),?_⟩
     refine ⟨_,rfl,p,_,_,_,rfl,rfl,aC.of hp,rfl,aS,_,.str (K2.sign .plus),sgL,rfl,rfl,dS,by decide +kernel,_,rfl,by decide,fit (by rw [strLen_append,strLen_append]; have:(HM++"(":Str).length=1:=rfl; have:(K2.sign .plus).length=1:=rfl; omega),?_⟩
     have hl:(HM++"("++a.txt++K2.sign .plus++b.txt).length<=300000:=by rw [strLen_append,strLen_append,strLen_append]; have:(HM++"(":Str).length=1:=rfl; have:(K2.sign .plus).length=1:=rfl; omega
     have hl2:(HM++"("++a.txt++K2.sign .plus++b.txt++")").length<=600000:=by rw [strLen_append]; have:((")":Str)).length=1:=rfl; omega
     refine ⟨_,rfl,p,_,_,_,rfl,rfl,aC.of hp,rfl,y,b,rfl,ey,wy,_,rfl,fit (by omega),fit (by omega),fit (by omega),fit (by omega),?_⟩
     have e:HM++"("++a.txt++K2.sign .plus++b.txt++")"=(TW.E.two .plus a b).txt:=by
       show _="("++(a.txt++K2.sign .plus++b.txt)++")"
       rw [show (HM++"(":Str)="(" from rfl]
       simp only [Js]
     rw [e]
     exact q
   | .two .less a b,ev,is,ok,sz,dp,q=>
     obtain ⟨x,y,⟨p,rfl,hp⟩,ex,ey⟩:=ev
     have wx:ki n a:=⟨is.1,ok.1,by have:a.sz + b.sz + 3<=4000:=sz; omega,by have:max a.dep b.dep + 1 < n + 1:=dp; omega⟩
     have wy:ki n b:=⟨is.2,ok.2,by have:a.sz + b.sz + 3<=4000:=sz; omega,by have:max a.dep b.dep + 1 < n + 1:=dp; omega⟩
     have lx:=wx.len
     have ly:=wy.len
     refine ⟨_,rfl,p,_,_,_,rfl,rfl,aC.of hp,rfl,rfl,_,rfl,aX ?_⟩
     refine ⟨_,rfl,p,_,_,_,rfl,rfl,aC.of hp,rfl,rfl,_,rfl,aX ?_⟩
     refine ⟨by decide,_,rfl,p,_,_,_,rfl,rfl,aC.of hp,rfl,x,a,rfl,ex,wx,_,rfl,fit (by omega),fit (by rw [strLen_append]; have:(HM++"(":Str).length=1:=rfl; omega),?_⟩
     refine ⟨_,rfl,p,_,_,_,rfl,rfl,aC.of hp,rfl,aS,_,.str (K2.sign .less),sgL,rfl,rfl,dS,by decide +kernel,_,rfl,by decide,fit (by rw [strLen_append,strLen_append]; have:(HM++"(":Str).length=1:=rfl; have:(K2.sign .less).length=1:=rfl; omega),?_⟩
     have hl:(HM++"("++a.txt++K2.sign .less++b.txt).length<=300000:=by rw [strLen_append,strLen_append,strLen_append]; have:(HM++"(":Str).length=1:=rfl; have:(K2.sign .less).length=1:=rfl; omega
     have hl2:(HM++"("++a.txt++K2.sign .less++b.txt++")").length<=600000:=by rw [strLen_append]; have:((")":Str)).length=1:=rfl; omega
     refine ⟨_,rfl,p,_,_,_,rfl,rfl,aC.of hp,rfl,y,b,rfl,ey,wy,_,rfl,fit (by omega),fit (by omega),fit (by omega),fit (by omega),?_⟩
     have e:HM++"("++a.txt++K2.sign .less++b.txt++")"=(TW.E.two .less a b).txt:=by
       show _="("++(a.txt++K2.sign .less++b.txt)++")"
       rw [show (HM++"(":Str)="(" from rfl]
       simp only [Js]
     rw [e]
     exact q
theorem z5 {aS:Addr}(s:Src K mg "written_sum" sWS)(m_str:mg "str"=none)(hS:mg "SUM_SIGNS"=some (.ref aS))(dS:cQ w K aS sgL):∀n:Nat,aJ P w K mg base "written_sum" ["sum_told"] (n + 1) (jQ n):=by
 obtain ⟨f,fd,F,m⟩:=s
 have b:Binds K fd ["sum_told"] []:=cT F fun _ _ _ _ _ _ _=>rfl
 intro n
 have all:aL P w K mg base CX0 (n + 1) f fd ["sum_told"] (jQ n):=by
   induction n with
   | zero=>exact xk
   | succ n ih=>exact De F m_str hS dS ⟨f,fd,ih,F.kp,b,m⟩
 exact ⟨f,fd,all,F.kp,b,m⟩
def nk (n:Nat):Sp:=fun vs H Q _=>∃(v:V) (e:E),vs=[v]/\bL H v e/\nF n e/\Q (.str e.txt) H
theorem xj {f:Addr}{fd:FuncData}:aL P w K mg base CX0 1 f fd ["condition"] (nk 0):=by
 have no:∀vs H Q E,¬ nk 0 vs H Q E:=fun vs H Q E h=>by
   obtain ⟨v,e,_,_,⟨_,_,_,dp⟩,_⟩:=h
   omega
 exact ⟨fun vs H Q E h=>absurd h (no vs H Q E),fun A outer s H args us vs Q E _ _ _ _ h=>absurd h (no vs H Q E)⟩
theorem DS:aq ["condition","sign"] ["condition"] (af sWC):=⟨rfl,rfl,rfl,by decide +kernel,rfl,by decide +kernel,by decide +kernel⟩
theorem bA:(af sWC).names.lookup (GQ "written_condition")=some .globalImplicit:=by decide +kernel
theorem dA:(af sWC).names.lookup (GQ "written_sum")=some .globalImplicit:=by decide +kernel
theorem Dc {n:Nat}{f:Addr}{fd:FuncData}(F:bI K "written_condition" "written_condition" sWC f fd)(WSa:∀n,aJ P w K mg base "written_sum" ["sum_told"] (n + 1) (jQ n))(G:aJ P w K mg base "written_condition" ["condition"] (n + 1) (nk n)):aL P w K mg base CX0 (n + 1 + 1) f fd ["condition"] (nk (n + 1)):=by
 refine F.ok DS (fun vs H Q E h=>?_) (fun cdv A outer s H vs Q E hr h=>?_)
 · obtain ⟨v,e,rfl,_⟩:=h
   rfl
 · obtain ⟨v,e,rfl,ev,⟨is,ok,sz,dp⟩,q⟩:=h
   have WS:=(WSa n).mono (show n + 1<=n + 1 by omega)
   refine cH ⟨_,(K6 (Lf (Lb Ll (La Li (K0 0) K4) K7) (K8 (Lc K7)) Lh)
     (K6 (Lf (Lb Ll (La Li (K0 0) K4) K7) (K8 (Lc (L3.Aa (L3.hs (L9 (K9 G hr bA (K1 (La Li (K0 0) K4) K3)) L3.hn))))) Lh)
     (K6 (Lf (Lb Ll (La Li (K0 0) K4) K7) (K8 (Lc (K5 LJ (K5 LJ (K5 LJ (K5 LJ K7 (K9 G hr bA (K1 (La Li (K0 0) K4) K3))) K7) (K9 G hr bA (K1 (La Li (K0 0) K4) K3))) K7))) Lh)
     (K6 (Ld 1 DS.nd (Mi (Lb Ll (La Li (K0 0) K4) K7) K7 K7))
     (K8 (Lc (L3.Aa (L9 (K9 WS hr dA (K1 (La Li (K0 0) K4) K3)) (L9 (K0 1) (L9 (K9 WS hr dA (K1 (La Li (K0 0) K4) K3)) L3.hn)))))))))),?_⟩
   match e,ev,is,ok,sz,dp,q with
   | .yes,ev,is,ok,sz,dp,q=>
     obtain ⟨p,rfl,hp⟩:=ev
     refine ⟨_,rfl,p,_,_,_,rfl,rfl,aC.of hp,rfl,rfl,_,rfl,bt ?_⟩
     exact q
   | .nt a,ev,is,ok,sz,dp,q=>
     obtain ⟨x,⟨p,rfl,hp⟩,ex⟩:=ev
     have wx:nF n a:=⟨is,ok,by have:a.sz + 1<=4000:=sz; omega,by have:a.dep + 1 < n + 1:=dp; omega⟩
     have lx:=wx.len
     refine ⟨_,rfl,p,_,_,_,rfl,rfl,aC.of hp,rfl,rfl,_,rfl,aX ?_⟩
     refine ⟨_,rfl,p,_,_,_,rfl,rfl,aC.of hp,rfl,rfl,_,rfl,bt ?_⟩
     have hl:(HM++"!"++a.txt:Str).length<=600000:=by rw [strLen_append]; have:(HM++"!":Str).length=1:=rfl; omega
     exact ⟨by decide,_,rfl,p,_,_,_,rfl,rfl,aC.of hp,rfl,x,a,rfl,ex,wx,_,rfl,fit (by omega),fit hl,fit hl,q⟩
   | .two .both a b,ev,is,ok,sz,dp,q=>
     obtain ⟨x,y,⟨p,rfl,hp⟩,ex,ey⟩:=ev
     have wx:nF n a:=⟨is.1,ok.1,by have:a.sz + b.sz + 3<=4000:=sz; omega,by have:max a.dep b.dep + 1 < n + 1:=dp; omega⟩
     have wy:nF n b:=⟨is.2,ok.2,by have:a.sz + b.sz + 3<=4000:=sz; omega,by have:max a.dep b.dep + 1 < n + 1:=dp; omega⟩
     have lx:=wx.len
     have ly:=wy.len
     refine ⟨_,rfl,p,_,_,_,rfl,rfl,aC.of hp,rfl,rfl,_,rfl,aX ?_⟩
     refine ⟨_,rfl,p,_,_,_,rfl,rfl,aC.of hp,rfl,rfl,_,rfl,aX ?_⟩
     refine ⟨_,rfl,p,_,_,_,rfl,rfl,aC.of hp,rfl,rfl,_,rfl,bt ?_⟩
     have e1:(("{":Str)).length=1:=rfl
     have e2:(("&":Str)).length=1:=rfl
     have e3:(("}":Str)).length=1:=rfl
     refine ⟨_,rfl,p,_,_,_,rfl,rfl,aC.of hp,rfl,x,a,rfl,ex,wx,"{",a.txt,rfl,rfl,fit (by omega),_,_,rfl,rfl,fit (by rw [strLen_append]; omega),?_⟩
     refine ⟨_,rfl,p,_,_,_,rfl,rfl,aC.of hp,rfl,y,b,rfl,ey,wy,_,_,rfl,rfl,fit (by rw [strLen_append,strLen_append]; omega),_,_,rfl,rfl,fit (by rw [strLen_append,strLen_append,strLen_append]; omega),?_⟩
     have e:"{"++a.txt++"&"++b.txt++"}"=(TW.E.two .both a b).txt:=by
       show _="{"++(a.txt++"&"++b.txt)++"}"
       simp only [Js]
     rw [e]
     exact q
   | .two .same a b,ev,is,ok,sz,dp,q=>
     obtain ⟨x,y,⟨p,rfl,hp⟩,ex,ey⟩:=ev
     have wx:ki n a:=⟨is.1,ok.1,by have:a.sz + b.sz + 3<=4000:=sz; omega,by have:max a.dep b.dep + 1 < n + 1:=dp; omega⟩
     have wy:ki n b:=⟨is.2,ok.2,by have:a.sz + b.sz + 3<=4000:=sz; omega,by have:max a.dep b.dep + 1 < n + 1:=dp; omega⟩
     have lx:=wx.len
     have ly:=wy.len
     refine ⟨_,rfl,p,_,_,_,rfl,rfl,aC.of hp,rfl,rfl,_,rfl,aX ?_⟩
     refine ⟨_,rfl,p,_,_,_,rfl,rfl,aC.of hp,rfl,rfl,_,rfl,aX ?_⟩
     refine ⟨_,rfl,p,_,_,_,rfl,rfl,aC.of hp,rfl,rfl,_,rfl,aX ?_⟩
     refine ⟨_,rfl,p,_,_,_,rfl,rfl,aC.of hp,rfl,rfl,_,rfl,bt ?_⟩
     refine ao ?_
     have hz:(HM++a.txt:Str)=a.txt:=Str.empty_append _
     refine ⟨_,rfl,p,_,_,_,rfl,rfl,aC.of hp,rfl,x,a,rfl,ex,wx,_,rfl,fit (by omega),fit (by rw [hz]; omega),?_⟩
     rw [hz]
     refine ⟨_,rfl,_,rfl,by decide,fit (by rw [strLen_append]; have:(("=":Str)).length=1:=rfl; omega),?_⟩
     have hl:(a.txt++"="++b.txt).length<=600000:=by rw [strLen_append,strLen_append]; have:(("=":Str)).length=1:=rfl; omega
     exact ⟨_,rfl,p,_,_,_,rfl,rfl,aC.of hp,rfl,y,b,rfl,ey,wy,_,rfl,fit (by omega),fit hl,fit hl,q⟩
   | .two .under a b,ev,is,ok,sz,dp,q=>
     obtain ⟨x,y,⟨p,rfl,hp⟩,ex,ey⟩:=ev
     have wx:ki n a:=⟨is.1,ok.1,by have:a.sz + b.sz + 3<=4000:=sz; omega,by have:max a.dep b.dep + 1 < n + 1:=dp; omega⟩
     have wy:ki n b:=⟨is.2,ok.2,by have:a.sz + b.sz + 3<=4000:=sz; omega,by have:max a.dep b.dep + 1 < n + 1:=dp; omega⟩
     have lx:=wx.len
     have ly:=wy.len
     refine ⟨_,rfl,p,_,_,_,rfl,rfl,aC.of hp,rfl,rfl,_,rfl,aX ?_⟩
     refine ⟨_,rfl,p,_,_,_,rfl,rfl,aC.of hp,rfl,rfl,_,rfl,aX ?_⟩
     refine ⟨_,rfl,p,_,_,_,rfl,rfl,aC.of hp,rfl,rfl,_,rfl,aX ?_⟩
     refine ⟨_,rfl,p,_,_,_,rfl,rfl,aC.of hp,rfl,rfl,_,rfl,aX ?_⟩
     refine ao ?_
     have hz:(HM++a.txt:Str)=a.txt:=Str.empty_append _
     refine ⟨_,rfl,p,_,_,_,rfl,rfl,aC.of hp,rfl,x,a,rfl,ex,wx,_,rfl,fit (by omega),fit (by rw [hz]; omega),?_⟩
     rw [hz]
     refine ⟨_,rfl,_,rfl,by decide,fit (by rw [strLen_append]; have:(("<":Str)).length=1:=rfl; omega),?_⟩
     have hl:(a.txt++"<"++b.txt).length<=600000:=by rw [strLen_append,strLen_append]; have:(("<":Str)).length=1:=rfl; omega
     exact ⟨_,rfl,p,_,_,_,rfl,rfl,aC.of hp,rfl,y,b,rfl,ey,wy,_,rfl,fit (by omega),fit hl,fit hl,q⟩
theorem zZ (s:Src K mg "written_condition" sWC)(WSa:∀n,aJ P w K mg base "written_sum" ["sum_told"] (n + 1) (jQ n)):∀n:Nat,aJ P w K mg base "written_condition" ["condition"] (n + 1) (nk n):=by
 obtain ⟨f,fd,F,m⟩:=s
 have b:Binds K fd ["condition"] []:=cT F fun _ _ _ _ _ _ _=>rfl
 intro n
 have all:aL P w K mg base CX0 (n + 1) f fd ["condition"] (nk n):=by
   induction n with
   | zero=>exact xj
   | succ n ih=>exact Dc F WSa ⟨f,fd,ih,F.kp,b,m⟩
 exact ⟨f,fd,all,F.kp,b,m⟩
/-! ### words -/
def rX (H:Hp)(kind:Str)(v:V)(x:Str):Prop:=
 (kind="sum"/\∃e,bL H v e/\ki 30 e/\x=e.txt)\/(kind="condition"/\∃e,bL H v e/\nF 30 e/\x=e.txt)\/(kind="name"/\v=.str x/\dJ x)\/(kind="number"/\∃i:Int,v=.int i/\(0<=i/\i < 10 ^ 30)/\x=GQ (toString i))
theorem rX.len {H:Hp}{kind x:Str}{v:V}(h:rX H kind v x):x.length<=4000:=by
 rcases h with ⟨_,e,_,h,rfl⟩ | ⟨_,e,_,h,rfl⟩ | ⟨_,_,h⟩ | ⟨_,i,_,h,rfl⟩
 · exact h.len
 · exact h.len
 · exact GY h.l8 (by decide)
 · exact GY (bz h) (by decide)
theorem rX.keep {H H':Hp}{kind x:Str}{v:V}(k:TK H H')(h:rX H kind v x):rX H' kind v x:=by
 rcases h with ⟨a,e,b,c⟩ | ⟨a,e,b,c⟩ | h | h
 · exact .inl ⟨a,e,b.keep k,c⟩
 · exact .inr (.inl ⟨a,e,b.keep k,c⟩)
 · exact .inr (.inr (.inl h))
 · exact .inr (.inr (.inr h))
def yH:Sp:=fun vs H Q _=>∃(kind:Str) (v:V) (x:Str),vs=[.str kind,v]/\rX H kind v x/\Q (.str x) H
theorem Fm:aq ["kind","told"] ["kind","told"] (af sWW):=⟨rfl,rfl,rfl,by decide +kernel,rfl,by decide +kernel,by decide +kernel⟩
theorem wO:(af sWW).names.lookup (GQ "str")=some .globalImplicit:=by decide +kernel
theorem dI:(af sWW).names.lookup (GQ "written_condition")=some .globalImplicit:=by decide +kernel
theorem iA:(af sWW).names.lookup (GQ "written_sum")=some .globalImplicit:=by decide +kernel
theorem Dg {f:Addr}{fd:FuncData}(F:bI K "written_word" "written_word" sWW f fd)(m_str:mg "str"=none)(WS:aJ P w K mg base "written_sum" ["sum_told"] 31 (jQ 30))(WC:aJ P w K mg base "written_condition" ["condition"] 31 (nk 30)):aL P w K mg base CX0 32 f fd ["kind","told"] yH:=by
 refine F.ok Fm (fun vs H Q E h=>?_) (fun cdv A outer s H vs Q E hr h=>?_)
 · obtain ⟨kind,v,x,rfl,_⟩:=h
   rfl
 · obtain ⟨kind,v,x,rfl,wa,q⟩:=h
   refine cH ⟨_,(K6 (Lf (Lb Ll (K0 0) K7) (K8 (Lc (K9 WS hr iA (K1 (K0 1) K3)))) Lh)
     (K8 (Lc (Mi (Lb Ll (K0 0) K7) (K9 WC hr dI (K1 (K0 1) K3)) (Lw L0 wO m_str (by decide +kernel) (K1 (K0 1) K3)))))),?_⟩
   rcases wa with ⟨rfl,e,ev,we,rfl⟩ | ⟨rfl,e,ev,we,rfl⟩ | ⟨rfl,rfl,l8⟩ | ⟨rfl,i,rfl,hi,rfl⟩
   · refine ⟨_,rfl,rfl,_,rfl,bt ?_⟩
     exact ⟨_,rfl,v,e,rfl,ev,we,q⟩
   · refine ⟨_,rfl,rfl,_,rfl,aX ?_⟩
     refine ⟨_,rfl,rfl,_,rfl,bt ?_⟩
     exact ⟨_,rfl,v,e,rfl,ev,we,q⟩
   · refine ⟨_,rfl,rfl,_,rfl,aX ?_⟩
     refine ⟨_,rfl,rfl,_,rfl,aX ?_⟩
     exact ⟨_,rfl,.inr ⟨x,rfl,q⟩⟩
   · refine ⟨_,rfl,rfl,_,rfl,aX ?_⟩
     refine ⟨_,rfl,rfl,_,rfl,aX ?_⟩
     exact ⟨_,rfl,.inl ⟨i,rfl,Im (cW (lP hi)) (by decide),q⟩⟩
theorem z7 (s:Src K mg "written_word" sWW)(m_str:mg "str"=none)(WS:aJ P w K mg base "written_sum" ["sum_told"] 31 (jQ 30))(WC:aJ P w K mg base "written_condition" ["condition"] 31 (nk 30)):aJ P w K mg base "written_word" ["kind","told"] 32 yH:=
 let ⟨f,fd,F,m⟩:=s
 ⟨f,fd,Dg F m_str WS WC,F.kp,cU F fun _ _ _ _ _ _ _ _=>rfl,m⟩
end
end TW
set_option Elab.async false
set_option linter.all false
set_option maxRecDepth 100000
set_option exponentiation.threshold 4000
set_option maxHeartbeats 1000000
namespace TW
open PySem L2
section
variable {P:Program}{w:World}{K:GP}{mg:Str->Option Value}{base:Heap}
abbrev sWR:Stmt:=top 36
abbrev sWT:Stmt:=top 37
/-! ### rows -/
abbrev formsL:List (Str×List Str):=[("box",["name","number"]),("input",["name"]),("put",["name","sum","number"]),("say",["sum","number"]),("test",["condition","number","number"]),("pick",["name","number"]),("end",[])]
def cy (w:World)(K:GP)(aF:Addr):Prop:=∀q∈formsL,∃t kvs,cQ w K aF kvs/\kvs.lookup q.1=some (.ref t)/\∀H:Hp,aC K H t (q.2.map V.str)
theorem cy.of {w:World}{K:GP}{aF:Addr}{ts:List Addr}(d:cQ w K aF ((formsL.map (·.1)).zip (ts.map V.ref)))(p:Paired (fun (t:Addr) (q:Str×List Str)=>∀H:Hp,aC K H t (q.2.map V.str)) ts formsL):cy w K aF:=by
 refine match ts,p with | [a1,a2,a3,a4,a5,a6,a7],.cons h1 (.cons h2 (.cons h3 (.cons h4 (.cons h5 (.cons h6 (.cons h7 .nil))))))=>?_
 intro q hq
 simp only [HL,HG,or_false] at hq
 rcases hq with rfl | rfl | rfl | rfl | rfl | rfl | rfl
 · exact ⟨a1,_,d,rfl,h1⟩
 · exact ⟨a2,_,d,rfl,h2⟩
 · exact ⟨a3,_,d,rfl,h3⟩
 · exact ⟨a4,_,d,rfl,h4⟩
 · exact ⟨a5,_,d,rfl,h5⟩
 · exact ⟨a6,_,d,rfl,h6⟩
 · exact ⟨a7,_,d,rfl,h7⟩
structure W3 (H:Hp)(ks:List Str)(vs:List V)(xs:List Str):Prop where
 l1:ks.length=vs.length
 l2:ks.length=xs.length
 at_:∀(i:Nat) (k x:Str) (v:V),ks[i]? = some k->vs[i]? = some v->xs[i]? = some x->rX H k v x
theorem W3.keep {H H':Hp}{ks xs:List Str}{vs:List V}(k:TK H H')(h:W3 H ks vs xs):W3 H' ks vs xs:=⟨h.l1,h.l2,fun i a b c h1 h2 h3=>(h.at_ i a b c h1 h2 h3).keep k⟩
theorem W3.nil {H:Hp}:W3 H [] [] []:=⟨rfl,rfl,fun i _ _ _ h=>by simp at h⟩
theorem W3.cons {H:Hp}{k x:Str}{v:V}{ks xs:List Str}{vs:List V}(a:rX H k v x)(h:W3 H ks vs xs):W3 H (k :: ks) (v :: vs) (x :: xs):=⟨by simp [h.l1],by simp [h.l2],fun i a' b' c' h1 h2 h3=>by
 match i,h1,h2,h3 with
 | 0,h1,h2,h3=>
   simp at h1 h2 h3
   subst h1 h2 h3
   exact a
 | i + 1,h1,h2,h3=>exact h.at_ i a' b' c' (by simpa using h1) (by simpa using h2) (by simpa using h3)⟩
/-- a tuple that is a row of these words -/
structure eP (H:Hp)(v:V)(head:Str)(xs:List Str):Prop where
 ex:∃(ks:List Str) (vals:List V),Tp H v (.str head :: vals)/\(head,ks)∈formsL/\W3 H ks vals xs
theorem eP.keep {H H':Hp}{v:V}{head:Str}{xs:List Str}(k:TK H H')(h:eP H v head xs):eP H' v head xs:=let ⟨ks,vals,a,b,c⟩:=h.ex; ⟨ks,vals,a.keep k,b,c.keep k⟩
theorem eP.len {H:Hp}{v:V}{head:Str}{xs:List Str}(h:eP H v head xs):xs.length<=3/\head.length<=5/\∀x∈xs,x.length<=4000:=by
 obtain ⟨ks,vals,a,b,c⟩:=h.ex
 have all:∀q∈formsL,q.2.length<=3/\q.1.length<=5:=by decide +kernel
 have h3:=all _ b
 refine ⟨by rw [← c.l2]; exact h3.1,h3.2,fun x hx=>?_⟩
 obtain ⟨i,hi,e⟩:=List.getElem_of_mem hx
 have e1:xs[i]? = some x:=by rw [G3 hi,e]
 have hk:i < ks.length:=by rw [c.l2]; exact hi
 have hv:i < vals.length:=by rw [← c.l1]; exact hk
 exact (c.at_ i _ _ _ (G3 hk) (G3 hv) e1).len
theorem fU {z:Str}{ts:List Str}(B:Nat)(hB:∀y∈ts,y.length<=B)(h:ts.length * B + ts.length * z.length<=16777216):JoinOk z ts=true:=by
 unfold JoinOk
 rw [StrLaws.joinFits hB h]
 rfl
theorem vB {H:Hp}{v:V}{head:Str}{xs:List Str}(h:eP H v head xs):JoinOk " " (head :: xs)=true:=by
 obtain ⟨h3,h5,hl⟩:=h.len
 refine fU 4000 (fun y hy=>?_) ?_
 · rcases List.mem_cons.mp hy with e | e
   · rw [e]; omega
   · exact hl y e
 · rw [G5,show ((" ":Str)).length=1 from rfl]
   omega
theorem pP {H:Hp}{v:V}{head:Str}{xs:List Str}(h:eP H v head xs):(Hj " " (head :: xs)).length<=12100:=by
 obtain ⟨h3,h5,hl⟩:=h.len
 show (HU " " (head :: xs)).length<=_
 rw [StrLaws.glued_eq_join]
 refine GY (StrLaws.join_length_le _ _) ?_
 have e:∀(l:List Str),(∀x∈l,x.length<=4000)->(l.map (·.length)).sum<=l.length * 4000:=by
   intro l
   induction l with
   | nil=>intro _; exact GX _
   | cons a l ih=>
     intro h
     have h1:=ih fun x hx=>h x (G0 _ hx)
     have h2:=h a GZ
     rw [Hi,Ib,G5]
     omega
 have:=e xs hl
 rw [Hi,Ib,G5,show ((" ":Str)).length=1 from rfl]
 omega
theorem mL (a:V)(r:List V):dO (a :: r) (some 1) none=r:=by
 unfold dO
 have e1:HT.bD (a :: r).length 0 (some ((1:Nat):Int))=min 1 (a :: r).length:=HT.cJ _ _ _
 rw [show ((1:Int))=((1:Nat):Int) from rfl,e1,HT.fY,G5,JG (by omega)]
 simp
theorem km {a:V}{r:List V}:ig (a :: r) 0=some a:=cA (xs:=a :: r) (j:=0) rfl
def yG:Sp:=fun vs H Q _=>∃(v:V) (head:Str) (xs:List Str),vs=[v]/\eP H v head xs/\∀H',ah H H'->Q (.str (Hj " " (head :: xs))) H'
theorem Fj:aq ["row"] ["row"] (af sWR):=⟨rfl,rfl,rfl,by decide +kernel,rfl,by decide +kernel,by decide +kernel⟩
theorem qD:(af sWR).names.lookup (GQ "FORMS")=some .globalImplicit:=by decide +kernel
theorem wM:(af sWR).names.lookup (GQ "zip")=some .globalImplicit:=by decide +kernel
theorem Dd {aF f:Addr}{fd:FuncData}(F:bI K "written_row" "written_row" sWR f fd)(m_zip:mg "zip"=none)(hF:mg "FORMS"=some (.ref aF))(dF:cy w K aF)(WW:aJ P w K mg base "written_word" ["kind","told"] 32 yH):aL P w K mg base CX0 33 f fd ["row"] yG:=by
 refine F.ok Fj (fun vs H Q E h=>?_) (fun cdv A outer s H vs Q E hr h=>?_)
 · obtain ⟨v,head,xs,rfl,_⟩:=h
   rfl
 · obtain ⟨v,head,xs,rfl,ra,q⟩:=h
   have jo:=vB ra
   obtain ⟨x3,_,_⟩:=ra.len
   obtain ⟨ks,vals,⟨p,rfl,hp⟩,hin,w3⟩:=ra.ex
   obtain ⟨tF,kvs,kd,lk,sq⟩:=dF _ hin
   refine cH ⟨_,(K8 (Lc (L5 K7 (K1 (K5 Ma (Lj (K1 (La Li (K0 0) K4) K3)) (LF [none,none] ["kind","told"] (show az _ (af sWR) from ⟨rfl,by decide +kernel,by decide +kernel,by decide +kernel⟩) (by rfl) (L3.FK true true wM m_zip (K1 (L3.kg (Lz (w:=.ref aF) qD hF rfl) (La Li (K0 0) K4)) (K1 (L3.DZ (K0 0) K4) K3))) (fun _ _ _ _ _=>⟨(LH 2 (Ln (Le 0 (show (["kind","told"]:List Str).Nodup from by decide +kernel)) (Ln (Le 1 (show (["kind","told"]:List Str).Nodup from by decide +kernel)) Lx))),Lu,(K9 WW hr (by rfl) (K1 (K0 0) (K1 (K0 1) K3)))⟩))) K3)))),?_⟩
   refine ⟨rfl,_,rfl,p,_,_,_,rfl,rfl,aC.of hp,km,Nt,fun l1 hl1=>?_⟩
   have s1:ah H (upd H l1 (.lst [.str head])):=ag hl1 _
   have g1:(upd H l1 (.lst [.str head])) l1=some (.lst [.str head]):=ae
   generalize upd H l1 (.lst [.str head])=H1 at s1 g1 ⊢
   have hp1:=s1 _ _ hp
   refine ⟨_,rfl,p,_,_,_,rfl,rfl,aC.of hp1,km,aF,head,.ref tF,kvs,rfl,rfl,kd,lk,?_⟩
   refine ⟨_,rfl,_,rfl,p,_,rfl,aC.of hp1,?_,fun p2 hp2=>?_⟩
   · rintro ⟨z,_⟩
     have e1:HT.bD (V.str head :: vals).length 0 (some ((1:Nat):Int))=min 1 (V.str head :: vals).length:=HT.cJ _ _ _
     have z:HT.bD (V.str head :: vals).length 0 (some ((1:Nat):Int))=0:=z
     rw [e1,G5] at z
     omega
   rw [mL]
   have s2:ah H1 (upd H1 p2 (.tup vals)):=ag hp2 _
   have g2:(upd H1 p2 (.tup vals)) p2=some (.tup vals):=ae
   generalize upd H1 p2 (.tup vals)=H2 at s2 g2 ⊢
   have g12:=s2 _ _ g1
   refine ⟨tF,p2,rfl,⟨_,sq _⟩,⟨_,aC.of g2⟩,fun D hD=>?_⟩
   have w3':W3 H2 ks vals xs:=w3.keep (ah.tk (aa s1 s2))
   refine kC (xs:=ks.map V.str) (ys:=vals) (by rw [GR]; exact w3.l1) (fun i Hx=>ah H2 Hx/\Hx D=some (.lst ((xs.take i).map V.str))) ⟨ag hD _,ae⟩ (fun i Hx _ z=>⟨sq _,aC.of (z.1 _ _ g2)⟩) (fun i k0 v0 pp Hx hk0 hv0 z hpp=>?_) (fun Hx z=>?_)
   · obtain ⟨sx,gD⟩:=z
     obtain ⟨k,hk,rfl⟩:=bC hk0
     have hil:i < (ks.map V.str).length:=(List.getElem?_eq_some_iff.mp hk0).1
     have hil2:i < xs.length:=by rw [GR] at hil; rw [← w3.l2]; exact hil
     have wa:=w3'.at_ i k xs[i] v0 hk hv0 (G3 hil2)
     have sp:=ag hpp (.tup [.str k,v0])
     refine ⟨pp,_,rfl,aC.of ae,rfl,_,_,rfl,_,_,rfl,rfl,?_⟩
     refine bE (A:=fun H5=>bS _ D _ H5 _) ?_
     refine ⟨_,rfl,_,rfl,k,v0,xs[i],rfl,wa.keep (ah.tk (aa sx sp)),?_⟩
     refine ⟨_,sp _ _ gD,Ho (show _<=1000 by rw [GR,G8]; omega) (by decide),aK (Pv:=fun i Hx=>ah H2 Hx/\Hx D=some (.lst ((xs.take i).map V.str))) (by repeat' constructor) hil ⟨aG (aa sx sp) hD,?_⟩⟩
     rw [ae,Hl,G3 hil2,G2]
     rfl
   obtain ⟨sx,gD⟩:=z
   rw [GR,w3.l2,HB] at gD
   refine ⟨l1,D,_,_,rfl,rfl,sx _ _ g12,gD,GY (show _<=1000 by rw [GR,G5,Ik]; omega) (by decide),fun r hr2=>?_⟩
   refine ⟨" ",r,head :: xs,rfl,rfl,aw.of (by rw [ae]; rfl),jo,?_⟩
   exact q _ (aA (aa (aa s1 s2) sx) hr2)
theorem z4 {aF:Addr}(s:Src K mg "written_row" sWR)(m_zip:mg "zip"=none)(hF:mg "FORMS"=some (.ref aF))(dF:cy w K aF)(WW:aJ P w K mg base "written_word" ["kind","told"] 32 yH):aJ P w K mg base "written_row" ["row"] 33 yG:=
 let ⟨f,fd,F,m⟩:=s
 ⟨f,fd,Dd F m_zip hF dF WW,F.kp,cT F fun _ _ _ _ _ _ _=>rfl,m⟩
/-! ### the whole text -/
def fw (b:Str×Int):List Str:=["box",b.1,GQ (toString b.2)]
def pC (x:Str):List Str:=["input",x]
def Np.ws:Np->List Str
 | .put x s n=>["put",x,s.txt,GQ (toString n)]
 | .say s n=>["say",s.txt,GQ (toString n)]
 | .test c n o=>["test",c.txt,GQ (toString n),GQ (toString o)]
 | .pick x n=>["pick",x,GQ (toString n)]
 | .fin=>["end"]
/-- a node that can be written -/
def Np.wr:Np->Prop
 | .put x s n=>dJ x/\ki 30 s/\0<=n/\n < 10 ^ 30
 | .say s n=>ki 30 s/\0<=n/\n < 10 ^ 30
 | .test c n o=>nF 30 c/\(0<=n/\n < 10 ^ 30)/\0<=o/\o < 10 ^ 30
 | .pick x n=>dJ x/\0<=n/\n < 10 ^ 30
 | .fin=>True
theorem rX.nm {H:Hp}{x:Str}(h:dJ x):rX H "name" (.str x) x:=.inr (.inr (.inl ⟨rfl,rfl,h⟩))
theorem rX.no {H:Hp}{n:Int}(h:0<=n/\n < 10 ^ 30):rX H "number" (.int n) (GQ (toString n)):=.inr (.inr (.inr ⟨rfl,n,rfl,h,rfl⟩))
theorem Np.rowAt {H:Hp}:∀{e:Np} {v:V},aP H v e->e.wr->∃hd xs,eP H v hd xs/\e.ws=hd :: xs
 | .put x s n,v,⟨u,h,a⟩,⟨w1,w2,w3⟩=>⟨_,_,⟨_,_,h,by decide,.cons (.nm w1) (.cons (.inl ⟨rfl,s,a,w2,rfl⟩) (.cons (.no w3) .nil))⟩,rfl⟩
 | .say s n,v,⟨u,h,a⟩,⟨w2,w3⟩=>⟨_,_,⟨_,_,h,by decide,.cons (.inl ⟨rfl,s,a,w2,rfl⟩) (.cons (.no w3) .nil)⟩,rfl⟩
 | .test c n o,v,⟨u,h,a⟩,⟨w2,w3,w4⟩=>⟨_,_,⟨_,_,h,by decide,.cons (.inr (.inl ⟨rfl,c,a,w2,rfl⟩)) (.cons (.no w3) (.cons (.no w4) .nil))⟩,rfl⟩
 | .pick x n,v,h,⟨w1,w3⟩=>⟨_,_,⟨_,_,h,by decide,.cons (.nm w1) (.cons (.no w3) .nil)⟩,rfl⟩
 | .fin,v,h,_=>⟨_,_,⟨_,_,h,by decide,.nil⟩,rfl⟩
abbrev sp1:Str:=" "
def textOf (bs:List (Str×Int))(ins:List Str)(nds:List Np):List Str:=bs.map (fun b=>Hj sp1 (fw b))++ins.map (fun x=>Hj sp1 (pC x))++nds.map (fun e=>Hj sp1 e.ws)
structure yR (bs:List (Str×Int))(ins:List Str)(nds:List Np):Prop where
 b:∀x∈bs,dJ x.1/\0<=x.2/\x.2 < 10 ^ 30
 i:∀x∈ins,dJ x
 n:∀x∈nds,x.wr
 lb:bs.length<=4
 li:ins.length<=4
 ln:nds.length<=400
structure ny (H:Hp)(B I N:Addr)(vb vn:List V)(bs:List (Str×Int))(ins:List Str)(nds:List Np):Prop where
 hB:H B=some (.lst vb)
 hI:H I=some (.lst (ins.map V.str))
 hN:H N=some (.lst vn)
 pb:Paired (bT H) vb bs
 pn:Paired (aP H) vn nds
def vQ:Sp:=fun vs H Q _=>∃(p B I N:Addr) (vb vn:List V) (bs:List (Str×Int)) (ins:List Str) (nds:List Np),vs=[.ref p]/\H p=some (.tup [.ref B,.ref I,.ref N])/\ny H B I N vb vn bs ins nds/\yR bs ins nds /\
 ∀H',ah H H'->JoinOk "\n" (textOf bs ins nds)=true->Q (.str (Hj "\n" (textOf bs ins nds))) H'
/-- rows that are laid: each has its words -/
def b6 (H:Hp)(vs:List V)(ws:List (List Str)):Prop:=Paired (fun v w=>∃hd xs,eP H v hd xs/\w=hd :: xs) vs ws
theorem b6.keep {H H':Hp}{vs:List V}{ws:List (List Str)}(k:TK H H')(h:b6 H vs ws):b6 H' vs ws:=Paired.mapP h fun _ _ ⟨hd,xs,a,b⟩=>⟨hd,xs,a.keep k,b⟩
theorem Paired.app {α β:Type}{F:α->β->Prop}:∀{a c:List α} {b d:List β},Paired F a b->Paired F c d->Paired F (a++c) (b++d)
 | _,_,_,_,.nil,h=>h
 | _,_,_,_,.cons r t,h=>.cons r (Paired.app t h)
theorem Paired.memR {α β:Type}{F:α->β->Prop}:∀{a:List α} {b:List β} {y:β},Paired F a b->y∈b->∃x,F x y
 | _,_,y,.cons r t,h=>by
   rcases List.mem_cons.mp h with e | e
   · rw [e]; exact ⟨_,r⟩
   · exact Paired.memR t e
theorem Paired.mapR {α β γ:Type}{F:α->β->Prop}{G:α->γ->Prop}{f:β->γ}:∀{a:List α} {b:List β},(∀x y,y∈b->F x y->G x (f y))->Paired F a b->Paired G a (b.map f)
 | _,_,_,.nil=>.nil
 | _,_,k,.cons r t=>.cons (k _ _ GZ r) (Paired.mapR (fun x y hy z=>k x y (G0 _ hy) z) t)
theorem vN:aq ["program","boxes","inputs","nodes","rows"] ["program"] (af sWT):=⟨rfl,rfl,rfl,by decide +kernel,rfl,by decide +kernel,by decide +kernel⟩
theorem Df {f:Addr}{fd:FuncData}(F:bI K "written_text" "written_text" sWT f fd)(WR:aJ P w K mg base "written_row" ["row"] 33 yG):aL P w K mg base CX0 34 f fd ["program"] vQ:=by
 refine F.ok vN (fun vs H Q E h=>?_) (fun cdv A outer s H vs Q E hr h=>?_)
 · obtain ⟨p,B,I,N,vb,vn,bs,ins,nds,rfl,_⟩:=h
   rfl
 · obtain ⟨p,B,I,N,vb,vn,bs,ins,nds,rfl,hp,pt,wr,q⟩:=h
   have lb:=wr.lb
   have li:=wr.li
   have ln:=wr.ln
   have vbl:=Paired.length pt.pb
   have vnl:=Paired.length pt.pn
   refine cH ⟨_,(K6 (Mb (K0 0) (LH 3 (Ln (Le 1 vN.nd) (Ln (Le 2 vN.nd) (Ln (Le 3 vN.nd) Lx)))))
     (K6 (Ld 4 vN.nd (K5 Ma (K5 Ma (LF [none,none] ["name","size"] (show az _ (af sWT) from ⟨rfl,by decide +kernel,by decide +kernel,by decide +kernel⟩) (by rfl) (Lr (K0 1)) (fun _ _ _ _ _=>⟨(LH 2 (Ln (Le 0 (show (["name","size"]:List Str).Nodup from by decide +kernel)) (Ln (Le 1 (show (["name","size"]:List Str).Nodup from by decide +kernel)) Lx))),Lu,(Lg (K1 K7 (K1 (K0 0) (K1 (K0 1) K3))))⟩)) (LF [none] ["name"] (show az _ (af sWT) from ⟨rfl,by decide +kernel,by decide +kernel,by decide +kernel⟩) (by rfl) (Lr (K0 2)) (fun _ _ _ _ _=>⟨(Le 0 (show (["name"]:List Str).Nodup from by decide +kernel)),Lu,(Lg (K1 K7 (K1 (K0 0) K3)))⟩))) (K0 3)))
     (K8 (Lc (L5 K7 (K1 (LF [none] ["row"] (show az _ (af sWT) from ⟨rfl,by decide +kernel,by decide +kernel,by decide +kernel⟩) (by rfl) (Lr (K0 4)) (fun _ _ _ _ _=>⟨(Le 0 (show (["row"]:List Str).Nodup from by decide +kernel)),Lu,(K9 WR hr (by rfl) (K1 (K0 0) K3))⟩)) K3)))))),?_⟩
   refine ar fun Rk kR=>?_
   refine ⟨_,rfl,p,_,rfl,aC.of hp,rfl,_,_,rfl,_,_,rfl,_,_,rfl,rfl,?_⟩
   refine kR _ _ ?_
   refine aB [some (.ref p),some (.ref B),some (.ref I),some (.ref N),none] rfl ?_
   refine ar fun Rk kR=>?_
   refine ⟨_,rfl,B,rfl,⟨_,aw.of pt.hB⟩,fun D1 hD1=>?_⟩
   refine aT (xs:=vb) (fun i Hx=>ah H Hx/\∃us,Hx D1=some (.lst us)/\us.length=i/\b6 Hx us ((bs.take i).map fw)) ⟨ag hD1 _,[],ae,rfl,.nil⟩ (fun i Hx _ z=>aw.of (z.1 _ _ pt.hB)) (fun i x0 Hx hx z=>?_) (fun H1 z=>?_)
   · obtain ⟨sx,us,gD,ul,ru⟩:=z
     have hil:=(List.getElem?_eq_some_iff.mp hx).1
     obtain ⟨b,hbi,pp,rfl,hpp⟩:=Paired.get pt.pb hx
     refine ⟨pp,_,rfl,aC.of (sx _ _ hpp),rfl,_,_,rfl,_,_,rfl,rfl,?_⟩
     refine bE (A:=fun H5=>bS _ D1 _ H5 _) ?_
     refine ⟨_,rfl,_,rfl,Nv,fun q2 hq=>?_⟩
     have sq:=ag hq (.tup [.str "box",.str b.1,.int b.2])
     have gq:(upd Hx q2 (.tup [.str "box",.str b.1,.int b.2])) q2=some (.tup [.str "box",.str b.1,.int b.2]):=ae
     generalize upd Hx q2 (.tup [.str "box",.str b.1,.int b.2])=Hy at sq gq ⊢
     have gDy:=sq _ _ gD
     refine ⟨us,gDy,Ho (show _<=1000 by omega) (by decide),aK (Pv:=fun i Hx=>ah H Hx/\∃us,Hx D1=some (.lst us)/\us.length=i/\b6 Hx us ((bs.take i).map fw)) (by repeat' constructor) hil ⟨aG (aa sx sq) hD1,us++[.ref q2],ae,by rw [GU,ul]; rfl,?_⟩⟩
     rw [Hl,hbi,G2]
     refine Paired.snoc (b6.keep ((ah.tk sq).trans (TW.TK.lst gDy)) ru) ?_
     have gq':(upd Hy D1 (.lst (us++[.ref q2]))) q2=some (.tup [.str "box",.str b.1,.int b.2]):=TW.TK.lst gDy _ _ gq
     have wb:=wr.b b (Hh hbi)
     exact ⟨_,_,⟨_,_,⟨q2,rfl,gq'⟩,by decide,.cons (.nm wb.1) (.cons (.no wb.2) .nil)⟩,rfl⟩
   obtain ⟨s1,us1,gD1,ul1,ru1⟩:=z
   rw [show (bs.take vb.length)=bs by rw [vbl,HB]] at ru1
   have l1:us1.length=bs.length:=by omega
   refine ⟨_,rfl,I,rfl,⟨_,aw.of (s1 _ _ pt.hI)⟩,fun D hD2=>?_⟩
   refine aT (xs:=ins.map V.str) (fun i Hx=>ah H1 Hx/\∃us,Hx D=some (.lst us)/\us.length=i/\b6 Hx us ((ins.take i).map pC)) ⟨ag hD2 _,[],ae,rfl,.nil⟩ (fun i Hx _ z=>aw.of (z.1 _ _ (s1 _ _ pt.hI))) (fun i x0 Hx hx z=>?_) (fun Hx z=>?_)
   · obtain ⟨sx,us,gD,ul,ru⟩:=z
     have hil:=(List.getElem?_eq_some_iff.mp hx).1
     obtain ⟨y,hyi,rfl⟩:=bC hx
     rw [GR] at hil
     refine ao ?_
     refine bE (A:=fun H5=>bS _ D _ H5 _) ?_
     refine ⟨_,rfl,Nu,fun q2 hq=>?_⟩
     have sq:=ag hq (.tup [.str "input",.str y])
     have gq:(upd Hx q2 (.tup [.str "input",.str y])) q2=some (.tup [.str "input",.str y]):=ae
     generalize upd Hx q2 (.tup [.str "input",.str y])=Hy at sq gq ⊢
     have gDy:=sq _ _ gD
     refine ⟨us,gDy,Ho (show _<=1000 by omega) (by decide),aK (Pv:=fun i Hx=>ah H1 Hx/\∃us,Hx D=some (.lst us)/\us.length=i/\b6 Hx us ((ins.take i).map pC)) (by repeat' constructor) (by rw [GR]; exact hil) ⟨aG (aa sx sq) hD2,us++[.ref q2],ae,by rw [GU,ul]; rfl,?_⟩⟩
     rw [Hl,hyi,G2]
     refine Paired.snoc (b6.keep ((ah.tk sq).trans (TW.TK.lst gDy)) ru) ?_
     have gq':(upd Hy D (.lst (us++[.ref q2]))) q2=some (.tup [.str "input",.str y]):=TW.TK.lst gDy _ _ gq
     exact ⟨_,_,⟨_,_,⟨q2,rfl,gq'⟩,by decide,.cons (.nm (wr.i y (Hh hyi))) .nil⟩,rfl⟩
   obtain ⟨sx,us,gD,ul,ru⟩:=z
   rw [GR,HB] at ru
   rw [GR] at ul
   refine ⟨D1,D,_,_,rfl,rfl,sx _ _ gD1,gD,small (by omega),fun r3 hr3=>?_⟩
   have s3:ah Hx (upd Hx r3 (.lst (us1++us))):=ag hr3 _
   have g3:(upd Hx r3 (.lst (us1++us))) r3=some (.lst (us1++us)):=ae
   generalize upd Hx r3 (.lst (us1++us))=H3 at s3 g3 ⊢
   refine ⟨_,rfl,r3,N,_,_,rfl,rfl,g3,s3 _ _ (sx _ _ (s1 _ _ pt.hN)),small (by rw [GU]; omega),fun R hR=>?_⟩
   have s4:ah H3 (upd H3 R (.lst (us1++us++vn))):=ag hR _
   have g4:(upd H3 R (.lst (us1++us++vn))) R=some (.lst (us1++us++vn)):=ae
   generalize upd H3 R (.lst (us1++us++vn))=H4 at s4 g4 ⊢
   have s14:=aa (aa (aa s1 sx) s3) s4
   have rows:b6 H4 (us1++us++vn) (bs.map fw++ins.map pC++nds.map Np.ws):=by
     refine Paired.app (Paired.app (b6.keep (ah.tk (aa (aa sx s3) s4)) ru1) (b6.keep (ah.tk (aa s3 s4)) ru)) ?_
     exact Paired.mapR (fun x y hy z=>Np.rowAt z (wr.n y hy)) (Paired.mapP pt.pn fun _ _ z=>aP.keep (ah.tk s14) z)
   refine ao ?_
   refine kR _ _ ?_
   refine aB [some (.ref p),some (.ref B),some (.ref I),some (.ref N),some (.ref R)] rfl ?_
   clear gD gD1 ru ru1 g3 sx s3
   refine ⟨rfl,_,rfl,R,rfl,⟨_,aw.of g4⟩,fun D9 hD9=>?_⟩
   have e:textOf bs ins nds=(bs.map fw++ins.map pC++nds.map Np.ws).map (Hj sp1):=by
     unfold textOf
     rw [G2,G2,HQ,HQ,HQ]
     rfl
   have rl:=Paired.length rows
   obtain ⟨ws,ews⟩ : ∃ws,ws=bs.map fw++ins.map pC++nds.map Np.ws:=⟨_,rfl⟩
   rw [← ews] at e rows rl
   refine aT (xs:=us1++us++vn) (fun i Hx=>ah H4 Hx/\Hx D9=some (.lst ((ws.take i).map fun x=>V.str (Hj sp1 x)))) ⟨ag hD9 _,ae⟩ (fun i Hx _ z=>aw.of (z.1 _ _ g4)) (fun i x0 Hx hx z=>?_) (fun Hx z=>?_)
   · obtain ⟨sx,gD⟩:=z
     have hil:=(List.getElem?_eq_some_iff.mp hx).1
     obtain ⟨wd,hwi,hd,xs,ra,rfl⟩:=Paired.get rows hx
     refine ao ?_
     refine bE (A:=fun H5=>bS _ D9 _ H5 _) ?_
     refine ⟨_,rfl,x0,hd,xs,rfl,ra.keep (ah.tk sx),fun Hy sy=>?_⟩
     refine ⟨_,sy _ _ gD,Ho (show _<=1000 by rw [GR,G8,← rl,GU,GU]; omega) (by decide),aK (Pv:=fun i Hx=>ah H4 Hx/\Hx D9=some (.lst ((ws.take i).map fun x=>V.str (Hj sp1 x)))) (by repeat' constructor) hil ⟨aG (aa sx sy) hD9,?_⟩⟩
     rw [ae,Hl,hwi,G2]
     rfl
   obtain ⟨sx,gD⟩:=z
   rw [rl,HB] at gD
   have jo:JoinOk "\n" (textOf bs ins nds)=true:=by
     refine fU 12100 (fun y hy=>?_) ?_
     · rw [e] at hy
       obtain ⟨wd,hw,rfl⟩:=List.mem_map.mp hy
       obtain ⟨v,hd,xs,ra,rfl⟩:=Paired.memR rows hw
       exact pP ra
     · rw [e,GR,← rl,GU,GU,show (("\n":Str)).length=1 from rfl]
       omega
   refine ⟨"\n",D9,textOf bs ins nds,rfl,rfl,aw.of (by rw [gD,e,HQ]; rfl),jo,?_⟩
   exact q _ (aa s14 sx) jo
theorem z6 (s:Src K mg "written_text" sWT)(WR:aJ P w K mg base "written_row" ["row"] 33 yG):aJ P w K mg base "written_text" ["program"] 34 vQ:=
 let ⟨f,fd,F,m⟩:=s
 ⟨f,fd,Df F WR,F.kp,cT F fun _ _ _ _ _ _ _=>rfl,m⟩
end
end TW
set_option Elab.async false
set_option linter.all false
set_option maxRecDepth 100000
set_option exponentiation.threshold 4000
set_option maxHeartbeats 1000000
namespace TW
open PySem L2
section
variable {P:Program}{w:World}{K:GP}{mg:Str->Option Value}{base:Heap}
abbrev sRInit:Stmt:=cu 38 0
abbrev sRSign:Stmt:=cu 38 1
abbrev sRTaken:Stmt:=cu 38 2
abbrev sRDue:Stmt:=cu 38 3
abbrev sRStr:Stmt:=cu 38 4
abbrev sRNum:Stmt:=cu 38 5
abbrev sRName:Stmt:=cu 38 6
/-! ### signs of a text -/
def SN (l:List Nat):Str:=⟨l.toArray⟩
theorem dk (l:List Nat):(SN l).cps.toList=l:=by simp [SN]
theorem mB (x:Str):SN x.cps.toList=x:=by cases x; simp [SN]
theorem nE (l:List Nat):(SN l).length=l.length:=by show l.toArray.size=_; simp
theorem eX {a b:List Nat}(h:SN a=SN b):a=b:=by
 have:=congrArg (fun s:Str=>s.cps.toList) h
 simpa [SN] using this
theorem bB (x:Str):x.cps.toList.length=x.length:=by simp [Str.length]
theorem jO (x:Str){a b:Nat}(hab:a<=b)(hb:b<=x.length):Ka x (some (a:Int)) (some (b:Int))=SN ((x.cps.toList.drop a).take (b - a)):=by
 unfold Ka
 rw [StrLaws.sliced_plain x hab hb]
 split
 · rename_i h
   rw [StrLaws.strSliceIndices_plain hab hb] at h
   simp at h
   have h1:a=0:=by omega
   have h2:b=x.length:=by omega
   subst h1 h2
   rw [Ko,KS,← bB,HB,mB]
 · rfl
theorem oK (x:Str){i:Nat}(h:i<=x.length):Ka x (some (i:Int)) (some ((i:Int) + 1))=SN ((x.cps.toList.drop i).take 1):=by
 by_cases hi:i < x.length
 · have:=jO x (a:=i) (b:=i + 1) (by omega) (by omega)
   rw [show i + 1 - i=1 by omega] at this
   exact this
 · have hi:i=x.length:=by omega
   have e:IW (some (i:Int)) (some ((i:Int) + 1)) 1 x.length=IW (some (i:Int)) (some (i:Int)) 1 x.length:=by
     have h2:¬ ((i:Int) + 1 < 0):=by omega
     have h1:¬ ((i:Int) < 0):=by omega
     have e1:min ((i:Int) + 1) (x.length:Int)=min (i:Int) (x.length:Int):=by omega
     simp only [IW,h1,h2,if_false,e1,show ((1:Int) > 0)=True from by simp,if_true]
   have:=jO x (a:=i) (b:=i) (by omega) (by omega)
   unfold Ka at this ⊢
   rw [e,this,KU,Kn,List.drop_eq_nil_of_le (by rw [bB]; omega),List.take_nil]
/-! ### the reader -/
abbrev rdO (C dx:Addr)(w:Str)(i:Nat):HO:=.ins C dx [("word",.str w),("place",.int (i:Int))]
structure iD (K:GP)(C:Addr):Prop where
 c:nA K C
 w:b9 K C "word"
 p:b9 K C "place"
theorem la.rd {K:GP}{mg:Str->Option Value}{C:Addr}(s:la K mg "Reader" C ["word","place"]):iD K C:=⟨s.c,s.na.get (by decide),s.na.get (by decide)⟩
theorem Kp.rd {r:Addr}{H H':Hp}{C dx:Addr}{w:Str}{i:Nat}(k:Kp r H H')(h:H r=some (rdO C dx w i)):TK H H':=fun b xs e=>k b _ e fun z=>by rw [z,h] at e; cases e
/-- what is still to be read -/
def aD (w:Str)(i:Nat):List Nat:=w.cps.toList.drop i
theorem cn (w:Str)(i:Nat):(aD w i).length=w.length - i:=by unfold aD; rw [Ir,bB]
theorem bF {w:Str}{i:Nat}{c:Nat}{r:List Nat}(h:aD w i=c :: r):aD w (i + 1)=r/\i < w.length:=by
 have hl:(aD w i).length=r.length + 1:=by rw [h]; rfl
 rw [cn] at hl
 unfold aD at h ⊢
 rw [← List.drop_drop,h]
 exact ⟨rfl,by omega⟩
theorem dg {w:Str}{i:Nat}{a r:List Nat}(h:aD w i=a++r)(hi:i<=w.length):aD w (i + a.length)=r/\i + a.length<=w.length:=by
 have hl:(aD w i).length=a.length + r.length:=by rw [h,GU]
 rw [cn] at hl
 unfold aD at h ⊢
 rw [← List.drop_drop,h,List.drop_left]
 exact ⟨rfl,by omega⟩
def f6 (C:Addr):Sp:=fun vs H Q _=>∃(r dx:Addr) (w:Str),vs=[.ref r,.str w]/\H r=some (.ins C dx [])/\Q .bq (upd H r (rdO C dx w 0))
theorem yt:aq ["self","word"] ["self","word"] (af sRInit):=⟨rfl,rfl,rfl,by decide +kernel,rfl,by decide +kernel,by decide +kernel⟩
theorem uy (F:Hp->Prop){H:Hp}(H':Hp)(e:H=H')(h:F H'):F H:=by subst e; exact h
theorem uR {C:Addr}{f:Addr}{fd:FuncData}(F:bI K "__init__" "Reader.__init__" sRInit f fd)(R5:iD K C):aL P w K mg base CX0 1 f fd ["self","word"] (f6 C):=by
 refine F.ok yt (fun vs H Q E h=>?_) (fun cdv A outer s H vs Q E hr h=>?_)
 · obtain ⟨r,dx,w,rfl,_⟩:=h
   rfl
 · obtain ⟨r,dx,w,rfl,hr0,q⟩:=h
   refine cH ⟨_,(K6 (L3.DV (K0 0) (K0 1))
     (K8 (L3.DV (K0 0) K4))),?_⟩
   refine ⟨_,rfl,_,rfl,r,C,dx,_,rfl,hr0,R5.c,R5.w,(by show 0 < 1000; decide),?_⟩
   refine ⟨_,rfl,r,C,dx,_,rfl,ae,R5.c,R5.p,(by show 1 < 1000; decide),?_⟩
   refine uy (fun H'=>Q .bq H') (upd H r (rdO C dx w 0)) ?_ q
   rw [iW]
   rfl
theorem og {C:Addr}(c:la K mg "Reader" C ["word","place"])(s:oT K C "Reader.__init__" sRInit):my P w K mg base "Reader" C ["self","word"] 1 (f6 C):=
 let ⟨f,fd,F,m⟩:=s
 ⟨f,fd,uR F c.rd,cU F fun _ _ _ _ _ _ _ _=>rfl,m,c.m⟩
def bu (C:Addr):Sp:=fun vs H Q _=>∃(r dx:Addr) (w:Str) (i:Nat),vs=[.ref r]/\H r=some (rdO C dx w i)/\i<=w.length/\w.length<=sizeLine/\Q (.str (SN ((aD w i).take 1))) H
theorem yu:aq ["self"] ["self"] (af sRSign):=⟨rfl,rfl,rfl,by decide +kernel,rfl,by decide +kernel,by decide +kernel⟩
theorem uU {C:Addr}{f:Addr}{fd:FuncData}(F:bI K "sign" "Reader.sign" sRSign f fd)(R5:iD K C):aL P w K mg base CX0 1 f fd ["self"] (bu C):=by
 refine F.ok yu (fun vs H Q E h=>?_) (fun cdv A outer s H vs Q E hr h=>?_)
 · obtain ⟨r,dx,w,i,rfl,_⟩:=h
   rfl
 · obtain ⟨r,dx,w,i,rfl,hr0,hi,hw,q⟩:=h
   refine cH ⟨_,(K8 (Lc (L3.zj (Mc (K0 0)) (Mc (K0 0)) (K5 Lo (Mc (K0 0)) K4)))),?_⟩
   refine ⟨_,rfl,r,C,dx,_,_,rfl,hr0,R5.c,R5.w,rfl,_,rfl,r,C,dx,_,_,rfl,hr0,R5.c,R5.p,rfl,_,rfl,_,rfl,r,C,dx,_,_,rfl,hr0,R5.c,R5.p,rfl,_,_,rfl,rfl,_,rfl,w,rfl,hw,?_⟩
   rw [oK w hi]
   exact q
theorem qM {C:Addr}(s:bK K C "sign" "Reader.sign" sRSign)(R5:iD K C):bh P w K mg base C "sign" ["self"] 1 (bu C):=
 let ⟨f,fd,F,m⟩:=s
 ⟨f,fd,uU F R5,cT F fun _ _ _ _ _ _ _=>rfl,m⟩
end
end TW
set_option Elab.async false
set_option linter.all false
set_option maxRecDepth 100000
set_option exponentiation.threshold 4000
set_option maxHeartbeats 1000000
namespace TW
open PySem L2
section
variable {P:Program}{w:World}{K:GP}{mg:Str->Option Value}{base:Heap}
/-! ### taken,due -/
theorem AG {c:Nat}{r:List Nat}(h:r.head? ≠ some c):V.str (SN (r.take 1))≠V.str (SN [c]):=fun z=>by
 injection z with z
 have z:=eX z
 cases r with
 | nil=>cases z
 | cons a l=>
   rw [List.take_succ_cons,Kn] at z
   injection z with z _
   exact h (by rw [z]; rfl)
def di (C:Addr):Sp:=fun vs H Q _=>∃(r dx:Addr) (w:Str) (i c:Nat),vs=[.ref r,.str (SN [c])]/\H r=some (rdO C dx w i)/\i<=w.length/\w.length<=sizeLine/\((∃l,aD w i=c :: l/\Q (.bl true) (upd H r (rdO C dx w (i + 1))))\/((aD w i).head? ≠ some c/\Q (.bl false) H))
theorem vJ:aq ["self","sign"] ["self","sign"] (af sRTaken):=⟨rfl,rfl,rfl,by decide +kernel,rfl,by decide +kernel,by decide +kernel⟩
theorem iteF' {c:Bool}{A B:Prop}(h:c=false)(b:B):if c=true then A else B:=by rw [h]; exact b
theorem rq {C:Addr}{f:Addr}{fd:FuncData}(F:bI K "taken" "Reader.taken" sRTaken f fd)(R5:iD K C)(SI:bh P w K mg base C "sign" ["self"] 1 (bu C)):aL P w K mg base CX0 2 f fd ["self","sign"] (di C):=by
 refine F.ok vJ (fun vs H Q E h=>?_) (fun cdv A outer s H vs Q E hr h=>?_)
 · obtain ⟨r,dx,w,i,c,rfl,_⟩:=h
   rfl
 · obtain ⟨r,dx,w,i,c,rfl,hr0,hi,hw,cs⟩:=h
   refine cH ⟨_,(K6 (Lf (Lb LM (LK (K0 0) R5.c SI hr) (K0 1)) (K8 (Lc LL)) Lh)
     (K6 (Mn (K0 0) K4)
     (K8 (Lc LL)))),?_⟩
   refine ar fun Rk kR=>?_
   refine ⟨_,rfl,r,dx,_,rfl,hr0,rfl,r,dx,w,i,rfl,hr0,hi,hw,_,rfl,rfl,_,rfl,?_⟩
   rcases cs with ⟨l,hl,q⟩ | ⟨hn,q⟩
   · rw [hl]
     refine iteF' (by simp) ?_
     refine kR _ _ ?_
     refine ⟨_,rfl,r,C,dx,_,_,rfl,hr0,R5.c,R5.p,rfl,_,_,rfl,rfl,dx,_,hr0,(by show 2 < 1000; decide),?_⟩
     exact q
   · refine aH (fun _=>q) (fun z=>absurd (by simp [AG hn]) z)
theorem oa {C:Addr}(s:bK K C "taken" "Reader.taken" sRTaken)(R5:iD K C)(SI:bh P w K mg base C "sign" ["self"] 1 (bu C)):bh P w K mg base C "taken" ["self","sign"] 2 (di C):=
 let ⟨f,fd,F,m⟩:=s
 ⟨f,fd,rq F R5 SI,cU F fun _ _ _ _ _ _ _ _=>rfl,m⟩
def gW (C:Addr):Sp:=fun vs H Q _=>∃(r dx:Addr) (w:Str) (i c:Nat) (l:List Nat),vs=[.ref r,.str (SN [c])]/\H r=some (rdO C dx w i)/\i<=w.length/\w.length<=sizeLine/\aD w i=c :: l/\Q .bq (upd H r (rdO C dx w (i + 1)))
theorem BQ:aq ["self","sign"] ["self","sign"] (af sRDue):=⟨rfl,rfl,rfl,by decide +kernel,rfl,by decide +kernel,by decide +kernel⟩
theorem xC {C:Addr}{f:Addr}{fd:FuncData}(F:bI K "due" "Reader.due" sRDue f fd)(R5:iD K C)(TA:bh P w K mg base C "taken" ["self","sign"] 2 (di C)):aL P w K mg base CX0 3 f fd ["self","sign"] (gW C):=by
 refine F.ok BQ (fun vs H Q E h=>?_) (fun cdv A outer s H vs Q E hr h=>?_)
 · obtain ⟨r,dx,w,i,c,l,rfl,_⟩:=h
   rfl
 · obtain ⟨r,dx,w,i,c,l,rfl,hr0,hi,hw,hl,q⟩:=h
   refine cH ⟨_,(K8 (Lf (Mg (LQ (Md (K0 0) R5.c TA hr (K1 (K0 1) K3)))) LC Lh)),?_⟩
   refine ⟨_,rfl,r,dx,_,rfl,hr0,rfl,_,rfl,r,dx,w,i,c,rfl,hr0,hi,hw,.inl ⟨l,hl,_,rfl,?_⟩⟩
   exact aX q
theorem tS {C:Addr}(s:bK K C "due" "Reader.due" sRDue)(R5:iD K C)(TA:bh P w K mg base C "taken" ["self","sign"] 2 (di C)):bh P w K mg base C "due" ["self","sign"] 3 (gW C):=
 let ⟨f,fd,F,m⟩:=s
 ⟨f,fd,xC F R5 TA,cU F fun _ _ _ _ _ _ _ _=>rfl,m⟩
/-! ### stretch -/
def gY (C:Addr):Sp:=fun vs H Q _=>∃(r dx:Addr) (w S:Str) (i:Nat) (a l:List Nat),vs=[.ref r,.str S]/\H r=some (rdO C dx w i)/\i<=w.length/\w.length<=sizeLine/\aD w i=a++l/\(∀c∈a,c∈S.cps.toList)/\(∀c,l.head? = some c->c ∉ S.cps.toList)/\Q (.str (SN a)) (upd H r (rdO C dx w (i + a.length)))
theorem lK (S:Str)(c:Nat):J1 S (SN [c])=decide (c∈S.cps.toList):=StrLaws.found_one S c
theorem ez {l:List Nat}(h:l≠[]):V.str (SN l)≠V.str "":=fun z=>by
 injection z with z
 exact h (eX (z.trans (show ("":Str)=SN [] by decide +kernel)))
theorem vI:aq ["self","signs","begun"] ["self","signs"] (af sRStr):=⟨rfl,rfl,rfl,by decide +kernel,rfl,by decide +kernel,by decide +kernel⟩
theorem vY {H:Hp}{r:Addr}{o:HO}(h:H r=some o):H=upd H r o:=by
 funext b
 by_cases e:b=r
 · rw [e,ae,h]
 · rw [aj e]
theorem xF {C:Addr}{f:Addr}{fd:FuncData}(F:bI K "stretch" "Reader.stretch" sRStr f fd)(R5:iD K C)(SI:bh P w K mg base C "sign" ["self"] 1 (bu C)):aL P w K mg base CX0 2 f fd ["self","signs"] (gY C):=by
 refine F.ok vI (fun vs H Q E h=>?_) (fun cdv A outer s H vs Q E hr h=>?_)
 · obtain ⟨r,dx,w,S,i,a,l,rfl,_⟩:=h
   rfl
 · obtain ⟨r,dx,w,S,i,a,l,rfl,hr0,hi,hw,hal,ha,hl,q⟩:=h
   obtain ⟨hl2,hle⟩:=dg hal hi
   refine cH ⟨_,(K6 (Ld 2 vI.nd (Mc (K0 0)))
     (K6 (L6 (Lv (LO (Lb LM (LK (K0 0) R5.c SI hr) K7) (LP (Lb L3.uI (LK (K0 0) R5.c SI hr) (K0 1) (by rfl))))) (K8 (Mn (K0 0) K4)))
     (K8 (Lc (L3.zj (Mc (K0 0)) (K0 2) (Mc (K0 0))))))),?_⟩
   refine ar fun Rk kR=>?_
   refine ⟨_,rfl,r,C,dx,_,_,rfl,hr0,R5.c,R5.p,rfl,?_⟩
   refine ao ?_
   refine kR _ _ ?_
   refine aB [some (.ref r),some (.str S),some (.int (i:Int))] rfl ?_
   refine ar fun Rk kR=>?_
   refine ⟨fun d σ Hx=>∃k b,σ=[some (.ref r),some (.str S),some (.int (i:Int))]/\Hx=upd H r (rdO C dx w (i + k))/\d=b.length/\aD w (i + k)=b++l/\k + b.length=a.length/\∀c∈b,c∈S.cps.toList,⟨a.length,0,a,rfl,vY hr0,rfl,hal,Nat.zero_add _,ha⟩,fun d σ Hx z=>?_⟩
   obtain ⟨k,b,rfl,rfl,rfl,hb,kb,hbS⟩:=z
   have hik:i + k<=w.length:=by omega
   have hrk:(upd H r (rdO C dx w (i + k))) r=some (rdO C dx w (i + k)):=ae
   generalize hHk:upd H r (rdO C dx w (i + k))=Hk at hrk ⊢
   have fin:b=[]->Rk [some (.ref r),some (.str S),some (.int (i:Int))] Hk:=fun hb0=>by
     have k0:k=a.length:=by rw [hb0] at kb; simpa using kb
     refine kR _ _ ?_
     refine ⟨_,rfl,r,C,dx,_,_,rfl,hrk,R5.c,R5.w,rfl,_,rfl,_,rfl,_,rfl,r,C,dx,_,_,rfl,hrk,R5.c,R5.p,rfl,_,rfl,w,rfl,hw,?_⟩
     rw [jO w (by omega) hik,show i + k - i=a.length by omega,show (w.cps.toList.drop i)=a++l from hal,List.take_left,← hHk,k0]
     exact q
   refine ⟨_,rfl,r,dx,_,rfl,hrk,rfl,r,dx,w,i + k,rfl,hrk,hik,hw,rfl,_,rfl,?_⟩
   cases b with
   | nil=>
     rw [hb]
     cases l with
     | nil=>exact iteF' (by decide +kernel) (aX (fin rfl))
     | cons c l'=>
       refine aH (fun _=>?_) (fun _=>aX (fin rfl))
       refine ⟨_,rfl,r,dx,_,rfl,hrk,rfl,r,dx,w,i + k,rfl,hrk,hik,hw,_,rfl,_,_,rfl,rfl,_,rfl,?_⟩
       rw [hb]
       refine iteF' ?_ (fin rfl)
       rw [show (([]:List Nat)++c :: l').take 1=[c] from rfl,lK]
       exact decide_eq_false (hl c rfl)
   | cons c b'=>
     obtain ⟨hn,hlt⟩:=bF hb
     refine aH (fun _=>?_) (fun z=>absurd ?_ z)
     · refine ⟨_,rfl,r,dx,_,rfl,hrk,rfl,r,dx,w,i + k,rfl,hrk,hik,hw,_,rfl,_,_,rfl,rfl,_,rfl,?_⟩
       rw [hb]
       refine aH (fun _=>?_) (fun z=>absurd ?_ z)
       · refine ⟨fun σ' H'=>∃k b,σ'=[some (.ref r),some (.str S),some (.int (i:Int))]/\H'=upd H r (rdO C dx w (i + k))/\b'.length=b.length/\aD w (i + k)=b++l/\k + b.length=a.length/\∀c∈b,c∈S.cps.toList,fun σ' H' z=>⟨b'.length,Iu _,z⟩,?_⟩
         refine ⟨_,rfl,r,C,dx,_,_,rfl,hrk,R5.c,R5.p,rfl,_,_,rfl,rfl,dx,_,hrk,(by show 2 < 1000; decide),?_⟩
         refine ⟨k + 1,b',rfl,?_,rfl,by rw [← Nat.add_assoc]; exact hn,by have:k + (b'.length + 1)=a.length:=kb; omega,fun c hc=>hbS c (G0 _ hc)⟩
         rw [← hHk,iW,← Nat.add_assoc]
         rfl
       · rw [show ((c :: b')++l).take 1=[c] from rfl,lK]
         exact decide_eq_true (hbS c GZ)
     · rw [hb]
       rw [decide_eq_false (ez (show ((c :: b')++l).take 1≠[] from fun z=>nomatch z))]
       rfl
theorem tV {C:Addr}(s:bK K C "stretch" "Reader.stretch" sRStr)(R5:iD K C)(SI:bh P w K mg base C "sign" ["self"] 1 (bu C)):bh P w K mg base C "stretch" ["self","signs"] 2 (gY C):=
 let ⟨f,fd,F,m⟩:=s
 ⟨f,fd,xF F R5 SI,cU F fun _ _ _ _ _ _ _ _=>rfl,m⟩
end
end TW
set_option Elab.async false
set_option linter.all false
set_option maxRecDepth 100000
set_option exponentiation.threshold 4000
set_option maxHeartbeats 1000000
namespace TW
open PySem L2
section
variable {P:Program}{w:World}{K:GP}{mg:Str->Option Value}{base:Heap}
abbrev sRAtom:Stmt:=top 39
/-! ### numbers and names as signs -/
abbrev figs:Str:="0123456789"
abbrev letrs:Str:="abcdefghijklmnopqrstuvwxyz"
theorem fV {c:Nat}:c∈figs.cps.toList↔48<=c/\c<=57:=by
 rw [show figs.cps.toList=List.range' 48 10 by decide +kernel,List.mem_range'_1]
 omega
theorem kT {c:Nat}:c∈letrs.cps.toList↔97<=c/\c < 123:=by
 rw [show letrs.cps.toList=List.range' 97 26 by decide +kernel,List.mem_range'_1]
def cv (n:Int):List Nat:=(GQ (toString n)).cps.toList
theorem fX (m:Nat):cv (m:Int)=(JF 10 m).map Char.toNat:=PySem.W.KIN.signs_num m
theorem de {n:Int}(h:0<=n):PySem.NumText.AllDigits (cv n):=by
 obtain ⟨m,rfl⟩:=Io h
 intro c hc
 rw [fX] at hc
 obtain ⟨ch,hch,e⟩:=List.mem_map.mp hc
 rw [← e]
 exact PyProof.Rows.digit_range (Nat.isDigit_of_mem_toDigits (by decide) (by decide) hch)
theorem eh (m:Nat):JF 10 m≠[]:=fun e=>by
 by_cases h:m < 10
 · rw [Jq h] at e; cases e
 · have t:=J4 (b:=10) (n:=m / 10) (d:=m % 10) (by decide) (by omega) (Nat.mod_lt m (by decide))
   rw [Nat.div_add_mod,e,Jq (Nat.mod_lt m (by decide))] at t
   simp at t
theorem iI {n:Int}(h:0<=n):cv n≠[]:=by
 obtain ⟨m,rfl⟩:=Io h
 rw [fX]
 exact fun e=>eh m (List.map_eq_nil_iff.mp e)
theorem uH {n:Int}(h:0<=n/\n < 10 ^ 30):(cv n).length<=30:=by
 obtain ⟨m,rfl⟩:=Io h.1
 have hm:m < 10 ^ 30:=by
   have:=h.2
   have e:((10:Int) ^ 30)=((10 ^ 30:Nat):Int):=by decide +kernel
   omega
 rw [cv,bB,Jv]
 exact (Nat.length_repr_le_iff (n:=m) (by decide)).mpr hm
theorem oj:∀m:Nat,0 < m->∀c l,JF 10 m=c :: l->c ≠ '0':=by
 intro m
 induction m using Nat.strongRecOn with
 | _ m ih=>
   intro hm c l e
   by_cases h:m < 10
   · rw [Jq h] at e
     injection e with e _
     rw [← e]
     have all:∀k:Fin 10,k.1≠0->Nat.digitChar k.1 ≠ '0':=by decide
     exact all ⟨m,h⟩ (by show m≠0; omega)
   · have t:=J4 (b:=10) (n:=m / 10) (d:=m % 10) (by decide) (by omega) (Nat.mod_lt m (by decide))
     rw [Nat.div_add_mod,e] at t
     cases q:JF 10 (m / 10) with
     | nil=>exact absurd q (eh _)
     | cons d l'=>
       rw [q] at t
       injection t with t _
       rw [← t]
       exact ih (m / 10) (by omega) (by omega) d l' q
theorem rf {n:Int}(h:0<=n){l:List Nat}(e:cv n=48 :: l):l=[]:=by
 obtain ⟨m,rfl⟩:=Io h
 by_cases hm:m=0
 · rw [hm] at e
   rw [show cv ((0:Nat):Int)=[48] by decide +kernel] at e
   injection e with _ e
   exact e.symm
 · rw [fX] at e
   cases q:JF 10 m with
   | nil=>exact absurd q (eh _)
   | cons c l'=>
     rw [q,Hi] at e
     injection e with e _
     have:=oj m (by omega) c l' q
     exact absurd (Char.toNat_inj.mp (e.trans (show (48:Nat) = '0'.toNat from rfl))) this
theorem uG {n:Int}(h:0<=n)(hl:(cv n).length<=30):Kb (SN (cv n))=some n:=by
 obtain ⟨m,rfl⟩:=Io h
 have:=PySem.intText_digits (x:=SN (cv (m:Int))) (by rw [dk]; exact de h) (by rw [dk]; exact iI h) (by rw [nE]; omega)
 rw [this,dk,fX,PySem.W.KIN.val_back]
def gX (C:Addr):Sp:=fun vs H Q _=>∃(r dx:Addr) (w:Str) (i:Nat) (n:Int) (l:List Nat),vs=[.ref r]/\H r=some (rdO C dx w i)/\i<=w.length/\w.length<=sizeLine/\(0<=n/\n < 10 ^ 30)/\aD w i=cv n++l/\(∀c,l.head? = some c->c ∉ figs.cps.toList)/\Q (.int n) (upd H r (rdO C dx w (i + (cv n).length)))
theorem vH:aq ["self","figures"] ["self"] (af sRNum):=⟨rfl,rfl,rfl,by decide +kernel,rfl,by decide +kernel,by decide +kernel⟩
theorem jX:(af sRNum).names.lookup (GQ "FIGURES")=some .globalImplicit:=by decide +kernel
theorem fh:(af sRNum).names.lookup (GQ "MOST_FIGURES")=some .globalImplicit:=by decide +kernel
theorem qy:(af sRNum).names.lookup (GQ "int")=some .globalImplicit:=by decide +kernel
theorem qz:(af sRNum).names.lookup (GQ "len")=some .globalImplicit:=by decide +kernel
theorem xD {C:Addr}{f:Addr}{fd:FuncData}(F:bI K "number" "Reader.number" sRNum f fd)(R5:iD K C)(m_len:mg "len"=none)(m_int:mg "int"=none)(cF:mC mg "FIGURES" figs)(cM:lg mg "MOST_FIGURES" 30)(ST:bh P w K mg base C "stretch" ["self","signs"] 2 (gY C)):aL P w K mg base CX0 3 f fd ["self"] (gX C):=by
 refine F.ok vH (fun vs H Q E h=>?_) (fun cdv A outer s H vs Q E hr h=>?_)
 · obtain ⟨r,dx,w,i,n,l,rfl,_⟩:=h
   rfl
 · obtain ⟨r,dx,w,i,n,l,rfl,hr0,hi,hw,hn,hl,hh,q⟩:=h
   have hlen:=uH hn
   have hne:=iI hn.1
   refine cH ⟨_,(K6 (Ld 1 vH.nd (Md (K0 0) R5.c ST hr (K1 (Lz (w:=.str figs) jX cF.choose_spec ⟨_,rfl⟩) K3)))
     (K6 (Lf (Lv (LR (Lb Ll (K0 1) K7) (LR (Lb Me (Lm L3.lr qz m_len G1 (K1 (K0 1) K3)) (Lz (w:=.int 30) fh cM.choose_spec ⟨_,rfl⟩)) (LZ (Lv (LO (Lb Ll (La L3.FL (K0 1) K4) K7) (LP (Lb LM (K0 1) K7)))))))) LC Lh)
     (K8 (Lc (Lw L3.zP qy m_int (by decide +kernel) (K1 (K0 1) K3)))))),?_⟩
   refine ar fun Rk kR=>?_
   refine ⟨_,rfl,r,dx,_,rfl,hr0,rfl,r,dx,w,figs,i,cv n,l,rfl,hr0,hi,hw,hl,(fun c hc=>fV.mpr (de hn.1 c hc)),hh,?_⟩
   refine ao ?_
   refine kR _ _ ?_
   refine aB [some (.ref r),some (.str (SN (cv n)))] rfl ?_
   refine ar fun Rk kR=>?_
   refine ⟨_,rfl,rfl,_,rfl,?_⟩
   refine iteF' (decide_eq_false (ez hne)) ?_
   have sl:(SN (cv n)).length<=30:=by rw [nE]; exact hlen
   refine ⟨_,rfl,_,rfl,GY sl (by decide),_,_,rfl,rfl,_,rfl,?_⟩
   refine iteF' (decide_eq_false (by rw [nE]; omega)) ?_
   cases e:cv n with
   | nil=>exact absurd e hne
   | cons c l'=>
     rw [e] at q sl
     refine ⟨_,rfl,SN (c :: l'),0,c,rfl,rfl,GY sl (by decide),by rw [dk]; exact cA (xs:=c :: l') (j:=0) rfl,rfl,_,rfl,?_⟩
     suffices go:Rk [some (.ref r),some (.str (SN (c :: l')))] (upd H r (rdO C dx w (i + (c :: l').length))) by
       refine aH (fun z=>?_) (fun _=>aX go)
       have z:=of_decide_eq_true z
       have hc:c=48:=by
         injection z with z
         have z:SN [c]=SN [48]:=z.trans (show ("0":Str)=SN [48] by decide +kernel)
         have:=eX z
         injection this
       rw [hc] at e go ⊢
       have:=rf hn.1 e
       rw [this] at e go ⊢
       refine ⟨_,rfl,rfl,_,rfl,?_⟩
       refine iteF' ?_ go
       rw [show SN [48]=("0":Str) by decide +kernel,decide_eq_true rfl]
       rfl
     refine kR _ _ ?_
     refine ⟨_,rfl,_,n,rfl,?_,GY sl (by decide),q⟩
     rw [← e]
     exact uG hn.1 hlen
theorem tT {C:Addr}(s:bK K C "number" "Reader.number" sRNum)(R5:iD K C)(m_len:mg "len"=none)(m_int:mg "int"=none)(cF:mC mg "FIGURES" figs)(cM:lg mg "MOST_FIGURES" 30)(ST:bh P w K mg base C "stretch" ["self","signs"] 2 (gY C)):bh P w K mg base C "number" ["self"] 3 (gX C):=
 let ⟨f,fd,F,m⟩:=s
 ⟨f,fd,xD F R5 m_len m_int cF cM ST,cT F fun _ _ _ _ _ _ _=>rfl,m⟩
def eJ (C:Addr):Sp:=fun vs H Q _=>∃(r dx:Addr) (w:Str) (i:Nat) (x:Str) (l:List Nat),vs=[.ref r]/\H r=some (rdO C dx w i)/\i<=w.length/\w.length<=sizeLine/\dJ x/\aD w i=x.cps.toList++l/\(∀c,l.head? = some c->c ∉ letrs.cps.toList)/\Q (.str x) (upd H r (rdO C dx w (i + x.length)))
theorem pS:aq ["self","letters"] ["self"] (af sRName):=⟨rfl,rfl,rfl,by decide +kernel,rfl,by decide +kernel,by decide +kernel⟩
theorem js:(af sRName).names.lookup (GQ "LETTERS")=some .globalImplicit:=by decide +kernel
theorem eO:(af sRName).names.lookup (GQ "MOST_LETTERS")=some .globalImplicit:=by decide +kernel
theorem nX:(af sRName).names.lookup (GQ "len")=some .globalImplicit:=by decide +kernel
theorem uS {C:Addr}{f:Addr}{fd:FuncData}(F:bI K "name" "Reader.name" sRName f fd)(R5:iD K C)(m_len:mg "len"=none)(cL:mC mg "LETTERS" letrs)(cM:lg mg "MOST_LETTERS" 8)(ST:bh P w K mg base C "stretch" ["self","signs"] 2 (gY C)):aL P w K mg base CX0 3 f fd ["self"] (eJ C):=by
 refine F.ok pS (fun vs H Q E h=>?_) (fun cdv A outer s H vs Q E hr h=>?_)
 · obtain ⟨r,dx,w,i,x,l,rfl,_⟩:=h
   rfl
 · obtain ⟨r,dx,w,i,x,l,rfl,hr0,hi,hw,hx,hl,hh,q⟩:=h
   have x1:=hx.l1
   have x8:=hx.l8
   have hne:x.cps.toList≠[]:=fun z=>by
     have:=bB x
     rw [z] at this
     simp at this
     omega
   refine cH ⟨_,(K6 (Ld 1 pS.nd (Md (K0 0) R5.c ST hr (K1 (Lz (w:=.str letrs) js cL.choose_spec ⟨_,rfl⟩) K3)))
     (K6 (Lf (Lv (LR (Lb Ll (K0 1) K7) (LZ (Lb Me (Lm L3.lr nX m_len G1 (K1 (K0 1) K3)) (Lz (w:=.int 8) eO cM.choose_spec ⟨_,rfl⟩))))) LC Lh)
     (K8 (Lc (K0 1))))),?_⟩
   refine ar fun Rk kR=>?_
   refine ⟨_,rfl,r,dx,_,rfl,hr0,rfl,r,dx,w,letrs,i,x.cps.toList,l,rfl,hr0,hi,hw,hl,(fun c hc=>kT.mpr (hx.lt c hc)),hh,?_⟩
   rw [bB]
   refine ao ?_
   refine kR _ _ ?_
   refine aB [some (.ref r),some (.str x)] (by rw [mB]; rfl) ?_
   refine ar fun Rk kR=>?_
   refine ⟨_,rfl,rfl,_,rfl,?_⟩
   refine iteF' (decide_eq_false (by have:=ez hne; rw [mB] at this; exact this)) ?_
   refine ⟨_,rfl,_,rfl,GY x8 (by decide),_,_,rfl,rfl,_,rfl,?_⟩
   refine iteF' (decide_eq_false (by omega)) ?_
   exact kR _ _ ⟨_,rfl,q⟩
theorem qK {C:Addr}(s:bK K C "name" "Reader.name" sRName)(R5:iD K C)(m_len:mg "len"=none)(cL:mC mg "LETTERS" letrs)(cM:lg mg "MOST_LETTERS" 8)(ST:bh P w K mg base C "stretch" ["self","signs"] 2 (gY C)):bh P w K mg base C "name" ["self"] 3 (eJ C):=
 let ⟨f,fd,F,m⟩:=s
 ⟨f,fd,uS F R5 m_len cL cM ST,cT F fun _ _ _ _ _ _ _=>rfl,m⟩
end
end TW
set_option Elab.async false
set_option linter.all false
set_option maxRecDepth 100000
set_option exponentiation.threshold 4000
set_option maxHeartbeats 1000000
namespace TW
open PySem L2
section
variable {P:Program}{w:World}{K:GP}{mg:Str->Option Value}{base:Heap}
abbrev sRSum:Stmt:=top 40
/-! ### read_atom -/
theorem bh.mono {C:Addr}{m:Str}{ps:List Str}{j k:Nat}{sp:Sp}(h:bh P w K mg base C m ps j sp)(hk:j<=k):bh P w K mg base C m ps k sp:=let ⟨f,fd,a,b,c⟩:=h; ⟨f,fd,a.mono hk,b,c⟩
def E.cps (e:E):List Nat:=e.txt.cps.toList
/-- here an atom ends -/
def Stop (l:List Nat):Prop:=∀c,l.head? = some c->¬ (48<=c/\c<=57)/\¬ (97<=c/\c < 123)
inductive E.Atom:E->Prop
 | num {n:Int}:E.Atom (.num n)
 | box {t x:Str}:E.Atom (.box t x)
def iP (C:Addr):Sp:=fun vs H Q _=>∃(r dx:Addr) (w:Str) (i:Nat) (e:E) (l:List Nat),vs=[.ref r]/\H r=some (rdO C dx w i)/\i<=w.length/\w.length<=sizeLine/\e.Atom/\e.okN dJ/\aD w i=e.cps++l/\Stop l/\∀(v:V) (H':Hp),Kp r H H'->H' r=some (rdO C dx w (i + e.cps.length))->bL H' v e->Q v H'
theorem yr:aq ["reader"] ["reader"] (af sRAtom):=⟨rfl,rfl,rfl,by decide +kernel,rfl,by decide +kernel,by decide +kernel⟩
theorem jq:(af sRAtom).names.lookup (GQ "FIGURES")=some .globalImplicit:=by decide +kernel
theorem uP {C:Addr}{f:Addr}{fd:FuncData}(F:bI K "read_atom" "read_atom" sRAtom f fd)(R5:iD K C)(cF:mC mg "FIGURES" figs)(SI0:bh P w K mg base C "sign" ["self"] 1 (bu C))(NU0:bh P w K mg base C "number" ["self"] 3 (gX C))(NA0:bh P w K mg base C "name" ["self"] 3 (eJ C)):aL P w K mg base CX0 4 f fd ["reader"] (iP C):=by
 refine F.ok yr (fun vs H Q E h=>?_) (fun cdv A outer s H vs Q E hr h=>?_)
 · obtain ⟨r,dx,w,i,e,l,rfl,_⟩:=h
   rfl
 · have SI:=SI0.mono (show 1<=3 by decide)
   have NU:=NU0
   have NA:=NA0
   obtain ⟨r,dx,w,i,e,l,rfl,hr0,hi,hw,km,ok,hl,st,q⟩:=h
   refine cH ⟨_,(K6 (Lf (Lv (LO (Lb LM (LK (K0 0) R5.c SI hr) K7) (LP (Lb L3.uI (LK (K0 0) R5.c SI hr) (Lz (w:=.str figs) jq cF.choose_spec ⟨_,rfl⟩) (by rfl))))) (K8 (Lc (Lg (K1 K7 (K1 (LK (K0 0) R5.c NU hr) K3))))) Lh)
     (K8 (Lc (Lg (K1 K7 (K1 (LK (K0 0) R5.c NA hr) K3)))))),?_⟩
   refine ar fun Rk kR=>?_
   refine ⟨_,rfl,r,dx,_,rfl,hr0,rfl,r,dx,w,i,rfl,hr0,hi,hw,rfl,_,rfl,?_⟩
   cases km with
   | @num n=>
     have hn:0<=n/\n < 10 ^ 30:=ok
     have hl:aD w i=cv n++l:=hl
     cases e:cv n with
     | nil=>exact absurd e (iI hn.1)
     | cons c l'=>
       have hc:=de hn.1 c (by rw [e]; exact GZ)
       have h1:(aD w i).take 1=[c]:=by rw [hl,e]; rfl
       rw [h1]
       refine aH (fun _=>?_) (fun z=>absurd (by rw [decide_eq_false (ez (l:=[c]) (fun z=>nomatch z))]; rfl) z)
       refine ⟨_,rfl,r,dx,_,rfl,hr0,rfl,r,dx,w,i,rfl,hr0,hi,hw,_,_,rfl,rfl,_,rfl,?_⟩
       rw [h1,lK,decide_eq_true (fV.mpr hc)]
       refine bt ?_
       refine ⟨_,rfl,r,dx,_,rfl,hr0,rfl,r,dx,w,i,n,l,rfl,hr0,hi,hw,hn,hl,(fun c hc=>fun z=>(st c hc).1 (fV.mp z)),Nu,fun p hp=>?_⟩
       have pr:p≠r:=fun z=>by rw [z,ae] at hp; cases hp
       exact q (.ref p) _ ((Kp.refl H).self.new hp) (by rw [aj pr.symm,ae]; rfl) ⟨p,rfl,ae⟩
   | @box tg x=>
     obtain ⟨rfl,hx⟩ : tg="box"/\dJ x:=ok
     have hl:aD w i=x.cps.toList++l:=hl
     suffices go:Rk [some (.ref r)] H by
       cases e:x.cps.toList with
       | nil=>exact absurd (bB x) (by rw [e]; have:=hx.l1; simp; omega)
       | cons c l'=>
         have hc:=hx.lt c (by rw [e]; exact GZ)
         have h1:(aD w i).take 1=[c]:=by rw [hl,e]; rfl
         rw [h1]
         refine aH (fun _=>?_) (fun z=>aX go)
         refine ⟨_,rfl,r,dx,_,rfl,hr0,rfl,r,dx,w,i,rfl,hr0,hi,hw,_,_,rfl,rfl,_,rfl,?_⟩
         rw [h1,lK,decide_eq_false (fun z=>by have:=fV.mp z; omega)]
         exact aX go
     refine kR _ _ ?_
     refine ⟨_,rfl,r,dx,_,rfl,hr0,rfl,r,dx,w,i,x,l,rfl,hr0,hi,hw,hx,hl,(fun c hc=>fun z=>(st c hc).2 (kT.mp z)),Nu,fun p hp=>?_⟩
     have pr:p≠r:=fun z=>by rw [z,ae] at hp; cases hp
     exact q (.ref p) _ ((Kp.refl H).self.new hp) (by rw [aj pr.symm,ae,show (TW.E.box "box" x).cps.length=x.length from bB x]) ⟨p,rfl,ae⟩
theorem qI {C:Addr}(s:Src K mg "read_atom" sRAtom)(R5:iD K C)(cF:mC mg "FIGURES" figs)(SI:bh P w K mg base C "sign" ["self"] 1 (bu C))(NU:bh P w K mg base C "number" ["self"] 3 (gX C))(NA:bh P w K mg base C "name" ["self"] 3 (eJ C)):aJ P w K mg base "read_atom" ["reader"] 4 (iP C):=
 let ⟨f,fd,F,m⟩:=s
 ⟨f,fd,uP F R5 cF SI NU NA,F.kp,cT F fun _ _ _ _ _ _ _=>rfl,m⟩
end
end TW
set_option Elab.async false
set_option linter.all false
set_option maxRecDepth 100000
set_option exponentiation.threshold 4000
set_option maxHeartbeats 1000000
namespace TW
open PySem L2
section
variable {P:Program}{w:World}{K:GP}{mg:Str->Option Value}{base:Heap}
/-! ### a sum that is read: what is read,and what is to come -/
def K2.sg:K2->Nat
 | .plus=>43 | .less=>45 | .same=>61 | .under=>60 | .both=>38
theorem K2.sign_sg (k:K2):k.sign=SN [k.sg]:=by cases k <;> decide +kernel
theorem br (a b:Str):(a++b).cps.toList=a.cps.toList++b.cps.toList:=by
 show (a.cps++b.cps).toList=_
 simp
structure fq (e:E):Prop where
 is:e.isS
 ok:e.okN dJ
theorem fq.cases {e:E}(h:fq e):e.Atom\/∃k a b,(k=.plus\/k=.less)/\e=.two k a b/\fq a/\fq b:=by
 obtain ⟨is,ok⟩:=h
 match e,is,ok with
 | .num _,_,_=>exact .inl .num
 | .box _ _,_,_=>exact .inl .box
 | .two .plus a b,is,ok=>exact .inr ⟨_,a,b,.inl rfl,rfl,⟨is.1,ok.1⟩,⟨is.2,ok.2⟩⟩
 | .two .less a b,is,ok=>exact .inr ⟨_,a,b,.inr rfl,rfl,⟨is.1,ok.1⟩,⟨is.2,ok.2⟩⟩
theorem C0:("(":Str).cps.toList=[40]:=by decide +kernel
theorem DP:(")":Str).cps.toList=[41]:=by decide +kernel
theorem iF {k:K2}{a b:E}(h:k=.plus\/k=.less):(E.two k a b).cps=40 :: (a.cps++(k.sg :: (b.cps++[41]))):=by
 have e:(E.two k a b).txt="("++(a.txt++k.sign++b.txt)++")":=by rcases h with rfl | rfl <;> rfl
 unfold E.cps
 rw [e,br,br,br,br,C0,DP,k.sign_sg,dk]
 simp
theorem eD {e:E}(h:e.Atom)(ok:e.okN dJ)(l:List Nat):∃c r,e.cps++l=c :: r/\((48<=c/\c<=57)\/(97<=c/\c < 123)):=by
 cases h with
 | @num n=>
   have hn:0<=n/\n < 10 ^ 30:=ok
   cases e:cv n with
   | nil=>exact absurd e (iI hn.1)
   | cons c r=>exact ⟨c,r++l,by show cv n++l=_; rw [e]; rfl,.inl (de hn.1 c (by rw [e]; exact GZ))⟩
 | @box t x=>
   have hx:dJ x:=ok.2
   cases e:x.cps.toList with
   | nil=>exact absurd (bB x) (by rw [e]; have:=hx.l1; simp; omega)
   | cons c r=>exact ⟨c,r++l,by show x.cps.toList++l=_; rw [e]; rfl,.inr (hx.lt c (by rw [e]; exact GZ))⟩
inductive Fr where
 | L (k:K2) (b:E) | R (k:K2) (a:E)
def Bo:List Fr->E->E
 | [],e=>e
 | .L k b :: fs,e=>Bo fs (.two k e b)
 | .R k a :: fs,e=>Bo fs (.two k a e)
def pend:List Fr->List Nat
 | []=>[]
 | .L k b :: fs=>k.sg :: (b.cps++(41 :: pend fs))
 | .R _ _ :: fs=>41 :: pend fs
theorem jE:∀fs:List Fr,fs.length<=(pend fs).length
 | []=>GX _
 | .L k b :: fs=>by
   have:=jE fs
   show fs.length + 1<=(k.sg :: (b.cps++(41 :: pend fs))).length
   simp only [G5,GU]
   omega
 | .R _ _ :: fs=>Nat.succ_le_succ (jE fs)
def iZ (H:Hp):Fr->V->Prop
 | .L _ _,v=>v=.bq
 | .R k a,v=>∃u,Tp H v [.str k.str,u]/\bL H u a
theorem iZ.keep {H H':Hp}(k:TK H H'):∀{f:Fr} {v:V},iZ H f v->iZ H' f v
 | .L _ _,_,h=>h
 | .R _ _,_,⟨u,a,b⟩=>⟨u,a.keep k,b.keep k⟩
def Fz:Fr->Prop
 | .L k b=>(k=.plus\/k=.less)/\fq b
 | .R k a=>(k=.plus\/k=.less)/\fq a
theorem rQ {l:List Nat}(hl:Stop l):∀{fs:List Fr},(∀f∈fs,Fz f)->Stop (pend fs++l)
 | [],_=>hl
 | .L k b :: fs,h=>fun c hc=>by
   have e:c=k.sg:=by
     have:some k.sg=some c:=hc
     injection this with this
     exact this.symm
   have hk:=(h _ GZ).1
   rw [e]
   rcases hk with rfl | rfl <;> exact ⟨by decide,by decide⟩
 | .R _ _ :: fs,h=>fun c hc=>by
   have e:c=41:=by
     have:some 41=some c:=hc
     injection this with this
     exact this.symm
   rw [e]
   exact ⟨by decide,by decide⟩
theorem mW {α:Type}(xs:List α)(v:α):uf (xs++[v]).length (-1)=some xs.length:=by
 rw [GU,Hq]
 unfold uf
 rw [if_neg (by decide),if_pos (by omega)]
 congr 1
 omega
theorem nj {α:Type}(xs:List α)(v y:α):(xs++[v]).set xs.length y=xs++[y]:=by
 rw [List.set_append_right _ _ (GX _),KU]
 rfl
theorem ju {α:Type}(xs:List α)(v:α):(xs++[v])[(xs++[v]).length - 1]? = some v:=by
 rw [GU,Hq,Nat.add_sub_cancel,Kf (GX _),KU]
 rfl
theorem Paired.imp {α β:Type}{F G:α->β->Prop}(k:∀x y,F x y->G x y):∀{a:List α} {b:List β},Paired F a b->Paired G a b
 | _,_,.nil=>.nil
 | _,_,.cons r t=>.cons (k _ _ r) (Paired.imp k t)
theorem aZ {H:Hp}{B:Addr}{o o2:HO}(h:H B=some o)(n:∀xs,o≠.tup xs):TK H (upd H B o2):=fun b xs e=>by
 rw [aj (fun z=>by rw [z,h] at e; exact n xs (HA e))]
 exact e
theorem Aq:("(":Str)=SN [40]:=by decide +kernel
theorem BG:(")":Str)=SN [41]:=by decide +kernel
abbrev ssL:List (Str×V):=[("+",.str "plus"),("-",.str "less")]
theorem pW {k:K2}(h:k=.plus\/k=.less):ssL.lookup (SN [k.sg])=some (.str k.str):=by
 rcases h with rfl | rfl <;> decide +kernel
def gZ (C:Addr):Sp:=fun vs H Q _=>∃(r dx:Addr) (w:Str) (i:Nat) (e:E) (l:List Nat),vs=[.ref r]/\H r=some (rdO C dx w i)/\i<=w.length/\w.length<=4000/\fq e/\aD w i=e.cps++l/\Stop l/\∀(v:V) (H':Hp),Kp r H H'->H' r=some (rdO C dx w (i + e.cps.length))->bL H' v e->Q v H'
/-- how far one is: e is to be read,then what the frames wait for -/
structure i5 (C r dx B:Addr)(w:Str)(H:Hp)(e0:E)(l:List Nat)(Hx:Hp)(j:Nat)(e:E)(fs:List Fr)(us:List V):Prop where
 rd:Hx r=some (rdO C dx w j)
 jl:j<=w.length
 bg:Hx B=some (.lst us.reverse)
 pr:Paired (iZ Hx) fs us
 fg:∀f∈fs,Fz f
 eg:fq e
 pl:Bo fs e=e0
 kp:Kp r H Hx
theorem lZ:aq ["reader","begun","told"] ["reader"] (af sRSum):=⟨rfl,rfl,rfl,by decide +kernel,rfl,by decide +kernel,by decide +kernel⟩
theorem dy:(af sRSum).names.lookup (GQ "SIGN_SUMS")=some .globalImplicit:=by decide +kernel
theorem kG:(af sRSum).names.lookup (GQ "len")=some .globalImplicit:=by decide +kernel
theorem iw:(af sRSum).names.lookup (GQ "read_atom")=some .globalImplicit:=by decide +kernel
theorem xG {C aSS:Addr}{f:Addr}{fd:FuncData}(F:bI K "read_sum" "read_sum" sRSum f fd)(R5:iD K C)(m_len:mg "len"=none)(hSS:mg "SIGN_SUMS"=some (.ref aSS))(dSS:cQ w K aSS ssL)(SI0:bh P w K mg base C "sign" ["self"] 1 (bu C))(TA0:bh P w K mg base C "taken" ["self","sign"] 2 (di C))(DU0:bh P w K mg base C "due" ["self","sign"] 3 (gW C))(RA0:aJ P w K mg base "read_atom" ["reader"] 4 (iP C)):aL P w K mg base CX0 6 f fd ["reader"] (gZ C):=by
 refine F.ok lZ (fun vs H Q E h=>?_) (fun cdv A outer s H vs Q E hr h=>?_)
 · obtain ⟨r,dx,w,i,e,l,rfl,_⟩:=h
   rfl
 · have SI:=SI0.mono (show 1<=5 by decide)
   have TA:=TA0.mono (show 2<=5 by decide)
   have DU:=DU0.mono (show 3<=5 by decide)
   have RA:=RA0.mono (show 4<=5 by decide)
   obtain ⟨r,dx,w,i,e0,l,rfl,hr0,hi,hw4,g0,hl,st,q⟩:=h
   have hw:w.length<=sizeLine:=GY hw4 (by decide)
   refine cH ⟨_,(K6 (Ld 1 lZ.nd (Lj K3))
     (K8 (L6 (LQ LL) (K6 (L6 (LQ (Md (K0 0) R5.c TA hr (K1 K7 K3))) (K8 (LA (LS (K0 1) (K1 Mo K3)))))
     (K6 (Ld 2 lZ.nd (K9 RA hr iw (K1 (K0 0) K3)))
     (K6 (L6 (Lv (LO (Lb Me (Lm Lp kG m_len G1 (K1 (K0 1) K3)) K4) (LP (Lb L3.uJ (La Lq (K0 1) (Mp K4)) Mo)))) (K6 (LA (Md (K0 0) R5.c DU hr (K1 K7 K3)))
     (K8 (Ld 2 lZ.nd (K5 L3.lT (L3.Dy (K0 1)) (Lg (K1 (K0 2) K3)))))))
     (K6 (Lf (Lb Ll (Lm Lp kG m_len G1 (K1 (K0 1) K3)) K4) (K8 (Lc (K0 2))) Lh)
     (K6 (Lf (Lb L3.Ay (LK (K0 0) R5.c SI hr) (Lz (w:=.ref aSS) dy hSS rfl) (by rfl)) LC Lh)
     (K6 (Mb (Lg (K1 (L3.kg (Lz (w:=.ref aSS) dy hSS rfl) (LK (K0 0) R5.c SI hr)) (K1 (K0 2) K3))) (L3.yV (K0 1) (Mp K4)))
     (K8 (Mn (K0 0) K4))))))))))),?_⟩
   refine ar fun Rk kR=>?_
   refine ⟨Nr,fun B hB=>?_⟩
   have Br:B≠r:=fun z=>by rw [z,hr0] at hB; cases hB
   refine ao ?_
   refine kR _ _ ?_
   refine ⟨fun (d:Nat) (σ:L2.St) (Hx:Hp)=>∃(o2:Option V) (j:Nat) (e:TW.E) (fs:List Fr) (us:List V),σ=[some (.ref r),some (.ref B),o2]/\d=w.length - j/\i5 C r dx B w H e0 l Hx j e fs us/\aD w j=e.cps++(pend fs++l),⟨w.length - i,none,i,e0,[],[],rfl,rfl,⟨by rw [aj Br.symm]; exact hr0,hi,ae,.nil,(fun f hf=>nomatch hf),g0,rfl,(Kp.refl H).new hB⟩,hl⟩,fun d σ Hx z=>?_⟩
   obtain ⟨o2,j,e,fs,us,rfl,rfl,S,hrest⟩:=z
   refine ⟨_,rfl,bt ⟨fun σ' H'=>∃d',d' < w.length - j/\(fun (d:Nat) (σ:L2.St) (Hx:Hp)=>∃(o2:Option V) (j:Nat) (e:TW.E) (fs:List Fr) (us:List V),σ=[some (.ref r),some (.ref B),o2]/\d=w.length - j/\i5 C r dx B w H e0 l Hx j e fs us/\aD w j=e.cps++(pend fs++l)) d' σ' H',fun σ' H' z=>z,?_⟩⟩
   refine ar fun Rk kR=>?_
   refine ⟨fun (d:Nat) (σ:L2.St) (Hx:Hp)=>∃(o2:Option V) (j':Nat) (e:TW.E) (fs:List Fr) (us:List V),σ=[some (.ref r),some (.ref B),o2]/\d=w.length - j'/\j<=j'/\i5 C r dx B w H e0 l Hx j' e fs us/\aD w j'=e.cps++(pend fs++l),⟨w.length - j,o2,j,e,fs,us,rfl,rfl,GX _,S,hrest⟩,fun d σ Hy z=>?_⟩
   obtain ⟨o2,j',e,fs,us,rfl,rfl,jj,S,hrest⟩:=z
   have ul:=Paired.length S.pr
   have flen:fs.length<=w.length:=by
     have h1:=jE fs
     have h2:=cn w j'
     rw [hrest,GU,GU] at h2
     omega
   refine ⟨_,rfl,r,dx,_,rfl,S.rd,rfl,r,dx,w,j',40,congrArg (fun z=>[V.ref r,V.str z]) Aq,S.rd,S.jl,hw,?_⟩
   rcases S.eg.cases with km | ⟨k,a,b,hk,rfl,ga,gb⟩
   · obtain ⟨c,r',hc,hd⟩:=eD km S.eg.ok (pend fs++l)
     refine .inr ⟨fun z=>?_,_,rfl,aX ?_⟩
     · rw [hrest,hc] at z
       have:some c=some 40:=z
       injection this with this
       omega
     refine kR _ _ ?_
     refine ar fun Rk kR=>?_
     refine ⟨_,rfl,r,dx,w,j',e,pend fs++l,rfl,S.rd,S.jl,hw,km,S.eg.ok,hrest,rQ st S.fg,fun v Ha ka ra ev=>?_⟩
     have clen:0 < e.cps.length:=by
       obtain ⟨c1,r1,h1,h2⟩:=eD km S.eg.ok []
       rw [Hm] at h1
       rw [h1]
       exact Iz _
     obtain ⟨hr2,hle2⟩:=dg hrest S.jl
     refine ao ?_
     refine kR _ _ ?_
     refine aB [some (.ref r),some (.ref B),some v] rfl ?_
     have SA:i5 C r dx B w H e0 l Ha (j' + e.cps.length) e fs us:=⟨ra,hle2,ka _ _ S.bg Br,Paired.imp (fun f u z=>iZ.keep (Kp.rd ka S.rd) z) S.pr,S.fg,S.eg,S.pl,S.kp.trans ka⟩
     obtain ⟨j0,ej0⟩ : ∃j0,j0=j:=⟨_,rfl⟩
     refine ar fun Rk kR=>?_
     refine ⟨fun (d:Nat) (σ:L2.St) (Hx:Hp)=>∃(v:V) (j:Nat) (e:TW.E) (fs:List Fr) (us:List V),σ=[some (.ref r),some (.ref B),some v]/\d=fs.length/\i5 C r dx B w H e0 l Hx j e fs us/\aD w j=pend fs++l/\bL Hx v e/\j0 < j,⟨fs.length,v,_,e,fs,us,rfl,rfl,SA,hr2,ev,by omega⟩,fun d σ Hz z=>?_⟩
     clear ul flen hrest S hc hd km SA ev ra ka hr2 hle2 clen
     obtain ⟨v,j2,e,fs,us,rfl,rfl,S,hrest,ev,jlt⟩:=z
     have ul:=Paired.length S.pr
     have lrev:us.reverse.length=fs.length:=by rw [IF,← ul]
     refine ⟨_,rfl,B,_,rfl,.inl (aw.of S.bg),_,_,rfl,rfl,_,rfl,?_⟩
     match fs,us,S,hrest,ul,lrev with
     | [],[],S,hrest,ul,lrev=>
       refine iteF' (by decide) (aX ?_)
       refine kR _ _ ?_
       refine ar fun Rk kR=>?_
       refine ⟨_,rfl,B,_,rfl,.inl (aw.of S.bg),rfl,_,rfl,?_⟩
       refine bt ?_
       have e1:e=e0:=S.pl
       have hj:j2=i + e0.cps.length:=by
         have h1:=cn w j2
         have h2:=cn w i
         rw [hrest] at h1
         rw [hl,GU] at h2
         have h1:l.length=w.length - j2:=h1
         have:=S.jl
         omega
       refine ⟨_,rfl,q v Hz S.kp (by rw [← hj]; exact S.rd) (by rw [← e1]; exact ev)⟩
     | .R k a :: fs,u :: us,S,hrest,ul,lrev=>
       obtain ⟨va,⟨pa,rfl,hpa⟩,ea⟩ : iZ Hz (.R k a) u:=by cases S.pr with | cons h _=>exact h
       have pr2:Paired (iZ Hz) fs us:=by cases S.pr with | cons _ h=>exact h
       have fgk:(k=.plus\/k=.less)/\fq a:=S.fg _ GZ
       have bg:=S.bg
       rw [HH] at bg
       rw [HH]
       refine aH (fun _=>?_) (fun z=>absurd (decide_eq_true (by rw [GU,Hq]; omega)) z)
       refine ⟨_,rfl,_,rfl,B,_,_,_,rfl,rfl,aw.of bg,cb _ _,rfl,_,rfl,?_⟩
       refine aH (fun _=>?_) (fun z=>absurd (by rfl) z)
       refine ⟨fun σ' H'=>∃d',d' < fs.length + 1/\(fun (d:Nat) (σ:L2.St) (Hx:Hp)=>∃(v:V) (j:Nat) (e:TW.E) (fs:List Fr) (us:List V),σ=[some (.ref r),some (.ref B),some v]/\d=fs.length/\i5 C r dx B w H e0 l Hx j e fs us/\aD w j=pend fs++l/\bL Hx v e/\j0 < j) d' σ' H',fun σ' H' z=>z,?_⟩
       refine ar fun Rk2 kR2=>?_
       have hrest:aD w j2=41 :: (pend fs++l):=hrest
       obtain ⟨hr3,hlt3⟩:=bF hrest
       refine ⟨_,rfl,r,dx,_,rfl,S.rd,rfl,r,dx,w,j2,41,_,congrArg (fun z=>[V.ref r,V.str z]) BG,S.rd,S.jl,hw,hrest,?_⟩
       have tk1:TK Hz (upd Hz r (rdO C dx w (j2 + 1))):=aZ S.rd (fun _ z=>nomatch z)
       have bg1:(upd Hz r (rdO C dx w (j2 + 1))) B=some (.lst (us.reverse++[.ref pa])):=by rw [aj Br]; exact bg
       have rd1:(upd Hz r (rdO C dx w (j2 + 1))) r=some (rdO C dx w (j2 + 1)):=ae
       have kp1:Kp r H (upd Hz r (rdO C dx w (j2 + 1))):=S.kp.self
       generalize upd Hz r (rdO C dx w (j2 + 1))=H3 at tk1 bg1 rd1 kp1 ⊢
       refine kR2 _ _ ?_
       refine ⟨_,rfl,.inl ⟨rfl,_,aw.of bg1⟩,B,_,_,rfl,rfl,bg1,ju _ _,_,rfl,Nt,fun q1 hq1=>?_⟩
       rw [JI] at hq1 ⊢
       have tk2:TK H3 (upd H3 B (.lst us.reverse)):=aZ bg1 (fun _ z=>nomatch z)
       have rd2:(upd H3 B (.lst us.reverse)) r=some (rdO C dx w (j2 + 1)):=by rw [aj Br.symm]; exact rd1
       have bg2:(upd H3 B (.lst us.reverse)) B=some (.lst us.reverse):=ae
       have kp2:Kp r H (upd H3 B (.lst us.reverse)):=fun b o hb nb=>by rw [aj (ai hb hB)]; exact kp1 b o hb nb
       generalize upd H3 B (.lst us.reverse)=H4 at tk2 rd2 bg2 kp2 hq1 ⊢
       have s5:=ag hq1 (.tup [v])
       have g5:(upd H4 q1 (.tup [v])) q1=some (.tup [v]):=ae
       generalize upd H4 q1 (.tup [v])=H5 at s5 g5 ⊢
       have tk5:=(tk1.trans tk2).trans (ah.tk s5)
       refine ⟨pa,q1,_,_,rfl,rfl,aC.of (tk5 _ _ hpa),aC.of g5,(fun z=>nomatch z),Nv,(fun z=>nomatch z),fun _ p hp=>?_⟩
       have s6:=ag hp (.tup [.str k.str,va,v])
       have tk6:=tk5.trans (ah.tk s6)
       refine ao ?_
       exact ⟨fs.length,Iu _,.ref p,j2 + 1,.two k a e,fs,us,rfl,rfl,⟨s6 _ _ (s5 _ _ rd2),by omega,s6 _ _ (s5 _ _ bg2),Paired.imp (fun f u z=>iZ.keep tk6 z) pr2,fun f hf=>S.fg f (G0 _ hf),⟨by rcases fgk.1 with rfl | rfl <;> exact ⟨fgk.2.is,S.eg.is⟩,fgk.2.ok,S.eg.ok⟩,S.pl,(kp2.same s5).same s6⟩,hr3,⟨va,v,⟨p,rfl,ae⟩,ea.keep tk6,ev.keep tk6⟩,by omega⟩
     | .L k b :: fs,u :: us,S,hrest,ul,lrev=>
       have hu:u=.bq:=by cases S.pr with | cons h _=>exact h
       have pr2:Paired (iZ Hz) fs us:=by cases S.pr with | cons _ h=>exact h
       have fgk:(k=.plus\/k=.less)/\fq b:=S.fg _ GZ
       have bg:=S.bg
       rw [HH] at bg
       rw [HH]
       refine aH (fun _=>?_) (fun z=>absurd (decide_eq_true (by rw [GU,Hq]; omega)) z)
       refine ⟨_,rfl,_,rfl,B,_,_,_,rfl,rfl,aw.of bg,cb _ _,rfl,_,rfl,?_⟩
       rw [hu]
       refine iteF' (by decide) ?_
       refine kR _ _ ?_
       refine ar fun Rk kR=>?_
       rw [hu] at bg
       refine ⟨_,rfl,B,_,rfl,.inl (aw.of bg),rfl,_,rfl,?_⟩
       refine iteF' (decide_eq_false (fun z=>by injection z with z; rw [GU,Hq] at z; omega)) ?_
       refine kR _ _ ?_
       have hrest:aD w j2=k.sg :: (b.cps++(41 :: pend fs)++l):=by rw [hrest]; simp [pend]
       obtain ⟨hr3,hlt3⟩:=bF hrest
       have h1:(aD w j2).take 1=[k.sg]:=by rw [hrest]; rfl
       refine ar fun Rk kR=>?_
       refine ⟨_,rfl,r,dx,_,rfl,S.rd,rfl,r,dx,w,j2,rfl,S.rd,S.jl,hw,_,aSS,ssL,rfl,rfl,dSS,_,rfl,?_⟩
       rw [h1,pW fgk.1]
       refine iteF' rfl ?_
       refine kR _ _ ?_
       refine ar fun Rk kR=>?_
       refine ⟨_,rfl,r,dx,_,rfl,S.rd,rfl,r,dx,w,j2,rfl,S.rd,S.jl,hw,aSS,_,.str k.str,ssL,rfl,rfl,dSS,by rw [h1]; exact pW fgk.1,_,rfl,Nu,fun q1 hq1=>?_⟩
       have s5:=ag hq1 (.tup [.str k.str,v])
       have g5:(upd Hz q1 (.tup [.str k.str,v])) q1=some (.tup [.str k.str,v]):=ae
       generalize upd Hz q1 (.tup [.str k.str,v])=H5 at s5 g5 ⊢
       have bg5:=s5 _ _ bg
       refine ⟨_,rfl,_,rfl,B,_,_,_,rfl,rfl,bg5,mW _ _,?_⟩
       rw [nj]
       have tk6:TK H5 (upd H5 B (.lst (us.reverse++[.ref q1]))):=aZ bg5 (fun _ z=>nomatch z)
       have rd6:(upd H5 B (.lst (us.reverse++[.ref q1]))) r=some (rdO C dx w j2):=by rw [aj Br.symm]; exact s5 _ _ S.rd
       have bg6:(upd H5 B (.lst (us.reverse++[.ref q1]))) B=some (.lst (us.reverse++[.ref q1])):=ae
       have kp6:Kp r H (upd H5 B (.lst (us.reverse++[.ref q1]))):=fun b o hb nb=>by rw [aj (ai hb hB)]; exact s5 _ _ (S.kp b o hb nb)
       generalize upd H5 B (.lst (us.reverse++[.ref q1]))=H6 at tk6 rd6 bg6 kp6 ⊢
       refine kR _ _ ?_
       refine ⟨_,rfl,r,C,dx,_,_,rfl,rd6,R5.c,R5.p,rfl,_,_,rfl,rfl,dx,_,rd6,(by show 2 < 1000; decide),?_⟩
       have tk7:TK H6 (upd H6 r (rdO C dx w (j2 + 1))):=aZ rd6 (fun _ z=>nomatch z)
       have tk:=((ah.tk s5).trans tk6).trans tk7
       have tk67:=tk6.trans tk7
       refine ⟨w.length - (j2 + 1),by omega,some v,j2 + 1,b,.R k e :: fs,.ref q1 :: us,rfl,rfl,⟨ae,by omega,?_,?_,?_,fgk.2,S.pl,kp6.self⟩,?_⟩
       · rw [HH]
         exact (aj Br).trans bg6
       · exact .cons ⟨v,⟨q1,rfl,tk67 _ _ g5⟩,ev.keep tk⟩ (Paired.imp (fun f u z=>iZ.keep tk z) pr2)
       · intro f hf
         rcases List.mem_cons.mp hf with z | z
         · rw [z]; exact ⟨fgk.1,S.eg⟩
         · exact S.fg f (G0 _ z)
       · rw [hr3,Il]
         rfl
   · have hrest:aD w j'=40 :: (a.cps++(pend (.L k b :: fs)++l)):=by
       rw [hrest,iF hk]
       simp [pend]
     obtain ⟨hr3,hlt3⟩:=bF hrest
     refine .inl ⟨_,hrest,_,rfl,bt ⟨fun σ' H'=>∃d',d' < w.length - j'/\∃(o2:Option V) (j':Nat) (e:TW.E) (fs:List Fr) (us:List V),σ'=[some (.ref r),some (.ref B),o2]/\d'=w.length - j'/\j<=j'/\i5 C r dx B w H e0 l H' j' e fs us/\aD w j'=e.cps++(pend fs++l),fun σ' H' z=>z,?_⟩⟩
     have tk1:TK Hy (upd Hy r (rdO C dx w (j' + 1))):=aZ S.rd (fun _ z=>nomatch z)
     have bg1:(upd Hy r (rdO C dx w (j' + 1))) B=some (.lst us.reverse):=by rw [aj Br]; exact S.bg
     have rd1:(upd Hy r (rdO C dx w (j' + 1))) r=some (rdO C dx w (j' + 1)):=ae
     have kp1:Kp r H (upd Hy r (rdO C dx w (j' + 1))):=S.kp.self
     generalize upd Hy r (rdO C dx w (j' + 1))=H3 at tk1 bg1 rd1 kp1 ⊢
     have tk2:TK H3 (upd H3 B (.lst (us.reverse++[.bq]))):=aZ bg1 (fun _ z=>nomatch z)
     refine ⟨_,rfl,.inl ⟨rfl,_,aw.of bg1⟩,B,_,_,rfl,rfl,bg1,Ho (show _<=4000 by rw [IF]; omega) (by decide),?_⟩
     refine ⟨w.length - (j' + 1),by omega,o2,j' + 1,a,.L k b :: fs,.bq :: us,rfl,rfl,by omega,⟨(aj Br.symm).trans rd1,by omega,?_,.cons rfl (Paired.imp (fun f u z=>iZ.keep (tk1.trans tk2) z) S.pr),?_,ga,S.pl,fun b o hb nb=>by rw [aj (ai hb hB)]; exact kp1 b o hb nb⟩,hr3⟩
     · rw [HH]
       exact ae
     · intro f hf
       rcases List.mem_cons.mp hf with z | z
       · rw [z]; exact ⟨hk,gb⟩
       · exact S.fg f z
theorem tW {C aSS:Addr}(s:Src K mg "read_sum" sRSum)(R5:iD K C)(m_len:mg "len"=none)(hSS:mg "SIGN_SUMS"=some (.ref aSS))(dSS:cQ w K aSS ssL)(SI:bh P w K mg base C "sign" ["self"] 1 (bu C))(TA:bh P w K mg base C "taken" ["self","sign"] 2 (di C))(DU:bh P w K mg base C "due" ["self","sign"] 3 (gW C))(RA0:aJ P w K mg base "read_atom" ["reader"] 4 (iP C)):aJ P w K mg base "read_sum" ["reader"] 6 (gZ C):=
 let ⟨f,fd,F,m⟩:=s
 ⟨f,fd,xG F R5 m_len hSS dSS SI TA DU RA0,F.kp,cT F fun _ _ _ _ _ _ _=>rfl,m⟩
end
end TW
set_option Elab.async false
set_option linter.all false
set_option maxRecDepth 100000
set_option exponentiation.threshold 4000
set_option maxHeartbeats 1000000
namespace TW
open PySem L2
section
variable {P:Program}{w:World}{K:GP}{mg:Str->Option Value}{base:Heap}
abbrev sRTest:Stmt:=top 41
/-! ### read_test -/
def i3 (l:List Nat):Prop:=∀c,l.head? = some c->¬ (48<=c/\c<=57)/\¬ (97<=c/\c < 123)/\c≠61/\c≠60
theorem i3.one {l:List Nat}(h:i3 l):Stop l:=fun c hc=>⟨(h c hc).1,(h c hc).2.1⟩
inductive E.Leaf:E->Prop
 | yes:E.Leaf .yes
 | same {a b:E}:E.Leaf (.two .same a b)
 | under {a b:E}:E.Leaf (.two .under a b)
structure cx (e:E):Prop where
 is:e.isC
 ok:e.okN dJ
abbrev stL:List (Str×V):=[("=",.str "same"),("<",.str "under")]
theorem yJ {l:List Nat}(h:i3 l):stL.lookup (SN (l.take 1))=none:=by
 have e1:("=":Str)=SN [61]:=by decide +kernel
 have e2:("<":Str)=SN [60]:=by decide +kernel
 have n1:SN (l.take 1)≠"=":=fun z=>by
   rw [e1] at z
   have z:=eX z
   cases l with
   | nil=>cases z
   | cons c r=>
     injection z with z _
     exact (h c rfl).2.2.1 z
 have n2:SN (l.take 1)≠"<":=fun z=>by
   rw [e2] at z
   have z:=eX z
   cases l with
   | nil=>cases z
   | cons c r=>
     injection z with z _
     exact (h c rfl).2.2.2 z
 rw [Iq,beq_eq_false_iff_ne.mpr n1,Iq,beq_eq_false_iff_ne.mpr n2]
 rfl
theorem pX {k:K2}(h:k=.same\/k=.under):stL.lookup (SN [k.sg])=some (.str k.str):=by
 rcases h with rfl | rfl <;> decide +kernel
theorem lO:dJ "yes":=⟨by decide,by decide,by decide +kernel⟩
theorem cZ {k:K2}{a b:E}(h:k=.same\/k=.under):(E.two k a b).cps=a.cps++(k.sg :: b.cps):=by
 have e:(E.two k a b).txt=a.txt++k.sign++b.txt:=by rcases h with rfl | rfl <;> rfl
 unfold E.cps
 rw [e,br,br,k.sign_sg,dk]
 simp
def iS (C:Addr):Sp:=fun vs H Q _=>∃(r dx:Addr) (w:Str) (i:Nat) (e:E) (l:List Nat),vs=[.ref r]/\H r=some (rdO C dx w i)/\i<=w.length/\w.length<=4000/\e.Leaf/\cx e/\aD w i=e.cps++l/\i3 l/\∀(v:V) (H':Hp),Kp r H H'->H' r=some (rdO C dx w (i + e.cps.length))->bL H' v e->Q v H'
theorem l6:aq ["reader","told","kind"] ["reader"] (af sRTest):=⟨rfl,rfl,rfl,by decide +kernel,rfl,by decide +kernel,by decide +kernel⟩
theorem cG:(af sRTest).names.lookup (GQ "SIGN_TESTS")=some .globalImplicit:=by decide +kernel
theorem dz:(af sRTest).names.lookup (GQ "read_sum")=some .globalImplicit:=by decide +kernel
theorem uV {C aST:Addr}{f:Addr}{fd:FuncData}(F:bI K "read_test" "read_test" sRTest f fd)(R5:iD K C)(hST:mg "SIGN_TESTS"=some (.ref aST))(dST:cQ w K aST stL)(SI0:bh P w K mg base C "sign" ["self"] 1 (bu C))(RS0:aJ P w K mg base "read_sum" ["reader"] 6 (gZ C)):aL P w K mg base CX0 7 f fd ["reader"] (iS C):=by
 refine F.ok l6 (fun vs H Q E h=>?_) (fun cdv A outer s H vs Q E hr h=>?_)
 · obtain ⟨r,dx,w,i,e,l,rfl,_⟩:=h
   rfl
 · have SI:=SI0.mono (show 1<=6 by decide)
   have RS:=RS0
   obtain ⟨r,dx,w,i,e,l,rfl,hr0,hi,hw4,lf,g0,hl,st,q⟩:=h
   have hw:w.length<=sizeLine:=GY hw4 (by decide)
   refine cH ⟨_,(K6 (Ld 1 l6.nd (K9 RS hr dz (K1 (K0 0) K3)))
     (K6 (Lf (Lb L3.C3 (LK (K0 0) R5.c SI hr) (Lz (w:=.ref aST) cG hST rfl) (by rfl)) (K6 (Ld 2 l6.nd (L3.kg (Lz (w:=.ref aST) cG hST rfl) (LK (K0 0) R5.c SI hr)))
     (K6 (Mn (K0 0) K4)
     (K8 (Lc (Lg (K1 (K0 2) (K1 (K0 1) (K1 (K9 RS hr dz (K1 (K0 0) K3)) K3)))))))) Lh)
     (K6 (Lf (Lb (Mj (m:=2) (cO hr _ (by decide))) (K0 1) (Lg (K1 K7 (K1 K7 K3)))) LC Lh)
     (K8 (Lc (Lg (K1 K7 K3))))))),?_⟩
   refine ar fun Rk kR=>?_
   have lf2:e=.yes\/∃(k:K2) (a b:TW.E),(k=.same\/k=.under)/\e=.two k a b/\fq a/\fq b:=by
     cases lf with
     | yes=>exact .inl rfl
     | @same a b=>exact .inr ⟨.same,a,b,.inl rfl,rfl,⟨g0.is.1,g0.ok.1⟩,⟨g0.is.2,g0.ok.2⟩⟩
     | @under a b=>exact .inr ⟨.under,a,b,.inr rfl,rfl,⟨g0.is.1,g0.ok.1⟩,⟨g0.is.2,g0.ok.2⟩⟩
   rcases lf2 with rfl | ⟨k,a,b,hk,rfl,ga,gb⟩
   · have hl1:aD w i=(TW.E.box "box" "yes").cps++l:=hl
     refine ⟨_,rfl,r,dx,w,i,.box "box" "yes",l,rfl,hr0,hi,hw4,⟨trivial,rfl,lO⟩,hl1,st.one,fun v1 H1 k1 r1 e1=>?_⟩
     obtain ⟨hr2,hle2⟩:=dg hl1 hi
     obtain ⟨p1,rfl,hp1⟩:=e1
     refine ao ?_
     refine kR _ _ ?_
     refine aB [some (.ref r),some (.ref p1),none] rfl ?_
     refine ar fun Rk kR=>?_
     refine ⟨_,rfl,r,dx,_,rfl,r1,rfl,r,dx,w,_,rfl,r1,hle2,hw,_,aST,stL,rfl,rfl,dST,_,rfl,?_⟩
     rw [hr2,yJ st]
     refine iteF' rfl ?_
     refine kR _ _ ?_
     refine ar fun Rk kR=>?_
     refine ⟨_,rfl,Nu,fun p hp=>?_⟩
     have s2:=ag hp (.tup [.str "box",.str "yes"])
     have g2:(upd H1 p (.tup [.str "box",.str "yes"])) p=some (.tup [.str "box",.str "yes"]):=ae
     have kp2:=k1.new (o:=.tup [.str "box",.str "yes"]) hp
     generalize upd H1 p (.tup [.str "box",.str "yes"])=H2 at s2 g2 kp2 ⊢
     refine ⟨true,RB.tup (aC.of (s2 _ _ hp1)) (aC.of g2) rfl (fun j x y hx hy=>?_),_,rfl,iteF' rfl ?_⟩
     · match j,hx,hy with
       | 0,hx,hy=>cases hx; cases hy; exact ET.refl (.inl rfl)
       | 1,hx,hy=>cases hx; cases hy; exact ET.refl (.inl rfl)
     refine kR _ _ ?_
     refine ⟨Nt,fun p3 hp3=>?_⟩
     refine q (.ref p3) _ (kp2.new hp3) ?_ ⟨p3,rfl,ae⟩
     rw [aj (fun z=>by rw [← z,s2 _ _ r1] at hp3; cases hp3)]
     exact s2 _ _ r1
   · rw [cZ hk,Il] at hl
     refine ⟨_,rfl,r,dx,w,i,a,_,rfl,hr0,hi,hw4,ga,hl,(fun c hc=>?_),fun v1 H1 k1 r1 e1=>?_⟩
     · have:some k.sg=some c:=hc
       injection this with this
       rw [← this]
       rcases hk with rfl | rfl <;> exact ⟨by decide,by decide⟩
     have hl1:aD w i=a.cps++(k.sg :: (b.cps++l)):=hl
     obtain ⟨hr2,hle2⟩:=dg hl1 hi
     obtain ⟨hr3,hlt3⟩:=bF hr2
     have h1:(aD w (i + a.cps.length)).take 1=[k.sg]:=by rw [hr2]; rfl
     refine ao ?_
     refine kR _ _ ?_
     refine aB [some (.ref r),some v1,none] rfl ?_
     refine ar fun Rk kR=>?_
     refine ⟨_,rfl,r,dx,_,rfl,r1,rfl,r,dx,w,_,rfl,r1,hle2,hw,_,aST,stL,rfl,rfl,dST,_,rfl,?_⟩
     rw [h1,pX hk]
     refine bt ?_
     refine ar fun Rk2 kR2=>?_
     refine ⟨_,rfl,r,dx,_,rfl,r1,rfl,r,dx,w,_,rfl,r1,hle2,hw,aST,_,.str k.str,stL,rfl,rfl,dST,by rw [h1]; exact pX hk,?_⟩
     refine ao ?_
     refine kR2 _ _ ?_
     refine aB [some (.ref r),some v1,some (.str k.str)] rfl ?_
     refine ar fun Rk3 kR3=>?_
     refine ⟨_,rfl,r,C,dx,_,_,rfl,r1,R5.c,R5.p,rfl,_,_,rfl,rfl,dx,_,r1,(by show 2 < 1000; decide),?_⟩
     have tk1:TK H1 (upd H1 r (rdO C dx w (i + a.cps.length + 1))):=aZ r1 (fun _ z=>nomatch z)
     have r2:(upd H1 r (rdO C dx w (i + a.cps.length + 1))) r=some (rdO C dx w (i + a.cps.length + 1)):=ae
     have k2:Kp r H (upd H1 r (rdO C dx w (i + a.cps.length + 1))):=k1.self
     refine kR3 _ (upd H1 r (rdO C dx w (i + a.cps.length + 1))) ?_
     generalize upd H1 r (rdO C dx w (i + a.cps.length + 1))=H2 at tk1 r2 k2 ⊢
     refine ⟨_,rfl,_,rfl,_,rfl,r,dx,w,i + a.cps.length + 1,b,l,rfl,r2,by omega,hw4,gb,hr3,st.one,fun v2 H3 k3 r3 e3=>?_⟩
     refine ⟨Nv,fun p hp=>?_⟩
     have s4:=ag hp (.tup [.str k.str,v1,v2])
     refine q (.ref p) _ ((k2.trans k3).new hp) ?_ ?_
     · rw [aj (fun z=>by rw [← z,r3] at hp; cases hp),r3,cZ hk]
       rw [GU,G5,show i + (a.cps.length + (b.cps.length + 1))=i + a.cps.length + 1 + b.cps.length by omega]
     · refine ⟨v1,v2,⟨p,rfl,ae⟩,?_,e3.keep (ah.tk s4)⟩
       exact ((e1.keep tk1).keep (Kp.rd k3 r2)).keep (ah.tk s4)
theorem qN {C aST:Addr}(s:Src K mg "read_test" sRTest)(R5:iD K C)(hST:mg "SIGN_TESTS"=some (.ref aST))(dST:cQ w K aST stL)(SI0:bh P w K mg base C "sign" ["self"] 1 (bu C))(RS0:aJ P w K mg base "read_sum" ["reader"] 6 (gZ C)):aJ P w K mg base "read_test" ["reader"] 7 (iS C):=
 let ⟨f,fd,F,m⟩:=s
 ⟨f,fd,uV F R5 hST dST SI0 RS0,F.kp,cT F fun _ _ _ _ _ _ _=>rfl,m⟩
end
end TW
set_option Elab.async false
set_option linter.all false
set_option maxRecDepth 100000
set_option exponentiation.threshold 4000
set_option maxHeartbeats 1000000
namespace TW
open PySem L2
section
variable {P:Program}{w:World}{K:GP}{mg:Str->Option Value}{base:Heap}
abbrev sRCond:Stmt:=top 42
/-! ### read_condition -/
theorem uC {a b c:Expr}{p:Pos}:bG (.IfExp a b c p):=⟨fun _ _=>rfl⟩
theorem cx.cases {e:E}(h:cx e):e.Leaf\/(∃a,e=.nt a/\cx a)\/∃a b,e=.two .both a b/\cx a/\cx b:=by
 obtain ⟨is,ok⟩:=h
 match e,is,ok with
 | .yes,_,_=>exact .inl .yes
 | .two .same _ _,_,_=>exact .inl .same
 | .two .under _ _,_,_=>exact .inl .under
 | .nt a,is,ok=>exact .inr (.inl ⟨a,rfl,is,ok⟩)
 | .two .both a b,is,ok=>exact .inr (.inr ⟨a,b,rfl,⟨is.1,ok.1⟩,⟨is.2,ok.2⟩⟩)
theorem C1:("!":Str).cps.toList=[33]:=by decide +kernel
theorem CZ:("{":Str).cps.toList=[123]:=by decide +kernel
theorem DN:("}":Str).cps.toList=[125]:=by decide +kernel
theorem CA:("&":Str).cps.toList=[38]:=by decide +kernel
theorem sC {a:E}:(E.nt a).cps=33 :: a.cps:=by
 unfold E.cps
 rw [show (E.nt a).txt="!"++a.txt from rfl,br,C1]
 rfl
theorem mK {a b:E}:(E.two .both a b).cps=123 :: (a.cps++(38 :: (b.cps++[125]))):=by
 have e:(E.two .both a b).txt="{"++(a.txt++"&"++b.txt)++"}":=rfl
 unfold E.cps
 rw [e,br,br,br,br,CZ,DN,CA]
 simp
theorem nr {e:E}(h:fq e)(l:List Nat):∃c r,e.cps++l=c :: r/\c≠33/\c≠123:=by
 rcases h.cases with a | ⟨k,a,b,hk,rfl,_,_⟩
 · obtain ⟨c,r,e1,e2⟩:=eD a h.ok l
   exact ⟨c,r,e1,by omega,by omega⟩
 · rw [iF hk]
   exact ⟨40,_,rfl,by decide,by decide⟩
theorem kP {e:E}(h:e.Leaf)(g:cx e)(l:List Nat):∃c r,e.cps++l=c :: r/\c≠33/\c≠123:=by
 cases h with
 | yes=>exact eD (e:=.box "box" "yes") .box ⟨rfl,lO⟩ l |>.elim fun c ⟨r,h1,h2⟩=>⟨c,r,h1,by omega,by omega⟩
 | @same a b=>
   rw [cZ (.inl rfl),Il]
   exact nr ⟨g.is.1,g.ok.1⟩ _
 | @under a b=>
   rw [cZ (.inr rfl),Il]
   exact nr ⟨g.is.1,g.ok.1⟩ _
inductive Fc where
 | N | L (b:E) | R (a:E)
def pK:List Fc->E->E
 | [],e=>e
 | .N :: fs,e=>pK fs (.nt e)
 | .L b :: fs,e=>pK fs (.two .both e b)
 | .R a :: fs,e=>pK fs (.two .both a e)
def bJ:List Fc->List Nat
 | []=>[]
 | .N :: fs=>bJ fs
 | .L b :: fs=>38 :: (b.cps++(125 :: bJ fs))
 | .R _ :: fs=>125 :: bJ fs
def eK (H:Hp):Fc->V->Prop
 | .N,v=>Tp H v [.str "not"]
 | .L _,v=>v=.bq
 | .R a,v=>∃u,Tp H v [.str "both",u]/\bL H u a
theorem eK.keep {H H':Hp}(k:TK H H'):∀{f:Fc} {v:V},eK H f v->eK H' f v
 | .N,_,h=>Tp.keep k h
 | .L _,_,h=>h
 | .R _,_,⟨u,a,b⟩=>⟨u,a.keep k,b.keep k⟩
def F6:Fc->Prop
 | .N=>True
 | .L b=>cx b
 | .R a=>cx a
theorem jS {l:List Nat}(hl:i3 l):∀{fs:List Fc},i3 (bJ fs++l)
 | []=>hl
 | .N :: fs=>jS hl (fs:=fs)
 | .L b :: fs=>fun c hc=>by
   have e:c=38:=by
     have:some 38=some c:=hc
     injection this with this
     exact this.symm
   rw [e]
   decide
 | .R _ :: fs=>fun c hc=>by
   have e:c=125:=by
     have:some 125=some c:=hc
     injection this with this
     exact this.symm
   rw [e]
   decide
theorem oz:("!":Str)=SN [33]:=by decide +kernel
theorem An:("{":Str)=SN [123]:=by decide +kernel
theorem BD:("}":Str)=SN [125]:=by decide +kernel
theorem zI:("&":Str)=SN [38]:=by decide +kernel
theorem ud {c:Nat}:om (.str (SN [c])) [.str "!",.str "{"]=(decide (c=33) || decide (c=123)):=by
 show ((("!":Str) == SN [c]) || ((("{":Str) == SN [c]) || false))=_
 rw [oz,An,Bool.or_false]
 have h:∀d:Nat,(SN [d] == SN [c])=decide (c=d):=fun d=>by
   by_cases z:c=d
   · rw [z,beq_self_eq_true,decide_eq_true rfl]
   · rw [beq_eq_false_iff_ne.mpr (fun k=>z (by injection eX k with k _; exact k.symm)),decide_eq_false z]
 rw [h,h]
def iQ (C:Addr):Sp:=fun vs H Q _=>∃(r dx:Addr) (w:Str) (i:Nat) (e:E) (l:List Nat),vs=[.ref r]/\H r=some (rdO C dx w i)/\i<=w.length/\w.length<=4000/\cx e/\aD w i=e.cps++l/\i3 l/\∀(v:V) (H':Hp),Kp r H H'->H' r=some (rdO C dx w (i + e.cps.length))->bL H' v e->Q v H'
structure dv (C r dx B:Addr)(w:Str)(H:Hp)(e0:E)(l:List Nat)(Hx:Hp)(j:Nat)(e:E)(fs:List Fc)(us:List V):Prop where
 rd:Hx r=some (rdO C dx w j)
 jl:j<=w.length
 fl:fs.length<=j
 bg:Hx B=some (.lst us.reverse)
 pr:Paired (eK Hx) fs us
 fg:∀f∈fs,F6 f
 eg:cx e
 pl:pK fs e=e0
 kp:Kp r H Hx
theorem dv.same {C r dx B:Addr}{w:Str}{H:Hp}{e0:E}{l:List Nat}{Hx Hy:Hp}{j:Nat}{e:E}{fs:List Fc}{us:List V}(h:dv C r dx B w H e0 l Hx j e fs us)(s:ah Hx Hy):dv C r dx B w H e0 l Hy j e fs us:=⟨s _ _ h.rd,h.jl,h.fl,s _ _ h.bg,Paired.imp (fun f u z=>eK.keep (ah.tk s) z) h.pr,h.fg,h.eg,h.pl,h.kp.same s⟩
theorem iM:aq ["reader","begun","told"] ["reader"] (af sRCond):=⟨rfl,rfl,rfl,by decide +kernel,rfl,by decide +kernel,by decide +kernel⟩
theorem jr:(af sRCond).names.lookup (GQ "len")=some .globalImplicit:=by decide +kernel
theorem gP:(af sRCond).names.lookup (GQ "read_test")=some .globalImplicit:=by decide +kernel
theorem uQ {C:Addr}{f:Addr}{fd:FuncData}(F:bI K "read_condition" "read_condition" sRCond f fd)(R5:iD K C)(m_len:mg "len"=none)(SI0:bh P w K mg base C "sign" ["self"] 1 (bu C))(DU0:bh P w K mg base C "due" ["self","sign"] 3 (gW C))(RT0:aJ P w K mg base "read_test" ["reader"] 7 (iS C)):aL P w K mg base CX0 8 f fd ["reader"] (iQ C):=by
 refine F.ok iM (fun vs H Q E h=>?_) (fun cdv A outer s H vs Q E hr h=>?_)
 · obtain ⟨r,dx,w,i,e,l,rfl,_⟩:=h
   rfl
 · have SI:=SI0.mono (show 1<=7 by decide)
   have DU:=DU0.mono (show 3<=7 by decide)
   have RT:=RT0
   obtain ⟨r,dx,w,i,e0,l,rfl,hr0,hi,hw4,g0,hl,st,q⟩:=h
   have hw:w.length<=sizeLine:=GY hw4 (by decide)
   refine cH ⟨_,(K6 (Ld 1 iM.nd (Lj K3))
     (K8 (L6 (LQ LL) (K6 (L6 (Lb L3.xo (LK (K0 0) R5.c SI hr) (Lg (K1 K7 (K1 K7 K3))) (by rfl)) (K6 (LA (LS (K0 1) (K1 (Mi (Lb Ll (LK (K0 0) R5.c SI hr) K7) (Lg (K1 K7 K3)) Mo) K3 uC)))
     (K8 (Mn (K0 0) K4))))
     (K6 (Ld 2 iM.nd (K9 RT hr gP (K1 (K0 0) K3)))
     (K6 (L6 (Lv (LO (Lb Me (Lm Lp jr m_len G1 (K1 (K0 1) K3)) K4) (LP (Lb L3.uJ (La Lq (K0 1) (Mp K4)) Mo)))) (K6 (Lf (Lb (Mj (m:=2) (cO hr _ (by decide))) (La Lq (K0 1) (Mp K4)) (Lg (K1 K7 K3))) (K8 (LA (Md (K0 0) R5.c DU hr (K1 K7 K3)))) Lh)
     (K8 (Ld 2 iM.nd (K5 L3.lT (L3.Dy (K0 1)) (Lg (K1 (K0 2) K3)))))))
     (K6 (Lf (Lb Ll (Lm Lp jr m_len G1 (K1 (K0 1) K3)) K4) (K8 (Lc (K0 2))) Lh)
     (K6 (LA (Md (K0 0) R5.c DU hr (K1 K7 K3)))
     (K8 (Mb (Lg (K1 K7 (K1 (K0 2) K3))) (L3.yV (K0 1) (Mp K4)))))))))))),?_⟩
   refine ar fun Rk kR=>?_
   refine ⟨Nr,fun B hB=>?_⟩
   have Br:B≠r:=fun z=>by rw [z,hr0] at hB; cases hB
   refine ao ?_
   refine kR _ _ ?_
   refine ⟨fun (d:Nat) (σ:L2.St) (Hx:Hp)=>∃(o2:Option V) (j:Nat) (e:TW.E) (fs:List Fc) (us:List V),σ=[some (.ref r),some (.ref B),o2]/\d=w.length - j/\dv C r dx B w H e0 l Hx j e fs us/\aD w j=e.cps++(bJ fs++l),⟨w.length - i,none,i,e0,[],[],rfl,rfl,⟨by rw [aj Br.symm]; exact hr0,hi,HD _,ae,.nil,(fun f hf=>nomatch hf),g0,rfl,(Kp.refl H).new hB⟩,hl⟩,fun d σ Hx z=>?_⟩
   obtain ⟨o2,j,e,fs,us,rfl,rfl,S,hrest⟩:=z
   refine ⟨_,rfl,bt ⟨fun σ' H'=>∃d',d' < w.length - j/\(fun (d:Nat) (σ:L2.St) (Hx:Hp)=>∃(o2:Option V) (j:Nat) (e:TW.E) (fs:List Fc) (us:List V),σ=[some (.ref r),some (.ref B),o2]/\d=w.length - j/\dv C r dx B w H e0 l Hx j e fs us/\aD w j=e.cps++(bJ fs++l)) d' σ' H',fun σ' H' z=>z,?_⟩⟩
   refine ar fun Rk kR=>?_
   refine ⟨fun (d:Nat) (σ:L2.St) (Hx:Hp)=>∃(o2:Option V) (j':Nat) (e:TW.E) (fs:List Fc) (us:List V),σ=[some (.ref r),some (.ref B),o2]/\d=w.length - j'/\j<=j'/\dv C r dx B w H e0 l Hx j' e fs us/\aD w j'=e.cps++(bJ fs++l),⟨w.length - j,o2,j,e,fs,us,rfl,rfl,GX _,S,hrest⟩,fun d σ Hy z=>?_⟩
   obtain ⟨o2,j',e,fs,us,rfl,rfl,jj,S,hrest⟩:=z
   have ul:=Paired.length S.pr
   refine ⟨_,rfl,r,dx,_,rfl,S.rd,rfl,r,dx,w,j',rfl,S.rd,S.jl,hw,?_⟩
   refine ⟨Nu,fun t0 ht0=>?_⟩
   have st0:=ag ht0 (.tup [.str "!",.str "{"])
   have gt0:(upd Hy t0 (.tup [.str "!",.str "{"])) t0=some (.tup [.str "!",.str "{"]):=ae
   generalize upd Hy t0 (.tup [.str "!",.str "{"])=Hy' at st0 gt0 ⊢
   replace S:=S.same st0
   clear ht0 st0
   refine ⟨t0,_,rfl,.inr (aC.of gt0),rfl,rfl,_,rfl,?_⟩
   clear gt0
   rcases S.eg.cases with km | ⟨a,rfl,ga⟩ | ⟨a,b,rfl,ga,gb⟩
   · obtain ⟨c,r',hc,hd1,hd2⟩:=kP km S.eg (bJ fs++l)
     have h1:(aD w j').take 1=[c]:=by rw [hrest,hc]; rfl
     rw [h1,ud,decide_eq_false hd1,decide_eq_false hd2]
     refine iteF' rfl ?_
     refine kR _ _ ?_
     refine ar fun Rk kR=>?_
     refine ⟨_,rfl,r,dx,w,j',e,bJ fs++l,rfl,S.rd,S.jl,hw4,km,S.eg,hrest,jS st,fun v Ha ka ra ev=>?_⟩
     have clen:0 < e.cps.length:=by
       obtain ⟨c1,r1,h1,h2⟩:=kP km S.eg []
       rw [Hm] at h1
       rw [h1]
       exact Iz _
     obtain ⟨hr2,hle2⟩:=dg hrest S.jl
     refine ao ?_
     refine kR _ _ ?_
     refine aB [some (.ref r),some (.ref B),some v] rfl ?_
     have SA:dv C r dx B w H e0 l Ha (j' + e.cps.length) e fs us:=⟨ra,hle2,by have:=S.fl; omega,ka _ _ S.bg Br,Paired.imp (fun f u z=>eK.keep (Kp.rd ka S.rd) z) S.pr,S.fg,S.eg,S.pl,S.kp.trans ka⟩
     obtain ⟨j0,ej0⟩ : ∃j0,j0=j:=⟨_,rfl⟩
     refine ar fun Rk kR=>?_
     refine ⟨fun (d:Nat) (σ:L2.St) (Hx:Hp)=>∃(v:V) (j:Nat) (e:TW.E) (fs:List Fc) (us:List V),σ=[some (.ref r),some (.ref B),some v]/\d=fs.length/\dv C r dx B w H e0 l Hx j e fs us/\aD w j=bJ fs++l/\bL Hx v e/\j0 < j,⟨fs.length,v,_,e,fs,us,rfl,rfl,SA,hr2,ev,by omega⟩,fun d σ Hz z=>?_⟩
     clear ul hrest S hc hd1 hd2 km SA ev ra ka hr2 hle2 clen h1
     obtain ⟨v,j2,e,fs,us,rfl,rfl,S,hrest,ev,jlt⟩:=z
     have ul:=Paired.length S.pr
     have lrev:us.reverse.length=fs.length:=by rw [IF,← ul]
     refine ⟨_,rfl,B,_,rfl,.inl (aw.of S.bg),_,_,rfl,rfl,_,rfl,?_⟩
     match fs,us,S,hrest,ul,lrev with
     | [],[],S,hrest,ul,lrev=>
       refine iteF' (by decide) (aX ?_)
       refine kR _ _ ?_
       refine ar fun Rk kR=>?_
       refine ⟨_,rfl,B,_,rfl,.inl (aw.of S.bg),rfl,_,rfl,?_⟩
       refine bt ?_
       have e1:e=e0:=S.pl
       have hj:j2=i + e0.cps.length:=by
         have h1:=cn w j2
         have h2:=cn w i
         rw [hrest] at h1
         rw [hl,GU] at h2
         have h1:l.length=w.length - j2:=h1
         have:=S.jl
         omega
       refine ⟨_,rfl,q v Hz S.kp (by rw [← hj]; exact S.rd) (by rw [← e1]; exact ev)⟩
     | .N :: fs,u :: us,S,hrest,ul,lrev=>
       obtain ⟨pa,rfl,hpa⟩ : eK Hz .N u:=by cases S.pr with | cons h _=>exact h
       have pr2:Paired (eK Hz) fs us:=by cases S.pr with | cons _ h=>exact h
       have bg:=S.bg
       rw [HH] at bg
       rw [HH]
       refine aH (fun _=>?_) (fun z=>absurd (decide_eq_true (by rw [GU,Hq]; omega)) z)
       refine ⟨_,rfl,_,rfl,B,_,_,_,rfl,rfl,aw.of bg,cb _ _,rfl,_,rfl,?_⟩
       refine aH (fun _=>?_) (fun z=>absurd (by rfl) z)
       refine ⟨fun σ' H'=>∃d',d' < fs.length + 1/\(fun (d:Nat) (σ:L2.St) (Hx:Hp)=>∃(v:V) (j:Nat) (e:TW.E) (fs:List Fc) (us:List V),σ=[some (.ref r),some (.ref B),some v]/\d=fs.length/\dv C r dx B w H e0 l Hx j e fs us/\aD w j=bJ fs++l/\bL Hx v e/\j0 < j) d' σ' H',fun σ' H' z=>z,?_⟩
       refine ar fun Rk2 kR2=>?_
       refine ⟨_,rfl,_,rfl,B,_,_,_,rfl,rfl,aw.of bg,cb _ _,Nt,fun t1 ht1=>?_⟩
       have st1:=ag ht1 (.tup [.str "not"])
       have gt1:(upd Hz t1 (.tup [.str "not"])) t1=some (.tup [.str "not"]):=ae
       generalize upd Hz t1 (.tup [.str "not"])=Hw at st1 gt1 ⊢
       have S1:=S.same st1
       refine ⟨true,RB.tup (aC.of (st1 _ _ hpa)) (aC.of gt1) rfl (fun j x y hx hy=>?_),_,rfl,iteF' rfl ?_⟩
       · match j,hx,hy with
         | 0,hx,hy=>cases hx; cases hy; exact ET.refl (.inl rfl)
       refine kR2 _ _ ?_
       have bg1:=st1 _ _ bg
       refine ⟨_,rfl,.inl ⟨rfl,_,aw.of bg1⟩,B,_,_,rfl,rfl,bg1,ju _ _,_,rfl,Nt,fun q1 hq1=>?_⟩
       rw [JI] at hq1 ⊢
       have tk2:TK Hw (upd Hw B (.lst us.reverse)):=aZ bg1 (fun _ z=>nomatch z)
       have rd2:(upd Hw B (.lst us.reverse)) r=some (rdO C dx w j2):=by rw [aj Br.symm]; exact S1.rd
       have bg2:(upd Hw B (.lst us.reverse)) B=some (.lst us.reverse):=ae
       have kp2:Kp r H (upd Hw B (.lst us.reverse)):=fun b o hb nb=>by rw [aj (ai hb hB)]; exact S1.kp b o hb nb
       generalize upd Hw B (.lst us.reverse)=H4 at tk2 rd2 bg2 kp2 hq1 ⊢
       have s5:=ag hq1 (.tup [v])
       have g5:(upd H4 q1 (.tup [v])) q1=some (.tup [v]):=ae
       generalize upd H4 q1 (.tup [v])=H5 at s5 g5 ⊢
       have tk5:=((ah.tk st1).trans tk2).trans (ah.tk s5)
       refine ⟨pa,q1,_,_,rfl,rfl,aC.of (tk5 _ _ hpa),aC.of g5,(fun z=>nomatch z),Nu,(fun z=>nomatch z),fun _ p hp=>?_⟩
       have s6:=ag hp (.tup [.str "not",v])
       have tk6:=tk5.trans (ah.tk s6)
       refine ao ?_
       exact ⟨fs.length,Iu _,.ref p,j2,.nt e,fs,us,rfl,rfl,⟨s6 _ _ (s5 _ _ rd2),S.jl,by have:fs.length + 1<=j2:=S.fl; omega,s6 _ _ (s5 _ _ bg2),Paired.imp (fun f u z=>eK.keep tk6 z) pr2,fun f hf=>S.fg f (G0 _ hf),⟨S.eg.is,S.eg.ok⟩,S.pl,(kp2.same s5).same s6⟩,hrest,⟨v,⟨p,rfl,ae⟩,ev.keep tk6⟩,jlt⟩
     | .R a :: fs,u :: us,S,hrest,ul,lrev=>
       obtain ⟨va,⟨pa,rfl,hpa⟩,ea⟩ : eK Hz (.R a) u:=by cases S.pr with | cons h _=>exact h
       have pr2:Paired (eK Hz) fs us:=by cases S.pr with | cons _ h=>exact h
       have fgk:cx a:=S.fg _ GZ
       have bg:=S.bg
       rw [HH] at bg
       rw [HH]
       refine aH (fun _=>?_) (fun z=>absurd (decide_eq_true (by rw [GU,Hq]; omega)) z)
       refine ⟨_,rfl,_,rfl,B,_,_,_,rfl,rfl,aw.of bg,cb _ _,rfl,_,rfl,?_⟩
       refine aH (fun _=>?_) (fun z=>absurd (by rfl) z)
       refine ⟨fun σ' H'=>∃d',d' < fs.length + 1/\(fun (d:Nat) (σ:L2.St) (Hx:Hp)=>∃(v:V) (j:Nat) (e:TW.E) (fs:List Fc) (us:List V),σ=[some (.ref r),some (.ref B),some v]/\d=fs.length/\dv C r dx B w H e0 l Hx j e fs us/\aD w j=bJ fs++l/\bL Hx v e/\j0 < j) d' σ' H',fun σ' H' z=>z,?_⟩
       refine ar fun Rk2 kR2=>?_
       have hrest:aD w j2=125 :: (bJ fs++l):=hrest
       obtain ⟨hr3,hlt3⟩:=bF hrest
       refine ⟨_,rfl,_,rfl,B,_,_,_,rfl,rfl,aw.of bg,cb _ _,Nt,fun t1 ht1=>?_⟩
       have st1:=ag ht1 (.tup [.str "not"])
       have gt1:(upd Hz t1 (.tup [.str "not"])) t1=some (.tup [.str "not"]):=ae
       generalize upd Hz t1 (.tup [.str "not"])=Hw at st1 gt1 ⊢
       have S1:=S.same st1
       refine ⟨false,⟨pa,t1,_,_,rfl,rfl,.inr (.inr ⟨fun _=>false,aC.of (st1 _ _ hpa),aC.of gt1,(fun j x y hx hy=>?_),rfl⟩)⟩,_,rfl,bt ?_⟩
       · match j,hx,hy with
         | 0,hx,hy=>cases hx; cases hy; exact EB.flat (x:=.str "both") (y:=.str "not") rfl rfl
       refine ⟨_,rfl,r,dx,_,rfl,S1.rd,rfl,r,dx,w,j2,125,_,congrArg (fun z=>[V.ref r,V.str z]) BD,S1.rd,S1.jl,hw,hrest,?_⟩
       have bgw:=st1 _ _ bg
       have tk1:TK Hw (upd Hw r (rdO C dx w (j2 + 1))):=aZ S1.rd (fun _ z=>nomatch z)
       have bg1:(upd Hw r (rdO C dx w (j2 + 1))) B=some (.lst (us.reverse++[.ref pa])):=by rw [aj Br]; exact bgw
       have rd1:(upd Hw r (rdO C dx w (j2 + 1))) r=some (rdO C dx w (j2 + 1)):=ae
       have kp1:Kp r H (upd Hw r (rdO C dx w (j2 + 1))):=S1.kp.self
       generalize upd Hw r (rdO C dx w (j2 + 1))=H3 at tk1 bg1 rd1 kp1 ⊢
       refine kR2 _ _ ?_
       refine ⟨_,rfl,.inl ⟨rfl,_,aw.of bg1⟩,B,_,_,rfl,rfl,bg1,ju _ _,_,rfl,Nt,fun q1 hq1=>?_⟩
       rw [JI] at hq1 ⊢
       have tk2:TK H3 (upd H3 B (.lst us.reverse)):=aZ bg1 (fun _ z=>nomatch z)
       have rd2:(upd H3 B (.lst us.reverse)) r=some (rdO C dx w (j2 + 1)):=by rw [aj Br.symm]; exact rd1
       have bg2:(upd H3 B (.lst us.reverse)) B=some (.lst us.reverse):=ae
       have kp2:Kp r H (upd H3 B (.lst us.reverse)):=fun b o hb nb=>by rw [aj (ai hb hB)]; exact kp1 b o hb nb
       generalize upd H3 B (.lst us.reverse)=H4 at tk2 rd2 bg2 kp2 hq1 ⊢
       have s5:=ag hq1 (.tup [v])
       have g5:(upd H4 q1 (.tup [v])) q1=some (.tup [v]):=ae
       generalize upd H4 q1 (.tup [v])=H5 at s5 g5 ⊢
       have tk5:=(((ah.tk st1).trans tk1).trans tk2).trans (ah.tk s5)
       refine ⟨pa,q1,_,_,rfl,rfl,aC.of (tk5 _ _ hpa),aC.of g5,(fun z=>nomatch z),Nv,(fun z=>nomatch z),fun _ p hp=>?_⟩
       have s6:=ag hp (.tup [.str "both",va,v])
       have tk6:=tk5.trans (ah.tk s6)
       refine ao ?_
       exact ⟨fs.length,Iu _,.ref p,j2 + 1,.two .both a e,fs,us,rfl,rfl,⟨s6 _ _ (s5 _ _ rd2),by omega,by have:fs.length + 1<=j2:=S.fl; omega,s6 _ _ (s5 _ _ bg2),Paired.imp (fun f u z=>eK.keep tk6 z) pr2,fun f hf=>S.fg f (G0 _ hf),⟨⟨fgk.is,S.eg.is⟩,fgk.ok,S.eg.ok⟩,S.pl,(kp2.same s5).same s6⟩,hr3,⟨va,v,⟨p,rfl,ae⟩,ea.keep tk6,ev.keep tk6⟩,by omega⟩
     | .L b :: fs,u :: us,S,hrest,ul,lrev=>
       have hu:u=.bq:=by cases S.pr with | cons h _=>exact h
       have pr2:Paired (eK Hz) fs us:=by cases S.pr with | cons _ h=>exact h
       have fgk:cx b:=S.fg _ GZ
       have bg:=S.bg
       rw [HH] at bg
       rw [HH]
       refine aH (fun _=>?_) (fun z=>absurd (decide_eq_true (by rw [GU,Hq]; omega)) z)
       refine ⟨_,rfl,_,rfl,B,_,_,_,rfl,rfl,aw.of bg,cb _ _,rfl,_,rfl,?_⟩
       rw [hu]
       refine iteF' (by decide) ?_
       refine kR _ _ ?_
       refine ar fun Rk kR=>?_
       rw [hu] at bg
       refine ⟨_,rfl,B,_,rfl,.inl (aw.of bg),rfl,_,rfl,?_⟩
       refine iteF' (decide_eq_false (fun z=>by injection z with z; rw [GU,Hq] at z; omega)) ?_
       refine kR _ _ ?_
       have hrest:aD w j2=38 :: (b.cps++(125 :: bJ fs)++l):=by rw [hrest]; simp [bJ]
       obtain ⟨hr3,hlt3⟩:=bF hrest
       refine ar fun Rk kR=>?_
       refine ⟨_,rfl,r,dx,_,rfl,S.rd,rfl,r,dx,w,j2,38,_,congrArg (fun z=>[V.ref r,V.str z]) zI,S.rd,S.jl,hw,hrest,?_⟩
       have tk1:TK Hz (upd Hz r (rdO C dx w (j2 + 1))):=aZ S.rd (fun _ z=>nomatch z)
       have bg1:(upd Hz r (rdO C dx w (j2 + 1))) B=some (.lst (us.reverse++[.bq])):=by rw [aj Br]; exact bg
       have rd1:(upd Hz r (rdO C dx w (j2 + 1))) r=some (rdO C dx w (j2 + 1)):=ae
       have kp1:Kp r H (upd Hz r (rdO C dx w (j2 + 1))):=S.kp.self
       generalize upd Hz r (rdO C dx w (j2 + 1))=H3 at tk1 bg1 rd1 kp1 ⊢
       refine kR _ _ ?_
       refine ⟨_,rfl,Nu,fun q1 hq1=>?_⟩
       have s5:=ag hq1 (.tup [.str "both",v])
       have g5:(upd H3 q1 (.tup [.str "both",v])) q1=some (.tup [.str "both",v]):=ae
       generalize upd H3 q1 (.tup [.str "both",v])=H5 at s5 g5 ⊢
       have bg5:=s5 _ _ bg1
       refine ⟨_,rfl,_,rfl,B,_,_,_,rfl,rfl,bg5,mW _ _,?_⟩
       rw [nj]
       have tk6:TK H5 (upd H5 B (.lst (us.reverse++[.ref q1]))):=aZ bg5 (fun _ z=>nomatch z)
       have rd6:(upd H5 B (.lst (us.reverse++[.ref q1]))) r=some (rdO C dx w (j2 + 1)):=by rw [aj Br.symm]; exact s5 _ _ rd1
       have bg6:(upd H5 B (.lst (us.reverse++[.ref q1]))) B=some (.lst (us.reverse++[.ref q1])):=ae
       have kp6:Kp r H (upd H5 B (.lst (us.reverse++[.ref q1]))):=fun b o hb nb=>by rw [aj (ai hb hB)]; exact s5 _ _ (kp1 b o hb nb)
       generalize upd H5 B (.lst (us.reverse++[.ref q1]))=H6 at tk6 rd6 bg6 kp6 ⊢
       have tk:=(tk1.trans (ah.tk s5)).trans tk6
       refine ⟨w.length - (j2 + 1),by omega,some v,j2 + 1,b,.R e :: fs,.ref q1 :: us,rfl,rfl,⟨rd6,by omega,by have:fs.length + 1<=j2:=S.fl; show fs.length + 1<=j2 + 1; omega,?_,?_,?_,fgk,S.pl,kp6⟩,?_⟩
       · rw [HH]
         exact bg6
       · exact .cons ⟨v,⟨q1,rfl,tk6 _ _ g5⟩,ev.keep tk⟩ (Paired.imp (fun f u z=>eK.keep tk z) pr2)
       · intro f hf
         rcases List.mem_cons.mp hf with z | z
         · rw [z]; exact S.eg
         · exact S.fg f (G0 _ z)
       · rw [hr3,Il]
         rfl
   · have hrest:aD w j'=33 :: (a.cps++(bJ (.N :: fs)++l)):=by
       rw [hrest,sC]
       simp [bJ]
     obtain ⟨hr3,hlt3⟩:=bF hrest
     have h1:(aD w j').take 1=[33]:=by rw [hrest]; rfl
     rw [h1,ud]
     refine bt ⟨fun σ' H'=>∃d',d' < w.length - j'/\(fun (d:Nat) (σ:L2.St) (Hx:Hp)=>∃(o2:Option V) (j':Nat) (e:TW.E) (fs:List Fc) (us:List V),σ=[some (.ref r),some (.ref B),o2]/\d=w.length - j'/\j<=j'/\dv C r dx B w H e0 l Hx j' e fs us/\aD w j'=e.cps++(bJ fs++l)) d' σ' H',fun σ' H' z=>z,?_⟩
     refine ar fun Rk kR=>?_
     refine ⟨_,rfl,.inl ⟨rfl,_,aw.of S.bg⟩,_,rfl,r,dx,_,rfl,S.rd,rfl,r,dx,w,j',rfl,S.rd,S.jl,hw,rfl,_,rfl,?_⟩
     rw [h1]
     refine aH (fun _=>?_) (fun z=>absurd (by rw [oz]; exact decide_eq_true rfl) z)
     refine ⟨Nt,fun t1 ht1=>?_⟩
     have st1:=ag ht1 (.tup [.str "not"])
     have gt1:(upd Hy' t1 (.tup [.str "not"])) t1=some (.tup [.str "not"]):=ae
     generalize upd Hy' t1 (.tup [.str "not"])=H3 at st1 gt1 ⊢
     have bg1:=st1 _ _ S.bg
     have rd1:=st1 _ _ S.rd
     have kp1:=S.kp.same st1
     refine ⟨B,_,_,rfl,rfl,bg1,Ho (show _<=4000 by rw [IF]; have:=S.fl; have:=S.jl; omega) (by decide),?_⟩
     have tk3:TK H3 (upd H3 B (.lst (us.reverse++[V.ref t1]))):=aZ bg1 (fun _ z=>nomatch z)
     have rd3:(upd H3 B (.lst (us.reverse++[V.ref t1]))) r=some (rdO C dx w j'):=by rw [aj Br.symm]; exact rd1
     have bg3:(upd H3 B (.lst (us.reverse++[V.ref t1]))) B=some (.lst (us.reverse++[V.ref t1])):=ae
     have kp3:Kp r H (upd H3 B (.lst (us.reverse++[V.ref t1]))):=fun b o hb nb=>by rw [aj (ai hb hB)]; exact kp1 b o hb nb
     refine kR _ (upd H3 B (.lst (us.reverse++[V.ref t1]))) ?_
     generalize upd H3 B (.lst (us.reverse++[V.ref t1]))=H4 at tk3 rd3 bg3 kp3 ⊢
     refine ⟨_,rfl,r,C,dx,_,_,rfl,rd3,R5.c,R5.p,rfl,_,_,rfl,rfl,dx,_,rd3,(by show 2 < 1000; decide),?_⟩
     have tk4:TK H4 (upd H4 r (rdO C dx w (j' + 1))):=aZ rd3 (fun _ z=>nomatch z)
     have kp4:Kp r H (upd H4 r (rdO C dx w (j' + 1))):=kp3.self
     refine ⟨w.length - (j' + 1),by omega,o2,j' + 1,a,.N :: fs,V.ref t1 :: us,rfl,rfl,by omega,⟨ae,by omega,by have:=S.fl; show fs.length + 1<=j' + 1; omega,by rw [HH]; exact (aj Br).trans bg3,.cons ⟨t1,rfl,tk4 _ _ (tk3 _ _ gt1)⟩ (Paired.imp (fun f u z=>eK.keep (((ah.tk st1).trans tk3).trans tk4) z) S.pr),fun f hf=>?_,ga,S.pl,kp4⟩,hr3⟩
     rcases List.mem_cons.mp hf with z | z
     · rw [z]; exact trivial
     · exact S.fg f z
   · have hrest:aD w j'=123 :: (a.cps++(bJ (.L b :: fs)++l)):=by
       rw [hrest,mK]
       simp [bJ]
     obtain ⟨hr3,hlt3⟩:=bF hrest
     have h1:(aD w j').take 1=[123]:=by rw [hrest]; rfl
     rw [h1,ud]
     refine bt ⟨fun σ' H'=>∃d',d' < w.length - j'/\(fun (d:Nat) (σ:L2.St) (Hx:Hp)=>∃(o2:Option V) (j':Nat) (e:TW.E) (fs:List Fc) (us:List V),σ=[some (.ref r),some (.ref B),o2]/\d=w.length - j'/\j<=j'/\dv C r dx B w H e0 l Hx j' e fs us/\aD w j'=e.cps++(bJ fs++l)) d' σ' H',fun σ' H' z=>z,?_⟩
     refine ar fun Rk kR=>?_
     refine ⟨_,rfl,.inl ⟨rfl,_,aw.of S.bg⟩,_,rfl,r,dx,_,rfl,S.rd,rfl,r,dx,w,j',rfl,S.rd,S.jl,hw,rfl,_,rfl,?_⟩
     rw [h1]
     refine iteF' (decide_eq_false (fun z=>by injection z with z; rw [oz] at z; have z:=eX z; cases z)) ?_
     obtain ⟨H3,eH3⟩ : ∃x,x=Hy':=⟨_,rfl⟩
     have bg1:=S.bg
     have rd1:=S.rd
     have kp1:=S.kp
     have st1:ah Hy' H3:=by rw [eH3]; exact fun _ _ z=>z
     rw [← eH3] at bg1 rd1 kp1 ⊢
     refine ⟨B,_,_,rfl,rfl,bg1,Ho (show _<=4000 by rw [IF]; have:=S.fl; have:=S.jl; omega) (by decide),?_⟩
     have tk3:TK H3 (upd H3 B (.lst (us.reverse++[V.bq]))):=aZ bg1 (fun _ z=>nomatch z)
     have rd3:(upd H3 B (.lst (us.reverse++[V.bq]))) r=some (rdO C dx w j'):=by rw [aj Br.symm]; exact rd1
     have bg3:(upd H3 B (.lst (us.reverse++[V.bq]))) B=some (.lst (us.reverse++[V.bq])):=ae
     have kp3:Kp r H (upd H3 B (.lst (us.reverse++[V.bq]))):=fun b o hb nb=>by rw [aj (ai hb hB)]; exact kp1 b o hb nb
     refine kR _ (upd H3 B (.lst (us.reverse++[V.bq]))) ?_
     generalize upd H3 B (.lst (us.reverse++[V.bq]))=H4 at tk3 rd3 bg3 kp3 ⊢
     refine ⟨_,rfl,r,C,dx,_,_,rfl,rd3,R5.c,R5.p,rfl,_,_,rfl,rfl,dx,_,rd3,(by show 2 < 1000; decide),?_⟩
     have tk4:TK H4 (upd H4 r (rdO C dx w (j' + 1))):=aZ rd3 (fun _ z=>nomatch z)
     have kp4:Kp r H (upd H4 r (rdO C dx w (j' + 1))):=kp3.self
     refine ⟨w.length - (j' + 1),by omega,o2,j' + 1,a,.L b :: fs,V.bq :: us,rfl,rfl,by omega,⟨ae,by omega,by have:=S.fl; show fs.length + 1<=j' + 1; omega,by rw [HH]; exact (aj Br).trans bg3,.cons rfl (Paired.imp (fun f u z=>eK.keep (((ah.tk st1).trans tk3).trans tk4) z) S.pr),fun f hf=>?_,ga,S.pl,kp4⟩,hr3⟩
     rcases List.mem_cons.mp hf with z | z
     · rw [z]; exact gb
     · exact S.fg f z
theorem qJ {C:Addr}(s:Src K mg "read_condition" sRCond)(R5:iD K C)(m_len:mg "len"=none)(SI0:bh P w K mg base C "sign" ["self"] 1 (bu C))(DU0:bh P w K mg base C "due" ["self","sign"] 3 (gW C))(RT0:aJ P w K mg base "read_test" ["reader"] 7 (iS C)):aJ P w K mg base "read_condition" ["reader"] 8 (iQ C):=
 let ⟨f,fd,F,m⟩:=s
 ⟨f,fd,uQ F R5 m_len SI0 DU0 RT0,F.kp,cT F fun _ _ _ _ _ _ _=>rfl,m⟩
end
end TW
set_option Elab.async false
set_option linter.all false
set_option maxRecDepth 100000
set_option exponentiation.threshold 4000
set_option maxHeartbeats 1000000
namespace TW
open PySem L2
section
variable {P:Program}{w:World}{K:GP}{mg:Str->Option Value}{base:Heap}
abbrev sRWord:Stmt:=top 43
abbrev sRRow:Stmt:=top 44
/-! ### a word -/
theorem my.mono {C:Addr}{x:Str}{ps:List Str}{j k:Nat}{sp:Sp}(h:my P w K mg base x C ps j sp)(hk:j<=k):my P w K mg base x C ps k sp:=let ⟨f,fd,a,b,c⟩:=h; ⟨f,fd,a.mono hk,b,c⟩
inductive Wd where
 | sum (e:E) | cond (e:E) | name (x:Str) | num (i:Int)
def Wd.kind:Wd->Str
 | .sum _=>"sum" | .cond _=>"condition" | .name _=>"name" | .num _=>"number"
def Wd.txt:Wd->Str
 | .sum e=>e.txt | .cond e=>e.txt | .name x=>x | .num i=>GQ (toString i)
def Wd.G:Wd->Prop
 | .sum e=>fq e/\e.txt.length<=4000 | .cond e=>cx e/\e.txt.length<=4000 | .name x=>dJ x | .num i=>0<=i/\i < 10 ^ 30
def Wd.At (H:Hp)(v:V):Wd->Prop
 | .sum e=>bL H v e | .cond e=>bL H v e | .name x=>v=.str x | .num i=>v=.int i
theorem Wd.At.keep {H H':Hp}{v:V}(k:TK H H'):∀{d:Wd},d.At H v->d.At H' v
 | .sum e,h=>bL.keep k h | .cond e,h=>bL.keep k h | .name _,h=>h | .num _,h=>h
theorem Wd.len:∀{d:Wd},d.G->d.txt.length<=4000
 | .sum _,h=>h.2 | .cond _,h=>h.2 | .name _,h=>GY h.l8 (by decide) | .num _,h=>GY (bz h) (by decide)
def iU:Sp:=fun vs H Q _=>∃(d:Wd),vs=[.str d.kind,.str d.txt]/\d.G/\∀(v:V) (H':Hp),ah H H'->d.At H' v->Q v H'
theorem DO (w:Str):aD w 0=w.cps.toList:=rfl
theorem Kp.all {r:Addr}{H H1 H2:Hp}(s:ah H H1)(hr:H r=none)(k:Kp r H1 H2):ah H H2:=fun b o h=>k b o (s b o h) (ai h hr)
theorem fZ:aq ["kind","word","reader","told"] ["kind","word"] (af sRWord):=⟨rfl,rfl,rfl,by decide +kernel,rfl,by decide +kernel,by decide +kernel⟩
theorem jY:(af sRWord).names.lookup (GQ "Reader")=some .globalImplicit:=by decide +kernel
theorem nY:(af sRWord).names.lookup (GQ "len")=some .globalImplicit:=by decide +kernel
theorem dH:(af sRWord).names.lookup (GQ "read_condition")=some .globalImplicit:=by decide +kernel
theorem iy:(af sRWord).names.lookup (GQ "read_sum")=some .globalImplicit:=by decide +kernel
theorem uW {C:Addr}{f:Addr}{fd:FuncData}(F:bI K "read_word" "read_word" sRWord f fd)(R5:iD K C)(m_len:mg "len"=none)(RD0:my P w K mg base "Reader" C ["self","word"] 1 (f6 C))(NU0:bh P w K mg base C "number" ["self"] 3 (gX C))(NA0:bh P w K mg base C "name" ["self"] 3 (eJ C))(RS0:aJ P w K mg base "read_sum" ["reader"] 6 (gZ C))(RC0:aJ P w K mg base "read_condition" ["reader"] 8 (iQ C)):aL P w K mg base CX0 10 f fd ["kind","word"] iU:=by
 refine F.ok fZ (fun vs H Q E h=>?_) (fun cdv A outer s H vs Q E hr h=>?_)
 · obtain ⟨d,rfl,_⟩:=h
   rfl
 · have RDR:=RD0.mono (show 1<=8 by decide)
   have NU:=NU0.mono (show 3<=9 by decide)
   have NA:=NA0.mono (show 3<=9 by decide)
   have RS:=RS0.mono (show 6<=9 by decide)
   have RCo:=RC0.mono (show 8<=9 by decide)
   obtain ⟨d,rfl,hd,q⟩:=h
   have hl4:=Wd.len hd
   refine cH ⟨_,(K6 (Ld 2 fZ.nd (L3.make RDR hr jY (K1 (K0 1) K3)))
     (K6 (Lf (Lb Ll (K0 0) K7) (K8 (Ld 3 fZ.nd (LK (K0 2) R5.c NA hr))) (K8 (Lf (Lb Ll (K0 0) K7) (K8 (Ld 3 fZ.nd (LK (K0 2) R5.c NU hr))) (K8 (Ld 3 fZ.nd (Mi (Lb Ll (K0 0) K7) (K9 RS hr iy (K1 (K0 2) K3)) (K9 RCo hr dH (K1 (K0 2) K3))))))))
     (K6 (Lf (Lb LM (Mc (K0 2)) (Lm L3.lr nY m_len G1 (K1 (K0 1) K3))) LC Lh)
     (K8 (Lc (K0 3)))))),?_⟩
   refine ar fun Rk kR=>?_
   refine ⟨_,rfl,fun r dx hrn hdx hdr=>?_⟩
   refine ⟨r,dx,d.txt,rfl,ae,rfl,?_⟩
   have s1:ah H (upd (upd (upd H dx (.own r)) r (.ins C dx [])) r (rdO C dx d.txt 0)):=fun b o hb=>by
     rw [aj (ai hb hrn),aj (ai hb hrn),aj (ai hb hdx)]
     exact hb
   have r1:(upd (upd (upd H dx (.own r)) r (.ins C dx [])) r (rdO C dx d.txt 0)) r=some (rdO C dx d.txt 0):=ae
   generalize upd (upd (upd H dx (.own r)) r (.ins C dx [])) r (rdO C dx d.txt 0)=H1 at s1 r1 ⊢
   refine ao ?_
   refine kR _ _ ?_
   refine aB [some (.str d.kind),some (.str d.txt),some (.ref r),none] rfl ?_
   refine ar fun Rk kR=>?_
   have z0:=DO d.txt
   have hw:d.txt.length<=sizeLine:=GY hl4 (by decide)
   match d,hd,q,hl4,r1,z0,hw,kR with
   | .name x,hd,q,hl4,r1,z0,hw,kR=>
     refine ⟨_,rfl,rfl,_,rfl,bt ?_⟩
     refine ⟨_,rfl,r,dx,_,rfl,r1,rfl,r,dx,x,0,x,[],rfl,r1,HD _,hw,hd,by rw [Hm]; exact z0,(fun c hc=>nomatch hc),?_⟩
     refine ao ?_
     refine kR _ _ ?_
     refine aB [some (.str (Wd.kind (.name x))),some (.str (Wd.txt (.name x))),some (.ref r),some (V.str x)] rfl ?_
     refine ar fun Rk kR=>?_
     refine ⟨_,rfl,r,C,dx,_,_,rfl,ae,R5.c,R5.p,rfl,_,rfl,_,rfl,GY hl4 (by decide),rfl,_,rfl,?_⟩
     refine iteF' ?_ ?_
     · rw [show (0 + x.length:Nat)=x.length by omega]; simp [Wd.txt]
     exact kR _ _ ⟨_,rfl,q _ _ (fun b o hb=>by rw [aj (ai hb hrn)]; exact s1 b o hb) rfl⟩
   | .num i,hd,q,hl4,r1,z0,hw,kR=>
     refine ⟨_,rfl,rfl,_,rfl,aX ?_⟩
     refine ⟨_,rfl,rfl,_,rfl,bt ?_⟩
     refine ⟨_,rfl,r,dx,_,rfl,r1,rfl,r,dx,_,0,i,[],rfl,r1,HD _,hw,hd,by rw [Hm]; exact z0,(fun c hc=>nomatch hc),?_⟩
     refine ao ?_
     refine kR _ _ ?_
     refine aB [some (.str (Wd.kind (.num i))),some (.str (Wd.txt (.num i))),some (.ref r),some (V.int i)] rfl ?_
     refine ar fun Rk kR=>?_
     refine ⟨_,rfl,r,C,dx,_,_,rfl,ae,R5.c,R5.p,rfl,_,rfl,_,rfl,GY hl4 (by decide),rfl,_,rfl,?_⟩
     refine iteF' ?_ ?_
     · rw [show (0 + (cv i).length:Nat)=(GQ (toString i)).length by rw [cv,bB]; omega]; simp [Wd.txt]
     exact kR _ _ ⟨_,rfl,q _ _ (fun b o hb=>by rw [aj (ai hb hrn)]; exact s1 b o hb) rfl⟩
   | .sum e,hd,q,hl4,r1,z0,hw,kR=>
     refine ⟨_,rfl,rfl,_,rfl,aX ?_⟩
     refine ⟨_,rfl,rfl,_,rfl,aX ?_⟩
     refine ⟨_,rfl,rfl,_,rfl,bt ?_⟩
     refine ⟨_,rfl,r,dx,_,0,e,[],rfl,r1,HD _,hl4,hd.1,by rw [Hm]; exact z0,(fun c hc=>nomatch hc),fun v H2 k2 r2 ev=>?_⟩
     refine ao ?_
     refine kR _ _ ?_
     refine aB [some (.str (Wd.kind (.sum e))),some (.str (Wd.txt (.sum e))),some (.ref r),some v] rfl ?_
     refine ar fun Rk kR=>?_
     refine ⟨_,rfl,r,C,dx,_,_,rfl,r2,R5.c,R5.p,rfl,_,rfl,_,rfl,GY hl4 (by decide),rfl,_,rfl,?_⟩
     refine iteF' ?_ ?_
     · rw [show (0 + e.cps.length:Nat)=e.txt.length by unfold TW.E.cps; rw [bB]; omega]; simp [Wd.txt]
     exact kR _ _ ⟨_,rfl,q _ _ (Kp.all s1 hrn k2) ev⟩
   | .cond e,hd,q,hl4,r1,z0,hw,kR=>
     refine ⟨_,rfl,rfl,_,rfl,aX ?_⟩
     refine ⟨_,rfl,rfl,_,rfl,aX ?_⟩
     refine ⟨_,rfl,rfl,_,rfl,aX ?_⟩
     refine ⟨_,rfl,r,dx,_,0,e,[],rfl,r1,HD _,hl4,hd.1,by rw [Hm]; exact z0,(fun c hc=>nomatch hc),fun v H2 k2 r2 ev=>?_⟩
     refine ao ?_
     refine kR _ _ ?_
     refine aB [some (.str (Wd.kind (.cond e))),some (.str (Wd.txt (.cond e))),some (.ref r),some v] rfl ?_
     refine ar fun Rk kR=>?_
     refine ⟨_,rfl,r,C,dx,_,_,rfl,r2,R5.c,R5.p,rfl,_,rfl,_,rfl,GY hl4 (by decide),rfl,_,rfl,?_⟩
     refine iteF' ?_ ?_
     · rw [show (0 + e.cps.length:Nat)=e.txt.length by unfold TW.E.cps; rw [bB]; omega]; simp [Wd.txt]
     exact kR _ _ ⟨_,rfl,q _ _ (Kp.all s1 hrn k2) ev⟩
theorem qO {C:Addr}(s:Src K mg "read_word" sRWord)(R5:iD K C)(m_len:mg "len"=none)(RD0:my P w K mg base "Reader" C ["self","word"] 1 (f6 C))(NU0:bh P w K mg base C "number" ["self"] 3 (gX C))(NA0:bh P w K mg base C "name" ["self"] 3 (eJ C))(RS0:aJ P w K mg base "read_sum" ["reader"] 6 (gZ C))(RC0:aJ P w K mg base "read_condition" ["reader"] 8 (iQ C)):aJ P w K mg base "read_word" ["kind","word"] 10 iU:=
 let ⟨f,fd,F,m⟩:=s
 ⟨f,fd,uW F R5 m_len RD0 NU0 NA0 RS0 RC0,F.kp,cU F fun _ _ _ _ _ _ _ _=>rfl,m⟩
end
end TW
set_option Elab.async false
set_option linter.all false
set_option maxRecDepth 100000
set_option exponentiation.threshold 4000
set_option maxHeartbeats 1000000
namespace TW
open PySem L2
section
variable {P:Program}{w:World}{K:GP}{mg:Str->Option Value}{base:Heap}
/-! ### words put together and taken apart -/
theorem E.cps_ge:∀{e:E},e.okN dJ->∀c∈e.cps,33<=c
 | .num n,h,c,hc=>by have:=de (n:=n) h.1 c hc; omega
 | .box _ x,h,c,hc=>by have:=h.2.lt c hc; omega
 | .yes,_,c,hc=>by have:=lO.lt c hc; omega
 | .nt a,h,c,hc=>by
   rw [sC] at hc
   rcases List.mem_cons.mp hc with rfl | hc
   · decide
   · exact E.cps_ge (e:=a) h c hc
 | .two k a b,h,c,hc=>by
   have ha:=E.cps_ge (e:=a) h.1 c
   have hb:=E.cps_ge (e:=b) h.2 c
   have key:∀k:K2,33<=k.sg:=fun k=>by cases k <;> decide
   have kk:=key k
   have:(E.two k a b).cps=40 :: (a.cps++(k.sg :: (b.cps++[41])))\/(E.two k a b).cps=a.cps++(k.sg :: b.cps)\/(E.two k a b).cps=123 :: (a.cps++(k.sg :: (b.cps++[125]))):=by
     cases k with
     | plus=>exact .inl (iF (.inl rfl))
     | less=>exact .inl (iF (.inr rfl))
     | same=>exact .inr (.inl (cZ (.inl rfl)))
     | under=>exact .inr (.inl (cZ (.inr rfl)))
     | both=>exact .inr (.inr mK)
   rcases this with e | e | e <;> rw [e] at hc <;> simp only [HL,List.mem_append,HG,or_false] at hc
   · rcases hc with rfl | hc | rfl | hc | rfl
     · decide
     · exact ha hc
     · exact kk
     · exact hb hc
     · decide
   · rcases hc with hc | rfl | hc
     · exact ha hc
     · exact kk
     · exact hb hc
   · rcases hc with rfl | hc | rfl | hc | rfl
     · decide
     · exact ha hc
     · exact kk
     · exact hb hc
     · decide
theorem Wd.ge:∀{d:Wd},d.G->∀c∈d.txt.cps.toList,33<=c
 | .sum e,h,c,hc=>E.cps_ge h.1.ok c hc
 | .cond e,h,c,hc=>E.cps_ge h.1.ok c hc
 | .name x,h,c,hc=>by have:=dJ.lt h c hc; omega
 | .num i,h,c,hc=>by have:=de (n:=i) h.1 c hc; omega
def jl (c:Nat):List (List Nat)->List Nat
 | []=>[]
 | [a]=>a
 | a :: b :: r=>a++c :: jl c (b :: r)
theorem dX (c:Nat):∀xs:List Str,(IE (SN [c]) xs).cps.toList=jl c (xs.map fun x=>x.cps.toList)
 | []=>rfl
 | [x]=>rfl
 | x :: y :: r=>by
   show ((x++SN [c])++IE (SN [c]) (y :: r)).cps.toList=_
   rw [br,br,dk,dX c (y :: r)]
   simp [jl]
theorem fC {c:Nat}:∀{a b r s:List Nat},c ∉ a->c ∉ b->(r=[]\/r.head? = some c)->(s=[]\/s.head? = some c)->a++r=b++s->a=b/\r=s
 | [],[],_,_,_,_,_,_,h=>⟨rfl,h⟩
 | [],y :: b,r,s,_,hb,hr,_,h=>by
   have h:r=y :: (b++s):=h
   rcases hr with rfl | hr
   · cases h
   · rw [h] at hr
     have:some y=some c:=hr
     injection this with this
     exact absurd (by rw [this]; exact GZ) hb
 | x :: a,[],r,s,ha,_,_,hs,h=>by
   have h:x :: (a++r)=s:=h
   rcases hs with rfl | hs
   · cases h
   · rw [← h] at hs
     have:some x=some c:=hs
     injection this with this
     exact absurd (by rw [this]; exact GZ) ha
 | x :: a,y :: b,r,s,ha,hb,hr,hs,h=>by
   have h:x :: (a++r)=y :: (b++s):=h
   injection h with h1 h2
   obtain ⟨e1,e2⟩:=fC (fun z=>ha (G0 _ z)) (fun z=>hb (G0 _ z)) hr hs h2
   exact ⟨by rw [h1,e1],e2⟩
theorem uh {c:Nat}:∀{xs ys:List (List Nat)},xs≠[]->ys≠[]->(∀x∈xs,c ∉ x)->(∀x∈ys,c ∉ x)->jl c xs=jl c ys->xs=ys
 | [],_,h,_,_,_,_=>absurd rfl h
 | _,[],_,h,_,_,_=>absurd rfl h
 | [a],[b],_,_,_,_,h=>by
   have:a=b:=h
   rw [this]
 | [a],b :: b2 :: s,_,_,ha,hb,h=>by
   have h:a++[]=b++c :: jl c (b2 :: s):=by rw [Hm]; exact h
   have:=(fC (ha a GZ) (hb b GZ) (.inl rfl) (.inr rfl) h).2
   cases this
 | a :: a2 :: r,[b],_,_,ha,hb,h=>by
   have h:a++c :: jl c (a2 :: r)=b++[]:=by rw [Hm]; exact h
   have:=(fC (ha a GZ) (hb b GZ) (.inr rfl) (.inl rfl) h).2
   cases this
 | a :: a2 :: r,b :: b2 :: s,_,_,ha,hb,h=>by
   have h:a++c :: jl c (a2 :: r)=b++c :: jl c (b2 :: s):=h
   obtain ⟨e1,e2⟩:=fC (ha a GZ) (hb b GZ) (.inr rfl) (.inr rfl) h
   injection e2 with _ e2
   rw [e1,uh (xs:=a2 :: r) (ys:=b2 :: s) (fun z=>nomatch z) (fun z=>nomatch z) (fun x hx=>ha x (G0 _ hx)) (fun x hx=>hb x (G0 _ hx)) e2]
theorem jR {c:Nat}{xs:List Str}(hn:xs≠[])(h0:IE (SN [c]) xs≠HM)(hf:∀x∈xs,c ∉ x.cps.toList):Jc (Hj (SN [c]) xs) (SN [c])=xs:=by
 have ej:Hj (SN [c]) xs=IE (SN [c]) xs:=StrLaws.glued_eq_join _ _
 rw [ej]
 have h1:=StrLaws.join_split (IE (SN [c]) xs) (SN [c])
 have h2:=StrLaws.split_free (IE (SN [c]) xs) c
 have h2:∀p∈Jc (IE (SN [c]) xs) (SN [c]),c ∉ p.cps.toList:=h2
 generalize Jc (IE (SN [c]) xs) (SN [c])=ys at h1 h2
 have hy:ys≠[]:=fun z=>by rw [z] at h1; exact h0 h1.symm
 have h3:=congrArg (fun s:Str=>s.cps.toList) h1
 have h3:(IE (SN [c]) ys).cps.toList=(IE (SN [c]) xs).cps.toList:=h3
 rw [dX,dX] at h3
 have h4:=uh (by simpa using hy) (by simpa using hn) (fun x hx=>by obtain ⟨y,hy,rfl⟩:=List.mem_map.mp hx; exact h2 y hy) (fun x hx=>by obtain ⟨y,hy,rfl⟩:=List.mem_map.mp hx; exact hf y hy) h3
 have h5:=congrArg (List.map SN) h4
 rw [HQ,HQ] at h5
 have key:∀l:List Str,l.map (SN ∘ fun x=>x.cps.toList)=l:=fun l=>by
   induction l with
   | nil=>rfl
   | cons a l ih=>rw [Hi,ih]; show SN a.cps.toList :: l=_; rw [mB]
 rw [key,key] at h5
 exact h5
theorem lL {c:Nat}{x:Str}{xs:List Str}(h:x≠HM):IE (SN [c]) (x :: xs)≠HM:=fun z=>by
 have e:=congrArg (fun s:Str=>s.cps.toList) z
 have e:(IE (SN [c]) (x :: xs)).cps.toList=[]:=e
 rw [dX] at e
 have hx:x.cps.toList≠[]:=fun k=>h (by rw [← mB x,k]; rfl)
 cases xs with
 | nil=>exact hx e
 | cons y r=>
   have e:x.cps.toList++c :: jl c ((y :: r).map fun x=>x.cps.toList)=[]:=e
   exact hx (List.append_eq_nil_iff.mp e).1
theorem Fo:(" ":Str)=SN [32]:=by decide +kernel
theorem Gx:("\n":Str)=SN [10]:=by decide +kernel
/-! ### a row -/
structure gu (head:Str)(ds:List Wd):Prop where
 fr:(head,ds.map Wd.kind)∈formsL
 g:∀d∈ds,d.G
abbrev rowT (head:Str)(ds:List Wd):Str:=Hj " " (head :: ds.map Wd.txt)
theorem eF:∀q∈formsL,q.2.length<=3/\q.1.length<=5/\q.1≠HM/\∀c∈q.1.cps.toList,33<=c:=by decide +kernel
theorem gu.ge {head:Str}{ds:List Wd}(h:gu head ds):∀x∈head :: ds.map Wd.txt,∀c∈x.cps.toList,33<=c:=fun x hx=>by
 rcases List.mem_cons.mp hx with rfl | hx
 · exact (eF _ h.fr).2.2.2
 · obtain ⟨d,hd,rfl⟩:=List.mem_map.mp hx
   exact Wd.ge (h.g d hd)
theorem gu.split {head:Str}{ds:List Wd}(h:gu head ds):Jc (rowT head ds) " "=head :: ds.map Wd.txt:=by
 rw [rowT,Fo]
 exact jR (fun z=>nomatch z) (lL (eF _ h.fr).2.2.1) (fun x hx z=>by have:=h.ge x hx _ z; omega)
theorem yK:∀(l:List Str),(∀x∈l,x.length<=4000)->(l.map (·.length)).sum<=l.length * 4000:=by
 intro l
 induction l with
 | nil=>intro _; exact GX _
 | cons a l ih=>
   intro h
   have h1:=ih fun x hx=>h x (G0 _ hx)
   have h2:=h a GZ
   rw [Hi,Ib,G5]
   omega
theorem gu.len {head:Str}{ds:List Wd}(h:gu head ds):ds.length<=3/\(rowT head ds).length<=12100:=by
 obtain ⟨h3,h5,_⟩:=eF _ h.fr
 have h3:(ds.map Wd.kind).length<=3:=h3
 have h5:head.length<=5:=h5
 rw [GR] at h3
 refine ⟨h3,?_⟩
 show (HU " " (head :: ds.map Wd.txt)).length<=_
 rw [StrLaws.glued_eq_join]
 refine GY (StrLaws.join_length_le _ _) ?_
 have:=yK (ds.map Wd.txt) fun x hx=>by obtain ⟨d,hd,rfl⟩:=List.mem_map.mp hx; exact Wd.len (h.g d hd)
 rw [GR] at this
 rw [Hi,Ib,G5,show ((" ":Str)).length=1 from rfl,GR]
 omega
def wo (H:Hp)(v:V)(head:Str)(ds:List Wd):Prop:=∃(p:Addr) (vals:List V),v=.ref p/\H p=some (.tup (.str head :: vals))/\Paired (fun u (d:Wd)=>d.At H u) vals ds
theorem Paired.snoc {α β:Type}{R:α->β->Prop}:∀{a:List α} {b:List β} {x:α} {y:β},Paired R a b->R x y->Paired R (a++[x]) (b++[y])
 | _,_,_,_,.nil,h=>.cons h .nil
 | _,_,_,_,.cons r t,h=>.cons r (Paired.snoc t h)
def mn:Sp:=fun vs H Q _=>∃(head:Str) (ds:List Wd),vs=[.str (rowT head ds)]/\gu head ds/\∀(v:V) (H':Hp),ah H H'->wo H' v head ds->Q v H'
theorem oH:aq ["row","words","kinds"] ["row"] (af sRRow):=⟨rfl,rfl,rfl,by decide +kernel,rfl,by decide +kernel,by decide +kernel⟩
theorem mU:(af sRRow).names.lookup (GQ "FORMS")=some .globalImplicit:=by decide +kernel
theorem kF:(af sRRow).names.lookup (GQ "len")=some .globalImplicit:=by decide +kernel
theorem mV:(af sRRow).names.lookup (GQ "tuple")=some .globalImplicit:=by decide +kernel
theorem qA:(af sRRow).names.lookup (GQ "zip")=some .globalImplicit:=by decide +kernel
theorem xE {aF:Addr}{f:Addr}{fd:FuncData}(F:bI K "read_row" "read_row" sRRow f fd)(m_len:mg "len"=none)(m_zip:mg "zip"=none)(m_tuple:mg "tuple"=none)(hF:mg "FORMS"=some (.ref aF))(dF:cy w K aF)(RWd:aJ P w K mg base "read_word" ["kind","word"] 10 iU):aL P w K mg base CX0 11 f fd ["row"] mn:=by
 refine F.ok oH (fun vs H Q E h=>?_) (fun cdv A outer s H vs Q E hr h=>?_)
 · obtain ⟨head,ds,rfl,_⟩:=h
   rfl
 · obtain ⟨head,ds,rfl,rg,q⟩:=h
   obtain ⟨d3,rl⟩:=rg.len
   obtain ⟨tF,kvs,kd,lk,sq⟩:=dF _ rg.fr
   refine cH ⟨_,(K6 (Ld 1 oH.nd (L3.vR (K0 0) (K1 K7 K3)))
     (K6 (Ld 2 oH.nd (L3.Gu (Lz (w:=.ref aF) mU hF rfl) (La Lq (K0 1) K4)))
     (K6 (Lf (Lv (LR (Lb L3.C2 (K0 2) Mo) (LZ (Lb LM (Lm Lp kF m_len G1 (K1 (K0 1) K3)) (K5 Lo (Lm Lp kF m_len G1 (K1 (K0 2) K3)) K4))))) LC Lh)
     (K8 (Lc (K5 L3.lT (Lg (K1 (La Lq (K0 1) K4) K3)) (Lw L3.oW mV m_tuple (by decide +kernel) (K1 (LF [none,none] ["kind","word"] (show az _ (af sRRow) from ⟨rfl,by decide +kernel,by decide +kernel,by decide +kernel⟩) (by rfl) (L3.FK true false qA m_zip (K1 (K0 2) (K1 (L3.DW (K0 1) K4) K3))) (fun _ _ _ _ _=>⟨(LH 2 (Ln (Le 0 (show (["kind","word"]:List Str).Nodup from by decide +kernel)) (Ln (Le 1 (show (["kind","word"]:List Str).Nodup from by decide +kernel)) Lx))),Lu,(K9 RWd hr (by rfl) (K1 (K0 0) (K1 (K0 1) K3)))⟩)) K3)))))))),?_⟩
   refine ar fun Rk kR=>?_
   refine ⟨_,rfl,rfl,_,_,rfl,rfl,rfl,GY (show _<=20000 by omega) (by decide),?_,fun l1 hl1=>?_⟩
   · rw [rg.split,G5,GR]
     exact GY (show _<=20000 by omega) (by decide)
   rw [rg.split]
   have s1:ah H (upd H l1 (.lst ((head :: ds.map Wd.txt).map V.str))):=ag hl1 _
   have g1:(upd H l1 (.lst ((head :: ds.map Wd.txt).map V.str))) l1=some (.lst ((head :: ds.map Wd.txt).map V.str)):=ae
   generalize upd H l1 (.lst ((head :: ds.map Wd.txt).map V.str))=H1 at s1 g1 ⊢
   refine ao ?_
   refine kR _ _ ?_
   refine aB [some (.str (rowT head ds)),some (.ref l1),none] rfl ?_
   refine ar fun Rk kR=>?_
   refine ⟨aF,kvs,rfl,kd,_,rfl,l1,_,_,_,rfl,rfl,aw.of g1,km,head,rfl,?_⟩
   rw [lk]
   refine ao ?_
   refine kR _ _ ?_
   refine aB [some (.str (rowT head ds)),some (.ref l1),some (.ref tF)] rfl ?_
   refine ar fun Rk kR=>?_
   refine ⟨_,rfl,rfl,_,rfl,iteF' rfl ?_⟩
   refine ⟨_,rfl,l1,_,rfl,.inl (aw.of g1),_,rfl,tF,_,rfl,.inr (sq _),_,_,rfl,rfl,rfl,_,rfl,?_⟩
   refine iteF' ?_ ?_
   · simp
   refine kR _ _ ?_
   refine ⟨_,rfl,l1,_,_,_,rfl,rfl,aw.of g1,km,Nt,fun t1 ht1=>?_⟩
   have s2:ah H1 (upd H1 t1 (.tup [.str head])):=ag ht1 _
   have g2:(upd H1 t1 (.tup [.str head])) t1=some (.tup [.str head]):=ae
   generalize upd H1 t1 (.tup [.str head])=H2 at s2 g2 ⊢
   refine ⟨_,rfl,_,rfl,_,rfl,l1,_,rfl,aw.of (s2 _ _ g1),fun l2 hl2=>?_⟩
   rw [Hi,mL]
   have s3:ah H2 (upd H2 l2 (.lst ((ds.map Wd.txt).map V.str))):=ag hl2 _
   have g3:(upd H2 l2 (.lst ((ds.map Wd.txt).map V.str))) l2=some (.lst ((ds.map Wd.txt).map V.str)):=ae
   generalize upd H2 l2 (.lst ((ds.map Wd.txt).map V.str))=H3 at s3 g3 ⊢
   refine ⟨tF,l2,rfl,⟨_,sq _⟩,⟨_,aw.of g3⟩,fun D hD=>?_⟩
   have hlen:((ds.map Wd.kind).map V.str).length=((ds.map Wd.txt).map V.str).length:=by simp
   refine kC (xs:=(ds.map Wd.kind).map V.str) (ys:=(ds.map Wd.txt).map V.str) hlen (fun i Hx=>ah H3 Hx/\∃vals,Hx D=some (.lst vals)/\Paired (fun u (d:Wd)=>d.At Hx u) vals (ds.take i)) ⟨ag hD _,[],ae,.nil⟩ (fun i Hx _ z=>⟨sq _,aw.of (z.1 _ _ g3)⟩) (fun i k0 v0 pp Hx hk0 hv0 z hpp=>?_) (fun Hx z=>?_)
   · obtain ⟨sx,vals,gD,pv⟩:=z
     obtain ⟨k,hk,rfl⟩:=bC hk0
     obtain ⟨d,hd,rfl⟩:=bC hk
     have hil:i < ((ds.map Wd.kind).map V.str).length:=(List.getElem?_eq_some_iff.mp hk0).1
     have hil2:i < ds.length:=by simpa using hil
     have ev0:v0=.str d.txt:=by
       rw [HR,HR,hd] at hv0
       exact (HA hv0).symm
     subst ev0
     have sp:=ag hpp (.tup [.str d.kind,.str d.txt])
     refine ⟨pp,_,rfl,aC.of ae,rfl,_,_,rfl,_,_,rfl,rfl,?_⟩
     refine bE (A:=fun H5=>bS _ D _ H5 _) ?_
     refine ⟨_,rfl,_,rfl,d,rfl,rg.g d (Hh hd),fun v H' s' av=>?_⟩
     have sa:=aa sp s'
     have lv:=Paired.length pv
     rw [G8] at lv
     have tkD:TK H' (upd H' D (.lst (vals++[v]))):=aZ (sa _ _ gD) (fun _ z=>nomatch z)
     refine ⟨_,sa _ _ gD,Ho (show _<=1000 by omega) (by decide),aK (Pv:=fun i Hx=>ah H3 Hx/\∃vals,Hx D=some (.lst vals)/\Paired (fun u (d:Wd)=>d.At Hx u) vals (ds.take i)) (by repeat' constructor) hil ⟨aG (aa sx sa) hD,vals++[v],ae,?_⟩⟩
     rw [Hl,hd]
     exact (Paired.imp (fun u d z=>(z.keep (ah.tk sa)).keep tkD) pv).snoc (av.keep tkD)
   obtain ⟨sx,vals,gD,pv⟩:=z
   rw [show ((ds.map Wd.kind).map V.str).length=ds.length by simp,HB] at pv
   have lv:=Paired.length pv
   refine ⟨D,_,rfl,aw.of gD,fun t2 ht2=>?_⟩
   have s4:=ag ht2 (.tup vals)
   have g4:(upd Hx t2 (.tup vals)) t2=some (.tup vals):=ae
   generalize upd Hx t2 (.tup vals)=H5 at s4 g4 ⊢
   have sall:=aa (aa (aa (aa s1 s2) s3) sx) s4
   refine ⟨t1,t2,_,_,rfl,rfl,aC.of (s4 _ _ (sx _ _ (s3 _ _ g2))),aC.of g4,(fun z=>nomatch z),GY (show _<=1000 by rw [Hq]; omega) (by decide),(fun z=>?_),fun _ p hp=>?_⟩
   · refine q _ _ sall ⟨t1,[],rfl,s4 _ _ (sx _ _ (s3 _ _ g2)),?_⟩
     rw [z] at pv
     exact Paired.imp (fun _ _ z=>z.keep (ah.tk s4)) pv
   · exact q _ _ (aA sall hp) ⟨p,vals,rfl,ae,Paired.imp (fun _ _ z=>(z.keep (ah.tk s4)).keep (ah.tk (ag hp _))) pv⟩
theorem tU {aF:Addr}(s:Src K mg "read_row" sRRow)(m_len:mg "len"=none)(m_zip:mg "zip"=none)(m_tuple:mg "tuple"=none)(hF:mg "FORMS"=some (.ref aF))(dF:cy w K aF)(RWd:aJ P w K mg base "read_word" ["kind","word"] 10 iU):aJ P w K mg base "read_row" ["row"] 11 mn:=
 let ⟨f,fd,F,m⟩:=s
 ⟨f,fd,xE F m_len m_zip m_tuple hF dF RWd,F.kp,cT F fun _ _ _ _ _ _ _=>rfl,m⟩
end
end TW
set_option Elab.async false
set_option linter.all false
set_option maxRecDepth 100000
set_option exponentiation.threshold 4000
set_option maxHeartbeats 1000000
namespace TW
open PySem L2
section
variable {P:Program}{w:World}{K:GP}{mg:Str->Option Value}{base:Heap}
abbrev sPicked:Stmt:=top 21
abbrev sRProg:Stmt:=top 45
theorem vF:aq ["boxes","inputs","nodes"] ["boxes","inputs","nodes"] (af sPicked):=⟨rfl,rfl,rfl,by decide +kernel,rfl,by decide +kernel,by decide +kernel⟩
theorem fe:(af sPicked).names.lookup (GQ "program_of")=some .globalImplicit:=by decide +kernel
theorem rm {f:Addr}{fd:FuncData}(F:bI K "picked_program" "picked_program" sPicked f fd)(PO:aJ P w K mg base "program_of" ["boxes","inputs","nodes"] 35 bR):aL P w K mg base CX0 36 f fd ["boxes","inputs","nodes"] bR:=by
 refine F.ok vF (fun vs H Q E h=>?_) (fun cdv A outer s H vs Q E hr h=>?_)
 · obtain ⟨B,I,N,vb,vn,bs,ins,nds,rfl,_⟩:=h
   rfl
 · obtain ⟨B,I,N,vb,vn,bs,ins,nds,rfl,ft,q⟩:=h
   refine cH ⟨_,(K8 (Lc (K9 PO hr fe (K1 (K0 0) (K1 (K0 1) (K1 (K0 2) K3)))))),?_⟩
   exact ⟨_,rfl,_,rfl,_,rfl,B,I,N,vb,vn,bs,ins,nds,rfl,ft,q⟩
theorem n5 (s:Src K mg "picked_program" sPicked)(PO:aJ P w K mg base "program_of" ["boxes","inputs","nodes"] 35 bR):aJ P w K mg base "picked_program" ["boxes","inputs","nodes"] 36 bR:=
 let ⟨f,fd,F,m⟩:=s
 ⟨f,fd,rm F PO,F.kp,nH F fun _ _ _ _ _ _ _ _ _=>rfl,m⟩
/-! ### all rows of a text -/
inductive Rw where
 | box (b:Str×Int) | inp (x:Str) | nd (e:Np)
def Np.hd:Np->Str
 | .put _ _ _=>"put" | .say _ _=>"say" | .test _ _ _=>"test" | .pick _ _=>"pick" | .fin=>"end"
def Np.wds:Np->List Wd
 | .put x s n=>[.name x,.sum s,.num n] | .say s n=>[.sum s,.num n] | .test c n o=>[.cond c,.num n,.num o] | .pick x n=>[.name x,.num n] | .fin=>[]
def Rw.hd:Rw->Str
 | .box _=>"box" | .inp _=>"input" | .nd e=>e.hd
def Rw.wds:Rw->List Wd
 | .box b=>[.name b.1,.num b.2] | .inp x=>[.name x] | .nd e=>e.wds
def Rw.rank:Rw->Nat
 | .box _=>0 | .inp _=>1 | .nd _=>2
def rowsOf (bs:List (Str×Int))(ins:List Str)(nds:List Np):List Rw:=bs.map .box++ins.map .inp++nds.map .nd
theorem Np.ws_eq:∀e:Np,e.ws=e.hd :: e.wds.map Wd.txt
 | .put _ _ _=>rfl | .say _ _=>rfl | .test _ _ _=>rfl | .pick _ _=>rfl | .fin=>rfl
theorem dj (bs:List (Str×Int))(ins:List Str)(nds:List Np):textOf bs ins nds=(rowsOf bs ins nds).map fun r=>rowT r.hd r.wds:=by
 unfold textOf rowsOf
 rw [G2,G2,HQ,HQ,HQ]
 congr 1
 refine List.map_congr_left fun e _=>?_
 show Hj sp1 e.ws=rowT e.hd e.wds
 rw [Np.ws_eq]
theorem ki.wd {e:E}(h:ki 30 e):(Wd.sum e).G:=⟨⟨h.is,h.ok⟩,h.len⟩
theorem nF.wd {e:E}(h:nF 30 e):(Wd.cond e).G:=⟨⟨h.is,h.ok⟩,h.len⟩
theorem yR.row {bs:List (Str×Int)}{ins:List Str}{nds:List Np}(h:yR bs ins nds):∀r∈rowsOf bs ins nds,gu r.hd r.wds:=by
 intro r hr
 rcases List.mem_append.mp hr with hr | hr
 · rcases List.mem_append.mp hr with hr | hr
   · obtain ⟨b,hb,rfl⟩:=List.mem_map.mp hr
     refine ⟨by show (("box":Str),(["name","number"]:List Str))∈formsL; decide,fun d hd=>?_⟩
     rcases List.mem_cons.mp hd with rfl | hd
     · exact (h.b b hb).1
     · rw [List.mem_singleton.mp hd]; exact (h.b b hb).2
   · obtain ⟨x,hx,rfl⟩:=List.mem_map.mp hr
     refine ⟨by show (("input":Str),(["name"]:List Str))∈formsL; decide,fun d hd=>?_⟩
     rw [List.mem_singleton.mp hd]
     exact h.i x hx
 · obtain ⟨e,he,rfl⟩:=List.mem_map.mp hr
   have we:=h.n e he
   match e,we with
   | .put x s n,we=>
     refine ⟨by show (("put":Str),(["name","sum","number"]:List Str))∈formsL; decide,fun d hd=>?_⟩
     rcases List.mem_cons.mp hd with rfl | hd
     · exact we.1
     rcases List.mem_cons.mp hd with rfl | hd
     · exact we.2.1.wd
     rw [List.mem_singleton.mp hd]
     exact we.2.2
   | .say s n,we=>
     refine ⟨by show (("say":Str),(["sum","number"]:List Str))∈formsL; decide,fun d hd=>?_⟩
     rcases List.mem_cons.mp hd with rfl | hd
     · exact we.1.wd
     rw [List.mem_singleton.mp hd]
     exact we.2
   | .test c n o,we=>
     refine ⟨by show (("test":Str),(["condition","number","number"]:List Str))∈formsL; decide,fun d hd=>?_⟩
     rcases List.mem_cons.mp hd with rfl | hd
     · exact we.1.wd
     rcases List.mem_cons.mp hd with rfl | hd
     · exact we.2.1
     rw [List.mem_singleton.mp hd]
     exact we.2.2
   | .pick x n,we=>
     refine ⟨by show (("pick":Str),(["name","number"]:List Str))∈formsL; decide,fun d hd=>?_⟩
     rcases List.mem_cons.mp hd with rfl | hd
     · exact we.1
     rw [List.mem_singleton.mp hd]
     exact we.2
   | .fin,_=>exact ⟨by show (("end":Str),([]:List Str))∈formsL; decide,fun d hd=>nomatch hd⟩
theorem BE {head:Str}{ds:List Wd}(h:gu head ds):∀c∈(rowT head ds).cps.toList,32<=c:=by
 have hg:=h.ge
 show ∀c∈(HU " " (head :: ds.map Wd.txt)).cps.toList,32<=c
 rw [StrLaws.glued_eq_join,Fo,dX]
 have key:∀l:List Str,(∀x∈l,∀c∈x.cps.toList,33<=c)->∀c∈jl 32 (l.map fun x=>x.cps.toList),32<=c:=by
   intro l
   induction l with
   | nil=>intro _ c hc; cases hc
   | cons a l ih=>
     intro hl c hc
     have ha:=hl a GZ
     have ih:=ih fun x hx=>hl x (G0 _ hx)
     cases l with
     | nil=>have:=ha c hc; omega
     | cons b r=>
       have hc:c∈a.cps.toList++32 :: jl 32 ((b :: r).map fun x=>x.cps.toList):=hc
       rcases List.mem_append.mp hc with z | z
       · have:=ha c z; omega
       · rcases List.mem_cons.mp z with rfl | z
         · exact GX _
         · exact ih c z
 exact key _ hg
theorem BF {head:Str}{ds:List Wd}(h:gu head ds):rowT head ds≠HM:=by
 show HU " " (head :: ds.map Wd.txt)≠_
 rw [StrLaws.glued_eq_join,Fo]
 exact lL (eF _ h.fr).2.2.1
theorem jT {rows:List Rw}(hn:rows≠[])(h:∀r∈rows,gu r.hd r.wds):Jc (Hj "\n" (rows.map fun r=>rowT r.hd r.wds)) "\n"=rows.map fun r=>rowT r.hd r.wds:=by
 rw [Gx]
 refine jR (by simpa using hn) ?_ (fun x hx z=>?_)
 · cases rows with
   | nil=>exact absurd rfl hn
   | cons r l=>exact lL (BF (h r GZ))
 · obtain ⟨r,hr,rfl⟩:=List.mem_map.mp hx
   have:=BE (h r hr) _ z
   omega
theorem text_len {rows:List Rw}(h:∀r∈rows,gu r.hd r.wds)(hl:rows.length<=408):(Hj "\n" (rows.map fun r=>rowT r.hd r.wds)).length + 2<=sizeLine:=by
 have e:(Hj "\n" (rows.map fun r=>rowT r.hd r.wds)).length<=408 * 12101:=by
   show (HU "\n" _).length<=_
   rw [StrLaws.glued_eq_join]
   refine GY (StrLaws.join_length_le _ _) ?_
   have key:∀l:List Rw,(∀r∈l,gu r.hd r.wds)->((l.map fun r=>rowT r.hd r.wds).map (·.length)).sum<=l.length * 12100:=by
     intro l
     induction l with
     | nil=>intro _; exact GX _
     | cons a l ih=>
       intro h
       have h1:=ih fun x hx=>h x (G0 _ hx)
       have h2:=(h a GZ).len.2
       rw [Hi,Hi,Ib,G5]
       omega
   have:=key rows h
   rw [GR,show (("\n":Str)).length=1 from rfl]
   omega
 exact GY (Nat.add_le_add_right e 2) (by decide)
theorem wo.np {H:Hp}:∀{e:Np} {v:V},wo H v e.hd e.wds->aP H v e
 | .put x s n,_,⟨p,vals,rfl,hp,pv⟩=>by
   match vals,pv with
   | [a,b,c],.cons h1 (.cons h2 (.cons h3 .nil))=>
     have h1:a=.str x:=h1
     have h3:c=.int n:=h3
     subst h1 h3
     exact ⟨b,⟨p,rfl,hp⟩,h2⟩
 | .say s n,_,⟨p,vals,rfl,hp,pv⟩=>by
   match vals,pv with
   | [b,c],.cons h2 (.cons h3 .nil)=>
     have h3:c=.int n:=h3
     subst h3
     exact ⟨b,⟨p,rfl,hp⟩,h2⟩
 | .test e n o,_,⟨p,vals,rfl,hp,pv⟩=>by
   match vals,pv with
   | [a,b,c],.cons h1 (.cons h2 (.cons h3 .nil))=>
     have h2:b=.int n:=h2
     have h3:c=.int o:=h3
     subst h2 h3
     exact ⟨a,⟨p,rfl,hp⟩,h1⟩
 | .pick x n,_,⟨p,vals,rfl,hp,pv⟩=>by
   match vals,pv with
   | [a,b],.cons h1 (.cons h2 .nil)=>
     have h1:a=.str x:=h1
     have h2:b=.int n:=h2
     subst h1 h2
     exact ⟨p,rfl,hp⟩
 | .fin,_,⟨p,vals,rfl,hp,pv⟩=>by
   match vals,pv with
   | [],.nil=>exact ⟨p,rfl,hp⟩
def Rw.asB:Rw->Option (Str×Int)
 | .box b=>some b | _=>none
def Rw.asI:Rw->Option Str
 | .inp x=>some x | _=>none
def Rw.asN:Rw->Option Np
 | .nd e=>some e | _=>none
def p9 (l:List Rw):List (Str×Int):=l.filterMap Rw.asB
def inR (l:List Rw):List Str:=l.filterMap Rw.asI
def q8 (l:List Rw):List Np:=l.filterMap Rw.asN
theorem lD {α β:Type}{f:β->α}{g:α->Option β}(h:∀b,g (f b)=some b)(l:List β):(l.map f).filterMap g=l:=by
 induction l with
 | nil=>rfl
 | cons a l ih=>rw [Hi,List.filterMap_cons_some (h a),ih]
theorem eE {α β γ:Type}{f:β->α}{g:α->Option γ}(h:∀b,g (f b)=none)(l:List β):(l.map f).filterMap g=[]:=by
 induction l with
 | nil=>rfl
 | cons a l ih=>rw [Hi,List.filterMap_cons_none (h a),ih]
theorem zO (bs:List (Str×Int))(ins:List Str)(nds:List Np):p9 (rowsOf bs ins nds)=bs:=by
 unfold p9 rowsOf
 rw [Hs,Hs,lD (f:=Rw.box) (fun _=>rfl),eE (f:=Rw.inp) (fun _=>rfl),eE (f:=Rw.nd) (fun _=>rfl),Hm,Hm]
theorem Ab (bs:List (Str×Int))(ins:List Str)(nds:List Np):inR (rowsOf bs ins nds)=ins:=by
 unfold inR rowsOf
 rw [Hs,Hs,eE (f:=Rw.box) (fun _=>rfl),lD (f:=Rw.inp) (fun _=>rfl),eE (f:=Rw.nd) (fun _=>rfl),J7,Hm]
theorem Aw (bs:List (Str×Int))(ins:List Str)(nds:List Np):q8 (rowsOf bs ins nds)=nds:=by
 unfold q8 rowsOf
 rw [Hs,Hs,eE (f:=Rw.box) (fun _=>rfl),eE (f:=Rw.inp) (fun _=>rfl),lD (f:=Rw.nd) (fun _=>rfl),J7,J7]
theorem rL {bs:List (Str×Int)}{ins:List Str}{nds:List Np}:(rowsOf bs ins nds).Pairwise fun a b=>a.rank<=b.rank:=by
 unfold rowsOf
 have c:∀{α:Type} (f:α->Rw) (k:Nat) (h:∀a,(f a).rank=k) (l:List α),(l.map f).Pairwise fun a b=>a.rank<=b.rank:=fun f k h l=>by
   rw [List.pairwise_map]
   exact List.pairwise_of_forall fun {a b}=>by rw [h,h]; exact GX _
 refine List.pairwise_append.mpr ⟨List.pairwise_append.mpr ⟨c _ 0 (fun _=>rfl) _,c _ 1 (fun _=>rfl) _,fun a ha b hb=>?_⟩,c _ 2 (fun _=>rfl) _,fun a ha b hb=>?_⟩
 · obtain ⟨x,_,rfl⟩:=List.mem_map.mp ha
   exact HD _
 · obtain ⟨x,_,rfl⟩:=List.mem_map.mp hb
   cases a with | box _=>exact HD 2 | inp _=>exact JS 1 | nd _=>exact GX 2
abbrev rkL:List (Str×V):=[("box",.int 0),("input",.int 1)]
theorem yo:∀r:Rw,(rkL.lookup r.hd).getD (.int 2)=.int (r.rank:Int)
 | .box _=>rfl | .inp _=>rfl | .nd (.put _ _ _)=>rfl | .nd (.say _ _)=>rfl | .nd (.test _ _ _)=>rfl | .nd (.pick _ _)=>rfl | .nd .fin=>rfl
/-- a program that is written and read -/
structure wj (bs:List (Str×Int))(ins:List Str)(nds:List Np):Prop where
 wr:yR bs ins nds
 bx:oS bs
 ind:ins.Nodup
 insub:∀x∈ins,x∈bs.map (·.1)
 one:1<=nds.length
 good:∀e∈nds,e.good bs nds.length
structure Got (H H':Hp)(p B I N:Addr)(vb vn:List V)(bs:List (Str×Int))(ins:List Str)(nds:List Np):Prop where
 s:ah H H'
 nB:H B=none
 nI:H I=none
 nN:H N=none
 BN:B≠N
 IN:I≠N
 BI:B≠I
 hp:H' p=some (.tup [.ref B,.ref I,.ref N])
 pt:ny H' B I N vb vn bs ins nds
def f7:Sp:=fun vs H Q _=>∃(bs:List (Str×Int)) (ins:List Str) (nds:List Np),vs=[.str (Hj "\n" (textOf bs ins nds))]/\wj bs ins nds/\∀p B I N vb vn H',Got H H' p B I N vb vn bs ins nds->Q (.ref p) H'
structure Rp (H Hx:Hp)(B I N:Addr)(vb vi vn:List V)(l:List Rw):Prop where
 s:ah H Hx
 hB:Hx B=some (.lst vb)
 hI:Hx I=some (.lst vi)
 hN:Hx N=some (.lst vn)
 pb:Paired (bT Hx) vb (p9 l)
 pi:vi=(inR l).map V.str
 pn:Paired (aP Hx) vn (q8 l)
theorem b8:aq ["text","boxes","inputs","nodes","least","row","told","rank"] ["text"] (af sRProg):=⟨rfl,rfl,rfl,by decide +kernel,rfl,by decide +kernel,by decide +kernel⟩
theorem gQ:(af sRProg).names.lookup (GQ "NODE_RANK")=some .globalImplicit:=by decide +kernel
theorem lH:(af sRProg).names.lookup (GQ "RANKS")=some .globalImplicit:=by decide +kernel
theorem dG:(af sRProg).names.lookup (GQ "picked_program")=some .globalImplicit:=by decide +kernel
theorem iu:(af sRProg).names.lookup (GQ "read_row")=some .globalImplicit:=by decide +kernel
theorem uT {aR:Addr}{f:Addr}{fd:FuncData}(F:bI K "read_program" "read_program" sRProg f fd)(hR:mg "RANKS"=some (.ref aR))(dR:cQ w K aR rkL)(cN:lg mg "NODE_RANK" 2)(RR0:aJ P w K mg base "read_row" ["row"] 11 mn)(PP:aJ P w K mg base "picked_program" ["boxes","inputs","nodes"] 36 bR):aL P w K mg base CX0 37 f fd ["text"] f7:=by
 refine F.ok b8 (fun vs H Q E h=>?_) (fun cdv A outer s H vs Q E hr h=>?_)
 · obtain ⟨bs,ins,nds,rfl,_⟩:=h
   rfl
 · have RR:=RR0.mono (show 11<=36 by decide)
   obtain ⟨bs,ins,nds,rfl,pg,q⟩:=h
   have rg:=pg.wr.row
   have lb:=pg.wr.lb
   have li:=pg.wr.li
   have ln:=pg.wr.ln
   have rl:(rowsOf bs ins nds).length<=408:=by
     unfold rowsOf
     rw [GU,GU,GR,GR,GR]
     omega
   have rne:rowsOf bs ins nds≠[]:=fun z=>by
     have:=congrArg List.length z
     unfold rowsOf at this
     rw [GU,GU,GR,GR,GR] at this
     have:=pg.one
     simp only [Ik] at *
     omega
   refine cH ⟨_,(K6 (Mb (Lg (K1 (Lj K3) (K1 (Lj K3) (K1 (Lj K3) (K1 K4 K3))))) (LH 4 (Ln (Le 1 b8.nd) (Ln (Le 2 b8.nd) (Ln (Le 3 b8.nd) (Ln (Le 4 b8.nd) Lx))))))
     (K6 (LG (Lr (L3.vR (K0 0) (K1 K7 K3))) (Le 5 b8.nd) (K6 (Ld 6 b8.nd (K9 RR hr iu (K1 (K0 5) K3)))
     (K6 (Ld 7 b8.nd (L3.Gv (Lz (w:=.ref aR) lH hR rfl) (La Li (K0 6) K4) (Lz (w:=.int 2) gQ cN.choose_spec ⟨_,rfl⟩)))
     (K6 (Lf (Lb LX (K0 7) (K0 4)) LC Lh)
     (K6 (Ld 4 b8.nd (K0 7))
     (K8 (Lf (Lb Ll (K0 7) K4) (K8 (LA (LS (K0 1) (K1 (Lg (K1 (La Li (K0 6) K4) (K1 (La Li (K0 6) K4) K3))) K3)))) (K8 (Lf (Lb Ll (K0 7) K4) (K8 (LA (LS (K0 2) (K1 (La Li (K0 6) K4) K3)))) (K8 (LA (LS (K0 3) (K1 (K0 6) K3)))))))))))))
     (K8 (Lc (K9 PP hr dG (K1 (K0 1) (K1 (K0 2) (K1 (K0 3) K3)))))))),?_⟩
   refine ar fun Rk kR=>?_
   refine ⟨Nr,fun B hB=>?_⟩
   have sB:ah H (upd H B (.lst [])):=ag hB _
   have gB:(upd H B (.lst [])) B=some (.lst []):=ae
   generalize upd H B (.lst [])=H1 at sB gB ⊢
   refine ⟨Nr,fun I hI=>?_⟩
   have sI:ah H1 (upd H1 I (.lst [])):=ag hI _
   have gI:(upd H1 I (.lst [])) I=some (.lst []):=ae
   generalize upd H1 I (.lst [])=H2 at sI gI ⊢
   refine ⟨Nr,fun N hN=>?_⟩
   have sN:ah H2 (upd H2 N (.lst [])):=ag hN _
   have gN:(upd H2 N (.lst [])) N=some (.lst []):=ae
   generalize upd H2 N (.lst [])=H3 at sN gN ⊢
   have BI:B≠I:=ai gB hI
   have IN:I≠N:=ai gI hN
   have BN:B≠N:=ai (sI _ _ gB) hN
   have nB:=hB
   have nI:=aE sB hI
   have nN:=aE (aa sB sI) hN
   refine ⟨Nw,fun q4 hq4=>?_⟩
   have s4:=ag hq4 (.tup [.ref B,.ref I,.ref N,.int 0])
   have g4:(upd H3 q4 (.tup [.ref B,.ref I,.ref N,.int 0])) q4=some (.tup [.ref B,.ref I,.ref N,.int 0]):=ae
   generalize upd H3 q4 (.tup [.ref B,.ref I,.ref N,.int 0])=H4 at s4 g4 ⊢
   refine ⟨q4,_,rfl,aC.of g4,rfl,_,_,rfl,_,_,rfl,_,_,rfl,_,_,rfl,rfl,?_⟩
   refine kR _ _ ?_
   have s04:=aa (aa (aa sB sI) sN) s4
   have hB4:=s4 _ _ (sN _ _ (sI _ _ gB))
   have hI4:=s4 _ _ (sN _ _ gI)
   have hN4:=s4 _ _ gN
   clear g4 s4 gN gI gB sN sI sB hq4
   refine aB [some (.str (Hj "\n" (textOf bs ins nds))),some (.ref B),some (.ref I),some (.ref N),some (.int 0),none,none,none] rfl ?_
   refine ar fun Rk kR=>?_
   refine ⟨_,rfl,rfl,_,_,rfl,rfl,rfl,?_,?_,fun L hL=>?_⟩
   · rw [dj]
     exact text_len rg rl
   · rw [dj,jT rne rg,GR]
     exact GY (show _<=1000 by omega) (by decide)
   rw [dj,jT rne rg,HQ,← dj]
   have nL:=aE s04 hL
   have sL:=ag hL (.lst ((rowsOf bs ins nds).map fun r=>V.str (rowT r.hd r.wds)))
   have gL:(upd H4 L (.lst ((rowsOf bs ins nds).map fun r=>V.str (rowT r.hd r.wds)))) L=some (.lst ((rowsOf bs ins nds).map fun r=>V.str (rowT r.hd r.wds))):=ae
   have LB:B≠L:=ai hB4 hL
   have LI:I≠L:=ai hI4 hL
   have LN:N≠L:=ai hN4 hL
   have hB5:=sL _ _ hB4
   have hI5:=sL _ _ hI4
   have hN5:=sL _ _ hN4
   have s05:=aa s04 sL
   refine ⟨L,rfl,⟨_,aw.of gL⟩,?_⟩
   refine cf (xs:=(rowsOf bs ins nds).map fun r=>V.str (rowT r.hd r.wds)) (fun (i:Nat) (σ:L2.St) (Hx:Hp)=>∃(o5 o6 o7:Option V) (lv:Int) (vb vi vn:List V),σ=[some (.str (Hj "\n" (textOf bs ins nds))),some (.ref B),some (.ref I),some (.ref N),some (.int lv),o5,o6,o7]/\Rp H Hx B I N vb vi vn ((rowsOf bs ins nds).take i)/\Hx L=some (.lst ((rowsOf bs ins nds).map fun r=>V.str (rowT r.hd r.wds)))/\(∀j r,i<=j->(rowsOf bs ins nds)[j]? = some r->lv<=(r.rank:Int))) ⟨none,none,none,0,[],[],[],rfl,⟨s05,hB5,hI5,hN5,.nil,rfl,.nil⟩,gL,fun j r _ _=>Int.natCast_nonneg _⟩ (fun i σ Hx _ z=>?_) (fun i x0 σ Hx hx z=>?_) (fun σ Hx z=>?_)
   · obtain ⟨_,_,_,_,_,_,_,_,_,gL,_⟩:=z
     exact aw.of gL
   · obtain ⟨o5,o6,o7,lv,vb,vi,vn,rfl,rp,gLx,hlv⟩:=z
     obtain ⟨r,hr0,rfl⟩ : ∃r,(rowsOf bs ins nds)[i]? = some r/\V.str (rowT r.hd r.wds)=x0:=by
       rw [HR] at hx
       obtain ⟨r,h1,h2⟩:=Option.map_eq_some_iff.mp hx
       exact ⟨r,h1,h2⟩
     have hil:i < (rowsOf bs ins nds).length:=(List.getElem?_eq_some_iff.mp hr0).1
     have grow:=rg r (Hh hr0)
     refine ao ?_
     refine aB [some (.str (Hj "\n" (textOf bs ins nds))),some (.ref B),some (.ref I),some (.ref N),some (.int lv),some (.str (rowT r.hd r.wds)),o6,o7] rfl ?_
     refine ar fun Rk kR=>?_
     refine ⟨_,rfl,r.hd,r.wds,rfl,grow,fun v Hy sy ra=>?_⟩
     refine ao ?_
     refine kR _ _ ?_
     refine aB [some (.str (Hj "\n" (textOf bs ins nds))),some (.ref B),some (.ref I),some (.ref N),some (.int lv),some (.str (rowT r.hd r.wds)),some v,o7] rfl ?_
     obtain ⟨pv,vals,rfl,hpv,pav⟩:=ra
     refine ar fun Rk kR=>?_
     refine ⟨aR,rkL,rfl,dR,_,rfl,pv,_,_,_,rfl,rfl,aC.of hpv,km,r.hd,rfl,?_⟩
     rw [yo]
     refine ao ?_
     refine kR _ _ ?_
     refine aB [some (.str (Hj "\n" (textOf bs ins nds))),some (.ref B),some (.ref I),some (.ref N),some (.int lv),some (.str (rowT r.hd r.wds)),some (.ref pv),some (.int (r.rank:Int))] rfl ?_
     have hB6:=sy _ _ rp.hB
     have hI6:=sy _ _ rp.hI
     have hN6:=sy _ _ rp.hN
     have gLy:=sy _ _ gLx
     have vbl:=Paired.length rp.pb
     have vnl:=Paired.length rp.pn
     have vil:vi.length=(inR ((rowsOf bs ins nds).take i)).length:=by rw [rp.pi,GR]
     have fl1:(p9 ((rowsOf bs ins nds).take i)).length<=408:=GY (Jm _ _) (GY (JL _ _) (by omega))
     have fl2:(inR ((rowsOf bs ins nds).take i)).length<=408:=GY (Jm _ _) (GY (JL _ _) (by omega))
     have fl3:(q8 ((rowsOf bs ins nds).take i)).length<=408:=GY (Jm _ _) (GY (JL _ _) (by omega))
     refine ar fun Rk kR=>?_
     refine ⟨_,rfl,_,rfl,_,_,rfl,rfl,_,rfl,?_⟩
     refine iteF' (decide_eq_false (by have:=hlv i r (GX _) hr0; omega)) ?_
     refine kR _ _ ?_
     refine ar fun Rk kR=>?_
     refine ⟨_,rfl,?_⟩
     refine ao ?_
     refine kR _ _ ?_
     refine aB [some (.str (Hj "\n" (textOf bs ins nds))),some (.ref B),some (.ref I),some (.ref N),some (.int (r.rank:Int)),some (.str (rowT r.hd r.wds)),some (.ref pv),some (.int (r.rank:Int))] rfl ?_
     have hlv2:∀j r2,i + 1<=j->(rowsOf bs ins nds)[j]? = some r2->(r.rank:Int)<=(r2.rank:Int):=fun j r2 hj hr2=>by
       have hjl:=(List.getElem?_eq_some_iff.mp hr2).1
       have:=(List.pairwise_iff_getElem.mp (rL (bs:=bs) (ins:=ins) (nds:=nds))) i j hil hjl (by omega)
       rw [(List.getElem?_eq_some_iff.mp hr0).2,(List.getElem?_eq_some_iff.mp hr2).2] at this
       exact Int.ofNat_le.mpr this
     have tkn:(rowsOf bs ins nds).take (i + 1)=(rowsOf bs ins nds).take i++[r]:=by rw [Hl,hr0]; rfl
     match r,hr0,grow,hpv,pav,hlv2,tkn with
     | .box b,hr0,grow,hpv,pav,hlv2,tkn=>
       match vals,pav,hpv with
       | [x1,x2],.cons h1 (.cons h2 .nil),hpv=>
       have h1:x1=.str b.1:=h1
       have h2:x2=.int b.2:=h2
       subst h1 h2
       refine ⟨_,rfl,rfl,_,rfl,bt ?_⟩
       refine ⟨_,rfl,.inl ⟨rfl,_,aw.of hB6⟩,_,rfl,pv,_,_,_,rfl,rfl,aC.of hpv,rfl,_,rfl,pv,_,_,_,rfl,rfl,aC.of hpv,rfl,Nu,fun pb hpb=>?_⟩
       have sb:=ag hpb (.tup [.str b.1,.int b.2])
       have gb:(upd Hy pb (.tup [.str b.1,.int b.2])) pb=some (.tup [.str b.1,.int b.2]):=ae
       generalize upd Hy pb (.tup [.str b.1,.int b.2])=Hz at sb gb ⊢
       have hB7:=sb _ _ hB6
       have tk:=(ah.tk (aa sy sb)).trans (aZ (o2:=.lst (vb++[.ref pb])) hB7 (fun _ z=>nomatch z))
       refine ⟨B,_,_,rfl,rfl,hB7,Ho (show _<=1000 by omega) (by decide),_,_,_,_,vb++[.ref pb],vi,vn,rfl,⟨fun c o hc=>?_,ae,?_,?_,?_,?_,?_⟩,?_,hlv2⟩
       · rw [aj (ai hc nB)]
         exact sb _ _ (sy _ _ (rp.s c o hc))
       · rw [aj BI.symm]; exact sb _ _ hI6
       · rw [aj BN.symm]; exact sb _ _ hN6
       · rw [tkn,show p9 ((rowsOf bs ins nds).take i++[.box b])=p9 ((rowsOf bs ins nds).take i)++[b] by unfold p9; rw [Hs]; rfl]
         exact (Paired.mapP rp.pb fun _ _ z=>Tp.keep tk z).snoc ⟨pb,rfl,aZ (o2:=.lst (vb++[.ref pb])) hB7 (fun _ z=>nomatch z) _ _ gb⟩
       · rw [tkn,show inR ((rowsOf bs ins nds).take i++[.box b])=inR ((rowsOf bs ins nds).take i) by unfold inR; rw [Hs]; exact Hm _]
         exact rp.pi
       · rw [tkn,show q8 ((rowsOf bs ins nds).take i++[.box b])=q8 ((rowsOf bs ins nds).take i) by unfold q8; rw [Hs]; exact Hm _]
         exact Paired.mapP rp.pn fun _ _ z=>aP.keep tk z
       · rw [aj LB.symm]; exact sb _ _ gLy
     | .inp x,hr0,grow,hpv,pav,hlv2,tkn=>
       match vals,pav,hpv with
       | [x1],.cons h1 .nil,hpv=>
       have h1:x1=.str x:=h1
       subst h1
       refine ⟨_,rfl,rfl,_,rfl,aX ?_⟩
       refine ⟨_,rfl,rfl,_,rfl,bt ?_⟩
       have tk:=(ah.tk sy).trans (aZ (o2:=.lst (vi++[.str x])) hI6 (fun _ z=>nomatch z))
       refine ⟨_,rfl,.inl ⟨rfl,_,aw.of hI6⟩,_,rfl,pv,_,_,_,rfl,rfl,aC.of hpv,rfl,I,_,_,rfl,rfl,hI6,Ho (show _<=1000 by omega) (by decide),_,_,_,_,vb,vi++[.str x],vn,rfl,⟨fun c o hc=>?_,?_,ae,?_,?_,?_,?_⟩,?_,hlv2⟩
       · rw [aj (ai hc nI)]
         exact sy _ _ (rp.s c o hc)
       · rw [aj BI]; exact hB6
       · rw [aj IN.symm]; exact hN6
       · rw [tkn,show p9 ((rowsOf bs ins nds).take i++[.inp x])=p9 ((rowsOf bs ins nds).take i) by unfold p9; rw [Hs]; exact Hm _]
         exact Paired.mapP rp.pb fun _ _ z=>Tp.keep tk z
       · rw [tkn,show inR ((rowsOf bs ins nds).take i++[.inp x])=inR ((rowsOf bs ins nds).take i)++[x] by unfold inR; rw [Hs]; rfl,G2,rp.pi]
         rfl
       · rw [tkn,show q8 ((rowsOf bs ins nds).take i++[.inp x])=q8 ((rowsOf bs ins nds).take i) by unfold q8; rw [Hs]; exact Hm _]
         exact Paired.mapP rp.pn fun _ _ z=>aP.keep tk z
       · rw [aj LI.symm]; exact gLy
     | .nd e,hr0,grow,hpv,pav,hlv2,tkn=>
       refine ⟨_,rfl,rfl,_,rfl,aX ?_⟩
       refine ⟨_,rfl,rfl,_,rfl,aX ?_⟩
       have tk:=(ah.tk sy).trans (aZ (o2:=.lst (vn++[.ref pv])) hN6 (fun _ z=>nomatch z))
       have np:aP Hy (.ref pv) e:=wo.np ⟨pv,vals,rfl,hpv,pav⟩
       refine ⟨_,rfl,.inl ⟨rfl,_,aw.of hN6⟩,_,rfl,N,_,_,rfl,rfl,hN6,Ho (show _<=1000 by omega) (by decide),_,_,_,_,vb,vi,vn++[.ref pv],rfl,⟨fun c o hc=>?_,?_,?_,ae,?_,?_,?_⟩,?_,hlv2⟩
       · rw [aj (ai hc nN)]
         exact sy _ _ (rp.s c o hc)
       · rw [aj BN]; exact hB6
       · rw [aj IN]; exact hI6
       · rw [tkn,show p9 ((rowsOf bs ins nds).take i++[.nd e])=p9 ((rowsOf bs ins nds).take i) by unfold p9; rw [Hs]; exact Hm _]
         exact Paired.mapP rp.pb fun _ _ z=>Tp.keep tk z
       · rw [tkn,show inR ((rowsOf bs ins nds).take i++[.nd e])=inR ((rowsOf bs ins nds).take i) by unfold inR; rw [Hs]; exact Hm _]
         exact rp.pi
       · rw [tkn,show q8 ((rowsOf bs ins nds).take i++[.nd e])=q8 ((rowsOf bs ins nds).take i)++[e] by unfold q8; rw [Hs]; rfl]
         exact (Paired.mapP rp.pn fun _ _ z=>aP.keep tk z).snoc (aP.keep (aZ (o2:=.lst (vn++[.ref pv])) hN6 (fun _ z=>nomatch z)) np)
       · rw [aj LN.symm]; exact gLy
   obtain ⟨o5,o6,o7,lv,vb,vi,vn,rfl,rp,_,_⟩:=z
   rw [GR,HB] at rp
   have e1:=zO bs ins nds
   have e2:=Ab bs ins nds
   have e3:=Aw bs ins nds
   have pb:=rp.pb
   have pn:=rp.pn
   have pi:=rp.pi
   rw [e1] at pb
   rw [e3] at pn
   rw [e2] at pi
   subst pi
   refine kR _ _ ?_
   refine ⟨_,rfl,_,rfl,_,rfl,B,I,N,vb,vn,bs,ins,nds,rfl,⟨rp.hB,pb,rp.hI,rp.hN,pn,pg.bx,pg.ind,pg.insub,by omega,pg.one,by omega,pg.good⟩,fun p' B' I' N' H' n3=>?_⟩
   exact q p' B' I' N' vb vn H' ⟨aa rp.s n3.s,aE rp.s n3.nB,aE rp.s n3.nI,aE rp.s n3.nN,n3.BN,n3.IN,n3.BI,n3.hp,n3.hB,n3.hI,n3.hN,Paired.mapP pb fun _ _ z=>Tp.keep (ah.tk n3.s) z,Paired.mapP pn fun _ _ z=>aP.keep (ah.tk n3.s) z⟩
theorem qL {aR:Addr}(s:Src K mg "read_program" sRProg)(hR:mg "RANKS"=some (.ref aR))(dR:cQ w K aR rkL)(cN:lg mg "NODE_RANK" 2)(RR0:aJ P w K mg base "read_row" ["row"] 11 mn)(PP:aJ P w K mg base "picked_program" ["boxes","inputs","nodes"] 36 bR):aJ P w K mg base "read_program" ["text"] 37 f7:=
 let ⟨f,fd,F,m⟩:=s
 ⟨f,fd,uT F hR dR cN RR0 PP,F.kp,cT F fun _ _ _ _ _ _ _=>rfl,m⟩
end
end TW
set_option Elab.async false
set_option linter.all false
set_option maxRecDepth 100000
set_option exponentiation.threshold 4000
set_option maxHeartbeats 1000000
namespace TW
open PySem L2
section
variable {P:Program}{w:World}{K:GP}{mg:Str->Option Value}{base:Heap}
abbrev sNum:Stmt:=top 59
abbrev sSum:Stmt:=top 60
abbrev sCond:Stmt:=top 61
/-! ### drawn numbers,sums,conditions -/
structure Nm (H:Hp)(nl:Addr)(ns:List Str):Prop where
 hn:H nl=some (.lst (ns.map V.str))
 l4:ns.length<=4
theorem Nm.go {H H1:Hp}{nl:Addr}{ns:List Str}(d:Nm H nl ns)(s:ah H H1):Nm H1 nl ns:=⟨s _ _ d.hn,d.l4⟩
theorem oq {n:Int}(h:n < 1000):n < 10 ^ 30:=by
 have e:(10:Int) ^ 30=1000000000000000000000000000000:=by decide
 rw [e]
 omega
theorem qW {m:Nat}(n:Nat)(h:m<=34):m<=34 * 2 ^ n:=by
 have:1<=2 ^ n:=JU
 omega
def pU:Sp:=fun vs H Q _=>∃c k:Int,vs=[.int c,.int k]/\0<=k/\k < 2 ^ 36/\∀(n:Int) (H':Hp),(0<=n/\n < 10 ^ 30)->ah H H'->Q (.int n) H'
theorem pR:aq ["cell","k","number","far"] ["cell","k"] (af sNum):=⟨rfl,rfl,rfl,by decide +kernel,rfl,by decide +kernel,by decide +kernel⟩
theorem bY:(af sNum).names.lookup (GQ "_law_stir")=some .globalImplicit:=by decide +kernel
theorem AB {f:Addr}{fd:FuncData}(F:bI K "_law_number" "_law_number" sNum f fd)(ST:aJ P w K mg base "_law_stir" ["cell","k"] 1 bo):aL P w K mg base CX0 2 f fd ["cell","k"] pU:=by
 refine F.ok pR (fun vs H Q E h=>?_) (fun cdv A outer s H vs Q E hr h=>?_)
 · obtain ⟨c,k,rfl,_⟩:=h
   rfl
 · obtain ⟨c,k,rfl,k0,k1,q⟩:=h
   refine cH ⟨_,(K6 (Ld 2 pR.nd (K9 ST hr bY (K1 (K0 0) (K1 (K0 1) K3))))
     (K6 (Ld 3 pR.nd (K5 Lo (K5 Ly (K9 ST hr bY (K1 (K0 0) (K1 (K5 Lo (K0 1) K4) K3))) (K5 L7 K4 K4)) (K5 Ly (K9 ST hr bY (K1 (K0 0) (K1 (K5 Lo (K0 1) K4) K3))) (K5 L7 K4 K4))))
     (K6 (Ld 3 pR.nd (K5 Lo (K5 Lo (K0 3) (K5 Ly (K9 ST hr bY (K1 (K0 0) (K1 (K5 Lo (K0 1) K4) K3))) (K5 L7 K4 K4))) (K0 2)))
     (K8 (Lc (La Lq (Lj (K1 K4 (K1 (K5 Lk (K5 Ls (K0 2) K4) K4) (K1 (K5 Lk (K5 Ls (K0 2) K4) K4) (K1 (K5 Lk (K0 3) (K5 L7 K4 K4)) K3))))) (K5 Lk (K0 2) K4))))))),?_⟩
   refine ar fun Rk kR=>?_
   refine ⟨_,rfl,_,rfl,c,k,rfl,k0,by omega,fun r r0 r1=>?_⟩
   refine ao ?_
   refine kR _ _ ?_
   refine aB [some (.int c),some (.int k),some (.int r),none] rfl ?_
   refine ar fun Rk kR=>?_
   refine ⟨_,rfl,_,rfl,_,_,rfl,rfl,c,k + 700,rfl,by omega,by omega,fun a a0 a1=>?_⟩
   refine ⟨_,_,rfl,rfl,⟨by decide,by decide,by decide⟩,_,_,rfl,rfl,.inl ⟨by omega,by omega⟩,?_⟩
   refine ⟨_,rfl,_,rfl,_,_,rfl,rfl,c,k + 701,rfl,by omega,by omega,fun b b0 b1=>?_⟩
   refine ⟨_,_,rfl,rfl,⟨by decide,by decide,by decide⟩,_,_,rfl,rfl,.inl ⟨by omega,by omega⟩,_,_,rfl,rfl,?_⟩
   refine ao ?_
   refine kR _ _ ?_
   refine ar fun Rk kR=>?_
   refine ⟨_,rfl,_,rfl,_,rfl,_,_,rfl,rfl,c,k + 702,rfl,by omega,by omega,fun d d0 d1=>?_⟩
   refine ⟨_,_,rfl,rfl,⟨by decide,by decide,by decide⟩,_,_,rfl,rfl,.inl ⟨by omega,by omega⟩,_,_,rfl,rfl,_,rfl,_,_,rfl,rfl,?_⟩
   refine ao ?_
   refine kR _ _ ?_
   refine aB [some (.int c),some (.int k),some (.int r),some (.int (a * 10 ^ (22:Int).toNat + b * 10 ^ (14:Int).toNat + d * 10 ^ (7:Int).toNat + r))] rfl ?_
   obtain ⟨far,hfar⟩ : ∃far,far=a * 10 ^ (22:Int).toNat + b * 10 ^ (14:Int).toNat + d * 10 ^ (7:Int).toNat + r:=⟨_,rfl⟩
   rw [← hfar]
   refine ⟨_,rfl,_,_,rfl,rfl,⟨by decide,by decide +kernel⟩,_,_,rfl,rfl,(by show (0:Int) < 10; decide),?_⟩
   refine ⟨_,rfl,_,_,rfl,rfl,⟨by decide,by decide +kernel⟩,_,_,rfl,rfl,(by show (0:Int) < 1000; decide),?_⟩
   refine ⟨_,rfl,_,_,rfl,rfl,⟨by decide,by decide,by decide⟩,_,_,rfl,rfl,(by show (0:Int) < 10 ^ 30; decide),Nw,fun L hL=>?_⟩
   refine ⟨_,rfl,_,_,rfl,rfl,(by show (0:Int) < 4; decide),?_⟩
   obtain ⟨_,hat,n,rfl,n0,n1⟩:=wq (P:=fun v=>∃n:Int,v=.int n/\0<=n/\n < 10 ^ 30) (xs:=[.int 0,.int (r / 8 % 10),.int (r / 8 % 1000),.int (far % 10 ^ (30:Int).toNat)]) (r:=r % 4) (aO (by decide)) (aN (by decide)) (fun x hx=>by
     rcases List.mem_cons.mp hx with e | hx
     · exact ⟨_,e,by decide,by decide⟩
     rcases List.mem_cons.mp hx with e | hx
     · refine ⟨_,e,aO (by decide),?_⟩
       have:=aN (k:=r / 8) (n:=10) (by decide)
       exact oq (by omega)
     rcases List.mem_cons.mp hx with e | hx
     · refine ⟨_,e,aO (by decide),?_⟩
       have:=aN (k:=r / 8) (n:=1000) (by decide)
       exact oq (by omega)
     · refine ⟨_,List.mem_singleton.mp hx,aO (by decide),?_⟩
       exact aN (k:=far) (n:=10 ^ (30:Int).toNat) (by decide))
   exact ⟨L,_,_,_,rfl,rfl,aw.of ae,hat,q n _ ⟨n0,n1⟩ (ag hL _)⟩
theorem wV (s:Src K mg "_law_number" sNum)(ST:aJ P w K mg base "_law_stir" ["cell","k"] 1 bo):aJ P w K mg base "_law_number" ["cell","k"] 2 pU:=
 let ⟨f,fd,F,m⟩:=s
 ⟨f,fd,AB F ST,F.kp,cU F fun _ _ _ _ _ _ _ _=>rfl,m⟩
def kb:Nat->Int
 | 0=>34359738368
 | n + 1=>(kb n - 2) / 2
theorem y6:∀n,kb n<=34359738368
 | 0=>by decide
 | n + 1=>by
   have:=y6 n
   show (kb n - 2) / 2<=_
   omega
theorem CV {n:Nat}{k:Int}(h:k < kb (n + 1)):2 * k + 2 < kb n:=by
 have:k < (kb n - 2) / 2:=h
 omega
structure kh (ns:List Str)(d s:Nat)(e:E):Prop where
 is:e.isS
 ok:e.okN (· ∈ ns)
 dp:e.dep<=d
 sz:e.sz + 3<=s
structure ke (ns:List Str)(d s:Nat)(e:E):Prop where
 is:e.isC
 ok:e.okN (· ∈ ns)
 dp:e.dep<=d
 sz:e.sz + 3<=s
theorem ve {k:Int}{a b:K2}(h0:0<=k)(h1:k < 2):∃kk:K2,ig ([.str a.str,.str b.str]:List V) k=some (.str kk.str)/\(kk=a\/kk=b):=by
 rcases (show k=0\/k=1 by omega) with rfl | rfl
 · exact ⟨a,rfl,.inl rfl⟩
 · exact ⟨b,rfl,.inr rfl⟩
def dC (n:Nat):Sp:=fun vs H Q _=>∃(c k:Int) (nl:Addr) (d:Int) (ns:List Str),vs=[.int c,.int k,.ref nl,.int d]/\Nm H nl ns/\0<=k/\k < kb n/\0<=d/\d < n/\∀(v:V) (e:E) (H':Hp),ah H H'->bL H' v e->kh ns d.toNat (34 * 2 ^ d.toNat) e->Q v H'
theorem uw {f:Addr}{fd:FuncData}:aL P w K mg base CX0 3 f fd ["cell","k","names","deep"] (dC 0):=by
 have no:∀vs H Q E,¬ dC 0 vs H Q E:=fun vs H Q E h=>by
   obtain ⟨c,k,nl,d,ns,_,_,_,_,d0,dn,_⟩:=h
   omega
 exact ⟨fun vs H Q E h=>absurd h (no vs H Q E),fun A outer s H args us vs Q E _ _ _ _ h=>absurd h (no vs H Q E)⟩
theorem vL:aq ["cell","k","names","deep","number","one"] ["cell","k","names","deep"] (af sSum):=⟨rfl,rfl,rfl,by decide +kernel,rfl,by decide +kernel,by decide +kernel⟩
theorem iz:(af sSum).names.lookup (GQ "_law_number")=some .globalImplicit:=by decide +kernel
theorem j4:(af sSum).names.lookup (GQ "_law_stir")=some .globalImplicit:=by decide +kernel
theorem fR:(af sSum).names.lookup (GQ "_law_sum")=some .globalImplicit:=by decide +kernel
theorem tu:(af sSum).names.lookup (GQ "len")=some .globalImplicit:=by decide +kernel
theorem AF {n:Nat}{f:Addr}{fd:FuncData}(F:bI K "_law_sum" "_law_sum" sSum f fd)(m_len:mg "len"=none)(ST0:aJ P w K mg base "_law_stir" ["cell","k"] 1 bo)(NU0:aJ P w K mg base "_law_number" ["cell","k"] 2 pU)(G:aJ P w K mg base "_law_sum" ["cell","k","names","deep"] (n + 3) (dC n)):aL P w K mg base CX0 (n + 1 + 3) f fd ["cell","k","names","deep"] (dC (n + 1)):=by
 refine F.ok vL (fun vs H Q E h=>?_) (fun cdv A outer s H vs Q E hr h=>?_)
 · obtain ⟨c,k,nl,d,ns,rfl,_⟩:=h
   rfl
 · obtain ⟨c,k,nl,d,ns,rfl,D,k0,k1,d0,dn,q⟩:=h
   have ST:=ST0.mono (show 1<=n + 3 by omega)
   have NU:=NU0.mono (show 2<=n + 3 by omega)
   have kl:=y6 (n + 1)
   have ku:=CV k1
   refine cH ⟨_,(K6 (Ld 4 vL.nd (K9 ST hr j4 (K1 (K0 0) (K1 (K0 1) K3))))
     (K6 (Lf (Lv (LR (Lb Ll (K0 3) K4) (LZ (Lb Ll (K5 Lk (K0 4) K4) K4)))) (K6 (Lf (Lv (LR (Lb (Mq (m:=2) (cO hr _ (by decide))) (K0 2) (Lj K3)) (LZ (Lb Ll (K5 Lk (K5 Ls (K0 4) K4) K4) K4)))) (K8 (Lc (Lg (K1 K7 (K1 (K9 NU hr iz (K1 (K0 0) (K1 (K5 Lo (K0 1) K4) K3))) K3))))) Lh)
     (K8 (Lc (Lg (K1 K7 (K1 (La Lq (K0 2) (K5 Lk (K5 Ls (K0 4) K4) (Lm Lp tu m_len G1 (K1 (K0 2) K3)))) K3)))))) Lh)
     (K6 (Ld 5 vL.nd (K9 G hr fR (K1 (K0 0) (K1 (K5 Lo (K5 Ly K4 (K0 1)) K4) (K1 (K0 2) (K1 (K5 L8 (K0 3) K4) K3))))))
     (K8 (Lc (Lg (K1 (La Lq (Lj (K1 K7 (K1 K7 K3))) (K5 Lk (K5 Ls (K0 4) K4) K4)) (K1 (K0 5) (K1 (K9 G hr fR (K1 (K0 0) (K1 (K5 Lo (K5 Ly K4 (K0 1)) K4) (K1 (K0 2) (K1 (K5 L8 (K0 3) K4) K3))))) K3))))))))),?_⟩
   refine ar fun Rk kR=>?_
   refine ⟨_,rfl,_,rfl,c,k,rfl,k0,by omega,fun r r0 r1=>?_⟩
   refine ao ?_
   refine kR _ _ ?_
   refine aB [some (.int c),some (.int k),some (.ref nl),some (.int d),some (.int r),none] rfl ?_
   refine ar fun Rk kR=>?_
   refine ⟨_,rfl,rfl,_,rfl,?_⟩
   refine aH (fun cd=>?_) (fun cd=>?_)
   · refine bt ?_
     refine ar fun Rk2 kR2=>?_
     refine ⟨_,rfl,Nr,fun z hz=>?_⟩
     have sz:ah H (upd H z (.lst [])):=ag hz _
     have gz:(upd H z (.lst [])) z=some (.lst []):=ae
     generalize upd H z (.lst [])=Hz at sz gz ⊢
     have Dz:=D.go sz
     refine ⟨_,RB.nil (aw.of Dz.hn) (aw.of gz),_,rfl,?_⟩
     refine aH (fun c1=>?_) (fun c1=>?_)
     · refine bt ?_
       refine ⟨_,rfl,_,rfl,_,_,rfl,rfl,c,k + 1000,rfl,by omega,by omega,fun i H2 i1 s2=>⟨Nu,fun p hp=>?_⟩⟩
       exact q (.ref p) (.num i) _ (aA (aa sz s2) hp) ⟨p,rfl,ae⟩ ⟨Ht,i1,HD _,qW (m:=34) _ (by decide)⟩
     have hpos:0 < ns.length:=by
       cases ns with
       | nil=>exact absurd rfl c1
       | cons a l=>exact Iz _
     refine ⟨_,rfl,_,_,rfl,rfl,⟨by decide,by decide +kernel⟩,_,_,rfl,rfl,(by show (0:Int) < 3; decide),rfl,_,rfl,?_⟩
     refine aH (fun c2=>?_) (fun c2=>?_)
     · refine ⟨_,rfl,_,rfl,_,_,rfl,rfl,c,k + 1000,rfl,by omega,by omega,fun i H2 i1 s2=>⟨Nu,fun p hp=>?_⟩⟩
       exact q (.ref p) (.num i) _ (aA (aa sz s2) hp) ⟨p,rfl,ae⟩ ⟨Ht,i1,HD _,qW (m:=34) _ (by decide)⟩
     refine kR2 _ _ ?_
     refine ⟨_,rfl,_,rfl,_,_,rfl,rfl,⟨by decide,by decide +kernel⟩,_,rfl,nl,_,rfl,.inl (aw.of Dz.hn),_,_,rfl,rfl,(by rw [GR]; omega),?_⟩
     rw [GR]
     obtain ⟨x,hxm,hat⟩:=eC V.str ns (aO (k:=r / 9) (n:=(ns.length:Int)) (by omega)) (aN (by omega))
     refine ⟨nl,_,_,_,rfl,rfl,aw.of Dz.hn,hat,Nu,fun p hp=>?_⟩
     exact q (.ref p) (.box "box" x) _ (aA sz hp) ⟨p,rfl,ae⟩ ⟨Ht,⟨rfl,hxm⟩,HD _,qW (m:=11) _ (by decide)⟩
   refine ⟨_,rfl,_,_,rfl,rfl,(by show (0:Int) < 3; decide),rfl,_,rfl,?_⟩
   refine aH (fun c3=>?_) (fun c3=>?_)
   · refine ar fun Rk2 kR2=>?_
     refine ⟨_,rfl,Nr,fun z hz=>?_⟩
     have sz:ah H (upd H z (.lst [])):=ag hz _
     have gz:(upd H z (.lst [])) z=some (.lst []):=ae
     generalize upd H z (.lst [])=Hz at sz gz ⊢
     have Dz:=D.go sz
     refine ⟨_,RB.nil (aw.of Dz.hn) (aw.of gz),_,rfl,?_⟩
     refine aH (fun c1=>?_) (fun c1=>?_)
     · refine bt ?_
       refine ⟨_,rfl,_,rfl,_,_,rfl,rfl,c,k + 1000,rfl,by omega,by omega,fun i H2 i1 s2=>⟨Nu,fun p hp=>?_⟩⟩
       exact q (.ref p) (.num i) _ (aA (aa sz s2) hp) ⟨p,rfl,ae⟩ ⟨Ht,i1,HD _,qW (m:=34) _ (by decide)⟩
     have hpos:0 < ns.length:=by
       cases ns with
       | nil=>exact absurd rfl c1
       | cons a l=>exact Iz _
     refine ⟨_,rfl,_,_,rfl,rfl,⟨by decide,by decide +kernel⟩,_,_,rfl,rfl,(by show (0:Int) < 3; decide),rfl,_,rfl,?_⟩
     refine aH (fun c2=>?_) (fun c2=>?_)
     · refine ⟨_,rfl,_,rfl,_,_,rfl,rfl,c,k + 1000,rfl,by omega,by omega,fun i H2 i1 s2=>⟨Nu,fun p hp=>?_⟩⟩
       exact q (.ref p) (.num i) _ (aA (aa sz s2) hp) ⟨p,rfl,ae⟩ ⟨Ht,i1,HD _,qW (m:=34) _ (by decide)⟩
     refine kR2 _ _ ?_
     refine ⟨_,rfl,_,rfl,_,_,rfl,rfl,⟨by decide,by decide +kernel⟩,_,rfl,nl,_,rfl,.inl (aw.of Dz.hn),_,_,rfl,rfl,(by rw [GR]; omega),?_⟩
     rw [GR]
     obtain ⟨x,hxm,hat⟩:=eC V.str ns (aO (k:=r / 9) (n:=(ns.length:Int)) (by omega)) (aN (by omega))
     refine ⟨nl,_,_,_,rfl,rfl,aw.of Dz.hn,hat,Nu,fun p hp=>?_⟩
     exact q (.ref p) (.box "box" x) _ (aA sz hp) ⟨p,rfl,ae⟩ ⟨Ht,⟨rfl,hxm⟩,HD _,qW (m:=11) _ (by decide)⟩
   have d1:=Ae cd
   refine kR _ _ ?_
   refine ar fun Rk kR=>?_
   refine ⟨_,rfl,_,rfl,_,_,rfl,rfl,.inr ⟨by omega,by omega⟩,_,_,rfl,rfl,_,rfl,_,rfl,_,_,rfl,rfl,c,2 * k + 1,nl,d - 1,ns,rfl,D,by omega,by omega,by omega,by omega,fun v e H2 s2 ev w1=>?_⟩
   refine ao ?_
   refine kR _ _ ?_
   refine aB [some (.int c),some (.int k),some (.ref nl),some (.int d),some (.int r),some v] rfl ?_
   refine ⟨Nu,fun L hL=>?_⟩
   have sL:ah H2 (upd H2 L (.lst [.str "plus",.str "less"])):=ag hL _
   have gL:(upd H2 L (.lst [.str "plus",.str "less"])) L=some (.lst [.str "plus",.str "less"]):=ae
   generalize upd H2 L (.lst [.str "plus",.str "less"])=H3 at sL gL ⊢
   refine ⟨_,rfl,_,_,rfl,rfl,⟨by decide,by decide +kernel⟩,_,_,rfl,rfl,(by show (0:Int) < 2; decide),?_⟩
   obtain ⟨kk,hat,hkk⟩:=ve (a:=.plus) (b:=.less) (aO (k:=r / 3) (n:=2) (by decide)) (aN (by decide))
   refine ⟨L,_,_,_,rfl,rfl,aw.of gL,hat,_,rfl,_,rfl,_,rfl,_,_,rfl,rfl,.inr ⟨by omega,by omega⟩,_,_,rfl,rfl,_,rfl,_,rfl,_,_,rfl,rfl,c,2 * k + 2,nl,d - 1,ns,rfl,D.go (aa s2 sL),by omega,by omega,by omega,by omega,fun v2 e2 H4 s4 ev2 w2=>⟨Nv,fun p hp=>?_⟩⟩
   have s24:=aA (aa sL s4) (o:=.tup [.str kk.str,v,v2]) hp
   refine q (.ref p) (.two kk e e2) _ (aa s2 s24) ⟨v,v2,⟨p,rfl,ae⟩,ev.keep (ah.tk s24),ev2.keep (jU hp _)⟩ ⟨?_,⟨w1.ok,w2.ok⟩,?_,?_⟩
   · rcases hkk with rfl | rfl <;> exact ⟨w1.is,w2.is⟩
   · have h1:=w1.dp
     have h2:=w2.dp
     show max e.dep e2.dep + 1<=d.toNat
     omega
   · have h1:=w1.sz
     have h2:=w2.sz
     have ed:d.toNat=(d - 1).toNat + 1:=by omega
     show e.sz + e2.sz + 3 + 3<=34 * 2 ^ d.toNat
     rw [ed,KW]
     omega
theorem wY (s:Src K mg "_law_sum" sSum)(m_len:mg "len"=none)(ST0:aJ P w K mg base "_law_stir" ["cell","k"] 1 bo)(NU0:aJ P w K mg base "_law_number" ["cell","k"] 2 pU):∀n:Nat,aJ P w K mg base "_law_sum" ["cell","k","names","deep"] (n + 3) (dC n):=by
 obtain ⟨f,fd,F,m⟩:=s
 have b:Binds K fd ["cell","k","names","deep"] []:=zN F fun _ _ _ _ _ _ _ _ _ _=>rfl
 intro n
 have all:aL P w K mg base CX0 (n + 3) f fd ["cell","k","names","deep"] (dC n):=by
   induction n with
   | zero=>exact uw
   | succ n ih=>exact AF F m_len ST0 NU0 ⟨f,fd,ih,F.kp,b,m⟩
 exact ⟨f,fd,all,F.kp,b,m⟩
end
end TW
set_option Elab.async false
set_option linter.all false
set_option maxRecDepth 100000
set_option exponentiation.threshold 4000
set_option maxHeartbeats 1000000
namespace TW
open PySem L2
section
variable {P:Program}{w:World}{K:GP}{mg:Str->Option Value}{base:Heap}
abbrev sGS:Stmt:=top 62
abbrev sGC:Stmt:=top 63
def kc:Nat->Int
 | 0=>1073741824
 | n + 1=>(kc n - 2) / 3
theorem y7:∀n,kc n<=1073741824
 | 0=>by decide
 | n + 1=>by
   have:=y7 n
   show (kc n - 2) / 3<=_
   omega
theorem CW {n:Nat}{k:Int}(h:k < kc (n + 1)):3 * k + 2 < kc n:=by
 have:k < (kc n - 2) / 3:=h
 omega
theorem jM (n m:Nat)(h:m<=272):m<=272 * 2 ^ n:=by
 have:1<=2 ^ n:=JU
 omega
def d9 (n:Nat):Sp:=fun vs H Q _=>∃(c k:Int) (nl:Addr) (d:Int) (ns:List Str),vs=[.int c,.int k,.ref nl,.int d]/\Nm H nl ns/\0<=k/\k < kc n/\0<=d/\d < n/\∀(v:V) (e:E) (H':Hp),ah H H'->bL H' v e->ke ns (d.toNat + 3) (272 * 2 ^ d.toNat) e->Q v H'
theorem rb {f:Addr}{fd:FuncData}:aL P w K mg base CX0 7 f fd ["cell","k","names","deep"] (d9 0):=by
 have no:∀vs H Q E,¬ d9 0 vs H Q E:=fun vs H Q E h=>by
   obtain ⟨c,k,nl,d,ns,_,_,_,_,d0,dn,_⟩:=h
   omega
 exact ⟨fun vs H Q E h=>absurd h (no vs H Q E),fun A outer s H args us vs Q E _ _ _ _ h=>absurd h (no vs H Q E)⟩
theorem jI:aq ["cell","k","names","deep","number","kind","one"] ["cell","k","names","deep"] (af sCond):=⟨rfl,rfl,rfl,by decide +kernel,rfl,by decide +kernel,by decide +kernel⟩
theorem bH:(af sCond).names.lookup (GQ "_law_condition")=some .globalImplicit:=by decide +kernel
theorem jg:(af sCond).names.lookup (GQ "_law_stir")=some .globalImplicit:=by decide +kernel
theorem eQ:(af sCond).names.lookup (GQ "_law_sum")=some .globalImplicit:=by decide +kernel
theorem Cr (n:Nat):1<=2 ^ n:=JU
theorem xv {n:Nat}{f:Addr}{fd:FuncData}(F:bI K "_law_condition" "_law_condition" sCond f fd)(ST0:aJ P w K mg base "_law_stir" ["cell","k"] 1 bo)(SM0:aJ P w K mg base "_law_sum" ["cell","k","names","deep"] 6 (dC 3))(G:aJ P w K mg base "_law_condition" ["cell","k","names","deep"] (n + 7) (d9 n)):aL P w K mg base CX0 (n + 1 + 7) f fd ["cell","k","names","deep"] (d9 (n + 1)):=by
 refine F.ok jI (fun vs H Q E h=>?_) (fun cdv A outer s H vs Q E hr h=>?_)
 · obtain ⟨c,k,nl,d,ns,rfl,_⟩:=h
   rfl
 · obtain ⟨c,k,nl,d,ns,rfl,D,k0,k1,d0,dn,q⟩:=h
   have ST:=ST0.mono (show 1<=n + 7 by omega)
   have SM:=SM0.mono (show 6<=n + 7 by omega)
   have kl:=y7 (n + 1)
   have ku:=CW k1
   have kb3:3500000000 < kb 3:=by decide
   refine cH ⟨_,(K6 (Ld 4 jI.nd (K9 ST hr jg (K1 (K0 0) (K1 (K0 1) K3))))
     (K6 (Ld 5 jI.nd (K5 Lk (K0 4) K4))
     (K6 (Lf (Lb Ll (K0 5) K4) (K8 (Lc (Lg (K1 K7 K3)))) Lh)
     (K6 (Lf (Lv (LO (Lb Ll (K0 5) K4) (LP (Lb Me (K0 3) K4)))) (K8 (Lc (Lg (K1 K7 (K1 (K9 G hr bH (K1 (K0 0) (K1 (K5 Lo (K5 Ly K4 (K0 1)) K4) (K1 (K0 2) (K1 (K5 L8 (K0 3) K4) K3))))) K3))))) Lh)
     (K6 (Lf (Lv (LO (Lb LX (K0 5) K4) (LP (Lb Me (K0 3) K4)))) (K6 (Ld 6 jI.nd (K9 G hr bH (K1 (K0 0) (K1 (K5 Lo (K5 Ly K4 (K0 1)) K4) (K1 (K0 2) (K1 (K5 L8 (K0 3) K4) K3))))))
     (K8 (Lc (Lg (K1 K7 (K1 (K0 6) (K1 (K9 G hr bH (K1 (K0 0) (K1 (K5 Lo (K5 Ly K4 (K0 1)) K4) (K1 (K0 2) (K1 (K5 L8 (K0 3) K4) K3))))) K3))))))) Lh)
     (K6 (Ld 6 jI.nd (K9 SM hr eQ (K1 (K0 0) (K1 (K5 Lo (K5 Ly K4 (K0 1)) K4) (K1 (K0 2) (K1 K4 K3))))))
     (K8 (Lc (Lg (K1 (La Lq (Lj (K1 K7 (K1 K7 K3))) (K5 Lk (K5 Ls (K0 4) K4) K4)) (K1 (K0 6) (K1 (K9 SM hr eQ (K1 (K0 0) (K1 (K5 Lo (K5 Ly K4 (K0 1)) K4) (K1 (K0 2) (K1 K4 K3))))) K3)))))))))))),?_⟩
   refine sD fun Rk kR=>?_
   refine ⟨_,rfl,_,rfl,c,k,rfl,k0,by omega,fun r r0 r1=>?_⟩
   refine ao ?_
   refine ⟨_,rfl,_,_,rfl,rfl,(by show (0:Int) < 6; decide),?_⟩
   refine ao ?_
   refine kR _ _ ?_
   refine aB [some (.int c),some (.int k),some (.ref nl),some (.int d),some (.int r),some (.int (r % 6)),none] rfl ?_
   refine ar fun Rk kR=>?_
   refine ⟨_,rfl,rfl,_,rfl,?_⟩
   refine aH (fun cd=>?_) (fun cd=>?_)
   · refine ⟨Nt,fun p hp=>?_⟩
     exact q (.ref p) .yes _ (ag hp _) ⟨p,rfl,ae⟩ ⟨Ht,Ht,HD _,jM _ _ (by decide)⟩
   refine kR _ _ ?_
   refine ar fun Rk kR=>?_
   refine ⟨_,rfl,rfl,_,rfl,?_⟩
   suffices hs:Rk [some (.int c),some (.int k),some (.ref nl),some (.int d),some (.int r),some (.int (r % 6)),none] H by
     refine aH (fun c1=>?_) (fun c1=>aX hs)
     refine ⟨_,rfl,_,_,rfl,rfl,_,rfl,?_⟩
     refine aH (fun c2=>?_) (fun c2=>hs)
     have dpos:0 < d:=of_decide_eq_true c2
     refine ⟨_,rfl,_,rfl,_,_,rfl,rfl,.inr ⟨by omega,by omega⟩,_,_,rfl,rfl,_,rfl,_,rfl,_,_,rfl,rfl,c,3 * k + 1,nl,d - 1,ns,rfl,D,by omega,by omega,by omega,by omega,fun v e H2 s2 ev w1=>?_⟩
     refine ⟨Nu,fun p hp=>?_⟩
     refine q (.ref p) (.nt e) _ (aA s2 hp) ⟨v,⟨p,rfl,ae⟩,ev.keep (jU hp _)⟩ ⟨w1.is,w1.ok,?_,?_⟩
     · have:=w1.dp
       show e.dep + 1<=d.toNat + 3
       omega
     · have h1:=w1.sz
       have ed:d.toNat=(d - 1).toNat + 1:=by omega
       show e.sz + 1 + 3<=272 * 2 ^ d.toNat
       have:=Cr (d - 1).toNat
       rw [ed,KW]
       omega
   refine kR _ _ ?_
   refine ar fun Rk kR=>?_
   refine ⟨_,rfl,_,_,rfl,rfl,_,rfl,?_⟩
   suffices hs:Rk [some (.int c),some (.int k),some (.ref nl),some (.int d),some (.int r),some (.int (r % 6)),none] H by
     refine aH (fun c1=>?_) (fun c1=>aX hs)
     refine ⟨_,rfl,_,_,rfl,rfl,_,rfl,?_⟩
     refine aH (fun c2=>?_) (fun c2=>hs)
     have dpos:0 < d:=of_decide_eq_true c2
     refine ar fun Rk kR=>?_
     refine ⟨_,rfl,_,rfl,_,_,rfl,rfl,.inr ⟨by omega,by omega⟩,_,_,rfl,rfl,_,rfl,_,rfl,_,_,rfl,rfl,c,3 * k + 1,nl,d - 1,ns,rfl,D,by omega,by omega,by omega,by omega,fun v e H2 s2 ev w1=>?_⟩
     refine ao ?_
     refine kR _ _ ?_
     refine aB [some (.int c),some (.int k),some (.ref nl),some (.int d),some (.int r),some (.int (r % 6)),some v] rfl ?_
     refine ⟨_,rfl,_,rfl,_,rfl,_,_,rfl,rfl,.inr ⟨by omega,by omega⟩,_,_,rfl,rfl,_,rfl,_,rfl,_,_,rfl,rfl,c,3 * k + 2,nl,d - 1,ns,rfl,D.go s2,by omega,by omega,by omega,by omega,fun v2 e2 H3 s3 ev2 w2=>?_⟩
     refine ⟨Nv,fun p hp=>?_⟩
     have s3':=aA s3 (o:=.tup [.str "both",v,v2]) hp
     refine q (.ref p) (.two .both e e2) _ (aa s2 s3') ⟨v,v2,⟨p,rfl,ae⟩,ev.keep (ah.tk s3'),ev2.keep (jU hp _)⟩ ⟨⟨w1.is,w2.is⟩,⟨w1.ok,w2.ok⟩,?_,?_⟩
     · have h1:=w1.dp
       have h2:=w2.dp
       show max e.dep e2.dep + 1<=d.toNat + 3
       omega
     · have h1:=w1.sz
       have h2:=w2.sz
       have ed:d.toNat=(d - 1).toNat + 1:=by omega
       show e.sz + e2.sz + 3 + 3<=272 * 2 ^ d.toNat
       rw [ed,KW]
       omega
   refine kR _ _ ?_
   refine ar fun Rk kR=>?_
   refine ⟨_,rfl,_,rfl,_,_,rfl,rfl,.inr ⟨by omega,by omega⟩,_,_,rfl,rfl,_,rfl,c,3 * k + 3,nl,2,ns,rfl,D,by omega,by omega,by decide,by decide,fun v e H2 s2 ev w1=>?_⟩
   refine ao ?_
   refine kR _ _ ?_
   refine aB [some (.int c),some (.int k),some (.ref nl),some (.int d),some (.int r),some (.int (r % 6)),some v] rfl ?_
   refine ⟨Nu,fun L hL=>?_⟩
   have sL:ah H2 (upd H2 L (.lst [.str "same",.str "under"])):=ag hL _
   have gL:(upd H2 L (.lst [.str "same",.str "under"])) L=some (.lst [.str "same",.str "under"]):=ae
   generalize upd H2 L (.lst [.str "same",.str "under"])=H3 at sL gL ⊢
   refine ⟨_,rfl,_,_,rfl,rfl,⟨by decide,by decide +kernel⟩,_,_,rfl,rfl,(by show (0:Int) < 2; decide),?_⟩
   obtain ⟨kk,hat,hkk⟩:=ve (a:=.same) (b:=.under) (aO (k:=r / 6) (n:=2) (by decide)) (aN (by decide))
   refine ⟨L,_,_,_,rfl,rfl,aw.of gL,hat,_,rfl,_,rfl,_,rfl,_,_,rfl,rfl,.inr ⟨by omega,by omega⟩,_,_,rfl,rfl,_,rfl,c,3 * k + 200,nl,2,ns,rfl,D.go (aa s2 sL),by omega,by omega,by decide,by decide,fun v2 e2 H4 s4 ev2 w2=>⟨Nv,fun p hp=>?_⟩⟩
   have s24:=aA (aa sL s4) (o:=.tup [.str kk.str,v,v2]) hp
   refine q (.ref p) (.two kk e e2) _ (aa s2 s24) ⟨v,v2,⟨p,rfl,ae⟩,ev.keep (ah.tk s24),ev2.keep (jU hp _)⟩ ⟨?_,⟨w1.ok,w2.ok⟩,?_,jM _ _ ?_⟩
   · rcases hkk with rfl | rfl <;> exact ⟨w1.is,w2.is⟩
   · have h1:e.dep<=2:=w1.dp
     have h2:e2.dep<=2:=w2.dp
     show max e.dep e2.dep + 1<=d.toNat + 3
     omega
   · have h1:e.sz + 3<=136:=w1.sz
     have h2:e2.sz + 3<=136:=w2.sz
     show e.sz + e2.sz + 3 + 3<=272
     omega
theorem tJ (s:Src K mg "_law_condition" sCond)(ST0:aJ P w K mg base "_law_stir" ["cell","k"] 1 bo)(SM0:aJ P w K mg base "_law_sum" ["cell","k","names","deep"] 6 (dC 3)):∀n:Nat,aJ P w K mg base "_law_condition" ["cell","k","names","deep"] (n + 7) (d9 n):=by
 obtain ⟨f,fd,F,m⟩:=s
 have b:Binds K fd ["cell","k","names","deep"] []:=zN F fun _ _ _ _ _ _ _ _ _ _=>rfl
 intro n
 have all:aL P w K mg base CX0 (n + 7) f fd ["cell","k","names","deep"] (d9 n):=by
   induction n with
   | zero=>exact rb
   | succ n ih=>exact xv F ST0 SM0 ⟨f,fd,ih,F.kp,b,m⟩
 exact ⟨f,fd,all,F.kp,b,m⟩
/-! ### grown ones -/
def rP:Sp:=fun vs H Q _=>∃(c:Int) (u:V) (nl:Addr) (ns:List Str) (e:E) (d s:Nat),vs=[.int c,u,.ref nl]/\Nm H nl ns/\bL H u e/\kh ns d s e/\∀(v:V) (e:E) (H':Hp),ah H H'->bL H' v e->kh ns (d + 15) (s + 510) e->Q v H'
theorem zc {k:Int}{xs:List V}(h0:0<=k)(h1:k < 4)(P:V->Prop){a b c d:V}(e:xs=[a,b,c,d])(ha:P a)(hb:P b)(hc:P c)(hd:P d):∃v,ig xs k=some v/\P v:=by
 subst e
 rcases (show k=0\/k=1\/k=2\/k=3 by omega) with rfl | rfl | rfl | rfl
 · exact ⟨a,rfl,ha⟩
 · exact ⟨b,rfl,hb⟩
 · exact ⟨c,rfl,hc⟩
 · exact ⟨d,rfl,hd⟩
theorem rN:aq ["cell","told","names","k","number","more"] ["cell","told","names"] (af sGS):=⟨rfl,rfl,rfl,by decide +kernel,rfl,by decide +kernel,by decide +kernel⟩
theorem fH:(af sGS).names.lookup (GQ "_law_stir")=some .globalImplicit:=by decide +kernel
theorem wJ:(af sGS).names.lookup (GQ "len")=some .globalImplicit:=by decide +kernel
theorem qu:(af sGS).names.lookup (GQ "range")=some .globalImplicit:=by decide +kernel
theorem C8 {f:Addr}{fd:FuncData}(F:bI K "_law_grown_sum" "_law_grown_sum" sGS f fd)(m_len:mg "len"=none)(m_range:mg "range"=none)(ST:aJ P w K mg base "_law_stir" ["cell","k"] 1 bo):aL P w K mg base CX0 2 f fd ["cell","told","names"] rP:=by
 refine F.ok rN (fun vs H Q E h=>?_) (fun cdv A outer s H vs Q E hr h=>?_)
 · obtain ⟨c,u,nl,ns,e,d,s0,rfl,_⟩:=h
   rfl
 · obtain ⟨c,u,nl,ns,e,d,s0,rfl,D,eu,wu,q⟩:=h
   refine cH ⟨_,(K6 (LG (Mf qu m_range (K1 (K5 Lo K4 (K5 Lk (K9 ST hr fH (K1 (K0 0) (K1 K4 K3))) K4)) K3)) (Le 3 rN.nd) (K6 (Ld 4 rN.nd (K9 ST hr fH (K1 (K0 0) (K1 (K5 Lo K4 (K0 3)) K3))))
     (K6 (Ld 5 rN.nd (Lg (K1 K7 (K1 (K5 Lk (K5 Ls (K0 4) K4) K4) K3))))
     (K6 (Lf (Lv (LO (Lb (Mj (m:=2) (cO hr _ (by decide))) (K0 2) (Lj K3)) (LP (Lb Ll (K5 Lk (K5 Ls (K0 4) K4) K4) K4)))) (K8 (Ld 5 rN.nd (Lg (K1 K7 (K1 (La Lq (K0 2) (K5 Lk (K5 Ls (K0 4) K4) (Lm Lp wJ m_len G1 (K1 (K0 2) K3)))) K3))))) Lh)
     (K8 (Ld 1 rN.nd (La Lq (Lj (K1 (Lg (K1 K7 (K1 (K0 1) (K1 (K0 5) K3)))) (K1 (Lg (K1 K7 (K1 (K0 5) (K1 (K0 1) K3)))) (K1 (Lg (K1 K7 (K1 (K0 1) (K1 (K0 5) K3)))) (K1 (Lg (K1 K7 (K1 (K0 5) (K1 (K0 1) K3)))) K3))))) (K5 Lk (K0 4) K4))))))))
     (K8 (Lc (K0 1)))),?_⟩
   refine ar fun Rk kR=>?_
   refine ⟨_,rfl,c,3000,rfl,by decide,by decide,fun r r0 r1=>⟨_,_,rfl,rfl,(by show (0:Int) < 15; decide),_,_,rfl,rfl,1 + r % 15,rfl,?_⟩⟩
   have m0:=aO (k:=r) (n:=15) (by decide)
   have m1:=aN (k:=r) (n:=15) (by decide)
   refine ⟨by omega,by omega,?_⟩
   refine c4 (lo:=0) (n:=(1 + r % 15).toNat) (fun i σ Hx=>ah H Hx/\∃v e o3 o4 o5,σ=[some (.int c),some v,some (.ref nl),o3,o4,o5]/\bL Hx v e/\kh ns (d + i) (s0 + 34 * i) e) ⟨same_refl _,u,e,_,_,_,rfl,eu,wu⟩ (fun i σ Hx hi z=>?_) (fun σ Hx z=>?_)
   · obtain ⟨sx,v,e,o3,o4,o5,rfl,ev,we⟩:=z
     have Dx:=D.go sx
     refine ao ?_
     refine aB [some (.int c),some v,some (.ref nl),some (.int (0 + (i:Int))),o4,o5] rfl ?_
     refine ar fun Rj kj=>?_
     refine ⟨_,rfl,_,rfl,_,_,rfl,rfl,c,3001 + (0 + (i:Int)),rfl,by omega,by omega,fun k k0 k1=>?_⟩
     refine ao ?_
     refine kj _ _ ?_
     refine aB [some (.int c),some v,some (.ref nl),some (.int (0 + (i:Int))),some (.int k),o5] rfl ?_
     refine ar fun Rj kj=>?_
     refine ⟨_,rfl,_,_,rfl,rfl,⟨by decide,by decide +kernel⟩,_,_,rfl,rfl,(by show (0:Int) < 100; decide),Nu,fun p1 hp1=>?_⟩
     have h10:=aO (k:=k / 8) (n:=100) (by decide)
     have h11:=aN (k:=k / 8) (n:=100) (by decide)
     obtain ⟨nn,enn⟩ : ∃nn,nn=k / 8 % 100:=⟨_,rfl⟩
     rw [← enn] at h10 h11
     refine pH (upd Hx p1 (.tup [.str "number",.int nn])) (by subst enn; rfl) ?_
     clear enn
     have s1:ah Hx (upd Hx p1 (.tup [.str "number",.int nn])):=ag hp1 _
     have g1:(upd Hx p1 (.tup [.str "number",.int nn])) p1=some (.tup [.str "number",.int nn]):=ae
     generalize upd Hx p1 (.tup [.str "number",.int nn])=H1 at s1 g1 ⊢
     refine ao ?_
     refine kj _ _ ?_
     refine aB [some (.int c),some v,some (.ref nl),some (.int (0 + (i:Int))),some (.int k),some (.ref p1)] rfl ?_
     refine ar fun Rj kj=>?_
     suffices hs:∀(m:V) (em:TW.E) (H5:Hp),ah H1 H5->bL H5 m em->kh ns 0 34 em->Rj [some (.int c),some v,some (.ref nl),some (.int (0 + (i:Int))),some (.int k),some m] H5 by
       have en:bL H1 (.ref p1) (.num nn):=⟨p1,rfl,g1⟩
       have dn:kh ns 0 34 (.num nn):=⟨Ht,⟨h10,oq (by omega)⟩,GX _,GX _⟩
       refine ⟨_,rfl,Nr,fun z hz=>?_⟩
       have sz:ah H1 (upd H1 z (.lst [])):=ag hz _
       have gz:(upd H1 z (.lst [])) z=some (.lst []):=ae
       generalize upd H1 z (.lst [])=Hz at sz gz ⊢
       have Dz:=Dx.go (aa s1 sz)
       refine ⟨_,RB.nil (aw.of Dz.hn) (aw.of gz),_,rfl,?_⟩
       refine aH (fun c1=>?_) (fun c1=>aX (hs _ _ _ sz (en.keep (ah.tk sz)) dn))
       have hpos:0 < ns.length:=by
         cases ns with
         | nil=>exact absurd c1 (by decide)
         | cons a l=>exact Iz _
       refine ⟨_,rfl,_,_,rfl,rfl,⟨by decide,by decide +kernel⟩,_,_,rfl,rfl,(by show (0:Int) < 2; decide),rfl,_,rfl,?_⟩
       refine aH (fun c2=>?_) (fun c2=>hs _ _ _ sz (en.keep (ah.tk sz)) dn)
       refine ⟨_,rfl,_,rfl,_,_,rfl,rfl,⟨by decide,by decide +kernel⟩,_,rfl,nl,_,rfl,.inl (aw.of Dz.hn),_,_,rfl,rfl,(by rw [GR]; omega),?_⟩
       rw [GR]
       obtain ⟨x,hxm,hat⟩:=eC V.str ns (aO (k:=k / 8) (n:=(ns.length:Int)) (by omega)) (aN (by omega))
       refine ⟨nl,_,_,_,rfl,rfl,aw.of Dz.hn,hat,Nu,fun p hp=>?_⟩
       exact hs (.ref p) (.box "box" x) _ (aA sz hp) ⟨p,rfl,ae⟩ ⟨Ht,⟨rfl,hxm⟩,GX _,(by show 8 + 3<=34; decide)⟩
     intro m em H5 s5 em5 wm
     have ev5:=ev.keep (ah.tk (aa s1 s5))
     refine kj _ _ ?_
     refine ⟨_,rfl,_,rfl,Nv,fun a1 ha1=>⟨_,rfl,_,rfl,Nv,fun a2 ha2=>⟨_,rfl,_,rfl,Nv,fun a3 ha3=>⟨_,rfl,_,rfl,Nv,fun a4 ha4=>⟨Nw,fun L hL=>?_⟩⟩⟩⟩⟩
     have t1:=ag ha1 (.tup [.str "plus",v,m])
     have t2:=ag ha2 (.tup [.str "plus",m,v])
     have t3:=ag ha3 (.tup [.str "less",v,m])
     have t4:=ag ha4 (.tup [.str "less",m,v])
     have tL:=ag hL (.lst [.ref a1,.ref a2,.ref a3,.ref a4])
     have y4:=aa t4 tL
     have y3:=aa t3 y4
     have y2:=aa t2 y3
     have y1:=aa t1 y2
     have g1:=y2 _ _ (ae (H:=H5) (a:=a1) (o:=.tup [.str "plus",v,m]))
     have g2:=y3 _ _ (ae (a:=a2) (o:=.tup [.str "plus",m,v]))
     have g3:=y4 _ _ (ae (a:=a3) (o:=.tup [.str "less",v,m]))
     have g4:=tL _ _ (ae (a:=a4) (o:=.tup [.str "less",m,v]))
     refine ⟨_,rfl,_,_,rfl,rfl,(by show (0:Int) < 4; decide),?_⟩
     have gL:=ae (H:=(upd (upd (upd (upd H5 a1 (.tup [.str "plus",v,m])) a2 (.tup [.str "plus",m,v])) a3 (.tup [.str "less",v,m])) a4 (.tup [.str "less",m,v]))) (a:=L) (o:=.lst [.ref a1,.ref a2,.ref a3,.ref a4])
     generalize (upd (upd (upd (upd (upd H5 a1 (.tup [.str "plus",v,m])) a2 (.tup [.str "plus",m,v])) a3 (.tup [.str "less",v,m])) a4 (.tup [.str "less",m,v])) L (.lst [.ref a1,.ref a2,.ref a3,.ref a4]))=H9 at g1 g2 g3 g4 gL y1 ⊢
     have ev9:=ev5.keep (ah.tk y1)
     have em9:=em5.keep (ah.tk y1)
     have szz:∀k,(k=K2.plus\/k=.less)->kh ns (d + (i + 1)) (s0 + 34 * (i + 1)) (.two k e em)/\kh ns (d + (i + 1)) (s0 + 34 * (i + 1)) (.two k em e):=fun k hk=>by
       have h1:=we.dp
       have h2:em.dep<=0:=wm.dp
       have h3:=we.sz
       have h4:em.sz + 3<=34:=wm.sz
       constructor
       · refine ⟨?_,⟨we.ok,wm.ok⟩,?_,?_⟩
         · rcases hk with rfl | rfl <;> exact ⟨we.is,wm.is⟩
         · show max e.dep em.dep + 1<=_
           omega
         · show e.sz + em.sz + 3 + 3<=_
           omega
       · refine ⟨?_,⟨wm.ok,we.ok⟩,?_,?_⟩
         · rcases hk with rfl | rfl <;> exact ⟨wm.is,we.is⟩
         · show max em.dep e.dep + 1<=_
           omega
         · show em.sz + e.sz + 3 + 3<=_
           omega
     obtain ⟨w9,hat,e9,ev',we'⟩:=zc (xs:=[.ref a1,.ref a2,.ref a3,.ref a4]) (aO (k:=k) (n:=4) (by decide)) (aN (by decide)) (fun w=>∃e9:TW.E,bL H9 w e9/\kh ns (d + (i + 1)) (s0 + 34 * (i + 1)) e9) rfl
       ⟨.two .plus e em,⟨v,m,⟨a1,rfl,g1⟩,ev9,em9⟩,(szz .plus (.inl rfl)).1⟩ ⟨.two .plus em e,⟨m,v,⟨a2,rfl,g2⟩,em9,ev9⟩,(szz .plus (.inl rfl)).2⟩ ⟨.two .less e em,⟨v,m,⟨a3,rfl,g3⟩,ev9,em9⟩,(szz .less (.inr rfl)).1⟩ ⟨.two .less em e,⟨m,v,⟨a4,rfl,g4⟩,em9,ev9⟩,(szz .less (.inr rfl)).2⟩
     refine ⟨L,_,_,_,rfl,rfl,aw.of gL,hat,?_⟩
     exact ⟨aa (aa sx s1) (aa s5 y1),w9,e9,_,_,_,rfl,ev',we'⟩
   obtain ⟨sx,v,e,o3,o4,o5,rfl,ev,we⟩:=z
   refine kR _ _ ?_
   refine ⟨_,rfl,q v e Hx sx ev ⟨we.is,we.ok,?_,?_⟩⟩
   · have:=we.dp
     omega
   · have:=we.sz
     omega
theorem zX (s:Src K mg "_law_grown_sum" sGS)(m_len:mg "len"=none)(m_range:mg "range"=none)(ST:aJ P w K mg base "_law_stir" ["cell","k"] 1 bo):aJ P w K mg base "_law_grown_sum" ["cell","told","names"] 2 rP:=
 let ⟨f,fd,F,m⟩:=s
 ⟨f,fd,C8 F m_len m_range ST,F.kp,nH F fun _ _ _ _ _ _ _ _ _=>rfl,m⟩
end
end TW
set_option Elab.async false
set_option linter.all false
set_option maxRecDepth 100000
set_option exponentiation.threshold 4000
set_option maxHeartbeats 1000000
namespace TW
open PySem L2
section
variable {P:Program}{w:World}{K:GP}{mg:Str->Option Value}{base:Heap}
abbrev sLW:Stmt:=top 64
def yF:Sp:=fun vs H Q _=>∃(c:Int) (u:V) (ns:List Str) (e:E) (d s:Nat),vs=[.int c,u]/\bL H u e/\ke ns d s e/\1<=d/\∀(v:V) (e:E) (H':Hp),ah H H'->bL H' v e->ke ns (d + 12) (s + 816) e->Q v H'
theorem Bn {k:Int}{xs:List V}(h0:0<=k)(h1:k < 2)(P:V->Prop){a b:V}(e:xs=[a,b])(ha:P a)(hb:P b):∃v,ig xs k=some v/\P v:=by
 subst e
 rcases (show k=0\/k=1 by omega) with rfl | rfl
 · exact ⟨a,rfl,ha⟩
 · exact ⟨b,rfl,hb⟩
theorem vD:aq ["cell","told","k","number","more"] ["cell","told"] (af sGC):=⟨rfl,rfl,rfl,by decide +kernel,rfl,by decide +kernel,by decide +kernel⟩
theorem fG:(af sGC).names.lookup (GQ "_law_stir")=some .globalImplicit:=by decide +kernel
theorem qt:(af sGC).names.lookup (GQ "range")=some .globalImplicit:=by decide +kernel
theorem C7 {f:Addr}{fd:FuncData}(F:bI K "_law_grown_condition" "_law_grown_condition" sGC f fd)(m_range:mg "range"=none)(ST:aJ P w K mg base "_law_stir" ["cell","k"] 1 bo):aL P w K mg base CX0 2 f fd ["cell","told"] yF:=by
 refine F.ok vD (fun vs H Q E h=>?_) (fun cdv A outer s H vs Q E hr h=>?_)
 · obtain ⟨c,u,ns,e,d,s0,rfl,_⟩:=h
   rfl
 · obtain ⟨c,u,ns,e,d,s0,rfl,eu,wu,hd,q⟩:=h
   refine cH ⟨_,(K6 (LG (Mf qt m_range (K1 (K5 Lo K4 (K5 Lk (K9 ST hr fG (K1 (K0 0) (K1 K4 K3))) K4)) K3)) (Le 2 vD.nd) (K6 (Ld 3 vD.nd (K9 ST hr fG (K1 (K0 0) (K1 (K5 Lo K4 (K0 2)) K3))))
     (K6 (Ld 4 vD.nd (La Lq (Lj (K1 (Lg (K1 K7 K3)) (K1 (Lg (K1 K7 (K1 (Lg (K1 K7 (K1 (K5 Lk (K5 Ls (K0 3) K4) K4) K3))) (K1 (Lg (K1 K7 (K1 K4 K3))) K3)))) K3))) (K5 Lk (K5 Ls (K0 3) K4) K4)))
     (K8 (Ld 1 vD.nd (La Lq (Lj (K1 (Lg (K1 K7 (K1 (K0 1) K3))) (K1 (Lg (K1 K7 (K1 (K0 1) (K1 (K0 4) K3)))) (K1 (Lg (K1 K7 (K1 (K0 4) (K1 (K0 1) K3)))) (K1 (Lg (K1 K7 (K1 (K0 1) K3))) K3))))) (K5 Lk (K0 3) K4)))))))
     (K8 (Lc (K0 1)))),?_⟩
   refine ar fun Rk kR=>?_
   refine ⟨_,rfl,c,3020,rfl,by decide,by decide,fun r r0 r1=>⟨_,_,rfl,rfl,(by show (0:Int) < 12; decide),_,_,rfl,rfl,1 + r % 12,rfl,?_⟩⟩
   have m0:=aO (k:=r) (n:=12) (by decide)
   have m1:=aN (k:=r) (n:=12) (by decide)
   refine ⟨by omega,by omega,?_⟩
   refine c4 (lo:=0) (n:=(1 + r % 12).toNat) (fun i σ Hx=>ah H Hx/\∃v e o3 o4 o5,σ=[some (.int c),some v,o3,o4,o5]/\bL Hx v e/\ke ns (d + i) (s0 + 68 * i) e) ⟨same_refl _,u,e,_,_,_,rfl,eu,wu⟩ (fun i σ Hx hi z=>?_) (fun σ Hx z=>?_)
   · obtain ⟨sx,v,e,o3,o4,o5,rfl,ev,we⟩:=z
     refine ao ?_
     refine aB [some (.int c),some v,some (.int (0 + (i:Int))),o4,o5] rfl ?_
     refine ar fun Rj kj=>?_
     refine ⟨_,rfl,_,rfl,_,_,rfl,rfl,c,3021 + (0 + (i:Int)),rfl,by omega,by omega,fun k k0 k1=>?_⟩
     refine ao ?_
     refine kj _ _ ?_
     refine aB [some (.int c),some v,some (.int (0 + (i:Int))),some (.int k),o5] rfl ?_
     refine ar fun Rj kj=>?_
     refine ⟨Nt,fun b1 hb1=>?_⟩
     have t1:=ag hb1 (.tup [.str "yes"])
     have g1:(upd Hx b1 (.tup [.str "yes"])) b1=some (.tup [.str "yes"]):=ae
     generalize upd Hx b1 (.tup [.str "yes"])=H1 at t1 g1 ⊢
     refine ⟨_,rfl,_,_,rfl,rfl,⟨by decide,by decide +kernel⟩,_,_,rfl,rfl,(by show (0:Int) < 9; decide),Nu,fun b2 hb2=>?_⟩
     have h10:=aO (k:=k / 8) (n:=9) (by decide)
     have h11:=aN (k:=k / 8) (n:=9) (by decide)
     obtain ⟨nn,enn⟩ : ∃nn,nn=k / 8 % 9:=⟨_,rfl⟩
     have enh:(upd H1 b2 (.tup [.str "number",.int (k / 8 % 9)]))=upd H1 b2 (.tup [.str "number",.int nn]):=by rw [enn]
     rw [← enn] at h10 h11
     have t2:=ag hb2 (.tup [.str "number",.int (k / 8 % 9)])
     have g2:(upd H1 b2 (.tup [.str "number",.int (k / 8 % 9)])) b2=some (.tup [.str "number",.int nn]):=by rw [enh]; exact ae
     refine ⟨Nu,fun b3 hb3=>?_⟩
     have t3:=ag hb3 (.tup [.str "number",.int 4])
     have g3:=ae (H:=upd H1 b2 (.tup [.str "number",.int (k / 8 % 9)])) (a:=b3) (o:=.tup [.str "number",.int 4])
     have t23:=aa t2 t3
     have g2:=t3 _ _ g2
     generalize upd (upd H1 b2 (.tup [.str "number",.int (k / 8 % 9)])) b3 (.tup [.str "number",.int 4])=H3 at t23 g2 g3 ⊢
     clear t2 t3 enh
     refine ⟨Nv,fun b4 hb4=>⟨Nu,fun L hL=>?_⟩⟩
     have t4:=ag hb4 (.tup [.str "under",.ref b2,.ref b3])
     have tL:=ag hL (.lst [.ref b1,.ref b4])
     have g4:=tL _ _ (ae (H:=H3) (a:=b4) (o:=.tup [.str "under",.ref b2,.ref b3]))
     have gL:=ae (H:=upd H3 b4 (.tup [.str "under",.ref b2,.ref b3])) (a:=L) (o:=.lst [.ref b1,.ref b4])
     have t4L:=aa t4 tL
     generalize upd (upd H3 b4 (.tup [.str "under",.ref b2,.ref b3])) L (.lst [.ref b1,.ref b4])=H4 at t4L g4 gL ⊢
     clear t4 tL
     have g1:=t4L _ _ (t23 _ _ g1)
     have g2:=t4L _ _ g2
     have g3:=t4L _ _ g3
     have s4:=aa t1 (aa t23 t4L)
     refine ⟨_,rfl,_,_,rfl,rfl,⟨by decide,by decide +kernel⟩,_,_,rfl,rfl,(by show (0:Int) < 2; decide),?_⟩
     obtain ⟨m,hat,em,em5,wm⟩:=Bn (xs:=[.ref b1,.ref b4]) (aO (k:=k / 4) (n:=2) (by decide)) (aN (by decide)) (fun w=>∃e9:TW.E,bL H4 w e9/\ke ns 1 68 e9) rfl
       ⟨.yes,⟨b1,rfl,g1⟩,⟨Ht,Ht,HD _,by decide⟩⟩ ⟨.two .under (.num nn) (.num 4),⟨_,_,⟨b4,rfl,g4⟩,⟨b2,rfl,g2⟩,⟨b3,rfl,g3⟩⟩,⟨⟨Ht,Ht⟩,⟨⟨h10,oq (by omega)⟩,⟨by decide,by decide⟩⟩,by show max 0 0 + 1<=1; decide,by show 31 + 31 + 3 + 3<=68; decide⟩⟩
     refine ⟨L,_,_,_,rfl,rfl,aw.of gL,hat,?_⟩
     refine ao ?_
     refine kj _ _ ?_
     refine aB [some (.int c),some v,some (.int (0 + (i:Int))),some (.int k),some m] rfl ?_
     have ev5:=ev.keep (ah.tk s4)
     clear g1 g2 g3 g4 gL hat t1 t23 t4L hb1 hb2 hb3 hb4 hL
     refine ⟨_,rfl,Nu,fun a1 ha1=>⟨_,rfl,_,rfl,Nv,fun a2 ha2=>⟨_,rfl,_,rfl,Nv,fun a3 ha3=>⟨_,rfl,Nu,fun a4 ha4=>⟨Nw,fun L hL=>?_⟩⟩⟩⟩⟩
     have t1:=ag ha1 (.tup [.str "not",v])
     have t2:=ag ha2 (.tup [.str "both",v,m])
     have t3:=ag ha3 (.tup [.str "both",m,v])
     have t4:=ag ha4 (.tup [.str "not",v])
     have tL:=ag hL (.lst [.ref a1,.ref a2,.ref a3,.ref a4])
     have y4:=aa t4 tL
     have y3:=aa t3 y4
     have y2:=aa t2 y3
     have y1:=aa t1 y2
     have g1:=y2 _ _ (ae (H:=H4) (a:=a1) (o:=.tup [.str "not",v]))
     have g2:=y3 _ _ (ae (a:=a2) (o:=.tup [.str "both",v,m]))
     have g3:=y4 _ _ (ae (a:=a3) (o:=.tup [.str "both",m,v]))
     have g4:=tL _ _ (ae (a:=a4) (o:=.tup [.str "not",v]))
     refine ⟨_,rfl,_,_,rfl,rfl,(by show (0:Int) < 4; decide),?_⟩
     have gL:=ae (H:=(upd (upd (upd (upd H4 a1 (.tup [.str "not",v])) a2 (.tup [.str "both",v,m])) a3 (.tup [.str "both",m,v])) a4 (.tup [.str "not",v]))) (a:=L) (o:=.lst [.ref a1,.ref a2,.ref a3,.ref a4])
     generalize (upd (upd (upd (upd (upd H4 a1 (.tup [.str "not",v])) a2 (.tup [.str "both",v,m])) a3 (.tup [.str "both",m,v])) a4 (.tup [.str "not",v])) L (.lst [.ref a1,.ref a2,.ref a3,.ref a4]))=H9 at g1 g2 g3 g4 gL y1 ⊢
     have ev9:=ev5.keep (ah.tk y1)
     have em9:=em5.keep (ah.tk y1)
     have h1:=we.dp
     have h2:em.dep<=1:=wm.dp
     have h3:=we.sz
     have h4:em.sz + 3<=68:=wm.sz
     have z1:ke ns (d + (i + 1)) (s0 + 68 * (i + 1)) (.nt e):=⟨we.is,we.ok,by show e.dep + 1<=_; omega,by show e.sz + 1 + 3<=_; omega⟩
     have z2:ke ns (d + (i + 1)) (s0 + 68 * (i + 1)) (.two .both e em):=⟨⟨we.is,wm.is⟩,⟨we.ok,wm.ok⟩,by show max e.dep em.dep + 1<=_; omega,by show e.sz + em.sz + 3 + 3<=_; omega⟩
     have z3:ke ns (d + (i + 1)) (s0 + 68 * (i + 1)) (.two .both em e):=⟨⟨wm.is,we.is⟩,⟨wm.ok,we.ok⟩,by show max em.dep e.dep + 1<=_; omega,by show em.sz + e.sz + 3 + 3<=_; omega⟩
     obtain ⟨w9,hat,e9,ev',we'⟩:=zc (xs:=[.ref a1,.ref a2,.ref a3,.ref a4]) (aO (k:=k) (n:=4) (by decide)) (aN (by decide)) (fun w=>∃e9:TW.E,bL H9 w e9/\ke ns (d + (i + 1)) (s0 + 68 * (i + 1)) e9) rfl
       ⟨.nt e,⟨v,⟨a1,rfl,g1⟩,ev9⟩,z1⟩ ⟨.two .both e em,⟨v,m,⟨a2,rfl,g2⟩,ev9,em9⟩,z2⟩ ⟨.two .both em e,⟨m,v,⟨a3,rfl,g3⟩,em9,ev9⟩,z3⟩ ⟨.nt e,⟨v,⟨a4,rfl,g4⟩,ev9⟩,z1⟩
     refine ⟨L,_,_,_,rfl,rfl,aw.of gL,hat,?_⟩
     exact ⟨aa sx (aa s4 y1),w9,e9,_,_,_,rfl,ev',we'⟩
   obtain ⟨sx,v,e,o3,o4,o5,rfl,ev,we⟩:=z
   refine kR _ _ ?_
   refine ⟨_,rfl,q v e Hx sx ev ⟨we.is,we.ok,?_,?_⟩⟩
   · have:=we.dp
     omega
   · have:=we.sz
     omega
theorem zW (s:Src K mg "_law_grown_condition" sGC)(m_range:mg "range"=none)(ST:aJ P w K mg base "_law_stir" ["cell","k"] 1 bo):aJ P w K mg base "_law_grown_condition" ["cell","told"] 2 yF:=
 let ⟨f,fd,F,m⟩:=s
 ⟨f,fd,C7 F m_range ST,F.kp,cU F fun _ _ _ _ _ _ _ _=>rfl,m⟩
abbrev dkL:List (Key×V):=[(.inr "plus",.str "+"),(.inr "less",.str "-"),(.inr "same",.str "="),(.inr "under",.str "<"),(.inr "both",.str "&")]
theorem sign_of (k:K2):du dkL (.inr k.str)=some (.str k.sign):=by cases k <;> rfl
theorem CT (k:K2):J1 "+-" k.sign=(match k with | .plus=>true | .less=>true | _=>false):=by cases k <;> decide +kernel
def mh (n:Nat):Sp:=fun vs H Q _=>∃(v:V) (e:E),vs=[v]/\bL H v e/\(ki n e\/nF n e)/\∀H',ah H H'->Q (.str e.txt) H'
theorem xh {f:Addr}{fd:FuncData}:aL P w K mg base CX0 1 f fd ["thing"] (mh 0):=by
 have no:∀vs H Q E,¬ mh 0 vs H Q E:=fun vs H Q E h=>by
   obtain ⟨v,e,_,_,h,_⟩:=h
   rcases h with ⟨_,_,_,h⟩ | ⟨_,_,_,h⟩ <;> omega
 exact ⟨fun vs H Q E h=>absurd h (no vs H Q E),fun A outer s H args us vs Q E _ _ _ _ h=>absurd h (no vs H Q E)⟩
theorem BO:aq ["thing","sign","word"] ["thing"] (af sLW):=⟨rfl,rfl,rfl,by decide +kernel,rfl,by decide +kernel,by decide +kernel⟩
theorem dm:(af sLW).names.lookup (GQ "_law_word")=some .globalImplicit:=by decide +kernel
theorem wK:(af sLW).names.lookup (GQ "int")=some .globalImplicit:=by decide +kernel
theorem wL:(af sLW).names.lookup (GQ "str")=some .globalImplicit:=by decide +kernel
theorem C9 {n:Nat}{f:Addr}{fd:FuncData}(F:bI K "_law_word" "_law_word" sLW f fd)(m_str:mg "str"=none)(m_int:mg "int"=none)(G:aJ P w K mg base "_law_word" ["thing"] (n + 1) (mh n)):aL P w K mg base CX0 (n + 1 + 1) f fd ["thing"] (mh (n + 1)):=by
 refine F.ok BO (fun vs H Q E h=>?_) (fun cdv A outer s H vs Q E hr h=>?_)
 · obtain ⟨v,e,rfl,_⟩:=h
   rfl
 · obtain ⟨v,e,rfl,ev,we,q⟩:=h
   refine cH ⟨_,(K6 (Lf (Lb L3.xo (La Li (K0 0) K4) (Lg (K1 K7 (K1 K7 K3))) (by rfl)) (K8 (Lc (Lw L0 wL m_str (by decide +kernel) (K1 (La Li (K0 0) K4) K3)))) Lh)
     (K6 (Lf (Lb Ll (La Li (K0 0) K4) K7) (K8 (Lc K7)) Lh)
     (K6 (Lf (Lb Ll (La Li (K0 0) K4) K7) (K8 (Lc (K5 LJ K7 (K9 G hr dm (K1 (La Li (K0 0) K4) K3))))) Lh)
     (K6 (Ld 1 BO.nd (L3.ER (cO hr _ (by decide)) (L3.EU (Mr K7 K7 (Mr K7 K7 (Mr K7 K7 (Mr K7 K7 (Mr K7 K7 L3.Gf)))))) (La Li (K0 0) K4)))
     (K6 (Ld 2 BO.nd (K5 LJ (K5 LJ (K9 G hr dm (K1 (La Li (K0 0) K4) K3)) (K0 1)) (K9 G hr dm (K1 (La Li (K0 0) K4) K3))))
     (K6 (Lf (Lb Ll (La Li (K0 0) K4) K7) (K8 (Lc (K5 LJ (K5 LJ K7 (K0 2)) K7))) Lh)
     (K8 (Lc (La Lq (Lj (K1 (K0 2) (K1 (K5 LJ (K5 LJ K7 (K0 2)) K7) K3))) (Lw L3.yS wK m_int (by decide +kernel) (K1 (Ml L3.uI (K0 1) K7 (by rfl)) K3))))))))))),?_⟩
   match e,ev,we,q with
   | .num i,ev,we,q=>
     obtain ⟨p,rfl,hp⟩:=ev
     have ok:i.natAbs < 2 ^ 100:=by rcases we with ⟨_,h,_,_⟩ | ⟨_,h,_,_⟩ <;> exact lP h
     refine ar fun Rk kR=>?_
     refine ⟨_,rfl,p,_,_,_,rfl,rfl,aC.of hp,rfl,Nu,fun tt htt=>⟨tt,_,rfl,.inr (aC.of ae),rfl,rfl,_,rfl,bt ?_⟩⟩
     have s1:=ag htt (.tup [.str "number",.str "box"])
     generalize upd H tt (.tup [.str "number",.str "box"])=H1 at s1 ⊢
     have hp1:=s1 _ _ hp
     exact ⟨_,rfl,p,_,_,_,rfl,rfl,aC.of hp1,rfl,.inl ⟨i,rfl,Im (cW ok) (by decide),q _ s1⟩⟩
   | .box tg x,ev,we,q=>
     obtain ⟨p,rfl,hp⟩:=ev
     obtain ⟨rfl,_⟩ : tg="box"/\dJ x:=by rcases we with ⟨_,h,_,_⟩ | ⟨_,h,_,_⟩ <;> exact h
     refine ar fun Rk kR=>?_
     refine ⟨_,rfl,p,_,_,_,rfl,rfl,aC.of hp,rfl,Nu,fun tt htt=>⟨tt,_,rfl,.inr (aC.of ae),rfl,rfl,_,rfl,bt ?_⟩⟩
     have s1:=ag htt (.tup [.str "number",.str "box"])
     generalize upd H tt (.tup [.str "number",.str "box"])=H1 at s1 ⊢
     have hp1:=s1 _ _ hp
     exact ⟨_,rfl,p,_,_,_,rfl,rfl,aC.of hp1,rfl,.inr ⟨x,rfl,q _ s1⟩⟩
   | .yes,ev,we,q=>
     obtain ⟨p,rfl,hp⟩:=ev
     refine ar fun Rk kR=>?_
     refine ⟨_,rfl,p,_,_,_,rfl,rfl,aC.of hp,rfl,Nu,fun tt htt=>⟨tt,_,rfl,.inr (aC.of ae),rfl,rfl,_,rfl,aX ?_⟩⟩
     have s1:=ag htt (.tup [.str "number",.str "box"])
     generalize upd H tt (.tup [.str "number",.str "box"])=H1 at s1 ⊢
     have hp1:=s1 _ _ hp
     refine kR _ _ ?_
     refine ar fun Rk kR=>?_
     refine ⟨_,rfl,p,_,_,_,rfl,rfl,aC.of hp1,rfl,rfl,_,rfl,bt ?_⟩
     exact q _ s1
   | .nt a,ev,we,q=>
     obtain ⟨x,⟨p,rfl,hp⟩,ex⟩:=ev
     have wx:nF n a:=by
       rcases we with ⟨h,_,_,_⟩ | ⟨h1,h2,h3,h4⟩
       · exact h.elim
       · exact ⟨h1,h2,by have:a.sz + 1<=4000:=h3; omega,by have:a.dep + 1 < n + 1:=h4; omega⟩
     have lx:=wx.len
     refine ar fun Rk kR=>?_
     refine ⟨_,rfl,p,_,_,_,rfl,rfl,aC.of hp,rfl,Nu,fun tt htt=>⟨tt,_,rfl,.inr (aC.of ae),rfl,rfl,_,rfl,aX ?_⟩⟩
     have s1:=ag htt (.tup [.str "number",.str "box"])
     generalize upd H tt (.tup [.str "number",.str "box"])=H1 at s1 ⊢
     have hp1:=s1 _ _ hp
     refine kR _ _ ?_
     refine ar fun Rk kR=>?_
     refine ⟨_,rfl,p,_,_,_,rfl,rfl,aC.of hp1,rfl,rfl,_,rfl,aX ?_⟩
     refine kR _ _ ?_
     refine ar fun Rk kR=>?_
     refine ⟨_,rfl,p,_,_,_,rfl,rfl,aC.of hp1,rfl,rfl,_,rfl,bt ?_⟩
     refine ⟨_,rfl,p,_,_,_,rfl,rfl,aC.of hp1,rfl,x,a,rfl,ex.keep (ah.tk s1),.inr wx,fun H2 s2=>⟨"!",a.txt,rfl,rfl,fit (by have:(("!":Str)).length=1:=rfl; omega),?_⟩⟩
     exact q _ (aa s1 s2)
   | .two k a b,ev,we,q=>
     obtain ⟨x,y,⟨p,rfl,hp⟩,ex,ey⟩:=ev
     have wxy:(ki n a\/nF n a)/\(ki n b\/nF n b):=by
       rcases we with ⟨h1,h2,h3,h4⟩ | ⟨h1,h2,h3,h4⟩
       · have h3:a.sz + b.sz + 3<=4000:=h3
         have h4:max a.dep b.dep + 1 < n + 1:=h4
         cases k <;> first | exact h1.elim | exact ⟨.inl ⟨h1.1,h2.1,by omega,by omega⟩,.inl ⟨h1.2,h2.2,by omega,by omega⟩⟩
       · have h3:a.sz + b.sz + 3<=4000:=h3
         have h4:max a.dep b.dep + 1 < n + 1:=h4
         cases k <;> first | exact h1.elim | exact ⟨.inl ⟨h1.1,h2.1,by omega,by omega⟩,.inl ⟨h1.2,h2.2,by omega,by omega⟩⟩ | exact ⟨.inr ⟨h1.1,h2.1,by omega,by omega⟩,.inr ⟨h1.2,h2.2,by omega,by omega⟩⟩
     obtain ⟨wx,wy⟩:=wxy
     have lx:a.txt.length<=4000:=wx.elim (·.len) (·.len)
     have ly:b.txt.length<=4000:=wy.elim (·.len) (·.len)
     have lk:k.sign.length=1:=by cases k <;> rfl
     refine ar fun Rk kR=>?_
     refine ⟨_,rfl,p,_,_,_,rfl,rfl,aC.of hp,rfl,Nu,fun tt htt=>⟨tt,_,rfl,.inr (aC.of ae),rfl,rfl,_,rfl,aH (fun c=>absurd c (by cases k <;> decide)) (fun _=>?_)⟩⟩
     have s1:=ag htt (.tup [.str "number",.str "box"])
     generalize upd H tt (.tup [.str "number",.str "box"])=H1 at s1 ⊢
     have hp1:=s1 _ _ hp
     refine kR _ _ ?_
     refine ar fun Rk kR=>?_
     refine ⟨_,rfl,p,_,_,_,rfl,rfl,aC.of hp1,rfl,rfl,_,rfl,aH (fun c=>absurd c (by cases k <;> decide)) (fun _=>?_)⟩
     refine kR _ _ ?_
     refine ar fun Rk kR=>?_
     refine ⟨_,rfl,p,_,_,_,rfl,rfl,aC.of hp1,rfl,rfl,_,rfl,aH (fun c=>absurd c (by cases k <;> decide)) (fun _=>?_)⟩
     refine kR _ _ ?_
     refine ar fun Rk kR=>?_
     refine fun od hod=>⟨ae,[(.inr "plus",.str "+"),(.inr "less",.str "-"),(.inr "same",.str "="),(.inr "under",.str "<"),(.inr "both",.str "&")],rfl,(by show 5<=15; decide),?_⟩
     have s2:ah H1 (upd (upd H1 od (.dK [])) od (.dK (d6 [] [(.inr "plus",.str "+"),(.inr "less",.str "-"),(.inr "same",.str "="),(.inr "under",.str "<"),(.inr "both",.str "&")]))):=aG (ag hod _) hod
     have g2:(upd (upd H1 od (.dK [])) od (.dK (d6 [] [(.inr "plus",.str "+"),(.inr "less",.str "-"),(.inr "same",.str "="),(.inr "under",.str "<"),(.inr "both",.str "&")]))) od=some (.dK [(.inr "plus",.str "+"),(.inr "less",.str "-"),(.inr "same",.str "="),(.inr "under",.str "<"),(.inr "both",.str "&")]):=ae
     generalize upd (upd H1 od (.dK [])) od (.dK (d6 [] [(.inr "plus",.str "+"),(.inr "less",.str "-"),(.inr "same",.str "="),(.inr "under",.str "<"),(.inr "both",.str "&")]))=H2 at s2 g2 ⊢
     have hp2:=s2 _ _ hp1
     have gd:=iY.k (k:=.inr k.str) g2
     rw [sign_of k] at gd
     refine ⟨_,rfl,p,_,_,_,rfl,rfl,aC.of hp2,rfl,od,_,rfl,gd,?_⟩
     refine ao ?_
     refine kR _ _ ?_
     have s12:=aa s1 s2
     refine aB [some (.ref p),some (.str k.sign),none] rfl ?_
     refine ar fun Rk kR=>?_
     refine ⟨_,rfl,p,_,_,_,rfl,rfl,aC.of hp2,rfl,x,a,rfl,ex.keep (ah.tk s12),wx,fun H3 s3=>⟨_,rfl,_,_,rfl,rfl,fit (by omega),?_⟩⟩
     have l1:(a.txt++k.sign).length<=38401:=by rw [strLen_append]; omega
     refine ⟨_,rfl,p,_,_,_,rfl,rfl,aC.of (s3 _ _ hp2),rfl,y,b,rfl,ey.keep (ah.tk (aa s12 s3)),wy,fun H4 s4=>⟨_,_,rfl,rfl,fit (by omega),?_⟩⟩
     have l2:(a.txt++k.sign++b.txt).length<=76801:=by rw [strLen_append]; omega
     refine ao ?_
     refine kR _ _ ?_
     refine aB [some (.ref p),some (.str k.sign),some (.str (a.txt++k.sign++b.txt))] rfl ?_
     have s14:=aa s12 (aa s3 s4)
     have hp4:=s4 _ _ (s3 _ _ hp2)
     refine ar fun Rk kR=>?_
     refine ⟨_,rfl,p,_,_,_,rfl,rfl,aC.of hp4,rfl,rfl,_,rfl,?_⟩
     have e1:(("{":Str)).length=1:=rfl
     have e3:(("}":Str)).length=1:=rfl
     have e4:(("(":Str)).length=1:=rfl
     have e5:((")":Str)).length=1:=rfl
     have l3:("("++(a.txt++k.sign++b.txt)).length<=76802:=by rw [strLen_append]; omega
     have l4:("{"++(a.txt++k.sign++b.txt)).length<=76802:=by rw [strLen_append]; omega
     clear ex ey wx wy gd g2 hp hp1 hp2
     have hc:=CT k
     cases k with
     | both=>
       refine bt ?_
       refine ⟨_,rfl,"{",_,rfl,rfl,fit (by omega),_,_,rfl,rfl,fit (by omega),?_⟩
       exact q _ s14
     | _=>
       refine aX ?_
       refine kR _ _ ?_
       refine ⟨_,rfl,_,rfl,"(",_,rfl,rfl,fit (by omega),_,_,rfl,rfl,fit (by omega),Nu,fun L hL=>?_⟩
       refine ⟨_,rfl,_,"+-",rfl,rfl,.inr ⟨_,rfl,?_⟩⟩
       rw [hc]
       refine ⟨L,_,_,_,rfl,rfl,aw.of ae,rfl,?_⟩
       exact q _ (aA s14 hL)
theorem zY (s:Src K mg "_law_word" sLW)(m_str:mg "str"=none)(m_int:mg "int"=none):∀n:Nat,aJ P w K mg base "_law_word" ["thing"] (n + 1) (mh n):=by
 obtain ⟨f,fd,F,m⟩:=s
 have b:Binds K fd ["thing"] []:=cT F fun _ _ _ _ _ _ _=>rfl
 intro n
 have all:aL P w K mg base CX0 (n + 1) f fd ["thing"] (mh n):=by
   induction n with
   | zero=>exact xh
   | succ n ih=>exact C9 F m_str m_int ⟨f,fd,ih,F.kp,b,m⟩
 exact ⟨f,fd,all,F.kp,b,m⟩
end
end TW
set_option Elab.async false
set_option linter.all false
set_option maxRecDepth 100000
set_option exponentiation.threshold 4000
set_option maxHeartbeats 1000000
namespace TW
open PySem L2
section
variable {P:Program}{w:World}{K:GP}{mg:Str->Option Value}{base:Heap}
abbrev sAS:Stmt:=top 65
abbrev sAC:Stmt:=top 66
abbrev sNode:Stmt:=top 67
/-! ### any sum,any condition -/
theorem kh.up {ns:List Str}{d s d' s':Nat}{e:E}(h:kh ns d s e)(h1:d<=d')(h2:s<=s'):kh ns d' s' e:=⟨h.is,h.ok,GY h.dp h1,GY h.sz h2⟩
theorem ke.up {ns:List Str}{d s d' s':Nat}{e:E}(h:ke ns d s e)(h1:d<=d')(h2:s<=s'):ke ns d' s' e:=⟨h.is,h.ok,GY h.dp h1,GY h.sz h2⟩
theorem vj {a b:Nat}(h:a<=b):2 ^ a<=2 ^ b:=Nat.pow_le_pow_right (by decide) h
def yE:Sp:=fun vs H Q _=>∃(c:Int) (nl:Addr) (m:Int) (ns:List Str),vs=[.int c,.ref nl,.int m]/\Nm H nl ns/\0<=m/\∀(v:V) (e:E) (H':Hp),ah H H'->bL H' v e->kh ns 18 782 e->Q v H'
def yD:Sp:=fun vs H Q _=>∃(c:Int) (nl:Addr) (m:Int) (ns:List Str),vs=[.int c,.ref nl,.int m]/\Nm H nl ns/\0<=m/\∀(v:V) (e:E) (H':Hp),ah H H'->bL H' v e->ke ns 20 3000 e->Q v H'
theorem BJ:aq ["cell","names","number","told"] ["cell","names","number"] (af sAS):=⟨rfl,rfl,rfl,by decide +kernel,rfl,by decide +kernel,by decide +kernel⟩
theorem fF:(af sAS).names.lookup (GQ "_law_grown_sum")=some .globalImplicit:=by decide +kernel
theorem mQ:(af sAS).names.lookup (GQ "_law_sum")=some .globalImplicit:=by decide +kernel
theorem C6 {f:Addr}{fd:FuncData}(F:bI K "_law_any_sum" "_law_any_sum" sAS f fd)(SM:aJ P w K mg base "_law_sum" ["cell","k","names","deep"] 7 (dC 4))(GS0:aJ P w K mg base "_law_grown_sum" ["cell","told","names"] 2 rP):aL P w K mg base CX0 8 f fd ["cell","names","number"] yE:=by
 refine F.ok BJ (fun vs H Q E h=>?_) (fun cdv A outer s H vs Q E hr h=>?_)
 · obtain ⟨c,nl,m,ns,rfl,_⟩:=h
   rfl
 · obtain ⟨c,nl,m,ns,rfl,D,m0,q⟩:=h
   have GS:=GS0.mono (show 2<=7 by decide)
   refine cH ⟨_,(K6 (Ld 3 BJ.nd (K9 SM hr mQ (K1 (K0 0) (K1 K4 (K1 (K0 1) (K1 (K5 Lk (K0 2) K4) K3))))))
     (K6 (Lf (Lb Ll (K5 Lk (K5 Ls (K0 2) K4) K4) K4) (K8 (Ld 3 BJ.nd (K9 GS hr fF (K1 (K0 0) (K1 (K0 3) (K1 (K0 1) K3)))))) Lh)
     (K8 (Lc (K0 3))))),?_⟩
   have d0:=aO (k:=m) (n:=4) (by decide)
   have d1:=aN (k:=m) (n:=4) (by decide)
   refine ar fun Rk kR=>?_
   refine ⟨_,rfl,_,rfl,_,rfl,_,_,rfl,rfl,(by show (0:Int) < 4; decide),c,10,nl,m % 4,ns,rfl,D,by decide,by decide,d0,d1,fun v e H1 s1 ev we=>?_⟩
   have we:kh ns 3 272 e:=we.up (by omega) (Nat.mul_le_mul_left 34 (vj (b:=3) (by omega)))
   refine ao ?_
   refine kR _ _ ?_
   refine aB [some (.int c),some (.ref nl),some (.int m),some v] rfl ?_
   refine ar fun Rk kR=>?_
   refine ⟨_,rfl,_,_,rfl,rfl,⟨by decide,by decide +kernel⟩,_,_,rfl,rfl,(by show (0:Int) < 4; decide),rfl,_,rfl,?_⟩
   refine aH (fun _=>?_) (fun _=>kR _ _ ?_)
   · refine ⟨_,rfl,_,rfl,_,rfl,c,v,nl,ns,e,3,272,rfl,D.go s1,ev,we,fun v2 e2 H2 s2 ev2 we2=>?_⟩
     refine ao ?_
     refine kR _ _ ?_
     exact ⟨_,rfl,q v2 e2 H2 (aa s1 s2) ev2 we2⟩
   exact ⟨_,rfl,q v e H1 s1 ev (we.up (by decide) (by decide))⟩
theorem zV (s:Src K mg "_law_any_sum" sAS)(SM:aJ P w K mg base "_law_sum" ["cell","k","names","deep"] 7 (dC 4))(GS0:aJ P w K mg base "_law_grown_sum" ["cell","told","names"] 2 rP):aJ P w K mg base "_law_any_sum" ["cell","names","number"] 8 yE:=
 let ⟨f,fd,F,m⟩:=s
 ⟨f,fd,C6 F SM GS0,F.kp,nH F fun _ _ _ _ _ _ _ _ _=>rfl,m⟩
theorem rM:aq ["cell","names","number","told","one"] ["cell","names","number"] (af sAC):=⟨rfl,rfl,rfl,by decide +kernel,rfl,by decide +kernel,by decide +kernel⟩
theorem fD:(af sAC).names.lookup (GQ "_law_condition")=some .globalImplicit:=by decide +kernel
theorem c6:(af sAC).names.lookup (GQ "_law_grown_condition")=some .globalImplicit:=by decide +kernel
theorem fE:(af sAC).names.lookup (GQ "_law_grown_sum")=some .globalImplicit:=by decide +kernel
theorem hC:(af sAC).names.lookup (GQ "_law_sum")=some .globalImplicit:=by decide +kernel
theorem C5 {f:Addr}{fd:FuncData}(F:bI K "_law_any_condition" "_law_any_condition" sAC f fd)(SM0:aJ P w K mg base "_law_sum" ["cell","k","names","deep"] 7 (dC 4))(GS0:aJ P w K mg base "_law_grown_sum" ["cell","told","names"] 2 rP)(CO:aJ P w K mg base "_law_condition" ["cell","k","names","deep"] 11 (d9 4))(GC0:aJ P w K mg base "_law_grown_condition" ["cell","told"] 2 yF):aL P w K mg base CX0 12 f fd ["cell","names","number"] yD:=by
 refine F.ok rM (fun vs H Q E h=>?_) (fun cdv A outer s H vs Q E hr h=>?_)
 · obtain ⟨c,nl,m,ns,rfl,_⟩:=h
   rfl
 · obtain ⟨c,nl,m,ns,rfl,D,m0,q⟩:=h
   have GS:=GS0.mono (show 2<=11 by decide)
   have GC:=GC0.mono (show 2<=11 by decide)
   have SM:=SM0.mono (show 7<=11 by decide)
   refine cH ⟨_,(K6 (Ld 3 rM.nd (K9 CO hr fD (K1 (K0 0) (K1 K4 (K1 (K0 1) (K1 (K5 Lk (K0 2) K4) K3))))))
     (K6 (Lf (Lb Ll (K5 Lk (K5 Ls (K0 2) K4) K4) K4) (K8 (Ld 3 rM.nd (K9 GC hr c6 (K1 (K0 0) (K1 (K0 3) K3))))) Lh)
     (K6 (Lf (Lb Ll (K5 Lk (K5 Ls (K0 2) K4) K4) K4) (K6 (Ld 4 rM.nd (K9 GS hr fE (K1 (K0 0) (K1 (K9 SM hr hC (K1 (K0 0) (K1 K4 (K1 (K0 1) (K1 K4 K3))))) (K1 (K0 1) K3)))))
     (K8 (Ld 3 rM.nd (Lg (K1 (La Lq (Lj (K1 K7 (K1 K7 K3))) (K5 Lk (K5 Ls (K0 2) K4) K4)) (K1 (K0 4) (K1 (K9 SM hr hC (K1 (K0 0) (K1 K4 (K1 (K0 1) (K1 K4 K3))))) K3))))))) Lh)
     (K6 (Lf (Lb Ll (K5 Lk (K5 Ls (K0 2) K4) K4) K4) (K8 (Ld 3 rM.nd (Lg (K1 K7 (K1 (Lg (K1 (La Li (K0 3) K4) (K1 (La Li (K0 3) K4) (K1 (La Li (K0 3) K4) K3)))) K3))))) Lh)
     (K8 (Lc (K0 3))))))),?_⟩
   have d0:=aO (k:=m) (n:=4) (by decide)
   have d1:=aN (k:=m) (n:=4) (by decide)
   refine ar fun Rk kR=>?_
   refine ⟨_,rfl,_,rfl,_,rfl,_,_,rfl,rfl,(by show (0:Int) < 4; decide),c,10,nl,m % 4,ns,rfl,D,by decide,by decide,d0,d1,fun v e H1 s1 ev we=>?_⟩
   have we:ke ns 6 2176 e:=we.up (by omega) (Nat.mul_le_mul_left 272 (vj (b:=3) (by omega)))
   refine ao ?_
   refine kR _ _ ?_
   refine aB [some (.int c),some (.ref nl),some (.int m),some v,none] rfl ?_
   refine ar fun Rk kR=>?_
   refine ⟨_,rfl,_,_,rfl,rfl,⟨by decide,by decide +kernel⟩,_,_,rfl,rfl,(by show (0:Int) < 4; decide),rfl,_,rfl,?_⟩
   suffices hs:∀(v:V) (e:TW.E) (H1:Hp),ah H H1->bL H1 v e->ke ns 19 2992 e->Rk [some (.int c),some (.ref nl),some (.int m),some v,none] H1 by
     refine aH (fun _=>?_) (fun _=>hs v e H1 s1 ev (we.up (by decide) (by decide)))
     refine ⟨_,rfl,_,rfl,c,v,ns,e,6,2176,rfl,ev,we,by decide,fun v2 e2 H2 s2 ev2 we2=>?_⟩
     refine ao ?_
     exact hs v2 e2 H2 (aa s1 s2) ev2 (we2.up (by decide) (by decide))
   intro v e H1 s1 ev we
   refine kR _ _ ?_
   refine ar fun Rk kR=>?_
   refine ⟨_,rfl,_,_,rfl,rfl,⟨by decide,by decide +kernel⟩,_,_,rfl,rfl,(by show (0:Int) < 4; decide),rfl,_,rfl,?_⟩
   suffices hs:∀(v:V) (e:TW.E) (H1:Hp) (o4:Option V),ah H H1->bL H1 v e->ke ns 19 2992 e->(m / 4 % 4=1->∃k a b,e=.two k a b/\(k=.same\/k=.under)/\e.sz + 3<=782/\e.dep<=18)->Rk [some (.int c),some (.ref nl),some (.int m),some v,o4] H1 by
     refine aH (fun _=>?_) (fun cz=>hs v e H1 none s1 ev we (fun z=>absurd (decide_eq_true (congrArg V.int z)) cz))
     refine ar fun Rk kR=>?_
     refine ⟨_,rfl,_,rfl,_,rfl,c,500,nl,2,ns,rfl,D.go s1,by decide,by decide,by decide,by decide,fun v2 e2 H2 s2 ev2 w2=>?_⟩
     have w2:kh ns 2 136 e2:=w2
     refine ⟨_,rfl,c,v2,nl,ns,e2,2,136,rfl,D.go (aa s1 s2),ev2,w2,fun v3 e3 H3 s3 ev3 w3=>?_⟩
     refine ao ?_
     refine kR _ _ ?_
     refine aB [some (.int c),some (.ref nl),some (.int m),some v,some v3] rfl ?_
     refine ⟨Nu,fun L hL=>?_⟩
     have sL:ah H3 (upd H3 L (.lst [.str "same",.str "under"])):=ag hL _
     have gL:(upd H3 L (.lst [.str "same",.str "under"])) L=some (.lst [.str "same",.str "under"]):=ae
     generalize upd H3 L (.lst [.str "same",.str "under"])=H4 at sL gL ⊢
     refine ⟨_,rfl,_,_,rfl,rfl,⟨by decide,by decide +kernel⟩,_,_,rfl,rfl,(by show (0:Int) < 2; decide),?_⟩
     obtain ⟨kk,hat,hkk⟩:=ve (a:=.same) (b:=.under) (aO (k:=m / 16) (n:=2) (by decide)) (aN (by decide))
     refine ⟨L,_,_,_,rfl,rfl,aw.of gL,hat,_,rfl,_,rfl,_,rfl,c,600,nl,2,ns,rfl,D.go (aa s1 (aa s2 (aa s3 sL))),by decide,by decide,by decide,by decide,fun v5 e5 H5 s5 ev5 w5=>⟨Nv,fun p hp=>?_⟩⟩
     have w5:kh ns 2 136 e5:=w5
     have sp:=aA (aa sL s5) (o:=.tup [.str kk.str,v3,v5]) hp
     have x1:=w3.dp
     have x2:=w3.sz
     have x3:=w5.dp
     have x4:=w5.sz
     have xd:(TW.E.two kk e3 e5).dep<=18:=by show max e3.dep e5.dep + 1<=18; omega
     have xs:(TW.E.two kk e3 e5).sz + 3<=782:=by show e3.sz + e5.sz + 3 + 3<=782; omega
     refine ao ?_
     refine hs (.ref p) (.two kk e3 e5) _ (some v3) (aa (aa s1 (aa s2 s3)) sp) ⟨v3,v5,⟨p,rfl,ae⟩,ev3.keep (ah.tk sp),ev5.keep (jU hp _)⟩ ⟨?_,⟨w3.ok,w5.ok⟩,by omega,by omega⟩ (fun _=>⟨kk,e3,e5,rfl,hkk,xs,xd⟩)
     rcases hkk with rfl | rfl <;> exact ⟨w3.is,w5.is⟩
   intro v e H1 o4 s1 ev we hm
   refine kR _ _ ?_
   refine ar fun Rk kR=>?_
   refine ⟨_,rfl,_,_,rfl,rfl,⟨by decide,by decide +kernel⟩,_,_,rfl,rfl,(by show (0:Int) < 8; decide),rfl,_,rfl,?_⟩
   refine aH (fun c5=>?_) (fun _=>kR _ _ ⟨_,rfl,q v e H1 s1 ev (we.up (by decide) (by decide))⟩)
   have c5:=ue c5
   obtain ⟨k,a,b,rfl,hk,xs,xd⟩:=hm (by omega)
   obtain ⟨x,y,⟨p,rfl,hp⟩,ex,ey⟩:=ev
   refine ⟨_,rfl,p,_,_,_,rfl,rfl,aC.of hp,rfl,_,rfl,p,_,_,_,rfl,rfl,aC.of hp,rfl,_,rfl,p,_,_,_,rfl,rfl,aC.of hp,rfl,Nv,fun p2 hp2=>⟨Nu,fun p3 hp3=>?_⟩⟩
   have t2:=ag hp2 (.tup [.str k.str,y,x])
   have t3:=ag hp3 (.tup [.str "not",.ref p2])
   have t23:=aa t2 t3
   refine ao ?_
   refine kR _ _ ?_
   refine ⟨_,rfl,q (.ref p3) (.nt (.two k b a)) _ (aa s1 t23) ⟨.ref p2,⟨p3,rfl,ae⟩,y,x,⟨p2,rfl,t3 _ _ ae⟩,ey.keep (ah.tk t23),ex.keep (ah.tk t23)⟩ ⟨?_,⟨we.ok.2,we.ok.1⟩,?_,?_⟩⟩
   · have is:=we.is
     rcases hk with rfl | rfl <;> exact ⟨is.2,is.1⟩
   · have xd:max a.dep b.dep + 1<=18:=xd
     show max b.dep a.dep + 1 + 1<=20
     omega
   · have xs:a.sz + b.sz + 3 + 3<=782:=xs
     show b.sz + a.sz + 3 + 1 + 3<=3000
     omega
theorem zU (s:Src K mg "_law_any_condition" sAC)(SM0:aJ P w K mg base "_law_sum" ["cell","k","names","deep"] 7 (dC 4))(GS0:aJ P w K mg base "_law_grown_sum" ["cell","told","names"] 2 rP)(CO:aJ P w K mg base "_law_condition" ["cell","k","names","deep"] 11 (d9 4))(GC0:aJ P w K mg base "_law_grown_condition" ["cell","told"] 2 yF):aJ P w K mg base "_law_any_condition" ["cell","names","number"] 12 yD:=
 let ⟨f,fd,F,m⟩:=s
 ⟨f,fd,C5 F SM0 GS0 CO GC0,F.kp,nH F fun _ _ _ _ _ _ _ _ _=>rfl,m⟩
end
end TW
set_option Elab.async false
set_option linter.all false
set_option maxRecDepth 100000
set_option exponentiation.threshold 4000
set_option maxHeartbeats 1000000
namespace TW
open PySem L2
section
variable {P:Program}{w:World}{K:GP}{mg:Str->Option Value}{base:Heap}
/-! ### _law_node -/
theorem kh.wr {ns:List Str}{d s:Nat}{e:E}(h:kh ns d s e)(l8:∀x∈ns,dJ x)(hd:d < 30)(hs:s<=4001):ki 30 e:=⟨h.is,E.okN.imp l8 h.ok,by have:=h.sz; omega,by have:=h.dp; omega⟩
theorem ke.wr {ns:List Str}{d s:Nat}{e:E}(h:ke ns d s e)(l8:∀x∈ns,dJ x)(hd:d < 30)(hs:s<=4001):nF 30 e:=⟨h.is,E.okN.imp l8 h.ok,by have:=h.sz; omega,by have:=h.dp; omega⟩
/-- what a drawn node is -/
structure p7 (ns:List Str)(m:Int)(e:Np):Prop where
 w:e.wr
 ld:∀n∈e.leads,0<=n/\n < m
 kn:∀t∈e.tolds,t.okN (· ∈ ns)/\t.dep<=29
 lo:∀t∈e.tolds,t.txt.length<=3000
def mm:Sp:=fun vs H Q _=>∃(c:Int) (nl:Addr) (m:Int) (ns:List Str),vs=[.int c,.ref nl,.int m]/\Nm H nl ns/\(∀x∈ns,dJ x)/\0 < m/\m<=63/\∀(L:Addr) (v:V) (e:Np) (H':Hp),H L=none->ah H H'->H' L=some (.lst [v,.str (Hj sp1 e.ws)])->aP H' v e->p7 ns m e->Q (.ref L) H'
theorem vZ {H:Hp}{v:V}{e:Np}(h:aP H v e)(w:e.wr):JoinOk " " e.ws=true:=by
 obtain ⟨hd,xs,ra,eq⟩:=Np.rowAt h w
 rw [eq]
 exact vB ra
theorem FJ {m g:Int}(h0:0<=g)(h1:g < m)(h2:m<=63):0<=g/\g < 10 ^ 30:=⟨h0,oq (by omega)⟩
theorem kh.lo {ns:List Str}{d s:Nat}{e:E}(h:kh ns d s e)(l8:∀x∈ns,dJ x)(hd:d<=29)(hs:s<=3003):(e.okN (· ∈ ns)/\e.dep<=29)/\e.txt.length<=3000:=⟨⟨h.ok,GY h.dp hd⟩,GY (E.txt_len (E.okN.imp l8 h.ok)) (by have:=h.sz; omega)⟩
theorem ke.lo {ns:List Str}{d s:Nat}{e:E}(h:ke ns d s e)(l8:∀x∈ns,dJ x)(hd:d<=29)(hs:s<=3003):(e.okN (· ∈ ns)/\e.dep<=29)/\e.txt.length<=3000:=⟨⟨h.ok,GY h.dp hd⟩,GY (E.txt_len (E.okN.imp l8 h.ok)) (by have:=h.sz; omega)⟩
theorem lq {ns:List Str}{x:Str}(hx:x∈ns)(l8:∀x∈ns,dJ x):((E.box "box" x).okN (· ∈ ns)/\(E.box "box" x).dep<=29)/\(E.box "box" x).txt.length<=3000:=⟨⟨⟨rfl,hx⟩,HD _⟩,GY (l8 x hx).l8 (by decide)⟩
theorem all1 {α:Type}{P:α->Prop}{a:α}(h:P a):∀x∈[a],P x:=fun x hx=>by rw [List.mem_singleton.mp hx]; exact h
theorem all2 {α:Type}{P:α->Prop}{a b:α}(h:P a)(h2:P b):∀x∈[a,b],P x:=fun x hx=>by
 rcases List.mem_cons.mp hx with e | hx
 · rw [e]; exact h
 · rw [List.mem_singleton.mp hx]; exact h2
theorem wH:Hj sp1 (Np.ws .fin)="end":=by decide +kernel
theorem cX:aq ["cell","names","many","number","goals","kind","name","told","row"] ["cell","names","many"] (af sNode):=⟨rfl,rfl,rfl,by decide +kernel,rfl,by decide +kernel,by decide +kernel⟩
theorem c7:(af sNode).names.lookup (GQ "_law_any_condition")=some .globalImplicit:=by decide +kernel
theorem cE:(af sNode).names.lookup (GQ "_law_any_sum")=some .globalImplicit:=by decide +kernel
theorem cg:(af sNode).names.lookup (GQ "_law_stir")=some .globalImplicit:=by decide +kernel
theorem cj:(af sNode).names.lookup (GQ "_law_word")=some .globalImplicit:=by decide +kernel
theorem kE:(af sNode).names.lookup (GQ "len")=some .globalImplicit:=by decide +kernel
theorem c9:(af sNode).names.lookup (GQ "str")=some .globalImplicit:=by decide +kernel
theorem xy {f:Addr}{fd:FuncData}(F:bI K "_law_node" "_law_node" sNode f fd)(m_len:mg "len"=none)(m_str:mg "str"=none)(ST0:aJ P w K mg base "_law_stir" ["cell","k"] 1 bo)(AS0:aJ P w K mg base "_law_any_sum" ["cell","names","number"] 8 yE)(AC0:aJ P w K mg base "_law_any_condition" ["cell","names","number"] 12 yD)(LW0:aJ P w K mg base "_law_word" ["thing"] 31 (mh 30)):aL P w K mg base CX0 41 f fd ["cell","names","many"] mm:=by
 refine F.ok cX (fun vs H Q E h=>?_) (fun cdv A outer s H vs Q E hr h=>?_)
 · obtain ⟨c,nl,m,ns,rfl,_⟩:=h
   rfl
 · obtain ⟨c,nl,m,ns,rfl,D,l8,m0,m9,q⟩:=h
   have ST:=ST0.mono (show 1<=40 by decide)
   have AS:=AS0.mono (show 8<=40 by decide)
   have AC:=AC0.mono (show 12<=40 by decide)
   have LW:=LW0.mono (show 31<=40 by decide)
   refine cH ⟨_,(K6 (Ld 3 cX.nd (K9 ST hr cg (K1 (K0 0) (K1 K4 K3))))
     (K6 (Ld 4 cX.nd (Lj (K1 (K5 Lk (K9 ST hr cg (K1 (K0 0) (K1 K4 K3))) (K0 2)) (K1 (K5 Lk (K9 ST hr cg (K1 (K0 0) (K1 K4 K3))) (K0 2)) K3))))
     (K6 (Ld 5 cX.nd (K5 Lk (K0 3) K4))
     (K6 (Lf (Lv (LO (Lb LX (K0 5) K4) (LP (Lb (Mj (m:=2) (cO hr _ (by decide))) (K0 1) (Lj K3))))) (K6 (Ld 6 cX.nd (La Lq (K0 1) (K5 Lk (K5 Ls (K0 3) K4) (Lm Lp kE m_len G1 (K1 (K0 1) K3)))))
     (K6 (Ld 7 cX.nd (K9 AS hr cE (K1 (K0 0) (K1 (K0 1) (K1 (K5 Ls (K0 3) K4) K3)))))
     (K8 (Lc (Lj (K1 (Lg (K1 K7 (K1 (K0 6) (K1 (K0 7) (K1 (La Lq (K0 4) K4) K3))))) (K1 (L5 K7 (K1 (Lj (K1 K7 (K1 (K0 6) (K1 (K9 LW hr cj (K1 (K0 7) K3)) (K1 (Lw L0 c9 m_str (by decide +kernel) (K1 (La Lq (K0 4) K4) K3)) K3))))) K3)) K3))))))) Lh)
     (K6 (Lf (Lb LX (K0 5) K4) (K6 (Ld 7 cX.nd (K9 AS hr cE (K1 (K0 0) (K1 (K0 1) (K1 (K5 Ls (K0 3) K4) K3)))))
     (K8 (Lc (Lj (K1 (Lg (K1 K7 (K1 (K0 7) (K1 (La Lq (K0 4) K4) K3)))) (K1 (L5 K7 (K1 (Lj (K1 K7 (K1 (K9 LW hr cj (K1 (K0 7) K3)) (K1 (Lw L0 c9 m_str (by decide +kernel) (K1 (La Lq (K0 4) K4) K3)) K3)))) K3)) K3)))))) Lh)
     (K6 (Lf (Lb LX (K0 5) K4) (K6 (Ld 7 cX.nd (K9 AC hr c7 (K1 (K0 0) (K1 (K0 1) (K1 (K5 Ls (K0 3) K4) K3)))))
     (K6 (Ld 8 cX.nd (L5 K7 (K1 (Lj (K1 K7 (K1 (K9 LW hr cj (K1 (K0 7) K3)) (K1 (Lw L0 c9 m_str (by decide +kernel) (K1 (La Lq (K0 4) K4) K3)) (K1 (Lw L0 c9 m_str (by decide +kernel) (K1 (La Lq (K0 4) K4) K3)) K3))))) K3)))
     (K8 (Lc (Lj (K1 (Lg (K1 K7 (K1 (K0 7) (K1 (La Lq (K0 4) K4) (K1 (La Lq (K0 4) K4) K3))))) (K1 (K0 8) K3))))))) Lh)
     (K6 (Lf (Lv (LO (Lb Ll (K0 5) K4) (LP (Lb (Mj (m:=2) (cO hr _ (by decide))) (K0 1) (Lj K3))))) (K6 (Ld 6 cX.nd (La Lq (K0 1) (K5 Lk (K5 Ls (K0 3) K4) (Lm Lp kE m_len G1 (K1 (K0 1) K3)))))
     (K8 (Lc (Lj (K1 (Lg (K1 K7 (K1 (K0 6) (K1 (La Lq (K0 4) K4) K3)))) (K1 (L5 K7 (K1 (Lj (K1 K7 (K1 (K0 6) (K1 (Lw L0 c9 m_str (by decide +kernel) (K1 (La Lq (K0 4) K4) K3)) K3)))) K3)) K3)))))) Lh)
     (K8 (Lc (Lj (K1 (Lg (K1 K7 K3)) (K1 K7 K3)))))))))))),?_⟩
   refine EN fun Rk kR=>?_
   refine ⟨_,rfl,c,0,rfl,by decide,by decide,fun r r0 r1=>?_⟩
   refine ao ?_
   refine ⟨_,rfl,c,1,rfl,by decide,by decide,fun a a0 a1=>⟨_,rfl,_,_,rfl,rfl,m0,?_⟩⟩
   refine ⟨_,rfl,c,2,rfl,by decide,by decide,fun b b0 b1=>⟨_,rfl,_,_,rfl,rfl,m0,Nu,fun G hG=>?_⟩⟩
   obtain ⟨g0,eg0,h00,h01⟩ : ∃g,g=a % m/\0<=g/\g < m:=⟨_,rfl,aO m0,aN m0⟩
   obtain ⟨g1,eg1,h10,h11⟩ : ∃g,g=b % m/\0<=g/\g < m:=⟨_,rfl,aO m0,aN m0⟩
   have n0:=FJ h00 h01 m9
   have n1:=FJ h10 h11 m9
   refine ao ?_
   refine ⟨_,rfl,_,_,rfl,rfl,(by show (0:Int) < 10; decide),?_⟩
   refine ao ?_
   refine kR _ _ ?_
   refine aB [some (.int c),some (.ref nl),some (.int m),some (.int r),some (.ref G),some (.int (r % 10)),none,none,none] rfl ?_
   refine pH (upd H G (.lst [.int g0,.int g1])) (by subst eg0 eg1; rfl) ?_
   clear eg0 eg1
   have sG:ah H (upd H G (.lst [.int g0,.int g1])):=ag hG _
   have gG:(upd H G (.lst [.int g0,.int g1])) G=some (.lst [.int g0,.int g1]):=ae
   generalize upd H G (.lst [.int g0,.int g1])=H1 at sG gG ⊢
   have DG:=D.go sG
   refine ar fun Rk kR=>?_
   refine ⟨_,rfl,_,_,rfl,rfl,_,rfl,?_⟩
   suffices hs:∀H2,ah H1 H2->Rk [some (.int c),some (.ref nl),some (.int m),some (.int r),some (.ref G),some (.int (r % 10)),none,none,none] H2 by
     refine aH (fun c3=>?_) (fun _=>aX (hs H1 (same_refl _)))
     refine ⟨_,rfl,Nr,fun z hz=>?_⟩
     have sz:ah H1 (upd H1 z (.lst [])):=ag hz _
     have gz:(upd H1 z (.lst [])) z=some (.lst []):=ae
     generalize upd H1 z (.lst [])=Hz at sz gz ⊢
     have Dz:=DG.go sz
     have sz2:=aa sG sz
     have gGz:=sz _ _ gG
     refine ⟨_,RB.nil (aw.of Dz.hn) (aw.of gz),_,rfl,?_⟩
     refine aH (fun c1=>?_) (fun _=>hs Hz sz)
     have hpos:0 < ns.length:=by
       cases ns with
       | nil=>exact absurd c1 (by decide)
       | cons a l=>exact Iz _
     refine ar fun Rk kR=>?_
     refine ⟨_,rfl,_,rfl,_,_,rfl,rfl,⟨by decide,by decide +kernel⟩,_,rfl,nl,_,rfl,.inl (aw.of Dz.hn),_,_,rfl,rfl,(by rw [GR]; omega),?_⟩
     rw [GR]
     obtain ⟨x,hxm,hat⟩:=eC V.str ns (aO (k:=r / 16) (n:=(ns.length:Int)) (by omega)) (aN (by omega))
     refine ⟨nl,_,_,_,rfl,rfl,aw.of Dz.hn,hat,?_⟩
     refine ao ?_
     refine kR _ _ ?_
     refine aB [some (.int c),some (.ref nl),some (.int m),some (.int r),some (.ref G),some (.int (r % 10)),some (.str x),none,none] rfl ?_
     refine ar fun Rk kR=>?_
     refine ⟨_,rfl,_,rfl,_,rfl,_,_,rfl,rfl,⟨by decide,by decide +kernel⟩,c,nl,_,ns,rfl,Dz,Kg r0 (by decide),fun v e H3 s3 ev dr=>?_⟩
     have we:=dr.wr l8 (by decide) (by decide)
     have lo:=dr.lo l8 (by decide) (by decide)
     have sB:=aa sz2 s3
     have gGB:=s3 _ _ gGz
     refine ao ?_
     refine kR _ _ ?_
     refine aB [some (.int c),some (.ref nl),some (.int m),some (.int r),some (.ref G),some (.int (r % 10)),some (.str x),some (v),none] rfl ?_
     refine ⟨_,rfl,_,rfl,_,rfl,G,_,_,_,rfl,rfl,aw.of gGB,rfl,Nw,fun p hp=>?_⟩
     have sp:=aA sB (o:=.tup [.str "put",.str x,v,.int g0]) hp
     have gp:=ae (H:=H3) (a:=p) (o:=.tup [.str "put",.str x,v,.int g0])
     have tp:=ag hp (.tup [.str "put",.str x,v,.int g0])
     generalize upd H3 p (.tup [.str "put",.str x,v,.int g0])=H4 at sp gp tp ⊢
     have gG4:=tp _ _ gGB
     have ev4:=ev.keep (ah.tk tp)
     have nd:aP H4 (.ref p) (.put x e g0):=⟨v,⟨p,rfl,gp⟩,ev4⟩
     have wr:p7 ns m (.put x e g0:Np):=⟨⟨l8 x hxm,we,n0⟩,all1 ⟨h00,h01⟩,all2 (lq hxm l8).1 lo.1,all2 (lq hxm l8).2 lo.2⟩
     refine ⟨rfl,_,rfl,_,rfl,v,e,rfl,ev4,.inl we,fun H5 s5=>?_⟩
     refine ⟨_,rfl,G,_,_,_,rfl,rfl,aw.of (s5 _ _ gG4),rfl,.inl ⟨g0,rfl,Im (cW (lP n0)) (by decide),Nw,fun l hl=>?_⟩⟩
     refine ⟨" ",l,["put",x,e.txt,GQ (toString g0)],rfl,rfl,aw.of ae,vZ nd wr.w,Nu,fun L hL=>?_⟩
     exact q L (.ref p) (.put x e g0) _ (aE (aA (aa sp s5) hl) hL) (aA (aA (aa sp s5) hl) hL) ae (nd.keep (ah.tk (aA (aA s5 hl) hL))) wr
   intro H2 s2
   have D2:=DG.go s2
   have gG2:=s2 _ _ gG
   have sG2:=aa sG s2
   refine kR _ _ ?_
   refine ar fun Rk kR=>?_
   refine ⟨_,rfl,_,_,rfl,rfl,_,rfl,?_⟩
   refine aH (fun c5=>?_) (fun _=>?_)
   · refine ar fun Rk kR=>?_
     refine ⟨_,rfl,_,rfl,_,rfl,_,_,rfl,rfl,⟨by decide,by decide +kernel⟩,c,nl,_,ns,rfl,D2,Kg r0 (by decide),fun v e H3 s3 ev dr=>?_⟩
     have we:=dr.wr l8 (by decide) (by decide)
     have lo:=dr.lo l8 (by decide) (by decide)
     have sB:=aa sG2 s3
     have gGB:=s3 _ _ gG2
     refine ao ?_
     refine kR _ _ ?_
     refine aB [some (.int c),some (.ref nl),some (.int m),some (.int r),some (.ref G),some (.int (r % 10)),none,some (v),none] rfl ?_
     refine ⟨_,rfl,_,rfl,G,_,_,_,rfl,rfl,aw.of gGB,rfl,Nv,fun p hp=>?_⟩
     have sp:=aA sB (o:=.tup [.str "say",v,.int g0]) hp
     have gp:=ae (H:=H3) (a:=p) (o:=.tup [.str "say",v,.int g0])
     have tp:=ag hp (.tup [.str "say",v,.int g0])
     generalize upd H3 p (.tup [.str "say",v,.int g0])=H4 at sp gp tp ⊢
     have gG4:=tp _ _ gGB
     have ev4:=ev.keep (ah.tk tp)
     have nd:aP H4 (.ref p) (.say e g0):=⟨v,⟨p,rfl,gp⟩,ev4⟩
     have wr:p7 ns m (.say e g0:Np):=⟨⟨we,n0⟩,all1 ⟨h00,h01⟩,all1 lo.1,all1 lo.2⟩
     refine ⟨rfl,_,rfl,v,e,rfl,ev4,.inl we,fun H5 s5=>?_⟩
     refine ⟨_,rfl,G,_,_,_,rfl,rfl,aw.of (s5 _ _ gG4),rfl,.inl ⟨g0,rfl,Im (cW (lP n0)) (by decide),Nv,fun l hl=>?_⟩⟩
     refine ⟨" ",l,["say",e.txt,GQ (toString g0)],rfl,rfl,aw.of ae,vZ nd wr.w,Nu,fun L hL=>?_⟩
     exact q L (.ref p) (.say e g0) _ (aE (aA (aa sp s5) hl) hL) (aA (aA (aa sp s5) hl) hL) ae (nd.keep (ah.tk (aA (aA s5 hl) hL))) wr
   refine kR _ _ ?_
   refine ar fun Rk kR=>?_
   refine ⟨_,rfl,_,_,rfl,rfl,_,rfl,?_⟩
   refine aH (fun c5=>?_) (fun _=>?_)
   · refine ar fun Rk kR=>?_
     refine ⟨_,rfl,_,rfl,_,rfl,_,_,rfl,rfl,⟨by decide,by decide +kernel⟩,c,nl,_,ns,rfl,D2,Kg r0 (by decide),fun v e H3 s3 ev dr=>?_⟩
     have we:=dr.wr l8 (by decide) (by decide)
     have lo:=dr.lo l8 (by decide) (by decide)
     have sB:=aa sG2 s3
     have gGB:=s3 _ _ gG2
     refine ao ?_
     refine kR _ _ ?_
     refine aB [some (.int c),some (.ref nl),some (.int m),some (.int r),some (.ref G),some (.int (r % 10)),none,some (v),none] rfl ?_
     refine ar fun Rk kR=>?_
     have wr:p7 ns m (Np.test e g0 g1):=⟨⟨we,n0,n1⟩,all2 ⟨h00,h01⟩ ⟨h10,h11⟩,all1 lo.1,all1 lo.2⟩
     refine ⟨rfl,_,rfl,v,e,rfl,ev,.inr we,fun H5 s5=>?_⟩
     refine ⟨_,rfl,G,_,_,_,rfl,rfl,aw.of (s5 _ _ gGB),rfl,.inl ⟨g0,rfl,Im (cW (lP n0)) (by decide),?_⟩⟩
     refine ⟨_,rfl,G,_,_,_,rfl,rfl,aw.of (s5 _ _ gGB),rfl,.inl ⟨g1,rfl,Im (cW (lP n1)) (by decide),Nw,fun l hl=>?_⟩⟩
     have hj:JoinOk " " ["test",e.txt,GQ (toString g0),GQ (toString g1)]=true:=by
       refine fU 4000 (fun y hy=>?_) (by show 4 * 4000 + 4 * 1<=16777216; decide)
       have a1:=bz n0
       have a2:=bz n1
       have a3:=we.len
       rcases List.mem_cons.mp hy with z | hy
       · rw [z]; decide
       rcases List.mem_cons.mp hy with z | hy
       · rw [z]; omega
       rcases List.mem_cons.mp hy with z | hy
       · rw [z]; omega
       · rw [List.mem_singleton.mp hy]; omega
     refine ⟨" ",l,["test",e.txt,GQ (toString g0),GQ (toString g1)],rfl,rfl,aw.of ae,hj,?_⟩
     have s6:=aA s5 (o:=.lst [.str "test",.str e.txt,.str (GQ (toString g0)),.str (GQ (toString g1))]) hl
     refine ao ?_
     refine kR _ _ ?_
     refine pH (upd H5 l (.lst [.str "test",.str e.txt,.str (GQ (toString g0)),.str (GQ (toString g1))])) rfl ?_
     generalize upd H5 l (.lst [.str "test",.str e.txt,.str (GQ (toString g0)),.str (GQ (toString g1))])=H6 at s6 ⊢
     refine aB [some (.int c),some (.ref nl),some (.int m),some (.int r),some (.ref G),some (.int (r % 10)),none,some (v),some (.str (Hj sp1 ["test",e.txt,GQ (toString g0),GQ (toString g1)]))] rfl ?_
     have gG6:=s6 _ _ gGB
     have ev6:=ev.keep (ah.tk s6)
     refine ⟨_,rfl,_,rfl,G,_,_,_,rfl,rfl,aw.of gG6,rfl,_,rfl,G,_,_,_,rfl,rfl,aw.of gG6,rfl,Nw,fun p hp=>⟨_,rfl,Nu,fun L hL=>?_⟩⟩
     have tp:=ag hp (.tup [.str "test",v,.int g0,.int g1])
     have tL:=ag hL (.lst [.ref p,.str (Hj sp1 ["test",e.txt,GQ (toString g0),GQ (toString g1)])])
     exact q L (.ref p) (.test e g0 g1) _ (aE (aa (aa sB s6) tp) hL) (aa (aa sB s6) (aa tp tL)) ae ⟨v,⟨p,rfl,tL _ _ ae⟩,ev6.keep (ah.tk (aa tp tL))⟩ wr
   refine kR _ _ ?_
   refine ar fun Rk kR=>?_
   refine ⟨_,rfl,rfl,_,rfl,?_⟩
   suffices hs:∀H3,ah H2 H3->Rk [some (.int c),some (.ref nl),some (.int m),some (.int r),some (.ref G),some (.int (r % 10)),none,none,none] H3 by
     refine aH (fun c8=>?_) (fun _=>aX (hs H2 (same_refl _)))
     refine ⟨_,rfl,Nr,fun z hz=>?_⟩
     have sz:ah H2 (upd H2 z (.lst [])):=ag hz _
     have gz:(upd H2 z (.lst [])) z=some (.lst []):=ae
     generalize upd H2 z (.lst [])=Hz at sz gz ⊢
     have Dz:=D2.go sz
     have sz2:=aa sG2 sz
     have gGz:=sz _ _ gG2
     refine ⟨_,RB.nil (aw.of Dz.hn) (aw.of gz),_,rfl,?_⟩
     refine aH (fun c1=>?_) (fun _=>hs Hz sz)
     have hpos:0 < ns.length:=by
       cases ns with
       | nil=>exact absurd c1 (by decide)
       | cons a l=>exact Iz _
     refine ar fun Rk kR=>?_
     refine ⟨_,rfl,_,rfl,_,_,rfl,rfl,⟨by decide,by decide +kernel⟩,_,rfl,nl,_,rfl,.inl (aw.of Dz.hn),_,_,rfl,rfl,(by rw [GR]; omega),?_⟩
     rw [GR]
     obtain ⟨x,hxm,hat⟩:=eC V.str ns (aO (k:=r / 16) (n:=(ns.length:Int)) (by omega)) (aN (by omega))
     refine ⟨nl,_,_,_,rfl,rfl,aw.of Dz.hn,hat,?_⟩
     refine ao ?_
     refine kR _ _ ?_
     refine aB [some (.int c),some (.ref nl),some (.int m),some (.int r),some (.ref G),some (.int (r % 10)),some (.str x),none,none] rfl ?_
     have sB:=sz2
     have gGB:=gGz
     refine ⟨_,rfl,_,rfl,G,_,_,_,rfl,rfl,aw.of gGB,rfl,Nv,fun p hp=>?_⟩
     have sp:=aA sB (o:=.tup [.str "pick",.str x,.int g0]) hp
     have gp:=ae (H:=Hz) (a:=p) (o:=.tup [.str "pick",.str x,.int g0])
     have tp:=ag hp (.tup [.str "pick",.str x,.int g0])
     generalize upd Hz p (.tup [.str "pick",.str x,.int g0])=H4 at sp gp tp ⊢
     have gG4:=tp _ _ gGB
     have nd:aP H4 (.ref p) (.pick x g0):=⟨p,rfl,gp⟩
     have wr:p7 ns m (.pick x g0:Np):=⟨⟨l8 x hxm,n0⟩,all1 ⟨h00,h01⟩,all1 (lq hxm l8).1,all1 (lq hxm l8).2⟩
     refine ⟨rfl,_,rfl,_,rfl,G,_,_,_,rfl,rfl,aw.of gG4,rfl,.inl ⟨g0,rfl,Im (cW (lP n0)) (by decide),Nv,fun l hl=>?_⟩⟩
     refine ⟨" ",l,["pick",x,GQ (toString g0)],rfl,rfl,aw.of ae,vZ nd wr.w,Nu,fun L hL=>?_⟩
     exact q L (.ref p) (.pick x g0) _ (aE (aA sp hl) hL) (aA (aA sp hl) hL) ae (nd.keep (ah.tk (aA (aA (same_refl _) hl) hL))) wr
   intro H3 s3
   refine kR _ _ ?_
   refine ⟨Nt,fun p hp=>⟨Nu,fun L hL=>?_⟩⟩
   have tp:=ag hp (.tup [.str "end"])
   have tL:=ag hL (.lst [.ref p,.str "end"])
   exact q L (.ref p) .fin _ (aE (aa (aa sG2 s3) tp) hL) (aa (aa sG2 s3) (aa tp tL)) (by rw [wH]; exact ae) ⟨p,rfl,tL _ _ ae⟩ ⟨Ht,(fun _ z=>nomatch z),(fun _ z=>nomatch z),fun _ z=>nomatch z⟩
theorem tN (s:Src K mg "_law_node" sNode)(m_len:mg "len"=none)(m_str:mg "str"=none)(ST0:aJ P w K mg base "_law_stir" ["cell","k"] 1 bo)(AS0:aJ P w K mg base "_law_any_sum" ["cell","names","number"] 8 yE)(AC0:aJ P w K mg base "_law_any_condition" ["cell","names","number"] 12 yD)(LW0:aJ P w K mg base "_law_word" ["thing"] 31 (mh 30)):aJ P w K mg base "_law_node" ["cell","names","many"] 41 mm:=
 let ⟨f,fd,F,m⟩:=s
 ⟨f,fd,xy F m_len m_str ST0 AS0 AC0 LW0,F.kp,nH F fun _ _ _ _ _ _ _ _ _=>rfl,m⟩
end
end TW
set_option Elab.async false
set_option linter.all false
set_option maxRecDepth 100000
set_option exponentiation.threshold 4000
set_option maxHeartbeats 1000000
namespace TW
open PySem L2
section
variable {P:Program}{w:World}{K:GP}{mg:Str->Option Value}{base:Heap}
abbrev sNames:Stmt:=top 58
theorem sub_len {α:Type}[DecidableEq α]:∀{xs ys:List α},xs.Nodup->(∀x∈xs,x∈ys)->xs.length<=ys.length
 | [],_,_,_=>HD _
 | x :: r,ys,nd,h=>by
   rw [List.nodup_cons] at nd
   have hx:x∈ys:=h x (List.mem_cons.mpr (.inl rfl))
   have ih:=sub_len (xs:=r) (ys:=ys.erase x) nd.2 fun y hy=>(List.mem_erase_of_ne (a:=y) (b:=x) (fun e:y=x=>nd.1 (e ▸ hy))).mpr (h y (List.mem_cons.mpr (.inr hy)))
   have hl:=List.length_erase_of_mem hx
   have hpos:0 < ys.length:=List.length_pos_of_mem hx
   rw [G5]
   omega
/-! ### names -/
abbrev lets:Str:="abcdefghijklmnopqrstuvwxyz"
theorem xa {k:Int}(h0:0<=k)(h1:k < 26):ig lets.cps.toList k=some (97 + k.toNat):=by
 have all:∀n:Fin 26,ig lets.cps.toList (n.1:Int)=some (97 + n.1):=by decide +kernel
 have:=all ⟨k.toNat,by omega⟩
 rw [show ((k.toNat:Nat):Int)=k by omega] at this
 exact this
abbrev some24:List Str:=["a","yes","put","box","abcdefgh","end","ye","no","x","test","input","abcdefg","yess","say","pick","plus","less","same","number","under","both","not","yours","mine"]
theorem yC:some24.Nodup:=by decide +kernel
theorem yA:∀x∈some24,1<=x.length/\x.length<=8/\∀c∈x.cps.toList,97<=c/\c < 123:=by decide +kernel
theorem BV:∀x∈some24,dJ x:=fun x hx=>let ⟨a,b,c⟩:=yA x hx; ⟨a,b,c⟩
theorem FN:∀ts:List Str,(IE "" ts).cps.toList=(ts.map fun x=>x.cps.toList).flatten
 | []=>rfl
 | [x]=>by show x.cps.toList=x.cps.toList++[]; rw [Hm]
 | x :: y :: r=>by
   show ((x++"")++IE "" (y :: r)).cps.toList=_
   rw [br,br,FN (y :: r),show ("":Str).cps.toList=[] from rfl,Hm]
   rfl
theorem ui {ts:List Str}(h:∀x∈ts,∃c,x.cps.toList=[c]/\97<=c/\c < 123)(h1:1<=ts.length)(h8:ts.length<=8):dJ (Hj "" ts):=by
 have e:(Hj "" ts).cps.toList=(ts.map fun x=>x.cps.toList).flatten:=by
   show (HU "" ts).cps.toList=_
   rw [StrLaws.glued_eq_join]
   exact FN ts
 have key:∀l:List Str,(∀x∈l,∃c,x.cps.toList=[c]/\97<=c/\c < 123)->(l.map fun x=>x.cps.toList).flatten.length=l.length/\∀c∈(l.map fun x=>x.cps.toList).flatten,97<=c/\c < 123:=by
   intro l
   induction l with
   | nil=>intro _; exact ⟨rfl,fun c hc=>nomatch hc⟩
   | cons a l ih=>
     intro hl
     obtain ⟨i1,i2⟩:=ih fun x hx=>hl x (G0 _ hx)
     obtain ⟨c0,e0,hc0⟩:=hl a GZ
     rw [Hi,List.flatten_cons,e0]
     refine ⟨by rw [GU,i1,Hq,G5]; omega,fun c hc=>?_⟩
     rcases List.mem_append.mp hc with z | z
     · rw [List.mem_singleton.mp z]; exact hc0
     · exact i2 c z
 obtain ⟨k1,k2⟩:=key ts h
 rw [← e] at k1 k2
 rw [bB] at k1
 exact ⟨by omega,by omega,k2⟩
theorem xf {fs:List Str}{y:Str}(h:fs.Nodup)(hy:y ∉ fs):(fs++[y]).Nodup:=by
 rw [List.nodup_append]
 refine ⟨h,by simp,fun a ha b hb=>?_⟩
 rw [List.mem_singleton.mp hb]
 exact fun z=>hy (z ▸ ha)
def freeOf (fs:List Str)(xs:List Str):List Str:=xs.filter fun x=>!decide (x∈fs)
theorem sV {fs:List Str}(h:fs.length<=4):0 < (freeOf fs some24).length:=by
 refine Nat.pos_of_ne_zero fun z=>?_
 have hn:=List.eq_nil_of_length_eq_zero z
 have hall:∀x∈some24,x∈fs:=fun x hx=>by
   by_cases hf:x∈fs
   · exact hf
   · have:x∈freeOf fs some24:=List.mem_filter.mpr ⟨hx,by simp [hf]⟩
     rw [hn] at this
     cases this
 have:=sub_len yC hall
 have e:some24.length=24:=rfl
 omega
theorem pB {xs:List Str}{x:Str}:om (.str x) (xs.map V.str)=decide (x∈xs):=by
 unfold om
 by_cases h:x∈xs
 · rw [decide_eq_true h,List.any_eq_true]
   exact ⟨.str x,List.mem_map.mpr ⟨x,h,rfl⟩,by simp [nz]⟩
 · rw [decide_eq_false h,JW]
   intro v hv
   obtain ⟨y,hy,rfl⟩:=List.mem_map.mp hv
   intro e
   have:y=x:=by simpa [nz] using e
   exact h (this ▸ hy)
def iO:Sp:=fun vs H Q _=>∃(c m:Int),vs=[.int c,.int m]/\0<=m/\m<=4/\∀(l:Addr) (ns:List Str) (H':Hp),ah H H'->H' l=some (.lst (ns.map V.str))->ns.length=m.toNat->(∀x∈ns,dJ x)->ns.Nodup->Q (.ref l) H'
theorem bQ:aq ["head","many","some","letters","found","k","number","left","name","word"] ["head","many"] (af sNames):=⟨rfl,rfl,rfl,by decide +kernel,rfl,by decide +kernel,by decide +kernel⟩
theorem dw:(af sNames).names.lookup (GQ "_law_stir")=some .globalImplicit:=by decide +kernel
theorem nV:(af sNames).names.lookup (GQ "len")=some .globalImplicit:=by decide +kernel
theorem fK:(af sNames).names.lookup (GQ "range")=some .globalImplicit:=by decide +kernel
theorem uO {f:Addr}{fd:FuncData}(F:bI K "_law_names" "_law_names" sNames f fd)(m_len:mg "len"=none)(m_range:mg "range"=none)(ST:aJ P w K mg base "_law_stir" ["cell","k"] 1 bo):aL P w K mg base CX0 2 f fd ["head","many"] iO:=by
 refine F.ok bQ (fun vs H Q E h=>?_) (fun cdv A outer s H vs Q E hr h=>?_)
 · obtain ⟨c,m,rfl,_⟩:=h
   rfl
 · obtain ⟨c,m,rfl,m0,m4,q⟩:=h
   refine cH ⟨_,(K6 (Ld 2 bQ.nd (Lj (K1 K7 (K1 K7 (K1 K7 (K1 K7 (K1 K7 (K1 K7 (K1 K7 (K1 K7 (K1 K7 (K1 K7 (K1 K7 (K1 K7 (K1 K7 (K1 K7 K3))))))))))))))))
     (K6 (Ld 2 bQ.nd (K5 Ma (K0 2) (Lj (K1 K7 (K1 K7 (K1 K7 (K1 K7 (K1 K7 (K1 K7 (K1 K7 (K1 K7 (K1 K7 (K1 K7 K3)))))))))))))
     (K6 (Ld 3 bQ.nd K7)
     (K6 (Ld 4 bQ.nd (Lj K3))
     (K6 (LG (Mf fK m_range (K1 (K0 1) K3)) (Le 5 bQ.nd) (K6 (Ld 6 bQ.nd (K9 ST hr dw (K1 (K0 0) (K1 (K5 Lo K4 (K0 5)) K3))))
     (K6 (LY (i:=7) [none,some 4] ["name","found"] (show az _ (af sNames) from ⟨rfl,by decide +kernel,by decide +kernel,by decide +kernel⟩) (by rfl) (Lr (K0 2)) (fun _ _ _ _ _=>⟨(Le 0 (show (["name","found"]:List Str).Nodup from by decide +kernel)),(L3.if1 (Lb L3.iJ (K0 0) (K0 1) (by rfl))),(K0 0)⟩) bQ.nd)
     (K6 (Ld 8 bQ.nd (La Lq (K0 7) (K5 Lk (K0 6) (Lm Lp nV m_len G1 (K1 (K0 7) K3)))))
     (K6 (Ld 9 bQ.nd (L5 K7 (K1 (LF [none,some 3,some 0,some 5] ["j","letters","head","k"] (show az _ (af sNames) from ⟨rfl,by decide +kernel,by decide +kernel,by decide +kernel⟩) (by rfl) (Mf fK m_range (K1 (K5 Lo K4 (K5 Lk (K5 Ls (K0 6) K4) K4)) K3)) (fun _ _ _ _ _=>⟨(Le 0 (show (["j","letters","head","k"]:List Str).Nodup from by decide +kernel)),Lu,(La L3.FL (K0 1) (K5 Lk (K9 ST hr (by rfl) (K1 (K0 2) (K1 (K5 Lo (K5 Lo K4 (K5 Ly K4 (K0 3))) (K0 0)) K3))) K4))⟩)) K3)))
     (K6 (Lf (Lv (LO (Lb Ll (K5 Lk (K9 ST hr dw (K1 (K0 0) (K1 (K5 Lo K4 (K0 5)) K3))) K4) K4) (LP (Lb L3.iJ (K0 9) (K0 4) (by rfl))))) (K8 (Ld 8 bQ.nd (K0 9))) Lh)
     (K8 (LA (LS (K0 4) (K1 (K0 8) K3))))))))))
     (K8 (Lc (K0 4)))))))),?_⟩
   refine sD fun Rk kR=>?_
   refine ⟨Nz,fun s1 hs1=>?_⟩
   have sa:ah H (upd H s1 (.lst [.str "a",.str "yes",.str "put",.str "box",.str "abcdefgh",.str "end",.str "ye",.str "no",.str "x",.str "test",.str "input",.str "abcdefg",.str "yess",.str "say"])):=ag hs1 _
   have ga:(upd H s1 (.lst [.str "a",.str "yes",.str "put",.str "box",.str "abcdefgh",.str "end",.str "ye",.str "no",.str "x",.str "test",.str "input",.str "abcdefg",.str "yess",.str "say"])) s1=some (.lst [.str "a",.str "yes",.str "put",.str "box",.str "abcdefgh",.str "end",.str "ye",.str "no",.str "x",.str "test",.str "input",.str "abcdefg",.str "yess",.str "say"]):=ae
   generalize upd H s1 (.lst [.str "a",.str "yes",.str "put",.str "box",.str "abcdefgh",.str "end",.str "ye",.str "no",.str "x",.str "test",.str "input",.str "abcdefg",.str "yess",.str "say"])=Ha at sa ga ⊢
   refine ao ?_
   refine ⟨_,rfl,Ny,fun s2 hs2=>?_⟩
   have sb:ah Ha (upd Ha s2 (.lst [.str "pick",.str "plus",.str "less",.str "same",.str "number",.str "under",.str "both",.str "not",.str "yours",.str "mine"])):=ag hs2 _
   have gb:(upd Ha s2 (.lst [.str "pick",.str "plus",.str "less",.str "same",.str "number",.str "under",.str "both",.str "not",.str "yours",.str "mine"])) s2=some (.lst [.str "pick",.str "plus",.str "less",.str "same",.str "number",.str "under",.str "both",.str "not",.str "yours",.str "mine"]):=ae
   generalize upd Ha s2 (.lst [.str "pick",.str "plus",.str "less",.str "same",.str "number",.str "under",.str "both",.str "not",.str "yours",.str "mine"])=Hb at sb gb ⊢
   refine ⟨s1,s2,_,_,rfl,rfl,sb _ _ ga,gb,NB,fun sm hsm=>?_⟩
   have sc:=aA (aa sa sb) (o:=.lst (some24.map V.str)) hsm
   have gc:(upd Hb sm (.lst (some24.map V.str))) sm=some (.lst (some24.map V.str)):=ae
   refine ao ?_
   refine kR _ _ ?_
   refine pH (upd Hb sm (.lst (some24.map V.str))) rfl ?_
   generalize upd Hb sm (.lst (some24.map V.str))=Hc at sc gc ⊢
   refine sD fun Rk kR=>?_
   refine ao ?_
   refine ⟨Nr,fun ln hln=>?_⟩
   have hln0:=aE sc hln
   have sml:sm≠ln:=ai gc hln
   have g2:(upd Hc ln (.lst [])) ln=some (.lst (([]:List Str).map V.str)):=ae
   have s2:ah H (upd Hc ln (.lst [])):=aA sc hln
   have gs:(upd Hc ln (.lst [])) sm=some (.lst (some24.map V.str)):=ag hln _ _ _ gc
   generalize upd Hc ln (.lst [])=H2 at g2 s2 gs ⊢
   clear sa sb ga gb sc gc hln hsm
   refine ao ?_
   refine kR _ _ ?_
   refine aB [some (.int c),some (.int m),some (.ref sm),some (.str lets),some (.ref ln),none,none,none,none,none] rfl ?_
   refine ar fun Rk kR=>?_
   refine ⟨_,rfl,m,rfl,by omega,by omega,?_⟩
   refine c4 (lo:=0) (n:=m.toNat) (fun i σ Hx=>(∃o5 o6 o7 o8 o9,σ=[some (.int c),some (.int m),some (.ref sm),some (.str lets),some (.ref ln),o5,o6,o7,o8,o9])/\ah H Hx/\Hx sm=some (.lst (some24.map V.str))/\∃fs:List Str,Hx ln=some (.lst (fs.map V.str))/\fs.length=i/\(∀x∈fs,dJ x)/\fs.Nodup) ⟨⟨_,_,_,_,_,rfl⟩,s2,gs,[],g2,rfl,(fun x hx=>nomatch hx),List.nodup_nil⟩ (fun i σ Hx hi z=>?_) (fun σ Hx z=>?_)
   · obtain ⟨⟨o5,o6,o7,o8,o9,rfl⟩,sx,gm,fs,gl,fl,f8,fnd⟩:=z
     refine ao ?_
     refine aB [some (.int c),some (.int m),some (.ref sm),some (.str lets),some (.ref ln),some (.int (0 + (i:Int))),o6,o7,o8,o9] rfl ?_
     refine ar fun Rj kj=>?_
     refine ⟨_,rfl,_,rfl,_,_,rfl,rfl,c,400 + (0 + (i:Int)),rfl,by omega,by omega,fun r r0 r1=>?_⟩
     refine ao ?_
     refine kj _ _ ?_
     refine aB [some (.int c),some (.int m),some (.ref sm),some (.str lets),some (.ref ln),some (.int (0 + (i:Int))),some (.int r),o7,o8,o9] rfl ?_
     refine ar fun Rj kj=>?_
     refine ⟨_,rfl,sm,rfl,⟨_,aw.of gm⟩,fun D hD=>?_⟩
     refine aT (xs:=some24.map V.str) (fun j Hy=>ah Hx Hy/\Hy D=some (.lst ((freeOf fs (some24.take j)).map V.str))) ⟨ag hD _,ae⟩ (fun j Hy _ z=>aw.of (z.1 _ _ gm)) (fun j x0 Hy hx z=>?_) (fun Hy z=>?_)
     · obtain ⟨sy,gD⟩:=z
       have hjl:=(List.getElem?_eq_some_iff.mp hx).1
       have j24:j < 24:=hjl
       obtain ⟨x,hxi,rfl⟩:=bC hx
       refine ao ?_
       refine ⟨_,rfl,_,rfl,ln,_,rfl,.inl (aw.of (sy _ _ gl)),rfl,gw,_,rfl,?_⟩
       have nxt:some24.take (j + 1)=some24.take j++[x]:=by rw [Hl,hxi]; rfl
       have hb:(if true=true then !om (.str x) (fs.map V.str) else om (.str x) (fs.map V.str)) = !decide (x∈fs):=by rw [pB]; rfl
       rw [hb]
       by_cases hf:x∈fs
       · rw [decide_eq_true hf]
         refine aX ?_
         refine aK (Pv:=fun j Hy=>ah Hx Hy/\Hy D=some (.lst ((freeOf fs (some24.take j)).map V.str))) (by repeat' constructor) hjl ⟨sy,?_⟩
         rw [gD,nxt]
         unfold freeOf
         rw [List.filter_append,List.filter_cons_of_neg (by simp [hf]),List.filter_nil,Hm]
       · rw [decide_eq_false hf]
         refine bt ?_
         refine ⟨_,rfl,_,gD,Ho (show _<=1000 from ?_) (by decide),aK (Pv:=fun j Hy=>ah Hx Hy/\Hy D=some (.lst ((freeOf fs (some24.take j)).map V.str))) (by repeat' constructor) hjl ⟨aG sy hD,?_⟩⟩
         · rw [GR]
           refine GY (List.length_filter_le _ _) ?_
           rw [G8]
           omega
         · rw [ae,nxt]
           unfold freeOf
           rw [List.filter_append,List.filter_cons_of_pos (by simp [hf]),List.filter_nil,G2]
           rfl
     obtain ⟨sy,gD⟩:=z
     rw [GR,HB] at gD
     have fp:=sV (fs:=fs) (by omega)
     have lm:((freeOf fs some24).map V.str).length=(freeOf fs some24).length:=GR ..
     refine ao ?_
     refine kj _ _ ?_
     refine aB [some (.int c),some (.int m),some (.ref sm),some (.str lets),some (.ref ln),some (.int (0 + (i:Int))),some (.int r),some (.ref D),o8,o9] rfl ?_
     refine ar fun Rj kj=>?_
     refine ⟨_,rfl,_,rfl,_,rfl,D,_,rfl,.inl (aw.of gD),_,_,rfl,rfl,(by rw [lm]; omega),?_⟩
     rw [lm]
     obtain ⟨x,hxm,hat⟩:=eC V.str (freeOf fs some24) (aO (k:=r) (n:=((freeOf fs some24).length:Int)) (by omega)) (aN (by omega))
     refine ⟨D,_,_,_,rfl,rfl,aw.of gD,hat,?_⟩
     have x8:dJ x:=BV x (List.mem_filter.mp hxm).1
     have xnf:x ∉ fs:=by simpa using (List.mem_filter.mp hxm).2
     refine ao ?_
     refine kj _ _ ?_
     refine aB [some (.int c),some (.int m),some (.ref sm),some (.str lets),some (.ref ln),some (.int (0 + (i:Int))),some (.int r),some (.ref D),some (.str x),o9] rfl ?_
     have sx1:=aa sx sy
     have gm1:=sy _ _ gm
     have gl1:=sy _ _ gl
     clear gD hat lm fp sx sy gm gl
     refine ar fun Rj kj=>?_
     have w0:=aO (k:=r / 32) (n:=8) (by decide)
     have w1:=aN (k:=r / 32) (n:=8) (by decide)
     refine ⟨rfl,_,rfl,_,_,rfl,rfl,⟨by decide,by decide +kernel⟩,_,_,rfl,rfl,(by show (0:Int) < 8; decide),_,_,rfl,rfl,1 + r / 32 % 8,rfl,by omega,by omega,fun D2 hD2=>?_⟩
     refine jc (lo:=0) (n:=(1 + r / 32 % 8).toNat) (fun j Hv=>ah Hy Hv/\∃ts:List Str,Hv D2=some (.lst (ts.map V.str))/\ts.length=j/\∀x∈ts,∃c,x.cps.toList=[c]/\97<=c/\c < 123) ⟨ag hD2 _,[],ae,rfl,fun x hx=>nomatch hx⟩ (fun j Hz hj z=>?_) (fun Hz z=>?_)
     · obtain ⟨sz,ts,gD,tl,t1⟩:=z
       refine ao ?_
       refine bE (A:=fun H5=>bS _ D2 _ H5 _) ?_
       refine ⟨_,rfl,_,rfl,_,rfl,_,_,rfl,rfl,.inr ⟨by omega,by omega⟩,_,_,rfl,rfl,_,rfl,_,_,rfl,rfl,c,450 + 8 * (0 + (i:Int)) + (0 + (j:Int)),rfl,by omega,by omega,fun a a0 a1=>⟨_,_,rfl,rfl,(by show (0:Int) < 26; decide),?_⟩⟩
       refine ⟨lets,_,_,rfl,rfl,by decide,xa (aO (by decide)) (aN (by decide)),?_⟩
       refine ⟨_,gD,Ho (show _<=1000 by rw [GR]; omega) (by decide),aK (Pv:=fun j Hv=>ah Hy Hv/\∃ts:List Str,Hv D2=some (.lst (ts.map V.str))/\ts.length=j/\∀x∈ts,∃c,x.cps.toList=[c]/\97<=c/\c < 123) (by repeat' constructor) hj ⟨aG sz hD2,ts++[⟨#[97 + (a % 26).toNat]⟩],by rw [ae,G2]; rfl,by rw [GU,tl]; rfl,fun x hx=>?_⟩⟩
       rcases List.mem_append.mp hx with z | z
       · exact t1 x z
       · rw [List.mem_singleton.mp z]
         have a2:=aN (k:=a) (n:=26) (by decide)
         have a3:=aO (k:=a) (n:=26) (by decide)
         exact ⟨97 + (a % 26).toNat,rfl,by omega,by omega⟩
     obtain ⟨sz,ts,gD,tl,t1⟩:=z
     refine ⟨"",D2,ts,rfl,rfl,aw.of gD,fU 1 (fun x hx=>by obtain ⟨c,e,_⟩:=t1 x hx; rw [← bB,e]; exact GX _) (by rw [show (("":Str)).length=0 from rfl]; omega),?_⟩
     have w8:=ui t1 (by omega) (by omega)
     obtain ⟨wd,ewd⟩ : ∃wd,wd=Hj "" ts:=⟨_,rfl⟩
     refine ao ?_
     refine kj _ _ ?_
     refine aB [some (.int c),some (.int m),some (.ref sm),some (.str lets),some (.ref ln),some (.int (0 + (i:Int))),some (.int r),some (.ref D),some (.str x),some (.str wd)] (by subst ewd; rfl) ?_
     rw [← ewd] at w8
     clear ewd gD
     have sx2:=aa sx1 sz
     have gm2:=sz _ _ gm1
     have gl2:=sz _ _ gl1
     refine ar fun Rj kj=>?_
     suffices hs:∀y:Str,dJ y->y ∉ fs->Rj [some (.int c),some (.int m),some (.ref sm),some (.str lets),some (.ref ln),some (.int (0 + (i:Int))),some (.int r),some (.ref D),some (.str y),some (.str wd)] Hz by
       refine ⟨_,rfl,_,rfl,_,_,rfl,rfl,c,440 + (0 + (i:Int)),rfl,by omega,by omega,fun a a0 a1=>⟨_,_,rfl,rfl,(by show (0:Int) < 2; decide),rfl,_,rfl,?_⟩⟩
       refine aH (fun _=>?_) (fun _=>aX (hs x x8 xnf))
       refine ⟨_,rfl,_,rfl,ln,_,rfl,.inl (aw.of gl2),rfl,gw,_,rfl,?_⟩
       refine aH (fun cw=>?_) (fun _=>hs x x8 xnf)
       have cw:(!om (.str wd) (fs.map V.str))=true:=cw
       rw [pB] at cw
       refine ⟨_,rfl,?_⟩
       refine ao ?_
       exact hs wd w8 (by simpa using cw)
     intro y y8 ynf
     refine kj _ _ ?_
     refine ⟨_,rfl,.inl ⟨rfl,_,aw.of gl2⟩,_,rfl,ln,_,_,rfl,rfl,gl2,aM (by rw [GR]; omega),⟨_,_,_,_,_,rfl⟩,aG sx2 hln0,by rw [aj sml]; exact gm2,fs++[y],by rw [ae,G2]; rfl,by rw [GU,fl]; rfl,fun z hz=>?_,xf fnd ynf⟩
     rcases List.mem_append.mp hz with e | e
     · exact f8 z e
     · rw [List.mem_singleton.mp e]; exact y8
   obtain ⟨⟨o5,o6,o7,o8,o9,rfl⟩,sx,gm,fs,gl,fl,f8,fnd⟩:=z
   refine kR _ _ ?_
   exact ⟨_,rfl,q ln fs Hx sx gl fl f8 fnd⟩
theorem qH (s:Src K mg "_law_names" sNames)(m_len:mg "len"=none)(m_range:mg "range"=none)(ST:aJ P w K mg base "_law_stir" ["cell","k"] 1 bo):aJ P w K mg base "_law_names" ["head","many"] 2 iO:=
 let ⟨f,fd,F,m⟩:=s
 ⟨f,fd,uO F m_len m_range ST,F.kp,cU F fun _ _ _ _ _ _ _ _=>rfl,m⟩
end
end TW
set_option Elab.async false
set_option linter.all false
set_option maxRecDepth 100000
set_option exponentiation.threshold 4000
set_option maxHeartbeats 1000000
namespace TW
open PySem L2
section
variable {P:Program}{w:World}{K:GP}{mg:Str->Option Value}{base:Heap}
abbrev sProg:Stmt:=top 68
theorem bW:aq ["script","head","names","boxes","left","inputs","k","cells","nodes","rows"] ["script"] (af sProg):=⟨rfl,rfl,rfl,by decide +kernel,rfl,by decide +kernel,by decide +kernel⟩
theorem fP:(af sProg).names.lookup (GQ "_law_cell_at")=some .globalImplicit:=by decide +kernel
theorem ir:(af sProg).names.lookup (GQ "_law_names")=some .globalImplicit:=by decide +kernel
theorem ck:(af sProg).names.lookup (GQ "_law_stir")=some .globalImplicit:=by decide +kernel
theorem iq:(af sProg).names.lookup (GQ "enumerate")=some .globalImplicit:=by decide +kernel
theorem gO:(af sProg).names.lookup (GQ "len")=some .globalImplicit:=by decide +kernel
theorem nW:(af sProg).names.lookup (GQ "list")=some .globalImplicit:=by decide +kernel
theorem mT:(af sProg).names.lookup (GQ "range")=some .globalImplicit:=by decide +kernel
theorem qx:(af sProg).names.lookup (GQ "sum")=some .globalImplicit:=by decide +kernel
/-! ### _law_program -/
/-- a node and its row,in a list -/
def cq (H:Hp)(v:V)(e:Np):Prop:=∃L nv,v=.ref L/\H L=some (.lst [nv,.str (Hj sp1 e.ws)])/\aP H nv e
theorem cq.same {H H':Hp}(s:ah H H'){v:V}{e:Np}(h:cq H v e):cq H' v e:=let ⟨L,nv,a,b,c⟩:=h; ⟨L,nv,a,s _ _ b,c.keep (ah.tk s)⟩
theorem wz (n z:Str):"box "++n++" "++z=Hj sp1 ["box",n,z]:=by
 show _=HU sp1 ["box",n,z]
 rw [StrLaws.glued_eq_join]
 show _="box"++sp1++(n++sp1++z)
 rw [show ("box ":Str)="box"++sp1 by decide +kernel]
 simp only [Js]
theorem Ad (n:Str):"input "++n=Hj sp1 ["input",n]:=by
 show _=HU sp1 ["input",n]
 rw [StrLaws.glued_eq_join]
 show _="input"++sp1++n
 rw [show ("input ":Str)="input"++sp1 by decide +kernel]
theorem vA {H:Hp}{v:V}{e:Np}(h:aP H v e)(w:e.wr):(Hj sp1 e.ws).length<=sizeLine:=by
 obtain ⟨hd,xs,ra,eq⟩:=Np.rowAt h w
 rw [eq]
 exact GY (pP ra) (by decide)
theorem sA (sc:List Int):∃cs:List Int,dO (sc.map V.int) (some 1) (some 41)=cs.map V.int/\cs.length<=40:=by
 have e1:HT.bD (sc.map V.int).length 0 (some ((1:Nat):Int))=min 1 (sc.map V.int).length:=HT.cJ _ _ _
 have e2:HT.bD (sc.map V.int).length (sc.map V.int).length (some ((41:Nat):Int))=min 41 (sc.map V.int).length:=HT.cJ _ _ _
 refine ⟨(sc.drop (HT.bD (sc.map V.int).length 0 (some ((1:Nat):Int)))).take (HT.bD (sc.map V.int).length (sc.map V.int).length (some ((41:Nat):Int)) - HT.bD (sc.map V.int).length 0 (some ((1:Nat):Int))),?_,?_⟩
 · rw [List.map_take,List.map_drop]
   rfl
 · rw [G8,Ir,e1,e2,GR]
   omega
theorem wR (cs:List Int):∃ds:List Int,dO (cs.map V.int) none (some ((cs.length:Int) / 2))=ds.map V.int/\ds.length=cs.length / 2:=by
 have e0:(((cs.length / 2:Nat):Nat):Int)=(cs.length:Int) / 2:=by omega
 have e2:HT.bD (cs.map V.int).length (cs.map V.int).length (some ((cs.length / 2:Nat):Int))=min (cs.length / 2) (cs.map V.int).length:=HT.cJ _ _ _
 refine ⟨cs.take (cs.length / 2),?_,by rw [G8]; omega⟩
 unfold dO
 rw [← e0,e2,HT.fY,Ko,GR,KS,List.map_take,JG (by omega)]
theorem BR {i:Int}{n:Nat}(h0:0<=i)(h1:i < (n:Int)):J2 i n=some i.toNat:=by
 unfold J2
 simp only [if_neg (show ¬ i < 0 by omega)]
 rw [if_pos (by simp [h0,h1])]
theorem FF {n:Int}(h:1<=n/\n<=16):n.natAbs < 2 ^ 100:=Hn (show n.natAbs < 64 by omega) (by decide)
theorem E.okN.inB {bs:List (Str×Int)}{ns:List Str}(h:bs.map (·.1)=ns):∀{e:E},e.okN (· ∈ ns)->e.okIn (bxP bs)
 | .num _,o=>lP o
 | .box t x,o=>⟨o.1,by rw [h]; exact o.2⟩
 | .yes,_=>Ht
 | .nt a,o=>E.okN.inB h (e:=a) o
 | .two _ a b,o=>⟨E.okN.inB h (e:=a) o.1,E.okN.inB h (e:=b) o.2⟩
theorem jd:∀{l:List Str} {j:Nat} {x:Str},l[j]? = some x->l.Perm (x :: l.eraseIdx j)
 | a :: l,0,x,h=>by
   have:a=x:=by simpa using h
   rw [this]
   exact .refl _
 | a :: l,j + 1,x,h=>by
   have h:l[j]? = some x:=by simpa using h
   exact ((jd h).cons a).trans (.swap x a _)
theorem p7.row {ns:List Str}{m:Int}{e:Np}(h:p7 ns m e):(Hj sp1 e.ws).length<=3600:=by
 have key:∀(l:List Str),(∀x∈l,x.length<=31)->(l.map (·.length)).sum<=l.length * 31:=by
   intro l
   induction l with
   | nil=>intro _; exact GX _
   | cons a l ih=>
     intro h
     have h1:=ih fun x hx=>h x (G0 _ hx)
     have h2:=h a GZ
     rw [Hi,Ib,G5]
     omega
 have lo:=h.lo
 have w:=h.w
 show (HU sp1 e.ws).length<=_
 rw [StrLaws.glued_eq_join]
 refine GY (StrLaws.join_length_le _ _) ?_
 rw [show (sp1:Str).length=1 from rfl]
 match e,lo,w with
 | .put x t n,lo,w=>
   have h1:=lo t (G0 _ GZ)
   have h2:=w.1.l8
   have h3:=bz w.2.2
   have h4:(("put":Str)).length=3:=rfl
   simp only [Np.ws,Hi,IH,Ib,JA,G5,Ik]
   omega
 | .say t n,lo,w=>
   have h1:=lo t GZ
   have h3:=bz w.2
   have h4:(("say":Str)).length=3:=rfl
   simp only [Np.ws,Hi,IH,Ib,JA,G5,Ik]
   omega
 | .test t n o,lo,w=>
   have h1:=lo t GZ
   have h3:=bz w.2.1
   have h5:=bz w.2.2
   have h4:(("test":Str)).length=4:=rfl
   simp only [Np.ws,Hi,IH,Ib,JA,G5,Ik]
   omega
 | .pick x n,lo,w=>
   have h2:=w.1.l8
   have h3:=bz w.2
   have h4:(("pick":Str)).length=4:=rfl
   simp only [Np.ws,Hi,IH,Ib,JA,G5,Ik]
   omega
 | .fin,_,_=>exact (by decide:3 + 0 + 1 * 1<=3600)
theorem cq.put {H:Hp}{N:Addr}{us us':List V}(gN:H N=some (.lst us)){v:V}{e:Np}(h:cq H v e/\v≠.ref N):cq (upd H N (.lst us')) v e/\v≠.ref N:=by
 obtain ⟨⟨L,nv,rfl,b,c⟩,n⟩:=h
 have ln:L≠N:=fun z=>n (by rw [z])
 exact ⟨⟨L,nv,rfl,by rw [aj ln]; exact b,c.keep (TW.TK.lst gN)⟩,n⟩
def oM (K:GP):Sp:=fun vs H Q _=>∃(a:Addr) (sc:List Int),vs=[.ref a]/\aw K H a (sc.map V.int)/\∀(L p R B I N:Addr) (vb vn:List V) (bs:List (Str×Int)) (ins:List Str) (nds:List Np) (H':Hp),ah H H'->H' L=some (.lst [.ref p,.ref R])->H' p=some (.tup [.ref B,.ref I,.ref N])->ny H' B I N vb vn bs ins nds->wj bs ins nds->nds.length<=40->H' R=some (.lst ((textOf bs ins nds).map V.str))->Q (.ref L) H'
theorem xB {f:Addr}{fd:FuncData}(F:bI K "_law_program" "_law_program" sProg f fd)(m_len:mg "len"=none)(m_range:mg "range"=none)(m_list:mg "list"=none)(m_str:mg "str"=none)(m_sum:mg "sum"=none)(m_enumerate:mg "enumerate"=none)(CE:aJ P w K mg base "_law_cell_at" ["script","k"] 41 (gV K))(NS:aJ P w K mg base "_law_names" ["head","many"] 41 iO)(ST:aJ P w K mg base "_law_stir" ["cell","k"] 41 bo)(NO:aJ P w K mg base "_law_node" ["cell","names","many"] 41 mm):aL P w K mg base CX0 42 f fd ["script"] (oM K):=by
 refine F.ok bW (fun vs H Q E h=>?_) (fun cdv A outer s H vs Q E hr h=>?_)
 · obtain ⟨a,sc,rfl,_⟩:=h
   rfl
 · obtain ⟨a,sc,rfl,hs,q⟩:=h
   refine cH ⟨_,(K6 (Ld 1 bW.nd (K9 CE hr fP (K1 (K0 0) (K1 K4 K3))))
     (K6 (Ld 2 bW.nd (K9 NS hr ir (K1 (K0 1) (K1 (K5 Lk (K9 ST hr ck (K1 (K0 1) (K1 K4 K3))) K4) K3))))
     (K6 (LY (i:=3) [none,none,some 1] ["k","name","head"] (show az _ (af sProg) from ⟨rfl,by decide +kernel,by decide +kernel,by decide +kernel⟩) (by rfl) (L3.iE iq m_enumerate (K1 (K0 2) K3)) (fun _ _ _ _ _=>⟨(LH 2 (Ln (Le 0 (show (["k","name","head"]:List Str).Nodup from by decide +kernel)) (Ln (Le 1 (show (["k","name","head"]:List Str).Nodup from by decide +kernel)) Lx))),Lu,(Lg (K1 (K0 1) (K1 (K5 Lo K4 (K5 Lk (K9 ST hr (by rfl) (K1 (K0 2) (K1 (K5 Lo K4 (K0 0)) K3))) K4)) K3)))⟩) bW.nd)
     (K6 (Ld 4 bW.nd (Lw Mh nW m_list (by decide +kernel) (K1 (K0 2) K3)))
     (K6 (Ld 5 bW.nd (Lj K3))
     (K6 (LG (Mf mT m_range (K1 (K5 Lk (K9 ST hr ck (K1 (K0 1) (K1 K4 K3))) (K5 Lo (Lm Lp gO m_len G1 (K1 (K0 2) K3)) K4)) K3)) (Le 6 bW.nd) (K8 (LA (LS (K0 5) (K1 (L3.DA (K0 4) (K1 (K5 Lk (K9 ST hr ck (K1 (K0 1) (K1 (K5 Lo K4 (K0 6)) K3))) (Lm Lp gO m_len G1 (K1 (K0 4) K3))) K3)) K3)))))
     (K6 (Ld 7 bW.nd (L3.DX (K0 0) K4 K4))
     (K6 (Lf (Lb (Mq (m:=2) (cO hr _ (by decide))) (K0 7) (Lj K3)) (K8 (Ld 7 bW.nd (Lj (K1 K4 K3)))) Lh)
     (K6 (LY (i:=8) [none,some 2,some 7] ["cell","names","cells"] (show az _ (af sProg) from ⟨rfl,by decide +kernel,by decide +kernel,by decide +kernel⟩) (by rfl) (Lr (K0 7)) (fun _ _ _ _ _=>⟨(Le 0 (show (["cell","names","cells"]:List Str).Nodup from by decide +kernel)),Lu,(K9 NO hr (by rfl) (K1 (K0 0) (K1 (K0 1) (K1 (Lm Lp (by rfl) m_len G1 (K1 (K0 2) K3)) K3))))⟩) bW.nd)
     (K6 (L6 (Lb Me (Lm L3.CC qx m_sum (by decide +kernel) (K1 (LF [none,none] ["node","row"] (show az _ (af sProg) from ⟨rfl,by decide +kernel,by decide +kernel,by decide +kernel⟩) (by rfl) (Lr (K0 8)) (fun _ _ _ _ _=>⟨(L3.wQ 2 (Ln (Le 0 (show (["node","row"]:List Str).Nodup from by decide +kernel)) (Ln (Le 1 (show (["node","row"]:List Str).Nodup from by decide +kernel)) Lx))),Lu,(K5 Lo (Lm L3.lr (by rfl) m_len G1 (K1 (K0 1) K3)) K4)⟩)) K3)) K4) (K6 (Ld 7 bW.nd (L3.DY (K0 7) (K5 Ls (Lm Lp gO m_len G1 (K1 (K0 7) K3)) K4)))
     (K8 (LY (i:=8) [none,some 2,some 7] ["cell","names","cells"] (show az _ (af sProg) from ⟨rfl,by decide +kernel,by decide +kernel,by decide +kernel⟩) (by rfl) (Lr (K0 7)) (fun _ _ _ _ _=>⟨(Le 0 (show (["cell","names","cells"]:List Str).Nodup from by decide +kernel)),Lu,(K9 NO hr (by rfl) (K1 (K0 0) (K1 (K0 1) (K1 (Lm Lp (by rfl) m_len G1 (K1 (K0 2) K3)) K3))))⟩) bW.nd))))
     (K6 (Ld 9 bW.nd (K5 Ma (LF [none,none] ["name","size"] (show az _ (af sProg) from ⟨rfl,by decide +kernel,by decide +kernel,by decide +kernel⟩) (by rfl) (Lr (K0 3)) (fun _ _ _ _ _=>⟨(LH 2 (Ln (Le 0 (show (["name","size"]:List Str).Nodup from by decide +kernel)) (Ln (Le 1 (show (["name","size"]:List Str).Nodup from by decide +kernel)) Lx))),Lu,(K5 LJ (K5 LJ (K5 LJ K7 (K0 0)) K7) (Lw L0 (by rfl) m_str (by decide +kernel) (K1 (K0 1) K3)))⟩)) (LF [none] ["name"] (show az _ (af sProg) from ⟨rfl,by decide +kernel,by decide +kernel,by decide +kernel⟩) (by rfl) (Lr (K0 5)) (fun _ _ _ _ _=>⟨(Le 0 (show (["name"]:List Str).Nodup from by decide +kernel)),Lu,(K5 LJ K7 (K0 0))⟩))))
     (K8 (Lc (Lj (K1 (Lg (K1 (K0 3) (K1 (K0 5) (K1 (LF [none,none] ["node","row"] (show az _ (af sProg) from ⟨rfl,by decide +kernel,by decide +kernel,by decide +kernel⟩) (by rfl) (Lr (K0 8)) (fun _ _ _ _ _=>⟨(L3.wQ 2 (Ln (Le 0 (show (["node","row"]:List Str).Nodup from by decide +kernel)) (Ln (Le 1 (show (["node","row"]:List Str).Nodup from by decide +kernel)) Lx))),Lu,(K0 0)⟩)) K3)))) (K1 (K5 Ma (K0 9) (LF [none,none] ["node","row"] (show az _ (af sProg) from ⟨rfl,by decide +kernel,by decide +kernel,by decide +kernel⟩) (by rfl) (Lr (K0 8)) (fun _ _ _ _ _=>⟨(L3.wQ 2 (Ln (Le 0 (show (["node","row"]:List Str).Nodup from by decide +kernel)) (Ln (Le 1 (show (["node","row"]:List Str).Nodup from by decide +kernel)) Lx))),Lu,(K0 1)⟩))) K3)))))))))))))))),?_⟩
   refine ar fun Rk kR=>?_
   refine ⟨_,rfl,a,sc,0,rfl,hs,by decide,fun c=>?_⟩
   refine ao ?_
   refine kR _ _ ?_
   refine aB [some (.ref a),some (.int c),none,none,none,none,none,none,none,none] rfl ?_
   refine ar fun Rk kR=>?_
   refine ⟨_,rfl,_,rfl,c,420,rfl,by decide,by decide,fun r r0 r1=>⟨_,_,rfl,rfl,(by show (0:Int) < 5; decide),c,r % 5,rfl,aO (by decide),(by have:=aN (k:=r) (n:=5) (by decide); omega),fun nl ns H1 s1 gn nlen n8 nnd=>?_⟩⟩
   have r5:=aN (k:=r) (n:=5) (by decide)
   have r50:=aO (k:=r) (n:=5) (by decide)
   have D1:Nm H1 nl ns:=⟨gn,by omega⟩
   have n4:=D1.l4
   refine ao ?_
   refine kR _ _ ?_
   refine aB [some (.ref a),some (.int c),some (.ref nl),none,none,none,none,none,none,none] rfl ?_
   refine ar fun Rk kR=>?_
   refine ⟨_,rfl,nl,rfl,⟨_,aw.of gn⟩,fun B hB=>?_⟩
   refine qg (xs:=ns.map V.str) (fun i Hy=>ah H1 Hy/\∃us bs,Hy B=some (.lst us)/\us.length=i/\Paired (bT Hy) us bs/\bs.map (·.1)=ns.take i/\∀b∈bs,dJ b.1/\1<=b.2/\b.2<=16) ⟨ag hB _,[],[],ae,rfl,.nil,rfl,fun b hb=>nomatch hb⟩ (fun i Hy _ z=>aw.of (z.1 _ _ gn)) (fun i x0 pp Hy hx z hpp=>?_) (fun Hy z=>?_)
   · obtain ⟨sy,us,bs,gB,ul,pu,en,wu⟩:=z
     have hil:=(List.getElem?_eq_some_iff.mp hx).1
     have hil':i < ns.length:=by rw [GR] at hil; exact hil
     obtain ⟨x,hxi,rfl⟩:=bC hx
     have sp:=ag hpp (.tup [.int (i:Nat),.str x])
     have gp:(upd Hy pp (.tup [.int (i:Nat),.str x])) pp=some (.tup [.int (i:Nat),.str x]):=ae
     generalize upd Hy pp (.tup [.int (i:Nat),.str x])=Hz at sp gp ⊢
     refine ⟨pp,_,rfl,aC.of gp,rfl,_,_,rfl,_,_,rfl,rfl,?_⟩
     refine bE (A:=fun H5=>bS _ B _ H5 _) ?_
     refine ⟨_,rfl,_,rfl,_,rfl,_,_,rfl,rfl,c,421 + (i:Int),rfl,by omega,by omega,fun k k0 k1=>⟨_,_,rfl,rfl,(by show (0:Int) < 16; decide),_,_,rfl,rfl,Nu,fun q2 hq2=>?_⟩⟩
     have z0:=aO (k:=k) (n:=16) (by decide)
     have z1:=aN (k:=k) (n:=16) (by decide)
     have tq:=ag hq2 (.tup [.str x,.int (1 + k % 16)])
     have gBz:=tq _ _ (sp _ _ gB)
     refine ⟨us,gBz,aM (by omega),aK (Pv:=fun i Hy=>ah H1 Hy/\∃us bs,Hy B=some (.lst us)/\us.length=i/\Paired (bT Hy) us bs/\bs.map (·.1)=ns.take i/\∀b∈bs,dJ b.1/\1<=b.2/\b.2<=16) (by repeat' constructor) hil ⟨aG (aa (aa sy sp) tq) hB,us++[.ref q2],bs++[(x,1 + k % 16)],ae,by rw [GU,ul]; rfl,?_,?_,fun b hb=>?_⟩⟩
     · refine Paired.snoc (Paired.mapP pu fun _ _ z=>Tp.keep ((ah.tk (aa sp tq)).trans (TW.TK.lst gBz)) z) ⟨q2,rfl,TW.TK.lst gBz _ _ ae⟩
     · rw [G2,en,Hl,hxi]
       rfl
     · rcases List.mem_append.mp hb with z | z
       · exact wu b z
       · rw [List.mem_singleton.mp z]
         exact ⟨n8 x (Hh hxi),by show 1<=1 + k % 16; omega,by show 1 + k % 16<=16; omega⟩
   obtain ⟨sy,us,bs,gB,ul,pu,en,wb⟩:=z
   rw [GR] at ul
   rw [GR,HB] at en
   have bl:=Paired.length pu
   obtain ⟨H2,vb,s2,gB,pb,vl⟩ : ∃H2 vb,ah H1 H2/\H2 B=some (.lst vb)/\Paired (bT H2) vb bs/\H2=Hy/\vb=us:=⟨Hy,us,sy,gB,pu,rfl,rfl⟩
   obtain ⟨rfl,rfl⟩:=vl
   clear pu sy
   have D2:=D1.go s2
   refine ao ?_
   refine kR _ _ ?_
   refine aB [some (.ref a),some (.int c),some (.ref nl),some (.ref B),none,none,none,none,none,none] rfl ?_
   refine sD fun Rk kR=>?_
   refine ⟨_,rfl,nl,_,rfl,.inl (aw.of D2.hn),fun lf hlf=>?_⟩
   have sl:ah H2 (upd H2 lf (.lst (ns.map V.str))):=ag hlf _
   have gl:(upd H2 lf (.lst (ns.map V.str))) lf=some (.lst (ns.map V.str)):=ae
   generalize upd H2 lf (.lst (ns.map V.str))=H3 at sl gl ⊢
   refine ao ?_
   refine ⟨Nr,fun I hI=>?_⟩
   have lfI:lf≠I:=ai gl hI
   have si:ah H3 (upd H3 I (.lst [])):=ag hI _
   have gi:(upd H3 I (.lst [])) I=some (.lst []):=ae
   generalize upd H3 I (.lst [])=H4 at si gi ⊢
   have gl:=si _ _ gl
   have s13:=aa s2 (aa sl si)
   refine ao ?_
   refine kR _ _ ?_
   refine aB [some (.ref a),some (.int c),some (.ref nl),some (.ref B),some (.ref lf),some (.ref I),none,none,none,none] rfl ?_
   refine ar fun Rk kR=>?_
   refine ⟨_,rfl,c,430,rfl,by decide,by decide,fun u u0 u1=>⟨_,rfl,nl,_,rfl,.inl (aw.of (si _ _ (sl _ _ D2.hn))),_,_,rfl,rfl,_,_,rfl,rfl,(by show (0:Int) < ((ns.map V.str).length:Int) + 1; omega),u % (((ns.map V.str).length:Int) + 1),rfl,?_⟩⟩
   have j0:=aO (k:=u) (n:=((ns.map V.str).length:Int) + 1) (by omega)
   have j1:=aN (k:=u) (n:=((ns.map V.str).length:Int) + 1) (by omega)
   rw [GR] at j0 j1 ⊢
   refine ⟨by omega,by omega,?_⟩
   have s24:=aa sl si
   refine c4 (lo:=0) (n:=(u % ((ns.length:Int) + 1)).toNat) (fun i σ Hx=>(∃o6,σ=[some (.ref a),some (.int c),some (.ref nl),some (.ref B),some (.ref lf),some (.ref I),o6,none,none,none])/\ah H2 Hx/\∃ls is:List Str,Hx lf=some (.lst (ls.map V.str))/\Hx I=some (.lst (is.map V.str))/\ls.length + i=ns.length/\is.length=i/\(is++ls).Perm ns) ⟨⟨_,rfl⟩,s24,ns,[],gl,gi,rfl,rfl,.refl _⟩ (fun i σ Hx hi z=>?_) (fun σ Hx z=>?_)
   · obtain ⟨⟨o6,rfl⟩,sx,ls,is,hl,hi',ll,il,pm⟩:=z
     refine ao ?_
     refine aB [some (.ref a),some (.int c),some (.ref nl),some (.ref B),some (.ref lf),some (.ref I),some (.int (0 + (i:Int))),none,none,none] rfl ?_
     refine ⟨_,rfl,.inl ⟨rfl,_,aw.of hi'⟩,_,rfl,.inl ⟨rfl,_,aw.of hl⟩,_,rfl,_,rfl,_,_,rfl,rfl,c,431 + (0 + (i:Int)),rfl,by omega,by omega,fun k k0 k1=>⟨_,rfl,lf,_,rfl,.inl (aw.of hl),_,_,rfl,rfl,(by rw [GR]; omega),?_⟩⟩
     have m0:=aO (k:=k) (n:=((ls.map V.str).length:Int)) (by rw [GR]; omega)
     have m1:=aN (k:=k) (n:=((ls.map V.str).length:Int)) (by rw [GR]; omega)
     have ml:(ls.map V.str).length=ls.length:=GR ..
     obtain ⟨j,ej⟩ : ∃j,j=k % ((ls.map V.str).length:Int):=⟨_,rfl⟩
     rw [← ej] at m0 m1
     obtain ⟨x,gx,hxm,_⟩:=eB V.str ls m0 (by omega)
     refine ⟨lf,_,_,j.toNat,.str x,rfl,rfl,hl,?_,?_,?_,?_,?_⟩
     · show -(2 ^ 63)<=k % ((ls.map V.str).length:Int)
       rw [← ej]; omega
     · show k % ((ls.map V.str).length:Int) < 2 ^ 63
       rw [← ej]; omega
     · show J2 (k % ((ls.map V.str).length:Int)) _=_
       rw [← ej]; exact BR m0 m1
     · rw [HR,gx]; rfl
     refine ⟨I,_,_,rfl,rfl,by rw [aj lfI.symm]; exact hi',aM (by rw [GR]; omega),⟨_,rfl⟩,aG (aG sx hlf) (aE sl hI),ls.eraseIdx j.toNat,is++[x],?_,by rw [ae,G2]; rfl,?_,by rw [GU,il]; rfl,?_⟩
     · rw [aj lfI,ae,kS]
     · rw [List.length_eraseIdx,if_pos (by omega)]
       omega
     · rw [Il]
       exact ((jd gx).symm.append_left is).trans pm
   obtain ⟨⟨o6,rfl⟩,sx,ls,ins,_,gI,ll,il,pm⟩:=z
   have i8:∀x∈ins,dJ x:=fun x hx=>n8 x (pm.mem_iff.mp (IY _ hx))
   have sB:=aa s1 (aa s2 sx)
   have gB:=sx _ _ gB
   have pb:Paired (bT Hx) vb bs:=Paired.mapP pb fun _ _ z=>Tp.keep (ah.tk sx) z
   have DB:=D2.go sx
   have insl:ins.length<=4:=by omega
   clear gl gi sl si s24 s13 s2 D2 hI hlf lfI hB
   refine kR _ _ ?_
   refine sD fun Rk kR=>?_
   suffices hcell:∀(cl:Addr) (cs:List Int) (H5:Hp),ah Hx H5->H5 cl=some (.lst (cs.map V.int))->(1<=cs.length/\cs.length<=40)->Rk [some (.ref a),some (.int c),some (.ref nl),some (.ref B),some (.ref lf),some (.ref I),o6,some (.ref cl),none,none] H5 by
     obtain ⟨cs,ecs,c40⟩:=sA sc
     refine ⟨_,rfl,_,rfl,_,rfl,a,_,rfl,ah.seq sB hs,fun cl hcl=>?_⟩
     rw [ecs]
     have sc1:ah Hx (upd Hx cl (.lst (cs.map V.int))):=ag hcl _
     have gc:(upd Hx cl (.lst (cs.map V.int))) cl=some (.lst (cs.map V.int)):=ae
     generalize upd Hx cl (.lst (cs.map V.int))=Hc at sc1 gc ⊢
     refine ao ?_
     refine ⟨_,rfl,Nr,fun z hz=>?_⟩
     have sz:ah Hc (upd Hc z (.lst [])):=ag hz _
     have gz:(upd Hc z (.lst [])) z=some (.lst []):=ae
     generalize upd Hc z (.lst [])=Hz at sz gz ⊢
     refine ⟨_,RB.nil (aw.of (sz _ _ gc)) (aw.of gz),_,rfl,?_⟩
     refine aH (fun _=>?_) (fun cc=>?_)
     · refine ⟨Nt,fun c2 hc2=>?_⟩
       refine ao ?_
       exact hcell c2 [0] _ (aA (aa sc1 sz) hc2) ae (by decide)
     · exact hcell cl cs Hz (aa sc1 sz) (sz _ _ gc) ⟨by cases cs with | nil=>exact absurd rfl cc | cons a l=>exact Iz _,c40⟩
   intro cl cs H5 s5 hcl ⟨c1,c40⟩
   refine kR _ _ ?_
   refine ar fun Rk kR=>?_
   have D5:=DB.go s5
   refine ⟨_,rfl,cl,rfl,⟨_,aw.of hcl⟩,fun N hN=>?_⟩
   refine aT (xs:=cs.map V.int) (fun i Hy=>ah H5 Hy/\∃us es,Hy N=some (.lst us)/\us.length=i/\Paired (fun v e=>cq Hy v e/\v≠.ref N) us es/\∀e∈es,p7 ns ((cs.map V.int).length:Int) e) ⟨ag hN _,[],[],ae,rfl,.nil,fun e he=>nomatch he⟩ (fun i Hy _ z=>aw.of (z.1 _ _ hcl)) (fun i x0 Hy hx z=>?_) (fun Hy z=>?_)
   · obtain ⟨sy,us,es,gN,ul,pu,wu⟩:=z
     have hil:=(List.getElem?_eq_some_iff.mp hx).1
     have hil':i < cs.length:=by rw [GR] at hil; exact hil
     obtain ⟨cc,_,rfl⟩:=bC hx
     refine ao ?_
     refine bE (A:=fun H5=>bS _ N _ H5 _) ?_
     refine ⟨_,rfl,_,rfl,_,rfl,cl,_,rfl,.inl (aw.of (sy _ _ hcl)),cc,nl,_,ns,rfl,D5.go sy,n8,by rw [GR]; omega,by rw [GR]; omega,fun L v e Hz hL sz gL nd wr=>?_⟩
     have gNz:=sz _ _ gN
     have LN:L≠N:=(ai gN hL).symm
     refine ⟨us,gNz,aM (by omega),aK (Pv:=fun i Hy=>ah H5 Hy/\∃us es,Hy N=some (.lst us)/\us.length=i/\Paired (fun v e=>cq Hy v e/\v≠.ref N) us es/\∀e∈es,p7 ns ((cs.map V.int).length:Int) e) (by repeat' constructor) hil ⟨aG (aa sy sz) hN,us++[.ref L],es++[e],ae,by rw [GU,ul]; rfl,?_,fun e' he=>?_⟩⟩
     · refine Paired.snoc (Paired.mapP pu fun _ _ z=>cq.put gNz ⟨cq.same sz z.1,z.2⟩) (cq.put gNz ⟨⟨L,v,rfl,gL,nd⟩,fun z=>LN (by injection z)⟩)
     · rcases List.mem_append.mp he with z | z
       · exact wu e' z
       · rw [List.mem_singleton.mp z]; exact wr
   obtain ⟨sy,us,es,gN,ul,pu,wu⟩:=z
   rw [GR] at ul wu

   refine ao ?_
   refine kR _ _ ?_
   refine aB [some (.ref a),some (.int c),some (.ref nl),some (.ref B),some (.ref lf),some (.ref I),o6,some (.ref cl),some (.ref N),none] rfl ?_
   refine ar fun Rk kR=>?_
   refine ⟨fun (d:Nat) (σ:L2.St) (Hy:Hp)=>∃(cl:Addr) (cs:List Int) (N:Addr) (us:List V) (es:List Np),σ=[some (.ref a),some (.int c),some (.ref nl),some (.ref B),some (.ref lf),some (.ref I),o6,some (.ref cl),some (.ref N),none]/\d=cs.length/\ah Hx Hy/\Hy cl=some (.lst (cs.map V.int))/\(1<=cs.length/\cs.length<=40)/\Hy N=some (.lst us)/\us.length=cs.length/\Paired (fun v e=>cq Hy v e/\v≠.ref N) us es/\∀e∈es,p7 ns (cs.length:Int) e,⟨cs.length,cl,cs,N,us,es,rfl,rfl,aa s5 sy,sy _ _ hcl,⟨c1,c40⟩,gN,ul,pu,wu⟩,fun d σ Hz z=>?_⟩
   clear hcl s5 D5 gN sy pu wu ul hN H5 c1 c40
   obtain ⟨cl,cs,N,us,es,rfl,rfl,s5,hcl,⟨c1,c40⟩,gN,ul,pu,wu⟩:=z
   have el:=Paired.length pu
   refine ⟨_,rfl,N,rfl,⟨_,aw.of gN⟩,fun D hD=>?_⟩
   refine aT (xs:=us) (fun i Hy=>ah Hz Hy/\∃ks:List Int,Hy D=some (.lst (ks.map V.int))/\ks.length=i/\∀k∈ks,k<=3601) ⟨ag hD _,[],ae,rfl,fun k hk=>nomatch hk⟩ (fun i Hy _ z=>aw.of (z.1 _ _ gN)) (fun i x0 Hy hx z=>?_) (fun Hy z=>?_)
   · obtain ⟨sy,ks,gD,kl,k3⟩:=z
     have hil:=(List.getElem?_eq_some_iff.mp hx).1
     obtain ⟨e,hei,⟨L,nv,rfl,gL,nd⟩,_⟩:=Paired.get pu hx
     refine ⟨L,_,rfl,aw.of (sy _ _ gL),rfl,_,_,rfl,_,_,rfl,rfl,?_⟩
     refine bE (A:=fun H5=>bS _ D _ H5 _) ?_
     refine ⟨_,rfl,_,rfl,vA nd (wu e (Hh hei)).w,_,_,rfl,rfl,?_⟩
     refine ⟨_,gD,aM (by rw [GR]; omega),aK (Pv:=fun i Hy=>ah Hz Hy/\∃ks:List Int,Hy D=some (.lst (ks.map V.int))/\ks.length=i/\∀k∈ks,k<=3601) (by repeat' constructor) hil ⟨aG sy hD,ks++[((Hj sp1 e.ws).length:Int) + 1],by rw [ae,G2]; rfl,by rw [GU,kl]; rfl,fun k hk=>?_⟩⟩
     rcases List.mem_append.mp hk with z | z
     · exact k3 k z
     · rw [List.mem_singleton.mp z]
       have:=(wu e (Hh hei)).row
       omega
   obtain ⟨sy,ks,gD,kl,k3⟩:=z
   refine ⟨D,ks,rfl,aw.of gD,_,_,rfl,rfl,_,rfl,?_⟩
   have s5:=aa s5 sy
   have hcl:=sy _ _ hcl
   have gN:=sy _ _ gN
   have pu:Paired (fun v e=>cq Hy v e/\v≠.ref N) us es:=Paired.mapP pu fun _ _ z=>⟨cq.same sy z.1,z.2⟩
   refine aH (fun cc=>?_) (fun _=>?_)
   · have cpos:2<=cs.length:=by
       refine Nat.lt_of_le_of_ne c1 fun z=>?_
       have kn:ks.length=1:=by omega
       have cc:=of_decide_eq_true cc
       match ks,kn,k3,cc with
       | [k],_,k3,cc=>
         have:=k3 k GZ
         have cc:(3700:Int) < [k].sum:=cc
         simp only [Ib,JA] at cc
         omega
     refine ⟨fun σ' H'=>∃d',d' < cs.length/\(fun (d:Nat) (σ:L2.St) (Hy:Hp)=>∃(cl:Addr) (cs:List Int) (N:Addr) (us:List V) (es:List Np),σ=[some (.ref a),some (.int c),some (.ref nl),some (.ref B),some (.ref lf),some (.ref I),o6,some (.ref cl),some (.ref N),none]/\d=cs.length/\ah Hx Hy/\Hy cl=some (.lst (cs.map V.int))/\(1<=cs.length/\cs.length<=40)/\Hy N=some (.lst us)/\us.length=cs.length/\Paired (fun v e=>cq Hy v e/\v≠.ref N) us es/\∀e∈es,p7 ns (cs.length:Int) e) d' σ' H',fun σ' H' z=>z,?_⟩
     refine ar fun Rk2 kR2=>?_
     refine ⟨_,rfl,_,rfl,cl,_,rfl,.inl (aw.of hcl),_,_,rfl,rfl,⟨by decide,by decide +kernel⟩,_,rfl,cl,_,rfl,aw.of hcl,fun c2 hc2=>?_⟩
     obtain ⟨ds,eds,dl⟩:=wR cs
     refine uy (fun H'=>eR 7 (.ref c2) [some (.ref a),some (.int c),some (.ref nl),some (.ref B),some (.ref lf),some (.ref I),o6,some (.ref cl),some (.ref N),none] H' _) (upd Hy c2 (.lst (ds.map V.int))) (by rw [GR]; show upd Hy c2 (.lst (dO (cs.map V.int) none (some ((cs.length:Int) / 2))))=_; rw [eds]) ?_
     have sc2:ah Hy (upd Hy c2 (.lst (ds.map V.int))):=ag hc2 _
     have gc2:(upd Hy c2 (.lst (ds.map V.int))) c2=some (.lst (ds.map V.int)):=ae
     generalize upd Hy c2 (.lst (ds.map V.int))=Hc2 at sc2 gc2 ⊢
     refine ao ?_
     refine kR2 _ _ ?_
     refine aB [some (.ref a),some (.int c),some (.ref nl),some (.ref B),some (.ref lf),some (.ref I),o6,some (.ref c2),some (.ref N),none] rfl ?_
     have D5:=DB.go (aa s5 sc2)
     refine ⟨_,rfl,c2,rfl,⟨_,aw.of gc2⟩,fun N hN=>?_⟩
     refine aT (xs:=ds.map V.int) (fun i Hw=>ah Hc2 Hw/\∃us es,Hw N=some (.lst us)/\us.length=i/\Paired (fun v e=>cq Hw v e/\v≠.ref N) us es/\∀e∈es,p7 ns ((ds.map V.int).length:Int) e) ⟨ag hN _,[],[],ae,rfl,.nil,fun e he=>nomatch he⟩ (fun i Hw _ z=>aw.of (z.1 _ _ gc2)) (fun i x0 Hw hx z=>?_) (fun Hw z=>?_)
     · obtain ⟨sy,us,es,gN,ul,pu,wu⟩:=z
       have hil:=(List.getElem?_eq_some_iff.mp hx).1
       have hil':i < ds.length:=by rw [GR] at hil; exact hil
       obtain ⟨cc,_,rfl⟩:=bC hx
       refine ao ?_
       refine bE (A:=fun H5=>bS _ N _ H5 _) ?_
       refine ⟨_,rfl,_,rfl,_,rfl,c2,_,rfl,.inl (aw.of (sy _ _ gc2)),cc,nl,_,ns,rfl,D5.go sy,n8,by rw [GR]; omega,by rw [GR]; omega,fun L v e Hr hL sz gL nd wr=>?_⟩
       have gNz:=sz _ _ gN
       have LN:L≠N:=(ai gN hL).symm
       refine ⟨us,gNz,aM (by omega),aK (Pv:=fun i Hw=>ah Hc2 Hw/\∃us es,Hw N=some (.lst us)/\us.length=i/\Paired (fun v e=>cq Hw v e/\v≠.ref N) us es/\∀e∈es,p7 ns ((ds.map V.int).length:Int) e) (by repeat' constructor) hil ⟨aG (aa sy sz) hN,us++[.ref L],es++[e],ae,by rw [GU,ul]; rfl,?_,fun e' he=>?_⟩⟩
       · refine Paired.snoc (Paired.mapP pu fun _ _ z=>cq.put gNz ⟨cq.same sz z.1,z.2⟩) (cq.put gNz ⟨⟨L,v,rfl,gL,nd⟩,fun z=>LN (by injection z)⟩)
       · rcases List.mem_append.mp he with z | z
         · exact wu e' z
         · rw [List.mem_singleton.mp z]; exact wr
     obtain ⟨sy,us,es,gN,ul,pu,wu⟩:=z
     rw [GR] at ul wu
     refine ao ?_
     exact ⟨ds.length,by omega,c2,ds,N,us,es,rfl,rfl,aa (aa s5 sc2) sy,sy _ _ gc2,⟨by omega,by omega⟩,gN,ul,pu,wu⟩
   have gB:=s5 _ _ gB
   have gI:=s5 _ _ gI
   have pb:Paired (bT Hy) vb bs:=Paired.mapP pb fun _ _ z=>Tp.keep (ah.tk s5) z
   have sB:=aa sB s5
   have bsl:bs.length<=4:=by omega
   clear hcl gD kl hD DB D1 gn hs
   refine kR _ _ ?_
   refine ar fun Rk kR=>?_
   refine ⟨_,rfl,B,rfl,⟨_,aw.of gB⟩,fun E1 hE1=>?_⟩
   refine aT (xs:=vb) (fun i Hv=>ah Hy Hv/\Hv E1=some (.lst ((bs.take i).map fun b=>V.str (Hj sp1 (fw b))))) ⟨ag hE1 _,ae⟩ (fun i Hv _ z=>aw.of (z.1 _ _ gB)) (fun i x0 Hv hx z=>?_) (fun Hv z=>?_)
   · obtain ⟨sv,gE⟩:=z
     have hil:=(List.getElem?_eq_some_iff.mp hx).1
     obtain ⟨b,hbi,pp,rfl,hpp⟩:=Paired.get pb hx
     have w9:=wb b (Hh hbi)
     have w8:=w9.1.l8
     have n1:=xm (FF w9.2)
     have e1:(("box ":Str)).length=4:=rfl
     have e2:((" ":Str)).length=1:=rfl
     refine ⟨pp,_,rfl,aC.of (sv _ _ hpp),rfl,_,_,rfl,_,_,rfl,rfl,?_⟩
     refine bE (A:=fun H5=>bS _ E1 _ H5 _) ?_
     refine ⟨_,rfl,"box ",_,rfl,rfl,fit (by omega),_," ",rfl,rfl,fit (by rw [strLen_append]; omega),_,rfl,.inl ⟨_,rfl,Im (cW (FF w9.2)) (by decide),_,_,rfl,rfl,fit (by rw [strLen_append,strLen_append]; omega),?_⟩⟩
     refine ⟨_,gE,aM (by rw [GR,G8]; omega),aK (Pv:=fun i Hv=>ah Hy Hv/\Hv E1=some (.lst ((bs.take i).map fun b=>V.str (Hj sp1 (fw b))))) (by repeat' constructor) hil ⟨aG sv hE1,?_⟩⟩
     rw [ae,wz,Hl,hbi,G2]
     rfl
   obtain ⟨sv,gE⟩:=z
   rw [show vb.length=bs.length from bl,HB] at gE
   have gI':=sv _ _ gI
   refine ⟨_,rfl,I,rfl,⟨_,aw.of gI'⟩,fun E2 hE2=>?_⟩
   refine aT (xs:=ins.map V.str) (fun i Hu=>ah Hv Hu/\Hu E2=some (.lst ((ins.take i).map fun x=>V.str (Hj sp1 (pC x))))) ⟨ag hE2 _,ae⟩ (fun i Hu _ z=>aw.of (z.1 _ _ gI')) (fun i x0 Hu hx z=>?_) (fun Hu z=>?_)
   · obtain ⟨su,gE⟩:=z
     have hil:=(List.getElem?_eq_some_iff.mp hx).1
     have hil':i < ins.length:=by rw [GR] at hil; exact hil
     obtain ⟨x,hxi,rfl⟩:=bC hx
     have w8:=(i8 x (Hh hxi)).l8
     have e1:(("input ":Str)).length=6:=rfl
     refine ao ?_
     refine bE (A:=fun H5=>bS _ E2 _ H5 _) ?_
     refine ⟨_,rfl,"input ",_,rfl,rfl,fit (by omega),?_⟩
     refine ⟨_,gE,aM (by rw [GR,G8]; omega),aK (Pv:=fun i Hu=>ah Hv Hu/\Hu E2=some (.lst ((ins.take i).map fun x=>V.str (Hj sp1 (pC x))))) (by repeat' constructor) hil ⟨aG su hE2,?_⟩⟩
     rw [ae,Ad,Hl,hxi,G2]
     rfl
   obtain ⟨su,gE2⟩:=z
   rw [GR,HB] at gE2
   refine ⟨E1,E2,_,_,rfl,rfl,su _ _ gE,gE2,small (by rw [GR,GR]; omega),fun R0 hR0=>?_⟩
   have sR:=ag hR0 (.lst (bs.map (fun b=>V.str (Hj sp1 (fw b)))++ins.map (fun x=>V.str (Hj sp1 (pC x)))))
   have gR:(upd Hu R0 (.lst (bs.map (fun b=>V.str (Hj sp1 (fw b)))++ins.map (fun x=>V.str (Hj sp1 (pC x)))))) R0=some (.lst (bs.map (fun b=>V.str (Hj sp1 (fw b)))++ins.map (fun x=>V.str (Hj sp1 (pC x))))):=ae
   generalize upd Hu R0 (.lst (bs.map (fun b=>V.str (Hj sp1 (fw b)))++ins.map (fun x=>V.str (Hj sp1 (pC x)))))=H7 at sR gR ⊢
   have s7:=aa (aa sv su) sR
   have gB:=s7 _ _ gB
   have gI:=s7 _ _ gI
   have gN:=s7 _ _ gN
   have pb:Paired (bT H7) vb bs:=Paired.mapP pb fun _ _ z=>Tp.keep (ah.tk s7) z
   have pu:Paired (fun v e=>cq H7 v e/\v≠.ref N) us es:=Paired.mapP pu fun _ _ z=>⟨cq.same s7 z.1,z.2⟩
   have sB:=aa sB s7
   clear gE gE2 hE1 hE2 sv su sR s7 gI'
   refine ao ?_
   refine kR _ _ ?_
   refine aB [some (.ref a),some (.int c),some (.ref nl),some (.ref B),some (.ref lf),some (.ref I),o6,some (.ref cl),some (.ref N),some (.ref R0)] rfl ?_
   refine ⟨_,rfl,_,rfl,_,rfl,N,rfl,⟨_,aw.of gN⟩,fun E3 hE3=>?_⟩
   refine aT (xs:=us) (fun i Hv=>ah H7 Hv/\∃vn,Hv E3=some (.lst vn)/\vn.length=i/\Paired (aP Hv) vn (es.take i)) ⟨ag hE3 _,[],ae,rfl,.nil⟩ (fun i Hv _ z=>aw.of (z.1 _ _ gN)) (fun i x0 Hv hx z=>?_) (fun Hv z=>?_)
   · obtain ⟨sv,vn,gE,vl,pn⟩:=z
     have hil:=(List.getElem?_eq_some_iff.mp hx).1
     obtain ⟨e,hei,⟨L,nv,rfl,gL,nd⟩,_⟩:=Paired.get pu hx
     refine ⟨L,_,rfl,aw.of (sv _ _ gL),rfl,_,_,rfl,_,_,rfl,rfl,?_⟩
     refine bE (A:=fun H5=>bS _ E3 _ H5 _) ?_
     refine ⟨_,rfl,_,gE,aM (by omega),aK (Pv:=fun i Hv=>ah H7 Hv/\∃vn,Hv E3=some (.lst vn)/\vn.length=i/\Paired (aP Hv) vn (es.take i)) (by repeat' constructor) hil ⟨aG sv hE3,vn++[nv],ae,by rw [GU,vl]; rfl,?_⟩⟩
     rw [Hl,hei]
     exact Paired.snoc (Paired.mapP pn fun _ _ z=>aP.keep (TW.TK.lst gE) z) ((nd.keep (ah.tk sv)).keep (TW.TK.lst gE))
   obtain ⟨sv,vn,gE3,vl,pn⟩:=z
   rw [el,HB] at pn
   refine ⟨Nv,fun p hp=>?_⟩
   have sp:ah Hv (upd Hv p (.tup [.ref B,.ref I,.ref E3])):=ag hp _
   have gp:(upd Hv p (.tup [.ref B,.ref I,.ref E3])) p=some (.tup [.ref B,.ref I,.ref E3]):=ae
   generalize upd Hv p (.tup [.ref B,.ref I,.ref E3])=H8 at sp gp ⊢
   refine ⟨_,rfl,_,rfl,N,rfl,⟨_,aw.of (sp _ _ (sv _ _ gN))⟩,fun E4 hE4=>?_⟩
   refine aT (xs:=us) (fun i Hu=>ah H8 Hu/\Hu E4=some (.lst ((es.take i).map fun e=>V.str (Hj sp1 e.ws)))) ⟨ag hE4 _,ae⟩ (fun i Hu _ z=>aw.of (z.1 _ _ (sp _ _ (sv _ _ gN)))) (fun i x0 Hu hx z=>?_) (fun Hu z=>?_)
   · obtain ⟨su,gE⟩:=z
     have hil:=(List.getElem?_eq_some_iff.mp hx).1
     obtain ⟨e,hei,⟨L,nv,rfl,gL,nd⟩,_⟩:=Paired.get pu hx
     refine ⟨L,_,rfl,aw.of (su _ _ (sp _ _ (sv _ _ gL))),rfl,_,_,rfl,_,_,rfl,rfl,?_⟩
     refine bE (A:=fun H5=>bS _ E4 _ H5 _) ?_
     refine ⟨_,rfl,_,gE,aM (by rw [GR,G8]; omega),aK (Pv:=fun i Hu=>ah H8 Hu/\Hu E4=some (.lst ((es.take i).map fun e=>V.str (Hj sp1 e.ws)))) (by repeat' constructor) hil ⟨aG su hE4,?_⟩⟩
     rw [ae,Hl,hei,G2]
     rfl
   obtain ⟨su,gE4⟩:=z
   rw [el,HB] at gE4
   refine ⟨R0,E4,_,_,rfl,rfl,su _ _ (sp _ _ (sv _ _ gR)),gE4,small (by rw [GU,GR,GR,GR]; omega),fun R hR=>⟨Nu,fun L hL=>?_⟩⟩
   have tR:=ag hR (.lst (bs.map (fun b=>V.str (Hj sp1 (fw b)))++ins.map (fun x=>V.str (Hj sp1 (pC x)))++es.map (fun e=>V.str (Hj sp1 e.ws))))
   have tL:=ag hL (.lst [.ref p,.ref R])
   have t9:=aa tR tL
   have t8:=aa (aa sp su) t9
   have t7:=aa sv t8
   refine q L p R B I E3 vb vn bs ins es _ (aa sB t7) ae (t9 _ _ (su _ _ gp)) ⟨t7 _ _ gB,t7 _ _ gI,t8 _ _ gE3,Paired.mapP pb fun _ _ z=>Tp.keep (ah.tk t7) z,Paired.mapP pn fun _ _ z=>aP.keep (ah.tk t8) z⟩ ⟨⟨fun b hb=>⟨(wb b hb).1,by have:=(wb b hb).2.1; omega,oq (by have:=(wb b hb).2.2; omega)⟩,i8,fun e he=>(wu e he).w,bsl,insl,by omega⟩,⟨by rw [en]; exact nnd,fun b hb=>(wb b hb).2,bsl⟩,(List.nodup_append.mp (pm.nodup_iff.mpr nnd)).1,fun x hx=>by rw [en]; exact pm.mem_iff.mp (IY _ hx),by omega,fun e he=>⟨fun n hn=>by have:=(wu e he).ld n hn; omega,fun t ht=>⟨TW.E.okN.inB en ((wu e he).kn t ht).1,((wu e he).kn t ht).2⟩⟩⟩ (by omega) ?_
   have gR9:=tL _ _ (ae (H:=Hu) (a:=R) (o:=.lst (bs.map (fun b=>V.str (Hj sp1 (fw b)))++ins.map (fun x=>V.str (Hj sp1 (pC x)))++es.map (fun e=>V.str (Hj sp1 e.ws)))))
   refine gR9.trans ?_
   unfold textOf
   rw [G2,G2,HQ,HQ,HQ]
   rfl
theorem tQ (s:Src K mg "_law_program" sProg)(m_len:mg "len"=none)(m_range:mg "range"=none)(m_list:mg "list"=none)(m_str:mg "str"=none)(m_sum:mg "sum"=none)(m_enumerate:mg "enumerate"=none)(CE:aJ P w K mg base "_law_cell_at" ["script","k"] 41 (gV K))(NS:aJ P w K mg base "_law_names" ["head","many"] 41 iO)(ST:aJ P w K mg base "_law_stir" ["cell","k"] 41 bo)(NO:aJ P w K mg base "_law_node" ["cell","names","many"] 41 mm):aJ P w K mg base "_law_program" ["script"] 42 (oM K):=
 let ⟨f,fd,F,m⟩:=s
 ⟨f,fd,xB F m_len m_range m_list m_str m_sum m_enumerate CE NS ST NO,F.kp,cT F fun _ _ _ _ _ _ _=>rfl,m⟩
end
end TW
set_option Elab.async false
set_option linter.all false
set_option maxRecDepth 100000
set_option exponentiation.threshold 4000
set_option maxHeartbeats 1000000
namespace TW
open PySem L2
section
variable {P:Program}{w:World}{K:GP}{mg:Str->Option Value}{base:Heap}
abbrev sRNN:Stmt:=top 48
abbrev sLedA:Stmt:=top 49
abbrev sWithN:Stmt:=top 50
abbrev sJoined:Stmt:=top 18
abbrev sAllOf:Stmt:=top 19
abbrev sBoxS:Stmt:=top 51
abbrev sAllS:Stmt:=top 52
abbrev sLevE:Stmt:=top 53
abbrev sOver:Stmt:=top 54
/-! ### what told_over needs -/
def pV:Sp:=fun vs H Q _=>∃(p l B I N:Addr) (vn:List V) (h:Int),vs=[.ref p,.ref l]/\H p=some (.tup [.ref B,.ref I,.ref N])/\H N=some (.lst vn)/\H l=some (.lst [.int h])/\0<=h/\h < (vn.length:Int)/\Q .bq H
theorem zi:aq ["program","numbers","number"] ["program","numbers"] (af sRNN):=⟨rfl,rfl,rfl,by decide +kernel,rfl,by decide +kernel,by decide +kernel⟩
theorem tj:(af sRNN).names.lookup (GQ "len")=some .globalImplicit:=by decide +kernel
theorem AE {f:Addr}{fd:FuncData}(F:bI K "refuse_no_nodes" "refuse_no_nodes" sRNN f fd)(m_len:mg "len"=none):aL P w K mg base CX0 1 f fd ["program","numbers"] pV:=by
 refine F.ok zi (fun vs H Q E h=>?_) (fun cdv A outer s H vs Q E hr h=>?_)
 · obtain ⟨p,l,B,I,N,vn,h0,rfl,_⟩:=h
   rfl
 · obtain ⟨p,l,B,I,N,vn,h0,rfl,hp,hN,hl,hh0,hh1,q⟩:=h
   refine cH ⟨_,(K8 (LG (Lr (K0 1)) (Le 2 zi.nd) (K8 (Lf (Lv (LR (Lb LX (K0 2) K4) (LZ (Lb L3.Ax (K0 2) (Lm Lp tj m_len G1 (K1 (La Li (K0 0) K4) K3)))))) LC Lh)))),?_⟩
   refine ⟨_,rfl,l,rfl,⟨_,aw.of hl⟩,?_⟩
   refine cf (xs:=[.int h0]) (fun i σ Hx=>(∃o,σ=[some (.ref p),some (.ref l),o])/\Hx=H) ⟨⟨_,rfl⟩,rfl⟩ (fun i σ Hx _ z=>by rw [z.2]; exact aw.of hl) (fun i x0 σ Hx hx z=>?_) (fun σ Hx z=>by rw [z.2]; exact q)
   obtain ⟨⟨o,rfl⟩,rfl⟩:=z
   have ex:x0=.int h0:=by
     match i,hx with
     | 0,hx=>exact (HA hx).symm
   subst ex
   refine ao ?_
   refine ⟨_,rfl,_,_,rfl,rfl,_,rfl,iteF' (decide_eq_false (by omega)) ?_⟩
   refine ⟨_,rfl,_,rfl,p,_,_,_,rfl,rfl,aC.of hp,rfl,N,_,rfl,.inl (aw.of hN),_,_,rfl,rfl,_,rfl,iteF' (decide_eq_false (by omega)) ?_⟩
   exact ⟨⟨_,rfl⟩,rfl⟩
theorem wX (s:Src K mg "refuse_no_nodes" sRNN)(m_len:mg "len"=none):aJ P w K mg base "refuse_no_nodes" ["program","numbers"] 1 pV:=
 let ⟨f,fd,F,m⟩:=s
 ⟨f,fd,AE F m_len,F.kp,cU F fun _ _ _ _ _ _ _ _=>rfl,m⟩
def Np.led:Np->List Int->Np
 | .put x s n,l=>.put x s ((l[0]?).getD n)
 | .say s n,l=>.say s ((l[0]?).getD n)
 | .test c n o,l=>.test c ((l[0]?).getD n) ((l[1]?).getD o)
 | .pick x n,l=>.pick x ((l[0]?).getD n)
 | .fin,_=>.fin
theorem sE (xs:List V)(k:Nat)(h:k<=xs.length):dO xs none (some (k:Int))=xs.take k:=by
 unfold dO
 have e2:HT.bD xs.length xs.length (some ((k:Nat):Int))=min k xs.length:=HT.cJ _ _ _
 rw [e2,HT.fY,Ko,KS,JG h]
def mi:Sp:=fun vs H Q _=>∃(v:V) (l:Addr) (e:Np) (ls:List Int),vs=[v,.ref l]/\aP H v e/\H l=some (.lst (ls.map V.int))/\ls.length=e.leads.length/\∀(v':V) (H':Hp),ah H H'->aP H' v' (e.led ls)->Q v' H'
/-- a node's tuple: what is ahead of its leads -/
theorem aP.parts {H:Hp}:∀{e:Np} {v:V},aP H v e->∃(p:Addr) (as:List V),v=.ref p/\H p=some (.tup (as++e.leads.map V.int))/\as≠[]/\as.length<=3/\∀(ls:List Int) (H':Hp) (p':Addr),TK H H'->ls.length=e.leads.length->H' p'=some (.tup (as++ls.map V.int))->aP H' (.ref p') (e.led ls)
 | .put x s n,_,⟨u,⟨p,rfl,h⟩,a⟩=>⟨p,[.str "put",.str x,u],rfl,h,(fun z=>nomatch z),(by show 3<=3; decide),fun ls H' p' k hl h'=>by
   match ls,hl with
   | [m],_=>exact ⟨u,⟨p',rfl,h'⟩,a.keep k⟩⟩
 | .say s n,_,⟨u,⟨p,rfl,h⟩,a⟩=>⟨p,[.str "say",u],rfl,h,(fun z=>nomatch z),(by show 2<=3; decide),fun ls H' p' k hl h'=>by
   match ls,hl with
   | [m],_=>exact ⟨u,⟨p',rfl,h'⟩,a.keep k⟩⟩
 | .test c n o,_,⟨u,⟨p,rfl,h⟩,a⟩=>⟨p,[.str "test",u],rfl,h,(fun z=>nomatch z),(by show 2<=3; decide),fun ls H' p' k hl h'=>by
   match ls,hl with
   | [m,m2],_=>exact ⟨u,⟨p',rfl,h'⟩,a.keep k⟩⟩
 | .pick x n,_,⟨p,rfl,h⟩=>⟨p,[.str "pick",.str x],rfl,h,(fun z=>nomatch z),(by show 2<=3; decide),fun ls H' p' k hl h'=>by
   match ls,hl with
   | [m],_=>exact ⟨p',rfl,h'⟩⟩
 | .fin,_,⟨p,rfl,h⟩=>⟨p,[.str "end"],rfl,h,(fun z=>nomatch z),by decide,fun ls H' p' k hl h'=>by
   match ls,hl with
   | [],_=>exact ⟨p',rfl,h'⟩⟩
theorem Np.leads2:∀e:Np,e.leads.length<=2
 | .put _ _ _=>(by decide:1<=2) | .say _ _=>(by decide:1<=2) | .test _ _ _=>(by decide:2<=2) | .pick _ _=>(by decide:1<=2) | .fin=>(by decide:0<=2)
theorem BP:aq ["node","leads"] ["node","leads"] (af sLedA):=⟨rfl,rfl,rfl,by decide +kernel,rfl,by decide +kernel,by decide +kernel⟩
theorem kD:(af sLedA).names.lookup (GQ "len")=some .globalImplicit:=by decide +kernel
theorem mR:(af sLedA).names.lookup (GQ "tuple")=some .globalImplicit:=by decide +kernel
theorem xw {f:Addr}{fd:FuncData}(F:bI K "led_anew" "led_anew" sLedA f fd)(m_len:mg "len"=none)(m_tuple:mg "tuple"=none):aL P w K mg base CX0 1 f fd ["node","leads"] mi:=by
 refine F.ok BP (fun vs H Q E h=>?_) (fun cdv A outer s H vs Q E hr h=>?_)
 · obtain ⟨v,l,e,ls,rfl,_⟩:=h
   rfl
 · obtain ⟨v,l,e,ls,rfl,na,hl,ll,q⟩:=h
   obtain ⟨p,as,rfl,hp,asn,as3,mk⟩:=na.parts
   have e2:=e.leads2
   have lt:(as++e.leads.map V.int).length=as.length + e.leads.length:=by rw [GU,GR]
   refine cH ⟨_,(K8 (Lc (K5 L3.lT (L3.Fn (K0 0) (K5 L8 (Lm Lp kD m_len G1 (K1 (K0 0) K3)) (Lm Lp kD m_len G1 (K1 (K0 1) K3)))) (Lw L3.oW mR m_tuple (by decide +kernel) (K1 (K0 1) K3))))),?_⟩
   refine ⟨_,rfl,_,rfl,p,_,rfl,.inr (aC.of hp),_,rfl,l,_,rfl,.inl (aw.of hl),_,_,rfl,rfl,_,rfl,?_⟩
   have ek:(((as++e.leads.map V.int).length:Int) - ((ls.map V.int).length:Int))=((as.length:Nat):Int):=by rw [lt,GR,ll]; omega
   rw [ek]
   have ec:dO (as++e.leads.map V.int) none (some ((as.length:Nat):Int))=as:=by rw [sE _ _ (by omega),List.take_left]
   have i1:HT.bD (as++e.leads.map V.int).length (as++e.leads.map V.int).length (some ((as.length:Nat):Int))=min as.length (as++e.leads.map V.int).length:=HT.cJ _ _ _
   have last:∀(a1:Addr) (H1:Hp),ah H H1->H1 a1=some (.tup as)->∃p1 ys,[V.ref l]=[.ref p1]/\aw K H1 p1 ys/\∀t1,H1 t1=none->vt K (.ref a1) (.ref t1) (upd H1 t1 (.tup ys)) Q:=fun a1 H1 s1 g1=>by
     refine ⟨l,_,rfl,aw.of (s1 _ _ hl),fun t1 ht1=>?_⟩
     have s2:=ag ht1 (.tup (ls.map V.int))
     have g2:(upd H1 t1 (.tup (ls.map V.int))) t1=some (.tup (ls.map V.int)):=ae
     generalize upd H1 t1 (.tup (ls.map V.int))=H2 at s2 g2 ⊢
     refine ⟨a1,t1,_,_,rfl,rfl,aC.of (s2 _ _ g1),aC.of g2,asn,GY (show _<=1000 by rw [GR]; omega) (by decide),fun z=>?_,fun _ p' hp'=>?_⟩
     · refine q _ _ (aa s1 s2) (mk ls H2 a1 (ah.tk (aa s1 s2)) ll ?_)
       rw [z,Hm]
       exact s2 _ _ g1
     · exact q _ _ (aA (aa s1 s2) hp') (mk ls _ p' (ah.tk (aA (aa s1 s2) hp')) ll ae)
   by_cases hw:e.leads=[]
   · refine .inr ⟨p,_,rfl,aC.of hp,⟨rfl,?_⟩,?_⟩
     · rw [i1,lt,hw]
       show min as.length (as.length + 0)=as.length + 0
       omega
     · have hp2:H p=some (.tup as):=by rw [hp,hw]; simp
       exact ⟨_,rfl,last p H (same_refl _) hp2⟩
   · refine .inl ⟨p,_,rfl,aC.of hp,fun z=>?_,fun a1 ha1=>?_⟩
     · have z2:=z.2
       have:0 < e.leads.length:=by
         cases h:e.leads with
         | nil=>exact absurd h hw
         | cons a l=>exact Iz _
       rw [i1,lt] at z2
       omega
     · rw [ec]
       exact ⟨_,rfl,last a1 _ (ag ha1 _) ae⟩
theorem tK (s:Src K mg "led_anew" sLedA)(m_len:mg "len"=none)(m_tuple:mg "tuple"=none):aJ P w K mg base "led_anew" ["node","leads"] 1 mi:=
 let ⟨f,fd,F,m⟩:=s
 ⟨f,fd,xw F m_len m_tuple,F.kp,cU F fun _ _ _ _ _ _ _ _=>rfl,m⟩
def iV:Sp:=fun vs H Q _=>∃(p n B I N:Addr) (vb vi:List V),vs=[.ref p,.ref n]/\H p=some (.tup [.ref B,.ref I,.ref N])/\H B=some (.lst vb)/\H I=some (.lst vi)/\∀(p' B' I':Addr) (H':Hp),ah H H'->H' p'=some (.tup [.ref B',.ref I',.ref n])->H' B'=some (.lst vb)->H' I'=some (.lst vi)->Q (.ref p') H'
theorem yv:aq ["program","nodes"] ["program","nodes"] (af sWithN):=⟨rfl,rfl,rfl,by decide +kernel,rfl,by decide +kernel,by decide +kernel⟩
theorem hU:(af sWithN).names.lookup (GQ "list")=some .globalImplicit:=by decide +kernel
theorem uX {f:Addr}{fd:FuncData}(F:bI K "with_nodes" "with_nodes" sWithN f fd)(m_list:mg "list"=none):aL P w K mg base CX0 1 f fd ["program","nodes"] iV:=by
 refine F.ok yv (fun vs H Q E h=>?_) (fun cdv A outer s H vs Q E hr h=>?_)
 · obtain ⟨p,n,B,I,N,vb,vi,rfl,_⟩:=h
   rfl
 · obtain ⟨p,n,B,I,N,vb,vi,rfl,hp,hB,hI,q⟩:=h
   refine cH ⟨_,(K8 (Lc (Lg (K1 (Lw Mh hU m_list (by decide +kernel) (K1 (La Li (K0 0) K4) K3)) (K1 (Lw Mh hU m_list (by decide +kernel) (K1 (La Li (K0 0) K4) K3)) (K1 (K0 1) K3)))))),?_⟩
   refine ⟨_,rfl,p,_,_,_,rfl,rfl,aC.of hp,rfl,B,_,rfl,.inl (aw.of hB),fun B' hB'=>?_⟩
   have sb:ah H (upd H B' (.lst vb)):=ag hB' _
   have gb:(upd H B' (.lst vb)) B'=some (.lst vb):=ae
   generalize upd H B' (.lst vb)=H1 at sb gb ⊢
   refine ⟨_,rfl,p,_,_,_,rfl,rfl,aC.of (sb _ _ hp),rfl,I,_,rfl,.inl (aw.of (sb _ _ hI)),fun I' hI'=>?_⟩
   have si:ah H1 (upd H1 I' (.lst vi)):=ag hI' _
   have gi:(upd H1 I' (.lst vi)) I'=some (.lst vi):=ae
   generalize upd H1 I' (.lst vi)=H2 at si gi ⊢
   refine ⟨_,rfl,Nv,fun p' hp'=>?_⟩
   have s3:=ag hp' (.tup [.ref B',.ref I',.ref n])
   exact q p' B' I' _ (aa sb (aa si s3)) ae (s3 _ _ (si _ _ gb)) (s3 _ _ gi)
theorem qP (s:Src K mg "with_nodes" sWithN)(m_list:mg "list"=none):aJ P w K mg base "with_nodes" ["program","nodes"] 1 iV:=
 let ⟨f,fd,F,m⟩:=s
 ⟨f,fd,uX F m_list,F.kp,cU F fun _ _ _ _ _ _ _ _=>rfl,m⟩
def ee (n:Nat):Sp:=fun vs H Q _=>∃(x:Str) (l:Addr) (us:List V),vs=[.str x,.ref l]/\H l=some (.lst us)/\1<=us.length/\us.length < n/\n<=900/\∀(v:V) (H':Hp),ah H H'->Q v H'
theorem m7 {f:Addr}{fd:FuncData}:aL P w K mg base CX0 1 f fd ["word","parts"] (ee 0):=by
 have no:∀vs H Q E,¬ ee 0 vs H Q E:=fun vs H Q E h=>by
   obtain ⟨x,l,us,_,_,_,h,_⟩:=h
   omega
 exact ⟨fun vs H Q E h=>absurd h (no vs H Q E),fun A outer s H args us vs Q E _ _ _ _ h=>absurd h (no vs H Q E)⟩
theorem nh:aq ["word","parts","half"] ["word","parts"] (af sJoined):=⟨rfl,rfl,rfl,by decide +kernel,rfl,by decide +kernel,by decide +kernel⟩
theorem cC:(af sJoined).names.lookup (GQ "joined_by")=some .globalImplicit:=by decide +kernel
theorem hJ:(af sJoined).names.lookup (GQ "len")=some .globalImplicit:=by decide +kernel
theorem zR (xs:List V)(k:Nat)(h:k<=xs.length):dO xs (some (k:Int)) none=xs.drop k:=by
 unfold dO
 have e2:HT.bD xs.length 0 (some ((k:Nat):Int))=min k xs.length:=HT.cJ _ _ _
 rw [e2,HT.fY,JG h,KD (by rw [Ir]; omega)]
theorem rj {n:Nat}{f:Addr}{fd:FuncData}(F:bI K "joined_by" "joined_by" sJoined f fd)(m_len:mg "len"=none)(G:aJ P w K mg base "joined_by" ["word","parts"] (n + 1) (ee n)):aL P w K mg base CX0 (n + 1 + 1) f fd ["word","parts"] (ee (n + 1)):=by
 refine F.ok nh (fun vs H Q E h=>?_) (fun cdv A outer s H vs Q E hr h=>?_)
 · obtain ⟨x,l,us,rfl,_⟩:=h
   rfl
 · obtain ⟨x,l,us,rfl,hl,l1,ln,n9,q⟩:=h
   refine cH ⟨_,(K6 (Lf (Lb Ll (Lm Lp hJ m_len G1 (K1 (K0 1) K3)) K4) (K8 (Lc (La Lq (K0 1) K4))) Lh)
     (K6 (Ld 2 nh.nd (K5 Ls (Lm Lp hJ m_len G1 (K1 (K0 1) K3)) K4))
     (K8 (Lc (Lg (K1 (K0 0) (K1 (K9 G hr cC (K1 (K0 0) (K1 (L3.DY (K0 1) (K0 2)) K3))) (K1 (K9 G hr cC (K1 (K0 0) (K1 (L3.DW (K0 1) (K0 2)) K3))) K3)))))))),?_⟩
   refine ar fun Rk kR=>?_
   refine ⟨_,rfl,l,_,rfl,.inl (aw.of hl),rfl,_,rfl,?_⟩
   refine aH (fun c=>?_) (fun c=>?_)
   · match us,hl,l1 with
     | u :: us,hl,l1=>exact ⟨_,rfl,l,_,_,_,rfl,rfl,aw.of hl,km,q _ _ (same_refl _)⟩
   have c1:us.length≠1:=fun z=>c (decide_eq_true (by rw [z]; rfl))
   refine kR _ _ ?_
   refine ar fun Rk kR=>?_
   refine ⟨_,rfl,l,_,rfl,.inl (aw.of hl),_,_,rfl,rfl,⟨by decide,by decide +kernel⟩,?_⟩
   refine ao ?_
   refine kR _ _ ?_
   refine aB [some (.str x),some (.ref l),some (.int ((us.length / 2:Nat):Int))] (by show [some (V.str x),some (V.ref l),some (V.int ((us.length:Int) / 2))]=_; rw [show (us.length:Int) / 2=((us.length / 2:Nat):Int) by omega]) ?_
   refine ⟨_,rfl,_,rfl,_,rfl,_,rfl,_,rfl,l,_,rfl,aw.of hl,fun a1 ha1=>?_⟩
   rw [sE _ _ (by omega)]
   have s1:=ag ha1 (.lst (us.take (us.length / 2)))
   have g1:(upd H a1 (.lst (us.take (us.length / 2)))) a1=some (.lst (us.take (us.length / 2))):=ae
   generalize upd H a1 (.lst (us.take (us.length / 2)))=H1 at s1 g1 ⊢
   refine ⟨x,a1,_,rfl,g1,by rw [G8]; omega,by rw [G8]; omega,by omega,fun v1 H2 s2=>?_⟩
   refine ⟨_,rfl,_,rfl,_,rfl,_,rfl,l,_,rfl,aw.of (s2 _ _ (s1 _ _ hl)),fun a2 ha2=>?_⟩
   rw [zR _ _ (by omega)]
   have s3:=ag ha2 (.lst (us.drop (us.length / 2)))
   have g3:(upd H2 a2 (.lst (us.drop (us.length / 2)))) a2=some (.lst (us.drop (us.length / 2))):=ae
   generalize upd H2 a2 (.lst (us.drop (us.length / 2)))=H3 at s3 g3 ⊢
   refine ⟨x,a2,_,rfl,g3,by rw [Ir]; omega,by rw [Ir]; omega,by omega,fun v2 H4 s4=>⟨Nv,fun p hp=>?_⟩⟩
   exact q _ _ (aA (aa (aa s1 s2) (aa s3 s4)) hp)
theorem nZ (s:Src K mg "joined_by" sJoined)(m_len:mg "len"=none):∀n:Nat,aJ P w K mg base "joined_by" ["word","parts"] (n + 1) (ee n):=by
 obtain ⟨f,fd,F,m⟩:=s
 have b:Binds K fd ["word","parts"] []:=cU F fun _ _ _ _ _ _ _ _=>rfl
 intro n
 have all:aL P w K mg base CX0 (n + 1) f fd ["word","parts"] (ee n):=by
   induction n with
   | zero=>exact m7
   | succ n ih=>exact rj F m_len ⟨f,fd,ih,F.kp,b,m⟩
 exact ⟨f,fd,all,F.kp,b,m⟩
def iN:Sp:=fun vs H Q _=>∃(l:Addr) (us:List V),vs=[.ref l]/\H l=some (.lst us)/\1<=us.length/\us.length<=5/\∀(v:V) (H':Hp),ah H H'->Q v H'
theorem yp:aq ["conditions"] ["conditions"] (af sAllOf):=⟨rfl,rfl,rfl,by decide +kernel,rfl,by decide +kernel,by decide +kernel⟩
theorem gC:(af sAllOf).names.lookup (GQ "joined_by")=some .globalImplicit:=by decide +kernel
theorem uL {f:Addr}{fd:FuncData}(F:bI K "all_of" "all_of" sAllOf f fd)(J:aJ P w K mg base "joined_by" ["word","parts"] 7 (ee 6)):aL P w K mg base CX0 8 f fd ["conditions"] iN:=by
 refine F.ok yp (fun vs H Q E h=>?_) (fun cdv A outer s H vs Q E hr h=>?_)
 · obtain ⟨l,us,rfl,_⟩:=h
   rfl
 · obtain ⟨l,us,rfl,hl,l1,l5,q⟩:=h
   refine cH ⟨_,(K8 (Lc (K9 J hr gC (K1 K7 (K1 (K0 0) K3))))),?_⟩
   exact ⟨_,rfl,"both",l,us,rfl,hl,l1,by omega,by decide,q⟩
theorem qF (s:Src K mg "all_of" sAllOf)(J:aJ P w K mg base "joined_by" ["word","parts"] 7 (ee 6)):aJ P w K mg base "all_of" ["conditions"] 8 iN:=
 let ⟨f,fd,F,m⟩:=s
 ⟨f,fd,uL F J,F.kp,cT F fun _ _ _ _ _ _ _=>rfl,m⟩
def mf:Sp:=fun vs H Q _=>∃(l:Addr) (ns:List Str),vs=[.ref l]/\H l=some (.lst (ns.map V.str))/\ns.length<=4/\∀(v:V) (H':Hp),ah H H'->Q v H'
theorem BL:aq ["names"] ["names"] (af sBoxS):=⟨rfl,rfl,rfl,by decide +kernel,rfl,by decide +kernel,by decide +kernel⟩
theorem qp:(af sBoxS).names.lookup (GQ "YES")=some .globalImplicit:=by decide +kernel
theorem lF:(af sBoxS).names.lookup (GQ "all_of")=some .globalImplicit:=by decide +kernel
theorem xt {tY:Addr}{f:Addr}{fd:FuncData}(F:bI K "boxes_same" "boxes_same" sBoxS f fd)(mY:mg "YES"=some (.ref tY))(AO:aJ P w K mg base "all_of" ["conditions"] 8 iN):aL P w K mg base CX0 9 f fd ["names"] mf:=by
 refine F.ok BL (fun vs H Q E h=>?_) (fun cdv A outer s H vs Q E hr h=>?_)
 · obtain ⟨l,ns,rfl,_⟩:=h
   rfl
 · obtain ⟨l,ns,rfl,hl,n4,q⟩:=h
   refine cH ⟨_,(K8 (Lc (K9 AO hr lF (K1 (K5 Ma (Lj (K1 (Lz (w:=.ref tY) qp mY rfl) K3)) (LF [none] ["name"] (show az _ (af sBoxS) from ⟨rfl,by decide +kernel,by decide +kernel,by decide +kernel⟩) (by rfl) (Lr (K0 0)) (fun _ _ _ _ _=>⟨(Le 0 (show (["name"]:List Str).Nodup from by decide +kernel)),Lu,(Lg (K1 K7 (K1 (Lg (K1 K7 (K1 (K0 0) K3))) (K1 (Lg (K1 K7 (K1 (K0 0) K3))) K3))))⟩))) K3)))),?_⟩
   refine ⟨Nt,fun l1 hl1=>?_⟩
   have s1:ah H (upd H l1 (.lst [.ref tY])):=ag hl1 _
   have g1:(upd H l1 (.lst [.ref tY])) l1=some (.lst [.ref tY]):=ae
   generalize upd H l1 (.lst [.ref tY])=H1 at s1 g1 ⊢
   have hl':=s1 _ _ hl
   refine ⟨_,rfl,l,rfl,⟨_,aw.of hl'⟩,fun D hD=>?_⟩
   refine aT (xs:=ns.map V.str) (fun i Hx=>ah H1 Hx/\∃us,Hx D=some (.lst us)/\us.length=i) ⟨ag hD _,[],ae,rfl⟩ (fun i Hx _ z=>aw.of (z.1 _ _ hl')) (fun i x0 Hx hx z=>?_) (fun Hx z=>?_)
   · obtain ⟨sx,us,gD,ul⟩:=z
     have hil:=(List.getElem?_eq_some_iff.mp hx).1
     rw [GR] at hil
     refine ao ?_
     refine bE (A:=fun H5=>bS _ D _ H5 _) ?_
     refine ⟨_,rfl,Nu,fun a1 ha1=>⟨_,rfl,Nu,fun a2 ha2=>⟨Nv,fun a3 ha3=>?_⟩⟩⟩
     have sa:=aa (ag ha1 _) (aa (ag ha2 _) (ag ha3 (.tup [.str "same",.ref a1,.ref a2])))
     exact ⟨us,sa _ _ gD,aM (by omega),aK (Pv:=fun i Hx=>ah H1 Hx/\∃us,Hx D=some (.lst us)/\us.length=i) (by repeat' constructor) (by rw [GR]; exact hil) ⟨aG (aa sx sa) hD,us++[.ref a3],ae,by rw [GU,ul]; rfl⟩⟩
   obtain ⟨sx,us,gD,ul⟩:=z
   rw [GR] at ul
   refine ⟨l1,D,_,_,rfl,rfl,sx _ _ g1,gD,small (by rw [Hq]; omega),fun r hr2=>?_⟩
   refine ⟨r,_,rfl,ae,by rw [GU,Hq]; omega,by rw [GU,Hq]; omega,fun v H' s'=>?_⟩
   exact q v H' (aa (aA (aa s1 sx) hr2) s')
theorem tH {tY:Addr}(s:Src K mg "boxes_same" sBoxS)(mY:mg "YES"=some (.ref tY))(AO:aJ P w K mg base "all_of" ["conditions"] 8 iN):aJ P w K mg base "boxes_same" ["names"] 9 mf:=
 let ⟨f,fd,F,m⟩:=s
 ⟨f,fd,xt F mY AO,F.kp,cT F fun _ _ _ _ _ _ _=>rfl,m⟩
def me:Sp:=fun vs H Q _=>∃(p B I N:Addr) (vb:List V) (bs:List (Str×Int)),vs=[.ref p]/\H p=some (.tup [.ref B,.ref I,.ref N])/\H B=some (.lst vb)/\Paired (bT H) vb bs/\bs.length<=4/\∀(v:V) (H':Hp),ah H H'->Q v H'
theorem BK:aq ["program"] ["program"] (af sAllS):=⟨rfl,rfl,rfl,by decide +kernel,rfl,by decide +kernel,by decide +kernel⟩
theorem gF:(af sAllS).names.lookup (GQ "boxes_same")=some .globalImplicit:=by decide +kernel
theorem xr {f:Addr}{fd:FuncData}(F:bI K "all_same" "all_same" sAllS f fd)(BS:aJ P w K mg base "boxes_same" ["names"] 9 mf):aL P w K mg base CX0 10 f fd ["program"] me:=by
 refine F.ok BK (fun vs H Q E h=>?_) (fun cdv A outer s H vs Q E hr h=>?_)
 · obtain ⟨p,B,I,N,vb,bs,rfl,_⟩:=h
   rfl
 · obtain ⟨p,B,I,N,vb,bs,rfl,hp,hB,pb,b4,q⟩:=h
   have vl:=Paired.length pb
   refine cH ⟨_,(K8 (Lc (K9 BS hr gF (K1 (LF [none,none] ["name","size"] (show az _ (af sAllS) from ⟨rfl,by decide +kernel,by decide +kernel,by decide +kernel⟩) (by rfl) (Lr (La Li (K0 0) K4)) (fun _ _ _ _ _=>⟨(LH 2 (Ln (Le 0 (show (["name","size"]:List Str).Nodup from by decide +kernel)) (Ln (Le 1 (show (["name","size"]:List Str).Nodup from by decide +kernel)) Lx))),Lu,(K0 0)⟩)) K3)))),?_⟩
   refine ⟨_,rfl,p,_,_,_,rfl,rfl,aC.of hp,rfl,B,rfl,⟨_,aw.of hB⟩,fun D hD=>?_⟩
   refine aT (xs:=vb) (fun i Hx=>ah H Hx/\Hx D=some (.lst (((bs.take i).map (·.1)).map V.str))) ⟨ag hD _,ae⟩ (fun i Hx _ z=>aw.of (z.1 _ _ hB)) (fun i x0 Hx hx z=>?_) (fun Hx z=>?_)
   · obtain ⟨sx,gD⟩:=z
     have hil:=(List.getElem?_eq_some_iff.mp hx).1
     obtain ⟨b,hbi,pp,rfl,hpp⟩:=Paired.get pb hx
     refine ⟨pp,_,rfl,aC.of (sx _ _ hpp),rfl,_,_,rfl,_,_,rfl,rfl,?_⟩
     refine bE (A:=fun H5=>bS _ D _ H5 _) ?_
     refine ⟨_,rfl,_,gD,aM (by rw [GR,GR,G8]; omega),aK (Pv:=fun i Hx=>ah H Hx/\Hx D=some (.lst (((bs.take i).map (·.1)).map V.str))) (by repeat' constructor) hil ⟨aG sx hD,?_⟩⟩
     rw [ae,Hl,hbi,G2,G2]
     rfl
   obtain ⟨sx,gD⟩:=z
   exact ⟨D,_,rfl,gD,by rw [GR,G8]; omega,fun v H' s'=>q v H' (aa sx s')⟩
theorem tG (s:Src K mg "all_same" sAllS)(BS:aJ P w K mg base "boxes_same" ["names"] 9 mf):aJ P w K mg base "all_same" ["program"] 10 me:=
 let ⟨f,fd,F,m⟩:=s
 ⟨f,fd,xr F BS,F.kp,cT F fun _ _ _ _ _ _ _=>rfl,m⟩
theorem aP.head {H:Hp}:∀{e:Np} {v:V},aP H v e->∃(p:Addr) (as:List V),v=.ref p/\H p=some (.tup (.str e.hd :: as))
 | .put _ _ _,_,⟨_,⟨p,h,a⟩,_⟩=>⟨p,_,h,a⟩
 | .say _ _,_,⟨_,⟨p,h,a⟩,_⟩=>⟨p,_,h,a⟩
 | .test _ _ _,_,⟨_,⟨p,h,a⟩,_⟩=>⟨p,_,h,a⟩
 | .pick _ _,_,⟨p,h,a⟩=>⟨p,_,h,a⟩
 | .fin,_,⟨p,h,a⟩=>⟨p,_,h,a⟩
def mj:Sp:=fun vs H Q _=>∃(p B I N:Addr) (vn:List V) (e:Np) (j:Nat) (n:Int) (u x:V),vs=[.ref p,.int (j:Int),.int n,u]/\H p=some (.tup [.ref B,.ref I,.ref N])/\H N=some (.lst vn)/\vn[j]? = some x/\aP H x e/\∀(v:V) (H':Hp),ah H H'->Q v H'
theorem vE:aq ["program","place","new_place","condition","who"] ["program","place","new_place","condition"] (af sLevE):=⟨rfl,rfl,rfl,by decide +kernel,rfl,by decide +kernel,by decide +kernel⟩
theorem lG:(af sLevE).names.lookup (GQ "NOUGHT")=some .globalImplicit:=by decide +kernel
theorem xx {tO:Addr}{f:Addr}{fd:FuncData}(F:bI K "level_entry" "level_entry" sLevE f fd)(mO:mg "NOUGHT"=some (.ref tO)):aL P w K mg base CX0 1 f fd ["program","place","new_place","condition"] mj:=by
 refine F.ok vE (fun vs H Q E h=>?_) (fun cdv A outer s H vs Q E hr h=>?_)
 · obtain ⟨p,B,I,N,vn,e,j,n,u,x,rfl,_⟩:=h
   rfl
 · obtain ⟨p,B,I,N,vn,e,j,n,u,x,rfl,hp,hN,hx,na,q⟩:=h
   obtain ⟨px,as,rfl,hpx⟩:=na.head
   refine cH ⟨_,(K6 (Ld 4 vE.nd (Mi (Lb Ll (La Li (La Lq (La Li (K0 0) K4) (K0 1)) K4) K7) K7 K7))
     (K8 (Lc (Lg (K1 (K0 1) (K1 (K0 2) (K1 (K0 3) (K1 (K0 4) (K1 (Lz (w:=.ref tO) lG mO rfl) K3))))))))),?_⟩
   refine ar fun Rk kR=>?_
   refine ⟨_,rfl,p,_,_,_,rfl,rfl,aC.of hp,rfl,_,rfl,N,_,_,_,rfl,rfl,aw.of hN,cA hx,px,_,_,_,rfl,rfl,aC.of hpx,km,rfl,_,rfl,?_⟩
   have fin:∀z:V,Rk [some (.ref p),some (.int (j:Int)),some (.int n),some u,some z] H:=fun z=>by
     refine kR _ _ ?_
     refine ⟨_,rfl,_,rfl,_,rfl,_,rfl,Nx,fun p5 hp5=>q _ _ (ag hp5 _)⟩
   refine aH (fun _=>?_) (fun _=>?_)
   · refine ao ?_
     exact fin _
   · refine ao ?_
     exact fin _
theorem tM {tO:Addr}(s:Src K mg "level_entry" sLevE)(mO:mg "NOUGHT"=some (.ref tO)):aJ P w K mg base "level_entry" ["program","place","new_place","condition"] 1 mj:=
 let ⟨f,fd,F,m⟩:=s
 ⟨f,fd,xx F mO,F.kp,zN F fun _ _ _ _ _ _ _ _ _ _=>rfl,m⟩
end
end TW
set_option Elab.async false
set_option linter.all false
set_option maxRecDepth 100000
set_option exponentiation.threshold 4000
set_option maxHeartbeats 1000000
namespace TW
open PySem L2
section
variable {P:Program}{w:World}{K:GP}{mg:Str->Option Value}{base:Heap}
/-! ### told_over -/
def rY (m h k i:Int)(l:Int):Int:=if l=h then (i + 1) % k * m + l else i * m + l
def zb (m h k:Int)(i:Nat)(e:Np):Np:=e.led (e.leads.map (rY m h k i))
def uZ (m h k:Int)(nds:List Np):Nat->List Np
 | 0=>[]
 | i + 1=>uZ m h k nds i++nds.map (zb m h k i)
theorem lX (m h k:Int)(nds:List Np):∀i,(uZ m h k nds i).length=i * nds.length
 | 0=>by simp [uZ]
 | i + 1=>by
   show (uZ m h k nds i++nds.map (zb m h k i)).length=_
   rw [GU,lX m h k nds i,GR,Nat.succ_mul]
theorem lY {m h k:Int}{nds:List Np}{e:Np}:∀{n},e∈uZ m h k nds n->∃i e0,i < n/\e0∈nds/\e=zb m h k i e0
 | 0,he=>nomatch he
 | n + 1,he=>by
   rcases List.mem_append.mp (show e∈uZ m h k nds n++nds.map (zb m h k n) from he) with z | z
   · obtain ⟨i,e0,a,b,c⟩:=lY z
     exact ⟨i,e0,by omega,b,c⟩
   · obtain ⟨e0,b,c⟩:=List.mem_map.mp z
     exact ⟨n,e0,by omega,b,c.symm⟩
def jP:Sp:=fun vs H Q _=>∃(p B I N:Addr) (vb vn:List V) (bs:List (Str×Int)) (ins:List Str) (nds:List Np) (h:Int) (k:Nat),vs=[.ref p,.int h,.int (k:Int)]/\H p=some (.tup [.ref B,.ref I,.ref N])/\ny H B I N vb vn bs ins nds/\bs.length<=4/\nds.length<=40/\0<=h/\h < (nds.length:Int)/\1<=k/\k<=8 /\
 ∀(q p' P' B' I' N':Addr) (vn':List V) (H':Hp),ah H H'->H' q=some (.tup [.ref p',.ref P'])->H' p'=some (.tup [.ref B',.ref I',.ref N'])->ny H' B' I' N' vb vn' bs ins (uZ (nds.length:Int) h (k:Int) nds k)->Q (.ref q) H'
theorem cp:aq ["program","head","times","many","same","told","paper","turn","own","behind","place","node","leads"] ["program","head","times"] (af sOver):=⟨rfl,rfl,rfl,by decide +kernel,rfl,by decide +kernel,by decide +kernel⟩
theorem jk:(af sOver).names.lookup (GQ "all_same")=some .globalImplicit:=by decide +kernel
theorem ip:(af sOver).names.lookup (GQ "enumerate")=some .globalImplicit:=by decide +kernel
theorem jm:(af sOver).names.lookup (GQ "leads_of")=some .globalImplicit:=by decide +kernel
theorem jn:(af sOver).names.lookup (GQ "led_anew")=some .globalImplicit:=by decide +kernel
theorem qw:(af sOver).names.lookup (GQ "len")=some .globalImplicit:=by decide +kernel
theorem fO:(af sOver).names.lookup (GQ "level_entry")=some .globalImplicit:=by decide +kernel
theorem mS:(af sOver).names.lookup (GQ "range")=some .globalImplicit:=by decide +kernel
theorem dD:(af sOver).names.lookup (GQ "refuse_no_nodes")=some .globalImplicit:=by decide +kernel
theorem gK:(af sOver).names.lookup (GQ "with_nodes")=some .globalImplicit:=by decide +kernel
theorem xA {f:Addr}{fd:FuncData}(F:bI K "told_over" "told_over" sOver f fd)(m_len:mg "len"=none)(m_range:mg "range"=none)(m_enumerate:mg "enumerate"=none)(RN0:aJ P w K mg base "refuse_no_nodes" ["program","numbers"] 1 pV)(AS:aJ P w K mg base "all_same" ["program"] 10 me)(LE0:aJ P w K mg base "leads_of" ["node"] 1 eI)(LD0:aJ P w K mg base "led_anew" ["node","leads"] 1 mi)(LV0:aJ P w K mg base "level_entry" ["program","place","new_place","condition"] 1 mj)(WN0:aJ P w K mg base "with_nodes" ["program","nodes"] 1 iV):aL P w K mg base CX0 11 f fd ["program","head","times"] jP:=by
 refine F.ok cp (fun vs H Q E h=>?_) (fun cdv A outer s H vs Q E hr h=>?_)
 · obtain ⟨p,B,I,N,vb,vn,bs,ins,nds,h0,k,rfl,_⟩:=h
   rfl
 · have RNN:=RN0.mono (show 1<=10 by decide)
   have LE:=LE0.mono (show 1<=10 by decide)
   have LD:=LD0.mono (show 1<=10 by decide)
   have LV:=LV0.mono (show 1<=10 by decide)
   have WN:=WN0.mono (show 1<=10 by decide)
   obtain ⟨p,B,I,N,vb,vn,bs,ins,nds,h0,k,rfl,hp,pt,b4,n40,hh0,hh1,k1,k8,q⟩:=h
   have vnl:=Paired.length pt.pn
   refine cH ⟨_,(K6 (LA (K9 RNN hr dD (K1 (K0 0) (K1 (Lj (K1 (K0 1) K3)) K3))))
     (K6 (Mb (Lg (K1 (Lm Lp qw m_len G1 (K1 (La Li (K0 0) K4) K3)) (K1 (K9 AS hr jk (K1 (K0 0) K3)) (K1 (Lj K3) (K1 (Lj K3) K3))))) (LH 4 (Ln (Le 3 cp.nd) (Ln (Le 4 cp.nd) (Ln (Le 5 cp.nd) (Ln (Le 6 cp.nd) Lx))))))
     (K6 (LG (Mf mS m_range (K1 (K0 2) K3)) (Le 7 cp.nd) (K6 (Mb (Lg (K1 (K5 Ly (K0 7) (K0 3)) (K1 (K5 Ly (K5 Lk (K5 Lo (K0 7) K4) (K0 2)) (K0 3)) K3))) (LH 2 (Ln (Le 8 cp.nd) (Ln (Le 9 cp.nd) Lx))))
     (K8 (LG (L3.iE ip m_enumerate (K1 (La Li (K0 0) K4) K3)) (LH 2 (Ln (Le 10 cp.nd) (Ln (Le 11 cp.nd) Lx))) (K6 (LY (i:=12) [none,some 1,some 9,some 8] ["lead","head","behind","own"] (show az _ (af sOver) from ⟨rfl,by decide +kernel,by decide +kernel,by decide +kernel⟩) (by rfl) (Lr (K9 LE hr jm (K1 (K0 11) K3))) (fun _ _ _ _ _=>⟨(Le 0 (show (["lead","head","behind","own"]:List Str).Nodup from by decide +kernel)),Lu,(Mi (Lb Ll (K0 0) (K0 1)) (K5 Lo (K0 2) (K0 0)) (K5 Lo (K0 3) (K0 0)))⟩) cp.nd)
     (K6 (LA (LS (K0 5) (K1 (K9 LD hr jn (K1 (K0 11) (K1 (K0 12) K3))) K3)))
     (K8 (LA (LS (K0 6) (K1 (K9 LV hr fO (K1 (K0 0) (K1 (K0 10) (K1 (K5 Lo (K0 8) (K0 10)) (K1 (K0 4) K3))))) K3))))))))))
     (K8 (Lc (Lg (K1 (K9 WN hr gK (K1 (K0 0) (K1 (K0 5) K3))) (K1 (K0 6) K3)))))))),?_⟩
   refine ar fun Rk kR=>?_
   refine ⟨_,rfl,_,rfl,Nt,fun l1 hl1=>?_⟩
   have s1:ah H (upd H l1 (.lst [.int h0])):=ag hl1 _
   have g1:(upd H l1 (.lst [.int h0])) l1=some (.lst [.int h0]):=ae
   generalize upd H l1 (.lst [.int h0])=H1 at s1 g1 ⊢
   refine ⟨p,l1,B,I,N,vn,h0,rfl,s1 _ _ hp,s1 _ _ pt.hN,g1,hh0,by omega,?_⟩
   refine kR _ _ ?_
   refine ar fun Rk kR=>?_
   refine ⟨_,rfl,p,_,_,_,rfl,rfl,aC.of (s1 _ _ hp),rfl,N,_,rfl,.inl (aw.of (s1 _ _ pt.hN)),?_⟩
   refine ⟨_,rfl,p,B,I,N,vb,bs,rfl,s1 _ _ hp,s1 _ _ pt.hB,Paired.mapP pt.pb fun _ _ z=>Tp.keep (ah.tk s1) z,b4,fun sm H2 s2=>?_⟩
   refine ⟨Nr,fun T hT=>?_⟩
   have sT:ah H2 (upd H2 T (.lst [])):=ag hT _
   have gT:(upd H2 T (.lst [])) T=some (.lst []):=ae
   generalize upd H2 T (.lst [])=H3 at sT gT ⊢
   refine ⟨Nr,fun R hR=>?_⟩
   have sR:ah H3 (upd H3 R (.lst [])):=ag hR _
   have gR:(upd H3 R (.lst [])) R=some (.lst []):=ae
   generalize upd H3 R (.lst [])=H4 at sR gR ⊢
   have TR:T≠R:=ai gT hR
   have s12:=aa s1 s2
   have nT:=aE s12 hT
   have nR:=aE (aa s12 sT) hR
   refine ⟨Nw,fun q4 hq4=>?_⟩
   have s4:=ag hq4 (.tup [.int (vn.length:Int),sm,.ref T,.ref R])
   have g4:(upd H4 q4 (.tup [.int (vn.length:Int),sm,.ref T,.ref R])) q4=some (.tup [.int (vn.length:Int),sm,.ref T,.ref R]):=ae
   generalize upd H4 q4 (.tup [.int (vn.length:Int),sm,.ref T,.ref R])=H5 at s4 g4 ⊢
   refine ⟨q4,_,rfl,aC.of g4,rfl,_,_,rfl,_,_,rfl,_,_,rfl,_,_,rfl,rfl,?_⟩
   refine kR _ _ ?_
   refine aB [some (.ref p),some (.int h0),some (.int (k:Int)),some (.int (nds.length:Int)),some (sm),some (.ref T),some (.ref R),none,none,none,none,none,none] (by rw [← vnl]; rfl) ?_
   have s05:=aa (aa (aa s12 sT) sR) s4
   have gT5:=s4 _ _ (sR _ _ gT)
   have gR5:=s4 _ _ gR
   clear g1 g4 s1 s2 sT sR gT gR s4 s12 hq4 hT hR
   refine ar fun Rk kR=>?_
   refine ⟨_,rfl,(k:Int),rfl,by omega,by omega,?_⟩
   refine c4 (lo:=0) (n:=(k:Int).toNat) (fun i σ Hx=>(∃o7 o8 o9 o10 o11 o12,σ=[some (.ref p),some (.int h0),some (.int (k:Int)),some (.int (nds.length:Int)),some (sm),some (.ref T),some (.ref R),o7,o8,o9,o10,o11,o12])/\ah H Hx/\∃us ps,Hx T=some (.lst us)/\Paired (aP Hx) us (uZ (nds.length:Int) h0 (k:Int) nds i)/\Hx R=some (.lst ps)/\ps.length=us.length) ⟨⟨_,_,_,_,_,_,rfl⟩,s05,[],[],gT5,.nil,gR5,rfl⟩ (fun i σ Hx hi z=>?_) (fun σ Hx z=>?_)
   · obtain ⟨⟨o7,o8,o9,o10,o11,o12,rfl⟩,sx,us,ps,gT,pu,gR,pl⟩:=z
     have hi:i < k:=by omega
     refine ao ?_
     refine aB [some (.ref p),some (.int h0),some (.int (k:Int)),some (.int (nds.length:Int)),some (sm),some (.ref T),some (.ref R),some (.int (0 + (i:Int))),o8,o9,o10,o11,o12] rfl ?_
     have w0:=aO (k:=0 + (i:Int) + 1) (n:=(k:Int)) (by omega)
     have w1:=aN (k:=0 + (i:Int) + 1) (n:=(k:Int)) (by omega)
     refine ar fun Rj kj=>?_
     refine ⟨_,rfl,_,rfl,_,_,rfl,rfl,.inl ⟨by omega,by omega⟩,_,rfl,_,_,rfl,rfl,_,rfl,_,_,rfl,rfl,(by omega),_,rfl,_,_,rfl,rfl,.inl ⟨by have:=w0; have:=w1; omega,by have:=w0; have:=w1; omega⟩,Nu,fun q2 hq2=>?_⟩
     have s2:=ag hq2 (.tup [.int ((0 + (i:Int)) * (nds.length:Int)),.int ((0 + (i:Int) + 1) % (k:Int) * (nds.length:Int))])
     have g2:(upd Hx q2 (.tup [.int ((0 + (i:Int)) * (nds.length:Int)),.int ((0 + (i:Int) + 1) % (k:Int) * (nds.length:Int))])) q2=some (.tup [.int ((0 + (i:Int)) * (nds.length:Int)),.int ((0 + (i:Int) + 1) % (k:Int) * (nds.length:Int))]):=ae
     refine ⟨q2,_,rfl,aC.of g2,rfl,_,_,rfl,_,_,rfl,rfl,?_⟩
     refine kj _ (upd Hx q2 (.tup [.int ((0 + (i:Int)) * (nds.length:Int)),.int ((0 + (i:Int) + 1) % (k:Int) * (nds.length:Int))])) ?_
     generalize upd Hx q2 (.tup [.int ((0 + (i:Int)) * (nds.length:Int)),.int ((0 + (i:Int) + 1) % (k:Int) * (nds.length:Int))])=Hg at s2 g2 ⊢
     replace pu:Paired (aP Hg) us _:=Paired.mapP pu fun _ _ z=>aP.keep (ah.tk s2) z
     replace sx:=aa sx s2
     replace gT:=s2 _ _ gT
     replace gR:=s2 _ _ gR
     clear g2 s2 hq2
     refine aB [some (.ref p),some (.int h0),some (.int (k:Int)),some (.int (nds.length:Int)),some (sm),some (.ref T),some (.ref R),some (.int (0 + (i:Int))),some (.int ((0 + (i:Int)) * (nds.length:Int))),some (.int ((0 + (i:Int) + 1) % (k:Int) * (nds.length:Int))),o10,o11,o12] rfl ?_
     refine ⟨_,rfl,p,_,_,_,rfl,rfl,aC.of (sx _ _ hp),rfl,N,rfl,⟨_,aw.of (sx _ _ pt.hN)⟩,?_⟩
     refine sU (xs:=vn) (fun j σ Hx=>(∃o10 o11 o12,σ=[some (.ref p),some (.int h0),some (.int (k:Int)),some (.int (nds.length:Int)),some (sm),some (.ref T),some (.ref R),some (.int (0 + (i:Int))),some (.int ((0 + (i:Int)) * (nds.length:Int))),some (.int ((0 + (i:Int) + 1) % (k:Int) * (nds.length:Int))),o10,o11,o12])/\ah H Hx/\∃us ps,Hx T=some (.lst us)/\Paired (aP Hx) us (uZ (nds.length:Int) h0 (k:Int) nds i++(nds.take j).map (zb (nds.length:Int) h0 (k:Int) i))/\Hx R=some (.lst ps)/\ps.length=us.length) ⟨⟨_,_,_,rfl⟩,sx,us,ps,gT,by rw [Kn,IH,Hm]; exact pu,gR,pl⟩ (fun j σ Hx _ z=>aw.of (z.2.1 _ _ pt.hN)) (fun j x0 pp σ Hx hx z hpp=>?_) (fun σ Hx z=>?_)
     · obtain ⟨⟨o10,o11,o12,rfl⟩,sx,us,ps,gT,pu,gR,pl⟩:=z
       have ul:=Paired.length pu
       rw [GU,lX,GR,G8] at ul
       have hjl:j < vn.length:=(List.getElem?_eq_some_iff.mp hx).1
       have ubd:us.length<=360:=by
         have:i * nds.length<=8 * 40:=Ky (by omega) n40
         omega
       obtain ⟨e0,hei,na⟩:=Paired.get pt.pn hx
       have sp:=ag hpp (.tup [.int (j:Nat),x0])
       have gp:(upd Hx pp (.tup [.int (j:Nat),x0])) pp=some (.tup [.int (j:Nat),x0]):=ae
       generalize upd Hx pp (.tup [.int (j:Nat),x0])=Ha at sp gp ⊢
       refine ⟨pp,_,rfl,aC.of gp,rfl,_,_,rfl,_,_,rfl,rfl,?_⟩
       refine aB [some (.ref p),some (.int h0),some (.int (k:Int)),some (.int (nds.length:Int)),some (sm),some (.ref T),some (.ref R),some (.int (0 + (i:Int))),some (.int ((0 + (i:Int)) * (nds.length:Int))),some (.int ((0 + (i:Int) + 1) % (k:Int) * (nds.length:Int))),some (.int (j:Nat)),some (x0),o12] rfl ?_
       refine ar fun Rj kj=>?_
       refine ⟨_,rfl,x0,e0,rfl,aP.keep (ah.tk (aa sx sp)) na,fun l Hb sb gl=>?_⟩
       have sxb:=aa sx (aa sp sb)
       have spb:=aa sp sb
       have gTb:=spb _ _ gT
       have gRb:=spb _ _ gR
       have pub:Paired (aP Hb) us _:=Paired.mapP pu fun _ _ z=>aP.keep (ah.tk spb) z
       clear gp
       refine ⟨l,rfl,⟨_,aw.of gl⟩,fun D hD=>?_⟩
       refine aT (xs:=e0.leads.map V.int) (fun (jj:Nat) Hx=>ah Hb Hx/\Hx D=some (.lst (((e0.leads.take jj).map (rY (nds.length:Int) h0 (k:Int) i)).map V.int))) ⟨ag hD _,ae⟩ (fun jj Hx _ z=>aw.of (z.1 _ _ gl)) (fun jj y0 Hx hy z=>?_) (fun Hx z=>?_)
       · obtain ⟨sc,gD⟩:=z
         have hjj:=(List.getElem?_eq_some_iff.mp hy).1
         obtain ⟨ld,hld,rfl⟩:=bC hy
         have l2:=e0.leads2
         refine ao ?_
         refine bE (A:=fun H5=>bS _ D _ H5 _) ?_
         refine ⟨_,rfl,_,rfl,rfl,_,rfl,?_⟩
         refine aH (fun c=>?_) (fun c=>?_)
         · refine ⟨_,rfl,_,rfl,_,_,rfl,rfl,?_⟩
           refine ⟨_,gD,aM (by rw [GR,GR,G8]; omega),aK (Pv:=fun (jj:Nat) Hx=>ah Hb Hx/\Hx D=some (.lst (((e0.leads.take jj).map (rY (nds.length:Int) h0 (k:Int) i)).map V.int))) (by repeat' constructor) hjj ⟨aG sc hD,?_⟩⟩
           rw [ae,Hl,hld,G2,G2]
           congr 3
           show [V.int _]=[V.int (rY _ _ _ _ _)]
           unfold rY
           rw [if_pos (ue c),KZ]
         · refine ⟨_,rfl,_,rfl,_,_,rfl,rfl,?_⟩
           refine ⟨_,gD,aM (by rw [GR,GR,G8]; omega),aK (Pv:=fun (jj:Nat) Hx=>ah Hb Hx/\Hx D=some (.lst (((e0.leads.take jj).map (rY (nds.length:Int) h0 (k:Int) i)).map V.int))) (by repeat' constructor) hjj ⟨aG sc hD,?_⟩⟩
           rw [ae,Hl,hld,G2,G2]
           congr 3
           show [V.int _]=[V.int (rY _ _ _ _ _)]
           unfold rY
           rw [if_neg (fun z=>c (decide_eq_true (congrArg V.int z))),KZ]
       obtain ⟨sc,gD⟩:=z
       rw [GR,HB] at gD
       refine ao ?_
       refine kj _ _ ?_
       refine aB [some (.ref p),some (.int h0),some (.int (k:Int)),some (.int (nds.length:Int)),some (sm),some (.ref T),some (.ref R),some (.int (0 + (i:Int))),some (.int ((0 + (i:Int)) * (nds.length:Int))),some (.int ((0 + (i:Int) + 1) % (k:Int) * (nds.length:Int))),some (.int (j:Nat)),some (x0),some (.ref D)] rfl ?_
       have gTc:=sc _ _ gTb
       have gRc:=sc _ _ gRb
       have sxc:=aa sxb sc
       refine ar fun Rj kj=>?_
       refine ⟨_,rfl,.inl ⟨rfl,_,aw.of gTc⟩,_,rfl,_,rfl,x0,D,e0,_,rfl,aP.keep (ah.tk sxc) na,gD,by rw [GR],fun v' Hd sd nv=>?_⟩
       have gTd:=sd _ _ gTc
       have gRd:=sd _ _ gRc
       refine ⟨T,_,_,rfl,rfl,gTd,aM (by omega),?_⟩
       have tkT:TK Hd (upd Hd T (.lst (us++[v']))):=aZ gTd (fun _ z=>nomatch z)
       have gT6:(upd Hd T (.lst (us++[v']))) T=some (.lst (us++[v'])):=ae
       have gR6:(upd Hd T (.lst (us++[v']))) R=some (.lst ps):=by rw [aj TR.symm]; exact gRd
       have s6:ah H (upd Hd T (.lst (us++[v']))):=aG (aa sxc sd) nT
       have pu6:Paired (aP (upd Hd T (.lst (us++[v'])))) (us++[v']) (uZ (nds.length:Int) h0 (k:Int) nds i++(nds.take (j + 1)).map (zb (nds.length:Int) h0 (k:Int) i)):=by
         rw [Hl,hei,G2,← Il]
         exact (Paired.mapP pub fun _ _ z=>aP.keep ((ah.tk (aa sc sd)).trans tkT) z).snoc (aP.keep tkT nv)
       refine kj _ (upd Hd T (.lst (us++[v']))) ?_
       generalize upd Hd T (.lst (us++[v']))=He at gT6 gR6 s6 pu6 ⊢
       refine ⟨_,rfl,.inl ⟨rfl,_,aw.of gR6⟩,_,rfl,_,rfl,_,rfl,_,rfl,_,_,rfl,rfl,_,rfl,p,B,I,N,vn,e0,j,_,sm,x0,rfl,s6 _ _ hp,s6 _ _ pt.hN,hx,aP.keep (ah.tk s6) na,fun w Hf sf=>?_⟩
       have gRf:=sf _ _ gR6
       refine ⟨R,_,_,rfl,rfl,gRf,aM (by omega),?_⟩
       have tkR:TK Hf (upd Hf R (.lst (ps++[w]))):=aZ gRf (fun _ z=>nomatch z)
       refine ⟨⟨_,_,_,rfl⟩,aG (aa s6 sf) nR,us++[v'],ps++[w],by rw [aj TR]; exact sf _ _ gT6,Paired.mapP pu6 fun _ _ z=>aP.keep ((ah.tk sf).trans tkR) z,ae,by rw [GU,GU,pl]; rfl⟩
     · obtain ⟨⟨o10,o11,o12,rfl⟩,sx,us,ps,gT,pu,gR,pl⟩:=z
       rw [vnl,HB] at pu
       exact ⟨⟨_,_,_,_,_,_,rfl⟩,sx,us,ps,gT,pu,gR,pl⟩
   obtain ⟨⟨o7,o8,o9,o10,o11,o12,rfl⟩,sx,us,ps,gT,pu,gR,pl⟩:=z
   rw [IV] at pu
   refine kR _ _ ?_
   refine ⟨_,rfl,_,rfl,p,T,B,I,N,vb,_,rfl,sx _ _ hp,sx _ _ pt.hB,sx _ _ pt.hI,fun p' B' I' H' s' g1 g2 g3=>?_⟩
   refine ⟨_,rfl,Nu,fun q0 hq0=>?_⟩
   have s9:=ag hq0 (.tup [.ref p',.ref R])
   have sall:=aa (aa sx s') s9
   exact q q0 p' R B' I' T us _ sall ae (s9 _ _ g1) ⟨s9 _ _ g2,s9 _ _ g3,s9 _ _ (s' _ _ gT),Paired.mapP pt.pb fun _ _ z=>Tp.keep (ah.tk sall) z,Paired.mapP pu fun _ _ z=>aP.keep (ah.tk (aa s' s9)) z⟩
theorem tP (s:Src K mg "told_over" sOver)(m_len:mg "len"=none)(m_range:mg "range"=none)(m_enumerate:mg "enumerate"=none)(RN0:aJ P w K mg base "refuse_no_nodes" ["program","numbers"] 1 pV)(AS:aJ P w K mg base "all_same" ["program"] 10 me)(LE0:aJ P w K mg base "leads_of" ["node"] 1 eI)(LD0:aJ P w K mg base "led_anew" ["node","leads"] 1 mi)(LV0:aJ P w K mg base "level_entry" ["program","place","new_place","condition"] 1 mj)(WN0:aJ P w K mg base "with_nodes" ["program","nodes"] 1 iV):aJ P w K mg base "told_over" ["program","head","times"] 11 jP:=
 let ⟨f,fd,F,m⟩:=s
 ⟨f,fd,xA F m_len m_range m_enumerate RN0 AS LE0 LD0 LV0 WN0,F.kp,nH F fun _ _ _ _ _ _ _ _ _=>rfl,m⟩
end
end TW
set_option Elab.async false
set_option linter.all false
set_option maxRecDepth 100000
set_option exponentiation.threshold 4000
set_option maxHeartbeats 1000000
namespace TW
open PySem L2
section
variable {P:Program}{w:World}{K:GP}{mg:Str->Option Value}{base:Heap}
abbrev sAlk:Stmt:=top 69
/-! ### _law_alike -/
def Al (H:Hp):Nat->V->V->Prop
 | 0,_,_=>False
 | n + 1,x,y=>(∃i,x=.int i/\y=.int i)\/(∃s,x=.str s/\y=.str s)\/∃a b xs ys,x=.ref a/\y=.ref b/\((H a=some (.lst xs)/\H b=some (.lst ys))\/(H a=some (.tup xs)/\H b=some (.tup ys)))/\xs.length=ys.length/\xs.length<=900/\∀(i:Nat) (x y:V),xs[i]? = some x->ys[i]? = some y->Al H n x y
theorem Al.same {H H':Hp}(s:ah H H'):∀{n:Nat} {x y:V},Al H n x y->Al H' n x y
 | 0,_,_,h=>h
 | n + 1,x,y,h=>by
   rcases h with h | h | ⟨a,b,xs,ys,h1,h2,h3,h4,h5,h6⟩
   · exact .inl h
   · exact .inr (.inl h)
   · exact .inr (.inr ⟨a,b,xs,ys,h1,h2,h3.elim (fun z=>.inl ⟨s _ _ z.1,s _ _ z.2⟩) (fun z=>.inr ⟨s _ _ z.1,s _ _ z.2⟩),h4,h5,fun i x y hx hy=>Al.same s (h6 i x y hx hy)⟩)
def ic (n:Nat):Sp:=fun vs H Q _=>∃(x y:V),vs=[x,y]/\Al H n x y/\∀H',ah H H'->Q (.bl true) H'
theorem uv {f:Addr}{fd:FuncData}:aL P w K mg base CX0 1 f fd ["found","due"] (ic 0):=by
 have no:∀vs H Q E,¬ ic 0 vs H Q E:=fun vs H Q E h=>by
   obtain ⟨x,y,_,h,_⟩:=h
   exact h
 exact ⟨fun vs H Q E h=>absurd h (no vs H Q E),fun A outer s H args us vs Q E _ _ _ _ h=>absurd h (no vs H Q E)⟩
theorem DR:aq ["found","due"] ["found","due"] (af sAlk):=⟨rfl,rfl,rfl,by decide +kernel,rfl,by decide +kernel,by decide +kernel⟩
theorem qo:(af sAlk).names.lookup (GQ "bool")=some .globalImplicit:=by decide +kernel
theorem sX:(af sAlk).names.lookup (GQ "int")=some .globalImplicit:=by decide +kernel
theorem bf:(af sAlk).names.lookup (GQ "isinstance")=some .globalImplicit:=by decide +kernel
theorem je:(af sAlk).names.lookup (GQ "len")=some .globalImplicit:=by decide +kernel
theorem eG:(af sAlk).names.lookup (GQ "list")=some .globalImplicit:=by decide +kernel
theorem nU:(af sAlk).names.lookup (GQ "range")=some .globalImplicit:=by decide +kernel
theorem sY:(af sAlk).names.lookup (GQ "str")=some .globalImplicit:=by decide +kernel
theorem jf:(af sAlk).names.lookup (GQ "tuple")=some .globalImplicit:=by decide +kernel
theorem Az {n:Nat}{f:Addr}{fd:FuncData}(F:bI K "_law_alike" "_law_alike" sAlk f fd)(m_isinstance:mg "isinstance"=none)(m_len:mg "len"=none)(m_range:mg "range"=none)(m_bool:mg "bool"=none)(m_int:mg "int"=none)(m_str:mg "str"=none)(m_tuple:mg "tuple"=none)(m_list:mg "list"=none)(G:aJ P w K mg base "_law_alike" ["found","due"] (n + 1) (ic n)):aL P w K mg base CX0 (n + 1 + 1) f fd ["found","due"] (ic (n + 1)):=by
 refine F.ok DR (fun vs H Q E h=>?_) (fun cdv A outer s H vs Q E hr h=>?_)
 · obtain ⟨x,y,rfl,_⟩:=h
   rfl
 · obtain ⟨x,y,rfl,al,q⟩:=h
   refine cH ⟨_,(K6 (Lf (LQ (Lm Mm bf m_isinstance (by decide +kernel) (K1 (K0 1) (K1 (Lg (K1 (L4 (w:=.ty "tuple") jf m_tuple (by decide +kernel) rfl) (K1 (L4 (w:=.ty "list") eG m_list (by decide +kernel) rfl) K3))) K3)))) (K6 (Lf (Lv (LR (Lb LM (Lm Mm bf m_isinstance (by decide +kernel) (K1 (K0 0) (K1 (L4 (w:=.ty "list") eG m_list (by decide +kernel) rfl) K3))) (Lm Mm bf m_isinstance (by decide +kernel) (K1 (K0 1) (K1 (L4 (w:=.ty "list") eG m_list (by decide +kernel) rfl) K3)))) (LZ (Mg (LQ (Lm Mm bf m_isinstance (by decide +kernel) (K1 (K0 0) (K1 (Lg (K1 (L4 (w:=.ty "tuple") jf m_tuple (by decide +kernel) rfl) (K1 (L4 (w:=.ty "list") eG m_list (by decide +kernel) rfl) K3))) K3)))))))) (K8 (Lc LL)) Lh)
     (K6 (Lf (Lb LM (Lm Lp je m_len G1 (K1 (K0 0) K3)) (Lm Lp je m_len G1 (K1 (K0 1) K3))) (K8 (Lc LL)) Lh)
     (K8 (Lc (Ml (Mq (m:=2) (cO hr _ (by decide))) (LF [none,some 0,some 1] ["k","found","due"] (show az _ (af sAlk) from ⟨rfl,by decide +kernel,by decide +kernel,by decide +kernel⟩) (by rfl) (Mf nU m_range (K1 (Lm Lp je m_len G1 (K1 (K0 1) K3)) K3)) (fun _ _ _ _ _=>⟨(Le 0 (show (["k","found","due"]:List Str).Nodup from by decide +kernel)),(L3.if1 (Mg (LQ (K9 G hr (by rfl) (K1 (La L3.CU (K0 1) (K0 0)) (K1 (La L3.CU (K0 2) (K0 0)) K3)))))),(K0 0)⟩)) (Lj K3)))))) Lh)
     (K8 (Lc (L3.se (L3.Gw (Lm Mm bf m_isinstance (by decide +kernel) (K1 (K0 0) (K1 (L4 (w:=.ty "bool") qo m_bool (by decide +kernel) rfl) K3)))) (L3.se (Lm Mm bf m_isinstance (by decide +kernel) (K1 (K0 0) (K1 (Lg (K1 (L4 (w:=.ty "str") sY m_str (by decide +kernel) rfl) (K1 (L4 (w:=.ty "int") sX m_int (by decide +kernel) rfl) K3))) K3))) (L3.Dh (Ml Ll (K0 0) (K0 1)))))))),?_⟩
   refine ar fun Rk kR=>?_
   rcases al with ⟨i,rfl,rfl⟩ | ⟨z,rfl,rfl⟩ | ⟨a,b,xs,ys,rfl,rfl,hh,hl,h9,all⟩
   · refine ⟨_,rfl,Nu,fun t1 ht1=>?_⟩
     have sH1:ah H (upd H t1 (.tup [.ty "tuple",.ty "list"])):=ag ht1 _
     have gH1:(upd H t1 (.tup [.ty "tuple",.ty "list"])) t1=some (.tup [.ty "tuple",.ty "list"]):=ae
     generalize upd H t1 (.tup [.ty "tuple",.ty "list"])=H1 at sH1 gH1 ⊢
     refine .inr ⟨_,t1,["tuple","list"],_,false,rfl,gH1,lj.int _,rfl,_,rfl,aX ?_⟩
     refine kR _ _ ?_
     refine ⟨_,rfl,.inl ⟨_,"bool",_,false,rfl,TyOf.int _,rfl,_,rfl,_,rfl,bt ?_⟩⟩
     refine ⟨_,rfl,Nu,fun t2 ht2=>?_⟩
     have sH2:ah H1 (upd H1 t2 (.tup [.ty "str",.ty "int"])):=ag ht2 _
     have gH2:(upd H1 t2 (.tup [.ty "str",.ty "int"])) t2=some (.tup [.ty "str",.ty "int"]):=ae
     generalize upd H1 t2 (.tup [.ty "str",.ty "int"])=H2 at sH2 gH2 ⊢
     refine .inr ⟨_,t2,["str","int"],_,true,rfl,gH2,lj.int _,rfl,_,rfl,bt ?_⟩
     refine ⟨_,rfl,_,rfl,rfl,?_⟩
     rw [decide_eq_true rfl]
     exact q _ (aa sH1 sH2)
   · refine ⟨_,rfl,Nu,fun t1 ht1=>?_⟩
     have sH1:ah H (upd H t1 (.tup [.ty "tuple",.ty "list"])):=ag ht1 _
     have gH1:(upd H t1 (.tup [.ty "tuple",.ty "list"])) t1=some (.tup [.ty "tuple",.ty "list"]):=ae
     generalize upd H t1 (.tup [.ty "tuple",.ty "list"])=H1 at sH1 gH1 ⊢
     refine .inr ⟨_,t1,["tuple","list"],_,false,rfl,gH1,lj.str _,rfl,_,rfl,aX ?_⟩
     refine kR _ _ ?_
     refine ⟨_,rfl,.inl ⟨_,"bool",_,false,rfl,TyOf.str _,rfl,_,rfl,_,rfl,bt ?_⟩⟩
     refine ⟨_,rfl,Nu,fun t2 ht2=>?_⟩
     have sH2:ah H1 (upd H1 t2 (.tup [.ty "str",.ty "int"])):=ag ht2 _
     have gH2:(upd H1 t2 (.tup [.ty "str",.ty "int"])) t2=some (.tup [.ty "str",.ty "int"]):=ae
     generalize upd H1 t2 (.tup [.ty "str",.ty "int"])=H2 at sH2 gH2 ⊢
     refine .inr ⟨_,t2,["str","int"],_,true,rfl,gH2,lj.str _,rfl,_,rfl,bt ?_⟩
     refine ⟨_,rfl,_,rfl,rfl,?_⟩
     rw [decide_eq_true rfl]
     exact q _ (aa sH1 sH2)
   have lena:aw K H a xs\/aC K H a xs:=hh.elim (fun z=>.inl (aw.of z.1)) (fun z=>.inr (aC.of z.1))
   have lenb:aw K H b ys\/aC K H b ys:=hh.elim (fun z=>.inl (aw.of z.2)) (fun z=>.inr (aC.of z.2))
   obtain ⟨tb,lb,t1,t2,hk,ek⟩ : ∃(tb:Value) (lb:Bool),lj H (.ref b) tb/\lj H (.ref a) tb/\Jy K tb (.type "list")=some lb/\PySem.W.kitAny K tb (["tuple","list"].map IZ)=some true:=hh.elim (fun z=>⟨_,true,lj.lst z.2,lj.lst z.1,rfl,rfl⟩) (fun z=>⟨_,false,lj.tup z.2,lj.tup z.1,rfl,rfl⟩)
   have tyk:∀{H':Hp} {v:V},ah H H'->lj H v tb->lj H' v tb:=fun s z=>by
     cases z with
     | int i=>exact .int i
     | str y=>exact .str y
     | lst h=>exact .lst (s _ _ h)
     | tup h=>exact .tup (s _ _ h)
   refine ⟨_,rfl,Nu,fun q1 hq1=>?_⟩
   have sH1:ah H (upd H q1 (.tup [.ty "tuple",.ty "list"])):=ag hq1 _
   have gH1:(upd H q1 (.tup [.ty "tuple",.ty "list"])) q1=some (.tup [.ty "tuple",.ty "list"]):=ae
   generalize upd H q1 (.tup [.ty "tuple",.ty "list"])=H1 at sH1 gH1 ⊢
   refine .inr ⟨_,q1,["tuple","list"],_,true,rfl,gH1,tyk sH1 t1,ek,_,rfl,bt ?_⟩
   refine ar fun Rk2 kR2=>?_
   have t1':=tyk sH1 t1
   have t2':=tyk sH1 t2
   refine ⟨_,rfl,.inl ⟨_,"list",_,lb,rfl,t2'.of,hk,_,rfl,.inl ⟨_,"list",_,lb,rfl,t1'.of,hk,rfl,_,rfl,?_⟩⟩⟩
   refine iteF' (by cases lb <;> rfl) ?_
   refine ⟨_,rfl,Nu,fun q2 hq2=>?_⟩
   have sH2:ah H1 (upd H1 q2 (.tup [.ty "tuple",.ty "list"])):=ag hq2 _
   have gH2:(upd H1 q2 (.tup [.ty "tuple",.ty "list"])) q2=some (.tup [.ty "tuple",.ty "list"]):=ae
   generalize upd H1 q2 (.tup [.ty "tuple",.ty "list"])=H2 at sH2 gH2 ⊢
   refine .inr ⟨_,q2,["tuple","list"],_,true,rfl,gH2,tyk (aa sH1 sH2) t2,ek,_,rfl,aX ?_⟩
   refine kR2 _ _ ?_
   have s2:=aa sH1 sH2
   refine ar fun Rk2 kR2=>?_
   have lena2:aw K H2 a xs\/aC K H2 a xs:=hh.elim (fun z=>.inl (aw.of (s2 _ _ z.1))) (fun z=>.inr (aC.of (s2 _ _ z.1)))
   have lenb2:aw K H2 b ys\/aC K H2 b ys:=hh.elim (fun z=>.inl (aw.of (s2 _ _ z.2))) (fun z=>.inr (aC.of (s2 _ _ z.2)))
   refine ⟨_,rfl,a,xs,rfl,lena2,_,rfl,b,ys,rfl,lenb2,rfl,_,rfl,?_⟩
   refine iteF' (by rw [hl,decide_eq_true rfl]; rfl) ?_
   refine kR2 _ _ ?_
   refine ⟨_,rfl,b,ys,rfl,lenb2,_,rfl,by omega,by omega,fun D hD=>?_⟩
   refine jc (lo:=0) (n:=((ys.length:Nat):Int).toNat) (fun (_:Nat) Hx=>ah H2 Hx/\Hx D=some (.lst [])) ⟨ag hD _,ae⟩ (fun i Hx hi z=>?_) (fun Hx z=>?_)
   · obtain ⟨sx,gD⟩:=z
     have hi0:=hi
     rw [IV] at hi
     have i0:0 + (i:Int)=(i:Nat):=KZ _
     obtain ⟨u,hu⟩ : ∃u,xs[i]? = some u:=⟨_,G3 (by omega)⟩
     obtain ⟨v,hv⟩ : ∃v,ys[i]? = some v:=⟨_,G3 hi⟩
     have au:ig xs (0 + (i:Int))=some u:=by rw [i0]; exact cA hu
     have av:ig ys (0 + (i:Int))=some v:=by rw [i0]; exact cA hv
     have s3:=aa s2 sx
     have al:=(all i u v hu hv).same s3
     refine ao ?_
     refine ⟨_,rfl,_,rfl,?_⟩
     rcases hh with ⟨ha,hb⟩ | ⟨ha,hb⟩
     · refine .inl ⟨a,_,_,_,rfl,rfl,aw.of (s3 _ _ ha),au,_,rfl,_,rfl,.inl ⟨b,_,_,_,rfl,rfl,aw.of (s3 _ _ hb),av,u,v,rfl,al,fun H' s'=>⟨_,rfl,aX ?_⟩⟩⟩
       exact aK (Pv:=fun (_:Nat) Hx=>ah H2 Hx/\Hx D=some (.lst [])) (by repeat' constructor) hi0 ⟨aa sx s',s' _ _ gD⟩
     · refine .inr ⟨a,_,_,_,rfl,rfl,aC.of (s3 _ _ ha),au,_,rfl,_,rfl,.inr ⟨b,_,_,_,rfl,rfl,aC.of (s3 _ _ hb),av,u,v,rfl,al,fun H' s'=>⟨_,rfl,aX ?_⟩⟩⟩
       exact aK (Pv:=fun (_:Nat) Hx=>ah H2 Hx/\Hx D=some (.lst [])) (by repeat' constructor) hi0 ⟨aa sx s',s' _ _ gD⟩
   obtain ⟨sx,gD⟩:=z
   refine ⟨Nr,fun z hz=>?_⟩
   have sz:=ag hz (.lst [])
   exact ⟨_,RB.nil (aw.of (sz _ _ gD)) (aw.of ae),q _ (aa (aa s2 sx) sz)⟩
theorem wU (s:Src K mg "_law_alike" sAlk)(m_isinstance:mg "isinstance"=none)(m_len:mg "len"=none)(m_range:mg "range"=none)(m_bool:mg "bool"=none)(m_int:mg "int"=none)(m_str:mg "str"=none)(m_tuple:mg "tuple"=none)(m_list:mg "list"=none):∀n:Nat,aJ P w K mg base "_law_alike" ["found","due"] (n + 1) (ic n):=by
 obtain ⟨f,fd,F,m⟩:=s
 have b:Binds K fd ["found","due"] []:=cU F fun _ _ _ _ _ _ _ _=>rfl
 intro n
 have all:aL P w K mg base CX0 (n + 1) f fd ["found","due"] (ic n):=by
   induction n with
   | zero=>exact uv
   | succ n ih=>exact Az F m_isinstance m_len m_range m_bool m_int m_str m_tuple m_list ⟨f,fd,ih,F.kp,b,m⟩
 exact ⟨f,fd,all,F.kp,b,m⟩
end
end TW
set_option Elab.async false
set_option linter.all false
set_option maxRecDepth 100000
set_option exponentiation.threshold 4000
set_option maxHeartbeats 1000000
namespace TW
open PySem L2
section
variable {P:Program}{w:World}{K:GP}{mg:Str->Option Value}{base:Heap}
abbrev sOvR:Stmt:=top 70
/-! ### likeness of what is told alike -/
theorem Al.tup {H:Hp}{n:Nat}{p q:Addr}{xs ys:List V}(hp:H p=some (.tup xs))(hq:H q=some (.tup ys))(hl:xs.length=ys.length)(h9:xs.length<=900)(h:∀(i:Nat) (x y:V),xs[i]? = some x->ys[i]? = some y->Al H n x y):Al H (n + 1) (.ref p) (.ref q):=.inr (.inr ⟨p,q,xs,ys,rfl,rfl,.inr ⟨hp,hq⟩,hl,h9,h⟩)
theorem Al.lst {H:Hp}{n:Nat}{p q:Addr}{xs ys:List V}(hp:H p=some (.lst xs))(hq:H q=some (.lst ys))(hl:xs.length=ys.length)(h9:xs.length<=900)(h:∀(i:Nat) (x y:V),xs[i]? = some x->ys[i]? = some y->Al H n x y):Al H (n + 1) (.ref p) (.ref q):=.inr (.inr ⟨p,q,xs,ys,rfl,rfl,.inl ⟨hp,hq⟩,hl,h9,h⟩)
theorem Al.str {H:Hp}{n:Nat}(s:Str):Al H (n + 1) (.str s) (.str s):=.inr (.inl ⟨s,rfl,rfl⟩)
theorem Al.int {H:Hp}{n:Nat}(i:Int):Al H (n + 1) (.int i) (.int i):=.inl ⟨i,rfl,rfl⟩
theorem bL.al {H:Hp}(e:E):∀(n:Nat) (u v:V),e.dep + 2<=n->bL H u e->bL H v e->Al H n u v:=by
 induction e with
 | num i=>
   intro n u v h hu hv
   obtain ⟨m,rfl⟩ : ∃m,n=m + 1 + 1:=⟨n - 2,by have:0 + 2<=n:=h; omega⟩
   obtain ⟨p,rfl,hp⟩:=hu
   obtain ⟨q,rfl,hq⟩:=hv
   refine Al.tup hp hq rfl (by show 2<=900; decide) fun j x y hx hy=>?_
   match j,hx,hy with
   | 0,hx,hy=>cases hx; cases hy; exact .str _
   | 1,hx,hy=>cases hx; cases hy; exact .int _
 | box t x=>
   intro n u v h hu hv
   obtain ⟨m,rfl⟩ : ∃m,n=m + 1 + 1:=⟨n - 2,by have:0 + 2<=n:=h; omega⟩
   obtain ⟨p,rfl,hp⟩:=hu
   obtain ⟨q,rfl,hq⟩:=hv
   refine Al.tup hp hq rfl (by show 2<=900; decide) fun j x y hx hy=>?_
   match j,hx,hy with
   | 0,hx,hy=>cases hx; cases hy; exact .str _
   | 1,hx,hy=>cases hx; cases hy; exact .str _
 | yes=>
   intro n u v h hu hv
   obtain ⟨m,rfl⟩ : ∃m,n=m + 1 + 1:=⟨n - 2,by have:0 + 2<=n:=h; omega⟩
   obtain ⟨p,rfl,hp⟩:=hu
   obtain ⟨q,rfl,hq⟩:=hv
   refine Al.tup hp hq rfl (by show 1<=900; decide) fun j x y hx hy=>?_
   match j,hx,hy with
   | 0,hx,hy=>cases hx; cases hy; exact .str _
 | nt a ih=>
   intro n u v h hu hv
   have h:a.dep + 1 + 2<=n:=h
   obtain ⟨m,rfl⟩ : ∃m,n=m + 1 + 1:=⟨n - 2,by omega⟩
   obtain ⟨x1,⟨p,rfl,hp⟩,ex⟩:=hu
   obtain ⟨y1,⟨q,rfl,hq⟩,ey⟩:=hv
   refine Al.tup hp hq rfl (by show 2<=900; decide) fun j x y hx hy=>?_
   match j,hx,hy with
   | 0,hx,hy=>cases hx; cases hy; exact .str _
   | 1,hx,hy=>cases hx; cases hy; exact ih _ _ _ (by omega) ex ey
 | two k a b iha ihb=>
   intro n u v h hu hv
   have h:max a.dep b.dep + 1 + 2<=n:=h
   obtain ⟨m,rfl⟩ : ∃m,n=m + 1 + 1:=⟨n - 2,by omega⟩
   obtain ⟨x1,x2,⟨p,rfl,hp⟩,ex,ex2⟩:=hu
   obtain ⟨y1,y2,⟨q,rfl,hq⟩,ey,ey2⟩:=hv
   refine Al.tup hp hq rfl (by show 3<=900; decide) fun j x y hx hy=>?_
   match j,hx,hy with
   | 0,hx,hy=>cases hx; cases hy; exact .str _
   | 1,hx,hy=>cases hx; cases hy; exact iha _ _ _ (by omega) ex ey
   | 2,hx,hy=>cases hx; cases hy; exact ihb _ _ _ (by omega) ex2 ey2
theorem aP.al {H:Hp}:∀{e:Np} {u v:V},e.wr->aP H u e->aP H v e->Al H 32 u v
 | .put x s n,_,_,w,⟨a,⟨p,rfl,hp⟩,ea⟩,⟨b,⟨q,rfl,hq⟩,eb⟩=>Al.tup hp hq rfl (by show 4<=900; decide) fun j x y hx hy=>by
   match j,hx,hy with
   | 0,hx,hy=>cases hx; cases hy; exact .str _
   | 1,hx,hy=>cases hx; cases hy; exact .str _
   | 2,hx,hy=>cases hx; cases hy; exact bL.al _ _ _ _ (by have:=w.2.1.dp; omega) ea eb
   | 3,hx,hy=>cases hx; cases hy; exact .int _
 | .say s n,_,_,w,⟨a,⟨p,rfl,hp⟩,ea⟩,⟨b,⟨q,rfl,hq⟩,eb⟩=>Al.tup hp hq rfl (by show 3<=900; decide) fun j x y hx hy=>by
   match j,hx,hy with
   | 0,hx,hy=>cases hx; cases hy; exact .str _
   | 1,hx,hy=>cases hx; cases hy; exact bL.al _ _ _ _ (by have:=w.1.dp; omega) ea eb
   | 2,hx,hy=>cases hx; cases hy; exact .int _
 | .test c n o,_,_,w,⟨a,⟨p,rfl,hp⟩,ea⟩,⟨b,⟨q,rfl,hq⟩,eb⟩=>Al.tup hp hq rfl (by show 4<=900; decide) fun j x y hx hy=>by
   match j,hx,hy with
   | 0,hx,hy=>cases hx; cases hy; exact .str _
   | 1,hx,hy=>cases hx; cases hy; exact bL.al _ _ _ _ (by have:=w.1.dp; omega) ea eb
   | 2,hx,hy=>cases hx; cases hy; exact .int _
   | 3,hx,hy=>cases hx; cases hy; exact .int _
 | .pick x n,_,_,_,⟨p,rfl,hp⟩,⟨q,rfl,hq⟩=>Al.tup hp hq rfl (by show 3<=900; decide) fun j x y hx hy=>by
   match j,hx,hy with
   | 0,hx,hy=>cases hx; cases hy; exact .str _
   | 1,hx,hy=>cases hx; cases hy; exact .str _
   | 2,hx,hy=>cases hx; cases hy; exact .int _
 | .fin,_,_,_,⟨p,rfl,hp⟩,⟨q,rfl,hq⟩=>Al.tup hp hq rfl (by show 1<=900; decide) fun j x y hx hy=>by
   match j,hx,hy with
   | 0,hx,hy=>cases hx; cases hy; exact .str _
theorem bT.al {H:Hp}{b:Str×Int}{u v:V}(hu:bT H u b)(hv:bT H v b):Al H 32 u v:=by
 obtain ⟨p,rfl,hp⟩:=hu
 obtain ⟨q,rfl,hq⟩:=hv
 refine Al.tup hp hq rfl (by show 2<=900; decide) fun j x y hx hy=>?_
 match j,hx,hy with
 | 0,hx,hy=>cases hx; cases hy; exact .str _
 | 1,hx,hy=>cases hx; cases hy; exact .int _
theorem Al.et {K:GP}{H:Hp}:∀{n:Nat} {x y:V},Al H n x y->ET K H n x y
 | 0,_,_,h=>h.elim
 | n + 1,_,_,.inl ⟨i,rfl,rfl⟩=>ET.refl (.inl rfl)
 | n + 1,_,_,.inr (.inl ⟨s,rfl,rfl⟩)=>ET.refl (.inl rfl)
 | n + 1,_,_,.inr (.inr ⟨a,b,xs,ys,rfl,rfl,.inl ⟨ha,hb⟩,hl,_,h⟩)=>ET.lst (aw.of ha) (aw.of hb) hl fun j x y hx hy=>Al.et (h j x y hx hy)
 | n + 1,_,_,.inr (.inr ⟨a,b,xs,ys,rfl,rfl,.inr ⟨ha,hb⟩,hl,_,h⟩)=>ET.tup (aC.of ha) (aC.of hb) hl fun j x y hx hy=>Al.et (h j x y hx hy)
theorem ze {α:Type}{H:Hp}{F:V->α->Prop}{us vs:List V}{l:List α}(k:∀u v a,a∈l->F u a->F v a->Al H 32 u v)(pu:Paired F us l)(pv:Paired F vs l):∀(i:Nat) (x y:V),us[i]? = some x->vs[i]? = some y->Al H 32 x y:=fun i x y hx hy=>by
 obtain ⟨a,ha,fa⟩:=Paired.get pu hx
 obtain ⟨b,hb,fb⟩:=Paired.get pv hy
 rw [ha] at hb
 cases hb
 exact k x y a (Hh ha) fa fb
theorem jG {H:Hp}{B I N B' I' N':Addr}{vb vn vb' vn':List V}{bs:List (Str×Int)}{ins:List Str}{nds:List Np}(wr:yR bs ins nds)(p1:ny H B I N vb vn bs ins nds)(p2:ny H B' I' N' vb' vn' bs ins nds):∀(j:Nat) (x y:V),[V.ref B,.ref I,.ref N][j]? = some x->[V.ref B',.ref I',.ref N'][j]? = some y->Al H 33 x y:=fun j x y hx hy=>by
 have l1:=Paired.length p1.pb
 have l2:=Paired.length p2.pb
 have l3:=Paired.length p1.pn
 have l4:=Paired.length p2.pn
 have b1:=wr.lb
 have b2:=wr.li
 have b3:=wr.ln
 match j,hx,hy with
 | 0,hx,hy=>cases hx; cases hy; exact Al.lst p1.hB p2.hB (by omega) (by omega) (ze (F:=bT H) (fun u v a _ h1 h2=>bT.al h1 h2) p1.pb p2.pb)
 | 1,hx,hy=>
   cases hx; cases hy
   refine Al.lst p1.hI p2.hI rfl (by rw [GR]; omega) fun i x y hx hy=>?_
   rw [hx] at hy
   cases hy
   obtain ⟨z,_,rfl⟩:=bC hx
   exact .str _
 | 2,hx,hy=>cases hx; cases hy; exact Al.lst p1.hN p2.hN (by omega) (by omega) (ze (F:=aP H) (fun u v a ha h1 h2=>aP.al (wr.n a ha) h1 h2) p1.pn p2.pn)
theorem yg {H:Hp}{f p B I N B' I' N':Addr}{vb vn vb' vn':List V}{bs:List (Str×Int)}{ins:List Str}{nds:List Np}(wr:yR bs ins nds)(hf:H f=some (.tup [.ref B,.ref I,.ref N]))(hp:H p=some (.tup [.ref B',.ref I',.ref N']))(p1:ny H B I N vb vn bs ins nds)(p2:ny H B' I' N' vb' vn' bs ins nds):Al H 34 (.ref f) (.ref p):=Al.tup hf hp rfl (by show 3<=900; decide) (jG wr p1 p2)
theorem pM {K:GP}{H:Hp}{f p B I N B' I' N':Addr}{vb vn vb' vn':List V}{bs:List (Str×Int)}{ins:List Str}{nds:List Np}(wr:yR bs ins nds)(hf:H f=some (.tup [.ref B,.ref I,.ref N]))(hp:H p=some (.tup [.ref B',.ref I',.ref N']))(p1:ny H B I N vb vn bs ins nds)(p2:ny H B' I' N' vb' vn' bs ins nds):RB K H 33 (.ref f) (.ref p) true:=RB.tup (aC.of hf) (aC.of hp) rfl fun j x y hx hy=>(jG wr p1 p2 j x y hx hy).et
/-! ### the program over -/
theorem qX {f:Int->Int}:∀e:Np,(e.led (e.leads.map f)).leads=e.leads.map f
 | .put _ _ _=>rfl | .say _ _=>rfl | .test _ _ _=>rfl | .pick _ _=>rfl | .fin=>rfl
theorem qY {l:List Int}:∀e:Np,(e.led l).tolds=e.tolds
 | .put _ _ _=>rfl | .say _ _=>rfl | .test _ _ _=>rfl | .pick _ _=>rfl | .fin=>rfl
theorem AZ {m h k i l:Int}(m0:0 < m)(k0:0 < k)(i0:0<=i)(ik:i < k)(l0:0<=l)(lm:l < m):0<=rY m h k i l/\rY m h k i l < k * m:=by
 have key:∀a:Int,0<=a->a < k->0<=a * m + l/\a * m + l < k * m:=fun a a0 ak=>by
   have h1:0<=a * m:=Int.mul_nonneg a0 (by omega)
   have h2:(a + 1) * m<=k * m:=Int.mul_le_mul_of_nonneg_right (by omega) (by omega)
   rw [Int.add_mul,Int.one_mul] at h2
   omega
 unfold rY
 split
 · exact key _ (Int.emod_nonneg _ (by omega)) (Int.emod_lt_of_pos _ k0)
 · exact key _ i0 ik
theorem getD_in {l:List Int}{j:Nat}{n:Int}(hl:∀n∈l,0<=n/\n < 10 ^ 30)(hn:0<=n/\n < 10 ^ 30):0<=(l[j]?).getD n/\(l[j]?).getD n < 10 ^ 30:=by
 cases h:l[j]? with
 | none=>exact hn
 | some a=>exact hl a (Hh h)
theorem Ao {l:List Int}(hl:∀n∈l,0<=n/\n < 10 ^ 30):∀{e:Np},e.wr->(e.led l).wr
 | .put x s n,w=>⟨w.1,w.2.1,getD_in hl w.2.2⟩
 | .say s n,w=>⟨w.1,getD_in hl w.2⟩
 | .test c n o,w=>⟨w.1,getD_in hl w.2.1,getD_in hl w.2.2⟩
 | .pick x n,w=>⟨w.1,getD_in hl w.2⟩
 | .fin,_=>Ht
theorem wj.over {bs:List (Str×Int)}{ins:List Str}{nds:List Np}(g:wj bs ins nds)(h:Int){k:Nat}(k1:1<=k)(k8:k<=8)(n40:nds.length<=40):wj bs ins (uZ (nds.length:Int) h (k:Int) nds k):=by
 have one:=g.one
 have len:=lX (nds.length:Int) h (k:Int) nds k
 have hm:k * nds.length<=8 * 40:=Ky k8 n40
 have hm1:1 * 1<=k * nds.length:=Ky k1 one
 have inn:∀(i:Nat) (e:Np),i < k->e∈nds->∀n∈e.leads.map (rY (nds.length:Int) h (k:Int) i),0<=n/\n < ((k * nds.length:Nat):Int):=fun i e hi he n hn=>by
   obtain ⟨l,hl,rfl⟩:=List.mem_map.mp hn
   obtain ⟨a,b⟩:=(g.good e he).ld l hl
   have:=AZ (m:=(nds.length:Int)) (h:=h) (k:=(k:Int)) (i:=(i:Int)) (by omega) (by omega) (by omega) (by omega) a b
   rw [Int.natCast_mul]
   exact this
 refine ⟨⟨g.wr.b,g.wr.i,fun e he=>?_,g.wr.lb,g.wr.li,by omega⟩,g.bx,g.ind,g.insub,by omega,fun e he=>?_⟩
 · obtain ⟨i,e0,hi,h0,rfl⟩:=lY he
   refine Ao (fun n hn=>?_) (g.wr.n e0 h0)
   have:=inn i e0 hi h0 n hn
   exact ⟨this.1,oq (by omega)⟩
 · obtain ⟨i,e0,hi,h0,rfl⟩:=lY he
   refine ⟨fun n hn=>?_,fun t ht=>?_⟩
   · unfold zb at hn
     rw [qX] at hn
     rw [len]
     exact inn i e0 hi h0 n hn
   · unfold zb at ht
     rw [qY] at ht
     exact (g.good e0 h0).kn t ht
def Np.plain:Np->Np
 | .pick _ _=>.fin
 | e=>e
theorem vg {bs:List (Str×Int)}{ins:List Str}{nds:List Np}(g:wj bs ins nds):wj bs ins (nds.map Np.plain):=by
 refine ⟨⟨g.wr.b,g.wr.i,fun e he=>?_,g.wr.lb,g.wr.li,by rw [GR]; exact g.wr.ln⟩,g.bx,g.ind,g.insub,by rw [GR]; exact g.one,fun e he=>?_⟩
 · obtain ⟨e0,h0,rfl⟩:=List.mem_map.mp he
   have w:=g.wr.n e0 h0
   cases e0 with
   | pick _ _=>exact Ht
   | _=>exact w
 · obtain ⟨e0,h0,rfl⟩:=List.mem_map.mp he
   have w:=g.good e0 h0
   rw [GR]
   cases e0 with
   | pick _ _=>exact ⟨(fun _ z=>nomatch z),fun _ z=>nomatch z⟩
   | _=>exact w
def vP:Sp:=fun vs H Q _=>∃(c:Int) (p B I N:Addr) (vb vn:List V) (bs:List (Str×Int)) (ins:List Str) (nds:List Np),vs=[.int c,.ref p]/\H p=some (.tup [.ref B,.ref I,.ref N])/\ny H B I N vb vn bs ins nds/\wj bs ins nds/\nds.length<=40/\∀H',Q (.bl true) H'
theorem ni:aq ["cell","program","nodes","plain","head","many"] ["cell","program"] (af sOvR):=⟨rfl,rfl,rfl,by decide +kernel,rfl,by decide +kernel,by decide +kernel⟩
theorem eS:(af sOvR).names.lookup (GQ "_law_stir")=some .globalImplicit:=by decide +kernel
theorem sZ:(af sOvR).names.lookup (GQ "len")=some .globalImplicit:=by decide +kernel
theorem fL:(af sOvR).names.lookup (GQ "read_program")=some .globalImplicit:=by decide +kernel
theorem ji:(af sOvR).names.lookup (GQ "told_over")=some .globalImplicit:=by decide +kernel
theorem fM:(af sOvR).names.lookup (GQ "written_text")=some .globalImplicit:=by decide +kernel
theorem AD {f:Addr}{fd:FuncData}(F:bI K "_law_over_right" "_law_over_right" sOvR f fd)(m_len:mg "len"=none)(m_int:mg "int"=none)(ST0:aJ P w K mg base "_law_stir" ["cell","k"] 1 bo)(TO0:aJ P w K mg base "told_over" ["program","head","times"] 11 jP)(WT0:aJ P w K mg base "written_text" ["program"] 34 vQ)(RP:aJ P w K mg base "read_program" ["text"] 37 f7):aL P w K mg base CX0 38 f fd ["cell","program"] vP:=by
 refine F.ok ni (fun vs H Q E h=>?_) (fun cdv A outer s H vs Q E hr h=>?_)
 · obtain ⟨c,p,B,I,N,vb,vn,bs,ins,nds,rfl,_⟩:=h
   rfl
 · have ST:=ST0.mono (show 1<=37 by decide)
   have TO:=TO0.mono (show 11<=37 by decide)
   have WT:=WT0.mono (show 34<=37 by decide)
   obtain ⟨c,p,B,I,N,vb,vn,bs,ins,nds,rfl,hp,pt,pg,n40,q⟩:=h
   have vnl:=Paired.length pt.pn
   have one:=pg.one
   refine cH ⟨_,(K6 (LY (i:=2) [none] ["node"] (show az _ (af sOvR) from ⟨rfl,by decide +kernel,by decide +kernel,by decide +kernel⟩) (by rfl) (Lr (La Li (K0 1) K4)) (fun _ _ _ _ _=>⟨(Le 0 (show (["node"]:List Str).Nodup from by decide +kernel)),Lu,(La Lq (Lj (K1 (K0 0) (K1 (Lg (K1 K7 K3)) K3))) (Lw L3.yS (by rfl) m_int (by decide +kernel) (K1 (Ml Ll (La Li (K0 0) K4) K7) K3)))⟩) ni.nd)
     (K6 (Ld 3 ni.nd (Lg (K1 (La Li (K0 1) K4) (K1 (La Li (K0 1) K4) (K1 (K0 2) K3)))))
     (K6 (Ld 4 ni.nd (K5 Lk (K9 ST hr eS (K1 (K0 0) (K1 K4 K3))) (Lm Lp sZ m_len G1 (K1 (K0 2) K3))))
     (K6 (Ld 5 ni.nd (La Li (K9 TO hr ji (K1 (K0 3) (K1 (K0 4) (K1 (K5 Lo K4 (K5 Lk (K9 ST hr eS (K1 (K0 0) (K1 K4 K3))) K4)) K3)))) K4))
     (K8 (Lc (Ml (Mq (m:=33) (cO hr _ (by decide))) (K9 RP hr fL (K1 (K9 WT hr fM (K1 (K0 5) K3)) K3)) (K0 5)))))))),?_⟩
   refine ar fun Rk kR=>?_
   refine ⟨_,rfl,p,_,_,_,rfl,rfl,aC.of hp,rfl,N,rfl,⟨_,aw.of pt.hN⟩,fun D hD=>?_⟩
   refine aT (xs:=vn) (fun (i:Nat) Hx=>ah H Hx/\∃us,Hx D=some (.lst us)/\us.length=i/\Paired (aP Hx) us ((nds.take i).map Np.plain)) ⟨ag hD _,[],ae,rfl,.nil⟩ (fun i Hx _ z=>aw.of (z.1 _ _ pt.hN)) (fun i x0 Hx hx z=>?_) (fun Hx z=>?_)
   · obtain ⟨sx,us,gD,ul,pu⟩:=z
     have hil:=(List.getElem?_eq_some_iff.mp hx).1
     obtain ⟨e,hei,na⟩:=Paired.get pt.pn hx
     obtain ⟨px,as,rfl,hpx⟩:=na.head
     refine ao ?_
     refine bE (A:=fun H5=>bS _ D _ H5 _) ?_
     refine ⟨_,rfl,Nt,fun t1 ht1=>⟨Nu,fun L hL=>?_⟩⟩
     have st:=ag ht1 (.tup [.str "end"])
     have sL:=ag hL (.lst [.ref px,.ref t1])
     have gt:=sL _ _ (ae (H:=Hx) (a:=t1) (o:=.tup [.str "end"]))
     have gL:=ae (H:=upd Hx t1 (.tup [.str "end"])) (a:=L) (o:=.lst [.ref px,.ref t1])
     have stL:=aa st sL
     generalize upd (upd Hx t1 (.tup [.str "end"])) L (.lst [.ref px,.ref t1])=Hy at gt gL stL ⊢
     have sxy:=aa sx stL
     have gDy:=stL _ _ gD
     refine ⟨_,rfl,px,_,_,_,rfl,rfl,aC.of (sxy _ _ hpx),km,rfl,.inr ⟨_,rfl,?_⟩⟩
     have fin:∀(w:V),aP Hy w e.plain->∃xs,Hy D=some (.lst xs)/\xs.length < sizeLine/\(ah H (upd Hy D (.lst (xs++[w])))/\∃us,(upd Hy D (.lst (xs++[w]))) D=some (.lst us)/\us.length=i + 1/\Paired (aP (upd Hy D (.lst (xs++[w])))) us ((nds.take (i + 1)).map Np.plain)):=fun w nw=>by
       have tkD:TK Hy (upd Hy D (.lst (us++[w]))):=aZ gDy (fun _ z=>nomatch z)
       refine ⟨us,gDy,aM (by omega),aG sxy hD,us++[w],ae,by rw [GU,ul]; rfl,?_⟩
       rw [Hl,hei,G2]
       exact (Paired.mapP pu fun _ _ z=>aP.keep ((ah.tk stL).trans tkD) z).snoc (aP.keep tkD nw)
     have nay:=aP.keep (ah.tk sxy) na
     have pk:∃(b:Bool) (w:V),decide (V.str e.hd=V.str "pick")=b/\ig ([.ref px,.ref t1]:List V) (if b then 1 else 0)=some w/\aP Hy w e.plain:=by
       cases e with
       | pick x n=>exact ⟨true,.ref t1,(by show decide (V.str "pick"=V.str "pick")=true; decide),rfl,⟨t1,rfl,gt⟩⟩
       | put x s n=>exact ⟨false,.ref px,(by show decide (V.str "put"=V.str "pick")=false; decide),rfl,nay⟩
       | say s n=>exact ⟨false,.ref px,(by show decide (V.str "say"=V.str "pick")=false; decide),rfl,nay⟩
       | test c2 n o=>exact ⟨false,.ref px,(by show decide (V.str "test"=V.str "pick")=false; decide),rfl,nay⟩
       | fin=>exact ⟨false,.ref px,(by show decide (V.str "end"=V.str "pick")=false; decide),rfl,nay⟩
     obtain ⟨b,w,eb,ew,nw⟩:=pk
     rw [eb]
     obtain ⟨xs,f1,f2,f3⟩:=fin w nw
     exact ⟨L,_,_,_,rfl,rfl,aw.of gL,ew,xs,f1,f2,aK (Pv:=fun (i:Nat) Hx=>ah H Hx/\∃us,Hx D=some (.lst us)/\us.length=i/\Paired (aP Hx) us ((nds.take i).map Np.plain)) (by repeat' constructor) hil f3⟩
   obtain ⟨sx,us,gD,ul,pu⟩:=z
   rw [vnl,HB] at pu
   refine ao ?_
   refine kR _ _ ?_
   refine aB [some (.int c),some (.ref p),some (.ref D),none,none,none] rfl ?_
   refine ar fun Rk kR=>?_
   refine ⟨_,rfl,p,_,_,_,rfl,rfl,aC.of (sx _ _ hp),rfl,_,rfl,p,_,_,_,rfl,rfl,aC.of (sx _ _ hp),rfl,_,rfl,Nv,fun pl hpl=>?_⟩
   have sp:ah Hx (upd Hx pl (.tup [.ref B,.ref I,.ref D])):=ag hpl _
   have gp:(upd Hx pl (.tup [.ref B,.ref I,.ref D])) pl=some (.tup [.ref B,.ref I,.ref D]):=ae
   generalize upd Hx pl (.tup [.ref B,.ref I,.ref D])=H2 at sp gp ⊢
   refine ao ?_
   refine kR _ _ ?_
   refine aB [some (.int c),some (.ref p),some (.ref D),some (.ref pl),none,none] rfl ?_
   have s1:=aa sx sp
   have g2:wj bs ins (nds.map Np.plain):=vg pg
   have lm:(nds.map Np.plain).length=nds.length:=GR ..
   refine ar fun Rk kR=>?_
   refine ⟨_,rfl,c,480,rfl,by decide,by decide,fun r r0 r1=>⟨_,rfl,D,_,rfl,.inl (aw.of (sp _ _ gD)),_,_,rfl,rfl,(by omega),?_⟩⟩
   have h0:=aO (k:=r) (n:=(us.length:Int)) (by omega)
   have h1:=aN (k:=r) (n:=(us.length:Int)) (by omega)
   obtain ⟨hd,ehd⟩ : ∃hd,hd=r % (us.length:Int):=⟨_,rfl⟩
   rw [← ehd] at h0 h1
   refine ao ?_
   refine kR _ _ ?_
   refine aB [some (.int c),some (.ref p),some (.ref D),some (.ref pl),some (.int hd),none] (by rw [ehd]; rfl) ?_
   clear ehd
   refine ar fun Rk kR=>?_
   refine ⟨_,rfl,_,rfl,_,rfl,c,481,rfl,by decide,by decide,fun r2 r20 r21=>⟨_,_,rfl,rfl,(by show (0:Int) < 7; decide),_,_,rfl,rfl,?_⟩⟩
   have w0:=aO (k:=r2) (n:=7) (by decide)
   have w1:=aN (k:=r2) (n:=7) (by decide)
   obtain ⟨kk,ekk⟩ : ∃kk:Nat,(kk:Int)=2 + r2 % 7:=⟨(2 + r2 % 7).toNat,by omega⟩
   have pt2:ny H2 B I D vb us bs ins (nds.map Np.plain):=⟨s1 _ _ pt.hB,s1 _ _ pt.hI,sp _ _ gD,Paired.mapP pt.pb fun _ _ z=>Tp.keep (ah.tk s1) z,Paired.mapP pu fun _ _ z=>aP.keep (ah.tk sp) z⟩
   refine ⟨pl,B,I,D,vb,us,bs,ins,nds.map Np.plain,hd,kk,(by show [V.ref pl,V.int hd,V.int (2 + r2 % 7)]=_; rw [ekk]),gp,pt2,pg.wr.lb,by omega,h0,by omega,by omega,by omega,fun qq p1 P1 B1 I1 N1 vn1 H3 s3 gq gp1 pt3=>?_⟩
   have g3:=g2.over hd (k:=kk) (by omega) (by omega) (by omega)
   refine ⟨qq,_,_,_,rfl,rfl,aC.of gq,rfl,?_⟩
   refine ao ?_
   refine kR _ _ ?_
   refine aB [some (.int c),some (.ref p),some (.ref D),some (.ref pl),some (.int hd),some (.ref p1)] rfl ?_
   refine ⟨_,rfl,p1,B1,I1,N1,vb,vn1,bs,ins,_,rfl,gp1,pt3,g3.wr,fun H4 s4 jo=>?_⟩
   refine ⟨bs,ins,_,rfl,g3,fun f B2 I2 N2 vb2 vn2 H5 gt=>?_⟩
   have s45:=aa s4 gt.s
   refine ⟨_,rfl,true,pM g3.wr gt.hp (s45 _ _ gp1) gt.pt ⟨s45 _ _ pt3.hB,s45 _ _ pt3.hI,s45 _ _ pt3.hN,Paired.mapP pt3.pb fun _ _ z=>Tp.keep (ah.tk s45) z,Paired.mapP pt3.pn fun _ _ z=>aP.keep (ah.tk s45) z⟩,q _⟩
theorem wW (s:Src K mg "_law_over_right" sOvR)(m_len:mg "len"=none)(m_int:mg "int"=none)(ST0:aJ P w K mg base "_law_stir" ["cell","k"] 1 bo)(TO0:aJ P w K mg base "told_over" ["program","head","times"] 11 jP)(WT0:aJ P w K mg base "written_text" ["program"] 34 vQ)(RP:aJ P w K mg base "read_program" ["text"] 37 f7):aJ P w K mg base "_law_over_right" ["cell","program"] 38 vP:=
 let ⟨f,fd,F,m⟩:=s
 ⟨f,fd,AD F m_len m_int ST0 TO0 WT0 RP,F.kp,cU F fun _ _ _ _ _ _ _ _=>rfl,m⟩
end
end TW
set_option Elab.async false
set_option linter.all false
set_option maxRecDepth 100000
set_option exponentiation.threshold 4000
set_option maxHeartbeats 1000000
namespace TW
open PySem L2
section
variable {P:Program}{w:World}{K:GP}{mg:Str->Option Value}{base:Heap}
/-! ### the law -/
abbrev sLaw:Stmt:=top 71
def pT (K:GP):Sp:=fun vs H Q _=>∃(a:Addr) (ns:List Int),vs=[.ref a]/\aw K H a (ns.map V.int)/\ns.length<=63/\∀H',Q (.bl true) H'
theorem yO {bs:List (Str×Int)}{ins:List Str}{nds:List Np}(h:yR bs ins nds):JoinOk "\n" (textOf bs ins nds)=true:=by
 have lb:=h.lb
 have li:=h.li
 have ln:=h.ln
 rw [dj]
 have rl:(rowsOf bs ins nds).length<=408:=by
   unfold rowsOf
   rw [GU,GU,GR,GR,GR]
   omega
 refine fU 12100 (fun y hy=>?_) ?_
 · obtain ⟨r,hr,rfl⟩:=List.mem_map.mp hy
   exact (h.row r hr).len.2
 · rw [GR,show (("\n":Str)).length=1 from rfl]
   omega
theorem ny.same {H H':Hp}{B I N:Addr}{vb vn:List V}{bs:List (Str×Int)}{ins:List Str}{nds:List Np}(h:ny H B I N vb vn bs ins nds)(s:ah H H'):ny H' B I N vb vn bs ins nds:=⟨s _ _ h.hB,s _ _ h.hI,s _ _ h.hN,Paired.mapP h.pb fun _ _ z=>Tp.keep (ah.tk s) z,Paired.mapP h.pn fun _ _ z=>aP.keep (ah.tk s) z⟩
theorem jJ:aq ["script","program","rows","text","found","many","some"] ["script"] (af sLaw):=⟨rfl,rfl,rfl,by decide +kernel,rfl,by decide +kernel,by decide +kernel⟩
theorem jh:(af sLaw).names.lookup (GQ "_law_alike")=some .globalImplicit:=by decide +kernel
theorem gH:(af sLaw).names.lookup (GQ "_law_cell_at")=some .globalImplicit:=by decide +kernel
theorem eN:(af sLaw).names.lookup (GQ "_law_over_right")=some .globalImplicit:=by decide +kernel
theorem gJ:(af sLaw).names.lookup (GQ "_law_program")=some .globalImplicit:=by decide +kernel
theorem cD:(af sLaw).names.lookup (GQ "read_program")=some .globalImplicit:=by decide +kernel
theorem fJ:(af sLaw).names.lookup (GQ "written_text")=some .globalImplicit:=by decide +kernel
theorem AA {f:Addr}{fd:FuncData}(F:bI K "law" "law" sLaw f fd)(m_len:mg "len"=none)(CE:aJ P w K mg base "_law_cell_at" ["script","k"] 64 (gV K))(PR:aJ P w K mg base "_law_program" ["script"] 64 (oM K))(WT:aJ P w K mg base "written_text" ["program"] 64 vQ)(RP:aJ P w K mg base "read_program" ["text"] 64 f7)(AL:aJ P w K mg base "_law_alike" ["found","due"] 64 (ic 34))(OR:aJ P w K mg base "_law_over_right" ["cell","program"] 64 vP):aL P w K mg base CX0 65 f fd ["script"] (pT K):=by
 refine F.ok jJ (fun vs H Q E h=>?_) (fun cdv A outer s H vs Q E hr h=>?_)
 · obtain ⟨a,sc,rfl,_⟩:=h
   rfl
 · obtain ⟨a,sc,rfl,hS,h63,q⟩:=h
   refine cH ⟨_,(K6 (Mb (K9 PR hr gJ (K1 (K0 0) K3)) (L3.wQ 2 (Ln (Le 1 jJ.nd) (Ln (Le 2 jJ.nd) Lx))))
     (K6 (Ld 3 jJ.nd (L5 K7 (K1 (K0 2) K3)))
     (K6 (Ld 4 jJ.nd (K9 RP hr cD (K1 (K0 3) K3)))
     (K6 (Lf (Lv (LR (Mg (LQ (K9 AL hr jh (K1 (K0 4) (K1 (K0 1) K3))))) (LZ (Lb LM (K9 WT hr fJ (K1 (K0 4) K3)) (K0 3))))) (K8 (Lc LL)) Lh)
     (K6 (LY (i:=5) [none] ["some"] (show az _ (af sLaw) from ⟨rfl,by decide +kernel,by decide +kernel,by decide +kernel⟩) (by rfl) (L3.iT (K0 4)) (fun _ _ _ _ _=>⟨(Le 0 (show (["some"]:List Str).Nodup from by decide +kernel)),Lu,(Lm Lp (by rfl) m_len G1 (K1 (K0 0) K3))⟩) jJ.nd)
     (K6 (LG (L3.iT (K0 4)) (Le 6 jJ.nd) (K8 (LA (LS (K0 6) (K1 K7 K3)))))
     (K6 (Lf (Lb (Mj (m:=2) (cO hr _ (by decide))) (LF [none] ["some"] (show az _ (af sLaw) from ⟨rfl,by decide +kernel,by decide +kernel,by decide +kernel⟩) (by rfl) (L3.iT (K0 4)) (fun _ _ _ _ _=>⟨(Le 0 (show (["some"]:List Str).Nodup from by decide +kernel)),Lu,(Lm Lp (by rfl) m_len G1 (K1 (K0 0) K3))⟩)) (LF [none] ["one"] (show az _ (af sLaw) from ⟨rfl,by decide +kernel,by decide +kernel,by decide +kernel⟩) (by rfl) (Lr (K0 5)) (fun _ _ _ _ _=>⟨(Le 0 (show (["one"]:List Str).Nodup from by decide +kernel)),Lu,(K5 Lo (K0 0) K4)⟩))) (K8 (Lc LL)) Lh)
     (K8 (Lc (L3.se (Ml (Mq (m:=33) (cO hr _ (by decide))) (K9 RP hr cD (K1 (K0 3) K3)) (K0 1)) (L3.Dh (K9 OR hr eN (K1 (K9 CE hr gH (K1 (K0 0) (K1 K4 K3))) (K1 (K0 1) K3)))))))))))))),?_⟩
   refine ar fun Rk kR=>?_
   refine ⟨_,rfl,a,sc,rfl,hS,fun L p R B I N vb vn bs ins nds H1 s1 gL hp pt pg n40 gR=>?_⟩
   refine ⟨L,_,rfl,aw.of gL,rfl,_,_,rfl,_,_,rfl,rfl,?_⟩
   refine kR _ _ ?_
   refine aB [some (.ref a),some (.ref p),some (.ref R),none,none,none,none] rfl ?_
   refine ar fun Rk kR=>?_
   refine ⟨rfl,_,rfl,"\n",R,textOf bs ins nds,rfl,rfl,aw.of gR,yO pg.wr,?_⟩
   obtain ⟨tx,etx⟩ : ∃x,x=Hj "\n" (textOf bs ins nds):=⟨_,rfl⟩
   refine ao ?_
   refine kR _ _ ?_
   refine aB [some (.ref a),some (.ref p),some (.ref R),some (.str tx),none,none,none] (by rw [etx]; rfl) ?_
   refine ar fun Rk kR=>?_
   refine ⟨_,rfl,bs,ins,nds,congrArg (fun z=>[V.str z]) etx,pg,fun f Bf If Nf vbf vnf H2 gt=>?_⟩
   have vbl:=Paired.length gt.pt.pb
   have vnl:=Paired.length gt.pt.pn
   have b4:=pg.wr.lb
   have i4:=pg.wr.li
   refine ao ?_
   refine kR _ _ ?_
   refine aB [some (.ref a),some (.ref p),some (.ref R),some (.str tx),some (.ref f),none,none] rfl ?_
   refine ar fun Rk kR=>?_
   refine ⟨_,rfl,_,rfl,.ref f,.ref p,rfl,yg pg.wr gt.hp (gt.s _ _ hp) gt.pt (pt.same gt.s),fun H3 s3=>⟨_,rfl,iteF' rfl ?_⟩⟩
   refine ⟨_,rfl,f,Bf,If,Nf,vbf,vnf,bs,ins,nds,rfl,s3 _ _ gt.hp,gt.pt.same s3,pg.wr,fun H4 s4 _=>⟨_,rfl,rfl,_,rfl,?_⟩⟩
   refine iteF' (by rw [← etx,decide_eq_true rfl]; rfl) ?_
   refine kR _ _ ?_
   have s24:=aa s3 s4
   have s14:=aa gt.s s24
   have gf:=s24 _ _ gt.hp
   have pf:=gt.pt.same s24
   refine ar fun Rk kR=>?_
   refine ⟨_,rfl,f,rfl,⟨_,aC.of gf⟩,fun M hM=>?_⟩
   refine mI (xs:=[.ref Bf,.ref If,.ref Nf]) (fun (i:Nat) Hx=>ah H4 Hx/\Hx M=some (.lst (([(vbf.length:Int),(ins.length:Int),(vnf.length:Int)].take i).map V.int))) ⟨ag hM _,ae⟩ (fun i Hx _ z=>aC.of (z.1 _ _ gf)) (fun i x0 Hx hx z=>?_) (fun Hx z=>?_)
   · obtain ⟨sx,gD⟩:=z
     have hil:=(List.getElem?_eq_some_iff.mp hx).1
     have hil3:i < 3:=hil
     obtain ⟨l,xs,rfl,hl,en⟩ : ∃l xs,x0=.ref l/\H4 l=some (.lst xs)/\[(vbf.length:Int),(ins.length:Int),(vnf.length:Int)].take (i + 1)=[(vbf.length:Int),(ins.length:Int),(vnf.length:Int)].take i++[(xs.length:Int)]:=by
       match i,hx with
       | 0,hx=>cases hx; exact ⟨Bf,_,rfl,(pf.hB),rfl⟩
       | 1,hx=>cases hx; exact ⟨If,_,rfl,(pf.hI),by rw [GR]; rfl⟩
       | 2,hx=>cases hx; exact ⟨Nf,_,rfl,(pf.hN),rfl⟩
     refine ao ?_
     refine bE (A:=fun H5=>bS _ M _ H5 _) ?_
     refine ⟨_,rfl,l,xs,rfl,.inl (aw.of (sx _ _ hl)),_,gD,aM (by rw [GR,G8]; omega),aK (Pv:=fun (i:Nat) Hx=>ah H4 Hx/\Hx M=some (.lst (([(vbf.length:Int),(ins.length:Int),(vnf.length:Int)].take i).map V.int))) (by repeat' constructor) hil ⟨aG sx hM,?_⟩⟩
     rw [ae,en,G2]
     rfl
   obtain ⟨sM,gM⟩:=z
   have gM:Hx M=some (.lst ([(vbf.length:Int),(ins.length:Int),(vnf.length:Int)].map V.int)):=gM
   refine ao ?_
   refine kR _ _ ?_
   refine aB [some (.ref a),some (.ref p),some (.ref R),some (.str tx),some (.ref f),some (.ref M),none] rfl ?_
   have fB:=sM _ _ pf.hB
   have fI:=sM _ _ pf.hI
   have fN:=sM _ _ pf.hN
   have ff:=sM _ _ gf
   have s15:=aa s14 sM
   have MB:M≠Bf:=(ai pf.hB hM).symm
   have MI:M≠If:=(ai pf.hI hM).symm
   have MN:M≠Nf:=(ai pf.hN hM).symm
   have kf:∀(l:Addr) (xs ys:List V) (H':Hp),H' l=some (.lst xs)->H' f=some (.tup [.ref Bf,.ref If,.ref Nf])->(upd H' l (.lst ys)) f=some (.tup [.ref Bf,.ref If,.ref Nf]):=fun l xs ys H' h1 h2=>aZ h1 (fun _ z=>nomatch z) _ _ h2
   refine ar fun Rk kR=>?_
   refine ⟨_,rfl,f,rfl,⟨_,aC.of ff⟩,?_⟩
   refine lE (xs:=[.ref Bf,.ref If,.ref Nf]) (fun i σ Hx=>(∃o6,σ=[some (.ref a),some (.ref p),some (.ref R),some (.str tx),some (.ref f),some (.ref M),o6])/\ah H1 Hx/\Hx f=some (.tup [.ref Bf,.ref If,.ref Nf])/\Hx M=some (.lst ([(vbf.length:Int),(ins.length:Int),(vnf.length:Int)].map V.int))/\Hx Bf=some (.lst (if 0 < i then vbf++[V.str "zebra"] else vbf))/\Hx If=some (.lst (if 1 < i then ins.map V.str++[V.str "zebra"] else ins.map V.str))/\Hx Nf=some (.lst (if 2 < i then vnf++[V.str "zebra"] else vnf))) ⟨⟨_,rfl⟩,s15,ff,gM,fB,fI,fN⟩ (fun i σ Hy _ z=>aC.of z.2.2.1) (fun i x0 σ Hy hx z=>?_) (fun σ Hy z=>?_)
   · obtain ⟨⟨o6,rfl⟩,sy,yf,yM,yB,yI,yN⟩:=z
     refine ao ?_
     match i,hx with
     | 0,hx=>
       cases hx
       refine ⟨_,rfl,.inl ⟨rfl,_,aw.of yB⟩,Bf,_,_,rfl,rfl,yB,aM (by show vbf.length<=1000; omega),?_⟩
       exact ⟨⟨_,rfl⟩,aG sy gt.nB,kf _ _ _ _ yB yf,by rw [aj MB]; exact yM,ae,by rw [aj gt.BI.symm]; exact yI,by rw [aj gt.BN.symm]; exact yN⟩
     | 1,hx=>
       cases hx
       refine ⟨_,rfl,.inl ⟨rfl,_,aw.of yI⟩,If,_,_,rfl,rfl,yI,aM (by show (ins.map V.str).length<=1000; rw [GR]; omega),?_⟩
       exact ⟨⟨_,rfl⟩,aG sy gt.nI,kf _ _ _ _ yI yf,by rw [aj MI]; exact yM,by rw [aj gt.BI]; exact yB,ae,by rw [aj gt.IN.symm]; exact yN⟩
     | 2,hx=>
       cases hx
       refine ⟨_,rfl,.inl ⟨rfl,_,aw.of yN⟩,Nf,_,_,rfl,rfl,yN,aM (by show vnf.length<=1000; omega),?_⟩
       exact ⟨⟨_,rfl⟩,aG sy gt.nN,kf _ _ _ _ yN yf,by rw [aj MN]; exact yM,by rw [aj gt.BN]; exact yB,by rw [aj gt.IN]; exact yI,ae⟩
   obtain ⟨⟨o6,rfl⟩,sy,yf,yM,yB,yI,yN⟩:=z
   have yB:Hy Bf=some (.lst (vbf++[V.str "zebra"])):=yB
   have yI:Hy If=some (.lst (ins.map V.str++[V.str "zebra"])):=yI
   have yN:Hy Nf=some (.lst (vnf++[V.str "zebra"])):=yN
   refine kR _ _ ?_
   refine ar fun Rk kR=>?_
   refine ⟨_,rfl,f,rfl,⟨_,aC.of yf⟩,fun D1 hD1=>?_⟩
   refine mI (xs:=[.ref Bf,.ref If,.ref Nf]) (fun (i:Nat) Hx=>ah Hy Hx/\Hx D1=some (.lst (([(vbf.length:Int) + 1,(ins.length:Int) + 1,(vnf.length:Int) + 1].take i).map V.int))) ⟨ag hD1 _,ae⟩ (fun i Hx _ z=>aC.of (z.1 _ _ yf)) (fun i x0 Hx hx z=>?_) (fun Hx2 z=>?_)
   · obtain ⟨sx,gD⟩:=z
     have hil:=(List.getElem?_eq_some_iff.mp hx).1
     have hil3:i < 3:=hil
     obtain ⟨l,xs,rfl,hl,en⟩ : ∃l xs,x0=.ref l/\Hy l=some (.lst xs)/\[(vbf.length:Int) + 1,(ins.length:Int) + 1,(vnf.length:Int) + 1].take (i + 1)=[(vbf.length:Int) + 1,(ins.length:Int) + 1,(vnf.length:Int) + 1].take i++[(xs.length:Int)]:=by
       match i,hx with
       | 0,hx=>cases hx; exact ⟨Bf,_,rfl,yB,by rw [GU]; rfl⟩
       | 1,hx=>cases hx; exact ⟨If,_,rfl,yI,by rw [GU,GR]; rfl⟩
       | 2,hx=>cases hx; exact ⟨Nf,_,rfl,yN,by rw [GU]; rfl⟩
     refine ao ?_
     refine bE (A:=fun H5=>bS _ D1 _ H5 _) ?_
     refine ⟨_,rfl,l,xs,rfl,.inl (aw.of (sx _ _ hl)),_,gD,aM (by rw [GR,G8]; omega),aK (Pv:=fun (i:Nat) Hx=>ah Hy Hx/\Hx D1=some (.lst (([(vbf.length:Int) + 1,(ins.length:Int) + 1,(vnf.length:Int) + 1].take i).map V.int))) (by repeat' constructor) hil ⟨aG sx hD1,?_⟩⟩
     rw [ae,en,G2]
     rfl
   obtain ⟨sz,gD1⟩:=z
   have gD1:Hx2 D1=some (.lst ([(vbf.length:Int) + 1,(ins.length:Int) + 1,(vnf.length:Int) + 1].map V.int)):=gD1
   have zM:=sz _ _ yM
   refine ⟨_,rfl,M,rfl,⟨_,aw.of zM⟩,fun D2 hD2=>?_⟩
   refine aT (xs:=[(vbf.length:Int),(ins.length:Int),(vnf.length:Int)].map V.int) (fun (i:Nat) Hx=>ah Hx2 Hx/\Hx D2=some (.lst ((([(vbf.length:Int),(ins.length:Int),(vnf.length:Int)].take i).map (· + 1)).map V.int))) ⟨ag hD2 _,ae⟩ (fun i Hx _ z=>aw.of (z.1 _ _ zM)) (fun i x0 Hx hx z=>?_) (fun Hw z=>?_)
   · obtain ⟨sx,gD⟩:=z
     have hil:=(List.getElem?_eq_some_iff.mp hx).1
     have hil3:i < 3:=hil
     obtain ⟨n,hn,rfl⟩:=bC hx
     refine ao ?_
     refine bE (A:=fun H5=>bS _ D2 _ H5 _) ?_
     refine ⟨_,rfl,_,_,rfl,rfl,_,gD,aM (by rw [GR,GR,G8]; omega),aK (Pv:=fun (i:Nat) Hx=>ah Hx2 Hx/\Hx D2=some (.lst ((([(vbf.length:Int),(ins.length:Int),(vnf.length:Int)].take i).map (· + 1)).map V.int))) (by repeat' constructor) hil ⟨aG sx hD2,?_⟩⟩
     rw [ae,Hl,hn,G2,G2]
     rfl
   obtain ⟨sw,gD2⟩:=z
   have gD2:Hw D2=some (.lst ([(vbf.length:Int) + 1,(ins.length:Int) + 1,(vnf.length:Int) + 1].map V.int)):=gD2
   refine ⟨_,RB.ints (sw _ _ gD1) gD2,_,rfl,iteF' (by rw [decide_eq_true rfl]; rfl) ?_⟩
   refine kR _ _ ?_
   have s1w:=aa sy (aa sz sw)
   refine ⟨_,rfl,bs,ins,nds,congrArg (fun z=>[V.str z]) etx,pg,fun f2 B2 I2 N2 vb2 vn2 H8 g8=>?_⟩
   have s18:=aa s1w g8.s
   refine ⟨_,rfl,true,pM pg.wr g8.hp (s18 _ _ hp) g8.pt (pt.same s18),_,rfl,bt ?_⟩
   refine ⟨_,rfl,a,sc,0,rfl,ah.seq (aa s1 s18) hS,by decide,fun c=>?_⟩
   exact ⟨_,rfl,c,p,B,I,N,vb,vn,bs,ins,nds,rfl,s18 _ _ hp,pt.same s18,pg,n40,q⟩
end
end TW
set_option Elab.async false
set_option linter.all false
set_option maxRecDepth 100000
namespace TW
open PySem L2
theorem zH {P:Program}{w:World}{K:GP}{mg:Str->Option Value}{fa:Addr}(hfa:mg "law"=some (.ref fa))(t:Cz w K mg) :
   ∃fd:FuncData,(∀(s:Shared) (u:Value),BindsTo s fd ⟨[u],[]⟩ [("script",u)])/\∀base:Heap,K.In base->base.Ns mainGlobals mg->aL P w K mg base CX0 65 fa fd ["script"] (pT K):=by
 obtain ⟨f,fd,F,m⟩:=t.s_law
 have e:=hfa.symm.trans m
 cases e
 refine ⟨fd,fun s u=>?_,fun base _ _=>?_⟩
 · obtain ⟨oc,od,kV,doc,pm,an,cdv,ct,osl,rfl,lk,hcd⟩:=F.ex
   exact .of_eq rfl
 obtain ⟨aS,hS,dS⟩:=t.c_SUM_SIGNS
 obtain ⟨aSS,hSS,dSS⟩:=t.c_SIGN_SUMS
 obtain ⟨aST,hST,dST⟩:=t.c_SIGN_TESTS
 obtain ⟨aR,hR,dR⟩:=t.c_RANKS
 obtain ⟨aF,ts,hF,dF0,pF⟩:=t.c_FORMS
 have dF:cy w K aF:=cy.of dF0 pF
 obtain ⟨tY,mY,_⟩:=t.c_YES
 obtain ⟨tO,mO,_⟩:=t.c_NOUGHT
 have WS:∀n,aJ P w K mg base "written_sum" ["sum_told"] (n + 1) (jQ n):=z5 t.s_written_sum t.m_str hS dS
 have WC:=zZ t.s_written_condition WS
 have WW:=z7 t.s_written_word t.m_str (WS 30) (WC 30)
 have WR:=z4 t.s_written_row t.m_zip hF dF WW
 have WT:=z6 t.s_written_text WR
 have CE:aJ P w K mg base "_law_cell_at" ["script","k"] 1 (gV K):=tI t.s_law_cell_at t.m_len
 have ST:aJ P w K mg base "_law_stir" ["cell","k"] 1 bo:=ua t.s_law_stir
 have NU:=wV t.s_law_number ST
 have SM:=wY t.s_law_sum t.m_len ST NU
 have CO:=tJ t.s_law_condition ST (SM 3)
 have GS:=zX t.s_law_grown_sum t.m_len t.m_range ST
 have GC:=zW t.s_law_grown_condition t.m_range ST
 have LW:∀n,aJ P w K mg base "_law_word" ["thing"] (n + 1) (mh n):=zY t.s_law_word t.m_str t.m_int
 have AS:=zV t.s_law_any_sum (SM 4) GS
 have AC:=zU t.s_law_any_condition (SM 4) GS (CO 4) GC
 have NO:=tN t.s_law_node t.m_len t.m_str ST AS AC (LW 30)
 have NS:=qH t.s_law_names t.m_len t.m_range ST
 have PR:=tQ t.s_law_program t.m_len t.m_range t.m_list t.m_str t.m_sum t.m_enumerate (CE.mono (by decide)) (NS.mono (by decide)) (ST.mono (by decide)) NO
 obtain ⟨C,cR,iR,mSi,mTa,mDu,mSt,mNu,mNa⟩:=t.k_Reader
 have R5:=cR.rd
 have RDR:my P w K mg base "Reader" C ["self","word"] 1 (f6 C):=og cR iR
 have SI:bh P w K mg base C "sign" ["self"] 1 (bu C):=qM mSi R5
 have TA:=oa mTa R5 SI
 have DU:=tS mDu R5 TA
 have STR:=tV mSt R5 SI
 have RNu:=tT mNu R5 t.m_len t.m_int t.c_FIGURES t.c_MOST_FIGURES STR
 have RNa:=qK mNa R5 t.m_len t.c_LETTERS t.c_MOST_LETTERS STR
 have RAt:=qI t.s_read_atom R5 t.c_FIGURES SI RNu RNa
 have RSu:=tW t.s_read_sum R5 t.m_len hSS dSS SI TA DU RAt
 have RTe:=qN t.s_read_test R5 hST dST SI RSu
 have RCo:=qJ t.s_read_condition R5 t.m_len SI DU RTe
 have RWo:=qO t.s_read_word R5 t.m_len RDR RNu RNa RSu RCo
 have RRo:=tU t.s_read_row t.m_len t.m_zip t.m_tuple hF dF RWo
 have PO:aJ P w K mg base "program_of" ["boxes","inputs","nodes"] 35 bR:=n6 t.s_program_of t.m_list ((tX t.s_refuse_boxes t.m_len t.m_set).mono (by decide)) ((tZ t.s_refuse_inputs t.m_len t.m_set).mono (by decide)) ((t6 t.s_refuse_nodes t.m_len ((kK t.s_leads_of).mono (by decide)) ((oi t.s_told_by).mono (by decide)) (oh t.s_refuse_unknown (qG t.s_all_known t.c_NAMELESS t.c_PARTED 30))).mono (by decide))
 have PP:=n5 t.s_picked_program PO
 have RP:=qL t.s_read_program hR dR t.c_NODE_RANK RRo PP
 have TO:aJ P w K mg base "told_over" ["program","head","times"] 11 jP:=tP t.s_told_over t.m_len t.m_range t.m_enumerate (wX t.s_refuse_no_nodes t.m_len) (tG t.s_all_same (tH t.s_boxes_same mY (qF t.s_all_of (nZ t.s_joined_by t.m_len 6)))) (kK t.s_leads_of) (tK t.s_led_anew t.m_len t.m_tuple) (tM t.s_level_entry mO) (qP t.s_with_nodes t.m_list)
 have OR:=wW t.s_law_over_right t.m_len t.m_int ST TO WT RP
 have AL:aJ P w K mg base "_law_alike" ["found","due"] 35 (ic 34):=wU t.s_law_alike t.m_isinstance t.m_len t.m_range t.m_bool t.m_int t.m_str t.m_tuple t.m_list 34
 exact AA F t.m_len (CE.mono (by decide)) (PR.mono (by decide)) (WT.mono (by decide)) (RP.mono (by decide)) (AL.mono (by decide)) (OR.mono (by decide))
end TW
set_option Elab.async false
set_option linter.all false
set_option maxRecDepth 100000
namespace TW
open PySem L2
theorem walk {l:PySem.W.OpenLaw}{q:Program}{loose:List Str}{XP:(Str->Option Value)->Heap->Prop}{YP:World->Heap->Prop}{d:DefRec}{K:Params->GP}(hn:l.most=some 63)(hdf:d.params.defaults=[])
   (hY:∀(w:World) (h:Heap),YP w h->(K w.params).In h)
   (F:∀(w:World) (mg:Str->Option Value) (fa:Addr) (h:Heap),(K w.params).In h->h.Ns mainGlobals mg->mg d.name=some (.ref fa) ->
     ∃fd:FuncData,(∀(s:Shared) (u:Value),BindsTo s fd ⟨[u],[]⟩ [("script",u)])/\∀base:Heap,(K w.params).In base->base.Ns mainGlobals mg->aL l.prog w (K w.params) mg base CX0 65 fa fd ["script"] (pT (K w.params))) :
   PySem.W.WalkO q loose XP YP l.row.toRowW d [] (fun f vs=>PySem.call f vs):=
 L2.walk_of (n:=63) (k:=65) (x:="script") (CX:=fun _=>CX0) (sp:=fun w=>pT (K w.params)) hn (by decide) hdf ⟨rfl,by decide,by decide⟩ hY F (fun _ _ a ns hl _ hS=>⟨a,ns,rfl,hS,hl,fun _=>rfl⟩) fun _ _ _ _ _ z=>z
end TW
def PySem.W.Fast.tw10081377514992792494:Nat:=0
def PySem.W.Fast.tw10110514158924178503:Nat:=0
def PySem.W.Fast.tw10119821287205251907:Nat:=0
def PySem.W.Fast.tw10120034720293658310:Nat:=0
def PySem.W.Fast.tw10149519566935881514:Nat:=0
def PySem.W.Fast.tw10293210870790511581:Nat:=0
def PySem.W.Fast.tw10294638362812880881:Nat:=0
def PySem.W.Fast.tw10305910028402565761:Nat:=0
def PySem.W.Fast.tw10384954416045015558:Nat:=0
def PySem.W.Fast.tw10431979513064480497:Nat:=0
def PySem.W.Fast.tw10595526886486655698:Nat:=0
def PySem.W.Fast.tw10601222532316487796:Nat:=0
def PySem.W.Fast.tw10727393249390437527:Nat:=0
def PySem.W.Fast.tw10802184883726662515:Nat:=0
def PySem.W.Fast.tw10814362804789679372:Nat:=0
def PySem.W.Fast.tw10970660851604374446:Nat:=0
def PySem.W.Fast.tw1097534275077724856:Nat:=0
def PySem.W.Fast.tw11008370030068629479:Nat:=0
def PySem.W.Fast.tw11019213995424484131:Nat:=0
def PySem.W.Fast.tw11038478940981166213:Nat:=0
def PySem.W.Fast.tw11045946250716117058:Nat:=0
def PySem.W.Fast.tw11112040720234586677:Nat:=0
def PySem.W.Fast.tw11180355169582453385:Nat:=0
def PySem.W.Fast.tw11182859054679927764:Nat:=0
def PySem.W.Fast.tw11276558970625095898:Nat:=0
def PySem.W.Fast.tw11329761334755023017:Nat:=0
def PySem.W.Fast.tw11389436745916515459:Nat:=0
def PySem.W.Fast.tw11398690586126234668:Nat:=0
def PySem.W.Fast.tw11406767179602711457:Nat:=0
def PySem.W.Fast.tw11432829092692912890:Nat:=0
def PySem.W.Fast.tw1153360211418254850:Nat:=0
def PySem.W.Fast.tw11550509311748945146:Nat:=0
def PySem.W.Fast.tw11554681491240929792:Nat:=0
def PySem.W.Fast.tw11665556950914366361:Nat:=0
def PySem.W.Fast.tw11667841301944071839:Nat:=0
def PySem.W.Fast.tw1167573410143592799:Nat:=0
def PySem.W.Fast.tw11687287574665919506:Nat:=0
def PySem.W.Fast.tw11687808206410722476:Nat:=0
def PySem.W.Fast.tw1171680916772311716:Nat:=0
def PySem.W.Fast.tw11735448365959013427:Nat:=0
def PySem.W.Fast.tw11753160349876060271:Nat:=0
def PySem.W.Fast.tw11801375768690544631:Nat:=0
def PySem.W.Fast.tw11803163369917589888:Nat:=0
def PySem.W.Fast.tw11811977991702914537:Nat:=0
def PySem.W.Fast.tw11828009800131636697:Nat:=0
def PySem.W.Fast.tw11835429685042553070:Nat:=0
def PySem.W.Fast.tw11864524298631319137:Nat:=0
def PySem.W.Fast.tw11903403030233752203:Nat:=0
def PySem.W.Fast.tw11947050111112370229:Nat:=0
def PySem.W.Fast.tw11994266606996850158:Nat:=0
def PySem.W.Fast.tw12004856395671391774:Nat:=0
def PySem.W.Fast.tw12037405252187555408:Nat:=0
def PySem.W.Fast.tw12043275691698629554:Nat:=0
def PySem.W.Fast.tw12083341712961631377:Nat:=0
def PySem.W.Fast.tw12098478589013176611:Nat:=0
def PySem.W.Fast.tw12105926127132528731:Nat:=0
def PySem.W.Fast.tw12106998033261624489:Nat:=0
def PySem.W.Fast.tw12126601847119846758:Nat:=0
def PySem.W.Fast.tw1213368812916107519:Nat:=0
def PySem.W.Fast.tw12147088086663282599:Nat:=0
def PySem.W.Fast.tw12153849250662446127:Nat:=0
def PySem.W.Fast.tw12158842516480719163:Nat:=0
def PySem.W.Fast.tw12267199530306305796:Nat:=0
def PySem.W.Fast.tw12283101689200954310:Nat:=0
def PySem.W.Fast.tw12353792479741836031:Nat:=0
def PySem.W.Fast.tw12477235911592318513:Nat:=0
def PySem.W.Fast.tw12493631322860327799:Nat:=0
def PySem.W.Fast.tw12581509726611301950:Nat:=0
def PySem.W.Fast.tw12605298195480267983:Nat:=0
def PySem.W.Fast.tw12629955129940562469:Nat:=0
def PySem.W.Fast.tw12634229351328493734:Nat:=0
def PySem.W.Fast.tw12641358062234870535:Nat:=0
def PySem.W.Fast.tw1265782631768836924:Nat:=0
def PySem.W.Fast.tw12823362366285356053:Nat:=0
def PySem.W.Fast.tw12826959200240652614:Nat:=0
def PySem.W.Fast.tw12827976561310666667:Nat:=0
def PySem.W.Fast.tw12839283837903312277:Nat:=0
def PySem.W.Fast.tw12888631194392460075:Nat:=0
def PySem.W.Fast.tw12921259636677282483:Nat:=0
def PySem.W.Fast.tw12952478195885106344:Nat:=0
def PySem.W.Fast.tw13129419134705987699:Nat:=0
def PySem.W.Fast.tw13159062401652789508:Nat:=0
def PySem.W.Fast.tw13175033938664463718:Nat:=0
def PySem.W.Fast.tw13194248518270916695:Nat:=0
def PySem.W.Fast.tw13218718570513461275:Nat:=0
def PySem.W.Fast.tw13232412142837495590:Nat:=0
def PySem.W.Fast.tw13234432758684742764:Nat:=0
def PySem.W.Fast.tw13263758482604427104:Nat:=0
def PySem.W.Fast.tw13272200003700275890:Nat:=0
def PySem.W.Fast.tw13290353625967419560:Nat:=0
def PySem.W.Fast.tw1332303151467704018:Nat:=0
def PySem.W.Fast.tw13332728331862140562:Nat:=0
def PySem.W.Fast.tw13390658753341560506:Nat:=0
def PySem.W.Fast.tw13503032449751590880:Nat:=0
def PySem.W.Fast.tw13558461933424371145:Nat:=0
def PySem.W.Fast.tw13577735944790960831:Nat:=0
def PySem.W.Fast.tw13612047783967456755:Nat:=0
def PySem.W.Fast.tw1361794414692736765:Nat:=0
def PySem.W.Fast.tw13630597638091506514:Nat:=0
def PySem.W.Fast.tw13645995587641588837:Nat:=0
def PySem.W.Fast.tw13649943945098257360:Nat:=0
def PySem.W.Fast.tw13668608454010547372:Nat:=0
def PySem.W.Fast.tw13693946940778214937:Nat:=0
def PySem.W.Fast.tw13728727083995807443:Nat:=0
def PySem.W.Fast.tw13730938942282149041:Nat:=0
def PySem.W.Fast.tw13792738744018449193:Nat:=0
def PySem.W.Fast.tw1380149105659572019:Nat:=0
def PySem.W.Fast.tw13890592877746289248:Nat:=0
def PySem.W.Fast.tw1390255492766043722:Nat:=0
def PySem.W.Fast.tw1396708700269324129:Nat:=0
def PySem.W.Fast.tw14149134408473053702:Nat:=0
def PySem.W.Fast.tw1417651298741697767:Nat:=0
def PySem.W.Fast.tw14185460410574186769:Nat:=0
def PySem.W.Fast.tw14223897351914780218:Nat:=0
def PySem.W.Fast.tw14277231464286007500:Nat:=0
def PySem.W.Fast.tw14377885544213799484:Nat:=0
def PySem.W.Fast.tw14403399250546934288:Nat:=0
def PySem.W.Fast.tw14438745027350739660:Nat:=0
def PySem.W.Fast.tw14541071157856745155:Nat:=0
def PySem.W.Fast.tw14567344077902833350:Nat:=0
def PySem.W.Fast.tw14583407835448581020:Nat:=0
def PySem.W.Fast.tw14623581414911781850:Nat:=0
def PySem.W.Fast.tw14700201940600476484:Nat:=0
def PySem.W.Fast.tw14760215838212915116:Nat:=0
def PySem.W.Fast.tw14902282575019558164:Nat:=0
def PySem.W.Fast.tw15032698178856707908:Nat:=0
def PySem.W.Fast.tw15055594060346773613:Nat:=0
def PySem.W.Fast.tw15142150709877180719:Nat:=0
def PySem.W.Fast.tw15187170870793783762:Nat:=0
def PySem.W.Fast.tw15253201544210946707:Nat:=0
def PySem.W.Fast.tw15271822441930751852:Nat:=0
def PySem.W.Fast.tw15284950741510598072:Nat:=0
def PySem.W.Fast.tw15355287042430765192:Nat:=0
def PySem.W.Fast.tw15360095005725691515:Nat:=0
def PySem.W.Fast.tw15361709966198909595:Nat:=0
def PySem.W.Fast.tw15477482777562469063:Nat:=0
def PySem.W.Fast.tw15495989703321297553:Nat:=0
def PySem.W.Fast.tw15571121219145010952:Nat:=0
def PySem.W.Fast.tw15613917084830823887:Nat:=0
def PySem.W.Fast.tw15703845726092408994:Nat:=0
def PySem.W.Fast.tw15704855231489325871:Nat:=0
def PySem.W.Fast.tw1584818286721969322:Nat:=0
def PySem.W.Fast.tw15897772610821321840:Nat:=0
def PySem.W.Fast.tw15917808642864201370:Nat:=0
def PySem.W.Fast.tw16019019243649951595:Nat:=0
def PySem.W.Fast.tw16020361716578940889:Nat:=0
def PySem.W.Fast.tw16128612250982670711:Nat:=0
def PySem.W.Fast.tw16172112998808744215:Nat:=0
def PySem.W.Fast.tw16208430869368290032:Nat:=0
def PySem.W.Fast.tw16233060324855102017:Nat:=0
def PySem.W.Fast.tw16253221186945608296:Nat:=0
def PySem.W.Fast.tw1626897597899400987:Nat:=0
def PySem.W.Fast.tw16286919462597303264:Nat:=0
def PySem.W.Fast.tw16313627535400229726:Nat:=0
def PySem.W.Fast.tw16454913069224912697:Nat:=0
def PySem.W.Fast.tw16457964222239532525:Nat:=0
def PySem.W.Fast.tw16569654876241320348:Nat:=0
def PySem.W.Fast.tw1662850967524261802:Nat:=0
def PySem.W.Fast.tw16637635594404294413:Nat:=0
def PySem.W.Fast.tw16652563211212306892:Nat:=0
def PySem.W.Fast.tw16707509928704071729:Nat:=0
def PySem.W.Fast.tw1675075436040275691:Nat:=0
def PySem.W.Fast.tw16792371415879890006:Nat:=0
def PySem.W.Fast.tw16875115492586756874:Nat:=0
def PySem.W.Fast.tw1693641515038727623:Nat:=0
def PySem.W.Fast.tw16949308591395325895:Nat:=0
def PySem.W.Fast.tw17008086977770795620:Nat:=0
def PySem.W.Fast.tw17046612880319812711:Nat:=0
def PySem.W.Fast.tw1707409972705826577:Nat:=0
def PySem.W.Fast.tw17115875856294823598:Nat:=0
def PySem.W.Fast.tw17123565491360171341:Nat:=0
def PySem.W.Fast.tw17130311097082738342:Nat:=0
def PySem.W.Fast.tw17134885999042086929:Nat:=0
def PySem.W.Fast.tw17138538186883694790:Nat:=0
def PySem.W.Fast.tw1718058710421831416:Nat:=0
def PySem.W.Fast.tw17201251049924133659:Nat:=0
def PySem.W.Fast.tw17246025624013333093:Nat:=0
def PySem.W.Fast.tw17295708463564749989:Nat:=0
def PySem.W.Fast.tw17406743838339080554:Nat:=0
def PySem.W.Fast.tw1742728731584375235:Nat:=0
def PySem.W.Fast.tw17480021444659629677:Nat:=0
def PySem.W.Fast.tw1749746151917245014:Nat:=0
def PySem.W.Fast.tw1760619404919803850:Nat:=0
def PySem.W.Fast.tw17654365618132226927:Nat:=0
def PySem.W.Fast.tw17758568474937516690:Nat:=0
def PySem.W.Fast.tw17771436402205554473:Nat:=0
def PySem.W.Fast.tw17933020373693207431:Nat:=0
def PySem.W.Fast.tw17963477111520208326:Nat:=0
def PySem.W.Fast.tw17983581620314227954:Nat:=0
def PySem.W.Fast.tw17992914079961497470:Nat:=0
def PySem.W.Fast.tw17999123689187308378:Nat:=0
def PySem.W.Fast.tw18142474532457384754:Nat:=0
def PySem.W.Fast.tw18146899335302344295:Nat:=0
def PySem.W.Fast.tw18203612356997936946:Nat:=0
def PySem.W.Fast.tw18281996539103364177:Nat:=0
def PySem.W.Fast.tw18318953944693282456:Nat:=0
def PySem.W.Fast.tw18349363473938023959:Nat:=0
def PySem.W.Fast.tw18351972118296458060:Nat:=0
def PySem.W.Fast.tw18422940533505750611:Nat:=0
def PySem.W.Fast.tw18434180516277547413:Nat:=0
def PySem.W.Fast.tw18443201829894721668:Nat:=0
def PySem.W.Fast.tw1880230500109195248:Nat:=0
def PySem.W.Fast.tw1895439910425986177:Nat:=0
def PySem.W.Fast.tw190667004717340360:Nat:=0
def PySem.W.Fast.tw1964418091570049634:Nat:=0
def PySem.W.Fast.tw2117234772206491152:Nat:=0
def PySem.W.Fast.tw2194796365579115642:Nat:=0
def PySem.W.Fast.tw2265656761688657388:Nat:=0
def PySem.W.Fast.tw2273888639137449910:Nat:=0
def PySem.W.Fast.tw2328373900408216167:Nat:=0
def PySem.W.Fast.tw234544100525407876:Nat:=0
def PySem.W.Fast.tw2345803331280365548:Nat:=0
def PySem.W.Fast.tw2354186058804456490:Nat:=0
def PySem.W.Fast.tw2393053046401991425:Nat:=0
def PySem.W.Fast.tw23977755046287267:Nat:=0
def PySem.W.Fast.tw2444262254531515602:Nat:=0
def PySem.W.Fast.tw246463700107898157:Nat:=0
def PySem.W.Fast.tw2548977503152285268:Nat:=0
def PySem.W.Fast.tw2571012997462930574:Nat:=0
def PySem.W.Fast.tw2607869338564140354:Nat:=0
def PySem.W.Fast.tw2725266396370838281:Nat:=0
def PySem.W.Fast.tw2728228053391177083:Nat:=0
def PySem.W.Fast.tw2729522646717174955:Nat:=0
def PySem.W.Fast.tw2800620053014399115:Nat:=0
def PySem.W.Fast.tw2865651856796701281:Nat:=0
def PySem.W.Fast.tw2913146579265414001:Nat:=0
def PySem.W.Fast.tw3002052840349595143:Nat:=0
def PySem.W.Fast.tw303688380101888255:Nat:=0
def PySem.W.Fast.tw3072825572741482626:Nat:=0
def PySem.W.Fast.tw3089047233439094789:Nat:=0
def PySem.W.Fast.tw3090319134985481041:Nat:=0
def PySem.W.Fast.tw3101999033194246965:Nat:=0
def PySem.W.Fast.tw310455532087007312:Nat:=0
def PySem.W.Fast.tw3158198926863363352:Nat:=0
def PySem.W.Fast.tw3176153626393477451:Nat:=0
def PySem.W.Fast.tw3197840369672855060:Nat:=0
def PySem.W.Fast.tw3301424347590440445:Nat:=0
def PySem.W.Fast.tw3303772968143278883:Nat:=0
def PySem.W.Fast.tw3314581568377236542:Nat:=0
def PySem.W.Fast.tw3323125598129284338:Nat:=0
def PySem.W.Fast.tw3394306803458502908:Nat:=0
def PySem.W.Fast.tw3401793425321846298:Nat:=0
def PySem.W.Fast.tw3411339944294367879:Nat:=0
def PySem.W.Fast.tw3493581524935072585:Nat:=0
def PySem.W.Fast.tw354249543963230905:Nat:=0
def PySem.W.Fast.tw3593877267267845819:Nat:=0
def PySem.W.Fast.tw36433417498476071:Nat:=0
def PySem.W.Fast.tw3658354504951534738:Nat:=0
def PySem.W.Fast.tw368535576099245660:Nat:=0
def PySem.W.Fast.tw3757869536473696173:Nat:=0
def PySem.W.Fast.tw3818610233383182095:Nat:=0
def PySem.W.Fast.tw3888136992115400805:Nat:=0
def PySem.W.Fast.tw3895127391882438369:Nat:=0
def PySem.W.Fast.tw3910644931950549251:Nat:=0
def PySem.W.Fast.tw3969291286587134676:Nat:=0
def PySem.W.Fast.tw3972989374150216207:Nat:=0
def PySem.W.Fast.tw4024205941991649990:Nat:=0
def PySem.W.Fast.tw4024422599977297964:Nat:=0
def PySem.W.Fast.tw4044857936182297225:Nat:=0
def PySem.W.Fast.tw4074688181929718071:Nat:=0
def PySem.W.Fast.tw4102402103208961175:Nat:=0
def PySem.W.Fast.tw4130378803211991498:Nat:=0
def PySem.W.Fast.tw4132604170609184868:Nat:=0
def PySem.W.Fast.tw4231950557389311162:Nat:=0
def PySem.W.Fast.tw4248498181837806166:Nat:=0
def PySem.W.Fast.tw4251977116220528059:Nat:=0
def PySem.W.Fast.tw4265840020130868782:Nat:=0
def PySem.W.Fast.tw4266702002656231333:Nat:=0
def PySem.W.Fast.tw4313668568711035534:Nat:=0
def PySem.W.Fast.tw4357917848976588817:Nat:=0
def PySem.W.Fast.tw4385019427907512883:Nat:=0
def PySem.W.Fast.tw4405986213766029510:Nat:=0
def PySem.W.Fast.tw4533020410089921554:Nat:=0
def PySem.W.Fast.tw453373369290837923:Nat:=0
def PySem.W.Fast.tw4548795128542020215:Nat:=0
def PySem.W.Fast.tw4630087549038612501:Nat:=0
def PySem.W.Fast.tw4665149778279039988:Nat:=0
def PySem.W.Fast.tw4669059999368619392:Nat:=0
def PySem.W.Fast.tw4669611389858446799:Nat:=0
def PySem.W.Fast.tw467649047865347052:Nat:=0
def PySem.W.Fast.tw4679435414394530409:Nat:=0
def PySem.W.Fast.tw4794726211501135629:Nat:=0
def PySem.W.Fast.tw4901357390508344183:Nat:=0
def PySem.W.Fast.tw4936153204162149962:Nat:=0
def PySem.W.Fast.tw4936223868185720469:Nat:=0
def PySem.W.Fast.tw4940153965289591445:Nat:=0
def PySem.W.Fast.tw5077350349617437064:Nat:=0
def PySem.W.Fast.tw5084846433342181599:Nat:=0
def PySem.W.Fast.tw5085305020028274491:Nat:=0
def PySem.W.Fast.tw508533042096006978:Nat:=0
def PySem.W.Fast.tw5178100023281248456:Nat:=0
def PySem.W.Fast.tw5206968040004725304:Nat:=0
def PySem.W.Fast.tw5226076958925059491:Nat:=0
def PySem.W.Fast.tw5281470131045471601:Nat:=0
def PySem.W.Fast.tw5290967014280065595:Nat:=0
def PySem.W.Fast.tw5368699020380025954:Nat:=0
def PySem.W.Fast.tw5371218229680291326:Nat:=0
def PySem.W.Fast.tw5389635137609297899:Nat:=0
def PySem.W.Fast.tw539694467609624930:Nat:=0
def PySem.W.Fast.tw5460780237812053762:Nat:=0
def PySem.W.Fast.tw5472577951789649095:Nat:=0
def PySem.W.Fast.tw5522242748693244141:Nat:=0
def PySem.W.Fast.tw5552653302461704048:Nat:=0
def PySem.W.Fast.tw5579032702370688583:Nat:=0
def PySem.W.Fast.tw5587836570370473493:Nat:=0
def PySem.W.Fast.tw5680737035850516272:Nat:=0
def PySem.W.Fast.tw5681365347972658129:Nat:=0
def PySem.W.Fast.tw5706511335880897345:Nat:=0
def PySem.W.Fast.tw583017183061707484:Nat:=0
def PySem.W.Fast.tw5919199607965256928:Nat:=0
def PySem.W.Fast.tw5921952148507713491:Nat:=0
def PySem.W.Fast.tw5965356508557330295:Nat:=0
def PySem.W.Fast.tw597027349758094615:Nat:=0
def PySem.W.Fast.tw6015240974465842049:Nat:=0
def PySem.W.Fast.tw601670971630933136:Nat:=0
def PySem.W.Fast.tw6121343719670927824:Nat:=0
def PySem.W.Fast.tw6143896914258200130:Nat:=0
def PySem.W.Fast.tw6209663290423241985:Nat:=0
def PySem.W.Fast.tw6284998801986974942:Nat:=0
def PySem.W.Fast.tw6336189864457096029:Nat:=0
def PySem.W.Fast.tw6337673031993674092:Nat:=0
def PySem.W.Fast.tw6365142485336902709:Nat:=0
def PySem.W.Fast.tw6384082115862058540:Nat:=0
def PySem.W.Fast.tw640182990157052662:Nat:=0
def PySem.W.Fast.tw6450741387385733523:Nat:=0
def PySem.W.Fast.tw6456496017094614244:Nat:=0
def PySem.W.Fast.tw6538435567285424482:Nat:=0
def PySem.W.Fast.tw6541285745510081344:Nat:=0
def PySem.W.Fast.tw6711888500351690919:Nat:=0
def PySem.W.Fast.tw6741743454682410330:Nat:=0
def PySem.W.Fast.tw6842911979470840115:Nat:=0
def PySem.W.Fast.tw7070612101158855072:Nat:=0
def PySem.W.Fast.tw7085923676799694001:Nat:=0
def PySem.W.Fast.tw7179207531204423164:Nat:=0
def PySem.W.Fast.tw720817902681913283:Nat:=0
def PySem.W.Fast.tw7236226464981189298:Nat:=0
def PySem.W.Fast.tw7276929255311279532:Nat:=0
def PySem.W.Fast.tw7399236141346348552:Nat:=0
def PySem.W.Fast.tw7401042861483750726:Nat:=0
def PySem.W.Fast.tw7405432665642825634:Nat:=0
def PySem.W.Fast.tw7461625568254231929:Nat:=0
def PySem.W.Fast.tw7488918716325294525:Nat:=0
def PySem.W.Fast.tw7516272591275223845:Nat:=0
def PySem.W.Fast.tw7554093514183294490:Nat:=0
def PySem.W.Fast.tw7573145350600783181:Nat:=0
def PySem.W.Fast.tw7732402462141924081:Nat:=0
def PySem.W.Fast.tw7838260784821036146:Nat:=0
def PySem.W.Fast.tw7902642994166667419:Nat:=0
def PySem.W.Fast.tw7932547020787487671:Nat:=0
def PySem.W.Fast.tw7943312274683706710:Nat:=0
def PySem.W.Fast.tw7973897444507855610:Nat:=0
def PySem.W.Fast.tw8011800317580147955:Nat:=0
def PySem.W.Fast.tw8040500516257613844:Nat:=0
def PySem.W.Fast.tw806694068740766452:Nat:=0
def PySem.W.Fast.tw810667219186284958:Nat:=0
def PySem.W.Fast.tw8117605864430318841:Nat:=0
def PySem.W.Fast.tw8168425640212266573:Nat:=0
def PySem.W.Fast.tw8180916632562184028:Nat:=0
def PySem.W.Fast.tw8199527028281240099:Nat:=0
def PySem.W.Fast.tw8207448897441617263:Nat:=0
def PySem.W.Fast.tw8214911672735054572:Nat:=0
def PySem.W.Fast.tw8215070063400947810:Nat:=0
def PySem.W.Fast.tw8297215442794410043:Nat:=0
def PySem.W.Fast.tw8342521832177494667:Nat:=0
def PySem.W.Fast.tw8358437368660559627:Nat:=0
def PySem.W.Fast.tw8371409529722124050:Nat:=0
def PySem.W.Fast.tw8377831443986452427:Nat:=0
def PySem.W.Fast.tw8382143852292382533:Nat:=0
def PySem.W.Fast.tw8400310118043308195:Nat:=0
def PySem.W.Fast.tw8503921313838655967:Nat:=0
def PySem.W.Fast.tw8550851295627936315:Nat:=0
def PySem.W.Fast.tw8593927459295451460:Nat:=0
def PySem.W.Fast.tw8693262269996492484:Nat:=0
def PySem.W.Fast.tw8706957822425275356:Nat:=0
def PySem.W.Fast.tw8725682591669466371:Nat:=0
def PySem.W.Fast.tw881410312924959097:Nat:=0
def PySem.W.Fast.tw8925993912641116394:Nat:=0
def PySem.W.Fast.tw8954375752979584677:Nat:=0
def PySem.W.Fast.tw8991698906768688887:Nat:=0
def PySem.W.Fast.tw9008300316953656727:Nat:=0
def PySem.W.Fast.tw9063589953476258233:Nat:=0
def PySem.W.Fast.tw9150348021893887637:Nat:=0
def PySem.W.Fast.tw9164916529715698058:Nat:=0
def PySem.W.Fast.tw9275839680831032709:Nat:=0
def PySem.W.Fast.tw9297178926795949848:Nat:=0
def PySem.W.Fast.tw9311520718792097554:Nat:=0
def PySem.W.Fast.tw9340732876666445292:Nat:=0
def PySem.W.Fast.tw9365560171476412080:Nat:=0
def PySem.W.Fast.tw9432070641939907733:Nat:=0
def PySem.W.Fast.tw9438516876484156965:Nat:=0
def PySem.W.Fast.tw9440041720387665529:Nat:=0
def PySem.W.Fast.tw9476904277575829348:Nat:=0
def PySem.W.Fast.tw9480553542512942130:Nat:=0
def PySem.W.Fast.tw9550307973862875268:Nat:=0
def PySem.W.Fast.tw9607419529366510900:Nat:=0
def PySem.W.Fast.tw9626268205558835054:Nat:=0
def PySem.W.Fast.tw9656498890306338003:Nat:=0
def PySem.W.Fast.tw9737612485701396351:Nat:=0
def PySem.W.Fast.tw9742597045585832982:Nat:=0
def PySem.W.Fast.tw9799891441148996527:Nat:=0
def PySem.W.Fast.tw9814921506352386743:Nat:=0
def PySem.W.Fast.tw9824000005674403728:Nat:=0
def PySem.W.Fast.tw9825769645995730822:Nat:=0
def PySem.W.Fast.tw9867105358140083200:Nat:=0
def PySem.W.Fast.tw9891356933347702200:Nat:=0
def PySem.W.Fast.tw9892819818914056918:Nat:=0
def PySem.W.Fast.tw992881910477563452:Nat:=0
def PySem.W.Fast.tw996070519420612995:Nat:=0
open PySem PySem.W PyProof.Rows
set_option maxRecDepth 100000 in
set_option maxHeartbeats 0 in
theorem PySem.Challenge.cw_twinwalk_k71_whole_read_as_written_holds : PySem.Challenge.rw_twinwalk_k71_whole_read_as_written.Holds := by
 w_on; o_law; k_head; (case hw=>w_witness2)
 k_fill
 refine TW.walk (l:=PySem.Challenge.rw_twinwalk_k71_whole_read_as_written) rfl rfl (fun w h Y=>PySem.W.kIn_of Y) ?F
 case F=>
   intro w mg fa h KX G hmg
   refine TW.zH hmg ?_
   refine' (⟨TW.aI KX G ?_ ?_ ?_ ?_,TW.aI KX G ?_ ?_ ?_ ?_,TW.aI KX G ?_ ?_ ?_ ?_,TW.aI KX G ?_ ?_ ?_ ?_,TW.aI KX G ?_ ?_ ?_ ?_,TW.aI KX G ?_ ?_ ?_ ?_,TW.aI KX G ?_ ?_ ?_ ?_,TW.aI KX G ?_ ?_ ?_ ?_,TW.aI KX G ?_ ?_ ?_ ?_,TW.aI KX G ?_ ?_ ?_ ?_,TW.aI KX G ?_ ?_ ?_ ?_,TW.aI KX G ?_ ?_ ?_ ?_,TW.aI KX G ?_ ?_ ?_ ?_,TW.aI KX G ?_ ?_ ?_ ?_,TW.aI KX G ?_ ?_ ?_ ?_,TW.aI KX G ?_ ?_ ?_ ?_,TW.aI KX G ?_ ?_ ?_ ?_,TW.aI KX G ?_ ?_ ?_ ?_,TW.aI KX G ?_ ?_ ?_ ?_,TW.aI KX G ?_ ?_ ?_ ?_,TW.aI KX G ?_ ?_ ?_ ?_,TW.aI KX G ?_ ?_ ?_ ?_,TW.aI KX G ?_ ?_ ?_ ?_,TW.aI KX G ?_ ?_ ?_ ?_,TW.aI KX G ?_ ?_ ?_ ?_,TW.aI KX G ?_ ?_ ?_ ?_,TW.aI KX G ?_ ?_ ?_ ?_,TW.aI KX G ?_ ?_ ?_ ?_,TW.aI KX G ?_ ?_ ?_ ?_,TW.aI KX G ?_ ?_ ?_ ?_,TW.aI KX G ?_ ?_ ?_ ?_,TW.aI KX G ?_ ?_ ?_ ?_,TW.aI KX G ?_ ?_ ?_ ?_,TW.aI KX G ?_ ?_ ?_ ?_,TW.aI KX G ?_ ?_ ?_ ?_,TW.aI KX G ?_ ?_ ?_ ?_,TW.aI KX G ?_ ?_ ?_ ?_,TW.aI KX G ?_ ?_ ?_ ?_,TW.aI KX G ?_ ?_ ?_ ?_,TW.aI KX G ?_ ?_ ?_ ?_,TW.aI KX G ?_ ?_ ?_ ?_,TW.aI KX G ?_ ?_ ?_ ?_,TW.aI KX G ?_ ?_ ?_ ?_,TW.aI KX G ?_ ?_ ?_ ?_,TW.aI KX G ?_ ?_ ?_ ?_,TW.aI KX G ?_ ?_ ?_ ?_,TW.mx KX G ?_ ?_ ?_ ?_ ?_,TW.mx KX G ?_ ?_ ?_ ?_ ?_,TW.mx KX G ?_ ?_ ?_ ?_ ?_,⟨_,HP KX G ?_⟩,⟨_,HP KX G ?_⟩,⟨_,HP KX G ?_⟩,⟨_,HP KX G ?_⟩,⟨_,HP KX G ?_,TW.mZ ?_ ?_ ?_ ?_⟩,⟨_,HP KX G ?_,TW.mZ ?_ ?_ ?_ ?_⟩,⟨_,HP KX G ?_,TW.mZ ?_ ?_ ?_ ?_⟩,⟨_,[?_,?_,?_,?_,?_,?_,?_],HP KX G ?_,TW.mZ ?_ ?_ ?_ ?_,(.cons (TW.tw_mk ?_ ?_ ?_) (.cons (TW.tw_mk ?_ ?_ ?_) (.cons (TW.tw_mk ?_ ?_ ?_) (.cons (TW.tw_mk ?_ ?_ ?_) (.cons (TW.tw_mk ?_ ?_ ?_) (.cons (TW.tw_mk ?_ ?_ ?_) (.cons (TW.tw_mk ?_ ?_ ?_) .nil)))))))⟩,⟨_,HP KX G ?_,TW.mZ ?_ ?_ ?_ ?_⟩,⟨_,HP KX G ?_⟩,⟨_,HP KX G ?_,TW.tw_mk ?_ ?_ ?_⟩,⟨_,⟨HP KX G ?_,⟨?_,?_,?_,?_⟩,⟨?_,?_,trivial⟩⟩,⟨_,_,L2.dP ?_ ?_ ?_,⟨?_,?_,?_,?_⟩⟩,⟨_,_,L2.dP ?_ ?_ ?_,⟨?_,?_,?_⟩⟩,⟨_,_,L2.dP ?_ ?_ ?_,⟨?_,?_,?_⟩⟩,⟨_,_,L2.dP ?_ ?_ ?_,⟨?_,?_,?_⟩⟩,⟨_,_,L2.dP ?_ ?_ ?_,⟨?_,?_,?_⟩⟩,⟨_,_,L2.dP ?_ ?_ ?_,⟨?_,?_,?_⟩⟩,⟨_,_,L2.dP ?_ ?_ ?_,⟨?_,?_,?_⟩⟩⟩,HI KX G ?_,HI KX G ?_,HI KX G ?_,HI KX G ?_,HI KX G ?_,HI KX G ?_,HI KX G ?_,HI KX G ?_,HI KX G ?_,HI KX G ?_,HI KX G ?_,HI KX G ?_,HI KX G ?_⟩ : TW.Cz _ _ _)
   (try any_goals first | k_is | k_exc | rfl | ((repeat (first | exact TW.vm | refine TW.pL ⟨_,rfl⟩ rfl ?_ | refine TW.pL ⟨_,rfl⟩ ⟨_,rfl⟩ ?_)); done))
   (try any_goals first | k_is | k_exc | rfl | ((repeat (first | exact TW.vm | refine TW.pL ⟨_,rfl⟩ rfl ?_ | refine TW.pL ⟨_,rfl⟩ ⟨_,rfl⟩ ?_)); done))
   all_goals first | kit_is | decide | rfl | exact ⟨_,rfl⟩ | (k_keys; done) | (repeat' constructor)
