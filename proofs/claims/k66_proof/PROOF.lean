import PyProof.Rows.All
import Wide.All
import OpenK.AllK
import Wide.FinOn
import Lean
import PyProof.EqAt
import PyProof.EqKinds
import PyProof.TupleCall
import PySem.Challenge.RW_twinwalk_k66_programs_fitted
open PySem.W renaming Frag->D9,mg_none_of->Ez,kia_one->EY,fnOf->Fd,kitOne->FZ,keepIn->F1,kia_tup->Gf,codeIn->Gn,mg_of->Gw,methodObj->GH,kitx_list->GI,instObj->GS,lookIn->G0,cellsFrom_some->Ho,kitx_tuple->HR,kitx_dict->HU
open List renaming length_map->Ea,mem_of_getElem? -> Ef,getElem?_eq_getElem->Eg,length_append->Eh,size_toArray->Ei,getElem?_map->Em,map_append->En,length_take->Eo,take_add_one->Er,range->Ew,getD_eq_getElem?_getD->ED,length_range->EE,mem_append_right->EF,take_of_length_le->EI,map_cons->EJ,take_length->EL,not_mem_nil->EN,length_cons->EO,take_zero->E1,mem_cons->E2,append_nil->E7,filter_cons->Fb,length_drop->Fg,all_eq_true->Fh,mem_cons_self->Fi,length_filter_le->Fj,filter_append->Fl,mem_cons_of_mem->Fn,range_succ->Fo,getElem?_range->Fs,nodup_cons->Fx,any_cons->FE,drop_zero->FH,filterMap_cons->FJ,find?_cons->FL,length_singleton->FP,getElem?_eq_none->FQ,getElem_mem->FV,mem_of_mem_take->FW,of_mem_zip->FY,nodup_append->Gb,lookup_cons->Gh,take_append_drop->Gp,forIn_cons->Gq,mem_of_mem_drop->Gu,mem_append_left->Gv,replicate->Gx,nodup_nil->Gy,take_sublist->GQ,zipIdx_cons->GX,zipIdx_nil->G5,getElem?_append_right->Hj,getElem?_append_left->Hu,forIn_nil->HB,map_take->HG,all_cons->HH,length_pos_of_mem->HL,getElem?_set_self->HM,length_replicate->HS,getElem?_set_ne->HZ,getElem?_of_mem->Ia
open PySem.Str renaming ofString->Eb
open PySem.Heap renaming get?_push_of_some->Ec,lt_size->Ek,get?_push_size->El,SameBut->E8,get?_update_other->Fv,get?_update_self->Fy,size_push->HC
open PySem renaming Spec->Ed,boot_len->Es,mem_of_lookup->ER,wpAny_callSpecial?_slot->EU,wpAny_passesOwn->FG,wpAny_execs_nil->GF
open Nat renaming le_refl->Ee,lt_of_lt_of_le->Eu,ne_of_lt->Ex,zero_le->EC,le_trans->EX,le_of_lt->E9,lt_irrefl->Ft,sub_zero->FT,le_add_right->Gk,ne_of_gt->Gr,lt_succ_of_lt->GU,lt_succ_self->G1,not_lt_zero->Hh,min_eq_left->Hi,zero_add->HX,succ_pos->HY
open Bool renaming false_ne_true->Ej,false_eq_true->Et,and_eq_true->Fc,eq_iff_iff->FC,and_false->Gz,not_true->GK,or_false->HI,and_true->HJ
open PySem.Value renaming ref->Ep,none->Fm,type->FD,bool->FI,int->GG,str->GZ
open PySem.Builtin.SmallTypes renaming nextOf->Ey,ownedTupleIsFree->E6,ownedTupleHandOut->F2
open PySem.NameKind renaming free->EA,cell->G4
open True renaming intro->EG
open Option.some renaming inj->EH
open Int renaming toNat_natCast->ES,lt_of_le_of_lt->E4,toNat_of_nonneg->Fu,zero_add->F7,lt_of_lt_of_le->F8,one_mul->GJ,le_trans->GY,mul_le_mul_of_nonneg_left->G2,mul_le_mul->HF,mul_assoc->HN
open PySem.Obj renaming mapSeq->EW,data_mapFields->F6,isFreed_of_fields->HW
open Option renaming map_some->EZ
open PySem.Heap.SameBut renaming update->E3
open ForInStep renaming yield->E5
open PyProof.Rows renaming slot_tupleiter_next->Fe,slot_tuple_getitem->Ff,callWith_type1->Fq,entry_tupleiter_next->Gj,args_tupleiter_next->Gm,get?_update_seq->HK
open PySem.F renaming plainAttrs_list->Fp,slot_dict_keyiterator_next->Fz,slot_zip_next->FO,args_tuple_add_2->F5,entry_tuple_add->Ga,slot_tuple_add->Gd,slot_dict_get->Gg,slot_dict_update->G3,args_dict_keyiterator_next_1->G6,plain_list_iadd->G8,plainAttrs_dict->G9,args_zip_next_1->Hf,args_dict_get_3->Hg,entry_dict_keyiterator_next->Hl,entry_zip_next->Hr,entry_dict_get->Hs
open PySem.Builtin.Slice renaming slicePlaces->Fw,sliceAdjust->FU,sliceApplied->GC
open PySem.Builtin.Tuple renaming tupleExact->FA,tupleItemsOf->GB
open PySem.Builtin.Dict renaming updateFrom->FF,showsAll->F9,selfAndRest->GO,addKeywords->GP,pairItems->GV,mergeDict->GW
open False renaming elim->FK
open PySem.Calls renaming callWith_builtin->FN,spliced_cons->F3,evalArgs_plain->Gs,spliced_nil->GL,Name_function_global->G7
open PySem.Builtin.List renaming listFitsIndex->FR,listTooLong->FX,listItems->F4,listExtendWith->GD,listSameRef->GN
open PySem.Code renaming compLoop->Ge
open PySem.Builtin.Dict_items renaming ownsTuple->Gi
open Array renaming length_toList->GA
open PUnit renaming unit->Ht
open PySem.SeqAt.EqAt renaming str_int->HD,int_str->HE
open PySem.Heap.DictOf renaming new->HP
open PySem.Around renaming under_plainId->HQ
open PySem.PassesOwn renaming never->HV
set_option Elab.async false
set_option linter.all false
set_option maxRecDepth 100000
/-! THE Dz C9,for ints,bools,texts,own classes,Dc and tuples (index,slices,in,append,pop ..),calls,loops. Df it whole ahead of BQ own text; what BQ proof does not reach may be deleted. -/
theorem Kg:0<=PySem.sizeLine:=by decide
theorem Kh:1<=PySem.sizeLine:=by decide
theorem Ki:2<=PySem.sizeLine:=by decide
theorem Kj:3<=PySem.sizeLine:=by decide
theorem Kk:4<=PySem.sizeLine:=by decide
theorem Kl:5<=PySem.sizeLine:=by decide
namespace L2
open PySem PySem.Spec PyProof.Rows

/-- a key: an int or a str -/
abbrev Key:=Sum Int Str
def ju:Key->Value->Bool
 | .inl k,v=>Value.isInt k v
 | .inr x,v=>Value.isStrOf x v
def CD (w:World):Key->Int
 | .inl k=>hashInt k
 | .inr x=>hashStr w x
theorem aW:∀{k:Key} {v:Value},ju k v=true->(∃i t,k=Sum.inl i/\v=GG i t)\/(∃x t,k=Sum.inr x/\v=GZ x t)
 | .inl i,v,h=>by
   obtain ⟨t,e⟩:=Value.isInt_shape (k:=i) (v:=v) h
   exact .inl ⟨i,t,rfl,e⟩
 | .inr x,v,h=>by
   obtain ⟨t,e⟩:=Value.isStrOf_shape (x:=x) (v:=v) h
   exact .inr ⟨x,t,rfl,e⟩
theorem qa (i:Int)(t:Tok):ju (.inl i) (.int i t)=true:=by simp [ju,Value.isInt]
theorem qb (x:Str)(t:Tok):ju (.inr x) (.str x t)=true:=by simp [ju,Value.isStrOf]
theorem yg (a b:Int):decide ((Sum.inl a:Key)=Sum.inl b)=(a == b):=by
 by_cases e:a=b
 · subst e; simp
 · have h:¬ (Sum.inl a:Key)=Sum.inl b:=fun q=>e (Sum.inl.inj q)
   rw [decide_eq_false h]
   exact (beq_eq_false_iff_ne.mpr e).symm
theorem yj (a b:Str):decide ((Sum.inr a:Key)=Sum.inr b)=decide (a=b):=by
 by_cases e:a=b
 · subst e; simp
 · have h:¬ (Sum.inr a:Key)=Sum.inr b:=fun q=>e (Sum.inr.inj q)
   rw [decide_eq_false h,decide_eq_false e]
theorem yh (a:Int)(b:Str):decide ((Sum.inl a:Key)=Sum.inr b)=false:=decide_eq_false (fun q=>nomatch q)
theorem yi (a:Str)(b:Int):decide ((Sum.inr a:Key)=Sum.inl b)=false:=decide_eq_false (fun q=>nomatch q)

def aN (prog:Program)(w:World):PySem.KeyKind prog w Key where
 is:=ju
 hash:=CD w
 inj:=fun v a b ha hb=>by
   rcases aW ha with ⟨i,t,rfl,rfl⟩ | ⟨x,t,rfl,rfl⟩
   · rcases aW hb with ⟨j,u,rfl,e⟩ | ⟨y,u,rfl,e⟩
     · injection e with e1 _; rw [e1]
     · exact nomatch e
   · rcases aW hb with ⟨j,u,rfl,e⟩ | ⟨y,u,rfl,e⟩
     · exact nomatch e
     · injection e with e1 _; rw [e1]
 byValue:=fun k v h=>by
   rcases aW h with ⟨i,t,rfl,rfl⟩ | ⟨x,t,rfl,rfl⟩ <;> rfl
 pyHash:=fun hv h=>by
   rcases aW hv with ⟨i,t,rfl,rfl⟩ | ⟨x,t,rfl,rfl⟩
   · exact wpAny_pyHash_int h
   · exact wpAny_pyHash_str h
 eqBool:=fun hu hv h=>by
   rcases aW hu with ⟨i,t,rfl,rfl⟩ | ⟨x,t,rfl,rfl⟩
   · rcases aW hv with ⟨j,u,rfl,rfl⟩ | ⟨y,u,rfl,rfl⟩
     · rw [yg] at h; exact wpAny_eqBool_int h
     · rw [yh] at h; exact HE i t y u _ _ _ _ h
   · rcases aW hv with ⟨j,u,rfl,rfl⟩ | ⟨y,u,rfl,rfl⟩
     · rw [yi] at h; exact HD x t j u _ _ _ _ h
     · rw [yj] at h; exact wpAny_eqBool_str h
 «strs»:=fun k x t v h=>by
   rcases aW h with ⟨i,u,rfl,e⟩ | ⟨y,u,rfl,e⟩
   · exact nomatch e
   · injection e with e1 _
     subst e1
     cases v <;> rfl

theorem lE (prog:Program)(w:World)(i:Int)(t:Tok):(aN prog w).is (.inl i) (.int i t)=true:=qa i t
theorem lF (prog:Program)(w:World)(x:Str)(t:Tok):(aN prog w).is (.inr x) (.str x t)=true:=qb x t
end L2

namespace L2
open PySem PySem.Spec PyProof.Rows

/-- a value,without the heap -/
inductive V where
 | aU | bl (b:Bool) | int (i:Int) | str (x:Str) | byt (b:Array UInt8) | flt (b:UInt64) | ref (a:Addr) | ty (n:String)
 deriving DecidableEq

def RelV:V->Value->Prop
 | .aU,u=>u=Fm
 | .bl b,u=>u=FI b
 | .int i,u=>∃t,u=GG i t
 | .str x,u=>∃t,u=GZ x t
 | .byt b,u=>∃t,u=Value.bytes b t
 | .flt b,u=>∃t,u=Value.float b t
 | .ref a,u=>u=Ep a
 | .ty n,u=>u=FD n

abbrev Vals:List V->List Value->Prop:=Paired RelV
theorem Vals.length {xs:List V}{us:List Value}(r:Vals xs us):xs.length=us.length:=Paired.length r
theorem Vals.get:∀{xs:List V} {us:List Value} {i:Nat} {x:V},Vals xs us->xs[i]? = some x->∃u,us[i]? = some u/\RelV x u
 | _,_,_,_,.nil,e=>by simp at e
 | _,_,0,_,.cons r _,e=>by simp at e; subst e; exact ⟨_,rfl,r⟩
 | _,_,i + 1,x,.cons _ t,e=>by
   obtain ⟨u,h1,h2⟩:=Vals.get (i:=i) (x:=x) t (by simpa using e)
   exact ⟨u,by simpa using h1,h2⟩
theorem Vals.set {x:V}{u:Value}(r:RelV x u):∀{xs:List V} {us:List Value} (i:Nat),Vals xs us->Vals (xs.set i x) (us.set i u)
 | _,_,_,.nil=>.nil
 | _,_,0,.cons _ t=>.cons r t
 | _,_,i + 1,.cons q t=>.cons q (Vals.set r i t)
theorem Vals.append:∀{xs ys:List V} {us ws:List Value},Vals xs us->Vals ys ws->Vals (xs++ys) (us++ws)
 | _,_,_,_,.nil,s=>s
 | _,_,_,_,.cons r t,s=>.cons r (Vals.append t s)
theorem Vals.take:∀{xs:List V} {us:List Value} (n:Nat),Vals xs us->Vals (xs.take n) (us.take n)
 | _,_,0,_=>.nil
 | _,_,_ + 1,.nil=>.nil
 | _,_,n + 1,.cons r t=>.cons r (Vals.take n t)
theorem Vals.drop:∀{xs:List V} {us:List Value} (n:Nat),Vals xs us->Vals (xs.drop n) (us.drop n)
 | _,_,0,r=>r
 | _,_,_ + 1,.nil=>.nil
 | _,_,n + 1,.cons _ t=>Vals.drop n t
def ff:Option V->Option Value->Prop
 | some v,some u=>RelV v u
 | none,none=>True
 | _,_=>False
def KV {κ:Type}:List (κ×V)->List (κ×Value)->Prop:=Paired fun (p:κ×V) (q:κ×Value)=>p.1=q.1/\RelV p.2 q.2

/-- a key of a dict (00DG): an int or a text -/
def kV:Key->V
 | .inl i=>.int i
 | .inr x=>.str x

/-- what stands at a tracked address -/
inductive HO where
 /-- a list -/
 | lst (xs:List V)
 /-- a tuple (never changes) -/
 | tup (xs:List V)
 /-- a dict whose keys are ints and texts; one whose keys are tuples of ints and texts (the empty one is both) -/
 | dK (kvs:List (Key×V)) | dT (kvs:List (List Key×V))
 /-- a set of ints: its members,its size -/
 | set (S:Int->Bool) (n:Nat)
 /-- an instance of the class at C,its dict at dx,its attributes -/
 | ins (C dx:Addr) (fs:List (Str×V))
 /-- the dict of the instance at x -/
 | own (x:Addr)
 /-- the dict of an exception -/
 | xd (fs:List (Str×V))
 /-- a bound method,f of x -/
 | met (f x:Addr)
 /-- a range object lo,lo + 1,.. below hi -/
 | rng (lo hi:Int)
 /-- a BM that is known to the object (the kA; a dict while a loop walks it): read,never written while it is so -/
 | frz (o:Obj) (u:HO)
 /-- a code sF table -/
 | tbl (ps:Array Value)
 /-- any other BM,by what is true of its one object (a def of Dn own: DF a S n:=HO.ext fun h=>..) -/
 | ext (φ:Heap->Prop)

abbrev Hp:=Addr->Option HO
def upd (H:Hp)(a:Addr)(o:HO):Hp:=fun b=>if b=a then some o else H b
theorem ae {H:Hp}{a:Addr}{o:HO}:upd H a o a=some o:=by unfold upd; rw [if_pos rfl]
theorem aB {H:Hp}{a b:Addr}{o:HO}(h:b≠a):upd H a o b=H b:=by unfold upd; rw [if_neg h]
theorem oP {H:Hp}{a:Addr}{o u:HO}:upd (upd H a o) a u=upd H a u:=by
 funext b; unfold upd; split <;> rfl
/-- two objects of zP content stand apart -/
theorem cC {H:Hp}{a b:Addr}{o u:HO}(h:H a=some o)(h':H b=some u)(d:o≠u):a≠b:=by
 intro e; subst e; rw [h] at h'; exact d (EH h')
theorem au {H:Hp}{a b:Addr}{o:HO}(h:H a=some o)(h':H b=none):a≠b:=by
 intro e; subst e; rw [h] at h'; cases h'

section
variable (P:Program)(w:World)
def aQ (H:Hp)(h:Heap)(a:Addr):HO->Prop
 | .lst xs=>xs.length<=sizeLine/\∃(its:List Value) (n:Nat),Vals xs its/\h.get? a=some { cls:=.type "list",data:=.seq its.toArray n }
 | .tup xs=>xs.length<=sizeLine/\∃its:List Value,Vals xs its/\IsTup h a its.toArray
 | .dK kvs=>kvs.length<=sizeLine/\(a == sysModules)=false/\∃vs,KV kvs vs/\h.DictOf (aN P w) a vs
 | .dT kvs=>kvs.length<=sizeLine/\(a == sysModules)=false/\∃xs:List (List Key×Addr×Value),
     Paired (fun (p:List Key×V) (q:List Key×Addr×Value)=>p.1=q.1/\H q.2.1=some (.tup (p.1.map kV))/\RelV p.2 q.2.2) kvs xs /\
     ∃o es ep,h.get? a=some o/\o.ExactDict/\o.data=.dict es ep/\es.toList=xs.map (entryOfKey (tupleKind (aN P w)))/\(xs.map (·.1)).Nodup
 | .set S n=>h.SetOf (intKind P w) a S n
 | .ins C dx fs=>H dx=some (.own a)/\fs.length<=1000/\dx≠a/\h.get? a=some (GS C dx) /\
     ∃mA,h.Ns1 dx mA/\(∀f,ff (fs.lookup f) (mA f))/\PySem.Within mA (fs.map (·.1))
 | .own _=>∃o,h.get? a=some o
 | .xd fs=>∃mA,h.Ns1 a mA/\∀f,ff (fs.lookup f) (mA f)
 | .rng lo hi=>∃t u v,h.get? a=some { cls:=.type "range",data:=.fields #[.int lo t,.int hi u,.int 1 v] }
 | .frz o u=>h.get? a=some o/\aQ H h a u
 | .tbl ps=>h.get? a=some { cls:=.none,data:=.fields ps }
 | .met f x=>h.get? a=some (GH (.ref f) (.ref x))
 | .ext φ=>φ h/\(∃o,h.get? a=some o)/\∀h1 h2:Heap,φ h1->(∀o,h1.get? a=some o->h2.get? a=some o)->φ h2
/-- the abstract heap is held -/
def ei (H:Hp)(h:Heap):Prop:=∀a o,H a=some o->aQ P w H h a o
end

section
variable {P:Program}{w:World}{H H':Hp}{h h':Heap}{a:Addr}{o:HO}
theorem aQ.lt (x:aQ P w H h a o):a < h.objs.size:=by
 cases o with
 | lst xs=>obtain ⟨_,_,_,_,e⟩:=x; exact Ek e
 | tup xs=>obtain ⟨_,_,_,p⟩:=x; exact p.lt
 | dK kvs=>obtain ⟨_,_,_,_,o,_,_,e,_⟩:=x; exact Ek e
 | dT kvs=>obtain ⟨_,_,_,_,o,_,_,e,_⟩:=x; exact Ek e
 | set S n=>obtain ⟨o,_,_,_,e,_⟩:=x; exact Ek e
 | ins C dx fs=>obtain ⟨_,_,_,e,_⟩:=x; exact Ek e
 | own y=>obtain ⟨_,e⟩:=x; exact Ek e
 | xd fs=>obtain ⟨_,⟨_,_,_,e,_⟩,_⟩:=x; exact Ek e
 | rng lo hi=>obtain ⟨_,_,_,e⟩:=x; exact Ek e
 | frz ob u=>obtain ⟨e,_⟩:=x; exact Ek e
 | tbl ps=>exact Ek (show h.get? a=some _ from x)
 | met f y=>exact Ek (show h.get? a=some _ from x)
 | ext φ=>obtain ⟨_,⟨_,e⟩,_⟩:=x; exact Ek e
theorem Paired.mapP {α β:Type}{F G:α->β->Prop}:∀{l₁:List α} {l₂:List β},Paired F l₁ l₂->(∀a b,F a b->G a b)->Paired G l₁ l₂
 | _,_,.nil,_=>.nil
 | _,_,.cons r t,f=>.cons (f _ _ r) (Paired.mapP t f)
/-- what an sF description Dk on: its own object,its own dict,the tuples -/
theorem aQ.stay (x:aQ P w H h a o)(k:∀b u,(b=a\/H b=some (.own a))->h.get? b=some u->h'.get? b=some u)
   (ho:∀b,H b=some (.own a)->H' b=some (.own a)) (ht:∀b xs,H b=some (.tup xs)->H' b=some (.tup xs)):aQ P w H' h' a o:=by
 induction o with
 | lst xs=>obtain ⟨z,its,n,r,e⟩:=x; exact ⟨z,its,n,r,k _ _ (.inl rfl) e⟩
 | tup xs=>obtain ⟨z,its,r,ob,e,c⟩:=x; exact ⟨z,its,r,ob,k _ _ (.inl rfl) e,c⟩
 | dK kvs=>obtain ⟨z,y,vs,r,ob,es,ep,e,c⟩:=x; exact ⟨z,y,vs,r,ob,es,ep,k _ _ (.inl rfl) e,c⟩
 | dT kvs=>
   obtain ⟨z,y,xs,r,ob,es,ep,e,c⟩:=x
   exact ⟨z,y,xs,Paired.mapP r fun p q z=>⟨z.1,ht _ _ z.2.1,z.2.2⟩,ob,es,ep,k _ _ (.inl rfl) e,c⟩
 | set S n=>obtain ⟨ob,es,ep,t,e,c⟩:=x; exact ⟨ob,es,ep,t,k _ _ (.inl rfl) e,c⟩
 | ins C dx fs=>
   obtain ⟨d,z,ne,e,mA,⟨od,es,ep,e2,c⟩,r⟩:=x
   exact ⟨ho _ d,z,ne,k _ _ (.inl rfl) e,mA,⟨od,es,ep,k _ _ (.inr d) e2,c⟩,r⟩
 | own y=>obtain ⟨ob,e⟩:=x; exact ⟨ob,k _ _ (.inl rfl) e⟩
 | xd fs=>obtain ⟨mA,⟨od,es,ep,e,c⟩,r⟩:=x; exact ⟨mA,⟨od,es,ep,k _ _ (.inl rfl) e,c⟩,r⟩
 | rng lo hi=>obtain ⟨t,u,v,e⟩:=x; exact ⟨t,u,v,k _ _ (.inl rfl) e⟩
 | frz ob u ih=>obtain ⟨e,q⟩:=x; exact ⟨k _ _ (.inl rfl) e,ih q⟩
 | tbl ps=>
   have e:h.get? a=some { cls:=.none,data:=.fields ps }:=x
   show h'.get? a=some { cls:=.none,data:=.fields ps }
   exact k a _ (.inl rfl) e
 | met f y=>
   have e:h.get? a=some (GH (.ref f) (.ref y)):=x
   show h'.get? a=some (GH (.ref f) (.ref y))
   exact k a _ (.inl rfl) e
 | ext φ=>obtain ⟨p,⟨o,e⟩,st⟩:=x; exact ⟨st _ _ p fun o q=>k _ _ (.inl rfl) q,⟨o,k _ _ (.inl rfl) e⟩,st⟩
theorem ei.lt (x:ei P w H h)(e:H a=some o):a < h.objs.size:=(x a o e).lt
theorem ei.fresh (x:ei P w H h)(e:h.objs.size<=a):H a=none:=by
 cases q:H a with
 | none=>rfl
 | some u=>exact absurd (Eu (x.lt q) e) (Ft _)
/-- nV object of the heap is kept -/
theorem ei.kept (x:ei P w H h)(k:∀b u,h.get? b=some u->h'.get? b=some u):ei P w H h':=fun a o e=>
 (x a o e).stay (fun b u _ q=>k b u q) (fun _ q=>q) fun _ _ q=>q
/-- a new object is laid and tracked -/
theorem ei.laid (x:ei P w H h)(k:∀b u,h.get? b=some u->h'.get? b=some u)(hp:h.objs.size<=a)(new:aQ P w (upd H a o) h' a o):ei P w (upd H a o) h':=fun b u e=>by
 have hn:=x.fresh hp
 by_cases hb:b=a
 · subst hb; rw [ae] at e; cases e; exact new
 · rw [aB hb] at e
   exact (x b u e).stay (fun c v _ q=>k c v q) (fun c q=>by rw [aB (au q hn)]; exact q) fun c xs q=>by rw [aB (au q hn)]; exact q
end

/-- what may be read as u: it is u,or a known u -/
def Rd (H:Hp)(a:Addr)(u:HO):Prop:=H a=some u\/∃o,H a=some (.frz o u)
theorem Rd.ok {P:Program}{w:World}{H:Hp}{h:Heap}{a:Addr}{u:HO}(r:Rd H a u)(x:ei P w H h):aQ P w H h a u:=by
 rcases r with r | ⟨o,r⟩
 · exact x a u r
 · obtain ⟨_,q⟩:=x a _ r
   exact q
/-- what may be written -/
def z5:Option HO->Prop
 | some (.lst _)=>True
 | some (.dK _)=>True
 | some (.dT _)=>True
 | some (.set _ _)=>True
 | some (.ins _ _ _)=>True
 | some (.ext _)=>True
 | _=>False
section
variable {P:Program}{w:World}{H:Hp}{h h':Heap}{x e:Addr}{o':HO}
/-- the object at e is changed: x itself,or the dict of the instance x -/
theorem ei.write (ok:ei P w H h)(mu:z5 (H x))(he:e=x\/H e=some (.own x))(k:∀b u,b≠e->h.get? b=some u->h'.get? b=some u)(heo:∃u,h'.get? e=some u)
   (new:aQ P w (upd H x o') h' x o'):ei P w (upd H x o') h':=fun b u q=>by
 have nown:∀c y,H c=some (.own y)->c≠x:=fun c y r z=>by subst z; rw [r] at mu; exact mu
 have ntup:∀c xs,H c=some (.tup xs)->c≠x:=fun c xs r z=>by subst z; rw [r] at mu; exact mu
 by_cases hb:b=x
 · subst hb; rw [ae] at q; cases q; exact new
 · rw [aB hb] at q
   by_cases x3:b=e
   · have q':H b=some (.own x):=by
       rcases he with z | z
       · exact absurd (x3.trans z) hb
       · rw [x3]; exact z
     rw [q] at q'; cases q'
     obtain ⟨v,hv⟩:=heo
     exact ⟨v,by rw [x3]; exact hv⟩
   · refine (ok b u q).stay (fun c v hc r=>k c v ?_ r) (fun c r=>by rw [aB (nown c b r)]; exact r) fun c xs r=>by rw [aB (ntup c xs r)]; exact r
     rcases hc with rfl | hc
     · exact x3
     · rintro rfl
       rcases he with z | z
       · exact nown c b hc z
       · rw [hc] at z; cases z; exact hb rfl
end

/-! ### kept unless tracked; of the frames at fs (the gX) the slots may change (an exception that passes writes there); of the records at ex (iterators) nothing is said -/
structure Un (fs ex:List Addr)(H H':Hp)(h h':Heap):Prop where
 keep:∀b o,h.get? b=some o->H b=none->b ∉ fs->b ∉ ex->h'.get? b=some o
 slot:∀b o,h.get? b=some o->H b=none->b∈fs->b ∉ ex->∃sl,h'.get? b=some { o with slots:=sl }
 free:∀b o,h.get? b=some o->H b=none->b ∉ ex->H' b=none
 there:∀b o,h.get? b=some o->b ∉ ex->∃o',h'.get? b=some o'
 tups:∀b xs,H b=some (.tup xs)->H' b=some (.tup xs)
 frzs:∀b o u,H b=some (.frz o u)->H' b=some (.frz o u)
 tbls:∀b ps,H b=some (.tbl ps)->∃more,H' b=some (.tbl (ps++more))
section
variable {fs DJ ex DX:List Addr}{H H1 H2:Hp}{h h1 h2 h':Heap}{a x e:Addr}{o:HO}
theorem Un.any (u:Un fs ex H H1 h h1){b:Addr}{ob:Obj}(q:h.get? b=some ob)(n:H b=none)(hx:b ∉ ex):∃sl,h1.get? b=some { ob with slots:=sl }:=by
 by_cases hb:b∈fs
 · exact u.slot b ob q n hb hx
 · exact ⟨ob.slots,u.keep b ob q n hb hx⟩
theorem Un.kept (k:∀b u,h.get? b=some u->h'.get? b=some u):Un fs ex H H h h':=
 ⟨fun b ob q _ _ _=>k b ob q,fun b ob q _ _ _=>⟨ob.slots,k b ob q⟩,fun _ _ _ n _=>n,fun b ob q _=>⟨ob,k b ob q⟩,fun _ _ q=>q,fun _ _ _ q=>q,fun _ ps q=>⟨#[],by rw [q]; simp⟩⟩
theorem Un.refl:Un fs ex H H h h:=Un.kept fun _ _ q=>q
theorem Un.laid (k:∀b u,h.get? b=some u->h'.get? b=some u)(hp:h.objs.size<=a)(hn:H a=none):Un fs ex H (upd H a o) h h' where
 keep:=fun b u q _ _ _=>k b u q
 slot:=fun b u q _ _ _=>⟨u.slots,k b u q⟩
 free:=fun b u q n _=>by rw [aB (Ex (Eu (Ek q) hp))]; exact n
 there:=fun b u q _=>⟨u,k b u q⟩
 tups:=fun b xs q=>by rw [aB (au q hn)]; exact q
 frzs:=fun b u xs q=>by rw [aB (au q hn)]; exact q
 tbls:=fun b ps q=>⟨#[],by rw [aB (au q hn),q]; simp⟩
theorem Un.write (mu:z5 (H x))(he:e=x\/H e=some (.own x))(k:∀b u,b≠e->h.get? b=some u->h'.get? b=some u)(heo:∃u,h'.get? e=some u):Un fs ex H (upd H x o) h h':=by
 have hx:∀b,H b=none->b≠x:=fun b n z=>by subst z; rw [n] at mu; exact mu
 have hb:∀b,H b=none->b≠e:=fun b n z=>by
   subst z
   rcases he with r | r
   · exact hx b n r
   · rw [n] at r; cases r
 have hm:∀b u,H b=some u->¬ z5 (some u)->b≠x:=fun b u q nm z=>by subst z; rw [q] at mu; exact nm mu
 refine ⟨fun b u q n _ _=>k b u (hb b n) q,fun b u q n _ _=>⟨u.slots,k b u (hb b n) q⟩,fun b u q n _=>by rw [aB (hx b n)]; exact n,fun b u q _=>?_,
   fun b xs q=>by rw [aB (hm b _ q fun z=>z)]; exact q,fun b u xs q=>by rw [aB (hm b _ q fun z=>z)]; exact q,fun b ps q=>⟨#[],by rw [aB (hm b _ q fun z=>z),q]; simp⟩⟩
 by_cases x3:b=e
 · subst x3; exact heo
 · exact ⟨u,k b u x3 q⟩
end

/-! ### the heap without what is tracked -/
def Cd (h:Heap)(H:Hp):List Addr:=(Ew h.objs.size).filter fun a=>(H a).isSome
def j6 (h:Heap)(H:Hp):Heap:=PySem.W.hideAll h (Cd h H)
theorem pV (h:Heap)(H:Hp):(j6 h H).objs.size=h.objs.size:=PySem.W.hideAll_size _ _
theorem rQ {h:Heap}{H:Hp}{b:Addr}{o:Obj}(e:h.get? b=some o)(n:H b=none):(j6 h H).get? b=some o:=
 PySem.W.hideAll_get _ e fun hm=>by
   have q:(H b).isSome=true:=(List.mem_filter.mp hm).2
   rw [n] at q; simp at q
theorem vo {h:Heap}{H:Hp}{b:Addr}{o:Obj}(e:(j6 h H).get? b=some o):h.get? b=some o/\H b=none:=by
 have e':h.get? b=some o:=PySem.W.of_hideAll (Cd h H) e
 refine ⟨e',?_⟩
 cases q:H b with
 | none=>rfl
 | some x=>
   have hm:b∈Cd h H:=List.mem_filter.mpr ⟨List.mem_range.mpr (Ek e'),by simp [q]⟩
   have z:(j6 h H).get? b=none:=PySem.W.hideAll_none (Cd h H) hm
   rw [z] at e; cases e

/-! ### BW ledger,filled with nV new object but one -/
end L2

namespace L2
open PySem PySem.Spec PyProof.Rows

/-- the ip facts,over the base: the heap at the law's entry without what is tracked there -/
structure Mod (K:D9)(mg:Str->Option Value)(base:Heap):Prop where
 kin:K.In base
 glob:base.Ns mainGlobals mg
 blt:∃mb,base.Ns builtinsNs mb/\∀x:Str,x≠"__name__"->mb x=bootBuiltins x
 nolimit:base.NoLimit

/-- the context: a def's body (or a comprehension's block) running. base: fixed through the whole law; s₀,H₀: the entry; outer: the frames whose slots others may change (a def's B3); stack: all frames that run;
  ex: iterators that C0 made ahead of the entry and are walked here (a comprehension's); fn: the names whose cells C0 made at the entry (a def: all; a comprehension's block: its own); calm: not within an except suite; pn: pins that nV state bears; xe: what is wanted of an exception that leaves the code -/
structure Cx where
 prog:Program
 w:World
 K:D9
 mg:Str->Option Value
 base:Heap
 A:Around
 N:List Str
 s₀:Shared
 H₀:Hp
 env:Env
 outer:List Env
 stack:List Env
 ex:List Addr
 fn:Str->Bool
 calm:Bool
 pn:List (Addr×Obj)
 xe:Value->Shared->Prop
/-- the gX frames -/
def rp (l:List Env):List Addr:=l.filterMap (·.frame)
abbrev Cx.fs (X:Cx):List Addr:=rp X.outer

def B0 (sc:Scope)(x:Str):Prop:=sc.names.lookup x=some .local\/sc.names.lookup x=some .cell\/sc.names.lookup x=some .free
def Loc (sc:Scope)(x:Str):Prop:=sc.names.lookup x=some .local\/sc.names.lookup x=some .cell
def Look (env:Env)(h:Heap)(m:Str->Option Value)(x:Str)(u:Value):Prop:=
 (env.kindOf x=some .local/\m x=some u)\/((env.kindOf x=some .cell\/env.kindOf x=some .free)/\∃c,env.cells.lookup x=some c/\h.IsCell c (some u))

structure Cx.Ok (X:Cx):Prop where
 mod:Mod X.K X.mg X.base
 kind:X.env.scope.kind=.function
 glob:X.env.globals=mainGlobals
 blt:X.env.builtins=builtinsNs
 above:X.s₀.heap.objs.size<=X.env.locals
 inj:∀x y c,X.env.cells.lookup x=some c->X.env.cells.lookup y=some c->x=y
 has:∀x,(X.env.kindOf x=some .cell\/X.env.kindOf x=some .free)->∃c,X.env.cells.lookup x=some c
 cab:∀x c,X.fn x=true->X.env.cells.lookup x=some c->X.s₀.heap.objs.size<=c
 hd:X.calm=true->X.A.handled=none
 frames:X.A.frames=some X.stack
 stk:X.stack=X.outer\/(X.stack=X.env :: X.outer/\X.env.frame=some X.env.locals)
 exf:∀b∈X.ex,b≠X.env.locals/\∀x c,X.env.cells.lookup x=some c->c≠b
 bs:∀b o,X.base.get? b=some o->X.s₀.heap.get? b=some o/\X.H₀ b=none
 bsz:X.base.objs.size<=X.s₀.heap.objs.size
 noex:∀b o,X.base.get? b=some o->b ∉ X.ex
 exfs:∀b∈X.ex,b ∉ X.fs
 g8:X.s₀.heap.FunFrames X.base X.outer
 frf:∀b∈X.fs,X.H₀ b=none

structure Inv (X:Cx)(pins:List (Addr×Obj))(σ:List (Option V))(H:Hp)(s:Shared):Prop where
 ok:X.Ok
 os:s.os=X.s₀.os
 bare:AllBare s.gens
 base:Un X.fs X.ex X.H₀ H X.s₀.heap s.heap
 loc:∃m,s.heap.Ns X.env.locals m/\∀(i:Nat) (x:Str) (v:V),X.N[i]? = some x->σ[i]? = some (some v)->B0 X.env.scope x->∃u,RelV v u/\Look X.env s.heap m x u
 cell:∀x c,X.env.cells.lookup x=some c->∃v,s.heap.IsCell c v
 free:H X.env.locals=none
 freeC:∀x c,X.env.cells.lookup x=some c->H c=none
 pin:∀p∈X.pn++pins,s.heap.get? p.1=some p.2/\H p.1=none/\p.1≠X.env.locals/\p.1 ∉ X.fs/\∀v,p.2.data≠.cell v
 hok:ei X.prog X.w H s.heap
 len:σ.length=X.N.length

section
variable {X:Cx}{pins:List (Addr×Obj)}{σ:List (Option V)}{H H':Hp}{s:Shared}{h':Heap}

theorem Cx.Ok.CI (ok:X.Ok){b:Addr}{o:Obj}(e:X.base.get? b=some o):b ∉ X.fs:=fun hb=>by
 have:=(ok.g8.mem hb).1
 rw [e] at this; cases this
theorem Inv.bs (I:Inv X pins σ H s):∀b o,X.base.get? b=some o->s.heap.get? b=some o/\H b=none:=fun b o e=>
 ⟨I.base.keep b o (I.ok.bs b o e).1 (I.ok.bs b o e).2 (I.ok.CI e) (I.ok.noex b o e),I.base.free b o (I.ok.bs b o e).1 (I.ok.bs b o e).2 (I.ok.noex b o e)⟩
theorem Inv.bk (I:Inv X pins σ H s):∀b o,X.base.get? b=some o->s.heap.get? b=some o:=fun b o e=>(I.bs b o e).1
theorem Inv.mod (I:Inv X pins σ H s):Mod X.K X.mg X.base:=I.ok.mod
theorem Inv.kIn (I:Inv X pins σ H s):X.K.In s.heap:=I.ok.mod.kin.keeps I.bk
theorem Inv.lt (I:Inv X pins σ H s):X.env.locals < s.heap.objs.size:=let ⟨_,hn,_⟩:=I.loc; hn.lt
theorem Inv.sz (I:Inv X pins σ H s):X.s₀.heap.objs.size<=s.heap.objs.size:=EX I.ok.above (E9 I.lt)
theorem Inv.CJ (I:Inv X pins σ H s){a:Addr}(h:s.heap.objs.size<=a):a ∉ X.fs:=fun hb=>by
 obtain ⟨_,o,ho,_⟩:=I.ok.g8.mem hb
 exact absurd (Eu (Ek ho) (EX I.sz h)) (Ft _)
theorem Inv.xA (I:Inv X pins σ H s):∀x c,X.env.cells.lookup x=some c->c≠X.env.locals:=fun x c e z=>by
 obtain ⟨v,o,ho,hd⟩:=I.cell x c e
 obtain ⟨m,⟨o',es,ep,ho',hd',_⟩,_⟩:=I.loc
 rw [z,ho'] at ho; cases ho; rw [hd'] at hd; cases hd
theorem Inv.g8 (I:Inv X pins σ H s):s.heap.FunFrames X.base X.outer:=by
 have all:∀(l:List Env),(∀b∈rp l,b∈X.fs)->X.s₀.heap.FunFrames X.base l->s.heap.FunFrames X.base l:=by
   intro l
   induction l with
   | nil=>intro _ _; trivial
   | cons env r ih=>
     intro hs hl
     obtain ⟨hk,⟨L,o,hf,hn,ho,hd⟩,hr⟩:=hl
     have hL:L∈X.fs:=hs L (by unfold rp; rw [FJ,hf]; exact Fi)
     obtain ⟨sl,e⟩:=I.base.slot L o ho (I.ok.frf L hL) hL fun z=>I.ok.exfs L z hL
     exact ⟨hk,⟨L,_,hf,hn,e,hd⟩,ih (fun b hb=>hs b (by unfold rp; rw [FJ,hf]; exact Fn _ hb)) hr⟩
 exact all X.outer (fun _ hb=>hb) I.ok.g8

/-- the frames that run,for a call -/
theorem Inv.stack (I:Inv X pins σ H s):s.heap.FunFrames X.base X.stack:=by
 rcases I.ok.stk with e | ⟨e,hf⟩
 · rw [e]; exact I.g8
 · rw [e]
   obtain ⟨m,hn,_⟩:=I.loc
   refine .cons (by rw [I.ok.kind]; decide) hf hn ?_ I.g8
   exact Heap.get?_none_of_le (EX I.ok.bsz I.ok.above)
theorem Inv.stkSub (I:Inv X pins σ H s):∀b∈rp X.stack,b∈X.env.locals :: X.fs:=fun b hb=>by
 rcases I.ok.stk with e | ⟨e,hf⟩
 · rw [e] at hb; exact Fn _ hb
 · rw [e] at hb
   unfold rp at hb
   rw [FJ,hf] at hb
   exact hb
theorem Inv.stkFree (I:Inv X pins σ H s):∀b∈rp X.stack,H b=none:=fun b hb=>by
 rcases List.mem_cons.mp (I.stkSub b hb) with e | hb
 · rw [e]; exact I.free
 · obtain ⟨_,o,ho,_⟩:=I.ok.g8.mem hb
   exact I.base.free b o ho (I.ok.frf b hb) fun z=>I.ok.exfs b z hb

/-- THE DE: the qH objects but the frame and the records at ch are kept (the gX frames up to slots),the nY map is kept,the new abstract heap is held -/
theorem Inv.step {g':Array GenState}{t':Nat}{d':Drawn}{ch:List Addr}(I:Inv X pins σ H s)
   (hch:∀b∈ch,(b∈X.ex\/X.s₀.heap.objs.size<=b)/\b≠X.env.locals/\(∀x c,X.env.cells.lookup x=some c->c≠b)/\∀p∈X.pn++pins,p.1≠b)
   (keep:∀b o,b≠X.env.locals->b ∉ X.fs->b ∉ ch->s.heap.get? b=some o->H b=none->h'.get? b=some o)
   (slot:∀b o,b≠X.env.locals->b∈X.fs->b ∉ ch->s.heap.get? b=some o->H b=none->∃sl,h'.get? b=some { o with slots:=sl }) (free:∀b o,b ∉ ch->s.heap.get? b=some o->H b=none->H' b=none)
   (there:∀b o,b ∉ ch->s.heap.get? b=some o->∃o',h'.get? b=some o')
   (tups:∀b xs,H b=some (.tup xs)->H' b=some (.tup xs)) (frzs:∀b o u,H b=some (.frz o u)->H' b=some (.frz o u)) (tbls:∀b ps,H b=some (.tbl ps)->∃more,H' b=some (.tbl (ps++more)))
   (ns:∀m,s.heap.Ns X.env.locals m->h'.Ns X.env.locals m) (hok:ei X.prog X.w H' h') (hg:AllBare g') :
   Inv X pins σ H' { s with heap:=h',gens:=g',drawn:=d',toks:=t' }:=by
 have neL:∀b o,X.s₀.heap.get? b=some o->b≠X.env.locals:=fun b o e=>Ex (Eu (Ek e) I.ok.above)
 have neC:∀b o,X.s₀.heap.get? b=some o->b ∉ X.ex->b ∉ ch:=fun b o e hx hb=>by
   rcases (hch b hb).1 with z | z
   · exact hx z
   · exact absurd (Eu (Ek e) z) (Ft _)
 have cellK:∀x c,X.env.cells.lookup x=some c->∀v,s.heap.IsCell c v->h'.IsCell c v:=fun x c e v ⟨o,ho,hd⟩=>by
   have nch:c ∉ ch:=fun z=>(hch c z).2.2.1 x c e rfl
   by_cases hc:c∈X.fs
   · obtain ⟨sl,q⟩:=slot c o (I.xA x c e) hc nch ho (I.freeC x c e)
     exact ⟨_,q,hd⟩
   · exact ⟨o,keep c o (I.xA x c e) hc nch ho (I.freeC x c e),hd⟩
 refine ⟨I.ok,I.os,hg,⟨fun b o e n hb hx=>?_,fun b o e n hb hx=>?_,fun b o e n hx=>?_,fun b o e hx=>?_,fun b xs e=>tups b xs (I.base.tups b xs e),fun b o xs e=>frzs b o xs (I.base.frzs b o xs e),fun b ps e=>?_⟩,?_,fun x c e=>?_,?_,fun x c e=>?_,fun p hp=>?_,hok,I.len⟩
 · exact keep b o (neL b o e) hb (neC b o e hx) (I.base.keep b o e n hb hx) (I.base.free b o e n hx)
 · obtain ⟨sl,e1⟩:=I.base.slot b o e n hb hx
   obtain ⟨DP,e2⟩:=slot b _ (neL b o e) hb (neC b o e hx) e1 (I.base.free b o e n hx)
   exact ⟨DP,e2⟩
 · obtain ⟨o',e1⟩:=I.base.there b o e hx
   exact free b o' (neC b o e hx) e1 (I.base.free b o e n hx)
 · obtain ⟨o',e1⟩:=I.base.there b o e hx
   exact there b o' (neC b o e hx) e1
 · obtain ⟨m1,e1⟩:=I.base.tbls b ps e
   obtain ⟨m2,e2⟩:=tbls b _ e1
   exact ⟨m1++m2,by rw [e2,Array.append_assoc]⟩
 · obtain ⟨m,hn,hl⟩:=I.loc
   refine ⟨m,ns m hn,fun i x v e1 e2 e3=>?_⟩
   obtain ⟨u,r,l⟩:=hl i x v e1 e2 e3
   refine ⟨u,r,?_⟩
   rcases l with l | ⟨k,c,e,z⟩
   · exact .inl l
   · exact .inr ⟨k,c,e,cellK x c e _ z⟩
 · obtain ⟨v,z⟩:=I.cell x c e
   exact ⟨v,cellK x c e v z⟩
 · obtain ⟨m,⟨o,_,_,ho,_⟩,_⟩:=I.loc
   exact free _ o (fun z=>(hch _ z).2.1 rfl) ho I.free
 · obtain ⟨v,o,ho,hd⟩:=I.cell x c e
   exact free c o (fun z=>(hch c z).2.2.1 x c e rfl) ho (I.freeC x c e)
 · obtain ⟨e,n,ne,nf,d⟩:=I.pin p hp
   have nch:p.1 ∉ ch:=fun z=>(hch p.1 z).2.2.2 p hp rfl
   exact ⟨keep p.1 p.2 ne nf nch e n,free p.1 p.2 nch e n,ne,nf,d⟩
/-- .. where the nY own object is kept too -/
theorem Inv.un {t':Nat}(I:Inv X pins σ H s)(u:Un X.fs [] H H' s.heap h')(hok:ei X.prog X.w H' h'):Inv X pins σ H' { s with heap:=h',toks:=t' }:=by
 obtain ⟨m,⟨o,es,ep,ho,r⟩,_⟩:=id I.loc
 obtain ⟨sl,hL⟩:=u.any ho I.free (by simp)
 exact I.step (g':=s.gens) (d':=s.drawn) (ch:=[]) (fun _ z=>nomatch z) (fun b o _ hb _ e n=>u.keep b o e n hb (by simp)) (fun b o _ hb _ e n=>u.slot b o e n hb (by simp)) (fun b o _ e n=>u.free b o e n (by simp)) (fun b o _ e=>u.there b o e (by simp)) u.tups u.frzs u.tbls (fun m' hm=>by
   obtain ⟨o',es',ep',ho',r'⟩:=hm
   rw [ho] at ho'; cases ho'
   exact ⟨_,es',ep',hL,r'⟩) hok I.bare
/-- behind a call (or a comprehension's block): the slots of this frame may have changed too,the records at ch may have turned -/
theorem Inv.call {g':Array GenState}{t':Nat}{d':Drawn}{ch:List Addr}(I:Inv X pins σ H s)(u:Un (rp X.stack) ch H H' s.heap h')(hok:ei X.prog X.w H' h')(hg:AllBare g')
   (hch:∀b∈ch,(b∈X.ex\/X.s₀.heap.objs.size<=b)/\b≠X.env.locals/\(∀x c,X.env.cells.lookup x=some c->c≠b)/\∀p∈X.pn++pins,p.1≠b) :
   Inv X pins σ H' { s with heap:=h',gens:=g',drawn:=d',toks:=t' }:=by
 obtain ⟨m,⟨o,es,ep,ho,r⟩,_⟩:=id I.loc
 obtain ⟨sl,hL⟩:=u.any ho I.free fun z=>(hch _ z).2.1 rfl
 exact I.step (ch:=ch) hch (fun b o hL hb hc e n=>u.keep b o e n (fun z=>(List.mem_cons.mp (I.stkSub b z)).elim hL hb) hc) (fun b o _ _ hc e n=>u.any e n hc) (fun b o hc e n=>u.free b o e n hc) (fun b o hc e=>u.there b o e hc) u.tups u.frzs u.tbls (fun m' hm=>by
   obtain ⟨o',es',ep',ho',r'⟩:=hm
   rw [ho] at ho'; cases ho'
   exact ⟨_,es',ep',hL,r'⟩) hok hg
/-- an qH record of ours (an iterator) has turned -/
theorem Inv.turned {t':Nat}{it:Addr}(I:Inv X pins σ H s)(k:∀b o,b≠it->s.heap.get? b=some o->h'.get? b=some o)(hn:H it=none)(hL:it≠X.env.locals)
   (h1:it∈X.ex\/X.s₀.heap.objs.size<=it) (h2:∀x c,X.env.cells.lookup x=some c->c≠it) (h3:∀p∈X.pn++pins,p.1≠it):Inv X pins σ H { s with heap:=h',toks:=t' }:=by
 have Dm:∀b u,H b=some u->b≠it:=fun b u e z=>by rw [z,hn] at e; cases e
 refine I.step (g':=s.gens) (d':=s.drawn) (ch:=[it]) (fun b hb=>?_) (fun b o _ _ hc e _=>k b o (fun z=>hc (by simp [z])) e) (fun b o _ _ hc e _=>⟨o.slots,k b o (fun z=>hc (by simp [z])) e⟩) (fun _ _ _ _ n=>n)
   (fun b o hc e=>⟨o,k b o (fun z=>hc (by simp [z])) e⟩) (fun _ _ e=>e) (fun _ _ _ e=>e) (fun b ps e=>⟨#[],by rw [e]; simp⟩) (fun m hm=>?_) (fun b u e=>?_) I.bare
 · have e:b=it:=by simpa using hb
   subst e
   exact ⟨h1,hL,h2,h3⟩
 · obtain ⟨o,es,ep,ho,r⟩:=hm
   exact ⟨o,es,ep,k _ o (Ne.symm hL) ho,r⟩
 · refine (I.hok b u e).stay (fun c v hc q=>k c v ?_ q) (fun _ q=>q) fun _ _ q=>q
   rcases hc with z | z
   · rw [z]; exact Dm b u e
   · exact Dm c _ z
theorem Inv.tok (I:Inv X pins σ H s)(t:Nat):Inv X pins σ H { s with toks:=t }:=I.un (h':=s.heap) (t':=t) Un.refl I.hok
/-- all objects kept -/
theorem Inv.kept {t':Nat}(I:Inv X pins σ H s)(k:∀b u,s.heap.get? b=some u->h'.get? b=some u):Inv X pins σ H { s with heap:=h',toks:=t' }:=I.un (Un.kept k) (I.hok.kept k)
/-- a new object laid and tracked -/
theorem Inv.laid {a:Addr}{o:HO}{t':Nat}(I:Inv X pins σ H s)(k:∀b u,s.heap.get? b=some u->h'.get? b=some u)(hp:s.heap.objs.size<=a)(new:aQ X.prog X.w (upd H a o) h' a o) :
   Inv X pins σ (upd H a o) { s with heap:=h',toks:=t' }:=I.un (Un.laid k hp (I.hok.fresh hp)) (I.hok.laid k hp new)
/-- an object written -/
theorem Inv.write {x e:Addr}{o:HO}{t':Nat}(I:Inv X pins σ H s)(mu:z5 (H x))(he:e=x\/H e=some (.own x))(k:∀b u,b≠e->s.heap.get? b=some u->h'.get? b=some u)(heo:∃u,h'.get? e=some u)
   (new:aQ X.prog X.w (upd H x o) h' x o):Inv X pins σ (upd H x o) { s with heap:=h',toks:=t' }:=I.un (Un.write mu he k heo) (I.hok.write mu he k heo new)
/-- xE slots,pins -/
theorem Inv.weak {σ':List (Option V)}(I:Inv X pins σ H s)(hl:σ'.length=σ.length)(w:∀(i:Nat) v,σ'[i]? = some (some v)->σ[i]? = some (some v)):Inv X pins σ' H s:=
 ⟨I.ok,I.os,I.bare,I.base,let ⟨m,hn,hl'⟩:=I.loc; ⟨m,hn,fun i x v e1 e2 e3=>hl' i x v e1 (w i v e2) e3⟩,I.cell,I.free,I.freeC,I.pin,I.hok,hl.trans I.len⟩
theorem Inv.ow {wV:List (Addr×Obj)}(I:Inv X pins σ H s)(h:∀p∈wV,s.heap.get? p.1=some p.2/\H p.1=none/\p.1≠X.env.locals/\p.1 ∉ X.fs/\∀v,p.2.data≠.cell v):Inv X wV σ H s:=
 ⟨I.ok,I.os,I.bare,I.base,I.loc,I.cell,I.free,I.freeC,fun p hp=>(List.mem_append.mp hp).elim (fun z=>I.pin p (Gv _ z)) (h p),I.hok,I.len⟩

theorem lG {N:List Str}(hN:N.Nodup){i j:Nat}{x:Str}(a:N[i]? = some x)(b:N[j]? = some x):i=j:=by
 obtain ⟨h1,e1⟩:=List.getElem?_eq_some_iff.mp a
 obtain ⟨h2,e2⟩:=List.getElem?_eq_some_iff.mp b
 exact (List.getElem_inj hN).mp (e1.trans e2.symm)

/-- a name is stored; what changed -/
theorem jE {M:Model}{A:Around}{E:Value->Shared->Prop}{i:Nat}{x:Str}{v:V}{u:Value}{Q:Unit->Shared->Prop}(I:Inv X pins σ H s)(hN:X.N.Nodup)(hi:X.N[i]? = some x)(hx:Loc X.env.scope x)(r:RelV v u)
   (h:∀s',Inv X pins (σ.set i (some v)) H s'->(∃a,E8 a s.heap s'.heap/\(a=X.env.locals\/X.env.cells.lookup x=some a))->Q () s') (hf:X.fn x=true\/X.env.scope.names.lookup x=some .local:=by first | exact .inl rfl | exact .inr rfl | assumption):wpAny M A (storeName X.env x u) Q E s:=by
 obtain ⟨m,hn,hl⟩:=id I.loc
 have Cy:(X.env.scope.kind == .class || (X.env.scope.kind == .module && X.env.locals != X.env.globals))=false:=by rw [I.ok.kind]; rfl
 have hiσ:i < σ.length:=by rw [I.len]; exact (List.getElem?_eq_some_iff.mp hi).1
 have xA:=I.xA
 have tracked:∀{a:Addr} {h':Heap},(∃o,s.heap.get? a=some o/\H a=none)->E8 a s.heap h'->ei X.prog X.w H h':=fun {a h'} ha hs b ob e=>by
   obtain ⟨_,_,wH⟩:=ha
   refine (I.hok b ob e).stay (fun c w' hc q=>(hs.2 c ?_).trans q) (fun _ q=>q) fun _ _ q=>q
   rintro rfl
   rcases hc with rfl | hc
   · rw [wH] at e; cases e
   · rw [wH] at hc; cases hc
 rcases hx with hk | hk
 · refine wpAny_storeName_local hk hn (fun h' DL hs=>?_) Cy
   obtain ⟨oL,_,_,hoL,_⟩:=id hn
   refine h _ ⟨I.ok,I.os,I.bare,⟨fun b o e n hb hx=>?_,fun b o e n hb hx=>?_,I.base.free,fun b o e hx=>?_,I.base.tups,I.base.frzs,I.base.tbls⟩,⟨_,DL,fun j y v' e1 e2 e3=>?_⟩,fun y c e=>?_,I.free,I.freeC,fun p hp=>?_,tracked ⟨oL,hoL,I.free⟩ hs,by simpa using I.len⟩ ⟨_,hs,.inl rfl⟩
   · exact (hs.2 b (Ex (Eu (Ek e) I.ok.above))).trans (I.base.keep b o e n hb hx)
   · obtain ⟨sl,e1⟩:=I.base.slot b o e n hb hx
     exact ⟨sl,(hs.2 b (Ex (Eu (Ek e) I.ok.above))).trans e1⟩
   · obtain ⟨o',e1⟩:=I.base.there b o e hx
     exact ⟨o',(hs.2 b (Ex (Eu (Ek e) I.ok.above))).trans e1⟩
   · by_cases hj:j=i
     · subst hj
       rw [hi] at e1; cases e1
       rw [HM hiσ] at e2
       cases e2
       exact ⟨u,r,.inl ⟨hk,by simp⟩⟩
     · rw [HZ (Ne.symm hj)] at e2
       obtain ⟨u',r',q⟩:=hl j y v' e1 e2 e3
       refine ⟨u',r',?_⟩
       rcases q with ⟨k,e⟩ | ⟨k,c,e,z⟩
       · refine .inl ⟨k,?_⟩
         have:y≠x:=fun e=>hj (lG hN e1 (e ▸ hi))
         simp [this,e]
       · exact .inr ⟨k,c,e,z.sameBut hs (xA y c e)⟩
   · obtain ⟨w',z⟩:=I.cell y c e
     exact ⟨w',z.sameBut hs (xA y c e)⟩
   · obtain ⟨e,n,ne,nf,d⟩:=I.pin p hp
     exact ⟨(hs.2 p.1 ne).trans e,n,ne,nf,d⟩
 · have hfn:X.fn x=true:=by
     rcases hf with z | z
     · exact z
     · rw [z] at hk; cases hk
   obtain ⟨c,hc⟩:=I.ok.has x (.inl hk)
   obtain ⟨w',z⟩:=I.cell x c hc
   refine wpAny_storeName_cell I.ok.kind hk hc z (fun h' hc' hs=>?_)
   obtain ⟨oc,hoc,Cz⟩:=id z
   refine h { s with heap:=h' } ⟨I.ok,I.os,I.bare,⟨fun b o e n hb hx=>?_,fun b o e n hb hx=>?_,I.base.free,fun b o e hx=>?_,I.base.tups,I.base.frzs,I.base.tbls⟩,⟨m,hn.sameBut hs (Ne.symm (xA x c hc)),fun j y v' e1 e2 e3=>?_⟩,fun y c' e=>?_,I.free,I.freeC,fun p hp=>?_,tracked ⟨oc,hoc,I.freeC x c hc⟩ hs,by simpa using I.len⟩ ⟨c,hs,.inr hc⟩
   · exact (hs.2 b (Ex (Eu (Ek e) (I.ok.cab x c hfn hc)))).trans (I.base.keep b o e n hb hx)
   · obtain ⟨sl,e1⟩:=I.base.slot b o e n hb hx
     exact ⟨sl,(hs.2 b (Ex (Eu (Ek e) (I.ok.cab x c hfn hc)))).trans e1⟩
   · obtain ⟨o',e1⟩:=I.base.there b o e hx
     exact ⟨o',(hs.2 b (Ex (Eu (Ek e) (I.ok.cab x c hfn hc)))).trans e1⟩
   · by_cases hj:j=i
     · subst hj
       rw [hi] at e1; cases e1
       rw [HM hiσ] at e2
       cases e2
       exact ⟨u,r,.inr ⟨.inl hk,c,hc,hc'⟩⟩
     · rw [HZ (Ne.symm hj)] at e2
       obtain ⟨u',r',q⟩:=hl j y v' e1 e2 e3
       refine ⟨u',r',?_⟩
       rcases q with q | ⟨k,c',e,z'⟩
       · exact .inl q
       · refine .inr ⟨k,c',e,z'.sameBut hs ?_⟩
         rintro rfl
         exact hj (lG hN e1 (I.ok.inj _ _ _ e hc ▸ hi))
   · by_cases Dh:c'=c
     · subst Dh; exact ⟨_,hc'⟩
     · obtain ⟨w2,z2⟩:=I.cell y c' e
       exact ⟨w2,z2.sameBut hs Dh⟩
   · obtain ⟨e,n,ne,nf,d⟩:=I.pin p hp
     refine ⟨(hs.2 p.1 ?_).trans e,n,ne,nf,d⟩
     intro q
     rw [q,hoc] at e
     have q':oc=p.2:=EH e
     exact d w' (by rw [← q']; exact Cz)
theorem iM {M:Model}{A:Around}{E:Value->Shared->Prop}{i:Nat}{x:Str}{v:V}{u:Value}{Q:Unit->Shared->Prop}(I:Inv X pins σ H s)(hN:X.N.Nodup)(hi:X.N[i]? = some x)(hx:Loc X.env.scope x)(r:RelV v u)
   (h:∀s',Inv X pins (σ.set i (some v)) H s'->Q () s') (hf:X.fn x=true\/X.env.scope.names.lookup x=some .local:=by first | exact .inl rfl | exact .inr rfl | assumption):wpAny M A (storeName X.env x u) Q E s:=
 jE I hN hi hx r (fun s' I' _=>h s' I') hf
/-- behind a call or a block,the state as it is -/
theorem Inv.call' {s':Shared}{ch:List Addr}(I:Inv X pins σ H s)(ho:s'.os=s.os)(u:Un (rp X.stack) ch H H' s.heap s'.heap)(hok:ei X.prog X.w H' s'.heap)(hg:AllBare s'.gens)
   (hch:∀b∈ch,(b∈X.ex\/X.s₀.heap.objs.size<=b)/\b≠X.env.locals/\(∀x c,X.env.cells.lookup x=some c->c≠b)/\∀p∈X.pn++pins,p.1≠b):Inv X pins σ H' s':=by
 obtain ⟨h',g',d',t',o'⟩:=s'
 have e:o'=s.os:=ho
 subst e
 exact I.call (g':=g') (t':=t') (d':=d') u hok hg hch
end

/-! ### the yf -/
/-- an exception: its class,its own dict's address (where it has one),the abstract heap behind it -/
abbrev XK:=Value->Option Addr->Hp->Prop
abbrev St:=List (Option V)
abbrev VK:=V->Hp->Prop
/-- an uG reading; a CY; an argument ym -/
abbrev TE:=St->Hp->VK->Prop
abbrev TT:=St->Hp->(Bool->Hp->Prop)->Prop
abbrev TA:=St->Hp->(List V->Hp->Prop)->Prop
/-- what is wanted behind a zV -/
structure Ends where
 nx:St->Hp->Prop
 rt:VK
 bk:St->Hp->Prop:=fun _ _=>False
 ct:St->Hp->Prop:=fun _ _=>False
abbrev TS:=Ends->St->Hp->Prop

def EP (X:Cx)(pins:List (Addr×Obj))(σ:St)(Q:VK)(u:Value)(s':Shared):Prop:=∃v H',Inv X pins σ H' s'/\RelV v u/\Q v H'
def TP (X:Cx)(pins:List (Addr×Obj))(σ:St)(Q:Bool->Hp->Prop)(b:Bool)(s':Shared):Prop:=∃H',Inv X pins σ H' s'/\Q b H'
def AP (X:Cx)(pins:List (Addr×Obj))(σ:St)(Q:List V->Hp->Prop)(us:List Value)(s':Shared):Prop:=∃vs H',Inv X pins σ H' s'/\Vals vs us/\Q vs H'
def SP (X:Cx)(pins:List (Addr×Obj))(D:Ends)(f:Flow)(s':Shared):Prop:=
 match f with
 | .next=>∃σ' H',Inv X pins σ' H' s'/\D.nx σ' H'
 | .brk=>∃σ' H',Inv X pins σ' H' s'/\D.bk σ' H'
 | .cont=>∃σ' H',Inv X pins σ' H' s'/\D.ct σ' H'
 | .ret u=>∃v σ' H',Inv X pins σ' H' s'/\RelV v u/\D.rt v H'

def PE (X:Cx)(e:Expr)(t:TE):Prop:=
 ∀(pins:List (Addr×Obj)) (s:Shared) (σ:St) (H:Hp) (Q:VK),Inv X pins σ H s->t σ H Q->wpAny (model X.prog X.w) X.A (eval e X.env) (EP X pins σ Q) X.xe s
def PT (X:Cx)(e:Expr)(t:TT):Prop:=
 ∀(pins:List (Addr×Obj)) (s:Shared) (σ:St) (H:Hp) (Q:Bool->Hp->Prop),Inv X pins σ H s->t σ H Q->wpAny (model X.prog X.w) X.A (isTrue e X.env (eval e X.env)) (TP X pins σ Q) X.xe s
/-- a test whatever its 'C3 is (and,or) -/
def PW (X:Cx)(e:Expr)(t:TT):Prop:=
 ∀(whole:Sem Value) (pins:List (Addr×Obj)) (s:Shared) (σ:St) (H:Hp) (Q:Bool->Hp->Prop),Inv X pins σ H s->t σ H Q->wpAny (model X.prog X.w) X.A (isTrue e X.env whole) (TP X pins σ Q) X.xe s
theorem PW.pt {X:Cx}{e:Expr}{t:TT}(h:PW X e t):PT X e t:=h _
/-- an argument list (no star),from the left -/
def PA (X:Cx)(es:List Expr)(t:TA):Prop:=
 ∀(pos:Pos) (pins:List (Addr×Obj)) (s:Shared) (σ:St) (H:Hp) (Q:List V->Hp->Prop),Inv X pins σ H s->t σ H Q->wpAny (model X.prog X.w) X.A (spliced (backTo pos (starEach es X.env))) (AP X pins σ Q) X.xe s
def PS (X:Cx)(st:Stmt)(t:TS):Prop:=
 ∀(pins:List (Addr×Obj)) (s:Shared) (σ:St) (H:Hp) (D:Ends),Inv X pins σ H s->t D σ H->wpAny (model X.prog X.w) X.A (exec st X.env) (SP X pins D) X.xe s
def mv (X:Cx)(st:List Stmt)(t:TS):Prop:=
 ∀(pins:List (Addr×Obj)) (s:Shared) (σ:St) (H:Hp) (D:Ends),Inv X pins σ H s->t D σ H->wpAny (model X.prog X.w) X.A (execs st X.env) (SP X pins D) X.xe s
/-- weaken the end -/
theorem a7 {α:Type}{t:Sem α}{Q Q':α->Shared->Prop}{M:Model}{A:Around}{E:Value->Shared->Prop}{s:Shared}(h:wpAny M A t Q E s)(hQ:∀a s,Q a s->Q' a s):wpAny M A t Q' E s:=wpAny_mono h hQ fun _ _ x=>x
end L2

namespace L2
open PySem PySem.Spec PyProof.Rows
section
variable {X:Cx}

/-! ### names and constants -/
def BL (i:Nat):TE:=fun σ H Q=>∃v,σ[i]? = some (some v)/\Q v H
def tC (v:V):TE:=fun _ H Q=>Q v H
theorem yZ {i:Nat}{x:Str}{pos:Pos}(hN:X.N[i]? = some x)(hv:B0 X.env.scope x)(hd:(x == ("__debug__":Str))=false:=by decide)(hcd:(x == ("__classdict__":Str))=false:=by decide):PE X (.Name x pos) (BL i):=by
 intro pins s σ H Q I h
 obtain ⟨v,e,h⟩:=h
 obtain ⟨m,hn,hl⟩:=I.loc
 obtain ⟨u,r,l⟩:=hl i x v hN e hv
 have fin:EP X pins σ Q u s:=⟨v,H,I,r,h⟩
 rcases l with ⟨hk,hm⟩ | ⟨hk,c,hc,n6⟩
 · exact wpAny_Name (wpAny_loadName_local I.ok.kind hk hn hm fin) hd
 · rcases hk with hk | hk
   · exact wpAny_Name (wpAny_loadName_cell I.ok.kind hk hc n6 fin) hd
   · exact wpAny_Name (wpAny_loadName_free I.ok.kind hk hc n6 fin hcd) hd
theorem yS {i j pos}:PE X (.Constant (.int i) j pos) (tC (.int i)):=fun _ _ _ H _ I h=>wpAny_Constant_int ⟨.int i,H,I.tok _,⟨_,rfl⟩,h⟩
theorem A7 {b j pos}:PE X (.Constant (.bool b) j pos) (tC (.bl b)):=fun _ _ _ H _ I h=>Constant_bool ⟨.bl b,H,I,rfl,h⟩
theorem yU {j pos}:PE X (.Constant .none j pos) (tC .aU):=fun _ _ _ H _ I h=>Constant_none ⟨.aU,H,I,rfl,h⟩
theorem yX {x j pos}:PE X (.Constant (.str x) j pos) (tC (.str x)):=fun _ _ _ H _ I h=>Calls.Constant_str ⟨.str x,H,I.tok _,⟨_,rfl⟩,h⟩

/-- a global name of the def -/
def Gl (X:Cx)(x:Str):Prop:=X.env.kindOf x=some .globalImplicit
theorem oj {E:Value->Shared->Prop}{pins:List (Addr×Obj)}{s:Shared}{σ:St}{H:Hp}{x:Str}{u:Value}{pos:Pos}{Q:Value->Shared->Prop}(I:Inv X pins σ H s)(hg:Gl X x)(hm:X.mg x=some u)(h:Q u s)
   (hd:(x == ("__debug__":Str))=false:=by decide):wpAny (model X.prog X.w) X.A (eval (.Name x pos) X.env) Q E s:=
 G7 I.ok.kind hg (Calls.loadGlobal_global (by rw [I.ok.glob]; exact I.mod.glob.keeps I.bk) hm h) hd
theorem fI {E:Value->Shared->Prop}{pins:List (Addr×Obj)}{s:Shared}{σ:St}{H:Hp}{x:Str}{u:Value}{pos:Pos}{Q:Value->Shared->Prop}(I:Inv X pins σ H s)(hg:Gl X x)(hm:X.mg x=none)(hv:bootBuiltins x=some u)(h:Q u s)
   (hn:x≠"__name__":=by decide) (hd:(x == ("__debug__":Str))=false:=by decide):wpAny (model X.prog X.w) X.A (eval (.Name x pos) X.env) Q E s:=by
 obtain ⟨mb,h1,h2⟩:=I.mod.blt
 exact G7 I.ok.kind hg (Calls.loadGlobal_builtin (by rw [I.ok.glob]; exact I.mod.glob.keeps I.bk) hm (by rw [I.ok.blt]; exact h1.keeps I.bk) ((h2 x hn).trans hv) h) hd
/-- a ip constant,a class,a function,as a value -/
theorem vN {x:Str}{v:V}{u:Value}{pos:Pos}(hg:Gl X x)(hm:X.mg x=some u)(r:RelV v u)(hd:(x == ("__debug__":Str))=false:=by decide):PE X (.Name x pos) (tC v):=
 fun _ _ _ H _ I h=>oj I hg hm ⟨v,H,I,r,h⟩ hd
theorem vI {x:Str}{v:V}{u:Value}{pos:Pos}(hg:Gl X x)(hm:X.mg x=none)(hv:bootBuiltins x=some u)(r:RelV v u)(hn:x≠"__name__":=by decide)(hd:(x == ("__debug__":Str))=false:=by decide):PE X (.Name x pos) (tC v):=
 fun _ _ _ H _ I h=>fI I hg hm hv ⟨v,H,I,r,h⟩ hn hd

/-! ### xu -/
variable {a b:Expr}{ta tb:TE}{pos:Pos}
/-! ### comparisons -/
/-- a mE as a value,as a test -/
def tB (t:TE):TT:=fun σ H Q=>t σ H fun x H1=>∃c,x=.bl c/\Q c H1
/-- an expression whose value is a bool,as a test -/
theorem ze {e:Expr}{t:TE}(h:PE X e t)(he:∀whole,isTrue e X.env whole=(do let v ← whole; standAt e.pos; holding [v] (truthy v)):=by intro _; rfl):PT X e (tB t):=by
 intro pins s σ H Q I hw
 refine isTrue_plain (a7 (h pins s σ H _ I hw) fun v s1 ⟨x,H1,I1,r1,q1⟩=>?_) (he _)
 obtain ⟨d,rfl,q⟩:=q1
 cases r1
 exact wpAny_truthy_bool ⟨H1,I1,q⟩

/-! ### and,or,not -/
variable {tA Cc:TT}{rest:List Expr}
def Bz (t u:TT):TT:=fun σ H Q=>t σ H fun c H1=>if c=true then u σ H1 Q else Q false H1
def Dv (t u:TT):TT:=fun σ H Q=>t σ H fun c H1=>if c=true then Q true H1 else u σ H1 Q
def BF (t:TT):TT:=fun σ H Q=>t σ H fun c H1=>Q (!c) H1
theorem vZ (ha:PT X a tA):PW X (.BoolOp .And [a] pos) tA:=by
 intro wh pins s σ H Q I h
 refine isTrue_and (a7 (ha pins s σ H Q I h) fun c s1 e=>?_)
 cases c with
 | true=>exact isTrue_and_nil e
 | false=>exact e
theorem zg (ha:PT X a tA):PW X (.BoolOp .Or [a] pos) tA:=by
 intro wh pins s σ H Q I h
 refine isTrue_or (a7 (ha pins s σ H Q I h) fun c s1 e=>?_)
 cases c with
 | false=>exact isTrue_or_nil e
 | true=>exact e
theorem zf (ha:PT X a tA)(hb:PW X (.BoolOp .And (b :: rest) pos) Cc):PW X (.BoolOp .And (a :: b :: rest) pos) (Bz tA Cc):=by
 intro wh pins s σ H Q I h
 refine isTrue_and (a7 (ha pins s σ H _ I h) fun c s1 ⟨H1,I1,q1⟩=>?_)
 cases c with
 | true=>exact hb wh pins s1 σ H1 Q I1 q1
 | false=>exact ⟨H1,I1,q1⟩
theorem Bg (ha:PT X a tA)(hb:PW X (.BoolOp .Or (b :: rest) pos) Cc):PW X (.BoolOp .Or (a :: b :: rest) pos) (Dv tA Cc):=by
 intro wh pins s σ H Q I h
 refine isTrue_or (a7 (ha pins s σ H _ I h) fun c s1 ⟨H1,I1,q1⟩=>?_)
 cases c with
 | true=>exact ⟨H1,I1,q1⟩
 | false=>exact hb wh pins s1 σ H1 Q I1 q1
theorem zd (ha:PT X a tA):PT X (.UnaryOp .Not a pos) (BF tA):=by
 intro pins s σ H Q I h
 exact isTrue_not (ha pins s σ H (fun c H1=>Q (!c) H1) I h)
/-- .. as values (bools) -/
def w6 (ta tb:TE):TE:=fun σ H Q=>ta σ H fun x H1=>∃c,x=.bl c/\if c=true then tb σ H1 Q else Q (.bl false) H1
def BG (ta tb:TE):TE:=fun σ H Q=>ta σ H fun x H1=>∃c,x=.bl c/\if c=true then Q (.bl true) H1 else tb σ H1 Q
def xg (ta:TE):TE:=fun σ H Q=>ta σ H fun x H1=>∃c,x=.bl c/\Q (.bl (!c)) H1
theorem yW {op}{t:TE}(h:PE X a t):PE X (.BoolOp op [a] pos) t:=fun pins s σ H Q I hw=>BoolOp_one (h pins s σ H Q I hw)
theorem yQ (ha:PE X a ta)(hb:PE X (.BoolOp .And (b :: rest) pos) tb):PE X (.BoolOp .And (a :: b :: rest) pos) (w6 ta tb):=by
 intro pins s σ H Q I h
 refine BoolOp_and (a7 (ha pins s σ H _ I h) fun v s1 ⟨x,H1,I1,r1,q1⟩=>?_)
 obtain ⟨c,rfl,q1⟩:=q1
 cases r1
 refine wpAny_truthy_bool ?_
 cases c with
 | true=>exact hb pins s1 σ H1 Q I1 q1
 | false=>exact ⟨.bl false,H1,I1,rfl,q1⟩
theorem Bb (ha:PE X a ta)(hb:PE X (.BoolOp .Or (b :: rest) pos) tb):PE X (.BoolOp .Or (a :: b :: rest) pos) (BG ta tb):=by
 intro pins s σ H Q I h
 refine BoolOp_or (a7 (ha pins s σ H _ I h) fun v s1 ⟨x,H1,I1,r1,q1⟩=>?_)
 obtain ⟨c,rfl,q1⟩:=q1
 cases r1
 refine wpAny_truthy_bool ?_
 cases c with
 | false=>exact hb pins s1 σ H1 Q I1 q1
 | true=>exact ⟨.bl true,H1,I1,rfl,q1⟩
theorem yV (ha:PE X a ta):PE X (.UnaryOp .Not a pos) (xg ta):=by
 intro pins s σ H Q I h
 refine UnaryOp_ (a7 (ha pins s σ H _ I h) fun v s1 ⟨x,H1,I1,r1,q1⟩=>?_)
 obtain ⟨c,rfl,q1⟩:=q1
 cases r1
 exact not_of (wpAny_truthy_bool ⟨.bl (!c),H1,I1,rfl,q1⟩)
/-- a if t else b -/
def Du (t:TT)(ta tb:TE):TE:=fun σ H Q=>t σ H fun c H1=>if c=true then ta σ H1 Q else tb σ H1 Q
theorem sT {c:Expr}(hc:PT X c tA)(ha:PE X a ta)(hb:PE X b tb):PE X (.IfExp c a b pos) (Du tA ta tb):=by
 intro pins s σ H Q I h
 refine wpAny_IfExp (a7 (hc pins s σ H _ I h) fun d s1 ⟨H1,I1,q1⟩=>?_)
 cases d with
 | true=>exact ha pins s1 σ H1 Q I1 q1
 | false=>exact hb pins s1 σ H1 Q I1 q1
end
end L2

namespace L2
open PySem PySem.Spec PyProof.Rows

/-! ### a list,a tuple that is read: tracked,frozen,or an object of the module -/
def aA (K:D9)(H:Hp)(a:Addr)(xs:List V):Prop:=
 Rd H a (.lst xs) \/
   ∃(o:Obj) (its:Array Value) (n:Nat),K.lookup a=some o/\o.cls=.type "list"/\o.dict=none/\o.data=.seq its n/\its.size<=sizeLine/\Vals xs its.toList
def ar (K:D9)(H:Hp)(a:Addr)(xs:List V):Prop:=
 Rd H a (.tup xs) \/
   ∃(o:Obj) (its:Array Value) (n:Nat),K.lookup a=some o/\o.cls=.type "tuple"/\o.data=.seq its n/\its.size<=sizeLine/\Vals xs its.toList
def Co:Value->Option V
 | .none=>some .aU
 | .bool b=>some (.bl b)
 | .int i _=>some (.int i)
 | .str x _=>some (.str x)
 | .bytes b _=>some (.byt b)
 | .float b _=>some (.flt b)
 | .ref a=>some (.ref a)
 | .type n=>some (.ty n)
 | _=>none
theorem RelV.abs {x:V}{u:Value}(r:RelV x u):Co u=some x:=by
 cases x with
 | aU=>cases r; rfl
 | bl _=>cases r; rfl
 | int _=>obtain ⟨t,rfl⟩:=r; rfl
 | str _=>obtain ⟨t,rfl⟩:=r; rfl
 | byt _=>obtain ⟨t,rfl⟩:=r; rfl
 | flt _=>obtain ⟨t,rfl⟩:=r; rfl
 | ref _=>cases r; rfl
 | ty _=>cases r; rfl
theorem RelV.inj {x y:V}{u:Value}(r:RelV x u)(q:RelV y u):x=y:=EH (r.abs.symm.trans q.abs)
theorem Vals.inj:∀{xs ys:List V} {us:List Value},Vals xs us->Vals ys us->xs=ys
 | _,_,_,.nil,.nil=>rfl
 | _,_,_,.cons r t,.cons r' t'=>by rw [r.inj r',Vals.inj t t']
section
variable {X:Cx}{pins:List (Addr×Obj)}{σ:St}{H:Hp}{s:Shared}{a:Addr}{xs ys:List V}
theorem aA.of {K:D9}(h:H a=some (.lst xs)):aA K H a xs:=.inl (.inl h)
theorem ar.of {K:D9}(h:H a=some (.tup xs)):ar K H a xs:=.inl (.inl h)
theorem Inv.list (I:Inv X pins σ H s)(h:aA X.K H a xs):∃its:List Value,Vals xs its/\PlainL s.heap a its.toArray/\xs.length<=sizeLine:=by
 rcases h with h | ⟨o,its,n,hk,hc,hd,hs,hz,r⟩
 · obtain ⟨z,its,n,r,e⟩:=h.ok I.hok
   exact ⟨its,r,⟨_,n,e,rfl,rfl,rfl⟩,z⟩
 · refine ⟨its.toList,r,⟨o,n,I.kIn a o hk,hc,hd,by simpa using hs⟩,?_⟩
   have e:=r.length
   simp only [GA] at e
   omega
theorem Inv.tuple (I:Inv X pins σ H s)(h:ar X.K H a xs):∃its:List Value,Vals xs its/\IsTup s.heap a its.toArray/\xs.length<=sizeLine:=by
 rcases h with h | ⟨o,its,n,hk,hc,hs,hz,r⟩
 · obtain ⟨z,its,r,p⟩:=h.ok I.hok
   exact ⟨its,r,p,z⟩
 · refine ⟨its.toList,r,⟨o,I.kIn a o hk,hc,n,by simpa using hs⟩,?_⟩
   have e:=r.length
   simp only [GA] at e
   omega
theorem Inv.list_inj (I:Inv X pins σ H s)(h:aA X.K H a xs)(h':aA X.K H a ys):xs=ys:=by
 obtain ⟨its,r,⟨o,n,e,_,_,d⟩,_⟩:=I.list h
 obtain ⟨its',r',⟨o',n',e',_,_,d'⟩,_⟩:=I.list h'
 rw [e] at e'; cases e'
 rw [d] at d'
 injection d' with d1 _
 have:its=its':=by simpa using congrArg Array.toList d1
 subst this
 exact r.inj r'
theorem Inv.tuple_inj (I:Inv X pins σ H s)(h:ar X.K H a xs)(h':ar X.K H a ys):xs=ys:=by
 obtain ⟨its,r,⟨o,e,_,n,d⟩,_⟩:=I.tuple h
 obtain ⟨its',r',⟨o',e',_,n',d'⟩,_⟩:=I.tuple h'
 rw [e] at e'; cases e'
 rw [d] at d'
 injection d' with d1 _
 have:its=its':=by simpa using congrArg Array.toList d1
 subst this
 exact r.inj r'
end

/-! ### another gm about exceptions -/
abbrev Cx.gm (X:Cx)(E:Value->Shared->Prop):Cx:={ X with xe:=E }
/-- no exception leaves -/
abbrev Cx.nox (X:Cx):Cx:=X.gm fun _ _=>False
theorem Cx.Ok.gm {X:Cx}(ok:X.Ok)(E:Value->Shared->Prop):(X.gm E).Ok:=
 ⟨ok.mod,ok.kind,ok.glob,ok.blt,ok.above,ok.inj,ok.has,ok.cab,ok.hd,ok.frames,ok.stk,ok.exf,ok.bs,ok.bsz,ok.noex,ok.exfs,ok.g8,ok.frf⟩
theorem Cx.Ok.dF {X:Cx}{E:Value->Shared->Prop}(ok:(X.gm E).Ok):X.Ok:=
 ⟨ok.mod,ok.kind,ok.glob,ok.blt,ok.above,ok.inj,ok.has,ok.cab,ok.hd,ok.frames,ok.stk,ok.exf,ok.bs,ok.bsz,ok.noex,ok.exfs,ok.g8,ok.frf⟩
section
variable {X:Cx}{pins:List (Addr×Obj)}{σ:St}{H:Hp}{s:Shared}{E:Value->Shared->Prop}
theorem Inv.gm (I:Inv X pins σ H s)(E:Value->Shared->Prop):Inv (X.gm E) pins σ H s:=⟨I.ok.gm E,I.os,I.bare,I.base,I.loc,I.cell,I.free,I.freeC,I.pin,I.hok,I.len⟩
theorem Inv.dF (I:Inv (X.gm E) pins σ H s):Inv X pins σ H s:=⟨I.ok.dF,I.os,I.bare,I.base,I.loc,I.cell,I.free,I.freeC,I.pin,I.hok,I.len⟩
theorem SP.dF {D:Ends}{f:Flow}{s':Shared}(h:SP (X.gm E) pins D f s'):SP X pins D f s':=by
 cases f with
 | next=>obtain ⟨σ',H',I,q⟩:=h; exact ⟨σ',H',I.dF,q⟩
 | brk=>obtain ⟨σ',H',I,q⟩:=h; exact ⟨σ',H',I.dF,q⟩
 | cont=>obtain ⟨σ',H',I,q⟩:=h; exact ⟨σ',H',I.dF,q⟩
 | ret u=>obtain ⟨v,σ',H',I,r,q⟩:=h; exact ⟨v,σ',H',I.dF,r,q⟩
theorem mv.nox {st:List Stmt}{t:TS}(h:mv X.nox st t):mv X st t:=fun pins s σ H D I hw=>
 wpAny_mono (h pins s σ H D (I.gm _) hw) (fun _ _ q=>q.dF) fun _ _ z=>FK z
end

/-! ### blocks and small statements -/
section
variable {X:Cx}{st:Stmt}{rest:List Stmt}{t u:TS}{e:Expr}{te:TE}{pos:Pos}
def xf:TS:=fun D σ H=>D.nx σ H
def m8 (t u:TS):TS:=fun D σ H=>t { D with nx:=u D } σ H
theorem vW:mv X [] xf:=fun _ _ σ H _ I h=>GF ⟨σ,H,I,h⟩
theorem sZ (h1:PS X st t)(h2:mv X rest u):mv X (st :: rest) (m8 t u):=by
 intro pins s σ H D I h
 refine wpAny_execs_cons (a7 (h1 pins s σ H { D with nx:=u D } I h) fun f s1 q=>?_)
 cases f with
 | next=>
   obtain ⟨σ',H',I',q⟩:=q
   exact h2 pins s1 σ' H' D I' q
 | ret v=>exact q
 | brk=>exact q
 | cont=>exact q
theorem vX (h1:PS X st t):mv X [st] t:=by
 intro pins s σ H D I h
 refine wpAny_execs_cons (a7 (h1 pins s σ H D I h) fun f s1 q=>?_)
 cases f with
 | next=>exact GF q
 | ret v=>exact q
 | brk=>exact q
 | cont=>exact q
/-- in a def's body nothing is shown -/
theorem Inv.quiet {pins:List (Addr×Obj)}{σ:St}{H:Hp}{s:Shared}(I:Inv X pins σ H s):interactive X.env=false:=by simp [interactive,I.ok.kind]
/-- an expression whose value is dropped -/
def xc (te:TE):TS:=fun D σ H=>te σ H fun _ H1=>D.nx σ H1
theorem vV (he:PE X e te)(hs:swapsWith e none pos.line X.env=pure false:=by rfl):PS X (.Expr e pos) (xc te):=by
 intro pins s σ H D I h
 exact wpAny_Expr_any (a7 (he pins s σ H _ I h) fun v s1 ⟨x,H1,I1,r1,q1⟩=>⟨σ,H1,I1,q1⟩) I.quiet hs
def BJ (te:TE):TS:=fun D σ H=>te σ H D.rt
theorem zb (he:PE X e te):PS X (.Return (some e) pos) (BJ te):=by
 intro pins s σ H D I h
 exact wpAny_Return_some (a7 (he pins s σ H _ I h) fun v s1 ⟨x,H1,I1,r1,q1⟩=>⟨x,σ,H1,I1,r1,q1⟩)
def BD (c:TT)(t u:TS):TS:=fun D σ H=>c σ H fun b H1=>if b=true then t D σ H1 else u D σ H1
theorem Be {c:Expr}{a b:List Stmt}{tc:TT}(hc:PT X c tc)(ha:mv X a t)(hb:mv X b u):PS X (.If c a b pos) (BD tc t u):=by
 intro pins s σ H D I h
 refine wpAny_If (a7 (hc pins s σ H _ I h) fun d s1 ⟨H1,I1,q1⟩=>?_)
 cases d with
 | true=>exact ha pins s1 σ H1 D I1 q1
 | false=>exact hb pins s1 σ H1 D I1 q1
end

/-! ### targets -/
abbrev TG:=V->St->Hp->(St->Hp->Prop)->Prop
abbrev TGs:=List V->St->Hp->(St->Hp->Prop)->Prop
def PG (X:Cx)(target:Expr)(t:TG):Prop:=
 ∀(pins:List (Addr×Obj)) (s:Shared) (σ:St) (H:Hp) (v:V) (u:Value) (Q:St->Hp->Prop),Inv X pins σ H s->RelV v u->t v σ H Q ->
   wpAny (model X.prog X.w) X.A (assign target X.env u) (fun _ s'=>∃σ' H',Inv X pins σ' H' s'/\Q σ' H') X.xe s
/-- Cb targets,one after another -/
def z6 (X:Cx)(ts:List Expr)(t:TGs):Prop:=
 ∀(pins:List (Addr×Obj)) (s:Shared) (σ:St) (H:Hp) (vs:List V) (us:List Value) (Q:St->Hp->Prop),Inv X pins σ H s->Vals vs us->t vs σ H Q ->
   wpAny (model X.prog X.w) X.A (assignInOrder ((assignEach ts X.env).map (·.2)) us) (fun _ s'=>∃σ' H',Inv X pins σ' H' s'/\Q σ' H') X.xe s
/-- o[i]=v,by values -/
abbrev xq:=V->V->V->Hp->(Hp->Prop)->Prop
def z7 (X:Cx)(t:xq):Prop:=
 ∀(pins:List (Addr×Obj)) (s:Shared) (σ:St) (H:Hp) (o i v:V) (ov iv u:Value) (Q:Hp->Prop),Inv X pins σ H s->RelV o ov->RelV i iv->RelV v u->t o i v H Q ->
   wpAny (model X.prog X.w) X.A (setItem ov iv u) (fun _ s'=>∃H',Inv X pins σ H' s'/\Q H') X.xe s
/-- a op= b,by values -/
abbrev BZ:=V->V->Hp->VK->Prop
def De (X:Cx)(op:Operator)(t:BZ):Prop:=
 ∀(pins:List (Addr×Obj)) (s:Shared) (σ:St) (H:Hp) (x y:V) (v u:Value) (Q:VK),Inv X pins σ H s->RelV x v->RelV y u->t x y H Q ->
   wpAny (model X.prog X.w) X.A (inplaceOp op v u) (EP X pins σ Q) X.xe s
section
variable {X:Cx}{pos:Pos}
def fS (i:Nat):TG:=fun v σ H Q=>Q (σ.set i (some v)) H
theorem vO {i:Nat}{x:Str}(hN:X.N.Nodup)(hi:X.N[i]? = some x)(hx:Loc X.env.scope x)(hf:X.fn x=true\/X.env.scope.names.lookup x=some .local:=by first | exact .inl rfl | exact .inr rfl | assumption):PG X (.Name x pos) (fS i):=by
 intro pins s σ H v u Q I r h
 exact wpAny_assign_Name (iM I hN hi hx r (fun s' I'=>⟨_,H,I',h⟩) hf)
def An:TGs:=fun vs σ H Q=>vs=[]/\Q σ H
def wG (t:TG)(u:TGs):TGs:=fun vs σ H Q=>∃v r,vs=v :: r/\t v σ H fun σ' H'=>u r σ' H' Q
theorem vP:z6 X [] An:=by
 intro pins s σ H vs us Q I r h
 obtain ⟨e,h⟩:=h
 subst e
 cases r
 exact assignInOrder_nil ⟨σ,H,I,h⟩
theorem sV {e:Expr}{es:List Expr}{t:TG}{u:TGs}(h1:PG X e t)(h2:z6 X es u)
   (hs:(assignEach (e :: es) X.env).map (·.2)=assign e X.env :: (assignEach es X.env).map (·.2):=by rfl):z6 X (e :: es) (wG t u):=by
 intro pins s σ H vs us Q I r h
 obtain ⟨v,vr,e1,h⟩:=h
 subst e1
 cases r with
 | cons r rr=>
   rw [hs]
   refine assignInOrder_cons (a7 (h1 pins s σ H _ _ _ I r h) fun _ s1 ⟨σ1,H1,I1,q1⟩=>?_)
   exact h2 pins s1 σ1 H1 _ _ Q I1 rr q1
/-- (a,b,..)=a tuple of that length -/
def Ao (K:D9)(n:Nat)(t:TGs):TG:=fun v σ H Q=>∃a xs,v=.ref a/\ar K H a xs/\xs.length=n/\t xs σ H Q
theorem y3 {es:List Expr}{k:Nat}{t:TGs}{n:Nat}(hc:X.calm=true)(h:z6 X es t)
   (hn:(assignEach es X.env).length=n:=by rfl) (hst:(assignEach es X.env).findIdx? (·.1)=none:=by rfl):PG X (.Tuple es k pos) (Ao X.K n t):=by
 intro pins s σ H v u Q I r hw
 obtain ⟨a,xs,e1,hq,hl,hw⟩:=hw
 subst e1
 cases r
 obtain ⟨its,rv,ht,hz⟩:=I.tuple hq
 refine assign_Tuple_tuple (I.ok.hd hc) ht (by simp [hn,← hl,rv.length]) hst fun h' hx=>?_
 have I1:Inv X pins σ H { s with heap:=h' }:=I.kept (t':=s.toks) fun b o e=>hx b o (Ex (Ek e)) e
 exact h pins _ σ H xs _ Q I1 (by simpa using rv) hw
/-- o[i]=.. -/
def xH (to ti:TE)(t:xq):TG:=fun v σ H Q=>to σ H fun o H1=>ti σ H1 fun i H2=>t o i v H2 fun H3=>Q σ H3
theorem sU {o i:Expr}{to ti:TE}{t:xq}(ho:PE X o to)(hi:PE X i ti)(hs:z7 X t)
   (ha:∀v,assign (.Subscript o i pos) X.env v=(do
     let ov ← holding [v] (eval o X.env)
     let iv ← holding [v,ov] (eval i X.env)
     standAt pos
     holding [v,ov,iv] (setItem ov iv v)
     release [v,ov,iv] []):=by intro _; rfl):PG X (.Subscript o i pos) (xH to ti t):=by
 intro pins s σ H v u Q I r h
 rw [ha]
 refine wpAny_bind (wpAny_holding (a7 (ho pins s σ H _ I h) fun ov s1 ⟨x,H1,I1,r1,q1⟩=>?_))
 refine wpAny_bind (wpAny_holding (a7 (hi pins s1 σ H1 _ I1 q1) fun iv s2 ⟨y,H2,I2,r2,q2⟩=>?_))
 refine wpAny_bind (wpAny_standAt (wpAny_bind (wpAny_holding (a7 (hs pins s2 σ H2 x y v ov iv u _ I2 r1 r2 r q2) fun _ s3 ⟨H3,I3,q3⟩=>?_))))
 exact wpAny_release ⟨σ,H3,I3,q3⟩
/-- target=value -/
def m7 (te:TE)(g:TG):TS:=fun D σ H=>te σ H fun x H1=>g x σ H1 D.nx
theorem y8 {tg e:Expr}{te:TE}{g:TG}(he:PE X e te)(hg:PG X tg g)(hs:swapsWithSole [tg] e pos.line X.env=pure false:=by rfl)(hw:swappedStores [tg] e X.env=pure none:=by rfl)
   (h1:(assignEach [tg] X.env).map (·.2)=[assign tg X.env]:=by rfl):PS X (.Assign [tg] e pos) (m7 te g):=by
 intro pins s σ H D I h
 refine wpAny_Assign_stores (a7 (he pins s σ H _ I h) fun v s1 ⟨x,H1,I1,r1,q1⟩=>?_) hs hw
 rw [h1]
 exact a7 (hg pins s1 σ H1 x v _ I1 r1 q1) fun _ s2 q=>q
/-- name=value -/
theorem zc {i:Nat}{x:Str}{e:Expr}{te:TE}{pos':Pos}(hN:X.N.Nodup)(hi:X.N[i]? = some x)(hx:Loc X.env.scope x)(he:PE X e te)(hs:swapsWith e (some (.Name x pos')) pos.line X.env=pure false:=by rfl)(hf:X.fn x=true\/X.env.scope.names.lookup x=some .local:=by first | exact .inl rfl | exact .inr rfl | assumption) :
   PS X (.Assign [.Name x pos'] e pos) (m7 te (fS i)):=by
 intro pins s σ H D I h
 refine wpAny_Assign_Name (a7 (he pins s σ H _ I h) fun v s1 ⟨y,H1,I1,r1,q1⟩=>?_) hs
 exact iM I1 hN hi hx r1 (fun s2 I2=>⟨_,H1,I2,q1⟩) hf
/-- name op= e -/
def BA (i:Nat)(te:TE)(ti:BZ):TS:=fun D σ H=>∃x,σ[i]? = some (some x)/\te σ H fun y H1=>ti x y H1 fun z H2=>D.nx (σ.set i (some z)) H2
theorem y9 {i:Nat}{x:Str}{e:Expr}{te:TE}{op:Operator}{ti:BZ}{pos':Pos}(hN:X.N.Nodup)(hi:X.N[i]? = some x)(hx:Loc X.env.scope x)(he:PE X e te)(ho:De X op ti)(hf:X.fn x=true\/X.env.scope.names.lookup x=some .local:=by first | exact .inl rfl | exact .inr rfl | assumption) :
   PS X (.AugAssign (.Name x pos') op e pos) (BA i te ti):=by
 intro pins s σ H D I h
 obtain ⟨v,e1,h⟩:=h
 obtain ⟨m,hn,hl⟩:=I.loc
 have DT:B0 X.env.scope x:=by rcases hx with k | k; exact .inl k; exact .inr (.inl k)
 obtain ⟨u,r,l⟩:=hl i x v hi e1 DT
 refine wpAny_AugAssign_Name ?_
 have go:wpAny (model X.prog X.w) X.A (eval e X.env) (fun w s₂=>wpAny (model X.prog X.w) X.A (inplaceOp op u w) (fun r s₃=>wpAny (model X.prog X.w) X.A (storeName X.env x r) (fun _=>SP X pins D .next) X.xe s₃) X.xe s₂) X.xe s:=by
   refine a7 (he pins s σ H _ I h) fun w s1 ⟨y,H1,I1,r1,q1⟩=>?_
   refine a7 (ho pins s1 σ H1 v y u w _ I1 r r1 q1) fun z s2 ⟨zv,H2,I2,r2,q2⟩=>?_
   exact iM I2 hN hi hx r2 (fun s3 I3=>⟨_,H2,I3,q2⟩) hf
 rcases l with ⟨hk,hm⟩ | ⟨hk,c,hc,n6⟩
 · exact wpAny_loadName_local I.ok.kind hk hn hm go
 · rcases hk with hk | hk
   · exact wpAny_loadName_cell I.ok.kind hk hc n6 go
   · rcases hx with k | k
     · have:X.env.scope.names.lookup x=some .free:=hk
       rw [k] at this; cases this
     · have:X.env.scope.names.lookup x=some .free:=hk
       rw [k] at this; cases this
/-- ints -/
def Dj (f:Int->Int->Int):BZ:=fun x y H Q=>∃i j,x=.int i/\y=.int j/\Q (.int (f i j)) H
theorem yb:De X .Add (Dj fun i j=>i + j):=by
 intro pins s σ H x y v u Q I r1 r2 h
 obtain ⟨i,j,e1,e2,q⟩:=h
 subst e1; subst e2
 obtain ⟨t,rfl⟩:=r1
 obtain ⟨t',rfl⟩:=r2
 exact iadd_int ⟨.int _,H,I.tok _,⟨_,rfl⟩,q⟩
end

/-! ### while -/
section
variable {X:Cx}{pos:Pos}
/-- the invariant W with its measure -/
def ud (c:TT)(tb:TS):TS:=fun D σ H=>∃W:Nat->St->Hp->Prop,(∃m,W m σ H)/\∀m σ H,W m σ H ->
 c σ H fun b H1=>if b=true then ∃N:St->Hp->Prop,(∀σ' H',N σ' H'->∃m',m' < m/\W m' σ' H')/\tb { D with nx:=N,ct:=N,bk:=D.nx } σ H1 else D.nx σ H1
theorem sY {c:Expr}{body:List Stmt}{tc:TT}{tb:TS}(hp:PassesOwn (model X.prog X.w) X.A X.env X.xe)(hc:PT X c tc)(hb:mv X body tb):PS X (.While c body [] pos) (ud tc tb):=by
 intro pins s σ H D I h
 obtain ⟨W,⟨m0,w0⟩,turn⟩:=h
 refine wpAny_While (codeAny_whileLoop (fun n s'=>∃σ' H',Inv X pins σ' H' s'/\W n σ' H') ?_ m0 ⟨σ,H,I,w0⟩)
 rintro n s1 ⟨σ1,H1,I1,w1⟩
 refine FG hp (a7 (hc pins s1 σ1 H1 _ I1 (turn n σ1 H1 w1)) fun b s2 ⟨H2,I2,q2⟩=>?_)
 cases b with
 | true=>
   obtain ⟨N,hN,q2⟩:=q2
   rw [if_pos rfl]
   refine FG hp (a7 (hb pins s2 σ1 H2 _ I2 q2) fun f s3 q3=>?_)
   cases f with
   | next=>
     obtain ⟨σ3,H3,I3,n3⟩:=q3
     obtain ⟨m',hm,w3⟩:=hN σ3 H3 n3
     exact ⟨m',hm,σ3,H3,I3,w3⟩
   | cont=>
     obtain ⟨σ3,H3,I3,n3⟩:=q3
     obtain ⟨m',hm,w3⟩:=hN σ3 H3 n3
     exact ⟨m',hm,σ3,H3,I3,w3⟩
   | brk=>exact q3
   | ret v=>exact q3
 | false=>
   rw [if_neg Ej]
   exact GF ⟨σ1,H2,I2,q2⟩
end

/-! ### what a loop or a comprehension walks -/
/-- at turn i: it yields x (the heap may grow),or it Dt -/
structure It where
 go:Nat->Hp->Prop
 yld:Nat->Hp->V->Hp->Prop
 stop:Nat->Hp->Prop
/-- the mM own objects may turn: they are not the nY,not pinned,Cf DR the entry (or a comprehension's own) -/
def dh (X:Cx)(pins:List (Addr×Obj))(H:Hp)(b:Addr):Prop:=
 H b=none/\b≠X.env.locals/\b ∉ X.fs/\(b∈X.ex\/X.s₀.heap.objs.size<=b)/\(∀x c,X.env.cells.lookup x=some c->c≠b)/\∀p∈X.pn++pins,p.1≠b
theorem Inv.fpOk {X:Cx}{pins:List (Addr×Obj)}{σ:St}{H H':Hp}{s:Shared}{b:Addr}(I:Inv X pins σ H s)(hb:s.heap.objs.size<=b)(hn:H' b=none):dh X pins H' b:=by
 refine ⟨hn,Gr (Eu I.lt hb),I.CJ hb,.inr (EX I.sz hb),fun x c e z=>?_,fun p hp z=>?_⟩
 · obtain ⟨v,q⟩:=I.cell x c e
   exact absurd (Eu q.lt (by rw [z]; exact hb)) (Ft _)
 · exact absurd (Eu (Ek (I.pin p hp).1) (by rw [z]; exact hb)) (Ft _)
structure Turn (P:Program)(w:World)(K:D9)(tg:Expr)(J:It)(fp:List Addr)(it:Addr)(tn:Nat->Heap->Prop):Prop where
 mem:it∈fp
 obj:∀i h,tn i h->∀b∈fp,∃o,h.get? b=some o/\∀v,o.data≠.cell v
 keep:∀i h h',tn i h->(∀b∈fp,∀o,h.get? b=some o->h'.get? b=some o)->tn i h'
 item:∀(X:Cx),X.prog=P->X.w=w->X.K=K->X.calm=true->∀(i:Nat) (pins:List (Addr×Obj)) (s:Shared) (σ:St) (H:Hp) (E:Value->Shared->Prop),Inv X pins σ H s->(∀b∈fp,dh X pins H b)->tn i s.heap->J.go i H ->
   wpAny (model P w) X.A (pyNext (.ref it)) (fun r s1=>∃u,r=some u /\
     wpAny (model P w) X.A (letOwnedTupleGo tg (.ref it) u) (fun _ s2=>∃x H',Inv X pins σ H' s2/\RelV x u/\J.yld i H x H'/\tn (i + 1) s2.heap/\∀b∈fp,H' b=none) E s1) E s
 done:∀(X:Cx),X.prog=P->X.w=w->X.K=K->X.calm=true->∀(i:Nat) (pins:List (Addr×Obj)) (s:Shared) (σ:St) (H:Hp) (E:Value->Shared->Prop),Inv X pins σ H s->(∀b∈fp,dh X pins H b)->tn i s.heap->J.stop i H ->
   wpAny (model P w) X.A (pyNext (.ref it)) (fun r s1=>r=none/\Inv X pins σ H s1) E s
 self:∀(A:Around) (i:Nat) (s:Shared) (Q:Value->Shared->Prop) (E:Value->Shared->Prop),tn i s.heap->Q (.ref it) s->wpAny (model P w) A (pyIter (.ref it)) Q E s
abbrev TI:=St->Hp->(It->Hp->Prop)->Prop
/-- an iterator has DH -/
def Dd (X:Cx)(pins:List (Addr×Obj))(σ:St)(tg:Expr)(R:It->Hp->Prop)(itv:Value)(s2:Shared):Prop:=
 ∃(it:Addr) (fp:List Addr) (tn:Nat->Heap->Prop) (J:It) (H':Hp),itv=.ref it/\Inv X pins σ H' s2/\Turn X.prog X.w X.K tg J fp it tn/\tn 0 s2.heap/\(∀b∈fp,dh X pins H' b)/\R J H'
def PI (X:Cx)(tg iter:Expr)(wi:TI):Prop:=
 ∀(pins:List (Addr×Obj)) (s:Shared) (σ:St) (H:Hp) (R:It->Hp->Prop),Inv X pins σ H s->wi σ H R ->
   wpAny (model X.prog X.w) X.A (eval iter X.env) (fun v s1=>wpAny (model X.prog X.w) X.A (pyIter v) (Dd X pins σ tg R) X.xe s1) X.xe s

/-- the step ahead of the store is nothing for an iterator that keeps no tuple -/
theorem rE {M:Model}{A:Around}{E:Value->Shared->Prop}{s:Shared}{tg:Expr}{it:Addr}{u:Value}{o:Obj}{n:String}{vs:Array Value}{Q:Unit->Shared->Prop}(ho:s.heap.get? it=some o)(hc:o.cls=.type n)(hd:o.data=.fields vs)
   (hn:["enumerate","zip","dict_itemiterator","dict_reverseitemiterator","odict_iterator","itertools.zip_longest","itertools.pairwise"].contains n=false) (hQ:Q () s):wpAny M A (letOwnedTupleGo tg (.ref it) u) Q E s:=by
 unfold letOwnedTupleGo
 cases tg <;> first
   | exact wpAny_pure hQ
   | (cases u <;> first
       | exact wpAny_pure hQ
       | (refine wpAny_bind (wpAny_load ho ?_)
          rw [hc,hd]
          show wpAny M A (if (["enumerate","zip","dict_itemiterator","dict_reverseitemiterator","odict_iterator","itertools.zip_longest","itertools.pairwise"].contains n && vs[0]? == some (rawInt _))=true then _ else _) Q E s
          rw [if_neg (by intro h; rw [hn,Bool.false_and] at h; cases h)]
          exact wpAny_pure hQ))

/-- the list at a,as it stands at each turn (a loop may append to it) -/
def zL (K:D9)(a:Addr):It:=
 ⟨fun i H=>∃xs x,aA K H a xs/\xs[i]? = some x,fun i H x H'=>H'=H/\∀xs,aA K H a xs->xs[i]? = some x,fun i H=>∃xs,aA K H a xs/\xs.length<=i⟩
def zZ (K:D9)(a:Addr):It:=
 ⟨fun i H=>∃xs x,ar K H a xs/\xs[i]? = some x,fun i H x H'=>H'=H/\∀xs,ar K H a xs->xs[i]? = some x,fun i H=>∃xs,ar K H a xs/\xs.length<=i⟩
/-- lo,lo + 1,.. (n of them) -/
def xj (lo:Int)(n:Nat):It:=⟨fun i _=>i < n,fun i H x H'=>H'=H/\x=.int (lo + i),fun i _=>n<=i⟩
theorem qF {P:Program}{w:World}{K:D9}{tg:Expr}(a it:Addr):Turn P w K tg (zL K a) [it] it (fun i h=>h.IsListIter it a i) where
 mem:=by simp
 obj:=fun i h st b hb=>by
   have e:b=it:=by simpa using hb
   subst e
   obtain ⟨o,e,c,d⟩:=st
   exact ⟨o,e,fun v z=>by rw [d] at z; cases z⟩
 keep:=fun i h h' st k=>st.at fun o e=>k it (by simp) o e
 item:=by
   intro X hP hw hK hc i pins s σ H E I hf st hg
   subst hP hw hK
   obtain ⟨xs,x,hq,hx⟩:=hg
   obtain ⟨its,rv,p,hz⟩:=I.list hq
   obtain ⟨u,hu,ru⟩:=rv.get hx
   obtain ⟨f0,f1,f2,f3,f4,f5⟩:=hf it (by simp)
   refine wpAny_pyNext_list_item st p.isList (x:=u) (by simpa using hu) fun h' st' sb=>?_
   have I1:Inv X pins σ H { s with heap:=h' }:=I.turned (t':=s.toks) (fun b o hb e=>(sb.2 b hb).trans e) f0 f1 f3 f4 f5
   obtain ⟨o,e,c,d⟩:=id st'
   exact ⟨u,rfl,rE (s:={ s with heap:=h' }) e c d (by decide) ⟨x,H,I1,ru,⟨rfl,fun ys hy=>by rw [I.list_inj hy hq]; exact hx⟩,st',fun b hb=>(hf b hb).1⟩⟩
 done:=by
   intro X hP hw hK hc i pins s σ H E I hf st hg
   subst hP hw hK
   obtain ⟨xs,hq,hx⟩:=hg
   obtain ⟨its,rv,p,hz⟩:=I.list hq
   obtain ⟨f0,f1,f2,f3,f4,f5⟩:=hf it (by simp)
   have hl:=rv.length
   exact wpAny_pyNext_list_end (I.ok.hd hc) st p.isList (by simp; omega) fun h' eb=>⟨rfl,I.turned (t':=s.toks) (fun b o hb e=>eb b o hb e) f0 f1 f3 f4 f5⟩
 self:=fun _ _ _ _ _ st h=>wpAny_pyIter_listiter st h
theorem nj {P:Program}{w:World}{K:D9}{tg:Expr}(a it:Addr):Turn P w K tg (zZ K a) [it] it (fun i h=>h.IsTupleIter it a i) where
 mem:=by simp
 obj:=fun i h st b hb=>by
   have e:b=it:=by simpa using hb
   subst e
   obtain ⟨o,e,c,d⟩:=st
   exact ⟨o,e,fun v z=>by rw [d] at z; cases z⟩
 keep:=fun i h h' st k=>st.at fun o e=>k it (by simp) o e
 item:=by
   intro X hP hw hK hc i pins s σ H E I hf st hg
   subst hP hw hK
   obtain ⟨xs,x,hq,hx⟩:=hg
   obtain ⟨its,rv,p,hz⟩:=I.tuple hq
   obtain ⟨u,hu,ru⟩:=rv.get hx
   obtain ⟨f0,f1,f2,f3,f4,f5⟩:=hf it (by simp)
   refine wpAny_pyNext_tuple_item st (show s.heap.IsTuple a its.toArray from p) (x:=u) (by simpa using hu) fun h' st' sb=>?_
   have I1:Inv X pins σ H { s with heap:=h' }:=I.turned (t':=s.toks) (fun b o hb e=>(sb.2 b hb).trans e) f0 f1 f3 f4 f5
   obtain ⟨o,e,c,d⟩:=id st'
   exact ⟨u,rfl,rE (s:={ s with heap:=h' }) e c d (by decide) ⟨x,H,I1,ru,⟨rfl,fun ys hy=>by rw [I.tuple_inj hy hq]; exact hx⟩,st',fun b hb=>(hf b hb).1⟩⟩
 done:=by
   intro X hP hw hK hc i pins s σ H E I hf st hg
   subst hP hw hK
   obtain ⟨xs,hq,hx⟩:=hg
   obtain ⟨its,rv,p,hz⟩:=I.tuple hq
   obtain ⟨f0,f1,f2,f3,f4,f5⟩:=hf it (by simp)
   have hl:=rv.length
   exact wpAny_pyNext_tuple_end (I.ok.hd hc) st (show s.heap.IsTuple a its.toArray from p) (by simp; omega) fun h' eb=>⟨rfl,I.turned (t':=s.toks) (fun b o hb e=>eb b o hb e) f0 f1 f3 f4 f5⟩
 self:=fun _ _ _ _ _ st h=>wpAny_pyIter_tupleiter st h
theorem nh {P:Program}{w:World}{K:D9}{tg:Expr}(it:Addr)(lo:Int)(n:Nat):Turn P w K tg (xj lo n) [it] it (fun i h=>IsRangeIter h it (lo + (i:Nat) * 1) ((n:Int) - (i:Nat)) 1) where
 mem:=by simp
 obj:=fun i h st b hb=>by
   have e:b=it:=by simpa using hb
   subst e
   exact ⟨_,st,fun v z=>by
     have z':Data.fields _=Data.cell v:=z
     cases z'⟩
 keep:=fun i h h' st k=>k it (by simp) _ st
 item:=by
   intro X hP hw hK hc i pins s σ H E I hf st hg
   subst hP hw hK
   obtain ⟨f0,f1,f2,f3,f4,f5⟩:=hf it (by simp)
   have W:=Walks.range (prog:=X.prog) (w:=X.w) (I.ok.hd hc) it lo 1 n
   refine W.item i s _ _ hg st fun v h' tk hv st' kk=>?_
   obtain ⟨t,rfl⟩:=hv
   have I1:Inv X pins σ H { s with heap:=h',toks:=tk }:=I.turned (fun b o hb e=>kk b o (by simpa using hb) e) f0 f1 f3 f4 f5
   refine ⟨_,rfl,rE (s:={ s with heap:=h',toks:=tk }) (n:="range_iterator") st' rfl rfl (by decide) ⟨.int (lo + i),H,I1,⟨t,?_⟩,⟨rfl,rfl⟩,st',fun b hb=>(hf b hb).1⟩⟩
   rw [Int.mul_one]
 done:=by
   intro X hP hw hK hc i pins s σ H E I hf st hg
   subst hP hw hK
   obtain ⟨f0,f1,f2,f3,f4,f5⟩:=hf it (by simp)
   exact wpAny_pyNext_range_end (I.ok.hd hc) st (by have:n<=i:=hg; omega) fun h' eb=>⟨rfl,I.turned (t':=s.toks) (fun b o hb e=>eb b o hb e) f0 f1 f3 f4 f5⟩
 self:=fun _ _ _ _ _ st h=>wpAny_pyIter_rangeiter st h
end L2

namespace L2
open PySem PySem.Spec PyProof.Rows
section
variable {X:Cx}{tg:Expr}
def wI (K:D9)(tl:TE):TI:=fun σ H R=>tl σ H fun x H1=>∃a,x=.ref a/\(∃xs,aA K H1 a xs)/\R (zL K a) H1
def Av (K:D9)(tl:TE):TI:=fun σ H R=>tl σ H fun x H1=>∃a,x=.ref a/\(∃xs,ar K H1 a xs)/\R (zZ K a) H1
theorem vR {l:Expr}{tl:TE}(hl:PE X l tl):PI X tg l (wI X.K tl):=by
 intro pins s σ H R I h
 refine a7 (hl pins s σ H _ I h) fun v s1 ⟨x,H1,I1,r1,q1⟩=>?_
 obtain ⟨a,e,⟨xs,hq⟩,q⟩:=q1
 subst e
 cases r1
 obtain ⟨its,rv,p,hz⟩:=I1.list hq
 refine wpAny_pyIter_list p.isList ?_
 refine ⟨s1.heap.objs.size,[s1.heap.objs.size],_,_,H1,rfl,I1.kept (t':=s1.toks) fun b o e=>Ec _ e,qF a _,⟨_,El _ rfl,rfl,rfl⟩,fun b hb=>?_,q⟩
 have e:b=s1.heap.objs.size:=by simpa using hb
 subst e
 exact I1.fpOk (Ee _) (I1.hok.fresh (Ee _))
theorem y6 {l:Expr}{tl:TE}(hl:PE X l tl):PI X tg l (Av X.K tl):=by
 intro pins s σ H R I h
 refine a7 (hl pins s σ H _ I h) fun v s1 ⟨x,H1,I1,r1,q1⟩=>?_
 obtain ⟨a,e,⟨xs,hq⟩,q⟩:=q1
 subst e
 cases r1
 obtain ⟨its,rv,p,hz⟩:=I1.tuple hq
 refine wpAny_pyIter_tuple (show s1.heap.IsTuple a its.toArray from p) ?_
 refine ⟨s1.heap.objs.size,[s1.heap.objs.size],_,_,H1,rfl,I1.kept (t':=s1.toks) fun b o e=>Ec _ e,nj a _,⟨_,El _ rfl,rfl,rfl⟩,fun b hb=>?_,q⟩
 have e:b=s1.heap.objs.size:=by simpa using hb
 subst e
 exact I1.fpOk (Ee _) (I1.hok.fresh (Ee _))
/-- a range object just made,walked -/
theorem tG {pins:List (Addr×Obj)}{σ:St}{H:Hp}{s:Shared}{R:It->Hp->Prop}{E:Value->Shared->Prop}{lo hi:Int}{t u v:Tok}{tk:Nat}(I:Inv X pins σ H s)(h1 : -(2 ^ 62)<=lo)(h2:lo < 2 ^ 62)(h3 : -(2 ^ 62)<=hi)(h4:hi < 2 ^ 62)
   (q:R (xj lo (hi - lo).toNat) H):wpAny (model X.prog X.w) X.A (pyIter (.ref s.heap.objs.size)) (Dd X pins σ tg R) E { s with heap:=s.heap.push { cls:=.type "range",data:=.fields #[.int lo t,.int hi u,.int 1 v] },toks:=tk }:=by
 refine wpAny_pyIter_range (IsRange.new ..) (small_one h1 h2 h3 h4) ?_
 have I1:Inv X pins σ H { s with heap:=s.heap.push { cls:=.type "range",data:=.fields #[.int lo t,.int hi u,.int 1 v] },toks:=tk }:=I.kept fun b o e=>Ec _ e
 refine ⟨(s.heap.push { cls:=.type "range",data:=.fields #[.int lo t,.int hi u,.int 1 v] }).objs.size,[(s.heap.push { cls:=.type "range",data:=.fields #[.int lo t,.int hi u,.int 1 v] }).objs.size],_,_,H,rfl,
   I1.kept (t':=tk) fun b o e=>Ec _ e,nh _ lo (hi - lo).toNat,?_,fun b hb=>?_,q⟩
 · have e1:lo + ((0:Nat):Int) * 1=lo:=by simp
   have e2:(((hi - lo).toNat:Nat):Int) - ((0:Nat):Int)=Builtin.Range.rangeSize lo hi 1:=by rw [rangeSize_one]; split <;> omega
   show IsRangeIter _ _ (lo + ((0:Nat):Int) * 1) ((((hi - lo).toNat:Nat):Int) - ((0:Nat):Int)) 1
   rw [e1,e2]
   exact El _ rfl
 · have e:b=(s.heap.push { cls:=.type "range",data:=.fields #[.int lo t,.int hi u,.int 1 v] }).objs.size:=by simpa using hb
   subst e
   exact I1.fpOk (Ee _) (I1.hok.fresh (Ee _))
def rR (ta:TA):TI:=fun σ H R=>ta σ H fun vs H1=>∃j:Int,vs=[.int j] /\ -(2 ^ 62)<=j/\j < 2 ^ 62/\R (xj 0 j.toNat) H1
theorem qv {a:Expr}{ta:TA}{p pos:Pos}(hg:Gl X "range")(hm:X.mg "range"=none)(ha:PA X [a] ta)(hs:starEach [a] X.env=[(false,eval a X.env)]:=by rfl):PI X tg (.Call (.Name "range" p) [a] [] pos) (rR ta):=by
 intro pins s σ H R I h
 refine Call_ (fI I hg hm boot_range (Fq (a7 (ha pos pins s σ H _ I h) fun us s1 ⟨vs,H1,I1,r1,q1⟩=>?_) hs rfl))
 obtain ⟨j,e,q1,q2,q⟩:=q1
 subst e
 cases r1 with
 | cons r rr=>
   cases rr
   obtain ⟨t,rfl⟩:=r
   exact call_range_1 (tG I1 (by omega) (by omega) q1 q2 (by simpa using q))
/-! ### for -/
/-- W: the invariant by the turn and a measure; N: what the body is to reach -/
def BC (wi:TI)(g:TG)(tb:TS):TS:=fun D σ H=>wi σ H fun J H1=>∃W:Nat->Nat->St->Hp->Prop,(∃m,W 0 m σ H1)/\∀i m σ H,W i m σ H ->
 (J.stop i H/\D.nx σ H)\/(J.go i H/\∃N:St->Hp->Prop,(∀σ' H',N σ' H'->∃m',m' < m/\W (i + 1) m' σ' H')/\∀x H',J.yld i H x H'->g x σ H' fun σ2 H2=>tb { D with nx:=N,ct:=N,bk:=D.nx } σ2 H2)
/-- the records at fp as they stand -/
def iy (fp:List Addr)(h:Heap):List (Addr×Obj):=fp.filterMap fun b=>(h.get? b).map fun o=>(b,o)
theorem da {fp:List Addr}{h:Heap}{b:Addr}{o:Obj}(hb:b∈fp)(e:h.get? b=some o):(b,o)∈iy fp h:=List.mem_filterMap.mpr ⟨b,hb,by rw [e]; rfl⟩
theorem ql {fp:List Addr}{h:Heap}{p:Addr×Obj}(hp:p∈iy fp h):p.1∈fp/\h.get? p.1=some p.2:=by
 obtain ⟨b,hb,e⟩:=List.mem_filterMap.mp hp
 cases q:h.get? b with
 | none=>rw [q] at e; cases e
 | some o=>
   rw [q] at e
   have e':(b,o)=p:=EH e
   subst e'
   exact ⟨hb,q⟩
theorem Inv.pinned {pins:List (Addr×Obj)}{σ:St}{H:Hp}{s:Shared}{fp:List Addr}(I:Inv X pins σ H s)(hf:∀b∈fp,dh X pins H b)(ho:∀b∈fp,∃o,s.heap.get? b=some o/\∀v,o.data≠.cell v):Inv X (pins++iy fp s.heap) σ H s:=
 I.ow fun p hp=>(List.mem_append.mp hp).elim (fun z=>I.pin p (EF _ z)) fun z=>by
   obtain ⟨hb,e⟩:=ql z
   obtain ⟨f0,f1,f2,_⟩:=hf p.1 hb
   obtain ⟨o,e',d⟩:=ho p.1 hb
   rw [e] at e'; cases e'
   exact ⟨e,f0,f1,f2,d⟩
theorem Inv.unpinned {pins pl:List (Addr×Obj)}{σ:St}{H:Hp}{s:Shared}(I:Inv X (pins++pl) σ H s):Inv X pins σ H s:=I.ow fun p hp=>I.pin p (EF _ (Gv _ hp))
theorem za {iter:Expr}{body:List Stmt}{wi:TI}{g:TG}{tb:TS}{pos:Pos}(hp:PassesOwn (model X.prog X.w) X.A X.env X.xe)(hc:X.calm=true)(hi:PI X tg iter wi)(hg:PG X tg g)(hb:mv X body tb)
   (hs:∀x,foldedSetIterable iter X.env x=pure x:=by intro _; rfl):PS X (.For tg iter body [] pos) (BC wi g tb):=by
 intro pins s σ H D I h
 refine wpAny_For (a7 (hi pins s σ H _ I h) fun v s1 h1=>a7 h1 fun itv s2 h2=>?_) hs
 obtain ⟨it,fp,tn,J,H2,e,I2,T,st2,f2,W,⟨m0,w0⟩,turn⟩:=h2
 subst e
 -- what stays true of the mM objects through the loop
 have stat:∀{H':Hp},(∀b∈fp,H' b=none)->∀b∈fp,dh X pins H' b:=fun hn b hb=>⟨hn b hb,(f2 b hb).2⟩
 refine codeAny_forLoop_any (fun n s'=>∃i σ' H',Inv X pins σ' H' s'/\tn i s'.heap/\(∀b∈fp,H' b=none)/\W i n σ' H') ?_ m0 ⟨0,σ,H2,I2,st2,fun b hb=>(f2 b hb).1,w0⟩
 rintro n s3 ⟨i,σ3,H3,I3,st3,fr3,w3⟩
 rcases turn i n σ3 H3 w3 with ⟨stop,qn⟩ | ⟨go,N,hN,step⟩
 · refine FG hp (a7 (T.done X rfl rfl rfl hc i pins s3 σ3 H3 X.xe I3 (stat fr3) st3 stop) fun r s4 ⟨hr,I4⟩=>?_)
   subst hr
   exact GF ⟨σ3,H3,I4,qn⟩
 · refine FG hp (a7 (T.item X rfl rfl rfl hc i pins s3 σ3 H3 X.xe I3 (stat fr3) st3 go) fun r s4 ⟨u,hr,h4⟩=>?_)
   subst hr
   refine FG hp (a7 h4 fun _ s5 ⟨x,H5,I5,r5,y5,st5,fr5⟩=>?_)
   have I5':=I5.pinned (stat fr5) (T.obj _ _ st5)
   refine FG hp (a7 (hg _ s5 σ3 H5 x u _ I5' r5 (step x H5 y5)) fun _ s6 ⟨σ6,H6,I6,q6⟩=>?_)
   refine FG hp (a7 (hb _ s6 σ6 H6 _ I6 q6) fun f s7 q7=>?_)
   have again:∀{σ7:St} {H7:Hp},Inv X (pins++iy fp s5.heap) σ7 H7 s7->N σ7 H7->∃m,m < n/\∃i σ' H',Inv X pins σ' H' s7/\tn i s7.heap/\(∀b∈fp,H' b=none)/\W i m σ' H':=fun {σ7 H7} I7 n7=>by
     obtain ⟨m',hm,w7⟩:=hN σ7 H7 n7
     refine ⟨m',hm,i + 1,σ7,H7,I7.unpinned,T.keep _ _ _ st5 fun b hb o e=>(I7.pin (b,o) (EF _ (EF _ (da hb e)))).1,fun b hb=>?_,w7⟩
     obtain ⟨o,e,d⟩:=T.obj _ _ st5 b hb
     exact (I7.pin (b,o) (EF _ (EF _ (da hb e)))).2.1
   cases f with
   | next=>obtain ⟨σ7,H7,I7,n7⟩:=q7; exact again I7 n7
   | cont=>obtain ⟨σ7,H7,I7,n7⟩:=q7; exact again I7 n7
   | brk=>obtain ⟨σ7,H7,I7,q7⟩:=q7; exact ⟨σ7,H7,I7.unpinned,q7⟩
   | ret v=>obtain ⟨x7,σ7,H7,I7,r7,q7⟩:=q7; exact ⟨x7,σ7,H7,I7.unpinned,r7,q7⟩
end

/-! ### the forms one uses -/
/-- over a list that the body leaves as it is -/
theorem bg {K:D9}{a:Addr}{xs:List V}{g:TG}{tb:TS}{D:Ends}{σ:St}{H:Hp}(Pv:Nat->St->Hp->Prop)(h0:Pv 0 σ H)(hl:∀i σ H,i<=xs.length->Pv i σ H->aA K H a xs)
   (hs:∀i x σ H,xs[i]? = some x->Pv i σ H->g x σ H fun σ2 H2=>tb { D with nx:=Pv (i + 1),ct:=Pv (i + 1),bk:=D.nx } σ2 H2) (hd:∀σ H,Pv xs.length σ H->D.nx σ H) :
   ∃W:Nat->Nat->St->Hp->Prop,(∃m,W 0 m σ H)/\∀i m σ H,W i m σ H ->
     ((zL K a).stop i H/\D.nx σ H)\/((zL K a).go i H/\∃N:St->Hp->Prop,(∀σ' H',N σ' H'->∃m',m' < m/\W (i + 1) m' σ' H')/\∀x H',(zL K a).yld i H x H'->g x σ H' fun σ2 H2=>tb { D with nx:=N,ct:=N,bk:=D.nx } σ2 H2):=by
 refine ⟨fun i m σ H=>m=xs.length - i/\i<=xs.length/\Pv i σ H,⟨xs.length,by simp,EC _,h0⟩,?_⟩
 rintro i m σ H ⟨rfl,hi,p⟩
 have q:=hl i σ H hi p
 by_cases hlt:i < xs.length
 · refine .inr ⟨⟨xs,xs[i],q,by simp [hlt]⟩,Pv (i + 1),fun σ' H' p'=>⟨xs.length - (i + 1),by omega,rfl,hlt,p'⟩,fun x H' y=>?_⟩
   obtain ⟨e,y⟩:=y
   subst e
   exact hs i x σ _ (y xs q) p
 · have e:i=xs.length:=by omega
   subst e
   exact .inl ⟨⟨xs,q,Ee _⟩,hd σ H p⟩
theorem nX {K:D9}{a:Addr}{xs:List V}{g:TG}{tb:TS}{D:Ends}{σ:St}{H:Hp}(Pv:Nat->St->Hp->Prop)(h0:Pv 0 σ H)(hl:∀i σ H,i<=xs.length->Pv i σ H->ar K H a xs)
   (hs:∀i x σ H,xs[i]? = some x->Pv i σ H->g x σ H fun σ2 H2=>tb { D with nx:=Pv (i + 1),ct:=Pv (i + 1),bk:=D.nx } σ2 H2) (hd:∀σ H,Pv xs.length σ H->D.nx σ H) :
   ∃W:Nat->Nat->St->Hp->Prop,(∃m,W 0 m σ H)/\∀i m σ H,W i m σ H ->
     ((zZ K a).stop i H/\D.nx σ H)\/((zZ K a).go i H/\∃N:St->Hp->Prop,(∀σ' H',N σ' H'->∃m',m' < m/\W (i + 1) m' σ' H')/\∀x H',(zZ K a).yld i H x H'->g x σ H' fun σ2 H2=>tb { D with nx:=N,ct:=N,bk:=D.nx } σ2 H2):=by
 refine ⟨fun i m σ H=>m=xs.length - i/\i<=xs.length/\Pv i σ H,⟨xs.length,by simp,EC _,h0⟩,?_⟩
 rintro i m σ H ⟨rfl,hi,p⟩
 have q:=hl i σ H hi p
 by_cases hlt:i < xs.length
 · refine .inr ⟨⟨xs,xs[i],q,by simp [hlt]⟩,Pv (i + 1),fun σ' H' p'=>⟨xs.length - (i + 1),by omega,rfl,hlt,p'⟩,fun x H' y=>?_⟩
   obtain ⟨e,y⟩:=y
   subst e
   exact hs i x σ _ (y xs q) p
 · have e:i=xs.length:=by omega
   subst e
   exact .inl ⟨⟨xs,q,Ee _⟩,hd σ H p⟩
theorem b7 {lo:Int}{n:Nat}{g:TG}{tb:TS}{D:Ends}{σ:St}{H:Hp}(Pv:Nat->St->Hp->Prop)(h0:Pv 0 σ H)
   (hs:∀i σ H,i < n->Pv i σ H->g (.int (lo + i)) σ H fun σ2 H2=>tb { D with nx:=Pv (i + 1),ct:=Pv (i + 1),bk:=D.nx } σ2 H2) (hd:∀σ H,Pv n σ H->D.nx σ H) :
   ∃W:Nat->Nat->St->Hp->Prop,(∃m,W 0 m σ H)/\∀i m σ H,W i m σ H ->
     ((xj lo n).stop i H/\D.nx σ H)\/((xj lo n).go i H/\∃N:St->Hp->Prop,(∀σ' H',N σ' H'->∃m',m' < m/\W (i + 1) m' σ' H')/\∀x H',(xj lo n).yld i H x H'->g x σ H' fun σ2 H2=>tb { D with nx:=N,ct:=N,bk:=D.nx } σ2 H2):=by
 refine ⟨fun i m σ H=>m=n - i/\i<=n/\Pv i σ H,⟨n,by simp,EC _,h0⟩,?_⟩
 rintro i m σ H ⟨rfl,hi,p⟩
 by_cases hlt:i < n
 · refine .inr ⟨hlt,Pv (i + 1),fun σ' H' p'=>⟨n - (i + 1),by omega,rfl,hlt,p'⟩,fun x H' y=>?_⟩
   obtain ⟨e,y⟩:=y
   subst e y
   exact hs i σ _ hlt p
 · have e:i=n:=by omega
   subst e
   exact .inl ⟨Ee _,hd σ H p⟩
end L2

namespace L2
open PySem PySem.Spec PyProof.Rows

abbrev R2:=V->V->Hp->VK->Prop
/-- a two-place operation on values: f is binaryOp op,inplaceOp op or compareOp op -/
def dS (X:Cx)(f:Value->Value->Sem Value)(r:R2):Prop:=
 ∀(pins:List (Addr×Obj)) (s:Shared) (σ:St) (H:Hp) (x y:V) (v u:Value) (Q:VK),Inv X pins σ H s->RelV x v->RelV y u->r x y H Q ->
   wpAny (model X.prog X.w) X.A (f v u) (EP X pins σ Q) X.xe s
/-- a one-place operation -/
def Cn (X:Cx)(f:Value->Sem Value)(r:V->Hp->VK->Prop):Prop:=
 ∀(pins:List (Addr×Obj)) (s:Shared) (σ:St) (H:Hp) (x:V) (v:Value) (Q:VK),Inv X pins σ H s->RelV x v->r x H Q ->
   wpAny (model X.prog X.w) X.A (f v) (EP X pins σ Q) X.xe s
/-- a call of a value that is known (a builtin,a type) with values -/
def bZ (X:Cx)(f:Value)(r:List V->Hp->VK->Prop):Prop:=
 ∀(pins:List (Addr×Obj)) (s:Shared) (σ:St) (H:Hp) (xs:List V) (us:List Value) (Q:VK),Inv X pins σ H s->Vals xs us->r xs H Q ->
   wpAny (model X.prog X.w) X.A (call f us) (EP X pins σ Q) X.xe s
def xh (r:R2)(ta tb:TE):TE:=fun σ H Q=>ta σ H fun x H1=>tb σ H1 fun y H2=>r x y H2 Q
def Dw (r:V->Hp->VK->Prop)(ta:TE):TE:=fun σ H Q=>ta σ H fun x H1=>r x H1 Q
/-- ints in,under C,and a value out -/
def rI (C:Int->Int->Prop)(g:Int->Int->V):R2:=fun x y H Q=>∃i j,x=.int i/\y=.int j/\C i j/\Q (g i j) H
def oB (g:Int->Int->V):R2:=fun x y H Q=>∃i j,x=.int i/\y=.int j/\Q (g i j) H
def rU (g:Int->V):V->Hp->VK->Prop:=fun x H Q=>∃i,x=.int i/\Q (g i) H

section
variable {X:Cx}{a b c:Expr}{ta tb tc:TE}{pos:Pos}

theorem xw (ha:PE X a ta)(hb:PE X b tb){pins:List (Addr×Obj)}{s:Shared}{σ:St}{H:Hp}{R:V->V->Hp->Prop}(I:Inv X pins σ H s)
   (h:ta σ H fun x H1=>tb σ H1 fun y H2=>R x y H2) {Q:Value->Shared->Prop} {f:Value->Value->Sem Value}
   (hf:∀v u s2 x y H2,Inv X pins σ H2 s2->RelV x v->RelV y u->R x y H2->wpAny (model X.prog X.w) X.A (f v u) Q X.xe s2) :
   wpAny (model X.prog X.w) X.A (eval a X.env) (fun v s₁=>wpAny (model X.prog X.w) X.A (eval b X.env) (fun u s₂=>wpAny (model X.prog X.w) X.A (f v u) Q X.xe s₂) X.xe s₁) X.xe s:=by
 refine a7 (ha pins s σ H _ I h) fun v s1 ⟨x,H1,I1,r1,q1⟩=>?_
 refine a7 (hb pins s1 σ H1 _ I1 q1) fun u s2 ⟨y,H2,I2,r2,q2⟩=>?_
 exact hf v u s2 x y H2 I2 r1 r2 q2

theorem Ba {op:Operator}{r:R2}(ho:dS X (binaryOp op) r)(ha:PE X a ta)(hb:PE X b tb):PE X (.BinOp a op b pos) (xh r ta tb):=by
 intro pins s σ H Q I h
 exact wpAny_BinOp (xw ha hb I h fun v u s2 x y H2 I2 rx ry q=>ho pins s2 σ H2 x y v u Q I2 rx ry q)
theorem Bc {op:UnaryOp}{r:V->Hp->VK->Prop}(ho:Cn X (unaryOp op) r)(ha:PE X a ta):PE X (.UnaryOp op a pos) (Dw r ta):=by
 intro pins s σ H Q I h
 exact UnaryOp_ (a7 (ha pins s σ H _ I h) fun v s1 ⟨x,H1,I1,r1,q1⟩=>ho pins s1 σ H1 x v Q I1 r1 q1)
/-! ### ints -/
theorem B6 {f:Value->Value->Sem Value}{C:Int->Int->Prop}{g:Int->Int->Int}
   (rule:∀(i j:Int) (t u:Tok) (s:Shared) (Q:Value->Shared->Prop) (E:Value->Shared->Prop),C i j->Q (.int (g i j) s.toks) { s with toks:=s.toks + 1 }->wpAny (model X.prog X.w) X.A (f (.int i t) (.int j u)) Q E s) :
   dS X f (rI C fun i j=>.int (g i j)):=by
 intro pins s σ H x y v u Q I rx ry h
 obtain ⟨i,j,rfl,rfl,hc,q⟩:=h
 obtain ⟨t,rfl⟩:=rx
 obtain ⟨t',rfl⟩:=ry
 exact rule i j t t' s _ _ hc ⟨.int (g i j),H,I.tok _,⟨_,rfl⟩,q⟩
theorem AY {f:Value->Value->Sem Value}{g:Int->Int->Int}
   (rule:∀(i j:Int) (t u:Tok) (s:Shared) (Q:Value->Shared->Prop) (E:Value->Shared->Prop),Q (.int (g i j) s.toks) { s with toks:=s.toks + 1 }->wpAny (model X.prog X.w) X.A (f (.int i t) (.int j u)) Q E s) :
   dS X f (oB fun i j=>.int (g i j)):=by
 intro pins s σ H x y v u Q I rx ry h
 obtain ⟨i,j,rfl,rfl,q⟩:=h
 obtain ⟨t,rfl⟩:=rx
 obtain ⟨t',rfl⟩:=ry
 exact rule i j t t' s _ _ ⟨.int (g i j),H,I.tok _,⟨_,rfl⟩,q⟩
theorem vE {f:Value->Value->Sem Value}{g:Int->Int->Bool}
   (rule:∀(i j:Int) (t u:Tok) (s:Shared) (Q:Value->Shared->Prop) (E:Value->Shared->Prop),Q (.bool (g i j)) s->wpAny (model X.prog X.w) X.A (f (.int i t) (.int j u)) Q E s) :
   dS X f (oB fun i j=>.bl (g i j)):=by
 intro pins s σ H x y v u Q I rx ry h
 obtain ⟨i,j,rfl,rfl,q⟩:=h
 obtain ⟨t,rfl⟩:=rx
 obtain ⟨t',rfl⟩:=ry
 exact rule i j t t' s _ _ ⟨.bl (g i j),H,I,rfl,q⟩

def zY (i j:Int):Prop:=0<=j/\j<=1000000/\i.natAbs < 2 ^ 64
def uq (i j:Int):Prop:=(-(2 ^ 64) < i/\i < 2 ^ 64)\/(-(2 ^ 64) < j/\j < 2 ^ 64)
theorem uq.ok {i j:Int}(h:uq i j):IntMulOk i j:=by
 rcases h with ⟨h1,h2⟩ | ⟨h1,h2⟩
 · exact .of_left (intBits_le_64 h1 h2)
 · exact .of_right (intBits_le_64 h1 h2)
theorem yE:dS X (binaryOp .Add) (oB fun i j=>.int (i + j)):=AY fun _ _ _ _ _ _ _ q=>add_int q
theorem yN:dS X (binaryOp .Sub) (oB fun i j=>.int (i - j)):=AY fun _ _ _ _ _ _ _ q=>sub_int q
theorem yK:dS X (binaryOp .Mult) (rI uq fun i j=>.int (i * j)):=B6 fun _ _ _ _ _ _ _ hc q=>mul_int q hc.ok
/-- % by a positive B4 of any size -/
theorem yJ:dS X (binaryOp .Mod) (rI (fun _ j=>0 < j) fun i j=>.int (i % j)):=B6 fun i j _ _ _ _ _ hc q=>by
 have h1:(0:Int) < j:=hc
 exact mod_int' (by omega) (by rw [Int.fmod_eq_emod_of_nonneg i (by omega)]; exact q)
theorem yM:dS X (binaryOp .Pow) (rI zY fun i j=>.int (i ^ j.toNat)):=B6 fun _ _ _ _ _ _ _ hc q=>pow_int_small hc.1 hc.2.1 hc.2.2 q
theorem DS {f:Value->Sem Value}{g:Int->Int}
   (rule:∀(i:Int) (t:Tok) (s:Shared) (Q:Value->Shared->Prop) (E:Value->Shared->Prop),Q (.int (g i) s.toks) { s with toks:=s.toks + 1 }->wpAny (model X.prog X.w) X.A (f (.int i t)) Q E s) :
   Cn X f (rU fun i=>.int (g i)):=by
 intro pins s σ H x v Q I rx h
 obtain ⟨i,rfl,q⟩:=h
 obtain ⟨t,rfl⟩:=rx
 exact rule i t s _ _ ⟨.int (g i),H,I.tok _,⟨_,rfl⟩,q⟩
theorem zG:Cn X (unaryOp .USub) (rU fun i=>.int (-i)):=DS fun _ _ _ _ _ q=>neg_int q
/-! ### bools among ints: n += (a < b) -/
end

/-! ### comparisons -/
/-- the Ca that == tells apart as data does -/
def By:V->V->Bool
 | .aU,.aU=>true | .aU,.int _=>true | .int _,.aU=>true | .aU,.bl _=>true | .bl _,.aU=>true | .aU,.str _=>true | .str _,.aU=>true
 | .int _,.int _=>true | .bl _,.bl _=>true | .str _,.str _=>true | .byt _,.byt _=>true
 | .int _,.str _=>true | .str _,.int _=>true | .bl _,.str _=>true | .str _,.bl _=>true
 | _,_=>false
def Dp:R2:=fun x y H Q=>By x y=true/\Q (.bl (decide (x=y))) H
def Dq:R2:=fun x y H Q=>By x y=true/\Q (.bl (!decide (x=y))) H

theorem nS {i j:Int}:decide (V.int i=V.int j)=(i == j):=by
 rw [FC]
 simp
theorem q5 {i j:Bool}:decide (V.bl i=V.bl j)=(i == j):=by
 rw [FC]
 simp
theorem nU {i j:Str}:decide (V.str i=V.str j)=(i == j):=by
 rw [FC]
 simp
theorem nQ {i j:Array UInt8}:decide (V.byt i=V.byt j)=(i.toList == j.toList):=by
 rw [FC]
 cases i
 cases j
 simp

section
variable {X:Cx}{a b c:Expr}{ta tb tc:TE}{pos:Pos}
theorem aJ {pins:List (Addr×Obj)}{σ:St}{H:Hp}{s:Shared}{Q:VK}{k k':Bool}(I:Inv X pins σ H s)(q:Q (.bl k) H)(e:k=k'):EP X pins σ Q (.bool k') s:=by
 subst e
 exact ⟨.bl k,H,I,rfl,q⟩
theorem AZ:dS X (compareOp .Eq) Dp:=by
 intro pins s σ H x y v u Q I rx ry h
 obtain ⟨hs,q⟩:=h
 cases x with
 | aU=>
   cases rx
   cases y with
   | aU=>cases ry; exact PySem.EqNone.eq_none_none (aJ I q (by simp))
   | bl j=>cases ry; exact PySem.EqNone.eq_none_bool (aJ I q (by simp))
   | int j=>obtain ⟨t',rfl⟩:=ry; exact PySem.EqNone.eq_none_int (aJ I q (by simp))
   | str j=>obtain ⟨t',rfl⟩:=ry; exact PySem.EqNone.eq_none_str (aJ I q (by simp))
   | _=>exact absurd (show false=true from hs) Ej
 | bl i=>
   cases rx
   cases y with
   | aU=>cases ry; exact PySem.EqNone.eq_bool_none (aJ I q (by simp))
   | bl j=>cases ry; exact eq_bool (aJ I q q5)
   | str j=>obtain ⟨t',rfl⟩:=ry; exact PySem.EqMixed.eq_bool_str (aJ I q (by simp))
   | _=>exact absurd (show false=true from hs) Ej
 | int i=>
   obtain ⟨t,rfl⟩:=rx
   cases y with
   | aU=>cases ry; exact PySem.EqNone.eq_int_none (aJ I q (by simp))
   | int j=>obtain ⟨t',rfl⟩:=ry; exact eq_int (aJ I q nS)
   | str j=>obtain ⟨t',rfl⟩:=ry; exact PySem.EqMixed.eq_int_str (aJ I q (by simp))
   | _=>exact absurd (show false=true from hs) Ej
 | str i=>
   obtain ⟨t,rfl⟩:=rx
   cases y with
   | aU=>cases ry; exact PySem.EqNone.eq_str_none (aJ I q (by simp))
   | bl j=>cases ry; exact PySem.EqMixed.eq_str_bool (aJ I q (by simp))
   | int j=>obtain ⟨t',rfl⟩:=ry; exact PySem.EqMixed.eq_str_int (aJ I q (by simp))
   | str j=>obtain ⟨t',rfl⟩:=ry; exact eq_str (aJ I q nU)
   | _=>exact absurd (show false=true from hs) Ej
 | byt i=>
   obtain ⟨t,rfl⟩:=rx
   cases y with
   | byt j=>obtain ⟨t',rfl⟩:=ry; exact PySem.W.eq_bytes (aJ I q nQ)
   | _=>exact absurd (show false=true from hs) Ej
 | _=>cases y <;> exact absurd (show false=true from hs) Ej
theorem A4:dS X (compareOp .NotEq) Dq:=by
 intro pins s σ H x y v u Q I rx ry h
 obtain ⟨hs,q⟩:=h
 cases x with
 | aU=>
   cases rx
   cases y with
   | aU=>cases ry; exact PySem.EqNone.ne_none_none (aJ I q (by simp))
   | bl j=>cases ry; exact PySem.EqNone.ne_none_bool (aJ I q (by simp))
   | int j=>obtain ⟨t',rfl⟩:=ry; exact PySem.EqNone.ne_none_int (aJ I q (by simp))
   | str j=>obtain ⟨t',rfl⟩:=ry; exact PySem.EqNone.ne_none_str (aJ I q (by simp))
   | _=>exact absurd (show false=true from hs) Ej
 | bl i=>
   cases rx
   cases y with
   | aU=>cases ry; exact PySem.EqNone.ne_bool_none (aJ I q (by simp))
   | bl j=>cases ry; exact ne_bool (aJ I q (congrArg not q5))
   | str j=>obtain ⟨t',rfl⟩:=ry; exact PySem.EqMixed.ne_bool_str (aJ I q (by simp))
   | _=>exact absurd (show false=true from hs) Ej
 | int i=>
   obtain ⟨t,rfl⟩:=rx
   cases y with
   | aU=>cases ry; exact PySem.EqNone.ne_int_none (aJ I q (by simp))
   | int j=>obtain ⟨t',rfl⟩:=ry; exact ne_int (aJ I q (congrArg not nS))
   | str j=>obtain ⟨t',rfl⟩:=ry; exact PySem.EqMixed.ne_int_str (aJ I q (by simp))
   | _=>exact absurd (show false=true from hs) Ej
 | str i=>
   obtain ⟨t,rfl⟩:=rx
   cases y with
   | aU=>cases ry; exact PySem.EqNone.ne_str_none (aJ I q (by simp))
   | bl j=>cases ry; exact PySem.EqMixed.ne_str_bool (aJ I q (by simp))
   | int j=>obtain ⟨t',rfl⟩:=ry; exact PySem.EqMixed.ne_str_int (aJ I q (by simp))
   | str j=>obtain ⟨t',rfl⟩:=ry; exact ne_str (aJ I q (congrArg not nU))
   | _=>exact absurd (show false=true from hs) Ej
 | byt i=>
   obtain ⟨t,rfl⟩:=rx
   cases y with
   | byt j=>obtain ⟨t',rfl⟩:=ry; exact PySem.W.ne_bytes (aJ I q (congrArg not nQ))
   | _=>exact absurd (show false=true from hs) Ej
 | _=>cases y <;> exact absurd (show false=true from hs) Ej

theorem A3:dS X (compareOp .Lt) (oB fun i j=>.bl (decide (i < j))):=vE fun _ _ _ _ _ _ _ q=>lt_int q
theorem A2:dS X (compareOp .LtE) (oB fun i j=>.bl (decide (i<=j))):=vE fun _ _ _ _ _ _ _ q=>le_int q
theorem A1:dS X (compareOp .Gt) (oB fun i j=>.bl (decide (j < i))):=vE fun _ _ _ _ _ _ _ q=>gt_int q
theorem A0:dS X (compareOp .GtE) (oB fun i j=>.bl (decide (j<=i))):=vE fun _ _ _ _ _ _ _ q=>ge_int q
/-- is None,is not None: the right side a value none -/
theorem yI:dS X (compareOp .Is) (fun x y H Q=>y=.aU/\Q (.bl (decide (x=.aU))) H):=by
 intro pins s σ H x y v u Q I rx ry h
 obtain ⟨rfl,q⟩:=h
 cases ry
 refine is_none_gen (aJ I q ?_)
 cases x <;> first
   | (cases rx; rfl)
   | (obtain ⟨t,rfl⟩:=rx; rfl)
theorem vG:dS X (compareOp .IsNot) (fun x y H Q=>y=.aU/\Q (.bl (!decide (x=.aU))) H):=by
 intro pins s σ H x y v u Q I rx ry h
 obtain ⟨rfl,q⟩:=h
 cases ry
 refine isnot_none_gen (aJ I q ?_)
 cases x <;> first
   | (cases rx; rfl)
   | (obtain ⟨t,rfl⟩:=rx; rfl)

theorem mS (b:Expr){op:CmpOp}(h:op≠.In:=by decide)(h2:op≠.NotIn:=by decide):behindInMarks op b=false:=by
 have e1:(op == CmpOp.In)=false:=by cases op <;> first | rfl | exact absurd rfl h
 have e2:(op == CmpOp.NotIn)=false:=by cases op <;> first | rfl | exact absurd rfl h2
 cases b <;> simp [behindInMarks,e1,e2]
/-- a mE as a value; hm: mS b,or (for in,not in) by with_unfolding_all rfl -/
theorem vK {op:CmpOp}{r:R2}(ho:dS X (compareOp op) r)(ha:PE X a ta)(hb:PE X b tb)(hm:behindInMarks op b=false):PE X (.Compare a [op] [b] pos) (xh r ta tb):=by
 intro pins s σ H Q I h
 exact wpAny_Compare1 (xw ha hb I h fun v u s2 x y H2 I2 rx ry q=>ho pins s2 σ H2 x y v u Q I2 rx ry q) hm
/-- a reading of a value as a test -/
def xi (t:TE):TT:=fun σ H Q=>t σ H fun x H'=>∃k,x=.bl k/\Q k H'
theorem vY {op:CmpOp}{r:R2}(ho:dS X (compareOp op) r)(ha:PE X a ta)(hb:PE X b tb)(hm:behindInMarks op b=false):PT X (.Compare a [op] [b] pos) (xi (xh r ta tb)):=by
 intro pins s σ H Q I h
 refine wpAny_isTrue_Compare1 (a7 (ha pins s σ H _ I h) fun v s1 ⟨x,H1,I1,r1,q1⟩=>a7 (hb pins s1 σ H1 _ I1 q1) fun u s2 ⟨y,H2,I2,r2,q2⟩=>
   a7 (ho pins s2 σ H2 x y v u _ I2 r1 r2 q2) fun c s3 ⟨z,H3,I3,r3,k,e,q3⟩=>?_) hm
 subst e
 cases r3
 exact wpAny_truthy_bool ⟨H3,I3,q3⟩
/-- a D7 b D8 c -/
def t7 (r r':R2)(ta tb tc:TE):TE:=fun σ H Q=>ta σ H fun x H1=>tb σ H1 fun y H2=>r x y H2 fun z H3=>∃k,z=.bl k /\
 (if k=true then tc σ H3 fun w' H4=>r' y w' H4 Q else Q (.bl false) H3)
theorem sQ {op op':CmpOp}{r r':R2}(ho:dS X (compareOp op) r)(ho':dS X (compareOp op') r')(ha:PE X a ta)(hb:PE X b tb)(hc:PE X c tc)
   (hm:lastMarks [op,op'] [b,c]=false:=by with_unfolding_all rfl):PE X (.Compare a [op,op'] [b,c] pos) (t7 r r' ta tb tc):=by
 intro pins s σ H Q I h
 refine Compare_chain (a7 (ha pins s σ H _ I h) fun v s1 ⟨x,H1,I1,r1,q1⟩=>chain_link (a7 (hb pins s1 σ H1 _ I1 q1) fun u s2 ⟨y,H2,I2,r2,q2⟩=>
   a7 (ho pins s2 σ H2 x y v u _ I2 r1 r2 q2) fun d s3 ⟨z,H3,I3,r3,k,e,q3⟩=>?_)) hm
 subst e
 cases r3
 refine wpAny_truthy_bool ?_
 cases k with
 | false=>exact ite_ff ⟨.bl false,H3,I3,rfl,q3⟩
 | true=>exact ite_tt (chain_last (a7 (hc pins s3 σ H3 _ I3 q3) fun w' s4 ⟨z',H4,I4,r4,q4⟩=>ho' pins s4 σ H4 y z' u w' Q I4 r2 r4 q4))
/-! ### truth -/
theorem kf:(sizeLine:Nat) < 2 ^ 63:=by rw [sizeLine_eq]; decide
/-! ### strs and bytes -/
/-! ### scalar builtins,by bZ -/
theorem vals1 {x:V}{us:List Value}(r:Vals [x] us):∃u,us=[u]/\RelV x u:=by
 cases r with
 | cons r1 r2=>cases r2; exact ⟨_,rfl,r1⟩
theorem vals2 {x y:V}{us:List Value}(r:Vals [x,y] us):∃u w',us=[u,w']/\RelV x u/\RelV y w':=by
 cases r with
 | cons r1 r2=>
   cases r2 with
   | cons r3 r4=>cases r4; exact ⟨_,_,rfl,r1,r3⟩
theorem pf (hc:X.calm=true):bZ X (.builtin "min") (fun xs H Q=>∃i j,xs=[.int i,.int j]/\Q (.int (if j < i then j else i)) H):=by
 intro pins s σ H xs us Q I r h
 obtain ⟨i,j,rfl,q⟩:=h
 obtain ⟨u,w',rfl,⟨t,rfl⟩,⟨t',rfl⟩⟩:=vals2 r
 refine min_two_ints (I.ok.hd hc) fun h' tk k=>⟨_,H,I.kept k,?_,q⟩
 by_cases hj:j < i
 · rw [if_pos hj,if_pos hj]; exact ⟨_,rfl⟩
 · rw [if_neg hj,if_neg hj]; exact ⟨_,rfl⟩
theorem oZ:bZ X (.type "int") (fun xs H Q=>(∃i,xs=[.int i]/\Q (.int i) H)\/∃k,xs=[.bl k]/\Q (.int (if k then 1 else 0)) H):=by
 intro pins s σ H xs us Q I r h
 rcases h with ⟨i,rfl,q⟩ | ⟨k,rfl,q⟩
 · obtain ⟨u,rfl,t,rfl⟩:=vals1 r
   exact call_int_int ⟨.int i,H,I,⟨_,rfl⟩,q⟩
 · obtain ⟨u,rfl,r1⟩:=vals1 r
   cases r1
   exact call_int_bool ⟨.int (if k then 1 else 0),H,I.tok _,⟨_,rfl⟩,q⟩
end
end L2

namespace L2
open PySem PySem.Spec PyProof.Rows

/-! ### an instance,its attributes a map -/
structure xo (h:Heap)(x dx C:Addr)(mA:Str->Option Value):Prop where
 obj:h.get? x=some (GS C dx)
 ns:h.Ns1 dx mA
 ne:dx≠x

theorem qd {h:Heap}{dx:Addr}{mA:Str->Option Value}(n:h.Ns1 dx mA):∃od,h.get? dx=some od/\∀name,G0 name od=some (mA name):=by
 obtain ⟨o,es,ep,ho,hd,hk,_,hm⟩:=n
 refine ⟨o,ho,fun name=>?_⟩
 have e:=hm name
 unfold nsFind findBy at e
 rw [← Array.find?_toList] at e
 unfold G0
 rw [hd]
 dsimp only
 split
 · rename_i y q
   rw [q] at e
   exact congrArg some e
 · rename_i q
   rw [q] at e
   have a:es.toList.any (·.refKey)=false:=by
     rw [List.any_eq_false]
     intro y hy
     obtain ⟨z,t,hkey⟩:=hk y (Array.mem_toList_iff.mp hy)
     simp [DictEntry.refKey,hkey]
   have a':¬ es.toList.any (·.refKey)=true:=by rw [a]; exact Ej
   rw [if_neg a']
   exact congrArg some e

theorem xo.look {h:Heap}{x dx C:Addr}{mA:Str->Option Value}(I:xo h x dx C mA):∃od,PySem.W.InstAt h x (GS C dx) C (some od)/\∀name,G0 name od=some (mA name):=
 let ⟨od,ho,hl⟩:=qd I.ns
 ⟨od,⟨I.obj,rfl,rfl,ho⟩,hl⟩


/-! ### the attributes as a list of pairs -/
theorem ff.some_of {v:V}{o:Option Value}(r:ff (some v) o):∃u,o=some u/\RelV v u:=by
 cases o with
 | none=>exact (show False from r).elim
 | some u=>exact ⟨u,rfl,r⟩
section
variable {P:Program}{w:World}{H H':Hp}{h h':Heap}{a C dx:Addr}{fs DJ:List (Str×V)}
theorem vc (hok:ei P w H h)(e:H a=some (.ins C dx fs)):∃mA,xo h a dx C mA/\(∀f,ff (fs.lookup f) (mA f))/\PySem.Within mA (fs.map (·.1))/\fs.length<=1000/\H dx=some (.own a):=by
 obtain ⟨d,z,ne,ob,mA,n,r,q⟩:=(show aQ P w H h a (.ins C dx fs) from hok a _ e)
 exact ⟨mA,⟨ob,n,ne⟩,r,q,z,d⟩
end

/-! ### what of the text a class must have -/
structure Cg (K:D9)(C:Addr):Prop where
 pg:PySem.W.plainGet K C Str.empty=true
 hd:PySem.W.hasDictIn K C=true
 po:PySem.W.plainOver K C=true
 sa:PySem.W.findIn K (.ref C) "__setattr__"=some (some (.builtin "object.__setattr__"))
theorem Cg.get {K:D9}{C:Addr}(c:Cg K C)(f:Str):PySem.W.plainGet K C f=true:=c.pg

/-! ### readings and rules -/

/-! ### isinstance -/
section
variable {X:Cx}{pins:List (Addr×Obj)}{σ:St}{H:Hp}{s:Shared}{A:Around}{E:Value->Shared->Prop}{Q:Value->Shared->Prop}{c:Value}{b:Bool}
/-- the type of a value,as the xF Ai take it; for an instance its class -/
inductive TyOf (K:D9) (H:Hp):V->Value->Prop where
 | aU:TyOf K H .aU (.type "NoneType")
 | bl (x:Bool):TyOf K H (.bl x) (.type "bool")
 | int (i:Int):TyOf K H (.int i) (.type "int")
 | str (x:Str):TyOf K H (.str x) (.type "str")
 | flt (x:UInt64):TyOf K H (.flt x) (.type "float")
 | lst {a:Addr} {xs:List V} (e:H a=some (.lst xs)):TyOf K H (.ref a) (.type "list")
 | frz {a:Addr} {o:Obj} {xs:List V} (e:H a=some (.frz o (.lst xs))):TyOf K H (.ref a) (.type "list")
 | tup {a:Addr} {xs:List V} (e:H a=some (.tup xs)):TyOf K H (.ref a) (.type "tuple")
 | dK {a:Addr} {kvs:List (Key×V)} (e:H a=some (.dK kvs)):TyOf K H (.ref a) (.type "dict")
 | dT {a:Addr} {kvs:List (List Key×V)} (e:H a=some (.dT kvs)):TyOf K H (.ref a) (.type "dict")
 | ins {a C dx:Addr} {fs:List (Str×V)} (e:H a=some (.ins C dx fs)) (cl:Cg K C) (ha:PySem.W.findIn K (.ref C) "__class__"=some (some (.builtin "object.__class__")))
     (hn:PySem.W.specialIn K (.builtin "object.__class__") "__get__"=some (some (.builtin "getset_descriptor.__get__"))) (htk:PySem.W.takesIn K (.builtin "object.__class__")=some true)
     (hm:PySem.W.mroIn K C (.type "object")=some true):TyOf K H (.ref a) (.ref C)
/-- isinstance(x,c) for one class c,a built-in or an own one: Aw answer -/
theorem p7 {x:V}{u t:Value}(I:Inv X pins σ H s)(rx:RelV x u)(ty:TyOf X.K H x t)(e:FZ X.K t c=some b)(h:∀tk,Q (.bool b) { s with toks:=tk }) :
   wpAny (model X.prog X.w) A (call (.builtin "isinstance") [u,c]) Q E s:=by
 cases ty with
 | aU=>cases (show u=Fm from rx); exact EY PySem.W.kitx_none I.kIn EG e (fun z=>nomatch z) h
 | bl y=>cases (show u=FI y from rx); exact EY PySem.W.kitx_bool I.kIn EG e (fun z=>nomatch z) h
 | int i=>obtain ⟨t,q⟩:=(show ∃t,u=GG i t from rx); cases q; exact EY PySem.W.kitx_int I.kIn EG e (fun z=>nomatch z) h
 | str y=>obtain ⟨t,q⟩:=(show ∃t,u=GZ y t from rx); cases q; exact EY PySem.W.kitx_str I.kIn EG e (fun z=>nomatch z) h
 | flt y=>obtain ⟨t,q⟩:=(show ∃t,u=Value.float y t from rx); cases q; exact EY PySem.W.kitx_float I.kIn EG e (fun z=>nomatch z) h
 | @lst a xs ea=>
   cases (show u=Ep a from rx)
   obtain ⟨_,_,n,_,h1⟩:=(show aQ X.prog X.w H s.heap a (.lst xs) from I.hok a _ ea)
   exact EY GI I.kIn ⟨_,h1,rfl⟩ e (fun z=>nomatch z) h
 | @frz a ob xs ea=>
   cases (show u=Ep a from rx)
   obtain ⟨_,_,_,n,_,h1⟩:=(show aQ X.prog X.w H s.heap a (.frz ob (.lst xs)) from I.hok a _ ea)
   exact EY GI I.kIn ⟨_,h1,rfl⟩ e (fun z=>nomatch z) h
 | @tup a xs ea=>
   cases (show u=Ep a from rx)
   obtain ⟨_,_,_,p⟩:=(show aQ X.prog X.w H s.heap a (.tup xs) from I.hok a _ ea)
   obtain ⟨o,h1,h2,_⟩:=p
   exact EY HR I.kIn ⟨o,h1,h2⟩ e (fun z=>nomatch z) h
 | @dK a kvs ea=>
   cases (show u=Ep a from rx)
   obtain ⟨_,_,vs,_,p⟩:=(show aQ X.prog X.w H s.heap a (.dK kvs) from I.hok a _ ea)
   obtain ⟨o,es,ep,h1,h2,_⟩:=p
   exact EY HU I.kIn ⟨o,h1,h2.1⟩ e (fun z=>nomatch z) h
 | @dT a kvs ea=>
   cases (show u=Ep a from rx)
   obtain ⟨_,_,xs,_,o,es,ep,h1,h2,_⟩:=(show aQ X.prog X.w H s.heap a (.dT kvs) from I.hok a _ ea)
   exact EY HU I.kIn ⟨o,h1,h2.1⟩ e (fun z=>nomatch z) h
 | @ins a C dx fs ea cl ha hn htk hm=>
   cases (show u=Ep a from rx)
   obtain ⟨mA,O,_⟩:=vc I.hok ea
   obtain ⟨od,J,_⟩:=O.look
   exact EY (PySem.W.kitx_own (cl.get _) cl.hd ha hn htk hm) I.kIn J e (fun z=>nomatch z) h
end
end L2

namespace L2
open PySem PySem.Spec PyProof.Rows

/-! ### room -/
structure cG (k:Nat)(A:Around):Prop where
 hd:A.handled=none
 dp:A.depth + 3 * k + 5 < recursionLimit
 un:A.units + 16 * k + 200 < cLine
theorem cG.mono {j k:Nat}{A:Around}(r:cG k A)(h:j<=k):cG j A:=⟨r.hd,by have:=r.dp; omega,by have:=r.un; omega⟩
theorem cG.deeper {k:Nat}{A:Around}(r:cG (k + 1) A)(env:Env):cG k (A.deeper env):=
 ⟨r.hd,by have:=r.dp; show A.depth + 1 + 3 * k + 5 < _; omega,by have:=r.un; show A.units + 3 + 16 * k + 200 < _; omega⟩
theorem cG.depth {k:Nat}{A:Around}(r:cG k A):A.depth < recursionLimit:=by have:=r.dp; omega
theorem cG.units {k:Nat}{A:Around}(r:cG k A):A.units + 64 < cLine:=by have:=r.un; omega
/-! ### argument lists and displays -/
def zD:TA:=fun _ H Q=>Q [] H
def t9 (ta:TE)(tr:TA):TA:=fun σ H Q=>ta σ H fun x H1=>tr σ H1 fun xs H2=>Q (x :: xs) H2
section
variable {X:Cx}{e:Expr}{es:List Expr}{te:TE}{t:TA}{pos:Pos}
theorem yP:PA X [] zD:=fun _ _ _ _ H Q I h=>GL ⟨[],H,I,.nil,h⟩
theorem vH (ha:PE X e te)(hr:PA X es t)(hs:starEach (e :: es) X.env=(false,eval e X.env) :: starEach es X.env:=by rfl):PA X (e :: es) (t9 te t):=by
 intro pos pins s σ H Q I h
 rw [hs]
 show wpAny _ _ (spliced ((false,eval e X.env) :: backTo pos (starEach es X.env))) _ _ s
 refine F3 (a7 (ha pins s σ H _ I h) fun u s1 ⟨x,H1,I1,r1,q1⟩=>?_)
 exact a7 (hr pos pins s1 σ H1 _ I1 q1) fun us s2 ⟨xs,H2,I2,r2,q2⟩=>⟨x :: xs,H2,I2,.cons r1 r2,q2⟩

/-- a tuple,a list of written items -/
def zE (t:TA):TE:=fun σ H Q=>t σ H fun xs H1=>xs.length<=sizeLine/\∀p,H1 p=none->Q (.ref p) (upd H1 p (.tup xs))
def zC (t:TA):TE:=fun σ H Q=>t σ H fun xs H1=>xs.length<=sizeLine/\∀p,H1 p=none->Q (.ref p) (upd H1 p (.lst xs))
theorem yY {x1}(h:PA X es t):PE X (.Tuple es x1 pos) (zE t):=by
 intro pins s σ H Q I hq
 refine wpAny_Tuple_spliced (a7 (h pos pins s σ H _ I hq) fun us s1 ⟨xs,H1,I1,r,z,q⟩=>⟨by rw [← r.length]; exact z,?_⟩)
 have hf:H1 s1.heap.objs.size=none:=I1.hok.fresh (Ee _)
 refine ⟨.ref s1.heap.objs.size,upd H1 s1.heap.objs.size (.tup xs),I1.laid (t':=s1.toks) (fun b u e=>Ec _ e) (Ee _) ?_,rfl,q _ hf⟩
 exact ⟨z,us,r,⟨_,El _ rfl,rfl,_,rfl⟩⟩
theorem yT (h:PA X es t):PE X (.List es pos) (zC t):=by
 intro pins s σ H Q I hq
 refine wpAny_List_spliced (a7 (h pos pins s σ H _ I hq) fun us s1 ⟨xs,H1,I1,r,z,q⟩=>⟨by rw [← r.length]; exact z,?_⟩)
 have hf:H1 s1.heap.objs.size=none:=I1.hok.fresh (Ee _)
 refine ⟨.ref s1.heap.objs.size,upd H1 s1.heap.objs.size (.lst xs),I1.laid (t':=s1.toks) (fun b u e=>Ec _ e) (Ee _) ?_,rfl,q _ hf⟩
 exact ⟨z,us,0,r,El _ rfl⟩
end

/-! ### what a def promises -/
/-- a def's promise: the bound arguments in the lM order,the heap,the wanted end,the wanted exception -/
abbrev Sp:=List V->Hp->VK->XK->Prop
/-- how an exception lies behind a call (file 08 gives it): the gX frames,abstract heap and state ahead of the call,the gm,the exception,the state -/
abbrev CXT:=List Env->Hp->Shared->XK->Value->Shared->Prop

/-- the state at a call -/
structure ur (P:Program)(w:World)(K:D9)(mg:Str->Option Value)(base:Heap)(A:Around)(outer:List Env)(s:Shared)(H:Hp):Prop where
 frames:A.frames=some outer
 mod:Mod K mg base
 bs:∀b o,base.get? b=some o->s.heap.get? b=some o/\H b=none
 bsz:base.objs.size<=s.heap.objs.size
 g8:s.heap.FunFrames base outer
 frf:∀b∈rp outer,H b=none
 hok:ei P w H s.heap
 bare:AllBare s.gens
/-- a Cs end -/
def CE (outer:List Env)(P:Program)(w:World)(H:Hp)(s:Shared)(Q:VK)(u:Value)(s':Shared):Prop:=
 ∃v H',s'.os=s.os/\AllBare s'.gens/\Un (rp outer) [] H H' s.heap s'.heap/\ei P w H' s'.heap/\RelV v u/\Q v H'
def CR (CX:CXT)(outer:List Env)(P:Program)(w:World)(H:Hp)(s:Shared)(Q:VK)(E:XK)(r:Result)(s':Shared):Prop:=
 match r with
 | .ok (.ret u)=>CE outer P w H s Q u s'
 | .ok _=>False
 | .error e=>CX outer H s E e s'
structure aI (P:Program)(w:World)(K:D9)(mg:Str->Option Value)(base:Heap)(CX:CXT)(k:Nat)(f:Addr)(fd:FuncData)(ps:List Str)(sp:Sp):Prop where
 len:∀vs H Q E,sp vs H Q E->vs.length=ps.length
 run:∀(A:Around) (outer:List Env) (s:Shared) (H:Hp) (args:Args) (us:List Value) (vs:List V) (Q:VK) (E:XK),cG k A->ur P w K mg base A outer s H->BindsTo s fd args (ps.zip us)->Vals vs us->sp vs H Q E ->
   codeAny (model P w) A (.call (.ref f) args) (CR CX outer P w H s Q E) s
theorem aI.mono {P:Program}{w:World}{K:D9}{mg:Str->Option Value}{base:Heap}{CX:CXT}{j k:Nat}{f:Addr}{fd:FuncData}{ps:List Str}{sp:Sp}(F:aI P w K mg base CX j f fd ps sp)(h:j<=k) :
   aI P w K mg base CX k f fd ps sp:=⟨F.len,fun A outer s H args us vs Q E hr=>F.run A outer s H args us vs Q E (hr.mono h)⟩
section
variable {X:Cx}{pins:List (Addr×Obj)}{σ:St}{H:Hp}{s s':Shared}
/-- from a body: what a callee wants -/
theorem Inv.Cu (I:Inv X pins σ H s):ur X.prog X.w X.K X.mg X.base X.A X.stack s H:=
 ⟨I.ok.frames,I.ok.mod,I.bs,EX I.ok.bsz I.sz,I.stack,I.stkFree,I.hok,I.bare⟩
/-- behind a call -/
theorem Inv.after {Q:VK}{u:Value}(I:Inv X pins σ H s)(h:CE X.stack X.prog X.w H s Q u s'):EP X pins σ Q u s':=by
 obtain ⟨v,H',os,bare,un,hok,r,q⟩:=h
 obtain ⟨hh,g,d,t,DO⟩:=s'
 obtain rfl:DO=s.os:=os
 exact ⟨v,H',I.call (h':=hh) (g':=g) (d':=d) (t':=t) (ch:=[]) un hok bare (fun b z=>absurd z (by simp)),r,q⟩
end

/-! ### calls -/
/-- f(..): the written arguments,then the defaults dvs; E: what is wanted of an exception -/
def t6 (sp:Sp)(dvs:List V)(E:XK)(t:TA):TE:=fun σ H Q=>t σ H fun vs H1=>sp (vs++dvs) H1 Q E
/-- how the parameters are bound: us the positional arguments,kw the zS values by name,ds the defaults that fill up -/
def Binds (K:D9)(fd:FuncData)(ps:List Str)(ds:List Value):Prop:=
 ∀(s:Shared) (us:List Value),K.In s.heap->(us++ds).length=ps.length->BindsTo s fd ⟨us,[]⟩ (ps.zip (us++ds))
/-- nV parameter is given -/
theorem Binds.all {K:D9}{fd:FuncData}{ps:List Str}(h:∀us:List Value,us.length=ps.length->bindArgs fd ⟨us,[]⟩ = pure (ps.zip us)):Binds K fd ps []:=fun s us _ hl=>by
 rw [E7] at hl ⊢
 exact .of_eq (h us hl)

/-- an exception of a callee B9 what this body wants of exceptions -/
def Passes (CX:CXT)(X:Cx)(E:XK):Prop:=∀(pins:List (Addr×Obj)) (σ:St) (H:Hp) (s:Shared) (e:Value) (s':Shared),Inv X pins σ H s->CX X.stack H s E e s'->X.xe e s'

section
variable {X:Cx}{CX:CXT}{k:Nat}{f C:Addr}{fd:FuncData}{ps:List Str}{sp:Sp}{dvs:List V}{ds:List Value}{E:XK}{x m:Str}{p pos apos:Pos}{e o:Expr}{es:List Expr}{ta:TE}{t:TA}

/-- the callee runs -/
theorem zk {pins:List (Addr×Obj)}{σ:St}{H:Hp}{s:Shared}{Q:VK}{us:List Value}{vs:List V}(F:aI X.prog X.w X.K X.mg X.base CX k f fd ps sp)(hr:cG k X.A)(hb:Binds X.K fd ps ds)(hd:Vals dvs ds)(hx:Passes CX X E)
   (I:Inv X pins σ H s) (r:Vals vs us) (h:sp (vs++dvs) H Q E):wpAny (model X.prog X.w) X.A (call (.ref f) us) (EP X pins σ Q) X.xe s:=by
 have r2:Vals (vs++dvs) (us++ds):=r.append hd
 have hl:(us++ds).length=ps.length:=by rw [← r2.length]; exact F.len _ _ _ _ h
 refine wpAny_call (codeAny_mono (F.run X.A X.stack s H ⟨us,[]⟩ (us++ds) (vs++dvs) Q E hr I.Cu (hb s us I.kIn hl) r2 h) fun r s' hq=>?_)
 cases r with
 | error e=>exact hx pins σ H s e s' I hq
 | ok fl=>
   cases fl with
   | ret u=>exact I.after hq
   | next=>exact FK hq
   | brk=>exact FK hq
   | cont=>exact FK hq

theorem vJ (F:aI X.prog X.w X.K X.mg X.base CX k f fd ps sp)(hr:cG k X.A)(hg:Gl X x)(hm:X.mg x=some (.ref f))(hk:F1 X.K (.ref f)=true)(hb:Binds X.K fd ps ds)(hd:Vals dvs ds)(hx:Passes CX X E)
   (ha:PA X (e :: es) t) (hdb:(x == ("__debug__":Str))=false:=by decide) (he:starEach (e :: es) X.env=(false,eval e X.env) :: starEach es X.env:=by rfl) (hpl:(backTo pos (starEach es X.env)).any (·.1)=false:=by rfl) :
   PE X (.Call (.Name x p) (e :: es) [] pos) (t6 sp dvs E t):=by
 intro pins s σ H Q I h
 refine wpAny_Call_Name_kw (oj I hg hm ?_ hdb)
 refine PySem.W.callWith_K (h₀:=X.base) I.ok.mod.kin hk (a7 (ha pos pins s σ H _ I h) fun us s1 ⟨vs,H1,I1,r,q⟩=>⟨I1.kIn,?_⟩) he hpl
 exact zk F hr hb hd hx I1 r q
end

/-! ### keywords -/

/-! ### a def's body keeps its promise -/
/-- names: the parameters first -/
structure az (N P:List Str)(sc:Scope):Prop where
 kind:sc.kind=.function
 co:sc.isCoroutine=false
 gen:sc.isGenerator=false
 nd:N.Nodup
 pre:N.take P.length=P
 par:∀x∈P,sc.names.lookup x=some .local\/sc.names.lookup x=some .cell
 nofree:∀y∈sc.names,y.2≠.free

theorem ji {kindOf:Str->Option NameKind}{x:Str}:∀{binds:List (Str×Value)} {m:Str->Option Value},(∀v,(x,v) ∉ binds)->bindL kindOf binds m x=m x
 | [],_,_=>rfl
 | (n,v) :: r,m,h=>by
   unfold bindL
   rw [ji fun w hw=>h w (Fn _ hw)]
   split
   · have:x≠n:=by rintro rfl; exact h v Fi
     simp [this]
   · rfl
theorem jg {kindOf:Str->Option NameKind}{x:Str}:∀{binds:List (Str×Value)} {m:Str->Option Value},(∀v,(x,v) ∉ binds)->bindC kindOf binds m x=m x
 | [],_,_=>rfl
 | (n,v) :: r,m,h=>by
   unfold bindC
   rw [jg fun w hw=>h w (Fn _ hw)]
   split
   · rfl
   · have:x≠n:=by rintro rfl; exact h v Fi
     simp [this]
theorem jh {kindOf:Str->Option NameKind}{x:Str}{v:Value}:∀{P:List Str} {vs:List Value} {i:Nat} {m:Str->Option Value},P.Nodup->P[i]? = some x->vs[i]? = some v->kindOf x=some .local ->
   bindL kindOf (P.zip vs) m x=some v
 | [],_,_,_,_,h,_,_=>by simp at h
 | _ :: _,[],_,_,_,_,h,_=>by simp at h
 | p :: P,w :: vs,0,m,nd,h1,h2,hk=>by
   simp at h1 h2; subst h1; subst h2
   show bindL kindOf ((p,w) :: P.zip vs) m p=_
   unfold bindL
   rw [ji fun v hv=>(List.nodup_cons.mp nd).1 (FY hv).1,if_pos hk]
   simp
 | p :: P,w :: vs,i + 1,m,nd,h1,h2,hk=>by
   show bindL kindOf ((p,w) :: P.zip vs) m x=_
   unfold bindL
   exact jh (i:=i) (List.nodup_cons.mp nd).2 (by simpa using h1) (by simpa using h2) hk
theorem jf {kindOf:Str->Option NameKind}{x:Str}{v:Value}:∀{P:List Str} {vs:List Value} {i:Nat} {m:Str->Option Value},P.Nodup->P[i]? = some x->vs[i]? = some v->kindOf x≠some .local ->
   bindC kindOf (P.zip vs) m x=some v
 | [],_,_,_,_,h,_,_=>by simp at h
 | _ :: _,[],_,_,_,_,h,_=>by simp at h
 | p :: P,w :: vs,0,m,nd,h1,h2,hk=>by
   simp at h1 h2; subst h1; subst h2
   show bindC kindOf ((p,w) :: P.zip vs) m p=_
   unfold bindC
   rw [jg fun v hv=>(List.nodup_cons.mp nd).1 (FY hv).1,if_neg hk]
   simp
 | p :: P,w :: vs,i + 1,m,nd,h1,h2,hk=>by
   show bindC kindOf ((p,w) :: P.zip vs) m x=_
   unfold bindC
   exact jf (i:=i) (List.nodup_cons.mp nd).2 (by simpa using h1) (by simpa using h2) hk

/-- the CH values at the entry -/
def start (N:List Str)(vs:List V):St:=vs.map some++Gx (N.length - vs.length) none

/-- the context of a def's body,at its entry; an exception leaves the frame,then lies as CX says -/
def pq (CX:CXT)(P:Program)(w:World)(K:D9)(mg:Str->Option Value)(base:Heap)(N:List Str)(qual:Str)(scope:Scope)(f:Addr)(cd:Value)(A:Around)(outer:List Env)(s:Shared)(H:Hp)(E:XK):Cx where
 prog:=P
 w:=w
 K:=K
 mg:=mg
 base:=base
 A:=A.deeper (envOfC qual scope s.heap.objs.size f cd)
 N:=N
 s₀:=s
 H₀:=H
 env:=envOfC qual scope s.heap.objs.size f cd
 outer:=outer
 stack:=envOfC qual scope s.heap.objs.size f cd :: outer
 ex:=[]
 calm:=true
 fn:=fun _=>true
 pn:=[]
 xe:=fun e s'=>wpAny (model P w) (A.deeper (envOfC qual scope s.heap.objs.size f cd)) (leaving (envOfC qual scope s.heap.objs.size f cd) e) (fun _ CM=>CX outer H s E e CM) (fun e' CM=>CX outer H s E e' CM) s'

theorem kS {sc:Scope}{n:Nat}{x:Str}(h:sc.names.lookup x=some .cell):∃c,(cellsFrom n sc.names []).lookup x=some c:=by
 have q:=Ho sc.names n [] (.inl h)
 exact Option.isSome_iff_exists.mp q

theorem pY {CX:CXT}{P:Program}{w:World}{K:D9}{mg:Str->Option Value}{base:Heap}{N ps:List Str}{qual:Str}{scope:Scope}{f:Addr}{cd:Value}{A:Around}{outer:List Env}{s s1:Shared}{H:Hp}{E:XK}{us:List Value}{vs:List V}
   (S:az N ps scope) (hd:A.handled=none) (e0:ur P w K mg base A outer s H) (hl:vs.length=ps.length) (r:Vals vs us)
   (x:InCallC s s.heap.objs.size (bindL (envOfC qual scope s.heap.objs.size f cd).kindOf (ps.zip us) fun _=>none) (cellsFrom (s.heap.objs.size + 1) scope.names []) (bindC (envOfC qual scope s.heap.objs.size f cd).kindOf (ps.zip us) fun _=>none) s1) :
   Inv (pq CX P w K mg base N qual scope f cd A outer s H E) [] (start N vs) H s1:=by
 have hpl:ps.length<=N.length:=by have:=congrArg List.length S.pre; rw [Eo] at this; omega
 obtain ⟨h1,tk,rfl,hk⟩:=x.done
 have noA:∀b:Addr,b ∉ (pq CX P w K mg base N qual scope f cd A outer s H E).ex:=fun b z=>absurd (show b∈([]:List Addr) from z) (by simp)
 refine ⟨⟨e0.mod,S.kind,rfl,rfl,Ee _,fun y z c h1 h2=>?_,fun y hy=>?_,fun y c _ h=>?_,fun _=>hd,Around.frames_deeper e0.frames,.inr ⟨rfl,rfl⟩,fun b z=>absurd z (noA b),e0.bs,e0.bsz,fun b _ _=>noA b,fun b z=>absurd z (noA b),e0.g8,e0.frf⟩,
   rfl,e0.bare,Un.kept hk,⟨_,x.toInCall.ns,fun i y v h1 h2 h3=>?_⟩,fun y c h=>⟨_,x.cell y c h⟩,e0.hok.fresh (Ee _),fun y c h=>?_,fun p hp=>absurd (show p∈([]:List (Addr×Obj)) from hp) (by simp),e0.hok.kept hk,?_⟩
 · exact name_of_addr x.apart (ER h1) (ER h2)
 · have hy:scope.names.lookup y=some .cell\/scope.names.lookup y=some .free:=hy
   rcases hy with hy | hy
   · exact kS hy
   · exact absurd rfl (S.nofree _ (ER hy))
 · exact E9 (x.above y c (ER h))
 · have hi:i < vs.length:=by
     unfold start at h2
     by_cases hi:i < vs.length
     · exact hi
     · rw [Hj (by simpa using hi)] at h2
       rw [List.getElem?_replicate] at h2
       split at h2 <;> cases h2
   have ha:vs[i]? = some v:=by
     unfold start at h2
     rw [Hu (by simpa using hi),Em] at h2
     cases e:vs[i]? with
     | none=>rw [e] at h2; cases h2
     | some a=>rw [e] at h2; cases h2; rfl
   obtain ⟨u,hu,rv⟩:=r.get ha
   have hp:ps[i]? = some y:=by
     rw [← S.pre,List.getElem?_take_of_lt (by omega)]; exact h1
   have Dl:ps.Nodup:=by rw [← S.pre]; exact S.nd.sublist (GQ _ _)
   refine ⟨u,rv,?_⟩
   rcases S.par y (Ef hp) with k | k
   · exact .inl ⟨k,jh Dl hp hu k⟩
   · obtain ⟨c,e⟩:=kS (n:=s.heap.objs.size + 1) k
     refine .inr ⟨.inl k,c,e,?_⟩
     have q:=x.cell y c e
     rw [jf Dl hp hu (by show scope.names.lookup y≠_; rw [k]; decide)] at q
     exact q
 · exact e0.hok.fresh (E9 (x.above y c (ER h)))
 · unfold start
   show _=N.length
   rw [Eh,Ea,HS]
   omega

/-- THE RULE: a def (or a method) of the text,by its body. DW Cr reading t is Ct for each entry; it is run at the lM values -/
theorem Am {CX:CXT}{P:Program}{w:World}{K:D9}{mg:Str->Option Value}{base:Heap}{k:Nat}{f:Addr}{name qual:Str}{params:Arguments}{body:List Stmt}{scope:Scope}{dV kV doc pm cdv ct oc:Value}{an od:Option Addr}
   {osl:Array (Option Value)} {N ps:List Str} {sp:Sp} (lk:K.lookup f=some ⟨oc,od,.func (Fd name qual params body scope dV kV doc pm an cdv ct),osl⟩) (hcd:Gn K cdv qual=true) (S:az N ps scope)
   (len:∀vs H Q E,sp vs H Q E->vs.length=ps.length)
   (hbody:∀(A:Around) (outer:List Env) (s:Shared) (H:Hp) (vs:List V) (Q:VK) (E:XK),cG k (A.deeper (envOfC qual scope s.heap.objs.size f cdv))->sp vs H Q E ->
     ∃t,mv (pq CX P w K mg base N qual scope f cdv A outer s H E) body t/\t { nx:=fun _ H'=>Q .aU H',rt:=Q } (start N vs) H) :
   aI P w K mg base CX (k + 1) f (Fd name qual params body scope dV kV doc pm an cdv ct) ps sp:=by
 refine ⟨len,fun A outer s H args us vs Q E hr e0 hb r hsp=>?_⟩
 have hl:=len _ _ _ _ hsp
 have KX:K.In s.heap:=e0.mod.kin.keeps fun b o e=>(e0.bs b o e).1
 have lim:s.heap.NoLimit:=e0.mod.nolimit.keeps fun b o e=>(e0.bs b o e).1
 have Ar:∀y∈ps.zip us,scope.names.lookup y.1=some .local\/(scope.names.lookup y.1=some .cell/\((cellsFrom (s.heap.objs.size + 1) scope.names []).lookup y.1).isSome=true):=fun ⟨n,v⟩ hy=>by
   rcases S.par n (FY hy).1 with q | q
   · exact .inl q
   · exact .inr ⟨q,Ho _ _ _ (.inl q)⟩
 refine codeAny_call_function hr.depth (KX _ _ lk) rfl S.co S.gen rfl (PySem.W.codeRec_of KX hcd) (hb _ _ _ _ ?_)
 refine wpAny_newFunctionEnv_cells S.kind Ar fun env he s1 x=>?_
 subst he
 refine ⟨lim.keeps x.toInCall.keep,codeAny_func ?_⟩
 obtain ⟨t,ht,hq⟩:=hbody A outer s H vs Q E (hr.deeper _) hsp
 have I:Inv (pq CX P w K mg base N qual scope f cdv A outer s H E) [] (start N vs) H s1:=pY S hr.hd e0 hl r x
 refine wpAny_mono (ht [] s1 (start N vs) H _ I hq) (fun fl s' hs=>?_) fun e s' hs=>hs
 have fin:∀{σ':St} {H':Hp} {v:V} {u:Value},Inv (pq CX P w K mg base N qual scope f cdv A outer s H E) [] σ' H' s'->RelV v u->Q v H'->CE outer P w H s Q u s':=
   fun {σ' H' v u} J rv q=>⟨v,H',J.os,J.bare,J.base,J.hok,rv,q⟩
 cases fl with
 | ret u=>
   obtain ⟨v,σ',H',J,rv,q⟩:=hs
   exact fin J rv q
 | next=>
   obtain ⟨σ',H',J,q⟩:=hs
   exact fin (v:=V.aU) (u:=Fm) J rfl q
 | brk=>
   obtain ⟨_,_,_,q⟩:=hs
   exact FK q
 | cont=>
   obtain ⟨_,_,_,q⟩:=hs
   exact FK q
end L2

namespace L2
open PySem PySem.Spec PyProof.Rows
section
variable {X:Cx}{x:Str}{p pos:Pos}{e:Expr}{es:List Expr}{t:TA}{id T:String}{r:List V->Hp->VK->Prop}

def zW (r:List V->Hp->VK->Prop)(t:TA):TE:=fun σ H Q=>t σ H fun vs H1=>r vs H1 Q
/-- f(e,..),f a built-in function -/
theorem sP (hc:bZ X (.builtin id) r)(hg:Gl X x)(hm:X.mg x=none)(hv:bootBuiltins x=some (.builtin id))(ha:PA X (e :: es) t)(hn:x≠"__name__":=by decide)(hdb:(x == ("__debug__":Str))=false:=by decide)
   (he:starEach (e :: es) X.env=(false,eval e X.env) :: starEach es X.env:=by rfl) (hpl:(backTo pos (starEach es X.env)).any (·.1)=false:=by rfl):PE X (.Call (.Name x p) (e :: es) [] pos) (zW r t):=by
 intro pins s σ H Q I h
 refine wpAny_Call_Name_kw (fI I hg hm hv ?_ hn hdb)
 exact PyProof.Rows.callWith_builtin1 (a7 (ha pos pins s σ H _ I h) fun us s1 ⟨vs,H1,I1,r1,q1⟩=>hc pins s1 σ H1 vs us Q I1 r1 q1) he hpl
/-- T(e,..),T a built-in type -/
theorem qu (hc:bZ X (.type T) r)(hg:Gl X x)(hm:X.mg x=none)(hv:bootBuiltins x=some (.type T))(ha:PA X (e :: es) t)(hn:x≠"__name__":=by decide)(hdb:(x == ("__debug__":Str))=false:=by decide)
   (he:starEach (e :: es) X.env=(false,eval e X.env) :: starEach es X.env:=by rfl) (hpl:(backTo pos (starEach es X.env)).any (·.1)=false:=by rfl):PE X (.Call (.Name x p) (e :: es) [] pos) (zW r t):=by
 intro pins s σ H Q I h
 refine wpAny_Call_Name_kw (fI I hg hm hv ?_ hn hdb)
 exact Fq (a7 (ha pos pins s σ H _ I h) fun us s1 ⟨vs,H1,I1,r1,q1⟩=>hc pins s1 σ H1 vs us Q I1 r1 q1) he hpl
end
end L2

namespace HT
open PySem PyProof.Rows


section
variable {prog:Program}{w:World}{A:Around}{E:Value->Shared->Prop}{s:Shared}

/-- t + u,t not empty -/
theorem uA {t b:Addr}{vs ws:List Value}{Q:Value->Shared->Prop}(ht:IsTup s.heap t vs.toArray)(hb:IsTup s.heap b ws.toArray)(hv:vs≠[])
   (h1:ws=[]->Q (.ref t) s) (h2:ws≠[]->Q (.ref s.heap.objs.size) { s with heap:=s.heap.push { cls:=.type "tuple",data:=.seq (vs++ws).toArray } })
   (hsz:vs.length + ws.length<=sizeLine):wpAny (model prog w) A (binaryOp .Add (.ref t) (.ref b)) Q E s:=by
 obtain ⟨⟨cls,dd,data,sl⟩,ho,hc,n,hd⟩:=id ht
 obtain ⟨⟨cls2,dd2,data2,sl2⟩,ho2,hc2,n2,hd2⟩:=id hb
 simp only at hc hd hc2 hd2
 subst hc hd hc2 hd2
 have e:vs.toArray++ws.toArray=(vs++ws).toArray:=by simp
 by_cases hw:ws=[]
 · exact concat_meets ⟨_,ho,rfl⟩ ⟨_,ho2,rfl⟩ noFill_tuple_add seq_tuple_add Gd Ga (F5 _ _)
     (tuple_addW1 t b vs.toArray ws.toArray n n2 dd dd2 sl sl2 (by simpa using hv) (by simp [hw])) ⟨ho,ho2,h1 hw⟩
 · refine concat_meets ⟨_,ho,rfl⟩ ⟨_,ho2,rfl⟩ noFill_tuple_add seq_tuple_add Gd Ga (F5 _ _)
     (tuple_addW2 t b vs.toArray ws.toArray n n2 dd dd2 sl sl2 (by simpa using hv) (by simpa using hw) (by rw [Ei,Ei]; exact hsz)) ⟨ho,ho2,?_⟩
   rw [e]
   exact h2 hw

/-! ### t[a:b],not the whole -/
/-- a wd bound as a place among n (d where it is left out) -/
def bf (n d:Nat):Option Int->Nat
 | none=>d
 | some v=>if v < 0 then (v + (n:Int)).toNat else min v.toNat n
theorem lT (n d:Nat):bf n d none=d:=rfl
theorem dP (n d k:Nat):bf n d (some (k:Int))=min k n:=by
 show (if (k:Int) < 0 then ((k:Int) + (n:Int)).toNat else min (k:Int).toNat n)=min k n
 rw [if_neg (by omega),ES]
theorem zm (n d:Nat)(hd:d<=n)(o:Option Int):bf n d o<=n:=by
 cases o with
 | none=>exact hd
 | some v=>
   show (if v < 0 then (v + (n:Int)).toNat else min v.toNat n)<=n
   by_cases hv:v < 0
   · rw [if_pos hv]; omega
   · rw [if_neg hv]; exact Nat.min_le_right _ _
theorem nM (v:Int)(n d:Nat):(if v < 0 then max (v + (n:Int)) 0 else min v (n:Int))=((bf n d (some v):Nat):Int):=by
 show (if v < 0 then max (v + (n:Int)) 0 else min v (n:Int))=(((if v < 0 then (v + (n:Int)).toNat else min v.toNat n):Nat):Int)
 by_cases hv:v < 0
 · simp only [if_pos hv]; omega
 · simp only [if_neg hv]; omega
theorem mw (lo hi:Option Int)(n:Nat):FU lo hi 1 (n:Int)=(((bf n 0 lo:Nat):Int),((bf n n hi:Nat):Int)):=by
 have h1:¬ ((1:Int) < 0):=by omega
 unfold FU
 simp only [h1,if_false]
 refine Prod.ext ?_ ?_
 · cases lo with
   | none=>rfl
   | some v=>exact nM v n 0
 · cases hi with
   | none=>rfl
   | some v=>exact nM v n n
theorem mV (i j:Nat):Fw (i:Int) (j:Int) 1=j - i:=by
 unfold Fw
 have h1:(1:Int) > 0:=by omega
 simp only [h1,if_true,Int.ediv_one]
 split <;> omega
theorem iD {v:Value}{o:Option Int}{Q:Option Int->Shared->Prop}(p:IsPart v o)(h:Q o s):wpAny (model prog w) A (Builtin.Slice.slicePartIndex v) Q E s:=by
 cases p with
 | none=>exact slicePart_none h
 | int i t=>exact slicePart_int h
theorem c4 {sl:Addr}{vl vu:Value}{lo hi:Option Int}{n:Nat}{Q:Int×Int×Nat->Shared->Prop}(hs:s.heap.IsSliceOf sl vl vu .none)(pl:IsPart vl lo)(pu:IsPart vu hi)
   (h:Q (((bf n 0 lo:Nat):Int),1,bf n n hi - bf n 0 lo) s):wpAny (model prog w) A (GC (.ref sl) (pure (n:Int))) Q E s:=by
 obtain ⟨os,hos,hcs,hds⟩:=id hs
 unfold GC Builtin.Slice.sliceFields
 refine wpAny_bind (wpAny_bind (wpAny_field hos hds (x:=vl) rfl (wpAny_bind (wpAny_field hos hds (x:=vu) rfl (wpAny_bind (wpAny_field hos hds (x:=.none) rfl (wpAny_pure ?_)))))))
 refine wpAny_bind (slicePart_none ?_)
 show wpAny _ _ (if ((1:Int) == 0)=true then _ else _) _ _ s
 rw [if_neg (by decide)]
 refine wpAny_bind (iD pl (wpAny_bind (iD pu (wpAny_bind (wpAny_pure ?_)))))
 show wpAny _ _ (match FU lo hi 1 (n:Int) with | (lo,hi)=>pure (lo,(1:Int),Fw lo hi 1)) _ _ s
 rw [mw lo hi n]
 show wpAny _ _ (pure (((bf n 0 lo:Nat):Int),(1:Int),Fw ((bf n 0 lo:Nat):Int) ((bf n n hi:Nat):Int) 1)) _ _ s
 rw [mV]
 exact wpAny_pure h
theorem sW (xs:Array Value)(i k:Nat):((Ew k).filterMap fun (m:Nat)=>xs[((i:Int) + (m:Int) * 1).toNat]?).toArray=((xs.toList.drop i).take k).toArray:=by
 have e:(fun (m:Nat)=>xs[((i:Int) + (m:Int) * 1).toNat]?)=fun m=>xs[i + m]?:=by
   funext m
   have:((i:Int) + (m:Int) * 1).toNat=i + m:=by omega
   rw [this]
 rw [e]
 have:=pick_run xs i k
 rw [List.filterMap_map] at this
 have e2:((fun x=>xs[x]?) ∘ fun x=>i + x)=fun m=>xs[i + m]?:=rfl
 rw [e2] at this
 rw [this]

theorem eN {t sl:Addr}{items:Array Value}{vl vu:Value}{lo hi:Option Int}{Q:Value->Shared->Prop}(ht:IsTup s.heap t items)(hs:s.heap.IsSliceOf sl vl vu .none)(pl:IsPart vl lo)(pu:IsPart vu hi)
   (hw:¬ (bf items.size 0 lo=0/\bf items.size items.size hi=items.size))
   (h:Q (.ref s.heap.objs.size) { s with heap:=s.heap.push { cls:=.type "tuple",data:=.seq ((items.toList.drop (bf items.size 0 lo)).take (bf items.size items.size hi - bf items.size 0 lo)).toArray } })
   (hsz:items.size<=sizeLine):wpAny (model prog w) A (getItem (.ref t) (.ref sl)) Q E s:=by
 have n8:sizeOk (.seq ((items.toList.drop (bf items.size 0 lo)).take (bf items.size items.size hi - bf items.size 0 lo)).toArray):=by
   show ((items.toList.drop (bf items.size 0 lo)).take (bf items.size items.size hi - bf items.size 0 lo)).toArray.size<=sizeLine
   rw [Ei,Eo,Fg,GA]
   omega
 have hj:bf items.size items.size hi<=items.size:=zm _ _ (Ee _) hi
 obtain ⟨os,hos,hcs,hds⟩:=id hs
 have hTs:s.TypeIs (.ref sl) "slice":=⟨os,hos,hcs⟩
 unfold getItem
 try with_reducible refine wpAny_holding ?_
 first | refine wpAny_bind (wpAny_pure ?_) | skip
 refine wpAny_bind (wpAny_sequenceKey ht.typeIs (by decide) ?_)
 refine wpAny_bind (EU (name:=Eb "__getitem__") ht.typeIs Ff
   (wpAny_call_entry Ff ht.typeIs entry_tuple_getitem ?_ (args_tuple_getitem _ _)))
 show wpAny _ _ (GB (.ref t) >>= _) _ _ s
 refine wpAny_bind (tupleItemsOf_ ht ?_)
 refine wpAny_bind (wpAny_typeOf hTs ?_)
 rw [if_pos (by decide)]
 refine wpAny_bind (c4 hs pl pu ?_)
 have hno:¬ ((((bf items.size 0 lo:Nat):Int) == 0 && (1:Int) == 1 && (bf items.size items.size hi - bf items.size 0 lo) == items.size)=true):=by
   intro q
   rw [Fc,Fc] at q
   have q1:((bf items.size 0 lo:Nat):Int)=0:=eq_of_beq q.1.1
   have q2:bf items.size items.size hi - bf items.size 0 lo=items.size:=eq_of_beq q.2
   exact hw ⟨by omega,by omega⟩
 show wpAny _ _ (if (((bf items.size 0 lo:Nat):Int) == 0 && (1:Int) == 1 && (bf items.size items.size hi - bf items.size 0 lo) == items.size)=true then _ else _) _ _ s
 rw [if_neg hno,sW]
 first
   | exact wpAny_bind (m:=FA _) (wpAny_newObj_type (wpAny_pure ⟨_,rfl,wpAny_pure h⟩) n8)
   | exact wpAny_bind (m:=FA _) (wpAny_newObj_type (wpAny_bind (wpAny_pure (wpAny_pure ⟨_,rfl,wpAny_pure h⟩))) n8)
   | exact wpAny_bind (wpAny_bind (m:=FA _) (wpAny_newObj_type (wpAny_pure (wpAny_pure ⟨_,rfl,wpAny_pure h⟩)) n8))
   | exact wpAny_bind (wpAny_bind (m:=FA _) (wpAny_newObj_type (wpAny_pure ⟨_,rfl,wpAny_pure h⟩) n8))
end
end HT

namespace L2
open PySem PySem.Spec PyProof.Rows

/-! ### the parts of a slice -/
abbrev TO:=St->Hp->(Option Int->Hp->Prop)->Prop
/-- a wd part (left out,or an int) -/
def PO (X:Cx)(e:Option Expr)(t:TO):Prop:=
 ∀(pins:List (Addr×Obj)) (s:Shared) (σ:St) (H:Hp) (Q:Option Int->Hp->Prop),Inv X pins σ H s->t σ H Q ->
   wpAny (model X.prog X.w) X.A (evalPart e X.env) (fun u s'=>∃o H',Inv X pins σ H' s'/\IsPart u o/\Q o H') X.xe s
def e8:TO:=fun _ H Q=>Q none H
def me (t:TE):TO:=fun σ H Q=>t σ H fun x H1=>∃i,x=.int i/\Q (some i) H1

section
variable {X:Cx}{e:Expr}{te:TE}{lo hi:Option Expr}{tl th:TO}{pos p2:Pos}

theorem gJ:PO X none e8:=by
 intro pins s σ H Q I h
 rw [evalPart_none]
 exact wpAny_pure ⟨none,H,I,.none,h⟩
theorem gK (h:PE X e te):PO X (some e) (me te):=by
 intro pins s σ H Q I hw
 rw [evalPart_some]
 refine a7 (h pins s σ H _ I hw) fun u s1 ⟨x,H1,I1,r1,q1⟩=>?_
 obtain ⟨i,rfl,q⟩:=q1
 obtain ⟨t,rfl⟩:=r1
 exact ⟨some i,H1,I1,.int i t,q⟩

/-- what a slice of a value is,by values: the slice object stands at sl -/
def uw (X:Cx)(r:V->Option Int->Option Int->Hp->VK->Prop):Prop:=
 ∀(pins:List (Addr×Obj)) (s:Shared) (σ:St) (H:Hp) (x:V) (v vl vu:Value) (lo hi:Option Int) (sl:Addr) (Q:VK),Inv X pins σ H s->RelV x v->s.heap.IsSliceOf sl vl vu .none->IsPart vl lo->IsPart vu hi->r x lo hi H Q ->
   ∃T id,typeLookup (.type T) "__getitem__"=pure (some (.builtin id))/\s.TypeIs v T/\wpAny (model X.prog X.w) X.A (getItem v (.ref sl)) (EP X pins σ Q) X.xe s
theorem uw.or {r r':V->Option Int->Option Int->Hp->VK->Prop}(h:uw X r)(h':uw X r'):uw X (fun x lo hi H Q=>r x lo hi H Q\/r' x lo hi H Q):=by
 intro pins s σ H x v vl vu lo hi sl Q I rx hs pl pu q
 rcases q with q | q
 · exact h pins s σ H x v vl vu lo hi sl Q I rx hs pl pu q
 · exact h' pins s σ H x v vl vu lo hi sl Q I rx hs pl pu q
def BK (r:V->Option Int->Option Int->Hp->VK->Prop)(te:TE)(tl th:TO):TE:=fun σ H Q=>te σ H fun x H1=>tl σ H1 fun l H2=>th σ H2 fun u H3=>r x l u H3 Q
/-- a[lo:hi],any a -/
theorem eU {r:V->Option Int->Option Int->Hp->VK->Prop}(hr:uw X r)(he:PE X e te)(hl:PO X lo tl)(hu:PO X hi th):PE X (.Subscript e (.Slice lo hi none p2) pos) (BK r te tl th):=by
 intro pins s σ H Q I h
 refine Subscript_ (a7 (he pins s σ H _ I h) fun v s1 ⟨x,H1,I1,r1,q1⟩=>?_)
 refine wpAny_Slice (a7 (hl pins s1 σ H1 _ I1 q1) fun vl s2 ⟨l,H2,I2,pl,q2⟩=>a7 (hu pins s2 σ H2 _ I2 q2) fun vu s3 ⟨u,H3,I3,pu,q3⟩=>?_)
 rw [evalPart_none]
 refine wpAny_pure ?_
 have I4:Inv X pins σ H3 { s3 with heap:=s3.heap.push { cls:=.type "slice",data:=.fields #[vl,vu,.none] } }:=I3.kept (t':=s3.toks) fun b ob q=>Ec _ q
 obtain ⟨T,id,hT,ht,hg⟩:=hr pins { s3 with heap:=s3.heap.push { cls:=.type "slice",data:=.fields #[vl,vu,.none] } } σ H3 x v vl vu l u s3.heap.objs.size Q I4 r1 (Heap.IsSliceOf.new ..) pl pu q3
 show wpAny (model X.prog X.w) X.A (subscriptTail e (.Slice lo hi none p2) v (.ref s3.heap.objs.size)) (EP X pins σ Q) X.xe { s3 with heap:=s3.heap.push { cls:=.type "slice",data:=.fields #[vl,vu,.none] } }
 exact tail_any (ops:=[.ref s3.heap.objs.size,v]) ht hT hg (by with_unfolding_all rfl)

/-- the items of xs[lo:hi] -/
def cJ (xs:List V)(lo hi:Option Int):List V:=(xs.drop (HT.bf xs.length 0 lo)).take (HT.bf xs.length xs.length hi - HT.bf xs.length 0 lo)
theorem fQ (xs:List V)(lo hi:Option Int):(cJ xs lo hi).length<=xs.length:=by
 unfold cJ
 rw [Eo,Fg]
 omega
/-- t[lo:hi],not the whole of it (the whole Dx be t itself) -/
def zi (K:D9):V->Option Int->Option Int->Hp->VK->Prop:=fun x lo hi H Q=>∃a xs,x=.ref a/\ar K H a xs /\
 ¬ (HT.bf xs.length 0 lo=0/\HT.bf xs.length xs.length hi=xs.length)/\∀p,H p=none->Q (.ref p) (upd H p (.tup (cJ xs lo hi)))
theorem tR:uw X (zi X.K):=by
 intro pins s σ H x v vl vu lo hi sl Q I rx hs pl pu h
 obtain ⟨a,xs,rfl,hx,hw,q⟩:=h
 cases rx
 obtain ⟨its,r,ht,hz⟩:=I.tuple hx
 have hlen:its.toArray.size=xs.length:=by rw [Ei]; exact r.length.symm
 refine ⟨"tuple",_,PyProof.Rows.slot_tuple_getitem.lookup,ht.typeIs,?_⟩
 refine HT.eN ht hs pl pu (by rw [hlen]; exact hw) ?_ (by rw [hlen]; exact hz)
 rw [hlen]
 refine ⟨.ref s.heap.objs.size,_,I.laid (t':=s.toks) (o:=.tup (cJ xs lo hi)) (fun b ob q=>Ec _ q) (Ee _) ?_,rfl,q _ (I.hok.fresh (Ee _))⟩
 exact ⟨EX (fQ xs lo hi) hz,_,(r.drop (HT.bf xs.length 0 lo)).take (HT.bf xs.length xs.length hi - HT.bf xs.length 0 lo),IsTup.new _ _⟩

/-! ### t < u,t + u -/
/-- t + u,t not empty: u empty gives t itself -/
def tq (K:D9):R2:=fun x y H Q=>∃a b xs ys,x=.ref a/\y=.ref b/\ar K H a xs/\ar K H b ys/\xs≠[]/\xs.length + ys.length<=sizeLine /\
 (ys=[]->Q (.ref a) H)/\(ys≠[]->∀p,H p=none->Q (.ref p) (upd H p (.tup (xs++ys))))
theorem Vals.nil_iff {xs:List V}{us:List Value}(r:Vals xs us):us=[]↔xs=[]:=by
 cases r with
 | nil=>simp
 | cons _ _=>simp
theorem ot:dS X (binaryOp .Add) (tq X.K):=by
 intro pins s σ H x y v u Q I rx ry h
 obtain ⟨a,b,xs,ys,rfl,rfl,ha,hb,hx,hz,q1,q2⟩:=h
 cases rx
 cases ry
 obtain ⟨its,r1,p1,_⟩:=I.tuple ha
 obtain ⟨its2,r2,p2,_⟩:=I.tuple hb
 refine HT.uA p1 p2 (fun z=>hx (r1.nil_iff.mp z)) (fun z=>⟨.ref a,H,I,rfl,q1 (r2.nil_iff.mp z)⟩) (fun z=>?_) (by rw [← r1.length,← r2.length]; exact hz)
 refine ⟨.ref s.heap.objs.size,_,I.laid (t':=s.toks) (o:=.tup (xs++ys)) (fun b ob q=>Ec _ q) (Ee _) ?_,rfl,q2 (fun w=>z (r2.nil_iff.mpr w)) _ (I.hok.fresh (Ee _))⟩
 exact ⟨by rw [Eh]; exact hz,_,r1.append r2,IsTup.new _ _⟩
end
end L2

namespace L2
open PySem PySem.Spec PyProof.Rows

/-! ### places -/
/-- the place that an index of any sign means -/
def ve (n:Nat)(i:Int):Option Nat:=if 0<=i then (if i < n then some i.toNat else none) else if -(n:Int)<=i then some (i + n).toNat else none
def iV {α:Type}(xs:List α)(i:Int):Option α:=(ve xs.length i).bind fun j=>xs[j]?
theorem oh {n:Nat}{i:Int}{j:Nat}(h:ve n i=some j):seqIndex? i n=some j/\j < n /\ -(n:Int)<=i/\i < n:=by
 unfold ve at h
 by_cases h0:0<=i
 · rw [if_pos h0] at h
   by_cases h1:i < n
   · rw [if_pos h1] at h
     have e:i.toNat=j:=EH h
     exact ⟨by rw [seqIndex_of h0 h1,e],by omega,by omega,h1⟩
   · rw [if_neg h1] at h; cases h
 · rw [if_neg h0] at h
   by_cases h1 : -(n:Int)<=i
   · rw [if_pos h1] at h
     have e:(i + n).toNat=j:=EH h
     exact ⟨by rw [seqIndex_neg (by omega) h1,e],by omega,h1,by omega⟩
   · rw [if_neg h1] at h; cases h
theorem eE {α:Type}{xs:List α}{i:Int}{v:α}(h:iV xs i=some v):∃j,seqIndex? i xs.length=some j/\xs[j]? = some v/\j < xs.length /\ -(xs.length:Int)<=i/\i < xs.length:=by
 unfold iV at h
 cases e:ve xs.length i with
 | none=>rw [e] at h; cases h
 | some j=>
   rw [e] at h
   obtain ⟨h1,h2,h3,h4⟩:=oh e
   exact ⟨j,h1,h,h2,h3,h4⟩
theorem aM {α:Type}{xs:List α}{j:Nat}{v:α}(h:xs[j]? = some v):iV xs (j:Int)=some v:=by
 have hj:j < xs.length:=(List.getElem?_eq_some_iff.mp h).1
 have e:ve xs.length (j:Int)=some j:=by
   unfold ve
   rw [if_pos (by omega),if_pos (by omega)]; simp
 unfold iV; rw [e]; exact h
/-! ### what may be subscripted -/
/-- what stands as an index of a plain subscript -/
def nA (b:Expr):Prop:=∀o i,subscripted b false o i=operate [o,i] (getItem o i)
/-- a subscript by values -/
def BU (X:Cx)(r:R2):Prop:=
 ∀(value slice:Expr) (pins:List (Addr×Obj)) (s:Shared) (σ:St) (H:Hp) (x y:V) (v u:Value) (Q:VK),Inv X pins σ H s->RelV x v->RelV y u->r x y H Q ->
   subscripted slice false v u=operate [v,u] (getItem v u)->wpAny (model X.prog X.w) X.A (subscriptTail value slice v u) (EP X pins σ Q) X.xe s
/-- a call of a builtin's method by values: the receiver,the arguments -/
def zM (X:Cx)(id:String)(r:V->List V->Hp->VK->Prop):Prop:=
 ∀(pins:List (Addr×Obj)) (s:Shared) (σ:St) (H:Hp) (x:V) (xs:List V) (v:Value) (us:List Value) (Q:VK),Inv X pins σ H s->RelV x v->Vals xs us->r x xs H Q ->
   wpAny (model X.prog X.w) X.A (call (.builtin id) (v :: us)) (EP X pins σ Q) X.xe s
section
variable {X:Cx}{a b:Expr}{ta tb:TE}{pos:Pos}
/-- a[b] -/
theorem A8 {r:R2}(hr:BU X r)(ha:PE X a ta)(hb:PE X b tb)(hs:nA b):PE X (.Subscript a b pos) (xh r ta tb):=by
 intro pins s σ H Q I h
 exact Subscript_ (xw ha hb I h fun v u s2 x y H2 I2 rx ry q=>hr a b pins s2 σ H2 x y v u Q I2 rx ry q (hs _ _))

def Bk (K:D9):R2:=fun x y H Q=>∃p xs i v,x=.ref p/\y=.int i/\aA K H p xs/\iV xs i=some v/\Q v H
def Bl (K:D9):R2:=fun x y H Q=>∃p xs i v,x=.ref p/\y=.int i/\ar K H p xs/\iV xs i=some v/\Q v H
theorem vf:BU X (Bk X.K):=by
 intro value slice pins s σ H x y v u Q I rx ry h hs
 obtain ⟨p,xs,i,z,rfl,rfl,hq,he,q⟩:=h
 cases rx
 obtain ⟨t,rfl⟩:=ry
 obtain ⟨its,r,pl,hz⟩:=I.list hq
 obtain ⟨j,h1,h2,h3,h4,h5⟩:=eE he
 obtain ⟨w,ew,rw'⟩:=r.get h2
 have hl:=r.length
 have hn:=kf
 have fin:EP X pins σ Q w s:=⟨z,H,I,rw',q⟩
 by_cases h0:0<=i
 · have hj:i.toNat=j:=by
     rw [seqIndex_of h0 h5] at h1
     exact EH h1
   exact item_listR pl.isList h0 (by omega) (by rw [hj]; simpa using ew) fin hs
 · have hj:(i + (its.toArray.size:Int)).toNat=j:=by
     rw [seqIndex_neg (by omega) h4] at h1
     rw [Ei,← hl]
     exact EH h1
   exact subscriptTail_builtinR (x:=w) pl.isList.typeIs slot_list_getitem.lookup
     (wpAny_getItem_list_neg (Q:=fun r s'=>r=w/\EP X pins σ Q r s') pl.isList (by omega) (by rw [Ei] <;> omega) (by omega) (by rw [hj]; simpa using ew) ⟨rfl,fin⟩) hs
theorem ye:BU X (Bl X.K):=by
 intro value slice pins s σ H x y v u Q I rx ry h hs
 obtain ⟨p,xs,i,z,rfl,rfl,hq,he,q⟩:=h
 cases rx
 obtain ⟨t,rfl⟩:=ry
 obtain ⟨its,r,pl,hz⟩:=I.tuple hq
 obtain ⟨j,h1,h2,h3,h4,h5⟩:=eE he
 obtain ⟨w,ew,rw'⟩:=r.get h2
 have hl:=r.length
 have hn:=kf
 have fin:EP X pins σ Q w s:=⟨z,H,I,rw',q⟩
 exact subscriptTail_builtinR (x:=w) pl.typeIs slot_tuple_getitem.lookup
   (getItem_tuple (j:=j) (Q:=fun r s'=>r=w/\EP X pins σ Q r s') pl (by omega) (by omega) (by rw [Ei,← hl]; exact h1) (by simpa using ew) ⟨rfl,fin⟩) hs
/-! ### xs[i]=v,any sign -/
/-- the ym object behind a store -/
theorem mN (its:List Value)(n j:Nat)(u:Value):EW (·.setIfInBounds j u) { cls:=.type "list",data:=.seq its.toArray n }={ cls:=.type "list",data:=.seq (its.set j u).toArray n }:=by
 simp [EW]
theorem Inv.lst {pins:List (Addr×Obj)}{σ:St}{H:Hp}{s:Shared}{p:Addr}{xs:List V}(I:Inv X pins σ H s)(h:H p=some (.lst xs)) :
   ∃(its:List Value) (n:Nat),Vals xs its/\s.heap.get? p=some { cls:=.type "list",data:=.seq its.toArray n }/\xs.length<=sizeLine:=by
 obtain ⟨z,its,n,r,e⟩:=I.hok p _ h
 exact ⟨its,n,r,e,z⟩
/-- the list at p is written by an update of its object -/
theorem Inv.yn {pins:List (Addr×Obj)}{σ:St}{H:Hp}{s:Shared}{p:Addr}{xs ys:List V}{its its':List Value}{n n':Nat}{f:Obj->Obj}(I:Inv X pins σ H s)(h:H p=some (.lst xs))
   (ho:s.heap.get? p=some { cls:=.type "list",data:=.seq its.toArray n }) (hf:f { cls:=.type "list",data:=.seq its.toArray n }={ cls:=.type "list",data:=.seq its'.toArray n' }) (r:Vals ys its') (hz:ys.length<=sizeLine) (t:Nat) :
   Inv X pins σ (upd H p (.lst ys)) { s with heap:=s.heap.update p f,toks:=t }:=by
 have e:(s.heap.update p f).get? p=some { cls:=.type "list",data:=.seq its'.toArray n' }:=by
   rw [Fy f ho (by rw [hf] <;> rfl),hf]
 refine I.write (x:=p) (e:=p) (by rw [h]; trivial) (.inl rfl) (fun b u hb q=>(Fv _ _ (Ne.symm hb)).trans q) ⟨_,e⟩ ?_
 exact ⟨hz,its',n',r,e⟩
def tE:V->V->V->Hp->(Hp->Prop)->Prop:=fun o i v H Q=>∃p xs k j,o=.ref p/\i=.int k/\H p=some (.lst xs)/\ve xs.length k=some j/\Q (upd H p (.lst (xs.set j v)))
theorem set_list:z7 X tE:=by
 intro pins s σ H o i v ov iv u Q I ro ri rv h
 obtain ⟨p,xs,k,j,rfl,rfl,hp,hj,q⟩:=h
 cases ro
 obtain ⟨t,rfl⟩:=ri
 obtain ⟨its,n,r,ho,hz⟩:=I.lst hp
 obtain ⟨h1,h2,h3,h4⟩:=oh hj
 have hl:=r.length
 have hn:=kf
 have I':Inv X pins σ (upd H p (.lst (xs.set j v))) { s with heap:=s.heap.update p (EW (·.setIfInBounds j u)) }:=
   I.yn hp ho (mN its n j u) (r.set rv j) (by rw [List.length_set]; exact hz) s.toks
 by_cases h0:0<=k
 · have hk:k.toNat=j:=by
     rw [seqIndex_of h0 h4] at h1
     exact EH h1
   exact PySem.W.ki_setAt ho h0 (by omega) (by rw [Ei,← hl]; exact h4) (by rw [hk]; exact ⟨_,I',q⟩)
 · have hk:(k + (its.toArray.size:Int)).toNat=j:=by
     rw [seqIndex_neg (by omega) h3] at h1
     rw [Ei,← hl]
     exact EH h1
   exact PySem.W.ki_setBack ho (by omega) (by rw [Ei,← hl]; exact h3) (by omega) (by rw [hk]; exact ⟨_,I',q⟩)

/-! ### slices -/
theorem kB (lo hi:Option Int)(n:Nat):(sliceBounds lo hi none n).1=((HT.bf n 0 lo:Nat):Int)/\(sliceBounds lo hi none n).2.1=((HT.bf n n hi:Nat):Int)/\(sliceBounds lo hi none n).2.2=1:=by
 refine ⟨?_,?_,rfl⟩
 · cases lo with
   | none=>simp [sliceBounds,HT.bf]
   | some i=>
     simp only [sliceBounds,HT.bf,Option.getD_none,show (1:Int) > 0 by decide,if_true]
     by_cases h:i < 0
     · simp only [h,if_true] <;> omega
     · simp only [h,if_false] <;> omega
 · cases hi with
   | none=>simp [sliceBounds,HT.bf]
   | some i=>
     simp only [sliceBounds,HT.bf,Option.getD_none,show (1:Int) > 0 by decide,if_true]
     by_cases h:i < 0
     · simp only [h,if_true] <;> omega
     · simp only [h,if_false] <;> omega
theorem jb (its:List Value)(lo hi:Option Int):slicePick its.toArray lo hi none=((its.drop (HT.bf its.length 0 lo)).take (HT.bf its.length its.length hi - HT.bf its.length 0 lo)).toArray:=by
 obtain ⟨h1,h2,h3⟩:=kB lo hi its.toArray.size
 unfold slicePick
 rw [h1,h2,h3]
 simp only [sliceRange_one,pick_run,Ei] <;> rfl
/-- xs[lo:hi] of a list: a new list -/
def zh (K:D9):V->Option Int->Option Int->Hp->VK->Prop:=fun x lo hi H Q=>∃a xs,x=.ref a/\aA K H a xs/\∀p,H p=none->Q (.ref p) (upd H p (.lst (cJ xs lo hi)))
theorem oH:uw X (zh X.K):=by
 intro pins s σ H x v vl vu lo hi sl Q I rx hs pl pu h
 obtain ⟨a,xs,rfl,hx,q⟩:=h
 cases rx
 obtain ⟨its,r,ht,hz⟩:=I.list hx
 have hlen:=r.length
 refine ⟨"list",_,slot_list_getitem.lookup,ht.isList.typeIs,?_⟩
 refine wpAny_getItem_list_slice ht.isList hs pl pu .none (by simp) ?_ (by rw [Ei] <;> omega)
 rw [jb,← hlen]
 refine ⟨.ref s.heap.objs.size,_,I.laid (t':=s.toks) (o:=.lst (cJ xs lo hi)) (fun b ob q=>Ec _ q) (Ee _) ?_,rfl,q _ (I.hok.fresh (Ee _))⟩
 exact ⟨EX (fQ xs lo hi) hz,_,0,(r.drop (HT.bf xs.length 0 lo)).take (HT.bf xs.length xs.length hi - HT.bf xs.length 0 lo),El _ rfl⟩

/-! ### in,not in: flat items -/
def bV:V->Bool
 | .aU=>true
 | .bl _=>true
 | .int _=>true
 | .str _=>true
 | _=>false
/-- == of flat values -/
def ft:V->V->Bool
 | .aU,.aU=>true
 | .bl a,.bl b=>a == b
 | .bl a,.int b=>(if a then 1 else 0) == b
 | .int a,.bl b=>a == (if b then 1 else 0)
 | .int a,.int b=>a == b
 | .str a,.str b=>a == b
 | _,_=>false
theorem jO {A:Around}{s:Shared}{y x:V}{u v:Value}(ry:RelV y u)(rx:RelV x v)(fy:bV y=true)(fx:bV x=true):SeqAt.EqAt A s u v (ft y x):=by
 cases y with
 | aU=>
   cases ry
   cases x with
   | aU=>cases rx; exact SeqAt.EqAt.same _
   | bl b=>cases rx; exact SeqAt.EqAt.none_bool b
   | int b=>obtain ⟨t,rfl⟩:=rx; exact SeqAt.EqAt.none_int b t
   | str b=>obtain ⟨t,rfl⟩:=rx; exact SeqAt.EqAt.none_str b t
   | _=>exact absurd (show false=true from fx) Ej
 | bl a=>
   cases ry
   cases x with
   | aU=>cases rx; exact SeqAt.EqAt.bool_none a
   | bl b=>cases rx; exact SeqAt.EqAt.bool_bool a b
   | int b=>obtain ⟨t,rfl⟩:=rx; exact SeqAt.EqAt.bool_int a b t
   | str b=>obtain ⟨t,rfl⟩:=rx; exact SeqAt.EqAt.bool_str a b t
   | _=>exact absurd (show false=true from fx) Ej
 | int a=>
   obtain ⟨t',rfl⟩:=ry
   cases x with
   | aU=>cases rx; exact SeqAt.EqAt.int_none a t'
   | bl b=>cases rx; exact SeqAt.EqAt.int_bool a t' b
   | int b=>obtain ⟨t,rfl⟩:=rx; exact SeqAt.EqAt.int_int a t' b t
   | str b=>obtain ⟨t,rfl⟩:=rx; exact HE a t' b t
   | _=>exact absurd (show false=true from fx) Ej
 | str a=>
   obtain ⟨t',rfl⟩:=ry
   cases x with
   | aU=>cases rx; exact SeqAt.EqAt.str_none a t'
   | bl b=>cases rx; exact SeqAt.EqAt.str_bool a t' b
   | int b=>obtain ⟨t,rfl⟩:=rx; exact HD a t' b t
   | str b=>obtain ⟨t,rfl⟩:=rx; exact SeqAt.EqAt.str_str a t' b t
   | _=>exact absurd (show false=true from fx) Ej
 | _=>exact absurd (show false=true from fy) Ej
/-- the CC answers,read off the values (a Ce own answer does not lean on its token) -/
def mF (x:V)(u:Value):Bool:=match u with
 | .none=>ft .aU x
 | .bool b=>ft (.bl b) x
 | .int i _=>ft (.int i) x
 | .str z _=>ft (.str z) x
 | _=>false
theorem rg {x y:V}{u:Value}(r:RelV y u)(f:bV y=true):mF x u=ft y x:=by
 cases y with
 | aU=>cases r; rfl
 | bl b=>cases r; rfl
 | int i=>obtain ⟨t,rfl⟩:=r; rfl
 | str z=>obtain ⟨t,rfl⟩:=r; rfl
 | _=>exact absurd (show false=true from f) Ej
theorem eD {x:V}:∀{xs:List V} {us:List Value},Vals xs us->xs.all bV=true->us.any (mF x)=xs.any fun y=>ft y x
 | _,_,.nil,_=>rfl
 | y :: xs,u :: us,.cons r t,f=>by
   rw [HH,Fc] at f
   rw [FE,FE,rg r f.1,eD t f.2]
theorem dy {A:Around}{s:Shared}{x:V}{v:Value}(rx:RelV x v)(fx:bV x=true):∀{xs:List V} {us:List Value},Vals xs us->xs.all bV=true->∀u∈us,SeqAt.EqAt A s u v (mF x u)
 | _,_,.nil,_=>fun u hu=>by cases hu
 | y :: xs,u :: us,.cons r t,f=>fun u' hu=>by
   rw [HH,Fc] at f
   rcases List.mem_cons.mp hu with rfl | hu
   · rw [rg r f.1]; exact jO r rx f.1 fx
   · exact dy rx fx t f.2 u' hu
def rS (x:V)(xs:List V):Bool:=xs.any fun y=>ft y x
/-- x in a list or tuple of flat items -/
def B8 (K:D9)(neg:Bool):R2:=fun x y H Q=>∃p xs,y=.ref p/\(aA K H p xs\/ar K H p xs)/\bV x=true/\xs.all bV=true/\Q (.bl (if neg then !rS x xs else rS x xs)) H
theorem qp:dS X (compareOp .In) (B8 X.K false):=by
 intro pins s σ H x y v u Q I rx ry h
 obtain ⟨p,xs,rfl,hq,fx,fs,q⟩:=h
 cases ry
 rcases hq with hq | hq
 · obtain ⟨its,r,pl,hz⟩:=I.list hq
   refine SeqAt.in_listAt (mF x) pl.isList (fun w hw=>dy rx fx r fs w (by simpa using hw)) ⟨.bl _,H,I,rfl,?_⟩
   rw [show its.toArray.any (mF x)=its.any (mF x) by simp,eD r fs]
   exact q
 · obtain ⟨its,r,pl,hz⟩:=I.tuple hq
   refine SeqAt.in_tupleAt (mF x) pl (fun w hw=>dy rx fx r fs w (by simpa using hw)) ⟨.bl _,H,I,rfl,?_⟩
   rw [show its.toArray.any (mF x)=its.any (mF x) by simp,eD r fs]
   exact q
theorem kr:dS X (compareOp .NotIn) (B8 X.K true):=by
 intro pins s σ H x y v u Q I rx ry h
 obtain ⟨p,xs,rfl,hq,fx,fs,q⟩:=h
 cases ry
 rcases hq with hq | hq
 · obtain ⟨its,r,pl,hz⟩:=I.list hq
   refine SeqAt.notIn_listAt (mF x) pl.isList (fun w hw=>dy rx fx r fs w (by simpa using hw)) ⟨.bl _,H,I,rfl,?_⟩
   rw [show its.toArray.any (mF x)=its.any (mF x) by simp,eD r fs]
   exact q
 · obtain ⟨its,r,pl,hz⟩:=I.tuple hq
   refine SeqAt.notIn_tupleAt (mF x) pl (fun w hw=>dy rx fx r fs w (by simpa using hw)) ⟨.bl _,H,I,rfl,?_⟩
   rw [show its.toArray.any (mF x)=its.any (mF x) by simp,eD r fs]
   exact q
/-! ### len,list(x),tuple(x) of any list or tuple that is read -/
theorem jK:bZ X (.builtin "len") (fun xs H Q=>∃p ys,xs=[.ref p]/\(aA X.K H p ys\/ar X.K H p ys)/\Q (.int ys.length) H):=by
 intro pins s σ H xs us Q I r h
 obtain ⟨p,ys,rfl,hq,q⟩:=h
 obtain ⟨u,rfl,rx⟩:=vals1 r
 cases rx
 have hn:=kf
 rcases hq with hq | hq
 · obtain ⟨its,r',pl,hz⟩:=I.list hq
   have hlen:=r'.length
   exact Calls.call_len_list pl.isList (by simp only [Ei] <;> omega) ⟨.int ys.length,H,I.tok _,⟨s.toks + 1,by rw [Ei,hlen]⟩,q⟩
 · obtain ⟨its,r',pl,hz⟩:=I.tuple hq
   have hlen:=r'.length
   exact len_tuple pl (by simp only [Ei] <;> omega) ⟨.int ys.length,H,I.tok _,⟨s.toks + 1,by rw [Ei,hlen]⟩,q⟩
theorem jL:bZ X (.type "list") (fun xs H Q=>∃p ys,xs=[.ref p]/\(aA X.K H p ys\/ar X.K H p ys)/\∀l,H l=none->Q (.ref l) (upd H l (.lst ys))):=by
 intro pins s σ H xs us Q I r h
 obtain ⟨p,ys,rfl,hq,q⟩:=h
 obtain ⟨u,rfl,rx⟩:=vals1 r
 cases rx
 have fin:∀(its:List Value),Vals ys its->ys.length<=sizeLine->∀(h':Heap) (c':Nat),(∀b o',s.heap.get? b=some o'->h'.get? b=some o') ->
     h'.get? s.heap.objs.size=some { cls:=.type "list",dict:=none,data:=.seq its.toArray c',slots:=#[] }->EP X pins σ Q (.ref s.heap.objs.size) { s with heap:=h' }:=fun its r' hz h' c' kp e=>
   ⟨.ref s.heap.objs.size,_,I.laid (t':=s.toks) kp (Ee _) (show aQ X.prog X.w _ h' _ (.lst ys) from ⟨hz,its,c',r',e⟩),rfl,q _ (I.hok.fresh (Ee _))⟩
 rcases hq with hq | hq
 · obtain ⟨its,r',pl,hz⟩:=I.list hq
   have hlen:=r'.length
   obtain ⟨o,ho,hc,n,hd⟩:=pl.isList
   exact call_list_seq p (.inl rfl) ho hc hd (fun h' c' kp e=>fin its r' hz h' c' kp e) (by simp only [Ei] <;> omega)
 · obtain ⟨its,r',pl,hz⟩:=I.tuple hq
   have hlen:=r'.length
   obtain ⟨o,ho,hc,n,hd⟩:=pl
   exact call_list_seq p (.inr rfl) ho hc hd (fun h' c' kp e=>fin its r' hz h' c' kp e) (by simp only [Ei] <;> omega)
theorem iX:bZ X (.type "tuple") (fun xs H Q=>∃p ys,xs=[.ref p]/\((aA X.K H p ys/\∀l,H l=none->Q (.ref l) (upd H l (.tup ys)))\/(ar X.K H p ys/\Q (.ref p) H))):=by
 intro pins s σ H xs us Q I r h
 obtain ⟨p,ys,rfl,h⟩:=h
 obtain ⟨u,rfl,rx⟩:=vals1 r
 cases rx
 rcases h with ⟨hq,q⟩ | ⟨hq,q⟩
 · obtain ⟨its,r',pl,hz⟩:=I.list hq
   have hlen:=r'.length
   refine call_tuple_list pl.isList (fun h' kp=>?_) (by simp only [Ei] <;> omega)
   have I1:Inv X pins σ H { s with heap:=h' }:=I.kept (t':=s.toks) kp
   have I2:Inv X pins σ (upd H h'.objs.size (.tup ys)) { s with heap:=h'.push { cls:=.type "tuple",data:=.seq its.toArray } }:=
     I1.laid (t':=s.toks) (fun b o e=>Ec _ e) (Ee _) (show aQ X.prog X.w _ _ _ (.tup ys) from ⟨hz,its,r',IsTup.new _ _⟩)
   exact ⟨.ref h'.objs.size,_,I2,rfl,q _ (I1.hok.fresh (Ee _))⟩
 · obtain ⟨its,r',pl,hz⟩:=I.tuple hq
   exact call_tuple_same pl ⟨.ref p,H,I,rfl,q⟩

/-! ### the call of a builtin's method: o.m(..) -/
/-- the value is of that builtin type -/
def CZ (K:D9)(T:String)(x:V)(H:Hp):Prop:=match x with
 | .str _=>T="str"
 | .int _=>T="int"
 | .ref p=>(T="list"/\∃xs,aA K H p xs)\/(T="tuple"/\∃o,K.lookup p=some o/\o.cls=.type "tuple"/\o.dict=none) \/
     (T="dict"/\((∃kvs,H p=some (.dK kvs))\/∃kvs,H p=some (.dT kvs)))\/(T="set"/\∃S n,H p=some (.set S n))
 | _=>False
theorem ug {pins:List (Addr×Obj)}{σ:St}{H:Hp}{s:Shared}{T:String}{x:V}{v:Value}(I:Inv X pins σ H s)(r:RelV x v)(ty:CZ X.K T x H) :
   s.TypeIs v T/\∀a,v=.ref a->∃ob,s.heap.get? a=some ob/\ob.dict=none:=by
 cases x with
 | str z=>
   obtain ⟨t,rfl⟩:=r
   cases (show T="str" from ty)
   exact ⟨typeIs_str s z t,fun _ e=>nomatch e⟩
 | int i=>
   obtain ⟨t,rfl⟩:=r
   cases (show T="int" from ty)
   exact ⟨typeIs_int s i t,fun _ e=>nomatch e⟩
 | ref p=>
   cases r
   rcases ty with ⟨rfl,xs,hq⟩ | ⟨rfl,o,hk,hc,hd⟩ | ⟨rfl,hk⟩ | ⟨rfl,S,n,hk⟩
   · obtain ⟨its,_,pl,_⟩:=I.list hq
     refine ⟨pl.isList.typeIs,fun a e=>?_⟩
     cases e
     obtain ⟨o,n,e,c,hd,_⟩:=pl
     exact ⟨o,e,hd⟩
   · refine ⟨⟨o,I.kIn p o hk,hc⟩,fun a e=>?_⟩
     cases e
     exact ⟨o,I.kIn _ o hk,hd⟩
   · have z:∃o,s.heap.get? p=some o/\o.ExactDict:=by
       rcases hk with ⟨kvs,hk⟩ | ⟨kvs,hk⟩
       · obtain ⟨_,_,_,_,o,_,_,e,ex,_⟩:=I.hok p _ hk
         exact ⟨o,e,ex⟩
       · obtain ⟨_,_,_,_,o,_,_,e,ex,_⟩:=I.hok p _ hk
         exact ⟨o,e,ex⟩
     obtain ⟨o,e,ex⟩:=z
     refine ⟨⟨o,e,ex.1⟩,fun a e2=>?_⟩
     cases e2
     exact ⟨o,e,ex.2.1⟩
   · obtain ⟨o,_,_,_,e,ex,_⟩:=I.hok p _ hk
     refine ⟨⟨o,e,ex.1⟩,fun a e2=>?_⟩
     cases e2
     exact ⟨o,e,ex.2.1⟩
 | _=>exact FK ty
def BB (K:D9)(T:String)(r:V->List V->Hp->VK->Prop)(to:TE):TE:=fun σ H Q=>to σ H fun x H1=>CZ K T x H1/\r x [] H1 Q
def zA (K:D9)(T:String)(r:V->List V->Hp->VK->Prop)(to:TE)(t:TA):TE:=fun σ H Q=>to σ H fun x H1=>CZ K T x H1/\t σ H1 fun xs H2=>r x xs H2 Q
variable {o e:Expr}{es:List Expr}{to:TE}{t:TA}{name:Str}{apos cpos:Pos}{T id:String}{r:V->List V->Hp->VK->Prop}
theorem yR (pa:PlainAttrs T)(slot:Slot T name id)(hty:typeOf (.builtin id)=pure (.type "method_descriptor"))(hm:zM X id r)(ho:PE X o to)
   (hbase:attributeBase o name X.env (eval o X.env)=eval o X.env:=by rfl) (hline:(apos.endLine == cpos.line)=true:=by rfl):PE X (.Call (.Attribute o name apos) [] [] cpos) (BB X.K T r to):=by
 intro pins s σ H Q I h
 refine wpAny_Call_method0_late hbase hline (a7 (ho pins s σ H _ I h) fun v s1 ⟨x,H1,I1,r1,ty,q1⟩=>?_)
 obtain ⟨h1,h2⟩:=ug I1 r1 ty
 exact ⟨T,id,pa,slot,hty,h1,h2,FN rfl (PySem.evalArgs_none (hm pins s1 σ H1 x [] v [] Q I1 r1 .nil q1))⟩
theorem wR (pa:PlainAttrs T)(slot:Slot T name id)(hty:typeOf (.builtin id)=pure (.type "method_descriptor"))(hm:zM X id r)(ho:PE X o to)(ha:PA X (e :: es) t)
   (hbase:attributeBase o name X.env (eval o X.env)=eval o X.env:=by rfl)
   (hfew:((backTo cpos (starEach (e :: es) X.env)).all (fun x=>!x.1) && (backToKw cpos (keywordEach [] X.env)).all (fun x=>x.1.isSome)
     && decide ((e :: es).length + ([]:List Keyword).length + (if ([]:List Keyword).isEmpty then 0 else 1) < 30))=true:=by rfl)
   (hline:(apos.endLine == cpos.line)=true:=by rfl) (hs:starEach (e :: es) X.env=(false,eval e X.env) :: starEach es X.env:=by rfl) (hplain:(backTo cpos (starEach es X.env)).any (·.1)=false:=by rfl) :
   PE X (.Call (.Attribute o name apos) (e :: es) [] cpos) (zA X.K T r to t):=by
 intro pins s σ H Q I h
 refine wpAny_Call_method_late hbase hfew hline rfl (a7 (ho pins s σ H _ I h) fun v s1 ⟨x,H1,I1,r1,ty,q1⟩=>?_)
 obtain ⟨h1,h2⟩:=ug I1 r1 ty
 refine ⟨T,id,pa,slot,hty,h1,h2,?_⟩
 have hA:=ha cpos pins s1 σ H1 _ I1 q1
 rw [hs] at hA ⊢
 refine FN (by show (false || (backTo cpos (starEach es X.env)).any (·.1))=false; rw [hplain] <;> rfl) (Gs ?_)
 exact a7 hA fun us s2 ⟨vs,H2,I2,r2,q2⟩=>hm pins s2 σ H2 x vs v us Q I2 r1 r2 q2
/- xs.append(e),list.index on a ip tuple .. are zM facts of 06m -/
end
end L2

namespace L2
open PySem PySem.Spec PyProof.Rows

def BV (X:Cx)(id:String)(r:V->List V->Hp->VK->Prop):Prop:=
 ∀(pins:List (Addr×Obj)) (s:Shared) (σ:St) (H:Hp) (x:V) (xs:List V) (v:Value) (us:List Value) (Q:VK),Inv X pins σ H s->RelV x v->Vals xs us->r x xs H Q ->
   wpAny (model X.prog X.w) X.A (call (.builtin id) (v :: us)) (EP X pins σ Q) X.xe s

/-! ### lists of values -/
theorem Vals.one:∀{x:V} {us:List Value},Vals [x] us->∃u,us=[u]/\RelV x u
 | _,_,.cons r .nil=>⟨_,rfl,r⟩
theorem Vals.two:∀{x y:V} {us:List Value},Vals [x,y] us->∃u v,us=[u,v]/\RelV x u/\RelV y v
 | _,_,_,.cons r (.cons q .nil)=>⟨_,_,rfl,r,q⟩
theorem Vals.zero:∀{us:List Value},Vals [] us->us=[]
 | _,.nil=>rfl
section
variable {X:Cx}{pins:List (Addr×Obj)}{σ:St}{H:Hp}{s:Shared}{l b:Addr}{xs ys zs:List V}

/-! ### the two steps: a tracked list is zU,a new list is laid -/
theorem Inv.lset {its its':List Value}{n:Nat}{f:Array Value->Array Value}{t':Nat}(I:Inv X pins σ H s)(hH:H l=some (.lst xs))
   (e:s.heap.get? l=some { cls:=.type "list",data:=.seq its.toArray n }) (hf:f its.toArray=its'.toArray) (hv:Vals ys its') (hz:ys.length<=sizeLine) :
   Inv X pins σ (upd H l (.lst ys)) { s with heap:=s.heap.update l (EW f),toks:=t' }:=by
 have q:=PySem.IsL.update e f
 rw [hf] at q
 refine I.write (x:=l) (e:=l) (by rw [hH]; exact trivial) (.inl rfl) (fun b' u hb hu=>(Fv s.heap (EW f) (Ne.symm hb)).trans hu) ⟨_,q⟩ ?_
 exact ⟨hz,its',_,hv,q⟩
theorem Inv.CG {its:List Value}{t':Nat}(I:Inv X pins σ H s)(hv:Vals ys its)(hz:ys.length<=sizeLine) :
   Inv X pins σ (upd H s.heap.objs.size (.lst ys)) { s with heap:=s.heap.push { cls:=.type "list",data:=.seq its.toArray },toks:=t' }:=
 I.laid (fun _ _ q=>Ec _ q) (Ee _) ⟨hz,its,0,hv,El _ rfl⟩
theorem Inv.fresh (I:Inv X pins σ H s):H s.heap.objs.size=none:=I.hok.fresh (Ee _)
theorem Inv.lstM (I:Inv X pins σ H s)(hH:H l=some (.lst xs)):xs.length<=sizeLine/\∃(its:List Value) (n:Nat),Vals xs its/\xs.length=its.length/\s.heap.get? l=some { cls:=.type "list",data:=.seq its.toArray n }:=by
 obtain ⟨z,its,n,r,e⟩:=I.hok l _ hH
 exact ⟨z,its,n,r,r.length,e⟩

theorem r6 {n:Nat}(h:n<=sizeLine):FX n=false:=by
 unfold FX
 exact decide_eq_false (by omega)
end

section
variable {X:Cx}

/-! ### methods -/
def oz:V->List V->Hp->VK->Prop:=fun x vs H Q=>∃l xs y,x=.ref l/\vs=[y]/\H l=some (.lst xs)/\xs.length < sizeLine/\Q .aU (upd H l (.lst (xs++[y])))
theorem jx:BV X "list.append" oz:=by
 intro pins s σ H x vs v us Q I rx rv h
 obtain ⟨l,xs,y,rfl,rfl,hH,hz,q⟩:=h
 cases rx
 obtain ⟨u,rfl,ru⟩:=rv.one
 obtain ⟨z,its,n,r,hl,e⟩:=I.lstM hH
 refine call_meets F.slot_list_append ⟨_,e,rfl⟩ F.entry_list_append (F.args_list_append_2 _ _) (PySem.list_append l its.toArray n u (by rw [Ei]; omega)) ⟨e,?_⟩
 refine ⟨.aU,_,I.lset (its':=its++[u]) hH e (by simp) (r.append (.cons ru .nil)) ?_,rfl,q⟩
 rw [Eh,FP]
 omega

def oA:V->List V->Hp->VK->Prop:=fun x vs H Q=>∃l b xs zs,x=.ref l/\vs=[.ref b]/\H l=some (.lst xs)/\H b=some (.lst zs)/\xs.length + zs.length<=sizeLine/\Q .aU (upd H l (.lst (xs++zs)))
theorem qe:BV X "list.extend" oA:=by
 intro pins s σ H x vs v us Q I rx rv h
 obtain ⟨l,b,xs,zs,rfl,rfl,hH,hB,hz,q⟩:=h
 cases rx
 obtain ⟨u,rfl,ru⟩:=rv.one
 cases ru
 obtain ⟨z,its,n,r,hl,e⟩:=I.lstM hH
 obtain ⟨z2,its2,n2,r2,hl2,e2⟩:=I.lstM hB
 have hsz:its.toArray.size + its2.toArray.size<=sizeLine:=by rw [Ei,Ei]; omega
 have As:¬ (!its.toArray.isEmpty && FX (its.toArray.size + its2.toArray.size))=true:=by
   rw [r6 hsz,Gz]
   exact Ej
 refine call_meets F.slot_list_extend ⟨_,e,rfl⟩ F.entry_list_extend (F.args_list_extend_2 _ _)
   (AutoSeq1.list_extend_list_list_0 l its.toArray n b its2.toArray n2 As (by rw [Ei]; omega) (by omega)) ⟨e,e2,?_⟩
 refine ⟨.aU,_,I.lset (its':=its++its2) hH e (by simp) (r.append r2) ?_,rfl,q⟩
 rw [Eh]
 omega

def tu:V->List V->Hp->VK->Prop:=fun x vs H Q=>∃l xs,x=.ref l/\vs=[]/\H l=some (.lst xs)/\Q .aU (upd H l (.lst []))
theorem rX:BV X "list.clear" tu:=by
 intro pins s σ H x vs v us Q I rx rv h
 obtain ⟨l,xs,rfl,rfl,hH,q⟩:=h
 cases rx
 have DN:=rv.zero
 subst DN
 obtain ⟨z,its,n,r,hl,e⟩:=I.lstM hH
 refine call_meets F.slot_list_clear ⟨_,e,rfl⟩ F.entry_list_clear (F.args_list_clear_1 _) (AutoSeq1.list_clear_list_0 l its.toArray n (by rw [Ei]; omega)) ⟨e,?_⟩
 exact ⟨.aU,_,I.lset (its':=[]) (ys:=[]) hH e rfl .nil (EC _),rfl,q⟩

/-! ### list + list,list += list,list * int -/
def Bh:R2:=fun x y H Q=>∃l b xs zs,x=.ref l/\y=.ref b/\H l=some (.lst xs)/\H b=some (.lst zs)/\xs.length + zs.length<=sizeLine/\∀p,H p=none->Q (.ref p) (upd H p (.lst (xs++zs)))
theorem yF:dS X (binaryOp .Add) Bh:=by
 intro pins s σ H x y v u Q I rx ry h
 obtain ⟨l,b,xs,zs,rfl,rfl,hH,hB,hz,q⟩:=h
 cases rx
 cases ry
 obtain ⟨z,its,n,r,hl,e⟩:=I.lstM hH
 obtain ⟨z2,its2,n2,r2,hl2,e2⟩:=I.lstM hB
 refine PySem.P.add_list e e2 ?_ (by rw [Ei,Ei]; omega)
 have ea:its.toArray++its2.toArray=(its++its2).toArray:=by simp
 rw [ea]
 exact ⟨.ref _,_,I.CG (t':=s.toks) (r.append r2) (by rw [Eh]; omega),rfl,q _ I.fresh⟩
/-! ### del xs[i] -/
end

/-! ### xs[a:b]=ys -/

end L2

namespace C8
open PySem PySem.W PySem.Calls PyProof.Rows

/-! ### the kA -/
theorem gg {P:Params}{h:Heap}:∀(ns:List Int) (vs:List Value),WellAll P h vs (ns.map WData.int)->IntsAre vs ns:=by
 intro ns
 induction ns with
 | nil=>
   intro vs w
   rw [List.map_nil] at w
   cases w
   exact .nil
 | cons n ns ih=>
   intro vs w
   rw [EJ] at w
   cases w with
   | cons a b=>
     cases a
     exact .cons _ _ (ih _ b)

theorem qB {l:OpenLaw}{n:Nat}(hn:l.most=some n){P:Params}{h:Heap}{args:List WData}{vals:List Value}
   (hpre:l.row.toRowW.claim.pre args=true) (hwl:WellAll P h vals args) :
   ∃a vs ns,vals=[Ep a]/\args=[WData.list (ns.map WData.int)]/\h.get? a=some { cls:=.type "list",data:=.seq vs.toArray }/\IntsAre vs ns/\ns.length<=n:=by
 have DM:WShape.hasAll [] args [.list .int]=true:=(pre_splitW hpre).1
 have hc:l.pre.holds [] { args:=args }=true:=(pre_splitW hpre).2
 obtain ⟨d,r,rfl,h1,h2⟩:=hasAllW_cons DM
 obtain rfl:=hasAllW_nil h2
 obtain ⟨xs,rfl,h3⟩:=hasW_list h1
 obtain ⟨ns,rfl⟩:=items_int h3
 have hlen:ns.length<=n:=by
   unfold OpenLaw.pre at hc
   have h4:(WTm.not (.lt (.lit (.int (n:Int))) (.len (.arg 0)))).holds [] { args:=[.list (ns.map .int)] }=true:=by
     have h4:=(holds_andW hc).1
     rw [hn] at h4
     exact h4
   have h5:=condW_of h4 (w_not (w_lt w_lit (w_len_list (w_arg rfl))))
   rw [Ea] at h5
   refine Nat.le_of_not_lt fun q=>?_
   have q':(n:Int) < ((ns.length:Nat):Int):=by omega
   first
     | (rw [decide_eq_true q'] at h5; exact absurd h5 (by decide))
     | (simp at h5; omega)
 cases hwl with
 | cons w1 w2=>
   cases w2
   cases w1 with
   | list ho hall=>exact ⟨_,_,ns,rfl,rfl,ho,gg ns _ hall,hlen⟩

theorem qw (l:OpenLaw)(args:List WData):l.row.toRowW.claim.post args (.bool true) args=true:=
 postW_of (r:=l.row.toRowW) (X:=(true == true))
   (show WShape.has [] (.bool true) .bool=true by first | rfl | decide | simp [WShape.has,WShape.arms,WShape.armsAll])
   (show (WTm.eq .res (.lit (.bool true))).value [] { args:=args,res:=some (.bool true),after:=args }=some (.bool (true == true)) from w_eq_bool (w_res rfl) w_lit) rfl

/-! ### the xv: va last B7 (the goal 'hc' behind k_head) from a wpAny of the law's body -/
/-- the same from a codeAny of the Dy (for a layer whose function zO Ds of calls) -/
theorem kO {l:OpenLaw}{n:Nat}{q:Program}{loose:List Str}{XP:(Str->Option Value)->Heap->Prop}{YP:World->Heap->Prop}{d:DefRec}
   (hn:l.most=some n) (hdf:d.params.defaults=[])
   (call:∀(w:World) (s₀ s₁:Shared) (mg mb:Str->Option Value) (fa:Addr) (o:Obj) (pm cd doc:Value) (a:Addr) (vs:List Value) (ns:List Int),
     Ground q loose [] XP w s₀ mg mb s₁.heap->YP w s₁.heap ->
     s₁.heap.get? fa=some o->o.data=.func (docDef d.name d.params d.body d.scope pm cd doc)->s₁.heap.CodeRec cd d.name->mg d.name=some (.ref fa) ->
     s₁.heap.get? a=some { cls:=.type "list",data:=.seq vs.toArray }->IntsAre vs ns->ns.length<=n->s₁.gens = #[] ->
     codeAny (model l.prog w) callerA (.call (.ref fa) ⟨[.ref a],[]⟩) (fun r s'=>r=.ok (.ret (.bool true))/\OldK s₁.heap s'.heap/\s'.os=s₁.os/\AllBare s'.gens) s₁) :
   WalkO q loose XP YP l.row.toRowW d [] (fun f vs=>PySem.call f vs):=by
 intro w s₀ s₁ mg mb G Y fa o pm cd doc dV kV ho hd hcd hD hmg hg args vals as hpre DK DZ hwl DY
 obtain rfl:dV=.none:=Dflts.none hD hdf
 obtain rfl:kV=.none:=Dflts.noKw hD
 obtain ⟨a,vs,ns,rfl,rfl,x5,hints,hlen⟩:=qB hn hpre hwl
 refine enter_call (codeAny_mono (call w s₀ s₁ mg mb fa o pm cd doc a vs ns G Y ho (fd_plain hd) hcd hmg x5 hints hlen hg) fun r s' hq=>?_)
 obtain ⟨rfl,h2,h3,h4⟩:=hq
 exact ⟨.inl ⟨.bool true,.bool true,[],rfl,fun _=>rfl,.bool true,qw l _,fun _=>⟨List.Pairwise.nil,fun _ hm=>(nomatch hm)⟩⟩,h2,h3,h4⟩

/-! ### rules over ANY heap (no ledger) from facts about the written part K: the zT own take a ledger (News) for what they write -/
end C8

namespace L2
open PySem PySem.Spec PyProof.Rows

theorem jG:∀{vs:List Value} {ns:List Int},IntsAre vs ns->Vals (ns.map V.int) vs
 | _,_,.nil=>.nil
 | _,_,.cons n t h=>.cons ⟨t,rfl⟩ (jG h)

/-- nothing is tracked but the kA,known to the object (or it is an object of the module) -/
def xp (H:Hp):Prop:=∀b,H b=none\/∃o xs,H b=some (.frz o (.lst xs))

/-- THE DA: the law's promise,at the heap behind the top. F,the promise of the law's def,may use that base is part of the heap (so K.In base,base.Ns mainGlobals mg stand in Mod) -/
theorem rW {P:Program}{w:World}{K:D9}{mg mb:Str->Option Value}{CX:CXT}{k:Nat}{fa a:Addr}{fd:FuncData}{x:Str}{sp:Sp}{s₁:Shared}{vs:List Value}{ns:List Int}
   (KX:K.In s₁.heap) (hns:s₁.heap.Ns mainGlobals mg) (hb:s₁.heap.Ns builtinsNs mb) (hbb:∀x:Str,x≠"__name__"->mb x=bootBuiltins x) (hlim:s₁.heap.NoLimit) (hg:s₁.gens = #[])
   (ha:s₁.heap.get? a=some { cls:=.type "list",data:=.seq vs.toArray }) (hi:IntsAre vs ns) (hl:ns.length<=sizeLine) (hr:cG k callerA)
   (F:∀base:Heap,K.In base->base.Ns mainGlobals mg->aI P w K mg base CX k fa fd [x] sp) (hbind:∀(s:Shared) (u:Value),BindsTo s fd ⟨[u],[]⟩ [(x,u)])
   (hsp:∀H:Hp,xp H->aA K H a (ns.map V.int)->sp [.ref a] H (fun v _=>v=.bl true) fun _ _ _=>False)
   (hCX:∀H e s',CX [] H s₁ (fun _ _ _=>False) e s'->False) :
   codeAny (model P w) callerA (.call (.ref fa) ⟨[.ref a],[]⟩) (fun r s'=>r=.ok (.ret (.bool true))/\OldK s₁.heap s'.heap/\s'.os=s₁.os/\AllBare s'.gens) s₁:=by
 have rv:=jG hi
 have CF:=hi.length
 -- from an abstract heap in which nothing but the kA may be tracked
 have core:∀H:Hp,xp H->aA K H a (ns.map V.int)->ei P w H s₁.heap->(∀b,H b≠none->b=a)->(H a≠none->K.lookup a=none) ->
     codeAny (model P w) callerA (.call (.ref fa) ⟨[.ref a],[]⟩) (fun r s'=>r=.ok (.ret (.bool true))/\OldK s₁.heap s'.heap/\s'.os=s₁.os/\AllBare s'.gens) s₁:=by
   intro H hO hS hok hA hK
   have nG:∀{b:Addr} {o:Obj},s₁.heap.get? b=some o->H b=none->(j6 s₁.heap H).get? b=some o:=fun e n=>rQ e n
   have noA:∀{b:Addr} {o:Obj} {es:Array DictEntry} {ep:Nat},s₁.heap.get? b=some o->o.data=.dict es ep->H b=none:=fun {b o es ep} e d=>by
     cases q:H b with
     | none=>rfl
     | some u=>
       have e':b=a:=hA b (by rw [q]; simp)
       subst e'
       rw [ha] at e; cases e
       have d':Data.seq vs.toArray _=Data.dict es ep:=d
       cases d'
   have nsK:∀{b:Addr} {m:Str->Option Value},s₁.heap.Ns b m->(j6 s₁.heap H).Ns b m:=fun {b m} ⟨o,es,ep,e,d,r⟩=>⟨o,es,ep,nG e (noA e d),d,r⟩
   have Dg:K.In (j6 s₁.heap H):=fun b o e=>nG (KX b o e) (by
     cases q:H b with
     | none=>rfl
     | some u=>
       have e':b=a:=hA b (by rw [q]; simp)
       subst e'
       rw [hK (by rw [q]; simp)] at e; cases e)
   have hM:Mod K mg (j6 s₁.heap H):=⟨Dg,nsK hns,⟨mb,nsK hb,hbb⟩,let ⟨mc,h1,h2⟩:=hlim; ⟨mc,nsK h1,h2⟩⟩
   have e0:ur P w K mg (j6 s₁.heap H) callerA [] s₁ H:=⟨rfl,hM,fun b o e=>vo e,Nat.le_of_eq (pV _ _),trivial,fun b hb=>absurd (show b∈([]:List Addr) from hb) (by simp),hok,.of_eq hg⟩
   refine codeAny_mono ((F _ Dg (nsK hns)).run callerA [] s₁ H ⟨[.ref a],[]⟩ [.ref a] [.ref a] _ _ hr e0 (hbind s₁ (.ref a)) (.cons rfl .nil) (hsp H hO hS)) fun r s' h=>?_
   cases r with
   | error e=>exact (hCX H e s' h).elim
   | ok fl=>
     cases fl with
     | next=>exact FK h
     | brk=>exact FK h
     | cont=>exact FK h
     | ret u=>
       obtain ⟨v,H',os,bare,un,CB,r',q⟩:=h
       have q':v=.bl true:=q
       subst q'
       obtain rfl:u=FI true:=r'
       refine ⟨rfl,OldK.of_keep fun b o e=>?_,os,bare⟩
       cases q:H b with
       | none=>exact un.keep b o e q (by intro z; exact absurd (show b∈([]:List Addr) from z) (by simp)) (by simp)
       | some u=>
         rcases hO b with z | ⟨ob,xs,z⟩
         · rw [q] at z; cases z
         · have z2:=un.frzs b ob _ z
           obtain ⟨e1,_⟩:=hok b _ z
           obtain ⟨e2,_⟩:=CB b _ z2
           rw [e] at e1; cases e1
           exact e2
 cases hk:K.lookup a with
 | some o=>
   -- the kA is one of the ip own objects
   have e:=KX a o hk
   rw [ha] at e
   cases e
   refine core (fun _=>none) (fun _=>.inl rfl) (.inr ⟨_,vs.toArray,_,hk,rfl,rfl,rfl,by rw [Ei,CF]; exact hl,by simpa using rv⟩) (fun b u z=>by have z':(none:Option HO)=some u:=z; cases z') (fun b z=>absurd rfl z) fun z=>absurd rfl z
 | none=>
   refine core (fun b=>if b=a then some (.frz { cls:=.type "list",data:=.seq vs.toArray } (.lst (ns.map V.int))) else none) (fun b=>?_) (.inl (.inr ⟨{ cls:=.type "list",data:=.seq vs.toArray },if_pos rfl⟩)) (fun b u z=>?_) (fun b z=>?_) fun _=>hk
   · by_cases hb:b=a
     · exact .inr ⟨_,_,if_pos hb⟩
     · exact .inl (if_neg hb)
   · by_cases hb:b=a
     · have z':=(if_pos hb).symm.trans z
       cases z'
       subst hb
       exact ⟨ha,by rw [Ea]; exact hl,vs,_,rv,ha⟩
     · have z':=(if_neg hb).symm.trans z
       cases z'
   · by_cases hb:b=a
     · exact hb
     · exact absurd (if_neg hb) z
end L2

namespace L2
open PySem PySem.Spec PyProof.Rows

/-- the goal that k_head leaves (case hc),from the law's promise. F gives the function object fd (K's own) once,then the promise over nV base -/
theorem walk_of {l:PySem.W.OpenLaw}{n k:Nat}{q:Program}{loose:List Str}{XP:(Str->Option Value)->Heap->Prop}{YP:World->Heap->Prop}{d:DefRec}{K:Params->D9}{CX:World->CXT}{sp:World->Sp}{x:Str}
   (hn:l.most=some n) (hn2:n<=sizeLine) (hdf:d.params.defaults=[]) (hr:cG k callerA)
   (hY:∀(w:World) (h:Heap),YP w h->(K w.params).In h)
   (F:∀(w:World) (mg:Str->Option Value) (fa:Addr) (h:Heap),(K w.params).In h->h.Ns mainGlobals mg->mg d.name=some (.ref fa) ->
     ∃fd:FuncData,(∀(s:Shared) (u:Value),BindsTo s fd ⟨[u],[]⟩ [(x,u)]) /\
       ∀base:Heap,(K w.params).In base->base.Ns mainGlobals mg->aI l.prog w (K w.params) mg base (CX w) k fa fd [x] (sp w))
   (hsp:∀(w:World) (H:Hp) (a:Addr) (ns:List Int),ns.length<=n->xp H->aA (K w.params) H a (ns.map V.int)->sp w [.ref a] H (fun v _=>v=.bl true) fun _ _ _=>False)
   (hCX:∀(w:World) (H:Hp) (s:Shared) (e:Value) (s':Shared),CX w [] H s (fun _ _ _=>False) e s'->False) :
   PySem.W.WalkO q loose XP YP l.row.toRowW d [] (fun f vs=>PySem.call f vs):=by
 refine C8.kO hn hdf fun w s₀ s₁ mg mb fa o pm cd doc a vs ns G Y ho hd hcd hmg x5 hints hlen hg=>?_
 have KX:=hY w _ Y
 obtain ⟨fd,hb,hF⟩:=F w mg fa _ KX G.T.g hmg
 exact rW KX G.T.g G.T.b G.T.builtins G.T.nolimit hg x5 hints (EX hlen hn2) hr hF hb (fun H hO hS=>hsp w H a ns hlen hO hS) fun H e s'=>hCX w H s₁ e s'
end L2

/- THE DB BY (shape; LID,My.* are yours):
  My.DV: a structure of the addresses that BQ layer names (classes,zQ); My.Txt K t: a structure (Prop) of the equations over K;
  My.txt_mk:{K} {implicit addresses ..} (e1:nsIn K mainGlobals "law"=some (some (.ref f))) (e2:K.lookup f=some ⟨oc,od,.func (fnOf "law" "law" params body scope dV kV doc pm an cdv ct),sl⟩) (e3:codeIn K cdv "law"=true) .. : ∃t,My.Txt K t

set_option maxRecDepth 100000 in
set_option maxHeartbeats 0 in
theorem PySem.Challenge.cw_LID_holds : PySem.Challenge.rw_LID.Holds := by
 w_on; o_law; k_head; (case hw=>w_witness2)
 k_fill
 refine L2.walk_of (l:=PySem.Challenge.rw_LID) (n:=63) (k:=40) (x:="script") (CX:=fun w=>..) (sp:=fun _=>My.sp_law) rfl (by decide) rfl ⟨rfl,by decide,by decide⟩ (fun w h Y=>PySem.W.kIn_of Y) ?F ?S ?C
 case F=>
   intro w mg fa h KX G hmg
   have T:∃t,My.Txt (L2.KOf KX) t:=by
     dsimp only [L2.KOf]                          -- K must stand as «<heap const> w.params» for k_is
     refine' My.txt_mk ?e1 ?e2 ?e3 ..
     (case e1=>PySem.W.k_is)                    -- in the order: a name -> its address -> its object -> its parts
     (case e2=>PySem.W.k_is)
     ..
   obtain ⟨t,T⟩:=T
   have e0:=hmg.symm.trans (Gw KX G T.law)
   cases e0                                       -- fa is the law's own address
   exact ⟨_,fun s u=>.of_eq rfl,fun base kb nb=>My.law_fn T kb nb⟩     -- if «.of_eq rfl» comes too early: refine' ⟨_,?b,fun base kb nb=>My.law_fn T kb nb⟩; exact fun s u=>.of_eq rfl
 case S=>exact fun w H a ns hl hO hS=>..
 case C=>exact ..
(the tactic k_is has no namespace: write k_is) -/

/-! SHORT WORDS over the layer: a def of the text,its body,what a loop and a test want. -/
namespace L2
open PySem PySem.Spec PyProof.Rows

/-! ### the text by places -/
def bR (s:Stmt):Arguments:=match s with
 | .FunctionDef _ a _ _ _ _ _ _ _ _=>a
 | _=>{ posonlyargs:=[],args:=[],vararg:=none,kwonlyargs:=[],kw_defaults:=[],kwarg:=none,defaults:=[] }
def bJ (s:Stmt):List Stmt:=match s with
 | .FunctionDef _ _ b _ _ _ _ _ _ _=>b
 | _=>[]
def af (s:Stmt):Scope:=match s with
 | .FunctionDef _ _ _ _ _ _ sc _ _ _=>sc
 | _=>{ kind:=.function,names:=[],isGenerator:=false,isCoroutine:=false }

/-! ### no exception leaves a def -/
abbrev CX0:CXT:=fun _ _ _ _ _ _=>False
abbrev E0:XK:=fun _ _ _=>False
theorem A6 {X:Cx}:Passes CX0 X E0:=fun _ _ _ _ _ _ _ h=>h.elim

/-! ### a def (or method) of the text as it stands behind the top -/
structure bQ (K:D9)(x qual:Str)(st:Stmt)(f:Addr)(fd:FuncData):Prop where
 ex:∃(oc:Value) (od:Option Addr) (kV doc pm:Value) (an:Option Addr) (cdv ct:Value) (osl:Array (Option Value)),
   fd=Fd x qual (bR st) (bJ st) (af st) .none kV doc pm an cdv ct/\K.lookup f=some ⟨oc,od,.func fd,osl⟩ /\ Gn K cdv qual=true
 kp:F1 K (.ref f)=true
section
variable {P:Program}{w:World}{K:D9}{mg:Str->Option Value}{base:Heap}
/-- THE RULE for a def: its body as a term of rules,and the reading of that term -/
theorem bQ.ok {x qual:Str}{st:Stmt}{f:Addr}{fd:FuncData}{N ps:List Str}{k:Nat}{sp:Sp}(F:bQ K x qual st f fd)(S:az N ps (af st))(len:∀vs H Q E,sp vs H Q E->vs.length=ps.length)
   (hbody:∀(cdv:Value) (A:Around) (outer:List Env) (s:Shared) (H:Hp) (vs:List V) (Q:VK) (E:XK),cG k (A.deeper (envOfC qual (af st) s.heap.objs.size f cdv))->sp vs H Q E ->
     ∃t,mv (pq CX0 P w K mg base N qual (af st) f cdv A outer s H E).nox (bJ st) t/\t { nx:=fun _ H'=>Q .aU H',rt:=Q } (start N vs) H):aI P w K mg base CX0 (k + 1) f fd ps sp:=by
 obtain ⟨oc,od,kV,doc,pm,an,cdv,ct,osl,rfl,lk,hcd⟩:=F.ex
 refine Am lk hcd S len fun A outer s H vs Q E hr hsp=>?_
 obtain ⟨t,h,q⟩:=hbody cdv A outer s H vs Q E hr hsp
 exact ⟨t,h.nox,q⟩
/-- how its arguments bind (no defaults): h is «fun _ _ _ _ _ _ us hl=>match us,hl with | [_,_],_=>rfl»,one _ a parameter -/
theorem bQ.binds {x qual:Str}{st:Stmt}{f:Addr}{fd:FuncData}{ps:List Str}(F:bQ K x qual st f fd)
   (h:∀(kV doc pm:Value) (an:Option Addr) (cdv ct:Value) (us:List Value),us.length=ps.length->bindArgs (Fd x qual (bR st) (bJ st) (af st) .none kV doc pm an cdv ct) ⟨us,[]⟩ = pure (ps.zip us)):Binds K fd ps []:=by
 obtain ⟨oc,od,kV,doc,pm,an,cdv,ct,osl,rfl,lk,hcd⟩:=F.ex
 exact .all (h kV doc pm an cdv ct)
theorem xG {x qual:Str}{st:Stmt}{f:Addr}{oc:Value}{od an:Option Addr}{osl:Array (Option Value)}{kV doc pm cdv ct:Value}(l:K.lookup f=some ⟨oc,od,.func (Fd x qual (bR st) (bJ st) (af st) .none kV doc pm an cdv ct),osl⟩)
   (c:Gn K cdv qual=true) (k:F1 K (.ref f)=true):bQ K x qual st f (Fd x qual (bR st) (bJ st) (af st) .none kV doc pm an cdv ct):=⟨⟨oc,od,kV,doc,pm,an,cdv,ct,osl,rfl,l,c⟩,k⟩
end
theorem ax {n:Nat}(h:n<=1000):n < sizeLine:=Nat.lt_of_le_of_lt h (by decide)

/-! ### expressions in short: the name that stands in the i-th slot -/

/-! ### tests -/
theorem bh {A B:Prop}(h:B):if false=true then A else B:=by
 rw [if_neg Ej]
 exact h
theorem bG {A B:Prop}(h:A):if true=true then A else B:=by
 rw [if_pos rfl]
 exact h
theorem bq {c A B:Prop}[Decidable c](h1:c->A)(h2:¬ c->B):if c then A else B:=by
 by_cases h:c
 · rw [if_pos h]
   exact h1 h
 · rw [if_neg h]
   exact h2 h
/-! ### heaps -/
/-- all that was tracked is as it was -/
def ah (H H':Hp):Prop:=∀b o,H b=some o->H' b=some o
end L2
set_option Elab.async false
set_option linter.all false
set_option maxRecDepth 100000
namespace L2
open PySem PySem.Spec PyProof.Rows

/-! ### lists of pairs as tables -/
section
variable {κ:Type}[DecidableEq κ]
def a9 (kvs:List (κ×V))(k:κ):Option V:=(kvs.find? fun kv=>decide (kv.1=k)).map (·.2)
/-- in its place,or at the end -/
def putK (kvs:List (κ×V))(k:κ)(v:V):List (κ×V):=
 if (kvs.any fun kv=>decide (kv.1=k))=true then kvs.map (fun kv=>if kv.1=k then (kv.1,v) else kv) else kvs++[(k,v)]
theorem bB {p:κ×V}{r:List (κ×V)}{k:κ}(e:p.1=k):a9 (p :: r) k=some p.2:=by simp [a9,FL,e]
theorem bA {p:κ×V}{r:List (κ×V)}{k:κ}(e:¬ p.1=k):a9 (p :: r) k=a9 r k:=by simp [a9,FL,e]
theorem cm (k:κ):∀kvs:List (κ×V),(kvs.any fun kv=>decide (kv.1=k))=(a9 kvs k).isSome
 | []=>rfl
 | p :: r=>by
   rw [FE]
   by_cases e:p.1=k
   · simp only [bB e,decide_eq_true e,Bool.true_or,Option.isSome_some]
   · rw [bA e,decide_eq_false e,Bool.false_or]; exact cm k r
theorem mf (k j:κ)(y:V):∀kvs:List (κ×V),a9 (kvs.map fun kv=>if kv.1=k then (kv.1,y) else kv) j=(a9 kvs j).map fun x=>if j=k then y else x
 | []=>rfl
 | p :: r=>by
   have ih:=mf k j y r
   rw [EJ]
   by_cases h:p.1=k
   · rw [if_pos h]
     by_cases e:p.1=j
     · rw [bB (p:=(p.1,y)) e,bB e,EZ,if_pos (e.symm.trans h)]
     · rw [bA (p:=(p.1,y)) e,bA e,ih]
   · rw [if_neg h]
     by_cases e:p.1=j
     · rw [bB (p:=p) e,bB e,EZ,if_neg (fun z=>h (e.trans z))]
     · rw [bA (p:=p) e,bA e,ih]
theorem jF (k j:κ)(y:V):∀kvs:List (κ×V),a9 kvs k=none->a9 (kvs++[(k,y)]) j=if j=k then some y else a9 kvs j
 | [],_=>by
   by_cases e:k=j
   · rw [if_pos e.symm]; exact bB (p:=(k,y)) e
   · rw [if_neg (fun z=>e z.symm)]; exact bA (p:=(k,y)) e
 | p :: r,hn=>by
   rw [List.cons_append]
   have hk:¬ p.1=k:=fun z=>by rw [bB z] at hn; cases hn
   rw [bA hk] at hn
   have ih:=jF k j y r hn
   by_cases e:p.1=j
   · rw [bB e,bB e,if_neg (fun z=>hk (e.trans z))]
   · rw [bA e,bA e,ih]
theorem cp (kvs:List (κ×V))(k j:κ)(y:V):a9 (putK kvs k y) j=if j=k then some y else a9 kvs j:=by
 unfold putK
 by_cases a:(kvs.any fun kv=>decide (kv.1=k))=true
 · rw [if_pos a,mf]
   rw [cm] at a
   by_cases e:j=k
   · obtain ⟨x,hx⟩:=Option.isSome_iff_exists.mp a
     rw [if_pos e,e,hx,EZ,if_pos rfl]
   · rw [if_neg e]
     cases a9 kvs j with
     | none=>rfl
     | some x=>rw [EZ,if_neg e]
 · rw [if_neg a]
   refine jF k j y kvs ?_
   rw [cm] at a
   cases q:a9 kvs k with
   | none=>rfl
   | some x=>rw [q] at a; exact (a rfl).elim
theorem bb (kvs:List (κ×V))(k:κ)(v:V):(putK kvs k v).length<=kvs.length + 1:=by
 unfold putK
 split
 · rw [Ea]; omega
 · rw [Eh,EO,List.length_nil]; omega
theorem lN {kvs:List (κ×V)}{k:κ}(v:V)(h:a9 kvs k=none):putK kvs k v=kvs++[(k,v)]:=by
 unfold putK
 rw [cm,h]
 exact if_neg (by decide)

theorem ff.isSome_eq {o:Option V}{u:Option Value}(r:ff o u):o.isSome=u.isSome:=by
 cases o with
 | none=>cases u with
   | none=>rfl
   | some _=>exact (show False from r).elim
 | some _=>cases u with
   | none=>exact (show False from r).elim
   | some _=>rfl
theorem ff.getD {o:Option V}{u:Option Value}{d:V}{d':Value}(r:ff o u)(rd:RelV d d'):RelV (o.getD d) (u.getD d'):=by
 cases o with
 | none=>cases u with
   | none=>exact rd
   | some _=>exact (show False from r).elim
 | some _=>cases u with
   | none=>exact (show False from r).elim
   | some _=>exact r

/-- raw tables of the same keys -/
theorem KV.val {kvs:List (κ×V)}{vs:List (κ×Value)}(r:KV kvs vs)(k:κ):ff (a9 kvs k) (valueAt vs k):=by
 unfold KV at r
 induction r with
 | nil=>exact EG
 | @cons p q ps qs h t ih=>
   obtain ⟨h1,h2⟩:=h
   by_cases e:p.1=k
   · have e':q.1=k:=h1.symm.trans e
     have b:valueAt (q :: qs) k=some q.2:=by simp [valueAt,FL,e']
     rw [bB e,b]; exact h2
   · have e':¬ q.1=k:=fun z=>e (h1.trans z)
     have b:valueAt (q :: qs) k=valueAt qs k:=by simp [valueAt,FL,e']
     rw [bA e,b]; exact ih
theorem KV.any {kvs:List (κ×V)}{vs:List (κ×Value)}(r:KV kvs vs)(k:κ):(kvs.any fun kv=>decide (kv.1=k))=vs.any fun kv=>decide (kv.1=k):=by
 unfold KV at r
 induction r with
 | nil=>rfl
 | cons h t ih=>rw [FE,FE,ih,h.1]
theorem KV.repl {kvs:List (κ×V)}{vs:List (κ×Value)}(r:KV kvs vs)(k:κ){y:V}{u:Value}(ry:RelV y u) :
   KV (kvs.map fun kv=>if kv.1=k then (kv.1,y) else kv) (vs.map fun kv=>if kv.1=k then (kv.1,u) else kv):=by
 unfold KV at r ⊢
 induction r with
 | nil=>exact .nil
 | @cons p q ps qs h t ih=>
   rw [EJ,EJ]
   refine .cons ?_ ih
   obtain ⟨h1,h2⟩:=h
   by_cases e:p.1=k
   · rw [if_pos e,if_pos (h1.symm.trans e)]; exact ⟨h1,ry⟩
   · rw [if_neg e,if_neg (fun z=>e (h1.trans z))]; exact ⟨h1,h2⟩
theorem KV.put {kvs:List (κ×V)}{vs:List (κ×Value)}(r:KV kvs vs)(k:κ){y:V}{u:Value}(ry:RelV y u):KV (putK kvs k y) (stored vs k u):=by
 unfold putK stored
 rw [r.any k]
 by_cases e:(vs.any fun kv=>decide (kv.1=k))=true
 · rw [if_pos e,if_pos e]; exact r.repl k ry
 · rw [if_neg e,if_neg e]; exact Paired.snoc r ⟨rfl,ry⟩
theorem KV.length {kvs:List (κ×V)}{vs:List (κ×Value)}(r:KV kvs vs):kvs.length=vs.length:=Paired.length r
end


/-! ### a tracked dict,its keys ints and texts or tuples of these -/
theorem lr {P:Program}{w:World}{k:Key}{u:Value}(r:RelV (kV k) u):(aN P w).is k u=true:=by
 cases k with
 | inl i=>obtain ⟨t,e⟩:=(show ∃t,u=GG i t from r); subst e; exact lE P w i t
 | inr x=>obtain ⟨t,e⟩:=(show ∃t,u=GZ x t from r); subst e; exact lF P w x t
theorem jt {P:Program}{w:World}:∀{ks:List Key} {us:List Value},Vals (ks.map kV) us->ItemsAre (aN P w) ks us
 | [],_,r=>by rw [List.map_nil] at r; cases r; exact .nil
 | k :: ks,_,r=>by
   rw [EJ] at r
   cases r with
   | cons h t=>exact .cons (lr h) (jt t)

/-- raw entries of a dict with tuple keys -/
abbrev KT (H:Hp):List (List Key×V)->List (List Key×Addr×Value)->Prop:=Paired fun p q=>p.1=q.1/\H q.2.1=some (.tup (p.1.map kV))/\RelV p.2 q.2.2
theorem KT.val {H:Hp}{kvs:List (List Key×V)}{xs:List (List Key×Addr×Value)}(r:KT H kvs xs)(k:List Key):ff (a9 kvs k) ((atKey xs k).map (·.2)):=by
 induction r with
 | nil=>exact EG
 | @cons p q ps qs h t ih=>
   obtain ⟨h1,_,h2⟩:=h
   by_cases e:p.1=k
   · have e':q.1=k:=h1.symm.trans e
     have b:atKey (q :: qs) k=some q.2:=by simp [atKey,FL,e']
     rw [bB e,b]; exact h2
   · have e':¬ q.1=k:=fun z=>e (h1.trans z)
     have b:atKey (q :: qs) k=atKey qs k:=by simp [atKey,FL,e']
     rw [bA e,b]; exact ih
theorem KT.repl {H:Hp}{kvs:List (List Key×V)}{xs:List (List Key×Addr×Value)}(r:KT H kvs xs)(k:List Key){y:V}{u:Value}(ry:RelV y u) :
   KT H (kvs.map fun kv=>if kv.1=k then (kv.1,y) else kv) (xs.map (putAt k u)):=by
 induction r with
 | nil=>exact .nil
 | @cons p q ps qs h t ih=>
   rw [EJ,EJ]
   refine .cons ?_ ih
   obtain ⟨h1,h2,h3⟩:=h
   unfold putAt
   by_cases e:p.1=k
   · rw [if_pos e,if_pos (h1.symm.trans e)]; exact ⟨h1,h2,ry⟩
   · rw [if_neg e,if_neg (fun z=>e (h1.trans z))]; exact ⟨h1,h2,h3⟩
theorem KT.put {H:Hp}{kvs:List (List Key×V)}{xs:List (List Key×Addr×Value)}(r:KT H kvs xs)(k:List Key){b:Addr}{y:V}{u:Value}(hb:H b=some (.tup (k.map kV)))(ry:RelV y u) :
   KT H (putK kvs k y) (storedH xs k b u):=by
 have e:(kvs.any fun kv=>decide (kv.1=k))=(atKey xs k).isSome:=by
   rw [cm,(r.val k).isSome_eq,Option.isSome_map]
 unfold putK storedH
 rw [e]
 by_cases q:(atKey xs k).isSome=true
 · rw [if_pos q,if_pos q]; exact r.repl k ry
 · rw [if_neg q,if_neg q]; exact Paired.snoc r ⟨rfl,hb,ry⟩
theorem KT.keeps {H H':Hp}{kvs:List (List Key×V)}{xs:List (List Key×Addr×Value)}(r:KT H kvs xs)(ht:∀b ys,H b=some (.tup ys)->H' b=some (.tup ys)):KT H' kvs xs:=
 Paired.mapP r fun _ _ z=>⟨z.1,ht _ _ z.2.1,z.2.2⟩

section
variable {P:Program}{w:World}{H:Hp}{h:Heap}{a:Addr}
theorem wY {u:HO}(ok:ei P w H h)(e:Rd H a u):aQ P w H h a u:=e.ok ok
theorem kW {kvs:List (Key×V)}(ok:ei P w H h)(e:Rd H a (.dK kvs)):kvs.length<=sizeLine/\(a == sysModules)=false/\∃vs,KV kvs vs/\h.DictOf (aN P w) a vs:=
 show aQ P w H h a (.dK kvs) from wY ok e
theorem wF {kvs:List (Key×V)}(ok:ei P w H h)(e:H a=some (.dK kvs)):kvs.length<=sizeLine/\(a == sysModules)=false/\∃vs,KV kvs vs/\h.DictOf (aN P w) a vs:=kW ok (.inl e)
/-- a tracked tuple of ints and texts is a key -/
theorem fH {ks:List Key}(ok:ei P w H h)(e:H a=some (.tup (ks.map kV))):(tupleKind (aN P w)).is h ks a:=by
 obtain ⟨_,its,r,o,h1,h2,n,h3⟩:=(show aQ P w H h a (.tup (ks.map kV)) from ok a _ e)
 exact ⟨o,its.toArray,n,h1,h2,h3,by simpa using jt r⟩
theorem kZ {kvs:List (List Key×V)}(ok:ei P w H h)(e:Rd H a (.dT kvs)):kvs.length<=sizeLine/\(a == sysModules)=false /\
   ∃xs,KT H kvs xs/\h.DictOfH (tupleKind (aN P w)) a xs:=by
 obtain ⟨z,y,xs,r,o,es,ep,h1,h2,h3,h4,h5⟩:=(show aQ P w H h a (.dT kvs) from wY ok e)
 refine ⟨z,y,xs,r,o,es,ep,h1,h2,h3,h4,fun x hx=>?_,h5⟩
 have all:∀{l:List (List Key×V)} {m:List (List Key×Addr×Value)},KT H l m->∀x∈m,(tupleKind (aN P w)).is h x.1 x.2.1:=by
   intro l m q
   induction q with
   | nil=>intro x hx; exact nomatch hx
   | @cons p q ps qs hq t ih=>
     intro x hx
     rcases List.mem_cons.mp hx with e | hx
     · subst e
       exact fH ok (by rw [← hq.1]; exact hq.2.1)
     · exact ih x hx
 exact all r x hx
theorem kY {kvs:List (List Key×V)}(ok:ei P w H h)(e:H a=some (.dT kvs)):kvs.length<=sizeLine/\(a == sysModules)=false /\
   ∃xs,KT H kvs xs/\h.DictOfH (tupleKind (aN P w)) a xs:=kZ ok (.inl e)
end

/-- what the dict at a holds at the key y -/
def d5 (H:Hp)(a:Addr)(y:V)(r:Option V):Prop:=
 (∃kvs k,Rd H a (.dK kvs)/\y=kV k/\r=a9 kvs k)\/∃kvs k b,Rd H a (.dT kvs)/\y=.ref b/\H b=some (.tup (k.map kV))/\r=a9 kvs k
/-- the heap behind a[y]=v -/
def iS (H:Hp)(a:Addr)(y v:V)(H':Hp):Prop:=
 (∃kvs k,H a=some (.dK kvs)/\y=kV k/\kvs.length < sizeLine/\H'=upd H a (.dK (putK kvs k v))) \/
 ∃kvs k b,H a=some (.dT kvs)/\y=.ref b/\H b=some (.tup (k.map kV))/\kvs.length < sizeLine/\H'=upd H a (.dT (putK kvs k v))
theorem d5.k {H:Hp}{a:Addr}{kvs:List (Key×V)}{k:Key}(e:H a=some (.dK kvs)):d5 H a (kV k) (a9 kvs k):=.inl ⟨kvs,k,.inl e,rfl,rfl⟩
theorem d5.t {H:Hp}{a b:Addr}{kvs:List (List Key×V)}{k:List Key}(e:H a=some (.dT kvs))(eb:H b=some (.tup (k.map kV))):d5 H a (.ref b) (a9 kvs k):=.inr ⟨kvs,k,b,.inl e,rfl,eb,rfl⟩
theorem iS.k {H:Hp}{a:Addr}{kvs:List (Key×V)}{k:Key}{v:V}(e:H a=some (.dK kvs))(hl:kvs.length < sizeLine):iS H a (kV k) v (upd H a (.dK (putK kvs k v))):=.inl ⟨kvs,k,e,rfl,hl,rfl⟩
theorem iS.t {H:Hp}{a b:Addr}{kvs:List (List Key×V)}{k:List Key}{v:V}(e:H a=some (.dT kvs))(eb:H b=some (.tup (k.map kV)))(hl:kvs.length < sizeLine) :
   iS H a (.ref b) v (upd H a (.dT (putK kvs k v))):=.inr ⟨kvs,k,b,e,rfl,eb,hl,rfl⟩


section
variable {X:Cx}{pins:List (Addr×Obj)}{σ:St}{H:Hp}{s:Shared}{a:Addr}{y v:V}{u r:Value}{o:Option V}{A:Around}{E:Value->Shared->Prop}

theorem Inv.big (I:Inv X pins σ H s):sysModules < s.heap.objs.size:=by
 have h:mainGlobals < s.heap.objs.size:=(I.mod.glob.keeps I.bk).lt
 exact Nat.lt_trans (by decide) h

/-- d[y],there -/
theorem pA {Q:Value->Shared->Prop}(hu:A.units + 1 < cLine)(I:Inv X pins σ H s)(g:d5 H a y (some v))(ry:RelV y u)(h:∀w' s',Inv X pins σ H s'->RelV v w'->Q w' s') :
   wpAny (model X.prog X.w) A (getItem (.ref a) u) Q E s:=by
 rcases g with ⟨kvs,k,e,ey,l⟩ | ⟨kvs,k,b,e,ey,eb,l⟩
 · subst ey
   obtain ⟨z,hd,vs,rel,dd⟩:=kW I.hok e
   obtain ⟨w',hw,rw'⟩:=ff.some_of (v:=v) (o:=valueAt vs k) (by rw [l]; exact rel.val k)
   exact wpAny_getItem_of (lr ry) dd.mapOf hw (h w' _ (I.tok _) rw')
 · subst ey
   cases (show u=Ep b from ry)
   obtain ⟨z,hd,xs,rel,dd⟩:=kZ I.hok e
   obtain ⟨w',hw,rw'⟩:=ff.some_of (v:=v) (o:=(atKey xs k).map (·.2)) (by rw [l]; exact rel.val k)
   obtain ⟨p,hp,hp2⟩:=Option.map_eq_some_iff.mp hw
   refine wpAny_getItem_heap (tupleKind_room_in1 hu) (fH I.hok eb) dd hp ?_
   rw [hp2]
   exact h w' _ (I.tok _) rw'
/-- a dict's object is replaced -/
theorem dJ {h':Heap}{t':Nat}{ob:HO}(I:Inv X pins σ H s)(mu:z5 (H a))(hs:E8 a s.heap h')(he:∃q,h'.get? a=some q)(new:aQ X.prog X.w (upd H a ob) h' a ob) :
   Inv X pins σ (upd H a ob) { s with heap:=h',toks:=t' }:=
 I.write (x:=a) (e:=a) mu (.inl rfl) (fun b q hb z=>(hs.2 b hb).trans z) he new
theorem rf {P:Program}{w:World}{H':Hp}{h':Heap}{kvs:List (Key×V)}{vs:List (Key×Value)}(z:kvs.length<=sizeLine)(hd:(a == sysModules)=false)(rel:KV kvs vs)(dd:h'.DictOf (aN P w) a vs) :
   aQ P w H' h' a (.dK kvs):=⟨z,hd,vs,rel,dd⟩
/-- d[y]=v -/
theorem pC {H':Hp}{Q:Unit->Shared->Prop}(hu:A.units + 1 < cLine)(I:Inv X pins σ H s)(g:iS H a y v H')(ry:RelV y u)(rv:RelV v r)(h:∀s',Inv X pins σ H' s'->Q () s') :
   wpAny (model X.prog X.w) A (setItem (.ref a) u r) Q E s:=by
 rcases g with ⟨kvs,k,e,ey,l,eH⟩ | ⟨kvs,k,b,e,ey,eb,l,eH⟩
 · subst ey eH
   obtain ⟨z,hd,vs,rel,dd⟩:=wF I.hok e
   have hz:vs.length<=sizeLine:=by rw [← rel.length]; exact z
   have hl:(putK kvs k v).length<=sizeLine:=by have:=bb kvs k v; omega
   refine wpAny_setItem_pairs (hsz:=hz) (lr ry) dd fun h' dd' hs=>h _ ?_
   have he:∃q,h'.get? a=some q:=let ⟨q,_,_,hq,_⟩:=dd'; ⟨q,hq⟩
   exact dJ I (by rw [e]; exact EG) hs he (rf hl hd (rel.put k rv) dd')
 · subst ey eH
   cases (show u=Ep b from ry)
   obtain ⟨z,hd,xs,rel,dd⟩:=kY I.hok e
   have hz:xs.length<=sizeLine:=by rw [← Paired.length rel]; exact z
   have hl:(putK kvs k v).length<=sizeLine:=by have:=bb kvs k v; omega
   refine wpAny_setItem_heap (hsz:=hz) (tupleKind_room_in1 hu) (fH I.hok eb) dd fun h' dd' hs=>h _ ?_
   obtain ⟨q,es,ep,hq,h2,h3,h4,_,h5⟩:=dd'
   refine dJ I (by rw [e]; exact EG) hs ⟨q,hq⟩ ⟨hl,hd,_,(rel.put k eb rv).keeps fun c ys ec=>?_,q,es,ep,hq,h2,h3,h4,h5⟩
   rw [aB (cC ec e (fun z=>nomatch z))]
   exact ec
end



/-! ### readings and rules -/
/-- the element of a subscription,not a slice -/
def xk (i:Expr):Prop:=∀ov iv,subscripted i false ov iv=operate [ov,iv] (getItem ov iv)
theorem wq {prog:Program}{w:World}{A:Around}{E:Value->Shared->Prop}{s:Shared}{env:Env}{value slice:Expr}{pos:Pos}{T id:String}{Q:Value->Shared->Prop}
   (hl:typeLookup (.type T) "__getitem__"=pure (some (.builtin id))) (hs:xk slice)
   (h:wpAny (model prog w) A (eval value env) (fun o s₁=>wpAny (model prog w) A (eval slice env) (fun i s₂=>s₂.TypeIs o T/\wpAny (model prog w) A (getItem o i) Q E s₂) E s₁) E s) :
   wpAny (model prog w) A (eval (.Subscript value slice pos) env) Q E s:=by
 refine Subscript_ (wpAny_mono h (fun o s₁ h₁=>wpAny_mono h₁ (fun i s₂ h₂=>?_) fun _ _ x=>x) fun _ _ x=>x)
 obtain ⟨hT,h₂⟩:=h₂
 unfold subscriptTail
 refine wpAny_bind ?_
 rw [getitemInPython_of_ne hT.not_modules]
 refine wpAny_bind (wpAny_specialOf hT hl ?_)
 have fin:wpAny (model prog w) A (subscripted slice false o i) (fun r s₃=>wpAny (model prog w) A (letTemporaryGo value o r >>= fun _=>pure r) Q E s₃) E s₂:=by
   rw [hs o i]
   exact wpAny_operating (wpAny_mono h₂ (fun r s₃ h₃=>wpAny_bind (wpAny_letTemporaryGo (wpAny_pure h₃))) fun _ _ x=>x)
 first
   | exact wpAny_pure (wpAny_bind fin)
   | exact wpAny_bind (wpAny_pure (wpAny_bind fin))
   | exact wpAny_bind fin

theorem kU {X:Cx}{pins:List (Addr×Obj)}{σ:St}{H:Hp}{s:Shared}{a:Addr}{y:V}{o:Option V}(I:Inv X pins σ H s)(g:d5 H a y o):s.TypeIs (.ref a) "dict":=by
 rcases g with ⟨kvs,k,e,_,_⟩ | ⟨kvs,k,b,e,_,_,_⟩
 · obtain ⟨_,_,vs,_,dd⟩:=kW I.hok e
   exact dd.typeIs
 · obtain ⟨_,_,xs,_,dd⟩:=kZ I.hok e
   exact dd.typeIs
/-- d[y] -/
def xa (td ty:TE):TE:=fun σ H Q=>td σ H fun x H1=>ty σ H1 fun y H2=>∃a v,x=.ref a/\d5 H2 a y (some v)/\Q v H2
/-- d[y]=v -/
def wZ (td ty tv:TE):TS:=fun D σ H=>tv σ H fun v H1=>td σ H1 fun x H2=>ty σ H2 fun y H3=>∃a H4,x=.ref a/\iS H3 a y v H4/\D.nx σ H4
section
variable {X:Cx}{o i e value:Expr}{pos pos' tpos:Pos}{td ty tv:TE}
theorem vL (hu:X.A.units + 1 < cLine)(ho:PE X o td)(hi:PE X i ty)(hs:xk i):PE X (.Subscript o i pos) (xa td ty):=by
 intro pins s σ H Q I h
 refine wq PySem.F.slot_dict_getitem.lookup hs (a7 (ho pins s σ H _ I h) fun u s1 ⟨x,H1,I1,rx,q1⟩=>a7 (hi pins s1 σ H1 _ I1 q1) fun iv s2 ⟨y,H2,I2,ry,a,v,ex,g,q2⟩=>?_)
 subst ex
 obtain rfl:u=Ep a:=rx
 exact ⟨kU I2 g,pA hu I2 g ry fun w' s3 I3 rw'=>⟨v,H2,I3,rw',q2⟩⟩
theorem vU (hu:X.A.units + 1 < cLine)(ho:PE X o td)(hi:PE X i ty)(hv:PE X value tv)(hs:swapsWith value (some (.Subscript o i pos')) pos.line X.env=pure false) :
   PS X (.Assign [.Subscript o i pos'] value pos) (wZ td ty tv):=by
 intro pins s σ H D I h
 refine wpAny_Assign_Subscript (a7 (hv pins s σ H _ I h) fun r s1 ⟨v,H1,I1,rv,q1⟩=>a7 (ho pins s1 σ H1 _ I1 q1) fun u s2 ⟨x,H2,I2,rx,q2⟩=>a7 (hi pins s2 σ H2 _ I2 q2) fun iv s3 ⟨y,H3,I3,ry,a,H4,ex,g,q3⟩=>?_) hs
 subst ex
 obtain rfl:u=Ep a:=rx
 exact pC hu I3 g ry rv fun s4 I4=>⟨σ,H4,I4,q3⟩
end


/-! ### displays -/
theorem q8 {P:Program}{w:World}{H:Hp}(h:Heap)(hb:sysModules < h.objs.size):aQ P w H (h.push { cls:=.type "dict",data:=.dict #[] }) h.objs.size (.dK []):=
 ⟨EC _,beq_eq_false_iff_ne.mpr (Ne.symm (Ex hb)),[],.nil,HP h⟩
theorem kX {P:Program}{w:World}{H:Hp}(h:Heap)(hb:sysModules < h.objs.size):aQ P w H (h.push { cls:=.type "dict",data:=.dict #[] }) h.objs.size (.dT []):=
 ⟨EC _,beq_eq_false_iff_ne.mpr (Ne.symm (Ex hb)),[],.nil,_,#[],0,El _ rfl,⟨rfl,rfl,rfl⟩,rfl,rfl,Gy⟩
def uc:TE:=fun _ H Q=>∀p,H p=none->Q (.ref p) (upd H p (.dT []))
section
variable {X:Cx}{pos:Pos}
theorem sS:PE X (.Dict [] [] pos) uc:=fun pins s σ H Q I h=>
 wpAny_Dict_empty ⟨.ref s.heap.objs.size,_,I.laid (a:=s.heap.objs.size) (o:=.dT []) (t':=s.toks) (fun _ _ q=>Ec _ q) (Ee _) (kX s.heap I.big),rfl,h _ (I.hok.fresh (Ee _))⟩
end

/-! ### methods -/
/-- a method call o.m(e) of a built-in,with one argument: what must be seen of the text -/
structure M1 (X:Cx)(o:Expr)(m:Str)(apos:Pos)(e:Expr)(cpos:Pos):Prop where
 base:attributeBase o m X.env (eval o X.env)=eval o X.env
 few:((backTo cpos (starEach [e] X.env)).all (fun x=>!x.1) && (backToKw cpos (keywordEach [] X.env)).all (fun x=>x.1.isSome)
   && decide (([e]:List Expr).length + ([]:List Keyword).length + (if ([]:List Keyword).isEmpty then 0 else 1) < 30))=true
 line:(apos.endLine == cpos.line)=true
 trees:backTo cpos (starEach [e] X.env)=[(false,eval e X.env)]
structure M2 (X:Cx)(o:Expr)(m:Str)(apos:Pos)(e f:Expr)(cpos:Pos):Prop where
 base:attributeBase o m X.env (eval o X.env)=eval o X.env
 few:((backTo cpos (starEach [e,f] X.env)).all (fun x=>!x.1) && (backToKw cpos (keywordEach [] X.env)).all (fun x=>x.1.isSome)
   && decide (([e,f]:List Expr).length + ([]:List Keyword).length + (if ([]:List Keyword).isEmpty then 0 else 1) < 30))=true
 line:(apos.endLine == cpos.line)=true
 trees:backTo cpos (starEach [e,f] X.env)=[(false,eval e X.env),(false,eval f X.env)]

/-- a is a dict,whatever its keys -/
def Ci (H:Hp)(a:Addr):Prop:=(∃kvs,Rd H a (.dK kvs))\/∃kvs,Rd H a (.dT kvs)
theorem rV {X:Cx}{pins:List (Addr×Obj)}{σ:St}{H:Hp}{s:Shared}{a:Addr}(I:Inv X pins σ H s)(d:Ci H a) :
   s.TypeIs (.ref a) "dict"/\(∀b,Ep a=.ref b->∃ob,s.heap.get? b=some ob/\ob.dict=none)/\(a == sysModules)=false:=by
 rcases d with ⟨kvs,e⟩ | ⟨kvs,e⟩
 · obtain ⟨_,hd,vs,_,dd⟩:=kW I.hok e
   refine ⟨dd.typeIs,fun b q=>?_,hd⟩
   cases q
   obtain ⟨ob,_,_,h1,h2,_⟩:=dd
   exact ⟨ob,h1,h2.2.1⟩
 · obtain ⟨_,hd,xs,_,dd⟩:=kZ I.hok e
   refine ⟨dd.typeIs,fun b q=>?_,hd⟩
   cases q
   obtain ⟨ob,_,_,h1,h2,_⟩:=dd
   exact ⟨ob,h1,h2.2.1⟩

section
variable {X:Cx}{pins:List (Addr×Obj)}{σ:St}{H:Hp}{s:Shared}{a:Addr}{y d:V}{u r:Value}{o:Option V}{A:Around}{E:Value->Shared->Prop}
/-- d.get(y,x) -/
theorem xC {Q:Value->Shared->Prop}(hu:A.units + 1 < cLine)(I:Inv X pins σ H s)(g:d5 H a y o)(ry:RelV y u)(rd:RelV d r)(h:∀w' s',Inv X pins σ H s'->RelV (o.getD d) w'->Q w' s') :
   wpAny (model X.prog X.w) A (call (.builtin "dict.get") [.ref a,u,r]) Q E s:=by
 rcases g with ⟨kvs,k,e,ey,l⟩ | ⟨kvs,k,b,e,ey,eb,l⟩
 · subst ey
   obtain ⟨z,hd,vs,rel,dd⟩:=kW I.hok e
   refine call_meetsIn Gg dd.typeIs Hs (Hg _ _ _) (meets_dict_get_default (aN X.prog X.w) a (lr ry) hd r) ⟨_,dd.mapOf,h _ _ (I.tok _) ?_⟩
   rw [l]
   exact (rel.val k).getD rd
 · subst ey
   cases (show u=Ep b from ry)
   obtain ⟨z,hd,xs,rel,dd⟩:=kZ I.hok e
   refine call_meetsIn Gg dd.typeIs Hs (Hg _ _ _) (meetsH_dict_get_default (tupleKind (aN X.prog X.w)) a b hd r) ⟨tupleKind_room_in1 hu,k,xs,fH I.hok eb,dd,h _ _ (I.tok _) ?_⟩
   rw [l]
   exact (rel.val k).getD rd
end

def ua (td ty tx:TE):TE:=fun σ H Q=>td σ H fun x H1=>∃a,x=.ref a/\Ci H1 a/\ty σ H1 fun y H2=>tx σ H2 fun z H3=>∃o,d5 H3 a y o/\Q (o.getD z) H3
section
variable {X:Cx}{o e f:Expr}{apos cpos:Pos}{td ty tx:TE}
theorem sR (hu:X.A.units + 1 < cLine)(ho:PE X o td)(he:PE X e ty)(hf:PE X f tx)(m:M2 X o "get" apos e f cpos):PE X (.Call (.Attribute o "get" apos) [e,f] [] cpos) (ua td ty tx):=by
 intro pins s σ H Q I h
 refine wpAny_Call_method m.base m.few m.line G9 Gg PySem.F.type_dict_get (a7 (ho pins s σ H _ I h) fun u s1 ⟨x,H1,I1,rx,a,ex,d,q1⟩=>?_)
 subst ex
 obtain rfl:u=Ep a:=rx
 obtain ⟨t1,t2,_⟩:=rV I1 d
 refine ⟨t1,t2,?_⟩
 rw [m.trees]
 refine FN rfl (Gs (F3 (a7 (he pins s1 σ H1 _ I1 q1) fun iv s2 ⟨y,H2,I2,ry,q2⟩=>
   F3 (a7 (hf pins s2 σ H2 _ I2 q2) fun fv s3 ⟨z,H3,I3,rz,ov,g,q3⟩=>GL ?_))))
 exact xC hu I3 g ry rz fun w' s4 I4 rw'=>⟨_,H3,I4,rw',q3⟩
end

/-! ### dict(d): a copy -/


/-! ### a dict's pairs: keys that differ -/
section
variable {κ:Type}[DecidableEq κ]
theorem oQ {kvs:List (κ×V)}{k:κ}{v:V}(h:a9 kvs k=some v):k∈kvs.map (·.1):=by
 have q:(kvs.any fun kv=>decide (kv.1=k))=true:=by
   rw [cm,h]
   all_goals rfl
 obtain ⟨p,hp,e⟩:=List.any_eq_true.mp q
 exact List.mem_map.mpr ⟨p,hp,of_decide_eq_true e⟩
end
end L2
set_option Elab.async false
set_option linter.all false
set_option maxRecDepth 100000
namespace L2
open PySem PySem.Spec PyProof.Rows

/-! ### a comprehension's block: its context -/
def d7 (scope:Scope)(env:Env):List (Str×Addr):=
 (scope.names.filterMap fun (p:Str×NameKind)=>if p.2 == .free then (env.cells.lookup p.1).map fun c=>(p.1,c) else none).reverse
theorem gY (env:Env):∀(l:List (Str×NameKind)) (acc:List (Str×Addr)),(∀p∈l,p.2=.free->∃c,env.cells.lookup p.1=some c) ->
   (forIn l acc fun (x:Str×NameKind) (r:List (Str×Addr))=>if (x.2 == EA)=true then do let c ← cellOf env x.1; pure (E5 ((x.1,c) :: r)) else pure (E5 r):Sem (List (Str×Addr))) =
     pure ((l.filterMap fun (p:Str×NameKind)=>if p.2 == .free then (env.cells.lookup p.1).map fun c=>(p.1,c) else none).reverse++acc)
 | [],acc,_=>rfl
 | p :: l,acc,h=>by
   have ih:=fun acc=>gY env l acc fun q hq=>h q (Fn _ hq)
   rw [Gq]
   by_cases hp:p.2=.free
   · obtain ⟨c,hc⟩:=h p Fi hp
     have e:(p.2 == EA)=true:=by rw [hp]; rfl
     rw [if_pos e]
     have ec:cellOf env p.1=pure c:=by unfold cellOf; rw [hc]
     rw [ec,FJ,if_pos e,hc]
     show (forIn l ((p.1,c) :: acc) _:Sem _)=_
     rw [ih]
     simp
   · have e:¬ (p.2 == EA)=true:=by intro z; exact hp (by simpa using z)
     rw [if_neg e,FJ,if_neg e]
     show (forIn l acc _:Sem _)=_
     rw [ih]
theorem mB {scope:Scope}{env:Env}(h:∀p∈scope.names,p.2=.free->∃c,env.cells.lookup p.1=some c):closureFor scope env=pure (d7 scope env):=by
 have e:=gY env scope.names [] h
 rw [E7] at e
 show ((forIn scope.names [] fun (x:Str×NameKind) (r:List (Str×Addr))=>if (x.2 == EA)=true then do let c ← cellOf env x.1; pure (E5 ((x.1,c) :: r)) else pure (E5 r)) >>= fun cs=>pure cs:Sem (List (Str×Addr)))=_
 rw [e]
 rfl
theorem mz {scope:Scope}{env:Env}{x:Str}{c:Addr}(h:(x,c)∈d7 scope env):(x,EA)∈scope.names/\env.cells.lookup x=some c:=by
 unfold d7 at h
 obtain ⟨p,hp,e⟩:=List.mem_filterMap.mp (List.mem_reverse.mp h)
 obtain ⟨n,k⟩:=p
 dsimp only at e
 by_cases hk:(k == EA)=true
 · rw [if_pos hk] at e
   have hk':k=.free:=by simpa using hk
   subst hk'
   cases q:env.cells.lookup n with
   | none=>rw [q] at e; cases e
   | some c'=>rw [q] at e; cases e; exact ⟨hp,q⟩
 · rw [if_neg hk] at e; cases e
theorem jj {scope:Scope}{env:Env}{x:Str}{c:Addr}(hm:(x,EA)∈scope.names)(hc:env.cells.lookup x=some c):(d7 scope env).lookup x=some c:=by
 have hin:(x,c)∈d7 scope env:=by
   unfold d7
   refine List.mem_reverse.mpr (List.mem_filterMap.mpr ⟨(x,.free),hm,?_⟩)
   simp [hc]
 cases q:(d7 scope env).lookup x with
 | none=>
   have:=List.lookup_eq_none_iff.mp q (x,c) hin
   simp at this
 | some c'=>
   obtain ⟨_,e⟩:=mz (ER q)
   rw [hc] at e
   exact e.symm

/-- what of a comprehension's scope must be true (all of it by looking) -/
structure av (sc:Scope)(env:Scope):Prop where
 kind:sc.kind=.function
 cell:∀y∈sc.names,y.2≠.cell
 names:∀x∈sc.names,x.2=.local->sc.names.lookup x.1=some .local
 free:∀x∈sc.names,x.2=.free->env.names.lookup x.1=some .cell\/env.names.lookup x.1=some .free
/-- the names of the block: the own ones,then those that are read from around,by their slots there -/
def bP (sc:Scope)(src:List (Option Nat))(N' N:List Str):Bool:=
 src.length == N'.length && (src.zip N').all fun p=>match p.1 with
   | none=>true
   | some j=>N[j]? == some p.2 && sc.names.lookup p.2 == some .free
def capσ (src:List (Option Nat))(σ:St):St:=src.map fun o=>match o with
 | none=>none
 | some j=>match σ[j]? with
   | some v=>v
   | none=>none
theorem uz {sc:Scope}{N N':List Str}{src:List (Option Nat)}(h:bP sc src N' N=true){i:Nat}{x:Str}{j:Nat}(h1:src[i]? = some (some j))(h2:N'[i]? = some x):N[j]? = some x/\sc.names.lookup x=some .free:=by
 unfold bP at h
 have h':=(Fc _ _ ▸ h).2
 have hz:(src.zip N')[i]? = some (some j,x):=by rw [List.getElem?_zip_eq_some]; exact ⟨h1,h2⟩
 have q:=List.all_eq_true.mp h' _ (Ef hz)
 simpa using q
theorem qT {sc:Scope}{N N':List Str}{src:List (Option Nat)}(h:bP sc src N' N=true):src.length=N'.length:=by
 unfold bP at h
 have h':=(Fc _ _ ▸ h).1
 simpa using h'

/-- the context of a comprehension's block -/
def dr (X:Cx)(N':List Str)(sc:Scope)(s:Shared)(H:Hp)(C:Addr)(fp:List Addr)(xe:Value->Shared->Prop):Cx where
 prog:=X.prog
 w:=X.w
 K:=X.K
 mg:=X.mg
 base:=X.base
 A:=X.A
 N:=N'
 s₀:=s
 H₀:=H
 env:=compEnvC sc (d7 sc X.env) C X.env
 outer:=X.stack
 stack:=X.stack
 ex:=fp
 fn:=fun _=>false
 calm:=X.calm
 pn:=[]
 xe:=xe

theorem dC {sc:Scope}{env:Env}{x:Str}:∀{names:List (Str×NameKind)},
   (names.map fun (p:Str×NameKind)=>if (p.2 == EA && env.scope.kind == .function && env.kindOf p.1 == some .cell) then (p.1,G4) else (p.1,p.2)).lookup x =
     (names.lookup x).map fun k=>if (k == EA && env.scope.kind == .function && env.kindOf x == some .cell) then G4 else k
 | []=>rfl
 | (n,k) :: r=>by
   have ih:=@dC sc env x r
   rw [EJ]
   cases hx:x == n with
   | true=>
     have e:x=n:=by simpa using hx
     subst e
     by_cases hc:(k == EA && env.scope.kind == .function && env.kindOf x == some .cell)=true
     · simp only [hc,if_true,Gh,hx,EZ]
     · simp only [hc,if_false,Gh,hx,EZ,Et]
   | false=>
     by_cases hc:(k == EA && env.scope.kind == .function && env.kindOf n == some .cell)=true
     · simp only [hc,if_true,Gh,hx]; exact ih
     · simp only [hc,if_false,Gh,hx,Et]; exact ih
theorem fj {sc:Scope}{env:Env}{cl:List (Str×Addr)}{C:Addr}(x:Str):(compEnvC sc cl C env).kindOf x =
   (sc.names.lookup x).map fun k=>if (k == EA && env.scope.kind == .function && env.kindOf x == some .cell) then G4 else k:=
 dC (sc:=sc) (env:=env)

section
variable {X:Cx}{pins:List (Addr×Obj)}{σ:St}{H:Hp}{s:Shared}{N':List Str}{sc:Scope}{src:List (Option Nat)}{fp:List Addr}{xe:Value->Shared->Prop}
/-- entered: the block's namespace has just been laid at the heap's end -/
theorem mC (I:Inv X pins σ H s)(S:av sc X.env.scope)(hc:bP sc src N' X.N=true)(hf:∀b∈fp,dh X pins H b)(ho:∀b∈fp,∃o,s.heap.get? b=some o){h₁:Heap}{tk:Nat}
   (hn:h₁.Ns s.heap.objs.size (fun _=>none)) (hk:∀b o,s.heap.get? b=some o->h₁.get? b=some o) :
   Inv (dr X N' sc s H s.heap.objs.size fp xe) [] (capσ src σ) H { s with heap:=h₁,toks:=tk }:=by
 have cellmem:∀x c,(d7 sc X.env).lookup x=some c->X.env.cells.lookup x=some c:=fun x c e=>(mz (ER e)).2
 have isfree:∀x,((compEnvC sc (d7 sc X.env) s.heap.objs.size X.env).kindOf x=some .cell\/(compEnvC sc (d7 sc X.env) s.heap.objs.size X.env).kindOf x=some .free)->(x,EA)∈sc.names:=fun x hx=>by
   rw [fj] at hx
   cases q:sc.names.lookup x with
   | none=>rw [q] at hx; simp at hx
   | some k=>
     have hm:=ER q
     by_cases hkf:k=.free
     · subst hkf; exact hm
     · have:(k == EA)=false:=by simpa using hkf
       have e2:(k == EA && X.env.scope.kind == .function && X.env.kindOf x == some .cell)=false:=by rw [this]; rfl
       rw [q,EZ,e2] at hx
       have hx':(some k:Option NameKind)=some .cell\/(some k:Option NameKind)=some .free:=hx
       rcases hx' with hx | hx
       · exact absurd (EH hx) (S.cell _ hm)
       · exact absurd (EH hx) hkf
 have has:∀x,(x,EA)∈sc.names->∃c,X.env.cells.lookup x=some c:=fun x hm=>I.ok.has x (S.free _ hm rfl)
 refine ⟨⟨I.ok.mod,S.kind,I.ok.glob,I.ok.blt,Ee _,fun x y c h1 h2=>I.ok.inj x y c (cellmem x c h1) (cellmem y c h2),fun x hx=>?_,fun x c hfn _=>?_,I.ok.hd,I.ok.frames,.inl rfl,fun b hb=>⟨?_,fun x c e=>?_⟩,I.bs,EX I.ok.bsz I.sz,fun b o e hb=>?_,fun b hb hs=>?_,I.stack,I.stkFree⟩,
   rfl,I.bare,Un.kept hk,⟨_,hn,fun i x v h1 h2 h3=>?_⟩,fun x c e=>?_,I.hok.fresh (Ee _),fun x c e=>I.freeC x c (cellmem x c e),fun p hp=>absurd (show p∈([]:List (Addr×Obj)) from hp) (by simp),I.hok.kept hk,?_⟩
 · obtain ⟨c,e⟩:=has x (isfree x hx)
   exact ⟨c,jj (isfree x hx) e⟩
 · exact absurd (show false=true from hfn) (by simp)
 · obtain ⟨o,e⟩:=ho b hb
   exact Ex (Ek e)
 · exact (hf b hb).2.2.2.2.1 x c (cellmem x c e)
 · rcases (hf b hb).2.2.2.1 with z | z
   · exact I.ok.noex b o e z
   · exact absurd (Eu (Ek e) (EX I.ok.bsz z)) (Ft _)
 · rcases List.mem_cons.mp (I.stkSub b hs) with z | z
   · exact (hf b hb).2.1 z
   · exact (hf b hb).2.2.1 z
 · -- a captured name
   have h2':(capσ src σ)[i]? = some (some v):=h2
   unfold capσ at h2'
   rw [Em] at h2'
   cases q:src[i]? with
   | none=>rw [q] at h2'; cases h2'
   | some o=>
     rw [q] at h2'
     cases o with
     | none=>simp at h2'
     | some j=>
       obtain ⟨hj,hfr⟩:=uz hc q h1
       have hσ:σ[j]? = some (some v):=by
         simp only [EZ,Option.some.injEq] at h2'
         cases r:σ[j]? with
         | none=>rw [r] at h2'; cases h2'
         | some w=>rw [r] at h2'; rw [← h2']
       have hm:=ER hfr
       have hout:=S.free _ hm rfl
       obtain ⟨m,_,hl⟩:=I.loc
       obtain ⟨u,ru,lk⟩:=hl j x v hj hσ (Or.inr hout)
       refine ⟨u,ru,.inr ⟨?_,?_⟩⟩
       · show (compEnvC sc (d7 sc X.env) s.heap.objs.size X.env).kindOf x=some .cell\/(compEnvC sc (d7 sc X.env) s.heap.objs.size X.env).kindOf x=some .free
         rw [fj,hfr]
         by_cases z:(EA == EA && X.env.scope.kind == .function && X.env.kindOf x == some .cell)=true
         · exact .inl (by simp only [EZ,z,if_true])
         · exact .inr (by simp only [EZ,z,if_false,Et])
       · rcases lk with ⟨z,_⟩ | ⟨_,c,e,z⟩
         · have z':X.env.scope.names.lookup x=some .local:=z
           rcases hout with y | y <;> (rw [z'] at y; cases y)
         · obtain ⟨oc,hoc,hd⟩:=z
           exact ⟨c,jj hm e,oc,hk c oc hoc,hd⟩
 · obtain ⟨v,oc,hoc,hd⟩:=I.cell x c (cellmem x c e)
   exact ⟨v,oc,hk c oc hoc,hd⟩
 · show (capσ src σ).length=N'.length
   unfold capσ
   rw [Ea]
   exact qT hc
/-- left: the block's end is a state of the def's body again; the namespace may still be changed -/
theorem mD {H':Hp}{σ':St}{s':Shared}(I:Inv X pins σ H s)(hf:∀b∈fp,dh X pins H b)(I':Inv (dr X N' sc s H s.heap.objs.size fp xe) [] σ' H' s'):Inv X pins σ H' s':=
 I.call' I'.os I'.base I'.hok I'.bare fun b hb=>⟨(hf b hb).2.2.2.1,(hf b hb).2.1,(hf b hb).2.2.2.2.1,(hf b hb).2.2.2.2.2⟩
theorem uD {H':Hp}{σ':St}{s':Shared}(I':Inv (dr X N' sc s H s.heap.objs.size fp xe) [] σ' H' s'):∃m,s'.heap.Ns s.heap.objs.size m:=let ⟨m,hn,_⟩:=I'.loc; ⟨m,hn⟩
theorem pj {H1:Hp}{σ1:St}{s1:Shared}{h':Heap}(I:Inv X pins σ H s)(I1:Inv X pins σ1 H1 s1)(hn:H1 s.heap.objs.size=none)(hs:E8 s.heap.objs.size s1.heap h'):Inv X pins σ1 H1 { s1 with heap:=h' }:=by
 obtain ⟨f0,f1,f2,f3,f4,f5⟩:=I.fpOk (H':=H1) (Ee _) hn
 exact I1.turned (t':=s1.toks) (fun b o hb e=>(hs.2 b hb).trans e) f0 f1 f3 f4 f5
end
end L2
set_option Elab.async false
set_option linter.all false
set_option maxRecDepth 100000
namespace L2
open PySem PySem.Spec PyProof.Rows

/-! ### a comprehension's loop -/
/-- what a turn gives over: the values of the second where the first one has any -/
def aS:St->St->Prop
 | [],[]=>True
 | none :: r,_ :: r'=>aS r r'
 | some v :: r,u :: r'=>u=some v/\aS r r'
 | _,_=>False
theorem aS.len:∀{a b:St},aS a b->a.length=b.length
 | [],[],_=>rfl
 | [],_ :: _,h=>h.elim
 | none :: _,[],h=>h.elim
 | some _ :: _,[],h=>h.elim
 | none :: r,_ :: r',h=>by
   have h':aS r r':=h
   rw [EO,EO,h'.len]
 | some v :: r,u :: r',h=>by
   have h':u=some v/\aS r r':=h
   rw [EO,EO,h'.2.len]
theorem aS.get:∀{a b:St},aS a b->∀(i:Nat) (v:V),a[i]? = some (some v)->b[i]? = some (some v)
 | [],[],_,i,v,e=>by simp at e
 | [],_ :: _,h,_,_,_=>h.elim
 | none :: _,[],h,_,_,_=>h.elim
 | some _ :: _,[],h,_,_,_=>h.elim
 | none :: r,_ :: r',h,0,v,e=>by simp at e
 | none :: r,_ :: r',h,i + 1,v,e=>by
   have h':aS r r':=h
   simpa using h'.get i v (by simpa using e)
 | some w :: r,u :: r',h,0,v,e=>by
   have h':u=some w/\aS r r':=h
   simp at e
   subst e
   simp [h'.1]
 | some w :: r,u :: r',h,i + 1,v,e=>by
   have h':u=some w/\aS r r':=h
   simpa using h'.2.get i v (by simpa using e)

/-- the tests of a clause -/
def jI (X:Cx)(cs:List Expr)(t:TT):Prop:=
 ∀(pins:List (Addr×Obj)) (s:Shared) (σ:St) (H:Hp) (Q:Bool->Hp->Prop),Inv X pins σ H s->t σ H Q ->
   wpAny (model X.prog X.w) X.A (forIn cs true fun c r=>if r=true then do let ok ← isTrue c X.env (eval c X.env); pure (E5 ok) else pure (E5 r)) (TP X pins σ Q) X.xe s
def zB:TT:=fun _ H Q=>Q true H
theorem CK {X:Cx}:jI X [] zB:=fun _ _ _ H _ I h=>wpAny_tests_nil ⟨H,I,h⟩
theorem CL {X:Cx}{c:Expr}{t:TT}(h:PT X c t):jI X [c] t:=fun pins s σ H Q I q=>wpAny_tests_one (h pins s σ H Q I q)
/-- what a turn does with what it has made -/
abbrev TM:=St->Hp->(Hp->Prop)->Prop
def zN (X:Cx)(m:Sem Unit)(t:TM):Prop:=
 ∀(pins:List (Addr×Obj)) (s:Shared) (σ:St) (H:Hp) (Q:Hp->Prop),Inv X pins σ H s->t σ H Q ->
   wpAny (model X.prog X.w) X.A m (fun _ s'=>∃H',Inv X pins σ H' s'/\Q H') X.xe s
/-- one turn -/
def ng (tg:Expr)(ipos:Pos)(ifs:List Expr)(it:Value)(env:Env)(cont:Sem Unit)(more:Sem Fin):Sem Fin:=do
 standAt ipos
 match ← pyNext it with
 | none=>pure (.done .next)
 | some v=>
   letOwnedTupleGo tg it v
   assign tg env v
   let mut ok:=true
   for c in ifs do
     if ok then ok ← isTrue c env (eval c env)
   if ok then cont
   more
/-- W: by the turn and a measure; σ0: what each turn begins with -/
def iN (J:It)(σ0:St)(g:TG)(tifs:TT)(tm:TM)(Z:Hp->Prop)(H:Hp):Prop:=
 ∃W:Nat->Nat->Hp->Prop,(∃m,W 0 m H)/\∀i m H,W i m H->(J.stop i H/\Z H) \/
   (J.go i H/\∀x H',J.yld i H x H'->g x σ0 H' fun σ2 H2=>tifs σ2 H2 fun b H3=>
     if b=true then tm σ2 H3 fun H4=>aS σ0 σ2/\∃m',m' < m/\W (i + 1) m' H4 else aS σ0 σ2/\∃m',m' < m/\W (i + 1) m' H3)

section
variable {X:Cx}{e tg:Expr}{ipos:Pos}{ifs:List Expr}{depth:Nat}{acc:Value}{cont:Sem Unit}{it:Addr}{fp:List Addr}{tn:Nat->Heap->Prop}{J:It}{g:TG}{tifs:TT}{tm:TM}{σ0:St}{Z:Hp->Prop}{R:Result->Shared->Prop}
theorem pk (hX:X.xe=notedBy (model X.prog X.w) X.A X.env fun e s'=>R (.error e) s')
   (heq:compTurn e depth (.ref it) acc X.env=ng tg ipos ifs (.ref it) X.env cont (again (.compLoop e depth (.ref it) acc X.env)))
   (hq:(Ge e depth (.ref it) acc X.env).quiet=true) (hA:X.A.under (.compLoop e depth (.ref it) acc X.env)=X.A) (hF:(Ge e depth (.ref it) acc X.env).isFrame=false)
   (hc:X.calm=true) (T:Turn X.prog X.w X.K tg J fp it tn) (hg:PG X tg g) (hif:jI X ifs tifs) (hm:zN X cont tm)
   {pins:List (Addr×Obj)} {H:Hp} {s:Shared} (hf:∀b∈fp,dh X pins H b) (I:Inv X pins σ0 H s) (st:tn 0 s.heap)
   (hZ:∀H' s',Inv X pins σ0 H' s'->(∀b∈fp,H' b=none)->Z H'->R (.ok .next) s') (h:iN J σ0 g tifs tm Z H) :
   codeAny (model X.prog X.w) X.A (.compLoop e depth (.ref it) acc X.env) R s:=by
 obtain ⟨W,⟨m0,w0⟩,turn⟩:=h
 have stat:∀{H':Hp},(∀b∈fp,H' b=none)->∀b∈fp,dh X pins H' b:=fun hn b hb=>⟨hn b hb,(hf b hb).2⟩
 refine codeAny_loop hq (fun n s'=>∃i H',Inv X pins σ0 H' s'/\tn i s'.heap/\(∀b∈fp,H' b=none)/\W i n H') ?_ m0 ⟨0,H,I,st,fun b hb=>(hf b hb).1,w0⟩
 rintro n s3 ⟨i,H3,I3,st3,fr3,w3⟩
 rw [hA]
 have hden:(model X.prog X.w).den (.compLoop e depth (.ref it) acc X.env)=(compTurn e depth (.ref it) acc X.env).onRaise (fun x=>do noteFrame x X.env; theTreesLotGoes x):=by
   show (if (Ge e depth (.ref it) acc X.env).isFrame then _ else _)=_
   rw [if_neg (by rw [hF]; decide)]
 rw [hden]
 refine wpAny_noted ?_
 rw [← hX,heq]
 unfold ng
 refine wpAny_bind (wpAny_standAt ?_)
 have again':∀{σ7:St} {H7:Hp} {s5 s7:Shared},tn (i + 1) s5.heap->Inv X (pins++iy fp s5.heap) σ7 H7 s7->aS σ0 σ7->(∃m',m' < n/\W (i + 1) m' H7) ->
     ∃m,m < n/\∃i H',Inv X pins σ0 H' s7/\tn i s7.heap/\(∀b∈fp,H' b=none)/\W i m H':=fun {σ7 H7 s5 s7} st5 I7 k7 ⟨m',hm',w7⟩=>by
   refine ⟨m',hm',i + 1,H7,I7.unpinned.weak k7.len k7.get,T.keep _ _ _ st5 fun b hb o e=>(I7.pin (b,o) (EF _ (EF _ (da hb e)))).1,fun b hb=>?_,w7⟩
   obtain ⟨o,e,d⟩:=T.obj _ _ st5 b hb
   exact (I7.pin (b,o) (EF _ (EF _ (da hb e)))).2.1
 rcases turn i n H3 w3 with ⟨stop,qn⟩ | ⟨go,step⟩
 · refine wpAny_bind (a7 (T.done X rfl rfl rfl hc i pins s3 σ0 H3 X.xe I3 (stat fr3) st3 stop) fun r s4 ⟨hr,I4⟩=>?_)
   subst hr
   exact wpAny_pure (hZ H3 s4 I4 fr3 qn)
 · refine wpAny_bind (a7 (T.item X rfl rfl rfl hc i pins s3 σ0 H3 X.xe I3 (stat fr3) st3 go) fun r s4 ⟨u,hr,h4⟩=>?_)
   subst hr
   refine wpAny_bind (a7 h4 fun _ s5 ⟨x,H5,I5,r5,y5,st5,fr5⟩=>?_)
   have I5':=I5.pinned (stat fr5) (T.obj _ _ st5)
   refine wpAny_bind (a7 (hg _ s5 σ0 H5 x u _ I5' r5 (step x H5 y5)) fun _ s6 ⟨σ6,H6,I6,q6⟩=>?_)
   refine wpAny_bind (a7 (hif _ s6 σ6 H6 _ I6 q6) fun b s7 ⟨H7,I7,q7⟩=>?_)
   cases b with
   | false=>
     obtain ⟨k7,w7⟩:=q7
     exact wpAny_pure ⟨rfl,again' st5 I7 k7 w7⟩
   | true=>
     refine wpAny_bind (a7 (hm _ s7 σ6 H7 _ I7 q7) fun _ s8 ⟨H8,I8,k8,w8⟩=>?_)
     exact wpAny_pure ⟨rfl,again' st5 I8 k8 w8⟩
end
end L2
set_option Elab.async false
set_option linter.all false
set_option maxRecDepth 100000
namespace L2
open PySem PySem.Spec PyProof.Rows

/-- what a comprehension needs of its kind: its loop's turn and its start -/
structure dk (P:Program)(w:World)(A:Around)(e:Expr)(tg iter:Expr)(ifs:List Expr)(emit:Addr->Env->Sem Unit):Prop where
 cl:clausesOf e=[⟨tg,iter,ifs,0⟩]
 turn:∀it D env,compTurn e 0 (.ref it) (.ref D) env=ng tg iter.pos ifs (.ref it) env (emit D env) (again (.compLoop e 0 (.ref it) (.ref D) env))
 start:∀(R:Result->Shared->Prop) (s:Shared) (it acc:Value) (env:Env),codeAny (model P w) A (.compLoop e 0 it acc env) R s ->
   wpAny (model P w) A (pyIter it) (fun it' s'=>codeAny (model P w) A (.compLoop e 0 it' acc env) R s') (notedBy (model P w) A env fun x s'=>R (.error x) s') s->codeAny (model P w) A (.compStart e 0 it acc env) R s
 quiet:∀it acc env,(Ge e 0 it acc env).quiet=true
 under:∀it acc env,A.under (.compLoop e 0 it acc env)=A
 frame:∀it acc env,(Ge e 0 it acc env).isFrame=false

theorem nK {P:Program}{w:World}{A:Around}{elt tg iter:Expr}{ifs:List Expr}{sc:Scope}{pos:Pos} :
   dk P w A (.ListComp elt [⟨tg,iter,ifs,0⟩] sc pos) tg iter ifs (fun D env=>do let _ ← call (.builtin "list.append") [.ref D,← eval elt env]) where
 cl:=rfl
 turn:=fun it D env=>by rw [compTurn_list]; rfl
 start:=fun R s it acc env h0 h=>codeAny_compStart_list h0 h
 quiet:=fun _ _ _=>rfl
 under:=fun _ _ _=>rfl
 frame:=fun _ _ _=>rfl
theorem uC {P:Program}{w:World}{A:Around}{kx vx tg iter:Expr}{ifs:List Expr}{sc:Scope}{pos:Pos} :
   dk P w A (.DictComp kx vx [⟨tg,iter,ifs,0⟩] sc pos) tg iter ifs (fun D env=>do
     let kv ← eval kx env
     let vv ← holding [kv] (eval vx env)
     standAt { kx.pos with endLine:=vx.pos.endLine,endCol:=vx.pos.endCol }
     holding [kv,vv] (dictSet D kv vv)) where
 cl:=rfl
 turn:=fun it D env=>by rw [compTurn_dict]; rfl
 start:=fun R s it acc env h0 h=>codeAny_compStart_dict h0 h
 quiet:=fun _ _ _=>rfl
 under:=fun _ _ _=>rfl
 frame:=fun _ _ _=>rfl

section
variable {X:Cx}{e tg iter:Expr}{ifs:List Expr}{emit:Addr->Env->Sem Unit}{sc:Scope}{pos:Pos}{wi:TI}{N':List Str}{src:List (Option Nat)}{g:TG}{tifs:TT}{tm:Addr->TM}{newAcc:Sem Value}{ob:Obj}{accO:HO}
/-- a comprehension: the accumulator at D (it begins as accO) -/
def dE (src:List (Option Nat))(accO:HO)(wi:TI)(g:TG)(tifs:TT)(tm:Addr->TM):TE:=
 fun σ H Q=>wi σ H fun J H1=>∀D,H1 D=none->iN J (capσ src σ) g tifs (tm D) (fun H'=>Q (.ref D) H') (upd H1 D accO)
/-- the accumulator that is laid -/
structure gU (X:Cx)(newAcc:Sem Value)(ob:Obj)(accO:HO):Prop where
 new:∀(s:Shared) (Q:Value->Shared->Prop) (E:Value->Shared->Prop),Q (.ref s.heap.objs.size) { s with heap:=s.heap.push ob }->wpAny (model X.prog X.w) X.A newAcc Q E s
 live:ob.isFreed=false
 ok:∀(pins:List (Addr×Obj)) (σ:St) (H:Hp) (s:Shared),Inv X pins σ H s->aQ X.prog X.w (upd H s.heap.objs.size accO) (s.heap.push ob) s.heap.objs.size accO

theorem kT {use:Option (Value->Sem Unit)}{Q':Value->Shared->Prop}(K:dk X.prog X.w X.A e tg iter ifs emit)(hc:X.calm=true)(S:av sc X.env.scope)(hcap:bP sc src N' X.N=true)(hi:PI X tg iter wi)
   (hb:∀s H C fp xe D,PG (dr X N' sc s H C fp xe) tg g/\jI (dr X N' sc s H C fp xe) ifs tifs/\zN (dr X N' sc s H C fp xe) (emit D (dr X N' sc s H C fp xe).env) (tm D)) (N:gU X newAcc ob accO)
   (hs:∀x,foldedSetIterable iter X.env x=pure x)
   {pins:List (Addr×Obj)} {s:Shared} {σ:St} {H:Hp} {Q:VK} (I:Inv X pins σ H s) (h:dE src accO wi g tifs tm σ H Q)
   (hQ:∀(C D:Addr) (H':Hp) (s':Shared),Inv X pins σ H' s'->Q (.ref D) H'->H' C=none->(∃m,s'.heap.Ns C m)->(∀(σ1:St) (H1:Hp) (s1:Shared) (h':Heap),Inv X pins σ1 H1 s1->H1 C=none->E8 C s1.heap h'->Inv X pins σ1 H1 { s1 with heap:=h' }) ->
     (C≠X.env.locals/\∀x c,X.env.cells.lookup x=some c->c≠C)->compPost (model X.prog X.w) X.A X.xe use Q' (.ref D) C (.ok .next) s') :
   wpAny (model X.prog X.w) X.A (comprehension e sc X.env pos newAcc false (eval iter X.env) use) Q' X.xe s:=by
 refine wpAny_comprehension_free (g:=⟨tg,iter,ifs,0⟩) (gs:=[]) K.cl hs (mB fun p hp hf=>I.ok.has p.1 (S.free p hp hf)) S.kind S.names ?_
 refine a7 (hi pins s σ H _ I h) fun v s1 h1=>a7 h1 fun itv s2 h2=>?_
 obtain ⟨it,fp,tn,J,H2,e1,I2,T,st2,f2,q2⟩:=h2
 subst e1
 refine N.new s2 _ _ ?_
 have hD:H2 s2.heap.objs.size=none:=I2.hok.fresh (Ee _)
 have hk3:∀b o,s2.heap.get? b=some o->(s2.heap.push ob).get? b=some o:=fun b o e=>Ec _ e
 have I3:Inv X pins σ (upd H2 s2.heap.objs.size accO) { s2 with heap:=s2.heap.push ob }:=I2.laid (t':=s2.toks) hk3 (Ee _) (N.ok pins σ H2 s2 I2)
 have st3:tn 0 (s2.heap.push ob):=T.keep _ _ _ st2 fun b _ o e=>hk3 b o e
 have ob3:∀b∈fp,∃o,(s2.heap.push ob).get? b=some o:=fun b hb=>let ⟨o,e,_⟩:=T.obj _ _ st3 b hb; ⟨o,e⟩
 have f3:∀b∈fp,dh X pins (upd H2 s2.heap.objs.size accO) b:=fun b hb=>by
   refine ⟨?_,(f2 b hb).2⟩
   obtain ⟨o,e,_⟩:=T.obj _ _ st2 b hb
   rw [aB (Ex (Ek e))]
   exact (f2 b hb).1
 have qq:=q2 s2.heap.objs.size hD
 generalize hs3:({ s2 with heap:=s2.heap.push ob }:Shared)=s3 at I3 ⊢
 have hh3:s2.heap.push ob=s3.heap:=by rw [← hs3]
 rw [hh3] at st3 ob3
 generalize s2.heap.objs.size=D at I3 f3 qq hD ⊢
 refine wpAny_newFunctionEnv S.cell (by intro y hy; simp at hy) (fun h₁ hns hsb=>?_) S.kind
 have hns':h₁.Ns s3.heap.objs.size (fun _=>none):=hns
 have hk4:∀b o,s3.heap.get? b=some o->h₁.get? b=some o:=fun b o e=>hsb.extBut b o (Ex (Ek e)) (Ec _ e)
 -- the block
 let R:Result->Shared->Prop:=compPost (model X.prog X.w) X.A X.xe use Q' (.ref D) s3.heap.objs.size
 let X':Cx:=dr X N' sc s3 (upd H2 D accO) s3.heap.objs.size fp (notedBy (model X.prog X.w) X.A (compEnvC sc (d7 sc X.env) s3.heap.objs.size X.env) fun e s'=>R (.error e) s')
 have I4:Inv X' [] (capσ src σ) (upd H2 D accO) { s3 with heap:=h₁,toks:=s3.toks + ([]:List (Str×Value)).length }:=mC I3 S hcap f3 ob3 hns' hk4
 have st4:tn 0 h₁:=T.keep _ _ _ st3 fun b _ o e=>hk4 b o e
 obtain ⟨hg,hif,hm⟩:=hb s3 (upd H2 D accO) s3.heap.objs.size fp (notedBy (model X.prog X.w) X.A (compEnvC sc (d7 sc X.env) s3.heap.objs.size X.env) fun e s'=>R (.error e) s') D
 have f4:∀b∈fp,dh X' [] (upd H2 D accO) b:=fun b hb=>by
   obtain ⟨g0,g1,g2,g3,g4,g5⟩:=f3 b hb
   refine ⟨g0,?_,?_,.inl hb,fun x c e=>?_,fun p hp=>absurd (show p∈([]:List (Addr×Obj)) from hp) (by simp)⟩
   · obtain ⟨o,e⟩:=ob3 b hb
     exact Ex (Ek e)
   · intro z
     rcases List.mem_cons.mp (I3.stkSub b z) with y | y
     · exact g1 y
     · exact g2 y
   · exact g4 x c (mz (ER e)).2
 have fpC:dh X pins (upd H2 D accO) s3.heap.objs.size:=I3.fpOk (Ee _) (I3.hok.fresh (Ee _))
 have loop:∀s4:Shared,s4={ s3 with heap:=h₁,toks:=s3.toks + ([]:List (Str×Value)).length }->codeAny (model X.prog X.w) X.A (.compLoop e 0 (.ref it) (.ref D) X'.env) R s4:=by
   rintro s4 rfl
   refine pk (X:=X') (Z:=fun H'=>Q (.ref D) H') rfl (K.turn it D X'.env) (K.quiet _ _ _) (K.under _ _ _) (K.frame _ _ _) hc T hg hif hm f4 I4 st4 (fun H' s' I' _ z=>?_) qq
   refine hQ s3.heap.objs.size D H' s' (mD I3 f3 I') z I'.free (uD I') (fun σ1 H1 s1 h' I1 n1 hs1=>pj I3 I1 n1 hs1) ⟨fpC.2.1,fun x c e=>fpC.2.2.2.2.1 x c e⟩
 exact K.start R _ (.ref it) (.ref D) X'.env (loop _ rfl) (T.self X.A 0 _ _ _ st4 (loop _ rfl))

/-- as an expression -/
theorem ou (K:dk X.prog X.w X.A e tg iter ifs emit)(hc:X.calm=true)(S:av sc X.env.scope)(hcap:bP sc src N' X.N=true)(hi:PI X tg iter wi)
   (hb:∀s H C fp xe D,PG (dr X N' sc s H C fp xe) tg g/\jI (dr X N' sc s H C fp xe) ifs tifs/\zN (dr X N' sc s H C fp xe) (emit D (dr X N' sc s H C fp xe).env) (tm D)) (N:gU X newAcc ob accO)
   (hs:∀x,foldedSetIterable iter X.env x=pure x) (he:eval e X.env=comprehension e sc X.env pos newAcc false (eval iter X.env)):PE X e (dE src accO wi g tifs tm):=by
 intro pins s σ H Q I h
 rw [he]
 refine kT (use:=none) (Q:=Q) K hc S hcap hi hb N hs I h fun C D H' s' I' q hn ⟨m,hm⟩ gone _=>?_
 exact ⟨m,hm,fun h' hs'=>⟨.ref D,H',gone σ H' s' h' I' hn hs',rfl,q⟩⟩
/-- as name=[..],where the store comes ahead of the variables' end -/
theorem vT {i:Nat}{x:Str}{pos' pos2:Pos}(K:dk X.prog X.w X.A e tg iter ifs emit)(hc:X.calm=true)(S:av sc X.env.scope)(hcap:bP sc src N' X.N=true)(hi:PI X tg iter wi)
   (hb:∀s H C fp xe D,PG (dr X N' sc s H C fp xe) tg g/\jI (dr X N' sc s H C fp xe) ifs tifs/\zN (dr X N' sc s H C fp xe) (emit D (dr X N' sc s H C fp xe).env) (tm D)) (N:gU X newAcc ob accO)
   (hs:∀x,foldedSetIterable iter X.env x=pure x) (he:∀u,evalThenUse e X.env u=(do let _ ← comprehension e sc X.env pos newAcc false (eval iter X.env) (some u)))
   (hN:X.N.Nodup) (hix:X.N[i]? = some x) (hx:Loc X.env.scope x) (hsw:swapsWith e (some (.Name x pos')) pos2.line X.env=pure true)
   (hf:X.fn x=true\/X.env.scope.names.lookup x=some .local:=by first | exact .inl rfl | exact .inr rfl | assumption) :
   PS X (.Assign [.Name x pos'] e pos2) (m7 (dE src accO wi g tifs tm) (fS i)):=by
 intro pins s σ H D0 I h
 rw [exec_Assign_Name_used x pos' e pos2 hsw,he]
 refine wpAny_bind (wpAny_standAt (wpAny_bind (wpAny_bind ?_)))
 refine kT (use:=some (assign (.Name x pos') X.env)) (Q:=fun v H'=>D0.nx (σ.set i (some v)) H') (Q':=fun _ s'=>wpAny _ _ _ _ _ s') K hc S hcap hi hb N hs I h fun C D H' s' I' q hn ⟨m,hm⟩ gone ⟨hCL,hCc⟩=>?_
 refine wpAny_assign_Name (jE (v:=.ref D) I' hN hix hx rfl (fun s2 I2 hch=>?_) hf)
 obtain ⟨a,hsb,ha⟩:=hch
 have hne:C≠a:=by
   rcases ha with z | z
   · rw [z]; exact hCL
   · exact (hCc x a z).symm
 refine ⟨m,hm.sameBut hsb hne,fun h' hs'=>?_⟩
 exact wpAny_pure (wpAny_pure ⟨_,H',gone _ H' s2 h' I2 hn hs',q⟩)
end

section
variable {X:Cx}{elt kx vx:Expr}{te tk tv:TE}
/-- the element is put behind the list at D -/
def cj (te:TE)(D:Addr):TM:=fun σ H K=>te σ H fun y H1=>∃ys,H1 D=some (.lst ys)/\ys.length < sizeLine/\K (upd H1 D (.lst (ys++[y])))
theorem sX (h:PE X elt te)(D:Addr):zN X (do let _ ← call (.builtin "list.append") [.ref D,← eval elt X.env]) (cj te D):=by
 intro pins s σ H Q I q
 refine wpAny_bind (a7 (h pins s σ H _ I q) fun u s1 ⟨y,H1,I1,ru,ys,e,z,k⟩=>?_)
 refine wpAny_bind (a7 (jx pins s1 σ H1 (.ref D) [y] (.ref D) [u] (fun _ H'=>Q H') I1 rfl (.cons ru .nil) ⟨D,ys,y,rfl,rfl,e,z,k⟩) fun r s2 ⟨v,H2,I2,_,k2⟩=>?_)
 exact wpAny_pure ⟨H2,I2,k2⟩
theorem pz {pins:List (Addr×Obj)}{σ:St}{H H':Hp}{s:Shared}{a:Addr}{y v:V}{u r:Value}{A:Around}{E:Value->Shared->Prop}{Q:Unit->Shared->Prop}(hu:A.units + 1 < cLine)(I:Inv X pins σ H s)(g:iS H a y v H')(ry:RelV y u)(rv:RelV v r)(h:∀s',Inv X pins σ H' s'->Q () s') :
   wpAny (model X.prog X.w) A (dictSet a u r) Q E s:=by
 rcases g with ⟨kvs,k,e,ey,l,eH⟩ | ⟨kvs,k,b,e,ey,eb,l,eH⟩
 · subst ey eH
   obtain ⟨z,hd,vs,rel,dd⟩:=wF I.hok e
   have hz:vs.length<=sizeLine:=by rw [← rel.length]; exact z
   have hl:(putK kvs k v).length<=sizeLine:=by have:=bb kvs k v; omega
   refine wpAny_dictSet_pairs (hsz:=hz) (lr ry) dd fun h' dd' hs=>h _ ?_
   have he:∃q,h'.get? a=some q:=let ⟨q,_,_,hq,_⟩:=dd'; ⟨q,hq⟩
   exact dJ I (by rw [e]; exact EG) hs he (rf hl hd (rel.put k rv) dd')
 · subst ey eH
   cases (show u=Ep b from ry)
   obtain ⟨z,hd,xs,rel,dd⟩:=kY I.hok e
   have hz:xs.length<=sizeLine:=by rw [← Paired.length rel]; exact z
   have hl:(putK kvs k v).length<=sizeLine:=by have:=bb kvs k v; omega
   have hroom:(tupleKind (aN X.prog X.w)).room A:=show A.units < cLine by omega
   refine wpAny_dictSet_heap (hsz:=hz) hroom (fH I.hok eb) dd fun h' dd' hs=>h _ ?_
   obtain ⟨q,es,ep,hq,h2,h3,h4,_,h5⟩:=dd'
   refine dJ I (by rw [e]; exact EG) hs ⟨q,hq⟩ ⟨hl,hd,_,(rel.put k eb rv).keeps fun c ys ec=>?_,q,es,ep,hq,h2,h3,h4,h5⟩
   rw [aB (cC ec e (fun z=>nomatch z))]
   exact ec
/-- the pair is put into the dict at D -/
def yp (tk tv:TE)(D:Addr):TM:=fun σ H K=>tk σ H fun y H1=>tv σ H1 fun v H2=>∃H3,iS H2 D y v H3/\K H3
theorem y7 (hu:X.A.units + 1 < cLine)(hk:PE X kx tk)(hv:PE X vx tv)(D:Addr):zN X (do
     let kv ← eval kx X.env
     let vv ← holding [kv] (eval vx X.env)
     standAt { kx.pos with endLine:=vx.pos.endLine,endCol:=vx.pos.endCol }
     holding [kv,vv] (dictSet D kv vv)) (yp tk tv D):=by
 intro pins s σ H Q I q
 refine wpAny_bind (a7 (hk pins s σ H _ I q) fun u s1 ⟨y,H1,I1,ru,q1⟩=>?_)
 refine wpAny_bind (wpAny_holding (a7 (hv pins s1 σ H1 _ I1 q1) fun r s2 ⟨v,H2,I2,rv,H3,g,q2⟩=>?_))
 exact wpAny_bind (wpAny_standAt (wpAny_holding (pz hu I2 g ru rv fun s3 I3=>⟨H3,I3,q2⟩)))
theorem xr:gU X newDict { cls:=.type "dict",data:=.dict #[] } (.dK []) where
 new:=fun s Q E h=>wpAny_newObj_type h
 live:=rfl
 ok:=fun pins σ H s I=>q8 s.heap I.big
theorem kM:gU X (newList []) { cls:=.type "list",data:=.seq #[] } (.lst []) where
 new:=fun s Q E h=>wpAny_newObj_type h
 live:=rfl
 ok:=fun pins σ H s I=>⟨EC _,[],0,.nil,El _ rfl⟩
end

/-! ### the rules one uses -/
section
variable {X:Cx}{elt kx vx tg iter:Expr}{ifs:List Expr}{sc:Scope}{pos:Pos}{wi:TI}{N':List Str}{src:List (Option Nat)}{g:TG}{tifs:TT}{te tk tv:TE}
/-- [elt for tg in iter if ..] -/
theorem A9 (src:List (Option Nat))(N':List Str)(hc:X.calm=true)(S:av sc X.env.scope)(hcap:bP sc src N' X.N=true)(hi:PI X tg iter wi)
   (hb:∀s H C fp xe,PG (dr X N' sc s H C fp xe) tg g/\jI (dr X N' sc s H C fp xe) ifs tifs/\PE (dr X N' sc s H C fp xe) elt te)
   (hs:∀x,foldedSetIterable iter X.env x=pure x:=by intro _; rfl):PE X (.ListComp elt [⟨tg,iter,ifs,0⟩] sc pos) (dE src (.lst []) wi g tifs (cj te)):=
 ou nK hc S hcap hi (fun s H C fp xe D=>⟨(hb s H C fp xe).1,(hb s H C fp xe).2.1,sX (hb s H C fp xe).2.2 D⟩) kM hs rfl
/-- x=[elt for tg in iter if ..] on one row,x a plain local -/
theorem Bf {i:Nat}{x:Str}{pos' pos2:Pos}(src:List (Option Nat))(N':List Str)(hc:X.calm=true)(S:av sc X.env.scope)(hcap:bP sc src N' X.N=true)(hi:PI X tg iter wi)
   (hb:∀s H C fp xe,PG (dr X N' sc s H C fp xe) tg g/\jI (dr X N' sc s H C fp xe) ifs tifs/\PE (dr X N' sc s H C fp xe) elt te)
   (hN:X.N.Nodup) (hix:X.N[i]? = some x) (hx:Loc X.env.scope x) (hsw:swapsWith (.ListComp elt [⟨tg,iter,ifs,0⟩] sc pos) (some (.Name x pos')) pos2.line X.env=pure true:=by rfl)
   (hs:∀x,foldedSetIterable iter X.env x=pure x:=by intro _; rfl) (hf:X.fn x=true\/X.env.scope.names.lookup x=some .local:=by first | exact .inl rfl | exact .inr rfl | assumption) :
   PS X (.Assign [.Name x pos'] (.ListComp elt [⟨tg,iter,ifs,0⟩] sc pos) pos2) (m7 (dE src (.lst []) wi g tifs (cj te)) (fS i)):=
 vT nK hc S hcap hi (fun s H C fp xe D=>⟨(hb s H C fp xe).1,(hb s H C fp xe).2.1,sX (hb s H C fp xe).2.2 D⟩) kM hs (fun _=>rfl) hN hix hx hsw hf
end

/-! ### the forms one uses: Pv D i H,by the turn -/
section
variable {K:D9}{a:Addr}{xs:List V}{g:TG}{tifs:TT}{tm:TM}{σ0:St}{Z:Hp->Prop}{H:Hp}
theorem gq (n:Nat){J:It}(Pv:Nat->Hp->Prop)(h0:Pv 0 H)(hgo:∀i H,i < n->Pv i H->J.go i H)(hst:∀H,Pv n H->J.stop n H)
   (turn:∀i H,i < n->Pv i H->∀x H',J.yld i H x H'->g x σ0 H' fun σ2 H2=>tifs σ2 H2 fun b H3=>
     if b=true then tm σ2 H3 fun H4=>aS σ0 σ2/\∃m',m' < n - i/\(m'=n - (i + 1)/\i + 1<=n/\Pv (i + 1) H4) else aS σ0 σ2/\∃m',m' < n - i/\(m'=n - (i + 1)/\i + 1<=n/\Pv (i + 1) H3))
   (hZ:∀H,Pv n H->Z H):iN J σ0 g tifs tm Z H:=by
 refine ⟨fun i m H=>m=n - i/\i<=n/\Pv i H,⟨n,by simp,EC _,h0⟩,?_⟩
 rintro i m H ⟨rfl,hi,p⟩
 by_cases hlt:i < n
 · exact .inr ⟨hgo i H hlt p,turn i H hlt p⟩
 · have e:i=n:=by omega
   subst e
   exact .inl ⟨hst H p,hZ H p⟩
/-- over a list that stays -/
theorem aV (Pv:Nat->Hp->Prop)(h0:Pv 0 H)(hl:∀i H,i<=xs.length->Pv i H->aA K H a xs)
   (turn:∀i x H,xs[i]? = some x->Pv i H->g x σ0 H fun σ2 H2=>tifs σ2 H2 fun b H3=>
     if b=true then tm σ2 H3 fun H4=>aS σ0 σ2/\∃m',m' < xs.length - i/\(m'=xs.length - (i + 1)/\i + 1<=xs.length/\Pv (i + 1) H4) else aS σ0 σ2/\∃m',m' < xs.length - i/\(m'=xs.length - (i + 1)/\i + 1<=xs.length/\Pv (i + 1) H3))
   (hZ:∀H,Pv xs.length H->Z H):iN (zL K a) σ0 g tifs tm Z H:=by
 refine gq xs.length Pv h0 (fun i H hi p=>⟨xs,xs[i],hl i H (E9 hi) p,by simp [hi]⟩) (fun H p=>⟨xs,hl _ H (Ee _) p,Ee _⟩) (fun i H hi p x H' y=>?_) hZ
 obtain ⟨e,y⟩:=y
 subst e
 exact turn i x _ (y xs (hl i _ (E9 hi) p)) p
theorem b9 {lo:Int}{n:Nat}(Pv:Nat->Hp->Prop)(h0:Pv 0 H)
   (turn:∀i H,i < n->Pv i H->g (.int (lo + i)) σ0 H fun σ2 H2=>tifs σ2 H2 fun b H3=>
     if b=true then tm σ2 H3 fun H4=>aS σ0 σ2/\∃m',m' < n - i/\(m'=n - (i + 1)/\i + 1<=n/\Pv (i + 1) H4) else aS σ0 σ2/\∃m',m' < n - i/\(m'=n - (i + 1)/\i + 1<=n/\Pv (i + 1) H3))
   (hZ:∀H,Pv n H->Z H):iN (xj lo n) σ0 g tifs tm Z H:=by
 refine gq n Pv h0 (fun i H hi p=>hi) (fun H p=>Ee _) (fun i H hi p x H' y=>?_) hZ
 obtain ⟨e,y⟩:=y
 subst e y
 exact turn i _ hi p
/-- a turn's end -/
theorem aF {n i:Nat}{P:Prop}{Pv:Nat->Hp->Prop}{H:Hp}(k:P)(hi:i < n)(p:Pv (i + 1) H):P/\∃m',m' < n - i/\(m'=n - (i + 1)/\i + 1<=n/\Pv (i + 1) H):=⟨k,_,by omega,rfl,hi,p⟩
end
end L2
set_option Elab.async false
set_option linter.all false
set_option maxRecDepth 100000
namespace L2
open PySem PySem.Spec PyProof.Rows

section
variable {X:Cx}{pins:List (Addr×Obj)}{σ:St}{H:Hp}{s:Shared}{h':Heap}{ch:List Addr}{a:Addr}{o:HO}
/-- records of ours have turned,and a new object is laid and tracked -/
theorem Inv.many {t':Nat}(I:Inv X pins σ H s)(hch:∀b∈ch,dh X pins H b)(k:∀b ob,b ∉ ch->s.heap.get? b=some ob->h'.get? b=some ob)(hp:s.heap.objs.size<=a)(new:aQ X.prog X.w (upd H a o) h' a o) :
   Inv X pins σ (upd H a o) { s with heap:=h',toks:=t' }:=by
 have hn:H a=none:=I.hok.fresh hp
 have na:∀b ob,s.heap.get? b=some ob->b≠a:=fun b ob e=>Ex (Eu (Ek e) hp)
 have nch:∀b u,H b=some u->b ∉ ch:=fun b u e z=>by rw [(hch b z).1] at e; cases e
 refine I.step (g':=s.gens) (d':=s.drawn) (ch:=ch) (fun b hb=>⟨(hch b hb).2.2.2.1,(hch b hb).2.1,(hch b hb).2.2.2.2.1,(hch b hb).2.2.2.2.2⟩) (fun b ob _ _ hc e _=>k b ob hc e) (fun b ob _ _ hc e _=>⟨ob.slots,k b ob hc e⟩)
   (fun b ob _ e n=>by rw [aB (na b ob e)]; exact n) (fun b ob hc e=>⟨ob,k b ob hc e⟩) (fun b xs e=>by rw [aB (au e hn)]; exact e) (fun b ob u e=>by rw [aB (au e hn)]; exact e)
   (fun b ps e=>⟨#[],by rw [aB (au e hn),e]; simp⟩) (fun m hm=>?_) (fun b u e=>?_) I.bare
 · obtain ⟨ob,es,ep,ho,r⟩:=hm
   exact ⟨ob,es,ep,k _ ob (fun z=>(hch _ z).2.1 rfl) ho,r⟩
 · by_cases hb:b=a
   · subst hb; rw [ae] at e; cases e; exact new
   · rw [aB hb] at e
     refine (I.hok b u e).stay (fun c v hc q=>k c v ?_ q) (fun c q=>by rw [aB (au q hn)]; exact q) fun c xs q=>by rw [aB (au q hn)]; exact q
     rcases hc with z | z
     · subst z; exact nch c u e
     · exact nch c _ z
theorem Inv.many0 {t':Nat}(I:Inv X pins σ H s)(hch:∀b∈ch,dh X pins H b)(k:∀b ob,b ∉ ch->s.heap.get? b=some ob->h'.get? b=some ob) :
   Inv X pins σ H { s with heap:=h',toks:=t' }:=by
 have nch:∀b u,H b=some u->b ∉ ch:=fun b u e z=>by rw [(hch b z).1] at e; cases e
 refine I.step (g':=s.gens) (d':=s.drawn) (ch:=ch) (fun b hb=>⟨(hch b hb).2.2.2.1,(hch b hb).2.1,(hch b hb).2.2.2.2.1,(hch b hb).2.2.2.2.2⟩) (fun b ob _ _ hc e _=>k b ob hc e) (fun b ob _ _ hc e _=>⟨ob.slots,k b ob hc e⟩)
   (fun b ob _ e n=>n) (fun b ob hc e=>⟨ob,k b ob hc e⟩) (fun b xs e=>e) (fun b ob u e=>e)
   (fun b ps e=>⟨#[],by rw [e]; simp⟩) (fun m hm=>?_) (fun b u e=>?_) I.bare
 · obtain ⟨ob,es,ep,ho,r⟩:=hm
   exact ⟨ob,es,ep,k _ ob (fun z=>(hch _ z).2.1 rfl) ho,r⟩
 · refine (I.hok b u e).stay (fun c v hc q=>k c v ?_ q) (fun c q=>q) fun c xs q=>q
   rcases hc with z | z
   · subst z; exact nch c u e
   · exact nch c _ z
end

/-! ### zip of two lists,walked by a tuple of names -/
end L2
set_option Elab.async false
set_option linter.all false
set_option maxRecDepth 100000
namespace PySem
theorem kd:typeLookup (.type "list") "keys"=pure none:=by rw [typeLookup_type,builtinLookup_eq_fast]; kernel_rfl
section
variable {prog:Program}{w:World}{A:Around}{E:Value->Shared->Prop}{s:Shared}
theorem eR {a:Addr}{xs:Array Value}{k:Nat}{u:Tok}{Q:Value->Shared->Prop}(hx:s.heap.get? a=some { cls:=.type "list",data:=.seq xs k })(hA:A.handled=none)
   (h:∀h' tk e,Heap.NewAttrErr s.heap h' e (.ref a) "keys"->E (.ref e) { s with heap:=h',toks:=tk }) :
   wpAny (model prog w) A (getAttrBy (.ref a) (.str "keys" u) false) Q E s:=by
 obtain ⟨hp,g,d,tk,os⟩:=s
 have hT:∀tk',(⟨hp,g,d,tk',os⟩ : Shared).TypeIs (.ref a) "list":=fun _=>⟨_,hx,rfl⟩
 have f1:=sub_AttributeError
 have f3:=F.slot_list_getattribute.lookup
 have f4:=F.slot_list_getattribute.bind (.ref a)
 have f5:=am_list_getattr_none
 unfold getAttrBy
 repeat (any_goals (first | assumption | exact hT _ | ((with_reducible show wpAny _ _ (call (Value.builtin "list.__getattribute__") _ _) _ _ _); refine call_meets F.slot_list_getattribute (hT _) am_entry_list_getattribute (F.args_list_getattribute_2 _ _) (meets_getattribute_miss_list a xs k #[] "keys" _ kd (by decide +kernel)) ⟨hx,hA,fun h' tk' e hx'=>?_⟩) | wp_step))
 obtain ⟨t',u',he⟩:=hx'.there
 show wpAny _ _ (getattributeRaised _ _ _ _ _ _ _) _ _ _
 unfold getattributeRaised
 repeat (any_goals (first | assumption | wp_step))
 exact h _ _ _ hx'
theorem gh {a:Addr}{xs:Array Value}{k:Nat}{Q:Option Value->Shared->Prop}(hx:s.heap.get? a=some { cls:=.type "list",data:=.seq xs k })(hA:A.handled=none)
   (h:∀h' tk,(∀b o,s.heap.get? b=some o->h'.get? b=some o)->Q none { s with heap:=h',toks:=tk }):wpAny (model prog w) A (getAttr? (.ref a) "keys") Q E s:=by
 unfold getAttr? getAttrBy?
 refine wpAny_bind (wpAny_mkText (wpAny_bind (wpAny_attempt (eR hx hA fun h' tk e ne=>?_))))
 obtain ⟨t',u',he⟩:=ne.there
 refine wpAny_bind (wpAny_isInstance (T:="AttributeError") (b:=true) ⟨_,he,rfl⟩ sub_AttributeError ?_)
 exact wpAny_pure (h h' _ ne.keeps)
theorem ke {t:Addr}{vs:Array Value}{Q:List Value->Shared->Prop}(ht:s.heap.IsTuple t vs)(h:Q vs.toList s):wpAny (model prog w) A (GV (.ref t)) Q E s:=by
 obtain ⟨o,ho,hc,n,hd⟩:=ht
 unfold GV
 refine wpAny_bind (wpAny_typeOf (T:="tuple") ⟨o,ho,hc⟩ ?_)
 rw [if_pos (by decide)]
 refine wpAny_bind ?_
 obtain ⟨hp,g,d,tk,os⟩:=s
 unfold seqItems?
 repeat (any_goals (first | assumption | wp_step))
 all_goals (first | (rw [hd]; repeat (any_goals (first | assumption | wp_step))) | skip)
end
end PySem
set_option Elab.async false
set_option linter.all false
set_option maxRecDepth 100000
namespace L2
open PySem PySem.Spec PyProof.Rows
section
variable {X:Cx}
/-! ### dict(xs),xs a list of pairs -/
theorem dw:entryFor table "dict.update.loop"=some Builtin.«dict.update.loop»:=entryFor_of_tree (by kernel_rfl)
end
end L2
set_option Elab.async false
set_option linter.all false
set_option maxRecDepth 100000
namespace L2
open PySem PySem.Spec PyProof.Rows SeqAt

/-! ### equality,to any depth -/
inductive EB (K:D9) (H:Hp):Nat->V->V->Bool->Prop where
 | flat {n:Nat} {x y:V}:bV x=true->bV y=true->EB K H n x y (ft x y)
 | same {n:Nat} {a:Addr}:EB K H n (.ref a) (.ref a) true
 | lst {n:Nat} {a b:Addr} {xs ys:List V} {e:Nat->Bool}:a≠b->aA K H a xs->aA K H b ys->xs.length=ys.length->(∀j x y,xs[j]? = some x->ys[j]? = some y->EB K H n x y (e j)) ->
     EB K H (n + 1) (.ref a) (.ref b) ((Ew xs.length).all e)
 | len {n:Nat} {a b:Addr} {xs ys:List V}:a≠b->aA K H a xs->aA K H b ys->xs.length≠ys.length->EB K H n (.ref a) (.ref b) false
 | tup {n:Nat} {a b:Addr} {xs ys:List V} {e:Nat->Bool}:a≠b->ar K H a xs->ar K H b ys->(∀j x y,xs[j]? = some x->ys[j]? = some y->EB K H n x y (e j)) ->
     EB K H (n + 1) (.ref a) (.ref b) ((Ew (min xs.length ys.length)).all e && xs.length == ys.length)
section
variable {X:Cx}{pins:List (Addr×Obj)}{σ:St}{H:Hp}{s:Shared}
theorem cg {K:D9}{n:Nat}{A:Around}{xs ys:List V}{us vs:List Value}{e:Nat->Bool}(rv:Vals xs us)(rw':Vals ys vs)
   (h:∀j x y,xs[j]? = some x->ys[j]? = some y->∀(A:Around) (u v:Value),RelV x u->RelV y v->A.units + n < cLine->EqAt A s u v (e j)) (hu:A.units + (n + 1) < cLine) :
   ∀j (h1:j < us.toArray.size) (h2:j < vs.toArray.size),EqAt A.in1 s us.toArray[j] vs.toArray[j] (e j):=fun j h1 h2=>by
 have l1:=rv.length
 have l2:=rw'.length
 have h1':j < us.length:=by simpa using h1
 have h2':j < vs.length:=by simpa using h2
 have hx:xs[j]? = some (xs[j]'(by omega)):=Eg _
 have hy:ys[j]? = some (ys[j]'(by omega)):=Eg _
 obtain ⟨u,hu1,ru⟩:=rv.get hx
 obtain ⟨v,hv1,rv1⟩:=rw'.get hy
 have eu:us[j]=u:=by have:=Eg h1'; rw [hu1] at this; exact (EH this).symm
 have ev:vs[j]=v:=by have:=Eg h2'; rw [hv1] at this; exact (EH this).symm
 have q:=h j _ _ hx hy A.in1 u v ru rv1 (by show A.units + 1 + n < cLine; omega)
 simpa [eu,ev] using q
theorem EB.at (I:Inv X pins σ H s){n:Nat}{x y:V}{b:Bool}(q:EB X.K H n x y b):∀(A:Around) (u v:Value),RelV x u->RelV y v->A.units + n < cLine->EqAt A s u v b:=by
 induction q with
 | flat h1 h2=>exact fun A u v ru rv _=>jO ru rv h1 h2
 | same=>intro A u v ru rv _; cases ru; cases rv; exact EqAt.same _
 | @lst n a b xs ys e hne ha hb hl _ ih=>
   intro A u v ru rv hu
   cases ru; cases rv
   obtain ⟨us,r1,p1,_⟩:=I.list ha
   obtain ⟨vs,r2,p2,_⟩:=I.list hb
   have l1:=r1.length
   have l2:=r2.length
   have q:=RcAt.lists (A:=A) p1.isList p2.isList (by simp; omega) (by omega) (cg (K:=X.K) r1 r2 ih hu)
   rw [show us.toArray.size=xs.length by simp [l1]] at q
   exact EqAt.of_refs hne q
 | @len n a b xs ys hne ha hb hl=>
   intro A u v ru rv hu
   cases ru; cases rv
   obtain ⟨us,r1,p1,_⟩:=I.list ha
   obtain ⟨vs,r2,p2,_⟩:=I.list hb
   have l1:=r1.length
   have l2:=r2.length
   exact EqAt.of_refs hne (RcAt.lists_lengths p1.isList p2.isList (by simp; omega) (by omega))
 | @tup n a b xs ys e hne ha hb _ ih=>
   intro A u v ru rv hu
   cases ru; cases rv
   obtain ⟨us,r1,p1,_⟩:=I.tuple ha
   obtain ⟨vs,r2,p2,_⟩:=I.tuple hb
   have l1:=r1.length
   have l2:=r2.length
   have q:=RcAt.tuples (A:=A) (show s.heap.IsTuple a us.toArray from p1) (show s.heap.IsTuple b vs.toArray from p2) (by omega) (cg (K:=X.K) r1 r2 ih hu)
   rw [show us.toArray.size=xs.length by simp [l1],show vs.toArray.size=ys.length by simp [l2]] at q
   exact EqAt.of_refs hne q
end
/-- == of two lists,or of two tuples (at the top no look at whether they are one) -/
def RB (K:D9)(H:Hp)(n:Nat)(x y:V)(b:Bool):Prop:=∃a c xs ys,x=.ref a/\y=.ref c /\
 ((∃e:Nat->Bool,aA K H a xs/\aA K H c ys/\xs.length=ys.length/\(∀j x y,xs[j]? = some x->ys[j]? = some y->EB K H n x y (e j))/\b=(Ew xs.length).all e) \/
  (aA K H a xs/\aA K H c ys/\xs.length≠ys.length/\b=false) \/
  (∃e:Nat->Bool,ar K H a xs/\ar K H c ys/\(∀j x y,xs[j]? = some x->ys[j]? = some y->EB K H n x y (e j))/\b=((Ew (min xs.length ys.length)).all e && xs.length == ys.length)))
section
variable {X:Cx}
theorem yG {m:Nat}(hu:X.A.units + (m + 1) < cLine):dS X (compareOp .Eq) (fun x y H Q=>∃b,RB X.K H m x y b/\Q (.bl b) H):=by
 intro pins s σ H x y v u Q I rx ry h
 obtain ⟨b,⟨a,c,xs,ys,rfl,rfl,q⟩,k⟩:=h
 cases rx; cases ry
 rcases q with ⟨e,ha,hb,hl,he,rfl⟩ | ⟨ha,hb,hl,rfl⟩ | ⟨e,ha,hb,he,rfl⟩
 · obtain ⟨us,r1,p1,_⟩:=I.list ha
   obtain ⟨vs,r2,p2,_⟩:=I.list hb
   have l1:=r1.length
   have l2:=r2.length
   refine eq_listAt p1.isList p2.isList (by simp; omega) (by omega) (cg (K:=X.K) r1 r2 (fun j x y h1 h2=>(he j x y h1 h2).at I) hu) ?_
   rw [show us.toArray.size=xs.length by simp [l1]]
   exact ⟨.bl _,H,I,rfl,k⟩
 · obtain ⟨us,r1,p1,_⟩:=I.list ha
   obtain ⟨vs,r2,p2,_⟩:=I.list hb
   have l1:=r1.length
   have l2:=r2.length
   exact eq_list_lengthsAt p1.isList p2.isList (by simp; omega) (by omega) ⟨.bl _,H,I,rfl,k⟩
 · obtain ⟨us,r1,p1,_⟩:=I.tuple ha
   obtain ⟨vs,r2,p2,_⟩:=I.tuple hb
   have l1:=r1.length
   have l2:=r2.length
   refine eq_tupleAt (show s.heap.IsTuple a us.toArray from p1) (show s.heap.IsTuple c vs.toArray from p2) (by omega) (cg (K:=X.K) r1 r2 (fun j x y h1 h2=>(he j x y h1 h2).at I) hu) ?_
   rw [show us.toArray.size=xs.length by simp [l1],show vs.toArray.size=ys.length by simp [l2]]
   exact ⟨.bl _,H,I,rfl,k⟩
theorem yL {m:Nat}(hu:X.A.units + (m + 1) < cLine):dS X (compareOp .NotEq) (fun x y H Q=>∃b,RB X.K H m x y b/\Q (.bl (!b)) H):=by
 intro pins s σ H x y v u Q I rx ry h
 obtain ⟨b,⟨a,c,xs,ys,rfl,rfl,q⟩,k⟩:=h
 cases rx; cases ry
 rcases q with ⟨e,ha,hb,hl,he,rfl⟩ | ⟨ha,hb,hl,rfl⟩ | ⟨e,ha,hb,he,rfl⟩
 · obtain ⟨us,r1,p1,_⟩:=I.list ha
   obtain ⟨vs,r2,p2,_⟩:=I.list hb
   have l1:=r1.length
   have l2:=r2.length
   refine RcNeAt.lists p1.isList p2.isList (by simp; omega) (by omega) (cg (K:=X.K) r1 r2 (fun j x y h1 h2=>(he j x y h1 h2).at I) hu) X.prog X.w X.xe _ ?_
   rw [show us.toArray.size=xs.length by simp [l1]]
   exact ⟨.bl _,H,I,rfl,k⟩
 · obtain ⟨us,r1,p1,_⟩:=I.list ha
   obtain ⟨vs,r2,p2,_⟩:=I.list hb
   have l1:=r1.length
   have l2:=r2.length
   exact RcNeAt.lists_lengths p1.isList p2.isList (by simp; omega) (by omega) X.prog X.w X.xe _ ⟨.bl _,H,I,rfl,k⟩
 · obtain ⟨us,r1,p1,_⟩:=I.tuple ha
   obtain ⟨vs,r2,p2,_⟩:=I.tuple hb
   have l1:=r1.length
   have l2:=r2.length
   refine RcNeAt.tuples (show s.heap.IsTuple a us.toArray from p1) (show s.heap.IsTuple c vs.toArray from p2) (by omega) (cg (K:=X.K) r1 r2 (fun j x y h1 h2=>(he j x y h1 h2).at I) hu) X.prog X.w X.xe _ ?_
   rw [show us.toArray.size=xs.length by simp [l1],show vs.toArray.size=ys.length by simp [l2]]
   exact ⟨.bl _,H,I,rfl,k⟩
end
/-- the true case -/
def ET (K:D9)(H:Hp)(n:Nat)(x y:V):Prop:=EB K H n x y true
theorem all_true {n:Nat}:(Ew n).all (fun _=>true)=true:=by rw [Fh]; intro _ _; rfl
theorem ET.lst {K:D9}{H:Hp}{n:Nat}{a b:Addr}{xs ys:List V}(ha:aA K H a xs)(hb:aA K H b ys)(hl:xs.length=ys.length)(h:∀(j:Nat) (x y:V),xs[j]? = some x->ys[j]? = some y->ET K H n x y):ET K H (n + 1) (.ref a) (.ref b):=by
 by_cases e:a=b
 · subst e; exact .same
 · have q:=EB.lst (e:=fun _=>true) e ha hb hl h
   rw [all_true] at q
   exact q
theorem ET.tup {K:D9}{H:Hp}{n:Nat}{a b:Addr}{xs ys:List V}(ha:ar K H a xs)(hb:ar K H b ys)(hl:xs.length=ys.length)(h:∀(j:Nat) (x y:V),xs[j]? = some x->ys[j]? = some y->ET K H n x y):ET K H (n + 1) (.ref a) (.ref b):=by
 by_cases e:a=b
 · subst e; exact .same
 · have q:=EB.tup (e:=fun _=>true) e ha hb h
   rw [all_true,hl,beq_self_eq_true] at q
   exact q
theorem rh {x:V}(h:bV x=true):ft x x=true:=by cases x <;> simp_all [bV,ft]
theorem ET.refl {K:D9}{H:Hp}{n:Nat}{x:V}(h:bV x=true\/∃a,x=.ref a):ET K H n x x:=by
 rcases h with h | ⟨a,rfl⟩
 · have q:=EB.flat (K:=K) (H:=H) (n:=n) h h
   rw [rh h] at q
   exact q
 · exact .same
theorem RB.lst {K:D9}{H:Hp}{n:Nat}{a b:Addr}{xs ys:List V}(ha:aA K H a xs)(hb:aA K H b ys)(hl:xs.length=ys.length)(h:∀(j:Nat) (x y:V),xs[j]? = some x->ys[j]? = some y->ET K H n x y):RB K H n (.ref a) (.ref b) true:=
 ⟨a,b,xs,ys,rfl,rfl,.inl ⟨fun _=>true,ha,hb,hl,h,all_true.symm⟩⟩
theorem RB.tup {K:D9}{H:Hp}{n:Nat}{a b:Addr}{xs ys:List V}(ha:ar K H a xs)(hb:ar K H b ys)(hl:xs.length=ys.length)(h:∀(j:Nat) (x y:V),xs[j]? = some x->ys[j]? = some y->ET K H n x y):RB K H n (.ref a) (.ref b) true:=
 ⟨a,b,xs,ys,rfl,rfl,.inr (.inr ⟨fun _=>true,ha,hb,h,by rw [all_true,hl,beq_self_eq_true]; rfl⟩)⟩
/-- xs == [] -/
theorem RB.nil {K:D9}{H:Hp}{n:Nat}{a b:Addr}{xs:List V}(ha:aA K H a xs)(hb:aA K H b []):RB K H n (.ref a) (.ref b) xs.isEmpty:=by
 cases xs with
 | nil=>exact RB.lst ha hb rfl (fun j x y h=>by simp at h)
 | cons x r=>exact ⟨a,b,_,[],rfl,rfl,.inr (.inl ⟨ha,hb,by simp,rfl⟩)⟩

section
variable {X:Cx}{pos:Pos}
/-! ### (a,b,..)=a list of that length -/
/-! ### greater numbers -/
def wz (i j:Int):Prop:=0 < j/\j < 2 ^ 1000
theorem sO:dS X (binaryOp .FloorDiv) (rI wz fun i j=>.int (i / j)):=B6 fun i j _ _ _ _ _ hc q=>by
 have h1:(0:Int) < j:=hc.1
 have h2:j < 2 ^ 1000:=hc.2
 have h3:j.natAbs < 2 ^ 1000:=by omega
 exact floordiv_int (by omega) (by rw [Int.fdiv_eq_ediv_of_nonneg i (by omega)]; exact q) (.inl (PyProof.noPylong_of_log2 (Eu ((Nat.log2_lt (by omega)).mpr h3) (by decide))))
/-! ### isinstance(x,T),T a built-in type -/
theorem qS:bZ X (.builtin "isinstance") (fun xs H Q=>∃x n t b,xs=[x,.ty n]/\TyOf X.K H x t/\FZ X.K t (.type n)=some b/\Q (.bl b) H):=by
 intro pins s σ H xs us Q I r h
 obtain ⟨x,n,t,b,rfl,ty,e,q⟩:=h
 obtain ⟨u,v,rfl,ru,rv⟩:=Vals.two r
 obtain rfl:v=FD n:=rv
 exact p7 I ru ty e fun tk=>⟨.bl b,H,I.tok tk,rfl,q⟩
end
end L2
set_option Elab.async false
set_option linter.all false
set_option maxRecDepth 100000
namespace TW
open PySem L2

/-! ### sums and conditions,as data and in the heap -/
inductive K2 where
 | plus | less | same | under | both
def K2.str:K2->Str
 | .plus=>"plus" | .less=>"less" | .same=>"same" | .under=>"under" | .both=>"both"
inductive E where
 | num (n:Int) | box (tag x:Str) | yes | nt (a:E) | two (k:K2) (a b:E)
def Tp (H:Hp)(v:V)(xs:List V):Prop:=∃p,v=.ref p/\H p=some (.tup xs)
def ej (H:Hp):V->E->Prop
 | v,.num n=>Tp H v [.str "number",.int n]
 | v,.box t x=>Tp H v [.str t,.str x]
 | v,.yes=>Tp H v [.str "yes"]
 | v,.nt a=>∃x,Tp H v [.str "not",x]/\ej H x a
 | v,.two k a b=>∃x y,Tp H v [.str k.str,x,y]/\ej H x a/\ej H y b
/-- tuples stay -/
def TK (H H':Hp):Prop:=∀b xs,H b=some (.tup xs)->H' b=some (.tup xs)
theorem TK.trans {A B C:Hp}(a:TK A B)(b:TK B C):TK A C:=fun c o h=>b c o (a c o h)
theorem Tp.keep {H H':Hp}{v:V}{xs:List V}(k:TK H H')(h:Tp H v xs):Tp H' v xs:=let ⟨p,e,q⟩:=h; ⟨p,e,k p xs q⟩
theorem ej.keep {H H':Hp}(k:TK H H'):∀{e:E} {v:V},ej H v e->ej H' v e
 | .num _,_,h=>Tp.keep k h
 | .box _ _,_,h=>Tp.keep k h
 | .yes,_,h=>Tp.keep k h
 | .nt _,_,⟨x,h,a⟩=>⟨x,h.keep k,ej.keep k a⟩
 | .two _ _ _,_,⟨x,y,h,a,b⟩=>⟨x,y,h.keep k,ej.keep k a,ej.keep k b⟩
def E.dep:E->Nat
 | .num _=>0 | .box _ _=>0 | .yes=>0 | .nt a=>a.dep + 1 | .two _ a b=>max a.dep b.dep + 1
/-- a sum,a condition -/
def E.isS:E->Prop
 | .num _=>True
 | .box _ _=>True
 | .two .plus a b=>a.isS/\b.isS
 | .two .less a b=>a.isS/\b.isS
 | _=>False
def E.isC:E->Prop
 | .yes=>True
 | .nt a=>a.isC
 | .two .same a b=>a.isS/\b.isS
 | .two .under a b=>a.isS/\b.isS
 | .two .both a b=>a.isC/\b.isC
 | _=>False
/-- each box is one of these -/
def E.okIn (P:Str->Str->Prop):E->Prop
 | .num n=>n.natAbs < 2 ^ 100 | .box t x=>P t x | .yes=>True | .nt a=>a.okIn P | .two _ a b=>a.okIn P/\b.okIn P
def E.worth (w:Str->Str->Int):E->Int
 | .num n=>n
 | .box t x=>w t x
 | .two .plus a b=>a.worth w + b.worth w
 | .two .less a b=>a.worth w - b.worth w
 | _=>0
def E.holds (w:Str->Str->Int):E->Bool
 | .yes=>true
 | .nt a=>!(a.holds w)
 | .two .same a b=>decide (a.worth w=b.worth w)
 | .two .under a b=>decide (a.worth w < b.worth w)
 | .two .both a b=>a.holds w && b.holds w
 | _=>false
/-! ### nodes -/
/-! ### the deck,and what stays -/
theorem ag {H:Hp}{p:Addr}(h:H p=none)(o:HO):ah H (upd H p o):=fun b u q=>by rw [aB (au q h)]; exact q
theorem ah.tk {H H':Hp}(s:ah H H'):TK H H':=fun b xs h=>s b _ h
theorem zF {H:Hp}{p:Addr}(h:H p=none)(o:HO):TK H (upd H p o):=ah.tk (ag h o)
theorem small {n:Nat}(h:n<=1000):n<=sizeLine:=E9 (ax h)

/-! ### programs -/
def cw (H:Hp)(v:V)(b:Str×Int):Prop:=Tp H v [.str b.1,.int b.2]
end TW
set_option Elab.async false
set_option linter.all false
set_option maxRecDepth 100000
set_option exponentiation.threshold 4000
namespace TW
open PySem L2
/-! ### defs of the text,with their promises -/
def Src (K:D9)(mg:Str->Option Value)(x:Str)(st:Stmt):Prop:=∃f fd,bQ K x x st f fd/\mg x=some (.ref f)
def aC (P:Program)(w:World)(K:D9)(mg:Str->Option Value)(base:Heap)(x:Str)(ps:List Str)(k:Nat)(sp:Sp):Prop:=
 ∃f fd,aI P w K mg base CX0 k f fd ps sp/\F1 K (.ref f)=true/\Binds K fd ps []/\mg x=some (.ref f)
theorem aC.mono {P:Program}{w:World}{K:D9}{mg:Str->Option Value}{base:Heap}{x:Str}{ps:List Str}{j k:Nat}{sp:Sp}(h:aC P w K mg base x ps j sp)(hk:j<=k):aC P w K mg base x ps k sp:=
 let ⟨f,fd,a,b,c,d⟩:=h; ⟨f,fd,a.mono hk,b,c,d⟩
/-! ### small facts -/
theorem bz {A:Around}{k:Nat}(hr:cG k A)(m:Nat)(hm:m<=64):A.units + m < cLine:=by have:=hr.units; omega
end TW
set_option Elab.async false
set_option linter.all false
set_option maxRecDepth 100000
namespace L2
open PySem PySem.Spec PyProof.Rows
/-! ### arguments: that none is starred,once for each kind of expression -/
structure bp (e:Expr):Prop where
 h:∀(es:List Expr) (env:Env),starEach (e :: es) env=(false,eval e env) :: starEach es env
theorem eS {e:Expr}(h:∀x p,e≠.Starred x p):bp e:=⟨fun es env=>by
 cases e <;> first | rfl | exact absurd rfl (h _ _)⟩
theorem iq {c k p}:bp (.Constant c k p):=eS fun _ _ z=>nomatch z
theorem gG {x p}:bp (.Name x p):=eS fun _ _ z=>nomatch z
theorem gv {f a k p}:bp (.Call f a k p):=eS fun _ _ z=>nomatch z
theorem r8 {a o b p}:bp (.BinOp a o b p):=eS fun _ _ z=>nomatch z
theorem kh {a b p}:bp (.Subscript a b p):=eS fun _ _ z=>nomatch z
theorem sh {a b p}:bp (.Tuple a b p):=eS fun _ _ z=>nomatch z
theorem sg {a p}:bp (.List a p):=eS fun _ _ z=>nomatch z
theorem r9 {a b c p}:bp (.Compare a b c p):=eS fun _ _ z=>nomatch z
theorem wM {a b c p}:bp (.ListComp a b c p):=eS fun _ _ z=>nomatch z
def eC (es:List Expr):Prop:=∀(pos:Pos) (env:Env),(backTo pos (starEach es env)).any (·.1)=false
theorem vk:eC []:=fun _ _=>rfl
theorem sj {e:Expr}{es:List Expr}(h:bp e)(hs:eC es):eC (e :: es):=fun pos env=>by
 rw [h.h es env]
 exact hs pos env
structure qM (X:Cx)(es:List Expr)(t:TA):Prop where
 pa:PA X es t
 ns:∀e r,es=e :: r->bp e/\eC r
 nss:eC es
section
variable {X:Cx}{e:Expr}{es:List Expr}{te:TE}{t:TA}{pos:Pos}
theorem an:qM X [] zD:=⟨yP,(fun _ _ z=>nomatch z),vk⟩
theorem ac (ha:PE X e te)(hr:qM X es t)
   (hs:bp e:=by first | exact iq | exact gG | exact gv | exact r8 | exact kh | exact sh | exact sg | exact r9 | exact wM | exact ns_dc | exact ns_un | exact ns_bool | exact ns_attr):qM X (e :: es) (t9 te t):=
 ⟨vH ha hr.pa (hs.h es X.env),fun e' r z=>by injection z with z1 z2; subst z1 z2; exact ⟨hs,hr.nss⟩,sj hs hr.nss⟩
theorem C7 {x1}(h:qM X es t):PE X (.Tuple es x1 pos) (zE t):=yY h.pa
theorem C5 (h:qM X es t):PE X (.List es pos) (zC t):=yT h.pa
theorem zI {x:Str}{p:Pos}{id:String}{r:List V->Hp->VK->Prop}(hc:bZ X (.builtin id) r)(hg:Gl X x)(hm:X.mg x=none)(hv:bootBuiltins x=some (.builtin id))(ha:qM X (e :: es) t)(hn:x≠"__name__":=by decide)(hdb:(x == ("__debug__":Str))=false:=by decide) :
   PE X (.Call (.Name x p) (e :: es) [] pos) (zW r t):=sP hc hg hm hv ha.pa hn hdb ((ha.ns e es rfl).1.h es X.env) ((ha.ns e es rfl).2 pos X.env)
theorem zJ {x:Str}{p:Pos}{T:String}{r:List V->Hp->VK->Prop}(hc:bZ X (.type T) r)(hg:Gl X x)(hm:X.mg x=none)(hv:bootBuiltins x=some (.type T))(ha:qM X (e :: es) t)(hn:x≠"__name__":=by decide)(hdb:(x == ("__debug__":Str))=false:=by decide) :
   PE X (.Call (.Name x p) (e :: es) [] pos) (zW r t):=qu hc hg hm hv ha.pa hn hdb ((ha.ns e es rfl).1.h es X.env) ((ha.ns e es rfl).2 pos X.env)
theorem C6 {x:Str}{p:Pos}{ps:List Str}{k:Nat}{sp:Sp}(D:TW.aC X.prog X.w X.K X.mg X.base x ps k sp)(hr:cG k X.A)(hg:Gl X x)(ha:qM X (e :: es) t)(hdb:(x == ("__debug__":Str))=false:=by decide) :
   PE X (.Call (.Name x p) (e :: es) [] pos) (t6 sp [] E0 t):=
 let ⟨_,_,G,kp,b,m⟩:=D
 vJ G hr hg m kp b .nil A6 ha.pa hdb ((ha.ns e es rfl).1.h es X.env) ((ha.ns e es rfl).2 pos X.env)
theorem wx {tg a:Expr}{ta:TA}{p:Pos}(hg:Gl X "range")(hm:X.mg "range"=none)(ha:qM X [a] ta):PI X tg (.Call (.Name "range" p) [a] [] pos) (rR ta):=
 qv hg hm ha.pa ((ha.ns a [] rfl).1.h [] X.env)
/-- o.m(e),a builtin's method -/
theorem C4 {o:Expr}{name:Str}{apos:Pos}{T id:String}{r:V->List V->Hp->VK->Prop}{to:TE}(pa:PlainAttrs T)(slot:Slot T name id)(hty:typeOf (.builtin id)=pure (.type "method_descriptor"))(hm:zM X id r)(ho:PE X o to)(ha:qM X [e] t)
   (hbase:attributeBase o name X.env (eval o X.env)=eval o X.env:=by rfl) (hline:(apos.endLine == pos.line)=true:=by rfl):PE X (.Call (.Attribute o name apos) [e] [] pos) (zA X.K T r to t):=
 wR pa slot hty hm ho ha.pa hbase (by rw [(ha.ns e [] rfl).1.h [] X.env]; rfl) hline ((ha.ns e [] rfl).1.h [] X.env) ((ha.ns e [] rfl).2 pos X.env)
end
end L2
set_option Elab.async false
set_option linter.all false
set_option maxRecDepth 100000
/-! THE SEALED JUDGEMENTS: as the layer's,but nothing looks into them while a term of rules is read (an elaborator that opens PE runs the model). -/
namespace L3
open PySem PySem.Spec PyProof.Rows L2
structure SE (X:Cx)(e:Expr)(t:TE):Prop where
 h:PE X e t
structure ST (X:Cx)(e:Expr)(t:TT):Prop where
 h:PT X e t
structure SW (X:Cx)(e:Expr)(t:TT):Prop where
 h:PW X e t
structure SA (X:Cx)(es:List Expr)(t:TA):Prop where
 h:qM X es t
structure SS (X:Cx)(s:Stmt)(t:TS):Prop where
 h:PS X s t
structure SL (X:Cx)(ss:List Stmt)(t:TS):Prop where
 h:mv X ss t
structure SG (X:Cx)(e:Expr)(t:TG):Prop where
 h:PG X e t
structure BX (X:Cx)(es:List Expr)(t:TGs):Prop where
 h:z6 X es t
structure SI (X:Cx)(tg iter:Expr)(t:TI):Prop where
 h:PI X tg iter t
structure z9 (X:Cx)(cs:List Expr)(t:TT):Prop where
 h:jI X cs t
structure SO (X:Cx)(f:Value->Value->Sem Value)(r:R2):Prop where
 h:dS X f r
structure SX (X:Cx)(r:R2):Prop where
 h:BU X r
structure SC (X:Cx)(f:Value)(r:List V->Hp->VK->Prop):Prop where
 h:bZ X f r
structure SM (X:Cx)(id:String)(r:V->List V->Hp->VK->Prop):Prop where
 h:zM X id r
section
variable {X:Cx}{a b c e o:Expr}{es:List Expr}{ta tb tc te:TE}{t:TA}{tA uB:TT}{pos:Pos}{r:R2}
/-! names,constants -/
theorem v (i:Nat){x:Str}(hN:X.N[i]? = some x:=by rfl)(hv:B0 X.env.scope x:=by first | exact Or.inl rfl | exact Or.inr (Or.inl rfl) | exact Or.inr (Or.inr rfl))(hd:(x == ("__debug__":Str))=false:=by decide)
   (hcd:(x == ("__classdict__":Str))=false:=by decide):SE X (.Name x pos) (BL i):=⟨yZ hN hv hd hcd⟩
theorem int {i j}:SE X (.Constant (.int i) j pos) (tC (.int i)):=⟨yS⟩
theorem bl {k j}:SE X (.Constant (.bool k) j pos) (tC (.bl k)):=⟨A7⟩
theorem aU {j}:SE X (.Constant .none j pos) (tC .aU):=⟨yU⟩
theorem str {x j}:SE X (.Constant (.str x) j pos) (tC (.str x)):=⟨yX⟩
theorem glob {x:Str}{w:V}{u:Value}(hg:Gl X x)(hm:X.mg x=some u)(r:RelV w u)(hd:(x == ("__debug__":Str))=false:=by decide):SE X (.Name x pos) (tC w):=⟨vN hg hm r hd⟩
theorem bo {x:Str}{w:V}{u:Value}(hg:Gl X x)(hm:X.mg x=none)(hv:bootBuiltins x=some u)(r:RelV w u)(hn:x≠"__name__":=by decide)(hd:(x == ("__debug__":Str))=false:=by decide):SE X (.Name x pos) (tC w):=⟨vI hg hm hv r hn hd⟩
/-! operations -/
theorem op {k:Operator}(ho:SO X (binaryOp k) r)(ha:SE X a ta)(hb:SE X b tb):SE X (.BinOp a k b pos) (xh r ta tb):=⟨Ba ho.h ha.h hb.h⟩
theorem cmp {k:CmpOp}(ho:SO X (compareOp k) r)(ha:SE X a ta)(hb:SE X b tb)(hm:behindInMarks k b=false:=by exact mS _):ST X (.Compare a [k] [b] pos) (xi (xh r ta tb)):=⟨vY ho.h ha.h hb.h hm⟩
theorem bM {k:CmpOp}(ho:SO X (compareOp k) r)(ha:SE X a ta)(hb:SE X b tb)(hm:behindInMarks k b=false:=by exact mS _):SE X (.Compare a [k] [b] pos) (xh r ta tb):=⟨vK ho.h ha.h hb.h hm⟩
theorem dz:SO X (binaryOp .Add) (oB fun i j=>.int (i + j)):=⟨yE⟩
theorem fW:SO X (binaryOp .Sub) (oB fun i j=>.int (i - j)):=⟨yN⟩
theorem iu:SO X (binaryOp .Mult) (rI uq fun i j=>.int (i * j)):=⟨yK⟩
theorem eT:SO X (binaryOp .Mod) (rI (fun _ j=>0 < j) fun i j=>.int (i % j)):=⟨yJ⟩
theorem oq:SO X (binaryOp .FloorDiv) (rI wz fun i j=>.int (i / j)):=⟨sO⟩
theorem wQ:SO X (binaryOp .Pow) (rI zY fun i j=>.int (i ^ j.toNat)):=⟨yM⟩
theorem lL:SO X (binaryOp .Add) Bh:=⟨yF⟩
theorem aP:SO X (compareOp .Eq) Dp:=⟨AZ⟩
theorem vm:SO X (compareOp .NotEq) Dq:=⟨A4⟩
theorem mU:SO X (compareOp .Lt) (oB fun i j=>.bl (decide (i < j))):=⟨A3⟩
theorem sv:SO X (compareOp .Gt) (oB fun i j=>.bl (decide (j < i))):=⟨A1⟩
theorem Az:SO X (compareOp .GtE) (oB fun i j=>.bl (decide (j<=i))):=⟨A0⟩
theorem AA:SO X (compareOp .LtE) (oB fun i j=>.bl (decide (i<=j))):=⟨A2⟩
theorem wN {KK:D9}{m:Nat}(hu:X.A.units + (m + 1) < cLine)(hK:X.K=KK:=by first | exact cxC_K | rfl):SO X (compareOp .Eq) (fun x y H Q=>∃b,RB KK H m x y b/\Q (.bl b) H):=by
 subst hK
 exact ⟨yG hu⟩
theorem jz {KK:D9}{m:Nat}(hu:X.A.units + (m + 1) < cLine)(hK:X.K=KK:=by first | exact cxC_K | rfl):SO X (compareOp .NotEq) (fun x y H Q=>∃b,RB KK H m x y b/\Q (.bl (!b)) H):=by
 subst hK
 exact ⟨yL hu⟩
theorem sC {KK:D9}(hK:X.K=KK:=by first | exact cxC_K | rfl):SO X (compareOp .In) (B8 KK false):=by
 subst hK
 exact ⟨qp⟩
theorem ko {KK:D9}(hK:X.K=KK:=by first | exact cxC_K | rfl):SO X (compareOp .NotIn) (B8 KK true):=by
 subst hK
 exact ⟨kr⟩
theorem dY:SO X (compareOp .Is) (fun x y H Q=>y=.aU/\Q (.bl (decide (x=.aU))) H):=⟨yI⟩
/-! and,or,not -/
theorem mi {rest:List Expr}(ha:ST X a tA)(hb:SW X (.BoolOp .Or (b :: rest) pos) uB):SW X (.BoolOp .Or (a :: b :: rest) pos) (Dv tA uB):=⟨Bg ha.h hb.h⟩
theorem qt (ha:ST X a tA):SW X (.BoolOp .Or [a] pos) tA:=⟨zg ha.h⟩
theorem c8 {rest:List Expr}(ha:ST X a tA)(hb:SW X (.BoolOp .And (b :: rest) pos) uB):SW X (.BoolOp .And (a :: b :: rest) pos) (Bz tA uB):=⟨zf ha.h hb.h⟩
theorem c7 (ha:ST X a tA):SW X (.BoolOp .And [a] pos) tA:=⟨vZ ha.h⟩
theorem tw (h:SW X e tA):ST X e tA:=⟨h.h.pt⟩
theorem nt (ha:ST X a tA):ST X (.UnaryOp .Not a pos) (BF tA):=⟨zd ha.h⟩
theorem a8 (h:SE X e te)(he:∀whole,isTrue e X.env whole=(do let v ← whole; standAt e.pos; holding [v] (truthy v)):=by intro _; rfl):ST X e (tB te):=⟨ze h.h he⟩
/-! items,slices,displays -/
theorem ix (hr:SX X r)(ha:SE X a ta)(hb:SE X b tb)(hs:nA b:=by exact fun _ _=>rfl):SE X (.Subscript a b pos) (xh r ta tb):=⟨A8 hr.h ha.h hb.h hs⟩
theorem c9 {KK:D9}(hK:X.K=KK:=by first | exact cxC_K | rfl):SX X (Bk KK):=by
 subst hK
 exact ⟨vf⟩
theorem aK {KK:D9}(hK:X.K=KK:=by first | exact cxC_K | rfl):SX X (Bl KK):=by
 subst hK
 exact ⟨ye⟩
theorem uF (hu:X.A.units + 1 < cLine)(ho:SE X a ta)(hi:SE X b tb)(hs:xk b:=by exact fun _ _=>rfl):SE X (.Subscript a b pos) (xa ta tb):=⟨vL hu ho.h hi.h hs⟩
theorem v9 {KK:D9}{p2:Pos}(ha:SE X a ta)(hb:SE X b tb)(hK:X.K=KK:=by first | exact cxC_K | rfl):SE X (.Subscript a (.Slice none (some b) none p2) pos) (BK (zh KK) ta e8 (me tb)):=by
 subst hK
 exact ⟨eU oH ha.h gJ (gK hb.h)⟩
theorem n:SA X [] zD:=⟨an⟩
theorem k (ha:SE X e te)(hr:SA X es t)(hs:bp e:=by first | exact iq | exact gG | exact gv | exact r8 | exact kh | exact sh | exact sg | exact r9 | exact wM | exact ns_dc | exact ns_un | exact ns_bool | exact ns_attr) :
   SA X (e :: es) (t9 te t):=⟨ac ha.h hr.h hs⟩
theorem tup {x1}(h:SA X es t):SE X (.Tuple es x1 pos) (zE t):=⟨C7 h.h⟩
theorem lst (h:SA X es t):SE X (.List es pos) (zC t):=⟨C5 h.h⟩
/-! calls -/
theorem aD {x:Str}{p:Pos}{id:String}{rr:List V->Hp->VK->Prop}(hc:SC X (.builtin id) rr)(hg:Gl X x)(hm:X.mg x=none)(hv:bootBuiltins x=some (.builtin id))(ha:SA X (e :: es) t)(hn:x≠"__name__":=by decide)(hdb:(x == ("__debug__":Str))=false:=by decide) :
   SE X (.Call (.Name x p) (e :: es) [] pos) (zW rr t):=⟨zI hc.h hg hm hv ha.h hn hdb⟩
theorem bU {x:Str}{p:Pos}{T:String}{rr:List V->Hp->VK->Prop}(hc:SC X (.type T) rr)(hg:Gl X x)(hm:X.mg x=none)(hv:bootBuiltins x=some (.type T))(ha:SA X (e :: es) t)(hn:x≠"__name__":=by decide)(hdb:(x == ("__debug__":Str))=false:=by decide) :
   SE X (.Call (.Name x p) (e :: es) [] pos) (zW rr t):=⟨zJ hc.h hg hm hv ha.h hn hdb⟩
theorem own {x:Str}{p:Pos}{ps:List Str}{kk:Nat}{sp:Sp}(D:TW.aC X.prog X.w X.K X.mg X.base x ps kk sp)(hr:cG kk X.A)(hg:Gl X x)(ha:SA X (e :: es) t)(hdb:(x == ("__debug__":Str))=false:=by decide) :
   SE X (.Call (.Name x p) (e :: es) [] pos) (t6 sp [] E0 t):=⟨C6 D hr hg ha.h hdb⟩
theorem Cp {KK:D9}{name:Str}{apos:Pos}{T id:String}{rr:V->List V->Hp->VK->Prop}(pa:PlainAttrs T)(slot:Slot T name id)(hty:typeOf (.builtin id)=pure (.type "method_descriptor"))(hm:SM X id rr)(ho:SE X o ta)(ha:SA X [e] t)
   (hbase:attributeBase o name X.env (eval o X.env)=eval o X.env:=by rfl) (hline:(apos.endLine == pos.line)=true:=by rfl) (hK:X.K=KK:=by first | exact cxC_K | rfl):SE X (.Call (.Attribute o name apos) [e] [] pos) (zA KK T rr ta t):=by
 subst hK
 exact ⟨C4 pa slot hty hm.h ho.h ha.h hbase hline⟩
theorem append {KK:D9}{apos:Pos}(ho:SE X o ta)(ha:SA X [e] t)(hbase:attributeBase o "append" X.env (eval o X.env)=eval o X.env:=by rfl)(hline:(apos.endLine == pos.line)=true:=by rfl)(hK:X.K=KK:=by first | exact cxC_K | rfl):SE X (.Call (.Attribute o "append" apos) [e] [] pos) (zA KK "list" oz ta t):=by
 subst hK
 exact Cp Fp PySem.F.slot_list_append PySem.F.type_list_append ⟨jx⟩ ho ha hbase hline
theorem ba {KK:D9}(hK:X.K=KK:=by first | exact cxC_K | rfl):SC X (.builtin "len") (fun xs H Q=>∃p ys,xs=[.ref p]/\(aA KK H p ys\/ar KK H p ys)/\Q (.int ys.length) H):=by
 subst hK
 exact ⟨jK⟩
theorem fh {KK:D9}(hK:X.K=KK:=by first | exact cxC_K | rfl):SC X (.type "list") (fun xs H Q=>∃p ys,xs=[.ref p]/\(aA KK H p ys\/ar KK H p ys)/\∀l,H l=none->Q (.ref l) (upd H l (.lst ys))):=by
 subst hK
 exact ⟨jL⟩
theorem nJ:SC X (.type "int") (fun xs H Q=>(∃i,xs=[.int i]/\Q (.int i) H)\/∃k,xs=[.bl k]/\Q (.int (if k then 1 else 0)) H):=⟨oZ⟩
/-! targets -/
theorem gn (i:Nat){x:Str}(hN:X.N.Nodup)(hi:X.N[i]? = some x:=by rfl)(hx:Loc X.env.scope x:=by first | exact Or.inl rfl | exact Or.inr rfl)(hf:X.fn x=true\/X.env.scope.names.lookup x=some .local:=by first | exact .inl rfl | exact .inr rfl):SG X (.Name x pos) (fS i):=⟨vO hN hi hx hf⟩
theorem iP:BX X [] An:=⟨vP⟩
theorem b5 {t:TG}{u:TGs}(h1:SG X e t)(h2:BX X es u)(hs:(assignEach (e :: es) X.env).map (·.2)=assign e X.env :: (assignEach es X.env).map (·.2):=by rfl):BX X (e :: es) (wG t u):=⟨sV h1.h h2.h hs⟩
theorem cv {KK:D9}{kk:Nat}{t:TGs}(m:Nat)(h:BX X es t)(hc:X.calm=true:=by rfl)(hn:(assignEach es X.env).length=m:=by rfl)(hst:(assignEach es X.env).findIdx? (·.1)=none:=by rfl)(hK:X.K=KK:=by first | exact cxC_K | rfl):SG X (.Tuple es kk pos) (Ao KK m t):=by
 subst hK
 exact ⟨y3 hc h.h hn hst⟩
theorem Ap {cc:Const}{j:Nat}{p:Pos}(ho:SE X a ta)(hi:SE X (.Constant cc j p) tb):SG X (.Subscript a (.Constant cc j p) pos) (xH ta tb tE):=⟨sU ho.h hi.h set_list (fun _=>rfl)⟩
/-! what is walked -/
theorem iL {KK:D9}{tg:Expr}(h:SE X a ta)(hK:X.K=KK:=by first | exact cxC_K | rfl):SI X tg a (wI KK ta):=by
 subst hK
 exact ⟨vR h.h⟩
theorem iT {KK:D9}{tg:Expr}(h:SE X a ta)(hK:X.K=KK:=by first | exact cxC_K | rfl):SI X tg a (Av KK ta):=by
 subst hK
 exact ⟨y6 h.h⟩
theorem iR {tg:Expr}{p:Pos}(hg:Gl X "range")(hm:X.mg "range"=none)(ha:SA X [a] t):SI X tg (.Call (.Name "range" p) [a] [] pos) (rR t):=⟨wx hg hm ha.h⟩
theorem i9:z9 X [] zB:=⟨CK⟩
theorem if1 (h:ST X a tA):z9 X [a] tA:=⟨CL h.h⟩
/-! comprehensions -/
theorem lc {tg iter elt:Expr}{ifs:List Expr}{sc:Scope}{wi:TI}{g:TG}{tifs:TT}(src:List (Option Nat))(N':List Str)(S:av sc X.env.scope)(hcap:bP sc src N' X.N=true)(hi:SI X tg iter wi)
   (hb:∀s H C fp xe,SG (dr X N' sc s H C fp xe) tg g/\z9 (dr X N' sc s H C fp xe) ifs tifs/\SE (dr X N' sc s H C fp xe) elt te) (hc:X.calm=true:=by rfl)
   (hs:∀x,foldedSetIterable iter X.env x=pure x:=by intro _; rfl):SE X (.ListComp elt [⟨tg,iter,ifs,0⟩] sc pos) (dE src (.lst []) wi g tifs (cj te)):=
 ⟨A9 src N' hc S hcap hi.h (fun s H C fp xe=>⟨(hb s H C fp xe).1.h,(hb s H C fp xe).2.1.h,(hb s H C fp xe).2.2.h⟩) hs⟩
theorem DQ {tg iter elt:Expr}{ifs:List Expr}{sc:Scope}{wi:TI}{g:TG}{tifs:TT}{i:Nat}{x:Str}{pos' pos2:Pos}(src:List (Option Nat))(N':List Str)(S:av sc X.env.scope)(hcap:bP sc src N' X.N=true)(hi:SI X tg iter wi)
   (hb:∀s H C fp xe,SG (dr X N' sc s H C fp xe) tg g/\z9 (dr X N' sc s H C fp xe) ifs tifs/\SE (dr X N' sc s H C fp xe) elt te) (hN:X.N.Nodup) (hix:X.N[i]? = some x:=by rfl) (hx:Loc X.env.scope x:=by exact Or.inl rfl)
   (hsw:swapsWith (.ListComp elt [⟨tg,iter,ifs,0⟩] sc pos) (some (.Name x pos')) pos2.line X.env=pure true:=by rfl) (hc:X.calm=true:=by rfl)
   (hs:∀x,foldedSetIterable iter X.env x=pure x:=by intro _; rfl) (hf:X.fn x=true\/X.env.scope.names.lookup x=some .local:=by first | exact .inl rfl | exact .inr rfl) :
   SS X (.Assign [.Name x pos'] (.ListComp elt [⟨tg,iter,ifs,0⟩] sc pos) pos2) (m7 (dE src (.lst []) wi g tifs (cj te)) (fS i)):=
 ⟨Bf src N' hc S hcap hi.h (fun s H C fp xe=>⟨(hb s H C fp xe).1.h,(hb s H C fp xe).2.1.h,(hb s H C fp xe).2.2.h⟩) hN hix hx hsw hs hf⟩
/-! statements -/
variable {st:Stmt}{rest:List Stmt}{u1 u2:TS}
theorem nil:SL X [] xf:=⟨vW⟩
theorem cons (h1:SS X st u1)(h2:SL X rest u2):SL X (st :: rest) (m8 u1 u2):=⟨sZ h1.h h2.h⟩
theorem one (h1:SS X st u1):SL X [st] u1:=⟨vX h1.h⟩
theorem ret (he:SE X e te):SS X (.Return (some e) pos) (BJ te):=⟨zb he.h⟩
theorem ex (he:SE X e te)(hs:swapsWith e none pos.line X.env=pure false:=by rfl):SS X (.Expr e pos) (xc te):=⟨vV he.h hs⟩
theorem ifs {tc:TT}{x y:List Stmt}(hc:ST X c tc)(ha:SL X x u1)(hb:SL X y u2):SS X (.If c x y pos) (BD tc u1 u2):=⟨Be hc.h ha.h hb.h⟩
theorem set (i:Nat){x:Str}{pos':Pos}(hN:X.N.Nodup)(he:SE X e te)(hi:X.N[i]? = some x:=by rfl)(hx:Loc X.env.scope x:=by first | exact Or.inl rfl | exact Or.inr rfl)(hs:swapsWith e (some (.Name x pos')) pos.line X.env=pure false:=by rfl)(hf:X.fn x=true\/X.env.scope.names.lookup x=some .local:=by first | exact .inl rfl | exact .inr rfl) :
   SS X (.Assign [.Name x pos'] e pos) (m7 te (fS i)):=⟨zc hN hi hx he.h hs hf⟩
theorem asg {tg:Expr}{g:TG}(he:SE X e te)(hg:SG X tg g)(hs:swapsWithSole [tg] e pos.line X.env=pure false:=by rfl)(hw:swappedStores [tg] e X.env=pure none:=by rfl)
   (h1:(assignEach [tg] X.env).map (·.2)=[assign tg X.env]:=by rfl):SS X (.Assign [tg] e pos) (m7 te g):=⟨y8 he.h hg.h hs hw h1⟩
theorem cq {tg iter:Expr}{body:List Stmt}{wi:TI}{g:TG}(hi:SI X tg iter wi)(hg:SG X tg g)(hb:SL X body u1)(hp:PassesOwn (model X.prog X.w) X.A X.env X.xe:=by exact HV)(hc:X.calm=true:=by rfl)
   (hs:∀x,foldedSetIterable iter X.env x=pure x:=by intro _; rfl):SS X (.For tg iter body [] pos) (BC wi g u1):=⟨za hp hc hi.h hg.h hb.h hs⟩
end
end L3
set_option Elab.async false
set_option linter.all false
set_option maxRecDepth 100000
namespace L3
open PySem PySem.Spec PyProof.Rows L2
section
variable {X:Cx}{a b c e o:Expr}{es:List Expr}{ta tb tc te:TE}{t:TA}{tA uB:TT}{pos:Pos}{r:R2}
theorem neg (ha:SE X a ta):SE X (.UnaryOp .USub a pos) (Dw (rU fun i=>.int (-i)) ta):=⟨Bc zG ha.h⟩
theorem B5 (ha:SE X a ta):SE X (.UnaryOp .Not a pos) (xg ta):=⟨yV ha.h⟩
theorem bI {rest:List Expr}(ha:SE X a ta)(hb:SE X (.BoolOp .And (b :: rest) pos) tb):SE X (.BoolOp .And (a :: b :: rest) pos) (w6 ta tb):=⟨yQ ha.h hb.h⟩
theorem yO {rest:List Expr}(ha:SE X a ta)(hb:SE X (.BoolOp .Or (b :: rest) pos) tb):SE X (.BoolOp .Or (a :: b :: rest) pos) (BG ta tb):=⟨Bb ha.h hb.h⟩
theorem dj {op}(ha:SE X a ta):SE X (.BoolOp op [a] pos) ta:=⟨yW ha.h⟩
theorem Di (hc:ST X c tA)(ha:SE X a ta)(hb:SE X b tb):SE X (.IfExp c a b pos) (Du tA ta tb):=⟨sT hc.h ha.h hb.h⟩
theorem kq:SO X (compareOp .IsNot) (fun x y H Q=>y=.aU/\Q (.bl (!decide (x=.aU))) H):=⟨vG⟩
theorem Aq {x:Str}{p:Pos}(ho:SE X a ta)(hi:SE X (.Name x p) tb):SG X (.Subscript a (.Name x p) pos) (xH ta tb tE):=⟨sU ho.h hi.h set_list (fun _=>rfl)⟩
end
end L3
set_option Elab.async false
set_option linter.all false
set_option maxRecDepth 100000
namespace L2
open PySem PySem.Spec PyProof.Rows
/-! ### len(set(xs)),xs a list of unlike texts -/
end L2
set_option Elab.async false
set_option linter.all false
set_option maxRecDepth 100000
namespace L2
open PySem PySem.Spec PyProof.Rows
end L2
namespace L3
open PySem PySem.Spec PyProof.Rows L2
theorem clear {X:Cx}{o:Expr}{ta:TE}{apos pos:Pos}{KK:D9}(ho:SE X o ta)(hbase:attributeBase o "clear" X.env (eval o X.env)=eval o X.env:=by rfl)(hline:(apos.endLine == pos.line)=true:=by rfl)(hK:X.K=KK:=by first | exact cxC_K | rfl) :
   SE X (.Call (.Attribute o "clear" apos) [] [] pos) (BB KK "list" tu ta):=by
 subst hK
 exact ⟨yR Fp PySem.F.slot_list_clear PySem.F.type_list_clear rX ho.h hbase hline⟩
end L3
set_option Elab.async false
set_option linter.all false
set_option maxRecDepth 100000
namespace PySem
open Sem (wp)
/-! ### a zip whose tuple is handed out -/
end PySem
set_option Elab.async false
set_option linter.all false
set_option maxRecDepth 100000
namespace PySem
end PySem
set_option Elab.async false
set_option linter.all false
set_option maxRecDepth 100000
namespace L2
open PySem PySem.Spec PyProof.Rows
/-! ### dict(zip(a,b)),two lists of one length,the first of keys -/
end L2
set_option Elab.async false
set_option linter.all false
set_option maxRecDepth 100000
namespace L2
open PySem PySem.Spec PyProof.Rows
end L2
namespace L3
open PySem PySem.Spec PyProof.Rows L2
end L3
set_option Elab.async false
set_option linter.all false
set_option maxRecDepth 100000
namespace L2
open PySem PySem.Spec PyProof.Rows
end L2
namespace L3
open PySem PySem.Spec PyProof.Rows L2
section
variable {X:Cx}{a b c e o:Expr}{es:List Expr}{ta tb tc te:TE}{t:TA}{pos:Pos}
theorem extend {apos:Pos}{KK:D9}(ho:SE X o ta)(ha:SA X [e] t)(hbase:attributeBase o "extend" X.env (eval o X.env)=eval o X.env:=by rfl)(hline:(apos.endLine == pos.line)=true:=by rfl)(hK:X.K=KK:=by first | exact cxC_K | rfl) :
   SE X (.Call (.Attribute o "extend" apos) [e] [] pos) (zA KK "list" oA ta t):=by
 subst hK
 exact Cp Fp PySem.F.slot_list_extend PySem.F.type_list_extend ⟨qe⟩ ho ha hbase hline
theorem wD {f:Expr}{tf:TE}{apos:Pos}(hu:X.A.units + 1 < cLine)(ho:SE X o ta)(he:SE X e te)(hf:SE X f tf)(m:M2 X o "get" apos e f pos:=by exact ⟨rfl,rfl,rfl,rfl⟩):SE X (.Call (.Attribute o "get" apos) [e,f] [] pos) (ua ta te tf):=⟨sR hu ho.h he.h hf.h m⟩
theorem ui {cnd:Expr}{body:List Stmt}{tcn:TT}{u1:TS}(hcn:ST X cnd tcn)(hb:SL X body u1)(hp:PassesOwn (model X.prog X.w) X.A X.env X.xe:=by exact HV):SS X (.While cnd body [] pos) (ud tcn u1):=⟨sY hp hcn.h hb.h⟩
end
end L3
set_option Elab.async false
set_option linter.all false
set_option maxRecDepth 100000
/-! ### keys that are tuples with tuples within -/
namespace L2
open PySem PySem.Spec PyProof.Rows
end L2
set_option Elab.async false
set_option linter.all false
set_option maxRecDepth 100000
/-! ### a dict whose keys are tuples with tuples within -/
namespace L2
open PySem PySem.Spec PyProof.Rows
end L2
namespace L3
open PySem PySem.Spec PyProof.Rows L2
section
variable {X:Cx}{a b c e o:Expr}{es:List Expr}{ta tb tc te:TE}{t:TA}{pos pos':Pos}{P:Program}{w:World}
theorem dH {KK:D9}(hK:X.K=KK:=by first | exact cxC_K | rfl):SC X (.type "tuple") (fun xs H Q=>∃p ys,xs=[.ref p]/\aA KK H p ys/\∀l,H l=none->Q (.ref l) (upd H l (.tup ys))):=by
 subst hK
 refine ⟨fun pins s σ H xs us Q I r h=>?_⟩
 obtain ⟨p,ys,e,hq,q⟩:=h
 exact iX pins s σ H xs us Q I r ⟨p,ys,e,.inl ⟨hq,q⟩⟩
theorem Ag (hc:X.calm=true:=by rfl):SC X (.builtin "min") (fun xs H Q=>∃i j,xs=[.int i,.int j]/\Q (.int (if j < i then j else i)) H):=⟨pf hc⟩
end
end L3
set_option Elab.async false
set_option linter.all false
set_option maxRecDepth 100000
namespace L2
open PySem PySem.Spec PyProof.Rows
end L2
namespace L3
open PySem PySem.Spec PyProof.Rows L2
section
variable {X:Cx}{a b c e o:Expr}{es:List Expr}{ta tb tc te:TE}{t:TA}{pos:Pos}
theorem CW {KK:D9}{p2:Pos}(ha:SE X a ta)(hb:SE X b tb)(hK:X.K=KK:=by first | exact cxC_K | rfl):SE X (.Subscript a (.Slice (some b) none none p2) pos) (BK (zh KK) ta (me tb) e8):=by
 subst hK
 exact ⟨eU oH ha.h (gK hb.h) gJ⟩
end
end L3
set_option Elab.async false
set_option linter.all false
/-! ### runs of a step function -/
namespace TW
end TW
set_option Elab.async false
set_option linter.all false
set_option maxRecDepth 100000
namespace L2
open PySem PySem.Spec PyProof.Rows
end L2
namespace L3
open PySem PySem.Spec PyProof.Rows L2
end L3
set_option Elab.async false
set_option linter.all false
set_option maxRecDepth 100000
namespace L2
open PySem PySem.Spec PyProof.Rows SeqAt
end L2
namespace L3
open PySem PySem.Spec PyProof.Rows L2
end L3
set_option Elab.async false
set_option linter.all false
set_option maxRecDepth 100000
/-! ### exceptions: how one lies behind a call -/
namespace L2
open PySem PySem.Spec PyProof.Rows
end L2
set_option Elab.async false
set_option linter.all false
set_option maxRecDepth 100000
/-! ### own refusals: their classes,texts with parts,raise -/
namespace L2
open PySem PySem.Spec PyProof.Rows
/-! texts with parts -/
end L2
set_option Elab.async false
set_option linter.all false
set_option maxRecDepth 100000
namespace L2
open PySem PySem.Spec PyProof.Rows PySem.W PySem.Builtin PySem.Builtin.ObjectAttr PySem.Builtin.Getset_descriptor
end L2
set_option Elab.async false
set_option linter.all false
set_option maxRecDepth 100000
/-! ### an exception is caught -/
namespace L2
open PySem PySem.Spec PyProof.Rows
section
variable {M:Model}{A:Around}{E:Value->Shared->Prop}{s:Shared}{nm q:Str}{C N:Addr}{bs bm:List Value}{hdct:Bool}{sn:List Str}{sub:List Value}{ab:Bool}{col:Option Bool}{dd:Option Addr}{k0 k1 k2 k3 k5:Option Value}{newId:String}
 {nm' q':Str} {T N':Addr} {bs' bm':List Value} {hdct':Bool} {sn':List Str} {sub':List Value} {ab':Bool} {col':Option Bool} {dd':Option Addr} {j0 j1 j2 j3 j5:Option Value} {newId':String}
end
end L2
set_option Elab.async false
set_option linter.all false
set_option maxRecDepth 100000
/-! ### try .. except T as e: c=e -/
namespace L2
open PySem PySem.Spec PyProof.Rows
end L2
set_option Elab.async false
set_option linter.all false
set_option maxRecDepth 100000
/-! ### defs that may refuse -/
namespace L2
open PySem PySem.Spec PyProof.Rows
theorem fP:∀{ds:List Addr} {its:List Value},Vals (ds.map V.ref) its->its=ds.map Ep
 | [],_,.nil=>rfl
 | d :: ds,_,.cons r t=>by rw [fP t,show _=Ep d from r]; rfl
end L2
namespace TW
open PySem L2
end TW
namespace L3
open PySem PySem.Spec PyProof.Rows L2
end L3
set_option Elab.async false
set_option linter.all false
set_option maxRecDepth 100000
/-! ### count and index in a list of truths -/
namespace L2
open PySem PySem.Spec PyProof.Rows
end L2
namespace L3
open PySem PySem.Spec PyProof.Rows L2
end L3
set_option Elab.async false
set_option linter.all false
set_option maxRecDepth 100000
namespace L2
open PySem PySem.Spec PyProof.Rows
/-! ### len(set(xs)),xs a list of texts,some of them perhaps alike -/
section
variable {X:Cx}{a:Expr}{ta:TA}{p1 p2 pos pos2:Pos}
/-! ### xs.insert(i,y) -/
def oD:V->List V->Hp->VK->Prop:=fun x vs H Q=>∃l xs y i,x=.ref l/\vs=[.int i,y]/\H l=some (.lst xs)/\0<=i/\i<=(xs.length:Int)/\xs.length < 1000/\Q .aU (upd H l (.lst (xs.take i.toNat++y :: xs.drop i.toNat)))
theorem qg:BV X "list.insert" oD:=by
 intro pins s σ H x vs v us Q I rx rv h
 obtain ⟨l,xs,y,i,rfl,rfl,hH,h0,hk,hz,q⟩:=h
 cases rx
 obtain ⟨u1,u,rfl,⟨tk,rfl⟩,ru⟩:=Vals.two rv
 obtain ⟨z,its,n,r,hl,e⟩:=I.lstM hH
 have hlen:=r.length
 have fits:¬(!FR i)=true:=by
   have:FR i=true:=by
     unfold FR
     simp
     omega
   simp [this]
 have few:its.toArray.size<=sizeLine:=by rw [Ei]; exact EX (show _<=1000 by omega) (by decide)
 refine call_meets F.slot_list_insert ⟨_,e,rfl⟩ F.entry_list_insert (F.args_list_insert_3 _ _ _) (PySem.AutoSeq1.list_insert_list_int_val_1 l its.toArray n i tk u fits few) ⟨e,?_⟩
 refine ⟨.aU,_,I.lset (its':=its.take i.toNat++u :: its.drop i.toNat) hH e ?_ ((r.take i.toNat).append (.cons ru (r.drop i.toNat))) ?_,rfl,q⟩
 · have e1:(if i < 0 then (i + (its.toArray.size:Int)).toNat else min i.toNat its.toArray.size)=i.toNat:=by
     rw [if_neg (by omega),Ei]
     omega
   dsimp only
   rw [e1]
   apply Array.ext'
   simp
   exact EI (by rw [Fg]; exact Ee _)
 · rw [Eh,EO,Eo,Fg]
   exact EX (show _<=1000 by omega) (by decide)
end
end L2
namespace L3
open PySem PySem.Spec PyProof.Rows L2
section
variable {X:Cx}{a b c e o:Expr}{es:List Expr}{ta tb tc te:TE}{t:TA}{pos:Pos}
theorem insert {apos:Pos}{KK:D9}{e1 e2:Expr}(ho:SE X o ta)(ha:SA X [e1,e2] t)(hn:bp e2:=by first | exact iq | exact gG | exact gv | exact kh)(hbase:attributeBase o "insert" X.env (eval o X.env)=eval o X.env:=by rfl)(hline:(apos.endLine == pos.line)=true:=by rfl)(hK:X.K=KK:=by first | exact cxC_K | rfl) :
   SE X (.Call (.Attribute o "insert" apos) [e1,e2] [] pos) (zA KK "list" oD ta t):=by
 subst hK
 exact ⟨wR Fp PySem.F.slot_list_insert PySem.F.type_list_insert qg ho.h ha.h.pa hbase (by rw [(ha.h.ns e1 [e2] rfl).1.h [e2] X.env,hn.h [] X.env]; rfl) hline ((ha.h.ns e1 [e2] rfl).1.h [e2] X.env) ((ha.h.ns e1 [e2] rfl).2 pos X.env)⟩
end
end L3
set_option Elab.async false
set_option linter.all false
set_option maxRecDepth 100000
namespace L2
open PySem PySem.Spec PyProof.Rows
/-! ### a comprehension of two clauses -/
end L2
namespace L3
open PySem PySem.Spec PyProof.Rows L2
end L3
set_option Elab.async false
set_option linter.all false
set_option maxRecDepth 100000
namespace L2
open PySem PySem.Spec PyProof.Rows
/-! ### xs[::-1] -/
end L2
namespace L3
open PySem PySem.Spec PyProof.Rows L2
end L3
set_option Elab.async false
set_option linter.all false
/-! ### runs of one step function by those of another one -/
namespace TW
end TW
set_option Elab.async false
set_option linter.all false
set_option maxRecDepth 100000
namespace L3
open PySem PySem.Spec PyProof.Rows L2
section
variable {X:Cx}{a b o i value:Expr}{ta tb td ty tv:TE}{pos:Pos}
theorem tQ {KK:D9}{p2:Pos}(ha:SE X a ta)(hb:SE X b tb)(hK:X.K=KK:=by first | exact cxC_K | rfl):SE X (.Subscript a (.Slice none (some b) none p2) pos) (BK (zi KK) ta e8 (me tb)):=by
 subst hK
 exact ⟨eU tR ha.h gJ (gK hb.h)⟩
theorem mT {KK:D9}(hK:X.K=KK:=by first | exact cxC_K | rfl):SO X (binaryOp .Add) (tq KK):=by
 subst hK
 exact ⟨ot⟩
theorem dput {pos':Pos}(hu:X.A.units + 1 < cLine)(ho:SE X o td)(hi:SE X i ty)(hv:SE X value tv)(hs:swapsWith value (some (.Subscript o i pos')) pos.line X.env=pure false:=by rfl):SS X (.Assign [.Subscript o i pos'] value pos) (wZ td ty tv):=⟨vU hu ho.h hi.h hv.h hs⟩
end
end L3
set_option Elab.async false
set_option linter.all false
set_option maxRecDepth 100000
namespace L2
open PySem PySem.Spec PyProof.Rows
/-! ### xs[::n],n one or minus one -/
/-! ### a text and a text -/
/-! ### xs.index(n),a list of whole numbers -/
def oC (K:D9):V->List V->Hp->VK->Prop:=fun x vs H Q=>∃(l:Addr) (xs:List Int) (y:Int) (j:Nat),x=.ref l/\vs=[.int y]/\aA K H l (xs.map V.int)/\xs[j]? = some y/\(∀m,m < j->xs[m]? ≠ some y)/\xs.length<=1000/\Q (.int j) H
theorem oa:∀{xs:List Int} {its:List Value} {i:Nat} {a:Value},Vals (xs.map V.int) its->its[i]? = some a->∃t,a=.int (xs.getD i 0) t
 | [],_,_,_,.nil,h=>by simp at h
 | x :: xs,_,0,a,.cons r _,h=>by
   obtain ⟨t,e⟩:=r
   simp at h
   subst h
   exact ⟨t,e⟩
 | x :: xs,_,i + 1,a,.cons _ q,h=>by
   obtain ⟨t,e⟩:=oa (i:=i) q (by simpa using h)
   exact ⟨t,by simpa using e⟩
theorem qf {X:Cx}:zM X "list.index" (oC X.K):=by
 intro pins s σ H x vs v us Q I rx rv h
 obtain ⟨l,xs,y,j,rfl,rfl,hq,hj,hno,h1000,q⟩:=h
 cases rx
 obtain ⟨u,rfl,ru⟩:=rv.one
 obtain ⟨its,rl,pl,hz⟩:=I.list hq
 have hlen:=rl.length
 rw [Ea] at hlen
 have hjl:j < xs.length:=(List.getElem?_eq_some_iff.mp hj).1
 obtain ⟨o,ho,hcl,n,hd⟩:=pl.isList
 obtain ⟨oc,od,oda,osl⟩:=o
 simp only at hcl hd
 subst hcl
 subst hd
 have tx:∀m (hm:m < its.toArray.size),∃t,its.toArray[m]=GG (xs[m]'(by simp at hm; omega)) t:=fun m hm=>by
   have hm':m < xs.length:=by simp at hm; omega
   obtain ⟨t,e⟩:=oa (xs:=xs) (i:=m) rl (show its[m]? = some (its.toArray[m]) by simp at hm ⊢)
   refine ⟨t,e.trans ?_⟩
   rw [ED,Eg hm']
   rfl
 let e:Value->Bool:=fun a=>match a with | .int z _=>decide (z=y) | _=>false
 refine call_meets F.slot_list_index ⟨_,ho,rfl⟩ F.entry_list_index (F.args_list_index_2 _ _) (SeqAt.list_indexAt l its.toArray n od osl u e j (by simp; omega) (by omega) ?hit ?no) ⟨ho,?eqs,?fin⟩
 case hit=>
   obtain ⟨t,et⟩:=tx j (by simp; omega)
   rw [et]
   show decide (_=y)=true
   rw [(List.getElem?_eq_some_iff.mp hj).2]
   simp
 case no=>
   intro m hm hmj
   obtain ⟨t,et⟩:=tx m hm
   rw [et]
   show decide (_=y)=false
   have hm':m < xs.length:=by simp at hm; omega
   have:=hno m hmj
   rw [Eg hm'] at this
   simpa using this
 case eqs=>
   intro a ha
   obtain ⟨m,hm,em⟩:=Array.getElem_of_mem ha
   obtain ⟨t,et⟩:=tx m hm
   rw [em] at et
   have r1:RelV (V.int (xs[m]'(by simp at hm; omega))) a:=⟨t,et⟩
   have h1:=jO (A:=X.A.in1) (s:=s) r1 ru rfl rfl
   have h2:ft (V.int (xs[m]'(by simp at hm; omega))) (.int y)=e a:=by
     rw [et]
     show decide (xs[m]'(by simp at hm; omega)=y)=decide (_=y)
     rfl
   rw [h2] at h1
   exact h1
 case fin=>exact ⟨.int j,H,I.tok _,⟨_,rfl⟩,q⟩
end L2
namespace L3
open PySem PySem.Spec PyProof.Rows L2
section
variable {X:Cx}{a b c e o:Expr}{es:List Expr}{ta tb tc te:TE}{t:TA}{pos:Pos}
theorem Aj:SE X (.Dict [] [] pos) uc:=⟨sS⟩
theorem x8 {apos:Pos}{KK:D9}(ho:SE X o ta)(ha:SA X [e] t)(hbase:attributeBase o "index" X.env (eval o X.env)=eval o X.env:=by rfl)(hline:(apos.endLine == pos.line)=true:=by rfl)(hK:X.K=KK:=by first | exact cxC_K | rfl) :
   SE X (.Call (.Attribute o "index" apos) [e] [] pos) (zA KK "list" (oC KK) ta t):=by
 subst hK
 exact Cp Fp PySem.F.slot_list_index PySem.F.type_list_index ⟨qf⟩ ho ha hbase hline
end
end L3
set_option Elab.async false
set_option linter.all false
set_option maxRecDepth 100000
/-! ### d.update(e),both dicts of tuples -/
namespace L2
open PySem PySem.Spec PyProof.Rows
section
variable {prog:Program}{w:World}{K:Type}[DecidableEq K]{knd:HeapKind prog w K}{A:Around}{E:Value->Shared->Prop}{s:Shared}
theorem iC {d a:Addr}{xs:List (K×Addr×Value)}{k:K}{v:Value}{Q:Unit->Shared->Prop}(hu:knd.room A)(hkey:knd.is s.heap k a)(hm:s.heap.DictOfH knd d xs)(hsz:xs.length<=sizeLine)
   (hQ:∀h',h'.DictOfH knd d (storedH xs k a v)->E8 d s.heap h'->Q () { s with heap:=h' }):wpAny (model prog w) A (dictSetHashed d (.ref a) (knd.hash k) v) Q E s:=by
 obtain ⟨o,es,ep,ho,hc,hd,he,his,hn⟩:=hm
 have hes:es.size<=sizeLine:=by rw [size_of_entries he]; exact hsz
 unfold dictSetHashed
 try with_reducible refine wpAny_holding ?_
 refine wpAny_bind (wpAny_dictFind_heap hu hkey ho hd he his hn (fun hno=>?_) (fun j p hj=>?_))
 · have e0:=storedH_new (atKey_none_of_get hno) a v
   have hnot:=not_mem_keys_of_get hno
   refine wpAny_bind (wpAny_rule (wpAny_updateDictKeys (hz:=hes) ho hd (hQ _ ⟨_,_,ep + 1,Fy _ ho (Obj.isFreed_of_dict (Obj.data_mapDictKeys hd _)),hc.mapDictKeys _,Obj.data_mapDictKeys hd _,?_,?_,?_⟩ (E3 ..))))
   · rw [e0]
     simp [he,entryOfKey]
   · rw [e0]
     intro x hx
     have h2:knd.is s.heap x.1 x.2.1:=by
       rcases List.mem_append.mp hx with hx | hx
       · exact his x hx
       · have ex:x=(k,a,v):=by simpa using hx
         subst ex
         exact hkey
     exact knd.keeps h2 ho hd (E3 ..)
   · rw [e0,En,Gb]
     refine ⟨hn,by simp,fun x hx y hy=>?_⟩
     have ey:y=k:=by simpa using hy
     subst ey
     exact fun e=>hnot (e ▸ hx)
 · have e0:=storedH_old (atKey_of_get hn hj) a v
   refine wpAny_bind (wpAny_rule (wpAny_bind (wpAny_updateDict ho hd (wpAny_point (hQ _ ⟨_,_,ep,Fy _ ho (Obj.isFreed_of_dict (Obj.data_mapDict hd _)),hc.mapDict _,Obj.data_mapDict hd _,?_,?_,?_⟩ (E3 ..))))))
   · rw [e0]
     have:=modify_map_putAt (entryOfKey knd) (fun e:DictEntry=>{ e with val:=v }) k v (fun _ _=>rfl) hn hj
     rw [← he] at this
     obtain ⟨l⟩:=es
     simpa using this
   · rw [e0]
     intro x hx
     obtain ⟨y,hy,rfl⟩:=List.mem_map.mp hx
     unfold putAt
     split <;> exact knd.keeps (his y hy) ho hd (E3 ..)
   · rw [e0,keys_map_putAt]
     exact hn
def bS (xs more:List (K×Addr×Value)):List (K×Addr×Value):=more.foldl (fun acc x=>storedH acc x.1 x.2.1 x.2.2) xs
theorem md (xs:List (K×Addr×Value))(k:K)(a:Addr)(v:Value):(storedH xs k a v).length<=xs.length + 1:=by
 unfold storedH
 split <;> simp
theorem fU:∀(more xs:List (K×Addr×Value)),(bS xs more).length<=xs.length + more.length
 | [],xs=>Ee _
 | x :: r,xs=>by
   have h1:=fU r (storedH xs x.1 x.2.1 x.2.2)
   have h2:=md xs x.1 x.2.1 x.2.2
   show (bS (storedH xs x.1 x.2.1 x.2.2) r).length<=_
   rw [EO]
   omega
theorem kg {xs more:List (K×Addr×Value)}{i:Nat}{x:K×Addr×Value}(h:more[i]? = some x):bS xs (more.take (i + 1))=storedH (bS xs (more.take i)) x.1 x.2.1 x.2.2:=by
 unfold bS
 rw [Er,h,List.foldl_append]
 rfl
theorem yq {nm:String}{d o:Addr}{xs more:List (K×Addr×Value)}{Q:Unit->Shared->Prop}(hu:knd.room A)(hdo:d≠o)(hoS:(o == sysModules)=false)(hd:s.heap.DictOfH knd d xs)(ho:s.heap.DictOfH knd o more)(hne:xs≠[]\/more=[])(hsz:xs.length + more.length<=sizeLine)
   (hQ:∀h',h'.DictOfH knd d (bS xs more)->E8 d s.heap h'->Q () { s with heap:=h' }):wpAny (model prog w) A (GW nm d o) Q E s:=by
 obtain ⟨od,esd,epd,hod,hcd,hdd,hed,hisd,hnd⟩:=id hd
 obtain ⟨oo,eso,epo,hoo,hco,hdo',heo,hiso,hno⟩:=id ho
 have hlen:eso.size=more.length:=size_of_entries heo
 unfold GW
 rw [if_neg (by simpa using hdo)]
 unfold F9
 rw [if_neg (by rw [hoS]; exact Ej)]
 refine wpAny_bind (wpAny_pure ?_)
 refine wpAny_bind (wpAny_dictEntries hoo hdo' ?_)
 have loop:wpAny (model prog w) A (do
     let epoch ← dictEpoch o
     let l ← dictEntries o
     forIn [:l.size] Ht fun i (_:PUnit)=>(do
         let l' ← dictEntries o
         match l'[i]? with
           | some e=>do
             holding [e.key,e.val] (dictSetHashed d e.key e.hash e.val)
             let ep' ← dictEpoch o
             if (ep' != epoch)=true then do
                 (unsupported (toString nm++toString ":source-changed-during-callback"):Sem PUnit)
                 pure (E5 Ht)
               else pure (E5 Ht)
           | _=>do
             (unsupported "internal:dict-merge":Sem PUnit)
             pure (E5 Ht):Sem (ForInStep PUnit))
     pure ()) Q E s:=by
   refine wpAny_bind (wpAny_dictEpoch hoo hdo' ?_)
   refine wpAny_bind (wpAny_dictEntries hoo hdo' ?_)
   refine wpAny_bind ?_
   rw [Std.Legacy.Range.forIn_eq_forIn_range']
   simp only [Std.Legacy.Range.size,FT,Nat.add_sub_cancel,Nat.div_one]
   refine wpAny_forIn_list _ (fun rest _ s'=>∃h' i,s'={ s with heap:=h' }/\rest=List.range' i (eso.size - i)/\i<=eso.size/\h'.DictOfH knd d (bS xs (more.take i))/\h'.get? o=some oo/\E8 d s.heap h') _ ?_ ?_ _ _
     ⟨s.heap,0,rfl,by simp,EC _,hd,hoo,Heap.SameBut.refl _ _⟩
   · rintro x rest b s' ⟨h',i,rfl,hr,hi,hd',hoo',hs'⟩
     have hlt:i < eso.size:=by
       rcases Nat.lt_or_ge i eso.size with h | h
       · exact h
       · rw [Nat.sub_eq_zero_of_le h] at hr
         simp at hr
     obtain ⟨rfl,hrest⟩ : x=i/\rest=List.range' (i + 1) (eso.size - (i + 1)):=by
       have e:eso.size - i=(eso.size - (i + 1)) + 1:=by omega
       rw [e,List.range'_succ] at hr
       injection hr with h1 h2
       exact ⟨h1,h2⟩
     refine wpAny_bind (wpAny_dictEntries hoo' hdo' ?_)
     have hml:x < more.length:=by omega
     have hkv:more[x]? = some more[x]:=Eg hml
     have hex:eso[x]? = some (entryOfKey knd more[x]):=by rw [entry_at heo x,hkv]; rfl
     rw [hex]
     have hmx:(bS xs (more.take x)).length<=sizeLine:=by
       have e1:=fU (more.take x) xs
       have e2:(more.take x).length<=more.length:=by rw [Eo]; omega
       omega
     have his2:knd.is h' more[x].1 more[x].2.1:=knd.keeps (hiso _ (FV hml)) hod hdd hs'
     show wpAny _ _ (holding [_,_] (dictSetHashed d (.ref more[x].2.1) (knd.hash more[x].1) more[x].2.2) >>= _) _ _ _
     refine wpAny_bind (wpAny_holding (iC hu his2 hd' hmx fun h'' hd'' hs''=>?_))
     have hoo'':h''.get? o=some oo:=(hs''.2 o (Ne.symm hdo)).trans hoo'
     refine wpAny_bind (wpAny_dictEpoch hoo'' hdo' ?_)
     rw [if_neg (by simp)]
     exact wpAny_pure ⟨h'',x + 1,rfl,hrest,hlt,by rw [kg hkv]; exact hd'',hoo'',hs'.trans hs''⟩
   · rintro b s' ⟨h',i,rfl,hr,hi,hd',hoo',hs'⟩
     have hin:i=eso.size:=by
       rcases Nat.lt_or_ge i eso.size with h | h
       · have e:eso.size - i=(eso.size - (i + 1)) + 1:=by omega
         rw [e,List.range'_succ] at hr
         exact nomatch hr
       · exact Nat.le_antisymm hi h
     refine wpAny_pure (hQ h' ?_ hs')
     rw [hin,hlen,EL] at hd'
     exact hd'
 dsimp only
 split
 · rename_i hfew
   refine wpAny_bind (wpAny_dictEntries hod hdd ?_)
   split
   · rename_i hemp
     exfalso
     rcases hne with z | z
     · have h0:esd = #[]:=Array.isEmpty_iff.mp hemp
       rw [h0] at hed
       exact z (List.length_eq_zero_iff.mp (by have:=congrArg List.length hed; simpa using this.symm))
     · have h0:eso = #[]:=by
         rw [z] at hlen
         exact Array.eq_empty_of_size_eq_zero hlen
       rw [h0] at hfew
       simp at hfew
   · exact loop
 · exact loop
end
section
variable {X:Cx}{pins:List (Addr×Obj)}{σ:St}{H:Hp}{s:Shared}{E:Value->Shared->Prop}
def putAllT (d:List (List Key×V))(kvs:List (List Key×V)):List (List Key×V):=kvs.foldl (fun d p=>putK d p.1 p.2) d
theorem fX:∀(kvs d:List (List Key×V)),(putAllT d kvs).length<=d.length + kvs.length
 | [],d=>by simp [putAllT]
 | p :: r,d=>by
   have h:=fX r (putK d p.1 p.2)
   have h2:=bb d p.1 p.2
   show (putAllT (putK d p.1 p.2) r).length<=_
   rw [EO]
   omega
theorem KT.merge {H:Hp}:∀{kv2:List (List Key×V)} {more:List (List Key×Addr×Value)},KT H kv2 more->∀{kvs:List (List Key×V)} {xs:List (List Key×Addr×Value)},KT H kvs xs->KT H (putAllT kvs kv2) (bS xs more):=by
 intro kv2 more r
 induction r with
 | nil=>exact fun h=>h
 | @cons p q ps qs h t ih=>
   intro kvs xs k
   obtain ⟨h1,h2,h3⟩:=h
   have k2:=k.put p.1 h2 h3
   rw [h1] at k2
   have e:putAllT kvs (p :: ps)=putAllT (putK kvs q.1 p.2) ps:=by rw [← h1]; rfl
   rw [e]
   exact ih k2
theorem qZ {d o:Addr}{kvs kv2:List (List Key×V)}{Q:Value->Shared->Prop}(hu:X.A.units + 1 < cLine)(I:Inv X pins σ H s)(ed:H d=some (.dT kvs))(eo:H o=some (.dT kv2))(hdo:d≠o)(hne:kvs≠[]\/kv2=[])(hsz:kvs.length + kv2.length<=sizeLine)
   (h:∀s',Inv X pins σ (upd H d (.dT (putAllT kvs kv2))) s'->Q .none s'):wpAny (model X.prog X.w) X.A (call (.builtin "dict.update") [.ref d,.ref o]) Q E s:=by
 obtain ⟨z1,hd1,xs,rel1,dd1⟩:=kY I.hok ed
 obtain ⟨z2,hd2,more,rel2,dd2⟩:=kY I.hok eo
 have l1:=Paired.length rel1
 have l2:=Paired.length rel2
 have M:MeetsIn X.prog X.w (Builtin.«dict.update» ⟨[.ref d,.ref o],[]⟩) (fun B R s=>(tupleKind (aN X.prog X.w)).room B.in1/\s.heap.DictOfH (tupleKind (aN X.prog X.w)) d xs/\s.heap.DictOfH (tupleKind (aN X.prog X.w)) o more /\
     ∀h',h'.DictOfH (tupleKind (aN X.prog X.w)) d (bS xs more)->E8 d s.heap h'->R (.ok (.ret .none)) { s with heap:=h' }):=
   .of_wp fun A R s ⟨hr,hd,ho,hh⟩=>by
     unfold Builtin.«dict.update»
     refine wpAny_bind ?_
     unfold GO
     refine wpAny_bind (wpAny_notOrdered_dict hd.typeIs ?_)
     show wpAny _ _ (pure (d,[Ep o])) _ _ s
     refine wpAny_pure ?_
     show wpAny _ _ (FF "dict.update" d (.ref o) [] .none) _ _ s
     unfold FF
     refine wpAny_bind (wpAny_typeOf ho.typeIs ?_)
     rw [if_neg (by decide)]
     refine wpAny_bind ?_
     unfold Builtin.Dict.merge
     refine wpAny_bind ?_
     unfold Builtin.Dict.readDirectly
     refine wpAny_bind (wpAny_isInstance ho.typeIs isSubtype_dict_dict ?_)
     simp only [GK,Et,if_false]
     refine wpAny_bind (wpAny_specialOf ho.typeIs F.slot_dict_iter.lookup (wpAny_pure ?_))
     simp only [beq_self_eq_true,if_true]
     refine wpAny_bind (wpAny_pure ?_)
     refine yq hr hdo hd2 hd ho ?_ (by omega) fun h' hd' hs'=>?_
     · rcases hne with z | z
       · refine .inl fun e=>z (List.length_eq_zero_iff.mp ?_)
         rw [l1,e]
         rfl
       · refine .inr (List.length_eq_zero_iff.mp ?_)
         rw [← l2,z]
         rfl
     show wpAny _ _ (GP d [] >>= _) _ _ _
     exact wpAny_bind (wpAny_pure (wpAny_pure ⟨.none,rfl,hh h' hd' hs'⟩))
 refine call_meetsIn G3 dd1.typeIs PySem.F.entry_dict_update (PySem.F.args_dict_update_2 _ _) M ⟨tupleKind_room_in1 hu,dd1,dd2,fun h' dd' hs=>h _ ?_⟩
 obtain ⟨q,es,ep,hq,h2,h3,h4,_,h5⟩:=dd'
 have hl:=fX kv2 kvs
 refine dJ (t':=s.toks) I (by rw [ed]; exact EG) hs ⟨q,hq⟩ ⟨by omega,hd1,_,(KT.merge rel2 rel1).keeps fun c ys ec=>?_,q,es,ep,hq,h2,h3,h4,h5⟩
 rw [aB (cC ec ed (fun z=>nomatch z))]
 exact ec
def xb (td ty:TE):TE:=fun σ H Q=>td σ H fun x H1=>∃a,x=.ref a/\Ci H1 a/\ty σ H1 fun y H2=>∃o kvs kv2,y=.ref o/\H2 a=some (.dT kvs)/\H2 o=some (.dT kv2)/\a≠o/\(kvs≠[]\/kv2=[])/\kvs.length + kv2.length<=sizeLine/\Q .aU (upd H2 a (.dT (putAllT kvs kv2)))
theorem vM {o e:Expr}{apos cpos:Pos}{td ty:TE}(hu:X.A.units + 1 < cLine)(ho:PE X o td)(he:PE X e ty)(m:M1 X o "update" apos e cpos):PE X (.Call (.Attribute o "update" apos) [e] [] cpos) (xb td ty):=by
 intro pins s σ H Q I h
 refine wpAny_Call_method m.base m.few m.line G9 G3 PySem.F.type_dict_update (a7 (ho pins s σ H _ I h) fun u s1 ⟨x,H1,I1,rx,a,ex,d,q1⟩=>?_)
 subst ex
 obtain rfl:u=Ep a:=rx
 obtain ⟨t1,t2,_⟩:=rV I1 d
 refine ⟨t1,t2,?_⟩
 rw [m.trees]
 refine FN rfl (Gs (F3 (a7 (he pins s1 σ H1 _ I1 q1) fun iv s2 ⟨y,H2,I2,ry,o2,kvs,kv2,ey,h1,h2,hne,hor,hsz,q2⟩=>GL ?_)))
 subst ey
 obtain rfl:iv=Ep o2:=ry
 exact qZ hu I2 h1 h2 hne hor hsz fun s3 I3=>⟨.aU,_,I3,rfl,q2⟩
end
end L2
namespace L3
open PySem PySem.Spec PyProof.Rows L2
theorem update {X:Cx}{o e:Expr}{ta te:TE}{pos apos:Pos}(hu:X.A.units + 1 < cLine)(ho:SE X o ta)(he:SE X e te)(m:M1 X o "update" apos e pos:=by exact ⟨rfl,rfl,rfl,rfl⟩):SE X (.Call (.Attribute o "update" apos) [e] [] pos) (xb ta te):=⟨vM hu ho.h he.h m⟩
end L3
set_option Elab.async false
set_option linter.all false
set_option maxRecDepth 100000
namespace PySem
open Sem (wp)
/-! ### a zip whose own tuple is free,out,or gone -/
end PySem
set_option Elab.async false
set_option linter.all false
set_option maxRecDepth 100000
namespace PySem
open Sem (wp)
open AutoSeq1 (wpAny_loadPart')
end PySem
namespace L2
open PySem PySem.Spec PyProof.Rows
end L2
namespace L3
open PySem PySem.Spec PyProof.Rows L2
end L3
set_option Elab.async false
set_option linter.all false
set_option maxRecDepth 100000
namespace L2
open PySem PySem.Spec PyProof.Rows
end L2
namespace L3
open PySem PySem.Spec PyProof.Rows L2
end L3
set_option Elab.async false
set_option linter.all false
/-! ### what is said for ever: the i-th number of a run -/
namespace TW
end TW
set_option Elab.async false
set_option linter.all false
set_option maxRecDepth 100000
namespace L2
open PySem PySem.Spec PyProof.Rows SeqAt
/-! ### lists of whole numbers,alike or not; tuples of lists and None -/
end L2
namespace L3
open PySem PySem.Spec PyProof.Rows L2
end L3
namespace TW
/-! ### what is alike,by the law's own look -/
end TW
set_option Elab.async false
set_option linter.all false
/-! ### runs walked side by side -/
namespace TW
/-! ### each number said one more -/
end TW
set_option Elab.async false
set_option linter.all false
set_option maxRecDepth 100000
namespace L2
open PySem PySem.Spec PyProof.Rows
section
variable {X:Cx}
theorem kP:∀{bs:List Bool} {us:List Value},Vals (bs.map V.bl) us->us=bs.map FI
 | [],_,.nil=>rfl
 | b :: bs,_,.cons r q=>by
   cases r
   rw [kP q]
   rfl
theorem oY (hc:X.calm=true):bZ X (.builtin "all") (fun xs H Q=>∃(l:Addr) (bs:List Bool),xs=[.ref l]/\aA X.K H l (bs.map V.bl)/\Q (.bl (bs.all id)) H):=by
 intro pins s σ H xs us Q I r h
 obtain ⟨l,bs,rfl,hq,q⟩:=h
 obtain ⟨u,rfl,ru⟩:=vals1 r
 obtain rfl:u=Ep l:=ru
 obtain ⟨its,rv,pl,_⟩:=I.list hq
 have e1:=kP rv
 subst e1
 have hl:=pl.isList
 have hlt:l < s.heap.objs.size:=by obtain ⟨_,e,_⟩:=hl; exact Ek e
 refine call_all_walk (wpAny_pyIter_list hl ?_)
 refine ⟨_,_,_,_,_,_,fun i=>bs.getD i true,rfl,Walks.list (A:=X.A.in1) (show X.A.in1.handled=none from I.ok.hd hc) s.heap.objs.size l (Ex hlt) (bs.map FI).toArray,⟨⟨_,El _ rfl,rfl,rfl⟩,hl.push _⟩,?_,fun h' tk hk=>?_⟩
 · intro i v s' Q' E' hP hQ'
   have hv:bs[i]?.map FI=some v:=by simpa using hP
   obtain ⟨b,hb,rfl⟩:=Option.map_eq_some_iff.mp hv
   have hQ2:Q' (bs.getD i true) s':=hQ'
   rw [ED,hb] at hQ2
   exact wpAny_truthy_bool hQ2
 · have kk:∀b o,s.heap.get? b=some o->h'.get? b=some o:=old_kept hk
   refine ⟨.bl (bs.all id),H,I.kept kk,?_,q⟩
   have e:(Ew (bs.map FI).toArray.size).all (fun i=>bs.getD i true)=bs.all id:=by
     rw [show (bs.map FI).toArray.size=bs.length by simp]
     have key:(∀i,i < bs.length->bs.getD i true=true)↔∀b∈bs,b=true:=by
       constructor
       · intro k b hb
         obtain ⟨i,hi,e⟩:=List.getElem_of_mem hb
         have:=k i hi
         rw [ED,Eg hi] at this
         rw [← e]
         exact this
       · intro k i hi
         rw [ED,Eg hi]
         exact k _ (FV hi)
     rw [FC,Fh,Fh]
     exact ⟨fun k b hb=>key.mp (fun i hi=>k i (List.mem_range.mpr hi)) b hb,fun k i hi=>key.mpr (fun b hb=>k b hb) i (List.mem_range.mp hi)⟩
   rw [e]
   rfl
end
end L2
namespace L3
open PySem PySem.Spec PyProof.Rows L2
theorem kQ {X:Cx}{KK:D9}(hc:X.calm=true:=by rfl)(hK:X.K=KK:=by first | exact cxC_K | rfl):SC X (.builtin "all") (fun xs H Q=>∃(l:Addr) (bs:List Bool),xs=[.ref l]/\aA KK H l (bs.map V.bl)/\Q (.bl (bs.all id)) H):=by
 subst hK
 exact ⟨oY hc⟩
end L3
set_option Elab.async false
set_option linter.all false
set_option maxRecDepth 100000
namespace L2
open PySem PySem.Spec PyProof.Rows SeqAt
/-! ### two promises of one def; lists of anything told,alike or not -/
end L2
set_option Elab.async false
set_option linter.all false
set_option maxRecDepth 100000
/-! ### a def that is called within an except suite; try .. except T as e: any rows -/
namespace L2
open PySem PySem.Spec PyProof.Rows
end L2
namespace TW
open PySem L2
end TW
namespace L3
open PySem L2
section
variable {X:Cx}{e:Expr}{es:List Expr}{t:TA}{pos:Pos}
theorem qU {a b c:Expr}{ta tb tc:TE}{op op':CmpOp}{r r':R2}(ho:SO X (compareOp op) r)(ho':SO X (compareOp op') r')(ha:SE X a ta)(hb:SE X b tb)(hc:SE X c tc)(hm:lastMarks [op,op'] [b,c]=false:=by with_unfolding_all rfl):SE X (.Compare a [op,op'] [b,c] pos) (t7 r r' ta tb tc):=⟨sQ ho.h ho'.h ha.h hb.h hc.h hm⟩
end
end L3
set_option Elab.async false
set_option linter.all false
set_option maxRecDepth 100000
namespace L2
open PySem PySem.Spec PyProof.Rows SeqAt
/-- x in (neg: not in) a list of references,by deep equality -/
def Bi (K:D9)(m:Nat)(neg:Bool):R2:=fun x y H Q=>∃(p:Addr) (as:List Addr) (f:Addr->Bool),y=.ref p/\aA K H p (as.map V.ref)/\(∀a∈as,EB K H m (.ref a) x (f a))/\Q (.bl (if neg then !as.any f else as.any f)) H
def zj (f:Addr->Bool):Value->Bool
 | .ref a=>f a
 | _=>false
theorem kN (f:Addr->Bool):∀as:List Addr,(as.map Ep).any (zj f)=as.any f
 | []=>rfl
 | a :: r=>by
   rw [EJ,FE,FE,kN f r]
   rfl
section
variable {X:Cx}
theorem qz {pins:List (Addr×Obj)}{σ:St}{H:Hp}{s:Shared}{x:V}{v:Value}{m:Nat}{as:List Addr}{f:Addr->Bool}{its:List Value}(hu:X.A.units + (m + 1) < cLine)(I:Inv X pins σ H s)(rx:RelV x v)(r:Vals (as.map V.ref) its)(h:∀a∈as,EB X.K H m (.ref a) x (f a)):∀y,y∈its.toArray->EqAt X.A.in1 s y v (zj f y):=fun z hz=>by
 have e:=fP r
 subst e
 have hz':z∈as.map Ep:=by simpa using hz
 obtain ⟨a,ha,rfl⟩:=List.mem_map.mp hz'
 exact (h a ha).at I _ _ _ rfl rx (by show X.A.units + 1 + m < cLine; omega)
theorem qr {m:Nat}(hu:X.A.units + (m + 1) < cLine):dS X (compareOp .NotIn) (Bi X.K m true):=by
 intro pins s σ H x y v u Q I rx ry h
 obtain ⟨p,as,f,rfl,hq,eb,q⟩:=h
 cases ry
 obtain ⟨its,r,pl,_⟩:=I.list hq
 refine notIn_listAt (zj f) pl.isList (qz hu I rx r eb) ⟨.bl (!as.any f),H,I,?_,q⟩
 show FI _=FI _
 have e:=fP r
 subst e
 congr 2
 rw [List.any_toArray]
 exact kN f as
end
end L2
namespace L3
open PySem PySem.Spec PyProof.Rows L2
theorem sD {X:Cx}{KK:D9}{m:Nat}(hu:X.A.units + (m + 1) < cLine)(hK:X.K=KK:=by first | exact cxC_K | rfl):SO X (compareOp .NotIn) (Bi KK m true):=by
 subst hK
 exact ⟨qr hu⟩
end L3
set_option Elab.async false
set_option linter.all false
set_option maxRecDepth 100000
/-! zip of three lists of one length,walked by a tuple of names -/
namespace PySem
open Sem (wp)
end PySem
set_option Elab.async false
set_option linter.all false
set_option maxRecDepth 100000
namespace PySem
end PySem
namespace L2
open PySem PySem.Spec PyProof.Rows
end L2
namespace L3
open PySem PySem.Spec PyProof.Rows L2
end L3
set_option Elab.async false
set_option linter.all false
set_option maxRecDepth 100000
namespace L2
open PySem PySem.Spec PyProof.Rows
/-! enumerate of a list,walked by a tuple of names -/
def zK (K:D9)(a:Addr):It:=
 ⟨fun i H=>∃xs x,aA K H a xs/\xs[i]? = some x,
  fun i H v H'=>∃p x,H p=none/\v=.ref p/\H'=upd H p (.tup [.int (i:Nat),x])/\∀xs,aA K H a xs->xs[i]? = some x,
  fun i H=>∃xs,aA K H a xs/\xs.length<=i⟩
theorem qE {P:Program}{w:World}{K:D9}{elts:List Expr}{x1:Nat}{tp:Pos}{a n:Addr} :
   Turn P w K (.Tuple elts x1 tp) (zK K a) [n + 1,n] (n + 1) (fun i h=>(∃old,IsEnum h (n + 1) n (i:Nat) old)/\h.IsListIter n a i) where
 mem:=by simp
 obj:=fun i h st d hd=>by
   obtain ⟨⟨old,he⟩,⟨o1,e1,c1,d1⟩⟩:=st
   simp only [E2,EN,or_false] at hd
   rcases hd with rfl | rfl
   · exact ⟨_,he,fun v q=>nomatch q⟩
   · exact ⟨_,e1,fun v q=>by rw [d1] at q; cases q⟩
 keep:=fun i h h' st k=>by
   obtain ⟨⟨old,he⟩,h1⟩:=st
   exact ⟨⟨old,k _ (by simp) _ he⟩,h1.at fun o e=>k _ (by simp) o e⟩
 item:=by
   intro X hP hw hK hc i pins s σ H E I hf st hg
   subst hP hw hK
   obtain ⟨xs,x,hq1,hx⟩:=hg
   obtain ⟨its1,rv1,p1,_⟩:=I.list hq1
   obtain ⟨ux,gx,rx⟩:=rv1.get hx
   obtain ⟨⟨old,he⟩,h1⟩:=st
   have ne:(n + 1:Addr)≠n:=Nat.succ_ne_self n
   refine wpAny_pyNext_enum_item he h1 p1.isList (x:=ux) (by simpa using gx) ne fun g a1 a2 a3 a4 hk=>?_
   refine ⟨_,rfl,wpAny_letOwnedTupleGo_enum (s:={ s with heap:=g,toks:=s.toks + 1 }) a1 fun g2 he2 e2=>?_⟩
   have n0:H s.heap.objs.size=none:=I.hok.fresh (Ee _)
   have lte:n + 1 < s.heap.objs.size:=Ek he
   have e2':E8 (n + 1) g g2:=e2
   have kk:∀d o,d ∉ ([n + 1,n]:List Addr)->s.heap.get? d=some o->g2.get? d=some o:=fun d o hd e=>by
     simp only [E2,EN,or_false,not_or] at hd
     exact e2'.extBut _ _ hd.1 (hk d o hd.1 hd.2 e)
   have t2:IsPair g2 s.heap.objs.size (.int i s.toks) ux:=e2'.extBut _ _ (Gr lte) a3
   have I1:Inv X pins σ (upd H s.heap.objs.size (.tup [.int (i:Nat),x])) { s with heap:=g2,toks:=s.toks + 1 }:=I.many (ch:=[n + 1,n]) hf kk (Ee _)
     ⟨by show 2<=sizeLine; decide,[.int i s.toks,ux],.cons ⟨_,rfl⟩ (.cons rx .nil),_,t2,rfl,_,rfl⟩
   refine ⟨.ref s.heap.objs.size,_,I1,rfl,⟨_,x,n0,rfl,rfl,fun xs' q1=>?_⟩,⟨⟨_,by simpa using he2⟩,a2.at fun o e=>e2'.extBut _ _ ne.symm e⟩,fun d hd=>?_⟩
   · rw [I.list_inj q1 hq1]; exact hx
   · have lt:d < s.heap.objs.size:=by
       simp only [E2,EN,or_false] at hd
       rcases hd with rfl | rfl
       · exact lte
       · exact Nat.lt_of_succ_lt lte
     rw [aB (Ex lt)]
     exact (hf d hd).1
 done:=by
   intro X hP hw hK hc i pins s σ H E I hf st hg
   subst hP hw hK
   obtain ⟨xs,hq1,hend⟩:=hg
   obtain ⟨its1,rv1,p1,_⟩:=I.list hq1
   have l1:=rv1.length
   obtain ⟨⟨old,he⟩,h1⟩:=st
   refine wpAny_pyNext_enum_end (I.ok.hd hc) he h1 p1.isList (by simp; omega) fun g hk=>⟨rfl,?_⟩
   exact I.many0 (t':=s.toks) (ch:=[n]) (fun d hd=>hf d (by rw [List.mem_singleton.mp hd]; simp)) fun d o hd e=>hk d o (fun z=>hd (by rw [z]; simp)) e
 self:=fun _ _ _ _ _ st h=>by
   obtain ⟨⟨old,he⟩,_⟩:=st
   exact wpAny_pyIter_enum he h
def Au (K:D9)(ta:TA):TI:=fun σ H R=>ta σ H fun vs H1=>∃a,vs=[.ref a]/\(∃xs,aA K H1 a xs)/\R (zK K a) H1
theorem vQ {X:Cx}{a:Expr}{ta:TA}{p pos tp:Pos}{elts:List Expr}{x1:Nat}(hg:Gl X "enumerate")(hm:X.mg "enumerate"=none)(ha:qM X [a] ta)(hv:bootBuiltins "enumerate"=some (.type "enumerate"):=by first | rfl | decide +kernel) :
   PI X (.Tuple elts x1 tp) (.Call (.Name "enumerate" p) [a] [] pos) (Au X.K ta):=by
 intro pins s σ H R I h
 refine wpAny_Call_Name_kw (fI I hg hm hv ?_ (by decide) (by decide))
 refine Fq (a7 (ha.pa pos pins s σ H _ I h) fun us s1 ⟨vs,H1,I1,r1,q1⟩=>?_) ((ha.ns a [] rfl).1.h [] X.env) ((ha.ns a [] rfl).2 pos X.env)
 obtain ⟨l1,e,⟨xs,hq1⟩,q⟩:=q1
 subst e
 cases r1 with
 | cons r1 r2=>
 cases r2
 cases r1
 obtain ⟨its1,rv1,p1,_⟩:=I1.list hq1
 refine call_enumerate_list p1.isList fun g he hi _ hk=>?_
 refine wpAny_pyIter_enum he ?_
 have I2:Inv X pins σ H1 { s1 with heap:=g }:=I1.kept (t':=s1.toks) hk
 refine ⟨_,_,_,_,H1,rfl,I2,qE,⟨⟨_,he⟩,hi⟩,fun c hc=>?_,q⟩
 simp only [E2,EN,or_false] at hc
 have up:∀k,dh X pins H1 (s1.heap.objs.size + k):=fun k=>I1.fpOk (Gk _ _) (I1.hok.fresh (Gk _ _))
 rcases hc with rfl | rfl
 · exact up 1
 · exact up 0
section
variable {K:D9}{a:Addr}{xs:List V}{g:TG}
theorem rk {tb:TS}{D:Ends}{σ:St}{H:Hp}(Pv:Nat->St->Hp->Prop)(h0:Pv 0 σ H)(hl:∀i σ H,i<=xs.length->Pv i σ H->aA K H a xs)
   (hs:∀i x p σ H,xs[i]? = some x->Pv i σ H->H p=none->g (.ref p) σ (upd H p (.tup [.int (i:Nat),x])) fun σ2 H2=>tb { D with nx:=Pv (i + 1),ct:=Pv (i + 1),bk:=D.nx } σ2 H2) (hd:∀σ H,Pv xs.length σ H->D.nx σ H) :
   ∃W:Nat->Nat->St->Hp->Prop,(∃m,W 0 m σ H)/\∀i m σ H,W i m σ H ->
     ((zK K a).stop i H/\D.nx σ H)\/((zK K a).go i H/\∃N:St->Hp->Prop,(∀σ' H',N σ' H'->∃m',m' < m/\W (i + 1) m' σ' H')/\∀x H',(zK K a).yld i H x H'->g x σ H' fun σ2 H2=>tb { D with nx:=N,ct:=N,bk:=D.nx } σ2 H2):=by
 refine ⟨fun i m σ H=>m=xs.length - i/\i<=xs.length/\Pv i σ H,⟨xs.length,by simp,EC _,h0⟩,?_⟩
 rintro i m σ H ⟨rfl,hi,p⟩
 have q1:=hl i σ H hi p
 by_cases hlt:i < xs.length
 · refine .inr ⟨⟨xs,xs[i],q1,by simp [hlt]⟩,Pv (i + 1),fun σ' H' p'=>⟨xs.length - (i + 1),by omega,rfl,hlt,p'⟩,fun x H' y=>?_⟩
   obtain ⟨pp,x1,hn,rfl,rfl,k⟩:=y
   exact hs i x1 pp σ H (k xs q1) p hn
 · have e:i=xs.length:=by omega
   subst e
   exact .inl ⟨⟨xs,q1,Ee _⟩,hd σ H p⟩
theorem jk {tifs:TT}{tm:TM}{σ0:St}{Z:Hp->Prop}{H:Hp}(Pv:Nat->Hp->Prop)(h0:Pv 0 H)(hl:∀i H,i<=xs.length->Pv i H->aA K H a xs)
   (turn:∀i x p H,xs[i]? = some x->Pv i H->H p=none->g (.ref p) σ0 (upd H p (.tup [.int (i:Nat),x])) fun σ2 H2=>tifs σ2 H2 fun b H3=>
     if b=true then tm σ2 H3 fun H4=>aS σ0 σ2/\∃m',m' < xs.length - i/\(m'=xs.length - (i + 1)/\i + 1<=xs.length/\Pv (i + 1) H4) else aS σ0 σ2/\∃m',m' < xs.length - i/\(m'=xs.length - (i + 1)/\i + 1<=xs.length/\Pv (i + 1) H3))
   (hZ:∀H,Pv xs.length H->Z H):iN (zK K a) σ0 g tifs tm Z H:=by
 refine gq xs.length Pv h0 (fun i H hi p=>⟨xs,xs[i],hl i H (E9 hi) p,by simp [hi]⟩) (fun H p=>⟨xs,hl _ H (Ee _) p,Ee _⟩) (fun i H hi p x H' y=>?_) hZ
 obtain ⟨pp,x1,hn,rfl,rfl,k⟩:=y
 exact turn i x1 pp H (k xs (hl i H (E9 hi) p)) p hn
end
end L2
namespace L3
open PySem PySem.Spec PyProof.Rows L2
theorem iE {X:Cx}{a:Expr}{t:TA}{KK:D9}{p pos tp:Pos}{elts:List Expr}{x1:Nat}(hg:Gl X "enumerate")(hm:X.mg "enumerate"=none)(ha:SA X [a] t)(hK:X.K=KK:=by first | exact cxC_K | rfl) :
   SI X (.Tuple elts x1 tp) (.Call (.Name "enumerate" p) [a] [] pos) (Au KK t):=by
 subst hK
 exact ⟨vQ hg hm ha.h⟩
/-! attributes,instances,methods -/
end L3
set_option Elab.async false
set_option linter.all false
set_option maxRecDepth 100000
namespace TW
open PySem L2
end TW
namespace L2
open PySem PySem.Spec PyProof.Rows
end L2
namespace L3
open PySem PySem.Spec PyProof.Rows L2
end L3
set_option Elab.async false
set_option linter.all false
set_option maxRecDepth 100000
namespace L3
open PySem PySem.Spec PyProof.Rows L2
end L3
set_option Elab.async false
set_option linter.all false
set_option maxRecDepth 100000
/-! ### d.setdefault(k,v),a dict of tuples -/
namespace L2
open PySem PySem.Spec PyProof.Rows
end L2
namespace L3
open PySem PySem.Spec PyProof.Rows L2
end L3
namespace L2
open PySem PySem.Spec PyProof.Rows
end L2
namespace L3
open PySem PySem.Spec PyProof.Rows L2
end L3
set_option Elab.async false
set_option linter.all false
set_option maxRecDepth 100000
namespace L3
open PySem PySem.Spec PyProof.Rows L2
end L3
set_option Elab.async false
set_option linter.all false
set_option maxRecDepth 100000
namespace L2
open PySem PySem.Spec PyProof.Rows
end L2
namespace L3
open PySem PySem.Spec PyProof.Rows L2
end L3
set_option Elab.async false
set_option linter.all false
set_option maxRecDepth 100000
/-! zip of two,each a list or a tuple,walked by a tuple of names -/
namespace PySem
open Sem (wp)
open PyProof.Rows (IsTup IsTupIter)
def d6 (tp:Bool)(h:Heap)(it a:Addr)(i:Nat):Prop:=if tp then IsTupIter h it a i else h.IsListIter it a i
def cH (tp:Bool)(h:Heap)(a:Addr)(xs:Array Value):Prop:=if tp then IsTup h a xs else h.IsList a xs
def yc (tp:Bool):String:=if tp then "tuple_iterator" else "list_iterator"
abbrev itObj (tp:Bool)(a:Addr):Obj:={ cls:=.type (yc tp),data:=.fields #[.ref a,.int 0 0] }
section
variable {tp:Bool}{h h':Heap}{it a:Addr}{i:Nat}{xs:Array Value}
theorem d6.stay (x:d6 tp h it a i)(e:∀o,h.get? it=some o->h'.get? it=some o):d6 tp h' it a i:=by
 cases tp
 · exact Heap.IsListIter.at (show h.IsListIter it a i from x) e
 · obtain ⟨o,ho,r⟩:=(show IsTupIter h it a i from x)
   exact (⟨o,e _ ho,r⟩ : IsTupIter h' it a i)
theorem d6.obj (x:d6 tp h it a i):∃o,h.get? it=some o/\∀v,o.data≠.cell v:=by
 cases tp
 · obtain ⟨o,ho,_,d⟩:=(show h.IsListIter it a i from x)
   exact ⟨o,ho,fun v q=>by rw [d] at q; cases q⟩
 · obtain ⟨o,ho,_,d⟩:=(show IsTupIter h it a i from x)
   exact ⟨o,ho,fun v q=>by rw [d] at q; cases q⟩
theorem cH.stay (x:cH tp h a xs)(e:∀o,h.get? a=some o->h'.get? a=some o):cH tp h' a xs:=by
 cases tp
 · exact Heap.IsList.at (show h.IsList a xs from x) e
 · obtain ⟨o,ho,r⟩:=(show IsTup h a xs from x)
   exact (⟨o,e _ ho,r⟩ : IsTup h' a xs)
theorem cH.lt (x:cH tp h a xs):a < h.objs.size:=by
 cases tp
 · obtain ⟨o,ho,_⟩:=(show h.IsList a xs from x)
   exact Ek ho
 · exact IsTup.lt (show IsTup h a xs from x)
end
section
variable {prog:Program}{w:World}{A:Around}{E:Value->Shared->Prop}{s:Shared}{tp t1 t2:Bool}{it a:Addr}{i:Nat}{xs ys:Array Value}{x y:Value}
theorem mQ {Q:Value->Shared->Prop}(hit:IsTupIter s.heap it a i)(hl:IsTup s.heap a xs)(hx:xs[i]? = some x)(hQ:∀g,IsTupIter g it a (i + 1)->E8 it s.heap g->Q x { s with heap:=g }) :
   wpAny (model prog w) A (Ey (.ref it)) Q E s:=by
 obtain ⟨o,ho,hc,hd⟩:=id hit
 obtain ⟨o2,ho2,_,n2,hd2⟩:=hl
 unfold Ey
 refine wpAny_bind (EU (name:=Eb "__next__") hit.typeIs Fe (wpAny_call_entry Fe hit.typeIs Gj ?_ (Gm _)))
 show wpAny _ _ (field (.ref it) 0 >>= _) _ _ _
 refine wpAny_bind (wpAny_field ho hd (x:=.ref a) rfl ?_)
 show wpAny _ _ (if (Ep a == Fm)=true then _ else _) _ _ s
 rw [if_neg (show ¬ ((Ep a == Fm)=true) from Ej)]
 show wpAny _ _ (field (.ref it) 1 >>= _) _ _ _
 refine wpAny_bind (wpAny_field ho hd (x:=.int i 0) rfl ?_)
 show wpAny _ _ (seqItems? (.ref a) >>= _) _ _ _
 refine wpAny_bind (wpAny_seqItems ho2 hd2 ?_)
 simp only [ES,hx]
 refine wpAny_bind (wpAny_setField ho hd (by simp) (wpAny_pure ⟨x,rfl,wpAny_pure (hQ _ ?_ (E3 ..))⟩))
 exact ⟨_,Fy _ ho (HW (F6 hd _)),(Obj.cls_mapFields ..).trans hc,by rw [F6 hd]; simp [rawInt]⟩
theorem qh {Q:Value->Shared->Prop}(hh:A.handled=none)(hit:IsTupIter s.heap it a i)(hl:IsTup s.heap a xs)(hx:xs[i]? = none)
   (hE:∀g e,Heap.ExtBut it s.heap g->(∃o,g.get? e=some o/\o.cls=.type "StopIteration")->E (.ref e) { s with heap:=g }):wpAny (model prog w) A (Ey (.ref it)) Q E s:=by
 obtain ⟨o,ho,hc,hd⟩:=id hit
 obtain ⟨o2,ho2,_,n2,hd2⟩:=hl
 unfold Ey
 refine wpAny_bind (EU (name:=Eb "__next__") hit.typeIs Fe (wpAny_call_entry Fe hit.typeIs Gj ?_ (Gm _)))
 show wpAny _ _ (field (.ref it) 0 >>= _) _ _ _
 refine wpAny_bind (wpAny_field ho hd (x:=.ref a) rfl ?_)
 show wpAny _ _ (if (Ep a == Fm)=true then _ else _) _ _ s
 rw [if_neg (show ¬ ((Ep a == Fm)=true) from Ej)]
 show wpAny _ _ (field (.ref it) 1 >>= _) _ _ _
 refine wpAny_bind (wpAny_field ho hd (x:=.int i 0) rfl ?_)
 show wpAny _ _ (seqItems? (.ref a) >>= _) _ _ _
 refine wpAny_bind (wpAny_seqItems ho2 hd2 ?_)
 simp only [ES,hx]
 refine wpAny_bind (wpAny_rule (wpAny_bind (wpAny_setField ho hd (by simp) ?_)))
 show wpAny _ _ (newExc (.type "StopIteration") [] >>= _) _ _ _
 refine wpAny_bind ?_
 simp only [newExc,newTuple]
 refine wpAny_bind (wpAny_newObj_type ?_ (by size_fits))
 refine wpAny_bind (m:=firstArgMember _ _) (wpAny_of_eq (a:=Fm) (by first | rfl | (simp only [firstArgMember]; rfl)) ?_)
 refine wpAny_newObj_type ?_ (by size_fits)
 simp only [raiseNew]
 refine wpAny_bind (wpAny_handled ?_)
 first | rw [show A.in1.handled=none from hh] | rw [hh]
 refine wpAny_bind (wpAny_pure (wpAny_throw ?_))
 exact hE _ _ (((E3 ..).extBut.push _).push _) ⟨_,El _ rfl,rfl⟩
theorem ef {Q:Value->Shared->Prop}(hit:d6 tp s.heap it a i)(hl:cH tp s.heap a xs)(hx:xs[i]? = some x)(hQ:∀g,d6 tp g it a (i + 1)->E8 it s.heap g->Q x { s with heap:=g }) :
   wpAny (model prog w) A (Ey (.ref it)) Q E s:=by
 cases tp
 · exact wpAny_nextOf_list_item (show s.heap.IsListIter it a i from hit) (show s.heap.IsList a xs from hl) hx hQ
 · exact mQ (show IsTupIter s.heap it a i from hit) (show IsTup s.heap a xs from hl) hx hQ
theorem jy {Q:Value->Shared->Prop}(hh:A.handled=none)(hit:d6 tp s.heap it a i)(hl:cH tp s.heap a xs)(hx:xs[i]? = none)
   (hE:∀g e,Heap.ExtBut it s.heap g->(∃o,g.get? e=some o/\o.cls=.type "StopIteration")->E (.ref e) { s with heap:=g }):wpAny (model prog w) A (Ey (.ref it)) Q E s:=by
 cases tp
 · exact wpAny_nextOf_list_end hh (show s.heap.IsListIter it a i from hit) (show s.heap.IsList a xs from hl) hx hE
 · exact qh hh (show IsTupIter s.heap it a i from hit) (show IsTup s.heap a xs from hl) hx hE
/-- a zip of two that was made when the heap had n objects,i items drawn -/
structure Z2 (t1 t2:Bool)(h:Heap)(n l1 l2:Addr)(i:Nat):Prop where
 z:IsZip h (n + 4) (n + 2) (n + 3) .none
 ti:IsPair h (n + 2) (.ref n) (.ref (n + 1))
 to:∃a b,IsPair h (n + 3) a b
 i1:d6 t1 h n l1 i
 i2:d6 t2 h (n + 1) l2 i
theorem qL {n l1 l2:Nat}{Q:Value->Shared->Prop}(n1:l1 < n)(n2:l2 < n)(Z:Z2 t1 t2 s.heap n l1 l2 i)(h1:cH t1 s.heap l1 xs)(h2:cH t2 s.heap l2 ys)(hx:xs[i]? = some x)(hy:ys[i]? = some y)
   (hQ:∀g,IsZip g (n + 4) (n + 2) (n + 3) (rawInt s.heap.objs.size)->IsPair g (n + 3) x y->d6 t1 g n l1 (i + 1)->d6 t2 g (n + 1) l2 (i + 1)->IsPair g s.heap.objs.size x y ->
     (∀c o,c ∉ ([n + 4,n + 3,n,n + 1]:List Addr)->s.heap.get? c=some o->g.get? c=some o)->Q (.ref s.heap.objs.size) { s with heap:=g }) :
   wpAny (model prog w) A (Builtin.«zip.__next__» ⟨[.ref (n + 4)],[]⟩) (fun fin s'=>∃v,fin=.done (.ret v)/\Q v s') E s:=by
 obtain ⟨zr,ti,⟨a,b,to⟩,j1,j2⟩:=Z
 show wpAny _ _ (field (.ref (n + 4)) 2 >>= _) _ _ _
 refine wpAny_bind (wpAny_field zr rfl (x:=.bool false) rfl ?_)
 show wpAny _ _ (field (.ref (n + 4)) 3 >>= _) _ _ _
 refine wpAny_bind (wpAny_field zr rfl (x:=.ref (n + 2)) rfl ?_)
 refine wpAny_bind (wpAny_seqItems ti rfl ?_)
 show wpAny _ _ (E6 (.ref (n + 4)) >>= _) _ _ _
 refine wpAny_bind ?_
 unfold E6
 refine wpAny_bind (wpAny_field zr rfl (x:=.none) rfl (wpAny_pure ?_))
 simp only [if_true]
 refine wpAny_bind (wpAny_rule ?_)
 refine wpAny_bind (wpAny_field zr rfl (x:=.ref (n + 3)) rfl ?_)
 refine wpAny_bind (wpAny_setField_rec zr (by simp) fun g1 zr1 e1=>?_)
 replace zr1:IsZip g1 (n + 4) (n + 2) (n + 3) .ellipsis:=zr1
 refine wpAny_bind ?_
 simp only [GX,G5,Gq,HB]
 refine wpAny_bind (wpAny_bind (wpAny_onRaise ?_))
 show wpAny _ _ (Ey (.ref n) >>= _) _ _ _
 refine wpAny_bind (ef (j1.stay fun o e=>e1.extBut _ _ (show @Ne Nat _ _ by omega) e) (h1.stay fun o e=>e1.extBut _ _ (show @Ne Nat _ _ by omega) e) hx fun g2 k1 e2=>wpAny_pure ?_)
 have t2':IsPair g2 (n + 3) a b:=e2.extBut _ _ (show @Ne Nat _ _ by omega) (e1.extBut _ _ (show @Ne Nat _ _ by omega) to)
 refine wpAny_bind (wpAny_seqItems t2' rfl ?_)
 refine wpAny_bind (wpAny_updateSeq_pair t2' fun g3 t3 e3=>?_)
 replace t3:IsPair g3 (n + 3) x b:=t3
 refine wpAny_bind (wpAny_letGo (wpAny_pure ?_))
 have c3:∀d o,d≠n + 4->d≠n + 3->d≠n->s.heap.get? d=some o->g3.get? d=some o:=fun d o d1 d2 d3 e=>e3.extBut _ _ d2 (e2.extBut _ _ d3 (e1.extBut _ _ d1 e))
 refine wpAny_bind (wpAny_bind (wpAny_onRaise ?_))
 show wpAny _ _ (Ey (.ref (n + 1)) >>= _) _ _ _
 refine wpAny_bind (ef (j2.stay fun o e=>c3 _ o (show @Ne Nat _ _ by omega) (show @Ne Nat _ _ by omega) (show @Ne Nat _ _ by omega) e) (h2.stay fun o e=>c3 _ o (show @Ne Nat _ _ by omega) (show @Ne Nat _ _ by omega) (show @Ne Nat _ _ by omega) e) hy fun g4 k2 e4=>wpAny_pure ?_)
 have t4:IsPair g4 (n + 3) x b:=e4.extBut _ _ (show @Ne Nat _ _ by omega) t3
 refine wpAny_bind (wpAny_seqItems t4 rfl ?_)
 refine wpAny_bind (wpAny_updateSeq_pair t4 fun g5 t5 e5=>?_)
 replace t5:IsPair g5 (n + 3) x y:=t5
 refine wpAny_bind (wpAny_letGo (wpAny_pure (wpAny_pure ?_)))
 refine wpAny_bind (wpAny_seqItems t5 rfl ?_)
 refine wpAny_bind (wpAny_newTuple ?_)
 have sz:g5.objs.size=s.heap.objs.size:=by rw [e5.1,e4.1,e3.1,e2.1,e1.1]
 have zr5:IsZip g5 (n + 4) (n + 2) (n + 3) .ellipsis:=e5.extBut _ _ (show @Ne Nat _ _ by omega) (e4.extBut _ _ (show @Ne Nat _ _ by omega) (e3.extBut _ _ (show @Ne Nat _ _ by omega) (e2.extBut _ _ (show @Ne Nat _ _ by omega) zr1)))
 have c5:∀d o,d≠n + 4->d≠n + 3->d≠n->d≠n + 1->s.heap.get? d=some o->g5.get? d=some o:=fun d o d1 d2 d3 d4 e=>e5.extBut _ _ d2 (e4.extBut _ _ d4 (c3 d o d1 d2 d3 e))
 have m1:d6 t1 g5 n l1 (i + 1):=k1.stay fun o e=>e5.extBut _ _ (show @Ne Nat _ _ by omega) (e4.extBut _ _ (show @Ne Nat _ _ by omega) (e3.extBut _ _ (show @Ne Nat _ _ by omega) e))
 have m2:d6 t2 g5 (n + 1) l2 (i + 1):=k2.stay fun o e=>e5.extBut _ _ (show @Ne Nat _ _ by omega) e
 have zlt:n + 4 < g5.objs.size:=Ek zr5
 show wpAny _ _ (F2 (.ref (n + 4)) (.ref g5.objs.size) >>= _) _ _ _
 refine wpAny_bind ?_
 unfold F2
 have zr6:IsZip (g5.push { cls:=.type "tuple",data:=.seq #[x,y] }) (n + 4) (n + 2) (n + 3) .ellipsis:=Ec _ zr5
 refine wpAny_bind (wpAny_setField_rec zr6 (by simp) fun g9 zr9 e9=>?_)
 replace zr9:IsZip g9 (n + 4) (n + 2) (n + 3) (rawInt g5.objs.size):=zr9
 refine wpAny_setField_rec zr9 (by simp) fun gA zrA eA=>?_
 replace zrA:IsZip gA (n + 4) (n + 2) (n + 3) (rawInt g5.objs.size):=zrA
 have up:∀d o,d≠n + 4->g5.get? d=some o->gA.get? d=some o:=fun d o d1 e=>eA.extBut _ _ d1 (e9.extBut _ _ d1 (Ec _ e))
 have tA:IsPair gA g5.objs.size x y:=eA.extBut _ _ (Gr zlt) (e9.extBut _ _ (Gr zlt) (El _ rfl))
 rw [sz] at zrA tA
 refine wpAny_pure ⟨_,rfl,?_⟩
 show Q (.ref g5.objs.size) _
 rw [sz]
 refine hQ gA zrA (up _ _ (show @Ne Nat _ _ by omega) t5) (m1.stay fun o e=>up _ o (show @Ne Nat _ _ by omega) e) (m2.stay fun o e=>up _ o (show @Ne Nat _ _ by omega) e) tA fun d o hd e=>?_
 simp only [E2,EN,or_false,not_or] at hd
 exact up d o hd.1 (c5 d o hd.1 hd.2.1 hd.2.2.1 hd.2.2.2 e)
/-- one of both is at its end -/
theorem uk {n l1 l2:Nat}{Q:Fin->Shared->Prop}(hh:A.handled=none)(n1:l1 < n)(n2:l2 < n)(Z:Z2 t1 t2 s.heap n l1 l2 i)(h1:cH t1 s.heap l1 xs)(h2:cH t2 s.heap l2 ys)(hx:xs[i]? = none\/ys[i]? = none)
   (hE:∀g e,(∀c o,c ∉ ([n + 4,n + 3,n,n + 1]:List Addr)->s.heap.get? c=some o->g.get? c=some o)->(∃o,g.get? e=some o/\o.cls=.type "StopIteration")->E (.ref e) { s with heap:=g }) :
   wpAny (model prog w) A (Builtin.«zip.__next__» ⟨[.ref (n + 4)],[]⟩) Q E s:=by
 obtain ⟨zr,ti,⟨a,b,to⟩,j1,j2⟩:=Z
 show wpAny _ _ (field (.ref (n + 4)) 2 >>= _) _ _ _
 refine wpAny_bind (wpAny_field zr rfl (x:=.bool false) rfl ?_)
 show wpAny _ _ (field (.ref (n + 4)) 3 >>= _) _ _ _
 refine wpAny_bind (wpAny_field zr rfl (x:=.ref (n + 2)) rfl ?_)
 refine wpAny_bind (wpAny_seqItems ti rfl ?_)
 show wpAny _ _ (E6 (.ref (n + 4)) >>= _) _ _ _
 refine wpAny_bind ?_
 unfold E6
 refine wpAny_bind (wpAny_field zr rfl (x:=.none) rfl (wpAny_pure ?_))
 simp only [if_true]
 refine wpAny_bind (wpAny_rule ?_)
 refine wpAny_bind (wpAny_field zr rfl (x:=.ref (n + 3)) rfl ?_)
 refine wpAny_bind (wpAny_setField_rec zr (by simp) fun g1 zr1 e1=>?_)
 replace zr1:IsZip g1 (n + 4) (n + 2) (n + 3) .ellipsis:=zr1
 refine wpAny_bind ?_
 simp only [GX,G5,Gq,HB]
 refine wpAny_bind (wpAny_bind (wpAny_onRaise ?_))
 show wpAny _ _ (Ey (.ref n) >>= _) _ _ _
 cases q:xs[i]? with
 | none=>
   refine wpAny_bind (jy hh (j1.stay fun o e=>e1.extBut _ _ (show @Ne Nat _ _ by omega) e) (h1.stay fun o e=>e1.extBut _ _ (show @Ne Nat _ _ by omega) e) q fun g2 e e2 he=>?_)
   obtain ⟨oe,hoe,hce⟩:=he
   have zr2:IsZip g2 (n + 4) (n + 2) (n + 3) .ellipsis:=e2 _ _ (show @Ne Nat _ _ by omega) zr1
   have hez:e≠n + 4:=fun q=>by subst q; rw [zr2] at hoe; cases hoe; simp at hce
   refine wpAny_setField_rec zr2 (by simp) fun g3 _ e3=>hE g3 e (fun d o hd q=>?_) ⟨oe,e3.extBut _ _ hez hoe,hce⟩
   simp only [E2,EN,or_false,not_or] at hd
   exact e3.extBut _ _ hd.1 (e2 _ _ hd.2.2.1 (e1.extBut _ _ hd.1 q))
 | some x=>
   have hy:ys[i]? = none:=hx.resolve_left (by rw [q]; exact fun z=>nomatch z)
   refine wpAny_bind (ef (j1.stay fun o e=>e1.extBut _ _ (show @Ne Nat _ _ by omega) e) (h1.stay fun o e=>e1.extBut _ _ (show @Ne Nat _ _ by omega) e) q fun g2 k1 e2=>wpAny_pure ?_)
   have t2':IsPair g2 (n + 3) a b:=e2.extBut _ _ (show @Ne Nat _ _ by omega) (e1.extBut _ _ (show @Ne Nat _ _ by omega) to)
   refine wpAny_bind (wpAny_seqItems t2' rfl ?_)
   refine wpAny_bind (wpAny_updateSeq_pair t2' fun g3 t3 e3=>?_)
   refine wpAny_bind (wpAny_letGo (wpAny_pure ?_))
   have c3:∀d o,d≠n + 4->d≠n + 3->d≠n->s.heap.get? d=some o->g3.get? d=some o:=fun d o d1 d2 d3 e=>e3.extBut _ _ d2 (e2.extBut _ _ d3 (e1.extBut _ _ d1 e))
   refine wpAny_bind (wpAny_bind (wpAny_onRaise ?_))
   show wpAny _ _ (Ey (.ref (n + 1)) >>= _) _ _ _
   refine wpAny_bind (jy hh (j2.stay fun o e=>c3 _ o (show @Ne Nat _ _ by omega) (show @Ne Nat _ _ by omega) (show @Ne Nat _ _ by omega) e) (h2.stay fun o e=>c3 _ o (show @Ne Nat _ _ by omega) (show @Ne Nat _ _ by omega) (show @Ne Nat _ _ by omega) e) hy fun g4 e e4 he=>?_)
   obtain ⟨oe,hoe,hce⟩:=he
   have zr4:IsZip g4 (n + 4) (n + 2) (n + 3) .ellipsis:=e4 _ _ (show @Ne Nat _ _ by omega) (e3.extBut _ _ (show @Ne Nat _ _ by omega) (e2.extBut _ _ (show @Ne Nat _ _ by omega) zr1))
   have hez:e≠n + 4:=fun q=>by subst q; rw [zr4] at hoe; cases hoe; simp at hce
   refine wpAny_setField_rec zr4 (by simp) fun g5 _ e5=>hE g5 e (fun d o hd q=>?_) ⟨oe,e5.extBut _ _ hez hoe,hce⟩
   simp only [E2,EN,or_false,not_or] at hd
   exact e5.extBut _ _ hd.1 (e4 _ _ hd.2.2.2 (c3 d o hd.1 hd.2.1 hd.2.2.1 q))
end
abbrev z2H2 (t1 t2:Bool)(h:Heap)(l1 l2:Addr):Heap:=(h.push (itObj t1 l1)).push (itObj t2 l2)
abbrev z2H (t1 t2:Bool)(h:Heap)(l1 l2:Addr):Heap:=(((z2H2 t1 t2 h l1 l2).push { cls:=.type "tuple",data:=.seq #[.ref h.objs.size,.ref (h.objs.size + 1)] }).push { cls:=.type "tuple",data:=.seq #[.none,.none] }).push
 { cls:=.type "zip",data:=.fields #[.none,.bool false,.bool false,.ref (h.objs.size + 2),.ref (h.objs.size + 3)] }
theorem wL {prog:Program}{w:World}{A:Around}{E:Value->Shared->Prop}{s:Shared}{tp:Bool}{a:Addr}{xs:Array Value}{Q:Value->Shared->Prop}(hl:cH tp s.heap a xs)(hQ:Q (.ref s.heap.objs.size) { s with heap:=s.heap.push (itObj tp a) }):wpAny (model prog w) A (pyIter (.ref a)) Q E s:=by
 cases tp
 · exact wpAny_pyIter_list (show s.heap.IsList a xs from hl) hQ
 · exact PyProof.Rows.iter_tuple (show IsTup s.heap a xs from hl) hQ
theorem mP (t1 t2:Bool)(l1 l2:Addr)(xs ys:Array Value) :
   Meets (Builtin.«zip.__new__» ⟨[.type "zip",.ref l1,.ref l2],[]⟩) (fun _ R s=>cH t1 s.heap l1 xs/\cH t2 s.heap l2 ys/\R (.ok (.ret (.ref (s.heap.objs.size + 4)))) { s with heap:=z2H t1 t2 s.heap l1 l2 }):=
 .of_wp fun prog w A R s h=>by
   obtain ⟨hp,g,d,tk,os⟩:=s; obtain ⟨q1,q2,h⟩:=h
   have hsub:=sub_zip
   have L1:cH t1 (Shared.heap ⟨hp,g,d,tk,os⟩) l1 xs:=q1
   have L2:cH t2 (Shared.heap ⟨hp.push (itObj t1 l1),g,d,tk,os⟩) l2 ys:=cH.stay q2 fun o e=>Ec _ e
   wp_walk using wL L1,wL L2
   refine ⟨_,rfl,?_⟩
   simp only [HC] at h ⊢
   exact h
theorem ph {prog:Program}{w:World}{A:Around}{E:Value->Shared->Prop}{s:Shared}{t1 t2:Bool}{l1 l2:Addr}{xs ys:Array Value}{Q:Value->Shared->Prop}(q1:cH t1 s.heap l1 xs)(q2:cH t2 s.heap l2 ys)
   (h:∀g,Z2 t1 t2 g s.heap.objs.size l1 l2 0->(∀c o,s.heap.get? c=some o->g.get? c=some o)->Q (.ref (s.heap.objs.size + 4)) { s with heap:=g }) :
   wpAny (model prog w) A (call (.type "zip") [.ref l1,.ref l2]) Q E s:=by
 refine callType_new F.called_zip (by decide) (F.typeCall_zip_2 _ _) (F.newCall_zip_2 _ _) (fun obj=>F.args_object_init_3 obj _ _) F.entry_zip_new (mP t1 t2 l1 l2 xs ys) ⟨q1,q2,?_⟩
 have sz:∀(hh:Heap) (o:Obj),(hh.push o).objs.size=hh.objs.size + 1:=fun hh o=>HC hh o
 have e1:(z2H2 t1 t2 s.heap l1 l2).objs.size=s.heap.objs.size + 2:=by rw [sz,sz]
 have g4:(z2H t1 t2 s.heap l1 l2).get? (s.heap.objs.size + 4)=some { cls:=.type "zip",data:=.fields #[.none,.bool false,.bool false,.ref (s.heap.objs.size + 2),.ref (s.heap.objs.size + 3)] }:=by
   have:=El (((z2H2 t1 t2 s.heap l1 l2).push { cls:=.type "tuple",data:=.seq #[.ref s.heap.objs.size,.ref (s.heap.objs.size + 1)] }).push { cls:=.type "tuple",data:=.seq #[.none,.none] }) (o:={ cls:=.type "zip",data:=.fields #[.none,.bool false,.bool false,.ref (s.heap.objs.size + 2),.ref (s.heap.objs.size + 3)] }) rfl
   rw [sz,sz,e1] at this
   exact this
 have g3:IsPair (z2H t1 t2 s.heap l1 l2) (s.heap.objs.size + 3) .none .none:=by
   have:=El ((z2H2 t1 t2 s.heap l1 l2).push { cls:=.type "tuple",data:=.seq #[.ref s.heap.objs.size,.ref (s.heap.objs.size + 1)] }) (o:={ cls:=.type "tuple",data:=.seq #[.none,.none] }) rfl
   rw [sz,e1] at this
   exact Ec _ this
 have g2:IsPair (z2H t1 t2 s.heap l1 l2) (s.heap.objs.size + 2) (.ref s.heap.objs.size) (.ref (s.heap.objs.size + 1)):=by
   have:=El (z2H2 t1 t2 s.heap l1 l2) (o:={ cls:=.type "tuple",data:=.seq #[.ref s.heap.objs.size,.ref (s.heap.objs.size + 1)] }) rfl
   rw [e1] at this
   exact Ec _ (Ec _ this)
 have free:∀(tp:Bool) (a:Addr),(itObj tp a).isFreed=false:=fun tp a=>rfl
 have g1:(z2H t1 t2 s.heap l1 l2).get? (s.heap.objs.size + 1)=some (itObj t2 l2):=by
   have:=El (s.heap.push (itObj t1 l1)) (o:=itObj t2 l2) (free _ _)
   rw [sz] at this
   exact Ec _ (Ec _ (Ec _ this))
 have g0:(z2H t1 t2 s.heap l1 l2).get? s.heap.objs.size=some (itObj t1 l1):=
   Ec _ (Ec _ (Ec _ (Ec _ (El _ (free _ _)))))
 have mk:∀(tp:Bool) (b a:Addr) (hh:Heap),hh.get? b=some (itObj tp a)->d6 tp hh b a 0:=fun tp b a hh e=>by
   cases tp
   · exact (⟨_,e,rfl,rfl⟩ : hh.IsListIter b a 0)
   · exact (⟨_,e,rfl,rfl⟩ : IsTupIter hh b a 0)
 show _/\_
 exact ⟨⟨_,g4,rfl⟩,h _ ⟨g4,g2,⟨_,_,g3⟩,mk _ _ _ _ g0,mk _ _ _ _ g1⟩ fun c o x=>
   Ec _ (Ec _ (Ec _ (Ec _ (Ec _ x))))⟩
end PySem
set_option Elab.async false
set_option linter.all false
set_option maxRecDepth 100000
/-! zip of two,each a list or a tuple: its rules -/
namespace L2
open PySem PySem.Spec PyProof.Rows
def Sq (tp:Bool)(K:D9)(H:Hp)(a:Addr)(xs:List V):Prop:=if tp then ar K H a xs else aA K H a xs
section
variable {X:Cx}{pins:List (Addr×Obj)}{σ:St}{H:Hp}{s:Shared}{tp t1 t2:Bool}{a b:Addr}{xs ys:List V}
theorem Inv.sq (I:Inv X pins σ H s)(h:Sq tp X.K H a xs):∃its:List Value,Vals xs its/\cH tp s.heap a its.toArray/\xs.length<=sizeLine:=by
 cases tp
 · obtain ⟨its,r,p,z⟩:=I.list (show aA X.K H a xs from h)
   exact ⟨its,r,p.isList,z⟩
 · exact I.tuple (show ar X.K H a xs from h)
theorem Inv.sq_inj (I:Inv X pins σ H s)(h:Sq tp X.K H a xs)(h':Sq tp X.K H a ys):xs=ys:=by
 cases tp
 · exact I.list_inj (show aA X.K H a xs from h) h'
 · exact I.tuple_inj (show ar X.K H a xs from h) h'
def oU (t1 t2:Bool)(K:D9)(a b:Addr):It:=
 ⟨fun i H=>∃xs ys x y,Sq t1 K H a xs/\Sq t2 K H b ys/\xs[i]? = some x/\ys[i]? = some y,
  fun i H v H'=>∃p x y,H p=none/\v=.ref p/\H'=upd H p (.tup [x,y])/\∀xs ys,Sq t1 K H a xs->Sq t2 K H b ys->xs[i]? = some x/\ys[i]? = some y,
  fun i H=>∃xs ys,Sq t1 K H a xs/\Sq t2 K H b ys/\(xs.length<=i\/ys.length<=i)⟩
theorem qG {P:Program}{w:World}{K:D9}{elts:List Expr}{x1:Nat}{q:Pos}{n:Nat}{a b:Nat}(n1:a < n)(n2:b < n) :
   Turn P w K (.Tuple elts x1 q) (oU t1 t2 K a b) [n + 4,n + 2,n + 3,n,n + 1] (n + 4) (fun i h=>Z2 t1 t2 h n a b i) where
 mem:=by simp
 obj:=fun i h Z c hc=>by
   obtain ⟨z,ti,⟨x,y,to⟩,i1,i2⟩:=Z
   simp only [E2,EN,or_false] at hc
   rcases hc with rfl | rfl | rfl | rfl | rfl
   · exact ⟨_,z,fun v q=>nomatch q⟩
   · exact ⟨_,ti,fun v q=>nomatch q⟩
   · exact ⟨_,to,fun v q=>nomatch q⟩
   · exact i1.obj
   · exact i2.obj
 keep:=fun i h h' Z k=>by
   obtain ⟨z,ti,⟨x,y,to⟩,i1,i2⟩:=Z
   exact ⟨k _ (by simp) _ z,k _ (by simp) _ ti,⟨x,y,k _ (by simp) _ to⟩,i1.stay fun o e=>k _ (by simp) o e,i2.stay fun o e=>k _ (by simp) o e⟩
 item:=by
   intro X hP hw hK hc i pins s σ H E I hf Z hg
   subst hP hw hK
   obtain ⟨xs,ys,x,y,q1,q2,hx,hy⟩:=hg
   obtain ⟨its1,r1,p1,_⟩:=I.sq q1
   obtain ⟨its2,r2,p2,_⟩:=I.sq q2
   obtain ⟨u,hu,ru⟩:=r1.get hx
   obtain ⟨v,hv,rv⟩:=r2.get hy
   have hT:s.TypeIs (.ref (n + 4)) "zip":=⟨_,Z.z,rfl⟩
   unfold pyNext
   refine wpAny_bind (wpAny_attempt (EU (name:=Eb "__next__") hT FO (wpAny_call_entry FO hT Hr
     (qL n1 n2 Z p1 p2 (x:=u) (y:=v) (by simpa using hu) (by simpa using hv) fun g a1 a2 a3 a4 a5 hk=>wpAny_pure ?_) (Hf _))))
   refine ⟨_,rfl,wpAny_letOwnedTupleGo_zip (s:={ s with heap:=g }) a1 fun g2 z2 e2=>?_⟩
   have hN:H s.heap.objs.size=none:=I.hok.fresh (Ee _)
   have ltz:n + 4 < s.heap.objs.size:=Ek Z.z
   have kk:∀c o,c ∉ ([n + 4,n + 3,n,n + 1]:List Addr)->s.heap.get? c=some o->g2.get? c=some o:=fun c o hc' e=>
     e2.extBut _ _ (fun z=>hc' (by rw [z]; simp)) (hk c o hc' e)
   have hT2:IsPair g2 s.heap.objs.size u v:=e2.extBut _ _ (Gr ltz) a5
   have I1:Inv X pins σ (upd H s.heap.objs.size (.tup [x,y])) { s with heap:=g2,toks:=s.toks }:=I.many (ch:=[n + 4,n + 3,n,n + 1]) (fun c hc'=>hf c (by simp only [E2,EN,or_false] at hc' ⊢; rcases hc' with r | r | r | r <;> simp [r])) kk (Ee _)
     ⟨by show 2<=sizeLine; decide,[u,v],.cons ru (.cons rv .nil),_,hT2,rfl,_,rfl⟩
   refine ⟨.ref s.heap.objs.size,_,I1,rfl,⟨_,x,y,hN,rfl,rfl,fun xs' ys' w1 w2=>?_⟩,?_,fun c hc'=>?_⟩
   · rw [I.sq_inj w1 q1,I.sq_inj w2 q2]; exact ⟨hx,hy⟩
   · exact ⟨z2,e2.extBut _ _ (show @Ne Nat _ _ by omega) (hk _ _ (by simp only [E2,EN,or_false,not_or]; exact ⟨show @Ne Nat _ _ by omega,show @Ne Nat _ _ by omega,show @Ne Nat _ _ by omega,show @Ne Nat _ _ by omega⟩) Z.ti),⟨_,_,e2.extBut _ _ (show @Ne Nat _ _ by omega) a2⟩,a3.stay fun o e=>e2.extBut _ _ (show @Ne Nat _ _ by omega) e,a4.stay fun o e=>e2.extBut _ _ (show @Ne Nat _ _ by omega) e⟩
   · have lt:c < s.heap.objs.size:=by
       have:c<=n + 4:=by
         simp only [E2,EN,or_false] at hc'
         have:=hc'
         have h2 : @Eq Nat c (n + 4) \/ @Eq Nat c (n + 2) \/ @Eq Nat c (n + 3) \/ @Eq Nat c n \/ @Eq Nat c (n + 1):=hc'
         show @LE.le Nat _ c (n + 4)
         omega
       exact Nat.lt_of_le_of_lt this ltz
     rw [aB (Ex lt)]
     exact (hf c hc').1
 done:=by
   intro X hP hw hK hc i pins s σ H E I hf Z hg
   subst hP hw hK
   obtain ⟨xs,ys,q1,q2,hend⟩:=hg
   obtain ⟨its1,r1,p1,_⟩:=I.sq q1
   obtain ⟨its2,r2,p2,_⟩:=I.sq q2
   have l1:=r1.length
   have l2:=r2.length
   have hT:s.TypeIs (.ref (n + 4)) "zip":=⟨_,Z.z,rfl⟩
   unfold pyNext
   refine wpAny_bind (wpAny_attempt (EU (name:=Eb "__next__") hT FO (wpAny_call_entry FO hT Hr
     (uk (I.ok.hd hc) n1 n2 Z p1 p2 ?_ fun g e hk he=>?_) (Hf _))))
   · rcases hend with q | q
     · exact .inl (by simp; omega)
     · exact .inr (by simp; omega)
   · obtain ⟨o,ho,hcl⟩:=he
     refine wpAny_bind (wpAny_isInstance (T:="StopIteration") (b:=true) ⟨o,ho,hcl⟩ isSubtype_stop (wpAny_pure ⟨rfl,?_⟩))
     exact I.many0 (t':=s.toks) (ch:=[n + 4,n + 3,n,n + 1]) (fun c hc'=>hf c (by simp only [E2,EN,or_false] at hc' ⊢; rcases hc' with r | r | r | r <;> simp [r])) hk
 self:=fun _ _ _ _ _ Z h=>wpAny_pyIter_zip Z.z h
def wJ (t1 t2:Bool)(K:D9)(ta:TA):TI:=fun σ H R=>ta σ H fun vs H1=>∃a b,vs=[.ref a,.ref b]/\(∃xs,Sq t1 K H1 a xs)/\(∃ys,Sq t2 K H1 b ys)/\R (oU t1 t2 K a b) H1
theorem vS {e f:Expr}{ta:TA}{p pos q:Pos}{elts:List Expr}{x1:Nat}(hg:Gl X "zip")(hm:X.mg "zip"=none)(ha:PA X [e,f] ta)(hs:starEach [e,f] X.env=[(false,eval e X.env),(false,eval f X.env)]:=by rfl)(hs2:starEach [f] X.env=[(false,eval f X.env)]:=by rfl)
   (hb:bootBuiltins "zip"=some (.type "zip"):=by first | rfl | decide +kernel):PI X (.Tuple elts x1 q) (.Call (.Name "zip" p) [e,f] [] pos) (wJ t1 t2 X.K ta):=by
 intro pins s σ H R I h
 refine Call_ (fI I hg hm hb (Fq (a7 (ha pos pins s σ H _ I h) fun us s1 ⟨vs,H1,I1,r1,w⟩=>?_) (by rw [hs,hs2]) (by rw [hs2]; rfl)))
 obtain ⟨l1,l2,e,⟨xs,q1⟩,⟨ys,q2⟩,w⟩:=w
 subst e
 obtain ⟨u,v,rfl,ru,rv⟩:=Vals.two r1
 obtain rfl:u=Ep l1:=ru
 obtain rfl:v=Ep l2:=rv
 obtain ⟨its1,rv1,p1,_⟩:=I1.sq q1
 obtain ⟨its2,rv2,p2,_⟩:=I1.sq q2
 refine ph p1 p2 fun g Z hk=>?_
 refine wpAny_pyIter_zip Z.z ?_
 have I2:Inv X pins σ H1 { s1 with heap:=g }:=I1.kept (t':=s1.toks) hk
 refine ⟨_,_,_,_,H1,rfl,I2,qG p1.lt p2.lt,Z,fun c hc=>?_,w⟩
 simp only [E2,EN,or_false] at hc
 have up:∀k,dh X pins H1 (s1.heap.objs.size + k):=fun k=>I1.fpOk (Gk _ _) (I1.hok.fresh (Gk _ _))
 rcases hc with rfl | rfl | rfl | rfl | rfl
 · exact up 4
 · exact up 2
 · exact up 3
 · exact up 0
 · exact up 1
end
section
variable {K:D9}{a b:Addr}{xs ys:List V}{g:TG}{t1 t2:Bool}
theorem fk {tifs:TT}{tm:TM}{σ0:St}{Z:Hp->Prop}{H:Hp}(hlen:xs.length=ys.length)(Pv:Nat->Hp->Prop)(h0:Pv 0 H)(hl:∀i H,i<=xs.length->Pv i H->Sq t1 K H a xs/\Sq t2 K H b ys)
   (turn:∀i x y p H,xs[i]? = some x->ys[i]? = some y->Pv i H->H p=none->g (.ref p) σ0 (upd H p (.tup [x,y])) fun σ2 H2=>tifs σ2 H2 fun b H3=>
     if b=true then tm σ2 H3 fun H4=>aS σ0 σ2/\∃m',m' < xs.length - i/\(m'=xs.length - (i + 1)/\i + 1<=xs.length/\Pv (i + 1) H4) else aS σ0 σ2/\∃m',m' < xs.length - i/\(m'=xs.length - (i + 1)/\i + 1<=xs.length/\Pv (i + 1) H3))
   (hZ:∀H,Pv xs.length H->Z H):iN (oU t1 t2 K a b) σ0 g tifs tm Z H:=by
 refine gq xs.length Pv h0 (fun i H hi p=>⟨xs,ys,xs[i],ys[i]'(hlen ▸ hi),(hl i H (E9 hi) p).1,(hl i H (E9 hi) p).2,by simp [hi],by simp [hlen ▸ hi]⟩) (fun H p=>⟨xs,ys,(hl _ H (Ee _) p).1,(hl _ H (Ee _) p).2,.inl (Ee _)⟩) (fun i H hi p x H' y=>?_) hZ
 obtain ⟨pp,x1,y1,hn,rfl,rfl,k⟩:=y
 obtain ⟨k1,k2⟩:=k xs ys (hl i H (E9 hi) p).1 (hl i H (E9 hi) p).2
 exact turn i x1 y1 pp H k1 k2 p hn
end
end L2
namespace L3
open PySem PySem.Spec PyProof.Rows L2
section
variable {X:Cx}{a b c e o:Expr}{es:List Expr}{ta tb tc te:TE}{t:TA}{pos:Pos}
theorem zR (t1 t2:Bool){KK:D9}{p q:Pos}{elts:List Expr}{x1:Nat}(hg:Gl X "zip")(hm:X.mg "zip"=none)(ha:SA X [a,b] t)(hb:bp b:=by first | exact gG | exact kh | exact gv)(hK:X.K=KK:=by first | exact cxC_K | rfl):SI X (.Tuple elts x1 q) (.Call (.Name "zip" p) [a,b] [] pos) (wJ t1 t2 KK t):=by
 subst hK
 exact ⟨vS hg hm ha.h.pa (by rw [(ha.h.ns a [b] rfl).1.h [b] X.env,hb.h [] X.env]; rfl) (by rw [hb.h [] X.env]; rfl)⟩
end
end L3
set_option Elab.async false
set_option linter.all false
set_option maxRecDepth 100000
/-! texts: str(..),join,parts told exactly,a text in a text,>>; a dict of texts that the text's top level keeps -/
namespace L2
open PySem PySem.Spec PyProof.Rows
end L2
namespace L3
open PySem PySem.Spec PyProof.Rows L2
end L3
set_option Elab.async false
set_option linter.all false
set_option maxRecDepth 100000
/-! texts: split,int(text),parts; x in a dict of the top level,its get; pop(),x.f += y -/
namespace PySem.StrLaws
open Builtin Builtin.Str
end PySem.StrLaws
namespace L2
open PySem PySem.Spec PyProof.Rows
end L2
namespace L3
open PySem PySem.Spec PyProof.Rows L2
end L3
set_option Elab.async false
set_option linter.all false
set_option maxRecDepth 100000
/-! t[:k] that may be the whole of t -/
namespace HT
open PySem PySem.Spec PyProof.Rows
section
variable {prog:Program}{w:World}{A:Around}{E:Value->Shared->Prop}{s:Shared}
theorem eM {t sl:Addr}{items:Array Value}{vl vu:Value}{lo hi:Option Int}{Q:Value->Shared->Prop}(ht:IsTup s.heap t items)(hs:s.heap.IsSliceOf sl vl vu .none)(pl:IsPart vl lo)(pu:IsPart vu hi)
   (hw:bf items.size 0 lo=0/\bf items.size items.size hi=items.size)
   (h:Q (.ref t) s):wpAny (model prog w) A (getItem (.ref t) (.ref sl)) Q E s:=by
 obtain ⟨os,hos,hcs,hds⟩:=id hs
 have hTs:s.TypeIs (.ref sl) "slice":=⟨os,hos,hcs⟩
 unfold getItem
 try with_reducible refine wpAny_holding ?_
 first | refine wpAny_bind (wpAny_pure ?_) | skip
 refine wpAny_bind (wpAny_sequenceKey ht.typeIs (by decide) ?_)
 refine wpAny_bind (EU (name:=Eb "__getitem__") ht.typeIs Ff
   (wpAny_call_entry Ff ht.typeIs entry_tuple_getitem ?_ (args_tuple_getitem _ _)))
 show wpAny _ _ (GB (.ref t) >>= _) _ _ s
 refine wpAny_bind (tupleItemsOf_ ht ?_)
 refine wpAny_bind (wpAny_typeOf hTs ?_)
 rw [if_pos (by decide)]
 refine wpAny_bind (c4 hs pl pu ?_)
 show wpAny _ _ (if (((bf items.size 0 lo:Nat):Int) == 0 && (1:Int) == 1 && (bf items.size items.size hi - bf items.size 0 lo) == items.size)=true then _ else _) _ _ s
 rw [if_pos (by rw [hw.1,hw.2]; simp)]
 unfold Builtin.Tuple.tupleIsExact
 refine wpAny_bind (wpAny_bind (wpAny_typeOf ht.typeIs (wpAny_pure ?_)))
 rw [if_pos (by decide)]
 exact wpAny_bind (wpAny_rule (wpAny_pure ⟨_,rfl,wpAny_pure h⟩))
end
end HT
namespace L2
open PySem PySem.Spec PyProof.Rows
section
variable {X:Cx}
/-- t[lo:hi]: the whole is t itself -/
def Bm (K:D9):V->Option Int->Option Int->Hp->VK->Prop:=fun x lo hi H Q=>zi K x lo hi H Q\/∃a xs,x=.ref a/\ar K H a xs/\(HT.bf xs.length 0 lo=0/\HT.bf xs.length xs.length hi=xs.length)/\Q (.ref a) H
theorem wc:uw X (Bm X.K):=uw.or tR (by
 intro pins s σ H x v vl vu lo hi sl Q I rx hs pl pu h
 obtain ⟨a,xs,rfl,hx,hw,q⟩:=h
 cases rx
 obtain ⟨its,r,ht,hz⟩:=I.tuple hx
 have hlen:its.toArray.size=xs.length:=by rw [Ei]; exact r.length.symm
 refine ⟨"tuple",_,PyProof.Rows.slot_tuple_getitem.lookup,ht.typeIs,?_⟩
 exact HT.eM ht hs pl pu (by rw [hlen]; exact hw) ⟨.ref a,H,I,rfl,q⟩)
/-! isinstance(x,(T1,T2)),built-in types -/
inductive TyS (H:Hp):V->Value->Prop where
 | int (i:Int):TyS H (.int i) (.type "int")
 | str (x:Str):TyS H (.str x) (.type "str")
 | lst {a:Addr} {xs:List V} (h:H a=some (.lst xs)):TyS H (.ref a) (.type "list")
 | tup {a:Addr} {xs:List V} (h:H a=some (.tup xs)):TyS H (.ref a) (.type "tuple")
def Bj (K:D9):List V->Hp->VK->Prop:=fun xs H Q=>(∃x n t b,xs=[x,.ty n]/\TyOf K H x t/\FZ K t (.type n)=some b/\Q (.bl b) H) \/
 ∃(x:V) (tp:Addr) (ns:List String) (t:Value) (b:Bool),xs=[x,.ref tp]/\H tp=some (.tup (ns.map V.ty))/\TyS H x t/\PySem.W.kitAny K t (ns.map FD)=some b/\Q (.bl b) H
theorem nq {ns:List String}:∀{us:List Value},Vals (ns.map V.ty) us->us=ns.map FD:=by
 induction ns with
 | nil=>intro us h; cases h; rfl
 | cons a l ih=>
   intro us h
   cases h with
   | cons r t=>
     rw [ih t,EJ]
     congr 1
theorem qR:bZ X (.builtin "isinstance") (Bj X.K):=by
 intro pins s σ H xs us Q I r h
 rcases h with h | ⟨x,tp,ns,t,b,rfl,ht,ty,e,q⟩
 · exact qS pins s σ H xs us Q I r h
 obtain ⟨u,v,rfl,ru,rv⟩:=Vals.two r
 obtain rfl:v=Ep tp:=rv
 obtain ⟨_,its,rl,o,h1,h2,n,h3⟩:=(show aQ X.prog X.w H s.heap tp (.tup (ns.map V.ty)) from I.hok tp _ ht)
 rw [nq rl] at h3
 obtain ⟨oc,od,oda,osl⟩:=o
 simp only at h2 h3
 subst h2 h3
 cases ty with
 | int i=>obtain ⟨t,q'⟩:=(show ∃t,u=GG i t from ru); cases q'; exact Gf PySem.W.kitx_int I.kIn EG h1 e (fun z=>nomatch z) fun tk=>⟨.bl b,H,I.tok tk,rfl,q⟩
 | str y=>obtain ⟨t,q'⟩:=(show ∃t,u=GZ y t from ru); cases q'; exact Gf PySem.W.kitx_str I.kIn EG h1 e (fun z=>nomatch z) fun tk=>⟨.bl b,H,I.tok tk,rfl,q⟩
 | @lst a xs ea=>
   cases (show u=Ep a from ru)
   obtain ⟨_,_,n,_,g1⟩:=(show aQ X.prog X.w H s.heap a (.lst xs) from I.hok a _ ea)
   exact Gf GI I.kIn ⟨_,g1,rfl⟩ h1 e (fun z=>nomatch z) fun tk=>⟨.bl b,H,I.tok tk,rfl,q⟩
 | @tup a xs ea=>
   cases (show u=Ep a from ru)
   obtain ⟨_,_,_,p⟩:=(show aQ X.prog X.w H s.heap a (.tup xs) from I.hok a _ ea)
   obtain ⟨o,g1,g2,_⟩:=p
   exact Gf HR I.kIn ⟨o,g1,g2⟩ h1 e (fun z=>nomatch z) fun tk=>⟨.bl b,H,I.tok tk,rfl,q⟩
end
end L2
namespace L3
open PySem PySem.Spec PyProof.Rows L2
section
variable {X:Cx}{a b:Expr}{ta tb:TE}{pos:Pos}
theorem CV {KK:D9}{p2:Pos}(ha:SE X a ta)(hb:SE X b tb)(hK:X.K=KK:=by first | exact cxC_K | rfl):SE X (.Subscript a (.Slice none (some b) none p2) pos) (BK (Bm KK) ta e8 (me tb)):=by
 subst hK
 exact ⟨eU wc ha.h gJ (gK hb.h)⟩
theorem aR {KK:D9}(hK:X.K=KK:=by first | exact cxC_K | rfl):SC X (.builtin "isinstance") (Bj KK):=by
 subst hK
 exact ⟨qR⟩
end
end L3
set_option Elab.async false
set_option linter.all false
set_option maxRecDepth 100000
/-! an exception that leaves a comprehension -/
namespace L2
open PySem PySem.Spec PyProof.Rows
end L2
namespace L3
open PySem PySem.Spec PyProof.Rows L2
end L3
set_option Elab.async false
set_option linter.all false
set_option maxRecDepth 100000
/-! tokens: what is below a number,a list that is held as it lies,statements from where on so many tokens are taken; text.replace(a,b) -/
namespace L2
open PySem PySem.Spec PyProof.Rows
/-! ### y=[x for x in [texts] if x not in z]: the tokens of what is picked -/
/-! ### text.replace(y,l[i]) where l is held -/
end L2
namespace L3
open PySem PySem.Spec PyProof.Rows L2
end L3
set_option Elab.async false
set_option linter.all false
set_option maxRecDepth 100000
/-! dict(xs),xs a list of pairs whose first parts are tuples -/
namespace L2
open PySem PySem.Spec PyProof.Rows
section
variable {X:Cx}
def nz (H:Hp)(t:V)(kv:List Key×V):Prop:=∃a b,t=.ref a/\H a=some (.tup [.ref b,kv.2])/\H b=some (.tup (kv.1.map kV))
theorem kI {pins:List (Addr×Obj)}{σ:St}{A:Around}{D l it:Addr}{xs:List V}(hh:A.handled=none)(hu:A.units + 3 < cLine) :
   ∀(n i:Nat) (j:Int) (t:Tok) (kvs d:List (List Key×V)) (H:Hp) (s:Shared) (R:Result->Shared->Prop),xs.length - i=n->i<=xs.length->Inv X pins σ H s->H D=some (.dT d)->d.length + n<=sizeLine->aA X.K H l xs->dh X pins H it->s.heap.IsListIter it l i ->
     Paired (nz H) (xs.drop i) kvs->(∀s',Inv X pins σ (upd H D (.dT (putAllT d kvs))) s'->R (.ok (.ret .none)) s') ->
     codeAny (model X.prog X.w) A (.builtin "dict.update.loop" ⟨[.ref D,.ref it,.int j t,.none],[]⟩) R s:=by
 intro n
 induction n using Nat.strongRecOn with
 | _ n ih=>
   intro i j t kvs d H s R hn hi I hD hz hq hf hit hp hR
   obtain ⟨its,rv,p,_⟩:=I.list hq
   have hl:=rv.length
   obtain ⟨f0,f1,f2,f3,f4,f5⟩:=id hf
   refine codeAny_builtin dw ?_
   have hA:(A.under (.builtin "dict.update.loop" ⟨[.ref D,.ref it,.int j t,.none],[]⟩)).handled=none:=by rw [show (A.under (.builtin "dict.update.loop" ⟨[.ref D,.ref it,.int j t,.none],[]⟩)).handled=A.handled from rfl]; exact hh
   have hU:(A.under (.builtin "dict.update.loop" ⟨[.ref D,.ref it,.int j t,.none],[]⟩)).units + 1 < cLine:=by
     show A.units + (Code.builtin "dict.update.loop" ⟨[.ref D,.ref it,.int j t,.none],[]⟩).cUnits + 1 < cLine
     rw [show (Code.builtin "dict.update.loop" ⟨[.ref D,.ref it,.int j t,.none],[]⟩).cUnits=1 from plainId_units (by decide +kernel) _]
     omega
   generalize A.under (.builtin "dict.update.loop" ⟨[.ref D,.ref it,.int j t,.none],[]⟩)=A' at hA hU ⊢
   unfold Builtin.«dict.update.loop»
   show wpAny _ _ (pyNext (.ref it) >>= _) _ _ _
   cases hx:xs[i]? with
   | none=>
     have hge:xs.length<=i:=List.getElem?_eq_none_iff.mp hx
     refine wpAny_bind (wpAny_pyNext_list_end hA hit p.isList (by simp; omega) fun h' eb=>?_)
     have I1:Inv X pins σ H { s with heap:=h' }:=I.turned (t':=s.toks) (fun b o hb e=>eb b o hb e) f0 f1 f3 f4 f5
     have hdr:xs.drop i=[]:=List.drop_eq_nil_of_le hge
     rw [hdr] at hp
     cases hp
     have e:upd H D (.dT (putAllT d []))=H:=by
       funext b
       unfold upd
       split
       · rename_i hb; rw [hb,hD]; rfl
       · rfl
     rw [e] at hR
     show wpAny _ _ (GP D [] >>= _) _ _ _
     exact wpAny_bind (wpAny_pure (wpAny_pure (hR _ I1)))
   | some x=>
     have hlt:i < xs.length:=(List.getElem?_eq_some_iff.mp hx).1
     obtain ⟨u,hu,ru⟩:=rv.get hx
     have hdr:xs.drop i=x :: xs.drop (i + 1):=by
       have e:xs[i]=x:=(List.getElem?_eq_some_iff.mp hx).2
       rw [List.drop_eq_getElem_cons hlt,e]
     rw [hdr] at hp
     cases hp with
     | @cons _ kv _ r hkv hrest=>
       obtain ⟨ta,tb,rfl,hta,htb⟩:=hkv
       obtain rfl:u=Ep ta:=ru
       refine wpAny_bind (wpAny_pyNext_list_item hit p.isList (x:=.ref ta) (by simpa using hu) fun h' hit' sb=>?_)
       have I1:Inv X pins σ H { s with heap:=h' }:=I.turned (t':=s.toks) (fun b o hb e=>(sb.2 b hb).trans e) f0 f1 f3 f4 f5
       obtain ⟨its2,rv2,p2,_⟩:=I1.tuple (ar.of hta)
       obtain ⟨w1,w2,rfl,r1,r2⟩:=Vals.two rv2
       refine wpAny_bind (wpAny_holding ?_)
       refine wpAny_bind (wpAny_tryCatch (ke (show ({ s with heap:=h' }:Shared).heap.IsTuple ta #[w1,w2] from (show IsTup h' ta #[w1,w2] by simpa using p2)) ?_))
       show wpAny _ _ (holding [w1,w2] (dictSet D w1 w2)) _ _ _
       have hln:(putK d kv.1 kv.2).length<=d.length + 1:=bb d kv.1 kv.2
       have hn1:n=xs.length - (i + 1) + 1:=by omega
       refine wpAny_holding ?_
       have hDit:D≠it:=fun z=>by rw [z,f0] at hD; cases hD
       have hlD:aA X.K (upd H D (.dT (putK d kv.1 kv.2))) l xs:=by
         rcases hq with (q | ⟨o,q⟩) | q
         · exact .inl (.inl (by rw [aB (cC q hD (fun z=>nomatch z))]; exact q))
         · exact .inl (.inr ⟨o,by rw [aB (cC q hD (fun z=>nomatch z))]; exact q⟩)
         · exact .inr q
       obtain ⟨z,hd',vs,rel,dd⟩:=kY I1.hok hD
       have hzv:vs.length<=sizeLine:=by rw [← Paired.length rel]; exact z
       have hroom:(tupleKind (aN X.prog X.w)).room A':=show A'.units < cLine by omega
       cases (show w1=Ep tb from r1)
       refine wpAny_dictSet_heap (hsz:=hzv) hroom (fH I1.hok htb) dd fun h2 dd' hs2=>?_
       obtain ⟨qo,es,ep,hqo,k2,k3,k4,_,k5⟩:=dd'
       have I2:Inv X pins σ (upd H D (.dT (putK d kv.1 kv.2))) _:=dJ (t':=s.toks) I1 (by rw [hD]; exact EG) hs2 ⟨qo,hqo⟩ ⟨by omega,hd',_,(rel.put kv.1 htb r2).keeps fun c ys ec=>by
         rw [aB (cC ec hD (fun z=>nomatch z))]
         exact ec,qo,es,ep,hqo,k2,k3,k4,k5⟩
       refine wpAny_pure ⟨Code.quiet_builtin _ (by decide +kernel),?_⟩
       refine ih (xs.length - (i + 1)) (by omega) (i + 1) _ _ r (putK d kv.1 kv.2) (upd H D (.dT (putK d kv.1 kv.2))) _ R rfl hlt (I2.tok _) ae (by omega) hlD ⟨by rw [aB hDit.symm]; exact f0,hf.2⟩ (hit'.extBut hs2.extBut hDit.symm) ?_ ?_
       · exact Paired.mapP hrest fun a b ⟨c,c2,e1,e2,e3⟩=>⟨c,c2,e1,by rw [aB (cC e2 hD (fun z=>nomatch z))]; exact e2,by rw [aB (cC e3 hD (fun z=>nomatch z))]; exact e3⟩
       · intro s' I'
         rw [oP] at I'
         exact hR s' I'
/-- dict(xs) -/
def tD (K:D9):List V->Hp->VK->Prop:=fun vs H Q=>∃l xs kvs,vs=[.ref l]/\H l=some (.lst xs)/\Paired (nz H) xs kvs/\∀D,H D=none->Q (.ref D) (upd H D (.dT (putAllT [] kvs)))
theorem fi (hu:X.A.units + 5 < cLine)(hc:X.calm=true):bZ X (.type "dict") (tD X.K):=by
 intro pins s σ H vs us Q I r h
 obtain ⟨l,xs,kvs,rfl,hl,hp,q⟩:=h
 obtain ⟨u,rfl,ru⟩:=vals1 r
 obtain rfl:u=Ep l:=ru
 have hh:X.A.handled=none:=I.ok.hd hc
 have hD:H s.heap.objs.size=none:=I.hok.fresh (Ee _)
 have I1:Inv X pins σ (upd H s.heap.objs.size (.dT [])) { s with heap:=s.heap.push { cls:=.type "dict",data:=.dict #[] } }:=I.laid (t':=s.toks) (fun _ _ e=>Ec _ e) (Ee _) (kX s.heap I.big)
 refine callType_codes (Q₁:=fun obj s₁=>obj=.ref s.heap.objs.size/\s₁={ s with heap:=s.heap.push { cls:=.type "dict",data:=.dict #[] } }) F.kt_called_dict (F.kt_typeCall_dict_1 _) F.entry_dict_init (kt_code_dict_new _ ⟨rfl,rfl⟩) ?_
 rintro obj s₁ ⟨rfl,rfl⟩
 have hnew:(s.heap.push { cls:=.type "dict",data:=.dict #[] }).DictOf (aN X.prog X.w) s.heap.objs.size []:=HP s.heap
 generalize hs1:({ s with heap:=s.heap.push { cls:=.type "dict",data:=.dict #[] } }:Shared)=s1 at I1 ⊢
 have hnew1:s1.heap.DictOf (aN X.prog X.w) s.heap.objs.size []:=by rw [← hs1]; exact hnew
 generalize s.heap.objs.size=D at hD I1 hnew1 ⊢
 have hl1:(upd H D (.dT [])) l=some (.lst xs):=by rw [aB (au hl hD)]; exact hl
 refine ⟨hnew1.typeIs,F.args_dict_init_2 _ _,?_⟩
 unfold Builtin.«dict.__init__»
 refine wpAny_bind ?_
 unfold GO
 refine wpAny_bind (wpAny_notOrdered_dict hnew1.typeIs ?_)
 show wpAny _ _ (pure (D,[Ep l])) _ _ _
 refine wpAny_pure ?_
 show wpAny _ _ (FF "dict.__init__" D (.ref l) [] .none) _ _ _
 unfold FF
 obtain ⟨z,its,n,rv,e⟩:=(show aQ X.prog X.w _ s1.heap l (.lst xs) from I1.hok l _ hl1)
 refine wpAny_bind (wpAny_typeOf (T:="list") ⟨_,e,rfl⟩ ?_)
 rw [if_pos (by decide)]
 refine wpAny_bind (gh e hh fun h' tk hk=>?_)
 rw [if_pos (show (Option.isNone (none:Option Value))=true from rfl)]
 have I2:Inv X pins σ (upd H D (.dT [])) { s1 with heap:=h',toks:=tk }:=I1.kept hk
 refine wpAny_bind (wpAny_rule ?_)
 refine wpAny_bind (wpAny_pyIter_list ⟨_,hk _ _ e,rfl,n,rfl⟩ ?_)
 have I3:=I2.kept (h':=h'.push { cls:=.type "list_iterator",data:=.fields #[.ref l,.int 0 0] }) (t':=tk) fun b o e=>Ec _ e
 refine wpAny_pure ⟨Code.quiet_builtin _ (by decide +kernel),?_⟩
 refine kI (l:=l) (it:=h'.objs.size) (xs:=xs) (d:=[]) (kvs:=kvs) (pins:=pins) (σ:=σ) (A:=X.A.in1) (show X.A.in1.handled=none from hh) (show X.A.units + 1 + 3 < cLine by omega) xs.length 0 _ _ _ _ _ (by simp) (EC _) I3 ae (by simpa using z) (aA.of hl1) (I2.fpOk (Ee _) (I2.hok.fresh (Ee _))) ⟨_,El _ rfl,rfl,rfl⟩ ?_ ?_
 · exact Paired.mapP hp fun a b ⟨c,c2,e1,e2,e3⟩=>⟨c,c2,e1,by rw [aB (au e2 hD)]; exact e2,by rw [aB (au e3 hD)]; exact e3⟩
 · intro s' I'
   rw [oP] at I'
   exact ⟨rfl,.ref D,_,I',rfl,q D hD⟩
end
end L2
namespace L3
open PySem PySem.Spec PyProof.Rows L2
theorem uy {X:Cx}{KK:D9}(hu:X.A.units + 5 < cLine)(hc:X.calm=true:=by rfl)(hK:X.K=KK:=by first | exact cxC_K | rfl):SC X (.type "dict") (tD KK):=by
 subst hK
 exact ⟨fi hu hc⟩
end L3
set_option Elab.async false
set_option linter.all false
set_option maxRecDepth 100000
/-! ### t + u,t empty or not -/
namespace L2
open PySem PySem.Spec PyProof.Rows
section
variable {X:Cx}
def wX (K:D9):R2:=fun x y H Q=>∃a b xs ys,x=.ref a/\y=.ref b/\ar K H a xs/\ar K H b ys/\ys≠[]/\xs.length + ys.length<=sizeLine /\
 (xs=[]->Q (.ref b) H)/\(xs≠[]->∀p,H p=none->Q (.ref p) (upd H p (.tup (xs++ys))))
theorem vF:dS X (binaryOp .Add) (wX X.K):=by
 intro pins s σ H x y v u Q I rx ry h
 obtain ⟨a,b,xs,ys,rfl,rfl,ha,hb,hy,hz,q1,q2⟩:=h
 cases rx
 cases ry
 obtain ⟨its,r1,p1,_⟩:=I.tuple ha
 obtain ⟨its2,r2,p2,_⟩:=I.tuple hb
 by_cases hx:xs=[]
 · obtain ⟨⟨cls,dd,data,sl⟩,ho,hc,n,hd⟩:=id p1
   obtain ⟨⟨cls2,dd2,data2,sl2⟩,ho2,hc2,n2,hd2⟩:=id p2
   simp only at hc hd hc2 hd2
   subst hc hd hc2 hd2
   have e0:its=[]:=r1.nil_iff.mpr hx
   exact concat_meets ⟨_,ho,rfl⟩ ⟨_,ho2,rfl⟩ noFill_tuple_add seq_tuple_add Gd Ga (F5 _ _)
     (tuple_addW0 a b its.toArray its2.toArray n n2 dd dd2 sl sl2 (by simp [e0])) ⟨ho,ho2,⟨.ref b,H,I,rfl,q1 hx⟩⟩
 · refine ot pins s σ H (.ref a) (.ref b) _ _ Q I rfl rfl ⟨a,b,xs,ys,rfl,rfl,ha,hb,hx,hz,fun z=>absurd z hy,fun _=>q2 hx⟩
end
end L2
namespace L3
open PySem L2
theorem yt {X:Cx}{KK:D9}(hK:X.K=KK:=by first | exact cxC_K | rfl):SO X (binaryOp .Add) (wX KK):=by
 subst hK
 exact ⟨vF⟩
end L3
set_option Elab.async false
set_option linter.all false
set_option maxRecDepth 100000
/-! ### sort of few items,whatever the comparisons say: the same items in some order -/
namespace L2
open PySem PySem.Spec PyProof.Rows
section
variable {prog:Program}{w:World}{A:Around}{E:Value->Shared->Prop}{s:Shared}{a₀:Array Keyed}{κ:SortKind}
structure SB (κ:SortKind)(a₀:Array Keyed)(st:SortSt):Prop where
 perm:(arrOf st).Perm a₀
 kind:kindOf st=κ
 failed:failedOf st=none
 pend:pendingOf st = #[]
theorem SB.size {st:SortSt}(h:SB κ a₀ st):(arrOf st).size=a₀.size:=h.perm.size_eq
theorem SB.setArr {st:SortSt}(h:SB κ a₀ st){xs:Array Keyed}(hp:xs.Perm (arrOf st)):SB κ a₀ (setArr st xs):=⟨hp.trans h.perm,h.kind,h.failed,h.pend⟩
theorem SB.at {st:SortSt}(h:SB κ a₀ st){i:Nat}(hi:i < a₀.size):∃p,(arrOf st)[i]? = some p/\p∈a₀.toList:=by
 have hi':i < (arrOf st).size:=by rw [h.size]; exact hi
 exact ⟨(arrOf st)[i],getElem?_pos _ i hi',(Array.perm_iff_toList_perm.mp h.perm).mem_iff.mp (by simp)⟩
/-- comparisons answer,and change nothing -/
def kL (prog:Program)(w:World)(A:Around)(s:Shared)(κ:SortKind)(a₀:Array Keyed):Prop:=
 ∀p q,p∈a₀.toList->q∈a₀.toList->∀(E':Value->Shared->Prop) (Q:Bool->Shared->Prop),(∀b,Q b s)->wpAny (model prog w) A (keyLt' κ p.1 q.1) Q E' s
theorem fc {st:SortSt}{i j:Nat}{Q:Option Bool->SortSt->Prop}(hL:kL prog w A s κ a₀)(hB:SB κ a₀ st)(hi:i < a₀.size)(hj:j < a₀.size)(h:∀b,Q (some b) st):wpS (model prog w) A E s (ltAt' i j) Q st:=by
 obtain ⟨p,e1,m1⟩:=hB.at hi
 obtain ⟨q,e2,m2⟩:=hB.at hj
 rw [ltAt'_eq]
 refine wpS_bind (wpS_get ?_)
 show wpS _ _ _ _ (do let x ← elem' (arrOf st) i; let y ← elem' (arrOf st) j; lt' x y) Q st
 rw [elem'_eq,elem'_eq,e1,e2]
 refine wpS_bind (wpS_pure (wpS_bind (wpS_pure ?_)))
 rw [lt'_eq]
 refine wpS_bind (wpS_get ?_)
 rw [hB.kind]
 refine wpS_bind (wpS_lift (wpAny_attempt (hL p q m1 m2 _ _ fun b=>⟨rfl,?_⟩)))
 exact wpS_pure (h b)
theorem uj {st:SortSt}{n ok:Nat}{Q:Bool->SortSt->Prop}(hL:kL prog w A s κ a₀)(hn:n<=a₀.size)(hB:SB κ a₀ st)(h:∀st',SB κ a₀ st'->Q true st'):wpS (model prog w) A E s (binarySort' 0 n ok) Q st:=by
 rw [binarySort'_eq]
 simp only [HX]
 refine wpS_bind (wpS_mono (wpS_forRange (I:=fun k c st'=>c=(none,())/\SB κ a₀ st') (Q:=fun c st'=>c=(none,())/\SB κ a₀ st') ?step ?fin ?init) ?post)
 case post=>
   rintro c st' ⟨rfl,hB'⟩
   exact wpS_pure (h st' hB')
 case init=>exact ⟨rfl,hB⟩
 case fin=>
   rintro c st' h
   exact h
 case step=>
   rintro k c st' hak hkn ⟨rfl,hB'⟩
   have hk:k < a₀.size:=by omega
   refine wpS_bind (wpS_mono (wpS_forRange (I:=fun x c st''=>st''=st'/\∃l r,c=(none,l,r)/\l<=r/\r<=k) (Q:=fun c st''=>st''=st'/\∃l r,c=(none,l,r)/\l<=k) ?istep ?ifin ?iinit) ?ipost)
   case iinit=>exact ⟨rfl,0,k,rfl,by omega,by omega⟩
   case ifin=>
     rintro c st'' ⟨rfl,l,r,rfl,a,b⟩
     exact ⟨rfl,l,r,rfl,by omega⟩
   case istep=>
     rintro x c st'' _ hxk ⟨rfl,l,r,rfl,hlr,hrk⟩
     dsimp only
     by_cases hge:l ≥ r
     · rw [if_pos hge]
       exact wpS_pure ⟨rfl,l,r,rfl,by omega⟩
     · rw [if_neg hge]
       refine wpS_bind (fc hL hB' hk (by omega) fun b=>?_)
       cases b
       case true=>
         simp only [if_true]
         exact wpS_pure ⟨rfl,l,(l + r) / 2,rfl,by omega,by omega⟩
       case false=>
         simp only [Et,if_false]
         exact wpS_pure ⟨rfl,(l + r) / 2 + 1,r,rfl,by omega,by omega⟩
   case ipost=>
     rintro c st'' ⟨rfl,l,r,rfl,hlk⟩
     show wpS _ _ _ _ (do moveDown' k l; pure (E5 (none,()))) _ _
     rw [moveDown'_eq]
     exact wpS_bind (wpS_modify (wpS_pure ⟨rfl,hB'.setArr (bubble_perm _ _ _)⟩))
theorem mh {st:SortSt}{a nrem:Nat}{Q:AscSt->SortSt->Prop}(hL:kL prog w A s κ a₀)(hn:nrem<=a₀.size)(ha:1<=a)(han:a<=nrem)(hB:SB κ a₀ st)
   (h:∀n,a<=n->n<=nrem->Q (none,n) st):wpS (model prog w) A E s (ascLoop a nrem) Q st:=by
 unfold ascLoop
 refine wpS_forRange (I:=fun x c st'=>st'=st/\c=(none,x)) ?step ?fin ⟨rfl,rfl⟩
 case fin=>
   rintro c st' ⟨rfl,rfl⟩
   rw [show max a nrem=nrem by omega]
   exact h nrem han (Ee _)
 case step=>
   rintro x c st' hax hxn ⟨rfl,rfl⟩
   dsimp only
   refine wpS_bind (fc hL hB (by omega) (by omega) fun b=>?_)
   cases b
   case true=>
     simp only [if_true]
     exact wpS_pure (h x hax (by omega))
   case false=>
     simp only [Et,if_false]
     exact wpS_pure ⟨rfl,rfl⟩
theorem jH {st:SortSt}{n nrem:Nat}{Q:Option Nat->SortSt->Prop}(hL:kL prog w A s κ a₀)(hn:nrem<=a₀.size)(h1:1<=n)(hnn:n<=nrem)(hB:SB κ a₀ st)
   (h:∀m st',SB κ a₀ st'->1<=m->m<=nrem->Q (some m) st'):wpS (model prog w) A E s (tail3 n nrem) Q st:=by
 unfold tail3
 refine wpS_bind (wpS_reverse ?_)
 have hB':SB κ a₀ (setArr st (mirror (arrOf st) 0 n ((n - 0) / 2))):=hB.setArr (mirror_perm _ _ _ _)
 exact wpS_bind (mh hL hn h1 hnn hB' fun m hm1 hm2=>wpS_pure (h m _ hB' (by omega) hm2))
theorem qJ {st:SortSt}{n nrem:Nat}{Q:DescSt->SortSt->Prop}(hL:kL prog w A s κ a₀)(hn:nrem<=a₀.size)(h1:1<=n)(hnn:n<=nrem)(hB:SB κ a₀ st)
   (h:∀m neq st',SB κ a₀ st'->n<=m->m<=nrem->Q (none,m,neq) st'):wpS (model prog w) A E s (descLoop n nrem) Q st:=by
 unfold descLoop
 refine wpS_forRange (I:=fun x c st'=>∃neq,c=(none,x,neq)/\SB κ a₀ st') ?step ?fin ⟨0,rfl,hB⟩
 case fin=>
   rintro c st' ⟨neq,rfl,hB'⟩
   rw [show max n nrem=nrem by omega]
   exact h nrem neq st' hB' hnn (Ee _)
 case step=>
   rintro x c st' hax hxn ⟨neq,rfl,hB'⟩
   dsimp only
   refine wpS_bind (fc hL hB' (by omega) (by omega) fun b=>?_)
   cases b
   case true=>
     simp only [if_true]
     by_cases hneq:neq > 0
     · rw [if_pos hneq]
       exact wpS_bind (wpS_reverse (wpS_pure ⟨0,rfl,hB'.setArr (mirror_perm _ _ _ _)⟩))
     · rw [if_neg hneq]
       exact wpS_pure ⟨0,rfl,hB'⟩
   case false=>
     simp only [Et,if_false]
     refine wpS_bind (fc hL hB' (by omega) (by omega) fun b=>?_)
     cases b
     case true=>
       simp only [if_true]
       exact wpS_pure (h x neq st' hB' hax (by omega))
     case false=>
       simp only [Et,if_false]
       exact wpS_pure ⟨neq + 1,rfl,hB'⟩
theorem oT {st:SortSt}{n nrem:Nat}{Q:Option Nat->SortSt->Prop}(hL:kL prog w A s κ a₀)(hn:nrem<=a₀.size)(hnn:n + 1<=nrem)(hB:SB κ a₀ st)
   (h:∀m st',SB κ a₀ st'->1<=m->m<=nrem->Q (some m) st'):wpS (model prog w) A E s (descPart n nrem) Q st:=by
 unfold descPart
 refine wpS_bind (wpS_lift (wpAny_rule ⟨rfl,?_⟩))
 refine wpS_bind (qJ hL hn (by omega) hnn hB fun m neq st' hB' hm1 hm2=>?_)
 dsimp only
 by_cases hneq:neq > 0
 · rw [if_pos hneq]
   exact wpS_bind (wpS_reverse (jH hL hn (by omega) hm2 (hB'.setArr (mirror_perm _ _ _ _)) h))
 · rw [if_neg hneq]
   exact jH hL hn (by omega) hm2 hB' h
theorem ny {st:SortSt}{nrem:Nat}{Q:Option Nat->SortSt->Prop}(hL:kL prog w A s κ a₀)(hn:nrem<=a₀.size)(h1:1<=nrem)(hB:SB κ a₀ st)
   (h:∀m st',SB κ a₀ st'->1<=m->m<=nrem->Q (some m) st'):wpS (model prog w) A E s (countRun' 0 nrem) Q st:=by
 rw [countRun0_eq]
 refine wpS_bind (mh hL hn (Ee 1) h1 hB fun n hn1 hn2=>?_)
 dsimp only
 by_cases hnn:n=nrem
 · rw [if_pos (by simpa using hnn)]
   exact wpS_pure (h n st hB hn1 hn2)
 · rw [if_neg (by simpa using hnn)]
   by_cases hgt:n > 1
   · rw [if_pos hgt]
     refine wpS_bind (fc hL hB (by omega) (by omega) fun b=>?_)
     cases b
     case true=>
       simp only [if_true]
       exact wpS_pure (h n st hB hn1 hn2)
     case false=>
       simp only [Et,if_false]
       exact wpS_bind (wpS_reverse (oT hL hn (by omega) (hB.setArr (mirror_perm _ _ _ _)) h))
   · rw [if_neg hgt]
     exact oT hL hn (by omega) hB h
def SDone (a₀:Array Keyed)(st:SortSt):Prop:=(arrOf st).Perm a₀/\failedOf st=none/\pendingOf st = #[(0,a₀.size,0)]
theorem SB.done {st:SortSt}(hB:SB κ a₀ st):SDone a₀ (setPending st ((pendingOf st).push (0,a₀.size,0))):=
 ⟨hB.perm,hB.failed,by show (pendingOf st).push _=_; rw [hB.pend]; rfl⟩
theorem qK {st:SortSt}{Q:Unit->SortSt->Prop}(hL:kL prog w A s κ a₀)(hB:SB κ a₀ st)(h2:2<=a₀.size)(h64:a₀.size < 64)
   (h:∀st',(arrOf st').Perm a₀->failedOf st'=none->Q () st'):wpS (model prog w) A E s sortRuns' Q st:=by
 rw [sortRuns'_eq]
 refine wpS_bind (wpS_get ?_)
 dsimp only
 have hmr:minRun' a₀.size a₀.size 0=a₀.size:=by
   obtain ⟨f,hf⟩ : ∃f,a₀.size=f + 1:=⟨a₀.size - 1,by omega⟩
   have:minRun' (f + 1) a₀.size 0=a₀.size:=by rw [minRun'_succ,if_pos h64]; rfl
   rwa [← hf] at this
 simp only [hB.size,hmr]
 refine wpS_bind (wpS_mono (wpS_forRange
   (I:=fun x c st'=>(x=0/\c=(none,0)/\SB κ a₀ st')\/(1<=x/\c=(none,a₀.size)/\SDone a₀ st'))
   (Q:=fun c st'=>c=(none,a₀.size)/\SDone a₀ st') ?step ?fin (.inl ⟨rfl,rfl,hB⟩)) ?post)
 case fin=>
   rintro c st' (⟨hx,_,_⟩ | ⟨_,hc,hD⟩)
   · omega
   · exact ⟨hc,hD⟩
 case step=>
   rintro x c st' _ hx (⟨rfl,rfl,hB'⟩ | ⟨hx1,rfl,hD⟩)
   · dsimp only
     rw [if_neg (by omega)]
     simp only [FT,Nat.min_self,HX]
     refine wpS_bind (ny hL (Ee _) (by omega) hB' fun m st2 hB2 hm1 hm2=>?_)
     dsimp only
     by_cases hlt:m < a₀.size
     · rw [if_pos hlt]
       refine wpS_bind (wpS_lift (wpAny_rule ⟨rfl,?_⟩))
       refine wpS_bind (uj hL (Ee _) hB2 fun st3 hB3=>?_)
       simp only [GK,Et,if_false]
       refine wpS_bind (wpS_get ?_)
       have hb:(pendingOf st3).back? = none:=by rw [hB3.pend]; rfl
       rw [hb]
       dsimp only
       exact wpS_bind (wpS_modify (wpS_pure (.inr ⟨by omega,rfl,hB3.done⟩)))
     · rw [if_neg hlt]
       have hm:m=a₀.size:=by omega
       subst hm
       refine wpS_bind (wpS_get ?_)
       have hb:(pendingOf st2).back? = none:=by rw [hB2.pend]; rfl
       rw [hb]
       dsimp only
       exact wpS_bind (wpS_modify (wpS_pure (.inr ⟨by omega,rfl,hB2.done⟩)))
   · dsimp only
     rw [if_pos (Ee _)]
     exact wpS_pure ⟨rfl,hD⟩
 case post=>
   rintro c st' ⟨rfl,hD⟩
   dsimp only
   refine wpS_bind (wpS_mono (wpS_forRange (I:=fun _ c st''=>st''=st'/\c=(none,())) (Q:=fun c st''=>st''=st'/\c=(none,())) ?_ (fun _ _ hh=>hh) ⟨rfl,rfl⟩) ?_)
   · rintro x c st'' _ _ ⟨rfl,rfl⟩
     refine wpS_bind (wpS_get ?_)
     rw [if_pos (by rw [hD.2.2]; exact Ee 1)]
     exact wpS_pure ⟨rfl,rfl⟩
   · rintro c st'' ⟨rfl,rfl⟩
     exact wpS_pure (h _ hD.1 hD.2.1)
end
end L2
set_option Elab.async false
set_option linter.all false
set_option maxRecDepth 100000
/-! ### sorted(d): the keys of a dict,tuples of two whole numbers,in some order -/
namespace L2
open PySem PySem.Spec PyProof.Rows
section
variable {prog:Program}{w:World}{A:Around}{E:Value->Shared->Prop}{s:Shared}
/-- a tuple of two whole numbers -/
def wC (h:Heap)(v:Value):Prop:=∃(a:Addr) (p q:Int) (t u:Tok),v=.ref a/\IsTup h a #[.int p t,.int q u]
theorem keyLt'_tup (x y:Value):keyLt' (tuples' true) x y=(do
   let xs ← F4 x; let ys ← F4 y
   for ((p,q),i) in (xs.toList.zip ys.toList).zipIdx do
     if !(← eqBool p q) then return ← oneLt' (true && i == 0) p q
   return xs.size < ys.size):=rfl
theorem iw {b:Bool}{p q:Int}{t u:Tok}{Q:Bool->Shared->Prop}(h:Q (decide (p < q)) s):wpAny (model prog w) A (oneLt' b (.int p t) (.int q u)) Q E s:=by
 cases b with
 | true=>exact oneLt_int h
 | false=>
   rw [oneLt'_eq]
   simp only [Et,if_false]
   refine wpAny_bind (wpAny_richCompare_same (id:="int.__lt__") (typeIs_int s p t) (typeIs_int s q u) slot_int_lt (call_int_lt ⟨(fun z=>nomatch z),?_⟩))
   exact wpAny_truthy_bool h
theorem qc {x y:Value}{Q:Bool->Shared->Prop}(hx:wC s.heap x)(hy:wC s.heap y)(h:∀b,Q b s):wpAny (model prog w) A (keyLt' (tuples' true) x y) Q E s:=by
 obtain ⟨a,p,q,t,u,rfl,o,ho,hc,n,hd⟩:=hx
 obtain ⟨b,p',q',t',u',rfl,o',ho',hc',n',hd'⟩:=hy
 rw [keyLt'_tup]
 refine wpAny_bind (listItems_at ho hd ?_)
 refine wpAny_bind (listItems_at ho' hd' ?_)
 simp only [List.zip_cons_cons,List.zip_nil_left,GX,G5,Gq,HB,bind_assoc,pure_bind]
 refine wpAny_bind (wpAny_eqBool_int ?_)
 cases p == p' with
 | false=>
   simp only [Bool.not_false,if_true,bind_assoc,pure_bind]
   exact wpAny_bind (iw (wpAny_pure (h _)))
 | true=>
   simp only [GK,Et,if_false,pure_bind,bind_assoc]
   refine wpAny_bind (wpAny_eqBool_int ?_)
   cases q == q' with
   | false=>
     simp only [Bool.not_false,if_true,bind_assoc,pure_bind]
     exact wpAny_bind (iw (wpAny_pure (h _)))
   | true=>
     simp only [GK,Et,if_false,pure_bind,bind_assoc]
     exact wpAny_pure (h _)
theorem firstOfTuple'_eq (v:Value):firstOfTuple' v=(do
   if (← typeOf v) != .type "tuple" then return none
   return (← F4 v)[0]?):=rfl
theorem pE {v:Value}{Q:Option Value->Shared->Prop}(hv:wC s.heap v)(h:∀p t,Q (some (.int p t)) s):wpAny (model prog w) A (firstOfTuple' v) Q E s:=by
 obtain ⟨a,p,q,t,u,rfl,o,ho,hc,n,hd⟩:=hv
 rw [firstOfTuple'_eq]
 refine wpAny_bind (wpAny_typeOf (T:="tuple") ⟨o,ho,hc⟩ ?_)
 rw [if_neg (by simp)]
 refine wpAny_bind (listItems_at ho hd (wpAny_pure ?_))
 exact h p t
theorem gZ:∀{vs:List Value} {Q:List (Option Value)->Shared->Prop},(∀v∈vs,wC s.heap v)->(∀(us:List Value) (ns:List Int),IntsAre us ns->us.length=vs.length->Q (us.map some) s)->wpAny (model prog w) A (vs.mapM firstOfTuple') Q E s
 | [],Q,_,h=>by
   rw [List.mapM_nil]
   exact wpAny_pure (h [] [] .nil rfl)
 | v :: vs,Q,hv,h=>by
   rw [List.mapM_cons]
   refine wpAny_bind (pE (hv v (List.mem_cons.mpr (.inl rfl))) fun p t=>?_)
   refine wpAny_bind (gZ (fun x hx=>hv x (List.mem_cons.mpr (.inr hx))) fun us ns i l=>wpAny_pure ?_)
   exact h (.int p t :: us) (p :: ns) (.cons p t i) (by rw [EO,EO,l])
theorem lD {vs:List Value}{Q:SortKind->Shared->Prop}(hne:vs≠[])(hv:∀v∈vs,wC s.heap v)(h:Q (tuples' true) s):wpAny (model prog w) A (keyKind' vs.toArray) Q E s:=by
 rw [keyKind'_eq,List.mapM_toArray]
 refine wpAny_bind ?_
 refine wpAny_bind (gZ hv fun us ns i l=>wpAny_pure ?_)
 have hall:((us.map some).toArray.all fun x=>x.isSome)=true:=by simp
 rw [if_pos hall]
 refine wpAny_bind (wpAny_rule ?_)
 have fm:(us.map some).toArray.filterMap id=us.toArray:=by simp
 rw [fm,oneTypeOnly'_eq,List.mapM_toArray,mapM_typeOf_ints i]
 simp only [map_pure,pure_bind]
 cases us with
 | nil=>exact absurd (List.length_eq_zero_iff.mp l.symm) hne
 | cons v us=>
   have hall:((List.map (fun _=>FD "int") (v :: us)).toArray.all fun x=>x == FD "int")=true:=by
     simp only [List.all_toArray,List.all_map,Fh]
     intro _ _
     rfl
   have h0:(List.map (fun _=>FD "int") (v :: us)).toArray[0]? = some (FD "int"):=by simp
   rw [h0]
   simp only [hall,if_true,pure_bind]
   exact wpAny_pure h
theorem jA (vs:List Value):((pairsOf vs).map (·.2)).toList=vs:=by simp [pairsOf,List.map_snd_zip]
/-- list.sort of few tuples of two whole numbers -/
theorem ja {a:Addr}{vs:List Value}{n:Nat}{P:Fin->Shared->Prop}(ho:s.heap.get? a=some (seqObj "list" vs.toArray n))(hv:∀v∈vs,wC s.heap v)(h64:vs.length < 64)
   (h:∀out:Array Value,out.toList.Perm vs->P (.done (.ret .none)) { s with heap:=sortedHeap s.heap a vs out }) :
   wpAny (model prog w) A (Builtin.«list.sort» ⟨[.ref a],[]⟩) P E s:=by
 rw [list_sort_plain]
 have ha:a < s.heap.objs.size:=Ek ho
 refine wpAny_bind (listItems_at ho rfl ?_)
 refine wpAny_bind (listUpdate_at ho rfl ?_)
 obtain ⟨e1,ho1⟩ : ∃e1,(s.heap.update a (EW fun _=>#[])).get? a=some (seqObj "list" #[] e1):=⟨_,HK ho (fun _=>#[])⟩
 refine wpAny_bind (seqEpoch_at ho1 rfl ?_)
 refine wpAny_bind (wpAny_newTuple ?_)
 refine wpAny_bind (wpAny_newList ?_)
 refine wpAny_holding ?_
 have ho6:(((s.heap.update a (EW fun _=>#[])).push (seqObj "tuple" vs.toArray 0)).push (seqObj "list" #[] 0)).get? a=some (seqObj "list" #[] e1):=by
   rw [Heap.get?_push_ne _ _ _ (by rw [size_push',Heap.size_update]; exact Ex (GU ha)),Heap.get?_push_ne _ _ _ (by rw [Heap.size_update]; exact Ex ha)]
   exact ho1
 show wpAny (model prog w) A _ P E { s with heap:=((s.heap.update a (EW fun _=>#[])).push (seqObj "tuple" vs.toArray 0)).push (seqObj "list" #[] 0) }
 dsimp only
 have hsz:vs.toArray.size=vs.length:=by simp
 have hv6:∀v∈vs,wC (((s.heap.update a (EW fun _=>#[])).push (seqObj "tuple" vs.toArray 0)).push (seqObj "list" #[] 0)) v:=fun v hv0=>by
   obtain ⟨b,p,q,t,u,rfl,o,hb,hc,rest⟩:=hv v hv0
   refine ⟨b,p,q,t,u,rfl,o,?_,hc,rest⟩
   refine Ec _ (Ec _ ?_)
   rw [Fv _ _ (fun e=>by
     subst e
     rw [ho] at hb
     cases hb
     have hc:FD "list"=FD "tuple":=hc
     exact absurd hc (by decide))]
   exact hb
 by_cases h2:vs.toArray.size < 2
 · rw [if_pos h2,if_pos h2]
   refine wpAny_bind (wpAny_pure ?_)
   rw [StateT.run_pure]
   refine wpAny_bind (wpAny_pure ?_)
   dsimp only
   refine wpAny_bind (seqEpoch_at ho6 rfl ?_)
   refine wpAny_bind (listUpdate_at ho6 rfl ?_ (hsz2:=by rw [Array.size_map]; show (pairsOf vs).size<=_; rw [pairsOf_size,sizeLine_eq]; omega))
   simp only [bne_self_eq_false,Et,if_false]
   refine wpAny_pure (h _ ?_)
   exact List.Perm.of_eq (jA vs)
 · rw [if_neg h2,if_neg h2]
   refine wpAny_bind (lD (fun e=>h2 (by rw [e]; decide)) hv6 ?_)
   refine wpAny_bind (wpAny_mono (qK (κ:=tuples' true) (a₀:=pairsOf vs) (st:=SortSt.mk' (tuples' true) (vs.toArray.zip vs.toArray) #[] 7 none)
     (Q:=fun _ st'=>(arrOf st').Perm (pairsOf vs)/\failedOf st'=none) ?_ ⟨Array.Perm.refl _,rfl,rfl,rfl⟩ (by rw [pairsOf_size]; omega) (by rw [pairsOf_size]; exact h64) fun st' a1 a2=>⟨a1,a2⟩) ?_ fun _ _ e=>e)
   · intro p q hp hq E' Q' hQ
     rw [pairsOf_toList] at hp hq
     exact qc (hv6 _ (FY hp).1) (hv6 _ (FY hq).1) hQ
   rintro ⟨⟨⟩,st'⟩ s' ⟨rfl,hp,hf⟩
   dsimp only
   refine wpAny_bind (seqEpoch_at ho6 rfl ?_)
   refine wpAny_bind (listUpdate_at ho6 rfl ?_ (hsz2:=by refine EX (Nat.le_of_eq ((Array.size_map ..).trans (hp.size_eq.trans (pairsOf_size _)))) ?_; rw [sizeLine_eq]; omega))
   rw [hf]
   simp only [bne_self_eq_false,Et,if_false]
   refine wpAny_pure (h _ ?_)
   rw [Array.toList_map]
   have h1:=(Array.perm_iff_toList_perm.mp hp).map (·.2)
   rw [← Array.toList_map (xs:=pairsOf vs),jA] at h1
   exact h1
end
end L2
set_option Elab.async false
set_option linter.all false
set_option maxRecDepth 100000
/-! ### the keys of a dict,one by one,whatever they are -/
namespace L2
open PySem PySem.Spec PyProof.Rows
section
variable {prog:Program}{w:World}{A:Around}{E:Value->Shared->Prop}{s:Shared}
/-- a dict of these keys -/
def dm (h:Heap)(d:Addr)(ks:List Value)(ep:Nat):Prop:=∃o es,h.get? d=some o/\o.ExactDict/\o.data=.dict es ep/\es.toList.map (·.key)=ks
theorem dm.at {h h':Heap}{d:Addr}{ks:List Value}{ep:Nat}(x:dm h d ks ep)(e:∀o,h.get? d=some o->h'.get? d=some o):dm h' d ks ep:=let ⟨o,es,ho,r⟩:=x; ⟨o,es,e _ ho,r⟩
theorem rY {it d:Addr}{i ep:Nat}{ks:List Value}{k:Value}{Q:Option Value->Shared->Prop}(hit:s.heap.IsKeyIter it d i ks.length ep)(hm:dm s.heap d ks ep)(hx:ks[i]? = some k)
   (hQ:∀h',h'.IsKeyIter it d (i + 1) ks.length ep->E8 it s.heap h'->Q (some k) { s with heap:=h' }):wpAny (model prog w) A (pyNext (.ref it)) Q E s:=by
 obtain ⟨o,ho,hc,hd⟩:=id hit
 obtain ⟨od,es,hod,hcd,hdd,hk⟩:=id hm
 have hsz:es.size=ks.length:=by rw [← hk,Ea]; rfl
 have hlt:i < ks.length:=(List.getElem?_eq_some_iff.mp hx).1
 have hlt':i < es.size:=by rw [hsz]; exact hlt
 have hkey:es[i].key=k:=by
   rw [← hk,Em] at hx
   have:es.toList[i]? = some es[i]:=by simp [hlt']
   rw [this] at hx
   exact EH hx
 unfold pyNext
 refine wpAny_bind (wpAny_attempt (EU (name:=Eb "__next__") hit.typeIs Fz (wpAny_call_entry Fz hit.typeIs Hl ?_ (G6 _))))
 refine wpAny_bind (wpAny_pure ?_)
 refine wpAny_bind ?_
 refine wpAny_bind ?_
 first | refine wpAny_bind (wpAny_typeNameOfWhole_keyiter hit.typeIs (wpAny_pure ?_)) | refine wpAny_bind (wpAny_typeNameOf_keyiter hit.typeIs (wpAny_pure ?_))
 refine wpAny_bind (wpAny_fieldsOf ho hd ?_)
 have hown:Gi "dict_keyiterator"=false:=by decide
 simp only [hown,Et,if_false]
 show wpAny _ _ (if (Ep d == Fm)=true then _ else _) _ _ s
 rw [if_neg (show ¬ ((Ep d == Fm)=true) from Ej)]
 refine wpAny_bind (wpAny_pure ?_)
 refine wpAny_bind (wpAny_dictEntries hod hdd ?_)
 rw [if_neg (by rw [hsz]; simp)]
 refine wpAny_bind (wpAny_pure ?_)
 refine wpAny_bind (wpAny_dictEpoch hod hdd ?_)
 rw [if_neg (by simp)]
 refine wpAny_pure ?_
 simp only [show ¬ ((i:Int) < 0) from by omega,if_false,ES,Array.getElem?_eq_getElem hlt']
 refine wpAny_bind ?_
 first | refine wpAny_bind (wpAny_typeNameOfWhole_keyiter hit.typeIs (wpAny_pure ?_)) | refine wpAny_bind (wpAny_typeNameOf_keyiter hit.typeIs (wpAny_pure ?_))
 refine wpAny_bind (wpAny_isOneOf_keyiter hit.typeIs ?_)
 show wpAny _ _ (setField (.ref it) 1 (rawInt ((i:Int) + 1)) >>= _) _ _ s
 refine wpAny_bind (wpAny_setField ho hd (by simp) ?_)
 have hit':(s.heap.update it (Obj.mapFields (·.setIfInBounds 1 (rawInt ((i:Int) + 1))))).IsKeyIter it d (i + 1) ks.length ep:=
   ⟨_,Fy _ ho (HW (F6 hd _)),(Obj.cls_mapFields ..).trans hc,by rw [F6 hd]; simp [rawInt]⟩
 refine wpAny_bind (wpAny_holding ?_)
 refine wpAny_bind (wpAny_isOneOf_keyiter (s:={ s with heap:=s.heap.update it (Obj.mapFields (·.setIfInBounds 1 (rawInt ((i:Int) + 1)))) }) hit'.typeIs ?_)
 show wpAny _ _ (pure es[i].key) _ _ _
 rw [hkey]
 exact wpAny_pure (wpAny_pure ⟨_,rfl,wpAny_pure (hQ _ hit' (E3 ..))⟩)
theorem qi {it d:Addr}{i ep:Nat}{ks:List Value}{Q:Option Value->Shared->Prop}(hh:A.handled=none)(hit:s.heap.IsKeyIter it d i ks.length ep)(hm:dm s.heap d ks ep)(hx:ks[i]? = none)
   (hQ:∀h',Heap.ExtBut it s.heap h'->Q none { s with heap:=h' }):wpAny (model prog w) A (pyNext (.ref it)) Q E s:=by
 obtain ⟨o,ho,hc,hd⟩:=id hit
 obtain ⟨od,es,hod,hcd,hdd,hk⟩:=id hm
 have hsz:es.size=ks.length:=by rw [← hk,Ea]; rfl
 unfold pyNext
 refine wpAny_bind (wpAny_attempt (EU (name:=Eb "__next__") hit.typeIs Fz (wpAny_call_entry Fz hit.typeIs Hl ?_ (G6 _))))
 refine wpAny_bind (wpAny_pure ?_)
 refine wpAny_bind ?_
 refine wpAny_bind ?_
 first | refine wpAny_bind (wpAny_typeNameOfWhole_keyiter hit.typeIs (wpAny_pure ?_)) | refine wpAny_bind (wpAny_typeNameOf_keyiter hit.typeIs (wpAny_pure ?_))
 refine wpAny_bind (wpAny_fieldsOf ho hd ?_)
 have hown:Gi "dict_keyiterator"=false:=by decide
 simp only [hown,Et,if_false]
 show wpAny _ _ (if (Ep d == Fm)=true then _ else _) _ _ s
 rw [if_neg (show ¬ ((Ep d == Fm)=true) from Ej)]
 refine wpAny_bind (wpAny_pure ?_)
 refine wpAny_bind (wpAny_dictEntries hod hdd ?_)
 rw [if_neg (by rw [hsz]; simp)]
 refine wpAny_bind (wpAny_pure ?_)
 refine wpAny_bind (wpAny_dictEpoch hod hdd ?_)
 rw [if_neg (by simp)]
 refine wpAny_pure ?_
 have hge:es.size<=i:=by rw [hsz]; simpa using hx
 simp only [show ¬ ((i:Int) < 0) from by omega,if_false,ES,Array.getElem?_eq_none hge]
 refine wpAny_bind ?_
 first | refine wpAny_bind (wpAny_typeNameOfWhole_keyiter hit.typeIs (wpAny_pure ?_)) | refine wpAny_bind (wpAny_typeNameOf_keyiter hit.typeIs (wpAny_pure ?_))
 show wpAny _ _ (setField (.ref it) 0 .none >>= _) _ _ s
 refine wpAny_bind (wpAny_setField ho hd (by simp) ?_)
 show wpAny _ _ (newExc (.type "StopIteration") [] >>= _) _ _ _
 refine wpAny_bind ?_
 simp only [newExc,newTuple]
 refine wpAny_bind (wpAny_newObj_type ?_ (by size_fits))
 refine wpAny_bind (m:=firstArgMember _ _) (wpAny_of_eq (a:=Fm) (by first | rfl | (simp only [firstArgMember]; rfl)) ?_)
 refine wpAny_newObj_type ?_ (by size_fits)
 simp only [raiseNew]
 refine wpAny_bind (wpAny_handled ?_)
 rw [show A.in1.handled=none from hh]
 refine wpAny_bind (wpAny_pure (wpAny_throw ?_))
 refine wpAny_bind (wpAny_isInstance (T:="StopIteration") (b:=true) ⟨_,El _ rfl,rfl⟩ isSubtype_stop ?_)
 exact wpAny_pure (hQ _ (((E3 ..).extBut.push _).push _))
theorem nu (hh:A.handled=none)(I d:Addr)(hne:d≠I)(ks:List Value)(ep:Nat) :
   Walks prog w A I [I,d] [I] ks.length (fun i v=>ks[i]? = some v) (fun i h=>h.IsKeyIter I d i ks.length ep/\dm h d ks ep) where
 sub:=fun b hb=>by simp at hb; simp [hb]
 frame:=fun _ _ _ st hk=>⟨st.1.at fun o e=>hk I (by simp) o e,st.2.at fun o e=>hk d (by simp) o e⟩
 item:=fun i s Q E hi st hQ=>by
   obtain ⟨k,hx⟩ : ∃k,ks[i]? = some k:=⟨ks[i],by simp [hi]⟩
   refine rY st.1 st.2 hx fun h' hit' hs'=>?_
   exact hQ k h' s.toks hx ⟨hit',st.2.at fun o e=>hs'.extBut d o hne e⟩ fun b o hb e=>hs'.extBut b o (fun h=>hb (by simp [h])) e
 done:=fun s Q E st hQ=>qi hh st.1 st.2 (by simp) fun h' he'=>hQ h' s.toks fun b o hb e=>he' b o (fun h=>hb (by simp [h])) e
 self:=fun _ _ _ _ st hQ=>wpAny_pyIter_keyiter st.1 hQ
theorem dm.typeIs {d:Addr}{ks:List Value}{ep:Nat}(h:dm s.heap d ks ep):s.TypeIs (.ref d) "dict":=by
 obtain ⟨o,es,ho,hc,_⟩:=h
 exact ⟨o,ho,hc.1⟩
theorem p8 {d:Addr}{ks:List Value}{ep:Nat}{Q:Value->Shared->Prop}(hd:(d == sysModules)=false)(hm:dm s.heap d ks ep)
   (hQ:Q (.ref s.heap.objs.size) { s with heap:=s.heap.push { cls:=.type "dict_keyiterator",data:=.fields #[.ref d,.int 0 0,.int ks.length 0,.int ep 0] } }) :
   wpAny (model prog w) A (pyIter (.ref d)) Q E s:=by
 have hT:=hm.typeIs
 obtain ⟨o,es,ho,hc,hdat,hk⟩:=id hm
 refine wpAny_pyIter_slot hT F.slot_dict_iter (wpAny_call_entry F.slot_dict_iter hT F.entry_dict_iter ?_ (F.args_dict_iter_1 _))
 unfold Builtin.«dict.__iter__»
 refine wpAny_bind ?_
 unfold Builtin.Dict.dictSlotNone
 refine wpAny_bind (wpAny_notOrdered_dict hT ?_)
 show wpAny _ _ (pure (Ep d)) _ _ s
 refine wpAny_pure ?_
 show wpAny _ _ (F9 d >>= _) _ _ s
 unfold F9
 rw [if_neg (by rw [hd]; exact Ej)]
 refine wpAny_bind (wpAny_pure ?_)
 refine wpAny_bind (wpAny_dictEntries ho hdat ?_)
 refine wpAny_bind (wpAny_dictEpoch ho hdat ?_)
 have hsz:es.size=ks.length:=by rw [← hk,Ea]; rfl
 refine wpAny_bind (wpAny_newObj_type (wpAny_pure ⟨_,rfl,"dict_keyiterator",_,⟨_,El _ rfl,rfl⟩,F.slot_dict_keyiterator_next.lookup,?_⟩))
 simpa [rawInt,hsz] using hQ
end
end L2
set_option Elab.async false
set_option linter.all false
set_option maxRecDepth 100000
/-! ### sorted(d) -/
namespace L2
open PySem PySem.Spec PyProof.Rows
section
variable {prog:Program}{w:World}{A:Around}{E:Value->Shared->Prop}{s:Shared}
theorem jN {d:Addr}{ks:List Value}{ep:Nat}{Q:List Value->Shared->Prop}(hh:A.handled=none)(hd:(d == sysModules)=false)(hm:dm s.heap d ks ep)(hn:ks.length<=sizeLine)
   (hQ:∀s',(∀b o,s.heap.get? b=some o->s'.heap.get? b=some o)->s'.gens=s.gens->s'.drawn=s.drawn->s'.os=s.os->s.toks<=s'.toks->s.heap.objs.size<=s'.heap.objs.size->Q ks s') :
   wpAny (model prog w) A (collect (.ref d)) Q E s:=by
 unfold collect
 refine wpAny_bind (wpAny_runValue (codeAny_builtin PySem.F.entry_proto_collect ?_))
 rw [HQ PySem.F.plain_proto_collect _]
 show wpAny _ A.in1 (newList [] >>= fun l=>again (.builtin "list.__iadd__" ⟨[l,.ref d],[]⟩)) _ _ s
 refine wpAny_bind (wpAny_newObj_type ?_)
 refine wpAny_pure ⟨plainId_quiet G8 _,codeAny_builtin PySem.F.entry_list_iadd ?_⟩
 rw [HQ G8 _]
 have hlt:d < s.heap.objs.size:=by obtain ⟨o,es,ho,_⟩:=hm; exact Ek ho
 have h1:GN (.ref s.heap.objs.size) (.ref d)=false:=by simp [GN]; exact fun e=>Ft _ (e ▸ hlt)
 have hm1:dm (s.heap.push { cls:=.type "list",data:=.seq ([]:List Value).toArray }) d ks ep:=hm.at fun o e=>Ec _ e
 show wpAny _ A.in1 (GD (.ref s.heap.objs.size) (.ref d) (.ref s.heap.objs.size)) _ _ _
 unfold GD
 refine wpAny_bind (wpAny_typeOf (dm.typeIs (s:={ s with heap:=s.heap.push { cls:=.type "list",data:=.seq ([]:List Value).toArray } }) hm1) ?_)
 rw [if_neg (by rw [h1]; decide)]
 refine wpAny_bind (p8 (s:={ s with heap:=s.heap.push { cls:=.type "list",data:=.seq ([]:List Value).toArray } }) hd hm1 ?_)
 refine wpAny_bind (wpAny_holding ?_)
 unfold Builtin.List.listLengthHint
 generalize hH:s.heap.push { cls:=.type "list",data:=.seq ([]:List Value).toArray }=H at hm1 ⊢
 have hHs:H.objs.size=s.heap.objs.size + 1:=by rw [← hH,HC]
 have hm2:dm (H.push { cls:=.type "dict_keyiterator",data:=.fields #[.ref d,.int 0 0,.int ks.length 0,.int ep 0] }) d ks ep:=hm1.at fun o e=>Ec _ e
 have hit:(H.push { cls:=.type "dict_keyiterator",data:=.fields #[.ref d,.int 0 0,.int ks.length 0,.int ep 0] }).IsKeyIter H.objs.size d 0 ks.length ep:=⟨_,El _ rfl,rfl,rfl⟩
 have hS:(H.push { cls:=.type "dict_keyiterator",data:=.fields #[.ref d,.int 0 0,.int ks.length 0,.int ep 0] }).get? s.heap.objs.size=some { cls:=.type "list",data:=.seq ([]:List Value).toArray }:=Ec _ (hH ▸ El _ rfl)
 have hsub:∀b o,s.heap.get? b=some o->(H.push { cls:=.type "dict_keyiterator",data:=.fields #[.ref d,.int 0 0,.int ks.length 0,.int ep 0] }).get? b=some o:=fun b o e=>Ec _ (hH ▸ Ec _ e)
 generalize H.push { cls:=.type "dict_keyiterator",data:=.fields #[.ref d,.int 0 0,.int ks.length 0,.int ep 0] }=H2 at hm2 hit hS hsub ⊢
 have hT2:Shared.TypeIs { s with heap:=H2 } (.ref d) "dict":=dm.typeIs (s:={ s with heap:=H2 }) hm2
 refine wpAny_bind (wpAny_specialOf hT2 PySem.F.slot_dict_len.lookup ?_)
 wp_delta
 refine wpAny_bind (wpAny_isInstance (b:=true) hT2 (by rw [isSubtype_type]; kernel_rfl) ?_)
 show wpAny _ A.in1 (typeOf (Ep d) >>= _) _ _ _
 refine wpAny_bind (wpAny_typeOf hT2 ?_)
 refine wpAny_pure ?_
 rw [if_pos (by decide)]
 refine wpAny_bind (wpAny_rule ?_)
 unfold Builtin.List.listTouch
 have hS':H2.get? s.heap.objs.size=some (seqObj "list" #[] 0):=hS
 obtain ⟨e1,hS3⟩ : ∃e1,(H2.update s.heap.objs.size (EW (·.push .none))).get? s.heap.objs.size=some (seqObj "list" #[.none] e1):=⟨_,HK hS' (·.push .none)⟩
 obtain ⟨e2,hS4⟩ : ∃e2,((H2.update s.heap.objs.size (EW (·.push .none))).update s.heap.objs.size (EW (·.pop))).get? s.heap.objs.size=some (seqObj "list" #[] e2):=⟨_,HK hS3 (·.pop)⟩
 refine wpAny_bind (wpAny_bind (listUpdate_at hS' rfl ?_))
 refine listUpdate_at (s:={ s with heap:=H2.update s.heap.objs.size (EW (·.push .none)) }) hS3 rfl ?_
 have hk4:∀b o,b≠s.heap.objs.size->H2.get? b=some o->((H2.update s.heap.objs.size (EW (·.push .none))).update s.heap.objs.size (EW (·.pop))).get? b=some o:=fun b o n e=>by
   rw [Fv _ _ (Ne.symm n),Fv _ _ (Ne.symm n)]
   exact e
 show wpAny _ A.in1 (again _) _ _ { s with heap:=(H2.update s.heap.objs.size (EW (·.push .none))).update s.heap.objs.size (EW (·.pop)) }
 generalize (H2.update s.heap.objs.size (EW (·.push .none))).update s.heap.objs.size (EW (·.pop))=H4 at hS4 hk4 ⊢
 have nI:H.objs.size≠s.heap.objs.size:=by rw [hHs]; exact Nat.succ_ne_self _
 have nd:d≠s.heap.objs.size:=Ex hlt
 have dI:d≠H.objs.size:=by rw [hHs]; exact Ex (GU hlt)
 have hSf:s.heap.objs.size ∉ [H.objs.size,d]:=fun hm=>by
   rcases List.mem_cons.mp hm with z | z
   · exact nI z.symm
   · exact nd (List.mem_singleton.mp z).symm
 have hst:H4.IsKeyIter H.objs.size d 0 ks.length ep/\dm H4 d ks ep:=⟨hit.at fun o e=>hk4 _ _ nI e,hm2.at fun o e=>hk4 _ _ nd e⟩
 refine wpAny_pure ⟨plainId_quiet PySem.F.plain_extend_loop _,codeAny_extend_loopS (nu (A:=A.in1) hh H.objs.size d dI ks ep).toS hn _ hSf _ ks.length 0 _ _ _ rfl (EC _) hst hS4 (ItemsOf.nil _) fun s' acc' c' hm' hSx hacc=>?_⟩
 show wpAny _ A (load s.heap.objs.size >>= _) _ _ s'
 refine wpAny_bind (wpAny_load hSx ?_)
 have ea:acc'.toList=ks:=by
   apply List.ext_getElem?
   intro j
   by_cases hj:j < ks.length
   · have:acc'.toList[j]? = some (acc'[j]'(by rw [hacc.1]; exact hj)):=by simp [hacc.1,hj]
     rw [this]
     exact (hacc.2 j _ (by simp [hacc.1,hj])).symm
   · rw [FQ (by simp [hacc.1]; omega),FQ (by omega)]
 refine wpAny_pure ?_
 rw [ea]
 refine hQ s' (fun b o e=>?_) hm'.gens hm'.drawn hm'.os hm'.toks (E9 (Ek hSx))
 have hbl:=Ek e
 refine hm'.heap b o (fun hb=>?_) (hk4 _ _ (Ex hbl) (hsub _ _ e))
 rcases List.mem_cons.mp hb with h | h
 · exact absurd hbl (h ▸ Ft _)
 · rw [List.mem_singleton.mp h,hHs] at hbl
   exact absurd hbl (Nat.not_lt.mpr (Nat.le_succ _))
theorem lX {d:Addr}{ks:List Value}{ep:Nat}{Q:Value->Shared->Prop}(hh:A.handled=none)(hd:(d == sysModules)=false)(hm:dm s.heap d ks ep)(hv:∀v∈ks,wC s.heap v)(h64:ks.length < 64)
   (h:∀(l:Addr) (out:List Value) (s':Shared),out.Perm ks->(∀b o,s.heap.get? b=some o->s'.heap.get? b=some o)->s.heap.objs.size<=l->(∃e,s'.heap.get? l=some (seqObj "list" out.toArray e))->s'.gens=s.gens->s'.drawn=s.drawn->s'.os=s.os->s.toks<=s'.toks->Q (.ref l) s') :
   wpAny (model prog w) A (call (.builtin "sorted") [.ref d]) Q E s:=by
 refine Calls.call_function_entry kind_sorted plain_sorted entry_sorted (args_sorted1 _) ?_
 unfold Builtin.«sorted»
 refine wpAny_bind (m:=checkCount "sorted" 1 1 _) (wpAny_pure ?_)
 refine wpAny_bind (jN (A:=A.in1) hh hd hm (by rw [sizeLine_eq]; omega) fun s1 k1 g1 d1 o1 t1 z1=>?_)
 refine wpAny_bind (wpAny_newList ?_)
 have hoL:(s1.heap.push (seqObj "list" ks.toArray 0)).get? s1.heap.objs.size=some (seqObj "list" ks.toArray 0):=El _ rfl
 show wpAny _ _ _ _ _ { s1 with heap:=s1.heap.push (seqObj "list" ks.toArray 0) }
 refine wpAny_bind (wpAny_holding (wpAny_call_entry slot_list_sort ⟨_,hoL,rfl⟩ entry_list_sort (ja (s:={ s1 with heap:=s1.heap.push (seqObj "list" ks.toArray 0) }) hoL (fun v hv0=>?_) h64 fun out hp=>⟨_,rfl,?_⟩) (args_list_sort _)))
 · obtain ⟨b,p,q,t,u,rfl,o,hb,r⟩:=hv v hv0
   exact ⟨b,p,q,t,u,rfl,o,Ec _ (k1 _ _ hb),r⟩
 refine wpAny_pure ⟨_,rfl,h s1.heap.objs.size out.toList _ hp (fun b o e=>?_) z1 ?_ g1 d1 o1 t1⟩
 · have hlt:=Ek (k1 _ _ e)
   have hne:b≠s1.heap.objs.size:=Ex hlt
   show (sortedHeap (s1.heap.push (seqObj "list" ks.toArray 0)) s1.heap.objs.size ks out).get? b=some o
   rw [sortedHeap_old hne (by rw [size_push']; exact GU hlt)]
   exact Ec _ (k1 _ _ e)
 · obtain ⟨e2,h2⟩:=sortedHeap_at (out:=out) hoL
   exact ⟨e2,by rw [Array.toArray_toList]; exact h2⟩
end
end L2
set_option Elab.async false
set_option linter.all false
set_option maxRecDepth 100000
/-! ### sorted(d),as a rule -/
namespace L2
open PySem PySem.Spec PyProof.Rows
section
variable {X:Cx}
/-- sorted(d),a dict whose keys are pairs of whole numbers: the same keys in some order -/
def tF:List V->Hp->VK->Prop:=fun vs H Q=>∃d kvs,vs=[.ref d]/\H d=some (.dT kvs)/\kvs.length < 64/\(∀k∈kvs.map (·.1),∃p q:Int,k=[.inl p,.inl q]) /\
 ∀(l:Addr) (as:List Addr),H l=none->as.length=kvs.length->(∀a∈as,∃p q:Int,[.inl p,.inl q]∈kvs.map (·.1)/\H a=some (.tup [.int p,.int q]))->(∀p q:Int,[.inl p,.inl q]∈kvs.map (·.1)->∃a∈as,H a=some (.tup [.int p,.int q]))->Q (.ref l) (upd H l (.lst (as.map V.ref)))
theorem oE:∀{out:List Value},(∀v∈out,∃a,v=.ref a)->∃as:List Addr,out=as.map Ep
 | [],_=>⟨[],rfl⟩
 | v :: out,h=>by
   obtain ⟨a,rfl⟩:=h v (List.mem_cons.mpr (.inl rfl))
   obtain ⟨as,rfl⟩:=oE fun x hx=>h x (List.mem_cons.mpr (.inr hx))
   exact ⟨a :: as,rfl⟩
theorem y4 {α β:Type}{R:α->β->Prop}:∀{xs:List α} {ys:List β},Paired R xs ys->∀{i:Nat} {x:α},xs[i]? = some x->∃y,ys[i]? = some y/\R x y
 | _,_,.nil,i,x,h=>by simp at h
 | _,_,.cons a r,0,x,h=>by simp at h; subst h; exact ⟨_,rfl,a⟩
 | _,_,.cons a r,i + 1,x,h=>y4 r (by simpa using h)
theorem Bd {α β:Type}{R:α->β->Prop}:∀{xs:List α} {ys:List β},Paired R xs ys->xs.length=ys.length
 | _,_,.nil=>rfl
 | _,_,.cons _ r=>congrArg (· + 1) (Bd r)
theorem jC:∀as:List Addr,Vals (as.map V.ref) (as.map Ep)
 | []=>.nil
 | a :: as=>.cons rfl (jC as)
theorem jM (hc:X.calm=true):bZ X (.builtin "sorted") tF:=by
 intro pins s σ H vs us Q I r h
 obtain ⟨d,kvs,rfl,hd,l64,hk,q⟩:=h
 obtain ⟨u,rfl,ru⟩:=vals1 r
 obtain rfl:u=Ep d:=ru
 have hh:X.A.handled=none:=I.ok.hd hc
 obtain ⟨_,hsm,xs,rel,o,es,ep,h1,h2,h3,h4,_⟩:=(show aQ X.prog X.w H s.heap d (.dT kvs) from I.hok d _ hd)
 have xl:kvs.length=xs.length:=Bd rel
 have key:∀x∈xs,∃p q:Int,[.inl p,.inl q]∈kvs.map (·.1)/\H x.2.1=some (.tup [.int p,.int q]):=fun x hx=>by
   obtain ⟨i,hi⟩:=Ia hx
   have hil:i < kvs.length:=by rw [xl]; exact (List.getElem?_eq_some_iff.mp hi).1
   obtain ⟨y,hy,e1,e2,_⟩:=y4 rel (Eg hil)
   rw [hi] at hy
   cases hy
   have hm:(kvs[i]).1∈kvs.map (·.1):=List.mem_map.mpr ⟨_,FV hil,rfl⟩
   obtain ⟨p,q,e3⟩:=hk _ hm
   rw [e3] at hm e2
   exact ⟨p,q,hm,e2⟩
 have raw:dm s.heap d (xs.map fun x=>Ep x.2.1) ep:=⟨o,es,h1,h2,h3,by rw [h4,List.map_map]; rfl⟩
 refine lX hh hsm raw (fun v hv=>?_) (by rw [Ea,← xl]; exact l64) fun l out s' hp keep hl isl g1 d1 o1 t1=>?_
 · obtain ⟨x,hx,rfl⟩:=List.mem_map.mp hv
   obtain ⟨p,q,_,e2⟩:=key x hx
   obtain ⟨its,r1,p1,_⟩:=I.tuple (ar.of e2)
   cases r1 with
   | cons a r1=>
     cases r1 with
     | cons b r1=>
       cases r1
       obtain ⟨t,rfl⟩:=a
       obtain ⟨u,rfl⟩:=b
       exact ⟨x.2.1,p,q,t,u,rfl,p1⟩
 · have mem:∀v∈out,∃x∈xs,v=.ref x.2.1:=fun v hv=>by
     obtain ⟨x,hx,e⟩:=List.mem_map.mp (hp.mem_iff.mp hv)
     exact ⟨x,hx,e.symm⟩
   obtain ⟨as,rfl⟩:=oE fun v hv=>let ⟨x,_,e⟩:=mem v hv; ⟨_,e⟩
   have al:as.length=kvs.length:=by
     have:=hp.length_eq
     rw [Ea,Ea] at this
     omega
   have es':s'={ s with heap:=s'.heap,toks:=s'.toks }:=by
     cases s'
     cases s
     simp only at g1 d1 o1
     subst g1 d1 o1
     rfl
   obtain ⟨e,hoL⟩:=isl
   have I':=I.laid (a:=l) (o:=.lst (as.map V.ref)) (t':=s'.toks) keep hl ⟨by rw [Ea,al,sizeLine_eq]; omega,as.map Ep,e,jC as,hoL⟩
   rw [es']
   refine ⟨.ref l,_,I',rfl,q l as (I.hok.fresh hl) al (fun a ha=>?_) (fun p q hpq=>?_)⟩
   · obtain ⟨x,hx,e⟩:=mem (.ref a) (List.mem_map.mpr ⟨a,ha,rfl⟩)
     cases e
     exact key x hx
   · obtain ⟨kv,hkv,e1⟩:=List.mem_map.mp hpq
     obtain ⟨i,hi⟩:=Ia hkv
     obtain ⟨y,hy,e2,e3,_⟩:=y4 rel hi
     have hm:Ep y.2.1∈as.map Ep:=hp.mem_iff.mpr (List.mem_map.mpr ⟨y,Ef hy,rfl⟩)
     obtain ⟨a,ha,ea⟩:=List.mem_map.mp hm
     cases ea
     rw [e1] at e3
     exact ⟨_,ha,e3⟩
end
end L2
namespace L3
open PySem L2
theorem oX {X:Cx}(hc:X.calm=true:=by rfl):SC X (.builtin "sorted") tF:=⟨jM hc⟩
end L3
set_option Elab.async false
set_option linter.all false
set_option maxRecDepth 100000
/-! ### a comprehension within one; a dict comprehension with plain keys; a tuple of anything == a tuple of texts -/
namespace L2
open PySem PySem.Spec PyProof.Rows SeqAt
theorem av.inner {sc sc1:Scope}{env:Env}{cl:List (Str×Addr)}{C:Addr}(k:sc.kind=.function)(c:∀y∈sc.names,y.2≠.cell)(n:∀x∈sc.names,x.2=.local->sc.names.lookup x.1=some .local)(f:∀x∈sc.names,x.2=.free->sc1.names.lookup x.1=some .free):av sc (compEnvC sc1 cl C env).scope:=
 ⟨k,c,n,fun x hx e=>by
   have h:=fj (sc:=sc1) (env:=env) (cl:=cl) (C:=C) x.1
   rw [f x hx e,EZ] at h
   have h:(compEnvC sc1 cl C env).scope.names.lookup x.1=_:=h
   rw [h]
   by_cases z:(EA == EA && env.scope.kind == .function && env.kindOf x.1 == some .cell)=true
   · rw [if_pos z]
     exact .inl rfl
   · rw [if_neg z]
     exact .inr rfl⟩
/-- items of two tuples: plain ones,or a tuple and a text -/
inductive EM (K:D9) (H:Hp):V->V->Bool->Prop where
 | flat {x y:V}:bV x=true->bV y=true->EM K H x y (ft x y)
 | text {a:Addr} {zs:List V} {t:Str}:ar K H a zs->EM K H (.ref a) (.str t) false
def qy (K:D9):R2:=fun x y H Q=>∃a c xs ys,∃e:Nat->Bool,x=.ref a/\y=.ref c/\ar K H a xs/\ar K H c ys/\(∀j x y,xs[j]? = some x->ys[j]? = some y->EM K H x y (e j))/\Q (.bl ((Ew (min xs.length ys.length)).all e && xs.length == ys.length)) H
section
variable {X:Cx}
theorem yH (hu:X.A.units + (0 + 1) < cLine):dS X (compareOp .Eq) (qy X.K):=by
 intro pins s σ H x y v u Q I rx ry h
 obtain ⟨a,c,xs,ys,e,rfl,rfl,ha,hb,he,k⟩:=h
 cases rx; cases ry
 obtain ⟨us,r1,p1,_⟩:=I.tuple ha
 obtain ⟨vs,r2,p2,_⟩:=I.tuple hb
 have l1:=r1.length
 have l2:=r2.length
 refine eq_tupleAt (show s.heap.IsTuple a us.toArray from p1) (show s.heap.IsTuple c vs.toArray from p2) (by omega) (cg (K:=X.K) (e:=e) r1 r2 (fun j x y h1 h2=>?_) hu) ?_
 · intro A u v ru rv hu
   have q:=he j x y h1 h2
   generalize e j=b at q ⊢
   cases q with
   | flat f1 f2=>exact jO ru rv f1 f2
   | text hz=>
     obtain ⟨ws,_,p3,_⟩:=I.tuple hz
     cases ru
     obtain ⟨tk,rfl⟩:=rv
     exact EqAt.tuple_str _ _ p3 (by omega)
 · rw [show us.toArray.size=xs.length by simp [l1],show vs.toArray.size=ys.length by simp [l2]]
   exact ⟨.bl _,H,I,rfl,k⟩
end
end L2
namespace L3
open PySem PySem.Spec PyProof.Rows L2
theorem wO {X:Cx}{KK:D9}(hu:X.A.units + (0 + 1) < cLine)(hK:X.K=KK:=by first | exact cxC_K | rfl):SO X (compareOp .Eq) (qy KK):=by
 subst hK
 exact ⟨yH hu⟩
theorem DI {X:Cx}{tg iter kx vx:Expr}{ifs:List Expr}{sc:Scope}{pos:Pos}{wi:TI}{g:TG}{tifs:TT}{tk tv:TE}(src:List (Option Nat))(N':List Str)(hu:X.A.units + 1 < cLine)(S:av sc X.env.scope)(hcap:bP sc src N' X.N=true)(hi:SI X tg iter wi)
   (hb:∀s H C fp xe,SG (dr X N' sc s H C fp xe) tg g/\z9 (dr X N' sc s H C fp xe) ifs tifs/\SE (dr X N' sc s H C fp xe) kx tk/\SE (dr X N' sc s H C fp xe) vx tv) (hc:X.calm=true:=by rfl)
   (hs:∀x,foldedSetIterable iter X.env x=pure x:=by intro _; rfl):SE X (.DictComp kx vx [⟨tg,iter,ifs,0⟩] sc pos) (dE src (.dK []) wi g tifs (yp tk tv)):=
 ⟨ou uC hc S hcap hi.h (fun s H C fp xe D=>⟨(hb s H C fp xe).1.h,(hb s H C fp xe).2.1.h,y7 (X:=dr X N' sc s H C fp xe) hu (hb s H C fp xe).2.2.1.h (hb s H C fp xe).2.2.2.h D⟩) xr hs rfl⟩
theorem aug {X:Cx}{e:Expr}{te:TE}(i:Nat){x:Str}{pos pos':Pos}(hN:X.N.Nodup)(he:SE X e te)(hi:X.N[i]? = some x:=by rfl)(hx:Loc X.env.scope x:=by first | exact Or.inl rfl | exact Or.inr rfl)(hf:X.fn x=true\/X.env.scope.names.lookup x=some .local:=by first | exact .inl rfl | exact .inr rfl) :
   SS X (.AugAssign (.Name x pos') .Add e pos) (BA i te (Dj fun i j=>i + j)):=⟨y9 hN hi hx he.h yb hf⟩
theorem qY {X:Cx}{N' N2:List Str}{sc sc2:Scope}{s s2:Shared}{H H2:Hp}{C C2:Addr}{fp fp2:List Addr}{xe xe2:Value->Shared->Prop}:(dr (dr X N' sc s H C fp xe) N2 sc2 s2 H2 C2 fp2 xe2).K=X.K:=rfl
end L3
open L3 renaming v->Ib,k->Ic,n->Ie,int->Ig,cons->Ih,ix->Ii,one->Ij,aK->Ik,own->Il,ret->Im,set->Io,str->Ip,gn->Iq,cmp->Iu,ifs->Iv,nil->Iw,aD->Iy,aP->Iz,tup->IA,op->IB,b5->IC,lst->ID,a8->IF,c9->IG,bo->IH,aR->II,tw->IJ,bl->IK,bM->IL,ba->IP,iL->IQ,lc->IS,cq->IT,cv->IU,iP->IV,nt->IW,i9->IX,c8->IY,c7->IZ,bI->I0,aU->I9,dj->Ja,bU->Jb,mi->Jc,ex->Jd,qt->Je,dz->Jf,iR->Jg,dY->Jh,eT->Ji,fW->Jj,asg->Jk,iu->Jl,append->Jm,mU->Jn,jz->Jo,fh->Jp,zR->Jq,dH->Jr,lL->Js,sv->Jt,tQ->Ju,kQ->Jv,sC->Jw,neg->JA,update->JJ
set_option Elab.async false
set_option linter.all false
set_option maxRecDepth 100000
set_option exponentiation.threshold 4000
set_option maxHeartbeats 1000000
namespace TW
open PySem L2
section
variable {P:Program}{w:World}{K:D9}{mg:Str->Option Value}{base:Heap}
theorem fg {x qual:Str}{st:Stmt}{f:Addr}{fd:FuncData}{p0:Str}(F:bQ K x qual st f fd)(h:∀(kV doc pm:Value) (an:Option Addr) (cdv ct u0:Value),bindArgs (Fd x qual (bR st) (bJ st) (af st) .none kV doc pm an cdv ct) ⟨[u0],[]⟩ = pure (([p0]:List Str).zip [u0])):Binds K fd [p0] []:=F.binds fun kV doc pm an cdv ct us hl=>match us,hl with | [u0],_=>h kV doc pm an cdv ct u0
theorem f6 {x qual:Str}{st:Stmt}{f:Addr}{fd:FuncData}{p0 p1:Str}(F:bQ K x qual st f fd)(h:∀(kV doc pm:Value) (an:Option Addr) (cdv ct u0 u1:Value),bindArgs (Fd x qual (bR st) (bJ st) (af st) .none kV doc pm an cdv ct) ⟨[u0,u1],[]⟩ = pure (([p0,p1]:List Str).zip [u0,u1])):Binds K fd [p0,p1] []:=F.binds fun kV doc pm an cdv ct us hl=>match us,hl with | [u0,u1],_=>h kV doc pm an cdv ct u0 u1
theorem iW {x qual:Str}{st:Stmt}{f:Addr}{fd:FuncData}{p0 p1 p2:Str}(F:bQ K x qual st f fd)(h:∀(kV doc pm:Value) (an:Option Addr) (cdv ct u0 u1 u2:Value),bindArgs (Fd x qual (bR st) (bJ st) (af st) .none kV doc pm an cdv ct) ⟨[u0,u1,u2],[]⟩ = pure (([p0,p1,p2]:List Str).zip [u0,u1,u2])):Binds K fd [p0,p1,p2] []:=F.binds fun kV doc pm an cdv ct us hl=>match us,hl with | [u0,u1,u2],_=>h kV doc pm an cdv ct u0 u1 u2
theorem oW {x qual:Str}{st:Stmt}{f:Addr}{fd:FuncData}{p0 p1 p2 p3:Str}(F:bQ K x qual st f fd)(h:∀(kV doc pm:Value) (an:Option Addr) (cdv ct u0 u1 u2 u3:Value),bindArgs (Fd x qual (bR st) (bJ st) (af st) .none kV doc pm an cdv ct) ⟨[u0,u1,u2,u3],[]⟩ = pure (([p0,p1,p2,p3]:List Str).zip [u0,u1,u2,u3])):Binds K fd [p0,p1,p2,p3] []:=F.binds fun kV doc pm an cdv ct us hl=>match us,hl with | [u0,u1,u2,u3],_=>h kV doc pm an cdv ct u0 u1 u2 u3
def top (i:Nat):Stmt:=PySem.Challenge.pw_twinwalk_k66_programs_fitted.main.body.getD i (.Pass ⟨0,0,0,0⟩)
abbrev sNext:Stmt:=top 18
abbrev sPots:Stmt:=top 19
theorem TK.lst {H:Hp}{a:Addr}{xs:List V}{o:HO}(h:H a=some (.lst xs)):TK H (upd H a o):=fun b ys e=>by rw [aB (cC e h (fun z=>nomatch z))]; exact e
theorem Paired.get {α β:Type}{F:α->β->Prop}:∀{l₁:List α} {l₂:List β} {i:Nat} {x:α},Paired F l₁ l₂->l₁[i]? = some x->∃y,l₂[i]? = some y/\F x y
 | _,_,_,_,.nil,e=>by simp at e
 | _,_,0,_,.cons r _,e=>by simp at e; subst e; exact ⟨_,rfl,r⟩
 | _,_,i + 1,x,.cons _ t,e=>by
   obtain ⟨u,h1,h2⟩:=Paired.get (i:=i) (x:=x) t (by simpa using e)
   exact ⟨u,by simpa using h1,h2⟩
theorem bL {σ:L2.St}{H:Hp}{A B:Hp->Prop}(h:A H):zB σ H (fun b H3=>if b=true then A H3 else B H3):=bG (A:=A H) (B:=B H) h
theorem aj {i:Nat}{v:V}{σ:L2.St}{H:Hp}{Q:L2.St->Hp->Prop}(h:Q (σ.set i (some v)) H):fS i v σ H Q:=h
theorem aa {A B C:Hp}(a:ah A B)(b:ah B C):ah A C:=fun p o h=>b p o (a p o h)
theorem same_refl (A:Hp):ah A A:=fun _ _ h=>h
theorem ai {H H':Hp}{a:Addr}(s:ah H H')(h:H' a=none):H a=none:=by
 match e:H a with
 | none=>rfl
 | some o=>rw [s _ _ e] at h; cases h
/-- a list that was laid since: it may be replaced -/
theorem aE {H H':Hp}{a:Addr}{o:HO}(s:ah H H')(h:H a=none):ah H (upd H' a o):=fun b u e=>by rw [aB (au e h)]; exact s b u e
theorem ck {H H':Hp}{a:Addr}{o:HO}(s:ah H H')(h:H' a=none):ah H (upd H' a o):=aE s (ai s h)
theorem eE {α:Type}(f:α->V)(xs:List α){r:Int}(h0:0<=r)(h1:r < (xs.length:Int)):∃x,xs[r.toNat]? = some x/\x∈xs/\iV (xs.map f) r=some (f x):=by
 have hr:r.toNat < xs.length:=by omega
 have e:r=((r.toNat:Nat):Int):=by omega
 have q:iV (xs.map f) ((r.toNat:Nat):Int)=some (f xs[r.toNat]):=aM (by rw [Em,Eg hr]; rfl)
 rw [← e] at q
 exact ⟨xs[r.toNat],Eg hr,FV hr,q⟩
theorem Af {xs:List V}{r:Int}(h0:0<=r)(h1:r < (xs.length:Int)):∃x,xs[r.toNat]? = some x/\iV xs r=some x:=by
 have hr:r.toNat < xs.length:=by omega
 have e:r=((r.toNat:Nat):Int):=by omega
 have q:iV xs ((r.toNat:Nat):Int)=some xs[r.toNat]:=aM (Eg hr)
 rw [← e] at q
 exact ⟨xs[r.toNat],Eg hr,q⟩
theorem ao {u1 u2:TS}{D:L2.Ends}{σ:L2.St}{H:Hp}(h:∀R:L2.St->Hp->Prop,(∀σ H,u2 D σ H->R σ H)->u1 { D with nx:=R } σ H):m8 u1 u2 D σ H:=h _ fun _ _ z=>z
theorem qV {u1 u2 u3:TS}{D:L2.Ends}{σ:L2.St}{H:Hp}(h:∀R:L2.St->Hp->Prop,(∀σ H,u3 D σ H->R σ H)->m8 u1 (m8 u2 fun _=>R) D σ H):m8 u1 (m8 u2 u3) D σ H:=h (u3 D) fun _ _ z=>z
theorem cu {X:Cx}{ss:List Stmt}{G:TS->Prop}(h:∃t,L3.SL X ss t/\G t):∃t,mv X ss t/\G t:=let ⟨t,a,b⟩:=h; ⟨t,a.h,b⟩
theorem aq {F:L2.St->Hp->Prop}{σ:L2.St}{H:Hp}(σ':L2.St)(e:σ=σ')(h:F σ' H):F σ H:=by subst e; exact h
theorem Ay {F:L2.St->Hp->Prop}{σ:L2.St}{H:Hp}(H':Hp)(e:H=H')(h:F σ H'):F σ H:=by subst e; exact h
theorem ik {k n:Int}(h:0 < n):0<=k % n:=Int.emod_nonneg _ (by omega)
theorem ij {k n:Int}(h:0 < n):k % n < n:=Int.emod_lt_of_pos _ h
theorem ya {a b:Int}(c:decide (V.int a=V.int b)=true):a=b:=by have:=of_decide_eq_true c; injection this
theorem nC {P:V->Prop}{xs:List V}{r:Int}(h0:0<=r)(h1:r < (xs.length:Int))(h:∀x∈xs,P x):∃x,iV xs r=some x/\P x:=let ⟨x,h2,h3⟩:=Af h0 h1; ⟨x,h3,h x (Ef h2)⟩
/-! ### nodes with picks -/
inductive Np where
 | put (x:Str) (s:E) (n:Int) | say (s:E) (n:Int) | test (c:E) (n o:Int) | pick (x:Str) (n:Int) | fin
def aG (H:Hp):V->Np->Prop
 | v,.put x s n=>∃u,Tp H v [.str "put",.str x,u,.int n]/\ej H u s
 | v,.say s n=>∃u,Tp H v [.str "say",u,.int n]/\ej H u s
 | v,.test c n o=>∃u,Tp H v [.str "test",u,.int n,.int o]/\ej H u c
 | v,.pick x n=>Tp H v [.str "pick",.str x,.int n]
 | v,.fin=>Tp H v [.str "end"]
theorem aG.keep {H H':Hp}(k:TK H H'):∀{e:Np} {v:V},aG H v e->aG H' v e
 | .put _ _ _,_,⟨u,h,a⟩=>⟨u,h.keep k,a.keep k⟩
 | .say _ _,_,⟨u,h,a⟩=>⟨u,h.keep k,a.keep k⟩
 | .test _ _ _,_,⟨u,h,a⟩=>⟨u,h.keep k,a.keep k⟩
 | .pick _ _,_,h=>Tp.keep k h
 | .fin,_,h=>Tp.keep k h
/-! ### the reel -/
def bH (H:Hp)(r:Addr):Prop:=∃a b:Int,H r=some (.lst [.int a,.int b])/\True
structure Rl (r:Addr)(H H':Hp):Prop where
 rl:bH H' r
 k:∀b o,b≠r->H b=some o->H' b=some o
section
variable {r p:Addr}{H H1 H2:Hp}{o:HO}
theorem bH.same (h:bH H r)(s:ah H H1):bH H1 r:=let ⟨a,b,h1,h2⟩:=h; ⟨a,b,s _ _ h1,h2⟩
theorem bH.ne (h:bH H r)(hp:H p=none):p≠r:=fun e=>by
 obtain ⟨a,b,h1,_⟩:=h
 rw [e,h1] at hp
 cases hp
theorem Rl.refl (h:bH H r):Rl r H H:=⟨h,fun _ _ _ z=>z⟩
theorem Rl.trans (a:Rl r H H1)(b:Rl r H1 H2):Rl r H H2:=⟨b.rl,fun c o n z=>b.k c o n (a.k c o n z)⟩
theorem Rl.of (h:bH H r)(s:ah H H1):Rl r H H1:=⟨h.same s,fun b o _ z=>s b o z⟩
theorem Rl.new (h:bH H r)(hp:H p=none):Rl r H (upd H p o):=Rl.of h (ag hp o)
theorem Rl.tk (h:bH H r)(l:Rl r H H1):TK H H1:=fun b xs z=>l.k b _ (fun e=>by
 obtain ⟨a,c,h1,_⟩:=h
 rw [e,h1] at z
 cases z) z
/-- a list that was laid since may be replaced -/
theorem Rl.put (l:Rl r H H1)(n:p≠r)(hp:H p=none):Rl r H (upd H1 p o):=⟨let ⟨a,b,h1,h2⟩:=l.rl; ⟨a,b,by rw [aB n.symm]; exact h1,h2⟩,fun b ob nb z=>by rw [aB (au z hp)]; exact l.k b ob nb z⟩
theorem Rl.no (l:Rl r H H1)(n:p≠r)(h:H1 p=none):H p=none:=by
 match e:H p with
 | none=>rfl
 | some o=>rw [l.k _ _ n e] at h; cases h
end
theorem iteF' {c:Bool}{A B:Prop}(h:c=false)(b:B):if c=true then A else B:=by rw [h]; exact b
theorem fZ {a:V}{r:List V}:iV (a :: r) 0=some a:=aM (xs:=a :: r) (j:=0) rfl
/-! ### _law_next -/
def aZ:Sp:=fun vs H Q _=>∃(r:Addr) (m:Int),vs=[.ref r,.int m]/\bH H r/\0 < m/\m < 2 ^ 110/\∀(k:Int) (H':Hp),0<=k->k < m->Rl r H H'->Q (.int k) H'
theorem ky:az ["pot","many","cell","stir"] ["pot","many"] (af sNext):=⟨rfl,rfl,rfl,by decide +kernel,rfl,by decide +kernel,by decide +kernel⟩
theorem vB {f:Addr}{fd:FuncData}(F:bQ K "_law_next" "_law_next" sNext f fd):aI P w K mg base CX0 1 f fd ["pot","many"] aZ:=by
 refine F.ok ky (fun vs H Q E h=>?_) (fun cdv A outer s H vs Q E hr h=>?_)
 · obtain ⟨r,m,rfl,_⟩:=h
   rfl
 · obtain ⟨r,m,rfl,⟨a,b,hr0,_⟩,m0,m1,q⟩:=h
   refine cu ⟨_,(Ih (Jk (IB Jf (Ii IG (Ib 0) Ig) Ig) (L3.Ap (Ib 0) Ig))
     (Ih (Io 2 ky.nd (Ii IG (Ib 0) Ig))
     (Ih (Iv (Iu L3.Az (Ib 2) (IB L3.wQ Ig Ig)) (Ih (Jk (IB L3.oq (Ib 2) (Ib 1)) (L3.Ap (Ib 0) Ig))
     (Ij (Im (IB Ji (Ib 2) (Ib 1))))) Iw)
     (Ih (Io 3 ky.nd (IB Ji (IB Jf (IB Jf (IB Jl (Ib 2) Ig) (IB Jl (Ii IG (Ib 0) Ig) Ig)) Ig) Ig))
     (Ih (Io 3 ky.nd (IB Ji (IB Jl (Ib 3) (Ib 3)) Ig))
     (Ij (Im (IB Ji (IB L3.oq (IB Ji (IB Jf (IB Jl (Ib 3) Ig) (IB Jl (Ii IG (Ib 0) Ig) Ig)) Ig) Ig) (Ib 1))))))))),?_⟩
   have fin:∀(k a' b':Int) (H1:Hp),(∀c o,c≠r->H c=some o->H1 c=some o)->H1 r=some (.lst [.int a',.int b'])->0<=k->k < m->Q (.int k) H1:=fun k a' b' H1 h1 h2 k0 k1=>q k _ k0 k1 ⟨⟨a',b',h2,EG⟩,h1⟩
   refine ao fun Rk kR=>?_
   refine ⟨_,rfl,r,_,_,_,rfl,rfl,aA.of hr0,rfl,_,_,rfl,rfl,_,rfl,r,_,1,1,rfl,rfl,hr0,rfl,?_⟩
   obtain ⟨b1,eb⟩ : ∃b1,b1=b + 1:=⟨_,rfl⟩
   refine kR _ _ ?_
   refine Ay (upd H r (.lst [.int a,.int b1])) (by rw [eb]; rfl) ?_
   have hr1:(upd H r (.lst [.int a,.int b1])) r=some (.lst [.int a,.int b1]):=ae
   have k1:∀c o,c≠r->H c=some o->(upd H r (.lst [.int a,.int b1])) c=some o:=fun c o n z=>by rw [aB n]; exact z
   generalize upd H r (.lst [.int a,.int b1])=H1 at hr1 k1 ⊢
   refine ao fun Rk kR=>?_
   refine ⟨_,rfl,r,_,_,_,rfl,rfl,aA.of hr1,rfl,?_⟩
   refine aj ?_
   refine kR _ _ ?_
   refine aq [some (.ref r),some (.int m),some (.int a),none] rfl ?_
   refine ao fun Rk kR=>?_
   refine ⟨_,rfl,_,_,rfl,rfl,⟨by decide,by decide,by decide⟩,_,_,rfl,rfl,_,rfl,bq (fun _=>?_) (fun _=>?_)⟩
   · refine ⟨_,rfl,_,rfl,_,_,rfl,rfl,⟨m0,Int.lt_trans m1 (by decide +kernel)⟩,_,rfl,r,_,0,0,rfl,rfl,hr1,rfl,?_⟩
     refine ⟨_,rfl,_,rfl,_,_,rfl,rfl,m0,?_⟩
     exact fin _ _ _ _ (fun c o n z=>by rw [aB n]; exact k1 c o n z) ae (ik m0) (ij m0)
   refine kR _ _ ?_
   refine ao fun Rk kR=>?_
   refine ⟨_,rfl,_,_,rfl,rfl,.inr ⟨by decide,by decide⟩,_,rfl,r,_,_,_,rfl,rfl,aA.of hr1,rfl,_,_,rfl,rfl,.inr ⟨by decide,by decide⟩,_,_,rfl,rfl,_,_,rfl,rfl,_,_,rfl,rfl,(by show (0:Int) < 2147483647; decide),?_⟩
   obtain ⟨s0,es,s1,s2⟩ : ∃s0,s0=(a * 69621 + b1 * 7919 + 13) % 2147483647/\0<=s0/\s0 < 2147483647:=⟨_,rfl,ik (by decide),ij (by decide)⟩
   refine aj ?_
   refine kR _ _ ?_
   refine aq [some (.ref r),some (.int m),some (.int a),some (.int s0)] (by rw [es]; rfl) ?_
   refine ao fun Rk kR=>?_
   refine ⟨_,rfl,_,rfl,_,_,rfl,rfl,.inl ⟨by omega,by omega⟩,_,_,rfl,rfl,(by show (0:Int) < 2147483629; decide),?_⟩
   refine aj ?_
   refine kR _ _ ?_
   refine ⟨_,rfl,_,_,rfl,rfl,.inr ⟨by decide,by decide⟩,_,rfl,r,_,_,_,rfl,rfl,aA.of hr1,rfl,_,_,rfl,rfl,.inr ⟨by decide,by decide⟩,_,_,rfl,rfl,_,_,rfl,rfl,(by show (0:Int) < 2147483587; decide),_,_,rfl,rfl,⟨by decide,by decide +kernel⟩,_,rfl,_,_,rfl,rfl,m0,?_⟩
   exact fin _ _ _ _ k1 hr1 (ik m0) (ij m0)
theorem rN (s:Src K mg "_law_next" sNext)  : aC P w K mg base "_law_next" ["pot","many"] 1 aZ:=
 let ⟨f,fd,F,m⟩:=s
 ⟨f,fd,vB F ,F.kp,f6 F fun _ _ _ _ _ _ _ _=>rfl,m⟩
/-! ### _law_pots -/
def kG (K:D9):Sp:=fun vs H Q _=>∃(a:Addr) (sc:List Int),vs=[.ref a]/\aA K H a (sc.map V.int)/\sc.length<=63/\∀(L:Addr) (ps:List Addr) (H':Hp),ah H H'->H L=none->H' L=some (.lst (ps.map V.ref))->1<=ps.length->ps.length<=63->ps.Nodup->(∀p∈ps,H p=none/\p≠L/\bH H' p)->Q (.ref L) H'
theorem mR {α:Type}{l:List α}{x:α}(h:l.Nodup)(n:x ∉ l):(l++[x]).Nodup:=by
 rw [Gb]
 exact ⟨h,by simp,fun a ha b hb e=>by rw [List.mem_singleton.mp hb] at e; exact n (e ▸ ha)⟩
theorem zy:az ["script"] ["script"] (af sPots):=⟨rfl,rfl,rfl,by decide +kernel,rfl,by decide +kernel,by decide +kernel⟩
theorem pN:(af sPots).names.lookup (Eb "len")=some .globalImplicit:=by decide +kernel
theorem aT {α:Type}{f:α->V}{l:List α}{i:Nat}{v:V}(h:(l.map f)[i]? = some v):∃x,l[i]? = some x/\v=f x:=by
 rw [Em] at h
 obtain ⟨x,h1,h2⟩:=Option.map_eq_some_iff.mp h
 exact ⟨x,h1,h2.symm⟩
theorem vD {f:Addr}{fd:FuncData}(F:bQ K "_law_pots" "_law_pots" sPots f fd)(m_len:mg "len"=none):aI P w K mg base CX0 1 f fd ["script"] (kG K):=by
 refine F.ok zy (fun vs H Q E h=>?_) (fun cdv A outer s H vs Q E hr h=>?_)
 · obtain ⟨a,sc,rfl,_⟩:=h
   rfl
 · obtain ⟨a,sc,rfl,hs,h63,q⟩:=h
   refine cu ⟨_,(Ih (Iv (Iu Iz (Iy IP pN m_len Es (Ic (Ib 0) Ie)) Ig) (Ij (Im (ID (Ic (ID (Ic Ig (Ic Ig Ie))) Ie)))) Iw)
     (Ij (Im (IS [none] ["cell"] (show av _ (af sPots) from ⟨rfl,by decide +kernel,by decide +kernel,by decide +kernel⟩) (by rfl) (IQ (L3.v9 (Ib 0) Ig)) (fun _ _ _ _ _=>⟨(Iq 0 (show (["cell"]:List Str).Nodup from by decide +kernel)),IX,(ID (Ic (Ib 0) (Ic Ig Ie)))⟩))))),?_⟩
   refine ao fun Rk kR=>?_
   refine ⟨_,rfl,a,_,rfl,.inl hs,rfl,_,rfl,bq (fun _=>?_) (fun cc=>?_)⟩
   · refine ⟨Ki,fun p hp=>?_⟩
     have sp:ah H (upd H p (.lst [.int 0,.int 0])):=ag hp _
     have gp:(upd H p (.lst [.int 0,.int 0])) p=some (.lst [.int 0,.int 0]):=ae
     generalize upd H p (.lst [.int 0,.int 0])=H1 at sp gp ⊢
     refine ⟨Kh,fun L hL=>?_⟩
     refine q L [p] _ (ck sp hL) (ai sp hL) ae (by show 1<=1; decide) (by show 1<=63; decide) (by simp) fun p' hp'=>?_
     rw [List.mem_singleton.mp hp']
     exact ⟨hp,au gp hL,0,0,(ag hL _) _ _ gp,EG⟩
   have pos:0 < sc.length:=by
     refine Nat.pos_of_ne_zero fun z=>cc ?_
     rw [Ea,z]
     rfl
   refine kR _ _ ?_
   refine ⟨_,rfl,_,rfl,a,_,rfl,hs,fun l hl=>?_⟩
   have ec:cJ (sc.map V.int) none (some 63)=sc.map V.int:=by
     unfold cJ
     have e0:HT.bf (sc.map V.int).length 0 none=0:=rfl
     have e1:HT.bf (sc.map V.int).length (sc.map V.int).length (some ((63:Nat):Int))=min 63 (sc.map V.int).length:=HT.dP _ _ _
     rw [e0,show (63:Int)=((63:Nat):Int) from rfl,e1,FH,FT,Ea,Nat.min_eq_right h63]
     exact EI (by rw [Ea]; exact Ee _)
   rw [ec]
   have sl:ah H (upd H l (.lst (sc.map V.int))):=ag hl _
   have gl:(upd H l (.lst (sc.map V.int))) l=some (.lst (sc.map V.int)):=ae
   generalize upd H l (.lst (sc.map V.int))=H1 at sl gl ⊢
   refine ⟨l,rfl,⟨_,aA.of gl⟩,fun D hD=>?_⟩
   have nD:=ai sl hD
   refine aV (xs:=sc.map V.int) (fun (i:Nat) Hx=>ah H1 Hx/\∃ps:List Addr,Hx D=some (.lst (ps.map V.ref))/\ps.length=i/\ps.Nodup/\∀p∈ps,H1 p=none/\p≠D/\bH Hx p) ⟨ag hD _,[],ae,rfl,.nil,fun _ z=>nomatch z⟩ (fun i Hx _ z=>aA.of (z.1 _ _ gl)) (fun i x0 Hx hx z=>?_) (fun Hx z=>?_)
   · obtain ⟨sx,ps,gD,pl,nd,al⟩:=z
     have hil:=(List.getElem?_eq_some_iff.mp hx).1
     obtain ⟨c,_,rfl⟩:=aT hx
     refine aj ?_
     refine bL (A:=fun H5=>cj _ D _ H5 _) ?_
     refine ⟨_,rfl,Ki,fun p hp=>?_⟩
     have sp:=ag hp (.lst [.int c,.int 0])
     have gp:(upd Hx p (.lst [.int c,.int 0])) p=some (.lst [.int c,.int 0]):=ae
     generalize upd Hx p (.lst [.int c,.int 0])=Hy at sp gp ⊢
     have pD:p≠D:=fun z=>by rw [z,gD] at hp; cases hp
     have gDy:=sp _ _ gD
     refine ⟨_,gDy,ax (by rw [Ea] at hil ⊢; omega),aF (Pv:=fun (i:Nat) Hx=>ah H1 Hx/\∃ps:List Addr,Hx D=some (.lst (ps.map V.ref))/\ps.length=i/\ps.Nodup/\∀p∈ps,H1 p=none/\p≠D/\bH Hx p) (by repeat' constructor) hil ⟨aE (aa sx sp) hD,ps++[p],by rw [ae,En]; rfl,by rw [Eh,pl]; rfl,mR nd (fun z=>?_),fun p' hp'=>?_⟩⟩
     · obtain ⟨_,_,a1,b1,h1,_⟩:=al p z
       rw [h1] at hp
       cases hp
     · rcases List.mem_append.mp hp' with z | z
       · obtain ⟨u1,u2,a1,b1,h1,_⟩:=al p' z
         exact ⟨u1,u2,a1,b1,by rw [aB u2]; exact sp _ _ h1,EG⟩
       · rw [List.mem_singleton.mp z]
         exact ⟨ai sx hp,pD,c,0,by rw [aB pD]; exact gp,EG⟩
   obtain ⟨sx,ps,gD,pl,nd,al⟩:=z
   rw [Ea] at pl
   exact q D ps Hx (aa sl sx) nD gD (by omega) (by omega) nd fun p hp=>⟨ai sl (al p hp).1,(al p hp).2⟩
theorem rP (s:Src K mg "_law_pots" sPots)(m_len:mg "len"=none):aC P w K mg base "_law_pots" ["script"] 1 (kG K):=
 let ⟨f,fd,F,m⟩:=s
 ⟨f,fd,vD F m_len,F.kp,fg F fun _ _ _ _ _ _ _=>rfl,m⟩
end
end TW
set_option Elab.async false
set_option linter.all false
set_option maxRecDepth 100000
set_option exponentiation.threshold 4000
set_option maxHeartbeats 1000000
namespace TW
open PySem L2
section
variable {P:Program}{w:World}{K:D9}{mg:Str->Option Value}{base:Heap}
abbrev sSomeB:Stmt:=top 20
theorem sub_len {α:Type}[DecidableEq α]:∀{xs ys:List α},xs.Nodup->(∀x∈xs,x∈ys)->xs.length<=ys.length
 | [],_,_,_=>EC _
 | x :: r,ys,nd,h=>by
   rw [Fx] at nd
   have hx:x∈ys:=h x (List.mem_cons.mpr (.inl rfl))
   have ih:=sub_len (xs:=r) (ys:=ys.erase x) nd.2 fun y hy=>(List.mem_erase_of_ne (a:=y) (b:=x) (fun e:y=x=>nd.1 (e ▸ hy))).mpr (h y (List.mem_cons.mpr (.inr hy)))
   have hl:=List.length_erase_of_mem hx
   have hpos:0 < ys.length:=HL hx
   rw [EO]
   omega
theorem qX (xs:List V){k:Nat}(h:k<=xs.length):cJ xs none (some (k:Int))=xs.take k:=by
 unfold cJ
 have e0:HT.bf xs.length 0 none=0:=rfl
 have e1:HT.bf xs.length xs.length (some (k:Int))=k:=by rw [HT.dP]; omega
 rw [e0,e1,FH,FT]
theorem Paired.snoc {α β:Type}{R:α->β->Prop}:∀{a:List α} {b:List β} {x:α} {y:β},Paired R a b->R x y->Paired R (a++[x]) (b++[y])
 | _,_,_,_,.nil,h=>.cons h .nil
 | _,_,_,_,.cons r t,h=>.cons r (Paired.snoc t h)
/-! ### _law_some_boxes -/
structure DC (ns:List Str):Prop where
 nd:ns.Nodup
 l4:ns.length=4
 l8:∀x∈ns,x.length<=8
def bj:List (Str×Int)->Int
 | []=>1
 | b :: l=>b.2 * bj l
theorem de:∀(l:List (Str×Int)) (b:Str×Int),bj (l++[b])=bj l * b.2
 | [],b=>by show b.2 * 1=1 * b.2; rw [Int.mul_one,GJ]
 | a :: l,b=>by show a.2 * bj (l++[b])=a.2 * bj l * b.2; rw [de l b,HN]
structure zX (most:Int)(bs:List (Str×Int)):Prop where
 nd:(bs.map (·.1)).Nodup
 l4:bs.length<=4
 l8:∀b∈bs,b.1.length<=8
 sz:∀b∈bs,1<=b.2/\b.2<=16
 pr:bj bs<=most
theorem dA:∀{bs:List (Str×Int)},(∀b∈bs,1<=b.2)->1<=bj bs
 | [],_=>Int.le_refl 1
 | b :: l,h=>by
   have h1:=h b Fi
   have h2:=dA (bs:=l) fun x hx=>h x (Fn _ hx)
   have:=HF h1 h2 (by decide) (by omega)
   show 1<=b.2 * bj l
   omega
def gQ:Sp:=fun vs H Q _=>∃(r:Addr) (most wide:Int),vs=[.ref r,.int most,.int wide]/\bH H r/\1<=most/\most<=65536/\1<=wide/\wide<=16/\∀(B:Addr) (vb:List V) (bs:List (Str×Int)) (H':Hp),Rl r H H'->B≠r->H B=none->H' B=some (.lst vb)->Paired (cw H') vb bs->zX most bs->Q (.ref B) H'
theorem cD:az ["pot","most","wide","names","found","left","name","size"] ["pot","most","wide"] (af sSomeB):=⟨rfl,rfl,rfl,by decide +kernel,rfl,by decide +kernel,by decide +kernel⟩
theorem bX:(af sSomeB).names.lookup (Eb "_law_next")=some .globalImplicit:=by decide +kernel
theorem mJ:(af sSomeB).names.lookup (Eb "min")=some .globalImplicit:=by decide +kernel
theorem sJ {f:Addr}{fd:FuncData}(F:bQ K "_law_some_boxes" "_law_some_boxes" sSomeB f fd)(m_min:mg "min"=none)(NX:aC P w K mg base "_law_next" ["pot","many"] 1 aZ):aI P w K mg base CX0 2 f fd ["pot","most","wide"] gQ:=by
 refine F.ok cD (fun vs H Q E h=>?_) (fun cdv A outer s H vs Q E hr h=>?_)
 · obtain ⟨r,most,wide,rfl,_⟩:=h
   rfl
 · obtain ⟨r,most,wide,rfl,rl,mo1,mo9,w1,w9,q⟩:=h
   refine cu ⟨_,(Ih (Io 3 cD.nd (ID (Ic (ID (Ic Ip (Ic Ip (Ic Ip (Ic Ip Ie))))) (Ic (ID (Ic Ip (Ic Ip (Ic Ip (Ic Ip Ie))))) (Ic (ID (Ic Ip (Ic Ip (Ic Ip (Ic Ip Ie))))) Ie)))))
     (Ih (Io 3 cD.nd (Ii IG (IB Js (Ib 3) (ID (Ic (ID (Ic Ip (Ic Ip (Ic Ip (Ic Ip Ie))))) (Ic (ID (Ic Ip (Ic Ip (Ic Ip (Ic Ip Ie))))) Ie)))) (Il NX hr bX (Ic (Ib 0) (Ic Ig Ie)))))
     (Ih (Io 4 cD.nd (ID Ie))
     (Ih (Io 5 cD.nd (Ib 1))
     (Ih (IT (IQ (L3.v9 (Ib 3) (Il NX hr bX (Ic (Ib 0) (Ic Ig Ie))))) (Iq 6 cD.nd) (Ih (Io 7 cD.nd (IB Jf Ig (Il NX hr bX (Ic (Ib 0) (Ic (Iy L3.Ag mJ m_min (by decide +kernel) (Ic (Ib 5) (Ic (Ib 2) Ie))) Ie)))))
     (Ih (Io 5 cD.nd (IB L3.oq (Ib 5) (Ib 7)))
     (Ij (Jd (Jm (Ib 4) (Ic (IA (Ic (Ib 6) (Ic (Ib 7) Ie))) Ie)))))))
     (Ij (Im (Ib 4)))))))),?_⟩
   refine qV fun Rk kR=>?_
   refine ⟨Kk,fun m0 hm0=>?_⟩
   have sm0:ah H (upd H m0 (.lst [.str "a",.str "b",.str "c",.str "d"])):=ag hm0 _
   have gm0:(upd H m0 (.lst [.str "a",.str "b",.str "c",.str "d"])) m0=some (.lst [.str "a",.str "b",.str "c",.str "d"]):=ae
   generalize upd H m0 (.lst [.str "a",.str "b",.str "c",.str "d"])=Ha0 at sm0 gm0 ⊢
   refine ⟨Kk,fun m1 hm1=>?_⟩
   have sm1:ah Ha0 (upd Ha0 m1 (.lst [.str "x",.str "xx",.str "y",.str "abcdefgh"])):=ag hm1 _
   have gm1:(upd Ha0 m1 (.lst [.str "x",.str "xx",.str "y",.str "abcdefgh"])) m1=some (.lst [.str "x",.str "xx",.str "y",.str "abcdefgh"]):=ae
   generalize upd Ha0 m1 (.lst [.str "x",.str "xx",.str "y",.str "abcdefgh"])=Ha1 at sm1 gm1 ⊢
   refine ⟨Kk,fun m2 hm2=>?_⟩
   have sm2:ah Ha1 (upd Ha1 m2 (.lst [.str "q",.str "put",.str "end",.str "test"])):=ag hm2 _
   have gm2:(upd Ha1 m2 (.lst [.str "q",.str "put",.str "end",.str "test"])) m2=some (.lst [.str "q",.str "put",.str "end",.str "test"]):=ae
   generalize upd Ha1 m2 (.lst [.str "q",.str "put",.str "end",.str "test"])=Ha2 at sm2 gm2 ⊢
   refine ⟨Kj,fun lA hlA=>?_⟩
   have slA:ah Ha2 (upd Ha2 lA (.lst [.ref m0,.ref m1,.ref m2])):=ag hlA _
   have glA:(upd Ha2 lA (.lst [.ref m0,.ref m1,.ref m2])) lA=some (.lst [.ref m0,.ref m1,.ref m2]):=ae
   generalize upd Ha2 lA (.lst [.ref m0,.ref m1,.ref m2])=Ha3 at slA glA ⊢
   refine aj ?_
   refine ⟨_,rfl,?_⟩
   refine ⟨Kk,fun m3 hm3=>?_⟩
   have sm3:ah Ha3 (upd Ha3 m3 (.lst [.str "number",.str "box",.str "plus",.str "less"])):=ag hm3 _
   have gm3:(upd Ha3 m3 (.lst [.str "number",.str "box",.str "plus",.str "less"])) m3=some (.lst [.str "number",.str "box",.str "plus",.str "less"]):=ae
   generalize upd Ha3 m3 (.lst [.str "number",.str "box",.str "plus",.str "less"])=Ha4 at sm3 gm3 ⊢
   refine ⟨Kk,fun m4 hm4=>?_⟩
   have sm4:ah Ha4 (upd Ha4 m4 (.lst [.str "mine",.str "yours",.str "yes",.str "same"])):=ag hm4 _
   have gm4:(upd Ha4 m4 (.lst [.str "mine",.str "yours",.str "yes",.str "same"])) m4=some (.lst [.str "mine",.str "yours",.str "yes",.str "same"]):=ae
   generalize upd Ha4 m4 (.lst [.str "mine",.str "yours",.str "yes",.str "same"])=Ha5 at sm4 gm4 ⊢
   refine ⟨Ki,fun lB hlB=>?_⟩
   have slB:ah Ha5 (upd Ha5 lB (.lst [.ref m3,.ref m4])):=ag hlB _
   have glB:(upd Ha5 lB (.lst [.ref m3,.ref m4])) lB=some (.lst [.ref m3,.ref m4]):=ae
   generalize upd Ha5 lB (.lst [.ref m3,.ref m4])=Ha6 at slB glB ⊢
   refine ⟨lA,lB,_,_,rfl,rfl,(slB _ _ (sm4 _ _ (sm3 _ _ glA))),glB,Kl,fun lC hlC=>?_⟩
   have slC:ah Ha6 (upd Ha6 lC (.lst ([V.ref m0,V.ref m1,V.ref m2]++[V.ref m3,V.ref m4]))):=ag hlC _
   have glC:(upd Ha6 lC (.lst ([V.ref m0,V.ref m1,V.ref m2]++[V.ref m3,V.ref m4]))) lC=some (.lst ([V.ref m0,V.ref m1,V.ref m2]++[V.ref m3,V.ref m4])):=ae
   generalize upd Ha6 lC (.lst ([V.ref m0,V.ref m1,V.ref m2]++[V.ref m3,V.ref m4]))=Ha7 at slC glC ⊢
   have sA:ah H Ha7:=(aa (aa (aa (aa (aa (aa (aa sm0 sm1) sm2) slA) sm3) sm4) slB) slC)
   have rA:=rl.same sA
   refine ⟨_,rfl,r,5,rfl,rA,by decide,by decide,fun k H1 k0 k1 l1=>?_⟩
   obtain ⟨_,hat,nl,ns,rfl,gn,nr,nm⟩:=nC (P:=fun v=>∃(nl:Addr) (ns:List Str),v=.ref nl/\H1 nl=some (.lst (ns.map V.str))/\nl≠r/\DC ns) (xs:=[.ref m0,.ref m1,.ref m2,.ref m3,.ref m4]) (r:=k) k0 k1 (fun x hx=>by
     rcases List.mem_cons.mp hx with e | hx
     · exact ⟨m0,(["a","b","c","d"]:List Str),e,l1.k _ _ (rl.ne hm0) (slC _ _ (slB _ _ (sm4 _ _ (sm3 _ _ (slA _ _ (sm2 _ _ (sm1 _ _ gm0))))))),(rl.ne hm0),⟨by decide +kernel,rfl,by decide +kernel⟩⟩
     rcases List.mem_cons.mp hx with e | hx
     · exact ⟨m1,(["x","xx","y","abcdefgh"]:List Str),e,l1.k _ _ (rl.ne (ai sm0 hm1)) (slC _ _ (slB _ _ (sm4 _ _ (sm3 _ _ (slA _ _ (sm2 _ _ gm1)))))),(rl.ne (ai sm0 hm1)),⟨by decide +kernel,rfl,by decide +kernel⟩⟩
     rcases List.mem_cons.mp hx with e | hx
     · exact ⟨m2,(["q","put","end","test"]:List Str),e,l1.k _ _ (rl.ne (ai sm0 (ai sm1 hm2))) (slC _ _ (slB _ _ (sm4 _ _ (sm3 _ _ (slA _ _ gm2))))),(rl.ne (ai sm0 (ai sm1 hm2))),⟨by decide +kernel,rfl,by decide +kernel⟩⟩
     rcases List.mem_cons.mp hx with e | hx
     · exact ⟨m3,(["number","box","plus","less"]:List Str),e,l1.k _ _ (rl.ne (ai sm0 (ai sm1 (ai sm2 (ai slA hm3))))) (slC _ _ (slB _ _ (sm4 _ _ gm3))),(rl.ne (ai sm0 (ai sm1 (ai sm2 (ai slA hm3))))),⟨by decide +kernel,rfl,by decide +kernel⟩⟩
     · exact ⟨m4,(["mine","yours","yes","same"]:List Str),List.mem_singleton.mp hx,l1.k _ _ (rl.ne (ai sm0 (ai sm1 (ai sm2 (ai slA (ai sm3 hm4)))))) (slC _ _ (slB _ _ gm4)),(rl.ne (ai sm0 (ai sm1 (ai sm2 (ai slA (ai sm3 hm4)))))),⟨by decide +kernel,rfl,by decide +kernel⟩⟩)
   refine ⟨lC,_,_,_,rfl,rfl,aA.of (l1.k _ _ (rl.ne (ai sm0 (ai sm1 (ai sm2 (ai slA (ai sm3 (ai sm4 (ai slB hlC)))))))) glC),hat,?_⟩
   refine aj ?_
   refine kR _ _ ?_
   refine aq [some (.ref r),some (.int most),some (.int wide),some (.ref nl),none,none,none,none] rfl ?_
   have l01:Rl r H H1:=(Rl.of rl sA).trans l1
   clear hat l1 rA sA gm0 gm1 gm2 glA gm3 gm4 glB glC
   clear slC slB sm4 sm3 slA sm2 sm1 sm0
   refine qV fun Rk kR=>?_
   refine ⟨Kg,fun B hB=>?_⟩
   have Br:B≠r:=l01.rl.ne hB
   have BH:=l01.no Br hB
   have Bn:nl≠B:=au gn hB
   have lB:Rl r H1 (upd H1 B (.lst [])):=Rl.new l01.rl hB
   have gB:(upd H1 B (.lst [])) B=some (.lst []):=ae
   generalize upd H1 B (.lst [])=H2 at lB gB ⊢
   refine aj ?_
   refine ⟨_,rfl,?_⟩
   refine aj ?_
   refine kR _ _ ?_
   refine aq [some (.ref r),some (.int most),some (.int wide),some (.ref nl),some (.ref B),some (.int most),none,none] rfl ?_
   refine ao fun Rk kR=>?_
   refine ⟨_,rfl,_,rfl,r,5,rfl,lB.rl,by decide,by decide,fun k H3 k0 k1 l3=>?_⟩
   have gn3:=l3.k _ _ nr (lB.k _ _ nr gn)
   refine ⟨_,rfl,nl,_,rfl,aA.of gn3,fun sl hsl=>?_⟩
   obtain ⟨kn,ekn⟩ : ∃kn:Nat,k=(kn:Int):=⟨k.toNat,by omega⟩
   rw [ekn,qX _ (by rw [Ea,nm.l4]; omega),← HG]
   have slr:sl≠r:=l3.rl.ne hsl
   have slB:sl≠B:=fun z=>by rw [z,l3.k _ _ Br gB] at hsl; cases hsl
   have ls:Rl r H3 (upd H3 sl (.lst ((ns.take kn).map V.str))):=Rl.new l3.rl hsl
   have gsl:(upd H3 sl (.lst ((ns.take kn).map V.str))) sl=some (.lst ((ns.take kn).map V.str)):=ae
   generalize upd H3 sl (.lst ((ns.take kn).map V.str))=H4 at ls gsl ⊢
   have l14:=lB.trans (l3.trans ls)
   have gB4:=(l3.trans ls).k _ _ Br gB
   have tnd:(ns.take kn).Nodup:=nm.nd.sublist (GQ _ _)
   have tl:(ns.take kn).length<=4:=by rw [Eo,nm.l4]; omega
   have t8:∀x∈ns.take kn,x.length<=8:=fun x hx=>nm.l8 x (FW hx)
   generalize ns.take kn=ms at gsl tnd tl t8
   refine ⟨sl,rfl,⟨_,aA.of gsl⟩,?_⟩
   refine bg (xs:=ms.map V.str) (fun (i:Nat) (σ:L2.St) (Hx:Hp)=>Rl r H1 Hx/\Hx sl=some (.lst (ms.map V.str))/\∃(lf:Int) (o6 o7:Option V) (vb:List V) (bs:List (Str×Int)),σ=[some (.ref r),some (.int most),some (.int wide),some (.ref nl),some (.ref B),some (.int lf),o6,o7]/\1<=lf/\lf<=65536/\bj bs * lf<=most/\Hx B=some (.lst vb)/\Paired (cw Hx) vb bs/\bs.map (·.1)=ms.take i/\∀b∈bs,1<=b.2/\b.2<=16) ⟨l14,gsl,most,none,none,[],[],rfl,mo1,mo9,by show 1 * most<=most; omega,gB4,.nil,rfl,fun b hb=>nomatch hb⟩ (fun i σ Hx _ z=>aA.of z.2.1) (fun i x0 σ Hx hx z=>?_) (fun σ Hx z=>?_)
   · obtain ⟨lx,gs,lf,o6,o7,vb,bs,rfl,f1,f9,pr,hb,pb,nmx,sz1⟩:=z
     obtain ⟨x,hxi,rfl⟩:=aT hx
     have il:i < ms.length:=(List.getElem?_eq_some_iff.mp hxi).1
     refine aj ?_
     refine aq [some (.ref r),some (.int most),some (.int wide),some (.ref nl),some (.ref B),some (.int lf),some (.str x),o7] rfl ?_
     refine ao fun Rj kj=>?_
     obtain ⟨mn,emn,n1,n2,n3⟩ : ∃mn,mn=(if wide < lf then wide else lf)/\1<=mn/\mn<=16/\mn<=lf:=by
       refine ⟨_,rfl,?_,?_,?_⟩ <;> split <;> omega
     refine ⟨_,rfl,_,rfl,_,rfl,_,_,rfl,r,mn,by rw [emn]; rfl,lx.rl,by omega,E4 n2 (by decide),fun k H5 k0 k1 l5=>⟨_,_,rfl,rfl,?_⟩⟩
     obtain ⟨sz,esz⟩ : ∃sz,sz=1 + k:=⟨_,rfl⟩
     refine aj ?_
     refine kj _ _ ?_
     refine aq [some (.ref r),some (.int most),some (.int wide),some (.ref nl),some (.ref B),some (.int lf),some (.str x),some (.int sz)] (by rw [esz]; rfl) ?_
     have hb5:=l5.k _ _ Br hb
     have lx5:=lx.trans l5
     refine ao fun Rj kj=>?_
     refine ⟨_,rfl,_,rfl,_,_,rfl,rfl,⟨by omega,E4 (show sz<=65536 by omega) (by decide +kernel)⟩,?_⟩
     have q1:1<=lf / sz:=Int.le_ediv_of_mul_le (by omega) (by omega)
     have q2:lf / sz<=65536:=GY (Int.ediv_le_self _ (by omega)) f9
     refine aj ?_
     refine kj _ _ ?_
     refine ⟨_,rfl,.inl ⟨rfl,_,aA.of hb5⟩,_,rfl,_,rfl,Ki,fun p hp=>?_⟩
     have bl:=Paired.length pb
     have bl2:bs.length=min i ms.length:=by rw [← Ea (f:=(·.1)),nmx,Eo]
     have pB:p≠B:=(au hb5 hp).symm
     have hb6:(upd H5 p (.tup [.str x,.int sz])) B=some (.lst vb):=by rw [aB pB.symm]; exact hb5
     have lp:Rl r H5 (upd H5 p (.tup [.str x,.int sz])):=Rl.new l5.rl hp
     have psl:(upd H5 p (.tup [.str x,.int sz])) sl=some (.lst (ms.map V.str)):=lp.k _ _ slr (l5.k _ _ slr gs)
     refine ⟨B,_,_,rfl,rfl,hb6,ax (by omega),⟨Rl.put (lx5.trans lp) Br hB,by rw [aB slB]; exact psl,lf / sz,_,_,vb++[.ref p],bs++[(x,sz)],rfl,q1,q2,?_,ae,?_,?_,fun b hb=>?_⟩⟩
     · rw [de,HN]
       refine GY (G2 (Int.mul_ediv_self_le (show sz≠0 by omega)) ?_) pr
       have:=dA (bs:=bs) fun b hb=>(sz1 b hb).1
       omega
     · refine Paired.snoc (Paired.mapP pb fun _ _ z=>Tp.keep (((Rl.tk lx.rl l5).trans (zF hp _)).trans (TW.TK.lst hb6)) z) ⟨p,rfl,?_⟩
       rw [aB pB,ae]
     · rw [En,nmx,Er,hxi]
       rfl
     · rcases List.mem_append.mp hb with z | z
       · exact sz1 b z
       · rw [List.mem_singleton.mp z]
         exact ⟨by show 1<=sz; omega,by show sz<=16; omega⟩
   obtain ⟨lx,gs,lf,o6,o7,vb,bs,rfl,f1,f9,pr,hb,pb,nmx,sz1⟩:=z
   rw [Ea,EL] at nmx
   refine kR _ _ ?_
   refine ⟨_,rfl,?_⟩
   have bl2:bs.length=ms.length:=by rw [← Ea (f:=(·.1)),nmx]
   refine q B vb bs Hx (l01.trans lx) Br BH hb pb ⟨by rw [nmx]; exact tnd,by omega,fun b hb=>t8 _ (by rw [← nmx]; exact List.mem_map.mpr ⟨b,hb,rfl⟩),sz1,GY ?_ pr⟩
   have:=dA (bs:=bs) fun b hb=>(sz1 b hb).1
   have:=G2 f1 (c:=bj bs) (by omega)
   omega
theorem pS (s:Src K mg "_law_some_boxes" sSomeB)(m_min:mg "min"=none)(NX:aC P w K mg base "_law_next" ["pot","many"] 1 aZ):aC P w K mg base "_law_some_boxes" ["pot","most","wide"] 2 gQ:=
 let ⟨f,fd,F,m⟩:=s
 ⟨f,fd,sJ F m_min NX,F.kp,iW F fun _ _ _ _ _ _ _ _ _=>rfl,m⟩
end
end TW
set_option Elab.async false
set_option linter.all false
set_option maxRecDepth 100000
set_option exponentiation.threshold 4000
set_option maxHeartbeats 1000000
namespace TW
open PySem L2
section
variable {P:Program}{w:World}{K:D9}{mg:Str->Option Value}{base:Heap}
abbrev sSum:Stmt:=top 21
abbrev sCond:Stmt:=top 22
/-! ### drawn sums,conditions -/
structure Dr (H:Hp)(r nl:Addr)(ns:List Str):Prop where
 rl:bH H r
 nr:nl≠r
 hn:H nl=some (.lst (ns.map V.str))
 l4:ns.length<=4
theorem Dr.go {H H1:Hp}{r nl:Addr}{ns:List Str}(d:Dr H r nl ns)(l:Rl r H H1):Dr H1 r nl ns:=⟨l.rl,d.nr,l.k _ _ d.nr d.hn,d.l4⟩
abbrev bxN (ns:List Str):Str->Str->Prop:=fun t x=>t="box"/\x∈ns
def dZ (n:Nat):Sp:=fun vs H Q _=>∃(r nl:Addr) (d:Int) (ns:List Str),vs=[.ref r,.ref nl,.int d]/\Dr H r nl ns/\0<=d/\d < n/\∀(v:V) (e:E) (H':Hp),Rl r H H'->ej H' v e->e.isS->e.okIn (bxN ns)->e.dep<=d.toNat->Q v H'
theorem wU {k:Int}{a b:K2}(h0:0<=k)(h1:k < 2):∃kk:K2,iV ([.str a.str,.str b.str]:List V) k=some (.str kk.str)/\(kk=a\/kk=b):=by
 rcases (show k=0\/k=1 by omega) with rfl | rfl
 · exact ⟨a,rfl,.inl rfl⟩
 · exact ⟨b,rfl,.inr rfl⟩
theorem r0 {f:Addr}{fd:FuncData}:aI P w K mg base CX0 2 f fd ["pot","names","deep"] (dZ 0):=by
 have no:∀vs H Q E,¬ dZ 0 vs H Q E:=fun vs H Q E h=>by
   obtain ⟨r,nl,d,ns,_,_,d0,dn,_⟩:=h
   omega
 exact ⟨fun vs H Q E h=>absurd h (no vs H Q E),fun A outer s H args us vs Q E _ _ _ _ h=>absurd h (no vs H Q E)⟩
theorem tP:az ["pot","names","deep","way","word"] ["pot","names","deep"] (af sSum):=⟨rfl,rfl,rfl,by decide +kernel,rfl,by decide +kernel,by decide +kernel⟩
theorem cU:(af sSum).names.lookup (Eb "_law_any_sum")=some .globalImplicit:=by decide +kernel
theorem bF:(af sSum).names.lookup (Eb "_law_next")=some .globalImplicit:=by decide +kernel
theorem rD:(af sSum).names.lookup (Eb "len")=some .globalImplicit:=by decide +kernel
theorem yD {n:Nat}{f:Addr}{fd:FuncData}(F:bQ K "_law_any_sum" "_law_any_sum" sSum f fd)(m_len:mg "len"=none)(TK0:aC P w K mg base "_law_next" ["pot","many"] 1 aZ)(G:aC P w K mg base "_law_any_sum" ["pot","names","deep"] (n + 2) (dZ n)):aI P w K mg base CX0 (n + 1 + 2) f fd ["pot","names","deep"] (dZ (n + 1)):=by
 refine F.ok tP (fun vs H Q E h=>?_) (fun cdv A outer s H vs Q E hr h=>?_)
 · obtain ⟨r,nl,d,ns,rfl,_⟩:=h
   rfl
 · obtain ⟨r,nl,d,ns,rfl,D,d0,dn,q⟩:=h
   have TK:=TK0.mono (show 1<=n + 2 by omega)
   refine cu ⟨_,(Ih (Io 3 tP.nd (Il TK hr bF (Ic (Ib 0) (Ic Ig Ie))))
     (Ih (Iv (IJ (IY (Iu Iz (Ib 3) Ig) (IZ (Iu Jt (Ib 2) Ig)))) (Ih (Io 4 tP.nd (Ii IG (ID (Ic Ip (Ic Ip Ie))) (Il TK hr bF (Ic (Ib 0) (Ic Ig Ie)))))
     (Ij (Im (IA (Ic (Ib 4) (Ic (Il G hr cU (Ic (Ib 0) (Ic (Ib 1) (Ic (IB Jj (Ib 2) Ig) Ie)))) (Ic (Il G hr cU (Ic (Ib 0) (Ic (Ib 1) (Ic (IB Jj (Ib 2) Ig) Ie)))) Ie))))))) Iw)
     (Ih (Iv (IJ (IY (Iu Jt (Ib 3) Ig) (IZ (Iu (Jo (m:=2) (bz hr _ (by decide))) (Ib 1) (ID Ie))))) (Ij (Im (IA (Ic Ip (Ic (Ii IG (Ib 1) (Il TK hr bF (Ic (Ib 0) (Ic (Iy IP rD m_len Es (Ic (Ib 1) Ie)) Ie)))) Ie))))) Iw)
     (Ij (Im (IA (Ic Ip (Ic (Il TK hr bF (Ic (Ib 0) (Ic (Ii IG (ID (Ic Ig (Ic Ig (Ic Ig (Ic (IB L3.wQ Ig Ig) Ie))))) (Il TK hr bF (Ic (Ib 0) (Ic Ig Ie)))) Ie))) Ie)))))))),?_⟩
   refine ao fun Rk kR=>?_
   refine ⟨_,rfl,r,4,rfl,D.rl,by decide,by decide,fun k H1 k0 k1 l1=>?_⟩
   have D1:=D.go l1
   refine aj ?_
   refine kR _ _ ?_
   refine aq [some (.ref r),some (.ref nl),some (.int d),some (.int k),none] rfl ?_
   refine ao fun Rk kR=>?_
   suffices hs:Rk [some (.ref r),some (.ref nl),some (.int d),some (.int k),none] H1 by
     refine ⟨_,rfl,rfl,_,rfl,bq (fun _=>?_) (fun _=>bh hs)⟩
     refine ⟨_,rfl,_,_,rfl,rfl,_,rfl,bq (fun cd=>?_) (fun _=>hs)⟩
     have dpos:0 < d:=of_decide_eq_true cd
     clear hs kR
     refine ao fun Rk kR=>?_
     refine ⟨Ki,fun L hL=>?_⟩
     have Lr:L≠r:=D1.rl.ne hL
     have ll:Rl r H1 (upd H1 L (.lst [.str "plus",.str "less"])):=Rl.new D1.rl hL
     have gL:(upd H1 L (.lst [.str "plus",.str "less"])) L=some (.lst [.str "plus",.str "less"]):=ae
     generalize upd H1 L (.lst [.str "plus",.str "less"])=H4 at ll gL ⊢
     have D4:=D1.go ll
     refine ⟨_,rfl,r,2,rfl,D4.rl,by decide,by decide,fun j H5 j0 j1 l5=>?_⟩
     have D5:=D4.go l5
     obtain ⟨kk,hat,hkk⟩:=wU (a:=.plus) (b:=.less) j0 j1
     refine ⟨L,_,_,_,rfl,rfl,aA.of (l5.k _ _ Lr gL),hat,?_⟩
     refine aj ?_
     refine kR _ _ ?_
     refine ⟨_,rfl,_,rfl,_,rfl,_,rfl,_,_,rfl,rfl,r,nl,d - 1,ns,rfl,D5,by omega,by omega,fun v e H3 l3 ev is ok dp=>?_⟩
     have D3:=D5.go l3
     refine ⟨_,rfl,_,rfl,_,rfl,_,_,rfl,rfl,r,nl,d - 1,ns,rfl,D3,by omega,by omega,fun v2 e2 H6 l6 ev2 is2 ok2 dp2=>⟨Kj,fun p hp=>?_⟩⟩
     have lp:Rl r H6 (upd H6 p (.tup [.str kk.str,v,v2])):=Rl.new l6.rl hp
     refine q (.ref p) (.two kk e e2) _ (l1.trans ((ll.trans l5).trans (l3.trans (l6.trans lp)))) ⟨v,v2,⟨p,rfl,ae⟩,ev.keep (Rl.tk D3.rl (l6.trans lp)),ev2.keep (Rl.tk l6.rl lp)⟩ ?_ ⟨ok,ok2⟩ ?_
     · rcases hkk with rfl | rfl <;> exact ⟨is,is2⟩
     · show max e.dep e2.dep + 1<=d.toNat
       omega
   refine kR _ _ ?_
   refine ao fun Rk kR=>?_
   suffices hs:∀H2,Rl r H1 H2->Rk [some (.ref r),some (.ref nl),some (.int d),some (.int k),none] H2 by
     refine ⟨_,rfl,_,_,rfl,rfl,_,rfl,bq (fun _=>?_) (fun _=>bh (hs _ (Rl.refl D1.rl)))⟩
     refine ⟨_,rfl,Kg,fun z hz=>?_⟩
     have lz:Rl r H1 (upd H1 z (.lst [])):=Rl.new D1.rl hz
     have gz:(upd H1 z (.lst [])) z=some (.lst []):=ae
     generalize upd H1 z (.lst [])=H2 at lz gz ⊢
     have D2:=D1.go lz
     refine ⟨_,RB.nil (aA.of D2.hn) (aA.of gz),_,rfl,bq (fun c=>?_) (fun _=>hs _ lz)⟩
     have hpos:0 < ns.length:=by
       cases ns with
       | nil=>exact absurd c (by decide)
       | cons a l=>exact HY _
     have l4:=D.l4
     refine ⟨_,rfl,_,rfl,_,rfl,nl,_,rfl,.inl (aA.of D2.hn),r,_,rfl,D2.rl,by rw [Ea]; omega,by rw [Ea]; exact E4 (show _<=(4:Int) by omega) (by decide),fun j H3 j0 j1 l3=>?_⟩
     rw [Ea] at j1
     obtain ⟨x,_,hxm,hat⟩:=eE V.str ns j0 j1
     have D3:=D2.go l3
     refine ⟨nl,_,_,_,rfl,rfl,aA.of D3.hn,hat,Ki,fun p hp=>?_⟩
     exact q (.ref p) (.box "box" x) _ (l1.trans (lz.trans (l3.trans (Rl.new D3.rl hp)))) ⟨p,rfl,ae⟩ EG ⟨rfl,hxm⟩ (EC _)
   intro H2 l2
   have D2:=D1.go l2
   refine kR _ _ ?_
   refine ⟨_,rfl,_,_,rfl,rfl,⟨by decide,by decide,by decide⟩,Kk,fun L hL=>?_⟩
   have Lr:L≠r:=D2.rl.ne hL
   have ll:Rl r H2 (upd H2 L (.lst [.int 3,.int 20,.int 20,.int (10 ^ (30:Int).toNat)])):=Rl.new D2.rl hL
   have gL:(upd H2 L (.lst [.int 3,.int 20,.int 20,.int (10 ^ (30:Int).toNat)])) L=some (.lst [.int 3,.int 20,.int 20,.int (10 ^ (30:Int).toNat)]):=ae
   generalize upd H2 L (.lst [.int 3,.int 20,.int 20,.int (10 ^ (30:Int).toNat)])=H3 at ll gL ⊢
   have D3:=D2.go ll
   refine ⟨_,rfl,r,4,rfl,D3.rl,by decide,by decide,fun j H4 j0 j1 l4=>?_⟩
   have D4:=D3.go l4
   obtain ⟨_,hat,mm,rfl,mm0,mm1⟩:=nC (P:=fun v=>∃mm:Int,v=.int mm/\0 < mm/\mm<=10 ^ 30) (xs:=[.int 3,.int 20,.int 20,.int (10 ^ (30:Int).toNat)]) (r:=j) j0 j1 (fun x hx=>by
     rcases List.mem_cons.mp hx with e | hx
     · exact ⟨_,e,by decide,by decide⟩
     rcases List.mem_cons.mp hx with e | hx
     · exact ⟨_,e,by decide,by decide⟩
     rcases List.mem_cons.mp hx with e | hx
     · exact ⟨_,e,by decide,by decide⟩
     · exact ⟨_,List.mem_singleton.mp hx,by decide,by decide⟩)
   refine ⟨L,_,_,_,rfl,rfl,aA.of (l4.k _ _ Lr gL),hat,r,mm,rfl,D4.rl,mm0,E4 mm1 (by decide),fun i H5 i0 i1 l5=>⟨Ki,fun p hp=>?_⟩⟩
   refine q (.ref p) (.num i) _ ((l1.trans l2).trans ((ll.trans l4).trans (l5.trans (Rl.new l5.rl hp)))) ⟨p,rfl,ae⟩ EG ?_ (EC _)
   show i.natAbs < 2 ^ 100
   have e30:(10:Int) ^ 30=1000000000000000000000000000000:=by decide
   rw [e30] at mm1
   omega
theorem u9 (s:Src K mg "_law_any_sum" sSum)(m_len:mg "len"=none)(TK0:aC P w K mg base "_law_next" ["pot","many"] 1 aZ):∀n:Nat,aC P w K mg base "_law_any_sum" ["pot","names","deep"] (n + 2) (dZ n):=by
 obtain ⟨f,fd,F,m⟩:=s
 have b:Binds K fd ["pot","names","deep"] []:=iW F fun _ _ _ _ _ _ _ _ _=>rfl
 intro n
 have all:aI P w K mg base CX0 (n + 2) f fd ["pot","names","deep"] (dZ n):=by
   induction n with
   | zero=>exact r0
   | succ n ih=>exact yD F m_len TK0 ⟨f,fd,ih,F.kp,b,m⟩
 exact ⟨f,fd,all,F.kp,b,m⟩
def dD (n:Nat):Sp:=fun vs H Q _=>∃(r nl:Addr) (d:Int) (ns:List Str),vs=[.ref r,.ref nl,.int d]/\Dr H r nl ns/\0<=d/\d < n/\d < 4/\∀(v:V) (e:E) (H':Hp),Rl r H H'->ej H' v e->e.isC->e.okIn (bxN ns)->e.dep<=d.toNat + 1->Q v H'
theorem qj {f:Addr}{fd:FuncData}:aI P w K mg base CX0 6 f fd ["pot","names","deep"] (dD 0):=by
 have no:∀vs H Q E,¬ dD 0 vs H Q E:=fun vs H Q E h=>by
   obtain ⟨r,nl,d,ns,_,_,d0,dn,_⟩:=h
   omega
 exact ⟨fun vs H Q E h=>absurd h (no vs H Q E),fun A outer s H args us vs Q E _ _ _ _ h=>absurd h (no vs H Q E)⟩
theorem tM:az ["pot","names","deep","way"] ["pot","names","deep"] (af sCond):=⟨rfl,rfl,rfl,by decide +kernel,rfl,by decide +kernel,by decide +kernel⟩
theorem aX:(af sCond).names.lookup (Eb "_law_any_condition")=some .globalImplicit:=by decide +kernel
theorem cx:(af sCond).names.lookup (Eb "_law_any_sum")=some .globalImplicit:=by decide +kernel
theorem dt:(af sCond).names.lookup (Eb "_law_next")=some .globalImplicit:=by decide +kernel
theorem vt {n:Nat}{f:Addr}{fd:FuncData}(F:bQ K "_law_any_condition" "_law_any_condition" sCond f fd)(TK0:aC P w K mg base "_law_next" ["pot","many"] 1 aZ)(SM0:aC P w K mg base "_law_any_sum" ["pot","names","deep"] 6 (dZ 4))(G:aC P w K mg base "_law_any_condition" ["pot","names","deep"] (n + 6) (dD n)):aI P w K mg base CX0 (n + 1 + 6) f fd ["pot","names","deep"] (dD (n + 1)):=by
 refine F.ok tM (fun vs H Q E h=>?_) (fun cdv A outer s H vs Q E hr h=>?_)
 · obtain ⟨r,nl,d,ns,rfl,_⟩:=h
   rfl
 · obtain ⟨r,nl,d,ns,rfl,D,d0,dn,d4,q⟩:=h
   have TK:=TK0.mono (show 1<=n + 6 by omega)
   have SM:=SM0.mono (show 6<=n + 6 by omega)
   refine cu ⟨_,(Ih (Io 3 tM.nd (Il TK hr dt (Ic (Ib 0) (Ic Ig Ie))))
     (Ih (Iv (Iu Iz (Ib 3) Ig) (Ij (Im (IA (Ic Ip Ie)))) Iw)
     (Ih (Iv (IJ (IY (Iu Iz (Ib 3) Ig) (IZ (Iu Jt (Ib 2) Ig)))) (Ij (Im (IA (Ic Ip (Ic (Il G hr aX (Ic (Ib 0) (Ic (Ib 1) (Ic (IB Jj (Ib 2) Ig) Ie)))) Ie))))) Iw)
     (Ih (Iv (IJ (IY (Iu Iz (Ib 3) Ig) (IZ (Iu Jt (Ib 2) Ig)))) (Ij (Im (IA (Ic Ip (Ic (Il G hr aX (Ic (Ib 0) (Ic (Ib 1) (Ic (IB Jj (Ib 2) Ig) Ie)))) (Ic (Il G hr aX (Ic (Ib 0) (Ic (Ib 1) (Ic (IB Jj (Ib 2) Ig) Ie)))) Ie)))))) Iw)
     (Ij (Im (IA (Ic (Ii IG (ID (Ic Ip (Ic Ip Ie))) (Il TK hr dt (Ic (Ib 0) (Ic Ig Ie)))) (Ic (Il SM hr cx (Ic (Ib 0) (Ic (Ib 1) (Ic (Ib 2) Ie)))) (Ic (Il SM hr cx (Ic (Ib 0) (Ic (Ib 1) (Ic (Ib 2) Ie)))) Ie)))))))))),?_⟩
   refine ao fun Rk kR=>?_
   refine ⟨_,rfl,r,6,rfl,D.rl,by decide,by decide,fun k H1 k0 k1 l1=>?_⟩
   have D1:=D.go l1
   refine aj ?_
   refine kR _ _ ?_
   refine aq [some (.ref r),some (.ref nl),some (.int d),some (.int k)] rfl ?_
   refine ao fun Rk kR=>?_
   refine ⟨_,rfl,rfl,_,rfl,bq (fun _=>?_) (fun _=>?_)⟩
   · refine ⟨Kh,fun p hp=>?_⟩
     exact q (.ref p) .yes _ (l1.trans (Rl.new l1.rl hp)) ⟨p,rfl,ae⟩ EG EG (EC _)
   refine kR _ _ ?_
   refine ao fun Rk kR=>?_
   suffices hs:Rk [some (.ref r),some (.ref nl),some (.int d),some (.int k)] H1 by
     refine ⟨_,rfl,rfl,_,rfl,bq (fun _=>?_) (fun _=>bh hs)⟩
     refine ⟨_,rfl,_,_,rfl,rfl,_,rfl,bq (fun cd=>?_) (fun _=>hs)⟩
     have dpos:0 < d:=of_decide_eq_true cd
     refine ⟨_,rfl,_,rfl,_,rfl,_,_,rfl,rfl,r,nl,d - 1,ns,rfl,D1,by omega,by omega,by omega,fun v e H2 l2 ev is ok dp=>?_⟩
     have D2:=D1.go l2
     refine ⟨Ki,fun p hp=>?_⟩
     have lp:Rl r H2 (upd H2 p (.tup [.str "not",v])):=Rl.new D2.rl hp
     exact q (.ref p) (.nt e) _ (l1.trans (l2.trans lp)) ⟨v,⟨p,rfl,ae⟩,ev.keep (Rl.tk D2.rl lp)⟩ is ok (by show e.dep + 1<=d.toNat + 1; omega)
   refine kR _ _ ?_
   refine ao fun Rk kR=>?_
   suffices hs:Rk [some (.ref r),some (.ref nl),some (.int d),some (.int k)] H1 by
     refine ⟨_,rfl,rfl,_,rfl,bq (fun _=>?_) (fun _=>bh hs)⟩
     refine ⟨_,rfl,_,_,rfl,rfl,_,rfl,bq (fun cd=>?_) (fun _=>hs)⟩
     have dpos:0 < d:=of_decide_eq_true cd
     refine ⟨_,rfl,_,rfl,_,rfl,_,_,rfl,rfl,r,nl,d - 1,ns,rfl,D1,by omega,by omega,by omega,fun v e H2 l2 ev is ok dp=>?_⟩
     have D2:=D1.go l2
     refine ⟨_,rfl,_,rfl,_,rfl,_,_,rfl,rfl,r,nl,d - 1,ns,rfl,D2,by omega,by omega,by omega,fun v2 e2 H3 l3 ev2 is2 ok2 dp2=>?_⟩
     have D3:=D2.go l3
     refine ⟨Kj,fun p hp=>?_⟩
     have lp:Rl r H3 (upd H3 p (.tup [.str "both",v,v2])):=Rl.new D3.rl hp
     exact q (.ref p) (.two .both e e2) _ (l1.trans (l2.trans (l3.trans lp))) ⟨v,v2,⟨p,rfl,ae⟩,ev.keep (Rl.tk D2.rl (l3.trans lp)),ev2.keep (Rl.tk D3.rl lp)⟩ ⟨is,is2⟩ ⟨ok,ok2⟩ (by show max e.dep e2.dep + 1<=d.toNat + 1; omega)
   refine kR _ _ ?_
   refine ⟨Ki,fun L hL=>?_⟩
   have Lr:L≠r:=D1.rl.ne hL
   have ll:Rl r H1 (upd H1 L (.lst [.str "same",.str "under"])):=Rl.new D1.rl hL
   have gL:(upd H1 L (.lst [.str "same",.str "under"])) L=some (.lst [.str "same",.str "under"]):=ae
   generalize upd H1 L (.lst [.str "same",.str "under"])=H4 at ll gL ⊢
   have D4:=D1.go ll
   refine ⟨_,rfl,r,2,rfl,D4.rl,by decide,by decide,fun j H5 j0 j1 l5=>?_⟩
   have D5:=D4.go l5
   obtain ⟨kk,hat,hkk⟩:=wU (a:=.same) (b:=.under) j0 j1
   refine ⟨L,_,_,_,rfl,rfl,aA.of (l5.k _ _ Lr gL),hat,_,rfl,_,rfl,_,rfl,r,nl,d,ns,rfl,D5,d0,d4,fun v e H6 l6 ev is ok dp=>?_⟩
   have D6:=D5.go l6
   refine ⟨_,rfl,_,rfl,_,rfl,r,nl,d,ns,rfl,D6,d0,d4,fun v2 e2 H7 l7 ev2 is2 ok2 dp2=>⟨Kj,fun p hp=>?_⟩⟩
   have lp:Rl r H7 (upd H7 p (.tup [.str kk.str,v,v2])):=Rl.new l7.rl hp
   refine q (.ref p) (.two kk e e2) _ (l1.trans ((ll.trans l5).trans (l6.trans (l7.trans lp)))) ⟨v,v2,⟨p,rfl,ae⟩,ev.keep (Rl.tk D6.rl (l7.trans lp)),ev2.keep (Rl.tk l7.rl lp)⟩ ?_ ⟨ok,ok2⟩ ?_
   · rcases hkk with rfl | rfl <;> exact ⟨is,is2⟩
   · show max e.dep e2.dep + 1<=d.toNat + 1
     omega
theorem rH (s:Src K mg "_law_any_condition" sCond)(TK0:aC P w K mg base "_law_next" ["pot","many"] 1 aZ)(SM0:aC P w K mg base "_law_any_sum" ["pot","names","deep"] 6 (dZ 4)):∀n:Nat,aC P w K mg base "_law_any_condition" ["pot","names","deep"] (n + 6) (dD n):=by
 obtain ⟨f,fd,F,m⟩:=s
 have b:Binds K fd ["pot","names","deep"] []:=iW F fun _ _ _ _ _ _ _ _ _=>rfl
 intro n
 have all:aI P w K mg base CX0 (n + 6) f fd ["pot","names","deep"] (dD n):=by
   induction n with
   | zero=>exact qj
   | succ n ih=>exact vt F TK0 SM0 ⟨f,fd,ih,F.kp,b,m⟩
 exact ⟨f,fd,all,F.kp,b,m⟩
end
end TW
set_option Elab.async false
set_option linter.all false
set_option maxRecDepth 100000
set_option exponentiation.threshold 4000
set_option maxHeartbeats 1000000
namespace TW
open PySem L2
section
variable {P:Program}{w:World}{K:D9}{mg:Str->Option Value}{base:Heap}
abbrev sNode:Stmt:=top 23
abbrev sSomeP:Stmt:=top 24
/-! ### nodes that are drawn -/
def Np.leads:Np->List Int
 | .put _ _ n=>[n] | .say _ n=>[n] | .test _ n o=>[n,o] | .pick _ n=>[n] | .fin=>[]
def Np.tolds:Np->List E
 | .put x s _=>[.box "box" x,s] | .say s _=>[s] | .test c _ _=>[c] | .pick x _=>[.box "box" x] | .fin=>[]
/-- of its kinds: a sum,a condition; no pick -/
def Np.isN:Np->Prop
 | .put _ s _=>s.isS | .say s _=>s.isS | .test c _ _=>c.isC | .pick _ _=>False | .fin=>True
structure mr (ns:List Str)(m:Int)(e:Np):Prop where
 is:e.isN
 ld:∀l∈e.leads,0<=l/\l < m
 td:∀x∈e.tolds,x.okIn (bxN ns)/\x.dep<=3
theorem all1 {α:Type}{P:α->Prop}{a:α}(h:P a):∀x∈[a],P x:=fun x hx=>by rw [List.mem_singleton.mp hx]; exact h
theorem all2 {α:Type}{P:α->Prop}{a b:α}(h:P a)(h2:P b):∀x∈[a,b],P x:=fun x hx=>by
 rcases List.mem_cons.mp hx with e | hx
 · rw [e]; exact h
 · rw [List.mem_singleton.mp hx]; exact h2
def kF:Sp:=fun vs H Q _=>∃(r nl:Addr) (m:Int) (ns:List Str),vs=[.ref r,.ref nl,.int m]/\Dr H r nl ns/\0 < m/\m<=900/\∀(v:V) (e:Np) (H':Hp),Rl r H H'->aG H' v e->mr ns m e->Q v H'
theorem fK:az ["pot","names","many","way","there","name","told"] ["pot","names","many"] (af sNode):=⟨rfl,rfl,rfl,by decide +kernel,rfl,by decide +kernel,by decide +kernel⟩
theorem cQ:(af sNode).names.lookup (Eb "_law_any_condition")=some .globalImplicit:=by decide +kernel
theorem cz:(af sNode).names.lookup (Eb "_law_any_sum")=some .globalImplicit:=by decide +kernel
theorem aY:(af sNode).names.lookup (Eb "_law_next")=some .globalImplicit:=by decide +kernel
theorem pL:(af sNode).names.lookup (Eb "int")=some .globalImplicit:=by decide +kernel
theorem pM:(af sNode).names.lookup (Eb "len")=some .globalImplicit:=by decide +kernel
theorem vC {f:Addr}{fd:FuncData}(F:bQ K "_law_one_node" "_law_one_node" sNode f fd)(m_len:mg "len"=none)(m_int:mg "int"=none)(TK0:aC P w K mg base "_law_next" ["pot","many"] 1 aZ)(SM0:aC P w K mg base "_law_any_sum" ["pot","names","deep"] 6 (dZ 4))(CO:aC P w K mg base "_law_any_condition" ["pot","names","deep"] 9 (dD 3)):aI P w K mg base CX0 10 f fd ["pot","names","many"] kF:=by
 refine F.ok fK (fun vs H Q E h=>?_) (fun cdv A outer s H vs Q E hr h=>?_)
 · obtain ⟨r,nl,m,ns,rfl,_⟩:=h
   rfl
 · obtain ⟨r,nl,m,ns,rfl,D,m0,m9,q⟩:=h
   have TK:=TK0.mono (show 1<=9 by decide)
   have SM:=SM0.mono (show 6<=9 by decide)
   refine cu ⟨_,(Ih (Io 3 fK.nd (Il TK hr aY (Ic (Ib 0) (Ic Ig Ie))))
     (Ih (Io 4 fK.nd (Il TK hr aY (Ic (Ib 0) (Ic (Ib 2) Ie))))
     (Ih (Iv (IJ (IY (Iu Jn (Ib 3) Ig) (IZ (Iu (Jo (m:=2) (bz hr _ (by decide))) (Ib 1) (ID Ie))))) (Ih (Io 5 fK.nd (Ii IG (Ib 1) (Il TK hr aY (Ic (Ib 0) (Ic (Iy IP pM m_len Es (Ic (Ib 1) Ie)) Ie)))))
     (Ih (Io 6 fK.nd (Il SM hr cz (Ic (Ib 0) (Ic (Ib 1) (Ic Ig Ie)))))
     (Ih (Iv (Iu Iz (Il TK hr aY (Ic (Ib 0) (Ic Ig Ie))) Ig) (Ij (Io 6 fK.nd (IA (Ic Ip (Ic (Ib 5) Ie))))) Iw)
     (Ij (Im (IA (Ic Ip (Ic (Ib 5) (Ic (Ib 6) (Ic (Ib 4) Ie)))))))))) Iw)
     (Ih (Iv (Iu Jn (Ib 3) Ig) (Ij (Im (IA (Ic Ip (Ic (Il SM hr cz (Ic (Ib 0) (Ic (Ib 1) (Ic Ig Ie)))) (Ic (Ib 4) Ie)))))) Iw)
     (Ih (Iv (Iu Iz (Ib 3) Ig) (Ij (Im (IA (Ic Ip Ie)))) Iw)
     (Ij (Im (IA (Ic Ip (Ic (Il CO hr cQ (Ic (Ib 0) (Ic (Ib 1) (Ic Ig Ie)))) (Ic (Ib 4) (Ic (Ii IG (ID (Ic (Ib 4) (Ic (Il TK hr aY (Ic (Ib 0) (Ic (Ib 2) Ie))) Ie))) (Jb L3.nJ pL m_int (by decide +kernel) (Ic (IL Jt (Il TK hr aY (Ic (Ib 0) (Ic Ig Ie))) Ig) Ie))) Ie)))))))))))),?_⟩
   refine qV fun Rk kR=>?_
   refine ⟨_,rfl,r,10,rfl,D.rl,by decide,by decide,fun k H1 k0 k1 l1=>?_⟩
   have D1:=D.go l1
   refine aj ?_
   refine ⟨_,rfl,_,rfl,r,m,rfl,D1.rl,m0,E4 m9 (by decide),fun to H2 t0 t1 l2=>?_⟩
   have D2:=D1.go l2
   have l02:=l1.trans l2
   clear D1 l1 l2
   refine aj ?_
   refine kR _ _ ?_
   refine aq [some (.ref r),some (.ref nl),some (.int m),some (.int k),some (.int to),none,none] rfl ?_
   refine ao fun Rk kR=>?_
   suffices hs:∀H3,Rl r H2 H3->Rk [some (.ref r),some (.ref nl),some (.int m),some (.int k),some (.int to),none,none] H3 by
     refine ⟨_,rfl,_,_,rfl,rfl,_,rfl,bq (fun _=>?_) (fun _=>bh (hs _ (Rl.refl D2.rl)))⟩
     refine ⟨_,rfl,Kg,fun z hz=>?_⟩
     have lz:Rl r H2 (upd H2 z (.lst [])):=Rl.new D2.rl hz
     have gz:(upd H2 z (.lst [])) z=some (.lst []):=ae
     generalize upd H2 z (.lst [])=H3 at lz gz ⊢
     have D3:=D2.go lz
     refine ⟨_,RB.nil (aA.of D3.hn) (aA.of gz),_,rfl,bq (fun c=>?_) (fun _=>hs _ lz)⟩
     have hpos:0 < ns.length:=by
       cases ns with
       | nil=>exact absurd c (by decide)
       | cons a l=>exact HY _
     have l4:=D.l4
     clear hs kR
     refine ao fun Rk kR=>?_
     refine ⟨_,rfl,_,rfl,_,rfl,nl,_,rfl,.inl (aA.of D3.hn),r,_,rfl,D3.rl,by rw [Ea]; omega,by rw [Ea]; exact E4 (show _<=(4:Int) by omega) (by decide),fun j H4 j0 j1 l4=>?_⟩
     rw [Ea] at j1
     obtain ⟨x,_,hxm,hat⟩:=eE V.str ns j0 j1
     have D4:=D3.go l4
     refine ⟨nl,_,_,_,rfl,rfl,aA.of D4.hn,hat,?_⟩
     refine aj ?_
     refine kR _ _ ?_
     refine aq [some (.ref r),some (.ref nl),some (.int m),some (.int k),some (.int to),some (.str x),none] rfl ?_
     refine ao fun Rk kR=>?_
     refine ⟨_,rfl,_,rfl,r,nl,2,ns,rfl,D4,by decide,by decide,fun v e H5 l5 ev is ok dp=>?_⟩
     have D5:=D4.go l5
     refine aj ?_
     refine kR _ _ ?_
     refine aq [some (.ref r),some (.ref nl),some (.int m),some (.int k),some (.int to),some (.str x),some v] rfl ?_
     refine ao fun Rk kR=>?_
     have dp:e.dep<=2:=dp
     suffices hv:∀(v:V) (e:TW.E) (H6:Hp),Rl r H5 H6->ej H6 v e->e.isS->e.okIn (bxN ns)->e.dep<=2->Rk [some (.ref r),some (.ref nl),some (.int m),some (.int k),some (.int to),some (.str x),some v] H6 by
       refine ⟨_,rfl,r,4,rfl,D5.rl,by decide,by decide,fun j H6 j0 j1 l6=>⟨rfl,_,rfl,bq (fun _=>?_) (fun _=>hv v e _ l6 (ev.keep (Rl.tk D5.rl l6)) is ok dp)⟩⟩
       refine ⟨_,rfl,Ki,fun p hp=>?_⟩
       refine aj ?_
       exact hv (.ref p) (.box "box" x) _ (l6.trans (Rl.new l6.rl hp)) ⟨p,rfl,ae⟩ EG ⟨rfl,hxm⟩ (EC _)
     clear ev is ok

     intro v e H6 l6 ev is ok dp
     refine kR _ _ ?_
     refine ⟨_,rfl,_,rfl,_,rfl,Kk,fun p hp=>?_⟩
     have lp:Rl r H6 (upd H6 p (.tup [.str "put",.str x,v,.int to])):=Rl.new l6.rl hp
     exact q (.ref p) (.put x e to) _ (l02.trans (lz.trans (l4.trans (l5.trans (l6.trans lp))))) ⟨v,⟨p,rfl,ae⟩,ev.keep (Rl.tk l6.rl lp)⟩ ⟨is,all1 ⟨t0,t1⟩,all2 ⟨⟨rfl,hxm⟩,EC _⟩ ⟨ok,by omega⟩⟩
   intro H3 l23
   replace l02:=l02.trans l23
   replace D2:=D2.go l23
   clear l23
   refine kR _ _ ?_
   refine ao fun Rk kR=>?_
   refine ⟨_,rfl,_,_,rfl,rfl,_,rfl,bq (fun _=>?_) (fun _=>?_)⟩
   · refine ⟨_,rfl,_,rfl,r,nl,2,ns,rfl,D2,by decide,by decide,fun v e H5 l5 ev is ok dp=>?_⟩
     refine ⟨_,rfl,Kj,fun p hp=>?_⟩
     have lp:Rl r H5 (upd H5 p (.tup [.str "say",v,.int to])):=Rl.new l5.rl hp
     have dp:e.dep<=2:=dp
     exact q (.ref p) (.say e to) _ (l02.trans (l5.trans lp)) ⟨v,⟨p,rfl,ae⟩,ev.keep (Rl.tk l5.rl lp)⟩ ⟨is,all1 ⟨t0,t1⟩,all1 ⟨ok,by omega⟩⟩
   refine kR _ _ ?_
   refine ao fun Rk kR=>?_
   refine ⟨_,rfl,rfl,_,rfl,bq (fun _=>?_) (fun _=>?_)⟩
   · refine ⟨Kh,fun p hp=>?_⟩
     exact q (.ref p) .fin _ (l02.trans (Rl.new D2.rl hp)) ⟨p,rfl,ae⟩ ⟨EG,(fun _ z=>nomatch z),(fun _ z=>nomatch z)⟩
   refine kR _ _ ?_
   refine ⟨_,rfl,_,rfl,r,nl,2,ns,rfl,D2,by decide,by decide,by decide,fun v e H5 l5 ev is ok dp=>?_⟩
   have D5:=D2.go l5
   have dp:e.dep<=3:=dp
   refine ⟨_,rfl,_,rfl,_,rfl,_,rfl,r,m,rfl,D5.rl,m0,E4 m9 (by decide),fun o H6 o0 o1 l6=>?_⟩
   refine ⟨Ki,fun L hL=>?_⟩
   have Lr:L≠r:=l6.rl.ne hL
   have ll:Rl r H6 (upd H6 L (.lst [.int to,.int o])):=Rl.new l6.rl hL
   have gL:(upd H6 L (.lst [.int to,.int o])) L=some (.lst [.int to,.int o]):=ae
   generalize upd H6 L (.lst [.int to,.int o])=H7 at ll gL ⊢
   refine ⟨_,rfl,r,3,rfl,ll.rl,by decide,by decide,fun j H8 j0 j1 l8=>⟨_,_,rfl,rfl,.inr ⟨_,rfl,?_⟩⟩⟩
   obtain ⟨oo,hat,oo0,oo1⟩ : ∃oo:Int,iV [V.int to,V.int o] (if decide (0 < j)=true then (1:Int) else 0)=some (.int oo)/\0<=oo/\oo < m:=by
     split
     · exact ⟨o,rfl,o0,o1⟩
     · exact ⟨to,rfl,t0,t1⟩
   refine ⟨L,_,_,_,rfl,rfl,aA.of (l8.k _ _ Lr gL),hat,Kk,fun p hp=>?_⟩
   have lp:Rl r H8 (upd H8 p (.tup [.str "test",v,.int to,.int oo])):=Rl.new l8.rl hp
   have l58:=l6.trans (ll.trans (l8.trans lp))
   exact q (.ref p) (.test e to oo) _ (l02.trans (l5.trans l58)) ⟨v,⟨p,rfl,ae⟩,ev.keep (Rl.tk D5.rl l58)⟩ ⟨is,all2 ⟨t0,t1⟩ ⟨oo0,oo1⟩,all1 ⟨ok,by omega⟩⟩
theorem rO (s:Src K mg "_law_one_node" sNode)(m_len:mg "len"=none)(m_int:mg "int"=none)(TK0:aC P w K mg base "_law_next" ["pot","many"] 1 aZ)(SM0:aC P w K mg base "_law_any_sum" ["pot","names","deep"] 6 (dZ 4))(CO:aC P w K mg base "_law_any_condition" ["pot","names","deep"] 9 (dD 3)):aC P w K mg base "_law_one_node" ["pot","names","many"] 10 kF:=
 let ⟨f,fd,F,m⟩:=s
 ⟨f,fd,vC F m_len m_int TK0 SM0 CO,F.kp,iW F fun _ _ _ _ _ _ _ _ _=>rfl,m⟩
theorem x9 {ins:List Str}{x:Str}(h:ins.Nodup)(n:x ∉ ins)(i:Nat):(ins.take i++x :: ins.drop i).Nodup:=by
 rw [Gb,Fx]
 refine ⟨h.sublist (GQ _ _),⟨fun z=>n (Gu z),h.sublist (List.drop_sublist _ _)⟩,fun a ha b hb e=>?_⟩
 rcases List.mem_cons.mp hb with z | z
 · exact n (by rw [← z,← e]; exact FW ha)
 · have hd:=h
   rw [← Gp i ins,Gb] at hd
   exact hd.2.2 a ha b z e
theorem vd {ins:List Str}{x y:Str}{i:Nat}:y∈ins.take i++x :: ins.drop i->y=x\/y∈ins:=fun h=>by
 rcases List.mem_append.mp h with z | z
 · exact .inr (FW z)
 · rcases List.mem_cons.mp z with z | z
   · exact .inl z
   · exact .inr (Gu z)
/-! ### _law_some_program -/
structure uu (r:Addr)(H:Hp)(B I N:Addr)(vb vn:List V)(bs:List (Str×Int))(ins:List Str)(nds:List Np):Prop where
 hB:H B=some (.lst vb)
 hI:H I=some (.lst (ins.map V.str))
 hN:H N=some (.lst vn)
 pb:Paired (cw H) vb bs
 pn:Paired (aG H) vn nds
 nB:B≠r
 nI:I≠r
 nN:N≠r
theorem uu.go {r:Addr}{H H1:Hp}{B I N:Addr}{vb vn:List V}{bs:List (Str×Int)}{ins:List Str}{nds:List Np}(h:uu r H B I N vb vn bs ins nds)(rl:bH H r)(l:Rl r H H1):uu r H1 B I N vb vn bs ins nds:=
 ⟨l.k _ _ h.nB h.hB,l.k _ _ h.nI h.hI,l.k _ _ h.nN h.hN,Paired.mapP h.pb fun _ _ z=>Tp.keep (Rl.tk rl l) z,Paired.mapP h.pn fun _ _ z=>aG.keep (Rl.tk rl l) z,h.nB,h.nI,h.nN⟩
structure qO (most longest:Int)(bs:List (Str×Int))(ins:List Str)(nds:List Np):Prop where
 bx:zX most bs
 ind:ins.Nodup
 sub:∀x∈ins,x∈bs.map (·.1)
 one:1<=nds.length
 few:(nds.length:Int)<=longest
 nd:∀e∈nds,mr (bs.map (·.1)) (nds.length:Int) e
def kH:Sp:=fun vs H Q _=>∃(r:Addr) (most wide longest:Int),vs=[.ref r,.int most,.int wide,.int longest]/\bH H r/\1<=most/\most<=65536/\1<=wide/\wide<=16/\1<=longest/\longest<=40/\∀(p B I N:Addr) (vb vn:List V) (bs:List (Str×Int)) (ins:List Str) (nds:List Np) (H':Hp),Rl r H H'->H' p=some (.tup [.ref B,.ref I,.ref N])->uu r H' B I N vb vn bs ins nds->qO most longest bs ins nds->Q (.ref p) H'
theorem dQ:az ["pot","most","wide","longest","boxes","names","inputs","name","many"] ["pot","most","wide","longest"] (af sSomeP):=⟨rfl,rfl,rfl,by decide +kernel,rfl,by decide +kernel,by decide +kernel⟩
theorem bY:(af sSomeP).names.lookup (Eb "_law_next")=some .globalImplicit:=by decide +kernel
theorem di:(af sSomeP).names.lookup (Eb "_law_some_boxes")=some .globalImplicit:=by decide +kernel
theorem mK:(af sSomeP).names.lookup (Eb "len")=some .globalImplicit:=by decide +kernel
theorem jX:(af sSomeP).names.lookup (Eb "range")=some .globalImplicit:=by decide +kernel
theorem sM {f:Addr}{fd:FuncData}(F:bQ K "_law_some_program" "_law_some_program" sSomeP f fd)(m_len:mg "len"=none)(m_range:mg "range"=none)(TK0:aC P w K mg base "_law_next" ["pot","many"] 1 aZ)(SB0:aC P w K mg base "_law_some_boxes" ["pot","most","wide"] 2 gQ)(NO:aC P w K mg base "_law_one_node" ["pot","names","many"] 10 kF):aI P w K mg base CX0 11 f fd ["pot","most","wide","longest"] kH:=by
 refine F.ok dQ (fun vs H Q E h=>?_) (fun cdv A outer s H vs Q E hr h=>?_)
 · obtain ⟨r,most,wide,longest,rfl,_⟩:=h
   rfl
 · obtain ⟨r,most,wide,longest,rfl,rl,mo1,mo9,w1,w9,g1,g9,q⟩:=h
   have TK:=TK0.mono (show 1<=10 by decide)
   have SB:=SB0.mono (show 2<=10 by decide)
   refine cu ⟨_,(Ih (Io 4 dQ.nd (Il SB hr di (Ic (Ib 0) (Ic (Ib 1) (Ic (Ib 2) Ie)))))
     (Ih (Io 5 dQ.nd (IS [none,none] ["name","size"] (show av _ (af sSomeP) from ⟨rfl,by decide +kernel,by decide +kernel,by decide +kernel⟩) (by rfl) (IQ (Ib 4)) (fun _ _ _ _ _=>⟨(IU 2 (IC (Iq 0 (show (["name","size"]:List Str).Nodup from by decide +kernel)) (IC (Iq 1 (show (["name","size"]:List Str).Nodup from by decide +kernel)) IV))),IX,(Ib 0)⟩)))
     (Ih (Io 6 dQ.nd (ID Ie))
     (Ih (IT (IQ (Ib 5)) (Iq 7 dQ.nd) (Ij (Iv (Iu Iz (Il TK hr bY (Ic (Ib 0) (Ic Ig Ie))) Ig) (Ij (Jd (L3.insert (Ib 6) (Ic (Il TK hr bY (Ic (Ib 0) (Ic (IB Jf (Iy IP mK m_len Es (Ic (Ib 6) Ie)) Ig) Ie))) (Ic (Ib 7) Ie))))) Iw)))
     (Ih (Io 8 dQ.nd (IB Jf Ig (Il TK hr bY (Ic (Ib 0) (Ic (Ib 3) Ie)))))
     (Ij (Im (IA (Ic (Ib 4) (Ic (Ib 6) (Ic (IS [none,some 0,some 5,some 8] ["k","pot","names","many"] (show av _ (af sSomeP) from ⟨rfl,by decide +kernel,by decide +kernel,by decide +kernel⟩) (by rfl) (Jg jX m_range (Ic (Ib 8) Ie)) (fun _ _ _ _ _=>⟨(Iq 0 (show (["k","pot","names","many"]:List Str).Nodup from by decide +kernel)),IX,(Il NO hr (by rfl) (Ic (Ib 1) (Ic (Ib 2) (Ic (Ib 3) Ie))))⟩)) Ie))))))))))),?_⟩
   refine ao fun Rk kR=>?_
   refine ⟨_,rfl,_,rfl,_,rfl,r,most,wide,rfl,rl,mo1,mo9,w1,w9,fun B vb bs H1 l1 nB hB0 hB pb ob=>?_⟩
   refine aj ?_
   refine kR _ _ ?_
   refine aq [some (.ref r),some (.int most),some (.int wide),some (.int longest),some (.ref B),none,none,none,none] rfl ?_
   have vbl:=Paired.length pb
   have b4:=ob.l4
   refine ao fun Rk kR=>?_
   refine ⟨_,rfl,B,rfl,⟨_,aA.of hB⟩,fun nl hnl=>?_⟩
   have nlr:nl≠r:=l1.rl.ne hnl
   refine aV (xs:=vb) (fun (i:Nat) Hx=>ah H1 Hx/\Hx nl=some (.lst (((bs.map (·.1)).take i).map V.str))) ⟨ag hnl _,ae⟩ (fun i Hx _ z=>aA.of (z.1 _ _ hB)) (fun i x0 Hx hx z=>?_) (fun H2 z=>?_)
   · obtain ⟨sx,gD⟩:=z
     have hil:=(List.getElem?_eq_some_iff.mp hx).1
     obtain ⟨b,hbi,pp,rfl,hpp⟩:=Paired.get pb hx
     refine ⟨pp,_,rfl,ar.of (sx _ _ hpp),rfl,_,_,rfl,_,_,rfl,rfl,?_⟩
     refine bL (A:=fun H5=>cj _ nl _ H5 _) ?_
     refine ⟨_,rfl,_,gD,ax (by rw [Ea,Eo]; omega),aF (Pv:=fun (i:Nat) Hx=>ah H1 Hx/\Hx nl=some (.lst (((bs.map (·.1)).take i).map V.str))) (by repeat' constructor) hil ⟨aE sx hnl,?_⟩⟩
     rw [ae,Er,Em,hbi,En]
     rfl
   obtain ⟨s2,gn⟩:=z
   rw [vbl,EI (by rw [Ea]; exact Ee _)] at gn
   have l2:Rl r H1 H2:=Rl.of l1.rl s2
   have D2:Dr H2 r nl (bs.map (·.1)):=⟨l2.rl,nlr,gn,by rw [Ea]; exact b4⟩
   refine aj ?_
   refine kR _ _ ?_
   refine aq [some (.ref r),some (.int most),some (.int wide),some (.int longest),some (.ref B),some (.ref nl),none,none,none] rfl ?_
   refine ao fun Rk kR=>?_
   refine ⟨Kg,fun I hI=>?_⟩
   have Ir:I≠r:=l2.rl.ne hI
   have lI:Rl r H2 (upd H2 I (.lst [])):=Rl.new l2.rl hI
   have gI:(upd H2 I (.lst [])) I=some (.lst []):=ae
   generalize upd H2 I (.lst [])=H3 at lI gI ⊢
   refine aj ?_
   refine kR _ _ ?_
   refine aq [some (.ref r),some (.int most),some (.int wide),some (.int longest),some (.ref B),some (.ref nl),some (.ref I),none,none] rfl ?_
   refine ao fun Rk kR=>?_
   refine ⟨_,rfl,nl,rfl,⟨_,aA.of (D2.go lI).hn⟩,?_⟩
   refine bg (xs:=(bs.map (·.1)).map V.str) (fun (i:Nat) (σ:L2.St) (Hy:Hp)=>(∃o7,σ=[some (.ref r),some (.int most),some (.int wide),some (.int longest),some (.ref B),some (.ref nl),some (.ref I),o7,none])/\Rl r H2 Hy/\∃ins,Hy I=some (.lst (ins.map V.str))/\ins.Nodup/\ins.length<=i/\∀y∈ins,y∈(bs.map (·.1)).take i) ⟨⟨_,rfl⟩,lI,[],gI,Gy,Ee _,fun y hy=>nomatch hy⟩ (fun i σ Hy _ z=>aA.of (D2.go z.2.1).hn) (fun i x0 σ Hy hx z=>?_) (fun σ Hy z=>?_)
   · obtain ⟨⟨o7,rfl⟩,ly,ins,gi,ni,il,sub⟩:=z
     obtain ⟨x,hxi,rfl⟩:=aT hx
     have inl:i < (bs.map (·.1)).length:=(List.getElem?_eq_some_iff.mp hxi).1
     have nl4:=D2.l4
     have up:∀y,y∈(bs.map (·.1)).take i->y∈(bs.map (·.1)).take (i + 1):=fun y hy=>by rw [Er]; exact List.mem_append.mpr (.inl hy)
     refine aj ?_
     refine aq [some (.ref r),some (.int most),some (.int wide),some (.int longest),some (.ref B),some (.ref nl),some (.ref I),some (.str x),none] rfl ?_
     refine ⟨_,rfl,r,2,rfl,ly.rl,by decide,by decide,fun j H4 j0 j1 l4=>⟨rfl,_,rfl,?_⟩⟩
     have gi4:=l4.k _ _ Ir gi
     refine bq (fun _=>?_) (fun _=>?_)
     · refine ⟨_,rfl,.inl ⟨rfl,_,aA.of gi4⟩,_,rfl,_,rfl,I,_,rfl,.inl (aA.of gi4),_,_,rfl,rfl,r,_,rfl,l4.rl,by rw [Ea]; omega,by rw [Ea]; exact E4 (show _<=(5:Int) by omega) (by decide),fun k H5 k0 k1 l5=>?_⟩
       rw [Ea] at k1
       have gi5:=l5.k _ _ Ir gi4
       have nx:x ∉ ins:=fun z=>by
         obtain ⟨j,hj,e⟩:=List.getElem_of_mem (sub x z)
         rw [Eo] at hj
         rw [List.getElem_take] at e
         have e1:(bs.map (·.1))[j]? = some x:=by rw [Eg (by omega),e]
         have:=(List.getElem?_inj (by omega) ob.nd).mp (e1.trans hxi.symm)
         omega
       have l45:=l4.trans l5
       refine ⟨_,rfl,I,_,_,k,rfl,rfl,gi5,k0,by rw [Ea]; omega,by rw [Ea]; omega,⟨_,rfl⟩,(ly.trans l45).put Ir hI,ins.take k.toNat++x :: ins.drop k.toNat,?_,x9 ni nx _,?_,fun y hy=>?_⟩
       · rw [ae,En,HG,EJ,List.map_drop]
       · rw [Eh,EO,Eo,Fg]
         omega
       · rcases vd hy with z | z
         · rw [z,Er,hxi]; exact List.mem_append.mpr (.inr Fi)
         · exact up y (sub y z)
     · exact ⟨⟨_,rfl⟩,ly.trans l4,ins,gi4,ni,by omega,fun y hy=>up y (sub y hy)⟩
   obtain ⟨⟨o7,rfl⟩,ly,ins,gi,ni,il,sub⟩:=z
   rw [Ea,EL] at sub
   refine kR _ _ ?_
   refine ao fun Rk kR=>?_
   refine ⟨_,rfl,_,rfl,r,longest,rfl,ly.rl,by omega,E4 g9 (by decide),fun k H4 k0 k1 l4=>⟨_,_,rfl,rfl,?_⟩⟩
   obtain ⟨m,em⟩ : ∃m,m=1 + k:=⟨_,rfl⟩
   refine aj ?_
   refine kR _ _ ?_
   refine aq [some (.ref r),some (.int most),some (.int wide),some (.int longest),some (.ref B),some (.ref nl),some (.ref I),o7,some (.int m)] (by rw [em]; rfl) ?_
   have l24:=ly.trans l4
   have D4:=D2.go l24
   refine ⟨_,rfl,_,rfl,_,rfl,m,rfl,by omega,by omega,fun N hN=>?_⟩
   have Nr:N≠r:=l4.rl.ne hN
   refine b9 (lo:=0) (n:=m.toNat) (fun (i:Nat) Hx=>Rl r H4 Hx/\∃vn nds,Hx N=some (.lst vn)/\vn.length=i/\Paired (aG Hx) vn nds/\∀e∈nds,mr (bs.map (·.1)) m e) ⟨Rl.new l4.rl hN,[],[],ae,rfl,.nil,fun _ z=>nomatch z⟩ (fun i Hx hi z=>?_) (fun Hx z=>?_)
   · obtain ⟨lx,vn,nds,gN,vl,pn,on⟩:=z
     refine aj ?_
     refine bL (A:=fun H5=>cj _ N _ H5 _) ?_
     refine ⟨_,rfl,_,rfl,_,rfl,r,nl,m,_,rfl,D4.go lx,by omega,by omega,fun v e H5 l5 nv ok=>?_⟩
     have gN5:=l5.k _ _ Nr gN
     refine ⟨_,gN5,ax (by omega),aF (Pv:=fun (i:Nat) Hx=>Rl r H4 Hx/\∃vn nds,Hx N=some (.lst vn)/\vn.length=i/\Paired (aG Hx) vn nds/\∀e∈nds,mr (bs.map (·.1)) m e) (by repeat' constructor) hi ⟨Rl.put (lx.trans l5) Nr hN,vn++[v],nds++[e],ae,by rw [Eh,vl]; rfl,?_,fun e' he'=>?_⟩⟩
     · exact Paired.snoc (Paired.mapP pn fun _ _ z=>aG.keep ((Rl.tk lx.rl l5).trans (TW.TK.lst gN5)) z) (aG.keep (TW.TK.lst gN5) nv)
     · rcases List.mem_append.mp he' with z | z
       · exact on e' z
       · rw [List.mem_singleton.mp z]; exact ok
   obtain ⟨lx,vn,nds,gN,vl,pn,on⟩:=z
   have ndl:=Paired.length pn
   refine ⟨Kj,fun p hp=>?_⟩
   have lp:Rl r Hx (upd Hx p (.tup [.ref B,.ref I,.ref N])):=Rl.new lx.rl hp
   have l1x:Rl r H1 Hx:=l2.trans (l24.trans lx)
   have l2x:=l24.trans lx
   have em2:m=(nds.length:Int):=by omega
   refine q p B I N vb vn bs ins nds _ (l1.trans (l1x.trans lp)) ae (uu.go ⟨l1x.k _ _ nB hB,(l4.trans lx).k _ _ Ir gi,gN,Paired.mapP pb fun _ _ z=>Tp.keep (Rl.tk l1.rl l1x) z,pn,nB,Ir,Nr⟩ lx.rl lp) ⟨ob,ni,sub,by omega,by omega,fun e he=>by rw [← em2]; exact on e he⟩
theorem pT (s:Src K mg "_law_some_program" sSomeP)(m_len:mg "len"=none)(m_range:mg "range"=none)(TK0:aC P w K mg base "_law_next" ["pot","many"] 1 aZ)(SB0:aC P w K mg base "_law_some_boxes" ["pot","most","wide"] 2 gQ)(NO:aC P w K mg base "_law_one_node" ["pot","names","many"] 10 kF):aC P w K mg base "_law_some_program" ["pot","most","wide","longest"] 11 kH:=
 let ⟨f,fd,F,m⟩:=s
 ⟨f,fd,sM F m_len m_range TK0 SB0 NO,F.kp,oW F fun _ _ _ _ _ _ _ _ _ _=>rfl,m⟩
end
end TW
set_option Elab.async false
set_option linter.all false
set_option maxRecDepth 100000
set_option exponentiation.threshold 4000
set_option maxHeartbeats 1000000
namespace TW
open PySem L2
section
variable {P:Program}{w:World}{K:D9}{mg:Str->Option Value}{base:Heap}
abbrev sCopy:Stmt:=top 25
abbrev sLed:Stmt:=top 26
/-! ### _law_copy -/
def iG:Sp:=fun vs H Q _=>∃(p B I N:Addr) (vb vi vn:List V),vs=[.ref p]/\H p=some (.tup [.ref B,.ref I,.ref N])/\H B=some (.lst vb)/\H I=some (.lst vi)/\H N=some (.lst vn)/\∀(p' B' I' N':Addr) (H':Hp),ah H H'->H' p'=some (.tup [.ref B',.ref I',.ref N'])->H' B'=some (.lst vb)->H' I'=some (.lst vi)->H' N'=some (.lst vn)->H B'=none->H I'=none->H N'=none->Q (.ref p') H'
theorem zt:az ["program"] ["program"] (af sCopy):=⟨rfl,rfl,rfl,by decide +kernel,rfl,by decide +kernel,by decide +kernel⟩
theorem d8:(af sCopy).names.lookup (Eb "list")=some .globalImplicit:=by decide +kernel
theorem vw {f:Addr}{fd:FuncData}(F:bQ K "_law_copy" "_law_copy" sCopy f fd)(m_list:mg "list"=none):aI P w K mg base CX0 1 f fd ["program"] iG:=by
 refine F.ok zt (fun vs H Q E h=>?_) (fun cdv A outer s H vs Q E hr h=>?_)
 · obtain ⟨p,B,I,N,vb,vi,vn,rfl,_⟩:=h
   rfl
 · obtain ⟨p,B,I,N,vb,vi,vn,rfl,hp,hB,hI,hN,q⟩:=h
   refine cu ⟨_,(Ij (Im (IA (Ic (Jb Jp d8 m_list (by decide +kernel) (Ic (Ii Ik (Ib 0) Ig) Ie)) (Ic (Jb Jp d8 m_list (by decide +kernel) (Ic (Ii Ik (Ib 0) Ig) Ie)) (Ic (Jb Jp d8 m_list (by decide +kernel) (Ic (Ii Ik (Ib 0) Ig) Ie)) Ie)))))),?_⟩
   refine ⟨_,rfl,p,_,_,_,rfl,rfl,ar.of hp,rfl,B,_,rfl,.inl (aA.of hB),fun B' hB'=>?_⟩
   have sb:ah H (upd H B' (.lst vb)):=ag hB' _
   have gb:(upd H B' (.lst vb)) B'=some (.lst vb):=ae
   generalize upd H B' (.lst vb)=H1 at sb gb ⊢
   refine ⟨_,rfl,p,_,_,_,rfl,rfl,ar.of (sb _ _ hp),rfl,I,_,rfl,.inl (aA.of (sb _ _ hI)),fun I' hI'=>?_⟩
   have si:ah H1 (upd H1 I' (.lst vi)):=ag hI' _
   have gi:(upd H1 I' (.lst vi)) I'=some (.lst vi):=ae
   generalize upd H1 I' (.lst vi)=H2 at si gi ⊢
   have sbi:=aa sb si
   refine ⟨_,rfl,p,_,_,_,rfl,rfl,ar.of (sbi _ _ hp),rfl,N,_,rfl,.inl (aA.of (sbi _ _ hN)),fun N' hN'=>?_⟩
   have sn:ah H2 (upd H2 N' (.lst vn)):=ag hN' _
   have gn:(upd H2 N' (.lst vn)) N'=some (.lst vn):=ae
   generalize upd H2 N' (.lst vn)=H3 at sn gn ⊢
   refine ⟨Kj,fun p' hp'=>?_⟩
   have s4:=ag hp' (.tup [.ref B',.ref I',.ref N'])
   exact q p' B' I' N' _ (aa sbi (aa sn s4)) ae (s4 _ _ (sn _ _ (si _ _ gb))) (s4 _ _ (sn _ _ gi)) (s4 _ _ gn) hB' (ai sb hI') (ai sbi hN')
theorem rJ (s:Src K mg "_law_copy" sCopy)(m_list:mg "list"=none):aC P w K mg base "_law_copy" ["program"] 1 iG:=
 let ⟨f,fd,F,m⟩:=s
 ⟨f,fd,vw F m_list,F.kp,fg F fun _ _ _ _ _ _ _=>rfl,m⟩
/-! ### _law_led -/
def Np.led:Np->List Int->Np
 | .put x s n,l=>.put x s ((l[0]?).getD n)
 | .say s n,l=>.say s ((l[0]?).getD n)
 | .test c n o,l=>.test c ((l[0]?).getD n) ((l[1]?).getD o)
 | .pick x n,l=>.pick x ((l[0]?).getD n)
 | .fin,_=>.fin
def lY:Sp:=fun vs H Q _=>∃(v:V) (l:Addr) (e:Np) (cs:List Int) (ls:List Int),vs=[v,.ref l]/\aG H v e/\e.isN/\H l=some (.lst (cs.map V.int))/\ls.length=e.leads.length/\(∀(i:Nat) (a b:Int),e.leads[i]? = some a->ls[i]? = some b->0<=a/\cs[a.toNat]? = some b)/\∀(v':V) (H':Hp),ah H H'->aG H' v' (e.led ls)->Q v' H'
theorem nE {cs:List Int}{a b:Int}(h0:0<=a)(h:cs[a.toNat]? = some b):iV (cs.map V.int) a=some (.int b):=by
 have e:a=((a.toNat:Nat):Int):=by omega
 have:=aM (xs:=cs.map V.int) (j:=a.toNat) (v:=.int b) (by rw [Em,h]; rfl)
 rw [← e] at this
 exact this
theorem nO (a b:V)(r:List V):cJ (a :: b :: r) none (some 2)=[a,b]:=by
 rw [show (2:Int)=((2:Nat):Int) from rfl,qX _ (by simp)]
 rfl
theorem Ah (xs:List V)(y:V):cJ (xs++[y]) none (some (-1))=xs:=by
 unfold cJ
 have e0:HT.bf (xs++[y]).length 0 none=0:=rfl
 have e1:HT.bf (xs++[y]).length (xs++[y]).length (some (-1))=xs.length:=by
   rw [Eh]
   unfold HT.bf
   simp
   omega
 rw [e0,e1,FH,FT,List.take_left]
theorem Bw:az ["node","change"] ["node","change"] (af sLed):=⟨rfl,rfl,rfl,by decide +kernel,rfl,by decide +kernel,by decide +kernel⟩
theorem yC {f:Addr}{fd:FuncData}(F:bQ K "_law_led" "_law_led" sLed f fd)  : aI P w K mg base CX0 1 f fd ["node","change"] lY:=by
 refine F.ok Bw (fun vs H Q E h=>?_) (fun cdv A outer s H vs Q E hr h=>?_)
 · obtain ⟨v,l,e,cs,ls,rfl,_⟩:=h
   rfl
 · obtain ⟨v,l,e,cs,ls,rfl,na,is,hl,ll,hcs,q⟩:=h
   refine cu ⟨_,(Ih (Iv (Iu Iz (Ii Ik (Ib 0) Ig) Ip) (Ij (Im (IB L3.mT (Ju (Ib 0) Ig) (IA (Ic (Ii IG (Ib 1) (Ii Ik (Ib 0) Ig)) (Ic (Ii IG (Ib 1) (Ii Ik (Ib 0) Ig)) Ie)))))) Iw)
     (Ih (Iv (Iu Iz (Ii Ik (Ib 0) Ig) Ip) (Ij (Im (Ib 0))) Iw)
     (Ij (Im (IB L3.mT (Ju (Ib 0) (JA Ig)) (IA (Ic (Ii IG (Ib 1) (Ii Ik (Ib 0) (JA Ig))) Ie))))))),?_⟩
   refine ao fun Rk kR=>?_
   match e,na,is,ll,hcs,q with
   | .put x e n,⟨u,⟨p,ev,hp⟩,a⟩,is,ll,hcs,q=>
     subst ev
     match ls,ll,hcs,q with
     | [m],_,hcs,q=>
       have hl0:=hcs 0 n m rfl rfl
       have hat:=nE hl0.1 hl0.2
       refine ⟨_,rfl,p,_,_,_,rfl,rfl,ar.of hp,rfl,rfl,_,rfl,iteF' (by decide) (kR _ _ ?_)⟩
       clear kR
       refine ao fun Rk kR=>?_
       refine ⟨_,rfl,p,_,_,_,rfl,rfl,ar.of hp,rfl,rfl,_,rfl,iteF' (by decide) (kR _ _ ?_)⟩
       refine ⟨_,rfl,_,rfl,_,rfl,p,_,rfl,ar.of hp,?_,fun a1 ha1=>?_⟩
       · rintro ⟨_,z⟩
         exact absurd (show HT.bf 4 4 (some (-1))=4 from z) (by decide)
       rw [show ([.str "put",.str x,u,.int n]:List V)=[.str "put",.str x,u]++[.int n] from rfl,Ah]
       have s1:ah H (upd H a1 (.tup [.str "put",.str x,u])):=ag ha1 _
       have g1:(upd H a1 (.tup [.str "put",.str x,u])) a1=some (.tup [.str "put",.str x,u]):=ae
       generalize upd H a1 (.tup [.str "put",.str x,u])=H1 at s1 g1 ⊢
       refine ⟨_,rfl,_,rfl,_,rfl,p,_,_,_,rfl,rfl,ar.of (s1 _ _ hp),rfl,l,_,_,_,rfl,rfl,aA.of (s1 _ _ hl),hat,Kh,fun a2 ha2=>?_⟩
       have s2:ah H1 (upd H1 a2 (.tup [.int m])):=ag ha2 _
       have g2:(upd H1 a2 (.tup [.int m])) a2=some (.tup [.int m]):=ae
       generalize upd H1 a2 (.tup [.int m])=H2 at s2 g2 ⊢
       refine ⟨a1,a2,_,_,rfl,rfl,ar.of (s2 _ _ g1),ar.of g2,(fun z=>nomatch z),Kk,(fun z=>nomatch z),fun _ p' hp'=>?_⟩
       have s3:=ag hp' (.tup ([.str "put",.str x,u]++[.int m]))
       exact q (.ref p') _ (aa s1 (aa s2 s3)) ⟨u,⟨p',rfl,ae⟩,a.keep (ah.tk (aa s1 (aa s2 s3)))⟩
   | .say e n,⟨u,⟨p,ev,hp⟩,a⟩,is,ll,hcs,q=>
     subst ev
     match ls,ll,hcs,q with
     | [m],_,hcs,q=>
       have hl0:=hcs 0 n m rfl rfl
       have hat:=nE hl0.1 hl0.2
       refine ⟨_,rfl,p,_,_,_,rfl,rfl,ar.of hp,rfl,rfl,_,rfl,iteF' (by decide) (kR _ _ ?_)⟩
       clear kR
       refine ao fun Rk kR=>?_
       refine ⟨_,rfl,p,_,_,_,rfl,rfl,ar.of hp,rfl,rfl,_,rfl,iteF' (by decide) (kR _ _ ?_)⟩
       refine ⟨_,rfl,_,rfl,_,rfl,p,_,rfl,ar.of hp,?_,fun a1 ha1=>?_⟩
       · rintro ⟨_,z⟩
         exact absurd (show HT.bf 3 3 (some (-1))=3 from z) (by decide)
       rw [show ([.str "say",u,.int n]:List V)=[.str "say",u]++[.int n] from rfl,Ah]
       have s1:ah H (upd H a1 (.tup [.str "say",u])):=ag ha1 _
       have g1:(upd H a1 (.tup [.str "say",u])) a1=some (.tup [.str "say",u]):=ae
       generalize upd H a1 (.tup [.str "say",u])=H1 at s1 g1 ⊢
       refine ⟨_,rfl,_,rfl,_,rfl,p,_,_,_,rfl,rfl,ar.of (s1 _ _ hp),rfl,l,_,_,_,rfl,rfl,aA.of (s1 _ _ hl),hat,Kh,fun a2 ha2=>?_⟩
       have s2:ah H1 (upd H1 a2 (.tup [.int m])):=ag ha2 _
       have g2:(upd H1 a2 (.tup [.int m])) a2=some (.tup [.int m]):=ae
       generalize upd H1 a2 (.tup [.int m])=H2 at s2 g2 ⊢
       refine ⟨a1,a2,_,_,rfl,rfl,ar.of (s2 _ _ g1),ar.of g2,(fun z=>nomatch z),Kj,(fun z=>nomatch z),fun _ p' hp'=>?_⟩
       have s3:=ag hp' (.tup ([.str "say",u]++[.int m]))
       exact q (.ref p') _ (aa s1 (aa s2 s3)) ⟨u,⟨p',rfl,ae⟩,a.keep (ah.tk (aa s1 (aa s2 s3)))⟩
   | .test e n o,⟨u,⟨p,ev,hp⟩,a⟩,is,ll,hcs,q=>
     subst ev
     match ls,ll,hcs,q with
     | [m,m2],_,hcs,q=>
       have hl0:=hcs 0 n m rfl rfl
       have hl1:=hcs 1 o m2 rfl rfl
       have hat:=nE hl0.1 hl0.2
       have hat1:=nE hl1.1 hl1.2
       refine ⟨_,rfl,p,_,_,_,rfl,rfl,ar.of hp,rfl,rfl,_,rfl,bG ?_⟩
       refine ⟨_,rfl,_,rfl,p,_,rfl,ar.of hp,?_,fun a1 ha1=>?_⟩
       · rintro ⟨_,z⟩
         exact absurd (show HT.bf 4 4 (some 2)=4 from z) (by decide)
       rw [nO]
       have s1:ah H (upd H a1 (.tup [.str "test",u])):=ag ha1 _
       have g1:(upd H a1 (.tup [.str "test",u])) a1=some (.tup [.str "test",u]):=ae
       generalize upd H a1 (.tup [.str "test",u])=H1 at s1 g1 ⊢
       refine ⟨_,rfl,_,rfl,p,_,_,_,rfl,rfl,ar.of (s1 _ _ hp),rfl,l,_,_,_,rfl,rfl,aA.of (s1 _ _ hl),hat,_,rfl,_,rfl,p,_,_,_,rfl,rfl,ar.of (s1 _ _ hp),rfl,l,_,_,_,rfl,rfl,aA.of (s1 _ _ hl),hat1,Ki,fun a2 ha2=>?_⟩
       have s2:ah H1 (upd H1 a2 (.tup [.int m,.int m2])):=ag ha2 _
       have g2:(upd H1 a2 (.tup [.int m,.int m2])) a2=some (.tup [.int m,.int m2]):=ae
       generalize upd H1 a2 (.tup [.int m,.int m2])=H2 at s2 g2 ⊢
       refine ⟨a1,a2,_,_,rfl,rfl,ar.of (s2 _ _ g1),ar.of g2,(fun z=>nomatch z),Kk,(fun z=>nomatch z),fun _ p' hp'=>?_⟩
       have s3:=ag hp' (.tup ([.str "test",u]++[.int m,.int m2]))
       exact q (.ref p') _ (aa s1 (aa s2 s3)) ⟨u,⟨p',rfl,ae⟩,a.keep (ah.tk (aa s1 (aa s2 s3)))⟩
   | .fin,⟨p,ev,hp⟩,is,ll,hcs,q=>
     subst ev
     refine ⟨_,rfl,p,_,_,_,rfl,rfl,ar.of hp,rfl,rfl,_,rfl,iteF' (by decide) (kR _ _ ?_)⟩
     clear kR
     refine ao fun Rk kR=>?_
     refine ⟨_,rfl,p,_,_,_,rfl,rfl,ar.of hp,rfl,rfl,_,rfl,bG ?_⟩
     exact ⟨_,rfl,q _ _ (same_refl _) ⟨p,rfl,hp⟩⟩
theorem u7 (s:Src K mg "_law_led" sLed)  : aC P w K mg base "_law_led" ["node","change"] 1 lY:=
 let ⟨f,fd,F,m⟩:=s
 ⟨f,fd,yC F ,F.kp,f6 F fun _ _ _ _ _ _ _ _=>rfl,m⟩
end
end TW
set_option Elab.async false
set_option linter.all false
set_option maxRecDepth 100000
set_option exponentiation.threshold 4000
set_option maxHeartbeats 1000000
namespace TW
open PySem L2
section
variable {P:Program}{w:World}{K:D9}{mg:Str->Option Value}{base:Heap}
abbrev sAlk:Stmt:=top 27
abbrev sMade:Stmt:=top 28
/-! ### _law_alike -/
def Al (H:Hp):Nat->V->V->Prop
 | 0,_,_=>False
 | n + 1,x,y=>(∃i,x=.int i/\y=.int i)\/(∃s,x=.str s/\y=.str s)\/∃a b xs ys,x=.ref a/\y=.ref b/\((H a=some (.lst xs)/\H b=some (.lst ys))\/(H a=some (.tup xs)/\H b=some (.tup ys)))/\xs.length=ys.length/\xs.length<=900/\∀(i:Nat) (x y:V),xs[i]? = some x->ys[i]? = some y->Al H n x y
theorem Al.same {H H':Hp}(s:ah H H'):∀{n:Nat} {x y:V},Al H n x y->Al H' n x y
 | 0,_,_,h=>h
 | n + 1,x,y,h=>by
   rcases h with h | h | ⟨a,b,xs,ys,h1,h2,h3,h4,h5,h6⟩
   · exact .inl h
   · exact .inr (.inl h)
   · exact .inr (.inr ⟨a,b,xs,ys,h1,h2,h3.elim (fun z=>.inl ⟨s _ _ z.1,s _ _ z.2⟩) (fun z=>.inr ⟨s _ _ z.1,s _ _ z.2⟩),h4,h5,fun i x y hx hy=>Al.same s (h6 i x y hx hy)⟩)
def eX (n:Nat):Sp:=fun vs H Q _=>∃(x y:V),vs=[x,y]/\Al H n x y/\∀H',ah H H'->Q (.bl true) H'
theorem rZ {f:Addr}{fd:FuncData}:aI P w K mg base CX0 1 f fd ["told","due"] (eX 0):=by
 have no:∀vs H Q E,¬ eX 0 vs H Q E:=fun vs H Q E h=>by
   obtain ⟨x,y,_,h,_⟩:=h
   exact h
 exact ⟨fun vs H Q E h=>absurd h (no vs H Q E),fun A outer s H args us vs Q E _ _ _ _ h=>absurd h (no vs H Q E)⟩
theorem Bo:az ["told","due"] ["told","due"] (af sAlk):=⟨rfl,rfl,rfl,by decide +kernel,rfl,by decide +kernel,by decide +kernel⟩
theorem hG:(af sAlk).names.lookup (Eb "all")=some .globalImplicit:=by decide +kernel
theorem fu:(af sAlk).names.lookup (Eb "bool")=some .globalImplicit:=by decide +kernel
theorem hJ:(af sAlk).names.lookup (Eb "int")=some .globalImplicit:=by decide +kernel
theorem ak:(af sAlk).names.lookup (Eb "isinstance")=some .globalImplicit:=by decide +kernel
theorem cK:(af sAlk).names.lookup (Eb "len")=some .globalImplicit:=by decide +kernel
theorem bC:(af sAlk).names.lookup (Eb "list")=some .globalImplicit:=by decide +kernel
theorem cL:(af sAlk).names.lookup (Eb "str")=some .globalImplicit:=by decide +kernel
theorem bc:(af sAlk).names.lookup (Eb "tuple")=some .globalImplicit:=by decide +kernel
theorem hV:(af sAlk).names.lookup (Eb "zip")=some .globalImplicit:=by decide +kernel
theorem yu {n:Nat}{f:Addr}{fd:FuncData}(F:bQ K "_law_alike" "_law_alike" sAlk f fd)(m_isinstance:mg "isinstance"=none)(m_len:mg "len"=none)(m_zip:mg "zip"=none)(m_all:mg "all"=none)(m_bool:mg "bool"=none)(m_int:mg "int"=none)(m_str:mg "str"=none)(m_tuple:mg "tuple"=none)(m_list:mg "list"=none)(G:aC P w K mg base "_law_alike" ["told","due"] (n + 1) (eX n)):aI P w K mg base CX0 (n + 1 + 1) f fd ["told","due"] (eX (n + 1)):=by
 refine F.ok Bo (fun vs H Q E h=>?_) (fun cdv A outer s H vs Q E hr h=>?_)
 · obtain ⟨x,y,rfl,_⟩:=h
   rfl
 · obtain ⟨x,y,rfl,al,q⟩:=h
   rcases al with ⟨i,rfl,rfl⟩ | ⟨z,rfl,rfl⟩ | ⟨a,b,xs,ys,rfl,rfl,hh,hl,h9,all⟩
   · refine cu ⟨_,(Ih (Iv (IJ (Jc (IJ (IY (IF (Iy II ak m_isinstance (by decide +kernel) (Ic (Ib 1) (Ic (IH (w:=.ty "tuple") bc m_tuple (by decide +kernel) rfl) Ie)))) (IZ (IW (IF (Iy II ak m_isinstance (by decide +kernel) (Ic (Ib 0) (Ic (IH (w:=.ty "tuple") bc m_tuple (by decide +kernel) rfl) Ie)))))))) (Je (IJ (IY (IF (Iy II ak m_isinstance (by decide +kernel) (Ic (Ib 1) (Ic (IH (w:=.ty "list") bC m_list (by decide +kernel) rfl) Ie)))) (IZ (IW (IF (Iy II ak m_isinstance (by decide +kernel) (Ic (Ib 0) (Ic (IH (w:=.ty "list") bC m_list (by decide +kernel) rfl) Ie))))))))))) (Ij (Im IK)) Iw)
     (Ih (Iv (IF (Iy II ak m_isinstance (by decide +kernel) (Ic (Ib 1) (Ic (IA (Ic (IH (w:=.ty "tuple") bc m_tuple (by decide +kernel) rfl) (Ic (IH (w:=.ty "list") bC m_list (by decide +kernel) rfl) Ie))) Ie)))) (Ij (Im (I0 (IL Iz (Iy IP cK m_len Es (Ic (Ib 0) Ie)) (Iy IP cK m_len Es (Ic (Ib 1) Ie))) (Ja (Iy Jv hG m_all (by decide +kernel) (Ic (IS [none,none] ["one","other"] (show av _ (af sAlk) from ⟨rfl,by decide +kernel,by decide +kernel,by decide +kernel⟩) (by rfl) (Jq false false hV m_zip (Ic (Ib 0) (Ic (Ib 1) Ie))) (fun _ _ _ _ _=>⟨(IU 2 (IC (Iq 0 (show (["one","other"]:List Str).Nodup from by decide +kernel)) (IC (Iq 1 (show (["one","other"]:List Str).Nodup from by decide +kernel)) IV))),IX,(Il G hr (by rfl) (Ic (Ib 0) (Ic (Ib 1) Ie)))⟩)) Ie)))))) Iw)
     (Ih (Iv (IF (Iy II ak m_isinstance (by decide +kernel) (Ic (Ib 1) (Ic (IH (w:=.ty "str") cL m_str (by decide +kernel) rfl) Ie)))) (Ij (Im (I0 (Iy II ak m_isinstance (by decide +kernel) (Ic (Ib 0) (Ic (IH (w:=.ty "str") cL m_str (by decide +kernel) rfl) Ie))) (Ja (IL Iz (Ib 0) (Ib 1)))))) Iw)
     (Ij (Im (I0 (Iy II ak m_isinstance (by decide +kernel) (Ic (Ib 0) (Ic (IH (w:=.ty "int") hJ m_int (by decide +kernel) rfl) Ie))) (I0 (L3.B5 (Iy II ak m_isinstance (by decide +kernel) (Ic (Ib 0) (Ic (IH (w:=.ty "bool") fu m_bool (by decide +kernel) rfl) Ie)))) (Ja (IL Iz (Ib 0) (Ib 1)))))))))),?_⟩
     refine ao fun Rk kR=>?_
     refine ⟨_,rfl,.inl ⟨_,"tuple",_,false,rfl,TyOf.int _,rfl,_,rfl,bh (bh ?_)⟩⟩
     refine ⟨_,rfl,.inl ⟨_,"list",_,false,rfl,TyOf.int _,rfl,_,rfl,bh (bh ?_)⟩⟩
     refine kR _ _ ?_
     refine ao fun Rk kR=>?_
     refine ⟨_,rfl,Ki,fun t1 ht1=>?_⟩
     have sH1:ah H (upd H t1 (.tup [.ty "tuple",.ty "list"])):=ag ht1 _
     have gH1:(upd H t1 (.tup [.ty "tuple",.ty "list"])) t1=some (.tup [.ty "tuple",.ty "list"]):=ae
     generalize upd H t1 (.tup [.ty "tuple",.ty "list"])=H1 at sH1 gH1 ⊢
     refine .inr ⟨_,t1,["tuple","list"],_,false,rfl,gH1,TyS.int _,rfl,_,rfl,bh ?_⟩
     refine kR _ _ ?_
     refine ao fun Rk kR=>?_
     refine ⟨_,rfl,.inl ⟨_,"str",_,false,rfl,TyOf.int _,rfl,_,rfl,bh ?_⟩⟩
     refine kR _ _ ?_
     refine ⟨_,rfl,.inl ⟨_,"int",_,true,rfl,TyOf.int _,rfl,_,rfl,bG ?_⟩⟩
     refine ⟨_,rfl,.inl ⟨_,"bool",_,false,rfl,TyOf.int _,rfl,_,rfl,_,rfl,bG ?_⟩⟩
     refine ⟨_,rfl,_,rfl,rfl,?_⟩
     rw [decide_eq_true rfl]
     exact q _ sH1
   · refine cu ⟨_,(Ih (Iv (IJ (Jc (IJ (IY (IF (Iy II ak m_isinstance (by decide +kernel) (Ic (Ib 1) (Ic (IH (w:=.ty "tuple") bc m_tuple (by decide +kernel) rfl) Ie)))) (IZ (IW (IF (Iy II ak m_isinstance (by decide +kernel) (Ic (Ib 0) (Ic (IH (w:=.ty "tuple") bc m_tuple (by decide +kernel) rfl) Ie)))))))) (Je (IJ (IY (IF (Iy II ak m_isinstance (by decide +kernel) (Ic (Ib 1) (Ic (IH (w:=.ty "list") bC m_list (by decide +kernel) rfl) Ie)))) (IZ (IW (IF (Iy II ak m_isinstance (by decide +kernel) (Ic (Ib 0) (Ic (IH (w:=.ty "list") bC m_list (by decide +kernel) rfl) Ie))))))))))) (Ij (Im IK)) Iw)
     (Ih (Iv (IF (Iy II ak m_isinstance (by decide +kernel) (Ic (Ib 1) (Ic (IA (Ic (IH (w:=.ty "tuple") bc m_tuple (by decide +kernel) rfl) (Ic (IH (w:=.ty "list") bC m_list (by decide +kernel) rfl) Ie))) Ie)))) (Ij (Im (I0 (IL Iz (Iy IP cK m_len Es (Ic (Ib 0) Ie)) (Iy IP cK m_len Es (Ic (Ib 1) Ie))) (Ja (Iy Jv hG m_all (by decide +kernel) (Ic (IS [none,none] ["one","other"] (show av _ (af sAlk) from ⟨rfl,by decide +kernel,by decide +kernel,by decide +kernel⟩) (by rfl) (Jq false false hV m_zip (Ic (Ib 0) (Ic (Ib 1) Ie))) (fun _ _ _ _ _=>⟨(IU 2 (IC (Iq 0 (show (["one","other"]:List Str).Nodup from by decide +kernel)) (IC (Iq 1 (show (["one","other"]:List Str).Nodup from by decide +kernel)) IV))),IX,(Il G hr (by rfl) (Ic (Ib 0) (Ic (Ib 1) Ie)))⟩)) Ie)))))) Iw)
     (Ih (Iv (IF (Iy II ak m_isinstance (by decide +kernel) (Ic (Ib 1) (Ic (IH (w:=.ty "str") cL m_str (by decide +kernel) rfl) Ie)))) (Ij (Im (I0 (Iy II ak m_isinstance (by decide +kernel) (Ic (Ib 0) (Ic (IH (w:=.ty "str") cL m_str (by decide +kernel) rfl) Ie))) (Ja (IL Iz (Ib 0) (Ib 1)))))) Iw)
     (Ij (Im (I0 (Iy II ak m_isinstance (by decide +kernel) (Ic (Ib 0) (Ic (IH (w:=.ty "int") hJ m_int (by decide +kernel) rfl) Ie))) (I0 (L3.B5 (Iy II ak m_isinstance (by decide +kernel) (Ic (Ib 0) (Ic (IH (w:=.ty "bool") fu m_bool (by decide +kernel) rfl) Ie)))) (Ja (IL Iz (Ib 0) (Ib 1)))))))))),?_⟩
     refine ao fun Rk kR=>?_
     refine ⟨_,rfl,.inl ⟨_,"tuple",_,false,rfl,TyOf.str _,rfl,_,rfl,bh (bh ?_)⟩⟩
     refine ⟨_,rfl,.inl ⟨_,"list",_,false,rfl,TyOf.str _,rfl,_,rfl,bh (bh ?_)⟩⟩
     refine kR _ _ ?_
     refine ao fun Rk kR=>?_
     refine ⟨_,rfl,Ki,fun t1 ht1=>?_⟩
     have sH1:ah H (upd H t1 (.tup [.ty "tuple",.ty "list"])):=ag ht1 _
     have gH1:(upd H t1 (.tup [.ty "tuple",.ty "list"])) t1=some (.tup [.ty "tuple",.ty "list"]):=ae
     generalize upd H t1 (.tup [.ty "tuple",.ty "list"])=H1 at sH1 gH1 ⊢
     refine .inr ⟨_,t1,["tuple","list"],_,false,rfl,gH1,TyS.str _,rfl,_,rfl,bh ?_⟩
     refine kR _ _ ?_
     refine ao fun Rk kR=>?_
     refine ⟨_,rfl,.inl ⟨_,"str",_,true,rfl,TyOf.str _,rfl,_,rfl,bG ?_⟩⟩
     refine ⟨_,rfl,.inl ⟨_,"str",_,true,rfl,TyOf.str _,rfl,_,rfl,bG ?_⟩⟩
     refine ⟨_,rfl,_,rfl,rfl,?_⟩
     rw [decide_eq_true rfl]
     exact q _ sH1
   obtain ⟨tb,TB,b1,b2,t1,t2,k1,k2,kk,sq⟩ : ∃(tb:Value) (TB b1 b2:Bool),TyS H (.ref b) tb/\TyS H (.ref a) tb/\FZ K tb (.type "tuple")=some b1/\FZ K tb (.type "list")=some b2/\PySem.W.kitAny K tb (["tuple","list"].map FD)=some true/\∀H',ah H H'->Sq TB K H' a xs/\Sq TB K H' b ys:=hh.elim (fun z=>⟨_,false,false,true,TyS.lst z.2,TyS.lst z.1,rfl,rfl,rfl,fun H' s=>⟨aA.of (s _ _ z.1),aA.of (s _ _ z.2)⟩⟩) (fun z=>⟨_,true,true,false,TyS.tup z.2,TyS.tup z.1,rfl,rfl,rfl,fun H' s=>⟨ar.of (s _ _ z.1),ar.of (s _ _ z.2)⟩⟩)
   have tyk:∀{H':Hp} {v:V},ah H H'->TyS H v tb->TyS H' v tb:=fun s z=>by
     cases z with
     | int i=>exact .int i
     | str y=>exact .str y
     | lst h=>exact .lst (s _ _ h)
     | tup h=>exact .tup (s _ _ h)
   have lenq:∀H',ah H H'->(aA K H' a xs\/ar K H' a xs)/\(aA K H' b ys\/ar K H' b ys):=fun H' s=>hh.elim (fun z=>⟨.inl (aA.of (s _ _ z.1)),.inl (aA.of (s _ _ z.2))⟩) (fun z=>⟨.inr (ar.of (s _ _ z.1)),.inr (ar.of (s _ _ z.2))⟩)
   refine cu ⟨_,(Ih (Iv (IJ (Jc (IJ (IY (IF (Iy II ak m_isinstance (by decide +kernel) (Ic (Ib 1) (Ic (IH (w:=.ty "tuple") bc m_tuple (by decide +kernel) rfl) Ie)))) (IZ (IW (IF (Iy II ak m_isinstance (by decide +kernel) (Ic (Ib 0) (Ic (IH (w:=.ty "tuple") bc m_tuple (by decide +kernel) rfl) Ie)))))))) (Je (IJ (IY (IF (Iy II ak m_isinstance (by decide +kernel) (Ic (Ib 1) (Ic (IH (w:=.ty "list") bC m_list (by decide +kernel) rfl) Ie)))) (IZ (IW (IF (Iy II ak m_isinstance (by decide +kernel) (Ic (Ib 0) (Ic (IH (w:=.ty "list") bC m_list (by decide +kernel) rfl) Ie))))))))))) (Ij (Im IK)) Iw)
     (Ih (Iv (IF (Iy II ak m_isinstance (by decide +kernel) (Ic (Ib 1) (Ic (IA (Ic (IH (w:=.ty "tuple") bc m_tuple (by decide +kernel) rfl) (Ic (IH (w:=.ty "list") bC m_list (by decide +kernel) rfl) Ie))) Ie)))) (Ij (Im (I0 (IL Iz (Iy IP cK m_len Es (Ic (Ib 0) Ie)) (Iy IP cK m_len Es (Ic (Ib 1) Ie))) (Ja (Iy Jv hG m_all (by decide +kernel) (Ic (IS [none,none] ["one","other"] (show av _ (af sAlk) from ⟨rfl,by decide +kernel,by decide +kernel,by decide +kernel⟩) (by rfl) (Jq TB TB hV m_zip (Ic (Ib 0) (Ic (Ib 1) Ie))) (fun _ _ _ _ _=>⟨(IU 2 (IC (Iq 0 (show (["one","other"]:List Str).Nodup from by decide +kernel)) (IC (Iq 1 (show (["one","other"]:List Str).Nodup from by decide +kernel)) IV))),IX,(Il G hr (by rfl) (Ic (Ib 0) (Ic (Ib 1) Ie)))⟩)) Ie)))))) Iw)
     (Ih (Iv (IF (Iy II ak m_isinstance (by decide +kernel) (Ic (Ib 1) (Ic (IH (w:=.ty "str") cL m_str (by decide +kernel) rfl) Ie)))) (Ij (Im (I0 (Iy II ak m_isinstance (by decide +kernel) (Ic (Ib 0) (Ic (IH (w:=.ty "str") cL m_str (by decide +kernel) rfl) Ie))) (Ja (IL Iz (Ib 0) (Ib 1)))))) Iw)
     (Ij (Im (I0 (Iy II ak m_isinstance (by decide +kernel) (Ic (Ib 0) (Ic (IH (w:=.ty "int") hJ m_int (by decide +kernel) rfl) Ie))) (I0 (L3.B5 (Iy II ak m_isinstance (by decide +kernel) (Ic (Ib 0) (Ic (IH (w:=.ty "bool") fu m_bool (by decide +kernel) rfl) Ie)))) (Ja (IL Iz (Ib 0) (Ib 1)))))))))),?_⟩
   refine ao fun Rk kR=>?_
   have fb:Rk [some (.ref a),some (.ref b)] H:=by
     refine kR _ _ ?_
     refine ao fun Rk kR=>?_
     refine ⟨_,rfl,Ki,fun q1 hq1=>?_⟩
     have sH1:ah H (upd H q1 (.tup [.ty "tuple",.ty "list"])):=ag hq1 _
     have gH1:(upd H q1 (.tup [.ty "tuple",.ty "list"])) q1=some (.tup [.ty "tuple",.ty "list"]):=ae
     generalize upd H q1 (.tup [.ty "tuple",.ty "list"])=H1 at sH1 gH1 ⊢
     refine .inr ⟨_,q1,["tuple","list"],_,true,rfl,gH1,tyk sH1 t1,kk,_,rfl,bG ?_⟩
     obtain ⟨la,lb⟩:=lenq _ sH1
     refine ⟨_,rfl,a,xs,rfl,la,_,rfl,b,ys,rfl,lb,rfl,_,rfl,?_⟩
     rw [hl,decide_eq_true rfl]
     refine bG ?_
     refine ⟨_,rfl,_,rfl,a,b,rfl,⟨_,(sq _ sH1).1⟩,⟨_,(sq _ sH1).2⟩,fun D hD=>?_⟩
     refine fk hl (fun (i:Nat) Hx=>ah H1 Hx/\Hx D=some (.lst ((Gx i true).map V.bl))) ⟨ag hD _,ae⟩ (fun i Hx _ z=>sq _ (aa sH1 z.1)) (fun i u v pp Hx hu hv z hpp=>?_) (fun Hx z=>?_)
     · obtain ⟨sx,gD⟩:=z
       have hil:i < xs.length:=(List.getElem?_eq_some_iff.mp hu).1
       have sp:=ag hpp (.tup [u,v])
       have gp:(upd Hx pp (.tup [u,v])) pp=some (.tup [u,v]):=ae
       generalize upd Hx pp (.tup [u,v])=Hy at sp gp ⊢
       refine ⟨pp,_,rfl,ar.of gp,rfl,_,_,rfl,_,_,rfl,rfl,?_⟩
       refine bL (A:=fun H5=>cj _ D _ H5 _) ?_
       refine ⟨_,rfl,_,rfl,u,v,rfl,(all i u v hu hv).same (aa sH1 (aa sx sp)),fun H' s'=>?_⟩
       refine ⟨_,s' _ _ (sp _ _ gD),ax (by rw [Ea,HS]; omega),aF (Pv:=fun (i:Nat) Hx=>ah H1 Hx/\Hx D=some (.lst ((Gx i true).map V.bl))) (by repeat' constructor) hil ⟨aE (aa sx (aa sp s')) hD,?_⟩⟩
       rw [ae,List.replicate_succ',En]
       rfl
     obtain ⟨sx,gD⟩:=z
     refine ⟨D,Gx xs.length true,rfl,aA.of gD,?_⟩
     rw [List.all_eq_true.mpr (fun z hz=>by rw [List.eq_of_mem_replicate hz]; rfl)]
     exact q _ (aa sH1 sx)
   rcases hh with ⟨ha,hb⟩ | ⟨ha,hb⟩
   · refine ⟨_,rfl,.inl ⟨_,"tuple",_,false,rfl,TyOf.lst hb,rfl,_,rfl,bh (bh ?_)⟩⟩
     refine ⟨_,rfl,.inl ⟨_,"list",_,true,rfl,TyOf.lst hb,rfl,_,rfl,bG ?_⟩⟩
     exact ⟨_,rfl,.inl ⟨_,"list",_,true,rfl,TyOf.lst ha,rfl,_,rfl,iteF' rfl fb⟩⟩
   · refine ⟨_,rfl,.inl ⟨_,"tuple",_,true,rfl,TyOf.tup hb,rfl,_,rfl,bG ?_⟩⟩
     refine ⟨_,rfl,.inl ⟨_,"tuple",_,true,rfl,TyOf.tup ha,rfl,_,rfl,iteF' rfl ?_⟩⟩
     exact ⟨_,rfl,.inl ⟨_,"list",_,false,rfl,TyOf.tup hb,rfl,_,rfl,bh (bh fb)⟩⟩
theorem uT (s:Src K mg "_law_alike" sAlk)(m_isinstance:mg "isinstance"=none)(m_len:mg "len"=none)(m_zip:mg "zip"=none)(m_all:mg "all"=none)(m_bool:mg "bool"=none)(m_int:mg "int"=none)(m_str:mg "str"=none)(m_tuple:mg "tuple"=none)(m_list:mg "list"=none):∀n:Nat,aC P w K mg base "_law_alike" ["told","due"] (n + 1) (eX n):=by
 obtain ⟨f,fd,F,m⟩:=s
 have b:Binds K fd ["told","due"] []:=f6 F fun _ _ _ _ _ _ _ _=>rfl
 intro n
 have all:aI P w K mg base CX0 (n + 1) f fd ["told","due"] (eX n):=by
   induction n with
   | zero=>exact rZ
   | succ n ih=>exact yu F m_isinstance m_len m_zip m_all m_bool m_int m_str m_tuple m_list ⟨f,fd,ih,F.kp,b,m⟩
 exact ⟨f,fd,all,F.kp,b,m⟩
/-! ### _law_is_made -/
def kE (n:Nat):Sp:=fun vs H Q _=>∃(f p:Addr) (x d:V) (ps:List V),vs=[.ref f,d]/\H f=some (.tup [x,.ref p])/\H p=some (.lst ps)/\Al H n x d/\∀H',ah H H'->Q (.bl true) H'
theorem zx:az ["found","due"] ["found","due"] (af sMade):=⟨rfl,rfl,rfl,by decide +kernel,rfl,by decide +kernel,by decide +kernel⟩
theorem gf:(af sMade).names.lookup (Eb "_law_alike")=some .globalImplicit:=by decide +kernel
theorem cP:(af sMade).names.lookup (Eb "isinstance")=some .globalImplicit:=by decide +kernel
theorem pK:(af sMade).names.lookup (Eb "len")=some .globalImplicit:=by decide +kernel
theorem mH:(af sMade).names.lookup (Eb "list")=some .globalImplicit:=by decide +kernel
theorem lj:(af sMade).names.lookup (Eb "tuple")=some .globalImplicit:=by decide +kernel
theorem vA {n:Nat}{f:Addr}{fd:FuncData}(F:bQ K "_law_is_made" "_law_is_made" sMade f fd)(m_isinstance:mg "isinstance"=none)(m_len:mg "len"=none)(m_tuple:mg "tuple"=none)(m_list:mg "list"=none)(AL:aC P w K mg base "_law_alike" ["told","due"] (n + 1) (eX n)):aI P w K mg base CX0 (n + 2) f fd ["found","due"] (kE n):=by
 refine F.ok zx (fun vs H Q E h=>?_) (fun cdv A outer s H vs Q E hr h=>?_)
 · obtain ⟨f,p,x,d,ps,rfl,_⟩:=h
   rfl
 · obtain ⟨f,p,x,d,ps,rfl,hf,hp,al,q⟩:=h
   refine cu ⟨_,(Ih (Iv (IJ (Jc (IW (IF (Iy II cP m_isinstance (by decide +kernel) (Ic (Ib 0) (Ic (IH (w:=.ty "tuple") lj m_tuple (by decide +kernel) rfl) Ie))))) (Jc (Iu L3.vm (Iy IP pK m_len Es (Ic (Ib 0) Ie)) Ig) (Je (IW (IF (Iy II cP m_isinstance (by decide +kernel) (Ic (Ii Ik (Ib 0) Ig) (Ic (IH (w:=.ty "list") mH m_list (by decide +kernel) rfl) Ie))))))))) (Ij (Im IK)) Iw)
     (Ij (Im (Il AL hr gf (Ic (Ii Ik (Ib 0) Ig) (Ic (Ib 1) Ie)))))),?_⟩
   refine ao fun Rk kR=>?_
   refine ⟨_,rfl,.inl ⟨_,"tuple",_,true,rfl,TyOf.tup hf,rfl,_,rfl,iteF' rfl ?_⟩⟩
   refine ⟨_,rfl,f,_,rfl,.inr (ar.of hf),rfl,_,rfl,iteF' (show (!decide (V.int 2=V.int 2))=false by decide) ?_⟩
   refine ⟨_,rfl,f,_,_,_,rfl,rfl,ar.of hf,rfl,.inl ⟨_,"list",_,true,rfl,TyOf.lst hp,rfl,_,rfl,iteF' rfl ?_⟩⟩
   refine kR _ _ ?_
   exact ⟨_,rfl,f,_,_,_,rfl,rfl,ar.of hf,rfl,_,rfl,x,d,rfl,al,q⟩
theorem rM {n:Nat}(s:Src K mg "_law_is_made" sMade)(m_isinstance:mg "isinstance"=none)(m_len:mg "len"=none)(m_tuple:mg "tuple"=none)(m_list:mg "list"=none)(AL:aC P w K mg base "_law_alike" ["told","due"] (n + 1) (eX n)):aC P w K mg base "_law_is_made" ["found","due"] (n + 2) (kE n):=
 let ⟨f,fd,F,m⟩:=s
 ⟨f,fd,vA F m_isinstance m_len m_tuple m_list AL,F.kp,f6 F fun _ _ _ _ _ _ _ _=>rfl,m⟩
end
end TW
set_option Elab.async false
set_option linter.all false
set_option maxRecDepth 100000
set_option exponentiation.threshold 4000
set_option maxHeartbeats 1000000
namespace TW
open PySem L2
section
variable {P:Program}{w:World}{K:D9}{mg:Str->Option Value}{base:Heap}
abbrev sLeads:Stmt:=top 1
/-! ### leads_of -/
def eZ:Sp:=fun vs H Q _=>∃(v:V) (nd:Np),vs=[v]/\aG H v nd/\∀l H',ah H H'->H' l=some (.lst (nd.leads.map V.int))->Q (.ref l) H'
theorem v7:az ["node"] ["node"] (af sLeads):=⟨rfl,rfl,rfl,by decide +kernel,rfl,by decide +kernel,by decide +kernel⟩
theorem sI {f:Addr}{fd:FuncData}(F:bQ K "leads_of" "leads_of" sLeads f fd)  : aI P w K mg base CX0 1 f fd ["node"] eZ:=by
 refine F.ok v7 (fun vs H Q E h=>?_) (fun cdv A outer s H vs Q E hr h=>?_)
 · obtain ⟨v,nd,rfl,_⟩:=h
   rfl
 · obtain ⟨v,nd,rfl,hn,q⟩:=h
   refine cu ⟨_,(Ih (Iv (Iu Iz (Ii Ik (Ib 0) Ig) Ip) (Ij (Im (ID Ie))) Iw)
     (Ih (Iv (Iu Iz (Ii Ik (Ib 0) Ig) Ip) (Ij (Im (ID (Ic (Ii Ik (Ib 0) Ig) Ie)))) Iw)
     (Ih (Iv (Iu Jw (Ii Ik (Ib 0) Ig) (IA (Ic Ip (Ic Ip Ie))) (by rfl)) (Ij (Im (ID (Ic (Ii Ik (Ib 0) Ig) Ie)))) Iw)
     (Ij (Im (ID (Ic (Ii Ik (Ib 0) Ig) (Ic (Ii Ik (Ib 0) Ig) Ie)))))))),?_⟩
   cases nd with
   | fin=>
     obtain ⟨x,rfl,hx⟩:=hn
     refine ⟨_,rfl,x,_,_,_,rfl,rfl,ar.of hx,rfl,rfl,_,rfl,?_⟩
     refine bq (fun _=>?_) (fun c=>absurd (decide_eq_true rfl) c)
     exact ⟨Kg,fun l hl=>q l _ (ag hl _) ae⟩
   | put nm e n=>
     obtain ⟨u,⟨x,rfl,hx⟩,eu⟩:=hn
     refine ⟨_,rfl,x,_,_,_,rfl,rfl,ar.of hx,rfl,rfl,_,rfl,?_⟩
     refine bq (fun c=>absurd (of_decide_eq_true c) (by decide)) (fun _=>?_)
     refine ⟨_,rfl,x,_,_,_,rfl,rfl,ar.of hx,rfl,rfl,_,rfl,?_⟩
     refine bq (fun _=>?_) (fun c=>absurd (decide_eq_true rfl) c)
     exact ⟨_,rfl,x,_,_,_,rfl,rfl,ar.of hx,rfl,Kh,fun l hl=>q l _ (ag hl _) ae⟩
   | say e n=>
     obtain ⟨u,⟨x,rfl,hx⟩,eu⟩:=hn
     refine ⟨_,rfl,x,_,_,_,rfl,rfl,ar.of hx,rfl,rfl,_,rfl,?_⟩
     refine bq (fun c=>absurd (of_decide_eq_true c) (by decide)) (fun _=>?_)
     refine ⟨_,rfl,x,_,_,_,rfl,rfl,ar.of hx,rfl,rfl,_,rfl,?_⟩
     refine bq (fun c=>absurd (of_decide_eq_true c) (by decide)) (fun _=>?_)
     refine ⟨_,rfl,x,_,_,_,rfl,rfl,ar.of hx,rfl,Ki,fun t0 ht0=>⟨t0,_,rfl,.inr (ar.of ae),rfl,rfl,_,rfl,?_⟩⟩
     have s0:=ag ht0 (.tup [.str "say",.str "pick"])
     generalize upd H t0 (.tup [.str "say",.str "pick"])=H0 at s0 ⊢
     have hx:=s0 _ _ hx
     refine bq (fun _=>?_) (fun c=>absurd (show rS (.str "say") _=true by decide) c)
     exact ⟨_,rfl,x,_,_,_,rfl,rfl,ar.of hx,rfl,Kh,fun l hl=>q l _ (aa s0 (ag hl _)) ae⟩
   | pick nm n=>
     obtain ⟨x,rfl,hx⟩:=hn
     refine ⟨_,rfl,x,_,_,_,rfl,rfl,ar.of hx,rfl,rfl,_,rfl,?_⟩
     refine bq (fun c=>absurd (of_decide_eq_true c) (by decide)) (fun _=>?_)
     refine ⟨_,rfl,x,_,_,_,rfl,rfl,ar.of hx,rfl,rfl,_,rfl,?_⟩
     refine bq (fun c=>absurd (of_decide_eq_true c) (by decide)) (fun _=>?_)
     refine ⟨_,rfl,x,_,_,_,rfl,rfl,ar.of hx,rfl,Ki,fun t0 ht0=>⟨t0,_,rfl,.inr (ar.of ae),rfl,rfl,_,rfl,?_⟩⟩
     have s0:=ag ht0 (.tup [.str "say",.str "pick"])
     generalize upd H t0 (.tup [.str "say",.str "pick"])=H0 at s0 ⊢
     have hx:=s0 _ _ hx
     refine bq (fun _=>?_) (fun c=>absurd (show rS (.str "pick") _=true by decide) c)
     exact ⟨_,rfl,x,_,_,_,rfl,rfl,ar.of hx,rfl,Kh,fun l hl=>q l _ (aa s0 (ag hl _)) ae⟩
   | test c n o=>
     obtain ⟨u,⟨x,rfl,hx⟩,eu⟩:=hn
     refine ⟨_,rfl,x,_,_,_,rfl,rfl,ar.of hx,rfl,rfl,_,rfl,?_⟩
     refine bq (fun c=>absurd (of_decide_eq_true c) (by decide)) (fun _=>?_)
     refine ⟨_,rfl,x,_,_,_,rfl,rfl,ar.of hx,rfl,rfl,_,rfl,?_⟩
     refine bq (fun c=>absurd (of_decide_eq_true c) (by decide)) (fun _=>?_)
     refine ⟨_,rfl,x,_,_,_,rfl,rfl,ar.of hx,rfl,Ki,fun t0 ht0=>⟨t0,_,rfl,.inr (ar.of ae),rfl,rfl,_,rfl,?_⟩⟩
     have s0:=ag ht0 (.tup [.str "say",.str "pick"])
     generalize upd H t0 (.tup [.str "say",.str "pick"])=H0 at s0 ⊢
     have hx:=s0 _ _ hx
     refine bq (fun c=>absurd c (by decide)) (fun _=>?_)
     exact ⟨_,rfl,x,_,_,_,rfl,rfl,ar.of hx,rfl,_,rfl,x,_,_,_,rfl,rfl,ar.of hx,rfl,Ki,fun l hl=>q l _ (aa s0 (ag hl _)) ae⟩
theorem pR (s:Src K mg "leads_of" sLeads)  : aC P w K mg base "leads_of" ["node"] 1 eZ:=
 let ⟨f,fd,F,m⟩:=s
 ⟨f,fd,sI F ,F.kp,fg F fun _ _ _ _ _ _ _=>rfl,m⟩
/-! ### trees whose parts may lie at the top level -/
def jJ (K:D9)(H:Hp)(v:V)(xs:List V):Prop:=∃p,v=.ref p/\(H p=some (.tup xs)\/∀H',ar K H' p xs)
theorem jJ.keep {K:D9}{H H':Hp}{v:V}{xs:List V}(k:TK H H')(h:jJ K H v xs):jJ K H' v xs:=let ⟨p,e,z⟩:=h; ⟨p,e,z.elim (fun z=>.inl (k _ _ z)) .inr⟩
theorem jJ.sq {K:D9}{H:Hp}{v:V}{xs:List V}(h:jJ K H v xs):∃p,v=.ref p/\ar K H p xs:=let ⟨p,e,z⟩:=h; ⟨p,e,z.elim ar.of (fun z=>z H)⟩
theorem Tp.k {K:D9}{H:Hp}{v:V}{xs:List V}(h:Tp H v xs):jJ K H v xs:=let ⟨p,e,z⟩:=h; ⟨p,e,.inl z⟩
def EK (K:D9)(H:Hp):V->E->Prop
 | v,.num n=>jJ K H v [.str "number",.int n]
 | v,.box t x=>Tp H v [.str t,.str x]
 | v,.yes=>jJ K H v [.str "yes"]
 | v,.nt a=>∃x,jJ K H v [.str "not",x]/\EK K H x a
 | v,.two k a b=>∃x y,jJ K H v [.str k.str,x,y]/\EK K H x a/\EK K H y b
theorem EK.keep {K:D9}{H H':Hp}(k:TK H H'):∀{e:E} {v:V},EK K H v e->EK K H' v e
 | .num _,_,h=>jJ.keep k h
 | .box _ _,_,h=>Tp.keep k h
 | .yes,_,h=>jJ.keep k h
 | .nt _,_,⟨x,h,a⟩=>⟨x,h.keep k,EK.keep k a⟩
 | .two _ _ _,_,⟨x,y,h,a,b⟩=>⟨x,y,h.keep k,EK.keep k a,EK.keep k b⟩
theorem ej.ek {K:D9}{H:Hp}:∀{e:E} {v:V},ej H v e->EK K H v e
 | .num _,_,h=>Tp.k h
 | .box _ _,_,h=>h
 | .yes,_,h=>Tp.k h
 | .nt _,_,⟨x,h,a⟩=>⟨x,Tp.k h,ej.ek a⟩
 | .two _ _ _,_,⟨x,y,h,a,b⟩=>⟨x,y,Tp.k h,ej.ek a,ej.ek b⟩
/-- joined by both,in some way -/
inductive Bt:E->List E->Prop
 | one (e:E):Bt e [e]
 | two {a b:E} {xs ys:List E}:Bt a xs->Bt b ys->Bt (.two .both a b) (xs++ys)
theorem Bt.pos {e:E}{es:List E}(h:Bt e es):1<=es.length:=by
 induction h with
 | one e=>exact Ee _
 | two _ _ h1 h2=>rw [Eh]; omega
theorem Bt.dep {e:E}{es:List E}(h:Bt e es){d:Nat}(hd:∀x∈es,x.dep<=d):e.dep + 1<=d + es.length:=by
 induction h with
 | one e=>have:=hd e Fi; show e.dep + 1<=d + 1; omega
 | @two a b xs ys p1 p2 h1 h2=>
   have:=h1 fun x hx=>hd x (Gv _ hx)
   have:=h2 fun x hx=>hd x (EF _ hx)
   have:=p1.pos
   have:=p2.pos
   show max a.dep b.dep + 1 + 1<=d + (xs++ys).length
   rw [Eh]
   omega
abbrev sameE (x:Str):E:=.two .same (.box "mine" x) (.box "yours" x)
theorem Paired.take {α β:Type}{F:α->β->Prop}:∀{a:List α} {b:List β} (n:Nat),Paired F a b->Paired F (a.take n) (b.take n)
 | _,_,0,_=>by rw [E1,E1]; exact .nil
 | _,_,_ + 1,.nil=>.nil
 | _,_,n + 1,.cons r t=>.cons r (Paired.take n t)
theorem Paired.drop {α β:Type}{F:α->β->Prop}:∀{a:List α} {b:List β} (n:Nat),Paired F a b->Paired F (a.drop n) (b.drop n)
 | _,_,0,h=>by rw [FH,FH]; exact h
 | _,_,_ + 1,.nil=>.nil
 | _,_,n + 1,.cons _ t=>Paired.drop n t
abbrev sLedA:Stmt:=top 8
abbrev sWithN:Stmt:=top 9
abbrev sJoined:Stmt:=top 4
abbrev sAllOf:Stmt:=top 5
abbrev sBoxS:Stmt:=top 10
abbrev sAllS:Stmt:=top 11
abbrev sLevE:Stmt:=top 12
theorem qW (xs:List V)(k:Nat)(h:k<=xs.length):cJ xs none (some (k:Int))=xs.take k:=by
 unfold cJ
 have e2:HT.bf xs.length xs.length (some ((k:Nat):Int))=min k xs.length:=HT.dP _ _ _
 rw [e2,HT.lT,FH,FT,Hi h]
def iJ:Sp:=fun vs H Q _=>∃(v:V) (l:Addr) (e:Np) (ls:List Int),vs=[v,.ref l]/\aG H v e/\H l=some (.lst (ls.map V.int))/\ls.length=e.leads.length/\∀(v':V) (H':Hp),ah H H'->aG H' v' (e.led ls)->Q v' H'
/-- a node's tuple: what is ahead of its leads -/
theorem aG.parts {H:Hp}:∀{e:Np} {v:V},aG H v e->∃(p:Addr) (as:List V),v=.ref p/\H p=some (.tup (as++e.leads.map V.int))/\as≠[]/\as.length<=3/\∀(ls:List Int) (H':Hp) (p':Addr),TK H H'->ls.length=e.leads.length->H' p'=some (.tup (as++ls.map V.int))->aG H' (.ref p') (e.led ls)
 | .put x s n,_,⟨u,⟨p,rfl,h⟩,a⟩=>⟨p,[.str "put",.str x,u],rfl,h,(fun z=>nomatch z),(by show 3<=3; decide),fun ls H' p' k hl h'=>by
   match ls,hl with
   | [m],_=>exact ⟨u,⟨p',rfl,h'⟩,a.keep k⟩⟩
 | .say s n,_,⟨u,⟨p,rfl,h⟩,a⟩=>⟨p,[.str "say",u],rfl,h,(fun z=>nomatch z),(by show 2<=3; decide),fun ls H' p' k hl h'=>by
   match ls,hl with
   | [m],_=>exact ⟨u,⟨p',rfl,h'⟩,a.keep k⟩⟩
 | .test c n o,_,⟨u,⟨p,rfl,h⟩,a⟩=>⟨p,[.str "test",u],rfl,h,(fun z=>nomatch z),(by show 2<=3; decide),fun ls H' p' k hl h'=>by
   match ls,hl with
   | [m,m2],_=>exact ⟨u,⟨p',rfl,h'⟩,a.keep k⟩⟩
 | .pick x n,_,⟨p,rfl,h⟩=>⟨p,[.str "pick",.str x],rfl,h,(fun z=>nomatch z),(by show 2<=3; decide),fun ls H' p' k hl h'=>by
   match ls,hl with
   | [m],_=>exact ⟨p',rfl,h'⟩⟩
 | .fin,_,⟨p,rfl,h⟩=>⟨p,[.str "end"],rfl,h,(fun z=>nomatch z),by decide,fun ls H' p' k hl h'=>by
   match ls,hl with
   | [],_=>exact ⟨p',rfl,h'⟩⟩
theorem Np.leads2:∀e:Np,e.leads.length<=2
 | .put _ _ _=>(by decide:1<=2) | .say _ _=>(by decide:1<=2) | .test _ _ _=>(by decide:2<=2) | .pick _ _=>(by decide:1<=2) | .fin=>(by decide:0<=2)
theorem zw:az ["node","leads"] ["node","leads"] (af sLedA):=⟨rfl,rfl,rfl,by decide +kernel,rfl,by decide +kernel,by decide +kernel⟩
theorem jo:(af sLedA).names.lookup (Eb "len")=some .globalImplicit:=by decide +kernel
theorem lh:(af sLedA).names.lookup (Eb "tuple")=some .globalImplicit:=by decide +kernel
theorem vy {f:Addr}{fd:FuncData}(F:bQ K "led_anew" "led_anew" sLedA f fd)(m_len:mg "len"=none)(m_tuple:mg "tuple"=none):aI P w K mg base CX0 1 f fd ["node","leads"] iJ:=by
 refine F.ok zw (fun vs H Q E h=>?_) (fun cdv A outer s H vs Q E hr h=>?_)
 · obtain ⟨v,l,e,ls,rfl,_⟩:=h
   rfl
 · obtain ⟨v,l,e,ls,rfl,na,hl,ll,q⟩:=h
   obtain ⟨p,as,rfl,hp,asn,as3,mk⟩:=na.parts
   have e2:=e.leads2
   have lt:(as++e.leads.map V.int).length=as.length + e.leads.length:=by rw [Eh,Ea]
   refine cu ⟨_,(Ij (Im (IB L3.mT (L3.CV (Ib 0) (IB Jj (Iy IP jo m_len Es (Ic (Ib 0) Ie)) (Iy IP jo m_len Es (Ic (Ib 1) Ie)))) (Jb Jr lh m_tuple (by decide +kernel) (Ic (Ib 1) Ie))))),?_⟩
   refine ⟨_,rfl,_,rfl,p,_,rfl,.inr (ar.of hp),_,rfl,l,_,rfl,.inl (aA.of hl),_,_,rfl,rfl,_,rfl,?_⟩
   have ek:(((as++e.leads.map V.int).length:Int) - ((ls.map V.int).length:Int))=((as.length:Nat):Int):=by rw [lt,Ea,ll]; omega
   rw [ek]
   have ec:cJ (as++e.leads.map V.int) none (some ((as.length:Nat):Int))=as:=by rw [qW _ _ (by omega),List.take_left]
   have i1:HT.bf (as++e.leads.map V.int).length (as++e.leads.map V.int).length (some ((as.length:Nat):Int))=min as.length (as++e.leads.map V.int).length:=HT.dP _ _ _
   have last:∀(a1:Addr) (H1:Hp),ah H H1->H1 a1=some (.tup as)->∃p1 ys,[V.ref l]=[.ref p1]/\aA K H1 p1 ys/\∀t1,H1 t1=none->tq K (.ref a1) (.ref t1) (upd H1 t1 (.tup ys)) Q:=fun a1 H1 s1 g1=>by
     refine ⟨l,_,rfl,aA.of (s1 _ _ hl),fun t1 ht1=>?_⟩
     have s2:=ag ht1 (.tup (ls.map V.int))
     have g2:(upd H1 t1 (.tup (ls.map V.int))) t1=some (.tup (ls.map V.int)):=ae
     generalize upd H1 t1 (.tup (ls.map V.int))=H2 at s2 g2 ⊢
     refine ⟨a1,t1,_,_,rfl,rfl,ar.of (s2 _ _ g1),ar.of g2,asn,EX (show _<=1000 by rw [Ea]; omega) (by decide),fun z=>?_,fun _ p' hp'=>?_⟩
     · refine q _ _ (aa s1 s2) (mk ls H2 a1 (ah.tk (aa s1 s2)) ll ?_)
       rw [z,E7]
       exact s2 _ _ g1
     · exact q _ _ (ck (aa s1 s2) hp') (mk ls _ p' (ah.tk (ck (aa s1 s2) hp')) ll ae)
   by_cases hw:e.leads=[]
   · refine .inr ⟨p,_,rfl,ar.of hp,⟨rfl,?_⟩,?_⟩
     · rw [i1,lt,hw]
       show min as.length (as.length + 0)=as.length + 0
       omega
     · have hp2:H p=some (.tup as):=by rw [hp,hw]; simp
       exact ⟨_,rfl,last p H (same_refl _) hp2⟩
   · refine .inl ⟨p,_,rfl,ar.of hp,fun z=>?_,fun a1 ha1=>?_⟩
     · have z2:=z.2
       have:0 < e.leads.length:=by
         cases h:e.leads with
         | nil=>exact absurd h hw
         | cons a l=>exact HY _
       rw [i1,lt] at z2
       omega
     · rw [ec]
       exact ⟨_,rfl,last a1 _ (ag ha1 _) ae⟩
theorem rK (s:Src K mg "led_anew" sLedA)(m_len:mg "len"=none)(m_tuple:mg "tuple"=none):aC P w K mg base "led_anew" ["node","leads"] 1 iJ:=
 let ⟨f,fd,F,m⟩:=s
 ⟨f,fd,vy F m_len m_tuple,F.kp,f6 F fun _ _ _ _ _ _ _ _=>rfl,m⟩
def e7:Sp:=fun vs H Q _=>∃(p n B I N:Addr) (vb vi:List V),vs=[.ref p,.ref n]/\H p=some (.tup [.ref B,.ref I,.ref N])/\H B=some (.lst vb)/\H I=some (.lst vi)/\∀(p' B' I':Addr) (H':Hp),ah H H'->H' p'=some (.tup [.ref B',.ref I',.ref n])->H' B'=some (.lst vb)->H' I'=some (.lst vi)->H B'=none->H I'=none->B'≠I'->Q (.ref p') H'
theorem v8:az ["program","nodes"] ["program","nodes"] (af sWithN):=⟨rfl,rfl,rfl,by decide +kernel,rfl,by decide +kernel,by decide +kernel⟩
theorem fT:(af sWithN).names.lookup (Eb "list")=some .globalImplicit:=by decide +kernel
theorem sN {f:Addr}{fd:FuncData}(F:bQ K "with_nodes" "with_nodes" sWithN f fd)(m_list:mg "list"=none):aI P w K mg base CX0 1 f fd ["program","nodes"] e7:=by
 refine F.ok v8 (fun vs H Q E h=>?_) (fun cdv A outer s H vs Q E hr h=>?_)
 · obtain ⟨p,n,B,I,N,vb,vi,rfl,_⟩:=h
   rfl
 · obtain ⟨p,n,B,I,N,vb,vi,rfl,hp,hB,hI,q⟩:=h
   refine cu ⟨_,(Ij (Im (IA (Ic (Jb Jp fT m_list (by decide +kernel) (Ic (Ii Ik (Ib 0) Ig) Ie)) (Ic (Jb Jp fT m_list (by decide +kernel) (Ic (Ii Ik (Ib 0) Ig) Ie)) (Ic (Ib 1) Ie)))))),?_⟩
   refine ⟨_,rfl,p,_,_,_,rfl,rfl,ar.of hp,rfl,B,_,rfl,.inl (aA.of hB),fun B' hB'=>?_⟩
   have sb:ah H (upd H B' (.lst vb)):=ag hB' _
   have gb:(upd H B' (.lst vb)) B'=some (.lst vb):=ae
   generalize upd H B' (.lst vb)=H1 at sb gb ⊢
   refine ⟨_,rfl,p,_,_,_,rfl,rfl,ar.of (sb _ _ hp),rfl,I,_,rfl,.inl (aA.of (sb _ _ hI)),fun I' hI'=>?_⟩
   have si:ah H1 (upd H1 I' (.lst vi)):=ag hI' _
   have gi:(upd H1 I' (.lst vi)) I'=some (.lst vi):=ae
   generalize upd H1 I' (.lst vi)=H2 at si gi ⊢
   refine ⟨_,rfl,Kj,fun p' hp'=>?_⟩
   have s3:=ag hp' (.tup [.ref B',.ref I',.ref n])
   exact q p' B' I' _ (aa sb (aa si s3)) ae (s3 _ _ (si _ _ gb)) (s3 _ _ gi) hB' (ai sb hI') (au gb hI')
theorem pU (s:Src K mg "with_nodes" sWithN)(m_list:mg "list"=none):aC P w K mg base "with_nodes" ["program","nodes"] 1 e7:=
 let ⟨f,fd,F,m⟩:=s
 ⟨f,fd,sN F m_list,F.kp,f6 F fun _ _ _ _ _ _ _ _=>rfl,m⟩
def df (K:D9)(n:Nat):Sp:=fun vs H Q _=>∃(l:Addr) (us:List V) (es:List E),vs=[.str "both",.ref l]/\H l=some (.lst us)/\Paired (EK K H) us es/\1<=us.length/\us.length < n/\n<=900/\∀(v:V) (e:E) (H':Hp),ah H H'->EK K H' v e->Bt e es->Q v H'
theorem lJ {f:Addr}{fd:FuncData}:aI P w K mg base CX0 1 f fd ["word","parts"] ((df K) 0):=by
 have no:∀vs H Q E,¬ (df K) 0 vs H Q E:=fun vs H Q E h=>by
   obtain ⟨l,us,es,_,_,_,_,h,_⟩:=h
   omega
 exact ⟨fun vs H Q E h=>absurd h (no vs H Q E),fun A outer s H args us vs Q E _ _ _ _ h=>absurd h (no vs H Q E)⟩
theorem lU:az ["word","parts","half"] ["word","parts"] (af sJoined):=⟨rfl,rfl,rfl,by decide +kernel,rfl,by decide +kernel,by decide +kernel⟩
theorem cy:(af sJoined).names.lookup (Eb "joined_by")=some .globalImplicit:=by decide +kernel
theorem fR:(af sJoined).names.lookup (Eb "len")=some .globalImplicit:=by decide +kernel
theorem xB (xs:List V)(k:Nat)(h:k<=xs.length):cJ xs (some (k:Int)) none=xs.drop k:=by
 unfold cJ
 have e2:HT.bf xs.length 0 (some ((k:Nat):Int))=min k xs.length:=HT.dP _ _ _
 rw [e2,HT.lT,Hi h,EI (by rw [Fg]; omega)]
theorem qm {n:Nat}{f:Addr}{fd:FuncData}(F:bQ K "joined_by" "joined_by" sJoined f fd)(m_len:mg "len"=none)(G:aC P w K mg base "joined_by" ["word","parts"] (n + 1) (df K n)):aI P w K mg base CX0 (n + 1 + 1) f fd ["word","parts"] (df K (n + 1)):=by
 refine F.ok lU (fun vs H Q E h=>?_) (fun cdv A outer s H vs Q E hr h=>?_)
 · obtain ⟨l,us,es,rfl,_⟩:=h
   rfl
 · obtain ⟨l,us,es,rfl,hl,pe,l1,ln,n9,q⟩:=h
   refine cu ⟨_,(Ih (Iv (Iu Iz (Iy IP fR m_len Es (Ic (Ib 1) Ie)) Ig) (Ij (Im (Ii IG (Ib 1) Ig))) Iw)
     (Ih (Io 2 lU.nd (IB L3.oq (Iy IP fR m_len Es (Ic (Ib 1) Ie)) Ig))
     (Ij (Im (IA (Ic (Ib 0) (Ic (Il G hr cy (Ic (Ib 0) (Ic (L3.v9 (Ib 1) (Ib 2)) Ie))) (Ic (Il G hr cy (Ic (Ib 0) (Ic (L3.CW (Ib 1) (Ib 2)) Ie))) Ie)))))))),?_⟩
   refine ao fun Rk kR=>?_
   refine ⟨_,rfl,l,_,rfl,.inl (aA.of hl),rfl,_,rfl,?_⟩
   refine bq (fun c=>?_) (fun c=>?_)
   · have c1:us.length=1:=by
       have:=ya c
       omega
     match us,es,pe,hl,c1 with
     | [u],[e],.cons r .nil,hl,_=>exact ⟨_,rfl,l,_,_,_,rfl,rfl,aA.of hl,fZ,q _ e _ (same_refl _) r (.one e)⟩
   have c1:us.length≠1:=fun z=>c (decide_eq_true (by rw [z]; rfl))
   refine kR _ _ ?_
   refine ao fun Rk kR=>?_
   refine ⟨_,rfl,l,_,rfl,.inl (aA.of hl),_,_,rfl,rfl,⟨by decide,by decide +kernel⟩,?_⟩
   refine aj ?_
   refine kR _ _ ?_
   refine aq [some (.str "both"),some (.ref l),some (.int ((us.length / 2:Nat):Int))] (by show [some (V.str "both"),some (V.ref l),some (V.int ((us.length:Int) / 2))]=_; rw [show (us.length:Int) / 2=((us.length / 2:Nat):Int) by omega]) ?_
   refine ⟨_,rfl,_,rfl,_,rfl,_,rfl,_,rfl,l,_,rfl,aA.of hl,fun a1 ha1=>?_⟩
   rw [qW _ _ (by omega)]
   have s1:=ag ha1 (.lst (us.take (us.length / 2)))
   have g1:(upd H a1 (.lst (us.take (us.length / 2)))) a1=some (.lst (us.take (us.length / 2))):=ae
   generalize upd H a1 (.lst (us.take (us.length / 2)))=H1 at s1 g1 ⊢
   refine ⟨a1,_,es.take (us.length / 2),rfl,g1,Paired.take _ (Paired.mapP pe fun _ _ z=>EK.keep (ah.tk s1) z),by rw [Eo]; omega,by rw [Eo]; omega,by omega,fun v1 e1 H2 s2 ek1 bt1=>?_⟩
   refine ⟨_,rfl,_,rfl,_,rfl,_,rfl,l,_,rfl,aA.of (s2 _ _ (s1 _ _ hl)),fun a2 ha2=>?_⟩
   rw [xB _ _ (by omega)]
   have s3:=ag ha2 (.lst (us.drop (us.length / 2)))
   have g3:(upd H2 a2 (.lst (us.drop (us.length / 2)))) a2=some (.lst (us.drop (us.length / 2))):=ae
   generalize upd H2 a2 (.lst (us.drop (us.length / 2)))=H3 at s3 g3 ⊢
   refine ⟨a2,_,es.drop (us.length / 2),rfl,g3,Paired.drop _ (Paired.mapP pe fun _ _ z=>EK.keep (ah.tk (aa s1 (aa s2 s3))) z),by rw [Fg]; omega,by rw [Fg]; omega,by omega,fun v2 e2 H4 s4 ek2 bt2=>⟨Kj,fun p hp=>?_⟩⟩
   have sp:=ag hp (.tup [.str "both",v1,v2])
   have bt:=Bt.two bt1 bt2
   rw [Gp] at bt
   exact q _ (.two .both e1 e2) _ (ck (aa (aa s1 s2) (aa s3 s4)) hp) ⟨v1,v2,Tp.k ⟨p,rfl,ae⟩,EK.keep (ah.tk (aa (aa s3 s4) sp)) ek1,EK.keep (ah.tk sp) ek2⟩ bt
theorem mL (s:Src K mg "joined_by" sJoined)(m_len:mg "len"=none):∀n:Nat,aC P w K mg base "joined_by" ["word","parts"] (n + 1) ((df K) n):=by
 obtain ⟨f,fd,F,m⟩:=s
 have b:Binds K fd ["word","parts"] []:=f6 F fun _ _ _ _ _ _ _ _=>rfl
 intro n
 have all:aI P w K mg base CX0 (n + 1) f fd ["word","parts"] ((df K) n):=by
   induction n with
   | zero=>exact lJ
   | succ n ih=>exact qm F m_len ⟨f,fd,ih,F.kp,b,m⟩
 exact ⟨f,fd,all,F.kp,b,m⟩
def gP (K:D9):Sp:=fun vs H Q _=>∃(l:Addr) (us:List V) (es:List E),vs=[.ref l]/\H l=some (.lst us)/\Paired (EK K H) us es/\1<=us.length/\us.length<=5/\∀(v:V) (e:E) (H':Hp),ah H H'->EK K H' v e->Bt e es->Q v H'
theorem v5:az ["conditions"] ["conditions"] (af sAllOf):=⟨rfl,rfl,rfl,by decide +kernel,rfl,by decide +kernel,by decide +kernel⟩
theorem fz:(af sAllOf).names.lookup (Eb "joined_by")=some .globalImplicit:=by decide +kernel
theorem sG {f:Addr}{fd:FuncData}(F:bQ K "all_of" "all_of" sAllOf f fd)(J:aC P w K mg base "joined_by" ["word","parts"] 7 (df K 6)):aI P w K mg base CX0 8 f fd ["conditions"] (gP K):=by
 refine F.ok v5 (fun vs H Q E h=>?_) (fun cdv A outer s H vs Q E hr h=>?_)
 · obtain ⟨l,us,es,rfl,_⟩:=h
   rfl
 · obtain ⟨l,us,es,rfl,hl,pe,l1,l5,q⟩:=h
   refine cu ⟨_,(Ij (Im (Il J hr fz (Ic Ip (Ic (Ib 0) Ie))))),?_⟩
   exact ⟨_,rfl,l,us,es,rfl,hl,pe,l1,by omega,by decide,q⟩
theorem pQ (s:Src K mg "all_of" sAllOf)(J:aC P w K mg base "joined_by" ["word","parts"] 7 (df K 6)):aC P w K mg base "all_of" ["conditions"] 8 (gP K):=
 let ⟨f,fd,F,m⟩:=s
 ⟨f,fd,sG F J,F.kp,fg F fun _ _ _ _ _ _ _=>rfl,m⟩
def kD (K:D9):Sp:=fun vs H Q _=>∃(l:Addr) (ns:List Str),vs=[.ref l]/\H l=some (.lst (ns.map V.str))/\ns.length<=4/\∀(v:V) (e:E) (H':Hp),ah H H'->EK K H' v e->Bt e (.yes :: ns.map sameE)->Q v H'
theorem zp:az ["names"] ["names"] (af sBoxS):=⟨rfl,rfl,rfl,by decide +kernel,rfl,by decide +kernel,by decide +kernel⟩
theorem pF:(af sBoxS).names.lookup (Eb "YES")=some .globalImplicit:=by decide +kernel
theorem jP:(af sBoxS).names.lookup (Eb "all_of")=some .globalImplicit:=by decide +kernel
theorem vq {tY:Addr}{f:Addr}{fd:FuncData}(F:bQ K "boxes_same" "boxes_same" sBoxS f fd)(mY:mg "YES"=some (.ref tY))(cY:∀H:Hp,ar K H tY [.str "yes"])(AO:aC P w K mg base "all_of" ["conditions"] 8 (gP K)):aI P w K mg base CX0 9 f fd ["names"] (kD K):=by
 refine F.ok zp (fun vs H Q E h=>?_) (fun cdv A outer s H vs Q E hr h=>?_)
 · obtain ⟨l,ns,rfl,_⟩:=h
   rfl
 · obtain ⟨l,ns,rfl,hl,n4,q⟩:=h
   refine cu ⟨_,(Ij (Im (Il AO hr jP (Ic (IB Js (ID (Ic (L3.glob (w:=.ref tY) pF mY rfl) Ie)) (IS [none] ["name"] (show av _ (af sBoxS) from ⟨rfl,by decide +kernel,by decide +kernel,by decide +kernel⟩) (by rfl) (IQ (Ib 0)) (fun _ _ _ _ _=>⟨(Iq 0 (show (["name"]:List Str).Nodup from by decide +kernel)),IX,(IA (Ic Ip (Ic (IA (Ic Ip (Ic (Ib 0) Ie))) (Ic (IA (Ic Ip (Ic (Ib 0) Ie))) Ie))))⟩))) Ie)))),?_⟩
   refine ⟨Kh,fun l1 hl1=>?_⟩
   have s1:ah H (upd H l1 (.lst [.ref tY])):=ag hl1 _
   have g1:(upd H l1 (.lst [.ref tY])) l1=some (.lst [.ref tY]):=ae
   generalize upd H l1 (.lst [.ref tY])=H1 at s1 g1 ⊢
   have hl':=s1 _ _ hl
   refine ⟨_,rfl,l,rfl,⟨_,aA.of hl'⟩,fun D hD=>?_⟩
   refine aV (xs:=ns.map V.str) (fun i Hx=>ah H1 Hx/\∃us,Hx D=some (.lst us)/\us.length=i/\Paired (EK K Hx) us ((ns.take i).map sameE)) ⟨ag hD _,[],ae,rfl,.nil⟩ (fun i Hx _ z=>aA.of (z.1 _ _ hl')) (fun i x0 Hx hx z=>?_) (fun Hx z=>?_)
   · obtain ⟨sx,us,gD,ul,pe⟩:=z
     have hil:=(List.getElem?_eq_some_iff.mp hx).1
     rw [Ea] at hil
     obtain ⟨xn,hxn,rfl⟩:=aT hx
     refine aj ?_
     refine bL (A:=fun H5=>cj _ D _ H5 _) ?_
     refine ⟨_,rfl,Ki,fun a1 ha1=>⟨_,rfl,Ki,fun a2 ha2=>⟨Kj,fun a3 ha3=>?_⟩⟩⟩
     have sa3:=ag ha3 (.tup [.str "same",.ref a1,.ref a2])
     have sa2:=aa (ag ha2 (.tup [.str "yours",.str xn])) sa3
     have sa:=aa (ag ha1 (.tup [.str "mine",.str xn])) sa2
     have gDa:=sa _ _ gD
     have k1:=sa2 a1 (.tup [.str "mine",.str xn]) ae
     have k2:=sa3 a2 (.tup [.str "yours",.str xn]) ae
     have k3:(upd (upd (upd Hx a1 (.tup [.str "mine",.str xn])) a2 (.tup [.str "yours",.str xn])) a3 (.tup [.str "same",.ref a1,.ref a2])) a3=some (.tup [.str "same",.ref a1,.ref a2]):=ae
     generalize upd (upd (upd Hx a1 (.tup [.str "mine",.str xn])) a2 (.tup [.str "yours",.str xn])) a3 (.tup [.str "same",.ref a1,.ref a2])=Hy at sa gDa k1 k2 k3 ⊢
     have tk9:TK Hy (upd Hy D (.lst (us++[.ref a3]))):=TW.TK.lst gDa
     refine ⟨us,gDa,ax (by omega),aF (Pv:=fun i Hx=>ah H1 Hx/\∃us,Hx D=some (.lst us)/\us.length=i/\Paired (EK K Hx) us ((ns.take i).map sameE)) (by repeat' constructor) (by rw [Ea]; exact hil) ⟨aE (aa sx sa) hD,us++[.ref a3],ae,by rw [Eh,ul]; rfl,?_⟩⟩
     rw [Er,hxn,En]
     exact Paired.snoc (Paired.mapP pe fun _ _ z=>EK.keep ((ah.tk sa).trans tk9) z) ⟨_,_,Tp.k ⟨a3,rfl,tk9 _ _ k3⟩,⟨a1,rfl,tk9 _ _ k1⟩,⟨a2,rfl,tk9 _ _ k2⟩⟩
   obtain ⟨sx,us,gD,ul,pe⟩:=z
   rw [Ea] at ul
   rw [Ea,EL] at pe
   refine ⟨l1,D,_,_,rfl,rfl,sx _ _ g1,gD,small (by rw [FP]; omega),fun r hr2=>?_⟩
   have sr:=ag hr2 (.lst ([.ref tY]++us))
   refine ⟨r,_,.yes :: ns.map sameE,rfl,ae,.cons ⟨tY,rfl,.inr cY⟩ (Paired.mapP pe fun _ _ z=>EK.keep (ah.tk sr) z),by rw [Eh,FP]; omega,by rw [Eh,FP]; omega,fun v e H' s' ek bt=>?_⟩
   exact q v e H' (aa (ck (aa s1 sx) hr2) s') ek bt
theorem rG {tY:Addr}(s:Src K mg "boxes_same" sBoxS)(mY:mg "YES"=some (.ref tY))(cY:∀H:Hp,ar K H tY [.str "yes"])(AO:aC P w K mg base "all_of" ["conditions"] 8 (gP K)):aC P w K mg base "boxes_same" ["names"] 9 (kD K):=
 let ⟨f,fd,F,m⟩:=s
 ⟨f,fd,vq F mY cY AO,F.kp,fg F fun _ _ _ _ _ _ _=>rfl,m⟩
def kC (K:D9):Sp:=fun vs H Q _=>∃(p B I N:Addr) (vb:List V) (bs:List (Str×Int)),vs=[.ref p]/\H p=some (.tup [.ref B,.ref I,.ref N])/\H B=some (.lst vb)/\Paired (cw H) vb bs/\bs.length<=4/\∀(v:V) (e:E) (H':Hp),ah H H'->EK K H' v e->Bt e (.yes :: (bs.map (·.1)).map sameE)->Q v H'
theorem zo:az ["program"] ["program"] (af sAllS):=⟨rfl,rfl,rfl,by decide +kernel,rfl,by decide +kernel,by decide +kernel⟩
theorem fA:(af sAllS).names.lookup (Eb "boxes_same")=some .globalImplicit:=by decide +kernel
theorem vp {f:Addr}{fd:FuncData}(F:bQ K "all_same" "all_same" sAllS f fd)(BS:aC P w K mg base "boxes_same" ["names"] 9 (kD K)):aI P w K mg base CX0 10 f fd ["program"] (kC K):=by
 refine F.ok zo (fun vs H Q E h=>?_) (fun cdv A outer s H vs Q E hr h=>?_)
 · obtain ⟨p,B,I,N,vb,bs,rfl,_⟩:=h
   rfl
 · obtain ⟨p,B,I,N,vb,bs,rfl,hp,hB,pb,b4,q⟩:=h
   have vl:=Paired.length pb
   refine cu ⟨_,(Ij (Im (Il BS hr fA (Ic (IS [none,none] ["name","size"] (show av _ (af sAllS) from ⟨rfl,by decide +kernel,by decide +kernel,by decide +kernel⟩) (by rfl) (IQ (Ii Ik (Ib 0) Ig)) (fun _ _ _ _ _=>⟨(IU 2 (IC (Iq 0 (show (["name","size"]:List Str).Nodup from by decide +kernel)) (IC (Iq 1 (show (["name","size"]:List Str).Nodup from by decide +kernel)) IV))),IX,(Ib 0)⟩)) Ie)))),?_⟩
   refine ⟨_,rfl,p,_,_,_,rfl,rfl,ar.of hp,rfl,B,rfl,⟨_,aA.of hB⟩,fun D hD=>?_⟩
   refine aV (xs:=vb) (fun i Hx=>ah H Hx/\Hx D=some (.lst (((bs.take i).map (·.1)).map V.str))) ⟨ag hD _,ae⟩ (fun i Hx _ z=>aA.of (z.1 _ _ hB)) (fun i x0 Hx hx z=>?_) (fun Hx z=>?_)
   · obtain ⟨sx,gD⟩:=z
     have hil:=(List.getElem?_eq_some_iff.mp hx).1
     obtain ⟨b,hbi,pp,rfl,hpp⟩:=Paired.get pb hx
     refine ⟨pp,_,rfl,ar.of (sx _ _ hpp),rfl,_,_,rfl,_,_,rfl,rfl,?_⟩
     refine bL (A:=fun H5=>cj _ D _ H5 _) ?_
     refine ⟨_,rfl,_,gD,ax (by rw [Ea,Ea,Eo]; omega),aF (Pv:=fun i Hx=>ah H Hx/\Hx D=some (.lst (((bs.take i).map (·.1)).map V.str))) (by repeat' constructor) hil ⟨aE sx hD,?_⟩⟩
     rw [ae,Er,hbi,En,En]
     rfl
   obtain ⟨sx,gD⟩:=z
   rw [vl,EL] at gD
   exact ⟨D,_,rfl,gD,by rw [Ea]; omega,fun v e H' s' ek bt=>q v e H' (aa sx s') ek bt⟩
theorem rF (s:Src K mg "all_same" sAllS)(BS:aC P w K mg base "boxes_same" ["names"] 9 (kD K)):aC P w K mg base "all_same" ["program"] 10 (kC K):=
 let ⟨f,fd,F,m⟩:=s
 ⟨f,fd,vp F BS,F.kp,fg F fun _ _ _ _ _ _ _=>rfl,m⟩
def Np.hd:Np->Str
 | .put _ _ _=>"put" | .say _ _=>"say" | .test _ _ _=>"test" | .pick _ _=>"pick" | .fin=>"end"
theorem aG.head {H:Hp}:∀{e:Np} {v:V},aG H v e->∃(p:Addr) (as:List V),v=.ref p/\H p=some (.tup (.str e.hd :: as))
 | .put _ _ _,_,⟨_,⟨p,h,a⟩,_⟩=>⟨p,_,h,a⟩
 | .say _ _,_,⟨_,⟨p,h,a⟩,_⟩=>⟨p,_,h,a⟩
 | .test _ _ _,_,⟨_,⟨p,h,a⟩,_⟩=>⟨p,_,h,a⟩
 | .pick _ _,_,⟨p,h,a⟩=>⟨p,_,h,a⟩
 | .fin,_,⟨p,h,a⟩=>⟨p,_,h,a⟩
/-- an entry by which both step,or end -/
abbrev Lv:=Int×Int×Str×Nat×V
def kJ (h:Str):Str:=if h="end" then ("end":Str) else if h="mine" then ("mine":Str) else "both"
def bE (_tO:Addr)(H:Hp)(v u:V)(e:Lv):Prop:=Tp H v [.int e.1,.int e.2.1,u,.str (kJ e.2.2.1),e.2.2.2.2]
theorem oS (e:Np):kJ e.hd=(if e.hd="end" then ("end":Str) else "both"):=by cases e <;> rfl
theorem bE.keep {tO:Addr}{H H':Hp}(k:TK H H'){v u:V}{e:Lv}(h:bE tO H v u e):bE tO H' v u e:=Tp.keep k h
def iK (tO:Addr):Sp:=fun vs H Q _=>∃(p B I N:Addr) (vn:List V) (e:Np) (j:Nat) (n:Int) (u x:V),vs=[.ref p,.int (j:Int),.int n,u]/\H p=some (.tup [.ref B,.ref I,.ref N])/\H N=some (.lst vn)/\vn[j]? = some x/\aG H x e/\∀(v:V) (H':Hp),ah H H'->bE tO H' v u ((j:Int),n,e.hd,0,.ref tO)->Q v H'
theorem tN:az ["program","place","new_place","condition","who"] ["program","place","new_place","condition"] (af sLevE):=⟨rfl,rfl,rfl,by decide +kernel,rfl,by decide +kernel,by decide +kernel⟩
theorem jU:(af sLevE).names.lookup (Eb "NOUGHT")=some .globalImplicit:=by decide +kernel
theorem vz {tO:Addr}{f:Addr}{fd:FuncData}(F:bQ K "level_entry" "level_entry" sLevE f fd)(mO:mg "NOUGHT"=some (.ref tO)):aI P w K mg base CX0 1 f fd ["program","place","new_place","condition"] (iK tO):=by
 refine F.ok tN (fun vs H Q E h=>?_) (fun cdv A outer s H vs Q E hr h=>?_)
 · obtain ⟨p,B,I,N,vn,e,j,n,u,x,rfl,_⟩:=h
   rfl
 · obtain ⟨p,B,I,N,vn,e,j,n,u,x,rfl,hp,hN,hx,na,q⟩:=h
   obtain ⟨px,as,rfl,hpx⟩:=na.head
   refine cu ⟨_,(Ih (Io 4 tN.nd (L3.Di (Iu Iz (Ii Ik (Ii IG (Ii Ik (Ib 0) Ig) (Ib 1)) Ig) Ip) Ip Ip))
     (Ij (Im (IA (Ic (Ib 1) (Ic (Ib 2) (Ic (Ib 3) (Ic (Ib 4) (Ic (L3.glob (w:=.ref tO) jU mO rfl) Ie))))))))),?_⟩
   refine ao fun Rk kR=>?_
   refine ⟨_,rfl,p,_,_,_,rfl,rfl,ar.of hp,rfl,_,rfl,N,_,_,_,rfl,rfl,aA.of hN,aM hx,px,_,_,_,rfl,rfl,ar.of hpx,fZ,rfl,_,rfl,?_⟩
   have fin:Rk [some (.ref p),some (.int (j:Int)),some (.int n),some u,some (.str (if e.hd="end" then "end" else "both"))] H:=by
     refine kR _ _ ?_
     exact ⟨_,rfl,_,rfl,_,rfl,_,rfl,Kl,fun p5 hp5=>q _ _ (ag hp5 _) ⟨p5,rfl,by show _=some (HO.tup [_,_,_,.str (kJ e.hd),_]); rw [oS]; exact ae⟩⟩
   refine bq (fun c=>?_) (fun c=>?_)
   · have c:e.hd="end":=by
       have:=of_decide_eq_true c
       injection this
     rw [if_pos c] at fin
     refine aj ?_
     exact fin
   · have c:¬ e.hd="end":=fun z=>c (decide_eq_true (congrArg V.str z))
     rw [if_neg c] at fin
     refine aj ?_
     exact fin
theorem rL {tO:Addr}(s:Src K mg "level_entry" sLevE)(mO:mg "NOUGHT"=some (.ref tO)):aC P w K mg base "level_entry" ["program","place","new_place","condition"] 1 (iK tO):=
 let ⟨f,fd,F,m⟩:=s
 ⟨f,fd,vz F mO,F.kp,oW F fun _ _ _ _ _ _ _ _ _ _=>rfl,m⟩
end
end TW
set_option Elab.async false
set_option linter.all false
set_option maxRecDepth 100000
set_option exponentiation.threshold 4000
set_option maxHeartbeats 1000000
namespace TW
open PySem L2
section
variable {P:Program}{w:World}{K:D9}{mg:Str->Option Value}{base:Heap}
/-! ### nodes that do nothing,pure -/
def E.isBox:E->Str->Bool
 | .box t y,x=>decide (t="box") && decide (y=x)
 | _,_=>false
def Np.idle:Np->Option Int
 | .put x e n=>if e.isBox x=true then some n else none
 | .test _ n o=>if n=o then some n else none
 | _=>none
def iQ (nds:List Np)(p:Nat):Option Nat:=(nds[p]?.bind Np.idle).map Int.toNat
def cA (nds:List Np):Nat->Nat->Option Nat
 | 0,p=>some p
 | k + 1,p=>(cA nds k p).bind (iQ nds)
def mj (nds:List Np)(p:Nat):Bool:=(Ew nds.length).any fun k=>decide (cA nds (k + 1) p=some p)
def bN (nds:List Np)(p:Nat):Bool:=(iQ nds p).isNone || mj nds p
inductive Way (nds:List Np):Nat->Nat->Nat->Prop
 | here {p:Nat}:bN nds p=true->Way nds p p 0
 | on {p q r m:Nat}:bN nds p=false->iQ nds p=some q->Way nds q r m->Way nds p r (m + 1)
/-- all leads are nodes -/
def jd (nds:List Np):Prop:=∀e∈nds,∀l∈e.leads,0<=l/\l < (nds.length:Int)
theorem pW {e:Np}{n:Int}(h:e.idle=some n):n∈e.leads:=by
 cases e with
 | put x s m=>
   have h:(if s.isBox x=true then some m else none)=some n:=h
   split at h
   · cases h; exact List.mem_singleton.mpr rfl
   · cases h
 | test c m o=>
   have h:(if m=o then some m else none)=some n:=h
   split at h
   · cases h; exact List.mem_cons.mpr (.inl rfl)
   · cases h
 | say s m=>cases h
 | pick x m=>cases h
 | fin=>cases h
theorem ki {nds:List Np}{p q:Nat}(h:iQ nds p=some q):∃e n,nds[p]? = some e/\e.idle=some n/\q=n.toNat:=by
 unfold iQ at h
 obtain ⟨n,h1,h2⟩:=Option.map_eq_some_iff.mp h
 obtain ⟨e,h3,h4⟩:=Option.bind_eq_some_iff.mp h1
 exact ⟨e,n,h3,h4,h2.symm⟩
theorem lK {nds:List Np}{p:Nat}{e:Np}(h:nds[p]? = some e):iQ nds p=e.idle.map Int.toNat:=by
 unfold iQ
 rw [h]
 rfl
theorem eO {nds:List Np}(ok:jd nds){p:Nat}{e:Np}(h:nds[p]? = some e){n:Int}(hn:e.idle=some n):0<=n/\n < (nds.length:Int):=ok e (Ef h) n (pW hn)
theorem fV {nds:List Np}(ok:jd nds){p q:Nat}(h:iQ nds p=some q):q < nds.length:=by
 obtain ⟨e,n,h1,h2,rfl⟩:=ki h
 have:=eO ok h1 h2
 omega
theorem j8 (nds:List Np)(a:Nat)(p:Nat):∀b:Nat,cA nds (a + b) p=(cA nds a p).bind (cA nds b)
 | 0=>by
   show cA nds a p=_
   cases cA nds a p <;> rfl
 | b + 1=>by
   show (cA nds (a + b) p).bind (iQ nds)=_
   rw [j8 nds a p b]
   cases cA nds a p <;> rfl
theorem tK {nds:List Np}{p k:Nat}(k1:1<=k)(k2:k<=nds.length)(h:cA nds k p=some p):mj nds p=true:=by
 unfold mj
 refine List.any_eq_true.mpr ⟨k - 1,List.mem_range.mpr (by omega),decide_eq_true ?_⟩
 rw [Nat.sub_add_cancel k1]
 exact h
theorem oO {nds:List Np}{p:Nat}(h:mj nds p=true):bN nds p=true:=by unfold bN; rw [h,Bool.or_true]
theorem tZ {nds:List Np}{p:Nat}(h:bN nds p=false):∃q,iQ nds p=some q:=by
 unfold bN at h
 cases hq:iQ nds p with
 | none=>rw [hq] at h; cases h
 | some q=>exact ⟨q,rfl⟩
theorem om {nds:List Np}{p:Nat}(h:∀k,k<=nds.length->∃q,cA nds k p=some q/\q < nds.length/\bN nds q=false):False:=by
 let f:Nat->Nat:=fun i=>(cA nds i p).getD 0
 have fl:∀i,i<=nds.length->f i < nds.length:=fun i hi=>by
   obtain ⟨q,h1,h2,_⟩:=h i hi
   show (cA nds i p).getD 0 < _
   rw [h1]
   exact h2
 have nd:((Ew (nds.length + 1)).map f).Nodup:=by
   refine List.pairwise_iff_getElem.mpr fun i j hi hj hij e=>?_
   rw [Ea,EE] at hi hj
   rw [List.getElem_map,List.getElem_map,List.getElem_range,List.getElem_range] at e
   obtain ⟨q,h1,h2,h3⟩:=h i (by omega)
   obtain ⟨q',h1',_,_⟩:=h j (by omega)
   have e:(cA nds i p).getD 0=(cA nds j p).getD 0:=e
   rw [h1,h1'] at e
   have e:q=q':=e
   subst e
   have a:=j8 nds i p (j - i)
   rw [show i + (j - i)=j by omega,h1,h1'] at a
   have r:=tK (nds:=nds) (p:=q) (k:=j - i) (by omega) (by omega) a.symm
   rw [oO r] at h3
   cases h3
 have sub:∀x∈(Ew (nds.length + 1)).map f,x∈Ew nds.length:=fun x hx=>by
   obtain ⟨i,hi,rfl⟩:=List.mem_map.mp hx
   exact List.mem_range.mpr (fl i (by have:=List.mem_range.mp hi; omega))
 have:=sub_len nd sub
 rw [Ea,EE,EE] at this
 omega
theorem Way.its {nds:List Np}(ok:jd nds){p r m:Nat}(w:Way nds p r m)(hp:p < nds.length):r < nds.length/\bN nds r=true/\∀k,k < m->∃q,cA nds k p=some q/\q < nds.length/\bN nds q=false:=by
 induction w with
 | here h=>exact ⟨hp,h,fun k hk=>absurd hk (Hh _)⟩
 | @on p q r m h1 h2 w ih=>
   obtain ⟨a,b,c⟩:=ih (fV ok h2)
   refine ⟨a,b,fun k hk=>?_⟩
   cases k with
   | zero=>exact ⟨p,rfl,hp,h1⟩
   | succ k=>
     have z:=j8 nds 1 p k
     rw [Nat.add_comm] at z
     have e1:cA nds 1 p=some q:=h2
     rw [e1] at z
     rw [z]
     exact c k (by omega)
theorem Way.few {nds:List Np}(ok:jd nds){p r m:Nat}(w:Way nds p r m)(hp:p < nds.length):m<=nds.length:=by
 refine Nat.le_of_not_lt fun z=>?_
 exact om (p:=p) fun k hk=>(w.its ok hp).2.2 k (by omega)
theorem uh {nds:List Np}(ok:jd nds){p:Nat}(hp:p < nds.length):∃r m,Way nds p r m:=by
 refine Classical.byContradiction fun no=>?_
 have key:∀k,∃q,cA nds k p=some q/\q < nds.length/\∀r m,Way nds q r m->∃r' m',Way nds p r' m':=fun k=>by
   induction k with
   | zero=>exact ⟨p,rfl,hp,fun r m w=>⟨r,m,w⟩⟩
   | succ k ih=>
     obtain ⟨q,h1,h2,h3⟩:=ih
     have hs:bN nds q=false:=by
       cases z:bN nds q with
       | false=>rfl
       | true=>exact absurd (h3 q 0 (.here z)) no
     obtain ⟨q',hq⟩:=tZ hs
     refine ⟨q',?_,fV ok hq,fun r m w=>h3 r (m + 1) (.on hs hq w)⟩
     show (cA nds k p).bind (iQ nds)=_
     rw [h1]
     exact hq
 refine om (nds:=nds) (p:=p) fun k _=>?_
 obtain ⟨q,h1,h2,h3⟩:=key k
 refine ⟨q,h1,h2,?_⟩
 cases z:bN nds q with
 | false=>rfl
 | true=>exact absurd (h3 q 0 (.here z)) no
def qI (nds:List Np):Nat->Nat->Nat×Nat
 | 0,p=>(p,0)
 | f + 1,p=>if bN nds p=true then (p,0) else ((qI nds f ((iQ nds p).getD p)).1,(qI nds f ((iQ nds p).getD p)).2 + 1)
def aL (nds:List Np)(p:Nat):Nat×Nat:=qI nds nds.length p
theorem Way.fn {nds:List Np}{p r m:Nat}(w:Way nds p r m):∀f,m<=f->qI nds f p=(r,m):=by
 induction w with
 | here h=>
   intro f _
   cases f with
   | zero=>rfl
   | succ f=>unfold qI; rw [if_pos h]
 | on h1 h2 w ih=>
   intro f hf
   cases f with
   | zero=>omega
   | succ f=>
     unfold qI
     rw [if_neg (by rw [h1]; decide),h2]
     rw [Option.getD_some,ih f (by omega)]
theorem dG {nds:List Np}(ok:jd nds){p:Nat}(hp:p < nds.length):Way nds p (aL nds p).1 (aL nds p).2/\(aL nds p).1 < nds.length/\(aL nds p).2<=nds.length/\bN nds (aL nds p).1=true:=by
 obtain ⟨r,m,w⟩:=uh ok hp
 have e:=w.fn nds.length (w.few ok hp)
 have i:=w.its ok hp
 unfold aL
 rw [e]
 exact ⟨w,i.1,w.few ok hp,i.2.1⟩
theorem iO {nds:List Np}{p:Nat}(h:bN nds p=true):aL nds p=(p,0):=(Way.here h).fn _ (EC _)
theorem zH {nds:List Np}(ok:jd nds){p q:Nat}(hp:p < nds.length)(h:bN nds p=false)(hq:iQ nds p=some q):aL nds p=((aL nds q).1,(aL nds q).2 + 1):=by
 obtain ⟨r,m,w⟩:=uh ok (fV ok hq)
 have w2:=Way.on h hq w
 have e1:=w.fn nds.length (w.few ok (fV ok hq))
 have e2:=w2.fn nds.length (w2.few ok hp)
 unfold aL
 rw [e1,e2]
/-- the nodes that stay,in their new order; a node's new number -/
def aO (nds:List Np):List Nat:=(aL nds 0).1 :: (Ew nds.length).filter fun p=>bN nds p && decide (p≠(aL nds 0).1)
def cZ (nds:List Np)(p:Nat):Nat:=(aO nds).idxOf p
def cX (nds:List Np)(e:Np):List Int:=e.leads.map fun l=>((cZ nds (aL nds l.toNat).1:Nat):Int)
def bu (nds:List Np):List Np:=(aO nds).map fun p=>(nds.getD p .fin).led (cX nds (nds.getD p .fin))
theorem d9 (nds:List Np):(aO nds).Nodup:=by
 unfold aO
 refine List.nodup_cons.mpr ⟨fun z=>?_,List.Pairwise.filter _ List.nodup_range⟩
 have:=(List.mem_filter.mp z).2
 simp at this
theorem eP {nds:List Np}{p:Nat}(hp:p < nds.length)(h:bN nds p=true):p∈aO nds:=by
 unfold aO
 by_cases e:p=(aL nds 0).1
 · exact List.mem_cons.mpr (.inl e)
 · exact List.mem_cons.mpr (.inr (List.mem_filter.mpr ⟨List.mem_range.mpr hp,by rw [h]; exact decide_eq_true e⟩))
theorem gu {nds:List Np}(ok:jd nds)(h0:0 < nds.length){p:Nat}(h:p∈aO nds):p < nds.length/\bN nds p=true:=by
 unfold aO at h
 rcases List.mem_cons.mp h with e | z
 · have w:=dG ok h0
   rw [e]
   exact ⟨w.2.1,w.2.2.2⟩
 · have z:=List.mem_filter.mp z
   exact ⟨List.mem_range.mp z.1,(Fc _ _ ▸ z.2).1⟩
theorem ig {nds:List Np}(ok:jd nds)(h0:0 < nds.length):(aO nds).length<=nds.length:=by
 have:=sub_len (d9 nds) (fun x hx=>List.mem_range.mpr (gu ok h0 hx).1)
 rw [EE] at this
 exact this
theorem ir {nds:List Np}{p:Nat}(h:p∈aO nds):(aO nds)[cZ nds p]? = some p:=by
 unfold cZ
 have hl:=List.idxOf_lt_length_of_mem h
 rw [Eg hl,List.getElem_idxOf hl]
abbrev sIdN:Stmt:=top 13
abbrev sGoR:Stmt:=top 14
abbrev sLOn:Stmt:=top 15
abbrev sLId:Stmt:=top 39
theorem iteT' {c:Prop}[Decidable c]{a b:Prop}(h:c)(x:a):if c then a else b:=by rw [if_pos h]; exact x
theorem j7 (i:Int):decide (V.int i=V.aU)=false:=decide_eq_false fun z=>nomatch z
/-! ### idle_next -/
theorem xD {K:D9}{H:Hp}{a t0:Addr}{a0 x:Str}{y:V}{b1:Bool}{Q:VK}(ha:H a=some (.tup [.str a0,y]))(h0:H t0=some (.tup [.str "box",.str x]))(hy:EM K H y (.str x) b1)(q:Q (.bl (decide (a0="box") && b1)) H):qy K (.ref a) (.ref t0) H Q:=by
 refine ⟨a,t0,_,_,fun j=>match j with | 0=>decide (a0="box") | _=>b1,rfl,rfl,ar.of ha,ar.of h0,fun j u v hu hv=>?_,?_⟩
 · match j,hu,hv with
   | 0,hu,hv=>
     cases hu
     cases hv
     have z:=EM.flat (K:=K) (H:=H) (x:=.str a0) (y:=.str "box") rfl rfl
     have e:ft (.str a0) (.str "box")=decide (a0="box"):=by
       show (a0 == "box")=_
       rw [FC,beq_iff_eq,decide_eq_true_iff]
     rw [e] at z
     exact z
   | 1,hu,hv=>
     cases hu
     cases hv
     exact hy
 · show Q (.bl ((decide (a0="box") && (b1 && true)) && true)) H
   rw [HJ,HJ]
   exact q
theorem Cw {K:D9}{H:Hp}{a t0 y:Addr}{a0 x:Str}{z:V}{ws:List V}{Q:VK}(ha:H a=some (.tup [.str a0,.ref y,z]))(h0:H t0=some (.tup [.str "box",.str x]))(hy:H y=some (.tup ws))(q:Q (.bl false) H):qy K (.ref a) (.ref t0) H Q:=by
 refine ⟨a,t0,_,_,fun j=>match j with | 0=>ft (.str a0) (.str "box") | _=>false,rfl,rfl,ar.of ha,ar.of h0,fun j u v hu hv=>?_,?_⟩
 · match j,hu,hv with
   | 0,hu,hv=>
     cases hu
     cases hv
     exact EM.flat rfl rfl
   | 1,hu,hv=>
     cases hu
     cases hv
     exact EM.text (ar.of hy)
 · show Q (.bl (_ && false)) H
   rw [Gz]
   exact q
theorem Cv {K:D9}{H:Hp}{a t0:Addr}{a0 x:Str}{Q:VK}(ha:H a=some (.tup [.str a0]))(h0:H t0=some (.tup [.str "box",.str x]))(q:Q (.bl false) H):qy K (.ref a) (.ref t0) H Q:=by
 refine ⟨a,t0,_,_,fun _=>ft (.str a0) (.str "box"),rfl,rfl,ar.of ha,ar.of h0,fun j u v hu hv=>?_,?_⟩
 · match j,hu,hv with
   | 0,hu,hv=>
     cases hu
     cases hv
     exact EM.flat rfl rfl
 · show Q (.bl (_ && false)) H
   rw [Gz]
   exact q
theorem ej.tupd {H:Hp}:∀{e:E} {v:V},ej H v e->∃p xs,v=.ref p/\H p=some (.tup xs)
 | .num _,_,⟨p,e,h⟩=>⟨p,_,e,h⟩
 | .box _ _,_,⟨p,e,h⟩=>⟨p,_,e,h⟩
 | .yes,_,⟨p,e,h⟩=>⟨p,_,e,h⟩
 | .nt _,_,⟨_,⟨p,e,h⟩,_⟩=>⟨p,_,e,h⟩
 | .two _ _ _,_,⟨_,_,⟨p,e,h⟩,_⟩=>⟨p,_,e,h⟩
theorem nH {K:D9}{H:Hp}{t0:Addr}{x:Str}{Q:VK}:∀{s:E} {u:V},ej H u s->H t0=some (.tup [.str "box",.str x])->Q (.bl (s.isBox x)) H->qy K u (.ref t0) H Q
 | .num m,_,⟨p,e,h⟩,h0,q=>by
   subst e
   exact xD h h0 (EM.flat rfl rfl) q
 | .box t y,_,⟨p,e,h⟩,h0,q=>by
   subst e
   have z:=EM.flat (K:=K) (H:=H) (x:=.str y) (y:=.str x) rfl rfl
   have e:ft (.str y) (.str x)=decide (y=x):=by
     show (y == x)=_
     rw [FC,beq_iff_eq,decide_eq_true_iff]
   rw [e] at z
   exact xD h h0 z q
 | .yes,_,⟨p,e,h⟩,h0,q=>by
   subst e
   exact Cv h h0 q
 | .nt a,_,⟨x1,⟨p,e,h⟩,ea⟩,h0,q=>by
   subst e
   obtain ⟨p1,xs,rfl,h1⟩:=ea.tupd
   exact xD h h0 (EM.text (ar.of h1)) (by rw [Gz]; exact q)
 | .two k a b,_,⟨x1,y1,⟨p,e,h⟩,ea,eb⟩,h0,q=>by
   subst e
   obtain ⟨p1,xs,rfl,h1⟩:=ea.tupd
   exact Cw h h0 h1 q
def A5:Option Int->V
 | some n=>.int n
 | none=>.aU
def optN:Option Nat->V
 | some n=>.int (n:Int)
 | none=>.aU
theorem gH {nds:List Np}(ok:jd nds){p:Nat}{e:Np}(h:nds[p]? = some e):A5 e.idle=optN (iQ nds p):=by
 rw [lK h]
 cases hi:e.idle with
 | none=>rfl
 | some n=>
   have:=eO ok h hi
   show V.int n=V.int ((n.toNat:Nat):Int)
   rw [Fu this.1]
def eY:Sp:=fun vs H Q _=>∃(v:V) (e:Np),vs=[v]/\aG H v e/\∀H',ah H H'->Q (A5 e.idle) H'
theorem Bs:az ["node"] ["node"] (af sIdN):=⟨rfl,rfl,rfl,by decide +kernel,rfl,by decide +kernel,by decide +kernel⟩
theorem yy {f:Addr}{fd:FuncData}(F:bQ K "idle_next" "idle_next" sIdN f fd)  : aI P w K mg base CX0 1 f fd ["node"] eY:=by
 refine F.ok Bs (fun vs H Q E h=>?_) (fun cdv A outer s H vs Q E hr h=>?_)
 · obtain ⟨v,e,rfl,_⟩:=h
   rfl
 · obtain ⟨v,e,rfl,na,q⟩:=h
   refine cu ⟨_,(Ih (Iv (IJ (IY (Iu Iz (Ii Ik (Ib 0) Ig) Ip) (IZ (Iu (L3.wO (bz hr _ (by decide))) (Ii Ik (Ib 0) Ig) (IA (Ic Ip (Ic (Ii Ik (Ib 0) Ig) Ie))))))) (Ij (Im (Ii Ik (Ib 0) Ig))) Iw)
     (Ih (Iv (IJ (IY (Iu Iz (Ii Ik (Ib 0) Ig) Ip) (IZ (Iu Iz (Ii Ik (Ib 0) Ig) (Ii Ik (Ib 0) Ig))))) (Ij (Im (Ii Ik (Ib 0) Ig))) Iw)
     (Ij (Im I9)))),?_⟩
   refine ao fun Rk kR=>?_
   cases e with
   | fin=>
     obtain ⟨x,rfl,hx⟩:=na
     refine ⟨_,rfl,x,_,_,_,rfl,rfl,ar.of hx,rfl,rfl,_,rfl,iteF' (by decide) (iteF' (by decide) (kR _ _ ?_))⟩
     clear kR
     refine ao fun Rk kR=>?_
     refine ⟨_,rfl,x,_,_,_,rfl,rfl,ar.of hx,rfl,rfl,_,rfl,iteF' (by decide) (iteF' (by decide) (kR _ _ ?_))⟩
     clear kR
     exact q _ (same_refl _)
   | say s n=>
     obtain ⟨u,⟨x,rfl,hx⟩,eu⟩:=na
     refine ⟨_,rfl,x,_,_,_,rfl,rfl,ar.of hx,rfl,rfl,_,rfl,iteF' (by decide) (iteF' (by decide) (kR _ _ ?_))⟩
     clear kR
     refine ao fun Rk kR=>?_
     refine ⟨_,rfl,x,_,_,_,rfl,rfl,ar.of hx,rfl,rfl,_,rfl,iteF' (by decide) (iteF' (by decide) (kR _ _ ?_))⟩
     clear kR
     exact q _ (same_refl _)
   | pick s n=>
     obtain ⟨x,rfl,hx⟩:=na
     refine ⟨_,rfl,x,_,_,_,rfl,rfl,ar.of hx,rfl,rfl,_,rfl,iteF' (by decide) (iteF' (by decide) (kR _ _ ?_))⟩
     clear kR
     refine ao fun Rk kR=>?_
     refine ⟨_,rfl,x,_,_,_,rfl,rfl,ar.of hx,rfl,rfl,_,rfl,iteF' (by decide) (iteF' (by decide) (kR _ _ ?_))⟩
     clear kR
     exact q _ (same_refl _)
   | test c n o=>
     obtain ⟨u,⟨x,rfl,hx⟩,eu⟩:=na
     refine ⟨_,rfl,x,_,_,_,rfl,rfl,ar.of hx,rfl,rfl,_,rfl,iteF' (by decide) (iteF' (by decide) (kR _ _ ?_))⟩
     clear kR
     refine ao fun Rk kR=>?_
     refine ⟨_,rfl,x,_,_,_,rfl,rfl,ar.of hx,rfl,rfl,_,rfl,iteT' (by decide) ?_⟩
     refine ⟨_,rfl,x,_,_,_,rfl,rfl,ar.of hx,rfl,_,rfl,x,_,_,_,rfl,rfl,ar.of hx,rfl,rfl,_,rfl,?_⟩
     by_cases z:n=o
     · refine iteT' (decide_eq_true (congrArg V.int z)) ?_
       refine ⟨_,rfl,x,_,_,_,rfl,rfl,ar.of hx,rfl,?_⟩
       have q:=q _ (same_refl _)
       have e:(Np.test c n o).idle=some n:=if_pos z
       rw [e] at q
       exact q
     · refine iteF' (decide_eq_false (fun y=>z (by injection y))) (kR _ _ ?_)
       have q:=q _ (same_refl _)
       have e:(Np.test c n o).idle=none:=if_neg z
       rw [e] at q
       exact q
   | put y s n=>
     obtain ⟨u,⟨x,rfl,hx⟩,eu⟩:=na
     refine ⟨_,rfl,x,_,_,_,rfl,rfl,ar.of hx,rfl,rfl,_,rfl,iteT' (by decide) ?_⟩
     refine ⟨_,rfl,x,_,_,_,rfl,rfl,ar.of hx,rfl,_,rfl,x,_,_,_,rfl,rfl,ar.of hx,rfl,Ki,fun t0 ht0=>?_⟩
     have s0:=ag ht0 (.tup [.str "box",.str y])
     have g0:(upd H t0 (.tup [.str "box",.str y])) t0=some (.tup [.str "box",.str y]):=ae
     generalize upd H t0 (.tup [.str "box",.str y])=H0 at s0 g0 ⊢
     refine nH (eu.keep (ah.tk s0)) g0 ⟨_,rfl,?_⟩
     have hx:=s0 _ _ hx
     cases hb:s.isBox y with
     | true=>
       refine bG ?_
       refine ⟨_,rfl,x,_,_,_,rfl,rfl,ar.of hx,rfl,?_⟩
       have q:=q _ s0
       have e:(Np.put y s n).idle=some n:=if_pos hb
       rw [e] at q
       exact q
     | false=>
       refine bh (kR _ _ ?_)
       clear kR
       refine ⟨_,rfl,x,_,_,_,rfl,rfl,ar.of hx,rfl,rfl,_,rfl,iteF' (by decide) (iteF' (by decide) ?_)⟩
       have q:=q _ s0
       have e:(Np.put y s n).idle=none:=if_neg (by rw [hb]; decide)
       rw [e] at q
       exact q
theorem uX (s:Src K mg "idle_next" sIdN)  : aC P w K mg base "idle_next" ["node"] 1 eY:=
 let ⟨f,fd,F,m⟩:=s
 ⟨f,fd,yy F ,F.kp,fg F fun _ _ _ _ _ _ _=>rfl,m⟩
theorem oF:az ["nodes","place","at","step"] ["nodes","place"] (af sGoR):=⟨rfl,rfl,rfl,by decide +kernel,rfl,by decide +kernel,by decide +kernel⟩
theorem du:(af sGoR).names.lookup (Eb "idle_next")=some .globalImplicit:=by decide +kernel
/-! ### goes_round -/
theorem tJ {nds:List Np}{p:Nat}(h:∀k,k < nds.length->cA nds (k + 1) p≠some p):mj nds p=false:=by
 cases z:mj nds p with
 | false=>rfl
 | true=>
   unfold mj at z
   obtain ⟨k,hk,e⟩:=List.any_eq_true.mp z
   exact absurd (of_decide_eq_true e) (h k (List.mem_range.mp hk))
theorem og {nds:List Np}{p k j:Nat}(h:cA nds k p=none)(hj:k<=j):cA nds j p=none:=by
 have z:=j8 nds k p (j - k)
 rw [show k + (j - k)=j by omega,h] at z
 exact z
theorem wK {nds:List Np}(ok:jd nds){p q:Nat}(hp:p < nds.length):∀{k:Nat},cA nds k p=some q->q < nds.length
 | 0,h=>by cases h; exact hp
 | k + 1,h=>by
   have h:(cA nds k p).bind (iQ nds)=some q:=h
   obtain ⟨r,h1,h2⟩:=Option.bind_eq_some_iff.mp h
   exact fV ok h2
def oJ:Sp:=fun vs H Q _=>∃(l:Addr) (vn:List V) (nds:List Np) (p:Nat),vs=[.ref l,.int (p:Int)]/\H l=some (.lst vn)/\Paired (aG H) vn nds/\jd nds/\p < nds.length/\∀H',ah H H'->Q (.bl (mj nds p)) H'
theorem b6 {H:Hp}{vn:List V}{nds:List Np}(pn:Paired (aG H) vn nds){p:Nat}(hp:p < nds.length):∃x e,vn[p]? = some x/\nds[p]? = some e/\aG H x e:=by
 have vl:=Paired.length pn
 obtain ⟨x,hx⟩ : ∃x,vn[p]? = some x:=⟨vn[p]'(by omega),Eg (by omega)⟩
 obtain ⟨e,he,h⟩:=Paired.get pn hx
 exact ⟨x,e,hx,he,h⟩
theorem yx {f:Addr}{fd:FuncData}(F:bQ K "goes_round" "goes_round" sGoR f fd)(IN:aC P w K mg base "idle_next" ["node"] 1 eY):aI P w K mg base CX0 2 f fd ["nodes","place"] oJ:=by
 refine F.ok oF (fun vs H Q E h=>?_) (fun cdv A outer s H vs Q E hr h=>?_)
 · obtain ⟨l,vn,nds,p,rfl,_⟩:=h
   rfl
 · obtain ⟨l,vn,nds,p,rfl,hl,pn,ok,hp,q⟩:=h
   have vl:=Paired.length pn
   obtain ⟨x0,e0,hx0,he0,na0⟩:=b6 pn hp
   refine cu ⟨_,(Ih (Io 2 oF.nd (Il IN hr du (Ic (Ii IG (Ib 0) (Ib 1)) Ie)))
     (Ih (IT (IQ (Ib 0)) (Iq 3 oF.nd) (Ih (Iv (IJ (Jc (Iu Jh (Ib 2) I9) (Je (Iu Iz (Ib 2) (Ib 1))))) (Ij (Im (IL Iz (Ib 2) (Ib 1)))) Iw)
     (Ij (Io 2 oF.nd (Il IN hr du (Ic (Ii IG (Ib 0) (Ib 2)) Ie))))))
     (Ij (Im IK)))),?_⟩
   refine ao fun Rk kR=>?_
   refine ⟨_,rfl,_,rfl,l,_,_,_,rfl,rfl,aA.of hl,aM hx0,x0,e0,rfl,na0,fun H1 s1=>?_⟩
   rw [gH ok he0]
   refine aj ?_
   refine kR _ _ ?_
   clear kR
   refine aq [some (.ref l),some (.int (p:Int)),some (optN (cA nds 1 p)),none] rfl ?_
   refine ao fun Rk kR=>?_
   refine ⟨_,rfl,l,rfl,⟨_,aA.of (s1 _ _ hl)⟩,?_⟩
   refine bg (xs:=vn) (fun (i:Nat) (σ:List (Option V)) (Hx:Hp)=>(∃o3,σ=[some (.ref l),some (.int (p:Int)),some (optN (cA nds (i + 1) p)),o3])/\ah H Hx/\∀k,k < i->cA nds (k + 1) p≠some p) ⟨⟨_,rfl⟩,s1,fun k hk=>absurd hk (Hh _)⟩ (fun i σ Hx _ z=>aA.of (z.2.1 _ _ hl)) (fun i y0 σ Hx hy z=>?_) (fun σ Hx z=>?_)
   · obtain ⟨⟨o3,rfl⟩,sx,no⟩:=z
     have hil:i < vn.length:=(List.getElem?_eq_some_iff.mp hy).1
     refine aj ?_
     refine ao fun Rk2 kR2=>?_
     cases hit:cA nds (i + 1) p with
     | none=>
       have rn:mj nds p=false:=tJ fun k hk=>by
         by_cases c:k < i
         · exact no k c
         · rw [og hit (show i + 1<=k + 1 by omega)]
           exact fun z=>nomatch z
       refine ⟨_,rfl,rfl,_,rfl,iteT' (by decide) (iteT' (by decide) ?_)⟩
       refine ⟨_,rfl,_,rfl,rfl,?_⟩
       have q:=q _ sx
       rw [rn] at q
       exact q
     | some r=>
       have hr:=wK ok hp hit
       refine ⟨_,rfl,rfl,_,rfl,iteF' (j7 _) ?_⟩
       by_cases c:r=p
       · subst c
         have rn:mj nds r=true:=tK (by omega) (by omega) hit
         refine ⟨_,rfl,_,rfl,rfl,_,rfl,iteT' (decide_eq_true rfl) ?_⟩
         refine ⟨_,rfl,_,rfl,rfl,?_⟩
         have q:=q _ sx
         rw [rn] at q
         rw [decide_eq_true (show optN (some r)=V.int (r:Int) from rfl)]
         exact q
       · have ne:decide (V.int (r:Int)=V.int (p:Int))=false:=decide_eq_false fun z=>c (by injection z with z; omega)
         refine ⟨_,rfl,_,rfl,rfl,_,rfl,iteF' ne (kR2 _ _ ?_)⟩
         obtain ⟨x1,e1,hx1,he1,na1⟩:=b6 pn hr
         refine ⟨_,rfl,_,rfl,l,_,_,_,rfl,rfl,aA.of (sx _ _ hl),aM hx1,x1,e1,rfl,aG.keep (ah.tk sx) na1,fun H2 s2=>?_⟩
         rw [gH ok he1]
         have en:cA nds (i + 1 + 1) p=iQ nds r:=by
           show (cA nds (i + 1) p).bind (iQ nds)=_
           rw [hit]
           rfl
         refine aj ?_
         refine ⟨⟨_,by rw [en]; rfl⟩,aa sx s2,fun k hk=>?_⟩
         by_cases c2:k < i
         · exact no k c2
         · rw [show k=i by omega,hit]
           exact fun z=>c (by injection z)
   obtain ⟨⟨o3,rfl⟩,sx,no⟩:=z
   refine kR _ _ ?_
   have q:=q _ sx
   rw [tJ fun k hk=>no k (by omega)] at q
   exact q
theorem uW (s:Src K mg "goes_round" sGoR)(IN:aC P w K mg base "idle_next" ["node"] 1 eY):aC P w K mg base "goes_round" ["nodes","place"] 2 oJ:=
 let ⟨f,fd,F,m⟩:=s
 ⟨f,fd,yx F IN,F.kp,f6 F fun _ _ _ _ _ _ _ _=>rfl,m⟩
theorem oG:az ["nodes","stays","place","many"] ["nodes","stays","place"] (af sLOn):=⟨rfl,rfl,rfl,by decide +kernel,rfl,by decide +kernel,by decide +kernel⟩
theorem h8:(af sLOn).names.lookup (Eb "idle_next")=some .globalImplicit:=by decide +kernel
/-! ### led_on -/
def fO (nds:List Np):List Bool:=(Ew nds.length).map (bN nds)
theorem m6 {nds:List Np}{p:Nat}(hp:p < nds.length):iV ((fO nds).map V.bl) (p:Int)=some (.bl (bN nds p)):=aM (by unfold fO; rw [Em,Em,Fs hp]; rfl)
def oK:Sp:=fun vs H Q _=>∃(l sl:Addr) (vn:List V) (nds:List Np) (p:Nat),vs=[.ref l,.ref sl,.int (p:Int)]/\H l=some (.lst vn)/\Paired (aG H) vn nds/\jd nds/\p < nds.length/\H sl=some (.lst ((fO nds).map V.bl))/\∀(a:Addr) (H':Hp),ah H H'->H' a=some (.tup [.int ((aL nds p).1:Int),.int ((aL nds p).2:Int)])->Q (.ref a) H'
theorem yA {f:Addr}{fd:FuncData}(F:bQ K "led_on" "led_on" sLOn f fd)(IN:aC P w K mg base "idle_next" ["node"] 1 eY):aI P w K mg base CX0 2 f fd ["nodes","stays","place"] oK:=by
 refine F.ok oG (fun vs H Q E h=>?_) (fun cdv A outer s H vs Q E hr h=>?_)
 · obtain ⟨l,sl,vn,nds,p,rfl,_⟩:=h
   rfl
 · obtain ⟨l,sl,vn,nds,p,rfl,hl,pn,ok,hp,hs,q⟩:=h
   have vl:=Paired.length pn
   obtain ⟨wy,w1,w2,w3⟩:=dG ok hp
   generalize (aL nds p).1=r at *
   generalize (aL nds p).2=tot at *
   refine cu ⟨_,(Ih (Io 3 oG.nd Ig)
     (Ih (L3.ui (IW (IF (Ii IG (Ib 1) (Ib 2)))) (Ih (Io 2 oG.nd (Il IN hr h8 (Ic (Ii IG (Ib 0) (Ib 2)) Ie)))
     (Ij (L3.aug 3 oG.nd Ig))))
     (Ij (Im (IA (Ic (Ib 2) (Ic (Ib 3) Ie))))))),?_⟩
   refine ao fun Rk kR=>?_
   refine aj ?_
   refine kR _ _ ?_
   clear kR
   refine aq [some (.ref l),some (.ref sl),some (.int (p:Int)),some (.int ((0:Nat):Int))] rfl ?_
   refine ao fun Rk kR=>?_
   refine ⟨fun m σ Hx=>(∃p' c:Nat,σ=[some (.ref l),some (.ref sl),some (.int (p':Int)),some (.int (c:Int))]/\p' < nds.length/\Way nds p' r m/\c + m=tot)/\ah H Hx,⟨tot,⟨p,0,rfl,hp,wy,HX _⟩,same_refl _⟩,?_⟩
   rintro m σ Hx ⟨⟨p',c,rfl,hp',wy',ec⟩,sx⟩
   refine ⟨_,rfl,_,rfl,sl,_,_,_,rfl,rfl,aA.of (sx _ _ hs),m6 hp',_,rfl,?_⟩
   cases wy' with
   | here hst=>
     rw [hst]
     refine iteF' rfl (kR _ _ ?_)
     refine ⟨_,rfl,_,rfl,Ki,fun a ha=>?_⟩
     have e:c=tot:=by omega
     subst e
     exact q a _ (ck sx ha) ae
   | @on _ q1 _ m1 hst hq wy2=>
     rw [hst]
     refine iteT' rfl ⟨fun σ' H'=>(∃p' c:Nat,σ'=[some (.ref l),some (.ref sl),some (.int (p':Int)),some (.int (c:Int))]/\p' < nds.length/\Way nds p' r m1/\c + m1=tot)/\ah H H',fun σ' H' z=>⟨m1,G1 _,z⟩,?_⟩
     obtain ⟨x1,e1,hx1,he1,na1⟩:=b6 pn hp'
     refine ⟨_,rfl,_,rfl,l,_,_,_,rfl,rfl,aA.of (sx _ _ hl),aM hx1,x1,e1,rfl,aG.keep (ah.tk sx) na1,fun H2 s2=>?_⟩
     rw [gH ok he1,hq]
     refine aj ?_
     refine aq [some (.ref l),some (.ref sl),some (.int (q1:Int)),some (.int (c:Int))] rfl ?_
     refine ⟨_,rfl,_,_,rfl,rfl,?_⟩
     exact ⟨⟨q1,c + 1,rfl,fV ok hq,wy2,by omega⟩,aa sx s2⟩
theorem uZ (s:Src K mg "led_on" sLOn)(IN:aC P w K mg base "idle_next" ["node"] 1 eY):aC P w K mg base "led_on" ["nodes","stays","place"] 2 oK:=
 let ⟨f,fd,F,m⟩:=s
 ⟨f,fd,yA F IN,F.kp,iW F fun _ _ _ _ _ _ _ _ _=>rfl,m⟩
theorem Bv:az ["node"] ["node"] (af sLId):=⟨rfl,rfl,rfl,by decide +kernel,rfl,by decide +kernel,by decide +kernel⟩
/-! ### _law_idle -/
def iI:Sp:=fun vs H Q _=>∃(v:V) (e:Np),vs=[v]/\aG H v e/\∀H',ah H H'->Q (.bl e.idle.isSome) H'
theorem yz {f:Addr}{fd:FuncData}(F:bQ K "_law_idle" "_law_idle" sLId f fd)  : aI P w K mg base CX0 1 f fd ["node"] iI:=by
 refine F.ok Bv (fun vs H Q E h=>?_) (fun cdv A outer s H vs Q E hr h=>?_)
 · obtain ⟨v,e,rfl,_⟩:=h
   rfl
 · obtain ⟨v,e,rfl,na,q⟩:=h
   refine cu ⟨_,(Ih (Iv (Iu Iz (Ii Ik (Ib 0) Ig) Ip) (Ij (Im (IL (L3.wO (bz hr _ (by decide))) (Ii Ik (Ib 0) Ig) (IA (Ic Ip (Ic (Ii Ik (Ib 0) Ig) Ie)))))) Iw)
     (Ij (Im (I0 (IL Iz (Ii Ik (Ib 0) Ig) Ip) (Ja (IL Iz (Ii Ik (Ib 0) Ig) (Ii Ik (Ib 0) Ig))))))),?_⟩
   refine ao fun Rk kR=>?_
   cases e with
   | fin=>
     obtain ⟨x,rfl,hx⟩:=na
     refine ⟨_,rfl,x,_,_,_,rfl,rfl,ar.of hx,rfl,rfl,_,rfl,iteF' (by decide) (kR _ _ ?_)⟩
     clear kR
     refine ⟨_,rfl,x,_,_,_,rfl,rfl,ar.of hx,rfl,rfl,_,rfl,iteF' (by decide) ?_⟩
     exact q _ (same_refl _)
   | say s n=>
     obtain ⟨u,⟨x,rfl,hx⟩,eu⟩:=na
     refine ⟨_,rfl,x,_,_,_,rfl,rfl,ar.of hx,rfl,rfl,_,rfl,iteF' (by decide) (kR _ _ ?_)⟩
     clear kR
     refine ⟨_,rfl,x,_,_,_,rfl,rfl,ar.of hx,rfl,rfl,_,rfl,iteF' (by decide) ?_⟩
     exact q _ (same_refl _)
   | pick s n=>
     obtain ⟨x,rfl,hx⟩:=na
     refine ⟨_,rfl,x,_,_,_,rfl,rfl,ar.of hx,rfl,rfl,_,rfl,iteF' (by decide) (kR _ _ ?_)⟩
     clear kR
     refine ⟨_,rfl,x,_,_,_,rfl,rfl,ar.of hx,rfl,rfl,_,rfl,iteF' (by decide) ?_⟩
     exact q _ (same_refl _)
   | test c n o=>
     obtain ⟨u,⟨x,rfl,hx⟩,eu⟩:=na
     refine ⟨_,rfl,x,_,_,_,rfl,rfl,ar.of hx,rfl,rfl,_,rfl,iteF' (by decide) (kR _ _ ?_)⟩
     clear kR
     refine ⟨_,rfl,x,_,_,_,rfl,rfl,ar.of hx,rfl,rfl,_,rfl,iteT' (by decide) ?_⟩
     refine ⟨_,rfl,x,_,_,_,rfl,rfl,ar.of hx,rfl,_,rfl,x,_,_,_,rfl,rfl,ar.of hx,rfl,rfl,?_⟩
     have q:=q _ (same_refl _)
     have e:(Np.test c n o).idle.isSome=decide (V.int n=V.int o):=by
       show (if n=o then some n else none:Option Int).isSome=_
       by_cases z:n=o
       · rw [if_pos z,decide_eq_true (congrArg V.int z)]
         rfl
       · rw [if_neg z,decide_eq_false (fun y=>z (by injection y))]
         rfl
     rw [e] at q
     exact q
   | put y s n=>
     obtain ⟨u,⟨x,rfl,hx⟩,eu⟩:=na
     refine ⟨_,rfl,x,_,_,_,rfl,rfl,ar.of hx,rfl,rfl,_,rfl,iteT' (by decide) ?_⟩
     refine ⟨_,rfl,x,_,_,_,rfl,rfl,ar.of hx,rfl,_,rfl,x,_,_,_,rfl,rfl,ar.of hx,rfl,Ki,fun t0 ht0=>?_⟩
     have s0:=ag ht0 (.tup [.str "box",.str y])
     have g0:(upd H t0 (.tup [.str "box",.str y])) t0=some (.tup [.str "box",.str y]):=ae
     generalize upd H t0 (.tup [.str "box",.str y])=H0 at s0 g0 ⊢
     refine nH (eu.keep (ah.tk s0)) g0 ?_
     have q:=q _ s0
     have e:(Np.put y s n).idle.isSome=s.isBox y:=by
       show (if s.isBox y=true then some n else none:Option Int).isSome=_
       cases s.isBox y <;> rfl
     rw [e] at q
     exact q
theorem uY (s:Src K mg "_law_idle" sLId)  : aC P w K mg base "_law_idle" ["node"] 1 iI:=
 let ⟨f,fd,F,m⟩:=s
 ⟨f,fd,yz F ,F.kp,fg F fun _ _ _ _ _ _ _=>rfl,m⟩
end
end TW
set_option Elab.async false
set_option linter.all false
set_option maxRecDepth 100000
set_option exponentiation.threshold 4000
set_option maxHeartbeats 1000000
namespace TW
open PySem L2
section
variable {P:Program}{w:World}{K:D9}{mg:Str->Option Value}{base:Heap}
abbrev sFit:Stmt:=top 16
theorem sf {a b c:Expr}{p:Pos}:bp (.IfExp a b c p):=⟨fun _ _=>rfl⟩
structure kK (H:Hp)(B I N:Addr)(vb vn:List V)(bs:List (Str×Int))(ins:List Str)(nds:List Np):Prop where
 hB:H B=some (.lst vb)
 hI:H I=some (.lst (ins.map V.str))
 hN:H N=some (.lst vn)
 pb:Paired (cw H) vb bs
 pn:Paired (aG H) vn nds
/-- what fitted_program tells -/
structure Told (K:D9)(tO:Addr)(H H':Hp)(p' P' B' I' N':Addr)(vb vn':List V)(bs:List (Str×Int))(ins:List Str)(nds':List Np)(sm:V)(se:E)(ps:List V)(lv:List Lv):Prop where
 s:ah H H'
 hp:H' p'=some (.tup [.ref B',.ref I',.ref N'])
 pt:kK H' B' I' N' vb vn' bs ins nds'
 hP:H' P'=some (.lst ps)
 ek:EK K H' sm se
 bt:Bt se (.yes :: (bs.map (·.1)).map sameE)
 pp:Paired (fun v e=>bE tO H' v sm e) ps lv
 nB:H B'=none
 nI:H I'=none
 nN:H N'=none
 nP:H P'=none
 BI:B'≠I'
 BN:B'≠N'
 IN:I'≠N'
 PB:P'≠B'
 PI:P'≠I'
 PN:P'≠N'
/-- an entry as it is told of the node p -/
structure qN (nds:List Np)(p:Nat)(e:Lv):Prop where
 h1:e.1=(p:Int)
 h2:e.2.1=(cZ nds (aL nds p).1:Int)
 wt:e.2.2.2.1=(aL nds p).2
 hd:e.2.2.1=if bN nds p=true then (nds.getD p .fin).hd else "mine"
structure eB (K:D9)(H:Hp)(nds:List Np)(n:Nat)(lv:List Lv):Prop where
 len:lv.length=n
 of:∀(p:Nat) (e:Lv),lv[p]? = some e->qN nds p e
 wt:∀e∈lv,EK K H e.2.2.2.2 (.num (e.2.2.2.1:Int))
theorem eB.keep {K:D9}{H H':Hp}{nds:List Np}{n:Nat}{lv:List Lv}(k:TK H H')(h:eB K H nds n lv):eB K H' nds n lv:=⟨h.len,h.of,fun e he=>EK.keep k (h.wt e he)⟩
theorem eB.snoc {K:D9}{H:Hp}{nds:List Np}{n:Nat}{lv:List Lv}{e:Lv}(h:eB K H nds n lv)(o:qN nds n e)(w:EK K H e.2.2.2.2 (.num (e.2.2.2.1:Int))):eB K H nds (n + 1) (lv++[e]):=by
 refine ⟨by rw [Eh,h.len]; rfl,fun p f hp=>?_,fun f hf=>?_⟩
 · by_cases c:p < n
   · rw [Hu (by rw [h.len]; exact c)] at hp
     exact h.of p f hp
   · have hl:=(List.getElem?_eq_some_iff.mp hp).1
     rw [Eh,h.len] at hl
     have ep:p=n:=by
       have:p < n + 1:=hl
       omega
     subst ep
     rw [Hj (by rw [h.len]; exact Ee _),h.len,Nat.sub_self] at hp
     cases hp
     exact o
 · rcases List.mem_append.mp hf with z | z
   · exact h.wt f z
   · rw [List.mem_singleton.mp z]
     exact w
def Ae (nds:List Np)(H:Hp)(v:V)(p:Nat):Prop:=Tp H v [.int ((aL nds p).1:Int),.int ((aL nds p).2:Int)]
def fe (nds:List Np)(H:Hp)(D:Addr):Prop:=∃kvs:List (Key×V),H D=some (.dK kvs)/\∀p∈aO nds,a9 kvs (.inl (p:Int))=some (.int (cZ nds p:Int))
theorem fe.get {nds:List Np}{H:Hp}{D:Addr}(h:fe nds H D){p:Nat}(hp:p∈aO nds):d5 H D (.int (p:Int)) (some (.int (cZ nds p:Int))):=by
 obtain ⟨kvs,h1,h2⟩:=h
 have:=d5.k (k:=.inl (p:Int)) h1
 rw [h2 p hp] at this
 exact this
theorem fe.same {nds:List Np}{H H':Hp}{D:Addr}(s:ah H H')(h:fe nds H D):fe nds H' D:=let ⟨k,a,b⟩:=h; ⟨k,s _ _ a,b⟩
def oI (K:D9)(tO:Addr):Sp:=fun vs H Q _=>∃(p B I N:Addr) (vb vn:List V) (bs:List (Str×Int)) (ins:List Str) (nds:List Np),vs=[.ref p]/\H p=some (.tup [.ref B,.ref I,.ref N])/\kK H B I N vb vn bs ins nds/\bs.length<=4/\nds.length<=40/\0 < nds.length/\jd nds /\
 ∀(q p' P' B' I' N':Addr) (vn':List V) (sm:V) (se:E) (ps:List V) (lv:List Lv) (H':Hp),H' q=some (.tup [.ref p',.ref P'])->Told K tO H H' p' P' B' I' N' vb vn' bs ins (bu nds) sm se ps lv->eB K H' nds nds.length lv->Q (.ref q) H'
theorem c0:az ["program","nodes","same","stays","ways","kept","numbers","told","paper","place","to","many","alone"] ["program"] (af sFit):=⟨rfl,rfl,rfl,by decide +kernel,rfl,by decide +kernel,by decide +kernel⟩
theorem i5:(af sFit).names.lookup (Eb "all_same")=some .globalImplicit:=by decide +kernel
theorem cf:(af sFit).names.lookup (Eb "enumerate")=some .globalImplicit:=by decide +kernel
theorem k9:(af sFit).names.lookup (Eb "len")=some .globalImplicit:=by decide +kernel
theorem fB:(af sFit).names.lookup (Eb "level_entry")=some .globalImplicit:=by decide +kernel
theorem h7:(af sFit).names.lookup (Eb "range")=some .globalImplicit:=by decide +kernel
theorem f7:(af sFit).names.lookup (Eb "with_nodes")=some .globalImplicit:=by decide +kernel
theorem yw {tO:Addr}{f:Addr}{fd:FuncData}(F:bQ K "fitted_program" "fitted_program" sFit f fd)(m_len:mg "len"=none)(m_range:mg "range"=none)(m_enumerate:mg "enumerate"=none)(hO:∀H,ar K H tO [.str "number",.int 0])(AS:aC P w K mg base "all_same" ["program"] 10 (kC K))(IN0:aC P w K mg base "idle_next" ["node"] 1 eY)(GR0:aC P w K mg base "goes_round" ["nodes","place"] 2 oJ)(LO0:aC P w K mg base "led_on" ["nodes","stays","place"] 2 oK)(LN0:aC P w K mg base "led_anew" ["node","leads"] 1 iJ)(LE0:aC P w K mg base "leads_of" ["node"] 1 eZ)(LV0:aC P w K mg base "level_entry" ["program","place","new_place","condition"] 1 (iK tO))(WN0:aC P w K mg base "with_nodes" ["program","nodes"] 1 e7):aI P w K mg base CX0 11 f fd ["program"] (oI K tO):=by
 refine F.ok c0 (fun vs H Q E h=>?_) (fun cdv A outer s H vs Q E hr h=>?_)
 · obtain ⟨p,B,I,N,vb,vn,bs,ins,nds,rfl,_⟩:=h
   rfl
 · have IN:=IN0.mono (show 1<=10 by omega)
   have GR:=GR0.mono (show 2<=10 by omega)
   have LO:=LO0.mono (show 2<=10 by omega)
   have LN:=LN0.mono (show 1<=10 by omega)
   have LE:=LE0.mono (show 1<=10 by omega)
   have LV:=LV0.mono (show 1<=10 by omega)
   have WN:=WN0.mono (show 1<=10 by omega)
   obtain ⟨p,B,I,N,vb,vn,bs,ins,nds,rfl,hp,pt,b4,n40,n0,ok,q⟩:=h
   have vnl:=Paired.length pt.pn
   have big:1000<=sizeLine:=by decide
   have kn:=ig ok n0
   refine cu ⟨_,(Ih (Jk (IA (Ic (Ii Ik (Ib 0) Ig) (Ic (Il AS hr i5 (Ic (Ib 0) Ie)) Ie))) (IU 2 (IC (Iq 1 c0.nd) (IC (Iq 2 c0.nd) IV))))
     (Ih (Io 3 c0.nd (IS [none,none,some 1] ["place","node","nodes"] (show av _ (af sFit) from ⟨rfl,by decide +kernel,by decide +kernel,by decide +kernel⟩) (by rfl) (L3.iE cf m_enumerate (Ic (Ib 1) Ie)) (fun _ _ _ _ _=>⟨(IU 2 (IC (Iq 0 (show (["place","node","nodes"]:List Str).Nodup from by decide +kernel)) (IC (Iq 1 (show (["place","node","nodes"]:List Str).Nodup from by decide +kernel)) IV))),IX,(L3.yO (IL Jh (Il IN hr (by rfl) (Ic (Ib 1) Ie)) I9) (Ja (Il GR hr (by rfl) (Ic (Ib 2) (Ic (Ib 0) Ie)))))⟩)))
     (Ih (Io 4 c0.nd (IS [none,some 1,some 3] ["place","nodes","stays"] (show av _ (af sFit) from ⟨rfl,by decide +kernel,by decide +kernel,by decide +kernel⟩) (by rfl) (Jg h7 m_range (Ic (Iy IP k9 m_len Es (Ic (Ib 1) Ie)) Ie)) (fun _ _ _ _ _=>⟨(Iq 0 (show (["place","nodes","stays"]:List Str).Nodup from by decide +kernel)),IX,(Il LO hr (by rfl) (Ic (Ib 1) (Ic (Ib 2) (Ic (Ib 0) Ie))))⟩)))
     (Ih (Io 5 c0.nd (IB Js (ID (Ic (Ii Ik (Ii IG (Ib 4) Ig) Ig) Ie)) (IS [none,some 3,some 4] ["place","stays","ways"] (show av _ (af sFit) from ⟨rfl,by decide +kernel,by decide +kernel,by decide +kernel⟩) (by rfl) (Jg h7 m_range (Ic (Iy IP k9 m_len Es (Ic (Ib 1) Ie)) Ie)) (fun _ _ _ _ _=>⟨(Iq 0 (show (["place","stays","ways"]:List Str).Nodup from by decide +kernel)),(L3.if1 (IJ (IY (IF (Ii IG (Ib 1) (Ib 0))) (IZ (Iu L3.vm (Ib 0) (Ii Ik (Ii IG (Ib 2) Ig) Ig)))))),(Ib 0)⟩))))
     (Ih (Io 6 c0.nd (L3.DI [none,none] ["number","place"] (bz hr _ (by decide)) (show av _ (af sFit) from ⟨rfl,by decide +kernel,by decide +kernel,by decide +kernel⟩) (by rfl) (L3.iE cf m_enumerate (Ic (Ib 5) Ie)) (fun _ _ _ _ _=>⟨(IU 2 (IC (Iq 0 (show (["number","place"]:List Str).Nodup from by decide +kernel)) (IC (Iq 1 (show (["number","place"]:List Str).Nodup from by decide +kernel)) IV))),IX,(Ib 1),(Ib 0)⟩)))
     (Ih (L3.DQ (i:=7) [none,some 1,some 6,some 4] ["place","nodes","numbers","ways"] (show av _ (af sFit) from ⟨rfl,by decide +kernel,by decide +kernel,by decide +kernel⟩) (by rfl) (IQ (Ib 5)) (fun _ _ _ _ _=>⟨(Iq 0 (show (["place","nodes","numbers","ways"]:List Str).Nodup from by decide +kernel)),IX,(Il LN hr (by rfl) (Ic (Ii IG (Ib 1) (Ib 0)) (Ic (IS [none,some 2,some 3] ["lead","numbers","ways"] (av.inner rfl (by decide +kernel) (by decide +kernel) (by decide +kernel)) (by rfl) (IQ (Il LE hr (by rfl) (Ic (Ii IG (Ib 1) (Ib 0)) Ie))) (fun _ _ _ _ _=>⟨(Iq 0 (show (["lead","numbers","ways"]:List Str).Nodup from by decide +kernel)),IX,(L3.uF (bz hr _ (by decide)) (Ib 1) (Ii (Ik (hK:=L3.qY)) (Ii (IG (hK:=L3.qY)) (Ib 2) (Ib 0)) Ig))⟩)) Ie)))⟩) c0.nd)
     (Ih (Io 8 c0.nd (ID Ie))
     (Ih (IT (L3.iE cf m_enumerate (Ic (Ib 4) Ie)) (IU 2 (IC (Iq 9 c0.nd) (IC (IU 2 (IC (Iq 10 c0.nd) (IC (Iq 11 c0.nd) IV))) IV))) (Ih (Io 12 c0.nd (IA (Ic (Ib 9) (Ic (L3.uF (bz hr _ (by decide)) (Ib 6) (Ib 10)) (Ic (Ib 2) (Ic Ip (Ic (IA (Ic Ip (Ic (Ib 11) Ie))) Ie)))))))
     (Ij (Jd (Jm (Ib 8) (Ic (L3.Di (IF (Ii IG (Ib 3) (Ib 9))) (Il LV hr fB (Ic (Ib 0) (Ic (Ib 9) (Ic (L3.uF (bz hr _ (by decide)) (Ib 6) (Ib 10)) (Ic (Ib 2) Ie))))) (Ib 12)) Ie sf))))))
     (Ij (Im (IA (Ic (Il WN hr f7 (Ic (Ib 0) (Ic (Ib 7) Ie))) (Ic (Ib 8) Ie))))))))))))),?_⟩
   refine ao fun Rk kR=>?_
   refine ⟨_,rfl,p,_,_,_,rfl,rfl,ar.of hp,rfl,_,rfl,p,B,I,N,vb,bs,rfl,hp,pt.hB,pt.pb,b4,fun sm se H1 s1 ek bt=>?_⟩
   refine ⟨Ki,fun t0 ht0=>?_⟩
   have s2:=ag ht0 (.tup [.ref N,sm])
   have g2:(upd H1 t0 (.tup [.ref N,sm])) t0=some (.tup [.ref N,sm]):=ae
   generalize upd H1 t0 (.tup [.ref N,sm])=H2 at s2 g2 ⊢
   refine ⟨t0,_,rfl,ar.of g2,rfl,_,_,rfl,_,_,rfl,rfl,?_⟩
   refine kR _ _ ?_
   clear kR
   refine aq [some (.ref p),some (.ref N),some (sm),none,none,none,none,none,none,none,none,none,none] rfl ?_
   refine ao fun Rk kR=>?_
   have s02:=aa s1 s2
   have hN2:=s02 _ _ pt.hN
   have pn2:Paired (aG H2) vn nds:=Paired.mapP pt.pn fun _ _ z=>aG.keep (ah.tk s02) z
   have ek2:=EK.keep (ah.tk s2) ek
   refine ⟨_,rfl,N,rfl,⟨_,aA.of hN2⟩,fun S hS=>?_⟩
   refine jk (xs:=vn) (fun (i:Nat) (Hx:Hp)=>ah H2 Hx/\Hx S=some (.lst (((fO nds).take i).map V.bl))) ⟨ag hS _,by rw [E1]; exact ae⟩ (fun i Hx _ z=>aA.of (z.1 _ _ hN2)) (fun i x0 pp Hx hx z hpp=>?_) (fun H3 z=>?_)
   · obtain ⟨sx,gS⟩:=z
     have hil:i < vn.length:=(List.getElem?_eq_some_iff.mp hx).1
     obtain ⟨e,he,na⟩:=Paired.get pn2 hx
     have sp:=ag hpp (.tup [.int (i:Int),x0])
     have gp:(upd Hx pp (.tup [.int (i:Int),x0])) pp=some (.tup [.int (i:Int),x0]):=ae
     generalize upd Hx pp (.tup [.int (i:Int),x0])=Hy at sp gp ⊢
     have sxy:=aa sx sp
     refine ⟨pp,_,rfl,ar.of gp,rfl,_,_,rfl,_,_,rfl,rfl,?_⟩
     refine bL (A:=fun H5=>cj _ S _ H5 _) ?_
     have fin:∀(b:Bool) (Hz:Hp),ah Hy Hz->b=bN nds i->Hz S=some (.lst (((fO nds).take i).map V.bl))/\(fun (i:Nat) (Hx:Hp)=>ah H2 Hx/\Hx S=some (.lst (((fO nds).take i).map V.bl))) (i + 1) (upd Hz S (.lst (((fO nds).take i).map V.bl++[.bl b]))):=fun b Hz sz eb=>by
       refine ⟨sz _ _ (sp _ _ gS),aE (aa sxy sz) hS,?_⟩
       have hi2:(fO nds)[i]? = some (bN nds i):=by unfold fO; rw [Em,Fs (by omega)]; rfl
       rw [ae,Er,hi2,En,eb]
       rfl
     have sml:(((fO nds).take i).map V.bl).length < sizeLine:=ax (by rw [Ea,Eo]; omega)
     refine ⟨_,rfl,x0,e,rfl,aG.keep (ah.tk sxy) na,fun H3 s3=>?_⟩
     rw [gH ok he]
     cases hn:iQ nds i with
     | none=>
       refine ⟨rfl,_,rfl,iteT' (by decide) ?_⟩
       obtain ⟨f1,f2⟩:=fin true _ s3 (by unfold bN; rw [hn]; rfl)
       exact ⟨_,f1,sml,aF (Pv:=fun (i:Nat) (Hx:Hp)=>ah H2 Hx/\Hx S=some (.lst (((fO nds).take i).map V.bl))) (by repeat' constructor) hil f2⟩
     | some r=>
       refine ⟨rfl,_,rfl,iteF' (j7 _) ?_⟩
       have sx3:=aa sxy s3
       refine ⟨_,rfl,_,rfl,N,vn,nds,i,rfl,sx3 _ _ hN2,Paired.mapP pn2 fun _ _ z=>aG.keep (ah.tk sx3) z,ok,by omega,fun H4 s4=>?_⟩
       obtain ⟨f1,f2⟩:=fin (mj nds i) _ (aa s3 s4) (by unfold bN; rw [hn]; rfl)
       exact ⟨_,f1,sml,aF (Pv:=fun (i:Nat) (Hx:Hp)=>ah H2 Hx/\Hx S=some (.lst (((fO nds).take i).map V.bl))) (by repeat' constructor) hil f2⟩
   obtain ⟨s3,gS⟩:=z
   rw [vnl,EI (by unfold fO; rw [Ea,EE]; exact Ee _)] at gS
   refine aj ?_
   refine kR _ _ ?_
   clear kR
   refine aq [some (.ref p),some (.ref N),some (sm),some (.ref S),none,none,none,none,none,none,none,none,none] rfl ?_
   refine ao fun Rk kR=>?_
   have hN3:=s3 _ _ hN2
   have pn3:Paired (aG H3) vn nds:=Paired.mapP pn2 fun _ _ z=>aG.keep (ah.tk s3) z
   have ek3:=EK.keep (ah.tk s3) ek2
   refine ⟨_,rfl,N,_,rfl,.inl (aA.of hN3),(vn.length:Int),rfl,by omega,by omega,fun W hW=>?_⟩
   rw [ES]
   refine b9 (lo:=0) (n:=vn.length) (fun i Hx=>ah H3 Hx/\∃us,Hx W=some (.lst us)/\Paired (Ae nds Hx) us (Ew i)) ⟨ag hW _,[],ae,.nil⟩ (fun i Hx hi z=>?_) (fun H4 z=>?_)
   · obtain ⟨sx,us,gW,pu⟩:=z
     rw [F7]
     refine aj ?_
     refine bL (A:=fun H5=>cj _ W _ H5 _) ?_
     refine ⟨_,rfl,_,rfl,_,rfl,N,S,vn,nds,i,rfl,sx _ _ hN3,Paired.mapP pn3 fun _ _ z=>aG.keep (ah.tk sx) z,ok,by omega,sx _ _ gS,fun a H4 s4 ga=>?_⟩
     have ul:=Paired.length pu
     rw [EE] at ul
     have gW4:=s4 _ _ gW
     have tkW:TK H4 (upd H4 W (.lst (us++[.ref a]))):=TW.TK.lst gW4
     refine ⟨_,gW4,ax (by omega),aF (Pv:=fun i Hx=>ah H3 Hx/\∃us,Hx W=some (.lst us)/\Paired (Ae nds Hx) us (Ew i)) (by repeat' constructor) hi ⟨aE (aa sx s4) hW,_,ae,?_⟩⟩
     rw [Fo]
     exact Paired.snoc (Paired.mapP pu fun _ _ z=>Tp.keep ((ah.tk s4).trans tkW) z) ⟨a,rfl,tkW _ _ ga⟩
   obtain ⟨s4,us,gW,pu⟩:=z
   rw [vnl] at pu
   have ul:=Paired.length pu
   rw [EE] at ul
   refine aj ?_
   refine kR _ _ ?_
   clear kR
   refine aq [some (.ref p),some (.ref N),some (sm),some (.ref S),some (.ref W),none,none,none,none,none,none,none,none] rfl ?_
   refine ao fun Rk kR=>?_
   have wy:∀(i:Nat),i < nds.length->∃a,us[i]? = some (.ref a)/\H4 a=some (.tup [.int ((aL nds i).1:Int),.int ((aL nds i).2:Int)]):=fun i hi=>by
     obtain ⟨u,hu⟩ : ∃u,us[i]? = some u:=⟨us[i]'(by omega),Eg (by omega)⟩
     obtain ⟨j,hj,a,rfl,ga⟩:=Paired.get pu hu
     rw [Fs hi] at hj
     cases hj
     exact ⟨a,hu,ga⟩
   have gS4:=s4 _ _ gS
   have hN4:=s4 _ _ hN3
   have pn4:Paired (aG H4) vn nds:=Paired.mapP pn3 fun _ _ z=>aG.keep (ah.tk s4) z
   have ek4:=EK.keep (ah.tk s4) ek3
   obtain ⟨a0,hu0,ga0⟩:=wy 0 n0
   generalize hz0:(aL nds 0).1=z0 at ga0
   refine ⟨_,rfl,W,_,_,_,rfl,rfl,aA.of gW,aM (j:=0) hu0,a0,_,_,_,rfl,rfl,ar.of ga0,rfl,Kh,fun k0 hk0=>?_⟩
   have s5:=ag hk0 (.lst [.int (z0:Int)])
   have g5:(upd H4 k0 (.lst [.int (z0:Int)])) k0=some (.lst [.int (z0:Int)]):=ae
   generalize upd H4 k0 (.lst [.int (z0:Int)])=H5 at s5 g5 ⊢
   refine ⟨_,rfl,N,_,rfl,.inl (aA.of (s5 _ _ hN4)),(vn.length:Int),rfl,by omega,by omega,fun k1 hk1=>?_⟩
   rw [ES]
   refine b9 (lo:=0) (n:=vn.length) (fun (i:Nat) (Hx:Hp)=>ah H5 Hx/\Hx k1=some (.lst (((Ew i).filter (fun q=>bN nds q && decide (q≠z0))).map (fun q:Nat=>V.int (q:Int))))) ⟨ag hk1 _,ae⟩ (fun i Hx hi z=>?_) (fun H6 z=>?_)
   · obtain ⟨sx,gk⟩:=z
     rw [F7]
     have s5x:=aa s5 sx
     refine aj ?_
     refine ⟨_,rfl,_,rfl,S,_,_,_,rfl,rfl,aA.of (s5x _ _ gS4),m6 (show i < nds.length by omega),_,rfl,?_⟩
     cases hs:bN nds i with
     | false=>
       refine bh (bh (aF (Pv:=fun (i:Nat) (Hx:Hp)=>ah H5 Hx/\Hx k1=some (.lst (((Ew i).filter (fun q=>bN nds q && decide (q≠z0))).map (fun q:Nat=>V.int (q:Int))))) (by repeat' constructor) hi ⟨sx,?_⟩))
       rw [gk,Fo,Fl]
       have:[i].filter (fun q=>bN nds q && decide (q≠z0))=[]:=by
         rw [Fb,hs]
         rfl
       rw [this,E7]
     | true=>
       refine bG ⟨_,rfl,_,rfl,W,_,_,_,rfl,rfl,aA.of (s5x _ _ gW),aM (j:=0) hu0,a0,_,_,_,rfl,rfl,ar.of (s5x _ _ ga0),rfl,rfl,_,rfl,?_⟩
       by_cases c:i=z0
       · refine iteF' (show (!decide (V.int (i:Int)=V.int (z0:Int)))=false by rw [c,decide_eq_true rfl]; rfl) (aF (Pv:=fun (i:Nat) (Hx:Hp)=>ah H5 Hx/\Hx k1=some (.lst (((Ew i).filter (fun q=>bN nds q && decide (q≠z0))).map (fun q:Nat=>V.int (q:Int))))) (by repeat' constructor) hi ⟨sx,?_⟩)
         rw [gk,Fo,Fl]
         have:[i].filter (fun q=>bN nds q && decide (q≠z0))=[]:=by
           rw [Fb,hs,decide_eq_false (fun z=>z c)]
           rfl
         rw [this,E7]
       · refine iteT' (show (!decide (V.int (i:Int)=V.int (z0:Int)))=true by rw [decide_eq_false (fun z=>c (by injection z with z; omega))]; rfl) ?_
         have fl:=Fj (fun q=>bN nds q && decide (q≠z0)) (Ew i)
         rw [EE] at fl
         refine ⟨_,rfl,_,gk,ax (by rw [Ea]; omega),aF (Pv:=fun (i:Nat) (Hx:Hp)=>ah H5 Hx/\Hx k1=some (.lst (((Ew i).filter (fun q=>bN nds q && decide (q≠z0))).map (fun q:Nat=>V.int (q:Int))))) (by repeat' constructor) hi ⟨aE sx hk1,?_⟩⟩
         rw [ae,Fo,Fl,En]
         have:[i].filter (fun q=>bN nds q && decide (q≠z0))=[i]:=by
           rw [Fb,hs,decide_eq_true (show i≠z0 from c)]
           rfl
         rw [this]
         rfl
   obtain ⟨s6,gk⟩:=z
   have kl:=Fj (fun q=>bN nds q && decide (q≠z0)) (Ew vn.length)
   rw [EE] at kl
   refine ⟨k0,k1,_,_,rfl,rfl,s6 _ _ g5,gk,(by rw [Ea]; show 1 + _<=_; omega),fun C hC=>?_⟩
   have ekp:[V.int (z0:Int)]++((Ew vn.length).filter (fun q=>bN nds q && decide (q≠z0))).map (fun q:Nat=>V.int (q:Int))=(aO nds).map (fun q:Nat=>V.int (q:Int)):=by
     unfold aO
     rw [vnl,hz0]
     rfl
   rw [ekp]
   have s7:=ag hC (.lst ((aO nds).map (fun q:Nat=>V.int (q:Int))))
   have g7:(upd H6 C (.lst ((aO nds).map (fun q:Nat=>V.int (q:Int))))) C=some (.lst ((aO nds).map (fun q:Nat=>V.int (q:Int)))):=ae
   generalize upd H6 C (.lst ((aO nds).map (fun q:Nat=>V.int (q:Int))))=H7 at s7 g7 ⊢
   have s47:=aa s5 (aa s6 s7)
   clear ekp g5 gk hk0 hk1 kl s5 s6 hC
   refine aj ?_
   refine kR _ _ ?_
   clear kR
   refine aq [some (.ref p),some (.ref N),some (sm),some (.ref S),some (.ref W),some (.ref C),none,none,none,none,none,none,none] rfl ?_
   refine ao fun Rk kR=>?_
   refine ⟨_,rfl,C,rfl,⟨_,aA.of g7⟩,fun D hD=>?_⟩
   refine jk (xs:=(aO nds).map (fun q:Nat=>V.int (q:Int))) (fun (i:Nat) (Hx:Hp)=>ah H7 Hx/\∃kvs:List (Key×V),Hx D=some (.dK kvs)/\kvs.length<=i/\∀(j q:Nat),j < i->(aO nds)[j]? = some q->a9 kvs (.inl (q:Int))=some (.int (j:Int))) ⟨ag hD _,[],ae,Ee _,fun j q hj=>absurd hj (Hh _)⟩ (fun i Hx _ z=>aA.of (z.1 _ _ g7)) (fun i x0 pp Hx hx z hpp=>?_) (fun H8 z=>?_)
   · obtain ⟨sx,kvs,gD,kvl,hk⟩:=z
     have hil:=(List.getElem?_eq_some_iff.mp hx).1
     have hil2:=hil
     rw [Ea] at hil2
     obtain ⟨r,hr,rfl⟩:=aT hx
     have sp:=ag hpp (.tup [.int (i:Int),.int (r:Int)])
     have gp:(upd Hx pp (.tup [.int (i:Int),.int (r:Int)])) pp=some (.tup [.int (i:Int),.int (r:Int)]):=ae
     generalize upd Hx pp (.tup [.int (i:Int),.int (r:Int)])=Hy at sp gp ⊢
     refine ⟨pp,_,rfl,ar.of gp,rfl,_,_,rfl,_,_,rfl,rfl,?_⟩
     refine bL (A:=fun H5=>yp _ _ D _ H5 _) ?_
     have gDy:=sp _ _ gD
     have kl:=bb kvs (Sum.inl (r:Int)) (V.int (i:Int))
     refine ⟨_,rfl,_,rfl,_,iS.k (k:=.inl (r:Int)) gDy (ax (by omega)),aF (Pv:=fun (i:Nat) (Hx:Hp)=>ah H7 Hx/\∃kvs:List (Key×V),Hx D=some (.dK kvs)/\kvs.length<=i/\∀(j q:Nat),j < i->(aO nds)[j]? = some q->a9 kvs (.inl (q:Int))=some (.int (j:Int))) (by repeat' constructor) hil ⟨aE (aa sx sp) hD,_,ae,by omega,fun j q hj hq=>?_⟩⟩
     rw [cp]
     by_cases c:j=i
     · subst c
       rw [hr] at hq
       cases hq
       rw [if_pos rfl]
     · rw [if_neg (fun z=>c ?_)]
       · exact hk j q (by omega) hq
       · have z:(q:Int)=(r:Int):=by injection z
         have z:q=r:=by omega
         subst z
         obtain ⟨h1,e1⟩:=List.getElem?_eq_some_iff.mp hq
         obtain ⟨h2,e2⟩:=List.getElem?_eq_some_iff.mp hr
         have pw:=List.pairwise_iff_getElem.mp (d9 nds)
         have ee:=e1.trans e2.symm
         rcases Nat.lt_trichotomy j i with y | y | y
         · exact absurd ee (pw j i h1 h2 y)
         · exact y
         · exact absurd ee.symm (pw i j h2 h1 y)
   obtain ⟨s8,kvs,gD,_,hk⟩:=z
   have nums8:fe nds H8 D:=⟨kvs,gD,fun q hq=>hk _ _ (by rw [Ea]; exact (List.getElem?_eq_some_iff.mp (ir hq)).1) (ir hq)⟩
   clear hk gD
   refine aj ?_
   refine kR _ _ ?_
   clear kR
   refine aq [some (.ref p),some (.ref N),some (sm),some (.ref S),some (.ref W),some (.ref C),some (.ref D),none,none,none,none,none,none] rfl ?_
   refine ao fun Rk kR=>?_
   have s48:=aa s47 s8
   have gC8:=s8 _ _ g7
   have gW8:=s48 _ _ gW
   have hN8:=s48 _ _ hN4
   have pn8:Paired (aG H8) vn nds:=Paired.mapP pn4 fun _ _ z=>aG.keep (ah.tk s48) z
   refine ⟨_,rfl,C,rfl,⟨_,aA.of gC8⟩,fun T hT=>?_⟩
   refine aV (xs:=(aO nds).map (fun q:Nat=>V.int (q:Int))) (fun (i:Nat) (Hx:Hp)=>ah H8 Hx/\∃ts,Hx T=some (.lst ts)/\ts.length=i/\Paired (aG Hx) ts ((bu nds).take i)) ⟨ag hT _,[],ae,rfl,by rw [E1]; exact .nil⟩ (fun i Hx _ z=>aA.of (z.1 _ _ gC8)) (fun i x0 Hx hx z=>?_) (fun H9 z=>?_)
   · obtain ⟨sx,ts,gT,tl,pt⟩:=z
     have hil:=(List.getElem?_eq_some_iff.mp hx).1
     have hil2:=hil
     rw [Ea] at hil2
     obtain ⟨r,hr,rfl⟩:=aT hx
     have rin:=(gu ok n0 (Ef hr)).1
     obtain ⟨x1,e1,hx1,he1,na1⟩:=b6 pn8 rin
     refine aj ?_
     refine bL (A:=fun H5=>cj _ T _ H5 _) ?_
     refine ⟨_,rfl,_,rfl,N,_,_,_,rfl,rfl,aA.of (sx _ _ hN8),aM hx1,?_⟩
     refine ⟨_,rfl,_,rfl,N,_,_,_,rfl,rfl,aA.of (sx _ _ hN8),aM hx1,x1,e1,rfl,aG.keep (ah.tk sx) na1,fun L H9 s9 gL=>?_⟩
     refine ⟨L,rfl,⟨_,aA.of gL⟩,fun M hM=>?_⟩
     refine aV (xs:=e1.leads.map V.int) (fun (j:Nat) (Hz:Hp)=>ah H9 Hz/\Hz M=some (.lst (((cX nds e1).take j).map V.int))) ⟨ag hM _,by rw [E1]; exact ae⟩ (fun j Hz _ z=>aA.of (z.1 _ _ gL)) (fun j y0 Hz hy z=>?_) (fun Ha z=>?_)
     · obtain ⟨sz,gM⟩:=z
       have hjl:=(List.getElem?_eq_some_iff.mp hy).1
       have hjl2:=hjl
       rw [Ea] at hjl2
       have l2:=e1.leads2
       obtain ⟨ld,hld,rfl⟩:=aT hy
       have lin:=ok e1 (Ef he1) ld (Ef hld)
       have lin2:ld.toNat < nds.length:=by omega
       obtain ⟨aw,hw,gaw⟩:=wy ld.toNat lin2
       have wat:=dG ok lin2
       have sz8:=aa sx (aa s9 sz)
       have hat:iV us ld=some (.ref aw):=by
         have:=aM hw
         rw [Fu lin.1] at this
         exact this
       refine aj ?_
       refine bL (A:=fun H5=>cj _ M _ H5 _) ?_
       refine ⟨_,rfl,_,rfl,_,rfl,W,_,_,_,rfl,rfl,aA.of (sz8 _ _ gW8),hat,aw,_,_,_,rfl,rfl,ar.of (sz8 _ _ (s48 _ _ gaw)),rfl,D,_,rfl,(nums8.same sz8).get (eP wat.2.1 wat.2.2.2),?_⟩
       refine ⟨_,gM,ax (by rw [Ea,Eo]; omega),aF (Pv:=fun (j:Nat) (Hz:Hp)=>ah H9 Hz/\Hz M=some (.lst (((cX nds e1).take j).map V.int))) (by repeat' constructor) hjl ⟨aE sz hM,?_⟩⟩
       have hlf:(cX nds e1)[j]? = some (cZ nds (aL nds ld.toNat).1:Int):=by unfold cX; rw [Em,hld]; rfl
       rw [ae,Er,hlf,En]
       rfl
     obtain ⟨sz,gM⟩:=z
     have lfl:(cX nds e1).length=e1.leads.length:=by unfold cX; rw [Ea]
     rw [Ea,← lfl,EL] at gM
     have sx9:=aa sx (aa s9 sz)
     refine ⟨x1,M,e1,cX nds e1,rfl,aG.keep (ah.tk sx9) na1,gM,lfl,fun v' Hb sb nv=>?_⟩
     have gTb:=sb _ _ (sz _ _ (s9 _ _ gT))
     have tkT:TK Hb (upd Hb T (.lst (ts++[v']))):=TW.TK.lst gTb
     refine ⟨_,gTb,ax (by omega),aF (Pv:=fun (i:Nat) (Hx:Hp)=>ah H8 Hx/\∃ts,Hx T=some (.lst ts)/\ts.length=i/\Paired (aG Hx) ts ((bu nds).take i)) (by repeat' constructor) hil ⟨aE (aa sx9 sb) hT,ts++[v'],ae,by rw [Eh,tl]; rfl,?_⟩⟩
     have htl:(bu nds)[i]? = some (e1.led (cX nds e1)):=by
       unfold bu
       rw [Em,hr]
       show some ((nds.getD r .fin).led (cX nds (nds.getD r .fin)))=_
       rw [ED,he1]
       rfl
     rw [Er,htl]
     exact Paired.snoc (Paired.mapP pt fun _ _ z=>aG.keep ((ah.tk (aa s9 (aa sz sb))).trans tkT) z) (aG.keep tkT nv)
   obtain ⟨s9,ts,gT,tl,ptn⟩:=z
   rw [Ea] at tl
   rw [Ea,EI (by unfold bu; rw [Ea]; exact Ee _)] at ptn
   refine aj ?_
   refine kR _ _ ?_
   clear kR
   refine aq [some (.ref p),some (.ref N),some (sm),some (.ref S),some (.ref W),some (.ref C),some (.ref D),some (.ref T),none,none,none,none,none] rfl ?_
   refine ao fun Rk kR=>?_
   refine ⟨Kg,fun R hR=>?_⟩
   have s10:=ag hR (.lst [])
   have g10:(upd H9 R (.lst [])) R=some (.lst []):=ae
   generalize upd H9 R (.lst [])=HA at s10 g10 ⊢
   refine aj ?_
   refine kR _ _ ?_
   clear kR
   refine aq [some (.ref p),some (.ref N),some (sm),some (.ref S),some (.ref W),some (.ref C),some (.ref D),some (.ref T),some (.ref R),none,none,none,none] rfl ?_
   refine ao fun Rk kR=>?_
   have s49:=aa s48 s9
   have s4A:=aa s49 s10
   have nT:H8 T=none:=hT
   have s04:=aa s02 (aa s3 s4)
   have s09:=aa s04 s49
   have hp9:=s09 _ _ hp
   have gW9:=s49 _ _ gW
   have nums9:=nums8.same s9
   have ek9:=EK.keep (ah.tk s49) ek4
   refine ⟨_,rfl,W,rfl,⟨_,aA.of (s10 _ _ gW9)⟩,?_⟩
   refine rk (xs:=us) (fun (i:Nat) (σ:List (Option V)) (Hx:Hp)=>(∃o9 o10 o11 o12,σ=[some (.ref p),some (.ref N),some (sm),some (.ref S),some (.ref W),some (.ref C),some (.ref D),some (.ref T),some (.ref R),o9,o10,o11,o12])/\ah H9 Hx/\∃ps lv,Hx R=some (.lst ps)/\Paired (fun v e=>bE tO Hx v sm e) ps lv/\eB K Hx nds i lv) ⟨⟨_,_,_,_,rfl⟩,s10,[],[],g10,.nil,rfl,(fun p e z=>nomatch z),(fun e z=>nomatch z)⟩ (fun i σ Hx _ z=>aA.of (z.2.1 _ _ gW9)) (fun i u0 pp σ Hx hu z hpp=>?_) (fun σ Hx z=>?_)
   · obtain ⟨⟨o9,o10,o11,o12,rfl⟩,sx,ps,lv,gR,pl,lo⟩:=z
     have hil:i < us.length:=(List.getElem?_eq_some_iff.mp hu).1
     have hin:i < nds.length:=by omega
     obtain ⟨aw,haw,gaw⟩:=wy i hin
     rw [hu] at haw
     cases haw
     have wat:=dG ok hin
     have psl:=Paired.length pl
     rw [lo.len] at psl
     have sp:=ag hpp (.tup [.int (i:Int),.ref aw])
     have gp:(upd Hx pp (.tup [.int (i:Int),.ref aw])) pp=some (.tup [.int (i:Int),.ref aw]):=ae
     generalize upd Hx pp (.tup [.int (i:Int),.ref aw])=Hy at sp gp ⊢
     have sxy:=aa sx sp
     have s4y:=aa s49 sxy
     refine ⟨pp,_,rfl,ar.of gp,rfl,_,_,rfl,_,_,rfl,aw,_,rfl,ar.of (s4y _ _ gaw),rfl,_,_,rfl,_,_,rfl,rfl,rfl,?_⟩
     refine aq [some (.ref p),some (.ref N),some (sm),some (.ref S),some (.ref W),some (.ref C),some (.ref D),some (.ref T),some (.ref R),some (.int (i:Int)),some (.int ((aL nds i).1:Int)),some (.int ((aL nds i).2:Int)),o12] rfl ?_
     refine ao fun Rk2 kR2=>?_
     have get:∀Hq,ah H9 Hq->d5 Hq D (.int ((aL nds i).1:Int)) (some (.int (cZ nds (aL nds i).1:Int))):=fun Hq sq=>(nums9.same sq).get (eP wat.2.1 wat.2.2.2)
     refine ⟨_,rfl,_,rfl,_,rfl,D,_,rfl,get _ sxy,_,rfl,_,rfl,Ki,fun w0 hw0=>?_⟩
     have sw:=ag hw0 (.tup [.str "number",.int ((aL nds i).2:Int)])
     have gw:(upd Hy w0 (.tup [.str "number",.int ((aL nds i).2:Int)])) w0=some (.tup [.str "number",.int ((aL nds i).2:Int)]):=ae
     generalize upd Hy w0 (.tup [.str "number",.int ((aL nds i).2:Int)])=Hw at sw gw ⊢
     refine ⟨Kl,fun al hal=>?_⟩
     have sa:=ag hal (.tup [.int (i:Int),.int (cZ nds (aL nds i).1:Int),sm,.str "mine",.ref w0])
     have gal:(upd Hw al (.tup [.int (i:Int),.int (cZ nds (aL nds i).1:Int),sm,.str "mine",.ref w0])) al=some (.tup [.int (i:Int),.int (cZ nds (aL nds i).1:Int),sm,.str "mine",.ref w0]):=ae
     generalize upd Hw al (.tup [.int (i:Int),.int (cZ nds (aL nds i).1:Int),sm,.str "mine",.ref w0])=Hb at sa gal ⊢
     refine aj ?_
     refine kR2 _ _ ?_
     refine aq [some (.ref p),some (.ref N),some (sm),some (.ref S),some (.ref W),some (.ref C),some (.ref D),some (.ref T),some (.ref R),some (.int (i:Int)),some (.int ((aL nds i).1:Int)),some (.int ((aL nds i).2:Int)),some (.ref al)] rfl ?_
     have syb:=aa sw sa
     have sxb:=aa sp syb
     have s9b:=aa sx sxb
     have s4b:=aa s49 s9b
     have fin:∀(v:V) (e:Lv) (Hc:Hp),ah Hb Hc->bE tO Hc v sm e->qN nds i e->EK K Hc e.2.2.2.2 (.num (e.2.2.2.1:Int))->∃xs,Hc R=some (.lst xs)/\xs.length < sizeLine/\(fun (i:Nat) (σ:List (Option V)) (Hx:Hp)=>(∃o9 o10 o11 o12,σ=[some (.ref p),some (.ref N),some (sm),some (.ref S),some (.ref W),some (.ref C),some (.ref D),some (.ref T),some (.ref R),o9,o10,o11,o12])/\ah H9 Hx/\∃ps lv,Hx R=some (.lst ps)/\Paired (fun v e=>bE tO Hx v sm e) ps lv/\eB K Hx nds i lv) (i + 1) [some (.ref p),some (.ref N),some (sm),some (.ref S),some (.ref W),some (.ref C),some (.ref D),some (.ref T),some (.ref R),some (.int (i:Int)),some (.int ((aL nds i).1:Int)),some (.int ((aL nds i).2:Int)),some (.ref al)] (upd Hc R (.lst (xs++[v]))):=fun v e Hc sc la lf ew=>by
       have sxc:=aa sxb sc
       have gRc:=sxc _ _ gR
       have tkR:TK Hc (upd Hc R (.lst (ps++[v]))):=TW.TK.lst gRc
       refine ⟨ps,gRc,ax (by omega),⟨_,_,_,_,rfl⟩,aE (aa sx sxc) hR,ps++[v],lv++[e],ae,?_,?_⟩
       · exact Paired.snoc (Paired.mapP pl fun _ _ z=>bE.keep ((ah.tk sxc).trans tkR) z) (bE.keep tkR la)
       · exact (lo.keep ((ah.tk sxc).trans tkR)).snoc lf (EK.keep tkR ew)
     refine ⟨_,rfl,.inl ⟨rfl,_,aA.of (sxb _ _ gR)⟩,_,rfl,_,rfl,S,_,_,_,rfl,rfl,aA.of (s4b _ _ gS4),m6 hin,_,rfl,?_⟩
     cases hs:bN nds i with
     | true=>
       refine bG ?_
       have hw:=iO hs
       obtain ⟨x1,e1,hx1,he1,na1⟩:=b6 pn4 hin
       refine ⟨_,rfl,_,rfl,_,rfl,_,rfl,D,_,rfl,get _ s9b,_,rfl,p,B,I,N,vn,e1,i,_,sm,x1,rfl,s9b _ _ hp9,s4b _ _ hN4,hx1,aG.keep (ah.tk s4b) na1,fun v Hc sc la=>?_⟩
       obtain ⟨xs,f1,f2,f3⟩:=fin v _ Hc sc la ⟨rfl,rfl,by rw [hw],by rw [hs,if_pos rfl,ED,he1]; rfl⟩ ⟨tO,rfl,.inr hO⟩
       exact ⟨R,_,_,rfl,rfl,f1,f2,f3⟩
     | false=>
       refine bh ⟨_,rfl,?_⟩
       obtain ⟨xs,f1,f2,f3⟩:=fin (.ref al) ((i:Int),(cZ nds (aL nds i).1:Int),"mine",(aL nds i).2,.ref w0) Hb (same_refl _) ⟨al,rfl,gal⟩ ⟨rfl,rfl,rfl,by rw [hs]; rfl⟩ ⟨w0,rfl,.inl (sa _ _ gw)⟩
       exact ⟨R,_,_,rfl,rfl,f1,f2,f3⟩
   obtain ⟨⟨o9,o10,o11,o12,rfl⟩,sx,ps,lv,gR,pl,lo⟩:=z
   rw [ul] at lo
   refine kR _ _ ?_
   clear kR
   have s0x:=aa s09 sx
   have gTx:=sx _ _ gT
   have nTH:H T=none:=ai (aa s04 s48) nT
   have nRH:H R=none:=ai s09 hR
   have TR:T≠R:=au gT hR
   refine ⟨_,rfl,_,rfl,p,T,B,I,N,vb,_,rfl,s0x _ _ hp,s0x _ _ pt.hB,s0x _ _ pt.hI,fun p' B' I' H' s' g1 g2' g3 n1 n2 n3=>?_⟩
   refine ⟨_,rfl,Ki,fun q0 hq0=>?_⟩
   have s99:=ag hq0 (.tup [.ref p',.ref R])
   have sall:=aa s0x (aa s' s99)
   have nn:∀l xs,Hx l=some (.lst xs)->l≠B'/\l≠I':=fun l xs e=>⟨au e n1,au e n2⟩
   have tke:=ah.tk (aa s' s99)
   refine q q0 p' R B' I' T ts sm se ps lv _ ae ⟨sall,s99 _ _ g1,⟨s99 _ _ g2',s99 _ _ g3,s99 _ _ (s' _ _ gTx),Paired.mapP pt.pb fun _ _ z=>Tp.keep (ah.tk sall) z,Paired.mapP ptn fun _ _ z=>aG.keep ((ah.tk sx).trans tke) z⟩,s99 _ _ (s' _ _ gR),EK.keep ((ah.tk sx).trans tke) ek9,bt,Paired.mapP pl fun _ _ z=>bE.keep tke z,ai s0x n1,ai s0x n2,nTH,nRH,n3,(nn _ _ gTx).1.symm,(nn _ _ gTx).2.symm,(nn _ _ gR).1,(nn _ _ gR).2,TR.symm⟩ (lo.keep tke)
theorem uV {tO:Addr}(s:Src K mg "fitted_program" sFit)(m_len:mg "len"=none)(m_range:mg "range"=none)(m_enumerate:mg "enumerate"=none)(hO:∀H,ar K H tO [.str "number",.int 0])(AS:aC P w K mg base "all_same" ["program"] 10 (kC K))(IN0:aC P w K mg base "idle_next" ["node"] 1 eY)(GR0:aC P w K mg base "goes_round" ["nodes","place"] 2 oJ)(LO0:aC P w K mg base "led_on" ["nodes","stays","place"] 2 oK)(LN0:aC P w K mg base "led_anew" ["node","leads"] 1 iJ)(LE0:aC P w K mg base "leads_of" ["node"] 1 eZ)(LV0:aC P w K mg base "level_entry" ["program","place","new_place","condition"] 1 (iK tO))(WN0:aC P w K mg base "with_nodes" ["program","nodes"] 1 e7):aC P w K mg base "fitted_program" ["program"] 11 (oI K tO):=
 let ⟨f,fd,F,m⟩:=s
 ⟨f,fd,yw F m_len m_range m_enumerate hO AS IN0 GR0 LO0 LN0 LE0 LV0 WN0,F.kp,fg F fun _ _ _ _ _ _ _=>rfl,m⟩
end
end TW
set_option Elab.async false
set_option linter.all false
set_option maxRecDepth 100000
set_option exponentiation.threshold 4000
set_option maxHeartbeats 1000000
namespace TW
open PySem L2
section
variable {P:Program}{w:World}{K:D9}{mg:Str->Option Value}{base:Heap}
abbrev sWo:Stmt:=top 29
abbrev sHo:Stmt:=top 30
abbrev sBn:Stmt:=top 31
abbrev sBo:Stmt:=top 42
/-! ### worths by names -/
def mq:List (Str×Int)->List Int->Str->Int
 | b :: bs,w :: ws,x=>if b.1=x then w else mq bs ws x
 | _,_,_=>0
def dX (word:Str):List (Str×Int)->List Int->List (List Key×V)
 | b :: bs,w :: ws=>([.inr word,.inr b.1],.int w) :: dX word bs ws
 | _,_=>[]
theorem oi {word:Str}:∀(bs:List (Str×Int)) (ws:List Int) (i:Nat) (b:Str×Int) (w:Int),bs[i]? = some b->ws[i]? = some w->(dX word bs ws)[i]? = some ([.inr word,.inr b.1],.int w)
 | [],_,_,_,_,h,_=>by simp at h
 | _ :: _,[],_,_,_,_,h=>by simp at h
 | _ :: _,_ :: _,0,_,_,h,g=>by simp at h g; subst h g; rfl
 | _ :: bs,_ :: ws,i + 1,b,w,h,g=>by
   show (dX word bs ws)[i]? = _
   exact oi bs ws i b w (by simpa using h) (by simpa using g)
theorem cB {word:Str}:∀(bs:List (Str×Int)) (ws:List Int),bs.length=ws.length->(dX word bs ws).length=ws.length
 | [],[],_=>rfl
 | [],_ :: _,h=>by simp at h
 | _ :: _,[],h=>by simp at h
 | _ :: bs,_ :: ws,h=>by simp [dX]; exact cB bs ws (by simpa using h)
theorem eQ {word:Str}:∀(bs:List (Str×Int)) (ws:List Int) (k:List Key),k∈(dX word bs ws).map (·.1)->∃x∈bs.map (·.1),k=[.inr word,.inr x]
 | [],_,_,h=>by simp [dX] at h
 | _ :: _,[],_,h=>by simp [dX] at h
 | b :: bs,w :: ws,k,h=>by
   rcases List.mem_cons.mp h with z | z
   · exact ⟨b.1,List.mem_cons.mpr (.inl rfl),z⟩
   · obtain ⟨x,hx,e⟩:=eQ bs ws k z
     exact ⟨x,List.mem_cons.mpr (.inr hx),e⟩
theorem iB:∀(kvs d:List (List Key×V)) (k:List Key),k ∉ kvs.map (·.1)->a9 (putAllT d kvs) k=a9 d k
 | [],_,_,_=>rfl
 | p :: r,d,k,h=>by
   show a9 (putAllT (putK d p.1 p.2) r) k=_
   rw [iB r _ k (fun z=>h (List.mem_cons.mpr (.inr z))),cp,if_neg (fun z=>h (List.mem_cons.mpr (.inl z)))]
theorem eV {word:Str}:∀(bs:List (Str×Int)) (ws:List Int) (d:List (List Key×V)) (x:Str),bs.length=ws.length->(bs.map (·.1)).Nodup->x∈bs.map (·.1)->a9 (putAllT d (dX word bs ws)) [.inr word,.inr x]=some (.int (mq bs ws x))
 | [],_,_,_,_,_,h=>by simp at h
 | _ :: _,[],_,_,h,_,_=>by simp at h
 | b :: bs,w :: ws,d,x,hl,nd,hx=>by
   rw [EJ,Fx] at nd
   show a9 (putAllT (putK d [.inr word,.inr b.1] (.int w)) (dX word bs ws)) [.inr word,.inr x]=some (.int (if b.1=x then w else mq bs ws x))
   by_cases e:b.1=x
   · rw [if_pos e,iB _ _ _ (fun z=>by
       obtain ⟨y,hy,e2⟩:=eQ bs ws _ z
       injection e2 with _ e2
       injection e2 with e2 _
       injection e2 with e2
       subst e2
       exact nd.1 (e ▸ hy)),cp,if_pos (by rw [e])]
   · rw [if_neg e]
     refine eV bs ws _ x (by simpa using hl) nd.2 ?_
     rcases List.mem_cons.mp hx with z | z
     · exact absurd z.symm e
     · exact z
/-- the dict d tells W of all P -/
def Kn (H:Hp)(d:Addr)(P:Str->Str->Prop)(W:Str->Str->Int):Prop:=∃kvs,H d=some (.dT kvs)/\∀t x,P t x->(t="box"\/t="mine"\/t="yours")/\a9 kvs [.inr t,.inr x]=some (.int (W t x))
theorem Kn.same {H H':Hp}{d:Addr}{P:Str->Str->Prop}{W:Str->Str->Int}(s:ah H H')(h:Kn H d P W):Kn H' d P W:=let ⟨k,a,b⟩:=h; ⟨k,s _ _ a,b⟩
def fN (K:D9)(n:Nat):Sp:=fun vs H Q _=>∃(v:V) (d:Addr) (e:E) (P:Str->Str->Prop) (W:Str->Str->Int),vs=[v,.ref d]/\EK K H v e/\e.isS/\e.okIn P/\Kn H d P W/\e.dep < n/\Q (.int (e.worth W)) H
theorem vj {f:Addr}{fd:FuncData}:aI P w K mg base CX0 1 f fd ["told","known"] ((fN K) 0):=by
 have no:∀vs H Q E,¬ (fN K) 0 vs H Q E:=fun vs H Q E h=>by
   obtain ⟨v,d,e,P,W,_,_,_,_,_,h,_⟩:=h
   omega
 exact ⟨fun vs H Q E h=>absurd h (no vs H Q E),fun A outer s H args us vs Q E _ _ _ _ h=>absurd h (no vs H Q E)⟩
theorem CU:az ["told","known"] ["told","known"] (af sWo):=⟨rfl,rfl,rfl,by decide +kernel,rfl,by decide +kernel,by decide +kernel⟩
theorem bD:(af sWo).names.lookup (Eb "_law_worth_of")=some .globalImplicit:=by decide +kernel
theorem AX {n:Nat}{f:Addr}{fd:FuncData}(F:bQ K "_law_worth_of" "_law_worth_of" sWo f fd)(G:aC P w K mg base "_law_worth_of" ["told","known"] (n + 1) (fN K n)):aI P w K mg base CX0 (n + 1 + 1) f fd ["told","known"] (fN K (n + 1)):=by
 refine F.ok CU (fun vs H Q E h=>?_) (fun cdv A outer s H vs Q E hr h=>?_)
 · obtain ⟨v,d,e,P,W,rfl,_⟩:=h
   rfl
 · obtain ⟨v,d,e,P,W,rfl,ev,is,ok,kn,dp,q⟩:=h
   refine cu ⟨_,(Ih (Iv (Iu Iz (Ii Ik (Ib 0) Ig) Ip) (Ij (Im (Ii Ik (Ib 0) Ig))) Iw)
     (Ih (Iv (Iu Iz (Ii Ik (Ib 0) Ig) Ip) (Ij (Im (IB Jf (Il G hr bD (Ic (Ii Ik (Ib 0) Ig) (Ic (Ib 1) Ie))) (Il G hr bD (Ic (Ii Ik (Ib 0) Ig) (Ic (Ib 1) Ie)))))) Iw)
     (Ih (Iv (Iu Iz (Ii Ik (Ib 0) Ig) Ip) (Ij (Im (IB Jj (Il G hr bD (Ic (Ii Ik (Ib 0) Ig) (Ic (Ib 1) Ie))) (Il G hr bD (Ic (Ii Ik (Ib 0) Ig) (Ic (Ib 1) Ie)))))) Iw)
     (Ij (Im (L3.uF (bz hr _ (by decide)) (Ib 1) (Ib 0))))))),?_⟩
   refine ao fun Rk kR=>?_
   match e,ev,is,ok,dp,q with
   | .num n,ev,is,ok,dp,q=>
     obtain ⟨p,rfl,hp⟩:=jJ.sq ev
     refine ⟨_,rfl,p,_,_,_,rfl,rfl,hp,rfl,rfl,_,rfl,bG ?_⟩
     exact ⟨_,rfl,p,_,_,_,rfl,rfl,hp,rfl,q⟩
   | .box t x,ev,is,ok,dp,q=>
     obtain ⟨p,rfl,hx⟩:=ev
     have hp:=ar.of (K:=K) hx
     obtain ⟨kvs,hd,hk⟩:=kn
     obtain ⟨ht,hv⟩:=hk t x ok
     have n1:decide (V.str t=.str "number")=false:=decide_eq_false fun z=>by injection z with z; rcases ht with r | r | r <;> (rw [r] at z; exact absurd z (by decide))
     have n2:decide (V.str t=.str "plus")=false:=decide_eq_false fun z=>by injection z with z; rcases ht with r | r | r <;> (rw [r] at z; exact absurd z (by decide))
     have n3:decide (V.str t=.str "less")=false:=decide_eq_false fun z=>by injection z with z; rcases ht with r | r | r <;> (rw [r] at z; exact absurd z (by decide))
     refine ⟨_,rfl,p,_,_,_,rfl,rfl,hp,rfl,rfl,_,rfl,iteF' n1 (kR _ _ ?_)⟩
     clear kR
     refine ao fun Rk kR=>?_
     refine ⟨_,rfl,p,_,_,_,rfl,rfl,hp,rfl,rfl,_,rfl,iteF' n2 (kR _ _ ?_)⟩
     clear kR
     refine ao fun Rk kR=>?_
     refine ⟨_,rfl,p,_,_,_,rfl,rfl,hp,rfl,rfl,_,rfl,iteF' n3 (kR _ _ ?_)⟩
     refine ⟨_,rfl,_,rfl,d,_,rfl,?_,q⟩
     have:=d5.t (k:=[.inr t,.inr x]) hd hx
     rw [hv] at this
     exact this
   | .two .plus a b,ev,is,ok,dp,q=>
     obtain ⟨x,y,h,ea,eb⟩:=ev
     obtain ⟨p,rfl,hp⟩:=h.sq
     have dp:max a.dep b.dep + 1 < n + 1:=dp
     refine ⟨_,rfl,p,_,_,_,rfl,rfl,hp,rfl,rfl,_,rfl,iteF' (by decide) (kR _ _ ?_)⟩
     clear kR
     refine ao fun Rk kR=>?_
     refine ⟨_,rfl,p,_,_,_,rfl,rfl,hp,rfl,rfl,_,rfl,bG ?_⟩
     exact ⟨_,rfl,p,_,_,_,rfl,rfl,hp,rfl,_,rfl,x,d,a,P,W,rfl,ea,is.1,ok.1,kn,by omega,_,rfl,p,_,_,_,rfl,rfl,hp,rfl,_,rfl,y,d,b,P,W,rfl,eb,is.2,ok.2,kn,by omega,_,_,rfl,rfl,q⟩
   | .two .less a b,ev,is,ok,dp,q=>
     obtain ⟨x,y,h,ea,eb⟩:=ev
     obtain ⟨p,rfl,hp⟩:=h.sq
     have dp:max a.dep b.dep + 1 < n + 1:=dp
     refine ⟨_,rfl,p,_,_,_,rfl,rfl,hp,rfl,rfl,_,rfl,iteF' (by decide) (kR _ _ ?_)⟩
     clear kR
     refine ao fun Rk kR=>?_
     refine ⟨_,rfl,p,_,_,_,rfl,rfl,hp,rfl,rfl,_,rfl,iteF' (by decide) (kR _ _ ?_)⟩
     clear kR
     refine ao fun Rk kR=>?_
     refine ⟨_,rfl,p,_,_,_,rfl,rfl,hp,rfl,rfl,_,rfl,bG ?_⟩
     exact ⟨_,rfl,p,_,_,_,rfl,rfl,hp,rfl,_,rfl,x,d,a,P,W,rfl,ea,is.1,ok.1,kn,by omega,_,rfl,p,_,_,_,rfl,rfl,hp,rfl,_,rfl,y,d,b,P,W,rfl,eb,is.2,ok.2,kn,by omega,_,_,rfl,rfl,q⟩
theorem xZ (s:Src K mg "_law_worth_of" sWo)  : ∀n:Nat,aC P w K mg base "_law_worth_of" ["told","known"] (n + 1) (fN K n):=by
 obtain ⟨f,fd,F,m⟩:=s
 have b:Binds K fd ["told","known"] []:=f6 F fun _ _ _ _ _ _ _ _=>rfl
 intro n
 have all:aI P w K mg base CX0 (n + 1) f fd ["told","known"] (fN K n):=by
   induction n with
   | zero=>exact vj
   | succ n ih=>exact AX F  ⟨f,fd,ih,F.kp,b,m⟩
 exact ⟨f,fd,all,F.kp,b,m⟩
def jc (K:D9)(n:Nat):Sp:=fun vs H Q _=>∃(v:V) (d:Addr) (e:E) (P:Str->Str->Prop) (W:Str->Str->Int),vs=[v,.ref d]/\EK K H v e/\e.isC/\e.okIn P/\Kn H d P W/\e.dep < n/\n<=20/\∀H',ah H H'->Q (.bl (e.holds W)) H'
theorem vh {f:Addr}{fd:FuncData}:aI P w K mg base CX0 31 f fd ["told","known"] ((jc K) 0):=by
 have no:∀vs H Q E,¬ (jc K) 0 vs H Q E:=fun vs H Q E h=>by
   obtain ⟨v,d,e,P,W,_,_,_,_,_,h,_⟩:=h
   omega
 exact ⟨fun vs H Q E h=>absurd h (no vs H Q E),fun A outer s H args us vs Q E _ _ _ _ h=>absurd h (no vs H Q E)⟩
theorem zu:az ["told","known","one","other"] ["told","known"] (af sHo):=⟨rfl,rfl,rfl,by decide +kernel,rfl,by decide +kernel,by decide +kernel⟩
theorem cF:(af sHo).names.lookup (Eb "_law_holds")=some .globalImplicit:=by decide +kernel
theorem cN:(af sHo).names.lookup (Eb "_law_worth_of")=some .globalImplicit:=by decide +kernel
theorem uL:(af sHo).names.lookup (Eb "int")=some .globalImplicit:=by decide +kernel
theorem jJ.at {K:D9}{H H':Hp}{p:Addr}{xs:List V}(h:jJ K H (.ref p) xs)(s:ah H H'):ar K H' p xs:=by
 obtain ⟨q,e,z⟩:=h
 cases e
 exact z.elim (fun z=>ar.of (s _ _ z)) (fun z=>z H')
theorem AK {n:Nat}{f:Addr}{fd:FuncData}(F:bQ K "_law_holds" "_law_holds" sHo f fd)(m_int:mg "int"=none)(WO0:aC P w K mg base "_law_worth_of" ["told","known"] 31 (fN K 30))(G:aC P w K mg base "_law_holds" ["told","known"] (n + 31) (jc K n)):aI P w K mg base CX0 (n + 1 + 31) f fd ["told","known"] (jc K (n + 1)):=by
 refine F.ok zu (fun vs H Q E h=>?_) (fun cdv A outer s H vs Q E hr h=>?_)
 · obtain ⟨v,d,e,P,W,rfl,_⟩:=h
   rfl
 · obtain ⟨v,d,e,P,W,rfl,ev,is,ok,kn,dp,n20,q⟩:=h
   have WO:=WO0.mono (show 31<=n + 31 by omega)
   refine cu ⟨_,(Ih (Iv (Iu Iz (Ii Ik (Ib 0) Ig) Ip) (Ij (Im IK)) Iw)
     (Ih (Iv (Iu Iz (Ii Ik (Ib 0) Ig) Ip) (Ij (Im (L3.B5 (Il G hr cF (Ic (Ii Ik (Ib 0) Ig) (Ic (Ib 1) Ie)))))) Iw)
     (Ih (Iv (Iu Iz (Ii Ik (Ib 0) Ig) Ip) (Ij (Im (I0 (Il G hr cF (Ic (Ii Ik (Ib 0) Ig) (Ic (Ib 1) Ie))) (Ja (Il G hr cF (Ic (Ii Ik (Ib 0) Ig) (Ic (Ib 1) Ie))))))) Iw)
     (Ih (Io 2 zu.nd (Il WO hr cN (Ic (Ii Ik (Ib 0) Ig) (Ic (Ib 1) Ie))))
     (Ih (Io 3 zu.nd (Il WO hr cN (Ic (Ii Ik (Ib 0) Ig) (Ic (Ib 1) Ie))))
     (Ij (Im (Ii IG (ID (Ic (IL Jn (Ib 2) (Ib 3)) (Ic (IL Iz (Ib 2) (Ib 3)) Ie))) (Jb L3.nJ uL m_int (by decide +kernel) (Ic (IL Iz (Ii Ik (Ib 0) Ig) Ip) Ie)))))))))),?_⟩
   refine ao fun Rk kR=>?_
   match e,ev,is,ok,dp,q with
   | .yes,ev,is,ok,dp,q=>
     obtain ⟨p,rfl,hp⟩:=jJ.sq ev
     exact ⟨_,rfl,p,_,_,_,rfl,rfl,hp,rfl,rfl,_,rfl,bG (q _ (same_refl _))⟩
   | .nt a,ev,is,ok,dp,q=>
     obtain ⟨x,h,ea⟩:=ev
     obtain ⟨p,rfl,hp⟩:=h.sq
     have dp:a.dep + 1 < n + 1:=dp
     refine ⟨_,rfl,p,_,_,_,rfl,rfl,hp,rfl,rfl,_,rfl,iteF' (by decide) (kR _ _ ?_)⟩
     clear kR
     refine ao fun Rk kR=>?_
     refine ⟨_,rfl,p,_,_,_,rfl,rfl,hp,rfl,rfl,_,rfl,bG ?_⟩
     exact ⟨_,rfl,p,_,_,_,rfl,rfl,hp,rfl,_,rfl,x,d,a,P,W,rfl,ea,is,ok,kn,by omega,by omega,fun H' s'=>⟨_,rfl,q _ s'⟩⟩
   | .two .both a b,ev,is,ok,dp,q=>
     obtain ⟨x,y,h,ea,eb⟩:=ev
     obtain ⟨p,rfl,hp⟩:=h.sq
     have dp:max a.dep b.dep + 1 < n + 1:=dp
     refine ⟨_,rfl,p,_,_,_,rfl,rfl,hp,rfl,rfl,_,rfl,iteF' (by decide) (kR _ _ ?_)⟩
     clear kR
     refine ao fun Rk kR=>?_
     refine ⟨_,rfl,p,_,_,_,rfl,rfl,hp,rfl,rfl,_,rfl,iteF' (by decide) (kR _ _ ?_)⟩
     clear kR
     refine ao fun Rk kR=>?_
     refine ⟨_,rfl,p,_,_,_,rfl,rfl,hp,rfl,rfl,_,rfl,bG ?_⟩
     refine ⟨_,rfl,p,_,_,_,rfl,rfl,hp,rfl,_,rfl,x,d,a,P,W,rfl,ea,is.1,ok.1,kn,by omega,by omega,fun H1 s1=>⟨_,rfl,?_⟩⟩
     have qq:∀H',ah H H'->Q (.bl (a.holds W && b.holds W)) H':=q
     cases ha:a.holds W with
     | false=>
       refine bh ?_
       rw [ha] at qq
       exact qq _ s1
     | true=>
       refine bG ?_
       rw [ha] at qq
       exact ⟨_,rfl,p,_,_,_,rfl,rfl,jJ.at h s1,rfl,_,rfl,y,d,b,P,W,rfl,EK.keep (ah.tk s1) eb,is.2,ok.2,kn.same s1,by omega,by omega,fun H2 s2=>qq _ (aa s1 s2)⟩
   | .two .same a b,ev,is,ok,dp,q=>
     obtain ⟨x,y,h,ea,eb⟩:=ev
     obtain ⟨p,rfl,hp⟩:=h.sq
     have dp:max a.dep b.dep + 1 < n + 1:=dp
     refine ⟨_,rfl,p,_,_,_,rfl,rfl,hp,rfl,rfl,_,rfl,iteF' (by decide) (kR _ _ ?_)⟩
     clear kR
     refine ao fun Rk kR=>?_
     refine ⟨_,rfl,p,_,_,_,rfl,rfl,hp,rfl,rfl,_,rfl,iteF' (by decide) (kR _ _ ?_)⟩
     clear kR
     refine ao fun Rk kR=>?_
     refine ⟨_,rfl,p,_,_,_,rfl,rfl,hp,rfl,rfl,_,rfl,iteF' (by decide) (kR _ _ ?_)⟩
     clear kR
     refine qV fun Rk kR=>?_
     refine ⟨_,rfl,p,_,_,_,rfl,rfl,hp,rfl,_,rfl,x,d,a,P,W,rfl,ea,is.1,ok.1,kn,by omega,?_⟩
     refine aj ?_
     refine ⟨_,rfl,p,_,_,_,rfl,rfl,hp,rfl,_,rfl,y,d,b,P,W,rfl,eb,is.2,ok.2,kn,by omega,?_⟩
     refine aj ?_
     refine kR _ _ ?_
     refine ⟨_,rfl,_,rfl,_,_,rfl,rfl,_,rfl,_,rfl,rfl,Ki,fun L hL=>?_⟩
     have sL:=ag hL (.lst [.bl (decide (a.worth W < b.worth W)),.bl (decide (V.int (a.worth W)=V.int (b.worth W)))])
     have hp2:ar K (upd H L (.lst [.bl (decide (a.worth W < b.worth W)),.bl (decide (V.int (a.worth W)=V.int (b.worth W)))])) p _:=jJ.at h sL
     refine ⟨_,rfl,p,_,_,_,rfl,rfl,hp2,rfl,rfl,.inr ⟨_,rfl,L,_,_,_,rfl,rfl,aA.of ae,rfl,?_⟩⟩
     have e9:decide (V.int (a.worth W)=V.int (b.worth W))=(TW.E.two .same a b).holds W:=by
       show _=decide (a.worth W=b.worth W)
       by_cases z:a.worth W=b.worth W
       · rw [decide_eq_true z,decide_eq_true (congrArg V.int z)]
       · rw [decide_eq_false z,decide_eq_false (fun y=>z (by injection y))]
     rw [e9]
     rw [e9] at sL
     exact q _ sL
   | .two .under a b,ev,is,ok,dp,q=>
     obtain ⟨x,y,h,ea,eb⟩:=ev
     obtain ⟨p,rfl,hp⟩:=h.sq
     have dp:max a.dep b.dep + 1 < n + 1:=dp
     refine ⟨_,rfl,p,_,_,_,rfl,rfl,hp,rfl,rfl,_,rfl,iteF' (by decide) (kR _ _ ?_)⟩
     clear kR
     refine ao fun Rk kR=>?_
     refine ⟨_,rfl,p,_,_,_,rfl,rfl,hp,rfl,rfl,_,rfl,iteF' (by decide) (kR _ _ ?_)⟩
     clear kR
     refine ao fun Rk kR=>?_
     refine ⟨_,rfl,p,_,_,_,rfl,rfl,hp,rfl,rfl,_,rfl,iteF' (by decide) (kR _ _ ?_)⟩
     clear kR
     refine qV fun Rk kR=>?_
     refine ⟨_,rfl,p,_,_,_,rfl,rfl,hp,rfl,_,rfl,x,d,a,P,W,rfl,ea,is.1,ok.1,kn,by omega,?_⟩
     refine aj ?_
     refine ⟨_,rfl,p,_,_,_,rfl,rfl,hp,rfl,_,rfl,y,d,b,P,W,rfl,eb,is.2,ok.2,kn,by omega,?_⟩
     refine aj ?_
     refine kR _ _ ?_
     refine ⟨_,rfl,_,rfl,_,_,rfl,rfl,_,rfl,_,rfl,rfl,Ki,fun L hL=>?_⟩
     have sL:=ag hL (.lst [.bl (decide (a.worth W < b.worth W)),.bl (decide (V.int (a.worth W)=V.int (b.worth W)))])
     have hp2:ar K (upd H L (.lst [.bl (decide (a.worth W < b.worth W)),.bl (decide (V.int (a.worth W)=V.int (b.worth W)))])) p _:=jJ.at h sL
     refine ⟨_,rfl,p,_,_,_,rfl,rfl,hp2,rfl,rfl,.inr ⟨_,rfl,L,_,_,_,rfl,rfl,aA.of ae,rfl,?_⟩⟩
     exact q _ sL
theorem xR (s:Src K mg "_law_holds" sHo)(m_int:mg "int"=none)(WO0:aC P w K mg base "_law_worth_of" ["told","known"] 31 (fN K 30)):∀n:Nat,aC P w K mg base "_law_holds" ["told","known"] (n + 31) (jc K n):=by
 obtain ⟨f,fd,F,m⟩:=s
 have b:Binds K fd ["told","known"] []:=f6 F fun _ _ _ _ _ _ _ _=>rfl
 intro n
 have all:aI P w K mg base CX0 (n + 31) f fd ["told","known"] (jc K n):=by
   induction n with
   | zero=>exact vh
   | succ n ih=>exact AK F m_int WO0 ⟨f,fd,ih,F.kp,b,m⟩
 exact ⟨f,fd,all,F.kp,b,m⟩
def iF:Sp:=fun vs H Q _=>∃(p B I N wa:Addr) (word:Str) (vb:List V) (bs:List (Str×Int)) (ws:List Int),vs=[.ref p,.str word,.ref wa]/\H p=some (.tup [.ref B,.ref I,.ref N])/\H B=some (.lst vb)/\Paired (cw H) vb bs/\H wa=some (.tup (ws.map V.int))/\bs.length=ws.length/\ws.length<=4/\∀(D:Addr) (H':Hp),ah H H'->H D=none->H' D=some (.dT (putAllT [] (dX word bs ws)))->Q (.ref D) H'
theorem CS:az ["program","word","worths"] ["program","word","worths"] (af sBn):=⟨rfl,rfl,rfl,by decide +kernel,rfl,by decide +kernel,by decide +kernel⟩
theorem rq:(af sBn).names.lookup (Eb "dict")=some .globalImplicit:=by decide +kernel
theorem uK:(af sBn).names.lookup (Eb "zip")=some .globalImplicit:=by decide +kernel
theorem AD {f:Addr}{fd:FuncData}(F:bQ K "_law_by_names" "_law_by_names" sBn f fd)(m_dict:mg "dict"=none)(m_zip:mg "zip"=none):aI P w K mg base CX0 1 f fd ["program","word","worths"] iF:=by
 refine F.ok CS (fun vs H Q E h=>?_) (fun cdv A outer s H vs Q E hr h=>?_)
 · obtain ⟨p,B,I,N,wa,word,vb,bs,ws,rfl,_⟩:=h
   rfl
 · obtain ⟨p,B,I,N,wa,word,vb,bs,ws,rfl,hp,hB,pb,hw,bw,w4,q⟩:=h
   have vbl:=Paired.length pb
   refine cu ⟨_,(Ij (Im (Jb (L3.uy (bz hr _ (by decide))) rq m_dict (by decide +kernel) (Ic (IS [none,none,some 1] ["box","worth","word"] (show av _ (af sBn) from ⟨rfl,by decide +kernel,by decide +kernel,by decide +kernel⟩) (by rfl) (Jq false true uK m_zip (Ic (Ii Ik (Ib 0) Ig) (Ic (Ib 2) Ie))) (fun _ _ _ _ _=>⟨(IU 2 (IC (Iq 0 (show (["box","worth","word"]:List Str).Nodup from by decide +kernel)) (IC (Iq 1 (show (["box","worth","word"]:List Str).Nodup from by decide +kernel)) IV))),IX,(IA (Ic (IA (Ic (Ib 2) (Ic (Ii Ik (Ib 0) Ig) Ie))) (Ic (Ib 1) Ie)))⟩)) Ie)))),?_⟩
   refine ⟨_,rfl,p,_,_,_,rfl,rfl,ar.of hp,rfl,_,rfl,B,wa,rfl,⟨_,aA.of hB⟩,⟨_,ar.of hw⟩,fun l hl=>?_⟩
   refine fk (xs:=vb) (ys:=ws.map V.int) (by rw [Ea]; omega) (fun (i:Nat) Hx=>ah H Hx/\∃xs,Hx l=some (.lst xs)/\Paired (nz Hx) xs ((dX word bs ws).take i)) ⟨ag hl _,[],ae,.nil⟩ (fun i Hx _ z=>⟨aA.of (z.1 _ _ hB),ar.of (z.1 _ _ hw)⟩) (fun i x0 y0 pp Hx hx hy z hpp=>?_) (fun Hx z=>?_)
   · obtain ⟨sx,xs,gl,px⟩:=z
     have hil:i < vb.length:=(List.getElem?_eq_some_iff.mp hx).1
     obtain ⟨b,hbi,pb0,rfl,hpb⟩:=Paired.get pb hx
     obtain ⟨w0,hw0,rfl⟩:=aT hy
     have sp:=ag hpp (.tup [.ref pb0,.int w0])
     have gp:(upd Hx pp (.tup [.ref pb0,.int w0])) pp=some (.tup [.ref pb0,.int w0]):=ae
     generalize upd Hx pp (.tup [.ref pb0,.int w0])=Hy at sp gp ⊢
     have sxy:=aa sx sp
     refine ⟨pp,_,rfl,ar.of gp,rfl,_,_,rfl,_,_,rfl,rfl,?_⟩
     refine bL (A:=fun H5=>cj _ l _ H5 _) ?_
     refine ⟨_,rfl,_,rfl,pb0,_,_,_,rfl,rfl,ar.of (sxy _ _ hpb),rfl,Ki,fun kt hkt=>?_⟩
     have sk:=ag hkt (.tup [.str word,.str b.1])
     have gk:(upd Hy kt (.tup [.str word,.str b.1])) kt=some (.tup [.str word,.str b.1]):=ae
     generalize upd Hy kt (.tup [.str word,.str b.1])=Hz at sk gk ⊢
     refine ⟨_,rfl,Ki,fun pr hpr=>?_⟩
     have sr:=ag hpr (.tup [.ref kt,.int w0])
     have gr:(upd Hz pr (.tup [.ref kt,.int w0])) pr=some (.tup [.ref kt,.int w0]):=ae
     have gkr:=sr _ _ gk
     generalize upd Hz pr (.tup [.ref kt,.int w0])=Hw at sr gr gkr ⊢
     have glw:=sr _ _ (sk _ _ (sp _ _ gl))
     have sxw:=aa sp (aa sk sr)
     have hxl:=Paired.length px
     rw [Eo] at hxl
     refine ⟨_,glw,ax (by omega),aF (Pv:=fun (i:Nat) Hx=>ah H Hx/\∃xs,Hx l=some (.lst xs)/\Paired (nz Hx) xs ((dX word bs ws).take i)) (by repeat' constructor) hil ⟨aE (aa sx sxw) hl,xs++[.ref pr],ae,?_⟩⟩
     have tkl:TK Hw (upd Hw l (.lst (xs++[.ref pr]))):=TW.TK.lst glw
     rw [Er,oi bs ws i b w0 hbi hw0]
     exact Paired.snoc (Paired.mapP px fun _ _ ⟨a,c,e1,e2,e3⟩=>⟨a,c,e1,tkl _ _ (sxw _ _ e2),tkl _ _ (sxw _ _ e3)⟩) ⟨pr,kt,rfl,tkl _ _ gr,tkl _ _ gkr⟩
   obtain ⟨sx,xs,gl,px⟩:=z
   rw [EI (by rw [cB bs ws bw]; omega)] at px
   refine ⟨l,xs,_,rfl,gl,px,fun D hD=>?_⟩
   exact q D _ (ck sx hD) (ai sx hD) ae
theorem xJ (s:Src K mg "_law_by_names" sBn)(m_dict:mg "dict"=none)(m_zip:mg "zip"=none):aC P w K mg base "_law_by_names" ["program","word","worths"] 1 iF:=
 let ⟨f,fd,F,m⟩:=s
 ⟨f,fd,AD F m_dict m_zip,F.kp,iW F fun _ _ _ _ _ _ _ _ _=>rfl,m⟩
/-- the worths of both -/
def W2 (bs:List (Str×Int))(ms ys:List Int):Str->Str->Int:=fun t x=>if t="mine" then mq bs ms x else mq bs ys x
def P2 (bs:List (Str×Int)):Str->Str->Prop:=fun t x=>(t="mine"\/t="yours")/\x∈bs.map (·.1)
/-- a program's boxes lie so -/
structure Bx (H:Hp)(p:Addr)(bs:List (Str×Int)):Prop where
 ex:∃(B I N:Addr) (vb:List V),H p=some (.tup [.ref B,.ref I,.ref N])/\H B=some (.lst vb)/\Paired (cw H) vb bs
theorem Bx.same {H H':Hp}{p:Addr}{bs:List (Str×Int)}(s:ah H H')(h:Bx H p bs):Bx H' p bs:=let ⟨B,I,N,vb,a,b,c⟩:=h.ex; ⟨B,I,N,vb,s _ _ a,s _ _ b,Paired.mapP c fun _ _ z=>Tp.keep (ah.tk s) z⟩
theorem j9 {bs:List (Str×Int)}{ms ys:List Int}{H:Hp}{D:Addr}(nd:(bs.map (·.1)).Nodup)(l1:bs.length=ms.length)(l2:bs.length=ys.length)(h:H D=some (.dT (putAllT (putAllT [] (dX "mine" bs ms)) (dX "yours" bs ys)))):Kn H D (P2 bs) (W2 bs ms ys):=by
 refine ⟨_,h,fun t x ⟨ht,hx⟩=>⟨.inr ht,?_⟩⟩
 rcases ht with rfl | rfl
 · rw [iB _ _ _ (fun z=>by
     obtain ⟨y,_,e⟩:=eQ bs ys _ z
     injection e with e _
     injection e with e
     exact absurd e (by decide)),eV bs ms [] x l1 nd hx]
   rfl
 · rw [eV bs ys _ x l2 nd hx]
   rfl
theorem lO:∀(kvs d:List (List Key×V)),(kvs.map (·.1)).Nodup->(∀k∈kvs.map (·.1),a9 d k=none)->putAllT d kvs=d++kvs
 | [],d,_,_=>(E7 d).symm
 | p :: r,d,nd,h=>by
   rw [EJ,Fx] at nd
   show putAllT (putK d p.1 p.2) r=_
   rw [lO r _ nd.2 (fun k hk=>by
     rw [cp,if_neg (fun (z:k=p.1)=>nd.1 (z ▸ hk))]
     exact h k (List.mem_cons.mpr (.inr hk))),lN p.2 (h p.1 (List.mem_cons.mpr (.inl rfl))),List.append_assoc]
   rfl
theorem jv {word:Str}:∀(bs:List (Str×Int)) (ws:List Int),(bs.map (·.1)).Nodup->((dX word bs ws).map (·.1)).Nodup
 | [],_,_=>Gy
 | _ :: _,[],_=>Gy
 | b :: bs,w :: ws,nd=>by
   rw [EJ,Fx] at nd
   show ([.inr word,.inr b.1] :: (dX word bs ws).map (·.1)).Nodup
   refine List.nodup_cons.mpr ⟨fun z=>?_,jv bs ws nd.2⟩
   obtain ⟨x,hx,e⟩:=eQ bs ws _ z
   injection e with _ e
   injection e with e _
   injection e with e
   exact nd.1 (e ▸ hx)
theorem dN {word:Str}(bs:List (Str×Int))(ws:List Int)(_:bs.length=ws.length)(nd:(bs.map (·.1)).Nodup):putAllT [] (dX word bs ws)=dX word bs ws:=lO _ [] (jv bs ws nd) (fun _ _=>rfl)
def qC:Sp:=fun vs H Q _=>∃(p p2 wa wb:Addr) (bs:List (Str×Int)) (ms ys:List Int),vs=[.ref p,.ref p2,.ref wa,.ref wb]/\Bx H p bs/\Bx H p2 bs/\H wa=some (.tup (ms.map V.int))/\H wb=some (.tup (ys.map V.int))/\bs.length=ms.length/\bs.length=ys.length/\bs.length<=4/\(bs.map (·.1)).Nodup/\∀(D:Addr) (H':Hp),ah H H'->H D=none->Kn H' D (P2 bs) (W2 bs ms ys)->Q (.ref D) H'
theorem Bp:az ["one","other","mine","yours","known"] ["one","other","mine","yours"] (af sBo):=⟨rfl,rfl,rfl,by decide +kernel,rfl,by decide +kernel,by decide +kernel⟩
theorem cM:(af sBo).names.lookup (Eb "_law_by_names")=some .globalImplicit:=by decide +kernel
theorem AE {f:Addr}{fd:FuncData}(F:bQ K "_law_both" "_law_both" sBo f fd)(BN:aC P w K mg base "_law_by_names" ["program","word","worths"] 1 iF):aI P w K mg base CX0 2 f fd ["one","other","mine","yours"] qC:=by
 refine F.ok Bp (fun vs H Q E h=>?_) (fun cdv A outer s H vs Q E hr h=>?_)
 · obtain ⟨p,p2,wa,wb,bs,ms,ys,rfl,_⟩:=h
   rfl
 · obtain ⟨p,p2,wa,wb,bs,ms,ys,rfl,bx,bx2,hw,hw2,l1,l2,l4,nd,q⟩:=h
   obtain ⟨B,I,N,vb,hp,hB,pb⟩:=bx.ex
   refine cu ⟨_,(Ih (Io 4 Bp.nd (Il BN hr cM (Ic (Ib 0) (Ic Ip (Ic (Ib 2) Ie)))))
     (Ih (Jd (JJ (bz hr _ (by decide)) (Ib 4) (Il BN hr cM (Ic (Ib 1) (Ic Ip (Ic (Ib 3) Ie))))))
     (Ij (Im (Ib 4))))),?_⟩
   refine ao fun Rk kR=>?_
   refine ⟨_,rfl,_,rfl,p,B,I,N,wa,"mine",vb,bs,ms,rfl,hp,hB,pb,hw,l1,by omega,fun D H1 s1 nD gD=>?_⟩
   refine aj ?_
   refine kR _ _ ?_
   refine aq [some (.ref p),some (.ref p2),some (.ref wa),some (.ref wb),some (.ref D)] rfl ?_
   refine ao fun Rk kR=>?_
   obtain ⟨B2,I2,N2,vb2,hp2,hB2,pb2⟩:=(bx2.same s1).ex
   refine ⟨_,rfl,D,rfl,.inr ⟨_,.inl gD⟩,_,rfl,_,rfl,p2,B2,I2,N2,wb,"yours",vb2,bs,ys,rfl,hp2,hB2,pb2,s1 _ _ hw2,l2,by omega,fun D2 H2 s2 nD2 gD2=>?_⟩
   have DD:D≠D2:=au gD nD2
   have k1:=cB (word:="mine") bs ms l1
   have k2:=cB (word:="yours") bs ys l2
   have gDz:=s2 _ _ gD
   have n1:=dN (word:="mine") bs ms l1 nd
   have n2:=dN (word:="yours") bs ys l2 nd
   rw [n1] at gDz
   rw [n2] at gD2
   refine ⟨D2,_,_,rfl,gDz,gD2,DD,(by cases bs with | nil=>exact .inr rfl | cons b r=>cases ms with | nil=>simp at l1 | cons m r2=>exact .inl (fun z=>nomatch z)),?_,?_⟩
   · have:1000<=sizeLine:=by decide
     omega
   refine kR _ _ ?_
   refine ⟨_,rfl,?_⟩
   refine q D _ (aE (aa s1 s2) nD) nD (j9 nd l1 l2 ?_)
   rw [n1]
   exact ae
theorem xK (s:Src K mg "_law_both" sBo)(BN:aC P w K mg base "_law_by_names" ["program","word","worths"] 1 iF):aC P w K mg base "_law_both" ["one","other","mine","yours"] 2 qC:=
 let ⟨f,fd,F,m⟩:=s
 ⟨f,fd,AE F BN,F.kp,oW F fun _ _ _ _ _ _ _ _ _ _=>rfl,m⟩
end
end TW
set_option Elab.async false
set_option linter.all false
set_option maxRecDepth 100000
set_option exponentiation.threshold 4000
set_option maxHeartbeats 1000000
namespace TW
open PySem L2
section
variable {P:Program}{w:World}{K:D9}{mg:Str->Option Value}{base:Heap}
abbrev sSt:Stmt:=top 32
abbrev sBp:Stmt:=top 35
abbrev sCt:Stmt:=top 36
theorem rm {t1 t2:Bool}{K:D9}{a b:Addr}{xs ys:List V}{g:TG}{tb:TS}{D:L2.Ends}{σ:St}{H:Hp}(hlen:xs.length=ys.length)(Pv:Nat->St->Hp->Prop)(h0:Pv 0 σ H)(hl:∀i σ H,i<=xs.length->Pv i σ H->Sq t1 K H a xs/\Sq t2 K H b ys)
   (hs:∀i x y p σ H,xs[i]? = some x->ys[i]? = some y->Pv i σ H->H p=none->g (.ref p) σ (upd H p (.tup [x,y])) fun σ2 H2=>tb { D with nx:=Pv (i + 1),ct:=Pv (i + 1),bk:=D.nx } σ2 H2) (hd:∀σ H,Pv xs.length σ H->D.nx σ H) :
   ∃W:Nat->Nat->St->Hp->Prop,(∃m,W 0 m σ H)/\∀i m σ H,W i m σ H ->
     ((oU t1 t2 K a b).stop i H/\D.nx σ H)\/((oU t1 t2 K a b).go i H/\∃N:St->Hp->Prop,(∀σ' H',N σ' H'->∃m',m' < m/\W (i + 1) m' σ' H')/\∀x H',(oU t1 t2 K a b).yld i H x H'->g x σ H' fun σ2 H2=>tb { D with nx:=N,ct:=N,bk:=D.nx } σ2 H2):=by
 refine ⟨fun i m σ H=>m=xs.length - i/\i<=xs.length/\Pv i σ H,⟨xs.length,by simp,EC _,h0⟩,?_⟩
 rintro i m σ H ⟨rfl,hi,p⟩
 obtain ⟨q1,q2⟩:=hl i σ H hi p
 by_cases hlt:i < xs.length
 · refine .inr ⟨⟨xs,ys,xs[i],ys[i]'(hlen ▸ hlt),q1,q2,by simp [hlt],by simp [hlen ▸ hlt]⟩,Pv (i + 1),fun σ' H' p'=>⟨xs.length - (i + 1),by omega,rfl,hlt,p'⟩,fun x H' y=>?_⟩
   obtain ⟨pp,x1,y1,hn,rfl,rfl,k⟩:=y
   obtain ⟨k1,k2⟩:=k xs ys q1 q2
   exact hs i x1 y1 pp σ H k1 k2 p hn
 · have e:i=xs.length:=by omega
   subst e
   exact .inl ⟨⟨xs,ys,q1,q2,.inl (Ee _)⟩,hd σ H p⟩
/-! ### _law_step -/
def dB (bs:List (Str×Int))(ws:List Int)(x:Str)(t:Int):List Int:=List.zipWith (fun b w=>if b.1=x then t % b.2 else w) bs ws
theorem tj {bs:List (Str×Int)}{ws:List Int}{x:Str}{t:Int}{i:Nat}{b:Str×Int}{w:Int}(h1:bs[i]? = some b)(h2:ws[i]? = some w):(dB bs ws x t)[i]? = some (if b.1=x then t % b.2 else w):=by
 unfold dB
 rw [List.getElem?_zipWith,h1,h2]
theorem lP {bs:List (Str×Int)}{ws:List Int}{x:Str}{t:Int}(h:bs.length=ws.length):(dB bs ws x t).length=bs.length:=by
 unfold dB
 rw [List.length_zipWith]
 omega
def wB (bs:List (Str×Int))(ws:List Int):Str->Str->Int:=fun _ y=>mq bs ws y
/-- what is said,the place and worths behind a step; none at an end -/
def fY (bs:List (Str×Int))(ws:List Int):Np->Option (List Int×Int×List Int)
 | .put x s n=>some ([],n,dB bs ws x (s.worth (wB bs ws)))
 | .say s n=>some ([s.worth (wB bs ws)],n,ws)
 | .test c n o=>some ([],if c.holds (wB bs ws) then n else o,ws)
 | .pick _ n=>some ([],n,ws)
 | .fin=>none
structure xm (ns:List Str)(e:Np):Prop where
 is:e.isN
 td:∀x∈e.tolds,x.okIn (bxN ns)/\x.dep<=3
/-- a program that lies so,its boxes and nodes -/
structure oV (H:Hp)(p:Addr)(bs:List (Str×Int))(nds:List Np):Prop where
 ex:∃(B I N:Addr) (vb vn:List V) (ins:List Str),H p=some (.tup [.ref B,.ref I,.ref N])/\H B=some (.lst vb)/\Paired (cw H) vb bs/\H N=some (.lst vn)/\Paired (aG H) vn nds/\H I=some (.lst (ins.map V.str))
theorem oV.same {H H':Hp}{p:Addr}{bs:List (Str×Int)}{nds:List Np}(s:ah H H')(h:oV H p bs nds):oV H' p bs nds:=
 let ⟨B,I,N,vb,vn,ins,a,b,c,d,e,f⟩:=h.ex
 ⟨B,I,N,vb,vn,ins,s _ _ a,s _ _ b,Paired.mapP c fun _ _ z=>Tp.keep (ah.tk s) z,s _ _ d,Paired.mapP e fun _ _ z=>aG.keep (ah.tk s) z,s _ _ f⟩
theorem oV.bx {H:Hp}{p:Addr}{bs:List (Str×Int)}{nds:List Np}(h:oV H p bs nds):Bx H p bs:=
 let ⟨B,I,N,vb,_,_,a,b,c,_⟩:=h.ex
 ⟨B,I,N,vb,a,b,c⟩
structure BR (bs:List (Str×Int)):Prop where
 l4:bs.length<=4
 nd:(bs.map (·.1)).Nodup
 sz:∀b∈bs,1<=b.2
 s9:∀b∈bs,b.2<=16
def qD:Sp:=fun vs H Q _=>∃(p wa:Addr) (j:Nat) (bs:List (Str×Int)) (nds:List Np) (ws:List Int) (e:Np),vs=[.ref p,.int (j:Int),.ref wa]/\oV H p bs nds/\nds[j]? = some e/\xm (bs.map (·.1)) e/\H wa=some (.tup (ws.map V.int))/\bs.length=ws.length/\BR bs /\
 (fY bs ws e=none->∀H',ah H H'->Q .aU H')/\∀(s:List Int) (n:Int) (ws':List Int),fY bs ws e=some (s,n,ws')->∀(r l1 l2:Addr) (H':Hp),ah H H'->H' r=some (.tup [.ref l1,.int n,.ref l2])->H' l1=some (.lst (s.map V.int))->H' l2=some (.tup (ws'.map V.int))->Q (.ref r) H'
theorem yk {bs:List (Str×Int)}{ws:List Int}{H:Hp}{D:Addr}(nd:(bs.map (·.1)).Nodup)(l1:bs.length=ws.length)(h:H D=some (.dT (putAllT [] (dX "box" bs ws)))):Kn H D (bxN (bs.map (·.1))) (wB bs ws):=by
 refine ⟨_,h,fun t x hx=>?_⟩
 obtain ⟨rfl,hx⟩:=hx
 exact ⟨.inl rfl,eV bs ws [] x l1 nd hx⟩
theorem lW:az ["program","place","worths","node","known","found","name","size","worth"] ["program","place","worths"] (af sSt):=⟨rfl,rfl,rfl,by decide +kernel,rfl,by decide +kernel,by decide +kernel⟩
theorem fE:(af sSt).names.lookup (Eb "_law_by_names")=some .globalImplicit:=by decide +kernel
theorem i8:(af sSt).names.lookup (Eb "_law_holds")=some .globalImplicit:=by decide +kernel
theorem cT:(af sSt).names.lookup (Eb "_law_worth_of")=some .globalImplicit:=by decide +kernel
theorem uQ:(af sSt).names.lookup (Eb "int")=some .globalImplicit:=by decide +kernel
theorem pO:(af sSt).names.lookup (Eb "tuple")=some .globalImplicit:=by decide +kernel
theorem uR:(af sSt).names.lookup (Eb "zip")=some .globalImplicit:=by decide +kernel
theorem AU {f:Addr}{fd:FuncData}(F:bQ K "_law_step" "_law_step" sSt f fd)(m_int:mg "int"=none)(m_zip:mg "zip"=none)(m_tuple:mg "tuple"=none)(BN0:aC P w K mg base "_law_by_names" ["program","word","worths"] 1 iF)(WO0:aC P w K mg base "_law_worth_of" ["told","known"] 31 (fN K 30))(HO:aC P w K mg base "_law_holds" ["told","known"] 51 (jc K 20)):aI P w K mg base CX0 52 f fd ["program","place","worths"] qD:=by
 refine F.ok lW (fun vs H Q E h=>?_) (fun cdv A outer s H vs Q E hr h=>?_)
 · obtain ⟨p,wa,j,bs,nds,ws,e,rfl,_⟩:=h
   rfl
 · obtain ⟨p,wa,j,bs,nds,ws,e,rfl,pg,hj,nt,hw,bw,bt,qn,qs⟩:=h
   have l4:=bt.l4
   have BN:=BN0.mono (show 1<=51 by omega)
   have WO:=WO0.mono (show 31<=51 by omega)
   obtain ⟨B,I,N,vb,vn,_,hp,hB,pb,hN,pn,_⟩:=pg.ex
   have hvl:=Paired.length pb
   have hvn:=Paired.length pn
   have hil:j < nds.length:=(List.getElem?_eq_some_iff.mp hj).1
   obtain ⟨x0,hx0⟩ : ∃x0,vn[j]? = some x0:=⟨vn[j]'(by omega),Eg (by omega)⟩
   obtain ⟨e1,hj1,hnd⟩:=Paired.get pn hx0
   cases hj.symm.trans hj1
   refine cu ⟨_,(Ih (Io 3 lW.nd (Ii IG (Ii Ik (Ib 0) Ig) (Ib 1)))
     (Ih (Io 4 lW.nd (Il BN hr fE (Ic (Ib 0) (Ic Ip (Ic (Ib 2) Ie)))))
     (Ih (Iv (Iu Iz (Ii Ik (Ib 3) Ig) Ip) (Ij (Im I9)) Iw)
     (Ih (Iv (Iu Iz (Ii Ik (Ib 3) Ig) Ip) (Ij (Im (IA (Ic (ID (Ic (Il WO hr cT (Ic (Ii Ik (Ib 3) Ig) (Ic (Ib 4) Ie))) Ie)) (Ic (Ii Ik (Ib 3) Ig) (Ic (Ib 2) Ie)))))) Iw)
     (Ih (Iv (Iu Iz (Ii Ik (Ib 3) Ig) Ip) (Ij (Im (IA (Ic (ID Ie) (Ic (Ii Ik (Ib 3) (IB Jj Ig (Jb L3.nJ uQ m_int (by decide +kernel) (Ic (Il HO hr i8 (Ic (Ii Ik (Ib 3) Ig) (Ic (Ib 4) Ie))) Ie)))) (Ic (Ib 2) Ie)))))) Iw)
     (Ih (Io 5 lW.nd (ID Ie))
     (Ih (IT (Jq false true uR m_zip (Ic (Ii Ik (Ib 0) Ig) (Ic (Ib 2) Ie))) (IU 2 (IC (IU 2 (IC (Iq 6 lW.nd) (IC (Iq 7 lW.nd) IV))) (IC (Iq 8 lW.nd) IV))) (Ih (Iv (Iu Iz (Ib 6) (Ii Ik (Ib 3) Ig)) (Ij (Io 8 lW.nd (IB Ji (Il WO hr cT (Ic (Ii Ik (Ib 3) Ig) (Ic (Ib 4) Ie))) (Ib 7)))) Iw)
     (Ij (Jd (Jm (Ib 5) (Ic (Ib 8) Ie))))))
     (Ij (Im (IA (Ic (ID Ie) (Ic (Ii Ik (Ib 3) Ig) (Ic (Jb Jr pO m_tuple (by decide +kernel) (Ic (Ib 5) Ie)) Ie))))))))))))),?_⟩
   refine ao fun Rk kR=>?_
   refine ⟨_,rfl,p,_,_,_,rfl,rfl,ar.of hp,rfl,_,rfl,N,_,_,_,rfl,rfl,aA.of hN,aM hx0,?_⟩
   refine aj ?_
   refine kR _ _ ?_
   clear kR
   refine aq [some (.ref p),some (.int (j:Int)),some (.ref wa),some x0,none,none,none,none,none] rfl ?_
   refine ao fun Rk kR=>?_
   refine ⟨_,rfl,_,rfl,p,B,I,N,wa,"box",vb,bs,ws,rfl,hp,hB,pb,hw,bw,by omega,fun D H1 s1 nD gD=>?_⟩
   refine aj ?_
   refine kR _ _ ?_
   clear kR
   refine aq [some (.ref p),some (.int (j:Int)),some (.ref wa),some x0,some (.ref D),none,none,none,none] rfl ?_
   refine ao fun Rk kR=>?_
   have kn:=yk bt.nd bw gD
   have hw1:=s1 _ _ hw
   replace hnd:=aG.keep (ah.tk s1) hnd
   match e,hnd,nt,qn,qs with
   | .fin,hnd,nt,qn,qs=>
     obtain ⟨x,rfl,hx⟩:=hnd
     refine ⟨_,rfl,x,_,_,_,rfl,rfl,ar.of hx,rfl,rfl,_,rfl,bG ?_⟩
     exact qn rfl _ s1
   | .say sm n,hnd,nt,qn,qs=>
     obtain ⟨u,⟨x,rfl,hx⟩,eu⟩:=hnd
     refine ⟨_,rfl,x,_,_,_,rfl,rfl,ar.of hx,rfl,rfl,_,rfl,iteF' (by decide) (kR _ _ ?_)⟩
     clear kR
     refine ao fun Rk kR=>?_
     refine ⟨_,rfl,x,_,_,_,rfl,rfl,ar.of hx,rfl,rfl,_,rfl,bG ?_⟩
     have td:=nt.td sm (List.mem_cons.mpr (.inl rfl))
     refine ⟨_,rfl,x,_,_,_,rfl,rfl,ar.of hx,rfl,_,rfl,u,D,sm,_,_,rfl,eu.ek,nt.is,td.1,kn,by omega,Kh,fun l1 hl1=>?_⟩
     have s2:=ag hl1 (.lst [.int (sm.worth (wB bs ws))])
     have g2:(upd H1 l1 (.lst [.int (sm.worth (wB bs ws))])) l1=some (.lst [.int (sm.worth (wB bs ws))]):=ae
     generalize upd H1 l1 (.lst [.int (sm.worth (wB bs ws))])=H2 at s2 g2 ⊢
     refine ⟨_,rfl,x,_,_,_,rfl,rfl,ar.of (s2 _ _ hx),rfl,_,rfl,Kj,fun r hr=>?_⟩
     have s3:=ag hr (.tup [.ref l1,.int n,.ref wa])
     exact qs _ _ _ rfl r l1 wa _ (aa s1 (aa s2 s3)) ae (s3 _ _ g2) (s3 _ _ (s2 _ _ hw1))
   | .test c n o,hnd,nt,qn,qs=>
     obtain ⟨u,⟨x,rfl,hx⟩,eu⟩:=hnd
     refine ⟨_,rfl,x,_,_,_,rfl,rfl,ar.of hx,rfl,rfl,_,rfl,iteF' (by decide) (kR _ _ ?_)⟩
     clear kR
     refine ao fun Rk kR=>?_
     refine ⟨_,rfl,x,_,_,_,rfl,rfl,ar.of hx,rfl,rfl,_,rfl,iteF' (by decide) (kR _ _ ?_)⟩
     clear kR
     refine ao fun Rk kR=>?_
     refine ⟨_,rfl,x,_,_,_,rfl,rfl,ar.of hx,rfl,rfl,_,rfl,bG ?_⟩
     have td:=nt.td c (List.mem_cons.mpr (.inl rfl))
     refine ⟨Kg,fun l1 hl1=>?_⟩
     have s2:=ag hl1 (.lst [])
     have g2:(upd H1 l1 (.lst [])) l1=some (.lst []):=ae
     generalize upd H1 l1 (.lst [])=H2 at s2 g2 ⊢
     refine ⟨_,rfl,_,rfl,x,_,_,_,rfl,rfl,ar.of (s2 _ _ hx),rfl,_,rfl,u,D,c,_,_,rfl,EK.keep (ah.tk s2) eu.ek,nt.is,td.1,kn.same s2,by omega,by omega,fun H3 s3=>?_⟩
     have sw:=aa s2 s3
     refine .inr ⟨_,rfl,_,_,rfl,rfl,?_⟩
     have fin:∀z:Int,z=(if c.holds (wB bs ws) then n else o)->∀(r:Addr),H3 r=none->Q (.ref r) (upd H3 r (.tup [.ref l1,.int z,.ref wa])):=fun z ez r hr=>by
       have s4:=ag hr (.tup [.ref l1,.int z,.ref wa])
       subst ez
       exact qs _ _ _ rfl r l1 wa _ (aa s1 (aa sw s4)) ae (s4 _ _ (s3 _ _ g2)) (s4 _ _ (sw _ _ hw1))
     have hx3:=sw _ _ hx
     cases hh:c.holds (wB bs ws) with
     | true=>exact ⟨x,_,_,.int n,rfl,rfl,ar.of hx3,rfl,_,rfl,Kj,fun r hr=>fin n (by rw [hh]; rfl) r hr⟩
     | false=>exact ⟨x,_,_,.int o,rfl,rfl,ar.of hx3,rfl,_,rfl,Kj,fun r hr=>fin o (by rw [hh]; rfl) r hr⟩
   | .put y sm n,hnd,nt,qn,qs=>
     obtain ⟨u,⟨x,rfl,hx⟩,eu⟩:=hnd
     refine ⟨_,rfl,x,_,_,_,rfl,rfl,ar.of hx,rfl,rfl,_,rfl,iteF' (by decide) (kR _ _ ?_)⟩
     clear kR
     refine ao fun Rk kR=>?_
     refine ⟨_,rfl,x,_,_,_,rfl,rfl,ar.of hx,rfl,rfl,_,rfl,iteF' (by decide) (kR _ _ ?_)⟩
     clear kR
     refine ao fun Rk kR=>?_
     refine ⟨_,rfl,x,_,_,_,rfl,rfl,ar.of hx,rfl,rfl,_,rfl,iteF' (by decide) (kR _ _ ?_)⟩
     clear kR
     refine ao fun Rk kR=>?_
     refine ⟨Kg,fun F0 hF0=>?_⟩
     have s2:=ag hF0 (.lst [])
     have g2:(upd H1 F0 (.lst [])) F0=some (.lst []):=ae
     generalize upd H1 F0 (.lst [])=H2x at s2 g2 ⊢
     refine aj ?_
     refine kR _ _ ?_
     clear kR
     refine aq [some (.ref p),some (.int (j:Int)),some (.ref wa),some (.ref x),some (.ref D),some (.ref F0),none,none,none] rfl ?_
     refine ao fun Rk kR=>?_
     have s12:=aa s1 s2
     have hx2:=s2 _ _ hx
     have tdx:=nt.td _ (List.mem_cons.mpr (.inl rfl))
     have tds:=nt.td sm (List.mem_cons.mpr (.inr (List.mem_cons.mpr (.inl rfl))))
     refine ⟨_,rfl,p,_,_,_,rfl,rfl,ar.of (s12 _ _ hp),rfl,_,rfl,B,wa,rfl,⟨_,aA.of (s12 _ _ hB)⟩,⟨_,ar.of (s12 _ _ hw)⟩,?_⟩
     refine rm (xs:=vb) (ys:=ws.map V.int) (by rw [Ea]; omega) (fun i σ H2=>(∃o6 o7 o8,σ=[some (.ref p),some (.int (j:Int)),some (.ref wa),some (.ref x),some (.ref D),some (.ref F0),o6,o7,o8])/\ah H1 H2/\H2 F0=some (.lst (((dB bs ws y (sm.worth (wB bs ws))).take i).map V.int))) ⟨⟨_,_,_,rfl⟩,s2,g2⟩ (fun i σ H2 _ z=>⟨aA.of (z.2.1 _ _ (s1 _ _ hB)),ar.of (z.2.1 _ _ hw1)⟩) (fun i a0 b0 pr σ H2 ha hb z hpr=>?_) (fun σ H2 z=>?_)
     · obtain ⟨⟨o6,o7,o8,rfl⟩,sx,gF⟩:=z
       have hil2:i < vb.length:=(List.getElem?_eq_some_iff.mp ha).1
       obtain ⟨b,hbi,pb0,rfl,hpb⟩:=Paired.get pb ha
       obtain ⟨w0,hw0,rfl⟩:=aT hb
       have hpos:=bt.sz b (Ef hbi)
       have hg:=tj (x:=y) (t:=sm.worth (wB bs ws)) hbi hw0
       have sp:=ag hpr (.tup [.ref pb0,.int w0])
       have gp:(upd H2 pr (.tup [.ref pb0,.int w0])) pr=some (.tup [.ref pb0,.int w0]):=ae
       generalize upd H2 pr (.tup [.ref pb0,.int w0])=H3 at sp gp ⊢
       have s13:=aa sx sp
       refine ⟨pr,_,rfl,ar.of gp,rfl,_,_,rfl,⟨pb0,_,rfl,ar.of (s13 _ _ (s1 _ _ hpb)),rfl,_,_,rfl,_,_,rfl,rfl,_,_,rfl,rfl,?_⟩⟩
       refine aq [some (.ref p),some (.int (j:Int)),some (.ref wa),some (.ref x),some (.ref D),some (.ref F0),some (.str b.1),some (.int b.2),some (.int w0)] rfl ?_
       refine ao fun Rk kR=>?_
       have gF3:=sp _ _ gF
       have ll:(((dB bs ws y (sm.worth (wB bs ws))).take i).map V.int).length<=900:=by rw [Ea,Eo,lP bw]; omega
       have fin:∀w1:Int,w1=(if b.1=y then sm.worth (wB bs ws) % b.2 else w0)->Rk [some (.ref p),some (.int (j:Int)),some (.ref wa),some (.ref x),some (.ref D),some (.ref F0),some (.str b.1),some (.int b.2),some (.int w1)] H3:=fun w1 e1=>by
         refine kR _ _ ?_
         refine ⟨_,rfl,.inl ⟨rfl,_,aA.of gF3⟩,_,rfl,F0,_,_,rfl,rfl,gF3,ax (by omega),⟨_,_,_,rfl⟩,aE (aa sx sp) hF0,?_⟩
         rw [ae,Er,hg,← e1,En]
         rfl
       refine ⟨_,rfl,_,rfl,x,_,_,_,rfl,rfl,ar.of (s13 _ _ hx),rfl,rfl,_,rfl,?_⟩
       refine bq (fun c=>?_) (fun c=>?_)
       · have c:b.1=y:=by
           have:=of_decide_eq_true c
           injection this
         refine ⟨_,rfl,x,_,_,_,rfl,rfl,ar.of (s13 _ _ hx),rfl,_,rfl,u,D,sm,_,_,rfl,EK.keep (ah.tk s13) eu.ek,nt.is,tds.1,kn.same s13,by omega,_,rfl,_,_,rfl,rfl,(by show (0:Int) < b.2; omega),?_⟩
         refine aj ?_
         exact fin _ (by rw [if_pos c])
       · have c:¬ b.1=y:=fun z=>c (decide_eq_true (congrArg V.str z))
         exact fin _ (by rw [if_neg c])
     · obtain ⟨⟨o6,o7,o8,rfl⟩,sx,gF⟩:=z
       rw [hvl,← lP (x:=y) (t:=sm.worth (wB bs ws)) bw,EL] at gF
       refine kR _ _ ?_
       refine ⟨Kg,fun l1 hl1=>?_⟩
       have s3:=ag hl1 (.lst [])
       have g3:(upd H2 l1 (.lst [])) l1=some (.lst []):=ae
       generalize upd H2 l1 (.lst [])=H3 at s3 g3 ⊢
       have s13:=aa sx s3
       refine ⟨_,rfl,x,_,_,_,rfl,rfl,ar.of (s13 _ _ hx),rfl,_,rfl,F0,_,rfl,(.inl (.inl (s3 _ _ gF))),fun l2 hl2=>?_⟩
       have s4:=ag hl2 (.tup ((dB bs ws y (sm.worth (wB bs ws))).map V.int))
       have g4:(upd H3 l2 (.tup ((dB bs ws y (sm.worth (wB bs ws))).map V.int))) l2=some (.tup ((dB bs ws y (sm.worth (wB bs ws))).map V.int)):=ae
       generalize upd H3 l2 (.tup ((dB bs ws y (sm.worth (wB bs ws))).map V.int))=H4 at s4 g4 ⊢
       refine ⟨Kj,fun r hr=>?_⟩
       have s5:=ag hr (.tup [.ref l1,.int n,.ref l2])
       exact qs _ _ _ rfl r l1 l2 _ (aa s1 (aa s13 (aa s4 s5))) ae (s5 _ _ (s4 _ _ g3)) (s5 _ _ g4)
   | .pick y n,hnd,nt,qn,qs=>exact nt.is.elim
theorem xW (s:Src K mg "_law_step" sSt)(m_int:mg "int"=none)(m_zip:mg "zip"=none)(m_tuple:mg "tuple"=none)(BN0:aC P w K mg base "_law_by_names" ["program","word","worths"] 1 iF)(WO0:aC P w K mg base "_law_worth_of" ["told","known"] 31 (fN K 30))(HO:aC P w K mg base "_law_holds" ["told","known"] 51 (jc K 20)):aC P w K mg base "_law_step" ["program","place","worths"] 52 qD:=
 let ⟨f,fd,F,m⟩:=s
 ⟨f,fd,AU F m_int m_zip m_tuple BN0 WO0 HO,F.kp,iW F fun _ _ _ _ _ _ _ _ _=>rfl,m⟩
/-! ### the entries by their places -/
structure qP (tO:Addr)(H:Hp)(D:Addr)(sm:V)(lv:List Lv):Prop where
 ex:∃kvs,H D=some (.dT kvs)/\kvs.length<=lv.length/\(∀(k:List Key) (v:V),a9 kvs k=some v->∃(l:Addr) (xs:List V) (p q:Int),k=[.inl p,.inl q]/\v=.ref l/\H l=some (.lst xs)/\xs≠[]/\xs.length<=lv.length/\∀x∈xs,∃e∈lv,e.1=p/\e.2.1=q/\bE tO H x sm e)/\(∀e∈lv,∃v,a9 kvs [.inl e.1,.inl e.2.1]=some v)/\∀k∈kvs.map (·.1),∃e∈lv,k=[.inl e.1,.inl e.2.1]
theorem qP.same {tO:Addr}{H H':Hp}{D:Addr}{sm:V}{lv:List Lv}(s:ah H H')(h:qP tO H D sm lv):qP tO H' D sm lv:=
 let ⟨kvs,a,b,c,d,e⟩:=h.ex
 ⟨kvs,s _ _ a,b,fun k v hv=>let ⟨l,xs,p,q,e1,e2,e3,e4,e5,e6⟩:=c k v hv; ⟨l,xs,p,q,e1,e2,s _ _ e3,e4,e5,fun x hx=>let ⟨f,f1,f2,f3,f4⟩:=e6 x hx; ⟨f,f1,f2,f3,bE.keep (ah.tk s) f4⟩⟩,d,e⟩
theorem qx (kvs:List (List Key×V))(k:List Key)(v:V):∀j∈(putK kvs k v).map (·.1),j=k\/j∈kvs.map (·.1):=fun j hj=>by
 cases h:a9 kvs k with
 | none=>
   rw [lN v h,En] at hj
   rcases List.mem_append.mp hj with z | z
   · exact .inr z
   · exact .inl (List.mem_singleton.mp z)
 | some u=>
   by_cases e:j=k
   · exact .inl e
   · refine .inr ?_
     have:(a9 (putK kvs k v) j).isSome:=by
       rw [← cm]
       obtain ⟨p,hp,rfl⟩:=List.mem_map.mp hj
       exact List.any_eq_true.mpr ⟨p,hp,decide_eq_true rfl⟩
     rw [cp,if_neg e] at this
     obtain ⟨u2,hu2⟩:=Option.isSome_iff_exists.mp this
     exact oQ hu2
def m5 (tO:Addr):Sp:=fun vs H Q _=>∃(P':Addr) (ps:List V) (sm:V) (lv:List Lv),vs=[.ref P']/\H P'=some (.lst ps)/\Paired (fun v e=>bE tO H v sm e) ps lv/\lv.length<=900/\∀(D:Addr) (H':Hp),ah H H'->H D=none->qP tO H' D sm lv->Q (.ref D) H'
theorem zq:az ["paper","there","entry"] ["paper"] (af sBp):=⟨rfl,rfl,rfl,by decide +kernel,rfl,by decide +kernel,by decide +kernel⟩
theorem AF {tO:Addr}{f:Addr}{fd:FuncData}(F:bQ K "_law_by_places" "_law_by_places" sBp f fd)  : aI P w K mg base CX0 1 f fd ["paper"] (m5 tO):=by
 refine F.ok zq (fun vs H Q E h=>?_) (fun cdv A outer s H vs Q E hr h=>?_)
 · obtain ⟨P0,ps,sm,lv,rfl,_⟩:=h
   rfl
 · obtain ⟨P0,ps,sm,lv,rfl,hP,pp,l9,q⟩:=h
   have pl:=Paired.length pp
   refine cu ⟨_,(Ih (Io 1 zq.nd L3.Aj)
     (Ih (IT (IQ (Ib 0)) (Iq 2 zq.nd) (Ij (L3.dput (bz hr _ (by decide)) (Ib 1) (Ju (Ib 2) Ig) (IB Js (L3.wD (bz hr _ (by decide)) (Ib 1) (Ju (Ib 2) Ig) (ID Ie)) (ID (Ic (Ib 2) Ie))))))
     (Ij (Im (Ib 1))))),?_⟩
   refine ao fun Rk kR=>?_
   refine fun D hD=>?_
   have s0:=ag hD (.dT [])
   have gD0:(upd H D (.dT [])) D=some (.dT []):=ae
   generalize upd H D (.dT [])=H0 at s0 gD0 ⊢
   refine aj ?_
   refine kR _ _ ?_
   clear kR
   refine aq [some (.ref P0),some (.ref D),none] rfl ?_
   refine ao fun Rk kR=>?_
   refine ⟨_,rfl,P0,rfl,⟨_,aA.of (s0 _ _ hP)⟩,?_⟩
   refine bg (xs:=ps) (fun i σ Hx=>(∃o2,σ=[some (.ref P0),some (.ref D),o2])/\ah H Hx/\qP tO Hx D sm (lv.take i)) ⟨⟨_,rfl⟩,s0,⟨[],gD0,Ee _,(fun k v z=>nomatch z),(fun e z=>nomatch z),(fun k z=>nomatch z)⟩⟩ (fun i σ Hx _ z=>aA.of (z.2.1 _ _ hP)) (fun i x0 σ Hx hx z=>?_) (fun σ Hx z=>?_)
   · obtain ⟨⟨o2,rfl⟩,sx,th⟩:=z
     have hil:i < ps.length:=(List.getElem?_eq_some_iff.mp hx).1
     obtain ⟨e,he,le⟩:=Paired.get pp hx
     obtain ⟨pe,rfl,hpe⟩:=bE.keep (ah.tk sx) le
     obtain ⟨kvs,gD,kl,c1,c2,c3⟩:=th.ex
     have tl:(lv.take i).length<=900:=by rw [Eo]; omega
     refine aj ?_
     refine aq [some (.ref P0),some (.ref D),some (.ref pe)] rfl ?_
     refine ⟨_,rfl,D,rfl,.inr ⟨_,.inl gD⟩,_,rfl,_,rfl,pe,_,rfl,ar.of hpe,?_,fun k1 hk1=>?_⟩
     · rintro ⟨_,z⟩
       exact absurd (show HT.bf 5 5 (some 2)=5 from z) (by decide)
     rw [nO]
     have sa:=ag hk1 (.tup [.int e.1,.int e.2.1])
     have ga:(upd Hx k1 (.tup [.int e.1,.int e.2.1])) k1=some (.tup [.int e.1,.int e.2.1]):=ae
     generalize upd Hx k1 (.tup [.int e.1,.int e.2.1])=Ha at sa ga ⊢
     refine ⟨Kg,fun l0 hl0=>?_⟩
     have sb:=ag hl0 (.lst [])
     have gb:(upd Ha l0 (.lst [])) l0=some (.lst []):=ae
     generalize upd Ha l0 (.lst [])=Hb at sb gb ⊢
     have sxb:=aa sa sb
     refine ⟨_,d5.t (k:=[.inl e.1,.inl e.2.1]) (sxb _ _ gD) (sb _ _ ga),?_⟩
     obtain ⟨lx,xs,ex,hlx,xsl,hxs⟩ : ∃(lx:Addr) (xs:List V),(a9 kvs [.inl e.1,.inl e.2.1]).getD (.ref l0)=.ref lx/\Hb lx=some (.lst xs)/\xs.length<=(lv.take i).length/\∀x∈xs,∃f∈lv.take i,f.1=e.1/\f.2.1=e.2.1/\bE tO Hb x sm f:=by
       cases hv:a9 kvs [.inl e.1,.inl e.2.1] with
       | none=>exact ⟨l0,[],rfl,gb,EC _,fun x z=>nomatch z⟩
       | some v=>
         obtain ⟨l,xs,p,q,e1,rfl,e3,e4,e5,e6⟩:=c1 _ _ hv
         injection e1 with e1 e2
         injection e2 with e2 _
         injection e1 with e1
         injection e2 with e2
         subst e1 e2
         exact ⟨l,xs,rfl,sxb _ _ e3,e5,fun x hx=>let ⟨f,f1,f2,f3,f4⟩:=e6 x hx; ⟨f,f1,f2,f3,bE.keep (ah.tk sxb) f4⟩⟩
     rw [ex]
     refine ⟨_,rfl,Kh,fun l1 hl1=>?_⟩
     have sc:=ag hl1 (.lst [.ref pe])
     have gc:(upd Hb l1 (.lst [.ref pe])) l1=some (.lst [.ref pe]):=ae
     generalize upd Hb l1 (.lst [.ref pe])=Hc at sc gc ⊢
     have big:1000<=sizeLine:=by decide
     refine ⟨lx,l1,xs,_,rfl,rfl,sc _ _ hlx,gc,(by show xs.length + 1<=sizeLine; omega),fun l2 hl2=>?_⟩
     have sd:=ag hl2 (.lst (xs++[.ref pe]))
     have gd:(upd Hc l2 (.lst (xs++[.ref pe]))) l2=some (.lst (xs++[.ref pe])):=ae
     generalize upd Hc l2 (.lst (xs++[.ref pe]))=Hd at sd gd ⊢
     have sbd:=aa sc sd
     have sxd:=aa sxb sbd
     refine ⟨_,rfl,_,rfl,_,rfl,pe,_,rfl,ar.of (sxd _ _ hpe),?_,fun k2 hk2=>?_⟩
     · rintro ⟨_,z⟩
       exact absurd (show HT.bf 5 5 (some 2)=5 from z) (by decide)
     rw [nO]
     have se:=ag hk2 (.tup [.int e.1,.int e.2.1])
     have ge:(upd Hd k2 (.tup [.int e.1,.int e.2.1])) k2=some (.tup [.int e.1,.int e.2.1]):=ae
     generalize upd Hd k2 (.tup [.int e.1,.int e.2.1])=He at se ge ⊢
     have sxe:=aa sxd se
     have gDe:=sxe _ _ gD
     refine ⟨D,_,rfl,iS.t (k:=[.inl e.1,.inl e.2.1]) gDe ge (ax (by omega)),⟨_,rfl⟩,aE (aa sx sxe) hD,?_⟩
     have tkD:TK He (upd He D (.dT (putK kvs [.inl e.1,.inl e.2.1] (.ref l2)))):=fun b ys e=>by rw [aB (cC e gDe (fun z=>nomatch z))]; exact e
     have tke:lv.take (i + 1)=lv.take i++[e]:=by rw [Er,he]; rfl
     have ne:∀(a:Addr) (ys:List V),He a=some (.lst ys)->(upd He D (.dT (putK kvs [.inl e.1,.inl e.2.1] (.ref l2)))) a=some (.lst ys):=fun a ys h=>by
       rw [aB (fun z=>by subst z; rw [gDe] at h; cases h)]
       exact h
     rw [tke]
     have inl:∀f∈lv.take i,f∈lv.take i++[e]:=fun f hf=>List.mem_append.mpr (.inl hf)
     refine ⟨_,ae,?_,fun k v hv=>?_,fun f hf=>?_,fun k hk=>?_⟩
     · have:=bb kvs [.inl e.1,.inl e.2.1] (.ref l2)
       rw [Eh]
       show _<=_ + 1
       omega
     · rw [cp] at hv
       split at hv
       · rename_i ek
         cases hv
         refine ⟨l2,_,e.1,e.2.1,ek,rfl,ne _ _ (se _ _ gd),fun z=>absurd (congrArg List.length z) (by rw [Eh]; show ¬ (_ + 1=0); omega),?_,fun x hx=>?_⟩
         · rw [Eh,Eh]
           show _ + 1<=_ + 1
           omega
         · rcases List.mem_append.mp hx with z | z
           · obtain ⟨f,f1,f2,f3,f4⟩:=hxs x z
             exact ⟨f,inl f f1,f2,f3,bE.keep tkD (bE.keep (ah.tk (aa sbd se)) f4)⟩
           · rw [List.mem_singleton.mp z]
             exact ⟨e,List.mem_append.mpr (.inr (List.mem_singleton.mpr rfl)),rfl,rfl,bE.keep tkD ⟨pe,rfl,sxe _ _ hpe⟩⟩
       · obtain ⟨l,ys,p,q,e1,e2,e3,e4,e5,e6⟩:=c1 _ _ hv
         refine ⟨l,ys,p,q,e1,e2,ne _ _ (sxe _ _ e3),e4,by rw [Eh]; omega,fun x hx=>?_⟩
         obtain ⟨f,f1,f2,f3,f4⟩:=e6 x hx
         exact ⟨f,inl f f1,f2,f3,bE.keep tkD (bE.keep (ah.tk sxe) f4)⟩
     · rw [cp]
       split
       · exact ⟨_,rfl⟩
       · rename_i nk
         rcases List.mem_append.mp hf with z | z
         · exact c2 f z
         · rw [List.mem_singleton.mp z] at nk
           exact absurd rfl nk
     · rcases qx _ _ _ k hk with z | z
       · exact ⟨e,List.mem_append.mpr (.inr (List.mem_singleton.mpr rfl)),z⟩
       · obtain ⟨f,f1,f2⟩:=c3 k z
         exact ⟨f,inl f f1,f2⟩
   · obtain ⟨⟨o2,rfl⟩,sx,th⟩:=z
     rw [pl,EL] at th
     refine kR _ _ ?_
     exact ⟨_,rfl,q D _ sx hD th⟩
theorem xM {tO:Addr}(s:Src K mg "_law_by_places" sBp)  : aC P w K mg base "_law_by_places" ["paper"] 1 (m5 tO):=
 let ⟨f,fd,F,m⟩:=s
 ⟨f,fd,AF F ,F.kp,fg F fun _ _ _ _ _ _ _=>rfl,m⟩
/-! ### the entry that counts -/
/-- what is the same for all entries: a condition,by boxes -/
structure um (K:D9)(H:Hp)(sm:V)(se:E)(bs:List (Str×Int)):Prop where
 ek:EK K H sm se
 is:se.isC
 ok:se.okIn (P2 bs)
 dp:se.dep < 20
 iff:∀ms ys:List Int,bs.length=ms.length->bs.length=ys.length->se.holds (W2 bs ms ys)=decide (ms=ys)
theorem um.same {K:D9}{H H':Hp}{sm:V}{se:E}{bs:List (Str×Int)}(s:ah H H')(h:um K H sm se bs):um K H' sm se bs:=⟨EK.keep (ah.tk s) h.ek,h.is,h.ok,h.dp,h.iff⟩
def iH (K:D9)(tO:Addr):Sp:=fun vs H Q _=>∃(D d:Addr) (p q:Int) (sm:V) (se:E) (lv:List Lv) (bs:List (Str×Int)) (W:Str->Str->Int),vs=[.ref D,.int p,.int q,.ref d]/\qP tO H D sm lv/\lv.length<=900/\um K H sm se bs/\Kn H d (P2 bs) W /\
 (se.holds W=true->∀(x:V) (e:Lv) (H':Hp),ah H H'->e∈lv->e.1=p->e.2.1=q->bE tO H' x sm e->Q x H')/\((se.holds W=false\/∀e∈lv,e.1=p->e.2.1=q->False)->∀H',ah H H'->Q .aU H')
theorem Bq:az ["there","p","q","known","entry"] ["there","p","q","known"] (af sCt):=⟨rfl,rfl,rfl,by decide +kernel,rfl,by decide +kernel,by decide +kernel⟩
theorem iZ:(af sCt).names.lookup (Eb "_law_holds")=some .globalImplicit:=by decide +kernel
theorem AH {tO:Addr}{f:Addr}{fd:FuncData}(F:bQ K "_law_counting" "_law_counting" sCt f fd)(HO:aC P w K mg base "_law_holds" ["told","known"] 51 (jc K 20)):aI P w K mg base CX0 52 f fd ["there","p","q","known"] (iH K tO):=by
 refine F.ok Bq (fun vs H Q E h=>?_) (fun cdv A outer s H vs Q E hr h=>?_)
 · obtain ⟨D,d,p,q,sm,se,lv,bs,W,rfl,_⟩:=h
   rfl
 · obtain ⟨D,d,p,q,sm,se,lv,bs,W,rfl,th,l9,cn,kn,q1,q0⟩:=h
   refine cu ⟨_,(Ih (IT (IQ (L3.wD (bz hr _ (by decide)) (Ib 0) (IA (Ic (Ib 1) (Ic (Ib 2) Ie))) (ID Ie))) (Iq 4 Bq.nd) (Ij (Iv (IF (Il HO hr iZ (Ic (Ii Ik (Ib 4) Ig) (Ic (Ib 3) Ie)))) (Ij (Im (Ib 4))) Iw)))
     (Ij (Im I9))),?_⟩
   refine ao fun Rk kR=>?_
   obtain ⟨kvs,gD,kl,c1,c2,c3⟩:=th.ex
   refine ⟨_,rfl,D,rfl,.inr ⟨_,.inl gD⟩,_,rfl,_,rfl,Ki,fun k1 hk1=>?_⟩
   have sa:=ag hk1 (.tup [.int p,.int q])
   have ga:(upd H k1 (.tup [.int p,.int q])) k1=some (.tup [.int p,.int q]):=ae
   generalize upd H k1 (.tup [.int p,.int q])=Ha at sa ga ⊢
   refine ⟨Kg,fun l0 hl0=>?_⟩
   have sb:=ag hl0 (.lst [])
   have gb:(upd Ha l0 (.lst [])) l0=some (.lst []):=ae
   generalize upd Ha l0 (.lst [])=Hb at sb gb ⊢
   have sxb:=aa sa sb
   refine ⟨_,d5.t (k:=[.inl p,.inl q]) (sxb _ _ gD) (sb _ _ ga),?_⟩
   obtain ⟨lx,xs,ex,hlx,hxs,hne⟩ : ∃(lx:Addr) (xs:List V),(a9 kvs [.inl p,.inl q]).getD (.ref l0)=.ref lx/\Hb lx=some (.lst xs)/\(∀x∈xs,∃f∈lv,f.1=p/\f.2.1=q/\bE tO Hb x sm f)/\(xs=[]->∀e∈lv,e.1=p->e.2.1=q->False):=by
     cases hv:a9 kvs [.inl p,.inl q] with
     | none=>
       refine ⟨l0,[],rfl,gb,(fun x z=>nomatch z),fun _ e he e1 e2=>?_⟩
       obtain ⟨v,z⟩:=c2 e he
       rw [e1,e2,hv] at z
       cases z
     | some v=>
       obtain ⟨l,xs,p',q',e1,rfl,e3,e4,e5,e6⟩:=c1 _ _ hv
       injection e1 with e1 e2
       injection e2 with e2 _
       injection e1 with e1
       injection e2 with e2
       subst e1 e2
       exact ⟨l,xs,rfl,sxb _ _ e3,(fun x hx=>let ⟨f,f1,f2,f3,f4⟩:=e6 x hx; ⟨f,f1,f2,f3,bE.keep (ah.tk sxb) f4⟩),fun z=>absurd z e4⟩
   rw [ex]
   refine ⟨lx,rfl,⟨_,aA.of hlx⟩,?_⟩
   refine bg (xs:=xs) (fun i σ Hx=>(∃o4,σ=[some (.ref D),some (.int p),some (.int q),some (.ref d),o4])/\ah Hb Hx/\(i=0\/se.holds W=false)) ⟨⟨_,rfl⟩,same_refl _,.inl rfl⟩ (fun i σ Hx _ z=>aA.of (z.2.1 _ _ hlx)) (fun i x0 σ Hx hx z=>?_) (fun σ Hx z=>?_)
   · obtain ⟨⟨o4,rfl⟩,sx,_⟩:=z
     obtain ⟨f,f1,f2,f3,f4⟩:=hxs x0 (Ef hx)
     obtain ⟨pe,rfl,hpe⟩:=f4
     have sH:=aa sxb sx
     refine aj ?_
     refine aq [some (.ref D),some (.int p),some (.int q),some (.ref d),some (.ref pe)] rfl ?_
     refine ⟨_,rfl,pe,_,_,_,rfl,rfl,ar.of (sx _ _ hpe),rfl,_,rfl,sm,d,se,_,W,rfl,EK.keep (ah.tk sH) cn.ek,cn.is,cn.ok,kn.same sH,cn.dp,by omega,fun H2 s2=>⟨_,rfl,?_⟩⟩
     cases hh:se.holds W with
     | true=>
       refine bG ?_
       exact ⟨_,rfl,q1 hh _ f _ (aa sH s2) f1 f2 f3 ⟨pe,rfl,s2 _ _ (sx _ _ hpe)⟩⟩
     | false=>
       refine bh ?_
       exact ⟨⟨_,rfl⟩,aa sx s2,.inr rfl⟩
   · obtain ⟨⟨o4,rfl⟩,sx,ho⟩:=z
     refine kR _ _ ?_
     refine q0 ?_ _ (aa sxb sx)
     rcases ho with ho | ho
     · exact .inr (hne (List.length_eq_zero_iff.mp ho))
     · exact .inl ho
theorem xO {tO:Addr}(s:Src K mg "_law_counting" sCt)(HO:aC P w K mg base "_law_holds" ["told","known"] 51 (jc K 20)):aC P w K mg base "_law_counting" ["there","p","q","known"] 52 (iH K tO):=
 let ⟨f,fd,F,m⟩:=s
 ⟨f,fd,AH F HO,F.kp,oW F fun _ _ _ _ _ _ _ _ _ _=>rfl,m⟩
end
end TW
set_option Elab.async false
set_option linter.all false
set_option maxRecDepth 100000
set_option exponentiation.threshold 4000
set_option maxHeartbeats 1000000
namespace TW
open PySem L2
section
variable {P:Program}{w:World}{K:D9}{mg:Str->Option Value}{base:Heap}
theorem Cq {x qual:Str}{st:Stmt}{f:Addr}{fd:FuncData}{p0 p1 p2 p3 p4 p5 p6:Str}(F:bQ K x qual st f fd)(h:∀(kV doc pm:Value) (an:Option Addr) (cdv ct u0 u1 u2 u3 u4 u5 u6:Value),bindArgs (Fd x qual (bR st) (bJ st) (af st) .none kV doc pm an cdv ct) ⟨[u0,u1,u2,u3,u4,u5,u6],[]⟩ = pure (([p0,p1,p2,p3,p4,p5,p6]:List Str).zip [u0,u1,u2,u3,u4,u5,u6])):Binds K fd [p0,p1,p2,p3,p4,p5,p6] []:=F.binds fun kV doc pm an cdv ct us hl=>match us,hl with | [u0,u1,u2,u3,u4,u5,u6],_=>h kV doc pm an cdv ct u0 u1 u2 u3 u4 u5 u6
abbrev sWe:Stmt:=top 37
/-! ### worths within the sizes -/
def iU (bs:List (Str×Int))(ws:List Int):Prop:=Paired (fun b w=>0<=w/\w < b.2) bs ws
theorem iU.len {bs:List (Str×Int)}{ws:List Int}(h:iU bs ws):bs.length=ws.length:=Paired.length h
theorem iU.put {x:Str}{t:Int}:∀{bs:List (Str×Int)} {ws:List Int},iU bs ws->(∀b∈bs,1<=b.2)->iU bs (dB bs ws x t)
 | [],_,.nil,_=>.nil
 | b :: bs,w :: ws,.cons h r,z=>by
   refine .cons ?_ (iU.put r fun c hc=>z c (List.mem_cons.mpr (.inr hc)))
   have hb:=z b (List.mem_cons.mpr (.inl rfl))
   show 0<=(if b.1=x then t % b.2 else w)/\(if b.1=x then t % b.2 else w) < b.2
   split
   · exact ⟨Int.emod_nonneg _ (by omega),Int.emod_lt_of_pos _ (by omega)⟩
   · exact h
theorem ma {bs:List (Str×Int)}{ws:List Int}(hl:iU bs ws)(hz:∀b∈bs,1<=b.2):∀{a:Np} {s n ws'},fY bs ws a=some (s,n,ws')->iU bs ws'
 | .put x s n,_,_,_,h=>by cases h; exact hl.put hz
 | .say s n,_,_,_,h=>by cases h; exact hl
 | .test c n o,_,_,_,h=>by cases h; exact hl
 | .pick x n,_,_,_,h=>by cases h; exact hl
theorem lQ {x:Str}{t:Int}:∀{bs:List (Str×Int)} {ws:List Int},bs.length=ws.length->x ∉ bs.map (·.1)->dB bs ws x t=ws
 | [],[],_,_=>rfl
 | [],_ :: _,h,_=>by simp at h
 | _ :: _,[],h,_=>by simp at h
 | b :: bs,w :: ws,h,n=>by
   rw [EJ] at n
   show (if b.1=x then t % b.2 else w) :: dB bs ws x t=_
   rw [if_neg (fun z=>n (List.mem_cons.mpr (.inl z.symm))),lQ (by simpa using h) (fun z=>n (List.mem_cons.mpr (.inr z)))]
theorem lR {x:Str}:∀{bs:List (Str×Int)} {ws:List Int},iU bs ws->(bs.map (·.1)).Nodup->dB bs ws x (mq bs ws x)=ws
 | [],_,.nil,_=>rfl
 | b :: bs,w :: ws,.cons h r,nd=>by
   rw [EJ,Fx] at nd
   show (if b.1=x then (if b.1=x then w else mq bs ws x) % b.2 else w) :: dB bs ws x (if b.1=x then w else mq bs ws x)=_
   by_cases e:b.1=x
   · rw [if_pos e,if_pos e,Int.emod_eq_of_lt h.1 h.2,lQ (iU.len r) (e ▸ nd.1)]
   · rw [if_neg e,if_neg e,lR r nd.2]
theorem rT {s:E}{x:Str}(h:s.isBox x=true):s=.box "box" x:=by
 cases s with
 | box t y=>
   have h:(decide (t="box") && decide (y=x))=true:=h
   rw [Fc,decide_eq_true_iff,decide_eq_true_iff] at h
   rw [h.1,h.2]
 | num _=>cases h
 | yes=>cases h
 | nt _=>cases h
 | two _ _ _=>cases h
theorem pX {bs:List (Str×Int)}{ws:List Int}(hr:iU bs ws)(nd:(bs.map (·.1)).Nodup):∀{a:Np} {n:Int},a.idle=some n->fY bs ws a=some ([],n,ws)
 | .put x s m,n,h=>by
   have h:(if s.isBox x=true then some m else none)=some n:=h
   split at h
   · rename_i z
     cases h
     rw [rT z]
     show some (([]:List Int),m,dB bs ws x (mq bs ws x))=_
     rw [lR hr nd]
   · cases h
 | .test c m o,n,h=>by
   have h:(if m=o then some m else none)=some n:=h
   split at h
   · rename_i z
     cases h
     subst z
     show some (([]:List Int),(if c.holds (wB bs ws) then m else m),ws)=_
     rw [ite_self]
   · cases h
 | .say _ _,_,h=>by cases h
 | .pick _ _,_,h=>by cases h
 | .fin,_,h=>by cases h
/-! ### what is the same of both programs -/
structure Cj (lv:List Lv)(e:Lv)(a c:Np)(ls:List Int):Prop where
 ca:c=a
 eh:e.2.2.1=a.hd
 ll:ls.length=a.leads.length
 ld:∀(i:Nat) (l l':Int),a.leads[i]? = some l->ls[i]? = some l'->∃f∈lv,f.1=l/\f.2.1=l'
structure Ck (lv:List Lv)(e:Lv)(a:Np):Prop where
 eh:e.2.2.1="mine"
 ex:∃n,a.idle=some n/\(∃f∈lv,f.1=n/\f.2.1=e.2.1)/\∀f∈lv,f.1=n->f.2.1=e.2.1->f.2.2.2.1 < e.2.2.2.1
structure uv (nds nds':List Np)(lv:List Lv):Prop where
 hat:∀e∈lv,∃(p q:Nat) (a c:Np) (ls:List Int),e.1=(p:Int)/\e.2.1=(q:Int)/\nds[p]? = some a/\c∈nds/\nds'[q]? = some (c.led ls)/\(Cj lv e a c ls\/Ck lv e a)
 zero:∃f∈lv,f.1=0/\f.2.1=0
 few:∀e∈lv,e.2.2.2.1<=1000
structure uo (K:D9)(tO:Addr)(H:Hp)(p1 p2 D:Addr)(sm:V)(se:E)(bs:List (Str×Int))(nds nds':List Np)(lv:List Lv):Prop where
 g1:oV H p1 bs nds
 g2:oV H p2 bs nds'
 nt:∀e∈nds,xm (bs.map (·.1)) e
 th:qP tO H D sm lv
 l9:lv.length<=900
 cn:um K H sm se bs
 sim:uv nds nds' lv
 bt:BR bs
 wt:∀e∈lv,EK K H e.2.2.2.2 (.num (e.2.2.2.1:Int))
theorem uo.same {K:D9}{tO:Addr}{H H':Hp}{p1 p2 D:Addr}{sm:V}{se:E}{bs:List (Str×Int)}{nds nds':List Np}{lv:List Lv}(s:ah H H')(h:uo K tO H p1 p2 D sm se bs nds nds' lv):uo K tO H' p1 p2 D sm se bs nds nds' lv:=
 ⟨h.g1.same s,h.g2.same s,h.nt,h.th.same s,h.l9,h.cn.same s,h.sim,h.bt,fun e he=>EK.keep (ah.tk s) (h.wt e he)⟩
theorem vg:∀(a:Np) (ls:List Int),a.isN->(a.led ls).isN
 | .put _ _ _,_,h=>h | .say _ _,_,h=>h | .test _ _ _,_,h=>h | .pick _ _,_,h=>h | .fin,_,h=>h
theorem jw:∀(a:Np) (ls:List Int),(a.led ls).tolds=a.tolds
 | .put _ _ _,_=>rfl | .say _ _,_=>rfl | .test _ _ _,_=>rfl | .pick _ _,_=>rfl | .fin,_=>rfl
theorem xm.led {ns:List Str}{a:Np}(h:xm ns a)(ls:List Int):xm ns (a.led ls):=⟨vg a ls h.is,by rw [jw]; exact h.td⟩
/-- steps of both -/
theorem tX {bs:List (Str×Int)}{ws:List Int}{P:Int->Int->Prop}:∀(a:Np) (ls:List Int),ls.length=a.leads.length->(∀(i:Nat) (l l':Int),a.leads[i]? = some l->ls[i]? = some l'->P l l')->a.hd≠"end"->∃s n n' ws',fY bs ws a=some (s,n,ws')/\fY bs ws (a.led ls)=some (s,n',ws')/\P n n'/\s.length<=1
 | .put x s n,[m],_,h,_=>⟨_,n,m,_,rfl,rfl,h 0 n m rfl rfl,EC _⟩
 | .say s n,[m],_,h,_=>⟨_,n,m,_,rfl,rfl,h 0 n m rfl rfl,Ee _⟩
 | .pick x n,[m],_,h,_=>⟨_,n,m,_,rfl,rfl,h 0 n m rfl rfl,EC _⟩
 | .test c n o,[m,m'],_,h,_=>by
   have h0:=h 0 n m rfl rfl
   have h1:=h 1 o m' rfl rfl
   refine ⟨[],if c.holds (wB bs ws) then n else o,if c.holds (wB bs ws) then m else m',ws,rfl,rfl,?_,EC _⟩
   split
   · exact h0
   · exact h1
 | .fin,_,_,_,h=>absurd rfl h
theorem V.ref_non (a:Addr):decide (V.ref a=V.aU)=false:=decide_eq_false fun z=>nomatch z
theorem su {P:Str->Str->Prop}{m:Nat}(h:m<=1000):(E.num (m:Int)).okIn P:=by
 show ((m:Nat):Int).natAbs < 2 ^ 100
 have:(1000:Nat) < 2 ^ 100:=by decide
 omega
theorem x4 {a:Np}(h:a.hd="end"):a=.fin:=by
 cases a with
 | fin=>rfl
 | put _ _ _=>exact absurd (show ("put":Str)="end" from h) (by decide)
 | say _ _=>exact absurd (show ("say":Str)="end" from h) (by decide)
 | test _ _ _=>exact absurd (show ("test":Str)="end" from h) (by decide)
 | pick _ _=>exact absurd (show ("pick":Str)="end" from h) (by decide)
/-- how an entry steps that does not end: what mine does,and whether yours does the same -/
structure Aa (bs:List (Str×Int))(ws:List Int)(lv:List Lv)(e:Lv)(a:Np)(c':Np)(who:Str)(s:List Int)(n:Int)(ws':List Int):Prop where
 s1:fY bs ws a=some (s,n,ws')
 wh:(who="both"/\∃n',fY bs ws c'=some (s,n',ws')/\∃f∈lv,f.1=n/\f.2.1=n')\/(who="mine"/\s=[]/\ws'=ws/\(∃f∈lv,f.1=n/\f.2.1=e.2.1)/\∀f∈lv,f.1=n->f.2.1=e.2.1->f.2.2.2.1 < e.2.2.2.1)
theorem w5 {bs:List (Str×Int)}{ws:List Int}{nds nds':List Np}{lv:List Lv}(sm:uv nds nds' lv)(hr:iU bs ws)(nd:(bs.map (·.1)).Nodup){e:Lv}(he:e∈lv):∃(p q:Nat) (a c:Np) (ls:List Int),e.1=(p:Int)/\e.2.1=(q:Int)/\nds[p]? = some a/\c∈nds/\nds'[q]? = some (c.led ls) /\
   ((kJ e.2.2.1="end"/\a=.fin/\c.led ls=.fin)\/∃s n ws',Aa bs ws lv e a (c.led ls) (kJ e.2.2.1) s n ws'):=by
 obtain ⟨p,q,a,c,ls,h1,h2,h3,h4,h5,alt⟩:=sm.hat e he
 refine ⟨p,q,a,c,ls,h1,h2,h3,h4,h5,?_⟩
 rcases alt with A | B
 · obtain ⟨rfl,eh,ll,ld⟩:=A
   by_cases z:c.hd="end"
   · have z2:=x4 z
     subst z2
     exact .inl ⟨by rw [eh]; rfl,rfl,rfl⟩
   · obtain ⟨s,n,n',ws',e1,e2,e3,_⟩:=tX (bs:=bs) (ws:=ws) (P:=fun l l'=>∃f∈lv,f.1=l/\f.2.1=l') c ls ll ld z
     exact .inr ⟨s,n,ws',e1,.inl ⟨by rw [eh,oS,if_neg z],n',e2,e3⟩⟩
 · obtain ⟨eh,n,hn,f,fs⟩:=B
   exact .inr ⟨[],n,ws,pX hr nd hn,.inr ⟨by rw [eh]; rfl,rfl,rfl,f,fs⟩⟩
def lZ (K:D9)(tO:Addr):Sp:=fun vs H Q _=>∃(p1 p2 D wa wb kn:Addr) (x sm:V) (se:E) (bs:List (Str×Int)) (nds nds':List Np) (lv:List Lv) (e:Lv) (ws:List Int) (W:Str->Str->Int),vs=[.ref p1,.ref p2,.ref D,x,.ref wa,.ref wb,.ref kn]/\uo K tO H p1 p2 D sm se bs nds nds' lv/\e∈lv/\bE tO H x sm e/\H wa=some (.tup (ws.map V.int))/\H wb=some (.tup (ws.map V.int))/\iU bs ws/\Kn H kn (P2 bs) W/\∀H',ah H H'->Q (.bl true) H'
theorem fM:az ["one","other","there_are","entry","mine","yours","known","p","q","condition","who","wait","left","here","there","later"] ["one","other","there_are","entry","mine","yours","known"] (af sWe):=⟨rfl,rfl,rfl,by decide +kernel,rfl,by decide +kernel,by decide +kernel⟩
theorem cV:(af sWe).names.lookup (Eb "_law_by_names")=some .globalImplicit:=by decide +kernel
theorem fG:(af sWe).names.lookup (Eb "_law_counting")=some .globalImplicit:=by decide +kernel
theorem eL:(af sWe).names.lookup (Eb "_law_step")=some .globalImplicit:=by decide +kernel
theorem cW:(af sWe).names.lookup (Eb "_law_worth_of")=some .globalImplicit:=by decide +kernel
theorem AW {tO:Addr}{f:Addr}{fd:FuncData}(F:bQ K "_law_well" "_law_well" sWe f fd)(BN0:aC P w K mg base "_law_by_names" ["program","word","worths"] 1 iF)(WO0:aC P w K mg base "_law_worth_of" ["told","known"] 31 (fN K 30))(ST:aC P w K mg base "_law_step" ["program","place","worths"] 52 qD)(CT:aC P w K mg base "_law_counting" ["there","p","q","known"] 52 (iH K tO)):aI P w K mg base CX0 53 f fd ["one","other","there_are","entry","mine","yours","known"] (lZ K tO):=by
 refine F.ok fM (fun vs H Q E h=>?_) (fun cdv A outer s H vs Q E hr h=>?_)
 · obtain ⟨p1,p2,D,wa,wb,kn,x,sm,se,bs,nds,nds',lv,e,ws,W,rfl,_⟩:=h
   rfl
 · obtain ⟨p1,p2,D,wa,wb,kn,x,sm,se,bs,nds,nds',lv,e,ws,W,rfl,st,hel,le,hwa,hwb,hr9,hk,q⟩:=h
   have hl:=hr9.len
   obtain ⟨pe,rfl,hpe⟩:=le
   have WO:=WO0.mono (show 31<=52 by omega)
   have BN:=BN0.mono (show 1<=52 by omega)
   obtain ⟨p,q',a,c,ls,ep,ep',ha,hc,hb,alt⟩:=w5 st.sim hr9 st.bt.nd hel
   have na:=st.nt a (Ef ha)
   have nc:=(st.nt c hc).led ls
   generalize c.led ls=c' at hb alt nc
   have l4:=st.bt.l4
   have wte:=st.wt e hel
   have fw:=st.sim.few e hel
   rw [ep,ep'] at hpe
   generalize hwho:kJ e.2.2.1=who at hpe alt
   generalize e.2.2.2.2=wv at hpe wte
   refine cu ⟨_,(Ih (Jk (Ib 3) (IU 5 (IC (Iq 7 fM.nd) (IC (Iq 8 fM.nd) (IC (Iq 9 fM.nd) (IC (Iq 10 fM.nd) (IC (Iq 11 fM.nd) IV)))))))
     (Ih (Io 12 fM.nd (Il WO hr cW (Ic (Ib 11) (Ic (Ib 6) Ie))))
     (Ih (Io 13 fM.nd (Il ST hr eL (Ic (Ib 0) (Ic (Ib 7) (Ic (Ib 4) Ie)))))
     (Ih (Io 14 fM.nd (Il ST hr eL (Ic (Ib 1) (Ic (Ib 8) (Ic (Ib 5) Ie)))))
     (Ih (Iv (IJ (Jc (Iu Jn (Ib 12) Ig) (Je (Iu Iz (Ib 10) Ip)))) (Ij (Im (I0 (IL L3.Az (Ib 12) Ig) (I0 (IL Jh (Ib 13) I9) (Ja (IL Jh (Ib 14) I9)))))) Iw)
     (Ih (Iv (IJ (IY (Iu Iz (Ib 10) Ip) (IZ (IJ (Jc (Iu Jh (Ib 13) I9) (Jc (Iu Jh (Ib 14) I9) (Je (Iu (Jo (m:=2) (bz hr _ (by decide))) (Ii Ik (Ib 13) Ig) (Ii Ik (Ib 14) Ig))))))))) (Ij (Im IK)) Iw)
     (Ih (Iv (Iu Iz (Ib 10) Ip) (Ih (Io 14 fM.nd (IA (Ic (ID Ie) (Ic (Ib 8) (Ic (Ib 5) Ie)))))
     (Ij (Iv (IJ (Jc (Iu Jh (Ib 13) I9) (Je (Iu (Jo (m:=2) (bz hr _ (by decide))) (Ii Ik (Ib 13) Ig) (ID Ie))))) (Ij (Im IK)) Iw))) Iw)
     (Ih (Iv (Iu Iz (Ib 10) Ip) (Ih (Io 13 fM.nd (IA (Ic (ID Ie) (Ic (Ib 7) (Ic (Ib 4) Ie)))))
     (Ij (Iv (IJ (Jc (Iu Jh (Ib 14) I9) (Je (Iu (Jo (m:=2) (bz hr _ (by decide))) (Ii Ik (Ib 14) Ig) (ID Ie))))) (Ij (Im IK)) Iw))) Iw)
     (Ih (Io 6 fM.nd (Il BN hr cV (Ic (Ib 0) (Ic Ip (Ic (Ii Ik (Ib 13) Ig) Ie)))))
     (Ih (Jd (JJ (bz hr _ (by decide)) (Ib 6) (Il BN hr cV (Ic (Ib 1) (Ic Ip (Ic (Ii Ik (Ib 14) Ig) Ie))))))
     (Ih (Io 15 fM.nd (Il CT hr fG (Ic (Ib 2) (Ic (Ii Ik (Ib 13) Ig) (Ic (Ii Ik (Ib 14) Ig) (Ic (Ib 6) Ie))))))
     (Ij (Im (I0 (IL L3.kq (Ib 15) I9) (Ja (L3.yO (IL Iz (Ib 10) Ip) (Ja (IL Jn (Il WO hr cW (Ic (Ii Ik (Ib 15) Ig) (Ic (Ib 6) Ie))) (Ib 12))))))))))))))))))),?_⟩
   refine ao fun Rk kR=>?_
   refine ⟨_,rfl,pe,_,rfl,ar.of hpe,rfl,_,_,rfl,_,_,rfl,_,_,rfl,_,_,rfl,_,_,rfl,rfl,?_⟩
   refine kR _ _ ?_
   clear kR
   refine aq [some (.ref p1),some (.ref p2),some (.ref D),some (.ref pe),some (.ref wa),some (.ref wb),some (.ref kn),some (.int (p:Int)),some (.int (q':Int)),some sm,some (.str who),some wv,none,none,none,none] rfl ?_
   refine ao fun Rk kR=>?_
   refine ⟨_,rfl,_,rfl,wv,kn,.num (e.2.2.2.1:Int),_,W,rfl,wte,trivial,su fw,hk,(by show 0 < 30; omega),?_⟩
   refine aj ?_
   refine kR _ _ ?_
   clear kR
   refine aq [some (.ref p1),some (.ref p2),some (.ref D),some (.ref pe),some (.ref wa),some (.ref wb),some (.ref kn),some (.int (p:Int)),some (.int (q':Int)),some sm,some (.str who),some wv,some (.int (e.2.2.2.1:Int)),none,none,none] rfl ?_
   refine ao fun Rk kR=>?_
   have g1:=st.g1
   have g2:=st.g2
   rcases alt with ⟨rfl,rfl,rfl⟩ | ⟨sd,n,ws',sE⟩
   · refine ⟨_,rfl,_,rfl,_,rfl,p1,wa,p,bs,nds,ws,.fin,rfl,g1,ha,na,hwa,hl,st.bt,fun _ H1 s1=>?_,fun _ _ _ z=>nomatch z⟩
     refine aj ?_
     refine kR _ _ ?_
     clear kR
     refine aq [some (.ref p1),some (.ref p2),some (.ref D),some (.ref pe),some (.ref wa),some (.ref wb),some (.ref kn),some (.int (p:Int)),some (.int (q':Int)),some sm,some (.str "end"),some wv,some (.int (e.2.2.2.1:Int)),some .aU,none,none] rfl ?_
     refine ao fun Rk kR=>?_
     refine ⟨_,rfl,_,rfl,_,rfl,p2,wb,q',bs,nds',ws,.fin,rfl,g2.same s1,hb,nc,s1 _ _ hwb,hl,st.bt,fun _ H2 s2=>?_,fun _ _ _ z=>nomatch z⟩
     refine aj ?_
     refine kR _ _ ?_
     clear kR
     refine aq [some (.ref p1),some (.ref p2),some (.ref D),some (.ref pe),some (.ref wa),some (.ref wb),some (.ref kn),some (.int (p:Int)),some (.int (q':Int)),some sm,some (.str "end"),some wv,some (.int (e.2.2.2.1:Int)),some .aU,some .aU,none] rfl ?_
     refine ao fun Rk kR=>?_
     refine ⟨_,rfl,_,_,rfl,rfl,_,rfl,iteF' (decide_eq_false (by omega)) ⟨_,rfl,rfl,_,rfl,?_⟩⟩
     refine bG ?_
     refine ⟨_,rfl,_,_,rfl,rfl,_,rfl,iteT' (decide_eq_true (by omega)) ⟨_,rfl,rfl,_,rfl,iteT' (by decide) ⟨_,rfl,rfl,?_⟩⟩⟩
     rw [decide_eq_true (show V.aU=V.aU from rfl)]
     exact q _ (aa s1 s2)
   have hr':=ma hr9 st.bt.sz sE.s1
   have hl':=hr'.len
   have hs1:=sE.s1
   have wcase:who="both"\/who="mine":=sE.wh.elim (fun z=>.inl z.1) (fun z=>.inr z.1)
   have nwe:decide (V.str who=V.str "end")=false:=by rcases wcase with rfl | rfl <;> decide
   have nwy:decide (V.str who=V.str "yours")=false:=by rcases wcase with rfl | rfl <;> decide
   refine ⟨_,rfl,_,rfl,_,rfl,p1,wa,p,bs,nds,ws,a,rfl,g1,ha,na,hwa,hl,st.bt,(fun z=>by rw [hs1] at z; cases z),fun s0 n0 w0 z r l1 l2 H1 s1 gr gl1 gl2=>?_⟩
   rw [hs1] at z
   cases z
   refine aj ?_
   refine kR _ _ ?_
   clear kR
   refine aq [some (.ref p1),some (.ref p2),some (.ref D),some (.ref pe),some (.ref wa),some (.ref wb),some (.ref kn),some (.int (p:Int)),some (.int (q':Int)),some sm,some (.str who),some wv,some (.int (e.2.2.2.1:Int)),some (.ref r),none,none] rfl ?_
   refine ao fun Rk kR=>?_
   have go4:∀(tv:V) (H2:Hp),ah H1 H2->(who="both"->∃(r' l1' l2':Addr) (n':Int),tv=.ref r'/\H2 r'=some (.tup [.ref l1',.int n',.ref l2'])/\H2 l1'=some (.lst (sd.map V.int))/\H2 l2'=some (.tup (ws'.map V.int))/\∃f∈lv,f.1=n/\f.2.1=n')->Rk [some (.ref p1),some (.ref p2),some (.ref D),some (.ref pe),some (.ref wa),some (.ref wb),some (.ref kn),some (.int (p:Int)),some (.int (q':Int)),some sm,some (.str who),some wv,some (.int (e.2.2.2.1:Int)),some (.ref r),some tv,none] H2:=fun tv H2 s2 hbo=>by
     refine kR _ _ ?_
     clear kR
     refine ao fun Rk kR=>?_
     have s12:=aa s1 s2
     replace gr:=s2 _ _ gr
     replace gl1:=s2 _ _ gl1
     replace gl2:=s2 _ _ gl2
     refine ⟨_,rfl,_,_,rfl,rfl,_,rfl,iteF' (decide_eq_false (by omega)) ⟨_,rfl,rfl,_,rfl,iteF' nwe (kR _ _ ?_)⟩⟩
     clear kR
     refine ao fun Rk kR=>?_
     have go7:Rk [some (.ref p1),some (.ref p2),some (.ref D),some (.ref pe),some (.ref wa),some (.ref wb),some (.ref kn),some (.int (p:Int)),some (.int (q':Int)),some sm,some (.str who),some wv,some (.int (e.2.2.2.1:Int)),some (.ref r),some tv,none] H2:=by
       refine kR _ _ ?_
       clear kR
       refine ao fun Rk kR=>?_
       have tail:∀(r' l1' l2':Addr) (n':Int) (Hc:Hp),ah H2 Hc->Hc r'=some (.tup [.ref l1',.int n',.ref l2'])->Hc l2'=some (.tup (ws'.map V.int))->(∃f∈lv,f.1=n/\f.2.1=n')->(who="both"\/who="mine"/\∀f∈lv,f.1=n->f.2.1=n'->f.2.2.2.1 < e.2.2.2.1)->Rk [some (.ref p1),some (.ref p2),some (.ref D),some (.ref pe),some (.ref wa),some (.ref wb),some (.ref kn),some (.int (p:Int)),some (.int (q':Int)),some sm,some (.str who),some wv,some (.int (e.2.2.2.1:Int)),some (.ref r),some (.ref r'),none] Hc:=fun r' l1' l2' n' Hc s2c gr' gl2' hf hwh=>by
         obtain ⟨f1,hf1,en,en'⟩:=hf
         replace gr:=s2c _ _ gr
         replace gl2:=s2c _ _ gl2
         have s1c:=aa s12 s2c
         refine kR _ _ ?_
         clear kR
         refine ao fun Rk kR=>?_
         refine ⟨_,rfl,rfl,_,rfl,iteF' nwy (kR _ _ ?_)⟩
         clear kR
         refine ao fun Rk kR=>?_
         obtain ⟨B,I,N,vb,hp,hB,pb⟩:=(g1.bx.same s1c).ex
         obtain ⟨B2,I2,N2,vb2,hp2,hB2,pb2⟩:=(g2.bx.same s1c).ex
         refine ⟨_,rfl,_,rfl,r,_,_,_,rfl,rfl,ar.of gr,rfl,p1,B,I,N,l2,"mine",vb,bs,ws',rfl,hp,hB,pb,gl2,hl',by omega,fun D1 H3 s3 nD gD=>?_⟩
         refine aj ?_
         refine kR _ _ ?_
         clear kR
         refine aq [some (.ref p1),some (.ref p2),some (.ref D),some (.ref pe),some (.ref wa),some (.ref wb),some (.ref D1),some (.int (p:Int)),some (.int (q':Int)),some sm,some (.str who),some wv,some (.int (e.2.2.2.1:Int)),some (.ref r),some (.ref r'),none] rfl ?_
         refine ao fun Rk kR=>?_
         refine ⟨_,rfl,D1,rfl,.inr ⟨_,.inl gD⟩,_,rfl,_,rfl,r',_,_,_,rfl,rfl,ar.of (s3 _ _ gr'),rfl,p2,B2,I2,N2,l2',"yours",vb2,bs,ws',rfl,s3 _ _ hp2,s3 _ _ hB2,(Paired.mapP pb2 fun _ _ z=>Tp.keep (ah.tk s3) z),s3 _ _ gl2',hl',(by omega),fun D2 H4 s4 nD2 gD2=>?_⟩
         have DD:D1≠D2:=au gD nD2
         have k1:=cB (word:="mine") bs ws' hl'
         have k2:=cB (word:="yours") bs ws' hl'
         have gDz:=s4 _ _ gD
         have n1:=dN (word:="mine") bs ws' hl' st.bt.nd
         have n2:=dN (word:="yours") bs ws' hl' st.bt.nd
         rw [n1] at gDz
         rw [n2] at gD2
         refine ⟨D2,_,_,rfl,gDz,gD2,DD,(by cases bs with | nil=>exact .inr rfl | cons b r=>cases ws' with | nil=>simp at hl' | cons m r2=>exact .inl (fun z=>nomatch z)),?_,?_⟩
         · have:1000<=sizeLine:=by decide
           omega
         have s24:=aE (o:=.dT (putAllT (dX "mine" bs ws') (dX "yours" bs ws'))) (aa s3 s4) nD
         have kn2:=j9 (H:=upd H4 D1 (.dT (putAllT (dX "mine" bs ws') (dX "yours" bs ws')))) (D:=D1) st.bt.nd hl' hl' (by rw [n1]; exact ae)
         generalize upd H4 D1 (.dT (putAllT (dX "mine" bs ws') (dX "yours" bs ws')))=H5 at s24 kn2 ⊢
         refine kR _ _ ?_
         clear kR
         refine ao fun Rk kR=>?_
         have s15:=aa s1c s24
         have st5:=st.same s15
         have hh:se.holds (W2 bs ws' ws')=true:=by rw [st.cn.iff ws' ws' hl' hl']; exact decide_eq_true rfl
         refine ⟨_,rfl,_,rfl,r,_,_,_,rfl,rfl,ar.of (s24 _ _ gr),rfl,_,rfl,r',_,_,_,rfl,rfl,ar.of (s24 _ _ gr'),rfl,_,rfl,D,D1,n,n',sm,se,lv,bs,_,rfl,st5.th,st.l9,st5.cn,kn2,fun _ x6 e6 H6 s6 he6 e61 e62 le6=>?_,fun z=>?_⟩
         · obtain ⟨pe6,rfl,hpe6⟩:=le6
           have wt6:=EK.keep (ah.tk s6) (st5.wt e6 he6)
           refine aj ?_
           refine kR _ _ ?_
           refine ⟨_,rfl,rfl,_,rfl,?_⟩
           rw [V.ref_non]
           refine bG ?_
           rcases hwh with rfl | ⟨rfl,hlt⟩
           · refine ⟨_,rfl,rfl,_,rfl,iteT' (by decide) ?_⟩
             exact q _ (aa s15 s6)
           · refine ⟨_,rfl,rfl,_,rfl,iteF' (by decide) ?_⟩
             refine ⟨_,rfl,pe6,_,_,_,rfl,rfl,ar.of hpe6,rfl,_,rfl,_,D1,.num (e6.2.2.2.1:Int),_,_,rfl,wt6,trivial,su (st.sim.few e6 he6),kn2.same s6,(by show 0 < 30; omega),_,rfl,_,_,rfl,rfl,?_⟩
             have lt6:=hlt e6 he6 e61 e62
             have q9:=q _ (aa s15 s6)
             rw [← (decide_eq_true (show (e6.2.2.2.1:Int) < (e.2.2.2.1:Int) by omega))] at q9
             exact q9
         · rcases z with z | z
           · rw [hh] at z
             cases z
           · exact (z f1 hf1 en en').elim
       rcases sE.wh with ⟨rfl,_⟩ | ⟨rfl,rfl,rfl,hf,hlt⟩
       · obtain ⟨r',l1',l2',n',rfl,gr',gl1',gl2',hf⟩:=hbo rfl
         refine ⟨_,rfl,rfl,_,rfl,iteF' (by decide) ?_⟩
         exact tail r' l1' l2' n' H2 (same_refl _) gr' gl2' hf (.inl rfl)
       · refine ⟨_,rfl,rfl,_,rfl,iteT' (by decide) ?_⟩
         refine ao fun Rk2 kR2=>?_
         refine ⟨Kg,fun l0 hl0=>?_⟩
         have s0:=ag hl0 (.lst [])
         generalize upd H2 l0 (.lst [])=H25 at s0 ⊢
         refine ⟨_,rfl,_,rfl,Kj,fun t3 ht3=>?_⟩
         have s3:=ag ht3 (.tup [.ref l0,.int (q':Int),.ref wb])
         have g3:(upd H25 t3 (.tup [.ref l0,.int (q':Int),.ref wb])) t3=some (.tup [.ref l0,.int (q':Int),.ref wb]):=ae
         generalize upd H25 t3 (.tup [.ref l0,.int (q':Int),.ref wb])=H3 at s3 g3 ⊢
         have s23:=aa s0 s3
         refine aj ?_
         refine kR2 _ _ ?_
         refine ⟨_,rfl,rfl,_,rfl,?_⟩
         rw [V.ref_non]
         refine bh ⟨_,rfl,r,_,_,_,rfl,rfl,ar.of (s23 _ _ gr),rfl,Kg,fun l9 hl9=>?_⟩
         have s9:=ag hl9 (.lst [])
         have g9:(upd H3 l9 (.lst [])) l9=some (.lst []):=ae
         generalize upd H3 l9 (.lst [])=H4 at s9 g9 ⊢
         have s24:=aa s23 s9
         refine ⟨true,RB.lst (aA.of (s24 _ _ gl1)) (aA.of g9) rfl (fun j x y hx _=>nomatch hx),_,rfl,bh ?_⟩
         rw [ep'] at hf hlt
         exact tail t3 l0 wb (q':Int) H4 s24 (s9 _ _ g3) (s24 _ _ (s12 _ _ hwb)) hf (.inr ⟨rfl,hlt⟩)
     rcases sE.wh with ⟨rfl,_⟩ | ⟨rfl,_⟩
     · obtain ⟨r',l1',l2',n',rfl,gr',gl1',gl2',hf⟩:=hbo rfl
       refine ⟨_,rfl,rfl,_,rfl,iteT' (by decide) ⟨_,rfl,rfl,_,rfl,?_⟩⟩
       rw [V.ref_non]
       refine bh ⟨_,rfl,rfl,_,rfl,?_⟩
       rw [V.ref_non]
       refine bh ⟨_,rfl,r,_,_,_,rfl,rfl,ar.of gr,rfl,_,rfl,r',_,_,_,rfl,rfl,ar.of gr',rfl,true,RB.lst (aA.of gl1) (aA.of gl1') rfl (fun j x y hx hy=>?_),_,rfl,bh go7⟩
       rw [hx] at hy
       cases hy
       obtain ⟨i0,_,rfl⟩:=aT hx
       exact ET.refl (.inl rfl)
     · exact ⟨_,rfl,rfl,_,rfl,iteF' (by decide) (iteF' (by decide) go7)⟩
   refine ⟨_,rfl,_,rfl,_,rfl,p2,wb,q',bs,nds',ws,c',rfl,g2.same s1,hb,nc,s1 _ _ hwb,hl,st.bt,fun hno H2 s2=>?_,fun s0 n0 w0 z r' l1' l2' H2 s2 gr' gl1' gl2'=>?_⟩
   · refine aj ?_
     refine go4 _ H2 s2 fun hbo=>?_
     rcases sE.wh with ⟨_,n',hs2,_⟩ | ⟨z,_⟩
     · rw [hs2] at hno
       cases hno
     · rw [hbo] at z
       exact absurd z (by decide)
   · refine aj ?_
     refine go4 _ H2 s2 fun hbo=>?_
     rcases sE.wh with ⟨_,n',hs2,hf⟩ | ⟨y,_⟩
     · rw [hs2] at z
       cases z
       exact ⟨r',l1',l2',_,rfl,gr',gl1',gl2',hf⟩
     · rw [hbo] at y
       exact absurd y (by decide)
theorem xY {tO:Addr}(s:Src K mg "_law_well" sWe)(BN0:aC P w K mg base "_law_by_names" ["program","word","worths"] 1 iF)(WO0:aC P w K mg base "_law_worth_of" ["told","known"] 31 (fN K 30))(ST:aC P w K mg base "_law_step" ["program","place","worths"] 52 qD)(CT:aC P w K mg base "_law_counting" ["there","p","q","known"] 52 (iH K tO)):aC P w K mg base "_law_well" ["one","other","there_are","entry","mine","yours","known"] 53 (lZ K tO):=
 let ⟨f,fd,F,m⟩:=s
 ⟨f,fd,AW F BN0 WO0 ST CT,F.kp,Cq F fun _ _ _ _ _ _ _ _ _ _ _ _ _=>rfl,m⟩
end
end TW
set_option Elab.async false
set_option linter.all false
set_option maxRecDepth 100000
set_option exponentiation.threshold 4000
set_option maxHeartbeats 1000000
namespace TW
open PySem L2
section
variable {P:Program}{w:World}{K:D9}{mg:Str->Option Value}{base:Heap}
abbrev sIe:Stmt:=top 41
abbrev sBe:Stmt:=top 34
abbrev sEv:Stmt:=top 33
/-! ### an entry's form -/
def tV (tO:Addr):Sp:=fun vs H Q _=>∃(p1 p2 B I N B2 I2 N2:Addr) (x sm:V) (vn vn2:List V) (e:Lv),vs=[.ref p1,.ref p2,x]/\H p1=some (.tup [.ref B,.ref I,.ref N])/\H p2=some (.tup [.ref B2,.ref I2,.ref N2])/\H N=some (.lst vn)/\H N2=some (.lst vn2)/\bE tO H x sm e/\0<=e.1/\e.1 < (vn.length:Int)/\0<=e.2.1/\e.2.1 < (vn2.length:Int)/\∀H',ah H H'->Q (.bl true) H'
theorem Bu:az ["one","other","entry","number"] ["one","other","entry"] (af sIe):=⟨rfl,rfl,rfl,by decide +kernel,rfl,by decide +kernel,by decide +kernel⟩
theorem rC:(af sIe).names.lookup (Eb "bool")=some .globalImplicit:=by decide +kernel
theorem uM:(af sIe).names.lookup (Eb "int")=some .globalImplicit:=by decide +kernel
theorem bK:(af sIe).names.lookup (Eb "isinstance")=some .globalImplicit:=by decide +kernel
theorem jR:(af sIe).names.lookup (Eb "len")=some .globalImplicit:=by decide +kernel
theorem uN:(af sIe).names.lookup (Eb "str")=some .globalImplicit:=by decide +kernel
theorem pI:(af sIe).names.lookup (Eb "tuple")=some .globalImplicit:=by decide +kernel
theorem AM {tO:Addr}{f:Addr}{fd:FuncData}(F:bQ K "_law_is_entry" "_law_is_entry" sIe f fd)(m_isinstance:mg "isinstance"=none)(m_len:mg "len"=none)(m_bool:mg "bool"=none)(m_int:mg "int"=none)(m_str:mg "str"=none)(m_tuple:mg "tuple"=none):aI P w K mg base CX0 1 f fd ["one","other","entry"] (tV tO):=by
 refine F.ok Bu (fun vs H Q E h=>?_) (fun cdv A outer s H vs Q E hr h=>?_)
 · obtain ⟨p1,p2,B,I,N,B2,I2,N2,x,sm,vn,vn2,e,rfl,_⟩:=h
   rfl
 · obtain ⟨p1,p2,B,I,N,B2,I2,N2,x,sm,vn,vn2,e,rfl,hp,hp2,hN,hN2,le,z1,z2,z3,z4,q⟩:=h
   obtain ⟨pe,rfl,hpe⟩:=le
   generalize hwho:kJ e.2.2.1=who at hpe
   have wh:who="end"\/who="both"\/who="mine":=by
     rw [← hwho]
     unfold kJ
     split
     · exact .inl rfl
     · split
       · exact .inr (.inr rfl)
       · exact .inr (.inl rfl)
   refine cu ⟨_,(Ih (Iv (IJ (Jc (IW (IF (Iy II bK m_isinstance (by decide +kernel) (Ic (Ib 2) (Ic (IH (w:=.ty "tuple") pI m_tuple (by decide +kernel) rfl) Ie))))) (Jc (Iu L3.vm (Iy IP jR m_len Es (Ic (Ib 2) Ie)) Ig) (Je (IW (IF (Iy II bK m_isinstance (by decide +kernel) (Ic (Ii Ik (Ib 2) Ig) (Ic (IH (w:=.ty "str") uN m_str (by decide +kernel) rfl) Ie))))))))) (Ij (Im IK)) Iw)
     (Ih (IT (L3.iT (Ju (Ib 2) Ig)) (Iq 3 Bu.nd) (Ij (Iv (IJ (Jc (IW (IF (Iy II bK m_isinstance (by decide +kernel) (Ic (Ib 3) (Ic (IH (w:=.ty "int") uM m_int (by decide +kernel) rfl) Ie))))) (Je (IF (Iy II bK m_isinstance (by decide +kernel) (Ic (Ib 3) (Ic (IH (w:=.ty "bool") rC m_bool (by decide +kernel) rfl) Ie))))))) (Ij (Im IK)) Iw)))
     (Ih (Iv (Iu L3.ko (Ii Ik (Ib 2) Ig) (IA (Ic Ip (Ic Ip (Ic Ip (Ic Ip Ie))))) (by rfl)) (Ij (Im IK)) Iw)
     (Ij (Im (I0 (L3.qU L3.AA Jn Ig (Ii Ik (Ib 2) Ig) (Iy IP jR m_len Es (Ic (Ii Ik (Ib 0) Ig) Ie))) (Ja (L3.qU L3.AA Jn Ig (Ii Ik (Ib 2) Ig) (Iy IP jR m_len Es (Ic (Ii Ik (Ib 1) Ig) Ie)))))))))),?_⟩
   refine ao fun Rk kR=>?_
   refine ⟨_,rfl,.inl ⟨_,"tuple",_,true,rfl,TyOf.tup hpe,rfl,_,rfl,iteF' rfl ?_⟩⟩
   refine ⟨_,rfl,pe,_,rfl,.inr (ar.of hpe),rfl,_,rfl,iteF' (show (!decide (V.int 5=V.int 5))=false by decide) ?_⟩
   refine ⟨_,rfl,pe,_,_,_,rfl,rfl,ar.of hpe,rfl,.inl ⟨_,"str",_,true,rfl,TyOf.str _,rfl,_,rfl,iteF' rfl ?_⟩⟩
   refine kR _ _ ?_
   clear kR
   refine ao fun Rk kR=>?_
   refine ⟨_,rfl,_,rfl,pe,_,rfl,ar.of hpe,?_,fun k1 hk1=>?_⟩
   · rintro ⟨_,z⟩
     exact absurd (show HT.bf 5 5 (some 2)=5 from z) (by decide)
   rw [nO]
   have s1:=ag hk1 (.tup [.int e.1,.int e.2.1])
   have g1:(upd H k1 (.tup [.int e.1,.int e.2.1])) k1=some (.tup [.int e.1,.int e.2.1]):=ae
   generalize upd H k1 (.tup [.int e.1,.int e.2.1])=H1 at s1 g1 ⊢
   refine ⟨k1,rfl,⟨_,ar.of g1⟩,?_⟩
   refine nX (xs:=[.int e.1,.int e.2.1]) (fun i σ Hx=>(∃o3,σ=[some (.ref p1),some (.ref p2),some (.ref pe),o3])/\Hx=H1) ⟨⟨_,rfl⟩,rfl⟩ (fun i σ Hx _ z=>by rw [z.2]; exact ar.of g1) (fun i x0 σ Hx hx z=>?_) (fun σ Hx z=>?_)
   · obtain ⟨⟨o3,rfl⟩,rfl⟩:=z
     obtain ⟨n0,_,rfl⟩ : ∃n0:Int,True/\x0=.int n0:=by
       match i,hx with
       | 0,hx=>cases hx; exact ⟨_,trivial,rfl⟩
       | 1,hx=>cases hx; exact ⟨_,trivial,rfl⟩
     refine aj ?_
     refine aq [some (.ref p1),some (.ref p2),some (.ref pe),some (.int n0)] rfl ?_
     refine ⟨_,rfl,.inl ⟨_,"int",_,true,rfl,TyOf.int _,rfl,_,rfl,iteF' rfl ?_⟩⟩
     refine ⟨_,rfl,.inl ⟨_,"bool",_,false,rfl,TyOf.int _,rfl,_,rfl,iteF' rfl ?_⟩⟩
     exact ⟨⟨_,rfl⟩,rfl⟩
   obtain ⟨⟨o3,rfl⟩,rfl⟩:=z
   refine kR _ _ ?_
   clear kR
   refine ao fun Rk kR=>?_
   have hpe1:=s1 _ _ hpe
   refine ⟨_,rfl,pe,_,_,_,rfl,rfl,ar.of hpe1,rfl,Kk,fun t4 ht4=>?_⟩
   have s2:=ag ht4 (.tup [.str "mine",.str "yours",.str "both",.str "end"])
   have g2:(upd Hx t4 (.tup [.str "mine",.str "yours",.str "both",.str "end"])) t4=some (.tup [.str "mine",.str "yours",.str "both",.str "end"]):=ae
   generalize upd Hx t4 (.tup [.str "mine",.str "yours",.str "both",.str "end"])=H2 at s2 g2 ⊢
   refine ⟨t4,_,rfl,.inr (ar.of g2),rfl,rfl,_,rfl,iteF' (by rcases wh with rfl | rfl | rfl <;> decide) ?_⟩
   refine kR _ _ ?_
   have s12:=aa s1 s2
   have hpe2:=s2 _ _ hpe1
   refine ⟨_,rfl,pe,_,_,_,rfl,rfl,ar.of hpe2,rfl,_,_,rfl,rfl,_,rfl,iteT' (decide_eq_true z1) ⟨_,rfl,p1,_,_,_,rfl,rfl,ar.of (s12 _ _ hp),rfl,N,_,rfl,.inl (aA.of (s12 _ _ hN)),_,_,rfl,rfl,_,rfl,iteT' (decide_eq_true z2) ?_⟩⟩
   refine ⟨_,rfl,pe,_,_,_,rfl,rfl,ar.of hpe2,rfl,_,_,rfl,rfl,_,rfl,iteT' (decide_eq_true z3) ⟨_,rfl,p2,_,_,_,rfl,rfl,ar.of (s12 _ _ hp2),rfl,N2,_,rfl,.inl (aA.of (s12 _ _ hN2)),_,_,rfl,rfl,?_⟩⟩
   show Q (.bl (decide (e.2.1 < (vn2.length:Int)))) H2
   rw [decide_eq_true z4]
   exact q _ s12
theorem xS {tO:Addr}(s:Src K mg "_law_is_entry" sIe)(m_isinstance:mg "isinstance"=none)(m_len:mg "len"=none)(m_bool:mg "bool"=none)(m_int:mg "int"=none)(m_str:mg "str"=none)(m_tuple:mg "tuple"=none):aC P w K mg base "_law_is_entry" ["one","other","entry"] 1 (tV tO):=
 let ⟨f,fd,F,m⟩:=s
 ⟨f,fd,AM F m_isinstance m_len m_bool m_int m_str m_tuple,F.kp,iW F fun _ _ _ _ _ _ _ _ _=>rfl,m⟩
theorem jl (xs:List Str):(xs.map V.str).all bV=true:=by
 rw [Fh]
 intro v hv
 obtain ⟨x,_,rfl⟩:=List.mem_map.mp hv
 rfl
/-! ### _law_begins: it answers -/
def tS:Sp:=fun vs H Q _=>∃(p B I N wa:Addr) (vb:List V) (bs:List (Str×Int)) (ins:List Str) (ws:List Int),vs=[.ref p,.ref wa]/\H p=some (.tup [.ref B,.ref I,.ref N])/\H B=some (.lst vb)/\Paired (cw H) vb bs/\H I=some (.lst (ins.map V.str))/\H wa=some (.tup (ws.map V.int))/\bs.length=ws.length/\bs.length<=4/\∀(k:Bool) (H':Hp),ah H H'->Q (.bl k) H'
theorem CQ:az ["program","worths"] ["program","worths"] (af sBe):=⟨rfl,rfl,rfl,by decide +kernel,rfl,by decide +kernel,by decide +kernel⟩
theorem uI:(af sBe).names.lookup (Eb "all")=some .globalImplicit:=by decide +kernel
theorem uJ:(af sBe).names.lookup (Eb "zip")=some .globalImplicit:=by decide +kernel
theorem AB {f:Addr}{fd:FuncData}(F:bQ K "_law_begins" "_law_begins" sBe f fd)(m_all:mg "all"=none)(m_zip:mg "zip"=none):aI P w K mg base CX0 1 f fd ["program","worths"] tS:=by
 refine F.ok CQ (fun vs H Q E h=>?_) (fun cdv A outer s H vs Q E hr h=>?_)
 · obtain ⟨p,B,I,N,wa,vb,bs,ins,ws,rfl,_⟩:=h
   rfl
 · obtain ⟨p,B,I,N,wa,vb,bs,ins,ws,rfl,hp,hB,pb,hI,hw,bw,l4,q⟩:=h
   have vbl:=Paired.length pb
   refine cu ⟨_,(Ij (Im (Iy Jv uI m_all (by decide +kernel) (Ic (IS [none,none,some 0] ["box","worth","program"] (show av _ (af sBe) from ⟨rfl,by decide +kernel,by decide +kernel,by decide +kernel⟩) (by rfl) (Jq false true uJ m_zip (Ic (Ii Ik (Ib 0) Ig) (Ic (Ib 1) Ie))) (fun _ _ _ _ _=>⟨(IU 2 (IC (Iq 0 (show (["box","worth","program"]:List Str).Nodup from by decide +kernel)) (IC (Iq 1 (show (["box","worth","program"]:List Str).Nodup from by decide +kernel)) IV))),IX,(L3.yO (IL Iz (Ib 1) Ig) (Ja (IL Jw (Ii Ik (Ib 0) Ig) (Ii Ik (Ib 2) Ig) (by rfl))))⟩)) Ie)))),?_⟩
   refine ⟨_,rfl,p,_,_,_,rfl,rfl,ar.of hp,rfl,_,rfl,B,wa,rfl,⟨_,aA.of hB⟩,⟨_,ar.of hw⟩,fun l hl=>?_⟩
   refine fk (xs:=vb) (ys:=ws.map V.int) (by rw [Ea]; omega) (fun (i:Nat) Hx=>ah H Hx/\∃ks:List Bool,ks.length=i/\Hx l=some (.lst (ks.map V.bl))) ⟨ag hl _,[],rfl,ae⟩ (fun i Hx _ z=>⟨aA.of (z.1 _ _ hB),ar.of (z.1 _ _ hw)⟩) (fun i x0 y0 pp Hx hx hy z hpp=>?_) (fun Hx z=>?_)
   · obtain ⟨sx,ks,kl,gl⟩:=z
     have hil:i < vb.length:=(List.getElem?_eq_some_iff.mp hx).1
     obtain ⟨b,hbi,pb0,rfl,hpb⟩:=Paired.get pb hx
     obtain ⟨w0,hw0,rfl⟩:=aT hy
     have sp:=ag hpp (.tup [.ref pb0,.int w0])
     have gp:(upd Hx pp (.tup [.ref pb0,.int w0])) pp=some (.tup [.ref pb0,.int w0]):=ae
     generalize upd Hx pp (.tup [.ref pb0,.int w0])=Hy at sp gp ⊢
     have sxy:=aa sx sp
     refine ⟨pp,_,rfl,ar.of gp,rfl,_,_,rfl,_,_,rfl,rfl,?_⟩
     refine bL (A:=fun H5=>cj _ l _ H5 _) ?_
     refine ⟨_,rfl,rfl,_,rfl,?_⟩
     refine bq (fun c=>?_) (fun c=>?_)
     · exact ⟨_,sp _ _ gl,ax (by rw [Ea]; omega),aF (Pv:=fun (i:Nat) Hx=>ah H Hx/\∃ks:List Bool,ks.length=i/\Hx l=some (.lst (ks.map V.bl))) (by repeat' constructor) hil ⟨aE sxy hl,ks++[_],by rw [Eh,kl]; rfl,by rw [ae,En]; rfl⟩⟩
     · refine ⟨_,rfl,pb0,_,_,_,rfl,rfl,ar.of (sxy _ _ hpb),rfl,_,rfl,p,_,_,_,rfl,rfl,ar.of (sxy _ _ hp),rfl,I,_,rfl,.inl (aA.of (sxy _ _ hI)),rfl,jl ins,?_⟩
       exact ⟨_,sp _ _ gl,ax (by rw [Ea]; omega),aF (Pv:=fun (i:Nat) Hx=>ah H Hx/\∃ks:List Bool,ks.length=i/\Hx l=some (.lst (ks.map V.bl))) (by repeat' constructor) hil ⟨aE sxy hl,ks++[_],by rw [Eh,kl]; rfl,by rw [ae,En]; rfl⟩⟩
   obtain ⟨sx,ks,kl,gl⟩:=z
   exact ⟨l,ks,rfl,aA.of gl,q _ _ sx⟩
theorem xI (s:Src K mg "_law_begins" sBe)(m_all:mg "all"=none)(m_zip:mg "zip"=none):aC P w K mg base "_law_begins" ["program","worths"] 1 tS:=
 let ⟨f,fd,F,m⟩:=s
 ⟨f,fd,AB F m_all m_zip,F.kp,f6 F fun _ _ _ _ _ _ _ _=>rfl,m⟩
/-! ### _law_every -/
theorem jB:∀(a b:List (Str×Int)),bj (a++b)=bj a * bj b
 | [],b=>(GJ _).symm
 | x :: a,b=>by
   show x.2 * bj (a++b)=x.2 * bj a * bj b
   rw [jB a b,HN]
theorem iz {bs:List (Str×Int)}(h:∀b∈bs,1<=b.2)(i:Nat):1<=bj (bs.take i)/\bj (bs.take i)<=bj bs:=by
 have h1:=dA (bs:=bs.take i) fun x hx=>h x (FW hx)
 have h2:=dA (bs:=bs.drop i) fun x hx=>h x (Gu hx)
 refine ⟨h1,?_⟩
 have e:=jB (bs.take i) (bs.drop i)
 rw [Gp] at e
 rw [e]
 have:=HF (Int.le_refl (bj (bs.take i))) h2 (by decide) (by omega)
 rw [Int.mul_one] at this
 exact this
def je (n:List (Str×Int))(H:Hp)(v:V):Prop:=∃ws:List Int,Tp H v (ws.map V.int)/\iU n ws
theorem je.keep {n:List (Str×Int)}{H H':Hp}{v:V}(k:TK H H')(h:je n H v):je n H' v:=let ⟨ws,a,b⟩:=h; ⟨ws,Tp.keep k a,b⟩
def tU:Sp:=fun vs H Q _=>∃(p:Addr) (bs:List (Str×Int)),vs=[.ref p]/\Bx H p bs/\(∀b∈bs,1<=b.2)/\bj bs<=800/\bs.length<=4/\∀(F0:Addr) (xs:List V) (H':Hp),ah H H'->H F0=none->H' F0=some (.lst xs)->xs.length<=800->(∀x∈xs,je bs H' x)->Q (.ref F0) H'
theorem mX:az ["program","found","name","size","longer","worths"] ["program"] (af sEv):=⟨rfl,rfl,rfl,by decide +kernel,rfl,by decide +kernel,by decide +kernel⟩
theorem pH:(af sEv).names.lookup (Eb "range")=some .globalImplicit:=by decide +kernel
theorem AJ {f:Addr}{fd:FuncData}(F:bQ K "_law_every" "_law_every" sEv f fd)(m_range:mg "range"=none):aI P w K mg base CX0 1 f fd ["program"] tU:=by
 refine F.ok mX (fun vs H Q E h=>?_) (fun cdv A outer s H vs Q E hr h=>?_)
 · obtain ⟨p,bs,rfl,_⟩:=h
   rfl
 · obtain ⟨p,bs,rfl,bx,sz,pr,l4,q⟩:=h
   obtain ⟨B,I,N,vb,hp,hB,pb⟩:=bx.ex
   have vbl:=Paired.length pb
   refine cu ⟨_,(Ih (Io 1 mX.nd (ID (Ic (IA Ie) Ie)))
     (Ih (IT (IQ (Ii Ik (Ib 0) Ig)) (IU 2 (IC (Iq 2 mX.nd) (IC (Iq 3 mX.nd) IV))) (Ih (Io 4 mX.nd (ID Ie))
     (Ih (IT (IQ (Ib 1)) (Iq 5 mX.nd) (Ij (Jd (L3.extend (Ib 4) (Ic (IS [none,some 5] ["worth","worths"] (show av _ (af sEv) from ⟨rfl,by decide +kernel,by decide +kernel,by decide +kernel⟩) (by rfl) (Jg pH m_range (Ic (Ib 3) Ie)) (fun _ _ _ _ _=>⟨(Iq 0 (show (["worth","worths"]:List Str).Nodup from by decide +kernel)),IX,(IB L3.yt (Ib 1) (IA (Ic (Ib 0) Ie)))⟩)) Ie)))))
     (Ij (Io 1 mX.nd (Ib 4))))))
     (Ij (Im (Ib 1))))),?_⟩
   refine ao fun Rk kR=>?_
   refine ⟨Kg,fun e0 he0=>?_⟩
   have s1:=ag he0 (.tup [])
   have g1:(upd H e0 (.tup [])) e0=some (.tup []):=ae
   generalize upd H e0 (.tup [])=H1 at s1 g1 ⊢
   refine ⟨Kh,fun F0 hF0=>?_⟩
   have s2:=ag hF0 (.lst [.ref e0])
   have g2:(upd H1 F0 (.lst [.ref e0])) F0=some (.lst [.ref e0]):=ae
   generalize upd H1 F0 (.lst [.ref e0])=H2 at s2 g2 ⊢
   refine aj ?_
   refine kR _ _ ?_
   clear kR
   refine aq [some (.ref p),some (.ref F0),none,none,none,none] rfl ?_
   refine ao fun Rk kR=>?_
   have s12:=aa s1 s2
   refine ⟨_,rfl,p,_,_,_,rfl,rfl,ar.of (s12 _ _ hp),rfl,B,rfl,⟨_,aA.of (s12 _ _ hB)⟩,?_⟩
   refine bg (xs:=vb) (fun i σ Hx=>(∃(F0:Addr) (xs:List V) (o2 o3 o4 o5:Option V),σ=[some (.ref p),some (.ref F0),o2,o3,o4,o5]/\H F0=none/\Hx F0=some (.lst xs)/\(xs.length:Int)=bj (bs.take i)/\∀x∈xs,je (bs.take i) Hx x)/\ah H Hx) ⟨⟨F0,[.ref e0],none,none,none,none,rfl,ai s1 hF0,g2,rfl,fun x hx=>by rw [List.mem_singleton.mp hx]; exact ⟨[],⟨e0,rfl,s2 _ _ g1⟩,by rw [E1]; exact .nil⟩⟩,s12⟩ (fun i σ Hx _ z=>aA.of (z.2 _ _ hB)) (fun i x0 σ Hx hx z=>?_) (fun σ Hx z=>?_)
   · obtain ⟨⟨F0,xs,o2,o3,o4,o5,rfl,nF,gF,xl,hxs⟩,sx⟩:=z
     obtain ⟨b,hbi,pb0,rfl,hpb⟩:=Paired.get pb hx
     have hb1:=sz b (Ef hbi)
     have t1:=iz sz i
     have t2:=iz sz (i + 1)
     have tk1:bs.take (i + 1)=bs.take i++[b]:=by rw [Er,hbi]; rfl
     rw [tk1,de] at t2
     refine ⟨pb0,_,rfl,ar.of (sx _ _ hpb),rfl,_,_,rfl,_,_,rfl,rfl,?_⟩
     refine aq [some (.ref p),some (.ref F0),some (.str b.1),some (.int b.2),o4,o5] rfl ?_
     refine ao fun Rk kR=>?_
     refine ⟨Kg,fun L hL=>?_⟩
     have s3:=ag hL (.lst [])
     have g3:(upd Hx L (.lst [])) L=some (.lst []):=ae
     generalize upd Hx L (.lst [])=H3 at s3 g3 ⊢
     refine aj ?_
     refine kR _ _ ?_
     clear kR
     refine aq [some (.ref p),some (.ref F0),some (.str b.1),some (.int b.2),some (.ref L),o5] rfl ?_
     refine ao fun Rk kR=>?_
     refine ⟨_,rfl,F0,rfl,⟨_,aA.of (s3 _ _ gF)⟩,?_⟩
     refine bg (xs:=xs) (fun j σ Hy=>(∃(o5:Option V),σ=[some (.ref p),some (.ref F0),some (.str b.1),some (.int b.2),some (.ref L),o5])/\ah Hx Hy/\∃ys,Hy L=some (.lst ys)/\(ys.length:Int)=(j:Int) * b.2/\∀y∈ys,je (bs.take (i + 1)) Hy y) ⟨⟨_,rfl⟩,s3,[],g3,(by show (0:Int)=0 * b.2; rw [Int.zero_mul]),fun y z=>nomatch z⟩ (fun j σ Hy _ z=>aA.of (z.2.1 _ _ gF)) (fun j w0 σ Hy hw z=>?_) (fun σ Hy z=>?_)
     · obtain ⟨⟨o5,rfl⟩,sy,ys,gL,yl,hys⟩:=z
       have hjl:j < xs.length:=(List.getElem?_eq_some_iff.mp hw).1
       obtain ⟨ws,⟨pw,rfl,hpw⟩,wl⟩:=je.keep (ah.tk sy) (hxs w0 (Ef hw))
       have wll:=wl.len
       rw [Eo] at wll
       refine aj ?_
       refine aq [some (.ref p),some (.ref F0),some (.str b.1),some (.int b.2),some (.ref L),some (.ref pw)] rfl ?_
       refine ⟨_,rfl,.inl ⟨rfl,_,aA.of gL⟩,?_⟩
       have hil:i < vb.length:=(List.getElem?_eq_some_iff.mp hx).1
       have big:10000<=sizeLine:=by decide
       have hb8:b.2<=800:=by
         have:=HF t1.1 (Int.le_refl b.2) (by omega) (by omega)
         rw [GJ] at this
         omega
       refine ⟨_,rfl,b.2,rfl,by omega,by omega,fun C hC=>?_⟩
       refine b9 (lo:=0) (n:=b.2.toNat) (fun (k:Nat) Hz=>ah Hy Hz/\∃zs,Hz C=some (.lst zs)/\zs.length=k/\∀z∈zs,je (bs.take (i + 1)) Hz z) ⟨ag hC _,[],ae,rfl,fun _ z=>nomatch z⟩ (fun k Hz hk z=>?_) (fun Hz z=>?_)
       · obtain ⟨sz3,zs,gC,zl,hzs⟩:=z
         refine aj ?_
         refine bL (A:=fun H5=>cj _ C _ H5 _) ?_
         refine ⟨_,rfl,_,rfl,Kh,fun t1a ht1=>?_⟩
         have sa:=ag ht1 (.tup [.int (0 + (k:Int))])
         have ga:(upd Hz t1a (.tup [.int (0 + (k:Int))])) t1a=some (.tup [.int (0 + (k:Int))]):=ae
         generalize upd Hz t1a (.tup [.int (0 + (k:Int))])=Ha at sa ga ⊢
         refine ⟨pw,t1a,_,_,rfl,rfl,ar.of (sa _ _ (sz3 _ _ hpw)),ar.of ga,(fun z=>nomatch z),(by rw [Ea]; show _ + 1<=_; omega),fun z=>?_,fun _ t2a ht2=>?_⟩
         · have w0:ws=[]:=List.map_eq_nil_iff.mp z
           rw [w0] at wl
           have sb:=same_refl Ha
           have tv:je (bs.take (i + 1)) Ha (.ref t1a):=⟨[0 + (k:Int)],⟨t1a,rfl,ga⟩,by rw [tk1]; exact Paired.snoc wl ⟨by omega,by omega⟩⟩
           have gCb:=sb _ _ (sa _ _ gC)
           have tkC:TK Ha (upd Ha C (.lst (zs++[.ref t1a]))):=TW.TK.lst gCb
           have szb:=aa sz3 (aa sa sb)
           refine ⟨_,gCb,ax (by omega),aF (Pv:=fun (k:Nat) Hz=>ah Hy Hz/\∃zs,Hz C=some (.lst zs)/\zs.length=k/\∀z∈zs,je (bs.take (i + 1)) Hz z) (by repeat' constructor) hk ⟨aE szb hC,zs++[.ref t1a],ae,by rw [Eh,zl]; rfl,fun y hy=>?_⟩⟩
           rcases List.mem_append.mp hy with z | z
           · exact je.keep ((ah.tk (aa sa sb)).trans tkC) (hzs y z)
           · rw [List.mem_singleton.mp z]; exact je.keep tkC tv
         · have sb:=ag ht2 (.tup (ws.map V.int++[.int (0 + (k:Int))]))
           have tv:je (bs.take (i + 1)) (upd Ha t2a (.tup (ws.map V.int++[.int (0 + (k:Int))]))) (.ref t2a):=⟨ws++[0 + (k:Int)],⟨t2a,rfl,by rw [ae,En]; rfl⟩,by rw [tk1]; exact Paired.snoc wl ⟨by omega,by omega⟩⟩
           generalize upd Ha t2a (.tup (ws.map V.int++[.int (0 + (k:Int))]))=Hb at sb tv ⊢
           have gCb:=sb _ _ (sa _ _ gC)
           have tkC:TK Hb (upd Hb C (.lst (zs++[.ref t2a]))):=TW.TK.lst gCb
           have szb:=aa sz3 (aa sa sb)
           refine ⟨_,gCb,ax (by omega),aF (Pv:=fun (k:Nat) Hz=>ah Hy Hz/\∃zs,Hz C=some (.lst zs)/\zs.length=k/\∀z∈zs,je (bs.take (i + 1)) Hz z) (by repeat' constructor) hk ⟨aE szb hC,zs++[.ref t2a],ae,by rw [Eh,zl]; rfl,fun y hy=>?_⟩⟩
           rcases List.mem_append.mp hy with z | z
           · exact je.keep ((ah.tk (aa sa sb)).trans tkC) (hzs y z)
           · rw [List.mem_singleton.mp z]; exact je.keep tkC tv
       obtain ⟨sz3,zs,gC,zl,hzs⟩:=z
       have ub:(ys.length:Int) + b.2<=800:=by
         rw [yl]
         have h1:((j:Int) + 1) * b.2<=bj (bs.take i) * b.2:=Int.mul_le_mul_of_nonneg_right (by omega) (by omega)
         rw [Int.add_mul,GJ] at h1
         omega
       refine ⟨L,C,_,_,rfl,rfl,sz3 _ _ gL,gC,by omega,⟨_,rfl⟩,aE (aa sy sz3) hL,ys++zs,ae,?_,fun y hy=>?_⟩
       · rw [Eh,Int.natCast_add,yl,zl,Fu (by omega),Int.natCast_add,Int.add_mul]
         show _=_ + 1 * b.2
         rw [GJ]
       · have tkL:TK Hz (upd Hz L (.lst (ys++zs))):=TW.TK.lst (sz3 _ _ gL)
         rcases List.mem_append.mp hy with z | z
         · exact je.keep ((ah.tk sz3).trans tkL) (hys y z)
         · exact je.keep tkL (hzs y z)
     · obtain ⟨⟨o5,rfl⟩,sy,ys,gL,yl,hys⟩:=z
       refine kR _ _ ?_
       refine ⟨_,rfl,?_⟩
       refine aj ?_
       refine ⟨⟨L,ys,_,_,_,_,rfl,ai sx hL,gL,?_,hys⟩,aa sx sy⟩
       rw [yl,tk1,de,xl]
   · obtain ⟨⟨F0,xs,o2,o3,o4,o5,rfl,nF,gF,xl,hxs⟩,sx⟩:=z
     rw [vbl] at xl hxs
     rw [EL] at xl hxs
     refine kR _ _ ?_
     exact ⟨_,rfl,q F0 xs _ sx nF gF (by omega) hxs⟩
theorem xQ (s:Src K mg "_law_every" sEv)(m_range:mg "range"=none):aC P w K mg base "_law_every" ["program"] 1 tU:=
 let ⟨f,fd,F,m⟩:=s
 ⟨f,fd,AJ F m_range,F.kp,fg F fun _ _ _ _ _ _ _=>rfl,m⟩
end
end TW
set_option Elab.async false
set_option linter.all false
set_option maxRecDepth 100000
set_option exponentiation.threshold 4000
set_option maxHeartbeats 1000000
namespace TW
open PySem L2
section
variable {P:Program}{w:World}{K:D9}{mg:Str->Option Value}{base:Heap}
abbrev sWa:Stmt:=top 43
/-! ### what is kept while a pot is drawn from -/
theorem bT {H:Hp}{r a:Addr}{xs:List V}(h:bH H r)(ha:H a=some (.lst xs))(hx:∀i j:Int,xs≠[.int i,.int j]):a≠r:=fun e=>by
 obtain ⟨i,j,h1,_⟩:=h
 rw [e,h1] at ha
 cases ha
 exact hx i j rfl
theorem b8 {α:Type}{R:V->α->Prop}{xs:List V}{ys:List α}(h:Paired R xs ys)(hr:∀(i:Int) (y:α),¬ R (.int i) y):∀i j:Int,xs≠[.int i,.int j]:=fun i j e=>by
 subst e
 cases h with
 | cons a _=>exact hr _ _ a
theorem oN (xs:List Str):∀i j:Int,xs.map V.str≠[.int i,.int j]:=fun i j e=>by
 cases xs with
 | nil=>cases e
 | cons a l=>cases e
theorem yr {H:Hp}(i:Int):∀e:Np,¬ aG H (.int i) e
 | .put _ _ _,⟨_,⟨_,e,_⟩,_⟩=>nomatch e
 | .say _ _,⟨_,⟨_,e,_⟩,_⟩=>nomatch e
 | .test _ _ _,⟨_,⟨_,e,_⟩,_⟩=>nomatch e
 | .pick _ _,⟨_,e,_⟩=>nomatch e
 | .fin,⟨_,e,_⟩=>nomatch e
theorem oV.rl {H H':Hp}{r p:Addr}{bs:List (Str×Int)}{nds:List Np}(hr:bH H r)(l:Rl r H H')(h:oV H p bs nds):oV H' p bs nds:=
 let ⟨B,I,N,vb,vn,ins,a,b,c,d,e,f⟩:=h.ex
 have tk:=Rl.tk hr l
 ⟨B,I,N,vb,vn,ins,tk _ _ a,l.k _ _ (bT hr b (b8 c fun _ _ ⟨_,z,_⟩=>nomatch z)) b,Paired.mapP c fun _ _ z=>Tp.keep tk z,l.k _ _ (bT hr d (b8 e yr)) d,Paired.mapP e fun _ _ z=>aG.keep tk z,l.k _ _ (bT hr f (oN ins)) f⟩
theorem qP.rl {tO:Addr}{H H':Hp}{r D:Addr}{sm:V}{lv:List Lv}(hr:bH H r)(l:Rl r H H')(h:qP tO H D sm lv):qP tO H' D sm lv:=
 let ⟨kvs,a,b,c,d,e⟩:=h.ex
 have tk:=Rl.tk hr l
 ⟨kvs,l.k _ _ (fun z=>by obtain ⟨i,j,h1,_⟩:=hr; rw [z,h1] at a; cases a) a,b,fun k v hv=>by
   obtain ⟨la,xs,p,q,e1,e2,e3,e4,e5,e6⟩:=c k v hv
   refine ⟨la,xs,p,q,e1,e2,l.k _ _ (bT hr e3 fun i j z=>?_) e3,e4,e5,fun x hx=>?_⟩
   · obtain ⟨f,_,_,_,⟨_,f4,_⟩⟩:=e6 (.int i) (by rw [z]; exact List.mem_cons.mpr (.inl rfl))
     exact nomatch f4
   · obtain ⟨f,f1,f2,f3,f4⟩:=e6 x hx
     exact ⟨f,f1,f2,f3,bE.keep tk f4⟩,d,e⟩
theorem um.rl {K:D9}{H H':Hp}{r:Addr}{sm:V}{se:E}{bs:List (Str×Int)}(hr:bH H r)(l:Rl r H H')(h:um K H sm se bs):um K H' sm se bs:=⟨EK.keep (Rl.tk hr l) h.ek,h.is,h.ok,h.dp,h.iff⟩
theorem uo.rl {K:D9}{tO:Addr}{H H':Hp}{r p1 p2 D:Addr}{sm:V}{se:E}{bs:List (Str×Int)}{nds nds':List Np}{lv:List Lv}(hr:bH H r)(l:Rl r H H')(h:uo K tO H p1 p2 D sm se bs nds nds' lv):uo K tO H' p1 p2 D sm se bs nds nds' lv:=
 ⟨h.g1.rl hr l,h.g2.rl hr l,h.nt,h.th.rl hr l,h.l9,h.cn.rl hr l,h.sim,h.bt,fun e he=>EK.keep (Rl.tk hr l) (h.wt e he)⟩
theorem Ax {k s:Int}(c:Bool)(h0:0<=k)(h1:k < s):0<=k * (if c then 1 else 0)/\k * (if c then 1 else 0) < s:=by cases c <;> simp <;> omega
def wm (K:D9)(tO:Addr):Sp:=fun vs H Q _=>∃(r p1 p2 D:Addr) (sm:V) (se:E) (bs:List (Str×Int)) (nds nds':List Np) (lv:List Lv),vs=[.ref r,.ref p1,.ref p2,.ref D]/\bH H r/\uo K tO H p1 p2 D sm se bs nds nds' lv/\∀H',Rl r H H'->Q (.bl true) H'
theorem fL:az ["pot","one","other","there_are","mine","name","size","place","turn","known","entry","here","there"] ["pot","one","other","there_are"] (af sWa):=⟨rfl,rfl,rfl,by decide +kernel,rfl,by decide +kernel,by decide +kernel⟩
theorem jY:(af sWa).names.lookup (Eb "_law_both")=some .globalImplicit:=by decide +kernel
theorem fF:(af sWa).names.lookup (Eb "_law_counting")=some .globalImplicit:=by decide +kernel
theorem jZ:(af sWa).names.lookup (Eb "_law_next")=some .globalImplicit:=by decide +kernel
theorem eK:(af sWa).names.lookup (Eb "_law_step")=some .globalImplicit:=by decide +kernel
theorem j4:(af sWa).names.lookup (Eb "_law_well")=some .globalImplicit:=by decide +kernel
theorem uS:(af sWa).names.lookup (Eb "int")=some .globalImplicit:=by decide +kernel
theorem pP:(af sWa).names.lookup (Eb "range")=some .globalImplicit:=by decide +kernel
theorem jr:(af sWa).names.lookup (Eb "tuple")=some .globalImplicit:=by decide +kernel
theorem AV {tO:Addr}{f:Addr}{fd:FuncData}(F:bQ K "_law_walked" "_law_walked" sWa f fd)(m_int:mg "int"=none)(m_tuple:mg "tuple"=none)(m_range:mg "range"=none)(TK00:aC P w K mg base "_law_next" ["pot","many"] 1 aZ)(BO0:aC P w K mg base "_law_both" ["one","other","mine","yours"] 2 qC)(ST0:aC P w K mg base "_law_step" ["program","place","worths"] 52 qD)(CT0:aC P w K mg base "_law_counting" ["there","p","q","known"] 52 (iH K tO))(WE:aC P w K mg base "_law_well" ["one","other","there_are","entry","mine","yours","known"] 53 (lZ K tO)):aI P w K mg base CX0 54 f fd ["pot","one","other","there_are"] (wm K tO):=by
 refine F.ok fL (fun vs H Q E h=>?_) (fun cdv A outer s H vs Q E hr h=>?_)
 · obtain ⟨r,p1,p2,D,sm,se,bs,nds,nds',lv,rfl,_⟩:=h
   rfl
 · obtain ⟨r,p1,p2,D,sm,se,bs,nds,nds',lv,rfl,hre,st,q⟩:=h
   have TK0:=TK00.mono (show 1<=53 by omega)
   have BO:=BO0.mono (show 2<=53 by omega)
   have CT:=CT0.mono (show 52<=53 by omega)
   have ST:=ST0.mono (show 52<=53 by omega)
   obtain ⟨B,I,N,vb,vn,ins,hp,hB,pb,hN,pn,hI⟩:=st.g1.ex
   have vbl:=Paired.length pb
   have l4:=st.bt.l4
   have Br:=bT hre hB (b8 pb fun _ _ ⟨_,z,_⟩=>nomatch z)
   have Ir:=bT hre hI (oN ins)
   refine cu ⟨_,(Ih (Io 4 fL.nd (ID Ie))
     (Ih (IT (IQ (Ii Ik (Ib 1) Ig)) (IU 2 (IC (Iq 5 fL.nd) (IC (Iq 6 fL.nd) IV))) (Ij (Jd (Jm (Ib 4) (Ic (IB Jl (Il TK0 hr jZ (Ic (Ib 0) (Ic (Ib 6) Ie))) (Jb L3.nJ uS m_int (by decide +kernel) (Ic (IL Jw (Ib 5) (Ii Ik (Ib 1) Ig) (by rfl)) Ie))) Ie)))))
     (Ih (Io 7 fL.nd (IA (Ic Ig (Ic Ig (Ic (Jb Jr jr m_tuple (by decide +kernel) (Ic (Ib 4) Ie)) (Ic (Jb Jr jr m_tuple (by decide +kernel) (Ic (Ib 4) Ie)) Ie))))))
     (Ih (IT (Jg pP m_range (Ic Ig Ie)) (Iq 8 fL.nd) (Ih (Io 9 fL.nd (Il BO hr jY (Ic (Ib 1) (Ic (Ib 2) (Ic (Ii Ik (Ib 7) Ig) (Ic (Ii Ik (Ib 7) Ig) Ie))))))
     (Ih (Io 10 fL.nd (Il CT hr fF (Ic (Ib 3) (Ic (Ii Ik (Ib 7) Ig) (Ic (Ii Ik (Ib 7) Ig) (Ic (Ib 9) Ie))))))
     (Ih (Iv (Iu Jh (Ib 10) I9) (Ij (Im IK)) Iw)
     (Ih (Iv (IW (IF (Il WE hr j4 (Ic (Ib 1) (Ic (Ib 2) (Ic (Ib 3) (Ic (Ib 10) (Ic (Ii Ik (Ib 7) Ig) (Ic (Ii Ik (Ib 7) Ig) (Ic (Ib 9) Ie)))))))))) (Ij (Im IK)) Iw)
     (Ih (Io 11 fL.nd (Il ST hr eK (Ic (Ib 1) (Ic (Ii Ik (Ib 7) Ig) (Ic (Ii Ik (Ib 7) Ig) Ie)))))
     (Ih (Io 12 fL.nd (Il ST hr eK (Ic (Ib 2) (Ic (Ii Ik (Ib 7) Ig) (Ic (Ii Ik (Ib 7) Ig) Ie)))))
     (Ih (Iv (Iu Iz (Ii Ik (Ib 10) Ig) Ip) (Ij (Im IK)) Iw)
     (Ih (Iv (Iu Iz (Ii Ik (Ib 10) Ig) Ip) (Ij (Io 12 fL.nd (IA (Ic (ID Ie) (Ic (Ii Ik (Ib 7) Ig) (Ic (Ii Ik (Ib 7) Ig) Ie)))))) Iw)
     (Ih (Iv (Iu Iz (Ii Ik (Ib 10) Ig) Ip) (Ij (Io 11 fL.nd (IA (Ic (ID Ie) (Ic (Ii Ik (Ib 7) Ig) (Ic (Ii Ik (Ib 7) Ig) Ie)))))) Iw)
     (Ij (Io 7 fL.nd (IA (Ic (Ii Ik (Ib 11) Ig) (Ic (Ii Ik (Ib 12) Ig) (Ic (Ii Ik (Ib 11) Ig) (Ic (Ii Ik (Ib 12) Ig) Ie)))))))))))))))))
     (Ij (Im IK)))))),?_⟩
   refine ao fun Rk kR=>?_
   refine ⟨Kg,fun M hM=>?_⟩
   have Mr:=hre.ne hM
   have s1:=ag hM (.lst [])
   have g1:(upd H M (.lst [])) M=some (.lst []):=ae
   generalize upd H M (.lst [])=H1 at s1 g1 ⊢
   refine aj ?_
   refine kR _ _ ?_
   clear kR
   refine aq [some (.ref r),some (.ref p1),some (.ref p2),some (.ref D),some (.ref M),none,none,none,none,none,none,none,none] rfl ?_
   refine ao fun Rk kR=>?_
   refine ⟨_,rfl,p1,_,_,_,rfl,rfl,ar.of (s1 _ _ hp),rfl,B,rfl,⟨_,aA.of (s1 _ _ hB)⟩,?_⟩
   refine bg (xs:=vb) (fun i σ Hx=>(∃o5 o6,σ=[some (.ref r),some (.ref p1),some (.ref p2),some (.ref D),some (.ref M),o5,o6,none,none,none,none,none,none])/\Rl r H Hx/\∃ms:List Int,Hx M=some (.lst (ms.map V.int))/\iU (bs.take i) ms) ⟨⟨none,none,rfl⟩,Rl.of hre s1,[],g1,by rw [E1]; exact .nil⟩ (fun i σ Hx _ z=>aA.of (z.2.1.k _ _ Br hB)) (fun i x0 σ Hx hx z=>?_) (fun σ Hx z=>?_)
   · obtain ⟨⟨o5,o6,rfl⟩,lx,ms,gM,ml⟩:=z
     have tkx:=Rl.tk hre lx
     have ml2:=ml.len
     rw [Eo] at ml2
     have hil:i < vb.length:=(List.getElem?_eq_some_iff.mp hx).1
     obtain ⟨b,hbi,pb0,rfl,hpb⟩:=Paired.get pb hx
     have hb1:=st.bt.sz b (Ef hbi)
     have hb9:=st.bt.s9 b (Ef hbi)
     have bigp:(16:Int) < 2 ^ 110:=by decide
     refine ⟨pb0,_,rfl,ar.of (tkx _ _ hpb),rfl,_,_,rfl,_,_,rfl,rfl,?_⟩
     refine aq [some (.ref r),some (.ref p1),some (.ref p2),some (.ref D),some (.ref M),some (.str b.1),some (.int b.2),none,none,none,none,none,none] rfl ?_
     refine ⟨_,rfl,.inl ⟨rfl,_,aA.of gM⟩,_,rfl,_,rfl,r,b.2,rfl,lx.rl,by omega,by omega,fun k Hk k0 k1 lk=>?_⟩
     have lxk:=lx.trans lk
     have tkk:=Rl.tk hre lxk
     refine ⟨_,rfl,_,rfl,p1,_,_,_,rfl,rfl,ar.of (tkk _ _ hp),rfl,I,_,rfl,.inl (aA.of (lxk.k _ _ Ir hI)),rfl,jl ins,.inr ⟨_,rfl,_,_,rfl,rfl,?_⟩⟩
     have gMk:=lk.k _ _ Mr gM
     refine ⟨.inl ⟨F8 (by decide) k0,F8 k1 (GY hb9 (by decide))⟩,M,_,_,rfl,rfl,gMk,ax (by rw [Ea]; omega),⟨_,_,rfl⟩,Rl.put lxk Mr hM,ms++[_],by rw [ae,En]; rfl,by rw [Er,hbi]; exact Paired.snoc ml (Ax _ k0 k1)⟩
   obtain ⟨⟨o5,o6,rfl⟩,lx,ms,gM,ml⟩:=z
   rw [vbl,EL] at ml
   have stx:=st.rl hre lx
   refine kR _ _ ?_
   clear kR
   refine ao fun Rk kR=>?_
   refine ⟨_,rfl,M,_,rfl,(.inl (.inl gM)),fun a0 ha0=>?_⟩
   have s2:=ag ha0 (.tup (ms.map V.int))
   have g2:(upd Hx a0 (.tup (ms.map V.int))) a0=some (.tup (ms.map V.int)):=ae
   generalize upd Hx a0 (.tup (ms.map V.int))=H2 at s2 g2 ⊢
   refine ⟨_,rfl,M,_,rfl,(.inl (.inl (s2 _ _ gM))),fun b0 hb0=>?_⟩
   have s3:=ag hb0 (.tup (ms.map V.int))
   have g3:(upd H2 b0 (.tup (ms.map V.int))) b0=some (.tup (ms.map V.int)):=ae
   generalize upd H2 b0 (.tup (ms.map V.int))=H3 at s3 g3 ⊢
   refine ⟨Kk,fun pl hpl=>?_⟩
   have s4:=ag hpl (.tup [.int 0,.int 0,.ref a0,.ref b0])
   have g4:(upd H3 pl (.tup [.int 0,.int 0,.ref a0,.ref b0])) pl=some (.tup [.int 0,.int 0,.ref a0,.ref b0]):=ae
   generalize upd H3 pl (.tup [.int 0,.int 0,.ref a0,.ref b0])=H4 at s4 g4 ⊢
   have sx4:=aa s2 (aa s3 s4)
   refine aj ?_
   refine kR _ _ ?_
   clear kR
   refine aq [some (.ref r),some (.ref p1),some (.ref p2),some (.ref D),some (.ref M),o5,o6,some (.ref pl),none,none,none,none,none] rfl ?_
   refine ao fun Rk kR=>?_
   have st4:=stx.same sx4
   have l4:=lx.trans (Rl.of lx.rl sx4)
   obtain ⟨f0,hf0,f01,f02⟩:=st.sim.zero
   refine ⟨40,rfl,by decide,by decide,?_⟩
   refine b7 (lo:=0) (n:=40) (fun i σ Hy=>(∃(pl a b:Addr) (p p':Int) (ws:List Int) (o8 o9 o10 o11 o12:Option V),σ=[some (.ref r),some (.ref p1),some (.ref p2),some (.ref D),some (.ref M),o5,o6,some (.ref pl),o8,o9,o10,o11,o12]/\Hy pl=some (.tup [.int p,.int p',.ref a,.ref b])/\Hy a=some (.tup (ws.map V.int))/\Hy b=some (.tup (ws.map V.int))/\iU bs ws/\∃f∈lv,f.1=p/\f.2.1=p')/\ah H4 Hy) ⟨⟨pl,a0,b0,0,0,ms,_,_,_,_,_,rfl,g4,s4 _ _ (s3 _ _ g2),s4 _ _ g3,ml,f0,hf0,f01,f02⟩,same_refl _⟩ ?_ ?_
   · rintro i σ Hy hi ⟨⟨pl,a,b,p,p',ws,o8,o9,o10,o11,o12,rfl,gp,ga,gb,wl,e0,he0,ee1,ee2⟩,sy⟩
     have bN:=st4.same sy
     obtain ⟨n1,n2,a1,c1,ls,ep,ep',ha1,hc1,hb1,_⟩:=st.sim.hat e0 he0
     rw [ee1] at ep
     rw [ee2] at ep'
     subst ep ep'
     have na:=st.nt a1 (Ef ha1)
     refine aj ?_
     refine aq [some (.ref r),some (.ref p1),some (.ref p2),some (.ref D),some (.ref M),o5,o6,some (.ref pl),some (.int (0 + (i:Int))),o9,o10,o11,o12] rfl ?_
     refine ao fun Rk kR=>?_
     refine ⟨_,rfl,_,rfl,_,rfl,pl,_,_,_,rfl,rfl,ar.of gp,rfl,_,rfl,pl,_,_,_,rfl,rfl,ar.of gp,rfl,p1,p2,a,b,bs,ws,ws,rfl,bN.g1.bx,bN.g2.bx,ga,gb,wl.len,wl.len,st.bt.l4,st.bt.nd,fun D2 H5 s5 nD2 kn=>?_⟩
     refine aj ?_
     refine kR _ _ ?_
     clear kR
     refine aq [some (.ref r),some (.ref p1),some (.ref p2),some (.ref D),some (.ref M),o5,o6,some (.ref pl),some (.int (0 + (i:Int))),some (.ref D2),o10,o11,o12] rfl ?_
     refine ao fun Rk kR=>?_
     have st5:=bN.same s5
     have gp5:=s5 _ _ gp
     have hh:se.holds (W2 bs ws ws)=true:=by rw [st.cn.iff ws ws wl.len wl.len]; exact decide_eq_true rfl
     refine ⟨_,rfl,_,rfl,pl,_,_,_,rfl,rfl,ar.of gp5,rfl,_,rfl,pl,_,_,_,rfl,rfl,ar.of gp5,rfl,_,rfl,D,D2,_,_,sm,se,lv,bs,_,rfl,st5.th,st.l9,st5.cn,kn,fun _ x6 e6 H6 s6 he6 e61 e62 le6=>?_,fun z=>?_⟩
     rotate_left
     · rcases z with z | z
       · rw [hh] at z
         cases z
       · exact (z e0 he0 ee1 ee2).elim
     have st6:=st5.same s6
     have le6':=le6
     obtain ⟨pe,rfl,hpe⟩:=le6
     refine aj ?_
     refine kR _ _ ?_
     clear kR
     refine aq [some (.ref r),some (.ref p1),some (.ref p2),some (.ref D),some (.ref M),o5,o6,some (.ref pl),some (.int (0 + (i:Int))),some (.ref D2),some (.ref pe),o11,o12] rfl ?_
     refine ao fun Rk kR=>?_
     refine ⟨_,rfl,rfl,_,rfl,?_⟩
     rw [V.ref_non]
     refine bh (kR _ _ ?_)
     clear kR
     refine ao fun Rk kR=>?_
     have s56:=aa s5 s6
     have gp6:=s6 _ _ gp5
     refine ⟨_,rfl,_,rfl,_,rfl,_,rfl,_,rfl,pl,_,_,_,rfl,rfl,ar.of gp6,rfl,_,rfl,pl,_,_,_,rfl,rfl,ar.of gp6,rfl,_,rfl,p1,p2,D,a,b,D2,.ref pe,sm,se,bs,nds,nds',lv,e6,ws,_,rfl,st6,he6,le6',s56 _ _ ga,s56 _ _ gb,wl,kn.same s6,fun H7 s7=>⟨_,rfl,iteF' rfl (kR _ _ ?_)⟩⟩
     clear kR
     refine ao fun Rk kR=>?_
     have st7:=st6.same s7
     have s57:=aa s56 s7
     have gp7:=s7 _ _ gp6
     have hpe7:=s7 _ _ hpe
     obtain ⟨m1,m2,a6,c6,ls6,ep6,ep6',ha6,hc6,hb6,alt6⟩:=w5 st.sim wl st.bt.nd he6
     have em1:m1=n1:=by omega
     have em2:m2=n2:=by omega
     subst em1 em2
     have na6:=st.nt a6 (Ef ha6)
     have nc6:=(st.nt c6 hc6).led ls6
     generalize c6.led ls6=c' at hb6 alt6 nc6
     generalize hwho:kJ e6.2.2.1=who at hpe7 alt6
     rcases alt6 with ⟨rfl,rfl,rfl⟩ | ⟨sd,n,ws',sE⟩
     · refine ⟨_,rfl,_,rfl,pl,_,_,_,rfl,rfl,ar.of gp7,rfl,_,rfl,pl,_,_,_,rfl,rfl,ar.of gp7,rfl,p1,a,m1,bs,nds,ws,.fin,rfl,st7.g1,ha6,na6,s57 _ _ ga,wl.len,st.bt,fun _ H8 s8=>?_,fun _ _ _ z=>nomatch z⟩
       refine aj ?_
       refine kR _ _ ?_
       clear kR
       refine aq [some (.ref r),some (.ref p1),some (.ref p2),some (.ref D),some (.ref M),o5,o6,some (.ref pl),some (.int (0 + (i:Int))),some (.ref D2),some (.ref pe),some .aU,o12] rfl ?_
       refine ao fun Rk kR=>?_
       refine ⟨_,rfl,_,rfl,pl,_,_,_,rfl,rfl,ar.of (s8 _ _ gp7),rfl,_,rfl,pl,_,_,_,rfl,rfl,ar.of (s8 _ _ gp7),rfl,p2,b,m2,bs,nds',ws,.fin,rfl,st7.g2.same s8,hb6,nc6,s8 _ _ (s57 _ _ gb),wl.len,st.bt,fun _ H9 s9=>?_,fun _ _ _ z=>nomatch z⟩
       refine aj ?_
       refine kR _ _ ?_
       clear kR
       refine aq [some (.ref r),some (.ref p1),some (.ref p2),some (.ref D),some (.ref M),o5,o6,some (.ref pl),some (.int (0 + (i:Int))),some (.ref D2),some (.ref pe),some .aU,some .aU] rfl ?_
       refine ao fun Rk kR=>?_
       have s89:=aa s8 s9
       refine ⟨_,rfl,pe,_,_,_,rfl,rfl,ar.of (s89 _ _ hpe7),rfl,rfl,_,rfl,iteT' (by decide) ?_⟩
       exact q _ (l4.trans (Rl.of l4.rl (aa sy (aa s57 s89))))
     · have hs1:=sE.s1
       have wl':=ma wl st.bt.sz hs1
       have wcase:who="both"\/who="mine":=sE.wh.elim (fun z=>.inl z.1) (fun z=>.inr z.1)
       have nwe:decide (V.str who=V.str "end")=false:=by rcases wcase with rfl | rfl <;> decide
       have nwy:decide (V.str who=V.str "yours")=false:=by rcases wcase with rfl | rfl <;> decide
       refine ⟨_,rfl,_,rfl,pl,_,_,_,rfl,rfl,ar.of gp7,rfl,_,rfl,pl,_,_,_,rfl,rfl,ar.of gp7,rfl,p1,a,m1,bs,nds,ws,a6,rfl,st7.g1,ha6,na6,s57 _ _ ga,wl.len,st.bt,(fun z=>by rw [hs1] at z; cases z),fun s0 n0 w0 z r1 l1 l2 H8 s8 gr gl1 gl2=>?_⟩
       rw [hs1] at z
       cases z
       refine aj ?_
       refine kR _ _ ?_
       clear kR
       refine aq [some (.ref r),some (.ref p1),some (.ref p2),some (.ref D),some (.ref M),o5,o6,some (.ref pl),some (.int (0 + (i:Int))),some (.ref D2),some (.ref pe),some (.ref r1),o12] rfl ?_
       refine ao fun Rk kR=>?_
       have go:∀(tv:V) (H9:Hp),ah H8 H9->(who="both"->∃(r2 l3 l5:Addr) (n':Int),tv=.ref r2/\H9 r2=some (.tup [.ref l3,.int n',.ref l5])/\H9 l5=some (.tup (ws'.map V.int))/\∃f∈lv,f.1=n/\f.2.1=n')->Rk [some (.ref r),some (.ref p1),some (.ref p2),some (.ref D),some (.ref M),o5,o6,some (.ref pl),some (.int (0 + (i:Int))),some (.ref D2),some (.ref pe),some (.ref r1),some tv] H9:=fun tv H9 s9 hbo=>by
         refine kR _ _ ?_
         clear kR
         refine ao fun Rk kR=>?_
         have s89:=aa s8 s9
         have hpe9:=s89 _ _ hpe7
         refine ⟨_,rfl,pe,_,_,_,rfl,rfl,ar.of hpe9,rfl,rfl,_,rfl,iteF' nwe (kR _ _ ?_)⟩
         clear kR
         refine ao fun Rk kR=>?_
         have tail:∀(r2 l3 l5:Addr) (n':Int) (Hc:Hp),ah H9 Hc->Hc r2=some (.tup [.ref l3,.int n',.ref l5])->Hc l5=some (.tup (ws'.map V.int))->(∃f∈lv,f.1=n/\f.2.1=n')->Rk [some (.ref r),some (.ref p1),some (.ref p2),some (.ref D),some (.ref M),o5,o6,some (.ref pl),some (.int (0 + (i:Int))),some (.ref D2),some (.ref pe),some (.ref r1),some (.ref r2)] Hc:=fun r2 l3 l5 n' Hc sc gr2 gl5 nn=>by
           refine kR _ _ ?_
           clear kR
           refine ao fun Rk kR=>?_
           refine ⟨_,rfl,pe,_,_,_,rfl,rfl,ar.of (sc _ _ hpe9),rfl,rfl,_,rfl,iteF' nwy (kR _ _ ?_)⟩
           clear kR
           have s9c:=aa s9 sc
           have grc:=s9c _ _ gr
           refine ⟨_,rfl,r1,_,_,_,rfl,rfl,ar.of grc,rfl,_,rfl,r2,_,_,_,rfl,rfl,ar.of gr2,rfl,_,rfl,r1,_,_,_,rfl,rfl,ar.of grc,rfl,_,rfl,r2,_,_,_,rfl,rfl,ar.of gr2,rfl,Kk,fun pl2 hpl2=>?_⟩
           have s10:=ag hpl2 (.tup [.int n,.int n',.ref l2,.ref l5])
           refine aj ?_
           exact ⟨⟨pl2,l2,l5,n,n',ws',_,_,_,_,_,rfl,ae,s10 _ _ (s9c _ _ gl2),s10 _ _ gl5,wl',nn⟩,aa sy (aa s57 (aa s8 (aa s9c s10)))⟩
         rcases sE.wh with ⟨rfl,_⟩ | ⟨rfl,rfl,rfl,hf,_⟩
         · obtain ⟨r2,l3,l5,n',rfl,gr2,gl5,nn⟩:=hbo rfl
           exact ⟨_,rfl,pe,_,_,_,rfl,rfl,ar.of hpe9,rfl,rfl,_,rfl,iteF' (by decide) (tail r2 l3 l5 n' H9 (same_refl _) gr2 gl5 nn)⟩
         · refine ⟨_,rfl,pe,_,_,_,rfl,rfl,ar.of hpe9,rfl,rfl,_,rfl,iteT' (by decide) ?_⟩
           refine ⟨Kg,fun l0 hl0=>?_⟩
           have s0:=ag hl0 (.lst [])
           generalize upd H9 l0 (.lst [])=Ha at s0 ⊢
           have gpa:=s0 _ _ (s89 _ _ gp7)
           refine ⟨_,rfl,pl,_,_,_,rfl,rfl,ar.of gpa,rfl,_,rfl,pl,_,_,_,rfl,rfl,ar.of gpa,rfl,Kj,fun t3 ht3=>?_⟩
           have s3:=ag ht3 (.tup [.ref l0,.int (m2:Int),.ref b])
           have g3:(upd Ha t3 (.tup [.ref l0,.int (m2:Int),.ref b])) t3=some (.tup [.ref l0,.int (m2:Int),.ref b]):=ae
           generalize upd Ha t3 (.tup [.ref l0,.int (m2:Int),.ref b])=Hb at s3 g3 ⊢
           refine aj ?_
           rw [ep6'] at hf
           exact tail t3 l0 b (m2:Int) Hb (aa s0 s3) g3 (s3 _ _ (s0 _ _ (s89 _ _ (s57 _ _ gb)))) hf
       refine ⟨_,rfl,_,rfl,pl,_,_,_,rfl,rfl,ar.of (s8 _ _ gp7),rfl,_,rfl,pl,_,_,_,rfl,rfl,ar.of (s8 _ _ gp7),rfl,p2,b,m2,bs,nds',ws,c',rfl,st7.g2.same s8,hb6,nc6,s8 _ _ (s57 _ _ gb),wl.len,st.bt,fun hno H9 s9=>?_,fun s0 n0 w0 z r2 l3 l5 H9 s9 gr2 gl3 gl5=>?_⟩
       · refine aj ?_
         refine go _ H9 s9 fun hbo=>?_
         rcases sE.wh with ⟨_,n',hs2,_⟩ | ⟨z,_⟩
         · rw [hs2] at hno
           cases hno
         · rw [hbo] at z
           exact absurd z (by decide)
       · refine aj ?_
         refine go _ H9 s9 fun hbo=>?_
         rcases sE.wh with ⟨_,n',hs2,hf⟩ | ⟨y,_⟩
         · rw [hs2] at z
           cases z
           exact ⟨r2,l3,l5,_,rfl,gr2,gl5,hf⟩
         · rw [hbo] at y
           exact absurd y (by decide)
   · rintro σ Hy ⟨⟨pl,a,b,p,p',ws,o8,o9,o10,o11,o12,rfl,gp,ga,gb,wl,e0,he0,ee1,ee2⟩,sy⟩
     refine kR _ _ ?_
     exact q _ (l4.trans (Rl.of l4.rl sy))
theorem xX {tO:Addr}(s:Src K mg "_law_walked" sWa)(m_int:mg "int"=none)(m_tuple:mg "tuple"=none)(m_range:mg "range"=none)(TK00:aC P w K mg base "_law_next" ["pot","many"] 1 aZ)(BO0:aC P w K mg base "_law_both" ["one","other","mine","yours"] 2 qC)(ST0:aC P w K mg base "_law_step" ["program","place","worths"] 52 qD)(CT0:aC P w K mg base "_law_counting" ["there","p","q","known"] 52 (iH K tO))(WE:aC P w K mg base "_law_well" ["one","other","there_are","entry","mine","yours","known"] 53 (lZ K tO)):aC P w K mg base "_law_walked" ["pot","one","other","there_are"] 54 (wm K tO):=
 let ⟨f,fd,F,m⟩:=s
 ⟨f,fd,AV F m_int m_tuple m_range TK00 BO0 ST0 CT0 WE,F.kp,oW F fun _ _ _ _ _ _ _ _ _ _=>rfl,m⟩
end
end TW
set_option Elab.async false
set_option linter.all false
set_option maxRecDepth 100000
set_option exponentiation.threshold 4000
set_option maxHeartbeats 1000000
namespace TW
open PySem L2
section
variable {P:Program}{w:World}{K:D9}{mg:Str->Option Value}{base:Heap}
abbrev sLa:Stmt:=top 44
/-! ### _law_looked_at -/
/-- the paper as it is told,of both programs -/
structure wA (K:D9)(tO:Addr)(H:Hp)(p1 p2 P':Addr)(ps:List V)(sm:V)(se:E)(bs:List (Str×Int))(nds nds':List Np)(lv:List Lv):Prop where
 g1:oV H p1 bs nds
 g2:oV H p2 bs nds'
 nt:∀e∈nds,xm (bs.map (·.1)) e
 hP:H P'=some (.lst ps)
 pp:Paired (fun v e=>bE tO H v sm e) ps lv
 l9:lv.length<=900
 cn:um K H sm se bs
 sim:uv nds nds' lv
 bt:BR bs
 wt:∀e∈lv,EK K H e.2.2.2.2 (.num (e.2.2.2.1:Int))
theorem yo {tO:Addr}{H:Hp}{sm:V}(i:Int)(e:Lv):¬ bE tO H (.int i) sm e:=fun ⟨_,z,_⟩=>nomatch z
theorem wA.rl {K:D9}{tO:Addr}{H H':Hp}{r p1 p2 P':Addr}{ps:List V}{sm:V}{se:E}{bs:List (Str×Int)}{nds nds':List Np}{lv:List Lv}(hr:bH H r)(l:Rl r H H')(h:wA K tO H p1 p2 P' ps sm se bs nds nds' lv):wA K tO H' p1 p2 P' ps sm se bs nds nds' lv:=
 ⟨h.g1.rl hr l,h.g2.rl hr l,h.nt,l.k _ _ (bT hr h.hP (b8 h.pp yo)) h.hP,Paired.mapP h.pp fun _ _ z=>bE.keep (Rl.tk hr l) z,h.l9,h.cn.rl hr l,h.sim,h.bt,fun e he=>EK.keep (Rl.tk hr l) (h.wt e he)⟩
theorem wA.sit {K:D9}{tO:Addr}{H:Hp}{p1 p2 P' D:Addr}{ps:List V}{sm:V}{se:E}{bs:List (Str×Int)}{nds nds':List Np}{lv:List Lv}(h:wA K tO H p1 p2 P' ps sm se bs nds nds' lv)(th:qP tO H D sm lv):uo K tO H p1 p2 D sm se bs nds nds' lv:=⟨h.g1,h.g2,h.nt,th,h.l9,h.cn,h.sim,h.bt,h.wt⟩
def wg (K:D9)(tO:Addr):Sp:=fun vs H Q _=>∃(r p1 p2 P':Addr) (ps:List V) (sm:V) (se:E) (bs:List (Str×Int)) (nds nds':List Np) (lv:List Lv),vs=[.ref r,.ref p1,.ref p2,.ref P']/\bH H r/\wA K tO H p1 p2 P' ps sm se bs nds nds' lv/\∀H',Rl r H H'->Q (.bl true) H'
theorem ku:az ["pot","one","other","paper","there","turn","entry","mine","yours","known","found"] ["pot","one","other","paper"] (af sLa):=⟨rfl,rfl,rfl,by decide +kernel,rfl,by decide +kernel,by decide +kernel⟩
theorem jS:(af sLa).names.lookup (Eb "_law_both")=some .globalImplicit:=by decide +kernel
theorem eG:(af sLa).names.lookup (Eb "_law_by_places")=some .globalImplicit:=by decide +kernel
theorem fC:(af sLa).names.lookup (Eb "_law_counting")=some .globalImplicit:=by decide +kernel
theorem eI:(af sLa).names.lookup (Eb "_law_next")=some .globalImplicit:=by decide +kernel
theorem ic:(af sLa).names.lookup (Eb "_law_walked")=some .globalImplicit:=by decide +kernel
theorem jT:(af sLa).names.lookup (Eb "_law_well")=some .globalImplicit:=by decide +kernel
theorem uO:(af sLa).names.lookup (Eb "all")=some .globalImplicit:=by decide +kernel
theorem uP:(af sLa).names.lookup (Eb "len")=some .globalImplicit:=by decide +kernel
theorem pJ:(af sLa).names.lookup (Eb "range")=some .globalImplicit:=by decide +kernel
theorem jn:(af sLa).names.lookup (Eb "tuple")=some .globalImplicit:=by decide +kernel
theorem AN {tO:Addr}{f:Addr}{fd:FuncData}(F:bQ K "_law_looked_at" "_law_looked_at" sLa f fd)(m_all:mg "all"=none)(m_len:mg "len"=none)(m_tuple:mg "tuple"=none)(m_range:mg "range"=none)(TK00:aC P w K mg base "_law_next" ["pot","many"] 1 aZ)(BO0:aC P w K mg base "_law_both" ["one","other","mine","yours"] 2 qC)(CT0:aC P w K mg base "_law_counting" ["there","p","q","known"] 52 (iH K tO))(WE0:aC P w K mg base "_law_well" ["one","other","there_are","entry","mine","yours","known"] 53 (lZ K tO))(IE0:aC P w K mg base "_law_is_entry" ["one","other","entry"] 1 (tV tO))(BP0:aC P w K mg base "_law_by_places" ["paper"] 1 (m5 tO))(WA:aC P w K mg base "_law_walked" ["pot","one","other","there_are"] 54 (wm K tO)):aI P w K mg base CX0 55 f fd ["pot","one","other","paper"] (wg K tO):=by
 refine F.ok ku (fun vs H Q E h=>?_) (fun cdv A outer s H vs Q E hr h=>?_)
 · obtain ⟨r,p1,p2,P0,ps,sm,se,bs,nds,nds',lv,rfl,_⟩:=h
   rfl
 · obtain ⟨r,p1,p2,P0,ps,sm,se,bs,nds,nds',lv,rfl,hre,pap,q⟩:=h
   have TK0:=TK00.mono (show 1<=54 by omega)
   have BO:=BO0.mono (show 2<=54 by omega)
   have CT:=CT0.mono (show 52<=54 by omega)
   have WE:=WE0.mono (show 53<=54 by omega)
   have IE:=IE0.mono (show 1<=54 by omega)
   have BP:=BP0.mono (show 1<=54 by omega)
   have pl:=Paired.length pap.pp
   have l9:=pap.l9
   have l4:=pap.bt.l4
   refine cu ⟨_,(Ih (Iv (IW (IF (Iy Jv uO m_all (by decide +kernel) (Ic (IS [none,some 1,some 2] ["entry","one","other"] (show av _ (af sLa) from ⟨rfl,by decide +kernel,by decide +kernel,by decide +kernel⟩) (by rfl) (IQ (Ib 3)) (fun _ _ _ _ _=>⟨(Iq 0 (show (["entry","one","other"]:List Str).Nodup from by decide +kernel)),IX,(Il IE hr (by rfl) (Ic (Ib 1) (Ic (Ib 2) (Ic (Ib 0) Ie))))⟩)) Ie)))) (Ij (Im IK)) Iw)
     (Ih (Io 4 ku.nd (Il BP hr eG (Ic (Ib 3) Ie)))
     (Ih (Iv (IW (IF (Il WA hr ic (Ic (Ib 0) (Ic (Ib 1) (Ic (Ib 2) (Ic (Ib 4) Ie))))))) (Ij (Im IK)) Iw)
     (Ih (IT (Jg pJ m_range (Ic Ig Ie)) (Iq 5 ku.nd) (Ih (Io 6 ku.nd (Ii IG (Ib 3) (Il TK0 hr eI (Ic (Ib 0) (Ic (Iy IP uP m_len Es (Ic (Ib 3) Ie)) Ie)))))
     (Ih (Io 7 ku.nd (Jb Jr jn m_tuple (by decide +kernel) (Ic (IS [none,none,some 0] ["name","size","pot"] (show av _ (af sLa) from ⟨rfl,by decide +kernel,by decide +kernel,by decide +kernel⟩) (by rfl) (IQ (Ii Ik (Ib 1) Ig)) (fun _ _ _ _ _=>⟨(IU 2 (IC (Iq 0 (show (["name","size","pot"]:List Str).Nodup from by decide +kernel)) (IC (Iq 1 (show (["name","size","pot"]:List Str).Nodup from by decide +kernel)) IV))),IX,(Il TK0 hr (by rfl) (Ic (Ib 2) (Ic (Ib 1) Ie)))⟩)) Ie)))
     (Ih (Io 8 ku.nd (Ib 7))
     (Ih (Iv (Iu Iz (Il TK0 hr eI (Ic (Ib 0) (Ic Ig Ie))) Ig) (Ij (Io 8 ku.nd (Jb Jr jn m_tuple (by decide +kernel) (Ic (IS [none,none,some 0] ["name","size","pot"] (show av _ (af sLa) from ⟨rfl,by decide +kernel,by decide +kernel,by decide +kernel⟩) (by rfl) (IQ (Ii Ik (Ib 1) Ig)) (fun _ _ _ _ _=>⟨(IU 2 (IC (Iq 0 (show (["name","size","pot"]:List Str).Nodup from by decide +kernel)) (IC (Iq 1 (show (["name","size","pot"]:List Str).Nodup from by decide +kernel)) IV))),IX,(Il TK0 hr (by rfl) (Ic (Ib 2) (Ic (Ib 1) Ie)))⟩)) Ie)))) Iw)
     (Ih (Io 9 ku.nd (Il BO hr jS (Ic (Ib 1) (Ic (Ib 2) (Ic (Ib 7) (Ic (Ib 8) Ie))))))
     (Ih (Io 10 ku.nd (Il CT hr fC (Ic (Ib 4) (Ic (Ii Ik (Ib 6) Ig) (Ic (Ii Ik (Ib 6) Ig) (Ic (Ib 9) Ie))))))
     (Ij (Iv (Iu L3.kq (Ib 10) I9) (Ij (Iv (IW (IF (Il WE hr jT (Ic (Ib 1) (Ic (Ib 2) (Ic (Ib 4) (Ic (Ib 10) (Ic (Ib 7) (Ic (Ib 8) (Ic (Ib 9) Ie)))))))))) (Ij (Im IK)) Iw)) Iw)))))))))
     (Ij (Im IK)))))),?_⟩
   refine ao fun Rk kR=>?_
   refine ⟨_,rfl,P0,rfl,⟨_,aA.of pap.hP⟩,fun C hC=>?_⟩
   refine aV (xs:=ps) (fun (i:Nat) Hx=>ah H Hx/\∃ks:List Bool,ks.length=i/\ks.all id=true/\Hx C=some (.lst (ks.map V.bl))) ⟨ag hC _,[],rfl,rfl,ae⟩ (fun i Hx _ z=>aA.of (z.1 _ _ pap.hP)) (fun i x0 Hx hx z=>?_) (fun Hx z=>?_)
   · obtain ⟨sx,ks,kl,ka,gC⟩:=z
     have hil:i < ps.length:=(List.getElem?_eq_some_iff.mp hx).1
     obtain ⟨e,he,le⟩:=Paired.get pap.pp hx
     obtain ⟨B,I,N,vb,vn,ins,hp,hB,pb,hN,pn,hI⟩:=(pap.g1.same sx).ex
     obtain ⟨B2,I2,N2,vb2,vn2,ins2,hp2,hB2,pb2,hN2,pn2,hI2⟩:=(pap.g2.same sx).ex
     obtain ⟨n1,n2,a1,c1,ls,ep,ep',ha1,hc1,hb1,_⟩:=pap.sim.hat e (Ef he)
     have q1:=(List.getElem?_eq_some_iff.mp ha1).1
     have q2:=(List.getElem?_eq_some_iff.mp hb1).1
     have v1:=Paired.length pn
     have v2:=Paired.length pn2
     refine aj ?_
     refine bL (A:=fun H5=>cj _ C _ H5 _) ?_
     refine ⟨_,rfl,_,rfl,_,rfl,p1,p2,B,I,N,B2,I2,N2,x0,sm,vn,vn2,e,rfl,hp,hp2,hN,hN2,bE.keep (ah.tk sx) le,by omega,by omega,by omega,by omega,fun H5 s5=>?_⟩
     exact ⟨_,s5 _ _ gC,ax (by rw [Ea]; omega),aF (Pv:=fun (i:Nat) Hx=>ah H Hx/\∃ks:List Bool,ks.length=i/\ks.all id=true/\Hx C=some (.lst (ks.map V.bl))) (by repeat' constructor) hil ⟨aE (aa sx s5) hC,ks++[true],by rw [Eh,kl]; rfl,by rw [List.all_append,ka]; rfl,by rw [ae,En]; rfl⟩⟩
   obtain ⟨sx,ks,kl,ka,gC⟩:=z
   refine ⟨C,ks,rfl,aA.of gC,_,rfl,iteF' (by rw [ka]; rfl) (kR _ _ ?_)⟩
   clear kR
   refine ao fun Rk kR=>?_
   have lx:=Rl.of hre sx
   have papx:=pap.rl hre lx
   refine ⟨_,rfl,P0,ps,sm,lv,rfl,papx.hP,papx.pp,l9,fun D H2 s2 nD th=>?_⟩
   refine aj ?_
   refine kR _ _ ?_
   clear kR
   refine aq [some (.ref r),some (.ref p1),some (.ref p2),some (.ref P0),some (.ref D),none,none,none,none,none,none] rfl ?_
   refine ao fun Rk kR=>?_
   have l2:=lx.trans (Rl.of lx.rl s2)
   have pap2:=pap.rl hre l2
   refine ⟨_,rfl,_,rfl,_,rfl,_,rfl,r,p1,p2,D,sm,se,bs,nds,nds',lv,rfl,l2.rl,pap2.sit th,fun H3 l3=>⟨_,rfl,iteF' rfl (kR _ _ ?_)⟩⟩
   clear kR
   refine ao fun Rk kR=>?_
   have lH3:=l2.trans l3
   have pap3:=pap.rl hre lH3
   have th3:=th.rl l2.rl l3
   refine ⟨8,rfl,by decide,by decide,?_⟩
   refine b7 (lo:=0) (n:=8) (fun i σ Hy=>(∃o5 o6 o7 o8 o9 o10,σ=[some (.ref r),some (.ref p1),some (.ref p2),some (.ref P0),some (.ref D),o5,o6,o7,o8,o9,o10])/\Rl r H3 Hy) ⟨⟨_,_,_,_,_,_,rfl⟩,Rl.refl lH3.rl⟩ ?_ ?_
   · rintro i σ Hy hi ⟨⟨o5,o6,o7,o8,o9,o10,rfl⟩,ly⟩
     have lHy:=lH3.trans ly
     have papy:=pap.rl hre lHy
     have pos:1<=ps.length:=by
       obtain ⟨f0,hf0,_⟩:=pap.sim.zero
       have:=HL hf0
       omega
     have bigp:(900:Int) < 2 ^ 110:=by decide
     refine aj ?_
     refine aq [some (.ref r),some (.ref p1),some (.ref p2),some (.ref P0),some (.ref D),some (.int (0 + (i:Int))),o6,o7,o8,o9,o10] rfl ?_
     refine ao fun Rk kR=>?_
     refine ⟨_,rfl,_,rfl,_,rfl,P0,_,rfl,.inl (aA.of papy.hP),r,(ps.length:Int),rfl,lHy.rl,by omega,by omega,fun k Hk k0 k1 lk=>?_⟩
     have lHk:=lHy.trans lk
     have papk:=pap.rl hre lHk
     obtain ⟨x0,hx0⟩ : ∃x0,ps[k.toNat]? = some x0:=⟨ps[k.toNat]'(by omega),Eg (by omega)⟩
     have hat:iV ps k=some x0:=by
       have:=aM hx0
       rw [Fu k0] at this
       exact this
     obtain ⟨e,he,le⟩:=Paired.get papk.pp hx0
     obtain ⟨pe,rfl,hpe⟩:=le
     refine ⟨P0,_,_,_,rfl,rfl,aA.of papk.hP,hat,?_⟩
     refine aj ?_
     refine kR _ _ ?_
     clear kR
     refine aq [some (.ref r),some (.ref p1),some (.ref p2),some (.ref P0),some (.ref D),some (.int (0 + (i:Int))),some (.ref pe),o7,o8,o9,o10] rfl ?_
     refine ao fun Rk kR=>?_
     obtain ⟨B,I,N,vb,vn,ins,hp,hB,pb,hN,pn,hI⟩:=papk.g1.ex
     have vbl:=Paired.length pb
     have Br:=bT lHk.rl hB (b8 pb fun _ _ ⟨_,z,_⟩=>nomatch z)
     refine ⟨_,rfl,p1,_,_,_,rfl,rfl,ar.of hp,rfl,B,rfl,⟨_,aA.of hB⟩,fun C1 hC1=>?_⟩
     have C1r:=lHk.rl.ne hC1
     refine aV (xs:=vb) (fun (k:Nat) Hz=>Rl r Hk Hz/\∃zs:List Int,Hz C1=some (.lst (zs.map V.int))/\iU (bs.take k) zs) ⟨Rl.new lHk.rl hC1,[],ae,by rw [E1]; exact .nil⟩ (fun k Hz _ z=>aA.of (z.1.k _ _ Br hB)) (fun k x0 Hz hx z=>?_) (fun Hz z=>?_)
     · obtain ⟨lz,zs,gC,zl⟩:=z
       have zl2:=zl.len
       rw [Eo] at zl2
       have hkl:k < vb.length:=(List.getElem?_eq_some_iff.mp hx).1
       obtain ⟨b,hbi,pb0,rfl,hpb⟩:=Paired.get pb hx
       have hb1:=pap.bt.sz b (Ef hbi)
       have hb9:=pap.bt.s9 b (Ef hbi)
       have bigp:(16:Int) < 2 ^ 110:=by decide
       refine ⟨pb0,_,rfl,ar.of (Rl.tk lHk.rl lz _ _ hpb),rfl,_,_,rfl,_,_,rfl,rfl,?_⟩
       refine bL (A:=fun H5=>cj _ C1 _ H5 _) ?_
       refine ⟨_,rfl,_,rfl,r,b.2,rfl,lz.rl,by omega,by omega,fun v Hv v0 v1 lv0=>?_⟩
       have gCv:=lv0.k _ _ C1r gC
       exact ⟨_,gCv,ax (by rw [Ea]; omega),aF (Pv:=fun (k:Nat) Hz=>Rl r Hk Hz/\∃zs:List Int,Hz C1=some (.lst (zs.map V.int))/\iU (bs.take k) zs) (by repeat' constructor) hkl ⟨Rl.put (lz.trans lv0) C1r hC1,zs++[v],by rw [ae,En]; rfl,by rw [Er,hbi]; exact Paired.snoc zl ⟨v0,v1⟩⟩⟩
     obtain ⟨lm1,ms,gC,msl⟩:=z
     refine ⟨C1,_,rfl,(.inl (.inl gC)),fun a0 ha0=>?_⟩
     have sa0:=ag ha0 (.tup (ms.map V.int))
     have ga0:(upd Hz a0 (.tup (ms.map V.int))) a0=some (.tup (ms.map V.int)):=ae
     generalize upd Hz a0 (.tup (ms.map V.int))=Hm at sa0 ga0 ⊢
     have lm:=lm1.trans (Rl.of lm1.rl sa0)
     refine aj ?_
     refine kR _ _ ?_
     clear kR
     refine aq [some (.ref r),some (.ref p1),some (.ref p2),some (.ref P0),some (.ref D),some (.int (0 + (i:Int))),some (.ref pe),some (.ref a0),o8,o9,o10] rfl ?_
     refine ao fun Rk kR=>?_
     refine ⟨_,rfl,?_⟩
     refine aj ?_
     refine kR _ _ ?_
     clear kR
     refine aq [some (.ref r),some (.ref p1),some (.ref p2),some (.ref P0),some (.ref D),some (.int (0 + (i:Int))),some (.ref pe),some (.ref a0),some (.ref a0),o9,o10] rfl ?_
     refine ao fun Rk kR=>?_
     have lHm:=lHk.trans lm
     rw [vbl,EL] at msl
     have fin:∀(b0:Addr) (ys:List Int) (Hq:Hp),Rl r Hm Hq->Hq b0=some (.tup (ys.map V.int))->iU bs ys->Rk [some (.ref r),some (.ref p1),some (.ref p2),some (.ref P0),some (.ref D),some (.int (0 + (i:Int))),some (.ref pe),some (.ref a0),some (.ref b0),o9,o10] Hq:=fun b0 ys Hq lq gb0 yl=>by
       have lHq:=lHm.trans lq
       have papq:=pap.rl hre lHq
       have ga0q:=Rl.tk lHm.rl lq _ _ ga0
       have hpeq:=Rl.tk lHk.rl (lm.trans lq) _ _ hpe
       have thq:=th3.rl lH3.rl (ly.trans (lk.trans (lm.trans lq)))
       refine kR _ _ ?_
       clear kR
       refine ao fun Rk kR=>?_
       refine ⟨_,rfl,_,rfl,_,rfl,_,rfl,p1,p2,a0,b0,bs,ms,ys,rfl,papq.g1.bx,papq.g2.bx,ga0q,gb0,msl.len,yl.len,l4,pap.bt.nd,fun D2 H5 s5 nD2 kn=>?_⟩
       refine aj ?_
       refine kR _ _ ?_
       clear kR
       refine aq [some (.ref r),some (.ref p1),some (.ref p2),some (.ref P0),some (.ref D),some (.int (0 + (i:Int))),some (.ref pe),some (.ref a0),some (.ref b0),some (.ref D2),o10] rfl ?_
       refine ao fun Rk kR=>?_
       have st5:=(papq.sit thq).same s5
       have hpe5:=s5 _ _ hpeq
       have l5:=ly.trans (lk.trans (lm.trans (lq.trans (Rl.of lHq.rl s5))))
       refine ⟨_,rfl,_,rfl,pe,_,_,_,rfl,rfl,ar.of hpe5,rfl,_,rfl,pe,_,_,_,rfl,rfl,ar.of hpe5,rfl,_,rfl,D,D2,_,_,sm,se,lv,bs,_,rfl,st5.th,l9,st5.cn,kn,fun hh x6 e6 H6 s6 he6 e61 e62 le6=>?_,fun z H6 s6=>?_⟩
       · have le6':=le6
         obtain ⟨pe6,rfl,hpe6⟩:=le6
         have my:ms=ys:=by
           rw [pap.cn.iff ms ys msl.len yl.len] at hh
           exact of_decide_eq_true hh
         subst my
         refine aj ?_
         refine kR _ _ ?_
         refine aq [some (.ref r),some (.ref p1),some (.ref p2),some (.ref P0),some (.ref D),some (.int (0 + (i:Int))),some (.ref pe),some (.ref a0),some (.ref b0),some (.ref D2),some (.ref pe6)] rfl ?_
         refine ⟨_,rfl,rfl,_,rfl,?_⟩
         rw [V.ref_non]
         refine bG ?_
         have s56:=aa s5 s6
         refine ⟨_,rfl,_,rfl,_,rfl,_,rfl,_,rfl,_,rfl,_,rfl,p1,p2,D,a0,b0,D2,.ref pe6,sm,se,bs,nds,nds',lv,e6,ms,_,rfl,st5.same s6,he6,le6',s56 _ _ ga0q,s56 _ _ gb0,msl,kn.same s6,fun H7 s7=>⟨_,rfl,iteF' rfl ?_⟩⟩
         exact ⟨⟨_,_,_,_,_,_,rfl⟩,l5.trans (Rl.of l5.rl (aa s6 s7))⟩
       · refine aj ?_
         refine kR _ _ ?_
         refine ⟨_,rfl,rfl,_,rfl,iteF' (by decide) ?_⟩
         exact ⟨⟨_,_,_,_,_,_,rfl⟩,l5.trans (Rl.of l5.rl s6)⟩
     refine ⟨_,rfl,r,2,rfl,lHm.rl,by decide,by decide,fun k2 Hw k20 k21 lw=>⟨rfl,_,rfl,?_⟩⟩
     refine bq (fun c=>?_) (fun c=>?_)
     · have lHw:=lHm.trans lw
       have papw:=pap.rl hre lHw
       clear hp hB pb hN pn hI vbl Br kR
       obtain ⟨B,I,N,vb,vn,ins,hp,hB,pb,hN,pn,hI⟩:=papw.g1.ex
       have vbl:=Paired.length pb
       have Br:=bT lHw.rl hB (b8 pb fun _ _ ⟨_,z,_⟩=>nomatch z)
       refine ⟨_,rfl,p1,_,_,_,rfl,rfl,ar.of hp,rfl,B,rfl,⟨_,aA.of hB⟩,fun C2 hC2=>?_⟩
       have C2r:=lHw.rl.ne hC2
       refine aV (xs:=vb) (fun (k:Nat) Hz=>Rl r Hw Hz/\∃zs:List Int,Hz C2=some (.lst (zs.map V.int))/\iU (bs.take k) zs) ⟨Rl.new lHw.rl hC2,[],ae,by rw [E1]; exact .nil⟩ (fun k Hz _ z=>aA.of (z.1.k _ _ Br hB)) (fun k x0 Hz hx z=>?_) (fun Hz z=>?_)
       · obtain ⟨lz,zs,gC,zl⟩:=z
         have zl2:=zl.len
         rw [Eo] at zl2
         have hkl:k < vb.length:=(List.getElem?_eq_some_iff.mp hx).1
         obtain ⟨b,hbi,pb0,rfl,hpb⟩:=Paired.get pb hx
         have hb1:=pap.bt.sz b (Ef hbi)
         have hb9:=pap.bt.s9 b (Ef hbi)
         have bigp:(16:Int) < 2 ^ 110:=by decide
         refine ⟨pb0,_,rfl,ar.of (Rl.tk lHw.rl lz _ _ hpb),rfl,_,_,rfl,_,_,rfl,rfl,?_⟩
         refine bL (A:=fun H5=>cj _ C2 _ H5 _) ?_
         refine ⟨_,rfl,_,rfl,r,b.2,rfl,lz.rl,by omega,by omega,fun v Hv v0 v1 lv0=>?_⟩
         have gCv:=lv0.k _ _ C2r gC
         exact ⟨_,gCv,ax (by rw [Ea]; omega),aF (Pv:=fun (k:Nat) Hz=>Rl r Hw Hz/\∃zs:List Int,Hz C2=some (.lst (zs.map V.int))/\iU (bs.take k) zs) (by repeat' constructor) hkl ⟨Rl.put (lz.trans lv0) C2r hC2,zs++[v],by rw [ae,En]; rfl,by rw [Er,hbi]; exact Paired.snoc zl ⟨v0,v1⟩⟩⟩
       obtain ⟨ln1,ys,gC,msl⟩:=z
       refine ⟨C2,_,rfl,(.inl (.inl gC)),fun b0 hb0=>?_⟩
       have sb0:=ag hb0 (.tup (ys.map V.int))
       have gb0:(upd Hz b0 (.tup (ys.map V.int))) b0=some (.tup (ys.map V.int)):=ae
       generalize upd Hz b0 (.tup (ys.map V.int))=Hn at sb0 gb0 ⊢
       have ln:=ln1.trans (Rl.of ln1.rl sb0)
       refine aj ?_
       rw [vbl,EL] at msl
       exact fin b0 ys _ (lw.trans ln) gb0 msl
     · exact fin a0 ms _ lw (Rl.tk lHm.rl lw _ _ ga0) msl
   · rintro σ Hy ⟨⟨o5,o6,o7,o8,o9,o10,rfl⟩,ly⟩
     refine kR _ _ ?_
     exact q _ (lH3.trans ly)
theorem xT {tO:Addr}(s:Src K mg "_law_looked_at" sLa)(m_all:mg "all"=none)(m_len:mg "len"=none)(m_tuple:mg "tuple"=none)(m_range:mg "range"=none)(TK00:aC P w K mg base "_law_next" ["pot","many"] 1 aZ)(BO0:aC P w K mg base "_law_both" ["one","other","mine","yours"] 2 qC)(CT0:aC P w K mg base "_law_counting" ["there","p","q","known"] 52 (iH K tO))(WE0:aC P w K mg base "_law_well" ["one","other","there_are","entry","mine","yours","known"] 53 (lZ K tO))(IE0:aC P w K mg base "_law_is_entry" ["one","other","entry"] 1 (tV tO))(BP0:aC P w K mg base "_law_by_places" ["paper"] 1 (m5 tO))(WA:aC P w K mg base "_law_walked" ["pot","one","other","there_are"] 54 (wm K tO)):aC P w K mg base "_law_looked_at" ["pot","one","other","paper"] 55 (wg K tO):=
 let ⟨f,fd,F,m⟩:=s
 ⟨f,fd,AN F m_all m_len m_tuple m_range TK00 BO0 CT0 WE0 IE0 BP0 WA,F.kp,oW F fun _ _ _ _ _ _ _ _ _ _=>rfl,m⟩
end
end TW
set_option Elab.async false
set_option linter.all false
set_option maxRecDepth 100000
set_option exponentiation.threshold 4000
set_option maxHeartbeats 1000000
namespace TW
open PySem L2
section
variable {P:Program}{w:World}{K:D9}{mg:Str->Option Value}{base:Heap}
abbrev sRo:Stmt:=top 40
abbrev sDu:Stmt:=top 45
abbrev sChn:Stmt:=top 46
theorem dv (x:Int):∀named:List Int,rS (.int x) (named.map V.int)=decide (x∈named)
 | []=>by simp [rS]
 | y :: r=>by
   have ih:=dv x r
   unfold rS at ih ⊢
   rw [EJ,FE,ih]
   by_cases e:x=y
   · subst e
     simp [ft]
   · have e2:¬ y=x:=fun z=>e z.symm
     simp [ft,e,e2]
theorem dM (xs:List Int):(xs.map V.int).all bV=true:=by
 rw [Fh]
 intro v hv
 obtain ⟨x,_,rfl⟩:=List.mem_map.mp hv
 rfl
/-! ### the condition that both are the same -/
theorem Bt.isC {e:E}{es:List E}(h:Bt e es)(hc:∀x∈es,x.isC):e.isC:=by
 induction h with
 | one e=>exact hc e (List.mem_singleton.mpr rfl)
 | two a b ia ib=>exact ⟨ia fun x hx=>hc x (List.mem_append.mpr (.inl hx)),ib fun x hx=>hc x (List.mem_append.mpr (.inr hx))⟩
theorem Bt.okIn {R:Str->Str->Prop}{e:E}{es:List E}(h:Bt e es)(hc:∀x∈es,x.okIn R):e.okIn R:=by
 induction h with
 | one e=>exact hc e (List.mem_singleton.mpr rfl)
 | two a b ia ib=>exact ⟨ia fun x hx=>hc x (List.mem_append.mpr (.inl hx)),ib fun x hx=>hc x (List.mem_append.mpr (.inr hx))⟩
theorem Bt.holds {W:Str->Str->Int}{e:E}{es:List E}(h:Bt e es):e.holds W=es.all fun x=>x.holds W:=by
 induction h with
 | one e=>simp
 | two a b ia ib=>
   rw [List.all_append,← ia,← ib]
   rfl
theorem oR:∀(bs:List (Str×Int)) (ms ys:List Int),(bs.map (·.1)).Nodup->bs.length=ms.length->bs.length=ys.length->(∀x∈bs.map (·.1),mq bs ms x=mq bs ys x)->ms=ys
 | [],[],[],_,_,_,_=>rfl
 | [],_ :: _,_,_,h,_,_=>by simp at h
 | [],_,_ :: _,_,_,h,_=>by simp at h
 | _ :: _,[],_,_,h,_,_=>by simp at h
 | _ :: _,_ :: _,[],_,_,h,_=>by simp at h
 | b :: bs,m :: ms,y :: ys,nd,h1,h2,hx=>by
   rw [EJ,Fx] at nd
   have e0:=hx b.1 (List.mem_cons.mpr (.inl rfl))
   have e0:m=y:=by
     have:(if b.1=b.1 then m else mq bs ms b.1)=(if b.1=b.1 then y else mq bs ys b.1):=e0
     rwa [if_pos rfl,if_pos rfl] at this
   rw [e0,oR bs ms ys nd.2 (by simpa using h1) (by simpa using h2) fun x hx2=>?_]
   have:=hx x (List.mem_cons.mpr (.inr hx2))
   have ne:¬ b.1=x:=fun z=>nd.1 (z ▸ hx2)
   have:(if b.1=x then m else mq bs ms x)=(if b.1=x then y else mq bs ys x):=this
   rwa [if_neg ne,if_neg ne] at this
theorem xy {K:D9}{H:Hp}{sm:V}{se:E}{bs:List (Str×Int)}(l4:bs.length<=4)(nd:(bs.map (·.1)).Nodup)(ek:EK K H sm se)(bt:Bt se (.yes :: (bs.map (·.1)).map sameE)):um K H sm se bs:=by
 refine ⟨ek,bt.isC fun x hx=>?_,bt.okIn fun x hx=>?_,?_,fun ms ys l1 l2=>?_⟩
 · rcases List.mem_cons.mp hx with rfl | hx
   · trivial
   · obtain ⟨y,_,rfl⟩:=List.mem_map.mp hx
     exact ⟨trivial,trivial⟩
 · rcases List.mem_cons.mp hx with rfl | hx
   · trivial
   · obtain ⟨y,hy,rfl⟩:=List.mem_map.mp hx
     exact ⟨⟨.inl rfl,hy⟩,⟨.inr rfl,hy⟩⟩
 · have:=bt.dep (d:=2) fun x hx=>by
     rcases List.mem_cons.mp hx with rfl | hx
     · decide
     · obtain ⟨y,_,rfl⟩:=List.mem_map.mp hx
       exact Nat.le_of_ble_eq_true rfl
   rw [EO,Ea,Ea] at this
   omega
 · rw [bt.holds,HH,List.all_map]
   show (true && _)=_
   rw [Bool.true_and]
   by_cases e:ms=ys
   · subst e
     rw [decide_eq_true rfl,Fh]
     intro x hx
     exact decide_eq_true rfl
   · rw [decide_eq_false e]
     cases ha:(bs.map (·.1)).all _ with
     | false=>rfl
     | true=>
       rw [Fh] at ha
       exact absurd (oR bs ms ys nd l1 l2 fun x hx=>of_decide_eq_true (ha x hx)) e
/-! ### what fitted_program tells -/
theorem eB.get {K:D9}{H:Hp}{nds:List Np}{n:Nat}{lv:List Lv}(h:eB K H nds n lv){p:Nat}(hp:p < n):∃e∈lv,qN nds p e:=by
 obtain ⟨e,he⟩ : ∃e,lv[p]? = some e:=⟨lv[p]'(by rw [h.len]; exact hp),Eg (by rw [h.len]; exact hp)⟩
 exact ⟨e,Ef he,h.of p e he⟩
theorem eB.mem {K:D9}{H:Hp}{nds:List Np}{n:Nat}{lv:List Lv}(h:eB K H nds n lv){e:Lv}(he:e∈lv):∃p,p < n/\qN nds p e:=by
 obtain ⟨p,hp⟩:=List.mem_iff_getElem?.mp he
 have hl:=(List.getElem?_eq_some_iff.mp hp).1
 rw [h.len] at hl
 exact ⟨p,hl,h.of p e hp⟩
theorem rj {K:D9}{H:Hp}{nds:List Np}{lv:List Lv}(ok:jd nds)(n0:0 < nds.length)(n40:nds.length<=40)(lo:eB K H nds nds.length lv):uv nds (bu nds) lv:=by
 refine ⟨fun e he=>?_,?_,fun e he=>?_⟩
 · obtain ⟨p,hp,of⟩:=lo.mem he
   have w:=dG ok hp
   have km:=eP w.2.1 w.2.2.2
   obtain ⟨a,ha⟩ : ∃a,nds[p]? = some a:=⟨nds[p],Eg hp⟩
   obtain ⟨c,hc⟩ : ∃c,nds[(aL nds p).1]? = some c:=⟨nds[(aL nds p).1]'w.2.1,Eg w.2.1⟩
   have gd:∀(x:Nat) (y:Np),nds[x]? = some y->nds.getD x .fin=y:=fun x y h=>by rw [ED,h]; rfl
   have ht:(bu nds)[cZ nds (aL nds p).1]? = some (c.led (cX nds c)):=by
     unfold bu
     rw [Em,ir km]
     show some ((nds.getD (aL nds p).1 .fin).led (cX nds (nds.getD (aL nds p).1 .fin)))=_
     rw [gd _ _ hc]
   refine ⟨p,cZ nds (aL nds p).1,a,c,cX nds c,of.h1,of.h2,ha,Ef hc,ht,?_⟩
   cases hs:bN nds p with
   | true=>
     refine .inl ?_
     have wh:=iO hs
     rw [wh] at hc
     cases ha.symm.trans hc
     refine ⟨rfl,by rw [of.hd,hs,if_pos rfl,gd _ _ ha],by unfold cX; rw [Ea],fun i l l' h1 h2=>?_⟩
     have lb:=ok a (Ef ha) l (Ef h1)
     unfold cX at h2
     rw [Em,h1] at h2
     cases h2
     obtain ⟨f,hf,fo⟩:=lo.get (show l.toNat < nds.length by omega)
     exact ⟨f,hf,by rw [fo.h1]; omega,fo.h2⟩
   | false=>
     refine .inr ?_
     obtain ⟨q,hq⟩:=tZ hs
     obtain ⟨a',n,h1,h2,rfl⟩:=ki hq
     cases ha.symm.trans h1
     have nb:=eO ok ha h2
     have wo:=zH ok hp hs hq
     have q0:=fV ok hq
     refine ⟨by rw [of.hd,hs]; rfl,n,h2,?_,fun f hf f1 f2=>?_⟩
     · obtain ⟨f,hf,fo⟩:=lo.get q0
       refine ⟨f,hf,by rw [fo.h1]; omega,?_⟩
       rw [fo.h2,of.h2,wo]
     · obtain ⟨p',hp',fo⟩:=lo.mem hf
       have e1:p'=n.toNat:=by
         have:=fo.h1
         omega
       subst e1
       rw [fo.wt,of.wt,wo]
       exact G1 _
 · obtain ⟨f,hf,fo⟩:=lo.get n0
   refine ⟨f,hf,fo.h1,?_⟩
   rw [fo.h2]
   unfold cZ aO
   rw [List.idxOf_cons_self]
   rfl
 · obtain ⟨p,hp,of⟩:=lo.mem he
   have w:=dG ok hp
   rw [of.wt]
   omega
theorem uf {nds:List Np}(ok:jd nds)(n0:0 < nds.length){e:Np}(h:e∈bu nds):∃e0 ls,e0∈nds/\e=e0.led ls:=by
 unfold bu at h
 obtain ⟨p,hp,rfl⟩:=List.mem_map.mp h
 have k:=gu ok n0 hp
 refine ⟨nds.getD p .fin,_,?_,rfl⟩
 rw [ED,Eg k.1]
 exact FV _
theorem ue {nds:List Np}(ok:jd nds)(n0:0 < nds.length):(bu nds).length<=nds.length:=by
 unfold bu
 rw [Ea]
 exact ig ok n0
/-! ### _law_round -/
def cI (xs:List Nat):List Int:=xs.map fun q:Nat=>(q:Int)
theorem dq {xs:List Nat}{i:Nat}:(i:Int)∈cI xs↔i∈xs:=by
 unfold cI
 refine ⟨fun h=>?_,fun h=>List.mem_map.mpr ⟨i,h,rfl⟩⟩
 obtain ⟨j,hj,e⟩:=List.mem_map.mp h
 have:j=i:=by omega
 exact this ▸ hj
theorem bW (xs:List Nat):(cI xs).length=xs.length:=Ea _
theorem qQ {xs:List Nat}{i j:Nat}(h:xs[i]? = some j):(cI xs)[i]? = some (j:Int):=by unfold cI; rw [Em,h]; rfl
theorem gV (xs ys:List Nat):cI (xs++ys)=cI xs++cI ys:=En
def mW (nds:List Np)(i j:Nat):Bool:=(Ew j).any fun k=>decide (cA nds (k + 1) i=some i)
theorem dO (nds:List Np)(i j:Nat):mW nds i (j + 1)=(mW nds i j || decide (cA nds (j + 1) i=some i)):=by
 unfold mW
 rw [Fo,List.any_append]
 show (_ || (_ || false))=_
 rw [HI]
def gj (nds:List Np)(i:Nat):List Nat:=(Ew i).filter (mj nds)
theorem tI (nds:List Np)(i:Nat):(gj nds i).length<=i:=by
 have:=Fj (mj nds) (Ew i)
 rw [EE] at this
 exact this
theorem qA (nds:List Np)(i:Nat):gj nds (i + 1)=gj nds i++if mj nds i=true then [i] else []:=by
 unfold gj
 rw [Fo,Fl,Fb]
 rfl
theorem v3 (nds:List Np)(i:Nat):i ∉ gj nds i:=fun h=>Ft _ (List.mem_range.mp (List.mem_filter.mp h).1)
def g6 (nds:List Np)(i j:Nat):List Nat:=gj nds i++if mW nds i j=true then [i] else []
theorem uH (nds:List Np)(i j:Nat):(g6 nds i j).length<=i + 1:=by
 unfold g6
 rw [Eh]
 have:=tI nds i
 split
 · show _ + 1<=_
   omega
 · show _ + 0<=_
   omega
theorem nW (nds:List Np)(i j:Nat):i∈g6 nds i j↔mW nds i j=true:=by
 unfold g6
 refine ⟨fun h=>?_,fun h=>?_⟩
 · rcases List.mem_append.mp h with z | z
   · exact absurd z (v3 nds i)
   · split at z
     · assumption
     · exact nomatch z
 · rw [if_pos h]
   exact List.mem_append.mpr (.inr (List.mem_singleton.mpr rfl))
theorem js {H:Hp}:∀{e:Np} {v:V} {n:Int},aG H v e->e.idle=some n->∃p xs,v=.ref p/\H p=some (.tup xs)/\iV xs (-1)=some (.int n)
 | .put x s m,_,n,⟨u,⟨p,e,h⟩,_⟩,hi=>by
   have hi:(if s.isBox x=true then some m else none)=some n:=hi
   split at hi
   · cases hi
     exact ⟨p,_,e,h,rfl⟩
   · cases hi
 | .test c m o,_,n,⟨u,⟨p,e,h⟩,_⟩,hi=>by
   have hi:(if m=o then some m else none)=some n:=hi
   split at hi
   · rename_i z
     cases hi
     subst z
     exact ⟨p,_,e,h,rfl⟩
   · cases hi
 | .say _ _,_,_,_,hi=>by cases hi
 | .pick _ _,_,_,_,hi=>by cases hi
 | .fin,_,_,_,hi=>by cases hi
def wj:Sp:=fun vs H Q _=>∃(l:Addr) (vn:List V) (nds:List Np),vs=[.ref l]/\H l=some (.lst vn)/\Paired (aG H) vn nds/\jd nds/\nds.length<=40/\∀(F0:Addr) (H':Hp),ah H H'->H F0=none->H' F0=some (.lst ((cI (gj nds nds.length)).map V.int))->Q (.ref F0) H'
theorem mZ:az ["nodes","found","number","at","turn"] ["nodes"] (af sRo):=⟨rfl,rfl,rfl,by decide +kernel,rfl,by decide +kernel,by decide +kernel⟩
theorem jV:(af sRo).names.lookup (Eb "_law_idle")=some .globalImplicit:=by decide +kernel
theorem n5:(af sRo).names.lookup (Eb "len")=some .globalImplicit:=by decide +kernel
theorem jq:(af sRo).names.lookup (Eb "range")=some .globalImplicit:=by decide +kernel
theorem AQ {f:Addr}{fd:FuncData}(F:bQ K "_law_round" "_law_round" sRo f fd)(m_len:mg "len"=none)(m_range:mg "range"=none)(LI:aC P w K mg base "_law_idle" ["node"] 1 iI):aI P w K mg base CX0 2 f fd ["nodes"] wj:=by
 refine F.ok mZ (fun vs H Q E h=>?_) (fun cdv A outer s H vs Q E hr h=>?_)
 · obtain ⟨l,vn,nds,rfl,_⟩:=h
   rfl
 · obtain ⟨l,vn,nds,rfl,hl,pn,ok,n40,q⟩:=h
   have vnl:=Paired.length pn
   have big:1000<=sizeLine:=by decide
   refine cu ⟨_,(Ih (Io 1 mZ.nd (ID Ie))
     (Ih (IT (Jg jq m_range (Ic (Iy IP n5 m_len Es (Ic (Ib 0) Ie)) Ie)) (Iq 2 mZ.nd) (Ih (Io 3 mZ.nd (Ib 2))
     (Ij (IT (Jg jq m_range (Ic (Iy IP n5 m_len Es (Ic (Ib 0) Ie)) Ie)) (Iq 4 mZ.nd) (Ij (Iv (IJ (IY (Iu L3.kq (Ib 3) I9) (IZ (IF (Il LI hr jV (Ic (Ii IG (Ib 0) (Ib 3)) Ie)))))) (Ih (Io 3 mZ.nd (Ii Ik (Ii IG (Ib 0) (Ib 3)) (JA Ig)))
     (Ij (Iv (IJ (IY (Iu Iz (Ib 3) (Ib 2)) (IZ (Iu L3.ko (Ib 2) (Ib 1) (by rfl))))) (Ij (Jd (Jm (Ib 1) (Ic (Ib 2) Ie)))) Iw))) (Ij (Io 3 mZ.nd I9))))))))
     (Ij (Im (Ib 1))))),?_⟩
   refine ao fun Rk kR=>?_
   refine ⟨Kg,fun F0 hF0=>?_⟩
   have s1:=ag hF0 (.lst [])
   have g1:(upd H F0 (.lst [])) F0=some (.lst []):=ae
   generalize upd H F0 (.lst [])=H1 at s1 g1 ⊢
   refine aj ?_
   refine kR _ _ ?_
   clear kR
   refine aq [some (.ref l),some (.ref F0),none,none,none] rfl ?_
   refine ao fun Rk kR=>?_
   refine ⟨_,rfl,l,_,rfl,.inl (aA.of (s1 _ _ hl)),(vn.length:Int),rfl,by omega,by omega,?_⟩
   rw [ES]
   refine b7 (lo:=0) (n:=vn.length) (fun (i:Nat) (σ:List (Option V)) (Hx:Hp)=>(∃o2 o3 o4,σ=[some (.ref l),some (.ref F0),o2,o3,o4])/\ah H Hx/\Hx F0=some (.lst ((cI (gj nds i)).map V.int))) ⟨⟨_,_,_,rfl⟩,s1,g1⟩ (fun i σ Hx hi z=>?_) (fun σ Hx z=>?_)
   · obtain ⟨⟨o2,o3,o4,rfl⟩,sx,gx⟩:=z
     rw [F7]
     refine aj ?_
     refine aq [some (.ref l),some (.ref F0),some (.int (i:Int)),o3,o4] rfl ?_
     refine ao fun Rk2 kR2=>?_
     refine ⟨_,rfl,?_⟩
     refine aj ?_
     refine kR2 _ _ ?_
     clear kR2
     refine aq [some (.ref l),some (.ref F0),some (.int (i:Int)),some (optN (cA nds 0 i)),o4] rfl ?_
     refine ⟨_,rfl,l,_,rfl,.inl (aA.of (sx _ _ hl)),(vn.length:Int),rfl,by omega,by omega,?_⟩
     rw [ES]
     have e0:g6 nds i 0=gj nds i:=by unfold g6 mW; exact E7 _
     refine b7 (lo:=0) (n:=vn.length) (fun (j:Nat) (σ:List (Option V)) (Hy:Hp)=>(∃o4,σ=[some (.ref l),some (.ref F0),some (.int (i:Int)),some (optN (cA nds j i)),o4])/\ah H Hy/\Hy F0=some (.lst ((cI (g6 nds i j)).map V.int))) ⟨⟨_,rfl⟩,sx,by rw [e0]; exact gx⟩ (fun j σ Hy hj z=>?_) (fun σ Hy z=>?_)
     · obtain ⟨⟨o4,rfl⟩,sy,gy⟩:=z
       rw [F7]
       refine aj ?_
       refine aq [some (.ref l),some (.ref F0),some (.int (i:Int)),some (optN (cA nds j i)),some (.int (j:Int))] rfl ?_
       have gone:∀(Hz:Hp),ah Hy Hz->cA nds (j + 1) i=none->(fun (j:Nat) (σ:List (Option V)) (Hy:Hp)=>(∃o4,σ=[some (.ref l),some (.ref F0),some (.int (i:Int)),some (optN (cA nds j i)),o4])/\ah H Hy/\Hy F0=some (.lst ((cI (g6 nds i j)).map V.int))) (j + 1) [some (.ref l),some (.ref F0),some (.int (i:Int)),some .aU,some (.int (j:Int))] Hz:=fun Hz sz hn=>by
         refine ⟨⟨_,by rw [hn]; rfl⟩,aa sy sz,?_⟩
         have e:g6 nds i (j + 1)=g6 nds i j:=by
           unfold g6
           rw [dO,hn,decide_eq_false (fun z=>nomatch z),HI]
         rw [e]
         exact sz _ _ gy
       cases hit:cA nds j i with
       | none=>
         refine ⟨_,rfl,rfl,_,rfl,iteF' (by decide) (iteF' (by decide) ?_)⟩
         refine aj ?_
         exact gone _ (same_refl _) (og hit (Nat.le_succ _))
       | some r=>
         have hr:=wK ok (by omega) hit
         obtain ⟨x1,e1,hx1,he1,na1⟩:=b6 pn hr
         have en:cA nds (j + 1) i=iQ nds r:=by
           show (cA nds j i).bind (iQ nds)=_
           rw [hit]
           rfl
         refine ⟨_,rfl,rfl,_,rfl,iteT' (show (!decide (V.int (r:Int)=V.aU))=true by rw [j7]; rfl) ?_⟩
         refine ⟨_,rfl,_,rfl,l,_,_,_,rfl,rfl,aA.of (sy _ _ hl),aM hx1,x1,e1,rfl,aG.keep (ah.tk sy) na1,fun H2 s2=>⟨_,rfl,?_⟩⟩
         cases hid:e1.idle with
         | none=>
           refine iteF' rfl ?_
           refine aj ?_
           exact gone _ s2 (by rw [en,lK he1,hid]; rfl)
         | some n=>
           have nb:=eO ok he1 hid
           refine iteT' rfl ?_
           have sy2:=aa sy s2
           obtain ⟨px,xs,rfl,hpx,hat⟩:=js (aG.keep (ah.tk sy2) na1) hid
           refine ao fun Rk3 kR3=>?_
           refine ⟨_,rfl,_,rfl,l,_,_,_,rfl,rfl,aA.of (sy2 _ _ hl),aM hx1,_,rfl,px,_,_,_,rfl,rfl,ar.of hpx,hat,?_⟩
           refine aj ?_
           refine kR3 _ _ ?_
           clear kR3
           have en2:cA nds (j + 1) i=some n.toNat:=by rw [en,lK he1,hid]; rfl
           have cn:(n.toNat:Int)=n:=Fu nb.1
           refine aq [some (.ref l),some (.ref F0),some (.int (i:Int)),some (.int n),some (.int (j:Int))] rfl ?_
           have fin:∀(Hz:Hp),ah H Hz->Hz F0=some (.lst ((cI (g6 nds i (j + 1))).map V.int))->(fun (j:Nat) (σ:List (Option V)) (Hy:Hp)=>(∃o4,σ=[some (.ref l),some (.ref F0),some (.int (i:Int)),some (optN (cA nds j i)),o4])/\ah H Hy/\Hy F0=some (.lst ((cI (g6 nds i j)).map V.int))) (j + 1) [some (.ref l),some (.ref F0),some (.int (i:Int)),some (.int n),some (.int (j:Int))] Hz:=fun Hz sz gz=>⟨⟨_,by rw [en2]; show _=[_,_,_,some (V.int ((n.toNat:Nat):Int)),_]; rw [cn]⟩,sz,gz⟩
           have gy2:=s2 _ _ gy
           by_cases c:n=(i:Int)
           · have hti:cA nds (j + 1) i=some i:=by rw [en2]; congr 1; omega
             refine ⟨_,rfl,_,rfl,rfl,_,rfl,iteT' (decide_eq_true (congrArg V.int c)) ?_⟩
             refine ⟨_,rfl,_,rfl,F0,_,rfl,.inl (aA.of gy2),rfl,dM _,_,rfl,?_⟩
             show if (!rS (.int (i:Int)) ((cI (g6 nds i j)).map V.int))=true then _ else _
             rw [dv]
             cases ht:mW nds i j with
             | true=>
               refine iteF' (by rw [decide_eq_true (dq.mpr ((nW nds i j).mpr ht))]; rfl) ?_
               refine fin _ sy2 ?_
               have e:g6 nds i (j + 1)=g6 nds i j:=by
                 unfold g6
                 rw [dO,ht,Bool.true_or]
               rw [e]
               exact gy2
             | false=>
               refine iteT' (by rw [decide_eq_false (fun z=>by have:=(nW nds i j).mp (dq.mp z); rw [ht] at this; cases this)]; rfl) ?_
               have fl:=uH nds i j
               refine ⟨_,rfl,.inl ⟨rfl,_,aA.of gy2⟩,_,rfl,F0,_,_,rfl,rfl,gy2,ax (by rw [Ea,bW]; omega),?_⟩
               refine fin _ (aE sy2 hF0) ?_
               have e:g6 nds i (j + 1)=g6 nds i j++[i]:=by
                 unfold g6
                 rw [dO,ht,hti,decide_eq_true rfl,Bool.false_or,if_pos rfl,if_neg (by decide),E7]
               rw [ae,e,gV,En]
               rfl
           · have nti:cA nds (j + 1) i≠some i:=fun z=>by
               rw [en2] at z
               have:n.toNat=i:=by injection z
               omega
             refine ⟨_,rfl,_,rfl,rfl,_,rfl,iteF' (decide_eq_false (fun z=>c (by injection z))) (iteF' (by decide) ?_)⟩
             refine fin _ sy2 ?_
             have e:g6 nds i (j + 1)=g6 nds i j:=by
               unfold g6
               rw [dO,decide_eq_false nti,HI]
             rw [e]
             exact gy2
     · obtain ⟨⟨o4,rfl⟩,sy,gy⟩:=z
       refine ⟨⟨_,_,_,rfl⟩,sy,?_⟩
       rw [gy,qA,vnl]
       rfl
   obtain ⟨⟨o2,o3,o4,rfl⟩,sx,gx⟩:=z
   refine kR _ _ ?_
   rw [vnl] at gx
   exact ⟨_,rfl,q F0 _ sx hF0 gx⟩
theorem xU (s:Src K mg "_law_round" sRo)(m_len:mg "len"=none)(m_range:mg "range"=none)(LI:aC P w K mg base "_law_idle" ["node"] 1 iI):aC P w K mg base "_law_round" ["nodes"] 2 wj:=
 let ⟨f,fd,F,m⟩:=s
 ⟨f,fd,AQ F m_len m_range LI,F.kp,fg F fun _ _ _ _ _ _ _=>rfl,m⟩
/-! ### _law_due -/
def br (nds:List Np)(i:Nat):List Nat:=(Ew i).filter (bN nds)
def fq (nds:List Np)(i:Nat):List Nat:=(Ew i).map fun p=>(aL nds p).1
def mx (nds:List Np):List Int:=(Ew nds.length).map fun p=>(cZ nds (aL nds p).1:Int)
theorem dR {nds:List Np}{p:Nat}(hp:p < nds.length):p∈br nds nds.length↔bN nds p=true:=by
 unfold br
 rw [List.mem_filter,List.mem_range]
 exact ⟨fun h=>h.2,fun h=>⟨hp,h⟩⟩
theorem lS {nds:List Np}{p:Nat}(hp:p < nds.length):p∈gj nds nds.length↔mj nds p=true:=by
 unfold gj
 rw [List.mem_filter,List.mem_range]
 exact ⟨fun h=>h.2,fun h=>⟨hp,h⟩⟩
theorem jD (nds:List Np)(i:Nat):(br nds i).length<=i:=by
 have:=Fj (bN nds) (Ew i)
 rw [EE] at this
 exact this
theorem eg (nds:List Np)(i:Nat):br nds (i + 1)=br nds i++if bN nds i=true then [i] else []:=by
 unfold br
 rw [Fo,Fl,Fb]
 rfl
theorem lu {nds:List Np}:(aL nds 0).1 :: (br nds nds.length).filter (fun p=>decide (p≠(aL nds 0).1))=aO nds:=by
 unfold aO br
 rw [List.filter_filter]
 congr 1
 exact List.filter_congr fun x _=>Bool.and_comm _ _
theorem p9 {nds:List Np}(n0:0 < nds.length)(h:bN nds 0=true):br nds nds.length=aO nds:=by
 rw [← lu,iO h]
 obtain ⟨m,hm⟩ : ∃m,nds.length=m + 1:=⟨nds.length - 1,by omega⟩
 unfold br
 rw [hm,List.range_succ_eq_map,Fb,h,if_pos rfl,Fb]
 show 0 :: _=0 :: (if (false=true) then _ else _)
 rw [if_neg (by decide),List.filter_filter]
 congr 1
 refine List.filter_congr fun x hx=>?_
 obtain ⟨y,_,rfl⟩:=List.mem_map.mp hx
 rw [decide_eq_true (show y.succ≠(0,0).1 from Nat.succ_ne_zero y),Bool.true_and]
theorem qk {nds:List Np}{p:Nat}(h:p∈aO nds):∀m,m < cZ nds p->(cI (aO nds))[m]? ≠ some (p:Int):=fun m hm e=>by
 unfold cI at e
 rw [Em] at e
 obtain ⟨r,hr,er⟩:=Option.map_eq_some_iff.mp e
 have er:r=p:=by omega
 subst er
 obtain ⟨h1,e1⟩:=List.getElem?_eq_some_iff.mp hr
 obtain ⟨h2,e2⟩:=List.getElem?_eq_some_iff.mp (ir h)
 exact (List.pairwise_iff_getElem.mp (d9 nds)) m _ h1 h2 hm (e1.trans e2.symm)
def we:Sp:=fun vs H Q _=>∃(p B I N:Addr) (vb vn:List V) (bs:List (Str×Int)) (ins:List Str) (nds:List Np),vs=[.ref p]/\H p=some (.tup [.ref B,.ref I,.ref N])/\kK H B I N vb vn bs ins nds/\(∀e∈nds,e.isN)/\jd nds/\nds.length<=40/\0 < nds.length /\
 ∀(d F0:Addr) (us:List V) (H':Hp),ah H H'->H F0=none->H' d=some (.tup [.ref B,.ref I,.ref F0])->H' F0=some (.lst us)->Paired (aG H') us (bu nds)->Q (.ref d) H'
theorem fJ:az ["program","boxes","inputs","nodes","stay","ends","number","at","order","change"] ["program"] (af sDu):=⟨rfl,rfl,rfl,by decide +kernel,rfl,by decide +kernel,by decide +kernel⟩
theorem i4:(af sDu).names.lookup (Eb "_law_round")=some .globalImplicit:=by decide +kernel
theorem nZ:(af sDu).names.lookup (Eb "len")=some .globalImplicit:=by decide +kernel
theorem jm:(af sDu).names.lookup (Eb "range")=some .globalImplicit:=by decide +kernel
theorem AI {f:Addr}{fd:FuncData}(F:bQ K "_law_due" "_law_due" sDu f fd)(m_len:mg "len"=none)(m_range:mg "range"=none)(RO:aC P w K mg base "_law_round" ["nodes"] 2 wj)(LI0:aC P w K mg base "_law_idle" ["node"] 1 iI)(LD0:aC P w K mg base "_law_led" ["node","change"] 1 lY):aI P w K mg base CX0 3 f fd ["program"] we:=by
 refine F.ok fJ (fun vs H Q E h=>?_) (fun cdv A outer s H vs Q E hr h=>?_)
 · obtain ⟨p,B,I,N,vb,vn,bs,ins,nds,rfl,_⟩:=h
   rfl
 · obtain ⟨p,B,I,N,vb,vn,bs,ins,nds,rfl,hp,pt,isn,ok,n40,n0,q⟩:=h
   have LI:=LI0.mono (show 1<=2 by omega)
   have LD:=LD0.mono (show 1<=2 by omega)
   have vnl:=Paired.length pt.pn
   have big:1000<=sizeLine:=by decide
   refine cu ⟨_,(Ih (Jk (Ib 0) (IU 3 (IC (Iq 1 fJ.nd) (IC (Iq 2 fJ.nd) (IC (Iq 3 fJ.nd) IV)))))
     (Ih (Io 4 fJ.nd (Il RO hr i4 (Ic (Ib 3) Ie)))
     (Ih (Io 4 fJ.nd (IS [none,some 4,some 3] ["number","stay","nodes"] (show av _ (af sDu) from ⟨rfl,by decide +kernel,by decide +kernel,by decide +kernel⟩) (by rfl) (Jg jm m_range (Ic (Iy IP nZ m_len Es (Ic (Ib 3) Ie)) Ie)) (fun _ _ _ _ _=>⟨(Iq 0 (show (["number","stay","nodes"]:List Str).Nodup from by decide +kernel)),(L3.if1 (IJ (Jc (Iu Jw (Ib 0) (Ib 1) (by rfl)) (Je (IW (IF (Il LI hr (by rfl) (Ic (Ii IG (Ib 2) (Ib 0)) Ie)))))))),(Ib 0)⟩)))
     (Ih (Io 5 fJ.nd (ID Ie))
     (Ih (IT (Jg jm m_range (Ic (Iy IP nZ m_len Es (Ic (Ib 3) Ie)) Ie)) (Iq 6 fJ.nd) (Ih (Io 7 fJ.nd (Ib 6))
     (Ih (L3.ui (Iu L3.ko (Ib 7) (Ib 4) (by rfl)) (Ij (Io 7 fJ.nd (Ii Ik (Ii IG (Ib 3) (Ib 7)) (JA Ig)))))
     (Ij (Jd (Jm (Ib 5) (Ic (Ib 7) Ie)))))))
     (Ih (Io 8 fJ.nd (IB Js (ID (Ic (Ii IG (Ib 5) Ig) Ie)) (IS [none,some 5] ["number","ends"] (show av _ (af sDu) from ⟨rfl,by decide +kernel,by decide +kernel,by decide +kernel⟩) (by rfl) (IQ (Ib 4)) (fun _ _ _ _ _=>⟨(Iq 0 (show (["number","ends"]:List Str).Nodup from by decide +kernel)),(L3.if1 (Iu L3.vm (Ib 0) (Ii IG (Ib 1) Ig))),(Ib 0)⟩))))
     (Ih (Iv (Iu Jw Ig (Ib 4) (by rfl)) (Ij (Io 8 fJ.nd (Ib 4))) Iw)
     (Ih (Io 9 fJ.nd (IS [none,some 8] ["number","order"] (show av _ (af sDu) from ⟨rfl,by decide +kernel,by decide +kernel,by decide +kernel⟩) (by rfl) (IQ (Ib 5)) (fun _ _ _ _ _=>⟨(Iq 0 (show (["number","order"]:List Str).Nodup from by decide +kernel)),IX,(L3.x8 (Ib 1) (Ic (Ib 0) Ie))⟩)))
     (Ij (Im (IA (Ic (Ib 1) (Ic (Ib 2) (Ic (IS [none,some 9,some 3] ["number","change","nodes"] (show av _ (af sDu) from ⟨rfl,by decide +kernel,by decide +kernel,by decide +kernel⟩) (by rfl) (IQ (Ib 8)) (fun _ _ _ _ _=>⟨(Iq 0 (show (["number","change","nodes"]:List Str).Nodup from by decide +kernel)),IX,(Il LD hr (by rfl) (Ic (Ii IG (Ib 2) (Ib 0)) (Ic (Ib 1) Ie)))⟩)) Ie)))))))))))))),?_⟩
   refine ao fun Rk kR=>?_
   refine ⟨_,rfl,p,_,rfl,ar.of hp,rfl,_,_,rfl,_,_,rfl,_,_,rfl,rfl,?_⟩
   refine kR _ _ ?_
   clear kR
   refine aq [some (.ref p),some (.ref B),some (.ref I),some (.ref N),none,none,none,none,none,none] rfl ?_
   refine ao fun Rk kR=>?_
   refine ⟨_,rfl,N,vn,nds,rfl,pt.hN,pt.pn,ok,n40,fun R H1 s1 nR gR=>?_⟩
   refine aj ?_
   refine kR _ _ ?_
   clear kR
   refine aq [some (.ref p),some (.ref B),some (.ref I),some (.ref N),some (.ref R),none,none,none,none,none] rfl ?_
   refine ao fun Rk kR=>?_
   have hN1:=s1 _ _ pt.hN
   have pn1:Paired (aG H1) vn nds:=Paired.mapP pt.pn fun _ _ z=>aG.keep (ah.tk s1) z
   refine ⟨_,rfl,N,_,rfl,.inl (aA.of hN1),(vn.length:Int),rfl,by omega,by omega,fun S hS=>?_⟩
   rw [ES]
   refine b9 (lo:=0) (n:=vn.length) (fun (i:Nat) (Hx:Hp)=>ah H1 Hx/\Hx S=some (.lst ((cI (br nds i)).map V.int))) ⟨ag hS _,ae⟩ (fun i Hx hi z=>?_) (fun H2 z=>?_)
   · obtain ⟨sx,gS⟩:=z
     rw [F7]
     have hin:i < nds.length:=by omega
     refine aj ?_
     have sl:=jD nds i
     refine ⟨_,rfl,_,rfl,R,_,rfl,.inl (aA.of (sx _ _ gR)),rfl,dM _,_,rfl,?_⟩
     show if rS (.int (i:Int)) ((cI (gj nds nds.length)).map V.int)=true then _ else _
     rw [dv]
     cases hr:mj nds i with
     | true=>
       have hst:bN nds i=true:=oO hr
       refine iteT' (decide_eq_true (dq.mpr ((lS hin).mpr hr))) (iteT' (by decide) ?_)
       refine ⟨_,rfl,_,gS,ax (by rw [Ea,bW]; omega),aF (Pv:=fun (i:Nat) (Hx:Hp)=>ah H1 Hx/\Hx S=some (.lst ((cI (br nds i)).map V.int))) (by repeat' constructor) hi ⟨aE sx hS,?_⟩⟩
       rw [ae,eg,hst,if_pos rfl,gV,En]
       rfl
     | false=>
       refine iteF' (decide_eq_false (fun z=>by have:=(lS hin).mp (dq.mp z); rw [hr] at this; cases this)) ?_
       obtain ⟨x1,e1,hx1,he1,na1⟩:=b6 pn1 hin
       refine ⟨_,rfl,_,rfl,N,_,_,_,rfl,rfl,aA.of (sx _ _ hN1),aM hx1,x1,e1,rfl,aG.keep (ah.tk sx) na1,fun Hy sy=>⟨_,rfl,?_⟩⟩
       cases hid:e1.idle with
       | none=>
         have hst:bN nds i=true:=by unfold bN; rw [lK he1,hid]; rfl
         refine iteT' rfl ?_
         refine ⟨_,rfl,_,sy _ _ gS,ax (by rw [Ea,bW]; omega),aF (Pv:=fun (i:Nat) (Hx:Hp)=>ah H1 Hx/\Hx S=some (.lst ((cI (br nds i)).map V.int))) (by repeat' constructor) hi ⟨aE (aa sx sy) hS,?_⟩⟩
         rw [ae,eg,hst,if_pos rfl,gV,En]
         rfl
       | some n=>
         have hst:bN nds i=false:=by unfold bN; rw [lK he1,hid,hr]; rfl
         refine iteF' rfl (aF (Pv:=fun (i:Nat) (Hx:Hp)=>ah H1 Hx/\Hx S=some (.lst ((cI (br nds i)).map V.int))) (by repeat' constructor) hi ⟨aa sx sy,?_⟩)
         rw [sy _ _ gS,eg,hst,if_neg (by decide),E7]
   obtain ⟨s2,gS⟩:=z
   rw [vnl] at gS
   refine aj ?_
   refine kR _ _ ?_
   clear kR
   refine aq [some (.ref p),some (.ref B),some (.ref I),some (.ref N),some (.ref S),none,none,none,none,none] rfl ?_
   refine ao fun Rk kR=>?_
   have s02:=aa s1 s2
   have hN2:=s2 _ _ hN1
   have pn2:Paired (aG H2) vn nds:=Paired.mapP pn1 fun _ _ z=>aG.keep (ah.tk s2) z
   refine ⟨Kg,fun E0 hE0=>?_⟩
   have s3:=ag hE0 (.lst [])
   have g3:(upd H2 E0 (.lst [])) E0=some (.lst []):=ae
   generalize upd H2 E0 (.lst [])=H3 at s3 g3 ⊢
   refine aj ?_
   refine kR _ _ ?_
   clear kR
   refine aq [some (.ref p),some (.ref B),some (.ref I),some (.ref N),some (.ref S),some (.ref E0),none,none,none,none] rfl ?_
   refine ao fun Rk kR=>?_
   refine ⟨_,rfl,N,_,rfl,.inl (aA.of (s3 _ _ hN2)),(vn.length:Int),rfl,by omega,by omega,?_⟩
   rw [ES]
   refine b7 (lo:=0) (n:=vn.length) (fun (i:Nat) (σ:List (Option V)) (Hx:Hp)=>(∃o6 o7,σ=[some (.ref p),some (.ref B),some (.ref I),some (.ref N),some (.ref S),some (.ref E0),o6,o7,none,none])/\ah H2 Hx/\Hx E0=some (.lst ((cI (fq nds i)).map V.int))) ⟨⟨_,_,rfl⟩,s3,g3⟩ (fun i σ Hx hi z=>?_) (fun σ H4 z=>?_)
   · obtain ⟨⟨o6,o7,rfl⟩,sx,gE⟩:=z
     rw [F7]
     have hin:i < nds.length:=by omega
     obtain ⟨wy,w1,w2,w3⟩:=dG ok hin
     generalize hrr:(aL nds i).1=rr at wy w1 w3
     refine aj ?_
     refine aq [some (.ref p),some (.ref B),some (.ref I),some (.ref N),some (.ref S),some (.ref E0),some (.int (i:Int)),o7,none,none] rfl ?_
     refine ao fun Rk2 kR2=>?_
     refine ⟨_,rfl,?_⟩
     refine aj ?_
     refine kR2 _ _ ?_
     clear kR2
     refine aq [some (.ref p),some (.ref B),some (.ref I),some (.ref N),some (.ref S),some (.ref E0),some (.int (i:Int)),some (.int (i:Int)),none,none] rfl ?_
     refine ao fun Rk2 kR2=>?_
     refine ⟨fun m σ Hy=>(∃p':Nat,σ=[some (.ref p),some (.ref B),some (.ref I),some (.ref N),some (.ref S),some (.ref E0),some (.int (i:Int)),some (.int (p':Int)),none,none]/\p' < nds.length/\Way nds p' rr m)/\ah Hx Hy,⟨_,⟨i,rfl,hin,wy⟩,same_refl _⟩,?_⟩
     rintro m σ Hy ⟨⟨p',rfl,hp',wy'⟩,sy⟩
     have sxy:=aa sx sy
     refine ⟨_,rfl,_,rfl,S,_,rfl,.inl (aA.of (sxy _ _ gS)),rfl,dM _,_,rfl,?_⟩
     show if (!rS (.int (p':Int)) ((cI (br nds nds.length)).map V.int))=true then _ else _
     rw [dv]
     cases wy' with
     | here hst=>
       refine iteF' (by rw [decide_eq_true (dq.mpr ((dR hp').mpr hst))]; rfl) (kR2 _ _ ?_)
       have el:(fq nds i).length=i:=by unfold fq; rw [Ea,EE]
       refine ⟨_,rfl,.inl ⟨rfl,_,aA.of (sy _ _ gE)⟩,_,rfl,E0,_,_,rfl,rfl,sy _ _ gE,ax (by rw [Ea,bW]; omega),⟨_,_,rfl⟩,aE sxy hE0,?_⟩
       have e:fq nds (i + 1)=fq nds i++[rr]:=by
         unfold fq
         rw [Fo,En,← hrr]
         rfl
       rw [ae,e,gV,En]
       rfl
     | @on _ q1 _ m1 hst hq wy2=>
       refine iteT' (by rw [decide_eq_false (fun z=>by have:=(dR hp').mp (dq.mp z); rw [hst] at this; cases this)]; rfl) ⟨fun σ' H'=>(∃p':Nat,σ'=[some (.ref p),some (.ref B),some (.ref I),some (.ref N),some (.ref S),some (.ref E0),some (.int (i:Int)),some (.int (p':Int)),none,none]/\p' < nds.length/\Way nds p' rr m1)/\ah Hx H',fun σ' H' z=>⟨m1,G1 _,z⟩,?_⟩
       obtain ⟨e1,n,he1,hid,hqn⟩:=ki hq
       obtain ⟨x1,e2,hx1,he2,na1⟩:=b6 pn2 hp'
       cases he1.symm.trans he2
       have nb:=eO ok he1 hid
       obtain ⟨px,xs,rfl,hpx,hat⟩:=js (aG.keep (ah.tk sxy) na1) hid
       refine ⟨_,rfl,_,rfl,N,_,_,_,rfl,rfl,aA.of (sxy _ _ hN2),aM hx1,_,rfl,px,_,_,_,rfl,rfl,ar.of hpx,hat,?_⟩
       refine aj ?_
       refine ⟨⟨q1,?_,fV ok hq,wy2⟩,sy⟩
       rw [hqn,Fu nb.1]
       rfl
   obtain ⟨⟨o6,o7,rfl⟩,s4,gE⟩:=z
   rw [vnl] at gE
   refine kR _ _ ?_
   clear kR
   refine ao fun Rk kR=>?_
   have gS4:=s4 _ _ gS
   have hN4:=s4 _ _ hN2
   have pn4:Paired (aG H4) vn nds:=Paired.mapP pn2 fun _ _ z=>aG.keep (ah.tk s4) z
   have endg:∀i,i < nds.length->(cI (fq nds nds.length))[i]? = some ((aL nds i).1:Int):=fun i hi=>qQ (by unfold fq; rw [Em,Fs hi]; rfl)
   have fZ:iV ((cI (fq nds nds.length)).map V.int) 0=some (.int ((aL nds 0).1:Int)):=aM (xs:=(cI (fq nds nds.length)).map V.int) (j:=0) (by rw [Em,endg 0 n0]; rfl)
   generalize hz0:(aL nds 0).1=z0 at fZ
   refine ⟨_,rfl,E0,_,_,_,rfl,rfl,aA.of gE,fZ,Kh,fun k0 hk0=>?_⟩
   have s5:=ag hk0 (.lst [.int (z0:Int)])
   have g5:(upd H4 k0 (.lst [.int (z0:Int)])) k0=some (.lst [.int (z0:Int)]):=ae
   generalize upd H4 k0 (.lst [.int (z0:Int)])=H5 at s5 g5 ⊢
   have sln:=jD nds nds.length
   refine ⟨_,rfl,S,rfl,⟨_,aA.of (s5 _ _ gS4)⟩,fun k1 hk1=>?_⟩
   refine aV (xs:=(cI (br nds nds.length)).map V.int) (fun (i:Nat) (Hx:Hp)=>ah H5 Hx/\Hx k1=some (.lst ((cI (((br nds nds.length).take i).filter (fun q=>decide (q≠z0)))).map V.int))) ⟨ag hk1 _,by rw [E1]; exact ae⟩ (fun i Hx _ z=>aA.of (z.1 _ _ (s5 _ _ gS4))) (fun i x0 Hx hx z=>?_) (fun H6 z=>?_)
   · obtain ⟨sx,gk⟩:=z
     have hil:=(List.getElem?_eq_some_iff.mp hx).1
     obtain ⟨y,hy,rfl⟩:=aT hx
     unfold cI at hy
     rw [Em] at hy
     obtain ⟨r,hr,rfl⟩:=Option.map_eq_some_iff.mp hy
     have s5x:=aa s5 sx
     refine aj ?_
     refine ⟨_,rfl,_,rfl,E0,_,_,_,rfl,rfl,aA.of (s5x _ _ gE),fZ,rfl,_,rfl,?_⟩
     have fl:=Fj (fun q=>decide (q≠z0)) ((br nds nds.length).take i)
     rw [Eo] at fl
     by_cases c:r=z0
     · refine iteF' (show (!decide (V.int (r:Int)=V.int (z0:Int)))=false by rw [c,decide_eq_true rfl]; rfl) (aF (Pv:=fun (i:Nat) (Hx:Hp)=>ah H5 Hx/\Hx k1=some (.lst ((cI (((br nds nds.length).take i).filter (fun q=>decide (q≠z0)))).map V.int))) (by repeat' constructor) hil ⟨sx,?_⟩)
       rw [gk,Er,hr,Fl]
       have:(some r).toList.filter (fun q=>decide (q≠z0))=[]:=by
         show [r].filter (fun q=>decide (q≠z0))=[]
         rw [Fb,decide_eq_false (fun z=>z c)]
         rfl
       rw [this,E7]
     · refine iteT' (show (!decide (V.int (r:Int)=V.int (z0:Int)))=true by rw [decide_eq_false (fun z=>c (by injection z with z; omega))]; rfl) ?_
       refine ⟨_,rfl,_,gk,ax (by rw [Ea,bW]; omega),aF (Pv:=fun (i:Nat) (Hx:Hp)=>ah H5 Hx/\Hx k1=some (.lst ((cI (((br nds nds.length).take i).filter (fun q=>decide (q≠z0)))).map V.int))) (by repeat' constructor) hil ⟨aE sx hk1,?_⟩⟩
       rw [ae,Er,hr,Fl,gV,En]
       have:(some r).toList.filter (fun q=>decide (q≠z0))=[r]:=by
         show [r].filter (fun q=>decide (q≠z0))=[r]
         rw [Fb,decide_eq_true (show r≠z0 from c)]
         rfl
       rw [this]
       rfl
   obtain ⟨s6,gk⟩:=z
   rw [Ea,bW,EL] at gk
   have fl:=Fj (fun q=>decide (q≠z0)) (br nds nds.length)
   refine ⟨k0,k1,_,_,rfl,rfl,s6 _ _ g5,gk,(by rw [Ea,bW]; show 1 + _<=_; omega),fun O hO=>?_⟩
   have ekp:[V.int (z0:Int)]++(cI ((br nds nds.length).filter (fun q=>decide (q≠z0)))).map V.int=(cI (aO nds)).map V.int:=by
     rw [← lu,hz0]
     rfl
   rw [ekp]
   have s7:=ag hO (.lst ((cI (aO nds)).map V.int))
   have g7:(upd H6 O (.lst ((cI (aO nds)).map V.int))) O=some (.lst ((cI (aO nds)).map V.int)):=ae
   generalize upd H6 O (.lst ((cI (aO nds)).map V.int))=H7 at s7 g7 ⊢
   have s47:=aa s5 (aa s6 s7)
   clear ekp g5 gk hk0 hk1 fl s5 s6 hO
   refine aj ?_
   refine kR _ _ ?_
   clear kR
   refine aq [some (.ref p),some (.ref B),some (.ref I),some (.ref N),some (.ref S),some (.ref E0),o6,o7,some (.ref O),none] rfl ?_
   refine ao fun Rk kR=>?_
   have kl:=ig ok n0
   have s04:=aa s02 s4
   have tail:∀(O:Addr) (Hc:Hp),ah H4 Hc->Hc O=some (.lst ((cI (aO nds)).map V.int))->Rk [some (.ref p),some (.ref B),some (.ref I),some (.ref N),some (.ref S),some (.ref E0),o6,o7,some (.ref O),none] Hc:=fun O Hc sc gO=>by
     refine kR _ _ ?_
     clear kR
     refine ao fun Rk kR=>?_
     refine ⟨_,rfl,E0,rfl,⟨_,aA.of (sc _ _ gE)⟩,fun C hC=>?_⟩
     have ell:(fq nds nds.length).length=nds.length:=by unfold fq; rw [Ea,EE]
     refine aV (xs:=(cI (fq nds nds.length)).map V.int) (fun (i:Nat) (Hx:Hp)=>ah Hc Hx/\Hx C=some (.lst (((mx nds).take i).map V.int))) ⟨ag hC _,by rw [E1]; exact ae⟩ (fun i Hx _ z=>aA.of (z.1 _ _ (sc _ _ gE))) (fun i x0 Hx hx z=>?_) (fun H8 z=>?_)
     · obtain ⟨sx,gC⟩:=z
       have hil:=(List.getElem?_eq_some_iff.mp hx).1
       have hil2:=hil
       rw [Ea,bW,ell] at hil2
       rw [Em,endg i hil2] at hx
       cases hx
       have wat:=dG ok hil2
       have km:=eP wat.2.1 wat.2.2.2
       refine aj ?_
       refine bL (A:=fun H5=>cj _ C _ H5 _) ?_
       refine ⟨_,rfl,.inl ⟨rfl,_,aA.of (sx _ _ gO)⟩,_,rfl,O,cI (aO nds),_,cZ nds (aL nds i).1,rfl,rfl,aA.of (sx _ _ gO),qQ (ir km),qk km,by rw [bW]; omega,?_⟩
       refine ⟨_,gC,ax (by rw [Ea,Eo]; omega),aF (Pv:=fun (i:Nat) (Hx:Hp)=>ah Hc Hx/\Hx C=some (.lst (((mx nds).take i).map V.int))) (by repeat' constructor) hil ⟨aE sx hC,?_⟩⟩
       have hcg:(mx nds)[i]? = some (cZ nds (aL nds i).1:Int):=by unfold mx; rw [Em,Fs hil2]; rfl
       rw [ae,Er,hcg,En]
       rfl
     obtain ⟨s8,gC⟩:=z
     rw [Ea,bW,ell,EI (by unfold mx; rw [Ea,EE]; exact Ee _)] at gC
     refine aj ?_
     refine kR _ _ ?_
     clear kR
     have s48:=aa sc s8
     have hN8:=s48 _ _ hN4
     have pn8:Paired (aG H8) vn nds:=Paired.mapP pn4 fun _ _ z=>aG.keep (ah.tk s48) z
     have gO8:=s8 _ _ gO
     refine ⟨_,rfl,_,rfl,_,rfl,O,rfl,⟨_,aA.of gO8⟩,fun F0 hF0=>?_⟩
     refine aV (xs:=(cI (aO nds)).map V.int) (fun (i:Nat) (Hx:Hp)=>ah H8 Hx/\∃us,Hx F0=some (.lst us)/\us.length=i/\Paired (aG Hx) us ((bu nds).take i)) ⟨ag hF0 _,[],ae,rfl,by rw [E1]; exact .nil⟩ (fun i Hx _ z=>aA.of (z.1 _ _ gO8)) (fun i x0 Hx hx z=>?_) (fun H9 z=>?_)
     · obtain ⟨sx,us,gF,ul,pu⟩:=z
       have hil:=(List.getElem?_eq_some_iff.mp hx).1
       have hil2:=hil
       rw [Ea,bW] at hil2
       obtain ⟨y,hy,rfl⟩:=aT hx
       unfold cI at hy
       rw [Em] at hy
       obtain ⟨r,hr,rfl⟩:=Option.map_eq_some_iff.mp hy
       have rin:=(gu ok n0 (Ef hr)).1
       obtain ⟨x1,e1,hx1,he1,na1⟩:=b6 pn8 rin
       refine aj ?_
       refine bL (A:=fun H5=>cj _ F0 _ H5 _) ?_
       refine ⟨_,rfl,_,rfl,N,_,_,_,rfl,rfl,aA.of (sx _ _ hN8),aM hx1,_,rfl,x1,C,e1,mx nds,cX nds e1,rfl,aG.keep (ah.tk sx) na1,isn e1 (Ef he1),sx _ _ gC,(by unfold cX; rw [Ea]),fun j a b h1 h2=>?_,fun v' Hy sy nv=>?_⟩
       · have lb:=ok e1 (Ef he1) a (Ef h1)
         refine ⟨lb.1,?_⟩
         unfold cX at h2
         rw [Em,h1] at h2
         cases h2
         unfold mx
         rw [Em,Fs (by omega)]
         rfl
       · have gFy:=sy _ _ gF
         have tkF:TK Hy (upd Hy F0 (.lst (us++[v']))):=TW.TK.lst gFy
         refine ⟨_,gFy,ax (by omega),aF (Pv:=fun (i:Nat) (Hx:Hp)=>ah H8 Hx/\∃us,Hx F0=some (.lst us)/\us.length=i/\Paired (aG Hx) us ((bu nds).take i)) (by repeat' constructor) hil ⟨aE (aa sx sy) hF0,us++[v'],ae,by rw [Eh,ul]; rfl,?_⟩⟩
         have htl:(bu nds)[i]? = some (e1.led (cX nds e1)):=by
           unfold bu
           rw [Em,hr]
           show some ((nds.getD r .fin).led (cX nds (nds.getD r .fin)))=_
           rw [ED,he1]
           rfl
         rw [Er,htl]
         exact Paired.snoc (Paired.mapP pu fun _ _ z=>aG.keep ((ah.tk sy).trans tkF) z) (aG.keep tkF nv)
     obtain ⟨s9,us,gF,ul,pu⟩:=z
     rw [Ea,bW,EI (by unfold bu; rw [Ea]; exact Ee _)] at pu
     refine ⟨Kj,fun d hd=>?_⟩
     have sd:=ag hd (.tup [.ref B,.ref I,.ref F0])
     have s08:=aa s04 s48
     exact q d F0 us _ (aa s08 (aa s9 sd)) (ai s08 hF0) ae (sd _ _ gF) (Paired.mapP pu fun _ _ z=>aG.keep (ah.tk sd) z)
   refine ⟨_,rfl,S,_,rfl,.inl (aA.of (s47 _ _ gS4)),rfl,dM _,_,rfl,?_⟩
   show if rS (.int ((0:Nat):Int)) ((cI (br nds nds.length)).map V.int)=true then _ else _
   rw [dv]
   cases hst:bN nds 0 with
   | true=>
     refine iteT' (decide_eq_true (dq.mpr ((dR n0).mpr hst))) ?_
     refine ⟨_,rfl,?_⟩
     refine aj ?_
     have gS7:=s47 _ _ gS4
     rw [p9 n0 hst] at gS7
     exact tail S H7 s47 gS7
   | false=>
     refine iteF' (decide_eq_false (fun z=>by have:=(dR n0).mp (dq.mp z); rw [hst] at this; cases this)) ?_
     exact tail O H7 s47 g7
theorem xP (s:Src K mg "_law_due" sDu)(m_len:mg "len"=none)(m_range:mg "range"=none)(RO:aC P w K mg base "_law_round" ["nodes"] 2 wj)(LI0:aC P w K mg base "_law_idle" ["node"] 1 iI)(LD0:aC P w K mg base "_law_led" ["node","change"] 1 lY):aC P w K mg base "_law_due" ["program"] 3 we:=
 let ⟨f,fd,F,m⟩:=s
 ⟨f,fd,AI F m_len m_range RO LI0 LD0,F.kp,fg F fun _ _ _ _ _ _ _=>rfl,m⟩
/-! ### _law_chained -/
theorem Paired.setP {α β:Type}{R:α->β->Prop}{x:α}{y:β}(h:R x y):∀{xs:List α} {ys:List β} (j:Nat),Paired R xs ys->Paired R (xs.set j x) (ys.set j y)
 | _,_,_,.nil=>.nil
 | _,_,0,.cons _ t=>.cons h t
 | _,_,j + 1,.cons a t=>.cons a (Paired.setP h j t)
theorem yd {n:Nat}{k:Int}(h0:0<=k)(h1:k < (n:Int)):ve n k=some k.toNat:=by unfold ve; rw [if_pos h0,if_pos h1]
def tT:Sp:=fun vs H Q _=>∃(r p B I N:Addr) (vb vn:List V) (bs:List (Str×Int)) (ins:List Str) (nds:List Np) (most longest:Int),vs=[.ref r,.ref p]/\bH H r/\H p=some (.tup [.ref B,.ref I,.ref N])/\uu r H B I N vb vn bs ins nds/\qO most longest bs ins nds/\longest<=40 /\
 ∀(p' N':Addr) (vn':List V) (nds':List Np) (H':Hp),Rl r H H'->H' p'=some (.tup [.ref B,.ref I,.ref N'])->uu r H' B I N' vb vn' bs ins nds'->qO most longest bs ins nds'->Q (.ref p') H'
theorem eW:az ["pot","program","boxes","inputs","nodes","many","found","start","k","at"] ["pot","program"] (af sChn):=⟨rfl,rfl,rfl,by decide +kernel,rfl,by decide +kernel,by decide +kernel⟩
theorem cE:(af sChn).names.lookup (Eb "_law_next")=some .globalImplicit:=by decide +kernel
theorem rB:(af sChn).names.lookup (Eb "len")=some .globalImplicit:=by decide +kernel
theorem pG:(af sChn).names.lookup (Eb "list")=some .globalImplicit:=by decide +kernel
theorem mG:(af sChn).names.lookup (Eb "range")=some .globalImplicit:=by decide +kernel
theorem yv {f:Addr}{fd:FuncData}(F:bQ K "_law_chained" "_law_chained" sChn f fd)(m_len:mg "len"=none)(m_list:mg "list"=none)(m_range:mg "range"=none)(TK0:aC P w K mg base "_law_next" ["pot","many"] 1 aZ):aI P w K mg base CX0 2 f fd ["pot","program"] tT:=by
 refine F.ok eW (fun vs H Q E h=>?_) (fun cdv A outer s H vs Q E hr h=>?_)
 · obtain ⟨r,p,B,I,N,vb,vn,bs,ins,nds,most,longest,rfl,_⟩:=h
   rfl
 · obtain ⟨r,p,B,I,N,vb,vn,bs,ins,nds,most,longest,rfl,hre,hp,pd,ok,lg,q⟩:=h
   have vnl:=Paired.length pd.pn
   have n1:=ok.one
   have fw:=ok.few
   have bigp:(900:Int) < 2 ^ 110:=by decide
   refine cu ⟨_,(Ih (Jk (Ib 1) (IU 3 (IC (Iq 2 eW.nd) (IC (Iq 3 eW.nd) (IC (Iq 4 eW.nd) IV)))))
     (Ih (Io 5 eW.nd (Iy IP rB m_len Es (Ic (Ib 4) Ie)))
     (Ih (Io 6 eW.nd (Jb Jp pG m_list (by decide +kernel) (Ic (Ib 4) Ie)))
     (Ih (Io 7 eW.nd (IB Jl (Il TK0 hr cE (Ic (Ib 0) (Ic (Ib 5) Ie))) (Il TK0 hr cE (Ic (Ib 0) (Ic Ig Ie)))))
     (Ih (IT (Jg mG m_range (Ic (Il TK0 hr cE (Ic (Ib 0) (Ic (Ib 5) Ie))) Ie)) (Iq 8 eW.nd) (Ih (Io 9 eW.nd (IB Ji (IB Jf (Ib 7) (Ib 8)) (Ib 5)))
     (Ij (Jk (IA (Ic Ip (Ic (IA (Ic Ip Ie)) (Ic (IB Ji (IB Jf (Ib 9) Ig) (Ib 5)) (Ic (IB Ji (IB Jf (Ib 9) Ig) (Ib 5)) Ie))))) (L3.Aq (Ib 6) (Ib 9))))))
     (Ij (Im (IA (Ic (Ib 2) (Ic (Ib 3) (Ic (Ib 6) Ie))))))))))),?_⟩
   refine ao fun Rk kR=>?_
   refine ⟨_,rfl,p,_,rfl,ar.of hp,rfl,_,_,rfl,_,_,rfl,_,_,rfl,rfl,?_⟩
   refine kR _ _ ?_
   clear kR
   refine aq [some (.ref r),some (.ref p),some (.ref B),some (.ref I),some (.ref N),none,none,none,none,none] rfl ?_
   refine ao fun Rk kR=>?_
   refine ⟨_,rfl,N,_,rfl,.inl (aA.of pd.hN),?_⟩
   rw [vnl]
   refine aj ?_
   refine kR _ _ ?_
   clear kR
   refine aq [some (.ref r),some (.ref p),some (.ref B),some (.ref I),some (.ref N),some (.int (nds.length:Int)),none,none,none,none] rfl ?_
   refine ao fun Rk kR=>?_
   refine ⟨_,rfl,N,_,rfl,.inl (aA.of pd.hN),fun F0 hF0=>?_⟩
   have Fr:=hre.ne hF0
   have l1:Rl r H (upd H F0 (.lst vn)):=Rl.new hre hF0
   have g1:(upd H F0 (.lst vn)) F0=some (.lst vn):=ae
   generalize upd H F0 (.lst vn)=H1 at l1 g1 ⊢
   refine aj ?_
   refine kR _ _ ?_
   clear kR
   refine aq [some (.ref r),some (.ref p),some (.ref B),some (.ref I),some (.ref N),some (.int (nds.length:Int)),some (.ref F0),none,none,none] rfl ?_
   refine ao fun Rk kR=>?_
   refine ⟨_,rfl,_,rfl,r,(nds.length:Int),rfl,l1.rl,by omega,by omega,fun k Hk k0 k1 lk=>?_⟩
   have l2:=l1.trans lk
   refine ⟨_,rfl,r,2,rfl,l2.rl,by decide,by decide,fun k2 Hm k20 k21 lm=>?_⟩
   have l3:=l2.trans lm
   refine ⟨_,_,rfl,rfl,.inl ⟨F8 (by decide) k0,Int.lt_trans (F8 k1 (show (nds.length:Int)<=900 by omega)) (by decide)⟩,?_⟩
   have g3:=(lk.trans lm).k _ _ Fr g1
   obtain ⟨st,es⟩ : ∃st,st=k * k2:=⟨_,rfl⟩
   refine aj ?_
   refine kR _ _ ?_
   clear kR
   refine aq [some (.ref r),some (.ref p),some (.ref B),some (.ref I),some (.ref N),some (.int (nds.length:Int)),some (.ref F0),some (.int st),none,none] (by rw [es]; rfl) ?_
   refine ao fun Rk kR=>?_
   refine ⟨_,rfl,_,rfl,r,(nds.length:Int),rfl,l3.rl,by omega,by omega,fun kc H4 kc0 kc1 l4'=>?_⟩
   have l4:=l3.trans l4'
   have g4:=l4'.k _ _ Fr g3
   refine ⟨kc,rfl,by omega,by omega,?_⟩
   refine b7 (lo:=0) (n:=kc.toNat) (fun (i:Nat) (σ:List (Option V)) (Hx:Hp)=>(∃o8 o9,σ=[some (.ref r),some (.ref p),some (.ref B),some (.ref I),some (.ref N),some (.int (nds.length:Int)),some (.ref F0),some (.int st),o8,o9])/\Rl r H Hx/\∃vs nds2,Hx F0=some (.lst vs)/\Paired (aG Hx) vs nds2/\nds2.length=nds.length/\∀e∈nds2,mr (bs.map (·.1)) (nds.length:Int) e) ⟨⟨_,_,rfl⟩,l4,vn,nds,g4,Paired.mapP pd.pn fun _ _ z=>aG.keep (Rl.tk hre l4) z,rfl,ok.nd⟩ (fun i σ Hx hi z=>?_) (fun σ Hx z=>?_)
   · obtain ⟨⟨o8,o9,rfl⟩,lx,vs,nds2,gF,pv,nl,nok⟩:=z
     have vl:=Paired.length pv
     have m0:(0:Int) < (nds.length:Int):=by omega
     refine aj ?_
     refine aq [some (.ref r),some (.ref p),some (.ref B),some (.ref I),some (.ref N),some (.int (nds.length:Int)),some (.ref F0),some (.int st),some (.int (0 + (i:Int))),o9] rfl ?_
     refine ao fun Rk2 kR2=>?_
     refine ⟨_,rfl,_,rfl,_,_,rfl,rfl,_,rfl,_,_,rfl,rfl,m0,?_⟩
     obtain ⟨fZ,ea,a0,a1⟩ : ∃x,x=(st + (0 + (i:Int))) % (nds.length:Int)/\0<=x/\x < (nds.length:Int):=⟨_,rfl,ik m0,ij m0⟩
     refine aj ?_
     refine kR2 _ _ ?_
     clear kR2
     refine aq [some (.ref r),some (.ref p),some (.ref B),some (.ref I),some (.ref N),some (.int (nds.length:Int)),some (.ref F0),some (.int st),some (.int (0 + (i:Int))),some (.int fZ)] (by rw [ea]; rfl) ?_
     refine ⟨Kh,fun t1 ht1=>?_⟩
     have s1:=ag ht1 (.tup [.str "yes"])
     have gt1:(upd Hx t1 (.tup [.str "yes"])) t1=some (.tup [.str "yes"]):=ae
     generalize upd Hx t1 (.tup [.str "yes"])=Hy at s1 gt1 ⊢
     refine ⟨_,rfl,_,_,rfl,rfl,_,rfl,_,_,rfl,rfl,m0,_,rfl,_,_,rfl,rfl,_,rfl,_,_,rfl,rfl,m0,?_⟩
     have b0:0<=(fZ + 1) % (nds.length:Int):=ik m0
     have b1:(fZ + 1) % (nds.length:Int) < (nds.length:Int):=ij m0
     refine ⟨Kk,fun t2 ht2=>?_⟩
     have s2:=ag ht2 (.tup [.str "test",.ref t1,.int ((fZ + 1) % (nds.length:Int)),.int ((fZ + 1) % (nds.length:Int))])
     have gt2:(upd Hy t2 (.tup [.str "test",.ref t1,.int ((fZ + 1) % (nds.length:Int)),.int ((fZ + 1) % (nds.length:Int))])) t2=some (.tup [.str "test",.ref t1,.int ((fZ + 1) % (nds.length:Int)),.int ((fZ + 1) % (nds.length:Int))]):=ae
     have s12:=aa s1 s2
     have gFz:=s12 _ _ gF
     have lz:=lx.trans (Rl.of lx.rl s12)
     have tkF:TK (upd Hy t2 (.tup [.str "test",.ref t1,.int ((fZ + 1) % (nds.length:Int)),.int ((fZ + 1) % (nds.length:Int))])) (upd (upd Hy t2 (.tup [.str "test",.ref t1,.int ((fZ + 1) % (nds.length:Int)),.int ((fZ + 1) % (nds.length:Int))])) F0 (.lst (vs.set fZ.toNat (.ref t2)))):=TW.TK.lst gFz
     refine ⟨_,rfl,_,rfl,F0,_,_,fZ.toNat,rfl,rfl,gFz,yd a0 (by omega),⟨_,_,rfl⟩,lz.put Fr hF0,_,nds2.set fZ.toNat (.test .yes ((fZ + 1) % (nds.length:Int)) ((fZ + 1) % (nds.length:Int))),ae,?_,by rw [List.length_set]; exact nl,fun e he=>?_⟩
     · exact Paired.setP ⟨.ref t1,⟨t2,rfl,tkF _ _ gt2⟩,⟨t1,rfl,tkF _ _ (s2 _ _ gt1)⟩⟩ _ (Paired.mapP pv fun _ _ z=>aG.keep ((ah.tk s12).trans tkF) z)
     · rcases List.mem_or_eq_of_mem_set he with z | z
       · exact nok e z
       · subst z
         exact ⟨trivial,all2 ⟨b0,b1⟩ ⟨b0,b1⟩,all1 ⟨trivial,EC _⟩⟩
   obtain ⟨⟨o8,o9,rfl⟩,lx,vs,nds2,gF,pv,nl,nok⟩:=z
   refine kR _ _ ?_
   clear kR
   refine ⟨_,rfl,_,rfl,_,rfl,Kj,fun p' hp'=>?_⟩
   have lp:=Rl.new (o:=.tup [.ref B,.ref I,.ref F0]) lx.rl hp'
   have lH:=lx.trans lp
   have tkp:=Rl.tk lx.rl lp
   have pdH:=pd.go hre lH
   refine q p' F0 vs nds2 _ lH ae ⟨pdH.hB,pdH.hI,lp.k _ _ Fr gF,pdH.pb,Paired.mapP pv fun _ _ z=>aG.keep tkp z,pd.nB,pd.nI,Fr⟩ ⟨ok.bx,ok.ind,ok.sub,by omega,by rw [nl]; exact fw,fun e he=>by rw [nl]; exact nok e he⟩
theorem uU (s:Src K mg "_law_chained" sChn)(m_len:mg "len"=none)(m_list:mg "list"=none)(m_range:mg "range"=none)(TK0:aC P w K mg base "_law_next" ["pot","many"] 1 aZ):aC P w K mg base "_law_chained" ["pot","program"] 2 tT:=
 let ⟨f,fd,F,m⟩:=s
 ⟨f,fd,yv F m_len m_list m_range TK0,F.kp,f6 F fun _ _ _ _ _ _ _ _=>rfl,m⟩
end
end TW
set_option Elab.async false
set_option linter.all false
set_option maxRecDepth 100000
set_option exponentiation.threshold 4000
set_option maxHeartbeats 1000000
namespace TW
open PySem L2
section
variable {P:Program}{w:World}{K:D9}{mg:Str->Option Value}{base:Heap}
abbrev sCa:Stmt:=top 47
/-! ### likeness -/
theorem Al.tup {H:Hp}{n:Nat}{p q:Addr}{xs ys:List V}(hp:H p=some (.tup xs))(hq:H q=some (.tup ys))(hl:xs.length=ys.length)(h9:xs.length<=900)(h:∀(i:Nat) (x y:V),xs[i]? = some x->ys[i]? = some y->Al H n x y):Al H (n + 1) (.ref p) (.ref q):=.inr (.inr ⟨p,q,xs,ys,rfl,rfl,.inr ⟨hp,hq⟩,hl,h9,h⟩)
theorem Al.lst {H:Hp}{n:Nat}{p q:Addr}{xs ys:List V}(hp:H p=some (.lst xs))(hq:H q=some (.lst ys))(hl:xs.length=ys.length)(h9:xs.length<=900)(h:∀(i:Nat) (x y:V),xs[i]? = some x->ys[i]? = some y->Al H n x y):Al H (n + 1) (.ref p) (.ref q):=.inr (.inr ⟨p,q,xs,ys,rfl,rfl,.inl ⟨hp,hq⟩,hl,h9,h⟩)
theorem Al.str {H:Hp}{n:Nat}(s:Str):Al H (n + 1) (.str s) (.str s):=.inr (.inl ⟨s,rfl,rfl⟩)
theorem Al.int {H:Hp}{n:Nat}(i:Int):Al H (n + 1) (.int i) (.int i):=.inl ⟨i,rfl,rfl⟩
theorem ej.al {H:Hp}(e:E):∀(n:Nat) (u v:V),e.dep + 2<=n->ej H u e->ej H v e->Al H n u v:=by
 induction e with
 | num i=>
   intro n u v h hu hv
   obtain ⟨m,rfl⟩ : ∃m,n=m + 1 + 1:=⟨n - 2,by have:0 + 2<=n:=h; omega⟩
   obtain ⟨p,rfl,hp⟩:=hu
   obtain ⟨q,rfl,hq⟩:=hv
   refine Al.tup hp hq rfl (by show 2<=900; decide) fun j x y hx hy=>?_
   match j,hx,hy with
   | 0,hx,hy=>cases hx; cases hy; exact .str _
   | 1,hx,hy=>cases hx; cases hy; exact .int _
 | box t x=>
   intro n u v h hu hv
   obtain ⟨m,rfl⟩ : ∃m,n=m + 1 + 1:=⟨n - 2,by have:0 + 2<=n:=h; omega⟩
   obtain ⟨p,rfl,hp⟩:=hu
   obtain ⟨q,rfl,hq⟩:=hv
   refine Al.tup hp hq rfl (by show 2<=900; decide) fun j x y hx hy=>?_
   match j,hx,hy with
   | 0,hx,hy=>cases hx; cases hy; exact .str _
   | 1,hx,hy=>cases hx; cases hy; exact .str _
 | yes=>
   intro n u v h hu hv
   obtain ⟨m,rfl⟩ : ∃m,n=m + 1 + 1:=⟨n - 2,by have:0 + 2<=n:=h; omega⟩
   obtain ⟨p,rfl,hp⟩:=hu
   obtain ⟨q,rfl,hq⟩:=hv
   refine Al.tup hp hq rfl (by show 1<=900; decide) fun j x y hx hy=>?_
   match j,hx,hy with
   | 0,hx,hy=>cases hx; cases hy; exact .str _
 | nt a ih=>
   intro n u v h hu hv
   have h:a.dep + 1 + 2<=n:=h
   obtain ⟨m,rfl⟩ : ∃m,n=m + 1 + 1:=⟨n - 2,by omega⟩
   obtain ⟨x1,⟨p,rfl,hp⟩,ex⟩:=hu
   obtain ⟨y1,⟨q,rfl,hq⟩,ey⟩:=hv
   refine Al.tup hp hq rfl (by show 2<=900; decide) fun j x y hx hy=>?_
   match j,hx,hy with
   | 0,hx,hy=>cases hx; cases hy; exact .str _
   | 1,hx,hy=>cases hx; cases hy; exact ih _ _ _ (by omega) ex ey
 | two k a b iha ihb=>
   intro n u v h hu hv
   have h:max a.dep b.dep + 1 + 2<=n:=h
   obtain ⟨m,rfl⟩ : ∃m,n=m + 1 + 1:=⟨n - 2,by omega⟩
   obtain ⟨x1,x2,⟨p,rfl,hp⟩,ex,ex2⟩:=hu
   obtain ⟨y1,y2,⟨q,rfl,hq⟩,ey,ey2⟩:=hv
   refine Al.tup hp hq rfl (by show 3<=900; decide) fun j x y hx hy=>?_
   match j,hx,hy with
   | 0,hx,hy=>cases hx; cases hy; exact .str _
   | 1,hx,hy=>cases hx; cases hy; exact iha _ _ _ (by omega) ex ey
   | 2,hx,hy=>cases hx; cases hy; exact ihb _ _ _ (by omega) ex2 ey2
theorem aG.al {H:Hp}:∀{e:Np} {u v:V},(∀x∈e.tolds,x.dep<=3)->aG H u e->aG H v e->Al H 32 u v
 | .put x s n,_,_,w,⟨a,⟨p,rfl,hp⟩,ea⟩,⟨b,⟨q,rfl,hq⟩,eb⟩=>Al.tup hp hq rfl (by show 4<=900; decide) fun j x y hx hy=>by
   match j,hx,hy with
   | 0,hx,hy=>cases hx; cases hy; exact .str _
   | 1,hx,hy=>cases hx; cases hy; exact .str _
   | 2,hx,hy=>cases hx; cases hy; exact ej.al _ _ _ _ (by have:=w s (List.mem_cons.mpr (.inr (List.mem_cons.mpr (.inl rfl)))); omega) ea eb
   | 3,hx,hy=>cases hx; cases hy; exact .int _
 | .say c n,_,_,w,⟨a,⟨p,rfl,hp⟩,ea⟩,⟨b,⟨q,rfl,hq⟩,eb⟩=>Al.tup hp hq rfl (by show 3<=900; decide) fun j x y hx hy=>by
   match j,hx,hy with
   | 0,hx,hy=>cases hx; cases hy; exact .str _
   | 1,hx,hy=>cases hx; cases hy; exact ej.al _ _ _ _ (by have:=w c (List.mem_cons.mpr (.inl rfl)); omega) ea eb
   | 2,hx,hy=>cases hx; cases hy; exact .int _
 | .test c n o,_,_,w,⟨a,⟨p,rfl,hp⟩,ea⟩,⟨b,⟨q,rfl,hq⟩,eb⟩=>Al.tup hp hq rfl (by show 4<=900; decide) fun j x y hx hy=>by
   match j,hx,hy with
   | 0,hx,hy=>cases hx; cases hy; exact .str _
   | 1,hx,hy=>cases hx; cases hy; exact ej.al _ _ _ _ (by have:=w c (List.mem_cons.mpr (.inl rfl)); omega) ea eb
   | 2,hx,hy=>cases hx; cases hy; exact .int _
   | 3,hx,hy=>cases hx; cases hy; exact .int _
 | .pick x n,_,_,_,⟨p,rfl,hp⟩,⟨q,rfl,hq⟩=>Al.tup hp hq rfl (by show 3<=900; decide) fun j x y hx hy=>by
   match j,hx,hy with
   | 0,hx,hy=>cases hx; cases hy; exact .str _
   | 1,hx,hy=>cases hx; cases hy; exact .str _
   | 2,hx,hy=>cases hx; cases hy; exact .int _
 | .fin,_,_,_,⟨p,rfl,hp⟩,⟨q,rfl,hq⟩=>Al.tup hp hq rfl (by show 1<=900; decide) fun j x y hx hy=>by
   match j,hx,hy with
   | 0,hx,hy=>cases hx; cases hy; exact .str _
theorem cw.al {H:Hp}{b:Str×Int}{u v:V}(hu:cw H u b)(hv:cw H v b):Al H 32 u v:=by
 obtain ⟨p,rfl,hp⟩:=hu
 obtain ⟨q,rfl,hq⟩:=hv
 refine Al.tup hp hq rfl (by show 2<=900; decide) fun j x y hx hy=>?_
 match j,hx,hy with
 | 0,hx,hy=>cases hx; cases hy; exact .str _
 | 1,hx,hy=>cases hx; cases hy; exact .int _
theorem Al.et {K:D9}{H:Hp}:∀{n:Nat} {x y:V},Al H n x y->ET K H n x y
 | 0,_,_,h=>h.elim
 | n + 1,_,_,.inl ⟨i,rfl,rfl⟩=>ET.refl (.inl rfl)
 | n + 1,_,_,.inr (.inl ⟨s,rfl,rfl⟩)=>ET.refl (.inl rfl)
 | n + 1,_,_,.inr (.inr ⟨a,b,xs,ys,rfl,rfl,.inl ⟨ha,hb⟩,hl,_,h⟩)=>ET.lst (aA.of ha) (aA.of hb) hl fun j x y hx hy=>Al.et (h j x y hx hy)
 | n + 1,_,_,.inr (.inr ⟨a,b,xs,ys,rfl,rfl,.inr ⟨ha,hb⟩,hl,_,h⟩)=>ET.tup (ar.of ha) (ar.of hb) hl fun j x y hx hy=>Al.et (h j x y hx hy)
theorem wW {α:Type}{H:Hp}{F:V->α->Prop}{us vs:List V}{l:List α}(k:∀u v a,a∈l->F u a->F v a->Al H 32 u v)(pu:Paired F us l)(pv:Paired F vs l):∀(i:Nat) (x y:V),us[i]? = some x->vs[i]? = some y->Al H 32 x y:=fun i x y hx hy=>by
 obtain ⟨a,ha,fa⟩:=Paired.get pu hx
 obtain ⟨b,hb,fb⟩:=Paired.get pv hy
 rw [ha] at hb
 cases hb
 exact k x y a (Ef ha) fa fb
/-- what is few,and flat -/
structure Ad (bs:List (Str×Int))(ins:List Str)(nds:List Np):Prop where
 lb:bs.length<=900
 li:ins.length<=900
 ln:nds.length<=900
 n:∀e∈nds,∀x∈e.tolds,x.dep<=3
theorem iA {H:Hp}{B I N B' I' N':Addr}{vb vn vb' vn':List V}{bs:List (Str×Int)}{ins:List Str}{nds:List Np}(wr:Ad bs ins nds)(p1:kK H B I N vb vn bs ins nds)(p2:kK H B' I' N' vb' vn' bs ins nds):∀(j:Nat) (x y:V),[V.ref B,.ref I,.ref N][j]? = some x->[V.ref B',.ref I',.ref N'][j]? = some y->Al H 33 x y:=fun j x y hx hy=>by
 have l1:=Paired.length p1.pb
 have l2:=Paired.length p2.pb
 have l3:=Paired.length p1.pn
 have l4:=Paired.length p2.pn
 have b1:=wr.lb
 have b2:=wr.li
 have b3:=wr.ln
 match j,hx,hy with
 | 0,hx,hy=>cases hx; cases hy; exact Al.lst p1.hB p2.hB (by omega) (by omega) (wW (F:=cw H) (fun u v a _ h1 h2=>cw.al h1 h2) p1.pb p2.pb)
 | 1,hx,hy=>
   cases hx; cases hy
   refine Al.lst p1.hI p2.hI rfl (by rw [Ea]; omega) fun i x y hx hy=>?_
   rw [hx] at hy
   cases hy
   obtain ⟨z,_,rfl⟩:=aT hx
   exact .str _
 | 2,hx,hy=>cases hx; cases hy; exact Al.lst p1.hN p2.hN (by omega) (by omega) (wW (F:=aG H) (fun u v a ha h1 h2=>aG.al (wr.n a ha) h1 h2) p1.pn p2.pn)
theorem ox {H:Hp}{f p B I N B' I' N':Addr}{vb vn vb' vn':List V}{bs:List (Str×Int)}{ins:List Str}{nds:List Np}(wr:Ad bs ins nds)(hf:H f=some (.tup [.ref B,.ref I,.ref N]))(hp:H p=some (.tup [.ref B',.ref I',.ref N']))(p1:kK H B I N vb vn bs ins nds)(p2:kK H B' I' N' vb' vn' bs ins nds):Al H 34 (.ref f) (.ref p):=Al.tup hf hp rfl (by show 3<=900; decide) (iA wr p1 p2)
theorem oy {K:D9}{H:Hp}{f p B I N B' I' N':Addr}{vb vn vb' vn':List V}{bs:List (Str×Int)}{ins:List Str}{nds:List Np}(wr:Ad bs ins nds)(hf:H f=some (.tup [.ref B,.ref I,.ref N]))(hp:H p=some (.tup [.ref B',.ref I',.ref N']))(p1:kK H B I N vb vn bs ins nds)(p2:kK H B' I' N' vb' vn' bs ins nds):RB K H 33 (.ref f) (.ref p) true:=RB.tup (ar.of hf) (ar.of hp) rfl fun j x y hx hy=>(iA wr p1 p2 j x y hx hy).et
def tW (K:D9)(tO:Addr):Sp:=fun vs H Q _=>∃(p1 p2 P':Addr) (ps:List V) (sm:V) (se:E) (bs:List (Str×Int)) (nds nds':List Np) (lv:List Lv),vs=[.ref p1,.ref p2,.ref P']/\wA K tO H p1 p2 P' ps sm se bs nds nds' lv/\bj bs<=9/\lv.length < 64/\∀H',ah H H'->Q (.bl true) H'
def zz (K:D9)(tO:Addr):Sp:=fun vs H Q _=>∃(r p B I N:Addr) (vb vn:List V) (bs:List (Str×Int)) (ins:List Str) (nds:List Np) (wk:Bool) (most longest:Int),vs=[.ref r,.ref p,.bl wk]/\bH H r/\H p=some (.tup [.ref B,.ref I,.ref N])/\uu r H B I N vb vn bs ins nds/\qO most longest bs ins nds/\longest<=40/\(wk=true->most<=9/\longest<=7)/\∀H',Rl r H H'->Q (.bl true) H'
theorem mr.t {ns:List Str}{m:Int}{e:Np}(h:mr ns m e):xm ns e:=⟨h.is,h.td⟩
theorem tL:az ["pot","program","walked","given","found","due","part"] ["pot","program","walked"] (af sCa):=⟨rfl,rfl,rfl,by decide +kernel,rfl,by decide +kernel,by decide +kernel⟩
theorem jQ:(af sCa).names.lookup (Eb "_law_copy")=some .globalImplicit:=by decide +kernel
theorem k6:(af sCa).names.lookup (Eb "_law_due")=some .globalImplicit:=by decide +kernel
theorem dg:(af sCa).names.lookup (Eb "_law_is_made")=some .globalImplicit:=by decide +kernel
theorem eF:(af sCa).names.lookup (Eb "_law_looked_at")=some .globalImplicit:=by decide +kernel
theorem iY:(af sCa).names.lookup (Eb "_law_shows")=some .globalImplicit:=by decide +kernel
theorem cb:(af sCa).names.lookup (Eb "fitted_program")=some .globalImplicit:=by decide +kernel
theorem AG {tO:Addr}{f:Addr}{fd:FuncData}(F:bQ K "_law_case" "_law_case" sCa f fd)(CP0:aC P w K mg base "_law_copy" ["program"] 1 iG)(OV0:aC P w K mg base "fitted_program" ["program"] 11 (oI K tO))(DU0:aC P w K mg base "_law_due" ["program"] 3 we)(IM0:aC P w K mg base "_law_is_made" ["found","due"] 36 (kE 34))(SH:aC P w K mg base "_law_shows" ["one","other","paper"] 55 (tW K tO))(LA:aC P w K mg base "_law_looked_at" ["pot","one","other","paper"] 55 (wg K tO)):aI P w K mg base CX0 56 f fd ["pot","program","walked"] (zz K tO):=by
 refine F.ok tL (fun vs H Q E h=>?_) (fun cdv A outer s H vs Q E hr h=>?_)
 · obtain ⟨r,p,B,I,N,vb,vn,bs,ins,nds,wk,most,longest,rfl,_⟩:=h
   rfl
 · obtain ⟨r,p,B,I,N,vb,vn,bs,ins,nds,wk,most,longest,rfl,hre,hp,pd,ok,lg,wks,q⟩:=h
   have CP:=CP0.mono (show 1<=55 by omega)
   have OV:=OV0.mono (show 11<=55 by omega)
   have DU:=DU0.mono (show 3<=55 by omega)
   have IM:=IM0.mono (show 36<=55 by omega)
   have vnl:=Paired.length pd.pn
   have n1:=ok.one
   have n40:nds.length<=40:=by have:=ok.few; omega
   have l4:=ok.bx.l4
   have inn:jd nds:=fun e he=>(ok.nd e he).ld
   have n0:0 < nds.length:=by omega
   have tl9:=ue inn n0
   refine cu ⟨_,(Ih (Io 3 tL.nd (Il CP hr jQ (Ic (Ib 1) Ie)))
     (Ih (Io 4 tL.nd (Il OV hr cb (Ic (Ib 3) Ie)))
     (Ih (Io 5 tL.nd (Il DU hr k6 (Ic (Ib 1) Ie)))
     (Ih (Iv (IJ (Jc (IW (IF (Il IM hr dg (Ic (Ib 4) (Ic (Ib 5) Ie))))) (Je (Iu (Jo (m:=33) (bz hr _ (by decide))) (Ib 3) (Ib 1))))) (Ij (Im IK)) Iw)
     (Ih (Iv (IJ (IY (IF (Ib 2)) (IZ (IW (IF (Il SH hr iY (Ic (Ib 1) (Ic (Ib 5) (Ic (Ii Ik (Ib 4) Ig) Ie))))))))) (Ij (Im IK)) Iw)
     (Ih (Iv (IW (IF (Il LA hr eF (Ic (Ib 0) (Ic (Ib 1) (Ic (Ib 5) (Ic (Ii Ik (Ib 4) Ig) Ie))))))) (Ij (Im IK)) Iw)
     (Ih (IT (L3.iT (Ii Ik (Ib 4) Ig)) (Iq 6 tL.nd) (Ij (Jd (Jm (Ib 6) (Ic I9 Ie)))))
     (Ih (Jd (L3.clear (Ii Ik (Ib 4) Ig)))
     (Ij (Im (I0 (IL (L3.wN (m:=33) (bz hr _ (by decide))) (Ib 3) (Ib 1)) (Ja (Il IM hr dg (Ic (Il OV hr cb (Ic (Ib 3) Ie)) (Ic (Ib 5) Ie))))))))))))))),?_⟩
   refine ao fun Rk kR=>?_
   refine ⟨_,rfl,p,B,I,N,vb,_,vn,rfl,hp,pd.hB,pd.hI,pd.hN,fun p1 B1 I1 N1 H3 s3 gp1 gB1 gI1 gN1 nB1 nI1 nN1=>?_⟩
   refine aj ?_
   refine kR _ _ ?_
   clear kR
   refine aq [some (.ref r),some (.ref p),some (.bl wk),some (.ref p1),none,none,none] rfl ?_
   refine ao fun Rk kR=>?_
   have pt3:kK H3 B I N vb vn bs ins nds:=⟨s3 _ _ pd.hB,s3 _ _ pd.hI,s3 _ _ pd.hN,Paired.mapP pd.pb fun _ _ z=>Tp.keep (ah.tk s3) z,Paired.mapP pd.pn fun _ _ z=>aG.keep (ah.tk s3) z⟩
   have pg3:kK H3 B1 I1 N1 vb vn bs ins nds:=⟨gB1,gI1,gN1,pt3.pb,pt3.pn⟩
   have hp3:=s3 _ _ hp
   have l3:=Rl.of hre s3
   refine ⟨_,rfl,p1,B1,I1,N1,vb,vn,bs,ins,nds,rfl,gp1,pg3,l4,n40,n0,inn,fun q0 p' P' B' I' N' vn' sm se ps lv H4 gq0 td lo=>?_⟩
   refine aj ?_
   refine kR _ _ ?_
   clear kR
   refine aq [some (.ref r),some (.ref p),some (.bl wk),some (.ref p1),some (.ref q0),none,none] rfl ?_
   refine ao fun Rk kR=>?_
   have s4:=td.s
   have pt4:kK H4 B I N vb vn bs ins nds:=⟨s4 _ _ pt3.hB,s4 _ _ pt3.hI,s4 _ _ pt3.hN,Paired.mapP pt3.pb fun _ _ z=>Tp.keep (ah.tk s4) z,Paired.mapP pt3.pn fun _ _ z=>aG.keep (ah.tk s4) z⟩
   refine ⟨_,rfl,p,B,I,N,vb,vn,bs,ins,nds,rfl,s4 _ _ hp3,pt4,(fun e he=>(ok.nd e he).is),inn,n40,n0,fun d F0 us H5 s5 nF0 gd gF0 pu=>?_⟩
   refine aj ?_
   refine kR _ _ ?_
   clear kR
   refine aq [some (.ref r),some (.ref p),some (.bl wk),some (.ref p1),some (.ref q0),some (.ref d),none] rfl ?_
   refine ao fun Rk kR=>?_
   have nb:∀a o,H3 a=some o->a≠B'/\a≠I'/\a≠N'/\a≠P':=fun a o ha=>⟨au ha td.nB,au ha td.nI,au ha td.nN,au ha td.nP⟩
   have ilen:ins.length<=4:=EX (sub_len ok.ind ok.sub) (by rw [Ea]; exact l4)
   have wr0:Ad bs ins nds:=⟨by omega,by omega,by omega,fun e he x hx=>((ok.nd e he).td x hx).2⟩
   have wr1:Ad bs ins (bu nds):=⟨by omega,by omega,by omega,fun e he x hx=>by
     obtain ⟨e0,ls,h2,rfl⟩:=uf inn n0 he
     rw [jw e0 ls] at hx
     exact ((ok.nd e0 h2).td x hx).2⟩
   have keepP:∀{Ha Hb:Hp} {Bx Ix Nx:Addr} {vbx vnx:List V} {ndx:List Np},ah Ha Hb->kK Ha Bx Ix Nx vbx vnx bs ins ndx->kK Hb Bx Ix Nx vbx vnx bs ins ndx:=fun s z=>⟨s _ _ z.hB,s _ _ z.hI,s _ _ z.hN,Paired.mapP z.pb fun _ _ z=>Tp.keep (ah.tk s) z,Paired.mapP z.pn fun _ _ z=>aG.keep (ah.tk s) z⟩
   have pg4:=keepP s4 pg3
   have pt5:=keepP s5 pt4
   have pg5:=keepP s5 pg4
   have pf5:=keepP s5 td.pt
   have pd5:kK H5 B I F0 vb us bs ins (bu nds):=⟨pt5.hB,pt5.hI,gF0,pt5.pb,pu⟩
   have s45:=aa s4 s5
   have gq5:=s5 _ _ gq0
   refine ⟨_,rfl,_,rfl,q0,P',.ref p',.ref d,ps,rfl,gq5,s5 _ _ td.hP,ox wr1 (s5 _ _ td.hp) gd pf5 pd5,fun H6 s6=>⟨_,rfl,iteF' rfl ?_⟩⟩
   have s36:=aa s45 s6
   refine ⟨_,rfl,_,rfl,true,oy wr0 (s36 _ _ gp1) (s36 _ _ hp3) (keepP s36 pg3) (keepP s36 pt3),_,rfl,bh (kR _ _ ?_)⟩
   clear kR
   refine ao fun Rk kR=>?_
   have bt:BR bs:=⟨l4,ok.bx.nd,fun b hb=>(ok.bx.sz b hb).1,fun b hb=>(ok.bx.sz b hb).2⟩
   have pap6:wA K tO H6 p d P' ps sm se bs nds (bu nds) lv:=by
     have s56:=aa s5 s6
     have z1:=keepP s36 pt3
     have z2:=keepP s6 pd5
     exact ⟨⟨B,I,N,vb,vn,ins,s36 _ _ hp3,z1.hB,z1.pb,z1.hN,z1.pn,z1.hI⟩,⟨B,I,F0,vb,us,ins,s6 _ _ gd,z2.hB,z2.pb,z2.hN,z2.pn,z2.hI⟩,fun e he=>(ok.nd e he).t,s56 _ _ td.hP,Paired.mapP td.pp fun _ _ z=>bE.keep (ah.tk s56) z,by rw [lo.len]; omega,xy l4 ok.bx.nd (EK.keep (ah.tk s56) td.ek) td.bt,rj inn n0 n40 lo,bt,fun e he=>EK.keep (ah.tk s56) (lo.wt e he)⟩
   have l6:=l3.trans (Rl.of l3.rl s36)
   have gq6:=s6 _ _ gq5
   have fin:∀H7,ah H6 H7->Rk [some (.ref r),some (.ref p),some (.bl wk),some (.ref p1),some (.ref q0),some (.ref d),none] H7:=fun H7 s7=>by
     refine kR _ _ ?_
     clear kR
     refine ao fun Rk kR=>?_
     have l7:=l6.trans (Rl.of l6.rl s7)
     have pap7:=pap6.rl l6.rl (Rl.of l6.rl s7)
     have gq7:=s7 _ _ gq6
     refine ⟨_,rfl,_,rfl,_,rfl,_,rfl,q0,_,_,_,rfl,rfl,ar.of gq7,rfl,r,p,d,P',ps,sm,se,bs,nds,_,_,rfl,l7.rl,pap7,fun H8 l8=>⟨_,rfl,iteF' rfl (kR _ _ ?_)⟩⟩
     clear kR
     refine ao fun Rk kR=>?_
     have s48:=aa s5 (aa s6 s7)
     have reel4:=l3.rl.same s4
     have l48:=(Rl.of reel4 s48).trans l8
     have l38:=(Rl.of l3.rl s4).trans l48
     have lH8:=l7.trans l8
     have tk48:=Rl.tk reel4 l48
     have tk38:=Rl.tk l3.rl l38
     obtain ⟨ra,rb,hr3,_⟩:=id l3.rl
     have nrr:=nb r _ hr3
     have gB8:=l48.k _ _ nrr.1.symm td.pt.hB
     have gI8:=l48.k _ _ nrr.2.1.symm td.pt.hI
     have gN8:=l48.k _ _ nrr.2.2.1.symm td.pt.hN
     have gP8:=l48.k _ _ nrr.2.2.2.symm td.hP
     have gp8:=tk48 _ _ td.hp
     have gq8:=tk48 _ _ gq0
     have vbl:=Paired.length td.pt.pb
     have vn'l:=Paired.length td.pt.pn
     have tne:∀{a:Addr} {xs:List V},H8 a=some (.tup xs)->a≠B'/\a≠I'/\a≠N'/\a≠P':=fun e=>⟨cC e gB8 (fun z=>nomatch z),cC e gI8 (fun z=>nomatch z),cC e gN8 (fun z=>nomatch z),cC e gP8 (fun z=>nomatch z)⟩
     refine ⟨_,rfl,q0,_,_,_,rfl,rfl,ar.of gq8,rfl,p',rfl,⟨_,ar.of gp8⟩,?_⟩
     refine nX (xs:=[.ref B',.ref I',.ref N']) (fun i σ Hx=>(∃o9,σ=[some (.ref r),some (.ref p),some (.bl wk),some (.ref p1),some (.ref q0),some (.ref d),o9])/\(∀a o,a≠B'->a≠I'->a≠N'->H8 a=some o->Hx a=some o)/\(∀a,(a=B'\/a=I'\/a=N')->∃xs,Hx a=some (.lst xs)/\xs.length<=330 + i)) ⟨⟨_,rfl⟩,(fun a o _ _ _ z=>z),fun a ha=>?_⟩ (fun i σ Hx _ z=>ar.of (z.2.1 _ _ (tne gp8).1 (tne gp8).2.1 (tne gp8).2.2.1 gp8)) (fun i x0 σ Hx hx z=>?_) (fun σ Hq z=>?_)
     · rcases ha with rfl | rfl | rfl
       · exact ⟨_,gB8,by omega⟩
       · exact ⟨_,gI8,by rw [Ea]; omega⟩
       · exact ⟨_,gN8,by omega⟩
     · obtain ⟨⟨o9,rfl⟩,kx,lx⟩:=z
       obtain ⟨a,rfl,ha⟩ : ∃a,x0=.ref a/\(a=B'\/a=I'\/a=N'):=by
         match i,hx with
         | 0,hx=>cases hx; exact ⟨_,rfl,.inl rfl⟩
         | 1,hx=>cases hx; exact ⟨_,rfl,.inr (.inl rfl)⟩
         | 2,hx=>cases hx; exact ⟨_,rfl,.inr (.inr rfl)⟩
       have i3:i < 3:=(List.getElem?_eq_some_iff.mp hx).1
       obtain ⟨xs,gx,xl⟩:=lx a ha
       refine aj ?_
       refine aq [some (.ref r),some (.ref p),some (.bl wk),some (.ref p1),some (.ref q0),some (.ref d),some (.ref a)] rfl ?_
       refine ⟨_,rfl,.inl ⟨rfl,_,aA.of gx⟩,a,_,_,rfl,rfl,gx,ax (by omega),⟨_,rfl⟩,fun b o n1 n2 n3 hb=>?_,fun b hb=>?_⟩
       · have:b≠a:=by rcases ha with rfl | rfl | rfl <;> assumption
         rw [aB this]
         exact kx b o n1 n2 n3 hb
       · by_cases e:b=a
         · subst e
           exact ⟨_,ae,by rw [Eh]; show _ + 1<=_; omega⟩
         · rw [aB e]
           obtain ⟨ys,gy,yl⟩:=lx b hb
           exact ⟨ys,gy,by omega⟩
     obtain ⟨⟨o9,rfl⟩,kx,lx⟩:=z
     refine kR _ _ ?_
     clear kR
     refine ao fun Rk kR=>?_
     have gqq:=kx _ _ (tne gq8).1 (tne gq8).2.1 (tne gq8).2.2.1 gq8
     have gPq:=kx _ _ td.PB td.PI td.PN gP8
     refine ⟨_,rfl,q0,_,_,_,rfl,rfl,ar.of gqq,rfl,.inl ⟨rfl,_,aA.of gPq⟩,P',_,rfl,rfl,gPq,?_⟩
     have k810:∀a o,(a≠B'/\a≠I'/\a≠N'/\a≠P')->H8 a=some o->(upd Hq P' (.lst [])) a=some o:=fun a o n z=>by rw [aB n.2.2.2]; exact kx a o n.1 n.2.1 n.2.2.1 z
     generalize upd Hq P' (.lst [])=H10 at k810 ⊢
     refine kR _ _ ?_
     clear kR
     have tk810:TK H8 H10:=fun a xs z=>k810 a _ (tne z) z
     have tk310:=tk38.trans tk810
     have nF:=fun a (o:HO) (z:H4 a=some o)=>au z nF0
     have nFs:F0≠B'/\F0≠I'/\F0≠N'/\F0≠P':=⟨(nF _ _ td.pt.hB).symm,(nF _ _ td.pt.hI).symm,(nF _ _ td.pt.hN).symm,(nF _ _ td.hP).symm⟩
     have F0r:=reel4.ne nF0
     have g310:∀a o,a≠r->H3 a=some o->H10 a=some o:=fun a o n z=>k810 a o (nb a o z) (l38.k _ _ n z)
     have kR4:∀{Bx Ix Nx:Addr} {vnx:List V},Bx≠r->Ix≠r->Nx≠r->kK H3 Bx Ix Nx vb vnx bs ins nds->kK H10 Bx Ix Nx vb vnx bs ins nds:=fun n1 n2 n3 z=>⟨g310 _ _ n1 z.hB,g310 _ _ n2 z.hI,g310 _ _ n3 z.hN,Paired.mapP z.pb fun _ _ z=>Tp.keep tk310 z,Paired.mapP z.pn fun _ _ z=>aG.keep tk310 z⟩
     have pg10:=kR4 (hre.ne nB1) (hre.ne nI1) (hre.ne nN1) pg3
     have pt10:=kR4 pd.nB pd.nI pd.nN pt3
     have reel5:=reel4.same s5
     have l58:=(Rl.of reel5 (aa s6 s7)).trans l8
     have tk510:=(Rl.tk reel5 l58).trans tk810
     have pd10:kK H10 B I F0 vb us bs ins (bu nds):=⟨pt10.hB,pt10.hI,k810 _ _ nFs (l58.k _ _ F0r gF0),pt10.pb,Paired.mapP pu fun _ _ z=>aG.keep tk510 z⟩
     have gd10:=tk510 _ _ gd
     have l10:Rl r H H10:=by
       obtain ⟨r1,r2,hr8,_⟩:=id lH8.rl
       exact ⟨⟨r1,r2,k810 _ _ nrr hr8,EG⟩,fun a o n z=>g310 a o n (l3.k _ _ n z)⟩
     refine ⟨_,rfl,_,rfl,true,oy wr0 (tk310 _ _ gp1) (tk310 _ _ hp3) pg10 pt10,_,rfl,bG ?_⟩
     refine ⟨_,rfl,p1,B1,I1,N1,vb,vn,bs,ins,nds,rfl,tk310 _ _ gp1,pg10,l4,n40,n0,inn,fun q1 p2' P2' B2' I2' N2' vn2' sm2 se2 ps2 lv2 H11 gq1 td2 _=>?_⟩
     exact ⟨_,rfl,q1,P2',.ref p2',.ref d,ps2,rfl,gq1,td2.hP,ox wr1 td2.hp (td2.s _ _ gd10) td2.pt (keepP td2.s pd10),fun H12 s12=>q _ (l10.trans (Rl.of l10.rl (aa td2.s s12)))⟩
   cases wk with
   | false=>exact ⟨_,rfl,_,rfl,iteF' rfl (fin _ (same_refl _))⟩
   | true=>
     have w2:=wks rfl
     have pr:=ok.bx.pr
     have fw:=ok.few
     refine ⟨_,rfl,_,rfl,iteT' rfl ?_⟩
     refine ⟨_,rfl,_,rfl,_,rfl,q0,_,_,_,rfl,rfl,ar.of gq6,rfl,p,d,P',ps,sm,se,bs,nds,_,_,rfl,pap6,by omega,?_,fun H7 s7=>⟨_,rfl,iteF' rfl (fin _ s7)⟩⟩
     rw [lo.len]
     omega
theorem xN {tO:Addr}(s:Src K mg "_law_case" sCa)(CP0:aC P w K mg base "_law_copy" ["program"] 1 iG)(OV0:aC P w K mg base "fitted_program" ["program"] 11 (oI K tO))(DU0:aC P w K mg base "_law_due" ["program"] 3 we)(IM0:aC P w K mg base "_law_is_made" ["found","due"] 36 (kE 34))(SH:aC P w K mg base "_law_shows" ["one","other","paper"] 55 (tW K tO))(LA:aC P w K mg base "_law_looked_at" ["pot","one","other","paper"] 55 (wg K tO)):aC P w K mg base "_law_case" ["pot","program","walked"] 56 (zz K tO):=
 let ⟨f,fd,F,m⟩:=s
 ⟨f,fd,AG F CP0 OV0 DU0 IM0 SH LA,F.kp,iW F fun _ _ _ _ _ _ _ _ _=>rfl,m⟩
end
end TW
set_option Elab.async false
set_option linter.all false
set_option maxRecDepth 100000
set_option exponentiation.threshold 4000
set_option maxHeartbeats 1000000
namespace TW
open PySem L2
section
variable {P:Program}{w:World}{K:D9}{mg:Str->Option Value}{base:Heap}
abbrev sSh:Stmt:=top 38
/-! ### _law_shows -/
theorem tH {K:D9}{H:Hp}{n:Nat}{a c:Addr}{ms ys:List Int}(ha:H a=some (.tup (ms.map V.int)))(hb:H c=some (.tup (ys.map V.int))):∃b,RB K H n (.ref a) (.ref c) b/\(b=true->ms=ys):=by
 refine ⟨_,⟨a,c,_,_,rfl,rfl,.inr (.inr ⟨fun j=>decide (ms[j]? = ys[j]?),ar.of ha,ar.of hb,fun j x y hx hy=>?_,rfl⟩)⟩,fun h=>?_⟩
 · obtain ⟨x0,hx0,rfl⟩:=aT hx
   obtain ⟨y0,hy0,rfl⟩:=aT hy
   have e:decide (ms[j]? = ys[j]?)=ft (.int x0) (.int y0):=by
     rw [hx0,hy0]
     by_cases e:x0=y0 <;> simp [e,ft]
   show EB K H n (.int x0) (.int y0) (decide (ms[j]? = ys[j]?))
   rw [e]
   exact .flat rfl rfl
 · rw [Fc,Ea,Ea] at h
   have hl:ms.length=ys.length:=by simpa using h.2
   apply List.ext_getElem?
   intro j
   by_cases hj:j < ms.length
   · exact of_decide_eq_true (List.all_eq_true.mp h.1 j (List.mem_range.mpr (by omega)))
   · rw [FQ (by omega),FQ (by omega)]
def pZ (H:Hp)(a:Addr):Bool:=match H a with
 | some (.tup [.int p,.int q])=>ft (.int p) (.int 0) && (ft (.int q) (.int 0) && true)
 | _=>false
theorem Ak {K:D9}{H:Hp}{a z:Addr}{p q:Int}(hne:a≠z)(ha:H a=some (.tup [.int p,.int q]))(hz:H z=some (.tup [.int 0,.int 0])):EB K H 1 (.ref a) (.ref z) (pZ H a):=by
 have e:pZ H a=((Ew (min ([V.int p,.int q]).length ([V.int 0,.int 0]).length)).all (fun j=>if j=0 then ft (.int p) (.int 0) else ft (.int q) (.int 0)) && ([V.int p,.int q]).length == ([V.int 0,.int 0]).length):=by
   unfold pZ
   rw [ha]
   show _=((ft (.int p) (.int 0) && (ft (.int q) (.int 0) && true)) && true)
   rw [HJ]
 rw [e]
 refine EB.tup hne (ar.of ha) (ar.of hz) fun j x y hx hy=>?_
 match j,hx,hy with
 | 0,hx,hy=>cases hx; cases hy; exact .flat rfl rfl
 | 1,hx,hy=>cases hx; cases hy; exact .flat rfl rfl
theorem kz:az ["one","other","paper","there","places","mine","yours","known","p","q","entry"] ["one","other","paper"] (af sSh):=⟨rfl,rfl,rfl,by decide +kernel,rfl,by decide +kernel,by decide +kernel⟩
theorem ie:(af sSh).names.lookup (Eb "_law_begins")=some .globalImplicit:=by decide +kernel
theorem cR:(af sSh).names.lookup (Eb "_law_by_names")=some .globalImplicit:=by decide +kernel
theorem eJ:(af sSh).names.lookup (Eb "_law_by_places")=some .globalImplicit:=by decide +kernel
theorem cS:(af sSh).names.lookup (Eb "_law_counting")=some .globalImplicit:=by decide +kernel
theorem dW:(af sSh).names.lookup (Eb "_law_every")=some .globalImplicit:=by decide +kernel
theorem jW:(af sSh).names.lookup (Eb "_law_well")=some .globalImplicit:=by decide +kernel
theorem mI:(af sSh).names.lookup (Eb "sorted")=some .globalImplicit:=by decide +kernel
theorem AR {tO:Addr}{f:Addr}{fd:FuncData}(F:bQ K "_law_shows" "_law_shows" sSh f fd)(m_sorted:mg "sorted"=none)(BN0:aC P w K mg base "_law_by_names" ["program","word","worths"] 1 iF)(EV0:aC P w K mg base "_law_every" ["program"] 1 tU)(BE0:aC P w K mg base "_law_begins" ["program","worths"] 1 tS)(BP0:aC P w K mg base "_law_by_places" ["paper"] 1 (m5 tO))(CT0:aC P w K mg base "_law_counting" ["there","p","q","known"] 52 (iH K tO))(WE0:aC P w K mg base "_law_well" ["one","other","there_are","entry","mine","yours","known"] 53 (lZ K tO)):aI P w K mg base CX0 55 f fd ["one","other","paper"] (tW K tO):=by
 refine F.ok kz (fun vs H Q E h=>?_) (fun cdv A outer s H vs Q E hr h=>?_)
 · obtain ⟨p1,p2,P0,ps,sm,se,bs,nds,nds',lv,rfl,_⟩:=h
   rfl
 · obtain ⟨p1,p2,P0,ps,sm,se,bs,nds,nds',lv,rfl,pap,pr,l64,q⟩:=h
   have BN:=BN0.mono (show 1<=54 by omega)
   have EV:=EV0.mono (show 1<=54 by omega)
   have BE:=BE0.mono (show 1<=54 by omega)
   have BP:=BP0.mono (show 1<=54 by omega)
   have CT:=CT0.mono (show 52<=54 by omega)
   have WE:=WE0.mono (show 53<=54 by omega)
   have l4:=pap.bt.l4
   have l9:=pap.l9
   refine cu ⟨_,(Ih (Io 3 kz.nd (Il BP hr eJ (Ic (Ib 2) Ie)))
     (Ih (Io 4 kz.nd (Iy L3.oX mI m_sorted (by decide +kernel) (Ic (Ib 3) Ie)))
     (Ih (Iv (Iu (L3.sD (m:=1) (bz hr _ (by decide))) (IA (Ic Ig (Ic Ig Ie))) (Ib 4) (by rfl)) (Ij (Im IK)) Iw)
     (Ih (IT (IQ (Il EV hr dW (Ic (Ib 0) Ie))) (Iq 5 kz.nd) (Ij (IT (IQ (Il EV hr dW (Ic (Ib 1) Ie))) (Iq 6 kz.nd) (Ih (Io 7 kz.nd (Il BN hr cR (Ic (Ib 0) (Ic Ip (Ic (Ib 5) Ie)))))
     (Ih (Jd (JJ (bz hr _ (by decide)) (Ib 7) (Il BN hr cR (Ic (Ib 1) (Ic Ip (Ic (Ib 6) Ie))))))
     (Ih (IT (IQ (Ib 4)) (IU 2 (IC (Iq 8 kz.nd) (IC (Iq 9 kz.nd) IV))) (Ih (Io 10 kz.nd (Il CT hr cS (Ic (Ib 3) (Ic (Ib 8) (Ic (Ib 9) (Ic (Ib 7) Ie))))))
     (Ij (Iv (Iu L3.kq (Ib 10) I9) (Ij (Iv (IW (IF (Il WE hr jW (Ic (Ib 0) (Ic (Ib 1) (Ic (Ib 3) (Ic (Ib 10) (Ic (Ib 5) (Ic (Ib 6) (Ic (Ib 7) Ie)))))))))) (Ij (Im IK)) Iw)) Iw))))
     (Ij (Iv (IJ (IY (Iu (L3.wN (m:=2) (bz hr _ (by decide))) (Ib 5) (Ib 6)) (IZ (IF (Il BE hr ie (Ic (Ib 0) (Ic (Ib 5) Ie))))))) (Ij (Iv (Iu Jh (Il CT hr cS (Ic (Ib 3) (Ic Ig (Ic Ig (Ic (Ib 7) Ie))))) I9) (Ij (Im IK)) Iw)) Iw))))))))
     (Ij (Im IK)))))),?_⟩
   refine ao fun Rk kR=>?_
   refine ⟨_,rfl,P0,ps,sm,lv,rfl,pap.hP,pap.pp,l9,fun D H1 s1 nD th=>?_⟩
   refine aj ?_
   refine kR _ _ ?_
   clear kR
   refine aq [some (.ref p1),some (.ref p2),some (.ref P0),some (.ref D),none,none,none,none,none,none,none] rfl ?_
   refine ao fun Rk kR=>?_
   obtain ⟨kvs,gD,kl,c1,c2,c3⟩:=th.ex
   refine ⟨_,rfl,D,kvs,rfl,gD,by omega,(fun k hk=>let ⟨e,_,ee⟩:=c3 k hk; ⟨_,_,ee⟩),fun L as nL al ha hb=>?_⟩
   have s2:=ag nL (.lst (as.map V.ref))
   have gL:(upd H1 L (.lst (as.map V.ref))) L=some (.lst (as.map V.ref)):=ae
   generalize upd H1 L (.lst (as.map V.ref))=H2 at s2 gL ⊢
   refine aj ?_
   refine kR _ _ ?_
   clear kR
   refine aq [some (.ref p1),some (.ref p2),some (.ref P0),some (.ref D),some (.ref L),none,none,none,none,none,none] rfl ?_
   refine ao fun Rk kR=>?_
   refine ⟨Ki,fun z hz=>?_⟩
   have s3:=ag hz (.tup [.int 0,.int 0])
   have gz:(upd H2 z (.tup [.int 0,.int 0])) z=some (.tup [.int 0,.int 0]):=ae
   generalize upd H2 z (.tup [.int 0,.int 0])=H3 at s3 gz ⊢
   have s13:=aa s2 s3
   have any0:as.any (pZ H3)=true:=by
     obtain ⟨f0,hf0,e1,e2⟩:=pap.sim.zero
     obtain ⟨v,hv⟩:=c2 f0 hf0
     rw [e1,e2] at hv
     obtain ⟨a,ha0,hat⟩:=hb 0 0 (oQ hv)
     refine List.any_eq_true.mpr ⟨a,ha0,?_⟩
     unfold pZ
     rw [s13 _ _ hat]
     rfl
   refine ⟨_,rfl,L,as,pZ H3,rfl,aA.of (s3 _ _ gL),(fun a haa=>?_),_,rfl,iteF' (by rw [any0]; rfl) (kR _ _ ?_)⟩
   · obtain ⟨p,q,_,hat⟩:=ha a haa
     exact Ak (au (s2 _ _ hat) hz) (s13 _ _ hat) gz
   clear kR
   refine ao fun Rk kR=>?_
   have sH3:=aa s1 s13
   have st3:uo K tO H3 p1 p2 D sm se bs nds nds' lv:=⟨pap.g1.same sH3,pap.g2.same sH3,pap.nt,th.same s13,l9,pap.cn.same sH3,pap.sim,pap.bt,fun e he=>EK.keep (ah.tk sH3) (pap.wt e he)⟩
   have gL3:=s3 _ _ gL
   have as3:∀a∈as,∃p q:Int,H3 a=some (.tup [.int p,.int q]):=fun a haa=>let ⟨p,q,_,hat⟩:=ha a haa; ⟨p,q,s13 _ _ hat⟩
   refine ⟨_,rfl,p1,bs,rfl,st3.g1.bx,pap.bt.sz,by omega,l4,fun M1 xs1 H4 s4 nM1 gM1 xl1 hx1=>?_⟩
   refine ⟨M1,rfl,⟨_,aA.of gM1⟩,?_⟩
   refine bg (xs:=xs1) (fun i σ Hx=>(∃o5 o6 o7 o8 o9 o10,σ=[some (.ref p1),some (.ref p2),some (.ref P0),some (.ref D),some (.ref L),o5,o6,o7,o8,o9,o10])/\ah H4 Hx) ⟨⟨_,_,_,_,_,_,rfl⟩,same_refl _⟩ (fun i σ Hx _ z=>aA.of (z.2 _ _ gM1)) (fun i x0 σ Hx hx z=>?_) (fun σ Hx z=>?_)
   · obtain ⟨⟨o5,o6,o7,o8,o9,o10,rfl⟩,sx⟩:=z
     obtain ⟨ms,⟨am,rfl,gam⟩,msr⟩:=je.keep (ah.tk sx) (hx1 x0 (Ef hx))
     have msl:=msr.len.symm
     have s3x:=aa s4 sx
     have stx:=st3.same s3x
     refine aj ?_
     refine aq [some (.ref p1),some (.ref p2),some (.ref P0),some (.ref D),some (.ref L),some (.ref am),o6,o7,o8,o9,o10] rfl ?_
     refine ⟨_,rfl,p2,bs,rfl,stx.g2.bx,pap.bt.sz,by omega,l4,fun M2 xs2 H5 s5 nM2 gM2 xl2 hx2=>?_⟩
     refine ⟨M2,rfl,⟨_,aA.of gM2⟩,?_⟩
     refine bg (xs:=xs2) (fun j σ Hy=>(∃o6 o7 o8 o9 o10,σ=[some (.ref p1),some (.ref p2),some (.ref P0),some (.ref D),some (.ref L),some (.ref am),o6,o7,o8,o9,o10])/\ah H5 Hy) ⟨⟨_,_,_,_,_,rfl⟩,same_refl _⟩ (fun j σ Hy _ z=>aA.of (z.2 _ _ gM2)) (fun j y0 σ Hy hy z=>?_) (fun σ Hy z=>?_)
     · obtain ⟨⟨o6,o7,o8,o9,o10,rfl⟩,sy⟩:=z
       obtain ⟨ys,⟨ay,rfl,gay⟩,ysr⟩:=je.keep (ah.tk sy) (hx2 y0 (Ef hy))
       have ysl:=ysr.len.symm
       have sxy:=aa s5 sy
       have s3y:=aa s3x sxy
       have bN:=st3.same s3y
       have gamy:=sxy _ _ gam
       refine aj ?_
       refine aq [some (.ref p1),some (.ref p2),some (.ref P0),some (.ref D),some (.ref L),some (.ref am),some (.ref ay),o7,o8,o9,o10] rfl ?_
       refine ao fun Rk kR=>?_
       obtain ⟨B,I,N,vb,hp,hB,pb⟩:=bN.g1.bx.ex
       obtain ⟨B2,I2,N2,vb2,hp2,hB2,pb2⟩:=bN.g2.bx.ex
       refine ⟨_,rfl,_,rfl,p1,B,I,N,am,"mine",vb,bs,ms,rfl,hp,hB,pb,gamy,msl.symm,by omega,fun D1 H6 s6 nD1 gD1=>?_⟩
       refine aj ?_
       refine kR _ _ ?_
       clear kR
       refine aq [some (.ref p1),some (.ref p2),some (.ref P0),some (.ref D),some (.ref L),some (.ref am),some (.ref ay),some (.ref D1),o8,o9,o10] rfl ?_
       refine ao fun Rk kR=>?_
       refine ⟨_,rfl,D1,rfl,.inr ⟨_,.inl gD1⟩,_,rfl,_,rfl,p2,B2,I2,N2,ay,"yours",vb2,bs,ys,rfl,s6 _ _ hp2,s6 _ _ hB2,(Paired.mapP pb2 fun _ _ z=>Tp.keep (ah.tk s6) z),s6 _ _ gay,ysl.symm,(by omega),fun D2 H7 s7 nD2 gD2=>?_⟩
       have DD:D1≠D2:=au gD1 nD2
       have k1:=cB (word:="mine") bs ms msl.symm
       have k2:=cB (word:="yours") bs ys ysl.symm
       have gDz:=s7 _ _ gD1
       have n1:=dN (word:="mine") bs ms msl.symm pap.bt.nd
       have n2:=dN (word:="yours") bs ys ysl.symm pap.bt.nd
       rw [n1] at gDz
       rw [n2] at gD2
       refine ⟨D2,_,_,rfl,gDz,gD2,DD,(by cases bs with | nil=>exact .inr rfl | cons b r=>cases ms with | nil=>simp at msl | cons m r2=>exact .inl (fun z=>nomatch z)),?_,?_⟩
       · have:1000<=sizeLine:=by decide
         omega
       have sy8:=aE (o:=.dT (putAllT (dX "mine" bs ms) (dX "yours" bs ys))) (aa s6 s7) nD1
       have kn:=j9 (H:=upd H7 D1 (.dT (putAllT (dX "mine" bs ms) (dX "yours" bs ys)))) (D:=D1) pap.bt.nd msl.symm ysl.symm (by rw [n1]; exact ae)
       generalize upd H7 D1 (.dT (putAllT (dX "mine" bs ms) (dX "yours" bs ys)))=H8 at sy8 kn ⊢
       refine kR _ _ ?_
       clear kR
       refine ao fun Rk kR=>?_
       have s38:=aa s3y sy8
       have st8:=st3.same s38
       refine ⟨_,rfl,L,rfl,⟨_,aA.of (s38 _ _ gL3)⟩,?_⟩
       refine bg (xs:=as.map V.ref) (fun k σ Hz=>(∃o8 o9 o10,σ=[some (.ref p1),some (.ref p2),some (.ref P0),some (.ref D),some (.ref L),some (.ref am),some (.ref ay),some (.ref D1),o8,o9,o10])/\ah H8 Hz) ⟨⟨_,_,_,rfl⟩,same_refl _⟩ (fun k σ Hz _ z=>aA.of (z.2 _ _ (s38 _ _ gL3))) (fun k w0 σ Hz hw z=>?_) (fun σ Hz z=>?_)
       · obtain ⟨⟨o8,o9,o10,rfl⟩,sz⟩:=z
         obtain ⟨a,haa,rfl⟩:=aT hw
         obtain ⟨p,q',hat⟩:=as3 a (Ef haa)
         have stz:=st8.same sz
         refine ⟨a,_,rfl,ar.of (sz _ _ (s38 _ _ hat)),rfl,_,_,rfl,_,_,rfl,rfl,?_⟩
         refine aq [some (.ref p1),some (.ref p2),some (.ref P0),some (.ref D),some (.ref L),some (.ref am),some (.ref ay),some (.ref D1),some (.int p),some (.int q'),o10] rfl ?_
         refine ao fun Rk kR=>?_
         refine ⟨_,rfl,_,rfl,_,rfl,_,rfl,D,D1,p,q',sm,se,lv,bs,_,rfl,stz.th,l9,stz.cn,kn.same sz,fun hh x6 e6 H9 s9 he6 e61 e62 le6=>?_,fun z H9 s9=>?_⟩
         · have le6':=le6
           obtain ⟨pe6,rfl,hpe6⟩:=le6
           have my:ms=ys:=by
             rw [pap.cn.iff ms ys msl.symm ysl.symm] at hh
             exact of_decide_eq_true hh
           subst my
           refine aj ?_
           refine kR _ _ ?_
           refine aq [some (.ref p1),some (.ref p2),some (.ref P0),some (.ref D),some (.ref L),some (.ref am),some (.ref ay),some (.ref D1),some (.int p),some (.int q'),some (.ref pe6)] rfl ?_
           refine ⟨_,rfl,rfl,_,rfl,?_⟩
           rw [V.ref_non]
           refine bG ?_
           have sz9:=aa sz s9
           have sy9:=aa sy8 sz9
           refine ⟨_,rfl,_,rfl,_,rfl,_,rfl,_,rfl,_,rfl,_,rfl,p1,p2,D,am,ay,D1,.ref pe6,sm,se,bs,nds,nds',lv,e6,ms,_,rfl,stz.same s9,he6,le6',sy9 _ _ gamy,sy9 _ _ gay,msr,kn.same sz9,fun H10 s10=>⟨_,rfl,iteF' rfl ?_⟩⟩
           exact ⟨⟨_,_,_,rfl⟩,aa sz9 s10⟩
         · refine aj ?_
           refine kR _ _ ?_
           refine ⟨_,rfl,rfl,_,rfl,iteF' (by decide) ?_⟩
           exact ⟨⟨_,_,_,rfl⟩,aa sz s9⟩
       obtain ⟨⟨o8,o9,o10,rfl⟩,sz⟩:=z
       refine kR _ _ ?_
       clear kR
       have syz:=aa sy8 sz
       have stz:=st8.same sz
       obtain ⟨b,rb,hb1⟩:=tH (K:=K) (n:=2) (syz _ _ gamy) (syz _ _ gay)
       refine ⟨_,rfl,_,rfl,b,rb,_,rfl,?_⟩
       cases b with
       | false=>exact bh (bh ⟨⟨_,_,_,_,_,rfl⟩,aa sy syz⟩)
       | true=>
         refine bG ?_
         have my:=hb1 rfl
         subst my
         obtain ⟨B,I,N,vb,vn,ins,hp,hB,pb,hN,pn,hI⟩:=stz.g1.ex
         refine ⟨_,rfl,_,rfl,p1,B,I,N,am,vb,bs,ins,ms,rfl,hp,hB,pb,hI,syz _ _ gamy,msl.symm,l4,fun kk H9 s9=>⟨_,rfl,?_⟩⟩
         cases kk with
         | false=>exact bh ⟨⟨_,_,_,_,_,rfl⟩,aa sy (aa syz s9)⟩
         | true=>
           refine bG ?_
           have sz9:=aa sz s9
           have stz9:=stz.same s9
           have hh:se.holds (W2 bs ms ms)=true:=by rw [pap.cn.iff ms ms msl.symm msl.symm]; exact decide_eq_true rfl
           obtain ⟨f0,hf0,e1,e2⟩:=pap.sim.zero
           refine ⟨_,rfl,_,rfl,D,D1,0,0,sm,se,lv,bs,_,rfl,stz9.th,l9,stz9.cn,kn.same sz9,fun _ x6 e6 H10 s10 he6 e61 e62 le6=>?_,fun z=>?_⟩
           · obtain ⟨pe6,rfl,hpe6⟩:=le6
             refine ⟨rfl,_,rfl,?_⟩
             rw [V.ref_non]
             exact bh ⟨⟨_,_,_,_,_,rfl⟩,aa sy (aa syz (aa s9 s10))⟩
           · rcases z with z | z
             · rw [hh] at z
               cases z
             · exact (z f0 hf0 e1 e2).elim
     · obtain ⟨⟨o6,o7,o8,o9,o10,rfl⟩,sy⟩:=z
       exact ⟨⟨_,_,_,_,_,_,rfl⟩,aa sx (aa s5 sy)⟩
   obtain ⟨⟨o5,o6,o7,o8,o9,o10,rfl⟩,sx⟩:=z
   refine kR _ _ ?_
   exact q _ (aa sH3 (aa s4 sx))
theorem xV {tO:Addr}(s:Src K mg "_law_shows" sSh)(m_sorted:mg "sorted"=none)(BN0:aC P w K mg base "_law_by_names" ["program","word","worths"] 1 iF)(EV0:aC P w K mg base "_law_every" ["program"] 1 tU)(BE0:aC P w K mg base "_law_begins" ["program","worths"] 1 tS)(BP0:aC P w K mg base "_law_by_places" ["paper"] 1 (m5 tO))(CT0:aC P w K mg base "_law_counting" ["there","p","q","known"] 52 (iH K tO))(WE0:aC P w K mg base "_law_well" ["one","other","there_are","entry","mine","yours","known"] 53 (lZ K tO)):aC P w K mg base "_law_shows" ["one","other","paper"] 55 (tW K tO):=
 let ⟨f,fd,F,m⟩:=s
 ⟨f,fd,AR F m_sorted BN0 EV0 BE0 BP0 CT0 WE0,F.kp,iW F fun _ _ _ _ _ _ _ _ _=>rfl,m⟩
end
end TW
set_option Elab.async false
set_option linter.all false
set_option maxRecDepth 100000
namespace TW
open PySem L2
/-! ### a def with defaults: dV is the tuple of them -/
/-- a tuple of texts at the top -/
def Ac (K:D9)(mg:Str->Option Value)(x:Str)(xs:List Str):Prop:=∃t,mg x=some (.ref t)/\∀H:Hp,ar K H t (xs.map V.str)
theorem wu {K:D9}{h:Heap}{mg:Str->Option Value}{x:Str}{t:Addr}{od:Option Addr}{sl:Array (Option Value)}{n:Nat}{us:Array Value}{xs:List Str}(X:K.In h)(G:h.Ns mainGlobals mg)(a:PySem.W.nsIn K mainGlobals x=some (some (.ref t)))(l:K.lookup t=some ⟨.type "tuple",od,.seq us n,sl⟩)(b:us.size<=sizeLine)(e:us.toList.length=xs.length)(r:Vals (xs.map V.str) us.toList):Ac K mg x xs:=⟨_,Gw X G a,fun _=>.inr ⟨_,_,_,l,rfl,rfl,b,r⟩⟩
theorem aH {K:D9}{h:Heap}{mg:Str->Option Value}{x:Str}{st:Stmt}{od an:Option Addr}{sl:Array (Option Value)}{oc kV dc pm cd ct:Value}{f:Addr}(X:K.In h)(G:h.Ns mainGlobals mg)(a:PySem.W.nsIn K mainGlobals x=some (some (.ref f)))
   (l:K.lookup f=some ⟨oc,od,.func (Fd x x (bR st) (bJ st) (af st) .none kV dc pm an cd ct),sl⟩) (c:Gn K cd x=true) (k:F1 K (.ref f)=true):Src K mg x st:=⟨_,_,xG l c k,Gw X G a⟩
theorem tw_mk {K:D9}{t:Addr}{vs:List V}{n2:Nat}{od:Option Addr}{sl:Array (Option Value)}{us:Array Value}(lt:K.lookup t=some ⟨.type "tuple",od,.seq us n2,sl⟩)(b:us.size<=sizeLine)(r:Vals vs us.toList):∀H:Hp,ar K H t vs:=fun _=>.inr ⟨_,_,_,lt,rfl,rfl,b,r⟩
def Cm (K:D9)(mg:Str->Option Value)(x:Str)(vs:List V):Prop:=∃t,mg x=some (.ref t)/\∀H:Hp,ar K H t vs
structure Ab (w:World)(K:D9)(mg:Str->Option Value):Prop where
 s_leads_of:Src K mg "leads_of" (top 1)
 s_joined_by:Src K mg "joined_by" (top 4)
 s_all_of:Src K mg "all_of" (top 5)
 s_led_anew:Src K mg "led_anew" (top 8)
 s_with_nodes:Src K mg "with_nodes" (top 9)
 s_boxes_same:Src K mg "boxes_same" (top 10)
 s_all_same:Src K mg "all_same" (top 11)
 s_level_entry:Src K mg "level_entry" (top 12)
 s_idle_next:Src K mg "idle_next" (top 13)
 s_goes_round:Src K mg "goes_round" (top 14)
 s_led_on:Src K mg "led_on" (top 15)
 s_fitted_program:Src K mg "fitted_program" (top 16)
 s_law_next:Src K mg "_law_next" (top 18)
 s_law_pots:Src K mg "_law_pots" (top 19)
 s_law_some_boxes:Src K mg "_law_some_boxes" (top 20)
 s_law_any_sum:Src K mg "_law_any_sum" (top 21)
 s_law_any_condition:Src K mg "_law_any_condition" (top 22)
 s_law_one_node:Src K mg "_law_one_node" (top 23)
 s_law_some_program:Src K mg "_law_some_program" (top 24)
 s_law_copy:Src K mg "_law_copy" (top 25)
 s_law_led:Src K mg "_law_led" (top 26)
 s_law_alike:Src K mg "_law_alike" (top 27)
 s_law_is_made:Src K mg "_law_is_made" (top 28)
 s_law_worth_of:Src K mg "_law_worth_of" (top 29)
 s_law_holds:Src K mg "_law_holds" (top 30)
 s_law_by_names:Src K mg "_law_by_names" (top 31)
 s_law_step:Src K mg "_law_step" (top 32)
 s_law_every:Src K mg "_law_every" (top 33)
 s_law_begins:Src K mg "_law_begins" (top 34)
 s_law_by_places:Src K mg "_law_by_places" (top 35)
 s_law_counting:Src K mg "_law_counting" (top 36)
 s_law_well:Src K mg "_law_well" (top 37)
 s_law_shows:Src K mg "_law_shows" (top 38)
 s_law_idle:Src K mg "_law_idle" (top 39)
 s_law_round:Src K mg "_law_round" (top 40)
 s_law_is_entry:Src K mg "_law_is_entry" (top 41)
 s_law_both:Src K mg "_law_both" (top 42)
 s_law_walked:Src K mg "_law_walked" (top 43)
 s_law_looked_at:Src K mg "_law_looked_at" (top 44)
 s_law_due:Src K mg "_law_due" (top 45)
 s_law_chained:Src K mg "_law_chained" (top 46)
 s_law_case:Src K mg "_law_case" (top 47)
 s_law:Src K mg "law" (top 48)
 c_YES:Ac K mg "YES" ["yes"]
 c_NOUGHT:Cm K mg "NOUGHT" [.str "number",.int 0]
 m_len:mg "len"=none
 m_list:mg "list"=none
 m_range:mg "range"=none
 m_zip:mg "zip"=none
 m_dict:mg "dict"=none
 m_int:mg "int"=none
 m_isinstance:mg "isinstance"=none
 m_bool:mg "bool"=none
 m_tuple:mg "tuple"=none
 m_sorted:mg "sorted"=none
 m_min:mg "min"=none
 m_enumerate:mg "enumerate"=none
 m_all:mg "all"=none
 m_str:mg "str"=none
end TW
set_option Elab.async false
set_option linter.all false
set_option maxRecDepth 100000
set_option exponentiation.threshold 4000
set_option maxHeartbeats 1000000
namespace TW
open PySem L2
section
variable {P:Program}{w:World}{K:D9}{mg:Str->Option Value}{base:Heap}
theorem uE (xs:List V)(n:Nat):cJ xs none (some (n:Int))=xs.take n:=by
 unfold cJ
 have e0:HT.bf xs.length 0 none=0:=rfl
 have e1:HT.bf xs.length xs.length (some (n:Int))=min n xs.length:=HT.dP _ _ _
 rw [e0,e1,FH,FT]
 by_cases h:n<=xs.length
 · rw [Hi h]
 · rw [Nat.min_eq_right (by omega),EL,EI (by omega)]
/-! ### the law -/
abbrev sLaw:Stmt:=top 48
def oM (K:D9):Sp:=fun vs H Q _=>∃(a:Addr) (ns:List Int),vs=[.ref a]/\aA K H a (ns.map V.int)/\ns.length<=63/\∀H',Q (.bl true) H'
/-- pots,all of them -/
structure z8 (H:Hp)(L:Addr)(ps:List Addr):Prop where
 hL:H L=some (.lst (ps.map V.ref))
 hr:∀p∈ps,bH H p
theorem z8.go {H H':Hp}{L r:Addr}{ps:List Addr}(h:z8 H L ps)(hr:r∈ps)(l:Rl r H H'):z8 H' L ps:=by
 refine ⟨l.k _ _ (bT (h.hr r hr) h.hL fun i j e=>?_) h.hL,fun p hp=>?_⟩
 · match ps,e with
   | a :: _,e=>exact nomatch e
 · by_cases e:p=r
   · rw [e]; exact l.rl
   · obtain ⟨a,b,h1,h2⟩:=h.hr p hp
     exact ⟨a,b,l.k _ _ e h1,h2⟩
theorem lV:az ["script","pots","pot","program"] ["script"] (af sLaw):=⟨rfl,rfl,rfl,by decide +kernel,rfl,by decide +kernel,by decide +kernel⟩
theorem dU:(af sLaw).names.lookup (Eb "_law_case")=some .globalImplicit:=by decide +kernel
theorem fD:(af sLaw).names.lookup (Eb "_law_chained")=some .globalImplicit:=by decide +kernel
theorem i6:(af sLaw).names.lookup (Eb "_law_next")=some .globalImplicit:=by decide +kernel
theorem i7:(af sLaw).names.lookup (Eb "_law_pots")=some .globalImplicit:=by decide +kernel
theorem bO:(af sLaw).names.lookup (Eb "_law_some_program")=some .globalImplicit:=by decide +kernel
theorem yB {tO:Addr}{f:Addr}{fd:FuncData}(F:bQ K "law" "law" sLaw f fd)(PO0:aC P w K mg base "_law_pots" ["script"] 1 (kG K))(SP0:aC P w K mg base "_law_some_program" ["pot","most","wide","longest"] 11 kH)(CA0:aC P w K mg base "_law_case" ["pot","program","walked"] 56 (zz K tO))(NX0:aC P w K mg base "_law_next" ["pot","many"] 1 aZ)(CN0:aC P w K mg base "_law_chained" ["pot","program"] 2 tT):aI P w K mg base CX0 65 f fd ["script"] (oM K):=by
 refine F.ok lV (fun vs H Q E h=>?_) (fun cdv A outer s H vs Q E hr h=>?_)
 · obtain ⟨a,ns,rfl,_⟩:=h
   rfl
 · obtain ⟨a,ns,rfl,ha,nl,q⟩:=h
   have PO:=PO0.mono (show 1<=64 by omega)
   have SP:=SP0.mono (show 11<=64 by omega)
   have CA:=CA0.mono (show 56<=64 by omega)
   have NX:=NX0.mono (show 1<=64 by omega)
   have CN:=CN0.mono (show 2<=64 by omega)
   refine cu ⟨_,(Ih (Io 1 lV.nd (Il PO hr i7 (Ic (L3.v9 (Ib 0) Ig) Ie)))
     (Ih (IT (IQ (Ib 1)) (Iq 2 lV.nd) (Ih (Io 3 lV.nd (Il SP hr bO (Ic (Ib 2) (Ic Ig (Ic Ig (Ic Ig Ie))))))
     (Ih (Iv (Iu Iz (Il NX hr i6 (Ic (Ib 2) (Ic Ig Ie))) Ig) (Ij (Io 3 lV.nd (Il CN hr fD (Ic (Ib 2) (Ic (Ib 3) Ie))))) Iw)
     (Ij (Iv (IW (IF (Il CA hr dU (Ic (Ib 2) (Ic (Ib 3) (Ic IK Ie)))))) (Ij (Im IK)) Iw)))))
     (Ij (Im (Il CA hr dU (Ic (Ii IG (Ib 1) Ig) (Ic (Il SP hr bO (Ic (Ii IG (Ib 1) Ig) (Ic Ig (Ic Ig (Ic Ig Ie))))) (Ic IK Ie)))))))),?_⟩
   refine ao fun Rk kR=>?_
   refine ⟨_,rfl,_,rfl,a,_,rfl,ha,fun l hl=>?_⟩
   rw [show (12:Int)=((12:Nat):Int) from rfl,uE,← HG]
   have s1:=ag hl (.lst ((ns.take 12).map V.int))
   have g1:(upd H l (.lst ((ns.take 12).map V.int))) l=some (.lst ((ns.take 12).map V.int)):=ae
   generalize upd H l (.lst ((ns.take 12).map V.int))=H1 at s1 g1 ⊢
   refine ⟨l,ns.take 12,rfl,aA.of g1,by rw [Eo]; omega,fun L ps H2 s2 nL gL p1 p63 nd hps=>?_⟩
   have pt2:z8 H2 L ps:=⟨gL,fun p hp=>(hps p hp).2.2⟩
   refine aj ?_
   refine kR _ _ ?_
   clear kR
   refine aq [some (.ref a),some (.ref L),none,none] rfl ?_
   refine ao fun Rk kR=>?_
   refine ⟨_,rfl,L,rfl,⟨_,aA.of gL⟩,?_⟩
   refine bg (xs:=ps.map V.ref) (fun i σ Hx=>(∃o2 o3,σ=[some (.ref a),some (.ref L),o2,o3])/\z8 Hx L ps) ⟨⟨_,_,rfl⟩,pt2⟩ (fun i σ Hx _ z=>aA.of z.2.hL) (fun i x0 σ Hx hx z=>?_) (fun σ Hx z=>?_)
   · obtain ⟨⟨o2,o3,rfl⟩,pt⟩:=z
     obtain ⟨r,hr0,rfl⟩:=aT hx
     have hrm:=Ef hr0
     refine aj ?_
     refine aq [some (.ref a),some (.ref L),some (.ref r),o3] rfl ?_
     refine ao fun Rk2 kR2=>?_
     refine ⟨_,rfl,r,65536,16,40,rfl,pt.hr r hrm,by decide,by decide,by decide,by decide,by decide,by decide,fun p B I N vb vn bs ins nds H3 l3 hp pd ok=>?_⟩
     refine aj ?_
     refine kR2 _ _ ?_
     clear kR2
     refine aq [some (.ref a),some (.ref L),some (.ref r),some (.ref p)] rfl ?_
     refine ao fun Rk2 kR2=>?_
     have fin:∀(p B I N:Addr) (vb vn:List V) (bs:List (Str×Int)) (ins:List Str) (nds:List Np) (Hy:Hp),Rl r Hx Hy->Hy p=some (.tup [.ref B,.ref I,.ref N])->uu r Hy B I N vb vn bs ins nds->qO 65536 40 bs ins nds->Rk2 [some (.ref a),some (.ref L),some (.ref r),some (.ref p)] Hy:=fun p B I N vb vn bs ins nds Hy ly hp pd ok=>by
       refine kR2 _ _ ?_
       exact ⟨_,rfl,_,rfl,r,p,B,I,N,vb,vn,bs,ins,nds,false,65536,40,rfl,ly.rl,hp,pd,ok,by decide,(fun z=>nomatch z),fun H4 l4=>⟨_,rfl,iteF' rfl ⟨⟨_,_,rfl⟩,pt.go hrm (ly.trans l4)⟩⟩⟩
     refine ⟨_,rfl,r,3,rfl,l3.rl,by decide,by decide,fun k Hk k0 k1 lk=>⟨rfl,_,rfl,?_⟩⟩
     have hpk:=Rl.tk l3.rl lk _ _ hp
     have pdk:=pd.go l3.rl lk
     refine bq (fun _=>?_) (fun _=>?_)
     · refine ⟨_,rfl,_,rfl,r,p,B,I,N,vb,vn,bs,ins,nds,65536,40,rfl,lk.rl,hpk,pdk,ok,by decide,fun p' N' vn' nds' H5 l5 hp' pd' ok'=>?_⟩
       refine aj ?_
       exact fin p' B I N' vb vn' bs ins nds' H5 (l3.trans (lk.trans l5)) hp' pd' ok'
     · exact fin p B I N vb vn bs ins nds Hk (l3.trans lk) hpk pdk ok
   obtain ⟨⟨o2,o3,rfl⟩,pt⟩:=z
   refine kR _ _ ?_
   clear kR
   obtain ⟨r,hr0⟩ : ∃r,ps[0]? = some r:=⟨ps[0],Eg (by omega)⟩
   have hrm:=Ef hr0
   have hat:iV (ps.map V.ref) 0=some (.ref r):=aM (xs:=ps.map V.ref) (j:=0) (by rw [Em,hr0]; rfl)
   refine ⟨_,rfl,L,_,_,_,rfl,rfl,aA.of pt.hL,hat,_,rfl,L,_,_,_,rfl,rfl,aA.of pt.hL,hat,r,9,9,7,rfl,pt.hr r hrm,by decide,by decide,by decide,by decide,by decide,by decide,fun p B I N vb vn bs ins nds H3 l3 hp pd ok=>?_⟩
   exact ⟨r,p,B,I,N,vb,vn,bs,ins,nds,true,9,7,rfl,l3.rl,hp,pd,ok,by decide,(fun _=>⟨by decide,by decide⟩),fun H4 l4=>q _⟩
end
end TW
set_option Elab.async false
set_option linter.all false
set_option maxRecDepth 100000
namespace TW
open PySem L2
theorem xt {P:Program}{w:World}{K:D9}{mg:Str->Option Value}{fa:Addr}(hfa:mg "law"=some (.ref fa))(t:Ab w K mg) :
   ∃fd:FuncData,(∀(s:Shared) (u:Value),BindsTo s fd ⟨[u],[]⟩ [("script",u)])/\∀base:Heap,K.In base->base.Ns mainGlobals mg->aI P w K mg base CX0 65 fa fd ["script"] (oM K):=by
 obtain ⟨f,fd,F,m⟩:=t.s_law
 have e:=hfa.symm.trans m
 cases e
 refine ⟨fd,fun s u=>?_,fun base _ _=>?_⟩
 · obtain ⟨oc,od,kV,doc,pm,an,cdv,ct,osl,rfl,lk,hcd⟩:=F.ex
   exact .of_eq rfl
 obtain ⟨tY,mY,cY⟩:=t.c_YES
 obtain ⟨tO,mO,cO⟩:=t.c_NOUGHT
 have NX:aC P w K mg base "_law_next" ["pot","many"] 1 aZ:=rN t.s_law_next
 have PO:aC P w K mg base "_law_pots" ["script"] 1 (kG K):=rP t.s_law_pots t.m_len
 have SB:=pS t.s_law_some_boxes t.m_min NX
 have SM:=u9 t.s_law_any_sum t.m_len NX
 have CO:=rH t.s_law_any_condition NX (SM 4)
 have NO:=rO t.s_law_one_node t.m_len t.m_int NX (SM 4) (CO 3)
 have SP:=pT t.s_law_some_program t.m_len t.m_range NX SB NO
 have CP:aC P w K mg base "_law_copy" ["program"] 1 iG:=rJ t.s_law_copy t.m_list
 have LD:aC P w K mg base "_law_led" ["node","change"] 1 lY:=u7 t.s_law_led
 have AL:∀n:Nat,aC P w K mg base "_law_alike" ["told","due"] (n + 1) (eX n):=uT t.s_law_alike t.m_isinstance t.m_len t.m_zip t.m_all t.m_bool t.m_int t.m_str t.m_tuple t.m_list
 have IM:=rM t.s_law_is_made t.m_isinstance t.m_len t.m_tuple t.m_list (AL 34)
 have LE:aC P w K mg base "leads_of" ["node"] 1 eZ:=pR t.s_leads_of
 have LA0:aC P w K mg base "led_anew" ["node","leads"] 1 iJ:=rK t.s_led_anew t.m_len t.m_tuple
 have WN:aC P w K mg base "with_nodes" ["program","nodes"] 1 e7:=pU t.s_with_nodes t.m_list
 have J:∀n:Nat,aC P w K mg base "joined_by" ["word","parts"] (n + 1) (df K n):=mL t.s_joined_by t.m_len
 have AO:=pQ t.s_all_of (J 6)
 have BS:=rG t.s_boxes_same mY cY AO
 have AS:=rF t.s_all_same BS
 have LV:aC P w K mg base "level_entry" ["program","place","new_place","condition"] 1 (iK tO):=rL t.s_level_entry mO
 have IN:aC P w K mg base "idle_next" ["node"] 1 eY:=uX t.s_idle_next
 have GR:=uW t.s_goes_round IN
 have LO:=uZ t.s_led_on IN
 have OV:=uV t.s_fitted_program t.m_len t.m_range t.m_enumerate cO AS IN GR LO LA0 LE LV WN
 have WO:∀n:Nat,aC P w K mg base "_law_worth_of" ["told","known"] (n + 1) (fN K n):=xZ t.s_law_worth_of
 have HO:=xR t.s_law_holds t.m_int (WO 30)
 have BN:aC P w K mg base "_law_by_names" ["program","word","worths"] 1 iF:=xJ t.s_law_by_names t.m_dict t.m_zip
 have BO:=xK t.s_law_both BN
 have ST:=xW t.s_law_step t.m_int t.m_zip t.m_tuple BN (WO 30) (HO 20)
 have BP:aC P w K mg base "_law_by_places" ["paper"] 1 (m5 tO):=xM t.s_law_by_places
 have CT:aC P w K mg base "_law_counting" ["there","p","q","known"] 52 (iH K tO):=xO t.s_law_counting (HO 20)
 have WE:=xY t.s_law_well BN (WO 30) ST CT
 have IE:aC P w K mg base "_law_is_entry" ["one","other","entry"] 1 (tV tO):=xS t.s_law_is_entry t.m_isinstance t.m_len t.m_bool t.m_int t.m_str t.m_tuple
 have BE:aC P w K mg base "_law_begins" ["program","worths"] 1 tS:=xI t.s_law_begins t.m_all t.m_zip
 have EV:aC P w K mg base "_law_every" ["program"] 1 tU:=xQ t.s_law_every t.m_range
 have WA:=xX t.s_law_walked t.m_int t.m_tuple t.m_range NX BO ST CT WE
 have LA:=xT t.s_law_looked_at t.m_all t.m_len t.m_tuple t.m_range NX BO CT WE IE BP WA
 have LI:aC P w K mg base "_law_idle" ["node"] 1 iI:=uY t.s_law_idle
 have RO:=xU t.s_law_round t.m_len t.m_range LI
 have DU:=xP t.s_law_due t.m_len t.m_range RO LI LD
 have CN:=uU t.s_law_chained t.m_len t.m_list t.m_range NX
 have SH:aC P w K mg base "_law_shows" ["one","other","paper"] 55 (tW K tO):=xV t.s_law_shows t.m_sorted BN EV BE BP CT WE
 have CA:=xN t.s_law_case CP OV DU IM SH LA
 exact yB F PO SP CA NX CN
end TW
set_option Elab.async false
set_option linter.all false
set_option maxRecDepth 100000
namespace TW
open PySem L2
theorem walk {l:PySem.W.OpenLaw}{q:Program}{loose:List Str}{XP:(Str->Option Value)->Heap->Prop}{YP:World->Heap->Prop}{d:DefRec}{K:Params->D9}(hn:l.most=some 63)(hdf:d.params.defaults=[])
   (hY:∀(w:World) (h:Heap),YP w h->(K w.params).In h)
   (F:∀(w:World) (mg:Str->Option Value) (fa:Addr) (h:Heap),(K w.params).In h->h.Ns mainGlobals mg->mg d.name=some (.ref fa) ->
     ∃fd:FuncData,(∀(s:Shared) (u:Value),BindsTo s fd ⟨[u],[]⟩ [("script",u)])/\∀base:Heap,(K w.params).In base->base.Ns mainGlobals mg->aI l.prog w (K w.params) mg base CX0 65 fa fd ["script"] (oM (K w.params))) :
   PySem.W.WalkO q loose XP YP l.row.toRowW d [] (fun f vs=>PySem.call f vs):=
 L2.walk_of (n:=63) (k:=65) (x:="script") (CX:=fun _=>CX0) (sp:=fun w=>oM (K w.params)) hn (by decide) hdf ⟨rfl,by decide,by decide⟩ hY F (fun _ _ a ns hl _ hS=>⟨a,ns,rfl,hS,hl,fun _=>rfl⟩) fun _ _ _ _ _ z=>z
end TW
def PySem.W.Fast.tw10011014986179595045:Nat:=0
def PySem.W.Fast.tw10020463331567169727:Nat:=0
def PySem.W.Fast.tw10125721963567155161:Nat:=0
def PySem.W.Fast.tw10175845879642231900:Nat:=0
def PySem.W.Fast.tw10236427533204827905:Nat:=0
def PySem.W.Fast.tw10261484297775300739:Nat:=0
def PySem.W.Fast.tw10420357667529850029:Nat:=0
def PySem.W.Fast.tw10607719777803902378:Nat:=0
def PySem.W.Fast.tw1061415529063247810:Nat:=0
def PySem.W.Fast.tw10757613423402229071:Nat:=0
def PySem.W.Fast.tw10944720400290691145:Nat:=0
def PySem.W.Fast.tw10976142388376148002:Nat:=0
def PySem.W.Fast.tw11013420549763547699:Nat:=0
def PySem.W.Fast.tw11014172632259309517:Nat:=0
def PySem.W.Fast.tw11028310643142521249:Nat:=0
def PySem.W.Fast.tw11152305184631135344:Nat:=0
def PySem.W.Fast.tw11158636939177841907:Nat:=0
def PySem.W.Fast.tw1123683367480866517:Nat:=0
def PySem.W.Fast.tw11299535017207339108:Nat:=0
def PySem.W.Fast.tw11377663308979045501:Nat:=0
def PySem.W.Fast.tw11479255406472250963:Nat:=0
def PySem.W.Fast.tw11549623500375584892:Nat:=0
def PySem.W.Fast.tw11549702590911991716:Nat:=0
def PySem.W.Fast.tw11607763991841985997:Nat:=0
def PySem.W.Fast.tw11626833933969124576:Nat:=0
def PySem.W.Fast.tw11870722386299688583:Nat:=0
def PySem.W.Fast.tw11887048899456498498:Nat:=0
def PySem.W.Fast.tw11983152568399169501:Nat:=0
def PySem.W.Fast.tw12075247097905948504:Nat:=0
def PySem.W.Fast.tw12091442299595565586:Nat:=0
def PySem.W.Fast.tw12094926072337956047:Nat:=0
def PySem.W.Fast.tw12177864307503677293:Nat:=0
def PySem.W.Fast.tw12547241901361049093:Nat:=0
def PySem.W.Fast.tw12615982267295892212:Nat:=0
def PySem.W.Fast.tw12645983527640460372:Nat:=0
def PySem.W.Fast.tw12676026456385543967:Nat:=0
def PySem.W.Fast.tw12696220615049730388:Nat:=0
def PySem.W.Fast.tw12782728922801030684:Nat:=0
def PySem.W.Fast.tw1284765506185738714:Nat:=0
def PySem.W.Fast.tw12890928152896237984:Nat:=0
def PySem.W.Fast.tw12896381398842733581:Nat:=0
def PySem.W.Fast.tw12918854923458329237:Nat:=0
def PySem.W.Fast.tw13007959751875347736:Nat:=0
def PySem.W.Fast.tw13022395974469324249:Nat:=0
def PySem.W.Fast.tw13029792222829012939:Nat:=0
def PySem.W.Fast.tw13032383379063109919:Nat:=0
def PySem.W.Fast.tw1307235275364677690:Nat:=0
def PySem.W.Fast.tw13094758739855071637:Nat:=0
def PySem.W.Fast.tw13107108627680235041:Nat:=0
def PySem.W.Fast.tw13113010610425092883:Nat:=0
def PySem.W.Fast.tw13114752319281327397:Nat:=0
def PySem.W.Fast.tw13146726036258919021:Nat:=0
def PySem.W.Fast.tw13250797604870035541:Nat:=0
def PySem.W.Fast.tw13252934449107804440:Nat:=0
def PySem.W.Fast.tw13333686046956013686:Nat:=0
def PySem.W.Fast.tw13352451108454738823:Nat:=0
def PySem.W.Fast.tw13392738440286487879:Nat:=0
def PySem.W.Fast.tw13433186919229177038:Nat:=0
def PySem.W.Fast.tw13461728856613832700:Nat:=0
def PySem.W.Fast.tw13472097804423159228:Nat:=0
def PySem.W.Fast.tw1354564424349643119:Nat:=0
def PySem.W.Fast.tw1372542968192760795:Nat:=0
def PySem.W.Fast.tw13839470134421605167:Nat:=0
def PySem.W.Fast.tw13919146907851804087:Nat:=0
def PySem.W.Fast.tw13925666650291153788:Nat:=0
def PySem.W.Fast.tw14068440314820537522:Nat:=0
def PySem.W.Fast.tw14105038571701502940:Nat:=0
def PySem.W.Fast.tw14114728696632703313:Nat:=0
def PySem.W.Fast.tw14121865615448576510:Nat:=0
def PySem.W.Fast.tw1429231272816092932:Nat:=0
def PySem.W.Fast.tw14518608780962343682:Nat:=0
def PySem.W.Fast.tw14604148560317475416:Nat:=0
def PySem.W.Fast.tw14708187098927948041:Nat:=0
def PySem.W.Fast.tw14728015317290537383:Nat:=0
def PySem.W.Fast.tw14731692878023119278:Nat:=0
def PySem.W.Fast.tw14818275572004680828:Nat:=0
def PySem.W.Fast.tw14876878092499528817:Nat:=0
def PySem.W.Fast.tw14920467992493983726:Nat:=0
def PySem.W.Fast.tw14994040391366406647:Nat:=0
def PySem.W.Fast.tw14996250954951960637:Nat:=0
def PySem.W.Fast.tw15163886025996545503:Nat:=0
def PySem.W.Fast.tw15232984896465642719:Nat:=0
def PySem.W.Fast.tw15283960761647440437:Nat:=0
def PySem.W.Fast.tw15435650730957495349:Nat:=0
def PySem.W.Fast.tw15492253296774557822:Nat:=0
def PySem.W.Fast.tw15515562066893338034:Nat:=0
def PySem.W.Fast.tw15516141042679219812:Nat:=0
def PySem.W.Fast.tw15565431488742323967:Nat:=0
def PySem.W.Fast.tw15831211052786603657:Nat:=0
def PySem.W.Fast.tw15847811556900111306:Nat:=0
def PySem.W.Fast.tw1585673523173189405:Nat:=0
def PySem.W.Fast.tw15939635027649755453:Nat:=0
def PySem.W.Fast.tw16008632626362966553:Nat:=0
def PySem.W.Fast.tw16030682216104324366:Nat:=0
def PySem.W.Fast.tw16150600717873808797:Nat:=0
def PySem.W.Fast.tw16157584113367261384:Nat:=0
def PySem.W.Fast.tw16231479034030342193:Nat:=0
def PySem.W.Fast.tw16237406401975368708:Nat:=0
def PySem.W.Fast.tw16371353927040849953:Nat:=0
def PySem.W.Fast.tw164224330565848996:Nat:=0
def PySem.W.Fast.tw16424855962860781915:Nat:=0
def PySem.W.Fast.tw16524544358155680399:Nat:=0
def PySem.W.Fast.tw16566842123785458303:Nat:=0
def PySem.W.Fast.tw16657651505347922756:Nat:=0
def PySem.W.Fast.tw16776133666692303176:Nat:=0
def PySem.W.Fast.tw16877857050719851704:Nat:=0
def PySem.W.Fast.tw16923648559246135093:Nat:=0
def PySem.W.Fast.tw1709336914761953804:Nat:=0
def PySem.W.Fast.tw17194138260797384288:Nat:=0
def PySem.W.Fast.tw17387640942413358428:Nat:=0
def PySem.W.Fast.tw17416019247295782990:Nat:=0
def PySem.W.Fast.tw17576430708107164651:Nat:=0
def PySem.W.Fast.tw17647797121682115528:Nat:=0
def PySem.W.Fast.tw17680120439491414695:Nat:=0
def PySem.W.Fast.tw17777854850735789512:Nat:=0
def PySem.W.Fast.tw17810226097537865413:Nat:=0
def PySem.W.Fast.tw17870128342354116790:Nat:=0
def PySem.W.Fast.tw17888361906933702513:Nat:=0
def PySem.W.Fast.tw17933903610215266487:Nat:=0
def PySem.W.Fast.tw17955021229988950791:Nat:=0
def PySem.W.Fast.tw1800468162227817914:Nat:=0
def PySem.W.Fast.tw18013439342083726684:Nat:=0
def PySem.W.Fast.tw18273549331180013012:Nat:=0
def PySem.W.Fast.tw18337161491551372620:Nat:=0
def PySem.W.Fast.tw18361293048477081123:Nat:=0
def PySem.W.Fast.tw1837688818997561373:Nat:=0
def PySem.W.Fast.tw1849906025115199432:Nat:=0
def PySem.W.Fast.tw2099878448995844614:Nat:=0
def PySem.W.Fast.tw2114444585154435964:Nat:=0
def PySem.W.Fast.tw2123466215885253241:Nat:=0
def PySem.W.Fast.tw2224528868572721731:Nat:=0
def PySem.W.Fast.tw2266529048330440456:Nat:=0
def PySem.W.Fast.tw2291300252450967527:Nat:=0
def PySem.W.Fast.tw2334169038638568803:Nat:=0
def PySem.W.Fast.tw2404873939216755369:Nat:=0
def PySem.W.Fast.tw2417355052800497172:Nat:=0
def PySem.W.Fast.tw2594892498680829934:Nat:=0
def PySem.W.Fast.tw264159805751444854:Nat:=0
def PySem.W.Fast.tw2715907756685457046:Nat:=0
def PySem.W.Fast.tw282800613601576796:Nat:=0
def PySem.W.Fast.tw2835339612691373714:Nat:=0
def PySem.W.Fast.tw2863008719444445124:Nat:=0
def PySem.W.Fast.tw2889929554902441619:Nat:=0
def PySem.W.Fast.tw2917465658082216028:Nat:=0
def PySem.W.Fast.tw2946769554746546314:Nat:=0
def PySem.W.Fast.tw2971867034634912730:Nat:=0
def PySem.W.Fast.tw3013335587022377227:Nat:=0
def PySem.W.Fast.tw3135145550866534243:Nat:=0
def PySem.W.Fast.tw315554267268042928:Nat:=0
def PySem.W.Fast.tw3175341396769284715:Nat:=0
def PySem.W.Fast.tw3212869235096578915:Nat:=0
def PySem.W.Fast.tw3251858978503704742:Nat:=0
def PySem.W.Fast.tw3262262905936081853:Nat:=0
def PySem.W.Fast.tw3383544580938566313:Nat:=0
def PySem.W.Fast.tw3447045990483714788:Nat:=0
def PySem.W.Fast.tw3568698204723275569:Nat:=0
def PySem.W.Fast.tw3612183331492867662:Nat:=0
def PySem.W.Fast.tw3612552123582192018:Nat:=0
def PySem.W.Fast.tw3646864874575530235:Nat:=0
def PySem.W.Fast.tw3656244569838308354:Nat:=0
def PySem.W.Fast.tw3754433115437780386:Nat:=0
def PySem.W.Fast.tw3803013309545053681:Nat:=0
def PySem.W.Fast.tw4139678296678795463:Nat:=0
def PySem.W.Fast.tw4175840066657865968:Nat:=0
def PySem.W.Fast.tw4239611035643103937:Nat:=0
def PySem.W.Fast.tw4266470037090800299:Nat:=0
def PySem.W.Fast.tw4412113993096453570:Nat:=0
def PySem.W.Fast.tw4482364184676141399:Nat:=0
def PySem.W.Fast.tw4492546088240283103:Nat:=0
def PySem.W.Fast.tw4517919902663958597:Nat:=0
def PySem.W.Fast.tw4578859649916009659:Nat:=0
def PySem.W.Fast.tw460048508240647390:Nat:=0
def PySem.W.Fast.tw46413226633867171:Nat:=0
def PySem.W.Fast.tw4772429480024887164:Nat:=0
def PySem.W.Fast.tw4886700256080426786:Nat:=0
def PySem.W.Fast.tw4892731190162426613:Nat:=0
def PySem.W.Fast.tw4940023456922521057:Nat:=0
def PySem.W.Fast.tw4986731621854226312:Nat:=0
def PySem.W.Fast.tw4997396430747136035:Nat:=0
def PySem.W.Fast.tw5047124339189375493:Nat:=0
def PySem.W.Fast.tw5110254725173183400:Nat:=0
def PySem.W.Fast.tw5128355620853626128:Nat:=0
def PySem.W.Fast.tw5185604943005511848:Nat:=0
def PySem.W.Fast.tw5210471397277097086:Nat:=0
def PySem.W.Fast.tw5271728294442659405:Nat:=0
def PySem.W.Fast.tw5306193855785860952:Nat:=0
def PySem.W.Fast.tw5342004251506361449:Nat:=0
def PySem.W.Fast.tw5393043592122628470:Nat:=0
def PySem.W.Fast.tw5484697921783245790:Nat:=0
def PySem.W.Fast.tw5593302294635031303:Nat:=0
def PySem.W.Fast.tw562652059027324885:Nat:=0
def PySem.W.Fast.tw5648538879731391011:Nat:=0
def PySem.W.Fast.tw5693755508455070073:Nat:=0
def PySem.W.Fast.tw5778938137354330502:Nat:=0
def PySem.W.Fast.tw6054620212862772589:Nat:=0
def PySem.W.Fast.tw6191545439970684844:Nat:=0
def PySem.W.Fast.tw6327451596325585597:Nat:=0
def PySem.W.Fast.tw6412704240369485145:Nat:=0
def PySem.W.Fast.tw6577754298828675784:Nat:=0
def PySem.W.Fast.tw6635041338833230143:Nat:=0
def PySem.W.Fast.tw6957997130941325989:Nat:=0
def PySem.W.Fast.tw698225693077294078:Nat:=0
def PySem.W.Fast.tw7040383279738759201:Nat:=0
def PySem.W.Fast.tw7191518886412230832:Nat:=0
def PySem.W.Fast.tw7204401217944395798:Nat:=0
def PySem.W.Fast.tw7222491441627094146:Nat:=0
def PySem.W.Fast.tw7470477181622088535:Nat:=0
def PySem.W.Fast.tw7498696859660747858:Nat:=0
def PySem.W.Fast.tw7515742126833057943:Nat:=0
def PySem.W.Fast.tw7531478818371474586:Nat:=0
def PySem.W.Fast.tw7760059688864602527:Nat:=0
def PySem.W.Fast.tw7822715034868656721:Nat:=0
def PySem.W.Fast.tw7828304526592700263:Nat:=0
def PySem.W.Fast.tw7834097446354586123:Nat:=0
def PySem.W.Fast.tw784078301717749284:Nat:=0
def PySem.W.Fast.tw7907937381822865043:Nat:=0
def PySem.W.Fast.tw7911366356827027068:Nat:=0
def PySem.W.Fast.tw7987617226090119945:Nat:=0
def PySem.W.Fast.tw8023097127739595074:Nat:=0
def PySem.W.Fast.tw8033295909489963630:Nat:=0
def PySem.W.Fast.tw8081039985446836522:Nat:=0
def PySem.W.Fast.tw8082892171131277498:Nat:=0
def PySem.W.Fast.tw809042714232353653:Nat:=0
def PySem.W.Fast.tw8114549255003356604:Nat:=0
def PySem.W.Fast.tw8157134758973205283:Nat:=0
def PySem.W.Fast.tw8217240342481874557:Nat:=0
def PySem.W.Fast.tw8238583056230485273:Nat:=0
def PySem.W.Fast.tw8313987356402475409:Nat:=0
def PySem.W.Fast.tw8340100696654319116:Nat:=0
def PySem.W.Fast.tw8430071177977319717:Nat:=0
def PySem.W.Fast.tw8475681301055325761:Nat:=0
def PySem.W.Fast.tw8503831832675051790:Nat:=0
def PySem.W.Fast.tw8675788666874745889:Nat:=0
def PySem.W.Fast.tw8690396014738132648:Nat:=0
def PySem.W.Fast.tw8692516570163495407:Nat:=0
def PySem.W.Fast.tw8739287008468819020:Nat:=0
def PySem.W.Fast.tw8740668663230321029:Nat:=0
def PySem.W.Fast.tw8742591956426179390:Nat:=0
def PySem.W.Fast.tw8844142522363793627:Nat:=0
def PySem.W.Fast.tw8873024985109632403:Nat:=0
def PySem.W.Fast.tw9039330290933297137:Nat:=0
def PySem.W.Fast.tw9086032430408745311:Nat:=0
def PySem.W.Fast.tw9088198852685157180:Nat:=0
def PySem.W.Fast.tw9102454859801657660:Nat:=0
def PySem.W.Fast.tw9103482079687694253:Nat:=0
def PySem.W.Fast.tw916061098740879751:Nat:=0
def PySem.W.Fast.tw9227534584262518901:Nat:=0
def PySem.W.Fast.tw924590551751624494:Nat:=0
def PySem.W.Fast.tw9269600650229369339:Nat:=0
def PySem.W.Fast.tw9396609351167229639:Nat:=0
def PySem.W.Fast.tw9476432587153635568:Nat:=0
def PySem.W.Fast.tw9492896216221581166:Nat:=0
def PySem.W.Fast.tw9537218655433004808:Nat:=0
def PySem.W.Fast.tw9571517694393569666:Nat:=0
def PySem.W.Fast.tw9584836084960396709:Nat:=0
def PySem.W.Fast.tw9598785938026294653:Nat:=0
def PySem.W.Fast.tw9611405270833250492:Nat:=0
def PySem.W.Fast.tw96738337782985217:Nat:=0
def PySem.W.Fast.tw9814513222448621890:Nat:=0
def PySem.W.Fast.tw9950372809412170533:Nat:=0
def PySem.W.Fast.tw9978337347629577267:Nat:=0
open PySem PySem.W PyProof.Rows
set_option maxRecDepth 100000 in
set_option maxHeartbeats 0 in
theorem PySem.Challenge.cw_twinwalk_k66_programs_fitted_holds : PySem.Challenge.rw_twinwalk_k66_programs_fitted.Holds := by
 w_on; o_law; k_head; (case hw=>w_witness2)
 k_fill
 refine TW.walk (l:=PySem.Challenge.rw_twinwalk_k66_programs_fitted) rfl rfl (fun w h Y=>PySem.W.kIn_of Y) ?F
 case F=>
   intro w mg fa h KX G hmg
   refine TW.xt hmg ?_
   refine' (⟨TW.aH KX G ?_ ?_ ?_ ?_,TW.aH KX G ?_ ?_ ?_ ?_,TW.aH KX G ?_ ?_ ?_ ?_,TW.aH KX G ?_ ?_ ?_ ?_,TW.aH KX G ?_ ?_ ?_ ?_,TW.aH KX G ?_ ?_ ?_ ?_,TW.aH KX G ?_ ?_ ?_ ?_,TW.aH KX G ?_ ?_ ?_ ?_,TW.aH KX G ?_ ?_ ?_ ?_,TW.aH KX G ?_ ?_ ?_ ?_,TW.aH KX G ?_ ?_ ?_ ?_,TW.aH KX G ?_ ?_ ?_ ?_,TW.aH KX G ?_ ?_ ?_ ?_,TW.aH KX G ?_ ?_ ?_ ?_,TW.aH KX G ?_ ?_ ?_ ?_,TW.aH KX G ?_ ?_ ?_ ?_,TW.aH KX G ?_ ?_ ?_ ?_,TW.aH KX G ?_ ?_ ?_ ?_,TW.aH KX G ?_ ?_ ?_ ?_,TW.aH KX G ?_ ?_ ?_ ?_,TW.aH KX G ?_ ?_ ?_ ?_,TW.aH KX G ?_ ?_ ?_ ?_,TW.aH KX G ?_ ?_ ?_ ?_,TW.aH KX G ?_ ?_ ?_ ?_,TW.aH KX G ?_ ?_ ?_ ?_,TW.aH KX G ?_ ?_ ?_ ?_,TW.aH KX G ?_ ?_ ?_ ?_,TW.aH KX G ?_ ?_ ?_ ?_,TW.aH KX G ?_ ?_ ?_ ?_,TW.aH KX G ?_ ?_ ?_ ?_,TW.aH KX G ?_ ?_ ?_ ?_,TW.aH KX G ?_ ?_ ?_ ?_,TW.aH KX G ?_ ?_ ?_ ?_,TW.aH KX G ?_ ?_ ?_ ?_,TW.aH KX G ?_ ?_ ?_ ?_,TW.aH KX G ?_ ?_ ?_ ?_,TW.aH KX G ?_ ?_ ?_ ?_,TW.aH KX G ?_ ?_ ?_ ?_,TW.aH KX G ?_ ?_ ?_ ?_,TW.aH KX G ?_ ?_ ?_ ?_,TW.aH KX G ?_ ?_ ?_ ?_,TW.aH KX G ?_ ?_ ?_ ?_,TW.aH KX G ?_ ?_ ?_ ?_,TW.wu KX G ?_ ?_ ?_ ?_ ?_,⟨_,Gw KX G ?_,TW.tw_mk ?_ ?_ ?_⟩,Ez KX G ?_,Ez KX G ?_,Ez KX G ?_,Ez KX G ?_,Ez KX G ?_,Ez KX G ?_,Ez KX G ?_,Ez KX G ?_,Ez KX G ?_,Ez KX G ?_,Ez KX G ?_,Ez KX G ?_,Ez KX G ?_,Ez KX G ?_⟩ : TW.Ab _ _ _)
   (try any_goals first | k_is | k_exc | rfl | ((repeat (first | exact TW.pr_nil | refine TW.pr_cs ⟨_,rfl⟩ rfl ?_ | refine TW.pr_cs ⟨_,rfl⟩ ⟨_,rfl⟩ ?_)); done))
   (try any_goals first | k_is | k_exc | rfl | ((repeat (first | exact TW.pr_nil | refine TW.pr_cs ⟨_,rfl⟩ rfl ?_ | refine TW.pr_cs ⟨_,rfl⟩ ⟨_,rfl⟩ ?_)); done))
   all_goals first | kit_is | decide | rfl | exact ⟨_,rfl⟩ | (k_keys; done) | (repeat' constructor)
