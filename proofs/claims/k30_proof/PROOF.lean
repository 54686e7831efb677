import PyProof.Rows.All
import Wide.All
import OpenK.AllK
import Wide.FinOn
import Lean
import PyProof.EqAt
import PyProof.EqKinds
import PyProof.TupleCall
import PySem.Challenge.RW_twinwalk_k30_how_far_alike
open PySem.W renaming Frag->DA,mg_none_of->D3,kia_one->Er,fnOf->EA,keepIn->ER,codeIn->E7,kia_tup->FD,methodObj->FX,kitx_list->FY,instObj->Gb,lookIn->Gh,kitOne->Gi,mg_of->Gq,cellsFrom_some->Gu,kitx_tuple->GK,kitx_dict->GP
open List renaming length_map->DC,length_append->DE,getElem?_eq_getElem->DH,length_take->DM,size_toArray->DO,mem_of_getElem? -> DR,map_append->DS,not_mem_nil->DT,getElem?_append_right->DW,mem_cons->DX,take_add_one->D1,range->D5,length_cons->D6,map_cons->D7,getElem?_append_left->D9,take_length->Ec,getElem?_map->Ed,mem_cons_self->Ef,mem_append_right->Eh,replicate->Ek,mem_cons_of_mem->El,append_nil->Es,length_drop->Ex,filterMap_cons->EF,take_of_length_le->EG,getD_eq_getElem?_getD->EI,getElem?_eq_none->EK,drop_eq_getElem_cons->EL,find?_cons->EM,drop_zero->EU,map_map->EV,length->E8,getElem?_toArray->Fc,length_nil->Fi,forIn_cons->Fj,filterMap_map->Fo,append_assoc->Fx,any_cons->Fz,lookup_cons->FF,sum_append->FI,length_replicate->FJ,forIn_nil->FR,length_reverse->FT,getElem_of_mem->FU,getElem?_take->F2,take_sublist->F7,length_range->F8,getElem?_inj->Ga,all_eq_true->Gg,of_mem_zip->Gm,nodup_cons->Gn,nodup_nil->Gw,mem_of_find?_eq_some->Gx,getElem?_eq_none_iff->Gy,map_take->GD,append_cancel_left->GF,getElem?_set_self->GH,drop_eq_nil_of_le->GI,take_append_drop->GL,getElem?_reverse->GN,replicate_succ'->GS,mem_of_mem_take->GU,mem_append_left->GV,getElem?_set_ne->GW
open PySem.Str renaming ofString->DD
open PySem renaming Spec->DF,boot_len->DQ,wpAny_callSpecial?_slot->Ej,mem_of_lookup->Eo,wpAny_passesOwn->EY,wpAny_execs_nil->FV
open Nat renaming le_refl->DJ,lt_of_lt_of_le->DZ,ne_of_lt->Ea,le_trans->Eb,lt_of_le_of_lt->En,zero_le->Ep,le_of_lt->ED,sub_self->EW,le_add_right->E1,lt_irrefl->Fg,add_assoc->Fh,mul_le_mul_left->Fl,add_lt_add_left->Fm,succ_mul->Fq,ne_of_gt->Fs,strongRecOn->FO,min_eq_left->FP,sub_zero->Gf,mul_le_mul->GC,lt_trans->GR
open PySem.Heap renaming get?_push_of_some->DK,lt_size->DL,get?_push_size->DY,SameBut->Ey,get?_update_other->GJ
open PySem.Builtin.SmallTypes renaming ownedTupleIsFree->DP,nextOf->D4,ownedTupleHandOut->Ez
open Bool renaming false_ne_true->DU,false_eq_true->Et,and_eq_true->EJ,not_true->Ff,eq_iff_iff->FL
open True renaming intro->DV
open Option.some renaming inj->D2
open PySem.Value renaming ref->D8,str->FH,int->FW,type->F3,none->Gs,builtin->Gz
open PySem.NameKind renaming free->Ee,cell->Gk
open PySem.Builtin.Slice renaming slicePlaces->Eg,sliceAdjust->Ew,sliceApplied->ES,sliceFields->F0
open PySem.Builtin.Tuple renaming tupleExact->Ei,tupleHashOf->Eu,tupleItemsOf->Fb
open PyProof.Rows renaming callWith_type1->Em,slot_tuple_getitem->EH
open Option renaming map_some->EC,isSome_map->F1
open Sum renaming isLeft->EE
open PySem.F renaming slot_zip_next->EN,slot_enumerate_next->Fd,args_tuple_add_2->Fn,plainAttrs_list->Fu,entry_tuple_add->Fv,slot_tuple_add->Fy,slot_dict_get->FE,args_zip_next_1->FG,entry_zip_next->FK,args_dict_get_3->Gr,entry_dict_get->Gv,args_enumerate_next_1->GX
open Array renaming length_toList->EO,forIn_toList->E6
open PySem.Builtin.Dict renaming updateFrom->EX,selfAndRest->F5,addKeywords->F6,pairItems->Ge
open ForInStep renaming yield->EZ
open False renaming elim->E2
open Int renaming toNat_of_nonneg->E3,le_refl->E4,toNat_natCast->E9,emod_lt_of_pos->Ft,emod_nonneg->FQ
open PySem.Calls renaming spliced_cons->E5,spliced_nil->Fw,Name_function_global->Gp,callWith_builtin->GG,evalArgs_plain->GO
open PySem.Builtin.List renaming listTooLong->Fe
open PySem.Code renaming quiet_builtin->Fp,compLoop->FC
open PySem.Heap.IsSliceOf renaming new->FA
open Bind renaming bind->FN
open PySem.Heap.DictOf renaming new->FZ
open List.cons renaming injEq->F4
open PySem.Obj renaming mapSeq->Gd
open PyProof.Rows.IsTup renaming new->Gj
open PySem.SeqAt.EqAt renaming str_int->GA,int_str->GB
open PySem.PassesOwn renaming never->GQ
set_option Elab.async false
set_option linter.all false
set_option maxRecDepth 100000
/-! THE Dc CD,for ints,bools,texts,own classes,CF and tuples (index,slices,in,append,pop ..),calls,loops. CJ it whole ahead of Bq own text; what Bq proof does not reach may be deleted. -/
theorem JA:0<=PySem.sizeLine:=by decide
theorem JB:1<=PySem.sizeLine:=by decide
theorem JC:2<=PySem.sizeLine:=by decide
theorem JD:3<=PySem.sizeLine:=by decide
theorem JE:4<=PySem.sizeLine:=by decide
namespace L2
open PySem PySem.Spec PyProof.Rows

/-- a key: an int or a str -/
abbrev Key:=Sum Int Str
def j4:Key->Value->Bool
 | .inl k,v=>Value.isInt k v
 | .inr x,v=>Value.isStrOf x v
def Ca (w:World):Key->Int
 | .inl k=>hashInt k
 | .inr x=>hashStr w x
theorem a9:∀{k:Key} {v:Value},j4 k v=true->(∃i t,k=Sum.inl i/\v=FW i t)\/(∃x t,k=Sum.inr x/\v=FH x t)
 | .inl i,v,h=>by
   obtain ⟨t,e⟩:=Value.isInt_shape (k:=i) (v:=v) h
   exact .inl ⟨i,t,rfl,e⟩
 | .inr x,v,h=>by
   obtain ⟨t,e⟩:=Value.isStrOf_shape (x:=x) (v:=v) h
   exact .inr ⟨x,t,rfl,e⟩
theorem qG (i:Int)(t:Tok):j4 (.inl i) (.int i t)=true:=by simp [j4,Value.isInt]
theorem qH (x:Str)(t:Tok):j4 (.inr x) (.str x t)=true:=by simp [j4,Value.isStrOf]
theorem yD (a b:Int):decide ((Sum.inl a:Key)=Sum.inl b)=(a == b):=by
 by_cases e:a=b
 · subst e; simp
 · have h:¬ (Sum.inl a:Key)=Sum.inl b:=fun q=>e (Sum.inl.inj q)
   rw [decide_eq_false h]
   exact (beq_eq_false_iff_ne.mpr e).symm
theorem yG (a b:Str):decide ((Sum.inr a:Key)=Sum.inr b)=decide (a=b):=by
 by_cases e:a=b
 · subst e; simp
 · have h:¬ (Sum.inr a:Key)=Sum.inr b:=fun q=>e (Sum.inr.inj q)
   rw [decide_eq_false h,decide_eq_false e]
theorem yE (a:Int)(b:Str):decide ((Sum.inl a:Key)=Sum.inr b)=false:=decide_eq_false (fun q=>nomatch q)
theorem yF (a:Str)(b:Int):decide ((Sum.inr a:Key)=Sum.inl b)=false:=decide_eq_false (fun q=>nomatch q)

def aD (prog:Program)(w:World):PySem.KeyKind prog w Key where
 is:=j4
 hash:=Ca w
 inj:=fun v a b ha hb=>by
   rcases a9 ha with ⟨i,t,rfl,rfl⟩ | ⟨x,t,rfl,rfl⟩
   · rcases a9 hb with ⟨j,u,rfl,e⟩ | ⟨y,u,rfl,e⟩
     · injection e with e1 _; rw [e1]
     · exact nomatch e
   · rcases a9 hb with ⟨j,u,rfl,e⟩ | ⟨y,u,rfl,e⟩
     · exact nomatch e
     · injection e with e1 _; rw [e1]
 byValue:=fun k v h=>by
   rcases a9 h with ⟨i,t,rfl,rfl⟩ | ⟨x,t,rfl,rfl⟩ <;> rfl
 pyHash:=fun hv h=>by
   rcases a9 hv with ⟨i,t,rfl,rfl⟩ | ⟨x,t,rfl,rfl⟩
   · exact wpAny_pyHash_int h
   · exact wpAny_pyHash_str h
 eqBool:=fun hu hv h=>by
   rcases a9 hu with ⟨i,t,rfl,rfl⟩ | ⟨x,t,rfl,rfl⟩
   · rcases a9 hv with ⟨j,u,rfl,rfl⟩ | ⟨y,u,rfl,rfl⟩
     · rw [yD] at h; exact wpAny_eqBool_int h
     · rw [yE] at h; exact GB i t y u _ _ _ _ h
   · rcases a9 hv with ⟨j,u,rfl,rfl⟩ | ⟨y,u,rfl,rfl⟩
     · rw [yF] at h; exact GA x t j u _ _ _ _ h
     · rw [yG] at h; exact wpAny_eqBool_str h
 «strs»:=fun k x t v h=>by
   rcases a9 h with ⟨i,u,rfl,e⟩ | ⟨y,u,rfl,e⟩
   · exact nomatch e
   · injection e with e1 _
     subst e1
     cases v <;> rfl

theorem ma (prog:Program)(w:World)(i:Int)(t:Tok):(aD prog w).is (.inl i) (.int i t)=true:=qG i t
theorem md (prog:Program)(w:World)(x:Str)(t:Tok):(aD prog w).is (.inr x) (.str x t)=true:=qH x t
end L2

namespace L2
open PySem PySem.Spec PyProof.Rows

/-- a value,without the heap -/
inductive V where
 | aU | bl (b:Bool) | int (i:Int) | str (x:Str) | byt (b:Array UInt8) | flt (b:UInt64) | ref (a:Addr) | ty (n:String)
 deriving DecidableEq

def RelV:V->Value->Prop
 | .aU,u=>u=Gs
 | .bl b,u=>u=Value.bool b
 | .int i,u=>∃t,u=FW i t
 | .str x,u=>∃t,u=FH x t
 | .byt b,u=>∃t,u=Value.bytes b t
 | .flt b,u=>∃t,u=Value.float b t
 | .ref a,u=>u=D8 a
 | .ty n,u=>u=F3 n

abbrev Vals:List V->List Value->Prop:=Paired RelV
theorem Vals.length {xs:List V}{us:List Value}(r:Vals xs us):xs.length=us.length:=Paired.length r
theorem Vals.get:∀{xs:List V} {us:List Value} {i:Nat} {x:V},Vals xs us->xs[i]? = some x->∃u,us[i]? = some u/\RelV x u
 | _,_,_,_,.nil,e=>by simp at e
 | _,_,0,_,.cons r _,e=>by simp at e; subst e; exact ⟨_,rfl,r⟩
 | _,_,i + 1,x,.cons _ t,e=>by
   obtain ⟨u,h1,h2⟩:=Vals.get (i:=i) (x:=x) t (by simpa using e)
   exact ⟨u,by simpa using h1,h2⟩
theorem Vals.set {x:V}{u:Value}(r:RelV x u):∀{xs:List V} {us:List Value} (i:Nat),Vals xs us->Vals (xs.set i x) (us.set i u)
 | _,_,_,.nil=>.nil
 | _,_,0,.cons _ t=>.cons r t
 | _,_,i + 1,.cons q t=>.cons q (Vals.set r i t)
theorem Vals.append:∀{xs ys:List V} {us ws:List Value},Vals xs us->Vals ys ws->Vals (xs++ys) (us++ws)
 | _,_,_,_,.nil,s=>s
 | _,_,_,_,.cons r t,s=>.cons r (Vals.append t s)
theorem Vals.take:∀{xs:List V} {us:List Value} (n:Nat),Vals xs us->Vals (xs.take n) (us.take n)
 | _,_,0,_=>.nil
 | _,_,_ + 1,.nil=>.nil
 | _,_,n + 1,.cons r t=>.cons r (Vals.take n t)
theorem Vals.drop:∀{xs:List V} {us:List Value} (n:Nat),Vals xs us->Vals (xs.drop n) (us.drop n)
 | _,_,0,r=>r
 | _,_,_ + 1,.nil=>.nil
 | _,_,n + 1,.cons _ t=>Vals.drop n t
def eQ:Option V->Option Value->Prop
 | some v,some u=>RelV v u
 | none,none=>True
 | _,_=>False
def KV {κ:Type}:List (κ×V)->List (κ×Value)->Prop:=Paired fun (p:κ×V) (q:κ×Value)=>p.1=q.1/\RelV p.2 q.2

/-- a key of a dict (00Di): an int or a text -/
def kV:Key->V
 | .inl i=>.int i
 | .inr x=>.str x

/-- what stands at a tracked address -/
inductive HO where
 /-- a list -/
 | lst (xs:List V)
 /-- a tuple (never changes) -/
 | tup (xs:List V)
 /-- a dict whose keys are ints and texts; one whose keys are tuples of ints and texts (the empty one is both) -/
 | dK (kvs:List (Key×V)) | dT (kvs:List (List Key×V))
 /-- a set of ints: its members,its size -/
 | set (S:Int->Bool) (n:Nat)
 /-- an instance of the class at C,its dict at dx,its attributes -/
 | ins (C dx:Addr) (fs:List (Str×V))
 /-- the dict of the instance at x -/
 | own (x:Addr)
 /-- the dict of an exception -/
 | xd (fs:List (Str×V))
 /-- a bound method,f of x -/
 | met (f x:Addr)
 /-- a range object lo,lo + 1,.. below hi -/
 | rng (lo hi:Int)
 /-- a Bn that is known to the object (the kN; a dict while a loop walks it): read,never written while it is so -/
 | frz (o:Obj) (u:HO)
 /-- a code tV table -/
 | tbl (ps:Array Value)
 /-- any other Bn,by what is true of its one object (a def of CU own: Dh a S n:=HO.ext fun h=>..) -/
 | ext (φ:Heap->Prop)

abbrev Hp:=Addr->Option HO
def upd (H:Hp)(a:Addr)(o:HO):Hp:=fun b=>if b=a then some o else H b
theorem ae {H:Hp}{a:Addr}{o:HO}:upd H a o a=some o:=by unfold upd; rw [if_pos rfl]
theorem aj {H:Hp}{a b:Addr}{o:HO}(h:b≠a):upd H a o b=H b:=by unfold upd; rw [if_neg h]
theorem bE {H:Hp}{a:Addr}{o u:HO}:upd (upd H a o) a u=upd H a u:=by
 funext b; unfold upd; split <;> rfl
/-- two objects of zZ content stand apart -/
theorem cA {H:Hp}{a b:Addr}{o u:HO}(h:H a=some o)(h':H b=some u)(d:o≠u):a≠b:=by
 intro e; subst e; rw [h] at h'; exact d (D2 h')
theorem ai {H:Hp}{a b:Addr}{o:HO}(h:H a=some o)(h':H b=none):a≠b:=by
 intro e; subst e; rw [h] at h'; cases h'

section
variable (P:Program)(w:World)
def aP (H:Hp)(h:Heap)(a:Addr):HO->Prop
 | .lst xs=>xs.length<=sizeLine/\∃(its:List Value) (n:Nat),Vals xs its/\h.get? a=some { cls:=.type "list",data:=.seq its.toArray n }
 | .tup xs=>xs.length<=sizeLine/\∃its:List Value,Vals xs its/\IsTup h a its.toArray
 | .dK kvs=>kvs.length<=sizeLine/\(a == sysModules)=false/\∃vs,KV kvs vs/\h.DictOf (aD P w) a vs
 | .dT kvs=>kvs.length<=sizeLine/\(a == sysModules)=false/\∃xs:List (List Key×Addr×Value),
     Paired (fun (p:List Key×V) (q:List Key×Addr×Value)=>p.1=q.1/\H q.2.1=some (.tup (p.1.map kV))/\RelV p.2 q.2.2) kvs xs /\
     ∃o es ep,h.get? a=some o/\o.ExactDict/\o.data=.dict es ep/\es.toList=xs.map (entryOfKey (tupleKind (aD P w)))/\(xs.map (·.1)).Nodup
 | .set S n=>h.SetOf (intKind P w) a S n
 | .ins C dx fs=>H dx=some (.own a)/\fs.length<=1000/\dx≠a/\h.get? a=some (Gb C dx) /\
     ∃mA,h.Ns1 dx mA/\(∀f,eQ (fs.lookup f) (mA f))/\PySem.Within mA (fs.map (·.1))
 | .own _=>∃o,h.get? a=some o
 | .xd fs=>∃mA,h.Ns1 a mA/\∀f,eQ (fs.lookup f) (mA f)
 | .rng lo hi=>∃t u v,h.get? a=some { cls:=.type "range",data:=.fields #[.int lo t,.int hi u,.int 1 v] }
 | .frz o u=>h.get? a=some o/\aP H h a u
 | .tbl ps=>h.get? a=some { cls:=.none,data:=.fields ps }
 | .met f x=>h.get? a=some (FX (.ref f) (.ref x))
 | .ext φ=>φ h/\(∃o,h.get? a=some o)/\∀h1 h2:Heap,φ h1->(∀o,h1.get? a=some o->h2.get? a=some o)->φ h2
/-- the abstract heap is held -/
def eF (H:Hp)(h:Heap):Prop:=∀a o,H a=some o->aP P w H h a o
end

section
variable {P:Program}{w:World}{H H':Hp}{h h':Heap}{a:Addr}{o:HO}
theorem aP.lt (x:aP P w H h a o):a < h.objs.size:=by
 cases o with
 | lst xs=>obtain ⟨_,_,_,_,e⟩:=x; exact DL e
 | tup xs=>obtain ⟨_,_,_,p⟩:=x; exact p.lt
 | dK kvs=>obtain ⟨_,_,_,_,o,_,_,e,_⟩:=x; exact DL e
 | dT kvs=>obtain ⟨_,_,_,_,o,_,_,e,_⟩:=x; exact DL e
 | set S n=>obtain ⟨o,_,_,_,e,_⟩:=x; exact DL e
 | ins C dx fs=>obtain ⟨_,_,_,e,_⟩:=x; exact DL e
 | own y=>obtain ⟨_,e⟩:=x; exact DL e
 | xd fs=>obtain ⟨_,⟨_,_,_,e,_⟩,_⟩:=x; exact DL e
 | rng lo hi=>obtain ⟨_,_,_,e⟩:=x; exact DL e
 | frz ob u=>obtain ⟨e,_⟩:=x; exact DL e
 | tbl ps=>exact DL (show h.get? a=some _ from x)
 | met f y=>exact DL (show h.get? a=some _ from x)
 | ext φ=>obtain ⟨_,⟨_,e⟩,_⟩:=x; exact DL e
theorem Paired.mapP {α β:Type}{F G:α->β->Prop}:∀{l₁:List α} {l₂:List β},Paired F l₁ l₂->(∀a b,F a b->G a b)->Paired G l₁ l₂
 | _,_,.nil,_=>.nil
 | _,_,.cons r t,f=>.cons (f _ _ r) (Paired.mapP t f)
/-- what an tV description CQ on: its own object,its own dict,the tuples -/
theorem aP.stay (x:aP P w H h a o)(k:∀b u,(b=a\/H b=some (.own a))->h.get? b=some u->h'.get? b=some u)
   (ho:∀b,H b=some (.own a)->H' b=some (.own a)) (ht:∀b xs,H b=some (.tup xs)->H' b=some (.tup xs)):aP P w H' h' a o:=by
 induction o with
 | lst xs=>obtain ⟨z,its,n,r,e⟩:=x; exact ⟨z,its,n,r,k _ _ (.inl rfl) e⟩
 | tup xs=>obtain ⟨z,its,r,ob,e,c⟩:=x; exact ⟨z,its,r,ob,k _ _ (.inl rfl) e,c⟩
 | dK kvs=>obtain ⟨z,y,vs,r,ob,es,ep,e,c⟩:=x; exact ⟨z,y,vs,r,ob,es,ep,k _ _ (.inl rfl) e,c⟩
 | dT kvs=>
   obtain ⟨z,y,xs,r,ob,es,ep,e,c⟩:=x
   exact ⟨z,y,xs,Paired.mapP r fun p q z=>⟨z.1,ht _ _ z.2.1,z.2.2⟩,ob,es,ep,k _ _ (.inl rfl) e,c⟩
 | set S n=>obtain ⟨ob,es,ep,t,e,c⟩:=x; exact ⟨ob,es,ep,t,k _ _ (.inl rfl) e,c⟩
 | ins C dx fs=>
   obtain ⟨d,z,ne,e,mA,⟨od,es,ep,e2,c⟩,r⟩:=x
   exact ⟨ho _ d,z,ne,k _ _ (.inl rfl) e,mA,⟨od,es,ep,k _ _ (.inr d) e2,c⟩,r⟩
 | own y=>obtain ⟨ob,e⟩:=x; exact ⟨ob,k _ _ (.inl rfl) e⟩
 | xd fs=>obtain ⟨mA,⟨od,es,ep,e,c⟩,r⟩:=x; exact ⟨mA,⟨od,es,ep,k _ _ (.inl rfl) e,c⟩,r⟩
 | rng lo hi=>obtain ⟨t,u,v,e⟩:=x; exact ⟨t,u,v,k _ _ (.inl rfl) e⟩
 | frz ob u ih=>obtain ⟨e,q⟩:=x; exact ⟨k _ _ (.inl rfl) e,ih q⟩
 | tbl ps=>
   have e:h.get? a=some { cls:=.none,data:=.fields ps }:=x
   show h'.get? a=some { cls:=.none,data:=.fields ps }
   exact k a _ (.inl rfl) e
 | met f y=>
   have e:h.get? a=some (FX (.ref f) (.ref y)):=x
   show h'.get? a=some (FX (.ref f) (.ref y))
   exact k a _ (.inl rfl) e
 | ext φ=>obtain ⟨p,⟨o,e⟩,st⟩:=x; exact ⟨st _ _ p fun o q=>k _ _ (.inl rfl) q,⟨o,k _ _ (.inl rfl) e⟩,st⟩
theorem eF.lt (x:eF P w H h)(e:H a=some o):a < h.objs.size:=(x a o e).lt
theorem eF.fresh (x:eF P w H h)(e:h.objs.size<=a):H a=none:=by
 cases q:H a with
 | none=>rfl
 | some u=>exact absurd (DZ (x.lt q) e) (Fg _)
/-- oQ object of the heap is kept -/
theorem eF.kept (x:eF P w H h)(k:∀b u,h.get? b=some u->h'.get? b=some u):eF P w H h':=fun a o e=>
 (x a o e).stay (fun b u _ q=>k b u q) (fun _ q=>q) fun _ _ q=>q
/-- a new object is laid and tracked -/
theorem eF.laid (x:eF P w H h)(k:∀b u,h.get? b=some u->h'.get? b=some u)(hp:h.objs.size<=a)(new:aP P w (upd H a o) h' a o):eF P w (upd H a o) h':=fun b u e=>by
 have hn:=x.fresh hp
 by_cases hb:b=a
 · subst hb; rw [ae] at e; cases e; exact new
 · rw [aj hb] at e
   exact (x b u e).stay (fun c v _ q=>k c v q) (fun c q=>by rw [aj (ai q hn)]; exact q) fun c xs q=>by rw [aj (ai q hn)]; exact q
end

/-- what may be read as u: it is u,or a known u -/
def Rd (H:Hp)(a:Addr)(u:HO):Prop:=H a=some u\/∃o,H a=some (.frz o u)
theorem Rd.ok {P:Program}{w:World}{H:Hp}{h:Heap}{a:Addr}{u:HO}(r:Rd H a u)(x:eF P w H h):aP P w H h a u:=by
 rcases r with r | ⟨o,r⟩
 · exact x a u r
 · obtain ⟨_,q⟩:=x a _ r
   exact q
/-- what may be written -/
def Ai:Option HO->Prop
 | some (.lst _)=>True
 | some (.dK _)=>True
 | some (.dT _)=>True
 | some (.set _ _)=>True
 | some (.ins _ _ _)=>True
 | some (.ext _)=>True
 | _=>False
section
variable {P:Program}{w:World}{H:Hp}{h h':Heap}{x e:Addr}{o':HO}
/-- the object at e is changed: x itself,or the dict of the instance x -/
theorem eF.write (ok:eF P w H h)(mu:Ai (H x))(he:e=x\/H e=some (.own x))(k:∀b u,b≠e->h.get? b=some u->h'.get? b=some u)(heo:∃u,h'.get? e=some u)
   (new:aP P w (upd H x o') h' x o'):eF P w (upd H x o') h':=fun b u q=>by
 have nown:∀c y,H c=some (.own y)->c≠x:=fun c y r z=>by subst z; rw [r] at mu; exact mu
 have ntup:∀c xs,H c=some (.tup xs)->c≠x:=fun c xs r z=>by subst z; rw [r] at mu; exact mu
 by_cases hb:b=x
 · subst hb; rw [ae] at q; cases q; exact new
 · rw [aj hb] at q
   by_cases yu:b=e
   · have q':H b=some (.own x):=by
       rcases he with z | z
       · exact absurd (yu.trans z) hb
       · rw [yu]; exact z
     rw [q] at q'; cases q'
     obtain ⟨v,hv⟩:=heo
     exact ⟨v,by rw [yu]; exact hv⟩
   · refine (ok b u q).stay (fun c v hc r=>k c v ?_ r) (fun c r=>by rw [aj (nown c b r)]; exact r) fun c xs r=>by rw [aj (ntup c xs r)]; exact r
     rcases hc with rfl | hc
     · exact yu
     · rintro rfl
       rcases he with z | z
       · exact nown c b hc z
       · rw [hc] at z; cases z; exact hb rfl
end

/-! ### kept unless tracked; of the frames at fs (the iQ) the slots may change (an exception that passes writes there); of the records at ex (iterators) nothing is said -/
structure Un (fs ex:List Addr)(H H':Hp)(h h':Heap):Prop where
 keep:∀b o,h.get? b=some o->H b=none->b ∉ fs->b ∉ ex->h'.get? b=some o
 slot:∀b o,h.get? b=some o->H b=none->b∈fs->b ∉ ex->∃sl,h'.get? b=some { o with slots:=sl }
 free:∀b o,h.get? b=some o->H b=none->b ∉ ex->H' b=none
 there:∀b o,h.get? b=some o->b ∉ ex->∃o',h'.get? b=some o'
 tups:∀b xs,H b=some (.tup xs)->H' b=some (.tup xs)
 frzs:∀b o u,H b=some (.frz o u)->H' b=some (.frz o u)
 tbls:∀b ps,H b=some (.tbl ps)->∃more,H' b=some (.tbl (ps++more))
section
variable {fs fs' ex Dz:List Addr}{H H1 H2:Hp}{h h1 h2 h':Heap}{a x e:Addr}{o:HO}
theorem Un.any (u:Un fs ex H H1 h h1){b:Addr}{ob:Obj}(q:h.get? b=some ob)(n:H b=none)(hx:b ∉ ex):∃sl,h1.get? b=some { ob with slots:=sl }:=by
 by_cases hb:b∈fs
 · exact u.slot b ob q n hb hx
 · exact ⟨ob.slots,u.keep b ob q n hb hx⟩
theorem Un.kept (k:∀b u,h.get? b=some u->h'.get? b=some u):Un fs ex H H h h':=
 ⟨fun b ob q _ _ _=>k b ob q,fun b ob q _ _ _=>⟨ob.slots,k b ob q⟩,fun _ _ _ n _=>n,fun b ob q _=>⟨ob,k b ob q⟩,fun _ _ q=>q,fun _ _ _ q=>q,fun _ ps q=>⟨#[],by rw [q]; simp⟩⟩
theorem Un.refl:Un fs ex H H h h:=Un.kept fun _ _ q=>q
theorem Un.laid (k:∀b u,h.get? b=some u->h'.get? b=some u)(hp:h.objs.size<=a)(hn:H a=none):Un fs ex H (upd H a o) h h' where
 keep:=fun b u q _ _ _=>k b u q
 slot:=fun b u q _ _ _=>⟨u.slots,k b u q⟩
 free:=fun b u q n _=>by rw [aj (Ea (DZ (DL q) hp))]; exact n
 there:=fun b u q _=>⟨u,k b u q⟩
 tups:=fun b xs q=>by rw [aj (ai q hn)]; exact q
 frzs:=fun b u xs q=>by rw [aj (ai q hn)]; exact q
 tbls:=fun b ps q=>⟨#[],by rw [aj (ai q hn),q]; simp⟩
theorem Un.write (mu:Ai (H x))(he:e=x\/H e=some (.own x))(k:∀b u,b≠e->h.get? b=some u->h'.get? b=some u)(heo:∃u,h'.get? e=some u):Un fs ex H (upd H x o) h h':=by
 have hx:∀b,H b=none->b≠x:=fun b n z=>by subst z; rw [n] at mu; exact mu
 have hb:∀b,H b=none->b≠e:=fun b n z=>by
   subst z
   rcases he with r | r
   · exact hx b n r
   · rw [n] at r; cases r
 have hm:∀b u,H b=some u->¬ Ai (some u)->b≠x:=fun b u q nm z=>by subst z; rw [q] at mu; exact nm mu
 refine ⟨fun b u q n _ _=>k b u (hb b n) q,fun b u q n _ _=>⟨u.slots,k b u (hb b n) q⟩,fun b u q n _=>by rw [aj (hx b n)]; exact n,fun b u q _=>?_,
   fun b xs q=>by rw [aj (hm b _ q fun z=>z)]; exact q,fun b u xs q=>by rw [aj (hm b _ q fun z=>z)]; exact q,fun b ps q=>⟨#[],by rw [aj (hm b _ q fun z=>z),q]; simp⟩⟩
 by_cases yu:b=e
 · subst yu; exact heo
 · exact ⟨u,k b u yu q⟩
end

/-! ### the heap without what is tracked -/
def BJ (h:Heap)(H:Hp):List Addr:=(D5 h.objs.size).filter fun a=>(H a).isSome
def kD (h:Heap)(H:Hp):Heap:=PySem.W.hideAll h (BJ h H)
theorem qB (h:Heap)(H:Hp):(kD h H).objs.size=h.objs.size:=PySem.W.hideAll_size _ _
theorem tD {h:Heap}{H:Hp}{b:Addr}{o:Obj}(e:h.get? b=some o)(n:H b=none):(kD h H).get? b=some o:=
 PySem.W.hideAll_get _ e fun hm=>by
   have q:(H b).isSome=true:=(List.mem_filter.mp hm).2
   rw [n] at q; simp at q
theorem vZ {h:Heap}{H:Hp}{b:Addr}{o:Obj}(e:(kD h H).get? b=some o):h.get? b=some o/\H b=none:=by
 have e':h.get? b=some o:=PySem.W.of_hideAll (BJ h H) e
 refine ⟨e',?_⟩
 cases q:H b with
 | none=>rfl
 | some x=>
   have hm:b∈BJ h H:=List.mem_filter.mpr ⟨List.mem_range.mpr (DL e'),by simp [q]⟩
   have z:(kD h H).get? b=none:=PySem.W.hideAll_none (BJ h H) hm
   rw [z] at e; cases e

/-! ### Bu ledger,filled with oQ new object but one -/
end L2

namespace L2
open PySem PySem.Spec PyProof.Rows

/-- the me facts,over the base: the heap at the law's entry without what is tracked there -/
structure Mod (K:DA)(mg:Str->Option Value)(base:Heap):Prop where
 kin:K.In base
 glob:base.Ns mainGlobals mg
 blt:∃mb,base.Ns builtinsNs mb/\∀x:Str,x≠"__name__"->mb x=bootBuiltins x
 nolimit:base.NoLimit

/-- the context: a def's body (or a comprehension's block) running. base: fixed through the whole law; s₀,H₀: the entry; outer: the frames whose slots others may change (a def's By); stack: all frames that run;
  ex: iterators that Cs made ahead of the entry and are walked here (a comprehension's); fn: the names whose cells Cs made at the entry (a def: all; a comprehension's block: its own); calm: not within an except suite; pn: pins that oQ state bears; xe: what is wanted of an exception that leaves the code -/
structure Cx where
 prog:Program
 w:World
 K:DA
 mg:Str->Option Value
 base:Heap
 A:Around
 N:List Str
 s₀:Shared
 H₀:Hp
 env:Env
 outer:List Env
 stack:List Env
 ex:List Addr
 fn:Str->Bool
 calm:Bool
 pn:List (Addr×Obj)
 xe:Value->Shared->Prop
/-- the iQ frames -/
def sg (l:List Env):List Addr:=l.filterMap (·.frame)
abbrev Cx.fs (X:Cx):List Addr:=sg X.outer

def BS (sc:Scope)(x:Str):Prop:=sc.names.lookup x=some .local\/sc.names.lookup x=some .cell\/sc.names.lookup x=some .free
def Loc (sc:Scope)(x:Str):Prop:=sc.names.lookup x=some .local\/sc.names.lookup x=some .cell
def Look (env:Env)(h:Heap)(m:Str->Option Value)(x:Str)(u:Value):Prop:=
 (env.kindOf x=some .local/\m x=some u)\/((env.kindOf x=some .cell\/env.kindOf x=some .free)/\∃c,env.cells.lookup x=some c/\h.IsCell c (some u))

structure Cx.Ok (X:Cx):Prop where
 mod:Mod X.K X.mg X.base
 kind:X.env.scope.kind=.function
 glob:X.env.globals=mainGlobals
 blt:X.env.builtins=builtinsNs
 above:X.s₀.heap.objs.size<=X.env.locals
 inj:∀x y c,X.env.cells.lookup x=some c->X.env.cells.lookup y=some c->x=y
 has:∀x,(X.env.kindOf x=some .cell\/X.env.kindOf x=some .free)->∃c,X.env.cells.lookup x=some c
 cab:∀x c,X.fn x=true->X.env.cells.lookup x=some c->X.s₀.heap.objs.size<=c
 hd:X.calm=true->X.A.handled=none
 frames:X.A.frames=some X.stack
 stk:X.stack=X.outer\/(X.stack=X.env :: X.outer/\X.env.frame=some X.env.locals)
 exf:∀b∈X.ex,b≠X.env.locals/\∀x c,X.env.cells.lookup x=some c->c≠b
 bs:∀b o,X.base.get? b=some o->X.s₀.heap.get? b=some o/\X.H₀ b=none
 bsz:X.base.objs.size<=X.s₀.heap.objs.size
 noex:∀b o,X.base.get? b=some o->b ∉ X.ex
 exfs:∀b∈X.ex,b ∉ X.fs
 iY:X.s₀.heap.FunFrames X.base X.outer
 frf:∀b∈X.fs,X.H₀ b=none

structure Inv (X:Cx)(pins:List (Addr×Obj))(σ:List (Option V))(H:Hp)(s:Shared):Prop where
 ok:X.Ok
 os:s.os=X.s₀.os
 bare:AllBare s.gens
 base:Un X.fs X.ex X.H₀ H X.s₀.heap s.heap
 loc:∃m,s.heap.Ns X.env.locals m/\∀(i:Nat) (x:Str) (v:V),X.N[i]? = some x->σ[i]? = some (some v)->BS X.env.scope x->∃u,RelV v u/\Look X.env s.heap m x u
 cell:∀x c,X.env.cells.lookup x=some c->∃v,s.heap.IsCell c v
 free:H X.env.locals=none
 freeC:∀x c,X.env.cells.lookup x=some c->H c=none
 pin:∀p∈X.pn++pins,s.heap.get? p.1=some p.2/\H p.1=none/\p.1≠X.env.locals/\p.1 ∉ X.fs/\∀v,p.2.data≠.cell v
 hok:eF X.prog X.w H s.heap
 len:σ.length=X.N.length

section
variable {X:Cx}{pins:List (Addr×Obj)}{σ:List (Option V)}{H H':Hp}{s:Shared}{h':Heap}

theorem Cx.Ok.Cf (ok:X.Ok){b:Addr}{o:Obj}(e:X.base.get? b=some o):b ∉ X.fs:=fun hb=>by
 have:=(ok.iY.mem hb).1
 rw [e] at this; cases this
theorem Inv.bs (I:Inv X pins σ H s):∀b o,X.base.get? b=some o->s.heap.get? b=some o/\H b=none:=fun b o e=>
 ⟨I.base.keep b o (I.ok.bs b o e).1 (I.ok.bs b o e).2 (I.ok.Cf e) (I.ok.noex b o e),I.base.free b o (I.ok.bs b o e).1 (I.ok.bs b o e).2 (I.ok.noex b o e)⟩
theorem Inv.bk (I:Inv X pins σ H s):∀b o,X.base.get? b=some o->s.heap.get? b=some o:=fun b o e=>(I.bs b o e).1
theorem Inv.mod (I:Inv X pins σ H s):Mod X.K X.mg X.base:=I.ok.mod
theorem Inv.kIn (I:Inv X pins σ H s):X.K.In s.heap:=I.ok.mod.kin.keeps I.bk
theorem Inv.lt (I:Inv X pins σ H s):X.env.locals < s.heap.objs.size:=let ⟨_,hn,_⟩:=I.loc; hn.lt
theorem Inv.sz (I:Inv X pins σ H s):X.s₀.heap.objs.size<=s.heap.objs.size:=Eb I.ok.above (ED I.lt)
theorem Inv.Cg (I:Inv X pins σ H s){a:Addr}(h:s.heap.objs.size<=a):a ∉ X.fs:=fun hb=>by
 obtain ⟨_,o,ho,_⟩:=I.ok.iY.mem hb
 exact absurd (DZ (DL ho) (Eb I.sz h)) (Fg _)
theorem Inv.yi (I:Inv X pins σ H s):∀x c,X.env.cells.lookup x=some c->c≠X.env.locals:=fun x c e z=>by
 obtain ⟨v,o,ho,hd⟩:=I.cell x c e
 obtain ⟨m,⟨o',es,ep,yv,hd',_⟩,_⟩:=I.loc
 rw [z,yv] at ho; cases ho; rw [hd'] at hd; cases hd
theorem Inv.iY (I:Inv X pins σ H s):s.heap.FunFrames X.base X.outer:=by
 have all:∀(l:List Env),(∀b∈sg l,b∈X.fs)->X.s₀.heap.FunFrames X.base l->s.heap.FunFrames X.base l:=by
   intro l
   induction l with
   | nil=>intro _ _; trivial
   | cons env r ih=>
     intro hs hl
     obtain ⟨hk,⟨L,o,hf,hn,ho,hd⟩,hr⟩:=hl
     have hL:L∈X.fs:=hs L (by unfold sg; rw [EF,hf]; exact Ef)
     obtain ⟨sl,e⟩:=I.base.slot L o ho (I.ok.frf L hL) hL fun z=>I.ok.exfs L z hL
     exact ⟨hk,⟨L,_,hf,hn,e,hd⟩,ih (fun b hb=>hs b (by unfold sg; rw [EF,hf]; exact El _ hb)) hr⟩
 exact all X.outer (fun _ hb=>hb) I.ok.iY

/-- the frames that run,for a call -/
theorem Inv.stack (I:Inv X pins σ H s):s.heap.FunFrames X.base X.stack:=by
 rcases I.ok.stk with e | ⟨e,hf⟩
 · rw [e]; exact I.iY
 · rw [e]
   obtain ⟨m,hn,_⟩:=I.loc
   refine .cons (by rw [I.ok.kind]; decide) hf hn ?_ I.iY
   exact Heap.get?_none_of_le (Eb I.ok.bsz I.ok.above)
theorem Inv.stkSub (I:Inv X pins σ H s):∀b∈sg X.stack,b∈X.env.locals :: X.fs:=fun b hb=>by
 rcases I.ok.stk with e | ⟨e,hf⟩
 · rw [e] at hb; exact El _ hb
 · rw [e] at hb
   unfold sg at hb
   rw [EF,hf] at hb
   exact hb
theorem Inv.stkFree (I:Inv X pins σ H s):∀b∈sg X.stack,H b=none:=fun b hb=>by
 rcases List.mem_cons.mp (I.stkSub b hb) with e | hb
 · rw [e]; exact I.free
 · obtain ⟨_,o,ho,_⟩:=I.ok.iY.mem hb
   exact I.base.free b o ho (I.ok.frf b hb) fun z=>I.ok.exfs b z hb

/-- THE Dg: the rq objects but the frame and the records at ch are kept (the iQ frames up to slots),the oR map is kept,the new abstract heap is held -/
theorem Inv.step {g':Array GenState}{t':Nat}{d':Drawn}{ch:List Addr}(I:Inv X pins σ H s)
   (hch:∀b∈ch,(b∈X.ex\/X.s₀.heap.objs.size<=b)/\b≠X.env.locals/\(∀x c,X.env.cells.lookup x=some c->c≠b)/\∀p∈X.pn++pins,p.1≠b)
   (keep:∀b o,b≠X.env.locals->b ∉ X.fs->b ∉ ch->s.heap.get? b=some o->H b=none->h'.get? b=some o)
   (slot:∀b o,b≠X.env.locals->b∈X.fs->b ∉ ch->s.heap.get? b=some o->H b=none->∃sl,h'.get? b=some { o with slots:=sl }) (free:∀b o,b ∉ ch->s.heap.get? b=some o->H b=none->H' b=none)
   (there:∀b o,b ∉ ch->s.heap.get? b=some o->∃o',h'.get? b=some o')
   (tups:∀b xs,H b=some (.tup xs)->H' b=some (.tup xs)) (frzs:∀b o u,H b=some (.frz o u)->H' b=some (.frz o u)) (tbls:∀b ps,H b=some (.tbl ps)->∃more,H' b=some (.tbl (ps++more)))
   (ns:∀m,s.heap.Ns X.env.locals m->h'.Ns X.env.locals m) (hok:eF X.prog X.w H' h') (hg:AllBare g') :
   Inv X pins σ H' { s with heap:=h',gens:=g',drawn:=d',toks:=t' }:=by
 have neL:∀b o,X.s₀.heap.get? b=some o->b≠X.env.locals:=fun b o e=>Ea (DZ (DL e) I.ok.above)
 have neC:∀b o,X.s₀.heap.get? b=some o->b ∉ X.ex->b ∉ ch:=fun b o e hx hb=>by
   rcases (hch b hb).1 with z | z
   · exact hx z
   · exact absurd (DZ (DL e) z) (Fg _)
 have cellK:∀x c,X.env.cells.lookup x=some c->∀v,s.heap.IsCell c v->h'.IsCell c v:=fun x c e v ⟨o,ho,hd⟩=>by
   have nch:c ∉ ch:=fun z=>(hch c z).2.2.1 x c e rfl
   by_cases hc:c∈X.fs
   · obtain ⟨sl,q⟩:=slot c o (I.yi x c e) hc nch ho (I.freeC x c e)
     exact ⟨_,q,hd⟩
   · exact ⟨o,keep c o (I.yi x c e) hc nch ho (I.freeC x c e),hd⟩
 refine ⟨I.ok,I.os,hg,⟨fun b o e n hb hx=>?_,fun b o e n hb hx=>?_,fun b o e n hx=>?_,fun b o e hx=>?_,fun b xs e=>tups b xs (I.base.tups b xs e),fun b o xs e=>frzs b o xs (I.base.frzs b o xs e),fun b ps e=>?_⟩,?_,fun x c e=>?_,?_,fun x c e=>?_,fun p hp=>?_,hok,I.len⟩
 · exact keep b o (neL b o e) hb (neC b o e hx) (I.base.keep b o e n hb hx) (I.base.free b o e n hx)
 · obtain ⟨sl,e1⟩:=I.base.slot b o e n hb hx
   obtain ⟨Dr,e2⟩:=slot b _ (neL b o e) hb (neC b o e hx) e1 (I.base.free b o e n hx)
   exact ⟨Dr,e2⟩
 · obtain ⟨o',e1⟩:=I.base.there b o e hx
   exact free b o' (neC b o e hx) e1 (I.base.free b o e n hx)
 · obtain ⟨o',e1⟩:=I.base.there b o e hx
   exact there b o' (neC b o e hx) e1
 · obtain ⟨m1,e1⟩:=I.base.tbls b ps e
   obtain ⟨m2,e2⟩:=tbls b _ e1
   exact ⟨m1++m2,by rw [e2,Array.append_assoc]⟩
 · obtain ⟨m,hn,hl⟩:=I.loc
   refine ⟨m,ns m hn,fun i x v e1 e2 e3=>?_⟩
   obtain ⟨u,r,l⟩:=hl i x v e1 e2 e3
   refine ⟨u,r,?_⟩
   rcases l with l | ⟨k,c,e,z⟩
   · exact .inl l
   · exact .inr ⟨k,c,e,cellK x c e _ z⟩
 · obtain ⟨v,z⟩:=I.cell x c e
   exact ⟨v,cellK x c e v z⟩
 · obtain ⟨m,⟨o,_,_,ho,_⟩,_⟩:=I.loc
   exact free _ o (fun z=>(hch _ z).2.1 rfl) ho I.free
 · obtain ⟨v,o,ho,hd⟩:=I.cell x c e
   exact free c o (fun z=>(hch c z).2.2.1 x c e rfl) ho (I.freeC x c e)
 · obtain ⟨e,n,ne,nf,d⟩:=I.pin p hp
   have nch:p.1 ∉ ch:=fun z=>(hch p.1 z).2.2.2 p hp rfl
   exact ⟨keep p.1 p.2 ne nf nch e n,free p.1 p.2 nch e n,ne,nf,d⟩
/-- .. where the oR own object is kept too -/
theorem Inv.un {t':Nat}(I:Inv X pins σ H s)(u:Un X.fs [] H H' s.heap h')(hok:eF X.prog X.w H' h'):Inv X pins σ H' { s with heap:=h',toks:=t' }:=by
 obtain ⟨m,⟨o,es,ep,ho,r⟩,_⟩:=id I.loc
 obtain ⟨sl,hL⟩:=u.any ho I.free (by simp)
 exact I.step (g':=s.gens) (d':=s.drawn) (ch:=[]) (fun _ z=>nomatch z) (fun b o _ hb _ e n=>u.keep b o e n hb (by simp)) (fun b o _ hb _ e n=>u.slot b o e n hb (by simp)) (fun b o _ e n=>u.free b o e n (by simp)) (fun b o _ e=>u.there b o e (by simp)) u.tups u.frzs u.tbls (fun m' hm=>by
   obtain ⟨o',es',ep',yv,r'⟩:=hm
   rw [ho] at yv; cases yv
   exact ⟨_,es',ep',hL,r'⟩) hok I.bare
/-- behind a call (or a comprehension's block): the slots of this frame may have changed too,the records at ch may have turned -/
theorem Inv.call {g':Array GenState}{t':Nat}{d':Drawn}{ch:List Addr}(I:Inv X pins σ H s)(u:Un (sg X.stack) ch H H' s.heap h')(hok:eF X.prog X.w H' h')(hg:AllBare g')
   (hch:∀b∈ch,(b∈X.ex\/X.s₀.heap.objs.size<=b)/\b≠X.env.locals/\(∀x c,X.env.cells.lookup x=some c->c≠b)/\∀p∈X.pn++pins,p.1≠b) :
   Inv X pins σ H' { s with heap:=h',gens:=g',drawn:=d',toks:=t' }:=by
 obtain ⟨m,⟨o,es,ep,ho,r⟩,_⟩:=id I.loc
 obtain ⟨sl,hL⟩:=u.any ho I.free fun z=>(hch _ z).2.1 rfl
 exact I.step (ch:=ch) hch (fun b o hL hb hc e n=>u.keep b o e n (fun z=>(List.mem_cons.mp (I.stkSub b z)).elim hL hb) hc) (fun b o _ _ hc e n=>u.any e n hc) (fun b o hc e n=>u.free b o e n hc) (fun b o hc e=>u.there b o e hc) u.tups u.frzs u.tbls (fun m' hm=>by
   obtain ⟨o',es',ep',yv,r'⟩:=hm
   rw [ho] at yv; cases yv
   exact ⟨_,es',ep',hL,r'⟩) hok hg
/-- an rq record of ours (an iterator) has turned -/
theorem Inv.turned {t':Nat}{it:Addr}(I:Inv X pins σ H s)(k:∀b o,b≠it->s.heap.get? b=some o->h'.get? b=some o)(hn:H it=none)(hL:it≠X.env.locals)
   (h1:it∈X.ex\/X.s₀.heap.objs.size<=it) (h2:∀x c,X.env.cells.lookup x=some c->c≠it) (h3:∀p∈X.pn++pins,p.1≠it):Inv X pins σ H { s with heap:=h',toks:=t' }:=by
 have CT:∀b u,H b=some u->b≠it:=fun b u e z=>by rw [z,hn] at e; cases e
 refine I.step (g':=s.gens) (d':=s.drawn) (ch:=[it]) (fun b hb=>?_) (fun b o _ _ hc e _=>k b o (fun z=>hc (by simp [z])) e) (fun b o _ _ hc e _=>⟨o.slots,k b o (fun z=>hc (by simp [z])) e⟩) (fun _ _ _ _ n=>n)
   (fun b o hc e=>⟨o,k b o (fun z=>hc (by simp [z])) e⟩) (fun _ _ e=>e) (fun _ _ _ e=>e) (fun b ps e=>⟨#[],by rw [e]; simp⟩) (fun m hm=>?_) (fun b u e=>?_) I.bare
 · have e:b=it:=by simpa using hb
   subst e
   exact ⟨h1,hL,h2,h3⟩
 · obtain ⟨o,es,ep,ho,r⟩:=hm
   exact ⟨o,es,ep,k _ o (Ne.symm hL) ho,r⟩
 · refine (I.hok b u e).stay (fun c v hc q=>k c v ?_ q) (fun _ q=>q) fun _ _ q=>q
   rcases hc with z | z
   · rw [z]; exact CT b u e
   · exact CT c _ z
theorem Inv.tok (I:Inv X pins σ H s)(t:Nat):Inv X pins σ H { s with toks:=t }:=I.un (h':=s.heap) (t':=t) Un.refl I.hok
/-- all objects kept -/
theorem Inv.kept {t':Nat}(I:Inv X pins σ H s)(k:∀b u,s.heap.get? b=some u->h'.get? b=some u):Inv X pins σ H { s with heap:=h',toks:=t' }:=I.un (Un.kept k) (I.hok.kept k)
/-- a new object laid and tracked -/
theorem Inv.laid {a:Addr}{o:HO}{t':Nat}(I:Inv X pins σ H s)(k:∀b u,s.heap.get? b=some u->h'.get? b=some u)(hp:s.heap.objs.size<=a)(new:aP X.prog X.w (upd H a o) h' a o) :
   Inv X pins σ (upd H a o) { s with heap:=h',toks:=t' }:=I.un (Un.laid k hp (I.hok.fresh hp)) (I.hok.laid k hp new)
/-- an object written -/
theorem Inv.write {x e:Addr}{o:HO}{t':Nat}(I:Inv X pins σ H s)(mu:Ai (H x))(he:e=x\/H e=some (.own x))(k:∀b u,b≠e->s.heap.get? b=some u->h'.get? b=some u)(heo:∃u,h'.get? e=some u)
   (new:aP X.prog X.w (upd H x o) h' x o):Inv X pins σ (upd H x o) { s with heap:=h',toks:=t' }:=I.un (Un.write mu he k heo) (I.hok.write mu he k heo new)
/-- yn slots,pins -/
theorem Inv.weak {σ':List (Option V)}(I:Inv X pins σ H s)(hl:σ'.length=σ.length)(w:∀(i:Nat) v,σ'[i]? = some (some v)->σ[i]? = some (some v)):Inv X pins σ' H s:=
 ⟨I.ok,I.os,I.bare,I.base,let ⟨m,hn,hl'⟩:=I.loc; ⟨m,hn,fun i x v e1 e2 e3=>hl' i x v e1 (w i v e2) e3⟩,I.cell,I.free,I.freeC,I.pin,I.hok,hl.trans I.len⟩
theorem Inv.pA {xB:List (Addr×Obj)}(I:Inv X pins σ H s)(h:∀p∈xB,s.heap.get? p.1=some p.2/\H p.1=none/\p.1≠X.env.locals/\p.1 ∉ X.fs/\∀v,p.2.data≠.cell v):Inv X xB σ H s:=
 ⟨I.ok,I.os,I.bare,I.base,I.loc,I.cell,I.free,I.freeC,fun p hp=>(List.mem_append.mp hp).elim (fun z=>I.pin p (GV _ z)) (h p),I.hok,I.len⟩

theorem mh {N:List Str}(hN:N.Nodup){i j:Nat}{x:Str}(a:N[i]? = some x)(b:N[j]? = some x):i=j:=by
 obtain ⟨h1,e1⟩:=List.getElem?_eq_some_iff.mp a
 obtain ⟨h2,e2⟩:=List.getElem?_eq_some_iff.mp b
 exact (List.getElem_inj hN).mp (e1.trans e2.symm)

/-- a name is stored; what changed -/
theorem kd {M:Model}{A:Around}{E:Value->Shared->Prop}{i:Nat}{x:Str}{v:V}{u:Value}{Q:Unit->Shared->Prop}(I:Inv X pins σ H s)(hN:X.N.Nodup)(hi:X.N[i]? = some x)(hx:Loc X.env.scope x)(r:RelV v u)
   (h:∀s',Inv X pins (σ.set i (some v)) H s'->(∃a,Ey a s.heap s'.heap/\(a=X.env.locals\/X.env.cells.lookup x=some a))->Q () s') (hf:X.fn x=true\/X.env.scope.names.lookup x=some .local:=by first | exact .inl rfl | exact .inr rfl | assumption):wpAny M A (storeName X.env x u) Q E s:=by
 obtain ⟨m,hn,hl⟩:=id I.loc
 have B4:(X.env.scope.kind == .class || (X.env.scope.kind == .module && X.env.locals != X.env.globals))=false:=by rw [I.ok.kind]; rfl
 have hiσ:i < σ.length:=by rw [I.len]; exact (List.getElem?_eq_some_iff.mp hi).1
 have yi:=I.yi
 have tracked:∀{a:Addr} {h':Heap},(∃o,s.heap.get? a=some o/\H a=none)->Ey a s.heap h'->eF X.prog X.w H h':=fun {a h'} ha hs b ob e=>by
   obtain ⟨_,_,xu⟩:=ha
   refine (I.hok b ob e).stay (fun c w' hc q=>(hs.2 c ?_).trans q) (fun _ q=>q) fun _ _ q=>q
   rintro rfl
   rcases hc with rfl | hc
   · rw [xu] at e; cases e
   · rw [xu] at hc; cases hc
 rcases hx with hk | hk
 · refine wpAny_storeName_local hk hn (fun h' Dl hs=>?_) B4
   obtain ⟨oL,_,_,Dm,_⟩:=id hn
   refine h _ ⟨I.ok,I.os,I.bare,⟨fun b o e n hb hx=>?_,fun b o e n hb hx=>?_,I.base.free,fun b o e hx=>?_,I.base.tups,I.base.frzs,I.base.tbls⟩,⟨_,Dl,fun j y v' e1 e2 e3=>?_⟩,fun y c e=>?_,I.free,I.freeC,fun p hp=>?_,tracked ⟨oL,Dm,I.free⟩ hs,by simpa using I.len⟩ ⟨_,hs,.inl rfl⟩
   · exact (hs.2 b (Ea (DZ (DL e) I.ok.above))).trans (I.base.keep b o e n hb hx)
   · obtain ⟨sl,e1⟩:=I.base.slot b o e n hb hx
     exact ⟨sl,(hs.2 b (Ea (DZ (DL e) I.ok.above))).trans e1⟩
   · obtain ⟨o',e1⟩:=I.base.there b o e hx
     exact ⟨o',(hs.2 b (Ea (DZ (DL e) I.ok.above))).trans e1⟩
   · by_cases hj:j=i
     · subst hj
       rw [hi] at e1; cases e1
       rw [GH hiσ] at e2
       cases e2
       exact ⟨u,r,.inl ⟨hk,by simp⟩⟩
     · rw [GW (Ne.symm hj)] at e2
       obtain ⟨u',r',q⟩:=hl j y v' e1 e2 e3
       refine ⟨u',r',?_⟩
       rcases q with ⟨k,e⟩ | ⟨k,c,e,z⟩
       · refine .inl ⟨k,?_⟩
         have:y≠x:=fun e=>hj (mh hN e1 (e ▸ hi))
         simp [this,e]
       · exact .inr ⟨k,c,e,z.sameBut hs (yi y c e)⟩
   · obtain ⟨w',z⟩:=I.cell y c e
     exact ⟨w',z.sameBut hs (yi y c e)⟩
   · obtain ⟨e,n,ne,nf,d⟩:=I.pin p hp
     exact ⟨(hs.2 p.1 ne).trans e,n,ne,nf,d⟩
 · have hfn:X.fn x=true:=by
     rcases hf with z | z
     · exact z
     · rw [z] at hk; cases hk
   obtain ⟨c,hc⟩:=I.ok.has x (.inl hk)
   obtain ⟨w',z⟩:=I.cell x c hc
   refine wpAny_storeName_cell I.ok.kind hk hc z (fun h' hc' hs=>?_)
   obtain ⟨oc,hoc,B6⟩:=id z
   refine h { s with heap:=h' } ⟨I.ok,I.os,I.bare,⟨fun b o e n hb hx=>?_,fun b o e n hb hx=>?_,I.base.free,fun b o e hx=>?_,I.base.tups,I.base.frzs,I.base.tbls⟩,⟨m,hn.sameBut hs (Ne.symm (yi x c hc)),fun j y v' e1 e2 e3=>?_⟩,fun y c' e=>?_,I.free,I.freeC,fun p hp=>?_,tracked ⟨oc,hoc,I.freeC x c hc⟩ hs,by simpa using I.len⟩ ⟨c,hs,.inr hc⟩
   · exact (hs.2 b (Ea (DZ (DL e) (I.ok.cab x c hfn hc)))).trans (I.base.keep b o e n hb hx)
   · obtain ⟨sl,e1⟩:=I.base.slot b o e n hb hx
     exact ⟨sl,(hs.2 b (Ea (DZ (DL e) (I.ok.cab x c hfn hc)))).trans e1⟩
   · obtain ⟨o',e1⟩:=I.base.there b o e hx
     exact ⟨o',(hs.2 b (Ea (DZ (DL e) (I.ok.cab x c hfn hc)))).trans e1⟩
   · by_cases hj:j=i
     · subst hj
       rw [hi] at e1; cases e1
       rw [GH hiσ] at e2
       cases e2
       exact ⟨u,r,.inr ⟨.inl hk,c,hc,hc'⟩⟩
     · rw [GW (Ne.symm hj)] at e2
       obtain ⟨u',r',q⟩:=hl j y v' e1 e2 e3
       refine ⟨u',r',?_⟩
       rcases q with q | ⟨k,c',e,z'⟩
       · exact .inl q
       · refine .inr ⟨k,c',e,z'.sameBut hs ?_⟩
         rintro rfl
         exact hj (mh hN e1 (I.ok.inj _ _ _ e hc ▸ hi))
   · by_cases hcc:c'=c
     · subst hcc; exact ⟨_,hc'⟩
     · obtain ⟨w2,z2⟩:=I.cell y c' e
       exact ⟨w2,z2.sameBut hs hcc⟩
   · obtain ⟨e,n,ne,nf,d⟩:=I.pin p hp
     refine ⟨(hs.2 p.1 ?_).trans e,n,ne,nf,d⟩
     intro q
     rw [q,hoc] at e
     have q':oc=p.2:=D2 e
     exact d w' (by rw [← q']; exact B6)
theorem f6 {M:Model}{A:Around}{E:Value->Shared->Prop}{i:Nat}{x:Str}{v:V}{u:Value}{Q:Unit->Shared->Prop}(I:Inv X pins σ H s)(hN:X.N.Nodup)(hi:X.N[i]? = some x)(hx:Loc X.env.scope x)(r:RelV v u)
   (h:∀s',Inv X pins (σ.set i (some v)) H s'->Q () s') (hf:X.fn x=true\/X.env.scope.names.lookup x=some .local:=by first | exact .inl rfl | exact .inr rfl | assumption):wpAny M A (storeName X.env x u) Q E s:=
 kd I hN hi hx r (fun s' I' _=>h s' I') hf
/-- behind a call or a block,the state as it is -/
theorem Inv.call' {s':Shared}{ch:List Addr}(I:Inv X pins σ H s)(ho:s'.os=s.os)(u:Un (sg X.stack) ch H H' s.heap s'.heap)(hok:eF X.prog X.w H' s'.heap)(hg:AllBare s'.gens)
   (hch:∀b∈ch,(b∈X.ex\/X.s₀.heap.objs.size<=b)/\b≠X.env.locals/\(∀x c,X.env.cells.lookup x=some c->c≠b)/\∀p∈X.pn++pins,p.1≠b):Inv X pins σ H' s':=by
 obtain ⟨h',g',d',t',o'⟩:=s'
 have e:o'=s.os:=ho
 subst e
 exact I.call (g':=g') (t':=t') (d':=d') u hok hg hch
end

/-! ### the yC -/
/-- an exception: its class,its own dict's address (where it has one),the abstract heap behind it -/
abbrev XK:=Value->Option Addr->Hp->Prop
abbrev St:=List (Option V)
abbrev VK:=V->Hp->Prop
/-- an vC reading; a Cr; an argument yH -/
abbrev TE:=St->Hp->VK->Prop
abbrev TT:=St->Hp->(Bool->Hp->Prop)->Prop
abbrev TA:=St->Hp->(List V->Hp->Prop)->Prop
/-- what is wanted behind a Ac -/
structure Ends where
 nx:St->Hp->Prop
 rt:VK
 bk:St->Hp->Prop:=fun _ _=>False
 ct:St->Hp->Prop:=fun _ _=>False
abbrev TS:=Ends->St->Hp->Prop

def EP (X:Cx)(pins:List (Addr×Obj))(σ:St)(Q:VK)(u:Value)(s':Shared):Prop:=∃v H',Inv X pins σ H' s'/\RelV v u/\Q v H'
def TP (X:Cx)(pins:List (Addr×Obj))(σ:St)(Q:Bool->Hp->Prop)(b:Bool)(s':Shared):Prop:=∃H',Inv X pins σ H' s'/\Q b H'
def AP (X:Cx)(pins:List (Addr×Obj))(σ:St)(Q:List V->Hp->Prop)(us:List Value)(s':Shared):Prop:=∃vs H',Inv X pins σ H' s'/\Vals vs us/\Q vs H'
def SP (X:Cx)(pins:List (Addr×Obj))(D:Ends)(f:Flow)(s':Shared):Prop:=
 match f with
 | .next=>∃σ' H',Inv X pins σ' H' s'/\D.nx σ' H'
 | .brk=>∃σ' H',Inv X pins σ' H' s'/\D.bk σ' H'
 | .cont=>∃σ' H',Inv X pins σ' H' s'/\D.ct σ' H'
 | .ret u=>∃v σ' H',Inv X pins σ' H' s'/\RelV v u/\D.rt v H'

def PE (X:Cx)(e:Expr)(t:TE):Prop:=
 ∀(pins:List (Addr×Obj)) (s:Shared) (σ:St) (H:Hp) (Q:VK),Inv X pins σ H s->t σ H Q->wpAny (model X.prog X.w) X.A (eval e X.env) (EP X pins σ Q) X.xe s
def PT (X:Cx)(e:Expr)(t:TT):Prop:=
 ∀(pins:List (Addr×Obj)) (s:Shared) (σ:St) (H:Hp) (Q:Bool->Hp->Prop),Inv X pins σ H s->t σ H Q->wpAny (model X.prog X.w) X.A (isTrue e X.env (eval e X.env)) (TP X pins σ Q) X.xe s
/-- a test whatever its 'Ct is (and,or) -/
def PW (X:Cx)(e:Expr)(t:TT):Prop:=
 ∀(whole:Sem Value) (pins:List (Addr×Obj)) (s:Shared) (σ:St) (H:Hp) (Q:Bool->Hp->Prop),Inv X pins σ H s->t σ H Q->wpAny (model X.prog X.w) X.A (isTrue e X.env whole) (TP X pins σ Q) X.xe s
theorem PW.pt {X:Cx}{e:Expr}{t:TT}(h:PW X e t):PT X e t:=h _
/-- an argument list (no star),from the left -/
def PA (X:Cx)(es:List Expr)(t:TA):Prop:=
 ∀(pos:Pos) (pins:List (Addr×Obj)) (s:Shared) (σ:St) (H:Hp) (Q:List V->Hp->Prop),Inv X pins σ H s->t σ H Q->wpAny (model X.prog X.w) X.A (spliced (backTo pos (starEach es X.env))) (AP X pins σ Q) X.xe s
def PS (X:Cx)(st:Stmt)(t:TS):Prop:=
 ∀(pins:List (Addr×Obj)) (s:Shared) (σ:St) (H:Hp) (D:Ends),Inv X pins σ H s->t D σ H->wpAny (model X.prog X.w) X.A (exec st X.env) (SP X pins D) X.xe s
def lg (X:Cx)(st:List Stmt)(t:TS):Prop:=
 ∀(pins:List (Addr×Obj)) (s:Shared) (σ:St) (H:Hp) (D:Ends),Inv X pins σ H s->t D σ H->wpAny (model X.prog X.w) X.A (execs st X.env) (SP X pins D) X.xe s
/-- weaken the end -/
theorem aX {α:Type}{t:Sem α}{Q Q':α->Shared->Prop}{M:Model}{A:Around}{E:Value->Shared->Prop}{s:Shared}(h:wpAny M A t Q E s)(hQ:∀a s,Q a s->Q' a s):wpAny M A t Q' E s:=wpAny_mono h hQ fun _ _ x=>x
end L2

namespace L2
open PySem PySem.Spec PyProof.Rows
section
variable {X:Cx}

/-! ### names and constants -/
def oi (i:Nat):TE:=fun σ H Q=>∃v,σ[i]? = some (some v)/\Q v H
def tC (v:V):TE:=fun _ H Q=>Q v H
theorem zi {i:Nat}{x:Str}{pos:Pos}(hN:X.N[i]? = some x)(hv:BS X.env.scope x)(hd:(x == ("__debug__":Str))=false:=by decide)(hcd:(x == ("__classdict__":Str))=false:=by decide):PE X (.Name x pos) (oi i):=by
 intro pins s σ H Q I h
 obtain ⟨v,e,h⟩:=h
 obtain ⟨m,hn,hl⟩:=I.loc
 obtain ⟨u,r,l⟩:=hl i x v hN e hv
 have fin:EP X pins σ Q u s:=⟨v,H,I,r,h⟩
 rcases l with ⟨hk,hm⟩ | ⟨hk,c,hc,xt⟩
 · exact wpAny_Name (wpAny_loadName_local I.ok.kind hk hn hm fin) hd
 · rcases hk with hk | hk
   · exact wpAny_Name (wpAny_loadName_cell I.ok.kind hk hc xt fin) hd
   · exact wpAny_Name (wpAny_loadName_free I.ok.kind hk hc xt fin hcd) hd
theorem za {i j pos}:PE X (.Constant (.int i) j pos) (tC (.int i)):=fun _ _ _ H _ I h=>wpAny_Constant_int ⟨.int i,H,I.tok _,⟨_,rfl⟩,h⟩
theorem AX {b j pos}:PE X (.Constant (.bool b) j pos) (tC (.bl b)):=fun _ _ _ H _ I h=>Constant_bool ⟨.bl b,H,I,rfl,h⟩
theorem zc {j pos}:PE X (.Constant .none j pos) (tC .aU):=fun _ _ _ H _ I h=>Constant_none ⟨.aU,H,I,rfl,h⟩
theorem zg {x j pos}:PE X (.Constant (.str x) j pos) (tC (.str x)):=fun _ _ _ H _ I h=>Calls.Constant_str ⟨.str x,H,I.tok _,⟨_,rfl⟩,h⟩

/-- a global name of the def -/
def Gl (X:Cx)(x:Str):Prop:=X.env.kindOf x=some .globalImplicit
theorem vS {E:Value->Shared->Prop}{pins:List (Addr×Obj)}{s:Shared}{σ:St}{H:Hp}{x:Str}{u:Value}{pos:Pos}{Q:Value->Shared->Prop}(I:Inv X pins σ H s)(hg:Gl X x)(hm:X.mg x=some u)(h:Q u s)
   (hd:(x == ("__debug__":Str))=false:=by decide):wpAny (model X.prog X.w) X.A (eval (.Name x pos) X.env) Q E s:=
 Gp I.ok.kind hg (Calls.loadGlobal_global (by rw [I.ok.glob]; exact I.mod.glob.keeps I.bk) hm h) hd
theorem dr {E:Value->Shared->Prop}{pins:List (Addr×Obj)}{s:Shared}{σ:St}{H:Hp}{x:Str}{u:Value}{pos:Pos}{Q:Value->Shared->Prop}(I:Inv X pins σ H s)(hg:Gl X x)(hm:X.mg x=none)(hv:bootBuiltins x=some u)(h:Q u s)
   (hn:x≠"__name__":=by decide) (hd:(x == ("__debug__":Str))=false:=by decide):wpAny (model X.prog X.w) X.A (eval (.Name x pos) X.env) Q E s:=by
 obtain ⟨mb,h1,h2⟩:=I.mod.blt
 exact Gp I.ok.kind hg (Calls.loadGlobal_builtin (by rw [I.ok.glob]; exact I.mod.glob.keeps I.bk) hm (by rw [I.ok.blt]; exact h1.keeps I.bk) ((h2 x hn).trans hv) h) hd
theorem wD {x:Str}{v:V}{u:Value}{pos:Pos}(hg:Gl X x)(hm:X.mg x=none)(hv:bootBuiltins x=some u)(r:RelV v u)(hn:x≠"__name__":=by decide)(hd:(x == ("__debug__":Str))=false:=by decide):PE X (.Name x pos) (tC v):=
 fun _ _ _ H _ I h=>dr I hg hm hv ⟨v,H,I,r,h⟩ hn hd

/-! ### yd -/
variable {a b:Expr}{ta tb:TE}{pos:Pos}
/-! ### comparisons -/
def PC (X:Cx)(op:CmpOp)(a b:Expr)(t:TE):Prop:=
 ∀(pins:List (Addr×Obj)) (s:Shared) (σ:St) (H:Hp) (Q:VK),Inv X pins σ H s->t σ H Q ->
   wpAny (model X.prog X.w) X.A (eval a X.env) (fun v s₁=>wpAny (model X.prog X.w) X.A (eval b X.env) (fun u s₂=>wpAny (model X.prog X.w) X.A (compareOp op v u) (EP X pins σ Q) X.xe s₂) X.xe s₁) X.xe s
/-- a mT as a value,as a test -/
def tB (t:TE):TT:=fun σ H Q=>t σ H fun x H1=>∃c,x=.bl c/\Q c H1
theorem zu {op:CmpOp}{t:TE}(h:PC X op a b t)(h1:behindInMarks op b=false:=by first | exact nobehind _ (by decide) (by decide) | rfl):PT X (.Compare a [op] [b] pos) (tB t):=by
 intro pins s σ H Q I hw
 refine wpAny_isTrue_Compare1 (aX (h pins s σ H _ I hw) fun v s1 h1=>aX h1 fun u s2 h2=>aX h2 fun c s3 ⟨x,H1,I1,r1,q1⟩=>?_) h1
 obtain ⟨d,rfl,q⟩:=q1
 cases r1
 exact wpAny_truthy_bool ⟨H1,I1,q⟩
/-- an expression whose value is a bool,as a test -/
theorem zw {e:Expr}{t:TE}(h:PE X e t)(he:∀whole,isTrue e X.env whole=(do let v ← whole; standAt e.pos; holding [v] (truthy v)):=by intro _; rfl):PT X e (tB t):=by
 intro pins s σ H Q I hw
 refine isTrue_plain (aX (h pins s σ H _ I hw) fun v s1 ⟨x,H1,I1,r1,q1⟩=>?_) (he _)
 obtain ⟨d,rfl,q⟩:=q1
 cases r1
 exact wpAny_truthy_bool ⟨H1,I1,q⟩

/-! ### and,or,not -/
variable {tA BI:TT}{rest:List Expr}
def Bi (t u:TT):TT:=fun σ H Q=>t σ H fun c H1=>if c=true then u σ H1 Q else Q false H1
def C1 (t u:TT):TT:=fun σ H Q=>t σ H fun c H1=>if c=true then Q true H1 else u σ H1 Q
def Bk (t:TT):TT:=fun σ H Q=>t σ H fun c H1=>Q (!c) H1
theorem wX (ha:PT X a tA):PW X (.BoolOp .And [a] pos) tA:=by
 intro wh pins s σ H Q I h
 refine isTrue_and (aX (ha pins s σ H Q I h) fun c s1 e=>?_)
 cases c with
 | true=>exact isTrue_and_nil e
 | false=>exact e
theorem zy (ha:PT X a tA):PW X (.BoolOp .Or [a] pos) tA:=by
 intro wh pins s σ H Q I h
 refine isTrue_or (aX (ha pins s σ H Q I h) fun c s1 e=>?_)
 cases c with
 | false=>exact isTrue_or_nil e
 | true=>exact e
theorem zx (ha:PT X a tA)(hb:PW X (.BoolOp .And (b :: rest) pos) BI):PW X (.BoolOp .And (a :: b :: rest) pos) (Bi tA BI):=by
 intro wh pins s σ H Q I h
 refine isTrue_and (aX (ha pins s σ H _ I h) fun c s1 ⟨H1,I1,q1⟩=>?_)
 cases c with
 | true=>exact hb wh pins s1 σ H1 Q I1 q1
 | false=>exact ⟨H1,I1,q1⟩
theorem A6 (ha:PT X a tA)(hb:PW X (.BoolOp .Or (b :: rest) pos) BI):PW X (.BoolOp .Or (a :: b :: rest) pos) (C1 tA BI):=by
 intro wh pins s σ H Q I h
 refine isTrue_or (aX (ha pins s σ H _ I h) fun c s1 ⟨H1,I1,q1⟩=>?_)
 cases c with
 | true=>exact ⟨H1,I1,q1⟩
 | false=>exact hb wh pins s1 σ H1 Q I1 q1
theorem zv (ha:PT X a tA):PT X (.UnaryOp .Not a pos) (Bk tA):=by
 intro pins s σ H Q I h
 exact isTrue_not (ha pins s σ H (fun c H1=>Q (!c) H1) I h)
/-- .. as values (bools) -/
def xI (ta tb:TE):TE:=fun σ H Q=>ta σ H fun x H1=>∃c,x=.bl c/\if c=true then tb σ H1 Q else Q (.bl false) H1
def xO (ta:TE):TE:=fun σ H Q=>ta σ H fun x H1=>∃c,x=.bl c/\Q (.bl (!c)) H1
theorem ze {op}{t:TE}(h:PE X a t):PE X (.BoolOp op [a] pos) t:=fun pins s σ H Q I hw=>BoolOp_one (h pins s σ H Q I hw)
theorem y8 (ha:PE X a ta)(hb:PE X (.BoolOp .And (b :: rest) pos) tb):PE X (.BoolOp .And (a :: b :: rest) pos) (xI ta tb):=by
 intro pins s σ H Q I h
 refine BoolOp_and (aX (ha pins s σ H _ I h) fun v s1 ⟨x,H1,I1,r1,q1⟩=>?_)
 obtain ⟨c,rfl,q1⟩:=q1
 cases r1
 refine wpAny_truthy_bool ?_
 cases c with
 | true=>exact hb pins s1 σ H1 Q I1 q1
 | false=>exact ⟨.bl false,H1,I1,rfl,q1⟩
theorem zd (ha:PE X a ta):PE X (.UnaryOp .Not a pos) (xO ta):=by
 intro pins s σ H Q I h
 refine UnaryOp_ (aX (ha pins s σ H _ I h) fun v s1 ⟨x,H1,I1,r1,q1⟩=>?_)
 obtain ⟨c,rfl,q1⟩:=q1
 cases r1
 exact not_of (wpAny_truthy_bool ⟨.bl (!c),H1,I1,rfl,q1⟩)
/-- a if t else b -/
def C0 (t:TT)(ta tb:TE):TE:=fun σ H Q=>t σ H fun c H1=>if c=true then ta σ H1 Q else tb σ H1 Q
theorem uk {c:Expr}(hc:PT X c tA)(ha:PE X a ta)(hb:PE X b tb):PE X (.IfExp c a b pos) (C0 tA ta tb):=by
 intro pins s σ H Q I h
 refine wpAny_IfExp (aX (hc pins s σ H _ I h) fun d s1 ⟨H1,I1,q1⟩=>?_)
 cases d with
 | true=>exact ha pins s1 σ H1 Q I1 q1
 | false=>exact hb pins s1 σ H1 Q I1 q1
end
end L2

namespace L2
open PySem PySem.Spec PyProof.Rows

/-! ### a list,a tuple that is read: tracked,frozen,or an object of the module -/
def ao (K:DA)(H:Hp)(a:Addr)(xs:List V):Prop:=
 Rd H a (.lst xs) \/
   ∃(o:Obj) (its:Array Value) (n:Nat),K.lookup a=some o/\o.cls=.type "list"/\o.dict=none/\o.data=.seq its n/\its.size<=sizeLine/\Vals xs its.toList
def aq (K:DA)(H:Hp)(a:Addr)(xs:List V):Prop:=
 Rd H a (.tup xs) \/
   ∃(o:Obj) (its:Array Value) (n:Nat),K.lookup a=some o/\o.cls=.type "tuple"/\o.data=.seq its n/\its.size<=sizeLine/\Vals xs its.toList
def BV:Value->Option V
 | .none=>some .aU
 | .bool b=>some (.bl b)
 | .int i _=>some (.int i)
 | .str x _=>some (.str x)
 | .bytes b _=>some (.byt b)
 | .float b _=>some (.flt b)
 | .ref a=>some (.ref a)
 | .type n=>some (.ty n)
 | _=>none
theorem RelV.abs {x:V}{u:Value}(r:RelV x u):BV u=some x:=by
 cases x with
 | aU=>cases r; rfl
 | bl _=>cases r; rfl
 | int _=>obtain ⟨t,rfl⟩:=r; rfl
 | str _=>obtain ⟨t,rfl⟩:=r; rfl
 | byt _=>obtain ⟨t,rfl⟩:=r; rfl
 | flt _=>obtain ⟨t,rfl⟩:=r; rfl
 | ref _=>cases r; rfl
 | ty _=>cases r; rfl
theorem RelV.inj {x y:V}{u:Value}(r:RelV x u)(q:RelV y u):x=y:=D2 (r.abs.symm.trans q.abs)
theorem Vals.inj:∀{xs ys:List V} {us:List Value},Vals xs us->Vals ys us->xs=ys
 | _,_,_,.nil,.nil=>rfl
 | _,_,_,.cons r t,.cons r' t'=>by rw [r.inj r',Vals.inj t t']
section
variable {X:Cx}{pins:List (Addr×Obj)}{σ:St}{H:Hp}{s:Shared}{a:Addr}{xs ys:List V}
theorem ao.of {K:DA}(h:H a=some (.lst xs)):ao K H a xs:=.inl (.inl h)
theorem aq.of {K:DA}(h:H a=some (.tup xs)):aq K H a xs:=.inl (.inl h)
theorem Inv.list (I:Inv X pins σ H s)(h:ao X.K H a xs):∃its:List Value,Vals xs its/\PlainL s.heap a its.toArray/\xs.length<=sizeLine:=by
 rcases h with h | ⟨o,its,n,hk,hc,hd,hs,hz,r⟩
 · obtain ⟨z,its,n,r,e⟩:=h.ok I.hok
   exact ⟨its,r,⟨_,n,e,rfl,rfl,rfl⟩,z⟩
 · refine ⟨its.toList,r,⟨o,n,I.kIn a o hk,hc,hd,by simpa using hs⟩,?_⟩
   have e:=r.length
   simp only [EO] at e
   omega
theorem Inv.tuple (I:Inv X pins σ H s)(h:aq X.K H a xs):∃its:List Value,Vals xs its/\IsTup s.heap a its.toArray/\xs.length<=sizeLine:=by
 rcases h with h | ⟨o,its,n,hk,hc,hs,hz,r⟩
 · obtain ⟨z,its,r,p⟩:=h.ok I.hok
   exact ⟨its,r,p,z⟩
 · refine ⟨its.toList,r,⟨o,I.kIn a o hk,hc,n,by simpa using hs⟩,?_⟩
   have e:=r.length
   simp only [EO] at e
   omega
theorem Inv.list_inj (I:Inv X pins σ H s)(h:ao X.K H a xs)(h':ao X.K H a ys):xs=ys:=by
 obtain ⟨its,r,⟨o,n,e,_,_,d⟩,_⟩:=I.list h
 obtain ⟨its',r',⟨o',n',e',_,_,d'⟩,_⟩:=I.list h'
 rw [e] at e'; cases e'
 rw [d] at d'
 injection d' with d1 _
 have:its=its':=by simpa using congrArg Array.toList d1
 subst this
 exact r.inj r'
theorem Inv.rn (I:Inv X pins σ H s)(h:aq X.K H a xs)(h':aq X.K H a ys):xs=ys:=by
 obtain ⟨its,r,⟨o,e,_,n,d⟩,_⟩:=I.tuple h
 obtain ⟨its',r',⟨o',e',_,n',d'⟩,_⟩:=I.tuple h'
 rw [e] at e'; cases e'
 rw [d] at d'
 injection d' with d1 _
 have:its=its':=by simpa using congrArg Array.toList d1
 subst this
 exact r.inj r'
end

/-! ### another iu about exceptions -/
abbrev Cx.iu (X:Cx)(E:Value->Shared->Prop):Cx:={ X with xe:=E }
/-- no exception leaves -/
abbrev Cx.nox (X:Cx):Cx:=X.iu fun _ _=>False
theorem Cx.Ok.iu {X:Cx}(ok:X.Ok)(E:Value->Shared->Prop):(X.iu E).Ok:=
 ⟨ok.mod,ok.kind,ok.glob,ok.blt,ok.above,ok.inj,ok.has,ok.cab,ok.hd,ok.frames,ok.stk,ok.exf,ok.bs,ok.bsz,ok.noex,ok.exfs,ok.iY,ok.frf⟩
theorem Cx.Ok.d7 {X:Cx}{E:Value->Shared->Prop}(ok:(X.iu E).Ok):X.Ok:=
 ⟨ok.mod,ok.kind,ok.glob,ok.blt,ok.above,ok.inj,ok.has,ok.cab,ok.hd,ok.frames,ok.stk,ok.exf,ok.bs,ok.bsz,ok.noex,ok.exfs,ok.iY,ok.frf⟩
section
variable {X:Cx}{pins:List (Addr×Obj)}{σ:St}{H:Hp}{s:Shared}{E:Value->Shared->Prop}
theorem Inv.iu (I:Inv X pins σ H s)(E:Value->Shared->Prop):Inv (X.iu E) pins σ H s:=⟨I.ok.iu E,I.os,I.bare,I.base,I.loc,I.cell,I.free,I.freeC,I.pin,I.hok,I.len⟩
theorem Inv.d7 (I:Inv (X.iu E) pins σ H s):Inv X pins σ H s:=⟨I.ok.d7,I.os,I.bare,I.base,I.loc,I.cell,I.free,I.freeC,I.pin,I.hok,I.len⟩
theorem SP.d7 {D:Ends}{f:Flow}{s':Shared}(h:SP (X.iu E) pins D f s'):SP X pins D f s':=by
 cases f with
 | next=>obtain ⟨σ',H',I,q⟩:=h; exact ⟨σ',H',I.d7,q⟩
 | brk=>obtain ⟨σ',H',I,q⟩:=h; exact ⟨σ',H',I.d7,q⟩
 | cont=>obtain ⟨σ',H',I,q⟩:=h; exact ⟨σ',H',I.d7,q⟩
 | ret u=>obtain ⟨v,σ',H',I,r,q⟩:=h; exact ⟨v,σ',H',I.d7,r,q⟩
theorem lg.nox {st:List Stmt}{t:TS}(h:lg X.nox st t):lg X st t:=fun pins s σ H D I hw=>
 wpAny_mono (h pins s σ H D (I.iu _) hw) (fun _ _ q=>q.d7) fun _ _ z=>E2 z
end

/-! ### blocks and small statements -/
section
variable {X:Cx}{st:Stmt}{rest:List Stmt}{t u:TS}{e:Expr}{te:TE}{pos:Pos}
def xN:TS:=fun D σ H=>D.nx σ H
def gO (t u:TS):TS:=fun D σ H=>t { D with nx:=u D } σ H
theorem wU:lg X [] xN:=fun _ _ σ H _ I h=>FV ⟨σ,H,I,h⟩
theorem uv (h1:PS X st t)(h2:lg X rest u):lg X (st :: rest) (gO t u):=by
 intro pins s σ H D I h
 refine wpAny_execs_cons (aX (h1 pins s σ H { D with nx:=u D } I h) fun f s1 q=>?_)
 cases f with
 | next=>
   obtain ⟨σ',H',I',q⟩:=q
   exact h2 pins s1 σ' H' D I' q
 | ret v=>exact q
 | brk=>exact q
 | cont=>exact q
theorem wV (h1:PS X st t):lg X [st] t:=by
 intro pins s σ H D I h
 refine wpAny_execs_cons (aX (h1 pins s σ H D I h) fun f s1 q=>?_)
 cases f with
 | next=>exact FV q
 | ret v=>exact q
 | brk=>exact q
 | cont=>exact q
/-- in a def's body nothing is shown -/
theorem Inv.quiet {pins:List (Addr×Obj)}{σ:St}{H:Hp}{s:Shared}(I:Inv X pins σ H s):interactive X.env=false:=by simp [interactive,I.ok.kind]
/-- an expression whose value is dropped -/
def xK (te:TE):TS:=fun D σ H=>te σ H fun _ H1=>D.nx σ H1
theorem wO (he:PE X e te)(hs:swapsWith e none pos.line X.env=pure false:=by rfl):PS X (.Expr e pos) (xK te):=by
 intro pins s σ H D I h
 exact wpAny_Expr_any (aX (he pins s σ H _ I h) fun v s1 ⟨x,H1,I1,r1,q1⟩=>⟨σ,H1,I1,q1⟩) I.quiet hs
def Bl (te:TE):TS:=fun D σ H=>te σ H D.rt
theorem zr (he:PE X e te):PS X (.Return (some e) pos) (Bl te):=by
 intro pins s σ H D I h
 exact wpAny_Return_some (aX (he pins s σ H _ I h) fun v s1 ⟨x,H1,I1,r1,q1⟩=>⟨x,σ,H1,I1,r1,q1⟩)
def zL (c:TT)(t u:TS):TS:=fun D σ H=>c σ H fun b H1=>if b=true then t D σ H1 else u D σ H1
theorem A4 {c:Expr}{a b:List Stmt}{tc:TT}(hc:PT X c tc)(ha:lg X a t)(hb:lg X b u):PS X (.If c a b pos) (zL tc t u):=by
 intro pins s σ H D I h
 refine wpAny_If (aX (hc pins s σ H _ I h) fun d s1 ⟨H1,I1,q1⟩=>?_)
 cases d with
 | true=>exact ha pins s1 σ H1 D I1 q1
 | false=>exact hb pins s1 σ H1 D I1 q1
/-- code that the proof never comes to -/
def uS:TS:=fun _ _ _=>False
theorem rg {Ds:List Stmt}:lg X Ds uS:=fun _ _ _ _ _ _ h=>h.elim
end

/-! ### targets -/
abbrev TG:=V->St->Hp->(St->Hp->Prop)->Prop
abbrev TGs:=List V->St->Hp->(St->Hp->Prop)->Prop
def PG (X:Cx)(target:Expr)(t:TG):Prop:=
 ∀(pins:List (Addr×Obj)) (s:Shared) (σ:St) (H:Hp) (v:V) (u:Value) (Q:St->Hp->Prop),Inv X pins σ H s->RelV v u->t v σ H Q ->
   wpAny (model X.prog X.w) X.A (assign target X.env u) (fun _ s'=>∃σ' H',Inv X pins σ' H' s'/\Q σ' H') X.xe s
/-- BH targets,one after another -/
def Aj (X:Cx)(ts:List Expr)(t:TGs):Prop:=
 ∀(pins:List (Addr×Obj)) (s:Shared) (σ:St) (H:Hp) (vs:List V) (us:List Value) (Q:St->Hp->Prop),Inv X pins σ H s->Vals vs us->t vs σ H Q ->
   wpAny (model X.prog X.w) X.A (assignInOrder ((assignEach ts X.env).map (·.2)) us) (fun _ s'=>∃σ' H',Inv X pins σ' H' s'/\Q σ' H') X.xe s
/-- o[i]=v,by values -/
abbrev x8:=V->V->V->Hp->(Hp->Prop)->Prop
def Ak (X:Cx)(t:x8):Prop:=
 ∀(pins:List (Addr×Obj)) (s:Shared) (σ:St) (H:Hp) (o i v:V) (ov iv u:Value) (Q:Hp->Prop),Inv X pins σ H s->RelV o ov->RelV i iv->RelV v u->t o i v H Q ->
   wpAny (model X.prog X.w) X.A (setItem ov iv u) (fun _ s'=>∃H',Inv X pins σ H' s'/\Q H') X.xe s
section
variable {X:Cx}{pos:Pos}
def gS (i:Nat):TG:=fun v σ H Q=>Q (σ.set i (some v)) H
theorem wJ {i:Nat}{x:Str}(hN:X.N.Nodup)(hi:X.N[i]? = some x)(hx:Loc X.env.scope x)(hf:X.fn x=true\/X.env.scope.names.lookup x=some .local:=by first | exact .inl rfl | exact .inr rfl | assumption):PG X (.Name x pos) (gS i):=by
 intro pins s σ H v u Q I r h
 exact wpAny_assign_Name (f6 I hN hi hx r (fun s' I'=>⟨_,H,I',h⟩) hf)
def As:TGs:=fun vs σ H Q=>vs=[]/\Q σ H
def xr (t:TG)(u:TGs):TGs:=fun vs σ H Q=>∃v r,vs=v :: r/\t v σ H fun σ' H'=>u r σ' H' Q
theorem wK:Aj X [] As:=by
 intro pins s σ H vs us Q I r h
 obtain ⟨e,h⟩:=h
 subst e
 cases r
 exact assignInOrder_nil ⟨σ,H,I,h⟩
theorem uo {e:Expr}{es:List Expr}{t:TG}{u:TGs}(h1:PG X e t)(h2:Aj X es u)
   (hs:(assignEach (e :: es) X.env).map (·.2)=assign e X.env :: (assignEach es X.env).map (·.2):=by rfl):Aj X (e :: es) (xr t u):=by
 intro pins s σ H vs us Q I r h
 obtain ⟨v,vr,e1,h⟩:=h
 subst e1
 cases r with
 | cons r rr=>
   rw [hs]
   refine assignInOrder_cons (aX (h1 pins s σ H _ _ _ I r h) fun _ s1 ⟨σ1,H1,I1,q1⟩=>?_)
   exact h2 pins s1 σ1 H1 _ _ Q I1 rr q1
/-- (a,b,..)=a tuple of that length -/
def Au (K:DA)(n:Nat)(t:TGs):TG:=fun v σ H Q=>∃a xs,v=.ref a/\aq K H a xs/\xs.length=n/\t xs σ H Q
theorem zj {es:List Expr}{k:Nat}{t:TGs}{n:Nat}(hc:X.calm=true)(h:Aj X es t)
   (hn:(assignEach es X.env).length=n:=by rfl) (hst:(assignEach es X.env).findIdx? (·.1)=none:=by rfl):PG X (.Tuple es k pos) (Au X.K n t):=by
 intro pins s σ H v u Q I r hw
 obtain ⟨a,xs,e1,hq,hl,hw⟩:=hw
 subst e1
 cases r
 obtain ⟨its,rv,ht,hz⟩:=I.tuple hq
 refine assign_Tuple_tuple (I.ok.hd hc) ht (by simp [hn,← hl,rv.length]) hst fun h' hx=>?_
 have I1:Inv X pins σ H { s with heap:=h' }:=I.kept (t':=s.toks) fun b o e=>hx b o (Ea (DL e)) e
 exact h pins _ σ H xs _ Q I1 (by simpa using rv) hw
/-- o[i]=.. -/
def yq (to ti:TE)(t:x8):TG:=fun v σ H Q=>to σ H fun o H1=>ti σ H1 fun i H2=>t o i v H2 fun H3=>Q σ H3
theorem um {o i:Expr}{to ti:TE}{t:x8}(ho:PE X o to)(hi:PE X i ti)(hs:Ak X t)
   (ha:∀v,assign (.Subscript o i pos) X.env v=(do
     let ov ← holding [v] (eval o X.env)
     let iv ← holding [v,ov] (eval i X.env)
     standAt pos
     holding [v,ov,iv] (setItem ov iv v)
     release [v,ov,iv] []):=by intro _; rfl):PG X (.Subscript o i pos) (yq to ti t):=by
 intro pins s σ H v u Q I r h
 rw [ha]
 refine wpAny_bind (wpAny_holding (aX (ho pins s σ H _ I h) fun ov s1 ⟨x,H1,I1,r1,q1⟩=>?_))
 refine wpAny_bind (wpAny_holding (aX (hi pins s1 σ H1 _ I1 q1) fun iv s2 ⟨y,H2,I2,r2,q2⟩=>?_))
 refine wpAny_bind (wpAny_standAt (wpAny_bind (wpAny_holding (aX (hs pins s2 σ H2 x y v ov iv u _ I2 r1 r2 r q2) fun _ s3 ⟨H3,I3,q3⟩=>?_))))
 exact wpAny_release ⟨σ,H3,I3,q3⟩
/-- target=value -/
def oh (te:TE)(g:TG):TS:=fun D σ H=>te σ H fun x H1=>g x σ H1 D.nx
theorem zp {tg e:Expr}{te:TE}{g:TG}(he:PE X e te)(hg:PG X tg g)(hs:swapsWithSole [tg] e pos.line X.env=pure false:=by rfl)(hw:swappedStores [tg] e X.env=pure none:=by rfl)
   (h1:(assignEach [tg] X.env).map (·.2)=[assign tg X.env]:=by rfl):PS X (.Assign [tg] e pos) (oh te g):=by
 intro pins s σ H D I h
 refine wpAny_Assign_stores (aX (he pins s σ H _ I h) fun v s1 ⟨x,H1,I1,r1,q1⟩=>?_) hs hw
 rw [h1]
 exact aX (hg pins s1 σ H1 x v _ I1 r1 q1) fun _ s2 q=>q
/-- name=value -/
theorem zt {i:Nat}{x:Str}{e:Expr}{te:TE}{pos':Pos}(hN:X.N.Nodup)(hi:X.N[i]? = some x)(hx:Loc X.env.scope x)(he:PE X e te)(hs:swapsWith e (some (.Name x pos')) pos.line X.env=pure false:=by rfl)(hf:X.fn x=true\/X.env.scope.names.lookup x=some .local:=by first | exact .inl rfl | exact .inr rfl | assumption) :
   PS X (.Assign [.Name x pos'] e pos) (oh te (gS i)):=by
 intro pins s σ H D I h
 refine wpAny_Assign_Name (aX (he pins s σ H _ I h) fun v s1 ⟨y,H1,I1,r1,q1⟩=>?_) hs
 exact f6 I1 hN hi hx r1 (fun s2 I2=>⟨_,H1,I2,q1⟩) hf
end

/-! ### while -/
section
variable {X:Cx}{pos:Pos}
/-- the invariant W with its measure -/
def uT (c:TT)(tb:TS):TS:=fun D σ H=>∃W:Nat->St->Hp->Prop,(∃m,W m σ H)/\∀m σ H,W m σ H ->
 c σ H fun b H1=>if b=true then ∃N:St->Hp->Prop,(∀σ' H',N σ' H'->∃m',m' < m/\W m' σ' H')/\tb { D with nx:=N,ct:=N,bk:=D.nx } σ H1 else D.nx σ H1
theorem uu {c:Expr}{body:List Stmt}{tc:TT}{tb:TS}(hp:PassesOwn (model X.prog X.w) X.A X.env X.xe)(hc:PT X c tc)(hb:lg X body tb):PS X (.While c body [] pos) (uT tc tb):=by
 intro pins s σ H D I h
 obtain ⟨W,⟨m0,w0⟩,turn⟩:=h
 refine wpAny_While (codeAny_whileLoop (fun n s'=>∃σ' H',Inv X pins σ' H' s'/\W n σ' H') ?_ m0 ⟨σ,H,I,w0⟩)
 rintro n s1 ⟨σ1,H1,I1,w1⟩
 refine EY hp (aX (hc pins s1 σ1 H1 _ I1 (turn n σ1 H1 w1)) fun b s2 ⟨H2,I2,q2⟩=>?_)
 cases b with
 | true=>
   obtain ⟨N,hN,q2⟩:=q2
   rw [if_pos rfl]
   refine EY hp (aX (hb pins s2 σ1 H2 _ I2 q2) fun f s3 q3=>?_)
   cases f with
   | next=>
     obtain ⟨σ3,H3,I3,n3⟩:=q3
     obtain ⟨m',hm,w3⟩:=hN σ3 H3 n3
     exact ⟨m',hm,σ3,H3,I3,w3⟩
   | cont=>
     obtain ⟨σ3,H3,I3,n3⟩:=q3
     obtain ⟨m',hm,w3⟩:=hN σ3 H3 n3
     exact ⟨m',hm,σ3,H3,I3,w3⟩
   | brk=>exact q3
   | ret v=>exact q3
 | false=>
   rw [if_neg DU]
   exact FV ⟨σ1,H2,I2,q2⟩
end

/-! ### what a loop or a comprehension walks -/
/-- at turn i: it yields x (the heap may grow),or it CZ -/
structure It where
 go:Nat->Hp->Prop
 yld:Nat->Hp->V->Hp->Prop
 stop:Nat->Hp->Prop
/-- the nI own objects may turn: they are not the oR,not pinned,BK Dt the entry (or a comprehension's own) -/
def cq (X:Cx)(pins:List (Addr×Obj))(H:Hp)(b:Addr):Prop:=
 H b=none/\b≠X.env.locals/\b ∉ X.fs/\(b∈X.ex\/X.s₀.heap.objs.size<=b)/\(∀x c,X.env.cells.lookup x=some c->c≠b)/\∀p∈X.pn++pins,p.1≠b
theorem Inv.fpOk {X:Cx}{pins:List (Addr×Obj)}{σ:St}{H H':Hp}{s:Shared}{b:Addr}(I:Inv X pins σ H s)(hb:s.heap.objs.size<=b)(hn:H' b=none):cq X pins H' b:=by
 refine ⟨hn,Fs (DZ I.lt hb),I.Cg hb,.inr (Eb I.sz hb),fun x c e z=>?_,fun p hp z=>?_⟩
 · obtain ⟨v,q⟩:=I.cell x c e
   exact absurd (DZ q.lt (by rw [z]; exact hb)) (Fg _)
 · exact absurd (DZ (DL (I.pin p hp).1) (by rw [z]; exact hb)) (Fg _)
structure Turn (P:Program)(w:World)(K:DA)(tg:Expr)(J:It)(fp:List Addr)(it:Addr)(tn:Nat->Heap->Prop):Prop where
 mem:it∈fp
 obj:∀i h,tn i h->∀b∈fp,∃o,h.get? b=some o/\∀v,o.data≠.cell v
 keep:∀i h h',tn i h->(∀b∈fp,∀o,h.get? b=some o->h'.get? b=some o)->tn i h'
 item:∀(X:Cx),X.prog=P->X.w=w->X.K=K->X.calm=true->∀(i:Nat) (pins:List (Addr×Obj)) (s:Shared) (σ:St) (H:Hp) (E:Value->Shared->Prop),Inv X pins σ H s->(∀b∈fp,cq X pins H b)->tn i s.heap->J.go i H ->
   wpAny (model P w) X.A (pyNext (.ref it)) (fun r s1=>∃u,r=some u /\
     wpAny (model P w) X.A (letOwnedTupleGo tg (.ref it) u) (fun _ s2=>∃x H',Inv X pins σ H' s2/\RelV x u/\J.yld i H x H'/\tn (i + 1) s2.heap/\∀b∈fp,H' b=none) E s1) E s
 done:∀(X:Cx),X.prog=P->X.w=w->X.K=K->X.calm=true->∀(i:Nat) (pins:List (Addr×Obj)) (s:Shared) (σ:St) (H:Hp) (E:Value->Shared->Prop),Inv X pins σ H s->(∀b∈fp,cq X pins H b)->tn i s.heap->J.stop i H ->
   wpAny (model P w) X.A (pyNext (.ref it)) (fun r s1=>r=none/\Inv X pins σ H s1) E s
 self:∀(A:Around) (i:Nat) (s:Shared) (Q:Value->Shared->Prop) (E:Value->Shared->Prop),tn i s.heap->Q (.ref it) s->wpAny (model P w) A (pyIter (.ref it)) Q E s
abbrev TI:=St->Hp->(It->Hp->Prop)->Prop
/-- an iterator has come -/
def CH (X:Cx)(pins:List (Addr×Obj))(σ:St)(tg:Expr)(R:It->Hp->Prop)(itv:Value)(s2:Shared):Prop:=
 ∃(it:Addr) (fp:List Addr) (tn:Nat->Heap->Prop) (J:It) (H':Hp),itv=.ref it/\Inv X pins σ H' s2/\Turn X.prog X.w X.K tg J fp it tn/\tn 0 s2.heap/\(∀b∈fp,cq X pins H' b)/\R J H'
def PI (X:Cx)(tg iter:Expr)(wi:TI):Prop:=
 ∀(pins:List (Addr×Obj)) (s:Shared) (σ:St) (H:Hp) (R:It->Hp->Prop),Inv X pins σ H s->wi σ H R ->
   wpAny (model X.prog X.w) X.A (eval iter X.env) (fun v s1=>wpAny (model X.prog X.w) X.A (pyIter v) (CH X pins σ tg R) X.xe s1) X.xe s

/-- the step ahead of the store is nothing for an iterator that keeps no tuple -/
theorem sH {M:Model}{A:Around}{E:Value->Shared->Prop}{s:Shared}{tg:Expr}{it:Addr}{u:Value}{o:Obj}{n:String}{vs:Array Value}{Q:Unit->Shared->Prop}(ho:s.heap.get? it=some o)(hc:o.cls=.type n)(hd:o.data=.fields vs)
   (hn:["enumerate","zip","dict_itemiterator","dict_reverseitemiterator","odict_iterator","itertools.zip_longest","itertools.pairwise"].contains n=false) (hQ:Q () s):wpAny M A (letOwnedTupleGo tg (.ref it) u) Q E s:=by
 unfold letOwnedTupleGo
 cases tg <;> first
   | exact wpAny_pure hQ
   | (cases u <;> first
       | exact wpAny_pure hQ
       | (refine wpAny_bind (wpAny_load ho ?_)
          rw [hc,hd]
          show wpAny M A (if (["enumerate","zip","dict_itemiterator","dict_reverseitemiterator","odict_iterator","itertools.zip_longest","itertools.pairwise"].contains n && vs[0]? == some (rawInt _))=true then _ else _) Q E s
          rw [if_neg (by intro h; rw [hn,Bool.false_and] at h; cases h)]
          exact wpAny_pure hQ))

/-- the list at a,as it stands at each turn (a loop may append to it) -/
def zV (K:DA)(a:Addr):It:=
 ⟨fun i H=>∃xs x,ao K H a xs/\xs[i]? = some x,fun i H x H'=>H'=H/\∀xs,ao K H a xs->xs[i]? = some x,fun i H=>∃xs,ao K H a xs/\xs.length<=i⟩
def BM (K:DA)(a:Addr):It:=
 ⟨fun i H=>∃xs x,aq K H a xs/\xs[i]? = some x,fun i H x H'=>H'=H/\∀xs,aq K H a xs->xs[i]? = some x,fun i H=>∃xs,aq K H a xs/\xs.length<=i⟩
/-- lo,lo + 1,.. (n of them) -/
def xU (lo:Int)(n:Nat):It:=⟨fun i _=>i < n,fun i H x H'=>H'=H/\x=.int (lo + i),fun i _=>n<=i⟩
theorem rp {P:Program}{w:World}{K:DA}{tg:Expr}(a it:Addr):Turn P w K tg (zV K a) [it] it (fun i h=>h.IsListIter it a i) where
 mem:=by simp
 obj:=fun i h st b hb=>by
   have e:b=it:=by simpa using hb
   subst e
   obtain ⟨o,e,c,d⟩:=st
   exact ⟨o,e,fun v z=>by rw [d] at z; cases z⟩
 keep:=fun i h h' st k=>st.at fun o e=>k it (by simp) o e
 item:=by
   intro X hP hw hK hc i pins s σ H E I hf st hg
   subst hP hw hK
   obtain ⟨xs,x,hq,hx⟩:=hg
   obtain ⟨its,rv,p,hz⟩:=I.list hq
   obtain ⟨u,hu,ru⟩:=rv.get hx
   obtain ⟨f0,f1,f2,f3,f4,f5⟩:=hf it (by simp)
   refine wpAny_pyNext_list_item st p.isList (x:=u) (by simpa using hu) fun h' st' sb=>?_
   have I1:Inv X pins σ H { s with heap:=h' }:=I.turned (t':=s.toks) (fun b o hb e=>(sb.2 b hb).trans e) f0 f1 f3 f4 f5
   obtain ⟨o,e,c,d⟩:=id st'
   exact ⟨u,rfl,sH (s:={ s with heap:=h' }) e c d (by decide) ⟨x,H,I1,ru,⟨rfl,fun ys hy=>by rw [I.list_inj hy hq]; exact hx⟩,st',fun b hb=>(hf b hb).1⟩⟩
 done:=by
   intro X hP hw hK hc i pins s σ H E I hf st hg
   subst hP hw hK
   obtain ⟨xs,hq,hx⟩:=hg
   obtain ⟨its,rv,p,hz⟩:=I.list hq
   obtain ⟨f0,f1,f2,f3,f4,f5⟩:=hf it (by simp)
   have hl:=rv.length
   exact wpAny_pyNext_list_end (I.ok.hd hc) st p.isList (by simp; omega) fun h' eb=>⟨rfl,I.turned (t':=s.toks) (fun b o hb e=>eb b o hb e) f0 f1 f3 f4 f5⟩
 self:=fun _ _ _ _ _ st h=>wpAny_pyIter_listiter st h
theorem oo {P:Program}{w:World}{K:DA}{tg:Expr}(a it:Addr):Turn P w K tg (BM K a) [it] it (fun i h=>h.IsTupleIter it a i) where
 mem:=by simp
 obj:=fun i h st b hb=>by
   have e:b=it:=by simpa using hb
   subst e
   obtain ⟨o,e,c,d⟩:=st
   exact ⟨o,e,fun v z=>by rw [d] at z; cases z⟩
 keep:=fun i h h' st k=>st.at fun o e=>k it (by simp) o e
 item:=by
   intro X hP hw hK hc i pins s σ H E I hf st hg
   subst hP hw hK
   obtain ⟨xs,x,hq,hx⟩:=hg
   obtain ⟨its,rv,p,hz⟩:=I.tuple hq
   obtain ⟨u,hu,ru⟩:=rv.get hx
   obtain ⟨f0,f1,f2,f3,f4,f5⟩:=hf it (by simp)
   refine wpAny_pyNext_tuple_item st (show s.heap.IsTuple a its.toArray from p) (x:=u) (by simpa using hu) fun h' st' sb=>?_
   have I1:Inv X pins σ H { s with heap:=h' }:=I.turned (t':=s.toks) (fun b o hb e=>(sb.2 b hb).trans e) f0 f1 f3 f4 f5
   obtain ⟨o,e,c,d⟩:=id st'
   exact ⟨u,rfl,sH (s:={ s with heap:=h' }) e c d (by decide) ⟨x,H,I1,ru,⟨rfl,fun ys hy=>by rw [I.rn hy hq]; exact hx⟩,st',fun b hb=>(hf b hb).1⟩⟩
 done:=by
   intro X hP hw hK hc i pins s σ H E I hf st hg
   subst hP hw hK
   obtain ⟨xs,hq,hx⟩:=hg
   obtain ⟨its,rv,p,hz⟩:=I.tuple hq
   obtain ⟨f0,f1,f2,f3,f4,f5⟩:=hf it (by simp)
   have hl:=rv.length
   exact wpAny_pyNext_tuple_end (I.ok.hd hc) st (show s.heap.IsTuple a its.toArray from p) (by simp; omega) fun h' eb=>⟨rfl,I.turned (t':=s.toks) (fun b o hb e=>eb b o hb e) f0 f1 f3 f4 f5⟩
 self:=fun _ _ _ _ _ st h=>wpAny_pyIter_tupleiter st h
theorem om {P:Program}{w:World}{K:DA}{tg:Expr}(it:Addr)(lo:Int)(n:Nat):Turn P w K tg (xU lo n) [it] it (fun i h=>IsRangeIter h it (lo + (i:Nat) * 1) ((n:Int) - (i:Nat)) 1) where
 mem:=by simp
 obj:=fun i h st b hb=>by
   have e:b=it:=by simpa using hb
   subst e
   exact ⟨_,st,fun v z=>by
     have z':Data.fields _=Data.cell v:=z
     cases z'⟩
 keep:=fun i h h' st k=>k it (by simp) _ st
 item:=by
   intro X hP hw hK hc i pins s σ H E I hf st hg
   subst hP hw hK
   obtain ⟨f0,f1,f2,f3,f4,f5⟩:=hf it (by simp)
   have W:=Walks.range (prog:=X.prog) (w:=X.w) (I.ok.hd hc) it lo 1 n
   refine W.item i s _ _ hg st fun v h' tk hv st' kk=>?_
   obtain ⟨t,rfl⟩:=hv
   have I1:Inv X pins σ H { s with heap:=h',toks:=tk }:=I.turned (fun b o hb e=>kk b o (by simpa using hb) e) f0 f1 f3 f4 f5
   refine ⟨_,rfl,sH (s:={ s with heap:=h',toks:=tk }) (n:="range_iterator") st' rfl rfl (by decide) ⟨.int (lo + i),H,I1,⟨t,?_⟩,⟨rfl,rfl⟩,st',fun b hb=>(hf b hb).1⟩⟩
   rw [Int.mul_one]
 done:=by
   intro X hP hw hK hc i pins s σ H E I hf st hg
   subst hP hw hK
   obtain ⟨f0,f1,f2,f3,f4,f5⟩:=hf it (by simp)
   exact wpAny_pyNext_range_end (I.ok.hd hc) st (by have:n<=i:=hg; omega) fun h' eb=>⟨rfl,I.turned (t':=s.toks) (fun b o hb e=>eb b o hb e) f0 f1 f3 f4 f5⟩
 self:=fun _ _ _ _ _ st h=>wpAny_pyIter_rangeiter st h
end L2

namespace L2
open PySem PySem.Spec PyProof.Rows
section
variable {X:Cx}{tg:Expr}
def xv (K:DA)(tl:TE):TI:=fun σ H R=>tl σ H fun x H1=>∃a,x=.ref a/\(∃xs,ao K H1 a xs)/\R (zV K a) H1
def Az (K:DA)(tl:TE):TI:=fun σ H R=>tl σ H fun x H1=>∃a,x=.ref a/\(∃xs,aq K H1 a xs)/\R (BM K a) H1
theorem wL {l:Expr}{tl:TE}(hl:PE X l tl):PI X tg l (xv X.K tl):=by
 intro pins s σ H R I h
 refine aX (hl pins s σ H _ I h) fun v s1 ⟨x,H1,I1,r1,q1⟩=>?_
 obtain ⟨a,e,⟨xs,hq⟩,q⟩:=q1
 subst e
 cases r1
 obtain ⟨its,rv,p,hz⟩:=I1.list hq
 refine wpAny_pyIter_list p.isList ?_
 refine ⟨s1.heap.objs.size,[s1.heap.objs.size],_,_,H1,rfl,I1.kept (t':=s1.toks) fun b o e=>DK _ e,rp a _,⟨_,DY _ rfl,rfl,rfl⟩,fun b hb=>?_,q⟩
 have e:b=s1.heap.objs.size:=by simpa using hb
 subst e
 exact I1.fpOk (DJ _) (I1.hok.fresh (DJ _))
theorem zk {l:Expr}{tl:TE}(hl:PE X l tl):PI X tg l (Az X.K tl):=by
 intro pins s σ H R I h
 refine aX (hl pins s σ H _ I h) fun v s1 ⟨x,H1,I1,r1,q1⟩=>?_
 obtain ⟨a,e,⟨xs,hq⟩,q⟩:=q1
 subst e
 cases r1
 obtain ⟨its,rv,p,hz⟩:=I1.tuple hq
 refine wpAny_pyIter_tuple (show s1.heap.IsTuple a its.toArray from p) ?_
 refine ⟨s1.heap.objs.size,[s1.heap.objs.size],_,_,H1,rfl,I1.kept (t':=s1.toks) fun b o e=>DK _ e,oo a _,⟨_,DY _ rfl,rfl,rfl⟩,fun b hb=>?_,q⟩
 have e:b=s1.heap.objs.size:=by simpa using hb
 subst e
 exact I1.fpOk (DJ _) (I1.hok.fresh (DJ _))
/-- a range object just made,walked -/
theorem uD {pins:List (Addr×Obj)}{σ:St}{H:Hp}{s:Shared}{R:It->Hp->Prop}{E:Value->Shared->Prop}{lo hi:Int}{t u v:Tok}{tk:Nat}(I:Inv X pins σ H s)(h1 : -(2 ^ 62)<=lo)(h2:lo < 2 ^ 62)(h3 : -(2 ^ 62)<=hi)(h4:hi < 2 ^ 62)
   (q:R (xU lo (hi - lo).toNat) H):wpAny (model X.prog X.w) X.A (pyIter (.ref s.heap.objs.size)) (CH X pins σ tg R) E { s with heap:=s.heap.push { cls:=.type "range",data:=.fields #[.int lo t,.int hi u,.int 1 v] },toks:=tk }:=by
 refine wpAny_pyIter_range (IsRange.new ..) (small_one h1 h2 h3 h4) ?_
 have I1:Inv X pins σ H { s with heap:=s.heap.push { cls:=.type "range",data:=.fields #[.int lo t,.int hi u,.int 1 v] },toks:=tk }:=I.kept fun b o e=>DK _ e
 refine ⟨(s.heap.push { cls:=.type "range",data:=.fields #[.int lo t,.int hi u,.int 1 v] }).objs.size,[(s.heap.push { cls:=.type "range",data:=.fields #[.int lo t,.int hi u,.int 1 v] }).objs.size],_,_,H,rfl,
   I1.kept (t':=tk) fun b o e=>DK _ e,om _ lo (hi - lo).toNat,?_,fun b hb=>?_,q⟩
 · have e1:lo + ((0:Nat):Int) * 1=lo:=by simp
   have e2:(((hi - lo).toNat:Nat):Int) - ((0:Nat):Int)=Builtin.Range.rangeSize lo hi 1:=by rw [rangeSize_one]; split <;> omega
   show IsRangeIter _ _ (lo + ((0:Nat):Int) * 1) ((((hi - lo).toNat:Nat):Int) - ((0:Nat):Int)) 1
   rw [e1,e2]
   exact DY _ rfl
 · have e:b=(s.heap.push { cls:=.type "range",data:=.fields #[.int lo t,.int hi u,.int 1 v] }).objs.size:=by simpa using hb
   subst e
   exact I1.fpOk (DJ _) (I1.hok.fresh (DJ _))
def tE (ta:TA):TI:=fun σ H R=>ta σ H fun vs H1=>∃j:Int,vs=[.int j] /\ -(2 ^ 62)<=j/\j < 2 ^ 62/\R (xU 0 j.toNat) H1
theorem q8 {a:Expr}{ta:TA}{p pos:Pos}(hg:Gl X "range")(hm:X.mg "range"=none)(ha:PA X [a] ta)(hs:starEach [a] X.env=[(false,eval a X.env)]:=by rfl):PI X tg (.Call (.Name "range" p) [a] [] pos) (tE ta):=by
 intro pins s σ H R I h
 refine Call_ (dr I hg hm boot_range (Em (aX (ha pos pins s σ H _ I h) fun us s1 ⟨vs,H1,I1,r1,q1⟩=>?_) hs rfl))
 obtain ⟨j,e,q1,q2,q⟩:=q1
 subst e
 cases r1 with
 | cons r rr=>
   cases rr
   obtain ⟨t,rfl⟩:=r
   exact call_range_1 (uD I1 (by omega) (by omega) q1 q2 (by simpa using q))
/-! ### for -/
/-- W: the invariant by the turn and a measure; N: what the body is to reach -/
def Bj (wi:TI)(g:TG)(tb:TS):TS:=fun D σ H=>wi σ H fun J H1=>∃W:Nat->Nat->St->Hp->Prop,(∃m,W 0 m σ H1)/\∀i m σ H,W i m σ H ->
 (J.stop i H/\D.nx σ H)\/(J.go i H/\∃N:St->Hp->Prop,(∀σ' H',N σ' H'->∃m',m' < m/\W (i + 1) m' σ' H')/\∀x H',J.yld i H x H'->g x σ H' fun σ2 H2=>tb { D with nx:=N,ct:=N,bk:=D.nx } σ2 H2)
/-- the records at fp as they stand -/
def ji (fp:List Addr)(h:Heap):List (Addr×Obj):=fp.filterMap fun b=>(h.get? b).map fun o=>(b,o)
theorem dt {fp:List Addr}{h:Heap}{b:Addr}{o:Obj}(hb:b∈fp)(e:h.get? b=some o):(b,o)∈ji fp h:=List.mem_filterMap.mpr ⟨b,hb,by rw [e]; rfl⟩
theorem qP {fp:List Addr}{h:Heap}{p:Addr×Obj}(hp:p∈ji fp h):p.1∈fp/\h.get? p.1=some p.2:=by
 obtain ⟨b,hb,e⟩:=List.mem_filterMap.mp hp
 cases q:h.get? b with
 | none=>rw [q] at e; cases e
 | some o=>
   rw [q] at e
   have e':(b,o)=p:=D2 e
   subst e'
   exact ⟨hb,q⟩
theorem Inv.pinned {pins:List (Addr×Obj)}{σ:St}{H:Hp}{s:Shared}{fp:List Addr}(I:Inv X pins σ H s)(hf:∀b∈fp,cq X pins H b)(ho:∀b∈fp,∃o,s.heap.get? b=some o/\∀v,o.data≠.cell v):Inv X (pins++ji fp s.heap) σ H s:=
 I.pA fun p hp=>(List.mem_append.mp hp).elim (fun z=>I.pin p (Eh _ z)) fun z=>by
   obtain ⟨hb,e⟩:=qP z
   obtain ⟨f0,f1,f2,_⟩:=hf p.1 hb
   obtain ⟨o,e',d⟩:=ho p.1 hb
   rw [e] at e'; cases e'
   exact ⟨e,f0,f1,f2,d⟩
theorem Inv.unpinned {pins pl:List (Addr×Obj)}{σ:St}{H:Hp}{s:Shared}(I:Inv X (pins++pl) σ H s):Inv X pins σ H s:=I.pA fun p hp=>I.pin p (Eh _ (GV _ hp))
theorem zq {iter:Expr}{body:List Stmt}{wi:TI}{g:TG}{tb:TS}{pos:Pos}(hp:PassesOwn (model X.prog X.w) X.A X.env X.xe)(hc:X.calm=true)(hi:PI X tg iter wi)(hg:PG X tg g)(hb:lg X body tb)
   (hs:∀x,foldedSetIterable iter X.env x=pure x:=by intro _; rfl):PS X (.For tg iter body [] pos) (Bj wi g tb):=by
 intro pins s σ H D I h
 refine wpAny_For (aX (hi pins s σ H _ I h) fun v s1 h1=>aX h1 fun itv s2 h2=>?_) hs
 obtain ⟨it,fp,tn,J,H2,e,I2,T,st2,f2,W,⟨m0,w0⟩,turn⟩:=h2
 subst e
 -- what stays true of the nI objects through the loop
 have stat:∀{H':Hp},(∀b∈fp,H' b=none)->∀b∈fp,cq X pins H' b:=fun hn b hb=>⟨hn b hb,(f2 b hb).2⟩
 refine codeAny_forLoop_any (fun n s'=>∃i σ' H',Inv X pins σ' H' s'/\tn i s'.heap/\(∀b∈fp,H' b=none)/\W i n σ' H') ?_ m0 ⟨0,σ,H2,I2,st2,fun b hb=>(f2 b hb).1,w0⟩
 rintro n s3 ⟨i,σ3,H3,I3,st3,fr3,w3⟩
 rcases turn i n σ3 H3 w3 with ⟨stop,qn⟩ | ⟨go,N,hN,step⟩
 · refine EY hp (aX (T.done X rfl rfl rfl hc i pins s3 σ3 H3 X.xe I3 (stat fr3) st3 stop) fun r s4 ⟨hr,I4⟩=>?_)
   subst hr
   exact FV ⟨σ3,H3,I4,qn⟩
 · refine EY hp (aX (T.item X rfl rfl rfl hc i pins s3 σ3 H3 X.xe I3 (stat fr3) st3 go) fun r s4 ⟨u,hr,h4⟩=>?_)
   subst hr
   refine EY hp (aX h4 fun _ s5 ⟨x,H5,I5,r5,y5,st5,fr5⟩=>?_)
   have I5':=I5.pinned (stat fr5) (T.obj _ _ st5)
   refine EY hp (aX (hg _ s5 σ3 H5 x u _ I5' r5 (step x H5 y5)) fun _ s6 ⟨σ6,H6,I6,q6⟩=>?_)
   refine EY hp (aX (hb _ s6 σ6 H6 _ I6 q6) fun f s7 q7=>?_)
   have again:∀{σ7:St} {H7:Hp},Inv X (pins++ji fp s5.heap) σ7 H7 s7->N σ7 H7->∃m,m < n/\∃i σ' H',Inv X pins σ' H' s7/\tn i s7.heap/\(∀b∈fp,H' b=none)/\W i m σ' H':=fun {σ7 H7} I7 n7=>by
     obtain ⟨m',hm,w7⟩:=hN σ7 H7 n7
     refine ⟨m',hm,i + 1,σ7,H7,I7.unpinned,T.keep _ _ _ st5 fun b hb o e=>(I7.pin (b,o) (Eh _ (Eh _ (dt hb e)))).1,fun b hb=>?_,w7⟩
     obtain ⟨o,e,d⟩:=T.obj _ _ st5 b hb
     exact (I7.pin (b,o) (Eh _ (Eh _ (dt hb e)))).2.1
   cases f with
   | next=>obtain ⟨σ7,H7,I7,n7⟩:=q7; exact again I7 n7
   | cont=>obtain ⟨σ7,H7,I7,n7⟩:=q7; exact again I7 n7
   | brk=>obtain ⟨σ7,H7,I7,q7⟩:=q7; exact ⟨σ7,H7,I7.unpinned,q7⟩
   | ret v=>obtain ⟨x7,σ7,H7,I7,r7,q7⟩:=q7; exact ⟨x7,σ7,H7,I7.unpinned,r7,q7⟩
end

/-! ### the forms one uses -/
/-- over a list that the body leaves as it is -/
theorem fA {K:DA}{a:Addr}{xs:List V}{g:TG}{tb:TS}{D:Ends}{σ:St}{H:Hp}(Pv:Nat->St->Hp->Prop)(h0:Pv 0 σ H)(hl:∀i σ H,i<=xs.length->Pv i σ H->ao K H a xs)
   (hs:∀i x σ H,xs[i]? = some x->Pv i σ H->g x σ H fun σ2 H2=>tb { D with nx:=Pv (i + 1),ct:=Pv (i + 1),bk:=D.nx } σ2 H2) (hd:∀σ H,Pv xs.length σ H->D.nx σ H) :
   ∃W:Nat->Nat->St->Hp->Prop,(∃m,W 0 m σ H)/\∀i m σ H,W i m σ H ->
     ((zV K a).stop i H/\D.nx σ H)\/((zV K a).go i H/\∃N:St->Hp->Prop,(∀σ' H',N σ' H'->∃m',m' < m/\W (i + 1) m' σ' H')/\∀x H',(zV K a).yld i H x H'->g x σ H' fun σ2 H2=>tb { D with nx:=N,ct:=N,bk:=D.nx } σ2 H2):=by
 refine ⟨fun i m σ H=>m=xs.length - i/\i<=xs.length/\Pv i σ H,⟨xs.length,by simp,Ep _,h0⟩,?_⟩
 rintro i m σ H ⟨rfl,hi,p⟩
 have q:=hl i σ H hi p
 by_cases hlt:i < xs.length
 · refine .inr ⟨⟨xs,xs[i],q,by simp [hlt]⟩,Pv (i + 1),fun σ' H' p'=>⟨xs.length - (i + 1),by omega,rfl,hlt,p'⟩,fun x H' y=>?_⟩
   obtain ⟨e,y⟩:=y
   subst e
   exact hs i x σ _ (y xs q) p
 · have e:i=xs.length:=by omega
   subst e
   exact .inl ⟨⟨xs,q,DJ _⟩,hd σ H p⟩
theorem cF {lo:Int}{n:Nat}{g:TG}{tb:TS}{D:Ends}{σ:St}{H:Hp}(Pv:Nat->St->Hp->Prop)(h0:Pv 0 σ H)
   (hs:∀i σ H,i < n->Pv i σ H->g (.int (lo + i)) σ H fun σ2 H2=>tb { D with nx:=Pv (i + 1),ct:=Pv (i + 1),bk:=D.nx } σ2 H2) (hd:∀σ H,Pv n σ H->D.nx σ H) :
   ∃W:Nat->Nat->St->Hp->Prop,(∃m,W 0 m σ H)/\∀i m σ H,W i m σ H ->
     ((xU lo n).stop i H/\D.nx σ H)\/((xU lo n).go i H/\∃N:St->Hp->Prop,(∀σ' H',N σ' H'->∃m',m' < m/\W (i + 1) m' σ' H')/\∀x H',(xU lo n).yld i H x H'->g x σ H' fun σ2 H2=>tb { D with nx:=N,ct:=N,bk:=D.nx } σ2 H2):=by
 refine ⟨fun i m σ H=>m=n - i/\i<=n/\Pv i σ H,⟨n,by simp,Ep _,h0⟩,?_⟩
 rintro i m σ H ⟨rfl,hi,p⟩
 by_cases hlt:i < n
 · refine .inr ⟨hlt,Pv (i + 1),fun σ' H' p'=>⟨n - (i + 1),by omega,rfl,hlt,p'⟩,fun x H' y=>?_⟩
   obtain ⟨e,y⟩:=y
   subst e y
   exact hs i σ _ hlt p
 · have e:i=n:=by omega
   subst e
   exact .inl ⟨DJ _,hd σ H p⟩
end L2

namespace L2
open PySem PySem.Spec PyProof.Rows

abbrev R2:=V->V->Hp->VK->Prop
/-- a two-place operation on values: f is binaryOp op,inplaceOp op or compareOp op -/
def gP (X:Cx)(f:Value->Value->Sem Value)(r:R2):Prop:=
 ∀(pins:List (Addr×Obj)) (s:Shared) (σ:St) (H:Hp) (x y:V) (v u:Value) (Q:VK),Inv X pins σ H s->RelV x v->RelV y u->r x y H Q ->
   wpAny (model X.prog X.w) X.A (f v u) (EP X pins σ Q) X.xe s
/-- a one-place operation -/
def BR (X:Cx)(f:Value->Sem Value)(r:V->Hp->VK->Prop):Prop:=
 ∀(pins:List (Addr×Obj)) (s:Shared) (σ:St) (H:Hp) (x:V) (v:Value) (Q:VK),Inv X pins σ H s->RelV x v->r x H Q ->
   wpAny (model X.prog X.w) X.A (f v) (EP X pins σ Q) X.xe s
/-- a call of a value that is known (a builtin,a type) with values -/
def cg (X:Cx)(f:Value)(r:List V->Hp->VK->Prop):Prop:=
 ∀(pins:List (Addr×Obj)) (s:Shared) (σ:St) (H:Hp) (xs:List V) (us:List Value) (Q:VK),Inv X pins σ H s->Vals xs us->r xs H Q ->
   wpAny (model X.prog X.w) X.A (call f us) (EP X pins σ Q) X.xe s
/-- a kZ truth -/
def BQ (X:Cx)(r:V->Hp->(Bool->Hp->Prop)->Prop):Prop:=
 ∀(pins:List (Addr×Obj)) (s:Shared) (σ:St) (H:Hp) (x:V) (v:Value) (Q:Bool->Hp->Prop),Inv X pins σ H s->RelV x v->r x H Q ->
   wpAny (model X.prog X.w) X.A (truthy v) (TP X pins σ Q) X.xe s

def xP (r:R2)(ta tb:TE):TE:=fun σ H Q=>ta σ H fun x H1=>tb σ H1 fun y H2=>r x y H2 Q
def C2 (r:V->Hp->VK->Prop)(ta:TE):TE:=fun σ H Q=>ta σ H fun x H1=>r x H1 Q
/-- ints in,under C,and a value out -/
def rI (C:Int->Int->Prop)(g:Int->Int->V):R2:=fun x y H Q=>∃i j,x=.int i/\y=.int j/\C i j/\Q (g i j) H
def uZ (g:Int->Int->V):R2:=fun x y H Q=>∃i j,x=.int i/\y=.int j/\Q (g i j) H
def rU (g:Int->V):V->Hp->VK->Prop:=fun x H Q=>∃i,x=.int i/\Q (g i) H

section
variable {X:Cx}{a b c:Expr}{ta tb tc:TE}{pos:Pos}

theorem yg (ha:PE X a ta)(hb:PE X b tb){pins:List (Addr×Obj)}{s:Shared}{σ:St}{H:Hp}{R:V->V->Hp->Prop}(I:Inv X pins σ H s)
   (h:ta σ H fun x H1=>tb σ H1 fun y H2=>R x y H2) {Q:Value->Shared->Prop} {f:Value->Value->Sem Value}
   (hf:∀v u s2 x y H2,Inv X pins σ H2 s2->RelV x v->RelV y u->R x y H2->wpAny (model X.prog X.w) X.A (f v u) Q X.xe s2) :
   wpAny (model X.prog X.w) X.A (eval a X.env) (fun v s₁=>wpAny (model X.prog X.w) X.A (eval b X.env) (fun u s₂=>wpAny (model X.prog X.w) X.A (f v u) Q X.xe s₂) X.xe s₁) X.xe s:=by
 refine aX (ha pins s σ H _ I h) fun v s1 ⟨x,H1,I1,r1,q1⟩=>?_
 refine aX (hb pins s1 σ H1 _ I1 q1) fun u s2 ⟨y,H2,I2,r2,q2⟩=>?_
 exact hf v u s2 x y H2 I2 r1 r2 q2

theorem A1 {op:Operator}{r:R2}(ho:gP X (binaryOp op) r)(ha:PE X a ta)(hb:PE X b tb):PE X (.BinOp a op b pos) (xP r ta tb):=by
 intro pins s σ H Q I h
 exact wpAny_BinOp (yg ha hb I h fun v u s2 x y H2 I2 rx ry q=>ho pins s2 σ H2 x y v u Q I2 rx ry q)
theorem A2 {op:UnaryOp}{r:V->Hp->VK->Prop}(ho:BR X (unaryOp op) r)(ha:PE X a ta):PE X (.UnaryOp op a pos) (C2 r ta):=by
 intro pins s σ H Q I h
 exact UnaryOp_ (aX (ha pins s σ H _ I h) fun v s1 ⟨x,H1,I1,r1,q1⟩=>ho pins s1 σ H1 x v Q I1 r1 q1)
/-! ### ints -/
theorem BA {f:Value->Value->Sem Value}{C:Int->Int->Prop}{g:Int->Int->Int}
   (rule:∀(i j:Int) (t u:Tok) (s:Shared) (Q:Value->Shared->Prop) (E:Value->Shared->Prop),C i j->Q (.int (g i j) s.toks) { s with toks:=s.toks + 1 }->wpAny (model X.prog X.w) X.A (f (.int i t) (.int j u)) Q E s) :
   gP X f (rI C fun i j=>.int (g i j)):=by
 intro pins s σ H x y v u Q I rx ry h
 obtain ⟨i,j,rfl,rfl,hc,q⟩:=h
 obtain ⟨t,rfl⟩:=rx
 obtain ⟨t',rfl⟩:=ry
 exact rule i j t t' s _ _ hc ⟨.int (g i j),H,I.tok _,⟨_,rfl⟩,q⟩
theorem AQ {f:Value->Value->Sem Value}{g:Int->Int->Int}
   (rule:∀(i j:Int) (t u:Tok) (s:Shared) (Q:Value->Shared->Prop) (E:Value->Shared->Prop),Q (.int (g i j) s.toks) { s with toks:=s.toks + 1 }->wpAny (model X.prog X.w) X.A (f (.int i t) (.int j u)) Q E s) :
   gP X f (uZ fun i j=>.int (g i j)):=by
 intro pins s σ H x y v u Q I rx ry h
 obtain ⟨i,j,rfl,rfl,q⟩:=h
 obtain ⟨t,rfl⟩:=rx
 obtain ⟨t',rfl⟩:=ry
 exact rule i j t t' s _ _ ⟨.int (g i j),H,I.tok _,⟨_,rfl⟩,q⟩
theorem AO {f:Value->Value->Sem Value}{g:Int->Int->Bool}
   (rule:∀(i j:Int) (t u:Tok) (s:Shared) (Q:Value->Shared->Prop) (E:Value->Shared->Prop),Q (.bool (g i j)) s->wpAny (model X.prog X.w) X.A (f (.int i t) (.int j u)) Q E s) :
   gP X f (uZ fun i j=>.bl (g i j)):=by
 intro pins s σ H x y v u Q I rx ry h
 obtain ⟨i,j,rfl,rfl,q⟩:=h
 obtain ⟨t,rfl⟩:=rx
 obtain ⟨t',rfl⟩:=ry
 exact rule i j t t' s _ _ ⟨.bl (g i j),H,I,rfl,q⟩

def Ag (i j:Int):Prop:=0<=j/\j<=1000000/\i.natAbs < 2 ^ 64
def u5 (i j:Int):Prop:=(-(2 ^ 64) < i/\i < 2 ^ 64)\/(-(2 ^ 64) < j/\j < 2 ^ 64)
theorem u5.ok {i j:Int}(h:u5 i j):IntMulOk i j:=by
 rcases h with ⟨h1,h2⟩ | ⟨h1,h2⟩
 · exact .of_left (intBits_le_64 h1 h2)
 · exact .of_right (intBits_le_64 h1 h2)
theorem yR:gP X (binaryOp .Add) (uZ fun i j=>.int (i + j)):=AQ fun _ _ _ _ _ _ _ q=>add_int q
theorem yZ:gP X (binaryOp .Sub) (uZ fun i j=>.int (i - j)):=AQ fun _ _ _ _ _ _ _ q=>sub_int q
theorem yW:gP X (binaryOp .Mult) (rI u5 fun i j=>.int (i * j)):=BA fun _ _ _ _ _ _ _ hc q=>mul_int q hc.ok
/-- % by a positive Bz of any size -/
theorem yV:gP X (binaryOp .Mod) (rI (fun _ j=>0 < j) fun i j=>.int (i % j)):=BA fun i j _ _ _ _ _ hc q=>by
 have h1:(0:Int) < j:=hc
 exact mod_int' (by omega) (by rw [Int.fmod_eq_emod_of_nonneg i (by omega)]; exact q)
theorem yY:gP X (binaryOp .Pow) (rI Ag fun i j=>.int (i ^ j.toNat)):=BA fun _ _ _ _ _ _ _ hc q=>pow_int_small hc.1 hc.2.1 hc.2.2 q
theorem Dv {f:Value->Sem Value}{g:Int->Int}
   (rule:∀(i:Int) (t:Tok) (s:Shared) (Q:Value->Shared->Prop) (E:Value->Shared->Prop),Q (.int (g i) s.toks) { s with toks:=s.toks + 1 }->wpAny (model X.prog X.w) X.A (f (.int i t)) Q E s) :
   BR X f (rU fun i=>.int (g i)):=by
 intro pins s σ H x v Q I rx h
 obtain ⟨i,rfl,q⟩:=h
 obtain ⟨t,rfl⟩:=rx
 exact rule i t s _ _ ⟨.int (g i),H,I.tok _,⟨_,rfl⟩,q⟩
theorem zR:BR X (unaryOp .USub) (rU fun i=>.int (-i)):=Dv fun _ _ _ _ _ q=>neg_int q
/-! ### bools among ints: n += (a < b) -/
end

/-! ### comparisons -/
/-- the BF that == tells apart as data does -/
def Bg:V->V->Bool
 | .aU,.aU=>true | .aU,.int _=>true | .int _,.aU=>true | .aU,.bl _=>true | .bl _,.aU=>true | .aU,.str _=>true | .str _,.aU=>true
 | .int _,.int _=>true | .bl _,.bl _=>true | .str _,.str _=>true | .byt _,.byt _=>true
 | .int _,.str _=>true | .str _,.int _=>true | .bl _,.str _=>true | .str _,.bl _=>true
 | _,_=>false
def CV:R2:=fun x y H Q=>Bg x y=true/\Q (.bl (decide (x=y))) H
def CW:R2:=fun x y H Q=>Bg x y=true/\Q (.bl (!decide (x=y))) H

theorem oM {i j:Int}:decide (V.int i=V.int j)=(i == j):=by
 rw [FL]
 simp
theorem r0 {i j:Bool}:decide (V.bl i=V.bl j)=(i == j):=by
 rw [FL]
 simp
theorem oN {i j:Str}:decide (V.str i=V.str j)=(i == j):=by
 rw [FL]
 simp
theorem oK {i j:Array UInt8}:decide (V.byt i=V.byt j)=(i.toList == j.toList):=by
 rw [FL]
 cases i
 cases j
 simp

section
variable {X:Cx}{a b c:Expr}{ta tb tc:TE}{pos:Pos}
theorem aJ {pins:List (Addr×Obj)}{σ:St}{H:Hp}{s:Shared}{Q:VK}{k k':Bool}(I:Inv X pins σ H s)(q:Q (.bl k) H)(e:k=k'):EP X pins σ Q (.bool k') s:=by
 subst e
 exact ⟨.bl k,H,I,rfl,q⟩
theorem AR:gP X (compareOp .Eq) CV:=by
 intro pins s σ H x y v u Q I rx ry h
 obtain ⟨hs,q⟩:=h
 cases x with
 | aU=>
   cases rx
   cases y with
   | aU=>cases ry; exact PySem.EqNone.eq_none_none (aJ I q (by simp))
   | bl j=>cases ry; exact PySem.EqNone.eq_none_bool (aJ I q (by simp))
   | int j=>obtain ⟨t',rfl⟩:=ry; exact PySem.EqNone.eq_none_int (aJ I q (by simp))
   | str j=>obtain ⟨t',rfl⟩:=ry; exact PySem.EqNone.eq_none_str (aJ I q (by simp))
   | _=>exact absurd (show false=true from hs) DU
 | bl i=>
   cases rx
   cases y with
   | aU=>cases ry; exact PySem.EqNone.eq_bool_none (aJ I q (by simp))
   | bl j=>cases ry; exact eq_bool (aJ I q r0)
   | str j=>obtain ⟨t',rfl⟩:=ry; exact PySem.EqMixed.eq_bool_str (aJ I q (by simp))
   | _=>exact absurd (show false=true from hs) DU
 | int i=>
   obtain ⟨t,rfl⟩:=rx
   cases y with
   | aU=>cases ry; exact PySem.EqNone.eq_int_none (aJ I q (by simp))
   | int j=>obtain ⟨t',rfl⟩:=ry; exact eq_int (aJ I q oM)
   | str j=>obtain ⟨t',rfl⟩:=ry; exact PySem.EqMixed.eq_int_str (aJ I q (by simp))
   | _=>exact absurd (show false=true from hs) DU
 | str i=>
   obtain ⟨t,rfl⟩:=rx
   cases y with
   | aU=>cases ry; exact PySem.EqNone.eq_str_none (aJ I q (by simp))
   | bl j=>cases ry; exact PySem.EqMixed.eq_str_bool (aJ I q (by simp))
   | int j=>obtain ⟨t',rfl⟩:=ry; exact PySem.EqMixed.eq_str_int (aJ I q (by simp))
   | str j=>obtain ⟨t',rfl⟩:=ry; exact eq_str (aJ I q oN)
   | _=>exact absurd (show false=true from hs) DU
 | byt i=>
   obtain ⟨t,rfl⟩:=rx
   cases y with
   | byt j=>obtain ⟨t',rfl⟩:=ry; exact PySem.W.eq_bytes (aJ I q oK)
   | _=>exact absurd (show false=true from hs) DU
 | _=>cases y <;> exact absurd (show false=true from hs) DU
theorem AW:gP X (compareOp .NotEq) CW:=by
 intro pins s σ H x y v u Q I rx ry h
 obtain ⟨hs,q⟩:=h
 cases x with
 | aU=>
   cases rx
   cases y with
   | aU=>cases ry; exact PySem.EqNone.ne_none_none (aJ I q (by simp))
   | bl j=>cases ry; exact PySem.EqNone.ne_none_bool (aJ I q (by simp))
   | int j=>obtain ⟨t',rfl⟩:=ry; exact PySem.EqNone.ne_none_int (aJ I q (by simp))
   | str j=>obtain ⟨t',rfl⟩:=ry; exact PySem.EqNone.ne_none_str (aJ I q (by simp))
   | _=>exact absurd (show false=true from hs) DU
 | bl i=>
   cases rx
   cases y with
   | aU=>cases ry; exact PySem.EqNone.ne_bool_none (aJ I q (by simp))
   | bl j=>cases ry; exact ne_bool (aJ I q (congrArg not r0))
   | str j=>obtain ⟨t',rfl⟩:=ry; exact PySem.EqMixed.ne_bool_str (aJ I q (by simp))
   | _=>exact absurd (show false=true from hs) DU
 | int i=>
   obtain ⟨t,rfl⟩:=rx
   cases y with
   | aU=>cases ry; exact PySem.EqNone.ne_int_none (aJ I q (by simp))
   | int j=>obtain ⟨t',rfl⟩:=ry; exact ne_int (aJ I q (congrArg not oM))
   | str j=>obtain ⟨t',rfl⟩:=ry; exact PySem.EqMixed.ne_int_str (aJ I q (by simp))
   | _=>exact absurd (show false=true from hs) DU
 | str i=>
   obtain ⟨t,rfl⟩:=rx
   cases y with
   | aU=>cases ry; exact PySem.EqNone.ne_str_none (aJ I q (by simp))
   | bl j=>cases ry; exact PySem.EqMixed.ne_str_bool (aJ I q (by simp))
   | int j=>obtain ⟨t',rfl⟩:=ry; exact PySem.EqMixed.ne_str_int (aJ I q (by simp))
   | str j=>obtain ⟨t',rfl⟩:=ry; exact ne_str (aJ I q (congrArg not oN))
   | _=>exact absurd (show false=true from hs) DU
 | byt i=>
   obtain ⟨t,rfl⟩:=rx
   cases y with
   | byt j=>obtain ⟨t',rfl⟩:=ry; exact PySem.W.ne_bytes (aJ I q (congrArg not oK))
   | _=>exact absurd (show false=true from hs) DU
 | _=>cases y <;> exact absurd (show false=true from hs) DU

theorem AV:gP X (compareOp .Lt) (uZ fun i j=>.bl (decide (i < j))):=AO fun _ _ _ _ _ _ _ q=>lt_int q
theorem AU:gP X (compareOp .GtE) (uZ fun i j=>.bl (decide (j<=i))):=AO fun _ _ _ _ _ _ _ q=>ge_int q
/-- is None,is not None: the right side a value none -/
theorem yU:gP X (compareOp .Is) (fun x y H Q=>y=.aU/\Q (.bl (decide (x=.aU))) H):=by
 intro pins s σ H x y v u Q I rx ry h
 obtain ⟨rfl,q⟩:=h
 cases ry
 refine is_none_gen (aJ I q ?_)
 cases x <;> first
   | (cases rx; rfl)
   | (obtain ⟨t,rfl⟩:=rx; rfl)
theorem wB:gP X (compareOp .IsNot) (fun x y H Q=>y=.aU/\Q (.bl (!decide (x=.aU))) H):=by
 intro pins s σ H x y v u Q I rx ry h
 obtain ⟨rfl,q⟩:=h
 cases ry
 refine isnot_none_gen (aJ I q ?_)
 cases x <;> first
   | (cases rx; rfl)
   | (obtain ⟨t,rfl⟩:=rx; rfl)

theorem nO (b:Expr){op:CmpOp}(h:op≠.In:=by decide)(h2:op≠.NotIn:=by decide):behindInMarks op b=false:=by
 have e1:(op == CmpOp.In)=false:=by cases op <;> first | rfl | exact absurd rfl h
 have e2:(op == CmpOp.NotIn)=false:=by cases op <;> first | rfl | exact absurd rfl h2
 cases b <;> simp [behindInMarks,e1,e2]
/-- a mT as a value; hm: nO b,or (for in,not in) by with_unfolding_all rfl -/
theorem wF {op:CmpOp}{r:R2}(ho:gP X (compareOp op) r)(ha:PE X a ta)(hb:PE X b tb)(hm:behindInMarks op b=false):PE X (.Compare a [op] [b] pos) (xP r ta tb):=by
 intro pins s σ H Q I h
 exact wpAny_Compare1 (yg ha hb I h fun v u s2 x y H2 I2 rx ry q=>ho pins s2 σ H2 x y v u Q I2 rx ry q) hm
/-- a reading of a value as a test -/
def xS (t:TE):TT:=fun σ H Q=>t σ H fun x H'=>∃k,x=.bl k/\Q k H'
theorem wW {op:CmpOp}{r:R2}(ho:gP X (compareOp op) r)(ha:PE X a ta)(hb:PE X b tb)(hm:behindInMarks op b=false):PT X (.Compare a [op] [b] pos) (xS (xP r ta tb)):=by
 intro pins s σ H Q I h
 refine wpAny_isTrue_Compare1 (aX (ha pins s σ H _ I h) fun v s1 ⟨x,H1,I1,r1,q1⟩=>aX (hb pins s1 σ H1 _ I1 q1) fun u s2 ⟨y,H2,I2,r2,q2⟩=>
   aX (ho pins s2 σ H2 x y v u _ I2 r1 r2 q2) fun c s3 ⟨z,H3,I3,r3,k,e,q3⟩=>?_) hm
 subst e
 cases r3
 exact wpAny_truthy_bool ⟨H3,I3,q3⟩
/-! ### truth -/
/-- a kZ truth by the abstract heap -/
def x9 (K:DA)(x:V)(H:Hp)(k:Bool):Prop:=
 match x with
 | .aU=>k=false
 | .bl b=>k=b
 | .int i=>k=(i != 0)
 | .str y=>y.length<=sizeLine/\k=((y.length:Int) != 0)
 | .byt y=>y.size<=sizeLine/\k=((y.size:Int) != 0)
 | .ref p=>(∃xs,ao K H p xs/\k = !xs.isEmpty)\/(∃xs,aq K H p xs/\k = !xs.isEmpty)\/∃kvs,H p=some (.dK kvs)/\k = !kvs.isEmpty
 | _=>False
theorem nH {κ:Type}{kvs:List (κ×V)}{vs:List (κ×Value)}(r:KV kvs vs):(!vs.isEmpty) = !kvs.isEmpty:=by
 cases r <;> rfl
theorem jc {xs:List V}{its:List Value}(r:Vals xs its):(!its.toArray.isEmpty) = !xs.isEmpty:=by
 cases r <;> simp
theorem je:(sizeLine:Nat) < 2 ^ 63:=by rw [sizeLine_eq]; decide
theorem zP:BQ X (fun x H Q=>∃k,x9 X.K x H k/\Q k H):=by
 intro pins s σ H x v Q I rx h
 obtain ⟨k,e,q⟩:=h
 have hl:=je
 have hs:sizeLine=16777216:=sizeLine_eq
 cases x with
 | aU=>
   cases rx
   have e':k=false:=e
   subst e'
   exact truthy_none ⟨H,I,q⟩
 | bl b=>
   cases rx
   have e':k=b:=e
   subst e'
   exact wpAny_truthy_bool ⟨H,I,q⟩
 | int i=>
   obtain ⟨t,rfl⟩:=rx
   have e':k=(i != 0):=e
   subst e'
   exact PySem.P.truthy_int ⟨H,I,q⟩
 | str y=>
   obtain ⟨t,rfl⟩:=rx
   obtain ⟨hy,e'⟩ : y.length<=sizeLine/\k=((y.length:Int) != 0):=e
   subst e'
   exact PySem.P.truthy_str (by omega) ⟨H,I.tok _,q⟩
 | byt y=>
   obtain ⟨t,rfl⟩:=rx
   obtain ⟨hy,e'⟩ : y.size<=sizeLine/\k=((y.size:Int) != 0):=e
   subst e'
   exact PySem.W.truthy_bytes (by omega) ⟨H,I.tok _,q⟩
 | ref p=>
   cases rx
   have e':(∃xs,ao X.K H p xs/\k = !xs.isEmpty)\/(∃xs,aq X.K H p xs/\k = !xs.isEmpty)\/∃kvs,H p=some (.dK kvs)/\k = !kvs.isEmpty:=e
   rcases e' with ⟨xs,hx,e'⟩ | ⟨xs,hx,e'⟩ | ⟨kvs,hx,e'⟩
   · subst e'
     obtain ⟨its,r,pl,hz⟩:=I.list hx
     have hlen:=r.length
     exact wpAny_truthy_list pl.isList (by simp only [DO]; omega) ⟨H,I.tok _,by rw [jc r]; exact q⟩
   · subst e'
     obtain ⟨its,r,pl,hz⟩:=I.tuple hx
     have hlen:=r.length
     exact truthy_tuple pl (by simp only [DO]; omega) ⟨H,I.tok _,by rw [jc r]; exact q⟩
   · subst e'
     obtain ⟨hz,hS,vs,r,m⟩ : kvs.length<=sizeLine/\(p == sysModules)=false/\∃vs,KV kvs vs/\s.heap.DictOf (aD X.prog X.w) p vs:=I.hok p _ hx
     have hlen:kvs.length=vs.length:=Paired.length r
     exact wpAny_truthy_dict hS m (by omega) ⟨H,I.tok _,by rw [nH r]; exact q⟩
 | _=>exact (show False from e).elim
/-- any expression whose test is its kZ truth (a name,a call,a subscript,a field ..: he by fun _=>rfl) -/
theorem uw (ha:PE X a ta)(he:∀whole,isTrue a X.env whole=(do let v ← whole; standAt a.pos; holding [v] (truthy v))) :
   PT X a (fun σ H Q=>ta σ H fun x H'=>∃k,x9 X.K x H' k/\Q k H'):=by
 intro pins s σ H Q I h
 exact isTrue_plain (aX (ha pins s σ H _ I h) fun v s1 ⟨x,H1,I1,r1,q1⟩=>zP pins s1 σ H1 x v Q I1 r1 q1) (he _)

/-! ### strs and bytes -/
/-! ### scalar builtins,by cg -/
theorem vals1 {x:V}{us:List Value}(r:Vals [x] us):∃u,us=[u]/\RelV x u:=by
 cases r with
 | cons r1 r2=>cases r2; exact ⟨_,rfl,r1⟩
theorem vals2 {x y:V}{us:List Value}(r:Vals [x,y] us):∃u w',us=[u,w']/\RelV x u/\RelV y w':=by
 cases r with
 | cons r1 r2=>
   cases r2 with
   | cons r3 r4=>cases r4; exact ⟨_,_,rfl,r1,r3⟩
theorem pX (hc:X.calm=true):cg X (.builtin "max") (fun xs H Q=>∃i j,xs=[.int i,.int j]/\Q (.int (if j > i then j else i)) H):=by
 intro pins s σ H xs us Q I r h
 obtain ⟨i,j,rfl,q⟩:=h
 obtain ⟨u,w',rfl,⟨t,rfl⟩,⟨t',rfl⟩⟩:=vals2 r
 refine max_two_ints (I.ok.hd hc) fun h' tk k=>⟨_,H,I.kept k,?_,q⟩
 by_cases hj:j > i
 · rw [if_pos hj,if_pos hj]; exact ⟨_,rfl⟩
 · rw [if_neg hj,if_neg hj]; exact ⟨_,rfl⟩
theorem pY (hc:X.calm=true):cg X (.builtin "min") (fun xs H Q=>∃i j,xs=[.int i,.int j]/\Q (.int (if j < i then j else i)) H):=by
 intro pins s σ H xs us Q I r h
 obtain ⟨i,j,rfl,q⟩:=h
 obtain ⟨u,w',rfl,⟨t,rfl⟩,⟨t',rfl⟩⟩:=vals2 r
 refine min_two_ints (I.ok.hd hc) fun h' tk k=>⟨_,H,I.kept k,?_,q⟩
 by_cases hj:j < i
 · rw [if_pos hj,if_pos hj]; exact ⟨_,rfl⟩
 · rw [if_neg hj,if_neg hj]; exact ⟨_,rfl⟩
theorem pV:cg X (.type "int") (fun xs H Q=>(∃i,xs=[.int i]/\Q (.int i) H)\/∃k,xs=[.bl k]/\Q (.int (if k then 1 else 0)) H):=by
 intro pins s σ H xs us Q I r h
 rcases h with ⟨i,rfl,q⟩ | ⟨k,rfl,q⟩
 · obtain ⟨u,rfl,t,rfl⟩:=vals1 r
   exact call_int_int ⟨.int i,H,I,⟨_,rfl⟩,q⟩
 · obtain ⟨u,rfl,r1⟩:=vals1 r
   cases r1
   exact call_int_bool ⟨.int (if k then 1 else 0),H,I.tok _,⟨_,rfl⟩,q⟩
end
end L2

namespace L2
open PySem PySem.Spec PyProof.Rows

/-! ### an instance,its attributes a map -/
structure xV (h:Heap)(x dx C:Addr)(mA:Str->Option Value):Prop where
 obj:h.get? x=some (Gb C dx)
 ns:h.Ns1 dx mA
 ne:dx≠x

theorem qK {h:Heap}{dx:Addr}{mA:Str->Option Value}(n:h.Ns1 dx mA):∃od,h.get? dx=some od/\∀name,Gh name od=some (mA name):=by
 obtain ⟨o,es,ep,ho,hd,hk,_,hm⟩:=n
 refine ⟨o,ho,fun name=>?_⟩
 have e:=hm name
 unfold nsFind findBy at e
 rw [← Array.find?_toList] at e
 unfold Gh
 rw [hd]
 dsimp only
 split
 · rename_i y q
   rw [q] at e
   exact congrArg some e
 · rename_i q
   rw [q] at e
   have a:es.toList.any (·.refKey)=false:=by
     rw [List.any_eq_false]
     intro y hy
     obtain ⟨z,t,B5⟩:=hk y (Array.mem_toList_iff.mp hy)
     simp [DictEntry.refKey,B5]
   have a':¬ es.toList.any (·.refKey)=true:=by rw [a]; exact DU
   rw [if_neg a']
   exact congrArg some e

theorem xV.look {h:Heap}{x dx C:Addr}{mA:Str->Option Value}(I:xV h x dx C mA):∃od,PySem.W.InstAt h x (Gb C dx) C (some od)/\∀name,Gh name od=some (mA name):=
 let ⟨od,ho,hl⟩:=qK I.ns
 ⟨od,⟨I.obj,rfl,rfl,ho⟩,hl⟩


/-! ### the attributes as a list of pairs -/
theorem eQ.some_of {v:V}{o:Option Value}(r:eQ (some v) o):∃u,o=some u/\RelV v u:=by
 cases o with
 | none=>exact (show False from r).elim
 | some u=>exact ⟨u,rfl,r⟩
section
variable {P:Program}{w:World}{H H':Hp}{h h':Heap}{a C dx:Addr}{fs fs':List (Str×V)}
theorem vN (hok:eF P w H h)(e:H a=some (.ins C dx fs)):∃mA,xV h a dx C mA/\(∀f,eQ (fs.lookup f) (mA f))/\PySem.Within mA (fs.map (·.1))/\fs.length<=1000/\H dx=some (.own a):=by
 obtain ⟨d,z,ne,ob,mA,n,r,q⟩:=(show aP P w H h a (.ins C dx fs) from hok a _ e)
 exact ⟨mA,⟨ob,n,ne⟩,r,q,z,d⟩
end

/-! ### what of the text a class must have -/
structure BL (K:DA)(C:Addr):Prop where
 pg:PySem.W.plainGet K C Str.empty=true
 hd:PySem.W.hasDictIn K C=true
 po:PySem.W.plainOver K C=true
 sa:PySem.W.findIn K (.ref C) "__setattr__"=some (some (.builtin "object.__setattr__"))
theorem BL.get {K:DA}{C:Addr}(c:BL K C)(f:Str):PySem.W.plainGet K C f=true:=c.pg

/-! ### readings and rules -/

/-! ### isinstance -/
section
variable {X:Cx}{pins:List (Addr×Obj)}{σ:St}{H:Hp}{s:Shared}{A:Around}{E:Value->Shared->Prop}{Q:Value->Shared->Prop}{c:Value}{b:Bool}
/-- the type of a value,as the yo Ap take it; for an instance its class -/
inductive TyOf (K:DA) (H:Hp):V->Value->Prop where
 | aU:TyOf K H .aU (.type "NoneType")
 | bl (x:Bool):TyOf K H (.bl x) (.type "bool")
 | int (i:Int):TyOf K H (.int i) (.type "int")
 | str (x:Str):TyOf K H (.str x) (.type "str")
 | flt (x:UInt64):TyOf K H (.flt x) (.type "float")
 | lst {a:Addr} {xs:List V} (e:H a=some (.lst xs)):TyOf K H (.ref a) (.type "list")
 | frz {a:Addr} {o:Obj} {xs:List V} (e:H a=some (.frz o (.lst xs))):TyOf K H (.ref a) (.type "list")
 | tup {a:Addr} {xs:List V} (e:H a=some (.tup xs)):TyOf K H (.ref a) (.type "tuple")
 | dK {a:Addr} {kvs:List (Key×V)} (e:H a=some (.dK kvs)):TyOf K H (.ref a) (.type "dict")
 | dT {a:Addr} {kvs:List (List Key×V)} (e:H a=some (.dT kvs)):TyOf K H (.ref a) (.type "dict")
 | ins {a C dx:Addr} {fs:List (Str×V)} (e:H a=some (.ins C dx fs)) (cl:BL K C) (ha:PySem.W.findIn K (.ref C) "__class__"=some (some (.builtin "object.__class__")))
     (hn:PySem.W.specialIn K (.builtin "object.__class__") "__get__"=some (some (.builtin "getset_descriptor.__get__"))) (htk:PySem.W.takesIn K (.builtin "object.__class__")=some true)
     (hm:PySem.W.mroIn K C (.type "object")=some true):TyOf K H (.ref a) (.ref C)
/-- isinstance(x,c) for one class c,a built-in or an own one: AB answer -/
theorem qF {x:V}{u t:Value}(I:Inv X pins σ H s)(rx:RelV x u)(ty:TyOf X.K H x t)(e:Gi X.K t c=some b)(h:∀tk,Q (.bool b) { s with toks:=tk }) :
   wpAny (model X.prog X.w) A (call (.builtin "isinstance") [u,c]) Q E s:=by
 cases ty with
 | aU=>cases (show u=Gs from rx); exact Er PySem.W.kitx_none I.kIn DV e (fun z=>nomatch z) h
 | bl y=>cases (show u=Value.bool y from rx); exact Er PySem.W.kitx_bool I.kIn DV e (fun z=>nomatch z) h
 | int i=>obtain ⟨t,q⟩:=(show ∃t,u=FW i t from rx); cases q; exact Er PySem.W.kitx_int I.kIn DV e (fun z=>nomatch z) h
 | str y=>obtain ⟨t,q⟩:=(show ∃t,u=FH y t from rx); cases q; exact Er PySem.W.kitx_str I.kIn DV e (fun z=>nomatch z) h
 | flt y=>obtain ⟨t,q⟩:=(show ∃t,u=Value.float y t from rx); cases q; exact Er PySem.W.kitx_float I.kIn DV e (fun z=>nomatch z) h
 | @lst a xs ea=>
   cases (show u=D8 a from rx)
   obtain ⟨_,_,n,_,h1⟩:=(show aP X.prog X.w H s.heap a (.lst xs) from I.hok a _ ea)
   exact Er FY I.kIn ⟨_,h1,rfl⟩ e (fun z=>nomatch z) h
 | @frz a ob xs ea=>
   cases (show u=D8 a from rx)
   obtain ⟨_,_,_,n,_,h1⟩:=(show aP X.prog X.w H s.heap a (.frz ob (.lst xs)) from I.hok a _ ea)
   exact Er FY I.kIn ⟨_,h1,rfl⟩ e (fun z=>nomatch z) h
 | @tup a xs ea=>
   cases (show u=D8 a from rx)
   obtain ⟨_,_,_,p⟩:=(show aP X.prog X.w H s.heap a (.tup xs) from I.hok a _ ea)
   obtain ⟨o,h1,h2,_⟩:=p
   exact Er GK I.kIn ⟨o,h1,h2⟩ e (fun z=>nomatch z) h
 | @dK a kvs ea=>
   cases (show u=D8 a from rx)
   obtain ⟨_,_,vs,_,p⟩:=(show aP X.prog X.w H s.heap a (.dK kvs) from I.hok a _ ea)
   obtain ⟨o,es,ep,h1,h2,_⟩:=p
   exact Er GP I.kIn ⟨o,h1,h2.1⟩ e (fun z=>nomatch z) h
 | @dT a kvs ea=>
   cases (show u=D8 a from rx)
   obtain ⟨_,_,xs,_,o,es,ep,h1,h2,_⟩:=(show aP X.prog X.w H s.heap a (.dT kvs) from I.hok a _ ea)
   exact Er GP I.kIn ⟨o,h1,h2.1⟩ e (fun z=>nomatch z) h
 | @ins a C dx fs ea cl ha hn htk hm=>
   cases (show u=D8 a from rx)
   obtain ⟨mA,O,_⟩:=vN I.hok ea
   obtain ⟨od,J,_⟩:=O.look
   exact Er (PySem.W.kitx_own (cl.get _) cl.hd ha hn htk hm) I.kIn J e (fun z=>nomatch z) h
end
end L2

namespace L2
open PySem PySem.Spec PyProof.Rows

/-! ### room -/
structure cM (k:Nat)(A:Around):Prop where
 hd:A.handled=none
 dp:A.depth + 3 * k + 5 < recursionLimit
 un:A.units + 16 * k + 200 < cLine
theorem cM.mono {j k:Nat}{A:Around}(r:cM k A)(h:j<=k):cM j A:=⟨r.hd,by have:=r.dp; omega,by have:=r.un; omega⟩
theorem cM.deeper {k:Nat}{A:Around}(r:cM (k + 1) A)(env:Env):cM k (A.deeper env):=
 ⟨r.hd,by have:=r.dp; show A.depth + 1 + 3 * k + 5 < _; omega,by have:=r.un; show A.units + 3 + 16 * k + 200 < _; omega⟩
theorem cM.depth {k:Nat}{A:Around}(r:cM k A):A.depth < recursionLimit:=by have:=r.dp; omega
theorem cM.units {k:Nat}{A:Around}(r:cM k A):A.units + 64 < cLine:=by have:=r.un; omega
/-! ### argument lists and displays -/
def zN:TA:=fun _ H Q=>Q [] H
def uO (ta:TE)(tr:TA):TA:=fun σ H Q=>ta σ H fun x H1=>tr σ H1 fun xs H2=>Q (x :: xs) H2
section
variable {X:Cx}{e:Expr}{es:List Expr}{te:TE}{t:TA}{pos:Pos}
theorem y6:PA X [] zN:=fun _ _ _ _ H Q I h=>Fw ⟨[],H,I,.nil,h⟩
theorem wC (ha:PE X e te)(hr:PA X es t)(hs:starEach (e :: es) X.env=(false,eval e X.env) :: starEach es X.env:=by rfl):PA X (e :: es) (uO te t):=by
 intro pos pins s σ H Q I h
 rw [hs]
 show wpAny _ _ (spliced ((false,eval e X.env) :: backTo pos (starEach es X.env))) _ _ s
 refine E5 (aX (ha pins s σ H _ I h) fun u s1 ⟨x,H1,I1,r1,q1⟩=>?_)
 exact aX (hr pos pins s1 σ H1 _ I1 q1) fun us s2 ⟨xs,H2,I2,r2,q2⟩=>⟨x :: xs,H2,I2,.cons r1 r2,q2⟩

/-- a tuple,a list of written items -/
def zO (t:TA):TE:=fun σ H Q=>t σ H fun xs H1=>xs.length<=sizeLine/\∀p,H1 p=none->Q (.ref p) (upd H1 p (.tup xs))
def zM (t:TA):TE:=fun σ H Q=>t σ H fun xs H1=>xs.length<=sizeLine/\∀p,H1 p=none->Q (.ref p) (upd H1 p (.lst xs))
theorem zh {x1}(h:PA X es t):PE X (.Tuple es x1 pos) (zO t):=by
 intro pins s σ H Q I hq
 refine wpAny_Tuple_spliced (aX (h pos pins s σ H _ I hq) fun us s1 ⟨xs,H1,I1,r,z,q⟩=>⟨by rw [← r.length]; exact z,?_⟩)
 have hf:H1 s1.heap.objs.size=none:=I1.hok.fresh (DJ _)
 refine ⟨.ref s1.heap.objs.size,upd H1 s1.heap.objs.size (.tup xs),I1.laid (t':=s1.toks) (fun b u e=>DK _ e) (DJ _) ?_,rfl,q _ hf⟩
 exact ⟨z,us,r,⟨_,DY _ rfl,rfl,_,rfl⟩⟩
theorem zb (h:PA X es t):PE X (.List es pos) (zM t):=by
 intro pins s σ H Q I hq
 refine wpAny_List_spliced (aX (h pos pins s σ H _ I hq) fun us s1 ⟨xs,H1,I1,r,z,q⟩=>⟨by rw [← r.length]; exact z,?_⟩)
 have hf:H1 s1.heap.objs.size=none:=I1.hok.fresh (DJ _)
 refine ⟨.ref s1.heap.objs.size,upd H1 s1.heap.objs.size (.lst xs),I1.laid (t':=s1.toks) (fun b u e=>DK _ e) (DJ _) ?_,rfl,q _ hf⟩
 exact ⟨z,us,0,r,DY _ rfl⟩
end

/-! ### what a def promises -/
/-- a def's promise: the bound arguments in the ml order,the heap,the wanted end,the wanted exception -/
abbrev Sp:=List V->Hp->VK->XK->Prop
/-- how an exception lies behind a call (file 08 gives it): the iQ frames,abstract heap and state ahead of the call,the iu,the exception,the state -/
abbrev CXT:=List Env->Hp->Shared->XK->Value->Shared->Prop

/-- the state at a call -/
structure u9 (P:Program)(w:World)(K:DA)(mg:Str->Option Value)(base:Heap)(A:Around)(outer:List Env)(s:Shared)(H:Hp):Prop where
 frames:A.frames=some outer
 mod:Mod K mg base
 bs:∀b o,base.get? b=some o->s.heap.get? b=some o/\H b=none
 bsz:base.objs.size<=s.heap.objs.size
 iY:s.heap.FunFrames base outer
 frf:∀b∈sg outer,H b=none
 hok:eF P w H s.heap
 bare:AllBare s.gens
/-- a BY end -/
def CE (outer:List Env)(P:Program)(w:World)(H:Hp)(s:Shared)(Q:VK)(u:Value)(s':Shared):Prop:=
 ∃v H',s'.os=s.os/\AllBare s'.gens/\Un (sg outer) [] H H' s.heap s'.heap/\eF P w H' s'.heap/\RelV v u/\Q v H'
def CR (CX:CXT)(outer:List Env)(P:Program)(w:World)(H:Hp)(s:Shared)(Q:VK)(E:XK)(r:Result)(s':Shared):Prop:=
 match r with
 | .ok (.ret u)=>CE outer P w H s Q u s'
 | .ok _=>False
 | .error e=>CX outer H s E e s'
structure aL (P:Program)(w:World)(K:DA)(mg:Str->Option Value)(base:Heap)(CX:CXT)(k:Nat)(f:Addr)(fd:FuncData)(ps:List Str)(sp:Sp):Prop where
 len:∀vs H Q E,sp vs H Q E->vs.length=ps.length
 run:∀(A:Around) (outer:List Env) (s:Shared) (H:Hp) (args:Args) (us:List Value) (vs:List V) (Q:VK) (E:XK),cM k A->u9 P w K mg base A outer s H->BindsTo s fd args (ps.zip us)->Vals vs us->sp vs H Q E ->
   codeAny (model P w) A (.call (.ref f) args) (CR CX outer P w H s Q E) s
theorem aL.mono {P:Program}{w:World}{K:DA}{mg:Str->Option Value}{base:Heap}{CX:CXT}{j k:Nat}{f:Addr}{fd:FuncData}{ps:List Str}{sp:Sp}(F:aL P w K mg base CX j f fd ps sp)(h:j<=k) :
   aL P w K mg base CX k f fd ps sp:=⟨F.len,fun A outer s H args us vs Q E hr=>F.run A outer s H args us vs Q E (hr.mono h)⟩
section
variable {X:Cx}{pins:List (Addr×Obj)}{σ:St}{H:Hp}{s s':Shared}
/-- from a body: what a callee wants -/
theorem Inv.B0 (I:Inv X pins σ H s):u9 X.prog X.w X.K X.mg X.base X.A X.stack s H:=
 ⟨I.ok.frames,I.ok.mod,I.bs,Eb I.ok.bsz I.sz,I.stack,I.stkFree,I.hok,I.bare⟩
/-- behind a call -/
theorem Inv.after {Q:VK}{u:Value}(I:Inv X pins σ H s)(h:CE X.stack X.prog X.w H s Q u s'):EP X pins σ Q u s':=by
 obtain ⟨v,H',os,bare,un,hok,r,q⟩:=h
 obtain ⟨hh,g,d,t,Dq⟩:=s'
 obtain rfl:Dq=s.os:=os
 exact ⟨v,H',I.call (h':=hh) (g':=g) (d':=d) (t':=t) (ch:=[]) un hok bare (fun b z=>absurd z (by simp)),r,q⟩
end

/-! ### calls -/
/-- f(..): the written arguments,then the defaults dvs; E: what is wanted of an exception -/
def pQ (sp:Sp)(dvs:List V)(E:XK)(t:TA):TE:=fun σ H Q=>t σ H fun vs H1=>sp (vs++dvs) H1 Q E
/-- how the parameters are bound: us the positional arguments,kw the z9 values by name,ds the defaults that fill up -/
def Binds (K:DA)(fd:FuncData)(ps:List Str)(ds:List Value):Prop:=
 ∀(s:Shared) (us:List Value),K.In s.heap->(us++ds).length=ps.length->BindsTo s fd ⟨us,[]⟩ (ps.zip (us++ds))
/-- oQ parameter is given -/
theorem Binds.all {K:DA}{fd:FuncData}{ps:List Str}(h:∀us:List Value,us.length=ps.length->bindArgs fd ⟨us,[]⟩ = pure (ps.zip us)):Binds K fd ps []:=fun s us _ hl=>by
 rw [Es] at hl ⊢
 exact .of_eq (h us hl)

/-- an exception of a callee BD what this body wants of exceptions -/
def Passes (CX:CXT)(X:Cx)(E:XK):Prop:=∀(pins:List (Addr×Obj)) (σ:St) (H:Hp) (s:Shared) (e:Value) (s':Shared),Inv X pins σ H s->CX X.stack H s E e s'->X.xe e s'

section
variable {X:Cx}{CX:CXT}{k:Nat}{f C:Addr}{fd:FuncData}{ps:List Str}{sp:Sp}{dvs:List V}{ds:List Value}{E:XK}{x m:Str}{p pos apos:Pos}{e o:Expr}{es:List Expr}{ta:TE}{t:TA}

/-- the callee runs -/
theorem zB {pins:List (Addr×Obj)}{σ:St}{H:Hp}{s:Shared}{Q:VK}{us:List Value}{vs:List V}(F:aL X.prog X.w X.K X.mg X.base CX k f fd ps sp)(hr:cM k X.A)(hb:Binds X.K fd ps ds)(hd:Vals dvs ds)(hx:Passes CX X E)
   (I:Inv X pins σ H s) (r:Vals vs us) (h:sp (vs++dvs) H Q E):wpAny (model X.prog X.w) X.A (call (.ref f) us) (EP X pins σ Q) X.xe s:=by
 have r2:Vals (vs++dvs) (us++ds):=r.append hd
 have hl:(us++ds).length=ps.length:=by rw [← r2.length]; exact F.len _ _ _ _ h
 refine wpAny_call (codeAny_mono (F.run X.A X.stack s H ⟨us,[]⟩ (us++ds) (vs++dvs) Q E hr I.B0 (hb s us I.kIn hl) r2 h) fun r s' hq=>?_)
 cases r with
 | error e=>exact hx pins σ H s e s' I hq
 | ok fl=>
   cases fl with
   | ret u=>exact I.after hq
   | next=>exact E2 hq
   | brk=>exact E2 hq
   | cont=>exact E2 hq

theorem pj (F:aL X.prog X.w X.K X.mg X.base CX k f fd ps sp)(hr:cM k X.A)(hg:Gl X x)(hm:X.mg x=some (.ref f))(hk:ER X.K (.ref f)=true)(hb:Binds X.K fd ps ds)(hd:Vals dvs ds)(hx:Passes CX X E)
   (ha:PA X (e :: es) t) (hdb:(x == ("__debug__":Str))=false:=by decide) (he:starEach (e :: es) X.env=(false,eval e X.env) :: starEach es X.env:=by rfl) (hpl:(backTo pos (starEach es X.env)).any (·.1)=false:=by rfl) :
   PE X (.Call (.Name x p) (e :: es) [] pos) (pQ sp dvs E t):=by
 intro pins s σ H Q I h
 refine wpAny_Call_Name_kw (vS I hg hm ?_ hdb)
 refine PySem.W.callWith_K (h₀:=X.base) I.ok.mod.kin hk (aX (ha pos pins s σ H _ I h) fun us s1 ⟨vs,H1,I1,r,q⟩=>⟨I1.kIn,?_⟩) he hpl
 exact zB F hr hb hd hx I1 r q
end

/-! ### keywords -/

/-! ### a def's body keeps its promise -/
/-- names: the parameters first -/
structure au (N P:List Str)(sc:Scope):Prop where
 kind:sc.kind=.function
 co:sc.isCoroutine=false
 gen:sc.isGenerator=false
 nd:N.Nodup
 pre:N.take P.length=P
 par:∀x∈P,sc.names.lookup x=some .local\/sc.names.lookup x=some .cell
 nofree:∀y∈sc.names,y.2≠.free

theorem jT {kindOf:Str->Option NameKind}{x:Str}:∀{binds:List (Str×Value)} {m:Str->Option Value},(∀v,(x,v) ∉ binds)->bindL kindOf binds m x=m x
 | [],_,_=>rfl
 | (n,v) :: r,m,h=>by
   unfold bindL
   rw [jT fun w hw=>h w (El _ hw)]
   split
   · have:x≠n:=by rintro rfl; exact h v Ef
     simp [this]
   · rfl
theorem jR {kindOf:Str->Option NameKind}{x:Str}:∀{binds:List (Str×Value)} {m:Str->Option Value},(∀v,(x,v) ∉ binds)->bindC kindOf binds m x=m x
 | [],_,_=>rfl
 | (n,v) :: r,m,h=>by
   unfold bindC
   rw [jR fun w hw=>h w (El _ hw)]
   split
   · rfl
   · have:x≠n:=by rintro rfl; exact h v Ef
     simp [this]
theorem jS {kindOf:Str->Option NameKind}{x:Str}{v:Value}:∀{P:List Str} {vs:List Value} {i:Nat} {m:Str->Option Value},P.Nodup->P[i]? = some x->vs[i]? = some v->kindOf x=some .local ->
   bindL kindOf (P.zip vs) m x=some v
 | [],_,_,_,_,h,_,_=>by simp at h
 | _ :: _,[],_,_,_,_,h,_=>by simp at h
 | p :: P,w :: vs,0,m,nd,h1,h2,hk=>by
   simp at h1 h2; subst h1; subst h2
   show bindL kindOf ((p,w) :: P.zip vs) m p=_
   unfold bindL
   rw [jT fun v hv=>(List.nodup_cons.mp nd).1 (Gm hv).1,if_pos hk]
   simp
 | p :: P,w :: vs,i + 1,m,nd,h1,h2,hk=>by
   show bindL kindOf ((p,w) :: P.zip vs) m x=_
   unfold bindL
   exact jS (i:=i) (List.nodup_cons.mp nd).2 (by simpa using h1) (by simpa using h2) hk
theorem jQ {kindOf:Str->Option NameKind}{x:Str}{v:Value}:∀{P:List Str} {vs:List Value} {i:Nat} {m:Str->Option Value},P.Nodup->P[i]? = some x->vs[i]? = some v->kindOf x≠some .local ->
   bindC kindOf (P.zip vs) m x=some v
 | [],_,_,_,_,h,_,_=>by simp at h
 | _ :: _,[],_,_,_,_,h,_=>by simp at h
 | p :: P,w :: vs,0,m,nd,h1,h2,hk=>by
   simp at h1 h2; subst h1; subst h2
   show bindC kindOf ((p,w) :: P.zip vs) m p=_
   unfold bindC
   rw [jR fun v hv=>(List.nodup_cons.mp nd).1 (Gm hv).1,if_neg hk]
   simp
 | p :: P,w :: vs,i + 1,m,nd,h1,h2,hk=>by
   show bindC kindOf ((p,w) :: P.zip vs) m x=_
   unfold bindC
   exact jQ (i:=i) (List.nodup_cons.mp nd).2 (by simpa using h1) (by simpa using h2) hk

/-- the Ce values at the entry -/
def start (N:List Str)(vs:List V):St:=vs.map some++Ek (N.length - vs.length) none

/-- the context of a def's body,at its entry; an exception leaves the frame,then lies as CX says -/
def mU (CX:CXT)(P:Program)(w:World)(K:DA)(mg:Str->Option Value)(base:Heap)(N:List Str)(qual:Str)(scope:Scope)(f:Addr)(cd:Value)(A:Around)(outer:List Env)(s:Shared)(H:Hp)(E:XK):Cx where
 prog:=P
 w:=w
 K:=K
 mg:=mg
 base:=base
 A:=A.deeper (envOfC qual scope s.heap.objs.size f cd)
 N:=N
 s₀:=s
 H₀:=H
 env:=envOfC qual scope s.heap.objs.size f cd
 outer:=outer
 stack:=envOfC qual scope s.heap.objs.size f cd :: outer
 ex:=[]
 calm:=true
 fn:=fun _=>true
 pn:=[]
 xe:=fun e s'=>wpAny (model P w) (A.deeper (envOfC qual scope s.heap.objs.size f cd)) (leaving (envOfC qual scope s.heap.objs.size f cd) e) (fun _ Cn=>CX outer H s E e Cn) (fun e' Cn=>CX outer H s E e' Cn) s'

theorem lC {sc:Scope}{n:Nat}{x:Str}(h:sc.names.lookup x=some .cell):∃c,(cellsFrom n sc.names []).lookup x=some c:=by
 have q:=Gu sc.names n [] (.inl h)
 exact Option.isSome_iff_exists.mp q

theorem qE {CX:CXT}{P:Program}{w:World}{K:DA}{mg:Str->Option Value}{base:Heap}{N ps:List Str}{qual:Str}{scope:Scope}{f:Addr}{cd:Value}{A:Around}{outer:List Env}{s s1:Shared}{H:Hp}{E:XK}{us:List Value}{vs:List V}
   (S:au N ps scope) (hd:A.handled=none) (e0:u9 P w K mg base A outer s H) (hl:vs.length=ps.length) (r:Vals vs us)
   (x:InCallC s s.heap.objs.size (bindL (envOfC qual scope s.heap.objs.size f cd).kindOf (ps.zip us) fun _=>none) (cellsFrom (s.heap.objs.size + 1) scope.names []) (bindC (envOfC qual scope s.heap.objs.size f cd).kindOf (ps.zip us) fun _=>none) s1) :
   Inv (mU CX P w K mg base N qual scope f cd A outer s H E) [] (start N vs) H s1:=by
 have hpl:ps.length<=N.length:=by have:=congrArg E8 S.pre; rw [DM] at this; omega
 obtain ⟨h1,tk,rfl,hk⟩:=x.done
 have noA:∀b:Addr,b ∉ (mU CX P w K mg base N qual scope f cd A outer s H E).ex:=fun b z=>absurd (show b∈([]:List Addr) from z) (by simp)
 refine ⟨⟨e0.mod,S.kind,rfl,rfl,DJ _,fun y z c h1 h2=>?_,fun y hy=>?_,fun y c _ h=>?_,fun _=>hd,Around.frames_deeper e0.frames,.inr ⟨rfl,rfl⟩,fun b z=>absurd z (noA b),e0.bs,e0.bsz,fun b _ _=>noA b,fun b z=>absurd z (noA b),e0.iY,e0.frf⟩,
   rfl,e0.bare,Un.kept hk,⟨_,x.toInCall.ns,fun i y v h1 h2 h3=>?_⟩,fun y c h=>⟨_,x.cell y c h⟩,e0.hok.fresh (DJ _),fun y c h=>?_,fun p hp=>absurd (show p∈([]:List (Addr×Obj)) from hp) (by simp),e0.hok.kept hk,?_⟩
 · exact name_of_addr x.apart (Eo h1) (Eo h2)
 · have hy:scope.names.lookup y=some .cell\/scope.names.lookup y=some .free:=hy
   rcases hy with hy | hy
   · exact lC hy
   · exact absurd rfl (S.nofree _ (Eo hy))
 · exact ED (x.above y c (Eo h))
 · have hi:i < vs.length:=by
     unfold start at h2
     by_cases hi:i < vs.length
     · exact hi
     · rw [DW (by simpa using hi)] at h2
       rw [List.getElem?_replicate] at h2
       split at h2 <;> cases h2
   have ha:vs[i]? = some v:=by
     unfold start at h2
     rw [D9 (by simpa using hi),Ed] at h2
     cases e:vs[i]? with
     | none=>rw [e] at h2; cases h2
     | some a=>rw [e] at h2; cases h2; rfl
   obtain ⟨u,hu,rv⟩:=r.get ha
   have hp:ps[i]? = some y:=by
     rw [← S.pre,List.getElem?_take_of_lt (by omega)]; exact h1
   have CS:ps.Nodup:=by rw [← S.pre]; exact S.nd.sublist (F7 _ _)
   refine ⟨u,rv,?_⟩
   rcases S.par y (DR hp) with k | k
   · exact .inl ⟨k,jS CS hp hu k⟩
   · obtain ⟨c,e⟩:=lC (n:=s.heap.objs.size + 1) k
     refine .inr ⟨.inl k,c,e,?_⟩
     have q:=x.cell y c e
     rw [jQ CS hp hu (by show scope.names.lookup y≠_; rw [k]; decide)] at q
     exact q
 · exact e0.hok.fresh (ED (x.above y c (Eo h)))
 · unfold start
   show _=N.length
   rw [DE,DC,FJ]
   omega

/-- THE RULE: a def (or a method) of the text,by its body. Dy BX reading t is BZ for each entry; it is run at the ml values -/
theorem xq {CX:CXT}{P:Program}{w:World}{K:DA}{mg:Str->Option Value}{base:Heap}{k:Nat}{f:Addr}{name qual:Str}{params:Arguments}{body:List Stmt}{scope:Scope}{dV kV doc pm cdv ct oc:Value}{an od:Option Addr}
   {osl:Array (Option Value)} {N ps:List Str} {sp:Sp} (lk:K.lookup f=some ⟨oc,od,.func (EA name qual params body scope dV kV doc pm an cdv ct),osl⟩) (hcd:E7 K cdv qual=true) (S:au N ps scope)
   (len:∀vs H Q E,sp vs H Q E->vs.length=ps.length)
   (hbody:∀(A:Around) (outer:List Env) (s:Shared) (H:Hp) (vs:List V) (Q:VK) (E:XK),cM k (A.deeper (envOfC qual scope s.heap.objs.size f cdv))->sp vs H Q E ->
     ∃t,lg (mU CX P w K mg base N qual scope f cdv A outer s H E) body t/\t { nx:=fun _ H'=>Q .aU H',rt:=Q } (start N vs) H) :
   aL P w K mg base CX (k + 1) f (EA name qual params body scope dV kV doc pm an cdv ct) ps sp:=by
 refine ⟨len,fun A outer s H args us vs Q E hr e0 hb r hsp=>?_⟩
 have hl:=len _ _ _ _ hsp
 have KX:K.In s.heap:=e0.mod.kin.keeps fun b o e=>(e0.bs b o e).1
 have lim:s.heap.NoLimit:=e0.mod.nolimit.keeps fun b o e=>(e0.bs b o e).1
 have Ax:∀y∈ps.zip us,scope.names.lookup y.1=some .local\/(scope.names.lookup y.1=some .cell/\((cellsFrom (s.heap.objs.size + 1) scope.names []).lookup y.1).isSome=true):=fun ⟨n,v⟩ hy=>by
   rcases S.par n (Gm hy).1 with q | q
   · exact .inl q
   · exact .inr ⟨q,Gu _ _ _ (.inl q)⟩
 refine codeAny_call_function hr.depth (KX _ _ lk) rfl S.co S.gen rfl (PySem.W.codeRec_of KX hcd) (hb _ _ _ _ ?_)
 refine wpAny_newFunctionEnv_cells S.kind Ax fun env he s1 x=>?_
 subst he
 refine ⟨lim.keeps x.toInCall.keep,codeAny_func ?_⟩
 obtain ⟨t,ht,hq⟩:=hbody A outer s H vs Q E (hr.deeper _) hsp
 have I:Inv (mU CX P w K mg base N qual scope f cdv A outer s H E) [] (start N vs) H s1:=qE S hr.hd e0 hl r x
 refine wpAny_mono (ht [] s1 (start N vs) H _ I hq) (fun fl s' hs=>?_) fun e s' hs=>hs
 have fin:∀{σ':St} {H':Hp} {v:V} {u:Value},Inv (mU CX P w K mg base N qual scope f cdv A outer s H E) [] σ' H' s'->RelV v u->Q v H'->CE outer P w H s Q u s':=
   fun {σ' H' v u} J rv q=>⟨v,H',J.os,J.bare,J.base,J.hok,rv,q⟩
 cases fl with
 | ret u=>
   obtain ⟨v,σ',H',J,rv,q⟩:=hs
   exact fin J rv q
 | next=>
   obtain ⟨σ',H',J,q⟩:=hs
   exact fin (v:=V.aU) (u:=Gs) J rfl q
 | brk=>
   obtain ⟨_,_,_,q⟩:=hs
   exact E2 q
 | cont=>
   obtain ⟨_,_,_,q⟩:=hs
   exact E2 q
end L2

namespace L2
open PySem PySem.Spec PyProof.Rows
section
variable {X:Cx}{x:Str}{p pos:Pos}{e:Expr}{es:List Expr}{t:TA}{id T:String}{r:List V->Hp->VK->Prop}

def Ae (r:List V->Hp->VK->Prop)(t:TA):TE:=fun σ H Q=>t σ H fun vs H1=>r vs H1 Q
/-- f(e,..),f a built-in function -/
theorem ug (hc:cg X (.builtin id) r)(hg:Gl X x)(hm:X.mg x=none)(hv:bootBuiltins x=some (.builtin id))(ha:PA X (e :: es) t)(hn:x≠"__name__":=by decide)(hdb:(x == ("__debug__":Str))=false:=by decide)
   (he:starEach (e :: es) X.env=(false,eval e X.env) :: starEach es X.env:=by rfl) (hpl:(backTo pos (starEach es X.env)).any (·.1)=false:=by rfl):PE X (.Call (.Name x p) (e :: es) [] pos) (Ae r t):=by
 intro pins s σ H Q I h
 refine wpAny_Call_Name_kw (dr I hg hm hv ?_ hn hdb)
 exact PyProof.Rows.callWith_builtin1 (aX (ha pos pins s σ H _ I h) fun us s1 ⟨vs,H1,I1,r1,q1⟩=>hc pins s1 σ H1 vs us Q I1 r1 q1) he hpl
/-- T(e,..),T a built-in type -/
theorem q5 (hc:cg X (.type T) r)(hg:Gl X x)(hm:X.mg x=none)(hv:bootBuiltins x=some (.type T))(ha:PA X (e :: es) t)(hn:x≠"__name__":=by decide)(hdb:(x == ("__debug__":Str))=false:=by decide)
   (he:starEach (e :: es) X.env=(false,eval e X.env) :: starEach es X.env:=by rfl) (hpl:(backTo pos (starEach es X.env)).any (·.1)=false:=by rfl):PE X (.Call (.Name x p) (e :: es) [] pos) (Ae r t):=by
 intro pins s σ H Q I h
 refine wpAny_Call_Name_kw (dr I hg hm hv ?_ hn hdb)
 exact Em (aX (ha pos pins s σ H _ I h) fun us s1 ⟨vs,H1,I1,r1,q1⟩=>hc pins s1 σ H1 vs us Q I1 r1 q1) he hpl
end
end L2

namespace HT
open PySem PyProof.Rows


section
variable {prog:Program}{w:World}{A:Around}{E:Value->Shared->Prop}{s:Shared}

/-- t + u,t not empty -/
theorem vp {t b:Addr}{vs ws:List Value}{Q:Value->Shared->Prop}(ht:IsTup s.heap t vs.toArray)(hb:IsTup s.heap b ws.toArray)(hv:vs≠[])
   (h1:ws=[]->Q (.ref t) s) (h2:ws≠[]->Q (.ref s.heap.objs.size) { s with heap:=s.heap.push { cls:=.type "tuple",data:=.seq (vs++ws).toArray } })
   (hsz:vs.length + ws.length<=sizeLine):wpAny (model prog w) A (binaryOp .Add (.ref t) (.ref b)) Q E s:=by
 obtain ⟨⟨cls,dd,data,sl⟩,ho,hc,n,hd⟩:=id ht
 obtain ⟨⟨cls2,dd2,data2,sl2⟩,ho2,hc2,n2,hd2⟩:=id hb
 simp only at hc hd hc2 hd2
 subst hc hd hc2 hd2
 have e:vs.toArray++ws.toArray=(vs++ws).toArray:=by simp
 by_cases hw:ws=[]
 · exact concat_meets ⟨_,ho,rfl⟩ ⟨_,ho2,rfl⟩ noFill_tuple_add seq_tuple_add Fy Fv (Fn _ _)
     (tuple_addW1 t b vs.toArray ws.toArray n n2 dd dd2 sl sl2 (by simpa using hv) (by simp [hw])) ⟨ho,ho2,h1 hw⟩
 · refine concat_meets ⟨_,ho,rfl⟩ ⟨_,ho2,rfl⟩ noFill_tuple_add seq_tuple_add Fy Fv (Fn _ _)
     (tuple_addW2 t b vs.toArray ws.toArray n n2 dd dd2 sl sl2 (by simpa using hv) (by simpa using hw) (by rw [DO,DO]; exact hsz)) ⟨ho,ho2,?_⟩
   rw [e]
   exact h2 hw

/-! ### t[a:b],not the whole -/
/-- a w4 bound as a place among n (d where it is left out) -/
def bF (n d:Nat):Option Int->Nat
 | none=>d
 | some v=>if v < 0 then (v + (n:Int)).toNat else min v.toNat n
theorem uE (n d:Nat):bF n d none=d:=rfl
theorem cD (n d k:Nat):bF n d (some (k:Int))=min k n:=by
 show (if (k:Int) < 0 then ((k:Int) + (n:Int)).toNat else min (k:Int).toNat n)=min k n
 rw [if_neg (by omega),E9]
theorem zC (n d:Nat)(hd:d<=n)(o:Option Int):bF n d o<=n:=by
 cases o with
 | none=>exact hd
 | some v=>
   show (if v < 0 then (v + (n:Int)).toNat else min v.toNat n)<=n
   by_cases hv:v < 0
   · rw [if_pos hv]; omega
   · rw [if_neg hv]; exact Nat.min_le_right _ _
theorem oJ (v:Int)(n d:Nat):(if v < 0 then max (v + (n:Int)) 0 else min v (n:Int))=((bF n d (some v):Nat):Int):=by
 show (if v < 0 then max (v + (n:Int)) 0 else min v (n:Int))=(((if v < 0 then (v + (n:Int)).toNat else min v.toNat n):Nat):Int)
 by_cases hv:v < 0
 · simp only [if_pos hv]; omega
 · simp only [if_neg hv]; omega
theorem mL (lo hi:Option Int)(n:Nat):Ew lo hi 1 (n:Int)=(((bF n 0 lo:Nat):Int),((bF n n hi:Nat):Int)):=by
 have h1:¬ ((1:Int) < 0):=by omega
 unfold Ew
 simp only [h1,if_false]
 refine Prod.ext ?_ ?_
 · cases lo with
   | none=>rfl
   | some v=>exact oJ v n 0
 · cases hi with
   | none=>rfl
   | some v=>exact oJ v n n
theorem nS (i j:Nat):Eg (i:Int) (j:Int) 1=j - i:=by
 unfold Eg
 have h1:(1:Int) > 0:=by omega
 simp only [h1,if_true,Int.ediv_one]
 split <;> omega
theorem jo {v:Value}{o:Option Int}{Q:Option Int->Shared->Prop}(p:IsPart v o)(h:Q o s):wpAny (model prog w) A (Builtin.Slice.slicePartIndex v) Q E s:=by
 cases p with
 | none=>exact slicePart_none h
 | int i t=>exact slicePart_int h
theorem gL {sl:Addr}{vl vu:Value}{lo hi:Option Int}{n:Nat}{Q:Int×Int×Nat->Shared->Prop}(hs:s.heap.IsSliceOf sl vl vu .none)(pl:IsPart vl lo)(pu:IsPart vu hi)
   (h:Q (((bF n 0 lo:Nat):Int),1,bF n n hi - bF n 0 lo) s):wpAny (model prog w) A (ES (.ref sl) (pure (n:Int))) Q E s:=by
 obtain ⟨os,hos,hcs,hds⟩:=id hs
 unfold ES F0
 refine wpAny_bind (wpAny_bind (wpAny_field hos hds (x:=vl) rfl (wpAny_bind (wpAny_field hos hds (x:=vu) rfl (wpAny_bind (wpAny_field hos hds (x:=.none) rfl (wpAny_pure ?_)))))))
 refine wpAny_bind (slicePart_none ?_)
 show wpAny _ _ (if ((1:Int) == 0)=true then _ else _) _ _ s
 rw [if_neg (by decide)]
 refine wpAny_bind (jo pl (wpAny_bind (jo pu (wpAny_bind (wpAny_pure ?_)))))
 show wpAny _ _ (match Ew lo hi 1 (n:Int) with | (lo,hi)=>pure (lo,(1:Int),Eg lo hi 1)) _ _ s
 rw [mL lo hi n]
 show wpAny _ _ (pure (((bF n 0 lo:Nat):Int),(1:Int),Eg ((bF n 0 lo:Nat):Int) ((bF n n hi:Nat):Int) 1)) _ _ s
 rw [nS]
 exact wpAny_pure h
theorem uq (xs:Array Value)(i k:Nat):((D5 k).filterMap fun (m:Nat)=>xs[((i:Int) + (m:Int) * 1).toNat]?).toArray=((xs.toList.drop i).take k).toArray:=by
 have e:(fun (m:Nat)=>xs[((i:Int) + (m:Int) * 1).toNat]?)=fun m=>xs[i + m]?:=by
   funext m
   have:((i:Int) + (m:Int) * 1).toNat=i + m:=by omega
   rw [this]
 rw [e]
 have:=pick_run xs i k
 rw [Fo] at this
 have e2:((fun x=>xs[x]?) ∘ fun x=>i + x)=fun m=>xs[i + m]?:=rfl
 rw [e2] at this
 rw [this]

theorem fH {t sl:Addr}{items:Array Value}{vl vu:Value}{lo hi:Option Int}{Q:Value->Shared->Prop}(ht:IsTup s.heap t items)(hs:s.heap.IsSliceOf sl vl vu .none)(pl:IsPart vl lo)(pu:IsPart vu hi)
   (hw:¬ (bF items.size 0 lo=0/\bF items.size items.size hi=items.size))
   (h:Q (.ref s.heap.objs.size) { s with heap:=s.heap.push { cls:=.type "tuple",data:=.seq ((items.toList.drop (bF items.size 0 lo)).take (bF items.size items.size hi - bF items.size 0 lo)).toArray } })
   (hsz:items.size<=sizeLine):wpAny (model prog w) A (getItem (.ref t) (.ref sl)) Q E s:=by
 have htake:sizeOk (.seq ((items.toList.drop (bF items.size 0 lo)).take (bF items.size items.size hi - bF items.size 0 lo)).toArray):=by
   show ((items.toList.drop (bF items.size 0 lo)).take (bF items.size items.size hi - bF items.size 0 lo)).toArray.size<=sizeLine
   rw [DO,DM,Ex,EO]
   omega
 have hj:bF items.size items.size hi<=items.size:=zC _ _ (DJ _) hi
 obtain ⟨os,hos,hcs,hds⟩:=id hs
 have hTs:s.TypeIs (.ref sl) "slice":=⟨os,hos,hcs⟩
 unfold getItem
 try with_reducible refine wpAny_holding ?_
 first | refine wpAny_bind (wpAny_pure ?_) | skip
 refine wpAny_bind (wpAny_sequenceKey ht.typeIs (by decide) ?_)
 refine wpAny_bind (Ej (name:=DD "__getitem__") ht.typeIs EH
   (wpAny_call_entry EH ht.typeIs entry_tuple_getitem ?_ (args_tuple_getitem _ _)))
 show wpAny _ _ (Fb (.ref t) >>= _) _ _ s
 refine wpAny_bind (tupleItemsOf_ ht ?_)
 refine wpAny_bind (wpAny_typeOf hTs ?_)
 rw [if_pos (by decide)]
 refine wpAny_bind (gL hs pl pu ?_)
 have hno:¬ ((((bF items.size 0 lo:Nat):Int) == 0 && (1:Int) == 1 && (bF items.size items.size hi - bF items.size 0 lo) == items.size)=true):=by
   intro q
   rw [EJ,EJ] at q
   have q1:((bF items.size 0 lo:Nat):Int)=0:=eq_of_beq q.1.1
   have q2:bF items.size items.size hi - bF items.size 0 lo=items.size:=eq_of_beq q.2
   exact hw ⟨by omega,by omega⟩
 show wpAny _ _ (if (((bF items.size 0 lo:Nat):Int) == 0 && (1:Int) == 1 && (bF items.size items.size hi - bF items.size 0 lo) == items.size)=true then _ else _) _ _ s
 rw [if_neg hno,uq]
 first
   | exact wpAny_bind (m:=Ei _) (wpAny_newObj_type (wpAny_pure ⟨_,rfl,wpAny_pure h⟩) htake)
   | exact wpAny_bind (m:=Ei _) (wpAny_newObj_type (wpAny_bind (wpAny_pure (wpAny_pure ⟨_,rfl,wpAny_pure h⟩))) htake)
   | exact wpAny_bind (wpAny_bind (m:=Ei _) (wpAny_newObj_type (wpAny_pure (wpAny_pure ⟨_,rfl,wpAny_pure h⟩)) htake))
   | exact wpAny_bind (wpAny_bind (m:=Ei _) (wpAny_newObj_type (wpAny_pure ⟨_,rfl,wpAny_pure h⟩) htake))
end
end HT

namespace L2
open PySem PySem.Spec PyProof.Rows

/-! ### the parts of a slice -/
abbrev TO:=St->Hp->(Option Int->Hp->Prop)->Prop
/-- a w4 part (left out,or an int) -/
def PO (X:Cx)(e:Option Expr)(t:TO):Prop:=
 ∀(pins:List (Addr×Obj)) (s:Shared) (σ:St) (H:Hp) (Q:Option Int->Hp->Prop),Inv X pins σ H s->t σ H Q ->
   wpAny (model X.prog X.w) X.A (evalPart e X.env) (fun u s'=>∃o H',Inv X pins σ H' s'/\IsPart u o/\Q o H') X.xe s
def f9:TO:=fun _ H Q=>Q none H
def jz (t:TE):TO:=fun σ H Q=>t σ H fun x H1=>∃i,x=.int i/\Q (some i) H1

section
variable {X:Cx}{e:Expr}{te:TE}{lo hi:Option Expr}{tl th:TO}{pos p2:Pos}

theorem iE:PO X none f9:=by
 intro pins s σ H Q I h
 rw [evalPart_none]
 exact wpAny_pure ⟨none,H,I,.none,h⟩
theorem ei (h:PE X e te):PO X (some e) (jz te):=by
 intro pins s σ H Q I hw
 rw [evalPart_some]
 refine aX (h pins s σ H _ I hw) fun u s1 ⟨x,H1,I1,r1,q1⟩=>?_
 obtain ⟨i,rfl,q⟩:=q1
 obtain ⟨t,rfl⟩:=r1
 exact ⟨some i,H1,I1,.int i t,q⟩

/-- what a slice of a value is,by values: the slice object stands at sl -/
def BP (X:Cx)(r:V->Option Int->Option Int->Hp->VK->Prop):Prop:=
 ∀(pins:List (Addr×Obj)) (s:Shared) (σ:St) (H:Hp) (x:V) (v vl vu:Value) (lo hi:Option Int) (sl:Addr) (Q:VK),Inv X pins σ H s->RelV x v->s.heap.IsSliceOf sl vl vu .none->IsPart vl lo->IsPart vu hi->r x lo hi H Q ->
   ∃T id,typeLookup (.type T) "__getitem__"=pure (some (.builtin id))/\s.TypeIs v T/\wpAny (model X.prog X.w) X.A (getItem v (.ref sl)) (EP X pins σ Q) X.xe s
def Af (r:V->Option Int->Option Int->Hp->VK->Prop)(te:TE)(tl th:TO):TE:=fun σ H Q=>te σ H fun x H1=>tl σ H1 fun l H2=>th σ H2 fun u H3=>r x l u H3 Q
/-- a[lo:hi],any a -/
theorem dX {r:V->Option Int->Option Int->Hp->VK->Prop}(hr:BP X r)(he:PE X e te)(hl:PO X lo tl)(hu:PO X hi th):PE X (.Subscript e (.Slice lo hi none p2) pos) (Af r te tl th):=by
 intro pins s σ H Q I h
 refine Subscript_ (aX (he pins s σ H _ I h) fun v s1 ⟨x,H1,I1,r1,q1⟩=>?_)
 refine wpAny_Slice (aX (hl pins s1 σ H1 _ I1 q1) fun vl s2 ⟨l,H2,I2,pl,q2⟩=>aX (hu pins s2 σ H2 _ I2 q2) fun vu s3 ⟨u,H3,I3,pu,q3⟩=>?_)
 rw [evalPart_none]
 refine wpAny_pure ?_
 have I4:Inv X pins σ H3 { s3 with heap:=s3.heap.push { cls:=.type "slice",data:=.fields #[vl,vu,.none] } }:=I3.kept (t':=s3.toks) fun b ob q=>DK _ q
 obtain ⟨T,id,hT,ht,hg⟩:=hr pins { s3 with heap:=s3.heap.push { cls:=.type "slice",data:=.fields #[vl,vu,.none] } } σ H3 x v vl vu l u s3.heap.objs.size Q I4 r1 (FA ..) pl pu q3
 show wpAny (model X.prog X.w) X.A (subscriptTail e (.Slice lo hi none p2) v (.ref s3.heap.objs.size)) (EP X pins σ Q) X.xe { s3 with heap:=s3.heap.push { cls:=.type "slice",data:=.fields #[vl,vu,.none] } }
 exact tail_any (ops:=[.ref s3.heap.objs.size,v]) ht hT hg (by with_unfolding_all rfl)

/-- the items of xs[lo:hi] -/
def c7 (xs:List V)(lo hi:Option Int):List V:=(xs.drop (HT.bF xs.length 0 lo)).take (HT.bF xs.length xs.length hi - HT.bF xs.length 0 lo)
theorem gQ (xs:List V)(lo hi:Option Int):(c7 xs lo hi).length<=xs.length:=by
 unfold c7
 rw [DM,Ex]
 omega
/-- t[lo:hi],not the whole of it (the whole C5 be t itself) -/
def zA (K:DA):V->Option Int->Option Int->Hp->VK->Prop:=fun x lo hi H Q=>∃a xs,x=.ref a/\aq K H a xs /\
 ¬ (HT.bF xs.length 0 lo=0/\HT.bF xs.length xs.length hi=xs.length)/\∀p,H p=none->Q (.ref p) (upd H p (.tup (c7 xs lo hi)))
theorem uK:BP X (zA X.K):=by
 intro pins s σ H x v vl vu lo hi sl Q I rx hs pl pu h
 obtain ⟨a,xs,rfl,hx,hw,q⟩:=h
 cases rx
 obtain ⟨its,r,ht,hz⟩:=I.tuple hx
 have hlen:its.toArray.size=xs.length:=by rw [DO]; exact r.length.symm
 refine ⟨"tuple",_,PyProof.Rows.slot_tuple_getitem.lookup,ht.typeIs,?_⟩
 refine HT.fH ht hs pl pu (by rw [hlen]; exact hw) ?_ (by rw [hlen]; exact hz)
 rw [hlen]
 refine ⟨.ref s.heap.objs.size,_,I.laid (t':=s.toks) (o:=.tup (c7 xs lo hi)) (fun b ob q=>DK _ q) (DJ _) ?_,rfl,q _ (I.hok.fresh (DJ _))⟩
 exact ⟨Eb (gQ xs lo hi) hz,_,(r.drop (HT.bF xs.length 0 lo)).take (HT.bF xs.length xs.length hi - HT.bF xs.length 0 lo),Gj _ _⟩

/-! ### t < u,t + u -/
/-- t + u,t not empty: u empty gives t itself -/
def uy (K:DA):R2:=fun x y H Q=>∃a b xs ys,x=.ref a/\y=.ref b/\aq K H a xs/\aq K H b ys/\xs≠[]/\xs.length + ys.length<=sizeLine /\
 (ys=[]->Q (.ref a) H)/\(ys≠[]->∀p,H p=none->Q (.ref p) (upd H p (.tup (xs++ys))))
theorem Vals.nil_iff {xs:List V}{us:List Value}(r:Vals xs us):us=[]↔xs=[]:=by
 cases r with
 | nil=>simp
 | cons _ _=>simp
theorem ph:gP X (binaryOp .Add) (uy X.K):=by
 intro pins s σ H x y v u Q I rx ry h
 obtain ⟨a,b,xs,ys,rfl,rfl,ha,hb,hx,hz,q1,q2⟩:=h
 cases rx
 cases ry
 obtain ⟨its,r1,p1,_⟩:=I.tuple ha
 obtain ⟨its2,r2,p2,_⟩:=I.tuple hb
 refine HT.vp p1 p2 (fun z=>hx (r1.nil_iff.mp z)) (fun z=>⟨.ref a,H,I,rfl,q1 (r2.nil_iff.mp z)⟩) (fun z=>?_) (by rw [← r1.length,← r2.length]; exact hz)
 refine ⟨.ref s.heap.objs.size,_,I.laid (t':=s.toks) (o:=.tup (xs++ys)) (fun b ob q=>DK _ q) (DJ _) ?_,rfl,q2 (fun w=>z (r2.nil_iff.mpr w)) _ (I.hok.fresh (DJ _))⟩
 exact ⟨by rw [DE]; exact hz,_,r1.append r2,Gj _ _⟩
end
end L2

namespace L2
open PySem PySem.Spec PyProof.Rows

/-! ### places -/
/-- the place that an index of any sign means -/
def tG (n:Nat)(i:Int):Option Nat:=if 0<=i then (if i < n then some i.toNat else none) else if -(n:Int)<=i then some (i + n).toNat else none
def eR {α:Type}(xs:List α)(i:Int):Option α:=(tG xs.length i).bind fun j=>xs[j]?
theorem oX {n:Nat}{i:Int}{j:Nat}(h:tG n i=some j):seqIndex? i n=some j/\j < n /\ -(n:Int)<=i/\i < n:=by
 unfold tG at h
 by_cases h0:0<=i
 · rw [if_pos h0] at h
   by_cases h1:i < n
   · rw [if_pos h1] at h
     have e:i.toNat=j:=D2 h
     exact ⟨by rw [seqIndex_of h0 h1,e],by omega,by omega,h1⟩
   · rw [if_neg h1] at h; cases h
 · rw [if_neg h0] at h
   by_cases h1 : -(n:Int)<=i
   · rw [if_pos h1] at h
     have e:(i + n).toNat=j:=D2 h
     exact ⟨by rw [seqIndex_neg (by omega) h1,e],by omega,h1,by omega⟩
   · rw [if_neg h1] at h; cases h
theorem bJ {α:Type}{xs:List α}{i:Int}{v:α}(h:eR xs i=some v):∃j,seqIndex? i xs.length=some j/\xs[j]? = some v/\j < xs.length /\ -(xs.length:Int)<=i/\i < xs.length:=by
 unfold eR at h
 cases e:tG xs.length i with
 | none=>rw [e] at h; cases h
 | some j=>
   rw [e] at h
   obtain ⟨h1,h2,h3,h4⟩:=oX e
   exact ⟨j,h1,h,h2,h3,h4⟩
theorem d9 {α:Type}{xs:List α}{j:Nat}{v:α}(h:xs[j]? = some v):eR xs (j:Int)=some v:=by
 have hj:j < xs.length:=(List.getElem?_eq_some_iff.mp h).1
 have e:tG xs.length (j:Int)=some j:=by
   unfold tG
   rw [if_pos (by omega),if_pos (by omega)]; simp
 unfold eR; rw [e]; exact h
/-! ### what may be subscripted -/
/-- what stands as an index of a plain subscript -/
def oD (b:Expr):Prop:=∀o i,subscripted b false o i=operate [o,i] (getItem o i)
/-- a subscript by values -/
def Bt (X:Cx)(r:R2):Prop:=
 ∀(value slice:Expr) (pins:List (Addr×Obj)) (s:Shared) (σ:St) (H:Hp) (x y:V) (v u:Value) (Q:VK),Inv X pins σ H s->RelV x v->RelV y u->r x y H Q ->
   subscripted slice false v u=operate [v,u] (getItem v u)->wpAny (model X.prog X.w) X.A (subscriptTail value slice v u) (EP X pins σ Q) X.xe s
/-- a call of a builtin's method by values: the receiver,the arguments -/
def Ah (X:Cx)(id:String)(r:V->List V->Hp->VK->Prop):Prop:=
 ∀(pins:List (Addr×Obj)) (s:Shared) (σ:St) (H:Hp) (x:V) (xs:List V) (v:Value) (us:List Value) (Q:VK),Inv X pins σ H s->RelV x v->Vals xs us->r x xs H Q ->
   wpAny (model X.prog X.w) X.A (call (.builtin id) (v :: us)) (EP X pins σ Q) X.xe s
section
variable {X:Cx}{a b:Expr}{ta tb:TE}{pos:Pos}
/-- a[b] -/
theorem AZ {r:R2}(hr:Bt X r)(ha:PE X a ta)(hb:PE X b tb)(hs:oD b):PE X (.Subscript a b pos) (xP r ta tb):=by
 intro pins s σ H Q I h
 exact Subscript_ (yg ha hb I h fun v u s2 x y H2 I2 rx ry q=>hr a b pins s2 σ H2 x y v u Q I2 rx ry q (hs _ _))

def A9 (K:DA):R2:=fun x y H Q=>∃p xs i v,x=.ref p/\y=.int i/\ao K H p xs/\eR xs i=some v/\Q v H
def Ba (K:DA):R2:=fun x y H Q=>∃p xs i v,x=.ref p/\y=.int i/\aq K H p xs/\eR xs i=some v/\Q v H
theorem vQ:Bt X (A9 X.K):=by
 intro value slice pins s σ H x y v u Q I rx ry h hs
 obtain ⟨p,xs,i,z,rfl,rfl,hq,he,q⟩:=h
 cases rx
 obtain ⟨t,rfl⟩:=ry
 obtain ⟨its,r,pl,hz⟩:=I.list hq
 obtain ⟨j,h1,h2,h3,h4,h5⟩:=bJ he
 obtain ⟨w,ew,rw'⟩:=r.get h2
 have hl:=r.length
 have hn:=je
 have fin:EP X pins σ Q w s:=⟨z,H,I,rw',q⟩
 by_cases h0:0<=i
 · have hj:i.toNat=j:=by
     rw [seqIndex_of h0 h5] at h1
     exact D2 h1
   exact item_listR pl.isList h0 (by omega) (by rw [hj]; simpa using ew) fin hs
 · have hj:(i + (its.toArray.size:Int)).toNat=j:=by
     rw [seqIndex_neg (by omega) h4] at h1
     rw [DO,← hl]
     exact D2 h1
   exact subscriptTail_builtinR (x:=w) pl.isList.typeIs slot_list_getitem.lookup
     (wpAny_getItem_list_neg (Q:=fun r s'=>r=w/\EP X pins σ Q r s') pl.isList (by omega) (by rw [DO] <;> omega) (by omega) (by rw [hj]; simpa using ew) ⟨rfl,fin⟩) hs
theorem yB:Bt X (Ba X.K):=by
 intro value slice pins s σ H x y v u Q I rx ry h hs
 obtain ⟨p,xs,i,z,rfl,rfl,hq,he,q⟩:=h
 cases rx
 obtain ⟨t,rfl⟩:=ry
 obtain ⟨its,r,pl,hz⟩:=I.tuple hq
 obtain ⟨j,h1,h2,h3,h4,h5⟩:=bJ he
 obtain ⟨w,ew,rw'⟩:=r.get h2
 have hl:=r.length
 have hn:=je
 have fin:EP X pins σ Q w s:=⟨z,H,I,rw',q⟩
 exact subscriptTail_builtinR (x:=w) pl.typeIs slot_tuple_getitem.lookup
   (getItem_tuple (j:=j) (Q:=fun r s'=>r=w/\EP X pins σ Q r s') pl (by omega) (by omega) (by rw [DO,← hl]; exact h1) (by simpa using ew) ⟨rfl,fin⟩) hs
/-! ### xs[i]=v,any sign -/
/-- the yH object behind a store -/
theorem nM (its:List Value)(n j:Nat)(u:Value):Gd (·.setIfInBounds j u) { cls:=.type "list",data:=.seq its.toArray n }={ cls:=.type "list",data:=.seq (its.set j u).toArray n }:=by
 simp [Gd]
theorem Inv.lst {pins:List (Addr×Obj)}{σ:St}{H:Hp}{s:Shared}{p:Addr}{xs:List V}(I:Inv X pins σ H s)(h:H p=some (.lst xs)) :
   ∃(its:List Value) (n:Nat),Vals xs its/\s.heap.get? p=some { cls:=.type "list",data:=.seq its.toArray n }/\xs.length<=sizeLine:=by
 obtain ⟨z,its,n,r,e⟩:=I.hok p _ h
 exact ⟨its,n,r,e,z⟩
/-- the list at p is written by an update of its object -/
theorem Inv.yI {pins:List (Addr×Obj)}{σ:St}{H:Hp}{s:Shared}{p:Addr}{xs ys:List V}{its its':List Value}{n n':Nat}{f:Obj->Obj}(I:Inv X pins σ H s)(h:H p=some (.lst xs))
   (ho:s.heap.get? p=some { cls:=.type "list",data:=.seq its.toArray n }) (hf:f { cls:=.type "list",data:=.seq its.toArray n }={ cls:=.type "list",data:=.seq its'.toArray n' }) (r:Vals ys its') (hz:ys.length<=sizeLine) (t:Nat) :
   Inv X pins σ (upd H p (.lst ys)) { s with heap:=s.heap.update p f,toks:=t }:=by
 have e:(s.heap.update p f).get? p=some { cls:=.type "list",data:=.seq its'.toArray n' }:=by
   rw [Heap.get?_update_self f ho (by rw [hf] <;> rfl),hf]
 refine I.write (x:=p) (e:=p) (by rw [h]; trivial) (.inl rfl) (fun b u hb q=>(GJ _ _ (Ne.symm hb)).trans q) ⟨_,e⟩ ?_
 exact ⟨hz,its',n',r,e⟩
def uC:V->V->V->Hp->(Hp->Prop)->Prop:=fun o i v H Q=>∃p xs k j,o=.ref p/\i=.int k/\H p=some (.lst xs)/\tG xs.length k=some j/\Q (upd H p (.lst (xs.set j v)))
theorem set_list:Ak X uC:=by
 intro pins s σ H o i v ov iv u Q I ro ri rv h
 obtain ⟨p,xs,k,j,rfl,rfl,hp,hj,q⟩:=h
 cases ro
 obtain ⟨t,rfl⟩:=ri
 obtain ⟨its,n,r,ho,hz⟩:=I.lst hp
 obtain ⟨h1,h2,h3,h4⟩:=oX hj
 have hl:=r.length
 have hn:=je
 have I':Inv X pins σ (upd H p (.lst (xs.set j v))) { s with heap:=s.heap.update p (Gd (·.setIfInBounds j u)) }:=
   I.yI hp ho (nM its n j u) (r.set rv j) (by rw [List.length_set]; exact hz) s.toks
 by_cases h0:0<=k
 · have hk:k.toNat=j:=by
     rw [seqIndex_of h0 h4] at h1
     exact D2 h1
   exact PySem.W.ki_setAt ho h0 (by omega) (by rw [DO,← hl]; exact h4) (by rw [hk]; exact ⟨_,I',q⟩)
 · have hk:(k + (its.toArray.size:Int)).toNat=j:=by
     rw [seqIndex_neg (by omega) h3] at h1
     rw [DO,← hl]
     exact D2 h1
   exact PySem.W.ki_setBack ho (by omega) (by rw [DO,← hl]; exact h3) (by omega) (by rw [hk]; exact ⟨_,I',q⟩)

/-! ### slices -/
theorem kP (lo hi:Option Int)(n:Nat):(sliceBounds lo hi none n).1=((HT.bF n 0 lo:Nat):Int)/\(sliceBounds lo hi none n).2.1=((HT.bF n n hi:Nat):Int)/\(sliceBounds lo hi none n).2.2=1:=by
 refine ⟨?_,?_,rfl⟩
 · cases lo with
   | none=>simp [sliceBounds,HT.bF]
   | some i=>
     simp only [sliceBounds,HT.bF,Option.getD_none,show (1:Int) > 0 by decide,if_true]
     by_cases h:i < 0
     · simp only [h,if_true] <;> omega
     · simp only [h,if_false] <;> omega
 · cases hi with
   | none=>simp [sliceBounds,HT.bF]
   | some i=>
     simp only [sliceBounds,HT.bF,Option.getD_none,show (1:Int) > 0 by decide,if_true]
     by_cases h:i < 0
     · simp only [h,if_true] <;> omega
     · simp only [h,if_false] <;> omega
theorem jO (its:List Value)(lo hi:Option Int):slicePick its.toArray lo hi none=((its.drop (HT.bF its.length 0 lo)).take (HT.bF its.length its.length hi - HT.bF its.length 0 lo)).toArray:=by
 obtain ⟨h1,h2,h3⟩:=kP lo hi its.toArray.size
 unfold slicePick
 rw [h1,h2,h3]
 simp only [sliceRange_one,pick_run,DO] <;> rfl
/-- xs[lo:hi] of a list: a new list -/
def wY (K:DA):V->Option Int->Option Int->Hp->VK->Prop:=fun x lo hi H Q=>∃a xs,x=.ref a/\ao K H a xs/\∀p,H p=none->Q (.ref p) (upd H p (.lst (c7 xs lo hi)))
theorem kO:BP X (wY X.K):=by
 intro pins s σ H x v vl vu lo hi sl Q I rx hs pl pu h
 obtain ⟨a,xs,rfl,hx,q⟩:=h
 cases rx
 obtain ⟨its,r,ht,hz⟩:=I.list hx
 have hlen:=r.length
 refine ⟨"list",_,slot_list_getitem.lookup,ht.isList.typeIs,?_⟩
 refine wpAny_getItem_list_slice ht.isList hs pl pu .none (by simp) ?_ (by rw [DO] <;> omega)
 rw [jO,← hlen]
 refine ⟨.ref s.heap.objs.size,_,I.laid (t':=s.toks) (o:=.lst (c7 xs lo hi)) (fun b ob q=>DK _ q) (DJ _) ?_,rfl,q _ (I.hok.fresh (DJ _))⟩
 exact ⟨Eb (gQ xs lo hi) hz,_,0,(r.drop (HT.bF xs.length 0 lo)).take (HT.bF xs.length xs.length hi - HT.bF xs.length 0 lo),DY _ rfl⟩

/-! ### in,not in: flat items -/
def bw:V->Bool
 | .aU=>true
 | .bl _=>true
 | .int _=>true
 | .str _=>true
 | _=>false
/-- == of flat values -/
def mX:V->V->Bool
 | .aU,.aU=>true
 | .bl a,.bl b=>a == b
 | .bl a,.int b=>(if a then 1 else 0) == b
 | .int a,.bl b=>a == (if b then 1 else 0)
 | .int a,.int b=>a == b
 | .str a,.str b=>a == b
 | _,_=>false
theorem mV {A:Around}{s:Shared}{y x:V}{u v:Value}(ry:RelV y u)(rx:RelV x v)(fy:bw y=true)(fx:bw x=true):SeqAt.EqAt A s u v (mX y x):=by
 cases y with
 | aU=>
   cases ry
   cases x with
   | aU=>cases rx; exact SeqAt.EqAt.same _
   | bl b=>cases rx; exact SeqAt.EqAt.none_bool b
   | int b=>obtain ⟨t,rfl⟩:=rx; exact SeqAt.EqAt.none_int b t
   | str b=>obtain ⟨t,rfl⟩:=rx; exact SeqAt.EqAt.none_str b t
   | _=>exact absurd (show false=true from fx) DU
 | bl a=>
   cases ry
   cases x with
   | aU=>cases rx; exact SeqAt.EqAt.bool_none a
   | bl b=>cases rx; exact SeqAt.EqAt.bool_bool a b
   | int b=>obtain ⟨t,rfl⟩:=rx; exact SeqAt.EqAt.bool_int a b t
   | str b=>obtain ⟨t,rfl⟩:=rx; exact SeqAt.EqAt.bool_str a b t
   | _=>exact absurd (show false=true from fx) DU
 | int a=>
   obtain ⟨t',rfl⟩:=ry
   cases x with
   | aU=>cases rx; exact SeqAt.EqAt.int_none a t'
   | bl b=>cases rx; exact SeqAt.EqAt.int_bool a t' b
   | int b=>obtain ⟨t,rfl⟩:=rx; exact SeqAt.EqAt.int_int a t' b t
   | str b=>obtain ⟨t,rfl⟩:=rx; exact GB a t' b t
   | _=>exact absurd (show false=true from fx) DU
 | str a=>
   obtain ⟨t',rfl⟩:=ry
   cases x with
   | aU=>cases rx; exact SeqAt.EqAt.str_none a t'
   | bl b=>cases rx; exact SeqAt.EqAt.str_bool a t' b
   | int b=>obtain ⟨t,rfl⟩:=rx; exact GA a t' b t
   | str b=>obtain ⟨t,rfl⟩:=rx; exact SeqAt.EqAt.str_str a t' b t
   | _=>exact absurd (show false=true from fx) DU
 | _=>exact absurd (show false=true from fy) DU
/-- the B8 answers,read off the values (a kZ own answer does not lean on its token) -/
def mW (x:V)(u:Value):Bool:=match u with
 | .none=>mX .aU x
 | .bool b=>mX (.bl b) x
 | .int i _=>mX (.int i) x
 | .str z _=>mX (.str z) x
 | _=>false
theorem r6 {x y:V}{u:Value}(r:RelV y u)(f:bw y=true):mW x u=mX y x:=by
 cases y with
 | aU=>cases r; rfl
 | bl b=>cases r; rfl
 | int i=>obtain ⟨t,rfl⟩:=r; rfl
 | str z=>obtain ⟨t,rfl⟩:=r; rfl
 | _=>exact absurd (show false=true from f) DU
theorem fu {x:V}:∀{xs:List V} {us:List Value},Vals xs us->xs.all bw=true->us.any (mW x)=xs.any fun y=>mX y x
 | _,_,.nil,_=>rfl
 | y :: xs,u :: us,.cons r t,f=>by
   rw [List.all_cons,EJ] at f
   rw [Fz,Fz,r6 r f.1,fu t f.2]
theorem dS {A:Around}{s:Shared}{x:V}{v:Value}(rx:RelV x v)(fx:bw x=true):∀{xs:List V} {us:List Value},Vals xs us->xs.all bw=true->∀u∈us,SeqAt.EqAt A s u v (mW x u)
 | _,_,.nil,_=>fun u hu=>by cases hu
 | y :: xs,u :: us,.cons r t,f=>fun u' hu=>by
   rw [List.all_cons,EJ] at f
   rcases List.mem_cons.mp hu with rfl | hu
   · rw [r6 r f.1]; exact mV r rx f.1 fx
   · exact dS rx fx t f.2 u' hu
def jE (x:V)(xs:List V):Bool:=xs.any fun y=>mX y x
/-- x in a list or tuple of flat items -/
def BC (K:DA)(neg:Bool):R2:=fun x y H Q=>∃p xs,y=.ref p/\(ao K H p xs\/aq K H p xs)/\bw x=true/\xs.all bw=true/\Q (.bl (if neg then !jE x xs else jE x xs)) H
theorem qY:gP X (compareOp .In) (BC X.K false):=by
 intro pins s σ H x y v u Q I rx ry h
 obtain ⟨p,xs,rfl,hq,fx,fs,q⟩:=h
 cases ry
 rcases hq with hq | hq
 · obtain ⟨its,r,pl,hz⟩:=I.list hq
   refine SeqAt.in_listAt (mW x) pl.isList (fun w hw=>dS rx fx r fs w (by simpa using hw)) ⟨.bl _,H,I,rfl,?_⟩
   rw [show its.toArray.any (mW x)=its.any (mW x) by simp,fu r fs]
   exact q
 · obtain ⟨its,r,pl,hz⟩:=I.tuple hq
   refine SeqAt.in_tupleAt (mW x) pl (fun w hw=>dS rx fx r fs w (by simpa using hw)) ⟨.bl _,H,I,rfl,?_⟩
   rw [show its.toArray.any (mW x)=its.any (mW x) by simp,fu r fs]
   exact q
theorem kJ:gP X (compareOp .NotIn) (BC X.K true):=by
 intro pins s σ H x y v u Q I rx ry h
 obtain ⟨p,xs,rfl,hq,fx,fs,q⟩:=h
 cases ry
 rcases hq with hq | hq
 · obtain ⟨its,r,pl,hz⟩:=I.list hq
   refine SeqAt.notIn_listAt (mW x) pl.isList (fun w hw=>dS rx fx r fs w (by simpa using hw)) ⟨.bl _,H,I,rfl,?_⟩
   rw [show its.toArray.any (mW x)=its.any (mW x) by simp,fu r fs]
   exact q
 · obtain ⟨its,r,pl,hz⟩:=I.tuple hq
   refine SeqAt.notIn_tupleAt (mW x) pl (fun w hw=>dS rx fx r fs w (by simpa using hw)) ⟨.bl _,H,I,rfl,?_⟩
   rw [show its.toArray.any (mW x)=its.any (mW x) by simp,fu r fs]
   exact q
/-! ### len,list(x),tuple(x) of any list or tuple that is read -/
theorem ko:cg X (.builtin "len") (fun xs H Q=>∃p ys,xs=[.ref p]/\(ao X.K H p ys\/aq X.K H p ys)/\Q (.int ys.length) H):=by
 intro pins s σ H xs us Q I r h
 obtain ⟨p,ys,rfl,hq,q⟩:=h
 obtain ⟨u,rfl,rx⟩:=vals1 r
 cases rx
 have hn:=je
 rcases hq with hq | hq
 · obtain ⟨its,r',pl,hz⟩:=I.list hq
   have hlen:=r'.length
   exact Calls.call_len_list pl.isList (by simp only [DO] <;> omega) ⟨.int ys.length,H,I.tok _,⟨s.toks + 1,by rw [DO,hlen]⟩,q⟩
 · obtain ⟨its,r',pl,hz⟩:=I.tuple hq
   have hlen:=r'.length
   exact len_tuple pl (by simp only [DO] <;> omega) ⟨.int ys.length,H,I.tok _,⟨s.toks + 1,by rw [DO,hlen]⟩,q⟩
theorem kq:cg X (.type "list") (fun xs H Q=>∃p ys,xs=[.ref p]/\(ao X.K H p ys\/aq X.K H p ys)/\∀l,H l=none->Q (.ref l) (upd H l (.lst ys))):=by
 intro pins s σ H xs us Q I r h
 obtain ⟨p,ys,rfl,hq,q⟩:=h
 obtain ⟨u,rfl,rx⟩:=vals1 r
 cases rx
 have fin:∀(its:List Value),Vals ys its->ys.length<=sizeLine->∀(h':Heap) (c':Nat),(∀b o',s.heap.get? b=some o'->h'.get? b=some o') ->
     h'.get? s.heap.objs.size=some { cls:=.type "list",dict:=none,data:=.seq its.toArray c',slots:=#[] }->EP X pins σ Q (.ref s.heap.objs.size) { s with heap:=h' }:=fun its r' hz h' c' kp e=>
   ⟨.ref s.heap.objs.size,_,I.laid (t':=s.toks) kp (DJ _) (show aP X.prog X.w _ h' _ (.lst ys) from ⟨hz,its,c',r',e⟩),rfl,q _ (I.hok.fresh (DJ _))⟩
 rcases hq with hq | hq
 · obtain ⟨its,r',pl,hz⟩:=I.list hq
   have hlen:=r'.length
   obtain ⟨o,ho,hc,n,hd⟩:=pl.isList
   exact call_list_seq p (.inl rfl) ho hc hd (fun h' c' kp e=>fin its r' hz h' c' kp e) (by simp only [DO] <;> omega)
 · obtain ⟨its,r',pl,hz⟩:=I.tuple hq
   have hlen:=r'.length
   obtain ⟨o,ho,hc,n,hd⟩:=pl
   exact call_list_seq p (.inr rfl) ho hc hd (fun h' c' kp e=>fin its r' hz h' c' kp e) (by simp only [DO] <;> omega)
theorem jH:cg X (.type "tuple") (fun xs H Q=>∃p ys,xs=[.ref p]/\((ao X.K H p ys/\∀l,H l=none->Q (.ref l) (upd H l (.tup ys)))\/(aq X.K H p ys/\Q (.ref p) H))):=by
 intro pins s σ H xs us Q I r h
 obtain ⟨p,ys,rfl,h⟩:=h
 obtain ⟨u,rfl,rx⟩:=vals1 r
 cases rx
 rcases h with ⟨hq,q⟩ | ⟨hq,q⟩
 · obtain ⟨its,r',pl,hz⟩:=I.list hq
   have hlen:=r'.length
   refine call_tuple_list pl.isList (fun h' kp=>?_) (by simp only [DO] <;> omega)
   have I1:Inv X pins σ H { s with heap:=h' }:=I.kept (t':=s.toks) kp
   have I2:Inv X pins σ (upd H h'.objs.size (.tup ys)) { s with heap:=h'.push { cls:=.type "tuple",data:=.seq its.toArray } }:=
     I1.laid (t':=s.toks) (fun b o e=>DK _ e) (DJ _) (show aP X.prog X.w _ _ _ (.tup ys) from ⟨hz,its,r',Gj _ _⟩)
   exact ⟨.ref h'.objs.size,_,I2,rfl,q _ (I1.hok.fresh (DJ _))⟩
 · obtain ⟨its,r',pl,hz⟩:=I.tuple hq
   exact call_tuple_same pl ⟨.ref p,H,I,rfl,q⟩

/-! ### the call of a builtin's method: o.m(..) -/
/-- the value is of that builtin type -/
def C3 (K:DA)(T:String)(x:V)(H:Hp):Prop:=match x with
 | .str _=>T="str"
 | .int _=>T="int"
 | .ref p=>(T="list"/\∃xs,ao K H p xs)\/(T="tuple"/\∃o,K.lookup p=some o/\o.cls=.type "tuple"/\o.dict=none) \/
     (T="dict"/\((∃kvs,H p=some (.dK kvs))\/∃kvs,H p=some (.dT kvs)))\/(T="set"/\∃S n,H p=some (.set S n))
 | _=>False
theorem zQ {pins:List (Addr×Obj)}{σ:St}{H:Hp}{s:Shared}{T:String}{x:V}{v:Value}(I:Inv X pins σ H s)(r:RelV x v)(ty:C3 X.K T x H) :
   s.TypeIs v T/\∀a,v=.ref a->∃ob,s.heap.get? a=some ob/\ob.dict=none:=by
 cases x with
 | str z=>
   obtain ⟨t,rfl⟩:=r
   cases (show T="str" from ty)
   exact ⟨typeIs_str s z t,fun _ e=>nomatch e⟩
 | int i=>
   obtain ⟨t,rfl⟩:=r
   cases (show T="int" from ty)
   exact ⟨typeIs_int s i t,fun _ e=>nomatch e⟩
 | ref p=>
   cases r
   rcases ty with ⟨rfl,xs,hq⟩ | ⟨rfl,o,hk,hc,hd⟩ | ⟨rfl,hk⟩ | ⟨rfl,S,n,hk⟩
   · obtain ⟨its,_,pl,_⟩:=I.list hq
     refine ⟨pl.isList.typeIs,fun a e=>?_⟩
     cases e
     obtain ⟨o,n,e,c,hd,_⟩:=pl
     exact ⟨o,e,hd⟩
   · refine ⟨⟨o,I.kIn p o hk,hc⟩,fun a e=>?_⟩
     cases e
     exact ⟨o,I.kIn _ o hk,hd⟩
   · have z:∃o,s.heap.get? p=some o/\o.ExactDict:=by
       rcases hk with ⟨kvs,hk⟩ | ⟨kvs,hk⟩
       · obtain ⟨_,_,_,_,o,_,_,e,ex,_⟩:=I.hok p _ hk
         exact ⟨o,e,ex⟩
       · obtain ⟨_,_,_,_,o,_,_,e,ex,_⟩:=I.hok p _ hk
         exact ⟨o,e,ex⟩
     obtain ⟨o,e,ex⟩:=z
     refine ⟨⟨o,e,ex.1⟩,fun a e2=>?_⟩
     cases e2
     exact ⟨o,e,ex.2.1⟩
   · obtain ⟨o,_,_,_,e,ex,_⟩:=I.hok p _ hk
     refine ⟨⟨o,e,ex.1⟩,fun a e2=>?_⟩
     cases e2
     exact ⟨o,e,ex.2.1⟩
 | _=>exact E2 ty
def Ad (K:DA)(T:String)(r:V->List V->Hp->VK->Prop)(to:TE)(t:TA):TE:=fun σ H Q=>to σ H fun x H1=>C3 K T x H1/\t σ H1 fun xs H2=>r x xs H2 Q
variable {o e:Expr}{es:List Expr}{to:TE}{t:TA}{name:Str}{apos cpos:Pos}{T id:String}{r:V->List V->Hp->VK->Prop}
theorem AY (pa:PlainAttrs T)(slot:Slot T name id)(hty:typeOf (.builtin id)=pure (.type "method_descriptor"))(hm:Ah X id r)(ho:PE X o to)(ha:PA X (e :: es) t)
   (hbase:attributeBase o name X.env (eval o X.env)=eval o X.env:=by rfl)
   (hfew:((backTo cpos (starEach (e :: es) X.env)).all (fun x=>!x.1) && (backToKw cpos (keywordEach [] X.env)).all (fun x=>x.1.isSome)
     && decide ((e :: es).length + ([]:List Keyword).length + (if ([]:List Keyword).isEmpty then 0 else 1) < 30))=true:=by rfl)
   (hline:(apos.endLine == cpos.line)=true:=by rfl) (hs:starEach (e :: es) X.env=(false,eval e X.env) :: starEach es X.env:=by rfl) (hplain:(backTo cpos (starEach es X.env)).any (·.1)=false:=by rfl) :
   PE X (.Call (.Attribute o name apos) (e :: es) [] cpos) (Ad X.K T r to t):=by
 intro pins s σ H Q I h
 refine wpAny_Call_method_late hbase hfew hline rfl (aX (ho pins s σ H _ I h) fun v s1 ⟨x,H1,I1,r1,ty,q1⟩=>?_)
 obtain ⟨h1,h2⟩:=zQ I1 r1 ty
 refine ⟨T,id,pa,slot,hty,h1,h2,?_⟩
 have hA:=ha cpos pins s1 σ H1 _ I1 q1
 rw [hs] at hA ⊢
 refine GG (by show (false || (backTo cpos (starEach es X.env)).any (·.1))=false; rw [hplain] <;> rfl) (GO ?_)
 exact aX hA fun us s2 ⟨vs,H2,I2,r2,q2⟩=>hm pins s2 σ H2 x vs v us Q I2 r1 r2 q2
/- xs.append(e),list.index on a me tuple .. are Ah facts of 06m -/
end
end L2

namespace L2
open PySem PySem.Spec PyProof.Rows

def CG (X:Cx)(id:String)(r:V->List V->Hp->VK->Prop):Prop:=
 ∀(pins:List (Addr×Obj)) (s:Shared) (σ:St) (H:Hp) (x:V) (xs:List V) (v:Value) (us:List Value) (Q:VK),Inv X pins σ H s->RelV x v->Vals xs us->r x xs H Q ->
   wpAny (model X.prog X.w) X.A (call (.builtin id) (v :: us)) (EP X pins σ Q) X.xe s

/-! ### lists of values -/
theorem Vals.one:∀{x:V} {us:List Value},Vals [x] us->∃u,us=[u]/\RelV x u
 | _,_,.cons r .nil=>⟨_,rfl,r⟩
theorem Vals.two:∀{x y:V} {us:List Value},Vals [x,y] us->∃u v,us=[u,v]/\RelV x u/\RelV y v
 | _,_,_,.cons r (.cons q .nil)=>⟨_,_,rfl,r,q⟩
theorem Vals.reverse {xs:List V}{us:List Value}(h:Vals xs us):Vals xs.reverse us.reverse:=by
 induction h with
 | nil=>exact .nil
 | cons r t ih=>rw [List.reverse_cons,List.reverse_cons]; exact Vals.append ih (.cons r .nil)
section
variable {X:Cx}{pins:List (Addr×Obj)}{σ:St}{H:Hp}{s:Shared}{l b:Addr}{xs ys zs:List V}

/-! ### the two steps: a tracked list is Ab,a new list is laid -/
theorem Inv.AD {its its':List Value}{n:Nat}{f:Array Value->Array Value}{t':Nat}(I:Inv X pins σ H s)(hH:H l=some (.lst xs))
   (e:s.heap.get? l=some { cls:=.type "list",data:=.seq its.toArray n }) (hf:f its.toArray=its'.toArray) (hv:Vals ys its') (hz:ys.length<=sizeLine) :
   Inv X pins σ (upd H l (.lst ys)) { s with heap:=s.heap.update l (Gd f),toks:=t' }:=by
 have q:=PySem.IsL.update e f
 rw [hf] at q
 refine I.write (x:=l) (e:=l) (by rw [hH]; exact trivial) (.inl rfl) (fun b' u hb hu=>(GJ s.heap (Gd f) (Ne.symm hb)).trans hu) ⟨_,q⟩ ?_
 exact ⟨hz,its',_,hv,q⟩
theorem Inv.Cc {its:List Value}{t':Nat}(I:Inv X pins σ H s)(hv:Vals ys its)(hz:ys.length<=sizeLine) :
   Inv X pins σ (upd H s.heap.objs.size (.lst ys)) { s with heap:=s.heap.push { cls:=.type "list",data:=.seq its.toArray },toks:=t' }:=
 I.laid (fun _ _ q=>DK _ q) (DJ _) ⟨hz,its,0,hv,DY _ rfl⟩
theorem Inv.fresh (I:Inv X pins σ H s):H s.heap.objs.size=none:=I.hok.fresh (DJ _)
theorem Inv.tJ (I:Inv X pins σ H s)(hH:H l=some (.lst xs)):xs.length<=sizeLine/\∃(its:List Value) (n:Nat),Vals xs its/\xs.length=its.length/\s.heap.get? l=some { cls:=.type "list",data:=.seq its.toArray n }:=by
 obtain ⟨z,its,n,r,e⟩:=I.hok l _ hH
 exact ⟨z,its,n,r,r.length,e⟩

theorem tN {n:Nat}(h:n<=sizeLine):Fe n=false:=by
 unfold Fe
 exact decide_eq_false (by omega)
end

section
variable {X:Cx}

/-! ### methods -/
def pD:V->List V->Hp->VK->Prop:=fun x vs H Q=>∃l xs y,x=.ref l/\vs=[y]/\H l=some (.lst xs)/\xs.length < sizeLine/\Q .aU (upd H l (.lst (xs++[y])))
theorem j7:CG X "list.append" pD:=by
 intro pins s σ H x vs v us Q I rx rv h
 obtain ⟨l,xs,y,rfl,rfl,hH,hz,q⟩:=h
 cases rx
 obtain ⟨u,rfl,ru⟩:=rv.one
 obtain ⟨z,its,n,r,hl,e⟩:=I.tJ hH
 refine call_meets F.slot_list_append ⟨_,e,rfl⟩ F.entry_list_append (F.args_list_append_2 _ _) (PySem.list_append l its.toArray n u (by rw [DO]; omega)) ⟨e,?_⟩
 refine ⟨.aU,_,I.AD (its':=its++[u]) hH e (by simp) (r.append (.cons ru .nil)) ?_,rfl,q⟩
 rw [DE,List.length_singleton]
 omega

def pF:V->List V->Hp->VK->Prop:=fun x vs H Q=>∃l b xs zs,x=.ref l/\vs=[.ref b]/\H l=some (.lst xs)/\H b=some (.lst zs)/\xs.length + zs.length<=sizeLine/\Q .aU (upd H l (.lst (xs++zs)))
theorem qL:CG X "list.extend" pF:=by
 intro pins s σ H x vs v us Q I rx rv h
 obtain ⟨l,b,xs,zs,rfl,rfl,hH,hB,hz,q⟩:=h
 cases rx
 obtain ⟨u,rfl,ru⟩:=rv.one
 cases ru
 obtain ⟨z,its,n,r,hl,e⟩:=I.tJ hH
 obtain ⟨z2,its2,n2,r2,hl2,e2⟩:=I.tJ hB
 have hsz:its.toArray.size + its2.toArray.size<=sizeLine:=by rw [DO,DO]; omega
 have Ay:¬ (!its.toArray.isEmpty && Fe (its.toArray.size + its2.toArray.size))=true:=by
   rw [tN hsz,Bool.and_false]
   exact DU
 refine call_meets F.slot_list_extend ⟨_,e,rfl⟩ F.entry_list_extend (F.args_list_extend_2 _ _)
   (AutoSeq1.list_extend_list_list_0 l its.toArray n b its2.toArray n2 Ay (by rw [DO]; omega) (by omega)) ⟨e,e2,?_⟩
 refine ⟨.aU,_,I.AD (its':=its++its2) hH e (by simp) (r.append r2) ?_,rfl,q⟩
 rw [DE]
 omega

/-! ### list + list,list += list,list * int -/
def A7:R2:=fun x y H Q=>∃l b xs zs,x=.ref l/\y=.ref b/\H l=some (.lst xs)/\H b=some (.lst zs)/\xs.length + zs.length<=sizeLine/\∀p,H p=none->Q (.ref p) (upd H p (.lst (xs++zs)))
theorem yS:gP X (binaryOp .Add) A7:=by
 intro pins s σ H x y v u Q I rx ry h
 obtain ⟨l,b,xs,zs,rfl,rfl,hH,hB,hz,q⟩:=h
 cases rx
 cases ry
 obtain ⟨z,its,n,r,hl,e⟩:=I.tJ hH
 obtain ⟨z2,its2,n2,r2,hl2,e2⟩:=I.tJ hB
 refine PySem.P.add_list e e2 ?_ (by rw [DO,DO]; omega)
 have ea:its.toArray++its2.toArray=(its++its2).toArray:=by simp
 rw [ea]
 exact ⟨.ref _,_,I.Cc (t':=s.toks) (r.append r2) (by rw [DE]; omega),rfl,q _ I.fresh⟩
/-! ### del xs[i] -/
end

/-! ### xs[a:b]=ys -/

end L2

namespace CA
open PySem PySem.W PySem.Calls PyProof.Rows

/-! ### the kN -/
theorem iq {P:Params}{h:Heap}:∀(ns:List Int) (vs:List Value),WellAll P h vs (ns.map WData.int)->IntsAre vs ns:=by
 intro ns
 induction ns with
 | nil=>
   intro vs w
   rw [List.map_nil] at w
   cases w
   exact .nil
 | cons n ns ih=>
   intro vs w
   rw [D7] at w
   cases w with
   | cons a b=>
     cases a
     exact .cons _ _ (ih _ b)

theorem rk {l:OpenLaw}{n:Nat}(hn:l.most=some n){P:Params}{h:Heap}{args:List WData}{vals:List Value}
   (hpre:l.row.toRowW.claim.pre args=true) (hwl:WellAll P h vals args) :
   ∃a vs ns,vals=[D8 a]/\args=[WData.list (ns.map WData.int)]/\h.get? a=some { cls:=.type "list",data:=.seq vs.toArray }/\IntsAre vs ns/\ns.length<=n:=by
 have hsh:WShape.hasAll [] args [.list .int]=true:=(pre_splitW hpre).1
 have hc:l.pre.holds [] { args:=args }=true:=(pre_splitW hpre).2
 obtain ⟨d,r,rfl,h1,h2⟩:=hasAllW_cons hsh
 obtain rfl:=hasAllW_nil h2
 obtain ⟨xs,rfl,h3⟩:=hasW_list h1
 obtain ⟨ns,rfl⟩:=items_int h3
 have hlen:ns.length<=n:=by
   unfold OpenLaw.pre at hc
   have h4:(WTm.not (.lt (.lit (.int (n:Int))) (.len (.arg 0)))).holds [] { args:=[.list (ns.map .int)] }=true:=by
     have h4:=(holds_andW hc).1
     rw [hn] at h4
     exact h4
   have h5:=condW_of h4 (w_not (w_lt w_lit (w_len_list (w_arg rfl))))
   rw [DC] at h5
   refine Nat.le_of_not_lt fun q=>?_
   have q':(n:Int) < ((ns.length:Nat):Int):=by omega
   first
     | (rw [decide_eq_true q'] at h5; exact absurd h5 (by decide))
     | (simp at h5; omega)
 cases hwl with
 | cons w1 w2=>
   cases w2
   cases w1 with
   | list ho B3=>exact ⟨_,_,ns,rfl,rfl,ho,iq ns _ B3,hlen⟩

theorem rb (l:OpenLaw)(args:List WData):l.row.toRowW.claim.post args (.bool true) args=true:=
 postW_of (r:=l.row.toRowW) (X:=(true == true))
   (show WShape.has [] (.bool true) .bool=true by first | rfl | decide | simp [WShape.has,WShape.arms,WShape.armsAll])
   (show (WTm.eq .res (.lit (.bool true))).value [] { args:=args,res:=some (.bool true),after:=args }=some (.bool (true == true)) from w_eq_bool (w_res rfl) w_lit) rfl

/-! ### the yf: vM last BB (the goal 'hc' behind k_head) from a wpAny of the law's body -/
/-- the same from a codeAny of the C8 (for a layer whose function zY CY of calls) -/
theorem lB {l:OpenLaw}{n:Nat}{q:Program}{loose:List Str}{XP:(Str->Option Value)->Heap->Prop}{YP:World->Heap->Prop}{d:DefRec}
   (hn:l.most=some n) (hdf:d.params.defaults=[])
   (call:∀(w:World) (s₀ s₁:Shared) (mg mb:Str->Option Value) (fa:Addr) (o:Obj) (pm cd doc:Value) (a:Addr) (vs:List Value) (ns:List Int),
     Ground q loose [] XP w s₀ mg mb s₁.heap->YP w s₁.heap ->
     s₁.heap.get? fa=some o->o.data=.func (docDef d.name d.params d.body d.scope pm cd doc)->s₁.heap.CodeRec cd d.name->mg d.name=some (.ref fa) ->
     s₁.heap.get? a=some { cls:=.type "list",data:=.seq vs.toArray }->IntsAre vs ns->ns.length<=n->s₁.gens = #[] ->
     codeAny (model l.prog w) callerA (.call (.ref fa) ⟨[.ref a],[]⟩) (fun r s'=>r=.ok (.ret (.bool true))/\OldK s₁.heap s'.heap/\s'.os=s₁.os/\AllBare s'.gens) s₁) :
   WalkO q loose XP YP l.row.toRowW d [] (fun f vs=>PySem.call f vs):=by
 intro w s₀ s₁ mg mb G Y fa o pm cd doc dV kV ho hd hcd hD hmg hg args vals as hpre Dk hrd hwl hlo
 obtain rfl:dV=.none:=Dflts.none hD hdf
 obtain rfl:kV=.none:=Dflts.noKw hD
 obtain ⟨a,vs,ns,rfl,rfl,yw,hints,hlen⟩:=rk hn hpre hwl
 refine enter_call (codeAny_mono (call w s₀ s₁ mg mb fa o pm cd doc a vs ns G Y ho (fd_plain hd) hcd hmg yw hints hlen hg) fun r s' hq=>?_)
 obtain ⟨rfl,h2,h3,h4⟩:=hq
 exact ⟨.inl ⟨.bool true,.bool true,[],rfl,fun _=>rfl,.bool true,rb l _,fun _=>⟨List.Pairwise.nil,fun _ hm=>(nomatch hm)⟩⟩,h2,h3,h4⟩

/-! ### rules over ANY heap (no ledger) from facts about the written part K: the Aa own take a ledger (News) for what they write -/
end CA

namespace L2
open PySem PySem.Spec PyProof.Rows

theorem kg:∀{vs:List Value} {ns:List Int},IntsAre vs ns->Vals (ns.map V.int) vs
 | _,_,.nil=>.nil
 | _,_,.cons n t h=>.cons ⟨t,rfl⟩ (kg h)

/-- nothing is tracked but the kN,known to the object (or it is an object of the module) -/
def xW (H:Hp):Prop:=∀b,H b=none\/∃o xs,H b=some (.frz o (.lst xs))

/-- THE Dd: the law's promise,at the heap behind the top. F,the promise of the law's def,may use that base is part of the heap (so K.In base,base.Ns mainGlobals mg stand in Mod) -/
theorem tI {P:Program}{w:World}{K:DA}{mg mb:Str->Option Value}{CX:CXT}{k:Nat}{fa a:Addr}{fd:FuncData}{x:Str}{sp:Sp}{s₁:Shared}{vs:List Value}{ns:List Int}
   (KX:K.In s₁.heap) (hns:s₁.heap.Ns mainGlobals mg) (hb:s₁.heap.Ns builtinsNs mb) (hbb:∀x:Str,x≠"__name__"->mb x=bootBuiltins x) (hlim:s₁.heap.NoLimit) (hg:s₁.gens = #[])
   (ha:s₁.heap.get? a=some { cls:=.type "list",data:=.seq vs.toArray }) (hi:IntsAre vs ns) (hl:ns.length<=sizeLine) (hr:cM k callerA)
   (F:∀base:Heap,K.In base->base.Ns mainGlobals mg->aL P w K mg base CX k fa fd [x] sp) (hbind:∀(s:Shared) (u:Value),BindsTo s fd ⟨[u],[]⟩ [(x,u)])
   (hsp:∀H:Hp,xW H->ao K H a (ns.map V.int)->sp [.ref a] H (fun v _=>v=.bl true) fun _ _ _=>False)
   (hCX:∀H e s',CX [] H s₁ (fun _ _ _=>False) e s'->False) :
   codeAny (model P w) callerA (.call (.ref fa) ⟨[.ref a],[]⟩) (fun r s'=>r=.ok (.ret (.bool true))/\OldK s₁.heap s'.heap/\s'.os=s₁.os/\AllBare s'.gens) s₁:=by
 have rv:=kg hi
 have Cb:=hi.length
 -- from an abstract heap in C4 nothing but the kN may be tracked
 have core:∀H:Hp,xW H->ao K H a (ns.map V.int)->eF P w H s₁.heap->(∀b,H b≠none->b=a)->(H a≠none->K.lookup a=none) ->
     codeAny (model P w) callerA (.call (.ref fa) ⟨[.ref a],[]⟩) (fun r s'=>r=.ok (.ret (.bool true))/\OldK s₁.heap s'.heap/\s'.os=s₁.os/\AllBare s'.gens) s₁:=by
   intro H hO hS hok hA hK
   have oF:∀{b:Addr} {o:Obj},s₁.heap.get? b=some o->H b=none->(kD s₁.heap H).get? b=some o:=fun e n=>tD e n
   have noA:∀{b:Addr} {o:Obj} {es:Array DictEntry} {ep:Nat},s₁.heap.get? b=some o->o.data=.dict es ep->H b=none:=fun {b o es ep} e d=>by
     cases q:H b with
     | none=>rfl
     | some u=>
       have e':b=a:=hA b (by rw [q]; simp)
       subst e'
       rw [ha] at e; cases e
       have d':Data.seq vs.toArray _=Data.dict es ep:=d
       cases d'
   have nsK:∀{b:Addr} {m:Str->Option Value},s₁.heap.Ns b m->(kD s₁.heap H).Ns b m:=fun {b m} ⟨o,es,ep,e,d,r⟩=>⟨o,es,ep,oF e (noA e d),d,r⟩
   have CK:K.In (kD s₁.heap H):=fun b o e=>oF (KX b o e) (by
     cases q:H b with
     | none=>rfl
     | some u=>
       have e':b=a:=hA b (by rw [q]; simp)
       subst e'
       rw [hK (by rw [q]; simp)] at e; cases e)
   have hM:Mod K mg (kD s₁.heap H):=⟨CK,nsK hns,⟨mb,nsK hb,hbb⟩,let ⟨mc,h1,h2⟩:=hlim; ⟨mc,nsK h1,h2⟩⟩
   have e0:u9 P w K mg (kD s₁.heap H) callerA [] s₁ H:=⟨rfl,hM,fun b o e=>vZ e,Nat.le_of_eq (qB _ _),trivial,fun b hb=>absurd (show b∈([]:List Addr) from hb) (by simp),hok,.of_eq hg⟩
   refine codeAny_mono ((F _ CK (nsK hns)).run callerA [] s₁ H ⟨[.ref a],[]⟩ [.ref a] [.ref a] _ _ hr e0 (hbind s₁ (.ref a)) (.cons rfl .nil) (hsp H hO hS)) fun r s' h=>?_
   cases r with
   | error e=>exact (hCX H e s' h).elim
   | ok fl=>
     cases fl with
     | next=>exact E2 h
     | brk=>exact E2 h
     | cont=>exact E2 h
     | ret u=>
       obtain ⟨v,H',os,bare,un,B7,r',q⟩:=h
       have q':v=.bl true:=q
       subst q'
       obtain rfl:u=Value.bool true:=r'
       refine ⟨rfl,OldK.of_keep fun b o e=>?_,os,bare⟩
       cases q:H b with
       | none=>exact un.keep b o e q (by intro z; exact absurd (show b∈([]:List Addr) from z) (by simp)) (by simp)
       | some u=>
         rcases hO b with z | ⟨ob,xs,z⟩
         · rw [q] at z; cases z
         · have z2:=un.frzs b ob _ z
           obtain ⟨e1,_⟩:=hok b _ z
           obtain ⟨e2,_⟩:=B7 b _ z2
           rw [e] at e1; cases e1
           exact e2
 cases hk:K.lookup a with
 | some o=>
   -- the kN is one of the me own objects
   have e:=KX a o hk
   rw [ha] at e
   cases e
   refine core (fun _=>none) (fun _=>.inl rfl) (.inr ⟨_,vs.toArray,_,hk,rfl,rfl,rfl,by rw [DO,Cb]; exact hl,by simpa using rv⟩) (fun b u z=>by have z':(none:Option HO)=some u:=z; cases z') (fun b z=>absurd rfl z) fun z=>absurd rfl z
 | none=>
   refine core (fun b=>if b=a then some (.frz { cls:=.type "list",data:=.seq vs.toArray } (.lst (ns.map V.int))) else none) (fun b=>?_) (.inl (.inr ⟨{ cls:=.type "list",data:=.seq vs.toArray },if_pos rfl⟩)) (fun b u z=>?_) (fun b z=>?_) fun _=>hk
   · by_cases hb:b=a
     · exact .inr ⟨_,_,if_pos hb⟩
     · exact .inl (if_neg hb)
   · by_cases hb:b=a
     · have z':=(if_pos hb).symm.trans z
       cases z'
       subst hb
       exact ⟨ha,by rw [DC]; exact hl,vs,_,rv,ha⟩
     · have z':=(if_neg hb).symm.trans z
       cases z'
   · by_cases hb:b=a
     · exact hb
     · exact absurd (if_neg hb) z
end L2

namespace L2
open PySem PySem.Spec PyProof.Rows

/-- the goal that k_head leaves (case hc),from the law's promise. F gives the function object fd (K's own) once,then the promise over oQ base -/
theorem walk_of {l:PySem.W.OpenLaw}{n k:Nat}{q:Program}{loose:List Str}{XP:(Str->Option Value)->Heap->Prop}{YP:World->Heap->Prop}{d:DefRec}{K:Params->DA}{CX:World->CXT}{sp:World->Sp}{x:Str}
   (hn:l.most=some n) (hn2:n<=sizeLine) (hdf:d.params.defaults=[]) (hr:cM k callerA)
   (hY:∀(w:World) (h:Heap),YP w h->(K w.params).In h)
   (F:∀(w:World) (mg:Str->Option Value) (fa:Addr) (h:Heap),(K w.params).In h->h.Ns mainGlobals mg->mg d.name=some (.ref fa) ->
     ∃fd:FuncData,(∀(s:Shared) (u:Value),BindsTo s fd ⟨[u],[]⟩ [(x,u)]) /\
       ∀base:Heap,(K w.params).In base->base.Ns mainGlobals mg->aL l.prog w (K w.params) mg base (CX w) k fa fd [x] (sp w))
   (hsp:∀(w:World) (H:Hp) (a:Addr) (ns:List Int),ns.length<=n->xW H->ao (K w.params) H a (ns.map V.int)->sp w [.ref a] H (fun v _=>v=.bl true) fun _ _ _=>False)
   (hCX:∀(w:World) (H:Hp) (s:Shared) (e:Value) (s':Shared),CX w [] H s (fun _ _ _=>False) e s'->False) :
   PySem.W.WalkO q loose XP YP l.row.toRowW d [] (fun f vs=>PySem.call f vs):=by
 refine CA.lB hn hdf fun w s₀ s₁ mg mb fa o pm cd doc a vs ns G Y ho hd hcd hmg yw hints hlen hg=>?_
 have KX:=hY w _ Y
 obtain ⟨fd,hb,hF⟩:=F w mg fa _ KX G.T.g hmg
 exact tI KX G.T.g G.T.b G.T.builtins G.T.nolimit hg yw hints (Eb hlen hn2) hr hF hb (fun H hO hS=>hsp w H a ns hlen hO hS) fun H e s'=>hCX w H s₁ e s'
end L2

/- THE De Bw (shape; LID,My.* are C6):
  My.Dw: a structure of the addresses that Bq layer names (classes,functions); My.Txt K t: a structure (Prop) of the equations over K;
  My.txt_mk:{K} {implicit addresses ..} (e1:nsIn K mainGlobals "law"=some (some (.ref f))) (e2:K.lookup f=some ⟨oc,od,.func (fnOf "law" "law" params body scope dV kV doc pm an cdv ct),sl⟩) (e3:codeIn K cdv "law"=true) .. : ∃t,My.Txt K t

set_option maxRecDepth 100000 in
set_option maxHeartbeats 0 in
theorem PySem.Challenge.cw_LID_holds : PySem.Challenge.rw_LID.Holds := by
 w_on; o_law; k_head; (case hw=>w_witness2)
 k_fill
 refine L2.walk_of (l:=PySem.Challenge.rw_LID) (n:=63) (k:=40) (x:="script") (CX:=fun w=>..) (sp:=fun _=>My.sp_law) rfl (by decide) rfl ⟨rfl,by decide,by decide⟩ (fun w h Y=>PySem.W.kIn_of Y) ?F ?S ?C
 case F=>
   intro w mg fa h KX G hmg
   have T:∃t,My.Txt (L2.KOf KX) t:=by
     dsimp only [L2.KOf]                          -- K must stand as «<heap const> w.params» for k_is
     refine' My.txt_mk ?e1 ?e2 ?e3 ..
     (case e1=>PySem.W.k_is)                    -- in the order: a name -> its address -> its object -> its parts
     (case e2=>PySem.W.k_is)
     ..
   obtain ⟨t,T⟩:=T
   have e0:=hmg.symm.trans (Gq KX G T.law)
   cases e0                                       -- fa is the law's own address
   exact ⟨_,fun s u=>.of_eq rfl,fun base kb nb=>My.law_fn T kb nb⟩     -- if «.of_eq rfl» comes too early: refine' ⟨_,?b,fun base kb nb=>My.law_fn T kb nb⟩; exact fun s u=>.of_eq rfl
 case S=>exact fun w H a ns hl hO hS=>..
 case C=>exact ..
(the tactic k_is has no namespace: write k_is) -/

/-! SHORT WORDS over the layer: a def of the text,its body,what a loop and a test want. -/
namespace L2
open PySem PySem.Spec PyProof.Rows

/-! ### the text by places -/
def bU (s:Stmt):Arguments:=match s with
 | .FunctionDef _ a _ _ _ _ _ _ _ _=>a
 | _=>{ posonlyargs:=[],args:=[],vararg:=none,kwonlyargs:=[],kw_defaults:=[],kwarg:=none,defaults:=[] }
def bC (s:Stmt):List Stmt:=match s with
 | .FunctionDef _ _ b _ _ _ _ _ _ _=>b
 | _=>[]
def ag (s:Stmt):Scope:=match s with
 | .FunctionDef _ _ _ _ _ _ sc _ _ _=>sc
 | _=>{ kind:=.function,names:=[],isGenerator:=false,isCoroutine:=false }

/-! ### no exception leaves a def -/
abbrev CX0:CXT:=fun _ _ _ _ _ _=>False
abbrev E0:XK:=fun _ _ _=>False
theorem xA {X:Cx}:Passes CX0 X E0:=fun _ _ _ _ _ _ _ h=>h.elim

/-! ### a def (or method) of the text as it stands behind the top -/
structure cB (K:DA)(x qual:Str)(st:Stmt)(f:Addr)(fd:FuncData):Prop where
 ex:∃(oc:Value) (od:Option Addr) (kV doc pm:Value) (an:Option Addr) (cdv ct:Value) (osl:Array (Option Value)),
   fd=EA x qual (bU st) (bC st) (ag st) .none kV doc pm an cdv ct/\K.lookup f=some ⟨oc,od,.func fd,osl⟩ /\ E7 K cdv qual=true
 kp:ER K (.ref f)=true
section
variable {P:Program}{w:World}{K:DA}{mg:Str->Option Value}{base:Heap}
/-- THE RULE for a def: its body as a term of rules,and the reading of that term -/
theorem cB.ok {x qual:Str}{st:Stmt}{f:Addr}{fd:FuncData}{N ps:List Str}{k:Nat}{sp:Sp}(F:cB K x qual st f fd)(S:au N ps (ag st))(len:∀vs H Q E,sp vs H Q E->vs.length=ps.length)
   (hbody:∀(cdv:Value) (A:Around) (outer:List Env) (s:Shared) (H:Hp) (vs:List V) (Q:VK) (E:XK),cM k (A.deeper (envOfC qual (ag st) s.heap.objs.size f cdv))->sp vs H Q E ->
     ∃t,lg (mU CX0 P w K mg base N qual (ag st) f cdv A outer s H E).nox (bC st) t/\t { nx:=fun _ H'=>Q .aU H',rt:=Q } (start N vs) H):aL P w K mg base CX0 (k + 1) f fd ps sp:=by
 obtain ⟨oc,od,kV,doc,pm,an,cdv,ct,osl,rfl,lk,hcd⟩:=F.ex
 refine xq lk hcd S len fun A outer s H vs Q E hr hsp=>?_
 obtain ⟨t,h,q⟩:=hbody cdv A outer s H vs Q E hr hsp
 exact ⟨t,h.nox,q⟩
/-- how its arguments bind (no defaults): h is «fun _ _ _ _ _ _ us hl=>match us,hl with | [_,_],_=>rfl»,one _ a parameter -/
theorem cB.binds {x qual:Str}{st:Stmt}{f:Addr}{fd:FuncData}{ps:List Str}(F:cB K x qual st f fd)
   (h:∀(kV doc pm:Value) (an:Option Addr) (cdv ct:Value) (us:List Value),us.length=ps.length->bindArgs (EA x qual (bU st) (bC st) (ag st) .none kV doc pm an cdv ct) ⟨us,[]⟩ = pure (ps.zip us)):Binds K fd ps []:=by
 obtain ⟨oc,od,kV,doc,pm,an,cdv,ct,osl,rfl,lk,hcd⟩:=F.ex
 exact .all (h kV doc pm an cdv ct)
theorem yp {x qual:Str}{st:Stmt}{f:Addr}{oc:Value}{od an:Option Addr}{osl:Array (Option Value)}{kV doc pm cdv ct:Value}(l:K.lookup f=some ⟨oc,od,.func (EA x qual (bU st) (bC st) (ag st) .none kV doc pm an cdv ct),osl⟩)
   (c:E7 K cdv qual=true) (k:ER K (.ref f)=true):cB K x qual st f (EA x qual (bU st) (bC st) (ag st) .none kV doc pm an cdv ct):=⟨⟨oc,od,kV,doc,pm,an,cdv,ct,osl,rfl,l,c⟩,k⟩
end
theorem aR {n:Nat}(h:n<=1000):n < sizeLine:=En h (by decide)

/-! ### expressions in short: the name that stands in the i-th slot -/

/-! ### tests -/
theorem fK {A B:Prop}(h:B):if false=true then A else B:=by
 rw [if_neg DU]
 exact h
theorem cN {A B:Prop}(h:A):if true=true then A else B:=by
 rw [if_pos rfl]
 exact h
theorem az {c A B:Prop}[Decidable c](h1:c->A)(h2:¬ c->B):if c then A else B:=by
 by_cases h:c
 · rw [if_pos h]
   exact h1 h
 · rw [if_neg h]
   exact h2 h
/-! ### heaps -/
/-- all that was tracked is as it was -/
def ah (H H':Hp):Prop:=∀b o,H b=some o->H' b=some o
theorem ah.seq {K:DA}{H H':Hp}{a:Addr}{xs:List V}(e:ah H H')(h:ao K H a xs):ao K H' a xs:=by
 rcases h with (h | ⟨o,h⟩) | h
 · exact .inl (.inl (e _ _ h))
 · exact .inl (.inr ⟨o,e _ _ h⟩)
 · exact .inr h

end L2
set_option Elab.async false
set_option linter.all false
set_option maxRecDepth 100000
namespace L2
open PySem PySem.Spec PyProof.Rows

/-! ### lists of pairs as tables -/
section
variable {κ:Type}[DecidableEq κ]
def bq (kvs:List (κ×V))(k:κ):Option V:=(kvs.find? fun kv=>decide (kv.1=k)).map (·.2)
/-- in its place,or at the end -/
def putK (kvs:List (κ×V))(k:κ)(v:V):List (κ×V):=
 if (kvs.any fun kv=>decide (kv.1=k))=true then kvs.map (fun kv=>if kv.1=k then (kv.1,v) else kv) else kvs++[(k,v)]
theorem br {p:κ×V}{r:List (κ×V)}{k:κ}(e:p.1=k):bq (p :: r) k=some p.2:=by simp [bq,EM,e]
theorem bj {p:κ×V}{r:List (κ×V)}{k:κ}(e:¬ p.1=k):bq (p :: r) k=bq r k:=by simp [bq,EM,e]
theorem d8 (k:κ):∀kvs:List (κ×V),(kvs.any fun kv=>decide (kv.1=k))=(bq kvs k).isSome
 | []=>rfl
 | p :: r=>by
   rw [Fz]
   by_cases e:p.1=k
   · simp only [br e,decide_eq_true e,Bool.true_or,Option.isSome_some]
   · rw [bj e,decide_eq_false e,Bool.false_or]; exact d8 k r
theorem mE (k j:κ)(y:V):∀kvs:List (κ×V),bq (kvs.map fun kv=>if kv.1=k then (kv.1,y) else kv) j=(bq kvs j).map fun x=>if j=k then y else x
 | []=>rfl
 | p :: r=>by
   have ih:=mE k j y r
   rw [D7]
   by_cases h:p.1=k
   · rw [if_pos h]
     by_cases e:p.1=j
     · rw [br (p:=(p.1,y)) e,br e,EC,if_pos (e.symm.trans h)]
     · rw [bj (p:=(p.1,y)) e,bj e,ih]
   · rw [if_neg h]
     by_cases e:p.1=j
     · rw [br (p:=p) e,br e,EC,if_neg (fun z=>h (e.trans z))]
     · rw [bj (p:=p) e,bj e,ih]
theorem ke (k j:κ)(y:V):∀kvs:List (κ×V),bq kvs k=none->bq (kvs++[(k,y)]) j=if j=k then some y else bq kvs j
 | [],_=>by
   by_cases e:k=j
   · rw [if_pos e.symm]; exact br (p:=(k,y)) e
   · rw [if_neg (fun z=>e z.symm)]; exact bj (p:=(k,y)) e
 | p :: r,hn=>by
   rw [List.cons_append]
   have hk:¬ p.1=k:=fun z=>by rw [br z] at hn; cases hn
   rw [bj hk] at hn
   have ih:=ke k j y r hn
   by_cases e:p.1=j
   · rw [br e,br e,if_neg (fun z=>hk (e.trans z))]
   · rw [bj e,bj e,ih]
theorem mF (kvs:List (κ×V))(k j:κ)(y:V):bq (putK kvs k y) j=if j=k then some y else bq kvs j:=by
 unfold putK
 by_cases a:(kvs.any fun kv=>decide (kv.1=k))=true
 · rw [if_pos a,mE]
   rw [d8] at a
   by_cases e:j=k
   · obtain ⟨x,hx⟩:=Option.isSome_iff_exists.mp a
     rw [if_pos e,e,hx,EC,if_pos rfl]
   · rw [if_neg e]
     cases bq kvs j with
     | none=>rfl
     | some x=>rw [EC,if_neg e]
 · rw [if_neg a]
   refine ke k j y kvs ?_
   rw [d8] at a
   cases q:bq kvs k with
   | none=>rfl
   | some x=>rw [q] at a; exact (a rfl).elim
theorem bO (kvs:List (κ×V))(k:κ)(v:V):(putK kvs k v).length<=kvs.length + 1:=by
 unfold putK
 split
 · rw [DC]; omega
 · rw [DE,D6,Fi]; omega
theorem eQ.isSome_eq {o:Option V}{u:Option Value}(r:eQ o u):o.isSome=u.isSome:=by
 cases o with
 | none=>cases u with
   | none=>rfl
   | some _=>exact (show False from r).elim
 | some _=>cases u with
   | none=>exact (show False from r).elim
   | some _=>rfl
theorem eQ.getD {o:Option V}{u:Option Value}{d:V}{d':Value}(r:eQ o u)(rd:RelV d d'):RelV (o.getD d) (u.getD d'):=by
 cases o with
 | none=>cases u with
   | none=>exact rd
   | some _=>exact (show False from r).elim
 | some _=>cases u with
   | none=>exact (show False from r).elim
   | some _=>exact r

/-- raw tables of the same keys -/
theorem KV.val {kvs:List (κ×V)}{vs:List (κ×Value)}(r:KV kvs vs)(k:κ):eQ (bq kvs k) (valueAt vs k):=by
 unfold KV at r
 induction r with
 | nil=>exact DV
 | @cons p q ps qs h t ih=>
   obtain ⟨h1,h2⟩:=h
   by_cases e:p.1=k
   · have e':q.1=k:=h1.symm.trans e
     have b:valueAt (q :: qs) k=some q.2:=by simp [valueAt,EM,e']
     rw [br e,b]; exact h2
   · have e':¬ q.1=k:=fun z=>e (h1.trans z)
     have b:valueAt (q :: qs) k=valueAt qs k:=by simp [valueAt,EM,e']
     rw [bj e,b]; exact ih
theorem KV.any {kvs:List (κ×V)}{vs:List (κ×Value)}(r:KV kvs vs)(k:κ):(kvs.any fun kv=>decide (kv.1=k))=vs.any fun kv=>decide (kv.1=k):=by
 unfold KV at r
 induction r with
 | nil=>rfl
 | cons h t ih=>rw [Fz,Fz,ih,h.1]
theorem KV.repl {kvs:List (κ×V)}{vs:List (κ×Value)}(r:KV kvs vs)(k:κ){y:V}{u:Value}(ry:RelV y u) :
   KV (kvs.map fun kv=>if kv.1=k then (kv.1,y) else kv) (vs.map fun kv=>if kv.1=k then (kv.1,u) else kv):=by
 unfold KV at r ⊢
 induction r with
 | nil=>exact .nil
 | @cons p q ps qs h t ih=>
   rw [D7,D7]
   refine .cons ?_ ih
   obtain ⟨h1,h2⟩:=h
   by_cases e:p.1=k
   · rw [if_pos e,if_pos (h1.symm.trans e)]; exact ⟨h1,ry⟩
   · rw [if_neg e,if_neg (fun z=>e (h1.trans z))]; exact ⟨h1,h2⟩
theorem KV.put {kvs:List (κ×V)}{vs:List (κ×Value)}(r:KV kvs vs)(k:κ){y:V}{u:Value}(ry:RelV y u):KV (putK kvs k y) (stored vs k u):=by
 unfold putK stored
 rw [r.any k]
 by_cases e:(vs.any fun kv=>decide (kv.1=k))=true
 · rw [if_pos e,if_pos e]; exact r.repl k ry
 · rw [if_neg e,if_neg e]; exact Paired.snoc r ⟨rfl,ry⟩
theorem KV.length {kvs:List (κ×V)}{vs:List (κ×Value)}(r:KV kvs vs):kvs.length=vs.length:=Paired.length r
end


/-! ### a tracked dict,its keys ints and texts or tuples of these -/
theorem gU {P:Program}{w:World}{k:Key}{u:Value}(r:RelV (kV k) u):(aD P w).is k u=true:=by
 cases k with
 | inl i=>obtain ⟨t,e⟩:=(show ∃t,u=FW i t from r); subst e; exact ma P w i t
 | inr x=>obtain ⟨t,e⟩:=(show ∃t,u=FH x t from r); subst e; exact md P w x t
theorem jZ {P:Program}{w:World}:∀{ks:List Key} {us:List Value},Vals (ks.map kV) us->ItemsAre (aD P w) ks us
 | [],_,r=>by rw [List.map_nil] at r; cases r; exact .nil
 | k :: ks,_,r=>by
   rw [D7] at r
   cases r with
   | cons h t=>exact .cons (gU h) (jZ t)

/-- raw entries of a dict with tuple keys -/
abbrev KT (H:Hp):List (List Key×V)->List (List Key×Addr×Value)->Prop:=Paired fun p q=>p.1=q.1/\H q.2.1=some (.tup (p.1.map kV))/\RelV p.2 q.2.2
theorem KT.val {H:Hp}{kvs:List (List Key×V)}{xs:List (List Key×Addr×Value)}(r:KT H kvs xs)(k:List Key):eQ (bq kvs k) ((atKey xs k).map (·.2)):=by
 induction r with
 | nil=>exact DV
 | @cons p q ps qs h t ih=>
   obtain ⟨h1,_,h2⟩:=h
   by_cases e:p.1=k
   · have e':q.1=k:=h1.symm.trans e
     have b:atKey (q :: qs) k=some q.2:=by simp [atKey,EM,e']
     rw [br e,b]; exact h2
   · have e':¬ q.1=k:=fun z=>e (h1.trans z)
     have b:atKey (q :: qs) k=atKey qs k:=by simp [atKey,EM,e']
     rw [bj e,b]; exact ih
theorem KT.repl {H:Hp}{kvs:List (List Key×V)}{xs:List (List Key×Addr×Value)}(r:KT H kvs xs)(k:List Key){y:V}{u:Value}(ry:RelV y u) :
   KT H (kvs.map fun kv=>if kv.1=k then (kv.1,y) else kv) (xs.map (putAt k u)):=by
 induction r with
 | nil=>exact .nil
 | @cons p q ps qs h t ih=>
   rw [D7,D7]
   refine .cons ?_ ih
   obtain ⟨h1,h2,h3⟩:=h
   unfold putAt
   by_cases e:p.1=k
   · rw [if_pos e,if_pos (h1.symm.trans e)]; exact ⟨h1,h2,ry⟩
   · rw [if_neg e,if_neg (fun z=>e (h1.trans z))]; exact ⟨h1,h2,h3⟩
theorem KT.put {H:Hp}{kvs:List (List Key×V)}{xs:List (List Key×Addr×Value)}(r:KT H kvs xs)(k:List Key){b:Addr}{y:V}{u:Value}(hb:H b=some (.tup (k.map kV)))(ry:RelV y u) :
   KT H (putK kvs k y) (storedH xs k b u):=by
 have e:(kvs.any fun kv=>decide (kv.1=k))=(atKey xs k).isSome:=by
   rw [d8,(r.val k).isSome_eq,F1]
 unfold putK storedH
 rw [e]
 by_cases q:(atKey xs k).isSome=true
 · rw [if_pos q,if_pos q]; exact r.repl k ry
 · rw [if_neg q,if_neg q]; exact Paired.snoc r ⟨rfl,hb,ry⟩
theorem KT.keeps {H H':Hp}{kvs:List (List Key×V)}{xs:List (List Key×Addr×Value)}(r:KT H kvs xs)(ht:∀b ys,H b=some (.tup ys)->H' b=some (.tup ys)):KT H' kvs xs:=
 Paired.mapP r fun _ _ z=>⟨z.1,ht _ _ z.2.1,z.2.2⟩

section
variable {P:Program}{w:World}{H:Hp}{h:Heap}{a:Addr}
theorem xC {u:HO}(ok:eF P w H h)(e:Rd H a u):aP P w H h a u:=e.ok ok
theorem lH {kvs:List (Key×V)}(ok:eF P w H h)(e:Rd H a (.dK kvs)):kvs.length<=sizeLine/\(a == sysModules)=false/\∃vs,KV kvs vs/\h.DictOf (aD P w) a vs:=
 show aP P w H h a (.dK kvs) from xC ok e
theorem oP {kvs:List (Key×V)}(ok:eF P w H h)(e:H a=some (.dK kvs)):kvs.length<=sizeLine/\(a == sysModules)=false/\∃vs,KV kvs vs/\h.DictOf (aD P w) a vs:=lH ok (.inl e)
/-- a tracked tuple of ints and texts is a key -/
theorem gG {ks:List Key}(ok:eF P w H h)(e:H a=some (.tup (ks.map kV))):(tupleKind (aD P w)).is h ks a:=by
 obtain ⟨_,its,r,o,h1,h2,n,h3⟩:=(show aP P w H h a (.tup (ks.map kV)) from ok a _ e)
 exact ⟨o,its.toArray,n,h1,h2,h3,by simpa using jZ r⟩
theorem lJ {kvs:List (List Key×V)}(ok:eF P w H h)(e:Rd H a (.dT kvs)):kvs.length<=sizeLine/\(a == sysModules)=false /\
   ∃xs,KT H kvs xs/\h.DictOfH (tupleKind (aD P w)) a xs:=by
 obtain ⟨z,y,xs,r,o,es,ep,h1,h2,h3,h4,h5⟩:=(show aP P w H h a (.dT kvs) from xC ok e)
 refine ⟨z,y,xs,r,o,es,ep,h1,h2,h3,h4,fun x hx=>?_,h5⟩
 have all:∀{l:List (List Key×V)} {m:List (List Key×Addr×Value)},KT H l m->∀x∈m,(tupleKind (aD P w)).is h x.1 x.2.1:=by
   intro l m q
   induction q with
   | nil=>intro x hx; exact nomatch hx
   | @cons p q ps qs hq t ih=>
     intro x hx
     rcases List.mem_cons.mp hx with e | hx
     · subst e
       exact gG ok (by rw [← hq.1]; exact hq.2.1)
     · exact ih x hx
 exact all r x hx
theorem xp {kvs:List (List Key×V)}(ok:eF P w H h)(e:H a=some (.dT kvs)):kvs.length<=sizeLine/\(a == sysModules)=false /\
   ∃xs,KT H kvs xs/\h.DictOfH (tupleKind (aD P w)) a xs:=lJ ok (.inl e)
end

/-- what the dict at a holds at the key y -/
def eP (H:Hp)(a:Addr)(y:V)(r:Option V):Prop:=
 (∃kvs k,Rd H a (.dK kvs)/\y=kV k/\r=bq kvs k)\/∃kvs k b,Rd H a (.dT kvs)/\y=.ref b/\H b=some (.tup (k.map kV))/\r=bq kvs k
/-- the heap behind a[y]=v -/
def lh (H:Hp)(a:Addr)(y v:V)(H':Hp):Prop:=
 (∃kvs k,H a=some (.dK kvs)/\y=kV k/\kvs.length < sizeLine/\H'=upd H a (.dK (putK kvs k v))) \/
 ∃kvs k b,H a=some (.dT kvs)/\y=.ref b/\H b=some (.tup (k.map kV))/\kvs.length < sizeLine/\H'=upd H a (.dT (putK kvs k v))
theorem eP.k {H:Hp}{a:Addr}{kvs:List (Key×V)}{k:Key}(e:H a=some (.dK kvs)):eP H a (kV k) (bq kvs k):=.inl ⟨kvs,k,.inl e,rfl,rfl⟩
theorem eP.t {H:Hp}{a b:Addr}{kvs:List (List Key×V)}{k:List Key}(e:H a=some (.dT kvs))(eb:H b=some (.tup (k.map kV))):eP H a (.ref b) (bq kvs k):=.inr ⟨kvs,k,b,.inl e,rfl,eb,rfl⟩
theorem lh.t {H:Hp}{a b:Addr}{kvs:List (List Key×V)}{k:List Key}{v:V}(e:H a=some (.dT kvs))(eb:H b=some (.tup (k.map kV)))(hl:kvs.length < sizeLine) :
   lh H a (.ref b) v (upd H a (.dT (putK kvs k v))):=.inr ⟨kvs,k,b,e,rfl,eb,hl,rfl⟩


section
variable {X:Cx}{pins:List (Addr×Obj)}{σ:St}{H:Hp}{s:Shared}{a:Addr}{y v:V}{u r:Value}{o:Option V}{A:Around}{E:Value->Shared->Prop}

theorem Inv.big (I:Inv X pins σ H s):sysModules < s.heap.objs.size:=by
 have h:mainGlobals < s.heap.objs.size:=(I.mod.glob.keeps I.bk).lt
 exact GR (by decide) h

/-- d[y],there -/
theorem qc {Q:Value->Shared->Prop}(hu:A.units + 1 < cLine)(I:Inv X pins σ H s)(g:eP H a y (some v))(ry:RelV y u)(h:∀w' s',Inv X pins σ H s'->RelV v w'->Q w' s') :
   wpAny (model X.prog X.w) A (getItem (.ref a) u) Q E s:=by
 rcases g with ⟨kvs,k,e,ey,l⟩ | ⟨kvs,k,b,e,ey,eb,l⟩
 · subst ey
   obtain ⟨z,hd,vs,rel,dd⟩:=lH I.hok e
   obtain ⟨w',hw,rw'⟩:=eQ.some_of (v:=v) (o:=valueAt vs k) (by rw [l]; exact rel.val k)
   exact wpAny_getItem_of (gU ry) dd.mapOf hw (h w' _ (I.tok _) rw')
 · subst ey
   cases (show u=D8 b from ry)
   obtain ⟨z,hd,xs,rel,dd⟩:=lJ I.hok e
   obtain ⟨w',hw,rw'⟩:=eQ.some_of (v:=v) (o:=(atKey xs k).map (·.2)) (by rw [l]; exact rel.val k)
   obtain ⟨p,hp,hp2⟩:=Option.map_eq_some_iff.mp hw
   refine wpAny_getItem_heap (tupleKind_room_in1 hu) (gG I.hok eb) dd hp ?_
   rw [hp2]
   exact h w' _ (I.tok _) rw'
/-- a dict's object is replaced -/
theorem dm {h':Heap}{t':Nat}{ob:HO}(I:Inv X pins σ H s)(mu:Ai (H a))(hs:Ey a s.heap h')(he:∃q,h'.get? a=some q)(new:aP X.prog X.w (upd H a ob) h' a ob) :
   Inv X pins σ (upd H a ob) { s with heap:=h',toks:=t' }:=
 I.write (x:=a) (e:=a) mu (.inl rfl) (fun b q hb z=>(hs.2 b hb).trans z) he new
theorem ku {P:Program}{w:World}{H':Hp}{h':Heap}{kvs:List (Key×V)}{vs:List (Key×Value)}(z:kvs.length<=sizeLine)(hd:(a == sysModules)=false)(rel:KV kvs vs)(dd:h'.DictOf (aD P w) a vs) :
   aP P w H' h' a (.dK kvs):=⟨z,hd,vs,rel,dd⟩
/-- d[y]=v -/
theorem qd {H':Hp}{Q:Unit->Shared->Prop}(hu:A.units + 1 < cLine)(I:Inv X pins σ H s)(g:lh H a y v H')(ry:RelV y u)(rv:RelV v r)(h:∀s',Inv X pins σ H' s'->Q () s') :
   wpAny (model X.prog X.w) A (setItem (.ref a) u r) Q E s:=by
 rcases g with ⟨kvs,k,e,ey,l,eH⟩ | ⟨kvs,k,b,e,ey,eb,l,eH⟩
 · subst ey eH
   obtain ⟨z,hd,vs,rel,dd⟩:=oP I.hok e
   have hz:vs.length<=sizeLine:=by rw [← rel.length]; exact z
   have hl:(putK kvs k v).length<=sizeLine:=by have:=bO kvs k v; omega
   refine wpAny_setItem_pairs (hsz:=hz) (gU ry) dd fun h' dd' hs=>h _ ?_
   have he:∃q,h'.get? a=some q:=let ⟨q,_,_,hq,_⟩:=dd'; ⟨q,hq⟩
   exact dm I (by rw [e]; exact DV) hs he (ku hl hd (rel.put k rv) dd')
 · subst ey eH
   cases (show u=D8 b from ry)
   obtain ⟨z,hd,xs,rel,dd⟩:=xp I.hok e
   have hz:xs.length<=sizeLine:=by rw [← Paired.length rel]; exact z
   have hl:(putK kvs k v).length<=sizeLine:=by have:=bO kvs k v; omega
   refine wpAny_setItem_heap (hsz:=hz) (tupleKind_room_in1 hu) (gG I.hok eb) dd fun h' dd' hs=>h _ ?_
   obtain ⟨q,es,ep,hq,h2,h3,h4,_,h5⟩:=dd'
   refine dm I (by rw [e]; exact DV) hs ⟨q,hq⟩ ⟨hl,hd,_,(rel.put k eb rv).keeps fun c ys ec=>?_,q,es,ep,hq,h2,h3,h4,h5⟩
   rw [aj (cA ec e (fun z=>nomatch z))]
   exact ec
end



/-! ### readings and rules -/
/-- the element of a subscription,not a slice -/
def rG (i:Expr):Prop:=∀ov iv,subscripted i false ov iv=operate [ov,iv] (getItem ov iv)
theorem pP {prog:Program}{w:World}{A:Around}{E:Value->Shared->Prop}{s:Shared}{env:Env}{value slice:Expr}{pos:Pos}{T id:String}{Q:Value->Shared->Prop}
   (hl:typeLookup (.type T) "__getitem__"=pure (some (.builtin id))) (hs:rG slice)
   (h:wpAny (model prog w) A (eval value env) (fun o s₁=>wpAny (model prog w) A (eval slice env) (fun i s₂=>s₂.TypeIs o T/\wpAny (model prog w) A (getItem o i) Q E s₂) E s₁) E s) :
   wpAny (model prog w) A (eval (.Subscript value slice pos) env) Q E s:=by
 refine Subscript_ (wpAny_mono h (fun o s₁ h₁=>wpAny_mono h₁ (fun i s₂ h₂=>?_) fun _ _ x=>x) fun _ _ x=>x)
 obtain ⟨hT,h₂⟩:=h₂
 unfold subscriptTail
 refine wpAny_bind ?_
 rw [getitemInPython_of_ne hT.not_modules]
 refine wpAny_bind (wpAny_specialOf hT hl ?_)
 have fin:wpAny (model prog w) A (subscripted slice false o i) (fun r s₃=>wpAny (model prog w) A (letTemporaryGo value o r >>= fun _=>pure r) Q E s₃) E s₂:=by
   rw [hs o i]
   exact wpAny_operating (wpAny_mono h₂ (fun r s₃ h₃=>wpAny_bind (wpAny_letTemporaryGo (wpAny_pure h₃))) fun _ _ x=>x)
 first
   | exact wpAny_pure (wpAny_bind fin)
   | exact wpAny_bind (wpAny_pure (wpAny_bind fin))
   | exact wpAny_bind fin

theorem lF {X:Cx}{pins:List (Addr×Obj)}{σ:St}{H:Hp}{s:Shared}{a:Addr}{y:V}{o:Option V}(I:Inv X pins σ H s)(g:eP H a y o):s.TypeIs (.ref a) "dict":=by
 rcases g with ⟨kvs,k,e,_,_⟩ | ⟨kvs,k,b,e,_,_,_⟩
 · obtain ⟨_,_,vs,_,dd⟩:=lH I.hok e
   exact dd.typeIs
 · obtain ⟨_,_,xs,_,dd⟩:=lJ I.hok e
   exact dd.typeIs
/-- d[y] -/
def xJ (td ty:TE):TE:=fun σ H Q=>td σ H fun x H1=>ty σ H1 fun y H2=>∃a v,x=.ref a/\eP H2 a y (some v)/\Q v H2
/-- d[y]=v -/
def xD (td ty tv:TE):TS:=fun D σ H=>tv σ H fun v H1=>td σ H1 fun x H2=>ty σ H2 fun y H3=>∃a H4,x=.ref a/\lh H3 a y v H4/\D.nx σ H4
section
variable {X:Cx}{o i e value:Expr}{pos pos' tpos:Pos}{td ty tv:TE}
theorem wG (hu:X.A.units + 1 < cLine)(ho:PE X o td)(hi:PE X i ty)(hs:rG i):PE X (.Subscript o i pos) (xJ td ty):=by
 intro pins s σ H Q I h
 refine pP PySem.F.slot_dict_getitem.lookup hs (aX (ho pins s σ H _ I h) fun u s1 ⟨x,H1,I1,rx,q1⟩=>aX (hi pins s1 σ H1 _ I1 q1) fun iv s2 ⟨y,H2,I2,ry,a,v,ex,g,q2⟩=>?_)
 subst ex
 obtain rfl:u=D8 a:=rx
 exact ⟨lF I2 g,qc hu I2 g ry fun w' s3 I3 rw'=>⟨v,H2,I3,rw',q2⟩⟩
theorem wN (hu:X.A.units + 1 < cLine)(ho:PE X o td)(hi:PE X i ty)(hv:PE X value tv)(hs:swapsWith value (some (.Subscript o i pos')) pos.line X.env=pure false) :
   PS X (.Assign [.Subscript o i pos'] value pos) (xD td ty tv):=by
 intro pins s σ H D I h
 refine wpAny_Assign_Subscript (aX (hv pins s σ H _ I h) fun r s1 ⟨v,H1,I1,rv,q1⟩=>aX (ho pins s1 σ H1 _ I1 q1) fun u s2 ⟨x,H2,I2,rx,q2⟩=>aX (hi pins s2 σ H2 _ I2 q2) fun iv s3 ⟨y,H3,I3,ry,a,H4,ex,g,q3⟩=>?_) hs
 subst ex
 obtain rfl:u=D8 a:=rx
 exact qd hu I3 g ry rv fun s4 I4=>⟨σ,H4,I4,q3⟩
end


/-! ### displays -/
theorem lG {P:Program}{w:World}{H:Hp}(h:Heap)(hb:sysModules < h.objs.size):aP P w H (h.push { cls:=.type "dict",data:=.dict #[] }) h.objs.size (.dK []):=
 ⟨Ep _,beq_eq_false_iff_ne.mpr (Ne.symm (Ea hb)),[],.nil,FZ h⟩
theorem lI {P:Program}{w:World}{H:Hp}(h:Heap)(hb:sysModules < h.objs.size):aP P w H (h.push { cls:=.type "dict",data:=.dict #[] }) h.objs.size (.dT []):=
 ⟨Ep _,beq_eq_false_iff_ne.mpr (Ne.symm (Ea hb)),[],.nil,_,#[],0,DY _ rfl,⟨rfl,rfl,rfl⟩,rfl,rfl,Gw⟩
def uR:TE:=fun _ H Q=>∀p,H p=none->Q (.ref p) (upd H p (.dT []))
section
variable {X:Cx}{pos:Pos}
theorem uj:PE X (.Dict [] [] pos) uR:=fun pins s σ H Q I h=>
 wpAny_Dict_empty ⟨.ref s.heap.objs.size,_,I.laid (a:=s.heap.objs.size) (o:=.dT []) (t':=s.toks) (fun _ _ q=>DK _ q) (DJ _) (lI s.heap I.big),rfl,h _ (I.hok.fresh (DJ _))⟩
end

/-! ### methods -/
structure M2 (X:Cx)(o:Expr)(m:Str)(apos:Pos)(e f:Expr)(cpos:Pos):Prop where
 base:attributeBase o m X.env (eval o X.env)=eval o X.env
 few:((backTo cpos (starEach [e,f] X.env)).all (fun x=>!x.1) && (backToKw cpos (keywordEach [] X.env)).all (fun x=>x.1.isSome)
   && decide (([e,f]:List Expr).length + ([]:List Keyword).length + (if ([]:List Keyword).isEmpty then 0 else 1) < 30))=true
 line:(apos.endLine == cpos.line)=true
 trees:backTo cpos (starEach [e,f] X.env)=[(false,eval e X.env),(false,eval f X.env)]

/-- a is a dict,whatever its keys -/
def CC (H:Hp)(a:Addr):Prop:=(∃kvs,Rd H a (.dK kvs))\/∃kvs,Rd H a (.dT kvs)
theorem yz {X:Cx}{pins:List (Addr×Obj)}{σ:St}{H:Hp}{s:Shared}{a:Addr}(I:Inv X pins σ H s)(d:CC H a) :
   s.TypeIs (.ref a) "dict"/\(∀b,D8 a=.ref b->∃ob,s.heap.get? b=some ob/\ob.dict=none)/\(a == sysModules)=false:=by
 rcases d with ⟨kvs,e⟩ | ⟨kvs,e⟩
 · obtain ⟨_,hd,vs,_,dd⟩:=lH I.hok e
   refine ⟨dd.typeIs,fun b q=>?_,hd⟩
   cases q
   obtain ⟨ob,_,_,h1,h2,_⟩:=dd
   exact ⟨ob,h1,h2.2.1⟩
 · obtain ⟨_,hd,xs,_,dd⟩:=lJ I.hok e
   refine ⟨dd.typeIs,fun b q=>?_,hd⟩
   cases q
   obtain ⟨ob,_,_,h1,h2,_⟩:=dd
   exact ⟨ob,h1,h2.2.1⟩

section
variable {X:Cx}{pins:List (Addr×Obj)}{σ:St}{H:Hp}{s:Shared}{a:Addr}{y d:V}{u r:Value}{o:Option V}{A:Around}{E:Value->Shared->Prop}
/-- d.get(y,x) -/
theorem yj {Q:Value->Shared->Prop}(hu:A.units + 1 < cLine)(I:Inv X pins σ H s)(g:eP H a y o)(ry:RelV y u)(rd:RelV d r)(h:∀w' s',Inv X pins σ H s'->RelV (o.getD d) w'->Q w' s') :
   wpAny (model X.prog X.w) A (call (.builtin "dict.get") [.ref a,u,r]) Q E s:=by
 rcases g with ⟨kvs,k,e,ey,l⟩ | ⟨kvs,k,b,e,ey,eb,l⟩
 · subst ey
   obtain ⟨z,hd,vs,rel,dd⟩:=lH I.hok e
   refine call_meetsIn FE dd.typeIs Gv (Gr _ _ _) (meets_dict_get_default (aD X.prog X.w) a (gU ry) hd r) ⟨_,dd.mapOf,h _ _ (I.tok _) ?_⟩
   rw [l]
   exact (rel.val k).getD rd
 · subst ey
   cases (show u=D8 b from ry)
   obtain ⟨z,hd,xs,rel,dd⟩:=lJ I.hok e
   refine call_meetsIn FE dd.typeIs Gv (Gr _ _ _) (meetsH_dict_get_default (tupleKind (aD X.prog X.w)) a b hd r) ⟨tupleKind_room_in1 hu,k,xs,gG I.hok eb,dd,h _ _ (I.tok _) ?_⟩
   rw [l]
   exact (rel.val k).getD rd
end

def uP (td ty tx:TE):TE:=fun σ H Q=>td σ H fun x H1=>∃a,x=.ref a/\CC H1 a/\ty σ H1 fun y H2=>tx σ H2 fun z H3=>∃o,eP H3 a y o/\Q (o.getD z) H3
section
variable {X:Cx}{o e f:Expr}{apos cpos:Pos}{td ty tx:TE}
theorem uh (hu:X.A.units + 1 < cLine)(ho:PE X o td)(he:PE X e ty)(hf:PE X f tx)(m:M2 X o "get" apos e f cpos):PE X (.Call (.Attribute o "get" apos) [e,f] [] cpos) (uP td ty tx):=by
 intro pins s σ H Q I h
 refine wpAny_Call_method m.base m.few m.line PySem.F.plainAttrs_dict FE PySem.F.type_dict_get (aX (ho pins s σ H _ I h) fun u s1 ⟨x,H1,I1,rx,a,ex,d,q1⟩=>?_)
 subst ex
 obtain rfl:u=D8 a:=rx
 obtain ⟨t1,t2,_⟩:=yz I1 d
 refine ⟨t1,t2,?_⟩
 rw [m.trees]
 refine GG rfl (GO (E5 (aX (he pins s1 σ H1 _ I1 q1) fun iv s2 ⟨y,H2,I2,ry,q2⟩=>
   E5 (aX (hf pins s2 σ H2 _ I2 q2) fun fv s3 ⟨z,H3,I3,rz,ov,g,q3⟩=>Fw ?_))))
 exact yj hu I3 g ry rz fun w' s4 I4 rw'=>⟨_,H3,I4,rw',q3⟩
end

/-! ### dict(d): a copy -/


/-! ### a dict's pairs: keys that differ -/
section
variable {κ:Type}[DecidableEq κ]
theorem oY:∀{l:List κ} {k:κ},l.Nodup->¬ k∈l->(l++[k]).Nodup
 | [],k,_,_=>by simp
 | a :: r,k,h,hk=>by
   obtain ⟨h1,h2⟩:=List.nodup_cons.mp h
   show (a :: (r++[k])).Nodup
   refine List.nodup_cons.mpr ⟨fun m=>?_,oY h2 fun m=>hk (List.mem_cons.mpr (Or.inr m))⟩
   rcases List.mem_append.mp m with q | q
   · exact h1 q
   · exact hk (List.mem_cons.mpr (Or.inl (List.mem_singleton.mp q).symm))
end
end L2
set_option Elab.async false
set_option linter.all false
set_option maxRecDepth 100000
namespace L2
open PySem PySem.Spec PyProof.Rows

/-! ### a comprehension's block: its context -/
def eS (scope:Scope)(env:Env):List (Str×Addr):=
 (scope.names.filterMap fun (p:Str×NameKind)=>if p.2 == .free then (env.cells.lookup p.1).map fun c=>(p.1,c) else none).reverse
theorem iS (env:Env):∀(l:List (Str×NameKind)) (acc:List (Str×Addr)),(∀p∈l,p.2=.free->∃c,env.cells.lookup p.1=some c) ->
   (forIn l acc fun (x:Str×NameKind) (r:List (Str×Addr))=>if (x.2 == Ee)=true then do let c ← cellOf env x.1; pure (EZ ((x.1,c) :: r)) else pure (EZ r):Sem (List (Str×Addr))) =
     pure ((l.filterMap fun (p:Str×NameKind)=>if p.2 == .free then (env.cells.lookup p.1).map fun c=>(p.1,c) else none).reverse++acc)
 | [],acc,_=>rfl
 | p :: l,acc,h=>by
   have ih:=fun acc=>iS env l acc fun q hq=>h q (El _ hq)
   rw [Fj]
   by_cases hp:p.2=.free
   · obtain ⟨c,hc⟩:=h p Ef hp
     have e:(p.2 == Ee)=true:=by rw [hp]; rfl
     rw [if_pos e]
     have ec:cellOf env p.1=pure c:=by unfold cellOf; rw [hc]
     rw [ec,EF,if_pos e,hc]
     show (forIn l ((p.1,c) :: acc) _:Sem _)=_
     rw [ih]
     simp
   · have e:¬ (p.2 == Ee)=true:=by intro z; exact hp (by simpa using z)
     rw [if_neg e,EF,if_neg e]
     show (forIn l acc _:Sem _)=_
     rw [ih]
theorem mO {scope:Scope}{env:Env}(h:∀p∈scope.names,p.2=.free->∃c,env.cells.lookup p.1=some c):closureFor scope env=pure (eS scope env):=by
 have e:=iS env scope.names [] h
 rw [Es] at e
 show ((forIn scope.names [] fun (x:Str×NameKind) (r:List (Str×Addr))=>if (x.2 == Ee)=true then do let c ← cellOf env x.1; pure (EZ ((x.1,c) :: r)) else pure (EZ r)) >>= fun cs=>pure cs:Sem (List (Str×Addr)))=_
 rw [e]
 rfl
theorem mN {scope:Scope}{env:Env}{x:Str}{c:Addr}(h:(x,c)∈eS scope env):(x,Ee)∈scope.names/\env.cells.lookup x=some c:=by
 unfold eS at h
 obtain ⟨p,hp,e⟩:=List.mem_filterMap.mp (List.mem_reverse.mp h)
 obtain ⟨n,k⟩:=p
 dsimp only at e
 by_cases hk:(k == Ee)=true
 · rw [if_pos hk] at e
   have hk':k=.free:=by simpa using hk
   subst hk'
   cases q:env.cells.lookup n with
   | none=>rw [q] at e; cases e
   | some c'=>rw [q] at e; cases e; exact ⟨hp,q⟩
 · rw [if_neg hk] at e; cases e
theorem jU {scope:Scope}{env:Env}{x:Str}{c:Addr}(hm:(x,Ee)∈scope.names)(hc:env.cells.lookup x=some c):(eS scope env).lookup x=some c:=by
 have hin:(x,c)∈eS scope env:=by
   unfold eS
   refine List.mem_reverse.mpr (List.mem_filterMap.mpr ⟨(x,.free),hm,?_⟩)
   simp [hc]
 cases q:(eS scope env).lookup x with
 | none=>
   have:=List.lookup_eq_none_iff.mp q (x,c) hin
   simp at this
 | some c'=>
   obtain ⟨_,e⟩:=mN (Eo q)
   rw [hc] at e
   exact e.symm

/-- what of a comprehension's scope must be true (all of it by looking) -/
structure aA (sc:Scope)(env:Scope):Prop where
 kind:sc.kind=.function
 cell:∀y∈sc.names,y.2≠.cell
 names:∀x∈sc.names,x.2=.local->sc.names.lookup x.1=some .local
 free:∀x∈sc.names,x.2=.free->env.names.lookup x.1=some .cell\/env.names.lookup x.1=some .free
/-- the names of the block: the own ones,then those that are read from around,by their slots there -/
def bT (sc:Scope)(src:List (Option Nat))(N' N:List Str):Bool:=
 src.length == N'.length && (src.zip N').all fun p=>match p.1 with
   | none=>true
   | some j=>N[j]? == some p.2 && sc.names.lookup p.2 == some .free
def capσ (src:List (Option Nat))(σ:St):St:=src.map fun o=>match o with
 | none=>none
 | some j=>match σ[j]? with
   | some v=>v
   | none=>none
theorem vo {sc:Scope}{N N':List Str}{src:List (Option Nat)}(h:bT sc src N' N=true){i:Nat}{x:Str}{j:Nat}(h1:src[i]? = some (some j))(h2:N'[i]? = some x):N[j]? = some x/\sc.names.lookup x=some .free:=by
 unfold bT at h
 have h':=(EJ _ _ ▸ h).2
 have hz:(src.zip N')[i]? = some (some j,x):=by rw [List.getElem?_zip_eq_some]; exact ⟨h1,h2⟩
 have q:=List.all_eq_true.mp h' _ (DR hz)
 simpa using q
theorem rQ {sc:Scope}{N N':List Str}{src:List (Option Nat)}(h:bT sc src N' N=true):src.length=N'.length:=by
 unfold bT at h
 have h':=(EJ _ _ ▸ h).1
 simpa using h'

/-- the context of a comprehension's block -/
def dI (X:Cx)(N':List Str)(sc:Scope)(s:Shared)(H:Hp)(C:Addr)(fp:List Addr)(xe:Value->Shared->Prop):Cx where
 prog:=X.prog
 w:=X.w
 K:=X.K
 mg:=X.mg
 base:=X.base
 A:=X.A
 N:=N'
 s₀:=s
 H₀:=H
 env:=compEnvC sc (eS sc X.env) C X.env
 outer:=X.stack
 stack:=X.stack
 ex:=fp
 fn:=fun _=>false
 calm:=X.calm
 pn:=[]
 xe:=xe

theorem dY {sc:Scope}{env:Env}{x:Str}:∀{names:List (Str×NameKind)},
   (names.map fun (p:Str×NameKind)=>if (p.2 == Ee && env.scope.kind == .function && env.kindOf p.1 == some .cell) then (p.1,Gk) else (p.1,p.2)).lookup x =
     (names.lookup x).map fun k=>if (k == Ee && env.scope.kind == .function && env.kindOf x == some .cell) then Gk else k
 | []=>rfl
 | (n,k) :: r=>by
   have ih:=@dY sc env x r
   rw [D7]
   cases hx:x == n with
   | true=>
     have e:x=n:=by simpa using hx
     subst e
     by_cases hc:(k == Ee && env.scope.kind == .function && env.kindOf x == some .cell)=true
     · simp only [hc,if_true,FF,hx,EC]
     · simp only [hc,if_false,FF,hx,EC,Et]
   | false=>
     by_cases hc:(k == Ee && env.scope.kind == .function && env.kindOf n == some .cell)=true
     · simp only [hc,if_true,FF,hx]; exact ih
     · simp only [hc,if_false,FF,hx,Et]; exact ih
theorem jV {sc:Scope}{env:Env}{cl:List (Str×Addr)}{C:Addr}(x:Str):(compEnvC sc cl C env).kindOf x =
   (sc.names.lookup x).map fun k=>if (k == Ee && env.scope.kind == .function && env.kindOf x == some .cell) then Gk else k:=
 dY (sc:=sc) (env:=env)

section
variable {X:Cx}{pins:List (Addr×Obj)}{σ:St}{H:Hp}{s:Shared}{N':List Str}{sc:Scope}{src:List (Option Nat)}{fp:List Addr}{xe:Value->Shared->Prop}
/-- entered: the block's namespace has just been laid at the heap's end -/
theorem mR (I:Inv X pins σ H s)(S:aA sc X.env.scope)(hc:bT sc src N' X.N=true)(hf:∀b∈fp,cq X pins H b)(ho:∀b∈fp,∃o,s.heap.get? b=some o){h₁:Heap}{tk:Nat}
   (hn:h₁.Ns s.heap.objs.size (fun _=>none)) (hk:∀b o,s.heap.get? b=some o->h₁.get? b=some o) :
   Inv (dI X N' sc s H s.heap.objs.size fp xe) [] (capσ src σ) H { s with heap:=h₁,toks:=tk }:=by
 have cellmem:∀x c,(eS sc X.env).lookup x=some c->X.env.cells.lookup x=some c:=fun x c e=>(mN (Eo e)).2
 have isfree:∀x,((compEnvC sc (eS sc X.env) s.heap.objs.size X.env).kindOf x=some .cell\/(compEnvC sc (eS sc X.env) s.heap.objs.size X.env).kindOf x=some .free)->(x,Ee)∈sc.names:=fun x hx=>by
   rw [jV] at hx
   cases q:sc.names.lookup x with
   | none=>rw [q] at hx; simp at hx
   | some k=>
     have hm:=Eo q
     by_cases hkf:k=.free
     · subst hkf; exact hm
     · have:(k == Ee)=false:=by simpa using hkf
       have e2:(k == Ee && X.env.scope.kind == .function && X.env.kindOf x == some .cell)=false:=by rw [this]; rfl
       rw [q,EC,e2] at hx
       have hx':(some k:Option NameKind)=some .cell\/(some k:Option NameKind)=some .free:=hx
       rcases hx' with hx | hx
       · exact absurd (D2 hx) (S.cell _ hm)
       · exact absurd (D2 hx) hkf
 have has:∀x,(x,Ee)∈sc.names->∃c,X.env.cells.lookup x=some c:=fun x hm=>I.ok.has x (S.free _ hm rfl)
 refine ⟨⟨I.ok.mod,S.kind,I.ok.glob,I.ok.blt,DJ _,fun x y c h1 h2=>I.ok.inj x y c (cellmem x c h1) (cellmem y c h2),fun x hx=>?_,fun x c hfn _=>?_,I.ok.hd,I.ok.frames,.inl rfl,fun b hb=>⟨?_,fun x c e=>?_⟩,I.bs,Eb I.ok.bsz I.sz,fun b o e hb=>?_,fun b hb hs=>?_,I.stack,I.stkFree⟩,
   rfl,I.bare,Un.kept hk,⟨_,hn,fun i x v h1 h2 h3=>?_⟩,fun x c e=>?_,I.hok.fresh (DJ _),fun x c e=>I.freeC x c (cellmem x c e),fun p hp=>absurd (show p∈([]:List (Addr×Obj)) from hp) (by simp),I.hok.kept hk,?_⟩
 · obtain ⟨c,e⟩:=has x (isfree x hx)
   exact ⟨c,jU (isfree x hx) e⟩
 · exact absurd (show false=true from hfn) (by simp)
 · obtain ⟨o,e⟩:=ho b hb
   exact Ea (DL e)
 · exact (hf b hb).2.2.2.2.1 x c (cellmem x c e)
 · rcases (hf b hb).2.2.2.1 with z | z
   · exact I.ok.noex b o e z
   · exact absurd (DZ (DL e) (Eb I.ok.bsz z)) (Fg _)
 · rcases List.mem_cons.mp (I.stkSub b hs) with z | z
   · exact (hf b hb).2.1 z
   · exact (hf b hb).2.2.1 z
 · -- a captured name
   have h2':(capσ src σ)[i]? = some (some v):=h2
   unfold capσ at h2'
   rw [Ed] at h2'
   cases q:src[i]? with
   | none=>rw [q] at h2'; cases h2'
   | some o=>
     rw [q] at h2'
     cases o with
     | none=>simp at h2'
     | some j=>
       obtain ⟨hj,hfr⟩:=vo hc q h1
       have hσ:σ[j]? = some (some v):=by
         simp only [EC,Option.some.injEq] at h2'
         cases r:σ[j]? with
         | none=>rw [r] at h2'; cases h2'
         | some w=>rw [r] at h2'; rw [← h2']
       have hm:=Eo hfr
       have hout:=S.free _ hm rfl
       obtain ⟨m,_,hl⟩:=I.loc
       obtain ⟨u,ru,lk⟩:=hl j x v hj hσ (Or.inr hout)
       refine ⟨u,ru,.inr ⟨?_,?_⟩⟩
       · show (compEnvC sc (eS sc X.env) s.heap.objs.size X.env).kindOf x=some .cell\/(compEnvC sc (eS sc X.env) s.heap.objs.size X.env).kindOf x=some .free
         rw [jV,hfr]
         by_cases z:(Ee == Ee && X.env.scope.kind == .function && X.env.kindOf x == some .cell)=true
         · exact .inl (by simp only [EC,z,if_true])
         · exact .inr (by simp only [EC,z,if_false,Et])
       · rcases lk with ⟨z,_⟩ | ⟨_,c,e,z⟩
         · have z':X.env.scope.names.lookup x=some .local:=z
           rcases hout with y | y <;> (rw [z'] at y; cases y)
         · obtain ⟨oc,hoc,hd⟩:=z
           exact ⟨c,jU hm e,oc,hk c oc hoc,hd⟩
 · obtain ⟨v,oc,hoc,hd⟩:=I.cell x c (cellmem x c e)
   exact ⟨v,oc,hk c oc hoc,hd⟩
 · show (capσ src σ).length=N'.length
   unfold capσ
   rw [DC]
   exact rQ hc
/-- left: the block's end is a state of the def's body again; the namespace may still be changed -/
theorem mS {H':Hp}{σ':St}{s':Shared}(I:Inv X pins σ H s)(hf:∀b∈fp,cq X pins H b)(I':Inv (dI X N' sc s H s.heap.objs.size fp xe) [] σ' H' s'):Inv X pins σ H' s':=
 I.call' I'.os I'.base I'.hok I'.bare fun b hb=>⟨(hf b hb).2.2.2.1,(hf b hb).2.1,(hf b hb).2.2.2.2.1,(hf b hb).2.2.2.2.2⟩
theorem vt {H':Hp}{σ':St}{s':Shared}(I':Inv (dI X N' sc s H s.heap.objs.size fp xe) [] σ' H' s'):∃m,s'.heap.Ns s.heap.objs.size m:=let ⟨m,hn,_⟩:=I'.loc; ⟨m,hn⟩
theorem p4 {H1:Hp}{σ1:St}{s1:Shared}{h':Heap}(I:Inv X pins σ H s)(I1:Inv X pins σ1 H1 s1)(hn:H1 s.heap.objs.size=none)(hs:Ey s.heap.objs.size s1.heap h'):Inv X pins σ1 H1 { s1 with heap:=h' }:=by
 obtain ⟨f0,f1,f2,f3,f4,f5⟩:=I.fpOk (H':=H1) (DJ _) hn
 exact I1.turned (t':=s1.toks) (fun b o hb e=>(hs.2 b hb).trans e) f0 f1 f3 f4 f5
end
end L2
set_option Elab.async false
set_option linter.all false
set_option maxRecDepth 100000
namespace L2
open PySem PySem.Spec PyProof.Rows

/-! ### a comprehension's loop -/
/-- what a turn gives over: the values of the second where the first one has any -/
def aT:St->St->Prop
 | [],[]=>True
 | none :: r,_ :: r'=>aT r r'
 | some v :: r,u :: r'=>u=some v/\aT r r'
 | _,_=>False
theorem aT.len:∀{a b:St},aT a b->a.length=b.length
 | [],[],_=>rfl
 | [],_ :: _,h=>h.elim
 | none :: _,[],h=>h.elim
 | some _ :: _,[],h=>h.elim
 | none :: r,_ :: r',h=>by
   have h':aT r r':=h
   rw [D6,D6,h'.len]
 | some v :: r,u :: r',h=>by
   have h':u=some v/\aT r r':=h
   rw [D6,D6,h'.2.len]
theorem aT.get:∀{a b:St},aT a b->∀(i:Nat) (v:V),a[i]? = some (some v)->b[i]? = some (some v)
 | [],[],_,i,v,e=>by simp at e
 | [],_ :: _,h,_,_,_=>h.elim
 | none :: _,[],h,_,_,_=>h.elim
 | some _ :: _,[],h,_,_,_=>h.elim
 | none :: r,_ :: r',h,0,v,e=>by simp at e
 | none :: r,_ :: r',h,i + 1,v,e=>by
   have h':aT r r':=h
   simpa using h'.get i v (by simpa using e)
 | some w :: r,u :: r',h,0,v,e=>by
   have h':u=some w/\aT r r':=h
   simp at e
   subst e
   simp [h'.1]
 | some w :: r,u :: r',h,i + 1,v,e=>by
   have h':u=some w/\aT r r':=h
   simpa using h'.2.get i v (by simpa using e)

/-- the tests of a clause -/
def jF (X:Cx)(cs:List Expr)(t:TT):Prop:=
 ∀(pins:List (Addr×Obj)) (s:Shared) (σ:St) (H:Hp) (Q:Bool->Hp->Prop),Inv X pins σ H s->t σ H Q ->
   wpAny (model X.prog X.w) X.A (forIn cs true fun c r=>if r=true then do let ok ← isTrue c X.env (eval c X.env); pure (EZ ok) else pure (EZ r)) (TP X pins σ Q) X.xe s
def zK:TT:=fun _ H Q=>Q true H
theorem Ck {X:Cx}:jF X [] zK:=fun _ _ _ H _ I h=>wpAny_tests_nil ⟨H,I,h⟩
theorem Cm {X:Cx}{c:Expr}{t:TT}(h:PT X c t):jF X [c] t:=fun pins s σ H Q I q=>wpAny_tests_one (h pins s σ H Q I q)
/-- what a turn does with what it has made -/
abbrev TM:=St->Hp->(Hp->Prop)->Prop
def zX (X:Cx)(m:Sem Unit)(t:TM):Prop:=
 ∀(pins:List (Addr×Obj)) (s:Shared) (σ:St) (H:Hp) (Q:Hp->Prop),Inv X pins σ H s->t σ H Q ->
   wpAny (model X.prog X.w) X.A m (fun _ s'=>∃H',Inv X pins σ H' s'/\Q H') X.xe s
/-- one turn -/
def oj (tg:Expr)(ipos:Pos)(ifs:List Expr)(it:Value)(env:Env)(cont:Sem Unit)(more:Sem Fin):Sem Fin:=do
 standAt ipos
 match ← pyNext it with
 | none=>pure (.done .next)
 | some v=>
   letOwnedTupleGo tg it v
   assign tg env v
   let mut ok:=true
   for c in ifs do
     if ok then ok ← isTrue c env (eval c env)
   if ok then cont
   more
/-- W: by the turn and a measure; σ0: what each turn begins with -/
def jy (J:It)(σ0:St)(g:TG)(tifs:TT)(tm:TM)(Z:Hp->Prop)(H:Hp):Prop:=
 ∃W:Nat->Nat->Hp->Prop,(∃m,W 0 m H)/\∀i m H,W i m H->(J.stop i H/\Z H) \/
   (J.go i H/\∀x H',J.yld i H x H'->g x σ0 H' fun σ2 H2=>tifs σ2 H2 fun b H3=>
     if b=true then tm σ2 H3 fun H4=>aT σ0 σ2/\∃m',m' < m/\W (i + 1) m' H4 else aT σ0 σ2/\∃m',m' < m/\W (i + 1) m' H3)

section
variable {X:Cx}{e tg:Expr}{ipos:Pos}{ifs:List Expr}{depth:Nat}{acc:Value}{cont:Sem Unit}{it:Addr}{fp:List Addr}{tn:Nat->Heap->Prop}{J:It}{g:TG}{tifs:TT}{tm:TM}{σ0:St}{Z:Hp->Prop}{R:Result->Shared->Prop}
theorem p7 (hX:X.xe=notedBy (model X.prog X.w) X.A X.env fun e s'=>R (.error e) s')
   (heq:compTurn e depth (.ref it) acc X.env=oj tg ipos ifs (.ref it) X.env cont (again (.compLoop e depth (.ref it) acc X.env)))
   (hq:(FC e depth (.ref it) acc X.env).quiet=true) (hA:X.A.under (.compLoop e depth (.ref it) acc X.env)=X.A) (hF:(FC e depth (.ref it) acc X.env).isFrame=false)
   (hc:X.calm=true) (T:Turn X.prog X.w X.K tg J fp it tn) (hg:PG X tg g) (hif:jF X ifs tifs) (hm:zX X cont tm)
   {pins:List (Addr×Obj)} {H:Hp} {s:Shared} (hf:∀b∈fp,cq X pins H b) (I:Inv X pins σ0 H s) (st:tn 0 s.heap)
   (hZ:∀H' s',Inv X pins σ0 H' s'->(∀b∈fp,H' b=none)->Z H'->R (.ok .next) s') (h:jy J σ0 g tifs tm Z H) :
   codeAny (model X.prog X.w) X.A (.compLoop e depth (.ref it) acc X.env) R s:=by
 obtain ⟨W,⟨m0,w0⟩,turn⟩:=h
 have stat:∀{H':Hp},(∀b∈fp,H' b=none)->∀b∈fp,cq X pins H' b:=fun hn b hb=>⟨hn b hb,(hf b hb).2⟩
 refine codeAny_loop hq (fun n s'=>∃i H',Inv X pins σ0 H' s'/\tn i s'.heap/\(∀b∈fp,H' b=none)/\W i n H') ?_ m0 ⟨0,H,I,st,fun b hb=>(hf b hb).1,w0⟩
 rintro n s3 ⟨i,H3,I3,st3,fr3,w3⟩
 rw [hA]
 have hden:(model X.prog X.w).den (.compLoop e depth (.ref it) acc X.env)=(compTurn e depth (.ref it) acc X.env).onRaise (fun x=>do noteFrame x X.env; theTreesLotGoes x):=by
   show (if (FC e depth (.ref it) acc X.env).isFrame then _ else _)=_
   rw [if_neg (by rw [hF]; decide)]
 rw [hden]
 refine wpAny_noted ?_
 rw [← hX,heq]
 unfold oj
 refine wpAny_bind (wpAny_standAt ?_)
 have again':∀{σ7:St} {H7:Hp} {s5 s7:Shared},tn (i + 1) s5.heap->Inv X (pins++ji fp s5.heap) σ7 H7 s7->aT σ0 σ7->(∃m',m' < n/\W (i + 1) m' H7) ->
     ∃m,m < n/\∃i H',Inv X pins σ0 H' s7/\tn i s7.heap/\(∀b∈fp,H' b=none)/\W i m H':=fun {σ7 H7 s5 s7} st5 I7 k7 ⟨m',hm',w7⟩=>by
   refine ⟨m',hm',i + 1,H7,I7.unpinned.weak k7.len k7.get,T.keep _ _ _ st5 fun b hb o e=>(I7.pin (b,o) (Eh _ (Eh _ (dt hb e)))).1,fun b hb=>?_,w7⟩
   obtain ⟨o,e,d⟩:=T.obj _ _ st5 b hb
   exact (I7.pin (b,o) (Eh _ (Eh _ (dt hb e)))).2.1
 rcases turn i n H3 w3 with ⟨stop,qn⟩ | ⟨go,step⟩
 · refine wpAny_bind (aX (T.done X rfl rfl rfl hc i pins s3 σ0 H3 X.xe I3 (stat fr3) st3 stop) fun r s4 ⟨hr,I4⟩=>?_)
   subst hr
   exact wpAny_pure (hZ H3 s4 I4 fr3 qn)
 · refine wpAny_bind (aX (T.item X rfl rfl rfl hc i pins s3 σ0 H3 X.xe I3 (stat fr3) st3 go) fun r s4 ⟨u,hr,h4⟩=>?_)
   subst hr
   refine wpAny_bind (aX h4 fun _ s5 ⟨x,H5,I5,r5,y5,st5,fr5⟩=>?_)
   have I5':=I5.pinned (stat fr5) (T.obj _ _ st5)
   refine wpAny_bind (aX (hg _ s5 σ0 H5 x u _ I5' r5 (step x H5 y5)) fun _ s6 ⟨σ6,H6,I6,q6⟩=>?_)
   refine wpAny_bind (aX (hif _ s6 σ6 H6 _ I6 q6) fun b s7 ⟨H7,I7,q7⟩=>?_)
   cases b with
   | false=>
     obtain ⟨k7,w7⟩:=q7
     exact wpAny_pure ⟨rfl,again' st5 I7 k7 w7⟩
   | true=>
     refine wpAny_bind (aX (hm _ s7 σ6 H7 _ I7 q7) fun _ s8 ⟨H8,I8,k8,w8⟩=>?_)
     exact wpAny_pure ⟨rfl,again' st5 I8 k8 w8⟩
end
end L2
set_option Elab.async false
set_option linter.all false
set_option maxRecDepth 100000
namespace L2
open PySem PySem.Spec PyProof.Rows

/-- what a comprehension needs of its kind: its loop's turn and its start -/
structure dJ (P:Program)(w:World)(A:Around)(e:Expr)(tg iter:Expr)(ifs:List Expr)(emit:Addr->Env->Sem Unit):Prop where
 cl:clausesOf e=[⟨tg,iter,ifs,0⟩]
 turn:∀it D env,compTurn e 0 (.ref it) (.ref D) env=oj tg iter.pos ifs (.ref it) env (emit D env) (again (.compLoop e 0 (.ref it) (.ref D) env))
 start:∀(R:Result->Shared->Prop) (s:Shared) (it acc:Value) (env:Env),codeAny (model P w) A (.compLoop e 0 it acc env) R s ->
   wpAny (model P w) A (pyIter it) (fun it' s'=>codeAny (model P w) A (.compLoop e 0 it' acc env) R s') (notedBy (model P w) A env fun x s'=>R (.error x) s') s->codeAny (model P w) A (.compStart e 0 it acc env) R s
 quiet:∀it acc env,(FC e 0 it acc env).quiet=true
 under:∀it acc env,A.under (.compLoop e 0 it acc env)=A
 frame:∀it acc env,(FC e 0 it acc env).isFrame=false

theorem oI {P:Program}{w:World}{A:Around}{elt tg iter:Expr}{ifs:List Expr}{sc:Scope}{pos:Pos} :
   dJ P w A (.ListComp elt [⟨tg,iter,ifs,0⟩] sc pos) tg iter ifs (fun D env=>do let _ ← call (.builtin "list.append") [.ref D,← eval elt env]) where
 cl:=rfl
 turn:=fun it D env=>by rw [compTurn_list]; rfl
 start:=fun R s it acc env h0 h=>codeAny_compStart_list h0 h
 quiet:=fun _ _ _=>rfl
 under:=fun _ _ _=>rfl
 frame:=fun _ _ _=>rfl
theorem vq {P:Program}{w:World}{A:Around}{kx vx tg iter:Expr}{ifs:List Expr}{sc:Scope}{pos:Pos} :
   dJ P w A (.DictComp kx vx [⟨tg,iter,ifs,0⟩] sc pos) tg iter ifs (fun D env=>do
     let kv ← eval kx env
     let vv ← holding [kv] (eval vx env)
     standAt { kx.pos with endLine:=vx.pos.endLine,endCol:=vx.pos.endCol }
     holding [kv,vv] (dictSet D kv vv)) where
 cl:=rfl
 turn:=fun it D env=>by rw [compTurn_dict]; rfl
 start:=fun R s it acc env h0 h=>codeAny_compStart_dict h0 h
 quiet:=fun _ _ _=>rfl
 under:=fun _ _ _=>rfl
 frame:=fun _ _ _=>rfl

section
variable {X:Cx}{e tg iter:Expr}{ifs:List Expr}{emit:Addr->Env->Sem Unit}{sc:Scope}{pos:Pos}{wi:TI}{N':List Str}{src:List (Option Nat)}{g:TG}{tifs:TT}{tm:Addr->TM}{newAcc:Sem Value}{ob:Obj}{accO:HO}
/-- a comprehension: the accumulator at D (it begins as accO) -/
def dE (src:List (Option Nat))(accO:HO)(wi:TI)(g:TG)(tifs:TT)(tm:Addr->TM):TE:=
 fun σ H Q=>wi σ H fun J H1=>∀D,H1 D=none->jy J (capσ src σ) g tifs (tm D) (fun H'=>Q (.ref D) H') (upd H1 D accO)
/-- the accumulator that is laid -/
structure iJ (X:Cx)(newAcc:Sem Value)(ob:Obj)(accO:HO):Prop where
 new:∀(s:Shared) (Q:Value->Shared->Prop) (E:Value->Shared->Prop),Q (.ref s.heap.objs.size) { s with heap:=s.heap.push ob }->wpAny (model X.prog X.w) X.A newAcc Q E s
 live:ob.isFreed=false
 ok:∀(pins:List (Addr×Obj)) (σ:St) (H:Hp) (s:Shared),Inv X pins σ H s->aP X.prog X.w (upd H s.heap.objs.size accO) (s.heap.push ob) s.heap.objs.size accO

theorem lD {use:Option (Value->Sem Unit)}{Q':Value->Shared->Prop}(K:dJ X.prog X.w X.A e tg iter ifs emit)(hc:X.calm=true)(S:aA sc X.env.scope)(hcap:bT sc src N' X.N=true)(hi:PI X tg iter wi)
   (hb:∀s H C fp xe D,PG (dI X N' sc s H C fp xe) tg g/\jF (dI X N' sc s H C fp xe) ifs tifs/\zX (dI X N' sc s H C fp xe) (emit D (dI X N' sc s H C fp xe).env) (tm D)) (N:iJ X newAcc ob accO)
   (hs:∀x,foldedSetIterable iter X.env x=pure x)
   {pins:List (Addr×Obj)} {s:Shared} {σ:St} {H:Hp} {Q:VK} (I:Inv X pins σ H s) (h:dE src accO wi g tifs tm σ H Q)
   (hQ:∀(C D:Addr) (H':Hp) (s':Shared),Inv X pins σ H' s'->Q (.ref D) H'->H' C=none->(∃m,s'.heap.Ns C m)->(∀(σ1:St) (H1:Hp) (s1:Shared) (h':Heap),Inv X pins σ1 H1 s1->H1 C=none->Ey C s1.heap h'->Inv X pins σ1 H1 { s1 with heap:=h' }) ->
     (C≠X.env.locals/\∀x c,X.env.cells.lookup x=some c->c≠C)->compPost (model X.prog X.w) X.A X.xe use Q' (.ref D) C (.ok .next) s') :
   wpAny (model X.prog X.w) X.A (comprehension e sc X.env pos newAcc false (eval iter X.env) use) Q' X.xe s:=by
 refine wpAny_comprehension_free (g:=⟨tg,iter,ifs,0⟩) (gs:=[]) K.cl hs (mO fun p hp hf=>I.ok.has p.1 (S.free p hp hf)) S.kind S.names ?_
 refine aX (hi pins s σ H _ I h) fun v s1 h1=>aX h1 fun itv s2 h2=>?_
 obtain ⟨it,fp,tn,J,H2,e1,I2,T,st2,f2,q2⟩:=h2
 subst e1
 refine N.new s2 _ _ ?_
 have hD:H2 s2.heap.objs.size=none:=I2.hok.fresh (DJ _)
 have hk3:∀b o,s2.heap.get? b=some o->(s2.heap.push ob).get? b=some o:=fun b o e=>DK _ e
 have I3:Inv X pins σ (upd H2 s2.heap.objs.size accO) { s2 with heap:=s2.heap.push ob }:=I2.laid (t':=s2.toks) hk3 (DJ _) (N.ok pins σ H2 s2 I2)
 have st3:tn 0 (s2.heap.push ob):=T.keep _ _ _ st2 fun b _ o e=>hk3 b o e
 have ob3:∀b∈fp,∃o,(s2.heap.push ob).get? b=some o:=fun b hb=>let ⟨o,e,_⟩:=T.obj _ _ st3 b hb; ⟨o,e⟩
 have f3:∀b∈fp,cq X pins (upd H2 s2.heap.objs.size accO) b:=fun b hb=>by
   refine ⟨?_,(f2 b hb).2⟩
   obtain ⟨o,e,_⟩:=T.obj _ _ st2 b hb
   rw [aj (Ea (DL e))]
   exact (f2 b hb).1
 have qq:=q2 s2.heap.objs.size hD
 generalize hs3:({ s2 with heap:=s2.heap.push ob }:Shared)=s3 at I3 ⊢
 have hh3:s2.heap.push ob=s3.heap:=by rw [← hs3]
 rw [hh3] at st3 ob3
 generalize s2.heap.objs.size=D at I3 f3 qq hD ⊢
 refine wpAny_newFunctionEnv S.cell (by intro y hy; simp at hy) (fun h₁ hns hsb=>?_) S.kind
 have hns':h₁.Ns s3.heap.objs.size (fun _=>none):=hns
 have hk4:∀b o,s3.heap.get? b=some o->h₁.get? b=some o:=fun b o e=>hsb.extBut b o (Ea (DL e)) (DK _ e)
 -- the block
 let R:Result->Shared->Prop:=compPost (model X.prog X.w) X.A X.xe use Q' (.ref D) s3.heap.objs.size
 let X':Cx:=dI X N' sc s3 (upd H2 D accO) s3.heap.objs.size fp (notedBy (model X.prog X.w) X.A (compEnvC sc (eS sc X.env) s3.heap.objs.size X.env) fun e s'=>R (.error e) s')
 have I4:Inv X' [] (capσ src σ) (upd H2 D accO) { s3 with heap:=h₁,toks:=s3.toks + ([]:List (Str×Value)).length }:=mR I3 S hcap f3 ob3 hns' hk4
 have st4:tn 0 h₁:=T.keep _ _ _ st3 fun b _ o e=>hk4 b o e
 obtain ⟨hg,hif,hm⟩:=hb s3 (upd H2 D accO) s3.heap.objs.size fp (notedBy (model X.prog X.w) X.A (compEnvC sc (eS sc X.env) s3.heap.objs.size X.env) fun e s'=>R (.error e) s') D
 have f4:∀b∈fp,cq X' [] (upd H2 D accO) b:=fun b hb=>by
   obtain ⟨g0,g1,g2,g3,g4,g5⟩:=f3 b hb
   refine ⟨g0,?_,?_,.inl hb,fun x c e=>?_,fun p hp=>absurd (show p∈([]:List (Addr×Obj)) from hp) (by simp)⟩
   · obtain ⟨o,e⟩:=ob3 b hb
     exact Ea (DL e)
   · intro z
     rcases List.mem_cons.mp (I3.stkSub b z) with y | y
     · exact g1 y
     · exact g2 y
   · exact g4 x c (mN (Eo e)).2
 have fpC:cq X pins (upd H2 D accO) s3.heap.objs.size:=I3.fpOk (DJ _) (I3.hok.fresh (DJ _))
 have loop:∀s4:Shared,s4={ s3 with heap:=h₁,toks:=s3.toks + ([]:List (Str×Value)).length }->codeAny (model X.prog X.w) X.A (.compLoop e 0 (.ref it) (.ref D) X'.env) R s4:=by
   rintro s4 rfl
   refine p7 (X:=X') (Z:=fun H'=>Q (.ref D) H') rfl (K.turn it D X'.env) (K.quiet _ _ _) (K.under _ _ _) (K.frame _ _ _) hc T hg hif hm f4 I4 st4 (fun H' s' I' _ z=>?_) qq
   refine hQ s3.heap.objs.size D H' s' (mS I3 f3 I') z I'.free (vt I') (fun σ1 H1 s1 h' I1 n1 hs1=>p4 I3 I1 n1 hs1) ⟨fpC.2.1,fun x c e=>fpC.2.2.2.2.1 x c e⟩
 exact K.start R _ (.ref it) (.ref D) X'.env (loop _ rfl) (T.self X.A 0 _ _ _ st4 (loop _ rfl))

/-- as an expression -/
theorem pk (K:dJ X.prog X.w X.A e tg iter ifs emit)(hc:X.calm=true)(S:aA sc X.env.scope)(hcap:bT sc src N' X.N=true)(hi:PI X tg iter wi)
   (hb:∀s H C fp xe D,PG (dI X N' sc s H C fp xe) tg g/\jF (dI X N' sc s H C fp xe) ifs tifs/\zX (dI X N' sc s H C fp xe) (emit D (dI X N' sc s H C fp xe).env) (tm D)) (N:iJ X newAcc ob accO)
   (hs:∀x,foldedSetIterable iter X.env x=pure x) (he:eval e X.env=comprehension e sc X.env pos newAcc false (eval iter X.env)):PE X e (dE src accO wi g tifs tm):=by
 intro pins s σ H Q I h
 rw [he]
 refine lD (use:=none) (Q:=Q) K hc S hcap hi hb N hs I h fun C D H' s' I' q hn ⟨m,hm⟩ gone _=>?_
 exact ⟨m,hm,fun h' hs'=>⟨.ref D,H',gone σ H' s' h' I' hn hs',rfl,q⟩⟩
/-- as name=[..],where the store comes ahead of the variables' end -/
theorem wM {i:Nat}{x:Str}{pos' pos2:Pos}(K:dJ X.prog X.w X.A e tg iter ifs emit)(hc:X.calm=true)(S:aA sc X.env.scope)(hcap:bT sc src N' X.N=true)(hi:PI X tg iter wi)
   (hb:∀s H C fp xe D,PG (dI X N' sc s H C fp xe) tg g/\jF (dI X N' sc s H C fp xe) ifs tifs/\zX (dI X N' sc s H C fp xe) (emit D (dI X N' sc s H C fp xe).env) (tm D)) (N:iJ X newAcc ob accO)
   (hs:∀x,foldedSetIterable iter X.env x=pure x) (he:∀u,evalThenUse e X.env u=(do let _ ← comprehension e sc X.env pos newAcc false (eval iter X.env) (some u)))
   (hN:X.N.Nodup) (hix:X.N[i]? = some x) (hx:Loc X.env.scope x) (hsw:swapsWith e (some (.Name x pos')) pos2.line X.env=pure true)
   (hf:X.fn x=true\/X.env.scope.names.lookup x=some .local:=by first | exact .inl rfl | exact .inr rfl | assumption) :
   PS X (.Assign [.Name x pos'] e pos2) (oh (dE src accO wi g tifs tm) (gS i)):=by
 intro pins s σ H D0 I h
 rw [exec_Assign_Name_used x pos' e pos2 hsw,he]
 refine wpAny_bind (wpAny_standAt (wpAny_bind (wpAny_bind ?_)))
 refine lD (use:=some (assign (.Name x pos') X.env)) (Q:=fun v H'=>D0.nx (σ.set i (some v)) H') (Q':=fun _ s'=>wpAny _ _ _ _ _ s') K hc S hcap hi hb N hs I h fun C D H' s' I' q hn ⟨m,hm⟩ gone ⟨hCL,hCc⟩=>?_
 refine wpAny_assign_Name (kd (v:=.ref D) I' hN hix hx rfl (fun s2 I2 hch=>?_) hf)
 obtain ⟨a,hsb,ha⟩:=hch
 have hne:C≠a:=by
   rcases ha with z | z
   · rw [z]; exact hCL
   · exact (hCc x a z).symm
 refine ⟨m,hm.sameBut hsb hne,fun h' hs'=>?_⟩
 exact wpAny_pure (wpAny_pure ⟨_,H',gone _ H' s2 h' I2 hn hs',q⟩)
end

section
variable {X:Cx}{elt kx vx:Expr}{te tk tv:TE}
/-- the element is put behind the list at D -/
def dR (te:TE)(D:Addr):TM:=fun σ H K=>te σ H fun y H1=>∃ys,H1 D=some (.lst ys)/\ys.length < sizeLine/\K (upd H1 D (.lst (ys++[y])))
theorem ur (h:PE X elt te)(D:Addr):zX X (do let _ ← call (.builtin "list.append") [.ref D,← eval elt X.env]) (dR te D):=by
 intro pins s σ H Q I q
 refine wpAny_bind (aX (h pins s σ H _ I q) fun u s1 ⟨y,H1,I1,ru,ys,e,z,k⟩=>?_)
 refine wpAny_bind (aX (j7 pins s1 σ H1 (.ref D) [y] (.ref D) [u] (fun _ H'=>Q H') I1 rfl (.cons ru .nil) ⟨D,ys,y,rfl,rfl,e,z,k⟩) fun r s2 ⟨v,H2,I2,_,k2⟩=>?_)
 exact wpAny_pure ⟨H2,I2,k2⟩
theorem qb {pins:List (Addr×Obj)}{σ:St}{H H':Hp}{s:Shared}{a:Addr}{y v:V}{u r:Value}{A:Around}{E:Value->Shared->Prop}{Q:Unit->Shared->Prop}(hu:A.units + 1 < cLine)(I:Inv X pins σ H s)(g:lh H a y v H')(ry:RelV y u)(rv:RelV v r)(h:∀s',Inv X pins σ H' s'->Q () s') :
   wpAny (model X.prog X.w) A (dictSet a u r) Q E s:=by
 rcases g with ⟨kvs,k,e,ey,l,eH⟩ | ⟨kvs,k,b,e,ey,eb,l,eH⟩
 · subst ey eH
   obtain ⟨z,hd,vs,rel,dd⟩:=oP I.hok e
   have hz:vs.length<=sizeLine:=by rw [← rel.length]; exact z
   have hl:(putK kvs k v).length<=sizeLine:=by have:=bO kvs k v; omega
   refine wpAny_dictSet_pairs (hsz:=hz) (gU ry) dd fun h' dd' hs=>h _ ?_
   have he:∃q,h'.get? a=some q:=let ⟨q,_,_,hq,_⟩:=dd'; ⟨q,hq⟩
   exact dm I (by rw [e]; exact DV) hs he (ku hl hd (rel.put k rv) dd')
 · subst ey eH
   cases (show u=D8 b from ry)
   obtain ⟨z,hd,xs,rel,dd⟩:=xp I.hok e
   have hz:xs.length<=sizeLine:=by rw [← Paired.length rel]; exact z
   have hl:(putK kvs k v).length<=sizeLine:=by have:=bO kvs k v; omega
   have hroom:(tupleKind (aD X.prog X.w)).room A:=show A.units < cLine by omega
   refine wpAny_dictSet_heap (hsz:=hz) hroom (gG I.hok eb) dd fun h' dd' hs=>h _ ?_
   obtain ⟨q,es,ep,hq,h2,h3,h4,_,h5⟩:=dd'
   refine dm I (by rw [e]; exact DV) hs ⟨q,hq⟩ ⟨hl,hd,_,(rel.put k eb rv).keeps fun c ys ec=>?_,q,es,ep,hq,h2,h3,h4,h5⟩
   rw [aj (cA ec e (fun z=>nomatch z))]
   exact ec
/-- the pair is put into the dict at D -/
def vT (tk tv:TE)(D:Addr):TM:=fun σ H K=>tk σ H fun y H1=>tv σ H1 fun v H2=>∃H3,lh H2 D y v H3/\K H3
theorem zo (hu:X.A.units + 1 < cLine)(hk:PE X kx tk)(hv:PE X vx tv)(D:Addr):zX X (do
     let kv ← eval kx X.env
     let vv ← holding [kv] (eval vx X.env)
     standAt { kx.pos with endLine:=vx.pos.endLine,endCol:=vx.pos.endCol }
     holding [kv,vv] (dictSet D kv vv)) (vT tk tv D):=by
 intro pins s σ H Q I q
 refine wpAny_bind (aX (hk pins s σ H _ I q) fun u s1 ⟨y,H1,I1,ru,q1⟩=>?_)
 refine wpAny_bind (wpAny_holding (aX (hv pins s1 σ H1 _ I1 q1) fun r s2 ⟨v,H2,I2,rv,H3,g,q2⟩=>?_))
 exact wpAny_bind (wpAny_standAt (wpAny_holding (qb hu I2 g ru rv fun s3 I3=>⟨H3,I3,q2⟩)))
theorem yb:iJ X newDict { cls:=.type "dict",data:=.dict #[] } (.dT []) where
 new:=fun s Q E h=>wpAny_newObj_type h
 live:=rfl
 ok:=fun pins σ H s I=>lI s.heap I.big
theorem lq:iJ X (newList []) { cls:=.type "list",data:=.seq #[] } (.lst []) where
 new:=fun s Q E h=>wpAny_newObj_type h
 live:=rfl
 ok:=fun pins σ H s I=>⟨Ep _,[],0,.nil,DY _ rfl⟩
end

/-! ### the rules one uses -/
section
variable {X:Cx}{elt kx vx tg iter:Expr}{ifs:List Expr}{sc:Scope}{pos:Pos}{wi:TI}{N':List Str}{src:List (Option Nat)}{g:TG}{tifs:TT}{te tk tv:TE}
/-- [elt for tg in iter if ..] -/
theorem A0 (src:List (Option Nat))(N':List Str)(hc:X.calm=true)(S:aA sc X.env.scope)(hcap:bT sc src N' X.N=true)(hi:PI X tg iter wi)
   (hb:∀s H C fp xe,PG (dI X N' sc s H C fp xe) tg g/\jF (dI X N' sc s H C fp xe) ifs tifs/\PE (dI X N' sc s H C fp xe) elt te)
   (hs:∀x,foldedSetIterable iter X.env x=pure x:=by intro _; rfl):PE X (.ListComp elt [⟨tg,iter,ifs,0⟩] sc pos) (dE src (.lst []) wi g tifs (dR te)):=
 pk oI hc S hcap hi (fun s H C fp xe D=>⟨(hb s H C fp xe).1,(hb s H C fp xe).2.1,ur (hb s H C fp xe).2.2 D⟩) lq hs rfl
/-- x=[elt for tg in iter if ..] on one row,x a plain local -/
theorem A5 {i:Nat}{x:Str}{pos' pos2:Pos}(src:List (Option Nat))(N':List Str)(hc:X.calm=true)(S:aA sc X.env.scope)(hcap:bT sc src N' X.N=true)(hi:PI X tg iter wi)
   (hb:∀s H C fp xe,PG (dI X N' sc s H C fp xe) tg g/\jF (dI X N' sc s H C fp xe) ifs tifs/\PE (dI X N' sc s H C fp xe) elt te)
   (hN:X.N.Nodup) (hix:X.N[i]? = some x) (hx:Loc X.env.scope x) (hsw:swapsWith (.ListComp elt [⟨tg,iter,ifs,0⟩] sc pos) (some (.Name x pos')) pos2.line X.env=pure true:=by rfl)
   (hs:∀x,foldedSetIterable iter X.env x=pure x:=by intro _; rfl) (hf:X.fn x=true\/X.env.scope.names.lookup x=some .local:=by first | exact .inl rfl | exact .inr rfl | assumption) :
   PS X (.Assign [.Name x pos'] (.ListComp elt [⟨tg,iter,ifs,0⟩] sc pos) pos2) (oh (dE src (.lst []) wi g tifs (dR te)) (gS i)):=
 wM oI hc S hcap hi (fun s H C fp xe D=>⟨(hb s H C fp xe).1,(hb s H C fp xe).2.1,ur (hb s H C fp xe).2.2 D⟩) lq hs (fun _=>rfl) hN hix hx hsw hf
/-- {kx: vx for tg in iter if ..},to be a dict with tuples as keys -/
theorem y9 (src:List (Option Nat))(N':List Str)(hu:X.A.units + 1 < cLine)(hc:X.calm=true)(S:aA sc X.env.scope)(hcap:bT sc src N' X.N=true)(hi:PI X tg iter wi)
   (hb:∀s H C fp xe,PG (dI X N' sc s H C fp xe) tg g/\jF (dI X N' sc s H C fp xe) ifs tifs/\PE (dI X N' sc s H C fp xe) kx tk/\PE (dI X N' sc s H C fp xe) vx tv)
   (hs:∀x,foldedSetIterable iter X.env x=pure x:=by intro _; rfl):PE X (.DictComp kx vx [⟨tg,iter,ifs,0⟩] sc pos) (dE src (.dT []) wi g tifs (vT tk tv)):=
 pk vq hc S hcap hi (fun s H C fp xe D=>⟨(hb s H C fp xe).1,(hb s H C fp xe).2.1,zo (X:=dI X N' sc s H C fp xe) hu (hb s H C fp xe).2.2.1 (hb s H C fp xe).2.2.2 D⟩) yb hs rfl
end

/-! ### the forms one uses: Pv D i H,by the turn -/
section
variable {K:DA}{a:Addr}{xs:List V}{g:TG}{tifs:TT}{tm:TM}{σ0:St}{Z:Hp->Prop}{H:Hp}
theorem iC (n:Nat){J:It}(Pv:Nat->Hp->Prop)(h0:Pv 0 H)(hgo:∀i H,i < n->Pv i H->J.go i H)(hst:∀H,Pv n H->J.stop n H)
   (turn:∀i H,i < n->Pv i H->∀x H',J.yld i H x H'->g x σ0 H' fun σ2 H2=>tifs σ2 H2 fun b H3=>
     if b=true then tm σ2 H3 fun H4=>aT σ0 σ2/\∃m',m' < n - i/\(m'=n - (i + 1)/\i + 1<=n/\Pv (i + 1) H4) else aT σ0 σ2/\∃m',m' < n - i/\(m'=n - (i + 1)/\i + 1<=n/\Pv (i + 1) H3))
   (hZ:∀H,Pv n H->Z H):jy J σ0 g tifs tm Z H:=by
 refine ⟨fun i m H=>m=n - i/\i<=n/\Pv i H,⟨n,by simp,Ep _,h0⟩,?_⟩
 rintro i m H ⟨rfl,hi,p⟩
 by_cases hlt:i < n
 · exact .inr ⟨hgo i H hlt p,turn i H hlt p⟩
 · have e:i=n:=by omega
   subst e
   exact .inl ⟨hst H p,hZ H p⟩
/-- over a list that stays -/
theorem bu (Pv:Nat->Hp->Prop)(h0:Pv 0 H)(hl:∀i H,i<=xs.length->Pv i H->ao K H a xs)
   (turn:∀i x H,xs[i]? = some x->Pv i H->g x σ0 H fun σ2 H2=>tifs σ2 H2 fun b H3=>
     if b=true then tm σ2 H3 fun H4=>aT σ0 σ2/\∃m',m' < xs.length - i/\(m'=xs.length - (i + 1)/\i + 1<=xs.length/\Pv (i + 1) H4) else aT σ0 σ2/\∃m',m' < xs.length - i/\(m'=xs.length - (i + 1)/\i + 1<=xs.length/\Pv (i + 1) H3))
   (hZ:∀H,Pv xs.length H->Z H):jy (zV K a) σ0 g tifs tm Z H:=by
 refine iC xs.length Pv h0 (fun i H hi p=>⟨xs,xs[i],hl i H (ED hi) p,by simp [hi]⟩) (fun H p=>⟨xs,hl _ H (DJ _) p,DJ _⟩) (fun i H hi p x H' y=>?_) hZ
 obtain ⟨e,y⟩:=y
 subst e
 exact turn i x _ (y xs (hl i _ (ED hi) p)) p
theorem rX (Pv:Nat->Hp->Prop)(h0:Pv 0 H)(hl:∀i H,i<=xs.length->Pv i H->aq K H a xs)
   (turn:∀i x H,xs[i]? = some x->Pv i H->g x σ0 H fun σ2 H2=>tifs σ2 H2 fun b H3=>
     if b=true then tm σ2 H3 fun H4=>aT σ0 σ2/\∃m',m' < xs.length - i/\(m'=xs.length - (i + 1)/\i + 1<=xs.length/\Pv (i + 1) H4) else aT σ0 σ2/\∃m',m' < xs.length - i/\(m'=xs.length - (i + 1)/\i + 1<=xs.length/\Pv (i + 1) H3))
   (hZ:∀H,Pv xs.length H->Z H):jy (BM K a) σ0 g tifs tm Z H:=by
 refine iC xs.length Pv h0 (fun i H hi p=>⟨xs,xs[i],hl i H (ED hi) p,by simp [hi]⟩) (fun H p=>⟨xs,hl _ H (DJ _) p,DJ _⟩) (fun i H hi p x H' y=>?_) hZ
 obtain ⟨e,y⟩:=y
 subst e
 exact turn i x _ (y xs (hl i _ (ED hi) p)) p
theorem iU {lo:Int}{n:Nat}(Pv:Nat->Hp->Prop)(h0:Pv 0 H)
   (turn:∀i H,i < n->Pv i H->g (.int (lo + i)) σ0 H fun σ2 H2=>tifs σ2 H2 fun b H3=>
     if b=true then tm σ2 H3 fun H4=>aT σ0 σ2/\∃m',m' < n - i/\(m'=n - (i + 1)/\i + 1<=n/\Pv (i + 1) H4) else aT σ0 σ2/\∃m',m' < n - i/\(m'=n - (i + 1)/\i + 1<=n/\Pv (i + 1) H3))
   (hZ:∀H,Pv n H->Z H):jy (xU lo n) σ0 g tifs tm Z H:=by
 refine iC n Pv h0 (fun i H hi p=>hi) (fun H p=>DJ _) (fun i H hi p x H' y=>?_) hZ
 obtain ⟨e,y⟩:=y
 subst e y
 exact turn i _ hi p
/-- a turn's end -/
theorem aM {n i:Nat}{P:Prop}{Pv:Nat->Hp->Prop}{H:Hp}(k:P)(hi:i < n)(p:Pv (i + 1) H):P/\∃m',m' < n - i/\(m'=n - (i + 1)/\i + 1<=n/\Pv (i + 1) H):=⟨k,_,by omega,rfl,hi,p⟩
end
end L2
set_option Elab.async false
set_option linter.all false
set_option maxRecDepth 100000
namespace L2
open PySem PySem.Spec PyProof.Rows

section
variable {X:Cx}{pins:List (Addr×Obj)}{σ:St}{H:Hp}{s:Shared}{h':Heap}{ch:List Addr}{a:Addr}{o:HO}
/-- records of ours have turned,and a new object is laid and tracked -/
theorem Inv.many {t':Nat}(I:Inv X pins σ H s)(hch:∀b∈ch,cq X pins H b)(k:∀b ob,b ∉ ch->s.heap.get? b=some ob->h'.get? b=some ob)(hp:s.heap.objs.size<=a)(new:aP X.prog X.w (upd H a o) h' a o) :
   Inv X pins σ (upd H a o) { s with heap:=h',toks:=t' }:=by
 have hn:H a=none:=I.hok.fresh hp
 have na:∀b ob,s.heap.get? b=some ob->b≠a:=fun b ob e=>Ea (DZ (DL e) hp)
 have nch:∀b u,H b=some u->b ∉ ch:=fun b u e z=>by rw [(hch b z).1] at e; cases e
 refine I.step (g':=s.gens) (d':=s.drawn) (ch:=ch) (fun b hb=>⟨(hch b hb).2.2.2.1,(hch b hb).2.1,(hch b hb).2.2.2.2.1,(hch b hb).2.2.2.2.2⟩) (fun b ob _ _ hc e _=>k b ob hc e) (fun b ob _ _ hc e _=>⟨ob.slots,k b ob hc e⟩)
   (fun b ob _ e n=>by rw [aj (na b ob e)]; exact n) (fun b ob hc e=>⟨ob,k b ob hc e⟩) (fun b xs e=>by rw [aj (ai e hn)]; exact e) (fun b ob u e=>by rw [aj (ai e hn)]; exact e)
   (fun b ps e=>⟨#[],by rw [aj (ai e hn),e]; simp⟩) (fun m hm=>?_) (fun b u e=>?_) I.bare
 · obtain ⟨ob,es,ep,ho,r⟩:=hm
   exact ⟨ob,es,ep,k _ ob (fun z=>(hch _ z).2.1 rfl) ho,r⟩
 · by_cases hb:b=a
   · subst hb; rw [ae] at e; cases e; exact new
   · rw [aj hb] at e
     refine (I.hok b u e).stay (fun c v hc q=>k c v ?_ q) (fun c q=>by rw [aj (ai q hn)]; exact q) fun c xs q=>by rw [aj (ai q hn)]; exact q
     rcases hc with z | z
     · subst z; exact nch c u e
     · exact nch c _ z
theorem Inv.many0 {t':Nat}(I:Inv X pins σ H s)(hch:∀b∈ch,cq X pins H b)(k:∀b ob,b ∉ ch->s.heap.get? b=some ob->h'.get? b=some ob) :
   Inv X pins σ H { s with heap:=h',toks:=t' }:=by
 have nch:∀b u,H b=some u->b ∉ ch:=fun b u e z=>by rw [(hch b z).1] at e; cases e
 refine I.step (g':=s.gens) (d':=s.drawn) (ch:=ch) (fun b hb=>⟨(hch b hb).2.2.2.1,(hch b hb).2.1,(hch b hb).2.2.2.2.1,(hch b hb).2.2.2.2.2⟩) (fun b ob _ _ hc e _=>k b ob hc e) (fun b ob _ _ hc e _=>⟨ob.slots,k b ob hc e⟩)
   (fun b ob _ e n=>n) (fun b ob hc e=>⟨ob,k b ob hc e⟩) (fun b xs e=>e) (fun b ob u e=>e)
   (fun b ps e=>⟨#[],by rw [e]; simp⟩) (fun m hm=>?_) (fun b u e=>?_) I.bare
 · obtain ⟨ob,es,ep,ho,r⟩:=hm
   exact ⟨ob,es,ep,k _ ob (fun z=>(hch _ z).2.1 rfl) ho,r⟩
 · refine (I.hok b u e).stay (fun c v hc q=>k c v ?_ q) (fun c q=>q) fun c xs q=>q
   rcases hc with z | z
   · subst z; exact nch c u e
   · exact nch c _ z
end

/-! ### zip of two lists,walked by a tuple of names -/
def zW (K:DA)(a b:Addr):It:=
 ⟨fun i H=>∃xs ys x y,ao K H a xs/\ao K H b ys/\xs[i]? = some x/\ys[i]? = some y,
  fun i H v H'=>∃p x y,H p=none/\v=.ref p/\H'=upd H p (.tup [x,y])/\∀xs ys,ao K H a xs->ao K H b ys->xs[i]? = some x/\ys[i]? = some y,
  fun i H=>∃xs ys,ao K H a xs/\ao K H b ys/\(xs.length<=i\/ys.length<=i)⟩
theorem uU {P:Program}{w:World}{K:DA}{elts:List Expr}{x1:Nat}{tp:Pos}{a b z TI TO i1 i2:Addr}(D:ZipApart z TI TO i1 i2 a b) :
   Turn P w K (.Tuple elts x1 tp) (zW K a b) [z,TI,TO,i1,i2] z (fun i h=>IsZip h z TI TO .none/\IsPair h TI (.ref i1) (.ref i2)/\(∃x y,IsPair h TO x y)/\h.IsListIter i1 a i/\h.IsListIter i2 b i) where
 mem:=by simp
 obj:=fun i h st c hc=>by
   obtain ⟨hz,hTI,⟨x,y,hTO⟩,⟨o1,e1,c1,d1⟩,⟨o2,e2,c2,d2⟩⟩:=st
   simp only [DX,DT,or_false] at hc
   rcases hc with rfl | rfl | rfl | rfl | rfl
   · exact ⟨_,hz,fun v q=>nomatch q⟩
   · exact ⟨_,hTI,fun v q=>nomatch q⟩
   · exact ⟨_,hTO,fun v q=>nomatch q⟩
   · exact ⟨_,e1,fun v q=>by rw [d1] at q; cases q⟩
   · exact ⟨_,e2,fun v q=>by rw [d2] at q; cases q⟩
 keep:=fun i h h' st k=>by
   obtain ⟨hz,hTI,⟨x,y,hTO⟩,h1,h2⟩:=st
   exact ⟨k z (by simp) _ hz,k TI (by simp) _ hTI,⟨x,y,k TO (by simp) _ hTO⟩,h1.at fun o e=>k i1 (by simp) o e,h2.at fun o e=>k i2 (by simp) o e⟩
 item:=by
   intro X hP hw hK hc i pins s σ H E I hf st hg
   subst hP hw hK
   obtain ⟨xs,ys,x,y,hq1,hq2,hx,hy⟩:=hg
   obtain ⟨its1,rv1,p1,_⟩:=I.list hq1
   obtain ⟨its2,rv2,p2,_⟩:=I.list hq2
   obtain ⟨u,hu,ru⟩:=rv1.get hx
   obtain ⟨v,hv,rv⟩:=rv2.get hy
   obtain ⟨hz,hTI,⟨x0,y0,hTO⟩,h1,h2⟩:=st
   refine wpAny_pyNext_zip_item D hz hTI hTO h1 h2 p1.isList p2.isList (x:=u) (y:=v) (by simpa using hu) (by simpa using hv) fun h' a1 a2 a3 a4 a5 a6 hk=>?_
   refine ⟨_,rfl,wpAny_letOwnedTupleGo_zip (s:={ s with heap:=h' }) a1 fun h2' hz' hs'=>?_⟩
   have hT:H s.heap.objs.size=none:=I.hok.fresh (DJ _)
   have ltz:z < s.heap.objs.size:=DL hz
   have kk:∀c o,c ∉ ([z,TO,i1,i2]:List Addr)->s.heap.get? c=some o->h2'.get? c=some o:=fun c o hc' e=>by
     simp only [DX,DT,or_false,not_or] at hc'
     exact hs'.extBut _ _ hc'.1 (hk c o hc'.1 hc'.2.1 hc'.2.2.1 hc'.2.2.2 e)
   have hT2:IsPair h2' s.heap.objs.size u v:=hs'.extBut _ _ (Fs ltz) a5
   have I1:Inv X pins σ (upd H s.heap.objs.size (.tup [x,y])) { s with heap:=h2',toks:=s.toks }:=I.many (ch:=[z,TO,i1,i2]) (fun c hc'=>hf c (by simp only [DX,DT,or_false] at hc' ⊢; rcases hc' with r | r | r | r <;> simp [r])) kk (DJ _)
     ⟨by show 2<=sizeLine; decide,[u,v],.cons ru (.cons rv .nil),_,hT2,rfl,_,rfl⟩
   refine ⟨.ref s.heap.objs.size,_,I1,rfl,⟨_,x,y,hT,rfl,rfl,fun xs' ys' q1 q2=>?_⟩,?_,fun c hc'=>?_⟩
   · rw [I.list_inj q1 hq1,I.list_inj q2 hq2]; exact ⟨hx,hy⟩
   · exact ⟨hz',hs'.extBut _ _ D.TIz (hk _ _ D.TIz D.TITO D.TIi1 D.TIi2 hTI),⟨_,_,hs'.extBut _ _ D.TOz a2⟩,a3.extBut hs'.extBut D.i1z,a4.extBut hs'.extBut D.i2z⟩
   · have lt:c < s.heap.objs.size:=by
       simp only [DX,DT,or_false] at hc'
       rcases hc' with rfl | rfl | rfl | rfl | rfl
       · exact ltz
       · exact DL hTI
       · exact DL hTO
       · obtain ⟨_,e,_⟩:=h1; exact DL e
       · obtain ⟨_,e,_⟩:=h2; exact DL e
     rw [aj (Ea lt)]
     exact (hf c hc').1
 done:=by
   intro X hP hw hK hc i pins s σ H E I hf st hg
   subst hP hw hK
   obtain ⟨xs,ys,hq1,hq2,hend⟩:=hg
   obtain ⟨its1,rv1,p1,_⟩:=I.list hq1
   obtain ⟨its2,rv2,p2,_⟩:=I.list hq2
   have l1:=rv1.length
   have l2:=rv2.length
   obtain ⟨hz,hTI,⟨x0,y0,hTO⟩,h1,h2⟩:=st
   refine wpAny_pyNext_zip_end (I.ok.hd hc) D hz hTI hTO h1 h2 p1.isList p2.isList ?_ fun h' hk=>⟨rfl,?_⟩
   · rcases hend with q | q
     · exact .inl (by simp; omega)
     · exact .inr (by simp; omega)
   · exact I.many0 (t':=s.toks) (ch:=[z,TO,i1,i2]) (fun c hc'=>hf c (by simp only [DX,DT,or_false] at hc' ⊢; rcases hc' with r | r | r | r <;> simp [r])) fun c o hc' e=>by
       simp only [DX,DT,or_false,not_or] at hc'
       exact hk c o hc'.1 hc'.2.1 hc'.2.2.1 hc'.2.2.2 e
 self:=fun _ _ _ _ _ st h=>wpAny_pyIter_zip st.1 h

def yx (K:DA)(ta:TA):TI:=fun σ H R=>ta σ H fun vs H1=>∃a b,vs=[.ref a,.ref b]/\(∃xs,ao K H1 a xs)/\(∃ys,ao K H1 b ys)/\R (zW K a b) H1
section
variable {X:Cx}
theorem zm {a b:Expr}{ta:TA}{p pos tp:Pos}{elts:List Expr}{x1:Nat}(hg:Gl X "zip")(hm:X.mg "zip"=none)(ha:PA X [a,b] ta)(hs:starEach [a,b] X.env=[(false,eval a X.env),(false,eval b X.env)]:=by rfl)(hs2:starEach [b] X.env=[(false,eval b X.env)]:=by rfl)
   (hb:bootBuiltins "zip"=some (.type "zip"):=by first | rfl | decide +kernel) :
   PI X (.Tuple elts x1 tp) (.Call (.Name "zip" p) [a,b] [] pos) (yx X.K ta):=by
 intro pins s σ H R I h
 refine Call_ (dr I hg hm hb (Em (aX (ha pos pins s σ H _ I h) fun us s1 ⟨vs,H1,I1,r1,q1⟩=>?_) (by rw [hs,hs2]) (by rw [hs2]; rfl)))
 obtain ⟨l1,l2,e,⟨xs,hq1⟩,⟨ys,hq2⟩,q⟩:=q1
 subst e
 obtain ⟨u,v,rfl,ru,rv⟩:=Vals.two r1
 obtain rfl:u=D8 l1:=ru
 obtain rfl:v=D8 l2:=rv
 obtain ⟨its1,rv1,p1,_⟩:=I1.list hq1
 obtain ⟨its2,rv2,p2,_⟩:=I1.list hq2
 have lt1:l1 < s1.heap.objs.size:=by obtain ⟨_,_,e,_⟩:=p1; exact DL e
 have lt2:l2 < s1.heap.objs.size:=by obtain ⟨_,_,e,_⟩:=p2; exact DL e
 refine call_zip_2 p1.isList p2.isList fun h' hz hTI hTO hi1 hi2 hsz hk=>?_
 refine wpAny_pyIter_zip hz ?_
 have I2:Inv X pins σ H1 { s1 with heap:=h' }:=I1.kept (t':=s1.toks) hk
 have D:=zipApart_new lt1 lt2
 refine ⟨_,_,_,_,H1,rfl,I2,uU D,⟨hz,hTI,⟨_,_,hTO⟩,hi1,hi2⟩,fun c hc=>?_,q⟩
 simp only [DX,DT,or_false] at hc
 have up:∀k,cq X pins H1 (s1.heap.objs.size + k):=fun k=>I1.fpOk (E1 _ _) (I1.hok.fresh (E1 _ _))
 rcases hc with rfl | rfl | rfl | rfl | rfl
 · exact up 4
 · exact up 2
 · exact up 3
 · exact up 0
 · exact up 1
end
section
variable {K:DA}{a b:Addr}{xs ys:List V}{g:TG}
/-- for .. in zip(xs,ys),both staying,of one length -/
theorem vE {tb:TS}{D:Ends}{σ:St}{H:Hp}(hlen:xs.length=ys.length)(Pv:Nat->St->Hp->Prop)(h0:Pv 0 σ H)(hl:∀i σ H,i<=xs.length->Pv i σ H->ao K H a xs/\ao K H b ys)
   (hs:∀i x y p σ H,xs[i]? = some x->ys[i]? = some y->Pv i σ H->H p=none->g (.ref p) σ (upd H p (.tup [x,y])) fun σ2 H2=>tb { D with nx:=Pv (i + 1),ct:=Pv (i + 1),bk:=D.nx } σ2 H2) (hd:∀σ H,Pv xs.length σ H->D.nx σ H) :
   ∃W:Nat->Nat->St->Hp->Prop,(∃m,W 0 m σ H)/\∀i m σ H,W i m σ H ->
     ((zW K a b).stop i H/\D.nx σ H)\/((zW K a b).go i H/\∃N:St->Hp->Prop,(∀σ' H',N σ' H'->∃m',m' < m/\W (i + 1) m' σ' H')/\∀x H',(zW K a b).yld i H x H'->g x σ H' fun σ2 H2=>tb { D with nx:=N,ct:=N,bk:=D.nx } σ2 H2):=by
 refine ⟨fun i m σ H=>m=xs.length - i/\i<=xs.length/\Pv i σ H,⟨xs.length,by simp,Ep _,h0⟩,?_⟩
 rintro i m σ H ⟨rfl,hi,p⟩
 obtain ⟨q1,q2⟩:=hl i σ H hi p
 by_cases hlt:i < xs.length
 · refine .inr ⟨⟨xs,ys,xs[i],ys[i]'(hlen ▸ hlt),q1,q2,by simp [hlt],by simp [hlen ▸ hlt]⟩,Pv (i + 1),fun σ' H' p'=>⟨xs.length - (i + 1),by omega,rfl,hlt,p'⟩,fun x H' y=>?_⟩
   obtain ⟨pp,x1,y1,hn,rfl,rfl,k⟩:=y
   obtain ⟨k1,k2⟩:=k xs ys q1 q2
   exact hs i x1 y1 pp σ H k1 k2 p hn
 · have e:i=xs.length:=by omega
   subst e
   exact .inl ⟨⟨xs,ys,q1,q2,.inl (DJ _)⟩,hd σ H p⟩
theorem lE {tifs:TT}{tm:TM}{σ0:St}{Z:Hp->Prop}{H:Hp}(hlen:xs.length=ys.length)(Pv:Nat->Hp->Prop)(h0:Pv 0 H)(hl:∀i H,i<=xs.length->Pv i H->ao K H a xs/\ao K H b ys)
   (turn:∀i x y p H,xs[i]? = some x->ys[i]? = some y->Pv i H->H p=none->g (.ref p) σ0 (upd H p (.tup [x,y])) fun σ2 H2=>tifs σ2 H2 fun b H3=>
     if b=true then tm σ2 H3 fun H4=>aT σ0 σ2/\∃m',m' < xs.length - i/\(m'=xs.length - (i + 1)/\i + 1<=xs.length/\Pv (i + 1) H4) else aT σ0 σ2/\∃m',m' < xs.length - i/\(m'=xs.length - (i + 1)/\i + 1<=xs.length/\Pv (i + 1) H3))
   (hZ:∀H,Pv xs.length H->Z H):jy (zW K a b) σ0 g tifs tm Z H:=by
 refine iC xs.length Pv h0 (fun i H hi p=>⟨xs,ys,xs[i],ys[i]'(hlen ▸ hi),(hl i H (ED hi) p).1,(hl i H (ED hi) p).2,by simp [hi],by simp [hlen ▸ hi]⟩) (fun H p=>⟨xs,ys,(hl _ H (DJ _) p).1,(hl _ H (DJ _) p).2,.inl (DJ _)⟩) (fun i H hi p x H' y=>?_) hZ
 obtain ⟨pp,x1,y1,hn,rfl,rfl,k⟩:=y
 obtain ⟨k1,k2⟩:=k xs ys (hl i H (ED hi) p).1 (hl i H (ED hi) p).2
 exact turn i x1 y1 pp H k1 k2 p hn
end
end L2
set_option Elab.async false
set_option linter.all false
set_option maxRecDepth 100000
namespace PySem
theorem kH:typeLookup (.type "list") "keys"=pure none:=by rw [typeLookup_type,builtinLookup_eq_fast]; kernel_rfl
section
variable {prog:Program}{w:World}{A:Around}{E:Value->Shared->Prop}{s:Shared}
theorem fM {a:Addr}{xs:Array Value}{k:Nat}{u:Tok}{Q:Value->Shared->Prop}(hx:s.heap.get? a=some { cls:=.type "list",data:=.seq xs k })(hA:A.handled=none)
   (h:∀h' tk e,Heap.NewAttrErr s.heap h' e (.ref a) "keys"->E (.ref e) { s with heap:=h',toks:=tk }) :
   wpAny (model prog w) A (getAttrBy (.ref a) (.str "keys" u) false) Q E s:=by
 obtain ⟨hp,g,d,tk,os⟩:=s
 have hT:∀tk',(⟨hp,g,d,tk',os⟩ : Shared).TypeIs (.ref a) "list":=fun _=>⟨_,hx,rfl⟩
 have f1:=sub_AttributeError
 have f3:=F.slot_list_getattribute.lookup
 have f4:=F.slot_list_getattribute.bind (.ref a)
 have f5:=am_list_getattr_none
 unfold getAttrBy
 repeat (any_goals (first | assumption | exact hT _ | ((with_reducible show wpAny _ _ (call (Gz "list.__getattribute__") _ _) _ _ _); refine call_meets F.slot_list_getattribute (hT _) am_entry_list_getattribute (F.args_list_getattribute_2 _ _) (meets_getattribute_miss_list a xs k #[] "keys" _ kH (by decide +kernel)) ⟨hx,hA,fun h' tk' e hx'=>?_⟩) | wp_step))
 obtain ⟨t',u',he⟩:=hx'.there
 show wpAny _ _ (getattributeRaised _ _ _ _ _ _ _) _ _ _
 unfold getattributeRaised
 repeat (any_goals (first | assumption | wp_step))
 exact h _ _ _ hx'
theorem ir {a:Addr}{xs:Array Value}{k:Nat}{Q:Option Value->Shared->Prop}(hx:s.heap.get? a=some { cls:=.type "list",data:=.seq xs k })(hA:A.handled=none)
   (h:∀h' tk,(∀b o,s.heap.get? b=some o->h'.get? b=some o)->Q none { s with heap:=h',toks:=tk }):wpAny (model prog w) A (getAttr? (.ref a) "keys") Q E s:=by
 unfold getAttr? getAttrBy?
 refine wpAny_bind (wpAny_mkText (wpAny_bind (wpAny_attempt (fM hx hA fun h' tk e ne=>?_))))
 obtain ⟨t',u',he⟩:=ne.there
 refine wpAny_bind (wpAny_isInstance (T:="AttributeError") (b:=true) ⟨_,he,rfl⟩ sub_AttributeError ?_)
 exact wpAny_pure (h h' _ ne.keeps)
theorem fN {t:Addr}{vs:Array Value}{Q:List Value->Shared->Prop}(ht:s.heap.IsTuple t vs)(h:Q vs.toList s):wpAny (model prog w) A (Ge (.ref t)) Q E s:=by
 obtain ⟨o,ho,hc,n,hd⟩:=ht
 unfold Ge
 refine wpAny_bind (wpAny_typeOf (T:="tuple") ⟨o,ho,hc⟩ ?_)
 rw [if_pos (by decide)]
 refine wpAny_bind ?_
 obtain ⟨hp,g,d,tk,os⟩:=s
 unfold seqItems?
 repeat (any_goals (first | assumption | wp_step))
 all_goals (first | (rw [hd]; repeat (any_goals (first | assumption | wp_step))) | skip)
end
end PySem
set_option Elab.async false
set_option linter.all false
set_option maxRecDepth 100000
namespace L2
open PySem PySem.Spec PyProof.Rows
section
variable {X:Cx}
/-! ### dict(xs),xs a list of pairs -/
theorem ck:entryFor table "dict.update.loop"=some Builtin.«dict.update.loop»:=entryFor_of_tree (by kernel_rfl)
/-- the pair at a -/
def mJ (H:Hp)(t:V)(kv:Key×V):Prop:=∃a,t=.ref a/\H a=some (.tup [kV kv.1,kv.2])
def putAll (d:List (Key×V))(kvs:List (Key×V)):List (Key×V):=kvs.foldl (fun d p=>putK d p.1 p.2) d
theorem mD {pins:List (Addr×Obj)}{σ:St}{A:Around}{D l it:Addr}{xs:List V}(hh:A.handled=none) :
   ∀(n i:Nat) (j:Int) (t:Tok) (kvs d:List (Key×V)) (H:Hp) (s:Shared) (R:Result->Shared->Prop),xs.length - i=n->i<=xs.length->Inv X pins σ H s->H D=some (.dK d)->d.length + n<=sizeLine->ao X.K H l xs->cq X pins H it->s.heap.IsListIter it l i ->
     Paired (mJ H) (xs.drop i) kvs->(∀s',Inv X pins σ (upd H D (.dK (putAll d kvs))) s'->R (.ok (.ret .none)) s') ->
     codeAny (model X.prog X.w) A (.builtin "dict.update.loop" ⟨[.ref D,.ref it,.int j t,.none],[]⟩) R s:=by
 intro n
 induction n using FO with
 | _ n ih=>
   intro i j t kvs d H s R hn hi I hD hz hq hf hit hp hR
   obtain ⟨its,rv,p,_⟩:=I.list hq
   have hl:=rv.length
   obtain ⟨f0,f1,f2,f3,f4,f5⟩:=id hf
   refine codeAny_builtin ck ?_
   have hA:(A.under (.builtin "dict.update.loop" ⟨[.ref D,.ref it,.int j t,.none],[]⟩)).handled=none:=by rw [show (A.under (.builtin "dict.update.loop" ⟨[.ref D,.ref it,.int j t,.none],[]⟩)).handled=A.handled from rfl]; exact hh
   generalize A.under (.builtin "dict.update.loop" ⟨[.ref D,.ref it,.int j t,.none],[]⟩)=A' at hA ⊢
   unfold Builtin.«dict.update.loop»
   show wpAny _ _ (pyNext (.ref it) >>= _) _ _ _
   cases hx:xs[i]? with
   | none=>
     have hge:xs.length<=i:=List.getElem?_eq_none_iff.mp hx
     refine wpAny_bind (wpAny_pyNext_list_end hA hit p.isList (by simp; omega) fun h' eb=>?_)
     have I1:Inv X pins σ H { s with heap:=h' }:=I.turned (t':=s.toks) (fun b o hb e=>eb b o hb e) f0 f1 f3 f4 f5
     have hdr:xs.drop i=[]:=GI hge
     rw [hdr] at hp
     cases hp
     have e:upd H D (.dK (putAll d []))=H:=by
       funext b
       unfold upd
       split
       · rename_i hb; rw [hb,hD]; rfl
       · rfl
     rw [e] at hR
     show wpAny _ _ (F6 D [] >>= _) _ _ _
     exact wpAny_bind (wpAny_pure (wpAny_pure (hR _ I1)))
   | some x=>
     have hlt:i < xs.length:=(List.getElem?_eq_some_iff.mp hx).1
     obtain ⟨u,hu,ru⟩:=rv.get hx
     have hdr:xs.drop i=x :: xs.drop (i + 1):=by
       have e:xs[i]=x:=(List.getElem?_eq_some_iff.mp hx).2
       rw [EL hlt,e]
     rw [hdr] at hp
     cases hp with
     | @cons _ kv _ r hkv hrest=>
       obtain ⟨ta,rfl,hta⟩:=hkv
       obtain rfl:u=D8 ta:=ru
       refine wpAny_bind (wpAny_pyNext_list_item hit p.isList (x:=.ref ta) (by simpa using hu) fun h' hit' sb=>?_)
       have I1:Inv X pins σ H { s with heap:=h' }:=I.turned (t':=s.toks) (fun b o hb e=>(sb.2 b hb).trans e) f0 f1 f3 f4 f5
       obtain ⟨its2,rv2,p2,_⟩:=I1.tuple (aq.of hta)
       obtain ⟨w1,w2,rfl,r1,r2⟩:=Vals.two rv2
       refine wpAny_bind (wpAny_holding ?_)
       refine wpAny_bind (wpAny_tryCatch (fN (show ({ s with heap:=h' }:Shared).heap.IsTuple ta #[w1,w2] from (show IsTup h' ta #[w1,w2] by simpa using p2)) ?_))
       show wpAny _ _ (holding [w1,w2] (dictSet D w1 w2)) _ _ _
       obtain ⟨z,hd',vs,rel,dd⟩:=oP I1.hok hD
       have hzv:vs.length<=sizeLine:=by rw [← rel.length]; exact z
       have hln:(putK d kv.1 kv.2).length<=d.length + 1:=bO d kv.1 kv.2
       have hn1:n=xs.length - (i + 1) + 1:=by omega
       refine wpAny_holding (wpAny_dictSet_pairs (hsz:=hzv) (gU r1) dd fun h2 dd' hs2=>?_)
       have he:∃q,h2.get? D=some q:=let ⟨q,_,_,hq,_⟩:=dd'; ⟨q,hq⟩
       have hDit:D≠it:=fun z=>by rw [z,f0] at hD; cases hD
       have hlD:ao X.K (upd H D (.dK (putK d kv.1 kv.2))) l xs:=by
         rcases hq with (q | ⟨o,q⟩) | q
         · exact .inl (.inl (by rw [aj (cA q hD (fun z=>nomatch z))]; exact q))
         · exact .inl (.inr ⟨o,by rw [aj (cA q hD (fun z=>nomatch z))]; exact q⟩)
         · exact .inr q
       refine wpAny_pure ⟨Fp _ (by decide +kernel),?_⟩
       refine ih (xs.length - (i + 1)) (by omega) (i + 1) _ _ r (putK d kv.1 kv.2) (upd H D (.dK (putK d kv.1 kv.2))) _ R rfl hlt (dm (t':=_) I1 (by rw [hD]; exact DV) hs2 he (ku (by omega) hd' (rel.put kv.1 r2) dd')) ae (by omega) hlD ⟨by rw [aj hDit.symm]; exact f0,hf.2⟩ (hit'.extBut hs2.extBut hDit.symm) ?_ ?_
       · exact Paired.mapP hrest fun a b ⟨c,e1,e2⟩=>⟨c,e1,by rw [aj (cA e2 hD (fun z=>nomatch z))]; exact e2⟩
       · intro s' I'
         rw [bE] at I'
         exact hR s' I'
/-- dict(xs) -/
def pE (K:DA):List V->Hp->VK->Prop:=fun vs H Q=>∃l xs kvs,vs=[.ref l]/\H l=some (.lst xs)/\Paired (mJ H) xs kvs/\∀D,H D=none->Q (.ref D) (upd H D (.dK (putAll [] kvs)))
theorem hJ (hc:X.calm=true):cg X (.type "dict") (pE X.K):=by
 intro pins s σ H vs us Q I r h
 obtain ⟨l,xs,kvs,rfl,hl,hp,q⟩:=h
 obtain ⟨u,rfl,ru⟩:=vals1 r
 obtain rfl:u=D8 l:=ru
 have hh:X.A.handled=none:=I.ok.hd hc
 have hD:H s.heap.objs.size=none:=I.hok.fresh (DJ _)
 have I1:Inv X pins σ (upd H s.heap.objs.size (.dK [])) { s with heap:=s.heap.push { cls:=.type "dict",data:=.dict #[] } }:=I.laid (t':=s.toks) (fun _ _ e=>DK _ e) (DJ _) (lG s.heap I.big)
 refine callType_codes (Q₁:=fun obj s₁=>obj=.ref s.heap.objs.size/\s₁={ s with heap:=s.heap.push { cls:=.type "dict",data:=.dict #[] } }) F.kt_called_dict (F.kt_typeCall_dict_1 _) F.entry_dict_init (kt_code_dict_new _ ⟨rfl,rfl⟩) ?_
 rintro obj s₁ ⟨rfl,rfl⟩
 have hnew:(s.heap.push { cls:=.type "dict",data:=.dict #[] }).DictOf (aD X.prog X.w) s.heap.objs.size []:=FZ s.heap
 generalize hs1:({ s with heap:=s.heap.push { cls:=.type "dict",data:=.dict #[] } }:Shared)=s1 at I1 ⊢
 have hnew1:s1.heap.DictOf (aD X.prog X.w) s.heap.objs.size []:=by rw [← hs1]; exact hnew
 generalize s.heap.objs.size=D at hD I1 hnew1 ⊢
 have hl1:(upd H D (.dK [])) l=some (.lst xs):=by rw [aj (ai hl hD)]; exact hl
 refine ⟨hnew1.typeIs,F.args_dict_init_2 _ _,?_⟩
 unfold Builtin.«dict.__init__»
 refine wpAny_bind ?_
 unfold F5
 refine wpAny_bind (wpAny_notOrdered_dict hnew1.typeIs ?_)
 show wpAny _ _ (pure (D,[D8 l])) _ _ _
 refine wpAny_pure ?_
 show wpAny _ _ (EX "dict.__init__" D (.ref l) [] .none) _ _ _
 unfold EX
 obtain ⟨z,its,n,rv,e⟩:=(show aP X.prog X.w _ s1.heap l (.lst xs) from I1.hok l _ hl1)
 refine wpAny_bind (wpAny_typeOf (T:="list") ⟨_,e,rfl⟩ ?_)
 rw [if_pos (by decide)]
 refine wpAny_bind (ir e hh fun h' tk hk=>?_)
 rw [if_pos (show (Option.isNone (none:Option Value))=true from rfl)]
 have I2:Inv X pins σ (upd H D (.dK [])) { s1 with heap:=h',toks:=tk }:=I1.kept hk
 refine wpAny_bind (wpAny_rule ?_)
 refine wpAny_bind (wpAny_pyIter_list ⟨_,hk _ _ e,rfl,n,rfl⟩ ?_)
 have I3:=I2.kept (h':=h'.push { cls:=.type "list_iterator",data:=.fields #[.ref l,.int 0 0] }) (t':=tk) fun b o e=>DK _ e
 refine wpAny_pure ⟨Fp _ (by decide +kernel),?_⟩
 refine mD (l:=l) (it:=h'.objs.size) (xs:=xs) (d:=[]) (kvs:=kvs) (pins:=pins) (σ:=σ) (A:=X.A.in1) (show X.A.in1.handled=none from hh) xs.length 0 _ _ _ _ _ (by simp) (Ep _) I3 ae (by simpa using z) (ao.of hl1) (I2.fpOk (DJ _) (I2.hok.fresh (DJ _))) ⟨_,DY _ rfl,rfl,rfl⟩ ?_ ?_
 · exact Paired.mapP hp fun a b ⟨c,e1,e2⟩=>⟨c,e1,by rw [aj (ai e2 hD)]; exact e2⟩
 · intro s' I'
   rw [bE] at I'
   exact ⟨rfl,.ref D,_,I',rfl,q D hD⟩
end
end L2
set_option Elab.async false
set_option linter.all false
set_option maxRecDepth 100000
namespace L2
open PySem PySem.Spec PyProof.Rows SeqAt

/-! ### equality,to any depth -/
inductive EB (K:DA) (H:Hp):Nat->V->V->Bool->Prop where
 | flat {n:Nat} {x y:V}:bw x=true->bw y=true->EB K H n x y (mX x y)
 | same {n:Nat} {a:Addr}:EB K H n (.ref a) (.ref a) true
 | lst {n:Nat} {a b:Addr} {xs ys:List V} {e:Nat->Bool}:a≠b->ao K H a xs->ao K H b ys->xs.length=ys.length->(∀j x y,xs[j]? = some x->ys[j]? = some y->EB K H n x y (e j)) ->
     EB K H (n + 1) (.ref a) (.ref b) ((D5 xs.length).all e)
 | len {n:Nat} {a b:Addr} {xs ys:List V}:a≠b->ao K H a xs->ao K H b ys->xs.length≠ys.length->EB K H n (.ref a) (.ref b) false
 | tup {n:Nat} {a b:Addr} {xs ys:List V} {e:Nat->Bool}:a≠b->aq K H a xs->aq K H b ys->(∀j x y,xs[j]? = some x->ys[j]? = some y->EB K H n x y (e j)) ->
     EB K H (n + 1) (.ref a) (.ref b) ((D5 (min xs.length ys.length)).all e && xs.length == ys.length)
section
variable {X:Cx}{pins:List (Addr×Obj)}{σ:St}{H:Hp}{s:Shared}
theorem dg {K:DA}{n:Nat}{A:Around}{xs ys:List V}{us vs:List Value}{e:Nat->Bool}(rv:Vals xs us)(rw':Vals ys vs)
   (h:∀j x y,xs[j]? = some x->ys[j]? = some y->∀(A:Around) (u v:Value),RelV x u->RelV y v->A.units + n < cLine->EqAt A s u v (e j)) (hu:A.units + (n + 1) < cLine) :
   ∀j (h1:j < us.toArray.size) (h2:j < vs.toArray.size),EqAt A.in1 s us.toArray[j] vs.toArray[j] (e j):=fun j h1 h2=>by
 have l1:=rv.length
 have l2:=rw'.length
 have h1':j < us.length:=by simpa using h1
 have h2':j < vs.length:=by simpa using h2
 have hx:xs[j]? = some (xs[j]'(by omega)):=DH _
 have hy:ys[j]? = some (ys[j]'(by omega)):=DH _
 obtain ⟨u,hu1,ru⟩:=rv.get hx
 obtain ⟨v,hv1,rv1⟩:=rw'.get hy
 have eu:us[j]=u:=by have:=DH h1'; rw [hu1] at this; exact (D2 this).symm
 have ev:vs[j]=v:=by have:=DH h2'; rw [hv1] at this; exact (D2 this).symm
 have q:=h j _ _ hx hy A.in1 u v ru rv1 (by show A.units + 1 + n < cLine; omega)
 simpa [eu,ev] using q
theorem EB.at (I:Inv X pins σ H s){n:Nat}{x y:V}{b:Bool}(q:EB X.K H n x y b):∀(A:Around) (u v:Value),RelV x u->RelV y v->A.units + n < cLine->EqAt A s u v b:=by
 induction q with
 | flat h1 h2=>exact fun A u v ru rv _=>mV ru rv h1 h2
 | same=>intro A u v ru rv _; cases ru; cases rv; exact EqAt.same _
 | @lst n a b xs ys e hne ha hb hl _ ih=>
   intro A u v ru rv hu
   cases ru; cases rv
   obtain ⟨us,r1,p1,_⟩:=I.list ha
   obtain ⟨vs,r2,p2,_⟩:=I.list hb
   have l1:=r1.length
   have l2:=r2.length
   have q:=RcAt.lists (A:=A) p1.isList p2.isList (by simp; omega) (by omega) (dg (K:=X.K) r1 r2 ih hu)
   rw [show us.toArray.size=xs.length by simp [l1]] at q
   exact EqAt.of_refs hne q
 | @len n a b xs ys hne ha hb hl=>
   intro A u v ru rv hu
   cases ru; cases rv
   obtain ⟨us,r1,p1,_⟩:=I.list ha
   obtain ⟨vs,r2,p2,_⟩:=I.list hb
   have l1:=r1.length
   have l2:=r2.length
   exact EqAt.of_refs hne (RcAt.lists_lengths p1.isList p2.isList (by simp; omega) (by omega))
 | @tup n a b xs ys e hne ha hb _ ih=>
   intro A u v ru rv hu
   cases ru; cases rv
   obtain ⟨us,r1,p1,_⟩:=I.tuple ha
   obtain ⟨vs,r2,p2,_⟩:=I.tuple hb
   have l1:=r1.length
   have l2:=r2.length
   have q:=RcAt.tuples (A:=A) (show s.heap.IsTuple a us.toArray from p1) (show s.heap.IsTuple b vs.toArray from p2) (by omega) (dg (K:=X.K) r1 r2 ih hu)
   rw [show us.toArray.size=xs.length by simp [l1],show vs.toArray.size=ys.length by simp [l2]] at q
   exact EqAt.of_refs hne q
end
/-- == of two lists,or of two tuples (at the top no look at whether they are one) -/
def RB (K:DA)(H:Hp)(n:Nat)(x y:V)(b:Bool):Prop:=∃a c xs ys,x=.ref a/\y=.ref c /\
 ((∃e:Nat->Bool,ao K H a xs/\ao K H c ys/\xs.length=ys.length/\(∀j x y,xs[j]? = some x->ys[j]? = some y->EB K H n x y (e j))/\b=(D5 xs.length).all e) \/
  (ao K H a xs/\ao K H c ys/\xs.length≠ys.length/\b=false) \/
  (∃e:Nat->Bool,aq K H a xs/\aq K H c ys/\(∀j x y,xs[j]? = some x->ys[j]? = some y->EB K H n x y (e j))/\b=((D5 (min xs.length ys.length)).all e && xs.length == ys.length)))
section
variable {X:Cx}
theorem yT {m:Nat}(hu:X.A.units + (m + 1) < cLine):gP X (compareOp .Eq) (fun x y H Q=>∃b,RB X.K H m x y b/\Q (.bl b) H):=by
 intro pins s σ H x y v u Q I rx ry h
 obtain ⟨b,⟨a,c,xs,ys,rfl,rfl,q⟩,k⟩:=h
 cases rx; cases ry
 rcases q with ⟨e,ha,hb,hl,he,rfl⟩ | ⟨ha,hb,hl,rfl⟩ | ⟨e,ha,hb,he,rfl⟩
 · obtain ⟨us,r1,p1,_⟩:=I.list ha
   obtain ⟨vs,r2,p2,_⟩:=I.list hb
   have l1:=r1.length
   have l2:=r2.length
   refine eq_listAt p1.isList p2.isList (by simp; omega) (by omega) (dg (K:=X.K) r1 r2 (fun j x y h1 h2=>(he j x y h1 h2).at I) hu) ?_
   rw [show us.toArray.size=xs.length by simp [l1]]
   exact ⟨.bl _,H,I,rfl,k⟩
 · obtain ⟨us,r1,p1,_⟩:=I.list ha
   obtain ⟨vs,r2,p2,_⟩:=I.list hb
   have l1:=r1.length
   have l2:=r2.length
   exact eq_list_lengthsAt p1.isList p2.isList (by simp; omega) (by omega) ⟨.bl _,H,I,rfl,k⟩
 · obtain ⟨us,r1,p1,_⟩:=I.tuple ha
   obtain ⟨vs,r2,p2,_⟩:=I.tuple hb
   have l1:=r1.length
   have l2:=r2.length
   refine eq_tupleAt (show s.heap.IsTuple a us.toArray from p1) (show s.heap.IsTuple c vs.toArray from p2) (by omega) (dg (K:=X.K) r1 r2 (fun j x y h1 h2=>(he j x y h1 h2).at I) hu) ?_
   rw [show us.toArray.size=xs.length by simp [l1],show vs.toArray.size=ys.length by simp [l2]]
   exact ⟨.bl _,H,I,rfl,k⟩
theorem yX {m:Nat}(hu:X.A.units + (m + 1) < cLine):gP X (compareOp .NotEq) (fun x y H Q=>∃b,RB X.K H m x y b/\Q (.bl (!b)) H):=by
 intro pins s σ H x y v u Q I rx ry h
 obtain ⟨b,⟨a,c,xs,ys,rfl,rfl,q⟩,k⟩:=h
 cases rx; cases ry
 rcases q with ⟨e,ha,hb,hl,he,rfl⟩ | ⟨ha,hb,hl,rfl⟩ | ⟨e,ha,hb,he,rfl⟩
 · obtain ⟨us,r1,p1,_⟩:=I.list ha
   obtain ⟨vs,r2,p2,_⟩:=I.list hb
   have l1:=r1.length
   have l2:=r2.length
   refine RcNeAt.lists p1.isList p2.isList (by simp; omega) (by omega) (dg (K:=X.K) r1 r2 (fun j x y h1 h2=>(he j x y h1 h2).at I) hu) X.prog X.w X.xe _ ?_
   rw [show us.toArray.size=xs.length by simp [l1]]
   exact ⟨.bl _,H,I,rfl,k⟩
 · obtain ⟨us,r1,p1,_⟩:=I.list ha
   obtain ⟨vs,r2,p2,_⟩:=I.list hb
   have l1:=r1.length
   have l2:=r2.length
   exact RcNeAt.lists_lengths p1.isList p2.isList (by simp; omega) (by omega) X.prog X.w X.xe _ ⟨.bl _,H,I,rfl,k⟩
 · obtain ⟨us,r1,p1,_⟩:=I.tuple ha
   obtain ⟨vs,r2,p2,_⟩:=I.tuple hb
   have l1:=r1.length
   have l2:=r2.length
   refine RcNeAt.tuples (show s.heap.IsTuple a us.toArray from p1) (show s.heap.IsTuple c vs.toArray from p2) (by omega) (dg (K:=X.K) r1 r2 (fun j x y h1 h2=>(he j x y h1 h2).at I) hu) X.prog X.w X.xe _ ?_
   rw [show us.toArray.size=xs.length by simp [l1],show vs.toArray.size=ys.length by simp [l2]]
   exact ⟨.bl _,H,I,rfl,k⟩
end
/-- the true case -/
def ET (K:DA)(H:Hp)(n:Nat)(x y:V):Prop:=EB K H n x y true
theorem all_true {n:Nat}:(D5 n).all (fun _=>true)=true:=by rw [Gg]; intro _ _; rfl
theorem ET.lst {K:DA}{H:Hp}{n:Nat}{a b:Addr}{xs ys:List V}(ha:ao K H a xs)(hb:ao K H b ys)(hl:xs.length=ys.length)(h:∀(j:Nat) (x y:V),xs[j]? = some x->ys[j]? = some y->ET K H n x y):ET K H (n + 1) (.ref a) (.ref b):=by
 by_cases e:a=b
 · subst e; exact .same
 · have q:=EB.lst (e:=fun _=>true) e ha hb hl h
   rw [all_true] at q
   exact q
theorem ET.tup {K:DA}{H:Hp}{n:Nat}{a b:Addr}{xs ys:List V}(ha:aq K H a xs)(hb:aq K H b ys)(hl:xs.length=ys.length)(h:∀(j:Nat) (x y:V),xs[j]? = some x->ys[j]? = some y->ET K H n x y):ET K H (n + 1) (.ref a) (.ref b):=by
 by_cases e:a=b
 · subst e; exact .same
 · have q:=EB.tup (e:=fun _=>true) e ha hb h
   rw [all_true,hl,beq_self_eq_true] at q
   exact q
theorem r8 {x:V}(h:bw x=true):mX x x=true:=by cases x <;> simp_all [bw,mX]
theorem ET.refl {K:DA}{H:Hp}{n:Nat}{x:V}(h:bw x=true\/∃a,x=.ref a):ET K H n x x:=by
 rcases h with h | ⟨a,rfl⟩
 · have q:=EB.flat (K:=K) (H:=H) (n:=n) h h
   rw [r8 h] at q
   exact q
 · exact .same
theorem RB.lst {K:DA}{H:Hp}{n:Nat}{a b:Addr}{xs ys:List V}(ha:ao K H a xs)(hb:ao K H b ys)(hl:xs.length=ys.length)(h:∀(j:Nat) (x y:V),xs[j]? = some x->ys[j]? = some y->ET K H n x y):RB K H n (.ref a) (.ref b) true:=
 ⟨a,b,xs,ys,rfl,rfl,.inl ⟨fun _=>true,ha,hb,hl,h,all_true.symm⟩⟩
theorem RB.tup {K:DA}{H:Hp}{n:Nat}{a b:Addr}{xs ys:List V}(ha:aq K H a xs)(hb:aq K H b ys)(hl:xs.length=ys.length)(h:∀(j:Nat) (x y:V),xs[j]? = some x->ys[j]? = some y->ET K H n x y):RB K H n (.ref a) (.ref b) true:=
 ⟨a,b,xs,ys,rfl,rfl,.inr (.inr ⟨fun _=>true,ha,hb,h,by rw [all_true,hl,beq_self_eq_true]; rfl⟩)⟩
/-- xs == [] -/
theorem RB.nil {K:DA}{H:Hp}{n:Nat}{a b:Addr}{xs:List V}(ha:ao K H a xs)(hb:ao K H b []):RB K H n (.ref a) (.ref b) xs.isEmpty:=by
 cases xs with
 | nil=>exact RB.lst ha hb rfl (fun j x y h=>by simp at h)
 | cons x r=>exact ⟨a,b,_,[],rfl,rfl,.inr (.inl ⟨ha,hb,by simp,rfl⟩)⟩

section
variable {X:Cx}{pos:Pos}
/-! ### (a,b,..)=a list of that length -/
/-! ### greater numbers -/
def xg (i j:Int):Prop:=0 < j/\j < 2 ^ 1000
theorem ue:gP X (binaryOp .FloorDiv) (rI xg fun i j=>.int (i / j)):=BA fun i j _ _ _ _ _ hc q=>by
 have h1:(0:Int) < j:=hc.1
 have h2:j < 2 ^ 1000:=hc.2
 have h3:j.natAbs < 2 ^ 1000:=by omega
 exact floordiv_int (by omega) (by rw [Int.fdiv_eq_ediv_of_nonneg i (by omega)]; exact q) (.inl (PyProof.noPylong_of_log2 (DZ ((Nat.log2_lt (by omega)).mpr h3) (by decide))))
/-! ### isinstance(x,T),T a built-in type -/
theorem rP:cg X (.builtin "isinstance") (fun xs H Q=>∃x n t b,xs=[x,.ty n]/\TyOf X.K H x t/\Gi X.K t (.type n)=some b/\Q (.bl b) H):=by
 intro pins s σ H xs us Q I r h
 obtain ⟨x,n,t,b,rfl,ty,e,q⟩:=h
 obtain ⟨u,v,rfl,ru,rv⟩:=Vals.two r
 obtain rfl:v=F3 n:=rv
 exact qF I ru ty e fun tk=>⟨.bl b,H,I.tok tk,rfl,q⟩
end
end L2
set_option Elab.async false
set_option linter.all false
set_option maxRecDepth 100000
namespace TW
open PySem L2

/-! ### sums and conditions,as data and in the heap -/
inductive K2 where
 | plus | less | same | under | both
def K2.str:K2->Str
 | .plus=>"plus" | .less=>"less" | .same=>"same" | .under=>"under" | .both=>"both"
inductive E where
 | num (n:Int) | box (tag x:Str) | yes | nt (a:E) | two (k:K2) (a b:E)
def Tp (H:Hp)(v:V)(xs:List V):Prop:=∃p,v=.ref p/\H p=some (.tup xs)
def gj (H:Hp):V->E->Prop
 | v,.num n=>Tp H v [.str "number",.int n]
 | v,.box t x=>Tp H v [.str t,.str x]
 | v,.yes=>Tp H v [.str "yes"]
 | v,.nt a=>∃x,Tp H v [.str "not",x]/\gj H x a
 | v,.two k a b=>∃x y,Tp H v [.str k.str,x,y]/\gj H x a/\gj H y b
/-- tuples stay -/
def TK (H H':Hp):Prop:=∀b xs,H b=some (.tup xs)->H' b=some (.tup xs)
theorem TK.trans {A B C:Hp}(a:TK A B)(b:TK B C):TK A C:=fun c o h=>b c o (a c o h)
theorem Tp.keep {H H':Hp}{v:V}{xs:List V}(k:TK H H')(h:Tp H v xs):Tp H' v xs:=let ⟨p,e,q⟩:=h; ⟨p,e,k p xs q⟩
theorem gj.keep {H H':Hp}(k:TK H H'):∀{e:E} {v:V},gj H v e->gj H' v e
 | .num _,_,h=>Tp.keep k h
 | .box _ _,_,h=>Tp.keep k h
 | .yes,_,h=>Tp.keep k h
 | .nt _,_,⟨x,h,a⟩=>⟨x,h.keep k,gj.keep k a⟩
 | .two _ _ _,_,⟨x,y,h,a,b⟩=>⟨x,y,h.keep k,gj.keep k a,gj.keep k b⟩
def E.dep:E->Nat
 | .num _=>0 | .box _ _=>0 | .yes=>0 | .nt a=>a.dep + 1 | .two _ a b=>max a.dep b.dep + 1
/-- a sum,a condition -/
def E.isS:E->Prop
 | .num _=>True
 | .box _ _=>True
 | .two .plus a b=>a.isS/\b.isS
 | .two .less a b=>a.isS/\b.isS
 | _=>False
def E.isC:E->Prop
 | .yes=>True
 | .nt a=>a.isC
 | .two .same a b=>a.isS/\b.isS
 | .two .under a b=>a.isS/\b.isS
 | .two .both a b=>a.isC/\b.isC
 | _=>False
/-- each box is one of these -/
def E.okIn (P:Str->Str->Prop):E->Prop
 | .num n=>n.natAbs < 2 ^ 100 | .box t x=>P t x | .yes=>True | .nt a=>a.okIn P | .two _ a b=>a.okIn P/\b.okIn P
theorem E.okIn.imp {P Q:Str->Str->Prop}(f:∀t x,P t x->Q t x):∀{e:E},e.okIn P->e.okIn Q
 | .num _,h=>h | .box t x,h=>f t x h | .yes,_=>DV | .nt a,h=>E.okIn.imp f (e:=a) h | .two _ a b,h=>⟨E.okIn.imp f (e:=a) h.1,E.okIn.imp f (e:=b) h.2⟩
def E.worth (w:Str->Str->Int):E->Int
 | .num n=>n
 | .box t x=>w t x
 | .two .plus a b=>a.worth w + b.worth w
 | .two .less a b=>a.worth w - b.worth w
 | _=>0
def E.holds (w:Str->Str->Int):E->Bool
 | .yes=>true
 | .nt a=>!(a.holds w)
 | .two .same a b=>decide (a.worth w=b.worth w)
 | .two .under a b=>decide (a.worth w < b.worth w)
 | .two .both a b=>a.holds w && b.holds w
 | _=>false
/-! ### nodes -/
inductive Nd where
 | put (x:Str) (s:E) (n:Int) | say (s:E) (n:Int) | test (c:E) (n o:Int) | fin
def aZ (H:Hp):V->Nd->Prop
 | v,.put x s n=>∃u,Tp H v [.str "put",.str x,u,.int n]/\gj H u s
 | v,.say s n=>∃u,Tp H v [.str "say",u,.int n]/\gj H u s
 | v,.test c n o=>∃u,Tp H v [.str "test",u,.int n,.int o]/\gj H u c
 | v,.fin=>Tp H v [.str "end"]
theorem aZ.keep {H H':Hp}(k:TK H H'):∀{e:Nd} {v:V},aZ H v e->aZ H' v e
 | .put _ _ _,_,⟨u,h,a⟩=>⟨u,h.keep k,a.keep k⟩
 | .say _ _,_,⟨u,h,a⟩=>⟨u,h.keep k,a.keep k⟩
 | .test _ _ _,_,⟨u,h,a⟩=>⟨u,h.keep k,a.keep k⟩
 | .fin,_,h=>Tp.keep k h
theorem aZ.ref {H:Hp}:∀{e:Nd} {v:V},aZ H v e->∃a,v=.ref a
 | .put _ _ _,_,⟨_,⟨p,h,_⟩,_⟩=>⟨p,h⟩
 | .say _ _,_,⟨_,⟨p,h,_⟩,_⟩=>⟨p,h⟩
 | .test _ _ _,_,⟨_,⟨p,h,_⟩,_⟩=>⟨p,h⟩
 | .fin,_,⟨p,h,_⟩=>⟨p,h⟩
/-- what is asked of a node: its boxes are these names,it leads below many -/
def Nd.good (P:Str->Prop)(many:Int)(d:Nat):Nd->Prop
 | .put x s n=>P x/\s.isS/\s.okIn (fun t y=>t="box"/\P y)/\s.dep<=d/\0<=n/\n < many
 | .say s n=>s.isS/\s.okIn (fun t y=>t="box"/\P y)/\s.dep<=d/\0<=n/\n < many
 | .test c n o=>c.isC/\c.okIn (fun t y=>t="box"/\P y)/\c.dep<=d/\0<=n/\n < many/\0<=o/\o < many
 | .fin=>True

/-! ### the deck,and what stays -/
theorem af {H:Hp}{p:Addr}(h:H p=none)(o:HO):ah H (upd H p o):=fun b u q=>by rw [aj (ai q h)]; exact q
theorem ah.tk {H H':Hp}(s:ah H H'):TK H H':=fun b xs h=>s b _ h
theorem small {n:Nat}(h:n<=1000):n<=sizeLine:=ED (aR h)

/-! ### programs -/
def cy (H:Hp)(v:V)(b:Str×Int):Prop:=Tp H v [.str b.1,.int b.2]
structure aI (H:Hp)(v:V)(bs:List (Str×Int))(ins:List Str)(nds:List Nd):Prop where
 at_:∃p B I N vb vn,v=.ref p/\H p=some (.tup [.ref B,.ref I,.ref N])/\H B=some (.lst vb)/\H I=some (.lst (ins.map V.str))/\H N=some (.lst vn)/\Paired (cy H) vb bs/\Paired (aZ H) vn nds
end TW
set_option Elab.async false
set_option linter.all false
set_option maxRecDepth 100000
set_option exponentiation.threshold 4000
namespace TW
open PySem L2
/-! ### defs of the text,with their promises -/
def Src (K:DA)(mg:Str->Option Value)(x:Str)(st:Stmt):Prop:=∃f fd,cB K x x st f fd/\mg x=some (.ref f)
def aF (P:Program)(w:World)(K:DA)(mg:Str->Option Value)(base:Heap)(x:Str)(ps:List Str)(k:Nat)(sp:Sp):Prop:=
 ∃f fd,aL P w K mg base CX0 k f fd ps sp/\ER K (.ref f)=true/\Binds K fd ps []/\mg x=some (.ref f)
theorem aF.mono {P:Program}{w:World}{K:DA}{mg:Str->Option Value}{base:Heap}{x:Str}{ps:List Str}{j k:Nat}{sp:Sp}(h:aF P w K mg base x ps j sp)(hk:j<=k):aF P w K mg base x ps k sp:=
 let ⟨f,fd,a,b,c,d⟩:=h; ⟨f,fd,a.mono hk,b,c,d⟩
/-! ### small facts -/
theorem bB {A:Around}{k:Nat}(hr:cM k A)(m:Nat)(hm:m<=64):A.units + m < cLine:=by have:=hr.units; omega
end TW
set_option Elab.async false
set_option linter.all false
set_option maxRecDepth 100000
namespace L2
open PySem PySem.Spec PyProof.Rows
/-! ### arguments: that none is starred,once for each kind of expression -/
structure bg (e:Expr):Prop where
 h:∀(es:List Expr) (env:Env),starEach (e :: es) env=(false,eval e env) :: starEach es env
theorem dU {e:Expr}(h:∀x p,e≠.Starred x p):bg e:=⟨fun es env=>by
 cases e <;> first | rfl | exact absurd rfl (h _ _)⟩
theorem mi {c k p}:bg (.Constant c k p):=dU fun _ _ z=>nomatch z
theorem fR {x p}:bg (.Name x p):=dU fun _ _ z=>nomatch z
theorem fQ {f a k p}:bg (.Call f a k p):=dU fun _ _ z=>nomatch z
theorem tO {a o b p}:bg (.BinOp a o b p):=dU fun _ _ z=>nomatch z
theorem jg {a b p}:bg (.Subscript a b p):=dU fun _ _ z=>nomatch z
theorem tR {a b p}:bg (.Tuple a b p):=dU fun _ _ z=>nomatch z
theorem tQ {a p}:bg (.List a p):=dU fun _ _ z=>nomatch z
theorem tP {a b c p}:bg (.Compare a b c p):=dU fun _ _ z=>nomatch z
theorem xw {a b c p}:bg (.ListComp a b c p):=dU fun _ _ z=>nomatch z
theorem pe {a b p}:bg (.BoolOp a b p):=dU fun _ _ z=>nomatch z
def fo (es:List Expr):Prop:=∀(pos:Pos) (env:Env),(backTo pos (starEach es env)).any (·.1)=false
theorem vY:fo []:=fun _ _=>rfl
theorem tS {e:Expr}{es:List Expr}(h:bg e)(hs:fo es):fo (e :: es):=fun pos env=>by
 rw [h.h es env]
 exact hs pos env
structure oB (X:Cx)(es:List Expr)(t:TA):Prop where
 pa:PA X es t
 ns:∀e r,es=e :: r->bg e/\fo r
 nss:fo es
section
variable {X:Cx}{e:Expr}{es:List Expr}{te:TE}{t:TA}{pos:Pos}
theorem an:oB X [] zN:=⟨y6,(fun _ _ z=>nomatch z),vY⟩
theorem ac (ha:PE X e te)(hr:oB X es t)
   (hs:bg e:=by first | exact mi | exact fR | exact fQ | exact tO | exact jg | exact tR | exact tQ | exact tP | exact xw | exact ns_dc | exact ns_un | exact pe | exact ns_attr):oB X (e :: es) (uO te t):=
 ⟨wC ha hr.pa (hs.h es X.env),fun e' r z=>by injection z with z1 z2; subst z1 z2; exact ⟨hs,hr.nss⟩,tS hs hr.nss⟩
theorem Cy {x1}(h:oB X es t):PE X (.Tuple es x1 pos) (zO t):=zh h.pa
theorem Cv (h:oB X es t):PE X (.List es pos) (zM t):=zb h.pa
theorem zT {x:Str}{p:Pos}{id:String}{r:List V->Hp->VK->Prop}(hc:cg X (.builtin id) r)(hg:Gl X x)(hm:X.mg x=none)(hv:bootBuiltins x=some (.builtin id))(ha:oB X (e :: es) t)(hn:x≠"__name__":=by decide)(hdb:(x == ("__debug__":Str))=false:=by decide) :
   PE X (.Call (.Name x p) (e :: es) [] pos) (Ae r t):=ug hc hg hm hv ha.pa hn hdb ((ha.ns e es rfl).1.h es X.env) ((ha.ns e es rfl).2 pos X.env)
theorem zU {x:Str}{p:Pos}{T:String}{r:List V->Hp->VK->Prop}(hc:cg X (.type T) r)(hg:Gl X x)(hm:X.mg x=none)(hv:bootBuiltins x=some (.type T))(ha:oB X (e :: es) t)(hn:x≠"__name__":=by decide)(hdb:(x == ("__debug__":Str))=false:=by decide) :
   PE X (.Call (.Name x p) (e :: es) [] pos) (Ae r t):=q5 hc hg hm hv ha.pa hn hdb ((ha.ns e es rfl).1.h es X.env) ((ha.ns e es rfl).2 pos X.env)
theorem Cw {x:Str}{p:Pos}{ps:List Str}{k:Nat}{sp:Sp}(D:TW.aF X.prog X.w X.K X.mg X.base x ps k sp)(hr:cM k X.A)(hg:Gl X x)(ha:oB X (e :: es) t)(hdb:(x == ("__debug__":Str))=false:=by decide) :
   PE X (.Call (.Name x p) (e :: es) [] pos) (pQ sp [] E0 t):=
 let ⟨_,_,G,kp,b,m⟩:=D
 pj G hr hg m kp b .nil xA ha.pa hdb ((ha.ns e es rfl).1.h es X.env) ((ha.ns e es rfl).2 pos X.env)
theorem w9 {tg a:Expr}{ta:TA}{p:Pos}(hg:Gl X "range")(hm:X.mg "range"=none)(ha:oB X [a] ta):PI X tg (.Call (.Name "range" p) [a] [] pos) (tE ta):=
 q8 hg hm ha.pa ((ha.ns a [] rfl).1.h [] X.env)
theorem Cz {a b:Expr}{ta:TA}{p tp:Pos}{elts:List Expr}{x1:Nat}(hg:Gl X "zip")(hm:X.mg "zip"=none)(ha:oB X [a,b] ta)(hb:bg b:=by first | exact fR | exact jg | exact fQ):PI X (.Tuple elts x1 tp) (.Call (.Name "zip" p) [a,b] [] pos) (yx X.K ta):=
 zm hg hm ha.pa (by rw [(ha.ns a [b] rfl).1.h [b] X.env,hb.h [] X.env]; rfl) (by rw [hb.h [] X.env]; rfl)
/-- o.m(e),a builtin's method -/
theorem Cu {o:Expr}{name:Str}{apos:Pos}{T id:String}{r:V->List V->Hp->VK->Prop}{to:TE}(pa:PlainAttrs T)(slot:Slot T name id)(hty:typeOf (.builtin id)=pure (.type "method_descriptor"))(hm:Ah X id r)(ho:PE X o to)(ha:oB X [e] t)
   (hbase:attributeBase o name X.env (eval o X.env)=eval o X.env:=by rfl) (hline:(apos.endLine == pos.line)=true:=by rfl):PE X (.Call (.Attribute o name apos) [e] [] pos) (Ad X.K T r to t):=
 AY pa slot hty hm ho ha.pa hbase (by rw [(ha.ns e [] rfl).1.h [] X.env]; rfl) hline ((ha.ns e [] rfl).1.h [] X.env) ((ha.ns e [] rfl).2 pos X.env)
end
end L2
set_option Elab.async false
set_option linter.all false
set_option maxRecDepth 100000
/-! THE SEALED JUDGEMENTS: as the layer's,but nothing looks into them while a term of rules is read (an elaborator that opens PE runs the model). -/
namespace L3
open PySem PySem.Spec PyProof.Rows L2
structure SE (X:Cx)(e:Expr)(t:TE):Prop where
 h:PE X e t
structure ST (X:Cx)(e:Expr)(t:TT):Prop where
 h:PT X e t
structure SW (X:Cx)(e:Expr)(t:TT):Prop where
 h:PW X e t
structure SA (X:Cx)(es:List Expr)(t:TA):Prop where
 h:oB X es t
structure SS (X:Cx)(s:Stmt)(t:TS):Prop where
 h:PS X s t
structure SL (X:Cx)(ss:List Stmt)(t:TS):Prop where
 h:lg X ss t
structure SG (X:Cx)(e:Expr)(t:TG):Prop where
 h:PG X e t
structure Bv (X:Cx)(es:List Expr)(t:TGs):Prop where
 h:Aj X es t
structure SI (X:Cx)(tg iter:Expr)(t:TI):Prop where
 h:PI X tg iter t
structure Al (X:Cx)(cs:List Expr)(t:TT):Prop where
 h:jF X cs t
structure SO (X:Cx)(f:Value->Value->Sem Value)(r:R2):Prop where
 h:gP X f r
structure SX (X:Cx)(r:R2):Prop where
 h:Bt X r
structure SC (X:Cx)(f:Value)(r:List V->Hp->VK->Prop):Prop where
 h:cg X f r
structure SM (X:Cx)(id:String)(r:V->List V->Hp->VK->Prop):Prop where
 h:Ah X id r
section
variable {X:Cx}{a b c e o:Expr}{es:List Expr}{ta tb tc te:TE}{t:TA}{tA uB:TT}{pos:Pos}{r:R2}
/-! names,constants -/
theorem v (i:Nat){x:Str}(hN:X.N[i]? = some x:=by rfl)(hv:BS X.env.scope x:=by first | exact Or.inl rfl | exact Or.inr (Or.inl rfl) | exact Or.inr (Or.inr rfl))(hd:(x == ("__debug__":Str))=false:=by decide)
   (hcd:(x == ("__classdict__":Str))=false:=by decide):SE X (.Name x pos) (oi i):=⟨zi hN hv hd hcd⟩
theorem int {i j}:SE X (.Constant (.int i) j pos) (tC (.int i)):=⟨za⟩
theorem bl {k j}:SE X (.Constant (.bool k) j pos) (tC (.bl k)):=⟨AX⟩
theorem aU {j}:SE X (.Constant .none j pos) (tC .aU):=⟨zc⟩
theorem str {x j}:SE X (.Constant (.str x) j pos) (tC (.str x)):=⟨zg⟩
theorem rL {x:Str}{w:V}{u:Value}(hg:Gl X x)(hm:X.mg x=none)(hv:bootBuiltins x=some u)(r:RelV w u)(hn:x≠"__name__":=by decide)(hd:(x == ("__debug__":Str))=false:=by decide):SE X (.Name x pos) (tC w):=⟨wD hg hm hv r hn hd⟩
/-! operations -/
theorem op {k:Operator}(ho:SO X (binaryOp k) r)(ha:SE X a ta)(hb:SE X b tb):SE X (.BinOp a k b pos) (xP r ta tb):=⟨A1 ho.h ha.h hb.h⟩
theorem cmp {k:CmpOp}(ho:SO X (compareOp k) r)(ha:SE X a ta)(hb:SE X b tb)(hm:behindInMarks k b=false:=by exact nO _):ST X (.Compare a [k] [b] pos) (xS (xP r ta tb)):=⟨wW ho.h ha.h hb.h hm⟩
theorem cZ {k:CmpOp}(ho:SO X (compareOp k) r)(ha:SE X a ta)(hb:SE X b tb)(hm:behindInMarks k b=false:=by exact nO _):SE X (.Compare a [k] [b] pos) (xP r ta tb):=⟨wF ho.h ha.h hb.h hm⟩
theorem aW:SO X (binaryOp .Add) (uZ fun i j=>.int (i + j)):=⟨yR⟩
theorem gX:SO X (binaryOp .Sub) (uZ fun i j=>.int (i - j)):=⟨yZ⟩
theorem gW:SO X (binaryOp .Mult) (rI u5 fun i j=>.int (i * j)):=⟨yW⟩
theorem aC:SO X (binaryOp .Mod) (rI (fun _ j=>0 < j) fun i j=>.int (i % j)):=⟨yV⟩
theorem bQ:SO X (binaryOp .FloorDiv) (rI xg fun i j=>.int (i / j)):=⟨ue⟩
theorem xy:SO X (binaryOp .Pow) (rI Ag fun i j=>.int (i ^ j.toNat)):=⟨yY⟩
theorem cI:SO X (binaryOp .Add) A7:=⟨yS⟩
theorem aY:SO X (compareOp .Eq) CV:=⟨AR⟩
theorem qO:SO X (compareOp .NotEq) CW:=⟨AW⟩
theorem dW:SO X (compareOp .Lt) (uZ fun i j=>.bl (decide (i < j))):=⟨AV⟩
theorem AK:SO X (compareOp .GtE) (uZ fun i j=>.bl (decide (j<=i))):=⟨AU⟩
theorem tT {KK:DA}{m:Nat}(hu:X.A.units + (m + 1) < cLine)(hK:X.K=KK:=by first | exact cxC_K | rfl):SO X (compareOp .Eq) (fun x y H Q=>∃b,RB KK H m x y b/\Q (.bl b) H):=by
 subst hK
 exact ⟨yT hu⟩
theorem ka {KK:DA}{m:Nat}(hu:X.A.units + (m + 1) < cLine)(hK:X.K=KK:=by first | exact cxC_K | rfl):SO X (compareOp .NotEq) (fun x y H Q=>∃b,RB KK H m x y b/\Q (.bl (!b)) H):=by
 subst hK
 exact ⟨yX hu⟩
theorem qN {KK:DA}(hK:X.K=KK:=by first | exact cxC_K | rfl):SO X (compareOp .In) (BC KK false):=by
 subst hK
 exact ⟨qY⟩
theorem pf {KK:DA}(hK:X.K=KK:=by first | exact cxC_K | rfl):SO X (compareOp .NotIn) (BC KK true):=by
 subst hK
 exact ⟨kJ⟩
theorem mj:SO X (compareOp .Is) (fun x y H Q=>y=.aU/\Q (.bl (decide (x=.aU))) H):=⟨yU⟩
/-! and,or,not -/
theorem y4 {rest:List Expr}(ha:ST X a tA)(hb:SW X (.BoolOp .Or (b :: rest) pos) uB):SW X (.BoolOp .Or (a :: b :: rest) pos) (C1 tA uB):=⟨A6 ha.h hb.h⟩
theorem y3 (ha:ST X a tA):SW X (.BoolOp .Or [a] pos) tA:=⟨zy ha.h⟩
theorem ly {rest:List Expr}(ha:ST X a tA)(hb:SW X (.BoolOp .And (b :: rest) pos) uB):SW X (.BoolOp .And (a :: b :: rest) pos) (Bi tA uB):=⟨zx ha.h hb.h⟩
theorem lx (ha:ST X a tA):SW X (.BoolOp .And [a] pos) tA:=⟨wX ha.h⟩
theorem tw (h:SW X e tA):ST X e tA:=⟨h.h.pt⟩
theorem nt (ha:ST X a tA):ST X (.UnaryOp .Not a pos) (Bk tA):=⟨zv ha.h⟩
theorem uV (h:SE X e te)(he:∀whole,isTrue e X.env whole=(do let v ← whole; standAt e.pos; holding [v] (truthy v)):=by intro _; rfl):ST X e (tB te):=⟨zw h.h he⟩
/-! items,slices,displays -/
theorem ix (hr:SX X r)(ha:SE X a ta)(hb:SE X b tb)(hs:oD b:=by exact fun _ _=>rfl):SE X (.Subscript a b pos) (xP r ta tb):=⟨AZ hr.h ha.h hb.h hs⟩
theorem bG {KK:DA}(hK:X.K=KK:=by first | exact cxC_K | rfl):SX X (A9 KK):=by
 subst hK
 exact ⟨vQ⟩
theorem aK {KK:DA}(hK:X.K=KK:=by first | exact cxC_K | rfl):SX X (Ba KK):=by
 subst hK
 exact ⟨yB⟩
theorem vA (hu:X.A.units + 1 < cLine)(ho:SE X a ta)(hi:SE X b tb)(hs:rG b:=by exact fun _ _=>rfl):SE X (.Subscript a b pos) (xJ ta tb):=⟨wG hu ho.h hi.h hs⟩
theorem Cp {KK:DA}{p2:Pos}(ha:SE X a ta)(hb:SE X b tb)(hK:X.K=KK:=by first | exact cxC_K | rfl):SE X (.Subscript a (.Slice (some b) none none p2) pos) (Af (zA KK) ta (jz tb) f9):=by
 subst hK
 exact ⟨dX uK ha.h (ei hb.h) iE⟩
theorem n6 {KK:DA}{p2:Pos}(ha:SE X a ta)(hb:SE X b tb)(hK:X.K=KK:=by first | exact cxC_K | rfl):SE X (.Subscript a (.Slice none (some b) none p2) pos) (Af (wY KK) ta f9 (jz tb)):=by
 subst hK
 exact ⟨dX kO ha.h iE (ei hb.h)⟩
theorem n:SA X [] zN:=⟨an⟩
theorem k (ha:SE X e te)(hr:SA X es t)(hs:bg e:=by first | exact mi | exact fR | exact fQ | exact tO | exact jg | exact tR | exact tQ | exact tP | exact xw | exact ns_dc | exact ns_un | exact pe | exact ns_attr) :
   SA X (e :: es) (uO te t):=⟨ac ha.h hr.h hs⟩
theorem tup {x1}(h:SA X es t):SE X (.Tuple es x1 pos) (zO t):=⟨Cy h.h⟩
theorem lst (h:SA X es t):SE X (.List es pos) (zM t):=⟨Cv h.h⟩
/-! calls -/
theorem aH {x:Str}{p:Pos}{id:String}{rr:List V->Hp->VK->Prop}(hc:SC X (.builtin id) rr)(hg:Gl X x)(hm:X.mg x=none)(hv:bootBuiltins x=some (.builtin id))(ha:SA X (e :: es) t)(hn:x≠"__name__":=by decide)(hdb:(x == ("__debug__":Str))=false:=by decide) :
   SE X (.Call (.Name x p) (e :: es) [] pos) (Ae rr t):=⟨zT hc.h hg hm hv ha.h hn hdb⟩
theorem bh {x:Str}{p:Pos}{T:String}{rr:List V->Hp->VK->Prop}(hc:SC X (.type T) rr)(hg:Gl X x)(hm:X.mg x=none)(hv:bootBuiltins x=some (.type T))(ha:SA X (e :: es) t)(hn:x≠"__name__":=by decide)(hdb:(x == ("__debug__":Str))=false:=by decide) :
   SE X (.Call (.Name x p) (e :: es) [] pos) (Ae rr t):=⟨zU hc.h hg hm hv ha.h hn hdb⟩
theorem own {x:Str}{p:Pos}{ps:List Str}{kk:Nat}{sp:Sp}(D:TW.aF X.prog X.w X.K X.mg X.base x ps kk sp)(hr:cM kk X.A)(hg:Gl X x)(ha:SA X (e :: es) t)(hdb:(x == ("__debug__":Str))=false:=by decide) :
   SE X (.Call (.Name x p) (e :: es) [] pos) (pQ sp [] E0 t):=⟨Cw D hr hg ha.h hdb⟩
theorem BW {KK:DA}{name:Str}{apos:Pos}{T id:String}{rr:V->List V->Hp->VK->Prop}(pa:PlainAttrs T)(slot:Slot T name id)(hty:typeOf (.builtin id)=pure (.type "method_descriptor"))(hm:SM X id rr)(ho:SE X o ta)(ha:SA X [e] t)
   (hbase:attributeBase o name X.env (eval o X.env)=eval o X.env:=by rfl) (hline:(apos.endLine == pos.line)=true:=by rfl) (hK:X.K=KK:=by first | exact cxC_K | rfl):SE X (.Call (.Attribute o name apos) [e] [] pos) (Ad KK T rr ta t):=by
 subst hK
 exact ⟨Cu pa slot hty hm.h ho.h ha.h hbase hline⟩
theorem append {KK:DA}{apos:Pos}(ho:SE X o ta)(ha:SA X [e] t)(hbase:attributeBase o "append" X.env (eval o X.env)=eval o X.env:=by rfl)(hline:(apos.endLine == pos.line)=true:=by rfl)(hK:X.K=KK:=by first | exact cxC_K | rfl):SE X (.Call (.Attribute o "append" apos) [e] [] pos) (Ad KK "list" pD ta t):=by
 subst hK
 exact BW Fu PySem.F.slot_list_append PySem.F.type_list_append ⟨j7⟩ ho ha hbase hline
theorem aV {KK:DA}(hK:X.K=KK:=by first | exact cxC_K | rfl):SC X (.builtin "len") (fun xs H Q=>∃p ys,xs=[.ref p]/\(ao KK H p ys\/aq KK H p ys)/\Q (.int ys.length) H):=by
 subst hK
 exact ⟨ko⟩
theorem cw {KK:DA}(hK:X.K=KK:=by first | exact cxC_K | rfl):SC X (.type "list") (fun xs H Q=>∃p ys,xs=[.ref p]/\(ao KK H p ys\/aq KK H p ys)/\∀l,H l=none->Q (.ref l) (upd H l (.lst ys))):=by
 subst hK
 exact ⟨kq⟩
theorem rM {KK:DA}(hc:X.calm=true:=by rfl)(hK:X.K=KK:=by first | exact cxC_K | rfl):SC X (.type "dict") (pE KK):=by
 subst hK
 exact ⟨hJ hc⟩
theorem fz:SC X (.type "int") (fun xs H Q=>(∃i,xs=[.int i]/\Q (.int i) H)\/∃k,xs=[.bl k]/\Q (.int (if k then 1 else 0)) H):=⟨pV⟩
/-! targets -/
theorem gn (i:Nat){x:Str}(hN:X.N.Nodup)(hi:X.N[i]? = some x:=by rfl)(hx:Loc X.env.scope x:=by first | exact Or.inl rfl | exact Or.inr rfl)(hf:X.fn x=true\/X.env.scope.names.lookup x=some .local:=by first | exact .inl rfl | exact .inr rfl):SG X (.Name x pos) (gS i):=⟨wJ hN hi hx hf⟩
theorem fJ:Bv X [] As:=⟨wK⟩
theorem bA {t:TG}{u:TGs}(h1:SG X e t)(h2:Bv X es u)(hs:(assignEach (e :: es) X.env).map (·.2)=assign e X.env :: (assignEach es X.env).map (·.2):=by rfl):Bv X (e :: es) (xr t u):=⟨uo h1.h h2.h hs⟩
theorem bW {KK:DA}{kk:Nat}{t:TGs}(m:Nat)(h:Bv X es t)(hc:X.calm=true:=by rfl)(hn:(assignEach es X.env).length=m:=by rfl)(hst:(assignEach es X.env).findIdx? (·.1)=none:=by rfl)(hK:X.K=KK:=by first | exact cxC_K | rfl):SG X (.Tuple es kk pos) (Au KK m t):=by
 subst hK
 exact ⟨zj hc h.h hn hst⟩
theorem Av {cc:Const}{j:Nat}{p:Pos}(ho:SE X a ta)(hi:SE X (.Constant cc j p) tb):SG X (.Subscript a (.Constant cc j p) pos) (yq ta tb uC):=⟨um ho.h hi.h set_list (fun _=>rfl)⟩
/-! what is walked -/
theorem iL {KK:DA}{tg:Expr}(h:SE X a ta)(hK:X.K=KK:=by first | exact cxC_K | rfl):SI X tg a (xv KK ta):=by
 subst hK
 exact ⟨wL h.h⟩
theorem iT {KK:DA}{tg:Expr}(h:SE X a ta)(hK:X.K=KK:=by first | exact cxC_K | rfl):SI X tg a (Az KK ta):=by
 subst hK
 exact ⟨zk h.h⟩
theorem iR {tg:Expr}{p:Pos}(hg:Gl X "range")(hm:X.mg "range"=none)(ha:SA X [a] t):SI X tg (.Call (.Name "range" p) [a] [] pos) (tE t):=⟨w9 hg hm ha.h⟩
theorem iZ {KK:DA}{p tp:Pos}{elts:List Expr}{x1:Nat}(hg:Gl X "zip")(hm:X.mg "zip"=none)(ha:SA X [a,b] t)(hb:bg b:=by first | exact fR | exact jg | exact fQ)(hK:X.K=KK:=by first | exact cxC_K | rfl):SI X (.Tuple elts x1 tp) (.Call (.Name "zip" p) [a,b] [] pos) (yx KK t):=by
 subst hK
 exact ⟨Cz hg hm ha.h hb⟩
theorem qC:Al X [] zK:=⟨Ck⟩
theorem if1 (h:ST X a tA):Al X [a] tA:=⟨Cm h.h⟩
/-! comprehensions -/
theorem lc {tg iter elt:Expr}{ifs:List Expr}{sc:Scope}{wi:TI}{g:TG}{tifs:TT}(src:List (Option Nat))(N':List Str)(S:aA sc X.env.scope)(hcap:bT sc src N' X.N=true)(hi:SI X tg iter wi)
   (hb:∀s H C fp xe,SG (dI X N' sc s H C fp xe) tg g/\Al (dI X N' sc s H C fp xe) ifs tifs/\SE (dI X N' sc s H C fp xe) elt te) (hc:X.calm=true:=by rfl)
   (hs:∀x,foldedSetIterable iter X.env x=pure x:=by intro _; rfl):SE X (.ListComp elt [⟨tg,iter,ifs,0⟩] sc pos) (dE src (.lst []) wi g tifs (dR te)):=
 ⟨A0 src N' hc S hcap hi.h (fun s H C fp xe=>⟨(hb s H C fp xe).1.h,(hb s H C fp xe).2.1.h,(hb s H C fp xe).2.2.h⟩) hs⟩
theorem Cq {tg iter elt:Expr}{ifs:List Expr}{sc:Scope}{wi:TI}{g:TG}{tifs:TT}{i:Nat}{x:Str}{pos' pos2:Pos}(src:List (Option Nat))(N':List Str)(S:aA sc X.env.scope)(hcap:bT sc src N' X.N=true)(hi:SI X tg iter wi)
   (hb:∀s H C fp xe,SG (dI X N' sc s H C fp xe) tg g/\Al (dI X N' sc s H C fp xe) ifs tifs/\SE (dI X N' sc s H C fp xe) elt te) (hN:X.N.Nodup) (hix:X.N[i]? = some x:=by rfl) (hx:Loc X.env.scope x:=by exact Or.inl rfl)
   (hsw:swapsWith (.ListComp elt [⟨tg,iter,ifs,0⟩] sc pos) (some (.Name x pos')) pos2.line X.env=pure true:=by rfl) (hc:X.calm=true:=by rfl)
   (hs:∀x,foldedSetIterable iter X.env x=pure x:=by intro _; rfl) (hf:X.fn x=true\/X.env.scope.names.lookup x=some .local:=by first | exact .inl rfl | exact .inr rfl) :
   SS X (.Assign [.Name x pos'] (.ListComp elt [⟨tg,iter,ifs,0⟩] sc pos) pos2) (oh (dE src (.lst []) wi g tifs (dR te)) (gS i)):=
 ⟨A5 src N' hc S hcap hi.h (fun s H C fp xe=>⟨(hb s H C fp xe).1.h,(hb s H C fp xe).2.1.h,(hb s H C fp xe).2.2.h⟩) hN hix hx hsw hs hf⟩
theorem Dj {tg iter kx vx:Expr}{ifs:List Expr}{sc:Scope}{wi:TI}{g:TG}{tifs:TT}{tk tv:TE}(src:List (Option Nat))(N':List Str)(hu:X.A.units + 1 < cLine)(S:aA sc X.env.scope)(hcap:bT sc src N' X.N=true)(hi:SI X tg iter wi)
   (hb:∀s H C fp xe,SG (dI X N' sc s H C fp xe) tg g/\Al (dI X N' sc s H C fp xe) ifs tifs/\SE (dI X N' sc s H C fp xe) kx tk/\SE (dI X N' sc s H C fp xe) vx tv) (hc:X.calm=true:=by rfl)
   (hs:∀x,foldedSetIterable iter X.env x=pure x:=by intro _; rfl):SE X (.DictComp kx vx [⟨tg,iter,ifs,0⟩] sc pos) (dE src (.dT []) wi g tifs (vT tk tv)):=
 ⟨y9 src N' hu hc S hcap hi.h (fun s H C fp xe=>⟨(hb s H C fp xe).1.h,(hb s H C fp xe).2.1.h,(hb s H C fp xe).2.2.1.h,(hb s H C fp xe).2.2.2.h⟩) hs⟩
/-! statements -/
variable {st:Stmt}{rest:List Stmt}{u1 u2:TS}
theorem nil:SL X [] xN:=⟨wU⟩
theorem cons (h1:SS X st u1)(h2:SL X rest u2):SL X (st :: rest) (gO u1 u2):=⟨uv h1.h h2.h⟩
theorem one (h1:SS X st u1):SL X [st] u1:=⟨wV h1.h⟩
theorem never:SL X rest uS:=⟨rg⟩
theorem ret (he:SE X e te):SS X (.Return (some e) pos) (Bl te):=⟨zr he.h⟩
theorem ex (he:SE X e te)(hs:swapsWith e none pos.line X.env=pure false:=by rfl):SS X (.Expr e pos) (xK te):=⟨wO he.h hs⟩
theorem ifs {tc:TT}{x y:List Stmt}(hc:ST X c tc)(ha:SL X x u1)(hb:SL X y u2):SS X (.If c x y pos) (zL tc u1 u2):=⟨A4 hc.h ha.h hb.h⟩
theorem set (i:Nat){x:Str}{pos':Pos}(hN:X.N.Nodup)(he:SE X e te)(hi:X.N[i]? = some x:=by rfl)(hx:Loc X.env.scope x:=by first | exact Or.inl rfl | exact Or.inr rfl)(hs:swapsWith e (some (.Name x pos')) pos.line X.env=pure false:=by rfl)(hf:X.fn x=true\/X.env.scope.names.lookup x=some .local:=by first | exact .inl rfl | exact .inr rfl) :
   SS X (.Assign [.Name x pos'] e pos) (oh te (gS i)):=⟨zt hN hi hx he.h hs hf⟩
theorem asg {tg:Expr}{g:TG}(he:SE X e te)(hg:SG X tg g)(hs:swapsWithSole [tg] e pos.line X.env=pure false:=by rfl)(hw:swappedStores [tg] e X.env=pure none:=by rfl)
   (h1:(assignEach [tg] X.env).map (·.2)=[assign tg X.env]:=by rfl):SS X (.Assign [tg] e pos) (oh te g):=⟨zp he.h hg.h hs hw h1⟩
theorem hU {tg iter:Expr}{body:List Stmt}{wi:TI}{g:TG}(hi:SI X tg iter wi)(hg:SG X tg g)(hb:SL X body u1)(hp:PassesOwn (model X.prog X.w) X.A X.env X.xe:=by exact GQ)(hc:X.calm=true:=by rfl)
   (hs:∀x,foldedSetIterable iter X.env x=pure x:=by intro _; rfl):SS X (.For tg iter body [] pos) (Bj wi g u1):=⟨zq hp hc hi.h hg.h hb.h hs⟩
theorem run {ss:List Stmt}{u:TS}(h:SL X ss u):lg X ss u:=h.h
end
end L3
set_option Elab.async false
set_option linter.all false
set_option maxRecDepth 100000
namespace L3
open PySem PySem.Spec PyProof.Rows L2
section
variable {X:Cx}{a b c e o:Expr}{es:List Expr}{ta tb tc te:TE}{t:TA}{tA uB:TT}{pos:Pos}{r:R2}
theorem neg (ha:SE X a ta):SE X (.UnaryOp .USub a pos) (C2 (rU fun i=>.int (-i)) ta):=⟨A2 zR ha.h⟩
theorem Ci (ha:SE X a ta):SE X (.UnaryOp .Not a pos) (xO ta):=⟨zd ha.h⟩
theorem lA {rest:List Expr}(ha:SE X a ta)(hb:SE X (.BoolOp .And (b :: rest) pos) tb):SE X (.BoolOp .And (a :: b :: rest) pos) (xI ta tb):=⟨y8 ha.h hb.h⟩
theorem wz {op}(ha:SE X a ta):SE X (.BoolOp op [a] pos) ta:=⟨ze ha.h⟩
theorem Dp (hc:ST X c tA)(ha:SE X a ta)(hb:SE X b tb):SE X (.IfExp c a b pos) (C0 tA ta tb):=⟨uk hc.h ha.h hb.h⟩
theorem tU:SO X (compareOp .IsNot) (fun x y H Q=>y=.aU/\Q (.bl (!decide (x=.aU))) H):=⟨wB⟩
end
end L3
set_option Elab.async false
set_option linter.all false
set_option maxRecDepth 100000
namespace L2
open PySem PySem.Spec PyProof.Rows
/-! ### len(set(xs)),xs a list of unlike texts -/
end L2
set_option Elab.async false
set_option linter.all false
set_option maxRecDepth 100000
namespace L2
open PySem PySem.Spec PyProof.Rows
section
variable {X:Cx}{a:Expr}{ta:TA}{p1 p2 pos pos2:Pos}
theorem pO:∀{xs:List Str} {us:List Value} {i:Nat} {v:Value},Vals (xs.map V.str) us->us[i]? = some v->∃t,v=FH (xs.getD i "") t
 | [],_,_,_,.nil,h=>by simp at h
 | x :: r,_,0,_,.cons q _,h=>by
   obtain ⟨t,e⟩:=q
   simp at h
   subst h
   exact ⟨t,e⟩
 | x :: r,_,i + 1,v,.cons _ q,h=>by
   obtain ⟨t,e⟩:=pO (xs:=r) (i:=i) q (by simpa using h)
   exact ⟨t,by simpa using e⟩
end
end L2
namespace L3
open PySem PySem.Spec PyProof.Rows L2
end L3
set_option Elab.async false
set_option linter.all false
set_option maxRecDepth 100000
namespace PySem
open Sem (wp)
/-! ### a zip whose tuple is handed out -/
abbrev ZipBusy (h:Heap)(z TI TO T:Addr)(f:Bool):Prop:=
 h.get? z=some { cls:=.type "zip",dict:=none,data:=.fields #[rawInt T,.bool f,.bool false,.ref TI,.ref TO],slots:=#[] }
section
variable {prog:Program}{w:World}{A:Around}{E:Value->Shared->Prop}{s:Shared}
theorem hC {a:Addr}{o:Obj}{Q:Option Obj->Shared->Prop}(h:s.heap.get? a=some o)(k:Q (some o) s):wpAny (model prog w) A (loadIfAlive a) Q E s:=fun Γ p hΓ=>by
 show Sem.wp _ _ (Sem.loadIfAlive a .pure) _ _ _ _
 rw [Sem.wp_loadIfAlive,h]
 exact (wpAny_pure k:wpAny (model prog w) A (Sem.pure (some o)) Q E s) Γ p hΓ
theorem kh {z TI TO T i1 i2 l1 l2:Addr}{f:Bool}{ot:Obj}{k1 k2:Nat}{xs ys:Array Value}{x y:Value}{Q:Value->Shared->Prop}(D:ZipApart z TI TO i1 i2 l1 l2)(hz:ZipBusy s.heap z TI TO T f)(hT:s.heap.get? T=some ot)(hTI:IsPair s.heap TI (.ref i1) (.ref i2))
   (h1:s.heap.IsListIter i1 l1 k1) (h2:s.heap.IsListIter i2 l2 k2) (hl1:s.heap.IsList l1 xs) (hl2:s.heap.IsList l2 ys) (hx:xs[k1]? = some x) (hy:ys[k2]? = some y)
   (hQ:∀h',ZipBusy h' z TI TO T true->h'.IsListIter i1 l1 (k1 + 1)->h'.IsListIter i2 l2 (k2 + 1)->IsPair h' s.heap.objs.size x y->(∀c o,c≠z->c≠i1->c≠i2->s.heap.get? c=some o->h'.get? c=some o)->Q (.ref s.heap.objs.size) { s with heap:=h' }) :
   wpAny (model prog w) A (Builtin.«zip.__next__» ⟨[.ref z],[]⟩) (fun fin s'=>∃v,fin=.done (.ret v)/\Q v s') E s:=by
 show wpAny _ _ (field (.ref z) 2 >>= _) _ _ _
 refine wpAny_bind (wpAny_field hz rfl (x:=.bool false) rfl ?_)
 show wpAny _ _ (field (.ref z) 3 >>= _) _ _ _
 refine wpAny_bind (wpAny_field hz rfl (x:=.ref TI) rfl ?_)
 refine wpAny_bind (wpAny_seqItems hTI rfl ?_)
 show wpAny _ _ (DP (.ref z) >>= _) _ _ _
 refine wpAny_bind ?_
 unfold DP
 refine wpAny_bind (wpAny_field hz rfl (x:=rawInt T) rfl ?_)
 show wpAny _ _ (loadIfAlive (T:Int).toNat >>= _) _ _ _
 rw [E9]
 refine wpAny_bind (hC hT ?_)
 rw [if_neg (by simp)]
 refine wpAny_bind (wpAny_field hz rfl (x:=.bool f) rfl ?_)
 refine wpAny_mono (Q:=fun b t=>b=false/\∃g,t={ s with heap:=g }/\ZipBusy g z TI TO T true/\Ey z s.heap g) ?mark (fun b t hb=>?next) (fun _ _ h=>h)
 case mark=>
   cases f
   · show wpAny _ _ (setField (.ref z) 1 (.bool true) >>= _) _ _ _
     exact wpAny_bind (wpAny_setField_rec hz (by simp) fun g hg hs=>wpAny_pure ⟨rfl,g,rfl,hg,hs⟩)
   · exact wpAny_pure ⟨rfl,s.heap,rfl,hz,⟨rfl,fun _ _=>rfl⟩⟩
 case next=>
   obtain ⟨rfl,g,rfl,gz,gs⟩:=hb
   rw [if_neg (by decide)]
   simp only [← E6]
   simp only [Fj,FR]
   refine wpAny_bind (wpAny_bind (wpAny_bind (wpAny_holding ?_)))
   show wpAny _ _ (D4 (.ref i1) >>= _) _ _ _
   refine wpAny_bind (wpAny_nextOf_list_item (h1.extBut gs.extBut D.i1z) (hl1.extBut gs.extBut D.l1z) hx fun g2 a2 s2=>wpAny_pure ?_)
   refine wpAny_pure ?_
   refine wpAny_bind (wpAny_bind (wpAny_holding ?_))
   show wpAny _ _ (D4 (.ref i2) >>= _) _ _ _
   refine wpAny_bind (wpAny_nextOf_list_item ((h2.extBut gs.extBut D.i2z).extBut s2.extBut D.i12.symm) ((hl2.extBut gs.extBut D.l2z).extBut s2.extBut D.l2i1) hy fun g3 a3 s3=>wpAny_pure ?_)
   refine wpAny_pure ?_
   refine wpAny_pure ?_
   show wpAny _ _ (newTuple [x,y] >>= _) _ _ _
   refine wpAny_bind (wpAny_newTuple (wpAny_pure ⟨_,rfl,?_⟩))
   have sz:g3.objs.size=s.heap.objs.size:=by rw [s3.1,s2.1,gs.1]
   have up:∀c o,c≠z->c≠i1->c≠i2->s.heap.get? c=some o->(g3.push { cls:=.type "tuple",data:=.seq [x,y].toArray }).get? c=some o:=fun c o n1 n2 n3 e=>
     DK _ (s3.extBut _ _ n3 (s2.extBut _ _ n2 (gs.extBut _ _ n1 e)))
   show Q (.ref g3.objs.size) _
   have hnew:IsPair (g3.push { cls:=.type "tuple",data:=.seq [x,y].toArray }) g3.objs.size x y:=DY _ rfl
   rw [sz] at hnew ⊢
   exact hQ _ (DK _ (s3.extBut _ _ D.i2z.symm (s2.extBut _ _ D.i1z.symm gz))) ((a2.extBut s3.extBut D.i12).at fun o e=>DK _ e) (a3.at fun o e=>DK _ e) hnew up
theorem mH {z TI TO T i1 i2 l1 l2:Addr}{f:Bool}{ot:Obj}{k1 k2:Nat}{xs ys:Array Value}{Q:Fin->Shared->Prop}(hh:A.handled=none)(D:ZipApart z TI TO i1 i2 l1 l2)(hz:ZipBusy s.heap z TI TO T f)(hT:s.heap.get? T=some ot)(hTI:IsPair s.heap TI (.ref i1) (.ref i2))
   (h1:s.heap.IsListIter i1 l1 k1) (h2:s.heap.IsListIter i2 l2 k2) (hl1:s.heap.IsList l1 xs) (hl2:s.heap.IsList l2 ys) (hend:xs[k1]? = none\/ys[k2]? = none)
   (hE:∀h' e,(∀c o,c≠z->c≠i1->c≠i2->s.heap.get? c=some o->h'.get? c=some o)->(∃o,h'.get? e=some o/\o.cls=.type "StopIteration")->E (.ref e) { s with heap:=h' }) :
   wpAny (model prog w) A (Builtin.«zip.__next__» ⟨[.ref z],[]⟩) Q E s:=by
 show wpAny _ _ (field (.ref z) 2 >>= _) _ _ _
 refine wpAny_bind (wpAny_field hz rfl (x:=.bool false) rfl ?_)
 show wpAny _ _ (field (.ref z) 3 >>= _) _ _ _
 refine wpAny_bind (wpAny_field hz rfl (x:=.ref TI) rfl ?_)
 refine wpAny_bind (wpAny_seqItems hTI rfl ?_)
 show wpAny _ _ (DP (.ref z) >>= _) _ _ _
 refine wpAny_bind ?_
 unfold DP
 refine wpAny_bind (wpAny_field hz rfl (x:=rawInt T) rfl ?_)
 show wpAny _ _ (loadIfAlive (T:Int).toNat >>= _) _ _ _
 rw [E9]
 refine wpAny_bind (hC hT ?_)
 rw [if_neg (by simp)]
 refine wpAny_bind (wpAny_field hz rfl (x:=.bool f) rfl ?_)
 refine wpAny_mono (Q:=fun b t=>b=false/\∃g,t={ s with heap:=g }/\ZipBusy g z TI TO T true/\Ey z s.heap g) ?mark (fun b t hb=>?next) (fun _ _ h=>h)
 case mark=>
   cases f
   · show wpAny _ _ (setField (.ref z) 1 (.bool true) >>= _) _ _ _
     exact wpAny_bind (wpAny_setField_rec hz (by simp) fun g hg hs=>wpAny_pure ⟨rfl,g,rfl,hg,hs⟩)
   · exact wpAny_pure ⟨rfl,s.heap,rfl,hz,⟨rfl,fun _ _=>rfl⟩⟩
 case next=>
   obtain ⟨rfl,g,rfl,gz,gs⟩:=hb
   rw [if_neg (by decide)]
   simp only [← E6]
   simp only [Fj,FR]
   refine wpAny_bind (wpAny_bind (wpAny_bind (wpAny_holding ?_)))
   show wpAny _ _ (D4 (.ref i1) >>= _) _ _ _
   cases hx:xs[k1]? with
   | none=>
     refine wpAny_bind (wpAny_nextOf_list_end hh (h1.extBut gs.extBut D.i1z) (hl1.extBut gs.extBut D.l1z) hx fun g2 e k2 he=>?_)
     exact hE g2 e (fun c o n1 n2 _ q=>k2 _ _ n2 (gs.extBut _ _ n1 q)) he
   | some x=>
     have hy:ys[k2]? = none:=by
       rcases hend with q | q
       · rw [hx] at q; cases q
       · exact q
     refine wpAny_bind (wpAny_nextOf_list_item (h1.extBut gs.extBut D.i1z) (hl1.extBut gs.extBut D.l1z) hx fun g2 a2 s2=>wpAny_pure ?_)
     refine wpAny_pure ?_
     refine wpAny_bind (wpAny_bind (wpAny_holding ?_))
     show wpAny _ _ (D4 (.ref i2) >>= _) _ _ _
     refine wpAny_bind (wpAny_nextOf_list_end hh ((h2.extBut gs.extBut D.i2z).extBut s2.extBut D.i12.symm) ((hl2.extBut gs.extBut D.l2z).extBut s2.extBut D.l2i1) hy fun g3 e k3 he=>?_)
     exact hE g3 e (fun c o n1 n2 n3 q=>k3 _ _ n3 (s2.extBut _ _ n2 (gs.extBut _ _ n1 q))) he
theorem nN {z TI TO T i1 i2 l1 l2:Addr}{f:Bool}{ot:Obj}{k1 k2:Nat}{xs ys:Array Value}{x y:Value}{Q:Option Value->Shared->Prop}(D:ZipApart z TI TO i1 i2 l1 l2)(hz:ZipBusy s.heap z TI TO T f)(hT:s.heap.get? T=some ot)(hTI:IsPair s.heap TI (.ref i1) (.ref i2))
   (h1:s.heap.IsListIter i1 l1 k1) (h2:s.heap.IsListIter i2 l2 k2) (hl1:s.heap.IsList l1 xs) (hl2:s.heap.IsList l2 ys) (hx:xs[k1]? = some x) (hy:ys[k2]? = some y)
   (hQ:∀h',ZipBusy h' z TI TO T true->h'.IsListIter i1 l1 (k1 + 1)->h'.IsListIter i2 l2 (k2 + 1)->IsPair h' s.heap.objs.size x y->(∀c o,c≠z->c≠i1->c≠i2->s.heap.get? c=some o->h'.get? c=some o)->Q (some (.ref s.heap.objs.size)) { s with heap:=h' }) :
   wpAny (model prog w) A (pyNext (.ref z)) Q E s:=by
 have ty:s.TypeIs (.ref z) "zip":=⟨_,hz,rfl⟩
 unfold pyNext
 refine wpAny_bind (wpAny_attempt (Ej (name:=DD "__next__") ty EN (wpAny_call_entry EN ty FK (kh D hz hT hTI h1 h2 hl1 hl2 hx hy ?_) (FG _))))
 exact fun g a b c d e=>wpAny_pure (hQ g a b c d e)
theorem qM {z TI TO T i1 i2 l1 l2:Addr}{f:Bool}{ot:Obj}{k1 k2:Nat}{xs ys:Array Value}{Q:Option Value->Shared->Prop}(hh:A.handled=none)(D:ZipApart z TI TO i1 i2 l1 l2)(hz:ZipBusy s.heap z TI TO T f)(hT:s.heap.get? T=some ot)(hTI:IsPair s.heap TI (.ref i1) (.ref i2))
   (h1:s.heap.IsListIter i1 l1 k1) (h2:s.heap.IsListIter i2 l2 k2) (hl1:s.heap.IsList l1 xs) (hl2:s.heap.IsList l2 ys) (hend:xs[k1]? = none\/ys[k2]? = none)
   (hQ:∀h',(∀c o,c≠z->c≠i1->c≠i2->s.heap.get? c=some o->h'.get? c=some o)->Q none { s with heap:=h' }):wpAny (model prog w) A (pyNext (.ref z)) Q E s:=by
 have ty:s.TypeIs (.ref z) "zip":=⟨_,hz,rfl⟩
 unfold pyNext
 refine wpAny_bind (wpAny_attempt (Ej (name:=DD "__next__") ty EN (wpAny_call_entry EN ty FK (mH hh D hz hT hTI h1 h2 hl1 hl2 hend fun g e kk he=>?_) (FG _))))
 obtain ⟨o,ho,hc⟩:=he
 exact wpAny_bind (wpAny_isInstance (T:="StopIteration") (b:=true) ⟨o,ho,hc⟩ isSubtype_stop (wpAny_pure (hQ _ kk)))
end
end PySem
set_option Elab.async false
set_option linter.all false
set_option maxRecDepth 100000
namespace PySem
theorem xa:typeLookup (.type "zip") "keys"=pure none:=by rw [typeLookup_type,builtinLookup_eq_fast]; kernel_rfl
theorem Bs:typeLookup (.type "zip") "__getattr__"=pure none:=by rw [typeLookup_type,builtinLookup_eq_fast]; kernel_rfl
theorem uY:entryFor table "zip.__getattribute__"=some Builtin.«object.__getattribute__»:=entryFor_alias (id':="object.__getattribute__") (by kernel_rfl) (by decide +kernel) (by decide +kernel) (by kernel_rfl)
theorem xc (z:Addr)(fl:Array Value)(u:Tok) :
   Meets (Builtin.«object.__getattribute__» ⟨[.ref z,.str "keys" u],[]⟩) (fun A R s=>s.heap.get? z=some { cls:=.type "zip",dict:=none,data:=.fields fl,slots:=#[] }/\raisesAttr (.ref z) "keys" A R s):=
 Meets.of_wp fun P w A R s h=>by
   obtain ⟨hp,g,d,tk,os⟩:=s
   obtain ⟨hz,h⟩:=h
   have ty:(⟨hp,g,d,tk,os⟩ : Shared).TypeIs (.ref z) "zip":=⟨_,hz,rfl⟩
   have e0:=xa
   unfold Builtin.«object.__getattribute__»
   repeat (any_goals (first | assumption | wp_step))
   exact wpAny_raiseAttrError h.1 h.2 (attrMsg_fits (by decide +kernel) (by decide +kernel))
section
variable {P:Program}{w:World}{A:Around}{E:Value->Shared->Prop}{s:Shared}
theorem Br {z:Addr}{fl:Array Value}{u:Tok}{Q:Value->Shared->Prop}(hz:s.heap.get? z=some { cls:=.type "zip",dict:=none,data:=.fields fl,slots:=#[] })(free:A.handled=none)
   (k:∀g tk e,Heap.NewAttrErr s.heap g e (.ref z) "keys"->E (.ref e) { s with heap:=g,toks:=tk }):wpAny (model P w) A (getAttrBy (.ref z) (.str "keys" u) false) Q E s:=by
 obtain ⟨hp,g,d,tk,os⟩:=s
 have ty:∀t,(⟨hp,g,d,t,os⟩ : Shared).TypeIs (.ref z) "zip":=fun _=>⟨_,hz,rfl⟩
 have q1:=sub_AttributeError
 have q2:=F.slot_zip_getattribute.lookup
 have q3:=F.slot_zip_getattribute.bind (.ref z)
 have q4:=Bs
 unfold getAttrBy
 repeat (any_goals (first | assumption | exact ty _ | ((with_reducible show wpAny _ _ (call (Gz "zip.__getattribute__") _ _) _ _ _); refine call_meets F.slot_zip_getattribute (ty _) uY (F.args_zip_getattribute_2 _ _) (xc z fl _) ⟨hz,free,fun g' tk' e ne=>?_⟩) | wp_step))
 obtain ⟨t',u',he⟩:=ne.there
 show wpAny _ _ (getattributeRaised _ _ _ _ _ _ _) _ _ _
 unfold getattributeRaised
 repeat (any_goals (first | assumption | wp_step))
 exact k _ _ _ ne
theorem xf {z:Addr}{fl:Array Value}{Q:Option Value->Shared->Prop}(hz:s.heap.get? z=some { cls:=.type "zip",dict:=none,data:=.fields fl,slots:=#[] })(free:A.handled=none)
   (k:∀g tk,(∀b o,s.heap.get? b=some o->g.get? b=some o)->Q none { s with heap:=g,toks:=tk }):wpAny (model P w) A (getAttr? (.ref z) "keys") Q E s:=by
 unfold getAttr? getAttrBy?
 refine wpAny_bind (wpAny_mkText (wpAny_bind (wpAny_attempt (Br hz free fun g tk e ne=>?_))))
 obtain ⟨t',u',he⟩:=ne.there
 refine wpAny_bind (wpAny_isInstance (T:="AttributeError") (b:=true) ⟨_,he,rfl⟩ sub_AttributeError (wpAny_pure (k g _ ne.keeps)))
end
end PySem
set_option Elab.async false
set_option linter.all false
set_option maxRecDepth 100000
namespace L2
open PySem PySem.Spec PyProof.Rows
/-! ### dict(zip(a,b)),two lists of one length,the first of keys -/
structure lp (h:Heap)(z TI TO i1 i2 l1 l2:Addr)(i:Nat):Prop where
 ti:IsPair h TI (.ref i1) (.ref i2)
 to:∃x y,IsPair h TO x y
 a:h.IsListIter i1 l1 i
 b:h.IsListIter i2 l2 i
 z:IsZip h z TI TO .none\/∃T f x y,ZipBusy h z TI TO T f/\IsPair h T x y
theorem lp.ob {h:Heap}{z TI TO i1 i2 l1 l2:Addr}{i:Nat}(s:lp h z TI TO i1 i2 l1 l2 i):∃fl,h.get? z=some { cls:=.type "zip",dict:=none,data:=.fields fl,slots:=#[] }:=by
 rcases s.z with e | ⟨T,f,x,y,e,_⟩
 · exact ⟨_,e⟩
 · exact ⟨_,e⟩
theorem lp.but {h g:Heap}{z TI TO i1 i2 l1 l2 D:Addr}{i:Nat}(s:lp h z TI TO i1 i2 l1 l2 i)(k:Heap.ExtBut D h g)(n1:z≠D)(n2:TI≠D)(n3:TO≠D)(n4:i1≠D)(n5:i2≠D)(dict:∀x y,¬ IsPair h D x y):lp g z TI TO i1 i2 l1 l2 i:=by
 obtain ⟨t1,⟨x,y,t2⟩,a,b,zz⟩:=s
 refine ⟨k _ _ n2 t1,⟨x,y,k _ _ n3 t2⟩,a.extBut k n4,b.extBut k n5,?_⟩
 rcases zz with e | ⟨T,f,x,y,e,p⟩
 · exact .inl (k _ _ n1 e)
 · exact .inr ⟨T,f,x,y,k _ _ n1 e,k _ _ (fun q=>dict x y (q ▸ p)) p⟩
section
variable {P:Program}{w:World}{A:Around}{E:Value->Shared->Prop}{s:Shared}
theorem lp.item {z TI TO i1 i2 l1 l2:Addr}{i:Nat}{us vs:Array Value}{u v:Value}{Q:Option Value->Shared->Prop}(D:ZipApart z TI TO i1 i2 l1 l2)(st:lp s.heap z TI TO i1 i2 l1 l2 i)(h1:s.heap.IsList l1 us)(h2:s.heap.IsList l2 vs)(hu:us[i]? = some u)(hv:vs[i]? = some v)
   (k:∀g,lp g z TI TO i1 i2 l1 l2 (i + 1)->IsPair g s.heap.objs.size u v->(∀c o,c ∉ ([z,TO,i1,i2]:List Addr)->s.heap.get? c=some o->g.get? c=some o)->Q (some (.ref s.heap.objs.size)) { s with heap:=g }):wpAny (model P w) A (pyNext (.ref z)) Q E s:=by
 obtain ⟨t1,⟨x,y,t2⟩,a,b,zz⟩:=st
 rcases zz with e | ⟨T,f,x',y',e,p⟩
 · refine wpAny_pyNext_zip_item D e t1 t2 a b h1 h2 hu hv fun g b1 b2 b3 b4 b5 b6 kk=>?_
   refine k g ⟨kk _ _ D.TIz D.TITO D.TIi1 D.TIi2 t1,⟨_,_,b2⟩,b3,b4,.inr ⟨_,_,_,_,b1,b5⟩⟩ b5 fun c o hc q=>?_
   simp only [DX,DT,or_false,not_or] at hc
   exact kk c o hc.1 hc.2.1 hc.2.2.1 hc.2.2.2 q
 · have nz:T≠z:=fun q=>by
     subst q
     have h:=congrArg Obj.cls (D2 (e.symm.trans p))
     simp at h
   have n1:T≠i1:=fun q=>by
     subst q
     obtain ⟨o,ho,hc,_⟩:=a
     rw [D2 (ho.symm.trans p)] at hc
     simp at hc
   have n2:T≠i2:=fun q=>by
     subst q
     obtain ⟨o,ho,hc,_⟩:=b
     rw [D2 (ho.symm.trans p)] at hc
     simp at hc
   refine nN D e p t1 a b h1 h2 hu hv fun g b1 b3 b4 b5 kk=>?_
   refine k g ⟨kk _ _ D.TIz D.TIi1 D.TIi2 t1,⟨_,_,kk _ _ D.TOz D.TOi1 D.TOi2 t2⟩,b3,b4,.inr ⟨T,true,_,_,b1,kk _ _ nz n1 n2 p⟩⟩ b5 fun c o hc q=>?_
   simp only [DX,DT,or_false,not_or] at hc
   exact kk c o hc.1 hc.2.2.1 hc.2.2.2 q
theorem lp.done {z TI TO i1 i2 l1 l2:Addr}{i:Nat}{us vs:Array Value}{Q:Option Value->Shared->Prop}(free:A.handled=none)(D:ZipApart z TI TO i1 i2 l1 l2)(st:lp s.heap z TI TO i1 i2 l1 l2 i)(h1:s.heap.IsList l1 us)(h2:s.heap.IsList l2 vs)(hu:us[i]? = none)
   (k:∀g,(∀c o,c ∉ ([z,TO,i1,i2]:List Addr)->s.heap.get? c=some o->g.get? c=some o)->Q none { s with heap:=g }):wpAny (model P w) A (pyNext (.ref z)) Q E s:=by
 obtain ⟨t1,⟨x,y,t2⟩,a,b,zz⟩:=st
 rcases zz with e | ⟨T,f,x',y',e,p⟩
 · refine wpAny_pyNext_zip_end free D e t1 t2 a b h1 h2 (.inl hu) fun g kk=>k g fun c o hc q=>?_
   simp only [DX,DT,or_false,not_or] at hc
   exact kk c o hc.1 hc.2.1 hc.2.2.1 hc.2.2.2 q
 · refine qM free D e p t1 a b h1 h2 (.inl hu) fun g kk=>k g fun c o hc q=>?_
   simp only [DX,DT,or_false,not_or] at hc
   exact kk c o hc.1 hc.2.2.1 hc.2.2.2 q
end
section
variable {X:Cx}
theorem vR {ks:List Key}{ys:List V}{i:Nat}{k:Key}{y:V}(h1:ks[i]? = some k)(h2:ys[i]? = some y):(ks.drop i).zip (ys.drop i)=(k,y) :: (ks.drop (i + 1)).zip (ys.drop (i + 1)):=by
 have l1:=(List.getElem?_eq_some_iff.mp h1)
 have l2:=(List.getElem?_eq_some_iff.mp h2)
 obtain ⟨a1,e1⟩:=l1
 obtain ⟨a2,e2⟩:=l2
 rw [EL a1,EL a2,e1,e2]
 rfl
theorem uX {pins:List (Addr×Obj)}{σ:St}{A:Around}{D z TI TO i1 i2 l1 l2:Addr}{ks:List Key}{ys:List V}(hh:A.handled=none)(ap:ZipApart z TI TO i1 i2 l1 l2)(hly:ks.length=ys.length) :
   ∀(n i:Nat) (j:Int) (t:Tok) (d:List (Key×V)) (H:Hp) (s:Shared) (R:Result->Shared->Prop),ks.length - i=n->i<=ks.length->Inv X pins σ H s->H D=some (.dK d)->d.length + n<=sizeLine->ao X.K H l1 (ks.map kV)->ao X.K H l2 ys->(∀c∈([z,TI,TO,i1,i2]:List Addr),cq X pins H c) ->
     lp s.heap z TI TO i1 i2 l1 l2 i->(∀s',Inv X pins σ (upd H D (.dK (putAll d ((ks.drop i).zip (ys.drop i))))) s'->R (.ok (.ret .none)) s') ->
     codeAny (model X.prog X.w) A (.builtin "dict.update.loop" ⟨[.ref D,.ref z,.int j t,.none],[]⟩) R s:=by
 intro n
 induction n using FO with
 | _ n ih=>
   intro i j t d H s R hn hi I hD hz hq1 hq2 fp st hR
   obtain ⟨its1,rv1,p1,_⟩:=I.list hq1
   obtain ⟨its2,rv2,p2,_⟩:=I.list hq2
   have hl1:=rv1.length
   have hl2:=rv2.length
   rw [DC] at hl1
   have ch:∀c∈([z,TO,i1,i2]:List Addr),cq X pins H c:=fun c hc=>fp c (by simp only [DX,DT,or_false] at hc ⊢; rcases hc with r | r | r | r <;> simp [r])
   refine codeAny_builtin ck ?_
   have hA:(A.under (.builtin "dict.update.loop" ⟨[.ref D,.ref z,.int j t,.none],[]⟩)).handled=none:=hh
   generalize A.under (.builtin "dict.update.loop" ⟨[.ref D,.ref z,.int j t,.none],[]⟩)=A' at hA ⊢
   unfold Builtin.«dict.update.loop»
   show wpAny _ _ (pyNext (.ref z) >>= _) _ _ _
   by_cases hlt:i < ks.length
   · obtain ⟨kk,hk⟩ : ∃kk,ks[i]? = some kk:=⟨ks[i],DH hlt⟩
     obtain ⟨yy,hy⟩ : ∃yy,ys[i]? = some yy:=⟨ys[i]'(by omega),DH (by omega)⟩
     obtain ⟨u,hu,ru⟩:=rv1.get (show (ks.map kV)[i]? = some (kV kk) by rw [Ed,hk]; rfl)
     obtain ⟨v,hv,rv⟩:=rv2.get hy
     refine wpAny_bind (st.item ap p1.isList p2.isList (u:=u) (v:=v) (by simpa using hu) (by simpa using hv) fun g st' np kp=>?_)
     have I1:Inv X pins σ H { s with heap:=g }:=I.many0 (t':=s.toks) ch kp
     refine wpAny_bind (wpAny_holding ?_)
     refine wpAny_bind (wpAny_tryCatch (fN (show ({ s with heap:=g }:Shared).heap.IsTuple s.heap.objs.size #[u,v] from ⟨_,np,rfl,_,rfl⟩) ?_))
     show wpAny _ _ (holding [u,v] (dictSet D u v)) _ _ _
     obtain ⟨_,hd',vs,rel,dd⟩:=oP I1.hok hD
     have hzv:vs.length<=sizeLine:=by rw [← rel.length]; omega
     have hln:(putK d kk yy).length<=d.length + 1:=bO d kk yy
     refine wpAny_holding (wpAny_dictSet_pairs (hsz:=hzv) (gU ru) dd fun h2 dd' hs2=>?_)
     have he:∃q,h2.get? D=some q:=let ⟨q,_,_,hq,_⟩:=dd'; ⟨q,hq⟩
     have ne:∀c∈([z,TI,TO,i1,i2]:List Addr),c≠D:=fun c hc q=>by have:=(fp c hc).1; rw [q,hD] at this; cases this
     have keepL:∀{l:Addr} {xs:List V},ao X.K H l xs->ao X.K (upd H D (.dK (putK d kk yy))) l xs:=fun hq=>by
       rcases hq with (q | ⟨o,q⟩) | q
       · exact .inl (.inl (by rw [aj (cA q hD (fun z=>nomatch z))]; exact q))
       · exact .inl (.inr ⟨o,by rw [aj (cA q hD (fun z=>nomatch z))]; exact q⟩)
       · exact .inr q
     have nodict:∀x y,¬ IsPair g D x y:=fun x y q=>by
       obtain ⟨o,ho,hc⟩:=(show Shared.TypeIs { s with heap:=g } (.ref D) "dict" from dd.typeIs)
       rw [D2 (ho.symm.trans q)] at hc
       simp at hc
     refine wpAny_pure ⟨Fp _ (by decide +kernel),?_⟩
     refine ih (ks.length - (i + 1)) (by omega) (i + 1) _ _ (putK d kk yy) (upd H D (.dK (putK d kk yy))) _ R rfl hlt (dm (t':=_) I1 (by rw [hD]; exact DV) hs2 he (ku (by omega) hd' (rel.put kk rv) dd')) ae (by omega) (keepL hq1) (keepL hq2) (fun c hc=>⟨by rw [aj (ne c hc)]; exact (fp c hc).1,(fp c hc).2⟩)
       (st'.but hs2.extBut (ne z (by simp)) (ne TI (by simp)) (ne TO (by simp)) (ne i1 (by simp)) (ne i2 (by simp)) nodict) ?_
     intro s' I'
     rw [bE] at I'
     rw [vR hk hy] at hR
     exact hR s' I'
   · have hge:ks.length<=i:=by omega
     refine wpAny_bind (st.done hA ap p1.isList p2.isList (by simp; omega) fun g kp=>?_)
     have I1:Inv X pins σ H { s with heap:=g }:=I.many0 (t':=s.toks) ch kp
     have e0:(ks.drop i).zip (ys.drop i)=[]:=by rw [GI hge]; rfl
     have e:upd H D (.dK (putAll d ((ks.drop i).zip (ys.drop i))))=H:=by
       rw [e0]
       funext b
       unfold upd
       split
       · rename_i hb; rw [hb,hD]; rfl
       · rfl
     rw [e] at hR
     show wpAny _ _ (F6 D [] >>= _) _ _ _
     exact wpAny_bind (wpAny_pure (wpAny_pure (hR _ I1)))
end
end L2
set_option Elab.async false
set_option linter.all false
set_option maxRecDepth 100000
namespace L2
open PySem PySem.Spec PyProof.Rows
theorem lp.up {h g:Heap}{z TI TO i1 i2 l1 l2:Addr}{i:Nat}(s:lp h z TI TO i1 i2 l1 l2 i)(k:∀c o,h.get? c=some o->g.get? c=some o):lp g z TI TO i1 i2 l1 l2 i:=by
 obtain ⟨t1,⟨x,y,t2⟩,a,b,zz⟩:=s
 refine ⟨k _ _ t1,⟨x,y,k _ _ t2⟩,a.at fun o e=>k _ o e,b.at fun o e=>k _ o e,?_⟩
 rcases zz with e | ⟨T,f,x,y,e,p⟩
 · exact .inl (k _ _ e)
 · exact .inr ⟨T,f,x,y,k _ _ e,k _ _ p⟩
def mC (K:DA)(ta:TA):TE:=fun σ H Q=>ta σ H fun vs H1=>∃(l1 l2:Addr) (ks:List Key) (ys:List V),vs=[.ref l1,.ref l2]/\ao K H1 l1 (ks.map kV)/\ao K H1 l2 ys/\ks.length=ys.length/\ks.length<=1000/\∀D,H1 D=none->Q (.ref D) (upd H1 D (.dK (putAll [] (ks.zip ys))))
section
variable {X:Cx}{a b:Expr}{ta:TA}{p1 p2 pos pos2:Pos}
theorem nR (hc:X.calm=true)(hg1:Gl X "dict")(hm1:X.mg "dict"=none)(hg2:Gl X "zip")(hm2:X.mg "zip"=none)(ha:oB X [a,b] ta)(hb:bg b)(hv1:bootBuiltins "dict"=some (.type "dict"):=by first | rfl | decide +kernel)(hv2:bootBuiltins "zip"=some (.type "zip"):=by first | rfl | decide +kernel) :
   PE X (.Call (.Name "dict" p1) [.Call (.Name "zip" p2) [a,b] [] pos2] [] pos) (mC X.K ta):=by
 intro pins s σ H Q I h
 refine wpAny_Call_Name_kw (dr I hg1 hm1 hv1 ?_ (by decide) (by decide))
 refine Em ?_ rfl rfl
 show wpAny _ _ (spliced ((false,eval (.Call (.Name "zip" p2) [a,b] [] pos2) X.env) :: [])) _ _ s
 refine E5 (wpAny_Call_Name_kw (dr I hg2 hm2 hv2 ?_ (by decide) (by decide)))
 refine Em (aX (ha.pa pos2 pins s σ H _ I h) fun us s1 ⟨vs,H1,I1,r1,q1⟩=>?_) ((ha.ns a [b] rfl).1.h [b] X.env) ((ha.ns a [b] rfl).2 pos2 X.env)
 obtain ⟨l1,l2,ks,ys,e,hq1,hq2,hlen,h1000,q⟩:=q1
 subst e
 obtain ⟨u,v,rfl,ru,rv⟩:=Vals.two r1
 obtain rfl:u=D8 l1:=ru
 obtain rfl:v=D8 l2:=rv
 obtain ⟨its1,rv1,p1,_⟩:=I1.list hq1
 obtain ⟨its2,rv2,p2,_⟩:=I1.list hq2
 have lt1:l1 < s1.heap.objs.size:=by obtain ⟨_,_,e,_⟩:=p1; exact DL e
 have lt2:l2 < s1.heap.objs.size:=by obtain ⟨_,_,e,_⟩:=p2; exact DL e
 refine call_zip_2 p1.isList p2.isList fun h' hz hTI hTO hi1 hi2 hsz hk=>?_
 refine Fw ?_
 have hh:X.A.handled=none:=I1.ok.hd hc
 have ap:=zipApart_new lt1 lt2
 have st:lp h' (s1.heap.objs.size + 4) (s1.heap.objs.size + 2) (s1.heap.objs.size + 3) s1.heap.objs.size (s1.heap.objs.size + 1) l1 l2 0:=⟨hTI,⟨_,_,hTO⟩,hi1,hi2,.inl hz⟩
 have I2:Inv X pins σ H1 { s1 with heap:=h' }:=I1.kept (t':=s1.toks) hk
 have up:∀k,cq X pins H1 (s1.heap.objs.size + k):=fun k=>I1.fpOk (E1 _ _) (I1.hok.fresh (E1 _ _))
 have fp1:∀c∈([s1.heap.objs.size + 4,s1.heap.objs.size + 2,s1.heap.objs.size + 3,s1.heap.objs.size,s1.heap.objs.size + 1]:List Addr),cq X pins H1 c/\c < h'.objs.size:=fun c hcc=>by
   simp only [DX,DT,or_false] at hcc
   rw [hsz]
   rcases hcc with rfl | rfl | rfl | rfl | rfl
   · exact ⟨up 4,Nat.lt_succ_self _⟩
   · exact ⟨up 2,by show _ + 2 < _ + 5; exact Fm (by decide) _⟩
   · exact ⟨up 3,by show _ + 3 < _ + 5; exact Fm (by decide) _⟩
   · exact ⟨up 0,by show _ + 0 < _ + 5; exact Fm (by decide) _⟩
   · exact ⟨up 1,by show _ + 1 < _ + 5; exact Fm (by decide) _⟩
 generalize s1.heap.objs.size + 4=z at hz st ap fp1 ⊢
 generalize s1.heap.objs.size + 2=TI at hz hTI st ap fp1
 generalize s1.heap.objs.size + 3=TO at hz hTO st ap fp1
 generalize s1.heap.objs.size + 1=i2 at st ap fp1
 generalize s1.heap.objs.size=i1 at st ap fp1
 have hD:H1 h'.objs.size=none:=I2.hok.fresh (DJ _)
 have I3:Inv X pins σ (upd H1 h'.objs.size (.dK [])) { s1 with heap:=h'.push { cls:=.type "dict",data:=.dict #[] } }:=I2.laid (t':=s1.toks) (fun _ _ e=>DK _ e) (DJ _) (lG h' I2.big)
 have st3:=st.up (g:=h'.push { cls:=.type "dict",data:=.dict #[] }) fun c o e=>DK _ e
 refine callType_codes (s:={ s1 with heap:=h' }) (Q₁:=fun obj t=>obj=.ref h'.objs.size/\t={ s1 with heap:=h'.push { cls:=.type "dict",data:=.dict #[] } }) F.kt_called_dict (F.kt_typeCall_dict_1 _) F.entry_dict_init (kt_code_dict_new _ ⟨rfl,rfl⟩) ?_
 rintro obj t ⟨rfl,rfl⟩
 have hnew:(h'.push { cls:=.type "dict",data:=.dict #[] }).DictOf (aD X.prog X.w) h'.objs.size []:=FZ h'
 have fpD:∀c∈([z,TI,TO,i1,i2]:List Addr),cq X pins (upd H1 h'.objs.size (.dK [])) c:=fun c hcc=>⟨by rw [aj (Ea (fp1 c hcc).2)]; exact (fp1 c hcc).1.1,(fp1 c hcc).1.2⟩
 generalize hs3:({ s1 with heap:=h'.push { cls:=.type "dict",data:=.dict #[] } }:Shared)=s3 at I3 ⊢
 have hnew3:s3.heap.DictOf (aD X.prog X.w) h'.objs.size []:=by rw [← hs3]; exact hnew
 have hz3:IsZip s3.heap z TI TO .none:=by rw [← hs3]; exact DK _ hz
 have st3':lp s3.heap z TI TO i1 i2 l1 l2 0:=by rw [← hs3]; exact st3
 generalize h'.objs.size=D at hD I3 hnew3 fpD ⊢
 have keepL:∀{l:Addr} {xs:List V},ao X.K H1 l xs->ao X.K (upd H1 D (.dK [])) l xs:=fun hq=>by
   rcases hq with (r | ⟨o,r⟩) | r
   · exact .inl (.inl (by rw [aj (ai r hD)]; exact r))
   · exact .inl (.inr ⟨o,by rw [aj (ai r hD)]; exact r⟩)
   · exact .inr r
 refine ⟨hnew3.typeIs,F.args_dict_init_2 _ _,?_⟩
 unfold Builtin.«dict.__init__»
 refine wpAny_bind ?_
 unfold F5
 refine wpAny_bind (wpAny_notOrdered_dict hnew3.typeIs ?_)
 show wpAny _ _ (pure (D,[D8 z])) _ _ _
 refine wpAny_pure ?_
 show wpAny _ _ (EX "dict.__init__" D (.ref z) [] .none) _ _ _
 unfold EX
 obtain ⟨fl,eo⟩:=st3'.ob
 refine wpAny_bind (wpAny_typeOf (T:="zip") ⟨_,eo,rfl⟩ ?_)
 rw [if_pos (by decide)]
 refine wpAny_bind (xf eo hh fun g tk kk=>?_)
 rw [if_pos (show (Option.isNone (none:Option Value))=true from rfl)]
 have I4:Inv X pins σ (upd H1 D (.dK [])) { s3 with heap:=g,toks:=tk }:=I3.kept kk
 have st4:lp g z TI TO i1 i2 l1 l2 0:=st3'.up kk
 refine wpAny_bind (wpAny_rule ?_)
 refine wpAny_bind (wpAny_pyIter_zip (kk _ _ hz3) ?_)
 refine wpAny_pure ⟨Fp _ (by decide +kernel),?_⟩
 refine uX (D:=D) (pins:=pins) (σ:=σ) (A:=X.A.in1) (show X.A.in1.handled=none from hh) ap hlen ks.length 0 _ _ [] _ _ _ (by simp) (Ep _) I4 ae (by simp; exact Eb h1000 (by decide)) (keepL hq1) (keepL hq2) fpD st4 ?_
 intro s' I'
 rw [bE,EU,EU] at I'
 exact ⟨rfl,.ref D,_,I',rfl,q D hD⟩
end
end L2
namespace L3
open PySem PySem.Spec PyProof.Rows L2
theorem oO {X:Cx}{a b:Expr}{t:TA}{p1 p2 pos pos2:Pos}{KK:DA}(hg1:Gl X "dict")(hm1:X.mg "dict"=none)(hg2:Gl X "zip")(hm2:X.mg "zip"=none)(ha:SA X [a,b] t)(hb:bg b:=by first | exact fR | exact jg | exact fQ)(hc:X.calm=true:=by rfl)(hK:X.K=KK:=by first | exact cxC_K | rfl) :
   SE X (.Call (.Name "dict" p1) [.Call (.Name "zip" p2) [a,b] [] pos2] [] pos) (mC KK t):=by
 subst hK
 exact ⟨nR hc hg1 hm1 hg2 hm2 ha.h hb⟩
end L3
set_option Elab.async false
set_option linter.all false
set_option maxRecDepth 100000
namespace L2
open PySem PySem.Spec PyProof.Rows
section
variable {X:Cx}{pos:Pos}
/-- xs.index(y),a list of texts -/
def uA (K:DA):V->List V->Hp->VK->Prop:=fun x vs H Q=>∃(l:Addr) (xs:List Str) (y:Str) (j:Nat),x=.ref l/\vs=[.str y]/\ao K H l (xs.map V.str)/\xs[j]? = some y/\(∀m,m < j->xs[m]? ≠ some y)/\xs.length<=1000/\Q (.int j) H
theorem tL:Ah X "list.index" (uA X.K):=by
 intro pins s σ H x vs v us Q I rx rv h
 obtain ⟨l,xs,y,j,rfl,rfl,hq,hj,hno,h1000,q⟩:=h
 cases rx
 obtain ⟨u,rfl,ru⟩:=rv.one
 obtain ⟨its,rl,pl,hz⟩:=I.list hq
 have hlen:=rl.length
 rw [DC] at hlen
 have hjl:j < xs.length:=(List.getElem?_eq_some_iff.mp hj).1
 obtain ⟨o,ho,hcl,n,hd⟩:=pl.isList
 obtain ⟨oc,od,oda,osl⟩:=o
 simp only at hcl hd
 subst hcl
 subst hd
 have tx:∀m (hm:m < its.toArray.size),∃t,its.toArray[m]=FH (xs[m]'(by simp at hm; omega)) t:=fun m hm=>by
   have hm':m < xs.length:=by simp at hm; omega
   obtain ⟨t,e⟩:=pO (xs:=xs) (i:=m) rl (show its[m]? = some (its.toArray[m]) by simp at hm ⊢)
   refine ⟨t,e.trans ?_⟩
   rw [EI,DH hm']
   rfl
 let e:Value->Bool:=fun a=>match a with | .str z _=>decide (z=y) | _=>false
 refine call_meets F.slot_list_index ⟨_,ho,rfl⟩ F.entry_list_index (F.args_list_index_2 _ _) (SeqAt.list_indexAt l its.toArray n od osl u e j (by simp; omega) (by omega) ?hit ?no) ⟨ho,?eqs,?fin⟩
 case hit=>
   obtain ⟨t,et⟩:=tx j (by simp; omega)
   rw [et]
   show decide (_=y)=true
   rw [(List.getElem?_eq_some_iff.mp hj).2]
   simp
 case no=>
   intro m hm hmj
   obtain ⟨t,et⟩:=tx m hm
   rw [et]
   show decide (_=y)=false
   have hm':m < xs.length:=by simp at hm; omega
   have:=hno m hmj
   rw [DH hm'] at this
   simpa using this
 case eqs=>
   intro a ha
   obtain ⟨m,hm,em⟩:=Array.getElem_of_mem ha
   obtain ⟨t,et⟩:=tx m hm
   rw [em] at et
   have r1:RelV (V.str (xs[m]'(by simp at hm; omega))) a:=⟨t,et⟩
   have h1:=mV (A:=X.A.in1) (s:=s) r1 ru rfl rfl
   have h2:mX (V.str (xs[m]'(by simp at hm; omega))) (.str y)=e a:=by
     rw [et]
     show (xs[m]'(by simp at hm; omega) == y)=decide (_=y)
     by_cases hh:xs[m]'(by simp at hm; omega)=y <;> simp [hh]
   rw [h2] at h1
   exact h1
 case fin=>exact ⟨.int j,H,I.tok _,⟨_,rfl⟩,q⟩
end
end L2
namespace L3
open PySem PySem.Spec PyProof.Rows L2
section
variable {X:Cx}{a b c e o:Expr}{es:List Expr}{ta tb tc te:TE}{t:TA}{pos:Pos}
theorem index {apos:Pos}{KK:DA}(ho:SE X o ta)(ha:SA X [e] t)(hbase:attributeBase o "index" X.env (eval o X.env)=eval o X.env:=by rfl)(hline:(apos.endLine == pos.line)=true:=by rfl)(hK:X.K=KK:=by first | exact cxC_K | rfl) :
   SE X (.Call (.Attribute o "index" apos) [e] [] pos) (Ad KK "list" (uA KK) ta t):=by
 subst hK
 exact BW Fu PySem.F.slot_list_index PySem.F.type_list_index ⟨tL⟩ ho ha hbase hline
theorem extend {apos:Pos}{KK:DA}(ho:SE X o ta)(ha:SA X [e] t)(hbase:attributeBase o "extend" X.env (eval o X.env)=eval o X.env:=by rfl)(hline:(apos.endLine == pos.line)=true:=by rfl)(hK:X.K=KK:=by first | exact cxC_K | rfl) :
   SE X (.Call (.Attribute o "extend" apos) [e] [] pos) (Ad KK "list" pF ta t):=by
 subst hK
 exact BW Fu PySem.F.slot_list_extend PySem.F.type_list_extend ⟨qL⟩ ho ha hbase hline
theorem xm {f:Expr}{tf:TE}{apos:Pos}(hu:X.A.units + 1 < cLine)(ho:SE X o ta)(he:SE X e te)(hf:SE X f tf)(m:M2 X o "get" apos e f pos:=by exact ⟨rfl,rfl,rfl,rfl⟩):SE X (.Call (.Attribute o "get" apos) [e,f] [] pos) (uP ta te tf):=⟨uh hu ho.h he.h hf.h m⟩
theorem ou {cnd:Expr}{body:List Stmt}{tcn:TT}{u1:TS}(hcn:ST X cnd tcn)(hb:SL X body u1)(hp:PassesOwn (model X.prog X.w) X.A X.env X.xe:=by exact GQ):SS X (.While cnd body [] pos) (uT tcn u1):=⟨uu hp hcn.h hb.h⟩
end
end L3
set_option Elab.async false
set_option linter.all false
set_option maxRecDepth 100000
/-! ### keys that are tuples with tuples within -/
namespace L2
open PySem PySem.Spec PyProof.Rows
abbrev NI:=Key ⊕ List Key
section
variable (P:Program)(w:World)
def hG (h:Heap):NI->Value->Prop
 | .inl k,v=>(aD P w).is k v=true
 | .inr ks,v=>∃b,v=.ref b/\IsTupleKey (aD P w) h ks b
def ff:NI->Int
 | .inl k=>(aD P w).hash k
 | .inr ks=>tupleKeyHash (aD P w) ks
def oV:NI->Nat
 | .inl _=>1
 | .inr ks=>ks.length + 1
def dy (ks:List NI):Nat:=(ks.map oV).sum
def bM (sh:List Bool)(h:Heap)(ks:List NI)(a:Addr):Prop:=
 ks.map EE=sh/\∃ob its n,h.get? a=some ob/\ob.cls=.type "tuple"/\ob.data=.seq its n/\Paired (hG P w h) ks its.toList
def mf (ks:List NI):Int:=reduceHash (Eu (ks.map (ff P w)))
end
section
variable {P:Program}{w:World}{sh:List Bool}{h h':Heap}{A:Around}{E:Value->Shared->Prop}{s:Shared}
theorem gV (xs:List NI)(x:NI):dy (xs++[x])=dy xs + oV x:=by
 unfold dy
 rw [DS,FI]
 simp
theorem bM.tyIs {ks:List NI}{a:Addr}(x:bM P w sh s.heap ks a):s.TypeIs (.ref a) "tuple":=by
 obtain ⟨_,ob,_,_,e,c,_⟩:=x
 exact ⟨ob,e,c⟩
theorem tF {x y:NI}{v:Value}(hs:x.isLeft=y.isLeft)(hx:hG P w h x v)(hy:hG P w h y v):x=y:=by
 cases x with
 | inl k=>
   cases y with
   | inl j=>rw [(aD P w).inj v k j hx hy]
   | inr js=>simp at hs
 | inr ks=>
   cases y with
   | inl j=>simp at hs
   | inr js=>
     obtain ⟨b,rfl,hb⟩:=hx
     obtain ⟨c,e,hc⟩:=hy
     cases e
     rw [hb.inj hc]
theorem oW:∀{xs ys:List NI} {vs:List Value},xs.map EE=ys.map EE->Paired (hG P w h) xs vs->Paired (hG P w h) ys vs->xs=ys
 | _,_,_,_,.nil,.nil=>rfl
 | _,_,_,hs,.cons p q,.cons p' q'=>by
   simp only [D7,F4] at hs
   rw [tF hs.1 p p',oW hs.2 q q']
theorem bM.uniq {xs ys:List NI}{a:Addr}(hx:bM P w sh h xs a)(hy:bM P w sh h ys a):xs=ys:=by
 obtain ⟨e1,ob,its,n,g1,_,d1,p1⟩:=hx
 obtain ⟨e2,ob',its',n',g2,_,d2,p2⟩:=hy
 rw [g1] at g2
 cases g2
 rw [d1] at d2
 injection d2 with z _
 subst z
 exact oW (e1.trans e2.symm) p1 p2
theorem bM.stays {ks:List NI}{a d:Addr}{ob:Obj}{es ep}(x:bM P w sh h ks a)(g:h.get? d=some ob)(dd:ob.data=.dict es ep)(sb:Ey d h h'):bM P w sh h' ks a:=by
 obtain ⟨e1,o2,its,n,g2,c2,d2,p2⟩:=x
 have ne:a≠d:=fun z=>by
   subst z
   rw [g] at g2
   cases g2
   rw [dd] at d2
   cases d2
 refine ⟨e1,o2,its,n,(sb.2 a ne).trans g2,c2,d2,Paired.mapP p2 fun i v z=>?_⟩
 cases i with
 | inl k=>exact z
 | inr js=>
   obtain ⟨b,e,q⟩:=z
   exact ⟨b,e,q.keeps g dd sb⟩
theorem qA {ks:List NI}{a:Addr}{Q:Int->Shared->Prop}(hu:A.units + 1 < cLine)(hk:bM P w sh s.heap ks a)(fin:Q (mf P w ks) { s with toks:=s.toks + (dy ks + 1) }) :
   wpAny (model P w) A (pyHash (.ref a)) Q E s:=by
 have ty:=hk.tyIs
 obtain ⟨_,ob,its,n,g,_,dd,pr⟩:=hk
 unfold pyHash pyHashByItsType
 refine wpAny_bind (wpAny_cRoomFor_or (.inr (Nat.lt_of_succ_lt hu)) ?_)
 refine wpAny_bind (wpAny_specialOf ty F.slot_tuple_hash.lookup ?_)
 show wpAny _ _ (ite ((some (Gz "tuple.__hash__") == some Gs)=true) _ _) Q E s
 rw [if_neg (fun z=>by rw [beq_builtin_none] at z; cases z)]
 refine wpAny_bind (wpAny_specialOf ty F.slot_tuple_hash.lookup ?_)
 show wpAny _ _ (FN (callSpecialIfBoundUnlessNone? (.ref a) "__hash__" _) _) Q E s
 refine wpAny_bind (wpAny_callSpecialIfBoundUnlessNone?_slot ty F.slot_tuple_hash (wpAny_call_entry F.slot_tuple_hash ty F.entry_tuple_hash ?_ (F.args_tuple_hash_1 _)))
 show wpAny _ _ (FN (Fb (.ref a)) _) _ _ s
 refine wpAny_bind (wpAny_tupleItemsOf g dd ?_)
 refine wpAny_bind ?_
 rw [← E6]
 refine wpAny_forIn_list _
   (fun rest (b:Array Int) s'=>∃done left,ks=done++left/\Paired (hG P w s.heap) left rest/\b.toList=done.map (ff P w)/\s'={ s with toks:=s.toks + dy done })
   _ ?_ ?_ _ _ ⟨[],ks,rfl,pr,rfl,rfl⟩
 · rintro x rest b s' ⟨done,left,rfl,hl,hb,rfl⟩
   cases hl with
   | @cons k _ ks' _ h1 hl'=>
     have go:∀(A':Around) (E':Value->Shared->Prop),A'.units < cLine->wpAny (model P w) A' (pyHash x) (fun i s2=>i=ff P w k/\s2={ s with toks:=s.toks + dy (done++[k]) }) E' { s with toks:=s.toks + dy done }:=by
       intro A' E' hu'
       cases k with
       | inl k=>exact (aD P w).pyHash h1 ⟨rfl,by rw [gV]; rfl⟩
       | inr js=>
         obtain ⟨c,rfl,hc⟩:=h1
         exact wpAny_pyHash_tuple (s:={ s with toks:=s.toks + dy done }) hu' hc ⟨rfl,by rw [gV]; exact congrArg (fun t=>({ s with toks:=t }:Shared)) (Fh _ _ _)⟩
     refine wpAny_bind (aX (go _ _ hu) fun i s2 z=>?_)
     obtain ⟨rfl,rfl⟩:=z
     exact wpAny_pure ⟨done++[k],ks',by simp,hl',by simp [hb],rfl⟩
 · rintro b s' ⟨done,left,rfl,hl,hb,rfl⟩
   cases hl
   rw [Es] at fin
   show wpAny _ _ (retInt (Eu b.toList)) _ _ _
   rw [hb]
   refine wpAny_ret_mkInt ?_
   unfold mf reduceHash at fin
   rw [← Fh] at fin
   show wpAny _ _ (ite ((decide (-(2:Int) ^ 63<=Eu (done.map (ff P w))) && decide (Eu (done.map (ff P w)) < 2 ^ 63))=true) _ _) Q E _
   by_cases z:(decide (-(2:Int) ^ 63<=Eu (done.map (ff P w))) && decide (Eu (done.map (ff P w)) < 2 ^ 63))=true
   · rw [if_pos z] at fin ⊢
     exact wpAny_pure fin
   · rw [if_neg z] at fin ⊢
     exact wpAny_bind (wpAny_rule (wpAny_pure fin))
theorem vP {x y:NI}{u v:Value}{Q:Bool->Shared->Prop}(hu:A.units < cLine)(hs:x.isLeft=y.isLeft)(hx:hG P w s.heap x u)(hy:hG P w s.heap y v)(fin:Q (decide (x=y)) s):wpAny (model P w) A (eqBool u v) Q E s:=by
 cases x with
 | inl k=>
   cases y with
   | inl j=>
     refine (aD P w).eqBool hx hy ?_
     have e:decide (k=j)=decide ((Sum.inl k:NI)=.inl j):=by simp
     rw [e]
     exact fin
   | inr js=>simp at hs
 | inr ks=>
   cases y with
   | inl j=>simp at hs
   | inr js=>
     obtain ⟨b,rfl,hb⟩:=hx
     obtain ⟨c,rfl,hc⟩:=hy
     refine wpAny_eqBool_tuple hu hb hc ?_
     have e:decide (ks=js)=decide ((Sum.inr ks:NI)=.inr js):=by simp
     rw [e]
     exact fin
theorem vB {xs ys:List NI}{a b:Addr}{Pf:Fin->Shared->Prop}(hu:A.units < cLine)(hx:bM P w sh s.heap xs a)(hy:bM P w sh s.heap ys b)(fin:Pf (.done (.ret (.bool (decide (xs=ys))))) s) :
   wpAny (model P w) A (Builtin.«tuple.__eq__» ⟨[.ref a,.ref b],[]⟩) Pf E s:=by
 have tb:=hy.tyIs
 obtain ⟨e1,oa,us,na,ga,_,da,pa⟩:=hx
 obtain ⟨e2,ob,vs,nb,gb,_,db,pb⟩:=hy
 show wpAny _ _ (FN (isInstance (.ref b) (.type "tuple")) _) _ _ s
 refine wpAny_bind (wpAny_isInstance tb isSubtype_tuple_tuple ?_)
 simp only [Ff,Et,if_false]
 refine wpAny_bind (wpAny_tupleItemsOf ga da ?_)
 refine wpAny_bind (wpAny_tupleItemsOf gb db ?_)
 refine wpAny_bind ?_
 have l1:=Paired.length pa
 have l2:=Paired.length pb
 have l3:xs.length=ys.length:=by have:=congrArg E8 (e1.trans e2.symm); simpa using this
 refine wpAny_forIn_list _
   (fun rest r s2=>r.1=none/\s2=s/\∃x' y' u' v',rest=List.zip u' v'/\x'.map EE=y'.map EE/\Paired (hG P w s.heap) x' u'/\Paired (hG P w s.heap) y' v'/\decide (x'=y')=decide (xs=ys))
   _ ?_ ?_ _ _ ⟨rfl,rfl,xs,ys,us.toList,vs.toList,rfl,e1.trans e2.symm,pa,pb,rfl⟩
 · rintro ⟨u,v⟩ rest r s2 ⟨hr,rfl,x',y',u',v',hz,hs,hx',hy',hd⟩
   cases hx' with
   | nil=>simp at hz
   | @cons k1 u1 x2 u2 h1 hx2=>
     cases hy' with
     | nil=>simp at hz
     | @cons k2 v1 y2 v2 h2 hy2=>
       simp only [List.zip_cons_cons,F4,Prod.mk.injEq] at hz
       obtain ⟨⟨rfl,rfl⟩,rfl⟩:=hz
       simp only [D7,F4] at hs
       refine wpAny_bind (vP hu hs.1 h1 h2 ?_)
       by_cases hk:k1=k2
       · subst hk
         rw [decide_eq_true rfl]
         simp only [Ff,Et,if_false]
         refine wpAny_pure ⟨rfl,rfl,x2,y2,u2,v2,rfl,hs.2,hx2,hy2,?_⟩
         rw [← hd]
         simp
       · rw [decide_eq_false hk]
         simp only [Bool.not_false,if_true]
         have hf:decide (xs=ys)=false:=by rw [← hd]; simp [hk]
         rw [hf] at fin
         exact wpAny_bind (wpAny_pure (wpAny_pure (wpAny_pure fin)))
 · rintro ⟨r1,r2⟩ s2 ⟨hr,rfl,x',y',u',v',hz,hs,hx',hy',hd⟩
   simp only at hr
   subst hr
   refine wpAny_pure ?_
   have e3:(us.size == vs.size)=true:=by
     rw [beq_iff_eq,← EO,← EO]
     omega
   have e4:decide (xs=ys)=true:=by
     rw [← hd]
     cases hx' with
     | nil=>
       cases hy' with
       | nil=>rfl
       | cons _ _=>simp at hs
     | cons _ _=>
       cases hy' with
       | nil=>simp at hs
       | cons _ _=>simp at hz
   show Pf (.done (.ret (.bool (us.size == vs.size)))) s2
   rw [e3,← e4]
   exact fin
theorem r9 {xs ys:List NI}{a b:Addr}{Q:Bool->Shared->Prop}(hu:A.units + 1 < cLine)(hx:bM P w sh s.heap xs a)(hy:bM P w sh s.heap ys b)(fin:Q (decide (xs=ys)) s) :
   wpAny (model P w) A (eqBool (.ref a) (.ref b)) Q E s:=by
 unfold eqBool
 refine wpAny_holding ?_
 show wpAny _ _ (ite ((D8 a == D8 b)=true) _ _) Q E s
 by_cases ab:(D8 a == D8 b)=true
 · rw [if_pos ab]
   have e:=eq_of_beq ab
   cases e
   obtain rfl:=hx.uniq hy
   exact wpAny_bind (wpAny_rule (wpAny_pure (by simpa using fin)))
 · rw [if_neg ab]
   exact wpAny_bind (wpAny_richCompare_same_room (op:=.Eq) hx.tyIs hy.tyIs F.slot_tuple_eq
     (wpAny_call_entry F.slot_tuple_eq hx.tyIs F.entry_tuple_eq (vB hu hx hy ⟨_,rfl,(fun z=>nomatch z),wpAny_truthy_bool fin⟩) (F.args_tuple_eq_2 _ _)) (Nat.lt_of_succ_lt hu))
theorem nU {m:Nat}{ks:List Key}{a:Addr}{Q:Bool->Shared->Prop}(hk:IsTupleKey (aD P w) s.heap ks a)(fin:Q true s):wpAny (model P w) A (eqIsQuiet (m + 1) (.ref a)) Q E s:=by
 have ty:=hk.typeIs
 obtain ⟨ob,its,n,g,_,dd,hi⟩:=hk
 unfold eqIsQuiet
 refine wpAny_bind (wpAny_specialOf ty F.slot_tuple_eq.lookup ?_)
 show wpAny _ _ (FN (isInstance (.ref a) (.type "tuple")) _) _ _ s
 refine wpAny_bind (wpAny_isInstance ty isSubtype_tuple_tuple ?_)
 simp only [Ff,Et,if_false]
 refine wpAny_bind (wpAny_seqItems g dd ?_)
 refine wpAny_bind ?_
 show wpAny _ _ (forIn its _ _) _ _ s
 rw [← E6]
 refine wpAny_forIn_list _ (fun rest r s2=>r.1=none/\s2=s/\∀v∈rest,carriedByValue v=true) _ ?_ ?_ _ _ ⟨rfl,rfl,hi.byValue⟩
 · rintro v rest r s2 ⟨hr,rfl,all⟩
   rw [eqIsQuiet_byValue _ (all v Ef)]
   refine wpAny_bind (wpAny_pure ?_)
   simp only [Ff,Et,if_false]
   exact wpAny_pure ⟨rfl,rfl,fun u hu=>all u (El _ hu)⟩
 · rintro ⟨r1,r2⟩ s2 ⟨hr,rfl,_⟩
   simp only at hr
   subst hr
   exact wpAny_pure fin
theorem nV {ks:List NI}{a:Addr}{Q:Bool->Shared->Prop}(hk:bM P w sh s.heap ks a)(fin:Q true s):wpAny (model P w) A (eqIsQuiet 8 (.ref a)) Q E s:=by
 have ty:=hk.tyIs
 obtain ⟨_,ob,its,n,g,_,dd,pr⟩:=hk
 unfold eqIsQuiet
 refine wpAny_bind (wpAny_specialOf ty F.slot_tuple_eq.lookup ?_)
 show wpAny _ _ (FN (isInstance (.ref a) (.type "tuple")) _) _ _ s
 refine wpAny_bind (wpAny_isInstance ty isSubtype_tuple_tuple ?_)
 simp only [Ff,Et,if_false]
 refine wpAny_bind (wpAny_seqItems g dd ?_)
 refine wpAny_bind ?_
 show wpAny _ _ (forIn its _ _) _ _ s
 rw [← E6]
 refine wpAny_forIn_list _ (fun rest r s2=>r.1=none/\s2=s/\∃left,Paired (hG P w s.heap) left rest) _ ?_ ?_ _ _ ⟨rfl,rfl,_,pr⟩
 · rintro v rest r s2 ⟨hr,rfl,left,pl⟩
   cases pl with
   | @cons k _ left2 _ h1 h2=>
     have go:wpAny (model P w) A (eqIsQuiet 7 v) (fun b s3=>b=true/\s3=s2) E s2:=by
       cases k with
       | inl k=>
         rw [eqIsQuiet_byValue _ ((aD P w).byValue _ _ h1)]
         exact wpAny_pure ⟨rfl,rfl⟩
       | inr js=>
         obtain ⟨c,rfl,hc⟩:=h1
         exact nU hc ⟨rfl,rfl⟩
     refine wpAny_bind (aX go fun b s3 z=>?_)
     obtain ⟨rfl,rfl⟩:=z
     simp only [Ff,Et,if_false]
     exact wpAny_pure ⟨rfl,rfl,left2,h2⟩
 · rintro ⟨r1,r2⟩ s2 ⟨hr,rfl,_⟩
   simp only at hr
   subst hr
   exact wpAny_pure fin
def fP (P:Program)(w:World)(sh:List Bool):HeapKind P w (List NI) where
 is:=bM P w sh
 hash:=mf P w
 draws:=fun ks=>dy ks + 1
 room:=fun A=>A.units + 1 < cLine
 inj:=fun hx hy=>hx.uniq hy
 keeps:=fun x g d sb=>x.stays g d sb
 pyHash:=fun hu hk fin=>qA hu hk fin
 eqBool:=fun hu hx hy fin=>r9 hu hx hy fin
 quiet:=fun hk fin=>nV hk fin
theorem gJ (hu:A.units + 2 < cLine):(fP P w sh).room A.in1:=hu
end
end L2
set_option Elab.async false
set_option linter.all false
set_option maxRecDepth 100000
/-! ### a dict whose keys are tuples with tuples within -/
namespace L2
open PySem PySem.Spec PyProof.Rows
abbrev NKV:=List (List NI×Addr×V)
abbrev mI:NKV->List (List NI×Addr×Value)->Prop:=Paired fun p q=>p.1=q.1/\p.2.1=q.2.1/\RelV p.2.2 q.2.2
def C9 (P:Program)(w:World)(d:Addr)(kvs:NKV):Heap->Prop:=fun h=>∃xs,mI kvs xs/\∃o es ep,h.get? d=some o/\o.ExactDict/\o.data=.dict es ep/\es.toList=xs.map fun x=>⟨mf P w x.1,.ref x.2.1,x.2.2⟩
def DN (P:Program)(w:World)(d:Addr)(kvs:NKV):HO:=.ext (C9 P w d kvs)
def CM (H:Hp):NI->V->Prop
 | .inl k,v=>v=kV k
 | .inr ks,v=>∃c,v=.ref c/\H c=some (.tup (ks.map kV))
def cj (H:Hp)(b:Addr)(ks:List NI):Prop:=∃us,H b=some (.tup us)/\Paired (CM H) ks us
structure ND (P:Program)(w:World)(sh:List Bool)(H:Hp)(d:Addr)(kvs:NKV):Prop where
 at_:H d=some (DN P w d kvs)
 len:kvs.length<=sizeLine
 nd:(kvs.map (·.1)).Nodup
 keys:∀p∈kvs,cj H p.2.1 p.1/\p.1.map EE=sh
 main:(d == sysModules)=false
def valN (kvs:NKV)(k:List NI):Option V:=(kvs.find? fun p=>decide (p.1=k)).map (·.2.2)
theorem cj.keep {H H':Hp}{b:Addr}{ks:List NI}(h:cj H b ks)(ht:∀b us,H b=some (.tup us)->H' b=some (.tup us)):cj H' b ks:=by
 obtain ⟨us,e,p⟩:=h
 refine ⟨us,ht _ _ e,Paired.mapP p fun i v z=>?_⟩
 cases i with
 | inl k=>exact z
 | inr js=>
   obtain ⟨c,ec,hc⟩:=z
   exact ⟨c,ec,ht _ _ hc⟩
section
variable {P:Program}{w:World}{sh:List Bool}{H H':Hp}{h h':Heap}{d:Addr}{kvs:NKV}
theorem ND.keep (x:ND P w sh H d kvs)(hd:H' d=some (DN P w d kvs))(ht:∀b us,H b=some (.tup us)->H' b=some (.tup us)):ND P w sh H' d kvs:=
 ⟨hd,x.len,x.nd,fun p hp=>⟨(x.keys p hp).1.keep ht,(x.keys p hp).2⟩,x.main⟩
theorem rA {k:List NI}(e:valN kvs k=none):k ∉ kvs.map (·.1):=by
 intro hm
 obtain ⟨p,hp,rfl⟩:=List.mem_map.mp hm
 unfold valN at e
 rw [Option.map_eq_none_iff,List.find?_eq_none] at e
 exact e p hp (decide_eq_true rfl)
theorem ND.put {b:Addr}{ks:List NI}{v:V}(x:ND P w sh H d kvs)(kb:cj H b ks)(hs:ks.map EE=sh)(no:valN kvs ks=none)(hl:kvs.length < sizeLine) :
   ND P w sh (upd H d (DN P w d (kvs++[(ks,b,v)]))) d (kvs++[(ks,b,v)]):=by
 have ht:∀c us,H c=some (.tup us)->(upd H d (DN P w d (kvs++[(ks,b,v)]))) c=some (.tup us):=fun c us e=>by
   rw [aj (cA e x.at_ (fun z=>nomatch z))]
   exact e
 refine ⟨ae,by rw [DE]; exact hl,?_,fun p hp=>?_,x.main⟩
 · rw [DS]
   refine oY x.nd ?_
   exact rA no
 · rcases List.mem_append.mp hp with z | z
   · exact ⟨(x.keys p z).1.keep ht,(x.keys p z).2⟩
   · obtain rfl:p=(ks,b,v):=by simpa using z
     exact ⟨kb.keep ht,hs⟩
theorem fL {b:Addr}{ks:List NI}(ok:eF P w H h)(kb:cj H b ks)(hs:ks.map EE=sh):(fP P w sh).is h ks b:=by
 obtain ⟨us,e,p⟩:=kb
 obtain ⟨_,its,r,o,h1,h2,n,h3⟩:=(show aP P w H h b (.tup us) from ok b _ e)
 refine ⟨hs,o,its.toArray,n,h1,h2,h3,?_⟩
 have go:∀{ks:List NI} {us:List V} {its:List Value},Paired (CM H) ks us->Vals us its->Paired (hG P w h) ks its:=by
   intro ks us its p
   induction p generalizing its with
   | nil=>intro r; cases r; exact .nil
   | @cons i v _ _ q _ ih=>
     intro r
     cases r with
     | cons a b=>
       refine .cons ?_ (ih b)
       cases i with
       | inl k=>subst q; exact gU a
       | inr js=>
         obtain ⟨c,rfl,hc⟩:=q
         cases a
         exact ⟨c,rfl,gG ok hc⟩
 exact go p r
theorem mI.val {kvs:NKV}{xs:List (List NI×Addr×Value)}(r:mI kvs xs)(k:List NI):eQ (valN kvs k) ((atKey xs k).map (·.2)):=by
 induction r with
 | nil=>exact DV
 | @cons p q _ _ z t ih=>
   unfold valN atKey at ih ⊢
   rw [EM,EM,← z.1]
   by_cases e:p.1=k
   · rw [decide_eq_true e]
     exact z.2.2
   · rw [decide_eq_false e]
     exact ih
theorem c9 (ok:eF P w H h)(x:ND P w sh H d kvs):∃xs,mI kvs xs/\h.DictOfH (fP P w sh) d xs:=by
 obtain ⟨⟨xs,r,o,es,ep,h1,h2,h3,h4⟩,_,_⟩:=(show aP P w H h d (DN P w d kvs) from ok d _ x.at_)
 refine ⟨xs,r,o,es,ep,h1,h2,h3,h4,fun q hq=>?_,?_⟩
 · have all:∀{l:NKV} {m:List (List NI×Addr×Value)},mI l m->(∀p∈l,cj H p.2.1 p.1/\p.1.map EE=sh)->∀q∈m,(fP P w sh).is h q.1 q.2.1:=by
     intro l m z
     induction z with
     | nil=>intro _ q hq; exact nomatch hq
     | @cons p q0 _ _ zz t ih=>
       intro hk q hq
       rcases List.mem_cons.mp hq with e | hq
       · subst e
         obtain ⟨k1,k2⟩:=hk p Ef
         rw [← zz.1,← zz.2.1]
         exact fL ok k1 k2
       · exact ih (fun p hp=>hk p (El _ hp)) q hq
   exact all r x.keys q hq
 · have e:xs.map (·.1)=kvs.map (·.1):=by
     have go:∀{l:NKV} {m:List (List NI×Addr×Value)},mI l m->m.map (·.1)=l.map (·.1):=by
       intro l m z
       induction z with
       | nil=>rfl
       | cons a _ ih=>rw [D7,D7,ih,a.1]
     exact go r
   rw [e]
   exact x.nd
theorem xn {H2:Hp}{xs:List (List NI×Addr×Value)}(r:mI kvs xs){o:Obj}{es ep}(h1:h.get? d=some o)(h2:o.ExactDict)(h3:o.data=.dict es ep)(h4:es.toList=xs.map fun x=>⟨mf P w x.1,.ref x.2.1,x.2.2⟩):aP P w H2 h d (DN P w d kvs):=by
 refine ⟨⟨xs,r,o,es,ep,h1,h2,h3,h4⟩,⟨o,h1⟩,fun g1 g2 x k=>?_⟩
 obtain ⟨ys,r',o',es',ep',k1,k2,k3,k4⟩:=x
 exact ⟨ys,r',o',es',ep',k _ k1,k2,k3,k4⟩
end
section
variable {X:Cx}{pins:List (Addr×Obj)}{σ:St}{H:Hp}{s:Shared}{d b:Addr}{sh:List Bool}{kvs:NKV}{ks:List NI}{v:V}{A:Around}{E:Value->Shared->Prop}
theorem vU {Q:Value->Shared->Prop}(hu:A.units + 2 < cLine)(I:Inv X pins σ H s)(x:ND X.prog X.w sh H d kvs)(kb:cj H b ks)(hs:ks.map EE=sh)(fin:∀s2,Inv X pins σ H s2->Q (.bool (!(valN kvs ks).isSome)) s2) :
   wpAny (model X.prog X.w) A (compareOp .NotIn (.ref b) (.ref d)) Q E s:=by
 obtain ⟨xs,r,dd⟩:=c9 I.hok x
 refine wpAny_notIn_heap (gJ hu) (fL I.hok kb hs) x.main dd ?_
 have q:=(r.val ks).isSome_eq
 rw [F1] at q
 rw [← q]
 exact fin _ (I.tok _)
theorem AE {Q:Value->Shared->Prop}(hu:A.units + 2 < cLine)(I:Inv X pins σ H s)(x:ND X.prog X.w sh H d kvs)(kb:cj H b ks)(hs:ks.map EE=sh)(hv:valN kvs ks=some v)(fin:∀u s2,Inv X pins σ H s2->RelV v u->Q u s2) :
   wpAny (model X.prog X.w) A (getItem (.ref d) (.ref b)) Q E s:=by
 obtain ⟨xs,r,dd⟩:=c9 I.hok x
 obtain ⟨u,hu2,ru⟩:=eQ.some_of (v:=v) (o:=(atKey xs ks).map (·.2)) (by rw [← hv]; exact r.val ks)
 obtain ⟨p,hp,hp2⟩:=Option.map_eq_some_iff.mp hu2
 refine wpAny_getItem_heap (gJ hu) (fL I.hok kb hs) dd hp ?_
 rw [hp2]
 exact fin u _ (I.tok _) ru
theorem AH {r:Value}{Q:Unit->Shared->Prop}(hu:A.units + 2 < cLine)(I:Inv X pins σ H s)(x:ND X.prog X.w sh H d kvs)(kb:cj H b ks)(hs:ks.map EE=sh)(no:valN kvs ks=none)(rv:RelV v r)(fin:∀s2,Inv X pins σ (upd H d (DN X.prog X.w d (kvs++[(ks,b,v)]))) s2->Q () s2) :
   wpAny (model X.prog X.w) A (setItem (.ref d) (.ref b) r) Q E s:=by
 obtain ⟨xs,rel,dd⟩:=c9 I.hok x
 have hz:xs.length<=sizeLine:=by rw [← Paired.length rel]; exact x.len
 have e:atKey xs ks=none:=by
   have q:=(rel.val ks).isSome_eq
   rw [no,F1] at q
   cases z:atKey xs ks with
   | none=>rfl
   | some p=>rw [z] at q; cases q
 refine wpAny_setItem_heap (hsz:=hz) (gJ hu) (fL I.hok kb hs) dd fun h' dd' hs'=>fin _ ?_
 obtain ⟨q,es,ep,hq,h2,h3,h4,_,h5⟩:=dd'
 rw [storedH_new e] at h4
 refine dm I (by rw [x.at_]; exact DV) hs' ⟨q,hq⟩ (xn (Paired.snoc rel ⟨rfl,rfl,rv⟩) hq h2 h3 h4)
theorem AG {Q:Value->Shared->Prop}(I:Inv X pins σ H s)(x:ND X.prog X.w sh H d kvs)(fin:∀t s2,Inv X pins σ H s2->Q (.int kvs.length t) s2):wpAny (model X.prog X.w) A (call (.builtin "len") [.ref d]) Q E s:=by
 obtain ⟨xs,rel,dd⟩:=c9 I.hok x
 have ty:=dd.typeIs
 obtain ⟨o,es,ep,h1,_,h3,h4,_⟩:=dd
 have hl:es.size=kvs.length:=by rw [← EO,h4,DC,Paired.length rel]
 have hk:=x.len
 refine Calls.call_function_entry kind_len plain_len entry_len (args_len1 _) ?_
 unfold Builtin.«len»
 refine wpAny_bind (m:=oneArg "len" _) (wpAny_pure ?_)
 refine wpAny_bind (m:=callSpecial? (.ref d) (DD "__len__")) (Ej (name:=DD "__len__") ty F.slot_dict_len (wpAny_call_entry F.slot_dict_len ty F.entry_dict_len ?_ (F.args_dict_len_1 _)))
 show wpAny _ _ (FN (dictSize d) _) _ _ s
 unfold dictSize
 refine wpAny_bind (wpAny_bind (wpAny_dictEntries h1 h3 (wpAny_pure ?_)))
 show wpAny _ _ (FN (Builtin.Dict.pendingCount d) _) _ _ s
 refine wpAny_bind (wpAny_pendingCount_other x.main ?_)
 refine wpAny_ret_mkInt ?_
 have hc:(es.size:Int) < 2 ^ 63:=by rw [hl]; exact Int.lt_of_le_of_lt (Int.ofNat_le.mpr hk) (by decide)
 have e0:(es.size:Int) + ((0:Nat):Int)=kvs.length:=by rw [hl]; exact Int.add_zero _
 rw [e0]
 refine wpAny_bind (wpAny_holding (wpAny_pure ?_))
 refine wpAny_bind (wpAny_letGo ?_)
 show wpAny _ _ (ite ((kvs.length:Int) < 0) _ _) _ _ _
 rw [if_neg (Int.not_lt.mpr (Int.natCast_nonneg _))]
 show wpAny _ _ (ite ((kvs.length:Int) ≥ 2 ^ 63) _ _) _ _ _
 rw [if_neg (fun z=>by rw [hl] at hc; exact absurd hc (Int.not_lt.mpr z))]
 exact wpAny_bind (wpAny_mkInt (wpAny_pure ⟨_,rfl,fin _ _ ((I.tok _).tok _)⟩))
/-- the readings -/
def pR (P:Program)(w:World)(ty td:TE):TE:=fun σ H Q=>ty σ H fun y H1=>td σ H1 fun x H2=>∃d b sh kvs ks,x=.ref d/\y=.ref b/\ND P w sh H2 d kvs/\cj H2 b ks/\ks.map EE=sh/\Q (.bl (!(valN kvs ks).isSome)) H2
def xM (P:Program)(w:World)(td ty:TE):TE:=fun σ H Q=>td σ H fun x H1=>ty σ H1 fun y H2=>∃d b sh kvs ks v,x=.ref d/\y=.ref b/\ND P w sh H2 d kvs/\cj H2 b ks/\ks.map EE=sh/\valN kvs ks=some v/\Q v H2
def xE (P:Program)(w:World)(td ty tv:TE):TS:=fun D σ H=>tv σ H fun v H1=>td σ H1 fun x H2=>ty σ H2 fun y H3=>∃d b sh kvs ks,x=.ref d/\y=.ref b/\ND P w sh H3 d kvs/\cj H3 b ks/\ks.map EE=sh/\valN kvs ks=none/\D.nx σ (upd H3 d (DN P w d (kvs++[(ks,b,v)])))
def uQ (P:Program)(w:World):TE:=fun _ H Q=>∀p,H p=none->(p == sysModules)=false->Q (.ref p) (upd H p (DN P w p []))
section
variable {o i e value:Expr}{pos pos':Pos}{td ty tv:TE}
theorem ui:PE X (.Dict [] [] pos) (uQ X.prog X.w):=fun pins s σ H Q I h=>
 wpAny_Dict_empty ⟨.ref s.heap.objs.size,_,I.laid (a:=s.heap.objs.size) (o:=DN X.prog X.w s.heap.objs.size []) (t':=s.toks) (fun _ _ q=>DK _ q) (DJ _) (xn (xs:=[]) .nil (DY _ rfl) ⟨rfl,rfl,rfl⟩ rfl rfl),rfl,
   h _ (I.hok.fresh (DJ _)) (beq_eq_false_iff_ne.mpr (Ne.symm (Ea I.big)))⟩
theorem wH (hu:X.A.units + 2 < cLine)(ho:PE X o td)(hi:PE X i ty)(hs:rG i):PE X (.Subscript o i pos) (xM X.prog X.w td ty):=by
 intro pins s σ H Q I h
 refine pP PySem.F.slot_dict_getitem.lookup hs (aX (ho pins s σ H _ I h) fun u s1 ⟨x,H1,I1,rx,q1⟩=>aX (hi pins s1 σ H1 _ I1 q1) fun iv s2 ⟨y,H2,I2,ry,d,b,sh,kvs,ks,v,ex,ey,n,kb,hsh,hv,q2⟩=>?_)
 subst ex ey
 cases rx
 cases ry
 obtain ⟨xs,_,dd⟩:=c9 I2.hok n
 exact ⟨dd.typeIs,AE hu I2 n kb hsh hv fun w' s3 I3 rw'=>⟨v,H2,I3,rw',q2⟩⟩
theorem qZ (hu:X.A.units + 2 < cLine)(hi:PE X i ty)(ho:PE X o td):PC X .NotIn i o (pR X.prog X.w ty td):=by
 intro pins s σ H Q I h
 refine aX (hi pins s σ H _ I h) fun iv s1 ⟨y,H1,I1,ry,q1⟩=>aX (ho pins s1 σ H1 _ I1 q1) fun u s2 ⟨x,H2,I2,rx,d,b,sh,kvs,ks,ex,ey,n,kb,hsh,q2⟩=>?_
 subst ex ey
 cases rx
 cases ry
 exact vU hu I2 n kb hsh fun s3 I3=>⟨.bl (!(valN kvs ks).isSome),H2,I3,rfl,q2⟩
theorem wQ (hu:X.A.units + 2 < cLine)(ho:PE X o td)(hi:PE X i ty)(hv:PE X value tv)(hs:swapsWith value (some (.Subscript o i pos')) pos.line X.env=pure false) :
   PS X (.Assign [.Subscript o i pos'] value pos) (xE X.prog X.w td ty tv):=by
 intro pins s σ H D I h
 refine wpAny_Assign_Subscript (aX (hv pins s σ H _ I h) fun r s1 ⟨v,H1,I1,rv,q1⟩=>aX (ho pins s1 σ H1 _ I1 q1) fun u s2 ⟨x,H2,I2,rx,q2⟩=>aX (hi pins s2 σ H2 _ I2 q2) fun iv s3 ⟨y,H3,I3,ry,d,b,sh,kvs,ks,ex,ey,n,kb,hsh,no,q3⟩=>?_) hs
 subst ex ey
 cases rx
 cases ry
 exact AH hu I3 n kb hsh no rv fun s4 I4=>⟨σ,_,I4,q3⟩
theorem pW:cg X (.builtin "len") (fun xs H Q=>∃d sh kvs,xs=[V.ref d]/\ND X.prog X.w sh H d kvs/\Q (.int kvs.length) H):=by
 intro pins s σ H xs us Q I r h
 obtain ⟨d,sh,kvs,rfl,n,q⟩:=h
 obtain ⟨u,rfl,ru⟩:=vals1 r
 cases ru
 exact AG I n fun t s' I'=>⟨.int kvs.length,H,I',⟨t,rfl⟩,q⟩
end
end
end L2
namespace L3
open PySem PySem.Spec PyProof.Rows L2
section
variable {X:Cx}{a b c e o:Expr}{es:List Expr}{ta tb tc te:TE}{t:TA}{pos pos':Pos}{P:Program}{w:World}
theorem xo (hP:X.prog=P:=by rfl)(hw:X.w=w:=by rfl):SE X (.Dict [] [] pos) (uQ P w):=by
 subst hP hw
 exact ⟨ui⟩
theorem AI (hu:X.A.units + 2 < cLine)(ho:SE X a ta)(hi:SE X b tb)(hs:rG b:=by exact fun _ _=>rfl)(hP:X.prog=P:=by rfl)(hw:X.w=w:=by rfl):SE X (.Subscript a b pos) (xM P w ta tb):=by
 subst hP hw
 exact ⟨wH hu ho.h hi.h hs⟩
theorem tM (hu:X.A.units + 2 < cLine)(hi:SE X a ta)(ho:SE X b tb)(h1:behindInMarks .NotIn b=false:=by first | exact nobehind _ (by decide) (by decide) | rfl)(hP:X.prog=P:=by rfl)(hw:X.w=w:=by rfl):ST X (.Compare a [.NotIn] [b] pos) (tB (pR P w ta tb)):=by
 subst hP hw
 exact ⟨zu (qZ hu hi.h ho.h) h1⟩
theorem AJ (hu:X.A.units + 2 < cLine)(ho:SE X a ta)(hi:SE X b tb)(hv:SE X c tc)(hs:swapsWith c (some (.Subscript a b pos')) pos.line X.env=pure false:=by rfl)(hP:X.prog=P:=by rfl)(hw:X.w=w:=by rfl):SS X (.Assign [.Subscript a b pos'] c pos) (xE P w ta tb tc):=by
 subst hP hw
 exact ⟨wQ hu ho.h hi.h hv.h hs⟩
theorem rN (hP:X.prog=P:=by rfl)(hw:X.w=w:=by rfl):SC X (.builtin "len") (fun xs H Q=>∃d sh kvs,xs=[V.ref d]/\ND P w sh H d kvs/\Q (.int kvs.length) H):=by
 subst hP hw
 exact ⟨pW⟩
theorem iB {KK:DA}(hK:X.K=KK:=by first | exact cxC_K | rfl):SC X (.type "tuple") (fun xs H Q=>∃p ys,xs=[.ref p]/\ao KK H p ys/\∀l,H l=none->Q (.ref l) (upd H l (.tup ys))):=by
 subst hK
 refine ⟨fun pins s σ H xs us Q I r h=>?_⟩
 obtain ⟨p,ys,e,hq,q⟩:=h
 exact jH pins s σ H xs us Q I r ⟨p,ys,e,.inl ⟨hq,q⟩⟩
theorem xi (hc:X.calm=true:=by rfl):SC X (.builtin "min") (fun xs H Q=>∃i j,xs=[.int i,.int j]/\Q (.int (if j < i then j else i)) H):=⟨pY hc⟩
end
end L3
set_option Elab.async false
set_option linter.all false
set_option maxRecDepth 100000
namespace L2
open PySem PySem.Spec PyProof.Rows
theorem vX {a b p}:bg (.Dict a b p):=dU fun _ _ z=>nomatch z
end L2
namespace L3
open PySem PySem.Spec PyProof.Rows L2
section
variable {X:Cx}{a b c e o:Expr}{es:List Expr}{ta tb tc te:TE}{t:TA}{pos:Pos}
theorem nZ {KK:DA}{p2:Pos}(ha:SE X a ta)(hb:SE X b tb)(hK:X.K=KK:=by first | exact cxC_K | rfl):SE X (.Subscript a (.Slice (some b) none none p2) pos) (Af (wY KK) ta (jz tb) f9):=by
 subst hK
 exact ⟨dX kO ha.h (ei hb.h) iE⟩
end
end L3
set_option Elab.async false
set_option linter.all false
/-! ### runs of a step function -/
namespace TW
section
variable {S:Type}(f:S->Option (List Int×S))
def tr:Nat->S->Option (S×List Int)
 | 0,s=>some (s,[])
 | n + 1,s=>match tr n s with
   | none=>none
   | some z=>match f z.1 with
     | none=>none
     | some r=>some (r.2,z.2++r.1)
variable {f}
theorem bf {n:Nat}{s t u:S}{sd x:List Int}(h:tr f n s=some (t,sd))(hf:f t=some (x,u)):tr f (n + 1) s=some (u,sd++x):=by
 show (match tr f n s with | none=>none | some z=>match f z.1 with | none=>none | some r=>some (r.2,z.2++r.1))=_
 rw [h]
 show (match f t with | none=>none | some r=>some (r.2,sd++r.1))=_
 rw [hf]
theorem cT {n:Nat}{s t:S}{sd:List Int}(h:tr f n s=some (t,sd))(hf:f t=none):tr f (n + 1) s=none:=by
 show (match tr f n s with | none=>none | some z=>match f z.1 with | none=>none | some r=>some (r.2,z.2++r.1))=_
 rw [h]
 show (match f t with | none=>none | some r=>some (r.2,sd++r.1))=_
 rw [hf]
theorem gh {n:Nat}{s:S}(h:tr f n s=none):tr f (n + 1) s=none:=by
 show (match tr f n s with | none=>none | some z=>match f z.1 with | none=>none | some r=>some (r.2,z.2++r.1))=_
 rw [h]
theorem cW {m:Nat}{s t:S}{sd:List Int}(h:tr f m s=some (t,sd)):∀n,tr f (m + n) s=(tr f n t).map fun z=>(z.1,sd++z.2)
 | 0=>by
   rw [Nat.add_zero,h]
   show _=some (t,sd++[])
   rw [Es]
 | n + 1=>by
   have ih:=cW h n
   cases e:tr f n t with
   | none=>
     rw [e] at ih
     rw [← Fh,gh ih,gh e]
     rfl
   | some z=>
     rw [e] at ih
     cases e2:f z.1 with
     | none=>
       rw [← Fh,cT (t:=z.1) (sd:=sd++z.2) ih e2,cT (t:=z.1) (sd:=z.2) e e2]
       rfl
     | some r=>
       rw [← Fh,bf (t:=z.1) (u:=r.2) (x:=r.1) (sd:=sd++z.2) ih e2,bf (t:=z.1) (u:=r.2) (x:=r.1) (sd:=z.2) e e2]
       show _=some (r.2,sd++(z.2++r.1))
       rw [Fx]
theorem dH {s:S}:∀{n m:Nat} {z:S×List Int},tr f n s=some z->m<=n->∃y,tr f m s=some y/\∃rest,z.2=y.2++rest
 | 0,m,z,h,hm=>by
   obtain rfl:m=0:=by omega
   exact ⟨z,h,[],(Es _).symm⟩
 | n + 1,m,z,h,hm=>by
   by_cases e:m=n + 1
   · subst e
     exact ⟨z,h,[],(Es _).symm⟩
   · cases e1:tr f n s with
     | none=>rw [gh e1] at h; cases h
     | some y=>
       obtain ⟨y2,h2,rest,h3⟩:=dH (n:=n) (m:=m) e1 (by omega)
       cases e2:f y.1 with
       | none=>rw [cT (t:=y.1) (sd:=y.2) e1 e2] at h; cases h
       | some r=>
         rw [bf (t:=y.1) (u:=r.2) (x:=r.1) (sd:=y.2) e1 e2] at h
         cases h
         exact ⟨y2,h2,rest++r.1,by show y.2++r.1=_; rw [h3,Fx]⟩
theorem pS {i j:Nat}{s t:S}{a b:List Int}(hj:j < i)(h1:tr f j s=some (t,a))(h2:tr f i s=some (t,b))(n:Nat):∃z,tr f n s=some z:=by
 induction n using FO with
 | _ n ih=>
   by_cases hn:n<=i
   · obtain ⟨y,hy,_⟩:=dH h2 hn
     exact ⟨y,hy⟩
   · obtain ⟨z,hz⟩:=ih (j + (n - i)) (by omega)
     rw [cW h1] at hz
     cases e:tr f (n - i) t with
     | none=>rw [e] at hz; cases hz
     | some y=>
       have h3:=cW h2 (n - i)
       rw [e,show i + (n - i)=n by omega] at h3
       exact ⟨_,h3⟩
abbrev Rs:=List Int×Option (List Int)×Nat
variable (f)
def Ends (s:S)(r:Rs):Prop:=∃n t sd,tr f n s=some (t,sd)/\f t=none/\r=(sd,none,n)
def rH (s:S)(r:Rs):Prop:=∃j i t sj sd,j < i/\tr f j s=some (t,sj)/\tr f i s=some (t,sj++sd)/\(∀a b x y u v,a < b->b < i->tr f a s=some (x,u)->tr f b s=some (y,v)->x≠y)/\r=(sj,some sd,j)
def aO (s:S)(r:Rs):Prop:=Ends f s r\/rH f s r
variable {f}
theorem lK {s:S}{r q:Rs}(h:Ends f s r)(h':rH f s q):False:=by
 obtain ⟨n,t,sd,h1,h2,_⟩:=h
 obtain ⟨j,i,u,sj,se,hj,g1,g2,_,_⟩:=h'
 obtain ⟨z,hz⟩:=pS hj g1 g2 (n + 1)
 rw [cT h1 h2] at hz
 cases hz
theorem ky {s:S}{n m:Nat}{t u:S}{a b:List Int}(h1:tr f n s=some (t,a))(h2:f t=none)(h3:tr f m s=some (u,b)):m<=n:=by
 by_cases h:m<=n
 · exact h
 · obtain ⟨y,hy,_⟩:=dH h3 (show n + 1<=m by omega)
   rw [cT h1 h2] at hy
   cases hy
theorem aO.uniq {s:S}{r q:Rs}(h:aO f s r)(h':aO f s q):r=q:=by
 rcases h with h | h
 · rcases h' with h' | h'
   · obtain ⟨n,t,sd,h1,h2,rfl⟩:=h
     obtain ⟨m,u,se,g1,g2,rfl⟩:=h'
     have e1:=ky h1 h2 g1
     have e2:=ky g1 g2 h1
     obtain rfl:m=n:=by omega
     rw [h1] at g1
     cases g1
     rfl
   · exact (lK h h').elim
 · rcases h' with h' | h'
   · exact (lK h' h).elim
   · obtain ⟨j,i,t,sj,sd,hj,a1,a2,ad,rfl⟩:=h
     obtain ⟨j',i',t',sj',sd',hj',b1,b2,bd,rfl⟩:=h'
     have e:i=i':=by
       by_cases z:i < i'
       · exact absurd rfl (bd j i t t _ _ hj z a1 a2)
       · by_cases z':i' < i
         · exact absurd rfl (ad j' i' t' t' _ _ hj' z' b1 b2)
         · omega
     subst e
     rw [a2] at b2
     injection b2 with b2
     injection b2 with et es
     subst et
     have e:j=j':=by
       by_cases z:j < j'
       · exact absurd rfl (ad j j' t t _ _ z hj' a1 b1)
       · by_cases z':j' < j
         · exact absurd rfl (ad j' j t t _ _ z' hj b1 a1)
         · omega
     subst e
     rw [a1] at b1
     injection b1 with b1
     injection b1 with _ es2
     subst es2
     rw [GF es]
/-- so many lists of whole numbers -/
def rK:List (Str×Int)->List (List Int)
 | []=>[[]]
 | b :: bs=>(D5 b.2.toNat).flatMap fun x:Nat=>(rK bs).map fun ws=>(x:Int) :: ws
theorem nK {α β:Type}(g:α->List β)(c:Nat)(h:∀a,(g a).length=c):∀l:List α,(l.flatMap g).length=l.length * c
 | []=>by simp
 | a :: l=>by
   rw [List.flatMap_cons,DE,nK g c h l,h,D6,Fq,Nat.add_comm]
def cX:List (Str×Int)->Nat
 | []=>1
 | b :: bs=>b.2.toNat * cX bs
theorem lu:∀bs:List (Str×Int),(rK bs).length=cX bs
 | []=>rfl
 | b :: bs=>by
   show ((D5 b.2.toNat).flatMap fun x:Nat=>(rK bs).map fun ws=>(x:Int) :: ws).length=b.2.toNat * cX bs
   rw [nK _ (cX bs) (fun x=>by rw [DC,lu bs]),F8]
def km (bs:List (Str×Int))(m:Nat):List (Int×List Int):=(D5 m).flatMap fun x:Nat=>(rK bs).map fun ws=>((x:Int),ws)
theorem iN (bs:List (Str×Int))(m:Nat):(km bs m).length=m * cX bs:=by
 unfold km
 rw [nK _ (cX bs) (fun x=>by rw [DC,lu bs]),F8]
end
end TW
set_option Elab.async false
set_option linter.all false
set_option maxRecDepth 100000
namespace L2
open PySem PySem.Spec PyProof.Rows
end L2
namespace L3
open PySem PySem.Spec PyProof.Rows L2
end L3
set_option Elab.async false
set_option linter.all false
set_option maxRecDepth 100000
namespace L2
open PySem PySem.Spec PyProof.Rows SeqAt
end L2
namespace L3
open PySem PySem.Spec PyProof.Rows L2
end L3
set_option Elab.async false
set_option linter.all false
set_option maxRecDepth 100000
/-! ### exceptions: how one lies behind a call -/
namespace L2
open PySem PySem.Spec PyProof.Rows
end L2
set_option Elab.async false
set_option linter.all false
set_option maxRecDepth 100000
/-! ### own refusals: their classes,texts with parts,raise -/
namespace L2
open PySem PySem.Spec PyProof.Rows
/-! texts with parts -/
end L2
set_option Elab.async false
set_option linter.all false
set_option maxRecDepth 100000
namespace L2
open PySem PySem.Spec PyProof.Rows PySem.W PySem.Builtin PySem.Builtin.ObjectAttr PySem.Builtin.Getset_descriptor
end L2
set_option Elab.async false
set_option linter.all false
set_option maxRecDepth 100000
/-! ### an exception is caught -/
namespace L2
open PySem PySem.Spec PyProof.Rows
section
variable {M:Model}{A:Around}{E:Value->Shared->Prop}{s:Shared}{nm q:Str}{C N:Addr}{bs bm:List Value}{hdct:Bool}{sn:List Str}{sub:List Value}{ab:Bool}{col:Option Bool}{dd:Option Addr}{k0 k1 k2 k3 k5:Option Value}{newId:String}
 {nm' q':Str} {T N':Addr} {bs' bm':List Value} {hdct':Bool} {sn':List Str} {sub':List Value} {ab':Bool} {col':Option Bool} {dd':Option Addr} {j0 j1 j2 j3 j5:Option Value} {newId':String}
end
end L2
set_option Elab.async false
set_option linter.all false
set_option maxRecDepth 100000
/-! ### try .. except T as e: c=e -/
namespace L2
open PySem PySem.Spec PyProof.Rows
end L2
set_option Elab.async false
set_option linter.all false
set_option maxRecDepth 100000
/-! ### defs that may refuse -/
namespace L2
open PySem PySem.Spec PyProof.Rows
end L2
namespace TW
open PySem L2
end TW
namespace L3
open PySem PySem.Spec PyProof.Rows L2
end L3
set_option Elab.async false
set_option linter.all false
set_option maxRecDepth 100000
/-! ### count and index in a list of truths -/
namespace L2
open PySem PySem.Spec PyProof.Rows
end L2
namespace L3
open PySem PySem.Spec PyProof.Rows L2
end L3
set_option Elab.async false
set_option linter.all false
set_option maxRecDepth 100000
namespace L2
open PySem PySem.Spec PyProof.Rows
/-! ### len(set(xs)),xs a list of texts,some of them perhaps alike -/
end L2
namespace L3
open PySem PySem.Spec PyProof.Rows L2
end L3
set_option Elab.async false
set_option linter.all false
set_option maxRecDepth 100000
namespace L2
open PySem PySem.Spec PyProof.Rows
/-! ### a comprehension of two clauses -/
end L2
namespace L3
open PySem PySem.Spec PyProof.Rows L2
end L3
set_option Elab.async false
set_option linter.all false
set_option maxRecDepth 100000
namespace L2
open PySem PySem.Spec PyProof.Rows
/-! ### xs[::-1] -/
theorem iX {α β:Type}{f g:α->Option β}:∀{l:List α},(∀x∈l,f x=g x)->l.filterMap f=l.filterMap g
 | [],_=>rfl
 | x :: r,h=>by rw [EF,EF,h x Ef,iX fun y hy=>h y (List.mem_cons.mpr (.inr hy))]
theorem jP (its:List Value):slicePick its.toArray none none (some (-1))=its.reverse.toArray:=by
 have hb:sliceBounds none none (some (-1)) its.toArray.size=(((its.length:Nat):Int) - 1,-1,-1):=by
   simp [sliceBounds]
 have hr:sliceRange (((its.length:Nat):Int) - 1) (-1) (-1)=(D5 its.length).map fun k=>its.length - 1 - k:=by
   unfold sliceRange
   have h1:¬ ((-1:Int) > 0):=by decide
   simp only [h1,if_false]
   have hc:(if ((its.length:Nat):Int) - 1 > -1 then (((its.length:Nat):Int) - 1 - -1 - -1 - 1) / (- -1) else 0).toNat=its.length:=by
     simp only [Int.neg_neg,Int.ediv_one]
     split <;> omega
   rw [hc]
   refine List.map_congr_left fun k hk=>?_
   have:=List.mem_range.mp hk
   omega
 unfold slicePick
 rw [hb]
 show ((sliceRange (((its.length:Nat):Int) - 1) (-1) (-1)).filterMap (its.toArray[·]?)).toArray=_
 rw [hr,Fo]
 have e:(D5 its.length).filterMap ((fun x=>its.toArray[x]?) ∘ fun k=>its.length - 1 - k)=((D5 its.length).map (0 + ·)).filterMap (its.reverse.toArray[·]?):=by
   rw [Fo]
   refine iX fun k hk=>?_
   have hk':=List.mem_range.mp hk
   show its.toArray[its.length - 1 - k]? = its.reverse.toArray[0 + k]?
   rw [Nat.zero_add,Fc,Fc,GN hk']
 rw [e,pick_run,EU,EG (by simp)]
def Bm (K:DA)(te tst:TE):TE:=fun σ H Q=>te σ H fun x H1=>tst σ H1 fun y H2=>y=.int (-1)/\∃a xs,x=.ref a/\ao K H2 a xs/\∀p,H2 p=none->Q (.ref p) (upd H2 p (.lst xs.reverse))
theorem zf {X:Cx}{e st:Expr}{te tst:TE}{p2 pos:Pos}(he:PE X e te)(hst:PE X st tst):PE X (.Subscript e (.Slice none none (some st) p2) pos) (Bm X.K te tst):=by
 intro pins s σ H Q I h
 refine Subscript_ (aX (he pins s σ H _ I h) fun v s1 ⟨x,H1,I1,r1,q1⟩=>?_)
 refine wpAny_Slice ?_
 rw [evalPart_none]
 refine wpAny_pure (wpAny_pure ?_)
 rw [evalPart_some]
 refine aX (hst pins s1 σ H1 _ I1 q1) fun vs s3 ⟨y,H3,I3,ry,hy,a,xs,hx,hs,q⟩=>?_
 subst hy hx
 obtain ⟨t,rfl⟩:=ry
 cases r1
 have I4:Inv X pins σ H3 { s3 with heap:=s3.heap.push { cls:=.type "slice",data:=.fields #[.none,.none,.int (-1) t] } }:=I3.kept (t':=s3.toks) fun b ob q=>DK _ q
 obtain ⟨its,r,ht,hz⟩:=I4.list hs
 have hlen:=r.length
 show wpAny (model X.prog X.w) X.A (subscriptTail e (.Slice none none (some st) p2) (.ref a) (.ref s3.heap.objs.size)) (EP X pins σ Q) X.xe { s3 with heap:=s3.heap.push { cls:=.type "slice",data:=.fields #[.none,.none,.int (-1) t] } }
 refine tail_any (ops:=[.ref a,.ref s3.heap.objs.size]) ht.isList.typeIs slot_list_getitem.lookup ?_ (by with_unfolding_all rfl)
 refine wpAny_getItem_list_slice ht.isList (FA ..) .none .none (.int (-1) t) (by simp) ?_ (by rw [DO] <;> omega)
 rw [jP]
 refine ⟨.ref (s3.heap.push { cls:=.type "slice",data:=.fields #[.none,.none,.int (-1) t] }).objs.size,_,I4.laid (t':=s3.toks) (o:=.lst xs.reverse) (fun b ob q=>DK _ q) (DJ _) ?_,rfl,q _ (I4.hok.fresh (DJ _))⟩
 exact ⟨by rw [FT]; exact hz,_,0,r.reverse,DY _ rfl⟩
end L2
namespace L3
open PySem PySem.Spec PyProof.Rows L2
theorem xG {X:Cx}{a b:Expr}{ta tb:TE}{KK:DA}{p2 pos:Pos}(ha:SE X a ta)(hb:SE X b tb)(hK:X.K=KK:=by first | exact cxC_K | rfl):SE X (.Subscript a (.Slice none none (some b) p2) pos) (Bm KK ta tb):=by
 subst hK
 exact ⟨zf ha.h hb.h⟩
end L3
set_option Elab.async false
set_option linter.all false
/-! ### runs of one step function by those of another one -/
namespace TW
end TW
set_option Elab.async false
set_option linter.all false
set_option maxRecDepth 100000
namespace L3
open PySem PySem.Spec PyProof.Rows L2
section
variable {X:Cx}{a b o i value:Expr}{ta tb td ty tv:TE}{pos:Pos}
theorem uJ {KK:DA}{p2:Pos}(ha:SE X a ta)(hb:SE X b tb)(hK:X.K=KK:=by first | exact cxC_K | rfl):SE X (.Subscript a (.Slice none (some b) none p2) pos) (Af (zA KK) ta f9 (jz tb)):=by
 subst hK
 exact ⟨dX uK ha.h iE (ei hb.h)⟩
theorem dz {KK:DA}(hK:X.K=KK:=by first | exact cxC_K | rfl):SO X (binaryOp .Add) (uy KK):=by
 subst hK
 exact ⟨ph⟩
theorem dput {pos':Pos}(hu:X.A.units + 1 < cLine)(ho:SE X o td)(hi:SE X i ty)(hv:SE X value tv)(hs:swapsWith value (some (.Subscript o i pos')) pos.line X.env=pure false:=by rfl):SS X (.Assign [.Subscript o i pos'] value pos) (xD td ty tv):=⟨wN hu ho.h hi.h hv.h hs⟩
end
end L3
set_option Elab.async false
set_option linter.all false
set_option maxRecDepth 100000
namespace L2
open PySem PySem.Spec PyProof.Rows
/-! ### xs[::n],n one or minus one -/
/-! ### a text and a text -/
/-! ### xs.index(n),a list of whole numbers -/
end L2
namespace L3
open PySem PySem.Spec PyProof.Rows L2
section
variable {X:Cx}{a b c e o:Expr}{es:List Expr}{ta tb tc te:TE}{t:TA}{pos:Pos}
theorem Bh {KK:DA}{p2:Pos}(ha:SE X a ta)(hb:SE X b tb)(hc:SE X c tc)(hK:X.K=KK:=by first | exact cxC_K | rfl):SE X (.Subscript a (.Slice (some b) (some c) none p2) pos) (Af (wY KK) ta (jz tb) (jz tc)):=by
 subst hK
 exact ⟨dX kO ha.h (ei hb.h) (ei hc.h)⟩
theorem Aq:SE X (.Dict [] [] pos) uR:=⟨uj⟩
end
end L3
set_option Elab.async false
set_option linter.all false
set_option maxRecDepth 100000
/-! ### d.update(e),both dicts of tuples -/
namespace L2
open PySem PySem.Spec PyProof.Rows
end L2
namespace L3
open PySem PySem.Spec PyProof.Rows L2
end L3
set_option Elab.async false
set_option linter.all false
set_option maxRecDepth 100000
namespace PySem
open Sem (wp)
/-! ### a zip whose own tuple is free,out,or gone -/
abbrev ZRec (h:Heap)(z TI TO:Addr)(v:Value)(f:Bool):Prop:=
 h.get? z=some { cls:=.type "zip",dict:=none,data:=.fields #[v,.bool f,.bool false,.ref TI,.ref TO],slots:=#[] }
section
variable {prog:Program}{w:World}{A:Around}{E:Value->Shared->Prop}{s:Shared}
theorem ow {a:Addr}{Q:Option Obj->Shared->Prop}(h:s.heap.get? a=none)(k:Q none s):wpAny (model prog w) A (loadIfAlive a) Q E s:=fun Γ p hΓ=>by
 show Sem.wp _ _ (Sem.loadIfAlive a .pure) _ _ _ _
 rw [Sem.wp_loadIfAlive,h]
 exact (wpAny_pure k:wpAny (model prog w) A (Sem.pure none) Q E s) Γ p hΓ
theorem jD {z TI TO T:Addr}{f:Bool}(hz:ZRec s.heap z TI TO (rawInt T) f)(hT:s.heap.get? T=none){Q:Bool->Shared->Prop}{E:Value->Shared->Prop}(k:Q true s):wpAny (model prog w) A (DP (.ref z)) Q E s:=by
 unfold DP
 refine wpAny_bind (wpAny_field hz rfl (x:=rawInt T) rfl ?_)
 show wpAny _ _ (loadIfAlive (T:Int).toNat >>= _) _ _ _
 rw [E9]
 refine wpAny_bind (ow hT ?_)
 exact wpAny_pure k
theorem ox {z TI TO i1 i2 l1 l2:Addr}{v:Value}{f:Bool}{k1 k2:Nat}{xs ys:Array Value}{x y a b:Value}{Q:Value->Shared->Prop}(D:ZipApart z TI TO i1 i2 l1 l2)(hz:ZRec s.heap z TI TO v f)
   (free:∀{Q:Bool->Shared->Prop} {E:Value->Shared->Prop},Q true s->wpAny (model prog w) A (DP (.ref z)) Q E s) (hTI:IsPair s.heap TI (.ref i1) (.ref i2)) (hTO:IsPair s.heap TO a b)
   (h1:s.heap.IsListIter i1 l1 k1) (h2:s.heap.IsListIter i2 l2 k2) (hl1:s.heap.IsList l1 xs) (hl2:s.heap.IsList l2 ys) (hx:xs[k1]? = some x) (hy:ys[k2]? = some y)
   (hQ:∀g,ZRec g z TI TO (rawInt s.heap.objs.size) false->IsPair g TO x y->g.IsListIter i1 l1 (k1 + 1)->g.IsListIter i2 l2 (k2 + 1)->IsPair g s.heap.objs.size x y->(∀c o,c≠z->c≠TO->c≠i1->c≠i2->s.heap.get? c=some o->g.get? c=some o)->Q (.ref s.heap.objs.size) { s with heap:=g }) :
   wpAny (model prog w) A (Builtin.«zip.__next__» ⟨[.ref z],[]⟩) (fun fin s'=>∃v,fin=.done (.ret v)/\Q v s') E s:=by
 show wpAny _ _ (field (.ref z) 2 >>= _) _ _ _
 refine wpAny_bind (wpAny_field hz rfl (x:=.bool false) rfl ?_)
 show wpAny _ _ (field (.ref z) 3 >>= _) _ _ _
 refine wpAny_bind (wpAny_field hz rfl (x:=.ref TI) rfl ?_)
 refine wpAny_bind (wpAny_seqItems hTI rfl ?_)
 show wpAny _ _ (DP (.ref z) >>= _) _ _ _
 refine wpAny_bind (free ?_)
 simp only [if_true]
 refine wpAny_bind (wpAny_rule ?_)
 refine wpAny_bind (wpAny_field hz rfl (x:=.ref TO) rfl ?_)
 refine wpAny_bind (wpAny_setField_rec hz (by simp) fun g1 z1 e1=>?_)
 have z1':ZRec g1 z TI TO .ellipsis f:=z1
 refine wpAny_bind ?_
 simp only [List.zipIdx_cons,List.zipIdx_nil,Fj,FR]
 refine wpAny_bind (wpAny_bind (wpAny_onRaise ?_))
 show wpAny _ _ (D4 (.ref i1) >>= _) _ _ _
 refine wpAny_bind (wpAny_nextOf_list_item (h1.extBut e1.extBut D.i1z) (hl1.extBut e1.extBut D.l1z) hx fun g2 n2 e2=>wpAny_pure ?_)
 have o2:IsPair g2 TO a b:=e2.extBut _ _ D.TOi1 (e1.extBut _ _ D.TOz hTO)
 refine wpAny_bind (wpAny_seqItems o2 rfl (wpAny_bind (wpAny_updateSeq_pair o2 fun g3 o3 e3=>wpAny_bind (wpAny_letGo (wpAny_pure ?_)))))
 have o3':IsPair g3 TO x b:=o3
 refine wpAny_bind (wpAny_bind (wpAny_onRaise ?_))
 show wpAny _ _ (D4 (.ref i2) >>= _) _ _ _
 refine wpAny_bind (wpAny_nextOf_list_item (((h2.extBut e1.extBut D.i2z).extBut e2.extBut D.i12.symm).extBut e3.extBut D.TOi2.symm) (((hl2.extBut e1.extBut D.l2z).extBut e2.extBut D.l2i1).extBut e3.extBut D.l2TO) hy fun g4 n4 e4=>wpAny_pure ?_)
 have o4:IsPair g4 TO x b:=e4.extBut _ _ D.TOi2 o3'
 refine wpAny_bind (wpAny_seqItems o4 rfl (wpAny_bind (wpAny_updateSeq_pair o4 fun g5 o5 e5=>wpAny_bind (wpAny_letGo (wpAny_pure (wpAny_pure ?_))))))
 have o5':IsPair g5 TO x y:=o5
 refine wpAny_bind (wpAny_seqItems o5' rfl (wpAny_bind (wpAny_newTuple ?_)))
 have sz:g5.objs.size=s.heap.objs.size:=by rw [e5.1,e4.1,e3.1,e2.1,e1.1]
 have z5:ZRec g5 z TI TO .ellipsis f:=e5.extBut _ _ D.TOz.symm (e4.extBut _ _ D.i2z.symm (e3.extBut _ _ D.TOz.symm (e2.extBut _ _ D.i1z.symm z1')))
 have keep:∀c o,c≠z->c≠TO->c≠i1->c≠i2->s.heap.get? c=some o->g5.get? c=some o:=fun c o c1 c2 c3 c4 q=>e5.extBut _ _ c2 (e4.extBut _ _ c4 (e3.extBut _ _ c2 (e2.extBut _ _ c3 (e1.extBut _ _ c1 q))))
 have it1:g5.IsListIter i1 l1 (k1 + 1):=((n2.extBut e3.extBut D.TOi1.symm).extBut e4.extBut D.i12).extBut e5.extBut D.TOi1.symm
 have it2:g5.IsListIter i2 l2 (k2 + 1):=n4.extBut e5.extBut D.TOi2.symm
 have zlt:z < g5.objs.size:=DL z5
 show wpAny _ _ (Ez (.ref z) (.ref g5.objs.size) >>= _) _ _ _
 refine wpAny_bind ?_
 unfold Ez
 have z6:ZRec (g5.push { cls:=.type "tuple",data:=.seq #[x,y] }) z TI TO .ellipsis f:=DK _ z5
 refine wpAny_bind (wpAny_setField_rec z6 (by simp) fun g7 z7 e7=>?_)
 have z7':ZRec g7 z TI TO (rawInt g5.objs.size) f:=z7
 refine wpAny_setField_rec z7' (by simp) fun g8 z8 e8=>?_
 have z8':ZRec g8 z TI TO (rawInt g5.objs.size) false:=z8
 have up:∀c o,c≠z->g5.get? c=some o->g8.get? c=some o:=fun c o c1 q=>e8.extBut _ _ c1 (e7.extBut _ _ c1 (DK _ q))
 have new:IsPair g8 g5.objs.size x y:=e8.extBut _ _ (Fs zlt) (e7.extBut _ _ (Fs zlt) (DY _ rfl))
 rw [sz] at z8' new
 refine wpAny_pure ⟨_,rfl,?_⟩
 show Q (.ref g5.objs.size) _
 rw [sz]
 exact hQ g8 z8' (up _ _ D.TOz o5') (it1.at fun o q=>up _ o D.i1z q) (it2.at fun o q=>up _ o D.i2z q) new fun c o c1 c2 c3 c4 q=>up c o c1 (keep c o c1 c2 c3 c4 q)
theorem rD {z TI TO i1 i2 l1 l2:Addr}{v:Value}{f:Bool}{k1 k2:Nat}{xs ys:Array Value}{a b:Value}{Q:Fin->Shared->Prop}(hh:A.handled=none)(D:ZipApart z TI TO i1 i2 l1 l2)(hz:ZRec s.heap z TI TO v f)
   (free:∀{Q:Bool->Shared->Prop} {E:Value->Shared->Prop},Q true s->wpAny (model prog w) A (DP (.ref z)) Q E s) (hTI:IsPair s.heap TI (.ref i1) (.ref i2)) (hTO:IsPair s.heap TO a b)
   (h1:s.heap.IsListIter i1 l1 k1) (h2:s.heap.IsListIter i2 l2 k2) (hl1:s.heap.IsList l1 xs) (hl2:s.heap.IsList l2 ys) (hend:xs[k1]? = none\/ys[k2]? = none)
   (hE:∀g e,(∀c o,c≠z->c≠TO->c≠i1->c≠i2->s.heap.get? c=some o->g.get? c=some o)->(∃o,g.get? e=some o/\o.cls=.type "StopIteration")->E (.ref e) { s with heap:=g }) :
   wpAny (model prog w) A (Builtin.«zip.__next__» ⟨[.ref z],[]⟩) Q E s:=by
 show wpAny _ _ (field (.ref z) 2 >>= _) _ _ _
 refine wpAny_bind (wpAny_field hz rfl (x:=.bool false) rfl ?_)
 show wpAny _ _ (field (.ref z) 3 >>= _) _ _ _
 refine wpAny_bind (wpAny_field hz rfl (x:=.ref TI) rfl ?_)
 refine wpAny_bind (wpAny_seqItems hTI rfl ?_)
 show wpAny _ _ (DP (.ref z) >>= _) _ _ _
 refine wpAny_bind (free ?_)
 simp only [if_true]
 refine wpAny_bind (wpAny_rule ?_)
 refine wpAny_bind (wpAny_field hz rfl (x:=.ref TO) rfl ?_)
 refine wpAny_bind (wpAny_setField_rec hz (by simp) fun g1 z1 e1=>?_)
 have z1':ZRec g1 z TI TO .ellipsis f:=z1
 refine wpAny_bind ?_
 simp only [List.zipIdx_cons,List.zipIdx_nil,Fj,FR]
 refine wpAny_bind (wpAny_bind (wpAny_onRaise ?_))
 show wpAny _ _ (D4 (.ref i1) >>= _) _ _ _
 have stop:∀{g:Heap} {e:Addr},ZRec g z TI TO .ellipsis f->(∃o,g.get? e=some o/\o.cls=.type "StopIteration")->e≠z:=fun zz ho q=>by
   obtain ⟨o,ho,hc⟩:=ho
   subst q
   rw [zz] at ho
   cases ho
   simp at hc
 cases hx:xs[k1]? with
 | none=>
   refine wpAny_bind (wpAny_nextOf_list_end hh (h1.extBut e1.extBut D.i1z) (hl1.extBut e1.extBut D.l1z) hx fun g2 e e2 he=>?_)
   have z2:ZRec g2 z TI TO .ellipsis f:=e2 _ _ D.i1z.symm z1'
   have ne:=stop z2 he
   obtain ⟨oe,hoe,hce⟩:=he
   exact wpAny_setField_rec z2 (by simp) fun g3 _ e3=>hE g3 e (fun c o c1 _ c3 _ q=>e3.extBut _ _ c1 (e2 _ _ c3 (e1.extBut _ _ c1 q))) ⟨oe,e3.extBut _ _ ne hoe,hce⟩
 | some x=>
   have hy:ys[k2]? = none:=by
     rcases hend with q | q
     · rw [hx] at q; cases q
     · exact q
   refine wpAny_bind (wpAny_nextOf_list_item (h1.extBut e1.extBut D.i1z) (hl1.extBut e1.extBut D.l1z) hx fun g2 n2 e2=>wpAny_pure ?_)
   have o2:IsPair g2 TO a b:=e2.extBut _ _ D.TOi1 (e1.extBut _ _ D.TOz hTO)
   refine wpAny_bind (wpAny_seqItems o2 rfl (wpAny_bind (wpAny_updateSeq_pair o2 fun g3 o3 e3=>wpAny_bind (wpAny_letGo (wpAny_pure ?_)))))
   refine wpAny_bind (wpAny_bind (wpAny_onRaise ?_))
   show wpAny _ _ (D4 (.ref i2) >>= _) _ _ _
   refine wpAny_bind (wpAny_nextOf_list_end hh (((h2.extBut e1.extBut D.i2z).extBut e2.extBut D.i12.symm).extBut e3.extBut D.TOi2.symm) (((hl2.extBut e1.extBut D.l2z).extBut e2.extBut D.l2i1).extBut e3.extBut D.l2TO) hy fun g4 e e4 he=>?_)
   have z4:ZRec g4 z TI TO .ellipsis f:=e4 _ _ D.i2z.symm (e3.extBut _ _ D.TOz.symm (e2.extBut _ _ D.i1z.symm z1'))
   have ne:=stop z4 he
   obtain ⟨oe,hoe,hce⟩:=he
   exact wpAny_setField_rec z4 (by simp) fun g5 _ e5=>hE g5 e (fun c o c1 c2 c3 c4 q=>e5.extBut _ _ c1 (e4 _ _ c4 (e3.extBut _ _ c2 (e2.extBut _ _ c3 (e1.extBut _ _ c1 q))))) ⟨oe,e5.extBut _ _ ne hoe,hce⟩
/-- how a zip stands at its i-th pair -/
structure ZS (h:Heap)(z TI TO i1 i2 l1 l2:Addr)(i:Nat):Prop where
 ti:IsPair h TI (.ref i1) (.ref i2)
 to:∃x y,IsPair h TO x y
 a:h.IsListIter i1 l1 i
 b:h.IsListIter i2 l2 i
 z:ZRec h z TI TO .none false\/∃(T:Addr) (f:Bool),ZRec h z TI TO (rawInt T) f
theorem ZS.ob {h:Heap}{z TI TO i1 i2 l1 l2:Addr}{i:Nat}(st:ZS h z TI TO i1 i2 l1 l2 i):∃fl,h.get? z=some { cls:=.type "zip",dict:=none,data:=.fields fl,slots:=#[] }:=by
 rcases st.z with e | ⟨T,f,e⟩
 · exact ⟨_,e⟩
 · exact ⟨_,e⟩
theorem ZS.on {h g:Heap}{z TI TO i1 i2 l1 l2:Addr}{i:Nat}(st:ZS h z TI TO i1 i2 l1 l2 i)(k:∀c∈([z,TI,TO,i1,i2]:List Addr),∀o,h.get? c=some o->g.get? c=some o):ZS g z TI TO i1 i2 l1 l2 i:=by
 obtain ⟨t1,⟨x,y,t2⟩,a,b,zz⟩:=st
 refine ⟨k _ (by simp) _ t1,⟨x,y,k _ (by simp) _ t2⟩,a.at fun o e=>k _ (by simp) o e,b.at fun o e=>k _ (by simp) o e,?_⟩
 rcases zz with e | ⟨T,f,e⟩
 · exact .inl (k _ (by simp) _ e)
 · exact .inr ⟨T,f,k _ (by simp) _ e⟩
theorem ZS.item {z TI TO i1 i2 l1 l2:Addr}{i:Nat}{us vs:Array Value}{u v:Value}{Q:Value->Shared->Prop}(D:ZipApart z TI TO i1 i2 l1 l2)(st:ZS s.heap z TI TO i1 i2 l1 l2 i)(h1:s.heap.IsList l1 us)(h2:s.heap.IsList l2 vs)(hu:us[i]? = some u)(hv:vs[i]? = some v)
   (k:∀g,ZS g z TI TO i1 i2 l1 l2 (i + 1)->IsPair g s.heap.objs.size u v->(∀c o,c ∉ ([z,TO,i1,i2]:List Addr)->s.heap.get? c=some o->g.get? c=some o)->Q (.ref s.heap.objs.size) { s with heap:=g }) :
   wpAny (model prog w) A (Builtin.«zip.__next__» ⟨[.ref z],[]⟩) (fun fin s'=>∃v,fin=.done (.ret v)/\Q v s') E s:=by
 obtain ⟨t1,⟨x,y,t2⟩,a,b,zz⟩:=st
 rcases zz with e | ⟨T,f,e⟩
 · refine zip_next_item D e t1 t2 a b h1 h2 hu hv fun g b1 b2 b3 b4 b5 b6 kk=>?_
   refine k g ⟨kk _ _ D.TIz D.TITO D.TIi1 D.TIi2 t1,⟨_,_,b2⟩,b3,b4,.inr ⟨_,_,b1⟩⟩ b5 fun c o hc q=>?_
   simp only [DX,DT,or_false,not_or] at hc
   exact kk c o hc.1 hc.2.1 hc.2.2.1 hc.2.2.2 q
 · cases hT:s.heap.get? T with
   | some ot=>
     refine kh D e hT t1 a b h1 h2 hu hv fun g b1 b3 b4 b5 kk=>?_
     refine k g ⟨kk _ _ D.TIz D.TIi1 D.TIi2 t1,⟨_,_,kk _ _ D.TOz D.TOi1 D.TOi2 t2⟩,b3,b4,.inr ⟨T,true,b1⟩⟩ b5 fun c o hc q=>?_
     simp only [DX,DT,or_false,not_or] at hc
     exact kk c o hc.1 hc.2.2.1 hc.2.2.2 q
   | none=>
     refine ox D e (jD e hT) t1 t2 a b h1 h2 hu hv fun g b1 b2 b3 b4 b5 kk=>?_
     refine k g ⟨kk _ _ D.TIz D.TITO D.TIi1 D.TIi2 t1,⟨_,_,b2⟩,b3,b4,.inr ⟨_,_,b1⟩⟩ b5 fun c o hc q=>?_
     simp only [DX,DT,or_false,not_or] at hc
     exact kk c o hc.1 hc.2.1 hc.2.2.1 hc.2.2.2 q
theorem ZS.done {z TI TO i1 i2 l1 l2:Addr}{i:Nat}{us vs:Array Value}{Q:Fin->Shared->Prop}(free:A.handled=none)(D:ZipApart z TI TO i1 i2 l1 l2)(st:ZS s.heap z TI TO i1 i2 l1 l2 i)(h1:s.heap.IsList l1 us)(h2:s.heap.IsList l2 vs)(hu:us[i]? = none\/vs[i]? = none)
   (k:∀g e,(∀c o,c ∉ ([z,TO,i1,i2]:List Addr)->s.heap.get? c=some o->g.get? c=some o)->(∃o,g.get? e=some o/\o.cls=.type "StopIteration")->E (.ref e) { s with heap:=g }) :
   wpAny (model prog w) A (Builtin.«zip.__next__» ⟨[.ref z],[]⟩) Q E s:=by
 obtain ⟨t1,⟨x,y,t2⟩,a,b,zz⟩:=st
 rcases zz with e | ⟨T,f,e⟩
 · refine zip_next_end free D e t1 t2 a b h1 h2 hu fun g ee kk=>k g ee fun c o hc q=>?_
   simp only [DX,DT,or_false,not_or] at hc
   exact kk c o hc.1 hc.2.1 hc.2.2.1 hc.2.2.2 q
 · cases hT:s.heap.get? T with
   | some ot=>
     refine mH free D e hT t1 a b h1 h2 hu fun g ee kk=>k g ee fun c o hc q=>?_
     simp only [DX,DT,or_false,not_or] at hc
     exact kk c o hc.1 hc.2.2.1 hc.2.2.2 q
   | none=>
     refine rD free D e (jD e hT) t1 t2 a b h1 h2 hu fun g ee kk=>k g ee fun c o hc q=>?_
     simp only [DX,DT,or_false,not_or] at hc
     exact kk c o hc.1 hc.2.1 hc.2.2.1 hc.2.2.2 q
/-! ### enumerate of a zip -/
theorem vD {e z TI TO i1 i2 l1 l2:Addr}{i:Nat}{us vs:Array Value}{u v old:Value}{Q:Value->Shared->Prop}(D:ZipApart z TI TO i1 i2 l1 l2)(he:IsEnum s.heap e z i old)(ne:e ∉ ([z,TI,TO,i1,i2]:List Addr))(st:ZS s.heap z TI TO i1 i2 l1 l2 i)(h1:s.heap.IsList l1 us)(h2:s.heap.IsList l2 vs)(hu:us[i]? = some u)(hv:vs[i]? = some v)
   (k:∀g h',ZS g z TI TO i1 i2 l1 l2 (i + 1)->IsPair g s.heap.objs.size u v->(∀c o,c ∉ ([z,TO,i1,i2]:List Addr)->s.heap.get? c=some o->g.get? c=some o)->IsEnumOut h' e z ((i:Int) + 1) (.ref s.heap.objs.size) g.objs.size->IsPair h' g.objs.size (.int i s.toks) (.ref s.heap.objs.size) ->
     (∀c o,c≠e->g.get? c=some o->h'.get? c=some o)->Q (.ref g.objs.size) { s with heap:=h',toks:=s.toks + 1 }) :
   wpAny (model prog w) A (Builtin.«enumerate.__next__» ⟨[.ref e],[]⟩) (fun fin s'=>∃v,fin=.done (.ret v)/\Q v s') E s:=by
 obtain ⟨hp,gg,dd,tk,os⟩:=s
 show wpAny _ _ (field (.ref e) 2 >>= _) _ _ _
 refine wpAny_bind (wpAny_field he rfl (x:=.ref z) rfl ?_)
 have ty:(⟨hp,gg,dd,tk,os⟩ : Shared).TypeIs (.ref z) "zip":=by obtain ⟨fl,q⟩:=st.ob; exact ⟨_,q,rfl⟩
 have ne4:e ∉ ([z,TO,i1,i2]:List Addr):=fun q=>ne (by simp only [DX,DT,or_false] at q ⊢; rcases q with r | r | r | r <;> simp [r])
 refine wpAny_bind ?_
 unfold D4
 refine wpAny_bind (Ej (name:=DD "__next__") ty EN (wpAny_call_entry EN ty FK (ZS.item D st h1 h2 hu hv fun g zs gp gk=>?_) (FG _)))
 refine wpAny_pure ?_
 have e1:IsEnum g e z i old:=gk e _ ne4 he
 show wpAny _ _ (field (.ref e) 3 >>= _) _ _ ⟨g,gg,dd,tk,os⟩
 refine wpAny_bind (wpAny_field e1 rfl (x:=rawInt i) rfl ?_)
 show wpAny _ _ (field (.ref e) 4 >>= _) _ _ ⟨g,gg,dd,tk,os⟩
 refine wpAny_bind (wpAny_field e1 rfl (x:=.none) rfl ?_)
 show wpAny _ _ (mkInt i >>= _) _ _ ⟨g,gg,dd,tk,os⟩
 refine wpAny_bind (wpAny_mkInt ?_)
 show wpAny _ _ (setField (.ref e) 3 (rawInt ((i:Int) + 1)) >>= _) _ _ ⟨g,gg,dd,tk + 1,os⟩
 refine wpAny_bind (wpAny_setField_rec e1 (by simp) fun g2 e2 s2=>?_)
 have e2':IsEnum g2 e z ((i:Int) + 1) old:=e2
 show wpAny _ _ (setField (.ref e) 4 .none >>= _) _ _ ⟨g2,gg,dd,tk + 1,os⟩
 refine wpAny_bind (wpAny_setField_rec e2' (by simp) fun g3 e3 s3=>?_)
 have e3':IsEnum g3 e z ((i:Int) + 1) old:=e3
 show wpAny _ _ (newTuple [.int i tk,.ref hp.objs.size] >>= _) _ _ ⟨g3,gg,dd,tk + 1,os⟩
 refine wpAny_bind (wpAny_newTuple ?_)
 have s2':Ey e g g2:=s2
 have s3':Ey e g2 g3:=s3
 have sz:g3.objs.size=g.objs.size:=by rw [s3'.1,s2'.1]
 have elt:e < g3.objs.size:=DL e3'
 have e4:IsEnum (g3.push { cls:=.type "tuple",data:=.seq #[.int i tk,.ref hp.objs.size] }) e z ((i:Int) + 1) old:=DK _ e3'
 have t4:IsPair (g3.push { cls:=.type "tuple",data:=.seq #[.int i tk,.ref hp.objs.size] }) g3.objs.size (.int i tk) (.ref hp.objs.size):=DY _ rfl
 have k4:∀c o,c≠e->g.get? c=some o->(g3.push { cls:=.type "tuple",data:=.seq #[.int i tk,.ref hp.objs.size] }).get? c=some o:=fun c o hc q=>DK _ (s3'.extBut c o hc (s2'.extBut c o hc q))
 generalize g3.push { cls:=.type "tuple",data:=.seq #[.int i tk,.ref hp.objs.size] }=g4 at e4 t4 k4
 show wpAny _ _ (DP (.ref e) >>= _) _ _ ⟨g4,gg,dd,tk + 1,os⟩
 refine wpAny_bind ?_
 unfold DP
 refine wpAny_bind (wpAny_field e4 rfl (x:=.none) rfl (wpAny_pure ?_))
 simp only [if_true]
 refine wpAny_bind (wpAny_rule (wpAny_bind (wpAny_field e4 rfl (x:=old) rfl (wpAny_bind (wpAny_setField_rec e4 (by simp) fun g5 e5 s5=>?_)))))
 have e5':IsEnum g5 e z ((i:Int) + 1) (.ref hp.objs.size):=e5
 have s5':Ey e g4 g5:=s5
 show wpAny _ _ (Ez (.ref e) (.ref g3.objs.size) >>= _) _ _ ⟨g5,gg,dd,tk + 1,os⟩
 refine wpAny_bind ?_
 unfold Ez
 refine wpAny_bind (wpAny_setField_rec e5' (by simp) fun g6 e6 s6=>?_)
 have e6':IsEnumOut g6 e z ((i:Int) + 1) (.ref hp.objs.size) g3.objs.size:=e6
 have s6':Ey e g5 g6:=s6
 refine wpAny_setField_rec e6' (by simp) fun g7 e7 s7=>?_
 have e7':IsEnumOut g7 e z ((i:Int) + 1) (.ref hp.objs.size) g3.objs.size:=e7
 have s7':Ey e g6 g7:=s7
 have u7:∀c o,c≠e->g4.get? c=some o->g7.get? c=some o:=fun c o hc q=>s7'.extBut _ _ hc (s6'.extBut _ _ hc (s5'.extBut _ _ hc q))
 have t7:=u7 _ _ (Fs elt) t4
 rw [sz] at e7' t7
 refine wpAny_bind (wpAny_letGo (wpAny_pure ⟨_,rfl,?_⟩))
 show Q (.ref g3.objs.size) _
 rw [sz]
 exact k g g7 zs gp gk e7' t7 fun c o hc q=>u7 c o hc (k4 c o hc q)
end
end PySem
set_option Elab.async false
set_option linter.all false
set_option maxRecDepth 100000
namespace PySem
open Sem (wp)
open AutoSeq1 (wpAny_loadPart')
theorem tK (z TI TO:Addr):Meets (Builtin.«enumerate.__new__» ⟨[.type "enumerate",.ref z],[]⟩) (fun _ R s=>IsZip s.heap z TI TO .none /\
   R (.ok (.ret (.ref s.heap.objs.size))) { s with heap:=s.heap.push { cls:=.type "enumerate",data:=.fields #[.none,.bool false,.ref z,rawInt 0,.none,.none] } }):=
 .of_wp fun prog w A R s h=>by
   obtain ⟨hp,g,d,tk,os⟩:=s
   obtain ⟨hz,k⟩:=h
   have hsub:=sub_enumerate
   have hz':IsZip (Shared.heap ⟨hp,g,d,tk,os⟩) z TI TO .none:=hz
   wp_walk using wpAny_loadPart' hz
   refine wpAny_stack_any fun st=>wpAny_pure ?_
   split
   · rename_i c _ _ _ _ _
     cases (c == F3 "enumerate")
     · wp_walk using wpAny_loadPart' hz,wpAny_pyIter_zip hz'
       exact ⟨_,rfl,k⟩
     · wp_walk using wpAny_loadPart' hz,wpAny_pyIter_zip hz'
       exact ⟨_,rfl,k⟩
   · wp_walk using wpAny_loadPart' hz,wpAny_pyIter_zip hz'
     exact ⟨_,rfl,k⟩
section
variable {prog:Program}{w:World}{A:Around}{E:Value->Shared->Prop}{s:Shared}
theorem vm {z TI TO:Addr}{Q:Value->Shared->Prop}(hz:IsZip s.heap z TI TO .none)(k:∀g,IsEnum g s.heap.objs.size z 0 .none->(∀b o,s.heap.get? b=some o->g.get? b=some o)->Q (.ref s.heap.objs.size) { s with heap:=g }) :
   wpAny (model prog w) A (call (.type "enumerate") [.ref z]) Q E s:=by
 refine callType_new F.called_enumerate (by decide) (F.typeCall_enumerate_1 _) (F.newCall_enumerate_1 _) (fun obj=>F.args_object_init_2 obj _) F.entry_enumerate_new (tK z TI TO) ⟨hz,?_⟩
 have he:IsEnum (s.heap.push { cls:=.type "enumerate",data:=.fields #[.none,.bool false,.ref z,rawInt 0,.none,.none] }) s.heap.objs.size z 0 .none:=DY _ rfl
 exact ⟨⟨_,he,rfl⟩,k _ he fun b o q=>DK _ q⟩
end
end PySem
namespace L2
open PySem PySem.Spec PyProof.Rows
def rE (K:DA)(a b:Addr):It:=
 ⟨fun i H=>∃xs ys x y,ao K H a xs/\ao K H b ys/\xs[i]? = some x/\ys[i]? = some y,
  fun i H v H'=>∃p q x y,H p=none/\(upd H p (.tup [x,y])) q=none/\v=.ref q/\H'=upd (upd H p (.tup [x,y])) q (.tup [.int (i:Nat),.ref p])/\∀xs ys,ao K H a xs->ao K H b ys->xs[i]? = some x/\ys[i]? = some y,
  fun i H=>∃xs ys,ao K H a xs/\ao K H b ys/\(xs.length<=i\/ys.length<=i)⟩
theorem w6 {P:Program}{w:World}{K:DA}{elts:List Expr}{x1:Nat}{tp:Pos}{a b e z TI TO i1 i2:Addr}(D:ZipApart z TI TO i1 i2 a b)(ne:e ∉ ([z,TI,TO,i1,i2]:List Addr)) :
   Turn P w K (.Tuple elts x1 tp) (rE K a b) [e,z,TI,TO,i1,i2] e (fun i h=>(∃old,IsEnum h e z (i:Nat) old)/\ZS h z TI TO i1 i2 a b i) where
 mem:=by simp
 obj:=fun i h st c hc=>by
   obtain ⟨⟨old,he⟩,zs⟩:=st
   obtain ⟨fl,hz⟩:=zs.ob
   obtain ⟨hTI,⟨x,y,hTO⟩,⟨o1,e1,c1,d1⟩,⟨o2,e2,c2,d2⟩,_⟩:=zs
   simp only [DX,DT,or_false] at hc
   rcases hc with rfl | rfl | rfl | rfl | rfl | rfl
   · exact ⟨_,he,fun v q=>nomatch q⟩
   · exact ⟨_,hz,fun v q=>nomatch q⟩
   · exact ⟨_,hTI,fun v q=>nomatch q⟩
   · exact ⟨_,hTO,fun v q=>nomatch q⟩
   · exact ⟨_,e1,fun v q=>by rw [d1] at q; cases q⟩
   · exact ⟨_,e2,fun v q=>by rw [d2] at q; cases q⟩
 keep:=fun i h h' st k=>by
   obtain ⟨⟨old,he⟩,zs⟩:=st
   exact ⟨⟨old,k e (by simp) _ he⟩,zs.on fun c hc o q=>k c (El _ hc) o q⟩
 item:=by
   intro X hP hw hK hc i pins s σ H E I hf st hg
   subst hP hw hK
   obtain ⟨xs,ys,x,y,hq1,hq2,hx,hy⟩:=hg
   obtain ⟨its1,rv1,p1,_⟩:=I.list hq1
   obtain ⟨its2,rv2,p2,_⟩:=I.list hq2
   obtain ⟨u,hu,ru⟩:=rv1.get hx
   obtain ⟨v,hv,rv⟩:=rv2.get hy
   obtain ⟨⟨old,he⟩,zs⟩:=st
   have hT:s.TypeIs (.ref e) "enumerate":=⟨_,he,rfl⟩
   have ltf:∀c∈([e,z,TI,TO,i1,i2]:List Addr),c < s.heap.objs.size:=fun c hc'=>by
     obtain ⟨fl,hz⟩:=zs.ob
     obtain ⟨hTI,⟨x,y,hTO⟩,⟨o1,e1,_,_⟩,⟨o2,e2,_,_⟩,_⟩:=zs
     simp only [DX,DT,or_false] at hc'
     rcases hc' with rfl | rfl | rfl | rfl | rfl | rfl
     · exact DL he
     · exact DL hz
     · exact DL hTI
     · exact DL hTO
     · exact DL e1
     · exact DL e2
   unfold pyNext
   refine wpAny_bind (wpAny_attempt (Ej (name:=DD "__next__") hT Fd (wpAny_call_entry Fd hT F.entry_enumerate_next
     (vD D he ne zs p1.isList p2.isList (u:=u) (v:=v) (by simpa using hu) (by simpa using hv) fun g h' zs' gp gk eo tp kk=>wpAny_pure ?_) (GX _))))
   refine ⟨_,rfl,wpAny_letOwnedTupleGo_enum (s:={ s with heap:=h',toks:=s.toks + 1 }) eo fun h2 he2 hs2=>?_⟩
   have hs2':Ey e h' h2:=hs2
   have sub4:∀c∈([z,TO,i1,i2]:List Addr),c∈([e,z,TI,TO,i1,i2]:List Addr):=fun c hc'=>by
     simp only [DX,DT,or_false] at hc' ⊢
     rcases hc' with r | r | r | r <;> simp [r]
   have n0:H s.heap.objs.size=none:=I.hok.fresh (DJ _)
   have I1:Inv X pins σ (upd H s.heap.objs.size (.tup [x,y])) { s with heap:=g,toks:=s.toks }:=I.many (ch:=[z,TO,i1,i2]) (fun c hc'=>hf c (sub4 c hc')) (fun c o hc' q=>gk c o hc' q) (DJ _) ⟨by show 2<=sizeLine; decide,[u,v],.cons ru (.cons rv .nil),_,gp,rfl,_,rfl⟩
   have ltg:s.heap.objs.size < g.objs.size:=DL gp
   have n1:(upd H s.heap.objs.size (.tup [x,y])) g.objs.size=none:=I1.hok.fresh (DJ _)
   have elt:e < g.objs.size:=GR (ltf e (by simp)) ltg
   have t2:IsPair h2 g.objs.size (.int i s.toks) (.ref s.heap.objs.size):=hs2'.extBut _ _ (Fs elt) tp
   have fe:cq X pins (upd H s.heap.objs.size (.tup [x,y])) e:=⟨by rw [aj (Ea (ltf e (by simp)))]; exact (hf e (by simp)).1,(hf e (by simp)).2⟩
   have kk2:∀c o,c≠e->g.get? c=some o->h2.get? c=some o:=fun c o hc' q=>hs2'.extBut _ _ hc' (kk c o hc' q)
   have I2:Inv X pins σ (upd (upd H s.heap.objs.size (.tup [x,y])) g.objs.size (.tup [.int (i:Nat),.ref s.heap.objs.size])) { s with heap:=h2,toks:=s.toks + 1 }:=I1.many (ch:=[e]) (fun c hc'=>by rw [List.mem_singleton.mp hc']; exact fe) (fun c o hc' q=>kk2 c o (fun z=>hc' (by rw [z]; simp)) q) (DJ _)
     ⟨by show 2<=sizeLine; decide,[.int i s.toks,.ref s.heap.objs.size],.cons ⟨_,rfl⟩ (.cons rfl .nil),_,t2,rfl,_,rfl⟩
   refine ⟨.ref g.objs.size,_,I2,rfl,⟨_,_,x,y,n0,n1,rfl,rfl,fun xs' ys' q1 q2=>?_⟩,⟨⟨_,by simpa using he2⟩,zs'.on fun c hc' o q=>kk2 c o (fun z=>ne (z ▸ hc')) q⟩,fun c hc'=>?_⟩
   · rw [I.list_inj q1 hq1,I.list_inj q2 hq2]; exact ⟨hx,hy⟩
   · have lt:=ltf c hc'
     rw [aj (Ea (GR lt ltg)),aj (Ea lt)]
     exact (hf c hc').1
 done:=by
   intro X hP hw hK hc i pins s σ H E I hf st hg
   subst hP hw hK
   obtain ⟨xs,ys,hq1,hq2,hend⟩:=hg
   obtain ⟨its1,rv1,p1,_⟩:=I.list hq1
   obtain ⟨its2,rv2,p2,_⟩:=I.list hq2
   have l1:=rv1.length
   have l2:=rv2.length
   obtain ⟨⟨old,he⟩,zs⟩:=st
   have hT:s.TypeIs (.ref e) "enumerate":=⟨_,he,rfl⟩
   have ty:s.TypeIs (.ref z) "zip":=by obtain ⟨fl,q⟩:=zs.ob; exact ⟨_,q,rfl⟩
   unfold pyNext
   refine wpAny_bind (wpAny_attempt (Ej (name:=DD "__next__") hT Fd (wpAny_call_entry Fd hT F.entry_enumerate_next ?_ (GX _))))
   show wpAny _ _ (field (.ref e) 2 >>= _) _ _ _
   refine wpAny_bind (wpAny_field he rfl (x:=.ref z) rfl (wpAny_bind ?_))
   unfold D4
   refine wpAny_bind (Ej (name:=DD "__next__") ty EN (wpAny_call_entry EN ty FK (ZS.done (I.ok.hd hc) D zs p1.isList p2.isList ?_ fun g ee gk hee=>?_) (FG _)))
   · rcases hend with q | q
     · exact .inl (by simp; omega)
     · exact .inr (by simp; omega)
   · obtain ⟨o,ho,hcl⟩:=hee
     refine wpAny_bind (wpAny_isInstance (T:="StopIteration") (b:=true) ⟨o,ho,hcl⟩ isSubtype_stop (wpAny_pure ⟨rfl,?_⟩))
     exact I.many0 (t':=s.toks) (ch:=[z,TO,i1,i2]) (fun c hc'=>hf c (by simp only [DX,DT,or_false] at hc' ⊢; rcases hc' with r | r | r | r <;> simp [r])) fun c o hc' q=>gk c o hc' q
 self:=fun _ _ _ _ _ st h=>by
   obtain ⟨⟨old,he⟩,_⟩:=st
   exact wpAny_pyIter_enum he h
def CL (K:DA)(ta:TA):TI:=fun σ H R=>ta σ H fun vs H1=>∃a b,vs=[.ref a,.ref b]/\(∃xs,ao K H1 a xs)/\(∃ys,ao K H1 b ys)/\R (rE K a b) H1
section
variable {X:Cx}{a b:Expr}{ta:TA}{p1 p2 pos pos2 tp:Pos}{elts:List Expr}{x1:Nat}
theorem A3 (hg1:Gl X "enumerate")(hm1:X.mg "enumerate"=none)(hg2:Gl X "zip")(hm2:X.mg "zip"=none)(ha:oB X [a,b] ta)(hv1:bootBuiltins "enumerate"=some (.type "enumerate"):=by first | rfl | decide +kernel)(hv2:bootBuiltins "zip"=some (.type "zip"):=by first | rfl | decide +kernel) :
   PI X (.Tuple elts x1 tp) (.Call (.Name "enumerate" p1) [.Call (.Name "zip" p2) [a,b] [] pos2] [] pos) (CL X.K ta):=by
 intro pins s σ H R I h
 refine wpAny_Call_Name_kw (dr I hg1 hm1 hv1 ?_ (by decide) (by decide))
 refine Em ?_ rfl rfl
 show wpAny _ _ (spliced ((false,eval (.Call (.Name "zip" p2) [a,b] [] pos2) X.env) :: [])) _ _ s
 refine E5 (wpAny_Call_Name_kw (dr I hg2 hm2 hv2 ?_ (by decide) (by decide)))
 refine Em (aX (ha.pa pos2 pins s σ H _ I h) fun us s1 ⟨vs,H1,I1,r1,q1⟩=>?_) ((ha.ns a [b] rfl).1.h [b] X.env) ((ha.ns a [b] rfl).2 pos2 X.env)
 obtain ⟨l1,l2,e,⟨xs,hq1⟩,⟨ys,hq2⟩,q⟩:=q1
 subst e
 obtain ⟨u,v,rfl,ru,rv⟩:=Vals.two r1
 obtain rfl:u=D8 l1:=ru
 obtain rfl:v=D8 l2:=rv
 obtain ⟨its1,rv1,p1,_⟩:=I1.list hq1
 obtain ⟨its2,rv2,p2,_⟩:=I1.list hq2
 have lt1:l1 < s1.heap.objs.size:=by obtain ⟨_,_,e,_⟩:=p1; exact DL e
 have lt2:l2 < s1.heap.objs.size:=by obtain ⟨_,_,e,_⟩:=p2; exact DL e
 refine call_zip_2 p1.isList p2.isList fun h' hz hTI hTO hi1 hi2 hsz hk=>?_
 refine Fw ?_
 refine vm (s:={ s1 with heap:=h' }) hz fun g he gk=>?_
 refine wpAny_pyIter_enum he ?_
 have I2:Inv X pins σ H1 { s1 with heap:=g }:=I1.kept (t':=s1.toks) fun c o q=>gk _ _ (hk c o q)
 have D:=zipApart_new lt1 lt2
 have up:∀k,cq X pins H1 (s1.heap.objs.size + k):=fun k=>I1.fpOk (E1 _ _) (I1.hok.fresh (E1 _ _))
 have sz:h'.objs.size=s1.heap.objs.size + 5:=hsz
 have ne:h'.objs.size ∉ ([s1.heap.objs.size + 4,s1.heap.objs.size + 2,s1.heap.objs.size + 3,s1.heap.objs.size,s1.heap.objs.size + 1]:List Addr):=fun hc=>by
   rw [sz] at hc
   have key:∀n:Nat,¬ (n + 5)∈([n + 4,n + 2,n + 3,n,n + 1]:List Nat):=fun n hc=>by
     simp only [DX,DT,or_false] at hc
     omega
   exact key _ hc
 refine ⟨_,_,_,_,H1,rfl,I2,w6 D ne,⟨⟨_,he⟩,⟨gk _ _ hTI,⟨_,_,gk _ _ hTO⟩,hi1.at fun o q=>gk _ o q,hi2.at fun o q=>gk _ o q,.inl (gk _ _ hz)⟩⟩,fun c hc=>?_,q⟩
 simp only [DX,DT,or_false] at hc
 rcases hc with rfl | rfl | rfl | rfl | rfl | rfl
 · show cq X pins H1 h'.objs.size
   rw [sz]
   exact up 5
 · exact up 4
 · exact up 2
 · exact up 3
 · exact up 0
 · exact up 1
end
section
variable {K:DA}{a b:Addr}{xs ys:List V}{g:TG}
/-- for i,(x,y) in enumerate(zip(xs,ys)),both staying -/
theorem ym {tb:TS}{D:Ends}{σ:St}{H:Hp}(Pv:Nat->St->Hp->Prop)(h0:Pv 0 σ H)(hl:∀i σ H,Pv i σ H->ao K H a xs/\ao K H b ys)
   (hs:∀i x y p q σ H,xs[i]? = some x->ys[i]? = some y->Pv i σ H->H p=none->(upd H p (.tup [x,y])) q=none->g (.ref q) σ (upd (upd H p (.tup [x,y])) q (.tup [.int (i:Nat),.ref p])) fun σ2 H2=>tb { D with nx:=Pv (i + 1),ct:=Pv (i + 1),bk:=D.nx } σ2 H2)
   (hd:∀σ H,Pv (min xs.length ys.length) σ H->D.nx σ H) :
   ∃W:Nat->Nat->St->Hp->Prop,(∃m,W 0 m σ H)/\∀i m σ H,W i m σ H ->
     ((rE K a b).stop i H/\D.nx σ H)\/((rE K a b).go i H/\∃N:St->Hp->Prop,(∀σ' H',N σ' H'->∃m',m' < m/\W (i + 1) m' σ' H')/\∀x H',(rE K a b).yld i H x H'->g x σ H' fun σ2 H2=>tb { D with nx:=N,ct:=N,bk:=D.nx } σ2 H2):=by
 refine ⟨fun i m σ H=>m=min xs.length ys.length - i/\i<=min xs.length ys.length/\Pv i σ H,⟨min xs.length ys.length,by simp,Ep _,h0⟩,?_⟩
 rintro i m σ H ⟨rfl,hi,p⟩
 obtain ⟨q1,q2⟩:=hl i σ H p
 by_cases hlt:i < min xs.length ys.length
 · have h1:i < xs.length:=by omega
   have h2:i < ys.length:=by omega
   refine .inr ⟨⟨xs,ys,xs[i],ys[i],q1,q2,by simp [h1],by simp [h2]⟩,Pv (i + 1),fun σ' H' p'=>⟨min xs.length ys.length - (i + 1),by omega,rfl,hlt,p'⟩,fun x H' y=>?_⟩
   obtain ⟨pp,qq,x1,y1,n0,n1,rfl,rfl,k⟩:=y
   obtain ⟨k1,k2⟩:=k xs ys q1 q2
   exact hs i x1 y1 pp qq σ H k1 k2 p n0 n1
 · have e:i=min xs.length ys.length:=by omega
   subst e
   exact .inl ⟨⟨xs,ys,q1,q2,by omega⟩,hd σ H p⟩
end
end L2
namespace L3
open PySem PySem.Spec PyProof.Rows L2
theorem Dn {X:Cx}{a b:Expr}{t:TA}{KK:DA}{p1 p2 pos pos2 tp:Pos}{elts:List Expr}{x1:Nat}(hg1:Gl X "enumerate")(hm1:X.mg "enumerate"=none)(hg2:Gl X "zip")(hm2:X.mg "zip"=none)(ha:SA X [a,b] t)(hK:X.K=KK:=by first | exact cxC_K | rfl) :
   SI X (.Tuple elts x1 tp) (.Call (.Name "enumerate" p1) [.Call (.Name "zip" p2) [a,b] [] pos2] [] pos) (CL KK t):=by
 subst hK
 exact ⟨A3 hg1 hm1 hg2 hm2 ha.h⟩
end L3
set_option Elab.async false
set_option linter.all false
set_option maxRecDepth 100000
namespace L2
open PySem PySem.Spec PyProof.Rows
section
variable {X:Cx}{pos:Pos}
/-- x,y=a,b with plain local names: stored from the right; the tuple itself is not tracked -/
def xQ (i j:Nat)(ta:TA):TS:=fun D σ H=>ta σ H fun vs H1=>∃u v,vs=[u,v]/\D.nx ((σ.set i (some u)).set j (some v)) H1
theorem wR {i j:Nat}{x y:Str}{a b:Expr}{ta:TA}{px py pt:Pos}{kt k2 pt2}(hc:X.calm=true)(hN:X.N.Nodup)(hi:X.N[i]? = some x)(hj:X.N[j]? = some y)(hij:i≠j)
   (hx:X.env.scope.names.lookup x=some .local) (hy:X.env.scope.names.lookup y=some .local) (ha:PA X [a,b] ta)
   (hw:swappedStores [.Tuple [.Name x px,.Name y py] kt pt] (.Tuple [a,b] k2 pt2) X.env=pure (some [x,y]))
   (hs:swapsWithSole [.Tuple [.Name x px,.Name y py] kt pt] (.Tuple [a,b] k2 pt2) pos.line X.env=pure false:=by rfl) :
   PS X (.Assign [.Tuple [.Name x px,.Name y py] kt pt] (.Tuple [a,b] k2 pt2) pos) (xQ i j ta):=by
 intro pins s σ H D I h
 rw [exec_Assign_arm]
 refine wpAny_bind (wpAny_standAt ?_)
 rw [hs]
 refine wpAny_bind (wpAny_pure ?_)
 rw [if_neg (by decide)]
 refine wpAny_bind (Tuple_ (aX (ha _ pins s σ H _ I h) fun us s1 ⟨vs,H1,I1,r1,q1⟩=>?_))
 obtain ⟨u,v,e1,q1⟩:=q1
 subst e1
 obtain ⟨u1,u2,rfl,ru,rv⟩:=Vals.two r1
 refine wpAny_newObj_type ?_ JC
 have I2:Inv X pins σ H1 { s1 with heap:=s1.heap.push { cls:=.type "tuple",data:=.seq [u1,u2].toArray } }:=I1.kept (t':=s1.toks) fun b o e=>DK _ e
 rw [hw]
 refine wpAny_bind (wpAny_pure ?_)
 show wpAny (model X.prog X.w) X.A (do rule "assign.swapped-stores"; let items ← unpackItems (.ref s1.heap.objs.size) 2 none; assignInOrder [fun v=>bindName X.env y v,fun v=>bindName X.env x v] items.reverse; pure Flow.next) _ _ _
 refine wpAny_bind (wpAny_rule (wpAny_bind (unpackItems_tuple (items:=#[u1,u2]) (I.ok.hd hc) (Gj s1.heap _) fun h' hx'=>?_)))
 have I3:=I2.kept (h':=h') (t':=s1.toks) fun b o e=>hx' b o (Ea (DL e)) e
 show wpAny _ _ (assignInOrder [fun v=>bindName X.env y v,fun v=>bindName X.env x v] [u2,u1] >>= fun _=>pure Flow.next) _ _ _
 refine wpAny_bind (assignInOrder_cons (wpAny_bindName (f6 I3 hN hj (.inl hy) rv (fun s2 I4=>?_) (.inr hy))))
 refine assignInOrder_cons (wpAny_bindName (f6 I4 hN hi (.inl hx) ru (fun s3 I5=>assignInOrder_nil (wpAny_pure ?_)) (.inr hx)))
 rw [List.set_comm _ _ hij.symm] at I5
 exact ⟨_,H1,I5,q1⟩
theorem oU:∀{ns:List Int} {us:List Value},Vals (ns.map V.int) us->∃l:List (Int×Tok),us=l.map (fun p=>FW p.1 p.2)/\l.map (·.1)=ns
 | [],_,.nil=>⟨[],rfl,rfl⟩
 | n :: ns,_,.cons r q=>by
   obtain ⟨t,rfl⟩:=r
   obtain ⟨l,rfl,rfl⟩:=oU q
   exact ⟨(n,t) :: l,rfl,rfl⟩
theorem pZ (hc:X.calm=true):cg X (.builtin "sum") (fun xs H Q=>∃(l:Addr) (ns:List Int),xs=[.ref l]/\ao X.K H l (ns.map V.int)/\Q (.int ns.sum) H):=by
 intro pins s σ H xs us Q I r h
 obtain ⟨l,ns,rfl,hq,q⟩:=h
 obtain ⟨u,rfl,ru⟩:=vals1 r
 obtain rfl:u=D8 l:=ru
 obtain ⟨its,rv,pl,_⟩:=I.list hq
 obtain ⟨ps,e1,e2⟩:=oU rv
 have hl:s.heap.IsList l (intItems ps.toArray):=by
   have:=pl.isList
   rw [e1] at this
   simpa [intItems] using this
 refine sum_intListG (I.ok.hd hc) hl fun h' tk t' k=>⟨.int ns.sum,H,I.kept k,⟨t',?_⟩,q⟩
 have e3:preSum (numAt ps.toArray) ps.toArray.size=ns.sum:=by
   rw [preSum_eq,EG (by simp),← e2]
 rw [e3]
end
end L2
namespace L3
open PySem PySem.Spec PyProof.Rows L2
section
variable {X:Cx}{a b c e o:Expr}{es:List Expr}{ta tb tc te:TE}{t:TA}{pos:Pos}
theorem y7 (i j:Nat){x y:Str}{px py pt:Pos}{kt k2 pt2}(hN:X.N.Nodup)(ha:SA X [a,b] t)(hi:X.N[i]? = some x:=by rfl)(hj:X.N[j]? = some y:=by rfl)(hij:i≠j:=by decide)
   (hx:X.env.scope.names.lookup x=some .local:=by rfl) (hy:X.env.scope.names.lookup y=some .local:=by rfl)
   (hw:swappedStores [.Tuple [.Name x px,.Name y py] kt pt] (.Tuple [a,b] k2 pt2) X.env=pure (some [x,y]):=by rfl)
   (hs:swapsWithSole [.Tuple [.Name x px,.Name y py] kt pt] (.Tuple [a,b] k2 pt2) pos.line X.env=pure false:=by rfl) (hc:X.calm=true:=by rfl) :
   SS X (.Assign [.Tuple [.Name x px,.Name y py] kt pt] (.Tuple [a,b] k2 pt2) pos) (xQ i j t):=⟨wR hc hN hi hj hij hx hy ha.h.pa hw hs⟩
theorem oH (hc:X.calm=true:=by rfl):SC X (.builtin "max") (fun xs H Q=>∃i j,xs=[.int i,.int j]/\Q (.int (if j > i then j else i)) H):=⟨pX hc⟩
theorem xj {KK:DA}(hc:X.calm=true:=by rfl)(hK:X.K=KK:=by first | exact cxC_K | rfl):SC X (.builtin "sum") (fun xs H Q=>∃(l:Addr) (ns:List Int),xs=[.ref l]/\ao KK H l (ns.map V.int)/\Q (.int ns.sum) H):=by
 subst hK
 exact ⟨pZ hc⟩
theorem Du {KK:DA}(ha:SE X a ta)(he:∀whole,isTrue a X.env whole=(do let v ← whole; standAt a.pos; holding [v] (truthy v)):=by intro _; rfl)(hK:X.K=KK:=by first | exact cxC_K | rfl) :
   ST X a (fun σ H Q=>ta σ H fun x H'=>∃k,x9 KK x H' k/\Q k H'):=by
 subst hK
 exact ⟨uw ha.h he⟩
end
end L3
set_option Elab.async false
set_option linter.all false
/-! ### what is said for ever: the i-th number of a run -/
namespace TW
def aE (sd:List Int)(rd:Option (List Int))(i:Nat):Option Int:=if i < sd.length then sd[i]? else
 match rd with
 | none=>none
 | some xs=>if xs.length=0 then none else xs[(i - sd.length) % xs.length]?
def rep (n:Nat)(xs:List Int):List Int:=(Ek n xs).flatten
theorem fT (n:Nat)(xs:List Int):rep (n + 1) xs=rep n xs++xs:=by
 unfold rep
 rw [GS,List.flatten_append,List.flatten_singleton]
theorem dB (n:Nat)(xs:List Int):(rep n xs).length=n * xs.length:=by
 induction n with
 | zero=>unfold rep; simp
 | succ n ih=>rw [fT,DE,ih,Fq]
theorem pG {xs:List Int}:∀{n j:Nat},j < n * xs.length->(rep n xs)[j]? = xs[j % xs.length]?
 | 0,j,h=>by omega
 | n + 1,j,h=>by
   rw [fT]
   by_cases hj:j < n * xs.length
   · rw [D9 (by rw [dB]; exact hj)]
     exact pG hj
   · rw [DW (by rw [dB]; omega),dB]
     rw [Fq] at h
     have e:j % xs.length=j - n * xs.length:=by
       obtain ⟨c,hc⟩ : ∃c,c=j - n * xs.length:=⟨_,rfl⟩
       have h1:j=c + xs.length * n:=by rw [Nat.mul_comm xs.length n]; omega
       rw [← hc,h1,Nat.add_mul_mod_self_left,Nat.mod_eq_of_lt (by omega)]
     rw [e]
/-- the word as far as it is written out -/
theorem jC {sd xs:List Int}{k i:Nat}(h:i < (sd++rep k xs).length):(sd++rep k xs)[i]? = aE sd (some xs) i:=by
 unfold aE
 by_cases hi:i < sd.length
 · rw [if_pos hi,D9 hi]
 · rw [DE,dB] at h
   have hx:¬ xs.length=0:=fun z=>by rw [z] at h; omega
   rw [if_neg hi,DW (by omega)]
   show _=if xs.length=0 then none else xs[(i - sd.length) % xs.length]?
   rw [if_neg hx,pG (by omega)]
/-- the first m numbers -/
def cU (sd:List Int)(rd:Option (List Int))(m:Nat)(fs:List Int):Prop:=∀i,fs[i]? = if i < m then aE sd rd i else none
theorem iW {sd:List Int}{rd:Option (List Int)}{m:Nat}(h:rd.getD []=[]):cU sd rd m (sd.take m):=fun i=>by
 rw [F2]
 by_cases hi:i < m
 · rw [if_pos hi,if_pos hi]
   unfold aE
   by_cases hs:i < sd.length
   · rw [if_pos hs]
   · rw [if_neg hs,EK (by omega)]
     cases rd with
     | none=>rfl
     | some xs=>
       have:xs=[]:=h
       subst this
       rfl
 · rw [if_neg hi,if_neg hi]
theorem mY {sd xs:List Int}{m k:Nat}(h:m<=(sd++rep k xs).length):cU sd (some xs) m ((sd++rep k xs).take m):=fun i=>by
 rw [F2]
 by_cases hi:i < m
 · rw [if_pos hi,if_pos hi]
   exact jC (by omega)
 · rw [if_neg hi,if_neg hi]
theorem cU.len {sd:List Int}{rd:Option (List Int)}{m:Nat}{fs:List Int}(h:cU sd rd m fs):fs.length<=m:=by
 by_cases z:fs.length<=m
 · exact z
 · have:=h m
   rw [if_neg (by omega),Gy] at this
   omega
theorem cU.at {sd:List Int}{rd:Option (List Int)}{m:Nat}{fs:List Int}(h:cU sd rd m fs){i:Nat}(hi:i < m):aE sd rd i=fs[i]?:=by
 rw [h i,if_pos hi]
/-- two runs do not part -/
def bL (sd:List Int)(rd:Option (List Int))(sd':List Int)(rd':Option (List Int)):Prop:=(∀i,aE sd rd i=aE sd' rd' i)/\rd.isNone=rd'.isNone
/-- so many numbers are said alike -/
def bR (sd:List Int)(rd:Option (List Int))(sd':List Int)(rd':Option (List Int))(n:Nat):Prop:=
 (∀i,i < n->aE sd rd i=aE sd' rd' i/\(aE sd rd i).isSome=true)/\¬ (aE sd rd n=aE sd' rd' n/\(aE sd rd n).isSome=true)
theorem bL.symm {sd:List Int}{rd:Option (List Int)}{sd':List Int}{rd':Option (List Int)}(h:bL sd rd sd' rd'):bL sd' rd' sd rd:=⟨fun i=>(h.1 i).symm,h.2.symm⟩
def fO (sd:List Int)(rd:Option (List Int))(sd':List Int)(rd':Option (List Int)):Nat:=max sd.length sd'.length + ((rd.getD []).length + (rd'.getD []).length)
theorem bp {sd:List Int}{rd:Option (List Int)}(h:(rd.getD []).length=0){i:Nat}(hi:sd.length<=i):aE sd rd i=none:=by
 unfold aE
 rw [if_neg (by omega)]
 cases rd with
 | none=>rfl
 | some xs=>
   show (if xs.length=0 then none else xs[(i - sd.length) % xs.length]?)=none
   rw [if_pos (show xs.length=0 from h)]
theorem j9 {sd:List Int}{rd:Option (List Int)}(h:0 < (rd.getD []).length)(i:Nat):(aE sd rd i).isSome=true:=by
 unfold aE
 by_cases hi:i < sd.length
 · rw [if_pos hi,DH hi]
   rfl
 · rw [if_neg hi]
   cases rd with
   | none=>simp at h
   | some xs=>
     have h':0 < xs.length:=h
     show (if xs.length=0 then none else xs[(i - sd.length) % xs.length]?).isSome=true
     rw [if_neg (by omega),DH (Nat.mod_lt _ h')]
     rfl
theorem fS {sd:List Int}{rd:Option (List Int)}{i:Nat}(hi:sd.length<=i):aE sd rd (i + (rd.getD []).length)=aE sd rd i:=by
 unfold aE
 rw [if_neg (by omega),if_neg (by omega)]
 cases rd with
 | none=>rfl
 | some xs=>
   show (if xs.length=0 then none else xs[(i + xs.length - sd.length) % xs.length]?)=if xs.length=0 then none else xs[(i - sd.length) % xs.length]?
   by_cases h:xs.length=0
   · rw [if_pos h,if_pos h]
   · rw [if_neg h,if_neg h,show i + xs.length - sd.length=(i - sd.length) + xs.length by omega,Nat.add_mod_right]
/-- where the first so many numbers are alike,all are -/
theorem wZ {sd:List Int}{rd:Option (List Int)}{sd':List Int}{rd':Option (List Int)}{m:Nat}(hm:fO sd rd sd' rd'<=m)(h:∀i,i < m->aE sd rd i=aE sd' rd' i)(i:Nat):aE sd rd i=aE sd' rd' i:=by
 unfold fO at hm
 have h1:=Nat.le_max_left sd.length sd'.length
 have h2:=Nat.le_max_right sd.length sd'.length
 by_cases ha:(rd.getD []).length=0
 · by_cases hb:(rd'.getD []).length=0
   · by_cases hi:i < m
     · exact h i hi
     · rw [bp ha (by omega),bp hb (by omega)]
   · have q:=h (max sd.length sd'.length) (by omega)
     rw [bp ha h1] at q
     have:=j9 (sd:=sd') (rd:=rd') (by omega) (max sd.length sd'.length)
     rw [← q] at this
     cases this
 · by_cases hb:(rd'.getD []).length=0
   · have q:=h (max sd.length sd'.length) (by omega)
     rw [bp hb h2] at q
     have:=j9 (sd:=sd) (rd:=rd) (by omega) (max sd.length sd'.length)
     rw [q] at this
     cases this
   · induction i using FO with
     | _ i ih=>
       by_cases hi:i < m
       · exact h i hi
       · have e1:aE sd rd i=aE sd rd (i - (rd.getD []).length):=by
           have:=fS (sd:=sd) (rd:=rd) (i:=i - (rd.getD []).length) (by omega)
           rwa [show i - (rd.getD []).length + (rd.getD []).length=i by omega] at this
         have e2:aE sd' rd' (i - (rd.getD []).length)=aE sd' rd' (i - (rd.getD []).length - (rd'.getD []).length):=by
           have:=fS (sd:=sd') (rd:=rd') (i:=i - (rd.getD []).length - (rd'.getD []).length) (by omega)
           rwa [show i - (rd.getD []).length - (rd'.getD []).length + (rd'.getD []).length=i - (rd.getD []).length by omega] at this
         have e3:aE sd rd (i - (rd'.getD []).length)=aE sd rd (i - (rd.getD []).length - (rd'.getD []).length):=by
           have:=fS (sd:=sd) (rd:=rd) (i:=i - (rd.getD []).length - (rd'.getD []).length) (by omega)
           rwa [show i - (rd.getD []).length - (rd'.getD []).length + (rd.getD []).length=i - (rd'.getD []).length by omega] at this
         have e4:aE sd' rd' i=aE sd' rd' (i - (rd'.getD []).length):=by
           have:=fS (sd:=sd') (rd:=rd') (i:=i - (rd'.getD []).length) (by omega)
           rwa [show i - (rd'.getD []).length + (rd'.getD []).length=i by omega] at this
         rw [e1,ih _ (by omega),e2,← ih _ (by omega),← e3,ih _ (by omega),← e4]
theorem j8 {sd:List Int}{rd:Option (List Int)}{m:Nat}{fs:List Int}(h:cU sd rd m fs)(hlt:fs.length < m):aE sd rd fs.length=none:=by
 rw [h.at hlt,Gy]
 omega
end TW
set_option Elab.async false
set_option linter.all false
set_option maxRecDepth 100000
namespace L2
open PySem PySem.Spec PyProof.Rows SeqAt
/-! ### lists of whole numbers,alike or not; tuples of lists and None -/
theorem all_ints {xs ys:List Int}(h:xs.length=ys.length):(D5 xs.length).all (fun j=>mX (.int (xs.getD j 0)) (.int (ys.getD j 0)))=decide (xs=ys):=by
 have key:(∀j,j < xs.length->xs.getD j 0=ys.getD j 0)↔xs=ys:=by
   constructor
   · intro k
     refine List.ext_getElem h fun j h1 h2=>?_
     have:=k j h1
     rw [EI,EI,DH h1,DH h2] at this
     exact this
   · intro e j _
     rw [e]
 by_cases e:xs=ys
 · rw [decide_eq_true e,Gg]
   intro j hj
   show decide (xs.getD j 0=ys.getD j 0)=true
   exact decide_eq_true (key.mpr e j (List.mem_range.mp hj))
 · rw [decide_eq_false e]
   rw [Bool.eq_false_iff]
   intro z
   rw [Gg] at z
   exact e (key.mp fun j hj=>of_decide_eq_true (show decide (xs.getD j 0=ys.getD j 0)=true from z j (List.mem_range.mpr hj)))
theorem qD {K:DA}{H:Hp}{n:Nat}{xs ys:List Int}:∀(j:Nat) (x y:V),(xs.map V.int)[j]? = some x->(ys.map V.int)[j]? = some y->EB K H n x y (mX (.int (xs.getD j 0)) (.int (ys.getD j 0))):=fun j x y hx hy=>by
 rw [Ed] at hx hy
 obtain ⟨a,ha,rfl⟩:=Option.map_eq_some_iff.mp hx
 obtain ⟨b,hb,rfl⟩:=Option.map_eq_some_iff.mp hy
 rw [EI,EI,ha,hb]
 exact EB.flat rfl rfl
theorem RB.ints {K:DA}{H:Hp}{n:Nat}{a b:Addr}{xs ys:List Int}(ha:H a=some (.lst (xs.map V.int)))(hb:H b=some (.lst (ys.map V.int))):RB K H n (.ref a) (.ref b) (decide (xs=ys)):=by
 by_cases hl:xs.length=ys.length
 · refine ⟨a,b,_,_,rfl,rfl,.inl ⟨_,ao.of ha,ao.of hb,by rw [DC,DC]; exact hl,qD,?_⟩⟩
   rw [DC,all_ints hl]
 · exact ⟨a,b,_,_,rfl,rfl,.inr (.inl ⟨ao.of ha,ao.of hb,by rw [DC,DC]; exact hl,decide_eq_false fun z=>hl (by rw [z])⟩)⟩
end L2
namespace L3
open PySem PySem.Spec PyProof.Rows L2
end L3
namespace TW
/-! ### what is alike,by the law's own look -/
end TW
set_option Elab.async false
set_option linter.all false
/-! ### runs walked side by side -/
namespace TW
section
variable {S S':Type}{f:S->Option (List Int×S)}{f':S'->Option (List Int×S')}
theorem jB {j i:Nat}{s t:S}{sj xs:List Int}(hj:j < i)(h1:tr f j s=some (t,sj))(h2:tr f i s=some (t,sj++xs)):∀k,tr f (j + k * (i - j)) s=some (t,sj++rep k xs):=by
 have h3:tr f (i - j) t=some (t,xs):=by
   have:=cW h1 (i - j)
   rw [show j + (i - j)=i by omega,h2] at this
   cases e:tr f (i - j) t with
   | none=>rw [e] at this; cases this
   | some z=>
     rw [e] at this
     injection this with this
     injection this with e1 e2
     have e3:=GF e2
     rw [e1,e3]
 intro k
 induction k with
 | zero=>
   rw [Nat.zero_mul,Nat.add_zero,h1]
   unfold rep
   simp
 | succ k ih=>
   have:=cW ih (i - j)
   rw [h3] at this
   rw [Fq,← Fh,this,fT,← Fx]
   rfl
theorem pB {w rest:List Int}{i:Nat}(h:i < w.length):(w++rest)[i]? = w[i]?:=D9 h
/-- what is said in some steps is the word's beginning -/
theorem aO.word {s:S}{sd:List Int}{rd:Option (List Int)}{n:Nat}(h:aO f s (sd,rd,n)){m:Nat}{t:S}{w:List Int}(hm:tr f m s=some (t,w)){i:Nat}(hi:i < w.length):aE sd rd i=w[i]?:=by
 rcases h with ⟨n',t',sd',h1,h2,e⟩ | ⟨j,i',t',sj,xs,hj,h1,h2,_,e⟩
 · cases e
   obtain ⟨y,hy,rest,hr⟩:=dH h1 (ky h1 h2 hm)
   rw [hm] at hy
   cases hy
   have hr':sd=w++rest:=hr
   unfold aE
   rw [hr',if_pos (by rw [DE]; omega),pB hi]
 · cases e
   have h3:=jB hj h1 h2 m
   have hle:m<=n + m * (i' - n):=by
     have:m * 1<=m * (i' - n):=Fl m (by omega)
     omega
   obtain ⟨y,hy,rest,hr⟩:=dH h3 hle
   rw [hm] at hy
   cases hy
   have hr':sd++rep m xs=w++rest:=hr
   rw [← jC (k:=m) (by rw [hr',DE]; omega),hr',pB hi]
/-- each number of the word is said in some steps -/
theorem aO.long {s:S}{sd:List Int}{rd:Option (List Int)}{n:Nat}(h:aO f s (sd,rd,n)){i:Nat}(hi:(aE sd rd i).isSome=true):∃m t w,tr f m s=some (t,w)/\i < w.length:=by
 rcases h with ⟨n',t',sd',h1,h2,e⟩ | ⟨j,i',t',sj,xs,hj,h1,h2,_,e⟩
 · cases e
   refine ⟨n,t',sd,h1,?_⟩
   by_cases z:i < sd.length
   · exact z
   · rw [bp rfl (by omega)] at hi
     cases hi
 · cases e
   refine ⟨_,t',_,jB hj h1 h2 (i + 1),?_⟩
   rw [DE,dB]
   by_cases z:i < sd.length
   · omega
   · by_cases x:xs.length=0
     · rw [bp (rd:=some xs) x (show sd.length<=i by omega)] at hi
       cases hi
     · have:(i + 1) * 1<=(i + 1) * xs.length:=Fl _ (by omega)
       omega
theorem aO.fin {s:S}{sd:List Int}{rd:Option (List Int)}{n:Nat}(h:aO f s (sd,rd,n)){m:Nat}{t:S}{w:List Int}(hm:tr f m s=some (t,w))(ht:f t=none):rd=none/\sd=w:=by
 have:=aO.uniq h (.inl ⟨m,t,w,hm,ht,rfl⟩)
 injection this with e1 e2
 injection e2 with e2 _
 exact ⟨e2,e1⟩
variable {R:S->S'->Prop}
end
/-! ### each number said one more -/
end TW
set_option Elab.async false
set_option linter.all false
set_option maxRecDepth 100000
namespace L2
open PySem PySem.Spec PyProof.Rows
end L2
namespace L3
open PySem PySem.Spec PyProof.Rows L2
end L3
set_option Elab.async false
set_option linter.all false
set_option maxRecDepth 100000
namespace L2
open PySem PySem.Spec PyProof.Rows SeqAt
/-! ### two promises of one def; lists of anything told,alike or not -/
end L2
set_option Elab.async false
set_option linter.all false
set_option maxRecDepth 100000
/-! ### a def that is called within an except suite; try .. except T as e: any rows -/
namespace L2
open PySem PySem.Spec PyProof.Rows
end L2
namespace TW
open PySem L2
end TW
namespace L3
open PySem L2
end L3
set_option Elab.async false
set_option linter.all false
set_option maxRecDepth 100000
namespace L2
open PySem PySem.Spec PyProof.Rows SeqAt
end L2
namespace L3
open PySem PySem.Spec PyProof.Rows L2
end L3
set_option Elab.async false
set_option linter.all false
set_option maxRecDepth 100000
/-! zip of three lists of one length,walked by a tuple of names -/
namespace PySem
open Sem (wp)
end PySem
set_option Elab.async false
set_option linter.all false
set_option maxRecDepth 100000
namespace PySem
end PySem
namespace L2
open PySem PySem.Spec PyProof.Rows
end L2
namespace L3
open PySem PySem.Spec PyProof.Rows L2
end L3
set_option Elab.async false
set_option linter.all false
set_option maxRecDepth 100000
namespace L2
open PySem PySem.Spec PyProof.Rows
/-! enumerate of a list,walked by a tuple of names -/
end L2
namespace L3
open PySem PySem.Spec PyProof.Rows L2
/-! attributes,instances,methods -/
end L3
set_option Elab.async false
set_option linter.all false
set_option maxRecDepth 100000
namespace TW
open PySem L2
end TW
namespace L2
open PySem PySem.Spec PyProof.Rows
end L2
namespace L3
open PySem PySem.Spec PyProof.Rows L2
end L3
set_option Elab.async false
set_option linter.all false
set_option maxRecDepth 100000
namespace L3
open PySem PySem.Spec PyProof.Rows L2
end L3
set_option Elab.async false
set_option linter.all false
set_option maxRecDepth 100000
/-! ### d.setdefault(k,v),a dict of tuples -/
namespace L2
open PySem PySem.Spec PyProof.Rows
end L2
namespace L3
open PySem PySem.Spec PyProof.Rows L2
end L3
namespace L2
open PySem PySem.Spec PyProof.Rows
end L2
namespace L3
open PySem PySem.Spec PyProof.Rows L2
end L3
set_option Elab.async false
set_option linter.all false
set_option maxRecDepth 100000
namespace L3
open PySem PySem.Spec PyProof.Rows L2
end L3
set_option Elab.async false
set_option linter.all false
set_option maxRecDepth 100000
namespace L2
open PySem PySem.Spec PyProof.Rows
end L2
namespace L3
open PySem PySem.Spec PyProof.Rows L2
end L3
set_option Elab.async false
set_option linter.all false
set_option maxRecDepth 100000
/-! zip of two,each a list or a tuple,walked by a tuple of names -/
namespace PySem
open Sem (wp)
open PyProof.Rows (IsTup IsTupIter)
end PySem
set_option Elab.async false
set_option linter.all false
set_option maxRecDepth 100000
/-! zip of two,each a list or a tuple: its rules -/
namespace L2
open PySem PySem.Spec PyProof.Rows
end L2
namespace L3
open PySem PySem.Spec PyProof.Rows L2
end L3
set_option Elab.async false
set_option linter.all false
set_option maxRecDepth 100000
/-! texts: str(..),join,parts told exactly,a text in a text,>>; a dict of texts that the text's top level keeps -/
namespace L2
open PySem PySem.Spec PyProof.Rows
end L2
namespace L3
open PySem PySem.Spec PyProof.Rows L2
end L3
set_option Elab.async false
set_option linter.all false
set_option maxRecDepth 100000
/-! texts: split,int(text),parts; x in a dict of the top level,its get; pop(),x.f += y -/
namespace PySem.StrLaws
open Builtin Builtin.Str
end PySem.StrLaws
namespace L2
open PySem PySem.Spec PyProof.Rows
end L2
namespace L3
open PySem PySem.Spec PyProof.Rows L2
end L3
set_option Elab.async false
set_option linter.all false
set_option maxRecDepth 100000
/-! t[:k] that may be the whole of t -/
namespace HT
open PySem PySem.Spec PyProof.Rows
end HT
namespace L2
open PySem PySem.Spec PyProof.Rows
section
variable {X:Cx}
/-! isinstance(x,(T1,T2)),built-in types -/
inductive TyS (H:Hp):V->Value->Prop where
 | int (i:Int):TyS H (.int i) (.type "int")
 | str (x:Str):TyS H (.str x) (.type "str")
 | lst {a:Addr} {xs:List V} (h:H a=some (.lst xs)):TyS H (.ref a) (.type "list")
 | tup {a:Addr} {xs:List V} (h:H a=some (.tup xs)):TyS H (.ref a) (.type "tuple")
def A8 (K:DA):List V->Hp->VK->Prop:=fun xs H Q=>(∃x n t b,xs=[x,.ty n]/\TyOf K H x t/\Gi K t (.type n)=some b/\Q (.bl b) H) \/
 ∃(x:V) (tp:Addr) (ns:List String) (t:Value) (b:Bool),xs=[x,.ref tp]/\H tp=some (.tup (ns.map V.ty))/\TyS H x t/\PySem.W.kitAny K t (ns.map F3)=some b/\Q (.bl b) H
theorem oq {ns:List String}:∀{us:List Value},Vals (ns.map V.ty) us->us=ns.map F3:=by
 induction ns with
 | nil=>intro us h; cases h; rfl
 | cons a l ih=>
   intro us h
   cases h with
   | cons r t=>
     rw [ih t,D7]
     congr 1
theorem rO:cg X (.builtin "isinstance") (A8 X.K):=by
 intro pins s σ H xs us Q I r h
 rcases h with h | ⟨x,tp,ns,t,b,rfl,ht,ty,e,q⟩
 · exact rP pins s σ H xs us Q I r h
 obtain ⟨u,v,rfl,ru,rv⟩:=Vals.two r
 obtain rfl:v=D8 tp:=rv
 obtain ⟨_,its,rl,o,h1,h2,n,h3⟩:=(show aP X.prog X.w H s.heap tp (.tup (ns.map V.ty)) from I.hok tp _ ht)
 rw [oq rl] at h3
 obtain ⟨oc,od,oda,osl⟩:=o
 simp only at h2 h3
 subst h2 h3
 cases ty with
 | int i=>obtain ⟨t,q'⟩:=(show ∃t,u=FW i t from ru); cases q'; exact FD PySem.W.kitx_int I.kIn DV h1 e (fun z=>nomatch z) fun tk=>⟨.bl b,H,I.tok tk,rfl,q⟩
 | str y=>obtain ⟨t,q'⟩:=(show ∃t,u=FH y t from ru); cases q'; exact FD PySem.W.kitx_str I.kIn DV h1 e (fun z=>nomatch z) fun tk=>⟨.bl b,H,I.tok tk,rfl,q⟩
 | @lst a xs ea=>
   cases (show u=D8 a from ru)
   obtain ⟨_,_,n,_,g1⟩:=(show aP X.prog X.w H s.heap a (.lst xs) from I.hok a _ ea)
   exact FD FY I.kIn ⟨_,g1,rfl⟩ h1 e (fun z=>nomatch z) fun tk=>⟨.bl b,H,I.tok tk,rfl,q⟩
 | @tup a xs ea=>
   cases (show u=D8 a from ru)
   obtain ⟨_,_,_,p⟩:=(show aP X.prog X.w H s.heap a (.tup xs) from I.hok a _ ea)
   obtain ⟨o,g1,g2,_⟩:=p
   exact FD GK I.kIn ⟨o,g1,g2⟩ h1 e (fun z=>nomatch z) fun tk=>⟨.bl b,H,I.tok tk,rfl,q⟩
end
end L2
namespace L3
open PySem PySem.Spec PyProof.Rows L2
section
variable {X:Cx}{a b:Expr}{ta tb:TE}{pos:Pos}
theorem oG {KK:DA}(hK:X.K=KK:=by first | exact cxC_K | rfl):SC X (.builtin "isinstance") (A8 KK):=by
 subst hK
 exact ⟨rO⟩
end
end L3
set_option Elab.async false
set_option linter.all false
set_option maxRecDepth 100000
/-! an exception that leaves a comprehension -/
namespace L2
open PySem PySem.Spec PyProof.Rows
end L2
namespace L3
open PySem PySem.Spec PyProof.Rows L2
end L3
set_option Elab.async false
set_option linter.all false
set_option maxRecDepth 100000
/-! tokens: what is below a number,a list that is held as it lies,statements from where on so many tokens are taken; text.replace(a,b) -/
namespace L2
open PySem PySem.Spec PyProof.Rows
/-! ### y=[x for x in [texts] if x not in z]: the tokens of what is picked -/
/-! ### text.replace(y,l[i]) where l is held -/
end L2
namespace L3
open PySem PySem.Spec PyProof.Rows L2
end L3
set_option Elab.async false
set_option linter.all false
set_option maxRecDepth 100000
/-! dict(xs),xs a list of pairs whose first parts are tuples -/
namespace L2
open PySem PySem.Spec PyProof.Rows
end L2
namespace L3
open PySem PySem.Spec PyProof.Rows L2
end L3
set_option Elab.async false
set_option linter.all false
set_option maxRecDepth 100000
/-! ### t + u,t empty or not -/
namespace L2
open PySem PySem.Spec PyProof.Rows
section
variable {X:Cx}
def uz (K:DA):R2:=fun x y H Q=>∃a b xs ys,x=.ref a/\y=.ref b/\aq K H a xs/\aq K H b ys/\ys≠[]/\xs.length + ys.length<=sizeLine /\
 (xs=[]->Q (.ref b) H)/\(xs≠[]->∀p,H p=none->Q (.ref p) (upd H p (.tup (xs++ys))))
theorem wA:gP X (binaryOp .Add) (uz X.K):=by
 intro pins s σ H x y v u Q I rx ry h
 obtain ⟨a,b,xs,ys,rfl,rfl,ha,hb,hy,hz,q1,q2⟩:=h
 cases rx
 cases ry
 obtain ⟨its,r1,p1,_⟩:=I.tuple ha
 obtain ⟨its2,r2,p2,_⟩:=I.tuple hb
 by_cases hx:xs=[]
 · obtain ⟨⟨cls,dd,data,sl⟩,ho,hc,n,hd⟩:=id p1
   obtain ⟨⟨cls2,dd2,data2,sl2⟩,ho2,hc2,n2,hd2⟩:=id p2
   simp only at hc hd hc2 hd2
   subst hc hd hc2 hd2
   have e0:its=[]:=r1.nil_iff.mpr hx
   exact concat_meets ⟨_,ho,rfl⟩ ⟨_,ho2,rfl⟩ noFill_tuple_add seq_tuple_add Fy Fv (Fn _ _)
     (tuple_addW0 a b its.toArray its2.toArray n n2 dd dd2 sl sl2 (by simp [e0])) ⟨ho,ho2,⟨.ref b,H,I,rfl,q1 hx⟩⟩
 · refine ph pins s σ H (.ref a) (.ref b) _ _ Q I rfl rfl ⟨a,b,xs,ys,rfl,rfl,ha,hb,hx,hz,fun z=>absurd z hy,fun _=>q2 hx⟩
end
end L2
namespace L3
open PySem L2
theorem yJ {X:Cx}{KK:DA}(hK:X.K=KK:=by first | exact cxC_K | rfl):SO X (binaryOp .Add) (uz KK):=by
 subst hK
 exact ⟨wA⟩
end L3
set_option Elab.async false
set_option linter.all false
set_option maxRecDepth 100000
/-! ### sort of few items,whatever the comparisons say: the same items in some order -/
namespace L2
open PySem PySem.Spec PyProof.Rows
end L2
set_option Elab.async false
set_option linter.all false
set_option maxRecDepth 100000
/-! ### sorted(d): the keys of a dict,tuples of two whole numbers,in some order -/
namespace L2
open PySem PySem.Spec PyProof.Rows
end L2
set_option Elab.async false
set_option linter.all false
set_option maxRecDepth 100000
/-! ### the keys of a dict,one by one,whatever they are -/
namespace L2
open PySem PySem.Spec PyProof.Rows
end L2
set_option Elab.async false
set_option linter.all false
set_option maxRecDepth 100000
/-! ### sorted(d) -/
namespace L2
open PySem PySem.Spec PyProof.Rows
end L2
set_option Elab.async false
set_option linter.all false
set_option maxRecDepth 100000
/-! ### sorted(d),as a rule -/
namespace L2
open PySem PySem.Spec PyProof.Rows
end L2
namespace L3
open PySem L2
end L3
set_option Elab.async false
set_option linter.all false
set_option maxRecDepth 100000
/-! ### a comprehension within one; a dict comprehension with plain keys; a tuple of anything == a tuple of texts -/
namespace L2
open PySem PySem.Spec PyProof.Rows SeqAt
end L2
namespace L3
open PySem PySem.Spec PyProof.Rows L2
end L3
set_option Elab.async false
set_option linter.all false
set_option maxRecDepth 100000
/-! ### d.items(),walked by a tuple of names -/
namespace L2
open PySem PySem.Spec PyProof.Rows
/-! ### list(d),a dict of plain keys -/
/-! ### a=b=value -/
end L2
namespace L3
open PySem PySem.Spec PyProof.Rows L2
end L3
set_option Elab.async false
set_option linter.all false
set_option maxRecDepth 100000
/-! ### try .. except T,without a name: any rows -/
namespace L2
open PySem PySem.Spec PyProof.Rows
end L2
namespace L3
open PySem L2
end L3
set_option Elab.async false
set_option linter.all false
set_option maxRecDepth 100000
/-! ### try: x=f(..)[i]; except T: the locals are known at the handler -/
namespace L2
open PySem PySem.Spec PyProof.Rows
end L2
namespace L3
open PySem L2
end L3
set_option Elab.async false
set_option linter.all false
set_option maxRecDepth 100000
namespace L2
open PySem PySem.Spec PyProof.Rows
/-! ### t[::-1],t a tuple -/
theorem uL {prog:Program}{w:World}{A:Around}{E:Value->Shared->Prop}{s:Shared}{sl:Addr}{tk:Nat}{n:Nat}{Q:Int×Int×Nat->Shared->Prop}(hs:s.heap.IsSliceOf sl .none .none (.int (-1) tk))
   (h:Q ((n:Int) - 1,-1,n) s):wpAny (model prog w) A (ES (.ref sl) (pure (n:Int))) Q E s:=by
 obtain ⟨os,hos,hcs,hds⟩:=id hs
 unfold ES F0
 refine wpAny_bind (wpAny_bind (wpAny_field hos hds (x:=.none) rfl (wpAny_bind (wpAny_field hos hds (x:=.none) rfl (wpAny_bind (wpAny_field hos hds (x:=.int (-1) tk) rfl (wpAny_pure ?_)))))))
 refine wpAny_bind (slicePart_int ?_)
 show wpAny _ _ (if ((-1:Int) == 0)=true then _ else _) _ _ s
 rw [if_neg (by decide)]
 refine wpAny_bind (slicePart_none (wpAny_bind (slicePart_none (wpAny_bind (wpAny_pure ?_)))))
 have e1:Ew none none (-1) (n:Int)=((n:Int) - 1,-1):=by
   unfold Ew
   simp
 show wpAny _ _ (match Ew none none (-1) (n:Int) with | (lo,hi)=>pure (lo,(-1:Int),Eg lo hi (-1))) _ _ s
 rw [e1]
 show wpAny _ _ (pure ((n:Int) - 1,(-1:Int),Eg ((n:Int) - 1) (-1) (-1))) _ _ s
 have e2:Eg ((n:Int) - 1) (-1) (-1)=n:=by
   unfold Eg
   simp
   omega
 rw [e2]
 exact wpAny_pure h
theorem q9 (its:List Value):((D5 its.length).filterMap fun (k:Nat)=>its.toArray[((its.length:Int) - 1 + (k:Int) * (-1)).toNat]?).toArray=its.reverse.toArray:=by
 have e:(D5 its.length).filterMap (fun (k:Nat)=>its.toArray[((its.length:Int) - 1 + (k:Int) * (-1)).toNat]?)=((D5 its.length).map (0 + ·)).filterMap (its.reverse.toArray[·]?):=by
   rw [Fo]
   refine iX fun k hk=>?_
   have hk':=List.mem_range.mp hk
   show its.toArray[((its.length:Int) - 1 + (k:Int) * (-1)).toNat]? = its.reverse.toArray[0 + k]?
   rw [show ((its.length:Int) - 1 + (k:Int) * (-1)).toNat=its.length - 1 - k by omega,Nat.zero_add,Fc,Fc,GN hk']
 rw [e,pick_run,EU,EG (by simp)]
theorem jb {prog:Program}{w:World}{A:Around}{E:Value->Shared->Prop}{s:Shared}{t sl:Addr}{its:List Value}{tk:Nat}{Q:Value->Shared->Prop}(ht:IsTup s.heap t its.toArray)(hs:s.heap.IsSliceOf sl .none .none (.int (-1) tk))
   (h:Q (.ref s.heap.objs.size) { s with heap:=s.heap.push { cls:=.type "tuple",data:=.seq its.reverse.toArray } })
   (hsz:its.length<=sizeLine):wpAny (model prog w) A (getItem (.ref t) (.ref sl)) Q E s:=by
 have htake:sizeOk (.seq its.reverse.toArray):=by
   show its.reverse.toArray.size<=sizeLine
   rw [DO,FT]
   exact hsz
 obtain ⟨os,hos,hcs,hds⟩:=id hs
 have hTs:s.TypeIs (.ref sl) "slice":=⟨os,hos,hcs⟩
 unfold getItem
 try with_reducible refine wpAny_holding ?_
 first | refine wpAny_bind (wpAny_pure ?_) | skip
 refine wpAny_bind (wpAny_sequenceKey ht.typeIs (by decide) ?_)
 refine wpAny_bind (Ej (name:=DD "__getitem__") ht.typeIs EH
   (wpAny_call_entry EH ht.typeIs entry_tuple_getitem ?_ (args_tuple_getitem _ _)))
 show wpAny _ _ (Fb (.ref t) >>= _) _ _ s
 refine wpAny_bind (tupleItemsOf_ ht ?_)
 refine wpAny_bind (wpAny_typeOf hTs ?_)
 rw [if_pos (by decide)]
 rw [DO]
 refine wpAny_bind (uL hs ?_)
 have hno:¬ (((((its.length:Nat):Int) - 1 == 0) && (-1:Int) == 1 && its.length == its.length)=true):=by
   intro q
   rw [EJ,EJ] at q
   exact absurd q.1.2 (by decide)
 show wpAny _ _ (if ((((its.length:Nat):Int) - 1 == 0) && (-1:Int) == 1 && its.length == its.length)=true then _ else _) _ _ s
 rw [if_neg hno,q9]
 first
   | exact wpAny_bind (m:=Ei _) (wpAny_newObj_type (wpAny_pure ⟨_,rfl,wpAny_pure h⟩) htake)
   | exact wpAny_bind (m:=Ei _) (wpAny_newObj_type (wpAny_bind (wpAny_pure (wpAny_pure ⟨_,rfl,wpAny_pure h⟩))) htake)
   | exact wpAny_bind (wpAny_bind (m:=Ei _) (wpAny_newObj_type (wpAny_pure (wpAny_pure ⟨_,rfl,wpAny_pure h⟩)) htake))
   | exact wpAny_bind (wpAny_bind (m:=Ei _) (wpAny_newObj_type (wpAny_pure ⟨_,rfl,wpAny_pure h⟩) htake))
def xR (K:DA)(te tst:TE):TE:=fun σ H Q=>te σ H fun x H1=>tst σ H1 fun y H2=>y=.int (-1)/\∃a xs,x=.ref a/\aq K H2 a xs/\∀p,H2 p=none->Q (.ref p) (upd H2 p (.tup xs.reverse))
theorem wI {X:Cx}{e st:Expr}{te tst:TE}{p2 pos:Pos}(he:PE X e te)(hst:PE X st tst):PE X (.Subscript e (.Slice none none (some st) p2) pos) (xR X.K te tst):=by
 intro pins s σ H Q I h
 refine Subscript_ (aX (he pins s σ H _ I h) fun v s1 ⟨x,H1,I1,r1,q1⟩=>?_)
 refine wpAny_Slice ?_
 rw [evalPart_none]
 refine wpAny_pure (wpAny_pure ?_)
 rw [evalPart_some]
 refine aX (hst pins s1 σ H1 _ I1 q1) fun vs s3 ⟨y,H3,I3,ry,hy,a,xs,hx,hs,q⟩=>?_
 subst hy hx
 obtain ⟨t,rfl⟩:=ry
 cases r1
 have I4:Inv X pins σ H3 { s3 with heap:=s3.heap.push { cls:=.type "slice",data:=.fields #[.none,.none,.int (-1) t] } }:=I3.kept (t':=s3.toks) fun b ob q=>DK _ q
 obtain ⟨its,r,ht,hz⟩:=I4.tuple hs
 have hlen:=r.length
 show wpAny (model X.prog X.w) X.A (subscriptTail e (.Slice none none (some st) p2) (.ref a) (.ref s3.heap.objs.size)) (EP X pins σ Q) X.xe { s3 with heap:=s3.heap.push { cls:=.type "slice",data:=.fields #[.none,.none,.int (-1) t] } }
 refine tail_any (ops:=[.ref a,.ref s3.heap.objs.size]) ht.typeIs PyProof.Rows.slot_tuple_getitem.lookup ?_ (by with_unfolding_all rfl)
 refine jb ht (FA ..) ?_ (by omega)
 refine ⟨.ref (s3.heap.push { cls:=.type "slice",data:=.fields #[.none,.none,.int (-1) t] }).objs.size,_,I4.laid (t':=s3.toks) (o:=.tup xs.reverse) (fun b ob q=>DK _ q) (DJ _) ?_,rfl,q _ (I4.hok.fresh (DJ _))⟩
 exact ⟨by rw [FT]; exact hz,_,r.reverse,Gj _ _⟩
end L2
namespace L3
open PySem PySem.Spec PyProof.Rows L2
theorem zJ {X:Cx}{a b:Expr}{ta tb:TE}{KK:DA}{p2 pos:Pos}(ha:SE X a ta)(hb:SE X b tb)(hK:X.K=KK:=by first | exact cxC_K | rfl):SE X (.Subscript a (.Slice none none (some b) p2) pos) (xR KK ta tb):=by
 subst hK
 exact ⟨wI ha.h hb.h⟩
end L3
open L3 renaming v->GY,k->GZ,n->G0,int->G1,ix->G2,cons->G3,op->G4,aK->G5,one->G6,str->G7,tup->G8,set->G9,gn->Hh,ret->Hi,own->Hj,cmp->Hk,bA->Hl,bG->Hm,ifs->Hn,nil->Ho,aC->Hq,aH->Hv,aY->Hw,lst->Hy,aV->Hz,aW->HF,bW->HG,fJ->HH,bh->HI,bQ->HJ,cZ->HK,dW->HL,tw->HM,cI->HN,asg->HP,iL->HQ,aU->HS,qC->HU,hU->HW,cw->HX,run->HY,lc->HZ,neg->H0,dz->Ia,fz->Ib,iR->Ic,gW->Ie,ly->Ig,lx->Ih,gX->Ii,ex->Ij,y4->Ik,y3->Il,n6->Im,nZ->Io,ka->Ip,qN->Iq,qO->Ir,uJ->Iu,lA->Iv,uV->Iw,mj->Iy,rL->Iz,never->IE,append->II
set_option Elab.async false
set_option linter.all false
set_option maxRecDepth 100000
set_option exponentiation.threshold 4000
set_option maxHeartbeats 1000000
namespace TW
open PySem L2
section
variable {P:Program}{w:World}{K:DA}{mg:Str->Option Value}{base:Heap}
theorem yh {x qual:Str}{st:Stmt}{f:Addr}{fd:FuncData}{p0:Str}(F:cB K x qual st f fd)(h:∀(kV doc pm:Value) (an:Option Addr) (cdv ct u0:Value),bindArgs (EA x qual (bU st) (bC st) (ag st) .none kV doc pm an cdv ct) ⟨[u0],[]⟩ = pure (([p0]:List Str).zip [u0])):Binds K fd [p0] []:=F.binds fun kV doc pm an cdv ct us hl=>match us,hl with | [u0],_=>h kV doc pm an cdv ct u0
theorem cu {x qual:Str}{st:Stmt}{f:Addr}{fd:FuncData}{p0 p1:Str}(F:cB K x qual st f fd)(h:∀(kV doc pm:Value) (an:Option Addr) (cdv ct u0 u1:Value),bindArgs (EA x qual (bU st) (bC st) (ag st) .none kV doc pm an cdv ct) ⟨[u0,u1],[]⟩ = pure (([p0,p1]:List Str).zip [u0,u1])):Binds K fd [p0,p1] []:=F.binds fun kV doc pm an cdv ct us hl=>match us,hl with | [u0,u1],_=>h kV doc pm an cdv ct u0 u1
theorem pU {x qual:Str}{st:Stmt}{f:Addr}{fd:FuncData}{p0 p1 p2:Str}(F:cB K x qual st f fd)(h:∀(kV doc pm:Value) (an:Option Addr) (cdv ct u0 u1 u2:Value),bindArgs (EA x qual (bU st) (bC st) (ag st) .none kV doc pm an cdv ct) ⟨[u0,u1,u2],[]⟩ = pure (([p0,p1,p2]:List Str).zip [u0,u1,u2])):Binds K fd [p0,p1,p2] []:=F.binds fun kV doc pm an cdv ct us hl=>match us,hl with | [u0,u1,u2],_=>h kV doc pm an cdv ct u0 u1 u2
theorem vk {x qual:Str}{st:Stmt}{f:Addr}{fd:FuncData}{p0 p1 p2 p3:Str}(F:cB K x qual st f fd)(h:∀(kV doc pm:Value) (an:Option Addr) (cdv ct u0 u1 u2 u3:Value),bindArgs (EA x qual (bU st) (bC st) (ag st) .none kV doc pm an cdv ct) ⟨[u0,u1,u2,u3],[]⟩ = pure (([p0,p1,p2,p3]:List Str).zip [u0,u1,u2,u3])):Binds K fd [p0,p1,p2,p3] []:=F.binds fun kV doc pm an cdv ct us hl=>match us,hl with | [u0,u1,u2,u3],_=>h kV doc pm an cdv ct u0 u1 u2 u3
def top (i:Nat):Stmt:=PySem.Challenge.pw_twinwalk_k30_how_far_alike.main.body.getD i (.Pass ⟨0,0,0,0⟩)
abbrev sCell:Stmt:=top 23
abbrev sDigits:Stmt:=top 24
theorem TK.lst {H:Hp}{a:Addr}{xs:List V}{o:HO}(h:H a=some (.lst xs)):TK H (upd H a o):=fun b ys e=>by rw [aj (cA e h (fun z=>nomatch z))]; exact e
theorem Paired.get {α β:Type}{F:α->β->Prop}:∀{l₁:List α} {l₂:List β} {i:Nat} {x:α},Paired F l₁ l₂->l₁[i]? = some x->∃y,l₂[i]? = some y/\F x y
 | _,_,_,_,.nil,e=>by simp at e
 | _,_,0,_,.cons r _,e=>by simp at e; subst e; exact ⟨_,rfl,r⟩
 | _,_,i + 1,x,.cons _ t,e=>by
   obtain ⟨u,h1,h2⟩:=Paired.get (i:=i) (x:=x) t (by simpa using e)
   exact ⟨u,by simpa using h1,h2⟩
theorem dk {σ:L2.St}{H:Hp}{A B:Hp->Prop}(h:A H):zK σ H (fun b H3=>if b=true then A H3 else B H3):=cN (A:=A H) (B:=B H) h
theorem aw {i:Nat}{v:V}{σ:L2.St}{H:Hp}{Q:L2.St->Hp->Prop}(h:Q (σ.set i (some v)) H):gS i v σ H Q:=h
theorem cy.ref {H:Hp}{v:V}{b:Str×Int}(h:cy H v b):∃p,v=.ref p:=let ⟨p,e,_⟩:=h; ⟨p,e⟩
theorem aa {A B C:Hp}(a:ah A B)(b:ah B C):ah A C:=fun p o h=>b p o (a p o h)
theorem same_refl (A:Hp):ah A A:=fun _ _ h=>h
theorem ar {H H':Hp}{a:Addr}(s:ah H H')(h:H' a=none):H a=none:=by
 match e:H a with
 | none=>rfl
 | some o=>rw [s _ _ e] at h; cases h
/-- a list that was laid since: it may be replaced -/
theorem bc {H H':Hp}{a:Addr}{o:HO}(s:ah H H')(h:H a=none):ah H (upd H' a o):=fun b u e=>by rw [aj (ai e h)]; exact s b u e
theorem cK {H H':Hp}{a:Addr}{o:HO}(s:ah H H')(h:H' a=none):ah H (upd H' a o):=bc s (ar s h)
theorem bJ {α:Type}(f:α->V)(xs:List α){r:Int}(h0:0<=r)(h1:r < (xs.length:Int)):∃x,xs[r.toNat]? = some x/\x∈xs/\eR (xs.map f) r=some (f x):=by
 have hr:r.toNat < xs.length:=by omega
 have e:r=((r.toNat:Nat):Int):=by omega
 have q:eR (xs.map f) ((r.toNat:Nat):Int)=some (f xs[r.toNat]):=d9 (by rw [Ed,DH hr]; rfl)
 rw [← e] at q
 exact ⟨xs[r.toNat],DH hr,List.getElem_mem hr,q⟩
theorem iO {xs:List V}{r:Int}(h0:0<=r)(h1:r < (xs.length:Int)):∃x,xs[r.toNat]? = some x/\eR xs r=some x:=by
 have hr:r.toNat < xs.length:=by omega
 have e:r=((r.toNat:Nat):Int):=by omega
 have q:eR xs ((r.toNat:Nat):Int)=some xs[r.toNat]:=d9 (DH hr)
 rw [← e] at q
 exact ⟨xs[r.toNat],DH hr,q⟩
/-- a row of drawn numbers,each from nothing on and below b -/
structure Row (b:Int)(row:List Int)(n:Nat):Prop where
 len:row.length=n
 all:∀x∈row,0<=x/\x < b
theorem Row.at {b:Int}{row:List Int}{n:Nat}(h:Row b row n){i:Int}(h0:0<=i)(h1:i < n):∃x,eR (row.map V.int) i=some (.int x)/\0<=x/\x < b:=by
 obtain ⟨x,_,hx,e⟩:=bJ V.int row (r:=i) h0 (by rw [h.len]; exact h1)
 exact ⟨x,e,h.all x hx⟩
/-! ### _law_cell_at -/
def gM (K:DA):Sp:=fun vs H Q _=>∃(a:Addr) (ns:List Int) (k:Int),vs=[.ref a,.int k]/\ao K H a (ns.map V.int)/\0<=k/\∀c:Int,Q (.int c) H
theorem zF:au ["script","k"] ["script","k"] (ag sCell):=⟨rfl,rfl,rfl,by decide +kernel,rfl,by decide +kernel,by decide +kernel⟩
theorem qg:(ag sCell).names.lookup (DD "len")=some .globalImplicit:=by decide +kernel
theorem v5 {f:Addr}{fd:FuncData}(F:cB K "_law_cell_at" "_law_cell_at" sCell f fd)(m_len:mg "len"=none):aL P w K mg base CX0 1 f fd ["script","k"] (gM K):=by
 refine F.ok zF (fun vs H Q E h=>?_) (fun cdv A outer s H vs Q E hr h=>?_)
 · obtain ⟨a,ns,k,rfl,_⟩:=h
   rfl
 · obtain ⟨a,ns,k,rfl,hs,h0,q⟩:=h
   refine ⟨_,HY (G3 (Hn (Hk HL (GY 1) (Hv Hz qg m_len DQ (GZ (GY 0) G0))) (G6 (Hi (G2 Hm (GY 0) (GY 1)))) Ho)
     (G6 (Hi G1))),?_⟩
   refine ⟨_,rfl,_,rfl,a,_,rfl,.inl hs,_,_,rfl,rfl,_,rfl,?_⟩
   refine az (fun c=>?_) (fun _=>q 0)
   have hk:k < ((ns.map V.int).length:Int):=of_decide_eq_true c
   rw [DC] at hk
   obtain ⟨x,_,_,hat⟩:=bJ V.int ns h0 hk
   exact ⟨_,rfl,_,rfl,a,_,_,_,rfl,rfl,hs,hat,q x⟩
theorem sJ (s:Src K mg "_law_cell_at" sCell)(m_len:mg "len"=none):aF P w K mg base "_law_cell_at" ["script","k"] 1 (gM K):=
 let ⟨f,fd,F,m⟩:=s
 ⟨f,fd,v5 F m_len,F.kp,cu F fun _ _ _ _ _ _ _ _=>rfl,m⟩
theorem a8 {u1 u2:TS}{D:L2.Ends}{σ:L2.St}{H:Hp}(h:∀R:L2.St->Hp->Prop,(∀σ H,u2 D σ H->R σ H)->u1 { D with nx:=R } σ H):gO u1 u2 D σ H:=h _ fun _ _ z=>z
theorem eB {u1 u2 u3:TS}{D:L2.Ends}{σ:L2.St}{H:Hp}(h:∀R:L2.St->Hp->Prop,(∀σ H,u3 D σ H->R σ H)->gO u1 (gO u2 fun _=>R) D σ H):gO u1 (gO u2 u3) D σ H:=h (u3 D) fun _ _ z=>z
theorem jI {u1 u2 u3 u4:TS}{D:L2.Ends}{σ:L2.St}{H:Hp}(h:∀R:L2.St->Hp->Prop,(∀σ H,u4 D σ H->R σ H)->gO u1 (gO u2 (gO u3 fun _=>R)) D σ H):gO u1 (gO u2 (gO u3 u4)) D σ H:=h (u4 D) fun _ _ z=>z
theorem fI {X:Cx}{ss:List Stmt}{G:TS->Prop}(h:∃t,L3.SL X ss t/\G t):∃t,lg X ss t/\G t:=let ⟨t,a,b⟩:=h; ⟨t,a.h,b⟩
theorem bP {F:L2.St->Hp->Prop}{σ:L2.St}{H:Hp}(σ':L2.St)(e:σ=σ')(h:F σ' H):F σ H:=by subst e; exact h
theorem dw {k n:Int}(h:0 < n):0<=k % n:=FQ _ (by omega)
theorem du {k n:Int}(h:0 < n):k % n < n:=Ft _ h
theorem iz {P:V->Prop}{xs:List V}{r:Int}(h0:0<=r)(h1:r < (xs.length:Int))(h:∀x∈xs,P x):∃x,eR xs r=some x/\P x:=let ⟨x,h2,h3⟩:=iO h0 h1; ⟨x,h3,h x (DR h2)⟩
theorem iteF' {c:Bool}{A B:Prop}(h:c=false)(b:B):if c=true then A else B:=by rw [h]; exact b
theorem ye {a:V}{r:List V}:eR (a :: r) 0=some a:=d9 (xs:=a :: r) (j:=0) rfl
theorem AA {c:TT}{t u:TS}{D:L2.Ends}{σ:L2.St}{H:Hp}(h:∀T U:Hp->Prop,(∀H1,t D σ H1->T H1)->(∀H1,u D σ H1->U H1)->c σ H (fun b H1=>if b=true then T H1 else U H1)):zL c t u D σ H:=h _ _ (fun _ z=>z) (fun _ z=>z)
theorem cR {α:Type}{f:α->V}{l:List α}{i:Nat}{v:V}(h:(l.map f)[i]? = some v):∃x,l[i]? = some x/\v=f x:=by
 rw [Ed] at h
 obtain ⟨x,h1,h2⟩:=Option.map_eq_some_iff.mp h
 exact ⟨x,h1,h2.symm⟩
/-! ### _law_digits -/
def bZ:Sp:=fun vs H Q _=>∃(c many bs:Int),vs=[.int c,.int many,.int bs]/\0<=many/\many<=900/\0 < bs/\bs < 2 ^ 60/\∀l row,H l=none->Row bs row many.toNat->Q (.ref l) (upd H l (.lst (row.map V.int)))
theorem bX:au ["cell","many","top","found","rest","k","stir"] ["cell","many","top"] (ag sDigits):=⟨rfl,rfl,rfl,by decide +kernel,rfl,by decide +kernel,by decide +kernel⟩
theorem jK:(ag sDigits).names.lookup (DD "range")=some .globalImplicit:=by decide +kernel
theorem qQ {f:Addr}{fd:FuncData}(F:cB K "_law_digits" "_law_digits" sDigits f fd)(m_range:mg "range"=none):aL P w K mg base CX0 1 f fd ["cell","many","top"] bZ:=by
 refine F.ok bX (fun vs H Q E h=>?_) (fun cdv A outer s H vs Q E hr h=>?_)
 · obtain ⟨c,many,bs,rfl,_⟩:=h
   rfl
 · obtain ⟨c,many,bs,rfl,hm0,hm1,hb0,hb1,q⟩:=h
   refine ⟨_,HY (G3 (G9 3 bX.nd (Hy G0))
     (G3 (G9 4 bX.nd (GY 0))
     (G3 (HW (Ic jK m_range (GZ (GY 1) G0)) (Hh 5 bX.nd) (G3 (G9 6 bX.nd (G4 Hq (G4 Ie (G4 HF (G4 HF (GY 0) (G4 Ie G1 (GY 5))) G1) G1) G1))
     (G3 (G9 6 bX.nd (G4 Hq (G4 Ie (GY 6) (GY 6)) G1))
     (G3 (G9 6 bX.nd (G4 HJ (G4 Hq (G4 Ie (G4 HF (GY 6) (G4 Ie G1 (G4 HF (GY 5) G1))) G1) G1) G1))
     (G3 (Hn (Hk L3.AK (GY 0) (G4 L3.xy G1 G1)) (G6 (G9 6 bX.nd (GY 4))) Ho)
     (G3 (Ij (II (GY 3) (GZ (G4 Hq (GY 6) (GY 2)) G0)))
     (G6 (G9 4 bX.nd (G4 HJ (GY 4) (GY 2))))))))))
     (G6 (Hi (GY 3)))))),?_⟩
   refine ⟨JA,fun l hl=>?_⟩
   refine ⟨_,rfl,?_⟩
   refine ⟨_,rfl,many,rfl,by omega,by omega,?_⟩
   refine cF (lo:=0) (n:=many.toNat) (fun i σ H2=>∃(rest:Int) (kv sv:Option V) (row:List Int),σ=[some (.int c),some (.int many),some (.int bs),some (.ref l),some (.int rest),kv,sv]/\H2=upd H l (.lst (row.map V.int))/\Row bs row i) ?_ ?_ ?_
   · exact ⟨_,none,none,[],rfl,rfl,⟨rfl,fun x hx=>nomatch hx⟩⟩
   · rintro i σ H2 hi ⟨rest,kv,sv,row,rfl,rfl,hrow⟩
     refine ⟨_,rfl,_,rfl,_,_,rfl,rfl,.inl ⟨by decide,by decide⟩,_,_,rfl,rfl,_,_,rfl,rfl,_,_,rfl,rfl,.inr ⟨by decide,by decide⟩,_,_,rfl,rfl,(by show (0:Int) < 2147483647; decide),?_⟩
     have s1:∀n:Int,0<=n % 2147483647/\n % 2147483647 < 2147483647:=fun n=>⟨FQ _ (by decide),Ft _ (by decide)⟩
     refine ⟨_,rfl,_,rfl,_,_,rfl,rfl,.inr ⟨by have:=s1 ((c + 977 * (0 + (i:Int)) + 1) * 48271); omega,by have:=s1 ((c + 977 * (0 + (i:Int)) + 1) * 48271); omega⟩,_,_,rfl,rfl,(by show (0:Int) < 2147483629; decide),?_⟩
     refine ⟨_,rfl,_,rfl,_,_,rfl,rfl,_,_,rfl,rfl,.inl ⟨by decide,by decide⟩,_,_,rfl,rfl,_,_,rfl,rfl,.inr ⟨by decide,by decide⟩,_,_,rfl,rfl,(by show (0:Int) < 2147483423; decide),_,_,rfl,rfl,⟨(by show (0:Int) < 8; decide),(by show (8:Int) < 2 ^ 1000; decide +kernel)⟩,?_⟩
     have hd:row.length<=1000:=by have:=hrow.len; omega
     have fin:∀(sv:Option V) (st r1:Int),∃(r':Int) (kv sv':Option V) (row':List Int),[some (V.int c),some (.int many),some (.int bs),some (.ref l),some (.int r1),some (.int (0 + (i:Int))),sv]=[some (V.int c),some (.int many),some (.int bs),some (.ref l),some (.int r'),kv,sv']/\upd (upd H l (.lst (row.map V.int))) l (.lst (row.map V.int++[V.int (st % bs)]))=upd H l (.lst (row'.map V.int))/\Row bs row' (i + 1):=fun sv st r1=>by
       refine ⟨_,_,_,row++[st % bs],rfl,by rw [bE,DS]; rfl,⟨by rw [DE,hrow.len]; rfl,fun x hx=>?_⟩⟩
       rcases List.mem_append.mp hx with z | z
       · exact hrow.all x z
       · have e:=List.mem_singleton.mp z
         rw [e]
         exact ⟨FQ _ (by omega),Ft _ hb0⟩
     have d60:bs < 2 ^ 1000:=Int.lt_trans hb1 (by decide +kernel)
     refine ⟨_,rfl,_,_,rfl,rfl,⟨by decide,by decide,by decide⟩,_,_,rfl,rfl,_,rfl,?_⟩
     refine az (fun c1=>?_) (fun c1=>?_)
     · refine ⟨_,rfl,?_⟩
       refine ⟨_,rfl,.inl ⟨rfl,_,ao.of ae⟩,_,rfl,_,rfl,_,_,rfl,rfl,hb0,l,_,_,rfl,rfl,ae,by rw [DC]; exact aR hd,?_⟩; refine ⟨_,rfl,_,rfl,_,_,rfl,rfl,⟨hb0,d60⟩,fin _ _ _⟩
     · refine ⟨_,rfl,.inl ⟨rfl,_,ao.of ae⟩,_,rfl,_,rfl,_,_,rfl,rfl,hb0,l,_,_,rfl,rfl,ae,by rw [DC]; exact aR hd,?_⟩; refine ⟨_,rfl,_,rfl,_,_,rfl,rfl,⟨hb0,d60⟩,fin _ _ _⟩
   · rintro σ H2 ⟨rest,kv,sv,row,rfl,rfl,hrow⟩
     exact ⟨_,rfl,q l row hl hrow⟩
theorem nk (s:Src K mg "_law_digits" sDigits)(m_range:mg "range"=none):aF P w K mg base "_law_digits" ["cell","many","top"] 1 bZ:=
 let ⟨f,fd,F,m⟩:=s
 ⟨f,fd,qQ F m_range,F.kp,pU F fun _ _ _ _ _ _ _ _ _=>rfl,m⟩
end
end TW
set_option Elab.async false
set_option linter.all false
set_option maxRecDepth 100000
set_option exponentiation.threshold 4000
set_option maxHeartbeats 1000000
namespace TW
open PySem L2
section
variable {P:Program}{w:World}{K:DA}{mg:Str->Option Value}{base:Heap}
abbrev sSum:Stmt:=top 25
abbrev sCond:Stmt:=top 26
/-! ### boxes in a list of their own -/
def Bx (H:Hp)(B:Addr)(bs:List (Str×Int)):Prop:=∃vb,H B=some (.lst vb)/\Paired (cy H) vb bs
theorem Bx.same {H H':Hp}{B:Addr}{bs:List (Str×Int)}(h:Bx H B bs)(s:ah H H'):Bx H' B bs:=let ⟨vb,a,b⟩:=h; ⟨vb,s _ _ a,Paired.mapP b fun _ _ z=>Tp.keep (ah.tk s) z⟩
theorem pz {H:Hp}{vb:List V}{bs:List (Str×Int)}(pb:Paired (cy H) vb bs){r n:Int}(hn:n=(vb.length:Int))(h0:0 < n):∃p b,b∈bs/\eR vb (r % n)=some (.ref p)/\H p=some (.tup [.str b.1,.int b.2]):=by
 obtain ⟨x,h1,h2⟩:=iO (xs:=vb) (r:=r % n) (dw h0) (by rw [← hn]; exact du h0)
 obtain ⟨b,h3,p,rfl,h4⟩:=Paired.get pb h1
 exact ⟨p,b,DR h3,h2,h4⟩
abbrev bxN (bs:List (Str×Int)):Str->Str->Prop:=fun t y=>t="box"/\y∈bs.map (·.1)
/-! ### _law_sum -/
def jv:Sp:=fun vs H Q _=>∃(n:Int) (B:Addr) (bs:List (Str×Int)),vs=[.int n,.ref B]/\0<=n/\Bx H B bs /\
 ∀(v:V) (H':Hp) (e:E),ah H H'->gj H' v e->e.isS->e.okIn (bxN bs)->e.dep<=1->Q v H'
theorem pJ:au ["number","boxes","rest","one","two"] ["number","boxes"] (ag sSum):=⟨rfl,rfl,rfl,by decide +kernel,rfl,by decide +kernel,by decide +kernel⟩
theorem lZ:(ag sSum).names.lookup (DD "len")=some .globalImplicit:=by decide +kernel
theorem jq {r m:Int}(h:0 < m)(hm:m<=2 ^ 90):(r % m).natAbs < 2 ^ 100:=by
 have:=dw (k:=r) h
 have:=du (k:=r) h
 omega
theorem yP {f:Addr}{fd:FuncData}(F:cB K "_law_sum" "_law_sum" sSum f fd)(m_len:mg "len"=none):aL P w K mg base CX0 1 f fd ["number","boxes"] jv:=by
 refine F.ok pJ (fun vs H Q E h=>?_) (fun cdv A outer s H vs Q E hr h=>?_)
 · obtain ⟨n,B,bs,rfl,_⟩:=h
   rfl
 · obtain ⟨n,B,bs,rfl,n0,⟨vb,hB,pb⟩,q⟩:=h
   refine fI ⟨_,(G3 (G9 2 pJ.nd (G4 HJ (GY 0) G1))
     (G3 (Hn (HM (Ik (Hk (L3.tT (m:=0) (bB hr _ (by decide))) (GY 1) (Hy G0)) (Il (Hk Hw (G4 Hq (GY 0) G1) G1)))) (G6 (Hi (G8 (GZ G7 (GZ (G4 Hq (GY 2) G1) G0))))) Ho)
     (G3 (G9 3 pJ.nd (G8 (GZ G7 (GZ (G2 G5 (G2 Hm (GY 1) (G4 Hq (GY 2) (Hv Hz lZ m_len DQ (GZ (GY 1) G0)))) G1) G0))))
     (G3 (Hn (Hk HL (G4 Hq (GY 0) G1) G1) (G6 (Hi (GY 3))) Ho)
     (G3 (G9 4 pJ.nd (G2 Hm (Hy (GZ (G8 (GZ G7 (GZ (G4 Hq (G4 HJ (GY 2) G1) G1) G0))) (GZ (G8 (GZ G7 (GZ (G2 G5 (G2 Hm (GY 1) (G4 Hq (G4 HJ (GY 2) G1) (Hv Hz lZ m_len DQ (GZ (GY 1) G0)))) G1) G0))) G0))) (G4 Hq (G4 HJ (GY 2) G1) G1)))
     (G6 (Hi (G8 (GZ (G2 Hm (Hy (GZ G7 (GZ G7 G0))) (G4 HJ (G4 Hq (GY 0) G1) G1)) (GZ (GY 3) (GZ (GY 4) G0))))))))))),?_⟩
   refine ⟨_,rfl,_,_,rfl,rfl,⟨(by show (0:Int) < 8; decide),(by show (8:Int) < 2 ^ 1000; decide +kernel)⟩,?_⟩
   refine ⟨_,rfl,JA,fun lz hlz=>?_⟩
   have s1:ah H (upd H lz (.lst [])):=af hlz _
   have g1:(upd H lz (.lst [])) lz=some (.lst []):=ae
   generalize upd H lz (.lst [])=H1 at s1 g1 ⊢
   have hB1:=s1 _ _ hB
   have pb1:Paired (cy H1) vb bs:=Paired.mapP pb fun a b h=>Tp.keep (ah.tk s1) h
   refine ⟨_,RB.nil (ao.of hB1) (ao.of g1),_,rfl,?_⟩
   refine az (fun c1=>cN ?_) (fun c1=>?_)
   · refine ⟨_,rfl,_,_,rfl,rfl,(by show (0:Int) < 5; decide),JC,fun p hp=>?_⟩
     exact q (.ref p) _ (.num (n / 8 % 5)) (cK s1 hp) ⟨p,rfl,ae⟩ DV (jq (by decide) (by decide)) (by show 0<=1; omega)
   refine ⟨_,rfl,_,_,rfl,rfl,(by show (0:Int) < 8; decide),rfl,_,rfl,?_⟩
   have vne:0 < vb.length:=List.length_pos_iff.mpr fun z=>c1 (by rw [z]; rfl)
   obtain ⟨m,em,m0⟩ : ∃m:Int,m=(vb.length:Int)/\0 < m:=⟨_,rfl,by omega⟩
   refine az (fun c2=>?_) (fun c2=>?_)
   · refine ⟨_,rfl,_,_,rfl,rfl,(by show (0:Int) < 5; decide),JC,fun p hp=>?_⟩
     exact q (.ref p) _ (.num (n / 8 % 5)) (cK s1 hp) ⟨p,rfl,ae⟩ DV (jq (by decide) (by decide)) (by show 0<=1; omega)
   obtain ⟨p1,b1,hb1,at1,hp1⟩:=pz pb1 (r:=n / 8) em m0
   refine ⟨_,rfl,_,rfl,_,rfl,B,_,rfl,.inl (ao.of hB1),_,_,rfl,rfl,(by rw [← em]; exact m0),B,_,_,_,rfl,rfl,ao.of hB1,(by rw [← em]; exact at1),p1,_,_,_,rfl,rfl,aq.of hp1,rfl,JC,fun o1 ho1=>?_⟩
   have s2:ah H1 (upd H1 o1 (.tup [.str "box",.str b1.1])):=af ho1 _
   have g2:(upd H1 o1 (.tup [.str "box",.str b1.1])) o1=some (.tup [.str "box",.str b1.1]):=ae
   generalize upd H1 o1 (.tup [.str "box",.str b1.1])=H2 at s2 g2 ⊢
   have s02:=aa s1 s2
   have ea1:gj H2 (.ref o1) (.box "box" b1.1):=⟨o1,rfl,g2⟩
   have bk1:(TW.E.box "box" b1.1).okIn (bxN bs):=⟨rfl,List.mem_map.mpr ⟨b1,hb1,rfl⟩⟩
   refine ⟨_,rfl,_,_,rfl,rfl,(by show (0:Int) < 8; decide),_,_,rfl,rfl,_,rfl,?_⟩
   refine az (fun c3=>?_) (fun c3=>?_)
   · exact ⟨_,rfl,q (.ref o1) _ _ s02 ea1 DV bk1 (by show 0<=1; omega)⟩
   have hB2:=s2 _ _ hB1
   have pb2:Paired (cy H2) vb bs:=Paired.mapP pb1 fun a b h=>Tp.keep (ah.tk s2) h
   obtain ⟨p2,b2,hb2,at2,hp2⟩:=pz pb2 (r:=n / 8 / 16) em m0
   refine ⟨_,rfl,_,_,rfl,rfl,⟨(by show (0:Int) < 4; decide),(by show (4:Int) < 2 ^ 1000; decide +kernel)⟩,_,_,rfl,rfl,(by show (0:Int) < 4; decide),JC,fun o2 ho2=>?_⟩
   have s3:ah H2 (upd H2 o2 (.tup [.str "number",.int (n / 8 / 4 % 4)])):=af ho2 _
   have g3:(upd H2 o2 (.tup [.str "number",.int (n / 8 / 4 % 4)])) o2=some (.tup [.str "number",.int (n / 8 / 4 % 4)]):=ae
   generalize upd H2 o2 (.tup [.str "number",.int (n / 8 / 4 % 4)])=H3 at s3 g3 ⊢
   have hB3:=s3 _ _ hB2
   have hp3:=s3 _ _ hp2
   refine ⟨_,rfl,_,rfl,_,_,rfl,rfl,⟨(by show (0:Int) < 16; decide),(by show (16:Int) < 2 ^ 1000; decide +kernel)⟩,_,rfl,B,_,rfl,.inl (ao.of hB3),_,_,rfl,rfl,(by rw [← em]; exact m0),B,_,_,_,rfl,rfl,ao.of hB3,(by rw [← em]; exact at2),p2,_,_,_,rfl,rfl,aq.of hp3,rfl,JC,fun o3 ho3=>?_⟩
   have s4:ah H3 (upd H3 o3 (.tup [.str "box",.str b2.1])):=af ho3 _
   have g4:(upd H3 o3 (.tup [.str "box",.str b2.1])) o3=some (.tup [.str "box",.str b2.1]):=ae
   generalize upd H3 o3 (.tup [.str "box",.str b2.1])=H4 at s4 g4 ⊢
   have s24:=aa s3 s4
   obtain ⟨ve,e2,at4,ea2,is2,ok2,dp2⟩ : ∃(ve:V) (e2:TW.E),eR ([.ref o2,.ref o3]:List V) (n / 8 / 64 % 2)=some ve/\gj H4 ve e2/\e2.isS/\e2.okIn (bxN bs)/\e2.dep=0:=by
     rcases (show n / 8 / 64 % 2=0\/n / 8 / 64 % 2=1 by omega) with e | e <;> rw [e]
     · exact ⟨_,.num _,rfl,⟨o2,rfl,s4 _ _ g3⟩,DV,jq (by decide) (by decide),rfl⟩
     · exact ⟨_,.box "box" b2.1,rfl,⟨o3,rfl,g4⟩,DV,⟨rfl,List.mem_map.mpr ⟨b2,hb2,rfl⟩⟩,rfl⟩
   refine ⟨JC,fun l1 hl1=>?_⟩
   have s5:ah H4 (upd H4 l1 (.lst [.ref o2,.ref o3])):=af hl1 _
   have g5:(upd H4 l1 (.lst [.ref o2,.ref o3])) l1=some (.lst [.ref o2,.ref o3]):=ae
   generalize upd H4 l1 (.lst [.ref o2,.ref o3])=H5 at s5 g5 ⊢
   refine ⟨_,rfl,_,_,rfl,rfl,⟨(by show (0:Int) < 64; decide),(by show (64:Int) < 2 ^ 1000; decide +kernel)⟩,_,_,rfl,rfl,(by show (0:Int) < 2; decide),l1,_,_,_,rfl,rfl,ao.of g5,at4,?_⟩
   refine ⟨JC,fun l2 hl2=>?_⟩
   have s6:ah H5 (upd H5 l2 (.lst [.str "plus",.str "less"])):=af hl2 _
   have g6:(upd H5 l2 (.lst [.str "plus",.str "less"])) l2=some (.lst [.str "plus",.str "less"]):=ae
   generalize upd H5 l2 (.lst [.str "plus",.str "less"])=H6 at s6 g6 ⊢
   have s26:=aa s24 (aa s5 s6)
   obtain ⟨kk,at6,hkk⟩ : ∃kk:K2,eR ([.str "plus",.str "less"]:List V) (n % 8 / 7)=some (.str kk.str)/\(kk=.plus\/kk=.less):=by
     rcases (show n % 8 / 7=0\/n % 8 / 7=1 by omega) with e | e <;> rw [e]
     · exact ⟨.plus,rfl,.inl rfl⟩
     · exact ⟨.less,rfl,.inr rfl⟩
   refine ⟨_,rfl,_,_,rfl,rfl,(by show (0:Int) < 8; decide),_,_,rfl,rfl,⟨(by show (0:Int) < 7; decide),(by show (7:Int) < 2 ^ 1000; decide +kernel)⟩,l2,_,_,_,rfl,rfl,ao.of g6,at6,_,rfl,_,rfl,JD,fun o7 ho7=>?_⟩
   have s7:=af ho7 (.tup [.str kk.str,.ref o1,ve])
   refine q (.ref o7) _ (.two kk (.box "box" b1.1) e2) (aa (aa s02 s26) s7) ⟨.ref o1,ve,⟨o7,rfl,ae⟩,(ea1.keep (ah.tk s26)).keep (ah.tk s7),((ea2.keep (ah.tk s5)).keep (ah.tk s6)).keep (ah.tk s7)⟩ ?_ ⟨bk1,ok2⟩ (by show max 0 e2.dep + 1<=1; omega)
   rcases hkk with rfl | rfl <;> exact ⟨DV,is2⟩
theorem vK (s:Src K mg "_law_sum" sSum)(m_len:mg "len"=none):aF P w K mg base "_law_sum" ["number","boxes"] 1 jv:=
 let ⟨f,fd,F,m⟩:=s
 ⟨f,fd,yP F m_len,F.kp,cu F fun _ _ _ _ _ _ _ _=>rfl,m⟩
end
end TW
set_option Elab.async false
set_option linter.all false
set_option maxRecDepth 100000
set_option exponentiation.threshold 4000
set_option maxHeartbeats 1000000
namespace TW
open PySem L2
section
variable {P:Program}{w:World}{K:DA}{mg:Str->Option Value}{base:Heap}
/-! ### _law_condition -/
def kQ:Sp:=fun vs H Q _=>∃(n:Int) (B:Addr) (bs:List (Str×Int)),vs=[.int n,.ref B]/\0<=n/\Bx H B bs /\
 ∀(v:V) (H':Hp) (e:E),ah H H'->gj H' v e->e.isC->e.okIn (bxN bs)->e.dep<=4->Q v H'
theorem gj.same {H H':Hp}{v:V}{e:E}(h:gj H v e)(s:ah H H'):gj H' v e:=h.keep (ah.tk s)
theorem kK:au ["number","boxes","rest","pair","some"] ["number","boxes"] (ag sCond):=⟨rfl,rfl,rfl,by decide +kernel,rfl,by decide +kernel,by decide +kernel⟩
theorem eJ:(ag sCond).names.lookup (DD "_law_sum")=some .globalImplicit:=by decide +kernel
theorem v7 {f:Addr}{fd:FuncData}(F:cB K "_law_condition" "_law_condition" sCond f fd)(SM0:aF P w K mg base "_law_sum" ["number","boxes"] 1 jv):aL P w K mg base CX0 2 f fd ["number","boxes"] kQ:=by
 refine F.ok kK (fun vs H Q E h=>?_) (fun cdv A outer s H vs Q E hr h=>?_)
 · obtain ⟨n,B,bs,rfl,_⟩:=h
   rfl
 · obtain ⟨n,B,bs,rfl,n0,hB,q⟩:=h
   have SM:=SM0.mono (show 1<=1 by omega)
   refine fI ⟨_,(G3 (G9 2 kK.nd (G4 HJ (GY 0) G1))
     (G3 (G9 3 kK.nd (G8 (GZ (Hj SM hr eJ (GZ (GY 2) (GZ (GY 1) G0))) (GZ (Hj SM hr eJ (GZ (G4 HJ (GY 2) G1) (GZ (GY 1) G0))) G0))))
     (G3 (G9 4 kK.nd (Hy (GZ (G8 (GZ G7 G0)) (GZ (G4 Ia (G8 (GZ G7 G0)) (GY 3)) (GZ (G4 Ia (G8 (GZ G7 G0)) (GY 3)) (GZ (G8 (GZ G7 (GZ (G4 Ia (G8 (GZ G7 G0)) (GY 3)) G0))) G0))))))
     (G3 (Hn (Hk HL (G4 Hq (GY 0) G1) G1) (G6 (Hi (G2 Hm (GY 4) (G4 Hq (GY 0) G1)))) Ho)
     (G3 (Hn (Hk Hw (G4 Hq (GY 0) G1) G1) (G6 (Hi (G8 (GZ G7 (GZ (G8 (GZ G7 (GZ (G4 Ia (G8 (GZ G7 G0)) (GY 3)) G0))) (GZ (G8 (GZ G7 (GZ (G8 (GZ G7 (GZ G1 G0))) (GZ (G2 G5 (GY 3) G1) G0)))) G0)))))) Ho)
     (G6 (Hi (G2 Hm (GY 4) (G4 HF G1 (G4 Hq (GY 0) G1)))))))))),?_⟩
   refine ⟨_,rfl,_,_,rfl,rfl,⟨(by show (0:Int) < 8; decide),(by show (8:Int) < 2 ^ 1000; decide +kernel)⟩,?_⟩
   refine ⟨_,rfl,_,rfl,n / 8,B,bs,rfl,by omega,hB,fun v1 H1 e1 s1 ea1 is1 ok1 dp1=>⟨_,rfl,_,_,rfl,rfl,⟨(by show (0:Int) < 90; decide),(by show (90:Int) < 2 ^ 1000; decide +kernel)⟩,_,rfl,n / 8 / 90,B,bs,rfl,by omega,hB.same s1,fun v2 H2 e2 s2 ea2 is2 ok2 dp2=>⟨JC,fun pr hpr=>?_⟩⟩⟩
   have ea1:=ea1.same s2
   have s02:=aa s1 s2
   have s3:ah H2 (upd H2 pr (.tup [v1,v2])):=af hpr _
   have g3:(upd H2 pr (.tup [v1,v2])) pr=some (.tup [v1,v2]):=ae
   generalize upd H2 pr (.tup [v1,v2])=H3 at s3 g3 ⊢
   have ea1:=ea1.same s3
   have ea2:=ea2.same s3
   have s03:=aa s02 s3
   refine ⟨JB,fun oy hoy=>?_⟩
   have s4:ah H3 (upd H3 oy (.tup [.str "yes"])):=af hoy _
   have g4:(upd H3 oy (.tup [.str "yes"])) oy=some (.tup [.str "yes"]):=ae
   generalize upd H3 oy (.tup [.str "yes"])=H4 at s4 g4 ⊢
   have pr4:=s4 _ _ g3
   refine ⟨JB,fun a5 ha5=>?_⟩
   have sa5:ah H4 (upd H4 a5 (.tup [.str "same"])):=af ha5 _
   have ga5:(upd H4 a5 (.tup [.str "same"])) a5=some (.tup [.str "same"]):=ae
   generalize upd H4 a5 (.tup [.str "same"])=Ha5 at sa5 ga5 ⊢
   refine ⟨_,rfl,a5,pr,_,_,rfl,rfl,aq.of ga5,aq.of (sa5 _ _ pr4),(fun z=>nomatch z),(by show 1 + 2<=sizeLine; decide),(fun z=>nomatch z),fun _ o5 ho5=>?_⟩
   have sb5:ah Ha5 (upd Ha5 o5 (.tup ([.str "same"]++[v1,v2]))):=af ho5 _
   have gb5:(upd Ha5 o5 (.tup ([.str "same"]++[v1,v2]))) o5=some (.tup ([.str "same"]++[v1,v2])):=ae
   generalize upd Ha5 o5 (.tup ([.str "same"]++[v1,v2]))=Hb5 at sb5 gb5 ⊢
   have sc5:=aa sa5 sb5
   have pr5:=sc5 _ _ pr4

   refine ⟨JB,fun a6 ha6=>?_⟩
   have sa6:ah Hb5 (upd Hb5 a6 (.tup [.str "under"])):=af ha6 _
   have ga6:(upd Hb5 a6 (.tup [.str "under"])) a6=some (.tup [.str "under"]):=ae
   generalize upd Hb5 a6 (.tup [.str "under"])=Ha6 at sa6 ga6 ⊢
   refine ⟨_,rfl,a6,pr,_,_,rfl,rfl,aq.of ga6,aq.of (sa6 _ _ pr5),(fun z=>nomatch z),(by show 1 + 2<=sizeLine; decide),(fun z=>nomatch z),fun _ o6 ho6=>?_⟩
   have sb6:ah Ha6 (upd Ha6 o6 (.tup ([.str "under"]++[v1,v2]))):=af ho6 _
   have gb6:(upd Ha6 o6 (.tup ([.str "under"]++[v1,v2]))) o6=some (.tup ([.str "under"]++[v1,v2])):=ae
   generalize upd Ha6 o6 (.tup ([.str "under"]++[v1,v2]))=Hb6 at sb6 gb6 ⊢
   have sc6:=aa sa6 sb6
   have pr6:=sc6 _ _ pr5

   refine ⟨JB,fun a7 ha7=>?_⟩
   have sa7:ah Hb6 (upd Hb6 a7 (.tup [.str "same"])):=af ha7 _
   have ga7:(upd Hb6 a7 (.tup [.str "same"])) a7=some (.tup [.str "same"]):=ae
   generalize upd Hb6 a7 (.tup [.str "same"])=Ha7 at sa7 ga7 ⊢
   refine ⟨_,rfl,a7,pr,_,_,rfl,rfl,aq.of ga7,aq.of (sa7 _ _ pr6),(fun z=>nomatch z),(by show 1 + 2<=sizeLine; decide),(fun z=>nomatch z),fun _ o7 ho7=>?_⟩
   have sb7:ah Ha7 (upd Ha7 o7 (.tup ([.str "same"]++[v1,v2]))):=af ho7 _
   have gb7:(upd Ha7 o7 (.tup ([.str "same"]++[v1,v2]))) o7=some (.tup ([.str "same"]++[v1,v2])):=ae
   generalize upd Ha7 o7 (.tup ([.str "same"]++[v1,v2]))=Hb7 at sb7 gb7 ⊢
   have sc7:=aa sa7 sb7
   have pr7:=sc7 _ _ pr6
   refine ⟨JC,fun nn hnn=>?_⟩
   have s8:ah Hb7 (upd Hb7 nn (.tup [.str "not",.ref o7])):=af hnn _
   have g8:(upd Hb7 nn (.tup [.str "not",.ref o7])) nn=some (.tup [.str "not",.ref o7]):=ae
   generalize upd Hb7 nn (.tup [.str "not",.ref o7])=H8 at s8 g8 ⊢
   refine ⟨JE,fun lo hlo=>?_⟩
   have s9:ah H8 (upd H8 lo (.lst [.ref oy,.ref o5,.ref o6,.ref nn])):=af hlo _
   have g9:(upd H8 lo (.lst [.ref oy,.ref o5,.ref o6,.ref nn])) lo=some (.lst [.ref oy,.ref o5,.ref o6,.ref nn]):=ae
   generalize upd H8 lo (.lst [.ref oy,.ref o5,.ref o6,.ref nn])=H9 at s9 g9 ⊢
   have t9:ah H3 H9:=aa s4 (aa sc5 (aa sc6 (aa sc7 (aa s8 s9))))
   have s09:=aa s03 t9
   have ea1:=ea1.same t9
   have ea2:=ea2.same t9
   have pr9:=t9 _ _ g3
   have k1:gj H9 (.ref oy) .yes:=⟨oy,rfl,s9 _ _ (s8 _ _ (sc7 _ _ (sc6 _ _ (sc5 _ _ g4))))⟩
   have k2:gj H9 (.ref o5) (.two .same e1 e2):=⟨v1,v2,⟨o5,rfl,s9 _ _ (s8 _ _ (sc7 _ _ (sc6 _ _ gb5)))⟩,ea1,ea2⟩
   have k3:gj H9 (.ref o6) (.two .under e1 e2):=⟨v1,v2,⟨o6,rfl,s9 _ _ (s8 _ _ (sc7 _ _ gb6))⟩,ea1,ea2⟩
   have k4:gj H9 (.ref nn) (.nt (.two .same e1 e2)):=⟨.ref o7,⟨nn,rfl,s9 _ _ g8⟩,v1,v2,⟨o7,rfl,s9 _ _ (s8 _ _ gb7)⟩,ea1,ea2⟩
   have all:∀x∈([.ref oy,.ref o5,.ref o6,.ref nn]:List V),∃e:TW.E,gj H9 x e/\e.isC/\e.okIn (bxN bs)/\e.dep<=4:=fun x hx=>by
     have dd:max e1.dep e2.dep<=1:=by omega
     rcases List.mem_cons.mp hx with rfl | hx
     · exact ⟨_,k1,DV,DV,by show 0<=4; omega⟩
     rcases List.mem_cons.mp hx with rfl | hx
     · exact ⟨_,k2,⟨is1,is2⟩,⟨ok1,ok2⟩,by show max e1.dep e2.dep + 1<=4; omega⟩
     rcases List.mem_cons.mp hx with rfl | hx
     · exact ⟨_,k3,⟨is1,is2⟩,⟨ok1,ok2⟩,by show max e1.dep e2.dep + 1<=4; omega⟩
     rw [List.mem_singleton.mp hx]
     exact ⟨_,k4,⟨is1,is2⟩,⟨ok1,ok2⟩,by show max e1.dep e2.dep + 1 + 1<=4; omega⟩
   refine ⟨_,rfl,_,_,rfl,rfl,(by show (0:Int) < 8; decide),_,_,rfl,rfl,_,rfl,?_⟩
   refine az (fun c1=>?_) (fun c1=>?_)
   · have c1':n % 8 < 4:=of_decide_eq_true c1
     obtain ⟨x,hat,e,ee,ic,oc,dc⟩:=iz (r:=n % 8) (by omega) (by show n % 8 < 4; omega) all
     exact ⟨_,rfl,_,rfl,_,_,rfl,rfl,(by show (0:Int) < 8; decide),lo,_,_,_,rfl,rfl,ao.of g9,hat,q x _ e s09 ee ic oc dc⟩
   refine ⟨_,rfl,_,_,rfl,rfl,(by show (0:Int) < 8; decide),rfl,_,rfl,?_⟩
   refine az (fun c2=>?_) (fun c2=>?_)
   · refine ⟨JB,fun a10 ha10=>?_⟩
     have sa10:ah H9 (upd H9 a10 (.tup [.str "under"])):=af ha10 _
     have ga10:(upd H9 a10 (.tup [.str "under"])) a10=some (.tup [.str "under"]):=ae
     generalize upd H9 a10 (.tup [.str "under"])=Ha10 at sa10 ga10 ⊢
     refine ⟨_,rfl,a10,pr,_,_,rfl,rfl,aq.of ga10,aq.of (sa10 _ _ pr9),(fun z=>nomatch z),(by show 1 + 2<=sizeLine; decide),(fun z=>nomatch z),fun _ o10 ho10=>?_⟩
     have sb10:ah Ha10 (upd Ha10 o10 (.tup ([.str "under"]++[v1,v2]))):=af ho10 _
     have gb10:(upd Ha10 o10 (.tup ([.str "under"]++[v1,v2]))) o10=some (.tup ([.str "under"]++[v1,v2])):=ae
     generalize upd Ha10 o10 (.tup ([.str "under"]++[v1,v2]))=Hb10 at sb10 gb10 ⊢
     refine ⟨JC,fun o11 ho11=>?_⟩
     have s11:ah Hb10 (upd Hb10 o11 (.tup [.str "not",.ref o10])):=af ho11 _
     have g11:(upd Hb10 o11 (.tup [.str "not",.ref o10])) o11=some (.tup [.str "not",.ref o10]):=ae
     generalize upd Hb10 o11 (.tup [.str "not",.ref o10])=H11 at s11 g11 ⊢
     refine ⟨JC,fun o12 ho12=>?_⟩
     have s12:ah H11 (upd H11 o12 (.tup [.str "number",.int 0])):=af ho12 _
     have g12:(upd H11 o12 (.tup [.str "number",.int 0])) o12=some (.tup [.str "number",.int 0]):=ae
     generalize upd H11 o12 (.tup [.str "number",.int 0])=H12 at s12 g12 ⊢
     have u12:ah H9 H12:=aa sa10 (aa sb10 (aa s11 s12))
     refine ⟨_,rfl,pr,_,_,_,rfl,rfl,aq.of (u12 _ _ pr9),rfl,JD,fun o13 ho13=>?_⟩
     have s13:ah H12 (upd H12 o13 (.tup [.str "under",.ref o12,v1])):=af ho13 _
     have g13:(upd H12 o13 (.tup [.str "under",.ref o12,v1])) o13=some (.tup [.str "under",.ref o12,v1]):=ae
     generalize upd H12 o13 (.tup [.str "under",.ref o12,v1])=H13 at s13 g13 ⊢
     refine ⟨JD,fun o14 ho14=>?_⟩
     have s14:=af ho14 (.tup [.str "both",.ref o11,.ref o13])
     have f13:=aa s13 s14
     have f12:=aa s12 f13
     have f11:=aa s11 f12
     have u14:ah H9 _:=aa u12 f13
     refine q (.ref o14) _ (.two .both (.nt (.two .under e1 e2)) (.two .under (.num 0) e1)) (aa s09 u14) ⟨.ref o11,.ref o13,⟨o14,rfl,ae⟩,⟨.ref o10,⟨o11,rfl,f12 _ _ g11⟩,v1,v2,⟨o10,rfl,f11 _ _ gb10⟩,ea1.same u14,ea2.same u14⟩,.ref o12,v1,⟨o13,rfl,s14 _ _ g13⟩,⟨o12,rfl,f13 _ _ g12⟩,ea1.same u14⟩ ⟨⟨is1,is2⟩,DV,is1⟩ ⟨⟨ok1,ok2⟩,(by show (0:Int).natAbs < 2 ^ 100; decide),ok1⟩ ?_
     show max (max e1.dep e2.dep + 1 + 1) (max 0 e1.dep + 1) + 1<=4
     omega
   obtain ⟨x,hat,e,ee,ic,oc,dc⟩:=iz (r:=1 + n % 2) (by omega) (by show 1 + n % 2 < 4; omega) all
   exact ⟨_,rfl,_,rfl,_,_,rfl,rfl,(by show (0:Int) < 2; decide),_,_,rfl,rfl,lo,_,_,_,rfl,rfl,ao.of g9,hat,q x _ e s09 ee ic oc dc⟩
theorem sM (s:Src K mg "_law_condition" sCond)(SM0:aF P w K mg base "_law_sum" ["number","boxes"] 1 jv):aF P w K mg base "_law_condition" ["number","boxes"] 2 kQ:=
 let ⟨f,fd,F,m⟩:=s
 ⟨f,fd,v7 F SM0,F.kp,cu F fun _ _ _ _ _ _ _ _=>rfl,m⟩
end
end TW
set_option Elab.async false
set_option linter.all false
set_option maxRecDepth 100000
set_option exponentiation.threshold 4000
set_option maxHeartbeats 1000000
namespace TW
open PySem L2
section
variable {P:Program}{w:World}{K:DA}{mg:Str->Option Value}{base:Heap}
/-! ### _law_node -/
abbrev sNode:Stmt:=top 27
def kW:Sp:=fun vs H Q _=>∃(c:Int) (B:Addr) (many own:Int) (bs:List (Str×Int)),vs=[.int c,.ref B,.int many,.int own]/\Bx H B bs/\0 < many/\many<=900/\0<=own /\
 ∀(v:V) (H':Hp) (e:Nd),ah H H'->aZ H' v e->e.good (· ∈ bs.map (·.1)) many 4->Q v H'
theorem kM:au ["cell","boxes","many","own","xs","near","to"] ["cell","boxes","many","own"] (ag sNode):=⟨rfl,rfl,rfl,by decide +kernel,rfl,by decide +kernel,by decide +kernel⟩
theorem eC:(ag sNode).names.lookup (DD "_law_condition")=some .globalImplicit:=by decide +kernel
theorem gy:(ag sNode).names.lookup (DD "_law_digits")=some .globalImplicit:=by decide +kernel
theorem eM:(ag sNode).names.lookup (DD "_law_sum")=some .globalImplicit:=by decide +kernel
theorem qj:(ag sNode).names.lookup (DD "len")=some .globalImplicit:=by decide +kernel
theorem wm {f:Addr}{fd:FuncData}(F:cB K "_law_node" "_law_node" sNode f fd)(m_len:mg "len"=none)(DG0:aF P w K mg base "_law_digits" ["cell","many","top"] 1 bZ)(SM0:aF P w K mg base "_law_sum" ["number","boxes"] 1 jv)(CO0:aF P w K mg base "_law_condition" ["number","boxes"] 2 kQ):aL P w K mg base CX0 3 f fd ["cell","boxes","many","own"] kW:=by
 refine F.ok kM (fun vs H Q E h=>?_) (fun cdv A outer s H vs Q E hr h=>?_)
 · obtain ⟨c,B,many,own,bs,rfl,_⟩:=h
   rfl
 · obtain ⟨c,B,many,own,bs,rfl,hB,hm0,hm9,ho0,q⟩:=h
   have DG:=DG0.mono (show 1<=2 by omega)
   have SM:=SM0.mono (show 1<=2 by omega)
   refine fI ⟨_,(G3 (G9 4 kM.nd (Hj DG hr gy (GZ (GY 0) (GZ G1 (GZ G1 G0)))))
     (G3 (G9 5 kM.nd (G4 Hq (G4 HF (GY 3) G1) (GY 2)))
     (G3 (G9 6 kM.nd (G2 Hm (Hy (GZ (GY 5) (GZ (GY 5) (GZ (G4 Hq (G2 Hm (GY 4) G1) (GY 2)) G0)))) (G4 Hq (G2 Hm (GY 4) G1) G1)))
     (G3 (Hn (HM (Ig (Hk HL (G4 Hq (G2 Hm (GY 4) G1) G1) G1) (Ih (Hk (Ip (m:=0) (bB hr _ (by decide))) (GY 1) (Hy G0))))) (G6 (Hi (G8 (GZ G7 (GZ (G2 G5 (G2 Hm (GY 1) (G4 Hq (G2 Hm (GY 4) G1) (Hv Hz qj m_len DQ (GZ (GY 1) G0)))) G1) (GZ (Hj SM hr eM (GZ (G2 Hm (GY 4) G1) (GZ (GY 1) G0))) (GZ (GY 6) G0))))))) Ho)
     (G3 (Hn (Hk HL (G4 Hq (G2 Hm (GY 4) G1) G1) G1) (G6 (Hi (G8 (GZ G7 (GZ (Hj SM hr eM (GZ (G2 Hm (GY 4) G1) (GZ (GY 1) G0))) (GZ (GY 6) G0)))))) Ho)
     (G3 (Hn (Hk HL (G4 Hq (G2 Hm (GY 4) G1) G1) G1) (G6 (Hi (G8 (GZ G7 (GZ (Hj CO0 hr eC (GZ (G2 Hm (GY 4) G1) (GZ (GY 1) G0))) (GZ (GY 6) (GZ (G4 Hq (G2 Hm (GY 4) G1) (GY 2)) G0))))))) Ho)
     (G6 (Hi (G8 (GZ G7 G0)))))))))),?_⟩
   refine jI fun Rk kR=>?_
   refine ⟨_,rfl,c,7,720720,rfl,by decide,by decide,by decide,by decide,fun xl row hxl hR=>?_⟩
   have s1:ah H (upd H xl (.lst (row.map V.int))):=af hxl _
   have g1:(upd H xl (.lst (row.map V.int))) xl=some (.lst (row.map V.int)):=ae
   generalize upd H xl (.lst (row.map V.int))=H1 at s1 g1 ⊢
   obtain ⟨x0,a0,x00,x01⟩:=hR.at (i:=0) (by decide) (by decide)
   obtain ⟨x1,a1,x10,x11⟩:=hR.at (i:=1) (by decide) (by decide)
   obtain ⟨x2,a2,x20,x21⟩:=hR.at (i:=2) (by decide) (by decide)
   obtain ⟨x3,a3,x30,x31⟩:=hR.at (i:=3) (by decide) (by decide)
   obtain ⟨x4,a4,x40,x41⟩:=hR.at (i:=4) (by decide) (by decide)
   obtain ⟨x5,a5,x50,x51⟩:=hR.at (i:=5) (by decide) (by decide)
   obtain ⟨x6,a6,x60,x61⟩:=hR.at (i:=6) (by decide) (by decide)
   refine ⟨_,rfl,_,_,rfl,rfl,_,rfl,_,_,rfl,rfl,hm0,?_⟩
   refine ⟨_,rfl,_,rfl,_,rfl,xl,_,_,_,rfl,rfl,ao.of g1,a1,_,rfl,_,_,rfl,rfl,hm0,JD,fun l2 hl2=>?_⟩
   have s2:ah H1 (upd H1 l2 (.lst [.int ((own + 1) % many),.int ((own + 1) % many),.int (x1 % many)])):=af hl2 _
   have g2:(upd H1 l2 (.lst [.int ((own + 1) % many),.int ((own + 1) % many),.int (x1 % many)])) l2=some (.lst [.int ((own + 1) % many),.int ((own + 1) % many),.int (x1 % many)]):=ae
   generalize upd H1 l2 (.lst [.int ((own + 1) % many),.int ((own + 1) % many),.int (x1 % many)])=H2 at s2 g2 ⊢
   obtain ⟨tt,hat,to,rfl,t0,t1⟩:=iz (P:=fun x=>∃to:Int,x=.int to/\0<=to/\to < many) (xs:=[.int ((own + 1) % many),.int ((own + 1) % many),.int (x1 % many)]) (r:=x2 % 3) (by omega) (by show x2 % 3 < 3; omega) (fun x hx=>by
     rcases List.mem_cons.mp hx with rfl | hx
     · exact ⟨_,rfl,dw hm0,du hm0⟩
     rcases List.mem_cons.mp hx with rfl | hx
     · exact ⟨_,rfl,dw hm0,du hm0⟩
     rw [List.mem_singleton.mp hx]
     exact ⟨_,rfl,dw hm0,du hm0⟩)
   have s02:=aa s1 s2
   have g12:=s2 _ _ g1
   refine ⟨_,rfl,xl,_,_,_,rfl,rfl,ao.of g12,a2,_,_,rfl,rfl,(by show (0:Int) < 3; decide),l2,_,_,_,rfl,rfl,ao.of g2,hat,?_⟩
   refine aw ?_
   refine kR _ _ ?_
   refine bP [some (.int c),some (.ref B),some (.int many),some (.int own),some (.ref xl),some (.int ((own + 1) % many)),some (.int to)] rfl ?_
   refine a8 fun Rk kR=>?_
   suffices hs:∀H3,ah H2 H3->Rk [some (.int c),some (.ref B),some (.int many),some (.int own),some (.ref xl),some (.int ((own + 1) % many)),some (.int to)] H3 by
     refine ⟨_,rfl,xl,_,_,_,rfl,rfl,ao.of g12,a0,_,_,rfl,rfl,(by show (0:Int) < 8; decide),_,_,rfl,rfl,_,rfl,?_⟩
     refine az (fun c1=>?_) (fun c1=>fK (hs _ (same_refl _)))
     refine ⟨_,rfl,JA,fun lz hlz=>?_⟩
     have s3:ah H2 (upd H2 lz (.lst [])):=af hlz _
     have g3:(upd H2 lz (.lst [])) lz=some (.lst []):=ae
     generalize upd H2 lz (.lst [])=H3 at s3 g3 ⊢
     have s03:=aa s02 s3
     obtain ⟨vb,gB,pb⟩:=hB.same s03
     refine ⟨_,RB.nil (ao.of gB) (ao.of g3),_,rfl,?_⟩
     refine az (fun c2=>?_) (fun c2=>hs _ s3)
     have vne:0 < vb.length:=List.length_pos_iff.mpr fun z=>by rw [z] at c2; exact absurd c2 (by decide)
     have g13:=s3 _ _ g12
     obtain ⟨p1,b1,hb1,at1,hp1⟩:=pz pb (r:=x4) rfl (by omega)
     refine ⟨_,rfl,_,rfl,xl,_,_,_,rfl,rfl,ao.of g13,a4,_,rfl,B,_,rfl,.inl (ao.of gB),_,_,rfl,rfl,(by omega),B,_,_,_,rfl,rfl,ao.of gB,at1,p1,_,_,_,rfl,rfl,aq.of hp1,rfl,_,rfl,xl,_,_,_,rfl,rfl,ao.of g13,a5,_,rfl,x5,B,bs,rfl,x50,hB.same s03,fun v1 H4 e1 s4 ea1 is1 ok1 dp1=>⟨_,rfl,JE,fun o5 ho5=>?_⟩⟩
     have s5:=af ho5 (.tup [.str "put",.str b1.1,v1,.int to])
     exact q (.ref o5) _ (.put b1.1 e1 to) (aa s03 (aa s4 s5)) ⟨v1,⟨o5,rfl,ae⟩,ea1.same s5⟩ ⟨List.mem_map.mpr ⟨b1,hb1,rfl⟩,is1,ok1,by omega,t0,t1⟩
   intro H3 s3
   refine kR _ _ ?_
   have s03:=aa s02 s3
   have g13:=s3 _ _ g12
   refine ⟨_,rfl,xl,_,_,_,rfl,rfl,ao.of g13,a0,_,_,rfl,rfl,(by show (0:Int) < 8; decide),_,_,rfl,rfl,_,rfl,?_⟩
   refine az (fun c2=>?_) (fun c2=>?_)
   · refine ⟨_,rfl,xl,_,_,_,rfl,rfl,ao.of g13,a5,_,rfl,x5,B,bs,rfl,x50,hB.same s03,fun v1 H4 e1 s4 ea1 is1 ok1 dp1=>⟨_,rfl,JD,fun o5 ho5=>?_⟩⟩
     have s5:=af ho5 (.tup [.str "say",v1,.int to])
     exact q (.ref o5) _ (.say e1 to) (aa s03 (aa s4 s5)) ⟨v1,⟨o5,rfl,ae⟩,ea1.same s5⟩ ⟨is1,ok1,by omega,t0,t1⟩
   refine ⟨_,rfl,xl,_,_,_,rfl,rfl,ao.of g13,a0,_,_,rfl,rfl,(by show (0:Int) < 8; decide),_,_,rfl,rfl,_,rfl,?_⟩
   refine az (fun c3=>?_) (fun c3=>?_)
   · refine ⟨_,rfl,xl,_,_,_,rfl,rfl,ao.of g13,a6,_,rfl,x6,B,bs,rfl,x60,hB.same s03,fun v1 H4 e1 s4 ea1 is1 ok1 dp1=>⟨_,rfl,_,rfl,xl,_,_,_,rfl,rfl,ao.of (s4 _ _ g13),a3,_,rfl,_,_,rfl,rfl,hm0,JE,fun o5 ho5=>?_⟩⟩
     have s5:=af ho5 (.tup [.str "test",v1,.int to,.int (x3 % many)])
     exact q (.ref o5) _ (.test e1 to (x3 % many)) (aa s03 (aa s4 s5)) ⟨v1,⟨o5,rfl,ae⟩,ea1.same s5⟩ ⟨is1,ok1,dp1,t0,t1,dw hm0,du hm0⟩
   refine ⟨JB,fun o5 ho5=>?_⟩
   exact q (.ref o5) _ .fin (aa s03 (af ho5 _)) ⟨o5,rfl,ae⟩ DV
theorem sU (s:Src K mg "_law_node" sNode)(m_len:mg "len"=none)(DG0:aF P w K mg base "_law_digits" ["cell","many","top"] 1 bZ)(SM0:aF P w K mg base "_law_sum" ["number","boxes"] 1 jv)(CO0:aF P w K mg base "_law_condition" ["number","boxes"] 2 kQ):aF P w K mg base "_law_node" ["cell","boxes","many","own"] 3 kW:=
 let ⟨f,fd,F,m⟩:=s
 ⟨f,fd,wm F m_len DG0 SM0 CO0,F.kp,vk F fun _ _ _ _ _ _ _ _ _ _=>rfl,m⟩
end
end TW
set_option Elab.async false
set_option linter.all false
set_option maxRecDepth 100000
set_option exponentiation.threshold 4000
set_option maxHeartbeats 1000000
namespace TW
open PySem L2
section
variable {P:Program}{w:World}{K:DA}{mg:Str->Option Value}{base:Heap}
def jJ {α:Type}(xs:List α)(lo hi:Option Int):List α:=(xs.drop (HT.bF xs.length 0 lo)).take (HT.bF xs.length xs.length hi - HT.bF xs.length 0 lo)
theorem iV {α:Type}(f:α->V)(xs:List α)(lo hi:Option Int):c7 (xs.map f) lo hi=(jJ xs lo hi).map f:=by
 unfold c7 jJ
 rw [DC,← List.map_drop,← GD]
theorem rZ {α:Type}(xs:List α)(lo hi:Option Int):(jJ xs lo hi).Sublist xs:=(F7 _ _).trans (List.drop_sublist _ _)
theorem vw {α:Type}(xs:List α)(n:Nat):jJ xs none (some (n:Int))=xs.take n:=by
 unfold jJ
 rw [HT.cD,HT.uE,EU,Gf]
 by_cases h:n<=xs.length
 · rw [FP h]
 · rw [Nat.min_eq_right (by omega),Ec,EG (by omega)]
theorem rY {α:Type}(xs:List α)(m n:Nat):(jJ xs (some (m:Int)) (some (n:Int))).length<=n - m:=by
 unfold jJ
 rw [HT.cD,HT.cD,DM]
 omega
theorem c8 (xs:List V){k:Nat}(h:k<=xs.length):c7 xs (some (k:Int)) none=xs.drop k:=by
 unfold c7
 have e0:HT.bF xs.length 0 (some (k:Int))=k:=by rw [HT.cD]; omega
 have e1:HT.bF xs.length xs.length none=xs.length:=rfl
 rw [e0,e1]
 exact EG (by rw [Ex]; exact DJ _)
theorem eT (xs:List V){k:Nat}(h:k<=xs.length):c7 xs none (some (k:Int))=xs.take k:=by
 unfold c7
 have e0:HT.bF xs.length 0 none=0:=rfl
 have e1:HT.bF xs.length xs.length (some (k:Int))=k:=by rw [HT.cD]; omega
 rw [e0,e1,EU,Gf]
theorem Paired.take {α β:Type}{F:α->β->Prop}:∀{xs:List α} {ys:List β} (k:Nat),Paired F xs ys->Paired F (xs.take k) (ys.take k)
 | _,_,0,_=>.nil
 | _,_,_ + 1,.nil=>.nil
 | _,_,k + 1,.cons r t=>.cons r (Paired.take k t)
/-! ### _law_program -/
abbrev sProg:Stmt:=top 28
structure Pg (bs:List (Str×Int))(ins:List Str)(nds:List Nd)(F:Int)(d:Nat):Prop where
 nd:(bs.map (·.1)).Nodup
 l3:bs.length<=3
 sz:∀b∈bs,1<=b.2/\b.2<=6
 ind:ins.Nodup
 sub:∀x∈ins,x∈bs.map (·.1)
 one:1<=nds.length
 few:(nds.length:Int)<=F
 gd:∀e∈nds,e.good (· ∈ bs.map (·.1)) nds.length d
def kX (K:DA):Sp:=fun vs H Q _=>∃(a:Addr) (ns:List Int) (most:Int),vs=[.ref a,.int most]/\ao K H a (ns.map V.int)/\0 < most/\most<=100/\∀(v:V) (H':Hp) (bs:List (Str×Int)) (ins:List Str) (nds:List Nd),ah H H'->aI H' v bs ins nds->Pg bs ins nds most 4->Q v H'
theorem cL:au ["script","most","xs","boxes","inputs","many","cells","nodes","own"] ["script","most"] (ag sProg):=⟨rfl,rfl,rfl,by decide +kernel,rfl,by decide +kernel,by decide +kernel⟩
theorem cP:(ag sProg).names.lookup (DD "_law_cell_at")=some .globalImplicit:=by decide +kernel
theorem de:(ag sProg).names.lookup (DD "_law_digits")=some .globalImplicit:=by decide +kernel
theorem i8:(ag sProg).names.lookup (DD "_law_node")=some .globalImplicit:=by decide +kernel
theorem qk:(ag sProg).names.lookup (DD "len")=some .globalImplicit:=by decide +kernel
theorem lR:(ag sProg).names.lookup (DD "range")=some .globalImplicit:=by decide +kernel
theorem wq {f:Addr}{fd:FuncData}(F:cB K "_law_program" "_law_program" sProg f fd)(m_len:mg "len"=none)(m_range:mg "range"=none)(CE0:aF P w K mg base "_law_cell_at" ["script","k"] 1 (gM K))(DG0:aF P w K mg base "_law_digits" ["cell","many","top"] 1 bZ)(NO0:aF P w K mg base "_law_node" ["cell","boxes","many","own"] 3 kW):aL P w K mg base CX0 4 f fd ["script","most"] (kX K):=by
 refine F.ok cL (fun vs H Q E h=>?_) (fun cdv A outer s H vs Q E hr h=>?_)
 · obtain ⟨a,ns,most,rfl,_⟩:=h
   rfl
 · obtain ⟨a,ns,most,rfl,hS,hm0,hm9,q⟩:=h
   have CE:=CE0.mono (show 1<=3 by omega)
   have DG:=DG0.mono (show 1<=3 by omega)
   have NO:=NO0.mono (show 3<=3 by omega)
   refine fI ⟨_,(G3 (G9 2 cL.nd (Hj DG hr de (GZ (Hj CE hr cP (GZ (GY 0) (GZ G1 G0))) (GZ G1 (GZ G1 G0)))))
     (G3 (G9 3 cL.nd (Im (Hy (GZ (G8 (GZ G7 (GZ (G4 HF G1 (G4 Hq (G2 Hm (GY 2) G1) G1)) G0))) (GZ (G8 (GZ G7 (GZ (G4 HF G1 (G4 Hq (G2 Hm (GY 2) G1) G1)) G0))) G0))) (G4 Hq (G2 Hm (GY 2) G1) G1)))
     (G3 (Hn (Hk Hw (G4 Hq (G2 Hm (GY 2) G1) G1) G1) (G6 (G9 3 cL.nd (Hy (GZ (G8 (GZ G7 (GZ (G4 HF G1 (G4 Hq (G2 Hm (GY 2) G1) G1)) G0))) G0)))) Ho)
     (G3 (G9 4 cL.nd (Io (HZ [none,none] ["name","size"] (show aA _ (ag sProg) from ⟨rfl,by decide +kernel,by decide +kernel,by decide +kernel⟩) (by rfl) (HQ (GY 3)) (fun _ _ _ _ _=>⟨(HG 2 (Hl (Hh 0 (show (["name","size"]:List Str).Nodup from by decide +kernel)) (Hl (Hh 1 (show (["name","size"]:List Str).Nodup from by decide +kernel)) HH))),HU,(GY 0)⟩)) (G4 Hq (G2 Hm (GY 2) G1) G1)))
     (G3 (Hn (Hk Hw (G4 Hq (G4 HJ (G2 Hm (GY 2) G1) G1) G1) G1) (G6 (G9 4 cL.nd (L3.xG (GY 4) (H0 G1)))) Ho)
     (G3 (G9 5 cL.nd (G4 HF G1 (G4 Hq (G2 Hm (GY 2) G1) (GY 1))))
     (G3 (G9 6 cL.nd (L3.Bh (GY 0) G1 (G4 HF G1 (GY 5))))
     (G3 (G9 6 cL.nd (G4 HN (GY 6) (Hj DG hr de (GZ (Hj CE hr cP (GZ (GY 0) (GZ G1 G0))) (GZ (G4 Ii (GY 5) (Hv Hz qk m_len DQ (GZ (GY 6) G0))) (GZ (G4 L3.xy G1 G1) G0))))))
     (G3 (G9 7 cL.nd (Hy G0))
     (G3 (HW (Ic lR m_range (GZ (GY 5) G0)) (Hh 8 cL.nd) (G6 (Ij (II (GY 7) (GZ (Hj NO hr i8 (GZ (G2 Hm (GY 6) (GY 8)) (GZ (GY 3) (GZ (GY 5) (GZ (GY 8) G0))))) G0)))))
     (G6 (Hi (G8 (GZ (GY 3) (GZ (GY 4) (GZ (GY 7) G0)))))))))))))))),?_⟩
   refine jI fun Rk kR=>?_
   refine ⟨_,rfl,a,ns,0,rfl,hS,E4 _,fun c=>⟨c,6,720720,rfl,by decide,by decide,by decide,by decide,fun xl row hxl hR=>?_⟩⟩
   have s1:ah H (upd H xl (.lst (row.map V.int))):=af hxl _
   have g1:(upd H xl (.lst (row.map V.int))) xl=some (.lst (row.map V.int)):=ae
   generalize upd H xl (.lst (row.map V.int))=H1 at s1 g1 ⊢
   obtain ⟨x0,a0,x00,x01⟩:=hR.at (i:=0) (by decide) (by decide)
   obtain ⟨x1,a1,x10,x11⟩:=hR.at (i:=1) (by decide) (by decide)
   obtain ⟨x2,a2,x20,x21⟩:=hR.at (i:=2) (by decide) (by decide)
   obtain ⟨x3,a3,x30,x31⟩:=hR.at (i:=3) (by decide) (by decide)
   obtain ⟨x4,a4,x40,x41⟩:=hR.at (i:=4) (by decide) (by decide)
   obtain ⟨x5,a5,x50,x51⟩:=hR.at (i:=5) (by decide) (by decide)
   refine ⟨_,rfl,xl,_,_,_,rfl,rfl,ao.of g1,a1,_,_,rfl,rfl,(by show (0:Int) < 3; decide),_,_,rfl,rfl,JC,fun pa hpa=>?_⟩
   have s2:ah H1 (upd H1 pa (.tup [.str "a",.int (1 + x1 % 3)])):=af hpa _
   have g2:(upd H1 pa (.tup [.str "a",.int (1 + x1 % 3)])) pa=some (.tup [.str "a",.int (1 + x1 % 3)]):=ae
   generalize upd H1 pa (.tup [.str "a",.int (1 + x1 % 3)])=H2 at s2 g2 ⊢
   have g12:=s2 _ _ g1
   refine ⟨_,rfl,xl,_,_,_,rfl,rfl,ao.of g12,a2,_,_,rfl,rfl,(by show (0:Int) < 2; decide),_,_,rfl,rfl,JC,fun pb hpb=>?_⟩
   have s3:ah H2 (upd H2 pb (.tup [.str "b",.int (1 + x2 % 2)])):=af hpb _
   have g3:(upd H2 pb (.tup [.str "b",.int (1 + x2 % 2)])) pb=some (.tup [.str "b",.int (1 + x2 % 2)]):=ae
   generalize upd H2 pb (.tup [.str "b",.int (1 + x2 % 2)])=H3 at s3 g3 ⊢
   refine ⟨JC,fun l4 hl4=>?_⟩
   have s4:ah H3 (upd H3 l4 (.lst [.ref pa,.ref pb])):=af hl4 _
   have g4:(upd H3 l4 (.lst [.ref pa,.ref pb])) l4=some (.lst [.ref pa,.ref pb]):=ae
   generalize upd H3 l4 (.lst [.ref pa,.ref pb])=H4 at s4 g4 ⊢
   have s14:=aa s2 (aa s3 s4)
   have g14:=s14 _ _ g1
   refine ⟨_,rfl,xl,_,_,_,rfl,rfl,ao.of g14,a0,_,_,rfl,rfl,(by show (0:Int) < 3; decide),_,rfl,l4,_,rfl,ao.of g4,fun l5 hl5=>?_⟩
   obtain ⟨k0,ek0,hk0⟩ : ∃k0:Nat,x0 % 3=(k0:Int)/\k0<=2:=⟨(x0 % 3).toNat,by omega,by omega⟩
   rw [ek0,eT _ (by show k0<=2; exact hk0)]
   have s5:ah H4 (upd H4 l5 (.lst ([V.ref pa,V.ref pb].take k0))):=af hl5 _
   have g5:(upd H4 l5 (.lst ([V.ref pa,V.ref pb].take k0))) l5=some (.lst ([V.ref pa,V.ref pb].take k0)):=ae
   generalize upd H4 l5 (.lst ([V.ref pa,V.ref pb].take k0))=H5 at s5 g5 ⊢
   have s15:=aa s14 s5
   have s05:=aa s1 s15
   have g15:=s15 _ _ g1
   refine aw ?_
   suffices hb:∀(B:Addr) (bs:List (Str×Int)) (H6:Hp),ah H H6->H6 xl=some (.lst (row.map V.int))->Bx H6 B bs->(bs.map (·.1)).Nodup->bs.length<=3->(∀b∈bs,1<=b.2/\b.2<=6)->Rk [some (.ref a),some (.int most),some (.ref xl),some (.ref B),none,none,none,none,none] H6 by
     refine ⟨_,rfl,xl,_,_,_,rfl,rfl,ao.of g15,a0,_,_,rfl,rfl,(by show (0:Int) < 3; decide),rfl,_,rfl,?_⟩
     refine az (fun c1=>?_) (fun c1=>?_)
     · refine ⟨_,rfl,xl,_,_,_,rfl,rfl,ao.of g15,a1,_,_,rfl,rfl,(by show (0:Int) < 6; decide),_,_,rfl,rfl,JC,fun p6 hp6=>?_⟩
       have s6:ah H5 (upd H5 p6 (.tup [.str "ab",.int (1 + x1 % 6)])):=af hp6 _
       have g6:(upd H5 p6 (.tup [.str "ab",.int (1 + x1 % 6)])) p6=some (.tup [.str "ab",.int (1 + x1 % 6)]):=ae
       generalize upd H5 p6 (.tup [.str "ab",.int (1 + x1 % 6)])=H6 at s6 g6 ⊢
       refine ⟨JB,fun l7 hl7=>?_⟩
       have s7:ah H6 (upd H6 l7 (.lst [.ref p6])):=af hl7 _
       have g7:(upd H6 l7 (.lst [.ref p6])) l7=some (.lst [.ref p6]):=ae
       generalize upd H6 l7 (.lst [.ref p6])=H7 at s7 g7 ⊢
       have s57:=aa s6 s7
       refine aw ?_
       exact hb l7 [("ab",1 + x1 % 6)] _ (aa s05 s57) (s57 _ _ g15) ⟨_,g7,.cons ⟨p6,rfl,s7 _ _ g6⟩ .nil⟩ (by show ([("ab":Str)]:List Str).Nodup; decide) (by show 1<=3; decide) (fun b hb=>by rw [List.mem_singleton.mp hb]; show 1<=1 + x1 % 6/\1 + x1 % 6<=6; omega)
     · have two:Paired (cy H5) [V.ref pa,V.ref pb] [("a",1 + x1 % 3),("b",1 + x2 % 2)]:=.cons ⟨pa,rfl,s5 _ _ (s4 _ _ (s3 _ _ g2))⟩ (.cons ⟨pb,rfl,s5 _ _ (s4 _ _ g3)⟩ .nil)
       have ndt:(([("a",1 + x1 % 3),("b",1 + x2 % 2)]:List (Str×Int)).map (·.1)).Nodup:=by show (["a","b"]:List Str).Nodup; decide +kernel
       refine hb l5 (([("a",1 + x1 % 3),("b",1 + x2 % 2)]:List (Str×Int)).take k0) _ s05 g15 ⟨_,g5,TW.Paired.take k0 two⟩ ?_ ?_ ?_
       · rw [GD]
         exact ndt.sublist (F7 _ _)
       · rw [DM]
         omega
       · intro b hb
         have:=GU hb
         rcases List.mem_cons.mp this with rfl | this
         · show 1<=1 + x1 % 3/\1 + x1 % 3<=6; omega
         · rw [List.mem_singleton.mp this]
           show 1<=1 + x2 % 2/\1 + x2 % 2<=6; omega
   intro B bs H6 s06 g16 hB ndb l3 szb
   refine kR _ _ ?_
   clear s05 s15 s14 s1 s2 s3 s4 s5 g1 g12 g14 g15 g2 g3 g4 g5
   refine eB fun Rk kR=>?_
   obtain ⟨vb,gB,pb⟩:=hB
   have hvl:vb.length=bs.length:=Paired.length pb
   refine ⟨_,rfl,B,rfl,⟨_,ao.of gB⟩,fun na hna=>?_⟩
   have nba:B≠na:=ai gB hna
   refine bu (xs:=vb) (fun i H3=>H3=upd H6 na (.lst ((bs.take i).map fun b=>V.str b.1))) rfl (fun i H3 _ e=>?_) (fun i x H3 hx e=>?_) (fun H3 e=>?_)
   · subst e
     exact ao.of (by rw [aj nba]; exact gB)
   · subst e
     obtain ⟨b,hbi,p,rfl,hp⟩:=Paired.get pb hx
     have hil:i < vb.length:=(List.getElem?_eq_some_iff.mp hx).1
     refine ⟨p,_,rfl,aq.of (by rw [aj (ai hp hna)]; exact hp),rfl,_,_,rfl,_,_,rfl,rfl,?_⟩
     refine dk (A:=fun H3=>dR (oi 0) na _ H3 _) ⟨_,rfl,_,ae,aR (by rw [DC,DM]; omega),aM (Pv:=fun i H3=>H3=upd H6 na (.lst ((bs.take i).map fun b=>V.str b.1))) (by repeat' constructor) hil ?_⟩
     rw [bE]
     congr 2
     rw [D1,hbi,DS]
     rfl
   subst e
   have et:(bs.take vb.length).map (fun b=>V.str b.1)=(bs.map (·.1)).map V.str:=by rw [hvl,Ec,EV]; rfl
   rw [et]
   have s7:ah H6 (upd H6 na (.lst ((bs.map (·.1)).map V.str))):=af hna _
   have g7:(upd H6 na (.lst ((bs.map (·.1)).map V.str))) na=some (.lst ((bs.map (·.1)).map V.str)):=ae
   generalize upd H6 na (.lst ((bs.map (·.1)).map V.str))=H7 at s7 g7 ⊢
   have g17:=s7 _ _ g16
   refine ⟨_,rfl,xl,_,_,_,rfl,rfl,ao.of g17,a3,_,_,rfl,rfl,(by show (0:Int) < 3; decide),_,rfl,na,_,rfl,ao.of g7,fun l8 hl8=>?_⟩
   rw [iV]
   have sub8:=rZ (bs.map (·.1)) (some (x3 % 3)) none
   generalize jJ (bs.map (·.1)) (some (x3 % 3)) none=in0 at sub8 ⊢
   have s8:ah H7 (upd H7 l8 (.lst (in0.map V.str))):=af hl8 _
   have g8:(upd H7 l8 (.lst (in0.map V.str))) l8=some (.lst (in0.map V.str)):=ae
   generalize upd H7 l8 (.lst (in0.map V.str))=H8 at s8 g8 ⊢
   have s68:=aa s7 s8
   have g18:=s8 _ _ g17
   refine aw ?_
   suffices hb:∀(I:Addr) (ins:List Str) (H9:Hp),ah H6 H9->H9 I=some (.lst (ins.map V.str))->ins.Nodup->(∀x∈ins,x∈bs.map (·.1))->Rk [some (.ref a),some (.int most),some (.ref xl),some (.ref B),some (.ref I),none,none,none,none] H9 by
     refine ⟨_,rfl,xl,_,_,_,rfl,rfl,ao.of g18,a3,_,_,rfl,rfl,⟨(by show (0:Int) < 3; decide),(by show (3:Int) < 2 ^ 1000; decide +kernel)⟩,_,_,rfl,rfl,(by show (0:Int) < 2; decide),rfl,_,rfl,?_⟩
     refine az (fun c1=>?_) (fun c1=>?_)
     · refine ⟨_,rfl,_,rfl,rfl,l8,_,rfl,ao.of g8,fun l9 hl9=>?_⟩
       rw [← List.map_reverse]
       have s9:ah H8 (upd H8 l9 (.lst (in0.reverse.map V.str))):=af hl9 _
       have g9:(upd H8 l9 (.lst (in0.reverse.map V.str))) l9=some (.lst (in0.reverse.map V.str)):=ae
       generalize upd H8 l9 (.lst (in0.reverse.map V.str))=H9 at s9 g9 ⊢
       refine aw ?_
       exact hb l9 _ _ (aa s68 s9) g9 ((List.Perm.nodup_iff (List.reverse_perm in0)).mpr (ndb.sublist sub8)) (fun x hx=>sub8.mem (List.mem_reverse.mp hx))
     · exact hb l8 _ _ s68 g8 (ndb.sublist sub8) (fun x hx=>sub8.mem hx)
   intro I ins H9 s69 gI ndi subi
   refine kR _ _ ?_
   clear g17 g18 g7 s7 s8 s68 g8 sub8
   have s09:=aa s06 s69
   have g19:=s69 _ _ g16
   have gB9:=s69 _ _ gB
   have pb9:Paired (cy H9) vb bs:=Paired.mapP pb fun a b h=>Tp.keep (ah.tk s69) h
   refine jI fun Rk kR=>?_
   refine ⟨_,rfl,xl,_,_,_,rfl,rfl,ao.of g19,a4,_,rfl,_,_,rfl,rfl,hm0,_,_,rfl,rfl,?_⟩
   obtain ⟨many,em,h1,h2⟩ : ∃many:Int,1 + x4 % most=many/\1<=many/\many<=most:=by
     have:=dw (k:=x4) hm0
     have:=du (k:=x4) hm0
     exact ⟨_,rfl,by omega,by omega⟩
   refine aw ?_
   refine bP [some (.ref a),some (.int most),some (.ref xl),some (.ref B),some (.ref I),some (.int (1 + x4 % most)),none,none,none] rfl ?_
   rw [em]
   refine ⟨_,rfl,_,rfl,_,rfl,_,_,rfl,rfl,_,rfl,a,_,rfl,ah.seq s09 hS,fun c1 hc1=>?_⟩
   have cfew:(jJ ns (some 2) (some (2 + many))).length<=many.toNat:=by
     have:=rY ns 2 (2 + many.toNat)
     rw [show ((2 + many.toNat:Nat):Int)=2 + many by omega] at this
     exact Eb this (by omega)
   rw [iV]
   generalize jJ ns (some 2) (some (2 + many))=cs1 at cfew ⊢
   have sa:ah H9 (upd H9 c1 (.lst (cs1.map V.int))):=af hc1 _
   have ga:(upd H9 c1 (.lst (cs1.map V.int))) c1=some (.lst (cs1.map V.int)):=ae
   generalize upd H9 c1 (.lst (cs1.map V.int))=Ha at sa ga ⊢
   refine aw ?_
   have s0a:=aa s09 sa
   have lc:(cs1.map V.int).length=cs1.length:=DC ..
   refine ⟨_,rfl,_,rfl,a,ns,1,rfl,ah.seq s0a hS,by decide,fun c2=>⟨_,rfl,_,rfl,c1,_,rfl,.inl (ao.of ga),_,_,rfl,rfl,_,_,rfl,rfl,⟨by decide,by decide,by decide⟩,c2,_,10 ^ (12:Int).toNat,rfl,by rw [lc]; omega,by rw [lc]; omega,by decide,by decide,fun dl rowd hdl hRd=>?_⟩⟩
   have sb:ah Ha (upd Ha dl (.lst (rowd.map V.int))):=af hdl _
   have gb:(upd Ha dl (.lst (rowd.map V.int))) dl=some (.lst (rowd.map V.int)):=ae
   generalize upd Ha dl (.lst (rowd.map V.int))=Hb at sb gb ⊢
   refine ⟨c1,dl,_,_,rfl,rfl,sb _ _ ga,gb,(by rw [DC,DC,hRd.len,lc]; exact small (by omega)),fun ce hce=>?_⟩
   rw [← DS]
   have ecl:((cs1++rowd).length:Int)=many:=by rw [DE,hRd.len,lc]; omega
   generalize cs1++rowd=cs at ecl ⊢
   have sc:ah Hb (upd Hb ce (.lst (cs.map V.int))):=af hce _
   have gc:(upd Hb ce (.lst (cs.map V.int))) ce=some (.lst (cs.map V.int)):=ae
   generalize upd Hb ce (.lst (cs.map V.int))=Hc at sc gc ⊢
   refine aw ?_
   refine kR _ _ ?_
   refine bP [some (.ref a),some (.int most),some (.ref xl),some (.ref B),some (.ref I),some (.int many),some (.ref ce),none,none] rfl ?_
   have s9c:=aa sa (aa sb sc)
   have s0c:=aa s09 s9c
   have gBc:=s9c _ _ gB9
   have pbc:Paired (cy Hc) vb bs:=Paired.mapP pb9 fun a b h=>Tp.keep (ah.tk s9c) h
   have gIc:=s9c _ _ gI
   clear ga sa sb sc gb g19 gB9 pb9 gI s09 s9c s06 s69 gB pb g16
   refine eB fun Rk kR=>?_
   refine ⟨JA,fun nb hnb=>?_⟩
   refine aw ?_
   refine ⟨_,rfl,many,rfl,by omega,by omega,?_⟩
   refine cF (lo:=0) (n:=many.toNat) (fun i σ H5=>(∃cv,σ=[some (.ref a),some (.int most),some (.ref xl),some (.ref B),some (.ref I),some (.int many),some (.ref ce),some (.ref nb),cv])/\∃(vn:List V) (nds:List Nd),ah Hc H5/\H5 nb=some (.lst vn)/\Paired (aZ H5) vn nds/\nds.length=i/\∀e∈nds,e.good (· ∈ bs.map (·.1)) many 4) ⟨⟨_,rfl⟩,[],[],af hnb _,ae,.nil,rfl,fun e he=>nomatch he⟩ (fun i σ H5 hi z=>?_) (fun σ H5 z=>?_)
   · obtain ⟨⟨cv,rfl⟩,vn,nds,s5,hnb5,pn,hnl,gd⟩:=z
     obtain ⟨c3,_,_,at3⟩:=bJ V.int cs (r:=0 + (i:Int)) (by omega) (by omega)
     have hvn:vn.length=nds.length:=Paired.length pn
     refine ⟨_,rfl,.inl ⟨rfl,_,ao.of hnb5⟩,?_⟩
     refine ⟨_,rfl,_,rfl,ce,_,_,_,rfl,rfl,ao.of (s5 _ _ gc),at3,_,rfl,_,rfl,_,rfl,c3,B,many,0 + (i:Int),bs,rfl,⟨vb,s5 _ _ gBc,Paired.mapP pbc fun a b h=>Tp.keep (ah.tk s5) h⟩,by omega,by omega,by omega,fun v H7 e s7 ea ge=>?_⟩
     have hnb7:H7 nb=some (.lst vn):=s7 _ _ hnb5
     refine ⟨nb,vn,v,rfl,rfl,hnb7,aR (by omega),⟨_,rfl⟩,?_⟩
     have t8:TK H5 (upd H7 nb (.lst (vn++[v]))):=(ah.tk s7).trans (TK.lst hnb7)
     refine ⟨vn++[v],nds++[e],bc (aa s5 s7) hnb,ae,Paired.snoc (Paired.mapP pn fun a b h=>aZ.keep t8 h) (aZ.keep (TK.lst hnb7) ea),by rw [DE,hnl]; rfl,fun x hx=>?_⟩
     rcases List.mem_append.mp hx with y | y
     · exact gd x y
     · rw [List.mem_singleton.mp y]
       exact ge
   obtain ⟨⟨cv,rfl⟩,vn,nds,s5,hnb5,pn,hnl,gd⟩:=z
   refine kR _ _ ?_
   refine ⟨_,rfl,_,rfl,_,rfl,JD,fun p9 hp9=>?_⟩
   have s59:ah H5 (upd H5 p9 (.tup [.ref B,.ref I,.ref nb])):=af hp9 _
   have s9:=aa s5 s59
   have en:((nds.length:Nat):Int)=many:=by omega
   exact q (.ref p9) _ bs ins nds (aa s0c s9) ⟨p9,B,I,nb,vb,vn,rfl,ae,s9 _ _ gBc,s9 _ _ gIc,s59 _ _ hnb5,Paired.mapP pbc fun a b h=>Tp.keep (ah.tk s9) h,Paired.mapP pn fun a b h=>aZ.keep (ah.tk s59) h⟩ ⟨ndb,l3,szb,ndi,subi,by omega,by omega,by rw [en]; exact gd⟩
theorem sX (s:Src K mg "_law_program" sProg)(m_len:mg "len"=none)(m_range:mg "range"=none)(CE0:aF P w K mg base "_law_cell_at" ["script","k"] 1 (gM K))(DG0:aF P w K mg base "_law_digits" ["cell","many","top"] 1 bZ)(NO0:aF P w K mg base "_law_node" ["cell","boxes","many","own"] 3 kW):aF P w K mg base "_law_program" ["script","most"] 4 (kX K):=
 let ⟨f,fd,F,m⟩:=s
 ⟨f,fd,wq F m_len m_range CE0 DG0 NO0,F.kp,cu F fun _ _ _ _ _ _ _ _=>rfl,m⟩
end
end TW
set_option Elab.async false
set_option linter.all false
set_option maxRecDepth 100000
set_option exponentiation.threshold 4000
set_option maxHeartbeats 1000000
namespace TW
open PySem L2
section
variable {P:Program}{w:World}{K:DA}{mg:Str->Option Value}{base:Heap}
abbrev sLed:Stmt:=top 29
abbrev sTurned:Stmt:=top 30
theorem iA {α:Type}(xs:List α)(x:α):eR (xs++[x]) (-1)=some x:=by
 unfold eR tG
 rw [if_neg (by decide),if_pos (by rw [DE]; show -((_ + 1:Nat):Int) <= -1; omega)]
 show (xs++[x])[(-1 + (((xs++[x]).length:Nat):Int)).toNat]? = _
 rw [DE,show ((-1:Int) + ((xs.length + [x].length:Nat):Int)).toNat=xs.length by show ((-1:Int) + ((xs.length + 1:Nat):Int)).toNat=_; omega]
 rw [DW (DJ _),EW]
 rfl
/-- a told pair of worths,its lists new -/
theorem Bb (xs:List V)(y:V):HT.bF (xs++[y]).length (xs++[y]).length (some (-1))=xs.length:=by
 rw [DE]
 unfold HT.bF
 simp
 omega
theorem vy (xs:List V)(y:V):c7 (xs++[y]) none (some (-1))=xs:=by
 unfold c7
 have e0:HT.bF (xs++[y]).length 0 none=0:=rfl
 rw [e0,Bb,EU,Gf,List.take_left]
theorem pd (xs:List V)(y:V):¬ (HT.bF (xs++[y]).length 0 none=0/\HT.bF (xs++[y]).length (xs++[y]).length (some (-1))=(xs++[y]).length):=by
 rintro ⟨_,z⟩
 rw [Bb,DE] at z
 simp at z
theorem Ao (a b:V)(r:List V):c7 (a :: b :: r) none (some 2)=[a,b]:=by
 rw [show (2:Int)=((2:Nat):Int) from rfl,eT _ (by simp)]
 rfl
/-! ### a node's last number -/
def Nd.lastTo (m:Int):Nd->Nd
 | .put x s _=>.put x s m | .say s _=>.say s m | .test c n _=>.test c n m | .fin=>.fin
theorem Nd.good.mono {Pn:Str->Prop}{m m':Int}{d d':Nat}(hm:m<=m')(hd:d<=d'):∀{e:Nd},e.good Pn m d->e.good Pn m' d'
 | .put _ _ _,⟨a,b,c,x,y,z⟩=>⟨a,b,c,by omega,y,by omega⟩
 | .say _ _,⟨b,c,x,y,z⟩=>⟨b,c,by omega,y,by omega⟩
 | .test _ _ _,⟨b,c,x,y,z,u,v⟩=>⟨b,c,by omega,y,by omega,u,by omega⟩
 | .fin,_=>DV
theorem aZ.last {H:Hp}{Pn:Str->Prop}{many:Int}{d:Nat}:∀{e:Nd} {v:V},aZ H v e->e.good Pn many d->e≠.fin->∃(p:Addr) (k:Str) (r:List V) (n:Int),v=.ref p/\H p=some (.tup ((V.str k :: r)++[.int n]))/\k≠"end"/\r.length<=2/\0<=n/\n < many /\
   ∀(m m':Int) (H':Hp) (p':Addr),TK H H'->H' p'=some (.tup ((V.str k :: r)++[.int m]))->many<=m'->0<=m->m < m'->aZ H' (.ref p') (e.lastTo m)/\(e.lastTo m).good Pn m' d
 | .put x s n,_,⟨u,⟨p,rfl,h⟩,a⟩,⟨g1,g2,g3,g4,g5,g6⟩,_=>⟨p,"put",[.str x,u],n,rfl,h,by decide,by show 2<=2; decide,g5,g6,fun m m' H' p' k h' _ m0 m1=>⟨⟨u,⟨p',rfl,h'⟩,a.keep k⟩,g1,g2,g3,g4,m0,m1⟩⟩
 | .say s n,_,⟨u,⟨p,rfl,h⟩,a⟩,⟨g2,g3,g4,g5,g6⟩,_=>⟨p,"say",[u],n,rfl,h,by decide,by show 1<=2; decide,g5,g6,fun m m' H' p' k h' _ m0 m1=>⟨⟨u,⟨p',rfl,h'⟩,a.keep k⟩,g2,g3,g4,m0,m1⟩⟩
 | .test s n o,_,⟨u,⟨p,rfl,h⟩,a⟩,⟨g2,g3,g4,g5,g6,g7,g8⟩,_=>⟨p,"test",[u,.int n],o,rfl,h,by decide,by show 2<=2; decide,g7,g8,fun m m' H' p' k h' hm m0 m1=>⟨⟨u,⟨p',rfl,h'⟩,a.keep k⟩,g2,g3,g4,g5,by omega,m0,m1⟩⟩
 | .fin,_,_,_,h=>absurd rfl h
/-! ### _law_led -/
def mz:Sp:=fun vs H Q _=>∃(v:V) (l:Addr) (e:Nd) (cs:List Int) (m:Int) (Pn:Str->Prop) (d:Nat),vs=[v,.ref l]/\aZ H v e/\e.good Pn (cs.length:Nat) d/\H l=some (.lst (cs.map V.int))/\(∀c∈cs,0<=c/\c < m)/\((cs.length:Nat):Int)<=m/\∀(v':V) (H':Hp) (e':Nd),ah H H'->aZ H' v' e'->e'.good Pn m d->Q v' H'
theorem Bf:au ["node","leads"] ["node","leads"] (ag sLed):=⟨rfl,rfl,rfl,by decide +kernel,rfl,by decide +kernel,by decide +kernel⟩
theorem yO {f:Addr}{fd:FuncData}(F:cB K "_law_led" "_law_led" sLed f fd)  : aL P w K mg base CX0 1 f fd ["node","leads"] mz:=by
 refine F.ok Bf (fun vs H Q E h=>?_) (fun cdv A outer s H vs Q E hr h=>?_)
 · obtain ⟨v,l,e,cs,m,Pn,d,rfl,_⟩:=h
   rfl
 · obtain ⟨v,l,e,cs,m,Pn,d,rfl,na,gd,hl,hcs,hm,q⟩:=h
   refine fI ⟨_,(G3 (Hn (Hk Hw (G2 G5 (GY 0) G1) G7) (G6 (Hi (GY 0))) Ho)
     (G3 (Hn (Hk Hw (G2 G5 (GY 0) G1) G7) (G6 (Hi (G4 Ia (Iu (GY 0) G1) (G8 (GZ (G2 Hm (GY 1) (G2 G5 (GY 0) G1)) (GZ (G2 Hm (GY 1) (G2 G5 (GY 0) G1)) G0)))))) Ho)
     (G6 (Hi (G4 Ia (Iu (GY 0) (H0 G1)) (G8 (GZ (G2 Hm (GY 1) (G2 G5 (GY 0) (H0 G1))) G0))))))),?_⟩
   refine a8 fun Rk kR=>?_
   cases e with
   | put x e n0=>
     obtain ⟨p,k,r,n,rfl,hp,kne,r2,n0,n1,mk⟩:=na.last gd (fun z=>nomatch z)
     obtain ⟨mm,_,hmem,hat⟩:=bJ V.int cs n0 n1
     have k0:eR ((V.str k :: r)++[.int n]) 0=some (.str k):=ye
     have hk:k="put":=by
       obtain ⟨_,⟨q0,eq0,h0⟩,_⟩:=na
       cases eq0
       rw [hp] at h0
       injection h0 with h0
       injection h0 with h0
       injection h0 with h0 _
       injection h0
     refine ⟨_,rfl,p,_,_,_,rfl,rfl,aq.of hp,k0,rfl,_,rfl,iteF' (by rw [hk]; decide) (kR _ _ ?_)⟩
     clear kR
     refine a8 fun Rk kR=>?_
     refine ⟨_,rfl,p,_,_,_,rfl,rfl,aq.of hp,k0,rfl,_,rfl,iteF' (by rw [hk]; decide) (kR _ _ ?_)⟩
     refine ⟨_,rfl,_,rfl,_,rfl,p,_,rfl,aq.of hp,pd _ _,fun a1 ha1=>?_⟩
     rw [vy]
     have s1:ah H (upd H a1 (.tup (V.str k :: r))):=af ha1 _
     have g1:(upd H a1 (.tup (V.str k :: r))) a1=some (.tup (V.str k :: r)):=ae
     generalize upd H a1 (.tup (V.str k :: r))=H1 at s1 g1 ⊢
     refine ⟨_,rfl,_,rfl,_,rfl,p,_,_,_,rfl,rfl,aq.of (s1 _ _ hp),iA _ _,l,_,_,_,rfl,rfl,ao.of (s1 _ _ hl),hat,JB,fun a2 ha2=>?_⟩
     have s2:ah H1 (upd H1 a2 (.tup [.int mm])):=af ha2 _
     have g2:(upd H1 a2 (.tup [.int mm])) a2=some (.tup [.int mm]):=ae
     generalize upd H1 a2 (.tup [.int mm])=H2 at s2 g2 ⊢
     refine ⟨a1,a2,_,_,rfl,rfl,aq.of (s2 _ _ g1),aq.of g2,(fun z=>nomatch z),small (by show r.length + 1 + 1<=1000; omega),(fun z=>nomatch z),fun _ p' hp'=>?_⟩
     have s3:=af hp' (.tup ((V.str k :: r)++[.int mm]))
     obtain ⟨z1,z2⟩:=mk mm m _ p' (ah.tk (aa s1 (aa s2 s3))) ae hm (hcs mm hmem).1 (hcs mm hmem).2
     exact q (.ref p') _ _ (aa s1 (aa s2 s3)) z1 z2
   | say e n0=>
     obtain ⟨p,k,r,n,rfl,hp,kne,r2,n0,n1,mk⟩:=na.last gd (fun z=>nomatch z)
     obtain ⟨mm,_,hmem,hat⟩:=bJ V.int cs n0 n1
     have k0:eR ((V.str k :: r)++[.int n]) 0=some (.str k):=ye
     have hk:k="say":=by
       obtain ⟨_,⟨q0,eq0,h0⟩,_⟩:=na
       cases eq0
       rw [hp] at h0
       injection h0 with h0
       injection h0 with h0
       injection h0 with h0 _
       injection h0
     refine ⟨_,rfl,p,_,_,_,rfl,rfl,aq.of hp,k0,rfl,_,rfl,iteF' (by rw [hk]; decide) (kR _ _ ?_)⟩
     clear kR
     refine a8 fun Rk kR=>?_
     refine ⟨_,rfl,p,_,_,_,rfl,rfl,aq.of hp,k0,rfl,_,rfl,iteF' (by rw [hk]; decide) (kR _ _ ?_)⟩
     refine ⟨_,rfl,_,rfl,_,rfl,p,_,rfl,aq.of hp,pd _ _,fun a1 ha1=>?_⟩
     rw [vy]
     have s1:ah H (upd H a1 (.tup (V.str k :: r))):=af ha1 _
     have g1:(upd H a1 (.tup (V.str k :: r))) a1=some (.tup (V.str k :: r)):=ae
     generalize upd H a1 (.tup (V.str k :: r))=H1 at s1 g1 ⊢
     refine ⟨_,rfl,_,rfl,_,rfl,p,_,_,_,rfl,rfl,aq.of (s1 _ _ hp),iA _ _,l,_,_,_,rfl,rfl,ao.of (s1 _ _ hl),hat,JB,fun a2 ha2=>?_⟩
     have s2:ah H1 (upd H1 a2 (.tup [.int mm])):=af ha2 _
     have g2:(upd H1 a2 (.tup [.int mm])) a2=some (.tup [.int mm]):=ae
     generalize upd H1 a2 (.tup [.int mm])=H2 at s2 g2 ⊢
     refine ⟨a1,a2,_,_,rfl,rfl,aq.of (s2 _ _ g1),aq.of g2,(fun z=>nomatch z),small (by show r.length + 1 + 1<=1000; omega),(fun z=>nomatch z),fun _ p' hp'=>?_⟩
     have s3:=af hp' (.tup ((V.str k :: r)++[.int mm]))
     obtain ⟨z1,z2⟩:=mk mm m _ p' (ah.tk (aa s1 (aa s2 s3))) ae hm (hcs mm hmem).1 (hcs mm hmem).2
     exact q (.ref p') _ _ (aa s1 (aa s2 s3)) z1 z2
   | test e n o=>
     obtain ⟨u,⟨p,rfl,hp⟩,a⟩:=na
     obtain ⟨g2,g3,g4,g5,g6,g7,g8⟩:=gd
     obtain ⟨m1,_,hm1,hat⟩:=bJ V.int cs g5 g6
     obtain ⟨m2,_,hm2,hat1⟩:=bJ V.int cs g7 g8
     refine ⟨_,rfl,p,_,_,_,rfl,rfl,aq.of hp,rfl,rfl,_,rfl,iteF' (by decide) (kR _ _ ?_)⟩
     refine ⟨_,rfl,p,_,_,_,rfl,rfl,aq.of hp,rfl,rfl,_,rfl,cN ?_⟩
     refine ⟨_,rfl,_,rfl,p,_,rfl,aq.of hp,?_,fun a1 ha1=>?_⟩
     · rintro ⟨_,z⟩
       exact absurd (show HT.bF 4 4 (some 2)=4 from z) (by decide)
     rw [Ao]
     have s1:ah H (upd H a1 (.tup [.str "test",u])):=af ha1 _
     have g1:(upd H a1 (.tup [.str "test",u])) a1=some (.tup [.str "test",u]):=ae
     generalize upd H a1 (.tup [.str "test",u])=H1 at s1 g1 ⊢
     refine ⟨_,rfl,_,rfl,p,_,_,_,rfl,rfl,aq.of (s1 _ _ hp),rfl,l,_,_,_,rfl,rfl,ao.of (s1 _ _ hl),hat,_,rfl,_,rfl,p,_,_,_,rfl,rfl,aq.of (s1 _ _ hp),rfl,l,_,_,_,rfl,rfl,ao.of (s1 _ _ hl),hat1,JC,fun a2 ha2=>?_⟩
     have s2:ah H1 (upd H1 a2 (.tup [.int m1,.int m2])):=af ha2 _
     have g2':(upd H1 a2 (.tup [.int m1,.int m2])) a2=some (.tup [.int m1,.int m2]):=ae
     generalize upd H1 a2 (.tup [.int m1,.int m2])=H2 at s2 g2' ⊢
     refine ⟨a1,a2,_,_,rfl,rfl,aq.of (s2 _ _ g1),aq.of g2',(fun z=>nomatch z),JE,(fun z=>nomatch z),fun _ p' hp'=>?_⟩
     have s3:=af hp' (.tup ([.str "test",u]++[.int m1,.int m2]))
     exact q (.ref p') _ (.test e m1 m2) (aa s1 (aa s2 s3)) ⟨u,⟨p',rfl,ae⟩,a.keep (ah.tk (aa s1 (aa s2 s3)))⟩ ⟨g2,g3,g4,(hcs _ hm1).1,(hcs _ hm1).2,(hcs _ hm2).1,(hcs _ hm2).2⟩
   | fin=>
     obtain ⟨p,rfl,hp⟩:=na
     refine ⟨_,rfl,p,_,_,_,rfl,rfl,aq.of hp,rfl,rfl,_,rfl,cN ?_⟩
     exact ⟨_,rfl,q _ _ .fin (same_refl _) ⟨p,rfl,hp⟩ DV⟩
theorem vJ (s:Src K mg "_law_led" sLed)  : aF P w K mg base "_law_led" ["node","leads"] 1 mz:=
 let ⟨f,fd,F,m⟩:=s
 ⟨f,fd,yO F ,F.kp,cu F fun _ _ _ _ _ _ _ _=>rfl,m⟩
theorem yA {n:Nat}{c:Int}(h0:0<=c)(h1:c < (n:Int)):tG n c=some c.toNat:=by unfold tG; rw [if_pos h0,if_pos h1]
theorem Aw {X:Cx}{a b c:Expr}{ta tb:TE}{p pos:Pos}(ho:L3.SE X a ta)(hi:L3.SE X (.Subscript b c p) tb):L3.SG X (.Subscript a (.Subscript b c p) pos) (yq ta tb uC):=⟨um ho.h hi.h set_list (fun _=>rfl)⟩
theorem Paired.set {α β:Type}{F:α->β->Prop}{x:α}{y:β}:∀{xs:List α} {ys:List β} (k:Nat),Paired F xs ys->F x y->Paired F (xs.set k x) (ys.set k y)
 | _,_,_,.nil,_=>.nil
 | _,_,0,.cons r t,h=>.cons h t
 | _,_,k + 1,.cons r t,h=>.cons r (Paired.set k t h)
/-! ### _law_turned -/
/-- a program and what is drawn of it -/
def fY:Sp:=fun vs H Q _=>∃(v:V) (n:Int) (bs:List (Str×Int)) (ins:List Str) (nds:List Nd) (F:Int) (d:Nat),vs=[v,.int n]/\aI H v bs ins nds/\Pg bs ins nds F d/\F<=100/\∀(v':V) (H':Hp) (nds':List Nd),ah H H'->aI H' v' bs ins nds'->Pg bs ins nds' F d->nds'.length=nds.length->Q v' H'
theorem cn:au ["program","by","boxes","inputs","nodes","many","leads","found","k"] ["program","by"] (ag sTurned):=⟨rfl,rfl,rfl,by decide +kernel,rfl,by decide +kernel,by decide +kernel⟩
theorem ik:(ag sTurned).names.lookup (DD "_law_led")=some .globalImplicit:=by decide +kernel
theorem l0:(ag sTurned).names.lookup (DD "len")=some .globalImplicit:=by decide +kernel
theorem kC:(ag sTurned).names.lookup (DD "list")=some .globalImplicit:=by decide +kernel
theorem eN:(ag sTurned).names.lookup (DD "range")=some .globalImplicit:=by decide +kernel
theorem qX {f:Addr}{fd:FuncData}(F:cB K "_law_turned" "_law_turned" sTurned f fd)(m_len:mg "len"=none)(m_list:mg "list"=none)(m_range:mg "range"=none)(m_max:mg "max"=none)(LD0:aF P w K mg base "_law_led" ["node","leads"] 1 mz):aL P w K mg base CX0 2 f fd ["program","by"] fY:=by
 refine F.ok cn (fun vs H Q E h=>?_) (fun cdv A outer s H vs Q E hr h=>?_)
 · obtain ⟨v,b0,bs,ins,nds,F,d,rfl,_⟩:=h
   rfl
 · obtain ⟨v,b0,bs,ins,nds,F,d,rfl,pa,pg,hF,q⟩:=h
   have LD:=LD0.mono (show 1<=1 by omega)
   refine fI ⟨_,(G3 (HP (GY 0) (HG 3 (Hl (Hh 2 cn.nd) (Hl (Hh 3 cn.nd) (Hl (Hh 4 cn.nd) HH)))))
     (G3 (G9 5 cn.nd (Hv Hz l0 m_len DQ (GZ (GY 4) G0)))
     (G3 (G9 6 cn.nd (G4 HN (Hy (GZ G1 G0)) (HZ [none,some 1,some 5] ["k","by","many"] (show aA _ (ag sTurned) from ⟨rfl,by decide +kernel,by decide +kernel,by decide +kernel⟩) (by rfl) (Ic eN m_range (GZ (G4 Ii (GY 5) G1) G0)) (fun _ _ _ _ _=>⟨(Hh 0 (show (["k","by","many"]:List Str).Nodup from by decide +kernel)),HU,(G4 HF G1 (G4 Hq (G4 HF (GY 0) (GY 1)) (Hv L3.oH (by rfl) m_max (by decide +kernel) (GZ G1 (GZ (G4 Ii (GY 2) G1) G0)))))⟩))))
     (G3 (G9 7 cn.nd (HI HX kC m_list (by decide +kernel) (GZ (GY 4) G0)))
     (G3 (HW (Ic eN m_range (GZ (GY 5) G0)) (Hh 8 cn.nd) (G6 (HP (Hj LD hr ik (GZ (G2 Hm (GY 4) (GY 8)) (GZ (GY 6) G0))) (Aw (GY 7) (G2 Hm (GY 6) (GY 8))))))
     (G6 (Hi (G8 (GZ (GY 2) (GZ (GY 3) (GZ (GY 7) G0))))))))))),?_⟩
   obtain ⟨p,B,I,N,vb,vn,rfl,hp,hB,hI,hN,pb,pn⟩:=pa
   have hvn:vn.length=nds.length:=Paired.length pn
   have n1:=pg.one
   have nF:=pg.few
   refine jI fun Rk kR=>?_
   refine ⟨_,rfl,p,_,rfl,aq.of hp,rfl,_,_,rfl,_,_,rfl,_,_,rfl,rfl,?_⟩
   refine ⟨_,rfl,N,_,rfl,.inl (ao.of hN),?_⟩
   refine aw ?_
   refine bP [some (.ref p),some (.int b0),some (.ref B),some (.ref I),some (.ref N),some (.int (vn.length:Nat)),none,none,none] rfl ?_
   refine ⟨JB,fun l1 hl1=>?_⟩
   have s1:ah H (upd H l1 (.lst [.int 0])):=af hl1 _
   have g1:(upd H l1 (.lst [.int 0])) l1=some (.lst [.int 0]):=ae
   generalize upd H l1 (.lst [.int 0])=H1 at s1 g1 ⊢
   obtain ⟨m1,em1,em2⟩ : ∃m1:Nat,(vn.length:Int) - 1=(m1:Int)/\m1 + 1=vn.length:=⟨vn.length - 1,by omega,by omega⟩
   refine ⟨_,rfl,_,_,rfl,rfl,_,rfl,by omega,by omega,fun l2 hl2=>?_⟩
   refine iU (lo:=0) (n:=((vn.length:Int) - 1).toNat) (fun i H5=>∃cs:List Int,H5=upd H1 l2 (.lst (cs.map V.int))/\cs.length=i/\∀c∈cs,0<=c/\c < (vn.length:Int)) ⟨[],rfl,rfl,fun c hc=>nomatch hc⟩ (fun i H5 hi z=>?_) (fun H5 z=>?_)
   · obtain ⟨cs,rfl,hcl,hcs⟩:=z
     refine aw ?_
     refine dk (A:=fun H3=>dR _ l2 _ H3 _) ?_
     have hi2:i + 1 < vn.length:=by omega
     have mx:(if (vn.length:Int) - 1 > 1 then (vn.length:Int) - 1 else 1)=(vn.length:Int) - 1:=by split <;> omega
     refine ⟨_,rfl,_,rfl,_,_,rfl,rfl,_,rfl,_,_,rfl,rfl,_,_,rfl,_,_,rfl,rfl,(by rw [mx]; omega),_,_,rfl,rfl,_,ae,aR (by rw [DC]; omega),?_⟩
     refine aM (Pv:=fun i H5=>∃cs:List Int,H5=upd H1 l2 (.lst (cs.map V.int))/\cs.length=i/\∀c∈cs,0<=c/\c < (vn.length:Int)) (by repeat' constructor) hi ⟨cs++[_],by rw [bE,DS]; rfl,by rw [DE,hcl]; rfl,fun c hc=>?_⟩
     rcases List.mem_append.mp hc with hc | hc
     · exact hcs c hc
     · rw [List.mem_singleton.mp hc,mx]
       have:=dw (k:=0 + (i:Int) + b0) (n:=(vn.length:Int) - 1) (by omega)
       have:=du (k:=0 + (i:Int) + b0) (n:=(vn.length:Int) - 1) (by omega)
       omega
   obtain ⟨cs,rfl,hcl,hcs⟩:=z
   have s2:ah H1 (upd H1 l2 (.lst (cs.map V.int))):=af hl2 _
   have g2:(upd H1 l2 (.lst (cs.map V.int))) l2=some (.lst (cs.map V.int)):=ae
   generalize upd H1 l2 (.lst (cs.map V.int))=H2 at s2 g2 ⊢
   refine ⟨l1,l2,_,_,rfl,rfl,s2 _ _ g1,g2,(by rw [DC,hcl]; exact small (by show 1 + _<=1000; omega)),fun L hL=>?_⟩
   rw [show ([V.int 0]++cs.map V.int)=((0 :: cs).map V.int) from rfl]
   have s3:ah H2 (upd H2 L (.lst ((0 :: cs).map V.int))):=af hL _
   have g3:(upd H2 L (.lst ((0 :: cs).map V.int))) L=some (.lst ((0 :: cs).map V.int)):=ae
   generalize upd H2 L (.lst ((0 :: cs).map V.int))=H3 at s3 g3 ⊢
   have ll:(((0 :: cs).length:Nat):Int)=(vn.length:Nat):=by rw [D6,hcl]; omega
   have lb:∀c∈0 :: cs,0<=c/\c < (vn.length:Int):=fun c hc=>by
     rcases List.mem_cons.mp hc with rfl | hc
     · omega
     · exact hcs c hc
   generalize 0 :: cs=ls at g3 ll lb
   have s03:=aa s1 (aa s2 s3)
   have gN:=s03 _ _ hN
   refine aw ?_
   refine kR _ _ ?_
   refine bP [some (.ref p),some (.int b0),some (.ref B),some (.ref I),some (.ref N),some (.int (vn.length:Nat)),some (.ref L),none,none] rfl ?_
   refine eB fun Rk kR=>?_
   refine ⟨_,rfl,N,_,rfl,.inl (ao.of gN),fun F9 hF9=>?_⟩
   have s4:ah H3 (upd H3 F9 (.lst vn)):=af hF9 _
   have g4:(upd H3 F9 (.lst vn)) F9=some (.lst vn):=ae
   generalize upd H3 F9 (.lst vn)=H4 at s4 g4 ⊢
   refine aw ?_
   have s04:=aa s03 s4
   have pn4:Paired (aZ H4) vn nds:=Paired.mapP pn fun _ _ h=>h.keep (ah.tk s04)
   have nF9:H3 F9=none:=hF9
   refine ⟨_,rfl,(vn.length:Int),rfl,by omega,by omega,?_⟩
   refine cF (lo:=0) (n:=((vn.length:Nat):Int).toNat) (fun i σ H5=>(∃cv,σ=[some (.ref p),some (.int b0),some (.ref B),some (.ref I),some (.ref N),some (.int (vn.length:Nat)),some (.ref L),some (.ref F9),cv])/\∃(vn2:List V) (nds2:List Nd),ah H3 H5/\H5 F9=some (.lst vn2)/\Paired (aZ H5) vn2 nds2/\nds2.length=nds.length/\∀e∈nds2,e.good (· ∈ bs.map (·.1)) nds.length d) ⟨⟨_,rfl⟩,vn,nds,s4,g4,pn4,rfl,pg.gd⟩ (fun i σ H5 hi z=>?_) (fun σ H5 z=>?_)
   · obtain ⟨⟨cv,rfl⟩,vn2,nds2,s5,g5,pn2,nl2,gd2⟩:=z
     have s05:=aa s03 s5
     have gN5:=s05 _ _ hN
     have gL5:=s5 _ _ g3
     obtain ⟨x,hx,atx⟩:=iO (xs:=vn) (r:=0 + (i:Int)) (by omega) (by omega)
     obtain ⟨e,he,ne⟩:=Paired.get pn hx
     obtain ⟨c,_,hc,atc⟩:=bJ V.int ls (r:=0 + (i:Int)) (by omega) (by omega)
     have cb:=lb c hc
     have egd:=pg.gd e (DR he)
     have eln:(nds.length:Int)=((ls.length:Nat):Int):=by omega
     refine aw ?_
     refine ⟨_,rfl,_,rfl,N,_,_,_,rfl,rfl,ao.of gN5,atx,_,rfl,x,L,e,ls,(vn.length:Nat),(· ∈ bs.map (·.1)),d,rfl,ne.keep (ah.tk s05),(by rw [← eln]; exact egd),gL5,lb,(by omega),fun v2 H6 e2 s6 ne2 gd3=>⟨_,rfl,_,rfl,_,rfl,L,_,_,_,rfl,rfl,ao.of (s6 _ _ gL5),atc,F9,vn2,c,c.toNat,rfl,rfl,s6 _ _ g5,yA cb.1 (by have:=Paired.length pn2; omega),?_⟩⟩
     have k7:TK H5 (upd H6 F9 (.lst (vn2.set c.toNat v2))):=(ah.tk s6).trans (TK.lst (s6 _ _ g5))
     exact ⟨⟨_,rfl⟩,_,nds2.set c.toNat e2,bc (aa s5 s6) nF9,ae,Paired.set _ (Paired.mapP pn2 fun _ _ h=>h.keep k7) (ne2.keep (TK.lst (s6 _ _ g5))),by rw [List.length_set,nl2],fun x hx=>by
       rcases List.mem_or_eq_of_mem_set hx with h | h
       · exact gd2 x h
       · rw [h,← hvn]; exact gd3⟩
   obtain ⟨⟨cv,rfl⟩,vn2,nds2,s5,g5,pn2,nl2,gd2⟩:=z
   refine kR _ _ ?_
   refine ⟨_,rfl,_,rfl,_,rfl,JD,fun p9 hp9=>?_⟩
   have s59:ah H5 (upd H5 p9 (.tup [.ref B,.ref I,.ref F9])):=af hp9 _
   have s9:=aa (aa s03 s5) s59
   exact q (.ref p9) _ nds2 s9 ⟨p9,B,I,F9,vb,vn2,rfl,ae,s9 _ _ hB,s9 _ _ hI,s59 _ _ g5,Paired.mapP pb fun a b h=>Tp.keep (ah.tk s9) h,Paired.mapP pn2 fun a b h=>aZ.keep (ah.tk s59) h⟩ ⟨pg.nd,pg.l3,pg.sz,pg.ind,pg.sub,by omega,by omega,by rw [nl2]; exact gd2⟩ nl2
theorem nG (s:Src K mg "_law_turned" sTurned)(m_len:mg "len"=none)(m_list:mg "list"=none)(m_range:mg "range"=none)(m_max:mg "max"=none)(LD0:aF P w K mg base "_law_led" ["node","leads"] 1 mz):aF P w K mg base "_law_turned" ["program","by"] 2 fY:=
 let ⟨f,fd,F,m⟩:=s
 ⟨f,fd,qX F m_len m_list m_range m_max LD0,F.kp,cu F fun _ _ _ _ _ _ _ _=>rfl,m⟩
end
end TW
set_option Elab.async false
set_option linter.all false
set_option maxRecDepth 100000
set_option exponentiation.threshold 4000
set_option maxHeartbeats 1000000
namespace TW
open PySem L2
section
variable {P:Program}{w:World}{K:DA}{mg:Str->Option Value}{base:Heap}
abbrev sIdle:Stmt:=top 31
abbrev sSpoilt:Stmt:=top 32
theorem Paired.drop {α β:Type}{F:α->β->Prop}:∀{xs:List α} {ys:List β} (k:Nat),Paired F xs ys->Paired F (xs.drop k) (ys.drop k)
 | _,_,0,h=>h
 | _,_,_ + 1,.nil=>.nil
 | _,_,k + 1,.cons _ t=>Paired.drop k t
theorem Paired.app {α β:Type}{F:α->β->Prop}:∀{xs us:List α} {ys vs:List β},Paired F xs ys->Paired F us vs->Paired F (xs++us) (ys++vs)
 | _,_,_,_,.nil,h=>h
 | _,_,_,_,.cons r t,h=>.cons r (Paired.app t h)
/-! ### one node exchanged -/
def gY {α:Type}(l:List α)(j:Nat)(x:α):List α:=l.take j++[x]++l.drop (j + 1)
theorem eA {α:Type}{l:List α}{j:Nat}{x:α}(h:j < l.length):(gY l j x).length=l.length:=by
 unfold gY
 simp
 omega
theorem Paired.gY {α β:Type}{F:α->β->Prop}{xs:List α}{ys:List β}{x:α}{y:β}(j:Nat)(h:Paired F xs ys)(r:F x y):Paired F (TW.gY xs j x) (TW.gY ys j y):=
 Paired.app (Paired.app (TW.Paired.take j h) (.cons r .nil)) (Paired.drop (j + 1) h)
theorem iH {α:Type}{l:List α}{j:Nat}{x y:α}(h:y∈gY l j x):y∈l\/y=x:=by
 unfold gY at h
 rcases List.mem_append.mp h with h | h
 · rcases List.mem_append.mp h with h | h
   · exact .inl (GU h)
   · exact .inr (List.mem_singleton.mp h)
 · exact .inl (List.mem_of_mem_drop h)
theorem aZ.kind {H:Hp}:∀{e:Nd} {v:V},aZ H v e->∃(p:Addr) (k:Str) (r:List V),v=.ref p/\H p=some (.tup (V.str k :: r))/\(e=.fin↔k="end")
 | .put x s n,_,⟨u,⟨p,e,h⟩,_⟩=>⟨p,"put",_,e,h,(fun z=>nomatch z),(fun z=>absurd z (by decide))⟩
 | .say s n,_,⟨u,⟨p,e,h⟩,_⟩=>⟨p,"say",_,e,h,(fun z=>nomatch z),(fun z=>absurd z (by decide))⟩
 | .test c n o,_,⟨u,⟨p,e,h⟩,_⟩=>⟨p,"test",_,e,h,(fun z=>nomatch z),(fun z=>absurd z (by decide))⟩
 | .fin,_,⟨p,e,h⟩=>⟨p,"end",[],e,h,(fun _=>rfl),(fun _=>rfl)⟩
theorem uN {a b:Str}(c:¬ decide (V.str a=V.str b)=true):a≠b:=fun z=>c (decide_eq_true (by rw [z]))
theorem oE {vn:List V}{n m:Int}(hm:m=(vn.length:Int))(h:0 < m):∃j:Nat,n % m=(j:Int)/\j < vn.length/\∃x,vn[j]? = some x/\eR vn (n % m)=some x:=by
 have h0:=dw (k:=n) h
 have h1:=du (k:=n) h
 obtain ⟨x,a,b⟩:=iO (xs:=vn) h0 (by omega)
 exact ⟨(n % m).toNat,by omega,by omega,x,a,b⟩
/-! ### _law_idle -/
def jr:Sp:=fun vs H Q _=>∃(v:V) (n:Int) (bs:List (Str×Int)) (ins:List Str) (nds:List Nd) (F:Int) (d:Nat),vs=[v,.int n]/\aI H v bs ins nds/\Pg bs ins nds F d/\F<=100/\1<=d/\∀(v':V) (H':Hp) (nds':List Nd),ah H H'->aI H' v' bs ins nds'->Pg bs ins nds' (F + 1) (d)->Q v' H'
theorem dC:au ["program","number","boxes","inputs","nodes","at","to","idle","name"] ["program","number"] (ag sIdle):=⟨rfl,rfl,rfl,by decide +kernel,rfl,by decide +kernel,by decide +kernel⟩
theorem gv:(ag sIdle).names.lookup (DD "len")=some .globalImplicit:=by decide +kernel
theorem m7:(ag sIdle).names.lookup (DD "list")=some .globalImplicit:=by decide +kernel
theorem v9 {f:Addr}{fd:FuncData}(F:cB K "_law_idle" "_law_idle" sIdle f fd)(m_len:mg "len"=none)(m_list:mg "list"=none):aL P w K mg base CX0 1 f fd ["program","number"] jr:=by
 refine F.ok dC (fun vs H Q E h=>?_) (fun cdv A outer s H vs Q E hr h=>?_)
 · obtain ⟨v,n,bs,ins,nds,F,d,rfl,_⟩:=h
   rfl
 · obtain ⟨v,n,bs,ins,nds,F,d,rfl,pa,pg,hF,hd,q⟩:=h
   refine fI ⟨_,(G3 (HP (GY 0) (HG 3 (Hl (Hh 2 dC.nd) (Hl (Hh 3 dC.nd) (Hl (Hh 4 dC.nd) HH)))))
     (G3 (G9 5 dC.nd (G4 Hq (GY 1) (Hv Hz gv m_len DQ (GZ (GY 4) G0))))
     (G3 (Hn (Hk Hw (G2 G5 (G2 Hm (GY 4) (GY 5)) G1) G7) (G6 (Hi (G8 (GZ (GY 2) (GZ (GY 3) (GZ (HI HX m7 m_list (by decide +kernel) (GZ (GY 4) G0)) G0)))))) Ho)
     (G3 (G9 6 dC.nd (G2 G5 (G2 Hm (GY 4) (GY 5)) (H0 G1)))
     (G3 (G9 7 dC.nd (G8 (GZ G7 (GZ (G8 (GZ G7 (GZ (G8 (GZ G7 (GZ G1 G0))) (GZ (G8 (GZ G7 (GZ (G4 Hq (G4 HJ (GY 1) G1) G1) G0))) G0)))) (GZ (GY 6) (GZ (GY 6) G0))))))
     (G3 (Hn (HM (Ig (Hk (Ip (m:=0) (bB hr _ (by decide))) (GY 2) (Hy G0)) (Ih (Hk Hw (G4 Hq (G4 HJ (GY 1) G1) G1) G1)))) (G3 (G9 8 dC.nd (G2 G5 (G2 Hm (GY 2) (G4 Hq (G4 HJ (GY 1) G1) (Hv Hz gv m_len DQ (GZ (GY 2) G0)))) G1))
     (G6 (G9 7 dC.nd (G8 (GZ G7 (GZ (GY 8) (GZ (G8 (GZ G7 (GZ (GY 8) G0))) (GZ (GY 6) G0)))))))) Ho)
     (G6 (Hi (G8 (GZ (GY 2) (GZ (GY 3) (GZ (G4 HN (G4 HN (G4 HN (Im (GY 4) (GY 5)) (Hy (GZ (G4 Ia (Iu (G2 Hm (GY 4) (GY 5)) (H0 G1)) (G8 (GZ (Hv Hz gv m_len DQ (GZ (GY 4) G0)) G0))) G0))) (Io (GY 4) (G4 HF (GY 5) G1))) (Hy (GZ (GY 7) G0))) G0)))))))))))),?_⟩
   obtain ⟨p,B,I,N,vb,vn,rfl,hp,hB,hI,hN,pb,pn⟩:=pa
   have hvn:vn.length=nds.length:=Paired.length pn
   have n1:=pg.one
   have nF:=pg.few
   refine eB fun Rk kR=>?_
   refine ⟨_,rfl,p,_,rfl,aq.of hp,rfl,_,_,rfl,_,_,rfl,_,_,rfl,rfl,?_⟩
   obtain ⟨m,em,m0⟩ : ∃m:Int,m=(vn.length:Int)/\0 < m:=⟨_,rfl,by omega⟩
   obtain ⟨j,ej,hj,x,hx,atx⟩:=oE (n:=n) em m0
   refine ⟨_,rfl,_,rfl,N,_,rfl,.inl (ao.of hN),_,_,rfl,rfl,(by rw [← em]; exact m0),?_⟩
   refine aw ?_
   refine kR _ _ ?_
   refine bP [some (.ref p),some (.int n),some (.ref B),some (.ref I),some (.ref N),some (.int (j:Nat)),none,none,none] (by rw [← ej,em]; rfl) ?_
   rw [ej] at atx
   obtain ⟨e,he,ne⟩:=Paired.get pn hx
   have egd:=pg.gd e (DR he)
   clear kR ej

   obtain ⟨p1,k1,r1,rfl,hp1,kf⟩:=ne.kind
   refine a8 fun Rk kR=>?_
   refine ⟨_,rfl,_,rfl,N,_,_,_,rfl,rfl,ao.of hN,atx,p1,_,_,_,rfl,rfl,aq.of hp1,ye,rfl,_,rfl,?_⟩
   refine az (fun c1=>?_) (fun c1=>?_)
   · refine ⟨_,rfl,_,rfl,_,rfl,N,_,rfl,.inl (ao.of hN),fun N2 hN2=>?_⟩
     have s1:ah H (upd H N2 (.lst vn)):=af hN2 _
     have g1:(upd H N2 (.lst vn)) N2=some (.lst vn):=ae
     generalize upd H N2 (.lst vn)=H1 at s1 g1 ⊢
     refine ⟨JD,fun p9 hp9=>?_⟩
     have s2:=af hp9 (.tup [.ref B,.ref I,.ref N2])
     have s9:=aa s1 s2
     exact q (.ref p9) _ nds s9 ⟨p9,B,I,N2,vb,vn,rfl,ae,s9 _ _ hB,s9 _ _ hI,s2 _ _ g1,Paired.mapP pb fun a b h=>Tp.keep (ah.tk s9) h,Paired.mapP pn fun a b h=>aZ.keep (ah.tk s9) h⟩ ⟨pg.nd,pg.l3,pg.sz,pg.ind,pg.sub,by omega,by omega,pg.gd⟩
   refine kR _ _ ?_
   clear kR
   have nf:e≠.fin:=fun z=>uN c1 (kf.mp z)
   obtain ⟨p2,k,r,to,ep,hp2,kne,r2,t0,t1,mk⟩:=ne.last egd nf
   cases ep
   clear kf hp1 c1
   refine jI fun Rk kR=>?_
   refine ⟨_,rfl,_,rfl,N,_,_,_,rfl,rfl,ao.of hN,atx,_,rfl,p1,_,_,_,rfl,rfl,aq.of hp2,iA _ _,?_⟩
   refine aw ?_
   refine ⟨JC,fun o1 ho1=>?_⟩
   have s1:ah H (upd H o1 (.tup [.str "number",.int 1])):=af ho1 _
   have g1:(upd H o1 (.tup [.str "number",.int 1])) o1=some (.tup [.str "number",.int 1]):=ae
   generalize upd H o1 (.tup [.str "number",.int 1])=H1 at s1 g1 ⊢
   refine ⟨_,rfl,_,_,rfl,rfl,⟨(by show (0:Int) < 7; decide),(by show (7:Int) < 2 ^ 1000; decide +kernel)⟩,_,_,rfl,rfl,(by show (0:Int) < 2; decide),JC,fun o2 ho2=>?_⟩
   have s2:ah H1 (upd H1 o2 (.tup [.str "number",.int (n / 7 % 2)])):=af ho2 _
   have g2:(upd H1 o2 (.tup [.str "number",.int (n / 7 % 2)])) o2=some (.tup [.str "number",.int (n / 7 % 2)]):=ae
   generalize upd H1 o2 (.tup [.str "number",.int (n / 7 % 2)])=H2 at s2 g2 ⊢
   refine ⟨JD,fun o3 ho3=>?_⟩
   have s3:ah H2 (upd H2 o3 (.tup [.str "same",.ref o1,.ref o2])):=af ho3 _
   have g3:(upd H2 o3 (.tup [.str "same",.ref o1,.ref o2])) o3=some (.tup [.str "same",.ref o1,.ref o2]):=ae
   generalize upd H2 o3 (.tup [.str "same",.ref o1,.ref o2])=H3 at s3 g3 ⊢
   refine ⟨_,rfl,_,rfl,JE,fun ia hia=>?_⟩
   have s4:ah H3 (upd H3 ia (.tup [.str "test",.ref o3,.int to,.int to])):=af hia _
   have g4:(upd H3 ia (.tup [.str "test",.ref o3,.int to,.int to])) ia=some (.tup [.str "test",.ref o3,.int to,.int to]):=ae
   generalize upd H3 ia (.tup [.str "test",.ref o3,.int to,.int to])=H4 at s4 g4 ⊢
   have s04:=aa s1 (aa s2 (aa s3 s4))
   have i4:aZ H4 (.ref ia) (.test (.two .same (.num 1) (.num (n / 7 % 2))) to to):=⟨.ref o3,⟨ia,rfl,g4⟩,.ref o1,.ref o2,⟨o3,rfl,s4 _ _ g3⟩,⟨o1,rfl,s4 _ _ (s3 _ _ (s2 _ _ g1))⟩,⟨o2,rfl,s4 _ _ (s3 _ _ g2)⟩⟩
   have i4g:(Nd.test (.two .same (.num 1) (.num (n / 7 % 2))) to to).good (· ∈ bs.map (·.1)) nds.length d:=⟨⟨DV,DV⟩,⟨(by show (1:Int).natAbs < 2 ^ 100; decide),jq (by decide) (by decide)⟩,hd,t0,t1,t0,t1⟩
   refine aw ?_
   refine bP [some (.ref p),some (.int n),some (.ref B),some (.ref I),some (.ref N),some (.int (j:Nat)),some (.int to),some (.ref ia),none] rfl ?_
   suffices hs:∀(H5:Hp) (ib:Addr) (eb:Nd) (o8:Option V),ah H H5->aZ H5 (.ref ib) eb->eb.good (· ∈ bs.map (·.1)) nds.length d->Rk [some (.ref p),some (.int n),some (.ref B),some (.ref I),some (.ref N),some (.int (j:Nat)),some (.int to),some (.ref ib),o8] H5 by
     refine ⟨_,rfl,JA,fun lz hlz=>?_⟩
     have s5:ah H4 (upd H4 lz (.lst [])):=af hlz _
     have g5:(upd H4 lz (.lst [])) lz=some (.lst []):=ae
     generalize upd H4 lz (.lst [])=H5 at s5 g5 ⊢
     have s05:=aa s04 s5
     have gB:=s05 _ _ hB
     have pb5:Paired (cy H5) vb bs:=Paired.mapP pb fun a b h=>Tp.keep (ah.tk s05) h
     have i5:=aZ.keep (ah.tk s5) i4
     refine ⟨_,RB.nil (ao.of gB) (ao.of g5),_,rfl,?_⟩
     refine az (fun c2=>?_) (fun c2=>fK (hs _ _ _ _ s05 i5 i4g))
     refine ⟨_,rfl,_,_,rfl,rfl,⟨(by show (0:Int) < 14; decide),(by show (14:Int) < 2 ^ 1000; decide +kernel)⟩,_,_,rfl,rfl,(by show (0:Int) < 2; decide),rfl,_,rfl,?_⟩
     refine az (fun c3=>?_) (fun c3=>hs _ _ _ _ s05 i5 i4g)
     have vne:0 < vb.length:=List.length_pos_iff.mpr fun z=>by rw [z] at c2; exact absurd c2 (by decide)
     obtain ⟨b1,b,hb,atb,hb1⟩:=pz pb5 (r:=n / 28) rfl (by omega)
     refine ⟨_,rfl,_,rfl,_,_,rfl,rfl,⟨(by show (0:Int) < 28; decide),(by show (28:Int) < 2 ^ 1000; decide +kernel)⟩,_,rfl,B,_,rfl,.inl (ao.of gB),_,_,rfl,rfl,(by omega),B,_,_,_,rfl,rfl,ao.of gB,atb,b1,_,_,_,rfl,rfl,aq.of hb1,rfl,?_⟩
     refine aw ?_
     refine ⟨_,rfl,_,rfl,JC,fun o6 ho6=>?_⟩
     have s6:ah H5 (upd H5 o6 (.tup [.str "box",.str b.1])):=af ho6 _
     have g6:(upd H5 o6 (.tup [.str "box",.str b.1])) o6=some (.tup [.str "box",.str b.1]):=ae
     generalize upd H5 o6 (.tup [.str "box",.str b.1])=H6 at s6 g6 ⊢
     refine ⟨_,rfl,JE,fun o7 ho7=>?_⟩
     have s7:ah H6 (upd H6 o7 (.tup [.str "put",.str b.1,.ref o6,.int to])):=af ho7 _
     have g7:(upd H6 o7 (.tup [.str "put",.str b.1,.ref o6,.int to])) o7=some (.tup [.str "put",.str b.1,.ref o6,.int to]):=ae
     generalize upd H6 o7 (.tup [.str "put",.str b.1,.ref o6,.int to])=H7 at s7 g7 ⊢
     refine aw ?_
     exact hs _ _ (.put b.1 (.box "box" b.1) to) _ (aa s05 (aa s6 s7)) ⟨.ref o6,⟨o7,rfl,g7⟩,⟨o6,rfl,s7 _ _ g6⟩⟩ ⟨List.mem_map.mpr ⟨b,hb,rfl⟩,DV,⟨rfl,List.mem_map.mpr ⟨b,hb,rfl⟩⟩,Ep _,t0,t1⟩
   intro H5 ib eb o8 s5 ni ng
   refine kR _ _ ?_
   clear kR i4 i4g s04 g1 g2 g3 g4 s1 s2 s3 s4
   have gN:=s5 _ _ hN
   have gp:=s5 _ _ hp2
   refine ⟨_,rfl,_,rfl,_,rfl,_,rfl,_,rfl,N,_,rfl,ao.of gN,fun l1 hl1=>?_⟩
   rw [eT _ (by omega)]
   have s6:ah H5 (upd H5 l1 (.lst (vn.take j))):=af hl1 _
   have g6:(upd H5 l1 (.lst (vn.take j))) l1=some (.lst (vn.take j)):=ae
   generalize upd H5 l1 (.lst (vn.take j))=H6 at s6 g6 ⊢
   refine ⟨_,rfl,_,rfl,N,_,_,_,rfl,rfl,ao.of (s6 _ _ gN),atx,_,rfl,_,rfl,p1,_,rfl,aq.of (s6 _ _ gp),pd _ _,fun a1 ha1=>?_⟩
   rw [vy]
   have s7:ah H6 (upd H6 a1 (.tup (V.str k :: r))):=af ha1 _
   have g7:(upd H6 a1 (.tup (V.str k :: r))) a1=some (.tup (V.str k :: r)):=ae
   generalize upd H6 a1 (.tup (V.str k :: r))=H7 at s7 g7 ⊢
   have s57:=aa s6 s7
   refine ⟨_,rfl,N,_,rfl,.inl (ao.of (s57 _ _ gN)),JB,fun a2 ha2=>?_⟩
   have s8:ah H7 (upd H7 a2 (.tup [.int (vn.length:Nat)])):=af ha2 _
   have g8:(upd H7 a2 (.tup [.int (vn.length:Nat)])) a2=some (.tup [.int (vn.length:Nat)]):=ae
   generalize upd H7 a2 (.tup [.int (vn.length:Nat)])=H8 at s8 g8 ⊢
   refine ⟨a1,a2,_,_,rfl,rfl,aq.of (s8 _ _ g7),aq.of g8,(fun z=>nomatch z),small (by show r.length + 1 + 1<=1000; omega),(fun z=>nomatch z),fun _ a3 ha3=>?_⟩
   have s9:ah H8 (upd H8 a3 (.tup ((V.str k :: r)++[.int (vn.length:Nat)]))):=af ha3 _
   have g9:(upd H8 a3 (.tup ((V.str k :: r)++[.int (vn.length:Nat)]))) a3=some (.tup ((V.str k :: r)++[.int (vn.length:Nat)])):=ae
   generalize upd H8 a3 (.tup ((V.str k :: r)++[.int (vn.length:Nat)]))=H9 at s9 g9 ⊢
   obtain ⟨z1,z2⟩:=mk (vn.length:Nat) ((nds.length:Int) + 1) H9 a3 (ah.tk (aa s5 (aa s57 (aa s8 s9)))) g9 (by omega) (by omega) (by omega)
   refine ⟨JB,fun l2 hl2=>?_⟩
   have sa:ah H9 (upd H9 l2 (.lst [.ref a3])):=af hl2 _
   have ga:(upd H9 l2 (.lst [.ref a3])) l2=some (.lst [.ref a3]):=ae
   generalize upd H9 l2 (.lst [.ref a3])=Ha at sa ga ⊢
   refine ⟨l1,l2,_,_,rfl,rfl,sa _ _ (s9 _ _ (s8 _ _ (s7 _ _ g6))),ga,(by rw [DM]; exact small (by show _ + 1<=1000; omega)),fun l3 hl3=>?_⟩
   have sb:ah Ha (upd Ha l3 (.lst (vn.take j++[.ref a3]))):=af hl3 _
   have gb:(upd Ha l3 (.lst (vn.take j++[.ref a3]))) l3=some (.lst (vn.take j++[.ref a3])):=ae
   generalize upd Ha l3 (.lst (vn.take j++[.ref a3]))=Hb at sb gb ⊢
   have s5b:=aa s57 (aa s8 (aa s9 (aa sa sb)))
   refine ⟨_,rfl,_,rfl,_,_,rfl,rfl,_,rfl,N,_,rfl,ao.of (s5b _ _ gN),fun l4 hl4=>?_⟩
   rw [show ((j:Nat):Int) + 1=((j + 1:Nat):Int) from rfl,c8 _ (by omega)]
   have sc:ah Hb (upd Hb l4 (.lst (vn.drop (j + 1)))):=af hl4 _
   have gc:(upd Hb l4 (.lst (vn.drop (j + 1)))) l4=some (.lst (vn.drop (j + 1))):=ae
   generalize upd Hb l4 (.lst (vn.drop (j + 1)))=Hc at sc gc ⊢
   refine ⟨l3,l4,_,_,rfl,rfl,sc _ _ gb,gc,(by rw [DE,DM,Ex]; exact small (by show _ + 1 + _<=1000; omega)),fun l5 hl5=>?_⟩
   have sd:ah Hc (upd Hc l5 (.lst (vn.take j++[.ref a3]++vn.drop (j + 1)))):=af hl5 _
   have gd:(upd Hc l5 (.lst (vn.take j++[.ref a3]++vn.drop (j + 1)))) l5=some (.lst (vn.take j++[.ref a3]++vn.drop (j + 1))):=ae
   generalize upd Hc l5 (.lst (vn.take j++[.ref a3]++vn.drop (j + 1)))=Hd at sd gd ⊢
   refine ⟨_,rfl,JB,fun l6 hl6=>?_⟩
   have se:ah Hd (upd Hd l6 (.lst [.ref ib])):=af hl6 _
   have ge:(upd Hd l6 (.lst [.ref ib])) l6=some (.lst [.ref ib]):=ae
   generalize upd Hd l6 (.lst [.ref ib])=He at se ge ⊢
   have len5:=eA (l:=vn) (x:=V.ref a3) hj
   refine ⟨l5,l6,_,_,rfl,rfl,se _ _ gd,ge,(by show (gY vn j (.ref a3)).length + 1<=_; rw [len5]; exact small (by omega)),fun N9 hN9=>?_⟩
   have sf:ah He (upd He N9 (.lst (vn.take j++[.ref a3]++vn.drop (j + 1)++[.ref ib]))):=af hN9 _
   have gf:(upd He N9 (.lst (vn.take j++[.ref a3]++vn.drop (j + 1)++[.ref ib]))) N9=some (.lst (vn.take j++[.ref a3]++vn.drop (j + 1)++[.ref ib])):=ae
   generalize upd He N9 (.lst (vn.take j++[.ref a3]++vn.drop (j + 1)++[.ref ib]))=Hf at sf gf ⊢
   refine ⟨JD,fun p9 hp9=>?_⟩
   have s9f:=aa sa (aa sb (aa sc (aa sd (aa se sf))))
   have s5f:=aa s5b (aa sc (aa sd (aa se sf)))
   have sz9:=af hp9 (.tup [.ref B,.ref I,.ref N9])
   have s09:=aa s5 (aa s5f sz9)
   have mono:∀x∈nds,x.good (· ∈ bs.map (·.1)) ((nds.length:Int) + 1) d:=fun x hx=>(pg.gd x hx).mono (by omega) (DJ _)
   have ll:(gY nds j (e.lastTo (vn.length:Nat))++[eb]).length=nds.length + 1:=by rw [DE,eA (by omega)]; rfl
   refine q (.ref p9) _ (gY nds j (e.lastTo (vn.length:Nat))++[eb]) s09 ⟨p9,B,I,N9,vb,_,rfl,ae,s09 _ _ hB,s09 _ _ hI,sz9 _ _ gf,Paired.mapP pb fun a b h=>Tp.keep (ah.tk s09) h,Paired.app (Paired.gY j (Paired.mapP pn fun a b h=>aZ.keep (ah.tk s09) h) (z1.keep (ah.tk (aa s9f sz9)))) (.cons (ni.keep (ah.tk (aa s5f sz9))) .nil)⟩ ⟨pg.nd,pg.l3,pg.sz,pg.ind,pg.sub,by omega,by omega,fun x hx=>?_⟩
   rw [ll]
   rcases List.mem_append.mp hx with hx | hx
   · rcases iH hx with hx | rfl
     · exact mono x hx
     · exact z2
   · rw [List.mem_singleton.mp hx]
     exact ng.mono (by omega) (DJ _)
theorem sO (s:Src K mg "_law_idle" sIdle)(m_len:mg "len"=none)(m_list:mg "list"=none):aF P w K mg base "_law_idle" ["program","number"] 1 jr:=
 let ⟨f,fd,F,m⟩:=s
 ⟨f,fd,v9 F m_len m_list,F.kp,cu F fun _ _ _ _ _ _ _ _=>rfl,m⟩
end
end TW
set_option Elab.async false
set_option linter.all false
set_option maxRecDepth 100000
set_option exponentiation.threshold 4000
set_option maxHeartbeats 1000000
namespace TW
open PySem L2
section
variable {P:Program}{w:World}{K:DA}{mg:Str->Option Value}{base:Heap}
/-! ### _law_spoilt -/
def d6:Sp:=fun vs H Q _=>∃(v:V) (n:Int) (bs:List (Str×Int)) (ins:List Str) (nds:List Nd) (F:Int) (d:Nat),vs=[v,.int n]/\aI H v bs ins nds/\Pg bs ins nds F d/\F<=100/\1<=d/\∀(v':V) (H':Hp) (nds':List Nd),ah H H'->aI H' v' bs ins nds'->Pg bs ins nds' (F) (d + 1)->Q v' H'
theorem bI:au ["program","number","boxes","inputs","nodes","at","node"] ["program","number"] (ag sSpoilt):=⟨rfl,rfl,rfl,by decide +kernel,rfl,by decide +kernel,by decide +kernel⟩
theorem lY:(ag sSpoilt).names.lookup (DD "len")=some .globalImplicit:=by decide +kernel
theorem qV {f:Addr}{fd:FuncData}(F:cB K "_law_spoilt" "_law_spoilt" sSpoilt f fd)(m_len:mg "len"=none):aL P w K mg base CX0 1 f fd ["program","number"] d6:=by
 refine F.ok bI (fun vs H Q E h=>?_) (fun cdv A outer s H vs Q E hr h=>?_)
 · obtain ⟨v,n,bs,ins,nds,F,d,rfl,_⟩:=h
   rfl
 · obtain ⟨v,n,bs,ins,nds,F,d,rfl,pa,pg,hF,hd,q⟩:=h
   refine fI ⟨_,(G3 (HP (GY 0) (HG 3 (Hl (Hh 2 bI.nd) (Hl (Hh 3 bI.nd) (Hl (Hh 4 bI.nd) HH)))))
     (G3 (G9 5 bI.nd (G4 Hq (GY 1) (Hv Hz lY m_len DQ (GZ (GY 4) G0))))
     (G3 (G9 6 bI.nd (G2 Hm (GY 4) (GY 5)))
     (G3 (Hn (Hk Hw (G2 G5 (GY 6) G1) G7) (G6 (G9 6 bI.nd (G8 (GZ G7 (GZ (G8 (GZ G7 (GZ (G2 G5 (GY 6) G1) (GZ (G8 (GZ G7 (GZ (G4 Hq (G4 HJ (GY 1) G1) G1) G0))) G0)))) (GZ (G2 G5 (GY 6) G1) G0)))))) (G6 (Hn (Hk Hw (G2 G5 (GY 6) G1) G7) (G6 (G9 6 bI.nd (G8 (GZ G7 (GZ (G2 G5 (GY 6) G1) (GZ (G8 (GZ G7 (GZ (G2 G5 (GY 6) G1) (GZ (G8 (GZ G7 (GZ (G4 HF G1 (G4 Hq (G4 HJ (GY 1) G1) G1)) G0))) G0)))) (GZ (G2 G5 (GY 6) G1) G0))))))) (G6 (Hn (Hk Hw (G2 G5 (GY 6) G1) G7) (G6 (G9 6 bI.nd (G8 (GZ G7 (GZ (G8 (GZ G7 (GZ (G2 G5 (GY 6) G1) G0))) (GZ (G2 G5 (GY 6) G1) (GZ (G2 G5 (GY 6) G1) G0))))))) (G6 (G9 6 bI.nd (G2 Hm (Hy (GZ (G8 (GZ G7 (GZ (G8 (GZ G7 (GZ G1 G0))) (GZ (GY 5) G0)))) (GZ (G8 (GZ G7 (GZ (G8 (GZ G7 G0)) (GZ (GY 5) (GZ (GY 5) G0))))) G0))) (G4 Hq (G4 HJ (GY 1) G1) G1)))))))))
     (G6 (Hi (G8 (GZ (GY 2) (GZ (GY 3) (GZ (G4 HN (G4 HN (Im (GY 4) (GY 5)) (Hy (GZ (GY 6) G0))) (Io (GY 4) (G4 HF (GY 5) G1))) G0)))))))))),?_⟩
   obtain ⟨p,B,I,N,vb,vn,rfl,hp,hB,hI,hN,pb,pn⟩:=pa
   have hvn:vn.length=nds.length:=Paired.length pn
   have n1:=pg.one
   have nF:=pg.few
   refine eB fun Rk kR=>?_
   refine ⟨_,rfl,p,_,rfl,aq.of hp,rfl,_,_,rfl,_,_,rfl,_,_,rfl,rfl,?_⟩
   obtain ⟨m,em,m0⟩ : ∃m:Int,m=(vn.length:Int)/\0 < m:=⟨_,rfl,by omega⟩
   obtain ⟨j,ej,hj,x,hx,atx⟩:=oE (n:=n) em m0
   refine ⟨_,rfl,_,rfl,N,_,rfl,.inl (ao.of hN),_,_,rfl,rfl,(by rw [← em]; exact m0),?_⟩
   refine aw ?_
   refine kR _ _ ?_
   refine bP [some (.ref p),some (.int n),some (.ref B),some (.ref I),some (.ref N),some (.int (j:Nat)),none] (by rw [← ej,em]; rfl) ?_
   rw [ej] at atx
   obtain ⟨e,he,ne⟩:=Paired.get pn hx
   have egd:=pg.gd e (DR he)
   clear kR ej

   refine eB fun Rk kR=>?_
   refine ⟨_,rfl,_,rfl,N,_,_,_,rfl,rfl,ao.of hN,atx,?_⟩
   suffices hs:∀(H5:Hp) (ib:Addr) (eb:Nd),ah H H5->aZ H5 (.ref ib) eb->eb.good (· ∈ bs.map (·.1)) nds.length (d + 1)->Rk [some (.ref p),some (.int n),some (.ref B),some (.ref I),some (.ref N),some (.int (j:Nat)),some (.ref ib)] H5 by
     refine aw ?_
     have jn:(j:Int) < (nds.length:Int):=by omega
     cases e with
     | say e n0=>
       obtain ⟨u,⟨p1,rfl,hp1⟩,a⟩:=ne
       obtain ⟨g2,g3,g4,g5,g6⟩:=egd
       refine ⟨_,rfl,p1,_,_,_,rfl,rfl,aq.of hp1,rfl,rfl,_,rfl,cN ?_⟩

       refine ⟨_,rfl,p1,_,_,_,rfl,rfl,aq.of hp1,rfl,_,rfl,_,_,rfl,rfl,⟨(by show (0:Int) < 8; decide),(by show (8:Int) < 2 ^ 1000; decide +kernel)⟩,_,_,rfl,rfl,(by show (0:Int) < 2; decide),JC,fun o1 ho1=>?_⟩
       have s1:ah H (upd H o1 (.tup [.str "number",.int (n / 8 % 2)])):=af ho1 _
       have g1:(upd H o1 (.tup [.str "number",.int (n / 8 % 2)])) o1=some (.tup [.str "number",.int (n / 8 % 2)]):=ae
       generalize upd H o1 (.tup [.str "number",.int (n / 8 % 2)])=H1 at s1 g1 ⊢
       refine ⟨JD,fun o2 ho2=>?_⟩
       have s2:ah H1 (upd H1 o2 (.tup [.str "plus",u,.ref o1])):=af ho2 _
       have g2x:(upd H1 o2 (.tup [.str "plus",u,.ref o1])) o2=some (.tup [.str "plus",u,.ref o1]):=ae
       generalize upd H1 o2 (.tup [.str "plus",u,.ref o1])=H2 at s2 g2x ⊢
       refine ⟨_,rfl,p1,_,_,_,rfl,rfl,aq.of (s2 _ _ (s1 _ _ hp1)),rfl,JD,fun o3 ho3=>?_⟩
       have s3:ah H2 (upd H2 o3 (.tup [.str "say",.ref o2,.int n0])):=af ho3 _
       have g3x:(upd H2 o3 (.tup [.str "say",.ref o2,.int n0])) o3=some (.tup [.str "say",.ref o2,.int n0]):=ae
       generalize upd H2 o3 (.tup [.str "say",.ref o2,.int n0])=H3 at s3 g3x ⊢
       have s03:=aa s1 (aa s2 s3)
       refine aw ?_
       exact hs _ o3 (.say (.two .plus e (.num (n / 8 % 2))) n0) s03 ⟨.ref o2,⟨o3,rfl,g3x⟩,u,.ref o1,⟨o2,rfl,s3 _ _ g2x⟩,a.keep (ah.tk s03),⟨o1,rfl,s3 _ _ (s2 _ _ g1)⟩⟩ ⟨⟨g2,DV⟩,⟨g3,jq (by decide) (by decide)⟩,(by show max e.dep 0 + 1<=d + 1; omega),g5,g6⟩
     | put y e n0=>
       obtain ⟨u,⟨p1,rfl,hp1⟩,a⟩:=ne
       obtain ⟨g1',g2,g3,g4,g5,g6⟩:=egd
       refine ⟨_,rfl,p1,_,_,_,rfl,rfl,aq.of hp1,rfl,rfl,_,rfl,iteF' (by decide) ?_⟩
       refine ⟨_,rfl,p1,_,_,_,rfl,rfl,aq.of hp1,rfl,rfl,_,rfl,cN ?_⟩

       refine ⟨_,rfl,p1,_,_,_,rfl,rfl,aq.of hp1,rfl,_,rfl,p1,_,_,_,rfl,rfl,aq.of hp1,rfl,_,rfl,_,_,rfl,rfl,⟨(by show (0:Int) < 8; decide),(by show (8:Int) < 2 ^ 1000; decide +kernel)⟩,_,_,rfl,rfl,(by show (0:Int) < 2; decide),_,_,rfl,rfl,JC,fun o1 ho1=>?_⟩
       have s1:ah H (upd H o1 (.tup [.str "number",.int (1 + n / 8 % 2)])):=af ho1 _
       have g1:(upd H o1 (.tup [.str "number",.int (1 + n / 8 % 2)])) o1=some (.tup [.str "number",.int (1 + n / 8 % 2)]):=ae
       generalize upd H o1 (.tup [.str "number",.int (1 + n / 8 % 2)])=H1 at s1 g1 ⊢
       refine ⟨JD,fun o2 ho2=>?_⟩
       have s2:ah H1 (upd H1 o2 (.tup [.str "plus",u,.ref o1])):=af ho2 _
       have g2x:(upd H1 o2 (.tup [.str "plus",u,.ref o1])) o2=some (.tup [.str "plus",u,.ref o1]):=ae
       generalize upd H1 o2 (.tup [.str "plus",u,.ref o1])=H2 at s2 g2x ⊢
       refine ⟨_,rfl,p1,_,_,_,rfl,rfl,aq.of (s2 _ _ (s1 _ _ hp1)),rfl,JE,fun o3 ho3=>?_⟩
       have s3:ah H2 (upd H2 o3 (.tup [.str "put",.str y,.ref o2,.int n0])):=af ho3 _
       have g3x:(upd H2 o3 (.tup [.str "put",.str y,.ref o2,.int n0])) o3=some (.tup [.str "put",.str y,.ref o2,.int n0]):=ae
       generalize upd H2 o3 (.tup [.str "put",.str y,.ref o2,.int n0])=H3 at s3 g3x ⊢
       have s03:=aa s1 (aa s2 s3)
       refine aw ?_
       exact hs _ o3 (.put y (.two .plus e (.num (1 + n / 8 % 2))) n0) s03 ⟨.ref o2,⟨o3,rfl,g3x⟩,u,.ref o1,⟨o2,rfl,s3 _ _ g2x⟩,a.keep (ah.tk s03),⟨o1,rfl,s3 _ _ (s2 _ _ g1)⟩⟩ ⟨g1',⟨g2,DV⟩,⟨g3,(by show (1 + n / 8 % 2).natAbs < 2 ^ 100; omega)⟩,(by show max e.dep 0 + 1<=d + 1; omega),g5,g6⟩
     | test e n0 o0=>
       obtain ⟨u,⟨p1,rfl,hp1⟩,a⟩:=ne
       obtain ⟨g2,g3,g4,g5,g6,g7,g8⟩:=egd
       refine ⟨_,rfl,p1,_,_,_,rfl,rfl,aq.of hp1,rfl,rfl,_,rfl,iteF' (by decide) ?_⟩
       refine ⟨_,rfl,p1,_,_,_,rfl,rfl,aq.of hp1,rfl,rfl,_,rfl,iteF' (by decide) ?_⟩
       refine ⟨_,rfl,p1,_,_,_,rfl,rfl,aq.of hp1,rfl,rfl,_,rfl,cN ?_⟩

       refine ⟨_,rfl,p1,_,_,_,rfl,rfl,aq.of hp1,rfl,JC,fun o2 ho2=>?_⟩
       have s2:ah H (upd H o2 (.tup [.str "not",u])):=af ho2 _
       have g2x:(upd H o2 (.tup [.str "not",u])) o2=some (.tup [.str "not",u]):=ae
       generalize upd H o2 (.tup [.str "not",u])=H2 at s2 g2x ⊢
       refine ⟨_,rfl,p1,_,_,_,rfl,rfl,aq.of (s2 _ _ hp1),rfl,_,rfl,p1,_,_,_,rfl,rfl,aq.of (s2 _ _ hp1),rfl,JE,fun o3 ho3=>?_⟩
       have s3:ah H2 (upd H2 o3 (.tup [.str "test",.ref o2,.int n0,.int o0])):=af ho3 _
       have g3x:(upd H2 o3 (.tup [.str "test",.ref o2,.int n0,.int o0])) o3=some (.tup [.str "test",.ref o2,.int n0,.int o0]):=ae
       generalize upd H2 o3 (.tup [.str "test",.ref o2,.int n0,.int o0])=H3 at s3 g3x ⊢
       have s03:=aa s2 s3
       refine aw ?_
       exact hs _ o3 (.test (.nt e) n0 o0) s03 ⟨.ref o2,⟨o3,rfl,g3x⟩,u,⟨o2,rfl,s3 _ _ g2x⟩,a.keep (ah.tk s03)⟩ ⟨g2,g3,(by show e.dep + 1<=d + 1; omega),g5,g6,g7,g8⟩
     | fin=>
       obtain ⟨p1,rfl,hp1⟩:=ne
       refine ⟨_,rfl,p1,_,_,_,rfl,rfl,aq.of hp1,rfl,rfl,_,rfl,iteF' (by decide) ?_⟩
       refine ⟨_,rfl,p1,_,_,_,rfl,rfl,aq.of hp1,rfl,rfl,_,rfl,iteF' (by decide) ?_⟩
       refine ⟨_,rfl,p1,_,_,_,rfl,rfl,aq.of hp1,rfl,rfl,_,rfl,iteF' (by decide) ?_⟩

       refine ⟨JC,fun o1 ho1=>?_⟩
       have s1:ah H (upd H o1 (.tup [.str "number",.int 0])):=af ho1 _
       have g1:(upd H o1 (.tup [.str "number",.int 0])) o1=some (.tup [.str "number",.int 0]):=ae
       generalize upd H o1 (.tup [.str "number",.int 0])=H1 at s1 g1 ⊢
       refine ⟨_,rfl,JD,fun o2 ho2=>?_⟩
       have s2:ah H1 (upd H1 o2 (.tup [.str "say",.ref o1,.int (j:Nat)])):=af ho2 _
       have g2x:(upd H1 o2 (.tup [.str "say",.ref o1,.int (j:Nat)])) o2=some (.tup [.str "say",.ref o1,.int (j:Nat)]):=ae
       generalize upd H1 o2 (.tup [.str "say",.ref o1,.int (j:Nat)])=H2 at s2 g2x ⊢
       refine ⟨JB,fun o3 ho3=>?_⟩
       have s3:ah H2 (upd H2 o3 (.tup [.str "yes"])):=af ho3 _
       have g3x:(upd H2 o3 (.tup [.str "yes"])) o3=some (.tup [.str "yes"]):=ae
       generalize upd H2 o3 (.tup [.str "yes"])=H3 at s3 g3x ⊢
       refine ⟨_,rfl,_,rfl,JE,fun o4 ho4=>?_⟩
       have s4:ah H3 (upd H3 o4 (.tup [.str "test",.ref o3,.int (j:Nat),.int (j:Nat)])):=af ho4 _
       have g4x:(upd H3 o4 (.tup [.str "test",.ref o3,.int (j:Nat),.int (j:Nat)])) o4=some (.tup [.str "test",.ref o3,.int (j:Nat),.int (j:Nat)]):=ae
       generalize upd H3 o4 (.tup [.str "test",.ref o3,.int (j:Nat),.int (j:Nat)])=H4 at s4 g4x ⊢
       refine ⟨JC,fun lo hlo=>?_⟩
       have s5:ah H4 (upd H4 lo (.lst [.ref o2,.ref o4])):=af hlo _
       have g5x:(upd H4 lo (.lst [.ref o2,.ref o4])) lo=some (.lst [.ref o2,.ref o4]):=ae
       generalize upd H4 lo (.lst [.ref o2,.ref o4])=H5 at s5 g5x ⊢
       have s05:=aa s1 (aa s2 (aa s3 (aa s4 s5)))
       have s25:=aa s3 (aa s4 s5)
       obtain ⟨xx,hat,ob,rfl,eb,nb,gb⟩:=iz (P:=fun xx=>∃(ob:Addr),xx=.ref ob/\∃eb:Nd,aZ H5 (.ref ob) eb/\eb.good (· ∈ bs.map (·.1)) nds.length (d + 1)) (xs:=[.ref o2,.ref o4]) (r:=n / 8 % 2) (by omega) (by show n / 8 % 2 < 2; omega) (fun xx hxx=>by
         rcases List.mem_cons.mp hxx with rfl | hxx
         · exact ⟨_,rfl,.say (.num 0) (j:Nat),⟨.ref o1,⟨o2,rfl,s25 _ _ g2x⟩,⟨o1,rfl,s25 _ _ (s2 _ _ g1)⟩⟩,⟨DV,(by show (0:Int).natAbs < 2 ^ 100; decide),Ep _,by omega,jn⟩⟩
         rw [List.mem_singleton.mp hxx]
         exact ⟨_,rfl,.test .yes (j:Nat) (j:Nat),⟨.ref o3,⟨o4,rfl,s5 _ _ g4x⟩,⟨o3,rfl,s5 _ _ (s4 _ _ g3x)⟩⟩,⟨DV,DV,Ep _,by omega,jn,by omega,jn⟩⟩)
       refine ⟨_,rfl,_,_,rfl,rfl,⟨(by show (0:Int) < 8; decide),(by show (8:Int) < 2 ^ 1000; decide +kernel)⟩,_,_,rfl,rfl,(by show (0:Int) < 2; decide),lo,_,_,_,rfl,rfl,ao.of g5x,hat,?_⟩
       refine aw ?_
       exact hs _ ob eb s05 nb gb
   intro H5 ib eb s5 ni ng
   refine kR _ _ ?_
   clear kR
   have gN:=s5 _ _ hN
   refine ⟨_,rfl,_,rfl,_,rfl,_,rfl,_,rfl,N,_,rfl,ao.of gN,fun l1 hl1=>?_⟩
   rw [eT _ (by omega)]
   have s6:ah H5 (upd H5 l1 (.lst (vn.take j))):=af hl1 _
   have g6:(upd H5 l1 (.lst (vn.take j))) l1=some (.lst (vn.take j)):=ae
   generalize upd H5 l1 (.lst (vn.take j))=H6 at s6 g6 ⊢
   refine ⟨_,rfl,JB,fun l2 hl2=>?_⟩
   have sa:ah H6 (upd H6 l2 (.lst [.ref ib])):=af hl2 _
   have ga:(upd H6 l2 (.lst [.ref ib])) l2=some (.lst [.ref ib]):=ae
   generalize upd H6 l2 (.lst [.ref ib])=Ha at sa ga ⊢
   refine ⟨l1,l2,_,_,rfl,rfl,sa _ _ g6,ga,(by rw [DM]; exact small (by show _ + 1<=1000; omega)),fun l3 hl3=>?_⟩
   have sb:ah Ha (upd Ha l3 (.lst (vn.take j++[.ref ib]))):=af hl3 _
   have gb:(upd Ha l3 (.lst (vn.take j++[.ref ib]))) l3=some (.lst (vn.take j++[.ref ib])):=ae
   generalize upd Ha l3 (.lst (vn.take j++[.ref ib]))=Hb at sb gb ⊢
   have s5b:=aa s6 (aa sa sb)
   refine ⟨_,rfl,_,rfl,_,_,rfl,rfl,_,rfl,N,_,rfl,ao.of (s5b _ _ gN),fun l4 hl4=>?_⟩
   rw [show ((j:Nat):Int) + 1=((j + 1:Nat):Int) from rfl,c8 _ (by omega)]
   have sc:ah Hb (upd Hb l4 (.lst (vn.drop (j + 1)))):=af hl4 _
   have gc:(upd Hb l4 (.lst (vn.drop (j + 1)))) l4=some (.lst (vn.drop (j + 1))):=ae
   generalize upd Hb l4 (.lst (vn.drop (j + 1)))=Hc at sc gc ⊢
   refine ⟨l3,l4,_,_,rfl,rfl,sc _ _ gb,gc,(by rw [DE,DM,Ex]; exact small (by show _ + 1 + _<=1000; omega)),fun N9 hN9=>?_⟩
   have sd:ah Hc (upd Hc N9 (.lst (vn.take j++[.ref ib]++vn.drop (j + 1)))):=af hN9 _
   have gd:(upd Hc N9 (.lst (vn.take j++[.ref ib]++vn.drop (j + 1)))) N9=some (.lst (vn.take j++[.ref ib]++vn.drop (j + 1))):=ae
   generalize upd Hc N9 (.lst (vn.take j++[.ref ib]++vn.drop (j + 1)))=Hd at sd gd ⊢
   refine ⟨JD,fun p9 hp9=>?_⟩
   have s5d:=aa s5b (aa sc sd)
   have sz9:=af hp9 (.tup [.ref B,.ref I,.ref N9])
   have s09:=aa s5 (aa s5d sz9)
   have ll:(gY nds j eb).length=nds.length:=eA (by omega)
   refine q (.ref p9) _ (gY nds j eb) s09 ⟨p9,B,I,N9,vb,_,rfl,ae,s09 _ _ hB,s09 _ _ hI,sz9 _ _ gd,Paired.mapP pb fun a b h=>Tp.keep (ah.tk s09) h,Paired.gY j (Paired.mapP pn fun a b h=>aZ.keep (ah.tk s09) h) (ni.keep (ah.tk (aa s5d sz9)))⟩ ⟨pg.nd,pg.l3,pg.sz,pg.ind,pg.sub,by omega,by omega,fun x hx=>?_⟩
   rw [ll]
   rcases iH hx with hx | rfl
   · exact (pg.gd x hx).mono (E4 _) (Nat.le_succ d)
   · exact ng
theorem nD (s:Src K mg "_law_spoilt" sSpoilt)(m_len:mg "len"=none):aF P w K mg base "_law_spoilt" ["program","number"] 1 d6:=
 let ⟨f,fd,F,m⟩:=s
 ⟨f,fd,qV F m_len,F.kp,cu F fun _ _ _ _ _ _ _ _=>rfl,m⟩
end
end TW
set_option Elab.async false
set_option linter.all false
set_option maxRecDepth 100000
set_option exponentiation.threshold 4000
set_option maxHeartbeats 1000000
namespace TW
open PySem L2
section
variable {P:Program}{w:World}{K:DA}{mg:Str->Option Value}{base:Heap}
abbrev sBoxed:Stmt:=top 33
theorem Nd.good.names {Pn Qn:Str->Prop}{m:Int}{d:Nat}(f:∀x,Pn x->Qn x):∀{e:Nd},e.good Pn m d->e.good Qn m d
 | .put _ _ _,⟨a,b,c,x,y,z⟩=>⟨f _ a,b,E.okIn.imp (fun _ _ q=>⟨q.1,f _ q.2⟩) c,x,y,z⟩
 | .say _ _,⟨b,c,x,y,z⟩=>⟨b,E.okIn.imp (fun _ _ q=>⟨q.1,f _ q.2⟩) c,x,y,z⟩
 | .test _ _ _,⟨b,c,x,y,z,u,v⟩=>⟨b,E.okIn.imp (fun _ _ q=>⟨q.1,f _ q.2⟩) c,x,y,z,u,v⟩
 | .fin,_=>DV
def pT (ins:List Str)(bs bs':List (Str×Int)):Prop:=∀b∈bs,b.1∈ins->b∈bs'
def xH (pre:List (Str×Int)->Prop)(k:Int):Sp:=fun vs H Q _=>∃(v:V) (n:Int) (bs:List (Str×Int)) (ins:List Str) (nds:List Nd) (F:Int) (d:Nat),vs=[v,.int n]/\aI H v bs ins nds/\Pg bs ins nds F d/\F<=100/\1<=d/\pre bs/\∀(v':V) (H':Hp) (bs':List (Str×Int)) (nds':List Nd),ah H H'->aI H' v' bs' ins nds'->Pg bs' ins nds' (F + k) d->pT ins bs bs'->Q v' H'
/-! ### _law_boxed -/
abbrev spBoxed:Sp:=xH (fun bs=>bs.length<=2/\("zed":Str) ∉ bs.map (·.1)) 1
theorem cS:au ["program","number","boxes","inputs","nodes","at","few","more","put"] ["program","number"] (ag sBoxed):=⟨rfl,rfl,rfl,by decide +kernel,rfl,by decide +kernel,by decide +kernel⟩
theorem m4:(ag sBoxed).names.lookup (DD "int")=some .globalImplicit:=by decide +kernel
theorem eV:(ag sBoxed).names.lookup (DD "len")=some .globalImplicit:=by decide +kernel
theorem lM:(ag sBoxed).names.lookup (DD "list")=some .globalImplicit:=by decide +kernel
theorem m5:(ag sBoxed).names.lookup (DD "sum")=some .globalImplicit:=by decide +kernel
theorem tX {f:Addr}{fd:FuncData}(F:cB K "_law_boxed" "_law_boxed" sBoxed f fd)(m_len:mg "len"=none)(m_list:mg "list"=none)(m_int:mg "int"=none)(m_sum:mg "sum"=none):aL P w K mg base CX0 1 f fd ["program","number"] spBoxed:=by
 refine F.ok cS (fun vs H Q E h=>?_) (fun cdv A outer s H vs Q E hr h=>?_)
 · obtain ⟨v,n,bs,ins,nds,F,d,rfl,_⟩:=h
   rfl
 · obtain ⟨v,n,bs,ins,nds,F,d,rfl,pa,pg,hF,hd,⟨l2b,nz⟩,q⟩:=h
   refine fI ⟨_,(G3 (HP (GY 0) (HG 3 (Hl (Hh 2 cS.nd) (Hl (Hh 3 cS.nd) (Hl (Hh 4 cS.nd) HH)))))
     (G3 (G9 5 cS.nd (G4 Hq (GY 1) (Hv Hz eV m_len DQ (GZ (GY 4) G0))))
     (G3 (G9 6 cS.nd (HI Ib m4 m_int (by decide +kernel) (GZ (Iv (HK HL (Hv L3.xj m5 m_sum (by decide +kernel) (GZ (HZ [none,none] ["name","size"] (show aA _ (ag sBoxed) from ⟨rfl,by decide +kernel,by decide +kernel,by decide +kernel⟩) (by rfl) (HQ (GY 2)) (fun _ _ _ _ _=>⟨(HG 2 (Hl (Hh 0 (show (["name","size"]:List Str).Nodup from by decide +kernel)) (Hl (Hh 1 (show (["name","size"]:List Str).Nodup from by decide +kernel)) HH))),HU,(GY 1)⟩)) G0)) G1) (L3.wz (HK HL (Hv Hz eV m_len DQ (GZ (GY 2) G0)) G1))) G0)))
     (G3 (G9 7 cS.nd (G4 HN (GY 2) (Hy (GZ (G8 (GZ G7 (GZ (G4 HF G1 (G4 Ie (G4 Hq (G4 HJ (GY 1) G1) G1) (GY 6))) G0))) G0))))
     (G3 (Hn (Hk Hw (G2 G5 (G2 Hm (GY 4) (GY 5)) G1) G7) (G6 (Hi (G8 (GZ (GY 7) (GZ (GY 3) (GZ (HI HX lM m_list (by decide +kernel) (GZ (GY 4) G0)) G0)))))) Ho)
     (G3 (G9 8 cS.nd (G8 (GZ G7 (GZ G7 (GZ (G8 (GZ G7 (GZ (G8 (GZ G7 (GZ G7 G0))) (GZ (G8 (GZ G7 (GZ G1 G0))) G0)))) (GZ (G2 G5 (G2 Hm (GY 4) (GY 5)) (H0 G1)) G0))))))
     (G6 (Hi (G8 (GZ (GY 7) (GZ (GY 3) (GZ (G4 HN (G4 HN (G4 HN (Im (GY 4) (GY 5)) (Hy (GZ (G4 Ia (Iu (G2 Hm (GY 4) (GY 5)) (H0 G1)) (G8 (GZ (Hv Hz eV m_len DQ (GZ (GY 4) G0)) G0))) G0))) (Io (GY 4) (G4 HF (GY 5) G1))) (Hy (GZ (GY 8) G0))) G0)))))))))))),?_⟩
   obtain ⟨p,B,I,N,vb,vn,rfl,hp,hB,hI,hN,pb,pn⟩:=pa
   have hvn:vn.length=nds.length:=Paired.length pn
   have n1:=pg.one
   have nF:=pg.few
   refine eB fun Rk kR=>?_
   refine ⟨_,rfl,p,_,rfl,aq.of hp,rfl,_,_,rfl,_,_,rfl,_,_,rfl,rfl,?_⟩
   obtain ⟨m,em,m0⟩ : ∃m:Int,m=(vn.length:Int)/\0 < m:=⟨_,rfl,by omega⟩
   obtain ⟨j,ej,hj,x,hx,atx⟩:=oE (n:=n) em m0
   refine ⟨_,rfl,_,rfl,N,_,rfl,.inl (ao.of hN),_,_,rfl,rfl,(by rw [← em]; exact m0),?_⟩
   refine aw ?_
   refine kR _ _ ?_
   refine bP [some (.ref p),some (.int n),some (.ref B),some (.ref I),some (.ref N),some (.int (j:Nat)),none,none,none] (by rw [← ej,em]; rfl) ?_
   rw [ej] at atx
   obtain ⟨e,he,ne⟩:=Paired.get pn hx
   have egd:=pg.gd e (DR he)
   clear kR ej

   have hvl:vb.length=bs.length:=Paired.length pb
   refine a8 fun Rk kR=>?_
   refine ⟨_,rfl,B,rfl,⟨_,ao.of hB⟩,fun na hna=>?_⟩
   have nba:B≠na:=ai hB hna
   refine bu (xs:=vb) (fun i H3=>H3=upd H na (.lst ((bs.take i).map fun b=>V.int b.2))) rfl (fun i H3 _ e=>?_) (fun i x H3 hx e=>?_) (fun H3 e=>?_)
   · subst e
     exact ao.of (by rw [aj nba]; exact hB)
   · subst e
     obtain ⟨b,hbi,p,rfl,hp⟩:=Paired.get pb hx
     have hil:i < vb.length:=(List.getElem?_eq_some_iff.mp hx).1
     refine ⟨p,_,rfl,aq.of (by rw [aj (ai hp hna)]; exact hp),rfl,_,_,rfl,_,_,rfl,rfl,?_⟩
     refine dk (A:=fun H3=>dR (oi 1) na _ H3 _) ⟨_,rfl,_,ae,aR (by rw [DC,DM]; omega),aM (Pv:=fun i H3=>H3=upd H na (.lst ((bs.take i).map fun b=>V.int b.2))) (by repeat' constructor) hil ?_⟩
     rw [bE]
     congr 2
     rw [D1,hbi,DS]
     rfl
   subst e
   have et:(bs.take vb.length).map (fun b=>V.int b.2)=(bs.map (·.2)).map V.int:=by rw [hvl,Ec,EV]; rfl
   rw [et]
   have s1:ah H (upd H na (.lst ((bs.map (·.2)).map V.int))):=af hna _
   have g1:(upd H na (.lst ((bs.map (·.2)).map V.int))) na=some (.lst ((bs.map (·.2)).map V.int)):=ae
   generalize upd H na (.lst ((bs.map (·.2)).map V.int))=H1 at s1 g1 ⊢
   refine ⟨na,_,rfl,ao.of g1,?_⟩
   generalize (bs.map (·.2)).sum=sm
   refine ⟨_,_,rfl,rfl,_,rfl,?_⟩

   suffices hs:∀few:Int,0<=few->few<=1->Rk [some (.ref p),some (.int n),some (.ref B),some (.ref I),some (.ref N),some (.int (j:Nat)),some (.int few),none,none] H1 by
     refine az (fun c1=>?_) (fun c1=>?_)
     · refine ⟨_,rfl,B,_,rfl,.inl (ao.of (s1 _ _ hB)),_,_,rfl,rfl,.inr ⟨_,rfl,?_⟩⟩
       refine aw ?_
       refine hs _ ?_ ?_ <;> split <;> decide
     · refine .inr ⟨_,rfl,?_⟩
       refine aw ?_
       exact hs 0 (by decide) (by decide)
   intro few f0 f1
   refine kR _ _ ?_
   clear kR
   refine a8 fun Rk kR=>?_
   have fb:(-(2 ^ 64):Int) < few/\few < 2 ^ 64:=by omega
   refine ⟨_,rfl,_,rfl,_,_,rfl,rfl,⟨(by show (0:Int) < 8; decide),(by show (8:Int) < 2 ^ 1000; decide +kernel)⟩,_,_,rfl,rfl,(by show (0:Int) < 2; decide),_,rfl,_,_,rfl,rfl,.inr fb,_,_,rfl,rfl,JC,fun oz hoz=>?_⟩
   have bsz:1<=1 + n / 8 % 2 * few/\1 + n / 8 % 2 * few<=6:=by
     rcases (show few=0\/few=1 by omega) with rfl | rfl <;> omega
   have s2:ah H1 (upd H1 oz (.tup [.str "zed",.int (1 + n / 8 % 2 * few)])):=af hoz _
   have g2:(upd H1 oz (.tup [.str "zed",.int (1 + n / 8 % 2 * few)])) oz=some (.tup [.str "zed",.int (1 + n / 8 % 2 * few)]):=ae
   generalize upd H1 oz (.tup [.str "zed",.int (1 + n / 8 % 2 * few)])=H2 at s2 g2 ⊢
   generalize 1 + n / 8 % 2 * few=zs at bsz g2
   refine ⟨JB,fun lz hlz=>?_⟩
   have s3:ah H2 (upd H2 lz (.lst [.ref oz])):=af hlz _
   have g3:(upd H2 lz (.lst [.ref oz])) lz=some (.lst [.ref oz]):=ae
   generalize upd H2 lz (.lst [.ref oz])=H3 at s3 g3 ⊢
   have s13:=aa s2 s3
   have gB3:=s13 _ _ (s1 _ _ hB)
   refine ⟨B,lz,_,_,rfl,rfl,gB3,g3,small (by rw [hvl]; show _ + 1<=1000; omega),fun M hM=>?_⟩
   have s4:ah H3 (upd H3 M (.lst (vb++[.ref oz]))):=af hM _
   have g4:(upd H3 M (.lst (vb++[.ref oz]))) M=some (.lst (vb++[.ref oz])):=ae
   generalize upd H3 M (.lst (vb++[.ref oz]))=H4 at s4 g4 ⊢
   have s14:=aa s13 s4
   have s04:=aa s1 s14
   have pb4:Paired (cy H4) (vb++[.ref oz]) (bs++[(("zed":Str),zs)]):=Paired.app (Paired.mapP pb fun a b h=>Tp.keep (ah.tk s04) h) (.cons ⟨oz,rfl,s4 _ _ (s3 _ _ g2)⟩ .nil)
   have nmz:∀x,x∈bs.map (·.1)->x∈(bs++[(("zed":Str),zs)]).map (·.1):=fun x hx=>by rw [DS]; exact List.mem_append.mpr (.inl hx)
   have zin:("zed":Str)∈(bs++[(("zed":Str),zs)]).map (·.1):=by rw [DS]; exact List.mem_append.mpr (.inr Ef)
   have pgz:∀(nds':List Nd),1<=nds'.length->(nds'.length:Int)<=F + 1->(∀e∈nds',e.good (· ∈ (bs++[(("zed":Str),zs)]).map (·.1)) nds'.length d)->Pg (bs++[(("zed":Str),zs)]) ins nds' (F + 1) d:=fun nds' h1 h2 h3=>by
     refine ⟨?_,?_,fun b hb=>?_,pg.ind,fun x hx=>nmz x (pg.sub x hx),h1,h2,h3⟩
     · rw [DS,List.nodup_append]
       exact ⟨pg.nd,by simp,fun a ha b hb e=>by rw [List.mem_singleton.mp hb] at e; exact nz ((show a=("zed":Str) from e) ▸ ha)⟩
     · rw [DE]
       show bs.length + 1<=3
       omega
     · rcases List.mem_append.mp hb with hb | hb
       · exact pg.sz b hb
       · rw [List.mem_singleton.mp hb]; exact bsz
   have kin:pT ins bs (bs++[(("zed":Str),zs)]):=fun b hb _=>List.mem_append.mpr (.inl hb)
   have atx4:=atx
   have hN4:=s04 _ _ hN
   refine aw ?_
   refine kR _ _ ?_
   refine bP [some (.ref p),some (.int n),some (.ref B),some (.ref I),some (.ref N),some (.int (j:Nat)),some (.int few),some (.ref M),none] rfl ?_
   clear kR g1 s1 g2 s2 s3 s13 gB3 g3 s14
   have ne4:=aZ.keep (ah.tk s04) ne
   obtain ⟨p1,k1,r1,rfl,hp1,kf⟩:=ne4.kind
   refine a8 fun Rk kR=>?_
   refine ⟨_,rfl,_,rfl,N,_,_,_,rfl,rfl,ao.of hN4,atx,p1,_,_,_,rfl,rfl,aq.of hp1,ye,rfl,_,rfl,?_⟩
   refine az (fun c1=>?_) (fun c1=>?_)
   · refine ⟨_,rfl,_,rfl,_,rfl,N,_,rfl,.inl (ao.of hN4),fun N2 hN2=>?_⟩
     have s5:ah H4 (upd H4 N2 (.lst vn)):=af hN2 _
     have g5:(upd H4 N2 (.lst vn)) N2=some (.lst vn):=ae
     generalize upd H4 N2 (.lst vn)=H5 at s5 g5 ⊢
     refine ⟨JD,fun p9 hp9=>?_⟩
     have s2:=af hp9 (.tup [.ref M,.ref I,.ref N2])
     have s59:=aa s5 s2
     have s9:=aa s04 s59
     exact q (.ref p9) _ _ nds s9 ⟨p9,M,I,N2,_,vn,rfl,ae,s59 _ _ g4,s9 _ _ hI,s2 _ _ g5,Paired.mapP pb4 fun a b h=>Tp.keep (ah.tk s59) h,Paired.mapP pn fun a b h=>aZ.keep (ah.tk s9) h⟩ (pgz nds n1 (by omega) fun e he=>(pg.gd e he).names nmz) kin
   refine kR _ _ ?_
   clear kR
   have nf:e≠.fin:=fun z=>uN c1 (kf.mp z)
   obtain ⟨p2,k,r,to,ep,hp2,kne,r2,t0,t1,mk⟩:=ne4.last egd nf
   cases ep
   clear kf hp1 c1
   refine a8 fun Rk kR=>?_
   refine ⟨JC,fun o1 ho1=>?_⟩
   have s5:ah H4 (upd H4 o1 (.tup [.str "box",.str "zed"])):=af ho1 _
   have g5:(upd H4 o1 (.tup [.str "box",.str "zed"])) o1=some (.tup [.str "box",.str "zed"]):=ae
   generalize upd H4 o1 (.tup [.str "box",.str "zed"])=H5 at s5 g5 ⊢
   refine ⟨JC,fun o2 ho2=>?_⟩
   have s6:ah H5 (upd H5 o2 (.tup [.str "number",.int 1])):=af ho2 _
   have g6:(upd H5 o2 (.tup [.str "number",.int 1])) o2=some (.tup [.str "number",.int 1]):=ae
   generalize upd H5 o2 (.tup [.str "number",.int 1])=H6 at s6 g6 ⊢
   refine ⟨JD,fun o3 ho3=>?_⟩
   have s7:ah H6 (upd H6 o3 (.tup [.str "plus",.ref o1,.ref o2])):=af ho3 _
   have g7:(upd H6 o3 (.tup [.str "plus",.ref o1,.ref o2])) o3=some (.tup [.str "plus",.ref o1,.ref o2]):=ae
   generalize upd H6 o3 (.tup [.str "plus",.ref o1,.ref o2])=H7 at s7 g7 ⊢
   have s47:=aa s5 (aa s6 s7)
   refine ⟨_,rfl,_,rfl,N,_,_,_,rfl,rfl,ao.of (s47 _ _ hN4),atx,_,rfl,p1,_,_,_,rfl,rfl,aq.of (s47 _ _ hp2),iA _ _,JE,fun ib hib=>?_⟩
   have s8:ah H7 (upd H7 ib (.tup [.str "put",.str "zed",.ref o3,.int to])):=af hib _
   have g8:(upd H7 ib (.tup [.str "put",.str "zed",.ref o3,.int to])) ib=some (.tup [.str "put",.str "zed",.ref o3,.int to]):=ae
   generalize upd H7 ib (.tup [.str "put",.str "zed",.ref o3,.int to])=H8 at s8 g8 ⊢
   have s5x:=aa s47 s8
   have s5:=aa s04 s5x
   have ni:aZ H8 (.ref ib) (.put "zed" (.two .plus (.box "box" "zed") (.num 1)) to):=⟨.ref o3,⟨ib,rfl,g8⟩,.ref o1,.ref o2,⟨o3,rfl,s8 _ _ g7⟩,⟨o1,rfl,s8 _ _ (s7 _ _ (s6 _ _ (by assumption)))⟩,⟨o2,rfl,s8 _ _ (s7 _ _ g6)⟩⟩
   have ng:(Nd.put "zed" (.two .plus (.box "box" "zed") (.num 1)) to).good (· ∈ (bs++[(("zed":Str),zs)]).map (·.1)) nds.length d:=⟨zin,⟨DV,DV⟩,⟨⟨rfl,zin⟩,(by show (1:Int).natAbs < 2 ^ 100; decide)⟩,hd,t0,t1⟩
   refine aw ?_
   refine kR _ _ ?_
   clear kR
   have gN:=s5 _ _ hN
   have gp:=s5x _ _ hp2
   refine ⟨_,rfl,_,rfl,_,rfl,_,rfl,_,rfl,N,_,rfl,ao.of gN,fun l1 hl1=>?_⟩
   rw [eT _ (by omega)]
   have s6:ah H8 (upd H8 l1 (.lst (vn.take j))):=af hl1 _
   have g6:(upd H8 l1 (.lst (vn.take j))) l1=some (.lst (vn.take j)):=ae
   generalize upd H8 l1 (.lst (vn.take j))=Hs at s6 g6 ⊢
   refine ⟨_,rfl,_,rfl,N,_,_,_,rfl,rfl,ao.of (s6 _ _ gN),atx,_,rfl,_,rfl,p1,_,rfl,aq.of (s6 _ _ gp),pd _ _,fun a1 ha1=>?_⟩
   rw [vy]
   have s7:ah Hs (upd Hs a1 (.tup (V.str k :: r))):=af ha1 _
   have g7:(upd Hs a1 (.tup (V.str k :: r))) a1=some (.tup (V.str k :: r)):=ae
   generalize upd Hs a1 (.tup (V.str k :: r))=Ht at s7 g7 ⊢
   have s57:=aa s6 s7
   refine ⟨_,rfl,N,_,rfl,.inl (ao.of (s57 _ _ gN)),JB,fun a2 ha2=>?_⟩
   have sR:ah Ht (upd Ht a2 (.tup [.int (vn.length:Nat)])):=af ha2 _
   have gR:(upd Ht a2 (.tup [.int (vn.length:Nat)])) a2=some (.tup [.int (vn.length:Nat)]):=ae
   generalize upd Ht a2 (.tup [.int (vn.length:Nat)])=Hr at sR gR ⊢
   refine ⟨a1,a2,_,_,rfl,rfl,aq.of (sR _ _ g7),aq.of gR,(fun z=>nomatch z),small (by show r.length + 1 + 1<=1000; omega),(fun z=>nomatch z),fun _ a3 ha3=>?_⟩
   have s9:ah Hr (upd Hr a3 (.tup ((V.str k :: r)++[.int (vn.length:Nat)]))):=af ha3 _
   have g9:(upd Hr a3 (.tup ((V.str k :: r)++[.int (vn.length:Nat)]))) a3=some (.tup ((V.str k :: r)++[.int (vn.length:Nat)])):=ae
   generalize upd Hr a3 (.tup ((V.str k :: r)++[.int (vn.length:Nat)]))=Hu at s9 g9 ⊢
   obtain ⟨z1,z2⟩:=mk (vn.length:Nat) ((nds.length:Int) + 1) Hu a3 (ah.tk (aa s5x (aa s57 (aa sR s9)))) g9 (by omega) (by omega) (by omega)
   refine ⟨JB,fun l2 hl2=>?_⟩
   have sa:ah Hu (upd Hu l2 (.lst [.ref a3])):=af hl2 _
   have ga:(upd Hu l2 (.lst [.ref a3])) l2=some (.lst [.ref a3]):=ae
   generalize upd Hu l2 (.lst [.ref a3])=Ha at sa ga ⊢
   refine ⟨l1,l2,_,_,rfl,rfl,sa _ _ (s9 _ _ (sR _ _ (s7 _ _ g6))),ga,(by rw [DM]; exact small (by show _ + 1<=1000; omega)),fun l3 hl3=>?_⟩
   have sb:ah Ha (upd Ha l3 (.lst (vn.take j++[.ref a3]))):=af hl3 _
   have gb:(upd Ha l3 (.lst (vn.take j++[.ref a3]))) l3=some (.lst (vn.take j++[.ref a3])):=ae
   generalize upd Ha l3 (.lst (vn.take j++[.ref a3]))=Hb at sb gb ⊢
   have s5b:=aa s57 (aa sR (aa s9 (aa sa sb)))
   refine ⟨_,rfl,_,rfl,_,_,rfl,rfl,_,rfl,N,_,rfl,ao.of (s5b _ _ gN),fun l4 hl4=>?_⟩
   rw [show ((j:Nat):Int) + 1=((j + 1:Nat):Int) from rfl,c8 _ (by omega)]
   have sc:ah Hb (upd Hb l4 (.lst (vn.drop (j + 1)))):=af hl4 _
   have gc:(upd Hb l4 (.lst (vn.drop (j + 1)))) l4=some (.lst (vn.drop (j + 1))):=ae
   generalize upd Hb l4 (.lst (vn.drop (j + 1)))=Hc at sc gc ⊢
   refine ⟨l3,l4,_,_,rfl,rfl,sc _ _ gb,gc,(by rw [DE,DM,Ex]; exact small (by show _ + 1 + _<=1000; omega)),fun l5 hl5=>?_⟩
   have sd:ah Hc (upd Hc l5 (.lst (vn.take j++[.ref a3]++vn.drop (j + 1)))):=af hl5 _
   have gd:(upd Hc l5 (.lst (vn.take j++[.ref a3]++vn.drop (j + 1)))) l5=some (.lst (vn.take j++[.ref a3]++vn.drop (j + 1))):=ae
   generalize upd Hc l5 (.lst (vn.take j++[.ref a3]++vn.drop (j + 1)))=Hd at sd gd ⊢
   refine ⟨_,rfl,JB,fun l6 hl6=>?_⟩
   have se:ah Hd (upd Hd l6 (.lst [.ref ib])):=af hl6 _
   have ge:(upd Hd l6 (.lst [.ref ib])) l6=some (.lst [.ref ib]):=ae
   generalize upd Hd l6 (.lst [.ref ib])=He at se ge ⊢
   have len5:=eA (l:=vn) (x:=V.ref a3) hj
   refine ⟨l5,l6,_,_,rfl,rfl,se _ _ gd,ge,(by show (gY vn j (.ref a3)).length + 1<=_; rw [len5]; exact small (by omega)),fun N9 hN9=>?_⟩
   have sf:ah He (upd He N9 (.lst (vn.take j++[.ref a3]++vn.drop (j + 1)++[.ref ib]))):=af hN9 _
   have gf:(upd He N9 (.lst (vn.take j++[.ref a3]++vn.drop (j + 1)++[.ref ib]))) N9=some (.lst (vn.take j++[.ref a3]++vn.drop (j + 1)++[.ref ib])):=ae
   generalize upd He N9 (.lst (vn.take j++[.ref a3]++vn.drop (j + 1)++[.ref ib]))=Hf at sf gf ⊢
   refine ⟨JD,fun p9 hp9=>?_⟩
   have s9f:=aa sa (aa sb (aa sc (aa sd (aa se sf))))
   have s5f:=aa s5b (aa sc (aa sd (aa se sf)))
   have sz9:=af hp9 (.tup [.ref M,.ref I,.ref N9])
   have s09:=aa s5 (aa s5f sz9)
   have mono:∀x∈nds,x.good (· ∈ bs.map (·.1)) ((nds.length:Int) + 1) d:=fun x hx=>(pg.gd x hx).mono (by omega) (DJ _)
   have ll:(gY nds j (e.lastTo (vn.length:Nat))++[Nd.put "zed" (.two .plus (.box "box" "zed") (.num 1)) to]).length=nds.length + 1:=by rw [DE,eA (by omega)]; rfl
   refine q (.ref p9) _ _ (gY nds j (e.lastTo (vn.length:Nat))++[Nd.put "zed" (.two .plus (.box "box" "zed") (.num 1)) to]) s09 ⟨p9,M,I,N9,_,_,rfl,ae,(aa s5x (aa s5f sz9)) _ _ g4,s09 _ _ hI,sz9 _ _ gf,Paired.mapP pb4 fun a b h=>Tp.keep (ah.tk (aa s5x (aa s5f sz9))) h,Paired.app (Paired.gY j (Paired.mapP pn fun a b h=>aZ.keep (ah.tk s09) h) (z1.keep (ah.tk (aa s9f sz9)))) (.cons (ni.keep (ah.tk (aa s5f sz9))) .nil)⟩ (pgz _ (by omega) (by omega) fun x hx=>?_) kin
   rw [ll]
   rcases List.mem_append.mp hx with hx | hx
   · rcases iH hx with hx | rfl
     · exact (mono x hx).names nmz
     · exact z2.names nmz
   · rw [List.mem_singleton.mp hx]
     exact ng.mono (by omega) (DJ _)
theorem qu (s:Src K mg "_law_boxed" sBoxed)(m_len:mg "len"=none)(m_list:mg "list"=none)(m_int:mg "int"=none)(m_sum:mg "sum"=none):aF P w K mg base "_law_boxed" ["program","number"] 1 spBoxed:=
 let ⟨f,fd,F,m⟩:=s
 ⟨f,fd,tX F m_len m_list m_int m_sum,F.kp,cu F fun _ _ _ _ _ _ _ _=>rfl,m⟩
end
end TW
set_option Elab.async false
set_option linter.all false
set_option maxRecDepth 100000
set_option exponentiation.threshold 4000
set_option maxHeartbeats 1000000
namespace TW
open PySem L2
section
variable {P:Program}{w:World}{K:DA}{mg:Str->Option Value}{base:Heap}
theorem dQ (x:Str):∀(ins:List Str),jE (.str x) (ins.map V.str)=decide (x∈ins)
 | []=>rfl
 | y :: r=>by
   show (mX (.str y) (.str x) || jE (.str x) (r.map V.str))=_
   rw [dQ x r]
   show ((y == x) || decide (x∈r))=_
   by_cases h:y=x
   · subst h
     simp
   · have h1:(y == x)=false:=beq_eq_false_iff_ne.mpr h
     have h2:¬ x=y:=fun z=>h z.symm
     rw [h1,Bool.false_or]
     by_cases h3:x∈r <;> simp [h2,h3]
theorem gm (l:List Str):(l.map V.str).all bw=true:=by
 rw [List.all_map]
 exact List.all_eq_true.mpr fun _ _=>rfl
theorem rm {bs:List (Str×Int)}{j:Nat}{b:Str×Int}{zs:Int}(h:bs[j]? = some b):(gY bs j (b.1,zs)).map (·.1)=bs.map (·.1):=by
 obtain ⟨h1,h2⟩:=List.getElem?_eq_some_iff.mp h
 have e:bs.map (·.1)=(bs.take j++(bs[j] :: bs.drop (j + 1))).map (·.1):=by rw [← EL h1,GL]
 rw [e,h2]
 unfold gY
 simp
theorem uM {α:Type}{l:List α}{j:Nat}{x y:α}{z:α}(h:l[j]? = some x)(hy:y∈l)(ne:y≠x):y∈gY l j z:=by
 unfold gY
 obtain ⟨h1,h2⟩:=List.getElem?_eq_some_iff.mp h
 rw [← GL j l,EL h1,h2] at hy
 rcases List.mem_append.mp hy with hy | hy
 · exact List.mem_append.mpr (.inl (List.mem_append.mpr (.inl hy)))
 · rcases List.mem_cons.mp hy with hy | hy
   · exact absurd hy ne
   · exact List.mem_append.mpr (.inr hy)
theorem aI.same {H H':Hp}{v:V}{bs:List (Str×Int)}{ins:List Str}{nds:List Nd}(h:aI H v bs ins nds)(s:ah H H'):aI H' v bs ins nds:=by
 obtain ⟨p,B,I,N,vb,vn,rfl,hp,hB,hI,hN,pb,pn⟩:=h
 exact ⟨p,B,I,N,vb,vn,rfl,s _ _ hp,s _ _ hB,s _ _ hI,s _ _ hN,Paired.mapP pb fun _ _ z=>Tp.keep (ah.tk s) z,Paired.mapP pn fun _ _ z=>aZ.keep (ah.tk s) z⟩
/-! ### _law_resized -/
abbrev sResz:Stmt:=top 34
abbrev spResz:Sp:=xH (fun _=>True) 0
theorem Cd {a b:Int}{i:Nat}(h1:1<=a)(h2:a<=6 ^ i)(h3:1<=b)(h4:b<=6):1<=a * b/\a * b<=6 ^ (i + 1):=by
 have p1:1 * 1<=a * b:=Int.mul_le_mul h1 h3 (by decide) (by omega)
 have p2:a * b<=6 ^ i * 6:=Int.mul_le_mul h2 h4 (by omega) (by omega)
 rw [Int.pow_succ]
 exact ⟨by omega,p2⟩
theorem dD:au ["program","number","boxes","inputs","nodes","at","others","k","size"] ["program","number"] (ag sResz):=⟨rfl,rfl,rfl,by decide +kernel,rfl,by decide +kernel,by decide +kernel⟩
theorem qm:(ag sResz).names.lookup (DD "int")=some .globalImplicit:=by decide +kernel
theorem jX:(ag sResz).names.lookup (DD "len")=some .globalImplicit:=by decide +kernel
theorem nj:(ag sResz).names.lookup (DD "list")=some .globalImplicit:=by decide +kernel
theorem jY:(ag sResz).names.lookup (DD "max")=some .globalImplicit:=by decide +kernel
theorem qo:(ag sResz).names.lookup (DD "min")=some .globalImplicit:=by decide +kernel
theorem lS:(ag sResz).names.lookup (DD "range")=some .globalImplicit:=by decide +kernel
theorem wu {f:Addr}{fd:FuncData}(F:cB K "_law_resized" "_law_resized" sResz f fd)(m_len:mg "len"=none)(m_list:mg "list"=none)(m_int:mg "int"=none)(m_max:mg "max"=none)(m_min:mg "min"=none)(m_range:mg "range"=none):aL P w K mg base CX0 1 f fd ["program","number"] spResz:=by
 refine F.ok dD (fun vs H Q E h=>?_) (fun cdv A outer s H vs Q E hr h=>?_)
 · obtain ⟨v,n,bs,ins,nds,F,d,rfl,_⟩:=h
   rfl
 · obtain ⟨v,n,bs,ins,nds,F,d,rfl,pa,pg,hF,hd,_,q⟩:=h
   refine fI ⟨_,(G3 (HP (GY 0) (HG 3 (Hl (Hh 2 dD.nd) (Hl (Hh 3 dD.nd) (Hl (Hh 4 dD.nd) HH)))))
     (G3 (G9 5 dD.nd (G4 Hq (GY 1) (Hv L3.oH jY m_max (by decide +kernel) (GZ G1 (GZ (Hv Hz jX m_len DQ (GZ (GY 2) G0)) G0)))))
     (G3 (Hn (HM (Ik (Hk (L3.tT (m:=0) (bB hr _ (by decide))) (GY 2) (Hy G0)) (Il (Hk Iq (G2 G5 (G2 Hm (GY 2) (GY 5)) G1) (GY 3) (by rfl))))) (G6 (Hi (GY 0))) Ho)
     (G3 (G9 6 dD.nd G1)
     (G3 (HW (Ic lS m_range (GZ (Hv Hz jX m_len DQ (GZ (GY 2) G0)) G0)) (Hh 7 dD.nd) (G6 (G9 6 dD.nd (G4 Ie (GY 6) (G2 Hm (Hy (GZ (G2 G5 (G2 Hm (GY 2) (GY 7)) G1) (GZ G1 G0))) (HI Ib qm m_int (by decide +kernel) (GZ (HK Hw (GY 7) (GY 5)) G0)))))))
     (G3 (G9 8 dD.nd (Hv L3.xi qo m_min (by decide +kernel) (GZ (G4 HF G1 (G4 Hq (G4 HF (G2 G5 (G2 Hm (GY 2) (GY 5)) G1) (G4 HJ (GY 1) G1)) G1)) (GZ (Hv L3.oH jY m_max (by decide +kernel) (GZ G1 (GZ (G4 HJ G1 (GY 6)) G0))) G0))))
     (G6 (Hi (G8 (GZ (G4 HN (G4 HN (Im (GY 2) (GY 5)) (Hy (GZ (G8 (GZ (G2 G5 (G2 Hm (GY 2) (GY 5)) G1) (GZ (GY 8) G0))) G0))) (Io (GY 2) (G4 HF (GY 5) G1))) (GZ (GY 3) (GZ (HI HX nj m_list (by decide +kernel) (GZ (GY 4) G0)) G0)))))))))))),?_⟩
   have pa0:=pa
   obtain ⟨p,B,I,N,vb,vn,rfl,hp,hB,hI,hN,pb,pn⟩:=pa
   have hvn:vn.length=nds.length:=Paired.length pn
   have hvl:vb.length=bs.length:=Paired.length pb
   have l3:=pg.l3
   refine eB fun Rk kR=>?_
   refine ⟨_,rfl,p,_,rfl,aq.of hp,rfl,_,_,rfl,_,_,rfl,_,_,rfl,rfl,?_⟩
   obtain ⟨m,em,m0⟩ : ∃m:Int,(if (vb.length:Int) > 1 then (vb.length:Int) else 1)=m/\0 < m:=⟨_,rfl,by split <;> omega⟩
   refine ⟨_,rfl,_,rfl,B,_,rfl,.inl (ao.of hB),_,_,rfl,_,_,rfl,rfl,(by rw [em]; exact m0),?_⟩
   obtain ⟨at1,eat⟩ : ∃at1,n % m=at1:=⟨_,rfl⟩
   refine aw ?_
   refine kR _ _ ?_
   refine bP [some (.ref p),some (.int n),some (.ref B),some (.ref I),some (.ref N),some (.int at1),none,none,none] (by rw [← eat,← em]; rfl) ?_
   clear kR
   refine a8 fun Rk kR=>?_
   have same0:Q (.ref p) H:=q (.ref p) H bs nds (same_refl _) pa0 ⟨pg.nd,pg.l3,pg.sz,pg.ind,pg.sub,pg.one,by have:=pg.few; omega,pg.gd⟩ (fun b hb _=>hb)
   refine ⟨_,rfl,JA,fun lz hlz=>?_⟩
   have s1:ah H (upd H lz (.lst [])):=af hlz _
   have g1:(upd H lz (.lst [])) lz=some (.lst []):=ae
   generalize upd H lz (.lst [])=H1 at s1 g1 ⊢
   have hB1:=s1 _ _ hB
   have same1:Q (.ref p) H1:=q (.ref p) H1 bs nds s1 (pa0.same s1) ⟨pg.nd,pg.l3,pg.sz,pg.ind,pg.sub,pg.one,by have:=pg.few; omega,pg.gd⟩ (fun b hb _=>hb)
   refine ⟨_,RB.nil (ao.of hB1) (ao.of g1),_,rfl,?_⟩
   refine az (fun c1=>cN ⟨_,rfl,same1⟩) (fun c1=>?_)
   have vne:0 < vb.length:=List.length_pos_iff.mpr fun z=>c1 (by rw [z]; rfl)
   have em2:m=(vb.length:Int):=by rw [← em]; split <;> omega
   obtain ⟨j,ej,hj,x,hx,atx⟩:=oE (vn:=vb) (n:=n) em2 m0
   rw [eat] at ej atx
   subst ej
   obtain ⟨b,hb,pb1,rfl,hb1⟩:=Paired.get pb hx
   refine ⟨_,rfl,_,rfl,B,_,_,_,rfl,rfl,ao.of hB1,atx,pb1,_,_,_,rfl,rfl,aq.of (s1 _ _ hb1),rfl,_,rfl,I,_,rfl,.inl (ao.of (s1 _ _ hI)),rfl,gm ins,_,rfl,?_⟩
   rw [show (if false=true then !jE (V.str b.1) (ins.map V.str) else jE (V.str b.1) (ins.map V.str))=decide (b.1∈ins) from dQ _ _]
   refine az (fun c2=>⟨_,rfl,same1⟩) (fun c2=>?_)
   have c2':b.1 ∉ ins:=fun z=>c2 (decide_eq_true z)
   refine kR _ _ ?_
   clear kR
   refine eB fun Rk kR=>?_
   have gB:=hB1
   refine aw ?_
   refine ⟨_,rfl,B,_,rfl,.inl (ao.of gB),_,rfl,by rw [hvl]; omega,by rw [hvl]; omega,?_⟩
   refine cF (lo:=0) (n:=((vb.length:Nat):Int).toNat) (fun i σ H5=>(∃kv ot,σ=[some (.ref p),some (.int n),some (.ref B),some (.ref I),some (.ref N),some (.int (j:Nat)),some (.int ot),kv,none]/\1<=ot/\ot<=6 ^ i)/\ah H1 H5) ⟨⟨_,1,rfl,by decide,by decide⟩,same_refl _⟩ (fun i σ H5 hi z=>?_) (fun σ H5 z=>?_)
   · obtain ⟨⟨kv,ot,rfl,o1,o2⟩,s5⟩:=z
     obtain ⟨y,hy,aty⟩:=iO (xs:=vb) (r:=0 + (i:Int)) (by omega) (by omega)
     obtain ⟨c,hc,pc,rfl,hpc⟩:=Paired.get pb hy
     have sc:=pg.sz c (DR hc)
     have s05:=aa s1 s5
     refine aw ?_
     refine ⟨_,rfl,_,rfl,_,rfl,B,_,_,_,rfl,rfl,ao.of (s5 _ _ gB),aty,pc,_,_,_,rfl,rfl,aq.of (s05 _ _ hpc),rfl,JC,fun l6 hl6=>?_⟩
     have s6:ah H5 (upd H5 l6 (.lst [.int c.2,.int 1])):=af hl6 _
     have g6:(upd H5 l6 (.lst [.int c.2,.int 1])) l6=some (.lst [.int c.2,.int 1]):=ae
     generalize upd H5 l6 (.lst [.int c.2,.int 1])=H6 at s6 g6 ⊢
     obtain ⟨u,hat,u1,u6⟩ : ∃u:Int,eR ([.int c.2,.int 1]:List V) (if decide (V.int (0 + (i:Int))=V.int (j:Int))=true then 1 else 0)=some (.int u)/\1<=u/\u<=6:=by
       split
       · exact ⟨1,rfl,by decide,by decide⟩
       · exact ⟨c.2,rfl,sc.1,sc.2⟩
     refine ⟨_,rfl,_,rfl,rfl,.inr ⟨_,rfl,l6,_,_,_,rfl,rfl,ao.of g6,hat,_,_,rfl,rfl,.inr (by omega),?_⟩⟩
     refine aw ?_
     exact ⟨⟨_,ot * u,rfl,Cd o1 o2 u1 u6⟩,aa s5 s6⟩
   obtain ⟨⟨kv,ot,rfl,o1,o2⟩,s5⟩:=z
   refine kR _ _ ?_
   clear kR
   have o3:ot<=216:=by
     have:((vb.length:Nat):Int).toNat<=3:=by omega
     rcases (show ((vb.length:Nat):Int).toNat=0\/((vb.length:Nat):Int).toNat=1\/((vb.length:Nat):Int).toNat=2\/((vb.length:Nat):Int).toNat=3 by omega) with e | e | e | e <;> rw [e] at o2 <;> simp at o2 <;> omega
   have s05:=aa s1 s5
   have gB5:=s05 _ _ hB
   have hb5:=s05 _ _ hb1
   refine a8 fun Rk kR=>?_
   refine ⟨_,rfl,_,rfl,B,_,_,_,rfl,rfl,ao.of gB5,atx,pb1,_,_,_,rfl,rfl,aq.of hb5,rfl,_,rfl,_,_,rfl,rfl,⟨(by show (0:Int) < 4; decide),(by show (4:Int) < 2 ^ 1000; decide +kernel)⟩,_,_,rfl,rfl,_,_,rfl,rfl,(by show (0:Int) < 3; decide),_,_,rfl,rfl,_,rfl,_,_,rfl,rfl,⟨by omega,Int.lt_of_le_of_lt o3 (by decide +kernel)⟩,_,_,rfl,_,_,rfl,?_⟩
   obtain ⟨zs,ez,z1,z2⟩ : ∃zs:Int,(if (if 6 / ot > 1 then 6 / ot else 1) < 1 + (b.2 + n / 4) % 3 then (if 6 / ot > 1 then 6 / ot else 1) else 1 + (b.2 + n / 4) % 3)=zs/\1<=zs/\zs<=6:=by
     refine ⟨_,rfl,?_,?_⟩
     · split <;> split <;> omega
     · split <;> omega
   refine aw ?_
   refine kR _ _ ?_
   refine bP [some (.ref p),some (.int n),some (.ref B),some (.ref I),some (.ref N),some (.int (j:Nat)),some (.int ot),kv,some (.int zs)] (by rw [← ez]; rfl) ?_
   clear kR
   refine ⟨_,rfl,_,rfl,_,rfl,B,_,rfl,ao.of gB5,fun l1 hl1=>?_⟩
   rw [eT _ (by omega)]
   have s6:ah H5 (upd H5 l1 (.lst (vb.take j))):=af hl1 _
   have g6:(upd H5 l1 (.lst (vb.take j))) l1=some (.lst (vb.take j)):=ae
   generalize upd H5 l1 (.lst (vb.take j))=H6 at s6 g6 ⊢
   refine ⟨_,rfl,_,rfl,B,_,_,_,rfl,rfl,ao.of (s6 _ _ gB5),atx,pb1,_,_,_,rfl,rfl,aq.of (s6 _ _ hb5),rfl,_,rfl,JC,fun nb hnb=>?_⟩
   have s7:ah H6 (upd H6 nb (.tup [.str b.1,.int zs])):=af hnb _
   have g7:(upd H6 nb (.tup [.str b.1,.int zs])) nb=some (.tup [.str b.1,.int zs]):=ae
   generalize upd H6 nb (.tup [.str b.1,.int zs])=H7 at s7 g7 ⊢
   refine ⟨JB,fun l2 hl2=>?_⟩
   have sa:ah H7 (upd H7 l2 (.lst [.ref nb])):=af hl2 _
   have ga:(upd H7 l2 (.lst [.ref nb])) l2=some (.lst [.ref nb]):=ae
   generalize upd H7 l2 (.lst [.ref nb])=Ha at sa ga ⊢
   refine ⟨l1,l2,_,_,rfl,rfl,sa _ _ (s7 _ _ g6),ga,(by rw [DM]; exact small (by show _ + 1<=1000; omega)),fun l3 hl3=>?_⟩
   have sb:ah Ha (upd Ha l3 (.lst (vb.take j++[.ref nb]))):=af hl3 _
   have gb:(upd Ha l3 (.lst (vb.take j++[.ref nb]))) l3=some (.lst (vb.take j++[.ref nb])):=ae
   generalize upd Ha l3 (.lst (vb.take j++[.ref nb]))=Hb at sb gb ⊢
   have s5b:=aa s6 (aa s7 (aa sa sb))
   refine ⟨_,rfl,_,rfl,_,_,rfl,rfl,_,rfl,B,_,rfl,ao.of (s5b _ _ gB5),fun l4 hl4=>?_⟩
   rw [show ((j:Nat):Int) + 1=((j + 1:Nat):Int) from rfl,c8 _ (by omega)]
   have sc:ah Hb (upd Hb l4 (.lst (vb.drop (j + 1)))):=af hl4 _
   have gc:(upd Hb l4 (.lst (vb.drop (j + 1)))) l4=some (.lst (vb.drop (j + 1))):=ae
   generalize upd Hb l4 (.lst (vb.drop (j + 1)))=Hc at sc gc ⊢
   refine ⟨l3,l4,_,_,rfl,rfl,sc _ _ gb,gc,(by rw [DE,DM,Ex]; exact small (by show _ + 1 + _<=1000; omega)),fun B9 hB9=>?_⟩
   have sd:ah Hc (upd Hc B9 (.lst (vb.take j++[.ref nb]++vb.drop (j + 1)))):=af hB9 _
   have gd:(upd Hc B9 (.lst (vb.take j++[.ref nb]++vb.drop (j + 1)))) B9=some (.lst (vb.take j++[.ref nb]++vb.drop (j + 1))):=ae
   generalize upd Hc B9 (.lst (vb.take j++[.ref nb]++vb.drop (j + 1)))=Hd at sd gd ⊢
   have s5d:=aa s5b (aa sc sd)
   have s0d:=aa s05 s5d
   refine ⟨_,rfl,_,rfl,N,_,rfl,.inl (ao.of (s0d _ _ hN)),fun N9 hN9=>?_⟩
   have se:ah Hd (upd Hd N9 (.lst vn)):=af hN9 _
   have ge:(upd Hd N9 (.lst vn)) N9=some (.lst vn):=ae
   generalize upd Hd N9 (.lst vn)=He at se ge ⊢
   refine ⟨JD,fun p9 hp9=>?_⟩
   have sz9:=af hp9 (.tup [.ref B9,.ref I,.ref N9])
   have s0e:=aa s0d se
   have s09:=aa s0e sz9
   have sd9:=aa se sz9
   have ll:(gY bs j (b.1,zs)).length=bs.length:=eA (by omega)
   have enm:(gY bs j (b.1,zs)).map (·.1)=bs.map (·.1):=rm hb
   refine q (.ref p9) _ (gY bs j (b.1,zs)) nds s09 ⟨p9,B9,I,N9,_,vn,rfl,ae,sd9 _ _ gd,s09 _ _ hI,sz9 _ _ ge,Paired.gY j (Paired.mapP pb fun a b h=>Tp.keep (ah.tk s09) h) ⟨nb,rfl,sd9 _ _ (sd _ _ (sc _ _ (sb _ _ (sa _ _ g7))))⟩,Paired.mapP pn fun a b h=>aZ.keep (ah.tk s09) h⟩ ⟨by rw [enm]; exact pg.nd,by rw [ll]; exact pg.l3,fun x hx=>?_,pg.ind,by rw [enm]; exact pg.sub,pg.one,by have:=pg.few; omega,by rw [enm]; exact pg.gd⟩ (fun x hx hi=>?_)
   · rcases iH hx with hx | rfl
     · exact pg.sz x hx
     · exact ⟨z1,z2⟩
   · exact uM hb hx fun z=>c2' (by rw [← z]; exact hi)
theorem sZ (s:Src K mg "_law_resized" sResz)(m_len:mg "len"=none)(m_list:mg "list"=none)(m_int:mg "int"=none)(m_max:mg "max"=none)(m_min:mg "min"=none)(m_range:mg "range"=none):aF P w K mg base "_law_resized" ["program","number"] 1 spResz:=
 let ⟨f,fd,F,m⟩:=s
 ⟨f,fd,wu F m_len m_list m_int m_max m_min m_range,F.kp,cu F fun _ _ _ _ _ _ _ _=>rfl,m⟩
end
end TW
set_option Elab.async false
set_option linter.all false
set_option maxRecDepth 100000
set_option exponentiation.threshold 4000
set_option maxHeartbeats 1000000
namespace TW
open PySem L2
section
variable {P:Program}{w:World}{K:DA}{mg:Str->Option Value}{base:Heap}
/-! ### _law_other -/
abbrev sOther:Stmt:=top 35
abbrev sPair:Stmt:=top 36
theorem pT.trans {ins:List Str}{a b c:List (Str×Int)}(h:pT ins a b)(k:pT ins b c):pT ins a c:=fun x hx hi=>k x (h x hx hi) hi
theorem Pg.mono {bs:List (Str×Int)}{ins:List Str}{nds:List Nd}{F F':Int}{d d':Nat}(h:Pg bs ins nds F d)(hF:F<=F')(hd:d<=d'):Pg bs ins nds F' d':=⟨h.nd,h.l3,h.sz,h.ind,h.sub,h.one,Int.le_trans h.few hF,fun e he=>(h.gd e he).mono (E4 _) hd⟩
def iG:Sp:=fun vs H Q _=>∃(v:V) (xl:Addr) (row:List Int) (bs:List (Str×Int)) (ins:List Str) (nds:List Nd) (F:Int) (d:Nat),vs=[v,.ref xl]/\H xl=some (.lst (row.map V.int))/\Row 720720 row 5/\aI H v bs ins nds/\Pg bs ins nds F d/\F<=90/\1<=d/\∀(v':V) (H':Hp) (bs':List (Str×Int)) (nds':List Nd),ah H H'->aI H' v' bs' ins nds'->Pg bs' ins nds' (F + 2) (d + 1)->pT ins bs bs'->Q v' H'
theorem cf:au ["program","xs","found","k","way","number"] ["program","xs"] (ag sOther):=⟨rfl,rfl,rfl,by decide +kernel,rfl,by decide +kernel,by decide +kernel⟩
theorem gC:(ag sOther).names.lookup (DD "_law_boxed")=some .globalImplicit:=by decide +kernel
theorem ig:(ag sOther).names.lookup (DD "_law_idle")=some .globalImplicit:=by decide +kernel
theorem eY:(ag sOther).names.lookup (DD "_law_resized")=some .globalImplicit:=by decide +kernel
theorem fC:(ag sOther).names.lookup (DD "_law_spoilt")=some .globalImplicit:=by decide +kernel
theorem fD:(ag sOther).names.lookup (DD "_law_turned")=some .globalImplicit:=by decide +kernel
theorem i7:(ag sOther).names.lookup (DD "len")=some .globalImplicit:=by decide +kernel
theorem kz:(ag sOther).names.lookup (DD "range")=some .globalImplicit:=by decide +kernel
theorem t5 {f:Addr}{fd:FuncData}(F:cB K "_law_other" "_law_other" sOther f fd)(m_len:mg "len"=none)(m_range:mg "range"=none)(TU0:aF P w K mg base "_law_turned" ["program","by"] 2 fY)(ID0:aF P w K mg base "_law_idle" ["program","number"] 1 jr)(RS0:aF P w K mg base "_law_resized" ["program","number"] 1 spResz)(BO0:aF P w K mg base "_law_boxed" ["program","number"] 1 spBoxed)(SP0:aF P w K mg base "_law_spoilt" ["program","number"] 1 d6):aL P w K mg base CX0 3 f fd ["program","xs"] iG:=by
 refine F.ok cf (fun vs H Q E h=>?_) (fun cdv A outer s H vs Q E hr h=>?_)
 · obtain ⟨v,xl,row,bs,ins,nds,F,d,rfl,_⟩:=h
   rfl
 · obtain ⟨v,xl,row,bs,ins,nds,F,d,rfl,hxl,hR,pa,pg,hF,hd,q⟩:=h
   have TU:=TU0.mono (show 2<=2 by omega)
   have ID:=ID0.mono (show 1<=2 by omega)
   have RS:=RS0.mono (show 1<=2 by omega)
   have BO:=BO0.mono (show 1<=2 by omega)
   have SP:=SP0.mono (show 1<=2 by omega)
   refine fI ⟨_,(G3 (G9 2 cf.nd (GY 0))
     (G3 (HW (Ic kz m_range (GZ (G4 HF G1 (G4 Hq (G2 Hm (GY 1) G1) G1)) G0)) (Hh 3 cf.nd) (G3 (G9 4 cf.nd (G4 Hq (G2 Hm (GY 1) (G4 HF G1 (GY 3))) G1))
     (G3 (G9 5 cf.nd (G4 HJ (G2 Hm (GY 1) (G4 HF G1 (GY 3))) G1))
     (G6 (Hn (Hk HL (GY 4) G1) (G6 (G9 2 cf.nd (Hj TU hr fD (GZ (GY 2) (GZ (G4 HF G1 (GY 5)) G0))))) (G6 (Hn (HM (Ig (Hk HL (GY 4) G1) (Ih (Hk HL (Hv Hz i7 m_len DQ (GZ (G2 G5 (GY 2) G1) G0)) G1)))) (G6 (G9 2 cf.nd (Hj ID hr ig (GZ (GY 2) (GZ (GY 5) G0))))) (G6 (Hn (Hk HL (GY 4) G1) (G6 (G9 2 cf.nd (Hj RS hr eY (GZ (GY 2) (GZ (GY 5) G0))))) (G6 (Hn (HM (Ig (Hk HL (Hv Hz i7 m_len DQ (GZ (G2 G5 (GY 2) G1) G0)) G1) (Ih (Hk L3.pf G7 (HZ [none,none] ["name","size"] (show aA _ (ag sOther) from ⟨rfl,by decide +kernel,by decide +kernel,by decide +kernel⟩) (by rfl) (HQ (G2 G5 (GY 2) G1)) (fun _ _ _ _ _=>⟨(HG 2 (Hl (Hh 0 (show (["name","size"]:List Str).Nodup from by decide +kernel)) (Hl (Hh 1 (show (["name","size"]:List Str).Nodup from by decide +kernel)) HH))),HU,(GY 0)⟩)) (by rfl))))) (G6 (G9 2 cf.nd (Hj BO hr gC (GZ (GY 2) (GZ (GY 5) G0))))) Ho)))))))))))
     (G3 (Hn (Hk Hw (G4 Hq (G2 Hm (GY 1) G1) G1) G1) (G6 (G9 2 cf.nd (Hj SP hr fC (GZ (GY 2) (GZ (G2 Hm (GY 1) G1) G0))))) Ho)
     (G6 (Hi (GY 2)))))),?_⟩
   obtain ⟨x0,a0,x00,x01⟩:=hR.at (i:=0) (by decide) (by decide)
   obtain ⟨x3,a3,x30,x31⟩:=hR.at (i:=3) (by decide) (by decide)
   obtain ⟨x4,a4,x40,x41⟩:=hR.at (i:=4) (by decide) (by decide)
   refine eB fun Rk kR=>?_
   refine ⟨_,rfl,?_⟩
   refine aw ?_
   refine ⟨_,rfl,xl,_,_,_,rfl,rfl,ao.of hxl,a0,_,_,rfl,rfl,(by show (0:Int) < 2; decide),_,_,rfl,rfl,_,rfl,by omega,by omega,?_⟩
   refine cF (lo:=0) (n:=(1 + x0 % 2).toNat) (fun i σ H5=>(∃(vf:V) (o3 o4 o5:Option V) (bs2:List (Str×Int)) (nds2:List Nd),σ=[some v,some (.ref xl),some vf,o3,o4,o5]/\ah H H5/\aI H5 vf bs2 ins nds2/\Pg bs2 ins nds2 (F + i) d/\pT ins bs bs2)) ⟨v,_,_,_,bs,nds,rfl,same_refl _,pa,pg.mono (by omega) (DJ _),fun b hb _=>hb⟩ (fun i σ H5 hi z=>?_) (fun σ H5 z=>?_)
   · obtain ⟨vf,o3,o4,o5,bs2,nds2,rfl,s5,pa2,pg2,kn⟩:=z
     obtain ⟨xk,ak,xk0,xk1⟩:=hR.at (i:=1 + (0 + (i:Int))) (by omega) (by omega)
     have hx5:=s5 _ _ hxl
     refine aw ?_
     refine eB fun Rj kj=>?_
     refine ⟨_,rfl,_,rfl,_,_,rfl,rfl,xl,_,_,_,rfl,rfl,ao.of hx5,ak,_,_,rfl,rfl,(by show (0:Int) < 8; decide),?_⟩
     refine aw ?_
     refine ⟨_,rfl,_,rfl,_,_,rfl,rfl,xl,_,_,_,rfl,rfl,ao.of hx5,ak,_,_,rfl,rfl,⟨(by show (0:Int) < 8; decide),(by show (8:Int) < 2 ^ 1000; decide +kernel)⟩,?_⟩
     refine aw ?_
     refine kj _ _ ?_
     refine bP [some v,some (.ref xl),some vf,some (.int (0 + (i:Int))),some (.int (xk % 8)),some (.int (xk / 8))] rfl ?_
     clear kj
     have done:∀(v2:V) (H6:Hp) (bs3:List (Str×Int)) (nds3:List Nd) (k:Int),ah H5 H6->aI H6 v2 bs3 ins nds3->Pg bs3 ins nds3 (F + i + k) d->k<=1->pT ins bs2 bs3->∃(vf:V) (o3 o4 o5:Option V) (bs2:List (Str×Int)) (nds2:List Nd),[some v,some (.ref xl),some v2,some (.int (0 + (i:Int))),some (.int (xk % 8)),some (.int (xk / 8))]=[some v,some (.ref xl),some vf,o3,o4,o5]/\ah H H6/\aI H6 vf bs2 ins nds2/\Pg bs2 ins nds2 (F + (i + 1:Nat)) d/\pT ins bs bs2:=fun v2 H6 bs3 nds3 k s6 pa3 pg3 hk kn3=>
       ⟨v2,_,_,_,bs3,nds3,rfl,aa s5 s6,pa3,pg3.mono (by omega) (DJ _),kn.trans kn3⟩
     have hF2:F + i<=100:=by omega
     refine ⟨_,rfl,_,_,rfl,rfl,_,rfl,?_⟩
     refine az (fun c1=>?_) (fun c1=>?_)
     · refine ⟨_,rfl,_,rfl,_,_,rfl,rfl,vf,1 + xk / 8,bs2,ins,nds2,F + i,d,rfl,pa2,pg2,hF2,fun v2 H6 nds3 s6 pa3 pg3 _=>?_⟩
       exact done v2 H6 bs2 nds3 0 s6 pa3 (pg3.mono (by omega) (DJ _)) (by decide) (fun b hb _=>hb)
     have pa2':=pa2
     obtain ⟨p2,B2,I2,N2,vb2,vn2,rfl,hp2,hB2,hI2,hN2,pb2,pn2⟩:=pa2
     refine AA fun Ti Ui ht hu=>?_
     have els:Ui H5:=by
       refine hu _ ?_
       refine ⟨_,rfl,_,_,rfl,rfl,_,rfl,?_⟩
       refine az (fun c3=>?_) (fun c3=>?_)
       · refine ⟨_,rfl,_,rfl,.ref p2,xk / 8,bs2,ins,nds2,F + i,d,rfl,pa2',pg2,hF2,hd,DV,fun v2 H6 bs3 nds3 s6 pa3 pg3 kn3=>?_⟩
         exact done v2 H6 bs3 nds3 0 s6 pa3 pg3 (by decide) kn3
       have stay:∃(vf:V) (o3 o4 o5:Option V) (bs2:List (Str×Int)) (nds2:List Nd),[some v,some (.ref xl),some (.ref p2),some (.int (0 + (i:Int))),some (.int (xk % 8)),some (.int (xk / 8))]=[some v,some (.ref xl),some vf,o3,o4,o5]/\ah H H5/\aI H5 vf bs2 ins nds2/\Pg bs2 ins nds2 (F + (i + 1:Nat)) d/\pT ins bs bs2:=done (.ref p2) H5 bs2 nds2 0 (same_refl _) pa2' (pg2.mono (by omega) (DJ _)) (by decide) (fun b hb _=>hb)
       refine ⟨_,rfl,p2,_,_,_,rfl,rfl,aq.of hp2,rfl,B2,_,rfl,.inl (ao.of hB2),_,_,rfl,rfl,_,rfl,?_⟩
       refine az (fun c4=>?_) (fun c4=>fK stay)
       have hvl:vb2.length=bs2.length:=Paired.length pb2
       have c4':(vb2.length:Int) < 3:=of_decide_eq_true c4
       refine ⟨_,rfl,p2,_,_,_,rfl,rfl,aq.of hp2,rfl,B2,rfl,⟨_,ao.of hB2⟩,fun na hna=>?_⟩
       have nba:B2≠na:=ai hB2 hna
       refine bu (xs:=vb2) (fun i H3=>H3=upd H5 na (.lst ((bs2.take i).map fun b=>V.str b.1))) rfl (fun i H3 _ e=>?_) (fun i x H3 hx e=>?_) (fun H3 e=>?_)
       · subst e
         exact ao.of (by rw [aj nba]; exact hB2)
       · subst e
         obtain ⟨b,hbi,p,rfl,hp⟩:=Paired.get pb2 hx
         have hil:i < vb2.length:=(List.getElem?_eq_some_iff.mp hx).1
         refine ⟨p,_,rfl,aq.of (by rw [aj (ai hp hna)]; exact hp),rfl,_,_,rfl,_,_,rfl,rfl,?_⟩
         refine dk (A:=fun H3=>dR (oi 0) na _ H3 _) ⟨_,rfl,_,ae,aR (by rw [DC,DM]; omega),aM (Pv:=fun i H3=>H3=upd H5 na (.lst ((bs2.take i).map fun b=>V.str b.1))) (by repeat' constructor) hil ?_⟩
         rw [bE]
         congr 2
         rw [D1,hbi,DS]
         rfl
       subst e
       have et:(bs2.take vb2.length).map (fun b=>V.str b.1)=(bs2.map (·.1)).map V.str:=by rw [hvl,Ec,EV]; rfl
       rw [et]
       have s7:ah H5 (upd H5 na (.lst ((bs2.map (·.1)).map V.str))):=af hna _
       have g7:(upd H5 na (.lst ((bs2.map (·.1)).map V.str))) na=some (.lst ((bs2.map (·.1)).map V.str)):=ae
       generalize upd H5 na (.lst ((bs2.map (·.1)).map V.str))=H7 at s7 g7 ⊢
       refine ⟨na,_,rfl,.inl (ao.of g7),rfl,gm _,_,rfl,?_⟩
       rw [show (if true=true then !jE (V.str "zed") ((bs2.map (·.1)).map V.str) else jE (V.str "zed") ((bs2.map (·.1)).map V.str)) = !decide (("zed":Str)∈bs2.map (·.1)) by rw [if_pos rfl,dQ]]
       refine az (fun c5=>?_) (fun c5=>?_)
       · have c5':("zed":Str) ∉ bs2.map (·.1):=fun z=>by rw [decide_eq_true z] at c5; exact absurd c5 (by decide)
         refine ⟨_,rfl,_,rfl,.ref p2,xk / 8,bs2,ins,nds2,F + i,d,rfl,pa2'.same s7,pg2,hF2,hd,⟨by omega,c5'⟩,fun v2 H6 bs3 nds3 s6 pa3 pg3 kn3=>?_⟩
         exact done v2 H6 bs3 nds3 1 (aa s7 s6) pa3 pg3 (by decide) kn3
       · exact done (.ref p2) H7 bs2 nds2 0 s7 (pa2'.same s7) (pg2.mono (by omega) (DJ _)) (by decide) (fun b hb _=>hb)
     refine ⟨_,rfl,_,_,rfl,rfl,_,rfl,?_⟩
     refine az (fun c2=>?_) (fun c2=>fK els)
     refine ⟨_,rfl,p2,_,_,_,rfl,rfl,aq.of hp2,rfl,N2,_,rfl,.inl (ao.of hN2),_,_,rfl,rfl,_,rfl,?_⟩
     refine az (fun c6=>ht _ ?_) (fun c6=>els)
     refine ⟨_,rfl,_,rfl,.ref p2,xk / 8,bs2,ins,nds2,F + i,d,rfl,pa2',pg2,hF2,hd,fun v2 H6 nds3 s6 pa3 pg3=>?_⟩
     exact done v2 H6 bs2 nds3 1 s6 pa3 pg3 (by decide) (fun b hb _=>hb)
   obtain ⟨vf,o3,o4,o5,bs2,nds2,rfl,s5,pa2,pg2,kn⟩:=z
   have hx5:=s5 _ _ hxl
   refine kR _ _ ?_
   clear kR
   refine a8 fun Rk kR=>?_
   have pg3:Pg bs2 ins nds2 (F + 2) d:=pg2.mono (by omega) (DJ _)
   refine ⟨_,rfl,xl,_,_,_,rfl,rfl,ao.of hx5,a3,_,_,rfl,rfl,(by show (0:Int) < 3; decide),rfl,_,rfl,?_⟩
   refine az (fun c1=>?_) (fun c1=>?_)
   · refine ⟨_,rfl,_,rfl,xl,_,_,_,rfl,rfl,ao.of hx5,a4,vf,x4,bs2,ins,nds2,F + 2,d,rfl,pa2,pg3,by omega,hd,fun v2 H6 nds3 s6 pa3 pg4=>?_⟩
     refine aw ?_
     refine kR _ _ ?_
     exact ⟨_,rfl,q v2 H6 bs2 nds3 (aa s5 s6) pa3 pg4 kn⟩
   · refine kR _ _ ?_
     exact ⟨_,rfl,q vf H5 bs2 nds2 s5 pa2 (pg3.mono (E4 _) (Nat.le_succ d)) kn⟩
theorem qx (s:Src K mg "_law_other" sOther)(m_len:mg "len"=none)(m_range:mg "range"=none)(TU0:aF P w K mg base "_law_turned" ["program","by"] 2 fY)(ID0:aF P w K mg base "_law_idle" ["program","number"] 1 jr)(RS0:aF P w K mg base "_law_resized" ["program","number"] 1 spResz)(BO0:aF P w K mg base "_law_boxed" ["program","number"] 1 spBoxed)(SP0:aF P w K mg base "_law_spoilt" ["program","number"] 1 d6):aF P w K mg base "_law_other" ["program","xs"] 3 iG:=
 let ⟨f,fd,F,m⟩:=s
 ⟨f,fd,t5 F m_len m_range TU0 ID0 RS0 BO0 SP0,F.kp,cu F fun _ _ _ _ _ _ _ _=>rfl,m⟩
/-! ### _law_pair -/
structure ya (H:Hp)(v1 v2:V)(b1 b2:List (Str×Int))(ins:List Str)(n1 n2:List Nd)(F:Int):Prop where
 p1:aI H v1 b1 ins n1
 p2:aI H v2 b2 ins n2
 g1:Pg b1 ins n1 F 5
 g2:Pg b2 ins n2 F 5
 k:pT ins b1 b2
def n9 (K:DA):Sp:=fun vs H Q _=>∃(a:Addr) (ns:List Int) (most:Int),vs=[.ref a,.int most]/\ao K H a (ns.map V.int)/\0 < most/\most<=50/\∀(p:Addr) (v1 v2:V) (H':Hp) (b1 b2:List (Str×Int)) (ins:List Str) (n1 n2:List Nd),ah H H'->H' p=some (.tup [v1,v2])->ya H' v1 v2 b1 b2 ins n1 n2 (most + 2)\/ya H' v2 v1 b2 b1 ins n2 n1 (most + 2)->Q (.ref p) H'
theorem nW:au ["script","most","one","other"] ["script","most"] (ag sPair):=⟨rfl,rfl,rfl,by decide +kernel,rfl,by decide +kernel,by decide +kernel⟩
theorem cO:(ag sPair).names.lookup (DD "_law_cell_at")=some .globalImplicit:=by decide +kernel
theorem gD:(ag sPair).names.lookup (DD "_law_digits")=some .globalImplicit:=by decide +kernel
theorem ij:(ag sPair).names.lookup (DD "_law_other")=some .globalImplicit:=by decide +kernel
theorem fE:(ag sPair).names.lookup (DD "_law_program")=some .globalImplicit:=by decide +kernel
theorem wo {f:Addr}{fd:FuncData}(F:cB K "_law_pair" "_law_pair" sPair f fd)(PR0:aF P w K mg base "_law_program" ["script","most"] 4 (kX K))(DG0:aF P w K mg base "_law_digits" ["cell","many","top"] 1 bZ)(CE0:aF P w K mg base "_law_cell_at" ["script","k"] 1 (gM K))(OT0:aF P w K mg base "_law_other" ["program","xs"] 3 iG):aL P w K mg base CX0 5 f fd ["script","most"] (n9 K):=by
 refine F.ok nW (fun vs H Q E h=>?_) (fun cdv A outer s H vs Q E hr h=>?_)
 · obtain ⟨a,ns,most,rfl,_⟩:=h
   rfl
 · obtain ⟨a,ns,most,rfl,hS,hm0,hm9,q⟩:=h
   have PR:=PR0.mono (show 4<=4 by omega)
   have DG:=DG0.mono (show 1<=4 by omega)
   have CE:=CE0.mono (show 1<=4 by omega)
   have OT:=OT0.mono (show 3<=4 by omega)
   refine fI ⟨_,(G3 (G9 2 nW.nd (Hj PR hr fE (GZ (GY 0) (GZ (GY 1) G0))))
     (G3 (G9 3 nW.nd (Hj OT hr ij (GZ (GY 2) (GZ (Hj DG hr gD (GZ (Hj CE hr cO (GZ (GY 0) (GZ G1 G0))) (GZ G1 (GZ G1 G0)))) G0))))
     (G3 (Hn (Hk Hw (G4 Hq (Hj CE hr cO (GZ (GY 0) (GZ G1 G0))) G1) G1) (G6 (Hi (G8 (GZ (GY 3) (GZ (GY 2) G0))))) Ho)
     (G6 (Hi (G8 (GZ (GY 2) (GZ (GY 3) G0)))))))),?_⟩
   refine ⟨_,rfl,_,rfl,a,ns,most,rfl,hS,hm0,by omega,fun v1 H1 b1 ins n1 s1 pa1 pg1=>?_⟩
   refine aw ?_
   refine ⟨_,rfl,_,rfl,a,ns,1,rfl,ah.seq s1 hS,by decide,fun c=>⟨c,5,720720,rfl,by decide,by decide,by decide,by decide,fun xl row hxl hR=>?_⟩⟩
   have s2:ah H1 (upd H1 xl (.lst (row.map V.int))):=af hxl _
   have g2:(upd H1 xl (.lst (row.map V.int))) xl=some (.lst (row.map V.int)):=ae
   generalize upd H1 xl (.lst (row.map V.int))=H2 at s2 g2 ⊢
   refine ⟨v1,xl,row,b1,ins,n1,most,4,rfl,g2,hR,pa1.same s2,pg1,by omega,by decide,fun v2 H3 b2 n2 s3 pa2 pg2 kn=>?_⟩
   refine aw ?_
   have s13:=aa s2 s3
   have s03:=aa s1 s13
   have two:∀H',ah H3 H'->ya H' v1 v2 b1 b2 ins n1 n2 (most + 2):=fun H' s=>⟨(pa1.same s13).same s,pa2.same s,pg1.mono (by omega) (by decide),pg2,kn⟩
   refine ⟨_,rfl,a,ns,0,rfl,ah.seq s03 hS,E4 _,fun c=>⟨_,_,rfl,rfl,(by show (0:Int) < 2; decide),rfl,_,rfl,?_⟩⟩
   refine az (fun c1=>?_) (fun c1=>?_)
   · refine ⟨_,rfl,_,rfl,JC,fun p hp=>?_⟩
     exact q p v2 v1 _ b2 b1 ins n2 n1 (cK s03 hp) ae (.inr (two _ (af hp _)))
   · refine ⟨_,rfl,_,rfl,JC,fun p hp=>?_⟩
     exact q p v1 v2 _ b1 b2 ins n1 n2 (cK s03 hp) ae (.inl (two _ (af hp _)))
theorem sW (s:Src K mg "_law_pair" sPair)(PR0:aF P w K mg base "_law_program" ["script","most"] 4 (kX K))(DG0:aF P w K mg base "_law_digits" ["cell","many","top"] 1 bZ)(CE0:aF P w K mg base "_law_cell_at" ["script","k"] 1 (gM K))(OT0:aF P w K mg base "_law_other" ["program","xs"] 3 iG):aF P w K mg base "_law_pair" ["script","most"] 5 (n9 K):=
 let ⟨f,fd,F,m⟩:=s
 ⟨f,fd,wo F PR0 DG0 CE0 OT0,F.kp,cu F fun _ _ _ _ _ _ _ _=>rfl,m⟩
end
end TW
set_option Elab.async false
set_option linter.all false
set_option maxRecDepth 100000
namespace TW
open PySem L2
/-! ### a def with defaults: dV is the tuple of them -/
structure vc (K:DA)(x qual:Str)(st:Stmt)(dV:Value)(f:Addr)(fd:FuncData):Prop where
 ex:∃(oc:Value) (od:Option Addr) (kV doc pm:Value) (an:Option Addr) (cdv ct:Value) (osl:Array (Option Value)),
   fd=EA x qual (bU st) (bC st) (ag st) dV kV doc pm an cdv ct/\K.lookup f=some ⟨oc,od,.func fd,osl⟩ /\ E7 K cdv qual=true
 kp:ER K (.ref f)=true
section
variable {P:Program}{w:World}{K:DA}{mg:Str->Option Value}{base:Heap}
theorem vc.ok {x qual:Str}{st:Stmt}{dV:Value}{f:Addr}{fd:FuncData}{N ps:List Str}{k:Nat}{sp:Sp}(F:vc K x qual st dV f fd)(S:au N ps (ag st))(len:∀vs H Q E,sp vs H Q E->vs.length=ps.length)
   (hbody:∀(cdv:Value) (A:Around) (outer:List Env) (s:Shared) (H:Hp) (vs:List V) (Q:VK) (E:XK),cM k (A.deeper (PyProof.Rows.envOfC qual (ag st) s.heap.objs.size f cdv))->sp vs H Q E ->
     ∃t,lg (mU CX0 P w K mg base N qual (ag st) f cdv A outer s H E).nox (bC st) t/\t { nx:=fun _ H'=>Q .aU H',rt:=Q } (start N vs) H):aL P w K mg base CX0 (k + 1) f fd ps sp:=by
 obtain ⟨oc,od,kV,doc,pm,an,cdv,ct,osl,rfl,lk,hcd⟩:=F.ex
 refine xq lk hcd S len fun A outer s H vs Q E hr hsp=>?_
 obtain ⟨t,h,q⟩:=hbody cdv A outer s H vs Q E hr hsp
 exact ⟨t,h.nox,q⟩
end
/-- a def with one default,a text -/
def xZ (K:DA)(mg:Str->Option Value)(x:Str)(st:Stmt)(d:Str):Prop:=
 ∃f fd T tk oc od n sl,vc K x x st (.ref T) f fd/\mg x=some (.ref f)/\K.lookup T=some ⟨oc,od,.seq #[.str d tk] n,sl⟩
theorem aB {K:DA}{h:Heap}{mg:Str->Option Value}{x:Str}{st:Stmt}{od an:Option Addr}{sl:Array (Option Value)}{oc kV dc pm cd ct:Value}{f:Addr}(X:K.In h)(G:h.Ns mainGlobals mg)(a:PySem.W.nsIn K mainGlobals x=some (some (.ref f)))
   (l:K.lookup f=some ⟨oc,od,.func (EA x x (bU st) (bC st) (ag st) .none kV dc pm an cd ct),sl⟩) (c:E7 K cd x=true) (k:ER K (.ref f)=true):Src K mg x st:=⟨_,_,yp l c k,Gq X G a⟩
theorem w5 {K:DA}{h:Heap}{mg:Str->Option Value}{x d:Str}{st:Stmt}{od an odT:Option Addr}{sl slT:Array (Option Value)}{oc kV dc pm cd ct ocT:Value}{f T:Addr}{tk:Tok}{nT:Nat}(X:K.In h)(G:h.Ns mainGlobals mg)(a:PySem.W.nsIn K mainGlobals x=some (some (.ref f)))
   (l:K.lookup f=some ⟨oc,od,.func (EA x x (bU st) (bC st) (ag st) (.ref T) kV dc pm an cd ct),sl⟩) (c:E7 K cd x=true) (k:ER K (.ref f)=true) (lT:K.lookup T=some ⟨ocT,odT,.seq #[.str d tk] nT,slT⟩):xZ K mg x st d:=⟨_,_,_,_,_,_,_,_,⟨⟨_,_,_,_,_,_,_,_,_,rfl,l,c⟩,k⟩,Gq X G a,lT⟩
structure An (w:World)(K:DA)(mg:Str->Option Value):Prop where
 s_refuse_worths:Src K mg "refuse_worths" (top 5)
 s_worth_by:Src K mg "worth_by" (top 7)
 s_holds_by:Src K mg "holds_by" (top 8)
 s_step_at:Src K mg "step_at" (top 10)
 s_worths_put:Src K mg "worths_put" (top 11)
 s_input_sizes:Src K mg "input_sizes" (top 12)
 s_beginning_of:Src K mg "beginning_of" (top 13)
 s_run_of:Src K mg "run_of" (top 14)
 s_refuse_no_pair:Src K mg "refuse_no_pair" (top 16)
 s_said_alike:Src K mg "said_alike" (top 17)
 s_numbers_that_settle:Src K mg "numbers_that_settle" (top 18)
 s_first_said:Src K mg "first_said" (top 19)
 s_alike_for:Src K mg "alike_for" (top 21)
 s_law_cell_at:Src K mg "_law_cell_at" (top 23)
 s_law_digits:Src K mg "_law_digits" (top 24)
 s_law_sum:Src K mg "_law_sum" (top 25)
 s_law_condition:Src K mg "_law_condition" (top 26)
 s_law_node:Src K mg "_law_node" (top 27)
 s_law_program:Src K mg "_law_program" (top 28)
 s_law_led:Src K mg "_law_led" (top 29)
 s_law_turned:Src K mg "_law_turned" (top 30)
 s_law_idle:Src K mg "_law_idle" (top 31)
 s_law_spoilt:Src K mg "_law_spoilt" (top 32)
 s_law_boxed:Src K mg "_law_boxed" (top 33)
 s_law_resized:Src K mg "_law_resized" (top 34)
 s_law_other:Src K mg "_law_other" (top 35)
 s_law_pair:Src K mg "_law_pair" (top 36)
 s_law_worth:Src K mg "_law_worth" (top 37)
 s_law_holds:Src K mg "_law_holds" (top 38)
 s_law_known:Src K mg "_law_known" (top 39)
 s_law_step:Src K mg "_law_step" (top 40)
 s_law_start:Src K mg "_law_start" (top 41)
 s_law_inputs:Src K mg "_law_inputs" (top 42)
 s_law_who:Src K mg "_law_who" (top 43)
 s_law_behind:Src K mg "_law_behind" (top 44)
 s_law_walk:Src K mg "_law_walk" (top 45)
 s_law_copy:Src K mg "_law_copy" (top 48)
 s_law_alike:Src K mg "_law_alike" (top 49)
 s_law:Src K mg "law" (top 50)
 s_known_worths:xZ K mg "known_worths" (top 6) "box"
 m_len:mg "len"=none
 m_list:mg "list"=none
 m_range:mg "range"=none
 m_zip:mg "zip"=none
 m_dict:mg "dict"=none
 m_int:mg "int"=none
 m_isinstance:mg "isinstance"=none
 m_bool:mg "bool"=none
 m_tuple:mg "tuple"=none
 m_max:mg "max"=none
 m_min:mg "min"=none
 m_sum:mg "sum"=none
 m_enumerate:mg "enumerate"=none
 m_str:mg "str"=none
 m_ValueError:mg "ValueError"=none
end TW
set_option Elab.async false
set_option linter.all false
set_option maxRecDepth 100000
set_option exponentiation.threshold 4000
set_option maxHeartbeats 1000000
namespace TW
open PySem L2
section
variable {P:Program}{w:World}{K:DA}{mg:Str->Option Value}{base:Heap}
abbrev sWorthBy:Stmt:=top 7
/-! ### worth_by -/
/-- a dict of worths,its keys boxes' sums -/
def rF (H:Hp)(a:Addr)(P:Str->Str->Prop)(W:Str->Str->Int):Prop:=∃kvs,H a=some (.dT kvs)/\∀t x,P t x->bq kvs [.inr t,.inr x]=some (.int (W t x))
def rJ (P:Str->Str->Prop):Prop:=∀t x,P t x->t="box"\/t="mine"\/t="yours"
def b7 (n:Nat):Sp:=fun vs H Q _=>∃(a:Addr) (v:V) (e:E) (Pb:Str->Str->Prop) (W:Str->Str->Int),vs=[.ref a,v]/\rF H a Pb W/\rJ Pb/\gj H v e/\e.isS/\e.okIn Pb/\e.dep < n/\Q (.int (e.worth W)) H
theorem rj:au ["known","sum_told"] ["known","sum_told"] (ag sWorthBy):=⟨rfl,rfl,rfl,by decide +kernel,rfl,by decide +kernel,by decide +kernel⟩
theorem bz:(ag sWorthBy).names.lookup (DD "worth_by")=some .globalImplicit:=by decide +kernel
theorem uc {n:Nat}{f:Addr}{fd:FuncData}(F:cB K "worth_by" "worth_by" sWorthBy f fd)(G:aF P w K mg base "worth_by" ["known","sum_told"] (n + 1) (b7 n)) :
   aL P w K mg base CX0 (n + 2) f fd ["known","sum_told"] (b7 (n + 1)):=by
 refine F.ok rj (fun vs H Q E h=>?_) (fun cdv A outer s H vs Q E hr h=>?_)
 · obtain ⟨a,v,e,Pb,W,rfl,_⟩:=h
   rfl
 · obtain ⟨a,v,e,Pb,W,rfl,kn,tg,ev,es,ok,hd,q⟩:=h
   refine ⟨_,HY (G3 (Hn (Hk Hw (G2 G5 (GY 1) G1) G7) (G6 (Hi (G2 G5 (GY 1) G1))) Ho)
     (G3 (Hn (Hk Hw (G2 G5 (GY 1) G1) G7) (G6 (Hi (G4 HF (Hj G hr bz (GZ (GY 0) (GZ (G2 G5 (GY 1) G1) G0))) (Hj G hr bz (GZ (GY 0) (GZ (G2 G5 (GY 1) G1) G0)))))) Ho)
     (G3 (Hn (Hk Hw (G2 G5 (GY 1) G1) G7) (G6 (Hi (G4 Ii (Hj G hr bz (GZ (GY 0) (GZ (G2 G5 (GY 1) G1) G0))) (Hj G hr bz (GZ (GY 0) (GZ (G2 G5 (GY 1) G1) G0)))))) Ho)
     (G6 (Hi (L3.vA (bB hr _ (by decide)) (GY 0) (GY 1))))))),?_⟩
   cases e with
   | num m=>
     obtain ⟨p,rfl,hp⟩:=ev
     refine ⟨_,rfl,p,_,_,_,rfl,rfl,aq.of hp,rfl,rfl,_,rfl,?_⟩
     refine az (fun _=>?_) (fun c=>absurd (decide_eq_true rfl) c)
     exact ⟨_,rfl,p,_,_,_,rfl,rfl,aq.of hp,rfl,q⟩
   | box t x=>
     obtain ⟨p,rfl,hp⟩:=ev
     obtain ⟨kvs,hk,hv⟩:=kn
     have ht:=tg t x ok
     refine ⟨_,rfl,p,_,_,_,rfl,rfl,aq.of hp,rfl,rfl,_,rfl,?_⟩
     refine az (fun c=>?_) (fun _=>?_)
     · have:=of_decide_eq_true c
       injection this with z
       subst z
       exact absurd ht (by decide)
     refine ⟨_,rfl,p,_,_,_,rfl,rfl,aq.of hp,rfl,rfl,_,rfl,?_⟩
     refine az (fun c=>?_) (fun _=>?_)
     · have:=of_decide_eq_true c
       injection this with z
       subst z
       exact absurd ht (by decide)
     refine ⟨_,rfl,p,_,_,_,rfl,rfl,aq.of hp,rfl,rfl,_,rfl,?_⟩
     refine az (fun c=>?_) (fun _=>?_)
     · have:=of_decide_eq_true c
       injection this with z
       subst z
       exact absurd ht (by decide)
     refine ⟨_,rfl,_,rfl,a,_,rfl,?_,q⟩
     have g:=eP.t (k:=[.inr t,.inr x]) hk hp
     rw [hv t x ok] at g
     exact g
   | yes=>exact es.elim
   | nt a=>exact es.elim
   | two k e1 e2=>
     obtain ⟨x,y,⟨p,rfl,hp⟩,ax,ay⟩:=ev
     have hd':max e1.dep e2.dep + 1 < n + 1:=hd
     cases k with
     | plus=>
       refine ⟨_,rfl,p,_,_,_,rfl,rfl,aq.of hp,rfl,rfl,_,rfl,?_⟩
       refine az (fun c=>absurd (of_decide_eq_true c) (by decide)) (fun _=>?_)
       refine ⟨_,rfl,p,_,_,_,rfl,rfl,aq.of hp,rfl,rfl,_,rfl,?_⟩
       refine az (fun _=>?_) (fun c=>absurd (decide_eq_true rfl) c)
       refine ⟨_,rfl,_,rfl,p,_,_,_,rfl,rfl,aq.of hp,rfl,a,x,e1,Pb,W,rfl,kn,tg,ax,es.1,ok.1,by omega,?_⟩
       refine ⟨_,rfl,_,rfl,p,_,_,_,rfl,rfl,aq.of hp,rfl,a,y,e2,Pb,W,rfl,kn,tg,ay,es.2,ok.2,by omega,?_⟩
       exact ⟨_,_,rfl,rfl,q⟩
     | less=>
       refine ⟨_,rfl,p,_,_,_,rfl,rfl,aq.of hp,rfl,rfl,_,rfl,?_⟩
       refine az (fun c=>absurd (of_decide_eq_true c) (by decide)) (fun _=>?_)
       refine ⟨_,rfl,p,_,_,_,rfl,rfl,aq.of hp,rfl,rfl,_,rfl,?_⟩
       refine az (fun c=>absurd (of_decide_eq_true c) (by decide)) (fun _=>?_)
       refine ⟨_,rfl,p,_,_,_,rfl,rfl,aq.of hp,rfl,rfl,_,rfl,?_⟩
       refine az (fun _=>?_) (fun c=>absurd (decide_eq_true rfl) c)
       refine ⟨_,rfl,_,rfl,p,_,_,_,rfl,rfl,aq.of hp,rfl,a,x,e1,Pb,W,rfl,kn,tg,ax,es.1,ok.1,by omega,?_⟩
       refine ⟨_,rfl,_,rfl,p,_,_,_,rfl,rfl,aq.of hp,rfl,a,y,e2,Pb,W,rfl,kn,tg,ay,es.2,ok.2,by omega,?_⟩
       exact ⟨_,_,rfl,rfl,q⟩
     | same=>exact es.elim
     | under=>exact es.elim
     | both=>exact es.elim
theorem nQ {f:Addr}{fd:FuncData}:aL P w K mg base CX0 1 f fd ["known","sum_told"] (b7 0):=by
 have no:∀vs H Q E,¬ b7 0 vs H Q E:=fun vs H Q E h=>by
   obtain ⟨_,_,_,_,_,_,_,_,_,_,_,h1,_⟩:=h
   omega
 exact ⟨fun vs H Q E h=>absurd h (no vs H Q E),fun A outer s H args us vs Q E _ _ _ _ h=>absurd h (no vs H Q E)⟩
theorem qz (s:Src K mg "worth_by" sWorthBy):∀n:Nat,aF P w K mg base "worth_by" ["known","sum_told"] (n + 1) (b7 n):=by
 obtain ⟨f,fd,F,m⟩:=s
 have b:Binds K fd ["known","sum_told"] []:=cu F fun _ _ _ _ _ _ _ _=>rfl
 intro n
 have all:aL P w K mg base CX0 (n + 1) f fd ["known","sum_told"] (b7 n):=by
   induction n with
   | zero=>exact nQ
   | succ n ih=>exact uc F ⟨f,fd,ih,F.kp,b,m⟩
 exact ⟨f,fd,all,F.kp,b,m⟩
end
end TW
set_option Elab.async false
set_option linter.all false
set_option maxRecDepth 100000
set_option exponentiation.threshold 4000
set_option maxHeartbeats 1000000
namespace TW
open PySem L2
section
variable {P:Program}{w:World}{K:DA}{mg:Str->Option Value}{base:Heap}
theorem rF.same {H H':Hp}{a:Addr}{Pb:Str->Str->Prop}{W:Str->Str->Int}(h:rF H a Pb W)(s:ah H H'):rF H' a Pb W:=let ⟨kvs,e,v⟩:=h; ⟨kvs,s _ _ e,v⟩
end
end TW
set_option Elab.async false
set_option linter.all false
set_option maxRecDepth 100000
set_option exponentiation.threshold 4000
set_option maxHeartbeats 1000000
namespace TW
open PySem L2
section
variable {P:Program}{w:World}{K:DA}{mg:Str->Option Value}{base:Heap}
abbrev sRefW:Stmt:=top 5
/-! ### refuse_worths -/
theorem Paired.get2 {α β:Type}{F:α->β->Prop}{l₁:List α}{l₂:List β}{i:Nat}{x:α}{y:β}(h:Paired F l₁ l₂)(e1:l₁[i]? = some x)(e2:l₂[i]? = some y):F x y:=by
 obtain ⟨z,h1,h2⟩:=Paired.get h e1
 rw [e2] at h1
 cases h1
 exact h2
def Within (s w:Int):Prop:=0<=w/\w < s
def ju:Sp:=fun vs H Q _=>∃(sa wa:Addr) (szs ws:List Int),vs=[.ref sa,.ref wa]/\H sa=some (.lst (szs.map V.int))/\H wa=some (.lst (ws.map V.int))/\Paired Within szs ws/\∀H',ah H H'->Q .aU H'
theorem nX:au ["sizes","worths","size","worth"] ["sizes","worths"] (ag sRefW):=⟨rfl,rfl,rfl,by decide +kernel,rfl,by decide +kernel,by decide +kernel⟩
theorem jW:(ag sRefW).names.lookup (DD "len")=some .globalImplicit:=by decide +kernel
theorem ql:(ag sRefW).names.lookup (DD "zip")=some .globalImplicit:=by decide +kernel
theorem wt {f:Addr}{fd:FuncData}(F:cB K "refuse_worths" "refuse_worths" sRefW f fd)(m_len:mg "len"=none)(m_zip:mg "zip"=none):aL P w K mg base CX0 1 f fd ["sizes","worths"] ju:=by
 refine F.ok nX (fun vs H Q E h=>?_) (fun cdv A outer s H vs Q E hr h=>?_)
 · obtain ⟨sa,wa,szs,ws,rfl,_⟩:=h
   rfl
 · obtain ⟨sa,wa,szs,ws,rfl,hs,hw,pw,q⟩:=h
   refine ⟨_,HY (G3 (Hn (Hk Ir (Hv Hz jW m_len DQ (GZ (GY 1) G0)) (Hv Hz jW m_len DQ (GZ (GY 0) G0))) IE Ho)
     (G6 (HW (L3.iZ ql m_zip (GZ (GY 0) (GZ (GY 1) G0))) (HG 2 (Hl (Hh 2 nX.nd) (Hl (Hh 3 nX.nd) HH))) (G6 (Hn (HM (Ik (Hk HL (GY 3) G1) (Il (Hk L3.AK (GY 3) (GY 2))))) IE Ho))))),?_⟩
   have hl:szs.length=ws.length:=Paired.length pw
   have hlm:(szs.map V.int).length=(ws.map V.int).length:=by rw [DC,DC]; exact hl
   refine ⟨_,rfl,wa,_,rfl,.inl (ao.of hw),_,rfl,sa,_,rfl,.inl (ao.of hs),rfl,_,rfl,?_⟩
   refine az (fun c=>?_) (fun _=>?_)
   · rw [hlm,decide_eq_true rfl] at c
     exact absurd c (by decide)
   refine ⟨_,rfl,_,rfl,sa,wa,rfl,⟨_,ao.of hs⟩,⟨_,ao.of hw⟩,?_⟩
   refine vE (xs:=szs.map V.int) (ys:=ws.map V.int) hlm (fun i σ H2=>(∃v1 v2,σ=[some (.ref sa),some (.ref wa),v1,v2])/\ah H H2) ⟨⟨_,_,rfl⟩,same_refl _⟩ (fun i σ H2 _ z=>⟨ao.of (z.2 _ _ hs),ao.of (z.2 _ _ hw)⟩) (fun i x y p σ H2 hx hy z hp=>?_) (fun σ H2 z=>?_)
   · obtain ⟨⟨v1,v2,rfl⟩,z⟩:=z
     obtain ⟨s0,e1,rfl⟩:=cR hx
     obtain ⟨w0,e2,rfl⟩:=cR hy
     obtain ⟨g0,g1⟩:=Paired.get2 pw e1 e2
     refine ⟨p,_,rfl,aq.of ae,rfl,_,_,rfl,_,_,rfl,rfl,?_⟩
     refine ⟨_,rfl,_,_,rfl,rfl,_,rfl,?_⟩
     refine az (fun c=>absurd (of_decide_eq_true c) (by omega)) (fun _=>?_)
     refine ⟨_,rfl,_,rfl,_,_,rfl,rfl,_,rfl,?_⟩
     refine az (fun c=>absurd (of_decide_eq_true c) (by omega)) (fun _=>?_)
     exact ⟨⟨_,_,rfl⟩,aa z (af hp _)⟩
   · exact q _ z.2
theorem sY (s:Src K mg "refuse_worths" sRefW)(m_len:mg "len"=none)(m_zip:mg "zip"=none):aF P w K mg base "refuse_worths" ["sizes","worths"] 1 ju:=
 let ⟨f,fd,F,m⟩:=s
 ⟨f,fd,wt F m_len m_zip,F.kp,cu F fun _ _ _ _ _ _ _ _=>rfl,m⟩
/-! ### box_sizes -/
def xT (H:Hp)(v:V)(bs:List (Str×Int)):Prop:=∃p B I N vb,v=.ref p/\H p=some (.tup [.ref B,I,N])/\H B=some (.lst vb)/\Paired (cy H) vb bs
end
end TW
set_option Elab.async false
set_option linter.all false
set_option maxRecDepth 100000
set_option exponentiation.threshold 4000
set_option maxHeartbeats 1000000
namespace TW
open PySem L2
section
variable {P:Program}{w:World}{K:DA}{mg:Str->Option Value}{base:Heap}
abbrev sKnownW:Stmt:=top 6
/-! ### known_worths -/
def gZ:List (Str×Int)->List Int->Str->Int
 | b :: bs,w :: ws,x=>if b.1=x then w else gZ bs ws x
 | _,_,_=>0
def bH (side:Str):List (Str×Int)->List Int->List (List Key×V)
 | b :: bs,w :: ws=>([.inr side,.inr b.1],.int w) :: bH side bs ws
 | _,_=>[]
theorem gH (side:Str):∀(bs:List (Str×Int)) (ws:List Int),(bH side bs ws).length<=bs.length
 | [],_=>by simp [bH]
 | _ :: _,[]=>by simp [bH]
 | _ :: bs,_ :: ws=>by simp [bH]; exact gH side bs ws
theorem dh (side:Str):∀(bs:List (Str×Int)) (ws:List Int) (x:Str),bs.length=ws.length->x∈bs.map (·.1)->bq (bH side bs ws) [.inr side,.inr x]=some (.int (gZ bs ws x))
 | [],_,_,_,h=>by simp at h
 | _ :: _,[],_,h,_=>by simp at h
 | b :: bs,w :: ws,x,hl,hx=>by
   show bq (([.inr side,.inr b.1],V.int w) :: bH side bs ws) _=some (.int (if b.1=x then w else gZ bs ws x))
   by_cases e:b.1=x
   · rw [if_pos e,br (p:=(([.inr side,.inr b.1]:List Key),V.int w)) (by rw [← e])]
   · rw [if_neg e,bj (p:=(([.inr side,.inr b.1]:List Key),V.int w)) (fun z=>by injection z with _ z; injection z with z _; injection z with z; exact e z)]
     refine dh side bs ws x (by simpa using hl) ?_
     rcases List.mem_cons.mp hx with z | z
     · exact absurd z.symm e
     · exact z
theorem fg (side:Str):∀(bs:List (Str×Int)) (ws:List Int) (s x:Str),(s=side->x ∉ bs.map (·.1))->bq (bH side bs ws) [.inr s,.inr x]=none
 | [],_,_,_,_=>rfl
 | _ :: _,[],_,_,_=>rfl
 | b :: bs,w :: ws,s,x,h=>by
   show bq (([.inr side,.inr b.1],V.int w) :: bH side bs ws) _=none
   rw [bj (p:=(([.inr side,.inr b.1]:List Key),V.int w)) (fun z=>by injection z with z1 z; injection z1 with z1; injection z with z _; injection z with z; exact h z1.symm (List.mem_cons.mpr (.inl z.symm)))]
   exact fg side bs ws s x fun e z=>h e (List.mem_cons.mpr (.inr z))
theorem mq {κ:Type}[DecidableEq κ]{kvs:List (κ×V)}{k:κ}{v:V}(h:bq kvs k=none):putK kvs k v=kvs++[(k,v)]:=by
 unfold putK
 rw [d8,h]
 rfl
theorem fh (side:Str):∀(bs:List (Str×Int)) (ws:List Int) (b:Str×Int) (w:Int),bs.length=ws.length->bH side (bs++[b]) (ws++[w])=bH side bs ws++[([.inr side,.inr b.1],.int w)]
 | [],[],_,_,_=>rfl
 | [],_ :: _,_,_,h=>by simp at h
 | _ :: _,[],_,_,h=>by simp at h
 | b :: bs,w :: ws,c,v,h=>by
   show _ :: bH side (bs++[c]) (ws++[v])=_
   rw [fh side bs ws c v (by simpa using h)]
   rfl
theorem oZ {bs:List (Str×Int)}(nd:(bs.map (·.1)).Nodup){i:Nat}{b:Str×Int}(h:bs[i]? = some b):b.1 ∉ (bs.take i).map (·.1):=by
 intro z
 have hi:i < bs.length:=(List.getElem?_eq_some_iff.mp h).1
 have e:bs[i]=b:=(List.getElem?_eq_some_iff.mp h).2
 obtain ⟨c,hc,e2⟩:=List.mem_map.mp z
 obtain ⟨j,hj,e3⟩:=FU hc
 have hj':j < i:=by rw [DM] at hj; omega
 rw [List.getElem_take] at e3
 have k1:(bs.map (·.1))[j]'(by rw [DC]; omega)=(bs.map (·.1))[i]'(by rw [DC]; omega):=by
   rw [List.getElem_map,List.getElem_map,e3,e,e2]
 exact (List.pairwise_iff_getElem.mp nd) j i _ _ hj' k1
def d0:Sp:=fun vs H Q _=>∃(v:V) (wa:Addr) (side:Str) (bs:List (Str×Int)) (ws:List Int),vs=[v,.ref wa,.str side]/\xT H v bs/\(bs.map (·.1)).Nodup/\bs.length<=900/\H wa=some (.lst (ws.map V.int))/\bs.length=ws.length /\
 ∀D H',H D=none->ah H H'->H' D=some (.dT (bH side bs ws))->Q (.ref D) H'
theorem uH:au ["program","worths","side"] ["program","worths","side"] (ag sKnownW):=⟨rfl,rfl,rfl,by decide +kernel,rfl,by decide +kernel,by decide +kernel⟩
theorem lO:(ag sKnownW).names.lookup (DD "zip")=some .globalImplicit:=by decide +kernel
theorem qR {f:Addr}{fd:FuncData}{dV:Value}(F:vc K "known_worths" "known_worths" sKnownW dV f fd)(m_zip:mg "zip"=none):aL P w K mg base CX0 1 f fd ["program","worths","side"] d0:=by
 refine F.ok uH (fun vs H Q E h=>?_) (fun cdv A outer s H vs Q E hr h=>?_)
 · obtain ⟨v,wa,side,bs,ws,rfl,_⟩:=h
   rfl
 · obtain ⟨v,wa,side,bs,ws,rfl,⟨p,B,I,N,vb,rfl,hp,hB,pb⟩,nd,hb4,hw,hlen,q⟩:=h
   refine ⟨_,HY (G6 (Hi (L3.Dj [none,none,none,some 2] ["name","size","worth","side"] (bB hr _ (by decide)) (show aA _ (ag sKnownW) from ⟨rfl,by decide +kernel,by decide +kernel,by decide +kernel⟩) (by rfl) (L3.iZ lO m_zip (GZ (G2 G5 (GY 0) G1) (GZ (GY 1) G0))) (fun _ _ _ _ _=>⟨(HG 2 (Hl (HG 2 (Hl (Hh 0 (show (["name","size","worth","side"]:List Str).Nodup from by decide +kernel)) (Hl (Hh 1 (show (["name","size","worth","side"]:List Str).Nodup from by decide +kernel)) HH))) (Hl (Hh 2 (show (["name","size","worth","side"]:List Str).Nodup from by decide +kernel)) HH))),HU,(G8 (GZ (GY 3) (GZ (GY 0) G0))),(GY 2)⟩)))),?_⟩
   have hvl:vb.length=bs.length:=Paired.length pb
   have hlm:vb.length=(ws.map V.int).length:=by rw [DC]; omega
   refine ⟨_,rfl,p,_,_,_,rfl,rfl,aq.of hp,rfl,_,rfl,B,wa,rfl,⟨_,ao.of hB⟩,⟨_,ao.of hw⟩,fun D hD=>?_⟩
   have nB:B≠D:=ai hB hD
   have nw:wa≠D:=ai hw hD
   refine lE (xs:=vb) (ys:=ws.map V.int) hlm (fun i H2=>(∀b o,H b=some o->H2 b=some o)/\H2 D=some (.dT (bH side (bs.take i) (ws.take i)))) ⟨af hD _,ae⟩ (fun i H2 _ z=>⟨ao.of (z.1 _ _ hB),ao.of (z.1 _ _ hw)⟩) (fun i x y pr H2 hx hy z hpr=>?_) (fun H2 z=>?_)
   · obtain ⟨z,hD2⟩:=z
     obtain ⟨b,hbi,pp,rfl,hpp⟩:=Paired.get pb hx
     obtain ⟨w0,hwi,rfl⟩:=cR hy
     have hil:i < vb.length:=(List.getElem?_eq_some_iff.mp hx).1
     have hpp2:=z _ _ hpp
     refine ⟨pr,_,rfl,aq.of ae,rfl,_,_,rfl,⟨pp,_,rfl,aq.of (by rw [aj (ai hpp2 hpr)]; exact hpp2),rfl,_,_,rfl,_,_,rfl,rfl,_,_,rfl,rfl,?_⟩⟩
     refine dk (A:=fun H3=>vT _ _ D _ H3 _) ?_
     refine ⟨_,rfl,_,rfl,JC,fun kp hkp=>⟨_,rfl,?_⟩⟩
     have nkp:D≠kp:=ai (show (upd H2 pr _) D=some _ by rw [aj (ai hD2 hpr)]; exact hD2) hkp
     have hD3:(upd (upd H2 pr (.tup [.ref pp,.int w0])) kp (.tup [.str side,.str b.1])) D=some (.dT (bH side (bs.take i) (ws.take i))):=by
       rw [aj nkp,aj (ai hD2 hpr)]; exact hD2
     have hl4:=gH side (bs.take i) (ws.take i)
     have hl5:(bs.take i).length<=bs.length:=by rw [DM]; omega
     refine ⟨_,lh.t (k:=[.inr side,.inr b.1]) hD3 ae (En (show _<=1000 by omega) (by decide)),aM (Pv:=fun i H2=>(∀b o,H b=some o->H2 b=some o)/\H2 D=some (.dT (bH side (bs.take i) (ws.take i)))) (by repeat' constructor) hil ⟨fun c o hc=>?_,?_⟩⟩
     · have hc2:=z c o hc
       have n1:c≠D:=ai hc hD
       have hc3:(upd H2 pr (.tup [.ref pp,.int w0])) c=some o:=by rw [aj (ai hc2 hpr)]; exact hc2
       rw [aj n1,aj (ai hc3 hkp)]
       exact hc3
     · rw [ae,mq (fg side _ _ _ _ fun _=>oZ nd hbi),D1,D1,hbi,hwi]
       show _=some (HO.dT (bH side (bs.take i++[b]) (ws.take i++[w0])))
       rw [fh side _ _ b w0 (by rw [DM,DM]; omega)]
   · obtain ⟨z,hD2⟩:=z
     rw [hvl,Ec,hlen,Ec] at hD2
     exact q D H2 hD z hD2
def lj (P:Program)(w:World)(K:DA)(mg:Str->Option Value)(base:Heap)(x:Str)(ps:List Str)(k:Nat)(sp:Sp)(d:Str):Prop:=
 ∃f fd tk,aL P w K mg base CX0 k f fd ps sp/\ER K (.ref f)=true/\Binds K fd ps [.str d tk]/\mg x=some (.ref f)
theorem nu (s:xZ K mg "known_worths" sKnownW "box")(m_zip:mg "zip"=none):lj P w K mg base "known_worths" ["program","worths","side"] 1 d0 "box":=by
 obtain ⟨f,fd,T,tk,oc,od,n,sl,F,m,lT⟩:=s
 refine ⟨f,fd,tk,qR F m_zip,F.kp,?_,m⟩
 obtain ⟨oc,od,kV,doc,pm,an,cdv,ct,osl,rfl,lk,hcd⟩:=F.ex
 intro s us kin hl
 have h2:us.length=2:=by simpa using hl
 match us,h2 with
 | [u1,u2],_=>exact BindsTo.of_defaults rfl (kin _ _ lT) rfl rfl rfl
theorem lj.mono {x:Str}{ps:List Str}{j k:Nat}{sp:Sp}{d:Str}(h:lj P w K mg base x ps j sp d)(hk:j<=k):lj P w K mg base x ps k sp d:=
 let ⟨f,fd,tk,a,b,c,e⟩:=h; ⟨f,fd,tk,a.mono hk,b,c,e⟩
theorem Cj {X:Cx}{x:Str}{d:Str}{p pos:Pos}{ps:List Str}{kk:Nat}{sp:Sp}{e:Expr}{es:List Expr}{t:TA}(D:lj X.prog X.w X.K X.mg X.base x ps kk sp d)(hr:cM kk X.A)(hg:Gl X x)(ha:L3.SA X (e :: es) t)(hdb:(x == ("__debug__":Str))=false:=by decide) :
   L3.SE X (.Call (.Name x p) (e :: es) [] pos) (pQ sp [.str d] E0 t):=
 let ⟨_,_,tk,G,kp,b,m⟩:=D
 ⟨pj G hr hg m kp b (.cons ⟨tk,rfl⟩ .nil) xA ha.h.pa hdb ((ha.h.ns e es rfl).1.h es X.env) ((ha.h.ns e es rfl).2 pos X.env)⟩
end
end TW
set_option Elab.async false
set_option linter.all false
set_option maxRecDepth 100000
set_option exponentiation.threshold 4000
set_option maxHeartbeats 1000000
namespace TW
open PySem L2
section
variable {P:Program}{w:World}{K:DA}{mg:Str->Option Value}{base:Heap}
/-! ### known_for,sum_worth -/
abbrev bxP (bs:List (Str×Int)):Str->Str->Prop:=fun t y=>t="box"/\y∈bs.map (·.1)
theorem cY (bs:List (Str×Int)):rJ (bxP bs):=fun t _ h=>.inl h.1
end
end TW
set_option Elab.async false
set_option linter.all false
set_option maxRecDepth 100000
set_option exponentiation.threshold 4000
set_option maxHeartbeats 1000000
namespace TW
open PySem L2
section
variable {P:Program}{w:World}{K:DA}{mg:Str->Option Value}{base:Heap}
abbrev sHoldsBy:Stmt:=top 8
/-! ### holds_by -/
def cE (n:Nat):Sp:=fun vs H Q _=>∃(a:Addr) (v:V) (e:E) (Pb:Str->Str->Prop) (W:Str->Str->Int),vs=[.ref a,v]/\rF H a Pb W/\rJ Pb/\gj H v e/\e.isC/\e.okIn Pb/\e.dep < n/\Q (.bl (e.holds W)) H
theorem rh:au ["known","condition"] ["known","condition"] (ag sHoldsBy):=⟨rfl,rfl,rfl,by decide +kernel,rfl,by decide +kernel,by decide +kernel⟩
theorem bx:(ag sHoldsBy).names.lookup (DD "worth_by")=some .globalImplicit:=by decide +kernel
theorem bV:(ag sHoldsBy).names.lookup (DD "holds_by")=some .globalImplicit:=by decide +kernel
theorem tZ {n:Nat}{f:Addr}{fd:FuncData}(F:cB K "holds_by" "holds_by" sHoldsBy f fd)(WB:∀n,aF P w K mg base "worth_by" ["known","sum_told"] (n + 1) (b7 n))(G:aF P w K mg base "holds_by" ["known","condition"] (n + 2) (cE n)) :
   aL P w K mg base CX0 (n + 3) f fd ["known","condition"] (cE (n + 1)):=by
 refine F.ok rh (fun vs H Q E h=>?_) (fun cdv A outer s H vs Q E hr h=>?_)
 · obtain ⟨a,v,e,Pb,W,rfl,_⟩:=h
   rfl
 · obtain ⟨a,v,e,Pb,W,rfl,kn,tg,ev,es,ok,hd,q⟩:=h
   have W1:=(WB n).mono (show n + 1<=n + 2 by omega)
   refine ⟨_,HY (G3 (Hn (Hk Hw (G2 G5 (GY 1) G1) G7) (G6 (Hi L3.bl)) Ho)
     (G3 (Hn (Hk Hw (G2 G5 (GY 1) G1) G7) (G6 (Hi (HK Hw (Hj W1 hr bx (GZ (GY 0) (GZ (G2 G5 (GY 1) G1) G0))) (Hj W1 hr bx (GZ (GY 0) (GZ (G2 G5 (GY 1) G1) G0)))))) Ho)
     (G3 (Hn (Hk Hw (G2 G5 (GY 1) G1) G7) (G6 (Hi (HK HL (Hj W1 hr bx (GZ (GY 0) (GZ (G2 G5 (GY 1) G1) G0))) (Hj W1 hr bx (GZ (GY 0) (GZ (G2 G5 (GY 1) G1) G0)))))) Ho)
     (G3 (Hn (Hk Hw (G2 G5 (GY 1) G1) G7) (G6 (Hi (L3.Ci (Hj G hr bV (GZ (GY 0) (GZ (G2 G5 (GY 1) G1) G0)))))) Ho)
     (G6 (Hi (Iv (Hj G hr bV (GZ (GY 0) (GZ (G2 G5 (GY 1) G1) G0))) (L3.wz (Hj G hr bV (GZ (GY 0) (GZ (G2 G5 (GY 1) G1) G0))))))))))),?_⟩
   cases e with
   | num m=>exact es.elim
   | box t x=>exact es.elim
   | yes=>
     obtain ⟨p,rfl,hp⟩:=ev
     refine ⟨_,rfl,p,_,_,_,rfl,rfl,aq.of hp,rfl,rfl,_,rfl,?_⟩
     refine az (fun _=>?_) (fun c=>absurd (decide_eq_true rfl) c)
     exact q
   | nt e1=>
     obtain ⟨x,⟨p,rfl,hp⟩,ax⟩:=ev
     have hd':e1.dep + 1 < n + 1:=hd
     refine ⟨_,rfl,p,_,_,_,rfl,rfl,aq.of hp,rfl,rfl,_,rfl,?_⟩
     refine az (fun c=>absurd (of_decide_eq_true c) (by decide)) (fun _=>?_)
     refine ⟨_,rfl,p,_,_,_,rfl,rfl,aq.of hp,rfl,rfl,_,rfl,?_⟩
     refine az (fun c=>absurd (of_decide_eq_true c) (by decide)) (fun _=>?_)
     refine ⟨_,rfl,p,_,_,_,rfl,rfl,aq.of hp,rfl,rfl,_,rfl,?_⟩
     refine az (fun c=>absurd (of_decide_eq_true c) (by decide)) (fun _=>?_)
     refine ⟨_,rfl,p,_,_,_,rfl,rfl,aq.of hp,rfl,rfl,_,rfl,?_⟩
     refine az (fun _=>?_) (fun c=>absurd (decide_eq_true rfl) c)
     exact ⟨_,rfl,_,rfl,p,_,_,_,rfl,rfl,aq.of hp,rfl,a,x,e1,Pb,W,rfl,kn,tg,ax,es,ok,by omega,_,rfl,q⟩
   | two k e1 e2=>
     obtain ⟨x,y,⟨p,rfl,hp⟩,ax,ay⟩:=ev
     have hd':max e1.dep e2.dep + 1 < n + 1:=hd
     cases k with
     | plus=>exact es.elim
     | less=>exact es.elim
     | same=>
       refine ⟨_,rfl,p,_,_,_,rfl,rfl,aq.of hp,rfl,rfl,_,rfl,?_⟩
       refine az (fun c=>absurd (of_decide_eq_true c) (by decide)) (fun _=>?_)
       refine ⟨_,rfl,p,_,_,_,rfl,rfl,aq.of hp,rfl,rfl,_,rfl,?_⟩
       refine az (fun _=>?_) (fun c=>absurd (decide_eq_true rfl) c)
       refine ⟨_,rfl,_,rfl,p,_,_,_,rfl,rfl,aq.of hp,rfl,a,x,e1,Pb,W,rfl,kn,tg,ax,es.1,ok.1,by omega,?_⟩
       refine ⟨_,rfl,_,rfl,p,_,_,_,rfl,rfl,aq.of hp,rfl,a,y,e2,Pb,W,rfl,kn,tg,ay,es.2,ok.2,by omega,?_⟩
       have eq:decide (V.int (e1.worth W)=V.int (e2.worth W))=decide (e1.worth W=e2.worth W):=decide_eq_decide.mpr ⟨fun z=>by injection z,fun z=>by rw [z]⟩
       refine ⟨rfl,?_⟩
       rw [eq]
       exact q
     | under=>
       refine ⟨_,rfl,p,_,_,_,rfl,rfl,aq.of hp,rfl,rfl,_,rfl,?_⟩
       refine az (fun c=>absurd (of_decide_eq_true c) (by decide)) (fun _=>?_)
       refine ⟨_,rfl,p,_,_,_,rfl,rfl,aq.of hp,rfl,rfl,_,rfl,?_⟩
       refine az (fun c=>absurd (of_decide_eq_true c) (by decide)) (fun _=>?_)
       refine ⟨_,rfl,p,_,_,_,rfl,rfl,aq.of hp,rfl,rfl,_,rfl,?_⟩
       refine az (fun _=>?_) (fun c=>absurd (decide_eq_true rfl) c)
       refine ⟨_,rfl,_,rfl,p,_,_,_,rfl,rfl,aq.of hp,rfl,a,x,e1,Pb,W,rfl,kn,tg,ax,es.1,ok.1,by omega,?_⟩
       refine ⟨_,rfl,_,rfl,p,_,_,_,rfl,rfl,aq.of hp,rfl,a,y,e2,Pb,W,rfl,kn,tg,ay,es.2,ok.2,by omega,?_⟩
       exact ⟨_,_,rfl,rfl,q⟩
     | both=>
       refine ⟨_,rfl,p,_,_,_,rfl,rfl,aq.of hp,rfl,rfl,_,rfl,?_⟩
       refine az (fun c=>absurd (of_decide_eq_true c) (by decide)) (fun _=>?_)
       refine ⟨_,rfl,p,_,_,_,rfl,rfl,aq.of hp,rfl,rfl,_,rfl,?_⟩
       refine az (fun c=>absurd (of_decide_eq_true c) (by decide)) (fun _=>?_)
       refine ⟨_,rfl,p,_,_,_,rfl,rfl,aq.of hp,rfl,rfl,_,rfl,?_⟩
       refine az (fun c=>absurd (of_decide_eq_true c) (by decide)) (fun _=>?_)
       refine ⟨_,rfl,p,_,_,_,rfl,rfl,aq.of hp,rfl,rfl,_,rfl,?_⟩
       refine az (fun c=>absurd (of_decide_eq_true c) (by decide)) (fun _=>?_)
       refine ⟨_,rfl,_,rfl,p,_,_,_,rfl,rfl,aq.of hp,rfl,a,x,e1,Pb,W,rfl,kn,tg,ax,es.1,ok.1,by omega,_,rfl,?_⟩
       have q':Q (.bl (e1.holds W && e2.holds W)) H:=q
       refine az (fun c=>?_) (fun c=>?_)
       · refine ⟨_,rfl,_,rfl,p,_,_,_,rfl,rfl,aq.of hp,rfl,a,y,e2,Pb,W,rfl,kn,tg,ay,es.2,ok.2,by omega,?_⟩
         rw [c,Bool.true_and] at q'
         exact q'
       · rw [Bool.eq_false_iff.mpr c,Bool.false_and] at q'
         exact q'
theorem nP {f:Addr}{fd:FuncData}:aL P w K mg base CX0 2 f fd ["known","condition"] (cE 0):=by
 have no:∀vs H Q E,¬ cE 0 vs H Q E:=fun vs H Q E h=>by
   obtain ⟨_,_,_,_,_,_,_,_,_,_,_,h1,_⟩:=h
   omega
 exact ⟨fun vs H Q E h=>absurd h (no vs H Q E),fun A outer s H args us vs Q E _ _ _ _ h=>absurd h (no vs H Q E)⟩
theorem qw (s:Src K mg "holds_by" sHoldsBy)(WB:∀n,aF P w K mg base "worth_by" ["known","sum_told"] (n + 1) (b7 n)):∀n:Nat,aF P w K mg base "holds_by" ["known","condition"] (n + 2) (cE n):=by
 obtain ⟨f,fd,F,m⟩:=s
 have b:Binds K fd ["known","condition"] []:=cu F fun _ _ _ _ _ _ _ _=>rfl
 intro n
 have all:aL P w K mg base CX0 (n + 2) f fd ["known","condition"] (cE n):=by
   induction n with
   | zero=>exact nP
   | succ n ih=>exact tZ F WB ⟨f,fd,ih,F.kp,b,m⟩
 exact ⟨f,fd,all,F.kp,b,m⟩
end
end TW
set_option Elab.async false
set_option linter.all false
set_option maxRecDepth 100000
set_option exponentiation.threshold 4000
set_option maxHeartbeats 1000000
namespace TW
open PySem L2
section
variable {P:Program}{w:World}{K:DA}{mg:Str->Option Value}{base:Heap}
abbrev sWPut:Stmt:=top 11
abbrev sStepAt:Stmt:=top 10
/-! ### worths_put -/
def fj (bs:List (Str×Int))(ws:List Int)(x:Str)(t:Int):List Int:=List.zipWith (fun b w=>if b.1=x then t % b.2 else w) bs ws
theorem mr {bs:List (Str×Int)}{ws:List Int}{x:Str}{t:Int}{i:Nat}{b:Str×Int}{w:Int}(h1:bs[i]? = some b)(h2:ws[i]? = some w):(fj bs ws x t)[i]? = some (if b.1=x then t % b.2 else w):=by
 unfold fj
 rw [List.getElem?_zipWith,h1,h2]
theorem jj {bs:List (Str×Int)}{ws:List Int}{x:Str}{t:Int}(h:bs.length=ws.length):(fj bs ws x t).length=bs.length:=by
 unfold fj
 rw [List.length_zipWith]
 omega
def jw:Sp:=fun vs H Q _=>∃(v:V) (wa:Addr) (x:Str) (t:Int) (bs:List (Str×Int)) (ws:List Int),vs=[v,.ref wa,.str x,.int t]/\xT H v bs/\bs.length<=900/\(∀b∈bs,1<=b.2)/\H wa=some (.lst (ws.map V.int))/\bs.length=ws.length /\
 ∀l H',H l=none->ah H H'->H' l=some (.lst ((fj bs ws x t).map V.int))->Q (.ref l) H'
theorem zI:au ["program","worths","put_name","told"] ["program","worths","put_name","told"] (ag sWPut):=⟨rfl,rfl,rfl,by decide +kernel,rfl,by decide +kernel,by decide +kernel⟩
theorem qp:(ag sWPut).names.lookup (DD "zip")=some .globalImplicit:=by decide +kernel
theorem wx {f:Addr}{fd:FuncData}(F:cB K "worths_put" "worths_put" sWPut f fd)(m_zip:mg "zip"=none):aL P w K mg base CX0 1 f fd ["program","worths","put_name","told"] jw:=by
 refine F.ok zI (fun vs H Q E h=>?_) (fun cdv A outer s H vs Q E hr h=>?_)
 · obtain ⟨v,wa,x,t,bs,ws,rfl,_⟩:=h
   rfl
 · obtain ⟨v,wa,x,t,bs,ws,rfl,⟨p,B,I,N,vb,rfl,hp,hB,pb⟩,hb4,sz,hw,hlen,q⟩:=h
   refine ⟨_,HY (G6 (Hi (HZ [none,none,none,some 2,some 3] ["name","size","worth","put_name","told"] (show aA _ (ag sWPut) from ⟨rfl,by decide +kernel,by decide +kernel,by decide +kernel⟩) (by rfl) (L3.iZ qp m_zip (GZ (G2 G5 (GY 0) G1) (GZ (GY 1) G0))) (fun _ _ _ _ _=>⟨(HG 2 (Hl (HG 2 (Hl (Hh 0 (show (["name","size","worth","put_name","told"]:List Str).Nodup from by decide +kernel)) (Hl (Hh 1 (show (["name","size","worth","put_name","told"]:List Str).Nodup from by decide +kernel)) HH))) (Hl (Hh 2 (show (["name","size","worth","put_name","told"]:List Str).Nodup from by decide +kernel)) HH))),HU,(L3.Dp (Hk Hw (GY 0) (GY 3)) (G4 Hq (GY 4) (GY 1)) (GY 2))⟩)))),?_⟩
   have hvl:vb.length=bs.length:=Paired.length pb
   have hlm:vb.length=(ws.map V.int).length:=by rw [DC]; omega
   refine ⟨_,rfl,p,_,_,_,rfl,rfl,aq.of hp,rfl,_,rfl,B,wa,rfl,⟨_,ao.of hB⟩,⟨_,ao.of hw⟩,fun D hD=>?_⟩
   refine lE (xs:=vb) (ys:=ws.map V.int) hlm (fun i H2=>(∀b o,H b=some o->H2 b=some o)/\H2 D=some (.lst (((fj bs ws x t).take i).map V.int))) ⟨af hD _,ae⟩ (fun i H2 _ z=>⟨ao.of (z.1 _ _ hB),ao.of (z.1 _ _ hw)⟩) (fun i x0 y0 pr H2 hx hy z hpr=>?_) (fun H2 z=>?_)
   · obtain ⟨z,hD2⟩:=z
     obtain ⟨b,hbi,pp,rfl,hpp⟩:=Paired.get pb hx
     obtain ⟨w0,hwi,rfl⟩:=cR hy
     have hil:i < vb.length:=(List.getElem?_eq_some_iff.mp hx).1
     have hpp2:=z _ _ hpp
     have hpos:=sz b (DR hbi)
     have hg:=mr (x:=x) (t:=t) hbi hwi
     have hll:((fj bs ws x t).take i).length<=900:=by rw [DM,jj hlen]; omega
     have hD3:(upd H2 pr (.tup [.ref pp,.int w0])) D=some (.lst (((fj bs ws x t).take i).map V.int)):=by rw [aj (ai hD2 hpr)]; exact hD2
     have keep:∀u,∀c o,H c=some o->(upd (upd H2 pr (.tup [.ref pp,.int w0])) D u) c=some o:=fun u c o hc=>by
       have hc2:=z c o hc
       rw [aj (ai hc hD),aj (ai hc2 hpr)]
       exact hc2
     refine ⟨pr,_,rfl,aq.of ae,rfl,_,_,rfl,⟨pp,_,rfl,aq.of (by rw [aj (ai hpp2 hpr)]; exact hpp2),rfl,_,_,rfl,_,_,rfl,rfl,_,_,rfl,rfl,?_⟩⟩
     refine dk (A:=fun H3=>dR _ D _ H3 _) ?_
     refine ⟨_,rfl,_,rfl,rfl,_,rfl,?_⟩
     refine az (fun c=>?_) (fun c=>?_)
     · have c':b.1=x:=by have:=of_decide_eq_true c; injection this
       refine ⟨_,rfl,_,rfl,_,_,rfl,rfl,(by show (0:Int) < b.2; omega),_,hD3,En (show _<=1000 by rw [DC]; omega) (by decide),aM (Pv:=fun i H2=>(∀b o,H b=some o->H2 b=some o)/\H2 D=some (.lst (((fj bs ws x t).take i).map V.int))) (by repeat' constructor) hil ⟨keep _,?_⟩⟩
       rw [ae,D1,hg,if_pos c',DS]
       rfl
     · have c':¬ b.1=x:=fun z=>c (decide_eq_true (by rw [z]))
       refine ⟨_,rfl,_,hD3,En (show _<=1000 by rw [DC]; omega) (by decide),aM (Pv:=fun i H2=>(∀b o,H b=some o->H2 b=some o)/\H2 D=some (.lst (((fj bs ws x t).take i).map V.int))) (by repeat' constructor) hil ⟨keep _,?_⟩⟩
       rw [ae,D1,hg,if_neg c',DS]
       rfl
   · obtain ⟨z,hD2⟩:=z
     have et:(fj bs ws x t).take vb.length=fj bs ws x t:=by rw [hvl,← jj (x:=x) (t:=t) hlen,Ec]
     rw [et] at hD2
     exact q D H2 hD z hD2
theorem tq (s:Src K mg "worths_put" sWPut)(m_zip:mg "zip"=none):aF P w K mg base "worths_put" ["program","worths","put_name","told"] 1 jw:=
 let ⟨f,fd,F,m⟩:=s
 ⟨f,fd,wx F m_zip,F.kp,vk F fun _ _ _ _ _ _ _ _ _ _=>rfl,m⟩
/-! ### steps -/
def b8 (bs:List (Str×Int))(ws:List Int):Nd->Option (List Int×Int×List Int)
 | .fin=>none
 | .put x s n=>some ([],n,fj bs ws x (s.worth fun _ y=>gZ bs ws y))
 | .say s n=>some ([s.worth fun _ y=>gZ bs ws y],n,ws)
 | .test c n o=>some ([],if (c.holds fun _ y=>gZ bs ws y)=true then n else o,ws)
structure ki (H:Hp)(v:V)(wa:Addr)(bs:List (Str×Int))(ws:List Int)(ins:List Str)(nds:List Nd)(pl:Int)(nd:Nd)(m:Int):Prop where
 pa:aI H v bs ins nds
 ndn:(bs.map (·.1)).Nodup
 len:bs.length<=900
 sz:∀b∈bs,1<=b.2
 wl:H wa=some (.lst (ws.map V.int))
 pw:Paired Within (bs.map (·.2)) ws
 p0:0<=pl
 here:nds[pl.toNat]? = some nd
 gd:nd.good (· ∈ bs.map (·.1)) m 19
theorem ki.ll {H:Hp}{v:V}{wa:Addr}{bs:List (Str×Int)}{ws:List Int}{ins:List Str}{nds:List Nd}{pl:Int}{nd:Nd}{m:Int}(h:ki H v wa bs ws ins nds pl nd m):bs.length=ws.length:=by
 have:=Paired.length h.pw
 rw [DC] at this
 exact this
/-- what a step tells -/
structure Told (H H':Hp)(r l1 l2:Addr)(said:List Int)(n:Int)(ws':List Int):Prop where
 s:ah H H'
 hr:H r=none
 h1:H l1=none
 h2:H l2=none
 er:H' r=some (.tup [.ref l1,.int n,.ref l2])
 e1:H' l1=some (.lst (said.map V.int))
 e2:H' l2=some (.lst (ws'.map V.int))
 ne:l1≠l2
def kY:Sp:=fun vs H Q _=>∃(v:V) (pl:Int) (wa:Addr) (bs:List (Str×Int)) (ws:List Int) (ins:List Str) (nds:List Nd) (nd:Nd) (m:Int),vs=[v,.int pl,.ref wa]/\ki H v wa bs ws ins nds pl nd m /\
 (b8 bs ws nd=none->∀H',ah H H'->Q .aU H')/\∀said n ws',b8 bs ws nd=some (said,n,ws')->∀r l1 l2 H',Told H H' r l1 l2 said n ws'->Q (.ref r) H'
theorem jm:au ["program","place","worths","node","known"] ["program","place","worths"] (ag sStepAt):=⟨rfl,rfl,rfl,by decide +kernel,rfl,by decide +kernel,by decide +kernel⟩
theorem gE:(ag sStepAt).names.lookup (DD "holds_by")=some .globalImplicit:=by decide +kernel
theorem dP:(ag sStepAt).names.lookup (DD "known_worths")=some .globalImplicit:=by decide +kernel
theorem dq:(ag sStepAt).names.lookup (DD "list")=some .globalImplicit:=by decide +kernel
theorem df:(ag sStepAt).names.lookup (DD "worth_by")=some .globalImplicit:=by decide +kernel
theorem fc:(ag sStepAt).names.lookup (DD "worths_put")=some .globalImplicit:=by decide +kernel
theorem qW {f:Addr}{fd:FuncData}(F:cB K "step_at" "step_at" sStepAt f fd)(m_list:mg "list"=none)(KW:lj P w K mg base "known_worths" ["program","worths","side"] 24 d0 "box")(WP:aF P w K mg base "worths_put" ["program","worths","put_name","told"] 24 jw)
   (WB:aF P w K mg base "worth_by" ["known","sum_told"] 24 (b7 20)) (HB:aF P w K mg base "holds_by" ["known","condition"] 24 (cE 20)):aL P w K mg base CX0 25 f fd ["program","place","worths"] kY:=by
 refine F.ok jm (fun vs H Q E h=>?_) (fun cdv A outer s H vs Q E hr h=>?_)
 · obtain ⟨v,pl,wa,bs,ws,ins,nds,nd,m,rfl,_⟩:=h
   rfl
 · obtain ⟨v,pl,wa,bs,ws,ins,nds,nd,m,rfl,pre,qn,qs⟩:=h
   refine ⟨_,HY (G3 (G9 3 jm.nd (G2 Hm (G2 G5 (GY 0) G1) (GY 1)))
     (G3 (Hn (Hk Hw (G2 G5 (GY 3) G1) G7) (G6 (Hi HS)) Ho)
     (G3 (G9 4 jm.nd (Cj KW hr dP (GZ (GY 0) (GZ (GY 2) G0))))
     (G3 (Hn (Hk Hw (G2 G5 (GY 3) G1) G7) (G6 (Hi (G8 (GZ (Hy G0) (GZ (G2 G5 (GY 3) G1) (GZ (Hj WP hr fc (GZ (GY 0) (GZ (GY 2) (GZ (G2 G5 (GY 3) G1) (GZ (Hj WB hr df (GZ (GY 4) (GZ (G2 G5 (GY 3) G1) G0))) G0))))) G0)))))) Ho)
     (G3 (Hn (Hk Hw (G2 G5 (GY 3) G1) G7) (G6 (Hi (G8 (GZ (Hy (GZ (Hj WB hr df (GZ (GY 4) (GZ (G2 G5 (GY 3) G1) G0))) G0)) (GZ (G2 G5 (GY 3) G1) (GZ (HI HX dq m_list (by decide +kernel) (GZ (GY 2) G0)) G0)))))) Ho)
     (G3 (Hn (Iw (Hj HB hr gE (GZ (GY 4) (GZ (G2 G5 (GY 3) G1) G0)))) (G6 (Hi (G8 (GZ (Hy G0) (GZ (G2 G5 (GY 3) G1) (GZ (HI HX dq m_list (by decide +kernel) (GZ (GY 2) G0)) G0)))))) Ho)
     (G6 (Hi (G8 (GZ (Hy G0) (GZ (G2 G5 (GY 3) G1) (GZ (HI HX dq m_list (by decide +kernel) (GZ (GY 2) G0)) G0)))))))))))),?_⟩
   obtain ⟨p,B,I,N,vb,vn,rfl,hp,hB,hI,hN,pb,pn⟩:=pre.pa
   have hil:pl.toNat < nds.length:=(List.getElem?_eq_some_iff.mp pre.here).1
   have hvn:vn.length=nds.length:=Paired.length pn
   obtain ⟨x0,hx0⟩ : ∃x0,vn[pl.toNat]? = some x0:=⟨vn[pl.toNat]'(by omega),DH (by omega)⟩
   have hat:eR vn pl=some x0:=by
     have:=d9 hx0
     rw [E3 pre.p0] at this
     exact this
   have hnd:=Paired.get2 pn hx0 pre.here
   have gd:=pre.gd
   refine ⟨_,rfl,p,_,_,_,rfl,rfl,aq.of hp,rfl,_,rfl,N,_,_,_,rfl,rfl,ao.of hN,hat,?_⟩
   cases nd with
   | fin=>
     obtain ⟨x,rfl,hx⟩:=hnd
     refine ⟨_,rfl,x,_,_,_,rfl,rfl,aq.of hx,rfl,rfl,_,rfl,?_⟩
     refine az (fun _=>?_) (fun c=>absurd (decide_eq_true rfl) c)
     exact qn rfl _ (same_refl _)
   | put nm e n=>
     obtain ⟨u,⟨x,rfl,hx⟩,eu⟩:=hnd
     obtain ⟨g1,g2,g3,g4,g5,g6⟩:=gd
     refine ⟨_,rfl,x,_,_,_,rfl,rfl,aq.of hx,rfl,rfl,_,rfl,?_⟩
     refine az (fun c=>absurd (of_decide_eq_true c) (by decide)) (fun _=>?_)
     refine ⟨_,rfl,_,rfl,.ref p,wa,"box",bs,ws,rfl,⟨p,B,_,_,vb,rfl,hp,hB,pb⟩,pre.ndn,pre.len,pre.wl,pre.ll,fun D H1 hD s1 hk=>?_⟩
     have kn:rF H1 D (bxP bs) (fun _ y=>gZ bs ws y):=⟨_,hk,fun t x h=>by rw [h.1]; exact dh "box" bs ws x pre.ll h.2⟩
     have hx1:=s1 _ _ hx
     have wl1:=s1 _ _ pre.wl
     refine ⟨_,rfl,x,_,_,_,rfl,rfl,aq.of hx1,rfl,rfl,_,rfl,?_⟩
     refine az (fun _=>?_) (fun c=>absurd (decide_eq_true rfl) c)
     refine ⟨JA,fun l1 hl1=>?_⟩
     have s2:=af hl1 (.lst [])
     have e1:(upd H1 l1 (.lst [])) l1=some (.lst []):=ae
     generalize upd H1 l1 (.lst [])=H2 at s2 e1 ⊢
     have s02:=aa s1 s2
     have hx2:=s2 _ _ hx1
     refine ⟨_,rfl,x,_,_,_,rfl,rfl,aq.of hx2,rfl,_,rfl,_,rfl,_,rfl,x,_,_,_,rfl,rfl,aq.of hx2,rfl,_,rfl,_,rfl,x,_,_,_,rfl,rfl,aq.of hx2,rfl,D,u,e,_,_,rfl,kn.same s2,cY bs,eu.same s02,g2,g3,by omega,?_⟩
     refine ⟨.ref p,wa,nm,_,bs,ws,rfl,⟨p,B,_,_,vb,rfl,s02 _ _ hp,s02 _ _ hB,Paired.mapP pb fun _ _ z=>Tp.keep (ah.tk s02) z⟩,pre.len,pre.sz,s02 _ _ pre.wl,pre.ll,fun l2 H3 hl2 s3 e2=>⟨JD,fun r hr'=>?_⟩⟩
     have s4:=af hr' (.tup [.ref l1,.int n,.ref l2])
     have s03:=aa s02 s3
     exact qs _ _ _ rfl r l1 l2 _ ⟨aa s03 s4,ar s03 hr',ar s1 hl1,ar s02 hl2,ae,s4 _ _ (s3 _ _ e1),s4 _ _ e2,ai e1 hl2⟩
   | say e n=>
     obtain ⟨u,⟨x,rfl,hx⟩,eu⟩:=hnd
     obtain ⟨g2,g3,g4,g5,g6⟩:=gd
     refine ⟨_,rfl,x,_,_,_,rfl,rfl,aq.of hx,rfl,rfl,_,rfl,?_⟩
     refine az (fun c=>absurd (of_decide_eq_true c) (by decide)) (fun _=>?_)
     refine ⟨_,rfl,_,rfl,.ref p,wa,"box",bs,ws,rfl,⟨p,B,_,_,vb,rfl,hp,hB,pb⟩,pre.ndn,pre.len,pre.wl,pre.ll,fun D H1 hD s1 hk=>?_⟩
     have kn:rF H1 D (bxP bs) (fun _ y=>gZ bs ws y):=⟨_,hk,fun t x h=>by rw [h.1]; exact dh "box" bs ws x pre.ll h.2⟩
     have hx1:=s1 _ _ hx
     have wl1:=s1 _ _ pre.wl
     refine ⟨_,rfl,x,_,_,_,rfl,rfl,aq.of hx1,rfl,rfl,_,rfl,?_⟩
     refine az (fun c=>absurd (of_decide_eq_true c) (by decide)) (fun _=>?_)
     refine ⟨_,rfl,x,_,_,_,rfl,rfl,aq.of hx1,rfl,rfl,_,rfl,?_⟩
     refine az (fun _=>?_) (fun c=>absurd (decide_eq_true rfl) c)
     refine ⟨_,rfl,_,rfl,x,_,_,_,rfl,rfl,aq.of hx1,rfl,D,u,e,_,_,rfl,kn,cY bs,eu.same s1,g2,g3,by omega,JB,fun l1 hl1=>?_⟩
     have s2:=af hl1 (.lst [.int (e.worth fun _ y=>gZ bs ws y)])
     have e1:(upd H1 l1 (.lst [.int (e.worth fun _ y=>gZ bs ws y)])) l1=some _:=ae
     generalize upd H1 l1 (.lst [.int (e.worth fun _ y=>gZ bs ws y)])=H2 at s2 e1 ⊢
     have s02:=aa s1 s2
     refine ⟨_,rfl,x,_,_,_,rfl,rfl,aq.of (s2 _ _ hx1),rfl,_,rfl,wa,_,rfl,.inl (ao.of (s2 _ _ wl1)),fun l2 hl2=>⟨JD,fun r hr'=>?_⟩⟩
     have s3:=af hl2 (.lst (ws.map V.int))
     have s4:=af hr' (.tup [.ref l1,.int n,.ref l2])
     have s03:=aa s02 s3
     exact qs _ _ _ rfl r l1 l2 _ ⟨aa s03 s4,ar s03 hr',ar s1 hl1,ar s02 hl2,ae,s4 _ _ (s3 _ _ e1),s4 _ _ ae,ai e1 hl2⟩
   | test c n o=>
     obtain ⟨u,⟨x,rfl,hx⟩,eu⟩:=hnd
     obtain ⟨g2,g3,g4,g5,g6⟩:=gd
     refine ⟨_,rfl,x,_,_,_,rfl,rfl,aq.of hx,rfl,rfl,_,rfl,?_⟩
     refine az (fun c=>absurd (of_decide_eq_true c) (by decide)) (fun _=>?_)
     refine ⟨_,rfl,_,rfl,.ref p,wa,"box",bs,ws,rfl,⟨p,B,_,_,vb,rfl,hp,hB,pb⟩,pre.ndn,pre.len,pre.wl,pre.ll,fun D H1 hD s1 hk=>?_⟩
     have kn:rF H1 D (bxP bs) (fun _ y=>gZ bs ws y):=⟨_,hk,fun t x h=>by rw [h.1]; exact dh "box" bs ws x pre.ll h.2⟩
     have hx1:=s1 _ _ hx
     have wl1:=s1 _ _ pre.wl
     refine ⟨_,rfl,x,_,_,_,rfl,rfl,aq.of hx1,rfl,rfl,_,rfl,?_⟩
     refine az (fun c=>absurd (of_decide_eq_true c) (by decide)) (fun _=>?_)
     refine ⟨_,rfl,x,_,_,_,rfl,rfl,aq.of hx1,rfl,rfl,_,rfl,?_⟩
     refine az (fun c=>absurd (of_decide_eq_true c) (by decide)) (fun _=>?_)
     refine ⟨_,rfl,_,rfl,x,_,_,_,rfl,rfl,aq.of hx1,rfl,D,u,c,_,_,rfl,kn,cY bs,eu.same s1,g2,g3,by omega,_,rfl,?_⟩
     refine az (fun hc=>?_) (fun hc=>?_)
     · refine ⟨JA,fun l1 hl1=>?_⟩
       have s2:=af hl1 (.lst [])
       have e1:(upd H1 l1 (.lst [])) l1=some (.lst []):=ae
       generalize upd H1 l1 (.lst [])=H2 at s2 e1 ⊢
       have s02:=aa s1 s2
       refine ⟨_,rfl,x,_,_,_,rfl,rfl,aq.of (s2 _ _ hx1),rfl,_,rfl,wa,_,rfl,.inl (ao.of (s2 _ _ wl1)),fun l2 hl2=>⟨JD,fun r hr'=>?_⟩⟩
       have s3:=af hl2 (.lst (ws.map V.int))
       have s4:=af hr' (.tup [.ref l1,.int n,.ref l2])
       have s03:=aa s02 s3
       exact qs [] n ws (by show some _=some _; rw [if_pos hc]) r l1 l2 _ ⟨aa s03 s4,ar s03 hr',ar s1 hl1,ar s02 hl2,ae,s4 _ _ (s3 _ _ e1),s4 _ _ ae,ai e1 hl2⟩
     · refine ⟨JA,fun l1 hl1=>?_⟩
       have s2:=af hl1 (.lst [])
       have e1:(upd H1 l1 (.lst [])) l1=some (.lst []):=ae
       generalize upd H1 l1 (.lst [])=H2 at s2 e1 ⊢
       have s02:=aa s1 s2
       refine ⟨_,rfl,x,_,_,_,rfl,rfl,aq.of (s2 _ _ hx1),rfl,_,rfl,wa,_,rfl,.inl (ao.of (s2 _ _ wl1)),fun l2 hl2=>⟨JD,fun r hr'=>?_⟩⟩
       have s3:=af hl2 (.lst (ws.map V.int))
       have s4:=af hr' (.tup [.ref l1,.int o,.ref l2])
       have s03:=aa s02 s3
       exact qs [] o ws (by show some _=some _; rw [if_neg hc]) r l1 l2 _ ⟨aa s03 s4,ar s03 hr',ar s1 hl1,ar s02 hl2,ae,s4 _ _ (s3 _ _ e1),s4 _ _ ae,ai e1 hl2⟩
theorem nE (s:Src K mg "step_at" sStepAt)(m_list:mg "list"=none)(KW:lj P w K mg base "known_worths" ["program","worths","side"] 24 d0 "box")(WP:aF P w K mg base "worths_put" ["program","worths","put_name","told"] 24 jw)(WB:aF P w K mg base "worth_by" ["known","sum_told"] 24 (b7 20))(HB:aF P w K mg base "holds_by" ["known","condition"] 24 (cE 20)):aF P w K mg base "step_at" ["program","place","worths"] 25 kY:=
 let ⟨f,fd,F,m⟩:=s
 ⟨f,fd,qW F m_list KW WP WB HB,F.kp,pU F fun _ _ _ _ _ _ _ _ _=>rfl,m⟩
end
end TW
set_option Elab.async false
set_option linter.all false
set_option maxRecDepth 100000
set_option exponentiation.threshold 4000
set_option maxHeartbeats 1000000
namespace TW
open PySem L2
section
variable {P:Program}{w:World}{K:DA}{mg:Str->Option Value}{base:Heap}
def cH:List (Str×Int)->List Int->List (Key×V)
 | b :: bs,w :: ws=>(.inr b.1,.int w) :: cH bs ws
 | _,_=>[]
theorem eh:∀(bs:List (Str×Int)) (ws:List Int) (k:Key),k∈(cH bs ws).map (·.1)->∃x∈bs.map (·.1),k=.inr x
 | [],_,_,h=>by simp [cH] at h
 | _ :: _,[],_,h=>by simp [cH] at h
 | b :: bs,w :: ws,k,h=>by
   rcases List.mem_cons.mp h with z | z
   · exact ⟨b.1,List.mem_cons.mpr (.inl rfl),z⟩
   · obtain ⟨x,hx,e⟩:=eh bs ws k z
     exact ⟨x,List.mem_cons.mpr (.inr hx),e⟩
theorem dA:∀(kvs d:List (Key×V)) (k:Key),k ∉ kvs.map (·.1)->bq (putAll d kvs) k=bq d k
 | [],_,_,_=>rfl
 | p :: r,d,k,h=>by
   show bq (putAll (putK d p.1 p.2) r) k=_
   rw [dA r _ k (fun z=>h (List.mem_cons.mpr (.inr z))),mF,if_neg (fun z=>h (List.mem_cons.mpr (.inl z)))]
theorem cJ:∀(bs:List (Str×Int)) (ws:List Int) (d:List (Key×V)) (x:Str),bs.length=ws.length->(bs.map (·.1)).Nodup->x∈bs.map (·.1)->bq (putAll d (cH bs ws)) (.inr x)=some (.int (gZ bs ws x))
 | [],_,_,_,_,_,h=>by simp at h
 | _ :: _,[],_,_,h,_,_=>by simp at h
 | b :: bs,w :: ws,d,x,hl,nd,hx=>by
   rw [D7,Gn] at nd
   show bq (putAll (putK d (.inr b.1) (.int w)) (cH bs ws)) (.inr x)=some (.int (if b.1=x then w else gZ bs ws x))
   by_cases e:b.1=x
   · rw [if_pos e,dA _ _ _ (fun z=>by
       obtain ⟨y,hy,e2⟩:=eh bs ws _ z
       injection e2 with e2
       subst e2
       exact nd.1 (e ▸ hy)),mF,if_pos (by rw [e])]
   · rw [if_neg e]
     refine cJ bs ws _ x (by simpa using hl) nd.2 ?_
     rcases List.mem_cons.mp hx with z | z
     · exact absurd z.symm e
     · exact z
end
end TW
set_option Elab.async false
set_option linter.all false
set_option maxRecDepth 100000
set_option exponentiation.threshold 4000
set_option maxHeartbeats 1000000
namespace TW
open PySem L2
section
variable {P:Program}{w:World}{K:DA}{mg:Str->Option Value}{base:Heap}
abbrev sInSz:Stmt:=top 12
abbrev sBegOf:Stmt:=top 13
/-! ### input_sizes,beginning_of -/
def bo (bs:List (Str×Int))(x:Str):Int:=gZ bs (bs.map (·.2)) x
def qJ (bs:List (Str×Int)):List (Key×V):=cH bs (bs.map (·.2))
theorem jh {H:Hp}:∀{vb:List V} {bs:List (Str×Int)},Paired (cy H) vb bs->Paired (mJ H) vb (qJ bs)
 | _,_,.nil=>.nil
 | _,_,.cons ⟨p,e,h⟩ r=>.cons ⟨p,e,h⟩ (jh r)
def ip (ins:List Str):List (Str×Int):=ins.map fun x=>(x,0)
theorem bD (ins:List Str):(ip ins).map (·.1)=ins:=by
 unfold ip
 rw [EV]
 exact List.map_id _
def nh (ins:List Str)(iw:List Int)(y:Str):Int:=gZ (ip ins) iw y
theorem oA:∀(ins:List Str) (iw:List Int),(ins.map (Sum.inr:Str->Key)).zip (iw.map V.int)=cH (ip ins) iw
 | [],_=>by simp [ip,cH]
 | _ :: _,[]=>by simp [ip,cH]
 | x :: ins,w :: iw=>by
   show (Sum.inr x,V.int w) :: (ins.map (Sum.inr:Str->Key)).zip (iw.map V.int)=(Sum.inr x,V.int w) :: cH (ip ins) iw
   rw [oA ins iw]
theorem iI:∀{bs:List (Str×Int)} {ws:List Int} {x:Str},x ∉ bs.map (·.1)->gZ bs ws x=0
 | [],_,_,_=>rfl
 | _ :: _,[],_,_=>rfl
 | b :: bs,w :: ws,x,h=>by
   show (if b.1=x then w else gZ bs ws x)=0
   rw [if_neg (fun e=>h (List.mem_cons.mpr (.inl e.symm)))]
   exact iI fun z=>h (List.mem_cons.mpr (.inr z))
def aN (bs:List (Str×Int))(ins:List Str)(iw:List Int):List Int:=bs.map fun b=>nh ins iw b.1
theorem f7:∀{bs:List (Str×Int)} {b:Str×Int},(bs.map (·.1)).Nodup->b∈bs->bo bs b.1=b.2
 | [],_,_,h=>nomatch h
 | c :: bs,b,nd,h=>by
   rw [D7,Gn] at nd
   show (if c.1=b.1 then c.2 else gZ bs (bs.map (·.2)) b.1)=b.2
   rcases List.mem_cons.mp h with rfl | h
   · rw [if_pos rfl]
   · rw [if_neg (fun e:c.1=b.1=>nd.1 (by rw [e]; exact List.mem_map.mpr ⟨b,h,rfl⟩))]
     exact f7 nd.2 h
theorem sG {sz:Str->Int}:∀{ins:List Str} {iw:List Int} {y:Str},Paired Within (ins.map sz) iw->y∈ins->0<=nh ins iw y/\nh ins iw y < sz y
 | [],_,_,_,h=>nomatch h
 | x :: ins,[],_,h,_=>nomatch h
 | x :: ins,w :: iw,y,.cons r t,h=>by
   show 0<=(if x=y then w else nh ins iw y)/\(if x=y then w else nh ins iw y) < sz y
   by_cases e:x=y
   · rw [if_pos e,← e]
     exact r
   · rw [if_neg e]
     rcases List.mem_cons.mp h with z | z
     · exact absurd z.symm e
     · exact sG t z
theorem iP {bs:List (Str×Int)}{ins:List Str}{iw:List Int}(nd:(bs.map (·.1)).Nodup)(sz:∀b∈bs,1<=b.2)(pw:Paired Within (ins.map (bo bs)) iw):Paired Within (bs.map (·.2)) (aN bs ins iw):=by
 have go:∀cs:List (Str×Int),(∀c∈cs,c∈bs)->Paired Within (cs.map (·.2)) (cs.map fun b=>nh ins iw b.1):=fun cs=>by
   induction cs with
   | nil=>exact fun _=>.nil
   | cons c cs ih=>
     intro h
     refine .cons ?_ (ih fun d hd=>h d (List.mem_cons.mpr (.inr hd)))
     have hc:=h c (List.mem_cons.mpr (.inl rfl))
     have h1:=sz c hc
     by_cases m:c.1∈ins
     · obtain ⟨a1,a2⟩:=sG pw m
       rw [f7 nd hc] at a2
       exact ⟨a1,a2⟩
     · have e:nh ins iw c.1=0:=iI (by rw [bD]; exact m)
       show Within c.2 (nh ins iw c.1)
       rw [e]
       exact ⟨E4 0,by omega⟩
 exact go bs fun _ h=>h
structure Fits (bs:List (Str×Int))(ins:List Str):Prop where
 nd:(bs.map (·.1)).Nodup
 len:bs.length<=900
 sz:∀b∈bs,1<=b.2
 ind:ins.Nodup
 sub:∀x∈ins,x∈bs.map (·.1)
 ilen:ins.length<=900
def fm:Sp:=fun vs H Q _=>∃(v:V) (bs:List (Str×Int)) (ins:List Str) (nds:List Nd),vs=[v]/\aI H v bs ins nds/\Fits bs ins/\∀l H',H l=none->ah H H'->H' l=some (.lst ((ins.map (bo bs)).map V.int))->Q (.ref l) H'
theorem uF:au ["program","sizes"] ["program"] (ag sInSz):=⟨rfl,rfl,rfl,by decide +kernel,rfl,by decide +kernel,by decide +kernel⟩
theorem m8:(ag sInSz).names.lookup (DD "dict")=some .globalImplicit:=by decide +kernel
theorem wc {f:Addr}{fd:FuncData}(F:cB K "input_sizes" "input_sizes" sInSz f fd)(m_dict:mg "dict"=none):aL P w K mg base CX0 1 f fd ["program"] fm:=by
 refine F.ok uF (fun vs H Q E h=>?_) (fun cdv A outer s H vs Q E hr h=>?_)
 · obtain ⟨v,bs,ins,nds,rfl,_⟩:=h
   rfl
 · obtain ⟨v,bs,ins,nds,rfl,pa,ft,q⟩:=h
   refine ⟨_,HY (G3 (G9 1 uF.nd (HI L3.rM m8 m_dict (by decide +kernel) (GZ (G2 G5 (GY 0) G1) G0)))
     (G6 (Hi (HZ [none,some 1] ["name","sizes"] (show aA _ (ag sInSz) from ⟨rfl,by decide +kernel,by decide +kernel,by decide +kernel⟩) (by rfl) (HQ (G2 G5 (GY 0) G1)) (fun _ _ _ _ _=>⟨(Hh 0 (show (["name","sizes"]:List Str).Nodup from by decide +kernel)),HU,(L3.vA (bB hr _ (by decide)) (GY 1) (GY 0))⟩))))),?_⟩
   obtain ⟨p,B,I,N,vb,vn,rfl,hp,hB,hI,hN,pb,pn⟩:=pa
   have ilen:=ft.ilen
   refine ⟨_,rfl,p,_,_,_,rfl,rfl,aq.of hp,rfl,B,vb,qJ bs,rfl,hB,jh pb,fun D hD=>?_⟩
   have s1:=af hD (.dK (putAll [] (qJ bs)))
   have eD:(upd H D (.dK (putAll [] (qJ bs)))) D=some (.dK (putAll [] (qJ bs))):=ae
   generalize upd H D (.dK (putAll [] (qJ bs)))=H2 at s1 eD ⊢
   have hI2:=s1 _ _ hI
   refine ⟨_,rfl,p,_,_,_,rfl,rfl,aq.of (s1 _ _ hp),rfl,I,rfl,⟨_,ao.of hI2⟩,fun l hl=>?_⟩
   refine bu (xs:=ins.map V.str) (fun i H3=>(∀b o,H2 b=some o->H3 b=some o)/\H3 l=some (.lst (((ins.map (bo bs)).take i).map V.int))) ⟨af hl _,ae⟩ (fun i H3 _ z=>ao.of (z.1 _ _ hI2)) (fun i x0 H3 hx z=>?_) (fun H3 z=>?_)
   · obtain ⟨z,hl3⟩:=z
     have hil:=(List.getElem?_eq_some_iff.mp hx).1
     obtain ⟨x,hxi,rfl⟩:=cR hx
     have hv:=cJ bs (bs.map (·.2)) [] x (by rw [DC]) ft.nd (ft.sub x (DR hxi))
     have g:=eP.k (k:=.inr x) (z _ _ eD)
     rw [show bq (putAll [] (qJ bs)) (.inr x)=some (.int (bo bs x)) from hv] at g
     refine aw ?_
     refine dk (A:=fun H4=>dR _ l _ H4 _) ?_
     refine ⟨_,rfl,_,rfl,D,_,rfl,g,_,hl3,En (show _<=1000 by rw [DC,DM,DC]; omega) (by decide),aM (Pv:=fun i H3=>(∀b o,H2 b=some o->H3 b=some o)/\H3 l=some (.lst (((ins.map (bo bs)).take i).map V.int))) (by repeat' constructor) hil ⟨fun c o hc=>?_,?_⟩⟩
     · rw [aj (ai hc hl)]
       exact z c o hc
     · rw [ae,D1,Ed,hxi,DS]
       rfl
   · obtain ⟨z,hl3⟩:=z
     have et:(ins.map (bo bs)).take (ins.map V.str).length=ins.map (bo bs):=by rw [DC,← DC (f:=bo bs) (as:=ins),Ec]
     rw [et] at hl3
     exact q l H3 (ar s1 hl) (aa s1 z) hl3
theorem sP (s:Src K mg "input_sizes" sInSz)(m_dict:mg "dict"=none):aF P w K mg base "input_sizes" ["program"] 1 fm:=
 let ⟨f,fd,F,m⟩:=s
 ⟨f,fd,wc F m_dict,F.kp,yh F fun _ _ _ _ _ _ _=>rfl,m⟩
def iF:Sp:=fun vs H Q _=>∃(v:V) (ia:Addr) (bs:List (Str×Int)) (ins:List Str) (nds:List Nd) (iw:List Int),vs=[v,.ref ia]/\aI H v bs ins nds/\Fits bs ins/\H ia=some (.lst (iw.map V.int))/\Paired Within (ins.map (bo bs)) iw/\∀l H',H l=none->ah H H'->H' l=some (.lst ((aN bs ins iw).map V.int))->Q (.ref l) H'
theorem pI:au ["program","inputs","given"] ["program","inputs"] (ag sBegOf):=⟨rfl,rfl,rfl,by decide +kernel,rfl,by decide +kernel,by decide +kernel⟩
theorem lL:(ag sBegOf).names.lookup (DD "dict")=some .globalImplicit:=by decide +kernel
theorem eU:(ag sBegOf).names.lookup (DD "input_sizes")=some .globalImplicit:=by decide +kernel
theorem dO:(ag sBegOf).names.lookup (DD "refuse_worths")=some .globalImplicit:=by decide +kernel
theorem m3:(ag sBegOf).names.lookup (DD "zip")=some .globalImplicit:=by decide +kernel
theorem tW {f:Addr}{fd:FuncData}(F:cB K "beginning_of" "beginning_of" sBegOf f fd)(m_dict:mg "dict"=none)(m_zip:mg "zip"=none)(RW:aF P w K mg base "refuse_worths" ["sizes","worths"] 1 ju)(IS:aF P w K mg base "input_sizes" ["program"] 1 fm):aL P w K mg base CX0 2 f fd ["program","inputs"] iF:=by
 refine F.ok pI (fun vs H Q E h=>?_) (fun cdv A outer s H vs Q E hr h=>?_)
 · obtain ⟨v,ia,bs,ins,nds,iw,rfl,_⟩:=h
   rfl
 · obtain ⟨v,ia,bs,ins,nds,iw,rfl,pa,ft,hw,pw,q⟩:=h
   refine ⟨_,HY (G3 (Ij (Hj RW hr dO (GZ (Hj IS hr eU (GZ (GY 0) G0)) (GZ (GY 1) G0))))
     (G3 (G9 2 pI.nd (L3.oO lL m_dict m3 m_zip (GZ (G2 G5 (GY 0) G1) (GZ (GY 1) G0))))
     (G6 (Hi (HZ [none,none,some 2] ["name","size","given"] (show aA _ (ag sBegOf) from ⟨rfl,by decide +kernel,by decide +kernel,by decide +kernel⟩) (by rfl) (HQ (G2 G5 (GY 0) G1)) (fun _ _ _ _ _=>⟨(HG 2 (Hl (Hh 0 (show (["name","size","given"]:List Str).Nodup from by decide +kernel)) (Hl (Hh 1 (show (["name","size","given"]:List Str).Nodup from by decide +kernel)) HH))),HU,(L3.xm (bB hr _ (by decide)) (GY 2) (GY 0) G1)⟩)))))),?_⟩
   have hlen:ins.length=iw.length:=by have:=Paired.length pw; rw [DC] at this; exact this
   have ilen:=ft.ilen
   have blen:=ft.len
   refine ⟨_,rfl,v,bs,ins,nds,rfl,pa,ft,fun sl Ha hsl sa ea=>?_⟩
   refine ⟨_,rfl,sl,ia,ins.map (bo bs),iw,rfl,ea,sa _ _ hw,pw,fun H1 sb=>?_⟩
   have s1:=aa sa sb
   obtain ⟨p,B,I,N,vb,vn,rfl,hp,hB,hI,hN,pb,pn⟩:=pa.same s1
   have hvl:vb.length=bs.length:=Paired.length pb
   have hw1:=s1 _ _ hw
   have hmap:(ins.map V.str)=(ins.map (Sum.inr:Str->Key)).map kV:=by rw [EV]; rfl
   refine ⟨_,rfl,p,_,_,_,rfl,rfl,aq.of hp,rfl,_,rfl,I,ia,ins.map Sum.inr,iw.map V.int,rfl,by rw [← hmap]; exact ao.of hI,ao.of hw1,by rw [DC,DC]; exact hlen,by rw [DC]; omega,fun D hD=>?_⟩
   rw [oA]
   have s2:=af hD (.dK (putAll [] (cH (ip ins) iw)))
   have eD:(upd H1 D (.dK (putAll [] (cH (ip ins) iw)))) D=some (.dK (putAll [] (cH (ip ins) iw))):=ae
   generalize upd H1 D (.dK (putAll [] (cH (ip ins) iw)))=H3 at s2 eD ⊢
   have hB3:=s2 _ _ hB
   have pb3:Paired (cy H3) vb bs:=Paired.mapP pb fun _ _ z=>Tp.keep (ah.tk s2) z
   refine ⟨_,rfl,p,_,_,_,rfl,rfl,aq.of (s2 _ _ hp),rfl,B,rfl,⟨_,ao.of hB3⟩,fun l hl=>?_⟩
   refine bu (xs:=vb) (fun i H4=>(∀b o,H3 b=some o->H4 b=some o)/\H4 l=some (.lst (((aN bs ins iw).take i).map V.int))) ⟨af hl _,ae⟩ (fun i H4 _ z=>ao.of (z.1 _ _ hB3)) (fun i x0 H4 hx z=>?_) (fun H4 z=>?_)
   · obtain ⟨z,hl4⟩:=z
     obtain ⟨b,hbi,pp,rfl,hpp⟩:=Paired.get pb3 hx
     have hil:i < vb.length:=(List.getElem?_eq_some_iff.mp hx).1
     have hval:(bq (putAll [] (cH (ip ins) iw)) (.inr b.1)).getD (.int 0)=V.int (nh ins iw b.1):=by
       by_cases m:b.1∈ins
       · have hv:=cJ (ip ins) iw [] b.1 (by unfold ip; rw [DC]; exact hlen) (by rw [bD]; exact ft.ind) (by rw [bD]; exact m)
         rw [hv]
         rfl
       · have hv:bq (putAll [] (cH (ip ins) iw)) (.inr b.1)=none:=by
           rw [dA _ _ _ (fun zz=>by
             obtain ⟨y,hy,e2⟩:=eh (ip ins) iw _ zz
             injection e2 with e2
             rw [bD] at hy
             exact m (e2 ▸ hy))]
           rfl
         rw [hv,show nh ins iw b.1=0 from iI (by rw [bD]; exact m)]
         rfl
     refine ⟨pp,_,rfl,aq.of (z _ _ hpp),rfl,_,_,rfl,_,_,rfl,rfl,?_⟩
     refine dk (A:=fun H5=>dR _ l _ H5 _) ?_
     refine ⟨_,rfl,D,rfl,.inl ⟨_,.inl (z _ _ eD)⟩,_,rfl,_,eP.k (k:=.inr b.1) (z _ _ eD),?_⟩
     rw [hval]
     refine ⟨_,hl4,En (show _<=1000 by rw [DC,DM]; unfold aN; rw [DC]; omega) (by decide),aM (Pv:=fun i H4=>(∀b o,H3 b=some o->H4 b=some o)/\H4 l=some (.lst (((aN bs ins iw).take i).map V.int))) (by repeat' constructor) hil ⟨fun c o hc=>?_,?_⟩⟩
     · rw [aj (ai hc hl)]
       exact z c o hc
     · rw [ae,D1,show (aN bs ins iw)[i]? = some (nh ins iw b.1) by unfold aN; rw [Ed,hbi]; rfl,DS]
       rfl
   · obtain ⟨z,hl4⟩:=z
     have et:(aN bs ins iw).take vb.length=aN bs ins iw:=by
       have:vb.length=(aN bs ins iw).length:=by unfold aN; rw [DC]; exact hvl
       rw [this,Ec]
     rw [et] at hl4
     exact q l H4 (ar (aa s1 s2) hl) (aa s1 (aa s2 z)) hl4
theorem qt (s:Src K mg "beginning_of" sBegOf)(m_dict:mg "dict"=none)(m_zip:mg "zip"=none)(RW:aF P w K mg base "refuse_worths" ["sizes","worths"] 1 ju)(IS:aF P w K mg base "input_sizes" ["program"] 1 fm):aF P w K mg base "beginning_of" ["program","inputs"] 2 iF:=
 let ⟨f,fd,F,m⟩:=s
 ⟨f,fd,tW F m_dict m_zip RW IS,F.kp,cu F fun _ _ _ _ _ _ _ _=>rfl,m⟩
end
end TW
set_option Elab.async false
set_option linter.all false
set_option maxRecDepth 100000
set_option exponentiation.threshold 4000
set_option maxHeartbeats 1000000
namespace TW
open PySem L2
section
variable {P:Program}{w:World}{K:DA}{mg:Str->Option Value}{base:Heap}
abbrev sRunOf:Stmt:=top 14
/-! ### run_of -/
theorem jl {x:Str}{t:Int}:∀{bs:List (Str×Int)} {ws:List Int},(∀b∈bs,1<=b.2)->Paired Within (bs.map (·.2)) ws->Paired Within (bs.map (·.2)) (fj bs ws x t)
 | [],_,_,.nil=>.nil
 | b :: bs,w :: ws,sz,.cons r q=>by
   have h1:=sz b (List.mem_cons.mpr (.inl rfl))
   refine .cons ?_ (jl (fun c hc=>sz c (List.mem_cons.mpr (.inr hc))) q)
   show Within b.2 (if b.1=x then t % b.2 else w)
   by_cases e:b.1=x
   · rw [if_pos e]
     exact ⟨FQ _ (by omega),Ft _ (by omega)⟩
   · rw [if_neg e]
     exact r
theorem kc {bs:List (Str×Int)}{ws:List Int}{nd:Nd}{m:Int}{d:Nat}{r:List Int×Int×List Int}(sz:∀b∈bs,1<=b.2)(pw:Paired Within (bs.map (·.2)) ws)(gd:nd.good (· ∈ bs.map (·.1)) m d)(h:b8 bs ws nd=some r):0<=r.2.1/\r.2.1 < m/\Paired Within (bs.map (·.2)) r.2.2/\r.1.length<=1:=by
 cases nd with
 | fin=>cases h
 | put x s n=>
   cases h
   exact ⟨gd.2.2.2.2.1,gd.2.2.2.2.2,jl sz pw,Ep _⟩
 | say s n=>
   cases h
   exact ⟨gd.2.2.2.1,gd.2.2.2.2,pw,DJ _⟩
 | test c n o=>
   cases h
   refine ⟨?_,?_,pw,Ep _⟩
   · show 0<=(if _ then n else o)
     split
     · exact gd.2.2.2.1
     · exact gd.2.2.2.2.2.1
   · show (if _ then n else o) < m
     split
     · exact gd.2.2.2.2.1
     · exact gd.2.2.2.2.2.2
structure jG (H:Hp)(v:V)(bs:List (Str×Int))(ins:List Str)(nds:List Nd):Prop where
 pa:aI H v bs ins nds
 ft:Fits bs ins
 one:1<=nds.length
 gd:∀e∈nds,e.good (· ∈ bs.map (·.1)) nds.length 19
theorem jG.same {H H':Hp}{v:V}{bs:List (Str×Int)}{ins:List Str}{nds:List Nd}(h:jG H v bs ins nds)(s:ah H H'):jG H' v bs ins nds:=⟨h.pa.same s,h.ft,h.one,h.gd⟩
def aG (bs:List (Str×Int))(nds:List Nd)(st:Int×List Int):Option (List Int×Int×List Int):=(nds[st.1.toNat]?).bind fun nd=>b8 bs st.2 nd
theorem cp {bs:List (Str×Int)}{nds:List Nd}{pl:Int}{ws:List Int}{nd:Nd}(h:nds[pl.toNat]? = some nd):aG bs nds (pl,ws)=b8 bs ws nd:=by
 show (nds[pl.toNat]?).bind (fun nd=>b8 bs ws nd)=_
 rw [h]
 rfl
def fq (bs:List (Str×Int))(m:Nat)(st:Int×List Int):Prop:=0<=st.1/\st.1 < m/\Paired Within (bs.map (·.2)) st.2
theorem jA {bs:List (Str×Int)}{nds:List Nd}{s0:Int×List Int}(sz:∀b∈bs,1<=b.2)(gd:∀e∈nds,e.good (· ∈ bs.map (·.1)) nds.length 19)(h0:fq bs nds.length s0):∀{n:Nat} {st:Int×List Int} {sd:List Int},tr (aG bs nds) n s0=some (st,sd)->fq bs nds.length st/\sd.length<=n
 | 0,st,sd,h=>by
   cases h
   exact ⟨h0,DJ _⟩
 | n + 1,st,sd,h=>by
   cases e1:tr (aG bs nds) n s0 with
   | none=>rw [gh e1] at h; cases h
   | some y=>
     obtain ⟨⟨pl,ws⟩,sy⟩:=y
     obtain ⟨⟨p0,p1,pw⟩,sl⟩:=jA sz gd h0 e1
     cases e2:aG bs nds (pl,ws) with
     | none=>rw [cT e1 e2] at h; cases h
     | some r=>
       obtain ⟨nd,hnd⟩ : ∃nd,nds[pl.toNat]? = some nd:=⟨nds[pl.toNat]'(by have:pl < nds.length:=p1; have:0<=pl:=p0; omega),DH _⟩
       rw [bf (u:=r.2) (x:=r.1) e1 e2] at h
       cases h
       rw [cp hnd] at e2
       obtain ⟨a,b,c,d⟩:=kc sz pw (gd nd (DR hnd)) e2
       refine ⟨⟨a,b,c⟩,?_⟩
       rw [DE]
       omega
def keyOf (st:Int×List Int):List NI:=[.inl (.inl st.1),.inr (st.2.map Sum.inl)]
theorem qI {a b:Int×List Int}(h:keyOf a=keyOf b):a=b:=by
 unfold keyOf at h
 injection h with h1 h2
 injection h1 with h1
 injection h1 with h1
 injection h2 with h2 _
 injection h2 with h2
 have go:∀{x y:List Int},x.map (Sum.inl:Int->Key)=y.map Sum.inl->x=y:=fun {x}=>by
   induction x with
   | nil=>
     intro y e
     cases y with
     | nil=>rfl
     | cons _ _=>cases e
   | cons u x ih=>
     intro y e
     cases y with
     | nil=>cases e
     | cons v y=>
       rw [D7,D7] at e
       injection e with e1 e2
       injection e1 with e1
       rw [e1,ih e2]
 obtain ⟨a1,a2⟩:=a
 obtain ⟨b1,b2⟩:=b
 rw [show a1=b1 from h1,show a2=b2 from go h2]
theorem kG (ws:List Int):(ws.map (Sum.inl:Int->Key)).map kV=ws.map V.int:=by
 rw [EV]
 rfl
theorem jd {H:Hp}{b c:Addr}{pl:Int}{ws:List Int}(h1:H b=some (.tup [.int pl,.ref c]))(h2:H c=some (.tup (ws.map V.int))):cj H b (keyOf (pl,ws)):=
 ⟨_,h1,.cons rfl (.cons ⟨c,rfl,by rw [kG]; exact h2⟩ .nil)⟩
theorem oT:∀{bs:List (Str×Int)} {ws:List Int},Paired Within (bs.map (·.2)) ws->ws∈rK bs
 | [],_,.nil=>Ef
 | b :: bs,w :: ws,.cons r t=>by
   refine List.mem_flatMap.mpr ⟨w.toNat,List.mem_range.mpr ?_,List.mem_map.mpr ⟨ws,oT t,?_⟩⟩
   · have h1:0<=w:=r.1
     have h2:w < b.2:=r.2
     omega
   · rw [E3 r.1]
theorem kE {bs:List (Str×Int)}{m:Nat}{st:Int×List Int}(h:fq bs m st):st∈km bs m:=by
 obtain ⟨pl,ws⟩:=st
 obtain ⟨p0,p1,pw⟩:=h
 refine List.mem_flatMap.mpr ⟨pl.toNat,List.mem_range.mpr ?_,List.mem_map.mpr ⟨ws,oT pw,?_⟩⟩
 · have:pl < m:=p1
   have:0<=pl:=p0
   omega
 · rw [E3 p0]
theorem sub_len {α:Type}[DecidableEq α]:∀{xs ys:List α},xs.Nodup->(∀x∈xs,x∈ys)->xs.length<=ys.length
 | [],_,_,_=>Ep _
 | x :: r,ys,nd,h=>by
   rw [Gn] at nd
   have hx:x∈ys:=h x (List.mem_cons.mpr (.inl rfl))
   have ih:=sub_len (xs:=r) (ys:=ys.erase x) nd.2 fun y hy=>(List.mem_erase_of_ne (a:=y) (b:=x) (fun e:y=x=>nd.1 (e ▸ hy))).mpr (h y (List.mem_cons.mpr (.inr hy)))
   have hl:=List.length_erase_of_mem hx
   have hpos:0 < ys.length:=List.length_pos_of_mem hx
   rw [D6]
   omega
structure bS (P:Program)(w:World)(f:Int×List Int->Option (List Int×Int×List Int))(s0:Int×List Int)(H:Hp)(d:Addr)(kvs:NKV):Prop where
 nd:ND P w [true,false] H d kvs
 at_:∀j p,kvs[j]? = some p->∃t sj tj,tr f j s0=some (t,sj)/\p.1=keyOf t/\p.2.2=.ref tj/\H tj=some (.tup [.int (j:Nat),.int (sj.length:Nat)])
section
variable {f:Int×List Int->Option (List Int×Int×List Int)}{s0:Int×List Int}{H H':Hp}{d:Addr}{kvs:NKV}
theorem bS.keep (x:bS P w f s0 H d kvs)(hd:H' d=some (DN P w d kvs))(ht:TK H H'):bS P w f s0 H' d kvs:=
 ⟨x.nd.keep hd ht,fun j p hp=>let ⟨t,sj,tj,a,b,c,e⟩:=x.at_ j p hp; ⟨t,sj,tj,a,b,c,ht _ _ e⟩⟩
theorem bS.same (x:bS P w f s0 H d kvs)(s:ah H H'):bS P w f s0 H' d kvs:=x.keep (s _ _ x.nd.at_) (ah.tk s)
theorem bS.put {b tv:Addr}{st:Int×List Int}{sd:List Int}(x:bS P w f s0 H d kvs)(kb:cj H b (keyOf st))(hs:tr f kvs.length s0=some (st,sd))(no:valN kvs (keyOf st)=none)(hl:kvs.length < sizeLine)(ht:H tv=some (.tup [.int (kvs.length:Nat),.int (sd.length:Nat)])) :
   bS P w f s0 (upd H d (DN P w d (kvs++[(keyOf st,b,.ref tv)]))) d (kvs++[(keyOf st,b,.ref tv)]):=by
 have tk:TK H (upd H d (DN P w d (kvs++[(keyOf st,b,.ref tv)]))):=fun c us e=>by
   rw [aj (cA e x.nd.at_ (fun z=>nomatch z))]
   exact e
 refine ⟨x.nd.put kb rfl no hl,fun j p hp=>?_⟩
 by_cases hj:j < kvs.length
 · rw [D9 hj] at hp
   obtain ⟨t,sj,tj,a1,a2,a3,a4⟩:=x.at_ j p hp
   exact ⟨t,sj,tj,a1,a2,a3,tk _ _ a4⟩
 · have hj2:j=kvs.length:=by
     have:=(List.getElem?_eq_some_iff.mp hp).1
     rw [DE] at this
     simp only [D6,Fi] at this
     omega
   subst hj2
   rw [DW (DJ _),EW] at hp
   cases hp
   exact ⟨st,sd,tv,hs,rfl,rfl,tk _ _ ht⟩
theorem bS.find {st:Int×List Int}{v:V}(x:bS P w f s0 H d kvs)(h:valN kvs (keyOf st)=some v):∃j sj tj,j < kvs.length/\tr f j s0=some (st,sj)/\v=.ref tj/\H tj=some (.tup [.int (j:Nat),.int (sj.length:Nat)]):=by
 unfold valN at h
 obtain ⟨p,hp,rfl⟩:=Option.map_eq_some_iff.mp h
 have hk:p.1=keyOf st:=of_decide_eq_true (List.find?_some (p:=fun p:List NI×Addr×V=>decide (p.1=keyOf st)) hp)
 obtain ⟨j,hj⟩:=List.mem_iff_getElem?.mp (Gx hp)
 obtain ⟨t,sj,tj,a1,a2,a3,a4⟩:=x.at_ j p hj
 obtain rfl:=qI (a2.symm.trans hk)
 exact ⟨j,sj,tj,(List.getElem?_eq_some_iff.mp hj).1,a1,a3,a4⟩
theorem bS.apart (x:bS P w f s0 H d kvs):∀a b y z u v,a < b->b < kvs.length->tr f a s0=some (y,u)->tr f b s0=some (z,v)->y≠z:=by
 intro a b y z u v hab hb h1 h2 e
 subst e
 obtain ⟨t,sj,tj,a1,a2,_⟩:=x.at_ a kvs[a] (DH (by omega))
 obtain ⟨t',sj',tj',b1,b2,_⟩:=x.at_ b kvs[b] (DH hb)
 rw [h1] at a1
 cases a1
 rw [h2] at b1
 cases b1
 have n1:(kvs.map (·.1))[a]? = some (keyOf y):=by rw [Ed,DH (by omega)]; exact congrArg some a2
 have n2:(kvs.map (·.1))[b]? = some (keyOf y):=by rw [Ed,DH hb]; exact congrArg some b2
 have:=(Ga (by rw [DC]; omega) x.nd.nd).mp (n1.trans n2.symm)
 omega
theorem bS.bound {bs:List (Str×Int)}{m:Nat}(x:bS P w f s0 H d kvs)(hs:∀j st sd,tr f j s0=some (st,sd)->fq bs m st):kvs.length<=m * cX bs:=by
 rw [← iN,← DC (as:=kvs) (f:=(·.1)),← DC (as:=km bs m) (f:=keyOf)]
 refine sub_len x.nd.nd fun k hk=>?_
 obtain ⟨p,hp,rfl⟩:=List.mem_map.mp hk
 obtain ⟨j,hj⟩:=List.mem_iff_getElem?.mp hp
 obtain ⟨t,sj,tj,a1,a2,_⟩:=x.at_ j p hj
 exact List.mem_map.mpr ⟨t,kE (hs j t sj a1),a2.symm⟩
end
/-- what is said in the round,or nothing -/
def xY (H H':Hp)(sa:Addr):V->Option (List Int)->Prop
 | ro,none=>ro=.aU
 | ro,some xs=>∃l,ro=.ref l/\l≠sa/\H l=none/\H' l=some (.lst (xs.map V.int))
def pN:Sp:=fun vs H Q _=>∃(v:V) (ia:Addr) (bs:List (Str×Int)) (ins:List Str) (nds:List Nd) (iw:List Int),vs=[v,.ref ia]/\jG H v bs ins nds/\H ia=some (.lst (iw.map V.int))/\Paired Within (ins.map (bo bs)) iw/\nds.length * cX bs<=100000 /\
 ∀(r sa:Addr) (ro:V) (n:Nat) (sd:List Int) (rd:Option (List Int)) (H':Hp),ah H H'->H r=none->H' r=some (.tup [.ref sa,ro,.int n])->H sa=none->H' sa=some (.lst (sd.map V.int))->xY H H' sa ro rd->sd.length + (rd.getD []).length<=100000->aO (aG bs nds) (0,aN bs ins iw) (sd,rd,n)->Q (.ref r) H'
theorem vz {xs ys:List Int}:c7 ((xs++ys).map V.int) none (some (xs.length:Int))=xs.map V.int:=by
 unfold c7
 rw [HT.cD]
 show List.take (min xs.length _ - 0) (List.drop 0 _)=_
 rw [EU,Gf,DC,DE,FP (by omega),DS,List.take_left' (DC ..)]
theorem p8 {xs ys:List Int}:c7 ((xs++ys).map V.int) (some (xs.length:Int)) none=ys.map V.int:=by
 unfold c7
 rw [HT.cD]
 have e:min xs.length ((xs++ys).map V.int).length=xs.length:=by rw [DC,DE]; exact FP (by omega)
 rw [e,DS,List.drop_left' (DC ..)]
 refine EG ?_
 show _<=HT.bF _ _ none - _
 show _<=(xs.map V.int++ys.map V.int).length - xs.length
 rw [DE,DC,DC]
 omega
theorem bY:au ["program","inputs","place","worths","said","met","step","spoken","steps","ahead"] ["program","inputs"] (ag sRunOf):=⟨rfl,rfl,rfl,by decide +kernel,rfl,by decide +kernel,by decide +kernel⟩
theorem eE:(ag sRunOf).names.lookup (DD "beginning_of")=some .globalImplicit:=by decide +kernel
theorem eZ:(ag sRunOf).names.lookup (DD "len")=some .globalImplicit:=by decide +kernel
theorem i9:(ag sRunOf).names.lookup (DD "step_at")=some .globalImplicit:=by decide +kernel
theorem dn:(ag sRunOf).names.lookup (DD "tuple")=some .globalImplicit:=by decide +kernel
theorem t6 {f:Addr}{fd:FuncData}(F:cB K "run_of" "run_of" sRunOf f fd)(m_len:mg "len"=none)(m_tuple:mg "tuple"=none)(BG:aF P w K mg base "beginning_of" ["program","inputs"] 30 iF)(SA:aF P w K mg base "step_at" ["program","place","worths"] 30 kY):aL P w K mg base CX0 31 f fd ["program","inputs"] pN:=by
 refine F.ok bY (fun vs H Q E h=>?_) (fun cdv A outer s H vs Q E hr h=>?_)
 · obtain ⟨v,ia,bs,ins,nds,iw,rfl,_⟩:=h
   rfl
 · obtain ⟨v,ia,bs,ins,nds,iw,rfl,pg,hw,pw,hN,q⟩:=h
   refine ⟨_,HY (G3 (HP (G8 (GZ G1 (GZ (Hj BG hr eE (GZ (GY 0) (GZ (GY 1) G0))) (GZ (Hy G0) (GZ (L3.xo (P:=P) (w:=w)) G0 vX))))) (HG 4 (Hl (Hh 2 bY.nd) (Hl (Hh 3 bY.nd) (Hl (Hh 4 bY.nd) (Hl (Hh 5 bY.nd) HH))))))
     (G3 (L3.ou (L3.tM (P:=P) (w:=w) (bB hr _ (by decide)) (G8 (GZ (GY 2) (GZ (HI L3.iB dn m_tuple (by decide +kernel) (GZ (GY 3) G0)) G0))) (GY 5)) (G3 (L3.AJ (P:=P) (w:=w) (bB hr _ (by decide)) (GY 5) (G8 (GZ (GY 2) (GZ (HI L3.iB dn m_tuple (by decide +kernel) (GZ (GY 3) G0)) G0))) (G8 (GZ (Hv (L3.rN (P:=P) (w:=w)) eZ m_len DQ (GZ (GY 5) G0)) (GZ (Hv Hz eZ m_len DQ (GZ (GY 4) G0)) G0))))
     (G3 (G9 6 bY.nd (Hj SA hr i9 (GZ (GY 0) (GZ (GY 2) (GZ (GY 3) G0)))))
     (G3 (Hn (Hk Iy (GY 6) HS) (G6 (Hi (G8 (GZ (GY 4) (GZ HS (GZ (G4 Ii (Hv (L3.rN (P:=P) (w:=w)) eZ m_len DQ (GZ (GY 5) G0)) G1) G0)))))) Ho)
     (G3 (HP (GY 6) (HG 3 (Hl (Hh 7 bY.nd) (Hl (Hh 2 bY.nd) (Hl (Hh 3 bY.nd) HH)))))
     (G6 (Ij (L3.extend (GY 4) (GZ (GY 7) G0)))))))))
     (G3 (HP (L3.AI (P:=P) (w:=w) (bB hr _ (by decide)) (GY 5) (G8 (GZ (GY 2) (GZ (HI L3.iB dn m_tuple (by decide +kernel) (GZ (GY 3) G0)) G0)))) (HG 2 (Hl (Hh 8 bY.nd) (Hl (Hh 9 bY.nd) HH))))
     (G6 (Hi (G8 (GZ (Im (GY 4) (GY 9)) (GZ (Io (GY 4) (GY 9)) (GZ (GY 8) G0))))))))),?_⟩
   have hbw:=iP pg.ft.nd pg.ft.sz pw
   have n1:=pg.one
   have h0:fq bs nds.length (0,aN bs ins iw):=⟨E4 0,by show (0:Int) < nds.length; omega,hbw⟩
   have inv:=fun {n:Nat} {st:Int×List Int} {sd:List Int} h=>jA (n:=n) (st:=st) (sd:=sd) pg.ft.sz pg.gd h0 h
   refine ⟨_,rfl,_,rfl,v,ia,bs,ins,nds,iw,rfl,pg.pa,pg.ft,hw,pw,fun wa H1 hwa s1 e1=>⟨JA,fun sa hsa d hd hdm=>⟨JE,fun tt htt=>⟨tt,_,rfl,aq.of ae,rfl,_,_,rfl,_,_,rfl,_,_,rfl,_,_,rfl,rfl,?_⟩⟩⟩⟩
   have a1:=af hsa (.lst [])
   have b1:(upd H1 sa (.lst [])) sa=some (.lst []):=ae
   generalize upd H1 sa (.lst [])=Ha at a1 b1 hd htt ⊢
   have nda:d≠sa:=(ai b1 hd).symm
   have a2:=af hd (DN P w d [])
   have b2:(upd Ha d (DN P w d [])) d=some (DN P w d []):=ae
   generalize upd Ha d (DN P w d [])=Hb at a2 b2 htt ⊢
   generalize ho:(HO.tup [V.int 0,V.ref wa,V.ref sa,V.ref d])=ot
   have a3:=af htt ot
   generalize upd Hb tt ot=Hc at a3 ⊢
   have s1c:=aa a1 (aa a2 a3)
   have nsa:H1 sa=none:=hsa
   have nd1:H1 d=none:=ar a1 hd
   have met0:bS P w (aG bs nds) (0,aN bs ins iw) Hc d []:=⟨⟨a3 _ _ b2,Ep _,Gw,(fun p hp=>nomatch hp),hdm⟩,fun j p hp=>by simp at hp⟩
   refine ⟨(fun m σ H2=>∃(pl:Int) (ws sd:List Int) (wb:Addr) (kvs:NKV) (o6 o7:Option V),m=nds.length * cX bs - kvs.length/\σ=[some v,some (.ref ia),some (.int pl),some (.ref wb),some (.ref sa),some (.ref d),o6,o7,none,none]/\ah H1 H2/\H2 sa=some (.lst (sd.map V.int))/\H2 wb=some (.lst (ws.map V.int))/\bS P w (aG bs nds) (0,aN bs ins iw) H2 d kvs/\tr (aG bs nds) kvs.length (0,aN bs ins iw)=some ((pl,ws),sd)),⟨_,0,aN bs ins iw,[],wa,[],_,_,rfl,rfl,s1c,a3 _ _ (a2 _ _ b1),s1c _ _ e1,met0,rfl⟩,?_⟩
   rintro m σ H2 ⟨pl,ws,sd,wb,kvs,o6,o7,rfl,rfl,s2,hs2,hw2,met,htr⟩
   obtain ⟨⟨p0,p1,pww⟩,sdl⟩:=inv htr
   have kb:=met.bound fun j st sd h=>(inv h).1
   -- the key
   refine ⟨_,rfl,_,rfl,wb,_,rfl,ao.of hw2,fun c hc=>⟨JC,fun b hb=>⟨_,rfl,d,b,[true,false],kvs,keyOf (pl,ws),rfl,rfl,?_⟩⟩⟩
   have c1:=af hc (.tup (ws.map V.int))
   have c2:(upd H2 c (.tup (ws.map V.int))) c=some (.tup (ws.map V.int)):=ae
   generalize upd H2 c (.tup (ws.map V.int))=Hd at c1 c2 hb ⊢
   have c3:=af hb (.tup [.int pl,.ref c])
   have c4:(upd Hd b (.tup [.int pl,.ref c])) b=some (.tup [.int pl,.ref c]):=ae
   generalize upd Hd b (.tup [.int pl,.ref c])=H3 at c3 c4 ⊢
   have s23:=aa c1 c3
   have met3:=met.same s23
   refine ⟨met3.nd,jd c4 (c3 _ _ c2),rfl,_,rfl,?_⟩
   refine az (fun cc=>?_) (fun cc=>?_)
   · -- a new place
     have no:valN kvs (keyOf (pl,ws))=none:=by
       cases z:valN kvs (keyOf (pl,ws)) with
       | none=>rfl
       | some u=>rw [z] at cc; cases cc
     refine ⟨fun σ' H'=>∃m',m' < nds.length * cX bs - kvs.length/\(fun m σ H2=>∃(pl:Int) (ws sd:List Int) (wb:Addr) (kvs:NKV) (o6 o7:Option V),m=nds.length * cX bs - kvs.length/\σ=[some v,some (.ref ia),some (.int pl),some (.ref wb),some (.ref sa),some (.ref d),o6,o7,none,none]/\ah H1 H2/\H2 sa=some (.lst (sd.map V.int))/\H2 wb=some (.lst (ws.map V.int))/\bS P w (aG bs nds) (0,aN bs ins iw) H2 d kvs/\tr (aG bs nds) kvs.length (0,aN bs ins iw)=some ((pl,ws),sd)) m' σ' H',fun _ _ h=>h,?_⟩
     have s13:=aa s2 s23
     have s03:=aa s1 s13
     have hs3:=s23 _ _ hs2
     have hw3:=s23 _ _ hw2
     -- the value
     refine ⟨_,rfl,d,_,kvs,rfl,met3.nd,_,rfl,sa,_,rfl,.inl (ao.of hs3),JC,fun tv htv=>?_⟩
     rw [DC]
     have d1:=af htv (.tup [.int (kvs.length:Nat),.int (sd.length:Nat)])
     have d2:(upd H3 tv (.tup [.int (kvs.length:Nat),.int (sd.length:Nat)])) tv=some (.tup [.int (kvs.length:Nat),.int (sd.length:Nat)]):=ae
     generalize upd H3 tv (.tup [.int (kvs.length:Nat),.int (sd.length:Nat)])=H4 at d1 d2 ⊢
     -- the key again
     refine ⟨_,rfl,_,rfl,_,rfl,wb,_,rfl,ao.of (d1 _ _ hw3),fun c5 hc5=>⟨JC,fun b5 hb5=>⟨d,b5,[true,false],kvs,keyOf (pl,ws),rfl,rfl,?_⟩⟩⟩
     have e1':=af hc5 (.tup (ws.map V.int))
     have e2':(upd H4 c5 (.tup (ws.map V.int))) c5=some (.tup (ws.map V.int)):=ae
     generalize upd H4 c5 (.tup (ws.map V.int))=He at e1' e2' hb5 ⊢
     have e3':=af hb5 (.tup [.int pl,.ref c5])
     have e4':(upd He b5 (.tup [.int pl,.ref c5])) b5=some (.tup [.int pl,.ref c5]):=ae
     generalize upd He b5 (.tup [.int pl,.ref c5])=H5 at e3' e4' ⊢
     have s35:=aa d1 (aa e1' e3')
     have met5:=met3.same s35
     have k5:=jd e4' (e3' _ _ e2')
     have hl:kvs.length < sizeLine:=En (Eb kb hN) (by decide)
     refine ⟨met5.nd,k5,rfl,no,?_⟩
     have met6:=met5.put (tv:=tv) k5 htr no hl (e3' _ _ (e1' _ _ d2))
     have kb6:=met6.bound fun j st sd h=>(inv h).1
     rw [DE] at kb6
     simp only [D6,Fi] at kb6
     have lt:nds.length * cX bs - (kvs.length + 1) < nds.length * cX bs - kvs.length:=by omega
     have s16:ah H1 (upd H5 d (DN P w d (kvs++[(keyOf (pl,ws),b5,.ref tv)]))):=bc (aa s13 s35) nd1
     have hs6:(upd H5 d (DN P w d (kvs++[(keyOf (pl,ws),b5,.ref tv)]))) sa=some (.lst (sd.map V.int)):=by rw [aj nda.symm]; exact s35 _ _ hs3
     have nwd:wb≠d:=cA hw2 met.nd.at_ (fun z=>nomatch z)
     have hw6:(upd H5 d (DN P w d (kvs++[(keyOf (pl,ws),b5,.ref tv)]))) wb=some (.lst (ws.map V.int)):=by rw [aj nwd]; exact s35 _ _ hw3
     generalize hk6:kvs++[(keyOf (pl,ws),b5,V.ref tv)]=kvs6 at met6 s16 hs6 hw6 ⊢
     have hl6:kvs6.length=kvs.length + 1:=by rw [← hk6,DE]; rfl
     generalize upd H5 d (DN P w d kvs6)=H6 at met6 s16 hs6 hw6 ⊢
     obtain ⟨nd,hnd⟩ : ∃nd,nds[pl.toNat]? = some nd:=⟨nds[pl.toNat]'(by have:pl < nds.length:=p1; have:0<=pl:=p0; omega),DH _⟩
     have g0:=pg.gd nd (DR hnd)
     have s06:=aa s1 s16
     refine ⟨_,rfl,_,rfl,_,rfl,v,pl,wb,bs,ws,ins,nds,nd,_,rfl,⟨pg.pa.same s06,pg.ft.nd,pg.ft.len,pg.ft.sz,hw6,pww,p0,hnd,g0⟩,fun en H7 s7=>?_,fun sx n ws' es r l1 l2 H7 td=>?_⟩
     · refine ⟨_,rfl,rfl,_,rfl,?_⟩
       refine az (fun _=>?_) (fun c=>absurd (decide_eq_true rfl) c)
       have met7:=met6.same s7
       refine ⟨_,rfl,_,rfl,d,_,kvs6,rfl,met7.nd,_,_,rfl,rfl,JD,fun r hr'=>?_⟩
       show Q (V.ref r) (upd H7 r (.tup [.ref sa,.aU,.int (((kvs6.length:Nat):Int) - 1)]))
       rw [show ((kvs6.length:Nat):Int) - 1=((kvs.length:Nat):Int) by rw [hl6]; omega]
       have s8:=af hr' (.tup [.ref sa,.aU,.int (kvs.length:Nat)])
       have s78:=aa s7 s8
       refine q r sa .aU kvs.length sd none _ (aa s06 s78) (ar (aa s06 s7) hr') ae (ar s1 nsa) (s78 _ _ hs6) rfl ?_ (.inl ⟨kvs.length,(pl,ws),sd,htr,by rw [cp hnd]; exact en,rfl⟩)
       show sd.length + 0<=_
       omega
     · refine ⟨_,rfl,rfl,_,rfl,?_⟩
       refine az (fun c=>absurd (of_decide_eq_true c) (by simp)) (fun _=>?_)
       obtain ⟨q0,q1,q2,q3⟩:=kc pg.ft.sz pww g0 es
       have hs7:=td.s _ _ hs6
       refine ⟨_,rfl,r,_,rfl,aq.of td.er,rfl,_,_,rfl,_,_,rfl,_,_,rfl,rfl,?_⟩
       refine ⟨_,rfl,.inl ⟨rfl,_,ao.of hs7⟩,_,rfl,sa,l1,_,_,rfl,rfl,hs7,td.e1,?_,?_⟩
       · rw [DC,DC]
         have:sd.length + sx.length<=100001:=by have:sx.length<=1:=q3; omega
         exact Eb this (by decide)
       have nl:l2≠sa:=fun z=>by have:=td.h2; rw [z,hs6] at this; cases this
       have nds2:d≠sa:=nda
       have met8:bS P w (aG bs nds) (0,aN bs ins iw) (upd H7 sa (.lst (sd.map V.int++sx.map V.int))) d kvs6:=(met6.same td.s).keep (by rw [aj nds2]; exact td.s _ _ met6.nd.at_) (TK.lst hs7)
       refine ⟨_,lt,n,ws',sd++sx,l2,kvs6,_,_,by rw [hl6],rfl,bc (aa s16 td.s) nsa,by rw [ae,DS],by rw [aj nl]; exact td.e2,met8,?_⟩
       rw [hl6]
       exact bf htr (by rw [cp hnd]; exact es)
   · -- come again
     have some_:∃u,valN kvs (keyOf (pl,ws))=some u:=by
       cases z:valN kvs (keyOf (pl,ws)) with
       | none=>rw [z] at cc; exact absurd rfl cc
       | some u=>exact ⟨u,rfl⟩
     obtain ⟨u,hu⟩:=some_
     obtain ⟨j,sj,tj,hj,trj,rfl,htj⟩:=met3.find hu
     have hw3:=s23 _ _ hw2
     refine ⟨_,rfl,_,rfl,_,rfl,wb,_,rfl,ao.of hw3,fun c5 hc5=>⟨JC,fun b5 hb5=>⟨d,b5,[true,false],kvs,keyOf (pl,ws),.ref tj,rfl,rfl,?_⟩⟩⟩
     have e1':=af hc5 (.tup (ws.map V.int))
     have e2':(upd H3 c5 (.tup (ws.map V.int))) c5=some (.tup (ws.map V.int)):=ae
     generalize upd H3 c5 (.tup (ws.map V.int))=He at e1' e2' hb5 ⊢
     have e3':=af hb5 (.tup [.int pl,.ref c5])
     have e4':(upd He b5 (.tup [.int pl,.ref c5])) b5=some (.tup [.int pl,.ref c5]):=ae
     generalize upd He b5 (.tup [.int pl,.ref c5])=H5 at e3' e4' ⊢
     have s35:=aa e1' e3'
     have s25:=aa s23 s35
     have hs5:=s25 _ _ hs2
     refine ⟨(met3.same s35).nd,jd e4' (e3' _ _ e2'),rfl,hu,tj,_,rfl,aq.of (s35 _ _ htj),rfl,_,_,rfl,_,_,rfl,rfl,?_⟩
     obtain ⟨y,hy,rest,hrest⟩:=dH htr (ED hj)
     rw [trj] at hy
     cases hy
     have hsd:sd=sj++rest:=hrest
     subst hsd
     refine ⟨_,rfl,_,rfl,_,rfl,sa,_,rfl,ao.of hs5,fun x1 hx1=>?_⟩
     rw [vz]
     have f1:=af hx1 (.lst (sj.map V.int))
     have f2:(upd H5 x1 (.lst (sj.map V.int))) x1=some (.lst (sj.map V.int)):=ae
     generalize upd H5 x1 (.lst (sj.map V.int))=Hf at f1 f2 ⊢
     refine ⟨_,rfl,_,rfl,_,rfl,sa,_,rfl,ao.of (f1 _ _ hs5),fun x2 hx2=>?_⟩
     rw [p8]
     have f3:=af hx2 (.lst (rest.map V.int))
     have f4:(upd Hf x2 (.lst (rest.map V.int))) x2=some (.lst (rest.map V.int)):=ae
     have nx:x2≠x1:=(ai f2 hx2).symm
     generalize upd Hf x2 (.lst (rest.map V.int))=Hg at f3 f4 ⊢
     refine ⟨_,rfl,JD,fun r hr'=>?_⟩
     have f5:=af hr' (.tup [.ref x1,.ref x2,.int (j:Nat)])
     have s0g:=aa s1 (aa s2 (aa s25 (aa f1 f3)))
     have s0f:=aa s1 (aa s2 (aa s25 f1))
     have s05:=aa s1 (aa s2 s25)
     have f35:=aa f3 f5
     refine q r x1 (.ref x2) j sj (some rest) _ (aa s0g f5) (ar s0g hr') ae (ar s05 hx1) (f35 _ _ f2) ⟨x2,rfl,nx,ar s0f hx2,f5 _ _ f4⟩ ?_ (.inr ⟨j,kvs.length,(pl,ws),sj,rest,hj,trj,htr,met.apart,rfl⟩)
     show sj.length + rest.length<=_
     rw [DE] at sdl
     omega
theorem qy (s:Src K mg "run_of" sRunOf)(m_len:mg "len"=none)(m_tuple:mg "tuple"=none)(BG:aF P w K mg base "beginning_of" ["program","inputs"] 30 iF)(SA:aF P w K mg base "step_at" ["program","place","worths"] 30 kY):aF P w K mg base "run_of" ["program","inputs"] 31 pN:=
 let ⟨f,fd,F,m⟩:=s
 ⟨f,fd,t6 F m_len m_tuple BG SA,F.kp,cu F fun _ _ _ _ _ _ _ _=>rfl,m⟩
end
end TW
set_option Elab.async false
set_option linter.all false
set_option maxRecDepth 100000
set_option exponentiation.threshold 4000
set_option maxHeartbeats 1000000
namespace TW
open PySem L2
section
variable {P:Program}{w:World}{K:DA}{mg:Str->Option Value}{base:Heap}
abbrev sFSaid:Stmt:=top 19
abbrev sSettle:Stmt:=top 18
abbrev sSAlike:Stmt:=top 17
abbrev sNoPair:Stmt:=top 16
abbrev sAFor:Stmt:=top 21
/-! ### runs,as they are told -/
def mK (H:Hp):V->Option (List Int)->Prop
 | ro,none=>ro=.aU
 | ro,some xs=>∃l,ro=.ref l/\H l=some (.lst (xs.map V.int))
structure eG (H:Hp)(v:V)(sd:List Int)(rd:Option (List Int)):Prop where
 at_:∃p sa ro n,v=.ref p/\H p=some (.tup [.ref sa,ro,.int n])/\H sa=some (.lst (sd.map V.int))/\mK H ro rd
 few:sd.length + (rd.getD []).length<=100000
theorem mK.same {H H':Hp}(s:ah H H'):∀{rd:Option (List Int)} {ro:V},mK H ro rd->mK H' ro rd
 | none,_,h=>h
 | some _,_,⟨l,e,h⟩=>⟨l,e,s _ _ h⟩
theorem eG.same {H H':Hp}{v:V}{sd:List Int}{rd:Option (List Int)}(h:eG H v sd rd)(s:ah H H'):eG H' v sd rd:=by
 obtain ⟨p,sa,ro,n,e,h1,h2,h3⟩:=h.at_
 exact ⟨⟨p,sa,ro,n,e,s _ _ h1,s _ _ h2,h3.same s⟩,h.few⟩
/-! ### first_said -/
def fV:Sp:=fun vs H Q _=>∃(v:V) (m:Nat) (sd:List Int) (rd:Option (List Int)),vs=[v,.int (m:Nat)]/\eG H v sd rd/\m<=1000000/\∀(l:Addr) (fs:List Int) (H':Hp),ah H H'->H l=none->H' l=some (.lst (fs.map V.int))->cU sd rd m fs->Q (.ref l) H'
theorem fU:au ["run","many","ahead","around","steps","said"] ["run","many"] (ag sFSaid):=⟨rfl,rfl,rfl,by decide +kernel,rfl,by decide +kernel,by decide +kernel⟩
theorem m6:(ag sFSaid).names.lookup (DD "len")=some .globalImplicit:=by decide +kernel
theorem lN:(ag sFSaid).names.lookup (DD "list")=some .globalImplicit:=by decide +kernel
theorem tY {f:Addr}{fd:FuncData}(F:cB K "first_said" "first_said" sFSaid f fd)(m_len:mg "len"=none)(m_list:mg "list"=none):aL P w K mg base CX0 1 f fd ["run","many"] fV:=by
 refine F.ok fU (fun vs H Q E h=>?_) (fun cdv A outer s H vs Q E hr h=>?_)
 · obtain ⟨v,m,sd,rd,rfl,_⟩:=h
   rfl
 · obtain ⟨v,m,sd,rd,rfl,hrun,hm,q⟩:=h
   refine fI ⟨_,(G3 (HP (GY 0) (HG 3 (Hl (Hh 2 fU.nd) (Hl (Hh 3 fU.nd) (Hl (Hh 4 fU.nd) HH)))))
     (G3 (G9 5 fU.nd (HI HX lN m_list (by decide +kernel) (GZ (GY 2) G0)))
     (G3 (L3.ou (HM (Ig (L3.Du (GY 3)) (Ih (Hk HL (Hv Hz m6 m_len DQ (GZ (GY 5) G0)) (GY 1))))) (G6 (Ij (L3.extend (GY 5) (GZ (GY 3) G0)))))
     (G6 (Hi (Im (GY 5) (GY 1))))))),?_⟩
   have few:=hrun.few
   obtain ⟨p,sa,ro,n,rfl,hp,hsa,hro⟩:=hrun.at_
   refine ⟨_,rfl,p,_,rfl,aq.of hp,rfl,_,_,rfl,_,_,rfl,_,_,rfl,rfl,?_⟩
   refine ⟨_,rfl,sa,_,rfl,.inl (ao.of hsa),fun sb hsb=>?_⟩
   have s1:ah H (upd H sb (.lst (sd.map V.int))):=af hsb _
   have e1:(upd H sb (.lst (sd.map V.int))) sb=some (.lst (sd.map V.int)):=ae
   generalize upd H sb (.lst (sd.map V.int))=H1 at s1 e1 ⊢
   refine ⟨(fun M σ H2=>∃(wd:List Int) (k:Nat),M=m - wd.length/\σ=[some (.ref p),some (.int (m:Nat)),some (.ref sa),some ro,some (.int n),some (.ref sb)]/\ah H H2/\H2 sb=some (.lst (wd.map V.int))/\wd=sd++rep k (rd.getD [])/\wd.length<=1100000),⟨_,sd,0,rfl,rfl,s1,e1,by unfold rep; simp,by omega⟩,?_⟩
   rintro M σ H2 ⟨wd,k,rfl,rfl,s2,hb2,hwd,hwl⟩
   have fin:∀(sd':List Int),cU sd rd m (sd'.take m)->wd=sd'->∀(l:Addr),H2 l=none->Q (.ref l) (upd H2 l (.lst (c7 (wd.map V.int) none (some (m:Int))))):=fun sd' hf e l hl=>by
     rw [iV,vw,e]
     exact q l (sd'.take m) _ (cK s2 hl) (ar s2 hl) ae hf
   cases rd with
   | none=>
     have hro':ro=.aU:=hro
     subst hro'
     refine ⟨_,rfl,false,rfl,fK (fK ?_)⟩
     have hw0:wd=sd:=by rw [hwd]; unfold rep; simp
     exact ⟨_,rfl,_,rfl,_,rfl,sb,_,rfl,ao.of hb2,fun l hl=>fin sd (iW rfl) hw0 l hl⟩
   | some xs=>
     obtain ⟨la,rfl,hla⟩:=hro
     have hla2:=s2 _ _ hla
     have few':sd.length + xs.length<=100000:=few
     have hwd':wd=sd++rep k xs:=hwd
     by_cases hx:xs=[]
     · subst hx
       refine ⟨_,rfl,false,.inl ⟨_,ao.of hla2,rfl⟩,fK (fK ?_)⟩
       have hw0:wd=sd:=by rw [hwd']; unfold rep; simp
       exact ⟨_,rfl,_,rfl,_,rfl,sb,_,rfl,ao.of hb2,fun l hl=>fin sd (iW rfl) hw0 l hl⟩
     · have hpos:0 < xs.length:=List.length_pos_iff.mpr hx
       refine ⟨_,rfl,true,.inl ⟨_,ao.of hla2,by cases xs with | nil=>exact absurd rfl hx | cons a r=>rfl⟩,cN ?_⟩
       refine ⟨_,rfl,sb,_,rfl,.inl (ao.of hb2),_,rfl,_,_,rfl,rfl,_,rfl,?_⟩
       rw [DC]
       refine az (fun c=>?_) (fun c=>?_)
       · have hlt:wd.length < m:=by have:=of_decide_eq_true c; omega
         refine ⟨fun σ' H'=>∃m',m' < m - wd.length/\(fun M σ H2=>∃(wd:List Int) (k:Nat),M=m - wd.length/\σ=[some (.ref p),some (.int (m:Nat)),some (.ref sa),some (.ref la),some (.int n),some (.ref sb)]/\ah H H2/\H2 sb=some (.lst (wd.map V.int))/\wd=sd++rep k ((some xs).getD [])/\wd.length<=1100000) m' σ' H',fun _ _ h=>h,?_⟩
         refine ⟨_,rfl,.inl ⟨rfl,_,ao.of hb2⟩,_,rfl,sb,la,_,_,rfl,rfl,hb2,hla2,?_,?_⟩
         · rw [DC,DC]
           exact Eb (show wd.length + xs.length<=1100000 by omega) (by decide)
         refine ⟨m - (wd++xs).length,by rw [DE]; omega,wd++xs,k + 1,rfl,rfl,bc s2 hsb,by rw [ae,DS],?_,by rw [DE]; omega⟩
         show wd++xs=sd++rep (k + 1) xs
         rw [fT,← Fx,← hwd']
       · have hge:m<=wd.length:=by
           have:¬ ((wd.length:Int) < (m:Int)):=fun z=>c (decide_eq_true z)
           omega
         exact ⟨_,rfl,_,rfl,_,rfl,sb,_,rfl,ao.of hb2,fun l hl=>fin (sd++rep k xs) (mY (by rw [← hwd']; exact hge)) hwd' l hl⟩
theorem qv (s:Src K mg "first_said" sFSaid)(m_len:mg "len"=none)(m_list:mg "list"=none):aF P w K mg base "first_said" ["run","many"] 1 fV:=
 let ⟨f,fd,F,m⟩:=s
 ⟨f,fd,tY F m_len m_list,F.kp,cu F fun _ _ _ _ _ _ _ _=>rfl,m⟩
/-! ### numbers_that_settle -/
def BN (H:Hp)(v:V)(z:List Int):Prop:=∃l,v=.ref l/\H l=some (.lst (z.map V.int))
def d5:Sp:=fun vs H Q _=>∃(v v':V) (sd:List Int) (rd:Option (List Int)) (sd':List Int) (rd':Option (List Int)),vs=[v,v']/\eG H v sd rd/\eG H v' sd' rd'/\∀(H':Hp),ah H H'->Q (.int (fO sd rd sd' rd':Nat)) H'
theorem mv:au ["run","another","rounds"] ["run","another"] (ag sSettle):=⟨rfl,rfl,rfl,by decide +kernel,rfl,by decide +kernel,by decide +kernel⟩
theorem gT:(ag sSettle).names.lookup (DD "len")=some .globalImplicit:=by decide +kernel
theorem lW:(ag sSettle).names.lookup (DD "max")=some .globalImplicit:=by decide +kernel
theorem lX:(ag sSettle).names.lookup (DD "sum")=some .globalImplicit:=by decide +kernel
theorem qU {f:Addr}{fd:FuncData}(F:cB K "numbers_that_settle" "numbers_that_settle" sSettle f fd)(m_len:mg "len"=none)(m_max:mg "max"=none)(m_sum:mg "sum"=none):aL P w K mg base CX0 1 f fd ["run","another"] d5:=by
 refine F.ok mv (fun vs H Q E h=>?_) (fun cdv A outer s H vs Q E hr h=>?_)
 · obtain ⟨v,v',sd,rd,sd',rd',rfl,_⟩:=h
   rfl
 · obtain ⟨v,v',sd,rd,sd',rd',rfl,r1,r2,q⟩:=h
   refine fI ⟨_,(G3 (L3.Cq (i:=2) [none] ["told"] (show aA _ (ag sSettle) from ⟨rfl,by decide +kernel,by decide +kernel,by decide +kernel⟩) (by rfl) (L3.iT (G8 (GZ (GY 0) (GZ (GY 1) G0)))) (fun _ _ _ _ _=>⟨(Hh 0 (show (["told"]:List Str).Nodup from by decide +kernel)),(L3.if1 (Hk L3.tU (G2 G5 (GY 0) G1) HS)),(G2 G5 (GY 0) G1)⟩) mv.nd)
     (G6 (Hi (G4 HF (Hv L3.oH lW m_max (by decide +kernel) (GZ (Hv Hz gT m_len DQ (GZ (G2 G5 (GY 0) G1) G0)) (GZ (Hv Hz gT m_len DQ (GZ (G2 G5 (GY 1) G1) G0)) G0))) (Hv L3.xj lX m_sum (by decide +kernel) (GZ (HZ [none] ["told"] (show aA _ (ag sSettle) from ⟨rfl,by decide +kernel,by decide +kernel,by decide +kernel⟩) (by rfl) (HQ (GY 2)) (fun _ _ _ _ _=>⟨(Hh 0 (show (["told"]:List Str).Nodup from by decide +kernel)),HU,(Hv Hz (by rfl) m_len DQ (GZ (GY 0) G0))⟩)) G0)))))),?_⟩
   obtain ⟨p,sa,ro,n,rfl,hp,hsa,hro⟩:=id r1.at_
   obtain ⟨p',sa',ro',n',rfl,hp',hsa',hro'⟩:=id r2.at_
   refine ⟨_,rfl,_,rfl,JC,fun tp htp=>?_⟩
   have s1:ah H (upd H tp (.tup [.ref p,.ref p'])):=af htp _
   have g1:(upd H tp (.tup [.ref p,.ref p'])) tp=some (.tup [.ref p,.ref p']):=ae
   generalize upd H tp (.tup [.ref p,.ref p'])=H1 at s1 g1 ⊢
   refine ⟨tp,rfl,⟨_,aq.of g1⟩,fun ra hra=>?_⟩
   refine rX (xs:=[.ref p,.ref p']) (fun i H2=>∃(ys:List V) (zs:List (List Int)),ah H1 H2/\H2 ra=some (.lst ys)/\ys.length<=i/\Paired (BN H) ys zs/\(zs.map E8).sum=(([(rd.getD []).length,(rd'.getD []).length]:List Nat).take i).sum) ⟨[],[],af hra _,ae,DJ _,.nil,rfl⟩ (fun i H2 _ z=>?_) (fun i x H2 hx z=>?_) (fun H2 z=>?_)
   · obtain ⟨ys,zs,s2,_⟩:=z
     exact aq.of (s2 _ _ g1)
   · obtain ⟨ys,zs,s2,hra2,yl,py,ysum⟩:=z
     have s02:=aa s1 s2
     have hx2:∃(pp sx:Addr) (rx:V) (nx:Int) (rdx:Option (List Int)),x=.ref pp/\H pp=some (.tup [.ref sx,rx,.int nx])/\mK H rx rdx/\([(rd.getD []).length,(rd'.getD []).length]:List Nat)[i]? = some (rdx.getD []).length/\i < 2:=by
       match i,hx with
       | 0,hx=>cases hx; exact ⟨p,sa,ro,n,rd,rfl,hp,hro,rfl,by decide⟩
       | 1,hx=>cases hx; exact ⟨p',sa',ro',n',rd',rfl,hp',hro',rfl,by decide⟩
     obtain ⟨pp,sx,rx,nx,rdx,rfl,hpp,hrx,hlen,i2⟩:=hx2
     refine aw ?_
     refine ⟨_,rfl,pp,_,_,_,rfl,rfl,aq.of (s02 _ _ hpp),rfl,rfl,_,rfl,?_⟩
     cases rdx with
     | none=>
       have e:rx=.aU:=hrx
       subst e
       refine az (fun c=>absurd c (by decide)) (fun _=>?_)
       refine aM (Pv:=fun i H2=>∃(ys:List V) (zs:List (List Int)),ah H1 H2/\H2 ra=some (.lst ys)/\ys.length<=i/\Paired (BN H) ys zs/\(zs.map E8).sum=(([(rd.getD []).length,(rd'.getD []).length]:List Nat).take i).sum) (by repeat' constructor) i2 ⟨ys,zs,s2,hra2,by omega,py,?_⟩
       rw [D1,hlen,ysum,FI]
       rfl
     | some xs=>
       obtain ⟨l,rfl,hl⟩:=hrx
       refine az (fun _=>?_) (fun c=>absurd (by rw [decide_eq_false (fun z=>nomatch z)]; rfl) c)
       refine ⟨_,rfl,pp,_,_,_,rfl,rfl,aq.of (s02 _ _ hpp),rfl,_,hra2,aR (by omega),aM (Pv:=fun i H2=>∃(ys:List V) (zs:List (List Int)),ah H1 H2/\H2 ra=some (.lst ys)/\ys.length<=i/\Paired (BN H) ys zs/\(zs.map E8).sum=(([(rd.getD []).length,(rd'.getD []).length]:List Nat).take i).sum) (by repeat' constructor) i2 ⟨ys++[.ref l],zs++[xs],bc s2 hra,ae,by rw [DE]; show ys.length + 1<=i + 1; omega,Paired.snoc py ⟨l,rfl,hl⟩,?_⟩⟩
       rw [DS,FI,ysum,D1,hlen,FI]
       rfl
   obtain ⟨ys,zs,s2,hra2,yl,py,ysum⟩:=z
   have yl2:ys.length<=2:=yl
   have ysum:(zs.map E8).sum=(rd.getD []).length + ((rd'.getD []).length + 0):=ysum
   have s02:=aa s1 s2
   have zl:ys.length=zs.length:=Paired.length py
   refine ⟨_,rfl,p,_,_,_,rfl,rfl,aq.of (s02 _ _ hp),rfl,sa,_,rfl,.inl (ao.of (s02 _ _ hsa)),_,rfl,p',_,_,_,rfl,rfl,aq.of (s02 _ _ hp'),rfl,sa',_,rfl,.inl (ao.of (s02 _ _ hsa')),_,_,rfl,?_⟩
   refine ⟨_,rfl,ra,rfl,⟨_,ao.of hra2⟩,fun lb hlb=>?_⟩
   have nrl:ra≠lb:=ai hra2 hlb
   refine bu (xs:=ys) (fun i H4=>H4=upd H2 lb (.lst (((zs.take i).map fun z=>((z.length:Nat):Int)).map V.int))) rfl (fun i H4 _ z=>?_) (fun i x H4 hx z=>?_) (fun H4 z=>?_)
   · subst z
     exact ao.of (by rw [aj nrl]; exact hra2)
   · subst z
     obtain ⟨zz,hz,l,rfl,hl⟩:=Paired.get py hx
     have hil:i < ys.length:=(List.getElem?_eq_some_iff.mp hx).1
     refine aw ?_
     refine dk (A:=fun H3=>dR _ lb _ H3 _) ?_
     refine ⟨_,rfl,l,_,rfl,.inl (ao.of (af hlb _ _ _ (s02 _ _ hl))),_,ae,aR (by rw [DC,DC,DM]; omega),aM (Pv:=fun i H4=>H4=upd H2 lb (.lst (((zs.take i).map fun z=>((z.length:Nat):Int)).map V.int))) (by repeat' constructor) hil ?_⟩
     rw [bE,D1,hz,DS,DS,DC]
     rfl
   · subst z
     rw [zl,Ec]
     refine ⟨lb,_,rfl,ao.of ae,_,_,rfl,rfl,?_⟩
     have es:∀l:List (List Int),(l.map fun z=>((z.length:Nat):Int)).sum=(((l.map E8).sum:Nat):Int):=fun l=>by
       induction l with
       | nil=>rfl
       | cons a r ih=>rw [D7,D7,List.sum_cons,List.sum_cons,ih]; omega
     have ev:(if (((sd'.map V.int).length:Int)) > ((sd.map V.int).length:Int) then ((sd'.map V.int).length:Int) else ((sd.map V.int).length:Int)) + (zs.map fun z=>((z.length:Nat):Int)).sum=((fO sd rd sd' rd':Nat):Int):=by
       rw [es,ysum,DC,DC]
       unfold fO
       split <;> omega
     have fin:=q _ (aa s02 (af hlb (.lst ((zs.map fun z=>((z.length:Nat):Int)).map V.int))))
     rw [← ev] at fin
     exact fin
theorem nC (s:Src K mg "numbers_that_settle" sSettle)(m_len:mg "len"=none)(m_max:mg "max"=none)(m_sum:mg "sum"=none):aF P w K mg base "numbers_that_settle" ["run","another"] 1 d5:=
 let ⟨f,fd,F,m⟩:=s
 ⟨f,fd,qU F m_len m_max m_sum,F.kp,cu F fun _ _ _ _ _ _ _ _=>rfl,m⟩
end
end TW
set_option Elab.async false
set_option linter.all false
set_option maxRecDepth 100000
set_option exponentiation.threshold 4000
set_option maxHeartbeats 1000000
namespace TW
open PySem L2
section
variable {P:Program}{w:World}{K:DA}{mg:Str->Option Value}{base:Heap}
/-! ### said_alike -/
def fX:Sp:=fun vs H Q _=>∃(v v':V) (sd:List Int) (rd:Option (List Int)) (sd':List Int) (rd':Option (List Int)),vs=[v,v']/\eG H v sd rd/\eG H v' sd' rd'/\∀(u:V) (H':Hp),ah H H'->((bL sd rd sd' rd'/\u=.aU)\/(¬ bL sd rd sd' rd'/\∃n:Nat,u=.int (n:Nat)/\bR sd rd sd' rd' n))->Q u H'
theorem pH {H:Hp}{rd:Option (List Int)}{ro:V}(h:mK H ro rd):decide (ro=.aU)=rd.isNone:=by
 cases rd with
 | none=>have e:ro=.aU:=h; subst e; rfl
 | some xs=>obtain ⟨l,rfl,_⟩:=h; rfl
theorem dj:au ["run","another","many","first","second","at","number","heard"] ["run","another"] (ag sSAlike):=⟨rfl,rfl,rfl,by decide +kernel,rfl,by decide +kernel,by decide +kernel⟩
theorem fF:(ag sSAlike).names.lookup (DD "enumerate")=some .globalImplicit:=by decide +kernel
theorem cG:(ag sSAlike).names.lookup (DD "first_said")=some .globalImplicit:=by decide +kernel
theorem cQ:(ag sSAlike).names.lookup (DD "len")=some .globalImplicit:=by decide +kernel
theorem lU:(ag sSAlike).names.lookup (DD "min")=some .globalImplicit:=by decide +kernel
theorem cC:(ag sSAlike).names.lookup (DD "numbers_that_settle")=some .globalImplicit:=by decide +kernel
theorem lV:(ag sSAlike).names.lookup (DD "zip")=some .globalImplicit:=by decide +kernel
theorem qT {f:Addr}{fd:FuncData}(F:cB K "said_alike" "said_alike" sSAlike f fd)(m_len:mg "len"=none)(m_min:mg "min"=none)(m_enumerate:mg "enumerate"=none)(m_zip:mg "zip"=none)(ST:aF P w K mg base "numbers_that_settle" ["run","another"] 1 d5)(FS:aF P w K mg base "first_said" ["run","many"] 1 fV):aL P w K mg base CX0 2 f fd ["run","another"] fX:=by
 refine F.ok dj (fun vs H Q E h=>?_) (fun cdv A outer s H vs Q E hr h=>?_)
 · obtain ⟨v,v',sd,rd,sd',rd',rfl,_⟩:=h
   rfl
 · obtain ⟨v,v',sd,rd,sd',rd',rfl,r1,r2,q⟩:=h
   refine fI ⟨_,(G3 (G9 2 dj.nd (Hj ST hr cC (GZ (GY 0) (GZ (GY 1) G0))))
     (G3 (L3.y7 3 4 dj.nd (GZ (Hj FS hr cG (GZ (GY 0) (GZ (GY 2) G0))) (GZ (Hj FS hr cG (GZ (GY 1) (GZ (GY 2) G0))) G0)))
     (G3 (HW (L3.Dn fF m_enumerate lV m_zip (GZ (GY 3) (GZ (GY 4) G0))) (HG 2 (Hl (Hh 5 dj.nd) (Hl (HG 2 (Hl (Hh 6 dj.nd) (Hl (Hh 7 dj.nd) HH))) HH))) (G6 (Hn (Hk Ir (GY 6) (GY 7)) (G6 (Hi (GY 5))) Ho)))
     (G3 (Hn (HM (Ik (Hk Ir (Hv Hz cQ m_len DQ (GZ (GY 3) G0)) (Hv Hz cQ m_len DQ (GZ (GY 4) G0))) (Il (Hk Ir (HK Iy (G2 G5 (GY 0) G1) HS) (HK Iy (G2 G5 (GY 1) G1) HS))))) (G6 (Hi (Hv L3.xi lU m_min (by decide +kernel) (GZ (Hv Hz cQ m_len DQ (GZ (GY 3) G0)) (GZ (Hv Hz cQ m_len DQ (GZ (GY 4) G0)) G0))))) Ho)
     (G6 (Hi HS)))))),?_⟩
   have few1:=r1.few
   have few2:=r2.few
   refine ⟨_,rfl,_,rfl,v,v',sd,rd,sd',rd',rfl,r1,r2,fun H1 s1=>?_⟩
   have hm:fO sd rd sd' rd'<=1000000:=by unfold fO; omega
   obtain ⟨m,hmd⟩ : ∃m,m=fO sd rd sd' rd':=⟨_,rfl⟩
   rw [← hmd] at hm ⊢
   refine ⟨_,rfl,_,rfl,v,m,sd,rd,rfl,r1.same s1,hm,fun l1 fs H2 s2 _ e1 w1=>?_⟩
   have s02:=aa s1 s2
   refine ⟨_,rfl,_,rfl,v',m,sd',rd',rfl,r2.same s02,hm,fun l2 fs' H3 s3 _ e2 w2=>⟨_,_,rfl,?_⟩⟩
   have s03:=aa s02 s3
   have e1:=s3 _ _ e1
   have fl1:=w1.len
   have fl2:=w2.len
   obtain ⟨p,sa,ro,n,rfl,hp,hsa,hro⟩:=id (r1.same s03).at_
   obtain ⟨p',sa',ro',n',rfl,hp',hsa',hro'⟩:=id (r2.same s03).at_
   have big:∀{n:Nat},n<=m->n < 2 ^ 63:=fun h=>by omega
   refine ⟨_,rfl,_,rfl,l1,l2,rfl,⟨_,ao.of e1⟩,⟨_,ao.of e2⟩,?_⟩
   refine ym (xs:=fs.map V.int) (ys:=fs'.map V.int) (fun i σ H4=>(∃av nv hv,σ=[some (.ref p),some (.ref p'),some (.int (m:Nat)),some (.ref l1),some (.ref l2),av,nv,hv])/\ah H3 H4/\∀j,j < i->fs[j]? = fs'[j]?) ⟨⟨_,_,_,rfl⟩,same_refl _,fun j hj=>absurd hj (Nat.not_lt_zero _)⟩ (fun i σ H4 z=>⟨ao.of (z.2.1 _ _ e1),ao.of (z.2.1 _ _ e2)⟩) (fun i x y pp qq σ H4 hx hy z hpp hqq=>?_) (fun σ H4 z=>?_)
   · obtain ⟨⟨av,nv,hv,rfl⟩,s4,al⟩:=z
     obtain ⟨a,ha,rfl⟩:=cR hx
     obtain ⟨b,hb,rfl⟩:=cR hy
     have sp:ah H4 (upd H4 pp (.tup [.int a,.int b])):=af hpp _
     have gp:(upd H4 pp (.tup [.int a,.int b])) pp=some (.tup [.int a,.int b]):=ae
     generalize upd H4 pp (.tup [.int a,.int b])=H5 at sp gp hqq ⊢
     have sq:ah H5 (upd H5 qq (.tup [.int (i:Nat),.ref pp])):=af hqq _
     have gq:(upd H5 qq (.tup [.int (i:Nat),.ref pp])) qq=some (.tup [.int (i:Nat),.ref pp]):=ae
     generalize upd H5 qq (.tup [.int (i:Nat),.ref pp])=H6 at sq gq ⊢
     have s46:=aa s4 (aa sp sq)
     refine ⟨qq,_,rfl,aq.of gq,rfl,_,_,rfl,_,_,rfl,⟨pp,_,rfl,aq.of (sq _ _ gp),rfl,_,_,rfl,_,_,rfl,rfl,rfl,?_⟩⟩
     refine ⟨_,rfl,_,rfl,rfl,_,rfl,?_⟩
     have hi1:i < fs.length:=(List.getElem?_eq_some_iff.mp ha).1
     refine az (fun c=>?_) (fun c=>?_)
     · have hab:a≠b:=fun z=>by rw [z,decide_eq_true rfl] at c; exact absurd c (by decide)
       have hni:aE sd rd i≠aE sd' rd' i:=by
         rw [w1.at (by omega),w2.at (by omega),ha,hb]
         exact fun z=>hab (D2 z)
       refine ⟨_,rfl,q _ _ (aa s03 s46) (.inr ⟨fun al=>hni (al.1 i),i,rfl,fun j hj=>?_,fun z=>hni z.1⟩)⟩
       rw [w1.at (by omega),w2.at (by omega)]
       refine ⟨al j hj,?_⟩
       rw [DH (by omega)]
       rfl
     · have hab:a=b:=by
         by_cases z:a=b
         · exact z
         · exact absurd (by rw [decide_eq_false (fun y=>z (by injection y))]; rfl) c
       refine ⟨⟨_,_,_,rfl⟩,s46,fun j hj=>?_⟩
       by_cases e:j=i
       · subst e
         rw [ha,hb,hab]
       · exact al j (by omega)
   obtain ⟨⟨av,nv,hv,rfl⟩,s4,al⟩:=z
   rw [DC,DC] at al
   have e1:=s4 _ _ e1
   have e2:=s4 _ _ e2
   have s04:=aa s03 s4
   have pre:∀i,i < min fs.length fs'.length->aE sd rd i=aE sd' rd' i/\(aE sd rd i).isSome=true:=fun i hi=>by
     rw [w1.at (by omega),w2.at (by omega)]
     refine ⟨al i hi,?_⟩
     rw [DH (by omega)]
     rfl
   have mn:(if ((fs'.length:Nat):Int) < ((fs.length:Nat):Int) then ((fs'.length:Nat):Int) else ((fs.length:Nat):Int))=((min fs.length fs'.length:Nat):Int):=by split <;> omega
   have minret:(∀z:aE sd rd (min fs.length fs'.length)=aE sd' rd' (min fs.length fs'.length),¬ (aE sd rd (min fs.length fs'.length)).isSome=true)->¬ bL sd rd sd' rd'->Q (.int (if ((fs'.length:Nat):Int) < ((fs.length:Nat):Int) then ((fs'.length:Nat):Int) else ((fs.length:Nat):Int))) H4:=fun h1 h2=>by
     rw [mn]
     exact q _ _ s04 (.inr ⟨h2,_,rfl,pre,fun z=>h1 z.1 z.2⟩)
   refine ⟨_,rfl,l1,_,rfl,.inl (ao.of e1),_,rfl,l2,_,rfl,.inl (ao.of e2),rfl,_,rfl,?_⟩
   rw [DC,DC]
   refine az (fun c=>cN ?_) (fun c=>?_)
   · have hne:fs.length≠fs'.length:=fun z=>by rw [z,decide_eq_true rfl] at c; exact absurd c (by decide)
     refine ⟨_,rfl,l1,_,rfl,.inl (ao.of e1),_,rfl,l2,_,rfl,.inl (ao.of e2),_,_,rfl,?_⟩
     rw [DC,DC]
     by_cases hlt:fs.length < fs'.length
     · have em:min fs.length fs'.length=fs.length:=by omega
       have n1:=j8 w1 (by omega)
       have n2:∃x,aE sd' rd' fs.length=some x:=⟨fs'[fs.length],by rw [w2.at (by omega),DH hlt]⟩
       obtain ⟨x,n2⟩:=n2
       refine minret (fun z=>by rw [em,n1]; decide) (fun al=>?_)
       have:=al.1 fs.length
       rw [n1,n2] at this
       cases this
     · have hlt:fs'.length < fs.length:=by omega
       have em:min fs.length fs'.length=fs'.length:=by omega
       have n2:=j8 w2 (by omega)
       have n1:∃x,aE sd rd fs'.length=some x:=⟨fs[fs'.length],by rw [w1.at (by omega),DH hlt]⟩
       obtain ⟨x,n1⟩:=n1
       refine minret (fun z=>by rw [em,n1,n2] at z; cases z) (fun al=>?_)
       have:=al.1 fs'.length
       rw [n1,n2] at this
       cases this
   have hle:fs.length=fs'.length:=by
     by_cases z:fs.length=fs'.length
     · exact z
     · exact absurd (by rw [decide_eq_false (fun y=>z (by injection y with y; omega))]; rfl) c
   refine ⟨_,rfl,p,_,_,_,rfl,rfl,aq.of (s4 _ _ hp),rfl,rfl,_,rfl,p',_,_,_,rfl,rfl,aq.of (s4 _ _ hp'),rfl,rfl,rfl,_,rfl,?_⟩
   have d1:=pH hro
   have d2:=pH hro'
   rw [d1,d2]
   refine az (fun c=>?_) (fun c=>?_)
   · have hne:rd.isNone≠rd'.isNone:=fun z=>by rw [z,decide_eq_true rfl] at c; exact absurd c (by decide)
     refine ⟨_,rfl,l1,_,rfl,.inl (ao.of e1),_,rfl,l2,_,rfl,.inl (ao.of e2),_,_,rfl,?_⟩
     rw [DC,DC]
     have nof:∀{sd:List Int} {rd:Option (List Int)} {fs:List Int},cU sd rd m fs->rd=none->sd.length<=m->aE sd rd fs.length=none:=fun {sd rd fs} w h1 h2=>by
       subst h1
       have h3:sd.length<=fs.length:=by
         by_cases z:sd.length<=fs.length
         · exact z
         · have:=w.at (i:=fs.length) (by omega)
           unfold aE at this
           rw [if_pos (by omega),DH (by omega),EK (DJ _)] at this
           cases this
       exact bp rfl h3
     refine minret (fun z y=>?_) (fun al=>hne al.2)
     unfold fO at hmd
     cases rd with
     | none=>
       rw [show min fs.length fs'.length=fs.length by omega,nof w1 rfl (by omega)] at y
       cases y
     | some xs=>
       cases rd' with
       | none=>
         rw [z,show min fs.length fs'.length=fs'.length by omega,nof w2 rfl (by omega)] at y
         cases y
       | some ys=>exact hne rfl
   · have heq:rd.isNone=rd'.isNone:=by
       by_cases z:rd.isNone=rd'.isNone
       · exact z
       · exact absurd (by rw [decide_eq_false (fun y=>z (by injection y))]; rfl) c
     refine q _ _ s04 (.inl ⟨⟨wZ (m:=m) (by omega) fun i hi=>?_,heq⟩,rfl⟩)
     by_cases h:i < fs.length
     · exact (pre i (by omega)).1
     · rw [w1.at hi,w2.at hi,EK (by omega),EK (by omega)]
theorem nA (s:Src K mg "said_alike" sSAlike)(m_len:mg "len"=none)(m_min:mg "min"=none)(m_enumerate:mg "enumerate"=none)(m_zip:mg "zip"=none)(ST:aF P w K mg base "numbers_that_settle" ["run","another"] 1 d5)(FS:aF P w K mg base "first_said" ["run","many"] 1 fV):aF P w K mg base "said_alike" ["run","another"] 2 fX:=
 let ⟨f,fd,F,m⟩:=s
 ⟨f,fd,qT F m_len m_min m_enumerate m_zip ST FS,F.kp,cu F fun _ _ _ _ _ _ _ _=>rfl,m⟩
/-! ### refuse_no_pair -/
structure Df (H:Hp)(v1 v2:V)(b1 b2:List (Str×Int))(ins:List Str)(n1 n2:List Nd):Prop where
 p1:aI H v1 b1 ins n1
 p2:aI H v2 b2 ins n2
 f1:Fits b1 ins
 f2:Fits b2 ins
 sz:ins.map (bo b1)=ins.map (bo b2)
def fW:Sp:=fun vs H Q _=>∃(v1 v2:V) (b1 b2:List (Str×Int)) (ins:List Str) (n1 n2:List Nd),vs=[v1,v2]/\Df H v1 v2 b1 b2 ins n1 n2/\∀H',ah H H'->Q .aU H'
theorem uI:au ["one","other"] ["one","other"] (ag sNoPair):=⟨rfl,rfl,rfl,by decide +kernel,rfl,by decide +kernel,by decide +kernel⟩
theorem cz:(ag sNoPair).names.lookup (DD "input_sizes")=some .globalImplicit:=by decide +kernel
theorem qS {f:Addr}{fd:FuncData}(F:cB K "refuse_no_pair" "refuse_no_pair" sNoPair f fd)(IS:aF P w K mg base "input_sizes" ["program"] 1 fm):aL P w K mg base CX0 2 f fd ["one","other"] fW:=by
 refine F.ok uI (fun vs H Q E h=>?_) (fun cdv A outer s H vs Q E hr h=>?_)
 · obtain ⟨v1,v2,b1,b2,ins,n1,n2,rfl,_⟩:=h
   rfl
 · obtain ⟨v1,v2,b1,b2,ins,n1,n2,rfl,T,q⟩:=h
   refine fI ⟨_,(G6 (Hn (HM (Ik (Hk (Ip (m:=0) (bB hr _ (by decide))) (G2 G5 (GY 0) G1) (G2 G5 (GY 1) G1)) (Il (Hk (Ip (m:=0) (bB hr _ (by decide))) (Hj IS hr cz (GZ (GY 0) G0)) (Hj IS hr cz (GZ (GY 1) G0)))))) IE Ho)),?_⟩
   obtain ⟨p,B,I,N,vb,vn,rfl,hp,hB,hI,hN,pb,pn⟩:=T.p1
   obtain ⟨p',B',I',N',vb',vn',rfl,hp',hB',hI',hN',pb',pn'⟩:=T.p2
   have eqs:∀{H:Hp} {n:Nat} {xs:List V},(∀x∈xs,bw x=true)->∀(j:Nat) (x y:V),xs[j]? = some x->xs[j]? = some y->ET K H n x y:=fun hf j x y hx hy=>by
     rw [hx] at hy
     cases hy
     exact ET.refl (.inl (hf x (DR hx)))
   have fs:∀x∈ins.map V.str,bw x=true:=fun x hx=>by obtain ⟨z,_,rfl⟩:=List.mem_map.mp hx; rfl
   have fi:∀(l:List Int),∀x∈l.map V.int,bw x=true:=fun l x hx=>by obtain ⟨z,_,rfl⟩:=List.mem_map.mp hx; rfl
   refine ⟨_,rfl,p,_,_,_,rfl,rfl,aq.of hp,rfl,_,rfl,p',_,_,_,rfl,rfl,aq.of hp',rfl,true,RB.lst (ao.of hI) (ao.of hI') rfl (eqs fs),_,rfl,?_⟩
   refine az (fun c=>absurd c (by decide)) (fun _=>?_)
   refine ⟨_,rfl,_,b1,ins,n1,rfl,T.p1,T.f1,fun l1 H1 hl1 s1 g1=>?_⟩
   refine ⟨_,rfl,_,b2,ins,n2,rfl,T.p2.same s1,T.f2,fun l2 H2 hl2 s2 g2=>?_⟩
   rw [← T.sz] at g2
   refine ⟨true,RB.lst (ao.of (s2 _ _ g1)) (ao.of g2) rfl (eqs (fi _)),_,rfl,?_⟩
   refine az (fun c=>absurd c (by decide)) (fun _=>?_)
   exact q _ (aa s1 s2)
theorem ny (s:Src K mg "refuse_no_pair" sNoPair)(IS:aF P w K mg base "input_sizes" ["program"] 1 fm):aF P w K mg base "refuse_no_pair" ["one","other"] 2 fW:=
 let ⟨f,fd,F,m⟩:=s
 ⟨f,fd,qS F IS,F.kp,cu F fun _ _ _ _ _ _ _ _=>rfl,m⟩
/-! ### alike_for -/
structure iy (H:Hp)(v1 v2:V)(ia:Addr)(b1 b2:List (Str×Int))(ins:List Str)(n1 n2:List Nd)(iw:List Int):Prop where
 g1:jG H v1 b1 ins n1
 g2:jG H v2 b2 ins n2
 sz:ins.map (bo b1)=ins.map (bo b2)
 hi:H ia=some (.lst (iw.map V.int))
 pw:Paired Within (ins.map (bo b1)) iw
 few1:n1.length * cX b1<=100000
 few2:n2.length * cX b2<=100000
theorem iy.same {H H':Hp}{v1 v2:V}{ia:Addr}{b1 b2:List (Str×Int)}{ins:List Str}{n1 n2:List Nd}{iw:List Int}(h:iy H v1 v2 ia b1 b2 ins n1 n2 iw)(s:ah H H'):iy H' v1 v2 ia b1 b2 ins n1 n2 iw:=⟨h.g1.same s,h.g2.same s,h.sz,s _ _ h.hi,h.pw,h.few1,h.few2⟩
def n8:Sp:=fun vs H Q _=>∃(v1 v2:V) (ia:Addr) (b1 b2:List (Str×Int)) (ins:List Str) (n1 n2:List Nd) (iw:List Int),vs=[v1,v2,.ref ia]/\iy H v1 v2 ia b1 b2 ins n1 n2 iw /\
 ∀(sd:List Int) (rd:Option (List Int)) (n:Nat) (sd':List Int) (rd':Option (List Int)) (n':Nat) (u:V) (H':Hp),ah H H'->aO (aG b1 n1) (0,aN b1 ins iw) (sd,rd,n)->aO (aG b2 n2) (0,aN b2 ins iw) (sd',rd',n')->((bL sd rd sd' rd'/\u=.aU)\/(¬ bL sd rd sd' rd'/\∃n:Nat,u=.int (n:Nat)/\bR sd rd sd' rd' n))->Q u H'
theorem xY.ro {H H':Hp}{sa:Addr}:∀{rd:Option (List Int)} {ro:V},xY H H' sa ro rd->mK H' ro rd
 | none,_,h=>h
 | some _,_,⟨l,e,_,_,h⟩=>⟨l,e,h⟩
theorem zE:au ["one","other","inputs"] ["one","other","inputs"] (ag sAFor):=⟨rfl,rfl,rfl,by decide +kernel,rfl,by decide +kernel,by decide +kernel⟩
theorem dN:(ag sAFor).names.lookup (DD "refuse_no_pair")=some .globalImplicit:=by decide +kernel
theorem fB:(ag sAFor).names.lookup (DD "run_of")=some .globalImplicit:=by decide +kernel
theorem gu:(ag sAFor).names.lookup (DD "said_alike")=some .globalImplicit:=by decide +kernel
theorem v3 {f:Addr}{fd:FuncData}(F:cB K "alike_for" "alike_for" sAFor f fd)(NP0:aF P w K mg base "refuse_no_pair" ["one","other"] 2 fW)(SA0:aF P w K mg base "said_alike" ["run","another"] 2 fX)(RO:aF P w K mg base "run_of" ["program","inputs"] 31 pN):aL P w K mg base CX0 32 f fd ["one","other","inputs"] n8:=by
 refine F.ok zE (fun vs H Q E h=>?_) (fun cdv A outer s H vs Q E hr h=>?_)
 · obtain ⟨v1,v2,ia,b1,b2,ins,n1,n2,iw,rfl,_⟩:=h
   rfl
 · obtain ⟨v1,v2,ia,b1,b2,ins,n1,n2,iw,rfl,pre,q⟩:=h
   have NP:=NP0.mono (show 2<=31 by decide)
   have SA:=SA0.mono (show 2<=31 by decide)
   refine fI ⟨_,(G3 (Ij (Hj NP hr dN (GZ (GY 0) (GZ (GY 1) G0))))
     (G6 (Hi (Hj SA hr gu (GZ (Hj RO hr fB (GZ (GY 0) (GZ (GY 2) G0))) (GZ (Hj RO hr fB (GZ (GY 1) (GZ (GY 2) G0))) G0)))))),?_⟩
   refine ⟨_,rfl,_,rfl,v1,v2,b1,b2,ins,n1,n2,rfl,⟨pre.g1.pa,pre.g2.pa,pre.g1.ft,pre.g2.ft,pre.sz⟩,fun H1 s1=>?_⟩
   have pre1:=pre.same s1
   refine ⟨_,rfl,_,rfl,v1,ia,b1,ins,n1,iw,rfl,pre1.g1,pre1.hi,pre.pw,pre.few1,fun r sa ro n sd rd H2 s2 _ hr1 _ hsa hrd few rt=>?_⟩
   have pre2:=pre1.same s2
   refine ⟨_,rfl,_,rfl,v2,ia,b2,ins,n2,iw,rfl,pre2.g2,pre2.hi,(by rw [← pre.sz]; exact pre.pw),pre.few2,fun r' sa' ro' n' sd' rd' H3 s3 _ hr2 _ hsa' hrd' few' rt'=>?_⟩
   have ra1:eG H3 (.ref r) sd rd:=⟨⟨r,sa,ro,_,rfl,s3 _ _ hr1,s3 _ _ hsa,hrd.ro.same s3⟩,few⟩
   have ra2:eG H3 (.ref r') sd' rd':=⟨⟨r',sa',ro',_,rfl,hr2,hsa',hrd'.ro⟩,few'⟩
   refine ⟨.ref r,.ref r',sd,rd,sd',rd',rfl,ra1,ra2,fun u H4 s4 hu=>?_⟩
   exact q sd rd n sd' rd' n' _ H4 (aa s1 (aa s2 (aa s3 s4))) rt rt' hu
theorem sI (s:Src K mg "alike_for" sAFor)(NP0:aF P w K mg base "refuse_no_pair" ["one","other"] 2 fW)(SA0:aF P w K mg base "said_alike" ["run","another"] 2 fX)(RO:aF P w K mg base "run_of" ["program","inputs"] 31 pN):aF P w K mg base "alike_for" ["one","other","inputs"] 32 n8:=
 let ⟨f,fd,F,m⟩:=s
 ⟨f,fd,v3 F NP0 SA0 RO,F.kp,pU F fun _ _ _ _ _ _ _ _ _=>rfl,m⟩
end
end TW
set_option Elab.async false
set_option linter.all false
set_option maxRecDepth 100000
set_option exponentiation.threshold 4000
set_option maxHeartbeats 1000000
namespace TW
open PySem L2
section
variable {P:Program}{w:World}{K:DA}{mg:Str->Option Value}{base:Heap}
abbrev sWo:Stmt:=top 37
abbrev sHo:Stmt:=top 38
theorem Tp.sq {K:DA}{H:Hp}{v:V}{xs:List V}(h:Tp H v xs):∃p,v=.ref p/\aq K H p xs:=let ⟨p,e,h⟩:=h; ⟨p,e,aq.of h⟩
theorem Tp.at {K:DA}{H H':Hp}{p:Addr}{xs:List V}(h:Tp H (.ref p) xs)(s:ah H H'):aq K H' p xs:=by
 obtain ⟨q,e,z⟩:=h
 cases e
 exact aq.of (s _ _ z)
/-! ### _law_worth,_law_holds -/
def jx (n:Nat):Sp:=fun vs H Q _=>∃(v:V) (d:Addr) (e:E) (P:Str->Str->Prop) (W:Str->Str->Int),vs=[v,.ref d]/\gj H v e/\e.isS/\e.okIn P/\rF H d P W/\rJ P/\e.dep < n/\Q (.int (e.worth W)) H
theorem vW {f:Addr}{fd:FuncData}:aL P w K mg base CX0 1 f fd ["told","known"] (jx 0):=by
 have no:∀vs H Q E,¬ jx 0 vs H Q E:=fun vs H Q E h=>by
   obtain ⟨v,d,e,P,W,_,_,_,_,_,_,h,_⟩:=h
   omega
 exact ⟨fun vs H Q E h=>absurd h (no vs H Q E),fun A outer s H args us vs Q E _ _ _ _ h=>absurd h (no vs H Q E)⟩
theorem Co:au ["told","known"] ["told","known"] (ag sWo):=⟨rfl,rfl,rfl,by decide +kernel,rfl,by decide +kernel,by decide +kernel⟩
theorem b9:(ag sWo).names.lookup (DD "_law_worth")=some .globalImplicit:=by decide +kernel
theorem AN {n:Nat}{f:Addr}{fd:FuncData}(F:cB K "_law_worth" "_law_worth" sWo f fd)(G:aF P w K mg base "_law_worth" ["told","known"] (n + 1) (jx n)):aL P w K mg base CX0 (n + 1 + 1) f fd ["told","known"] (jx (n + 1)):=by
 refine F.ok Co (fun vs H Q E h=>?_) (fun cdv A outer s H vs Q E hr h=>?_)
 · obtain ⟨v,d,e,P,W,rfl,_⟩:=h
   rfl
 · obtain ⟨v,d,e,P,W,rfl,ev,is,ok,kn,tg,dp,q⟩:=h
   refine fI ⟨_,(G3 (Hn (Hk Hw (G2 G5 (GY 0) G1) G7) (G6 (Hi (G2 G5 (GY 0) G1))) Ho)
     (G3 (Hn (Hk Hw (G2 G5 (GY 0) G1) G7) (G6 (Hi (G4 HF (Hj G hr b9 (GZ (G2 G5 (GY 0) G1) (GZ (GY 1) G0))) (Hj G hr b9 (GZ (G2 G5 (GY 0) G1) (GZ (GY 1) G0)))))) Ho)
     (G3 (Hn (Hk Hw (G2 G5 (GY 0) G1) G7) (G6 (Hi (G4 Ii (Hj G hr b9 (GZ (G2 G5 (GY 0) G1) (GZ (GY 1) G0))) (Hj G hr b9 (GZ (G2 G5 (GY 0) G1) (GZ (GY 1) G0)))))) Ho)
     (G6 (Hi (L3.vA (bB hr _ (by decide)) (GY 1) (GY 0))))))),?_⟩
   refine a8 fun Rk kR=>?_
   match e,ev,is,ok,dp,q with
   | .num n,ev,is,ok,dp,q=>
     obtain ⟨p,rfl,hp⟩:=Tp.sq ev
     refine ⟨_,rfl,p,_,_,_,rfl,rfl,hp,rfl,rfl,_,rfl,cN ?_⟩
     exact ⟨_,rfl,p,_,_,_,rfl,rfl,hp,rfl,q⟩
   | .box t x,ev,is,ok,dp,q=>
     obtain ⟨p,rfl,hx⟩:=ev
     have hp:=aq.of (K:=K) hx
     obtain ⟨kvs,hd,hk⟩:=kn
     have ht:=tg t x ok
     have hv:=hk t x ok
     have n1:decide (V.str t=.str "number")=false:=decide_eq_false fun z=>by injection z with z; rcases ht with r | r | r <;> (rw [r] at z; exact absurd z (by decide))
     have n2:decide (V.str t=.str "plus")=false:=decide_eq_false fun z=>by injection z with z; rcases ht with r | r | r <;> (rw [r] at z; exact absurd z (by decide))
     have n3:decide (V.str t=.str "less")=false:=decide_eq_false fun z=>by injection z with z; rcases ht with r | r | r <;> (rw [r] at z; exact absurd z (by decide))
     refine ⟨_,rfl,p,_,_,_,rfl,rfl,hp,rfl,rfl,_,rfl,iteF' n1 (kR _ _ ?_)⟩
     clear kR
     refine a8 fun Rk kR=>?_
     refine ⟨_,rfl,p,_,_,_,rfl,rfl,hp,rfl,rfl,_,rfl,iteF' n2 (kR _ _ ?_)⟩
     clear kR
     refine a8 fun Rk kR=>?_
     refine ⟨_,rfl,p,_,_,_,rfl,rfl,hp,rfl,rfl,_,rfl,iteF' n3 (kR _ _ ?_)⟩
     refine ⟨_,rfl,_,rfl,d,_,rfl,?_,q⟩
     have:=eP.t (k:=[.inr t,.inr x]) hd hx
     rw [hv] at this
     exact this
   | .two .plus a b,ev,is,ok,dp,q=>
     obtain ⟨x,y,h,ea,eb⟩:=ev
     obtain ⟨p,rfl,hp⟩:=h.sq
     have dp:max a.dep b.dep + 1 < n + 1:=dp
     refine ⟨_,rfl,p,_,_,_,rfl,rfl,hp,rfl,rfl,_,rfl,iteF' (by decide) (kR _ _ ?_)⟩
     clear kR
     refine a8 fun Rk kR=>?_
     refine ⟨_,rfl,p,_,_,_,rfl,rfl,hp,rfl,rfl,_,rfl,cN ?_⟩
     exact ⟨_,rfl,p,_,_,_,rfl,rfl,hp,rfl,_,rfl,x,d,a,P,W,rfl,ea,is.1,ok.1,kn,tg,by omega,_,rfl,p,_,_,_,rfl,rfl,hp,rfl,_,rfl,y,d,b,P,W,rfl,eb,is.2,ok.2,kn,tg,by omega,_,_,rfl,rfl,q⟩
   | .two .less a b,ev,is,ok,dp,q=>
     obtain ⟨x,y,h,ea,eb⟩:=ev
     obtain ⟨p,rfl,hp⟩:=h.sq
     have dp:max a.dep b.dep + 1 < n + 1:=dp
     refine ⟨_,rfl,p,_,_,_,rfl,rfl,hp,rfl,rfl,_,rfl,iteF' (by decide) (kR _ _ ?_)⟩
     clear kR
     refine a8 fun Rk kR=>?_
     refine ⟨_,rfl,p,_,_,_,rfl,rfl,hp,rfl,rfl,_,rfl,iteF' (by decide) (kR _ _ ?_)⟩
     clear kR
     refine a8 fun Rk kR=>?_
     refine ⟨_,rfl,p,_,_,_,rfl,rfl,hp,rfl,rfl,_,rfl,cN ?_⟩
     exact ⟨_,rfl,p,_,_,_,rfl,rfl,hp,rfl,_,rfl,x,d,a,P,W,rfl,ea,is.1,ok.1,kn,tg,by omega,_,rfl,p,_,_,_,rfl,rfl,hp,rfl,_,rfl,y,d,b,P,W,rfl,eb,is.2,ok.2,kn,tg,by omega,_,_,rfl,rfl,q⟩
theorem yt (s:Src K mg "_law_worth" sWo)  : ∀n:Nat,aF P w K mg base "_law_worth" ["told","known"] (n + 1) (jx n):=by
 obtain ⟨f,fd,F,m⟩:=s
 have b:Binds K fd ["told","known"] []:=cu F fun _ _ _ _ _ _ _ _=>rfl
 intro n
 have all:aL P w K mg base CX0 (n + 1) f fd ["told","known"] (jx n):=by
   induction n with
   | zero=>exact vW
   | succ n ih=>exact AN F  ⟨f,fd,ih,F.kp,b,m⟩
 exact ⟨f,fd,all,F.kp,b,m⟩
def mw (n:Nat):Sp:=fun vs H Q _=>∃(v:V) (d:Addr) (e:E) (P:Str->Str->Prop) (W:Str->Str->Int),vs=[v,.ref d]/\gj H v e/\e.isC/\e.okIn P/\rF H d P W/\rJ P/\e.dep < n/\n<=20/\∀H',ah H H'->Q (.bl (e.holds W)) H'
theorem vV {f:Addr}{fd:FuncData}:aL P w K mg base CX0 31 f fd ["told","known"] (mw 0):=by
 have no:∀vs H Q E,¬ mw 0 vs H Q E:=fun vs H Q E h=>by
   obtain ⟨v,d,e,P,W,_,_,_,_,_,_,h,_⟩:=h
   omega
 exact ⟨fun vs H Q E h=>absurd h (no vs H Q E),fun A outer s H args us vs Q E _ _ _ _ h=>absurd h (no vs H Q E)⟩
theorem Be:au ["told","known","one","two"] ["told","known"] (ag sHo):=⟨rfl,rfl,rfl,by decide +kernel,rfl,by decide +kernel,by decide +kernel⟩
theorem cV:(ag sHo).names.lookup (DD "_law_holds")=some .globalImplicit:=by decide +kernel
theorem eK:(ag sHo).names.lookup (DD "_law_worth")=some .globalImplicit:=by decide +kernel
theorem vF:(ag sHo).names.lookup (DD "int")=some .globalImplicit:=by decide +kernel
theorem AM {n:Nat}{f:Addr}{fd:FuncData}(F:cB K "_law_holds" "_law_holds" sHo f fd)(m_int:mg "int"=none)(WO0:aF P w K mg base "_law_worth" ["told","known"] 31 (jx 30))(G:aF P w K mg base "_law_holds" ["told","known"] (n + 31) (mw n)):aL P w K mg base CX0 (n + 1 + 31) f fd ["told","known"] (mw (n + 1)):=by
 refine F.ok Be (fun vs H Q E h=>?_) (fun cdv A outer s H vs Q E hr h=>?_)
 · obtain ⟨v,d,e,P,W,rfl,_⟩:=h
   rfl
 · obtain ⟨v,d,e,P,W,rfl,ev,is,ok,kn,tg,dp,n20,q⟩:=h
   have WO:=WO0.mono (show 31<=n + 31 by omega)
   refine fI ⟨_,(G3 (Hn (Hk Hw (G2 G5 (GY 0) G1) G7) (G6 (Hi L3.bl)) Ho)
     (G3 (Hn (Hk Hw (G2 G5 (GY 0) G1) G7) (G6 (Hi (L3.Ci (Hj G hr cV (GZ (G2 G5 (GY 0) G1) (GZ (GY 1) G0)))))) Ho)
     (G3 (Hn (Hk Hw (G2 G5 (GY 0) G1) G7) (G6 (Hi (Iv (Hj G hr cV (GZ (G2 G5 (GY 0) G1) (GZ (GY 1) G0))) (L3.wz (Hj G hr cV (GZ (G2 G5 (GY 0) G1) (GZ (GY 1) G0))))))) Ho)
     (G3 (L3.y7 2 3 Be.nd (GZ (Hj WO hr eK (GZ (G2 G5 (GY 0) G1) (GZ (GY 1) G0))) (GZ (Hj WO hr eK (GZ (G2 G5 (GY 0) G1) (GZ (GY 1) G0))) G0)))
     (G6 (Hi (G2 Hm (Hy (GZ (HK HL (GY 2) (GY 3)) (GZ (HK Hw (GY 2) (GY 3)) G0))) (HI Ib vF m_int (by decide +kernel) (GZ (HK Hw (G2 G5 (GY 0) G1) G7) G0))))))))),?_⟩
   refine a8 fun Rk kR=>?_
   match e,ev,is,ok,dp,q with
   | .yes,ev,is,ok,dp,q=>
     obtain ⟨p,rfl,hp⟩:=Tp.sq ev
     exact ⟨_,rfl,p,_,_,_,rfl,rfl,hp,rfl,rfl,_,rfl,cN (q _ (same_refl _))⟩
   | .nt a,ev,is,ok,dp,q=>
     obtain ⟨x,h,ea⟩:=ev
     obtain ⟨p,rfl,hp⟩:=h.sq
     have dp:a.dep + 1 < n + 1:=dp
     refine ⟨_,rfl,p,_,_,_,rfl,rfl,hp,rfl,rfl,_,rfl,iteF' (by decide) (kR _ _ ?_)⟩
     clear kR
     refine a8 fun Rk kR=>?_
     refine ⟨_,rfl,p,_,_,_,rfl,rfl,hp,rfl,rfl,_,rfl,cN ?_⟩
     exact ⟨_,rfl,p,_,_,_,rfl,rfl,hp,rfl,_,rfl,x,d,a,P,W,rfl,ea,is,ok,kn,tg,by omega,by omega,fun H' s'=>⟨_,rfl,q _ s'⟩⟩
   | .two .both a b,ev,is,ok,dp,q=>
     obtain ⟨x,y,h,ea,eb⟩:=ev
     obtain ⟨p,rfl,hp⟩:=h.sq
     have dp:max a.dep b.dep + 1 < n + 1:=dp
     refine ⟨_,rfl,p,_,_,_,rfl,rfl,hp,rfl,rfl,_,rfl,iteF' (by decide) (kR _ _ ?_)⟩
     clear kR
     refine a8 fun Rk kR=>?_
     refine ⟨_,rfl,p,_,_,_,rfl,rfl,hp,rfl,rfl,_,rfl,iteF' (by decide) (kR _ _ ?_)⟩
     clear kR
     refine a8 fun Rk kR=>?_
     refine ⟨_,rfl,p,_,_,_,rfl,rfl,hp,rfl,rfl,_,rfl,cN ?_⟩
     refine ⟨_,rfl,p,_,_,_,rfl,rfl,hp,rfl,_,rfl,x,d,a,P,W,rfl,ea,is.1,ok.1,kn,tg,by omega,by omega,fun H1 s1=>⟨_,rfl,?_⟩⟩
     have qq:∀H',ah H H'->Q (.bl (a.holds W && b.holds W)) H':=q
     cases ha:a.holds W with
     | false=>
       refine fK ?_
       rw [ha] at qq
       exact qq _ s1
     | true=>
       refine cN ?_
       rw [ha] at qq
       exact ⟨_,rfl,p,_,_,_,rfl,rfl,Tp.at h s1,rfl,_,rfl,y,d,b,P,W,rfl,eb.keep (ah.tk s1),is.2,ok.2,kn.same s1,tg,by omega,by omega,fun H2 s2=>qq _ (aa s1 s2)⟩
   | .two .same a b,ev,is,ok,dp,q=>
     obtain ⟨x,y,h,ea,eb⟩:=ev
     obtain ⟨p,rfl,hp⟩:=h.sq
     have dp:max a.dep b.dep + 1 < n + 1:=dp
     refine ⟨_,rfl,p,_,_,_,rfl,rfl,hp,rfl,rfl,_,rfl,iteF' (by decide) (kR _ _ ?_)⟩
     clear kR
     refine a8 fun Rk kR=>?_
     refine ⟨_,rfl,p,_,_,_,rfl,rfl,hp,rfl,rfl,_,rfl,iteF' (by decide) (kR _ _ ?_)⟩
     clear kR
     refine a8 fun Rk kR=>?_
     refine ⟨_,rfl,p,_,_,_,rfl,rfl,hp,rfl,rfl,_,rfl,iteF' (by decide) (kR _ _ ?_)⟩
     clear kR
     refine a8 fun Rk kR=>?_
     refine ⟨_,rfl,p,_,_,_,rfl,rfl,hp,rfl,_,rfl,x,d,a,P,W,rfl,ea,is.1,ok.1,kn,tg,by omega,_,rfl,p,_,_,_,rfl,rfl,hp,rfl,_,rfl,y,d,b,P,W,rfl,eb,is.2,ok.2,kn,tg,by omega,_,_,rfl,?_⟩
     refine kR _ _ ?_
     refine ⟨_,rfl,_,rfl,_,_,rfl,rfl,_,rfl,_,rfl,rfl,JC,fun L hL=>?_⟩
     have sL:=af hL (.lst [.bl (decide (a.worth W < b.worth W)),.bl (decide (V.int (a.worth W)=V.int (b.worth W)))])
     have hp2:aq K (upd H L (.lst [.bl (decide (a.worth W < b.worth W)),.bl (decide (V.int (a.worth W)=V.int (b.worth W)))])) p _:=Tp.at h sL
     refine ⟨_,rfl,p,_,_,_,rfl,rfl,hp2,rfl,rfl,.inr ⟨_,rfl,L,_,_,_,rfl,rfl,ao.of ae,rfl,?_⟩⟩
     have e9:decide (V.int (a.worth W)=V.int (b.worth W))=(TW.E.two .same a b).holds W:=by
       show _=decide (a.worth W=b.worth W)
       by_cases z:a.worth W=b.worth W
       · rw [decide_eq_true z,decide_eq_true (congrArg V.int z)]
       · rw [decide_eq_false z,decide_eq_false (fun y=>z (by injection y))]
     rw [e9]
     rw [e9] at sL
     exact q _ sL
   | .two .under a b,ev,is,ok,dp,q=>
     obtain ⟨x,y,h,ea,eb⟩:=ev
     obtain ⟨p,rfl,hp⟩:=h.sq
     have dp:max a.dep b.dep + 1 < n + 1:=dp
     refine ⟨_,rfl,p,_,_,_,rfl,rfl,hp,rfl,rfl,_,rfl,iteF' (by decide) (kR _ _ ?_)⟩
     clear kR
     refine a8 fun Rk kR=>?_
     refine ⟨_,rfl,p,_,_,_,rfl,rfl,hp,rfl,rfl,_,rfl,iteF' (by decide) (kR _ _ ?_)⟩
     clear kR
     refine a8 fun Rk kR=>?_
     refine ⟨_,rfl,p,_,_,_,rfl,rfl,hp,rfl,rfl,_,rfl,iteF' (by decide) (kR _ _ ?_)⟩
     clear kR
     refine a8 fun Rk kR=>?_
     refine ⟨_,rfl,p,_,_,_,rfl,rfl,hp,rfl,_,rfl,x,d,a,P,W,rfl,ea,is.1,ok.1,kn,tg,by omega,_,rfl,p,_,_,_,rfl,rfl,hp,rfl,_,rfl,y,d,b,P,W,rfl,eb,is.2,ok.2,kn,tg,by omega,_,_,rfl,?_⟩
     refine kR _ _ ?_
     refine ⟨_,rfl,_,rfl,_,_,rfl,rfl,_,rfl,_,rfl,rfl,JC,fun L hL=>?_⟩
     have sL:=af hL (.lst [.bl (decide (a.worth W < b.worth W)),.bl (decide (V.int (a.worth W)=V.int (b.worth W)))])
     have hp2:aq K (upd H L (.lst [.bl (decide (a.worth W < b.worth W)),.bl (decide (V.int (a.worth W)=V.int (b.worth W)))])) p _:=Tp.at h sL
     refine ⟨_,rfl,p,_,_,_,rfl,rfl,hp2,rfl,rfl,.inr ⟨_,rfl,L,_,_,_,rfl,rfl,ao.of ae,rfl,?_⟩⟩
     exact q _ sL
theorem yr (s:Src K mg "_law_holds" sHo)(m_int:mg "int"=none)(WO0:aF P w K mg base "_law_worth" ["told","known"] 31 (jx 30)):∀n:Nat,aF P w K mg base "_law_holds" ["told","known"] (n + 31) (mw n):=by
 obtain ⟨f,fd,F,m⟩:=s
 have b:Binds K fd ["told","known"] []:=cu F fun _ _ _ _ _ _ _ _=>rfl
 intro n
 have all:aL P w K mg base CX0 (n + 31) f fd ["told","known"] (mw n):=by
   induction n with
   | zero=>exact vV
   | succ n ih=>exact AM F m_int WO0 ⟨f,fd,ih,F.kp,b,m⟩
 exact ⟨f,fd,all,F.kp,b,m⟩
end
end TW
set_option Elab.async false
set_option linter.all false
set_option maxRecDepth 100000
set_option exponentiation.threshold 4000
set_option maxHeartbeats 1000000
namespace TW
open PySem L2
section
variable {P:Program}{w:World}{K:DA}{mg:Str->Option Value}{base:Heap}
abbrev sKno:Stmt:=top 39
abbrev sLStp:Stmt:=top 40
/-! ### _law_known -/
def my:Sp:=fun vs H Q _=>∃(sd:Str) (v:V) (wa:Addr) (bs:List (Str×Int)) (ws:List Int),vs=[.str sd,v,.ref wa]/\xT H v bs/\(bs.map (·.1)).Nodup/\bs.length<=900/\H wa=some (.tup (ws.map V.int))/\bs.length=ws.length/\∀D H',ah H H'->H' D=some (.dT (bH sd bs ws))->Q (.ref D) H'
theorem uG:au ["side","program","worths","known","k"] ["side","program","worths"] (ag sKno):=⟨rfl,rfl,rfl,by decide +kernel,rfl,by decide +kernel,by decide +kernel⟩
theorem sr:(ag sKno).names.lookup (DD "len")=some .globalImplicit:=by decide +kernel
theorem m9:(ag sKno).names.lookup (DD "range")=some .globalImplicit:=by decide +kernel
theorem yM {f:Addr}{fd:FuncData}(F:cB K "_law_known" "_law_known" sKno f fd)(m_len:mg "len"=none)(m_range:mg "range"=none):aL P w K mg base CX0 1 f fd ["side","program","worths"] my:=by
 refine F.ok uG (fun vs H Q E h=>?_) (fun cdv A outer s H vs Q E hr h=>?_)
 · obtain ⟨sd,v,wa,bs,ws,rfl,_⟩:=h
   rfl
 · obtain ⟨sd,v,wa,bs,ws,rfl,⟨p,B,I,N,vb,rfl,hp,hB,pb⟩,nd,len,hw,ll,q⟩:=h
   refine fI ⟨_,(G3 (G9 3 uG.nd L3.Aq)
     (G3 (HW (Ic m9 m_range (GZ (Hv Hz sr m_len DQ (GZ (GY 2) G0)) G0)) (Hh 4 uG.nd) (G6 (L3.dput (bB hr _ (by decide)) (GY 3) (G8 (GZ (GY 0) (GZ (G2 G5 (G2 Hm (G2 G5 (GY 1) G1) (GY 4)) G1) G0))) (G2 G5 (GY 2) (GY 4)))))
     (G6 (Hi (GY 3))))),?_⟩
   have hvl:vb.length=bs.length:=Paired.length pb
   refine eB fun Rk kR=>?_
   refine fun D hD=>?_
   refine ⟨_,rfl,wa,_,rfl,.inr (aq.of (af hD _ _ _ hw)),_,rfl,by rw [DC]; omega,by rw [DC]; omega,?_⟩
   refine cF (lo:=0) (n:=((ws.map V.int).length:Int).toNat) (fun i σ H2=>(∃kv,σ=[some (.str sd),some (.ref p),some (.ref wa),some (.ref D),kv])/\ah H H2/\H2 D=some (.dT (bH sd (bs.take i) (ws.take i)))) ⟨⟨_,rfl⟩,af hD _,ae⟩ ?_ ?_
   · rintro i σ H2 hi ⟨⟨kv,rfl⟩,s2,hD2⟩
     rw [DC] at hi
     have hiw:i < ws.length:=by omega
     have hib:i < bs.length:=by omega
     have e0:((0:Int) + (i:Int)).toNat=i:=by omega
     obtain ⟨wv,gw,_,hatw⟩:=bJ V.int ws (r:=0 + (i:Int)) (by omega) (by omega)
     obtain ⟨bv,gbv,hatb⟩:=iO (xs:=vb) (r:=0 + (i:Int)) (by omega) (by omega)
     rw [e0] at gw gbv
     obtain ⟨b,gb,pb1,rfl,hpb⟩:=Paired.get pb gbv
     refine aw ?_
     refine ⟨_,rfl,_,rfl,wa,_,_,_,rfl,rfl,aq.of (s2 _ _ hw),hatw,_,rfl,_,rfl,_,rfl,p,_,_,_,rfl,rfl,aq.of (s2 _ _ hp),rfl,_,rfl,B,_,_,_,rfl,rfl,ao.of (s2 _ _ hB),hatb,pb1,_,_,_,rfl,rfl,aq.of (s2 _ _ hpb),rfl,JC,fun kp hkp=>?_⟩
     have hD3:∀o,(upd H2 kp o) D=some (.dT (bH sd (bs.take i) (ws.take i))):=fun o=>by rw [aj (ai hD2 hkp)]; exact hD2
     have kl:=gH sd (bs.take i) (ws.take i)
     have kt:(bs.take i).length<=bs.length:=by rw [DM]; omega
     refine ⟨D,_,rfl,lh.t (k:=[.inr sd,.inr b.1]) (hD3 _) ae (aR (by omega)),⟨_,rfl⟩,bc (cK s2 hkp) hD,?_⟩
     rw [ae,mq (fg sd _ _ _ _ fun _=>oZ nd gb),D1,D1,gb,gw]
     show _=some (HO.dT (bH sd (bs.take i++[b]) (ws.take i++[wv])))
     rw [fh sd _ _ b wv (by rw [DM,DM]; omega)]
   rintro σ H1 ⟨⟨kv,rfl⟩,s1,hD1⟩
   have el:((ws.map V.int).length:Int).toNat=ws.length:=by rw [DC]; omega
   rw [el,Ec,← ll,Ec] at hD1
   refine kR _ _ ?_
   exact ⟨_,rfl,q D H1 s1 hD1⟩
theorem vI (s:Src K mg "_law_known" sKno)(m_len:mg "len"=none)(m_range:mg "range"=none):aF P w K mg base "_law_known" ["side","program","worths"] 1 my:=
 let ⟨f,fd,F,m⟩:=s
 ⟨f,fd,yM F m_len m_range,F.kp,pU F fun _ _ _ _ _ _ _ _ _=>rfl,m⟩
/-! ### _law_step -/
structure vd (H:Hp)(v:V)(wa:Addr)(bs:List (Str×Int))(ws:List Int)(ins:List Str)(nds:List Nd)(pl:Int)(nd:Nd)(m:Int):Prop where
 pa:aI H v bs ins nds
 ndn:(bs.map (·.1)).Nodup
 len:bs.length<=900
 sz:∀b∈bs,1<=b.2
 wl:H wa=some (.tup (ws.map V.int))
 ll:bs.length=ws.length
 p0:0<=pl
 here:nds[pl.toNat]? = some nd
 gd:nd.good (· ∈ bs.map (·.1)) m 19
theorem rS {K:DA}{H:Hp}{a b:Addr}{xs ys:List V}{Q:V->Hp->Prop}(ha:H a=some (.tup xs))(hb:H b=some (.tup ys))(hy:ys≠[])(hl:xs.length + ys.length<=1000)(q:∀(c:Addr) (H':Hp),ah H H'->H' c=some (.tup (xs++ys))->Q (.ref c) H'):uz K (.ref a) (.ref b) H Q:=
 ⟨a,b,xs,ys,rfl,rfl,aq.of ha,aq.of hb,hy,small hl,fun e=>by subst e; exact q b H (same_refl _) hb,fun _ p hp=>q p _ (af hp _) ae⟩
theorem rR {K:DA}{H:Hp}{a b:Addr}{xs ys:List V}{Q:V->Hp->Prop}(ha:H a=some (.tup xs))(hb:H b=some (.tup ys))(hy:xs≠[])(hl:xs.length + ys.length<=1000)(q:∀(c:Addr) (H':Hp),ah H H'->H' c=some (.tup (xs++ys))->Q (.ref c) H'):uy K (.ref a) (.ref b) H Q:=
 ⟨a,b,xs,ys,rfl,rfl,aq.of ha,aq.of hb,hy,small hl,fun e=>by subst e; exact q a H (same_refl _) (by rw [Es]; exact ha),fun _ p hp=>q p _ (af hp _) ae⟩
theorem ux {bs:List (Str×Int)}{ws:List Int}{j:Nat}{b:Str×Int}{t:Int}(nd:(bs.map (·.1)).Nodup)(ll:bs.length=ws.length)(h:bs[j]? = some b):fj bs ws b.1 t=ws.take j++[t % b.2]++ws.drop (j + 1):=by
 have hj:=(List.getElem?_eq_some_iff.mp h).1
 apply List.ext_getElem?
 intro i
 have hl:(ws.take j++[t % b.2]).length=j + 1:=by rw [DE,DM]; show min j ws.length + 1=j + 1; omega
 by_cases hi:i < bs.length
 · obtain ⟨c,hc⟩ : ∃c,bs[i]? = some c:=⟨_,DH hi⟩
   obtain ⟨y,hy⟩ : ∃y,ws[i]? = some y:=⟨_,DH (by omega)⟩
   rw [mr hc hy]
   by_cases e:i=j
   · subst e
     rw [h] at hc
     cases hc
     rw [if_pos rfl,D9 (by omega),DW (by rw [DM]; omega),DM,FP (by omega),EW]
     rfl
   · have ne:¬ c.1=b.1:=fun z=>e ((Ga (by rw [DC]; exact hi) nd).mp (by rw [Ed,Ed,hc,h]; exact congrArg some z))
     rw [if_neg ne]
     by_cases lt:i < j
     · rw [D9 (by omega),D9 (by rw [DM]; omega),F2,if_pos lt,hy]
     · rw [DW (by omega),hl,List.getElem?_drop,show j + 1 + (i - (j + 1))=i by omega,hy]
 · rw [EK (by rw [jj ll]; omega),EK (by rw [DE,hl,Ex]; omega)]
def kU:Sp:=fun vs H Q _=>∃(v:V) (pl:Int) (wa:Addr) (bs:List (Str×Int)) (ws:List Int) (ins:List Str) (nds:List Nd) (nd:Nd) (m:Int) (said:List Int) (n:Int) (ws':List Int),vs=[v,.int pl,.ref wa]/\vd H v wa bs ws ins nds pl nd m/\b8 bs ws nd=some (said,n,ws') /\
 ∀r l1 w2 H',ah H H'->H' r=some (.tup [.ref l1,.int n,.ref w2])->H' l1=some (.lst (said.map V.int))->H' w2=some (.tup (ws'.map V.int))->Q (.ref r) H'
theorem gK:au ["program","place","worths","node","known","names","at","worth"] ["program","place","worths"] (ag sLStp):=⟨rfl,rfl,rfl,by decide +kernel,rfl,by decide +kernel,by decide +kernel⟩
theorem hV:(ag sLStp).names.lookup (DD "_law_holds")=some .globalImplicit:=by decide +kernel
theorem h9:(ag sLStp).names.lookup (DD "_law_known")=some .globalImplicit:=by decide +kernel
theorem dF:(ag sLStp).names.lookup (DD "_law_worth")=some .globalImplicit:=by decide +kernel
theorem qh:(ag sLStp).names.lookup (DD "int")=some .globalImplicit:=by decide +kernel
theorem wj {f:Addr}{fd:FuncData}(F:cB K "_law_step" "_law_step" sLStp f fd)(m_int:mg "int"=none)(KN0:aF P w K mg base "_law_known" ["side","program","worths"] 1 my)(WO0:aF P w K mg base "_law_worth" ["told","known"] 31 (jx 30))(HO0:aF P w K mg base "_law_holds" ["told","known"] 51 (mw 20)):aL P w K mg base CX0 52 f fd ["program","place","worths"] kU:=by
 refine F.ok gK (fun vs H Q E h=>?_) (fun cdv A outer s H vs Q E hr h=>?_)
 · obtain ⟨v,pl,wa,bs,ws,ins,nds,nd,m,said,n,ws',rfl,_⟩:=h
   rfl
 · obtain ⟨v,pl,wa,bs,ws,ins,nds,nd,m,said,n,ws',rfl,pre,st,q⟩:=h
   have KN:=KN0.mono (show 1<=51 by omega)
   have WO:=WO0.mono (show 31<=51 by omega)
   have HO:=HO0.mono (show 51<=51 by omega)
   refine fI ⟨_,(G3 (G9 3 gK.nd (G2 Hm (G2 G5 (GY 0) G1) (GY 1)))
     (G3 (G9 4 gK.nd (Hj KN hr h9 (GZ G7 (GZ (GY 0) (GZ (GY 2) G0)))))
     (G3 (Hn (Hk Hw (G2 G5 (GY 3) G1) G7) (G6 (Hi (G8 (GZ (Hy (GZ (Hj WO hr dF (GZ (G2 G5 (GY 3) G1) (GZ (GY 4) G0))) G0)) (GZ (G2 G5 (GY 3) G1) (GZ (GY 2) G0)))))) Ho)
     (G3 (Hn (Hk Hw (G2 G5 (GY 3) G1) G7) (G6 (Hi (G8 (GZ (Hy G0) (GZ (G2 G5 (GY 3) (G4 Ii G1 (HI Ib qh m_int (by decide +kernel) (GZ (Hj HO hr hV (GZ (G2 G5 (GY 3) G1) (GZ (GY 4) G0))) G0)))) (GZ (GY 2) G0)))))) Ho)
     (G3 (L3.Cq (i:=5) [none,none] ["name","size"] (show aA _ (ag sLStp) from ⟨rfl,by decide +kernel,by decide +kernel,by decide +kernel⟩) (by rfl) (HQ (G2 G5 (GY 0) G1)) (fun _ _ _ _ _=>⟨(HG 2 (Hl (Hh 0 (show (["name","size"]:List Str).Nodup from by decide +kernel)) (Hl (Hh 1 (show (["name","size"]:List Str).Nodup from by decide +kernel)) HH))),HU,(GY 0)⟩) gK.nd)
     (G3 (G9 6 gK.nd (L3.index (GY 5) (GZ (G2 G5 (GY 3) G1) G0)))
     (G3 (G9 7 gK.nd (G4 Hq (Hj WO hr dF (GZ (G2 G5 (GY 3) G1) (GZ (GY 4) G0))) (G2 G5 (G2 Hm (G2 G5 (GY 0) G1) (GY 6)) G1)))
     (G6 (Hi (G8 (GZ (Hy G0) (GZ (G2 G5 (GY 3) G1) (GZ (G4 Ia (G4 L3.yJ (Iu (GY 2) (GY 6)) (G8 (GZ (GY 7) G0))) (L3.Cp (GY 2) (G4 HF (GY 6) G1))) G0))))))))))))),?_⟩
   have ll:=pre.ll
   have blen:=pre.len
   have gd:=pre.gd
   have nnd:=pre.ndn
   obtain ⟨p,B,I,N,vb,vn,rfl,hp,hB,hI,hN,pb,pn⟩:=pre.pa
   have hvl:vb.length=bs.length:=Paired.length pb
   have hil:pl.toNat < nds.length:=(List.getElem?_eq_some_iff.mp pre.here).1
   have hvn:vn.length=nds.length:=Paired.length pn
   obtain ⟨x0,hx0⟩ : ∃x0,vn[pl.toNat]? = some x0:=⟨vn[pl.toNat]'(by omega),DH (by omega)⟩
   have hat:eR vn pl=some x0:=by
     have:=d9 hx0
     rw [E3 pre.p0] at this
     exact this
   have hnd:=Paired.get2 pn hx0 pre.here
   refine eB fun Rk kR=>?_
   refine ⟨_,rfl,p,_,_,_,rfl,rfl,aq.of hp,rfl,_,rfl,N,_,_,_,rfl,rfl,ao.of hN,hat,?_⟩
   refine aw ?_
   refine ⟨_,rfl,_,rfl,"box",.ref p,wa,bs,ws,rfl,⟨p,B,_,_,vb,rfl,hp,hB,pb⟩,nnd,blen,pre.wl,ll,fun D H1 s1 hD=>?_⟩
   refine aw ?_
   refine kR _ _ ?_
   refine bP [some (.ref p),some (.int pl),some (.ref wa),some x0,some (.ref D),none,none,none] rfl ?_
   clear kR
   have kn:rF H1 D (bxP bs) (fun _ y=>gZ bs ws y):=⟨_,hD,fun t x h=>by rw [h.1]; exact dh "box" bs ws x ll h.2⟩
   have wl1:=s1 _ _ pre.wl
   refine a8 fun Rk kR=>?_
   cases nd with
   | fin=>cases st
   | say e n0=>
     cases st
     obtain ⟨u,⟨x,rfl,hx⟩,eu⟩:=hnd
     have hx:=s1 _ _ hx
     obtain ⟨g2,g3,g4,g5,g6⟩:=gd
     refine ⟨_,rfl,x,_,_,_,rfl,rfl,aq.of hx,rfl,rfl,_,rfl,cN ?_⟩
     refine ⟨_,rfl,x,_,_,_,rfl,rfl,aq.of hx,rfl,_,rfl,u,D,e,_,_,rfl,eu.keep (ah.tk s1),g2,g3,kn,cY bs,by omega,JB,fun l1 hl1=>?_⟩
     have s2:ah H1 (upd H1 l1 (.lst [.int (e.worth fun _ y=>gZ bs ws y)])):=af hl1 _
     have g2x:(upd H1 l1 (.lst [.int (e.worth fun _ y=>gZ bs ws y)])) l1=some (.lst [.int (e.worth fun _ y=>gZ bs ws y)]):=ae
     generalize upd H1 l1 (.lst [.int (e.worth fun _ y=>gZ bs ws y)])=H2 at s2 g2x ⊢
     refine ⟨_,rfl,x,_,_,_,rfl,rfl,aq.of (s2 _ _ hx),rfl,_,rfl,JD,fun r hr'=>?_⟩
     have s3:=af hr' (.tup [.ref l1,.int n,.ref wa])
     exact q r l1 wa _ (aa s1 (aa s2 s3)) ae (s3 _ _ g2x) (s3 _ _ (s2 _ _ wl1))
   | test c n0 o0=>
     cases st
     obtain ⟨u,⟨x,rfl,hx⟩,eu⟩:=hnd
     have hx:=s1 _ _ hx
     obtain ⟨g2,g3,g4,g5,g6⟩:=gd
     refine ⟨_,rfl,x,_,_,_,rfl,rfl,aq.of hx,rfl,rfl,_,rfl,iteF' (by decide) (kR _ _ ?_)⟩
     clear kR
     refine a8 fun Rk kR=>?_
     refine ⟨_,rfl,x,_,_,_,rfl,rfl,aq.of hx,rfl,rfl,_,rfl,cN ?_⟩
     refine ⟨JA,fun l1 hl1=>?_⟩
     have s2:ah H1 (upd H1 l1 (.lst [])):=af hl1 _
     have g2x:(upd H1 l1 (.lst [])) l1=some (.lst []):=ae
     generalize upd H1 l1 (.lst [])=H2 at s2 g2x ⊢
     have hx2:=s2 _ _ hx
     refine ⟨_,rfl,_,rfl,x,_,_,_,rfl,rfl,aq.of hx2,rfl,_,rfl,u,D,c,_,_,rfl,(eu.keep (ah.tk s1)).keep (ah.tk s2),g2,g3,kn.same s2,cY bs,by omega,by decide,fun H3 s3=>.inr ⟨_,rfl,?_⟩⟩
     have hat2:∀z:Bool,eR ([.str "test",u,.int n0,.int o0]:List V) (3 - if z=true then 1 else 0)=some (.int (if z=true then n0 else o0)):=fun z=>by cases z <;> rfl
     refine ⟨_,_,rfl,rfl,x,_,_,_,rfl,rfl,aq.of (s3 _ _ hx2),hat2 _,?_⟩
     refine ⟨_,rfl,JD,fun r hr'=>?_⟩
     have s4:=af hr' (.tup [.ref l1,.int (if (c.holds fun _ y=>gZ bs ws y)=true then n0 else o0),.ref wa])
     have s23:=aa s2 s3
     exact q r l1 wa _ (aa s1 (aa s23 s4)) ae (s4 _ _ (s3 _ _ g2x)) (s4 _ _ (s23 _ _ wl1))
   | put nm e n0=>
     cases st
     obtain ⟨u,⟨x,rfl,hx⟩,eu⟩:=hnd
     have hx:=s1 _ _ hx
     obtain ⟨g1,g2,g3,g4,g5,g6⟩:=gd
     refine ⟨_,rfl,x,_,_,_,rfl,rfl,aq.of hx,rfl,rfl,_,rfl,iteF' (by decide) (kR _ _ ?_)⟩
     clear kR
     refine a8 fun Rk kR=>?_
     refine ⟨_,rfl,x,_,_,_,rfl,rfl,aq.of hx,rfl,rfl,_,rfl,iteF' (by decide) (kR _ _ ?_)⟩
     clear kR
     refine jI fun Rk kR=>?_
     have hB1:=s1 _ _ hB
     refine ⟨_,rfl,p,_,_,_,rfl,rfl,aq.of (s1 _ _ hp),rfl,B,rfl,⟨_,ao.of hB1⟩,fun na hna=>?_⟩
     have nba:B≠na:=ai hB1 hna
     refine bu (xs:=vb) (fun i H3=>H3=upd H1 na (.lst ((bs.take i).map fun b=>V.str b.1))) rfl (fun i H3 _ e=>?_) (fun i x H3 hx e=>?_) (fun H3 e=>?_)
     · subst e
       exact ao.of (by rw [aj nba]; exact hB1)
     · subst e
       obtain ⟨b,hbi,p,rfl,hp⟩:=Paired.get pb hx
       have hil:i < vb.length:=(List.getElem?_eq_some_iff.mp hx).1
       refine ⟨p,_,rfl,aq.of (by rw [aj (ai (s1 _ _ hp) hna)]; exact s1 _ _ hp),rfl,_,_,rfl,_,_,rfl,rfl,?_⟩
       refine dk (A:=fun H3=>dR (oi 0) na _ H3 _) ⟨_,rfl,_,ae,aR (by rw [DC,DM]; omega),aM (Pv:=fun i H3=>H3=upd H1 na (.lst ((bs.take i).map fun b=>V.str b.1))) (by repeat' constructor) hil ?_⟩
       rw [bE]
       congr 2
       rw [D1,hbi,DS]
       rfl
     subst e
     have et:(bs.take vb.length).map (fun b=>V.str b.1)=(bs.map (·.1)).map V.str:=by rw [hvl,Ec,EV]; rfl
     rw [et]
     have s2:ah H1 (upd H1 na (.lst ((bs.map (·.1)).map V.str))):=af hna _
     have gna:(upd H1 na (.lst ((bs.map (·.1)).map V.str))) na=some (.lst ((bs.map (·.1)).map V.str)):=ae
     generalize upd H1 na (.lst ((bs.map (·.1)).map V.str))=H2 at s2 gna ⊢
     have s02:=aa s1 s2
     have hx2:=s2 _ _ hx
     obtain ⟨j,hj⟩:=List.mem_iff_getElem?.mp g1
     have hj0:=hj
     rw [Ed] at hj0
     obtain ⟨b,hb,ebn⟩:=Option.map_eq_some_iff.mp hj0
     subst ebn
     have hjl:j < bs.length:=(List.getElem?_eq_some_iff.mp hb).1
     obtain ⟨xb,hxb,hatb⟩:=iO (xs:=vb) (r:=(j:Int)) (by omega) (by omega)
     rw [E9] at hxb
     obtain ⟨b',hb',pb1,rfl,hpb⟩:=Paired.get pb hxb
     rw [hb] at hb'
     cases hb'
     have hpos:=pre.sz b (DR hb)
     refine ⟨_,rfl,.inl ⟨rfl,_,ao.of gna⟩,_,rfl,x,_,_,_,rfl,rfl,aq.of hx2,rfl,na,bs.map (·.1),b.1,j,rfl,rfl,ao.of gna,hj,(fun m hm z=>by have:=(Ga (by rw [DC]; omega) nnd).mp (z.trans hj.symm); omega),by rw [DC]; omega,?_⟩
     refine aw ?_
     refine ⟨_,rfl,x,_,_,_,rfl,rfl,aq.of hx2,rfl,_,rfl,u,D,e,_,_,rfl,(eu.keep (ah.tk s1)).keep (ah.tk s2),g2,g3,kn.same s2,cY bs,by omega,_,rfl,p,_,_,_,rfl,rfl,aq.of (s02 _ _ hp),rfl,_,rfl,B,_,_,_,rfl,rfl,ao.of (s2 _ _ hB1),hatb,pb1,_,_,_,rfl,rfl,aq.of (s02 _ _ hpb),rfl,_,_,rfl,rfl,(by show (0:Int) < b.2; omega),?_⟩
     refine aw ?_
     refine kR _ _ ?_
     clear kR
     obtain ⟨tt,ett⟩ : ∃tt,(e.worth fun _ y=>gZ bs ws y) % b.2=tt:=⟨_,rfl⟩
     rw [ux nnd ll hb,ett] at q
     refine bP [some (.ref p),some (.int pl),some (.ref wa),some (V.ref x),some (.ref D),some (.ref na),some (.int (j:Nat)),some (.int tt)] (by rw [← ett]; rfl) ?_
     have wl2:=s2 _ _ wl1
     have lw:(ws.map V.int).length=ws.length:=DC ..
     refine ⟨JA,fun l1 hl1=>?_⟩
     have s3:ah H2 (upd H2 l1 (.lst [])):=af hl1 _
     have g3x:(upd H2 l1 (.lst [])) l1=some (.lst []):=ae
     generalize upd H2 l1 (.lst [])=H3 at s3 g3x ⊢
     refine ⟨_,rfl,x,_,_,_,rfl,rfl,aq.of (s3 _ _ hx2),rfl,_,rfl,_,rfl,_,rfl,wa,_,rfl,aq.of (s3 _ _ wl2),?_,fun a1 ha1=>?_⟩
     · rintro ⟨_,z⟩
       rw [HT.cD] at z
       omega
     rw [eT _ (by omega),← GD]
     have s4:ah H3 (upd H3 a1 (.tup ((ws.take j).map V.int))):=af ha1 _
     have g4x:(upd H3 a1 (.tup ((ws.take j).map V.int))) a1=some (.tup ((ws.take j).map V.int)):=ae
     generalize upd H3 a1 (.tup ((ws.take j).map V.int))=H4 at s4 g4x ⊢
     refine ⟨_,rfl,JB,fun a2 ha2=>?_⟩
     have s5:ah H4 (upd H4 a2 (.tup [.int tt])):=af ha2 _
     have g5x:(upd H4 a2 (.tup [.int tt])) a2=some (.tup [.int tt]):=ae
     generalize upd H4 a2 (.tup [.int tt])=H5 at s5 g5x ⊢
     have s35:=aa s4 s5
     refine rS (s5 _ _ g4x) g5x (fun z=>nomatch z) (by rw [DC,DM]; show _ + 1<=1000; omega) fun a3 H6 s6 g6=>?_
     rw [show ([V.int tt]:List V)=[tt].map V.int from rfl,← DS] at g6
     have s36:=aa s35 s6
     have s06:=aa (aa s02 s3) s36
     refine ⟨_,rfl,_,rfl,_,_,rfl,rfl,_,rfl,wa,_,rfl,aq.of (s36 _ _ (s3 _ _ wl2)),?_,fun a4 ha4=>?_⟩
     · rintro ⟨z,_⟩
       rw [show ((j:Nat):Int) + 1=((j + 1:Nat):Int) from rfl,HT.cD] at z
       omega
     rw [show ((j:Nat):Int) + 1=((j + 1:Nat):Int) from rfl,c8 _ (by omega),← List.map_drop]
     have s7:ah H6 (upd H6 a4 (.tup ((ws.drop (j + 1)).map V.int))):=af ha4 _
     have g7x:(upd H6 a4 (.tup ((ws.drop (j + 1)).map V.int))) a4=some (.tup ((ws.drop (j + 1)).map V.int)):=ae
     generalize upd H6 a4 (.tup ((ws.drop (j + 1)).map V.int))=H7 at s7 g7x ⊢
     refine rR (s7 _ _ g6) g7x (by simp) (by rw [DC,DC,DE,DM,Ex]; show _ + 1 + _<=1000; omega) fun w2 H8 s8 g8=>?_
     rw [← DS] at g8
     refine ⟨JD,fun r hr'=>?_⟩
     have s9:=af hr' (.tup [.ref l1,.int n,.ref w2])
     have s69:=aa s7 (aa s8 s9)
     exact q r l1 w2 _ (aa s06 s69) ae (s69 _ _ (s36 _ _ g3x)) (s9 _ _ g8)
theorem sT (s:Src K mg "_law_step" sLStp)(m_int:mg "int"=none)(KN0:aF P w K mg base "_law_known" ["side","program","worths"] 1 my)(WO0:aF P w K mg base "_law_worth" ["told","known"] 31 (jx 30))(HO0:aF P w K mg base "_law_holds" ["told","known"] 51 (mw 20)):aF P w K mg base "_law_step" ["program","place","worths"] 52 kU:=
 let ⟨f,fd,F,m⟩:=s
 ⟨f,fd,wj F m_int KN0 WO0 HO0,F.kp,pU F fun _ _ _ _ _ _ _ _ _=>rfl,m⟩
end
end TW
set_option Elab.async false
set_option linter.all false
set_option maxRecDepth 100000
set_option exponentiation.threshold 4000
set_option maxHeartbeats 1000000
namespace TW
open PySem L2
section
variable {P:Program}{w:World}{K:DA}{mg:Str->Option Value}{base:Heap}
abbrev sLSta:Stmt:=top 41
abbrev sLInp:Stmt:=top 42
abbrev sCopy:Stmt:=top 48
/-! ### _law_start -/
def jt:Sp:=fun vs H Q _=>∃(v:V) (ia:Addr) (bs:List (Str×Int)) (ins:List Str) (nds:List Nd) (iw:List Int),vs=[v,.ref ia]/\aI H v bs ins nds/\Fits bs ins/\H ia=some (.lst (iw.map V.int))/\Paired Within (ins.map (bo bs)) iw/\∀l H',ah H H'->H' l=some (.tup ((aN bs ins iw).map V.int))->Q (.ref l) H'
theorem vg {bs:List (Str×Int)}{ins:List Str}{iw:List Int}(hl:ins.length=iw.length)(nd:ins.Nodup)(x:Str):(bq (putAll [] (cH (ip ins) iw)) (.inr x)).getD (.int 0)=V.int (nh ins iw x):=by
 by_cases m:x∈ins
 · have hv:=cJ (ip ins) iw [] x (by unfold ip; rw [DC]; exact hl) (by rw [bD]; exact nd) (by rw [bD]; exact m)
   rw [hv]
   rfl
 · have hv:bq (putAll [] (cH (ip ins) iw)) (.inr x)=none:=by
     rw [dA _ _ _ (fun zz=>by
       obtain ⟨y,hy,e2⟩:=eh (ip ins) iw _ zz
       injection e2 with e2
       rw [bD] at hy
       exact m (e2 ▸ hy))]
     rfl
   rw [hv,show nh ins iw x=0 from iI (by rw [bD]; exact m)]
   rfl
theorem zH:au ["program","inputs"] ["program","inputs"] (ag sLSta):=⟨rfl,rfl,rfl,by decide +kernel,rfl,by decide +kernel,by decide +kernel⟩
theorem lQ:(ag sLSta).names.lookup (DD "tuple")=some .globalImplicit:=by decide +kernel
theorem wg {f:Addr}{fd:FuncData}(F:cB K "_law_start" "_law_start" sLSta f fd)(m_dict:mg "dict"=none)(m_zip:mg "zip"=none)(m_tuple:mg "tuple"=none):aL P w K mg base CX0 1 f fd ["program","inputs"] jt:=by
 refine F.ok zH (fun vs H Q E h=>?_) (fun cdv A outer s H vs Q E hr h=>?_)
 · obtain ⟨v,ia,bs,ins,nds,iw,rfl,_⟩:=h
   rfl
 · obtain ⟨v,ia,bs,ins,nds,iw,rfl,pa,ft,hw,pw,q⟩:=h
   refine fI ⟨_,(G6 (Hi (HI L3.iB lQ m_tuple (by decide +kernel) (GZ (HZ [none,none,some 1,some 0] ["name","size","inputs","program"] (show aA _ (ag sLSta) from ⟨rfl,by decide +kernel,by decide +kernel,by decide +kernel⟩) (by rfl) (HQ (G2 G5 (GY 0) G1)) (fun _ _ _ _ _=>⟨(HG 2 (Hl (Hh 0 (show (["name","size","inputs","program"]:List Str).Nodup from by decide +kernel)) (Hl (Hh 1 (show (["name","size","inputs","program"]:List Str).Nodup from by decide +kernel)) HH))),HU,(L3.xm (bB hr _ (by decide)) (L3.oO (by rfl) m_dict (by rfl) m_zip (GZ (G2 G5 (GY 3) G1) (GZ (GY 2) G0))) (GY 0) G1)⟩)) G0)))),?_⟩
   have hlen:ins.length=iw.length:=by have:=Paired.length pw; rw [DC] at this; exact this
   have ilen:=ft.ilen
   have blen:=ft.len
   obtain ⟨p,B,I,N,vb,vn,rfl,hp,hB,hI,hN,pb,pn⟩:=pa
   have hvl:vb.length=bs.length:=Paired.length pb
   have hmap:(ins.map V.str)=(ins.map (Sum.inr:Str->Key)).map kV:=by rw [EV]; rfl
   refine ⟨_,rfl,p,_,_,_,rfl,rfl,aq.of hp,rfl,B,rfl,⟨_,ao.of hB⟩,fun l hl=>?_⟩
   refine bu (xs:=vb) (fun i H4=>ah H H4/\H4 l=some (.lst (((aN bs ins iw).take i).map V.int))) ⟨af hl _,ae⟩ (fun i H4 _ z=>ao.of (z.1 _ _ hB)) (fun i x0 H4 hx z=>?_) (fun H4 z=>?_)
   · obtain ⟨z,hl4⟩:=z
     obtain ⟨b,hbi,pp,rfl,hpp⟩:=Paired.get pb hx
     have hil:i < vb.length:=(List.getElem?_eq_some_iff.mp hx).1
     refine ⟨pp,_,rfl,aq.of (z _ _ hpp),rfl,_,_,rfl,_,_,rfl,rfl,?_⟩
     refine dk (A:=fun H5=>dR _ l _ H5 _) ?_
     refine ⟨_,rfl,p,_,_,_,rfl,rfl,aq.of (z _ _ hp),rfl,_,rfl,I,ia,ins.map Sum.inr,iw.map V.int,rfl,by rw [← hmap]; exact ao.of (z _ _ hI),ao.of (z _ _ hw),by rw [DC,DC]; exact hlen,by rw [DC]; omega,fun D hD=>?_⟩
     rw [oA]
     have s5:ah H4 (upd H4 D (.dK (putAll [] (cH (ip ins) iw)))):=af hD _
     have eD:(upd H4 D (.dK (putAll [] (cH (ip ins) iw)))) D=some (.dK (putAll [] (cH (ip ins) iw))):=ae
     generalize upd H4 D (.dK (putAll [] (cH (ip ins) iw)))=H5 at s5 eD ⊢
     have hl5:=s5 _ _ hl4
     have g:=eP.k (k:=.inr b.1) eD
     refine ⟨D,rfl,.inl ⟨_,.inl eD⟩,_,rfl,_,g,?_⟩
     rw [vg (bs:=bs) hlen ft.ind]
     refine ⟨_,hl5,aR (by rw [DC,DM]; exact Eb (Nat.min_le_left _ _) (by omega)),aM (Pv:=fun i H4=>ah H H4/\H4 l=some (.lst (((aN bs ins iw).take i).map V.int))) (by repeat' constructor) hil ⟨bc (aa z s5) hl,?_⟩⟩
     rw [ae,D1,show (aN bs ins iw)[i]? = some (nh ins iw b.1) by unfold aN; rw [Ed,hbi]; rfl,DS]
     rfl
   obtain ⟨z,hl4⟩:=z
   have et:(aN bs ins iw).take vb.length=aN bs ins iw:=by rw [hvl,← DC (f:=fun b:Str×Int=>nh ins iw b.1) (as:=bs)]; exact Ec ..
   rw [et] at hl4
   refine ⟨l,_,rfl,ao.of hl4,fun r hr'=>?_⟩
   exact q r _ (cK z hr') ae
theorem sS (s:Src K mg "_law_start" sLSta)(m_dict:mg "dict"=none)(m_zip:mg "zip"=none)(m_tuple:mg "tuple"=none):aF P w K mg base "_law_start" ["program","inputs"] 1 jt:=
 let ⟨f,fd,F,m⟩:=s
 ⟨f,fd,wg F m_dict m_zip m_tuple,F.kp,cu F fun _ _ _ _ _ _ _ _=>rfl,m⟩
/-! ### _law_inputs -/
def iK (H:Hp)(szs:List Int)(x:V):Prop:=∃(a:Addr) (iw:List Int),x=.ref a/\H a=some (.lst (iw.map V.int))/\Paired Within szs iw
theorem iK.put {H:Hp}{szs:List Int}{x:V}{nl:Addr}{zs:List V}{o:HO}(h:iK H szs x)(hx:x∈zs)(hn:H nl=some (.lst zs)):iK (upd H nl o) szs x:=by
 obtain ⟨a,iw,rfl,g,p⟩:=h
 refine ⟨a,iw,rfl,?_,p⟩
 by_cases e:a=nl
 · subst e
   rw [hn] at g
   injection g with g
   injection g with g
   rw [g] at hx
   obtain ⟨y,_,z⟩:=List.mem_map.mp hx
   cases z
 · rw [aj e]
   exact g
theorem iK.same {H H':Hp}{szs:List Int}{x:V}(h:iK H szs x)(s:ah H H'):iK H' szs x:=let ⟨a,iw,e,g,p⟩:=h; ⟨a,iw,e,s _ _ g,p⟩
def kT:Sp:=fun vs H Q _=>∃(v:V) (bs:List (Str×Int)) (ins:List Str) (nds:List Nd),vs=[v]/\aI H v bs ins nds/\Fits bs ins/\(∀b∈bs,b.2<=6)/\ins.length<=3/\∀l xs H',ah H H'->H' l=some (.lst xs)->xs.length<=216->(∀x∈xs,iK H' (ins.map (bo bs)) x)->Q (.ref l) H'
theorem dZ:au ["program","sizes","found","name","rows","row"] ["program"] (ag sLInp):=⟨rfl,rfl,rfl,by decide +kernel,rfl,by decide +kernel,by decide +kernel⟩
theorem nc:(ag sLInp).names.lookup (DD "dict")=some .globalImplicit:=by decide +kernel
theorem lP:(ag sLInp).names.lookup (DD "range")=some .globalImplicit:=by decide +kernel
theorem we {f:Addr}{fd:FuncData}(F:cB K "_law_inputs" "_law_inputs" sLInp f fd)(m_dict:mg "dict"=none)(m_range:mg "range"=none):aL P w K mg base CX0 1 f fd ["program"] kT:=by
 refine F.ok dZ (fun vs H Q E h=>?_) (fun cdv A outer s H vs Q E hr h=>?_)
 · obtain ⟨v,bs,ins,nds,rfl,_⟩:=h
   rfl
 · obtain ⟨v,bs,ins,nds,rfl,pa,ft,s6,i3,q⟩:=h
   refine fI ⟨_,(G3 (G9 1 dZ.nd (HI L3.rM nc m_dict (by decide +kernel) (GZ (G2 G5 (GY 0) G1) G0)))
     (G3 (G9 2 dZ.nd (Hy (GZ (Hy G0) G0)))
     (G3 (HW (HQ (G2 G5 (GY 0) G1)) (Hh 3 dZ.nd) (G3 (G9 4 dZ.nd (Hy G0))
     (G3 (HW (HQ (GY 2)) (Hh 5 dZ.nd) (G6 (G9 4 dZ.nd (G4 HN (GY 4) (HZ [none,some 5] ["worth","row"] (show aA _ (ag sLInp) from ⟨rfl,by decide +kernel,by decide +kernel,by decide +kernel⟩) (by rfl) (Ic lP m_range (GZ (L3.vA (bB hr _ (by decide)) (GY 1) (GY 3)) G0)) (fun _ _ _ _ _=>⟨(Hh 0 (show (["worth","row"]:List Str).Nodup from by decide +kernel)),HU,(G4 HN (GY 1) (Hy (GZ (GY 0) G0)))⟩))))))
     (G6 (G9 2 dZ.nd (GY 4))))))
     (G6 (Hi (GY 2)))))),?_⟩
   obtain ⟨p,B,I,N,vb,vn,rfl,hp,hB,hI,hN,pb,pn⟩:=pa
   refine jI fun Rk kR=>?_
   refine ⟨_,rfl,p,_,_,_,rfl,rfl,aq.of hp,rfl,B,vb,qJ bs,rfl,hB,jh pb,fun D hD=>?_⟩
   have s1:ah H (upd H D (.dK (putAll [] (qJ bs)))):=af hD _
   have eD:(upd H D (.dK (putAll [] (qJ bs)))) D=some (.dK (putAll [] (qJ bs))):=ae
   generalize upd H D (.dK (putAll [] (qJ bs)))=H1 at s1 eD ⊢
   refine aw ?_
   refine ⟨JA,fun l1 hl1=>?_⟩
   have s2:ah H1 (upd H1 l1 (.lst [])):=af hl1 _
   have g2:(upd H1 l1 (.lst [])) l1=some (.lst []):=ae
   generalize upd H1 l1 (.lst [])=H2 at s2 g2 ⊢
   refine ⟨JB,fun l2 hl2=>?_⟩
   have s3:ah H2 (upd H2 l2 (.lst [.ref l1])):=af hl2 _
   have g3:(upd H2 l2 (.lst [.ref l1])) l2=some (.lst [.ref l1]):=ae
   generalize upd H2 l2 (.lst [.ref l1])=H3 at s3 g3 ⊢
   refine aw ?_
   have s03:=aa s1 (aa s2 s3)
   refine ⟨_,rfl,p,_,_,_,rfl,rfl,aq.of (s03 _ _ hp),rfl,I,rfl,⟨_,ao.of (s03 _ _ hI)⟩,?_⟩
   refine fA (xs:=ins.map V.str) (fun i σ H5=>∃(o1 o2 o3:Option V) (l:Addr) (xs:List V),σ=[some (.ref p),some (.ref D),some (.ref l),o1,o2,o3]/\ah H3 H5/\H5 l=some (.lst xs)/\xs.length<=6 ^ i/\∀x∈xs,iK H5 ((ins.take i).map (bo bs)) x) ⟨_,_,_,l2,_,rfl,same_refl _,g3,(by show 1<=6 ^ 0; decide),fun x hx=>by rw [List.mem_singleton.mp hx]; exact ⟨l1,[],rfl,s3 _ _ g2,.nil⟩⟩ (fun i σ H5 _ z=>by obtain ⟨_,_,_,_,_,_,s5,_⟩:=z; exact ao.of (s5 _ _ (s03 _ _ hI))) (fun i x σ H5 hx z=>?_) (fun σ H5 z=>?_)
   · obtain ⟨o1,o2,o3,l,xs,rfl,s5,gl,xl,xin⟩:=z
     obtain ⟨nm,hnm,rfl⟩:=cR hx
     have hil:i < ins.length:=(List.getElem?_eq_some_iff.mp hnm).1
     obtain ⟨b,hb,ebn⟩:=List.mem_map.mp (ft.sub nm (DR hnm))
     have szb:bo bs nm=b.2:=by rw [← ebn]; exact f7 ft.nd hb
     have sb1:=ft.sz b hb
     have sb6:=s6 b hb
     have x36:xs.length<=36:=by
       rcases (show i=0\/i=1\/i=2 by omega) with rfl | rfl | rfl <;> simp at xl <;> omega
     refine aw ?_
     refine eB fun Rj kj=>?_
     refine ⟨JA,fun rw hrw=>?_⟩
     have s6x:ah H5 (upd H5 rw (.lst [])):=af hrw _
     have g6:(upd H5 rw (.lst [])) rw=some (.lst []):=ae
     generalize upd H5 rw (.lst [])=H6 at s6x g6 ⊢
     refine aw ?_
     refine ⟨_,rfl,l,rfl,⟨_,ao.of (s6x _ _ gl)⟩,?_⟩
     refine fA (xs:=xs) (fun j σ H7=>∃(o3:Option V) (rl:Addr) (ys:List V),σ=[some (.ref p),some (.ref D),some (.ref l),some (.str nm),some (.ref rl),o3]/\ah H5 H7/\H7 rl=some (.lst ys)/\ys.length<=j * 6/\∀y∈ys,iK H7 ((ins.take (i + 1)).map (bo bs)) y) ⟨_,rw,[],rfl,s6x,g6,DJ _,fun y hy=>nomatch hy⟩ (fun j σ H7 _ z=>by obtain ⟨_,_,_,_,s7,_⟩:=z; exact ao.of (s7 _ _ gl)) (fun j x σ H7 hxj z=>?_) (fun σ H7 z=>?_)
     · obtain ⟨o3,rl,ys,rfl,s7,gr,yl,yin⟩:=z
       have hjl:j < xs.length:=(List.getElem?_eq_some_iff.mp hxj).1
       obtain ⟨ra,iw,rfl,gra,pw⟩:=(xin x (DR hxj)).same s7
       refine aw ?_
       have gD7:=s7 _ _ (s5 _ _ (s3 _ _ (s2 _ _ eD)))
       have hv:=cJ bs (bs.map (·.2)) [] nm (by rw [DC]) ft.nd (ft.sub nm (DR hnm))
       have g:=eP.k (k:=.inr nm) gD7
       rw [show bq (putAll [] (qJ bs)) (.inr nm)=some (.int (bo bs nm)) from hv,szb] at g
       refine ⟨_,rfl,?_⟩
       refine ⟨_,rfl,_,rfl,D,_,rfl,g,b.2,rfl,by omega,by omega,fun nl hnl=>?_⟩
       have et:(ins.take (i + 1)).map (bo bs)=(ins.take i).map (bo bs)++[b.2]:=by rw [D1,hnm,DS,← szb]; rfl
       refine iU (lo:=0) (n:=b.2.toNat) (fun k H8=>∃zs:List V,ah H7 H8/\H8 nl=some (.lst zs)/\zs.length=k/\∀z∈zs,iK H8 ((ins.take (i + 1)).map (bo bs)) z) ⟨[],af hnl _,ae,rfl,fun z hz=>nomatch hz⟩ (fun k H8 hk z=>?_) (fun H8 z=>?_)
       · obtain ⟨zs,s8,g8,zl,zin⟩:=z
         refine aw ?_
         refine dk (A:=fun H9=>dR _ nl _ H9 _) ?_
         refine ⟨_,rfl,_,rfl,JB,fun wl hwl=>?_⟩
         have s9:ah H8 (upd H8 wl (.lst [.int (0 + (k:Int))])):=af hwl _
         have g9:(upd H8 wl (.lst [.int (0 + (k:Int))])) wl=some (.lst [.int (0 + (k:Int))]):=ae
         generalize upd H8 wl (.lst [.int (0 + (k:Int))])=H9 at s9 g9 ⊢
         have iwl:iw.length<=3:=by have:=Paired.length pw; rw [DC,DM] at this; omega
         refine ⟨ra,wl,_,_,rfl,rfl,s9 _ _ (s8 _ _ gra),g9,small (by rw [DC]; show _ + 1<=1000; omega),fun nr hnr=>?_⟩
         rw [show (iw.map V.int++[V.int (0 + (k:Int))])=(iw++[0 + (k:Int)]).map V.int by rw [DS]; rfl]
         have sa:ah H9 (upd H9 nr (.lst ((iw++[0 + (k:Int)]).map V.int))):=af hnr _
         have ga:(upd H9 nr (.lst ((iw++[0 + (k:Int)]).map V.int))) nr=some (.lst ((iw++[0 + (k:Int)]).map V.int)):=ae
         generalize upd H9 nr (.lst ((iw++[0 + (k:Int)]).map V.int))=Ha at sa ga ⊢
         have s8a:=aa s9 sa
         have gz:=s8a _ _ g8
         refine ⟨zs,gz,aR (by omega),aM (Pv:=fun k H8=>∃zs:List V,ah H7 H8/\H8 nl=some (.lst zs)/\zs.length=k/\∀z∈zs,iK H8 ((ins.take (i + 1)).map (bo bs)) z) (by repeat' constructor) hk ⟨zs++[.ref nr],bc (aa s8 s8a) hnl,ae,by rw [DE,zl]; rfl,fun z hz=>?_⟩⟩
         rcases List.mem_append.mp hz with hz | hz
         · exact ((zin z hz).same s8a).put hz gz
         · rw [List.mem_singleton.mp hz]
           refine ⟨nr,_,rfl,?_,by rw [et]; exact Paired.snoc pw (show 0<=0 + (k:Int)/\0 + (k:Int) < b.2 from ⟨by omega,by omega⟩)⟩
           rw [aj (ai (s9 _ _ g8) hnr).symm]
           exact ga
       obtain ⟨zs,s8,g8,zl,zin⟩:=z
       refine ⟨rl,nl,_,_,rfl,rfl,s8 _ _ gr,g8,small (by omega),fun nr hnr=>?_⟩
       have s9:=af hnr (.lst (ys++zs))
       refine aw ?_
       exact ⟨_,nr,ys++zs,rfl,aa s7 (aa s8 s9),ae,by rw [DE,Fq]; omega,fun y hy=>by
         rcases List.mem_append.mp hy with hy | hy
         · exact ((yin y hy).same s8).same s9
         · exact (zin y hy).same s9⟩
     obtain ⟨o3,rl,ys,rfl,s7,gr,yl,yin⟩:=z
     refine kj _ _ ?_
     refine ⟨_,rfl,?_⟩
     refine aw ?_
     exact ⟨_,_,_,rl,ys,rfl,aa s5 s7,gr,by rw [Nat.pow_succ]; exact Eb yl (Nat.mul_le_mul_right 6 xl),yin⟩
   obtain ⟨o1,o2,o3,l,xs,rfl,s5,gl,xl,xin⟩:=z
   refine kR _ _ ?_
   have il:(ins.map V.str).length=ins.length:=DC ..
   rw [il,Ec] at xin
   exact ⟨_,rfl,q l xs H5 (aa s03 s5) gl (by rw [il] at xl; rcases (show ins.length=0\/ins.length=1\/ins.length=2\/ins.length=3 by omega) with e | e | e | e <;> rw [e] at xl <;> simp at xl <;> omega) xin⟩
theorem sQ (s:Src K mg "_law_inputs" sLInp)(m_dict:mg "dict"=none)(m_range:mg "range"=none):aF P w K mg base "_law_inputs" ["program"] 1 kT:=
 let ⟨f,fd,F,m⟩:=s
 ⟨f,fd,we F m_dict m_range,F.kp,yh F fun _ _ _ _ _ _ _=>rfl,m⟩
/-! ### _law_copy -/
def kS:Sp:=fun vs H Q _=>∃(p B I N:Addr) (vb vi vn:List V),vs=[.ref p]/\H p=some (.tup [.ref B,.ref I,.ref N])/\H B=some (.lst vb)/\H I=some (.lst vi)/\H N=some (.lst vn)/\∀(p' B' I' N':Addr) H',ah H H'->H' p'=some (.tup [.ref B',.ref I',.ref N'])->H' B'=some (.lst vb)->H' I'=some (.lst vi)->H' N'=some (.lst vn)->Q (.ref p') H'
theorem zG:au ["program"] ["program"] (ag sCopy):=⟨rfl,rfl,rfl,by decide +kernel,rfl,by decide +kernel,by decide +kernel⟩
theorem eX:(ag sCopy).names.lookup (DD "list")=some .globalImplicit:=by decide +kernel
theorem v8 {f:Addr}{fd:FuncData}(F:cB K "_law_copy" "_law_copy" sCopy f fd)(m_list:mg "list"=none):aL P w K mg base CX0 1 f fd ["program"] kS:=by
 refine F.ok zG (fun vs H Q E h=>?_) (fun cdv A outer s H vs Q E hr h=>?_)
 · obtain ⟨p,B,I,N,vb,vi,vn,rfl,_⟩:=h
   rfl
 · obtain ⟨p,B,I,N,vb,vi,vn,rfl,hp,hB,hI,hN,q⟩:=h
   refine fI ⟨_,(G6 (Hi (G8 (GZ (HI HX eX m_list (by decide +kernel) (GZ (G2 G5 (GY 0) G1) G0)) (GZ (HI HX eX m_list (by decide +kernel) (GZ (G2 G5 (GY 0) G1) G0)) (GZ (HI HX eX m_list (by decide +kernel) (GZ (G2 G5 (GY 0) G1) G0)) G0)))))),?_⟩
   refine ⟨_,rfl,p,_,_,_,rfl,rfl,aq.of hp,rfl,B,_,rfl,.inl (ao.of hB),fun B' hB'=>?_⟩
   have s1:ah H (upd H B' (.lst vb)):=af hB' _
   have g1:(upd H B' (.lst vb)) B'=some (.lst vb):=ae
   generalize upd H B' (.lst vb)=H1 at s1 g1 ⊢
   refine ⟨_,rfl,p,_,_,_,rfl,rfl,aq.of (s1 _ _ hp),rfl,I,_,rfl,.inl (ao.of (s1 _ _ hI)),fun I' hI'=>?_⟩
   have s2:ah H1 (upd H1 I' (.lst vi)):=af hI' _
   have g2:(upd H1 I' (.lst vi)) I'=some (.lst vi):=ae
   generalize upd H1 I' (.lst vi)=H2 at s2 g2 ⊢
   have s02:=aa s1 s2
   refine ⟨_,rfl,p,_,_,_,rfl,rfl,aq.of (s02 _ _ hp),rfl,N,_,rfl,.inl (ao.of (s02 _ _ hN)),fun N' hN'=>?_⟩
   have s3:ah H2 (upd H2 N' (.lst vn)):=af hN' _
   have g3:(upd H2 N' (.lst vn)) N'=some (.lst vn):=ae
   generalize upd H2 N' (.lst vn)=H3 at s3 g3 ⊢
   refine ⟨JD,fun r HR=>?_⟩
   have s4:=af HR (.tup [.ref B',.ref I',.ref N'])
   have s34:=aa s3 s4
   exact q r B' I' N' _ (aa s02 s34) ae (s34 _ _ (s2 _ _ g1)) (s34 _ _ g2) (s4 _ _ g3)
theorem sN (s:Src K mg "_law_copy" sCopy)(m_list:mg "list"=none):aF P w K mg base "_law_copy" ["program"] 1 kS:=
 let ⟨f,fd,F,m⟩:=s
 ⟨f,fd,v8 F m_list,F.kp,yh F fun _ _ _ _ _ _ _=>rfl,m⟩
end
end TW
set_option Elab.async false
set_option linter.all false
set_option maxRecDepth 100000
set_option exponentiation.threshold 4000
set_option maxHeartbeats 1000000
namespace TW
open PySem L2
section
variable {P:Program}{w:World}{K:DA}{mg:Str->Option Value}{base:Heap}
/-! ### two step functions walked side by side -/
section
variable {S S':Type}(f:S->Option (List Int×S))(f':S'->Option (List Int×S'))
def bN:Option (List Int×S)->Option (List Int×S')->Str
 | none,none=>"end"
 | none,some ([],_)=>"yours"
 | none,some (_ :: _,_)=>"parted"
 | some ([],_),none=>"mine"
 | some (_ :: _,_),none=>"parted"
 | some ([],_),some ([],_)=>"both"
 | some ([],_),some (_ :: _,_)=>"mine"
 | some (_ :: _,_),some ([],_)=>"yours"
 | some (_ :: _,_),some (_ :: _,_)=>"both"
def aQ (p:S×S'):Str:=bN (f p.1) (f' p.2)
def Ar (p:S×S'):Option (List Int×S)->Option (List Int×S')->Option (List Int×(S×S'))
 | none,none=>none
 | none,some ([],t')=>some ([],(p.1,t'))
 | none,some (_ :: _,_)=>none
 | some ([],t),none=>some ([],(t,p.2))
 | some (_ :: _,_),none=>none
 | some ([],t),some ([],t')=>some ([],(t,t'))
 | some ([],t),some (_ :: _,_)=>some ([],(t,p.2))
 | some (_ :: _,_),some ([],t')=>some ([],(p.1,t'))
 | some (a :: r,t),some (b :: r',t')=>if a :: r=b :: r' then some (a :: r,(t,t')) else none
def g2 (p:S×S'):Option (List Int×(S×S')):=Ar p (f p.1) (f' p.2)
def Am {T:Type}(r:Option (List Int×T)):Prop:=∀t,r≠some ([],t)
variable {f f'}
theorem ed {p q:S×S'}{w:List Int}(h:g2 f f' p=some (w,q)) :
   (∃t t',f p.1=some (w,t)/\f' p.2=some (w,t')/\q=(t,t')/\aQ f f' p="both") \/
   (w=[]/\(∃t,f p.1=some ([],t)/\q=(t,p.2))/\Am (f' p.2)/\aQ f f' p="mine") \/
   (w=[]/\(∃t',f' p.2=some ([],t')/\q=(p.1,t'))/\Am (f p.1)/\aQ f f' p="yours"):=by
 unfold g2 at h
 unfold aQ
 rcases h1:f p.1 with _ | ⟨_ | ⟨a,r⟩,t⟩ <;> rcases h2:f' p.2 with _ | ⟨_ | ⟨b,r'⟩,t'⟩ <;> rw [h1,h2] at h
 · cases h
 · cases h; exact .inr (.inr ⟨rfl,⟨_,rfl,rfl⟩,(fun _ z=>nomatch z),rfl⟩)
 · cases h
 · cases h; exact .inr (.inl ⟨rfl,⟨_,rfl,rfl⟩,(fun _ z=>nomatch z),rfl⟩)
 · cases h; exact .inl ⟨_,_,rfl,rfl,rfl,rfl⟩
 · cases h; exact .inr (.inl ⟨rfl,⟨_,rfl,rfl⟩,(fun _ z=>by cases z),rfl⟩)
 · cases h
 · cases h; exact .inr (.inr ⟨rfl,⟨_,rfl,rfl⟩,(fun _ z=>by cases z),rfl⟩)
 · have h:(if a :: r=b :: r' then some (a :: r,(t,t')) else none)=some (w,q):=h
   by_cases e:a :: r=b :: r'
   · rw [if_pos e] at h
     cases h
     exact .inl ⟨_,_,rfl,by rw [e],rfl,rfl⟩
   · rw [if_neg e] at h
     cases h
theorem oS {p:S×S'}(h:g2 f f' p=none) :
   (f p.1=none/\f' p.2=none/\aQ f f' p="end") \/
   (aQ f f' p="parted"/\((f p.1=none/\∃b r' t',f' p.2=some (b :: r',t'))\/(f' p.2=none/\∃a r t,f p.1=some (a :: r,t)))) \/
   (aQ f f' p="both"/\∃a r t b r' t',f p.1=some (a :: r,t)/\f' p.2=some (b :: r',t')/\a :: r≠b :: r'):=by
 unfold g2 at h
 unfold aQ
 rcases h1:f p.1 with _ | ⟨_ | ⟨a,r⟩,t⟩ <;> rcases h2:f' p.2 with _ | ⟨_ | ⟨b,r'⟩,t'⟩ <;> rw [h1,h2] at h
 · exact .inl ⟨rfl,rfl,rfl⟩
 · cases h
 · exact .inr (.inl ⟨rfl,.inl ⟨rfl,_,_,_,rfl⟩⟩)
 · cases h
 · cases h
 · cases h
 · exact .inr (.inl ⟨rfl,.inr ⟨rfl,_,_,_,rfl⟩⟩)
 · cases h
 · have h:(if a :: r=b :: r' then some (a :: r,(t,t')) else none)=none:=h
   by_cases e:a :: r=b :: r'
   · rw [if_pos e] at h
     cases h
   · exact .inr (.inr ⟨rfl,_,_,_,_,_,_,rfl,rfl,e⟩)
theorem gi {T:Type}{k:T->Option (List Int×T)}{n:Nat}{s u:T}{w:List Int}(h:tr k (n + 1) s=some (u,w)):∃t v x,tr k n s=some (t,v)/\k t=some (x,u)/\w=v++x:=by
 cases e1:tr k n s with
 | none=>rw [gh e1] at h; cases h
 | some y=>
   cases e2:k y.1 with
   | none=>rw [cT (t:=y.1) (sd:=y.2) e1 e2] at h; cases h
   | some r=>
     rw [bf (t:=y.1) (u:=r.2) (x:=r.1) (sd:=y.2) e1 e2] at h
     cases h
     exact ⟨y.1,y.2,r.1,rfl,e2,rfl⟩
/-- so many turns of both are some steps of each -/
theorem nY:∀{k:Nat} {p q:S×S'} {w:List Int},tr (g2 f f') k p=some (q,w)->∃m m',tr f m p.1=some (q.1,w)/\tr f' m' p.2=some (q.2,w)/\((∃a r v,a < k/\tr (g2 f f') a p=some (r,v)/\aQ f f' r="both")->1<=m/\1<=m')
 | 0,p,q,w,h=>by
   cases h
   exact ⟨0,0,rfl,rfl,fun ⟨a,_,_,z,_⟩=>absurd z (Nat.not_lt_zero a)⟩
 | k + 1,p,q,w,h=>by
   obtain ⟨r,v,x,h1,h2,rfl⟩:=gi h
   obtain ⟨m,m',a1,a2,a3⟩:=nY h1
   have back:(∃a r v,a < k + 1/\tr (g2 f f') a p=some (r,v)/\aQ f f' r="both")->aQ f f' r="both"\/(1<=m/\1<=m'):=fun ⟨a,r2,v2,z1,z2,z3⟩=>by
     by_cases e:a=k
     · subst e
       rw [h1] at z2
       cases z2
       exact .inl z3
     · exact .inr (a3 ⟨a,r2,v2,by omega,z2,z3⟩)
   rcases ed h2 with ⟨t,t',b1,b2,rfl,hw⟩ | ⟨rfl,⟨t,b1,rfl⟩,_,hw⟩ | ⟨rfl,⟨t',b2,rfl⟩,_,hw⟩
   · exact ⟨m + 1,m' + 1,bf a1 b1,bf a2 b2,fun _=>⟨by omega,by omega⟩⟩
   · refine ⟨m + 1,m',bf a1 b1,by rw [Es]; exact a2,fun z=>?_⟩
     rcases back z with z | z
     · rw [hw] at z
       exact absurd z (by decide)
     · exact ⟨by omega,z.2⟩
   · refine ⟨m,m' + 1,by rw [Es]; exact a1,bf a2 b2,fun z=>?_⟩
     rcases back z with z | z
     · rw [hw] at z
       exact absurd z (by decide)
     · exact ⟨z.1,by omega⟩
/-- a run that comes round in m steps -/
theorem iD {s t:S}{sd:List Int}{rd:Option (List Int)}{n M m:Nat}{w v:List Int}(rt:aO f s (sd,rd,n))(h1:tr f M s=some (t,w))(h2:tr f m t=some (t,v))(hm:1<=m):rd.isNone=false/\∀i,aE sd rd i=aE w (some v) i:=by
 have h3:tr f (M + m) s=some (t,w++v):=by rw [cW h1,h2]; rfl
 have rd1:=jB (f:=f) (j:=M) (i:=M + m) (by omega) h1 h3
 rw [show M + m - M=m by omega] at rd1
 refine ⟨?_,fun i=>?_⟩
 · cases rd with
   | some _=>rfl
   | none=>
     rcases rt with ⟨n',t',sd',a1,a2,e⟩ | ⟨_,_,_,_,_,_,_,_,_,e⟩
     · obtain ⟨z,hz⟩:=pS (show M < M + m by omega) h1 h3 (n' + 1)
       rw [cT a1 a2] at hz
       cases hz
     · cases e
 · by_cases hi:i < (w++rep (i + 1) v).length
   · rw [rt.word (rd1 (i + 1)) hi,jC hi]
   · rw [DE,dB] at hi
     have v0:v.length=0:=by
       by_cases z:v.length=0
       · exact z
       · have:(i + 1) * 1<=(i + 1) * v.length:=Fl _ (by omega)
         omega
     rw [bp (sd:=w) (rd:=some v) v0 (by omega)]
     cases e:aE sd rd i with
     | none=>rfl
     | some y=>
       obtain ⟨m2,t2,w2,h4,h5⟩:=rt.long (i:=i) (by rw [e]; rfl)
       have hle:m2<=M + m2 * m:=by
         have:m2 * 1<=m2 * m:=Fl m2 hm
         omega
       obtain ⟨y2,hy2,rest,hr⟩:=dH (rd1 m2) hle
       rw [h4] at hy2
       cases hy2
       have hr':w++rep m2 v=w2++rest:=hr
       have:=congrArg E8 hr'
       rw [DE,DE,dB,v0] at this
       omega
/-- a round without a turn of both: one of them waits -/
theorem j6 {k:Nat}{p:S×S'}(st:Am (f' p.2))(nb:∀a r v,a < k->tr (g2 f f') a p=some (r,v)->aQ f f' r≠"both"){q:S×S'}{w:List Int}(h:tr (g2 f f') k p=some (q,w)):∀a,a<=k->∃u,tr (g2 f f') a p=some ((u,p.2),[])/\tr f a p.1=some (u,[])
 | 0,_=>⟨p.1,rfl,rfl⟩
 | a + 1,ha=>by
   obtain ⟨u,h1,h2⟩:=j6 st nb h a (by omega)
   obtain ⟨y,hy,_⟩:=dH h ha
   obtain ⟨t,v,x,e1,e2,e3⟩:=gi (u:=y.1) (w:=y.2) hy
   rw [h1] at e1
   cases e1
   rcases ed e2 with ⟨_,_,_,_,_,hw⟩ | ⟨rfl,⟨t,b1,eq⟩,_,_⟩ | ⟨_,⟨t',b2,_⟩,_,_⟩
   · exact absurd hw (nb a _ _ (by omega) h1)
   · refine ⟨t,?_,bf h2 b1⟩
     rw [hy]
     obtain ⟨y1,y2⟩:=y
     rw [show y1=(t,p.2) from eq,show y2=[] from e3]
   · exact absurd b2 (st t')
theorem jf {k:Nat}{p:S×S'}(st:Am (f p.1))(nb:∀a r v,a < k->tr (g2 f f') a p=some (r,v)->aQ f f' r≠"both"){q:S×S'}{w:List Int}(h:tr (g2 f f') k p=some (q,w)):∀a,a<=k->∃u,tr (g2 f f') a p=some ((p.1,u),[])/\tr f' a p.2=some (u,[])
 | 0,_=>⟨p.2,rfl,rfl⟩
 | a + 1,ha=>by
   obtain ⟨u,h1,h2⟩:=jf st nb h a (by omega)
   obtain ⟨y,hy,_⟩:=dH h ha
   obtain ⟨t,v,x,e1,e2,e3⟩:=gi (u:=y.1) (w:=y.2) hy
   rw [h1] at e1
   cases e1
   rcases ed e2 with ⟨_,_,_,_,_,hw⟩ | ⟨_,⟨t,b1,_⟩,_,_⟩ | ⟨rfl,⟨t',b2,eq⟩,_,_⟩
   · exact absurd hw (nb a _ _ (by omega) h1)
   · exact absurd b1 (st t)
   · refine ⟨t',?_,bf h2 b2⟩
     rw [hy]
     obtain ⟨y1,y2⟩:=y
     rw [show y1=(p.1,t') from eq,show y2=[] from e3]
variable {s:S}{s':S'}{sd sd':List Int}{rd rd':Option (List Int)}{n n':Nat}
theorem mQ {w:List Int}(h1:∀i,i < w.length->aE sd rd i=w[i]?)(h2:∀i,i < w.length->aE sd' rd' i=w[i]?)(h:¬ (aE sd rd w.length=aE sd' rd' w.length/\(aE sd rd w.length).isSome=true)):bR sd rd sd' rd' w.length:=
 ⟨fun i hi=>⟨by rw [h1 i hi,h2 i hi],by rw [h1 i hi,DH hi]; rfl⟩,h⟩
/-- where the walk ends -/
theorem mG (one1:∀t x u,f t=some (x,u)->x.length<=1)(one2:∀t x u,f' t=some (x,u)->x.length<=1)(rt:aO f s (sd,rd,n))(rt':aO f' s' (sd',rd',n')){k:Nat}{q:S×S'}{w:List Int}(h:tr (g2 f f') k (s,s')=some (q,w))(hn:g2 f f' q=none) :
   (aQ f f' q="end"/\bL sd rd sd' rd')\/((aQ f f' q="parted"\/aQ f f' q="both")/\¬ bL sd rd sd' rd'/\bR sd rd sd' rd' w.length):=by
 obtain ⟨m,m',a1,a2,_⟩:=nY h
 have w1:∀i,i < w.length->aE sd rd i=w[i]?:=fun i hi=>rt.word a1 hi
 have w2:∀i,i < w.length->aE sd' rd' i=w[i]?:=fun i hi=>rt'.word a2 hi
 have fin1:f q.1=none->aE sd rd w.length=none:=fun e=>by
   obtain ⟨rfl,rfl⟩:=rt.fin a1 e
   exact bp rfl (DJ _)
 have fin2:f' q.2=none->aE sd' rd' w.length=none:=fun e=>by
   obtain ⟨rfl,rfl⟩:=rt'.fin a2 e
   exact bp rfl (DJ _)
 have say1:∀{a r t},f q.1=some (a :: r,t)->aE sd rd w.length=some a:=fun {a r t} e=>by
   rw [rt.word (bf a1 e) (by rw [DE,D6]; omega),DW (DJ _),EW]
   rfl
 have say2:∀{a r t},f' q.2=some (a :: r,t)->aE sd' rd' w.length=some a:=fun {a r t} e=>by
   rw [rt'.word (bf a2 e) (by rw [DE,D6]; omega),DW (DJ _),EW]
   rfl
 have part:∀{x y:Option Int},aE sd rd w.length=x->aE sd' rd' w.length=y->x≠y->¬ bL sd rd sd' rd'/\bR sd rd sd' rd' w.length:=fun {x y} e1 e2 ne=>
   ⟨fun z=>ne (by rw [← e1,← e2,z.1]),mQ w1 w2 fun z=>ne (by rw [← e1,← e2,z.1])⟩
 rcases oS hn with ⟨e1,e2,hw⟩ | ⟨hw,⟨e1,b,r',t',e2⟩ | ⟨e2,a,r,t,e1⟩⟩ | ⟨hw,a,r,t,b,r',t',e1,e2,ne⟩
 · obtain ⟨rfl,rfl⟩:=rt.fin a1 e1
   obtain ⟨rfl,rfl⟩:=rt'.fin a2 e2
   exact .inl ⟨hw,fun _=>rfl,rfl⟩
 · exact .inr ⟨.inl hw,part (fin1 e1) (say2 e2) (fun z=>nomatch z)⟩
 · exact .inr ⟨.inl hw,part (say1 e1) (fin2 e2) (fun z=>nomatch z)⟩
 · refine .inr ⟨.inr hw,part (say1 e1) (say2 e2) fun z=>ne ?_⟩
   have l1:=one1 _ _ _ e1
   have l2:=one2 _ _ _ e2
   cases r with
   | cons _ _=>simp at l1
   | nil=>
     cases r' with
     | cons _ _=>simp at l2
     | nil=>cases z; rfl
theorem rB (rt:aO f s (sd,rd,n))(rt':aO f' s' (sd',rd',n')){j k:Nat}{q r:S×S'}{w w2 v:List Int}{a:Nat}(h:tr (g2 f f') j (s,s')=some (q,w))(h2:tr (g2 f f') k (s,s')=some (q,w2))(ja:j<=a)(ak:a < k)(ha:tr (g2 f f') a (s,s')=some (r,v))(hw:aQ f f' r="both"):bL sd rd sd' rd':=by
 have e1:=cW h (k - j)
 rw [show j + (k - j)=k by omega,h2] at e1
 have e2:=cW h (a - j)
 rw [show j + (a - j)=a by omega,ha] at e2
 cases z1:tr (g2 f f') (k - j) q with
 | none=>rw [z1] at e1; cases e1
 | some y=>
   obtain ⟨q',x⟩:=y
   rw [z1] at e1
   cases e1
   cases z2:tr (g2 f f') (a - j) q' with
   | none=>rw [z2] at e2; cases e2
   | some y=>
     obtain ⟨r',x2⟩:=y
     rw [z2] at e2
     cases e2
     obtain ⟨M,M',a1,a2,_⟩:=nY h
     obtain ⟨m,m',b1,b2,b3⟩:=nY z1
     obtain ⟨m1,m1'⟩:=b3 ⟨a - j,r',x2,by omega,z2,hw⟩
     obtain ⟨n1,p1⟩:=iD rt a1 b1 m1
     obtain ⟨n2,p2⟩:=iD rt' a2 b2 m1'
     exact ⟨fun i=>by rw [p1,p2],by rw [n1,n2]⟩
theorem rC (rt:aO f s (sd,rd,n))(rt':aO f' s' (sd',rd',n')){j k:Nat}{q:S×S'}{w w2:List Int}(jk:j < k)(h:tr (g2 f f') j (s,s')=some (q,w))(h2:tr (g2 f f') k (s,s')=some (q,w2))(nb:∀a r v,j<=a->a < k->tr (g2 f f') a (s,s')=some (r,v)->aQ f f' r≠"both"):¬ bL sd rd sd' rd'/\bR sd rd sd' rd' w2.length:=by
 have e1:=cW h (k - j)
 rw [show j + (k - j)=k by omega,h2] at e1
 cases z1:tr (g2 f f') (k - j) q with
 | none=>rw [z1] at e1; cases e1
 | some y=>
   obtain ⟨q',x⟩:=y
   rw [z1] at e1
   cases e1
   have nb':∀a r v,a < k - j->tr (g2 f f') a q'=some (r,v)->aQ f f' r≠"both":=fun a r v ha e=>nb (j + a) r (w++v) (by omega) (by omega) (by rw [cW h,e]; rfl)
   obtain ⟨M,M',a1,a2,_⟩:=nY h
   have w1:∀i,i < w.length->aE sd rd i=w[i]?:=fun i hi=>rt.word a1 hi
   have w2:∀i,i < w.length->aE sd' rd' i=w[i]?:=fun i hi=>rt'.word a2 hi
   obtain ⟨y,hy,_⟩:=dH z1 (show 1<=k - j by omega)
   obtain ⟨t,v,x1,f1,f2,_⟩:=gi (n:=0) (u:=y.1) (w:=y.2) hy
   cases f1
   have hs:∀{T:Type} {r:Option (List Int×T)},Am r->r=none\/∃b l t',r=some (b :: l,t'):=fun {T} {r} st=>by
     rcases r with _ | ⟨_ | ⟨b,l⟩,t'⟩
     · exact .inl rfl
     · exact absurd rfl (st t')
     · exact .inr ⟨b,l,t',rfl⟩
   rcases ed f2 with ⟨_,_,_,_,_,hw⟩ | ⟨_,_,st,_⟩ | ⟨_,_,st,_⟩
   · exact absurd hw (nb' 0 _ _ (by omega) rfl)
   · obtain ⟨u,c1,c2⟩:=j6 st nb' z1 (k - j) (DJ _)
     rw [z1] at c1
     injection c1 with c1
     injection c1 with c0 c1
     rw [show u=q'.1 from (congrArg Prod.fst c0).symm] at c2
     subst c1
     rw [Es]
     obtain ⟨n1,p1⟩:=iD (v:=[]) rt a1 c2 (by omega)
     have z0:aE sd rd w.length=none:=by rw [p1]; exact bp rfl (DJ _)
     have no:¬ (aE sd rd w.length=aE sd' rd' w.length/\(aE sd rd w.length).isSome=true):=fun z=>by rw [z0] at z; exact absurd z.2 (by decide)
     refine ⟨fun z=>?_,mQ w1 w2 no⟩
     rcases hs st with e | ⟨b,l,t',e⟩
     · obtain ⟨rfl,_⟩:=rt'.fin a2 e
       rw [z.2] at n1
       cases n1
     · have y1:aE sd' rd' w.length=some b:=by
         rw [rt'.word (bf a2 e) (by rw [DE,D6]; omega),DW (DJ _),EW]
         rfl
       have:=z.1 w.length
       rw [z0,y1] at this
       cases this
   · obtain ⟨u,c1,c2⟩:=jf st nb' z1 (k - j) (DJ _)
     rw [z1] at c1
     injection c1 with c1
     injection c1 with c0 c1
     rw [show u=q'.2 from (congrArg Prod.snd c0).symm] at c2
     subst c1
     rw [Es]
     obtain ⟨n1,p1⟩:=iD (v:=[]) rt' a2 c2 (by omega)
     have z0:aE sd' rd' w.length=none:=by rw [p1]; exact bp rfl (DJ _)
     have no:¬ (aE sd rd w.length=aE sd' rd' w.length/\(aE sd rd w.length).isSome=true):=fun z=>by rw [z.1,z0] at z; exact absurd z.2 (by decide)
     refine ⟨fun z=>?_,mQ w1 w2 no⟩
     rcases hs st with e | ⟨b,l,t',e⟩
     · obtain ⟨rfl,_⟩:=rt.fin a1 e
       rw [← z.2] at n1
       cases n1
     · have y1:aE sd rd w.length=some b:=by
         rw [rt.word (bf a1 e) (by rw [DE,D6]; omega),DW (DJ _),EW]
         rfl
       have:=z.1 w.length
       rw [z0,y1] at this
       cases this
end
end
end TW
set_option Elab.async false
set_option linter.all false
set_option maxRecDepth 100000
set_option exponentiation.threshold 4000
set_option maxHeartbeats 1000000
namespace TW
open PySem L2
section
variable {P:Program}{w:World}{K:DA}{mg:Str->Option Value}{base:Heap}
abbrev sWho:Stmt:=top 43
abbrev sBeh:Stmt:=top 44
/-! ### _law_who -/
def Nd.kn:Nd->Str
 | .put _ _ _=>"put" | .say _ _=>"say" | .test _ _ _=>"test" | .fin=>"end"
def Nd.sp:Nd->Bool
 | .put _ _ _=>false | .say _ _=>true | .test _ _ _=>false | .fin=>true
theorem aZ.kn {H:Hp}:∀{e:Nd} {v:V},aZ H v e->∃(p:Addr) (r:List V),v=.ref p/\H p=some (.tup (V.str e.kn :: r))
 | .put _ _ _,_,⟨_,⟨p,e,h⟩,_⟩=>⟨p,_,e,h⟩
 | .say _ _,_,⟨_,⟨p,e,h⟩,_⟩=>⟨p,_,e,h⟩
 | .test _ _ _,_,⟨_,⟨p,e,h⟩,_⟩=>⟨p,_,e,h⟩
 | .fin,_,⟨p,e,h⟩=>⟨p,[],e,h⟩
theorem Nd.sp_in:∀e:Nd,(if false=true then !jE (.str e.kn) [.str "say",.str "end"] else jE (.str e.kn) [.str "say",.str "end"])=e.sp
 | .put _ _ _=>(by decide:(if false=true then !jE (.str "put") [.str "say",.str "end"] else jE (.str "put") [.str "say",.str "end"])=false)
 | .say _ _=>(by decide:(if false=true then !jE (.str "say") [.str "say",.str "end"] else jE (.str "say") [.str "say",.str "end"])=true)
 | .test _ _ _=>(by decide:(if false=true then !jE (.str "test") [.str "say",.str "end"] else jE (.str "test") [.str "say",.str "end"])=false)
 | .fin=>(by decide:(if false=true then !jE (.str "end") [.str "say",.str "end"] else jE (.str "end") [.str "say",.str "end"])=true)
def k6 (e1 e2:Nd):Str:=if (e1.sp && e2.sp)=true then (if decide (V.str e1.kn=V.str e2.kn)=true then (if decide (V.str e1.kn=.str "say")=true then "both" else "end") else "parted") else (if e2.sp=true then "mine" else if e1.sp=true then "yours" else "both")
theorem zS {b1 b2:List (Str×Int)}{ws us:List Int}:∀e1 e2:Nd,bN (b8 b1 ws e1) (b8 b2 us e2)=k6 e1 e2:=by
 intro e1 e2
 cases e1 <;> cases e2 <;> rfl
def mB:Sp:=fun vs H Q _=>∃(v1 v2:V) (p q:Int) (b1 b2:List (Str×Int)) (ins:List Str) (n1 n2:List Nd) (e1 e2:Nd),vs=[v1,v2,.int p,.int q]/\aI H v1 b1 ins n1/\aI H v2 b2 ins n2/\0<=p/\0<=q/\n1[p.toNat]? = some e1/\n2[q.toNat]? = some e2/\∀H',ah H H'->Q (.str (k6 e1 e2)) H'
theorem kI {H:Hp}{vn:List V}{n:List Nd}{p:Int}{e:Nd}(pn:Paired (aZ H) vn n)(h0:0<=p)(h:n[p.toNat]? = some e):∃x,eR vn p=some x/\aZ H x e:=by
 have hl:=Paired.length pn
 have hil:=(List.getElem?_eq_some_iff.mp h).1
 obtain ⟨x,hx⟩ : ∃x,vn[p.toNat]? = some x:=⟨_,DH (by omega)⟩
 have:=d9 hx
 rw [E3 h0] at this
 exact ⟨x,this,Paired.get2 pn hx h⟩
theorem xF:au ["one","other","p","q","here","there"] ["one","other","p","q"] (ag sWho):=⟨rfl,rfl,rfl,by decide +kernel,rfl,by decide +kernel,by decide +kernel⟩
theorem fG:(ag sWho).names.lookup (DD "int")=some .globalImplicit:=by decide +kernel
theorem yQ {f:Addr}{fd:FuncData}(F:cB K "_law_who" "_law_who" sWho f fd)(m_int:mg "int"=none):aL P w K mg base CX0 1 f fd ["one","other","p","q"] mB:=by
 refine F.ok xF (fun vs H Q E h=>?_) (fun cdv A outer s H vs Q E hr h=>?_)
 · obtain ⟨v1,v2,p,q,b1,b2,ins,n1,n2,e1,e2,rfl,_⟩:=h
   rfl
 · obtain ⟨v1,v2,p,q,b1,b2,ins,n1,n2,e1,e2,rfl,⟨pa,B,I,N,vb,vn,rfl,hp,hB,hI,hN,pb,pn⟩,⟨pa',B',I',N',vb',vn',rfl,hp',hB',hI',hN',pb',pn'⟩,p0,q0,he1,he2,k⟩:=h
   refine fI ⟨_,(G3 (L3.y7 4 5 xF.nd (GZ (G2 G5 (G2 Hm (G2 G5 (GY 0) G1) (GY 2)) G1) (GZ (G2 G5 (G2 Hm (G2 G5 (GY 1) G1) (GY 3)) G1) G0)))
     (G3 (Hn (HM (Ig (Hk Iq (GY 4) (G8 (GZ G7 (GZ G7 G0))) (by rfl)) (Ih (Hk Iq (GY 5) (G8 (GZ G7 (GZ G7 G0))) (by rfl))))) (G6 (Hi (G2 Hm (Hy (GZ G7 (GZ (G2 Hm (Hy (GZ G7 (GZ G7 G0))) (HI Ib fG m_int (by decide +kernel) (GZ (HK Hw (GY 4) G7) G0))) G0))) (HI Ib fG m_int (by decide +kernel) (GZ (HK Hw (GY 4) (GY 5)) G0))))) Ho)
     (G6 (Hi (G2 Hm (Hy (GZ G7 (GZ G7 (GZ G7 G0)))) (G4 HF (HI Ib fG m_int (by decide +kernel) (GZ (HK Iq (GY 4) (G8 (GZ G7 (GZ G7 G0))) (by rfl)) G0)) (G4 Ie G1 (HI Ib fG m_int (by decide +kernel) (GZ (HK Iq (GY 5) (G8 (GZ G7 (GZ G7 G0))) (by rfl)) G0))))))))),?_⟩
   obtain ⟨x1,at1,x1n⟩:=kI pn p0 he1
   obtain ⟨x2,at2,x2n⟩:=kI pn' q0 he2
   obtain ⟨y1,r1,rfl,g1⟩:=x1n.kn
   obtain ⟨y2,r2,rfl,g2⟩:=x2n.kn
   refine a8 fun Rk kR=>?_
   refine ⟨_,rfl,pa,_,_,_,rfl,rfl,aq.of hp,rfl,_,rfl,N,_,_,_,rfl,rfl,ao.of hN,at1,y1,_,_,_,rfl,rfl,aq.of g1,ye,_,rfl,pa',_,_,_,rfl,rfl,aq.of hp',rfl,_,rfl,N',_,_,_,rfl,rfl,ao.of hN',at2,y2,_,_,_,rfl,rfl,aq.of g2,ye,_,_,rfl,?_⟩
   refine kR _ _ ?_
   refine bP [some (.ref pa),some (.ref pa'),some (.int p),some (.int q),some (.str e1.kn),some (.str e2.kn)] rfl ?_
   clear kR
   refine a8 fun Rk kR=>?_
   have els:∀H3,ah H H3->(e1.sp && e2.sp)=false->Rk [some (.ref pa),some (.ref pa'),some (.int p),some (.int q),some (.str e1.kn),some (.str e2.kn)] H3:=fun H3 s3 nn=>by
     refine kR _ _ ?_
     refine ⟨JD,fun l1 hl1=>?_⟩
     have s4:ah H3 (upd H3 l1 (.lst [.str "both",.str "yours",.str "mine"])):=af hl1 _
     have g4:(upd H3 l1 (.lst [.str "both",.str "yours",.str "mine"])) l1=some (.lst [.str "both",.str "yours",.str "mine"]):=ae
     generalize upd H3 l1 (.lst [.str "both",.str "yours",.str "mine"])=H4 at s4 g4 ⊢
     refine ⟨_,rfl,JC,fun t1 ht1=>?_⟩
     have s5:ah H4 (upd H4 t1 (.tup [.str "say",.str "end"])):=af ht1 _
     have g5:(upd H4 t1 (.tup [.str "say",.str "end"])) t1=some (.tup [.str "say",.str "end"]):=ae
     generalize upd H4 t1 (.tup [.str "say",.str "end"])=H5 at s5 g5 ⊢
     refine ⟨t1,_,rfl,.inr (aq.of g5),rfl,rfl,.inr ⟨_,rfl,?_⟩⟩
     rw [Nd.sp_in]
     refine ⟨_,rfl,JC,fun t2 ht2=>?_⟩
     have s6:ah H5 (upd H5 t2 (.tup [.str "say",.str "end"])):=af ht2 _
     have g6:(upd H5 t2 (.tup [.str "say",.str "end"])) t2=some (.tup [.str "say",.str "end"]):=ae
     generalize upd H5 t2 (.tup [.str "say",.str "end"])=H6 at s6 g6 ⊢
     refine ⟨t2,_,rfl,.inr (aq.of g6),rfl,rfl,.inr ⟨_,rfl,?_⟩⟩
     rw [Nd.sp_in]
     have hat:eR ([.str "both",.str "yours",.str "mine"]:List V) ((if e1.sp=true then 1 else 0) + 2 * (if e2.sp=true then 1 else 0))=some (.str (k6 e1 e2)):=by
       have ew:k6 e1 e2=(if e2.sp=true then ("mine":Str) else if e1.sp=true then ("yours":Str) else ("both":Str)):=by
         unfold k6
         rw [if_neg (by rw [nn]; decide)]
       rw [ew]
       cases z1:e1.sp <;> cases z2:e2.sp
       · rfl
       · rfl
       · rfl
       · rw [z1,z2] at nn; cases nn
     refine ⟨_,_,rfl,rfl,.inr ⟨by split <;> decide,by split <;> decide⟩,_,_,rfl,rfl,l1,_,_,_,rfl,rfl,ao.of (s6 _ _ (s5 _ _ g4)),hat,?_⟩
     exact k _ (aa s3 (aa s4 (aa s5 s6)))
   refine ⟨_,rfl,JC,fun t1 ht1=>?_⟩
   have s1:ah H (upd H t1 (.tup [.str "say",.str "end"])):=af ht1 _
   have g1x:(upd H t1 (.tup [.str "say",.str "end"])) t1=some (.tup [.str "say",.str "end"]):=ae
   generalize upd H t1 (.tup [.str "say",.str "end"])=H1 at s1 g1x ⊢
   refine ⟨t1,_,rfl,.inr (aq.of g1x),rfl,rfl,_,rfl,?_⟩
   rw [Nd.sp_in]
   refine az (fun c1=>?_) (fun c1=>fK (els _ s1 (by cases z:e1.sp <;> simp_all)))
   refine ⟨_,rfl,JC,fun t2 ht2=>?_⟩
   have s2:ah H1 (upd H1 t2 (.tup [.str "say",.str "end"])):=af ht2 _
   have g2x:(upd H1 t2 (.tup [.str "say",.str "end"])) t2=some (.tup [.str "say",.str "end"]):=ae
   generalize upd H1 t2 (.tup [.str "say",.str "end"])=H2 at s2 g2x ⊢
   refine ⟨t2,_,rfl,.inr (aq.of g2x),rfl,rfl,_,rfl,?_⟩
   rw [Nd.sp_in]
   have s02:=aa s1 s2
   refine az (fun c2=>?_) (fun c2=>els _ s02 (by cases z:e2.sp <;> simp_all))
   refine ⟨JC,fun l1 hl1=>?_⟩
   have s3:ah H2 (upd H2 l1 (.lst [.str "end",.str "both"])):=af hl1 _
   have g3:(upd H2 l1 (.lst [.str "end",.str "both"])) l1=some (.lst [.str "end",.str "both"]):=ae
   generalize upd H2 l1 (.lst [.str "end",.str "both"])=H3 at s3 g3 ⊢
   have hat1:eR ([.str "end",.str "both"]:List V) (if decide (V.str e1.kn=.str "say")=true then 1 else 0)=some (.str (if decide (V.str e1.kn=.str "say")=true then "both" else "end")):=by split <;> rfl
   refine ⟨_,rfl,rfl,.inr ⟨_,rfl,l1,_,_,_,rfl,rfl,ao.of g3,hat1,?_⟩⟩
   refine ⟨JC,fun l2 hl2=>?_⟩
   have s4:ah H3 (upd H3 l2 (.lst [.str "parted",.str (if decide (V.str e1.kn=.str "say")=true then "both" else "end")])):=af hl2 _
   have g4:(upd H3 l2 (.lst [.str "parted",.str (if decide (V.str e1.kn=.str "say")=true then "both" else "end")])) l2=some (.lst [.str "parted",.str (if decide (V.str e1.kn=.str "say")=true then "both" else "end")]):=ae
   generalize upd H3 l2 (.lst [.str "parted",.str (if decide (V.str e1.kn=.str "say")=true then "both" else "end")])=H4 at s4 g4 ⊢
   have hat2:eR ([.str "parted",.str (if decide (V.str e1.kn=.str "say")=true then "both" else "end")]:List V) (if decide (V.str e1.kn=V.str e2.kn)=true then 1 else 0)=some (.str (k6 e1 e2)):=by
     have ew:k6 e1 e2=(if decide (V.str e1.kn=V.str e2.kn)=true then (if decide (V.str e1.kn=.str "say")=true then ("both":Str) else ("end":Str)) else ("parted":Str)):=by
       unfold k6
       rw [if_pos (by rw [c1,c2]; rfl)]
     rw [ew]
     by_cases z:decide (V.str e1.kn=V.str e2.kn)=true
     · rw [if_pos z,if_pos z]; rfl
     · rw [if_neg z,if_neg z]; rfl
   refine ⟨_,rfl,_,rfl,rfl,.inr ⟨_,rfl,l2,_,_,_,rfl,rfl,ao.of g4,hat2,?_⟩⟩
   exact k _ (aa s02 (aa s3 s4))
theorem vL (s:Src K mg "_law_who" sWho)(m_int:mg "int"=none):aF P w K mg base "_law_who" ["one","other","p","q"] 1 mB:=
 let ⟨f,fd,F,m⟩:=s
 ⟨f,fd,yQ F m_int,F.kp,vk F fun _ _ _ _ _ _ _ _ _ _=>rfl,m⟩
/-! ### _law_behind -/
section
variable {S S':Type}{r:Option (List Int×S)}{r':Option (List Int×S')}{p:S×S'}{x1 x2:List Int}{t:S}{t':S'}
theorem vh (ne1:bN r r'≠"end")(ne2:bN r r'≠"parted")(c1:(bN r r'≠"yours"/\r=some (x1,t))\/(bN r r'="yours"/\x1=[]/\t=p.1))(c2:(bN r r'≠"mine"/\r'=some (x2,t'))\/(bN r r'="mine"/\x2=[]/\t'=p.2)):(x1=x2->Ar p r r'=some (x1,(t,t')))/\(x1≠x2->Ar p r r'=none):=by
 have d1:¬ (("both":Str)="yours"):=by decide
 have d2:¬ (("both":Str)="mine"):=by decide
 have d3:¬ (("mine":Str)="yours"):=by decide
 have d4:¬ (("yours":Str)="mine"):=by decide
 rcases r with _ | ⟨_ | ⟨a,l⟩,u⟩ <;> rcases r' with _ | ⟨_ | ⟨b,l'⟩,u'⟩
 · exact absurd rfl ne1
 · rcases c1 with ⟨z,_⟩ | ⟨_,rfl,rfl⟩
   · exact absurd rfl z
   · rcases c2 with ⟨_,z⟩ | ⟨z,_⟩
     · cases z; exact ⟨fun _=>rfl,fun z=>absurd rfl z⟩
     · exact absurd z d4
 · exact absurd rfl ne2
 · rcases c2 with ⟨z,_⟩ | ⟨_,rfl,rfl⟩
   · exact absurd rfl z
   · rcases c1 with ⟨_,z⟩ | ⟨z,_⟩
     · cases z; exact ⟨fun _=>rfl,fun z=>absurd rfl z⟩
     · exact absurd z d3
 · rcases c1 with ⟨_,z⟩ | ⟨z,_⟩
   · cases z
     rcases c2 with ⟨_,z⟩ | ⟨z,_⟩
     · cases z; exact ⟨fun _=>rfl,fun z=>absurd rfl z⟩
     · exact absurd z d2
   · exact absurd z d1
 · rcases c2 with ⟨z,_⟩ | ⟨_,rfl,rfl⟩
   · exact absurd rfl z
   · rcases c1 with ⟨_,z⟩ | ⟨z,_⟩
     · cases z; exact ⟨fun _=>rfl,fun z=>absurd rfl z⟩
     · exact absurd z d3
 · exact absurd rfl ne2
 · rcases c1 with ⟨z,_⟩ | ⟨_,rfl,rfl⟩
   · exact absurd rfl z
   · rcases c2 with ⟨_,z⟩ | ⟨z,_⟩
     · cases z; exact ⟨fun _=>rfl,fun z=>absurd rfl z⟩
     · exact absurd z d4
 · rcases c1 with ⟨_,z⟩ | ⟨z,_⟩
   · cases z
     rcases c2 with ⟨_,z⟩ | ⟨z,_⟩
     · cases z
       exact ⟨fun e=>if_pos e,fun e=>if_neg e⟩
     · exact absurd z d2
   · exact absurd z d1
theorem Bo (ne1:bN r r'≠"end")(ne2:bN r r'≠"parted")(h:bN r r'≠"yours"):∃z,r=some z:=by
 rcases r with _ | z
 · rcases r' with _ | ⟨_ | ⟨b,l'⟩,u'⟩
   · exact absurd rfl ne1
   · exact absurd rfl h
   · exact absurd rfl ne2
 · exact ⟨z,rfl⟩
theorem Bp (ne1:bN r r'≠"end")(ne2:bN r r'≠"parted")(h:bN r r'≠"mine"):∃z,r'=some z:=by
 rcases r' with _ | z
 · rcases r with _ | ⟨_ | ⟨b,l'⟩,u'⟩
   · exact absurd rfl ne1
   · exact absurd rfl h
   · exact absurd rfl ne2
 · exact ⟨z,rfl⟩
end
theorem vO {x:List Int}{a b:Addr}:HO.lst (x.map V.int)≠HO.lst [.ref a,.ref b]:=fun z=>by
 injection z with z
 cases x with
 | nil=>cases z
 | cons y x=>injection z with z _; cases z
structure oC (H:Hp)(a:Addr)(p:(Int×List Int)×(Int×List Int)):Prop where
 ex:∃wa ua,H a=some (.tup [.int p.1.1,.int p.2.1,.ref wa,.ref ua])/\H wa=some (.tup (p.1.2.map V.int))/\H ua=some (.tup (p.2.2.map V.int))
theorem oC.same {H H':Hp}{a:Addr}{p:(Int×List Int)×(Int×List Int)}(h:oC H a p)(s:ah H H'):oC H' a p:=let ⟨wa,ua,x,y,z⟩:=h.ex; ⟨wa,ua,s _ _ x,s _ _ y,s _ _ z⟩
/-- a program as the walk needs it -/
structure BU (H:Hp)(v:V)(bs:List (Str×Int))(ins:List Str)(nds:List Nd):Prop where
 pg:jG H v bs ins nds
theorem BU.lpre {H:Hp}{v:V}{bs:List (Str×Int)}{ins:List Str}{nds:List Nd}{wa:Addr}{ws:List Int}{pl:Int}{nd:Nd}(h:jG H v bs ins nds)(hw:H wa=some (.tup (ws.map V.int)))(st:fq bs nds.length (pl,ws))(hn:nds[pl.toNat]? = some nd):vd H v wa bs ws ins nds pl nd nds.length:=
 ⟨h.pa,h.ft.nd,h.ft.len,h.ft.sz,hw,by have:=Paired.length st.2.2; rw [DC] at this; exact this,st.1,hn,h.gd nd (DR hn)⟩
def pL:Sp:=fun vs H Q _=>∃(v1 v2:V) (a:Addr) (b1 b2:List (Str×Int)) (ins:List Str) (n1 n2:List Nd) (p:(Int×List Int)×(Int×List Int)),vs=[v1,v2,.str (aQ (aG b1 n1) (aG b2 n2) p),.ref a]/\jG H v1 b1 ins n1/\jG H v2 b2 ins n2/\fq b1 n1.length p.1/\fq b2 n2.length p.2/\oC H a p/\aQ (aG b1 n1) (aG b2 n2) p≠"end"/\aQ (aG b1 n1) (aG b2 n2) p≠"parted" /\
 (g2 (aG b1 n1) (aG b2 n2) p=none->∀H',ah H H'->Q .aU H')/\(∀w q,g2 (aG b1 n1) (aG b2 n2) p=some (w,q)->∀r H',ah H H'->oC H' r q->Q (.ref r) H')
theorem fZ {bs:List (Str×Int)}{nds:List Nd}{st:Int×List Int}(h:fq bs nds.length st):∃nd,nds[st.1.toNat]? = some nd:=⟨nds[st.1.toNat]'(by have:=h.1; have:=h.2.1; omega),DH _⟩
theorem eO:au ["one","other","who","pairing","p","q","mine","yours","said"] ["one","other","who","pairing"] (ag sBeh):=⟨rfl,rfl,rfl,by decide +kernel,rfl,by decide +kernel,by decide +kernel⟩
theorem eI:(ag sBeh).names.lookup (DD "_law_step")=some .globalImplicit:=by decide +kernel
theorem yL {f:Addr}{fd:FuncData}(F:cB K "_law_behind" "_law_behind" sBeh f fd)(LS0:aF P w K mg base "_law_step" ["program","place","worths"] 52 kU):aL P w K mg base CX0 53 f fd ["one","other","who","pairing"] pL:=by
 refine F.ok eO (fun vs H Q E h=>?_) (fun cdv A outer s H vs Q E hr h=>?_)
 · obtain ⟨v1,v2,a,b1,b2,ins,n1,n2,p,rfl,_⟩:=h
   rfl
 · obtain ⟨v1,v2,a,b1,b2,ins,n1,n2,p,rfl,g1,g2',o1,o2,pa,ne1,ne2,qn,qs⟩:=h
   obtain ⟨⟨p1,ws⟩,⟨p2,us⟩⟩:=p
   obtain ⟨wa,ua,ha,hw,hu⟩:=pa.ex
   obtain ⟨e1,he1⟩:=fZ o1
   obtain ⟨e2,he2⟩:=fZ o2
   have LS:=LS0.mono (show 52<=52 by omega)
   refine fI ⟨_,(G3 (HP (GY 3) (HG 4 (Hl (Hh 4 eO.nd) (Hl (Hh 5 eO.nd) (Hl (Hh 6 eO.nd) (Hl (Hh 7 eO.nd) HH))))))
     (G3 (G9 8 eO.nd (Hy (GZ (Hy G0) (GZ (Hy G0) G0))))
     (G3 (Hn (Hk Ir (GY 2) G7) (G6 (HP (Hj LS hr eI (GZ (GY 0) (GZ (GY 4) (GZ (GY 6) G0)))) (HG 3 (Hl (L3.Av (GY 8) G1) (Hl (Hh 4 eO.nd) (Hl (Hh 6 eO.nd) HH)))))) Ho)
     (G3 (Hn (Hk Ir (GY 2) G7) (G6 (HP (Hj LS hr eI (GZ (GY 1) (GZ (GY 5) (GZ (GY 7) G0)))) (HG 3 (Hl (L3.Av (GY 8) G1) (Hl (Hh 5 eO.nd) (Hl (Hh 7 eO.nd) HH)))))) Ho)
     (G3 (Hn (Hk (Ip (m:=0) (bB hr _ (by decide))) (G2 Hm (GY 8) G1) (G2 Hm (GY 8) G1)) (G6 (Hi HS)) Ho)
     (G6 (Hi (G8 (GZ (GY 4) (GZ (GY 5) (GZ (GY 6) (GZ (GY 7) G0)))))))))))),?_⟩
   refine eB fun Rk kR=>?_
   refine ⟨_,rfl,a,_,rfl,aq.of ha,rfl,_,_,rfl,_,_,rfl,_,_,rfl,_,_,rfl,rfl,?_⟩
   refine ⟨JA,fun l1 hl1=>?_⟩
   have s1:ah H (upd H l1 (.lst [])):=af hl1 _
   have k1:(upd H l1 (.lst [])) l1=some (.lst []):=ae
   generalize upd H l1 (.lst [])=H1 at s1 k1 ⊢
   refine ⟨JA,fun l2 hl2=>?_⟩
   have s2:ah H1 (upd H1 l2 (.lst [])):=af hl2 _
   have k2:(upd H1 l2 (.lst [])) l2=some (.lst []):=ae
   generalize upd H1 l2 (.lst [])=H2 at s2 k2 ⊢
   refine ⟨JC,fun L hL=>?_⟩
   have s3:ah H2 (upd H2 L (.lst [.ref l1,.ref l2])):=af hL _
   have k3:(upd H2 L (.lst [.ref l1,.ref l2])) L=some (.lst [.ref l1,.ref l2]):=ae
   generalize upd H2 L (.lst [.ref l1,.ref l2])=H3 at s3 k3 ⊢
   have s03:=aa s1 (aa s2 s3)
   have c1:=s3 _ _ (s2 _ _ k1)
   have c2:=s3 _ _ k2
   refine aw ?_
   refine kR _ _ ?_
   refine bP [some v1,some v2,some (.str (aQ (aG b1 n1) (aG b2 n2) ((p1,ws),(p2,us)))),some (.ref a),some (.int p1),some (.int p2),some (.ref wa),some (.ref ua),some (.ref L)] rfl ?_
   clear kR
   obtain ⟨f1,ef1⟩ : ∃f1,aG b1 n1 (p1,ws)=f1:=⟨_,rfl⟩
   obtain ⟨f2,ef2⟩ : ∃f2,aG b2 n2 (p2,us)=f2:=⟨_,rfl⟩
   have ew:aQ (aG b1 n1) (aG b2 n2) ((p1,ws),(p2,us))=bN f1 f2:=by show bN _ _=_; rw [ef1,ef2]
   have eg:g2 (aG b1 n1) (aG b2 n2) ((p1,ws),(p2,us))=Ar ((p1,ws),(p2,us)) f1 f2:=by show Ar _ _ _=_; rw [ef1,ef2]
   rw [ew] at ne1 ne2 ⊢
   rw [eg] at qn qs
   have nL:H L=none:=ar (aa s1 s2) hL
   have L12:∀{x:List Int} {l:Addr} {Hx:Hp} {a b:Addr},Hx l=some (.lst (x.map V.int))->Hx L=some (.lst [.ref a,.ref b])->l≠L:=fun h1 h2=>cA h1 h2 vO
   have gd1:∀Hx,ah H Hx->vd Hx v1 wa b1 ws ins n1 p1 e1 n1.length:=fun Hx s=>BU.lpre (g1.same s) (s _ _ hw) o1 he1
   have gd2:∀Hx,ah H Hx->vd Hx v2 ua b2 us ins n2 p2 e2 n2.length:=fun Hx s=>BU.lpre (g2'.same s) (s _ _ hu) o2 he2
   refine a8 fun Rk kR=>?_
   suffices A:∀(H4:Hp) (l3:Addr) (x1:List Int) (q1:Int) (ws1:List Int) (wa1:Addr),ah H H4->H4 L=some (.lst [.ref l3,.ref l2])->H4 l3=some (.lst (x1.map V.int))->H4 l2=some (.lst [])->H4 wa1=some (.tup (ws1.map V.int))->((bN f1 f2≠"yours"/\f1=some (x1,(q1,ws1)))\/(bN f1 f2="yours"/\x1=[]/\(q1,ws1)=(p1,ws)))->Rk [some v1,some v2,some (.str (bN f1 f2)),some (.ref a),some (.int q1),some (.int p2),some (.ref wa1),some (.ref ua),some (.ref L)] H4 by
     refine ⟨_,rfl,rfl,_,rfl,?_⟩
     refine az (fun c=>?_) (fun c=>?_)
     · have c':bN f1 f2≠"yours":=fun z=>by rw [z] at c; exact absurd c (by decide)
       obtain ⟨⟨x1,q1,ws1⟩,ez⟩:=Bo ne1 ne2 c'
       have st:b8 b1 ws e1=some (x1,q1,ws1):=by rw [← cp he1,ef1,ez]
       refine ⟨_,rfl,_,rfl,_,rfl,v1,p1,wa,b1,ws,ins,n1,e1,_,x1,q1,ws1,rfl,gd1 _ s03,st,fun r l3 w2 H4 s4 hr4 hl4 hw4=>?_⟩
       have gL4:=s4 _ _ k3
       refine ⟨r,_,rfl,aq.of hr4,rfl,_,_,rfl,?_⟩
       refine ⟨_,rfl,L,_,0,0,rfl,rfl,gL4,rfl,?_⟩
       refine ⟨_,_,rfl,_,_,rfl,rfl,?_⟩
       refine A _ l3 x1 q1 ws1 w2 (bc (aa s03 s4) nL) ae ?_ ?_ ?_ (.inl ⟨c',ez⟩)
       · rw [aj (L12 hl4 gL4)]; exact hl4
       · rw [aj (L12 (x:=[]) (s4 _ _ c2) gL4)]; exact s4 _ _ c2
       · rw [aj (cA hw4 gL4 (fun z=>nomatch z))]; exact hw4
     · have c':bN f1 f2="yours":=by
         by_cases z:bN f1 f2="yours"
         · exact z
         · exact absurd (by show (!decide (V.str (bN f1 f2)=.str "yours"))=true; rw [decide_eq_false fun y=>z (by injection y)]; rfl) c
       exact A H3 l1 [] p1 ws wa s03 k3 c1 c2 (s03 _ _ hw) (.inr ⟨c',rfl,rfl⟩)
   intro H4 l3 x1 q1 ws1 wa1 s4 kL kl3 kl2 kwa cc1
   refine kR _ _ ?_
   clear kR
   refine a8 fun Rk kR=>?_
   suffices A:∀(H5:Hp) (l4:Addr) (x2:List Int) (q2:Int) (us2:List Int) (ua2:Addr),ah H H5->H5 L=some (.lst [.ref l3,.ref l4])->H5 l3=some (.lst (x1.map V.int))->H5 l4=some (.lst (x2.map V.int))->H5 wa1=some (.tup (ws1.map V.int))->H5 ua2=some (.tup (us2.map V.int))->((bN f1 f2≠"mine"/\f2=some (x2,(q2,us2)))\/(bN f1 f2="mine"/\x2=[]/\(q2,us2)=(p2,us)))->Rk [some v1,some v2,some (.str (bN f1 f2)),some (.ref a),some (.int q1),some (.int q2),some (.ref wa1),some (.ref ua2),some (.ref L)] H5 by
     refine ⟨_,rfl,rfl,_,rfl,?_⟩
     refine az (fun c=>?_) (fun c=>?_)
     · have c':bN f1 f2≠"mine":=fun z=>by rw [z] at c; exact absurd c (by decide)
       obtain ⟨⟨x2,q2,us2⟩,ez⟩:=Bp ne1 ne2 c'
       have st:b8 b2 us e2=some (x2,q2,us2):=by rw [← cp he2,ef2,ez]
       refine ⟨_,rfl,_,rfl,_,rfl,v2,p2,ua,b2,us,ins,n2,e2,_,x2,q2,us2,rfl,gd2 _ s4,st,fun r l4 w2 H5 s5 hr5 hl5 hw5=>?_⟩
       have gL5:=s5 _ _ kL
       refine ⟨r,_,rfl,aq.of hr5,rfl,_,_,rfl,?_⟩
       refine ⟨_,rfl,L,_,1,1,rfl,rfl,gL5,rfl,?_⟩
       refine ⟨_,_,rfl,_,_,rfl,rfl,?_⟩
       refine A _ l4 x2 q2 us2 w2 (bc (aa s4 s5) nL) ae ?_ ?_ ?_ ?_ (.inl ⟨c',ez⟩)
       · rw [aj (L12 (s5 _ _ kl3) gL5)]; exact s5 _ _ kl3
       · rw [aj (L12 hl5 gL5)]; exact hl5
       · rw [aj (cA (s5 _ _ kwa) gL5 (fun z=>nomatch z))]; exact s5 _ _ kwa
       · rw [aj (cA hw5 gL5 (fun z=>nomatch z))]; exact hw5
     · have c':bN f1 f2="mine":=by
         by_cases z:bN f1 f2="mine"
         · exact z
         · exact absurd (by show (!decide (V.str (bN f1 f2)=.str "mine"))=true; rw [decide_eq_false fun y=>z (by injection y)]; rfl) c
       exact A H4 l2 [] p2 us ua s4 kL kl3 kl2 kwa (s4 _ _ hu) (.inr ⟨c',rfl,rfl⟩)
   intro H5 l4 x2 q2 us2 ua2 s5 kL5 k35 k45 kwa5 kua5 cc2
   refine kR _ _ ?_
   clear kR
   obtain ⟨fin1,fin2⟩:=vh (p:=((p1,ws),(p2,us))) ne1 ne2 cc1 cc2
   refine a8 fun Rk kR=>?_
   refine ⟨_,rfl,L,_,_,_,rfl,rfl,ao.of kL5,rfl,_,rfl,L,_,_,_,rfl,rfl,ao.of kL5,rfl,_,RB.ints k35 k45,_,rfl,?_⟩
   refine az (fun c=>?_) (fun c=>?_)
   · have ne:x1≠x2:=fun z=>by rw [decide_eq_true z] at c; exact absurd c (by decide)
     exact qn (fin2 ne) H5 s5
   · have e:x1=x2:=by
       by_cases z:x1=x2
       · exact z
       · exact absurd (by rw [decide_eq_false z]; rfl) c
     refine kR _ _ ?_
     refine ⟨_,rfl,_,rfl,_,rfl,_,rfl,JE,fun r HR=>?_⟩
     have s6:=af HR (.tup [.int q1,.int q2,.ref wa1,.ref ua2])
     exact qs _ _ (fin1 e) r _ (aa s5 s6) ⟨wa1,ua2,ae,s6 _ _ kwa5,s6 _ _ kua5⟩
theorem vH (s:Src K mg "_law_behind" sBeh)(LS0:aF P w K mg base "_law_step" ["program","place","worths"] 52 kU):aF P w K mg base "_law_behind" ["one","other","who","pairing"] 53 pL:=
 let ⟨f,fd,F,m⟩:=s
 ⟨f,fd,yL F LS0,F.kp,vk F fun _ _ _ _ _ _ _ _ _ _=>rfl,m⟩
end
end TW
set_option Elab.async false
set_option linter.all false
set_option maxRecDepth 100000
set_option exponentiation.threshold 4000
set_option maxHeartbeats 1000000
namespace TW
open PySem L2
section
variable {P:Program}{w:World}{K:DA}{mg:Str->Option Value}{base:Heap}
abbrev sWalk:Stmt:=top 45
/-! ### _law_walk -/
abbrev Pr:=(Int×List Int)×(Int×List Int)
def aS (p:Pr):List NI:=[.inl (.inl p.1.1),.inl (.inl p.2.1),.inr (p.1.2.map Sum.inl),.inr (p.2.2.map Sum.inl)]
theorem kF:∀{x y:List Int},x.map (Sum.inl:Int->Key)=y.map Sum.inl->x=y
 | [],[],_=>rfl
 | [],_ :: _,e=>nomatch e
 | _ :: _,[],e=>nomatch e
 | a :: x,b :: y,e=>by
   rw [D7,D7] at e
   injection e with e1 e2
   injection e1 with e1
   rw [e1,kF e2]
theorem nJ {a b:Pr}(h:aS a=aS b):a=b:=by
 obtain ⟨⟨a1,a2⟩,⟨a3,a4⟩⟩:=a
 obtain ⟨⟨b1,b2⟩,⟨b3,b4⟩⟩:=b
 unfold aS at h
 injection h with h1 h
 injection h with h2 h
 injection h with h3 h
 injection h with h4 _
 injection h1 with h1
 injection h1 with h1
 injection h2 with h2
 injection h2 with h2
 injection h3 with h3
 injection h4 with h4
 rw [show a1=b1 from h1,show a3=b3 from h2,show a2=b2 from kF h3,show a4=b4 from kF h4]
theorem oC.key {H:Hp}{a:Addr}{p:Pr}(h:oC H a p):cj H a (aS p):=by
 obtain ⟨wa,ua,x,y,z⟩:=h.ex
 exact ⟨_,x,.cons rfl (.cons rfl (.cons ⟨wa,rfl,by rw [kG]; exact y⟩ (.cons ⟨ua,rfl,by rw [kG]; exact z⟩ .nil)))⟩
theorem oC.keep {H H':Hp}{a:Addr}{p:Pr}(h:oC H a p)(k:TK H H'):oC H' a p:=let ⟨wa,ua,x,y,z⟩:=h.ex; ⟨wa,ua,k _ _ x,k _ _ y,k _ _ z⟩
section
variable {f f':Int×List Int->Option (List Int×Int×List Int)}{p0:Pr}{H H':Hp}{d:Addr}{kvs:NKV}
structure dM (P:Program)(w:World)(f f':Int×List Int->Option (List Int×Int×List Int))(p0:Pr)(H:Hp)(d:Addr)(kvs:NKV):Prop where
 nd:ND P w [true,true,false,false] H d kvs
 at_:∀j p,kvs[j]? = some p->∃q v,tr (g2 f f') j p0=some (q,v)/\p.1=aS q/\p.2.2=.int (j:Nat)
theorem dM.keep (x:dM P w f f' p0 H d kvs)(hd:H' d=some (DN P w d kvs))(ht:TK H H'):dM P w f f' p0 H' d kvs:=⟨x.nd.keep hd ht,x.at_⟩
theorem dM.same (x:dM P w f f' p0 H d kvs)(s:ah H H'):dM P w f f' p0 H' d kvs:=x.keep (s _ _ x.nd.at_) (ah.tk s)
theorem dM.put {b:Addr}{q:Pr}{v:List Int}(x:dM P w f f' p0 H d kvs)(kb:cj H b (aS q))(hs:tr (g2 f f') kvs.length p0=some (q,v))(no:valN kvs (aS q)=none)(hl:kvs.length < sizeLine) :
   dM P w f f' p0 (upd H d (DN P w d (kvs++[(aS q,b,.int (kvs.length:Nat))]))) d (kvs++[(aS q,b,.int (kvs.length:Nat))]):=by
 refine ⟨x.nd.put kb rfl no hl,fun j p hp=>?_⟩
 by_cases hj:j < kvs.length
 · rw [D9 hj] at hp
   exact x.at_ j p hp
 · have hj2:j=kvs.length:=by
     have:=(List.getElem?_eq_some_iff.mp hp).1
     rw [DE] at this
     simp only [D6,Fi] at this
     omega
   subst hj2
   rw [DW (DJ _),EW] at hp
   cases hp
   exact ⟨q,v,hs,rfl,rfl⟩
theorem dM.find {q:Pr}{u:V}(x:dM P w f f' p0 H d kvs)(h:valN kvs (aS q)=some u):∃j v,j < kvs.length/\tr (g2 f f') j p0=some (q,v)/\u=.int (j:Nat):=by
 unfold valN at h
 obtain ⟨p,hp,rfl⟩:=Option.map_eq_some_iff.mp h
 have hk:p.1=aS q:=of_decide_eq_true (List.find?_some (p:=fun p:List NI×Addr×V=>decide (p.1=aS q)) hp)
 obtain ⟨j,hj⟩:=List.mem_iff_getElem?.mp (Gx hp)
 obtain ⟨r,v,a1,a2,a3⟩:=x.at_ j p hj
 obtain rfl:=nJ (a2.symm.trans hk)
 exact ⟨j,v,(List.getElem?_eq_some_iff.mp hj).1,a1,a3⟩
theorem dM.bound {b1 b2:List (Str×Int)}{m1 m2:Nat}(x:dM P w f f' p0 H d kvs)(hs:∀j q v,tr (g2 f f') j p0=some (q,v)->fq b1 m1 q.1/\fq b2 m2 q.2):kvs.length<=(m1 * cX b1) * (m2 * cX b2):=by
 have el:((km b1 m1).flatMap fun s=>(km b2 m2).map fun u=>(s,u)).length=(m1 * cX b1) * (m2 * cX b2):=by
   rw [← iN,← iN]
   generalize km b1 m1=l
   induction l with
   | nil=>simp
   | cons a l ih=>rw [List.flatMap_cons,DE,ih,DC,D6,Fq,Nat.add_comm]
 rw [← el,← DC (as:=kvs) (f:=(·.1)),← DC (f:=aS) (as:=(km b1 m1).flatMap fun s=>(km b2 m2).map fun u=>(s,u))]
 refine sub_len x.nd.nd fun k hk=>?_
 obtain ⟨p,hp,rfl⟩:=List.mem_map.mp hk
 obtain ⟨j,hj⟩:=List.mem_iff_getElem?.mp hp
 obtain ⟨q,v,a1,a2,_⟩:=x.at_ j p hj
 obtain ⟨o1,o2⟩:=hs j q v a1
 exact List.mem_map.mpr ⟨q,List.mem_flatMap.mpr ⟨q.1,kE o1,List.mem_map.mpr ⟨q.2,kE o2,rfl⟩⟩,a2.symm⟩
/-- a row of the walk -/
def iM (f f':Int×List Int->Option (List Int×Int×List Int))(p0:Pr)(H:Hp)(j:Nat)(x:V):Prop:=∃a pa q v,x=.ref a/\H a=some (.tup [.ref pa,.str (aQ f f' q)])/\oC H pa q/\tr (g2 f f') j p0=some (q,v)
theorem iM.keep {j:Nat}{x:V}(h:iM f f' p0 H j x)(k:TK H H'):iM f f' p0 H' j x:=let ⟨a,pa,q,v,e,ha,hp,ht⟩:=h; ⟨a,pa,q,v,e,k _ _ ha,hp.keep k,ht⟩
/-- what becomes of the walk -/
def xX (f f':Int×List Int->Option (List Int×Int×List Int))(p0:Pr)(n:Nat)(pt:Bool):Prop:=
 (∃k q v,n=k + 1/\tr (g2 f f') k p0=some (q,v)/\g2 f f' q=none/\(pt=true↔aQ f f' q≠"end")) \/
 (∃j q v v2,j < n/\tr (g2 f f') j p0=some (q,v)/\tr (g2 f f') n p0=some (q,v2)/\(pt=true↔∀a r x,j<=a->a < n->tr (g2 f f') a p0=some (r,x)->aQ f f' r≠"both"))
end
structure xh (H:Hp)(v1 v2:V)(ia:Addr)(b1 b2:List (Str×Int))(ins:List Str)(n1 n2:List Nd)(iw:List Int):Prop where
 g1:jG H v1 b1 ins n1
 g2:jG H v2 b2 ins n2
 hi:H ia=some (.lst (iw.map V.int))
 pw:Paired Within (ins.map (bo b1)) iw
 sz:ins.map (bo b1)=ins.map (bo b2)
 few1:n1.length * cX b1<=2000
 few2:n2.length * cX b2<=2000
abbrev beg2 (b1 b2:List (Str×Int))(ins:List Str)(iw:List Int):Pr:=((0,aN b1 ins iw),(0,aN b2 ins iw))
def og:Sp:=fun vs H Q _=>∃(v1 v2:V) (ia:Addr) (b1 b2:List (Str×Int)) (ins:List Str) (n1 n2:List Nd) (iw:List Int),vs=[v1,v2,.ref ia]/\xh H v1 v2 ia b1 b2 ins n1 n2 iw /\
 ∀(r rl:Addr) (atv:V) (pt:Bool) (xs:List V) (H':Hp),ah H H'->H' r=some (.tup [.ref rl,atv,.bl pt])->H' rl=some (.lst xs)->xs.length<=4000000->(∀j x,xs[j]? = some x->iM (aG b1 n1) (aG b2 n2) (beg2 b1 b2 ins iw) H' j x)->xX (aG b1 n1) (aG b2 n2) (beg2 b1 b2 ins iw) xs.length pt->Q (.ref r) H'
theorem mM {H:Hp}{v:V}{bs:List (Str×Int)}{ins:List Str}{nds:List Nd}{iw:List Int}(pg:jG H v bs ins nds)(pw:Paired Within (ins.map (bo bs)) iw):fq bs nds.length (0,aN bs ins iw):=
 ⟨E4 0,by have:=pg.one; show (0:Int) < nds.length; omega,iP pg.ft.nd pg.ft.sz pw⟩
theorem fk:au ["one","other","inputs","rows","met","pairing","who","at"] ["one","other","inputs"] (ag sWalk):=⟨rfl,rfl,rfl,by decide +kernel,rfl,by decide +kernel,by decide +kernel⟩
theorem gF:(ag sWalk).names.lookup (DD "_law_behind")=some .globalImplicit:=by decide +kernel
theorem dG:(ag sWalk).names.lookup (DD "_law_start")=some .globalImplicit:=by decide +kernel
theorem jN:(ag sWalk).names.lookup (DD "_law_who")=some .globalImplicit:=by decide +kernel
theorem qr:(ag sWalk).names.lookup (DD "len")=some .globalImplicit:=by decide +kernel
theorem wy {f:Addr}{fd:FuncData}(F:cB K "_law_walk" "_law_walk" sWalk f fd)(m_len:mg "len"=none)(ST0:aF P w K mg base "_law_start" ["program","inputs"] 1 jt)(WH0:aF P w K mg base "_law_who" ["one","other","p","q"] 1 mB)(BE0:aF P w K mg base "_law_behind" ["one","other","who","pairing"] 53 pL):aL P w K mg base CX0 54 f fd ["one","other","inputs"] og:=by
 refine F.ok fk (fun vs H Q E h=>?_) (fun cdv A outer s H vs Q E hr h=>?_)
 · obtain ⟨v1,v2,ia,b1,b2,ins,n1,n2,iw,rfl,_⟩:=h
   rfl
 · obtain ⟨v1,v2,ia,b1,b2,ins,n1,n2,iw,rfl,pre,q⟩:=h
   have ST:=ST0.mono (show 1<=53 by omega)
   have WH:=WH0.mono (show 1<=53 by omega)
   have BE:=BE0.mono (show 53<=53 by omega)
   refine fI ⟨_,(G3 (G9 3 fk.nd (Hy G0))
     (G3 (G9 4 fk.nd (L3.xo (P:=P) (w:=w)))
     (G3 (G9 5 fk.nd (G8 (GZ G1 (GZ G1 (GZ (Hj ST hr dG (GZ (GY 0) (GZ (GY 2) G0))) (GZ (Hj ST hr dG (GZ (GY 1) (GZ (GY 2) G0))) G0))))))
     (G3 (L3.ou (HM (Ig (Hk L3.tU (GY 5) HS) (Ih (L3.tM (P:=P) (w:=w) (bB hr _ (by decide)) (GY 5) (GY 4))))) (G3 (L3.AJ (P:=P) (w:=w) (bB hr _ (by decide)) (GY 4) (GY 5) (Hv Hz qr m_len DQ (GZ (GY 3) G0)))
     (G3 (G9 6 fk.nd (Hj WH hr jN (GZ (GY 0) (GZ (GY 1) (GZ (G2 G5 (GY 5) G1) (GZ (G2 G5 (GY 5) G1) G0))))))
     (G3 (Ij (II (GY 3) (GZ (G8 (GZ (GY 5) (GZ (GY 6) G0))) G0)))
     (G3 (Hn (Hk Iq (GY 6) (G8 (GZ G7 (GZ G7 G0))) (by rfl)) (G6 (Hi (G8 (GZ (GY 3) (GZ HS (GZ (HK Hw (GY 6) G7) G0)))))) Ho)
     (G6 (G9 5 fk.nd (Hj BE hr gF (GZ (GY 0) (GZ (GY 1) (GZ (GY 6) (GZ (GY 5) G0))))))))))))
     (G3 (Hn (Hk Iy (GY 5) HS) (G6 (Hi (G8 (GZ (GY 3) (GZ HS (GZ L3.bl G0)))))) Ho)
     (G3 (G9 7 fk.nd (L3.AI (P:=P) (w:=w) (bB hr _ (by decide)) (GY 4) (GY 5)))
     (G6 (Hi (G8 (GZ (GY 3) (GZ (GY 7) (GZ (HK L3.pf G7 (HZ [none,none] ["pairing","who"] (show aA _ (ag sWalk) from ⟨rfl,by decide +kernel,by decide +kernel,by decide +kernel⟩) (by rfl) (HQ (Io (GY 3) (GY 7))) (fun _ _ _ _ _=>⟨(HG 2 (Hl (Hh 0 (show (["pairing","who"]:List Str).Nodup from by decide +kernel)) (Hl (Hh 1 (show (["pairing","who"]:List Str).Nodup from by decide +kernel)) HH))),HU,(GY 1)⟩)) (by rfl)) G0)))))))))))),?_⟩
   have pw2:Paired Within (ins.map (bo b2)) iw:=by rw [← pre.sz]; exact pre.pw
   have o1:=mM pre.g1 pre.pw
   have o2:=mM pre.g2 pw2
   obtain ⟨f,ef⟩ : ∃f,aG b1 n1=f:=⟨_,rfl⟩
   obtain ⟨f',ef'⟩ : ∃f',aG b2 n2=f':=⟨_,rfl⟩
   have inv:∀{j:Nat} {p:Pr} {v:List Int},tr (g2 f f') j (beg2 b1 b2 ins iw)=some (p,v)->fq b1 n1.length p.1/\fq b2 n2.length p.2:=fun {j p v} h=>by
     obtain ⟨m,m',a1,a2,_⟩:=nY h
     rw [← ef] at a1
     rw [← ef'] at a2
     exact ⟨(jA pre.g1.ft.sz pre.g1.gd o1 a1).1,(jA pre.g2.ft.sz pre.g2.gd o2 a2).1⟩
   have NN:(n1.length * cX b1) * (n2.length * cX b2)<=4000000:=GC pre.few1 pre.few2
   refine jI fun Rk kR=>?_
   refine ⟨JA,fun rl hrl=>?_⟩
   have s1:ah H (upd H rl (.lst [])):=af hrl _
   have k1:(upd H rl (.lst [])) rl=some (.lst []):=ae
   generalize upd H rl (.lst [])=H1 at s1 k1 ⊢
   refine aw ?_
   refine fun d hd hdm=>?_
   have s2:ah H1 (upd H1 d (DN P w d [])):=af hd _
   have k2:(upd H1 d (DN P w d [])) d=some (DN P w d []):=ae
   generalize upd H1 d (DN P w d [])=H2 at s2 k2 ⊢
   refine aw ?_
   have s02:=aa s1 s2
   refine ⟨_,rfl,_,rfl,v1,ia,b1,ins,n1,iw,rfl,pre.g1.pa.same s02,pre.g1.ft,s02 _ _ pre.hi,pre.pw,fun wa H3 s3 k3=>⟨_,rfl,_,rfl,v2,ia,b2,ins,n2,iw,rfl,(pre.g2.pa.same s02).same s3,pre.g2.ft,s3 _ _ (s02 _ _ pre.hi),pw2,fun ua H4 s4 k4=>⟨JE,fun pa hpa=>?_⟩⟩⟩
   have s5:ah H4 (upd H4 pa (.tup [.int 0,.int 0,.ref wa,.ref ua])):=af hpa _
   have k5:(upd H4 pa (.tup [.int 0,.int 0,.ref wa,.ref ua])) pa=some (.tup [.int 0,.int 0,.ref wa,.ref ua]):=ae
   generalize upd H4 pa (.tup [.int 0,.int 0,.ref wa,.ref ua])=H5 at s5 k5 ⊢
   have s05:=aa s02 (aa s3 (aa s4 s5))
   have s25:=aa s3 (aa s4 s5)
   refine aw ?_
   refine kR _ _ ?_
   refine bP [some v1,some v2,some (.ref ia),some (.ref rl),some (.ref d),some (.ref pa),none,none] rfl ?_
   clear kR
   have p5:oC H5 pa (beg2 b1 b2 ins iw):=⟨wa,ua,k5,s5 _ _ (s4 _ _ k3),s5 _ _ k4⟩
   have met5:dM P w f f' (beg2 b1 b2 ins iw) H5 d []:=⟨⟨s25 _ _ k2,Ep _,Gw,(fun p hp=>nomatch hp),hdm⟩,fun j p hp=>by simp at hp⟩
   have nrl:H rl=none:=hrl
   have nd0:H d=none:=ar s1 hd
   have drl:d≠rl:=(ai k1 hd).symm
   have krl:=s25 _ _ (s2 _ _ k1)
   refine a8 fun Rk kR=>?_
   refine ⟨(fun m σ H6=>∃(pv:V) (kvs:NKV) (xs:List V) (o6:Option V),m=(n1.length * cX b1) * (n2.length * cX b2) - kvs.length/\σ=[some v1,some v2,some (.ref ia),some (.ref rl),some (.ref d),some pv,o6,none]/\ah H H6/\H6 rl=some (.lst xs)/\xs.length=kvs.length/\(∀j x,xs[j]? = some x->iM f f' (beg2 b1 b2 ins iw) H6 j x)/\dM P w f f' (beg2 b1 b2 ins iw) H6 d kvs/\((pv=.aU/\∃k q v,kvs.length=k + 1/\tr (g2 f f') k (beg2 b1 b2 ins iw)=some (q,v)/\g2 f f' q=none/\aQ f f' q≠"end")\/∃pa q v,pv=.ref pa/\oC H6 pa q/\tr (g2 f f') kvs.length (beg2 b1 b2 ins iw)=some (q,v))),⟨_,.ref pa,[],[],_,rfl,rfl,s05,krl,rfl,(fun j x hx=>by simp at hx),met5,.inr ⟨pa,_,[],rfl,p5,rfl⟩⟩,?_⟩
   rintro m σ H6 ⟨pv,kvs,xs,o6,rfl,rfl,s6,g6,xl,rows,met,alt⟩
   have kb:=met.bound fun j q v h=>inv h
   have kb4:=Eb kb NN
   rcases alt with ⟨rfl,k,pq,pv',ek,htr,hn,hw⟩ | ⟨pb,pq,v,rfl,pat,htr⟩
   · refine ⟨_,rfl,rfl,_,rfl,az (fun c=>absurd c (by simp)) (fun _=>fK (kR _ _ ?_))⟩
     refine a8 fun Rj kj=>?_
     refine ⟨_,rfl,rfl,_,rfl,az (fun _=>?_) (fun c=>absurd (decide_eq_true rfl) c)⟩
     refine ⟨_,rfl,JD,fun r HR=>?_⟩
     have s7:=af HR (.tup [.ref rl,.aU,.bl true])
     refine q r rl .aU true xs _ (aa s6 s7) ae (s7 _ _ g6) (by omega) (fun j x hx=>by rw [ef,ef']; exact (rows j x hx).keep (ah.tk s7)) ?_
     rw [ef,ef']
     exact .inl ⟨k,pq,pv',by omega,htr,hn,fun _=>hw,fun _=>rfl⟩
   refine ⟨_,rfl,rfl,_,rfl,az (fun _=>?_) (fun c=>absurd (by simp) c)⟩
   refine ⟨_,rfl,_,rfl,d,pb,[true,true,false,false],kvs,aS pq,rfl,rfl,met.nd,pat.key,rfl,_,rfl,?_⟩
   refine az (fun cc=>?_) (fun cc=>?_)
   · have no:valN kvs (aS pq)=none:=by
       cases z:valN kvs (aS pq) with
       | none=>rfl
       | some u=>rw [z] at cc; cases cc
     refine ⟨fun σ' H'=>∃m',m' < (n1.length * cX b1) * (n2.length * cX b2) - kvs.length/\(fun m σ H6=>∃(pv:V) (kvs:NKV) (xs:List V) (o6:Option V),m=(n1.length * cX b1) * (n2.length * cX b2) - kvs.length/\σ=[some v1,some v2,some (.ref ia),some (.ref rl),some (.ref d),some pv,o6,none]/\ah H H6/\H6 rl=some (.lst xs)/\xs.length=kvs.length/\(∀j x,xs[j]? = some x->iM f f' (beg2 b1 b2 ins iw) H6 j x)/\dM P w f f' (beg2 b1 b2 ins iw) H6 d kvs/\((pv=.aU/\∃k q v,kvs.length=k + 1/\tr (g2 f f') k (beg2 b1 b2 ins iw)=some (q,v)/\g2 f f' q=none/\aQ f f' q≠"end")\/∃pa q v,pv=.ref pa/\oC H6 pa q/\tr (g2 f f') kvs.length (beg2 b1 b2 ins iw)=some (q,v))) m' σ' H',fun _ _ h=>h,?_⟩
     refine jI fun Rj kj=>?_
     refine ⟨_,rfl,rl,_,rfl,.inl (ao.of g6),_,rfl,_,rfl,d,pb,[true,true,false,false],kvs,aS pq,rfl,rfl,met.nd,pat.key,rfl,no,?_⟩
     rw [xl]
     have hl:kvs.length < sizeLine:=En kb4 (by decide)
     have met7:=met.put pat.key htr no hl
     have kb7:=met7.bound fun j q v h=>inv h
     have tk7:TK H6 (upd H6 d (DN P w d (kvs++[(aS pq,pb,.int (kvs.length:Nat))]))):=fun c us e=>by
       rw [aj (cA e met.nd.at_ (fun z=>nomatch z))]
       exact e
     have s7:ah H (upd H6 d (DN P w d (kvs++[(aS pq,pb,.int (kvs.length:Nat))]))):=bc s6 nd0
     have g7:(upd H6 d (DN P w d (kvs++[(aS pq,pb,.int (kvs.length:Nat))]))) rl=some (.lst xs):=by rw [aj drl.symm]; exact g6
     have hk7:(kvs++[(aS pq,pb,V.int (kvs.length:Nat))]).length=kvs.length + 1:=by rw [DE]; rfl
     generalize kvs++[(aS pq,pb,V.int (kvs.length:Nat))]=kvs7 at met7 kb7 tk7 s7 g7 hk7 ⊢
     generalize upd H6 d (DN P w d kvs7)=H7 at met7 tk7 s7 g7 ⊢
     have pat7:=pat.keep tk7
     obtain ⟨wb,ub,hpb,hwb,hub⟩:=pat7.ex
     obtain ⟨ob1,ob2⟩:=inv htr
     obtain ⟨e1,he1⟩:=fZ ob1
     obtain ⟨e2,he2⟩:=fZ ob2
     have ew:k6 e1 e2=aQ f f' pq:=by
       show _=bN (f pq.1) (f' pq.2)
       rw [← ef,← ef',show pq.1=(pq.1.1,pq.1.2) from rfl,show pq.2=(pq.2.1,pq.2.2) from rfl,cp he1,cp he2,zS]
     refine ⟨_,rfl,_,rfl,_,rfl,pb,_,_,_,rfl,rfl,aq.of hpb,rfl,_,rfl,pb,_,_,_,rfl,rfl,aq.of hpb,rfl,v1,v2,pq.1.1,pq.2.1,b1,b2,ins,n1,n2,e1,e2,rfl,pre.g1.pa.same s7,pre.g2.pa.same s7,ob1.1,ob2.1,he1,he2,fun H8 s8=>?_⟩
     rw [ew]
     refine aw ?_
     have g8:=s8 _ _ g7
     have met8:=met7.same s8
     have s08:=aa s7 s8
     refine ⟨_,rfl,.inl ⟨rfl,_,ao.of g8⟩,?_⟩
     refine ⟨_,rfl,_,rfl,JC,fun ra hra=>?_⟩
     have s9:ah H8 (upd H8 ra (.tup [.ref pb,.str (aQ f f' pq)])):=af hra _
     have k9:(upd H8 ra (.tup [.ref pb,.str (aQ f f' pq)])) ra=some (.tup [.ref pb,.str (aQ f f' pq)]):=ae
     generalize upd H8 ra (.tup [.ref pb,.str (aQ f f' pq)])=H9 at s9 k9 ⊢
     have g9:=s9 _ _ g8
     refine ⟨rl,_,_,rfl,rfl,g9,En (show xs.length<=4000000 by omega) (by decide),?_⟩
     have tkA:TK H9 (upd H9 rl (.lst (xs++[.ref ra]))):=TK.lst g9
     have metA:dM P w f f' (beg2 b1 b2 ins iw) (upd H9 rl (.lst (xs++[.ref ra]))) d kvs7:=(met8.same s9).keep (by rw [aj drl]; exact (met8.same s9).nd.at_) tkA
     have sA:ah H (upd H9 rl (.lst (xs++[.ref ra]))):=bc (aa s08 s9) nrl
     have gA:(upd H9 rl (.lst (xs++[.ref ra]))) rl=some (.lst (xs++[.ref ra])):=ae
     have kA:(upd H9 rl (.lst (xs++[.ref ra]))) ra=some (.tup [.ref pb,.str (aQ f f' pq)]):=tkA _ _ k9
     have tk6A:TK H6 (upd H9 rl (.lst (xs++[.ref ra]))):=(tk7.trans (ah.tk (aa s8 s9))).trans tkA
     generalize upd H9 rl (.lst (xs++[.ref ra]))=HA at metA sA gA kA tk6A ⊢
     have patA:=pat.keep tk6A
     have xlA:(xs++[V.ref ra]).length=kvs7.length:=by rw [DE,xl,hk7]; rfl
     have rowsA:∀j x,(xs++[V.ref ra])[j]? = some x->iM f f' (beg2 b1 b2 ins iw) HA j x:=fun j x hx=>by
       by_cases hj:j < xs.length
       · rw [D9 hj] at hx
         exact (rows j x hx).keep tk6A
       · have hj2:=(List.getElem?_eq_some_iff.mp hx).1
         rw [DE] at hj2
         simp only [D6,Fi] at hj2
         obtain rfl:j=xs.length:=by omega
         rw [DW (DJ _),EW] at hx
         cases hx
         exact ⟨ra,pb,pq,v,rfl,kA,patA,by rw [xl]; exact htr⟩
     refine kj _ _ ?_
     clear kj
     refine a8 fun Rj kj=>?_
     refine ⟨_,rfl,JC,fun tt htt=>?_⟩
     have sB:ah HA (upd HA tt (.tup [.str "parted",.str "end"])):=af htt _
     have gB:(upd HA tt (.tup [.str "parted",.str "end"])) tt=some (.tup [.str "parted",.str "end"]):=ae
     generalize upd HA tt (.tup [.str "parted",.str "end"])=HB at sB gB ⊢
     refine ⟨tt,_,rfl,.inr (aq.of gB),rfl,rfl,_,rfl,?_⟩
     rw [show (if false=true then !jE (V.str (aQ f f' pq)) [V.str "parted",V.str "end"] else jE (V.str (aQ f f' pq)) [V.str "parted",V.str "end"])=decide (aQ f f' pq∈([("parted":Str),"end"]:List Str)) from dQ _ ["parted","end"]]
     have s0B:=aa sA sB
     refine az (fun c=>?_) (fun c=>?_)
     · have cm:aQ f f' pq∈([("parted":Str),"end"]:List Str):=of_decide_eq_true c
       have hn:g2 f f' pq=none:=by
         cases z:g2 f f' pq with
         | none=>rfl
         | some z2=>
           rcases ed (q:=z2.2) (w:=z2.1) z with ⟨_,_,_,_,_,hw⟩ | ⟨_,_,_,hw⟩ | ⟨_,_,_,hw⟩ <;> rw [hw] at cm <;> exact absurd cm (by decide)
       refine ⟨_,rfl,_,rfl,rfl,JD,fun r HR=>?_⟩
       have sC:=af HR (.tup [.ref rl,.aU,.bl (decide (V.str (aQ f f' pq)=.str "parted"))])
       have sBC:=aa sB sC
       refine q r rl .aU _ (xs++[.ref ra]) _ (aa s0B sC) ae (sBC _ _ gA) (by omega) (fun j x hx=>by rw [ef,ef']; exact (rowsA j x hx).keep (ah.tk sBC)) ?_
       rw [ef,ef']
       refine .inl ⟨kvs.length,pq,v,by omega,htr,hn,?_⟩
       rcases List.mem_cons.mp cm with z | z
       · rw [z]
         exact ⟨fun _=>by decide,fun _=>rfl⟩
       · rw [List.mem_singleton.mp z]
         exact ⟨fun y=>absurd y (by decide),fun y=>absurd rfl y⟩
     · have cm:aQ f f' pq ∉ ([("parted":Str),"end"]:List Str):=fun z=>c (decide_eq_true z)
       have c1:aQ f f' pq≠"parted":=fun z=>cm (by rw [z]; exact Ef)
       have c2:aQ f f' pq≠"end":=fun z=>cm (by rw [z]; exact El _ Ef)
       refine kj _ _ ?_
       clear kj
       refine ⟨_,rfl,_,rfl,_,rfl,_,rfl,v1,v2,pb,b1,b2,ins,n1,n2,pq,(by rw [ef,ef']; rfl),pre.g1.same s0B,pre.g2.same s0B,ob1,ob2,patA.same sB,(by rw [ef,ef']; exact c2),(by rw [ef,ef']; exact c1),fun hn HC sC=>?_,fun wd nq hs r HC sC pC=>?_⟩
       · rw [ef,ef'] at hn
         refine aw ?_
         have sBC:=aa sB sC
         exact ⟨_,by omega,.aU,kvs7,xs++[.ref ra],_,rfl,rfl,aa s0B sC,sBC _ _ gA,xlA,(fun j x hx=>(rowsA j x hx).keep (ah.tk sBC)),metA.same sBC,.inl ⟨rfl,kvs.length,pq,v,hk7,htr,hn,c2⟩⟩
       · rw [ef,ef'] at hs
         refine aw ?_
         have sBC:=aa sB sC
         exact ⟨_,by omega,.ref r,kvs7,xs++[.ref ra],_,rfl,rfl,aa s0B sC,sBC _ _ gA,xlA,(fun j x hx=>(rowsA j x hx).keep (ah.tk sBC)),metA.same sBC,.inr ⟨r,nq,_,rfl,pC,by rw [hk7]; exact bf htr hs⟩⟩
   · have some_:∃u,valN kvs (aS pq)=some u:=by
       cases z:valN kvs (aS pq) with
       | none=>rw [z] at cc; exact absurd rfl cc
       | some u=>exact ⟨u,rfl⟩
     obtain ⟨u,hu⟩:=some_
     obtain ⟨j,vj,hj,trj,rfl⟩:=met.find hu
     refine kR _ _ ?_
     clear kR
     refine a8 fun Rj kj=>?_
     refine ⟨_,rfl,rfl,_,rfl,az (fun c=>absurd (of_decide_eq_true c) (by simp)) (fun _=>?_)⟩
     refine kj _ _ ?_
     clear kj
     refine ⟨_,rfl,_,rfl,d,pb,[true,true,false,false],kvs,aS pq,.int (j:Nat),rfl,rfl,met.nd,pat.key,rfl,hu,?_⟩
     refine aw ?_
     refine ⟨_,rfl,_,rfl,_,rfl,_,rfl,_,rfl,rl,_,rfl,ao.of g6,fun l2 hl2=>?_⟩
     rw [c8 _ (by omega)]
     have s7:ah H6 (upd H6 l2 (.lst (xs.drop j))):=af hl2 _
     have g7:(upd H6 l2 (.lst (xs.drop j))) l2=some (.lst (xs.drop j)):=ae
     generalize upd H6 l2 (.lst (xs.drop j))=H7 at s7 g7 ⊢
     refine ⟨l2,rfl,⟨_,ao.of g7⟩,fun nb hnb=>?_⟩
     have nlb:l2≠nb:=ai g7 hnb
     have ln:(xs.drop j).length=kvs.length - j:=by rw [Ex,xl]
     obtain ⟨W,eW⟩ : ∃W:Nat->Str,W=fun a=>match tr (g2 f f') a (beg2 b1 b2 ins iw) with | some z=>aQ f f' z.1 | none=>"":=⟨_,rfl⟩
     have hW:∀{a:Nat} {z:Pr} {x:List Int},tr (g2 f f') a (beg2 b1 b2 ins iw)=some (z,x)->W a=aQ f f' z:=fun {a z x} h=>by rw [eW]; show (match tr (g2 f f') a (beg2 b1 b2 ins iw) with | some z=>aQ f f' z.1 | none=>"")=_; rw [h]
     refine bu (xs:=xs.drop j) (fun i H3=>H3=upd H7 nb (.lst ((D5 i).map fun a=>V.str (W (j + a))))) rfl (fun i H3 _ e=>?_) (fun i x H3 hx e=>?_) (fun H3 e=>?_)
     · subst e
       exact ao.of (by rw [aj nlb]; exact g7)
     · subst e
       have hil:i < (xs.drop j).length:=(List.getElem?_eq_some_iff.mp hx).1
       rw [List.getElem?_drop] at hx
       obtain ⟨ra,pa',qa,va,rfl,ha,_,hta⟩:=rows _ _ hx
       refine ⟨ra,_,rfl,aq.of (by rw [aj (ai (s7 _ _ ha) hnb)]; exact s7 _ _ ha),rfl,_,_,rfl,_,_,rfl,rfl,?_⟩
       refine dk (A:=fun H3=>dR (oi 1) nb _ H3 _) ⟨_,rfl,_,ae,En (show _<=4000000 by rw [DC,F8]; omega) (by decide),aM (Pv:=fun i H3=>H3=upd H7 nb (.lst ((D5 i).map fun a=>V.str (W (j + a))))) (by repeat' constructor) hil ?_⟩
       rw [bE,List.range_succ,DS,← hW hta]
       rfl
     subst e
     have s8:ah H7 (upd H7 nb (.lst ((D5 (xs.drop j).length).map fun a=>V.str (W (j + a))))):=af hnb _
     have g8:(upd H7 nb (.lst ((D5 (xs.drop j).length).map fun a=>V.str (W (j + a))))) nb=some (.lst ((D5 (xs.drop j).length).map fun a=>V.str (W (j + a)))):=ae
     generalize upd H7 nb (.lst ((D5 (xs.drop j).length).map fun a=>V.str (W (j + a))))=H8 at s8 g8 ⊢
     have em:((D5 (xs.drop j).length).map fun a=>V.str (W (j + a)))=((D5 (xs.drop j).length).map fun a=>W (j + a)).map V.str:=by rw [EV]; rfl
     rw [em] at g8
     refine ⟨nb,_,rfl,.inl (ao.of g8),rfl,gm _,?_⟩
     rw [show (if true=true then !jE (V.str "both") (((D5 (xs.drop j).length).map fun a=>W (j + a)).map V.str) else jE (V.str "both") (((D5 (xs.drop j).length).map fun a=>W (j + a)).map V.str)) = !decide (("both":Str)∈(D5 (xs.drop j).length).map fun a=>W (j + a)) by rw [if_pos rfl,dQ]]
     refine ⟨JD,fun r HR=>?_⟩
     have s9:=af HR (.tup [.ref rl,.int (j:Nat),.bl (!decide (("both":Str)∈(D5 (xs.drop j).length).map fun a=>W (j + a)))])
     have s69:=aa s7 (aa s8 s9)
     refine q r rl _ _ xs _ (aa s6 s69) ae (s69 _ _ g6) (by omega) (fun j x hx=>by rw [ef,ef']; exact (rows j x hx).keep (ah.tk s69)) ?_
     rw [ef,ef',xl]
     refine .inr ⟨j,pq,vj,v,hj,trj,htr,?_⟩
     constructor
     · intro z a z2 x h1 h2 h3 h4
       have:("both":Str)∈(D5 (xs.drop j).length).map fun a=>W (j + a):=List.mem_map.mpr ⟨a - j,List.mem_range.mpr (by omega),by show W (j + (a - j))=_; rw [show j + (a - j)=a by omega,hW h3]; exact h4⟩
       rw [decide_eq_true this] at z
       cases z
     · intro z
       have:("both":Str) ∉ (D5 (xs.drop j).length).map fun a=>W (j + a):=fun y=>by
         obtain ⟨a,ha,ea⟩:=List.mem_map.mp y
         have hal:=List.mem_range.mp ha
         obtain ⟨x,hx⟩ : ∃x,xs[j + a]? = some x:=⟨_,DH (by omega)⟩
         obtain ⟨_,_,qa,va,_,_,_,hta⟩:=rows _ _ hx
         have ea:W (j + a)="both":=ea
         rw [hW hta] at ea
         exact z (j + a) qa va (by omega) (by omega) hta ea
       rw [decide_eq_false this]
       rfl
theorem tu (s:Src K mg "_law_walk" sWalk)(m_len:mg "len"=none)(ST0:aF P w K mg base "_law_start" ["program","inputs"] 1 jt)(WH0:aF P w K mg base "_law_who" ["one","other","p","q"] 1 mB)(BE0:aF P w K mg base "_law_behind" ["one","other","who","pairing"] 53 pL):aF P w K mg base "_law_walk" ["one","other","inputs"] 54 og:=
 let ⟨f,fd,F,m⟩:=s
 ⟨f,fd,wy F m_len ST0 WH0 BE0,F.kp,pU F fun _ _ _ _ _ _ _ _ _=>rfl,m⟩
end
end TW
set_option Elab.async false
set_option linter.all false
set_option maxRecDepth 100000
set_option exponentiation.threshold 4000
set_option maxHeartbeats 1000000
namespace TW
open PySem L2
section
variable {P:Program}{w:World}{K:DA}{mg:Str->Option Value}{base:Heap}
abbrev sAlk:Stmt:=top 49
/-! ### _law_alike -/
def pK:Sp:=fun vs H Q _=>∃(u:V),vs=[u,u]/\(u=.aU\/∃n:Int,u=.int n)/\∀H',ah H H'->Q (.bl true) H'
theorem Bd:au ["found","due"] ["found","due"] (ag sAlk):=⟨rfl,rfl,rfl,by decide +kernel,rfl,by decide +kernel,by decide +kernel⟩
theorem qe:(ag sAlk).names.lookup (DD "bool")=some .globalImplicit:=by decide +kernel
theorem si:(ag sAlk).names.lookup (DD "int")=some .globalImplicit:=by decide +kernel
theorem bK:(ag sAlk).names.lookup (DD "isinstance")=some .globalImplicit:=by decide +kernel
theorem qf:(ag sAlk).names.lookup (DD "list")=some .globalImplicit:=by decide +kernel
theorem sk:(ag sAlk).names.lookup (DD "str")=some .globalImplicit:=by decide +kernel
theorem mZ:(ag sAlk).names.lookup (DD "tuple")=some .globalImplicit:=by decide +kernel
theorem yK {f:Addr}{fd:FuncData}(F:cB K "_law_alike" "_law_alike" sAlk f fd)(m_isinstance:mg "isinstance"=none)(m_bool:mg "bool"=none)(m_int:mg "int"=none)(m_str:mg "str"=none)(m_tuple:mg "tuple"=none)(m_list:mg "list"=none)(m_len:mg "len"=none)(m_range:mg "range"=none):aL P w K mg base CX0 1 f fd ["found","due"] pK:=by
 refine F.ok Bd (fun vs H Q E h=>?_) (fun cdv A outer s H vs Q E hr h=>?_)
 · obtain ⟨u,rfl,_⟩:=h
   rfl
 · obtain ⟨u,rfl,hu,q⟩:=h
   refine fI ⟨_,(G3 (Hn (HM (Ik (Hk Iy (GY 1) HS) (Il (Iw (Hv L3.oG bK m_isinstance (by decide +kernel) (GZ (GY 1) (GZ (Iz (w:=.ty "str") sk m_str (by decide +kernel) rfl) G0))))))) (G6 (Hi (HK Hw (GY 0) (GY 1)))) Ho)
     (G3 (Hn (Iw (Hv L3.oG bK m_isinstance (by decide +kernel) (GZ (GY 1) (GZ (G8 (GZ (Iz (w:=.ty "tuple") mZ m_tuple (by decide +kernel) rfl) (GZ (Iz (w:=.ty "list") qf m_list (by decide +kernel) rfl) G0))) G0)))) IE Ho)
     (G6 (Hi (Iv (Hv L3.oG bK m_isinstance (by decide +kernel) (GZ (GY 0) (GZ (Iz (w:=.ty "int") si m_int (by decide +kernel) rfl) G0))) (Iv (L3.Ci (Hv L3.oG bK m_isinstance (by decide +kernel) (GZ (GY 0) (GZ (Iz (w:=.ty "bool") qe m_bool (by decide +kernel) rfl) G0)))) (L3.wz (HK Hw (GY 0) (GY 1))))))))),?_⟩
   refine a8 fun Rk kR=>?_
   rcases hu with rfl | ⟨n,rfl⟩
   · refine ⟨_,rfl,rfl,_,rfl,az (fun _=>cN ?_) (fun c=>absurd (decide_eq_true rfl) c)⟩
     exact ⟨_,rfl,_,rfl,rfl,by rw [decide_eq_true rfl]; exact q _ (same_refl _)⟩
   refine ⟨_,rfl,rfl,_,rfl,az (fun c=>absurd (of_decide_eq_true c) (by simp)) (fun _=>?_)⟩
   refine ⟨_,rfl,.inl ⟨_,"str",_,false,rfl,TyOf.int _,rfl,_,rfl,fK ?_⟩⟩
   refine kR _ _ ?_
   clear kR
   refine a8 fun Rk kR=>?_
   refine ⟨_,rfl,JC,fun t ht=>?_⟩
   have s1:ah H (upd H t (.tup [.ty "tuple",.ty "list"])):=af ht _
   have g1:(upd H t (.tup [.ty "tuple",.ty "list"])) t=some (.tup [.ty "tuple",.ty "list"]):=ae
   generalize upd H t (.tup [.ty "tuple",.ty "list"])=H1 at s1 g1 ⊢
   refine .inr ⟨_,t,["tuple","list"],_,false,rfl,g1,TyS.int _,rfl,_,rfl,fK ?_⟩
   refine kR _ _ ?_
   refine ⟨_,rfl,.inl ⟨_,"int",_,true,rfl,TyOf.int _,rfl,_,rfl,cN ?_⟩⟩
   refine ⟨_,rfl,.inl ⟨_,"bool",_,false,rfl,TyOf.int _,rfl,_,rfl,_,rfl,cN ?_⟩⟩
   refine ⟨_,rfl,_,rfl,rfl,?_⟩
   rw [decide_eq_true rfl]
   exact q _ s1
theorem vG (s:Src K mg "_law_alike" sAlk)(m_isinstance:mg "isinstance"=none)(m_bool:mg "bool"=none)(m_int:mg "int"=none)(m_str:mg "str"=none)(m_tuple:mg "tuple"=none)(m_list:mg "list"=none)(m_len:mg "len"=none)(m_range:mg "range"=none):aF P w K mg base "_law_alike" ["found","due"] 1 pK:=
 let ⟨f,fd,F,m⟩:=s
 ⟨f,fd,yK F m_isinstance m_bool m_int m_str m_tuple m_list m_len m_range,F.kp,cu F fun _ _ _ _ _ _ _ _=>rfl,m⟩
end
end TW
set_option Elab.async false
set_option linter.all false
set_option maxRecDepth 100000
set_option exponentiation.threshold 4000
set_option maxHeartbeats 1000000
namespace TW
open PySem L2
section
variable {P:Program}{w:World}{K:DA}{mg:Str->Option Value}{base:Heap}
/-! ### counting,and what is due -/
section
variable {f f':Int×List Int->Option (List Int×Int×List Int)}{p0:Pr}
def Bc (r:Option (List Int×Int×List Int)):Bool:=match r with
 | some (_ :: _,_)=>true
 | _=>false
def fw (f f':Int×List Int->Option (List Int×Int×List Int))(q:Pr):Bool:=decide (V.str (aQ f f' q)=.str "both") && Bc (f q.1)
def cx (f f':Int×List Int->Option (List Int×Int×List Int))(p0:Pr):Nat->Nat
 | 0=>0
 | i + 1=>cx f f' p0 i + match tr (g2 f f') i p0 with
   | some z=>if fw f f' z.1=true then 1 else 0
   | none=>0
theorem mP {i:Nat}{q:Pr}{v:List Int}(h:tr (g2 f f') i p0=some (q,v)):cx f f' p0 (i + 1)=cx f f' p0 i + if fw f f' q=true then 1 else 0:=by
 show cx f f' p0 i + (match tr (g2 f f') i p0 with | some z=>if fw f f' z.1=true then 1 else 0 | none=>0)=_
 rw [h]
theorem rT:∀i:Nat,cx f f' p0 i<=i
 | 0=>DJ _
 | i + 1=>by
   have ih:=rT i
   show cx f f' p0 i + (match tr (g2 f f') i p0 with | some z=>if fw f f' z.1=true then 1 else 0 | none=>0)<=i + 1
   cases tr (g2 f f') i p0 with
   | none=>show cx f f' p0 i + 0<=i + 1; omega
   | some z=>show cx f f' p0 i + (if fw f f' z.1=true then 1 else 0)<=i + 1; split <;> omega
theorem kr (one1:∀t x u,f t=some (x,u)->x.length<=1):∀{k:Nat} {q:Pr} {v:List Int},tr (g2 f f') k p0=some (q,v)->cx f f' p0 k=v.length
 | 0,q,v,h=>by cases h; rfl
 | k + 1,q,v,h=>by
   obtain ⟨r,u,x,h1,h2,rfl⟩:=gi h
   rw [mP h1,kr one1 h1,DE]
   congr 1
   unfold fw
   rcases ed h2 with ⟨t,t',b1,b2,rfl,hw⟩ | ⟨rfl,_,_,hw⟩ | ⟨rfl,_,_,hw⟩
   · rw [hw,b1]
     have:=one1 _ _ _ b1
     cases x with
     | nil=>rfl
     | cons a y=>
       cases y with
       | nil=>rfl
       | cons _ _=>simp at this
   · rw [hw]; rfl
   · rw [hw]; rfl
theorem rW {sd sd':List Int}{rd rd':Option (List Int)}{n m:Nat}(h:bR sd rd sd' rd' n)(k:bR sd rd sd' rd' m):n=m:=by
 by_cases a:n < m
 · exact absurd (k.1 n a) h.2
 · by_cases b:m < n
   · exact absurd (h.1 m b) k.2
   · omega
theorem rV {sd sd':List Int}{rd rd':Option (List Int)}{n:Nat}(h:bR sd rd sd' rd' n):bR sd' rd' sd rd n:=
 ⟨fun i hi=>⟨(h.1 i hi).1.symm,by rw [← (h.1 i hi).1]; exact (h.1 i hi).2⟩,fun z=>h.2 ⟨z.1.symm,by rw [← z.1]; exact z.2⟩⟩
/-- the value that is due of two runs -/
def Due (sd:List Int)(rd:Option (List Int))(sd':List Int)(rd':Option (List Int))(u:V):Prop:=(bL sd rd sd' rd'/\u=.aU)\/(¬ bL sd rd sd' rd'/\∃n:Nat,u=.int (n:Nat)/\bR sd rd sd' rd' n)
theorem Due.uniq {sd sd':List Int}{rd rd':Option (List Int)}{u v:V}(h:Due sd rd sd' rd' u)(k:Due sd rd sd' rd' v):u=v:=by
 rcases h with ⟨a,rfl⟩ | ⟨a,n,rfl,c⟩
 · rcases k with ⟨_,rfl⟩ | ⟨b,_⟩
   · rfl
   · exact absurd a b
 · rcases k with ⟨b,_⟩ | ⟨_,m,rfl,c2⟩
   · exact absurd b a
   · rw [rW c c2]
theorem Due.symm {sd sd':List Int}{rd rd':Option (List Int)}{u:V}(h:Due sd rd sd' rd' u):Due sd' rd' sd rd u:=by
 rcases h with ⟨a,e⟩ | ⟨a,n,e,c⟩
 · exact .inl ⟨a.symm,e⟩
 · exact .inr ⟨fun z=>a z.symm,n,e,rV c⟩
theorem Due.val {sd sd':List Int}{rd rd':Option (List Int)}{u:V}(h:Due sd rd sd' rd' u):u=.aU\/∃n:Int,u=.int n:=by
 rcases h with ⟨_,e⟩ | ⟨_,n,e,_⟩
 · exact .inl e
 · exact .inr ⟨_,e⟩
/-- what the law reckons of a walk is due -/
theorem yk {n:Nat}{pt:Bool}(one1:∀t x u,f t=some (x,u)->x.length<=1)(one2:∀t x u,f' t=some (x,u)->x.length<=1)(o:xX f f' p0 n pt){sd sd':List Int}{rd rd':Option (List Int)}{m m':Nat}(rt:aO f p0.1 (sd,rd,m))(rt':aO f' p0.2 (sd',rd',m')) :
   ∃q v,1<=n/\tr (g2 f f') (n - 1) p0=some (q,v)/\(pt=false->Due sd rd sd' rd' .aU)/\(pt=true->Due sd rd sd' rd' (.int ((cx f f' p0 n:Nat) - if decide (V.str (aQ f f' q)=.str "both")=true then 1 else 0))):=by
 rcases o with ⟨k,q,v,rfl,htr,hn,hpt⟩ | ⟨j,q,v,v2,hj,h1,h2,hpt⟩
 · refine ⟨q,v,by omega,htr,fun z=>?_,fun z=>?_⟩
   · have hw:aQ f f' q="end":=by
       by_cases y:aQ f f' q="end"
       · exact y
       · rw [hpt.mpr y] at z; cases z
     rcases mG one1 one2 rt rt' htr hn with ⟨_,a⟩ | ⟨y | y,_⟩
     · exact .inl ⟨a,rfl⟩
     · rw [hw] at y; exact absurd y (by decide)
     · rw [hw] at y; exact absurd y (by decide)
   · have hw:=hpt.mp z
     rcases mG one1 one2 rt rt' htr hn with ⟨y,_⟩ | ⟨y,a,c⟩
     · exact absurd y hw
     · refine .inr ⟨a,v.length,?_,c⟩
       rw [mP htr,kr one1 htr]
       rcases y with y | y
       · rw [show fw f f' q=false by unfold fw; rw [y]; rfl,y]
         exact congrArg V.int (show (((v.length + 0:Nat):Int) - 0)=((v.length:Nat):Int) by omega)
       · have hs:fw f f' q=true:=by
           rcases oS hn with ⟨_,_,e⟩ | ⟨e,_⟩ | ⟨_,a,r,t,b,r',t',e1,e2,ne⟩
           · rw [y] at e; exact absurd e (by decide)
           · rw [y] at e; exact absurd e (by decide)
           · unfold fw
             rw [y,e1]
             rfl
         rw [hs,y]
         exact congrArg V.int (show (((v.length + 1:Nat):Int) - 1)=((v.length:Nat):Int) by omega)
 · obtain ⟨y,hy,_⟩:=dH h2 (show n - 1<=n by omega)
   refine ⟨y.1,y.2,by omega,hy,fun z=>?_,fun z=>?_⟩
   · by_cases ex:∃a r x,j<=a/\a < n/\tr (g2 f f') a p0=some (r,x)/\aQ f f' r="both"
     · obtain ⟨a,r,x,e1,e2,e3,e4⟩:=ex
       exact .inl ⟨rB (s:=p0.1) (s':=p0.2) rt rt' h1 h2 e1 e2 e3 e4,rfl⟩
     · rw [hpt.mpr fun a r x e1 e2 e3 e4=>ex ⟨a,r,x,e1,e2,e3,e4⟩] at z
       cases z
   · have nb:=hpt.mp z
     obtain ⟨a,c⟩:=rC (s:=p0.1) (s':=p0.2) rt rt' hj h1 h2 nb
     have hw:=nb (n - 1) y.1 y.2 (by omega) (by omega) hy
     refine .inr ⟨a,v2.length,?_,c⟩
     rw [kr one1 h2,decide_eq_false (fun z=>hw (by injection z))]
     exact congrArg V.int (show (((v2.length:Nat):Int) - 0)=((v2.length:Nat):Int) by omega)
end
theorem uf {f f':Int×List Int->Option (List Int×Int×List Int)}{p0:Pr}{n:Nat}{pt:Bool}(o:xX f f' p0 n pt):∃q v,1<=n/\tr (g2 f f') (n - 1) p0=some (q,v):=by
 rcases o with ⟨k,q,v,rfl,htr,_⟩ | ⟨j,q,v,v2,hj,h1,h2,_⟩
 · exact ⟨q,v,by omega,htr⟩
 · obtain ⟨y,hy,_⟩:=dH h2 (show n - 1<=n by omega)
   exact ⟨y.1,y.2,by omega,hy⟩
theorem at_neg {xs:List V}{x:V}(h:xs[xs.length - 1]? = some x)(h1:1<=xs.length):eR xs (-1)=some x:=by
 unfold eR tG
 rw [if_neg (by decide),if_pos (by omega)]
 show xs[(-1 + ((xs.length:Nat):Int)).toNat]? = some x
 rw [show (-1 + ((xs.length:Nat):Int)).toNat=xs.length - 1 by omega]
 exact h
theorem zD {b:List (Str×Int)}{ws:List Int}:∀e:Nd,decide (V.str e.kn=.str "say")=Bc (b8 b ws e)
 | .put _ _ _=>(by decide:decide (V.str "put"=.str "say")=false)
 | .say _ _=>(by decide:decide (V.str "say"=.str "say")=true)
 | .test _ _ _=>(by decide:decide (V.str "test"=.str "say")=false)
 | .fin=>(by decide:decide (V.str "end"=.str "say")=false)
theorem ud {H:Hp}{v:V}{bs:List (Str×Int)}{ins:List Str}{nds:List Nd}(_g:jG H v bs ins nds):∀t x u,aG bs nds t=some (x,u)->x.length<=1:=fun t x u h=>by
 unfold aG at h
 cases e:nds[t.1.toNat]? with
 | none=>rw [e] at h; cases h
 | some nd=>
   rw [e] at h
   have h:b8 bs t.2 nd=some (x,u):=h
   cases nd <;> cases h <;> simp
/-! ### the two programs -/
theorem uW:∀{bs:List (Str×Int)},(∀b∈bs,1<=b.2/\b.2<=6)->cX bs<=6 ^ bs.length
 | [],_=>DJ _
 | b :: bs,h=>by
   have h1:=(h b Ef).2
   have h2:=uW (bs:=bs) fun c hc=>h c (El _ hc)
   show b.2.toNat * cX bs<=6 ^ (bs.length + 1)
   rw [Nat.pow_succ,Nat.mul_comm]
   exact GC h2 (by omega)
theorem Pg.cX {bs:List (Str×Int)}{ins:List Str}{nds:List Nd}{d:Nat}(h:Pg bs ins nds 8 d):nds.length * TW.cX bs<=2000:=by
 have h1:=uW h.sz
 have h2:(6:Nat) ^ bs.length<=6 ^ 3:=Nat.pow_le_pow_right (by decide) h.l3
 have h3:TW.cX bs<=216:=Eb h1 h2
 have h4:=h.few
 have h5:nds.length * TW.cX bs<=8 * 216:=GC (by omega) h3
 exact Eb h5 (by decide)
theorem Pg.fits {bs:List (Str×Int)}{ins:List Str}{nds:List Nd}{F:Int}{d:Nat}(h:Pg bs ins nds F d):Fits bs ins:=by
 have il:=sub_len h.ind h.sub
 rw [DC] at il
 have:=h.l3
 exact ⟨h.nd,by omega,fun b hb=>(h.sz b hb).1,h.ind,h.sub,by omega⟩
theorem Pg.il {bs:List (Str×Int)}{ins:List Str}{nds:List Nd}{F:Int}{d:Nat}(h:Pg bs ins nds F d):ins.length<=3:=by
 have il:=sub_len h.ind h.sub
 rw [DC] at il
 exact Eb il h.l3
theorem Pg.prg {H:Hp}{v:V}{bs:List (Str×Int)}{ins:List Str}{nds:List Nd}{F:Int}(h:Pg bs ins nds F 5)(pa:aI H v bs ins nds):jG H v bs ins nds:=⟨pa,h.fits,h.one,fun e he=>(h.gd e he).mono (E4 _) (by decide)⟩
theorem tH {b1 b2:List (Str×Int)}{ins:List Str}(k:pT ins b1 b2)(n1:(b1.map (·.1)).Nodup)(n2:(b2.map (·.1)).Nodup)(sub:∀x∈ins,x∈b1.map (·.1)):ins.map (bo b1)=ins.map (bo b2):=List.map_congr_left fun x hx=>by
 obtain ⟨b,hb,rfl⟩:=List.mem_map.mp (sub x hx)
 rw [f7 n1 hb,f7 n2 (k b hb hx)]
structure C7 (H:Hp)(v1 v2:V)(b1 b2:List (Str×Int))(ins:List Str)(n1 n2:List Nd):Prop where
 g1:jG H v1 b1 ins n1
 g2:jG H v2 b2 ins n2
 sz:ins.map (bo b1)=ins.map (bo b2)
 f1:n1.length * cX b1<=2000
 f2:n2.length * cX b2<=2000
 s6:∀b∈b1,b.2<=6
 il:ins.length<=3
theorem ya.bth {H:Hp}{v1 v2:V}{b1 b2:List (Str×Int)}{ins:List Str}{n1 n2:List Nd}(h:ya H v1 v2 b1 b2 ins n1 n2 8\/ya H v2 v1 b2 b1 ins n2 n1 8):C7 H v1 v2 b1 b2 ins n1 n2:=by
 rcases h with h | h
 · exact ⟨h.g1.prg h.p1,h.g2.prg h.p2,tH h.k h.g1.nd h.g2.nd h.g1.sub,h.g1.cX,h.g2.cX,fun b hb=>(h.g1.sz b hb).2,h.g1.il⟩
 · exact ⟨h.g2.prg h.p2,h.g1.prg h.p1,(tH h.k h.g1.nd h.g2.nd h.g1.sub).symm,h.g2.cX,h.g1.cX,fun b hb=>(h.g2.sz b hb).2,h.g2.il⟩
/-! ### the law -/
abbrev sLaw:Stmt:=top 50
def pM (K:DA):Sp:=fun vs H Q _=>∃(a:Addr) (ns:List Int),vs=[.ref a]/\ao K H a (ns.map V.int)/\ns.length<=63/\∀H',Q (.bl true) H'
theorem di:au ["script","one","other","handed","inputs","rows","at","parted","said","due","some","given"] ["script"] (ag sLaw):=⟨rfl,rfl,rfl,by decide +kernel,rfl,by decide +kernel,by decide +kernel⟩
theorem i6:(ag sLaw).names.lookup (DD "_law_alike")=some .globalImplicit:=by decide +kernel
theorem eL:(ag sLaw).names.lookup (DD "_law_copy")=some .globalImplicit:=by decide +kernel
theorem ie:(ag sLaw).names.lookup (DD "_law_inputs")=some .globalImplicit:=by decide +kernel
theorem jL:(ag sLaw).names.lookup (DD "_law_pair")=some .globalImplicit:=by decide +kernel
theorem jM:(ag sLaw).names.lookup (DD "_law_walk")=some .globalImplicit:=by decide +kernel
theorem i0:(ag sLaw).names.lookup (DD "alike_for")=some .globalImplicit:=by decide +kernel
theorem su:(ag sLaw).names.lookup (DD "int")=some .globalImplicit:=by decide +kernel
theorem sF:(ag sLaw).names.lookup (DD "len")=some .globalImplicit:=by decide +kernel
theorem qi:(ag sLaw).names.lookup (DD "list")=some .globalImplicit:=by decide +kernel
theorem yN {f:Addr}{fd:FuncData}(F:cB K "law" "law" sLaw f fd)(m_int:mg "int"=none)(m_len:mg "len"=none)(m_list:mg "list"=none)(PR0:aF P w K mg base "_law_pair" ["script","most"] 5 (n9 K))(CP0:aF P w K mg base "_law_copy" ["program"] 1 kS)(IN0:aF P w K mg base "_law_inputs" ["program"] 1 kT)(WK0:aF P w K mg base "_law_walk" ["one","other","inputs"] 54 og)(AL0:aF P w K mg base "_law_alike" ["found","due"] 1 pK)(AF0:aF P w K mg base "alike_for" ["one","other","inputs"] 32 n8):aL P w K mg base CX0 65 f fd ["script"] (pM K):=by
 refine F.ok di (fun vs H Q E h=>?_) (fun cdv A outer s H vs Q E hr h=>?_)
 · obtain ⟨a,ns,rfl,_⟩:=h
   rfl
 · obtain ⟨a,ns,rfl,hS,nl,q⟩:=h
   have PR:=PR0.mono (show 5<=64 by omega)
   have CP:=CP0.mono (show 1<=64 by omega)
   have IN:=IN0.mono (show 1<=64 by omega)
   have WK:=WK0.mono (show 54<=64 by omega)
   have AL:=AL0.mono (show 1<=64 by omega)
   have AF:=AF0.mono (show 32<=64 by omega)
   refine fI ⟨_,(G3 (HP (Hj PR hr jL (GZ (GY 0) (GZ G1 G0))) (HG 2 (Hl (Hh 1 di.nd) (Hl (Hh 2 di.nd) HH))))
     (G3 (G9 3 di.nd (G8 (GZ (Hj CP hr eL (GZ (GY 1) G0)) (GZ (Hj CP hr eL (GZ (GY 2) G0)) G0))))
     (G3 (HW (HQ (L3.xG (Hj IN hr ie (GZ (GY 1) G0)) (H0 G1))) (Hh 4 di.nd) (G3 (HP (Hj WK hr jM (GZ (GY 1) (GZ (GY 2) (GZ (GY 4) G0)))) (HG 3 (Hl (Hh 5 di.nd) (Hl (Hh 6 di.nd) (Hl (Hh 7 di.nd) HH)))))
     (G3 (L3.Cq (i:=8) [none,none,some 1] ["pairing","who","one"] (show aA _ (ag sLaw) from ⟨rfl,by decide +kernel,by decide +kernel,by decide +kernel⟩) (by rfl) (HQ (GY 5)) (fun _ _ _ _ _=>⟨(HG 2 (Hl (Hh 0 (show (["pairing","who","one"]:List Str).Nodup from by decide +kernel)) (Hl (Hh 1 (show (["pairing","who","one"]:List Str).Nodup from by decide +kernel)) HH))),(L3.if1 (HM (Ig (Hk Hw (GY 1) G7) (Ih (Hk Hw (G2 G5 (G2 Hm (G2 G5 (GY 2) G1) (G2 G5 (GY 0) G1)) G1) G7))))),G1⟩) di.nd)
     (G3 (G9 9 di.nd HS)
     (G3 (Hn (Iw (GY 7)) (G6 (G9 9 di.nd (G4 Ii (Hv Hz sF m_len DQ (GZ (GY 8) G0)) (HI Ib su m_int (by decide +kernel) (GZ (HK Hw (G2 G5 (G2 Hm (GY 5) (H0 G1)) G1) G7) G0))))) Ho)
     (G6 (HW (HQ (Hy (GZ (GY 3) (GZ (L3.zJ (GY 3) (H0 G1)) G0)))) (Hh 10 di.nd) (G3 (G9 11 di.nd (HI HX qi m_list (by decide +kernel) (GZ (GY 4) G0)))
     (G6 (Hn (HM (Ik (L3.nt (Iw (Hj AL hr i6 (GZ (Hj AF hr i0 (GZ (G2 G5 (GY 10) G1) (GZ (G2 G5 (GY 10) G1) (GZ (GY 11) G0)))) (GZ (GY 9) G0))))) (Il (Hk (Ip (m:=0) (bB hr _ (by decide))) (GY 11) (GY 4))))) (G6 (Hi L3.bl)) Ho))))))))))
     (G6 (Hi (HK (L3.tT (m:=3) (bB hr _ (by decide))) (GY 3) (G8 (GZ (GY 1) (GZ (GY 2) G0))))))))),?_⟩
   refine eB fun Rk kR=>?_
   refine ⟨_,rfl,a,ns,6,rfl,hS,by decide,by decide,fun pp v1 v2 H1 b1 b2 ins n1 n2 s1 hpp two=>?_⟩
   have bt:=ya.bth two
   refine ⟨pp,_,rfl,aq.of hpp,rfl,_,_,rfl,_,_,rfl,rfl,?_⟩
   obtain ⟨p1,B1,I1,N1,vb1,vn1,rfl,hp1,hB1,hI1,hN1,pb1,pn1⟩:=id bt.g1.pa
   obtain ⟨p2,B2,I2,N2,vb2,vn2,rfl,hp2,hB2,hI2,hN2,pb2,pn2⟩:=id bt.g2.pa
   refine ⟨_,rfl,p1,B1,I1,N1,_,_,_,rfl,hp1,hB1,hI1,hN1,fun c1 CB CI CN HA sA hc1 hCB hCI hCN=>?_⟩
   refine ⟨_,rfl,p2,B2,I2,N2,_,_,_,rfl,sA _ _ hp2,sA _ _ hB2,sA _ _ hI2,sA _ _ hN2,fun c2 DB DI DN HB sB hc2 hDB hDI hDN=>?_⟩
   refine ⟨JC,fun hd hhd=>?_⟩
   have sC:ah HB (upd HB hd (.tup [.ref c1,.ref c2])):=af hhd _
   have ghd:(upd HB hd (.tup [.ref c1,.ref c2])) hd=some (.tup [.ref c1,.ref c2]):=ae
   generalize upd HB hd (.tup [.ref c1,.ref c2])=HC at sC ghd ⊢
   have sAC:=aa sB sC
   have s1C:=aa sA sAC
   refine aw ?_
   refine kR _ _ ?_
   refine bP [some (.ref a),some (.ref p1),some (.ref p2),some (.ref hd),none,none,none,none,none,none,none,none] rfl ?_
   clear kR
   have g1C:=bt.g1.same s1C
   have g2C:=bt.g2.same s1C
   have k1:jG HC (.ref c1) b1 ins n1:=⟨⟨c1,CB,CI,CN,vb1,vn1,rfl,sAC _ _ hc1,sAC _ _ hCB,sAC _ _ hCI,sAC _ _ hCN,Paired.mapP pb1 fun a b h=>Tp.keep (ah.tk s1C) h,Paired.mapP pn1 fun a b h=>aZ.keep (ah.tk s1C) h⟩,bt.g1.ft,bt.g1.one,bt.g1.gd⟩
   have k2:jG HC (.ref c2) b2 ins n2:=⟨⟨c2,DB,DI,DN,vb2,vn2,rfl,sC _ _ hc2,sC _ _ hDB,sC _ _ hDI,sC _ _ hDN,Paired.mapP pb2 fun a b h=>Tp.keep (ah.tk s1C) h,Paired.mapP pn2 fun a b h=>aZ.keep (ah.tk s1C) h⟩,bt.g2.ft,bt.g2.one,bt.g2.gd⟩
   refine a8 fun Rk kR=>?_
   refine ⟨_,rfl,.ref p1,b1,ins,n1,rfl,g1C.pa,bt.g1.ft,bt.s6,bt.il,fun li xs HD sD hli xl xin=>⟨_,rfl,rfl,li,_,rfl,ao.of hli,fun lr hlr=>?_⟩⟩
   have sE:ah HD (upd HD lr (.lst xs.reverse)):=af hlr _
   have glr:(upd HD lr (.lst xs.reverse)) lr=some (.lst xs.reverse):=ae
   generalize upd HD lr (.lst xs.reverse)=HE at sE glr ⊢
   have sCE:=aa sD sE
   refine ⟨lr,rfl,⟨_,ao.of glr⟩,?_⟩
   refine fA (xs:=xs.reverse) (fun i σ H2=>(∃o4 o5 o6 o7 o8 o9 oa ob:Option V,σ=[some (.ref a),some (.ref p1),some (.ref p2),some (.ref hd),o4,o5,o6,o7,o8,o9,oa,ob])/\ah HE H2) ⟨⟨_,_,_,_,_,_,_,_,rfl⟩,same_refl _⟩ (fun i σ H2 _ z=>ao.of (z.2 _ _ glr)) (fun i x σ H2 hx z=>?_) (fun σ H2 z=>?_)
   · obtain ⟨⟨o4,o5,o6,o7,o8,o9,oa,ob,rfl⟩,s2⟩:=z
     obtain ⟨ia,iw,rfl,hia,pw⟩:=xin x (List.mem_reverse.mp (DR hx))
     have hia2:=s2 _ _ (sE _ _ hia)
     have sC2:=aa sCE s2
     refine aw ?_
     refine jI fun Rj kj=>?_
     have wk:xh H2 (.ref p1) (.ref p2) ia b1 b2 ins n1 n2 iw:=⟨g1C.same sC2,g2C.same sC2,hia2,pw,bt.sz,bt.f1,bt.f2⟩
     refine ⟨_,rfl,_,rfl,_,rfl,.ref p1,.ref p2,ia,b1,b2,ins,n1,n2,iw,rfl,wk,fun r rl atv pt rw H3 s3 hr3 hrl3 xl3 rws out=>⟨r,_,rfl,aq.of hr3,rfl,_,_,rfl,_,_,rfl,_,_,rfl,rfl,?_⟩⟩
     obtain ⟨f,ef⟩ : ∃f,aG b1 n1=f:=⟨_,rfl⟩
     obtain ⟨f',ef'⟩ : ∃f',aG b2 n2=f':=⟨_,rfl⟩
     obtain ⟨p0,ep0⟩ : ∃p0,beg2 b1 b2 ins iw=p0:=⟨_,rfl⟩
     have one1:=ud bt.g1
     have one2:=ud bt.g2
     have o1:=mM bt.g1 pw
     rw [ef,ef',ep0] at rws out
     rw [ef] at one1
     rw [ef'] at one2
     have sC3:=aa sC2 s3
     have hp1':=sC3 _ _ (s1C _ _ hp1)
     have hN1':=sC3 _ _ (s1C _ _ hN1)
     have pn1':Paired (aZ H3) vn1 n1:=Paired.mapP pn1 fun a b h=>aZ.keep (ah.tk (aa s1C sC3)) h
     refine ⟨_,rfl,rl,rfl,⟨_,ao.of hrl3⟩,fun nb hnb=>?_⟩
     have nlb:rl≠nb:=ai hrl3 hnb
     refine bu (xs:=rw) (fun i H4=>H4=upd H3 nb (.lst (Ek (cx f f' p0 i) (V.int 1)))) rfl (fun i H4 _ e=>?_) (fun i x H4 hx e=>?_) (fun H4 e=>?_)
     · subst e
       exact ao.of (by rw [aj nlb]; exact hrl3)
     · subst e
       have hil:i < rw.length:=(List.getElem?_eq_some_iff.mp hx).1
       obtain ⟨ra,pa,qa,va,rfl,ha,hpa,hta⟩:=rws _ _ hx
       obtain ⟨m1,m2,t1,_,_⟩:=nY hta
       rw [← ef,← ep0] at t1
       obtain ⟨so,_⟩:=jA bt.g1.ft.sz bt.g1.gd o1 t1
       obtain ⟨e1,he1⟩:=fZ so
       obtain ⟨y1,at1,y1n⟩:=kI pn1' so.1 he1
       obtain ⟨z1,rr,rfl,gz⟩:=y1n.kn
       have st:∀o,ah H3 (upd H3 nb o):=fun o=>af hnb o
       obtain ⟨wa,ua,hpaa,_,_⟩:=hpa.ex
       have cl:cx f f' p0 i<=4000000:=Eb (rT i) (by omega)
       refine ⟨ra,_,rfl,aq.of (st _ _ _ ha),rfl,_,_,rfl,_,_,rfl,rfl,?_⟩
       have cat:=mP (f:=f) (f':=f') hta
       have eb:fw f f' qa=(decide (V.str (aQ f f' qa)=.str "both") && decide (V.str e1.kn=.str "say")):=by
         unfold fw
         rw [zD (b:=b1) (ws:=qa.1.2) e1,← ef,show qa.1=(qa.1.1,qa.1.2) from rfl,cp he1]
       have no:fw f f' qa=false->(upd H3 nb (.lst (Ek (cx f f' p0 i) (V.int 1))))=upd H3 nb (.lst (Ek (cx f f' p0 (i + 1)) (V.int 1))):=fun z=>by rw [cat,z]; rfl
       have fin:∀b:Bool,fw f f' qa=b->upd (upd H3 nb (.lst (Ek (cx f f' p0 i) (V.int 1)))) nb (.lst (Ek (cx f f' p0 i) (V.int 1)++[V.int 1]))=upd H3 nb (.lst (Ek (cx f f' p0 (i + 1)) (V.int 1)))\/b=false:=fun b z=>by
         cases b with
         | false=>exact .inr rfl
         | true=>
           rw [cat,z,bE]
           exact .inl (by rw [if_pos rfl,GS])
       refine ⟨_,rfl,rfl,_,rfl,?_⟩
       refine az (fun c=>?_) (fun c=>fK (aM (Pv:=fun i H4=>H4=upd H3 nb (.lst (Ek (cx f f' p0 i) (V.int 1)))) (by repeat' constructor) hil (no (by rw [eb,Bool.eq_false_iff.mpr c]; rfl))))
       refine ⟨_,rfl,p1,_,_,_,rfl,rfl,aq.of (st _ _ _ hp1'),rfl,_,rfl,pa,_,_,_,rfl,rfl,aq.of (st _ _ _ hpaa),rfl,N1,_,_,_,rfl,rfl,ao.of (st _ _ _ hN1'),at1,z1,_,_,_,rfl,rfl,aq.of (st _ _ _ gz),ye,rfl,_,rfl,?_⟩
       refine az (fun c2=>?_) (fun c2=>aM (Pv:=fun i H4=>H4=upd H3 nb (.lst (Ek (cx f f' p0 i) (V.int 1)))) (by repeat' constructor) hil (no (by rw [eb,Bool.eq_false_iff.mpr c2,Bool.and_false])))
       refine ⟨_,ae,En (show _<=4000000 by rw [FJ]; exact cl) (by decide),aM (Pv:=fun i H4=>H4=upd H3 nb (.lst (Ek (cx f f' p0 i) (V.int 1)))) (by repeat' constructor) hil ?_⟩
       rcases fin true (by rw [eb,c,c2]; rfl) with z | z
       · exact z
       · cases z
     subst e
     have s4:ah H3 (upd H3 nb (.lst (Ek (cx f f' p0 rw.length) (V.int 1)))):=af hnb _
     have g4:(upd H3 nb (.lst (Ek (cx f f' p0 rw.length) (V.int 1)))) nb=some (.lst (Ek (cx f f' p0 rw.length) (V.int 1))):=ae
     generalize upd H3 nb (.lst (Ek (cx f f' p0 rw.length) (V.int 1)))=H4 at s4 g4 ⊢
     refine aw ?_
     refine aw ?_
     refine kj _ _ ?_
     refine bP [some (.ref a),some (.ref p1),some (.ref p2),some (.ref hd),some (.ref ia),some (.ref rl),some atv,some (.bl pt),some (.ref nb),some (.aU),oa,ob] rfl ?_
     clear kj
     obtain ⟨q0,v0,nn1,hq0⟩:=uf out
     have D0:∀{sd sd':List Int} {rd rd':Option (List Int)} {m m':Nat},aO (aG b1 n1) (0,aN b1 ins iw) (sd,rd,m)->aO (aG b2 n2) (0,aN b2 ins iw) (sd',rd',m')->(pt=false->Due sd rd sd' rd' .aU)/\(pt=true->Due sd rd sd' rd' (.int ((cx f f' p0 rw.length:Nat) - if decide (V.str (aQ f f' q0)=.str "both")=true then 1 else 0))):=fun {sd sd' rd rd' m m'} rt rt'=>by
       rw [ef] at rt
       rw [ef'] at rt'
       rw [← ep0] at out hq0
       obtain ⟨q,v,_,h1,h2,h3⟩:=yk one1 one2 out rt rt'
       rw [hq0] at h1
       cases h1
       rw [← ep0]
       exact ⟨h2,h3⟩
     have hrl4:=s4 _ _ hrl3
     refine a8 fun Rj kj=>?_
     suffices hs:∀dv:V,(∀{sd sd':List Int} {rd rd':Option (List Int)} {m m':Nat},aO (aG b1 n1) (0,aN b1 ins iw) (sd,rd,m)->aO (aG b2 n2) (0,aN b2 ins iw) (sd',rd',m')->Due sd rd sd' rd' dv)->Rj [some (.ref a),some (.ref p1),some (.ref p2),some (.ref hd),some (.ref ia),some (.ref rl),some atv,some (.bl pt),some (.ref nb),some dv,oa,ob] H4 by
       refine ⟨_,rfl,_,rfl,?_⟩
       refine az (fun c=>?_) (fun c=>?_)
       · obtain ⟨x0,hx0⟩ : ∃x0,rw[rw.length - 1]? = some x0:=⟨_,DH (by omega)⟩
         have atl:=at_neg hx0 nn1
         obtain ⟨ra,pa,qa,va,rfl,ha,_,hta⟩:=rws _ _ hx0
         rw [hq0] at hta
         cases hta
         refine ⟨_,rfl,nb,_,rfl,.inl (ao.of g4),_,rfl,_,rfl,rl,_,_,_,rfl,rfl,ao.of hrl4,atl,ra,_,_,_,rfl,rfl,aq.of (s4 _ _ ha),rfl,rfl,.inr ⟨_,rfl,_,_,rfl,rfl,?_⟩⟩
         rw [FJ]
         refine aw ?_
         exact hs _ fun rt rt'=>(D0 rt rt').2 c
       · exact hs .aU fun rt rt'=>(D0 rt rt').1 (Bool.eq_false_iff.mpr c)
     intro dv hdv
     refine kj _ _ ?_
     clear kj
     have sC4:=aa sC3 s4
     have ghd4:=sC4 _ _ ghd
     refine ⟨_,rfl,_,rfl,_,rfl,rfl,hd,_,rfl,aq.of ghd4,fun hv hhv=>?_⟩
     have s5:ah H4 (upd H4 hv (.tup [V.ref c1,V.ref c2].reverse)):=af hhv _
     have ghv:(upd H4 hv (.tup [V.ref c1,V.ref c2].reverse)) hv=some (.tup [V.ref c1,V.ref c2].reverse):=ae
     generalize upd H4 hv (.tup [V.ref c1,V.ref c2].reverse)=H5 at s5 ghv ⊢
     refine ⟨JC,fun ls hls=>?_⟩
     have s6:ah H5 (upd H5 ls (.lst [.ref hd,.ref hv])):=af hls _
     have gls:(upd H5 ls (.lst [.ref hd,.ref hv])) ls=some (.lst [.ref hd,.ref hv]):=ae
     generalize upd H5 ls (.lst [.ref hd,.ref hv])=H6 at s6 gls ⊢
     have s46:=aa s5 s6
     have sC6:=aa sC4 s46
     have s26:=aa s3 (aa s4 s46)
     refine ⟨ls,rfl,⟨_,ao.of gls⟩,?_⟩
     refine fA (xs:=[.ref hd,.ref hv]) (fun i σ H7=>(∃oa ob:Option V,σ=[some (.ref a),some (.ref p1),some (.ref p2),some (.ref hd),some (.ref ia),some (.ref rl),some atv,some (.bl pt),some (.ref nb),some dv,oa,ob])/\ah H6 H7) ⟨⟨_,_,rfl⟩,same_refl _⟩ (fun i σ H7 _ z=>ao.of (z.2 _ _ gls)) (fun i x σ H7 hx z=>?_) (fun σ H7 z=>?_)
     · obtain ⟨⟨oa,ob,rfl⟩,s7⟩:=z
       have sC7:=aa sC6 s7
       have s27:=aa s26 s7
       obtain ⟨hx',ca,cb,ba,bb,na,nbb,rfl,gx,kA,kB,szA,pwA,fa,fb,Dx⟩ : ∃(hx' ca cb:Addr) (ba bb:List (Str×Int)) (na nbb:List Nd),x=.ref hx'/\H7 hx'=some (.tup [.ref ca,.ref cb])/\jG H7 (.ref ca) ba ins na/\jG H7 (.ref cb) bb ins nbb/\ins.map (bo ba)=ins.map (bo bb)/\Paired Within (ins.map (bo ba)) iw/\na.length * cX ba<=100000/\nbb.length * cX bb<=100000/\∀{sd sd':List Int} {rd rd':Option (List Int)} {m m':Nat},aO (aG ba na) (0,aN ba ins iw) (sd,rd,m)->aO (aG bb nbb) (0,aN bb ins iw) (sd',rd',m')->Due sd rd sd' rd' dv:=by
         have f1:=bt.f1
         have f2:=bt.f2
         match i,hx with
         | 0,hx=>
           cases hx
           exact ⟨hd,c1,c2,b1,b2,n1,n2,rfl,sC7 _ _ ghd,k1.same sC7,k2.same sC7,bt.sz,pw,by omega,by omega,hdv⟩
         | 1,hx=>
           cases hx
           exact ⟨hv,c2,c1,b2,b1,n2,n1,rfl,s7 _ _ (s6 _ _ ghv),k2.same sC7,k1.same sC7,bt.sz.symm,by rw [← bt.sz]; exact pw,by omega,by omega,fun rt rt'=>(hdv rt' rt).symm⟩
       have hia7:=s27 _ _ hia2
       refine aw ?_
       refine ⟨_,rfl,ia,_,rfl,.inl (ao.of hia7),fun ga hga=>?_⟩
       have s8:ah H7 (upd H7 ga (.lst (iw.map V.int))):=af hga _
       have gga:(upd H7 ga (.lst (iw.map V.int))) ga=some (.lst (iw.map V.int)):=ae
       generalize upd H7 ga (.lst (iw.map V.int))=H8 at s8 gga ⊢
       refine aw ?_
       have sx:=s8 _ _ gx
       refine ⟨_,rfl,hx',_,_,_,rfl,rfl,aq.of sx,rfl,_,rfl,hx',_,_,_,rfl,rfl,aq.of sx,rfl,_,rfl,_,_,ga,ba,bb,ins,na,nbb,iw,rfl,⟨kA.same s8,kB.same s8,szA,gga,pwA,fa,fb⟩,fun sd rd n sd' rd' n' u H9 s9 rt rt' hu=>?_⟩
       have eu:u=dv:=Due.uniq hu (Dx rt rt')
       subst eu
       refine ⟨_,rfl,u,rfl,Due.val hu,fun Ha sa=>⟨_,rfl,iteF' rfl ?_⟩⟩
       have s8a:=aa s9 sa
       have s7a:=aa s8 s8a
       refine ⟨_,rfl,_,rfl,_,RB.ints (s8a _ _ gga) (s7a _ _ hia7),_,rfl,?_⟩
       refine az (fun c=>absurd c (by rw [decide_eq_true rfl]; decide)) (fun _=>?_)
       exact ⟨⟨_,_,rfl⟩,aa s7 s7a⟩
     · obtain ⟨⟨oa,ob,rfl⟩,s7⟩:=z
       exact ⟨⟨_,_,_,_,_,_,_,_,rfl⟩,aa s2 (aa s26 s7)⟩
   obtain ⟨⟨o4,o5,o6,o7,o8,o9,oa,ob,rfl⟩,s2⟩:=z
   refine kR _ _ ?_
   have sC2:=aa sCE s2
   refine ⟨_,rfl,_,rfl,_,rfl,JC,fun hb hhb=>?_⟩
   have sV:ah H2 (upd H2 hb (.tup [.ref p1,.ref p2])):=af hhb _
   have ghb:(upd H2 hb (.tup [.ref p1,.ref p2])) hb=some (.tup [.ref p1,.ref p2]):=ae
   generalize upd H2 hb (.tup [.ref p1,.ref p2])=HV at sV ghb ⊢
   have sCV:=aa sC2 sV
   have s0V:=aa s1C sCV
   have sAV:=aa sAC sCV
   have sBV:=aa sC sCV
   have rf:∀{n:Nat} {xs:List V},(∀x∈xs,bw x=true\/∃a,x=.ref a)->∀(j:Nat) (x y:V),xs[j]? = some x->xs[j]? = some y->ET K HV n x y:=fun hf j x y hx hy=>by
     rw [hx] at hy
     cases hy
     exact ET.refl (hf x (DR hx))
   have fs':∀l:List Str,∀x∈l.map V.str,bw x=true\/∃a,x=.ref a:=fun l x hx=>by obtain ⟨z,_,rfl⟩:=List.mem_map.mp hx; exact .inl rfl
   have fb:∀{vb:List V} {bs:List (Str×Int)},Paired (cy H1) vb bs->∀x∈vb,bw x=true\/∃a,x=.ref a:=fun pb x hx=>by
     obtain ⟨j,hj,ej⟩:=FU hx
     obtain ⟨b,_,hb⟩:=Paired.get pb (DH hj)
     rw [ej] at hb
     exact .inr hb.ref
   have fn:∀{vn:List V} {nds:List Nd},Paired (aZ H1) vn nds->∀x∈vn,bw x=true\/∃a,x=.ref a:=fun pn x hx=>by
     obtain ⟨j,hj,ej⟩:=FU hx
     obtain ⟨b,_,hb⟩:=Paired.get pn (DH hj)
     rw [ej] at hb
     exact .inr hb.ref
   have prg:∀{p p' B B' I I' N N':Addr} {vb vi vn:List V},HV p=some (.tup [.ref B,.ref I,.ref N])->HV p'=some (.tup [.ref B',.ref I',.ref N'])->HV B=some (.lst vb)->HV B'=some (.lst vb)->HV I=some (.lst vi)->HV I'=some (.lst vi)->HV N=some (.lst vn)->HV N'=some (.lst vn)->(∀x∈vb,bw x=true\/∃a,x=.ref a)->(∀x∈vi,bw x=true\/∃a,x=.ref a)->(∀x∈vn,bw x=true\/∃a,x=.ref a)->ET K HV 3 (.ref p) (.ref p'):=fun h1 h2 h3 h4 h5 h6 h7 h8 g1 g2 g3=>ET.tup (aq.of h1) (aq.of h2) rfl fun j x y hx hy=>by
     match j,hx,hy with
     | 0,hx,hy=>cases hx; cases hy; exact ET.lst (ao.of h3) (ao.of h4) rfl (rf g1)
     | 1,hx,hy=>cases hx; cases hy; exact ET.lst (ao.of h5) (ao.of h6) rfl (rf g2)
     | 2,hx,hy=>cases hx; cases hy; exact ET.lst (ao.of h7) (ao.of h8) rfl (rf g3)
   refine ⟨true,RB.tup (aq.of (sCV _ _ ghd)) (aq.of ghb) rfl (fun j x y hx hy=>?_),q _⟩
   match j,hx,hy with
   | 0,hx,hy=>cases hx; cases hy; exact prg (sAV _ _ hc1) (s0V _ _ hp1) (sAV _ _ hCB) (s0V _ _ hB1) (sAV _ _ hCI) (s0V _ _ hI1) (sAV _ _ hCN) (s0V _ _ hN1) (fb pb1) (fs' _) (fn pn1)
   | 1,hx,hy=>cases hx; cases hy; exact prg (sBV _ _ hc2) (s0V _ _ hp2) (sBV _ _ hDB) (s0V _ _ hB2) (sBV _ _ hDI) (s0V _ _ hI2) (sBV _ _ hDN) (s0V _ _ hN2) (fb pb2) (fs' _) (fn pn2)
end
end TW
set_option Elab.async false
set_option linter.all false
set_option maxRecDepth 100000
namespace TW
open PySem L2
theorem yc {P:Program}{w:World}{K:DA}{mg:Str->Option Value}{fa:Addr}(hfa:mg "law"=some (.ref fa))(t:An w K mg) :
   ∃fd:FuncData,(∀(s:Shared) (u:Value),BindsTo s fd ⟨[u],[]⟩ [("script",u)])/\∀base:Heap,K.In base->base.Ns mainGlobals mg->aL P w K mg base CX0 65 fa fd ["script"] (pM K):=by
 obtain ⟨f,fd,F,m⟩:=t.s_law
 have e:=hfa.symm.trans m
 cases e
 refine ⟨fd,fun s u=>?_,fun base _ _=>?_⟩
 · obtain ⟨oc,od,kV,doc,pm,an,cdv,ct,osl,rfl,lk,hcd⟩:=F.ex
   exact .of_eq rfl
 have CE:=sJ (P:=P) (w:=w) (base:=base) t.s_law_cell_at t.m_len
 have DG:aF P w K mg base "_law_digits" ["cell","many","top"] 1 bZ:=nk t.s_law_digits t.m_range
 have SM:aF P w K mg base "_law_sum" ["number","boxes"] 1 jv:=vK t.s_law_sum t.m_len
 have CO:=sM t.s_law_condition SM
 have ND:=sU t.s_law_node t.m_len DG SM CO
 have PR:=sX t.s_law_program t.m_len t.m_range CE DG ND
 have LE:aF P w K mg base "_law_led" ["node","leads"] 1 mz:=vJ t.s_law_led
 have TU:=nG t.s_law_turned t.m_len t.m_list t.m_range t.m_max LE
 have ID:aF P w K mg base "_law_idle" ["program","number"] 1 jr:=sO t.s_law_idle t.m_len t.m_list
 have SP:aF P w K mg base "_law_spoilt" ["program","number"] 1 d6:=nD t.s_law_spoilt t.m_len
 have BO:aF P w K mg base "_law_boxed" ["program","number"] 1 spBoxed:=qu t.s_law_boxed t.m_len t.m_list t.m_int t.m_sum
 have RZ:aF P w K mg base "_law_resized" ["program","number"] 1 spResz:=sZ t.s_law_resized t.m_len t.m_list t.m_int t.m_max t.m_min t.m_range
 have OT:=qx t.s_law_other t.m_len t.m_range TU ID RZ BO SP
 have PA:=sW t.s_law_pair PR DG CE OT
 have RW:aF P w K mg base "refuse_worths" ["sizes","worths"] 1 ju:=sY t.s_refuse_worths t.m_len t.m_zip
 have KW:lj P w K mg base "known_worths" ["program","worths","side"] 1 d0 "box":=nu t.s_known_worths t.m_zip
 have WB:∀n,aF P w K mg base "worth_by" ["known","sum_told"] (n + 1) (b7 n):=qz t.s_worth_by
 have HB:aF P w K mg base "holds_by" ["known","condition"] 22 (cE 20):=qw t.s_holds_by WB 20
 have WP:aF P w K mg base "worths_put" ["program","worths","put_name","told"] 1 jw:=tq t.s_worths_put t.m_zip
 have SA:=nE t.s_step_at t.m_list (KW.mono (by decide)) (WP.mono (by decide)) ((WB 20).mono (by decide)) (HB.mono (by decide))
 have IS:aF P w K mg base "input_sizes" ["program"] 1 fm:=sP t.s_input_sizes t.m_dict
 have BG:=qt t.s_beginning_of t.m_dict t.m_zip RW IS
 have RO:=qy t.s_run_of t.m_len t.m_tuple (BG.mono (by decide)) (SA.mono (by decide))
 have FS:aF P w K mg base "first_said" ["run","many"] 1 fV:=qv t.s_first_said t.m_len t.m_list
 have ST:aF P w K mg base "numbers_that_settle" ["run","another"] 1 d5:=nC t.s_numbers_that_settle t.m_len t.m_max t.m_sum
 have AS:=nA t.s_said_alike t.m_len t.m_min t.m_enumerate t.m_zip ST FS
 have NP:=ny t.s_refuse_no_pair IS
 have AF:=sI t.s_alike_for NP AS RO
 have WO:∀n,aF P w K mg base "_law_worth" ["told","known"] (n + 1) (jx n):=yt t.s_law_worth
 have HO:=yr t.s_law_holds t.m_int (WO 30)
 have KN:aF P w K mg base "_law_known" ["side","program","worths"] 1 my:=vI t.s_law_known t.m_len t.m_range
 have LS:=sT t.s_law_step t.m_int KN (WO 30) (HO 20)
 have LT:aF P w K mg base "_law_start" ["program","inputs"] 1 jt:=sS t.s_law_start t.m_dict t.m_zip t.m_tuple
 have LI:aF P w K mg base "_law_inputs" ["program"] 1 kT:=sQ t.s_law_inputs t.m_dict t.m_range
 have WH:aF P w K mg base "_law_who" ["one","other","p","q"] 1 mB:=vL t.s_law_who t.m_int
 have BE:=vH t.s_law_behind LS
 have WK:=tu t.s_law_walk t.m_len LT WH BE
 have CP:aF P w K mg base "_law_copy" ["program"] 1 kS:=sN t.s_law_copy t.m_list
 have AL:aF P w K mg base "_law_alike" ["found","due"] 1 pK:=vG t.s_law_alike t.m_isinstance t.m_bool t.m_int t.m_str t.m_tuple t.m_list t.m_len t.m_range
 exact yN F t.m_int t.m_len t.m_list PA CP LI WK AL AF
end TW
set_option Elab.async false
set_option linter.all false
set_option maxRecDepth 100000
namespace TW
open PySem L2
theorem walk {l:PySem.W.OpenLaw}{q:Program}{loose:List Str}{XP:(Str->Option Value)->Heap->Prop}{YP:World->Heap->Prop}{d:DefRec}{K:Params->DA}(hn:l.most=some 63)(hdf:d.params.defaults=[])
   (hY:∀(w:World) (h:Heap),YP w h->(K w.params).In h)
   (F:∀(w:World) (mg:Str->Option Value) (fa:Addr) (h:Heap),(K w.params).In h->h.Ns mainGlobals mg->mg d.name=some (.ref fa) ->
     ∃fd:FuncData,(∀(s:Shared) (u:Value),BindsTo s fd ⟨[u],[]⟩ [("script",u)])/\∀base:Heap,(K w.params).In base->base.Ns mainGlobals mg->aL l.prog w (K w.params) mg base CX0 65 fa fd ["script"] (pM (K w.params))) :
   PySem.W.WalkO q loose XP YP l.row.toRowW d [] (fun f vs=>PySem.call f vs):=
 L2.walk_of (n:=63) (k:=65) (x:="script") (CX:=fun _=>CX0) (sp:=fun w=>pM (K w.params)) hn (by decide) hdf ⟨rfl,by decide,by decide⟩ hY F (fun _ _ a ns hl _ hS=>⟨a,ns,rfl,hS,hl,fun _=>rfl⟩) fun _ _ _ _ _ z=>z
end TW
def PySem.W.Fast.tw10072173725902375651:Nat:=0
def PySem.W.Fast.tw10199195263498721115:Nat:=0
def PySem.W.Fast.tw10249974535427946898:Nat:=0
def PySem.W.Fast.tw10274109830418073329:Nat:=0
def PySem.W.Fast.tw10332594927126647542:Nat:=0
def PySem.W.Fast.tw10494639818526107849:Nat:=0
def PySem.W.Fast.tw10584426053148594965:Nat:=0
def PySem.W.Fast.tw10678170102807331010:Nat:=0
def PySem.W.Fast.tw1069317209488266590:Nat:=0
def PySem.W.Fast.tw10696335094160990289:Nat:=0
def PySem.W.Fast.tw1077981531474701602:Nat:=0
def PySem.W.Fast.tw10832359180661053573:Nat:=0
def PySem.W.Fast.tw10883830338192876248:Nat:=0
def PySem.W.Fast.tw1089606432946065921:Nat:=0
def PySem.W.Fast.tw11132433876642781806:Nat:=0
def PySem.W.Fast.tw11230875138583826367:Nat:=0
def PySem.W.Fast.tw11315402347168829687:Nat:=0
def PySem.W.Fast.tw1132645767683180289:Nat:=0
def PySem.W.Fast.tw11500819999733295158:Nat:=0
def PySem.W.Fast.tw11506142796609258549:Nat:=0
def PySem.W.Fast.tw11548194369952264041:Nat:=0
def PySem.W.Fast.tw11743346845657978622:Nat:=0
def PySem.W.Fast.tw11847332068543652178:Nat:=0
def PySem.W.Fast.tw11847448707915843876:Nat:=0
def PySem.W.Fast.tw11913044651458345900:Nat:=0
def PySem.W.Fast.tw11913496990296127298:Nat:=0
def PySem.W.Fast.tw11954885875904689:Nat:=0
def PySem.W.Fast.tw11962251625401359959:Nat:=0
def PySem.W.Fast.tw11973164979620074855:Nat:=0
def PySem.W.Fast.tw1200668243414936116:Nat:=0
def PySem.W.Fast.tw12066486596469077513:Nat:=0
def PySem.W.Fast.tw12201615637828533980:Nat:=0
def PySem.W.Fast.tw122866855459723078:Nat:=0
def PySem.W.Fast.tw12351261742715809592:Nat:=0
def PySem.W.Fast.tw12410451617706267119:Nat:=0
def PySem.W.Fast.tw12413327760118156626:Nat:=0
def PySem.W.Fast.tw12640105076132192648:Nat:=0
def PySem.W.Fast.tw12911144907797666795:Nat:=0
def PySem.W.Fast.tw1291277410113745708:Nat:=0
def PySem.W.Fast.tw1302022119055009259:Nat:=0
def PySem.W.Fast.tw13126906353087593841:Nat:=0
def PySem.W.Fast.tw13190650445253521767:Nat:=0
def PySem.W.Fast.tw13211999217598483684:Nat:=0
def PySem.W.Fast.tw13222137101119114477:Nat:=0
def PySem.W.Fast.tw13304180498289463160:Nat:=0
def PySem.W.Fast.tw13392868653669437942:Nat:=0
def PySem.W.Fast.tw13433681731124804593:Nat:=0
def PySem.W.Fast.tw13570555272605259201:Nat:=0
def PySem.W.Fast.tw13595502518291474735:Nat:=0
def PySem.W.Fast.tw13647843719147095026:Nat:=0
def PySem.W.Fast.tw13695966611141120070:Nat:=0
def PySem.W.Fast.tw13844666150437659017:Nat:=0
def PySem.W.Fast.tw13846111002933140783:Nat:=0
def PySem.W.Fast.tw13920456304924280196:Nat:=0
def PySem.W.Fast.tw14015746306665837429:Nat:=0
def PySem.W.Fast.tw14093677602068307862:Nat:=0
def PySem.W.Fast.tw14110446976622676437:Nat:=0
def PySem.W.Fast.tw14116644385098808714:Nat:=0
def PySem.W.Fast.tw1412150856359660321:Nat:=0
def PySem.W.Fast.tw14125456627641111862:Nat:=0
def PySem.W.Fast.tw14153249150717166592:Nat:=0
def PySem.W.Fast.tw14202180150518567287:Nat:=0
def PySem.W.Fast.tw14210658578761008438:Nat:=0
def PySem.W.Fast.tw14215139822658674472:Nat:=0
def PySem.W.Fast.tw14256632341379238404:Nat:=0
def PySem.W.Fast.tw14270367914995790112:Nat:=0
def PySem.W.Fast.tw1430136416093736114:Nat:=0
def PySem.W.Fast.tw14319656150083589996:Nat:=0
def PySem.W.Fast.tw1436828005358193624:Nat:=0
def PySem.W.Fast.tw14376680555349772721:Nat:=0
def PySem.W.Fast.tw14489331304085363029:Nat:=0
def PySem.W.Fast.tw14510570671396816364:Nat:=0
def PySem.W.Fast.tw14524426644761056882:Nat:=0
def PySem.W.Fast.tw14587654418370564240:Nat:=0
def PySem.W.Fast.tw14603981960813649282:Nat:=0
def PySem.W.Fast.tw14614328998495829925:Nat:=0
def PySem.W.Fast.tw14619636776627592334:Nat:=0
def PySem.W.Fast.tw14634681406114910039:Nat:=0
def PySem.W.Fast.tw14674749156424492733:Nat:=0
def PySem.W.Fast.tw14716047247376453933:Nat:=0
def PySem.W.Fast.tw14757083575331612423:Nat:=0
def PySem.W.Fast.tw14828985078531875485:Nat:=0
def PySem.W.Fast.tw14896321802128885036:Nat:=0
def PySem.W.Fast.tw14937266144554961244:Nat:=0
def PySem.W.Fast.tw14984758452901767151:Nat:=0
def PySem.W.Fast.tw15111249629803826876:Nat:=0
def PySem.W.Fast.tw15304705152332275711:Nat:=0
def PySem.W.Fast.tw15324939540305697371:Nat:=0
def PySem.W.Fast.tw15341807172139484183:Nat:=0
def PySem.W.Fast.tw15378185288748726984:Nat:=0
def PySem.W.Fast.tw15493354485422140021:Nat:=0
def PySem.W.Fast.tw15550125324203881887:Nat:=0
def PySem.W.Fast.tw15566069448617429867:Nat:=0
def PySem.W.Fast.tw15646657975388037017:Nat:=0
def PySem.W.Fast.tw1564757165741310334:Nat:=0
def PySem.W.Fast.tw15849351567289892238:Nat:=0
def PySem.W.Fast.tw15873670656814522948:Nat:=0
def PySem.W.Fast.tw15921586330354605315:Nat:=0
def PySem.W.Fast.tw15999708681710866127:Nat:=0
def PySem.W.Fast.tw1606933480127435703:Nat:=0
def PySem.W.Fast.tw1608713641402677254:Nat:=0
def PySem.W.Fast.tw16110814635427754834:Nat:=0
def PySem.W.Fast.tw16130266426491796637:Nat:=0
def PySem.W.Fast.tw1613272715978029972:Nat:=0
def PySem.W.Fast.tw16216488397490366007:Nat:=0
def PySem.W.Fast.tw16293670456466297035:Nat:=0
def PySem.W.Fast.tw16294726826999750239:Nat:=0
def PySem.W.Fast.tw16327661422311079951:Nat:=0
def PySem.W.Fast.tw16356392256503012198:Nat:=0
def PySem.W.Fast.tw16442796695038438065:Nat:=0
def PySem.W.Fast.tw16450239877193205195:Nat:=0
def PySem.W.Fast.tw16699263281913222899:Nat:=0
def PySem.W.Fast.tw16769492975992981167:Nat:=0
def PySem.W.Fast.tw16790519292860456198:Nat:=0
def PySem.W.Fast.tw1680410420034957134:Nat:=0
def PySem.W.Fast.tw17031192631784130242:Nat:=0
def PySem.W.Fast.tw17050021739039600343:Nat:=0
def PySem.W.Fast.tw17111951879154861314:Nat:=0
def PySem.W.Fast.tw1737372978337877857:Nat:=0
def PySem.W.Fast.tw17375581801537205440:Nat:=0
def PySem.W.Fast.tw17425834475542890846:Nat:=0
def PySem.W.Fast.tw17460302929618005766:Nat:=0
def PySem.W.Fast.tw17572418312556047976:Nat:=0
def PySem.W.Fast.tw17688109829167391477:Nat:=0
def PySem.W.Fast.tw17709868173731445530:Nat:=0
def PySem.W.Fast.tw17739323448426212087:Nat:=0
def PySem.W.Fast.tw17766059875528441961:Nat:=0
def PySem.W.Fast.tw17832834722088358312:Nat:=0
def PySem.W.Fast.tw17885093007835324651:Nat:=0
def PySem.W.Fast.tw17900328338108078480:Nat:=0
def PySem.W.Fast.tw17901682334193948343:Nat:=0
def PySem.W.Fast.tw17905502832874648293:Nat:=0
def PySem.W.Fast.tw17972834975742256791:Nat:=0
def PySem.W.Fast.tw18023709885902545361:Nat:=0
def PySem.W.Fast.tw18024979470360413371:Nat:=0
def PySem.W.Fast.tw18046896178763066673:Nat:=0
def PySem.W.Fast.tw18048967402280444842:Nat:=0
def PySem.W.Fast.tw18050574380978803891:Nat:=0
def PySem.W.Fast.tw18085035369169441161:Nat:=0
def PySem.W.Fast.tw18193651737946606281:Nat:=0
def PySem.W.Fast.tw18196387892945871391:Nat:=0
def PySem.W.Fast.tw18210972410332177265:Nat:=0
def PySem.W.Fast.tw18292884468895513980:Nat:=0
def PySem.W.Fast.tw1936183595012050276:Nat:=0
def PySem.W.Fast.tw1937333253712106429:Nat:=0
def PySem.W.Fast.tw1951883377876838847:Nat:=0
def PySem.W.Fast.tw2041014026115145047:Nat:=0
def PySem.W.Fast.tw2057973351373707273:Nat:=0
def PySem.W.Fast.tw2114294334438123135:Nat:=0
def PySem.W.Fast.tw2192459439639506289:Nat:=0
def PySem.W.Fast.tw2195308656685476804:Nat:=0
def PySem.W.Fast.tw219997114972551279:Nat:=0
def PySem.W.Fast.tw2229092496569433342:Nat:=0
def PySem.W.Fast.tw2287582732298651051:Nat:=0
def PySem.W.Fast.tw2292589516183437703:Nat:=0
def PySem.W.Fast.tw2435333163957171825:Nat:=0
def PySem.W.Fast.tw2462792755091035625:Nat:=0
def PySem.W.Fast.tw2559397063590621061:Nat:=0
def PySem.W.Fast.tw2594401101153415975:Nat:=0
def PySem.W.Fast.tw2673932794333633037:Nat:=0
def PySem.W.Fast.tw2677894881407176652:Nat:=0
def PySem.W.Fast.tw2798157863176626598:Nat:=0
def PySem.W.Fast.tw2846802585909881765:Nat:=0
def PySem.W.Fast.tw2882569809498752586:Nat:=0
def PySem.W.Fast.tw2889811785828115186:Nat:=0
def PySem.W.Fast.tw2910416191278042350:Nat:=0
def PySem.W.Fast.tw2947682771650782725:Nat:=0
def PySem.W.Fast.tw2954965565177463150:Nat:=0
def PySem.W.Fast.tw2956537961831578612:Nat:=0
def PySem.W.Fast.tw3175609265386249772:Nat:=0
def PySem.W.Fast.tw3209821548046417454:Nat:=0
def PySem.W.Fast.tw3276059456869653550:Nat:=0
def PySem.W.Fast.tw3418838138347641313:Nat:=0
def PySem.W.Fast.tw3500162841553417440:Nat:=0
def PySem.W.Fast.tw3523051621162866693:Nat:=0
def PySem.W.Fast.tw368531071329178880:Nat:=0
def PySem.W.Fast.tw3778547777817276032:Nat:=0
def PySem.W.Fast.tw37859622964173200:Nat:=0
def PySem.W.Fast.tw3949746526442753208:Nat:=0
def PySem.W.Fast.tw4005014209861900086:Nat:=0
def PySem.W.Fast.tw4023504584834345264:Nat:=0
def PySem.W.Fast.tw4028174781932774014:Nat:=0
def PySem.W.Fast.tw4072089144033646049:Nat:=0
def PySem.W.Fast.tw4132580903499787505:Nat:=0
def PySem.W.Fast.tw4135469182832348598:Nat:=0
def PySem.W.Fast.tw4199050342365355822:Nat:=0
def PySem.W.Fast.tw4205363705536570669:Nat:=0
def PySem.W.Fast.tw4246385021306212045:Nat:=0
def PySem.W.Fast.tw4253303538257383458:Nat:=0
def PySem.W.Fast.tw4290280960057644267:Nat:=0
def PySem.W.Fast.tw4459036369521989614:Nat:=0
def PySem.W.Fast.tw4493714249308710869:Nat:=0
def PySem.W.Fast.tw4599343905885198468:Nat:=0
def PySem.W.Fast.tw460972838459143107:Nat:=0
def PySem.W.Fast.tw4616301370272119037:Nat:=0
def PySem.W.Fast.tw461881331495309754:Nat:=0
def PySem.W.Fast.tw4624437055070854302:Nat:=0
def PySem.W.Fast.tw4698340235733162997:Nat:=0
def PySem.W.Fast.tw4754477109448315911:Nat:=0
def PySem.W.Fast.tw4881519656224709293:Nat:=0
def PySem.W.Fast.tw4884769173896149809:Nat:=0
def PySem.W.Fast.tw490837948551611718:Nat:=0
def PySem.W.Fast.tw4959660310787069145:Nat:=0
def PySem.W.Fast.tw5096064182711435601:Nat:=0
def PySem.W.Fast.tw5142002856901311810:Nat:=0
def PySem.W.Fast.tw5154282556911230853:Nat:=0
def PySem.W.Fast.tw525195908091373518:Nat:=0
def PySem.W.Fast.tw5290760783792315574:Nat:=0
def PySem.W.Fast.tw5305964492684800860:Nat:=0
def PySem.W.Fast.tw532668340589295234:Nat:=0
def PySem.W.Fast.tw5335322980041710491:Nat:=0
def PySem.W.Fast.tw5504001159834562395:Nat:=0
def PySem.W.Fast.tw5551694719391537983:Nat:=0
def PySem.W.Fast.tw5593938156836024112:Nat:=0
def PySem.W.Fast.tw5618547111987502891:Nat:=0
def PySem.W.Fast.tw5721153875834967307:Nat:=0
def PySem.W.Fast.tw5758616348767615211:Nat:=0
def PySem.W.Fast.tw5763137605358490871:Nat:=0
def PySem.W.Fast.tw5790087006907003447:Nat:=0
def PySem.W.Fast.tw5810064305123676358:Nat:=0
def PySem.W.Fast.tw5834401258743056150:Nat:=0
def PySem.W.Fast.tw588084294059453590:Nat:=0
def PySem.W.Fast.tw5956302588096018444:Nat:=0
def PySem.W.Fast.tw6156618755814619706:Nat:=0
def PySem.W.Fast.tw6326610693467747577:Nat:=0
def PySem.W.Fast.tw6352062322878748738:Nat:=0
def PySem.W.Fast.tw6470867766119532544:Nat:=0
def PySem.W.Fast.tw6493831115471758510:Nat:=0
def PySem.W.Fast.tw6525571025428558775:Nat:=0
def PySem.W.Fast.tw6588417710524587871:Nat:=0
def PySem.W.Fast.tw6701703178574206926:Nat:=0
def PySem.W.Fast.tw6907947480993591026:Nat:=0
def PySem.W.Fast.tw6992098010768860085:Nat:=0
def PySem.W.Fast.tw7035654184188474110:Nat:=0
def PySem.W.Fast.tw7084814553631645748:Nat:=0
def PySem.W.Fast.tw729033412813847838:Nat:=0
def PySem.W.Fast.tw7473959177054349911:Nat:=0
def PySem.W.Fast.tw7476390482517629745:Nat:=0
def PySem.W.Fast.tw7493933200715389477:Nat:=0
def PySem.W.Fast.tw7495247203324238856:Nat:=0
def PySem.W.Fast.tw7497676471588952034:Nat:=0
def PySem.W.Fast.tw7605171296702284562:Nat:=0
def PySem.W.Fast.tw7642908826426057660:Nat:=0
def PySem.W.Fast.tw7797075571672660559:Nat:=0
def PySem.W.Fast.tw7798816654194571539:Nat:=0
def PySem.W.Fast.tw7815565611146957202:Nat:=0
def PySem.W.Fast.tw7942683380891996250:Nat:=0
def PySem.W.Fast.tw8019656065039291262:Nat:=0
def PySem.W.Fast.tw8055475756968525619:Nat:=0
def PySem.W.Fast.tw8072346334764482615:Nat:=0
def PySem.W.Fast.tw808206654683383038:Nat:=0
def PySem.W.Fast.tw808802567281773450:Nat:=0
def PySem.W.Fast.tw8142691407526956250:Nat:=0
def PySem.W.Fast.tw8257118700088354664:Nat:=0
def PySem.W.Fast.tw8280267777020418124:Nat:=0
def PySem.W.Fast.tw830957665222072204:Nat:=0
def PySem.W.Fast.tw849400789206141734:Nat:=0
def PySem.W.Fast.tw8536902714210355233:Nat:=0
def PySem.W.Fast.tw8538757958470809241:Nat:=0
def PySem.W.Fast.tw8659089496086040341:Nat:=0
def PySem.W.Fast.tw8763060228214594599:Nat:=0
def PySem.W.Fast.tw8902368684236617579:Nat:=0
def PySem.W.Fast.tw8973248678607274711:Nat:=0
def PySem.W.Fast.tw9025685721419271800:Nat:=0
def PySem.W.Fast.tw9034164618590497046:Nat:=0
def PySem.W.Fast.tw911833427524872172:Nat:=0
def PySem.W.Fast.tw9166974099638621650:Nat:=0
def PySem.W.Fast.tw9198595115593005134:Nat:=0
def PySem.W.Fast.tw9258329299708133034:Nat:=0
def PySem.W.Fast.tw9274821977208446986:Nat:=0
def PySem.W.Fast.tw928727694326805796:Nat:=0
def PySem.W.Fast.tw9345224898263618437:Nat:=0
def PySem.W.Fast.tw9348253355994608285:Nat:=0
def PySem.W.Fast.tw9365244172006532180:Nat:=0
def PySem.W.Fast.tw939810259337624822:Nat:=0
def PySem.W.Fast.tw9405135717941505402:Nat:=0
def PySem.W.Fast.tw940684548270399860:Nat:=0
def PySem.W.Fast.tw946987156602134991:Nat:=0
def PySem.W.Fast.tw9609528730856922227:Nat:=0
def PySem.W.Fast.tw9624334058794735808:Nat:=0
def PySem.W.Fast.tw9660040630079730604:Nat:=0
def PySem.W.Fast.tw9667442189412361395:Nat:=0
def PySem.W.Fast.tw9718153888174807777:Nat:=0
def PySem.W.Fast.tw9829865975900957068:Nat:=0
def PySem.W.Fast.tw9866590429890814430:Nat:=0
def PySem.W.Fast.tw9888248745578253340:Nat:=0
def PySem.W.Fast.tw9945484131623303299:Nat:=0
def PySem.W.Fast.tw9966541339443297188:Nat:=0
open PySem PySem.W PyProof.Rows
set_option maxRecDepth 100000 in
set_option maxHeartbeats 0 in
theorem PySem.Challenge.cw_twinwalk_k30_how_far_alike_holds : PySem.Challenge.rw_twinwalk_k30_how_far_alike.Holds := by
 w_on; o_law; k_head; (case hw=>w_witness2)
 k_fill
 refine TW.walk (l:=PySem.Challenge.rw_twinwalk_k30_how_far_alike) rfl rfl (fun w h Y=>PySem.W.kIn_of Y) ?F
 case F=>
   intro w mg fa h KX G hmg
   refine TW.yc hmg ?_
   refine' (⟨TW.aB KX G ?_ ?_ ?_ ?_,TW.aB KX G ?_ ?_ ?_ ?_,TW.aB KX G ?_ ?_ ?_ ?_,TW.aB KX G ?_ ?_ ?_ ?_,TW.aB KX G ?_ ?_ ?_ ?_,TW.aB KX G ?_ ?_ ?_ ?_,TW.aB KX G ?_ ?_ ?_ ?_,TW.aB KX G ?_ ?_ ?_ ?_,TW.aB KX G ?_ ?_ ?_ ?_,TW.aB KX G ?_ ?_ ?_ ?_,TW.aB KX G ?_ ?_ ?_ ?_,TW.aB KX G ?_ ?_ ?_ ?_,TW.aB KX G ?_ ?_ ?_ ?_,TW.aB KX G ?_ ?_ ?_ ?_,TW.aB KX G ?_ ?_ ?_ ?_,TW.aB KX G ?_ ?_ ?_ ?_,TW.aB KX G ?_ ?_ ?_ ?_,TW.aB KX G ?_ ?_ ?_ ?_,TW.aB KX G ?_ ?_ ?_ ?_,TW.aB KX G ?_ ?_ ?_ ?_,TW.aB KX G ?_ ?_ ?_ ?_,TW.aB KX G ?_ ?_ ?_ ?_,TW.aB KX G ?_ ?_ ?_ ?_,TW.aB KX G ?_ ?_ ?_ ?_,TW.aB KX G ?_ ?_ ?_ ?_,TW.aB KX G ?_ ?_ ?_ ?_,TW.aB KX G ?_ ?_ ?_ ?_,TW.aB KX G ?_ ?_ ?_ ?_,TW.aB KX G ?_ ?_ ?_ ?_,TW.aB KX G ?_ ?_ ?_ ?_,TW.aB KX G ?_ ?_ ?_ ?_,TW.aB KX G ?_ ?_ ?_ ?_,TW.aB KX G ?_ ?_ ?_ ?_,TW.aB KX G ?_ ?_ ?_ ?_,TW.aB KX G ?_ ?_ ?_ ?_,TW.aB KX G ?_ ?_ ?_ ?_,TW.aB KX G ?_ ?_ ?_ ?_,TW.aB KX G ?_ ?_ ?_ ?_,TW.aB KX G ?_ ?_ ?_ ?_,TW.w5 KX G ?_ ?_ ?_ ?_ ?_,D3 KX G ?_,D3 KX G ?_,D3 KX G ?_,D3 KX G ?_,D3 KX G ?_,D3 KX G ?_,D3 KX G ?_,D3 KX G ?_,D3 KX G ?_,D3 KX G ?_,D3 KX G ?_,D3 KX G ?_,D3 KX G ?_,D3 KX G ?_,D3 KX G ?_⟩ : TW.An _ _ _)
   (try any_goals first | k_is | k_exc | rfl | ((repeat (first | exact TW.pr_nil | refine TW.pr_cs ⟨_,rfl⟩ rfl ?_ | refine TW.pr_cs ⟨_,rfl⟩ ⟨_,rfl⟩ ?_)); done))
   (try any_goals first | k_is | k_exc | rfl | ((repeat (first | exact TW.pr_nil | refine TW.pr_cs ⟨_,rfl⟩ rfl ?_ | refine TW.pr_cs ⟨_,rfl⟩ ⟨_,rfl⟩ ?_)); done))
   all_goals first | kit_is | decide | rfl | exact ⟨_,rfl⟩ | (k_keys; done) | (repeat' constructor)
