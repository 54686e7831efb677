import PyProof.Rows.All
import Wide.All
import OpenK.AllK
import Wide.FinOn
import Lean
import PyProof.EqAt
import PyProof.EqKinds
import PyProof.TupleCall
import PySem.Challenge.RW_twinwalk_k20_papers_of_none
set_option maxHeartbeats 1000000
set_option compiler.extract_closed false
local macro_rules|`(tactic|show$e)=>`(tactic|refine$e)
local macro_rules|`(tactic|left)=>`(tactic|decide)
local macro_rules|`(tactic|right)=>`(tactic|decide +kernel)
theorem U.{u}{α:Sort u}{a:α}:a=a:=rfl
open List renaming length_map->ad1,getElem?_eq_getElem->ad3,mem_of_getElem? -> ad4,length_append->ad7,getD_eq_getElem?_getD->ad9,length_take->aea,map_append->aeb,take_add_one->aec,take_length->aed,getElem?_map->aei,size_toArray->aek,range->aem,not_mem_nil->aep,length_cons->aet,replicate->aev,mem_cons->aew,getElem?_of_mem->aeB,take_of_length_le->aeE,length_range->aeJ,append_nil->aeK,mem_append_right->aeM,map_cons->aeN,length_filter_le->aeQ,mem_cons_of_mem->aeU,mem_cons_self->aeX,map_map->ae0,mem_of_mem_take->ae1,length_drop->ae3,getElem?_range->ae9,find?_cons->afa,filterMap_cons->afb,length_replicate->afg,getElem?_append_left->afh,mem_of_mem_drop->afk,of_mem_zip->afl,replicate_succ->afm,any_cons->afn,getElem?_set_self->afq,length_set->afu,all_eq_true->afz,lookup->afB,getElem_of_mem->afC,reverse_cons->afK,flatten_cons->afL,flatMap_cons->afM,append_assoc->afN,take_zero->afQ,drop_zero->afR,getElem?_zipWith->afT,contains_iff_mem->afU,getElem?_set_ne->afY,nodup_cons->af5,map_congr_left->af6,forIn_cons->af7,getElem?_append_right->agc,drop_eq_getElem_cons->agi,take_sublist->agn,getElem?_set->ago,find?_append->agp,filter_congr->agq,getElem?_replicate->agu,map_reverse->agy,lookup_cons->agz,take_append_drop->agE,mem_append_left->agN,forIn_nil->agP,length_reverse->agR,length->agS,set_comm->ag5,mem_singleton->ag6,filterMap_map->ag7,all_cons->ag8,nodup_append->ahj,any_nil->ahl,getElem_mem->aho,flatMap_nil->ahp,range_succ->ahw,nil_append->ahx,mem_filter->ahy,mem_append->ahz,getElem?_zip_eq_some->ahM,map_take->ahU,eraseIdx_cons_succ->ahV,length_pos_of_mem->ah1,drop_eq_nil_of_le->ah2,map_nil->aic,length_singleton->aid,getElem?_toArray->aie,getElem?_reverse->aif,getElem?_eq_none->aih
open PySem.W renaming Frag->ad2,kitOne->aey,mg_none_of->aeF,kia_one->aeO,mg_of->aeR,keepIn->aeV,findIn->aeW,emptyDict->ae4,fnOf->ae5,instObj->afi,codeIn->afH,callWith_K->af4,kitAny->af8,plainGet->agm,cellsFrom_some->agr,lookIn->agC,plainGet_of->agJ,clsIn->agO,methodObj->agY,hasDictIn->agZ,nsIn->ag3,takerIn->ahk,mroIn->ahF,excIn->ahG,methodCall_KW->ahP,isFn->ahQ,hideAll_get->ah0,of_hideAll->aia,codeRec_of->aib,specialIn->ain,plainOver->aio,kitx_list->aip,kitx_dict->aiq
open Nat renaming le_refl->ad5,le_trans->aeg,lt_of_lt_of_le->aer,ne_of_lt->aeA,zero_le->aeG,le_of_lt->aeY,not_lt_zero->ae8,le_add_right->aff,lt_irrefl->afw,pos_of_ne_zero->afG,succ_mul->afV,mul_le_mul_right->afZ,div_lt_of_lt_mul->af0,min_eq_left->af9,add_lt_add_left->aga,ne_of_gt->agg,mul_comm->agh,mul_zero->agK,lt_succ_self->aht,mod_lt->ahT,add_comm->air
open PySem.Heap renaming get?_push_of_some->ad6,lt_size->aee,get?_push_size->aeq,SameBut->ae7,size_push->afo,get?_update_self->agF,get?_update_other->ah4
open PySem renaming Spec->ad8,FuncData->aef,boot_len->aeo,foldedSetIterable->aeC,mem_of_lookup->aeP,bootBuiltins->aeT,mainGlobals->aeZ,attributeBase->afd,behindInMarks->afj,wpAny_callSpecial?_slot->afr,sysModules->aft,swapsWith->afy,NameKind->afP,swapsWithSole->agd,swappedStores->age,wpAny_passesOwn->agk,sub_AttributeError->ags,bindName->agt,wpAny_getItem_list_slice->agB,wpAny_execs_nil->agU,slicePick->agV,builtinLookup_eq_fast->agW,ZipApart->ag2,evalPart_none->ahr,typeLookup->ahC,getAttr? -> ahR,bindArgs->ahS,typeLookup_type->ahX,codeAny_builtin->ahY,Within->ahZ,wpAny_newFunctionEnv_cells->ah8,recursionLimit->ail
open True renaming intro->aeh
open Option.some renaming inj->aej
open Bool renaming false_ne_true->ael,and_eq_true->aeI,eq_iff_iff->afc,false_and->afS,and_false->agj,true_and->aha,or_false->ahb,false_or->ahc,false_eq_true->ahd,or_true->aik
open PySem.Value renaming ref->aen,bool->afI,int->agl,builtin->agX,none->ahe,str->ahs,type->ahK,float->aim
open Int renaming toNat_natCast->aes,emod_lt_of_pos->aeu,emod_nonneg->aeD,toNat_of_nonneg->afE,zero_add->agL,le_refl->ag0,lt_of_lt_of_le->ahf,ediv_one->ahq
open PySem.Builtin.SmallTypes renaming ownedTupleIsFree->aex,nextOf->aeL,ownedTupleHandOut->agb
open PyProof.Rows renaming callWith_type1->aez,slot_tuple_getitem->agD,assignInOrder_nil->ahD,Subscript_->ahE
open PySem.NameKind renaming free->aeH,cell->ahv
open False renaming elim->aeS
open PySem.Builtin.Int renaming intBits->ae2,intTooBig->ahu
open Option renaming map_some->ae6,isSome_map->ag4
open PySem.Calls renaming spliced_cons->afe,spliced_nil->afJ,evalArgs_plain->afX,callWith_builtin->agA,Name_function_global->ahB
open PySem.Builtin.List renaming listFitsIndex->afp,listTooLong->af1
open PySem.Builtin.Slice renaming slicePlaces->afs,sliceAdjust->afW,sliceApplied->agT
open PySem.Builtin.Tuple renaming tupleExact->afv
open PySem.Builtin.Dict renaming updateFrom->afx,selfAndRest->ahg,addKeywords->ahh,pairItems->ahn
open ForInStep renaming yield->afA
open PySem.F renaming plainAttrs_list->afD,slot_dict_get->agx,slot_dict_setdefault->ahi,plainAttrs_dict->ahH,args_dict_get_3->ahI,entry_dict_get->ahL
open PySem.Code renaming quiet_builtin->afF,compLoop->agw,isFrame->aij
open PySem.Heap.SameBut renaming update->afO
open PySem.Builtin.Range renaming rangeSize->af2
open Array renaming length_toList->af3,toList->ah5,getElem?_toList->ah6,toList_append->ais
open Int.ofNat renaming inj->agf
open PySem.Heap.IsSliceOf renaming new->agv
open PySem.Builtin.ObjectAttr renaming bindTo->agG
open Sum.inl renaming inj->agH
open PySem.Str renaming ofString->agI
open PySem.Obj renaming mapSeq->agM
open PySem.Heap.IsList renaming push->agQ
open PySem.Heap.DictOf renaming new->ag1
open List.Pairwise renaming imp_of_mem->ag9,cons->ahA,nil->ahJ
open Classical renaming byContradiction->ahm
open PySem.SeqAt.EqAt renaming str_int->ahN,int_str->ahO
open PySem.Around renaming under->ahW,frames_deeper->ah7
open PyProof.Rows.IsTup renaming new->ah3
open PySem.Shared renaming heap->ah9
open PySem.Flow renaming next->aii
open And renaming intro->ait
set_option Elab.async false
set_option linter.all false
set_option maxRecDepth 100000
local macro"#"e:term:tactic=>`(tactic|refine$e)
open Lean.Parser.Tactic in
local macro"@"p:rcasesPatMed":="e:term:tactic=>`(tactic|obtain $p:rcasesPatMed:=$e)
open Lean.Parser.Term in
local macro"!"d:letDecl:tactic=>`(tactic|have $d:letDecl)
local macro:max x:term:max"~":term=>`(($x).length)
local notation"S"=>some
local notation"O"=>List
local notation"Z"=>none
local notation"J"=>PySem.Addr
def dB {α β:Sort _}{p q r t:α->β->Prop}{a:α}{b:β}(h:p a b)(k:q a b)(l:r a b)(m:t a b):∃x y,p x y/\q x y/\r x y/\t x y:=⟨a,b,h,k,l,m⟩
def bu {α:Sort _}{p q r:α->Prop}{a:α}(h:p a)(k:q a)(l:r a):∃x,p x/\q x/\r x:=⟨a,h,k,l⟩
def bB {α:Sort _}{s:Prop}{p q:α->Prop}{a:α}(h:s)(k:p a)(l:q a):s/\∃x,p x/\q x:=⟨h,a,k,l⟩
def aJ {α β:Sort _}{p q r:α->β->Prop}{a:α}{b:β}(h:p a b)(k:q a b)(l:r a b):∃x y,p x y/\q x y/\r x y:=⟨a,b,h,k,l⟩
def af {α:Sort _}{p q:α->Prop}{a:α}(h:p a)(k:q a):∃x,p x/\q x:=⟨a,h,k⟩
def aw {a b:Prop}(h₁:a)(h₂:¬a):b:=absurd h₁ h₂
def aR.{u}{c:Prop}{h:Decidable c}(hc:c){α:Sort u}{t e:α}:ite c t e=t:=if_pos hc
def aM.{u}{c:Prop}{h:Decidable c}(hc:¬c){α:Sort u}{t e:α}:ite c t e=e:=if_neg hc
def cU {p:Prop}{i:Decidable p}(h:decide p=true):p:=of_decide_eq_true h
def ed {p:Prop}{i:Decidable p}(h:p):decide p=true:=decide_eq_true h
def mW {p:Prop}{i:Decidable p}(h:¬p):decide p=false:=decide_eq_false h
abbrev ag:=O (PySem.Str×Int)
def aky:0<=PySem.sizeLine:=by left
def akz:1<=PySem.sizeLine:=by left
def akA:2<=PySem.sizeLine:=by left
def akB:3<=PySem.sizeLine:=by left
def akC:4<=PySem.sizeLine:=by left
def akD:5<=PySem.sizeLine:=by left
def akE:8<=PySem.sizeLine:=by left
namespace L2
open PySem PySem.Spec PyProof.Rows
abbrev Key:=Sum Int Str
def oh:Key->Value->Bool
 | .inl k,v=>Value.isInt k v
 | .inr x,v=>Value.isStrOf x v
def UI (w:World):Key->Int
 | .inl k=>hashInt k
 | .inr x=>hashStr w x
def cg:∀{k:Key} {v:Value},oh k v=true->(∃i t,k=Sum.inl i/\v=agl i t)\/(∃x t,k=Sum.inr x/\v=ahs x t)
 | .inl i,v,h=>by
   @⟨t,e⟩:=Value.isInt_shape (k:=i) (v:=v) h
   #.inl ⟨i,t,U,e⟩
 | .inr x,v,h=>by
   @⟨t,e⟩:=Value.isStrOf_shape (x:=x) (v:=v) h
   #.inr ⟨x,t,U,e⟩
def xH (i:Int)(t:Tok):oh (.inl i) (.int i t)=true:=by simp[oh,Value.isInt]
def xI (x:Str)(t:Tok):oh (.inr x) (.str x t)=true:=by simp[oh,Value.isStrOf]
def JF (a b:Int):decide ((Sum.inl a:Key)=Sum.inl b)=(a==b):=by
 by_cases e:a=b
 . subst e;simp
 . !h:¬ (Sum.inl a:Key)=Sum.inl b:=λq=>e (agH q)
   rw[mW h]
   #(beq_eq_false_iff_ne.mpr e).symm
def JI (a b:Str):decide ((Sum.inr a:Key)=Sum.inr b)=decide (a=b):=by
 by_cases e:a=b
 . subst e;simp
 . !h:¬ (Sum.inr a:Key)=Sum.inr b:=λq=>e (Sum.inr.inj q)
   rw[mW h,mW e]
def JG (a:Int)(b:Str):decide ((Sum.inl a:Key)=Sum.inr b)=false:=mW (λq=>nomatch q)
def JH (a:Str)(b:Int):decide ((Sum.inr a:Key)=Sum.inl b)=false:=mW (λq=>nomatch q)
def bc (prog:Program)(w:World):PySem.KeyKind prog w Key where
 is:=oh
 hash:=UI w
 inj:=λv a b ha hb=>by
   rcases cg ha with⟨i,t,rfl,rfl⟩|⟨x,t,rfl,rfl⟩
   . rcases cg hb with⟨j,u,rfl,e⟩|⟨y,u,rfl,e⟩
     . injection e with e1 _;rw[e1]
     . #nomatch e
   . rcases cg hb with⟨j,u,rfl,e⟩|⟨y,u,rfl,e⟩
     . #nomatch e
     . injection e with e1 _;rw[e1]
 byValue:=λk v h=>by
   rcases cg h with⟨i,t,rfl,rfl⟩|⟨x,t,rfl,rfl⟩<;>rfl
 pyHash:=λhv h=>by
   rcases cg hv with⟨i,t,rfl,rfl⟩|⟨x,t,rfl,rfl⟩
   . #wpAny_pyHash_int h
   . #wpAny_pyHash_str h
 eqBool:=λhu hv h=>by
   rcases cg hu with⟨i,t,rfl,rfl⟩|⟨x,t,rfl,rfl⟩
   . rcases cg hv with⟨j,u,rfl,rfl⟩|⟨y,u,rfl,rfl⟩
     . rw[JF]at h;#wpAny_eqBool_int h
     . rw[JG]at h;#ahO i t y u _ _ _ _ h
   . rcases cg hv with⟨j,u,rfl,rfl⟩|⟨y,u,rfl,rfl⟩
     . rw[JH]at h;#ahN x t j u _ _ _ _ h
     . rw[JI]at h;#wpAny_eqBool_str h
 «strs»:=λk x t v h=>by
   rcases cg h with⟨i,u,rfl,e⟩|⟨y,u,rfl,e⟩
   . #nomatch e
   . injection e with e1 _
     subst e1
     cases v<;>rfl
def q8 (prog:Program)(w:World)(i:Int)(t:Tok):(bc prog w).is (.inl i) (.int i t)=true:=xH i t
def q9 (prog:Program)(w:World)(x:Str)(t:Tok):(bc prog w).is (.inr x) (.str x t)=true:=xI x t
inductive V where
 | bA|bl (b:Bool)|int (i:Int)|str (x:Str)|byt (b:Array UInt8)|flt (b:UInt64)|ref (a:J)|ty (n:String)
 deriving DecidableEq
def RelV:V->Value->Prop
 | .bA,u=>u=ahe
 | .bl b,u=>u=afI b
 | .int i,u=>∃t,u=agl i t
 | .str x,u=>∃t,u=ahs x t
 | .byt b,u=>∃t,u=Value.bytes b t
 | .flt b,u=>∃t,u=aim b t
 | .ref a,u=>u=aen a
 | .ty n,u=>u=ahK n
abbrev Vals:O V->O Value->Prop:=Paired RelV
def Vals.length {xs:O V}{us:O Value}(r:Vals xs us):xs~=us~:=Paired.length r
theorem Vals.get:∀{xs:O V} {us:O Value} {i:Nat} {x:V},Vals xs us->xs[i]?=S x->∃u,us[i]?=S u/\RelV x u
 | _,_,_,_,.nil,e=>by simp at e
 | _,_,0,_,.cons r _,e=>by simp at e;subst e;#⟨_,rfl,r⟩
 | _,_,i+1,x,.cons _ t,e=>by
   @⟨u,h1,h2⟩:=Vals.get (i:=i) (x:=x) t (by simpa using e)
   #⟨u,by simpa using h1,h2⟩
theorem Vals.set {x:V}{u:Value}(r:RelV x u):∀{xs:O V} {us:O Value} (i:Nat),Vals xs us->Vals (xs.set i x) (us.set i u)
 | _,_,_,.nil=>.nil
 | _,_,0,.cons _ t=>.cons r t
 | _,_,i+1,.cons q t=>.cons q (Vals.set r i t)
theorem Vals.append:∀{xs ys:O V} {us ws:O Value},Vals xs us->Vals ys ws->Vals (xs++ys) (us++ws)
 | _,_,_,_,.nil,s=>s
 | _,_,_,_,.cons r t,s=>.cons r (Vals.append t s)
theorem Vals.take:∀{xs:O V} {us:O Value} (n:Nat),Vals xs us->Vals (xs.take n) (us.take n)
 | _,_,0,_=>.nil
 | _,_,_+1,.nil=>.nil
 | _,_,n+1,.cons r t=>.cons r (Vals.take n t)
theorem Vals.drop:∀{xs:O V} {us:O Value} (n:Nat),Vals xs us->Vals (xs.drop n) (us.drop n)
 | _,_,0,r=>r
 | _,_,_+1,.nil=>.nil
 | _,_,n+1,.cons _ t=>Vals.drop n t
def hV:Option V->Option Value->Prop
 | some v,S u=>RelV v u
 | none,Z=>True
 | _,_=>False
def KV {κ:Type}:O (κ×V)->O (κ×Value)->Prop:=Paired λ(p:κ×V) (q:κ×Value)=>p.1=q.1/\RelV p.2 q.2
def kV:Key->V
 | .inl i=>.int i
 | .inr x=>.str x
inductive HO where
 | lst (xs:O V)
 | tup (xs:O V)
 | dK (kvs:O (Key×V))|dT (kvs:O (O Key×V))
 | set (S8:Int->Bool) (n:Nat)
 | ins (C dx:J) (fs:O (Str×V))
 | own (x:J)
 | xd (fs:O (Str×V))
 | met (f x:J)
 | rng (lo hi:Int)
 | frz (o:Obj) (u:HO)
 | tbl (ps:Array Value)
 | ext (φ:Heap->Prop)
abbrev Hp:=J->Option HO
def upd (H:Hp)(a:J)(o:HO):Hp:=λb=>if b=a then S o else H b
def ae {H:Hp}{a:J}{o:HO}:upd H a o a=S o:=by unfold upd;rw[aR rfl]
def aj {H:Hp}{a b:J}{o:HO}(h:b≠a):upd H a o b=H b:=by unfold upd;rw[aM h]
def da {H:Hp}{a:J}{o u:HO}:upd (upd H a o) a u=upd H a u:=by
 funext b;unfold upd;split<;>rfl
def eJ {H:Hp}{a b:J}{o u:HO}(h:H a=S o)(h':H b=S u)(d:o≠u):a≠b:=by
 intro e;subst e;rw[h]at h';#d (aej h')
def ai {H:Hp}{a b:J}{o:HO}(h:H a=S o)(h':H b=Z):a≠b:=by
 intro e;subst e;rw[h]at h';cases h'
section
variable(P:Program)(w:World)
def bw (H:Hp)(h:Heap)(a:J):HO->Prop
 | .lst xs=>xs~<=sizeLine/\∃(its:O Value) (n:Nat),Vals xs its/\h.get? a=S {cls:=.type "list",data:=.seq its.toArray n}
 | .tup xs=>xs~<=sizeLine/\∃its:O Value,Vals xs its/\IsTup h a its.toArray
 | .dK kvs=>kvs~<=sizeLine/\(a==aft)=false/\∃vs,KV kvs vs/\h.DictOf (bc P w) a vs
 | .dT kvs=>kvs~<=sizeLine/\(a==aft)=false/\∃xs:O (O Key×J×Value),
     Paired (λ(p:O Key×V) (q:O Key×J×Value)=>p.1=q.1/\H q.2.1=S (.tup (p.1.map kV))/\RelV p.2 q.2.2) kvs xs /\
     ∃o es ep,h.get? a=S o/\o.ExactDict/\o.data=.dict es ep/\es.toList=xs.map (entryOfKey (tupleKind (bc P w)))/\(xs.map (·.1)).Nodup
 | .set S8 n=>h.SetOf (intKind P w) a S8 n
 | .ins C dx fs=>H dx=S (.own a)/\fs~<=1000/\dx≠a/\h.get? a=S (afi C dx) /\
     ∃mA,h.Ns1 dx mA/\(∀f,hV (fs.lookup f) (mA f))/\ahZ mA (fs.map (·.1))
 | .own _=>∃o,h.get? a=S o
 | .xd fs=>∃mA,h.Ns1 a mA/\∀f,hV (fs.lookup f) (mA f)
 | .rng lo hi=>∃t u v,h.get? a=S {cls:=.type "range",data:=.fields #[.int lo t,.int hi u,.int 1 v]}
 | .frz o u=>h.get? a=S o/\bw H h a u
 | .tbl ps=>h.get? a=S {cls:=.none,data:=.fields ps}
 | .met f x=>h.get? a=S (agY (.ref f) (.ref x))
 | .ext φ=>φ h/\(∃o,h.get? a=S o)/\∀h1 h2:Heap,φ h1->(∀o,h1.get? a=S o->h2.get? a=S o)->φ h2
def iU (H:Hp)(h:Heap):Prop:=∀a o,H a=S o->bw P w H h a o
end
section
variable{P:Program}{w:World}{H H':Hp}{h h':Heap}{a:J}{o:HO}
theorem bw.lt (x:bw P w H h a o):a<h.objs.size:=by
 cases o with
 | lst xs=>@⟨_,_,_,_,e⟩:=x;#aee e
 | tup xs=>@⟨_,_,_,p⟩:=x;#p.lt
 | dK kvs=>@⟨_,_,_,_,o,_,_,e,_⟩:=x;#aee e
 | dT kvs=>@⟨_,_,_,_,o,_,_,e,_⟩:=x;#aee e
 | set S8 n=>@⟨o,_,_,_,e,_⟩:=x;#aee e
 | ins C dx fs=>@⟨_,_,_,e,_⟩:=x;#aee e
 | own y=>@⟨_,e⟩:=x;#aee e
 | xd fs=>@⟨_,⟨_,_,_,e,_⟩,_⟩:=x;#aee e
 | rng lo hi=>@⟨_,_,_,e⟩:=x;#aee e
 | frz ob u=>@⟨e,_⟩:=x;#aee e
 | tbl ps=>#aee (show h.get? a=S _ from x)
 | met f y=>#aee (show h.get? a=S _ from x)
 | ext φ=>@⟨_,⟨_,e⟩,_⟩:=x;#aee e
theorem Paired.aP {α β:Type}{F G:α->β->Prop}:∀{l₁:O α} {l₂:O β},Paired F l₁ l₂->(∀a b,F a b->G a b)->Paired G l₁ l₂
 | _,_,.nil,_=>.nil
 | _,_,.cons r t,f=>.cons (f _ _ r) (Paired.aP t f)
def bw.k9 (x:bw P w H h a o)(k:∀b u,(b=a\/H b=S (.own a))->h.get? b=S u->h'.get? b=S u)
   (ho:∀b,H b=S (.own a)->H' b=S (.own a)) (ht:∀b xs,H b=S (.tup xs)->H' b=S (.tup xs)):bw P w H' h' a o:=by
 induction o with
 | lst xs=>@⟨z,its,n,r,e⟩:=x;#⟨z,its,n,r,k _ _ (.inl rfl) e⟩
 | tup xs=>@⟨z,its,r,ob,e,c⟩:=x;#⟨z,its,r,ob,k _ _ (.inl rfl) e,c⟩
 | dK kvs=>@⟨z,y,vs,r,ob,es,ep,e,c⟩:=x;#⟨z,y,vs,r,ob,es,ep,k _ _ (.inl rfl) e,c⟩
 | dT kvs=>
   @⟨z,y,xs,r,ob,es,ep,e,c⟩:=x
   #⟨z,y,xs,Paired.aP r λp q z=>⟨z.1,ht _ _ z.2.1,z.2.2⟩,ob,es,ep,k _ _ (.inl rfl) e,c⟩
 | set S8 n=>@⟨ob,es,ep,t,e,c⟩:=x;#⟨ob,es,ep,t,k _ _ (.inl rfl) e,c⟩
 | ins C dx fs=>
   @⟨d,z,ne,e,mA,⟨od,es,ep,e2,c⟩,r⟩:=x
   #⟨ho _ d,z,ne,k _ _ (.inl rfl) e,mA,⟨od,es,ep,k _ _ (.inr d) e2,c⟩,r⟩
 | own y=>@⟨ob,e⟩:=x;#⟨ob,k _ _ (.inl rfl) e⟩
 | xd fs=>@⟨mA,⟨od,es,ep,e,c⟩,r⟩:=x;#⟨mA,⟨od,es,ep,k _ _ (.inl rfl) e,c⟩,r⟩
 | rng lo hi=>@⟨t,u,v,e⟩:=x;#⟨t,u,v,k _ _ (.inl rfl) e⟩
 | frz ob u ih=>@⟨e,q⟩:=x;#⟨k _ _ (.inl rfl) e,ih q⟩
 | tbl ps=>
   have e:h.get? a=S {cls:=.none,data:=.fields ps}:=x
   change h'.get? a=S {cls:=.none,data:=.fields ps}
   #k a _ (.inl rfl) e
 | met f y=>
   have e:h.get? a=S (agY (.ref f) (.ref y)):=x
   change h'.get? a=S (agY (.ref f) (.ref y))
   #k a _ (.inl rfl) e
 | ext φ=>@⟨p,⟨o,e⟩,st⟩:=x;#⟨st _ _ p λo q=>k _ _ (.inl rfl) q,⟨o,k _ _ (.inl rfl) e⟩,st⟩
def iU.lt (x:iU P w H h)(e:H a=S o):a<h.objs.size:=(x a o e).lt
def iU.fresh (x:iU P w H h)(e:h.objs.size<=a):H a=Z:=by
 cases q:H a with
 | none=>rfl
 | some u=>#aw (aer (x.lt q) e) (afw _)
def iU.kept (x:iU P w H h)(k:∀b u,h.get? b=S u->h'.get? b=S u):iU P w H h':=λa o e=>
 (x a o e).k9 (λb u z q=>k b u q) (λz q=>q) λz z q=>q
def iU.laid (x:iU P w H h)(k:∀b u,h.get? b=S u->h'.get? b=S u)(hp:h.objs.size<=a)(new:bw P w (upd H a o) h' a o):iU P w (upd H a o) h':=λb u e=>by
 !hn:=x.fresh hp
 by_cases hb:b=a
 . subst hb;rw[ae]at e;cases e;#new
 . rw[aj hb]at e
   show(x b u e).k9 (λc v z q=>k c v q) (λc q=>by rw[aj (ai q hn)];#q) λc xs q=>by rw[aj (ai q hn)];#q
end
def Rd (H:Hp)(a:J)(u:HO):Prop:=H a=S u\/∃o,H a=S (.frz o u)
def Rd.ok {P:Program}{w:World}{H:Hp}{h:Heap}{a:J}{u:HO}(r:Rd H a u)(x:iU P w H h):bw P w H h a u:=by
 rcases r with r|⟨o,r⟩
 . #x a u r
 . @⟨_,q⟩:=x a _ r
   #q
def MV:Option HO->Prop
 | some (.lst _)=>True
 | some (.dK _)=>True
 | some (.dT _)=>True
 | some (.set _ _)=>True
 | some (.ins _ _ _)=>True
 | some (.ext _)=>True
 | _=>False
section
variable{P:Program}{w:World}{H:Hp}{h h':Heap}{x e:J}{o':HO}
def iU.write (ok:iU P w H h)(mu:MV (H x))(he:e=x\/H e=S (.own x))(k:∀b u,b≠e->h.get? b=S u->h'.get? b=S u)(heo:∃u,h'.get? e=S u)
   (new:bw P w (upd H x o') h' x o'):iU P w (upd H x o') h':=λb u q=>by
 !nown:∀c y,H c=S (.own y)->c≠x:=λc y r z=>by subst z;rw[r]at mu;#mu
 !ntup:∀c xs,H c=S (.tup xs)->c≠x:=λc xs r z=>by subst z;rw[r]at mu;#mu
 by_cases hb:b=x
 . subst hb;rw[ae]at q;cases q;#new
 . rw[aj hb]at q
   by_cases Jh:b=e
   . !q':H b=S (.own x):=by
       rcases he with z|z
       . #aw (Jh.trans z) hb
       . rw[Jh];#z
     rw[q]at q';cases q'
     @⟨v,hv⟩:=heo
     #⟨v,by rw[Jh];#hv⟩
   . show(ok b u q).k9 (λc v hc r=>k c v ?_ r) (λc r=>by rw[aj (nown c b r)];#r) λc xs r=>by rw[aj (ntup c xs r)];#r
     rcases hc with rfl|hc
     . #Jh
     . rintro rfl
       rcases he with z|z
       . #nown c b hc z
       . rw[hc]at z;cases z;#hb rfl
end
structure Un (fs ex:O J)(H H':Hp)(h h':Heap):Prop where
 keep:∀b o,h.get? b=S o->H b=Z->b∉fs->b∉ex->h'.get? b=S o
 slot:∀b o,h.get? b=S o->H b=Z->b∈fs->b∉ex->∃sl,h'.get? b=S {o with slots:=sl}
 free:∀b o,h.get? b=S o->H b=Z->b∉ex->H' b=Z
 there:∀b o,h.get? b=S o->b∉ex->∃o',h'.get? b=S o'
 tups:∀b xs,H b=S (.tup xs)->H' b=S (.tup xs)
 frzs:∀b o u,H b=S (.frz o u)->H' b=S (.frz o u)
 tbls:∀b ps,H b=S (.tbl ps)->∃more,H' b=S (.tbl (ps++more))
section
variable{fs fs' ex ex':O J}{H H1 H2:Hp}{h h1 h2 h':Heap}{a x e:J}{o:HO}
def Un.any (u:Un fs ex H H1 h h1){b:J}{ob:Obj}(q:h.get? b=S ob)(n:H b=Z)(hx:b∉ex):∃sl,h1.get? b=S {ob with slots:=sl}:=by
 by_cases hb:b∈fs
 . #u.slot b ob q n hb hx
 . #⟨ob.slots,u.keep b ob q n hb hx⟩
def Un.kept (k:∀b u,h.get? b=S u->h'.get? b=S u):Un fs ex H H h h':=
 ⟨λb ob q z z z=>k b ob q,λb ob q z z z=>⟨ob.slots,k b ob q⟩,λz z z n z=>n,λb ob q z=>⟨ob,k b ob q⟩,λz z q=>q,λz z z q=>q,λz ps q=>⟨#[],by rw[q];simp⟩⟩
def Un.refl:Un fs ex H H h h:=Un.kept λz z q=>q
def Un.laid (k:∀b u,h.get? b=S u->h'.get? b=S u)(hp:h.objs.size<=a)(hn:H a=Z):Un fs ex H (upd H a o) h h' where
 keep:=λb u q z z z=>k b u q
 slot:=λb u q z z z=>⟨u.slots,k b u q⟩
 free:=λb u q n z=>by rw[aj (aeA (aer (aee q) hp))];#n
 there:=λb u q z=>⟨u,k b u q⟩
 tups:=λb xs q=>by rw[aj (ai q hn)];#q
 frzs:=λb u xs q=>by rw[aj (ai q hn)];#q
 tbls:=λb ps q=>⟨#[],by rw[aj (ai q hn),q];simp⟩
def Un.write (mu:MV (H x))(he:e=x\/H e=S (.own x))(k:∀b u,b≠e->h.get? b=S u->h'.get? b=S u)(heo:∃u,h'.get? e=S u):Un fs ex H (upd H x o) h h':=by
 !hx:∀b,H b=Z->b≠x:=λb n z=>by subst z;rw[n]at mu;#mu
 !hb:∀b,H b=Z->b≠e:=λb n z=>by
   subst z
   rcases he with r|r
   . #hx b n r
   . rw[n]at r;cases r
 !hm:∀b u,H b=S u->¬ MV (S u)->b≠x:=λb u q nm z=>by subst z;rw[q]at mu;#nm mu
 #⟨λb u q n y y=>k b u (hb b n) q,λb u q n y y=>⟨u.slots,k b u (hb b n) q⟩,λb u q n y=>by rw[aj (hx b n)];#n,λb u q y=>?_,
   λb xs q=>by rw[aj (hm b _ q λz=>z)];show q,λb u xs q=>by rw[aj (hm b _ q λz=>z)];#q,λb ps q=>⟨#[],by rw[aj (hm b _ q λz=>z),q];simp⟩⟩
 by_cases Jh:b=e
 . subst Jh;#heo
 . #⟨u,k b u Jh q⟩
end
def yA (h:Heap)(H:Hp):O J:=(aem h.objs.size).filter λa=>(H a).isSome
def pj (h:Heap)(H:Hp):Heap:=PySem.W.hideAll h (yA h H)
def xA (h:Heap)(H:Hp):(pj h H).objs.size=h.objs.size:=PySem.W.hideAll_size _ _
def zT {h:Heap}{H:Hp}{b:J}{o:Obj}(e:h.get? b=S o)(n:H b=Z):(pj h H).get? b=S o:=
 ah0 _ e λhm=>by
   !q:(H b).isSome=true:=(List.mem_filter.mp hm).2
   rw[n]at q;simp at q
def Ey {h:Heap}{H:Hp}{b:J}{o:Obj}(e:(pj h H).get? b=S o):h.get? b=S o/\H b=Z:=by
 !e':h.get? b=S o:=aia (yA h H) e
 #⟨e',?_⟩
 cases q:H b with
 | none=>rfl
 | some x=>
   have hm:b∈yA h H:=List.mem_filter.mpr ⟨List.mem_range.mpr (aee e'),by simp[q]⟩
   have z:(pj h H).get? b=Z:=PySem.W.hideAll_none (yA h H) hm
   rw[z]at e;cases e
structure Mod (K:ad2)(mg:Str->Option Value)(base:Heap):Prop where
 kin:K.In base
 glob:base.Ns aeZ mg
 blt:∃mb,base.Ns builtinsNs mb/\∀x:Str,x≠"__name__"->mb x=aeT x
 nolimit:base.NoLimit
structure Cx where
 prog:Program
 w:World
 K:ad2
 mg:Str->Option Value
 base:Heap
 A:Around
 N:O Str
 s₀:Shared
 H₀:Hp
 env:Env
 outer:O Env
 stack:O Env
 ex:O J
 fn:Str->Bool
 calm:Bool
 pn:O (J×Obj)
 xe:Value->Shared->Prop
def jz (l:O Env):O J:=l.filterMap (·.frame)
abbrev Cx.fs (X:Cx):O J:=jz X.outer
def QB (sc:Scope)(x:Str):Prop:=sc.names.lookup x=S .local\/sc.names.lookup x=S .cell\/sc.names.lookup x=S .free
def Loc (sc:Scope)(x:Str):Prop:=sc.names.lookup x=S .local\/sc.names.lookup x=S .cell
def Look (env:Env)(h:Heap)(m:Str->Option Value)(x:Str)(u:Value):Prop:=
 (env.kindOf x=S .local/\m x=S u)\/((env.kindOf x=S .cell\/env.kindOf x=S .free)/\∃c,env.cells.lookup x=S c/\h.IsCell c (S u))
structure Cx.Ok (X:Cx):Prop where
 mod:Mod X.K X.mg X.base
 kind:X.env.scope.kind=.function
 glob:X.env.globals=aeZ
 blt:X.env.builtins=builtinsNs
 above:X.s₀.heap.objs.size<=X.env.locals
 inj:∀x y c,X.env.cells.lookup x=S c->X.env.cells.lookup y=S c->x=y
 has:∀x,(X.env.kindOf x=S .cell\/X.env.kindOf x=S .free)->∃c,X.env.cells.lookup x=S c
 cab:∀x c,X.fn x=true->X.env.cells.lookup x=S c->X.s₀.heap.objs.size<=c
 hd:X.calm=true->X.A.handled=Z
 frames:X.A.frames=S X.stack
 stk:X.stack=X.outer\/(X.stack=X.env::X.outer/\X.env.frame=S X.env.locals)
 exf:∀b∈X.ex,b≠X.env.locals/\∀x c,X.env.cells.lookup x=S c->c≠b
 bs:∀b o,X.base.get? b=S o->X.s₀.heap.get? b=S o/\X.H₀ b=Z
 bsz:X.base.objs.size<=X.s₀.heap.objs.size
 noex:∀b o,X.base.get? b=S o->b∉X.ex
 exfs:∀b∈X.ex,b∉X.fs
 ig:X.s₀.heap.FunFrames X.base X.outer
 frf:∀b∈X.fs,X.H₀ b=Z
structure Inv (X:Cx)(pins:O (J×Obj))(σ:O (Option V))(H:Hp)(s:Shared):Prop where
 ok:X.Ok
 os:s.os=X.s₀.os
 bare:AllBare s.gens
 base:Un X.fs X.ex X.H₀ H X.s₀.heap s.heap
 loc:∃m,s.heap.Ns X.env.locals m/\∀(i:Nat) (x:Str) (v:V),X.N[i]?=S x->σ[i]?=S (S v)->QB X.env.scope x->∃u,RelV v u/\Look X.env s.heap m x u
 cell:∀x c,X.env.cells.lookup x=S c->∃v,s.heap.IsCell c v
 free:H X.env.locals=Z
 freeC:∀x c,X.env.cells.lookup x=S c->H c=Z
 pin:∀p∈X.pn++pins,s.heap.get? p.1=S p.2/\H p.1=Z/\p.1≠X.env.locals/\p.1∉X.fs/\∀v,p.2.data≠.cell v
 hok:iU X.prog X.w H s.heap
 len:σ.length=X.N.length
section
variable{X:Cx}{pins:O (J×Obj)}{σ:O (Option V)}{H H':Hp}{s:Shared}{h':Heap}
def Cx.Ok.U4 (ok:X.Ok){b:J}{o:Obj}(e:X.base.get? b=S o):b∉X.fs:=λhb=>by
 !:=(ok.ig.mem hb).1
 rw[e]at this;cases this
def Inv.bs (I:Inv X pins σ H s):∀b o,X.base.get? b=S o->s.heap.get? b=S o/\H b=Z:=λb o e=>
 ⟨I.base.keep b o (I.ok.bs b o e).1 (I.ok.bs b o e).2 (I.ok.U4 e) (I.ok.noex b o e),I.base.free b o (I.ok.bs b o e).1 (I.ok.bs b o e).2 (I.ok.noex b o e)⟩
def Inv.bk (I:Inv X pins σ H s):∀b o,X.base.get? b=S o->s.heap.get? b=S o:=λb o e=>(I.bs b o e).1
def Inv.mod (I:Inv X pins σ H s):Mod X.K X.mg X.base:=I.ok.mod
def Inv.i6 (I:Inv X pins σ H s):X.K.In s.heap:=I.ok.mod.kin.keeps I.bk
def Inv.lt (I:Inv X pins σ H s):X.env.locals<s.heap.objs.size:=by@⟨_,hn,_⟩:=I.loc;#hn.lt
def Inv.sz (I:Inv X pins σ H s):X.s₀.heap.objs.size<=s.heap.objs.size:=aeg I.ok.above (aeY I.lt)
def Inv.U5 (I:Inv X pins σ H s){a:J}(h:s.heap.objs.size<=a):a∉X.fs:=λhb=>by
 @⟨_,o,ho,_⟩:=I.ok.ig.mem hb
 #aw (aer (aee ho) (aeg I.sz h)) (afw _)
def Inv.wO (I:Inv X pins σ H s):∀x c,X.env.cells.lookup x=S c->c≠X.env.locals:=λx c e z=>by
 @⟨v,o,ho,hd⟩:=I.cell x c e
 @⟨m,⟨o',es,ep,ho',qQ,_⟩,_⟩:=I.loc
 rw[z,ho']at ho;cases ho;rw[qQ]at hd;cases hd
theorem Inv.ig (I:Inv X pins σ H s):s.heap.FunFrames X.base X.outer:=by
 !all:∀(l:O Env),(∀b∈jz l,b∈X.fs)->X.s₀.heap.FunFrames X.base l->s.heap.FunFrames X.base l:=by
   intro l
   induction l with
   | nil=>intro _ _;trivial
   | cons env r ih=>
     intro hs hl
     @⟨hk,⟨L8,o,hf,hn,ho,hd⟩,hr⟩:=hl
     !hL:L8∈X.fs:=hs L8 (by unfold jz;rw[afb,hf];#aeX)
     @⟨sl,e⟩:=I.base.slot L8 o ho (I.ok.frf L8 hL) hL λz=>I.ok.exfs L8 z hL
     #⟨hk,⟨L8,_,hf,hn,e,hd⟩,ih (λb hb=>hs b (by unfold jz;rw[afb,hf];#aeU _ hb)) hr⟩
 #all X.outer (λy hb=>hb) I.ok.ig
def Inv.stack (I:Inv X pins σ H s):s.heap.FunFrames X.base X.stack:=by
 rcases I.ok.stk with e|⟨e,hf⟩
 . rw[e];#I.ig
 . rw[e]
   @⟨m,hn,_⟩:=I.loc
   #.cons (by rw[I.ok.kind];decide) hf hn ?_ I.ig
   #Heap.get?_none_of_le (aeg I.ok.bsz I.ok.above)
def Inv.qe (I:Inv X pins σ H s):∀b∈jz X.stack,b∈X.env.locals::X.fs:=λb hb=>by
 rcases I.ok.stk with e|⟨e,hf⟩
 . rw[e]at hb;#aeU _ hb
 . rw[e]at hb
   unfold jz at hb
   rw[afb,hf]at hb
   #hb
def Inv.qd (I:Inv X pins σ H s):∀b∈jz X.stack,H b=Z:=λb hb=>by
 rcases List.mem_cons.mp (I.qe b hb)with e|hb
 . rw[e];#I.free
 . @⟨_,o,ho,_⟩:=I.ok.ig.mem hb
   #I.base.free b o ho (I.ok.frf b hb) λz=>I.ok.exfs b z hb
def Inv.step {g':Array GenState}{t':Nat}{d':Drawn}{ch:O J}(I:Inv X pins σ H s)
   (hch:∀b∈ch,(b∈X.ex\/X.s₀.heap.objs.size<=b)/\b≠X.env.locals/\(∀x c,X.env.cells.lookup x=S c->c≠b)/\∀p∈X.pn++pins,p.1≠b)
   (keep:∀b o,b≠X.env.locals->b∉X.fs->b∉ch->s.heap.get? b=S o->H b=Z->h'.get? b=S o)
   (slot:∀b o,b≠X.env.locals->b∈X.fs->b∉ch->s.heap.get? b=S o->H b=Z->∃sl,h'.get? b=S {o with slots:=sl}) (free:∀b o,b∉ch->s.heap.get? b=S o->H b=Z->H' b=Z)
   (there:∀b o,b∉ch->s.heap.get? b=S o->∃o',h'.get? b=S o')
   (tups:∀b xs,H b=S (.tup xs)->H' b=S (.tup xs)) (frzs:∀b o u,H b=S (.frz o u)->H' b=S (.frz o u)) (tbls:∀b ps,H b=S (.tbl ps)->∃more,H' b=S (.tbl (ps++more)))
   (ns:∀m,s.heap.Ns X.env.locals m->h'.Ns X.env.locals m) (hok:iU X.prog X.w H' h') (hg:AllBare g') :
   Inv X pins σ H' {s with heap:=h',gens:=g',drawn:=d',toks:=t'}:=by
 !neL:∀b o,X.s₀.heap.get? b=S o->b≠X.env.locals:=λb o e=>aeA (aer (aee e) I.ok.above)
 !neC:∀b o,X.s₀.heap.get? b=S o->b∉X.ex->b∉ch:=λb o e hx hb=>by
   rcases(hch b hb).1 with z|z
   . #hx z
   . #aw (aer (aee e) z) (afw _)
 !cellK:∀x c,X.env.cells.lookup x=S c->∀v,s.heap.IsCell c v->h'.IsCell c v:=λx c e v ⟨o,ho,hd⟩=>by
   !Ap:c∉ch:=λz=>(hch c z).2.2.1 x c e rfl
   by_cases hc:c∈X.fs
   . @⟨sl,q⟩:=slot c o (I.wO x c e) hc Ap ho (I.freeC x c e)
     #⟨_,q,hd⟩
   . #⟨o,keep c o (I.wO x c e) hc Ap ho (I.freeC x c e),hd⟩
 #⟨I.ok,I.os,hg,⟨λb o e n hb hx=>?_,λb o e n hb hx=>?_,λb o e n hx=>?_,λb o e hx=>?_,λb xs e=>tups b xs (I.base.tups b xs e),λb o xs e=>frzs b o xs (I.base.frzs b o xs e),λb ps e=>?_⟩,?_,λx c e=>?_,?_,λx c e=>?_,λp hp=>?_,hok,I.len⟩
 . #keep b o (neL b o e) hb (neC b o e hx) (I.base.keep b o e n hb hx) (I.base.free b o e n hx)
 . @⟨sl,e1⟩:=I.base.slot b o e n hb hx
   @⟨Vs,e2⟩:=slot b _ (neL b o e) hb (neC b o e hx) e1 (I.base.free b o e n hx)
   #⟨Vs,e2⟩
 . @⟨o',e1⟩:=I.base.there b o e hx
   #free b o' (neC b o e hx) e1 (I.base.free b o e n hx)
 . @⟨o',e1⟩:=I.base.there b o e hx
   #there b o' (neC b o e hx) e1
 . @⟨m1,e1⟩:=I.base.tbls b ps e
   @⟨m2,e2⟩:=tbls b _ e1
   #⟨m1++m2,by rw[e2,Array.append_assoc]⟩
 . @⟨m,hn,hl⟩:=I.loc
   #⟨m,ns m hn,λi x v e1 e2 e3=>?_⟩
   @⟨u,r,l⟩:=hl i x v e1 e2 e3
   #⟨u,r,?_⟩
   rcases l with l|⟨k,c,e,z⟩
   . #.inl l
   . #.inr ⟨k,c,e,cellK x c e _ z⟩
 . @⟨v,z⟩:=I.cell x c e
   #⟨v,cellK x c e v z⟩
 . @⟨m,⟨o,_,_,ho,_⟩,_⟩:=I.loc
   #free _ o (λz=>(hch _ z).2.1 rfl) ho I.free
 . @⟨v,o,ho,hd⟩:=I.cell x c e
   #free c o (λz=>(hch c z).2.2.1 x c e rfl) ho (I.freeC x c e)
 . @⟨e,n,ne,nf,d⟩:=I.pin p hp
   !Ap:p.1∉ch:=λz=>(hch p.1 z).2.2.2 p hp rfl
   #⟨keep p.1 p.2 ne nf Ap e n,free p.1 p.2 Ap e n,ne,nf,d⟩
def Inv.un {t':Nat}(I:Inv X pins σ H s)(u:Un X.fs [] H H' s.heap h')(hok:iU X.prog X.w H' h'):Inv X pins σ H' {s with heap:=h',toks:=t'}:=by
 @⟨m,⟨o,es,ep,ho,r⟩,_⟩:=id I.loc
 @⟨sl,hL⟩:=u.any ho I.free (by simp)
 #I.step (g':=s.gens) (d':=s.drawn) (ch:=[]) (λy z=>nomatch z) (λb o y hb y e n=>u.keep b o e n hb (by simp)) (λb o y hb y e n=>u.slot b o e n hb (by simp)) (λb o y e n=>u.free b o e n (by simp)) (λb o y e=>u.there b o e (by simp)) u.tups u.frzs u.tbls (λm' hm=>by
   @⟨o',Jc,Sd,ho',r'⟩:=hm
   rw[ho]at ho';cases ho'
   #⟨_,Jc,Sd,hL,r'⟩) hok I.bare
def Inv.call {g':Array GenState}{t':Nat}{d':Drawn}{ch:O J}(I:Inv X pins σ H s)(u:Un (jz X.stack) ch H H' s.heap h')(hok:iU X.prog X.w H' h')(hg:AllBare g')
   (hch:∀b∈ch,(b∈X.ex\/X.s₀.heap.objs.size<=b)/\b≠X.env.locals/\(∀x c,X.env.cells.lookup x=S c->c≠b)/\∀p∈X.pn++pins,p.1≠b) :
   Inv X pins σ H' {s with heap:=h',gens:=g',drawn:=d',toks:=t'}:=by
 @⟨m,⟨o,es,ep,ho,r⟩,_⟩:=id I.loc
 @⟨sl,hL⟩:=u.any ho I.free λz=>(hch _ z).2.1 rfl
 #I.step (ch:=ch) hch (λb o hL hb hc e n=>u.keep b o e n (λz=>(List.mem_cons.mp (I.qe b z)).elim hL hb) hc) (λb o y y hc e n=>u.any e n hc) (λb o hc e n=>u.free b o e n hc) (λb o hc e=>u.there b o e hc) u.tups u.frzs u.tbls (λm' hm=>by
   @⟨o',Jc,Sd,ho',r'⟩:=hm
   rw[ho]at ho';cases ho'
   #⟨_,Jc,Sd,hL,r'⟩) hok hg
def Inv.turned {t':Nat}{it:J}(I:Inv X pins σ H s)(k:∀b o,b≠it->s.heap.get? b=S o->h'.get? b=S o)(hn:H it=Z)(hL:it≠X.env.locals)
   (h1:it∈X.ex\/X.s₀.heap.objs.size<=it) (h2:∀x c,X.env.cells.lookup x=S c->c≠it) (h3:∀p∈X.pn++pins,p.1≠it):Inv X pins σ H {s with heap:=h',toks:=t'}:=by
 !Xd:∀b u,H b=S u->b≠it:=λb u e z=>by rw[z,hn]at e;cases e
 #I.step (g':=s.gens) (d':=s.drawn) (ch:=[it]) (λb hb=>?_) (λb o y y hc e y=>k b o (λz=>hc (by simp[z])) e) (λb o y y hc e y=>⟨o.slots,k b o (λz=>hc (by simp[z])) e⟩) (λy y y y n=>n)
   (λb o hc e=>⟨o,k b o (λz=>hc (by simp[z])) e⟩) (λy y e=>e) (λy y y e=>e) (λb ps e=>⟨#[],by rw[e];simp⟩) (λm hm=>?_) (λb u e=>?_) I.bare
 . !e:b=it:=by simpa using hb
   subst e
   #⟨h1,hL,h2,h3⟩
 . @⟨o,es,ep,ho,r⟩:=hm
   #⟨o,es,ep,k _ o (Ne.symm hL) ho,r⟩
 . #(I.hok b u e).k9 (λc v hc q=>k c v ?_ q) (λy q=>q) λy y q=>q
   rcases hc with z|z
   . rw[z];#Xd b u e
   . #Xd c _ z
def Inv.tok (I:Inv X pins σ H s)(t:Nat):Inv X pins σ H {s with toks:=t}:=I.un (h':=s.heap) (t':=t) Un.refl I.hok
def Inv.kept {t':Nat}(I:Inv X pins σ H s)(k:∀b u,s.heap.get? b=S u->h'.get? b=S u):Inv X pins σ H {s with heap:=h',toks:=t'}:=I.un (Un.kept k) (I.hok.kept k)
def Inv.laid {a:J}{o:HO}{t':Nat}(I:Inv X pins σ H s)(k:∀b u,s.heap.get? b=S u->h'.get? b=S u)(hp:s.heap.objs.size<=a)(new:bw X.prog X.w (upd H a o) h' a o) :
   Inv X pins σ (upd H a o) {s with heap:=h',toks:=t'}:=I.un (Un.laid k hp (I.hok.fresh hp)) (I.hok.laid k hp new)
def Inv.write {x e:J}{o:HO}{t':Nat}(I:Inv X pins σ H s)(mu:MV (H x))(he:e=x\/H e=S (.own x))(k:∀b u,b≠e->s.heap.get? b=S u->h'.get? b=S u)(heo:∃u,h'.get? e=S u)
   (new:bw X.prog X.w (upd H x o) h' x o):Inv X pins σ (upd H x o) {s with heap:=h',toks:=t'}:=I.un (Un.write mu he k heo) (I.hok.write mu he k heo new)
def Inv.weak {σ':O (Option V)}(I:Inv X pins σ H s)(hl:σ'.length=σ.length)(w:∀(i:Nat) v,σ'[i]?=S (S v)->σ[i]?=S (S v)):Inv X pins σ' H s:=
 ⟨I.ok,I.os,I.bare,I.base,let⟨m,hn,hl'⟩:=I.loc;⟨m,hn,λi x v e1 e2 e3=>hl' i x v e1 (w i v e2) e3⟩,I.cell,I.free,I.freeC,I.pin,I.hok,hl.trans I.len⟩
def Inv.vM {kC:O (J×Obj)}(I:Inv X pins σ H s)(h:∀p∈kC,s.heap.get? p.1=S p.2/\H p.1=Z/\p.1≠X.env.locals/\p.1∉X.fs/\∀v,p.2.data≠.cell v):Inv X kC σ H s:=
 ⟨I.ok,I.os,I.bare,I.base,I.loc,I.cell,I.free,I.freeC,λp hp=>(List.mem_append.mp hp).elim (λz=>I.pin p (agN _ z)) (h p),I.hok,I.len⟩
def rg {N:O Str}(hN:N.Nodup){i j:Nat}{x:Str}(a:N[i]?=S x)(b:N[j]?=S x):i=j:=by
 @⟨h1,e1⟩:=List.getElem?_eq_some_iff.mp a
 @⟨h2,e2⟩:=List.getElem?_eq_some_iff.mp b
 #(List.getElem_inj hN).mp (e1.trans e2.symm)
def oH {M8:Model}{A:Around}{E:Value->Shared->Prop}{i:Nat}{x:Str}{v:V}{u:Value}{Q:Unit->Shared->Prop}(I:Inv X pins σ H s)(hN:X.N.Nodup)(hi:X.N[i]?=S x)(hx:Loc X.env.scope x)(r:RelV v u)
   (h:∀s',Inv X pins (σ.set i (S v)) H s'->(∃a,ae7 a s.heap s'.heap/\(a=X.env.locals\/X.env.cells.lookup x=S a))->Q () s') (hf:X.fn x=true\/X.env.scope.names.lookup x=S .local:=by first|show .inl rfl|show .inr rfl|assumption):wpAny M8 A (storeName X.env x u) Q E s:=by
 @⟨m,hn,hl⟩:=id I.loc
 !hcls:(X.env.scope.kind==.class || (X.env.scope.kind==.module&&X.env.locals != X.env.globals))=false:=by rw[I.ok.kind];rfl
 !hiσ:i<σ.length:=by rw[I.len];#(List.getElem?_eq_some_iff.mp hi).1
 !wO:=I.wO
 !tracked:∀{a:J} {h':Heap},(∃o,s.heap.get? a=S o/\H a=Z)->ae7 a s.heap h'->iU X.prog X.w H h':=λ{a h'} ha hs b ob e=>by
   @⟨_,_,qR⟩:=ha
   #(I.hok b ob e).k9 (λc w' hc q=>(hs.2 c ?_).trans q) (λt q=>q) λt t q=>q
   rintro rfl
   rcases hc with rfl|hc
   . rw[qR]at e;cases e
   . rw[qR]at hc;cases hc
 rcases hx with hk|hk
 . #wpAny_storeName_local hk hn (λh' hn' hs=>?_) hcls
   @⟨oL,_,_,hoL,_⟩:=id hn
   #h _ ⟨I.ok,I.os,I.bare,⟨λb o e n hb hx=>?_,λb o e n hb hx=>?_,I.base.free,λb o e hx=>?_,I.base.tups,I.base.frzs,I.base.tbls⟩,⟨_,hn',λj y v' e1 e2 e3=>?_⟩,λy c e=>?_,I.free,I.freeC,λp hp=>?_,tracked ⟨oL,hoL,I.free⟩ hs,by simpa using I.len⟩ ⟨_,hs,.inl rfl⟩
   . #(hs.2 b (aeA (aer (aee e) I.ok.above))).trans (I.base.keep b o e n hb hx)
   . @⟨sl,e1⟩:=I.base.slot b o e n hb hx
     #⟨sl,(hs.2 b (aeA (aer (aee e) I.ok.above))).trans e1⟩
   . @⟨o',e1⟩:=I.base.there b o e hx
     #⟨o',(hs.2 b (aeA (aer (aee e) I.ok.above))).trans e1⟩
   . by_cases hj:j=i
     . subst hj
       rw[hi]at e1;cases e1
       rw[afq hiσ]at e2
       cases e2
       #⟨u,r,.inl ⟨hk,by simp⟩⟩
     . rw[afY (Ne.symm hj)]at e2
       @⟨u',r',q⟩:=hl j y v' e1 e2 e3
       #⟨u',r',?_⟩
       rcases q with⟨k,e⟩|⟨k,c,e,z⟩
       . #.inl ⟨k,?_⟩
         !:y≠x:=λe=>hj (rg hN e1 (e▸hi))
         simp[this,e]
       . #.inr ⟨k,c,e,z.sameBut hs (wO y c e)⟩
   . @⟨w',z⟩:=I.cell y c e
     #⟨w',z.sameBut hs (wO y c e)⟩
   . @⟨e,n,ne,nf,d⟩:=I.pin p hp
     #⟨(hs.2 p.1 ne).trans e,n,ne,nf,d⟩
 . !NL:X.fn x=true:=by
     rcases hf with z|z
     . #z
     . rw[z]at hk;cases hk
   @⟨c,hc⟩:=I.ok.has x (.inl hk)
   @⟨w',z⟩:=I.cell x c hc
   #wpAny_storeName_cell I.ok.kind hk hc z (λh' kN hs=>?_)
   @⟨oc,Mz,TY⟩:=id z
   #h {s with heap:=h'} ⟨I.ok,I.os,I.bare,⟨λb o e n hb hx=>?_,λb o e n hb hx=>?_,I.base.free,λb o e hx=>?_,I.base.tups,I.base.frzs,I.base.tbls⟩,⟨m,hn.sameBut hs (Ne.symm (wO x c hc)),λj y v' e1 e2 e3=>?_⟩,λy c' e=>?_,I.free,I.freeC,λp hp=>?_,tracked ⟨oc,Mz,I.freeC x c hc⟩ hs,by simpa using I.len⟩ ⟨c,hs,.inr hc⟩
   . #(hs.2 b (aeA (aer (aee e) (I.ok.cab x c NL hc)))).trans (I.base.keep b o e n hb hx)
   . @⟨sl,e1⟩:=I.base.slot b o e n hb hx
     #⟨sl,(hs.2 b (aeA (aer (aee e) (I.ok.cab x c NL hc)))).trans e1⟩
   . @⟨o',e1⟩:=I.base.there b o e hx
     #⟨o',(hs.2 b (aeA (aer (aee e) (I.ok.cab x c NL hc)))).trans e1⟩
   . by_cases hj:j=i
     . subst hj
       rw[hi]at e1;cases e1
       rw[afq hiσ]at e2
       cases e2
       #⟨u,r,.inr ⟨.inl hk,c,hc,kN⟩⟩
     . rw[afY (Ne.symm hj)]at e2
       @⟨u',r',q⟩:=hl j y v' e1 e2 e3
       #⟨u',r',?_⟩
       rcases q with q|⟨k,c',e,z'⟩
       . #.inl q
       . #.inr ⟨k,c',e,z'.sameBut hs ?_⟩
         rintro rfl
         #hj (rg hN e1 (I.ok.inj _ _ _ e hc▸hi))
   . by_cases xw:c'=c
     . subst xw;#⟨_,kN⟩
     . @⟨w2,z2⟩:=I.cell y c' e
       #⟨w2,z2.sameBut hs xw⟩
   . @⟨e,n,ne,nf,d⟩:=I.pin p hp
     #⟨(hs.2 p.1 ?_).trans e,n,ne,nf,d⟩
     intro q
     rw[q,Mz]at e
     !q':oc=p.2:=aej e
     #d w' (by rw[← q'];#TY)
def eM {M8:Model}{A:Around}{E:Value->Shared->Prop}{i:Nat}{x:Str}{v:V}{u:Value}{Q:Unit->Shared->Prop}(I:Inv X pins σ H s)(hN:X.N.Nodup)(hi:X.N[i]?=S x)(hx:Loc X.env.scope x)(r:RelV v u)
   (h:∀s',Inv X pins (σ.set i (S v)) H s'->Q () s') (hf:X.fn x=true\/X.env.scope.names.lookup x=S .local:=by first|show .inl rfl|show .inr rfl|assumption):wpAny M8 A (storeName X.env x u) Q E s:=
 oH I hN hi hx r (λs' I' z=>h s' I') hf
def Inv.Gv {s':Shared}{ch:O J}(I:Inv X pins σ H s)(ho:s'.os=s.os)(u:Un (jz X.stack) ch H H' s.heap s'.heap)(hok:iU X.prog X.w H' s'.heap)(hg:AllBare s'.gens)
   (hch:∀b∈ch,(b∈X.ex\/X.s₀.heap.objs.size<=b)/\b≠X.env.locals/\(∀x c,X.env.cells.lookup x=S c->c≠b)/\∀p∈X.pn++pins,p.1≠b):Inv X pins σ H' s':=by
 @⟨h',g',d',t',o'⟩:=s'
 !e:o'=s.os:=ho
 subst e
 #I.call (g':=g') (t':=t') (d':=d') u hok hg hch
end
abbrev XK:=Value->Option J->Hp->Prop
abbrev St:=O (Option V)
abbrev VK:=V->Hp->Prop
abbrev TE:=St->Hp->VK->Prop
abbrev TT:=St->Hp->(Bool->Hp->Prop)->Prop
abbrev TA:=St->Hp->(O V->Hp->Prop)->Prop
structure Ends where
 nx:St->Hp->Prop
 rt:VK
 bk:St->Hp->Prop:=λ_ _=>False
 ct:St->Hp->Prop:=λ_ _=>False
abbrev TS:=Ends->St->Hp->Prop
def EP (X:Cx)(pins:O (J×Obj))(σ:St)(Q:VK)(u:Value)(s':Shared):Prop:=∃v H',Inv X pins σ H' s'/\RelV v u/\Q v H'
def TP (X:Cx)(pins:O (J×Obj))(σ:St)(Q:Bool->Hp->Prop)(b:Bool)(s':Shared):Prop:=∃H',Inv X pins σ H' s'/\Q b H'
def AP (X:Cx)(pins:O (J×Obj))(σ:St)(Q:O V->Hp->Prop)(us:O Value)(s':Shared):Prop:=∃vs H',Inv X pins σ H' s'/\Vals vs us/\Q vs H'
def SP (X:Cx)(pins:O (J×Obj))(D:Ends)(f:Flow)(s':Shared):Prop:=
 match f with
 | .next=>∃σ' H',Inv X pins σ' H' s'/\D.nx σ' H'
 | .brk=>∃σ' H',Inv X pins σ' H' s'/\D.bk σ' H'
 | .cont=>∃σ' H',Inv X pins σ' H' s'/\D.ct σ' H'
 | .ret u=>∃v σ' H',Inv X pins σ' H' s'/\RelV v u/\D.rt v H'
def PE (X:Cx)(e:Expr)(t:TE):Prop:=
 ∀(pins:O (J×Obj)) (s:Shared) (σ:St) (H:Hp) (Q:VK),Inv X pins σ H s->t σ H Q->wpAny (model X.prog X.w) X.A (eval e X.env) (EP X pins σ Q) X.xe s
def PT (X:Cx)(e:Expr)(t:TT):Prop:=
 ∀(pins:O (J×Obj)) (s:Shared) (σ:St) (H:Hp) (Q:Bool->Hp->Prop),Inv X pins σ H s->t σ H Q->wpAny (model X.prog X.w) X.A (isTrue e X.env (eval e X.env)) (TP X pins σ Q) X.xe s
def PW (X:Cx)(e:Expr)(t:TT):Prop:=
 ∀(whole:Sem Value) (pins:O (J×Obj)) (s:Shared) (σ:St) (H:Hp) (Q:Bool->Hp->Prop),Inv X pins σ H s->t σ H Q->wpAny (model X.prog X.w) X.A (isTrue e X.env whole) (TP X pins σ Q) X.xe s
def PW.pt {X:Cx}{e:Expr}{t:TT}(h:PW X e t):PT X e t:=h _
def PA (X:Cx)(es:O Expr)(t:TA):Prop:=
 ∀(pos:Pos) (pins:O (J×Obj)) (s:Shared) (σ:St) (H:Hp) (Q:O V->Hp->Prop),Inv X pins σ H s->t σ H Q->wpAny (model X.prog X.w) X.A (spliced (backTo pos (starEach es X.env))) (AP X pins σ Q) X.xe s
def PS (X:Cx)(st:Stmt)(t:TS):Prop:=
 ∀(pins:O (J×Obj)) (s:Shared) (σ:St) (H:Hp) (D:Ends),Inv X pins σ H s->t D σ H->wpAny (model X.prog X.w) X.A (exec st X.env) (SP X pins D) X.xe s
def mV (X:Cx)(st:O Stmt)(t:TS):Prop:=
 ∀(pins:O (J×Obj)) (s:Shared) (σ:St) (H:Hp) (D:Ends),Inv X pins σ H s->t D σ H->wpAny (model X.prog X.w) X.A (execs st X.env) (SP X pins D) X.xe s
def bH {α:Type}{t:Sem α}{Q Q':α->Shared->Prop}{M8:Model}{A:Around}{E:Value->Shared->Prop}{s:Shared}(h:wpAny M8 A t Q E s)(hQ:∀a s,Q a s->Q' a s):wpAny M8 A t Q' E s:=wpAny_mono h hQ λz z x=>x
section
variable{X:Cx}
def qg (i:Nat):TE:=λσ H Q=>∃v,σ[i]?=S (S v)/\Q v H
def tC (v:V):TE:=λz H Q=>Q v H
def K5 {i:Nat}{x:Str}{pos:Pos}(hN:X.N[i]?=S x)(hv:QB X.env.scope x)(hd:(x==("__debug__":Str))=false:=by left)(hcd:(x==("__classdict__":Str))=false:=by left):PE X (.Name x pos) (qg i):=by
 intro pins s σ H Q I h
 @⟨v,e,h⟩:=h
 @⟨m,hn,hl⟩:=I.loc
 @⟨u,r,l⟩:=hl i x v hN e hv
 !fin:EP X pins σ Q u s:=⟨v,H,I,r,h⟩
 rcases l with⟨hk,hm⟩|⟨hk,c,hc,GG⟩
 . #wpAny_Name (wpAny_loadName_local I.ok.kind hk hn hm fin) hd
 . rcases hk with hk|hk
   . #wpAny_Name (wpAny_loadName_cell I.ok.kind hk hc GG fin) hd
   . #wpAny_Name (wpAny_loadName_free I.ok.kind hk hc GG fin hcd) hd
def KR {i j pos}:PE X (.Constant (.int i) j pos) (tC (.int i)):=λz z z H z I h=>wpAny_Constant_int ⟨.int i,H,I.tok _,⟨_,rfl⟩,h⟩
def OU {b j pos}:PE X (.Constant (.bool b) j pos) (tC (.bl b)):=λz z z H z I h=>Constant_bool ⟨.bl b,H,I,rfl,h⟩
def KU {j pos}:PE X (.Constant .none j pos) (tC .bA):=λz z z H z I h=>Constant_none ⟨.bA,H,I,rfl,h⟩
def K3 {x j pos}:PE X (.Constant (.str x) j pos) (tC (.str x)):=λz z z H z I h=>Calls.Constant_str ⟨.str x,H,I.tok _,⟨_,rfl⟩,h⟩
def Gl (X:Cx)(x:Str):Prop:=X.env.kindOf x=S .globalImplicit
def iN {E:Value->Shared->Prop}{pins:O (J×Obj)}{s:Shared}{σ:St}{H:Hp}{x:Str}{u:Value}{pos:Pos}{Q:Value->Shared->Prop}(I:Inv X pins σ H s)(hg:Gl X x)(hm:X.mg x=S u)(h:Q u s)
   (hd:(x==("__debug__":Str))=false:=by left):wpAny (model X.prog X.w) X.A (eval (.Name x pos) X.env) Q E s:=
 ahB I.ok.kind hg (Calls.loadGlobal_global (by rw[I.ok.glob];#I.mod.glob.keeps I.bk) hm h) hd
def eS {E:Value->Shared->Prop}{pins:O (J×Obj)}{s:Shared}{σ:St}{H:Hp}{x:Str}{u:Value}{pos:Pos}{Q:Value->Shared->Prop}(I:Inv X pins σ H s)(hg:Gl X x)(hm:X.mg x=Z)(hv:aeT x=S u)(h:Q u s)
   (hn:x≠"__name__":=by left) (hd:(x==("__debug__":Str))=false:=by left):wpAny (model X.prog X.w) X.A (eval (.Name x pos) X.env) Q E s:=by
 @⟨mb,h1,h2⟩:=I.mod.blt
 #ahB I.ok.kind hg (Calls.loadGlobal_builtin (by rw[I.ok.glob];#I.mod.glob.keeps I.bk) hm (by rw[I.ok.blt];#h1.keeps I.bk) ((h2 x hn).trans hv) h) hd
def Ff {x:Str}{v:V}{u:Value}{pos:Pos}(hg:Gl X x)(hm:X.mg x=S u)(r:RelV v u)(hd:(x==("__debug__":Str))=false:=by left):PE X (.Name x pos) (tC v):=
 λz z z H z I h=>iN I hg hm ⟨v,H,I,r,h⟩ hd
def Fc {x:Str}{v:V}{u:Value}{pos:Pos}(hg:Gl X x)(hm:X.mg x=Z)(hv:aeT x=S u)(r:RelV v u)(hn:x≠"__name__":=by left)(hd:(x==("__debug__":Str))=false:=by left):PE X (.Name x pos) (tC v):=
 λz z z H z I h=>eS I hg hm hv ⟨v,H,I,r,h⟩ hn hd
variable{a b:Expr}{ta tb:TE}{pos:Pos}
def PC (X:Cx)(op:CmpOp)(a b:Expr)(t:TE):Prop:=
 ∀(pins:O (J×Obj)) (s:Shared) (σ:St) (H:Hp) (Q:VK),Inv X pins σ H s->t σ H Q ->
   wpAny (model X.prog X.w) X.A (eval a X.env) (λv s₁=>wpAny (model X.prog X.w) X.A (eval b X.env) (λu s₂=>wpAny (model X.prog X.w) X.A (compareOp op v u) (EP X pins σ Q) X.xe s₂) X.xe s₁) X.xe s
def tB (t:TE):TT:=λσ H Q=>t σ H λx H1=>∃c,x=.bl c/\Q c H1
def KL {op:CmpOp}{t:TE}(h:PC X op a b t)(h1:afj op b=false:=by first|show my _ (by left) (by left)|rfl):PE X (.Compare a [op] [b] pos) t:=λpins s σ H Q I hw=>wpAny_Compare1 (h pins s σ H Q I hw) h1
def Li {op:CmpOp}{t:TE}(h:PC X op a b t)(h1:afj op b=false:=by first|show my _ (by left) (by left)|rfl):PT X (.Compare a [op] [b] pos) (tB t):=by
 intro pins s σ H Q I hw
 #wpAny_isTrue_Compare1 (bH (h pins s σ H _ I hw) λv s1 h1=>bH h1 λu s2 h2=>bH h2 λc s3 h9=>?_) h1
 @⟨x,H1,I1,r1,q1⟩:=h9
 @⟨d,rfl,q⟩:=q1
 cases r1
 #wpAny_truthy_bool ⟨H1,I1,q⟩
def Lk {e:Expr}{t:TE}(h:PE X e t)(he:∀whole,isTrue e X.env whole=(do let v←whole;standAt e.pos;holding [v] (truthy v)):=by intro _;rfl):PT X e (tB t):=by
 intro pins s σ H Q I hw
 #isTrue_plain (bH (h pins s σ H _ I hw) λv s1 h9=>?_) (he _)
 @⟨x,H1,I1,r1,q1⟩:=h9
 @⟨d,rfl,q⟩:=q1
 cases r1
 #wpAny_truthy_bool ⟨H1,I1,q⟩
variable{tA Rx:TT}{rest:O Expr}
def P8 (t u:TT):TT:=λσ H Q=>t σ H λc H1=>if c=true then u σ H1 Q else Q false H1
def XS (t u:TT):TT:=λσ H Q=>t σ H λc H1=>if c=true then Q true H1 else u σ H1 Q
def Qe (t:TT):TT:=λσ H Q=>t σ H λc H1=>Q (!c) H1
def FI (ha:PT X a tA):PW X (.BoolOp .And [a] pos) tA:=by
 intro wh pins s σ H Q I h
 #isTrue_and (bH (ha pins s σ H Q I h) λc s1 e=>?_)
 cases c with
 | true=>#isTrue_and_nil e
 | false=>#e
def Lm (ha:PT X a tA):PW X (.BoolOp .Or [a] pos) tA:=by
 intro wh pins s σ H Q I h
 #isTrue_or (bH (ha pins s σ H Q I h) λc s1 e=>?_)
 cases c with
 | false=>#isTrue_or_nil e
 | true=>#e
def Ll (ha:PT X a tA)(hb:PW X (.BoolOp .And (b::rest) pos) Rx):PW X (.BoolOp .And (a::b::rest) pos) (P8 tA Rx):=by
 intro wh pins s σ H Q I h
 #isTrue_and (bH (ha pins s σ H _ I h) λc s1 h9=>?_)
 @⟨H1,I1,q1⟩:=h9
 cases c with
 | true=>#hb wh pins s1 σ H1 Q I1 q1
 | false=>#⟨H1,I1,q1⟩
def O9 (ha:PT X a tA)(hb:PW X (.BoolOp .Or (b::rest) pos) Rx):PW X (.BoolOp .Or (a::b::rest) pos) (XS tA Rx):=by
 intro wh pins s σ H Q I h
 #isTrue_or (bH (ha pins s σ H _ I h) λc s1 h9=>?_)
 @⟨H1,I1,q1⟩:=h9
 cases c with
 | true=>#⟨H1,I1,q1⟩
 | false=>#hb wh pins s1 σ H1 Q I1 q1
def Lj (ha:PT X a tA):PT X (.UnaryOp .Not a pos) (Qe tA):=by
 intro pins s σ H Q I h
 #isTrue_not (ha pins s σ H (λc H1=>Q (!c) H1) I h)
def Ij (ta tb:TE):TE:=λσ H Q=>ta σ H λx H1=>∃c,x=.bl c/\if c=true then tb σ H1 Q else Q (.bl false) H1
def Qf (ta tb:TE):TE:=λσ H Q=>ta σ H λx H1=>∃c,x=.bl c/\if c=true then Q (.bl true) H1 else tb σ H1 Q
def Ip (ta:TE):TE:=λσ H Q=>ta σ H λx H1=>∃c,x=.bl c/\Q (.bl (!c)) H1
def KZ {op}{t:TE}(h:PE X a t):PE X (.BoolOp op [a] pos) t:=λpins s σ H Q I hw=>BoolOp_one (h pins s σ H Q I hw)
def KJ (ha:PE X a ta)(hb:PE X (.BoolOp .And (b::rest) pos) tb):PE X (.BoolOp .And (a::b::rest) pos) (Ij ta tb):=by
 intro pins s σ H Q I h
 #BoolOp_and (bH (ha pins s σ H _ I h) λv s1 h9=>?_)
 @⟨x,H1,I1,r1,q1⟩:=h9
 @⟨c,rfl,q1⟩:=q1
 cases r1
 #wpAny_truthy_bool ?_
 cases c with
 | true=>#hb pins s1 σ H1 Q I1 q1
 | false=>#⟨.bl false,H1,I1,rfl,q1⟩
def OZ (ha:PE X a ta)(hb:PE X (.BoolOp .Or (b::rest) pos) tb):PE X (.BoolOp .Or (a::b::rest) pos) (Qf ta tb):=by
 intro pins s σ H Q I h
 #BoolOp_or (bH (ha pins s σ H _ I h) λv s1 h9=>?_)
 @⟨x,H1,I1,r1,q1⟩:=h9
 @⟨c,rfl,q1⟩:=q1
 cases r1
 #wpAny_truthy_bool ?_
 cases c with
 | false=>#hb pins s1 σ H1 Q I1 q1
 | true=>#⟨.bl true,H1,I1,rfl,q1⟩
def KY (ha:PE X a ta):PE X (.UnaryOp .Not a pos) (Ip ta):=by
 intro pins s σ H Q I h
 #UnaryOp_ (bH (ha pins s σ H _ I h) λv s1 h9=>?_)
 @⟨x,H1,I1,r1,q1⟩:=h9
 @⟨c,rfl,q1⟩:=q1
 cases r1
 #not_of (wpAny_truthy_bool ⟨.bl (!c),H1,I1,U,q1⟩)
def XR (t:TT)(ta tb:TE):TE:=λσ H Q=>t σ H λc H1=>if c=true then ta σ H1 Q else tb σ H1 Q
def Be {c:Expr}(hc:PT X c tA)(ha:PE X a ta)(hb:PE X b tb):PE X (.IfExp c a b pos) (XR tA ta tb):=by
 intro pins s σ H Q I h
 #wpAny_IfExp (bH (hc pins s σ H _ I h) λd s1 h9=>?_)
 @⟨H1,I1,q1⟩:=h9
 cases d with
 | true=>#ha pins s1 σ H1 Q I1 q1
 | false=>#hb pins s1 σ H1 Q I1 q1
end
def aB (K:ad2)(H:Hp)(a:J)(xs:O V):Prop:=
 Rd H a (.lst xs) \/
   ∃(o:Obj) (its:Array Value) (n:Nat),K.lookup a=S o/\o.cls=.type "list"/\o.dict=Z/\o.data=.seq its n/\its.size<=sizeLine/\Vals xs its.toList
def dY (K:ad2)(H:Hp)(a:J)(xs:O V):Prop:=
 Rd H a (.tup xs) \/
   ∃(o:Obj) (its:Array Value) (n:Nat),K.lookup a=S o/\o.cls=.type "tuple"/\o.data=.seq its n/\its.size<=sizeLine/\Vals xs its.toList
def RR:Value->Option V
 | .none=>S .bA
 | .bool b=>S (.bl b)
 | .int i _=>S (.int i)
 | .str x _=>S (.str x)
 | .bytes b _=>S (.byt b)
 | .float b _=>S (.flt b)
 | .ref a=>S (.ref a)
 | .type n=>S (.ty n)
 | _=>Z
def RelV.abs {x:V}{u:Value}(r:RelV x u):RR u=S x:=by
 cases x with
 | bA=>cases r;rfl
 | bl _=>cases r;rfl
 | int _=>@⟨t,rfl⟩:=r;rfl
 | str _=>@⟨t,rfl⟩:=r;rfl
 | byt _=>@⟨t,rfl⟩:=r;rfl
 | flt _=>@⟨t,rfl⟩:=r;rfl
 | ref _=>cases r;rfl
 | ty _=>cases r;rfl
def RelV.inj {x y:V}{u:Value}(r:RelV x u)(q:RelV y u):x=y:=aej (r.abs.symm.trans q.abs)
theorem Vals.inj:∀{xs ys:O V} {us:O Value},Vals xs us->Vals ys us->xs=ys
 | _,_,_,.nil,.nil=>rfl
 | _,_,_,.cons r t,.cons r' t'=>by rw[r.inj r',Vals.inj t t']
section
variable{X:Cx}{pins:O (J×Obj)}{σ:St}{H:Hp}{s:Shared}{a:J}{xs ys:O V}
def aB.of {K:ad2}(h:H a=S (.lst xs)):aB K H a xs:=.inl (.inl h)
def dY.of {K:ad2}(h:H a=S (.tup xs)):dY K H a xs:=.inl (.inl h)
def Inv.list (I:Inv X pins σ H s)(h:aB X.K H a xs):∃its:O Value,Vals xs its/\PlainL s.heap a its.toArray/\xs~<=sizeLine:=by
 rcases h with h|⟨o,its,n,hk,hc,hd,hs,hz,r⟩
 . @⟨z,its,n,r,e⟩:=h.ok I.hok
   #⟨its,r,⟨_,n,e,U,U,U⟩,z⟩
 . #⟨its.toList,r,⟨o,n,I.i6 a o hk,hc,hd,by simpa using hs⟩,?_⟩
   !e:=r~
   simp only[af3]at e
   lia
def Inv.tuple (I:Inv X pins σ H s)(h:dY X.K H a xs):∃its:O Value,Vals xs its/\IsTup s.heap a its.toArray/\xs~<=sizeLine:=by
 rcases h with h|⟨o,its,n,hk,hc,hs,hz,r⟩
 . @⟨z,its,r,p⟩:=h.ok I.hok
   #⟨its,r,p,z⟩
 . #⟨its.toList,r,⟨o,I.i6 a o hk,hc,n,by simpa using hs⟩,?_⟩
   !e:=r~
   simp only[af3]at e
   lia
def Inv.fj (I:Inv X pins σ H s)(h:aB X.K H a xs)(h':aB X.K H a ys):xs=ys:=by
 @⟨its,r,⟨o,n,e,_,_,d⟩,_⟩:=I.list h
 @⟨its',r',⟨o',n',e',_,_,d'⟩,_⟩:=I.list h'
 rw[e]at e';cases e'
 rw[d]at d'
 injection d' with d1 _
 !:its=its':=by simpa using congrArg ah5 d1
 subst this
 #r.inj r'
def Inv.yB (I:Inv X pins σ H s)(h:dY X.K H a xs)(h':dY X.K H a ys):xs=ys:=by
 @⟨its,r,⟨o,e,_,n,d⟩,_⟩:=I.tuple h
 @⟨its',r',⟨o',e',_,n',d'⟩,_⟩:=I.tuple h'
 rw[e]at e';cases e'
 rw[d]at d'
 injection d' with d1 _
 !:its=its':=by simpa using congrArg ah5 d1
 subst this
 #r.inj r'
end
abbrev Cx.nK (X:Cx)(E:Value->Shared->Prop):Cx:={X with xe:=E}
abbrev Cx.Er (X:Cx):Cx:=X.nK λ_ _=>False
def Cx.Ok.nK {X:Cx}(ok:X.Ok)(E:Value->Shared->Prop):(X.nK E).Ok:=
 ⟨ok.mod,ok.kind,ok.glob,ok.blt,ok.above,ok.inj,ok.has,ok.cab,ok.hd,ok.frames,ok.stk,ok.exf,ok.bs,ok.bsz,ok.noex,ok.exfs,ok.ig,ok.frf⟩
def Cx.Ok.iG {X:Cx}{E:Value->Shared->Prop}(ok:(X.nK E).Ok):X.Ok:=
 ⟨ok.mod,ok.kind,ok.glob,ok.blt,ok.above,ok.inj,ok.has,ok.cab,ok.hd,ok.frames,ok.stk,ok.exf,ok.bs,ok.bsz,ok.noex,ok.exfs,ok.ig,ok.frf⟩
section
variable{X:Cx}{pins:O (J×Obj)}{σ:St}{H:Hp}{s:Shared}{E:Value->Shared->Prop}
def Inv.nK (I:Inv X pins σ H s)(E:Value->Shared->Prop):Inv (X.nK E) pins σ H s:=⟨I.ok.nK E,I.os,I.bare,I.base,I.loc,I.cell,I.free,I.freeC,I.pin,I.hok,I.len⟩
def Inv.iG (I:Inv (X.nK E) pins σ H s):Inv X pins σ H s:=⟨I.ok.iG,I.os,I.bare,I.base,I.loc,I.cell,I.free,I.freeC,I.pin,I.hok,I.len⟩
theorem SP.iG {D:Ends}{f:Flow}{s':Shared}(h:SP (X.nK E) pins D f s'):SP X pins D f s':=by
 cases f with
 | next=>@⟨σ',H',I,q⟩:=h;#⟨σ',H',I.iG,q⟩
 | brk=>@⟨σ',H',I,q⟩:=h;#⟨σ',H',I.iG,q⟩
 | cont=>@⟨σ',H',I,q⟩:=h;#⟨σ',H',I.iG,q⟩
 | ret u=>@⟨v,σ',H',I,r,q⟩:=h;#⟨v,σ',H',I.iG,r,q⟩
def mV.Er {st:O Stmt}{t:TS}(h:mV X.Er st t):mV X st t:=λpins s σ H D I hw=>
 wpAny_mono (h pins s σ H D (I.nK _) hw) (λy y q=>q.iG) λy y z=>aeS z
end
section
variable{X:Cx}{st:Stmt}{rest:O Stmt}{t u:TS}{e:Expr}{te:TE}{pos:Pos}
def Io:TS:=λD σ H=>D.nx σ H
def ki (t u:TS):TS:=λD σ H=>t {D with nx:=u D} σ H
def FF:mV X [] Io:=λz z σ H z I h=>agU ⟨σ,H,I,h⟩
def Bj (h1:PS X st t)(h2:mV X rest u):mV X (st::rest) (ki t u):=by
 intro pins s σ H D I h
 #wpAny_execs_cons (bH (h1 pins s σ H {D with nx:=u D} I h) λf s1 q=>?_)
 cases f with
 | next=>
   @⟨σ',H',I',q⟩:=q
   #h2 pins s1 σ' H' D I' q
 | ret v=>#q
 | brk=>#q
 | cont=>#q
def FG (h1:PS X st t):mV X [st] t:=by
 intro pins s σ H D I h
 #wpAny_execs_cons (bH (h1 pins s σ H D I h) λf s1 q=>?_)
 cases f with
 | next=>#agU q
 | ret v=>#q
 | brk=>#q
 | cont=>#q
def Inv.quiet {pins:O (J×Obj)}{σ:St}{H:Hp}{s:Shared}(I:Inv X pins σ H s):interactive X.env=false:=by simp[interactive,I.ok.kind]
def Il (te:TE):TS:=λD σ H=>te σ H λz H1=>D.nx σ H1
def FA (he:PE X e te)(hs:afy e Z pos.line X.env=pure false:=by rfl):PS X (.Expr e pos) (Il te):=by
 intro pins s σ H D I h
 #wpAny_Expr_any (bH (he pins s σ H _ I h) λv s1 h9=>?_) I.quiet hs
 @⟨x,H1,I1,r1,q1⟩:=h9
 #⟨σ,H1,I1,q1⟩
def Qg (te:TE):TS:=λD σ H=>te σ H D.rt
def Lf (he:PE X e te):PS X (.Return (S e) pos) (Qg te):=by
 intro pins s σ H D I h
 #wpAny_Return_some (bH (he pins s σ H _ I h) λv s1 h9=>?_)
 @⟨x,H1,I1,r1,q1⟩:=h9
 #⟨x,σ,H1,I1,r1,q1⟩
def Qd (c:TT)(t u:TS):TS:=λD σ H=>c σ H λb H1=>if b=true then t D σ H1 else u D σ H1
def O7 {c:Expr}{a b:O Stmt}{tc:TT}(hc:PT X c tc)(ha:mV X a t)(hb:mV X b u):PS X (.If c a b pos) (Qd tc t u):=by
 intro pins s σ H D I h
 #wpAny_If (bH (hc pins s σ H _ I h) λd s1 h9=>?_)
 @⟨H1,I1,q1⟩:=h9
 cases d with
 | true=>#ha pins s1 σ H1 D I1 q1
 | false=>#hb pins s1 σ H1 D I1 q1
def Cr:TS:=λz z z=>False
def yk {sts:O Stmt}:mV X sts Cr:=λz z z z z z h=>h.elim
end
abbrev TG:=V->St->Hp->(St->Hp->Prop)->Prop
abbrev C0:=O V->St->Hp->(St->Hp->Prop)->Prop
def PG (X:Cx)(target:Expr)(t:TG):Prop:=
 ∀(pins:O (J×Obj)) (s:Shared) (σ:St) (H:Hp) (v:V) (u:Value) (Q:St->Hp->Prop),Inv X pins σ H s->RelV v u->t v σ H Q ->
   wpAny (model X.prog X.w) X.A (assign target X.env u) (λz s'=>∃σ' H',Inv X pins σ' H' s'/\Q σ' H') X.xe s
def MX (X:Cx)(ts:O Expr)(t:C0):Prop:=
 ∀(pins:O (J×Obj)) (s:Shared) (σ:St) (H:Hp) (vs:O V) (us:O Value) (Q:St->Hp->Prop),Inv X pins σ H s->Vals vs us->t vs σ H Q ->
   wpAny (model X.prog X.w) X.A (assignInOrder ((assignEach ts X.env).map (·.2)) us) (λz s'=>∃σ' H',Inv X pins σ' H' s'/\Q σ' H') X.xe s
abbrev IJ:=V->V->V->Hp->(Hp->Prop)->Prop
def MY (X:Cx)(t:IJ):Prop:=
 ∀(pins:O (J×Obj)) (s:Shared) (σ:St) (H:Hp) (o i v:V) (ov iv u:Value) (Q:Hp->Prop),Inv X pins σ H s->RelV o ov->RelV i iv->RelV v u->t o i v H Q ->
   wpAny (model X.prog X.w) X.A (setItem ov iv u) (λz s'=>∃H',Inv X pins σ H' s'/\Q H') X.xe s
section
variable{X:Cx}{pos:Pos}
def dH (i:Nat):TG:=λv σ H Q=>Q (σ.set i (S v)) H
def Fm {i:Nat}{x:Str}(hN:X.N.Nodup)(hi:X.N[i]?=S x)(hx:Loc X.env.scope x)(hf:X.fn x=true\/X.env.scope.names.lookup x=S .local:=by first|show .inl rfl|show .inr rfl|assumption):PG X (.Name x pos) (dH i):=by
 intro pins s σ H v u Q I r h
 #wpAny_assign_Name (eM I hN hi hx r (λs' I'=>⟨_,H,I',h⟩) hf)
def xk:C0:=λvs σ H Q=>vs=[]/\Q σ H
def gZ (t:TG)(u:C0):C0:=λvs σ H Q=>∃v r,vs=v::r/\t v σ H λσ' H'=>u r σ' H' Q
def Fo:MX X [] xk:=by
 intro pins s σ H vs us Q I r h
 @⟨e,h⟩:=h
 subst e
 cases r
 #ahD ⟨σ,H,I,h⟩
def Bg {e:Expr}{es:O Expr}{t:TG}{u:C0}(h1:PG X e t)(h2:MX X es u)
   (hs:(assignEach (e::es) X.env).map (·.2)=assign e X.env::(assignEach es X.env).map (·.2):=by rfl):MX X (e::es) (gZ t u):=by
 intro pins s σ H vs us Q I r h
 @⟨v,vr,e1,h⟩:=h
 subst e1
 cases r with
 | cons r rr=>
   rw[hs]
   #assignInOrder_cons (bH (h1 pins s σ H _ _ _ I r h) λz s1 h9=>?_)
   @⟨σ1,H1,I1,q1⟩:=h9
   #h2 pins s1 σ1 H1 _ _ Q I1 rr q1
def xl (K:ad2)(n:Nat)(t:C0):TG:=λv σ H Q=>∃a xs,v=.ref a/\dY K H a xs/\xs~=n/\t xs σ H Q
def K7 {es:O Expr}{k:Nat}{t:C0}{n:Nat}(hc:X.calm=true)(h:MX X es t)
   (hn:(assignEach es X.env)~=n:=by rfl) (hst:(assignEach es X.env).findIdx? (·.1)=Z:=by rfl):PG X (.Tuple es k pos) (xl X.K n t):=by
 intro pins s σ H v u Q I r hw
 @⟨a,xs,e1,hq,hl,hw⟩:=hw
 subst e1
 cases r
 @⟨its,rv,ht,hz⟩:=I.tuple hq
 #assign_Tuple_tuple (I.ok.hd hc) ht (by simp[hn,← hl,rv~]) hst λh' hx=>?_
 !I1:Inv X pins σ H {s with heap:=h'}:=I.kept (t':=s.toks) λb o e=>hx b o (aeA (aee e)) e
 #h pins _ σ H xs _ Q I1 (by simpa using rv) hw
def Ng (to ti:TE)(t:IJ):TG:=λv σ H Q=>to σ H λo H1=>ti σ H1 λi H2=>t o i v H2 λH3=>Q σ H3
def K6 {o i:Expr}{to ti:TE}{t:IJ}(ho:PE X o to)(hi:PE X i ti)(hs:MY X t)
   (ha:∀v,assign (.Subscript o i pos) X.env v=(do
     let ov←holding [v] (eval o X.env)
     let iv←holding [v,ov] (eval i X.env)
     standAt pos
     holding [v,ov,iv] (setItem ov iv v)
     release [v,ov,iv] []):=by intro _;rfl):PG X (.Subscript o i pos) (Ng to ti t):=by
 intro pins s σ H v u Q I r h
 rw[ha]
 #wpAny_bind (wpAny_holding (bH (ho pins s σ H _ I h) λov s1 h9=>?_))
 @⟨x,H1,I1,r1,q1⟩:=h9
 #wpAny_bind (wpAny_holding (bH (hi pins s1 σ H1 _ I1 q1) λiv s2 h9=>?_))
 @⟨y,H2,I2,r2,q2⟩:=h9
 #wpAny_bind (wpAny_standAt (wpAny_bind (wpAny_holding (bH (hs pins s2 σ H2 x y v ov iv u _ I2 r1 r2 r q2) λz s3 h9=>?_))))
 @⟨H3,I3,q3⟩:=h9
 #wpAny_release ⟨σ,H3,I3,q3⟩
def qf (te:TE)(g:TG):TS:=λD σ H=>te σ H λx H1=>g x σ H1 D.nx
def Lb {tg e:Expr}{te:TE}{g:TG}(he:PE X e te)(hg:PG X tg g)(hs:agd [tg] e pos.line X.env=pure false:=by rfl)(hw:age [tg] e X.env=pure Z:=by rfl)
   (h1:(assignEach [tg] X.env).map (·.2)=[assign tg X.env]:=by rfl):PS X (.Assign [tg] e pos) (qf te g):=by
 intro pins s σ H D I h
 #wpAny_Assign_stores (bH (he pins s σ H _ I h) λv s1 h9=>?_) hs hw
 @⟨x,H1,I1,r1,q1⟩:=h9
 rw[h1]
 #bH (hg pins s1 σ H1 x v _ I1 r1 q1) λz s2 q=>q
def Lg {i:Nat}{x:Str}{e:Expr}{te:TE}{pos':Pos}(hN:X.N.Nodup)(hi:X.N[i]?=S x)(hx:Loc X.env.scope x)(he:PE X e te)(hs:afy e (S (.Name x pos')) pos.line X.env=pure false:=by rfl)(hf:X.fn x=true\/X.env.scope.names.lookup x=S .local:=by first|show .inl rfl|show .inr rfl|assumption) :
   PS X (.Assign [.Name x pos'] e pos) (qf te (dH i)):=by
 intro pins s σ H D I h
 #wpAny_Assign_Name (bH (he pins s σ H _ I h) λv s1 h9=>?_) hs
 @⟨y,H1,I1,r1,q1⟩:=h9
 #eM I1 hN hi hx r1 (λs2 I2=>⟨_,H1,I2,q1⟩) hf
end
structure It where
 go:Nat->Hp->Prop
 yld:Nat->Hp->V->Hp->Prop
 stop:Nat->Hp->Prop
def eV (X:Cx)(pins:O (J×Obj))(H:Hp)(b:J):Prop:=
 H b=Z/\b≠X.env.locals/\b∉X.fs/\(b∈X.ex\/X.s₀.heap.objs.size<=b)/\(∀x c,X.env.cells.lookup x=S c->c≠b)/\∀p∈X.pn++pins,p.1≠b
def Inv.nq {X:Cx}{pins:O (J×Obj)}{σ:St}{H H':Hp}{s:Shared}{b:J}(I:Inv X pins σ H s)(hb:s.heap.objs.size<=b)(hn:H' b=Z):eV X pins H' b:=by
 #⟨hn,agg (aer I.lt hb),I.U5 hb,.inr (aeg I.sz hb),λx c e z=>?_,λp hp z=>?_⟩
 . @⟨v,q⟩:=I.cell x c e
   #aw (aer q.lt (by rw[z];#hb)) (afw _)
 . #aw (aer (aee (I.pin p hp).1) (by rw[z];#hb)) (afw _)
structure Turn (P:Program)(w:World)(K:ad2)(tg:Expr)(J8:It)(fp:O J)(it:J)(tn:Nat->Heap->Prop):Prop where
 mem:it∈fp
 obj:∀i h,tn i h->∀b∈fp,∃o,h.get? b=S o/\∀v,o.data≠.cell v
 keep:∀i h h',tn i h->(∀b∈fp,∀o,h.get? b=S o->h'.get? b=S o)->tn i h'
 item:∀(X:Cx),X.prog=P->X.w=w->X.K=K->X.calm=true->∀(i:Nat) (pins:O (J×Obj)) (s:Shared) (σ:St) (H:Hp) (E:Value->Shared->Prop),Inv X pins σ H s->(∀b∈fp,eV X pins H b)->tn i s.heap->J8.go i H ->
   wpAny (model P w) X.A (pyNext (.ref it)) (λr s1=>∃u,r=S u /\
     wpAny (model P w) X.A (letOwnedTupleGo tg (.ref it) u) (λ_ s2=>∃x H',Inv X pins σ H' s2/\RelV x u/\J8.yld i H x H'/\tn (i+1) s2.heap/\∀b∈fp,H' b=Z) E s1) E s
 done:∀(X:Cx),X.prog=P->X.w=w->X.K=K->X.calm=true->∀(i:Nat) (pins:O (J×Obj)) (s:Shared) (σ:St) (H:Hp) (E:Value->Shared->Prop),Inv X pins σ H s->(∀b∈fp,eV X pins H b)->tn i s.heap->J8.stop i H ->
   wpAny (model P w) X.A (pyNext (.ref it)) (λr s1=>r=Z/\Inv X pins σ H s1) E s
 self:∀(A:Around) (i:Nat) (s:Shared) (Q:Value->Shared->Prop) (E:Value->Shared->Prop),tn i s.heap->Q (.ref it) s->wpAny (model P w) A (pyIter (.ref it)) Q E s
abbrev TI:=St->Hp->(It->Hp->Prop)->Prop
def V2 (X:Cx)(pins:O (J×Obj))(σ:St)(tg:Expr)(R:It->Hp->Prop)(itv:Value)(s2:Shared):Prop:=
 ∃(it:J) (fp:O J) (tn:Nat->Heap->Prop) (J8:It) (H':Hp),itv=.ref it/\Inv X pins σ H' s2/\Turn X.prog X.w X.K tg J8 fp it tn/\tn 0 s2.heap/\(∀b∈fp,eV X pins H' b)/\R J8 H'
def PI (X:Cx)(tg iter:Expr)(wi:TI):Prop:=
 ∀(pins:O (J×Obj)) (s:Shared) (σ:St) (H:Hp) (R:It->Hp->Prop),Inv X pins σ H s->wi σ H R ->
   wpAny (model X.prog X.w) X.A (eval iter X.env) (λv s1=>wpAny (model X.prog X.w) X.A (pyIter v) (V2 X pins σ tg R) X.xe s1) X.xe s
def zH {M8:Model}{A:Around}{E:Value->Shared->Prop}{s:Shared}{tg:Expr}{it:J}{u:Value}{o:Obj}{n:String}{vs:Array Value}{Q:Unit->Shared->Prop}(ho:s.heap.get? it=S o)(hc:o.cls=.type n)(hd:o.data=.fields vs)
   (hn:["enumerate","zip","dict_itemiterator","dict_reverseitemiterator","odict_iterator","itertools.zip_longest","itertools.pairwise"].contains n=false) (hQ:Q () s):wpAny M8 A (letOwnedTupleGo tg (.ref it) u) Q E s:=by
 unfold letOwnedTupleGo
 cases tg<;>first
   | show wpAny_pure hQ
   | (cases u<;>first
       | show wpAny_pure hQ
       | (show wpAny_bind (wpAny_load ho ?_)
          rw[hc,hd]
          change wpAny M8 A (if(["enumerate","zip","dict_itemiterator","dict_reverseitemiterator","odict_iterator","itertools.zip_longest","itertools.pairwise"].contains n&&vs[0]?==S (rawInt _))=true then _ else _) Q E s
          rw[aM (by intro h;rw[hn,afS]at h;cases h)]
          #wpAny_pure hQ))
def L0 (K:ad2)(a:J):It:=
 ⟨λi H=>∃xs x,aB K H a xs/\xs[i]?=S x,λi H x H'=>H'=H/\∀xs,aB K H a xs->xs[i]?=S x,λi H=>∃xs,aB K H a xs/\xs~<=i⟩
def L4 (K:ad2)(a:J):It:=
 ⟨λi H=>∃xs x,dY K H a xs/\xs[i]?=S x,λi H x H'=>H'=H/\∀xs,dY K H a xs->xs[i]?=S x,λi H=>∃xs,dY K H a xs/\xs~<=i⟩
def Gm (lo:Int)(n:Nat):It:=⟨λi z=>i<n,λi H x H'=>H'=H/\x=.int (lo+i),λi z=>n<=i⟩
def yD {P:Program}{w:World}{K:ad2}{tg:Expr}(a it:J):Turn P w K tg (L0 K a) [it] it (λi h=>h.IsListIter it a i) where
 mem:=by simp
 obj:=λi h st b hb=>by
   !e:b=it:=by simpa using hb
   subst e
   @⟨o,e,c,d⟩:=st
   #⟨o,e,λv z=>by rw[d]at z;cases z⟩
 keep:=λi h h' st k=>st.at λo e=>k it (by simp) o e
 item:=by
   intro X hP hw hK hc i pins s σ H E I hf st hg
   subst hP hw hK
   @⟨xs,x,hq,hx⟩:=hg
   @⟨its,rv,p,hz⟩:=I.list hq
   @⟨u,hu,ru⟩:=rv.get hx
   @⟨f0,f1,f2,f3,f4,f5⟩:=hf it (by simp)
   #wpAny_pyNext_list_item st p.isList (x:=u) (by simpa using hu) λh' Dk sb=>?_
   !I1:Inv X pins σ H {s with heap:=h'}:=I.turned (t':=s.toks) (λb o hb e=>(sb.2 b hb).trans e) f0 f1 f3 f4 f5
   @⟨o,e,c,d⟩:=id Dk
   #⟨u,U,zH (s:={s with heap:=h'}) e c d (by left) ⟨x,H,I1,ru,⟨U,λys hy=>by rw[I.fj hy hq];#hx⟩,Dk,λb hb=>(hf b hb).1⟩⟩
 done:=by
   intro X hP hw hK hc i pins s σ H E I hf st hg
   subst hP hw hK
   @⟨xs,hq,hx⟩:=hg
   @⟨its,rv,p,hz⟩:=I.list hq
   @⟨f0,f1,f2,f3,f4,f5⟩:=hf it (by simp)
   !hl:=rv~
   #wpAny_pyNext_list_end (I.ok.hd hc) st p.isList (by simp;lia) λh' eb=>⟨U,I.turned (t':=s.toks) (λb o hb e=>eb b o hb e) f0 f1 f3 f4 f5⟩
 self:=λy y y y y st h=>wpAny_pyIter_listiter st h
def uU {P:Program}{w:World}{K:ad2}{tg:Expr}(a it:J):Turn P w K tg (L4 K a) [it] it (λi h=>h.IsTupleIter it a i) where
 mem:=by simp
 obj:=λi h st b hb=>by
   !e:b=it:=by simpa using hb
   subst e
   @⟨o,e,c,d⟩:=st
   #⟨o,e,λv z=>by rw[d]at z;cases z⟩
 keep:=λi h h' st k=>st.at λo e=>k it (by simp) o e
 item:=by
   intro X hP hw hK hc i pins s σ H E I hf st hg
   subst hP hw hK
   @⟨xs,x,hq,hx⟩:=hg
   @⟨its,rv,p,hz⟩:=I.tuple hq
   @⟨u,hu,ru⟩:=rv.get hx
   @⟨f0,f1,f2,f3,f4,f5⟩:=hf it (by simp)
   #wpAny_pyNext_tuple_item st (show s.heap.IsTuple a its.toArray from p) (x:=u) (by simpa using hu) λh' Dk sb=>?_
   !I1:Inv X pins σ H {s with heap:=h'}:=I.turned (t':=s.toks) (λb o hb e=>(sb.2 b hb).trans e) f0 f1 f3 f4 f5
   @⟨o,e,c,d⟩:=id Dk
   #⟨u,U,zH (s:={s with heap:=h'}) e c d (by left) ⟨x,H,I1,ru,⟨U,λys hy=>by rw[I.yB hy hq];#hx⟩,Dk,λb hb=>(hf b hb).1⟩⟩
 done:=by
   intro X hP hw hK hc i pins s σ H E I hf st hg
   subst hP hw hK
   @⟨xs,hq,hx⟩:=hg
   @⟨its,rv,p,hz⟩:=I.tuple hq
   @⟨f0,f1,f2,f3,f4,f5⟩:=hf it (by simp)
   !hl:=rv~
   #wpAny_pyNext_tuple_end (I.ok.hd hc) st (show s.heap.IsTuple a its.toArray from p) (by simp;lia) λh' eb=>⟨U,I.turned (t':=s.toks) (λb o hb e=>eb b o hb e) f0 f1 f3 f4 f5⟩
 self:=λy y y y y st h=>wpAny_pyIter_tupleiter st h
def uT {P:Program}{w:World}{K:ad2}{tg:Expr}(it:J)(lo:Int)(n:Nat):Turn P w K tg (Gm lo n) [it] it (λi h=>IsRangeIter h it (lo+(i:Nat)*1) ((n:Int)-(i:Nat)) 1) where
 mem:=by simp
 obj:=λi h st b hb=>by
   !e:b=it:=by simpa using hb
   subst e
   #⟨_,st,λv z=>by
     !z':Data.fields _=Data.cell v:=z
     cases z'⟩
 keep:=λi h h' st k=>k it (by simp) _ st
 item:=by
   intro X hP hw hK hc i pins s σ H E I hf st hg
   subst hP hw hK
   @⟨f0,f1,f2,f3,f4,f5⟩:=hf it (by simp)
   !W:=Walks.range (prog:=X.prog) (w:=X.w) (I.ok.hd hc) it lo 1 n
   #W.item i s _ _ hg st λv h' tk hv Dk kk=>?_
   @⟨t,rfl⟩:=hv
   !I1:Inv X pins σ H {s with heap:=h',toks:=tk}:=I.turned (λb o hb e=>kk b o (by simpa using hb) e) f0 f1 f3 f4 f5
   #af U (zH (s:={s with heap:=h',toks:=tk}) (n:="range_iterator") Dk rfl rfl (by left) ⟨.int (lo+i),H,I1,⟨t,?_⟩,⟨U,U⟩,Dk,λb hb=>(hf b hb).1⟩)
   rw[Int.mul_one]
 done:=by
   intro X hP hw hK hc i pins s σ H E I hf st hg
   subst hP hw hK
   @⟨f0,f1,f2,f3,f4,f5⟩:=hf it (by simp)
   #wpAny_pyNext_range_end (I.ok.hd hc) st (by !:n<=i:=hg;lia) λh' eb=>⟨U,I.turned (t':=s.toks) (λb o hb e=>eb b o hb e) f0 f1 f3 f4 f5⟩
 self:=λy y y y y st h=>wpAny_pyIter_rangeiter st h
section
variable{X:Cx}{tg:Expr}
def GR (K:ad2)(tl:TE):TI:=λσ H R=>tl σ H λx H1=>∃a,x=.ref a/\(∃xs,aB K H1 a xs)/\R (L0 K a) H1
def Of (K:ad2)(tl:TE):TI:=λσ H R=>tl σ H λx H1=>∃a,x=.ref a/\(∃xs,dY K H1 a xs)/\R (L4 K a) H1
def Fq {l:Expr}{tl:TE}(hl:PE X l tl):PI X tg l (GR X.K tl):=by
 intro pins s σ H R I h
 #bH (hl pins s σ H _ I h) λv s1 h9=>?_
 @⟨x,H1,I1,r1,q1⟩:=h9
 @⟨a,e,⟨xs,hq⟩,q⟩:=q1
 subst e
 cases r1
 @⟨its,rv,p,hz⟩:=I1.list hq
 #wpAny_pyIter_list p.isList ?_
 #⟨s1.heap.objs.size,[s1.heap.objs.size],_,_,H1,U,I1.kept (t':=s1.toks) λb o e=>ad6 _ e,yD a _,⟨_,aeq _ rfl,U,U⟩,λb hb=>?_,q⟩
 !e:b=s1.heap.objs.size:=by simpa using hb
 subst e
 #I1.nq (ad5 _) (I1.hok.fresh (ad5 _))
def K8 {l:Expr}{tl:TE}(hl:PE X l tl):PI X tg l (Of X.K tl):=by
 intro pins s σ H R I h
 #bH (hl pins s σ H _ I h) λv s1 h9=>?_
 @⟨x,H1,I1,r1,q1⟩:=h9
 @⟨a,e,⟨xs,hq⟩,q⟩:=q1
 subst e
 cases r1
 @⟨its,rv,p,hz⟩:=I1.tuple hq
 #wpAny_pyIter_tuple (show s1.heap.IsTuple a its.toArray from p) ?_
 #⟨s1.heap.objs.size,[s1.heap.objs.size],_,_,H1,U,I1.kept (t':=s1.toks) λb o e=>ad6 _ e,uU a _,⟨_,aeq _ rfl,U,U⟩,λb hb=>?_,q⟩
 !e:b=s1.heap.objs.size:=by simpa using hb
 subst e
 #I1.nq (ad5 _) (I1.hok.fresh (ad5 _))
def rG {pins:O (J×Obj)}{σ:St}{H:Hp}{s:Shared}{R:It->Hp->Prop}{E:Value->Shared->Prop}{lo hi:Int}{t u v:Tok}{tk:Nat}(I:Inv X pins σ H s)(h1 : -(2^62)<=lo)(h2:lo<2^62)(h3 : -(2^62)<=hi)(h4:hi<2^62)
   (q:R (Gm lo (hi-lo).toNat) H):wpAny (model X.prog X.w) X.A (pyIter (.ref s.heap.objs.size)) (V2 X pins σ tg R) E {s with heap:=s.heap.push {cls:=.type "range",data:=.fields #[.int lo t,.int hi u,.int 1 v]},toks:=tk}:=by
 #wpAny_pyIter_range (IsRange.new ..) (small_one h1 h2 h3 h4) ?_
 !I1:Inv X pins σ H {s with heap:=s.heap.push {cls:=.type "range",data:=.fields #[.int lo t,.int hi u,.int 1 v]},toks:=tk}:=I.kept λb o e=>ad6 _ e
 #⟨(s.heap.push {cls:=.type "range",data:=.fields #[.int lo t,.int hi u,.int 1 v]}).objs.size,[(s.heap.push {cls:=.type "range",data:=.fields #[.int lo t,.int hi u,.int 1 v]}).objs.size],_,_,H,rfl,
   I1.kept (t':=tk) λb o e=>ad6 _ e,uT _ lo (hi-lo).toNat,?_,λb hb=>?_,q⟩
 . !e1:lo+((0:Nat):Int)*1=lo:=by simp
   !e2:(((hi-lo).toNat:Nat):Int)-((0:Nat):Int)=af2 lo hi 1:=by rw[rangeSize_one];split<;>lia
   change IsRangeIter _ _ (lo+((0:Nat):Int)*1) ((((hi-lo).toNat:Nat):Int)-((0:Nat):Int)) 1
   rw[e1,e2]
   #aeq _ rfl
 . !e:b=(s.heap.push {cls:=.type "range",data:=.fields #[.int lo t,.int hi u,.int 1 v]}).objs.size:=by simpa using hb
   subst e
   #I1.nq (ad5 _) (I1.hok.fresh (ad5 _))
def Af (ta:TA):TI:=λσ H R=>ta σ H λvs H1=>∃j:Int,vs=[.int j]/\-(2^62)<=j/\j<2^62/\R (Gm 0 j.toNat) H1
def GS (ta:TA):TI:=λσ H R=>ta σ H λvs H1=>∃i j:Int,vs=[.int i,.int j]/\(-(2^62)<=i/\i<2^62/\-(2^62)<=j/\j<2^62)/\R (Gm i (j-i).toNat) H1
def ye {a:Expr}{ta:TA}{p pos:Pos}(hg:Gl X "range")(hm:X.mg "range"=Z)(ha:PA X [a] ta)(hs:starEach [a] X.env=[(false,eval a X.env)]:=by rfl):PI X tg (.Call (.Name "range" p) [a] [] pos) (Af ta):=by
 intro pins s σ H R I h
 #Call_ (eS I hg hm boot_range (aez (bH (ha pos pins s σ H _ I h) λus s1 h9=>?_) hs rfl))
 @⟨vs,H1,I1,r1,q1⟩:=h9
 @⟨j,e,q1,q2,q⟩:=q1
 subst e
 cases r1 with
 | cons r rr=>
   cases rr
   @⟨t,rfl⟩:=r
   #call_range_1 (rG I1 (by lia) (by lia) q1 q2 (by simpa using q))
def yf {a b:Expr}{ta:TA}{p pos:Pos}(hg:Gl X "range")(hm:X.mg "range"=Z)(ha:PA X [a,b] ta)(hs:starEach [a,b] X.env=[(false,eval a X.env),(false,eval b X.env)]:=by rfl)(hs2:starEach [b] X.env=[(false,eval b X.env)]:=by rfl) :
   PI X tg (.Call (.Name "range" p) [a,b] [] pos) (GS ta):=by
 intro pins s σ H R I h
 #Call_ (eS I hg hm boot_range (aez (bH (ha pos pins s σ H _ I h) λus s1 h9=>?_) (by rw[hs,hs2]) (by rw[hs2];rfl)))
 @⟨vs,H1,I1,r1,q1⟩:=h9
 @⟨i,j,e,⟨q1,q2,q3,q4⟩,q⟩:=q1
 subst e
 cases r1 with
 | cons r rr=>
   cases rr with
   | cons r' rr=>
     cases rr
     @⟨t,rfl⟩:=r
     @⟨t',rfl⟩:=r'
     #call_range_2 (rG I1 q1 q2 q3 q4 q)
def Qc (wi:TI)(g:TG)(tb:TS):TS:=λD σ H=>wi σ H λJ8 H1=>∃W:Nat->Nat->St->Hp->Prop,(∃m,W 0 m σ H1)/\∀i m σ H,W i m σ H ->
 (J8.stop i H/\D.nx σ H)\/(J8.go i H/\∃N:St->Hp->Prop,(∀σ' H',N σ' H'->∃m',m'<m/\W (i+1) m' σ' H')/\∀x H',J8.yld i H x H'->g x σ H' λσ2 H2=>tb {D with nx:=N,ct:=N,bk:=D.nx} σ2 H2)
def mB (fp:O J)(h:Heap):O (J×Obj):=fp.filterMap λb=>(h.get? b).map λo=>(b,o)
def gP {fp:O J}{h:Heap}{b:J}{o:Obj}(hb:b∈fp)(e:h.get? b=S o):(b,o)∈mB fp h:=List.mem_filterMap.mpr ⟨b,hb,by rw[e];rfl⟩
def xR {fp:O J}{h:Heap}{p:J×Obj}(hp:p∈mB fp h):p.1∈fp/\h.get? p.1=S p.2:=by
 @⟨b,hb,e⟩:=List.mem_filterMap.mp hp
 cases q:h.get? b with
 | none=>rw[q]at e;cases e
 | some o=>
   rw[q]at e
   !e':(b,o)=p:=aej e
   subst e'
   #⟨hb,q⟩
def Inv.pinned {pins:O (J×Obj)}{σ:St}{H:Hp}{s:Shared}{fp:O J}(I:Inv X pins σ H s)(hf:∀b∈fp,eV X pins H b)(ho:∀b∈fp,∃o,s.heap.get? b=S o/\∀v,o.data≠.cell v):Inv X (pins++mB fp s.heap) σ H s:=
 I.vM λp hp=>(List.mem_append.mp hp).elim (λz=>I.pin p (aeM _ z)) λz=>by
   @⟨hb,e⟩:=xR z
   @⟨f0,f1,f2,_⟩:=hf p.1 hb
   @⟨o,e',d⟩:=ho p.1 hb
   rw[e]at e';cases e'
   #⟨e,f0,f1,f2,d⟩
def Inv.jS {pins pl:O (J×Obj)}{σ:St}{H:Hp}{s:Shared}(I:Inv X (pins++pl) σ H s):Inv X pins σ H s:=I.vM λp hp=>I.pin p (aeM _ (agN _ hp))
def Ld {iter:Expr}{body:O Stmt}{wi:TI}{g:TG}{tb:TS}{pos:Pos}(hp:PassesOwn (model X.prog X.w) X.A X.env X.xe)(hc:X.calm=true)(hi:PI X tg iter wi)(hg:PG X tg g)(hb:mV X body tb)
   (hs:∀x,aeC iter X.env x=pure x:=by intro _;rfl):PS X (.For tg iter body [] pos) (Qc wi g tb):=by
 intro pins s σ H D I h
 #wpAny_For (bH (hi pins s σ H _ I h) λv s1 h1=>bH h1 λitv s2 h2=>?_) hs
 @⟨it,fp,tn,J8,H2,e,I2,T,mY,f2,W,⟨m0,w0⟩,turn⟩:=h2
 subst e
 !stat:∀{H':Hp},(∀b∈fp,H' b=Z)->∀b∈fp,eV X pins H' b:=λhn b hb=>⟨hn b hb,(f2 b hb).2⟩
 #codeAny_forLoop_any (λn s'=>∃i σ' H',Inv X pins σ' H' s'/\tn i s'.heap/\(∀b∈fp,H' b=Z)/\W i n σ' H') ?_ m0 ⟨0,σ,H2,I2,mY,λb hb=>(f2 b hb).1,w0⟩
 rintro n s3 ⟨i,σ3,H3,I3,yv,GA,w3⟩
 rcases turn i n σ3 H3 w3 with⟨stop,qn⟩|⟨go,N,hN,step⟩
 . #agk hp (bH (T.done X rfl rfl rfl hc i pins s3 σ3 H3 X.xe I3 (stat GA) yv stop) λr s4 h9=>?_)
   @⟨hr,I4⟩:=h9
   subst hr
   #agU ⟨σ3,H3,I4,qn⟩
 . #agk hp (bH (T.item X rfl rfl rfl hc i pins s3 σ3 H3 X.xe I3 (stat GA) yv go) λr s4 h9=>?_)
   @⟨u,hr,h4⟩:=h9
   subst hr
   #agk hp (bH h4 λz s5 h9=>?_)
   @⟨x,H5,I5,r5,y5,yT,Sh⟩:=h9
   !RH:=I5.pinned (stat Sh) (T.obj _ _ yT)
   #agk hp (bH (hg _ s5 σ3 H5 x u _ RH r5 (step x H5 y5)) λz s6 h9=>?_)
   @⟨σ6,H6,I6,q6⟩:=h9
   #agk hp (bH (hb _ s6 σ6 H6 _ I6 q6) λf s7 q7=>?_)
   !again:∀{σ7:St} {H7:Hp},Inv X (pins++mB fp s5.heap) σ7 H7 s7->N σ7 H7->∃m,m<n/\∃i σ' H',Inv X pins σ' H' s7/\tn i s7.heap/\(∀b∈fp,H' b=Z)/\W i m σ' H':=λ{σ7 H7} I7 n7=>by
     @⟨m',hm,w7⟩:=hN σ7 H7 n7
     #⟨m',hm,i+1,σ7,H7,I7.jS,T.keep _ _ _ yT λb hb o e=>(I7.pin (b,o) (aeM _ (aeM _ (gP hb e)))).1,λb hb=>?_,w7⟩
     @⟨o,e,d⟩:=T.obj _ _ yT b hb
     #(I7.pin (b,o) (aeM _ (aeM _ (gP hb e)))).2.1
   cases f with
   | next=>@⟨σ7,H7,I7,n7⟩:=q7;#again I7 n7
   | cont=>@⟨σ7,H7,I7,n7⟩:=q7;#again I7 n7
   | brk=>@⟨σ7,H7,I7,q7⟩:=q7;#⟨σ7,H7,I7.jS,q7⟩
   | ret v=>@⟨x7,σ7,H7,I7,r7,q7⟩:=q7;#⟨x7,σ7,H7,I7.jS,r7,q7⟩
end
def dz {K:ad2}{a:J}{xs:O V}{g:TG}{tb:TS}{D:Ends}{σ:St}{H:Hp}(Pv:Nat->St->Hp->Prop)(h0:Pv 0 σ H)(hl:∀i σ H,i<=xs~->Pv i σ H->aB K H a xs)
   (hs:∀i x σ H,xs[i]?=S x->Pv i σ H->g x σ H λσ2 H2=>tb {D with nx:=Pv (i+1),ct:=Pv (i+1),bk:=D.nx} σ2 H2) (hd:∀σ H,Pv xs~ σ H->D.nx σ H) :
   ∃W:Nat->Nat->St->Hp->Prop,(∃m,W 0 m σ H)/\∀i m σ H,W i m σ H ->
     ((L0 K a).stop i H/\D.nx σ H)\/((L0 K a).go i H/\∃N:St->Hp->Prop,(∀σ' H',N σ' H'->∃m',m'<m/\W (i+1) m' σ' H')/\∀x H',(L0 K a).yld i H x H'->g x σ H' λσ2 H2=>tb {D with nx:=N,ct:=N,bk:=D.nx} σ2 H2):=by
 #⟨λi m σ H=>m=xs~-i/\i<=xs~/\Pv i σ H,⟨xs~,by simp,aeG _,h0⟩,?_⟩
 rintro i m σ H ⟨rfl,hi,p⟩
 !q:=hl i σ H hi p
 by_cases fS:i<xs~
 . #.inr ⟨⟨xs,xs[i],q,by simp[fS]⟩,Pv (i+1),λσ' H' p'=>⟨xs~-(i+1),by lia,U,fS,p'⟩,λx H' y=>?_⟩
   @⟨e,y⟩:=y
   subst e
   #hs i x σ _ (y xs q) p
 . !e:i=xs~:=by lia
   subst e
   #.inl ⟨⟨xs,q,ad5 _⟩,hd σ H p⟩
def vw {K:ad2}{a:J}{xs:O V}{g:TG}{tb:TS}{D:Ends}{σ:St}{H:Hp}(Pv:Nat->St->Hp->Prop)(h0:Pv 0 σ H)(hl:∀i σ H,i<=xs~->Pv i σ H->dY K H a xs)
   (hs:∀i x σ H,xs[i]?=S x->Pv i σ H->g x σ H λσ2 H2=>tb {D with nx:=Pv (i+1),ct:=Pv (i+1),bk:=D.nx} σ2 H2) (hd:∀σ H,Pv xs~ σ H->D.nx σ H) :
   ∃W:Nat->Nat->St->Hp->Prop,(∃m,W 0 m σ H)/\∀i m σ H,W i m σ H ->
     ((L4 K a).stop i H/\D.nx σ H)\/((L4 K a).go i H/\∃N:St->Hp->Prop,(∀σ' H',N σ' H'->∃m',m'<m/\W (i+1) m' σ' H')/\∀x H',(L4 K a).yld i H x H'->g x σ H' λσ2 H2=>tb {D with nx:=N,ct:=N,bk:=D.nx} σ2 H2):=by
 #⟨λi m σ H=>m=xs~-i/\i<=xs~/\Pv i σ H,⟨xs~,by simp,aeG _,h0⟩,?_⟩
 rintro i m σ H ⟨rfl,hi,p⟩
 !q:=hl i σ H hi p
 by_cases fS:i<xs~
 . #.inr ⟨⟨xs,xs[i],q,by simp[fS]⟩,Pv (i+1),λσ' H' p'=>⟨xs~-(i+1),by lia,U,fS,p'⟩,λx H' y=>?_⟩
   @⟨e,y⟩:=y
   subst e
   #hs i x σ _ (y xs q) p
 . !e:i=xs~:=by lia
   subst e
   #.inl ⟨⟨xs,q,ad5 _⟩,hd σ H p⟩
def fZ {lo:Int}{n:Nat}{g:TG}{tb:TS}{D:Ends}{σ:St}{H:Hp}(Pv:Nat->St->Hp->Prop)(h0:Pv 0 σ H)
   (hs:∀i σ H,i<n->Pv i σ H->g (.int (lo+i)) σ H λσ2 H2=>tb {D with nx:=Pv (i+1),ct:=Pv (i+1),bk:=D.nx} σ2 H2) (hd:∀σ H,Pv n σ H->D.nx σ H) :
   ∃W:Nat->Nat->St->Hp->Prop,(∃m,W 0 m σ H)/\∀i m σ H,W i m σ H ->
     ((Gm lo n).stop i H/\D.nx σ H)\/((Gm lo n).go i H/\∃N:St->Hp->Prop,(∀σ' H',N σ' H'->∃m',m'<m/\W (i+1) m' σ' H')/\∀x H',(Gm lo n).yld i H x H'->g x σ H' λσ2 H2=>tb {D with nx:=N,ct:=N,bk:=D.nx} σ2 H2):=by
 #⟨λi m σ H=>m=n-i/\i<=n/\Pv i σ H,⟨n,by simp,aeG _,h0⟩,?_⟩
 rintro i m σ H ⟨rfl,hi,p⟩
 by_cases fS:i<n
 . #.inr ⟨fS,Pv (i+1),λσ' H' p'=>⟨n-(i+1),by lia,U,fS,p'⟩,λx H' y=>?_⟩
   @⟨e,y⟩:=y
   subst e y
   #hs i σ _ fS p
 . !e:i=n:=by lia
   subst e
   #.inl ⟨ad5 _,hd σ H p⟩
abbrev R2:=V->V->Hp->VK->Prop
def jb (X:Cx)(f:Value->Value->Sem Value)(r:R2):Prop:=
 ∀(pins:O (J×Obj)) (s:Shared) (σ:St) (H:Hp) (x y:V) (v u:Value) (Q:VK),Inv X pins σ H s->RelV x v->RelV y u->r x y H Q ->
   wpAny (model X.prog X.w) X.A (f v u) (EP X pins σ Q) X.xe s
def RP (X:Cx)(f:Value->Sem Value)(r:V->Hp->VK->Prop):Prop:=
 ∀(pins:O (J×Obj)) (s:Shared) (σ:St) (H:Hp) (x:V) (v:Value) (Q:VK),Inv X pins σ H s->RelV x v->r x H Q ->
   wpAny (model X.prog X.w) X.A (f v) (EP X pins σ Q) X.xe s
def fE (X:Cx)(f:Value)(r:O V->Hp->VK->Prop):Prop:=
 ∀(pins:O (J×Obj)) (s:Shared) (σ:St) (H:Hp) (xs:O V) (us:O Value) (Q:VK),Inv X pins σ H s->Vals xs us->r xs H Q ->
   wpAny (model X.prog X.w) X.A (call f us) (EP X pins σ Q) X.xe s
def Dl (r:R2)(ta tb:TE):TE:=λσ H Q=>ta σ H λx H1=>tb σ H1 λy H2=>r x y H2 Q
def XT (r:V->Hp->VK->Prop)(ta:TE):TE:=λσ H Q=>ta σ H λx H1=>r x H1 Q
def rI (C:Int->Int->Prop)(g:Int->Int->V):R2:=λx y H Q=>∃i j,x=.int i/\y=.int j/\C i j/\Q (g i j) H
def ym (g:Int->Int->V):R2:=λx y H Q=>∃i j,x=.int i/\y=.int j/\Q (g i j) H
def rU (g:Int->V):V->Hp->VK->Prop:=λx H Q=>∃i,x=.int i/\Q (g i) H
section
variable{X:Cx}{a b c:Expr}{ta tb tc:TE}{pos:Pos}
def IV (ha:PE X a ta)(hb:PE X b tb){pins:O (J×Obj)}{s:Shared}{σ:St}{H:Hp}{R:V->V->Hp->Prop}(I:Inv X pins σ H s)
   (h:ta σ H λx H1=>tb σ H1 λy H2=>R x y H2) {Q:Value->Shared->Prop} {f:Value->Value->Sem Value}
   (hf:∀v u s2 x y H2,Inv X pins σ H2 s2->RelV x v->RelV y u->R x y H2->wpAny (model X.prog X.w) X.A (f v u) Q X.xe s2) :
   wpAny (model X.prog X.w) X.A (eval a X.env) (λv s₁=>wpAny (model X.prog X.w) X.A (eval b X.env) (λu s₂=>wpAny (model X.prog X.w) X.A (f v u) Q X.xe s₂) X.xe s₁) X.xe s:=by
 #bH (ha pins s σ H _ I h) λv s1 h9=>?_
 @⟨x,H1,I1,r1,q1⟩:=h9
 #bH (hb pins s1 σ H1 _ I1 q1) λu s2 h9=>?_
 @⟨y,H2,I2,r2,q2⟩:=h9
 #hf v u s2 x y H2 I2 r1 r2 q2
def OY {op:Operator}{r:R2}(ho:jb X (binaryOp op) r)(ha:PE X a ta)(hb:PE X b tb):PE X (.BinOp a op b pos) (Dl r ta tb):=by
 intro pins s σ H Q I h
 #wpAny_BinOp (IV ha hb I h λv u s2 x y H2 I2 rx ry q=>ho pins s2 σ H2 x y v u Q I2 rx ry q)
def O0 {op:UnaryOp}{r:V->Hp->VK->Prop}(ho:RP X (unaryOp op) r)(ha:PE X a ta):PE X (.UnaryOp op a pos) (XT r ta):=by
 intro pins s σ H Q I h
 #UnaryOp_ (bH (ha pins s σ H _ I h) λv s1 h9=>?_)
 @⟨x,H1,I1,r1,q1⟩:=h9
 #ho pins s1 σ H1 x v Q I1 r1 q1
def OG {f:Value->Value->Sem Value}{C:Int->Int->Prop}{g:Int->Int->Int}
   (rule:∀(i j:Int) (t u:Tok) (s:Shared) (Q:Value->Shared->Prop) (E:Value->Shared->Prop),C i j->Q (.int (g i j) s.toks) {s with toks:=s.toks+1}->wpAny (model X.prog X.w) X.A (f (.int i t) (.int j u)) Q E s) :
   jb X f (rI C λi j=>.int (g i j)):=by
 intro pins s σ H x y v u Q I rx ry h
 @⟨i,j,rfl,rfl,hc,q⟩:=h
 @⟨t,rfl⟩:=rx
 @⟨t',rfl⟩:=ry
 #rule i j t t' s _ _ hc ⟨.int (g i j),H,I.tok _,⟨_,U⟩,q⟩
def OH {f:Value->Value->Sem Value}{g:Int->Int->Int}
   (rule:∀(i j:Int) (t u:Tok) (s:Shared) (Q:Value->Shared->Prop) (E:Value->Shared->Prop),Q (.int (g i j) s.toks) {s with toks:=s.toks+1}->wpAny (model X.prog X.w) X.A (f (.int i t) (.int j u)) Q E s) :
   jb X f (ym λi j=>.int (g i j)):=by
 intro pins s σ H x y v u Q I rx ry h
 @⟨i,j,rfl,rfl,q⟩:=h
 @⟨t,rfl⟩:=rx
 @⟨t',rfl⟩:=ry
 #rule i j t t' s _ _ ⟨.int (g i j),H,I.tok _,⟨_,U⟩,q⟩
def Kl {f:Value->Value->Sem Value}{g:Int->Int->Bool}
   (rule:∀(i j:Int) (t u:Tok) (s:Shared) (Q:Value->Shared->Prop) (E:Value->Shared->Prop),Q (.bool (g i j)) s->wpAny (model X.prog X.w) X.A (f (.int i t) (.int j u)) Q E s) :
   jb X f (ym λi j=>.bl (g i j)):=by
 intro pins s σ H x y v u Q I rx ry h
 @⟨i,j,rfl,rfl,q⟩:=h
 @⟨t,rfl⟩:=rx
 @⟨t',rfl⟩:=ry
 #rule i j t t' s _ _ ⟨.bl (g i j),H,I,U,q⟩
def MR (i j:Int):Prop:=0<=j/\j<=1000000/\i.natAbs<2^64
def Dm (i j:Int):Prop:=(-(2^64)<i/\i<2^64)\/(-(2^64)<j/\j<2^64)
def Dm.ok {i j:Int}(h:Dm i j):IntMulOk i j:=by
 rcases h with⟨h1,h2⟩|⟨h1,h2⟩
 . #.of_left (intBits_le_64 h1 h2)
 . #.of_right (intBits_le_64 h1 h2)
def Km:jb X (binaryOp .Add) (ym λi j=>.int (i+j)):=OH λz z z z z z z q=>add_int q
def Kw:jb X (binaryOp .Sub) (ym λi j=>.int (i-j)):=OH λz z z z z z z q=>sub_int q
def Ks:jb X (binaryOp .Mult) (rI Dm λi j=>.int (i*j)):=OG λz z z z z z z hc q=>mul_int q hc.ok
def Kr:jb X (binaryOp .Mod) (rI (λz j=>0<j) λi j=>.int (i%j)):=OG λi j z z z z z hc q=>by
 !h1:(0:Int)<j:=hc
 #mod_int' (by lia) (by rw[Int.fmod_eq_emod_of_nonneg i (by lia)];#q)
def Ku:jb X (binaryOp .Pow) (rI MR λi j=>.int (i^j.toNat)):=OG λz z z z z z z hc q=>pow_int_small hc.1 hc.2.1 hc.2.2 q
def unI {f:Value->Sem Value}{g:Int->Int}
   (rule:∀(i:Int) (t:Tok) (s:Shared) (Q:Value->Shared->Prop) (E:Value->Shared->Prop),Q (.int (g i) s.toks) {s with toks:=s.toks+1}->wpAny (model X.prog X.w) X.A (f (.int i t)) Q E s) :
   RP X f (rU λi=>.int (g i)):=by
 intro pins s σ H x v Q I rx h
 @⟨i,rfl,q⟩:=h
 @⟨t,rfl⟩:=rx
 #rule i t s _ _ ⟨.int (g i),H,I.tok _,⟨_,U⟩,q⟩
def LR:RP X (unaryOp .USub) (rU λi=>.int (-i)):=unI λz z z z z q=>neg_int q
end
def PZ:V->V->Bool
 | .bA,.bA=>true|.bA,.int _=>true|.int _,.bA=>true|.bA,.bl _=>true|.bl _,.bA=>true|.bA,.str _=>true|.str _,.bA=>true
 | .int _,.int _=>true|.bl _,.bl _=>true|.str _,.str _=>true|.byt _,.byt _=>true
 | .int _,.str _=>true|.str _,.int _=>true|.bl _,.str _=>true|.str _,.bl _=>true
 | _,_=>false
def Xo:R2:=λx y H Q=>PZ x y=true/\Q (.bl (decide (x=y))) H
def Xp:R2:=λx y H Q=>PZ x y=true/\Q (.bl (!decide (x=y))) H
def vm {i j:Int}:decide (V.int i=V.int j)=(i==j):=by
 rw[afc]
 simp
def zq {i j:Bool}:decide (V.bl i=V.bl j)=(i==j):=by
 rw[afc]
 simp
def vo {i j:Str}:decide (V.str i=V.str j)=(i==j):=by
 rw[afc]
 simp
def vk {i j:Array UInt8}:decide (V.byt i=V.byt j)=(i.toList==j.toList):=by
 rw[afc]
 cases i
 cases j
 simp
section
variable{X:Cx}{a b c:Expr}{ta tb tc:TE}{pos:Pos}
def bg {pins:O (J×Obj)}{σ:St}{H:Hp}{s:Shared}{Q:VK}{k k':Bool}(I:Inv X pins σ H s)(q:Q (.bl k) H)(e:k=k'):EP X pins σ Q (.bool k') s:=by
 subst e
 #⟨.bl k,H,I,U,q⟩
def OI:jb X (compareOp .Eq) Xo:=by
 intro pins s σ H x y v u Q I rx ry h
 @⟨hs,q⟩:=h
 cases x with
 | bA=>
   cases rx
   cases y with
   | bA=>cases ry;#PySem.EqNone.eq_none_none (bg I q (by simp))
   | bl j=>cases ry;#PySem.EqNone.eq_none_bool (bg I q (by simp))
   | int j=>@⟨t',rfl⟩:=ry;#PySem.EqNone.eq_none_int (bg I q (by simp))
   | str j=>@⟨t',rfl⟩:=ry;#PySem.EqNone.eq_none_str (bg I q (by simp))
   | _=>#aw (show false=true from hs) ael
 | bl i=>
   cases rx
   cases y with
   | bA=>cases ry;#PySem.EqNone.eq_bool_none (bg I q (by simp))
   | bl j=>cases ry;#eq_bool (bg I q zq)
   | str j=>@⟨t',rfl⟩:=ry;#PySem.EqMixed.eq_bool_str (bg I q (by simp))
   | _=>#aw (show false=true from hs) ael
 | int i=>
   @⟨t,rfl⟩:=rx
   cases y with
   | bA=>cases ry;#PySem.EqNone.eq_int_none (bg I q (by simp))
   | int j=>@⟨t',rfl⟩:=ry;#eq_int (bg I q vm)
   | str j=>@⟨t',rfl⟩:=ry;#PySem.EqMixed.eq_int_str (bg I q (by simp))
   | _=>#aw (show false=true from hs) ael
 | str i=>
   @⟨t,rfl⟩:=rx
   cases y with
   | bA=>cases ry;#PySem.EqNone.eq_str_none (bg I q (by simp))
   | bl j=>cases ry;#PySem.EqMixed.eq_str_bool (bg I q (by simp))
   | int j=>@⟨t',rfl⟩:=ry;#PySem.EqMixed.eq_str_int (bg I q (by simp))
   | str j=>@⟨t',rfl⟩:=ry;#eq_str (bg I q vo)
   | _=>#aw (show false=true from hs) ael
 | byt i=>
   @⟨t,rfl⟩:=rx
   cases y with
   | byt j=>@⟨t',rfl⟩:=ry;#PySem.W.eq_bytes (bg I q vk)
   | _=>#aw (show false=true from hs) ael
 | _=>cases y<;>#aw (show false=true from hs) ael
def OM:jb X (compareOp .NotEq) Xp:=by
 intro pins s σ H x y v u Q I rx ry h
 @⟨hs,q⟩:=h
 cases x with
 | bA=>
   cases rx
   cases y with
   | bA=>cases ry;#PySem.EqNone.ne_none_none (bg I q (by simp))
   | bl j=>cases ry;#PySem.EqNone.ne_none_bool (bg I q (by simp))
   | int j=>@⟨t',rfl⟩:=ry;#PySem.EqNone.ne_none_int (bg I q (by simp))
   | str j=>@⟨t',rfl⟩:=ry;#PySem.EqNone.ne_none_str (bg I q (by simp))
   | _=>#aw (show false=true from hs) ael
 | bl i=>
   cases rx
   cases y with
   | bA=>cases ry;#PySem.EqNone.ne_bool_none (bg I q (by simp))
   | bl j=>cases ry;#ne_bool (bg I q (congrArg not zq))
   | str j=>@⟨t',rfl⟩:=ry;#PySem.EqMixed.ne_bool_str (bg I q (by simp))
   | _=>#aw (show false=true from hs) ael
 | int i=>
   @⟨t,rfl⟩:=rx
   cases y with
   | bA=>cases ry;#PySem.EqNone.ne_int_none (bg I q (by simp))
   | int j=>@⟨t',rfl⟩:=ry;#ne_int (bg I q (congrArg not vm))
   | str j=>@⟨t',rfl⟩:=ry;#PySem.EqMixed.ne_int_str (bg I q (by simp))
   | _=>#aw (show false=true from hs) ael
 | str i=>
   @⟨t,rfl⟩:=rx
   cases y with
   | bA=>cases ry;#PySem.EqNone.ne_str_none (bg I q (by simp))
   | bl j=>cases ry;#PySem.EqMixed.ne_str_bool (bg I q (by simp))
   | int j=>@⟨t',rfl⟩:=ry;#PySem.EqMixed.ne_str_int (bg I q (by simp))
   | str j=>@⟨t',rfl⟩:=ry;#ne_str (bg I q (congrArg not vo))
   | _=>#aw (show false=true from hs) ael
 | byt i=>
   @⟨t,rfl⟩:=rx
   cases y with
   | byt j=>@⟨t',rfl⟩:=ry;#PySem.W.ne_bytes (bg I q (congrArg not vk))
   | _=>#aw (show false=true from hs) ael
 | _=>cases y<;>#aw (show false=true from hs) ael
def OL:jb X (compareOp .Lt) (ym λi j=>.bl (decide (i<j))):=Kl λz z z z z z z q=>lt_int q
def OK:jb X (compareOp .Gt) (ym λi j=>.bl (decide (j<i))):=Kl λz z z z z z z q=>gt_int q
def OJ:jb X (compareOp .GtE) (ym λi j=>.bl (decide (j<=i))):=Kl λz z z z z z z q=>ge_int q
def Kq:jb X (compareOp .Is) (λx y H Q=>y=.bA/\Q (.bl (decide (x=.bA))) H):=by
 intro pins s σ H x y v u Q I rx ry h
 @⟨rfl,q⟩:=h
 cases ry
 #is_none_gen (bg I q ?_)
 cases x<;>first
   | (cases rx;rfl)
   | (@⟨t,rfl⟩:=rx;rfl)
def E3:jb X (compareOp .IsNot) (λx y H Q=>y=.bA/\Q (.bl (!decide (x=.bA))) H):=by
 intro pins s σ H x y v u Q I rx ry h
 @⟨rfl,q⟩:=h
 cases ry
 #isnot_none_gen (bg I q ?_)
 cases x<;>first
   | (cases rx;rfl)
   | (@⟨t,rfl⟩:=rx;rfl)
def Av (b:Expr){op:CmpOp}(h:op≠.In:=by left)(h2:op≠.NotIn:=by left):afj op b=false:=by
 !e1:(op==CmpOp.In)=false:=by cases op<;>first|rfl|show aw rfl h
 !e2:(op==CmpOp.NotIn)=false:=by cases op<;>first|rfl|show aw rfl h2
 cases b<;>simp[afj,e1,e2]
def Fd {op:CmpOp}{r:R2}(ho:jb X (compareOp op) r)(ha:PE X a ta)(hb:PE X b tb)(hm:afj op b=false):PE X (.Compare a [op] [b] pos) (Dl r ta tb):=by
 intro pins s σ H Q I h
 #wpAny_Compare1 (IV ha hb I h λv u s2 x y H2 I2 rx ry q=>ho pins s2 σ H2 x y v u Q I2 rx ry q) hm
def Cu (t:TE):TT:=λσ H Q=>t σ H λx H'=>∃k,x=.bl k/\Q k H'
def FH {op:CmpOp}{r:R2}(ho:jb X (compareOp op) r)(ha:PE X a ta)(hb:PE X b tb)(hm:afj op b=false):PT X (.Compare a [op] [b] pos) (Cu (Dl r ta tb)):=by
 intro pins s σ H Q I h
 #wpAny_isTrue_Compare1 (bH (ha pins s σ H _ I h) λv s1 ⟨x,H1,I1,r1,q1⟩=>bH (hb pins s1 σ H1 _ I1 q1) λu s2 ⟨y,H2,I2,r2,q2⟩=>
   bH (ho pins s2 σ H2 x y v u _ I2 r1 r2 q2) λc s3 ⟨z,H3,I3,r3,k,e,q3⟩=>?_) hm
 subst e
 cases r3
 #wpAny_truthy_bool ⟨H3,I3,q3⟩
def Cm (r r':R2)(ta tb tc:TE):TE:=λσ H Q=>ta σ H λx H1=>tb σ H1 λy H2=>r x y H2 λz H3=>∃k,z=.bl k /\
 (if k=true then tc σ H3 λw' H4=>r' y w' H4 Q else Q (.bl false) H3)
def Ba {op Kk:CmpOp}{r r':R2}(ho:jb X (compareOp op) r)(ho':jb X (compareOp Kk) r')(ha:PE X a ta)(hb:PE X b tb)(hc:PE X c tc)
   (hm:lastMarks [op,Kk] [b,c]=false:=by with_unfolding_all rfl):PE X (.Compare a [op,Kk] [b,c] pos) (Cm r r' ta tb tc):=by
 intro pins s σ H Q I h
 #Compare_chain (bH (ha pins s σ H _ I h) λv s1 ⟨x,H1,I1,r1,q1⟩=>chain_link (bH (hb pins s1 σ H1 _ I1 q1) λu s2 ⟨y,H2,I2,r2,q2⟩=>
   bH (ho pins s2 σ H2 x y v u _ I2 r1 r2 q2) λd s3 ⟨z,H3,I3,r3,k,e,q3⟩=>?_)) hm
 subst e
 cases r3
 #wpAny_truthy_bool ?_
 cases k with
 | false=>#ite_ff ⟨.bl false,H3,I3,rfl,q3⟩
 | true=>#ite_tt (chain_last (bH (hc pins s3 σ H3 _ I3 q3) λw' s4 ⟨z',H4,I4,r4,q4⟩=>ho' pins s4 σ H4 y z' u w' Q I4 r2 r4 q4))
def pL:(sizeLine:Nat)<2^63:=by rw[sizeLine_eq];decide
def vals1 {x:V}{us:O Value}(r:Vals [x] us):∃u,us=[u]/\RelV x u:=by
 cases r with
 | cons r1 r2=>cases r2;#⟨_,rfl,r1⟩
def wK:fE X (.type "int") (λxs H Q=>(∃i,xs=[.int i]/\Q (.int i) H)\/∃k,xs=[.bl k]/\Q (.int (if k then 1 else 0)) H):=by
 intro pins s σ H xs us Q I r h
 rcases h with⟨i,rfl,q⟩|⟨k,rfl,q⟩
 . @⟨u,rfl,t,rfl⟩:=vals1 r
   #call_int_int ⟨.int i,H,I,⟨_,U⟩,q⟩
 . @⟨u,rfl,r1⟩:=vals1 r
   cases r1
   #call_int_bool ⟨.int (if k then 1 else 0),H,I.tok _,⟨_,U⟩,q⟩
end
structure sI (h:Heap)(x dx C:J)(mA:Str->Option Value):Prop where
 obj:h.get? x=S (afi C dx)
 ns:h.Ns1 dx mA
 ne:dx≠x
def xJ {h:Heap}{dx:J}{mA:Str->Option Value}(n:h.Ns1 dx mA):∃od,h.get? dx=S od/\∀name,agC name od=S (mA name):=by
 @⟨o,es,ep,ho,hd,hk,_,hm⟩:=n
 #⟨o,ho,λname=>?_⟩
 !e:=hm name
 unfold nsFind findBy at e
 rw[← Array.find?_toList]at e
 unfold agC
 rw[hd]
 dsimp only
 split
 . rename_i y q
   rw[q]at e
   #congrArg S e
 . rename_i q
   rw[q]at e
   !a:es.toList.any (·.refKey)=false:=by
     rw[List.any_eq_false]
     intro y hy
     @⟨z,t,hkey⟩:=hk y (Array.mem_toList_iff.mp hy)
     simp[DictEntry.refKey,hkey]
   !a':¬ es.toList.any (·.refKey)=true:=by rw[a];#ael
   rw[aM a']
   #congrArg S e
def sI.look {h:Heap}{x dx C:J}{mA:Str->Option Value}(I:sI h x dx C mA):∃od,PySem.W.InstAt h x (afi C dx) C (S od)/\∀name,agC name od=S (mA name):=
 let⟨od,ho,hl⟩:=xJ I.ns
 ⟨od,⟨I.obj,rfl,rfl,ho⟩,hl⟩
section
variable{prog:Program}{w:World}{A:Around}{E:Value->Shared->Prop}{s:Shared}{K:ad2}{x dx C f:J}{mA:Str->Option Value}{name:Str}{v:Value}
def get_map {expr:Bool}{Q:Value->Shared->Prop}(X:K.In s.heap)(I:sI s.heap x dx C mA)(hg:agm K C name=true)(hh:agZ K C=true)
   (ha:aeW K (.ref C) name=S Z) (hv:mA name=S v) (hv':PySem.W.handedIn v=true) (h:Q v {s with toks:=s.toks+1}) :
   wpAny (model prog w) A (getAttr (.ref x) name expr) Q E s:=by
 @⟨od,J8,hl⟩:=I.look
 #PySem.W.get_value X J8 (agJ hg).1 (PySem.W.findObj_own hh ha rfl (by rw[hl,hv])) hv' h
def zF {pl:Sem Bool}{Q:Value×O Value->Shared->Prop}(X:K.In s.heap)(I:sI s.heap x dx C mA)(hg:agm K C name=true)
   (hf:aeW K (.ref C) name=S (S (.ref f))) (ht:ahQ K (.ref f)=true) (hv:mA name=Z) (h:Q (.ref f,[.ref x]) s) :
   wpAny (model prog w) A (getMethod (.ref x) name pl) Q E s:=by
 @⟨od,J8,hl⟩:=I.look
 #PySem.W.method_fn X J8 (agJ hg).1 (agJ hg).2 hf (beq_iff_eq.mp ht) (by change(agC name od).map (·.isSome)=S false;rw[hl,hv];rfl) h
def FX {ns:O Str}{Q:Unit->Shared->Prop}(X:K.In s.heap)(I:sI s.heap x dx C mA)
   (hs:aeW K (.ref C) "__setattr__"=S (S (.builtin "object.__setattr__"))) (hp:aio K C=true) (ht:ahk K C name=S Z) (hh:agZ K C=true)
   (hw:ahZ mA ns) (hsz:ns~<=sizeLine)
   (h:∀h',sI h' x dx C (λy=>if y=name then S v else mA y)->ae7 dx s.heap h'->Q () {s with heap:=h',toks:=s.toks+2}) :
   wpAny (model prog w) A (setAttr (.ref x) name v) Q E s:=by
 @⟨od,J8,hl⟩:=I.look
 #PySem.W.set_plain X J8 hs (PySem.W.osa_open (s:={s with toks:=s.toks+1}) (r:=Z) X J8 hp ht λb=>?_)
 @⟨cd,hc,qQ⟩:=PySem.W.any_some hh
 !hx:s.heap.get? x=S ⟨.ref C,S dx,.plain,#[]⟩:=I.obj
 #wpAny_bind (wpAny_pure (wpAny_bind (wpAny_bind (wpAny_loadPart hx (wpAny_bind (PySem.W.Looks.here (s:={s with toks:=s.toks+1}) (PySem.W.looks_clsIn X hc) ?_))))))
 rw[qQ]
 #wpAny_pure (a:=S dx) (wpAny_bind (wpAny_pure (wpAny_bind ?_)))
 #wpAny_nsSet1 (s:={s with toks:=s.toks+1}) I.ns λh' hn2 hs2=>?_
 @⟨oD,esD,epD,hoD,hdD,hcD⟩:=hn2.count (PySem.Within.cons name v hw)
 #wpAny_bind (wpAny_lookBehind hoD (by rw[hdD];#pastItsLine_dict (aeg hcD (by rw[aet];lia))) ?_)
 #wpAny_pure (h _ ⟨(hs2.2 _ (Ne.symm I.ne)).trans I.obj,hn2,I.ne⟩ hs2)
def Aj {R:Result->Shared->Prop}{vs:O Value}{kw:O (Str×Value)}(X:K.In s.heap)(hm:PySem.W.makesIn K C=true)
   (hi:aeW K (.ref C) "__init__"=S (S (.ref f))) (hf:PySem.W.typeIn K (.ref f)=S (.type "function"))
   (h:codeAny (model prog w) (A.under (.builtin "type.__call__" ⟨.ref C::vs,kw⟩)) (.call (.ref f) ⟨.ref (s.heap.objs.size+1)::vs,kw⟩) (PySem.W.InitBack (s.heap.objs.size+1) R)
     {s with heap:=(s.heap.push ae4).push (afi C s.heap.objs.size)}) :
   codeAny (model prog w) A (.call (.ref C) ⟨vs,kw⟩) R s:=by
 @⟨hh,g,d,t,os⟩:=s
 #PySem.W.make_core (PySem.W.makes_of X hm) (PySem.W.looks_findIn X hi) (λself=>PySem.W.bind_fn X self hf) (.inl rfl) h
end
def gC (f:Str)(v:V):O (Str×V)->O (Str×V)
 | []=>[(f,v)]
 | (g,x)::r=>if g=f then(g,v)::r else(g,x)::gC f v r
theorem fK (f g:Str)(v:V):∀fs:O (Str×V),(gC f v fs).lookup g=if g=f then S v else fs.lookup g
 | []=>by
   change afB g [(f,v)]=_
   by_cases h:g=f
   . !hb:(g==f)=true:=beq_iff_eq.mpr h
     simp only[afB,hb,aR h]
   . !hb:(g==f)=false:=beq_eq_false_iff_ne.mpr h
     simp only[afB,hb,aM h]
 | (k,x)::r=>by
   !ih:=fK f g v r
   rw[show gC f v ((k,x)::r)=(if k=f then(k,v)::r else(k,x)::gC f v r)from rfl]
   by_cases hk:k=f
   . rw[aR hk]
     by_cases h:g=k
     . !hb:(g==k)=true:=beq_iff_eq.mpr h
       simp only[afB,hb,aR (h.trans hk)]
     . !hb:(g==k)=false:=beq_eq_false_iff_ne.mpr h
       simp only[afB,hb,aM (λe:g=f=>h (e.trans hk.symm))]
   . rw[aM hk]
     by_cases h:g=k
     . !hb:(g==k)=true:=beq_iff_eq.mpr h
       simp only[afB,hb,aM (λe:g=f=>hk (h.symm.trans e))]
     . !hb:(g==k)=false:=beq_eq_false_iff_ne.mpr h
       simp only[afB,hb]
       #ih
theorem j7 (f:Str)(v:V):∀fs:O (Str×V),f∈(gC f v fs).map (·.1)/\∀g,g∈fs.map (·.1)->g∈(gC f v fs).map (·.1)
 | []=>⟨by simp[gC],λg h=>by simp at h⟩
 | (k,x)::r=>by
   @⟨i1,i2⟩:=j7 f v r
   rw[show gC f v ((k,x)::r)=(if k=f then(k,v)::r else(k,x)::gC f v r)from rfl]
   by_cases hk:k=f
   . rw[aR hk]
     subst hk
     #⟨by simp,λg h=>by simpa using h⟩
   . rw[aM hk]
     #⟨?_,λg h=>?_⟩
     . rw[aeN]
       #aeU _ i1
     . rw[aeN]at h ⊢
       rcases List.mem_cons.mp h with e|e
       . #List.mem_cons.mpr (.inl e)
       . #aeU _ (i2 g e)
theorem iB (f:Str)(v:V):∀fs:O (Str×V),(gC f v fs)~<=fs~+1
 | []=>by simp[gC]
 | (k,x)::r=>by
   !ih:=iB f v r
   rw[show gC f v ((k,x)::r)=(if k=f then(k,v)::r else(k,x)::gC f v r)from rfl]
   by_cases hk:k=f
   . rw[aR hk,aet,aet];lia
   . rw[aM hk,aet,aet];lia
def hV.some_of {v:V}{o:Option Value}(r:hV (S v) o):∃u,o=S u/\RelV v u:=by
 cases o with
 | none=>#(show False from r).elim
 | some u=>#⟨u,rfl,r⟩
def hV.none_of {o:Option Value}(r:hV Z o):o=Z:=by
 cases o with
 | none=>rfl
 | some u=>#(show False from r).elim
def xp {v:V}{u:Value}(r:RelV v u):PySem.W.handedIn u=true:=by
 cases v with
 | bA=>cases(show u=ahe from r);rfl
 | bl b=>cases(show u=afI b from r);rfl
 | int i=>@⟨t,e⟩:=(show ∃t,u=agl i t from r);cases e;rfl
 | str x=>@⟨t,e⟩:=(show ∃t,u=ahs x t from r);cases e;rfl
 | byt b=>@⟨t,e⟩:=(show ∃t,u=Value.bytes b t from r);cases e;rfl
 | flt b=>@⟨t,e⟩:=(show ∃t,u=aim b t from r);cases e;rfl
 | ref a=>cases(show u=aen a from r);rfl
 | ty n=>cases(show u=ahK n from r);rfl
section
variable{P:Program}{w:World}{H H':Hp}{h h':Heap}{a C dx:J}{fs fs':O (Str×V)}
def lA (hok:iU P w H h)(e:H a=S (.ins C dx fs)):∃mA,sI h a dx C mA/\(∀f,hV (fs.lookup f) (mA f))/\ahZ mA (fs.map (·.1))/\fs~<=1000/\H dx=S (.own a):=by
 @⟨d,z,ne,ob,mA,n,r,q⟩:=(show bw P w H h a (.ins C dx fs)from hok a _ e)
 #⟨mA,⟨ob,n,ne⟩,r,q,z,d⟩
end
structure lj (K:ad2)(C:J):Prop where
 pg:agm K C Str.empty=true
 hd:agZ K C=true
 po:aio K C=true
 sa:aeW K (.ref C) "__setattr__"=S (S (.builtin "object.__setattr__"))
def lj.get {K:ad2}{C:J}(c:lj K C)(f:Str):agm K C f=true:=c.pg
def dQ (K:ad2)(C:J)(f:Str):Prop:=aeW K (.ref C) f=S Z
def dQ.Qj {K:ad2}{C:J}{f:Str}(n:dQ K C f):ahk K C f=S Z:=by
 unfold ahk
 rw[show aeW K (.ref C) f=S Z from n]
 rfl
structure Meth (K:ad2)(C:J)(m:Str)(f:J):Prop where
 at_:aeW K (.ref C) m=S (S (.ref f))
 fn:ahQ K (.ref f)=true
 kp:aeV K (.ref f)=true
section
variable{X:Cx}{pins:O (J×Obj)}{σ:St}{H:Hp}{s:Shared}{a C dx:J}{fs:O (Str×V)}{f:Str}{v:V}{A:Around}{E:Value->Shared->Prop}
def tI {b:Bool}{Q:Value->Shared->Prop}(I:Inv X pins σ H s)(e:H a=S (.ins C dx fs))(c:lj X.K C)(n:dQ X.K C f)(l:fs.lookup f=S v)
   (h:∀u s',Inv X pins σ H s'->RelV v u->Q u s'):wpAny (model X.prog X.w) A (getAttr (.ref a) f b) Q E s:=by
 @⟨mA,O8,r,_,_,_⟩:=lA I.hok e
 @⟨u,hu,ru⟩:=hV.some_of (v:=v) (o:=mA f) (by rw[← l];#r f)
 #get_map I.i6 O8 (c.get f) c.hd n hu (xp ru) (h u _ (I.tok _) ru)
def mh {m:Str}{g:J}{pl:Sem Bool}{Q:Value×O Value->Shared->Prop}(I:Inv X pins σ H s)(e:H a=S (.ins C dx fs))(c:lj X.K C)(k:Meth X.K C m g)(l:fs.lookup m=Z)
   (h:Q (.ref g,[.ref a]) s):wpAny (model X.prog X.w) A (getMethod (.ref a) m pl) Q E s:=by
 @⟨mA,O8,r,_,_,_⟩:=lA I.hok e
 !hn:mA m=Z:=hV.none_of (by rw[← l];#r m)
 #zF I.i6 O8 (c.get m) k.at_ k.fn hn h
def uI {y:V}{u:Value}{Q:Unit->Shared->Prop}(I:Inv X pins σ H s)(e:H a=S (.ins C dx fs))(c:lj X.K C)(n:dQ X.K C f)(hl:fs~<1000)(ry:RelV y u)
   (h:∀s',Inv X pins σ (upd H a (.ins C dx (gC f y fs))) s'->Q () s'):wpAny (model X.prog X.w) A (setAttr (.ref a) f u) Q E s:=by
 @⟨mA,O8,r,wi,_,ho⟩:=lA I.hok e
 !hz:(fs.map (·.1))~<=sizeLine:=by rw[ad1,sizeLine_eq];lia
 #FX I.i6 O8 c.sa c.po n.Qj c.hd wi hz λh' O' sb=>h _ ?_
 !hd:∃o,h'.get? dx=S o:=by@⟨o,_,_,e',_⟩:=O'.ns;#⟨o,e'⟩
 #I.write (x:=a) (e:=dx) (by rw[e];#aeh) (.inr ho) (λb q hb z=>(sb.2 b hb).trans z) hd ?_
 #⟨by rw[aj O8.ne];#ho,?_,O8.ne,O'.obj,_,O'.ns,λg=>?_,λg hg=>?_⟩
 . !:=iB f y fs;lia
 . change hV ((gC f y fs).lookup g) (if g=f then S u else mA g)
   rw[fK]
   by_cases q:g=f
   . rw[aR q,aR q];#ry
   . rw[aM q,aM q];#r g
 . by_cases q:g=f
   . rw[q];#(j7 f y fs).1
   . #(j7 f y fs).2 g (wi g λz=>hg ?_)
     change(if g=f then S u else mA g)=Z
     rw[aM q];#z
def Inv.made (I:Inv X pins σ H s):Inv X pins σ (upd (upd H s.heap.objs.size (.own (s.heap.objs.size+1))) (s.heap.objs.size+1) (.ins C s.heap.objs.size []))
   {s with heap:=(s.heap.push ae4).push (afi C s.heap.objs.size)}:=by
 !e1:(s.heap.push ae4).get? s.heap.objs.size=S ae4:=aeq s.heap rfl
 !e2:((s.heap.push ae4).push (afi C s.heap.objs.size)).get? (s.heap.objs.size+1)=S (afi C s.heap.objs.size):=by
   !:=aeq (s.heap.push ae4) (o:=afi C s.heap.objs.size) rfl
   rwa[afo]at this
 !e3:(s.heap.push ae4).Ns s.heap.objs.size (λz=>Z):=⟨ae4,#[],_,e1,rfl,(λe he=>aw he (by simp)),λz=>rfl⟩
 !I1:=I.laid (a:=s.heap.objs.size) (o:=.own (s.heap.objs.size+1)) (h':=s.heap.push ae4) (t':=s.toks) (λb u q=>ad6 _ q) (ad5 _) ⟨_,e1⟩
 #I1.laid (a:=s.heap.objs.size+1) (o:=.ins C s.heap.objs.size []) (t':=s.toks) (λb u q=>ad6 _ q) (Nat.le_of_eq (afo _ _)) ?_
 !ne:s.heap.objs.size≠s.heap.objs.size+1:=aeA (aht _)
 #⟨by rw[aj ne,ae],aeG _,ne,e2,λz=>Z,(Heap.Ns1.of_empty e3).at λo q=>ad6 _ q,λz=>aeh,λy hy=>aw rfl hy⟩
def Dt {prog:Program}{w:World}{env:Env}{e:Expr}{f:Str}{pos:Pos}{s:Shared}{Q:Value->Shared->Prop}(hb:afd e f env (eval e env)=eval e env)
   (h:wpAny (model prog w) A (eval e env) (λo s₁=>wpAny (model prog w) A (getAttr o f true) Q E s₁) E s):wpAny (model prog w) A (eval (.Attribute e f pos) env) Q E s:=
 Attribute_any_ h (by rw[arm_eval_Attribute,hb])
end
def Qb (K:ad2)(ta:TE)(f:Str):TE:=λσ H Q=>ta σ H λx H1=>∃a C dx fs v,x=.ref a/\H1 a=S (.ins C dx fs)/\lj K C/\dQ K C f/\fs.lookup f=S v/\Q v H1
def PF (K:ad2)(ta tv:TE)(f:Str):TS:=λD σ H=>tv σ H λy H1=>ta σ H1 λx H2=>∃a C dx fs,x=.ref a/\H2 a=S (.ins C dx fs)/\lj K C/\dQ K C f/\fs~<1000 /\
 D.nx σ (upd H2 a (.ins C dx (gC f y fs)))
section
variable{X:Cx}{o e value:Expr}{f:Str}{pos pos' VE:Pos}{ta tv:TE}
def KQ (he:PE X e ta)(hb:afd e f X.env (eval e X.env)=eval e X.env):PE X (.Attribute e f pos) (Qb X.K ta f):=by
 intro pins s σ H Q I h
 #Dt hb (bH (he pins s σ H _ I h) λu s1 h9=>?_)
 @⟨x,H1,I1,rx,a,C,dx,fs,v,ex,ea,c,n,l,q⟩:=h9
 subst ex
 obtain rfl:u=aen a:=rx
 #tI I1 ea c n l λu' s2 I2 ru=>⟨v,H1,I2,ru,q⟩
def Lc (ha:PE X o ta)(hv:PE X value tv)(hs:afy value (S (.Attribute o f pos')) pos.line X.env=pure false):PS X (.Assign [.Attribute o f pos'] value pos) (PF X.K ta tv f):=by
 intro pins s σ H D I h
 #plainObj_wpAny_Assign_Attribute (bH (hv pins s σ H _ I h) λu s1 g9=>?_) hs
 @⟨y,H1,I1,ry,q⟩:=g9
 #bH (ha pins s1 σ H1 _ I1 q) λov s2 h9=>?_
 @⟨x,H2,I2,rx,a,C,dx,fs,ex,ea,c,n,l,q2⟩:=h9
 subst ex
 obtain rfl:ov=aen a:=rx
 #uI I2 ea c n l ry λs3 I3=>⟨σ,_,I3,q2⟩
end
section
variable{X:Cx}{pins:O (J×Obj)}{σ:St}{H:Hp}{s:Shared}{A:Around}{E:Value->Shared->Prop}{Q:Value->Shared->Prop}{c:Value}{b:Bool}
inductive jc (K:ad2) (H:Hp):V->Value->Prop where
 | bA:jc K H .bA (.type "NoneType")
 | bl (x:Bool):jc K H (.bl x) (.type "bool")
 | int (i:Int):jc K H (.int i) (.type "int")
 | str (x:Str):jc K H (.str x) (.type "str")
 | flt (x:UInt64):jc K H (.flt x) (.type "float")
 | lst {a:J} {xs:O V} (e:H a=S (.lst xs)):jc K H (.ref a) (.type "list")
 | frz {a:J} {o:Obj} {xs:O V} (e:H a=S (.frz o (.lst xs))):jc K H (.ref a) (.type "list")
 | tup {a:J} {xs:O V} (e:H a=S (.tup xs)):jc K H (.ref a) (.type "tuple")
 | dK {a:J} {kvs:O (Key×V)} (e:H a=S (.dK kvs)):jc K H (.ref a) (.type "dict")
 | dT {a:J} {kvs:O (O Key×V)} (e:H a=S (.dT kvs)):jc K H (.ref a) (.type "dict")
 | ins {a C dx:J} {fs:O (Str×V)} (e:H a=S (.ins C dx fs)) (cl:lj K C) (ha:aeW K (.ref C) "__class__"=S (S (.builtin "object.__class__")))
     (hn:ain K (.builtin "object.__class__") "__get__"=S (S (.builtin "getset_descriptor.__get__"))) (htk:PySem.W.takesIn K (.builtin "object.__class__")=S true)
     (hm:ahF K C (.type "object")=S true):jc K H (.ref a) (.ref C)
def xF {x:V}{u t:Value}(I:Inv X pins σ H s)(rx:RelV x u)(ty:jc X.K H x t)(e:aey X.K t c=S b)(h:∀tk,Q (.bool b) {s with toks:=tk}) :
   wpAny (model X.prog X.w) A (call (.builtin "isinstance") [u,c]) Q E s:=by
 cases ty with
 | bA=>cases(show u=ahe from rx);#aeO PySem.W.kitx_none I.i6 aeh e (λz=>nomatch z) h
 | bl y=>cases(show u=afI y from rx);#aeO PySem.W.kitx_bool I.i6 aeh e (λz=>nomatch z) h
 | int i=>@⟨t,q⟩:=(show ∃t,u=agl i t from rx);cases q;#aeO PySem.W.kitx_int I.i6 aeh e (λz=>nomatch z) h
 | str y=>@⟨t,q⟩:=(show ∃t,u=ahs y t from rx);cases q;#aeO PySem.W.kitx_str I.i6 aeh e (λz=>nomatch z) h
 | flt y=>@⟨t,q⟩:=(show ∃t,u=aim y t from rx);cases q;#aeO PySem.W.kitx_float I.i6 aeh e (λz=>nomatch z) h
 | @lst a xs ea=>
   cases(show u=aen a from rx)
   @⟨_,_,n,_,h1⟩:=(show bw X.prog X.w H s.heap a (.lst xs)from I.hok a _ ea)
   #aeO aip I.i6 ⟨_,h1,U⟩ e (λz=>nomatch z) h
 | @frz a ob xs ea=>
   cases(show u=aen a from rx)
   @⟨_,_,_,n,_,h1⟩:=(show bw X.prog X.w H s.heap a (.frz ob (.lst xs))from I.hok a _ ea)
   #aeO aip I.i6 ⟨_,h1,U⟩ e (λz=>nomatch z) h
 | @tup a xs ea=>
   cases(show u=aen a from rx)
   @⟨_,_,_,p⟩:=(show bw X.prog X.w H s.heap a (.tup xs)from I.hok a _ ea)
   @⟨o,h1,h2,_⟩:=p
   #aeO PySem.W.kitx_tuple I.i6 ⟨o,h1,h2⟩ e (λz=>nomatch z) h
 | @dK a kvs ea=>
   cases(show u=aen a from rx)
   @⟨_,_,vs,_,p⟩:=(show bw X.prog X.w H s.heap a (.dK kvs)from I.hok a _ ea)
   @⟨o,es,ep,h1,h2,_⟩:=p
   #aeO aiq I.i6 ⟨o,h1,h2.1⟩ e (λz=>nomatch z) h
 | @dT a kvs ea=>
   cases(show u=aen a from rx)
   @⟨_,_,xs,_,o,es,ep,h1,h2,_⟩:=(show bw X.prog X.w H s.heap a (.dT kvs)from I.hok a _ ea)
   #aeO aiq I.i6 ⟨o,h1,h2.1⟩ e (λz=>nomatch z) h
 | @ins a C dx fs ea cl ha hn htk hm=>
   cases(show u=aen a from rx)
   @⟨mA,O8,_⟩:=lA I.hok ea
   @⟨od,J8,_⟩:=O8.look
   #aeO (PySem.W.kitx_own (cl.get _) cl.hd ha hn htk hm) I.i6 J8 e (λz=>nomatch z) h
end
structure cG (k:Nat)(A:Around):Prop where
 hd:A.handled=Z
 dp:A.depth+3*k+5<ail
 un:A.units+16*k+200<cLine
def cG.mono {j k:Nat}{A:Around}(r:cG k A)(h:j<=k):cG j A:=⟨r.hd,by !:=r.dp;lia,by !:=r.un;lia⟩
def cG.deeper {k:Nat}{A:Around}(r:cG (k+1) A)(env:Env):cG k (A.deeper env):=
 ⟨r.hd,by !:=r.dp;change A.depth+1+3*k+5<_;lia,by !:=r.un;change A.units+3+16*k+200<_;lia⟩
def tX {A:Around}{C:J}{us:O Value}{kw:O (Str×Value)}:(A.under (.builtin "type.__call__" ⟨.ref C::us,kw⟩)).depth=A.depth+1:=by
 first|rfl|simp[ahW,Code.weight,Code.isCreation,Code.isGuard,Code.isCaller,Code.frames,aij,guardIds]
def tY {A:Around}{C:J}{us:O Value}{kw:O (Str×Value)}:(A.under (.builtin "type.__call__" ⟨.ref C::us,kw⟩)).units=A.units+1:=by
 first|rfl|simp[ahW,Code.cUnits,Code.frames,aij]
def cG.make {k:Nat}{A:Around}(r:cG (k+1) A)(C:J)(us:O Value)(kw:O (Str×Value)):cG k (A.under (.builtin "type.__call__" ⟨.ref C::us,kw⟩)):=
 ⟨r.hd,by !:=r.dp;rw[tX];lia,by !:=r.un;rw[tY];lia⟩
def cG.depth {k:Nat}{A:Around}(r:cG k A):A.depth<ail:=by !:=r.dp;lia
def cG.units {k:Nat}{A:Around}(r:cG k A):A.units+64<cLine:=by !:=r.un;lia
def Cs:TA:=λz H Q=>Q [] H
def Cn (ta:TE)(tr:TA):TA:=λσ H Q=>ta σ H λx H1=>tr σ H1 λxs H2=>Q (x::xs) H2
section
variable{X:Cx}{e:Expr}{es:O Expr}{te:TE}{t:TA}{pos:Pos}
def Kz:PA X [] Cs:=λz z z z H Q I h=>afJ ⟨[],H,I,.nil,h⟩
def E8 (ha:PE X e te)(hr:PA X es t)(hs:starEach (e::es) X.env=(false,eval e X.env)::starEach es X.env:=by rfl):PA X (e::es) (Cn te t):=by
 intro pos pins s σ H Q I h
 rw[hs]
 change wpAny _ _ (spliced ((false,eval e X.env)::backTo pos (starEach es X.env))) _ _ s
 #afe (bH (ha pins s σ H _ I h) λu s1 h9=>?_)
 @⟨x,H1,I1,r1,q1⟩:=h9
 #bH (hr pos pins s1 σ H1 _ I1 q1) λus s2 h9=>?_
 @⟨xs,H2,I2,r2,q2⟩:=h9
 #⟨x::xs,H2,I2,.cons r1 r2,q2⟩
def LN (t:TA):TE:=λσ H Q=>t σ H λxs H1=>xs~<=sizeLine/\∀p,H1 p=Z->Q (.ref p) (upd H1 p (.tup xs))
def LM (t:TA):TE:=λσ H Q=>t σ H λxs H1=>xs~<=sizeLine/\∀p,H1 p=Z->Q (.ref p) (upd H1 p (.lst xs))
def K4 {x1}(h:PA X es t):PE X (.Tuple es x1 pos) (LN t):=by
 intro pins s σ H Q I hq
 #wpAny_Tuple_spliced (bH (h pos pins s σ H _ I hq) λus s1 g9=>?_)
 @⟨xs,H1,I1,r,z,q⟩:=g9
 #⟨by rw[← r~];#z,?_⟩
 !hf:H1 s1.heap.objs.size=Z:=I1.hok.fresh (ad5 _)
 #⟨.ref s1.heap.objs.size,upd H1 s1.heap.objs.size (.tup xs),I1.laid (t':=s1.toks) (λb u e=>ad6 _ e) (ad5 _) ?_,U,q _ hf⟩
 #⟨z,us,r,⟨_,aeq _ rfl,U,_,U⟩⟩
def KS (h:PA X es t):PE X (.List es pos) (LM t):=by
 intro pins s σ H Q I hq
 #wpAny_List_spliced (bH (h pos pins s σ H _ I hq) λus s1 g9=>?_)
 @⟨xs,H1,I1,r,z,q⟩:=g9
 #⟨by rw[← r~];#z,?_⟩
 !hf:H1 s1.heap.objs.size=Z:=I1.hok.fresh (ad5 _)
 #⟨.ref s1.heap.objs.size,upd H1 s1.heap.objs.size (.lst xs),I1.laid (t':=s1.toks) (λb u e=>ad6 _ e) (ad5 _) ?_,U,q _ hf⟩
 #⟨z,us,0,r,aeq _ rfl⟩
end
abbrev Sp:=O V->Hp->VK->XK->Prop
abbrev sr:=O Env->Hp->Shared->XK->Value->Shared->Prop
structure oN (P:Program)(w:World)(K:ad2)(mg:Str->Option Value)(base:Heap)(A:Around)(outer:O Env)(s:Shared)(H:Hp):Prop where
 frames:A.frames=S outer
 mod:Mod K mg base
 bs:∀b o,base.get? b=S o->s.heap.get? b=S o/\H b=Z
 bsz:base.objs.size<=s.heap.objs.size
 ig:s.heap.FunFrames base outer
 frf:∀b∈jz outer,H b=Z
 hok:iU P w H s.heap
 bare:AllBare s.gens
def CE (outer:O Env)(P:Program)(w:World)(H:Hp)(s:Shared)(Q:VK)(u:Value)(s':Shared):Prop:=
 ∃v H',s'.os=s.os/\AllBare s'.gens/\Un (jz outer) [] H H' s.heap s'.heap/\iU P w H' s'.heap/\RelV v u/\Q v H'
def CR (CX:sr)(outer:O Env)(P:Program)(w:World)(H:Hp)(s:Shared)(Q:VK)(E:XK)(r:Result)(s':Shared):Prop:=
 match r with
 | .ok (.ret u)=>CE outer P w H s Q u s'
 | .ok _=>False
 | .error e=>CX outer H s E e s'
structure aL (P:Program)(w:World)(K:ad2)(mg:Str->Option Value)(base:Heap)(CX:sr)(k:Nat)(f:J)(fd:aef)(ps:O Str)(sp:Sp):Prop where
 len:∀vs H Q E,sp vs H Q E->vs~=ps~
 run:∀(A:Around) (outer:O Env) (s:Shared) (H:Hp) (args:Args) (us:O Value) (vs:O V) (Q:VK) (E:XK),cG k A->oN P w K mg base A outer s H->BindsTo s fd args (ps.zip us)->Vals vs us->sp vs H Q E ->
   codeAny (model P w) A (.call (.ref f) args) (CR CX outer P w H s Q E) s
def aL.mono {P:Program}{w:World}{K:ad2}{mg:Str->Option Value}{base:Heap}{CX:sr}{j k:Nat}{f:J}{fd:aef}{ps:O Str}{sp:Sp}(F:aL P w K mg base CX j f fd ps sp)(h:j<=k) :
   aL P w K mg base CX k f fd ps sp:=⟨F.len,λA outer s H args us vs Q E hr=>F.run A outer s H args us vs Q E (hr.mono h)⟩
def aL.imp {P:Program}{w:World}{K:ad2}{mg:Str->Option Value}{base:Heap}{CX:sr}{k:Nat}{f:J}{fd:aef}{ps:O Str}{sp sp':Sp}(F:aL P w K mg base CX k f fd ps sp)
   (h:∀vs H Q E,sp' vs H Q E->sp vs H Q E):aL P w K mg base CX k f fd ps sp':=
 ⟨λvs H Q E q=>F.len vs H Q E (h _ _ _ _ q),λA outer s H args us vs Q E hr he hb hv hs=>F.run A outer s H args us vs Q E hr he hb hv (h _ _ _ _ hs)⟩
def oN.make {P:Program}{w:World}{K:ad2}{mg:Str->Option Value}{base:Heap}{A:Around}{outer:O Env}{s:Shared}{H:Hp}(e:oN P w K mg base A outer s H)(C:J)(us:O Value)(kw:O (Str×Value)) :
   oN P w K mg base (A.under (.builtin "type.__call__" ⟨.ref C::us,kw⟩)) outer s H:=⟨by first|show e.frames|(simpa[ahW,Code.envs,aij,pushEnvs]using e.frames),e.mod,e.bs,e.bsz,e.ig,e.frf,e.hok,e.bare⟩
section
variable{X:Cx}{pins:O (J×Obj)}{σ:St}{H:Hp}{s s':Shared}
def Inv.Jb (I:Inv X pins σ H s):oN X.prog X.w X.K X.mg X.base X.A X.stack s H:=
 ⟨I.ok.frames,I.ok.mod,I.bs,aeg I.ok.bsz I.sz,I.stack,I.qd,I.hok,I.bare⟩
def Inv.after {Q:VK}{u:Value}(I:Inv X pins σ H s)(h:CE X.stack X.prog X.w H s Q u s'):EP X pins σ Q u s':=by
 @⟨v,H',os,bare,un,hok,r,q⟩:=h
 @⟨hh,g,d,t,os'⟩:=s'
 obtain rfl:os'=s.os:=os
 #⟨v,H',I.call (h':=hh) (g':=g) (d':=d) (t':=t) (ch:=[]) un hok bare (λb z=>aw z (by simp)),r,q⟩
end
def mS (sp:Sp)(dvs:O V)(E:XK)(t:TA):TE:=λσ H Q=>t σ H λvs H1=>sp (vs++dvs) H1 Q E
def wu (C:J)(m:Str)(sp:Sp)(dvs:O V)(E:XK)(ta:TE)(t:TA):TE:=λσ H Q=>ta σ H λx H1=>∃a dx fs,x=.ref a/\H1 a=S (.ins C dx fs)/\fs.lookup m=Z /\
 t σ H1 λvs H2=>sp (x::(vs++dvs)) H2 Q E
def Im (C:J)(sp:Sp)(dvs:O V)(E:XK)(t:TA):TE:=λσ H Q=>t σ H λvs H1=>∀x dx,H1 x=Z->H1 dx=Z->dx≠x ->
 sp (.ref x::(vs++dvs)) (upd (upd H1 dx (.own x)) x (.ins C dx [])) (λv H2=>v=.bA/\Q (.ref x) H2) E
def Binds (K:ad2)(fd:aef)(ps:O Str)(ds:O Value):Prop:=
 ∀(s:Shared) (us:O Value),K.In s.heap->(us++ds)~=ps~->BindsTo s fd ⟨us,[]⟩ (ps.zip (us++ds))
def Binds.all {K:ad2}{fd:aef}{ps:O Str}(h:∀us:O Value,us~=ps~->ahS fd ⟨us,[]⟩=pure (ps.zip us)):Binds K fd ps []:=λs us z hl=>by
 rw[aeK]at hl ⊢
 #.of_eq (h us hl)
def Passes (CX:sr)(X:Cx)(E:XK):Prop:=∀(pins:O (J×Obj)) (σ:St) (H:Hp) (s:Shared) (e:Value) (s':Shared),Inv X pins σ H s->CX X.stack H s E e s'->X.xe e s'
section
variable{X:Cx}{CX:sr}{k:Nat}{f C:J}{fd:aef}{ps:O Str}{sp:Sp}{dvs:O V}{ds:O Value}{E:XK}{x m:Str}{p pos apos:Pos}{e o:Expr}{es:O Expr}{ta:TE}{t:TA}
def uz {pins:O (J×Obj)}{σ:St}{H:Hp}{s:Shared}{Q:VK}{us:O Value}{vs:O V}(F:aL X.prog X.w X.K X.mg X.base CX k f fd ps sp)(hr:cG k X.A)(hb:Binds X.K fd ps ds)(hd:Vals dvs ds)(hx:Passes CX X E)
   (I:Inv X pins σ H s) (r:Vals vs us) (h:sp (vs++dvs) H Q E):wpAny (model X.prog X.w) X.A (call (.ref f) us) (EP X pins σ Q) X.xe s:=by
 !r2:Vals (vs++dvs) (us++ds):=r.append hd
 !hl:(us++ds)~=ps~:=by rw[← r2~];#F.len _ _ _ _ h
 #wpAny_call (codeAny_mono (F.run X.A X.stack s H ⟨us,[]⟩ (us++ds) (vs++dvs) Q E hr I.Jb (hb s us I.i6 hl) r2 h) λr s' hq=>?_)
 cases r with
 | error e=>#hx pins σ H s e s' I hq
 | ok fl=>
   cases fl with
   | ret u=>#I.after hq
   | next=>#aeS hq
   | brk=>#aeS hq
   | cont=>#aeS hq
def pR (F:aL X.prog X.w X.K X.mg X.base CX k f fd ps sp)(hr:cG k X.A)(hg:Gl X x)(hm:X.mg x=S (.ref f))(hk:aeV X.K (.ref f)=true)(hb:Binds X.K fd ps ds)(hd:Vals dvs ds)(hx:Passes CX X E)
   (ha:PA X (e::es) t) (hdb:(x==("__debug__":Str))=false:=by left) (he:starEach (e::es) X.env=(false,eval e X.env)::starEach es X.env:=by rfl) (hpl:(backTo pos (starEach es X.env)).any (·.1)=false:=by rfl) :
   PE X (.Call (.Name x p) (e::es) [] pos) (mS sp dvs E t):=by
 intro pins s σ H Q I h
 #wpAny_Call_Name_kw (iN I hg hm ?_ hdb)
 #af4 (h₀:=X.base) I.ok.mod.kin hk (bH (ha pos pins s σ H _ I h) λus s1 g9=>?_) he hpl
 @⟨vs,H1,I1,r,q⟩:=g9
 #⟨I1.i6,?_⟩
 #uz F hr hb hd hx I1 r q
def Fi {pl:Sem Bool}(he:PE X o ta)(c:lj X.K C)(hm:Meth X.K C m f)(F:aL X.prog X.w X.K X.mg X.base CX k f fd ps sp)(hr:cG k X.A)(hb:Binds X.K fd ps ds)(hd:Vals dvs ds)(hx:Passes CX X E)(ha:PA X (e::es) t)
   (hst:starEach (e::es) X.env=(false,eval e X.env)::starEach es X.env:=by rfl) (hpl:(backTo pos (starEach es X.env)).any (·.1)=false:=by rfl)
   (ht:eval (.Call (.Attribute o m apos) (e::es) [] pos) X.env=(do
     let ov←eval o X.env
     standAt apos.atName
     let(f,first)←holding [ov] (getMethod ov m pl)
     callWith pos f first (backTo pos (starEach (e::es) X.env)) (backToKw pos (keywordEach [] X.env))):=by rfl) :
   PE X (.Call (.Attribute o m apos) (e::es) [] pos) (wu C m sp dvs E ta t):=by
 intro pins s σ H Q I h
 #ahP (pl:=pl) (bH (he pins s σ H _ I h) λu s1 h9=>?_) ht
 @⟨x,H1,I1,rx,a,dx,fs,ex,ea,l,q⟩:=h9
 subst ex
 obtain rfl:u=aen a:=rx
 #mh I1 ea c hm l ?_
 #af4 (first:=[.ref a]) (h₀:=X.base) I.ok.mod.kin hm.kp (bH (ha pos pins s1 σ H1 _ I1 q) λus s2 g9=>?_) hst hpl
 @⟨vs,H2,I2,r,q2⟩:=g9
 #⟨I2.i6,?_⟩
 #uz (us:=.ref a::us) (vs:=.ref a::vs) F hr hb hd hx I2 (.cons rfl r) q2
def Bf {pl:Sem Bool}(he:PE X o ta)(c:lj X.K C)(hm:Meth X.K C m f)(F:aL X.prog X.w X.K X.mg X.base CX k f fd ps sp)(hr:cG k X.A)(hb:Binds X.K fd ps ds)(hd:Vals dvs ds)(hx:Passes CX X E)
   (ht:eval (.Call (.Attribute o m apos) [] [] pos) X.env=(do
     let ov←eval o X.env
     standAt apos.atName
     let(f,first)←holding [ov] (getMethod ov m pl)
     callWith pos f first (backTo pos (starEach [] X.env)) (backToKw pos (keywordEach [] X.env))):=by rfl) :
   PE X (.Call (.Attribute o m apos) [] [] pos) (wu C m sp dvs E ta Cs):=by
 intro pins s σ H Q I h
 #ahP (pl:=pl) (bH (he pins s σ H _ I h) λu s1 h9=>?_) ht
 @⟨x,H1,I1,rx,a,dx,fs,ex,ea,l,q⟩:=h9
 subst ex
 obtain rfl:u=aen a:=rx
 #mh I1 ea c hm l ?_
 #PySem.W.callWith_K0 (first:=[.ref a]) I1.i6 hm.kp (uz (us:=[.ref a]) (vs:=[.ref a]) F hr hb hd hx I1 (.cons rfl .nil) q)
structure Mk (K:ad2)(C f:J):Prop where
 makes:PySem.W.makesIn K C=true
 init:aeW K (.ref C) "__init__"=S (S (.ref f))
 fn:ahQ K (.ref f)=true
 kp:aeV K (.ref C)=true
def Bp {pins:O (J×Obj)}{σ:St}{H:Hp}{s:Shared}{Q:VK}{us:O Value}{vs:O V}(M8:Mk X.K C f)(F:aL X.prog X.w X.K X.mg X.base CX k f fd ps sp)(hr:cG (k+1) X.A)(hb:Binds X.K fd ps ds)(hd:Vals dvs ds)
   (hx:Passes CX X E) (I:Inv X pins σ H s) (r:Vals vs us)
   (h:∀x dx,H x=Z->H dx=Z->dx≠x->sp (.ref x::(vs++dvs)) (upd (upd H dx (.own x)) x (.ins C dx [])) (λv H2=>v=.bA/\Q (.ref x) H2) E) :
   wpAny (model X.prog X.w) X.A (call (.ref C) us) (EP X pins σ Q) X.xe s:=by
 !hq:=h (s.heap.objs.size+1) s.heap.objs.size (I.hok.fresh (Nat.le_succ _)) (I.hok.fresh (ad5 _)) (aeA (aht _))
 !I2:=Inv.made (C:=C) I
 !r2:Vals (V.ref (s.heap.objs.size+1)::(vs++dvs)) (aen (s.heap.objs.size+1)::(us++ds)):=.cons rfl (r.append hd)
 !hl:(aen (s.heap.objs.size+1)::us++ds)~=ps~:=by
   !e:=r2~
   rw[F.len _ _ _ _ hq]at e
   #e.symm
 #wpAny_call (Aj (f:=f) I.i6 M8.makes M8.init (beq_iff_eq.mp M8.fn) (codeAny_mono (F.run _ X.stack _ _ ⟨aen (s.heap.objs.size+1)::us,[]⟩ (aen (s.heap.objs.size+1)::(us++ds)) _ _ E (hr.make C us [])
   (I2.Jb.make C us []) (hb _ (aen (s.heap.objs.size+1)::us) I2.i6 hl) r2 hq) λr s' N8=>?_))
 cases r with
 | error e=>#hx pins σ _ _ e s' I2 N8
 | ok fl=>
   cases fl with
   | ret u=>
     @⟨v,H',I3,rv,ev,q3⟩:=I2.after N8
     subst ev
     #⟨rv,⟨V.ref (s.heap.objs.size+1),H',I3,U,q3⟩⟩
   | next=>#aeS N8
   | brk=>#aeS N8
   | cont=>#aeS N8
def Fg (M8:Mk X.K C f)(F:aL X.prog X.w X.K X.mg X.base CX k f fd ps sp)(hr:cG (k+1) X.A)(hg:Gl X x)(hm:X.mg x=S (.ref C))(hb:Binds X.K fd ps ds)(hd:Vals dvs ds)(hx:Passes CX X E)
   (ha:PA X (e::es) t) (hdb:(x==("__debug__":Str))=false:=by left) (he:starEach (e::es) X.env=(false,eval e X.env)::starEach es X.env:=by rfl) (hpl:(backTo pos (starEach es X.env)).any (·.1)=false:=by rfl) :
   PE X (.Call (.Name x p) (e::es) [] pos) (Im C sp dvs E t):=by
 intro pins s σ H Q I h
 #wpAny_Call_Name_kw (iN I hg hm ?_ hdb)
 #af4 (h₀:=X.base) I.ok.mod.kin M8.kp (bH (ha pos pins s σ H _ I h) λus s1 g9=>?_) he hpl
 @⟨vs,H1,I1,r,q⟩:=g9
 #⟨I1.i6,?_⟩
 #Bp M8 F hr hb hd hx I1 r q
end
structure aA (N P:O Str)(sc:Scope):Prop where
 kind:sc.kind=.function
 co:sc.isCoroutine=false
 gen:sc.isGenerator=false
 nd:N.Nodup
 pre:N.take P.length=P
 par:∀x∈P,sc.names.lookup x=S .local\/sc.names.lookup x=S .cell
 nofree:∀y∈sc.names,y.2≠.free
def dX {N P:O Str}{sc:Scope}(a:sc.kind=.function:=by rfl)(b:sc.isCoroutine=false:=by rfl)(c:sc.isGenerator=false:=by rfl)(d:N.Nodup:=by right)(e:N.take P.length=P:=by rfl)(f:∀x∈P,sc.names.lookup x=S .local\/sc.names.lookup x=S .cell:=by right)(g:∀y∈sc.names,y.2≠.free:=by right):aA N P sc:=⟨a,b,c,d,e,f,g⟩
theorem nP {kindOf:Str->Option afP}{x:Str}:∀{binds:O (Str×Value)} {m:Str->Option Value},(∀v,(x,v)∉binds)->bindL kindOf binds m x=m x
 | [],_,_=>rfl
 | (n,v)::r,m,h=>by
   unfold bindL
   rw[nP λw hw=>h w (aeU _ hw)]
   split
   . !:x≠n:=by rintro rfl;#h v aeX
     simp[this]
   . rfl
theorem nM {kindOf:Str->Option afP}{x:Str}:∀{binds:O (Str×Value)} {m:Str->Option Value},(∀v,(x,v)∉binds)->bindC kindOf binds m x=m x
 | [],_,_=>rfl
 | (n,v)::r,m,h=>by
   unfold bindC
   rw[nM λw hw=>h w (aeU _ hw)]
   split
   . rfl
   . !:x≠n:=by rintro rfl;#h v aeX
     simp[this]
theorem nO {kindOf:Str->Option afP}{x:Str}{v:Value}:∀{P:O Str} {vs:O Value} {i:Nat} {m:Str->Option Value},P.Nodup->P[i]?=S x->vs[i]?=S v->kindOf x=S .local ->
   bindL kindOf (P.zip vs) m x=S v
 | [],_,_,_,_,h,_,_=>by simp at h
 | _::_,[],_,_,_,_,h,_=>by simp at h
 | p::P,w::vs,0,m,nd,h1,h2,hk=>by
   simp at h1 h2;subst h1;subst h2
   change bindL kindOf ((p,w)::P.zip vs) m p=_
   unfold bindL
   rw[nP λv hv=>(List.nodup_cons.mp nd).1 (afl hv).1,aR hk]
   simp
 | p::P,w::vs,i+1,m,nd,h1,h2,hk=>by
   change bindL kindOf ((p,w)::P.zip vs) m x=_
   unfold bindL
   #nO (i:=i) (List.nodup_cons.mp nd).2 (by simpa using h1) (by simpa using h2) hk
theorem nL {kindOf:Str->Option afP}{x:Str}{v:Value}:∀{P:O Str} {vs:O Value} {i:Nat} {m:Str->Option Value},P.Nodup->P[i]?=S x->vs[i]?=S v->kindOf x≠S .local ->
   bindC kindOf (P.zip vs) m x=S v
 | [],_,_,_,_,h,_,_=>by simp at h
 | _::_,[],_,_,_,_,h,_=>by simp at h
 | p::P,w::vs,0,m,nd,h1,h2,hk=>by
   simp at h1 h2;subst h1;subst h2
   change bindC kindOf ((p,w)::P.zip vs) m p=_
   unfold bindC
   rw[nM λv hv=>(List.nodup_cons.mp nd).1 (afl hv).1,aM hk]
   simp
 | p::P,w::vs,i+1,m,nd,h1,h2,hk=>by
   change bindC kindOf ((p,w)::P.zip vs) m x=_
   unfold bindC
   #nL (i:=i) (List.nodup_cons.mp nd).2 (by simpa using h1) (by simpa using h2) hk
def start (N:O Str)(vs:O V):St:=vs.map S++aev (N.length-vs~) Z
def gM (CX:sr)(P:Program)(w:World)(K:ad2)(mg:Str->Option Value)(base:Heap)(N:O Str)(qual:Str)(scope:Scope)(f:J)(cd:Value)(A:Around)(outer:O Env)(s:Shared)(H:Hp)(E:XK):Cx where
 prog:=P
 w:=w
 K:=K
 mg:=mg
 base:=base
 A:=A.deeper (envOfC qual scope s.heap.objs.size f cd)
 N:=N
 s₀:=s
 H₀:=H
 env:=envOfC qual scope s.heap.objs.size f cd
 outer:=outer
 stack:=envOfC qual scope s.heap.objs.size f cd::outer
 ex:=[]
 calm:=true
 fn:=λz=>true
 pn:=[]
 xe:=λe s'=>wpAny (model P w) (A.deeper (envOfC qual scope s.heap.objs.size f cd)) (leaving (envOfC qual scope s.heap.objs.size f cd) e) (λz Vo=>CX outer H s E e Vo) (λe' Vo=>CX outer H s E e' Vo) s'
def qE {sc:Scope}{n:Nat}{x:Str}(h:sc.names.lookup x=S .cell):∃c,(cellsFrom n sc.names []).lookup x=S c:=by
 !q:=agr sc.names n [] (.inl h)
 #Option.isSome_iff_exists.mp q
def n9 {CX:sr}{P:Program}{w:World}{K:ad2}{mg:Str->Option Value}{base:Heap}{N ps:O Str}{qual:Str}{scope:Scope}{f:J}{cd:Value}{A:Around}{outer:O Env}{s s1:Shared}{H:Hp}{E:XK}{us:O Value}{vs:O V}
   (S8:aA N ps scope) (hd:A.handled=Z) (e0:oN P w K mg base A outer s H) (hl:vs~=ps~) (r:Vals vs us)
   (x:InCallC s s.heap.objs.size (bindL (envOfC qual scope s.heap.objs.size f cd).kindOf (ps.zip us) λt=>Z) (cellsFrom (s.heap.objs.size+1) scope.names []) (bindC (envOfC qual scope s.heap.objs.size f cd).kindOf (ps.zip us) λt=>Z) s1) :
   Inv (gM CX P w K mg base N qual scope f cd A outer s H E) [] (start N vs) H s1:=by
 !hpl:ps~<=N.length:=by !:=congrArg agS S8.pre;rw[aea]at this;lia
 @⟨h1,tk,rfl,hk⟩:=x.done
 !noA:∀b:J,b∉(gM CX P w K mg base N qual scope f cd A outer s H E).ex:=λb z=>aw (show b∈([]:O J)from z) (by simp)
 #⟨⟨e0.mod,S8.kind,U,U,ad5 _,λy z c h1 h2=>?_,λy hy=>?_,λy c t h=>?_,λt=>hd,ah7 e0.frames,.inr ⟨U,U⟩,λb z=>aw z (noA b),e0.bs,e0.bsz,λb t t=>noA b,λb z=>aw z (noA b),e0.ig,e0.frf⟩,
   rfl,e0.bare,Un.kept hk,⟨_,x.toInCall.ns,λi y v h1 h2 h3=>?_⟩,λy c h=>⟨_,x.cell y c h⟩,e0.hok.fresh (ad5 _),λy c h=>?_,λp hp=>aw (show p∈([]:O (J×Obj))from hp) (by simp),e0.hok.kept hk,?_⟩
 . #name_of_addr x.apart (aeP h1) (aeP h2)
 . !hy:scope.names.lookup y=S .cell\/scope.names.lookup y=S .free:=hy
   rcases hy with hy|hy
   . #qE hy
   . #aw rfl (S8.nofree _ (aeP hy))
 . #aeY (x.above y c (aeP h))
 . !hi:i<vs~:=by
     unfold start at h2
     by_cases hi:i<vs~
     . #hi
     . rw[agc (by simpa using hi)]at h2
       rw[agu]at h2
       split at h2<;>cases h2
   !ha:vs[i]?=S v:=by
     unfold start at h2
     rw[afh (by simpa using hi),aei]at h2
     cases e:vs[i]? with
     | none=>rw[e]at h2;cases h2
     | some a=>rw[e]at h2;cases h2;rfl
   @⟨u,hu,rv⟩:=r.get ha
   !hp:ps[i]?=S y:=by
     rw[← S8.pre,List.getElem?_take_of_lt (by lia)];#h1
   !W9:ps.Nodup:=by rw[← S8.pre];#S8.nd.sublist (agn _ _)
   #⟨u,rv,?_⟩
   rcases S8.par y (ad4 hp)with k|k
   . #.inl ⟨k,nO W9 hp hu k⟩
   . @⟨c,e⟩:=qE (n:=s.heap.objs.size+1) k
     #.inr ⟨.inl k,c,e,?_⟩
     !q:=x.cell y c e
     rw[nL W9 hp hu (by change scope.names.lookup y≠_;rw[k];decide)]at q
     #q
 . #e0.hok.fresh (aeY (x.above y c (aeP h)))
 . unfold start
   change _=N.length
   rw[ad7,ad1,afg]
   lia
def zA {CX:sr}{P:Program}{w:World}{K:ad2}{mg:Str->Option Value}{base:Heap}{k:Nat}{f:J}{name qual:Str}{params:Arguments}{body:O Stmt}{scope:Scope}{dV kV doc pm cdv ct oc:Value}{an od:Option J}
   {osl:Array (Option Value)} {N ps:O Str} {sp:Sp} (lk:K.lookup f=S ⟨oc,od,.func (ae5 name qual params body scope dV kV doc pm an cdv ct),osl⟩) (hcd:afH K cdv qual=true) (S8:aA N ps scope)
   (len:∀vs H Q E,sp vs H Q E->vs~=ps~)
   (hbody:∀(A:Around) (outer:O Env) (s:Shared) (H:Hp) (vs:O V) (Q:VK) (E:XK),cG k (A.deeper (envOfC qual scope s.heap.objs.size f cdv))->sp vs H Q E ->
     ∃t,mV (gM CX P w K mg base N qual scope f cdv A outer s H E) body t/\t {nx:=λz H'=>Q .bA H',rt:=Q} (start N vs) H) :
   aL P w K mg base CX (k+1) f (ae5 name qual params body scope dV kV doc pm an cdv ct) ps sp:=by
 #⟨len,λA outer s H args us vs Q E hr e0 hb r hsp=>?_⟩
 !hl:=len _ _ _ _ hsp
 !KX:K.In s.heap:=e0.mod.kin.keeps λb o e=>(e0.bs b o e).1
 !lim:s.heap.NoLimit:=e0.mod.nolimit.keeps λb o e=>(e0.bs b o e).1
 !NR:∀y∈ps.zip us,scope.names.lookup y.1=S .local\/(scope.names.lookup y.1=S .cell/\((cellsFrom (s.heap.objs.size+1) scope.names []).lookup y.1).isSome=true):=λ⟨n,v⟩ hy=>by
   rcases S8.par n (afl hy).1 with q|q
   . #.inl q
   . #.inr ⟨q,agr _ _ _ (.inl q)⟩
 #codeAny_call_function hr.depth (KX _ _ lk) rfl S8.co S8.gen rfl (aib KX hcd) (hb _ _ _ _ ?_)
 #ah8 S8.kind NR λenv he s1 x=>?_
 subst he
 #⟨lim.keeps x.toInCall.keep,codeAny_func ?_⟩
 @⟨t,ht,hq⟩:=hbody A outer s H vs Q E (hr.deeper _) hsp
 !I:Inv (gM CX P w K mg base N qual scope f cdv A outer s H E) [] (start N vs) H s1:=n9 S8 hr.hd e0 hl r x
 #wpAny_mono (ht [] s1 (start N vs) H _ I hq) (λfl s' hs=>?_) λe s' hs=>hs
 !fin:∀{σ':St} {H':Hp} {v:V} {u:Value},Inv (gM CX P w K mg base N qual scope f cdv A outer s H E) [] σ' H' s'->RelV v u->Q v H'->CE outer P w H s Q u s':=
   λ{σ' H' v u} J8 rv q=>⟨v,H',J8.os,J8.bare,J8.base,J8.hok,rv,q⟩
 cases fl with
 | ret u=>
   @⟨v,σ',H',J8,rv,q⟩:=hs
   #fin J8 rv q
 | next=>
   @⟨σ',H',J8,q⟩:=hs
   #fin (v:=V.bA) (u:=ahe) J8 rfl q
 | brk=>
   @⟨_,_,_,q⟩:=hs
   #aeS q
 | cont=>
   @⟨_,_,_,q⟩:=hs
   #aeS q
section
variable{X:Cx}{x:Str}{p pos:Pos}{e:Expr}{es:O Expr}{t:TA}{id T:String}{r:O V->Hp->VK->Prop}
def MP (r:O V->Hp->VK->Prop)(t:TA):TE:=λσ H Q=>t σ H λvs H1=>r vs H1 Q
def A8 (hc:fE X (.builtin id) r)(hg:Gl X x)(hm:X.mg x=Z)(hv:aeT x=S (.builtin id))(ha:PA X (e::es) t)(hn:x≠"__name__":=by left)(hdb:(x==("__debug__":Str))=false:=by left)
   (he:starEach (e::es) X.env=(false,eval e X.env)::starEach es X.env:=by rfl) (hpl:(backTo pos (starEach es X.env)).any (·.1)=false:=by rfl):PE X (.Call (.Name x p) (e::es) [] pos) (MP r t):=by
 intro pins s σ H Q I h
 #wpAny_Call_Name_kw (eS I hg hm hv ?_ hn hdb)
 #PyProof.Rows.callWith_builtin1 (bH (ha pos pins s σ H _ I h) λus s1 h9=>?_) he hpl
 @⟨vs,H1,I1,r1,q1⟩:=h9
 #hc pins s1 σ H1 vs us Q I1 r1 q1
def yd (hc:fE X (.type T) r)(hg:Gl X x)(hm:X.mg x=Z)(hv:aeT x=S (.type T))(ha:PA X (e::es) t)(hn:x≠"__name__":=by left)(hdb:(x==("__debug__":Str))=false:=by left)
   (he:starEach (e::es) X.env=(false,eval e X.env)::starEach es X.env:=by rfl) (hpl:(backTo pos (starEach es X.env)).any (·.1)=false:=by rfl):PE X (.Call (.Name x p) (e::es) [] pos) (MP r t):=by
 intro pins s σ H Q I h
 #wpAny_Call_Name_kw (eS I hg hm hv ?_ hn hdb)
 #aez (bH (ha pos pins s σ H _ I h) λus s1 h9=>?_) he hpl
 @⟨vs,H1,I1,r1,q1⟩:=h9
 #hc pins s1 σ H1 vs us Q I1 r1 q1
end
end L2
namespace HT
open PySem PyProof.Rows
section
variable{prog:Program}{w:World}{A:Around}{E:Value->Shared->Prop}{s:Shared}
def dJ (n d:Nat):Option Int->Nat
 | none=>d
 | some v=>if v<0 then(v+(n:Int)).toNat else min v.toNat n
def Br (n d:Nat):dJ n d Z=d:=rfl
def gU (n d k:Nat):dJ n d (S (k:Int))=min k n:=by
 change(if(k:Int)<0 then((k:Int)+(n:Int)).toNat else min (k:Int).toNat n)=min k n
 rw[aM (by lia),aes]
def Lv (n d:Nat)(hd:d<=n)(o:Option Int):dJ n d o<=n:=by
 cases o with
 | none=>#hd
 | some v=>
   change(if v<0 then(v+(n:Int)).toNat else min v.toNat n)<=n
   by_cases hv:v<0
   . rw[aR hv];lia
   . rw[aM hv];#Nat.min_le_right _ _
def vf (v:Int)(n d:Nat):(if v<0 then max (v+(n:Int)) 0 else min v (n:Int))=((dJ n d (S v):Nat):Int):=by
 change(if v<0 then max (v+(n:Int)) 0 else min v (n:Int))=(((if v<0 then(v+(n:Int)).toNat else min v.toNat n):Nat):Int)
 by_cases hv:v<0
 . simp only[aR hv];lia
 . simp only[aM hv];lia
def sP (lo hi:Option Int)(n:Nat):afW lo hi 1 (n:Int)=(((dJ n 0 lo:Nat):Int),((dJ n n hi:Nat):Int)):=by
 !h1:¬ ((1:Int)<0):=by lia
 unfold afW
 simp only[h1,if_false]
 #Prod.ext ?_ ?_
 . cases lo with
   | none=>rfl
   | some v=>#vf v n 0
 . cases hi with
   | none=>rfl
   | some v=>#vf v n n
def uq (i j:Nat):afs (i:Int) (j:Int) 1=j-i:=by
 unfold afs
 !h1:(1:Int) > 0:=by lia
 simp only[h1,if_true,ahq]
 split<;>lia
def mK {v:Value}{o:Option Int}{Q:Option Int->Shared->Prop}(p:IsPart v o)(h:Q o s):wpAny (model prog w) A (Builtin.Slice.slicePartIndex v) Q E s:=by
 cases p with
 | none=>#slicePart_none h
 | int i t=>#slicePart_int h
def kg {sl:J}{vl vu:Value}{lo hi:Option Int}{n:Nat}{Q:Int×Int×Nat->Shared->Prop}(hs:s.heap.IsSliceOf sl vl vu .none)(pl:IsPart vl lo)(pu:IsPart vu hi)
   (h:Q (((dJ n 0 lo:Nat):Int),1,dJ n n hi-dJ n 0 lo) s):wpAny (model prog w) A (agT (.ref sl) (pure (n:Int))) Q E s:=by
 @⟨os,NY,S6,QY⟩:=id hs
 unfold agT Builtin.Slice.sliceFields
 #wpAny_bind (wpAny_bind (wpAny_field NY QY (x:=vl) rfl (wpAny_bind (wpAny_field NY QY (x:=vu) rfl (wpAny_bind (wpAny_field NY QY (x:=.none) rfl (wpAny_pure ?_)))))))
 #wpAny_bind (slicePart_none ?_)
 change wpAny _ _ (if((1:Int)==0)=true then _ else _) _ _ s
 rw[aM (by left)]
 #wpAny_bind (mK pl (wpAny_bind (mK pu (wpAny_bind (wpAny_pure ?_)))))
 change wpAny _ _ (match afW lo hi 1 (n:Int)with|(lo,hi)=>pure (lo,(1:Int),afs lo hi 1)) _ _ s
 rw[sP lo hi n]
 change wpAny _ _ (pure (((dJ n 0 lo:Nat):Int),(1:Int),afs ((dJ n 0 lo:Nat):Int) ((dJ n n hi:Nat):Int) 1)) _ _ s
 rw[uq]
 #wpAny_pure h
def Bh (xs:Array Value)(i k:Nat):((aem k).filterMap λ(m:Nat)=>xs[((i:Int)+(m:Int)*1).toNat]?).toArray=((xs.toList.drop i).take k).toArray:=by
 !e:(λ(m:Nat)=>xs[((i:Int)+(m:Int)*1).toNat]?)=λm=>xs[i+m]?:=by
   funext m
   !:((i:Int)+(m:Int)*1).toNat=i+m:=by lia
   rw[this]
 rw[e]
 !:=pick_run xs i k
 rw[ag7]at this
 !e2:((λx=>xs[x]?) ∘ λx=>i+x)=λm=>xs[i+m]?:=rfl
 rw[e2]at this
 rw[this]
def jA {t sl:J}{items:Array Value}{vl vu:Value}{lo hi:Option Int}{Q:Value->Shared->Prop}(ht:IsTup s.heap t items)(hs:s.heap.IsSliceOf sl vl vu .none)(pl:IsPart vl lo)(pu:IsPart vu hi)
   (hw:¬ (dJ items.size 0 lo=0/\dJ items.size items.size hi=items.size))
   (h:Q (.ref s.heap.objs.size) {s with heap:=s.heap.push {cls:=.type "tuple",data:=.seq ((items.toList.drop (dJ items.size 0 lo)).take (dJ items.size items.size hi-dJ items.size 0 lo)).toArray} })
   (hsz:items.size<=sizeLine):wpAny (model prog w) A (getItem (.ref t) (.ref sl)) Q E s:=by
 !vD:sizeOk (.seq ((items.toList.drop (dJ items.size 0 lo)).take (dJ items.size items.size hi-dJ items.size 0 lo)).toArray):=by
   change((items.toList.drop (dJ items.size 0 lo)).take (dJ items.size items.size hi-dJ items.size 0 lo)).toArray.size<=sizeLine
   rw[aek,aea,ae3,af3]
   lia
 !hj:dJ items.size items.size hi<=items.size:=Lv _ _ (ad5 _) hi
 @⟨os,NY,S6,QY⟩:=id hs
 !Z9:s.TypeIs (.ref sl) "slice":=⟨os,NY,S6⟩
 unfold getItem
 try with_reducible show wpAny_holding ?_
 first|show wpAny_bind (wpAny_pure ?_)|skip
 #wpAny_bind (wpAny_sequenceKey ht.typeIs (by left) ?_)
 #wpAny_bind (afr (name:=agI "__getitem__") ht.typeIs agD
   (wpAny_call_entry agD ht.typeIs entry_tuple_getitem ?_ (args_tuple_getitem _ _)))
 change wpAny _ _ (Builtin.Tuple.tupleItemsOf (.ref t)>>=_) _ _ s
 #wpAny_bind (tupleItemsOf_ ht ?_)
 #wpAny_bind (wpAny_typeOf Z9 ?_)
 rw[aR (by left)]
 #wpAny_bind (kg hs pl pu ?_)
 !qo:¬ ((((dJ items.size 0 lo:Nat):Int)==0&&(1:Int)==1&&(dJ items.size items.size hi-dJ items.size 0 lo)==items.size)=true):=by
   intro q
   rw[aeI,aeI]at q
   !q1:((dJ items.size 0 lo:Nat):Int)=0:=eq_of_beq q.1.1
   !q2:dJ items.size items.size hi-dJ items.size 0 lo=items.size:=eq_of_beq q.2
   #hw ⟨by lia,by lia⟩
 change wpAny _ _ (if(((dJ items.size 0 lo:Nat):Int)==0&&(1:Int)==1&&(dJ items.size items.size hi-dJ items.size 0 lo)==items.size)=true then _ else _) _ _ s
 rw[aM qo,Bh]
 first
   | show wpAny_bind (m:=afv _) (wpAny_newObj_type (wpAny_pure ⟨_,rfl,wpAny_pure h⟩) vD)
   | show wpAny_bind (m:=afv _) (wpAny_newObj_type (wpAny_bind (wpAny_pure (wpAny_pure ⟨_,rfl,wpAny_pure h⟩))) vD)
   | show wpAny_bind (wpAny_bind (m:=afv _) (wpAny_newObj_type (wpAny_pure (wpAny_pure ⟨_,rfl,wpAny_pure h⟩)) vD))
   | show wpAny_bind (wpAny_bind (m:=afv _) (wpAny_newObj_type (wpAny_pure ⟨_,rfl,wpAny_pure h⟩) vD))
end
end HT
namespace L2
open PySem PySem.Spec PyProof.Rows
abbrev TO:=St->Hp->(Option Int->Hp->Prop)->Prop
def PO (X:Cx)(e:Option Expr)(t:TO):Prop:=
 ∀(pins:O (J×Obj)) (s:Shared) (σ:St) (H:Hp) (Q:Option Int->Hp->Prop),Inv X pins σ H s->t σ H Q ->
   wpAny (model X.prog X.w) X.A (evalPart e X.env) (λu s'=>∃o H',Inv X pins σ H' s'/\IsPart u o/\Q o H') X.xe s
def lI:TO:=λz H Q=>Q Z H
def oI (t:TE):TO:=λσ H Q=>t σ H λx H1=>∃i,x=.int i/\Q (S i) H1
def intsAre_of {ns:O Int}:∀{us:O Value},Vals (ns.map V.int) us->IntsAre us ns:=by
 induction ns with
 | nil=>intro us r;rw[aic]at r;cases r;#.nil
 | cons n ns ih=>
   intro us r
   rw[aeN]at r
   cases r with
   | cons r1 r2=>
     @⟨t,e⟩:=r1
     subst e
     #.cons n t (ih r2)
section
variable{X:Cx}{e:Expr}{te:TE}{lo hi:Option Expr}{tl th:TO}{pos p2:Pos}
def pS:PO X Z lI:=by
 intro pins s σ H Q I h
 rw[ahr]
 #wpAny_pure ⟨Z,H,I,.none,h⟩
def jM (h:PE X e te):PO X (S e) (oI te):=by
 intro pins s σ H Q I hw
 rw[evalPart_some]
 #bH (h pins s σ H _ I hw) λu s1 h9=>?_
 @⟨x,H1,I1,r1,q1⟩:=h9
 @⟨i,rfl,q⟩:=q1
 @⟨t,rfl⟩:=r1
 #⟨S i,H1,I1,.int i t,q⟩
def RL (X:Cx)(r:V->Option Int->Option Int->Hp->VK->Prop):Prop:=
 ∀(pins:O (J×Obj)) (s:Shared) (σ:St) (H:Hp) (x:V) (v vl vu:Value) (lo hi:Option Int) (sl:J) (Q:VK),Inv X pins σ H s->RelV x v->s.heap.IsSliceOf sl vl vu .none->IsPart vl lo->IsPart vu hi->r x lo hi H Q ->
   ∃T id,ahC (.type T) "__getitem__"=pure (S (.builtin id))/\s.TypeIs v T/\wpAny (model X.prog X.w) X.A (getItem v (.ref sl)) (EP X pins σ Q) X.xe s
def Qi (r:V->Option Int->Option Int->Hp->VK->Prop)(te:TE)(tl th:TO):TE:=λσ H Q=>te σ H λx H1=>tl σ H1 λl H2=>th σ H2 λu H3=>r x l u H3 Q
def jK {r:V->Option Int->Option Int->Hp->VK->Prop}(hr:RL X r)(he:PE X e te)(hl:PO X lo tl)(hu:PO X hi th):PE X (.Subscript e (.Slice lo hi Z p2) pos) (Qi r te tl th):=by
 intro pins s σ H Q I h
 #ahE (bH (he pins s σ H _ I h) λv s1 h9=>?_)
 @⟨x,H1,I1,r1,q1⟩:=h9
 #wpAny_Slice (bH (hl pins s1 σ H1 _ I1 q1) λvl s2 g9=>?_)
 @⟨l,H2,I2,pl,q2⟩:=g9
 #bH (hu pins s2 σ H2 _ I2 q2) λvu s3 h9=>?_
 @⟨u,H3,I3,pu,q3⟩:=h9
 rw[ahr]
 #wpAny_pure ?_
 !I4:Inv X pins σ H3 {s3 with heap:=s3.heap.push {cls:=.type "slice",data:=.fields #[vl,vu,.none]} }:=I3.kept (t':=s3.toks) λb ob q=>ad6 _ q
 @⟨T,id,hT,ht,hg⟩:=hr pins {s3 with heap:=s3.heap.push {cls:=.type "slice",data:=.fields #[vl,vu,.none]} } σ H3 x v vl vu l u s3.heap.objs.size Q I4 r1 (agv ..) pl pu q3
 change wpAny (model X.prog X.w) X.A (subscriptTail e (.Slice lo hi Z p2) v (.ref s3.heap.objs.size)) (EP X pins σ Q) X.xe {s3 with heap:=s3.heap.push {cls:=.type "slice",data:=.fields #[vl,vu,.none]} }
 #tail_any (ops:=[.ref s3.heap.objs.size,v]) ht hT hg (by with_unfolding_all rfl)
def j4 (xs:O V)(lo hi:Option Int):O V:=(xs.drop (HT.dJ xs~ 0 lo)).take (HT.dJ xs~ xs~ hi-HT.dJ xs~ 0 lo)
def ko (xs:O V)(lo hi:Option Int):(j4 xs lo hi)~<=xs~:=by
 unfold j4
 rw[aea,ae3]
 lia
def Pj (K:ad2):V->Option Int->Option Int->Hp->VK->Prop:=λx lo hi H Q=>∃a xs,x=.ref a/\dY K H a xs /\
 ¬ (HT.dJ xs~ 0 lo=0/\HT.dJ xs~ xs~ hi=xs~)/\∀p,H p=Z->Q (.ref p) (upd H p (.tup (j4 xs lo hi)))
def LH:RL X (Pj X.K):=by
 intro pins s σ H x v vl vu lo hi sl Q I rx hs pl pu h
 @⟨a,xs,rfl,hx,hw,q⟩:=h
 cases rx
 @⟨its,r,ht,hz⟩:=I.tuple hx
 !hlen:its.toArray.size=xs~:=by rw[aek];#r.length.symm
 #⟨"tuple",_,PyProof.Rows.slot_tuple_getitem.lookup,ht.typeIs,?_⟩
 #HT.jA ht hs pl pu (by rw[hlen];#hw) ?_ (by rw[hlen];#hz)
 rw[hlen]
 #⟨.ref s.heap.objs.size,_,I.laid (t':=s.toks) (o:=.tup (j4 xs lo hi)) (λb ob q=>ad6 _ q) (ad5 _) ?_,U,q _ (I.hok.fresh (ad5 _))⟩
 #⟨aeg (ko xs lo hi) hz,_,(r.drop (HT.dJ xs~ 0 lo)).take (HT.dJ xs~ xs~ hi-HT.dJ xs~ 0 lo),ah3 _ _⟩
end
def xG (n:Nat)(i:Int):Option Nat:=if 0<=i then(if i<n then S i.toNat else Z)else if -(n:Int)<=i then S (i+n).toNat else Z
def hW {α:Type}(xs:O α)(i:Int):Option α:=(xG xs~ i).bind λj=>xs[j]?
def pI {n:Nat}{i:Int}{j:Nat}(h:xG n i=S j):seqIndex? i n=S j/\j<n/\-(n:Int)<=i/\i<n:=by
 unfold xG at h
 by_cases h0:0<=i
 . rw[aR h0]at h
   by_cases h1:i<n
   . rw[aR h1]at h
     !e:i.toNat=j:=aej h
     #⟨by rw[seqIndex_of h0 h1,e],by lia,by lia,h1⟩
   . rw[aM h1]at h;cases h
 . rw[aM h0]at h
   by_cases h1 : -(n:Int)<=i
   . rw[aR h1]at h
     !e:(i+n).toNat=j:=aej h
     #⟨by rw[seqIndex_neg (by lia) h1,e],by lia,h1,by lia⟩
   . rw[aM h1]at h;cases h
def dS {α:Type}{xs:O α}{i:Int}{v:α}(h:hW xs i=S v):∃j,seqIndex? i xs~=S j/\xs[j]?=S v/\j<xs~/\-(xs~:Int)<=i/\i<xs~:=by
 unfold hW at h
 cases e:xG xs~ i with
 | none=>rw[e]at h;cases h
 | some j=>
   rw[e]at h
   @⟨h1,h2,h3,h4⟩:=pI e
   #⟨j,h1,h,h2,h3,h4⟩
def bL {α:Type}{xs:O α}{j:Nat}{v:α}(h:xs[j]?=S v):hW xs (j:Int)=S v:=by
 !hj:j<xs~:=(List.getElem?_eq_some_iff.mp h).1
 !e:xG xs~ (j:Int)=S j:=by
   unfold xG
   rw[aR (by lia),aR (by lia)];simp
 unfold hW;rw[e];#h
def u6 (b:Expr):Prop:=∀o i,subscripted b false o i=operate [o,i] (getItem o i)
def Qx (X:Cx)(r:R2):Prop:=
 ∀(value slice:Expr) (pins:O (J×Obj)) (s:Shared) (σ:St) (H:Hp) (x y:V) (v u:Value) (Q:VK),Inv X pins σ H s->RelV x v->RelV y u->r x y H Q ->
   subscripted slice false v u=operate [v,u] (getItem v u)->wpAny (model X.prog X.w) X.A (subscriptTail value slice v u) (EP X pins σ Q) X.xe s
def Qy (X:Cx)(id:String)(r:V->O V->Hp->VK->Prop):Prop:=
 ∀(pins:O (J×Obj)) (s:Shared) (σ:St) (H:Hp) (x:V) (xs:O V) (v:Value) (us:O Value) (Q:VK),Inv X pins σ H s->RelV x v->Vals xs us->r x xs H Q ->
   wpAny (model X.prog X.w) X.A (call (.builtin id) (v::us)) (EP X pins σ Q) X.xe s
section
variable{X:Cx}{a b:Expr}{ta tb:TE}{pos:Pos}
def OW {r:R2}(hr:Qx X r)(ha:PE X a ta)(hb:PE X b tb)(hs:u6 b):PE X (.Subscript a b pos) (Dl r ta tb):=by
 intro pins s σ H Q I h
 #ahE (IV ha hb I h λv u s2 x y H2 I2 rx ry q=>hr a b pins s2 σ H2 x y v u Q I2 rx ry q (hs _ _))
def Pf (K:ad2):R2:=λx y H Q=>∃p xs i v,x=.ref p/\y=.int i/\aB K H p xs/\hW xs i=S v/\Q v H
def Pg (K:ad2):R2:=λx y H Q=>∃p xs i v,x=.ref p/\y=.int i/\dY K H p xs/\hW xs i=S v/\Q v H
def Eh:Qx X (Pf X.K):=by
 intro value slice pins s σ H x y v u Q I rx ry h hs
 @⟨p,xs,i,z,rfl,rfl,hq,he,q⟩:=h
 cases rx
 @⟨t,rfl⟩:=ry
 @⟨its,r,pl,hz⟩:=I.list hq
 @⟨j,h1,h2,h3,h4,h5⟩:=dS he
 @⟨w,ew,rw'⟩:=r.get h2
 !hl:=r~
 !hn:=pL
 !fin:EP X pins σ Q w s:=⟨z,H,I,rw',q⟩
 by_cases h0:0<=i
 . !hj:i.toNat=j:=by
     rw[seqIndex_of h0 h5]at h1
     #aej h1
   #item_listR pl.isList h0 (by lia) (by rw[hj];simpa using ew) fin hs
 . !hj:(i+(its.toArray.size:Int)).toNat=j:=by
     rw[seqIndex_neg (by lia) h4]at h1
     rw[aek,← hl]
     #aej h1
   #subscriptTail_builtinR (x:=w) pl.isList.typeIs slot_list_getitem.lookup
     (wpAny_getItem_list_neg (Q:=λr s'=>r=w/\EP X pins σ Q r s') pl.isList (by lia) (by rw[aek]<;>lia) (by lia) (by rw[hj];simpa using ew) ⟨rfl,fin⟩) hs
def JE:Qx X (Pg X.K):=by
 intro value slice pins s σ H x y v u Q I rx ry h hs
 @⟨p,xs,i,z,rfl,rfl,hq,he,q⟩:=h
 cases rx
 @⟨t,rfl⟩:=ry
 @⟨its,r,pl,hz⟩:=I.tuple hq
 @⟨j,h1,h2,h3,h4,h5⟩:=dS he
 @⟨w,ew,rw'⟩:=r.get h2
 !hl:=r~
 !hn:=pL
 !fin:EP X pins σ Q w s:=⟨z,H,I,rw',q⟩
 #subscriptTail_builtinR (x:=w) pl.typeIs slot_tuple_getitem.lookup
   (getItem_tuple (j:=j) (Q:=λr s'=>r=w/\EP X pins σ Q r s') pl (by lia) (by lia) (by rw[aek,← hl];#h1) (by simpa using ew) ⟨rfl,fin⟩) hs
def tZ (its:O Value)(n j:Nat)(u:Value):agM (·.setIfInBounds j u) {cls:=.type "list",data:=.seq its.toArray n}={cls:=.type "list",data:=.seq (its.set j u).toArray n}:=by
 simp[agM]
def Inv.lst {pins:O (J×Obj)}{σ:St}{H:Hp}{s:Shared}{p:J}{xs:O V}(I:Inv X pins σ H s)(h:H p=S (.lst xs)) :
   ∃(its:O Value) (n:Nat),Vals xs its/\s.heap.get? p=S {cls:=.type "list",data:=.seq its.toArray n}/\xs~<=sizeLine:=by
 @⟨z,its,n,r,e⟩:=I.hok p _ h
 #⟨its,n,r,e,z⟩
def Inv.JO {pins:O (J×Obj)}{σ:St}{H:Hp}{s:Shared}{p:J}{xs ys:O V}{its its':O Value}{n n':Nat}{f:Obj->Obj}(I:Inv X pins σ H s)(h:H p=S (.lst xs))
   (ho:s.heap.get? p=S {cls:=.type "list",data:=.seq its.toArray n}) (hf:f {cls:=.type "list",data:=.seq its.toArray n}={cls:=.type "list",data:=.seq its'.toArray n'}) (r:Vals ys its') (hz:ys~<=sizeLine) (t:Nat) :
   Inv X pins σ (upd H p (.lst ys)) {s with heap:=s.heap.update p f,toks:=t}:=by
 !e:(s.heap.update p f).get? p=S {cls:=.type "list",data:=.seq its'.toArray n'}:=by
   rw[agF f ho (by rw[hf]<;>rfl),hf]
 #I.write (x:=p) (e:=p) (by rw[h];trivial) (.inl rfl) (λb u hb q=>(ah4 _ _ (Ne.symm hb)).trans q) ⟨_,e⟩ ?_
 #⟨hz,its',n',r,e⟩
def Ho:V->V->V->Hp->(Hp->Prop)->Prop:=λo i v H Q=>∃p xs k j,o=.ref p/\i=.int k/\H p=S (.lst xs)/\xG xs~ k=S j/\Q (upd H p (.lst (xs.set j v)))
def set_list:MY X Ho:=by
 intro pins s σ H o i v ov iv u Q I ro ri rv h
 @⟨p,xs,k,j,rfl,rfl,hp,hj,q⟩:=h
 cases ro
 @⟨t,rfl⟩:=ri
 @⟨its,n,r,ho,hz⟩:=I.lst hp
 @⟨h1,h2,h3,h4⟩:=pI hj
 !hl:=r~
 !hn:=pL
 !I':Inv X pins σ (upd H p (.lst (xs.set j v))) {s with heap:=s.heap.update p (agM (·.setIfInBounds j u))}:=
   I.JO hp ho (tZ its n j u) (r.set rv j) (by rw[afu];#hz) s.toks
 by_cases h0:0<=k
 . !hk:k.toNat=j:=by
     rw[seqIndex_of h0 h4]at h1
     #aej h1
   #PySem.W.ki_setAt ho h0 (by lia) (by rw[aek,← hl];#h4) (by rw[hk];#⟨_,I',q⟩)
 . !hk:(k+(its.toArray.size:Int)).toNat=j:=by
     rw[seqIndex_neg (by lia) h3]at h1
     rw[aek,← hl]
     #aej h1
   #PySem.W.ki_setBack ho (by lia) (by rw[aek,← hl];#h3) (by lia) (by rw[hk];#⟨_,I',q⟩)
def pX (lo hi:Option Int)(n:Nat):(sliceBounds lo hi Z n).1=((HT.dJ n 0 lo:Nat):Int)/\(sliceBounds lo hi Z n).2.1=((HT.dJ n n hi:Nat):Int)/\(sliceBounds lo hi Z n).2.2=1:=by
 #⟨?_,?_,U⟩
 . cases lo with
   | none=>simp[sliceBounds,HT.dJ]
   | some i=>
     simp only[sliceBounds,HT.dJ,Option.getD_none,show(1:Int) > 0 by left,if_true]
     by_cases h:i<0
     . simp only[h,if_true]<;>lia
     . simp only[h,if_false]<;>lia
 . cases hi with
   | none=>simp[sliceBounds,HT.dJ]
   | some i=>
     simp only[sliceBounds,HT.dJ,Option.getD_none,show(1:Int) > 0 by left,if_true]
     by_cases h:i<0
     . simp only[h,if_true]<;>lia
     . simp only[h,if_false]<;>lia
def nG (its:O Value)(lo hi:Option Int):agV its.toArray lo hi Z=((its.drop (HT.dJ its~ 0 lo)).take (HT.dJ its~ its~ hi-HT.dJ its~ 0 lo)).toArray:=by
 @⟨h1,h2,h3⟩:=pX lo hi its.toArray.size
 unfold agV
 rw[h1,h2,h3]
 simp only[sliceRange_one,pick_run,aek]<;>rfl
def FJ (K:ad2):V->Option Int->Option Int->Hp->VK->Prop:=λx lo hi H Q=>∃a xs,x=.ref a/\aB K H a xs/\∀p,H p=Z->Q (.ref p) (upd H p (.lst (j4 xs lo hi)))
def pW:RL X (FJ X.K):=by
 intro pins s σ H x v vl vu lo hi sl Q I rx hs pl pu h
 @⟨a,xs,rfl,hx,q⟩:=h
 cases rx
 @⟨its,r,ht,hz⟩:=I.list hx
 !hlen:=r~
 #⟨"list",_,slot_list_getitem.lookup,ht.isList.typeIs,?_⟩
 #agB ht.isList hs pl pu .none (by simp) ?_ (by rw[aek]<;>lia)
 rw[nG,← hlen]
 #⟨.ref s.heap.objs.size,_,I.laid (t':=s.toks) (o:=.lst (j4 xs lo hi)) (λb ob q=>ad6 _ q) (ad5 _) ?_,U,q _ (I.hok.fresh (ad5 _))⟩
 #⟨aeg (ko xs lo hi) hz,_,0,(r.drop (HT.dJ xs~ 0 lo)).take (HT.dJ xs~ xs~ hi-HT.dJ xs~ 0 lo),aeq _ rfl⟩
def cM:V->Bool
 | .bA=>true
 | .bl _=>true
 | .int _=>true
 | .str _=>true
 | _=>false
def jU:V->V->Bool
 | .bA,.bA=>true
 | .bl a,.bl b=>a==b
 | .bl a,.int b=>(if a then 1 else 0)==b
 | .int a,.bl b=>a==(if b then 1 else 0)
 | .int a,.int b=>a==b
 | .str a,.str b=>a==b
 | _,_=>false
def tF {A:Around}{s:Shared}{y x:V}{u v:Value}(ry:RelV y u)(rx:RelV x v)(fy:cM y=true)(fx:cM x=true):SeqAt.EqAt A s u v (jU y x):=by
 cases y with
 | bA=>
   cases ry
   cases x with
   | bA=>cases rx;#SeqAt.EqAt.same _
   | bl b=>cases rx;#SeqAt.EqAt.none_bool b
   | int b=>@⟨t,rfl⟩:=rx;#SeqAt.EqAt.none_int b t
   | str b=>@⟨t,rfl⟩:=rx;#SeqAt.EqAt.none_str b t
   | _=>#aw (show false=true from fx) ael
 | bl a=>
   cases ry
   cases x with
   | bA=>cases rx;#SeqAt.EqAt.bool_none a
   | bl b=>cases rx;#SeqAt.EqAt.bool_bool a b
   | int b=>@⟨t,rfl⟩:=rx;#SeqAt.EqAt.bool_int a b t
   | str b=>@⟨t,rfl⟩:=rx;#SeqAt.EqAt.bool_str a b t
   | _=>#aw (show false=true from fx) ael
 | int a=>
   @⟨t',rfl⟩:=ry
   cases x with
   | bA=>cases rx;#SeqAt.EqAt.int_none a t'
   | bl b=>cases rx;#SeqAt.EqAt.int_bool a t' b
   | int b=>@⟨t,rfl⟩:=rx;#SeqAt.EqAt.int_int a t' b t
   | str b=>@⟨t,rfl⟩:=rx;#ahO a t' b t
   | _=>#aw (show false=true from fx) ael
 | str a=>
   @⟨t',rfl⟩:=ry
   cases x with
   | bA=>cases rx;#SeqAt.EqAt.str_none a t'
   | bl b=>cases rx;#SeqAt.EqAt.str_bool a t' b
   | int b=>@⟨t,rfl⟩:=rx;#ahN a t' b t
   | str b=>@⟨t,rfl⟩:=rx;#SeqAt.EqAt.str_str a t' b t
   | _=>#aw (show false=true from fx) ael
 | _=>#aw (show false=true from fy) ael
def tG (x:V)(u:Value):Bool:=match u with
 | .none=>jU .bA x
 | .bool b=>jU (.bl b) x
 | .int i _=>jU (.int i) x
 | .str z _=>jU (.str z) x
 | _=>false
def zw {x y:V}{u:Value}(r:RelV y u)(f:cM y=true):tG x u=jU y x:=by
 cases y with
 | bA=>cases r;rfl
 | bl b=>cases r;rfl
 | int i=>@⟨t,rfl⟩:=r;rfl
 | str z=>@⟨t,rfl⟩:=r;rfl
 | _=>#aw (show false=true from f) ael
theorem js {x:V}:∀{xs:O V} {us:O Value},Vals xs us->xs.all cM=true->us.any (tG x)=xs.any λy=>jU y x
 | _,_,.nil,_=>rfl
 | y::xs,u::us,.cons r t,f=>by
   rw[ag8,aeI]at f
   rw[afn,afn,zw r f.1,js t f.2]
theorem iD {A:Around}{s:Shared}{x:V}{v:Value}(rx:RelV x v)(fx:cM x=true):∀{xs:O V} {us:O Value},Vals xs us->xs.all cM=true->∀u∈us,SeqAt.EqAt A s u v (tG x u)
 | _,_,.nil,_=>λu hu=>by cases hu
 | y::xs,u::us,.cons r t,f=>λu' hu=>by
   rw[ag8,aeI]at f
   rcases List.mem_cons.mp hu with rfl|hu
   . rw[zw r f.1];#tF r rx f.1 fx
   . #iD rx fx t f.2 u' hu
def qX (x:V)(xs:O V):Bool:=xs.any λy=>jU y x
def Rm (K:ad2)(neg:Bool):R2:=λx y H Q=>∃p xs,y=.ref p/\(aB K H p xs\/dY K H p xs)/\cM x=true/\xs.all cM=true/\Q (.bl (if neg then !qX x xs else qX x xs)) H
def xZ:jb X (compareOp .In) (Rm X.K false):=by
 intro pins s σ H x y v u Q I rx ry h
 @⟨p,xs,rfl,hq,fx,fs,q⟩:=h
 cases ry
 rcases hq with hq|hq
 . @⟨its,r,pl,hz⟩:=I.list hq
   #SeqAt.in_listAt (tG x) pl.isList (λw hw=>iD rx fx r fs w (by simpa using hw)) ⟨.bl _,H,I,U,?_⟩
   rw[show its.toArray.any (tG x)=its.any (tG x)by simp,js r fs]
   #q
 . @⟨its,r,pl,hz⟩:=I.tuple hq
   #SeqAt.in_tupleAt (tG x) pl (λw hw=>iD rx fx r fs w (by simpa using hw)) ⟨.bl _,H,I,U,?_⟩
   rw[show its.toArray.any (tG x)=its.any (tG x)by simp,js r fs]
   #q
def pP:jb X (compareOp .NotIn) (Rm X.K true):=by
 intro pins s σ H x y v u Q I rx ry h
 @⟨p,xs,rfl,hq,fx,fs,q⟩:=h
 cases ry
 rcases hq with hq|hq
 . @⟨its,r,pl,hz⟩:=I.list hq
   #SeqAt.notIn_listAt (tG x) pl.isList (λw hw=>iD rx fx r fs w (by simpa using hw)) ⟨.bl _,H,I,U,?_⟩
   rw[show its.toArray.any (tG x)=its.any (tG x)by simp,js r fs]
   #q
 . @⟨its,r,pl,hz⟩:=I.tuple hq
   #SeqAt.notIn_tupleAt (tG x) pl (λw hw=>iD rx fx r fs w (by simpa using hw)) ⟨.bl _,H,I,U,?_⟩
   rw[show its.toArray.any (tG x)=its.any (tG x)by simp,js r fs]
   #q
def oU:fE X (.builtin "len") (λxs H Q=>∃p ys,xs=[.ref p]/\(aB X.K H p ys\/dY X.K H p ys)/\Q (.int ys~) H):=by
 intro pins s σ H xs us Q I r h
 @⟨p,ys,rfl,hq,q⟩:=h
 @⟨u,rfl,rx⟩:=vals1 r
 cases rx
 !hn:=pL
 rcases hq with hq|hq
 . @⟨its,r',pl,hz⟩:=I.list hq
   !hlen:=r'~
   #Calls.call_len_list pl.isList (by simp only[aek]<;>lia) ⟨.int ys~,H,I.tok _,⟨s.toks+1,by rw[aek,hlen]⟩,q⟩
 . @⟨its,r',pl,hz⟩:=I.tuple hq
   !hlen:=r'~
   #len_tuple pl (by simp only[aek]<;>lia) ⟨.int ys~,H,I.tok _,⟨s.toks+1,by rw[aek,hlen]⟩,q⟩
def oV:fE X (.type "list") (λxs H Q=>∃p ys,xs=[.ref p]/\(aB X.K H p ys\/dY X.K H p ys)/\∀l,H l=Z->Q (.ref l) (upd H l (.lst ys))):=by
 intro pins s σ H xs us Q I r h
 @⟨p,ys,rfl,hq,q⟩:=h
 @⟨u,rfl,rx⟩:=vals1 r
 cases rx
 !fin:∀(its:O Value),Vals ys its->ys~<=sizeLine->∀(h':Heap) (c':Nat),(∀b o',s.heap.get? b=S o'->h'.get? b=S o') ->
     h'.get? s.heap.objs.size=S {cls:=.type "list",dict:=Z,data:=.seq its.toArray c',slots:=#[]}->EP X pins σ Q (.ref s.heap.objs.size) {s with heap:=h'}:=λits r' hz h' c' kp e=>
   ⟨.ref s.heap.objs.size,_,I.laid (t':=s.toks) kp (ad5 _) (show bw X.prog X.w _ h' _ (.lst ys)from⟨hz,its,c',r',e⟩),rfl,q _ (I.hok.fresh (ad5 _))⟩
 rcases hq with hq|hq
 . @⟨its,r',pl,hz⟩:=I.list hq
   !hlen:=r'~
   @⟨o,ho,hc,n,hd⟩:=pl.isList
   #call_list_seq p (.inl rfl) ho hc hd (λh' c' kp e=>fin its r' hz h' c' kp e) (by simp only[aek]<;>lia)
 . @⟨its,r',pl,hz⟩:=I.tuple hq
   !hlen:=r'~
   @⟨o,ho,hc,n,hd⟩:=pl
   #call_list_seq p (.inr rfl) ho hc hd (λh' c' kp e=>fin its r' hz h' c' kp e) (by simp only[aek]<;>lia)
def nj:fE X (.type "tuple") (λxs H Q=>∃p ys,xs=[.ref p]/\((aB X.K H p ys/\∀l,H l=Z->Q (.ref l) (upd H l (.tup ys)))\/(dY X.K H p ys/\Q (.ref p) H))):=by
 intro pins s σ H xs us Q I r h
 @⟨p,ys,rfl,h⟩:=h
 @⟨u,rfl,rx⟩:=vals1 r
 cases rx
 rcases h with⟨hq,q⟩|⟨hq,q⟩
 . @⟨its,r',pl,hz⟩:=I.list hq
   !hlen:=r'~
   #call_tuple_list pl.isList (λh' kp=>?_) (by simp only[aek]<;>lia)
   !I1:Inv X pins σ H {s with heap:=h'}:=I.kept (t':=s.toks) kp
   !I2:Inv X pins σ (upd H h'.objs.size (.tup ys)) {s with heap:=h'.push {cls:=.type "tuple",data:=.seq its.toArray} }:=
     I1.laid (t':=s.toks) (λb o e=>ad6 _ e) (ad5 _) (show bw X.prog X.w _ _ _ (.tup ys)from⟨hz,its,r',ah3 _ _⟩)
   #⟨.ref h'.objs.size,_,I2,U,q _ (I1.hok.fresh (ad5 _))⟩
 . @⟨its,r',pl,hz⟩:=I.tuple hq
   #call_tuple_same pl ⟨.ref p,H,I,U,q⟩
def XW (K:ad2)(T:String)(x:V)(H:Hp):Prop:=match x with
 | .str _=>T="str"
 | .int _=>T="int"
 | .ref p=>(T="list"/\∃xs,aB K H p xs)\/(T="tuple"/\∃o,K.lookup p=S o/\o.cls=.type "tuple"/\o.dict=Z) \/
     (T="dict"/\((∃kvs,H p=S (.dK kvs))\/∃kvs,H p=S (.dT kvs)))\/(T="set"/\∃S8 n,H p=S (.set S8 n))
 | _=>False
def LQ {pins:O (J×Obj)}{σ:St}{H:Hp}{s:Shared}{T:String}{x:V}{v:Value}(I:Inv X pins σ H s)(r:RelV x v)(ty:XW X.K T x H) :
   s.TypeIs v T/\∀a,v=.ref a->∃ob,s.heap.get? a=S ob/\ob.dict=Z:=by
 cases x with
 | str z=>
   @⟨t,rfl⟩:=r
   cases(show T="str" from ty)
   #⟨typeIs_str s z t,λy e=>nomatch e⟩
 | int i=>
   @⟨t,rfl⟩:=r
   cases(show T="int" from ty)
   #⟨typeIs_int s i t,λy e=>nomatch e⟩
 | ref p=>
   cases r
   rcases ty with⟨rfl,xs,hq⟩|⟨rfl,o,hk,hc,hd⟩|⟨rfl,hk⟩|⟨rfl,S8,n,hk⟩
   . @⟨its,_,pl,_⟩:=I.list hq
     #⟨pl.isList.typeIs,λa e=>?_⟩
     cases e
     @⟨o,n,e,c,hd,_⟩:=pl
     #⟨o,e,hd⟩
   . #⟨⟨o,I.i6 p o hk,hc⟩,λa e=>?_⟩
     cases e
     #⟨o,I.i6 _ o hk,hd⟩
   . !z:∃o,s.heap.get? p=S o/\o.ExactDict:=by
       rcases hk with⟨kvs,hk⟩|⟨kvs,hk⟩
       . @⟨_,_,_,_,o,_,_,e,ex,_⟩:=I.hok p _ hk
         #⟨o,e,ex⟩
       . @⟨_,_,_,_,o,_,_,e,ex,_⟩:=I.hok p _ hk
         #⟨o,e,ex⟩
     @⟨o,e,ex⟩:=z
     #⟨⟨o,e,ex.1⟩,λa e2=>?_⟩
     cases e2
     #⟨o,e,ex.2.1⟩
   . @⟨o,_,_,_,e,ex,_⟩:=I.hok p _ hk
     #⟨⟨o,e,ex.1⟩,λa e2=>?_⟩
     cases e2
     #⟨o,e,ex.2.1⟩
 | _=>#aeS ty
def LL (K:ad2)(T:String)(r:V->O V->Hp->VK->Prop)(to:TE)(t:TA):TE:=λσ H Q=>to σ H λx H1=>XW K T x H1/\t σ H1 λxs H2=>r x xs H2 Q
variable{o e:Expr}{es:O Expr}{to:TE}{t:TA}{name:Str}{apos cpos:Pos}{T id:String}{r:V->O V->Hp->VK->Prop}
def G8 (pa:PlainAttrs T)(slot:Slot T name id)(hty:typeOf (.builtin id)=pure (.type "method_descriptor"))(hm:Qy X id r)(ho:PE X o to)(ha:PA X (e::es) t)
   (hbase:afd o name X.env (eval o X.env)=eval o X.env:=by rfl)
   (hfew:((backTo cpos (starEach (e::es) X.env)).all (λx=>!x.1)&&(backToKw cpos (keywordEach [] X.env)).all (λx=>x.1.isSome)
     && decide ((e::es)~+([]:O Keyword)~+(if([]:O Keyword).isEmpty then 0 else 1)<30))=true:=by rfl)
   (hline:(apos.endLine==cpos.line)=true:=by rfl) (hs:starEach (e::es) X.env=(false,eval e X.env)::starEach es X.env:=by rfl) (hplain:(backTo cpos (starEach es X.env)).any (·.1)=false:=by rfl) :
   PE X (.Call (.Attribute o name apos) (e::es) [] cpos) (LL X.K T r to t):=by
 intro pins s σ H Q I h
 #wpAny_Call_method_late hbase hfew hline rfl (bH (ho pins s σ H _ I h) λv s1 h9=>?_)
 @⟨x,H1,I1,r1,ty,q1⟩:=h9
 @⟨h1,h2⟩:=LQ I1 r1 ty
 #⟨T,id,pa,slot,hty,h1,h2,?_⟩
 !hA:=ha cpos pins s1 σ H1 _ I1 q1
 rw[hs]at hA ⊢
 #agA (by change(false || (backTo cpos (starEach es X.env)).any (·.1))=false;rw[hplain]<;>rfl) (afX ?_)
 #bH hA λus s2 h9=>?_
 @⟨vs,H2,I2,r2,q2⟩:=h9
 #hm pins s2 σ H2 x vs v us Q I2 r1 r2 q2
end
def RK (X:Cx)(id:String)(r:V->O V->Hp->VK->Prop):Prop:=
 ∀(pins:O (J×Obj)) (s:Shared) (σ:St) (H:Hp) (x:V) (xs:O V) (v:Value) (us:O Value) (Q:VK),Inv X pins σ H s->RelV x v->Vals xs us->r x xs H Q ->
   wpAny (model X.prog X.w) X.A (call (.builtin id) (v::us)) (EP X pins σ Q) X.xe s
def Vals.one:∀{x:V} {us:O Value},Vals [x] us->∃u,us=[u]/\RelV x u:=by
 intro x us h
 cases h with
 | cons r h=>cases h;#⟨_,rfl,r⟩
def Vals.two:∀{x y:V} {us:O Value},Vals [x,y] us->∃u v,us=[u,v]/\RelV x u/\RelV y v:=by
 intro x y us h
 cases h with
 | cons r h=>cases h with
   | cons q h=>cases h;#⟨_,_,rfl,r,q⟩
theorem Vals.eraseIdx:∀{xs:O V} {us:O Value} (i:Nat),Vals xs us->Vals (xs.eraseIdx i) (us.eraseIdx i)
 | _,_,_,.nil=>.nil
 | _,_,0,.cons _ t=>t
 | _,_,i+1,.cons r t=>.cons r (Vals.eraseIdx i t)
theorem Vals.reverse {xs:O V}{us:O Value}(h:Vals xs us):Vals xs.reverse us.reverse:=by
 induction h with
 | nil=>#.nil
 | cons r t ih=>rw[afK,afK];#Vals.append ih (.cons r .nil)
theorem Vals.rep {xs:O V}{us:O Value}(h:Vals xs us):∀k:Nat,Vals (aev k xs).flatten (aev k us).flatten
 | 0=>.nil
 | k+1=>by
   rw[afm,afm,afL,afL]
   #Vals.append h (Vals.rep h k)
theorem oj {α:Type}:∀(l:O α) (i:Nat),(l.eraseIdx i)~<=l~
 | [],_=>ad5 _
 | _::_,0=>Nat.le_succ _
 | _::r,i+1=>Nat.succ_le_succ (oj r i)
theorem foldl_rep (its:O Value):∀(k:Nat) (acc:O Value),
   List.foldl (λx1 x2=>x1++x2) acc.toArray (aev k its.toArray)=(acc++(aev k its).flatten).toArray
 | 0,acc=>by simp
 | k+1,acc=>by
   !e:acc.toArray++its.toArray=(acc++its).toArray:=by simp
   !e2:(acc++its)++(aev k its).flatten=acc++(aev (k+1) its).flatten:=by
     rw[afm,afL,afN]
   rw[← e2,← foldl_rep its k (acc++its),← e,afm,List.foldl_cons]
section
variable{X:Cx}{pins:O (J×Obj)}{σ:St}{H:Hp}{s:Shared}{l b:J}{xs ys zs:O V}
def Inv.JN {its its':O Value}{n:Nat}{f:Array Value->Array Value}{t':Nat}(I:Inv X pins σ H s)(hH:H l=S (.lst xs))
   (e:s.heap.get? l=S {cls:=.type "list",data:=.seq its.toArray n}) (hf:f its.toArray=its'.toArray) (hv:Vals ys its') (hz:ys~<=sizeLine) :
   Inv X pins σ (upd H l (.lst ys)) {s with heap:=s.heap.update l (agM f),toks:=t'}:=by
 !q:=PySem.IsL.update e f
 rw[hf]at q
 #I.write (x:=l) (e:=l) (by rw[hH];#trivial) (.inl rfl) (λb' u hb hu=>(ah4 s.heap (agM f) (Ne.symm hb)).trans hu) ⟨_,q⟩ ?_
 #⟨hz,its',_,hv,q⟩
def Inv.Ol {its:O Value}{t':Nat}(I:Inv X pins σ H s)(hv:Vals ys its)(hz:ys~<=sizeLine) :
   Inv X pins σ (upd H s.heap.objs.size (.lst ys)) {s with heap:=s.heap.push {cls:=.type "list",data:=.seq its.toArray},toks:=t'}:=
 I.laid (λz z q=>ad6 _ q) (ad5 _) ⟨hz,its,0,hv,aeq _ rfl⟩
def Inv.fresh (I:Inv X pins σ H s):H s.heap.objs.size=Z:=I.hok.fresh (ad5 _)
def Inv.xK (I:Inv X pins σ H s)(hH:H l=S (.lst xs)):xs~<=sizeLine/\∃(its:O Value) (n:Nat),Vals xs its/\xs~=its~/\s.heap.get? l=S {cls:=.type "list",data:=.seq its.toArray n}:=by
 @⟨z,its,n,r,e⟩:=I.hok l _ hH
 #⟨z,its,n,r,r~,e⟩
def AA {n:Nat}(h:n<=sizeLine):af1 n=false:=by
 unfold af1
 #mW (by lia)
end
section
variable{X:Cx}
def vP:V->O V->Hp->VK->Prop:=λx vs H Q=>∃l xs y,x=.ref l/\vs=[y]/\H l=S (.lst xs)/\xs~<sizeLine/\Q .bA (upd H l (.lst (xs++[y])))
def oo:RK X "list.append" vP:=by
 intro pins s σ H x vs v us Q I rx rv h
 @⟨l,xs,y,rfl,rfl,hH,hz,q⟩:=h
 cases rx
 @⟨u,rfl,ru⟩:=rv.one
 @⟨z,its,n,r,hl,e⟩:=I.xK hH
 #call_meets F.slot_list_append ⟨_,e,U⟩ F.entry_list_append (F.args_list_append_2 _ _) (PySem.list_append l its.toArray n u (by rw[aek];lia)) ⟨e,?_⟩
 #⟨.bA,_,I.JN (its':=its++[u]) hH e (by simp) (r.append (.cons ru .nil)) ?_,U,q⟩
 rw[ad7,aid]
 lia
def Bl:V->O V->Hp->VK->Prop:=λx vs H Q=>∃l xs i k y,x=.ref l/\vs=[.int i]/\H l=S (.lst xs)/\-(2^63)<=i/\i<2^63/\seqIndex? i xs~=S k/\xs[k]?=S y/\Q y (upd H l (.lst (xs.eraseIdx k)))
def Am:RK X "list.pop" Bl:=by
 intro pins s σ H x vs v us Q I rx rv h
 @⟨l,xs,i,k,y,rfl,rfl,hH,h1,h2,hk,hy,q⟩:=h
 cases rx
 @⟨u,rfl,ru⟩:=rv.one
 @⟨t,rfl⟩:=ru
 @⟨z,its,n,r,hl,e⟩:=I.xK hH
 @⟨w,hw,rw'⟩:=r.get hy
 #call_meets F.slot_list_pop ⟨_,e,U⟩ F.entry_list_pop (F.args_list_pop_2 _ _)
   (MeetsSeq.list_pop_at l its.toArray n i t k w (fitsIndex_both h1 h2) (by rw[aek,← hl];#hk) (by rw[← ah6];#hw) (by rw[aek];lia)) ⟨e,?_⟩
 #⟨y,_,I.JN (its':=its.eraseIdx k) hH e ?_ (r.eraseIdx k) ?_,rw',q⟩
 . change its.toArray.eraseIdxIfInBounds k=(its.eraseIdx k).toArray
   rw[List.eraseIdxIfInBounds_toArray]
 . !:=oj xs k
   lia
def Pa:R2:=λx y H Q=>∃l b xs zs,x=.ref l/\y=.ref b/\H l=S (.lst xs)/\H b=S (.lst zs)/\xs~+zs~<=sizeLine/\∀p,H p=Z->Q (.ref p) (upd H p (.lst (xs++zs)))
def Kn:jb X (binaryOp .Add) Pa:=by
 intro pins s σ H x y v u Q I rx ry h
 @⟨l,b,xs,zs,rfl,rfl,hH,hB,hz,q⟩:=h
 cases rx
 cases ry
 @⟨z,its,n,r,hl,e⟩:=I.xK hH
 @⟨z2,jD,n2,r2,hl2,e2⟩:=I.xK hB
 #PySem.P.add_list e e2 ?_ (by rw[aek,aek];lia)
 !ea:its.toArray++jD.toArray=(its++jD).toArray:=by simp
 rw[ea]
 #⟨.ref _,_,I.Ol (t':=s.toks) (r.append r2) (by rw[ad7];lia),U,q _ I.fresh⟩
def Ph:R2:=λx y H Q=>∃l k xs,x=.ref l/\y=.int k/\H l=S (.lst xs)/\-(2^63)<=k/\k<2^63/\xs~*k.toNat<=sizeLine /\
 ∀p,H p=Z->Q (.ref p) (upd H p (.lst (aev k.toNat xs).flatten))
def len_rep {α:Type}(xs:O α)(k:Nat):(aev k xs).flatten.length=k*xs~:=by
 induction k with
 | zero=>simp
 | succ k ih=>rw[afm,afL,ad7,ih,afV,air]
def Kv:jb X (binaryOp .Mult) Ph:=by
 intro pins s σ H x y v u Q I rx ry h
 @⟨l,k,xs,rfl,rfl,hH,h1,h2,hz,q⟩:=h
 cases rx
 @⟨t,rfl⟩:=ry
 @⟨z,its,n,r,hl,e⟩:=I.xK hH
 !hlen:its.toArray.size*k.toNat<=sizeLine:=by rw[aek,← hl];#hz
 !hcap:¬ its.toArray.size*k.toNat > (2^63-1)/8:=by
   !:(sizeLine:Nat)<=(2^63-1)/8:=by left
   lia
 !Tb:¬ (!afp k)=true:=by
   rw[fitsIndex_both h1 h2]
   #ael
 !NS:¬ af1 (its.toArray.size*k.toNat)=true:=by
   rw[AA hlen]
   #ael
 !qS:List.foldl (λx1 x2=>x1++x2) #[] (aev (if its.toArray.isEmpty=true then 0 else k.toNat) its.toArray)=(aev k.toNat its).flatten.toArray:=by
   !f0:∀m:Nat,List.foldl (λx1 x2=>x1++x2) #[] (aev m its.toArray)=(aev m its).flatten.toArray:=λm=>by
     !:=foldl_rep its m []
     rw[ahx]at this
     #this
   rw[f0]
   cases its with
   | nil=>simp
   | cons a r'=>rw[aM (by simp)]
 #wpAny_binaryOp_repeat_ref (T:="list") (U:="int") (by left) ⟨_,e,U⟩ (λs'=>typeIs_int s' k t) noFill_list_mul F.fills_int_mul F.slot_int_rmul repeat_list F.slot_int_index.lookup
   (call_meets F.slot_int_rmul (typeIs_int s k t) F.entry_int_rmul (F.args_int_rmul_2 _ _) (int___rmul___int_list k t l its.toArray n)
     ⟨e,rfl,⟨_,e,rfl⟩,call_meets F.slot_list_mul ⟨_,e,rfl⟩ F.entry_list_mul (F.args_list_mul_2 _ _) (AutoListH.list___mul___list_int_3 l its.toArray n k t Tb hcap NS) ⟨e,?_⟩⟩)
 rw[qS]
 #⟨.ref _,_,I.Ol (t':=s.toks) (r.rep k.toNat) (by rw[len_rep,agh];#hz),U,q _ I.fresh⟩
end
end L2
namespace VU
open PySem PySem.W PySem.Calls PyProof.Rows
def kU {P:Params}{h:Heap}:∀(ns:O Int) (vs:O Value),WellAll P h vs (ns.map WData.int)->IntsAre vs ns:=by
 intro ns
 induction ns with
 | nil=>
   intro vs w
   rw[aic]at w
   cases w
   #.nil
 | cons n ns ih=>
   intro vs w
   rw[aeN]at w
   cases w with
   | cons a b=>
     cases a
     #.cons _ _ (ih _ b)
def yu {l:OpenLaw}{n:Nat}(hn:l.most=S n){P:Params}{h:Heap}{args:O WData}{vals:O Value}
   (hpre:l.row.toRowW.claim.pre args=true) (hwl:WellAll P h vals args) :
   ∃a vs ns,vals=[aen a]/\args=[WData.list (ns.map WData.int)]/\h.get? a=S {cls:=.type "list",data:=.seq vs.toArray}/\IntsAre vs ns/\ns~<=n:=by
 !WQ:WShape.hasAll [] args [.list .int]=true:=(pre_splitW hpre).1
 !hc:l.pre.holds [] {args:=args}=true:=(pre_splitW hpre).2
 @⟨d,r,rfl,h1,h2⟩:=hasAllW_cons WQ
 obtain rfl:=hasAllW_nil h2
 @⟨xs,rfl,h3⟩:=hasW_list h1
 @⟨ns,rfl⟩:=items_int h3
 !hlen:ns~<=n:=by
   unfold OpenLaw.pre at hc
   !h4:(WTm.not (.lt (.lit (.int (n:Int))) (.len (.arg 0)))).holds [] {args:=[.list (ns.map .int)]}=true:=by
     !h4:=(holds_andW hc).1
     rw[hn]at h4
     #h4
   !h5:=condW_of h4 (w_not (w_lt w_lit (w_len_list (w_arg rfl))))
   rw[ad1]at h5
   #Nat.le_of_not_lt λq=>?_
   !q':(n:Int)<((ns~:Nat):Int):=by lia
   first
     | (rw[ed q']at h5;#aw h5 (by left))
     | (simp at h5;lia)
 cases hwl with
 | cons w1 w2=>
   cases w2
   cases w1 with
   | list ho Sx=>#⟨_,_,ns,rfl,rfl,ho,kU ns _ Sx,hlen⟩
def yi (l:OpenLaw)(args:O WData):l.row.toRowW.claim.post args (.bool true) args=true:=
 postW_of (r:=l.row.toRowW) (X:=(true==true))
   (show WShape.has [] (.bool true) .bool=true by first|rfl|decide|simp[WShape.has,WShape.arms,WShape.armsAll])
   (show(WTm.eq .res (.lit (.bool true))).value [] {args:=args,res:=S (.bool true),after:=args}=S (.bool (true==true))from w_eq_bool (w_res rfl) w_lit) rfl
def qy {l:OpenLaw}{n:Nat}{q:Program}{loose:O Str}{XP:(Str->Option Value)->Heap->Prop}{YP:World->Heap->Prop}{d:DefRec}
   (hn:l.most=S n) (hdf:d.params.defaults=[])
   (call:∀(w:World) (s₀ s₁:Shared) (mg mb:Str->Option Value) (fa:J) (o:Obj) (pm cd doc:Value) (a:J) (vs:O Value) (ns:O Int),
     Ground q loose [] XP w s₀ mg mb s₁.heap->YP w s₁.heap ->
     s₁.heap.get? fa=S o->o.data=.func (docDef d.name d.params d.body d.scope pm cd doc)->s₁.heap.CodeRec cd d.name->mg d.name=S (.ref fa) ->
     s₁.heap.get? a=S {cls:=.type "list",data:=.seq vs.toArray}->IntsAre vs ns->ns~<=n->s₁.gens=#[] ->
     codeAny (model l.prog w) callerA (.call (.ref fa) ⟨[.ref a],[]⟩) (λr s'=>r=.ok (.ret (.bool true))/\OldK s₁.heap s'.heap/\s'.os=s₁.os/\AllBare s'.gens) s₁) :
   WalkO q loose XP YP l.row.toRowW d [] (λf vs=>PySem.call f vs):=by
 intro w s₀ s₁ mg mb G Y8 fa o pm cd doc dV kV ho hd hcd hD hmg hg args vals as hpre aay hrd hwl hlo
 obtain rfl:dV=.none:=Dflts.none hD hdf
 obtain rfl:kV=.none:=Dflts.noKw hD
 @⟨a,vs,ns,rfl,rfl,Jp,hints,hlen⟩:=yu hn hpre hwl
 #enter_call (codeAny_mono (call w s₀ s₁ mg mb fa o pm cd doc a vs ns G Y8 ho (fd_plain hd) hcd hmg Jp hints hlen hg) λr s' hq=>?_)
 @⟨rfl,h2,h3,h4⟩:=hq
 #⟨.inl ⟨.bool true,.bool true,[],U,λz=>rfl,.bool true,yi l _,λz=>⟨ahJ,λz hm=>(nomatch hm)⟩⟩,h2,h3,h4⟩
end VU
namespace L2
open PySem PySem.Spec PyProof.Rows
theorem oK:∀{vs:O Value} {ns:O Int},IntsAre vs ns->Vals (ns.map V.int) vs
 | _,_,.nil=>.nil
 | _,_,.cons n t h=>.cons ⟨t,rfl⟩ (oK h)
def IE (H:Hp):Prop:=∀b,H b=Z\/∃o xs,H b=S (.frz o (.lst xs))
def Ah {P:Program}{w:World}{K:ad2}{mg mb:Str->Option Value}{CX:sr}{k:Nat}{fa a:J}{fd:aef}{x:Str}{sp:Sp}{s₁:Shared}{vs:O Value}{ns:O Int}
   (KX:K.In s₁.heap) (hns:s₁.heap.Ns aeZ mg) (hb:s₁.heap.Ns builtinsNs mb) (hbb:∀x:Str,x≠"__name__"->mb x=aeT x) (hlim:s₁.heap.NoLimit) (hg:s₁.gens=#[])
   (ha:s₁.heap.get? a=S {cls:=.type "list",data:=.seq vs.toArray}) (hi:IntsAre vs ns) (hl:ns~<=sizeLine) (hr:cG k callerA)
   (F:∀base:Heap,K.In base->base.Ns aeZ mg->aL P w K mg base CX k fa fd [x] sp) (hbind:∀(s:Shared) (u:Value),BindsTo s fd ⟨[u],[]⟩ [(x,u)])
   (hsp:∀H:Hp,IE H->aB K H a (ns.map V.int)->sp [.ref a] H (λv y=>v=.bl true) λy y y=>False)
   (hCX:∀H e s',CX [] H s₁ (λy y y=>False) e s'->False) :
   codeAny (model P w) callerA (.call (.ref fa) ⟨[.ref a],[]⟩) (λr s'=>r=.ok (.ret (.bool true))/\OldK s₁.heap s'.heap/\s'.os=s₁.os/\AllBare s'.gens) s₁:=by
 !rv:=oK hi
 !UX:=hi~
 !core:∀H:Hp,IE H->aB K H a (ns.map V.int)->iU P w H s₁.heap->(∀b,H b≠Z->b=a)->(H a≠Z->K.lookup a=Z) ->
     codeAny (model P w) callerA (.call (.ref fa) ⟨[.ref a],[]⟩) (λr s'=>r=.ok (.ret (.bool true))/\OldK s₁.heap s'.heap/\s'.os=s₁.os/\AllBare s'.gens) s₁:=by
   intro H hO hS hok hA hK
   !vc:∀{b:J} {o:Obj},s₁.heap.get? b=S o->H b=Z->(pj s₁.heap H).get? b=S o:=λe n=>zT e n
   !noA:∀{b:J} {o:Obj} {es:Array DictEntry} {ep:Nat},s₁.heap.get? b=S o->o.data=.dict es ep->H b=Z:=λ{b o es ep} e d=>by
     cases q:H b with
     | none=>rfl
     | some u=>
       have e':b=a:=hA b (by rw[q];simp)
       subst e'
       rw[ha]at e;cases e
       !d':Data.seq vs.toArray _=Data.dict es ep:=d
       cases d'
   !nsK:∀{b:J} {m:Str->Option Value},s₁.heap.Ns b m->(pj s₁.heap H).Ns b m:=λ{b m} ⟨o,es,ep,e,d,r⟩=>⟨o,es,ep,vc e (noA e d),d,r⟩
   !Wv:K.In (pj s₁.heap H):=λb o e=>vc (KX b o e) (by
     cases q:H b with
     | none=>rfl
     | some u=>
       have e':b=a:=hA b (by rw[q];simp)
       subst e'
       rw[hK (by rw[q];simp)]at e;cases e)
   !hM:Mod K mg (pj s₁.heap H):=⟨Wv,nsK hns,⟨mb,nsK hb,hbb⟩,let⟨mc,h1,h2⟩:=hlim;⟨mc,nsK h1,h2⟩⟩
   !e0:oN P w K mg (pj s₁.heap H) callerA [] s₁ H:=⟨rfl,hM,λb o e=>Ey e,Nat.le_of_eq (xA _ _),trivial,λb hb=>aw (show b∈([]:O J)from hb) (by simp),hok,.of_eq hg⟩
   #codeAny_mono ((F _ Wv (nsK hns)).run callerA [] s₁ H ⟨[.ref a],[]⟩ [.ref a] [.ref a] _ _ hr e0 (hbind s₁ (.ref a)) (.cons rfl .nil) (hsp H hO hS)) λr s' h=>?_
   cases r with
   | error e=>#(hCX H e s' h).elim
   | ok fl=>
     cases fl with
     | next=>#aeS h
     | brk=>#aeS h
     | cont=>#aeS h
     | ret u=>
       @⟨v,H',os,bare,un,T2,r',q⟩:=h
       !q':v=.bl true:=q
       subst q'
       obtain rfl:u=afI true:=r'
       #⟨U,OldK.of_keep λb o e=>?_,os,bare⟩
       cases q:H b with
       | none=>#un.keep b o e q (by intro z;#aw (show b∈([]:O J)from z) (by simp)) (by simp)
       | some u=>
         rcases hO b with z|⟨ob,xs,z⟩
         . rw[q]at z;cases z
         . !z2:=un.frzs b ob _ z
           @⟨e1,_⟩:=hok b _ z
           @⟨e2,_⟩:=T2 b _ z2
           rw[e]at e1;cases e1
           #e2
 cases hk:K.lookup a with
 | some o=>
   have e:=KX a o hk
   rw[ha]at e
   cases e
   #core (λy=>Z) (λy=>.inl rfl) (.inr ⟨_,vs.toArray,_,hk,U,U,U,by rw[aek,UX];show hl,by simpa using rv⟩) (λb u z=>by !z':(Z:Option HO)=S u:=z;cases z') (λb z=>aw rfl z) λz=>aw rfl z
 | none=>
   #core (λb=>if b=a then S (.frz {cls:=.type "list",data:=.seq vs.toArray} (.lst (ns.map V.int)))else Z) (λb=>?_) (.inl (.inr ⟨{cls:=.type "list",data:=.seq vs.toArray},aR rfl⟩)) (λb u z=>?_) (λb z=>?_) λy=>hk
   . by_cases hb:b=a
     . #.inr ⟨_,_,aR hb⟩
     . #.inl (aM hb)
   . by_cases hb:b=a
     . !z':=(aR hb).symm.trans z
       cases z'
       subst hb
       #⟨ha,by rw[ad1];#hl,vs,_,rv,ha⟩
     . !z':=(aM hb).symm.trans z
       cases z'
   . by_cases hb:b=a
     . #hb
     . #aw (aM hb) z
def Gb {l:PySem.W.OpenLaw}{n k:Nat}{q:Program}{loose:O Str}{XP:(Str->Option Value)->Heap->Prop}{YP:World->Heap->Prop}{d:DefRec}{K:Params->ad2}{CX:World->sr}{sp:World->Sp}{x:Str}
   (hn:l.most=S n) (hn2:n<=sizeLine) (hdf:d.params.defaults=[]) (hr:cG k callerA)
   (hY:∀(w:World) (h:Heap),YP w h->(K w.params).In h)
   (F:∀(w:World) (mg:Str->Option Value) (fa:J) (h:Heap),(K w.params).In h->h.Ns aeZ mg->mg d.name=S (.ref fa) ->
     ∃fd:aef,(∀(s:Shared) (u:Value),BindsTo s fd ⟨[u],[]⟩ [(x,u)]) /\
       ∀base:Heap,(K w.params).In base->base.Ns aeZ mg->aL l.prog w (K w.params) mg base (CX w) k fa fd [x] (sp w))
   (hsp:∀(w:World) (H:Hp) (a:J) (ns:O Int),ns~<=n->IE H->aB (K w.params) H a (ns.map V.int)->sp w [.ref a] H (λv z=>v=.bl true) λz z z=>False)
   (hCX:∀(w:World) (H:Hp) (s:Shared) (e:Value) (s':Shared),CX w [] H s (λz z z=>False) e s'->False) :
   PySem.W.WalkO q loose XP YP l.row.toRowW d [] (λf vs=>PySem.call f vs):=by
 #VU.qy hn hdf λw s₀ s₁ mg mb fa o pm cd doc a vs ns G Y8 ho hd hcd hmg Jp hints hlen hg=>?_
 !KX:=hY w _ Y8
 @⟨fd,hb,hF⟩:=F w mg fa _ KX G.T.g hmg
 #Ah KX G.T.g G.T.b G.T.builtins G.T.nolimit hg Jp hints (aeg hlen hn2) hr hF hb (λH hO hS=>hsp w H a ns hlen hO hS) λH e s'=>hCX w H s₁ e s'
def dU (s:Stmt):Arguments:=match s with
 | .FunctionDef _ a _ _ _ _ _ _ _ _=>a
 | _=>{posonlyargs:=[],args:=[],vararg:=Z,kwonlyargs:=[],kw_defaults:=[],kwarg:=Z,defaults:=[]}
def cp (s:Stmt):O Stmt:=match s with
 | .FunctionDef _ _ b _ _ _ _ _ _ _=>b
 | _=>[]
def ao (s:Stmt):Scope:=match s with
 | .FunctionDef _ _ _ _ _ _ sc _ _ _=>sc
 | _=>{kind:=.function,names:=[],isGenerator:=false,isCoroutine:=false}
abbrev cm:sr:=λ_ _ _ _ _ _=>False
abbrev E0:XK:=λ_ _ _=>False
def rp {X:Cx}:Passes cm X E0:=λz z z z z z z h=>h.elim
structure cF (K:ad2)(x qual:Str)(st:Stmt)(f:J)(fd:aef):Prop where
 ex:∃(oc:Value) (od:Option J) (kV doc pm:Value) (an:Option J) (cdv ct:Value) (osl:Array (Option Value)),
   fd=ae5 x qual (dU st) (cp st) (ao st) .none kV doc pm an cdv ct/\K.lookup f=S ⟨oc,od,.func fd,osl⟩/\afH K cdv qual=true
 kp:aeV K (.ref f)=true
section
variable{P:Program}{w:World}{K:ad2}{mg:Str->Option Value}{base:Heap}
def cF.ok {x qual:Str}{st:Stmt}{f:J}{fd:aef}{N ps:O Str}{k:Nat}{sp:Sp}(F:cF K x qual st f fd)(S8:aA N ps (ao st))(len:∀vs H Q E,sp vs H Q E->vs~=ps~)
   (hbody:∀(cdv:Value) (A:Around) (outer:O Env) (s:Shared) (H:Hp) (vs:O V) (Q:VK) (E:XK),cG k (A.deeper (envOfC qual (ao st) s.heap.objs.size f cdv))->sp vs H Q E ->
     ∃t,mV (gM cm P w K mg base N qual (ao st) f cdv A outer s H E).Er (cp st) t/\t {nx:=λz H'=>Q .bA H',rt:=Q} (start N vs) H):aL P w K mg base cm (k+1) f fd ps sp:=by
 @⟨oc,od,kV,doc,pm,an,cdv,ct,osl,rfl,lk,hcd⟩:=F.ex
 #zA lk hcd S8 len λA outer s H vs Q E hr hsp=>?_
 @⟨t,h,q⟩:=hbody cdv A outer s H vs Q E hr hsp
 #⟨t,h.Er,q⟩
def cF.eO {x qual:Str}{st:Stmt}{f:J}{fd:aef}{N ps:O Str}{k:Nat}{sp:Sp}(F:cF K x qual st f fd)(S8:aA N ps (ao st))(hbody:∀(cdv:Value) (A:Around) (outer:O Env) (s:Shared) (H:Hp) (vs:O V) (Q:VK) (E:XK),cG k (A.deeper (envOfC qual (ao st) s.heap.objs.size f cdv))->sp vs H Q E->∃t,mV (gM cm P w K mg base N qual (ao st) f cdv A outer s H E).Er (cp st) t/\t {nx:=λz H'=>Q .bA H',rt:=Q} (start N vs) H)(len:∀vs H Q E,sp vs H Q E->vs~=ps~:=by intro vs H Q E h;repeat first|(@⟨rfl,_⟩:=h;rfl)|@⟨_,h⟩:=h):aL P w K mg base cm (k+1) f fd ps sp:=F.ok S8 len hbody
def cF.binds {x qual:Str}{st:Stmt}{f:J}{fd:aef}{ps:O Str}(F:cF K x qual st f fd)
   (h:∀(kV doc pm:Value) (an:Option J) (cdv ct:Value) (us:O Value),us~=ps~->ahS (ae5 x qual (dU st) (cp st) (ao st) .none kV doc pm an cdv ct) ⟨us,[]⟩=pure (ps.zip us)):Binds K fd ps []:=by
 @⟨oc,od,kV,doc,pm,an,cdv,ct,osl,rfl,lk,hcd⟩:=F.ex
 #.all (h kV doc pm an cdv ct)
def eR {x qual:Str}{st:Stmt}{f:J}{oc:Value}{od an:Option J}{osl:Array (Option Value)}{kV doc pm cdv ct:Value}(l:K.lookup f=S ⟨oc,od,.func (ae5 x qual (dU st) (cp st) (ao st) .none kV doc pm an cdv ct),osl⟩)
   (c:afH K cdv qual=true) (k:aeV K (.ref f)=true):cF K x qual st f (ae5 x qual (dU st) (cp st) (ao st) .none kV doc pm an cdv ct):=⟨⟨oc,od,kV,doc,pm,an,cdv,ct,osl,rfl,l,c⟩,k⟩
end
def aD {n:Nat}(h:n<=1000):n<sizeLine:=Nat.lt_of_le_of_lt h (by left)
def mn {A B:Prop}(h:B):if false=true then A else B:=by
 rw[aM ael]
 #h
def nC {A B:Prop}(h:A):if true=true then A else B:=by
 rw[aR rfl]
 #h
def aC {c A B:Prop}[Decidable c](h1:c->A)(h2:¬ c->B):if c then A else B:=by
 by_cases h:c
 . rw[aR h]
   #h1 h
 . rw[aM h]
   #h2 h
def ak (H H':Hp):Prop:=∀b o,H b=S o->H' b=S o
def ak.seq {K:ad2}{H H':Hp}{a:J}{xs:O V}(e:ak H H')(h:aB K H a xs):aB K H' a xs:=by
 rcases h with(h|⟨o,h⟩)|h
 . #.inl (.inl (e _ _ h))
 . #.inl (.inr ⟨o,e _ _ h⟩)
 . #.inr h
section
variable{κ:Type}[DecidableEq κ]
def aY (kvs:O (κ×V))(k:κ):Option V:=(kvs.find? λkv=>decide (kv.1=k)).map (·.2)
def putK (kvs:O (κ×V))(k:κ)(v:V):O (κ×V):=
 if(kvs.any λkv=>decide (kv.1=k))=true then kvs.map (λkv=>if kv.1=k then(kv.1,v)else kv)else kvs++[(k,v)]
def cI {p:κ×V}{r:O (κ×V)}{k:κ}(e:p.1=k):aY (p::r) k=S p.2:=by simp[aY,afa,e]
def cu {p:κ×V}{r:O (κ×V)}{k:κ}(e:¬ p.1=k):aY (p::r) k=aY r k:=by simp[aY,afa,e]
theorem gF (k:κ):∀kvs:O (κ×V),(kvs.any λkv=>decide (kv.1=k))=(aY kvs k).isSome
 | []=>rfl
 | p::r=>by
   rw[afn]
   by_cases e:p.1=k
   . simp only[cI e,ed e,Bool.true_or,Option.isSome_some]
   . rw[cu e,mW e,ahc];#gF k r
theorem rW (k j:κ)(y:V):∀kvs:O (κ×V),aY (kvs.map λkv=>if kv.1=k then(kv.1,y)else kv) j=(aY kvs j).map λx=>if j=k then y else x
 | []=>rfl
 | p::r=>by
   !ih:=rW k j y r
   rw[aeN]
   by_cases h:p.1=k
   . rw[aR h]
     by_cases e:p.1=j
     . rw[cI (p:=(p.1,y)) e,cI e,ae6,aR (e.symm.trans h)]
     . rw[cu (p:=(p.1,y)) e,cu e,ih]
   . rw[aM h]
     by_cases e:p.1=j
     . rw[cI (p:=p) e,cI e,ae6,aM (λz=>h (e.trans z))]
     . rw[cu (p:=p) e,cu e,ih]
theorem oJ (k j:κ)(y:V):∀kvs:O (κ×V),aY kvs k=Z->aY (kvs++[(k,y)]) j=if j=k then S y else aY kvs j
 | [],_=>by
   by_cases e:k=j
   . rw[aR e.symm];#cI (p:=(k,y)) e
   . rw[aM (λz=>e z.symm)];#cu (p:=(k,y)) e
 | p::r,hn=>by
   rw[List.cons_append]
   !hk:¬ p.1=k:=λz=>by rw[cI z]at hn;cases hn
   rw[cu hk]at hn
   !ih:=oJ k j y r hn
   by_cases e:p.1=j
   . rw[cI e,cI e,aM (λz=>hk (e.trans z))]
   . rw[cu e,cu e,ih]
def ck (kvs:O (κ×V))(k j:κ)(y:V):aY (putK kvs k y) j=if j=k then S y else aY kvs j:=by
 unfold putK
 by_cases a:(kvs.any λkv=>decide (kv.1=k))=true
 . rw[aR a,rW]
   rw[gF]at a
   by_cases e:j=k
   . @⟨x,hx⟩:=Option.isSome_iff_exists.mp a
     rw[aR e,e,hx,ae6,aR rfl]
   . rw[aM e]
     cases aY kvs j with
     | none=>rfl
     | some x=>rw[ae6,aM e]
 . rw[aM a]
   #oJ k j y kvs ?_
   rw[gF]at a
   cases q:aY kvs k with
   | none=>rfl
   | some x=>rw[q]at a;#(a rfl).elim
def cj (kvs:O (κ×V))(k:κ)(v:V):(putK kvs k v)~<=kvs~+1:=by
 unfold putK
 split
 . rw[ad1];lia
 . rw[ad7,aet,List.length_nil];lia
def hV.gh {o:Option V}{u:Option Value}(r:hV o u):o.isSome=u.isSome:=by
 cases o with
 | none=>cases u with
   | none=>rfl
   | some _=>#(show False from r).elim
 | some _=>cases u with
   | none=>#(show False from r).elim
   | some _=>rfl
theorem hV.getD {o:Option V}{u:Option Value}{d:V}{d':Value}(r:hV o u)(rd:RelV d d'):RelV (o.getD d) (u.getD d'):=by
 cases o with
 | none=>cases u with
   | none=>#rd
   | some _=>#(show False from r).elim
 | some _=>cases u with
   | none=>#(show False from r).elim
   | some _=>#r
def KV.val {kvs:O (κ×V)}{vs:O (κ×Value)}(r:KV kvs vs)(k:κ):hV (aY kvs k) (valueAt vs k):=by
 unfold KV at r
 induction r with
 | nil=>#aeh
 | @cons p q ps qs h t ih=>
   @⟨h1,h2⟩:=h
   by_cases e:p.1=k
   . !e':q.1=k:=h1.symm.trans e
     !b:valueAt (q::qs) k=S q.2:=by simp[valueAt,afa,e']
     rw[cI e,b];#h2
   . !e':¬ q.1=k:=λz=>e (h1.trans z)
     !b:valueAt (q::qs) k=valueAt qs k:=by simp[valueAt,afa,e']
     rw[cu e,b];#ih
theorem KV.any {kvs:O (κ×V)}{vs:O (κ×Value)}(r:KV kvs vs)(k:κ):(kvs.any λkv=>decide (kv.1=k))=vs.any λkv=>decide (kv.1=k):=by
 unfold KV at r
 induction r with
 | nil=>rfl
 | cons h t ih=>rw[afn,afn,ih,h.1]
def KV.Lo {kvs:O (κ×V)}{vs:O (κ×Value)}(r:KV kvs vs)(k:κ){y:V}{u:Value}(ry:RelV y u) :
   KV (kvs.map λkv=>if kv.1=k then(kv.1,y)else kv) (vs.map λkv=>if kv.1=k then(kv.1,u)else kv):=by
 unfold KV at r ⊢
 induction r with
 | nil=>#.nil
 | @cons p q ps qs h t ih=>
   rw[aeN,aeN]
   #.cons ?_ ih
   @⟨h1,h2⟩:=h
   by_cases e:p.1=k
   . rw[aR e,aR (h1.symm.trans e)];#⟨h1,ry⟩
   . rw[aM e,aM (λz=>e (h1.trans z))];#⟨h1,h2⟩
def KV.put {kvs:O (κ×V)}{vs:O (κ×Value)}(r:KV kvs vs)(k:κ){y:V}{u:Value}(ry:RelV y u):KV (putK kvs k y) (stored vs k u):=by
 unfold putK stored
 rw[r.any k]
 by_cases e:(vs.any λkv=>decide (kv.1=k))=true
 . rw[aR e,aR e];#r.Lo k ry
 . rw[aM e,aM e];#Paired.snoc r ⟨rfl,ry⟩
def KV.length {kvs:O (κ×V)}{vs:O (κ×Value)}(r:KV kvs vs):kvs~=vs~:=Paired.length r
end
def jE {P:Program}{w:World}{k:Key}{u:Value}(r:RelV (kV k) u):(bc P w).is k u=true:=by
 cases k with
 | inl i=>@⟨t,e⟩:=(show ∃t,u=agl i t from r);subst e;#q8 P w i t
 | inr x=>@⟨t,e⟩:=(show ∃t,u=ahs x t from r);subst e;#q9 P w x t
theorem og {P:Program}{w:World}:∀{ks:O Key} {us:O Value},Vals (ks.map kV) us->ItemsAre (bc P w) ks us
 | [],_,r=>by rw[aic]at r;cases r;#.nil
 | k::ks,_,r=>by
   rw[aeN]at r
   cases r with
   | cons h t=>#.cons (jE h) (og t)
abbrev KT (H:Hp):O (O Key×V)->O (O Key×J×Value)->Prop:=Paired λp q=>p.1=q.1/\H q.2.1=S (.tup (p.1.map kV))/\RelV p.2 q.2.2
def KT.val {H:Hp}{kvs:O (O Key×V)}{xs:O (O Key×J×Value)}(r:KT H kvs xs)(k:O Key):hV (aY kvs k) ((atKey xs k).map (·.2)):=by
 induction r with
 | nil=>#aeh
 | @cons p q ps qs h t ih=>
   @⟨h1,_,h2⟩:=h
   by_cases e:p.1=k
   . !e':q.1=k:=h1.symm.trans e
     !b:atKey (q::qs) k=S q.2:=by simp[atKey,afa,e']
     rw[cI e,b];#h2
   . !e':¬ q.1=k:=λz=>e (h1.trans z)
     !b:atKey (q::qs) k=atKey qs k:=by simp[atKey,afa,e']
     rw[cu e,b];#ih
def KT.Lo {H:Hp}{kvs:O (O Key×V)}{xs:O (O Key×J×Value)}(r:KT H kvs xs)(k:O Key){y:V}{u:Value}(ry:RelV y u) :
   KT H (kvs.map λkv=>if kv.1=k then(kv.1,y)else kv) (xs.map (putAt k u)):=by
 induction r with
 | nil=>#.nil
 | @cons p q ps qs h t ih=>
   rw[aeN,aeN]
   #.cons ?_ ih
   @⟨h1,h2,h3⟩:=h
   unfold putAt
   by_cases e:p.1=k
   . rw[aR e,aR (h1.symm.trans e)];#⟨h1,h2,ry⟩
   . rw[aM e,aM (λz=>e (h1.trans z))];#⟨h1,h2,h3⟩
def KT.put {H:Hp}{kvs:O (O Key×V)}{xs:O (O Key×J×Value)}(r:KT H kvs xs)(k:O Key){b:J}{y:V}{u:Value}(hb:H b=S (.tup (k.map kV)))(ry:RelV y u) :
   KT H (putK kvs k y) (storedH xs k b u):=by
 !e:(kvs.any λkv=>decide (kv.1=k))=(atKey xs k).isSome:=by
   rw[gF,(r.val k).gh,ag4]
 unfold putK storedH
 rw[e]
 by_cases q:(atKey xs k).isSome=true
 . rw[aR q,aR q];#r.Lo k ry
 . rw[aM q,aM q];#Paired.snoc r ⟨rfl,hb,ry⟩
def KT.keeps {H H':Hp}{kvs:O (O Key×V)}{xs:O (O Key×J×Value)}(r:KT H kvs xs)(ht:∀b ys,H b=S (.tup ys)->H' b=S (.tup ys)):KT H' kvs xs:=
 Paired.aP r λy y z=>⟨z.1,ht _ _ z.2.1,z.2.2⟩
section
variable{P:Program}{w:World}{H:Hp}{h:Heap}{a:J}
def Hr {u:HO}(ok:iU P w H h)(e:Rd H a u):bw P w H h a u:=e.ok ok
def ma {kvs:O (Key×V)}(ok:iU P w H h)(e:Rd H a (.dK kvs)):kvs~<=sizeLine/\(a==aft)=false/\∃vs,KV kvs vs/\h.DictOf (bc P w) a vs:=
 show bw P w H h a (.dK kvs)from Hr ok e
def vp {kvs:O (Key×V)}(ok:iU P w H h)(e:H a=S (.dK kvs)):kvs~<=sizeLine/\(a==aft)=false/\∃vs,KV kvs vs/\h.DictOf (bc P w) a vs:=ma ok (.inl e)
def iz {ks:O Key}(ok:iU P w H h)(e:H a=S (.tup (ks.map kV))):(tupleKind (bc P w)).is h ks a:=by
 @⟨_,its,r,o,h1,h2,n,h3⟩:=(show bw P w H h a (.tup (ks.map kV))from ok a _ e)
 #⟨o,its.toArray,n,h1,h2,h3,by simpa using og r⟩
def md {kvs:O (O Key×V)}(ok:iU P w H h)(e:Rd H a (.dT kvs)):kvs~<=sizeLine/\(a==aft)=false /\
   ∃xs,KT H kvs xs/\h.DictOfH (tupleKind (bc P w)) a xs:=by
 @⟨z,y,xs,r,o,es,ep,h1,h2,h3,h4,h5⟩:=(show bw P w H h a (.dT kvs)from Hr ok e)
 #⟨z,y,xs,r,o,es,ep,h1,h2,h3,h4,λx hx=>?_,h5⟩
 !all:∀{l:O (O Key×V)} {m:O (O Key×J×Value)},KT H l m->∀x∈m,(tupleKind (bc P w)).is h x.1 x.2.1:=by
   intro l m q
   induction q with
   | nil=>intro x hx;#nomatch hx
   | @cons p q ps qs hq t ih=>
     intro x hx
     rcases List.mem_cons.mp hx with e|hx
     . subst e
       #iz ok (by rw[← hq.1];#hq.2.1)
     . #ih x hx
 #all r x hx
def zv {kvs:O (O Key×V)}(ok:iU P w H h)(e:H a=S (.dT kvs)):kvs~<=sizeLine/\(a==aft)=false /\
   ∃xs,KT H kvs xs/\h.DictOfH (tupleKind (bc P w)) a xs:=md ok (.inl e)
end
def dv (H:Hp)(a:J)(y:V)(r:Option V):Prop:=
 (∃kvs k,Rd H a (.dK kvs)/\y=kV k/\r=aY kvs k)\/∃kvs k b,Rd H a (.dT kvs)/\y=.ref b/\H b=S (.tup (k.map kV))/\r=aY kvs k
def ir (H:Hp)(a:J)(y v:V)(H':Hp):Prop:=
 (∃kvs k,H a=S (.dK kvs)/\y=kV k/\kvs~<sizeLine/\H'=upd H a (.dK (putK kvs k v))) \/
 ∃kvs k b,H a=S (.dT kvs)/\y=.ref b/\H b=S (.tup (k.map kV))/\kvs~<sizeLine/\H'=upd H a (.dT (putK kvs k v))
def dv.k {H:Hp}{a:J}{kvs:O (Key×V)}{k:Key}(e:H a=S (.dK kvs)):dv H a (kV k) (aY kvs k):=.inl ⟨kvs,k,.inl e,rfl,rfl⟩
def dv.t {H:Hp}{a b:J}{kvs:O (O Key×V)}{k:O Key}(e:H a=S (.dT kvs))(eb:H b=S (.tup (k.map kV))):dv H a (.ref b) (aY kvs k):=.inr ⟨kvs,k,b,.inl e,rfl,eb,rfl⟩
def ir.k {H:Hp}{a:J}{kvs:O (Key×V)}{k:Key}{v:V}(e:H a=S (.dK kvs))(hl:kvs~<sizeLine):ir H a (kV k) v (upd H a (.dK (putK kvs k v))):=.inl ⟨kvs,k,e,rfl,hl,rfl⟩
def ir.t {H:Hp}{a b:J}{kvs:O (O Key×V)}{k:O Key}{v:V}(e:H a=S (.dT kvs))(eb:H b=S (.tup (k.map kV)))(hl:kvs~<sizeLine) :
   ir H a (.ref b) v (upd H a (.dT (putK kvs k v))):=.inr ⟨kvs,k,b,e,rfl,eb,hl,rfl⟩
section
variable{X:Cx}{pins:O (J×Obj)}{σ:St}{H:Hp}{s:Shared}{a:J}{y v:V}{u r:Value}{o:Option V}{A:Around}{E:Value->Shared->Prop}
def Inv.big (I:Inv X pins σ H s):aft<s.heap.objs.size:=by
 !h:aeZ<s.heap.objs.size:=(I.mod.glob.keeps I.bk).lt
 #Nat.lt_trans (by left) h
def wY {Q:Value->Shared->Prop}(hu:A.units+1<cLine)(I:Inv X pins σ H s)(g:dv H a y (S v))(ry:RelV y u)(h:∀w' s',Inv X pins σ H s'->RelV v w'->Q w' s') :
   wpAny (model X.prog X.w) A (getItem (.ref a) u) Q E s:=by
 rcases g with⟨kvs,k,e,ey,l⟩|⟨kvs,k,b,e,ey,eb,l⟩
 . subst ey
   @⟨z,hd,vs,rel,dd⟩:=ma I.hok e
   @⟨w',hw,rw'⟩:=hV.some_of (v:=v) (o:=valueAt vs k) (by rw[l];#rel.val k)
   #wpAny_getItem_of (jE ry) dd.mapOf hw (h w' _ (I.tok _) rw')
 . subst ey
   cases(show u=aen b from ry)
   @⟨z,hd,xs,rel,dd⟩:=md I.hok e
   @⟨w',hw,rw'⟩:=hV.some_of (v:=v) (o:=(atKey xs k).map (·.2)) (by rw[l];#rel.val k)
   @⟨p,hp,cy⟩:=Option.map_eq_some_iff.mp hw
   #wpAny_getItem_heap (tupleKind_room_in1 hu) (iz I.hok eb) dd hp ?_
   rw[cy]
   #h w' _ (I.tok _) rw'
def R6 {Q:Value->Shared->Prop}(hu:A.units+1<cLine)(I:Inv X pins σ H s)(g:dv H a y o)(ry:RelV y u)(h:∀s',Inv X pins σ H s'->Q (.bool o.isSome) s') :
   wpAny (model X.prog X.w) A (compareOp .In u (.ref a)) Q E s:=by
 rcases g with⟨kvs,k,e,ey,l⟩|⟨kvs,k,b,e,ey,eb,l⟩
 . subst ey
   @⟨z,hd,vs,rel,dd⟩:=ma I.hok e
   #wpAny_in_of (jE ry) hd dd.mapOf ?_
   rw[← (rel.val k).gh,← l]
   #h _ (I.tok _)
 . subst ey
   cases(show u=aen b from ry)
   @⟨z,hd,xs,rel,dd⟩:=md I.hok e
   #wpAny_in_heap (tupleKind_room_in1 hu) (iz I.hok eb) hd dd ?_
   !q:=(rel.val k).gh
   rw[ag4]at q
   rw[← q,← l]
   #h _ (I.tok _)
def DD {Q:Value->Shared->Prop}(hu:A.units+1<cLine)(I:Inv X pins σ H s)(g:dv H a y o)(ry:RelV y u)(h:∀s',Inv X pins σ H s'->Q (.bool (!o.isSome)) s') :
   wpAny (model X.prog X.w) A (compareOp .NotIn u (.ref a)) Q E s:=by
 rcases g with⟨kvs,k,e,ey,l⟩|⟨kvs,k,b,e,ey,eb,l⟩
 . subst ey
   @⟨z,hd,vs,rel,dd⟩:=ma I.hok e
   #wpAny_notIn_of (jE ry) hd dd.mapOf ?_
   rw[← (rel.val k).gh,← l]
   #h _ (I.tok _)
 . subst ey
   cases(show u=aen b from ry)
   @⟨z,hd,xs,rel,dd⟩:=md I.hok e
   #wpAny_notIn_heap (tupleKind_room_in1 hu) (iz I.hok eb) hd dd ?_
   !q:=(rel.val k).gh
   rw[ag4]at q
   rw[← q,← l]
   #h _ (I.tok _)
def gN {h':Heap}{t':Nat}{ob:HO}(I:Inv X pins σ H s)(mu:MV (H a))(hs:ae7 a s.heap h')(he:∃q,h'.get? a=S q)(new:bw X.prog X.w (upd H a ob) h' a ob) :
   Inv X pins σ (upd H a ob) {s with heap:=h',toks:=t'}:=
 I.write (x:=a) (e:=a) mu (.inl rfl) (λb q hb z=>(hs.2 b hb).trans z) he new
def oY {P:Program}{w:World}{H':Hp}{h':Heap}{kvs:O (Key×V)}{vs:O (Key×Value)}(z:kvs~<=sizeLine)(hd:(a==aft)=false)(rel:KV kvs vs)(dd:h'.DictOf (bc P w) a vs) :
   bw P w H' h' a (.dK kvs):=⟨z,hd,vs,rel,dd⟩
def wZ {H':Hp}{Q:Unit->Shared->Prop}(hu:A.units+1<cLine)(I:Inv X pins σ H s)(g:ir H a y v H')(ry:RelV y u)(rv:RelV v r)(h:∀s',Inv X pins σ H' s'->Q () s') :
   wpAny (model X.prog X.w) A (setItem (.ref a) u r) Q E s:=by
 rcases g with⟨kvs,k,e,ey,l,eH⟩|⟨kvs,k,b,e,ey,eb,l,eH⟩
 . subst ey eH
   @⟨z,hd,vs,rel,dd⟩:=vp I.hok e
   !hz:vs~<=sizeLine:=by rw[← rel~];#z
   !hl:(putK kvs k v)~<=sizeLine:=by !:=cj kvs k v;lia
   #wpAny_setItem_pairs (hsz:=hz) (jE ry) dd λh' oX hs=>h _ ?_
   !he:∃q,h'.get? a=S q:=by@⟨q,_,_,hq,_⟩:=oX;#⟨q,hq⟩
   #gN I (by rw[e];#aeh) hs he (oY hl hd (rel.put k rv) oX)
 . subst ey eH
   cases(show u=aen b from ry)
   @⟨z,hd,xs,rel,dd⟩:=zv I.hok e
   !hz:xs~<=sizeLine:=by rw[← Paired.length rel];#z
   !hl:(putK kvs k v)~<=sizeLine:=by !:=cj kvs k v;lia
   #wpAny_setItem_heap (hsz:=hz) (tupleKind_room_in1 hu) (iz I.hok eb) dd λh' oX hs=>h _ ?_
   @⟨q,es,ep,hq,h2,h3,h4,_,h5⟩:=oX
   #gN I (by rw[e];#aeh) hs ⟨q,hq⟩ ⟨hl,hd,_,(rel.put k eb rv).keeps λc ys ec=>?_,q,es,ep,hq,h2,h3,h4,h5⟩
   rw[aj (eJ ec e (λz=>nomatch z))]
   #ec
end
def ID (i:Expr):Prop:=∀ov iv,subscripted i false ov iv=operate [ov,iv] (getItem ov iv)
def F0 {prog:Program}{w:World}{A:Around}{E:Value->Shared->Prop}{s:Shared}{env:Env}{value slice:Expr}{pos:Pos}{T id:String}{Q:Value->Shared->Prop}
   (hl:ahC (.type T) "__getitem__"=pure (S (.builtin id))) (hs:ID slice)
   (h:wpAny (model prog w) A (eval value env) (λo s₁=>wpAny (model prog w) A (eval slice env) (λi s₂=>s₂.TypeIs o T/\wpAny (model prog w) A (getItem o i) Q E s₂) E s₁) E s) :
   wpAny (model prog w) A (eval (.Subscript value slice pos) env) Q E s:=by
 #ahE (wpAny_mono h (λo s₁ h₁=>wpAny_mono h₁ (λi s₂ h₂=>?_) λz z x=>x) λz z x=>x)
 @⟨hT,h₂⟩:=h₂
 unfold subscriptTail
 #wpAny_bind ?_
 rw[getitemInPython_of_ne hT.not_modules]
 #wpAny_bind (wpAny_specialOf hT hl ?_)
 !fin:wpAny (model prog w) A (subscripted slice false o i) (λr s₃=>wpAny (model prog w) A (letTemporaryGo value o r>>=λz=>pure r) Q E s₃) E s₂:=by
   rw[hs o i]
   #wpAny_operating (wpAny_mono h₂ (λr s₃ h₃=>wpAny_bind (wpAny_letTemporaryGo (wpAny_pure h₃))) λz z x=>x)
 first
   | show wpAny_pure (wpAny_bind fin)
   | show wpAny_bind (wpAny_pure (wpAny_bind fin))
   | show wpAny_bind fin
def qJ {X:Cx}{pins:O (J×Obj)}{σ:St}{H:Hp}{s:Shared}{a:J}{y:V}{o:Option V}(I:Inv X pins σ H s)(g:dv H a y o):s.TypeIs (.ref a) "dict":=by
 rcases g with⟨kvs,k,e,_,_⟩|⟨kvs,k,b,e,_,_,_⟩
 . @⟨_,_,vs,_,dd⟩:=ma I.hok e
   #dd.typeIs
 . @⟨_,_,xs,_,dd⟩:=md I.hok e
   #dd.typeIs
def Ik (td ty:TE):TE:=λσ H Q=>td σ H λx H1=>ty σ H1 λy H2=>∃a v,x=.ref a/\dv H2 a y (S v)/\Q v H2
def P9 (ty td:TE):TE:=λσ H Q=>ty σ H λy H1=>td σ H1 λx H2=>∃a o,x=.ref a/\dv H2 a y o/\Q (.bl o.isSome) H2
def wq (ty td:TE):TE:=λσ H Q=>ty σ H λy H1=>td σ H1 λx H2=>∃a o,x=.ref a/\dv H2 a y o/\Q (.bl (!o.isSome)) H2
def HJ (td ty tv:TE):TS:=λD σ H=>tv σ H λv H1=>td σ H1 λx H2=>ty σ H2 λy H3=>∃a H4,x=.ref a/\ir H3 a y v H4/\D.nx σ H4
section
variable{X:Cx}{o i e value:Expr}{pos pos' VE:Pos}{td ty tv:TE}
def Fe (hu:X.A.units+1<cLine)(ho:PE X o td)(hi:PE X i ty)(hs:ID i):PE X (.Subscript o i pos) (Ik td ty):=by
 intro pins s σ H Q I h
 #F0 PySem.F.slot_dict_getitem.lookup hs (bH (ho pins s σ H _ I h) λu s1 g9=>?_)
 @⟨x,H1,I1,rx,q1⟩:=g9
 #bH (hi pins s1 σ H1 _ I1 q1) λiv s2 h9=>?_
 @⟨y,H2,I2,ry,a,v,ex,g,q2⟩:=h9
 subst ex
 obtain rfl:u=aen a:=rx
 #⟨qJ I2 g,wY hu I2 g ry λw' s3 I3 rw'=>⟨v,H2,I3,rw',q2⟩⟩
def KI (hu:X.A.units+1<cLine)(hi:PE X i ty)(ho:PE X o td):PC X .In i o (P9 ty td):=by
 intro pins s σ H Q I h
 #bH (hi pins s σ H _ I h) λiv s1 g9=>?_
 @⟨y,H1,I1,ry,q1⟩:=g9
 #bH (ho pins s1 σ H1 _ I1 q1) λu s2 h9=>?_
 @⟨x,H2,I2,rx,a,ov,ex,g,q2⟩:=h9
 subst ex
 obtain rfl:u=aen a:=rx
 #R6 hu I2 g ry λs3 I3=>⟨.bl ov.isSome,H2,I3,U,q2⟩
def yc (hu:X.A.units+1<cLine)(hi:PE X i ty)(ho:PE X o td):PC X .NotIn i o (wq ty td):=by
 intro pins s σ H Q I h
 #bH (hi pins s σ H _ I h) λiv s1 g9=>?_
 @⟨y,H1,I1,ry,q1⟩:=g9
 #bH (ho pins s1 σ H1 _ I1 q1) λu s2 h9=>?_
 @⟨x,H2,I2,rx,a,ov,ex,g,q2⟩:=h9
 subst ex
 obtain rfl:u=aen a:=rx
 #DD hu I2 g ry λs3 I3=>⟨.bl (!ov.isSome),H2,I3,U,q2⟩
def Fz (hu:X.A.units+1<cLine)(ho:PE X o td)(hi:PE X i ty)(hv:PE X value tv)(hs:afy value (S (.Subscript o i pos')) pos.line X.env=pure false) :
   PS X (.Assign [.Subscript o i pos'] value pos) (HJ td ty tv):=by
 intro pins s σ H D I h
 #wpAny_Assign_Subscript (bH (hv pins s σ H _ I h) λr s1 g9=>?_) hs
 @⟨v,H1,I1,rv,q1⟩:=g9
 #bH (ho pins s1 σ H1 _ I1 q1) λu s2 g9=>?_
 @⟨x,H2,I2,rx,q2⟩:=g9
 #bH (hi pins s2 σ H2 _ I2 q2) λiv s3 h9=>?_
 @⟨y,H3,I3,ry,a,H4,ex,g,q3⟩:=h9
 subst ex
 obtain rfl:u=aen a:=rx
 #wZ hu I3 g ry rv λs4 I4=>⟨σ,H4,I4,q3⟩
end
def l9 {P:Program}{w:World}{H:Hp}(h:Heap)(hb:aft<h.objs.size):bw P w H (h.push {cls:=.type "dict",data:=.dict #[]}) h.objs.size (.dK []):=
 ⟨aeG _,beq_eq_false_iff_ne.mpr (Ne.symm (aeA hb)),[],.nil,ag1 h⟩
def qK {P:Program}{w:World}{H:Hp}(h:Heap)(hb:aft<h.objs.size):bw P w H (h.push {cls:=.type "dict",data:=.dict #[]}) h.objs.size (.dT []):=
 ⟨aeG _,beq_eq_false_iff_ne.mpr (Ne.symm (aeA hb)),[],.nil,_,#[],0,aeq _ rfl,⟨rfl,rfl,rfl⟩,rfl,rfl,List.nodup_nil⟩
def Cp:TE:=λz H Q=>∀p,H p=Z->Q (.ref p) (upd H p (.dK []))
def Cq:TE:=λz H Q=>∀p,H p=Z->Q (.ref p) (upd H p (.dT []))
section
variable{X:Cx}{pos:Pos}
def Bc:PE X (.Dict [] [] pos) Cp:=λpins s σ H Q I h=>
 wpAny_Dict_empty ⟨.ref s.heap.objs.size,_,I.laid (a:=s.heap.objs.size) (o:=.dK []) (t':=s.toks) (λz z q=>ad6 _ q) (ad5 _) (l9 s.heap I.big),rfl,h _ (I.hok.fresh (ad5 _))⟩
def Bd:PE X (.Dict [] [] pos) Cq:=λpins s σ H Q I h=>
 wpAny_Dict_empty ⟨.ref s.heap.objs.size,_,I.laid (a:=s.heap.objs.size) (o:=.dT []) (t':=s.toks) (λz z q=>ad6 _ q) (ad5 _) (qK s.heap I.big),rfl,h _ (I.hok.fresh (ad5 _))⟩
end
structure M2 (X:Cx)(o:Expr)(m:Str)(apos:Pos)(e f:Expr)(cpos:Pos):Prop where
 base:afd o m X.env (eval o X.env)=eval o X.env
 fI:((backTo cpos (starEach [e,f] X.env)).all (λx=>!x.1)&&(backToKw cpos (keywordEach [] X.env)).all (λx=>x.1.isSome)
   && decide (([e,f]:O Expr)~+([]:O Keyword)~+(if([]:O Keyword).isEmpty then 0 else 1)<30))=true
 line:(apos.endLine==cpos.line)=true
 trees:backTo cpos (starEach [e,f] X.env)=[(false,eval e X.env),(false,eval f X.env)]
def RJ (H:Hp)(a:J):Prop:=(∃kvs,Rd H a (.dK kvs))\/∃kvs,Rd H a (.dT kvs)
def Ag {X:Cx}{pins:O (J×Obj)}{σ:St}{H:Hp}{s:Shared}{a:J}(I:Inv X pins σ H s)(d:RJ H a) :
   s.TypeIs (.ref a) "dict"/\(∀b,aen a=.ref b->∃ob,s.heap.get? b=S ob/\ob.dict=Z)/\(a==aft)=false:=by
 rcases d with⟨kvs,e⟩|⟨kvs,e⟩
 . @⟨_,hd,vs,_,dd⟩:=ma I.hok e
   #⟨dd.typeIs,λb q=>?_,hd⟩
   cases q
   @⟨ob,_,_,h1,h2,_⟩:=dd
   #⟨ob,h1,h2.2.1⟩
 . @⟨_,hd,xs,_,dd⟩:=md I.hok e
   #⟨dd.typeIs,λb q=>?_,hd⟩
   cases q
   @⟨ob,_,_,h1,h2,_⟩:=dd
   #⟨ob,h1,h2.2.1⟩
section
variable{X:Cx}{pins:O (J×Obj)}{σ:St}{H:Hp}{s:Shared}{a:J}{y d:V}{u r:Value}{o:Option V}{A:Around}{E:Value->Shared->Prop}
def Ja {Q:Value->Shared->Prop}(hu:A.units+1<cLine)(I:Inv X pins σ H s)(g:dv H a y o)(ry:RelV y u)(rd:RelV d r)(h:∀w' s',Inv X pins σ H s'->RelV (o.getD d) w'->Q w' s') :
   wpAny (model X.prog X.w) A (call (.builtin "dict.get") [.ref a,u,r]) Q E s:=by
 rcases g with⟨kvs,k,e,ey,l⟩|⟨kvs,k,b,e,ey,eb,l⟩
 . subst ey
   @⟨z,hd,vs,rel,dd⟩:=ma I.hok e
   #call_meetsIn agx dd.typeIs ahL (ahI _ _ _) (meets_dict_get_default (bc X.prog X.w) a (jE ry) hd r) ⟨_,dd.mapOf,h _ _ (I.tok _) ?_⟩
   rw[l]
   #(rel.val k).getD rd
 . subst ey
   cases(show u=aen b from ry)
   @⟨z,hd,xs,rel,dd⟩:=md I.hok e
   #call_meetsIn agx dd.typeIs ahL (ahI _ _ _) (meetsH_dict_get_default (tupleKind (bc X.prog X.w)) a b hd r) ⟨tupleKind_room_in1 hu,k,xs,iz I.hok eb,dd,h _ _ (I.tok _) ?_⟩
   rw[l]
   #(rel.val k).getD rd
end
def Co (td ty tx:TE):TE:=λσ H Q=>td σ H λx H1=>∃a,x=.ref a/\RJ H1 a/\ty σ H1 λy H2=>tx σ H2 λz H3=>∃o,dv H3 a y o/\Q (o.getD z) H3
section
variable{X:Cx}{o e f:Expr}{apos cpos:Pos}{td ty tx:TE}
def Bb (hu:X.A.units+1<cLine)(ho:PE X o td)(he:PE X e ty)(hf:PE X f tx)(m:M2 X o "get" apos e f cpos):PE X (.Call (.Attribute o "get" apos) [e,f] [] cpos) (Co td ty tx):=by
 intro pins s σ H Q I h
 #wpAny_Call_method m.base m.fI m.line ahH agx PySem.F.type_dict_get (bH (ho pins s σ H _ I h) λu s1 h9=>?_)
 @⟨x,H1,I1,rx,a,ex,d,q1⟩:=h9
 subst ex
 obtain rfl:u=aen a:=rx
 @⟨t1,t2,_⟩:=Ag I1 d
 #⟨t1,t2,?_⟩
 rw[m.trees]
 #agA rfl (afX (afe (bH (he pins s1 σ H1 _ I1 q1) λiv s2 ⟨y,H2,I2,ry,q2⟩=>
   afe (bH (hf pins s2 σ H2 _ I2 q2) λfv s3 ⟨z,H3,I3,rz,ov,g,q3⟩=>afJ ?_))))
 #Ja hu I3 g ry rz λw' s4 I4 rw'=>⟨_,H3,I4,rw',q3⟩
end
section
variable{κ:Type}[DecidableEq κ]
def CC {kvs:O (κ×V)}{k:κ}(h:aY kvs k=Z):¬ k∈kvs.map (·.1):=by
 intro m
 @⟨p,hp,e⟩:=List.mem_map.mp m
 !q:(kvs.any λkv=>decide (kv.1=k))=true:=List.any_eq_true.mpr ⟨p,hp,ed e⟩
 rw[gF,h]at q
 #aw q (by simp)
theorem vH:∀{l:O κ} {k:κ},l.Nodup->¬ k∈l->(l++[k]).Nodup
 | [],k,_,_=>by simp
 | a::r,k,h,hk=>by
   @⟨h1,h2⟩:=List.nodup_cons.mp h
   change(a::(r++[k])).Nodup
   #List.nodup_cons.mpr ⟨λm=>?_,vH h2 λm=>hk (List.mem_cons.mpr (Or.inr m))⟩
   rcases List.mem_append.mp m with q|q
   . #h1 q
   . #hk (List.mem_cons.mpr (Or.inl (List.mem_singleton.mp q).symm))
end
def jd (scope:Scope)(env:Env):O (Str×J):=
 (scope.names.filterMap λ(p:Str×afP)=>if p.2==.free then(env.cells.lookup p.1).map λc=>(p.1,c)else Z).reverse
theorem lZ (env:Env):∀(l:O (Str×afP)) (acc:O (Str×J)),(∀p∈l,p.2=.free->∃c,env.cells.lookup p.1=S c) ->
   (forIn l acc λ(x:Str×afP) (r:O (Str×J))=>if(x.2==aeH)=true then do let c←cellOf env x.1;pure (afA ((x.1,c)::r))else pure (afA r):Sem (O (Str×J))) =
     pure ((l.filterMap λ(p:Str×afP)=>if p.2==.free then(env.cells.lookup p.1).map λc=>(p.1,c)else Z).reverse++acc)
 | [],acc,_=>rfl
 | p::l,acc,h=>by
   !ih:=λacc=>lZ env l acc λq hq=>h q (aeU _ hq)
   rw[af7]
   by_cases hp:p.2=.free
   . @⟨c,hc⟩:=h p aeX hp
     !e:(p.2==aeH)=true:=by rw[hp];rfl
     rw[aR e]
     !ec:cellOf env p.1=pure c:=by unfold cellOf;rw[hc]
     rw[ec,afb,aR e,hc]
     change(forIn l ((p.1,c)::acc) _:Sem _)=_
     rw[ih]
     simp
   . !e:¬ (p.2==aeH)=true:=by intro z;#hp (by simpa using z)
     rw[aM e,afb,aM e]
     change(forIn l acc _:Sem _)=_
     rw[ih]
def sZ {scope:Scope}{env:Env}(h:∀p∈scope.names,p.2=.free->∃c,env.cells.lookup p.1=S c):closureFor scope env=pure (jd scope env):=by
 !e:=lZ env scope.names [] h
 rw[aeK]at e
 change((forIn scope.names [] λ(x:Str×afP) (r:O (Str×J))=>if(x.2==aeH)=true then do let c←cellOf env x.1;pure (afA ((x.1,c)::r))else pure (afA r))>>=λcs=>pure cs:Sem (O (Str×J)))=_
 rw[e]
 rfl
def sY {scope:Scope}{env:Env}{x:Str}{c:J}(h:(x,c)∈jd scope env):(x,aeH)∈scope.names/\env.cells.lookup x=S c:=by
 unfold jd at h
 @⟨p,hp,e⟩:=List.mem_filterMap.mp (List.mem_reverse.mp h)
 @⟨n,k⟩:=p
 dsimp only at e
 by_cases hk:(k==aeH)=true
 . rw[aR hk]at e
   !NQ:k=.free:=by simpa using hk
   subst NQ
   cases q:env.cells.lookup n with
   | none=>rw[q]at e;cases e
   | some c'=>rw[q]at e;cases e;#⟨hp,q⟩
 . rw[aM hk]at e;cases e
def nQ {scope:Scope}{env:Env}{x:Str}{c:J}(hm:(x,aeH)∈scope.names)(hc:env.cells.lookup x=S c):(jd scope env).lookup x=S c:=by
 !hin:(x,c)∈jd scope env:=by
   unfold jd
   #List.mem_reverse.mpr (List.mem_filterMap.mpr ⟨(x,.free),hm,?_⟩)
   simp[hc]
 cases q:(jd scope env).lookup x with
 | none=>
   have:=List.lookup_eq_none_iff.mp q (x,c) hin
   simp at this
 | some c'=>
   @⟨_,e⟩:=sY (aeP q)
   rw[hc]at e
   #e.symm
structure bR (sc:Scope)(env:Scope):Prop where
 kind:sc.kind=.function
 cell:∀y∈sc.names,y.2≠.cell
 names:∀x∈sc.names,x.2=.local->sc.names.lookup x.1=S .local
 free:∀x∈sc.names,x.2=.free->env.names.lookup x.1=S .cell\/env.names.lookup x.1=S .free
def dj (sc:Scope)(src:O (Option Nat))(N' N:O Str):Bool:=
 src~==N'.length&&(src.zip N').all λp=>match p.1 with
   | none=>true
   | some j=>N[j]?==S p.2&&sc.names.lookup p.2==S .free
def capσ (src:O (Option Nat))(σ:St):St:=src.map λo=>match o with
 | none=>Z
 | some j=>match σ[j]? with
   | some v=>v
   | none=>Z
def Dw {sc:Scope}{N N':O Str}{src:O (Option Nat)}(h:dj sc src N' N=true){i:Nat}{x:Str}{j:Nat}(h1:src[i]?=S (S j))(h2:N'[i]?=S x):N[j]?=S x/\sc.names.lookup x=S .free:=by
 unfold dj at h
 !h':=(aeI _ _▸h).2
 !hz:(src.zip N')[i]?=S (S j,x):=by rw[ahM];#⟨h1,h2⟩
 !q:=List.all_eq_true.mp h' _ (ad4 hz)
 simpa using q
def ze {sc:Scope}{N N':O Str}{src:O (Option Nat)}(h:dj sc src N' N=true):src~=N'.length:=by
 unfold dj at h
 !h':=(aeI _ _▸h).1
 simpa using h'
def eQ (X:Cx)(N':O Str)(sc:Scope)(s:Shared)(H:Hp)(C:J)(fp:O J)(xe:Value->Shared->Prop):Cx where
 prog:=X.prog
 w:=X.w
 K:=X.K
 mg:=X.mg
 base:=X.base
 A:=X.A
 N:=N'
 s₀:=s
 H₀:=H
 env:=compEnvC sc (jd sc X.env) C X.env
 outer:=X.stack
 stack:=X.stack
 ex:=fp
 fn:=λz=>false
 calm:=X.calm
 pn:=[]
 xe:=xe
theorem iF {sc:Scope}{env:Env}{x:Str}:∀{names:O (Str×afP)},
   (names.map λ(p:Str×afP)=>if(p.2==aeH&&env.scope.kind==.function&&env.kindOf p.1==S .cell)then(p.1,ahv)else(p.1,p.2)).lookup x =
     (names.lookup x).map λk=>if(k==aeH&&env.scope.kind==.function&&env.kindOf x==S .cell)then ahv else k
 | []=>rfl
 | (n,k)::r=>by
   !ih:=@iF sc env x r
   rw[aeN]
   cases hx:x==n with
   | true=>
     have e:x=n:=by simpa using hx
     subst e
     by_cases hc:(k==aeH&&env.scope.kind==.function&&env.kindOf x==S .cell)=true
     . simp only[hc,if_true,agz,hx,ae6]
     . simp only[hc,if_false,agz,hx,ae6,ahd]
   | false=>
     by_cases hc:(k==aeH&&env.scope.kind==.function&&env.kindOf n==S .cell)=true
     . simp only[hc,if_true,agz,hx];#ih
     . simp only[hc,if_false,agz,hx,ahd];#ih
def nV {sc:Scope}{env:Env}{cl:O (Str×J)}{C:J}(x:Str):(compEnvC sc cl C env).kindOf x =
   (sc.names.lookup x).map λk=>if(k==aeH&&env.scope.kind==.function&&env.kindOf x==S .cell)then ahv else k:=
 iF (sc:=sc) (env:=env)
section
variable{X:Cx}{pins:O (J×Obj)}{σ:St}{H:Hp}{s:Shared}{N':O Str}{sc:Scope}{src:O (Option Nat)}{fp:O J}{xe:Value->Shared->Prop}
def tj (I:Inv X pins σ H s)(S8:bR sc X.env.scope)(hc:dj sc src N' X.N=true)(hf:∀b∈fp,eV X pins H b)(ho:∀b∈fp,∃o,s.heap.get? b=S o){h₁:Heap}{tk:Nat}
   (hn:h₁.Ns s.heap.objs.size (λt=>Z)) (hk:∀b o,s.heap.get? b=S o->h₁.get? b=S o) :
   Inv (eQ X N' sc s H s.heap.objs.size fp xe) [] (capσ src σ) H {s with heap:=h₁,toks:=tk}:=by
 !cellmem:∀x c,(jd sc X.env).lookup x=S c->X.env.cells.lookup x=S c:=λx c e=>(sY (aeP e)).2
 !isfree:∀x,((compEnvC sc (jd sc X.env) s.heap.objs.size X.env).kindOf x=S .cell\/(compEnvC sc (jd sc X.env) s.heap.objs.size X.env).kindOf x=S .free)->(x,aeH)∈sc.names:=λx hx=>by
   rw[nV]at hx
   cases q:sc.names.lookup x with
   | none=>rw[q]at hx;simp at hx
   | some k=>
     have hm:=aeP q
     by_cases Th:k=.free
     . subst Th;#hm
     . !:(k==aeH)=false:=by simpa using Th
       !e2:(k==aeH&&X.env.scope.kind==.function&&X.env.kindOf x==S .cell)=false:=by rw[this];rfl
       rw[q,ae6,e2]at hx
       !GO:(S k:Option afP)=S .cell\/(S k:Option afP)=S .free:=hx
       rcases GO with hx|hx
       . #aw (aej hx) (S8.cell _ hm)
       . #aw (aej hx) Th
 !has:∀x,(x,aeH)∈sc.names->∃c,X.env.cells.lookup x=S c:=λx hm=>I.ok.has x (S8.free _ hm rfl)
 #⟨⟨I.ok.mod,S8.kind,I.ok.glob,I.ok.blt,ad5 _,λx y c h1 h2=>I.ok.inj x y c (cellmem x c h1) (cellmem y c h2),λx hx=>?_,λx c NL t=>?_,I.ok.hd,I.ok.frames,.inl rfl,λb hb=>⟨?_,λx c e=>?_⟩,I.bs,aeg I.ok.bsz I.sz,λb o e hb=>?_,λb hb hs=>?_,I.stack,I.qd⟩,
   rfl,I.bare,Un.kept hk,⟨_,hn,λi x v h1 h2 h3=>?_⟩,λx c e=>?_,I.hok.fresh (ad5 _),λx c e=>I.freeC x c (cellmem x c e),λp hp=>aw (show p∈([]:O (J×Obj))from hp) (by simp),I.hok.kept hk,?_⟩
 . @⟨c,e⟩:=has x (isfree x hx)
   #⟨c,nQ (isfree x hx) e⟩
 . #aw (show false=true from NL) (by simp)
 . @⟨o,e⟩:=ho b hb
   #aeA (aee e)
 . #(hf b hb).2.2.2.2.1 x c (cellmem x c e)
 . rcases(hf b hb).2.2.2.1 with z|z
   . #I.ok.noex b o e z
   . #aw (aer (aee e) (aeg I.ok.bsz z)) (afw _)
 . rcases List.mem_cons.mp (I.qe b hs)with z|z
   . #(hf b hb).2.1 z
   . #(hf b hb).2.2.1 z
 . -- a M5 name
   !qN:(capσ src σ)[i]?=S (S v):=h2
   unfold capσ at qN
   rw[aei]at qN
   cases q:src[i]? with
   | none=>rw[q]at qN;cases qN
   | some o=>
     rw[q]at qN
     cases o with
     | none=>simp at qN
     | some j=>
       @⟨hj,hfr⟩:=Dw hc q h1
       !hσ:σ[j]?=S (S v):=by
         simp only[ae6,Option.some.injEq]at qN
         cases r:σ[j]? with
         | none=>rw[r]at qN;cases qN
         | some w=>rw[r]at qN;rw[← qN]
       !hm:=aeP hfr
       !NZ:=S8.free _ hm rfl
       @⟨m,_,hl⟩:=I.loc
       @⟨u,ru,lk⟩:=hl j x v hj hσ (Or.inr NZ)
       #⟨u,ru,.inr ⟨?_,?_⟩⟩
       . change(compEnvC sc (jd sc X.env) s.heap.objs.size X.env).kindOf x=S .cell\/(compEnvC sc (jd sc X.env) s.heap.objs.size X.env).kindOf x=S .free
         rw[nV,hfr]
         by_cases z:(aeH==aeH&&X.env.scope.kind==.function&&X.env.kindOf x==S .cell)=true
         . #.inl (by simp only[ae6,z,if_true])
         . #.inr (by simp only[ae6,z,if_false,ahd])
       . rcases lk with⟨z,_⟩|⟨_,c,e,z⟩
         . !z':X.env.scope.names.lookup x=S .local:=z
           rcases NZ with y|y<;>(rw[z']at y;cases y)
         . @⟨oc,Mz,hd⟩:=z
           #⟨c,nQ hm e,oc,hk c oc Mz,hd⟩
 . @⟨v,oc,Mz,hd⟩:=I.cell x c (cellmem x c e)
   #⟨v,oc,hk c oc Mz,hd⟩
 . change(capσ src σ)~=N'.length
   unfold capσ
   rw[ad1]
   #ze hc
def tD {H':Hp}{σ':St}{s':Shared}(I:Inv X pins σ H s)(hf:∀b∈fp,eV X pins H b)(I':Inv (eQ X N' sc s H s.heap.objs.size fp xe) [] σ' H' s'):Inv X pins σ H' s':=
 I.Gv I'.os I'.base I'.hok I'.bare λb hb=>⟨(hf b hb).2.2.2.1,(hf b hb).2.1,(hf b hb).2.2.2.2.1,(hf b hb).2.2.2.2.2⟩
def DA {H':Hp}{σ':St}{s':Shared}(I':Inv (eQ X N' sc s H s.heap.objs.size fp xe) [] σ' H' s'):∃m,s'.heap.Ns s.heap.objs.size m:=by@⟨m,hn,_⟩:=I'.loc;#⟨m,hn⟩
def wU {H1:Hp}{σ1:St}{s1:Shared}{h':Heap}(I:Inv X pins σ H s)(I1:Inv X pins σ1 H1 s1)(hn:H1 s.heap.objs.size=Z)(hs:ae7 s.heap.objs.size s1.heap h'):Inv X pins σ1 H1 {s1 with heap:=h'}:=by
 @⟨f0,f1,f2,f3,f4,f5⟩:=I.nq (H':=H1) (ad5 _) hn
 #I1.turned (t':=s1.toks) (λb o hb e=>(hs.2 b hb).trans e) f0 f1 f3 f4 f5
end
def bt:St->St->Prop
 | [],[]=>True
 | none::r,_::r'=>bt r r'
 | some v::r,u::r'=>u=S v/\bt r r'
 | _,_=>False
theorem bt.len:∀{a b:St},bt a b->a~=b~
 | [],[],_=>rfl
 | [],_::_,h=>h.elim
 | none::_,[],h=>h.elim
 | some _::_,[],h=>h.elim
 | none::r,_::r',h=>by
   !h':bt r r':=h
   rw[aet,aet,h'.len]
 | some v::r,u::r',h=>by
   !h':u=S v/\bt r r':=h
   rw[aet,aet,h'.2.len]
theorem bt.get:∀{a b:St},bt a b->∀(i:Nat) (v:V),a[i]?=S (S v)->b[i]?=S (S v)
 | [],[],_,i,v,e=>by simp at e
 | [],_::_,h,_,_,_=>h.elim
 | none::_,[],h,_,_,_=>h.elim
 | some _::_,[],h,_,_,_=>h.elim
 | none::r,_::r',h,0,v,e=>by simp at e
 | none::r,_::r',h,i+1,v,e=>by
   !h':bt r r':=h
   simpa using h'.get i v (by simpa using e)
 | some w::r,u::r',h,0,v,e=>by
   !h':u=S w/\bt r r':=h
   simp at e
   subst e
   simp[h'.1]
 | some w::r,u::r',h,i+1,v,e=>by
   !h':u=S w/\bt r r':=h
   simpa using h'.2.get i v (by simpa using e)
def jX (X:Cx)(cs:O Expr)(t:TT):Prop:=
 ∀(pins:O (J×Obj)) (s:Shared) (σ:St) (H:Hp) (Q:Bool->Hp->Prop),Inv X pins σ H s->t σ H Q ->
   wpAny (model X.prog X.w) X.A (forIn cs true λc r=>if r=true then do let ok←isTrue c X.env (eval c X.env);pure (afA ok)else pure (afA r)) (TP X pins σ Q) X.xe s
def F7:TT:=λz H Q=>Q true H
def Vh {X:Cx}:jX X [] F7:=λz z z H z I h=>wpAny_tests_nil ⟨H,I,h⟩
def Vi {X:Cx}{c:Expr}{t:TT}(h:PT X c t):jX X [c] t:=λpins s σ H Q I q=>wpAny_tests_one (h pins s σ H Q I q)
abbrev TM:=St->Hp->(Hp->Prop)->Prop
def IF (X:Cx)(m:Sem Unit)(t:TM):Prop:=
 ∀(pins:O (J×Obj)) (s:Shared) (σ:St) (H:Hp) (Q:Hp->Prop),Inv X pins σ H s->t σ H Q ->
   wpAny (model X.prog X.w) X.A m (λz s'=>∃H',Inv X pins σ H' s'/\Q H') X.xe s
def qh (tg:Expr)(ipos:Pos)(ifs:O Expr)(it:Value)(env:Env)(cont:Sem Unit)(more:Sem Fin):Sem Fin:=do
 standAt ipos
 match←pyNext it with
 | none=>pure (.done .next)
 | some v=>
   letOwnedTupleGo tg it v
   assign tg env v
   let mut ok:=true
   for c in ifs do
     if ok then ok←isTrue c env (eval c env)
   if ok then cont
   more
def hU (J8:It)(σ0:St)(g:TG)(tifs:TT)(tm:TM)(Z8:Hp->Prop)(H:Hp):Prop:=
 ∃W:Nat->Nat->Hp->Prop,(∃m,W 0 m H)/\∀i m H,W i m H->(J8.stop i H/\Z8 H) \/
   (J8.go i H/\∀x H',J8.yld i H x H'->g x σ0 H' λσ2 H2=>tifs σ2 H2 λb H3=>
     if b=true then tm σ2 H3 λH4=>bt σ0 σ2/\∃m',m'<m/\W (i+1) m' H4 else bt σ0 σ2/\∃m',m'<m/\W (i+1) m' H3)
section
variable{X:Cx}{e tg:Expr}{ipos:Pos}{ifs:O Expr}{depth:Nat}{acc:Value}{cont:Sem Unit}{it:J}{fp:O J}{tn:Nat->Heap->Prop}{J8:It}{g:TG}{tifs:TT}{tm:TM}{σ0:St}{Z8:Hp->Prop}{R:Result->Shared->Prop}
def nW (hX:X.xe=notedBy (model X.prog X.w) X.A X.env λe s'=>R (.error e) s')
   (heq:compTurn e depth (.ref it) acc X.env=qh tg ipos ifs (.ref it) X.env cont (again (.compLoop e depth (.ref it) acc X.env)))
   (hq:(agw e depth (.ref it) acc X.env).quiet=true) (hA:X.A.under (.compLoop e depth (.ref it) acc X.env)=X.A) (hF:(agw e depth (.ref it) acc X.env).isFrame=false)
   (hc:X.calm=true) (T:Turn X.prog X.w X.K tg J8 fp it tn) (hg:PG X tg g) (hif:jX X ifs tifs) (hm:IF X cont tm)
   {pins:O (J×Obj)} {H:Hp} {s:Shared} (hf:∀b∈fp,eV X pins H b) (I:Inv X pins σ0 H s) (st:tn 0 s.heap)
   (hZ:∀H' s',Inv X pins σ0 H' s'->(∀b∈fp,H' b=Z)->Z8 H'->R (.ok .next) s') (h:hU J8 σ0 g tifs tm Z8 H) :
   codeAny (model X.prog X.w) X.A (.compLoop e depth (.ref it) acc X.env) R s:=by
 @⟨W,⟨m0,w0⟩,turn⟩:=h
 !stat:∀{H':Hp},(∀b∈fp,H' b=Z)->∀b∈fp,eV X pins H' b:=λhn b hb=>⟨hn b hb,(hf b hb).2⟩
 #codeAny_loop hq (λn s'=>∃i H',Inv X pins σ0 H' s'/\tn i s'.heap/\(∀b∈fp,H' b=Z)/\W i n H') ?_ m0 ⟨0,H,I,st,λb hb=>(hf b hb).1,w0⟩
 rintro n s3 ⟨i,H3,I3,yv,GA,w3⟩
 rw[hA]
 !S7:(model X.prog X.w).den (.compLoop e depth (.ref it) acc X.env)=(compTurn e depth (.ref it) acc X.env).onRaise (λx=>do noteFrame x X.env;theTreesLotGoes x):=by
   change(if(agw e depth (.ref it) acc X.env).isFrame then _ else _)=_
   rw[aM (by rw[hF];decide)]
 rw[S7]
 #wpAny_noted ?_
 rw[← hX,heq]
 unfold qh
 #wpAny_bind (wpAny_standAt ?_)
 !za:∀{σ7:St} {H7:Hp} {s5 s7:Shared},tn (i+1) s5.heap->Inv X (pins++mB fp s5.heap) σ7 H7 s7->bt σ0 σ7->(∃m',m'<n/\W (i+1) m' H7) ->
     ∃m,m<n/\∃i H',Inv X pins σ0 H' s7/\tn i s7.heap/\(∀b∈fp,H' b=Z)/\W i m H':=λ{σ7 H7 s5 s7} yT I7 k7 ⟨m',D7,w7⟩=>by
   #⟨m',D7,i+1,H7,I7.jS.weak k7.len k7.get,T.keep _ _ _ yT λb hb o e=>(I7.pin (b,o) (aeM _ (aeM _ (gP hb e)))).1,λb hb=>?_,w7⟩
   @⟨o,e,d⟩:=T.obj _ _ yT b hb
   #(I7.pin (b,o) (aeM _ (aeM _ (gP hb e)))).2.1
 rcases turn i n H3 w3 with⟨stop,qn⟩|⟨go,step⟩
 . #wpAny_bind (bH (T.done X rfl rfl rfl hc i pins s3 σ0 H3 X.xe I3 (stat GA) yv stop) λr s4 h9=>?_)
   @⟨hr,I4⟩:=h9
   subst hr
   #wpAny_pure (hZ H3 s4 I4 GA qn)
 . #wpAny_bind (bH (T.item X rfl rfl rfl hc i pins s3 σ0 H3 X.xe I3 (stat GA) yv go) λr s4 h9=>?_)
   @⟨u,hr,h4⟩:=h9
   subst hr
   #wpAny_bind (bH h4 λz s5 h9=>?_)
   @⟨x,H5,I5,r5,y5,yT,Sh⟩:=h9
   !RH:=I5.pinned (stat Sh) (T.obj _ _ yT)
   #wpAny_bind (bH (hg _ s5 σ0 H5 x u _ RH r5 (step x H5 y5)) λz s6 h9=>?_)
   @⟨σ6,H6,I6,q6⟩:=h9
   #wpAny_bind (bH (hif _ s6 σ6 H6 _ I6 q6) λb s7 h9=>?_)
   @⟨H7,I7,q7⟩:=h9
   cases b with
   | false=>
     @⟨k7,w7⟩:=q7
     #wpAny_pure ⟨U,za yT I7 k7 w7⟩
   | true=>
     #wpAny_bind (bH (hm _ s7 σ6 H7 _ I7 q7) λz s8 h9=>?_)
     @⟨H8,I8,k8,w8⟩:=h9
     #wpAny_pure ⟨U,za yT I8 k8 w8⟩
end
structure fX (P:Program)(w:World)(A:Around)(e:Expr)(tg iter:Expr)(ifs:O Expr)(gs:O Comprehension)(emit:J->Env->Sem Unit):Prop where
 cl:clausesOf e=⟨tg,iter,ifs,0⟩::gs
 turn:∀it D env,compTurn e 0 (.ref it) (.ref D) env=qh tg iter.pos ifs (.ref it) env (emit D env) (again (.compLoop e 0 (.ref it) (.ref D) env))
 start:∀(R:Result->Shared->Prop) (s:Shared) (it acc:Value) (env:Env),codeAny (model P w) A (.compLoop e 0 it acc env) R s ->
   wpAny (model P w) A (pyIter it) (λOh s'=>codeAny (model P w) A (.compLoop e 0 Oh acc env) R s') (notedBy (model P w) A env λx s'=>R (.error x) s') s->codeAny (model P w) A (.compStart e 0 it acc env) R s
 quiet:∀it acc env,(agw e 0 it acc env).quiet=true
 under:∀it acc env,A.under (.compLoop e 0 it acc env)=A
 frame:∀it acc env,(agw e 0 it acc env).isFrame=false
def ve {P:Program}{w:World}{A:Around}{elt tg iter:Expr}{ifs:O Expr}{sc:Scope}{pos:Pos} :
   fX P w A (.ListComp elt [⟨tg,iter,ifs,0⟩] sc pos) tg iter ifs [] (λD env=>do let _←call (.builtin "list.append") [.ref D,← eval elt env]) where
 cl:=rfl
 turn:=λit D env=>by rw[compTurn_list];rfl
 start:=λR s it acc env h0 h=>codeAny_compStart_list h0 h
 quiet:=λz z z=>rfl
 under:=λz z z=>rfl
 frame:=λz z z=>rfl
def Dy {P:Program}{w:World}{A:Around}{kx vx tg iter:Expr}{ifs:O Expr}{sc:Scope}{pos:Pos} :
   fX P w A (.DictComp kx vx [⟨tg,iter,ifs,0⟩] sc pos) tg iter ifs [] (λD env=>do
     let kv←eval kx env
     let vv←holding [kv] (eval vx env)
     standAt {kx.pos with endLine:=vx.pos.endLine,endCol:=vx.pos.endCol}
     holding [kv,vv] (dictSet D kv vv)) where
 cl:=rfl
 turn:=λit D env=>by rw[compTurn_dict];rfl
 start:=λR s it acc env h0 h=>codeAny_compStart_dict h0 h
 quiet:=λz z z=>rfl
 under:=λz z z=>rfl
 frame:=λz z z=>rfl
section
variable{X:Cx}{e tg iter:Expr}{ifs:O Expr}{emit:J->Env->Sem Unit}{sc:Scope}{pos:Pos}{wi:TI}{N':O Str}{src:O (Option Nat)}{g:TG}{tifs:TT}{tm:J->TM}{newAcc:Sem Value}{ob:Obj}{accO:HO}{gs:O Comprehension}
def fC (src:O (Option Nat))(accO:HO)(wi:TI)(g:TG)(tifs:TT)(tm:J->TM):TE:=
 λσ H Q=>wi σ H λJ8 H1=>∀D,H1 D=Z->hU J8 (capσ src σ) g tifs (tm D) (λH'=>Q (.ref D) H') (upd H1 D accO)
structure lL (X:Cx)(newAcc:Sem Value)(ob:Obj)(accO:HO):Prop where
 new:∀(s:Shared) (Q:Value->Shared->Prop) (E:Value->Shared->Prop),Q (.ref s.heap.objs.size) {s with heap:=s.heap.push ob}->wpAny (model X.prog X.w) X.A newAcc Q E s
 live:ob.isFreed=false
 ok:∀(pins:O (J×Obj)) (σ:St) (H:Hp) (s:Shared),Inv X pins σ H s->bw X.prog X.w (upd H s.heap.objs.size accO) (s.heap.push ob) s.heap.objs.size accO
def qH {use:Option (Value->Sem Unit)}{Q':Value->Shared->Prop}(K:fX X.prog X.w X.A e tg iter ifs gs emit)(hc:X.calm=true)(S8:bR sc X.env.scope)(hcap:dj sc src N' X.N=true)(hi:PI X tg iter wi)
   (hb:∀s H C fp xe D,PG (eQ X N' sc s H C fp xe) tg g/\jX (eQ X N' sc s H C fp xe) ifs tifs/\IF (eQ X N' sc s H C fp xe) (emit D (eQ X N' sc s H C fp xe).env) (tm D)) (N:lL X newAcc ob accO)
   (hs:∀x,aeC iter X.env x=pure x)
   {pins:O (J×Obj)} {s:Shared} {σ:St} {H:Hp} {Q:VK} (I:Inv X pins σ H s) (h:fC src accO wi g tifs tm σ H Q)
   (hQ:∀(C D:J) (H':Hp) (s':Shared),Inv X pins σ H' s'->Q (.ref D) H'->H' C=Z->(∃m,s'.heap.Ns C m)->(∀(σ1:St) (H1:Hp) (s1:Shared) (h':Heap),Inv X pins σ1 H1 s1->H1 C=Z->ae7 C s1.heap h'->Inv X pins σ1 H1 {s1 with heap:=h'}) ->
     (C≠X.env.locals/\∀x c,X.env.cells.lookup x=S c->c≠C)->compPost (model X.prog X.w) X.A X.xe use Q' (.ref D) C (.ok .next) s') :
   wpAny (model X.prog X.w) X.A (comprehension e sc X.env pos newAcc false (eval iter X.env) use) Q' X.xe s:=by
 #wpAny_comprehension_free (g:=⟨tg,iter,ifs,0⟩) (gs:=gs) K.cl hs (sZ λp hp hf=>I.ok.has p.1 (S8.free p hp hf)) S8.kind S8.names ?_
 #bH (hi pins s σ H _ I h) λv s1 h1=>bH h1 λitv s2 h2=>?_
 @⟨it,fp,tn,J8,H2,e1,I2,T,mY,f2,q2⟩:=h2
 subst e1
 #N.new s2 _ _ ?_
 !hD:H2 s2.heap.objs.size=Z:=I2.hok.fresh (ad5 _)
 !QZ:∀b o,s2.heap.get? b=S o->(s2.heap.push ob).get? b=S o:=λb o e=>ad6 _ e
 !I3:Inv X pins σ (upd H2 s2.heap.objs.size accO) {s2 with heap:=s2.heap.push ob}:=I2.laid (t':=s2.toks) QZ (ad5 _) (N.ok pins σ H2 s2 I2)
 !yv:tn 0 (s2.heap.push ob):=T.keep _ _ _ mY λb u o e=>QZ b o e
 !U8:∀b∈fp,∃o,(s2.heap.push ob).get? b=S o:=λb hb=>let⟨o,e,_⟩:=T.obj _ _ yv b hb;⟨o,e⟩
 !f3:∀b∈fp,eV X pins (upd H2 s2.heap.objs.size accO) b:=λb hb=>by
   #⟨?_,(f2 b hb).2⟩
   @⟨o,e,_⟩:=T.obj _ _ mY b hb
   rw[aj (aeA (aee e))]
   #(f2 b hb).1
 !qq:=q2 s2.heap.objs.size hD
 generalize Ob:({s2 with heap:=s2.heap.push ob}:Shared)=s3 at I3 ⊢
 !hh3:s2.heap.push ob=s3.heap:=by rw[← Ob]
 rw[hh3]at yv U8
 generalize s2.heap.objs.size=D at I3 f3 qq hD ⊢
 #wpAny_newFunctionEnv S8.cell (by intro y hy;simp at hy) (λh₁ hns Up=>?_) S8.kind
 !TN:h₁.Ns s3.heap.objs.size (λu=>Z):=hns
 !WH:∀b o,s3.heap.get? b=S o->h₁.get? b=S o:=λb o e=>Up.extBut b o (aeA (aee e)) (ad6 _ e)
 let R:Result->Shared->Prop:=compPost (model X.prog X.w) X.A X.xe use Q' (.ref D) s3.heap.objs.size
 let X':Cx:=eQ X N' sc s3 (upd H2 D accO) s3.heap.objs.size fp (notedBy (model X.prog X.w) X.A (compEnvC sc (jd sc X.env) s3.heap.objs.size X.env) λe s'=>R (.error e) s')
 !I4:Inv X' [] (capσ src σ) (upd H2 D accO) {s3 with heap:=h₁,toks:=s3.toks+([]:O (Str×Value))~}:=tj I3 S8 hcap f3 U8 TN WH
 !Ii:tn 0 h₁:=T.keep _ _ _ yv λb u o e=>WH b o e
 @⟨hg,hif,hm⟩:=hb s3 (upd H2 D accO) s3.heap.objs.size fp (notedBy (model X.prog X.w) X.A (compEnvC sc (jd sc X.env) s3.heap.objs.size X.env) λe s'=>R (.error e) s') D
 !f4:∀b∈fp,eV X' [] (upd H2 D accO) b:=λb hb=>by
   @⟨g0,g1,g2,g3,g4,g5⟩:=f3 b hb
   #⟨g0,?_,?_,.inl hb,λx c e=>?_,λp hp=>aw (show p∈([]:O (J×Obj))from hp) (by simp)⟩
   . @⟨o,e⟩:=U8 b hb
     #aeA (aee e)
   . intro z
     rcases List.mem_cons.mp (I3.qe b z)with y|y
     . #g1 y
     . #g2 y
   . #g4 x c (sY (aeP e)).2
 !Wj:eV X pins (upd H2 D accO) s3.heap.objs.size:=I3.nq (ad5 _) (I3.hok.fresh (ad5 _))
 !loop:∀s4:Shared,s4={s3 with heap:=h₁,toks:=s3.toks+([]:O (Str×Value))~}->codeAny (model X.prog X.w) X.A (.compLoop e 0 (.ref it) (.ref D) X'.env) R s4:=by
   rintro s4 rfl
   #nW (X:=X') (Z8:=λH'=>Q (.ref D) H') rfl (K.turn it D X'.env) (K.quiet _ _ _) (K.under _ _ _) (K.frame _ _ _) hc T hg hif hm f4 I4 Ii (λH' s' I' u z=>?_) qq
   #hQ s3.heap.objs.size D H' s' (tD I3 f3 I') z I'.free (DA I') (λσ1 H1 s1 h' I1 n1 Um=>wU I3 I1 n1 Um) ⟨Wj.2.1,λx c e=>Wj.2.2.2.2.1 x c e⟩
 #K.start R _ (.ref it) (.ref D) X'.env (loop _ rfl) (T.self X.A 0 _ _ _ Ii (loop _ rfl))
def vL (K:fX X.prog X.w X.A e tg iter ifs gs emit)(hc:X.calm=true)(S8:bR sc X.env.scope)(hcap:dj sc src N' X.N=true)(hi:PI X tg iter wi)
   (hb:∀s H C fp xe D,PG (eQ X N' sc s H C fp xe) tg g/\jX (eQ X N' sc s H C fp xe) ifs tifs/\IF (eQ X N' sc s H C fp xe) (emit D (eQ X N' sc s H C fp xe).env) (tm D)) (N:lL X newAcc ob accO)
   (hs:∀x,aeC iter X.env x=pure x) (he:eval e X.env=comprehension e sc X.env pos newAcc false (eval iter X.env)):PE X e (fC src accO wi g tifs tm):=by
 intro pins s σ H Q I h
 rw[he]
 #qH (use:=Z) (Q:=Q) K hc S8 hcap hi hb N hs I h λC D H' s' I' q hn ⟨m,hm⟩ gone _=>?_
 #⟨m,hm,λh' yP=>⟨.ref D,H',gone σ H' s' h' I' hn yP,U,q⟩⟩
def vO {i:Nat}{x:Str}{pos' dM:Pos}(K:fX X.prog X.w X.A e tg iter ifs gs emit)(hc:X.calm=true)(S8:bR sc X.env.scope)(hcap:dj sc src N' X.N=true)(hi:PI X tg iter wi)
   (hb:∀s H C fp xe D,PG (eQ X N' sc s H C fp xe) tg g/\jX (eQ X N' sc s H C fp xe) ifs tifs/\IF (eQ X N' sc s H C fp xe) (emit D (eQ X N' sc s H C fp xe).env) (tm D)) (N:lL X newAcc ob accO)
   (hs:∀x,aeC iter X.env x=pure x) (he:∀u,evalThenUse e X.env u=(do let _←comprehension e sc X.env pos newAcc false (eval iter X.env) (S u)))
   (hN:X.N.Nodup) (hix:X.N[i]?=S x) (hx:Loc X.env.scope x) (hsw:afy e (S (.Name x pos')) dM.line X.env=pure true)
   (hf:X.fn x=true\/X.env.scope.names.lookup x=S .local:=by first|show .inl rfl|show .inr rfl|assumption) :
   PS X (.Assign [.Name x pos'] e dM) (qf (fC src accO wi g tifs tm) (dH i)):=by
 intro pins s σ H D0 I h
 rw[exec_Assign_Name_used x pos' e dM hsw,he]
 #wpAny_bind (wpAny_standAt (wpAny_bind (wpAny_bind ?_)))
 #qH (use:=S (assign (.Name x pos') X.env)) (Q:=λv H'=>D0.nx (σ.set i (S v)) H') (Q':=λy s'=>wpAny _ _ _ _ _ s') K hc S8 hcap hi hb N hs I h λC D H' s' I' q hn g8 gone g9=>?_
 @⟨m,hm⟩:=g8
 @⟨Z4,hCc⟩:=g9
 #wpAny_assign_Name (oH (v:=.ref D) I' hN hix hx rfl (λs2 I2 hch=>?_) hf)
 @⟨a,Up,ha⟩:=hch
 !Ea:C≠a:=by
   rcases ha with z|z
   . rw[z];#Z4
   . #(hCc x a z).symm
 #⟨m,hm.sameBut Up Ea,λh' yP=>?_⟩
 #wpAny_pure (wpAny_pure ⟨_,H',gone _ H' s2 h' I2 hn yP,q⟩)
end
section
variable{X:Cx}{elt kx vx:Expr}{te tk tv:TE}
def cB (te:TE)(D:J):TM:=λσ H K=>te σ H λy H1=>∃ys,H1 D=S (.lst ys)/\ys~<sizeLine/\K (upd H1 D (.lst (ys++[y])))
def ur (h:PE X elt te)(D:J):IF X (do let _←call (.builtin "list.append") [.ref D,← eval elt X.env]) (cB te D):=by
 intro pins s σ H Q I q
 #wpAny_bind (bH (h pins s σ H _ I q) λu s1 h9=>?_)
 @⟨y,H1,I1,ru,ys,e,z,k⟩:=h9
 #wpAny_bind (bH (oo pins s1 σ H1 (.ref D) [y] (.ref D) [u] (λx H'=>Q H') I1 rfl (.cons ru .nil) ⟨D,ys,y,U,U,e,z,k⟩) λr s2 h9=>?_)
 @⟨v,H2,I2,_,k2⟩:=h9
 #wpAny_pure ⟨H2,I2,k2⟩
def wX {pins:O (J×Obj)}{σ:St}{H H':Hp}{s:Shared}{a:J}{y v:V}{u r:Value}{A:Around}{E:Value->Shared->Prop}{Q:Unit->Shared->Prop}(hu:A.units+1<cLine)(I:Inv X pins σ H s)(g:ir H a y v H')(ry:RelV y u)(rv:RelV v r)(h:∀s',Inv X pins σ H' s'->Q () s') :
   wpAny (model X.prog X.w) A (dictSet a u r) Q E s:=by
 rcases g with⟨kvs,k,e,ey,l,eH⟩|⟨kvs,k,b,e,ey,eb,l,eH⟩
 . subst ey eH
   @⟨z,hd,vs,rel,dd⟩:=vp I.hok e
   !hz:vs~<=sizeLine:=by rw[← rel~];#z
   !hl:(putK kvs k v)~<=sizeLine:=by !:=cj kvs k v;lia
   #wpAny_dictSet_pairs (hsz:=hz) (jE ry) dd λh' oX hs=>h _ ?_
   !he:∃q,h'.get? a=S q:=by@⟨q,_,_,hq,_⟩:=oX;#⟨q,hq⟩
   #gN I (by rw[e];#aeh) hs he (oY hl hd (rel.put k rv) oX)
 . subst ey eH
   cases(show u=aen b from ry)
   @⟨z,hd,xs,rel,dd⟩:=zv I.hok e
   !hz:xs~<=sizeLine:=by rw[← Paired.length rel];#z
   !hl:(putK kvs k v)~<=sizeLine:=by !:=cj kvs k v;lia
   !Oa:(tupleKind (bc X.prog X.w)).room A:=show A.units<cLine by lia
   #wpAny_dictSet_heap (hsz:=hz) Oa (iz I.hok eb) dd λh' oX hs=>h _ ?_
   @⟨q,es,ep,hq,h2,h3,h4,_,h5⟩:=oX
   #gN I (by rw[e];#aeh) hs ⟨q,hq⟩ ⟨hl,hd,_,(rel.put k eb rv).keeps λc ys ec=>?_,q,es,ep,hq,h2,h3,h4,h5⟩
   rw[aj (eJ ec e (λz=>nomatch z))]
   #ec
def Ai (tk tv:TE)(D:J):TM:=λσ H K=>tk σ H λy H1=>tv σ H1 λv H2=>∃H3,ir H2 D y v H3/\K H3
def La (hu:X.A.units+1<cLine)(hk:PE X kx tk)(hv:PE X vx tv)(D:J):IF X (do
     let kv←eval kx X.env
     let vv←holding [kv] (eval vx X.env)
     standAt {kx.pos with endLine:=vx.pos.endLine,endCol:=vx.pos.endCol}
     holding [kv,vv] (dictSet D kv vv)) (Ai tk tv D):=by
 intro pins s σ H Q I q
 #wpAny_bind (bH (hk pins s σ H _ I q) λu s1 h9=>?_)
 @⟨y,H1,I1,ru,q1⟩:=h9
 #wpAny_bind (wpAny_holding (bH (hv pins s1 σ H1 _ I1 q1) λr s2 h9=>?_))
 @⟨v,H2,I2,rv,H3,g,q2⟩:=h9
 #wpAny_bind (wpAny_standAt (wpAny_holding (wX hu I2 g ru rv λs3 I3=>⟨H3,I3,q2⟩)))
def IM:lL X newDict {cls:=.type "dict",data:=.dict #[]} (.dT []) where
 new:=λs Q E h=>wpAny_newObj_type h
 live:=rfl
 ok:=λpins σ H s I=>qK s.heap I.big
def lV:lL X (newList []) {cls:=.type "list",data:=.seq #[]} (.lst []) where
 new:=λs Q E h=>wpAny_newObj_type h
 live:=rfl
 ok:=λpins σ H s I=>⟨aeG _,[],0,.nil,aeq _ rfl⟩
end
section
variable{X:Cx}{elt kx vx tg iter:Expr}{ifs:O Expr}{sc:Scope}{pos:Pos}{wi:TI}{N':O Str}{src:O (Option Nat)}{g:TG}{tifs:TT}{te tk tv:TE}
def OX (src:O (Option Nat))(N':O Str)(hc:X.calm=true)(S8:bR sc X.env.scope)(hcap:dj sc src N' X.N=true)(hi:PI X tg iter wi)
   (hb:∀s H C fp xe,PG (eQ X N' sc s H C fp xe) tg g/\jX (eQ X N' sc s H C fp xe) ifs tifs/\PE (eQ X N' sc s H C fp xe) elt te)
   (hs:∀x,aeC iter X.env x=pure x:=by intro _;rfl):PE X (.ListComp elt [⟨tg,iter,ifs,0⟩] sc pos) (fC src (.lst []) wi g tifs (cB te)):=
 vL ve hc S8 hcap hi (λs H C fp xe D=>⟨(hb s H C fp xe).1,(hb s H C fp xe).2.1,ur (hb s H C fp xe).2.2 D⟩) lV hs rfl
def O8 {i:Nat}{x:Str}{pos' dM:Pos}(src:O (Option Nat))(N':O Str)(hc:X.calm=true)(S8:bR sc X.env.scope)(hcap:dj sc src N' X.N=true)(hi:PI X tg iter wi)
   (hb:∀s H C fp xe,PG (eQ X N' sc s H C fp xe) tg g/\jX (eQ X N' sc s H C fp xe) ifs tifs/\PE (eQ X N' sc s H C fp xe) elt te)
   (hN:X.N.Nodup) (hix:X.N[i]?=S x) (hx:Loc X.env.scope x) (hsw:afy (.ListComp elt [⟨tg,iter,ifs,0⟩] sc pos) (S (.Name x pos')) dM.line X.env=pure true:=by rfl)
   (hs:∀x,aeC iter X.env x=pure x:=by intro _;rfl) (hf:X.fn x=true\/X.env.scope.names.lookup x=S .local:=by first|show .inl rfl|show .inr rfl|assumption) :
   PS X (.Assign [.Name x pos'] (.ListComp elt [⟨tg,iter,ifs,0⟩] sc pos) dM) (qf (fC src (.lst []) wi g tifs (cB te)) (dH i)):=
 vO ve hc S8 hcap hi (λs H C fp xe D=>⟨(hb s H C fp xe).1,(hb s H C fp xe).2.1,ur (hb s H C fp xe).2.2 D⟩) lV hs (λz=>rfl) hN hix hx hsw hf
def KO (src:O (Option Nat))(N':O Str)(hu:X.A.units+1<cLine)(hc:X.calm=true)(S8:bR sc X.env.scope)(hcap:dj sc src N' X.N=true)(hi:PI X tg iter wi)
   (hb:∀s H C fp xe,PG (eQ X N' sc s H C fp xe) tg g/\jX (eQ X N' sc s H C fp xe) ifs tifs/\PE (eQ X N' sc s H C fp xe) kx tk/\PE (eQ X N' sc s H C fp xe) vx tv)
   (hs:∀x,aeC iter X.env x=pure x:=by intro _;rfl):PE X (.DictComp kx vx [⟨tg,iter,ifs,0⟩] sc pos) (fC src (.dT []) wi g tifs (Ai tk tv)):=
 vL Dy hc S8 hcap hi (λs H C fp xe D=>⟨(hb s H C fp xe).1,(hb s H C fp xe).2.1,La (X:=eQ X N' sc s H C fp xe) hu (hb s H C fp xe).2.2.1 (hb s H C fp xe).2.2.2 D⟩) IM hs rfl
end
section
variable{K:ad2}{a:J}{xs:O V}{g:TG}{tifs:TT}{tm:TM}{σ0:St}{Z8:Hp->Prop}{H:Hp}
def iJ (n:Nat){J8:It}(Pv:Nat->Hp->Prop)(h0:Pv 0 H)(hgo:∀i H,i<n->Pv i H->J8.go i H)(hst:∀H,Pv n H->J8.stop n H)
   (turn:∀i H,i<n->Pv i H->∀x H',J8.yld i H x H'->g x σ0 H' λσ2 H2=>tifs σ2 H2 λb H3=>
     if b=true then tm σ2 H3 λH4=>bt σ0 σ2/\∃m',m'<n-i/\(m'=n-(i+1)/\i+1<=n/\Pv (i+1) H4)else bt σ0 σ2/\∃m',m'<n-i/\(m'=n-(i+1)/\i+1<=n/\Pv (i+1) H3))
   (hZ:∀H,Pv n H->Z8 H):hU J8 σ0 g tifs tm Z8 H:=by
 #⟨λi m H=>m=n-i/\i<=n/\Pv i H,⟨n,by simp,aeG _,h0⟩,?_⟩
 rintro i m H ⟨rfl,hi,p⟩
 by_cases fS:i<n
 . #.inr ⟨hgo i H fS p,turn i H fS p⟩
 . !e:i=n:=by lia
   subst e
   #.inl ⟨hst H p,hZ H p⟩
def aV (Pv:Nat->Hp->Prop)(h0:Pv 0 H)(hl:∀i H,i<=xs~->Pv i H->aB K H a xs)
   (turn:∀i x H,xs[i]?=S x->Pv i H->g x σ0 H λσ2 H2=>tifs σ2 H2 λb H3=>
     if b=true then tm σ2 H3 λH4=>bt σ0 σ2/\∃m',m'<xs~-i/\(m'=xs~-(i+1)/\i+1<=xs~/\Pv (i+1) H4)else bt σ0 σ2/\∃m',m'<xs~-i/\(m'=xs~-(i+1)/\i+1<=xs~/\Pv (i+1) H3))
   (hZ:∀H,Pv xs~ H->Z8 H):hU (L0 K a) σ0 g tifs tm Z8 H:=by
 #iJ xs~ Pv h0 (λi H hi p=>⟨xs,xs[i],hl i H (aeY hi) p,by simp[hi]⟩) (λH p=>⟨xs,hl _ H (ad5 _) p,ad5 _⟩) (λi H hi p x H' y=>?_) hZ
 @⟨e,y⟩:=y
 subst e
 #turn i x _ (y xs (hl i _ (aeY hi) p)) p
def zi (Pv:Nat->Hp->Prop)(h0:Pv 0 H)(hl:∀i H,i<=xs~->Pv i H->dY K H a xs)
   (turn:∀i x H,xs[i]?=S x->Pv i H->g x σ0 H λσ2 H2=>tifs σ2 H2 λb H3=>
     if b=true then tm σ2 H3 λH4=>bt σ0 σ2/\∃m',m'<xs~-i/\(m'=xs~-(i+1)/\i+1<=xs~/\Pv (i+1) H4)else bt σ0 σ2/\∃m',m'<xs~-i/\(m'=xs~-(i+1)/\i+1<=xs~/\Pv (i+1) H3))
   (hZ:∀H,Pv xs~ H->Z8 H):hU (L4 K a) σ0 g tifs tm Z8 H:=by
 #iJ xs~ Pv h0 (λi H hi p=>⟨xs,xs[i],hl i H (aeY hi) p,by simp[hi]⟩) (λH p=>⟨xs,hl _ H (ad5 _) p,ad5 _⟩) (λi H hi p x H' y=>?_) hZ
 @⟨e,y⟩:=y
 subst e
 #turn i x _ (y xs (hl i _ (aeY hi) p)) p
def d9 {lo:Int}{n:Nat}(Pv:Nat->Hp->Prop)(h0:Pv 0 H)
   (turn:∀i H,i<n->Pv i H->g (.int (lo+i)) σ0 H λσ2 H2=>tifs σ2 H2 λb H3=>
     if b=true then tm σ2 H3 λH4=>bt σ0 σ2/\∃m',m'<n-i/\(m'=n-(i+1)/\i+1<=n/\Pv (i+1) H4)else bt σ0 σ2/\∃m',m'<n-i/\(m'=n-(i+1)/\i+1<=n/\Pv (i+1) H3))
   (hZ:∀H,Pv n H->Z8 H):hU (Gm lo n) σ0 g tifs tm Z8 H:=by
 #iJ n Pv h0 (λi H hi p=>hi) (λH p=>ad5 _) (λi H hi p x H' y=>?_) hZ
 @⟨e,y⟩:=y
 subst e y
 #turn i _ hi p
def aF {n i:Nat}{P:Prop}{Pv:Nat->Hp->Prop}{H:Hp}(k:P)(hi:i<n)(p:Pv (i+1) H):P/\∃m',m'<n-i/\(m'=n-(i+1)/\i+1<=n/\Pv (i+1) H):=⟨k,_,by lia,rfl,hi,p⟩
end
section
variable{X:Cx}{pins:O (J×Obj)}{σ:St}{H:Hp}{s:Shared}{h':Heap}{ch:O J}{a:J}{o:HO}
def Inv.many {t':Nat}(I:Inv X pins σ H s)(hch:∀b∈ch,eV X pins H b)(k:∀b ob,b∉ch->s.heap.get? b=S ob->h'.get? b=S ob)(hp:s.heap.objs.size<=a)(new:bw X.prog X.w (upd H a o) h' a o) :
   Inv X pins σ (upd H a o) {s with heap:=h',toks:=t'}:=by
 !hn:H a=Z:=I.hok.fresh hp
 !na:∀b ob,s.heap.get? b=S ob->b≠a:=λb ob e=>aeA (aer (aee e) hp)
 !Ap:∀b u,H b=S u->b∉ch:=λb u e z=>by rw[(hch b z).1]at e;cases e
 #I.step (g':=s.gens) (d':=s.drawn) (ch:=ch) (λb hb=>⟨(hch b hb).2.2.2.1,(hch b hb).2.1,(hch b hb).2.2.2.2.1,(hch b hb).2.2.2.2.2⟩) (λb ob y y hc e y=>k b ob hc e) (λb ob y y hc e y=>⟨ob.slots,k b ob hc e⟩)
   (λb ob y e n=>by rw[aj (na b ob e)];#n) (λb ob hc e=>⟨ob,k b ob hc e⟩) (λb xs e=>by rw[aj (ai e hn)];#e) (λb ob u e=>by rw[aj (ai e hn)];#e)
   (λb ps e=>⟨#[],by rw[aj (ai e hn),e];simp⟩) (λm hm=>?_) (λb u e=>?_) I.bare
 . @⟨ob,es,ep,ho,r⟩:=hm
   #⟨ob,es,ep,k _ ob (λz=>(hch _ z).2.1 rfl) ho,r⟩
 . by_cases hb:b=a
   . subst hb;rw[ae]at e;cases e;#new
   . rw[aj hb]at e
     show(I.hok b u e).k9 (λc v hc q=>k c v ?_ q) (λc q=>by rw[aj (ai q hn)];#q) λc xs q=>by rw[aj (ai q hn)];#q
     rcases hc with z|z
     . subst z;#Ap c u e
     . #Ap c _ z
def Inv.qZ {t':Nat}(I:Inv X pins σ H s)(hch:∀b∈ch,eV X pins H b)(k:∀b ob,b∉ch->s.heap.get? b=S ob->h'.get? b=S ob) :
   Inv X pins σ H {s with heap:=h',toks:=t'}:=by
 !Ap:∀b u,H b=S u->b∉ch:=λb u e z=>by rw[(hch b z).1]at e;cases e
 #I.step (g':=s.gens) (d':=s.drawn) (ch:=ch) (λb hb=>⟨(hch b hb).2.2.2.1,(hch b hb).2.1,(hch b hb).2.2.2.2.1,(hch b hb).2.2.2.2.2⟩) (λb ob y y hc e y=>k b ob hc e) (λb ob y y hc e y=>⟨ob.slots,k b ob hc e⟩)
   (λb ob y e n=>n) (λb ob hc e=>⟨ob,k b ob hc e⟩) (λb xs e=>e) (λb ob u e=>e)
   (λb ps e=>⟨#[],by rw[e];simp⟩) (λm hm=>?_) (λb u e=>?_) I.bare
 . @⟨ob,es,ep,ho,r⟩:=hm
   #⟨ob,es,ep,k _ ob (λz=>(hch _ z).2.1 rfl) ho,r⟩
 . #(I.hok b u e).k9 (λc v hc q=>k c v ?_ q) (λc q=>q) λc xs q=>q
   rcases hc with z|z
   . subst z;#Ap c u e
   . #Ap c _ z
end
def IC (K:ad2)(a b:J):It:=
 ⟨λi H=>∃xs ys x y,aB K H a xs/\aB K H b ys/\xs[i]?=S x/\ys[i]?=S y,
  λi H v H'=>∃p x y,H p=Z/\v=.ref p/\H'=upd H p (.tup [x,y])/\∀xs ys,aB K H a xs->aB K H b ys->xs[i]?=S x/\ys[i]?=S y,
  λi H=>∃xs ys,aB K H a xs/\aB K H b ys/\(xs~<=i\/ys~<=i)⟩
def Cy {P:Program}{w:World}{K:ad2}{elts:O Expr}{x1:Nat}{tp:Pos}{a b z TI TO i1 i2:J}(D:ag2 z TI TO i1 i2 a b) :
   Turn P w K (.Tuple elts x1 tp) (IC K a b) [z,TI,TO,i1,i2] z (λi h=>IsZip h z TI TO .none/\IsPair h TI (.ref i1) (.ref i2)/\(∃x y,IsPair h TO x y)/\h.IsListIter i1 a i/\h.IsListIter i2 b i) where
 mem:=by simp
 obj:=λi h st c hc=>by
   @⟨hz,hTI,⟨x,y,xo⟩,⟨o1,e1,c1,d1⟩,⟨o2,e2,c2,d2⟩⟩:=st
   simp only[aew,aep,or_false]at hc
   rcases hc with rfl|rfl|rfl|rfl|rfl
   . #⟨_,hz,λv q=>nomatch q⟩
   . #⟨_,hTI,λv q=>nomatch q⟩
   . #⟨_,xo,λv q=>nomatch q⟩
   . #⟨_,e1,λv q=>by rw[d1]at q;cases q⟩
   . #⟨_,e2,λv q=>by rw[d2]at q;cases q⟩
 keep:=λi h h' st k=>by
   @⟨hz,hTI,⟨x,y,xo⟩,h1,h2⟩:=st
   #⟨k z (by simp) _ hz,k TI (by simp) _ hTI,⟨x,y,k TO (by simp) _ xo⟩,h1.at λo e=>k i1 (by simp) o e,h2.at λo e=>k i2 (by simp) o e⟩
 item:=by
   intro X hP hw hK hc i pins s σ H E I hf st hg
   subst hP hw hK
   @⟨xs,ys,x,y,kq,qW,hx,hy⟩:=hg
   @⟨nD,oz,p1,_⟩:=I.list kq
   @⟨jD,yn,p2,_⟩:=I.list qW
   @⟨u,hu,ru⟩:=oz.get hx
   @⟨v,hv,rv⟩:=yn.get hy
   @⟨hz,hTI,⟨x0,y0,xo⟩,h1,h2⟩:=st
   #wpAny_pyNext_zip_item D hz hTI xo h1 h2 p1.isList p2.isList (x:=u) (y:=v) (by simpa using hu) (by simpa using hv) λh' a1 a2 a3 a4 a5 a6 hk=>?_
   #af U (wpAny_letOwnedTupleGo_zip (s:={s with heap:=h'}) a1 λqN hz' yP=>?_)
   !hT:H s.heap.objs.size=Z:=I.hok.fresh (ad5 _)
   !W2:z<s.heap.objs.size:=aee hz
   !kk:∀c o,c∉([z,TO,i1,i2]:O J)->s.heap.get? c=S o->qN.get? c=S o:=λc o kN e=>by
     simp only[aew,aep,or_false,not_or]at kN
     #yP.extBut _ _ kN.1 (hk c o kN.1 kN.2.1 kN.2.2.1 kN.2.2.2 e)
   !Z8:IsPair qN s.heap.objs.size u v:=yP.extBut _ _ (agg W2) a5
   !I1:Inv X pins σ (upd H s.heap.objs.size (.tup [x,y])) {s with heap:=qN,toks:=s.toks}:=I.many (ch:=[z,TO,i1,i2]) (λc kN=>hf c (by simp only[aew,aep,or_false]at kN ⊢;rcases kN with r|r|r|r<;>simp[r])) kk (ad5 _)
     ⟨by change 2<=sizeLine;decide,[u,v],.cons ru (.cons rv .nil),_,Z8,rfl,_,rfl⟩
   #⟨.ref s.heap.objs.size,_,I1,U,⟨_,x,y,hT,U,U,λIy Qr q1 q2=>?_⟩,?_,λc kN=>?_⟩
   . rw[I.fj q1 kq,I.fj q2 qW];#⟨hx,hy⟩
   . #⟨hz',yP.extBut _ _ D.TIz (hk _ _ D.TIz D.TITO D.TIi1 D.TIi2 hTI),⟨_,_,yP.extBut _ _ D.TOz a2⟩,a3.extBut yP.extBut D.i1z,a4.extBut yP.extBut D.i2z⟩
   . !lt:c<s.heap.objs.size:=by
       simp only[aew,aep,or_false]at kN
       rcases kN with rfl|rfl|rfl|rfl|rfl
       . #W2
       . #aee hTI
       . #aee xo
       . @⟨_,e,_⟩:=h1;#aee e
       . @⟨_,e,_⟩:=h2;#aee e
     rw[aj (aeA lt)]
     #(hf c kN).1
 done:=by
   intro X hP hw hK hc i pins s σ H E I hf st hg
   subst hP hw hK
   @⟨xs,ys,kq,qW,hend⟩:=hg
   @⟨nD,oz,p1,_⟩:=I.list kq
   @⟨jD,yn,p2,_⟩:=I.list qW
   !l1:=oz~
   !l2:=yn~
   @⟨hz,hTI,⟨x0,y0,xo⟩,h1,h2⟩:=st
   #wpAny_pyNext_zip_end (I.ok.hd hc) D hz hTI xo h1 h2 p1.isList p2.isList ?_ λh' hk=>⟨U,?_⟩
   . rcases hend with q|q
     . #.inl (by simp;lia)
     . #.inr (by simp;lia)
   . show I.qZ (t':=s.toks) (ch:=[z,TO,i1,i2]) (λc kN=>hf c (by simp only[aew,aep,or_false]at kN ⊢;rcases kN with r|r|r|r<;>simp[r])) λc o kN e=>by
       simp only[aew,aep,or_false,not_or]at kN
       #hk c o kN.1 kN.2.1 kN.2.2.1 kN.2.2.2 e
 self:=λt t t t t st h=>wpAny_pyIter_zip st.1 h
def JC (K:ad2)(ta:TA):TI:=λσ H R=>ta σ H λvs H1=>∃a b,vs=[.ref a,.ref b]/\(∃xs,aB K H1 a xs)/\(∃ys,aB K H1 b ys)/\R (IC K a b) H1
section
variable{X:Cx}
def K9 {a b:Expr}{ta:TA}{p pos tp:Pos}{elts:O Expr}{x1:Nat}(hg:Gl X "zip")(hm:X.mg "zip"=Z)(ha:PA X [a,b] ta)(hs:starEach [a,b] X.env=[(false,eval a X.env),(false,eval b X.env)]:=by rfl)(hs2:starEach [b] X.env=[(false,eval b X.env)]:=by rfl)
   (hb:aeT "zip"=S (.type "zip"):=by first|rfl|decide +kernel) :
   PI X (.Tuple elts x1 tp) (.Call (.Name "zip" p) [a,b] [] pos) (JC X.K ta):=by
 intro pins s σ H R I h
 #Call_ (eS I hg hm hb (aez (bH (ha pos pins s σ H _ I h) λus s1 h9=>?_) (by rw[hs,hs2]) (by rw[hs2];rfl)))
 @⟨vs,H1,I1,r1,q1⟩:=h9
 @⟨l1,l2,e,⟨xs,kq⟩,⟨ys,qW⟩,q⟩:=q1
 subst e
 @⟨u,v,rfl,ru,rv⟩:=Vals.two r1
 obtain rfl:u=aen l1:=ru
 obtain rfl:v=aen l2:=rv
 @⟨nD,oz,p1,_⟩:=I1.list kq
 @⟨jD,yn,p2,_⟩:=I1.list qW
 !Oo:l1<s1.heap.objs.size:=by@⟨_,_,e,_⟩:=p1;#aee e
 !Oq:l2<s1.heap.objs.size:=by@⟨_,_,e,_⟩:=p2;#aee e
 #call_zip_2 p1.isList p2.isList λh' hz hTI xo yK xx hsz hk=>?_
 #wpAny_pyIter_zip hz ?_
 !I2:Inv X pins σ H1 {s1 with heap:=h'}:=I1.kept (t':=s1.toks) hk
 !D:=zipApart_new Oo Oq
 #⟨_,_,_,_,H1,U,I2,Cy D,⟨hz,hTI,⟨_,_,xo⟩,yK,xx⟩,λc hc=>?_,q⟩
 simp only[aew,aep,or_false]at hc
 !up:∀k,eV X pins H1 (s1.heap.objs.size+k):=λk=>I1.nq (aff _ _) (I1.hok.fresh (aff _ _))
 rcases hc with rfl|rfl|rfl|rfl|rfl
 . #up 4
 . #up 2
 . #up 3
 . #up 0
 . #up 1
end
section
variable{K:ad2}{a b:J}{xs ys:O V}{g:TG}
def pd {tb:TS}{D:Ends}{σ:St}{H:Hp}(hlen:xs~=ys~)(Pv:Nat->St->Hp->Prop)(h0:Pv 0 σ H)(hl:∀i σ H,i<=xs~->Pv i σ H->aB K H a xs/\aB K H b ys)
   (hs:∀i x y p σ H,xs[i]?=S x->ys[i]?=S y->Pv i σ H->H p=Z->g (.ref p) σ (upd H p (.tup [x,y])) λσ2 H2=>tb {D with nx:=Pv (i+1),ct:=Pv (i+1),bk:=D.nx} σ2 H2) (hd:∀σ H,Pv xs~ σ H->D.nx σ H) :
   ∃W:Nat->Nat->St->Hp->Prop,(∃m,W 0 m σ H)/\∀i m σ H,W i m σ H ->
     ((IC K a b).stop i H/\D.nx σ H)\/((IC K a b).go i H/\∃N:St->Hp->Prop,(∀σ' H',N σ' H'->∃m',m'<m/\W (i+1) m' σ' H')/\∀x H',(IC K a b).yld i H x H'->g x σ H' λσ2 H2=>tb {D with nx:=N,ct:=N,bk:=D.nx} σ2 H2):=by
 #⟨λi m σ H=>m=xs~-i/\i<=xs~/\Pv i σ H,⟨xs~,by simp,aeG _,h0⟩,?_⟩
 rintro i m σ H ⟨rfl,hi,p⟩
 @⟨q1,q2⟩:=hl i σ H hi p
 by_cases fS:i<xs~
 . #.inr ⟨⟨xs,ys,xs[i],ys[i]'(hlen▸fS),q1,q2,by simp[fS],by simp[hlen▸fS]⟩,Pv (i+1),λσ' H' p'=>⟨xs~-(i+1),by lia,U,fS,p'⟩,λx H' y=>?_⟩
   @⟨pp,x1,y1,hn,rfl,rfl,k⟩:=y
   @⟨k1,k2⟩:=k xs ys q1 q2
   #hs i x1 y1 pp σ H k1 k2 p hn
 . !e:i=xs~:=by lia
   subst e
   #.inl ⟨⟨xs,ys,q1,q2,.inl (ad5 _)⟩,hd σ H p⟩
def jv {tifs:TT}{tm:TM}{σ0:St}{Z8:Hp->Prop}{H:Hp}(hlen:xs~=ys~)(Pv:Nat->Hp->Prop)(h0:Pv 0 H)(hl:∀i H,i<=xs~->Pv i H->aB K H a xs/\aB K H b ys)
   (turn:∀i x y p H,xs[i]?=S x->ys[i]?=S y->Pv i H->H p=Z->g (.ref p) σ0 (upd H p (.tup [x,y])) λσ2 H2=>tifs σ2 H2 λb H3=>
     if b=true then tm σ2 H3 λH4=>bt σ0 σ2/\∃m',m'<xs~-i/\(m'=xs~-(i+1)/\i+1<=xs~/\Pv (i+1) H4)else bt σ0 σ2/\∃m',m'<xs~-i/\(m'=xs~-(i+1)/\i+1<=xs~/\Pv (i+1) H3))
   (hZ:∀H,Pv xs~ H->Z8 H):hU (IC K a b) σ0 g tifs tm Z8 H:=by
 #iJ xs~ Pv h0 (λi H hi p=>⟨xs,ys,xs[i],ys[i]'(hlen▸hi),(hl i H (aeY hi) p).1,(hl i H (aeY hi) p).2,by simp[hi],by simp[hlen▸hi]⟩) (λH p=>⟨xs,ys,(hl _ H (ad5 _) p).1,(hl _ H (ad5 _) p).2,.inl (ad5 _)⟩) (λi H hi p x H' y=>?_) hZ
 @⟨pp,x1,y1,hn,rfl,rfl,k⟩:=y
 @⟨k1,k2⟩:=k xs ys (hl i H (aeY hi) p).1 (hl i H (aeY hi) p).2
 #turn i x1 y1 pp H k1 k2 p hn
end
end L2
namespace PySem
def pJ:ahC (.type "list") "keys"=pure Z:=by rw[ahX,agW];kernel_rfl
section
variable{prog:Program}{w:World}{A:Around}{E:Value->Shared->Prop}{s:Shared}
def jF {a:J}{xs:Array Value}{k:Nat}{u:Tok}{Q:Value->Shared->Prop}(hx:s.heap.get? a=S {cls:=.type "list",data:=.seq xs k})(hA:A.handled=Z)
   (h:∀h' tk e,Heap.NewAttrErr s.heap h' e (.ref a) "keys"->E (.ref e) {s with heap:=h',toks:=tk}) :
   wpAny (model prog w) A (getAttrBy (.ref a) (.str "keys" u) false) Q E s:=by
 @⟨hp,g,d,tk,os⟩:=s
 !hT:∀VC,(⟨hp,g,d,VC,os⟩ : Shared).TypeIs (.ref a) "list":=λz=>⟨_,hx,rfl⟩
 !f1:=ags
 !f3:=F.slot_list_getattribute.lookup
 !f4:=F.slot_list_getattribute.bind (.ref a)
 !f5:=am_list_getattr_none
 unfold getAttrBy
 repeat (any_goals (first|assumption|show hT _|((with_reducible change wpAny _ _ (call (agX "list.__getattribute__") _ _) _ _ _);#call_meets F.slot_list_getattribute (hT _) am_entry_list_getattribute (F.args_list_getattribute_2 _ _) (meets_getattribute_miss_list a xs k #[] "keys" _ pJ (by right)) ⟨hx,hA,λh' VC e GO=>?_⟩)|wp_step))
 @⟨t',u',he⟩:=GO.there
 change wpAny _ _ (getattributeRaised _ _ _ _ _ _ _) _ _ _
 unfold getattributeRaised
 repeat (any_goals (first|assumption|wp_step))
 #h _ _ _ GO
def kY {a:J}{xs:Array Value}{k:Nat}{Q:Option Value->Shared->Prop}(hx:s.heap.get? a=S {cls:=.type "list",data:=.seq xs k})(hA:A.handled=Z)
   (h:∀h' tk,(∀b o,s.heap.get? b=S o->h'.get? b=S o)->Q Z {s with heap:=h',toks:=tk}):wpAny (model prog w) A (ahR (.ref a) "keys") Q E s:=by
 unfold ahR getAttrBy?
 #wpAny_bind (wpAny_mkText (wpAny_bind (wpAny_attempt (jF hx hA λh' tk e ne=>?_))))
 @⟨t',u',he⟩:=ne.there
 #wpAny_bind (wpAny_isInstance (T:="AttributeError") (b:=true) ⟨_,he,U⟩ ags ?_)
 #wpAny_pure (h h' _ ne.keeps)
def jG {t:J}{vs:Array Value}{Q:O Value->Shared->Prop}(ht:s.heap.IsTuple t vs)(h:Q vs.toList s):wpAny (model prog w) A (ahn (.ref t)) Q E s:=by
 @⟨o,ho,hc,n,hd⟩:=ht
 unfold ahn
 #wpAny_bind (wpAny_typeOf (T:="tuple") ⟨o,ho,hc⟩ ?_)
 rw[aR (by left)]
 #wpAny_bind ?_
 @⟨hp,g,d,tk,os⟩:=s
 unfold seqItems?
 repeat (any_goals (first|assumption|wp_step))
 all_goals (first|(rw[hd];repeat (any_goals (first|assumption|wp_step)))|skip)
end
end PySem
namespace L2
open PySem PySem.Spec PyProof.Rows
section
variable{X:Cx}
def eG:entryFor table "dict.update.loop"=S Builtin.«dict.update.loop»:=entryFor_of_tree (by kernel_rfl)
def sJ (H:Hp)(t:V)(kv:Key×V):Prop:=∃a,t=.ref a/\H a=S (.tup [kV kv.1,kv.2])
def putAll (d:O (Key×V))(kvs:O (Key×V)):O (Key×V):=kvs.foldl (λd p=>putK d p.1 p.2) d
def rV {pins:O (J×Obj)}{σ:St}{A:Around}{D l it:J}{xs:O V}(hh:A.handled=Z) :
   ∀(n i:Nat) (j:Int) (t:Tok) (kvs d:O (Key×V)) (H:Hp) (s:Shared) (R:Result->Shared->Prop),xs~-i=n->i<=xs~->Inv X pins σ H s->H D=S (.dK d)->d~+n<=sizeLine->aB X.K H l xs->eV X pins H it->s.heap.IsListIter it l i ->
     Paired (sJ H) (xs.drop i) kvs->(∀s',Inv X pins σ (upd H D (.dK (putAll d kvs))) s'->R (.ok (.ret .none)) s') ->
     codeAny (model X.prog X.w) A (.builtin "dict.update.loop" ⟨[.ref D,.ref it,.int j t,.none],[]⟩) R s:=by
 intro n
 induction n using Nat.strongRecOn with
 | _ n ih=>
   intro i j t kvs d H s R hn hi I hD hz hq hf hit hp hR
   @⟨its,rv,p,_⟩:=I.list hq
   !hl:=rv~
   @⟨f0,f1,f2,f3,f4,f5⟩:=id hf
   #ahY eG ?_
   !hA:(A.under (.builtin "dict.update.loop" ⟨[.ref D,.ref it,.int j t,.none],[]⟩)).handled=Z:=by rw[show(A.under (.builtin "dict.update.loop" ⟨[.ref D,.ref it,.int j t,.none],[]⟩)).handled=A.handled from rfl];#hh
   generalize A.under (.builtin "dict.update.loop" ⟨[.ref D,.ref it,.int j t,.none],[]⟩)=A' at hA ⊢
   unfold Builtin.«dict.update.loop»
   change wpAny _ _ (pyNext (.ref it)>>=_) _ _ _
   cases hx:xs[i]? with
   | none=>
     have Tc:xs~<=i:=List.getElem?_eq_none_iff.mp hx
     #wpAny_bind (wpAny_pyNext_list_end hA hit p.isList (by simp;lia) λh' eb=>?_)
     !I1:Inv X pins σ H {s with heap:=h'}:=I.turned (t':=s.toks) (λb o hb e=>eb b o hb e) f0 f1 f3 f4 f5
     !S8:xs.drop i=[]:=ah2 Tc
     rw[S8]at hp
     cases hp
     !e:upd H D (.dK (putAll d []))=H:=by
       funext b
       unfold upd
       split
       . rename_i hb;rw[hb,hD];rfl
       . rfl
     rw[e]at hR
     change wpAny _ _ (ahh D []>>=_) _ _ _
     #wpAny_bind (wpAny_pure (wpAny_pure (hR _ I1)))
   | some x=>
     have fS:i<xs~:=(List.getElem?_eq_some_iff.mp hx).1
     @⟨u,hu,ru⟩:=rv.get hx
     !S8:xs.drop i=x::xs.drop (i+1):=by
       !e:xs[i]=x:=(List.getElem?_eq_some_iff.mp hx).2
       rw[agi fS,e]
     rw[S8]at hp
     cases hp with
     | @cons _ kv _ r Mt kr=>
       @⟨ta,rfl,GN⟩:=Mt
       obtain rfl:u=aen ta:=ru
       #wpAny_bind (wpAny_pyNext_list_item hit p.isList (x:=.ref ta) (by simpa using hu) λh' Te sb=>?_)
       !I1:Inv X pins σ H {s with heap:=h'}:=I.turned (t':=s.toks) (λb o hb e=>(sb.2 b hb).trans e) f0 f1 f3 f4 f5
       @⟨jD,yn,p2,_⟩:=I1.tuple (dY.of GN)
       @⟨w1,w2,rfl,r1,r2⟩:=Vals.two yn
       #wpAny_bind (wpAny_holding ?_)
       #wpAny_bind (wpAny_tryCatch (jG (show({s with heap:=h'}:Shared).heap.IsTuple ta #[w1,w2]from(show IsTup h' ta #[w1,w2]by simpa using p2)) ?_))
       change wpAny _ _ (holding [w1,w2] (dictSet D w1 w2)) _ _ _
       @⟨z,qQ,vs,rel,dd⟩:=vp I1.hok hD
       !UC:vs~<=sizeLine:=by rw[← rel~];#z
       !hln:(putK d kv.1 kv.2)~<=d~+1:=cj d kv.1 kv.2
       !NV:n=xs~-(i+1)+1:=by lia
       #wpAny_holding (wpAny_dictSet_pairs (hsz:=UC) (jE r1) dd λh2 oX hs2=>?_)
       !he:∃q,h2.get? D=S q:=by@⟨q,_,_,hq,_⟩:=oX;#⟨q,hq⟩
       !Nn:D≠it:=λz=>by rw[z,f0]at hD;cases hD
       !hlD:aB X.K (upd H D (.dK (putK d kv.1 kv.2))) l xs:=by
         rcases hq with(q|⟨o,q⟩)|q
         . #.inl (.inl (by rw[aj (eJ q hD (λz=>nomatch z))];#q))
         . #.inl (.inr ⟨o,by rw[aj (eJ q hD (λz=>nomatch z))];#q⟩)
         . #.inr q
       #wpAny_pure ⟨afF _ (by right),?_⟩
       #ih (xs~-(i+1)) (by lia) (i+1) _ _ r (putK d kv.1 kv.2) (upd H D (.dK (putK d kv.1 kv.2))) _ R rfl fS (gN (t':=_) I1 (by rw[hD];#aeh) hs2 he (oY (by lia) qQ (rel.put kv.1 r2) oX)) ae (by lia) hlD ⟨by rw[aj Nn.symm];#f0,hf.2⟩ (Te.extBut hs2.extBut Nn.symm) ?_ ?_
       . #Paired.aP kr λa b ⟨c,e1,e2⟩=>⟨c,e1,by rw[aj (eJ e2 hD (λz=>nomatch z))];#e2⟩
       . intro s' I'
         rw[da]at I'
         #hR s' I'
def vQ (K:ad2):O V->Hp->VK->Prop:=λvs H Q=>∃l xs kvs,vs=[.ref l]/\H l=S (.lst xs)/\Paired (sJ H) xs kvs/\∀D,H D=Z->Q (.ref D) (upd H D (.dK (putAll [] kvs)))
def kK (hc:X.calm=true):fE X (.type "dict") (vQ X.K):=by
 intro pins s σ H vs us Q I r h
 @⟨l,xs,kvs,rfl,hl,hp,q⟩:=h
 @⟨u,rfl,ru⟩:=vals1 r
 obtain rfl:u=aen l:=ru
 !hh:X.A.handled=Z:=I.ok.hd hc
 !hD:H s.heap.objs.size=Z:=I.hok.fresh (ad5 _)
 !I1:Inv X pins σ (upd H s.heap.objs.size (.dK [])) {s with heap:=s.heap.push {cls:=.type "dict",data:=.dict #[]} }:=I.laid (t':=s.toks) (λy y e=>ad6 _ e) (ad5 _) (l9 s.heap I.big)
 #callType_codes (Q₁:=λobj s₁=>obj=.ref s.heap.objs.size/\s₁={s with heap:=s.heap.push {cls:=.type "dict",data:=.dict #[]} }) F.kt_called_dict (F.kt_typeCall_dict_1 _) F.entry_dict_init (kt_code_dict_new _ ⟨U,U⟩) ?_
 rintro obj s₁ ⟨rfl,rfl⟩
 !qS:(s.heap.push {cls:=.type "dict",data:=.dict #[]}).DictOf (bc X.prog X.w) s.heap.objs.size []:=ag1 s.heap
 generalize Um:({s with heap:=s.heap.push {cls:=.type "dict",data:=.dict #[]} }:Shared)=s1 at I1 ⊢
 !zX:s1.heap.DictOf (bc X.prog X.w) s.heap.objs.size []:=by rw[← Um];#qS
 generalize s.heap.objs.size=D at hD I1 zX ⊢
 !hl1:(upd H D (.dK [])) l=S (.lst xs):=by rw[aj (ai hl hD)];#hl
 #⟨zX.typeIs,F.args_dict_init_2 _ _,?_⟩
 unfold Builtin.«dict.__init__»
 #wpAny_bind ?_
 unfold ahg
 #wpAny_bind (wpAny_notOrdered_dict zX.typeIs ?_)
 change wpAny _ _ (pure (D,[aen l])) _ _ _
 #wpAny_pure ?_
 change wpAny _ _ (afx "dict.__init__" D (.ref l) [] .none) _ _ _
 unfold afx
 @⟨z,its,n,rv,e⟩:=(show bw X.prog X.w _ s1.heap l (.lst xs)from I1.hok l _ hl1)
 #wpAny_bind (wpAny_typeOf (T:="list") ⟨_,e,U⟩ ?_)
 rw[aR (by left)]
 #wpAny_bind (kY e hh λh' tk hk=>?_)
 rw[aR (show(Option.isNone (Z:Option Value))=true from rfl)]
 !I2:Inv X pins σ (upd H D (.dK [])) {s1 with heap:=h',toks:=tk}:=I1.kept hk
 #wpAny_bind (wpAny_rule ?_)
 #wpAny_bind (wpAny_pyIter_list ⟨_,hk _ _ e,U,n,U⟩ ?_)
 !I3:=I2.kept (h':=h'.push {cls:=.type "list_iterator",data:=.fields #[.ref l,.int 0 0]}) (t':=tk) λb o e=>ad6 _ e
 #wpAny_pure ⟨afF _ (by right),?_⟩
 #rV (l:=l) (it:=h'.objs.size) (xs:=xs) (d:=[]) (kvs:=kvs) (pins:=pins) (σ:=σ) (A:=X.A.in1) (show X.A.in1.handled=Z from hh) xs~ 0 _ _ _ _ _ (by simp) (aeG _) I3 ae (by simpa using z) (aB.of hl1) (I2.nq (ad5 _) (I2.hok.fresh (ad5 _))) ⟨_,aeq _ rfl,U,U⟩ ?_ ?_
 . #Paired.aP hp λa b ⟨c,e1,e2⟩=>⟨c,e1,by rw[aj (ai e2 hD)];#e2⟩
 . intro s' I'
   rw[da]at I'
   #⟨U,.ref D,_,I',U,q D hD⟩
end
end L2
namespace L2
open PySem PySem.Spec PyProof.Rows SeqAt
inductive EB (K:ad2) (H:Hp):Nat->V->V->Bool->Prop where
 | flat {n:Nat} {x y:V}:cM x=true->cM y=true->EB K H n x y (jU x y)
 | same {n:Nat} {a:J}:EB K H n (.ref a) (.ref a) true
 | lst {n:Nat} {a b:J} {xs ys:O V} {e:Nat->Bool}:a≠b->aB K H a xs->aB K H b ys->xs~=ys~->(∀j x y,xs[j]?=S x->ys[j]?=S y->EB K H n x y (e j)) ->
     EB K H (n+1) (.ref a) (.ref b) ((aem xs~).all e)
 | len {n:Nat} {a b:J} {xs ys:O V}:a≠b->aB K H a xs->aB K H b ys->xs~≠ys~->EB K H n (.ref a) (.ref b) false
 | tup {n:Nat} {a b:J} {xs ys:O V} {e:Nat->Bool}:a≠b->dY K H a xs->dY K H b ys->(∀j x y,xs[j]?=S x->ys[j]?=S y->EB K H n x y (e j)) ->
     EB K H (n+1) (.ref a) (.ref b) ((aem (min xs~ ys~)).all e&&xs~==ys~)
section
variable{X:Cx}{pins:O (J×Obj)}{σ:St}{H:Hp}{s:Shared}
def gq {K:ad2}{n:Nat}{A:Around}{xs ys:O V}{us vs:O Value}{e:Nat->Bool}(rv:Vals xs us)(rw':Vals ys vs)
   (h:∀j x y,xs[j]?=S x->ys[j]?=S y->∀(A:Around) (u v:Value),RelV x u->RelV y v->A.units+n<cLine->EqAt A s u v (e j)) (hu:A.units+(n+1)<cLine) :
   ∀j (h1:j<us.toArray.size) (h2:j<vs.toArray.size),EqAt A.in1 s us.toArray[j] vs.toArray[j] (e j):=λj h1 h2=>by
 !l1:=rv~
 !l2:=rw'~
 !ZW:j<us~:=by simpa using h1
 !qN:j<vs~:=by simpa using h2
 !hx:xs[j]?=S (xs[j]'(by lia)):=ad3 _
 !hy:ys[j]?=S (ys[j]'(by lia)):=ad3 _
 @⟨u,tU,ru⟩:=rv.get hx
 @⟨v,hv1,oz⟩:=rw'.get hy
 !eu:us[j]=u:=by !:=ad3 ZW;rw[tU]at this;#(aej this).symm
 !ev:vs[j]=v:=by !:=ad3 qN;rw[hv1]at this;#(aej this).symm
 !q:=h j _ _ hx hy A.in1 u v ru oz (by change A.units+1+n<cLine;lia)
 simpa[eu,ev]using q
def EB.at (I:Inv X pins σ H s){n:Nat}{x y:V}{b:Bool}(q:EB X.K H n x y b):∀(A:Around) (u v:Value),RelV x u->RelV y v->A.units+n<cLine->EqAt A s u v b:=by
 induction q with
 | flat h1 h2=>#λA u v ru rv z=>tF ru rv h1 h2
 | same=>intro A u v ru rv _;cases ru;cases rv;#EqAt.same _
 | @lst n a b xs ys e Ea ha hb hl _ ih=>
   intro A u v ru rv hu
   cases ru;cases rv
   @⟨us,r1,p1,_⟩:=I.list ha
   @⟨vs,r2,p2,_⟩:=I.list hb
   !l1:=r1~
   !l2:=r2~
   !q:=RcAt.lists (A:=A) p1.isList p2.isList (by simp;lia) (by lia) (gq (K:=X.K) r1 r2 ih hu)
   rw[show us.toArray.size=xs~ by simp[l1]]at q
   #EqAt.of_refs Ea q
 | @len n a b xs ys Ea ha hb hl=>
   intro A u v ru rv hu
   cases ru;cases rv
   @⟨us,r1,p1,_⟩:=I.list ha
   @⟨vs,r2,p2,_⟩:=I.list hb
   !l1:=r1~
   !l2:=r2~
   #EqAt.of_refs Ea (RcAt.lists_lengths p1.isList p2.isList (by simp;lia) (by lia))
 | @tup n a b xs ys e Ea ha hb _ ih=>
   intro A u v ru rv hu
   cases ru;cases rv
   @⟨us,r1,p1,_⟩:=I.tuple ha
   @⟨vs,r2,p2,_⟩:=I.tuple hb
   !l1:=r1~
   !l2:=r2~
   !q:=RcAt.tuples (A:=A) (show s.heap.IsTuple a us.toArray from p1) (show s.heap.IsTuple b vs.toArray from p2) (by lia) (gq (K:=X.K) r1 r2 ih hu)
   rw[show us.toArray.size=xs~ by simp[l1],show vs.toArray.size=ys~ by simp[l2]]at q
   #EqAt.of_refs Ea q
end
def RB (K:ad2)(H:Hp)(n:Nat)(x y:V)(b:Bool):Prop:=∃a c xs ys,x=.ref a/\y=.ref c /\
 ((∃e:Nat->Bool,aB K H a xs/\aB K H c ys/\xs~=ys~/\(∀j x y,xs[j]?=S x->ys[j]?=S y->EB K H n x y (e j))/\b=(aem xs~).all e) \/
  (aB K H a xs/\aB K H c ys/\xs~≠ys~/\b=false) \/
  (∃e:Nat->Bool,dY K H a xs/\dY K H c ys/\(∀j x y,xs[j]?=S x->ys[j]?=S y->EB K H n x y (e j))/\b=((aem (min xs~ ys~)).all e&&xs~==ys~)))
section
variable{X:Cx}
def Ko {m:Nat}(hu:X.A.units+(m+1)<cLine):jb X (compareOp .Eq) (λx y H Q=>∃b,RB X.K H m x y b/\Q (.bl b) H):=by
 intro pins s σ H x y v u Q I rx ry h
 @⟨b,⟨a,c,xs,ys,rfl,rfl,q⟩,k⟩:=h
 cases rx;cases ry
 rcases q with⟨e,ha,hb,hl,he,rfl⟩|⟨ha,hb,hl,rfl⟩|⟨e,ha,hb,he,rfl⟩
 . @⟨us,r1,p1,_⟩:=I.list ha
   @⟨vs,r2,p2,_⟩:=I.list hb
   !l1:=r1~
   !l2:=r2~
   #eq_listAt p1.isList p2.isList (by simp;lia) (by lia) (gq (K:=X.K) r1 r2 (λj x y h1 h2=>(he j x y h1 h2).at I) hu) ?_
   rw[show us.toArray.size=xs~ by simp[l1]]
   #⟨.bl _,H,I,U,k⟩
 . @⟨us,r1,p1,_⟩:=I.list ha
   @⟨vs,r2,p2,_⟩:=I.list hb
   !l1:=r1~
   !l2:=r2~
   #eq_list_lengthsAt p1.isList p2.isList (by simp;lia) (by lia) ⟨.bl _,H,I,U,k⟩
 . @⟨us,r1,p1,_⟩:=I.tuple ha
   @⟨vs,r2,p2,_⟩:=I.tuple hb
   !l1:=r1~
   !l2:=r2~
   #eq_tupleAt (show s.heap.IsTuple a us.toArray from p1) (show s.heap.IsTuple c vs.toArray from p2) (by lia) (gq (K:=X.K) r1 r2 (λj x y h1 h2=>(he j x y h1 h2).at I) hu) ?_
   rw[show us.toArray.size=xs~ by simp[l1],show vs.toArray.size=ys~ by simp[l2]]
   #⟨.bl _,H,I,U,k⟩
def Kt {m:Nat}(hu:X.A.units+(m+1)<cLine):jb X (compareOp .NotEq) (λx y H Q=>∃b,RB X.K H m x y b/\Q (.bl (!b)) H):=by
 intro pins s σ H x y v u Q I rx ry h
 @⟨b,⟨a,c,xs,ys,rfl,rfl,q⟩,k⟩:=h
 cases rx;cases ry
 rcases q with⟨e,ha,hb,hl,he,rfl⟩|⟨ha,hb,hl,rfl⟩|⟨e,ha,hb,he,rfl⟩
 . @⟨us,r1,p1,_⟩:=I.list ha
   @⟨vs,r2,p2,_⟩:=I.list hb
   !l1:=r1~
   !l2:=r2~
   #RcNeAt.lists p1.isList p2.isList (by simp;lia) (by lia) (gq (K:=X.K) r1 r2 (λj x y h1 h2=>(he j x y h1 h2).at I) hu) X.prog X.w X.xe _ ?_
   rw[show us.toArray.size=xs~ by simp[l1]]
   #⟨.bl _,H,I,U,k⟩
 . @⟨us,r1,p1,_⟩:=I.list ha
   @⟨vs,r2,p2,_⟩:=I.list hb
   !l1:=r1~
   !l2:=r2~
   #RcNeAt.lists_lengths p1.isList p2.isList (by simp;lia) (by lia) X.prog X.w X.xe _ ⟨.bl _,H,I,U,k⟩
 . @⟨us,r1,p1,_⟩:=I.tuple ha
   @⟨vs,r2,p2,_⟩:=I.tuple hb
   !l1:=r1~
   !l2:=r2~
   #RcNeAt.tuples (show s.heap.IsTuple a us.toArray from p1) (show s.heap.IsTuple c vs.toArray from p2) (by lia) (gq (K:=X.K) r1 r2 (λj x y h1 h2=>(he j x y h1 h2).at I) hu) X.prog X.w X.xe _ ?_
   rw[show us.toArray.size=xs~ by simp[l1],show vs.toArray.size=ys~ by simp[l2]]
   #⟨.bl _,H,I,U,k⟩
end
def ET (K:ad2)(H:Hp)(n:Nat)(x y:V):Prop:=EB K H n x y true
def all_true {n:Nat}:(aem n).all (λz=>true)=true:=by rw[afz];intro _ _;rfl
def ET.lst {K:ad2}{H:Hp}{n:Nat}{a b:J}{xs ys:O V}(ha:aB K H a xs)(hb:aB K H b ys)(hl:xs~=ys~)(h:∀(j:Nat) (x y:V),xs[j]?=S x->ys[j]?=S y->ET K H n x y):ET K H (n+1) (.ref a) (.ref b):=by
 by_cases e:a=b
 . subst e;#.same
 . !q:=EB.lst (e:=λz=>true) e ha hb hl h
   rw[all_true]at q
   #q
def ET.tup {K:ad2}{H:Hp}{n:Nat}{a b:J}{xs ys:O V}(ha:dY K H a xs)(hb:dY K H b ys)(hl:xs~=ys~)(h:∀(j:Nat) (x y:V),xs[j]?=S x->ys[j]?=S y->ET K H n x y):ET K H (n+1) (.ref a) (.ref b):=by
 by_cases e:a=b
 . subst e;#.same
 . !q:=EB.tup (e:=λz=>true) e ha hb h
   rw[all_true,hl,beq_self_eq_true]at q
   #q
def zx {x:V}(h:cM x=true):jU x x=true:=by cases x<;>simp_all [cM,jU]
def ET.refl {K:ad2}{H:Hp}{n:Nat}{x:V}(h:cM x=true\/∃a,x=.ref a):ET K H n x x:=by
 rcases h with h|⟨a,rfl⟩
 . !q:=EB.flat (K:=K) (H:=H) (n:=n) h h
   rw[zx h]at q
   #q
 . #.same
def RB.lst {K:ad2}{H:Hp}{n:Nat}{a b:J}{xs ys:O V}(ha:aB K H a xs)(hb:aB K H b ys)(hl:xs~=ys~)(h:∀(j:Nat) (x y:V),xs[j]?=S x->ys[j]?=S y->ET K H n x y):RB K H n (.ref a) (.ref b) true:=
 ⟨a,b,xs,ys,rfl,rfl,.inl ⟨λz=>true,ha,hb,hl,h,all_true.symm⟩⟩
def RB.nil {K:ad2}{H:Hp}{n:Nat}{a b:J}{xs:O V}(ha:aB K H a xs)(hb:aB K H b []):RB K H n (.ref a) (.ref b) xs.isEmpty:=by
 cases xs with
 | nil=>#RB.lst ha hb rfl (λj x y h=>by simp at h)
 | cons x r=>#⟨a,b,_,[],rfl,rfl,.inr (.inl ⟨ha,hb,by simp,rfl⟩)⟩
section
variable{X:Cx}{pos:Pos}
def Gi (i j:Int):Prop:=0<j/\j<2^1000
def AV:jb X (binaryOp .FloorDiv) (rI Gi λi j=>.int (i/j)):=OG λi j z z z z z hc q=>by
 !h1:(0:Int)<j:=hc.1
 !h2:j<2^1000:=hc.2
 !h3:j.natAbs<2^1000:=by lia
 #floordiv_int (by lia) (by rw[Int.fdiv_eq_ediv_of_nonneg i (by lia)];#q) (.inl (PyProof.noPylong_of_log2 (aer ((Nat.log2_lt (by lia)).mpr h3) (by left))))
def Gj (i j:Int):Prop:=i.natAbs<2^1000/\j.natAbs<2^1000
def Gq {i:Int}(h:i.natAbs<2^1000):ae2 i<=1000:=by
 unfold ae2
 split
 . #aeG _
 . rename_i hi
   !h0:i.natAbs≠0:=by intro z;!:i=0:=(by lia);subst this;simp at hi
   !:=(Nat.log2_lt h0).mpr h
   lia
def E2:jb X (binaryOp .Mult) (rI Gj λi j=>.int (i*j)):=OG λi j z z z z z hc q=>by
 !b1:=Gq hc.1
 !b2:=Gq hc.2
 #mul_int q ?_
 unfold IntMulOk
 !hb:ahu ((ae2 i:Int)+(ae2 j:Int))=false:=by
   unfold ahu
   #mW ?_
   !:(2000:Int)<=(bitsLine:Int):=by rw[PySem.bitsLine_eq];decide
   lia
 !e:((ae2 i+ae2 j:Nat):Int)=(ae2 i:Int)+(ae2 j:Int):=by lia
 simp[hb]
def zd:fE X (.builtin "isinstance") (λxs H Q=>∃x n t b,xs=[x,.ty n]/\jc X.K H x t/\aey X.K t (.type n)=S b/\Q (.bl b) H):=by
 intro pins s σ H xs us Q I r h
 @⟨x,n,t,b,rfl,ty,e,q⟩:=h
 @⟨u,v,rfl,ru,rv⟩:=Vals.two r
 obtain rfl:v=ahK n:=rv
 #xF I ru ty e λtk=>⟨.bl b,H,I.tok tk,U,q⟩
end
end L2
namespace TW
open PySem L2
inductive K2 where
 | plus|less|same|under|both
def K2.str:K2->Str
 | .plus=>"plus" | .less=>"less" | .same=>"same" | .under=>"under" | .both=>"both"
inductive E where
 | num (n:Int)|box (tag x:Str)|yes|nt (a:E)|two (k:K2) (a b:E)
def Tp (H:Hp)(v:V)(xs:O V):Prop:=∃p,v=.ref p/\H p=S (.tup xs)
def dP (H:Hp):V->E->Prop
 | v,.num n=>Tp H v [.str "number",.int n]
 | v,.box t x=>Tp H v [.str t,.str x]
 | v,.yes=>Tp H v [.str "yes"]
 | v,.nt a=>∃x,Tp H v [.str "not",x]/\dP H x a
 | v,.two k a b=>∃x y,Tp H v [.str k.str,x,y]/\dP H x a/\dP H y b
def TK (H H':Hp):Prop:=∀b xs,H b=S (.tup xs)->H' b=S (.tup xs)
def TK.trans {A B C:Hp}(a:TK A B)(b:TK B C):TK A C:=λc o h=>b c o (a c o h)
def Tp.keep {H H':Hp}{v:V}{xs:O V}(k:TK H H')(h:Tp H v xs):Tp H' v xs:=by@⟨p,e,q⟩:=h;#⟨p,e,k p xs q⟩
theorem dP.keep {H H':Hp}(k:TK H H'):∀{e:E} {v:V},dP H v e->dP H' v e
 | .num _,_,h=>Tp.keep k h
 | .box _ _,_,h=>Tp.keep k h
 | .yes,_,h=>Tp.keep k h
 | .nt _,_,⟨x,h,a⟩=>⟨x,h.keep k,dP.keep k a⟩
 | .two _ _ _,_,⟨x,y,h,a,b⟩=>⟨x,y,h.keep k,dP.keep k a,dP.keep k b⟩
def E.dep:E->Nat
 | .num _=>0|.box _ _=>0|.yes=>0|.nt a=>a.dep+1|.two _ a b=>max a.dep b.dep+1
def E.i5:E->Prop
 | .num _=>True
 | .box _ _=>True
 | .two .plus a b=>a.i5/\b.i5
 | .two .less a b=>a.i5/\b.i5
 | _=>False
def E.kX:E->Prop
 | .yes=>True
 | .nt a=>a.kX
 | .two .same a b=>a.i5/\b.i5
 | .two .under a b=>a.i5/\b.i5
 | .two .both a b=>a.kX/\b.kX
 | _=>False
def E.okIn (P:Str->Str->Prop):E->Prop
 | .num n=>n.natAbs<2^100|.box t x=>P t x|.yes=>True|.nt a=>a.okIn P|.two _ a b=>a.okIn P/\b.okIn P
theorem E.okIn.imp {P Q:Str->Str->Prop}(f:∀t x,P t x->Q t x):∀{e:E},e.okIn P->e.okIn Q
 | .num _,h=>h|.box t x,h=>f t x h|.yes,_=>aeh|.nt a,h=>E.okIn.imp f (e:=a) h|.two _ a b,h=>⟨E.okIn.imp f (e:=a) h.1,E.okIn.imp f (e:=b) h.2⟩
def E.worth (w:Str->Str->Int):E->Int
 | .num n=>n
 | .box t x=>w t x
 | .two .plus a b=>a.worth w+b.worth w
 | .two .less a b=>a.worth w-b.worth w
 | _=>0
def E.holds (w:Str->Str->Int):E->Bool
 | .yes=>true
 | .nt a=>!(a.holds w)
 | .two .same a b=>decide (a.worth w=b.worth w)
 | .two .under a b=>decide (a.worth w<b.worth w)
 | .two .both a b=>a.holds w&&b.holds w
 | _=>false
inductive Nd where
 | put (x:Str) (s:E) (n:Int)|say (s:E) (n:Int)|test (c:E) (n o:Int)|fin
def bZ (H:Hp):V->Nd->Prop
 | v,.put x s n=>∃u,Tp H v [.str "put",.str x,u,.int n]/\dP H u s
 | v,.say s n=>∃u,Tp H v [.str "say",u,.int n]/\dP H u s
 | v,.test c n o=>∃u,Tp H v [.str "test",u,.int n,.int o]/\dP H u c
 | v,.fin=>Tp H v [.str "end"]
theorem bZ.keep {H H':Hp}(k:TK H H'):∀{e:Nd} {v:V},bZ H v e->bZ H' v e
 | .put _ _ _,_,⟨u,h,a⟩=>⟨u,h.keep k,a.keep k⟩
 | .say _ _,_,⟨u,h,a⟩=>⟨u,h.keep k,a.keep k⟩
 | .test _ _ _,_,⟨u,h,a⟩=>⟨u,h.keep k,a.keep k⟩
 | .fin,_,h=>Tp.keep k h
theorem bZ.ref {H:Hp}:∀{e:Nd} {v:V},bZ H v e->∃a,v=.ref a
 | .put _ _ _,_,⟨_,⟨p,h,_⟩,_⟩=>⟨p,h⟩
 | .say _ _,_,⟨_,⟨p,h,_⟩,_⟩=>⟨p,h⟩
 | .test _ _ _,_,⟨_,⟨p,h,_⟩,_⟩=>⟨p,h⟩
 | .fin,_,⟨p,h,_⟩=>⟨p,h⟩
def Nd.good (P:Str->Prop)(many:Int)(d:Nat):Nd->Prop
 | .put x s n=>P x/\s.i5/\s.okIn (λt y=>t="box"/\P y)/\s.dep<=d/\0<=n/\n<many
 | .say s n=>s.i5/\s.okIn (λt y=>t="box"/\P y)/\s.dep<=d/\0<=n/\n<many
 | .test c n o=>c.kX/\c.okIn (λt y=>t="box"/\P y)/\c.dep<=d/\0<=n/\n<many/\0<=o/\o<many
 | .fin=>True
def Kp (d:J)(H H':Hp):Prop:=∀b o,H b=S o->b≠d->H' b=S o
def Kp.refl {d:J}(H:Hp):Kp d H H:=λz z h z=>h
def Kp.trans {d:J}{A B C:Hp}(a:Kp d A B)(b:Kp d B C):Kp d A C:=λc o h n=>b c o (a c o h n) n
def Kp.new {d:J}{H H':Hp}{p:J}{o:HO}(k:Kp d H H')(h:H' p=Z):Kp d H (upd H' p o):=λb u e n=>by
 rw[aj (ai (k b u e n) h)];#k b u e n
def Kp.self {d:J}{H H':Hp}{o:HO}(k:Kp d H H'):Kp d H (upd H' d o):=λb u e n=>by rw[aj n];#k b u e n
def Kp.same {d:J}{H H1 H2:Hp}(k:Kp d H H1)(s:ak H1 H2):Kp d H H2:=λb u e n=>s b u (k b u e n)
def ah {H:Hp}{p:J}(h:H p=Z)(o:HO):ak H (upd H p o):=λb u q=>by rw[aj (ai q h)];#q
def ak.tk {H H':Hp}(s:ak H H'):TK H H':=λb xs h=>s b _ h
def aG {H:Hp}{p:J}(h:H p=Z)(o:HO):TK H (upd H p o):=ak.tk (ah h o)
def small {n:Nat}(h:n<=1000):n<=sizeLine:=aeY (aD h)
def cE (H:Hp)(v:V)(b:Str×Int):Prop:=Tp H v [.str b.1,.int b.2]
structure aN (H:Hp)(v:V)(bs:ag)(ins:O Str)(nds:O Nd):Prop where
 at_:∃p B I N vb vn,v=.ref p/\H p=S (.tup [.ref B,.ref I,.ref N])/\H B=S (.lst vb)/\H I=S (.lst (ins.map V.str))/\H N=S (.lst vn)/\Paired (cE H) vb bs/\Paired (bZ H) vn nds
end TW
set_option exponentiation.threshold 4000
namespace TW
open PySem L2
def Src (K:ad2)(mg:Str->Option Value)(x:Str)(st:Stmt):Prop:=∃f fd,cF K x x st f fd/\mg x=S (.ref f)
def bI (P:Program)(w:World)(K:ad2)(mg:Str->Option Value)(base:Heap)(x:Str)(ps:O Str)(k:Nat)(sp:Sp):Prop:=
 ∃f fd,aL P w K mg base cm k f fd ps sp/\aeV K (.ref f)=true/\Binds K fd ps []/\mg x=S (.ref f)
def bI.mono {P:Program}{w:World}{K:ad2}{mg:Str->Option Value}{base:Heap}{x:Str}{ps:O Str}{j k:Nat}{sp:Sp}(h:bI P w K mg base x ps j sp)(hk:j<=k):bI P w K mg base x ps k sp:=
 let⟨f,fd,a,b,c,d⟩:=h;⟨f,fd,a.mono hk,b,c,d⟩
def bI.imp {P:Program}{w:World}{K:ad2}{mg:Str->Option Value}{base:Heap}{x:Str}{ps:O Str}{k:Nat}{sp sp':Sp}(h:bI P w K mg base x ps k sp)(f:∀vs H Q E,sp' vs H Q E->sp vs H Q E):bI P w K mg base x ps k sp':=
 let⟨g,fd,a,b,c,d⟩:=h;⟨g,fd,a.imp f,b,c,d⟩
def bj {A:Around}{k:Nat}(hr:cG k A)(m:Nat)(hm:m<=64):A.units+m<cLine:=by !:=hr.units;lia
end TW
namespace L2
open PySem PySem.Spec PyProof.Rows
structure bT (e:Expr):Prop where
 h:∀(es:O Expr) (env:Env),starEach (e::es) env=(false,eval e env)::starEach es env
def hJ {e:Expr}(h:∀x p,e≠.Starred x p):bT e:=⟨λes env=>by
 cases e<;>first|rfl|show aw rfl (h _ _)⟩
def jJ {c k p}:bT (.Constant c k p):=hJ λy y z=>nomatch z
def gS {x p}:bT (.Name x p):=hJ λy y z=>nomatch z
def gR {f a k p}:bT (.Call f a k p):=hJ λy y z=>nomatch z
def ue {a o b p}:bT (.BinOp a o b p):=hJ λy y z=>nomatch z
def jf {a b p}:bT (.Subscript a b p):=hJ λy y z=>nomatch z
def AE {a b p}:bT (.Tuple a b p):=hJ λy y z=>nomatch z
def AD {a p}:bT (.List a p):=hJ λy y z=>nomatch z
def AB {a b c p}:bT (.Compare a b c p):=hJ λy y z=>nomatch z
def G0 {a b c p}:bT (.ListComp a b c p):=hJ λy y z=>nomatch z
def G1 {a b p}:bT (.UnaryOp a b p):=hJ λy y z=>nomatch z
def vJ {a b p}:bT (.Attribute a b p):=hJ λy y z=>nomatch z
def jr (es:O Expr):Prop:=∀(pos:Pos) (env:Env),(backTo pos (starEach es env)).any (·.1)=false
def Eu:jr []:=λz z=>rfl
def AG {e:Expr}{es:O Expr}(h:bT e)(hs:jr es):jr (e::es):=λpos env=>by
 rw[h.h es env]
 #hs pos env
structure qt (X:Cx)(es:O Expr)(t:TA):Prop where
 pa:PA X es t
 ns:∀e r,es=e::r->bT e/\jr r
 nss:jr es
section
variable{X:Cx}{e:Expr}{es:O Expr}{te:TE}{t:TA}{pos:Pos}
def an:qt X [] Cs:=⟨Kz,(λy y z=>nomatch z),Eu⟩
def ac (ha:PE X e te)(hr:qt X es t)
   (hs:bT e:=by first|show jJ|show gS|show gR|show ue|show jf|show AE|show AD|show AB|show G0|show OD|show G1|show Es|show vJ):qt X (e::es) (Cn te t):=
 ⟨E8 ha hr.pa (hs.h es X.env),λe' r z=>by injection z with z1 z2;subst z1 z2;#⟨hs,hr.nss⟩,AG hs hr.nss⟩
def VQ {x1}(h:qt X es t):PE X (.Tuple es x1 pos) (LN t):=K4 h.pa
def VO (h:qt X es t):PE X (.List es pos) (LM t):=KS h.pa
def LV {x:Str}{p:Pos}{id:String}{r:O V->Hp->VK->Prop}(hc:fE X (.builtin id) r)(hg:Gl X x)(hm:X.mg x=Z)(hv:aeT x=S (.builtin id))(ha:qt X (e::es) t)(hn:x≠"__name__":=by left)(hdb:(x==("__debug__":Str))=false:=by left) :
   PE X (.Call (.Name x p) (e::es) [] pos) (MP r t):=A8 hc hg hm hv ha.pa hn hdb ((ha.ns e es rfl).1.h es X.env) ((ha.ns e es rfl).2 pos X.env)
def LW {x:Str}{p:Pos}{T:String}{r:O V->Hp->VK->Prop}(hc:fE X (.type T) r)(hg:Gl X x)(hm:X.mg x=Z)(hv:aeT x=S (.type T))(ha:qt X (e::es) t)(hn:x≠"__name__":=by left)(hdb:(x==("__debug__":Str))=false:=by left) :
   PE X (.Call (.Name x p) (e::es) [] pos) (MP r t):=yd hc hg hm hv ha.pa hn hdb ((ha.ns e es rfl).1.h es X.env) ((ha.ns e es rfl).2 pos X.env)
def VP {x:Str}{p:Pos}{ps:O Str}{k:Nat}{sp:Sp}(D:TW.bI X.prog X.w X.K X.mg X.base x ps k sp)(hr:cG k X.A)(hg:Gl X x)(ha:qt X (e::es) t)(hdb:(x==("__debug__":Str))=false:=by left) :
   PE X (.Call (.Name x p) (e::es) [] pos) (mS sp [] E0 t):=
 let⟨_,_,G,kp,b,m⟩:=D
 pR G hr hg m kp b .nil rp ha.pa hdb ((ha.ns e es rfl).1.h es X.env) ((ha.ns e es rfl).2 pos X.env)
def Ge {tg a:Expr}{ta:TA}{p:Pos}(hg:Gl X "range")(hm:X.mg "range"=Z)(ha:qt X [a] ta):PI X tg (.Call (.Name "range" p) [a] [] pos) (Af ta):=
 ye hg hm ha.pa ((ha.ns a [] rfl).1.h [] X.env)
def VR {a b:Expr}{ta:TA}{p tp:Pos}{elts:O Expr}{x1:Nat}(hg:Gl X "zip")(hm:X.mg "zip"=Z)(ha:qt X [a,b] ta)(hb:bT b:=by first|show gS|show jf|show gR):PI X (.Tuple elts x1 tp) (.Call (.Name "zip" p) [a,b] [] pos) (JC X.K ta):=
 K9 hg hm ha.pa (by rw[(ha.ns a [b] rfl).1.h [b] X.env,hb.h [] X.env];rfl) (by rw[hb.h [] X.env];rfl)
def VN {o:Expr}{name:Str}{apos:Pos}{T id:String}{r:V->O V->Hp->VK->Prop}{to:TE}(pa:PlainAttrs T)(slot:Slot T name id)(hty:typeOf (.builtin id)=pure (.type "method_descriptor"))(hm:Qy X id r)(ho:PE X o to)(ha:qt X [e] t)
   (hbase:afd o name X.env (eval o X.env)=eval o X.env:=by rfl) (hline:(apos.endLine==pos.line)=true:=by rfl):PE X (.Call (.Attribute o name apos) [e] [] pos) (LL X.K T r to t):=
 G8 pa slot hty hm ho ha.pa hbase (by rw[(ha.ns e [] rfl).1.h [] X.env];rfl) hline ((ha.ns e [] rfl).1.h [] X.env) ((ha.ns e [] rfl).2 pos X.env)
end
end L2
namespace L3
open PySem PySem.Spec PyProof.Rows L2
def bM {CX:sr}{P:Program}{w:World}{K:ad2}{mg:Str->Option Value}{base:Heap}{N:O Str}{qual:Str}{scope:Scope}{f:J}{cd:Value}{A:Around}{outer:O Env}{s0:Shared}{H0:Hp}{E:XK}:(gM CX P w K mg base N qual scope f cd A outer s0 H0 E).Er.K=K:=rfl
def ba {CX:sr}{P:Program}{w:World}{K:ad2}{mg:Str->Option Value}{base:Heap}{N:O Str}{qual:Str}{scope:Scope}{f:J}{cd:Value}{A:Around}{outer:O Env}{s0:Shared}{H0:Hp}{E:XK}{N':O Str}{sc:Scope}{s:Shared}{H:Hp}{C:J}{fp:O J}{xe:Value->Shared->Prop}:(eQ (gM CX P w K mg base N qual scope f cd A outer s0 H0 E).Er N' sc s H C fp xe).K=K:=rfl
structure SE (X:Cx)(e:Expr)(t:TE):Prop where
 h:PE X e t
structure ST (X:Cx)(e:Expr)(t:TT):Prop where
 h:PT X e t
structure SW (X:Cx)(e:Expr)(t:TT):Prop where
 h:PW X e t
structure SA (X:Cx)(es:O Expr)(t:TA):Prop where
 h:qt X es t
structure SS (X:Cx)(s:Stmt)(t:TS):Prop where
 h:PS X s t
structure SL (X:Cx)(ss:O Stmt)(t:TS):Prop where
 h:mV X ss t
structure SG (X:Cx)(e:Expr)(t:TG):Prop where
 h:PG X e t
structure QA (X:Cx)(es:O Expr)(t:C0):Prop where
 h:MX X es t
structure SI (X:Cx)(tg iter:Expr)(t:TI):Prop where
 h:PI X tg iter t
structure IH (X:Cx)(cs:O Expr)(t:TT):Prop where
 h:jX X cs t
structure SO (X:Cx)(f:Value->Value->Sem Value)(r:R2):Prop where
 h:jb X f r
structure SX (X:Cx)(r:R2):Prop where
 h:Qx X r
structure SC (X:Cx)(f:Value)(r:O V->Hp->VK->Prop):Prop where
 h:fE X f r
structure SM (X:Cx)(id:String)(r:V->O V->Hp->VK->Prop):Prop where
 h:Qy X id r
section
variable{X:Cx}{a b c e o:Expr}{es:O Expr}{ta tb tc te:TE}{t:TA}{tA uB:TT}{pos:Pos}{r:R2}
def v (i:Nat){x:Str}(hN:X.N[i]?=S x:=by rfl)(hv:QB X.env.scope x:=by first|show Or.inl rfl|show Or.inr (Or.inl rfl)|show Or.inr (Or.inr rfl))(hd:(x==("__debug__":Str))=false:=by left)
   (hcd:(x==("__classdict__":Str))=false:=by left):SE X (.Name x pos) (qg i):=⟨K5 hN hv hd hcd⟩
theorem int {i j}:SE X (.Constant (.int i) j pos) (tC (.int i)):=⟨KR⟩
theorem bl {k j}:SE X (.Constant (.bool k) j pos) (tC (.bl k)):=⟨OU⟩
theorem bA {j}:SE X (.Constant .none j pos) (tC .bA):=⟨KU⟩
theorem str {x j}:SE X (.Constant (.str x) j pos) (tC (.str x)):=⟨K3⟩
def glob {x:Str}{w:V}{u:Value}(hg:Gl X x)(hm:X.mg x=S u)(r:RelV w u)(hd:(x==("__debug__":Str))=false:=by left):SE X (.Name x pos) (tC w):=⟨Ff hg hm r hd⟩
def IW {x:Str}{w:V}{u:Value}(hg:Gl X x)(hm:X.mg x=Z)(hv:aeT x=S u)(r:RelV w u)(hn:x≠"__name__":=by left)(hd:(x==("__debug__":Str))=false:=by left):SE X (.Name x pos) (tC w):=⟨Fc hg hm hv r hn hd⟩
def op {k:Operator}(ho:SO X (binaryOp k) r)(ha:SE X a ta)(hb:SE X b tb):SE X (.BinOp a k b pos) (Dl r ta tb):=⟨OY ho.h ha.h hb.h⟩
def cmp {k:CmpOp}(ho:SO X (compareOp k) r)(ha:SE X a ta)(hb:SE X b tb)(hm:afj k b=false:=by#Av _):ST X (.Compare a [k] [b] pos) (Cu (Dl r ta tb)):=⟨FH ho.h ha.h hb.h hm⟩
def gK {k:CmpOp}(ho:SO X (compareOp k) r)(ha:SE X a ta)(hb:SE X b tb)(hm:afj k b=false:=by#Av _):SE X (.Compare a [k] [b] pos) (Dl r ta tb):=⟨Fd ho.h ha.h hb.h hm⟩
def cX:SO X (binaryOp .Add) (ym λi j=>.int (i+j)):=⟨Km⟩
def ku:SO X (binaryOp .Sub) (ym λi j=>.int (i-j)):=⟨Kw⟩
def dZ:SO X (binaryOp .Mult) (rI Dm λi j=>.int (i*j)):=⟨Ks⟩
def JS:SO X (binaryOp .Mult) (rI Gj λi j=>.int (i*j)):=⟨E2⟩
def aU:SO X (binaryOp .Mod) (rI (λz j=>0<j) λi j=>.int (i%j)):=⟨Kr⟩
def fz:SO X (binaryOp .FloorDiv) (rI Gi λi j=>.int (i/j)):=⟨AV⟩
def mz:SO X (binaryOp .Pow) (rI MR λi j=>.int (i^j.toNat)):=⟨Ku⟩
def gB:SO X (binaryOp .Add) Pa:=⟨Kn⟩
def bO:SO X (compareOp .Eq) Xo:=⟨OI⟩
def JT:SO X (compareOp .NotEq) Xp:=⟨OM⟩
def jg:SO X (compareOp .Lt) (ym λi j=>.bl (decide (i<j))):=⟨OL⟩
def Ew:SO X (compareOp .Gt) (ym λi j=>.bl (decide (j<i))):=⟨OK⟩
def AI:SO X (compareOp .GtE) (ym λi j=>.bl (decide (j<=i))):=⟨OJ⟩
def rj {KK:ad2}{m:Nat}(hu:X.A.units+(m+1)<cLine)(hK:X.K=KK:=by first|show L3.bM|show L3.ba|rfl):SO X (compareOp .Eq) (λx y H Q=>∃b,RB KK H m x y b/\Q (.bl b) H):=by
 subst hK
 #⟨Ko hu⟩
def oq {KK:ad2}{m:Nat}(hu:X.A.units+(m+1)<cLine)(hK:X.K=KK:=by first|show L3.bM|show L3.ba|rfl):SO X (compareOp .NotEq) (λx y H Q=>∃b,RB KK H m x y b/\Q (.bl (!b)) H):=by
 subst hK
 #⟨Kt hu⟩
def pN {KK:ad2}(hK:X.K=KK:=by first|show L3.bM|show L3.ba|rfl):SO X (compareOp .In) (Rm KK false):=by
 subst hK
 #⟨xZ⟩
def pO {KK:ad2}(hK:X.K=KK:=by first|show L3.bM|show L3.ba|rfl):SO X (compareOp .NotIn) (Rm KK true):=by
 subst hK
 #⟨pP⟩
def G4:SO X (compareOp .Is) (λx y H Q=>y=.bA/\Q (.bl (decide (x=.bA))) H):=⟨Kq⟩
def R8 (hu:X.A.units+1<cLine)(hi:SE X a ta)(ho:SE X b tb)(h1:afj .In b=false:=by first|show my _ (by left) (by left)|rfl):SE X (.Compare a [.In] [b] pos) (P9 ta tb):=⟨KL (KI hu hi.h ho.h) h1⟩
def vK {rest:O Expr}(ha:ST X a tA)(hb:SW X (.BoolOp .Or (b::rest) pos) uB):SW X (.BoolOp .Or (a::b::rest) pos) (XS tA uB):=⟨O9 ha.h hb.h⟩
def Dh (ha:ST X a tA):SW X (.BoolOp .Or [a] pos) tA:=⟨Lm ha.h⟩
def IT {rest:O Expr}(ha:ST X a tA)(hb:SW X (.BoolOp .And (b::rest) pos) uB):SW X (.BoolOp .And (a::b::rest) pos) (P8 tA uB):=⟨Ll ha.h hb.h⟩
def IQ (ha:ST X a tA):SW X (.BoolOp .And [a] pos) tA:=⟨FI ha.h⟩
def tw (h:SW X e tA):ST X e tA:=⟨h.h.pt⟩
def nt (ha:ST X a tA):ST X (.UnaryOp .Not a pos) (Qe tA):=⟨Lj ha.h⟩
def mU (h:SE X e te)(he:∀whole,isTrue e X.env whole=(do let v←whole;standAt e.pos;holding [v] (truthy v)):=by intro _;rfl):ST X e (tB te):=⟨Lk h.h he⟩
def ix (hr:SX X r)(ha:SE X a ta)(hb:SE X b tb)(hs:u6 b:=by#λz z=>rfl):SE X (.Subscript a b pos) (Dl r ta tb):=⟨OW hr.h ha.h hb.h hs⟩
def bX {KK:ad2}(hK:X.K=KK:=by first|show L3.bM|show L3.ba|rfl):SX X (Pf KK):=by
 subst hK
 #⟨Eh⟩
def bK {KK:ad2}(hK:X.K=KK:=by first|show L3.bM|show L3.ba|rfl):SX X (Pg KK):=by
 subst hK
 #⟨JE⟩
def jx (hu:X.A.units+1<cLine)(ho:SE X a ta)(hi:SE X b tb)(hs:ID b:=by#λz z=>rfl):SE X (.Subscript a b pos) (Ik ta tb):=⟨Fe hu ho.h hi.h hs⟩
def Vu {KK:ad2}{p2:Pos}(ha:SE X a ta)(hb:SE X b tb)(hK:X.K=KK:=by first|show L3.bM|show L3.ba|rfl):SE X (.Subscript a (.Slice (S b) Z Z p2) pos) (Qi (Pj KK) ta (oI tb) lI):=by
 subst hK
 #⟨jK LH ha.h (jM hb.h) pS⟩
def LG {KK:ad2}{p2:Pos}(ha:SE X a ta)(hb:SE X b tb)(hK:X.K=KK:=by first|show L3.bM|show L3.ba|rfl):SE X (.Subscript a (.Slice Z (S b) Z p2) pos) (Qi (FJ KK) ta lI (oI tb)):=by
 subst hK
 #⟨jK pW ha.h pS (jM hb.h)⟩
def n:SA X [] Cs:=⟨an⟩
def k (ha:SE X e te)(hr:SA X es t)(hs:bT e:=by first|show jJ|show gS|show gR|show ue|show jf|show AE|show AD|show AB|show G0|show OD|show G1|show Es|show vJ) :
   SA X (e::es) (Cn te t):=⟨ac ha.h hr.h hs⟩
def tup {x1}(h:SA X es t):SE X (.Tuple es x1 pos) (LN t):=⟨VQ h.h⟩
def lst (h:SA X es t):SE X (.List es pos) (LM t):=⟨VO h.h⟩
def bq {x:Str}{p:Pos}{id:String}{rr:O V->Hp->VK->Prop}(hc:SC X (.builtin id) rr)(hg:Gl X x)(hm:X.mg x=Z)(hv:aeT x=S (.builtin id))(ha:SA X (e::es) t)(hn:x≠"__name__":=by left)(hdb:(x==("__debug__":Str))=false:=by left) :
   SE X (.Call (.Name x p) (e::es) [] pos) (MP rr t):=⟨LV hc.h hg hm hv ha.h hn hdb⟩
def dF {x:Str}{p:Pos}{T:String}{rr:O V->Hp->VK->Prop}(hc:SC X (.type T) rr)(hg:Gl X x)(hm:X.mg x=Z)(hv:aeT x=S (.type T))(ha:SA X (e::es) t)(hn:x≠"__name__":=by left)(hdb:(x==("__debug__":Str))=false:=by left) :
   SE X (.Call (.Name x p) (e::es) [] pos) (MP rr t):=⟨LW hc.h hg hm hv ha.h hn hdb⟩
def own {x:Str}{p:Pos}{ps:O Str}{kk:Nat}{sp:Sp}(D:TW.bI X.prog X.w X.K X.mg X.base x ps kk sp)(hr:cG kk X.A)(hg:Gl X x)(ha:SA X (e::es) t)(hdb:(x==("__debug__":Str))=false:=by left) :
   SE X (.Call (.Name x p) (e::es) [] pos) (mS sp [] E0 t):=⟨VP D hr hg ha.h hdb⟩
def RZ {KK:ad2}{name:Str}{apos:Pos}{T id:String}{rr:V->O V->Hp->VK->Prop}(pa:PlainAttrs T)(slot:Slot T name id)(hty:typeOf (.builtin id)=pure (.type "method_descriptor"))(hm:SM X id rr)(ho:SE X o ta)(ha:SA X [e] t)
   (hbase:afd o name X.env (eval o X.env)=eval o X.env:=by rfl) (hline:(apos.endLine==pos.line)=true:=by rfl) (hK:X.K=KK:=by first|show L3.bM|show L3.ba|rfl):SE X (.Call (.Attribute o name apos) [e] [] pos) (LL KK T rr ta t):=by
 subst hK
 #⟨VN pa slot hty hm.h ho.h ha.h hbase hline⟩
theorem append {KK:ad2}{apos:Pos}(ho:SE X o ta)(ha:SA X [e] t)(hbase:afd o "append" X.env (eval o X.env)=eval o X.env:=by rfl)(hline:(apos.endLine==pos.line)=true:=by rfl)(hK:X.K=KK:=by first|show L3.bM|show L3.ba|rfl):SE X (.Call (.Attribute o "append" apos) [e] [] pos) (LL KK "list" vP ta t):=by
 subst hK
 #RZ afD PySem.F.slot_list_append PySem.F.type_list_append ⟨oo⟩ ho ha hbase hline
def O6 {KK:ad2}{apos:Pos}(ho:SE X o ta)(ha:SA X [e] t)(hbase:afd o "pop" X.env (eval o X.env)=eval o X.env:=by rfl)(hline:(apos.endLine==pos.line)=true:=by rfl)(hK:X.K=KK:=by first|show L3.bM|show L3.ba|rfl):SE X (.Call (.Attribute o "pop" apos) [e] [] pos) (LL KK "list" Bl ta t):=by
 subst hK
 #RZ afD PySem.F.slot_list_pop PySem.F.type_list_pop ⟨Am⟩ ho ha hbase hline
def bW {KK:ad2}(hK:X.K=KK:=by first|show L3.bM|show L3.ba|rfl):SC X (.builtin "len") (λxs H Q=>∃p ys,xs=[.ref p]/\(aB KK H p ys\/dY KK H p ys)/\Q (.int ys~) H):=by
 subst hK
 #⟨oU⟩
def iu {KK:ad2}(hK:X.K=KK:=by first|show L3.bM|show L3.ba|rfl):SC X (.type "list") (λxs H Q=>∃p ys,xs=[.ref p]/\(aB KK H p ys\/dY KK H p ys)/\∀l,H l=Z->Q (.ref l) (upd H l (.lst ys))):=by
 subst hK
 #⟨oV⟩
def IZ {KK:ad2}(hc:X.calm=true:=by rfl)(hK:X.K=KK:=by first|show L3.bM|show L3.ba|rfl):SC X (.type "dict") (vQ KK):=by
 subst hK
 #⟨kK hc⟩
def lY:SC X (.type "int") (λxs H Q=>(∃i,xs=[.int i]/\Q (.int i) H)\/∃k,xs=[.bl k]/\Q (.int (if k then 1 else 0)) H):=⟨wK⟩
def Gu {KK:ad2}(hK:X.K=KK:=by first|show L3.bM|show L3.ba|rfl):SC X (.builtin "isinstance") (λxs H Q=>∃x n t b,xs=[x,.ty n]/\jc KK H x t/\aey KK t (.type n)=S b/\Q (.bl b) H):=by
 subst hK
 #⟨zd⟩
def gn (i:Nat){x:Str}(hN:X.N.Nodup)(hi:X.N[i]?=S x:=by rfl)(hx:Loc X.env.scope x:=by first|show Or.inl rfl|show Or.inr rfl)(hf:X.fn x=true\/X.env.scope.names.lookup x=S .local:=by first|show .inl rfl|show .inr rfl):SG X (.Name x pos) (dH i):=⟨Fm hN hi hx hf⟩
def hG:QA X [] xk:=⟨Fo⟩
def cb {t:TG}{u:C0}(h1:SG X e t)(h2:QA X es u)(hs:(assignEach (e::es) X.env).map (·.2)=assign e X.env::(assignEach es X.env).map (·.2):=by rfl):QA X (e::es) (gZ t u):=⟨Bg h1.h h2.h hs⟩
def cH {KK:ad2}{kk:Nat}{t:C0}(m:Nat)(h:QA X es t)(hc:X.calm=true:=by rfl)(hn:(assignEach es X.env)~=m:=by rfl)(hst:(assignEach es X.env).findIdx? (·.1)=Z:=by rfl)(hK:X.K=KK:=by first|show L3.bM|show L3.ba|rfl):SG X (.Tuple es kk pos) (xl KK m t):=by
 subst hK
 #⟨K7 hc h.h hn hst⟩
def iL {KK:ad2}{tg:Expr}(h:SE X a ta)(hK:X.K=KK:=by first|show L3.bM|show L3.ba|rfl):SI X tg a (GR KK ta):=by
 subst hK
 #⟨Fq h.h⟩
def iT {KK:ad2}{tg:Expr}(h:SE X a ta)(hK:X.K=KK:=by first|show L3.bM|show L3.ba|rfl):SI X tg a (Of KK ta):=by
 subst hK
 #⟨K8 h.h⟩
def iR {tg:Expr}{p:Pos}(hg:Gl X "range")(hm:X.mg "range"=Z)(ha:SA X [a] t):SI X tg (.Call (.Name "range" p) [a] [] pos) (Af t):=⟨Ge hg hm ha.h⟩
def iZ {KK:ad2}{p tp:Pos}{elts:O Expr}{x1:Nat}(hg:Gl X "zip")(hm:X.mg "zip"=Z)(ha:SA X [a,b] t)(hb:bT b:=by first|show gS|show jf|show gR)(hK:X.K=KK:=by first|show L3.bM|show L3.ba|rfl):SI X (.Tuple elts x1 tp) (.Call (.Name "zip" p) [a,b] [] pos) (JC KK t):=by
 subst hK
 #⟨VR hg hm ha.h hb⟩
def iW:IH X [] F7:=⟨Vh⟩
def if1 (h:ST X a tA):IH X [a] tA:=⟨Vi h.h⟩
def lc {tg iter elt:Expr}{ifs:O Expr}{sc:Scope}{wi:TI}{g:TG}{tifs:TT}(src:O (Option Nat))(N':O Str)(S8:bR sc X.env.scope)(hcap:dj sc src N' X.N=true)(hi:SI X tg iter wi)
   (hb:∀s H C fp xe,SG (eQ X N' sc s H C fp xe) tg g/\IH (eQ X N' sc s H C fp xe) ifs tifs/\SE (eQ X N' sc s H C fp xe) elt te) (hc:X.calm=true:=by rfl)
   (hs:∀x,aeC iter X.env x=pure x:=by intro _;rfl):SE X (.ListComp elt [⟨tg,iter,ifs,0⟩] sc pos) (fC src (.lst []) wi g tifs (cB te)):=
 ⟨OX src N' hc S8 hcap hi.h (λs H C fp xe=>⟨(hb s H C fp xe).1.h,(hb s H C fp xe).2.1.h,(hb s H C fp xe).2.2.h⟩) hs⟩
def Ie {tg iter elt:Expr}{ifs:O Expr}{sc:Scope}{wi:TI}{g:TG}{tifs:TT}{i:Nat}{x:Str}{pos' dM:Pos}(src:O (Option Nat))(N':O Str)(S8:bR sc X.env.scope)(hcap:dj sc src N' X.N=true)(hi:SI X tg iter wi)
   (hb:∀s H C fp xe,SG (eQ X N' sc s H C fp xe) tg g/\IH (eQ X N' sc s H C fp xe) ifs tifs/\SE (eQ X N' sc s H C fp xe) elt te) (hN:X.N.Nodup) (hix:X.N[i]?=S x:=by rfl) (hx:Loc X.env.scope x:=by#Or.inl rfl)
   (hsw:afy (.ListComp elt [⟨tg,iter,ifs,0⟩] sc pos) (S (.Name x pos')) dM.line X.env=pure true:=by rfl) (hc:X.calm=true:=by rfl)
   (hs:∀x,aeC iter X.env x=pure x:=by intro _;rfl) (hf:X.fn x=true\/X.env.scope.names.lookup x=S .local:=by first|show .inl rfl|show .inr rfl) :
   SS X (.Assign [.Name x pos'] (.ListComp elt [⟨tg,iter,ifs,0⟩] sc pos) dM) (qf (fC src (.lst []) wi g tifs (cB te)) (dH i)):=
 ⟨O8 src N' hc S8 hcap hi.h (λs H C fp xe=>⟨(hb s H C fp xe).1.h,(hb s H C fp xe).2.1.h,(hb s H C fp xe).2.2.h⟩) hN hix hx hsw hs hf⟩
def Wb {tg iter kx vx:Expr}{ifs:O Expr}{sc:Scope}{wi:TI}{g:TG}{tifs:TT}{tk tv:TE}(src:O (Option Nat))(N':O Str)(hu:X.A.units+1<cLine)(S8:bR sc X.env.scope)(hcap:dj sc src N' X.N=true)(hi:SI X tg iter wi)
   (hb:∀s H C fp xe,SG (eQ X N' sc s H C fp xe) tg g/\IH (eQ X N' sc s H C fp xe) ifs tifs/\SE (eQ X N' sc s H C fp xe) kx tk/\SE (eQ X N' sc s H C fp xe) vx tv) (hc:X.calm=true:=by rfl)
   (hs:∀x,aeC iter X.env x=pure x:=by intro _;rfl):SE X (.DictComp kx vx [⟨tg,iter,ifs,0⟩] sc pos) (fC src (.dT []) wi g tifs (Ai tk tv)):=
 ⟨KO src N' hu hc S8 hcap hi.h (λs H C fp xe=>⟨(hb s H C fp xe).1.h,(hb s H C fp xe).2.1.h,(hb s H C fp xe).2.2.1.h,(hb s H C fp xe).2.2.2.h⟩) hs⟩
variable{st:Stmt}{rest:O Stmt}{u1 u2:TS}
def nil:SL X [] Io:=⟨FF⟩
def cons (h1:SS X st u1)(h2:SL X rest u2):SL X (st::rest) (ki u1 u2):=⟨Bj h1.h h2.h⟩
def one (h1:SS X st u1):SL X [st] u1:=⟨FG h1.h⟩
def never:SL X rest Cr:=⟨yk⟩
def ret (he:SE X e te):SS X (.Return (S e) pos) (Qg te):=⟨Lf he.h⟩
def ex (he:SE X e te)(hs:afy e Z pos.line X.env=pure false:=by rfl):SS X (.Expr e pos) (Il te):=⟨FA he.h hs⟩
def ifs {tc:TT}{x y:O Stmt}(hc:ST X c tc)(ha:SL X x u1)(hb:SL X y u2):SS X (.If c x y pos) (Qd tc u1 u2):=⟨O7 hc.h ha.h hb.h⟩
def set (i:Nat){x:Str}{pos':Pos}(hN:X.N.Nodup)(he:SE X e te)(hi:X.N[i]?=S x:=by rfl)(hx:Loc X.env.scope x:=by first|show Or.inl rfl|show Or.inr rfl)(hs:afy e (S (.Name x pos')) pos.line X.env=pure false:=by rfl)(hf:X.fn x=true\/X.env.scope.names.lookup x=S .local:=by first|show .inl rfl|show .inr rfl) :
   SS X (.Assign [.Name x pos'] e pos) (qf te (dH i)):=⟨Lg hN hi hx he.h hs hf⟩
def asg {tg:Expr}{g:TG}(he:SE X e te)(hg:SG X tg g)(hs:agd [tg] e pos.line X.env=pure false:=by rfl)(hw:age [tg] e X.env=pure Z:=by rfl)
   (h1:(assignEach [tg] X.env).map (·.2)=[assign tg X.env]:=by rfl):SS X (.Assign [tg] e pos) (qf te g):=⟨Lb he.h hg.h hs hw h1⟩
def fQ {tg iter:Expr}{body:O Stmt}{wi:TI}{g:TG}(hi:SI X tg iter wi)(hg:SG X tg g)(hb:SL X body u1)(hp:PassesOwn (model X.prog X.w) X.A X.env X.xe:=by#PassesOwn.never)(hc:X.calm=true:=by rfl)
   (hs:∀x,aeC iter X.env x=pure x:=by intro _;rfl):SS X (.For tg iter body [] pos) (Qc wi g u1):=⟨Ld hp hc hi.h hg.h hb.h hs⟩
def run {ss:O Stmt}{u:TS}(h:SL X ss u):mV X ss u:=h.h
end
end L3
namespace L3
open PySem PySem.Spec PyProof.Rows L2
section
variable{X:Cx}{a b c e o:Expr}{es:O Expr}{ta tb tc te:TE}{t:TA}{tA uB:TT}{pos:Pos}{r:R2}
def neg (ha:SE X a ta):SE X (.UnaryOp .USub a pos) (XT (rU λi=>.int (-i)) ta):=⟨O0 LR ha.h⟩
def ntE (ha:SE X a ta):SE X (.UnaryOp .Not a pos) (Ip ta):=⟨KY ha.h⟩
def u9 {rest:O Expr}(ha:SE X a ta)(hb:SE X (.BoolOp .And (b::rest) pos) tb):SE X (.BoolOp .And (a::b::rest) pos) (Ij ta tb):=⟨KJ ha.h hb.h⟩
def Vb {rest:O Expr}(ha:SE X a ta)(hb:SE X (.BoolOp .Or (b::rest) pos) tb):SE X (.BoolOp .Or (a::b::rest) pos) (Qf ta tb):=⟨OZ ha.h hb.h⟩
def EZ {op}(ha:SE X a ta):SE X (.BoolOp op [a] pos) ta:=⟨KZ ha.h⟩
def Q5 (hc:ST X c tA)(ha:SE X a ta)(hb:SE X b tb):SE X (.IfExp c a b pos) (XR tA ta tb):=⟨Be hc.h ha.h hb.h⟩
def JU:SO X (compareOp .IsNot) (λx y H Q=>y=.bA/\Q (.bl (!decide (x=.bA))) H):=⟨E3⟩
def GB {x:Str}{p:Pos}(ho:SE X a ta)(hi:SE X (.Name x p) tb):SG X (.Subscript a (.Name x p) pos) (Ng ta tb Ho):=⟨K6 ho.h hi.h set_list (λz=>rfl)⟩
end
end L3
namespace L2
open PySem PySem.Spec PyProof.Rows
end L2
namespace L3
open PySem PySem.Spec PyProof.Rows L2
end L3
namespace PySem
open Sem (wp)
abbrev eX (h:Heap)(z TI TO T:J)(f:Bool):Prop:=
 h.get? z=S {cls:=.type "zip",dict:=Z,data:=.fields #[rawInt T,.bool f,.bool false,.ref TI,.ref TO],slots:=#[]}
section
variable{prog:Program}{w:World}{A:Around}{E:Value->Shared->Prop}{s:Shared}
def kH {a:J}{o:Obj}{Q:Option Obj->Shared->Prop}(h:s.heap.get? a=S o)(k:Q (S o) s):wpAny (model prog w) A (loadIfAlive a) Q E s:=λΓ p hΓ=>by
 change Sem.wp _ _ (Sem.loadIfAlive a .pure) _ _ _ _
 rw[Sem.wp_loadIfAlive,h]
 #(wpAny_pure k:wpAny (model prog w) A (Sem.pure (S o)) Q E s) Γ p hΓ
def yH {z TI TO T i1 i2 l1 l2:J}{f:Bool}{ot:Obj}{k1 k2:Nat}{xs ys:Array Value}{x y:Value}{Q:Value->Shared->Prop}(D:ag2 z TI TO i1 i2 l1 l2)(hz:eX s.heap z TI TO T f)(hT:s.heap.get? T=S ot)(hTI:IsPair s.heap TI (.ref i1) (.ref i2))
   (h1:s.heap.IsListIter i1 l1 k1) (h2:s.heap.IsListIter i2 l2 k2) (hl1:s.heap.IsList l1 xs) (hl2:s.heap.IsList l2 ys) (hx:xs[k1]?=S x) (hy:ys[k2]?=S y)
   (hQ:∀h',eX h' z TI TO T true->h'.IsListIter i1 l1 (k1+1)->h'.IsListIter i2 l2 (k2+1)->IsPair h' s.heap.objs.size x y->(∀c o,c≠z->c≠i1->c≠i2->s.heap.get? c=S o->h'.get? c=S o)->Q (.ref s.heap.objs.size) {s with heap:=h'}) :
   wpAny (model prog w) A (Builtin.«zip.__next__» ⟨[.ref z],[]⟩) (λfin s'=>∃v,fin=.done (.ret v)/\Q v s') E s:=by
 change wpAny _ _ (field (.ref z) 2>>=_) _ _ _
 #wpAny_bind (wpAny_field hz rfl (x:=.bool false) rfl ?_)
 change wpAny _ _ (field (.ref z) 3>>=_) _ _ _
 #wpAny_bind (wpAny_field hz rfl (x:=.ref TI) rfl ?_)
 #wpAny_bind (wpAny_seqItems hTI rfl ?_)
 change wpAny _ _ (aex (.ref z)>>=_) _ _ _
 #wpAny_bind ?_
 unfold aex
 #wpAny_bind (wpAny_field hz rfl (x:=rawInt T) rfl ?_)
 change wpAny _ _ (loadIfAlive (T:Int).toNat>>=_) _ _ _
 rw[aes]
 #wpAny_bind (kH hT ?_)
 rw[aM (by simp)]
 #wpAny_bind (wpAny_field hz rfl (x:=.bool f) rfl ?_)
 #wpAny_mono (Q:=λb t=>b=false/\∃g,t={s with heap:=g}/\eX g z TI TO T true/\ae7 z s.heap g) ?mark (λb t hb=>?next) (λu u h=>h)
 case mark=>
   cases f
   . change wpAny _ _ (setField (.ref z) 1 (.bool true)>>=_) _ _ _
     #wpAny_bind (wpAny_setField_rec hz (by simp) λg hg hs=>wpAny_pure ⟨U,g,U,hg,hs⟩)
   . #wpAny_pure ⟨U,s.heap,U,hz,⟨U,λu u=>rfl⟩⟩
 case next=>
   @⟨rfl,g,rfl,gz,gs⟩:=hb
   rw[aM (by left)]
   simp only[← Array.forIn_toList]
   simp only[af7,agP]
   #wpAny_bind (wpAny_bind (wpAny_bind (wpAny_holding ?_)))
   change wpAny _ _ (aeL (.ref i1)>>=_) _ _ _
   #wpAny_bind (wpAny_nextOf_list_item (h1.extBut gs.extBut D.i1z) (hl1.extBut gs.extBut D.l1z) hx λg2 a2 s2=>wpAny_pure ?_)
   #wpAny_pure ?_
   #wpAny_bind (wpAny_bind (wpAny_holding ?_))
   change wpAny _ _ (aeL (.ref i2)>>=_) _ _ _
   #wpAny_bind (wpAny_nextOf_list_item ((h2.extBut gs.extBut D.i2z).extBut s2.extBut D.i12.symm) ((hl2.extBut gs.extBut D.l2z).extBut s2.extBut D.l2i1) hy λg3 a3 s3=>wpAny_pure ?_)
   #wpAny_pure ?_
   #wpAny_pure ?_
   change wpAny _ _ (newTuple [x,y]>>=_) _ _ _
   #wpAny_bind (wpAny_newTuple (wpAny_pure (af U ?_)))
   !sz:g3.objs.size=s.heap.objs.size:=by rw[s3.1,s2.1,gs.1]
   !up:∀c o,c≠z->c≠i1->c≠i2->s.heap.get? c=S o->(g3.push {cls:=.type "tuple",data:=.seq [x,y].toArray}).get? c=S o:=λc o n1 n2 n3 e=>
     ad6 _ (s3.extBut _ _ n3 (s2.extBut _ _ n2 (gs.extBut _ _ n1 e)))
   change Q (.ref g3.objs.size) _
   !qS:IsPair (g3.push {cls:=.type "tuple",data:=.seq [x,y].toArray}) g3.objs.size x y:=aeq _ rfl
   rw[sz]at qS ⊢
   #hQ _ (ad6 _ (s3.extBut _ _ D.i2z.symm (s2.extBut _ _ D.i1z.symm gz))) ((a2.extBut s3.extBut D.i12).at λo e=>ad6 _ e) (a3.at λo e=>ad6 _ e) qS up
def CU {z TI TO T i1 i2 l1 l2:J}{f:Bool}{ot:Obj}{k1 k2:Nat}{xs ys:Array Value}{Q:Fin->Shared->Prop}(hh:A.handled=Z)(D:ag2 z TI TO i1 i2 l1 l2)(hz:eX s.heap z TI TO T f)(hT:s.heap.get? T=S ot)(hTI:IsPair s.heap TI (.ref i1) (.ref i2))
   (h1:s.heap.IsListIter i1 l1 k1) (h2:s.heap.IsListIter i2 l2 k2) (hl1:s.heap.IsList l1 xs) (hl2:s.heap.IsList l2 ys) (hend:xs[k1]?=Z\/ys[k2]?=Z)
   (hE:∀h' e,(∀c o,c≠z->c≠i1->c≠i2->s.heap.get? c=S o->h'.get? c=S o)->(∃o,h'.get? e=S o/\o.cls=.type "StopIteration")->E (.ref e) {s with heap:=h'}) :
   wpAny (model prog w) A (Builtin.«zip.__next__» ⟨[.ref z],[]⟩) Q E s:=by
 change wpAny _ _ (field (.ref z) 2>>=_) _ _ _
 #wpAny_bind (wpAny_field hz rfl (x:=.bool false) rfl ?_)
 change wpAny _ _ (field (.ref z) 3>>=_) _ _ _
 #wpAny_bind (wpAny_field hz rfl (x:=.ref TI) rfl ?_)
 #wpAny_bind (wpAny_seqItems hTI rfl ?_)
 change wpAny _ _ (aex (.ref z)>>=_) _ _ _
 #wpAny_bind ?_
 unfold aex
 #wpAny_bind (wpAny_field hz rfl (x:=rawInt T) rfl ?_)
 change wpAny _ _ (loadIfAlive (T:Int).toNat>>=_) _ _ _
 rw[aes]
 #wpAny_bind (kH hT ?_)
 rw[aM (by simp)]
 #wpAny_bind (wpAny_field hz rfl (x:=.bool f) rfl ?_)
 #wpAny_mono (Q:=λb t=>b=false/\∃g,t={s with heap:=g}/\eX g z TI TO T true/\ae7 z s.heap g) ?mark (λb t hb=>?next) (λy y h=>h)
 case mark=>
   cases f
   . change wpAny _ _ (setField (.ref z) 1 (.bool true)>>=_) _ _ _
     #wpAny_bind (wpAny_setField_rec hz (by simp) λg hg hs=>wpAny_pure ⟨U,g,U,hg,hs⟩)
   . #wpAny_pure ⟨U,s.heap,U,hz,⟨U,λy y=>rfl⟩⟩
 case next=>
   @⟨rfl,g,rfl,gz,gs⟩:=hb
   rw[aM (by left)]
   simp only[← Array.forIn_toList]
   simp only[af7,agP]
   #wpAny_bind (wpAny_bind (wpAny_bind (wpAny_holding ?_)))
   change wpAny _ _ (aeL (.ref i1)>>=_) _ _ _
   cases hx:xs[k1]? with
   | none=>
     #wpAny_bind (wpAny_nextOf_list_end hh (h1.extBut gs.extBut D.i1z) (hl1.extBut gs.extBut D.l1z) hx λg2 e k2 he=>?_)
     #hE g2 e (λc o n1 n2 y q=>k2 _ _ n2 (gs.extBut _ _ n1 q)) he
   | some x=>
     have hy:ys[k2]?=Z:=by
       rcases hend with q|q
       . rw[hx]at q;cases q
       . #q
     #wpAny_bind (wpAny_nextOf_list_item (h1.extBut gs.extBut D.i1z) (hl1.extBut gs.extBut D.l1z) hx λg2 a2 s2=>wpAny_pure ?_)
     #wpAny_pure ?_
     #wpAny_bind (wpAny_bind (wpAny_holding ?_))
     change wpAny _ _ (aeL (.ref i2)>>=_) _ _ _
     #wpAny_bind (wpAny_nextOf_list_end hh ((h2.extBut gs.extBut D.i2z).extBut s2.extBut D.i12.symm) ((hl2.extBut gs.extBut D.l2z).extBut s2.extBut D.l2i1) hy λg3 e k3 he=>?_)
     #hE g3 e (λc o n1 n2 n3 q=>k3 _ _ n3 (s2.extBut _ _ n2 (gs.extBut _ _ n1 q))) he
def ub {z TI TO T i1 i2 l1 l2:J}{f:Bool}{ot:Obj}{k1 k2:Nat}{xs ys:Array Value}{x y:Value}{Q:Option Value->Shared->Prop}(D:ag2 z TI TO i1 i2 l1 l2)(hz:eX s.heap z TI TO T f)(hT:s.heap.get? T=S ot)(hTI:IsPair s.heap TI (.ref i1) (.ref i2))
   (h1:s.heap.IsListIter i1 l1 k1) (h2:s.heap.IsListIter i2 l2 k2) (hl1:s.heap.IsList l1 xs) (hl2:s.heap.IsList l2 ys) (hx:xs[k1]?=S x) (hy:ys[k2]?=S y)
   (hQ:∀h',eX h' z TI TO T true->h'.IsListIter i1 l1 (k1+1)->h'.IsListIter i2 l2 (k2+1)->IsPair h' s.heap.objs.size x y->(∀c o,c≠z->c≠i1->c≠i2->s.heap.get? c=S o->h'.get? c=S o)->Q (S (.ref s.heap.objs.size)) {s with heap:=h'}) :
   wpAny (model prog w) A (pyNext (.ref z)) Q E s:=by
 !ty:s.TypeIs (.ref z) "zip":=⟨_,hz,rfl⟩
 unfold pyNext
 #wpAny_bind (wpAny_attempt (afr (name:=agI "__next__") ty F.slot_zip_next (wpAny_call_entry F.slot_zip_next ty F.entry_zip_next (yH D hz hT hTI h1 h2 hl1 hl2 hx hy ?_) (F.args_zip_next_1 _))))
 #λg a b c d e=>wpAny_pure (hQ g a b c d e)
def xQ {z TI TO T i1 i2 l1 l2:J}{f:Bool}{ot:Obj}{k1 k2:Nat}{xs ys:Array Value}{Q:Option Value->Shared->Prop}(hh:A.handled=Z)(D:ag2 z TI TO i1 i2 l1 l2)(hz:eX s.heap z TI TO T f)(hT:s.heap.get? T=S ot)(hTI:IsPair s.heap TI (.ref i1) (.ref i2))
   (h1:s.heap.IsListIter i1 l1 k1) (h2:s.heap.IsListIter i2 l2 k2) (hl1:s.heap.IsList l1 xs) (hl2:s.heap.IsList l2 ys) (hend:xs[k1]?=Z\/ys[k2]?=Z)
   (hQ:∀h',(∀c o,c≠z->c≠i1->c≠i2->s.heap.get? c=S o->h'.get? c=S o)->Q Z {s with heap:=h'}):wpAny (model prog w) A (pyNext (.ref z)) Q E s:=by
 !ty:s.TypeIs (.ref z) "zip":=⟨_,hz,rfl⟩
 unfold pyNext
 #wpAny_bind (wpAny_attempt (afr (name:=agI "__next__") ty F.slot_zip_next (wpAny_call_entry F.slot_zip_next ty F.entry_zip_next (CU hh D hz hT hTI h1 h2 hl1 hl2 hend λg e kk he=>?_) (F.args_zip_next_1 _))))
 @⟨o,ho,hc⟩:=he
 #wpAny_bind (wpAny_isInstance (T:="StopIteration") (b:=true) ⟨o,ho,hc⟩ isSubtype_stop (wpAny_pure (hQ _ kk)))
end
end PySem
namespace PySem
def Gf:ahC (.type "zip") "keys"=pure Z:=by rw[ahX,agW];kernel_rfl
def Qu:ahC (.type "zip") "__getattr__"=pure Z:=by rw[ahX,agW];kernel_rfl
def CY:entryFor table "zip.__getattribute__"=S Builtin.«object.__getattribute__»:=entryFor_alias (id':="object.__getattribute__") (by kernel_rfl) (by right) (by right) (by kernel_rfl)
def Gg (z:J)(fl:Array Value)(u:Tok) :
   Meets (Builtin.«object.__getattribute__» ⟨[.ref z,.str "keys" u],[]⟩) (λA R s=>s.heap.get? z=S {cls:=.type "zip",dict:=Z,data:=.fields fl,slots:=#[]}/\raisesAttr (.ref z) "keys" A R s):=
 Meets.of_wp λP w A R s h=>by
   @⟨hp,g,d,tk,os⟩:=s
   @⟨hz,h⟩:=h
   !ty:(⟨hp,g,d,tk,os⟩ : Shared).TypeIs (.ref z) "zip":=⟨_,hz,rfl⟩
   !e0:=Gf
   unfold Builtin.«object.__getattribute__»
   repeat (any_goals (first|assumption|wp_step))
   #wpAny_raiseAttrError h.1 h.2 (attrMsg_fits (by right) (by right))
section
variable{P:Program}{w:World}{A:Around}{E:Value->Shared->Prop}{s:Shared}
def Qt {z:J}{fl:Array Value}{u:Tok}{Q:Value->Shared->Prop}(hz:s.heap.get? z=S {cls:=.type "zip",dict:=Z,data:=.fields fl,slots:=#[]})(free:A.handled=Z)
   (k:∀g tk e,Heap.NewAttrErr s.heap g e (.ref z) "keys"->E (.ref e) {s with heap:=g,toks:=tk}):wpAny (model P w) A (getAttrBy (.ref z) (.str "keys" u) false) Q E s:=by
 @⟨hp,g,d,tk,os⟩:=s
 !ty:∀t,(⟨hp,g,d,t,os⟩ : Shared).TypeIs (.ref z) "zip":=λy=>⟨_,hz,rfl⟩
 !q1:=ags
 !q2:=F.slot_zip_getattribute.lookup
 !q3:=F.slot_zip_getattribute.bind (.ref z)
 !q4:=Qu
 unfold getAttrBy
 repeat (any_goals (first|assumption|show ty _|((with_reducible change wpAny _ _ (call (agX "zip.__getattribute__") _ _) _ _ _);#call_meets F.slot_zip_getattribute (ty _) CY (F.args_zip_getattribute_2 _ _) (Gg z fl _) ⟨hz,free,λg' VC e ne=>?_⟩)|wp_step))
 @⟨t',u',he⟩:=ne.there
 change wpAny _ _ (getattributeRaised _ _ _ _ _ _ _) _ _ _
 unfold getattributeRaised
 repeat (any_goals (first|assumption|wp_step))
 #k _ _ _ ne
def Gh {z:J}{fl:Array Value}{Q:Option Value->Shared->Prop}(hz:s.heap.get? z=S {cls:=.type "zip",dict:=Z,data:=.fields fl,slots:=#[]})(free:A.handled=Z)
   (k:∀g tk,(∀b o,s.heap.get? b=S o->g.get? b=S o)->Q Z {s with heap:=g,toks:=tk}):wpAny (model P w) A (ahR (.ref z) "keys") Q E s:=by
 unfold ahR getAttrBy?
 #wpAny_bind (wpAny_mkText (wpAny_bind (wpAny_attempt (Qt hz free λg tk e ne=>?_))))
 @⟨t',u',he⟩:=ne.there
 #wpAny_bind (wpAny_isInstance (T:="AttributeError") (b:=true) ⟨_,he,U⟩ ags (wpAny_pure (k g _ ne.keeps)))
end
end PySem
namespace L2
open PySem PySem.Spec PyProof.Rows
structure qw (h:Heap)(z TI TO i1 i2 l1 l2:J)(i:Nat):Prop where
 ti:IsPair h TI (.ref i1) (.ref i2)
 to:∃x y,IsPair h TO x y
 a:h.IsListIter i1 l1 i
 b:h.IsListIter i2 l2 i
 z:IsZip h z TI TO .none\/∃T f x y,eX h z TI TO T f/\IsPair h T x y
def qw.ob {h:Heap}{z TI TO i1 i2 l1 l2:J}{i:Nat}(s:qw h z TI TO i1 i2 l1 l2 i):∃fl,h.get? z=S {cls:=.type "zip",dict:=Z,data:=.fields fl,slots:=#[]}:=by
 rcases s.z with e|⟨T,f,x,y,e,_⟩
 . #⟨_,e⟩
 . #⟨_,e⟩
def qw.but {h g:Heap}{z TI TO i1 i2 l1 l2 D:J}{i:Nat}(s:qw h z TI TO i1 i2 l1 l2 i)(k:Heap.ExtBut D h g)(n1:z≠D)(n2:TI≠D)(n3:TO≠D)(n4:i1≠D)(n5:i2≠D)(dict:∀x y,¬ IsPair h D x y):qw g z TI TO i1 i2 l1 l2 i:=by
 @⟨t1,⟨x,y,t2⟩,a,b,zz⟩:=s
 #⟨k _ _ n2 t1,⟨x,y,k _ _ n3 t2⟩,a.extBut k n4,b.extBut k n5,?_⟩
 rcases zz with e|⟨T,f,x,y,e,p⟩
 . #.inl (k _ _ n1 e)
 . #.inr ⟨T,f,x,y,k _ _ n1 e,k _ _ (λq=>dict x y (q▸p)) p⟩
section
variable{P:Program}{w:World}{A:Around}{E:Value->Shared->Prop}{s:Shared}
def qw.item {z TI TO i1 i2 l1 l2:J}{i:Nat}{us vs:Array Value}{u v:Value}{Q:Option Value->Shared->Prop}(D:ag2 z TI TO i1 i2 l1 l2)(st:qw s.heap z TI TO i1 i2 l1 l2 i)(h1:s.heap.IsList l1 us)(h2:s.heap.IsList l2 vs)(hu:us[i]?=S u)(hv:vs[i]?=S v)
   (k:∀g,qw g z TI TO i1 i2 l1 l2 (i+1)->IsPair g s.heap.objs.size u v->(∀c o,c∉([z,TO,i1,i2]:O J)->s.heap.get? c=S o->g.get? c=S o)->Q (S (.ref s.heap.objs.size)) {s with heap:=g}):wpAny (model P w) A (pyNext (.ref z)) Q E s:=by
 @⟨t1,⟨x,y,t2⟩,a,b,zz⟩:=st
 rcases zz with e|⟨T,f,x',y',e,p⟩
 . #wpAny_pyNext_zip_item D e t1 t2 a b h1 h2 hu hv λg b1 b2 b3 b4 b5 b6 kk=>?_
   #k g ⟨kk _ _ D.TIz D.TITO D.TIi1 D.TIi2 t1,⟨_,_,b2⟩,b3,b4,.inr ⟨_,_,_,_,b1,b5⟩⟩ b5 λc o hc q=>?_
   simp only[aew,aep,or_false,not_or]at hc
   #kk c o hc.1 hc.2.1 hc.2.2.1 hc.2.2.2 q
 . !nz:T≠z:=λq=>by
     subst q
     !h:=congrArg Obj.cls (aej (e.symm.trans p))
     simp at h
   !n1:T≠i1:=λq=>by
     subst q
     @⟨o,ho,hc,_⟩:=a
     rw[aej (ho.symm.trans p)]at hc
     simp at hc
   !n2:T≠i2:=λq=>by
     subst q
     @⟨o,ho,hc,_⟩:=b
     rw[aej (ho.symm.trans p)]at hc
     simp at hc
   #ub D e p t1 a b h1 h2 hu hv λg b1 b3 b4 b5 kk=>?_
   #k g ⟨kk _ _ D.TIz D.TIi1 D.TIi2 t1,⟨_,_,kk _ _ D.TOz D.TOi1 D.TOi2 t2⟩,b3,b4,.inr ⟨T,true,_,_,b1,kk _ _ nz n1 n2 p⟩⟩ b5 λc o hc q=>?_
   simp only[aew,aep,or_false,not_or]at hc
   #kk c o hc.1 hc.2.2.1 hc.2.2.2 q
def qw.done {z TI TO i1 i2 l1 l2:J}{i:Nat}{us vs:Array Value}{Q:Option Value->Shared->Prop}(free:A.handled=Z)(D:ag2 z TI TO i1 i2 l1 l2)(st:qw s.heap z TI TO i1 i2 l1 l2 i)(h1:s.heap.IsList l1 us)(h2:s.heap.IsList l2 vs)(hu:us[i]?=Z)
   (k:∀g,(∀c o,c∉([z,TO,i1,i2]:O J)->s.heap.get? c=S o->g.get? c=S o)->Q Z {s with heap:=g}):wpAny (model P w) A (pyNext (.ref z)) Q E s:=by
 @⟨t1,⟨x,y,t2⟩,a,b,zz⟩:=st
 rcases zz with e|⟨T,f,x',y',e,p⟩
 . #wpAny_pyNext_zip_end free D e t1 t2 a b h1 h2 (.inl hu) λg kk=>k g λc o hc q=>?_
   simp only[aew,aep,or_false,not_or]at hc
   #kk c o hc.1 hc.2.1 hc.2.2.1 hc.2.2.2 q
 . #xQ free D e p t1 a b h1 h2 (.inl hu) λg kk=>k g λc o hc q=>?_
   simp only[aew,aep,or_false,not_or]at hc
   #kk c o hc.1 hc.2.2.1 hc.2.2.2 q
end
section
variable{X:Cx}
def Ei {ks:O Key}{ys:O V}{i:Nat}{k:Key}{y:V}(h1:ks[i]?=S k)(h2:ys[i]?=S y):(ks.drop i).zip (ys.drop i)=(k,y)::(ks.drop (i+1)).zip (ys.drop (i+1)):=by
 !l1:=(List.getElem?_eq_some_iff.mp h1)
 !l2:=(List.getElem?_eq_some_iff.mp h2)
 @⟨a1,e1⟩:=l1
 @⟨a2,e2⟩:=l2
 rw[agi a1,agi a2,e1,e2]
 rfl
def CW {pins:O (J×Obj)}{σ:St}{A:Around}{D z TI TO i1 i2 l1 l2:J}{ks:O Key}{ys:O V}(hh:A.handled=Z)(ap:ag2 z TI TO i1 i2 l1 l2)(hly:ks~=ys~) :
   ∀(n i:Nat) (j:Int) (t:Tok) (d:O (Key×V)) (H:Hp) (s:Shared) (R:Result->Shared->Prop),ks~-i=n->i<=ks~->Inv X pins σ H s->H D=S (.dK d)->d~+n<=sizeLine->aB X.K H l1 (ks.map kV)->aB X.K H l2 ys->(∀c∈([z,TI,TO,i1,i2]:O J),eV X pins H c) ->
     qw s.heap z TI TO i1 i2 l1 l2 i->(∀s',Inv X pins σ (upd H D (.dK (putAll d ((ks.drop i).zip (ys.drop i))))) s'->R (.ok (.ret .none)) s') ->
     codeAny (model X.prog X.w) A (.builtin "dict.update.loop" ⟨[.ref D,.ref z,.int j t,.none],[]⟩) R s:=by
 intro n
 induction n using Nat.strongRecOn with
 | _ n ih=>
   intro i j t d H s R hn hi I hD hz kq qW fp st hR
   @⟨nD,oz,p1,_⟩:=I.list kq
   @⟨jD,yn,p2,_⟩:=I.list qW
   !hl1:=oz~
   !hl2:=yn~
   rw[ad1]at hl1
   !ch:∀c∈([z,TO,i1,i2]:O J),eV X pins H c:=λc hc=>fp c (by simp only[aew,aep,or_false]at hc ⊢;rcases hc with r|r|r|r<;>simp[r])
   #ahY eG ?_
   !hA:(A.under (.builtin "dict.update.loop" ⟨[.ref D,.ref z,.int j t,.none],[]⟩)).handled=Z:=hh
   generalize A.under (.builtin "dict.update.loop" ⟨[.ref D,.ref z,.int j t,.none],[]⟩)=A' at hA ⊢
   unfold Builtin.«dict.update.loop»
   change wpAny _ _ (pyNext (.ref z)>>=_) _ _ _
   by_cases fS:i<ks~
   . obtain⟨kk,hk⟩ : ∃kk,ks[i]?=S kk:=⟨ks[i],ad3 fS⟩
     obtain⟨yy,hy⟩ : ∃yy,ys[i]?=S yy:=⟨ys[i]'(by lia),ad3 (by lia)⟩
     @⟨u,hu,ru⟩:=oz.get (show(ks.map kV)[i]?=S (kV kk)by rw[aei,hk];rfl)
     @⟨v,hv,rv⟩:=yn.get hy
     #wpAny_bind (st.item ap p1.isList p2.isList (u:=u) (v:=v) (by simpa using hu) (by simpa using hv) λg Dk np kp=>?_)
     !I1:Inv X pins σ H {s with heap:=g}:=I.qZ (t':=s.toks) ch kp
     #wpAny_bind (wpAny_holding ?_)
     #wpAny_bind (wpAny_tryCatch (jG (show({s with heap:=g}:Shared).heap.IsTuple s.heap.objs.size #[u,v]from⟨_,np,U,_,U⟩) ?_))
     change wpAny _ _ (holding [u,v] (dictSet D u v)) _ _ _
     @⟨_,qQ,vs,rel,dd⟩:=vp I1.hok hD
     !UC:vs~<=sizeLine:=by rw[← rel~];lia
     !hln:(putK d kk yy)~<=d~+1:=cj d kk yy
     #wpAny_holding (wpAny_dictSet_pairs (hsz:=UC) (jE ru) dd λh2 oX hs2=>?_)
     !he:∃q,h2.get? D=S q:=by@⟨q,_,_,hq,_⟩:=oX;#⟨q,hq⟩
     !ne:∀c∈([z,TI,TO,i1,i2]:O J),c≠D:=λc hc q=>by !:=(fp c hc).1;rw[q,hD]at this;cases this
     !keepL:∀{l:J} {xs:O V},aB X.K H l xs->aB X.K (upd H D (.dK (putK d kk yy))) l xs:=λhq=>by
       rcases hq with(q|⟨o,q⟩)|q
       . #.inl (.inl (by rw[aj (eJ q hD (λz=>nomatch z))];#q))
       . #.inl (.inr ⟨o,by rw[aj (eJ q hD (λz=>nomatch z))];#q⟩)
       . #.inr q
     !nodict:∀x y,¬ IsPair g D x y:=λx y q=>by
       @⟨o,ho,hc⟩:=(show Shared.TypeIs {s with heap:=g} (.ref D) "dict" from dd.typeIs)
       rw[aej (ho.symm.trans q)]at hc
       simp at hc
     #wpAny_pure ⟨afF _ (by right),?_⟩
     #ih (ks~-(i+1)) (by lia) (i+1) _ _ (putK d kk yy) (upd H D (.dK (putK d kk yy))) _ R rfl fS (gN (t':=_) I1 (by rw[hD];#aeh) hs2 he (oY (by lia) qQ (rel.put kk rv) oX)) ae (by lia) (keepL kq) (keepL qW) (λc hc=>⟨by rw[aj (ne c hc)];#(fp c hc).1,(fp c hc).2⟩)
       (Dk.but hs2.extBut (ne z (by simp)) (ne TI (by simp)) (ne TO (by simp)) (ne i1 (by simp)) (ne i2 (by simp)) nodict) ?_
     intro s' I'
     rw[da]at I'
     rw[Ei hk hy]at hR
     #hR s' I'
   . !Tc:ks~<=i:=by lia
     #wpAny_bind (st.done hA ap p1.isList p2.isList (by simp;lia) λg kp=>?_)
     !I1:Inv X pins σ H {s with heap:=g}:=I.qZ (t':=s.toks) ch kp
     !e0:(ks.drop i).zip (ys.drop i)=[]:=by rw[ah2 Tc];rfl
     !e:upd H D (.dK (putAll d ((ks.drop i).zip (ys.drop i))))=H:=by
       rw[e0]
       funext b
       unfold upd
       split
       . rename_i hb;rw[hb,hD];rfl
       . rfl
     rw[e]at hR
     change wpAny _ _ (ahh D []>>=_) _ _ _
     #wpAny_bind (wpAny_pure (wpAny_pure (hR _ I1)))
end
def qw.up {h g:Heap}{z TI TO i1 i2 l1 l2:J}{i:Nat}(s:qw h z TI TO i1 i2 l1 l2 i)(k:∀c o,h.get? c=S o->g.get? c=S o):qw g z TI TO i1 i2 l1 l2 i:=by
 @⟨t1,⟨x,y,t2⟩,a,b,zz⟩:=s
 #⟨k _ _ t1,⟨x,y,k _ _ t2⟩,a.at λo e=>k _ o e,b.at λo e=>k _ o e,?_⟩
 rcases zz with e|⟨T,f,x,y,e,p⟩
 . #.inl (k _ _ e)
 . #.inr ⟨T,f,x,y,k _ _ e,k _ _ p⟩
def rS (K:ad2)(ta:TA):TE:=λσ H Q=>ta σ H λvs H1=>∃(l1 l2:J) (ks:O Key) (ys:O V),vs=[.ref l1,.ref l2]/\aB K H1 l1 (ks.map kV)/\aB K H1 l2 ys/\ks~=ys~/\ks~<=1000/\∀D,H1 D=Z->Q (.ref D) (upd H1 D (.dK (putAll [] (ks.zip ys))))
section
variable{X:Cx}{a b:Expr}{ta:TA}{p1 p2 pos dM:Pos}
def um (hc:X.calm=true)(hg1:Gl X "dict")(hm1:X.mg "dict"=Z)(hg2:Gl X "zip")(hm2:X.mg "zip"=Z)(ha:qt X [a,b] ta)(hb:bT b)(hv1:aeT "dict"=S (.type "dict"):=by first|rfl|decide +kernel)(hv2:aeT "zip"=S (.type "zip"):=by first|rfl|decide +kernel) :
   PE X (.Call (.Name "dict" p1) [.Call (.Name "zip" p2) [a,b] [] dM] [] pos) (rS X.K ta):=by
 intro pins s σ H Q I h
 #wpAny_Call_Name_kw (eS I hg1 hm1 hv1 ?_ (by left) (by left))
 #aez ?_ rfl rfl
 change wpAny _ _ (spliced ((false,eval (.Call (.Name "zip" p2) [a,b] [] dM) X.env)::[])) _ _ s
 #afe (wpAny_Call_Name_kw (eS I hg2 hm2 hv2 ?_ (by left) (by left)))
 #aez (bH (ha.pa dM pins s σ H _ I h) λus s1 h9=>?_) ((ha.ns a [b] rfl).1.h [b] X.env) ((ha.ns a [b] rfl).2 dM X.env)
 @⟨vs,H1,I1,r1,q1⟩:=h9
 @⟨l1,l2,ks,ys,e,kq,qW,hlen,GC,q⟩:=q1
 subst e
 @⟨u,v,rfl,ru,rv⟩:=Vals.two r1
 obtain rfl:u=aen l1:=ru
 obtain rfl:v=aen l2:=rv
 @⟨nD,oz,p1,_⟩:=I1.list kq
 @⟨jD,yn,p2,_⟩:=I1.list qW
 !Oo:l1<s1.heap.objs.size:=by@⟨_,_,e,_⟩:=p1;#aee e
 !Oq:l2<s1.heap.objs.size:=by@⟨_,_,e,_⟩:=p2;#aee e
 #call_zip_2 p1.isList p2.isList λh' hz hTI xo yK xx hsz hk=>?_
 #afJ ?_
 !hh:X.A.handled=Z:=I1.ok.hd hc
 !ap:=zipApart_new Oo Oq
 !st:qw h' (s1.heap.objs.size+4) (s1.heap.objs.size+2) (s1.heap.objs.size+3) s1.heap.objs.size (s1.heap.objs.size+1) l1 l2 0:=⟨hTI,⟨_,_,xo⟩,yK,xx,.inl hz⟩
 !I2:Inv X pins σ H1 {s1 with heap:=h'}:=I1.kept (t':=s1.toks) hk
 !up:∀k,eV X pins H1 (s1.heap.objs.size+k):=λk=>I1.nq (aff _ _) (I1.hok.fresh (aff _ _))
 !fp1:∀c∈([s1.heap.objs.size+4,s1.heap.objs.size+2,s1.heap.objs.size+3,s1.heap.objs.size,s1.heap.objs.size+1]:O J),eV X pins H1 c/\c<h'.objs.size:=λc xw=>by
   simp only[aew,aep,or_false]at xw
   rw[hsz]
   rcases xw with rfl|rfl|rfl|rfl|rfl
   . #⟨up 4,aht _⟩
   . #⟨up 2,by change _+2<_+5;#aga (by left) _⟩
   . #⟨up 3,by change _+3<_+5;#aga (by left) _⟩
   . #⟨up 0,by change _+0<_+5;#aga (by left) _⟩
   . #⟨up 1,by change _+1<_+5;#aga (by left) _⟩
 generalize s1.heap.objs.size+4=z at hz st ap fp1 ⊢
 generalize s1.heap.objs.size+2=TI at hz hTI st ap fp1
 generalize s1.heap.objs.size+3=TO at hz xo st ap fp1
 generalize s1.heap.objs.size+1=i2 at st ap fp1
 generalize s1.heap.objs.size=i1 at st ap fp1
 !hD:H1 h'.objs.size=Z:=I2.hok.fresh (ad5 _)
 !I3:Inv X pins σ (upd H1 h'.objs.size (.dK [])) {s1 with heap:=h'.push {cls:=.type "dict",data:=.dict #[]} }:=I2.laid (t':=s1.toks) (λy y e=>ad6 _ e) (ad5 _) (l9 h' I2.big)
 !yv:=st.up (g:=h'.push {cls:=.type "dict",data:=.dict #[]}) λc o e=>ad6 _ e
 #callType_codes (s:={s1 with heap:=h'}) (Q₁:=λobj t=>obj=.ref h'.objs.size/\t={s1 with heap:=h'.push {cls:=.type "dict",data:=.dict #[]} }) F.kt_called_dict (F.kt_typeCall_dict_1 _) F.entry_dict_init (kt_code_dict_new _ ⟨U,U⟩) ?_
 rintro obj t ⟨rfl,rfl⟩
 !qS:(h'.push {cls:=.type "dict",data:=.dict #[]}).DictOf (bc X.prog X.w) h'.objs.size []:=ag1 h'
 !Wk:∀c∈([z,TI,TO,i1,i2]:O J),eV X pins (upd H1 h'.objs.size (.dK [])) c:=λc xw=>⟨by rw[aj (aeA (fp1 c xw).2)];#(fp1 c xw).1.1,(fp1 c xw).1.2⟩
 generalize Ob:({s1 with heap:=h'.push {cls:=.type "dict",data:=.dict #[]} }:Shared)=s3 at I3 ⊢
 !zY:s3.heap.DictOf (bc X.prog X.w) h'.objs.size []:=by rw[← Ob];#qS
 !hz3:IsZip s3.heap z TI TO .none:=by rw[← Ob];#ad6 _ hz
 !P6:qw s3.heap z TI TO i1 i2 l1 l2 0:=by rw[← Ob];#yv
 generalize h'.objs.size=D at hD I3 zY Wk ⊢
 !keepL:∀{l:J} {xs:O V},aB X.K H1 l xs->aB X.K (upd H1 D (.dK [])) l xs:=λhq=>by
   rcases hq with(r|⟨o,r⟩)|r
   . #.inl (.inl (by rw[aj (ai r hD)];#r))
   . #.inl (.inr ⟨o,by rw[aj (ai r hD)];#r⟩)
   . #.inr r
 #⟨zY.typeIs,F.args_dict_init_2 _ _,?_⟩
 unfold Builtin.«dict.__init__»
 #wpAny_bind ?_
 unfold ahg
 #wpAny_bind (wpAny_notOrdered_dict zY.typeIs ?_)
 change wpAny _ _ (pure (D,[aen z])) _ _ _
 #wpAny_pure ?_
 change wpAny _ _ (afx "dict.__init__" D (.ref z) [] .none) _ _ _
 unfold afx
 @⟨fl,eo⟩:=P6.ob
 #wpAny_bind (wpAny_typeOf (T:="zip") ⟨_,eo,U⟩ ?_)
 rw[aR (by left)]
 #wpAny_bind (Gh eo hh λg tk kk=>?_)
 rw[aR (show(Option.isNone (Z:Option Value))=true from rfl)]
 !I4:Inv X pins σ (upd H1 D (.dK [])) {s3 with heap:=g,toks:=tk}:=I3.kept kk
 !Ii:qw g z TI TO i1 i2 l1 l2 0:=P6.up kk
 #wpAny_bind (wpAny_rule ?_)
 #wpAny_bind (wpAny_pyIter_zip (kk _ _ hz3) ?_)
 #wpAny_pure ⟨afF _ (by right),?_⟩
 #CW (D:=D) (pins:=pins) (σ:=σ) (A:=X.A.in1) (show X.A.in1.handled=Z from hh) ap hlen ks~ 0 _ _ [] _ _ _ (by simp) (aeG _) I4 ae (by simp;#aeg GC (by left)) (keepL kq) (keepL qW) Wk Ii ?_
 intro s' I'
 rw[da,afR,afR]at I'
 #⟨U,.ref D,_,I',U,q D hD⟩
end
end L2
namespace L3
open PySem PySem.Spec PyProof.Rows L2
def DE {X:Cx}{a b:Expr}{t:TA}{p1 p2 pos dM:Pos}{KK:ad2}(hg1:Gl X "dict")(hm1:X.mg "dict"=Z)(hg2:Gl X "zip")(hm2:X.mg "zip"=Z)(ha:SA X [a,b] t)(hb:bT b:=by first|show gS|show jf|show gR)(hc:X.calm=true:=by rfl)(hK:X.K=KK:=by first|show L3.bM|show L3.ba|rfl) :
   SE X (.Call (.Name "dict" p1) [.Call (.Name "zip" p2) [a,b] [] dM] [] pos) (rS KK t):=by
 subst hK
 #⟨um hc hg1 hm1 hg2 hm2 ha.h hb⟩
end L3
namespace L2
open PySem PySem.Spec PyProof.Rows
section
variable{X:Cx}{pos:Pos}
def Ir (i j k:Nat)(ta:TA):TS:=λD σ H=>ta σ H λvs H1=>∃u v w,vs=[u,v,w]/\D.nx (((σ.set i (S u)).set j (S v)).set k (S w)) H1
def FD {i j k:Nat}{x y z:Str}{a b c:Expr}{ta:TA}{px py pz pt:Pos}{kt k2 rq}(hc:X.calm=true)(hN:X.N.Nodup)(hi:X.N[i]?=S x)(hj:X.N[j]?=S y)(hk:X.N[k]?=S z)(hij:i≠j)(hik:i≠k)(hjk:j≠k)
   (hx:X.env.scope.names.lookup x=S .local) (hy:X.env.scope.names.lookup y=S .local) (hzl:X.env.scope.names.lookup z=S .local) (ha:PA X [a,b,c] ta)
   (hw:age [.Tuple [.Name x px,.Name y py,.Name z pz] kt pt] (.Tuple [a,b,c] k2 rq) X.env=pure (S [x,y,z]))
   (hs:agd [.Tuple [.Name x px,.Name y py,.Name z pz] kt pt] (.Tuple [a,b,c] k2 rq) pos.line X.env=pure false:=by rfl) :
   PS X (.Assign [.Tuple [.Name x px,.Name y py,.Name z pz] kt pt] (.Tuple [a,b,c] k2 rq) pos) (Ir i j k ta):=by
 intro pins s σ H D I h
 rw[exec_Assign_arm]
 #wpAny_bind (wpAny_standAt ?_)
 rw[hs]
 #wpAny_bind (wpAny_pure ?_)
 rw[aM (by left)]
 #wpAny_bind (Tuple_ (bH (ha _ pins s σ H _ I h) λus s1 h9=>?_))
 @⟨vs,H1,I1,r1,q1⟩:=h9
 @⟨u,v,w,e1,q1⟩:=q1
 subst e1
 obtain⟨u1,u2,u3,rfl,ru,rv,rw'⟩ : ∃u1 u2 u3,us=[u1,u2,u3]/\RelV u u1/\RelV v u2/\RelV w u3:=by
   cases r1 with
   | cons p q=>
     cases q with
     | cons p' q'=>
       cases q' with
       | cons p'' q''=>
         cases q''
         #⟨_,_,af U ⟨p,p',p''⟩⟩
 #wpAny_newObj_type ?_ akB
 !I2:Inv X pins σ H1 {s1 with heap:=s1.heap.push {cls:=.type "tuple",data:=.seq [u1,u2,u3].toArray} }:=I1.kept (t':=s1.toks) λb o e=>ad6 _ e
 rw[hw]
 #wpAny_bind (wpAny_pure ?_)
 change wpAny (model X.prog X.w) X.A (do rule "assign.swapped-stores";let items←unpackItems (.ref s1.heap.objs.size) 3 Z;assignInOrder [λv=>agt X.env z v,λv=>agt X.env y v,λv=>agt X.env x v] items.reverse;pure aii) _ _ _
 #wpAny_bind (wpAny_rule (wpAny_bind (unpackItems_tuple (items:=#[u1,u2,u3]) (I.ok.hd hc) (ah3 s1.heap _) λh' GO=>?_)))
 !I3:=I2.kept (h':=h') (t':=s1.toks) λb o e=>GO b o (aeA (aee e)) e
 change wpAny _ _ (assignInOrder [λv=>agt X.env z v,λv=>agt X.env y v,λv=>agt X.env x v] [u3,u2,u1]>>=λt=>pure aii) _ _ _
 #wpAny_bind (assignInOrder_cons (wpAny_bindName (eM I3 hN hk (.inl hzl) rw' (λs2 I4=>?_) (.inr hzl))))
 #assignInOrder_cons (wpAny_bindName (eM I4 hN hj (.inl hy) rv (λs3 I5=>?_) (.inr hy)))
 #assignInOrder_cons (wpAny_bindName (eM I5 hN hi (.inl hx) ru (λs4 I6=>ahD (wpAny_pure ?_)) (.inr hx)))
 !e:((σ.set k (S w)).set j (S v)).set i (S u)=((σ.set i (S u)).set j (S v)).set k (S w):=by
   rw[ag5 _ _ hjk.symm,ag5 _ _ hik.symm,ag5 _ _ hij.symm]
 rw[e]at I6
 #⟨_,H1,I6,q1⟩
end
end L2
namespace L3
open PySem PySem.Spec PyProof.Rows L2
section
variable{X:Cx}{a b c e o:Expr}{es:O Expr}{ta tb tc te:TE}{t:TA}{pos:Pos}
def OR (i j k:Nat){x y z:Str}{px py pz pt:Pos}{kt k2 rq}(hN:X.N.Nodup)(ha:SA X [a,b,c] t)(hi:X.N[i]?=S x:=by rfl)(hj:X.N[j]?=S y:=by rfl)(hk:X.N[k]?=S z:=by rfl)(hij:i≠j:=by left)(hik:i≠k:=by left)(hjk:j≠k:=by left)
   (hx:X.env.scope.names.lookup x=S .local:=by rfl) (hy:X.env.scope.names.lookup y=S .local:=by rfl) (hzl:X.env.scope.names.lookup z=S .local:=by rfl)
   (hw:age [.Tuple [.Name x px,.Name y py,.Name z pz] kt pt] (.Tuple [a,b,c] k2 rq) X.env=pure (S [x,y,z]):=by rfl)
   (hs:agd [.Tuple [.Name x px,.Name y py,.Name z pz] kt pt] (.Tuple [a,b,c] k2 rq) pos.line X.env=pure false:=by rfl) (hc:X.calm=true:=by rfl) :
   SS X (.Assign [.Tuple [.Name x px,.Name y py,.Name z pz] kt pt] (.Tuple [a,b,c] k2 rq) pos) (Ir i j k t):=⟨FD hc hN hi hj hk hij hik hjk hx hy hzl ha.h.pa hw hs⟩
def Gx {f:Expr}{tf:TE}{apos:Pos}(hu:X.A.units+1<cLine)(ho:SE X o ta)(he:SE X e te)(hf:SE X f tf)(m:M2 X o "get" apos e f pos:=by#⟨rfl,rfl,rfl,rfl⟩):SE X (.Call (.Attribute o "get" apos) [e,f] [] pos) (Co ta te tf):=⟨Bb hu ho.h he.h hf.h m⟩
end
end L3
namespace L2
open PySem PySem.Spec PyProof.Rows
end L2
namespace L3
open PySem PySem.Spec PyProof.Rows L2
section
variable{X:Cx}{a b c e o:Expr}{es:O Expr}{ta tb tc te:TE}{t:TA}{pos pos':Pos}{P:Program}{w:World}
def oT {KK:ad2}(hK:X.K=KK:=by first|show L3.bM|show L3.ba|rfl):SC X (.type "tuple") (λxs H Q=>∃p ys,xs=[.ref p]/\aB KK H p ys/\∀l,H l=Z->Q (.ref l) (upd H l (.tup ys))):=by
 subst hK
 #⟨λpins s σ H xs us Q I r h=>?_⟩
 @⟨p,ys,e,hq,q⟩:=h
 #nj pins s σ H xs us Q I r ⟨p,ys,e,.inl ⟨hq,q⟩⟩
end
end L3
namespace L2
open PySem PySem.Spec PyProof.Rows
def Et {a b p}:bT (.Dict a b p):=hJ λy y z=>nomatch z
def rT (ta:TA):TE:=λσ H Q=>ta σ H λvs H1=>∃n:Nat,vs=[.int n]/\n<=100000/\∀l,H1 l=Z->Q (.ref l) (upd H1 l (.lst ((aem n).map λi:Nat=>V.int i)))
section
variable{X:Cx}{a b:Expr}{ta:TA}{tx ty:TE}{p1 p2 pos dM:Pos}
def uo (hc:X.calm=true)(hg1:Gl X "list")(hm1:X.mg "list"=Z)(hg2:Gl X "range")(hm2:X.mg "range"=Z)(ha:qt X [a] ta)(hv1:aeT "list"=S (.type "list"):=by first|rfl|decide +kernel) :
   PE X (.Call (.Name "list" p1) [.Call (.Name "range" p2) [a] [] dM] [] pos) (rT ta):=by
 intro pins s σ H Q I h
 #wpAny_Call_Name_kw (eS I hg1 hm1 hv1 ?_ (by left) (by left))
 #aez ?_ rfl rfl
 change wpAny _ _ (spliced ((false,eval (.Call (.Name "range" p2) [a] [] dM) X.env)::[])) _ _ s
 #afe (wpAny_Call_Name_kw (eS I hg2 hm2 boot_range ?_ (by left) (by left)))
 #aez (bH (ha.pa dM pins s σ H _ I h) λus s1 h9=>?_) ((ha.ns a [] rfl).1.h [] X.env) ((ha.ns a [] rfl).2 dM X.env)
 @⟨vs,H1,I1,r1,q1⟩:=h9
 @⟨n,e,hn,q⟩:=q1
 subst e
 @⟨u,rfl,ru⟩:=vals1 r1
 @⟨t,rfl⟩:=ru
 #call_range_1 ?_
 #afJ ?_
 !I2:Inv X pins σ H1 {s1 with heap:=s1.heap.push {cls:=.type "range",data:=.fields #[.int 0 s1.toks,.int n t,.int 1 (s1.toks+1)]},toks:=s1.toks+1+1}:=I1.kept (t':=s1.toks+1+1) λb o e=>ad6 _ e
 !sz:af2 0 n 1=(n:Int):=by
   unfold af2
   rw[aR (by left)]
   by_cases z:(0:Int)<n
   . rw[aR z,ahq]
     lia
   . rw[aM z]
     lia
 !sm:Builtin.Range.small 0 n 1=true:=by
   #small_one (by lia) (by lia) (by lia) (by lia)
 #call_list_range (n:=n) (I2.ok.hd hc) (aeq _ rfl) sm sz (aeg hn (by left)) λh' tk acc c' hk hS Nq=>?_
 #⟨V.ref (s1.heap.push {cls:=.type "range",data:=.fields #[.int 0 s1.toks,.int n t,.int 1 (s1.toks+1)]}).objs.size,_,I2.laid (a:=(s1.heap.push {cls:=.type "range",data:=.fields #[.int 0 s1.toks,.int n t,.int 1 (s1.toks+1)]}).objs.size) (o:=.lst ((aem n).map λi:Nat=>V.int i)) (t':=tk) hk (ad5 _) ⟨by rw[ad1,aeJ];show aeg hn (by left),acc.toList,c',?_,by simpa using hS⟩,U,q _ (I2.hok.fresh (ad5 _))⟩
 !go:∀(l:O Value) (m:Nat),(∀j v,l[j]?=S v->∃t,v=agl ((m+j:Nat):Int) t)->Vals ((List.range' m l~).map λi:Nat=>V.int i) l:=by
   intro l
   induction l with
   | nil=>intro m _;#.nil
   | cons v r ih=>
     intro m hl
     @⟨t,e⟩:=hl 0 v rfl
     #.cons ⟨t,e⟩ (ih (m+1) λj v hj=>?_)
     @⟨t,e⟩:=hl (j+1) v hj
     #⟨t,by rw[e,show m+1+j=m+(j+1)by lia]⟩
 !z:=go acc.toList 0 λj v hj=>by
   @⟨t,e⟩:=Nq.2 j v (by rw[← ah6];#hj)
   #⟨t,by rw[e,show(0:Int)+(j:Int)*1=((0+j:Nat):Int)by lia]⟩
 rw[af3,Nq.1,← List.range_eq_range']at z
 #z
end
end L2
namespace L3
open PySem PySem.Spec PyProof.Rows L2
section
variable{X:Cx}{a b c e o:Expr}{es:O Expr}{ta tb tc te:TE}{t:TA}{pos:Pos}
def Ek {p1 p2 dM:Pos}(hg1:Gl X "list")(hm1:X.mg "list"=Z)(hg2:Gl X "range")(hm2:X.mg "range"=Z)(ha:SA X [a] t)(hc:X.calm=true:=by rfl):SE X (.Call (.Name "list" p1) [.Call (.Name "range" p2) [a] [] dM] [] pos) (rT t):=⟨uo hc hg1 hm1 hg2 hm2 ha.h⟩
def LF {KK:ad2}{p2:Pos}(ha:SE X a ta)(hb:SE X b tb)(hK:X.K=KK:=by first|show L3.bM|show L3.ba|rfl):SE X (.Subscript a (.Slice (S b) Z Z p2) pos) (Qi (FJ KK) ta (oI tb) lI):=by
 subst hK
 #⟨jK pW ha.h (jM hb.h) pS⟩
end
end L3
namespace TW
end TW
namespace L2
open PySem PySem.Spec PyProof.Rows
end L2
namespace L3
open PySem PySem.Spec PyProof.Rows L2
end L3
namespace L2
open PySem PySem.Spec PyProof.Rows SeqAt
end L2
namespace L3
open PySem PySem.Spec PyProof.Rows L2
def G5 {X:Cx}:SO X (binaryOp .Mult) Ph:=⟨Kv⟩
end L3
namespace L2
open PySem PySem.Spec PyProof.Rows
def bw.ex {P:Program}{w:World}{H:Hp}{h:Heap}{a:J}{o:HO}(x:bw P w H h a o):∃ob,h.get? a=S ob:=by
 cases o with
 | lst xs=>@⟨_,_,_,_,e⟩:=x;#⟨_,e⟩
 | tup xs=>@⟨_,_,_,ob,e,_⟩:=x;#⟨ob,e⟩
 | dK kvs=>@⟨_,_,_,_,o,_,_,e,_⟩:=x;#⟨o,e⟩
 | dT kvs=>@⟨_,_,_,_,o,_,_,e,_⟩:=x;#⟨o,e⟩
 | set S8 n=>@⟨o,_,_,_,e,_⟩:=x;#⟨o,e⟩
 | ins C dx fs=>@⟨_,_,_,e,_⟩:=x;#⟨_,e⟩
 | own y=>@⟨ob,e⟩:=x;#⟨ob,e⟩
 | xd fs=>@⟨_,⟨ob,_,_,e,_⟩,_⟩:=x;#⟨ob,e⟩
 | rng lo hi=>@⟨_,_,_,e⟩:=x;#⟨_,e⟩
 | frz ob u=>@⟨e,_⟩:=x;#⟨ob,e⟩
 | tbl ps=>#⟨_,(show h.get? a=S _ from x)⟩
 | met f y=>#⟨_,(show h.get? a=S _ from x)⟩
 | ext φ=>@⟨_,⟨ob,e⟩,_⟩:=x;#⟨ob,e⟩
def qm (P:Program)(w:World)(base:Heap):sr:=λouter H s E e s'=>∃(ea:J) (cls a0:Value) (B:Heap) (H':Hp),e=.ref ea/\s'.os=s.os/\AllBare s'.gens/\Un (jz outer) [] H H' s.heap s'.heap/\iU P w H' s'.heap /\
 base.StaysIn B/\Heap.FlyingW B outer ea cls a0 s'.heap/\(∀b o,s.heap.get? b=S o->b∉jz outer->∃o',B.get? b=S o')/\(∀b u,H' b=S u->∃o,B.get? b=S o)/\s.heap.get? ea=Z/\E cls Z H'
section
variable{P:Program}{w:World}{K:ad2}{mg:Str->Option Value}{base:Heap}{N:O Str}{qual:Str}{scope:Scope}{f:J}{cd:Value}{A:Around}{outer:O Env}{s:Shared}{H:Hp}{E:XK}
def kh {H1:Hp}{h B g:Heap}(ok:iU P w H1 h)(inB:∀b u,H1 b=S u->∃o,B.get? b=S o)(sb:B.StaysIn h)(sg:B.StaysIn g):iU P w H1 g:=λa u e=>by
 #(ok a u e).k9 (λb o hb q=>?_) (λz q=>q) (λz z q=>q)
 !QW:∃v,H1 b=S v:=by
   rcases hb with rfl|hb
   . #⟨u,e⟩
   . #⟨_,hb⟩
 @⟨v,hv⟩:=QW
 @⟨o',ho'⟩:=inB b v hv
 !:=sb b o' ho'
 rw[q]at this
 cases this
 #sg b o ho'
def tW {pins:O (J×Obj)}{σ:St}{H1:Hp}{s1:Shared}{h':Heap}{e:J}{cls:Value}{args:O Value}(I:Inv (gM (qm P w base) P w K mg base N qual scope f cd A outer s H E) pins σ H1 s1)(hx:Heap.MadeExcOf s1.heap h' e cls args)(q:E cls Z H1) :
   (gM (qm P w base) P w K mg base N qual scope f cd A outer s H E).xe (.ref e) {s1 with heap:=h'}:=by
 !Js:(gM (qm P w base) P w K mg base N qual scope f cd A outer s H E).stack=envOfC qual scope s.heap.objs.size f cd::outer:=rfl
 !fr:s1.heap.FunFrames base (envOfC qual scope s.heap.objs.size f cd::outer):=I.stack
 !frf:=I.qd
 rw[Js]at frf
 !hbase:∀b o,base.get? b=S o->s1.heap.get? b=S o:=I.bk
 !mX:Un (jz outer) [] H H1 s.heap s1.heap:=I.base
 !hex:∀b:J,b∉([]:O J):=λb z=>nomatch z
 !hloc:∀b o,s.heap.get? b=S o->b∉jz outer->b∉jz (envOfC qual scope s.heap.objs.size f cd::outer):=λb o hb hn hm=>by
   rcases List.mem_cons.mp (show b∈s.heap.objs.size::jz outer from hm)with z|z
   . #aw (aee hb) (by rw[z];#afw _)
   . #hn z
 let B:=PySem.W.hideAll s1.heap (jz (envOfC qual scope s.heap.objs.size f cd::outer))
 !bget:∀b o,s1.heap.get? b=S o->b∉jz (envOfC qual scope s.heap.objs.size f cd::outer)->B.get? b=S o:=λb o hb hn=>ah0 _ hb hn
 !V6:B.StaysIn s1.heap:=λb o hb=>aia _ hb
 !Rt:base.StaysIn B:=λb o hb=>bget b o (hbase b o hb) λhm=>by
   !:=(fr.mem hm).1
   rw[hb]at this
   cases this
 !Zf:s1.heap.FunFrames B (envOfC qual scope s.heap.objs.size f cd::outer):=PySem.W.funFrames_hide fr λenv he a ha=>List.mem_filterMap.mpr ⟨env,he,ha⟩
 !yA:∀b u,H1 b=S u->∃o,B.get? b=S o:=λb u hu=>by
   @⟨o,ho⟩:=(I.hok b u hu).ex
   #⟨o,bget b o ho λhm=>?_⟩
   rw[frf b hm]at hu
   cases hu
 #wpAny_leaves_madeW (base:=B) (h:=s1.heap) (args:=args) I.ok.frames rfl V6 Zf hx λh2 t x1 x2 x3 x4=>?_
 #⟨e,cls,.ref t,B,H1,U,I.os,I.bare,⟨λb o hb n hf y=>?_,λb o hb n hf y=>?_,λb o hb n y=>mX.free b o hb n (hex b),λb o hb y=>?_,mX.tups,mX.frzs,mX.tbls⟩,kh I.hok yA V6 x1.1,Rt,x1,λb o hb hf=>?_,yA,?_,q⟩
 . #x1.1 b o (bget b o (mX.keep b o hb n hf (hex b)) (hloc b o hb hf))
 . @⟨sl,e1⟩:=mX.slot b o hb n hf (hex b)
   @⟨_,o2,qp,hd2⟩:=fr.mem (show b∈jz (envOfC qual scope s.heap.objs.size f cd::outer)from aeU _ hf)
   rw[e1]at qp
   cases qp
   @⟨Vt,e2⟩:=x4 b _ (hx.keeps b _ e1) hd2
   #⟨Vt,e2⟩
 . @⟨o1,e1⟩:=mX.there b o hb (hex b)
   by_cases hm:b∈jz (envOfC qual scope s.heap.objs.size f cd::outer)
   . @⟨_,o2,qp,hd2⟩:=fr.mem hm
     @⟨Vt,e2⟩:=x4 b _ (hx.keeps b _ qp) hd2
     #⟨_,e2⟩
   . #⟨o1,x1.1 b o1 (bget b o1 e1 hm)⟩
 . @⟨o1,e1⟩:=mX.there b o hb (hex b)
   #⟨o1,bget b o1 e1 (hloc b o hb hf)⟩
 . cases z:s.heap.get? e with
   | none=>rfl
   | some o=>
     @⟨o1,e1⟩:=mX.there e o z (hex e)
     rw[hx.new]at e1
     cases e1
def OS {E':XK}(hE:∀c d H2,E' c d H2->E c d H2):Passes (qm P w base) (gM (qm P w base) P w K mg base N qual scope f cd A outer s H E) E':=by
 intro pins σ H1 s1 e s2 I cx
 @⟨ea,cls,a0,B,H2,rfl,Vc,zb,Cz,Jq,Rt,zy,inB,yA,Q9,q⟩:=cx
 !mX:Un (jz outer) [] H H1 s.heap s1.heap:=I.base
 !hex:∀b:J,b∉([]:O J):=λb z=>nomatch z
 !Js:(gM (qm P w base) P w K mg base N qual scope f cd A outer s H E).stack=envOfC qual scope s.heap.objs.size f cd::outer:=rfl
 rw[Js]at zy Cz inB
 !hloc:∀b o,s.heap.get? b=S o->b∉jz outer->b∉jz (envOfC qual scope s.heap.objs.size f cd::outer):=λb o hb hn hm=>by
   rcases List.mem_cons.mp (show b∈s.heap.objs.size::jz outer from hm)with z|z
   . #aw (aee hb) (by rw[z];#afw _)
   . #hn z
 !Mc:=zy.2.2.1
 !sB2:=zy.1
 #wpAny_leaves_onW I.ok.frames rfl zy λh3 x1 x2=>?_
 !Og:∀b o,s.heap.get? b=S o->b∉jz outer->∃o',B.get? b=S o':=λb o hb hf=>by
   @⟨o1,e1⟩:=mX.there b o hb (hex b)
   #inB b o1 e1 (hloc b o hb hf)
 #⟨ea,cls,a0,B,H2,U,Vc.trans I.os,zb,⟨λb o hb n hf y=>?_,λb o hb n hf y=>?_,λb o hb n y=>?_,λb o hb y=>?_,λb xs h=>Cz.tups b xs (mX.tups b xs h),λb o u h=>Cz.frzs b o u (mX.frzs b o u h),λb ps h=>?_⟩,kh Jq yA sB2 x1.1,Rt,x1,Og,yA,?_,hE _ _ _ q⟩
 . !e1:=mX.keep b o hb n hf (hex b)
   !n1:=mX.free b o hb n (hex b)
   !e2:=Cz.keep b o e1 n1 (hloc b o hb hf) (hex b)
   @⟨o',ho'⟩:=Og b o hb hf
   !e3:=sB2 b o' ho'
   rw[e2]at e3
   cases e3
   #x1.1 b o ho'
 . @⟨sl,e1⟩:=mX.slot b o hb n hf (hex b)
   !n1:=mX.free b o hb n (hex b)
   @⟨Vt,e2⟩:=Cz.any e1 n1 (hex b)
   @⟨_,o2,qp,hd2⟩:=Mc.mem (show b∈jz (envOfC qual scope s.heap.objs.size f cd::outer)from aeU _ hf)
   rw[e2]at qp
   cases qp
   @⟨XE,e3⟩:=x2 b _ e2 hd2
   #⟨XE,e3⟩
 . @⟨o1,e1⟩:=mX.there b o hb (hex b)
   #Cz.free b o1 e1 (mX.free b o hb n (hex b)) (hex b)
 . @⟨o1,e1⟩:=mX.there b o hb (hex b)
   @⟨o2,e2⟩:=Cz.there b o1 e1 (hex b)
   by_cases hm:b∈jz (envOfC qual scope s.heap.objs.size f cd::outer)
   . @⟨_,o3,ho3,hd3⟩:=Mc.mem hm
     @⟨XE,e3⟩:=x2 b _ ho3 hd3
     #⟨_,e3⟩
   . @⟨o',ho'⟩:=inB b o1 e1 hm
     #⟨o',x1.1 b o' ho'⟩
 . @⟨m1,e1⟩:=mX.tbls b ps h
   @⟨m2,e2⟩:=Cz.tbls b _ e1
   #⟨m1++m2,by rw[e2,Array.append_assoc]⟩
 . cases z:s.heap.get? ea with
   | none=>rfl
   | some o=>
     @⟨o1,e1⟩:=mX.there ea o z (hex ea)
     rw[Q9]at e1
     cases e1
end
abbrev vE:O Value:=[.type "ValueError",.type "Exception",.type "BaseException",.type "object"]
def oW (K:ad2)(C:J):Option (O Value):=match K.lookup C with
 | some ⟨_,_,.cls cd,_⟩=>S cd.mro
 | _=>Z
structure Xc (K:ad2)(mg:Str->Option Value)(x:Str)(C:J)(tl:O Value):Prop where
 m:mg x=S (.ref C)
 ex:ahG K C vE "ValueError.__new__"=true
 mro:oW K C=S (.ref C::tl)
def Xc.obj {K:ad2}{mg:Str->Option Value}{x:Str}{C:J}{tl:O Value}{h:Heap}(c:Xc K mg x C tl)(hk:K.In h) :
   ∃N nm q bs hdct sn sub ab col dd k0 k1 k2 k3 k5 mN,h.get? C=S (excClassObj nm q C N bs tl hdct sn sub ab col dd k0 k1 k2 k3 k5 "ValueError.__new__")/\h.Ns N mN/\mN "__init__"=Z/\OwnTail h vE tl:=by
 !q:=c.ex
 !m:=c.mro
 unfold ahG at q
 unfold oW at m
 split at q
 . rename_i od cd sl look
   rw[look]at m
   split at q
   . rename_i C' bm k0 k1 k2 k3 n k5 hm hs
     simp only[aeI,beq_iff_eq,Bool.not_eq_true']at q
     @⟨⟨⟨⟨⟨z1,z2⟩,NB⟩,ht⟩,hok⟩,yL⟩:=q
     subst z1 z2
     !m2:cd.mro=.ref C'::tl:=by injection m
     rw[hm]at m2
     !e1:bm=tl:=by injection m2
     subst e1
     @⟨nm,bs,mro,ns,qn,hd,sn,sub,ab,col,del⟩:=cd
     dsimp only at hm NB hok yL
     subst hm NB
     !Q3:sl=#[k0,k1,k2,k3,S (.builtin "ValueError.__new__"),k5]:=by
       @⟨l⟩:=sl
       simp only at hs
       rw[hs]
     subst Q3
     #⟨ns,nm,qn,bs,hd,sn,sub,ab,col,od,k0,k1,k2,k3,k5,_,hk _ _ look,.of_isNs (PySem.W.isNs_of_in hk hok),PySem.W.nsMap_none_of_in hk hok yL,PySem.W.tail_of_in hk ht⟩
   . cases q
 . cases q
section
variable{X:Cx}{a:Expr}{ps:O Expr}{n:Nat}{t:TF}{te:TE}{pos:Pos}
def Ct (Ex:XK)(C:J)(ta:TA):TS:=λz σ H=>ta σ H λvs H1=>∃v,vs=[v]/\Ex (.ref C) Z H1
def lR (X:Cx)(Ex:XK):Prop:=∀{pins:O (J×Obj)} {σ:St} {H:Hp} {s:Shared} {h':Heap} {e:J} {cls:Value} {args:O Value},Inv X pins σ H s->Heap.MadeExcOf s.heap h' e cls args->Ex cls Z H->X.xe (.ref e) {s with heap:=h'}
def Bi {x:Str}{C:J}{tl:O Value}{Ex:XK}{ta:TA}{np cpos:Pos}(hx:lR X Ex)(c:Xc X.K X.mg x C tl)(hb:tl.contains (.type "BaseException")=true)(hg:Gl X x)(hc:X.calm=true)(ha:qt X [a] ta)(hd:(x==("__debug__":Str))=false:=by left) :
   PS X (.Raise (S (.Call (.Name x np) [a] [] cpos)) Z pos) (Ct Ex C ta):=by
 intro pins s σ H D I h
 @⟨N,nm,q,bs,hdct,sn,sub,ab,col,dd,k0,k1,k2,k3,k5,mN,hC,hN,yL,T⟩:=c.obj I.ok.mod.kin
 #wpAny_Raise_call_subT (C:=C) (nm:=nm) (q:=q) (N:=N) (bs:=bs) (bm:=tl) (hdct:=hdct) (sn:=sn) (sub:=sub) (ab:=ab) (col:=col) (dd:=dd) (k0:=k0) (k1:=k1) (k2:=k2) (k3:=k3) (k5:=k5) PySem.F.excBase_ValueError (mN:=mN) hb (I.ok.hd hc)
   (by rw[(ha.ns a [] rfl).1.h [] X.env];#(ha.ns a [] rfl).2 cpos X.env) yL (iN I hg c.m ⟨rfl,?_⟩ hd)
 !he:=(ha.ns a [] rfl).1.h [] X.env
 !h2:=ha.pa cpos pins s σ H _ I h
 rw[he]at h2 ⊢
 #afX (bH h2 λus s2 g9=>?_)
 @⟨vs,H1,I1,r,v,ev,q1⟩:=g9
 #⟨U,?_,I1.bk _ _ hC,hN.keeps I1.bk,T.keeps I1.bk,λh' e hm=>hx I1 hm q1⟩
 !h1:=r~
 rw[ev]at h1
 change us~<=sizeLine
 rw[← h1]
 #(by left:1<=sizeLine)
end
end L2
namespace L2
open PySem PySem.Spec PyProof.Rows PySem.W PySem.Builtin PySem.Builtin.ObjectAttr PySem.Builtin.Getset_descriptor
section
variable{prog:Program}{w:World}{A:Around}{E:Value->Shared->Prop}{s:Shared}{K:Frag}{x C:J}{ox:Obj}
def kI (x C:J)(h:Heap):Prop:=∃o,h.get? x=S o/\o.cls=.ref C
def kI.ty {x C:J}{h:Heap}{M8:Model}(p:kI x C h):Looks M8 h (typeOf (.ref x)) (.ref C):=by
 @⟨o,h1,h2⟩:=p
 #h2▸(Looks.ld h1).andThen .now
def DJ {R:Result->Shared->Prop}{tp:Value}(X:K.In s.heap)(I:kI x C s.heap)(hm:mroIn K C (.type "object")=S true)
   (h:R (.ok (.ret (.ref C))) s):codeAny (model prog w) A (.call (.builtin "getset_descriptor.__get__") ⟨[.builtin "object.__class__",.ref x,tp],[]⟩) R s:=by
 @⟨hh,g,dr,t,os⟩:=s
 !q0:=I.ty (M8:=model prog w)
 !q1:=looks_mroIn (M:=model prog w) X hm
 #codeAny_call_builtin KF.slot_gs.plain KF.entry_gs (KF.slot_gs.check _ _ _ _ _ _ _ _ KF.type_class (KF.args_gs _ _ _) ?_)
 unfold Builtin.«getset_descriptor.__get__» descrGet
 rw[dga_obj]
 #wpAny_bind (wpAny_pure ?_)
 unfold descrGetter descrCheckInstance descrNameAndClass isInstance
 simp only[KF.owner_class]
 repeat lk
 #⟨afF _ (by right),ahY KF.entry_class ?_⟩
 unfold Builtin.«object.__class__» shownTypeOf
 repeat lk
 #h
def xh {tk:Tok}{P:Value->Shared->Prop}(X:K.In s.heap)(I:kI x C s.heap)(ha:findIn K (.ref C) "__class__"=S (S (.builtin "object.__class__")))(hn:specialIn K (.builtin "object.__class__") "__get__"=S (S (.builtin "getset_descriptor.__get__")))
   (htk:takesIn K (.builtin "object.__class__")=S true) (hm:mroIn K C (.type "object")=S true) (h:P (.ref C) s) :
   wpAny (model prog w) A (Builtin.«object.__getattribute__» ⟨[.ref x,.str "__class__" tk],[]⟩) (λfin s'=>∃v,fin=.done (.ret v)/\P v s') E s:=by
 @⟨hh,g,d,t,os⟩:=s
 !l0:=I.ty (M8:=model prog w)
 !l1:=looks_findIn (M:=model prog w) X ha
 !l2:=looks_specialIn (M:=model prog w) X hn
 !l3:=looks_takesIn (M:=model prog w) X htk
 unfold Builtin.«object.__getattribute__»
 #wpAny_bind (wpAny_pure ?_)
 dsimp only
 #wpAny_bind (wpAny_pure ?_)
 #wpAny_bind (l0.at ?_)
 #wpAny_bind ?_
 unfold Builtin.ObjectAttr.find
 #wpAny_bind (l1.at ?_)
 #wpAny_bind (l2.at ?_)
 #wpAny_bind (wpAny_bind (l3.at ?_))
 rw[aR rfl]
 #wpAny_pure ?_
 #wpAny_bind (wpAny_rule (wpAny_pure ?_))
 change wpAny _ _ (agG (.builtin "getset_descriptor.__get__") (.builtin "object.__class__") (.ref x) (.ref C)) _ _ _
 unfold agG
 dsimp only
 #wpAny_bind (wpAny_holding (wpAny_call (DJ X I hm ?_)))
 #wpAny_pure (af U h)
def xf {M8:Model}{GZ:Value}{Q:Unit->Shared->Prop}(X:K.In s.heap)(I:kI x C s.heap)(hb:mroIn K C (.type "BaseException")=S true)(h:Q () s) :
   wpAny M8 A (checkBuiltinCall "BaseException.__getattribute__" ⟨[.ref x,GZ],[]⟩) Q E s:=by
 @⟨hh,g,d,t,os⟩:=s
 !l0:=I.ty (M8:=M8)
 !l1:=looks_mroIn (M:=M8) X hb
 !kd:builtinKind "BaseException.__getattribute__"=S .slot:=by right
 !sp:splitId "BaseException.__getattribute__"=S ("BaseException","__getattribute__"):=by right
 !ar:=F.args_bexc_ga (.ref x) GZ
 simp only[checkBuiltinCall,kd,sp]
 unfold isInstance
 #wpAny_bind (wpAny_bind (l0.at (l1.at ?_)))
 repeat (first|show h|assumption|wp_step)
def xg {Q:Option Value->Shared->Prop}(X:K.In s.heap)(I:kI x C s.heap)(hga:findIn K (.ref C) "__getattribute__"=S (S (.builtin "BaseException.__getattribute__")))(hgn:findIn K (.ref C) "__getattr__"=S Z)
   (ha:findIn K (.ref C) "__class__"=S (S (.builtin "object.__class__"))) (hn:specialIn K (.builtin "object.__class__") "__get__"=S (S (.builtin "getset_descriptor.__get__"))) (htk:takesIn K (.builtin "object.__class__")=S true)
   (hm:mroIn K C (.type "object")=S true) (hb:mroIn K C (.type "BaseException")=S true) (h:Q (S (.ref C)) {s with toks:=s.toks+1}) :
   wpAny (model prog w) A (ahR (.ref x) "__class__") Q E s:=by
 @⟨hh,g,d,t,os⟩:=s
 !l0:=I.ty (M8:=model prog w)
 !l1:=looks_findIn (M:=model prog w) X hga
 !l2:=looks_findIn (M:=model prog w) X hgn
 unfold ahR getAttrBy? getAttrBy
 #wpAny_bind (wpAny_mkText (wpAny_bind (wpAny_attempt (wpAny_holding (wpAny_bind (l0.at (wpAny_bind (l1.at ?_))))))))
 dsimp only
 rw[aM (λz=>by rw[show(agX "BaseException.__getattribute__" == agX "object.__getattribute__")=false by right,agj]at z;cases z)]
 unfold getAttrByItsOwn hookBefore
 rw[aR (show onTheHeap (aen C)=true by rfl)]
 #wpAny_bind (l2.at ?_)
 #wpAny_bind (wpAny_attempt (wpAny_holding ?_))
 change wpAny _ _ (boundAndCalled (.builtin "BaseException.__getattribute__") (.ref x) (.str "__class__" t)) _ _ _
 unfold boundAndCalled
 rw[F.attr_ValueError.ga.bind (.ref x)]
 #wpAny_bind (wpAny_pure ?_)
 #wpAny_call (codeAny_call_builtin F.attr_ValueError.ga.plain F.entry_bexc_ga (xf (s:=⟨hh,g,d,t+1,os⟩) X I hb ?_))
 #wpAny_mono (xh (s:=⟨hh,g,d,t+1,os⟩) X I ha hn htk hm (P:=λv s'=>v=.ref C/\s'=⟨hh,g,d,t+1,os⟩) ⟨U,U⟩) (λfin s' z=>?_) λy y z=>z
 @⟨v,rfl,rfl,rfl⟩:=z
 change wpAny (model prog w) A (handedOut (.ref C)) _ _ _
 #handed_on rfl (wpAny_pure h)
structure IL (K:Frag)(C:J):Prop where
 ga:findIn K (.ref C) "__getattribute__"=S (S (.builtin "BaseException.__getattribute__"))
 gn:findIn K (.ref C) "__getattr__"=S Z
 ha:findIn K (.ref C) "__class__"=S (S (.builtin "object.__class__"))
 hn:specialIn K (.builtin "object.__class__") "__get__"=S (S (.builtin "getset_descriptor.__get__"))
 htk:takesIn K (.builtin "object.__class__")=S true
 hm:mroIn K C (.type "object")=S true
 hb:mroIn K C (.type "BaseException")=S true
 hc:(clsIn K C).isSome=true
def mq (k:IL K C):KitX K (.ref x) (.ref C) (kI x C) where
 ty:=λw w w I=>I.ty
 it:=λw w X w=>by
   @⟨cd,e⟩:=Option.isSome_iff_exists.mp k.hc
   unfold clsIn at e
   split at e
   . rename_i c' d' YK Vs look
     intro A' Q' E' s' st q
     unfold isType loadHead
     #wpAny_bind (wpAny_loadPart (st _ _ (X _ _ look)) (wpAny_pure q))
   . cases e
 ne:=λh tp dd its n sl X Oc=>by
   @⟨cd,e⟩:=Option.isSome_iff_exists.mp k.hc
   #Bool.eq_false_iff.mpr λq=>?_
   !z:C=tp:=Value.ref.inj (beq_iff_eq.mp q)
   subst z
   unfold clsIn at e
   split at e
   . rename_i c' d' YK Vs look
     !y:=(X _ _ look).symm.trans Oc
     cases y
   . cases e
 ca:=λX I q=>xg X I k.ga k.gn k.ha k.hn k.htk k.hm k.hb q
end
def CA {fs:O J}{H1 H2:Hp}{h1 h2 h3 B:Heap}(u:Un fs [] H1 H2 h1 h2)(s2:B.StaysIn h2)(s3:B.StaysIn h3)(inB:∀b o,h1.get? b=S o->b∉fs->∃o',B.get? b=S o')
   (sl:∀b o,b∈fs->h2.get? b=S o->∃x,h3.get? b=S {o with slots:=x}):Un fs [] H1 H2 h1 h3:=by
 !hex:∀b:J,b∉([]:O J):=λb z=>nomatch z
 #⟨λb o hb n hf w=>?_,λb o hb n hf w=>?_,λb o hb n w=>u.free b o hb n (hex b),λb o hb w=>?_,u.tups,u.frzs,u.tbls⟩
 . !e2:=u.keep b o hb n hf (hex b)
   @⟨o',ho'⟩:=inB b o hb hf
   !e3:=s2 b o' ho'
   rw[e2]at e3
   cases e3
   #s3 b o ho'
 . @⟨x,e2⟩:=u.slot b o hb n hf (hex b)
   @⟨y,e3⟩:=sl b _ hf e2
   #⟨y,e3⟩
 . by_cases hm:b∈fs
   . @⟨o2,e2⟩:=u.there b o hb (hex b)
     @⟨y,e3⟩:=sl b _ hm e2
     #⟨_,e3⟩
   . @⟨o',ho'⟩:=inB b o hb hm
     #⟨o',s3 b o' ho'⟩
def BM {h2 h3 B:Heap}{l:O Env}(fr:h2.FunFrames B l)(x:h2.UpToSlots h3):∀b o,b∈jz l->h2.get? b=S o->∃y,h3.get? b=S {o with slots:=y}:=λb o hm ho=>by
 @⟨_,o2,qp,hd2⟩:=fr.mem hm
 rw[ho]at qp
 cases qp
 #x b o ho hd2
def Gz (ea C:J):HO:=.ext (kI ea C)
def Jd {P:Program}{w:World}{H:Hp}{h:Heap}{ea C:J}(x:kI ea C h):bw P w H h ea (Gz ea C):=by
 @⟨o,h1,h2⟩:=id x
 #⟨x,⟨o,h1⟩,λg1 g2 ⟨o',a,b⟩ k=>⟨o',k _ a,b⟩⟩
section
variable{X:Cx}{pins:O (J×Obj)}{σ:St}{H:Hp}{s:Shared}{ea C:J}
def Inv.Ql (I:Inv X pins σ H s)(n:H ea=Z)(x:kI ea C s.heap)(n0:X.s₀.heap.get? ea=Z)(nl:ea≠X.env.locals)(nc:∀y c,X.env.cells.lookup y=S c->c≠ea)(np:∀p∈X.pn++pins,p.1≠ea):Inv X pins σ (upd H ea (Gz ea C)) s:=by
 !ne:∀b u,H b=S u->b≠ea:=λb u e z=>by rw[z,n]at e;cases e
 !k:∀b u,H b=S u->(upd H ea (Gz ea C)) b=S u:=λb u e=>by rw[aj (ne b u e)];#e
 #⟨I.ok,I.os,I.bare,⟨I.base.keep,I.base.slot,λb o e m hx=>?_,I.base.there,λb xs e=>k _ _ (I.base.tups b xs e),λb o u e=>k _ _ (I.base.frzs b o u e),λb ps e=>?_⟩,I.loc,I.cell,?_,λy c e=>?_,λp hp=>?_,λb u e=>?_,I.len⟩
 . rw[aj (λz=>by rw[z,n0]at e;cases e)]
   #I.base.free b o e m hx
 . @⟨more,e1⟩:=I.base.tbls b ps e
   #⟨more,k _ _ e1⟩
 . rw[aj (Ne.symm nl)]
   #I.free
 . rw[aj (nc y c e)]
   #I.freeC y c e
 . @⟨a1,a2,a3,a4,a5⟩:=I.pin p hp
   #⟨a1,by rw[aj (np p hp)];#a2,a3,a4,a5⟩
 . by_cases hb:b=ea
   . subst hb
     rw[ae]at e
     cases e
     #Jd x
   . rw[aj hb]at e
     #(I.hok b u e).k9 (λc v w q=>q) (λc q=>k _ _ q) λc xs q=>k _ _ q
end
section
variable{M8:Model}{A:Around}{E:Value->Shared->Prop}{s:Shared}{nm q:Str}{C N:J}{bs bm:O Value}{hdct:Bool}{sn:O Str}{sub:O Value}{ab:Bool}{col:Option Bool}{dd:Option J}{k0 k1 k2 k3 k5:Option Value}{newId:String}
 {nm' q':Str} {T N':J} {bs' RY:O Value} {Nz:Bool} {sn':O Str} {VA:O Value} {Yz:Bool} {zh:Option Bool} {oX:Option J} {j0 j1 j2 j3 j5:Option Value} {JQ:String}
def t9 {h:Heap}{g:Array GenState}{d:Drawn}{t:Nat}{os:OsState}{e:J}{oe:Obj}{Q:Bool->Shared->Prop}(hC:h.get? C=S (excClassObj nm q C N bs bm hdct sn sub ab col dd k0 k1 k2 k3 k5 newId))(hT:h.get? T=S (excClassObj nm' q' T N' bs' RY Nz sn' VA Yz zh oX j0 j1 j2 j3 j5 JQ))
   (he:h.get? e=S oe) (hcls:oe.cls=.ref C) (hup:(aen C::bm).contains (.ref T)=true) (hbase:RY.contains (.type "BaseException")=true) (hq:Q true ⟨h,g,d,t,os⟩):wpAny M8 A (excMatches (.ref e) (.ref T)) Q E ⟨h,g,d,t,os⟩:=by
 !hcB:(aen T::RY).contains (.type "BaseException")=true:=by rw[List.contains_cons,hbase,aik]
 !f:=tc_notTuple
 unfold excMatches
 repeat (first|(with_reducible show wpAny_loadPart_at he ?_;rw[hcls])|with_reducible show wpAny_loadPart_at hT ?_|(with_reducible show wpAny_isSubtype_exc hT ?_;rw[hcB])|(with_reducible show wpAny_isSubtype_exc hC ?_;rw[hup])|wp_step)
 #hq
end
section
variable{X:Cx}{pins:O (J×Obj)}{σ:St}{H:Hp}{s:Shared}
def Inv.forget {σ':St}{h':Heap}{t':Nat}{m:Str->Option Value}{en:Str}{v:Option Value}(I:Inv X pins σ H s)(hm:∀(i:Nat) (x:Str) (v:V),X.N[i]?=S x->σ[i]?=S (S v)->QB X.env.scope x->∃u,RelV v u/\Look X.env s.heap m x u)
   (hn':h'.Ns X.env.locals (λx=>if x=en then v else m x)) (hs:ae7 X.env.locals s.heap h') (hl:σ'.length=σ.length) (hw:∀(i:Nat) v,σ'[i]?=S (S v)->σ[i]?=S (S v)/\X.N[i]?≠S en):Inv X pins σ' H {s with heap:=h',toks:=t'}:=by
 !neL:∀b o,X.s₀.heap.get? b=S o->b≠X.env.locals:=λb o e=>aeA (aer (aee e) I.ok.above)
 #⟨I.ok,I.os,I.bare,⟨λb o e n hb hx=>?_,λb o e n hb hx=>?_,I.base.free,λb o e hx=>?_,I.base.tups,I.base.frzs,I.base.tbls⟩,⟨_,hn',λj y v' e1 e2 e3=>?_⟩,λy c e=>?_,I.free,I.freeC,λp hp=>?_,λb u e=>?_,hl.trans I.len⟩
 . #(hs.2 b (neL b o e)).trans (I.base.keep b o e n hb hx)
 . @⟨sl,e1⟩:=I.base.slot b o e n hb hx
   #⟨sl,(hs.2 b (neL b o e)).trans e1⟩
 . @⟨o',e1⟩:=I.base.there b o e hx
   #⟨o',(hs.2 b (neL b o e)).trans e1⟩
 . @⟨w1,w2⟩:=hw j v' e2
   @⟨u,r,l⟩:=hm j y v' e1 w1 e3
   #⟨u,r,?_⟩
   rcases l with⟨k,e⟩|⟨k,c,e,z⟩
   . #.inl ⟨k,?_⟩
     !:y≠en:=λz=>w2 (by rw[e1,z])
     change(if y=en then v else m y)=S u
     rw[aM this]
     #e
   . #.inr ⟨k,c,e,z.sameBut hs (I.wO y c e)⟩
 . @⟨w',z⟩:=I.cell y c e
   #⟨w',z.sameBut hs (I.wO y c e)⟩
 . @⟨e,n,ne,nf,d⟩:=I.pin p hp
   #⟨(hs.2 p.1 ne).trans e,n,ne,nf,d⟩
 . !qR:=I.free
   #(I.hok b u e).k9 (λc w' hc q=>(hs.2 c ?_).trans q) (λw q=>q) λw w q=>q
   intro z
   rcases hc with hc|hc
   . rw[hc]at z
     rw[z,qR]at e
     cases e
   . rw[z,qR]at hc
     cases hc
def Inv.other {W:Value->Shared->Prop}{pn kC:O (J×Obj)}(I:Inv X pins σ H s)(h:∀p∈pn++kC,p∈X.pn++pins):Inv {X with xe:=W,pn:=pn} kC σ H s:=
 ⟨⟨I.ok.mod,I.ok.kind,I.ok.glob,I.ok.blt,I.ok.above,I.ok.inj,I.ok.has,I.ok.cab,I.ok.hd,I.ok.frames,I.ok.stk,I.ok.exf,I.ok.bs,I.ok.bsz,I.ok.noex,I.ok.exfs,I.ok.ig,I.ok.frf⟩,I.os,I.bare,I.base,I.loc,I.cell,I.free,I.freeC,λp hp=>I.pin p (h p hp),I.hok,I.len⟩
def Inv.back {W:Value->Shared->Prop}{pn kC:O (J×Obj)}(I:Inv {X with xe:=W,pn:=pn} kC σ H s)(h:∀p∈X.pn++pins,p∈pn++kC):Inv X pins σ H s:=
 ⟨⟨I.ok.mod,I.ok.kind,I.ok.glob,I.ok.blt,I.ok.above,I.ok.inj,I.ok.has,I.ok.cab,I.ok.hd,I.ok.frames,I.ok.stk,I.ok.exf,I.ok.bs,I.ok.bsz,I.ok.noex,I.ok.exfs,I.ok.ig,I.ok.frf⟩,I.os,I.bare,I.base,I.loc,I.cell,I.free,I.freeC,λp hp=>I.pin p (h p hp),I.hok,I.len⟩
def Inv.mark {e:Option Value}(I:Inv X pins σ H s):Inv {X with A:=X.A.mark e,calm:=false,xe:=λy y=>False} pins σ H s:=
 ⟨⟨I.ok.mod,I.ok.kind,I.ok.glob,I.ok.blt,I.ok.above,I.ok.inj,I.ok.has,I.ok.cab,(λz=>nomatch z),I.ok.frames,I.ok.stk,I.ok.exf,I.ok.bs,I.ok.bsz,I.ok.noex,I.ok.exfs,I.ok.ig,I.ok.frf⟩,I.os,I.bare,I.base,I.loc,I.cell,I.free,I.freeC,I.pin,I.hok,I.len⟩
def Inv.unmark {e:Option Value}{σ':St}{H':Hp}{s':Shared}(I0:Inv X pins σ H s)(I:Inv {X with A:=X.A.mark e,calm:=false,xe:=λz z=>False} pins σ' H' s'):Inv X pins σ' H' s':=
 ⟨I0.ok,I.os,I.bare,I.base,I.loc,I.cell,I.free,I.freeC,I.pin,I.hok,I.len⟩
end
section
variable{P:Program}{w:World}{K:ad2}{mg:Str->Option Value}{base:Heap}
def cF.Va {x qual:Str}{st:Stmt}{f:J}{fd:aef}{N ps:O Str}{k:Nat}{sp:Sp}(F:cF K x qual st f fd)(S8:aA N ps (ao st))(len:∀vs H Q E,sp vs H Q E->vs~=ps~)
   (hbody:∀(cdv:Value) (A:Around) (outer:O Env) (s:Shared) (H:Hp) (vs:O V) (Q:VK) (E:XK),cG k (A.deeper (envOfC qual (ao st) s.heap.objs.size f cdv))->sp vs H Q E ->
     ∃t,mV (gM (qm P w base) P w K mg base N qual (ao st) f cdv A outer s H E) (cp st) t/\t {nx:=λz H'=>Q .bA H',rt:=Q} (start N vs) H):aL P w K mg base (qm P w base) (k+1) f fd ps sp:=by
 @⟨oc,od,kV,doc,pm,an,cdv,ct,osl,rfl,lk,hcd⟩:=F.ex
 #zA lk hcd S8 len λA outer s H vs Q E hr hsp=>hbody cdv A outer s H vs Q E hr hsp
def FK {N:O Str}{qual:Str}{scope:Scope}{f:J}{cd:Value}{A:Around}{outer:O Env}{s:Shared}{H:Hp}{E:XK}:lR (gM (qm P w base) P w K mg base N qual scope f cd A outer s H E) E:=λI hm q=>tW I hm q
def G6 {N:O Str}{qual:Str}{scope:Scope}{f:J}{cd:Value}{A:Around}{outer:O Env}{s:Shared}{H:Hp}{E:XK}:Passes (qm P w base) (gM (qm P w base) P w K mg base N qual scope f cd A outer s H E) E:=OS λz z z h=>h
end
def Pe (K:ad2):O V->Hp->VK->Prop:=λxs H Q=>∃ea C b,H ea=S (Gz ea C)/\IL K C/\((∃D,xs=[.ref ea,.ref D]/\aey K (.ref C) (.ref D)=S b)\/(∃n,xs=[.ref ea,.ty n]/\aey K (.ref C) (.type n)=S b) \/
 (∃(t:J) (ds:O J),xs=[.ref ea,.ref t]/\H t=S (.tup (ds.map V.ref))/\af8 K (.ref C) (ds.map aen)=S b))/\Q (.bl b) H
theorem oM:∀{ds:O J} {its:O Value},Vals (ds.map V.ref) its->its=ds.map aen
 | [],_,.nil=>rfl
 | d::ds,_,.cons r t=>by rw[oM t,show _=aen d from r];rfl
section
variable{X:Cx}
def zc:fE X (.builtin "isinstance") (Pe X.K):=by
 intro pins s σ H xs us Q I r h
 @⟨ea,C,b,Ji,k,cs,q⟩:=h
 !ex:kI ea C s.heap:=(show bw X.prog X.w H s.heap ea (Gz ea C)from I.hok ea _ Ji).1
 rcases cs with⟨D,rfl,e⟩|⟨n,rfl,e⟩|⟨t,ds,rfl,ht,e⟩
 . @⟨u,v,rfl,ru,rv⟩:=Vals.two r
   obtain rfl:u=aen ea:=ru
   obtain rfl:v=aen D:=rv
   #aeO (mq k) I.i6 ex e (λz=>nomatch z) λtk=>⟨.bl b,H,I.tok tk,U,q⟩
 . @⟨u,v,rfl,ru,rv⟩:=Vals.two r
   obtain rfl:u=aen ea:=ru
   obtain rfl:v=ahK n:=rv
   #aeO (mq k) I.i6 ex e (λz=>nomatch z) λtk=>⟨.bl b,H,I.tok tk,U,q⟩
 . @⟨u,v,rfl,ru,rv⟩:=Vals.two r
   obtain rfl:u=aen ea:=ru
   obtain rfl:v=aen t:=rv
   @⟨_,its,rl,o,h1,h2,n,h3⟩:=(show bw X.prog X.w H s.heap t (.tup (ds.map V.ref))from I.hok t _ ht)
   rw[oM rl]at h3
   @⟨oc,od,oda,osl⟩:=o
   simp only at h2 h3
   subst h2 h3
   #PySem.W.kia_tup (mq k) I.i6 ex h1 e (λz=>nomatch z) λtk=>⟨.bl b,H,I.tok tk,U,q⟩
end
end L2
namespace TW
open PySem L2
def m9 (P:Program)(w:World)(K:ad2)(mg:Str->Option Value)(base:Heap)(x:Str)(ps:O Str)(k:Nat)(sp:Sp):Prop:=
 ∃f fd,aL P w K mg base (qm P w base) k f fd ps sp/\aeV K (.ref f)=true/\Binds K fd ps []/\mg x=S (.ref f)
end TW
namespace L3
open PySem PySem.Spec PyProof.Rows L2
section
variable{X:Cx}{a b c e o:Expr}{es:O Expr}{ta tb tc te:TE}{t:TA}{tf:TF}{pos:Pos}{n:Nat}
def Ln {x:Str}{C:J}{tl:O Value}{Ex:XK}{np cpos:Pos}(hx:lR X Ex)(cc:Xc X.K X.mg x C tl)(hb:tl.contains (.type "BaseException")=true)(hg:Gl X x)(ha:SA X [a] t)(hc:X.calm=true:=by rfl)(hd:(x==("__debug__":Str))=false:=by left) :
   SS X (.Raise (S (.Call (.Name x np) [a] [] cpos)) Z pos) (Ct Ex C t):=⟨Bi hx cc hb hg hc ha.h hd⟩
def E7 {x:Str}{p:Pos}{ps:O Str}{kk:Nat}{sp:Sp}{Ex:XK}(hp:Passes (qm X.prog X.w X.base) X Ex)(D:TW.m9 X.prog X.w X.K X.mg X.base x ps kk sp)(hr:cG kk X.A)(hg:Gl X x)(ha:SA X (e::es) t)(hdb:(x==("__debug__":Str))=false:=by left) :
   SE X (.Call (.Name x p) (e::es) [] pos) (mS sp [] Ex t):=by
 @⟨_,_,G,kp,b,m⟩:=D
 #⟨pR G hr hg m kp b .nil hp ha.h.pa hdb ((ha.h.ns e es rfl).1.h es X.env) ((ha.h.ns e es rfl).2 pos X.env)⟩
def qD {KK:ad2}(hK:X.K=KK:=by first|show L3.bM|show L3.ba|rfl):SC X (.builtin "isinstance") (Pe KK):=by
 subst hK
 #⟨zc⟩
end
end L3
namespace L2
open PySem PySem.Spec PyProof.Rows
end L2
namespace L3
open PySem PySem.Spec PyProof.Rows L2
end L3
namespace L2
open PySem PySem.Spec PyProof.Rows
section
variable{X:Cx}{a:Expr}{ta:TA}{p1 p2 pos dM:Pos}
def vS:V->O V->Hp->VK->Prop:=λx vs H Q=>∃l xs y i,x=.ref l/\vs=[.int i,y]/\H l=S (.lst xs)/\0<=i/\i<=(xs~:Int)/\xs~<1000/\Q .bA (upd H l (.lst (xs.take i.toNat++y::xs.drop i.toNat)))
def xN:RK X "list.insert" vS:=by
 intro pins s σ H x vs v us Q I rx rv h
 @⟨l,xs,y,i,rfl,rfl,hH,h0,hk,hz,q⟩:=h
 cases rx
 @⟨u1,u,rfl,⟨tk,rfl⟩,ru⟩:=Vals.two rv
 @⟨z,its,n,r,hl,e⟩:=I.xK hH
 !hlen:=r~
 !fits:¬(!afp i)=true:=by
   !:afp i=true:=by
     unfold afp
     simp
     lia
   simp[this]
 !fI:its.toArray.size<=sizeLine:=by rw[aek];#aeg (show _<=1000 by lia) (by left)
 #call_meets F.slot_list_insert ⟨_,e,U⟩ F.entry_list_insert (F.args_list_insert_3 _ _ _) (PySem.AutoSeq1.list_insert_list_int_val_1 l its.toArray n i tk u fits fI) ⟨e,?_⟩
 #⟨.bA,_,I.JN (its':=its.take i.toNat++u::its.drop i.toNat) hH e ?_ ((r.take i.toNat).append (.cons ru (r.drop i.toNat))) ?_,U,q⟩
 . !e1:(if i<0 then(i+(its.toArray.size:Int)).toNat else min i.toNat its.toArray.size)=i.toNat:=by
     rw[aM (by lia),aek]
     lia
   dsimp only
   rw[e1]
   apply Array.ext'
   simp
   #aeE (by rw[ae3];#ad5 _)
 . rw[ad7,aet,aea,ae3]
   #aeg (show _<=1000 by lia) (by left)
end
end L2
namespace L3
open PySem PySem.Spec PyProof.Rows L2
section
variable{X:Cx}{a b c e o:Expr}{es:O Expr}{ta tb tc te:TE}{t:TA}{pos:Pos}
theorem insert {apos:Pos}{KK:ad2}{e1 e2:Expr}(ho:SE X o ta)(ha:SA X [e1,e2] t)(hn:bT e2:=by first|show jJ|show gS|show gR|show jf)(hbase:afd o "insert" X.env (eval o X.env)=eval o X.env:=by rfl)(hline:(apos.endLine==pos.line)=true:=by rfl)(hK:X.K=KK:=by first|show L3.bM|show L3.ba|rfl) :
   SE X (.Call (.Attribute o "insert" apos) [e1,e2] [] pos) (LL KK "list" vS ta t):=by
 subst hK
 #⟨G8 afD PySem.F.slot_list_insert PySem.F.type_list_insert xN ho.h ha.h.pa hbase (by rw[(ha.h.ns e1 [e2] rfl).1.h [e2] X.env,hn.h [] X.env];rfl) hline ((ha.h.ns e1 [e2] rfl).1.h [e2] X.env) ((ha.h.ns e1 [e2] rfl).2 pos X.env)⟩
end
end L3
namespace L2
open PySem PySem.Spec PyProof.Rows
section
variable{X:Cx}{e tg iter:Expr}{ifs:O Expr}{emit:J->Env->Sem Unit}{sc:Scope}{pos:Pos}{wi:TI}{N':O Str}{src:O (Option Nat)}{g:TG}{tifs:TT}{tm:J->TM}{newAcc:Sem Value}{ob:Obj}{accO:HO}{gs:O Comprehension}
end
def Inv.Qq {X:Cx}{pins:O (J×Obj)}{σ:St}{H:Hp}{s:Shared}(I:Inv X pins σ H s)(xe:Value->Shared->Prop):Inv {X with xe:=xe} pins σ H s where
 ok:=⟨I.ok.mod,I.ok.kind,I.ok.glob,I.ok.blt,I.ok.above,I.ok.inj,I.ok.has,I.ok.cab,I.ok.hd,I.ok.frames,I.ok.stk,I.ok.exf,I.ok.bs,I.ok.bsz,I.ok.noex,I.ok.exfs,I.ok.ig,I.ok.frf⟩
 os:=I.os
 bare:=I.bare
 base:=I.base
 loc:=I.loc
 cell:=I.cell
 free:=I.free
 freeC:=I.freeC
 pin:=I.pin
 hok:=I.hok
 len:=I.len
def rR {P:Program}{w:World}{A:Around}{R:Result->Shared->Prop}{s:Shared}{elt tg iter lJ bU:Expr}{ifs fT:O Expr}{sc:Scope}{pos:Pos}{it acc:Value}{env:Env}
   (h0:codeAny (model P w) A (.compLoop (.ListComp elt [⟨tg,iter,ifs,0⟩,⟨lJ,bU,fT,0⟩] sc pos) 1 it acc env) R s)
   (h:wpAny (model P w) A (pyIter it) (λOh s'=>codeAny (model P w) A (.compLoop (.ListComp elt [⟨tg,iter,ifs,0⟩,⟨lJ,bU,fT,0⟩] sc pos) 1 Oh acc env) R s') (notedBy (model P w) A env λx s'=>R (.error x) s') s) :
   codeAny (model P w) A (.compStart (.ListComp elt [⟨tg,iter,ifs,0⟩,⟨lJ,bU,fT,0⟩] sc pos) 1 it acc env) R s:=by
 #codeAny_of_tree ?_
 change wpAny _ _ ((compStart (.ListComp elt [⟨tg,iter,ifs,0⟩,⟨lJ,bU,fT,0⟩] sc pos) 1 it acc env).onRaise (λx=>do noteFrame x env;standAt theWindowsPlace)) _ _ s
 #wpAny_notedAt ?_
 unfold compStart
 change wpAny _ _ (ask>>=_) _ _ s
 #wpAny_bind (wpAny_askSetting (wpAny_ite ?_))
 split
 . first
     | show wpAny_bind (wpAny_pure (wpAny_pure (ait rfl h0)))
     | show wpAny_pure (ait rfl h0)
 . first
     | show wpAny_bind (wpAny_rule (wpAny_bind (wpAny_standAt (wpAny_bind (wpAny_mono h (λOh s' h'=>wpAny_pure (ait rfl h')) λz z x=>x)))))
     | (show wpAny_bind (wpAny_rule ?_);change wpAny _ _ (standAt bU.pos>>=_) _ _ s;#wpAny_bind (wpAny_standAt (wpAny_bind (wpAny_mono h (λOh s' h'=>wpAny_pure (ait rfl h')) λz z x=>x))))
def vq (e bU:Expr)(D:J)(env:Env):Sem Unit:=do
 let x←eval bU env
 standAt bU.pos
 let x←aeC bU env x
 let _←runOwn (.compStart e 1 (← holding [x] (pyIter x)) (.ref D) env) env
def vG (wi2:TI)(g2:TG)(tifs2:TT)(tm:TM):TM:=λσ H Q=>wi2 σ H λJ8 H1=>hU J8 σ g2 tifs2 tm Q H1
def O2 {X:Cx}{elt tg iter lJ bU:Expr}{ifs fT:O Expr}{sc:Scope}{pos:Pos}{wi2:TI}{g2:TG}{tifs2:TT}{te:TE}(hc:X.calm=true)(hi:PI X lJ bU wi2)
   (hin:∀xe,PG {X with xe:=xe} lJ g2/\jX {X with xe:=xe} fT tifs2/\PE {X with xe:=xe} elt te) (hs:∀x,aeC bU X.env x=pure x) (D:J) :
   IF X (vq (.ListComp elt [⟨tg,iter,ifs,0⟩,⟨lJ,bU,fT,0⟩] sc pos) bU D X.env) (vG wi2 g2 tifs2 (cB te D)):=by
 intro pins s σ H Q I q
 unfold vq
 #wpAny_bind (bH (hi pins s σ H _ I q) λv s1 h1=>?_)
 #wpAny_bind (wpAny_standAt (wpAny_bind (wpAny_of_eq (hs v) (wpAny_bind (wpAny_holding (bH h1 λitv s2 h2=>?_))))))
 @⟨it,fp,tn,J8,H2,e1,I2,T,mY,f2,q2⟩:=h2
 subst e1
 let R:Result->Shared->Prop:=λr s'=>match r with
   | .ok f=>wpAny (model X.prog X.w) X.A (pure ():Sem Unit) (λy s'=>∃H',Inv X pins σ H' s'/\Q H') X.xe s'
   | .error e=>cameBackBy (model X.prog X.w) X.A X.env X.xe e s'
 let X2:Cx:={X with xe:=notedBy (model X.prog X.w) X.A X.env λe s'=>R (.error e) s'}
 !loop:codeAny (model X.prog X.w) X.A (.compLoop (.ListComp elt [⟨tg,iter,ifs,0⟩,⟨lJ,bU,fT,0⟩] sc pos) 1 (.ref it) (.ref D) X.env) R s2:=by
   @⟨hg,hif,he⟩:=hin (notedBy (model X.prog X.w) X.A X.env λe s'=>R (.error e) s')
   #nW (X:=X2) (R:=R) (Z8:=Q) (cont:=do let _←call (.builtin "list.append") [.ref D,← eval elt X.env]) (tg:=lJ) (ipos:=bU.pos) (ifs:=fT) rfl rfl rfl rfl rfl hc T hg hif (ur (X:=X2) he D) f2 (I2.Qq _) mY (λH' s' I' y z=>wpAny_pure ⟨H',I'.Qq X.xe,z⟩) q2
 #wpAny_bind (wpAny_runOwn (env:=X.env) ?_)
 show codeAny_mono (rR (R:=R) loop (T.self X.A 0 _ _ _ mY loop)) λr s' hr=>by
   cases r with
   | ok f=>#hr
   | error e=>#hr
def zg {P:Program}{w:World}{A:Around}{elt tg iter lJ bU:Expr}{ifs fT:O Expr}{sc:Scope}{pos:Pos} :
   fX P w A (.ListComp elt [⟨tg,iter,ifs,0⟩,⟨lJ,bU,fT,0⟩] sc pos) tg iter ifs [⟨lJ,bU,fT,0⟩] (vq (.ListComp elt [⟨tg,iter,ifs,0⟩,⟨lJ,bU,fT,0⟩] sc pos) bU) where
 cl:=rfl
 turn:=λit D env=>by
   unfold qh vq
   simp only[bind_assoc,pure_bind]
   rfl
 start:=λR s it acc env h0 h=>codeAny_compStart_list h0 h
 quiet:=λz z z=>rfl
 under:=λz z z=>rfl
 frame:=λz z z=>rfl
section
variable{X:Cx}{elt tg iter lJ bU:Expr}{ifs fT:O Expr}{sc:Scope}{pos:Pos}{wi wi2:TI}{N':O Str}{src:O (Option Nat)}{g g2:TG}{tifs tifs2:TT}{te:TE}
def Le {i:Nat}{x:Str}{pos' dM:Pos}(src:O (Option Nat))(N':O Str)(hc:X.calm=true)(S8:bR sc X.env.scope)(hcap:dj sc src N' X.N=true)(hi:PI X tg iter wi)
   (hb:∀s H C fp xe,PG (eQ X N' sc s H C fp xe) tg g/\jX (eQ X N' sc s H C fp xe) ifs tifs/\PI (eQ X N' sc s H C fp xe) lJ bU wi2/\PG (eQ X N' sc s H C fp xe) lJ g2/\jX (eQ X N' sc s H C fp xe) fT tifs2/\PE (eQ X N' sc s H C fp xe) elt te)
   (hN:X.N.Nodup) (hix:X.N[i]?=S x) (hx:Loc X.env.scope x) (hsw:afy (.ListComp elt [⟨tg,iter,ifs,0⟩,⟨lJ,bU,fT,0⟩] sc pos) (S (.Name x pos')) dM.line X.env=pure true:=by rfl)
   (hs:∀x,aeC iter X.env x=pure x:=by intro _;rfl) (hs2:∀env x,aeC bU env x=pure x:=by intro _ _;rfl) (hf:X.fn x=true\/X.env.scope.names.lookup x=S .local:=by first|show .inl rfl|show .inr rfl|assumption) :
   PS X (.Assign [.Name x pos'] (.ListComp elt [⟨tg,iter,ifs,0⟩,⟨lJ,bU,fT,0⟩] sc pos) dM) (qf (fC src (.lst []) wi g tifs (λD=>vG wi2 g2 tifs2 (cB te D))) (dH i)):=
 vO zg hc S8 hcap hi (λs H C fp xe D=>⟨(hb s H C fp xe).1,(hb s H C fp xe).2.1,O2 (X:=eQ X N' sc s H C fp xe) hc (hb s H C fp xe).2.2.1 (λxe'=>(hb s H C fp xe').2.2.2) (hs2 _) D⟩) lV hs (λz=>rfl) hN hix hx hsw hf
end
end L2
namespace L3
open PySem PySem.Spec PyProof.Rows L2
section
variable{X:Cx}{elt tg iter lJ bU:Expr}{ifs fT:O Expr}{sc:Scope}{pos:Pos}{wi wi2:TI}{g g2:TG}{tifs tifs2:TT}{te:TE}
def Vw {i:Nat}{x:Str}{pos' dM:Pos}(src:O (Option Nat))(N':O Str)(S8:bR sc X.env.scope)(hcap:dj sc src N' X.N=true)(hi:SI X tg iter wi)
   (hb:∀s H C fp xe,SG (eQ X N' sc s H C fp xe) tg g/\IH (eQ X N' sc s H C fp xe) ifs tifs/\SI (eQ X N' sc s H C fp xe) lJ bU wi2/\SG (eQ X N' sc s H C fp xe) lJ g2/\IH (eQ X N' sc s H C fp xe) fT tifs2/\SE (eQ X N' sc s H C fp xe) elt te) (hN:X.N.Nodup) (hix:X.N[i]?=S x:=by rfl) (hx:Loc X.env.scope x:=by#Or.inl rfl)
   (hsw:afy (.ListComp elt [⟨tg,iter,ifs,0⟩,⟨lJ,bU,fT,0⟩] sc pos) (S (.Name x pos')) dM.line X.env=pure true:=by rfl) (hc:X.calm=true:=by rfl)
   (hs:∀x,aeC iter X.env x=pure x:=by intro _;rfl) (hs2:∀env x,aeC bU env x=pure x:=by intro _ _;rfl) (hf:X.fn x=true\/X.env.scope.names.lookup x=S .local:=by first|show .inl rfl|show .inr rfl) :
   SS X (.Assign [.Name x pos'] (.ListComp elt [⟨tg,iter,ifs,0⟩,⟨lJ,bU,fT,0⟩] sc pos) dM) (qf (fC src (.lst []) wi g tifs (λD=>vG wi2 g2 tifs2 (cB te D))) (dH i)):=
 ⟨Le src N' hc S8 hcap hi.h (λs H C fp xe=>⟨(hb s H C fp xe).1.h,(hb s H C fp xe).2.1.h,(hb s H C fp xe).2.2.1.h,(hb s H C fp xe).2.2.2.1.h,(hb s H C fp xe).2.2.2.2.1.h,(hb s H C fp xe).2.2.2.2.2.h⟩) hN hix hx hsw hs hs2 hf⟩
end
end L3
namespace L2
open PySem PySem.Spec PyProof.Rows
theorem qL {α β:Type}{f g:α->Option β}:∀{l:O α},(∀x∈l,f x=g x)->l.filterMap f=l.filterMap g
 | [],_=>rfl
 | x::r,h=>by rw[afb,afb,h x aeX,qL λy hy=>h y (List.mem_cons.mpr (.inr hy))]
def i8 (its:O Value):agV its.toArray Z Z (S (-1))=its.reverse.toArray:=by
 !hb:sliceBounds Z Z (S (-1)) its.toArray.size=(((its~:Nat):Int)-1,-1,-1):=by
   simp[sliceBounds]
 !hr:sliceRange (((its~:Nat):Int)-1) (-1) (-1)=(aem its~).map λk=>its~-1-k:=by
   unfold sliceRange
   !h1:¬ ((-1:Int) > 0):=by left
   simp only[h1,if_false]
   !hc:(if((its~:Nat):Int)-1 > -1 then(((its~:Nat):Int)-1 - -1 - -1-1)/(- -1)else 0).toNat=its~:=by
     simp only[Int.neg_neg,ahq]
     split<;>lia
   rw[hc]
   #af6 λk hk=>?_
   !:=List.mem_range.mp hk
   lia
 unfold agV
 rw[hb]
 change((sliceRange (((its~:Nat):Int)-1) (-1) (-1)).filterMap (its.toArray[·]?)).toArray=_
 rw[hr,ag7]
 !e:(aem its~).filterMap ((λx=>its.toArray[x]?) ∘ λk=>its~-1-k)=((aem its~).map (0+·)).filterMap (its.reverse.toArray[·]?):=by
   rw[ag7]
   #qL λk hk=>?_
   !NQ:=List.mem_range.mp hk
   change its.toArray[its~-1-k]?=its.reverse.toArray[0+k]?
   rw[Nat.zero_add,aie,aie,aif NQ]
 rw[e,pick_run,afR,aeE (by simp)]
def Qh (K:ad2)(te F8:TE):TE:=λσ H Q=>te σ H λx H1=>F8 σ H1 λy H2=>y=.int (-1)/\∃a xs,x=.ref a/\aB K H2 a xs/\∀p,H2 p=Z->Q (.ref p) (upd H2 p (.lst xs.reverse))
def K0 {X:Cx}{e st:Expr}{te F8:TE}{p2 pos:Pos}(he:PE X e te)(hst:PE X st F8):PE X (.Subscript e (.Slice Z Z (S st) p2) pos) (Qh X.K te F8):=by
 intro pins s σ H Q I h
 #ahE (bH (he pins s σ H _ I h) λv s1 h9=>?_)
 @⟨x,H1,I1,r1,q1⟩:=h9
 #wpAny_Slice ?_
 rw[ahr]
 #wpAny_pure (wpAny_pure ?_)
 rw[evalPart_some]
 #bH (hst pins s1 σ H1 _ I1 q1) λvs s3 h9=>?_
 @⟨y,H3,I3,ry,hy,a,xs,hx,hs,q⟩:=h9
 subst hy hx
 @⟨t,rfl⟩:=ry
 cases r1
 !I4:Inv X pins σ H3 {s3 with heap:=s3.heap.push {cls:=.type "slice",data:=.fields #[.none,.none,.int (-1) t]} }:=I3.kept (t':=s3.toks) λb ob q=>ad6 _ q
 @⟨its,r,ht,hz⟩:=I4.list hs
 !hlen:=r~
 change wpAny (model X.prog X.w) X.A (subscriptTail e (.Slice Z Z (S st) p2) (.ref a) (.ref s3.heap.objs.size)) (EP X pins σ Q) X.xe {s3 with heap:=s3.heap.push {cls:=.type "slice",data:=.fields #[.none,.none,.int (-1) t]} }
 #tail_any (ops:=[.ref a,.ref s3.heap.objs.size]) ht.isList.typeIs slot_list_getitem.lookup ?_ (by with_unfolding_all rfl)
 #agB ht.isList (agv ..) .none .none (.int (-1) t) (by simp) ?_ (by rw[aek]<;>lia)
 rw[i8]
 #⟨.ref (s3.heap.push {cls:=.type "slice",data:=.fields #[.none,.none,.int (-1) t]}).objs.size,_,I4.laid (t':=s3.toks) (o:=.lst xs.reverse) (λb ob q=>ad6 _ q) (ad5 _) ?_,U,q _ (I4.hok.fresh (ad5 _))⟩
 #⟨by rw[agR];#hz,_,0,r.reverse,aeq _ rfl⟩
end L2
namespace L3
open PySem PySem.Spec PyProof.Rows L2
def P4 {X:Cx}{a b:Expr}{ta tb:TE}{KK:ad2}{p2 pos:Pos}(ha:SE X a ta)(hb:SE X b tb)(hK:X.K=KK:=by first|show L3.bM|show L3.ba|rfl):SE X (.Subscript a (.Slice Z Z (S b) p2) pos) (Qh KK ta tb):=by
 subst hK
 #⟨K0 ha.h hb.h⟩
end L3
namespace TW
end TW
namespace L3
open PySem PySem.Spec PyProof.Rows L2
section
variable{X:Cx}{a b o i value:Expr}{ta tb td ty tv:TE}{pos:Pos}
def dput {pos':Pos}(hu:X.A.units+1<cLine)(ho:SE X o td)(hi:SE X i ty)(hv:SE X value tv)(hs:afy value (S (.Subscript o i pos')) pos.line X.env=pure false:=by rfl):SS X (.Assign [.Subscript o i pos'] value pos) (HJ td ty tv):=⟨Fz hu ho.h hi.h hv.h hs⟩
end
end L3
namespace L2
open PySem PySem.Spec PyProof.Rows
def slicePick_all (its:O Value):agV its.toArray Z Z (S 1)=its.toArray:=by
 !hb:sliceBounds Z Z (S 1) its.toArray.size=(0,(its~:Int),1):=by
   simp[sliceBounds]
 !hr:sliceRange 0 (its~:Int) 1=(aem its~).map (0+·):=by
   unfold sliceRange
   !h1:((1:Int) > 0):=by left
   simp only[h1,if_true]
   !hc:(if(its~:Int) > 0 then((its~:Int)-0+1-1)/1 else 0).toNat=its~:=by
     simp only[ahq]
     split<;>lia
   rw[hc]
   #af6 λk hk=>?_
   !:=List.mem_range.mp hk
   lia
 unfold agV
 rw[hb]
 change((sliceRange 0 (its~:Int) 1).filterMap (its.toArray[·]?)).toArray=_
 rw[hr,pick_run,afR,aeE (by simp)]
def fB (n:Int)(xs:O V):O V:=if n=1 then xs else xs.reverse
def yw {n:Int}{xs:O V}:(fB n xs)~=xs~:=by unfold fB;split<;>simp
def Iu (K:ad2)(te F8:TE):TE:=λσ H Q=>te σ H λx H1=>F8 σ H1 λy H2=>∃n,y=.int n/\(n=1\/n=-1)/\∃a xs,x=.ref a/\aB K H2 a xs/\∀p,H2 p=Z->Q (.ref p) (upd H2 p (.lst (fB n xs)))
def Fj {X:Cx}{e st:Expr}{te F8:TE}{p2 pos:Pos}(he:PE X e te)(hst:PE X st F8):PE X (.Subscript e (.Slice Z Z (S st) p2) pos) (Iu X.K te F8):=by
 intro pins s σ H Q I h
 #ahE (bH (he pins s σ H _ I h) λv s1 h9=>?_)
 @⟨x,H1,I1,r1,q1⟩:=h9
 #wpAny_Slice ?_
 rw[ahr]
 #wpAny_pure (wpAny_pure ?_)
 rw[evalPart_some]
 #bH (hst pins s1 σ H1 _ I1 q1) λvs s3 h9=>?_
 @⟨y,H3,I3,ry,n,hy,hn,a,xs,hx,hs,q⟩:=h9
 subst hy hx
 @⟨t,rfl⟩:=ry
 cases r1
 !I4:Inv X pins σ H3 {s3 with heap:=s3.heap.push {cls:=.type "slice",data:=.fields #[.none,.none,.int n t]} }:=I3.kept (t':=s3.toks) λb ob q=>ad6 _ q
 @⟨its,r,ht,hz⟩:=I4.list hs
 !hlen:=r~
 change wpAny (model X.prog X.w) X.A (subscriptTail e (.Slice Z Z (S st) p2) (.ref a) (.ref s3.heap.objs.size)) (EP X pins σ Q) X.xe {s3 with heap:=s3.heap.push {cls:=.type "slice",data:=.fields #[.none,.none,.int n t]} }
 #tail_any (ops:=[.ref a,.ref s3.heap.objs.size]) ht.isList.typeIs slot_list_getitem.lookup ?_ (by with_unfolding_all rfl)
 #agB ht.isList (agv ..) .none .none (.int n t) (by rcases hn with rfl|rfl<;>simp) ?_ (by rw[aek]<;>lia)
 !key:∃jD:O Value,agV its.toArray Z Z (S n)=jD.toArray/\Vals (fB n xs) jD:=by
   rcases hn with rfl|rfl
   . #⟨its,slicePick_all its,r⟩
   . #⟨its.reverse,i8 its,r.reverse⟩
 @⟨jD,e2,r2⟩:=key
 rw[e2]
 #⟨.ref (s3.heap.push {cls:=.type "slice",data:=.fields #[.none,.none,.int n t]}).objs.size,_,I4.laid (t':=s3.toks) (o:=.lst (fB n xs)) (λb ob q=>ad6 _ q) (ad5 _) ?_,U,q _ (I4.hok.fresh (ad5 _))⟩
 #⟨by rw[yw];#hz,_,0,r2,aeq _ rfl⟩
def Hl:R2:=λx y H Q=>∃a b:Str,x=.str a/\y=.str b/\a~+b~<=sizeLine/\Q (.str (a++b)) H
def E1 {X:Cx}:jb X (binaryOp .Add) Hl:=by
 intro pins s σ H x y u v Q I rx ry h
 @⟨a,b,rfl,rfl,hl,q⟩:=h
 @⟨t,rfl⟩:=rx
 @⟨t2,rfl⟩:=ry
 #PyProof.Rows.add_str (λt' tk=>⟨.str (a++b),H,I.tok _,⟨_,U⟩,q⟩) hl
def vR (K:ad2):V->O V->Hp->VK->Prop:=λx vs H Q=>∃(l:J) (xs:O Int) (y:Int) (j:Nat),x=.ref l/\vs=[.int y]/\aB K H l (xs.map V.int)/\xs[j]?=S y/\(∀m,m<j->xs[m]?≠S y)/\xs~<=1000/\Q (.int j) H
theorem vF:∀{xs:O Int} {its:O Value} {i:Nat} {a:Value},Vals (xs.map V.int) its->its[i]?=S a->∃t,a=.int (xs.getD i 0) t
 | [],_,_,_,.nil,h=>by simp at h
 | x::xs,_,0,a,.cons r _,h=>by
   @⟨t,e⟩:=r
   simp at h
   subst h
   #⟨t,e⟩
 | x::xs,_,i+1,a,.cons _ q,h=>by
   @⟨t,e⟩:=vF (i:=i) q (by simpa using h)
   #⟨t,by simpa using e⟩
def xM {X:Cx}:Qy X "list.index" (vR X.K):=by
 intro pins s σ H x vs v us Q I rx rv h
 @⟨l,xs,y,j,rfl,rfl,hq,hj,qo,GC,q⟩:=h
 cases rx
 @⟨u,rfl,ru⟩:=rv.one
 @⟨its,rl,pl,hz⟩:=I.list hq
 !hlen:=rl~
 rw[ad1]at hlen
 !Mo:j<xs~:=(List.getElem?_eq_some_iff.mp hj).1
 @⟨o,ho,Dc,n,hd⟩:=pl.isList
 @⟨oc,od,oda,osl⟩:=o
 simp only at Dc hd
 subst Dc
 subst hd
 !tx:∀m (hm:m<its.toArray.size),∃t,its.toArray[m]=agl (xs[m]'(by simp at hm;lia)) t:=λm hm=>by
   !D7:m<xs~:=by simp at hm;lia
   @⟨t,e⟩:=vF (xs:=xs) (i:=m) rl (show its[m]?=S (its.toArray[m])by simp at hm ⊢)
   #⟨t,e.trans ?_⟩
   rw[ad9,ad3 D7]
   rfl
 let e:Value->Bool:=λa=>match a with|.int z _=>decide (z=y)|_=>false
 #call_meets F.slot_list_index ⟨_,ho,U⟩ F.entry_list_index (F.args_list_index_2 _ _) (SeqAt.list_indexAt l its.toArray n od osl u e j (by simp;lia) (by lia) ?hit ?no) ⟨ho,?eqs,?fin⟩
 case hit=>
   @⟨t,et⟩:=tx j (by simp;lia)
   rw[et]
   change decide (_=y)=true
   rw[(List.getElem?_eq_some_iff.mp hj).2]
   simp
 case no=>
   intro m hm hmj
   @⟨t,et⟩:=tx m hm
   rw[et]
   change decide (_=y)=false
   !D7:m<xs~:=by simp at hm;lia
   !:=qo m hmj
   rw[ad3 D7]at this
   simpa using this
 case eqs=>
   intro a ha
   @⟨m,hm,em⟩:=Array.getElem_of_mem ha
   @⟨t,et⟩:=tx m hm
   rw[em]at et
   !r1:RelV (V.int (xs[m]'(by simp at hm;lia))) a:=⟨t,et⟩
   !h1:=tF (A:=X.A.in1) (s:=s) r1 ru rfl rfl
   !h2:jU (V.int (xs[m]'(by simp at hm;lia))) (.int y)=e a:=by
     rw[et]
     change decide (xs[m]'(by simp at hm;lia)=y)=decide (_=y)
     rfl
   rw[h2]at h1
   #h1
 case fin=>show⟨.int j,H,I.tok _,⟨_,rfl⟩,q⟩
end L2
namespace L3
open PySem PySem.Spec PyProof.Rows L2
section
variable{X:Cx}{a b c e o:Expr}{es:O Expr}{ta tb tc te:TE}{t:TA}{pos:Pos}
def BL {KK:ad2}{p2 pos:Pos}(ha:SE X a ta)(hb:SE X b tb)(hK:X.K=KK:=by first|show L3.bM|show L3.ba|rfl):SE X (.Subscript a (.Slice Z Z (S b) p2) pos) (Iu KK ta tb):=by
 subst hK
 #⟨Fj ha.h hb.h⟩
def Ic {KK:ad2}{p2:Pos}(ha:SE X a ta)(hb:SE X b tb)(hc:SE X c tc)(hK:X.K=KK:=by first|show L3.bM|show L3.ba|rfl):SE X (.Subscript a (.Slice (S b) (S c) Z p2) pos) (Qi (FJ KK) ta (oI tb) (oI tc)):=by
 subst hK
 #⟨jK pW ha.h (jM hb.h) (jM hc.h)⟩
def JR:SO X (binaryOp .Add) Hl:=⟨E1⟩
def zt:SE X (.Dict [] [] pos) Cp:=⟨Bc⟩
def zu:SE X (.Dict [] [] pos) Cq:=⟨Bd⟩
def iR2 {tg:Expr}{p:Pos}(hg:Gl X "range")(hm:X.mg "range"=Z)(ha:SA X [a,b] t)(hb:bT b:=by first|show gS|show jf|show gR|show jJ|show ue):SI X tg (.Call (.Name "range" p) [a,b] [] pos) (GS t):=
 ⟨yf hg hm ha.h.pa (by rw[(ha.h.ns a [b] rfl).1.h [b] X.env,hb.h [] X.env];rfl) (by rw[hb.h [] X.env];rfl)⟩
def tV {apos:Pos}{KK:ad2}(ho:SE X o ta)(ha:SA X [e] t)(hbase:afd o "index" X.env (eval o X.env)=eval o X.env:=by rfl)(hline:(apos.endLine==pos.line)=true:=by rfl)(hK:X.K=KK:=by first|show L3.bM|show L3.ba|rfl) :
   SE X (.Call (.Attribute o "index" apos) [e] [] pos) (LL KK "list" (vR KK) ta t):=by
 subst hK
 #RZ afD PySem.F.slot_list_index PySem.F.type_list_index ⟨xM⟩ ho ha hbase hline
end
end L3
namespace L2
open PySem PySem.Spec PyProof.Rows
end L2
namespace L3
open PySem PySem.Spec PyProof.Rows L2
end L3
namespace PySem
open Sem (wp)
end PySem
namespace PySem
open Sem (wp)
open AutoSeq1 (wpAny_loadPart')
end PySem
namespace L2
open PySem PySem.Spec PyProof.Rows
end L2
namespace L3
open PySem PySem.Spec PyProof.Rows L2
end L3
namespace L2
open PySem PySem.Spec PyProof.Rows
section
variable{X:Cx}{pos:Pos}
def Iq (i j:Nat)(ta:TA):TS:=λD σ H=>ta σ H λvs H1=>∃u v,vs=[u,v]/\D.nx ((σ.set i (S u)).set j (S v)) H1
def FC {i j:Nat}{x y:Str}{a b:Expr}{ta:TA}{px py pt:Pos}{kt k2 rq}(hc:X.calm=true)(hN:X.N.Nodup)(hi:X.N[i]?=S x)(hj:X.N[j]?=S y)(hij:i≠j)
   (hx:X.env.scope.names.lookup x=S .local) (hy:X.env.scope.names.lookup y=S .local) (ha:PA X [a,b] ta)
   (hw:age [.Tuple [.Name x px,.Name y py] kt pt] (.Tuple [a,b] k2 rq) X.env=pure (S [x,y]))
   (hs:agd [.Tuple [.Name x px,.Name y py] kt pt] (.Tuple [a,b] k2 rq) pos.line X.env=pure false:=by rfl) :
   PS X (.Assign [.Tuple [.Name x px,.Name y py] kt pt] (.Tuple [a,b] k2 rq) pos) (Iq i j ta):=by
 intro pins s σ H D I h
 rw[exec_Assign_arm]
 #wpAny_bind (wpAny_standAt ?_)
 rw[hs]
 #wpAny_bind (wpAny_pure ?_)
 rw[aM (by left)]
 #wpAny_bind (Tuple_ (bH (ha _ pins s σ H _ I h) λus s1 h9=>?_))
 @⟨vs,H1,I1,r1,q1⟩:=h9
 @⟨u,v,e1,q1⟩:=q1
 subst e1
 @⟨u1,u2,rfl,ru,rv⟩:=Vals.two r1
 #wpAny_newObj_type ?_ akA
 !I2:Inv X pins σ H1 {s1 with heap:=s1.heap.push {cls:=.type "tuple",data:=.seq [u1,u2].toArray} }:=I1.kept (t':=s1.toks) λb o e=>ad6 _ e
 rw[hw]
 #wpAny_bind (wpAny_pure ?_)
 change wpAny (model X.prog X.w) X.A (do rule "assign.swapped-stores";let items←unpackItems (.ref s1.heap.objs.size) 2 Z;assignInOrder [λv=>agt X.env y v,λv=>agt X.env x v] items.reverse;pure aii) _ _ _
 #wpAny_bind (wpAny_rule (wpAny_bind (unpackItems_tuple (items:=#[u1,u2]) (I.ok.hd hc) (ah3 s1.heap _) λh' GO=>?_)))
 !I3:=I2.kept (h':=h') (t':=s1.toks) λb o e=>GO b o (aeA (aee e)) e
 change wpAny _ _ (assignInOrder [λv=>agt X.env y v,λv=>agt X.env x v] [u2,u1]>>=λz=>pure aii) _ _ _
 #wpAny_bind (assignInOrder_cons (wpAny_bindName (eM I3 hN hj (.inl hy) rv (λs2 I4=>?_) (.inr hy))))
 #assignInOrder_cons (wpAny_bindName (eM I4 hN hi (.inl hx) ru (λs3 I5=>ahD (wpAny_pure ?_)) (.inr hx)))
 rw[ag5 _ _ hij.symm]at I5
 #⟨_,H1,I5,q1⟩
end
end L2
namespace L3
open PySem PySem.Spec PyProof.Rows L2
section
variable{X:Cx}{a b c e o:Expr}{es:O Expr}{ta tb tc te:TE}{t:TA}{pos:Pos}
def KD (i j:Nat){x y:Str}{px py pt:Pos}{kt k2 rq}(hN:X.N.Nodup)(ha:SA X [a,b] t)(hi:X.N[i]?=S x:=by rfl)(hj:X.N[j]?=S y:=by rfl)(hij:i≠j:=by left)
   (hx:X.env.scope.names.lookup x=S .local:=by rfl) (hy:X.env.scope.names.lookup y=S .local:=by rfl)
   (hw:age [.Tuple [.Name x px,.Name y py] kt pt] (.Tuple [a,b] k2 rq) X.env=pure (S [x,y]):=by rfl)
   (hs:agd [.Tuple [.Name x px,.Name y py] kt pt] (.Tuple [a,b] k2 rq) pos.line X.env=pure false:=by rfl) (hc:X.calm=true:=by rfl) :
   SS X (.Assign [.Tuple [.Name x px,.Name y py] kt pt] (.Tuple [a,b] k2 rq) pos) (Iq i j t):=⟨FC hc hN hi hj hij hx hy ha.h.pa hw hs⟩
end
end L3
namespace TW
end TW
namespace L2
open PySem PySem.Spec PyProof.Rows SeqAt
def all_ints {xs ys:O Int}(h:xs~=ys~):(aem xs~).all (λj=>jU (.int (xs.getD j 0)) (.int (ys.getD j 0)))=decide (xs=ys):=by
 !key:(∀j,j<xs~->xs.getD j 0=ys.getD j 0)↔xs=ys:=by
   constructor
   . intro k
     #List.ext_getElem h λj h1 h2=>?_
     !:=k j h1
     rw[ad9,ad9,ad3 h1,ad3 h2]at this
     #this
   . intro e j _
     rw[e]
 by_cases e:xs=ys
 . rw[ed e,afz]
   intro j hj
   change decide (xs.getD j 0=ys.getD j 0)=true
   #ed (key.mpr e j (List.mem_range.mp hj))
 . rw[mW e]
   rw[Bool.eq_false_iff]
   intro z
   rw[afz]at z
   #e (key.mp λj hj=>cU (show decide (xs.getD j 0=ys.getD j 0)=true from z j (List.mem_range.mpr hj)))
def xE {K:ad2}{H:Hp}{n:Nat}{xs ys:O Int}:∀(j:Nat) (x y:V),(xs.map V.int)[j]?=S x->(ys.map V.int)[j]?=S y->EB K H n x y (jU (.int (xs.getD j 0)) (.int (ys.getD j 0))):=λj x y hx hy=>by
 rw[aei]at hx hy
 @⟨a,ha,rfl⟩:=Option.map_eq_some_iff.mp hx
 @⟨b,hb,rfl⟩:=Option.map_eq_some_iff.mp hy
 rw[ad9,ad9,ha,hb]
 #EB.flat rfl rfl
def RB.ints {K:ad2}{H:Hp}{n:Nat}{a b:J}{xs ys:O Int}(ha:H a=S (.lst (xs.map V.int)))(hb:H b=S (.lst (ys.map V.int))):RB K H n (.ref a) (.ref b) (decide (xs=ys)):=by
 by_cases hl:xs~=ys~
 . #⟨a,b,aJ U U (.inl ⟨_,aB.of ha,aB.of hb,by rw[ad1,ad1];#hl,xE,?_⟩)⟩
   rw[ad1,all_ints hl]
 . #⟨a,b,aJ U U (.inr (.inl ⟨aB.of ha,aB.of hb,by rw[ad1,ad1];#hl,mW λz=>hl (by rw[z])⟩))⟩
end L2
namespace L3
open PySem PySem.Spec PyProof.Rows L2
end L3
namespace TW
end TW
namespace TW
end TW
namespace L2
open PySem PySem.Spec PyProof.Rows
section
variable{X:Cx}
theorem qA:∀{bs:O Bool} {us:O Value},Vals (bs.map V.bl) us->us=bs.map afI
 | [],_,.nil=>rfl
 | b::bs,_,.cons r q=>by
   cases r
   rw[qA q]
   rfl
def wJ (hc:X.calm=true):fE X (.builtin "all") (λxs H Q=>∃(l:J) (bs:O Bool),xs=[.ref l]/\aB X.K H l (bs.map V.bl)/\Q (.bl (bs.all id)) H):=by
 intro pins s σ H xs us Q I r h
 @⟨l,bs,rfl,hq,q⟩:=h
 @⟨u,rfl,ru⟩:=vals1 r
 obtain rfl:u=aen l:=ru
 @⟨its,rv,pl,_⟩:=I.list hq
 !e1:=qA rv
 subst e1
 !hl:=pl.isList
 !fS:l<s.heap.objs.size:=by@⟨_,e,_⟩:=hl;#aee e
 #call_all_walk (wpAny_pyIter_list hl ?_)
 #⟨_,_,_,_,_,_,λi=>bs.getD i true,U,Walks.list (A:=X.A.in1) (show X.A.in1.handled=Z from I.ok.hd hc) s.heap.objs.size l (aeA fS) (bs.map afI).toArray,⟨⟨_,aeq _ rfl,U,U⟩,hl.push _⟩,?_,λh' tk hk=>?_⟩
 . intro i v s' Q' E' hP Z5
   !hv:bs[i]?.map afI=S v:=by simpa using hP
   @⟨b,hb,rfl⟩:=Option.map_eq_some_iff.mp hv
   !Ww:Q' (bs.getD i true) s':=Z5
   rw[ad9,hb]at Ww
   #wpAny_truthy_bool Ww
 . !kk:∀b o,s.heap.get? b=S o->h'.get? b=S o:=old_kept hk
   #⟨.bl (bs.all id),H,I.kept kk,?_,q⟩
   !e:(aem (bs.map afI).toArray.size).all (λi=>bs.getD i true)=bs.all id:=by
     rw[show(bs.map afI).toArray.size=bs~ by simp]
     !key:(∀i,i<bs~->bs.getD i true=true)↔∀b∈bs,b=true:=by
       constructor
       . intro k b hb
         @⟨i,hi,e⟩:=afC hb
         !:=k i hi
         rw[ad9,ad3 hi]at this
         rw[← e]
         #this
       . intro k i hi
         rw[ad9,ad3 hi]
         #k _ (aho hi)
     rw[afc,afz,afz]
     #⟨λk b hb=>key.mp (λi hi=>k i (List.mem_range.mpr hi)) b hb,λk i hi=>key.mpr (λb hb=>k b hb) i (List.mem_range.mp hi)⟩
   rw[e]
   rfl
end
end L2
namespace L3
open PySem PySem.Spec PyProof.Rows L2
def Gs {X:Cx}{KK:ad2}(hc:X.calm=true:=by rfl)(hK:X.K=KK:=by first|show L3.bM|show L3.ba|rfl):SC X (.builtin "all") (λxs H Q=>∃(l:J) (bs:O Bool),xs=[.ref l]/\aB KK H l (bs.map V.bl)/\Q (.bl (bs.all id)) H):=by
 subst hK
 #⟨wJ hc⟩
end L3
namespace L2
open PySem PySem.Spec PyProof.Rows SeqAt
section
variable{K:ad2}{H:Hp}{α:Type}[DecidableEq α]{At:V->α->Prop}{n:Nat}
theorem fA:∀{vx vy:O V} {xs ys:O α},Paired At vx xs->Paired At vy ys->vx~=vy~->(∀u v x y,At u x->At v y->EB K H n u v (decide (x=y))) ->
   ∃e:Nat->Bool,(∀j x y,vx[j]?=S x->vy[j]?=S y->EB K H n x y (e j))/\(aem vx~).all e=decide (xs=ys)
 | [],[],_,_,.nil,.nil,_,_=>⟨λz=>true,(λj x y h=>by cases j<;>cases h),rfl⟩
 | u::vx,v::vy,x::xs,y::ys,.cons h1 r1,.cons h2 r2,hl,k=>by
   @⟨e,he,ha⟩:=fA r1 r2 (by simpa using hl) k
   #⟨λj=>match j with|0=>decide (x=y)|j+1=>e j,λj a b hx hy=>?_,?_⟩
   . cases j with
     | zero=>
       cases hx
       cases hy
       #k u v x y h1 h2
     | succ j=>#he j a b hx hy
   . rw[aet,List.range_succ_eq_map,ag8,List.all_map]
     change(decide (x=y)&&(aem vx~).all e)=_
     rw[ha]
     by_cases c:x=y<;>by_cases d:xs=ys<;>simp[c,d]
def RB.told {a b:J}{vx vy:O V}{xs ys:O α}(ha:H a=S (.lst vx))(hb:H b=S (.lst vy))(px:Paired At vx xs)(py:Paired At vy ys)(k:∀u v x y,At u x->At v y->EB K H n u v (decide (x=y))):RB K H n (.ref a) (.ref b) (decide (xs=ys)):=by
 !lx:=Paired.length px
 !ly:=Paired.length py
 by_cases hl:vx~=vy~
 . @⟨e,h1,h2⟩:=fA px py hl k
   #⟨a,b,aJ U U (.inl ⟨e,aB.of ha,aB.of hb,hl,h1,h2.symm⟩)⟩
 . #⟨a,b,aJ U U (.inr (.inl ⟨aB.of ha,aB.of hb,hl,mW λz=>hl (by rw[lx,ly,z])⟩))⟩
end
theorem eK {α:Type}(c:α->V):∀xs:O α,Paired (λv x=>v=c x) (xs.map c) xs
 | []=>.nil
 | _::r=>.cons rfl (eK c r)
def RB.strs {K:ad2}{H:Hp}{n:Nat}{a b:J}{xs ys:O Str}(ha:H a=S (.lst (xs.map V.str)))(hb:H b=S (.lst (ys.map V.str))):RB K H n (.ref a) (.ref b) (decide (xs=ys)):=
 RB.told ha hb (eK V.str xs) (eK V.str ys) λu v x y h1 h2=>by
   subst h1
   subst h2
   !e:jU (.str x) (.str y)=decide (x=y):=by
     change(x==y)=_
     rw[afc,beq_iff_eq,decide_eq_true_iff]
   rw[← e]
   #EB.flat rfl rfl
def RB.YF {K:ad2}{H:Hp}{n:Nat}{a b:J}{xs ys:O Bool}(ha:H a=S (.lst (xs.map V.bl)))(hb:H b=S (.lst (ys.map V.bl))):RB K H n (.ref a) (.ref b) (decide (xs=ys)):=
 RB.told ha hb (eK V.bl xs) (eK V.bl ys) λu v x y h1 h2=>by
   subst h1
   subst h2
   !e:jU (.bl x) (.bl y)=decide (x=y):=by
     cases x<;>cases y<;>rfl
   rw[← e]
   #EB.flat rfl rfl
structure qu (k:Nat)(A:Around):Prop where
 dp:A.depth+3*k+5<ail
 un:A.units+16*k+200<cLine
def cG.h {k:Nat}{A:Around}(r:cG k A)(e:Option Value):qu k (A.mark e):=⟨r.dp,r.un⟩
abbrev R5 (P:Program)(w:World)(K:ad2)(mg:Str->Option Value)(base:Heap)(N:O Str)(qual:Str)(scope:Scope)(f:J)(cd:Value)(A:Around)(outer:O Env)(s:Shared)(H:Hp)(E:XK):Cx:=
 {gM cm P w K mg base N qual scope f cd A outer s H E with calm:=false,xe:=λ_ _=>False}
structure lO (P:Program)(w:World)(K:ad2)(mg:Str->Option Value)(base:Heap)(k:Nat)(f:J)(fd:aef)(ps:O Str)(sp:Sp):Prop where
 len:∀vs H Q E,sp vs H Q E->vs~=ps~
 run:∀(A:Around) (outer:O Env) (s:Shared) (H:Hp) (args:Args) (us:O Value) (vs:O V) (Q:VK) (E:XK),qu k A->oN P w K mg base A outer s H->BindsTo s fd args (ps.zip us)->Vals vs us->sp vs H Q E ->
   codeAny (model P w) A (.call (.ref f) args) (CR cm outer P w H s Q E) s
def lO.mono {P:Program}{w:World}{K:ad2}{mg:Str->Option Value}{base:Heap}{j k:Nat}{f:J}{fd:aef}{ps:O Str}{sp:Sp}(F:lO P w K mg base j f fd ps sp)(h:j<=k):lO P w K mg base k f fd ps sp:=
 ⟨F.len,λA outer s H args us vs Q E hr=>F.run A outer s H args us vs Q E ⟨by !:=hr.dp;lia,by !:=hr.un;lia⟩⟩
section
variable{P:Program}{w:World}{K:ad2}{mg:Str->Option Value}{base:Heap}
def cF.okH {x qual:Str}{st:Stmt}{f:J}{fd:aef}{N ps:O Str}{k:Nat}{sp:Sp}(F:cF K x qual st f fd)(S8:aA N ps (ao st))(len:∀vs H Q E,sp vs H Q E->vs~=ps~)
   (hbody:∀(cdv:Value) (A:Around) (outer:O Env) (s:Shared) (H:Hp) (vs:O V) (Q:VK) (E:XK),qu k (A.deeper (envOfC qual (ao st) s.heap.objs.size f cdv))->sp vs H Q E ->
     ∃t,mV (R5 P w K mg base N qual (ao st) f cdv A outer s H E) (cp st) t/\t {nx:=λp H'=>Q .bA H',rt:=Q} (start N vs) H):lO P w K mg base (k+1) f fd ps sp:=by
 @⟨oc,od,kV,doc,pm,an,cdv,ct,osl,rfl,lk,hcd⟩:=F.ex
 #⟨len,λA outer s H args us vs Q E hr e0 hb r hsp=>?_⟩
 !hl:=len _ _ _ _ hsp
 !kb:=λb o e=>(e0.bs b o e).1
 !KX:K.In s.heap:=e0.mod.kin.keeps kb
 !lim:s.heap.NoLimit:=e0.mod.nolimit.keeps kb
 !hk:∀y∈ps.zip us,(ao st).names.lookup y.1=S .local\/((ao st).names.lookup y.1=S .cell/\((cellsFrom (s.heap.objs.size+1) (ao st).names []).lookup y.1).isSome=true):=λ⟨n,v⟩ hy=>
   (S8.par n (afl hy).1).elim .inl λq=>.inr ⟨q,agr _ _ _ (.inl q)⟩
 #codeAny_call_function (by !:=hr.dp;lia) (KX _ _ lk) rfl S8.co S8.gen rfl (aib KX hcd) (hb _ _ _ _ ?_)
 #ah8 S8.kind hk λenv he s1 z=>?_
 subst he
 #⟨lim.keeps z.toInCall.keep,codeAny_func ?_⟩
 @⟨t,ht,hq⟩:=hbody cdv A outer s H vs Q E ⟨by !:=hr.dp;change A.depth+1+3*k+5<_;lia,by !:=hr.un;change A.units+3+16*k+200<_;lia⟩ hsp
 !e1:oN P w K mg base ({A with handled:=Z}:Around) outer s H:=⟨e0.frames,e0.mod,e0.bs,e0.bsz,e0.ig,e0.frf,e0.hok,e0.bare⟩
 !I0:=n9 (CX:=cm) (qual:=qual) (f:=f) (cd:=cdv) (E:=E) S8 (show({A with handled:=Z}:Around).handled=Z from rfl) e1 hl r z
 !I:Inv (R5 P w K mg base N qual (ao st) f cdv A outer s H E) [] (start N vs) H s1:=
   ⟨⟨I0.ok.mod,I0.ok.kind,I0.ok.glob,I0.ok.blt,I0.ok.above,I0.ok.inj,I0.ok.has,I0.ok.cab,(λz=>nomatch z),ah7 e0.frames,I0.ok.stk,I0.ok.exf,I0.ok.bs,I0.ok.bsz,I0.ok.noex,I0.ok.exfs,I0.ok.ig,I0.ok.frf⟩,I0.os,I0.bare,I0.base,I0.loc,I0.cell,I0.free,I0.freeC,I0.pin,I0.hok,I0.len⟩
 #wpAny_mono (ht [] s1 (start N vs) H _ I hq) (λfl s' hs=>?_) λe s' hs=>hs.elim
 !fin:∀{σ':St} {H':Hp} {v:V} {u:Value},Inv (R5 P w K mg base N qual (ao st) f cdv A outer s H E) [] σ' H' s'->RelV v u->Q v H'->CE outer P w H s Q u s':=
   λ{σ' H' v u} J8 rv q=>⟨v,H',J8.os,J8.bare,J8.base,J8.hok,rv,q⟩
 cases fl with
 | ret u=>
   @⟨v,σ',H',J8,rv,q⟩:=hs
   #fin J8 rv q
 | next=>
   @⟨σ',H',J8,q⟩:=hs
   #fin (v:=V.bA) (u:=ahe) J8 rfl q
 | brk=>@⟨_,_,_,q⟩:=hs;#q.elim
 | cont=>@⟨_,_,_,q⟩:=hs;#q.elim
end
section
variable{X:Cx}{k:Nat}{f:J}{fd:aef}{ps:O Str}{sp:Sp}{x:Str}{p pos:Pos}{e:Expr}{es:O Expr}{t:TA}
def A9 (F:lO X.prog X.w X.K X.mg X.base k f fd ps sp)(hr:qu k X.A)(hg:Gl X x)(hm:X.mg x=S (.ref f))(hk:aeV X.K (.ref f)=true)(hb:Binds X.K fd ps [])
   (ha:PA X (e::es) t) (hdb:(x==("__debug__":Str))=false:=by left) (he:starEach (e::es) X.env=(false,eval e X.env)::starEach es X.env:=by rfl) (hpl:(backTo pos (starEach es X.env)).any (·.1)=false:=by rfl) :
   PE X (.Call (.Name x p) (e::es) [] pos) (mS sp [] E0 t):=by
 intro pins s σ H Q I h
 #wpAny_Call_Name_kw (iN I hg hm ?_ hdb)
 #af4 (h₀:=X.base) I.ok.mod.kin hk (bH (ha pos pins s σ H _ I h) λus s1 g9=>?_) he hpl
 @⟨vs,H1,I1,r,q⟩:=g9
 #⟨I1.i6,?_⟩
 !q':sp vs H1 Q E0:=by !z:sp (vs++[]) H1 Q E0:=q;rw[aeK]at z;#z
 !hl:us~=ps~:=by rw[← r~];#F.len _ _ _ _ q'
 !QW:=hb s1 us I1.i6 (by rw[aeK];#hl)
 rw[aeK]at QW
 #wpAny_call (codeAny_mono (F.run X.A X.stack s1 H1 ⟨us,[]⟩ us vs Q E0 hr I1.Jb QW r q') λr s' hq=>?_)
 cases r with
 | error e=>#aeS hq
 | ok fl=>
   cases fl with
   | ret u=>#I1.after hq
   | next=>#aeS hq
   | brk=>#aeS hq
   | cont=>#aeS hq
end
def Iv (K:ad2)(mg:Str->Option Value)(T:J)(n ie:Nat)(tb:XK->TS)(th:TS):TS:=λD σ H=>tb (λcls z H2=>∃C tl x,cls=.ref C/\Xc K mg x C tl/\(aen C::tl).contains (.ref T)=true/\∀ea,H2 ea=Z->th {nx:=λσ8 H8=>D.nx (σ8.set ie Z) H8,rt:=λz z=>False} ((aev n Z).set ie (S (.ref ea))) (upd H2 ea (Gz ea C))) D σ H
def FE {X:Cx}{tn en:Str}{T:J}{ie:Nat}{body kr:O Stmt}{hst0:Stmt}{tb:XK->TS}{th:TS}{np hp pos:Pos}(hst:X.stack=X.env::X.outer)(hex:X.ex=[])(hfr:X.env.frame=S X.env.locals)(hN:X.N.Nodup)(hie:X.N[ie]?=S en)
   (hle:X.env.scope.names.lookup en=S .local) (cT:Xc X.K X.mg tn T vE) (hg:Gl X tn)
   (hb:∀(W:Value->Shared->Prop) (pn:O (J×Obj)) (Ex:XK),Passes (qm X.prog X.w X.base) {X with xe:=W,pn:=pn} Ex->mV {X with xe:=W,pn:=pn} body (tb Ex))
   (hh:∀ea:J,mV {X with A:=X.A.mark (S (.ref ea)),calm:=false,xe:=λt t=>False} (hst0::kr) th) (hdt:(tn==("__debug__":Str))=false) :
   PS X (.Try body [.ExceptHandler (S (.Name tn np)) (S en) (hst0::kr) hp] [] [] pos) (Iv X.K X.mg T X.N.length ie tb th):=by
 intro pins s σ H D I h
 let Hd:O ExceptHandler:=[.ExceptHandler (S (.Name tn np)) (S en) (hst0::kr) hp]
 let W:Value->Shared->Prop:=λe s1=>wpAny (model X.prog X.w) X.A (noteFrame e X.env) (λt s2=>wpAny (model X.prog X.w) X.A (setFlight e Z) (λt s3=>wpAny (model X.prog X.w) X.A (handleBy e X.env Hd) (SP X pins D) X.xe s3) X.xe s2) X.xe s1
 !VB:∀p∈(X.pn++pins)++[],p∈X.pn++pins:=λp hp=>by rw[aeK]at hp;#hp
 !back:∀{σ1:St} {H1:Hp} {s1:Shared} {G9:O (J×Obj)},Inv {X with xe:=W,pn:=X.pn++pins} G9 σ1 H1 s1->Inv X pins σ1 H1 s1:=λJ8=>J8.back λp hp=>agN _ hp
 #wpAny_Try_except ?_
 #wpAny_mono (hb W (X.pn++pins) _ ?_ [] s σ H D (I.other VB) h) (λf s1 hs=>?_) (λe s1 he=>he)
 . -- an exception of a callee
   intro G9 σ1 H1 s1 e s2 J8 cx
   @⟨ea,cls,a0,B,H2,rfl,Vc,zb,Cz,Jq,Rt,zy,inB,yA,Q9,C,tl,x,rfl,xc,hup,q⟩:=cx
   !J0:=back J8
   !Us:({X with xe:=W,pn:=X.pn++pins}:Cx).stack=X.env::X.outer:=hst
   rw[Us]at Cz zy inB
   !Mc:=zy.2.2.1
   !at_:∀h3:Heap,B.StaysIn h3->s2.heap.UpToSlots h3->Inv X pins σ1 H2 {s2 with heap:=h3}:=λh3 s3 up=>by
     #J0.Gv (s':={s2 with heap:=h3}) (ch:=[]) Vc ?_ (kh Jq yA zy.1 s3) zb (λb z=>nomatch z)
     rw[hst]
     #CA Cz zy.1 s3 inB (BM Mc up)
   !n2:H2 ea=Z:=by
     cases z:H2 ea with
     | none=>rfl
     | some u=>
       @⟨o,ho⟩:=yA ea u z
       rw[zy.2.1]at ho
       cases ho
   change wpAny (model X.prog X.w) X.A (noteFrame (.ref ea) X.env) _ _ _
   !QL:X.A.frames=S (X.env::X.outer):=by rw[← hst];#I.ok.frames
   #wpAny_looks_onW QL hfr zy λh4 NG up4=>?_
   #wpAny_landsW NG λh5 Je up5=>?_
   !Qm:=up4.trans up5
   !I5:=at_ h5 Je.1 Qm
   #wpAny_handleBy_cons (codeAny_handlers_test (iN (I5.mark (e:=S (.ref ea))) hg cT.m ?_ hdt)) (by intro z;cases z)
   @⟨N1,a1,a2,a3,a4,a5,a6,a7,a8,a9,b0,b1,b2,b3,b5,m1,hC,_,_,_⟩:=xc.obj I5.i6
   @⟨N2,c1,c2,c3,c4,c5,c6,c7,c8,c9,d0,d1,d2,d3,d5,m2,hT,_,_,_⟩:=cT.obj I5.i6
   @⟨ob,hob,TX⟩:=Je.there
   #t9 hC hT hob TX hup rfl (codeAny_handlers_suite_as ?_)
   #lands_againW Je λh6 Nf up6=>?_
   !I6:=at_ h6 Nf.1 (Qm.trans up6)
   !Y1:kI ea C h6:=Nf.there
   !ne_of1:∀b o,s1.heap.get? b=S o->b≠ea:=λb o hb z=>by rw[z,Q9]at hb;cases hb
   !Yl:=I6.Ql n2 Y1 (by
     cases z:X.s₀.heap.get? ea with
     | none=>rfl
     | some o=>
       by_cases hx:ea∈X.ex
       . rw[hex]at hx
         #nomatch hx
       . @⟨o',e1⟩:=J0.base.there ea o z hx
         rw[Q9]at e1
         cases e1) (by
     @⟨m,⟨o,_,_,ho,_⟩,_⟩:=J0.loc
     #(ne_of1 _ o ho).symm) (λy c e=>by
     @⟨v,o,ho,_⟩:=J0.cell y c e
     #ne_of1 c o ho) (λp hp=>ne_of1 p.1 p.2 (J0.pin p hp).1)
   #eM Yl hN hie (.inl hle) (v:=.ref ea) rfl (λs7 I7=>?_) (.inr hle)
   !hlenσ:σ1.length=X.N.length:=J0.len
   !Jj:ie<σ1.length:=by rw[hlenσ];#(List.getElem?_eq_some_iff.mp hie).1
   !Ym:=I7.weak (σ':=(aev X.N.length Z).set ie (S (.ref ea))) (by rw[afu,afu,afg,hlenσ]) (λi v e=>by
     by_cases hi:i=ie
     . subst hi
       rw[afq (by rw[afg,← hlenσ];#Jj)]at e
       rw[afq Jj]
       #e
     . rw[afY (Ne.symm hi),agu]at e
       split at e<;>cases e)
   #wpAny_mono (hh ea pins s7 _ _ _ (Ym.mark (e:=S (.ref ea))) (q ea n2)) (λf s8 hs=>?_) (λt t z=>z.elim)
   cases f with
   | next=>
     @⟨σ8,H8,I8,z8⟩:=hs
     !RI:=I6.unmark I8
     @⟨m8,hn8,hl8⟩:=id RI.loc
     #wpAny_nameGoes_keeps (by#hle) hn8 (by rw[I.ok.kind];rfl) λh9 v9 hn9 hs9=>?_
     #⟨_,_,RI.forget (σ':=σ8.set ie Z) hl8 hn9 hs9 (by rw[afu]) (λi v e=>?_),z8⟩
     !l8:σ8.length=X.N.length:=RI.len
     by_cases hi:i=ie
     . subst hi
       rw[afq (by rw[l8,← hlenσ];#Jj)]at e
       cases e
     . rw[afY (Ne.symm hi)]at e
       #⟨e,λz=>hi ?_⟩
       @⟨h1,e1⟩:=List.getElem?_eq_some_iff.mp z
       @⟨h2,e2⟩:=List.getElem?_eq_some_iff.mp hie
       rcases Nat.lt_trichotomy i ie with c|c|c
       . #aw (e1.trans e2.symm) (List.pairwise_iff_getElem.mp hN i ie h1 h2 c)
       . #c
       . #aw (e2.trans e1.symm) (List.pairwise_iff_getElem.mp hN ie i h2 h1 c)
   | brk=>@⟨_,_,_,z⟩:=hs;#z.elim
   | cont=>@⟨_,_,_,z⟩:=hs;#z.elim
   | ret u=>@⟨_,_,_,_,_,z⟩:=hs;#z.elim
 . cases f with
   | next=>
     @⟨σ',H',J8,z⟩:=hs
     #agU ⟨σ',H',back J8,z⟩
   | brk=>@⟨σ',H',J8,z⟩:=hs;#⟨σ',H',back J8,z⟩
   | cont=>@⟨σ',H',J8,z⟩:=hs;#⟨σ',H',back J8,z⟩
   | ret u=>@⟨v,σ',H',J8,r,z⟩:=hs;#⟨v,σ',H',back J8,r,z⟩
end L2
namespace TW
open PySem L2
def wD (P:Program)(w:World)(K:ad2)(mg:Str->Option Value)(base:Heap)(x:Str)(ps:O Str)(k:Nat)(sp:Sp):Prop:=
 ∃f fd,lO P w K mg base k f fd ps sp/\aeV K (.ref f)=true/\Binds K fd ps []/\mg x=S (.ref f)
def wD.mono {P:Program}{w:World}{K:ad2}{mg:Str->Option Value}{base:Heap}{x:Str}{ps:O Str}{j k:Nat}{sp:Sp}(h:wD P w K mg base x ps j sp)(hk:j<=k):wD P w K mg base x ps k sp:=
 let⟨f,fd,a,b,c,d⟩:=h;⟨f,fd,a.mono hk,b,c,d⟩
end TW
namespace L3
open PySem L2
section
variable{X:Cx}{e:Expr}{es:O Expr}{t:TA}{pos:Pos}
def Ve {x:Str}{p:Pos}{ps:O Str}{kk:Nat}{sp:Sp}(D:TW.wD X.prog X.w X.K X.mg X.base x ps kk sp)(hr:qu kk X.A)(hg:Gl X x)(ha:SA X (e::es) t)(hdb:(x==("__debug__":Str))=false:=by left) :
   SE X (.Call (.Name x p) (e::es) [] pos) (mS sp [] E0 t):=by
 @⟨_,_,G,kp,b,m⟩:=D
 #⟨A9 G hr hg m kp b ha.h.pa hdb ((ha.h.ns e es rfl).1.h es X.env) ((ha.h.ns e es rfl).2 pos X.env)⟩
def VF {tn en:Str}{T:J}(ie:Nat){body kr:O Stmt}{hst0:Stmt}{tbb:XK->TS}{th:TS}{np hp:Pos}{KK:ad2}{mg:Str->Option Value}{NN:Nat}(hN:X.N.Nodup)(cT:Xc X.K X.mg tn T vE)(hg:Gl X tn)
   (hb:∀(W:Value->Shared->Prop) (pn:O (J×Obj)) (Ex:XK),Passes (qm X.prog X.w X.base) {X with xe:=W,pn:=pn} Ex->SL {X with xe:=W,pn:=pn} body (tbb Ex))
   (hh:∀ea:J,SL {X with A:=X.A.mark (S (.ref ea)),calm:=false,xe:=λz z=>False} (hst0::kr) th)
   (hie:X.N[ie]?=S en:=by rfl) (hle:X.env.scope.names.lookup en=S .local:=by rfl)
   (hst:X.stack=X.env::X.outer:=by rfl) (hex:X.ex=[]:=by rfl) (hfr:X.env.frame=S X.env.locals:=by rfl) (hK:X.K=KK:=by rfl) (hm:X.mg=mg:=by rfl) (hNN:X.N.length=NN:=by rfl)
   (hdt:(tn==("__debug__":Str))=false:=by left) :
   SS X (.Try body [.ExceptHandler (S (.Name tn np)) (S en) (hst0::kr) hp] [] [] pos) (Iv KK mg T NN ie tbb th):=by
 subst hK hm hNN
 #⟨FE hst hex hfr hN hie hle cT hg (λW pn Ex Eb=>(hb W pn Ex Eb).h) (λea=>(hh ea).h) hdt⟩
def zf {a b c:Expr}{ta tb tc:TE}{op Kk:CmpOp}{r r':R2}(ho:SO X (compareOp op) r)(ho':SO X (compareOp Kk) r')(ha:SE X a ta)(hb:SE X b tb)(hc:SE X c tc)(hm:lastMarks [op,Kk] [b,c]=false:=by with_unfolding_all rfl):SE X (.Compare a [op,Kk] [b,c] pos) (Cm r r' ta tb tc):=⟨Ba ho.h ho'.h ha.h hb.h hc.h hm⟩
end
end L3
namespace L2
open PySem PySem.Spec PyProof.Rows SeqAt
end L2
namespace L3
open PySem PySem.Spec PyProof.Rows L2
end L3
namespace PySem
open Sem (wp)
abbrev d7 (h:Heap)(T:J)(a b c:Value):Prop:=h.get? T=S {cls:=.type "tuple",data:=.seq #[a,b,c]}
def F.nH (a b c:Value):checkTypeCall "zip" ⟨[a,b,c],[]⟩=pure ():=by kernel_rfl
def F.pM (a b c:Value):checkBuiltinCall "zip.__new__" ⟨[.type "zip",a,b,c],[]⟩=pure ():=by kernel_rfl
def F.sQ (a b c d:Value):argsOk "object.__init__" ⟨[a,b,c,d],[]⟩:=by
 unfold argsOk;rw[signature?_of (id:="object.__init__") (n:=['_','_','t','i','n','i','_','_']) (o:=['t','c','e','j','b','o']) (by kernel_rfl) F.owner_object];kernel_rfl
structure Z3 (h:Heap)(n l1 l2 l3:J)(i:Nat):Prop where
 z:IsZip h (n+5) (n+3) (n+4) .none
 ti:d7 h (n+3) (.ref n) (.ref (n+1)) (.ref (n+2))
 to:∃a b c,d7 h (n+4) a b c
 i1:h.IsListIter n l1 i
 i2:h.IsListIter (n+1) l2 i
 i3:h.IsListIter (n+2) l3 i
section
variable{prog:Program}{w:World}{A:Around}{E:Value->Shared->Prop}{s:Shared}{n l1 l2 l3:Nat}{i:Nat}{xs ys zs:Array Value}{x y u:Value}
def qi {T:J}{a b c v:Value}{k:Nat}{Q:Unit->Shared->Prop}(hT:d7 s.heap T a b c)
   (h:∀g,g.get? T=S {cls:=.type "tuple",data:=.seq ((#[a,b,c]:Array Value).setIfInBounds k v)}->ae7 T s.heap g->Q () {s with heap:=g}):wpAny (model prog w) A (updateSeq T (·.setIfInBounds k v)) Q E s:=by
 #wpAny_updateSeq hT rfl (h _ ?_ (afO ..))
 rw[agF _ hT rfl]
 simp[agM]
def yG {Q:Value->Shared->Prop}(n1:l1<n)(n2:l2<n)(n3:l3<n)(Z8:Z3 s.heap n l1 l2 l3 i)(h1:s.heap.IsList l1 xs)(h2:s.heap.IsList l2 ys)(h3:s.heap.IsList l3 zs)(hx:xs[i]?=S x)(hy:ys[i]?=S y)(hu:zs[i]?=S u)
   (hQ:∀g,IsZip g (n+5) (n+3) (n+4) (rawInt s.heap.objs.size)->d7 g (n+4) x y u->g.IsListIter n l1 (i+1)->g.IsListIter (n+1) l2 (i+1)->g.IsListIter (n+2) l3 (i+1)->d7 g s.heap.objs.size x y u ->
     (∀c o,c∉([n+5,n+4,n,n+1,n+2]:O J)->s.heap.get? c=S o->g.get? c=S o)->Q (.ref s.heap.objs.size) {s with heap:=g}) :
   wpAny (model prog w) A (Builtin.«zip.__next__» ⟨[.ref (n+5)],[]⟩) (λfin s'=>∃v,fin=.done (.ret v)/\Q v s') E s:=by
 @⟨zr,ti,⟨a,b,c,to⟩,j1,j2,j3⟩:=Z8
 change wpAny _ _ (field (.ref (n+5)) 2>>=_) _ _ _
 #wpAny_bind (wpAny_field zr rfl (x:=.bool false) rfl ?_)
 change wpAny _ _ (field (.ref (n+5)) 3>>=_) _ _ _
 #wpAny_bind (wpAny_field zr rfl (x:=.ref (n+3)) rfl ?_)
 #wpAny_bind (wpAny_seqItems ti rfl ?_)
 change wpAny _ _ (aex (.ref (n+5))>>=_) _ _ _
 #wpAny_bind ?_
 unfold aex
 #wpAny_bind (wpAny_field zr rfl (x:=.none) rfl (wpAny_pure ?_))
 simp only[if_true]
 #wpAny_bind (wpAny_rule ?_)
 #wpAny_bind (wpAny_field zr rfl (x:=.ref (n+4)) rfl ?_)
 #wpAny_bind (wpAny_setField_rec zr (by simp) λg1 LX e1=>?_)
 replace LX:IsZip g1 (n+5) (n+3) (n+4) .ellipsis:=LX
 #wpAny_bind ?_
 simp only[List.zipIdx_cons,List.zipIdx_nil,af7,agP]
 #wpAny_bind (wpAny_bind (wpAny_onRaise ?_))
 change wpAny _ _ (aeL (.ref n)>>=_) _ _ _
 #wpAny_bind (wpAny_nextOf_list_item (j1.extBut e1.extBut (show @Ne Nat _ _ by lia)) (h1.extBut e1.extBut (show @Ne Nat _ _ by lia)) hx λg2 k1 e2=>wpAny_pure ?_)
 !t2:d7 g2 (n+4) a b c:=e2.extBut _ _ (show @Ne Nat _ _ by lia) (e1.extBut _ _ (show @Ne Nat _ _ by lia) to)
 #wpAny_bind (wpAny_seqItems t2 rfl ?_)
 #wpAny_bind (qi t2 λg3 t3 e3=>?_)
 replace t3:d7 g3 (n+4) x b c:=t3
 #wpAny_bind (wpAny_letGo (wpAny_pure ?_))
 !c3:∀d o,d≠n+5->d≠n+4->d≠n->s.heap.get? d=S o->g3.get? d=S o:=λd o d1 d2 d3 e=>e3.extBut _ _ d2 (e2.extBut _ _ d3 (e1.extBut _ _ d1 e))
 #wpAny_bind (wpAny_bind (wpAny_onRaise ?_))
 change wpAny _ _ (aeL (.ref (n+1))>>=_) _ _ _
 #wpAny_bind (wpAny_nextOf_list_item (j2.at λo e=>c3 _ o (show @Ne Nat _ _ by lia) (show @Ne Nat _ _ by lia) (show @Ne Nat _ _ by lia) e) (h2.at λo e=>c3 _ o (show @Ne Nat _ _ by lia) (show @Ne Nat _ _ by lia) (show @Ne Nat _ _ by lia) e) hy λg4 k2 e4=>wpAny_pure ?_)
 !t4:d7 g4 (n+4) x b c:=e4.extBut _ _ (show @Ne Nat _ _ by lia) t3
 #wpAny_bind (wpAny_seqItems t4 rfl ?_)
 #wpAny_bind (qi t4 λg5 t5 e5=>?_)
 replace t5:d7 g5 (n+4) x y c:=t5
 #wpAny_bind (wpAny_letGo (wpAny_pure ?_))
 !c5:∀d o,d≠n+5->d≠n+4->d≠n->d≠n+1->s.heap.get? d=S o->g5.get? d=S o:=λd o d1 d2 d3 d4 e=>e5.extBut _ _ d2 (e4.extBut _ _ d4 (c3 d o d1 d2 d3 e))
 #wpAny_bind (wpAny_bind (wpAny_onRaise ?_))
 change wpAny _ _ (aeL (.ref (n+2))>>=_) _ _ _
 #wpAny_bind (wpAny_nextOf_list_item (j3.at λo e=>c5 _ o (show @Ne Nat _ _ by lia) (show @Ne Nat _ _ by lia) (show @Ne Nat _ _ by lia) (show @Ne Nat _ _ by lia) e) (h3.at λo e=>c5 _ o (show @Ne Nat _ _ by lia) (show @Ne Nat _ _ by lia) (show @Ne Nat _ _ by lia) (show @Ne Nat _ _ by lia) e) hu λg6 k3 e6=>wpAny_pure ?_)
 !t6:d7 g6 (n+4) x y c:=e6.extBut _ _ (show @Ne Nat _ _ by lia) t5
 #wpAny_bind (wpAny_seqItems t6 rfl ?_)
 #wpAny_bind (qi t6 λg7 t7 e7=>?_)
 replace t7:d7 g7 (n+4) x y u:=t7
 #wpAny_bind (wpAny_letGo (wpAny_pure (wpAny_pure ?_)))
 #wpAny_bind (wpAny_seqItems t7 rfl ?_)
 #wpAny_bind (wpAny_newTuple ?_)
 !sz:g7.objs.size=s.heap.objs.size:=by rw[e7.1,e6.1,e5.1,e4.1,e3.1,e2.1,e1.1]
 !X9:IsZip g7 (n+5) (n+3) (n+4) .ellipsis:=e7.extBut _ _ (show @Ne Nat _ _ by lia) (e6.extBut _ _ (show @Ne Nat _ _ by lia) (e5.extBut _ _ (show @Ne Nat _ _ by lia) (e4.extBut _ _ (show @Ne Nat _ _ by lia) (e3.extBut _ _ (show @Ne Nat _ _ by lia) (e2.extBut _ _ (show @Ne Nat _ _ by lia) LX)))))
 !c7:∀d o,d≠n+5->d≠n+4->d≠n->d≠n+1->d≠n+2->s.heap.get? d=S o->g7.get? d=S o:=λd o d1 d2 d3 d4 d5 e=>e7.extBut _ _ d2 (e6.extBut _ _ d5 (c5 d o d1 d2 d3 d4 e))
 !m1:g7.IsListIter n l1 (i+1):=k1.at λo e=>e7.extBut _ _ (show @Ne Nat _ _ by lia) (e6.extBut _ _ (show @Ne Nat _ _ by lia) (e5.extBut _ _ (show @Ne Nat _ _ by lia) (e4.extBut _ _ (show @Ne Nat _ _ by lia) (e3.extBut _ _ (show @Ne Nat _ _ by lia) e))))
 !m2:g7.IsListIter (n+1) l2 (i+1):=k2.at λo e=>e7.extBut _ _ (show @Ne Nat _ _ by lia) (e6.extBut _ _ (show @Ne Nat _ _ by lia) (e5.extBut _ _ (show @Ne Nat _ _ by lia) e))
 !m3:g7.IsListIter (n+2) l3 (i+1):=k3.at λo e=>e7.extBut _ _ (show @Ne Nat _ _ by lia) e
 !X7:n+5<g7.objs.size:=aee X9
 change wpAny _ _ (agb (.ref (n+5)) (.ref g7.objs.size)>>=_) _ _ _
 #wpAny_bind ?_
 unfold agb
 !zr8:IsZip (g7.push {cls:=.type "tuple",data:=.seq #[x,y,u]}) (n+5) (n+3) (n+4) .ellipsis:=ad6 _ X9
 #wpAny_bind (wpAny_setField_rec zr8 (by simp) λg9 VT e9=>?_)
 replace VT:IsZip g9 (n+5) (n+3) (n+4) (rawInt g7.objs.size):=VT
 #wpAny_setField_rec VT (by simp) λgA RD eA=>?_
 replace RD:IsZip gA (n+5) (n+3) (n+4) (rawInt g7.objs.size):=RD
 !up:∀d o,d≠n+5->g7.get? d=S o->gA.get? d=S o:=λd o d1 e=>eA.extBut _ _ d1 (e9.extBut _ _ d1 (ad6 _ e))
 !tA:d7 gA g7.objs.size x y u:=eA.extBut _ _ (agg X7) (e9.extBut _ _ (agg X7) (aeq _ rfl))
 rw[sz]at RD tA
 #wpAny_pure (af U ?_)
 change Q (.ref g7.objs.size) _
 rw[sz]
 #hQ gA RD (up _ _ (show @Ne Nat _ _ by lia) t7) (m1.at λo e=>up _ o (show @Ne Nat _ _ by lia) e) (m2.at λo e=>up _ o (show @Ne Nat _ _ by lia) e) (m3.at λo e=>up _ o (show @Ne Nat _ _ by lia) e) tA λd o hd e=>?_
 simp only[aew,aep,or_false,not_or]at hd
 #up d o hd.1 (c7 d o hd.1 hd.2.1 hd.2.2.1 hd.2.2.2.1 hd.2.2.2.2 e)
def CQ {Q:Fin->Shared->Prop}(hh:A.handled=Z)(n1:l1<n)(Z8:Z3 s.heap n l1 l2 l3 i)(h1:s.heap.IsList l1 xs)(hx:xs[i]?=Z)
   (hE:∀g e,(∀c o,c∉([n+5,n+4,n,n+1,n+2]:O J)->s.heap.get? c=S o->g.get? c=S o)->(∃o,g.get? e=S o/\o.cls=.type "StopIteration")->E (.ref e) {s with heap:=g}) :
   wpAny (model prog w) A (Builtin.«zip.__next__» ⟨[.ref (n+5)],[]⟩) Q E s:=by
 @⟨zr,ti,⟨a,b,c,to⟩,j1,j2,j3⟩:=Z8
 change wpAny _ _ (field (.ref (n+5)) 2>>=_) _ _ _
 #wpAny_bind (wpAny_field zr rfl (x:=.bool false) rfl ?_)
 change wpAny _ _ (field (.ref (n+5)) 3>>=_) _ _ _
 #wpAny_bind (wpAny_field zr rfl (x:=.ref (n+3)) rfl ?_)
 #wpAny_bind (wpAny_seqItems ti rfl ?_)
 change wpAny _ _ (aex (.ref (n+5))>>=_) _ _ _
 #wpAny_bind ?_
 unfold aex
 #wpAny_bind (wpAny_field zr rfl (x:=.none) rfl (wpAny_pure ?_))
 simp only[if_true]
 #wpAny_bind (wpAny_rule ?_)
 #wpAny_bind (wpAny_field zr rfl (x:=.ref (n+4)) rfl ?_)
 #wpAny_bind (wpAny_setField_rec zr (by simp) λg1 LX e1=>?_)
 replace LX:IsZip g1 (n+5) (n+3) (n+4) .ellipsis:=LX
 #wpAny_bind ?_
 simp only[List.zipIdx_cons,List.zipIdx_nil,af7,agP]
 #wpAny_bind (wpAny_bind (wpAny_onRaise ?_))
 change wpAny _ _ (aeL (.ref n)>>=_) _ _ _
 #wpAny_bind (wpAny_nextOf_list_end hh (j1.extBut e1.extBut (show @Ne Nat _ _ by lia)) (h1.extBut e1.extBut (show @Ne Nat _ _ by lia)) hx λg2 e e2 he=>?_)
 @⟨oe,TZ,rZ⟩:=he
 !X8:IsZip g2 (n+5) (n+3) (n+4) .ellipsis:=e2 _ _ (show @Ne Nat _ _ by lia) LX
 !hez:e≠n+5:=λq=>by subst q;rw[X8]at TZ;cases TZ;simp at rZ
 #wpAny_setField_rec X8 (by simp) λg3 z e3=>hE g3 e (λd o hd q=>?_) ⟨oe,e3.extBut _ _ hez TZ,rZ⟩
 simp only[aew,aep,or_false,not_or]at hd
 #e3.extBut _ _ hd.1 (e2 _ _ hd.2.2.1 (e1.extBut _ _ hd.1 q))
end
abbrev uY (h:Heap)(l1 l2 l3:J):Heap:=((h.push {cls:=.type "list_iterator",data:=.fields #[.ref l1,.int 0 0]}).push {cls:=.type "list_iterator",data:=.fields #[.ref l2,.int 0 0]}).push {cls:=.type "list_iterator",data:=.fields #[.ref l3,.int 0 0]}
abbrev X6 (h:Heap)(l1 l2 l3:J):Heap:=(((uY h l1 l2 l3).push {cls:=.type "tuple",data:=.seq #[.ref h.objs.size,.ref (h.objs.size+1),.ref (h.objs.size+2)]}).push {cls:=.type "tuple",data:=.seq #[.none,.none,.none]}).push
 {cls:=.type "zip",data:=.fields #[.none,.bool false,.bool false,.ref (h.objs.size+3),.ref (h.objs.size+4)]}
def ua (l1 l2 l3:J)(xs ys zs:Array Value) :
   Meets (Builtin.«zip.__new__» ⟨[.type "zip",.ref l1,.ref l2,.ref l3],[]⟩) (λz R s=>s.heap.IsList l1 xs/\s.heap.IsList l2 ys/\s.heap.IsList l3 zs/\R (.ok (.ret (.ref (s.heap.objs.size+5)))) {s with heap:=X6 s.heap l1 l2 l3}):=
 .of_wp λprog w A R s h=>by
   @⟨hp,g,d,tk,os⟩:=s;@⟨q1,q2,q3,h⟩:=h
   !aaQ:=sub_zip
   !L1:Heap.IsList (ah9 ⟨hp,g,d,tk,os⟩) l1 xs:=q1
   !L2:Heap.IsList (ah9 ⟨hp.push {cls:=.type "list_iterator",data:=.fields #[.ref l1,.int 0 0]},g,d,tk,os⟩) l2 ys:=agQ q2 _
   !L3:Heap.IsList (ah9 ⟨(hp.push {cls:=.type "list_iterator",data:=.fields #[.ref l1,.int 0 0]}).push {cls:=.type "list_iterator",data:=.fields #[.ref l2,.int 0 0]},g,d,tk,os⟩) l3 zs:=agQ (agQ q3 _) _
   wp_walk using wpAny_pyIter_list L1,wpAny_pyIter_list L2,wpAny_pyIter_list L3
   #af U ?_
   simp only[afo]at h ⊢
   #h
end PySem
namespace PySem
section
variable{prog:Program}{w:World}{A:Around}{E:Value->Shared->Prop}{s:Shared}
def wM {l1 l2 l3:Nat}{xs ys zs:Array Value}{Q:Value->Shared->Prop}(q1:s.heap.IsList l1 xs)(q2:s.heap.IsList l2 ys)(q3:s.heap.IsList l3 zs)
   (h:∀g,Z3 g s.heap.objs.size l1 l2 l3 0->(∀c o,s.heap.get? c=S o->g.get? c=S o)->Q (.ref (s.heap.objs.size+5)) {s with heap:=g}) :
   wpAny (model prog w) A (call (.type "zip") [.ref l1,.ref l2,.ref l3]) Q E s:=by
 #callType_new F.called_zip (by left) (F.nH _ _ _) (F.pM _ _ _) (λobj=>F.sQ obj _ _ _) F.entry_zip_new (ua l1 l2 l3 xs ys zs) ⟨q1,q2,q3,?_⟩
 !e0:∀(h:Heap) (o:Obj),o.isFreed=false->(h.push o).get? h.objs.size=S o:=λh o f=>aeq h f
 !z1:(s.heap.push {cls:=.type "list_iterator",data:=.fields #[.ref l1,.int 0 0]}).objs.size=s.heap.objs.size+1:=afo ..
 !z2:((s.heap.push {cls:=.type "list_iterator",data:=.fields #[.ref l1,.int 0 0]}).push {cls:=.type "list_iterator",data:=.fields #[.ref l2,.int 0 0]}).objs.size=s.heap.objs.size+2:=by rw[afo,z1]
 !z3:(uY s.heap l1 l2 l3).objs.size=s.heap.objs.size+3:=by rw[afo,z2]
 !z4:((uY s.heap l1 l2 l3).push {cls:=.type "tuple",data:=.seq #[.ref s.heap.objs.size,.ref (s.heap.objs.size+1),.ref (s.heap.objs.size+2)]}).objs.size=s.heap.objs.size+4:=by rw[afo,z3]
 !z5:(((uY s.heap l1 l2 l3).push {cls:=.type "tuple",data:=.seq #[.ref s.heap.objs.size,.ref (s.heap.objs.size+1),.ref (s.heap.objs.size+2)]}).push {cls:=.type "tuple",data:=.seq #[.none,.none,.none]}).objs.size=s.heap.objs.size+5:=by rw[afo,z4]
 !up:∀{h:Heap} {c:J} {o o':Obj},h.get? c=S o->(h.push o').get? c=S o:=λe=>ad6 _ e
 !g1:=up (o':={cls:=.type "zip",data:=.fields #[.none,.bool false,.bool false,.ref (s.heap.objs.size+3),.ref (s.heap.objs.size+4)]}) (up (o':={cls:=.type "tuple",data:=.seq #[.none,.none,.none]}) (up (o':={cls:=.type "tuple",data:=.seq #[.ref s.heap.objs.size,.ref (s.heap.objs.size+1),.ref (s.heap.objs.size+2)]}) (up (o':={cls:=.type "list_iterator",data:=.fields #[.ref l3,.int 0 0]}) (up (o':={cls:=.type "list_iterator",data:=.fields #[.ref l2,.int 0 0]}) (e0 s.heap {cls:=.type "list_iterator",data:=.fields #[.ref l1,.int 0 0]} rfl)))))
 !g2:=up (o':={cls:=.type "zip",data:=.fields #[.none,.bool false,.bool false,.ref (s.heap.objs.size+3),.ref (s.heap.objs.size+4)]}) (up (o':={cls:=.type "tuple",data:=.seq #[.none,.none,.none]}) (up (o':={cls:=.type "tuple",data:=.seq #[.ref s.heap.objs.size,.ref (s.heap.objs.size+1),.ref (s.heap.objs.size+2)]}) (up (o':={cls:=.type "list_iterator",data:=.fields #[.ref l3,.int 0 0]}) (e0 (s.heap.push {cls:=.type "list_iterator",data:=.fields #[.ref l1,.int 0 0]}) {cls:=.type "list_iterator",data:=.fields #[.ref l2,.int 0 0]} rfl))))
 !g3:=up (o':={cls:=.type "zip",data:=.fields #[.none,.bool false,.bool false,.ref (s.heap.objs.size+3),.ref (s.heap.objs.size+4)]}) (up (o':={cls:=.type "tuple",data:=.seq #[.none,.none,.none]}) (up (o':={cls:=.type "tuple",data:=.seq #[.ref s.heap.objs.size,.ref (s.heap.objs.size+1),.ref (s.heap.objs.size+2)]}) (e0 ((s.heap.push {cls:=.type "list_iterator",data:=.fields #[.ref l1,.int 0 0]}).push {cls:=.type "list_iterator",data:=.fields #[.ref l2,.int 0 0]}) {cls:=.type "list_iterator",data:=.fields #[.ref l3,.int 0 0]} rfl)))
 !g4:=up (o':={cls:=.type "zip",data:=.fields #[.none,.bool false,.bool false,.ref (s.heap.objs.size+3),.ref (s.heap.objs.size+4)]}) (up (o':={cls:=.type "tuple",data:=.seq #[.none,.none,.none]}) (e0 (uY s.heap l1 l2 l3) {cls:=.type "tuple",data:=.seq #[.ref s.heap.objs.size,.ref (s.heap.objs.size+1),.ref (s.heap.objs.size+2)]} rfl))
 !g5:=up (o':={cls:=.type "zip",data:=.fields #[.none,.bool false,.bool false,.ref (s.heap.objs.size+3),.ref (s.heap.objs.size+4)]}) (e0 ((uY s.heap l1 l2 l3).push {cls:=.type "tuple",data:=.seq #[.ref s.heap.objs.size,.ref (s.heap.objs.size+1),.ref (s.heap.objs.size+2)]}) {cls:=.type "tuple",data:=.seq #[.none,.none,.none]} rfl)
 !g6:=e0 (((uY s.heap l1 l2 l3).push {cls:=.type "tuple",data:=.seq #[.ref s.heap.objs.size,.ref (s.heap.objs.size+1),.ref (s.heap.objs.size+2)]}).push {cls:=.type "tuple",data:=.seq #[.none,.none,.none]}) {cls:=.type "zip",data:=.fields #[.none,.bool false,.bool false,.ref (s.heap.objs.size+3),.ref (s.heap.objs.size+4)]} rfl
 rw[z1]at g2
 rw[z2]at g3
 rw[z3]at g4
 rw[z4]at g5
 rw[z5]at g6
 #⟨⟨_,g6,U⟩,h (X6 s.heap l1 l2 l3) ⟨g6,g4,⟨_,_,_,g5⟩,⟨_,g1,U,U⟩,⟨_,g2,U,U⟩,⟨_,g3,U,U⟩⟩ λc o e=>up (up (up (up (up (up e)))))⟩
end
end PySem
namespace L2
open PySem PySem.Spec PyProof.Rows
def sH (K:ad2)(a b c:J):It:=
 ⟨λi H=>∃xs ys zs x y u,aB K H a xs/\aB K H b ys/\aB K H c zs/\xs[i]?=S x/\ys[i]?=S y/\zs[i]?=S u,
  λi H v H'=>∃p x y u,H p=Z/\v=.ref p/\H'=upd H p (.tup [x,y,u])/\∀xs ys zs,aB K H a xs->aB K H b ys->aB K H c zs->xs[i]?=S x/\ys[i]?=S y/\zs[i]?=S u,
  λi H=>∃xs,aB K H a xs/\xs~<=i⟩
def yE {P:Program}{w:World}{K:ad2}{elts:O Expr}{x1:Nat}{tp:Pos}{a b c n:Nat}(na:a<n)(nb:b<n)(nc:c<n) :
   Turn P w K (.Tuple elts x1 tp) (sH K a b c) [n+5,n+3,n+4,n,n+1,n+2] (n+5) (λi h=>Z3 h n a b c i) where
 mem:=by simp
 obj:=λi h st d hd=>by
   @⟨zr,ti,⟨x,y,u,to⟩,⟨o1,e1,c1,d1⟩,⟨o2,e2,c2,d2⟩,⟨o3,e3,c3,d3⟩⟩:=st
   simp only[aew,aep,or_false]at hd
   rcases hd with rfl|rfl|rfl|rfl|rfl|rfl
   . #⟨_,zr,λv q=>nomatch q⟩
   . #⟨_,ti,λv q=>nomatch q⟩
   . #⟨_,to,λv q=>nomatch q⟩
   . #⟨_,e1,λv q=>by rw[d1]at q;cases q⟩
   . #⟨_,e2,λv q=>by rw[d2]at q;cases q⟩
   . #⟨_,e3,λv q=>by rw[d3]at q;cases q⟩
 keep:=λi h h' st k=>by
   @⟨zr,ti,⟨x,y,u,to⟩,h1,h2,h3⟩:=st
   #⟨k _ (by simp) _ zr,k _ (by simp) _ ti,⟨x,y,u,k _ (by simp) _ to⟩,h1.at λo e=>k _ (by simp) o e,h2.at λo e=>k _ (by simp) o e,h3.at λo e=>k _ (by simp) o e⟩
 item:=by
   intro X hP hw hK hc i pins s σ H E I hf st hg
   subst hP hw hK
   @⟨xs,ys,zs,x,y,u,kq,qW,GK,hx,hy,hu⟩:=hg
   @⟨nD,oz,p1,_⟩:=I.list kq
   @⟨jD,yn,p2,_⟩:=I.list qW
   @⟨UG,Xq,p3,_⟩:=I.list GK
   @⟨ux,gx,rx⟩:=oz.get hx
   @⟨uy,gy,ry⟩:=yn.get hy
   @⟨uu,gu,ru⟩:=Xq.get hu
   !lt:∀d∈([n+5,n+3,n+4,n,n+1,n+2]:O J),d<s.heap.objs.size:=λd hd=>by
     !lz:=aee st.z
     simp only[aew,aep,or_false]at hd
     !lz' : @LT.lt Nat _ (n+5) s.heap.objs.size:=lz
     rcases hd with rfl|rfl|rfl|rfl|rfl|rfl<;>(show @LT.lt Nat _ _ _;lia)
   !hT:s.TypeIs (.ref (n+5)) "zip":=⟨_,st.z,rfl⟩
   unfold pyNext
   #wpAny_bind (wpAny_attempt (afr (name:=agI "__next__") hT F.slot_zip_next (wpAny_call_entry F.slot_zip_next hT F.entry_zip_next
     (yG na nb nc st p1.isList p2.isList p3.isList (x:=ux) (y:=uy) (u:=uu) (by simpa using gx) (by simpa using gy) (by simpa using gu) λg a1 a2 a3 a4 a5 a6 hk=>wpAny_pure ?_) (F.args_zip_next_1 _))))
   #af U (wpAny_letOwnedTupleGo_zip (s:={s with heap:=g}) a1 λg2 z2 e2=>?_)
   !n0:H s.heap.objs.size=Z:=I.hok.fresh (ad5 _)
   !kk:∀d o,d∉([n+5,n+4,n,n+1,n+2]:O J)->s.heap.get? d=S o->g2.get? d=S o:=λd o hd e=>e2.extBut _ _ (λz=>hd (by rw[z];simp)) (hk d o hd e)
   !t2:d7 g2 s.heap.objs.size ux uy uu:=e2.extBut _ _ (agg (lt _ (by simp))) a6
   !I1:Inv X pins σ (upd H s.heap.objs.size (.tup [x,y,u])) {s with heap:=g2,toks:=s.toks}:=I.many (ch:=[n+5,n+4,n,n+1,n+2]) (λd hd=>hf d (by simp only[aew,aep,or_false]at hd ⊢;rcases hd with r|r|r|r|r<;>simp[r])) kk (ad5 _)
     ⟨by change 3<=sizeLine;decide,[ux,uy,uu],.cons rx (.cons ry (.cons ru .nil)),_,t2,rfl,_,rfl⟩
   #⟨.ref s.heap.objs.size,_,I1,U,⟨_,x,y,u,n0,U,U,λIy Qr zs' q1 q2 q3=>?_⟩,?_,λd hd=>?_⟩
   . rw[I.fj q1 kq,I.fj q2 qW,I.fj q3 GK];#⟨hx,hy,hu⟩
   . #⟨z2,kk _ _ (by simp) st.ti,⟨_,_,_,e2.extBut _ _ (show @Ne Nat _ _ by lia) a2⟩,a3.at λo e=>e2.extBut _ _ (show @Ne Nat _ _ by lia) e,a4.at λo e=>e2.extBut _ _ (show @Ne Nat _ _ by lia) e,a5.at λo e=>e2.extBut _ _ (show @Ne Nat _ _ by lia) e⟩
   . rw[aj (aeA (lt d hd))]
     #(hf d hd).1
 done:=by
   intro X hP hw hK hc i pins s σ H E I hf st hg
   subst hP hw hK
   @⟨xs,kq,hend⟩:=hg
   @⟨nD,oz,p1,_⟩:=I.list kq
   !l1:=oz~
   !hT:s.TypeIs (.ref (n+5)) "zip":=⟨_,st.z,rfl⟩
   unfold pyNext
   #wpAny_bind (wpAny_attempt (afr (name:=agI "__next__") hT F.slot_zip_next (wpAny_call_entry F.slot_zip_next hT F.entry_zip_next (CQ (I.ok.hd hc) na st p1.isList (by simp;lia) λg e hk he=>?_) (F.args_zip_next_1 _))))
   @⟨o,ho,Dc⟩:=he
   #wpAny_bind (wpAny_isInstance (T:="StopIteration") (b:=true) ⟨o,ho,Dc⟩ isSubtype_stop (wpAny_pure ⟨U,?_⟩))
   #I.qZ (t':=s.toks) (ch:=[n+5,n+4,n,n+1,n+2]) (λd hd=>hf d (by simp only[aew,aep,or_false]at hd ⊢;rcases hd with r|r|r|r|r<;>simp[r])) hk
 self:=λt t t t t st h=>wpAny_pyIter_zip st.z h
def GU (K:ad2)(ta:TA):TI:=λσ H R=>ta σ H λvs H1=>∃a b c,vs=[.ref a,.ref b,.ref c]/\(∃xs,aB K H1 a xs)/\(∃ys,aB K H1 b ys)/\(∃zs,aB K H1 c zs)/\R (sH K a b c) H1
section
variable{X:Cx}
def Ft {a b c:Expr}{ta:TA}{p pos tp:Pos}{elts:O Expr}{x1:Nat}(hg:Gl X "zip")(hm:X.mg "zip"=Z)(ha:qt X [a,b,c] ta)(hv:aeT "zip"=S (.type "zip"):=by first|rfl|decide +kernel) :
   PI X (.Tuple elts x1 tp) (.Call (.Name "zip" p) [a,b,c] [] pos) (GU X.K ta):=by
 intro pins s σ H R I h
 #wpAny_Call_Name_kw (eS I hg hm hv ?_ (by left) (by left))
 #aez (bH (ha.pa pos pins s σ H _ I h) λus s1 h9=>?_) ((ha.ns a [b,c] rfl).1.h [b,c] X.env) ((ha.ns a [b,c] rfl).2 pos X.env)
 @⟨vs,H1,I1,r1,q1⟩:=h9
 @⟨l1,l2,l3,e,⟨xs,kq⟩,⟨ys,qW⟩,⟨zs,GK⟩,q⟩:=q1
 subst e
 cases r1 with
 | cons r1 r2=>
 cases r2 with
 | cons r2 r3=>
 cases r3 with
 | cons r3 r4=>
 cases r4
 cases r1
 cases r2
 cases r3
 @⟨nD,oz,p1,_⟩:=I1.list kq
 @⟨jD,yn,p2,_⟩:=I1.list qW
 @⟨UG,Xq,p3,_⟩:=I1.list GK
 !Oo:l1<s1.heap.objs.size:=by@⟨_,_,e,_⟩:=p1;#aee e
 !Oq:l2<s1.heap.objs.size:=by@⟨_,_,e,_⟩:=p2;#aee e
 !lt3:l3<s1.heap.objs.size:=by@⟨_,_,e,_⟩:=p3;#aee e
 #wM p1.isList p2.isList p3.isList λg st hk=>?_
 #wpAny_pyIter_zip st.z ?_
 !I2:Inv X pins σ H1 {s1 with heap:=g}:=I1.kept (t':=s1.toks) hk
 #⟨_,_,_,_,H1,U,I2,yE Oo Oq lt3,st,λc hc=>?_,q⟩
 simp only[aew,aep,or_false]at hc
 !up:∀k,eV X pins H1 (s1.heap.objs.size+k):=λk=>I1.nq (aff _ _) (I1.hok.fresh (aff _ _))
 rcases hc with rfl|rfl|rfl|rfl|rfl|rfl
 . #up 5
 . #up 3
 . #up 4
 . #up 0
 . #up 1
 . #up 2
end
def wW {K:ad2}{a b c:J}{xs ys zs:O V}{g:TG}{tifs:TT}{tm:TM}{σ0:St}{Z8:Hp->Prop}{H:Hp}(l1:ys~=xs~)(l2:zs~=xs~)(Pv:Nat->Hp->Prop)(h0:Pv 0 H)(hl:∀i H,i<=xs~->Pv i H->aB K H a xs/\aB K H b ys/\aB K H c zs)
   (turn:∀i x y u p H,xs[i]?=S x->ys[i]?=S y->zs[i]?=S u->Pv i H->H p=Z->g (.ref p) σ0 (upd H p (.tup [x,y,u])) λσ2 H2=>tifs σ2 H2 λb H3=>
     if b=true then tm σ2 H3 λH4=>bt σ0 σ2/\∃m',m'<xs~-i/\(m'=xs~-(i+1)/\i+1<=xs~/\Pv (i+1) H4)else bt σ0 σ2/\∃m',m'<xs~-i/\(m'=xs~-(i+1)/\i+1<=xs~/\Pv (i+1) H3))
   (hZ:∀H,Pv xs~ H->Z8 H):hU (sH K a b c) σ0 g tifs tm Z8 H:=by
 #iJ xs~ Pv h0 (λi H hi p=>?_) (λH p=>⟨xs,(hl _ H (ad5 _) p).1,ad5 _⟩) (λi H hi p x H' y=>?_) hZ
 . @⟨q1,q2,q3⟩:=hl i H (aeY hi) p
   #⟨xs,ys,zs,xs[i],ys[i]'(l1▸hi),zs[i]'(l2▸hi),q1,q2,q3,by simp[hi],by simp[l1,hi],by simp[l2,hi]⟩
 . @⟨q1,q2,q3⟩:=hl i H (aeY hi) p
   @⟨pp,x1,y1,u1,hn,rfl,rfl,k⟩:=y
   @⟨k1,k2,k3⟩:=k xs ys zs q1 q2 q3
   #turn i x1 y1 u1 pp H k1 k2 k3 p hn
end L2
namespace L3
open PySem PySem.Spec PyProof.Rows L2
def UE {X:Cx}{a b c:Expr}{t:TA}{KK:ad2}{p pos tp:Pos}{elts:O Expr}{x1:Nat}(hg:Gl X "zip")(hm:X.mg "zip"=Z)(ha:SA X [a,b,c] t)(hK:X.K=KK:=by first|show L3.bM|show L3.ba|rfl) :
   SI X (.Tuple elts x1 tp) (.Call (.Name "zip" p) [a,b,c] [] pos) (GU KK t):=by
 subst hK
 #⟨Ft hg hm ha.h⟩
end L3
namespace L2
open PySem PySem.Spec PyProof.Rows
def LZ (K:ad2)(a:J):It:=
 ⟨λi H=>∃xs x,aB K H a xs/\xs[i]?=S x,
  λi H v H'=>∃p x,H p=Z/\v=.ref p/\H'=upd H p (.tup [.int (i:Nat),x])/\∀xs,aB K H a xs->xs[i]?=S x,
  λi H=>∃xs,aB K H a xs/\xs~<=i⟩
def yC {P:Program}{w:World}{K:ad2}{elts:O Expr}{x1:Nat}{tp:Pos}{a n:J} :
   Turn P w K (.Tuple elts x1 tp) (LZ K a) [n+1,n] (n+1) (λi h=>(∃old,IsEnum h (n+1) n (i:Nat) old)/\h.IsListIter n a i) where
 mem:=by simp
 obj:=λi h st d hd=>by
   @⟨⟨old,he⟩,⟨o1,e1,c1,d1⟩⟩:=st
   simp only[aew,aep,or_false]at hd
   rcases hd with rfl|rfl
   . #⟨_,he,λv q=>nomatch q⟩
   . #⟨_,e1,λv q=>by rw[d1]at q;cases q⟩
 keep:=λi h h' st k=>by
   @⟨⟨old,he⟩,h1⟩:=st
   #⟨⟨old,k _ (by simp) _ he⟩,h1.at λo e=>k _ (by simp) o e⟩
 item:=by
   intro X hP hw hK hc i pins s σ H E I hf st hg
   subst hP hw hK
   @⟨xs,x,kq,hx⟩:=hg
   @⟨nD,oz,p1,_⟩:=I.list kq
   @⟨ux,gx,rx⟩:=oz.get hx
   @⟨⟨old,he⟩,h1⟩:=st
   !ne:(n+1:J)≠n:=Nat.succ_ne_self n
   #wpAny_pyNext_enum_item he h1 p1.isList (x:=ux) (by simpa using gx) ne λg a1 a2 a3 a4 hk=>?_
   #af U (wpAny_letOwnedTupleGo_enum (s:={s with heap:=g,toks:=s.toks+1}) a1 λg2 NF e2=>?_)
   !n0:H s.heap.objs.size=Z:=I.hok.fresh (ad5 _)
   !U1:n+1<s.heap.objs.size:=aee he
   !DF:ae7 (n+1) g g2:=e2
   !kk:∀d o,d∉([n+1,n]:O J)->s.heap.get? d=S o->g2.get? d=S o:=λd o hd e=>by
     simp only[aew,aep,or_false,not_or]at hd
     #DF.extBut _ _ hd.1 (hk d o hd.1 hd.2 e)
   !t2:IsPair g2 s.heap.objs.size (.int i s.toks) ux:=DF.extBut _ _ (agg U1) a3
   !I1:Inv X pins σ (upd H s.heap.objs.size (.tup [.int (i:Nat),x])) {s with heap:=g2,toks:=s.toks+1}:=I.many (ch:=[n+1,n]) hf kk (ad5 _)
     ⟨by change 2<=sizeLine;decide,[.int i s.toks,ux],.cons ⟨_,rfl⟩ (.cons rx .nil),_,t2,rfl,_,rfl⟩
   #⟨.ref s.heap.objs.size,_,I1,U,⟨_,x,n0,U,U,λIy q1=>?_⟩,⟨⟨_,by simpa using NF⟩,a2.at λo e=>DF.extBut _ _ ne.symm e⟩,λd hd=>?_⟩
   . rw[I.fj q1 kq];#hx
   . !lt:d<s.heap.objs.size:=by
       simp only[aew,aep,or_false]at hd
       rcases hd with rfl|rfl
       . #U1
       . #Nat.lt_of_succ_lt U1
     rw[aj (aeA lt)]
     #(hf d hd).1
 done:=by
   intro X hP hw hK hc i pins s σ H E I hf st hg
   subst hP hw hK
   @⟨xs,kq,hend⟩:=hg
   @⟨nD,oz,p1,_⟩:=I.list kq
   !l1:=oz~
   @⟨⟨old,he⟩,h1⟩:=st
   #wpAny_pyNext_enum_end (I.ok.hd hc) he h1 p1.isList (by simp;lia) λg hk=>⟨U,?_⟩
   #I.qZ (t':=s.toks) (ch:=[n]) (λd hd=>hf d (by rw[List.mem_singleton.mp hd];simp)) λd o hd e=>hk d o (λz=>hd (by rw[z];simp)) e
 self:=λy y y y y st h=>by
   @⟨⟨old,he⟩,_⟩:=st
   #wpAny_pyIter_enum he h
def Oe (K:ad2)(ta:TA):TI:=λσ H R=>ta σ H λvs H1=>∃a,vs=[.ref a]/\(∃xs,aB K H1 a xs)/\R (LZ K a) H1
def Fp {X:Cx}{a:Expr}{ta:TA}{p pos tp:Pos}{elts:O Expr}{x1:Nat}(hg:Gl X "enumerate")(hm:X.mg "enumerate"=Z)(ha:qt X [a] ta)(hv:aeT "enumerate"=S (.type "enumerate"):=by first|rfl|decide +kernel) :
   PI X (.Tuple elts x1 tp) (.Call (.Name "enumerate" p) [a] [] pos) (Oe X.K ta):=by
 intro pins s σ H R I h
 #wpAny_Call_Name_kw (eS I hg hm hv ?_ (by left) (by left))
 #aez (bH (ha.pa pos pins s σ H _ I h) λus s1 h9=>?_) ((ha.ns a [] rfl).1.h [] X.env) ((ha.ns a [] rfl).2 pos X.env)
 @⟨vs,H1,I1,r1,q1⟩:=h9
 @⟨l1,e,⟨xs,kq⟩,q⟩:=q1
 subst e
 cases r1 with
 | cons r1 r2=>
 cases r2
 cases r1
 @⟨nD,oz,p1,_⟩:=I1.list kq
 #call_enumerate_list p1.isList λg he hi z hk=>?_
 #wpAny_pyIter_enum he ?_
 !I2:Inv X pins σ H1 {s1 with heap:=g}:=I1.kept (t':=s1.toks) hk
 #⟨_,_,_,_,H1,U,I2,yC,⟨⟨_,he⟩,hi⟩,λc hc=>?_,q⟩
 simp only[aew,aep,or_false]at hc
 !up:∀k,eV X pins H1 (s1.heap.objs.size+k):=λk=>I1.nq (aff _ _) (I1.hok.fresh (aff _ _))
 rcases hc with rfl|rfl
 . #up 1
 . #up 0
section
variable{K:ad2}{a:J}{xs:O V}{g:TG}
def qM {tb:TS}{D:Ends}{σ:St}{H:Hp}(Pv:Nat->St->Hp->Prop)(h0:Pv 0 σ H)(hl:∀i σ H,i<=xs~->Pv i σ H->aB K H a xs)
   (hs:∀i x p σ H,xs[i]?=S x->Pv i σ H->H p=Z->g (.ref p) σ (upd H p (.tup [.int (i:Nat),x])) λσ2 H2=>tb {D with nx:=Pv (i+1),ct:=Pv (i+1),bk:=D.nx} σ2 H2) (hd:∀σ H,Pv xs~ σ H->D.nx σ H) :
   ∃W:Nat->Nat->St->Hp->Prop,(∃m,W 0 m σ H)/\∀i m σ H,W i m σ H ->
     ((LZ K a).stop i H/\D.nx σ H)\/((LZ K a).go i H/\∃N:St->Hp->Prop,(∀σ' H',N σ' H'->∃m',m'<m/\W (i+1) m' σ' H')/\∀x H',(LZ K a).yld i H x H'->g x σ H' λσ2 H2=>tb {D with nx:=N,ct:=N,bk:=D.nx} σ2 H2):=by
 #⟨λi m σ H=>m=xs~-i/\i<=xs~/\Pv i σ H,⟨xs~,by simp,aeG _,h0⟩,?_⟩
 rintro i m σ H ⟨rfl,hi,p⟩
 !q1:=hl i σ H hi p
 by_cases fS:i<xs~
 . #.inr ⟨⟨xs,xs[i],q1,by simp[fS]⟩,Pv (i+1),λσ' H' p'=>⟨xs~-(i+1),by lia,U,fS,p'⟩,λx H' y=>?_⟩
   @⟨pp,x1,hn,rfl,rfl,k⟩:=y
   #hs i x1 pp σ H (k xs q1) p hn
 . !e:i=xs~:=by lia
   subst e
   #.inl ⟨⟨xs,q1,ad5 _⟩,hd σ H p⟩
def wR {tifs:TT}{tm:TM}{σ0:St}{Z8:Hp->Prop}{H:Hp}(Pv:Nat->Hp->Prop)(h0:Pv 0 H)(hl:∀i H,i<=xs~->Pv i H->aB K H a xs)
   (turn:∀i x p H,xs[i]?=S x->Pv i H->H p=Z->g (.ref p) σ0 (upd H p (.tup [.int (i:Nat),x])) λσ2 H2=>tifs σ2 H2 λb H3=>
     if b=true then tm σ2 H3 λH4=>bt σ0 σ2/\∃m',m'<xs~-i/\(m'=xs~-(i+1)/\i+1<=xs~/\Pv (i+1) H4)else bt σ0 σ2/\∃m',m'<xs~-i/\(m'=xs~-(i+1)/\i+1<=xs~/\Pv (i+1) H3))
   (hZ:∀H,Pv xs~ H->Z8 H):hU (LZ K a) σ0 g tifs tm Z8 H:=by
 #iJ xs~ Pv h0 (λi H hi p=>⟨xs,xs[i],hl i H (aeY hi) p,by simp[hi]⟩) (λH p=>⟨xs,hl _ H (ad5 _) p,ad5 _⟩) (λi H hi p x H' y=>?_) hZ
 @⟨pp,x1,hn,rfl,rfl,k⟩:=y
 #turn i x1 pp H (k xs (hl i H (aeY hi) p)) p hn
end
end L2
namespace L3
open PySem PySem.Spec PyProof.Rows L2
def iE {X:Cx}{a:Expr}{t:TA}{KK:ad2}{p pos tp:Pos}{elts:O Expr}{x1:Nat}(hg:Gl X "enumerate")(hm:X.mg "enumerate"=Z)(ha:SA X [a] t)(hK:X.K=KK:=by first|show L3.bM|show L3.ba|rfl) :
   SI X (.Tuple elts x1 tp) (.Call (.Name "enumerate" p) [a] [] pos) (Oe KK t):=by
 subst hK
 #⟨Fp hg hm ha.h⟩
section
variable{X:Cx}{a o e:Expr}{es:O Expr}{ta tv:TE}{t:TA}{pos pos' apos:Pos}{f m:Str}
def fld {KK:ad2}(ha:SE X a ta)(hb:afd a f X.env (eval a X.env)=eval a X.env:=by rfl)(hK:X.K=KK:=by first|show L3.bM|show L3.ba|rfl):SE X (.Attribute a f pos) (Qb KK ta f):=by
 subst hK
 #⟨KQ ha.h hb⟩
def iX {KK:ad2}(ha:SE X a ta)(hv:SE X e tv)(hs:afy e (S (.Attribute a f pos')) pos.line X.env=pure false:=by rfl)(hK:X.K=KK:=by first|show L3.bM|show L3.ba|rfl):SS X (.Assign [.Attribute a f pos'] e pos) (PF KK ta tv f):=by
 subst hK
 #⟨Lc ha.h hv.h hs⟩
end
end L3
namespace TW
open PySem L2
def fY (P:Program)(w:World)(K:ad2)(mg:Str->Option Value)(base:Heap)(C:J)(m:Str)(ps:O Str)(k:Nat)(sp:Sp):Prop:=
 ∃f fd,aL P w K mg base cm k f fd ps sp/\Binds K fd ps []/\Meth K C m f
def m7 (P:Program)(w:World)(K:ad2)(mg:Str->Option Value)(base:Heap)(x:Str)(C:J)(ps:O Str)(k:Nat)(sp:Sp):Prop:=
 ∃f fd,aL P w K mg base cm k f fd ps sp/\Binds K fd ps []/\Mk K C f/\mg x=S (.ref C)
end TW
namespace L2
open PySem PySem.Spec PyProof.Rows
section
variable{X:Cx}
def El (ns:O Int)(k:Int):(firstMet (λi=>ns.getD i 0) ns~).any (·==k)=ns.contains k:=by
 rw[firstMet_any]
 !e:(aem ns~).map (λi=>ns.getD i 0)=ns:=by
   apply List.ext_getElem
   . simp
   . intro i h1 h2
     simp[ad9,h2]
 rw[e,afc,List.any_eq_true,afU]
 constructor
 . rintro⟨x,hx,e⟩
   rw[← beq_iff_eq.mp e]
   #hx
 . #λh=>⟨k,h,by simp⟩
def wL (hc:X.calm=true):fE X (.type "set") (λxs H Q=>∃(l:J) (ns:O Int),xs=[.ref l]/\aB X.K H l (ns.map V.int)/\ns~<4000/\∀z n,H z=Z->Q (.ref z) (upd H z (.set (λk=>ns.contains k) n))):=by
 intro pins s σ H xs us Q I r h
 @⟨l,ns,rfl,hq,hn,q⟩:=h
 @⟨u,rfl,ru⟩:=vals1 r
 obtain rfl:u=aen l:=ru
 @⟨its,rv,pl,_⟩:=I.list hq
 !hi:=intsAre_of rv
 !le:its~=ns~:=by !:=rv~;rw[ad1]at this;#this.symm
 #call_set_list (I.ok.hd hc) pl.isList (by simpa using hi) (by simp;change its~+1<4096;lia) λg tk so kp=>?_
 !so2:g.SetOf (intKind X.prog X.w) s.heap.objs.size (λk=>ns.contains k) _:=SetOf_congr so (λk=>by rw[show its.toArray.size=ns~ by simpa using le];#El ns k) rfl
 #⟨.ref s.heap.objs.size,_,I.laid (o:=.set (λk=>ns.contains k) (firstMet (λi=>ns.getD i 0) its.toArray.size)~) (λb o e=>kp b o (aee e) e) (ad5 _) so2,U,q _ _ (I.hok.fresh (ad5 _))⟩
def x8:jb X (compareOp .NotIn) (λx y H Q=>∃i a S8 n,x=.int i/\y=.ref a/\H a=S (.set S8 n)/\Q (.bl (!S8 i)) H):=by
 intro pins s σ H x y v u Q I rx ry h
 @⟨i,a,S8,n,rfl,rfl,ha,q⟩:=h
 @⟨t,rfl⟩:=(show ∃t,v=agl i t from rx)
 cases ry
 !so:s.heap.SetOf (intKind X.prog X.w) a S8 n:=I.hok a _ ha
 #wpAny_notInSet_of (knd:=intKind X.prog X.w) (intKind_is _ _ _ _) rfl so ⟨.bl _,H,I.tok _,U,q⟩
end
end L2
namespace L3
open PySem PySem.Spec PyProof.Rows L2
section
variable{X:Cx}{a o e:Expr}{es:O Expr}{ta tv:TE}{t:TA}{p pos pos' apos:Pos}{x m:Str}{C:J}{ps:O Str}{kk:Nat}{sp:Sp}
def M4 {KK:ad2}(hc:X.calm=true:=by rfl)(hK:X.K=KK:=by first|show L3.bM|show L3.ba|rfl):SC X (.type "set") (λxs H Q=>∃(l:J) (ns:O Int),xs=[.ref l]/\aB KK H l (ns.map V.int)/\ns~<4000/\∀z n,H z=Z->Q (.ref z) (upd H z (.set (λk=>ns.contains k) n))):=by
 subst hK
 #⟨wL hc⟩
def AJ:SO X (compareOp .NotIn) (λx y H Q=>∃i a S8 n,x=.int i/\y=.ref a/\H a=S (.set S8 n)/\Q (.bl (!S8 i)) H):=⟨x8⟩
def make (D:TW.m7 X.prog X.w X.K X.mg X.base x C ps kk sp)(hr:cG (kk+1) X.A)(hg:Gl X x)(ha:SA X (e::es) t)(hdb:(x==("__debug__":Str))=false:=by left):SE X (.Call (.Name x p) (e::es) [] pos) (Im C sp [] E0 t):=by
 @⟨_,_,G,b,M8,m⟩:=D
 #⟨Fg M8 G hr hg m b .nil rp ha.h.pa hdb ((ha.h.ns e es rfl).1.h es X.env) ((ha.h.ns e es rfl).2 pos X.env)⟩
def dq {pl:Sem Bool}(ho:SE X o ta)(c:lj X.K C)(D:TW.fY X.prog X.w X.K X.mg X.base C m ps kk sp)(hr:cG kk X.A)(ha:SA X (e::es) t)
   (ht:eval (.Call (.Attribute o m apos) (e::es) [] pos) X.env=(do
     let ov←eval o X.env
     standAt apos.atName
     let(f,first)←holding [ov] (getMethod ov m pl)
     callWith pos f first (backTo pos (starEach (e::es) X.env)) (backToKw pos (keywordEach [] X.env))):=by rfl):SE X (.Call (.Attribute o m apos) (e::es) [] pos) (wu C m sp [] E0 ta t):=by
 @⟨_,_,G,b,hm⟩:=D
 #⟨Fi ho.h c hm G hr b .nil rp ha.h.pa ((ha.h.ns e es rfl).1.h es X.env) ((ha.h.ns e es rfl).2 pos X.env) ht⟩
end
end L3
namespace L3
open PySem PySem.Spec PyProof.Rows L2
section
variable{X:Cx}{a b:Expr}{ta tb:TE}{pos:Pos}
def oZ (hu:X.A.units+1<cLine)(hi:SE X a ta)(ho:SE X b tb)(h1:afj .NotIn b=false:=by first|show my _ (by left) (by left)|rfl):ST X (.Compare a [.NotIn] [b] pos) (tB (wq ta tb)):=⟨Li (yc hu hi.h ho.h) h1⟩
end
end L3
namespace L2
open PySem PySem.Spec PyProof.Rows
section
variable{prog:Program}{w:World}{K:Type}[DecidableEq K]{knd:HeapKind prog w K}{A:Around}{E:Value->Shared->Prop}{s:Shared}
def kZ {d a:J}{xs:O (K×J×Value)}{k:K}{v:Value}{Q:Value->Shared->Prop}(hu:knd.room A)(hkey:knd.is s.heap k a)(hm:s.heap.DictOfH knd d xs)(hsz:xs~<=sizeLine)
   (h1:∀u,(atKey xs k).map (·.2)=S u->Q u {s with toks:=s.toks+knd.draws k})
   (h2:(atKey xs k).map (·.2)=Z->∀h',h'.DictOfH knd d (storedH xs k a v)->ae7 d s.heap h'->Q v {s with heap:=h',toks:=s.toks+knd.draws k}) :
   wpAny (model prog w) A (dictSetDefault d (.ref a) v) Q E s:=by
 @⟨o,es,ep,ho,hc,hd,he,his,hn⟩:=hm
 unfold dictSetDefault
 try with_reducible show wpAny_holding ?_
 #wpAny_bind (knd.pyHash hu hkey (wpAny_bind (wpAny_dictFind_heap (s:={s with toks:=s.toks+knd.draws k}) hu hkey ho hd he his hn (λqo=>?_) (λj p hj=>?_))))
 . !hk:atKey xs k=Z:=atKey_none_of_get qo
   !TL:k∉xs.map (·.1):=not_mem_keys_of_get qo
   !new:=storedH_new (a:=a) (v:=v) hk
   #wpAny_bind (wpAny_rule (wpAny_bind (wpAny_updateDictKeys (hz:=by !e:=size_of_entries he;lia) (s:={s with toks:=s.toks+knd.draws k}) ho hd (wpAny_pure (h2 (by rw[hk];rfl) _ ⟨_,_,ep+1,agF _ ho (Obj.isFreed_of_dict (Obj.data_mapDictKeys hd _)),hc.mapDictKeys _,Obj.data_mapDictKeys hd _,?_,λx hx=>?_,?_⟩ (afO ..))))))
   . rw[new]
     simp[he,entryOfKey]
   . rw[new]at hx
     rcases List.mem_append.mp hx with z|z
     . #knd.keeps (his x z) ho hd (afO ..)
     . rw[List.mem_singleton.mp z]
       #knd.keeps hkey ho hd (afO ..)
   . rw[new,aeb]
     #vH hn TL
 . #wpAny_bind (wpAny_dictEntries (s:={s with toks:=s.toks+knd.draws k}) ho hd ?_)
   rw[entry_at he j,hj]
   #wpAny_bind (wpAny_rule (wpAny_pure (h1 _ (by rw[atKey_of_get hn hj];rfl))))
end
section
variable{X:Cx}{pins:O (J×Obj)}{σ:St}{H:Hp}{s:Shared}{E:Value->Shared->Prop}
def M9 {d b:J}{kvs:O (O Key×V)}{k:O Key}{v:V}{r:Value}{Q:Value->Shared->Prop}(hu:X.A.units+1<cLine)(I:Inv X pins σ H s)(e:H d=S (.dT kvs))(eb:H b=S (.tup (k.map kV)))(l:kvs~<sizeLine)(rv:RelV v r)
   (h1:∀x,aY kvs k=S x->∀u s',Inv X pins σ H s'->RelV x u->Q u s') (h2:aY kvs k=Z->∀s',Inv X pins σ (upd H d (.dT (putK kvs k v))) s'->Q r s') :
   wpAny (model X.prog X.w) X.A (call (.builtin "dict.setdefault") [.ref d,.ref b,r]) Q E s:=by
 @⟨z,hd,xs,rel,dd⟩:=zv I.hok e
 !hz:xs~<=sizeLine:=by rw[← Paired.length rel];#z
 !M8:MeetsIn X.prog X.w (Builtin.«dict.setdefault» ⟨[.ref d,.ref b,r],[]⟩) (λB R s=>(tupleKind (bc X.prog X.w)).room B.in1/\(tupleKind (bc X.prog X.w)).is s.heap k b/\s.heap.DictOfH (tupleKind (bc X.prog X.w)) d xs /\
     (∀u,(atKey xs k).map (·.2)=S u->R (.ok (.ret u)) {s with toks:=s.toks+(tupleKind (bc X.prog X.w)).draws k}) /\
     ((atKey xs k).map (·.2)=Z->∀h',h'.DictOfH (tupleKind (bc X.prog X.w)) d (storedH xs k b r)->ae7 d s.heap h'->R (.ok (.ret r)) {s with heap:=h',toks:=s.toks+(tupleKind (bc X.prog X.w)).draws k})):=
   .of_wp λA R s ⟨hr,hk,hm,g1,g2⟩=>by
     unfold Builtin.«dict.setdefault»
     #wpAny_bind ?_
     unfold Builtin.Dict.keyAndDefault
     #wpAny_bind (wpAny_notOrdered_dict hm.typeIs ?_)
     change wpAny _ _ (pure (d,aen b,S r)) _ _ s
     #wpAny_pure ?_
     change wpAny _ _ (if(d==aft)=true then _ else(dictSetDefault d (.ref b) r>>=_)) _ _ s
     rw[aM (by rw[hd];#ael)]
     #wpAny_bind (kZ hr hk hm hz (λu hu=>wpAny_pure ⟨u,U,g1 u hu⟩) λhn h' D7 yP=>wpAny_pure ⟨r,U,g2 hn h' D7 yP⟩)
 !hl:(putK kvs k v)~<=sizeLine:=by !:=cj kvs k v;lia
 !val:=rel.val k
 #call_meetsIn ahi dd.typeIs PySem.F.entry_dict_setdefault (PySem.F.args_dict_setdefault_3 _ _ _) M8 ⟨tupleKind_room_in1 hu,iz I.hok eb,dd,λu WU=>?_,λhn h' oX hs=>?_⟩
 . cases hv:aY kvs k with
   | none=>rw[hv,WU]at val;#aw val (λz=>z)
   | some x=>rw[hv,WU]at val;#h1 x hv _ _ (I.tok _) val
 . !hv:aY kvs k=Z:=by
     cases hv:aY kvs k with
     | none=>rfl
     | some x=>rw[hv,hn]at val;#aw val (λz=>z)
   #h2 hv _ ?_
   @⟨q,es,ep,hq,g2,g3,g4,_,g5⟩:=oX
   #gN I (by rw[e];#aeh) hs ⟨q,hq⟩ ⟨hl,hd,_,(rel.put k eb rv).keeps λc ys ec=>?_,q,es,ep,hq,g2,g3,g4,g5⟩
   rw[aj (eJ ec e (λz=>nomatch z))]
   #ec
def Qa (td ty tx:TE):TE:=λσ H Q=>td σ H λx H1=>∃a,x=.ref a/\RJ H1 a/\ty σ H1 λy H2=>tx σ H2 λz H3=>∃kvs k b,y=.ref b/\H3 a=S (.dT kvs)/\H3 b=S (.tup (k.map kV))/\kvs~<sizeLine/\(∀v,aY kvs k=S v->Q v H3)/\(aY kvs k=Z->Q z (upd H3 a (.dT (putK kvs k z))))
def KP {o e f:Expr}{apos cpos:Pos}{td ty tx:TE}(hu:X.A.units+1<cLine)(ho:PE X o td)(he:PE X e ty)(hf:PE X f tx)(m:M2 X o "setdefault" apos e f cpos):PE X (.Call (.Attribute o "setdefault" apos) [e,f] [] cpos) (Qa td ty tx):=by
 intro pins s σ H Q I h
 #wpAny_Call_method m.base m.fI m.line ahH ahi PySem.F.type_dict_setdefault (bH (ho pins s σ H _ I h) λu s1 h9=>?_)
 @⟨x,H1,I1,rx,a,ex,d,q1⟩:=h9
 subst ex
 obtain rfl:u=aen a:=rx
 @⟨t1,t2,_⟩:=Ag I1 d
 #⟨t1,t2,?_⟩
 rw[m.trees]
 #agA rfl (afX (afe (bH (he pins s1 σ H1 _ I1 q1) λiv s2 ⟨y,H2,I2,ry,q2⟩=>
   afe (bH (hf pins s2 σ H2 _ I2 q2) λfv s3 ⟨z,H3,I3,rz,kvs,k,b,ey,e1,e2,l,g1,g2⟩=>afJ ?_))))
 subst ey
 obtain rfl:iv=aen b:=ry
 #M9 hu I3 e1 e2 l rz (λx hx u s' I' ru=>⟨_,H3,I',ru,g1 x hx⟩) λhn s' I'=>⟨_,_,I',rz,g2 hn⟩
end
end L2
namespace L3
open PySem PySem.Spec PyProof.Rows L2
section
variable{X:Cx}{o e f:Expr}{ta te tf:TE}{apos pos:Pos}
def YT (hu:X.A.units+1<cLine)(ho:SE X o ta)(he:SE X e te)(hf:SE X f tf)(m:M2 X o "setdefault" apos e f pos:=by#⟨rfl,rfl,rfl,rfl⟩):SE X (.Call (.Attribute o "setdefault" apos) [e,f] [] pos) (Qa ta te tf):=⟨KP hu ho.h he.h hf.h m⟩
end
end L3
namespace L2
open PySem PySem.Spec PyProof.Rows
def zB {K:ad2}{a b c:J}{xs ys zs:O V}{g:TG}{tb:TS}{D:Ends}{σ:St}{H:Hp}(l1:ys~=xs~)(l2:zs~=xs~)(Pv:Nat->St->Hp->Prop)(h0:Pv 0 σ H)(hl:∀i σ H,i<=xs~->Pv i σ H->aB K H a xs/\aB K H b ys/\aB K H c zs)
   (hs:∀i x y u p σ H,xs[i]?=S x->ys[i]?=S y->zs[i]?=S u->Pv i σ H->H p=Z->g (.ref p) σ (upd H p (.tup [x,y,u])) λσ2 H2=>tb {D with nx:=Pv (i+1),ct:=Pv (i+1),bk:=D.nx} σ2 H2) (hd:∀σ H,Pv xs~ σ H->D.nx σ H) :
   ∃W:Nat->Nat->St->Hp->Prop,(∃m,W 0 m σ H)/\∀i m σ H,W i m σ H ->
     ((sH K a b c).stop i H/\D.nx σ H)\/((sH K a b c).go i H/\∃N:St->Hp->Prop,(∀σ' H',N σ' H'->∃m',m'<m/\W (i+1) m' σ' H')/\∀x H',(sH K a b c).yld i H x H'->g x σ H' λσ2 H2=>tb {D with nx:=N,ct:=N,bk:=D.nx} σ2 H2):=by
 #⟨λi m σ H=>m=xs~-i/\i<=xs~/\Pv i σ H,⟨xs~,by simp,aeG _,h0⟩,?_⟩
 rintro i m σ H ⟨rfl,hi,p⟩
 @⟨q1,q2,q3⟩:=hl i σ H hi p
 by_cases fS:i<xs~
 . #.inr ⟨⟨xs,ys,zs,xs[i],ys[i]'(l1▸fS),zs[i]'(l2▸fS),q1,q2,q3,by simp[fS],by simp[l1,fS],by simp[l2,fS]⟩,Pv (i+1),λσ' H' p'=>⟨xs~-(i+1),by lia,U,fS,p'⟩,λx H' y=>?_⟩
   @⟨pp,x1,y1,u1,hn,rfl,rfl,k⟩:=y
   @⟨k1,k2,k3⟩:=k xs ys zs q1 q2 q3
   #hs i x1 y1 u1 pp σ H k1 k2 k3 p hn
 . !e:i=xs~:=by lia
   subst e
   #.inl ⟨⟨xs,q1,ad5 _⟩,hd σ H p⟩
end L2
namespace L3
open PySem PySem.Spec PyProof.Rows L2
def Ou {X:Cx}{o:Expr}{ta:TE}{pos apos:Pos}{m:Str}{C:J}{ps:O Str}{kk:Nat}{sp:Sp}{pl:Sem Bool}(ho:SE X o ta)(c:lj X.K C)(D:TW.fY X.prog X.w X.K X.mg X.base C m ps kk sp)(hr:cG kk X.A)
   (ht:eval (.Call (.Attribute o m apos) [] [] pos) X.env=(do
     let ov←eval o X.env
     standAt apos.atName
     let(f,first)←holding [ov] (getMethod ov m pl)
     callWith pos f first (backTo pos (starEach [] X.env)) (backToKw pos (keywordEach [] X.env))):=by rfl):SE X (.Call (.Attribute o m apos) [] [] pos) (wu C m sp [] E0 ta Cs):=by
 @⟨_,_,G,b,hm⟩:=D
 #⟨Bf ho.h c hm G hr b .nil rp ht⟩
end L3
namespace L3
open PySem PySem.Spec PyProof.Rows L2
end L3
open L3 renaming v->Y,k->L,n->M,int->aix,ix->aiy,cons->aiz,one->aiA,op->aiB,gn->aiC,str->aiD,bK->aiE,ret->aiF,tup->aiG,bX->aiH,cb->aiI,own->aiJ,cmp->aiK,set->aiL,ifs->aiM,nil->aiN,lst->aiO,fld->aiP,aU->aiQ,bO->aiR,bq->aiS,cH->aiT,hG->aiU,iW->aiV,iL->aiW,bW->aiX,lc->aiY,cX->aiZ,fQ->ai0,bl->ai1,dF->ai2,ex->ai3,gK->ai4,dZ->ai5,glob->ai6,run->ai7,iX->ai8,jg->ai9,fz->aja,vK->ajb,jx->ajc,gB->ajd,tw->aje,append->ajf,asg->ajg,mU->ajh,dq->aji,iR->ajj,Dh->ajk,pN->ajl,ku->ajm,Ie->ajn,nt->ajo,iZ->ajp,iu->ajq,mz->ajr,lY->ajs,bA->ajt,dput->aju,neg->ajz,make->ajE
set_option maxHeartbeats 1000000
namespace TW
open PySem L2
section
variable{P:Program}{w:World}{K:ad2}{mg:Str->Option Value}{base:Heap}
def nF {us:O Value}{n:Nat}(h:us~=n+1):∃a t,us=a::t/\t~=n:=by
 cases us with
 | nil=>cases h
 | cons a t=>#⟨a,t,rfl,Nat.succ.inj h⟩
def IX {x qual:Str}{st:Stmt}{f:J}{fd:aef}{p0:Str}(F:cF K x qual st f fd)(h:∀(kV doc pm:Value) (an:Option J) (cdv ct u0:Value),ahS (ae5 x qual (dU st) (cp st) (ao st) .none kV doc pm an cdv ct) ⟨[u0],[]⟩=pure (([p0]:O Str).zip [u0])):Binds K fd [p0] []:=F.binds λkV doc pm an cdv ct us hl=>by
 @⟨u0,LU,rfl,h1⟩:=nF hl
 cases List.length_eq_zero_iff.mp h1
 #h kV doc pm an cdv ct u0
def iV {x qual:Str}{st:Stmt}{f:J}{fd:aef}{p0 p1:Str}(F:cF K x qual st f fd)(h:∀(kV doc pm:Value) (an:Option J) (cdv ct u0 u1:Value),ahS (ae5 x qual (dU st) (cp st) (ao st) .none kV doc pm an cdv ct) ⟨[u0,u1],[]⟩=pure (([p0,p1]:O Str).zip [u0,u1])):Binds K fd [p0,p1] []:=F.binds λkV doc pm an cdv ct us hl=>by
 @⟨u0,LU,rfl,h1⟩:=nF hl
 @⟨u1,XY,rfl,h2⟩:=nF h1
 cases List.length_eq_zero_iff.mp h2
 #h kV doc pm an cdv ct u0 u1
def sR {x qual:Str}{st:Stmt}{f:J}{fd:aef}{p0 p1 p2:Str}(F:cF K x qual st f fd)(h:∀(kV doc pm:Value) (an:Option J) (cdv ct u0 u1 u2:Value),ahS (ae5 x qual (dU st) (cp st) (ao st) .none kV doc pm an cdv ct) ⟨[u0,u1,u2],[]⟩=pure (([p0,p1,p2]:O Str).zip [u0,u1,u2])):Binds K fd [p0,p1,p2] []:=F.binds λkV doc pm an cdv ct us hl=>by
 @⟨u0,LU,rfl,h1⟩:=nF hl
 @⟨u1,XY,rfl,h2⟩:=nF h1
 @⟨u2,us2,rfl,h3⟩:=nF h2
 cases List.length_eq_zero_iff.mp h3
 #h kV doc pm an cdv ct u0 u1 u2
def sU {x qual:Str}{st:Stmt}{f:J}{fd:aef}{p0 p1 p2 p3:Str}(F:cF K x qual st f fd)(h:∀(kV doc pm:Value) (an:Option J) (cdv ct u0 u1 u2 u3:Value),ahS (ae5 x qual (dU st) (cp st) (ao st) .none kV doc pm an cdv ct) ⟨[u0,u1,u2,u3],[]⟩=pure (([p0,p1,p2,p3]:O Str).zip [u0,u1,u2,u3])):Binds K fd [p0,p1,p2,p3] []:=F.binds λkV doc pm an cdv ct us hl=>by
 @⟨u0,LU,rfl,h1⟩:=nF hl
 @⟨u1,XY,rfl,h2⟩:=nF h1
 @⟨u2,us2,rfl,h3⟩:=nF h2
 @⟨u3,us3,rfl,h4⟩:=nF h3
 cases List.length_eq_zero_iff.mp h4
 #h kV doc pm an cdv ct u0 u1 u2 u3
def top (i:Nat):Stmt:=PySem.Challenge.pw_twinwalk_k20_papers_of_none.main.body.getD i (.Pass ⟨0,0,0,0⟩)
abbrev Hw:Stmt:=top 52
abbrev rJ:Stmt:=top 53
def TK.lst {H:Hp}{a:J}{xs:O V}{o:HO}(h:H a=S (.lst xs)):TK H (upd H a o):=λb ys e=>by rw[aj (eJ e h (λz=>nomatch z))];#e
theorem om {α β:Type}(f:α->β):∀(l:O α) (i:Nat),(l.eraseIdx i).map f=(l.map f).eraseIdx i
 | [],_=>rfl
 | _::_,0=>rfl
 | a::r,i+1=>by simp only[ahV,aeN,om f r i]
theorem Paired.get {α β:Type}{F:α->β->Prop}:∀{l₁:O α} {l₂:O β} {i:Nat} {x:α},Paired F l₁ l₂->l₁[i]?=S x->∃y,l₂[i]?=S y/\F x y
 | _,_,_,_,.nil,e=>by simp at e
 | _,_,0,_,.cons r _,e=>by simp at e;subst e;#⟨_,rfl,r⟩
 | _,_,i+1,x,.cons _ t,e=>by
   @⟨u,h1,h2⟩:=Paired.get (i:=i) (x:=x) t (by simpa using e)
   #⟨u,by simpa using h1,h2⟩
def bQ {σ:L2.St}{H:Hp}{A B:Hp->Prop}(h:A H):F7 σ H (λb H3=>if b=true then A H3 else B H3):=nC (A:=A H) (B:=B H) h
def aS {i:Nat}{v:V}{σ:L2.St}{H:Hp}{Q:L2.St->Hp->Prop}(h:Q (σ.set i (S v)) H):dH i v σ H Q:=h
def cE.ref {H:Hp}{v:V}{b:Str×Int}(h:cE H v b):∃p,v=.ref p:=by@⟨p,e,_⟩:=h;#⟨p,e⟩
def aa {A B C:Hp}(a:ak A B)(b:ak B C):ak A C:=λp o h=>b p o (a p o h)
def same_refl (A:Hp):ak A A:=λz z h=>h
def aK {H:Hp}{p:J}(h:H p=Z)(o:HO):∃H1,ak H H1/\H1 p=S o/\upd H p o=H1:=⟨_,ah h o,ae,rfl⟩
def GW {H:Hp}{p q:J}{o:HO}(h:H p=Z)(k:upd H p o q=Z)(o2:HO):∃H1,ak H H1/\H1 p=S o/\H1 q=S o2/\upd (upd H p o) q o2=H1:=⟨_,λb u e=>ah k o2 b u (ah h o b u e),by rw[aj (ai ae k)];#ae,ae,rfl⟩
abbrev GLB (s:Stmt)(x:Str):Prop:=(ao s).names.lookup x=S .globalImplicit
def ij (s:Stmt){sc:Scope}(a:sc.kind=.function:=by rfl)(b:∀y∈sc.names,y.2≠.cell:=by right)(c:∀x∈sc.names,x.2=.local->sc.names.lookup x.1=S .local:=by right)(d:∀x∈sc.names,x.2=.free->(ao s).names.lookup x.1=S .cell\/(ao s).names.lookup x.1=S .free:=by right):bR sc (ao s):=⟨a,b,c,d⟩
def dW (l:O Str)(h:l.Nodup:=by right):l.Nodup:=h
def aH {α:Type}{l:O α}{i:Nat}{a:α}(h:l[i]?=S a):i<l~:=(List.getElem?_eq_some_iff.mp h).1
def cZ {α:Type}{a b:α}{l:O α}(h:a∈b::l):a=b\/a∈l:=List.mem_cons.mp h
def dA {α:Type}{a b:α}{l:O α}(h:a=b\/a∈l):a∈b::l:=List.mem_cons.mpr h
def cR {α:Type}{a b:α}(h:a∈[b]):a=b:=List.mem_singleton.mp h
def cO {α β:Type}{f:α->β}{b:β}{l:O α}(h:b∈l.map f):∃a,a∈l/\f a=b:=List.mem_map.mp h
def dD {α β:Type}{f:α->β}{b:β}{l:O α}(h:∃a,a∈l/\f a=b):b∈l.map f:=List.mem_map.mpr h
def eI {α:Type}{a:α}{l m:O α}(h:a∈l++m):a∈l\/a∈m:=List.mem_append.mp h
def iC {α:Type}{a:α}{l m:O α}(h:a∈l\/a∈m):a∈l++m:=List.mem_append.mpr h
def aq {H H':Hp}{a:J}(s:ak H H')(h:H' a=Z):H a=Z:=by
 match e:H a with
 | none=>rfl
 | some o=>rw[s _ _ e]at h;cases h
def aE {H H':Hp}{a:J}{o:HO}(s:ak H H')(h:H a=Z):ak H (upd H' a o):=λb u e=>by rw[aj (ai e h)];#s b u e
def az {H H':Hp}{a:J}{o:HO}(s:ak H H')(h:H' a=Z):ak H (upd H' a o):=aE s (aq s h)
def dS {α:Type}(f:α->V)(xs:O α){r:Int}(h0:0<=r)(h1:r<(xs~:Int)):∃x,xs[r.toNat]?=S x/\x∈xs/\hW (xs.map f) r=S (f x):=by
 !hr:r.toNat<xs~:=by lia
 !e:r=((r.toNat:Nat):Int):=by lia
 !q:hW (xs.map f) ((r.toNat:Nat):Int)=S (f xs[r.toNat]):=bL (by rw[aei,ad3 hr];rfl)
 rw[← e]at q
 #⟨xs[r.toNat],ad3 hr,aho hr,q⟩
def va {xs:O V}{r:Int}(h0:0<=r)(h1:r<(xs~:Int)):∃x,xs[r.toNat]?=S x/\hW xs r=S x:=by
 !hr:r.toNat<xs~:=by lia
 !e:r=((r.toNat:Nat):Int):=by lia
 !q:hW xs ((r.toNat:Nat):Int)=S xs[r.toNat]:=bL (ad3 hr)
 rw[← e]at q
 #⟨xs[r.toNat],ad3 hr,q⟩
structure Row (b:Int)(row:O Int)(n:Nat):Prop where
 len:row~=n
 all:∀x∈row,0<=x/\x<b
def Row.at {b:Int}{row:O Int}{n:Nat}(h:Row b row n){i:Int}(h0:0<=i)(h1:i<n):∃x,hW (row.map V.int) i=S (.int x)/\0<=x/\x<b:=by
 @⟨x,_,hx,e⟩:=dS V.int row (r:=i) h0 (by rw[h.len];#h1)
 #⟨x,e,h.all x hx⟩
def p8 (K:ad2):Sp:=λvs H Q z=>∃(a:J) (ns:O Int) (k:Int),vs=[.ref a,.int k]/\aB K H a (ns.map V.int)/\0<=k/\∀c:Int,Q (.int c) H
def Lz:aA ["script","k"] ["script","k"] (ao Hw):=dX
def aW {K:ad2}{H:Hp}{p:J}{xs:O V}{k:Int}{z:V}{R:V->Prop}(hq:H p=S (.tup xs))(he:hW xs k=S z)(q:R z):∃p' Iy j z,V.ref p=.ref p'/\V.int k=.int j/\dY K H p' Iy/\hW Iy j=S z/\R z:=⟨p,xs,k,z,rfl,rfl,dY.of hq,he,q⟩
def bY {K:ad2}{H:Hp}{p:J}{xs:O V}{k:Int}{z:V}{R:V->Prop}(hq:H p=S (.lst xs))(he:hW xs k=S z)(q:R z):∃p' Iy j z,V.ref p=.ref p'/\V.int k=.int j/\aB K H p' Iy/\hW Iy j=S z/\R z:=⟨p,xs,k,z,rfl,rfl,aB.of hq,he,q⟩
def nJ {K:ad2}{H:Hp}{σ:L2.St}{Q:L2.St->Hp->Prop}{a:J}{x y:V}{i j:Nat}(h:H a=S (.tup [x,y]))(q:Q ((σ.set i (S x)).set j (S y)) H):xl K 2 (gZ (dH i) (gZ (dH j) xk)) (.ref a) σ H Q:=⟨a,_,rfl,dY.of h,rfl,_,_,rfl,_,_,rfl,rfl,q⟩
def LS {K:ad2}{H:Hp}{σ:L2.St}{Q:L2.St->Hp->Prop}{a:J}{x y z:V}{i j k:Nat}(h:H a=S (.tup [x,y,z]))(q:Q (((σ.set i (S x)).set j (S y)).set k (S z)) H):xl K 3 (gZ (dH i) (gZ (dH j) (gZ (dH k) xk))) (.ref a) σ H Q:=⟨a,_,rfl,dY.of h,rfl,_,_,rfl,_,_,rfl,_,_,rfl,rfl,q⟩
def bJ {K:ad2}{H:Hp}{a C dx:J}{fs:O (Str×V)}{f:Str}{v:V}{R:V->Prop}(h:H a=S (.ins C dx fs))(c:lj K C)(n:dQ K C f)(l:fs.lookup f=S v)(q:R v):∃a' C' QG fs' v,V.ref a=.ref a'/\H a'=S (.ins C' QG fs')/\lj K C'/\dQ K C' f/\fs'.lookup f=S v/\R v:=⟨a,C,dx,fs,v,rfl,h,c,n,l,q⟩
def EA {f:J}{fd:aef}(F:cF K "_law_cell_at" "_law_cell_at" Hw f fd)(m_len:mg "len"=Z):aL P w K mg base cm 1 f fd ["script","k"] (p8 K):=by
 #F.eO Lz λcdv A outer s H vs Q E hr h=>?_
 @⟨a,ns,k,rfl,hs,h0,q⟩:=h
 #⟨_,ai7 (aiz (aiM (aiK ai9 (Y 1) (aiS aiX U m_len aeo (L (Y 0) M))) (aiA (aiF (aiy aiH (Y 0) (Y 1)))) aiN)
   (aiA (aiF aix))),?_⟩
 #af U (af U ⟨a,af U ⟨.inl hs,aJ U U (af U ?_)⟩⟩)
 #aC (λc=>?_) (λz=>q 0)
 !hk:k<((ns.map V.int)~:Int):=cU c
 rw[ad1]at hk
 @⟨x,_,_,jV⟩:=dS V.int ns h0 hk
 #af U (af U ⟨a,_,aJ U U ⟨hs,jV,q x⟩⟩)
def iQ:Sp:=λvs H Q z=>∃(c many bs:Int),vs=[.int c,.int many,.int bs]/\0<=many/\many<=900/\0<bs/\bs<2^30/\∀l row,H l=Z->Row bs row many.toNat->Q (.ref l) (upd H l (.lst (row.map V.int)))
def cK:aA ["cell","many","base","row","rest","k","stir"] ["cell","many","base"] (ao rJ):=dX
def ug {f:J}{fd:aef}(F:cF K "_law_numbers" "_law_numbers" rJ f fd)(m_range:mg "range"=Z):aL P w K mg base cm 1 f fd ["cell","many","base"] iQ:=by
 #F.eO cK λcdv A outer s H vs Q E hr h=>?_
 @⟨c,many,bs,rfl,zW,hm1,DV,Nu,q⟩:=h
 #⟨_,ai7 (aiz (aiL 0 cK.nd (aiB aiQ (Y 0) (aiB L3.JS (aiB ajr aix aix) (aiB ajr aix aix))))
   (aiz (aiL 3 cK.nd (aiO M))
   (aiz (aiL 4 cK.nd (aiB ajm (Y 0) (aiB ajr aix aix)))
   (aiz (ai0 (ajj U m_range (L (Y 1) M)) (aiC 5 cK.nd) (aiz (aiL 6 cK.nd (aiB aiQ (aiB ai5 (aiB aiZ (aiB aiZ (Y 0) (aiB ai5 aix (Y 5))) aix) aix) aix))
   (aiz (aiL 6 cK.nd (aiB aiQ (aiB ai5 (Y 6) (Y 6)) aix))
   (aiz (aiL 6 cK.nd (aiB aja (aiB aiQ (aiB ai5 (aiB aiZ (Y 6) (aiB ai5 aix (aiB aiZ (Y 5) aix))) aix) aix) aix))
   (aiz (aiM (aiK L3.AI (Y 0) (aiB ajr aix aix)) (aiz (aiL 6 cK.nd (Y 4))
   (aiA (aiL 4 cK.nd (aiB aja (Y 4) (Y 2))))) aiN)
   (aiA (ai3 (ajf (Y 3) (L (aiB aiQ (Y 6) (Y 2)) M)))))))))
   (aiA (aiF (Y 3))))))),?_⟩
 !p90:(0:Int)<10^(45:Int).toNat*10^(45:Int).toNat:=by right
 !V5:((10:Int)^(45:Int).toNat).natAbs<2^150:=by right
 #af U (dB U U ⟨by left,by left,by left⟩ (dB U U ⟨by left,by left,by left⟩ (aJ U U ⟨⟨aer V5 (Nat.pow_le_pow_right (by left) (by left)),aer V5 (Nat.pow_le_pow_right (by left) (by left))⟩,aJ U U ⟨p90,?_⟩⟩)))
 #⟨aky,λl hl=>?_⟩
 #af U (dB U U ⟨by left,by left,by left⟩ (aJ U U ?_))
 #af U ⟨many,U,by lia,by lia,?_⟩
 #fZ (lo:=0) (n:=many.toNat) (λi σ H2=>∃(c rest:Int) (kv sv:Option V) (row:O Int),σ=[S (.int c),S (.int many),S (.int bs),S (.ref l),S (.int rest),kv,sv]/\H2=upd H l (.lst (row.map V.int))/\Row bs row i) ?_ ?_ ?_
 . #⟨_,_,Z,Z,[],U,U,⟨U,λx hx=>nomatch hx⟩⟩
 . rintro i σ H2 hi ⟨c,rest,kv,sv,row,rfl,rfl,kQ⟩
   #af U (af U (dB U U (.inl ⟨by left,by left⟩) (aJ U U (aJ U U (dB U U (.inr ⟨by left,by left⟩) (dB U U (by change(0:Int)<2147483647;decide) ?_))))))
   !s1:∀n:Int,0<=n%2147483647/\n%2147483647<2147483647:=λn=>⟨aeD _ (by left),aeu _ (by left)⟩
   #af U (af U (dB U U (.inr ⟨by !:=s1 ((c+977*(0+(i:Int))+1)*48271);lia,by !:=s1 ((c+977*(0+(i:Int))+1)*48271);lia⟩) (dB U U (by change(0:Int)<2147483629;decide) ?_)))
   #af U (af U (aJ U U (dB U U (.inl ⟨by left,by left⟩) (aJ U U (dB U U (.inr ⟨by left,by left⟩) (dB U U (by change(0:Int)<2147483563;decide) (aJ U U ⟨⟨(by change(0:Int)<8;decide),(by change(8:Int)<2^1000;decide +kernel)⟩,?_⟩)))))))
   !hd:row~<=1000:=by !:=kQ.len;lia
   #af U (dB U U ⟨by left,by left,by left⟩ (aJ U U (af U ?_)))
   #aC (λc1=>?_) (λc1=>?_)
   . #af U ?_
     #af U (af U (aJ U U ⟨⟨DV,Int.lt_trans Nu (by right)⟩,?_⟩))
     #af U ⟨.inl ⟨U,_,aB.of ae⟩,af U (af U (aJ U U ⟨DV,l,aJ U U ⟨ae,by rw[ad1];#aD hd,?_⟩⟩))⟩
     #⟨_,_,_,_,row++[_],U,by rw[da,aeb];rfl,⟨by rw[ad7,kQ.len];rfl,λx hx=>?_⟩⟩
     rcases eI hx with z|z
     . #kQ.all x z
     . !e:=cR z
       rw[e]
       #⟨aeD _ (by lia),aeu _ DV⟩
   . #af U ⟨.inl ⟨U,_,aB.of ae⟩,af U (af U (aJ U U ⟨DV,l,aJ U U ⟨ae,by rw[ad1];#aD hd,?_⟩⟩))⟩
     #⟨_,_,_,_,row++[_],U,by rw[da,aeb];rfl,⟨by rw[ad7,kQ.len];rfl,λx hx=>?_⟩⟩
     rcases eI hx with z|z
     . #kQ.all x z
     . !e:=cR z
       rw[e]
       #⟨aeD _ (by lia),aeu _ DV⟩
 . rintro σ H2 ⟨c,rest,kv,sv,row,rfl,rfl,kQ⟩
   #af U (q l row hl kQ)
abbrev Lx:Stmt:=top 54
abbrev HI:Stmt:=top 55
def Row.mono {b c:Int}{row:O Int}{n:Nat}(h:Row b row n)(hb:b<=c):Row c row n:=⟨h.len,λx hx=>⟨(h.all x hx).1,ahf (h.all x hx).2 hb⟩⟩
abbrev OC (names:O Str):Str->Str->Prop:=λt y=>t="box"/\y∈names
def wj:Sp:=λvs H Q z=>∃(r na:J) (row:O Int) (n:Nat) (names:O Str),vs=[.ref r,.ref na]/\H r=S (.lst (row.map V.int))/\Row (2^40) row n/\3<=n/\H na=S (.lst (names.map V.str))/\names~<=900 /\
 ∀(v:V) (H':Hp) (e:E),ak H H'->dP H' v e->e.i5->e.okIn (OC names)->e.dep<=2->Q v H'
def oE:aA ["row","names","number","some","one","other","way"] ["row","names"] (ao Lx):=dX
def Ke {f:J}{fd:aef}(F:cF K "_law_sum" "_law_sum" Lx f fd)(m_len:mg "len"=Z):aL P w K mg base cm 1 f fd ["row","names"] wj:=by
 #F.eO oE λcdv A outer s H vs Q E hr h=>?_
 @⟨r,na,row,n,names,rfl,tR,hR,hn3,kP,j6,q⟩:=h
 #⟨_,ai7 (aiz (aiL 2 oE.nd (aiy aiH (aiO (L (aiB aiQ (aiy aiH (Y 0) aix) aix) (L (aiB aiQ (aiy aiH (Y 0) aix) aix) (L (aiB aiZ (aiB ajr aix aix) (aiy aiH (Y 0) aix)) M)))) (aiB aja (aiB aiQ (aiy aiH (Y 0) aix) aix) aix)))
   (aiz (aiL 3 oE.nd (aiB ajd (aiO (L (aiG (L aiD (L (Y 2) M))) M)) (aiY [Z] ["name"] (ij Lx) U (aiW (Y 1)) (λu u u u u=>⟨(aiC 0 (dW ["name"])),aiV,(aiG (L aiD (L (Y 0) M)))⟩))))
   (aiz (aiL 4 oE.nd (aiy aiH (Y 3) (aiB aiQ (aiB aja (aiy aiH (Y 0) aix) aix) (aiS aiX U m_len aeo (L (Y 3) M)))))
   (aiz (aiL 5 oE.nd (aiy aiH (Y 3) (aiB aiQ (aiB aja (aiy aiH (Y 0) aix) aix) (aiS aiX U m_len aeo (L (Y 3) M)))))
   (aiz (aiL 6 oE.nd (aiB aiQ (aiy aiH (Y 0) aix) aix))
   (aiz (aiM (aiK ai9 (Y 6) aix) (aiA (aiF (Y 4))) aiN)
   (aiz (aiM (aiK aiR (Y 6) aix) (aiA (aiF (aiG (L aiD (L (Y 4) (L (Y 5) M)))))) aiN)
   (aiz (aiM (aiK aiR (Y 6) aix) (aiA (aiF (aiG (L aiD (L (aiG (L aiD (L (Y 5) (L (aiG (L aiD (L (aiB aiQ (aiy aiH (Y 0) aix) aix) M))) M)))) (L (Y 4) M)))))) aiN)
   (aiA (aiF (aiG (L aiD (L (Y 4) (L (aiG (L aiD (L (aiB aiQ (aiy aiH (Y 0) aix) aix) M))) M)))))))))))))),?_⟩
 @⟨x0,a0,RA,VJ⟩:=hR.at (i:=0) (by left) (by lia)
 @⟨x1,a1,VL,VM⟩:=hR.at (i:=1) (by left) (by lia)
 @⟨x2,a2,X4,X5⟩:=hR.at (i:=2) (by left) (by lia)
 !pick:∃num:Int,hW ([.int (x1%3),.int (x1%7),.int (10^(20:Int).toNat+x1)]:O V) (x2%12/5)=S (.int num)/\num.natAbs<2^100:=by
   !YV:(10:Int)^(20:Int).toNat=100000000000000000000:=by right
   rw[YV]
   rcases(show x2%12/5=0\/x2%12/5=1\/x2%12/5=2 by lia)with e|e|e<;>rw[e]
   . #af U (by lia)
   . #af U (by lia)
   . #af U (by lia)
 @⟨num,jV,TQ⟩:=pick
 #af U ?_
 #bY tR a1 ?_
 #dB U U (by change(0:Int)<3;decide) (af U ?_)
 #bY tR a1 ?_
 #dB U U (by change(0:Int)<7;decide) ?_
 #dB U U ⟨by left,by left,by left⟩ (af U ?_)
 #bY tR a1 ?_
 #aJ U U ⟨akB,λl hl=>?_⟩
 !s1:ak H (upd H l (.lst [.int (x1%3),.int (x1%7),.int (10^(20:Int).toNat+x1)])):=ah hl _
 #af U ?_
 #bY (s1 _ _ tR) a2 ?_
 #dB U U (by change(0:Int)<12;decide) (aJ U U ⟨⟨(by change(0:Int)<5;decide),(by change(5:Int)<2^1000;decide +kernel)⟩,?_⟩)
 #bY ae jV ?_
 generalize(upd H l (.lst [.int (x1%3),.int (x1%7),.int (10^(20:Int).toNat+x1)]))=H1 at s1 ⊢
 #bu U akA (λp hp=>⟨akz,λl1 hl1=>?_⟩)
 !s2:ak H (upd (upd H1 p (.tup [.str "number",.int num])) l1 (.lst [.ref p])):=az (az s1 hp) hl1
 !We:dP (upd (upd H1 p (.tup [.str "number",.int num])) l1 (.lst [.ref p])) (.ref p) (.num num):=⟨p,rfl,by rw[aj (ai ae hl1),ae]⟩
 !hl2:(upd (upd H1 p (.tup [.str "number",.int num])) l1 (.lst [.ref p])) l1=S (.lst [.ref p]):=ae
 generalize(upd (upd H1 p (.tup [.str "number",.int num])) l1 (.lst [.ref p]))=H2 at s2 We hl2 ⊢
 !D8:=s2 _ _ kP
 #af U (bu U ⟨_,aB.of D8⟩ (λnb lq=>?_))
 #aV (xs:=names.map V.str) (λi H3=>∃vb:O V,ak H2 H3/\H3 nb=S (.lst vb)/\vb~=i/\Paired (dP H3) vb ((names.take i).map (TW.E.box "box"))) ⟨[],ah lq _,ae,U,.nil⟩ (λi H3 u z=>aB.of (z.choose_spec.1 _ _ D8)) (λi x H3 hx z=>?_) (λH3 z=>?_)
 . @⟨vb,s3,zO,pD,pb⟩:=z
   obtain⟨nm,yL,rfl⟩ : ∃nm,names[i]?=S nm/\x=V.str nm:=by
     rw[aei]at hx
     @⟨y,h1,h2⟩:=Option.map_eq_some_iff.mp hx
     #⟨y,h1,h2.symm⟩
   !du:i<names~:=(aH yL)
   #aS ?_
   #bQ (A:=λH3=>cB _ nb _ H3 _) ?_
   #bu U akA (λp2 cy=>⟨vb,?_,aD (by lia),aF (Pv:=λi H3=>∃vb:O V,ak H2 H3/\H3 nb=S (.lst vb)/\vb~=i/\Paired (dP H3) vb ((names.take i).map (TW.E.box "box"))) (by repeat' constructor) (by rw[ad1];#du) ?_⟩)
   . rw[aj (ai zO cy)];#zO
   . !Mg:(upd H3 p2 (.tup [.str "box",.str nm])) nb=S (.lst vb):=by rw[aj (ai zO cy)];#zO
     !t4:TK H3 (upd (upd H3 p2 (.tup [.str "box",.str nm])) nb (.lst (vb++[.ref p2]))):=(aG cy _).trans (TK.lst Mg)
     #⟨vb++[.ref p2],aE (az s3 cy) lq,ae,by rw[ad7,pD];rfl,?_⟩
     rw[aec,yL,aeb]
     #Paired.snoc (Paired.aP pb λa b h=>h.keep t4) ⟨p2,U,by rw[aj (ai zO cy).symm];#ae⟩
 . @⟨vb,s3,zO,pD,pb⟩:=z
   rw[ad1]at pD pb
   rw[aed]at pb
   #⟨l1,nb,aJ U U ⟨s3 _ _ hl2,zO,small (show 1+vb~<=1000 by lia),λso Ur=>?_⟩⟩
   !s4:=az (o:=.lst ([.ref p]++vb)) (aa s2 s3) Ur
   !all:∀(j:Int) (H4:Hp),ak (upd H3 so (.lst ([V.ref p]++vb))) H4->0<=j->∃v e,hW ([V.ref p]++vb) (j%(([V.ref p]++vb)~:Int))=S v/\dP H4 v e/\e.i5/\e.okIn (OC names)/\e.dep=0:=λj H4 s5 hj=>by
     !mj:(0:Int)<(([V.ref p]++vb)~:Int):=by rw[ad7];change(0:Int)<((1+vb~:Nat):Int);lia
     @⟨v,h1,h2⟩:=va (xs:=[V.ref p]++vb) (r:=j%(([V.ref p]++vb)~:Int)) (aeD _ (by lia)) (aeu _ mj)
     !pa:Paired (dP (upd H3 so (.lst ([V.ref p]++vb)))) ([V.ref p]++vb) (TW.E.num num::names.map (TW.E.box "box")):=.cons ((We.keep (ak.tk s3)).keep (aG Ur _)) (Paired.aP pb λa b h=>h.keep (aG Ur _))
     @⟨e,h3,h4⟩:=Paired.get pa h1
     #⟨v,e,h2,h4.keep (ak.tk s5),?_⟩
     rcases cZ (ad4 h3)with z|z
     . subst z
       #⟨aeh,TQ,U⟩
     . @⟨y,hy,rfl⟩:=cO z
       #⟨aeh,⟨U,hy⟩,U⟩
   !xC:(upd H3 so (.lst ([V.ref p]++vb))) so=S (.lst ([.ref p]++vb)):=ae
   !tS:=s4 _ _ tR
   !vA:(0:Int)<(([V.ref p]++vb)~:Int):=by rw[ad7];change(0:Int)<((1+vb~:Nat):Int);lia
   generalize([V.ref p]++vb)=sv at all xC s4 tS vA ⊢
   generalize(upd H3 so (.lst sv))=H4 at all xC s4 tS ⊢
   !d8:(8:Int)<2^1000:=by right
   !YQ:(12:Int)<2^1000:=by right
   @⟨v1,e1,YC,lp,kW,i7,yJ⟩:=all (x0/8) H4 (same_refl _) (by lia)
   @⟨v2,e2,at2,Gy,GV,Dg,YS⟩:=all (x2/12) H4 (same_refl _) (by lia)
   #af U (af U ?_)
   #bY tS a0 ?_
   #aJ U U ⟨⟨(by change(0:Int)<8;decide),d8⟩,af U (aJ U (.inl (aB.of xC)) (aJ U U ⟨vA,?_⟩))⟩
   #bY xC YC ?_
   #af U (af U ?_)
   #bY tS a2 ?_
   #aJ U U ⟨⟨(by change(0:Int)<12;decide),YQ⟩,af U (aJ U (.inl (aB.of xC)) (aJ U U ⟨vA,?_⟩))⟩
   #bY xC at2 ?_
   #af U ?_
   #bY tS a0 ?_
   #dB U U (by change(0:Int)<8;decide) ?_
   #af U (aJ U U (af U ?_))
   #aC (λu=>(af U (q v1 H4 e1 s4 lp kW i7 (by lia)))) (λu=>?_)
   #af U (bB U U ?_)
   #aC (λu=>?_) (λu=>?_)
   . #af U (bu U akB (λp5 yM=>?_))
     #q (.ref p5) _ (.two .less e1 e2) (az s4 yM) ⟨v1,v2,⟨p5,U,ae⟩,lp.keep (aG yM _),Gy.keep (aG yM _)⟩ ⟨kW,GV⟩ ⟨i7,Dg⟩ (by change max e1.dep e2.dep+1<=2;lia)
   #af U (bB U U ?_)
   #aC (λu=>?_) (λu=>?_)
   . #af U (af U ?_)
     #bY tS a1 ?_
     #dB U U (by change(0:Int)<5;decide) ⟨akA,λp5 yM=>⟨akB,λp6 z7=>(bu U akB (λp7 T5=>?_))⟩⟩
     !k5:dP (upd H4 p5 (.tup [.str "number",.int (x1%5)])) (.ref p5) (.num (x1%5)):=⟨p5,rfl,ae⟩
     !k6:dP (upd (upd H4 p5 (.tup [.str "number",.int (x1%5)])) p6 (.tup [.str "less",v2,.ref p5])) (.ref p6) (.two .less e2 (.num (x1%5))):=⟨v2,.ref p5,⟨p6,rfl,ae⟩,(Gy.keep (aG yM _)).keep (aG z7 _),k5.keep (aG z7 _)⟩
     #q (.ref p7) _ (.two .plus (.two .less e2 (.num (x1%5))) e1) (az (az (az s4 yM) z7) T5) ⟨.ref p6,v1,⟨p7,U,ae⟩,k6.keep (aG T5 _),((lp.keep (aG yM _)).keep (aG z7 _)).keep (aG T5 _)⟩ ⟨⟨GV,aeh⟩,kW⟩ ⟨⟨Dg,?_⟩,i7⟩ (by change max (max e2.dep 0+1) e1.dep+1<=2;lia)
     change(x1%5).natAbs<2^100
     lia
   . #af U (af U ?_)
     #bY tS a1 ?_
     #dB U U (by change(0:Int)<4;decide) ⟨akA,λp5 yM=>⟨akB,λp6 z7=>?_⟩⟩
     !k5:dP (upd H4 p5 (.tup [.str "number",.int (x1%4)])) (.ref p5) (.num (x1%4)):=⟨p5,rfl,ae⟩
     #q (.ref p6) _ (.two .plus e1 (.num (x1%4))) (az (az s4 yM) z7) ⟨v1,.ref p5,⟨p6,U,ae⟩,(lp.keep (aG yM _)).keep (aG z7 _),k5.keep (aG z7 _)⟩ ⟨kW,aeh⟩ ⟨i7,?_⟩ (by change max e1.dep 0+1<=2;lia)
     change(x1%4).natAbs<2^100
     lia
def BR:Sp:=λvs H Q z=>∃(r na:J) (row:O Int) (n:Nat) (names:O Str),vs=[.ref r,.ref na]/\H r=S (.lst (row.map V.int))/\Row (2^30) row n/\4<=n/\H na=S (.lst (names.map V.str))/\names~<=900 /\
 ∀(v:V) (H':Hp) (e:E),ak H H'->dP H' v e->e.kX->e.okIn (OC names)->e.dep<=5->Q v H'
def pU:aA ["row","names","one","other","way"] ["row","names"] (ao HI):=dX
def EC {f:J}{fd:aef}(F:cF K "_law_condition" "_law_condition" HI f fd)(S8:bI P w K mg base "_law_sum" ["row","names"] 1 wj):aL P w K mg base cm 2 f fd ["row","names"] BR:=by
 #F.eO pU λcdv A outer s H vs Q E hr h=>?_
 @⟨r,na,row,n,names,rfl,tR,hR,hn3,kP,j6,q⟩:=h
 #⟨_,ai7 (aiz (aiL 2 pU.nd (aiJ S8 hr U (L (aiO (L (aiB ai5 aix (aiy aiH (Y 0) aix)) (L (aiy aiH (Y 0) aix) (L (aiy aiH (Y 0) aix) M)))) (L (Y 1) M))))
   (aiz (aiL 3 pU.nd (aiJ S8 hr U (L (aiO (L (aiB aja (aiy aiH (Y 0) aix) aix) (L (aiy aiH (Y 0) aix) (L (aiy aiH (Y 0) aix) M)))) (L (Y 1) M))))
   (aiz (aiL 4 pU.nd (aiB aiQ (aiy aiH (Y 0) aix) aix))
   (aiz (aiM (aiK aiR (Y 4) aix) (aiA (aiF (aiG (L aiD M)))) aiN)
   (aiz (aiM (aiK aiR (Y 4) aix) (aiA (aiF (aiG (L aiD (L (aiG (L aiD (L (Y 2) (L (Y 3) M)))) M))))) aiN)
   (aiz (aiM (aiK aiR (Y 4) aix) (aiA (aiF (aiG (L aiD (L (aiG (L aiD (L (Y 2) (L (Y 3) M)))) (L (aiG (L aiD (L (aiG (L aiD (L (Y 3) (L (Y 2) M)))) M))) M)))))) aiN)
   (aiA (aiF (aiy aiH (aiO (L (aiG (L aiD (L (Y 2) (L (Y 3) M)))) (L (aiG (L aiD (L (Y 2) (L (Y 3) M)))) M))) (aiB aiQ (Y 4) aix)))))))))),?_⟩
 @⟨x0,a0,RA,VJ⟩:=hR.at (i:=0) (by left) (by lia)
 @⟨x1,a1,VL,VM⟩:=hR.at (i:=1) (by left) (by lia)
 @⟨x2,a2,X4,X5⟩:=hR.at (i:=2) (by left) (by lia)
 @⟨x3,a3,x30,x31⟩:=hR.at (i:=3) (by left) (by lia)
 !Xr:∀a b c:Int,0<=a->a<2^40->0<=b->b<2^40->0<=c->c<2^40->Row (2^40) [a,b,c] 3:=λa b c h1 h2 h3 h4 h5 h6=>⟨rfl,λx hx=>by
   rcases cZ hx with e|hx
   . rw[e];#⟨h1,h2⟩
   rcases cZ hx with e|hx
   . rw[e];#⟨h3,h4⟩
   rw[cR hx];#⟨h5,h6⟩⟩
 #af U ?_
 #bY tR a3 ?_
 #dB U U (.inl ⟨by left,by left⟩) (af U ?_)
 #bY tR a1 ?_
 #af U ?_
 #bY tR a2 ?_
 #⟨akB,λl hl=>?_⟩
 #af U ⟨l,na,[8*x3,x1,x2],3,names,U,ae,Xr _ _ _ (by lia) (by lia) (by lia) (by lia) (by lia) (by lia),ad5 _,by rw[aj (ai kP hl)];#kP,j6,λv1 H1 e1 s1 lp kW i7 yJ=>?_⟩
 !s1:=aa (ah hl _) s1
 !jC:=s1 _ _ tR
 !d8:(8:Int)<2^1000:=by right
 #af U ?_
 #bY jC a0 ?_
 #aJ U U ⟨⟨(by change(0:Int)<8;decide),d8⟩,af U ?_⟩
 #bY jC a2 ?_
 #af U ?_
 #bY jC a1 ?_
 #⟨akB,λl2 hl2=>?_⟩
 !jB:=s1 _ _ kP
 #af U ⟨l2,na,[x0/8,x2,x1],3,names,U,ae,Xr _ _ _ (by lia) (by lia) (by lia) (by lia) (by lia) (by lia),ad5 _,by rw[aj (ai jB hl2)];#jB,j6,λv2 H2 e2 s2 Gy GV Dg YS=>?_⟩
 !s12:ak H1 H2:=aa (ah hl2 _) s2
 !lp:=lp.keep (ak.tk s12)
 !s2:=aa s1 s12
 !Uk:=s2 _ _ tR
 #af U ?_
 #bY Uk a0 ?_
 #dB U U (by change(0:Int)<8;decide) ?_
 #af U (bB U U ?_)
 #aC (λz=>?_) (λz=>?_)
 . #⟨akz,λp hp=>?_⟩
   #q (.ref p) _ .yes (az s2 hp) ⟨p,U,ae⟩ aeh aeh (by change 0<=5;lia)
 #af U (bB U U ?_)
 #aC (λz=>?_) (λz=>?_)
 . #af U (bu U akB (λp hp=>⟨akA,λp2 cy=>?_⟩))
   !k1:dP (upd H2 p (.tup [.str "same",v1,v2])) (.ref p) (.two .same e1 e2):=⟨v1,v2,⟨p,rfl,ae⟩,lp.keep (aG hp _),Gy.keep (aG hp _)⟩
   #q (.ref p2) _ (.nt (.two .same e1 e2)) (az (az s2 hp) cy) ⟨.ref p,⟨p2,U,ae⟩,k1.keep (aG cy _)⟩ ⟨kW,GV⟩ ⟨i7,Dg⟩ (by change max e1.dep e2.dep+1+1<=5;lia)
 #af U (bB U U ?_)
 #aC (λz=>?_) (λz=>?_)
 . #af U (bu U akB (λp hp=>(af U (bu U akB (λp2 cy=>⟨akA,λp3 N4=>⟨akB,λp4 vA=>?_⟩⟩)))))
   !k1:dP (upd H2 p (.tup [.str "under",v1,v2])) (.ref p) (.two .under e1 e2):=⟨v1,v2,⟨p,rfl,ae⟩,lp.keep (aG hp _),Gy.keep (aG hp _)⟩
   !k2:dP (upd (upd H2 p (.tup [.str "under",v1,v2])) p2 (.tup [.str "under",v2,v1])) (.ref p2) (.two .under e2 e1):=⟨v2,v1,⟨p2,rfl,ae⟩,(Gy.keep (aG hp _)).keep (aG cy _),(lp.keep (aG hp _)).keep (aG cy _)⟩
   !k3:dP (upd (upd (upd H2 p (.tup [.str "under",v1,v2])) p2 (.tup [.str "under",v2,v1])) p3 (.tup [.str "not",.ref p2])) (.ref p3) (.nt (.two .under e2 e1)):=⟨.ref p2,⟨p3,rfl,ae⟩,k2.keep (aG N4 _)⟩
   #q (.ref p4) _ (.two .both (.two .under e1 e2) (.nt (.two .under e2 e1))) (az (az (az (az s2 hp) cy) N4) vA) ⟨.ref p,.ref p3,⟨p4,U,ae⟩,((k1.keep (aG cy _)).keep (aG N4 _)).keep (aG vA _),k3.keep (aG vA _)⟩ ⟨⟨kW,GV⟩,⟨GV,kW⟩⟩ ⟨⟨i7,Dg⟩,⟨Dg,i7⟩⟩
     (by change max (max e1.dep e2.dep+1) (max e2.dep e1.dep+1+1)+1<=5;lia)
 . #af U (bu U akB (λp hp=>(af U (bu U akB (λp2 cy=>⟨akA,λl3 zV=>?_⟩)))))
   !k1:dP (upd H2 p (.tup [.str "same",v1,v2])) (.ref p) (.two .same e1 e2):=⟨v1,v2,⟨p,rfl,ae⟩,lp.keep (aG hp _),Gy.keep (aG hp _)⟩
   !k2:dP (upd (upd H2 p (.tup [.str "same",v1,v2])) p2 (.tup [.str "under",v1,v2])) (.ref p2) (.two .under e1 e2):=⟨v1,v2,⟨p2,rfl,ae⟩,(lp.keep (aG hp _)).keep (aG cy _),(Gy.keep (aG hp _)).keep (aG cy _)⟩
   !last:∀X:Int,X=x0%8%2->∃(v:V) (e:TW.E),hW [V.ref p,V.ref p2] X=S v/\dP (upd (upd H2 p (.tup [.str "same",v1,v2])) p2 (.tup [.str "under",v1,v2])) v e/\e.kX/\e.okIn (OC names)/\e.dep<=5:=λX hX=>by
     rcases(show X=0\/X=1 by lia)with rfl|rfl
     . #⟨_,af U ⟨k1.keep (aG cy _),⟨kW,GV⟩,⟨i7,Dg⟩,(by change max e1.dep e2.dep+1<=5;lia)⟩⟩
     . #⟨_,af U ⟨k2,⟨kW,GV⟩,⟨i7,Dg⟩,(by change max e1.dep e2.dep+1<=5;lia)⟩⟩
   @⟨v,e,jV,ke,h1,h2,h3⟩:=last _ rfl
   #af U (dB U U (by change(0:Int)<2;decide) ?_)
   #bY ae jV ?_
   #q v _ e (az (az (az s2 hp) cy) zV) (ke.keep (aG zV _)) h1 h2 h3
abbrev HL:Stmt:=top 56
def B5:Sp:=λvs H Q z=>∃(r na:J) (row:O Int) (n:Nat) (names:O Str) (many:Int),vs=[.ref r,.ref na,.int many]/\H r=S (.lst (row.map V.int))/\Row (2^30) row n/\7<=n/\H na=S (.lst (names.map V.str))/\names~<=900/\0<many/\many<2^30 /\
 ∀(v:V) (H':Hp) (e:Nd),ak H H'->bZ H' v e->e.good (·∈names) many 5->Q v H'
def uG:aA ["row","names","many","after","way"] ["row","names","many"] (ao HL):=dX
def EH {f:J}{fd:aef}(F:cF K "_law_node" "_law_node" HL f fd)(m_len:mg "len"=Z)(S8:bI P w K mg base "_law_sum" ["row","names"] 1 wj)(C:bI P w K mg base "_law_condition" ["row","names"] 2 BR):aL P w K mg base cm 3 f fd ["row","names","many"] B5:=by
 #F.eO uG λcdv A outer s H vs Q E hr h=>?_
 @⟨r,na,row,n,names,many,rfl,tR,hR,hn7,kP,j6,zW,hm1,q⟩:=h
 !S1:=S8.mono (show 1<=2 by left)
 #⟨_,ai7 (aiz (aiL 3 uG.nd (aiB aiQ (aiy aiH (Y 0) aix) (Y 2)))
   (aiz (aiL 4 uG.nd (aiB aiQ (aiy aiH (Y 0) aix) aix))
   (aiz (aiM (aje (ajb (aiK aiR (Y 4) aix) (ajk (aje (L3.IT (aiK (L3.rj (m:=0) (bj hr _ (by left))) (Y 1) (aiO M)) (L3.IQ (aiK ai9 (Y 4) aix))))))) (aiA (aiF (aiG (L aiD M)))) aiN)
   (aiz (aiM (aiK ai9 (Y 4) aix) (aiA (aiF (aiG (L aiD (L (aiy aiH (Y 1) (aiB aiQ (aiy aiH (Y 0) aix) (aiS aiX U m_len aeo (L (Y 1) M)))) (L (aiJ S1 hr U (L (Y 0) (L (Y 1) M))) (L (Y 3) M))))))) aiN)
   (aiz (aiM (aiK ai9 (Y 4) aix) (aiA (aiF (aiG (L aiD (L (aiJ S1 hr U (L (Y 0) (L (Y 1) M))) (L (Y 3) M)))))) aiN)
   (aiA (aiF (aiG (L aiD (L (aiJ C hr U (L (Y 0) (L (Y 1) M))) (L (Y 3) (L (aiB aiQ (aiy aiH (Y 0) aix) (Y 2)) M)))))))))))),?_⟩
 @⟨x4,a4,Qp,x41⟩:=hR.at (i:=4) (by left) (by lia)
 @⟨x5,a5,x50,x51⟩:=hR.at (i:=5) (by left) (by lia)
 @⟨x6,a6,x60,x61⟩:=hR.at (i:=6) (by left) (by lia)
 !f0:∀x:Int,0<=x%many/\x%many<many:=λx=>⟨aeD _ (by lia),aeu _ zW⟩
 #af U ?_
 #bY tR a4 ?_
 #af U (aJ U U ⟨zW,?_⟩)
 #af U ?_
 #bY tR a5 ?_
 #dB U U (by change(0:Int)<8;decide) ?_
 #af U (bB U U ?_)
 #aC (λc1=>?_) (λc1=>?_)
 . #nC ?_
   #⟨akz,λp hp=>?_⟩
   #q (.ref p) _ .fin (ah hp _) ⟨p,U,ae⟩ aeh
 #bu U aky (λlz GI=>?_)
 @⟨H1,s1,hz1,zz⟩:=aK GI (.lst [])
 rw[zz];clear zz
 !jC:=s1 _ _ tR
 !jB:=s1 _ _ kP
 #⟨_,RB.nil (aB.of jB) (aB.of hz1),af U ?_⟩
 #aC (λc2=>?_) (λc2=>?_)
 . #af U (aJ U U (af U ?_))
   #aC (λc3=>?_) (λc3=>?_)
   . #⟨akz,λp hp=>?_⟩
     #q (.ref p) _ .fin (az s1 hp) ⟨p,U,ae⟩ aeh
   . !hz:names≠[]\/¬ x5%8<3:=.inr λz=>c3 (ed z)
     #af U (aJ U U (af U ?_))
     #aC (λc4=>?_) (λc4=>?_)
     . !hw:x5%8<3:=cU c4
       !mj:0<names~:=by
         rcases hz with z|z
         . #List.length_pos_iff.mpr z
         . #aw hw z
       !qV:(0:Int)<((names.map V.str)~:Int):=by rw[ad1];lia
       !fS:=aeu x6 qV
       @⟨y,_,hy,jV⟩:=dS V.str names (r:=x6%((names.map V.str)~:Int)) (aeD _ (by lia)) (by rw[ad1]at fS ⊢;#fS)
       #af U (af U ?_)
       #bY jC a6 ?_
       #af U (aJ U (.inl (aB.of jB)) (aJ U U ⟨qV,?_⟩))
       #bY jB jV ?_
       #af U (af U ⟨r,na,row,n,names,U,jC,hR.mono (by left),by lia,jB,j6,λv1 H2 e1 s2 lp kW i7 yJ=>?_⟩)
       #bu U akC (λp hp=>?_)
       #q (.ref p) _ (.put y e1 (x4%many)) (az (aa s1 s2) hp) ⟨v1,⟨p,U,ae⟩,lp.keep (aG hp _)⟩ ⟨hy,kW,i7,by lia,(f0 x4).1,(f0 x4).2⟩
     #af U (aJ U U (af U ?_))
     #aC (λc5=>?_) (λc5=>?_)
     . #af U (af U ⟨r,na,row,n,names,U,jC,hR.mono (by left),by lia,jB,j6,λv1 H2 e1 s2 lp kW i7 yJ=>?_⟩)
       #bu U akB (λp hp=>?_)
       #q (.ref p) _ (.say e1 (x4%many)) (az (aa s1 s2) hp) ⟨v1,⟨p,U,ae⟩,lp.keep (aG hp _)⟩ ⟨kW,i7,by lia,(f0 x4).1,(f0 x4).2⟩
     . #af U (af U ⟨r,na,row,n,names,U,jC,hR,by lia,jB,j6,λv1 H2 e1 s2 lp kW i7 yJ=>?_⟩)
       #af U (af U ?_)
       #bY (s2 _ _ jC) a6 ?_
       #af U (aJ U U ⟨zW,akC,λp hp=>?_⟩)
       #q (.ref p) _ (.test e1 (x4%many) (x6%many)) (az (aa s1 s2) hp) ⟨v1,⟨p,U,ae⟩,lp.keep (aG hp _)⟩ ⟨kW,i7,yJ,(f0 x4).1,(f0 x4).2,(f0 x6).1,(f0 x6).2⟩
 . #mn ?_
   !hz:names≠[]\/¬ x5%8<3:=.inl λz=>c2 (by rw[z];rfl)
   #af U (aJ U U (af U ?_))
   #aC (λc4=>?_) (λc4=>?_)
   . !hw:x5%8<3:=cU c4
     !mj:0<names~:=by
       rcases hz with z|z
       . #List.length_pos_iff.mpr z
       . #aw hw z
     !qV:(0:Int)<((names.map V.str)~:Int):=by rw[ad1];lia
     !fS:=aeu x6 qV
     @⟨y,_,hy,jV⟩:=dS V.str names (r:=x6%((names.map V.str)~:Int)) (aeD _ (by lia)) (by rw[ad1]at fS ⊢;#fS)
     #af U (af U ?_)
     #bY jC a6 ?_
     #af U (aJ U (.inl (aB.of jB)) (aJ U U ⟨qV,?_⟩))
     #bY jB jV ?_
     #af U (af U ⟨r,na,row,n,names,U,jC,hR.mono (by left),by lia,jB,j6,λv1 H2 e1 s2 lp kW i7 yJ=>?_⟩)
     #bu U akC (λp hp=>?_)
     #q (.ref p) _ (.put y e1 (x4%many)) (az (aa s1 s2) hp) ⟨v1,⟨p,U,ae⟩,lp.keep (aG hp _)⟩ ⟨hy,kW,i7,by lia,(f0 x4).1,(f0 x4).2⟩
   #af U (aJ U U (af U ?_))
   #aC (λc5=>?_) (λc5=>?_)
   . #af U (af U ⟨r,na,row,n,names,U,jC,hR.mono (by left),by lia,jB,j6,λv1 H2 e1 s2 lp kW i7 yJ=>?_⟩)
     #bu U akB (λp hp=>?_)
     #q (.ref p) _ (.say e1 (x4%many)) (az (aa s1 s2) hp) ⟨v1,⟨p,U,ae⟩,lp.keep (aG hp _)⟩ ⟨kW,i7,by lia,(f0 x4).1,(f0 x4).2⟩
   . #af U (af U ⟨r,na,row,n,names,U,jC,hR,by lia,jB,j6,λv1 H2 e1 s2 lp kW i7 yJ=>?_⟩)
     #af U (af U ?_)
     #bY (s2 _ _ jC) a6 ?_
     #af U (aJ U U ⟨zW,akC,λp hp=>?_⟩)
     #q (.ref p) _ (.test e1 (x4%many) (x6%many)) (az (aa s1 s2) hp) ⟨v1,⟨p,U,ae⟩,lp.keep (aG hp _)⟩ ⟨kW,i7,yJ,(f0 x4).1,(f0 x4).2,(f0 x6).1,(f0 x6).2⟩
def f7 {X:Cx}{ss:O Stmt}{G:TS->Prop}(h:∃t,L3.SL X ss t/\G t):∃t,mV X ss t/\G t:=by@⟨t,a,b⟩:=h;#⟨t,a.h,b⟩
def kM {α:Type}(xs:O α)(lo hi:Option Int):O α:=(xs.drop (HT.dJ xs~ 0 lo)).take (HT.dJ xs~ xs~ hi-HT.dJ xs~ 0 lo)
def jw {α:Type}(f:α->V)(xs:O α)(lo hi:Option Int):j4 (xs.map f) lo hi=(kM xs lo hi).map f:=by
 unfold j4 kM
 rw[ad1,← List.map_drop,← ahU]
def zo {α:Type}(xs:O α)(lo hi:Option Int):(kM xs lo hi).Sublist xs:=(agn _ _).trans (List.drop_sublist _ _)
def DC {α:Type}(xs:O α)(n:Nat):kM xs Z (S (n:Int))=xs.take n:=by
 unfold kM
 rw[HT.gU,HT.Br,afR,Nat.sub_zero]
 by_cases h:n<=xs~
 . rw[af9 h]
 . rw[Nat.min_eq_right (by lia),aed,aeE (by lia)]
def zm {α:Type}(xs:O α)(m n:Nat)(h:n<=xs~)(hm:m<=n):kM xs (S (m:Int)) (S (n:Int))=(xs.drop m).take (n-m):=by
 unfold kM
 rw[HT.gU,HT.gU,af9 h,af9 (by lia)]
def aT {α:Type}(n:Int)(xs:O α):O α:=if n=1 then xs else xs.reverse
def yx {α:Type}(f:α->V)(n:Int)(xs:O α):fB n (xs.map f)=(aT n xs).map f:=by
 unfold fB aT
 split
 . rfl
 . rw[agy]
def gE {α:Type}{n:Int}{xs:O α}{x:α}:x∈aT n xs↔x∈xs:=by
 unfold aT
 split
 . #Iff.rfl
 . #List.mem_reverse
def mR {α:Type}{n:Int}{xs:O α}(h:xs.Nodup):(aT n xs).Nodup:=by
 unfold aT
 split
 . #h
 . #(List.Perm.nodup_iff (List.reverse_perm xs)).mpr h
abbrev uD:Stmt:=top 57
def L5 (nm:O Str):Prop:=nm=(["a","ab"]:O Str)\/nm=(["x","a"]:O Str)\/nm=(["boxes","box"]:O Str)
structure e8 (bs:ag)(ins:O Str):Prop where
 nm:∃nm szs,L5 nm/\szs~<=2/\(∀s∈szs,(1:Int)<=s/\s<=5)/\bs=nm.zip szs
 ind:ins.Nodup
 insub:∀x∈ins,x∈bs.map (·.1)
def L5.len {nm:O Str}(h:L5 nm):nm~=2:=by rcases h with rfl|rfl|rfl<;>rfl
def L5.nd {nm:O Str}(h:L5 nm):nm.Nodup:=by rcases h with rfl|rfl|rfl<;>decide +kernel
theorem qk {α β:Type}:∀(xs:O α) (ys:O β),ys~<=xs~->(xs.zip ys).map (·.1)=xs.take ys~
 | [],[],_=>rfl
 | _::_,[],_=>rfl
 | [],_::_,h=>by simp at h
 | x::xs,y::ys,h=>by
   change x::(xs.zip ys).map (·.1)=x::xs.take ys~
   rw[qk xs ys (by simpa using h)]
def e8.nd {bs:ag}{ins:O Str}(h:e8 bs ins):(bs.map (·.1)).Nodup:=by
 @⟨nm,szs,h1,h2,_,rfl⟩:=h.nm
 rw[qk _ _ (by rw[h1.len];#h2)]
 #h1.nd.sublist (agn _ _)
def e8.len {bs:ag}{ins:O Str}(h:e8 bs ins):bs~<=2:=by
 @⟨nm,szs,h1,h2,_,rfl⟩:=h.nm
 rw[List.length_zip]
 lia
def e8.sz {bs:ag}{ins:O Str}(h:e8 bs ins):∀b∈bs,1<=b.2/\b.2<=5:=λb hb=>by
 @⟨nm,szs,h1,h2,h3,rfl⟩:=h.nm
 #h3 _ (afl (a:=b.1) (b:=b.2) hb).2
def pZ:Sp:=λvs H Q z=>∃(n:Int),vs=[.int n]/\0<=n/\∀(p B I:J) (H':Hp) (vb:O V) (bs:ag) (ins:O Str),ak H H'->H' p=S (.tup [.ref B,.ref I])->H' B=S (.lst vb)->Paired (cE H') vb bs->H' I=S (.lst (ins.map V.str))->e8 bs ins->Q (.ref p) H'
def jQ:aA ["number","sizes","names","boxes","inputs"] ["number"] (ao uD):=dX
def AN {f:J}{fd:aef}(F:cF K "_law_boxes" "_law_boxes" uD f fd)(m_len:mg "len"=Z)(m_range:mg "range"=Z)(m_int:mg "int"=Z):aL P w K mg base cm 1 f fd ["number"] pZ:=by
 #F.eO jQ λcdv A outer s H vs Q E hr h=>?_
 @⟨n,rfl,hn0,q⟩:=h
 #f7 ⟨_,(aiz (aiL 1 jQ.nd (aiy aiH (aiO (L (aiO (L aix M)) (L (aiO (L aix (L aix M))) (L (aiO M) (L (aiO (L aix M)) (L (aiO (L aix (L aix M))) (L (aiO (L aix M)) (L (aiO (L aix (L aix M))) (L (aiO (L aix M)) M))))))))) (aiB aiQ (Y 0) aix)))
   (aiz (aiL 2 jQ.nd (aiy aiH (aiO (L (aiO (L aiD (L aiD M))) (L (aiO (L aiD (L aiD M))) (L (aiO (L aiD (L aiD M))) M)))) (aiB aiQ (aiB aja (Y 0) aix) aix)))
   (aiz (ajn (i:=3) [Z,S 2,S 1] ["k","names","sizes"] (ij uD) U (ajj U m_range (L (aiS aiX U m_len aeo (L (Y 1) M)) M)) (λv v v v v=>⟨(aiC 0 (dW ["k","names","sizes"])),aiV,(aiG (L (aiy aiH (Y 1) (Y 0)) (L (aiy aiH (Y 2) (Y 0)) M)))⟩) jQ.nd)
   (aiz (aiL 4 jQ.nd (L3.LF (L3.LG (Y 2) (aiS aiX U m_len aeo (L (Y 1) M))) (aiB ai5 (aiB aiQ (aiB aja (Y 0) aix) aix) (ai2 ajs U m_int (by right) (L (ai4 ai9 (aiB aiQ (aiB aja (Y 0) aix) aix) aix) M)))))
   (aiA (aiF (aiG (L (Y 3) (L (L3.BL (Y 4) (aiB ajm aix (aiB ai5 aix (aiB aiQ (aiB aja (Y 0) aix) aix)))) M))))))))),?_⟩
 #⟨akz,λUL Tj=>?_⟩
 @⟨A0,sA0,Zs,zz⟩:=aK Tj (.lst [.int 2])
 rw[zz];clear zz
 #⟨akA,λUM Tn=>?_⟩
 @⟨A1,sA1,Zt,zz⟩:=aK Tn (.lst [.int 2,.int 3])
 rw[zz];clear zz
 #⟨aky,λUN To=>?_⟩
 @⟨A2,sA2,Zu,zz⟩:=aK To (.lst [])
 rw[zz];clear zz
 #⟨akz,λUO Tq=>?_⟩
 @⟨A3,sA3,Zv,zz⟩:=aK Tq (.lst [.int 3])
 rw[zz];clear zz
 #⟨akA,λUP Tr=>?_⟩
 @⟨A4,sA4,Zw,zz⟩:=aK Tr (.lst [.int 2,.int 2])
 rw[zz];clear zz
 #⟨akz,λUQ Ts=>?_⟩
 @⟨A5,sA5,Zx,zz⟩:=aK Ts (.lst [.int 5])
 rw[zz];clear zz
 #⟨akA,λUR Tt=>?_⟩
 @⟨A6,sA6,Zy,zz⟩:=aK Tt (.lst [.int 1,.int 3])
 rw[zz];clear zz
 #⟨akz,λUS Tu=>?_⟩
 @⟨A7,sA7,Zz,zz⟩:=aK Tu (.lst [.int 4])
 rw[zz];clear zz
 #⟨akE,λlAz Tv=>?_⟩
 @⟨Az,sAz,ZA,zz⟩:=aK Tv (.lst [.ref UL,.ref UM,.ref UN,.ref UO,.ref UP,.ref UQ,.ref UR,.ref US])
 rw[zz];clear zz
 !Y2:=(sAz _ _ (sA7 _ _ (sA6 _ _ (sA5 _ _ (sA4 _ _ (sA3 _ _ (sA2 _ _ (sA1 _ _ Zs))))))))
 !Y3:=(sAz _ _ (sA7 _ _ (sA6 _ _ (sA5 _ _ (sA4 _ _ (sA3 _ _ (sA2 _ _ Zt)))))))
 !Y4:=(sAz _ _ (sA7 _ _ (sA6 _ _ (sA5 _ _ (sA4 _ _ (sA3 _ _ Zu))))))
 !Y5:=(sAz _ _ (sA7 _ _ (sA6 _ _ (sA5 _ _ (sA4 _ _ Zv)))))
 !Y6:=(sAz _ _ (sA7 _ _ (sA6 _ _ (sA5 _ _ Zw))))
 !Y7:=(sAz _ _ (sA7 _ _ (sA6 _ _ Zx)))
 !Y8:=(sAz _ _ (sA7 _ _ Zy))
 !Y9:=(sAz _ _ Zz)
 !kA:ak H Az:=(aa (aa (aa (aa (aa (aa (aa (aa (aa (same_refl _) sA0) sA1) sA2) sA3) sA4) sA5) sA6) sA7) sAz)
 !pA:∃(sa:J) (szs:O Int),hW ([.ref UL,.ref UM,.ref UN,.ref UO,.ref UP,.ref UQ,.ref UR,.ref US]:O V) (n%8)=S (.ref sa)/\Az sa=S (.lst (szs.map V.int))/\szs~<=2/\∀s∈szs,(1:Int)<=s/\s<=5:=by
   rcases(show n%8=0\/n%8=1\/n%8=2\/n%8=3\/n%8=4\/n%8=5\/n%8=6\/n%8=7 by lia)with e|e|e|e|e|e|e|e<;>rw[e]
   . #⟨UL,[2],U,Y2,by left,by left⟩
   . #⟨UM,[2,3],U,Y3,by left,by left⟩
   . #⟨UN,[],U,Y4,by left,by left⟩
   . #⟨UO,[3],U,Y5,by left,by left⟩
   . #⟨UP,[2,2],U,Y6,by left,by left⟩
   . #⟨UQ,[5],U,Y7,by left,by left⟩
   . #⟨UR,[1,3],U,Y8,by left,by left⟩
   . #⟨US,[4],U,Y9,by left,by left⟩
 @⟨sa,szs,SJ,GL,hs2,hs5⟩:=pA
 #af U (dB U U (by change(0:Int)<8;decide) ?_)
 #bY ZA SJ ?_
 #⟨akA,λUT Tw=>?_⟩
 @⟨B0,sB0,ZC,zz⟩:=aK Tw (.lst [.str "a",.str "ab"])
 rw[zz];clear zz
 #⟨akA,λUU Tx=>?_⟩
 @⟨B1,sB1,ZD,zz⟩:=aK Tx (.lst [.str "x",.str "a"])
 rw[zz];clear zz
 #⟨akA,λUW Tz=>?_⟩
 @⟨B2,sB2,ZE,zz⟩:=aK Tz (.lst [.str "boxes",.str "box"])
 rw[zz];clear zz
 #⟨akB,λlBz TC=>?_⟩
 @⟨Bz,sBz,ZF,zz⟩:=aK TC (.lst [.ref UT,.ref UU,.ref UW])
 rw[zz];clear zz
 !Za:=(sBz _ _ (sB2 _ _ (sB1 _ _ ZC)))
 !Zb:=(sBz _ _ (sB2 _ _ ZD))
 !Zc:=(sBz _ _ ZE)
 !kB:ak Az Bz:=(aa (aa (aa (aa (same_refl _) sB0) sB1) sB2) sBz)
 !pB:∃(na:J) (nm:O Str),hW ([.ref UT,.ref UU,.ref UW]:O V) (n/8%3)=S (.ref na)/\Bz na=S (.lst (nm.map V.str))/\L5 nm:=by
   rcases(show n/8%3=0\/n/8%3=1\/n/8%3=2 by lia)with e|e|e<;>rw[e]
   . #⟨UT,["a","ab"],U,Za,.inl rfl⟩
   . #⟨UU,["x","a"],U,Zb,.inr (.inl rfl)⟩
   . #⟨UW,["boxes","box"],U,Zc,.inr (.inr rfl)⟩
 @⟨na,nm,SN,kP,NW⟩:=pB
 !d8:(8:Int)<2^1000:=by right
 !Wa:(24:Int)<2^1000:=by right
 !YR:(72:Int)<2^1000:=by right
 #af U (aJ U U ⟨⟨(by change(0:Int)<8;decide),d8⟩,dB U U (by change(0:Int)<3;decide) ?_⟩)
 #bY ZF SN ?_
 !GL:=kB _ _ GL
 !k0:=aa kA kB
 !Xe:=NW.len
 !GI:(nm.zip szs)~=szs~:=by rw[List.length_zip];lia
 #af U (aJ U (.inl (aB.of GL)) (af U ⟨by rw[ad1];lia,by rw[ad1];lia,λnb lq=>?_⟩))
 rw[ad1]
 #d9 (lo:=0) (n:=((szs~:Nat):Int).toNat) (λi H2=>∃vb:O V,ak Bz H2/\H2 nb=S (.lst vb)/\vb~=i/\Paired (cE H2) vb ((nm.zip szs).take i)) ⟨[],ah lq _,ae,U,.nil⟩ (λi H2 hi z=>?_) (λH2 z=>?_)
 . @⟨vb,s2,xu,pD,pb⟩:=z
   !yK:i<szs~:=by lia
   !xx:i<nm~:=by lia
   !e0:((0:Int)+(i:Int)).toNat=i:=by lia
   @⟨y,gy,_,SR⟩:=dS V.str nm (r:=0+(i:Int)) (by lia) (by lia)
   @⟨z,gz,_,SU⟩:=dS V.int szs (r:=0+(i:Int)) (by lia) (by lia)
   rw[e0]at gy gz
   #aS ?_
   #bQ (A:=λH3=>cB _ nb _ H3 _) ?_
   #af U (af U ?_)
   #bY (s2 _ _ kP) SR ?_
   #af U (af U ?_)
   #bY (s2 _ _ GL) SU ?_
   #⟨akA,λp2 cy=>⟨vb,?_,aD (by lia),aF (Pv:=λi H2=>∃vb:O V,ak Bz H2/\H2 nb=S (.lst vb)/\vb~=i/\Paired (cE H2) vb ((nm.zip szs).take i)) (by repeat' constructor) hi ?_⟩⟩
   . rw[aj (ai xu cy)];#xu
   . !Mg:(upd H2 p2 (.tup [.str y,.int z])) nb=S (.lst vb):=by rw[aj (ai xu cy)];#xu
     !t4:TK H2 (upd (upd H2 p2 (.tup [.str y,.int z])) nb (.lst (vb++[.ref p2]))):=(aG cy _).trans (TK.lst Mg)
     #⟨vb++[.ref p2],aE (az s2 cy) lq,ae,by rw[ad7,pD];rfl,?_⟩
     !ez:(nm.zip szs)[i]?=S (y,z):=by rw[ahM];#⟨gy,gz⟩
     rw[aec,ez]
     #Paired.snoc (Paired.aP pb λa b h=>Tp.keep t4 h) ⟨p2,U,by rw[aj (ai xu cy).symm];#ae⟩
 . @⟨vb,s2,xu,pD,pb⟩:=z
   rw[aes,← GI,aed]at pb
   !k2:=aa k0 s2
   !D8:=s2 _ _ kP
   !Uo:=s2 _ _ GL
   #af U (af U (aJ U (.inl (aB.of Uo)) (af U (aJ U (aB.of D8) (λp3 N4=>?_)))))
   rw[ad1,jw,DC]
   !cl:∀c:Bool,(-(2^64):Int)<(if c=true then 1 else 0)/\(if c=true then(1:Int)else 0)<2^64:=by left
   #af U (aJ U U ⟨⟨(by change(0:Int)<24;decide),Wa⟩,dB U U (by change(0:Int)<3;decide) (af U (aJ U U ⟨⟨(by change(0:Int)<24;decide),Wa⟩,dB U U (by change(0:Int)<3;decide) (aJ U U (.inr (af U (aJ U U ⟨.inr (cl _),af U (aJ U (aB.of ae) (λp4 vA=>?_))⟩))))⟩))⟩)
   rw[jw]
   !sub:=(zo (nm.take szs~) (S (n/24%3*if decide (n/24%3<2)=true then 1 else 0)) Z)
   generalize kM (nm.take szs~) (S (n/24%3*if decide (n/24%3<2)=true then 1 else 0)) Z=JD at sub ⊢
   #af U (af U (af U (aJ U U ⟨⟨(by change(0:Int)<72;decide),YR⟩,dB U U (by change(0:Int)<2;decide) (dB U U (.inl ⟨by left,by left⟩) (aJ U U (af U ⟨?_,aJ U (aB.of ae) (λp5 yM=>⟨akA,λp6 z7=>?_⟩)⟩)))⟩)))
   . !:=aeD (n/72) (show(2:Int)≠0 by left)
     !:=aeu (n/72) (show(0:Int)<2 by left)
     lia
   !k6:=az (o:=.tup [.ref nb,.ref p5]) (az (o:=.lst (fB (1-2*(n/72%2)) (JD.map V.str))) (az (o:=.lst (JD.map V.str)) (az (o:=.lst ((nm.take szs~).map V.str)) (same_refl H2) N4) vA) yM) z7
   #q p6 nb p5 _ vb (nm.zip szs) (aT (1-2*(n/72%2)) JD) (aa k2 k6) ae (k6 _ _ xu) (Paired.aP pb λa b h=>Tp.keep (ak.tk k6) h) ?_ ⟨⟨nm,szs,NW,hs2,hs5,U⟩,?_,λx hx=>?_⟩
   . rw[aj (ai ae z7),ae,yx]
   . #mR ((NW.nd.sublist (agn _ _)).sublist sub)
   . rw[qk _ _ (by lia)]
     #sub.mem (gE.mp hx)
def zj {α:Type}(xs:O α)(m n:Nat):(kM xs (S (m:Int)) (S (n:Int)))~<=n-m:=by
 unfold kM
 rw[HT.gU,HT.gU,aea]
 omega
abbrev vV:Stmt:=top 58
structure u7 (bs:ag)(ins:O Str)(nds:O Nd)(most:Int):Prop where
 bx:e8 bs ins
 one:1<=nds~
 fI:(nds~:Int)<=most
 good:∀e∈nds,e.good (·∈bs.map (·.1)) nds~ 5
def B8 (K:ad2):Sp:=λvs H Q z=>∃(a:J) (ns:O Int) (most:Int),vs=[.ref a,.int most]/\aB K H a (ns.map V.int)/\0<most/\most<=100/\∀(v:V) (H':Hp) (bs:ag) (ins:O Str) (nds:O Nd),ak H H'->aN H' v bs ins nds->u7 bs ins nds most->Q v H'
def fV:aA ["script","most","head","boxes","inputs","names","cells","far","nodes","cell"] ["script","most"] (ao vV):=dX
def EM {f:J}{fd:aef}(F:cF K "_law_program" "_law_program" vV f fd)(m_len:mg "len"=Z)(m_range:mg "range"=Z)(CE:bI P w K mg base "_law_cell_at" ["script","k"] 1 (p8 K))(NU:bI P w K mg base "_law_numbers" ["cell","many","base"] 1 iQ)
    (BX:bI P w K mg base "_law_boxes" ["number"] 1 pZ) (ND:bI P w K mg base "_law_node" ["row","names","many"] 3 B5):aL P w K mg base cm 4 f fd ["script","most"] (B8 K):=by
 #F.eO fV λcdv A outer s H vs Q E hr h=>?_
 @⟨a,ns,most,rfl,hS,zW,hm1,q⟩:=h
 !VW:=CE.mono (show 1<=3 by left)
 !V1:=NU.mono (show 1<=3 by left)
 !Yc:=BX.mono (show 1<=3 by left)
 #f7 ⟨_,(aiz (aiL 2 fV.nd (aiJ V1 hr U (L (aiJ VW hr U (L (Y 0) (L aix M))) (L aix (L aix M)))))
   (aiz (ajg (aiJ Yc hr U (L (aiy aiH (Y 2) aix) M)) (aiT 2 (aiI (aiC 3 fV.nd) (aiI (aiC 4 fV.nd) aiU))))
   (aiz (ajn (i:=5) [Z,Z] ["name","size"] (ij vV) U (aiW (Y 3)) (λu u u u u=>⟨(aiT 2 (aiI (aiC 0 (dW ["name","size"])) (aiI (aiC 1 (dW ["name","size"])) aiU))),aiV,(Y 0)⟩) fV.nd)
   (aiz (aiL 6 fV.nd (L3.Ic (Y 0) aix (aiB aiZ aix (Y 1))))
   (aiz (aiM (aiK (L3.rj (m:=0) (bj hr _ (by left))) (Y 6) (aiO M)) (aiz (aiL 7 fV.nd (aiB aiQ (aiJ VW hr U (L (Y 0) (L aix M))) (aiB ajr aix aix)))
   (aiA (ajn (i:=6) [Z,S 7] ["k","far"] (ij vV) U (ajj U m_range (L (aiB aiZ aix (aiB aiQ (aiy aiH (Y 2) aix) (Y 1))) M)) (λu u u u u=>⟨(aiC 0 (dW ["k","far"])),aiV,(aiB aiZ (Y 1) (aiB ai5 aix (Y 0)))⟩) fV.nd))) aiN)
   (aiz (aiL 8 fV.nd (aiO M))
   (aiz (ai0 (aiW (Y 6)) (aiC 9 fV.nd) (aiA (ai3 (ajf (Y 8) (L (aiJ ND hr U (L (aiJ V1 hr U (L (Y 9) (L aix (L aix M)))) (L (Y 5) (L (aiS aiX U m_len aeo (L (Y 6) M)) M)))) M)))))
   (aiA (aiF (aiG (L (Y 3) (L (Y 4) (L (Y 8) M))))))))))))),?_⟩
 #af U ⟨a,ns,0,U,hS,ag0 _,λc=>⟨c,2,5040,U,by left,by left,by left,by left,λhd row hhd hR=>?_⟩⟩
 @⟨H1,s1,h1,zz⟩:=aK hhd (.lst (row.map V.int))
 rw[zz];clear zz
 @⟨x0,a0,RA,VJ⟩:=hR.at (i:=0) (by left) (by left)
 @⟨x1,a1,VL,VM⟩:=hR.at (i:=1) (by left) (by left)
 #af U ?_
 #bY h1 a0 ?_
 #⟨x0,U,RA,λp B I H2 vb bs ins s2 hp hB pb hI R0=>?_⟩
 !k2:=aa s1 s2
 !pD:vb~=bs~:=Paired.length pb
 !xu:=R0.len
 #nJ hp ?_
 #af U (bu U ⟨_,aB.of hB⟩ (λna kP=>?_))
 !Oy:B≠na:=ai hB kP
 #aV (xs:=vb) (λi H3=>H3=upd H2 na (.lst ((bs.take i).map λb=>V.str b.1))) rfl (λi H3 u e=>?_) (λi x H3 hx e=>?_) (λH3 e=>?_)
 . subst e
   #aB.of (by rw[aj Oy];#hB)
 . subst e
   @⟨b,ik,p,rfl,hp⟩:=Paired.get pb hx
   !du:i<vb~:=(aH hx)
   #nJ (by rw[aj (ai hp kP)];#hp) ?_
   #bQ (A:=λH3=>cB (qg 0) na _ H3 _) (af U ⟨_,ae,aD (by rw[ad1,aea];lia),aF (Pv:=λi H3=>H3=upd H2 na (.lst ((bs.take i).map λb=>V.str b.1))) (by repeat' constructor) du ?_⟩)
   rw[da]
   congr 2
   rw[aec,ik,aeb]
   rfl
 subst e
 !et:(bs.take vb~).map (λb=>V.str b.1)=(bs.map (·.1)).map V.str:=by rw[pD,aed,ae0];rfl
 rw[et]
 @⟨H3,s3,kP,zz⟩:=aK kP (.lst ((bs.map (·.1)).map V.str))
 rw[zz];clear zz
 !k3:=aa k2 s3
 !Z7:=ak.seq k3 hS
 !hB:=s3 _ _ hB
 !hI:=s3 _ _ hI
 !pb:Paired (cE H3) vb bs:=Paired.aP pb λa b h=>Tp.keep (ak.tk s3) h
 #af U (af U (af U (aJ U U (af U ⟨a,af U ⟨Z7,λce rZ=>?_⟩⟩))))
 !e2:(2+most:Int)=((2+most.toNat:Nat):Int):=by lia
 rw[jw]
 !M6:(kM ns (S 2) (S (2+most)))~<=most.toNat:=by
   !:=zj ns 2 (2+most.toNat)
   rw[← e2]at this
   #aeg this (by lia)
 generalize kM ns (S 2) (S (2+most))=cs at M6 ⊢
 @⟨H4,s4,rZ,zz⟩:=aK rZ (.lst (cs.map V.int))
 rw[zz];clear zz
 #bu U aky (λlz GI=>?_)
 !s4:=aa s4 (ah GI (.lst []))
 !rZ:=ah GI (.lst []) _ _ rZ
 !hz:(upd H4 lz (.lst [])) lz=S (.lst []):=ae
 generalize upd H4 lz (.lst [])=H4 at s4 rZ hz ⊢
 !k4:=aa k3 s4
 !kP:=s4 _ _ kP
 !hB:=s4 _ _ hB
 !hI:=s4 _ _ hI
 !pb:Paired (cE H4) vb bs:=Paired.aP pb λa b h=>Tp.keep (ak.tk s4) h
 #⟨_,RB.nil (aB.of rZ) (aB.of hz),af U ?_⟩
 #aC (λcc=>?_) (λcc=>?_)
 . !ZX:=s4 _ _ (s3 _ _ (s2 _ _ h1))
   #af U ⟨a,ns,0,U,ak.seq k4 hS,ag0 _,λc2=>(dB U U ⟨by left,by left,by left⟩ (aJ U U ⟨(show(0:Int)<10^(17:Int).toNat by right),?_⟩))⟩
   #af U ?_
   #bY ZX a1 ?_
   #af U (aJ U U ⟨zW,aJ U U (af U ⟨?_,?_,λQE S5=>?_⟩)⟩)
   . !:=aeD x1 (show most≠0 by lia);lia
   . !:=aeu x1 zW;lia
   !hmn:=aeD x1 (show most≠0 by lia)
   !hml:=aeu x1 zW
   #d9 (lo:=0) (n:=(1+x1%most).toNat) (λi H5=>∃cs:O Int,H5=upd H4 QE (.lst (cs.map V.int))/\cs~=i) ⟨[],U,U⟩ (λi H5 hi z=>?_) (λH5 z=>?_)
   . @⟨cs,rfl,Dc⟩:=z
     #aS ?_
     #bQ (A:=λH3=>cB _ QE _ H3 _) ?_
     #af U (af U (dB U U (.inl ⟨by left,by left⟩) (aJ U U ⟨_,ae,aD (by rw[ad1];lia),aF (Pv:=λi H5=>∃cs:O Int,H5=upd H4 QE (.lst (cs.map V.int))/\cs~=i) (by repeat' constructor) hi ⟨cs++[c2%10^(17:Int).toNat+211*(0+(i:Int))],?_,by rw[ad7,Dc];rfl⟩⟩)))
     rw[da,aeb]
     rfl
   . @⟨C5,rfl,Dc⟩:=z
     @⟨HH,s5,rZ,zz⟩:=aK S5 (.lst (C5.map V.int))
     rw[zz];clear zz
     !Xy:=aa k4 s5
     !kP:=s5 _ _ kP
     !hB:=s5 _ _ hB
     !hI:=s5 _ _ hI
     !pb:Paired (cE HH) vb bs:=Paired.aP pb λa b h=>Tp.keep (ak.tk s5) h
     !wO:C5≠[]:=λz=>by rw[z]at Dc;simp at Dc;lia
     !M6:C5.length<=most.toNat:=by lia
     #⟨aky,λnb lq=>?_⟩
     !cl:0<C5.length:=List.length_pos_iff.mpr wO
     !tO:((C5.map V.int)~:Int)=(C5.length:Int):=by rw[ad1]
     #af U (bu U ⟨_,aB.of (ah lq _ _ _ rZ)⟩ ?_)
     #dz (xs:=C5.map V.int) (λi σ H5=>(∃cv,σ=[S (.ref a),S (.int most),S (.ref hd),S (.ref B),S (.ref I),S (.ref na),S (.ref QE),S (.int (c2%10^(17:Int).toNat)),S (.ref nb),cv])/\∃(vn:O V) (nds:O Nd),ak HH H5/\H5 nb=S (.lst vn)/\Paired (bZ H5) vn nds/\nds~=i/\∀e∈nds,e.good (·∈bs.map (·.1)) C5.length 5) ⟨⟨_,U⟩,[],[],ah lq _,ae,.nil,U,λe he=>nomatch he⟩ (λi σ H5 u z=>?_) (λi x σ H5 hx z=>?_) (λσ H5 z=>?_)
     . @⟨_,vn,nds,s5,_⟩:=z
       #aB.of (s5 _ _ rZ)
     . @⟨⟨cv,rfl⟩,vn,nds,s5,pq,pn,j6,gd⟩:=z
       obtain⟨c3,Mi,rfl⟩ : ∃c,C5[i]?=S c/\x=V.int c:=by
         rw[aei]at hx
         @⟨y,h1,h2⟩:=Option.map_eq_some_iff.mp hx
         #⟨y,h1,h2.symm⟩
       !du:i<C5.length:=(aH Mi)
       !WV:vn~=nds~:=Paired.length pn
       #af U ⟨.inl ⟨U,_,aB.of pq⟩,?_⟩
       #af U ⟨c3,7,720,U,by left,by left,by left,by left,λl row hl hR=>?_⟩
       !s6:=aa s5 (ah hl (.lst (row.map V.int)))
       #af U (af U (aJ U (.inl (aB.of (s6 _ _ rZ))) ⟨l,na,row,7,bs.map (·.1),af U ⟨ae,hR.mono (by left),ad5 _,s6 _ _ kP,by rw[ad1];lia,by rw[tO];lia,by rw[tO];lia,λv H7 e s7 ea ge=>?_⟩⟩))
       rw[tO]at ge
       !tP:H7 nb=S (.lst vn):=s7 _ _ (ah hl _ _ _ pq)
       #⟨nb,vn,v,U,U,tP,aD (by lia),⟨_,U⟩,?_⟩
       !t8:TK H5 (upd H7 nb (.lst (vn++[v]))):=((aG hl _).trans (ak.tk s7)).trans (TK.lst tP)
       #⟨vn++[v],nds++[e],aE (aa s6 s7) lq,ae,Paired.snoc (Paired.aP pn λa b h=>bZ.keep t8 h) (bZ.keep (TK.lst tP) ea),by rw[ad7,j6];rfl,λx hx=>?_⟩
       rcases eI hx with y|y
       . #gd x y
       . rw[cR y]
         #ge
     . @⟨⟨cv,rfl⟩,vn,nds,s5,pq,pn,j6,gd⟩:=z
       rw[ad1]at j6
       #af U (af U (bu U akB (λp9 N5=>?_)))
       !s9:=az (o:=.tup [.ref B,.ref I,.ref nb]) s5 N5
       !Pr:ak H5 (upd H5 p9 (.tup [.ref B,.ref I,.ref nb])):=ah N5 _
       #q (.ref p9) _ bs ins nds (aa Xy s9) ⟨p9,B,I,nb,vb,vn,U,ae,s9 _ _ hB,s9 _ _ hI,Pr _ _ pq,Paired.aP pb λa b h=>Tp.keep (ak.tk s9) h,Paired.aP pn λa b h=>bZ.keep (ak.tk Pr) h⟩ ⟨R0,by lia,by lia,by rw[j6];#gd⟩
 . !wO:cs≠[]:=λz=>cc (by rw[z];rfl)
   !Xy:=k4
   #⟨aky,λnb lq=>?_⟩
   !cl:0<cs~:=List.length_pos_iff.mpr wO
   !tO:((cs.map V.int)~:Int)=(cs~:Int):=by rw[ad1]
   #af U (bu U ⟨_,aB.of (ah lq _ _ _ rZ)⟩ ?_)
   #dz (xs:=cs.map V.int) (λi σ H5=>(∃cv,σ=[S (.ref a),S (.int most),S (.ref hd),S (.ref B),S (.ref I),S (.ref na),S (.ref ce),Z,S (.ref nb),cv])/\∃(vn:O V) (nds:O Nd),ak H4 H5/\H5 nb=S (.lst vn)/\Paired (bZ H5) vn nds/\nds~=i/\∀e∈nds,e.good (·∈bs.map (·.1)) cs~ 5) ⟨⟨_,U⟩,[],[],ah lq _,ae,.nil,U,λe he=>nomatch he⟩ (λi σ H5 u z=>?_) (λi x σ H5 hx z=>?_) (λσ H5 z=>?_)
   . @⟨_,vn,nds,s5,_⟩:=z
     #aB.of (s5 _ _ rZ)
   . @⟨⟨cv,rfl⟩,vn,nds,s5,pq,pn,j6,gd⟩:=z
     obtain⟨c3,Mi,rfl⟩ : ∃c,cs[i]?=S c/\x=V.int c:=by
       rw[aei]at hx
       @⟨y,h1,h2⟩:=Option.map_eq_some_iff.mp hx
       #⟨y,h1,h2.symm⟩
     !du:i<cs~:=(aH Mi)
     !WV:vn~=nds~:=Paired.length pn
     #af U ⟨.inl ⟨U,_,aB.of pq⟩,?_⟩
     #af U ⟨c3,7,720,U,by left,by left,by left,by left,λl row hl hR=>?_⟩
     !s6:=aa s5 (ah hl (.lst (row.map V.int)))
     #af U (af U (aJ U (.inl (aB.of (s6 _ _ rZ))) ⟨l,na,row,7,bs.map (·.1),af U ⟨ae,hR.mono (by left),ad5 _,s6 _ _ kP,by rw[ad1];lia,by rw[tO];lia,by rw[tO];lia,λv H7 e s7 ea ge=>?_⟩⟩))
     rw[tO]at ge
     !tP:H7 nb=S (.lst vn):=s7 _ _ (ah hl _ _ _ pq)
     #⟨nb,vn,v,U,U,tP,aD (by lia),⟨_,U⟩,?_⟩
     !t8:TK H5 (upd H7 nb (.lst (vn++[v]))):=((aG hl _).trans (ak.tk s7)).trans (TK.lst tP)
     #⟨vn++[v],nds++[e],aE (aa s6 s7) lq,ae,Paired.snoc (Paired.aP pn λa b h=>bZ.keep t8 h) (bZ.keep (TK.lst tP) ea),by rw[ad7,j6];rfl,λx hx=>?_⟩
     rcases eI hx with y|y
     . #gd x y
     . rw[cR y]
       #ge
   . @⟨⟨cv,rfl⟩,vn,nds,s5,pq,pn,j6,gd⟩:=z
     rw[ad1]at j6
     #af U (af U (bu U akB (λp9 N5=>?_)))
     !s9:=az (o:=.tup [.ref B,.ref I,.ref nb]) s5 N5
     !Pr:ak H5 (upd H5 p9 (.tup [.ref B,.ref I,.ref nb])):=ah N5 _
     #q (.ref p9) _ bs ins nds (aa k4 s9) ⟨p9,B,I,nb,vb,vn,U,ae,s9 _ _ hB,s9 _ _ hI,Pr _ _ pq,Paired.aP pb λa b h=>Tp.keep (ak.tk s9) h,Paired.aP pn λa b h=>bZ.keep (ak.tk Pr) h⟩ ⟨R0,by lia,by lia,by rw[j6];#gd⟩
end
end TW
namespace TW
open PySem L2
structure Dp (K:ad2)(x qual:Str)(st:Stmt)(dV:Value)(f:J)(fd:aef):Prop where
 ex:∃(oc:Value) (od:Option J) (kV doc pm:Value) (an:Option J) (cdv ct:Value) (osl:Array (Option Value)),
   fd=ae5 x qual (dU st) (cp st) (ao st) dV kV doc pm an cdv ct/\K.lookup f=S ⟨oc,od,.func fd,osl⟩/\afH K cdv qual=true
 kp:aeV K (.ref f)=true
section
variable{P:Program}{w:World}{K:ad2}{mg:Str->Option Value}{base:Heap}
def Dp.ok {x qual:Str}{st:Stmt}{dV:Value}{f:J}{fd:aef}{N ps:O Str}{k:Nat}{sp:Sp}(F:Dp K x qual st dV f fd)(S8:aA N ps (ao st))(len:∀vs H Q E,sp vs H Q E->vs~=ps~)
   (hbody:∀(cdv:Value) (A:Around) (outer:O Env) (s:Shared) (H:Hp) (vs:O V) (Q:VK) (E:XK),cG k (A.deeper (PyProof.Rows.envOfC qual (ao st) s.heap.objs.size f cdv))->sp vs H Q E ->
     ∃t,mV (gM cm P w K mg base N qual (ao st) f cdv A outer s H E).Er (cp st) t/\t {nx:=λz H'=>Q .bA H',rt:=Q} (start N vs) H):aL P w K mg base cm (k+1) f fd ps sp:=by
 @⟨oc,od,kV,doc,pm,an,cdv,ct,osl,rfl,lk,hcd⟩:=F.ex
 #zA lk hcd S8 len λA outer s H vs Q E hr hsp=>?_
 @⟨t,h,q⟩:=hbody cdv A outer s H vs Q E hr hsp
 #⟨t,h.Er,q⟩
end
def II (K:ad2)(mg:Str->Option Value)(x:Str)(st:Stmt)(d:Str):Prop:=
 ∃f fd T tk oc od n sl,Dp K x x st (.ref T) f fd/\mg x=S (.ref f)/\K.lookup T=S ⟨oc,od,.seq #[.str d tk] n,sl⟩
def lU (K:ad2)(mg:Str->Option Value)(x:Str)(xs:O Str):Prop:=∃t,mg x=S (.ref t)/\∀H:Hp,dY K H t (xs.map V.str)
def wN {K:ad2}{C:J}{cd:ClassData}{l:O Value}(h:agO K C=S cd)(m:cd.mro=l):oW K C=S l:=by
 unfold agO at h
 unfold oW
 split at h
 . rename_i e
   cases h
   rw[e,← m]
 . cases h
structure Qz (K:ad2)(mg:Str->Option Value)(T aZ aQ aI bo b7 b8 bD bE cV bF bG:J):Prop where
 t:Xc K mg "TwinError" T vE
 x_NoPair:Xc K mg "NoPair" aZ (.ref T::vE)
 k_NoPair:IL K aZ
 o_NoPair:af8 K (.ref aZ) [.ref bo,.ref b7,.ref b8,.ref bD,.ref bE,.ref cV,.ref bF,.ref bG]=S false
 v_NoPair:aey K (.ref aZ) (.type "ValueError")=S true
 i_NoPair_NoPair:aey K (.ref aZ) (.ref aZ)=S true
 i_NoPair_NoWorths:aey K (.ref aZ) (.ref aQ)=S false
 i_NoPair_NoProgram:aey K (.ref aZ) (.ref aI)=S false
 x_NoWorths:Xc K mg "NoWorths" aQ (.ref T::vE)
 k_NoWorths:IL K aQ
 o_NoWorths:af8 K (.ref aQ) [.ref bo,.ref b7,.ref b8,.ref bD,.ref bE,.ref cV,.ref bF,.ref bG]=S false
 v_NoWorths:aey K (.ref aQ) (.type "ValueError")=S true
 i_NoWorths_NoPair:aey K (.ref aQ) (.ref aZ)=S false
 i_NoWorths_NoWorths:aey K (.ref aQ) (.ref aQ)=S true
 i_NoWorths_NoProgram:aey K (.ref aQ) (.ref aI)=S false
 x_NoProgram:Xc K mg "NoProgram" aI (.ref T::vE)
 k_NoProgram:IL K aI
 o_NoProgram:af8 K (.ref aI) [.ref bo,.ref b7,.ref b8,.ref bD,.ref bE,.ref cV,.ref bF,.ref bG]=S false
 v_NoProgram:aey K (.ref aI) (.type "ValueError")=S true
 i_NoProgram_NoPair:aey K (.ref aI) (.ref aZ)=S false
 i_NoProgram_NoWorths:aey K (.ref aI) (.ref aQ)=S false
 i_NoProgram_NoProgram:aey K (.ref aI) (.ref aI)=S true
 m_NoChange:mg "NoChange"=S (.ref bo)
 m_NoForm:mg "NoForm"=S (.ref b7)
 m_NoNode:mg "NoNode"=S (.ref b8)
 m_NoPaper:mg "NoPaper"=S (.ref bD)
 m_NoPicks:mg "NoPicks"=S (.ref bE)
 m_NoRow:mg "NoRow"=S (.ref cV)
 m_NoneYet:mg "NoneYet"=S (.ref bF)
 m_TooMany:mg "TooMany"=S (.ref bG)
def wz {K:ad2}{h:Heap}{mg:Str->Option Value}{x:Str}{C:J}{cd:ClassData}{tl:O Value}(X:K.In h)(G:h.Ns aeZ mg)(a:ag3 K aeZ x=S (S (.ref C)))(e:ahG K C vE "ValueError.__new__"=true)(l:agO K C=S cd)(m:cd.mro=.ref C::tl):Xc K mg x C tl:=⟨aeR X G a,e,wN l m⟩
def uW {K:ad2}{C:J}{cd:ClassData}(ga:aeW K (.ref C) "__getattribute__"=S (S (.builtin "BaseException.__getattribute__")))(gn:aeW K (.ref C) "__getattr__"=S Z)(ha:aeW K (.ref C) "__class__"=S (S (.builtin "object.__class__")))(hn:ain K (.builtin "object.__class__") "__get__"=S (S (.builtin "getset_descriptor.__get__")))(htk:PySem.W.takesIn K (.builtin "object.__class__")=S true)(hm:ahF K C (.type "object")=S true)(hb:ahF K C (.type "BaseException")=S true)(l:agO K C=S cd):IL K C:=⟨ga,gn,ha,hn,htk,hm,hb,by rw[l];rfl⟩
def lK {K:ad2}{h:Heap}{mg:Str->Option Value}{x:Str}{t:J}{od:Option J}{sl:Array (Option Value)}{n:Nat}{us:Array Value}{xs:O Str}(X:K.In h)(G:h.Ns aeZ mg)(a:ag3 K aeZ x=S (S (.ref t)))(l:K.lookup t=S ⟨.type "tuple",od,.seq us n,sl⟩)(b:us.size<=sizeLine)(e:us.toList~=xs~)(r:Vals (xs.map V.str) us.toList):lU K mg x xs:=⟨_,aeR X G a,λz=>.inr ⟨_,_,_,l,rfl,rfl,b,r⟩⟩
def aO {K:ad2}{h:Heap}{mg:Str->Option Value}{x:Str}{st:Stmt}{od an:Option J}{sl:Array (Option Value)}{oc kV dc pm cd ct:Value}{f:J}(X:K.In h)(G:h.Ns aeZ mg)(a:ag3 K aeZ x=S (S (.ref f)))
   (l:K.lookup f=S ⟨oc,od,.func (ae5 x x (dU st) (cp st) (ao st) .none kV dc pm an cd ct),sl⟩) (c:afH K cd x=true) (k:aeV K (.ref f)=true):Src K mg x st:=⟨_,_,eR l c k,aeR X G a⟩
def FY {K:ad2}{h:Heap}{mg:Str->Option Value}{x d:Str}{st:Stmt}{od an cU:Option J}{sl slT:Array (Option Value)}{oc kV dc pm cd ct ocT:Value}{f T:J}{tk:Tok}{nT:Nat}(X:K.In h)(G:h.Ns aeZ mg)(a:ag3 K aeZ x=S (S (.ref f)))
   (l:K.lookup f=S ⟨oc,od,.func (ae5 x x (dU st) (cp st) (ao st) (.ref T) kV dc pm an cd ct),sl⟩) (c:afH K cd x=true) (k:aeV K (.ref f)=true) (lT:K.lookup T=S ⟨ocT,cU,.seq #[.str d tk] nT,slT⟩):II K mg x st d:=⟨_,_,_,_,_,_,_,_,⟨⟨_,_,_,_,_,_,_,_,_,rfl,l,c⟩,k⟩,aeR X G a,lT⟩
def Dz (s:Stmt):O Stmt:=match s with
 | .ClassDef _ _ _ b _ _ _ _ _ _ _=>b
 | _=>[]
def dq (i j:Nat):Stmt:=(Dz (top i)).getD j (.Pass ⟨0,0,0,0⟩)
def fG (K:ad2)(C:J):O Str->Prop
 | []=>True
 | f::fs=>dQ K C f/\fG K C fs
theorem fG.get {K:ad2}{C:J}:∀{fs:O Str} {f:Str},fG K C fs->f∈fs->dQ K C f
 | g::fs,f,h,hf=>by
   rcases cZ hf with rfl|hf
   . #h.1
   . #fG.get h.2 hf
structure jW (K:ad2)(mg:Str->Option Value)(x:Str)(C:J)(fs:O Str):Prop where
 m:mg x=S (.ref C)
 c:lj K C
 na:fG K C fs
def oQ (K:ad2)(C:J)(q:Str)(st:Stmt):Prop:=∃f fd,cF K "__init__" q st f fd/\Mk K C f
def fF (K:ad2)(C:J)(x q:Str)(st:Stmt):Prop:=∃f fd,cF K x q st f fd/\Meth K C x f
structure M0 (K:ad2)(mg:Str->Option Value):Prop where
 s_all_known:Src K mg "all_known" (top 16)
 s_refuse_worths:Src K mg "refuse_worths" (top 17)
 s_box_sizes:Src K mg "box_sizes" (top 18)
 s_worth_by:Src K mg "worth_by" (top 20)
 s_holds_by:Src K mg "holds_by" (top 21)
 s_step_at:Src K mg "step_at" (top 23)
 s_worths_put:Src K mg "worths_put" (top 24)
 s_input_sizes:Src K mg "input_sizes" (top 25)
 s_beginning_of:Src K mg "beginning_of" (top 26)
 s_every_input:Src K mg "every_input" (top 27)
 s_every_worths:Src K mg "every_worths" (top 28)
 s_refuse_no_pair:Src K mg "refuse_no_pair" (top 30)
 s_worths_along:Src K mg "worths_along" (top 36)
 s_rows_where:Src K mg "rows_where" (top 37)
 s_rows_without:Src K mg "rows_without" (top 38)
 s_rows_counted:Src K mg "rows_counted" (top 39)
 s_told_by_places:Src K mg "told_by_places" (top 40)
 s_worths_by_places:Src K mg "worths_by_places" (top 41)
 s_entry_fits:Src K mg "entry_fits" (top 42)
 s_turn_fits:Src K mg "turn_fits" (top 43)
 s_entry_well:Src K mg "entry_well" (top 45)
 s_begins_well:Src K mg "begins_well" (top 46)
 s_all_fit:Src K mg "all_fit" (top 47)
 s_all_well:Src K mg "all_well" (top 48)
 s_paper_shows:Src K mg "paper_shows" (top 49)
 s_entry_worths:Src K mg "entry_worths" (top 50)
 s_law_cell_at:Src K mg "_law_cell_at" (top 52)
 s_law_numbers:Src K mg "_law_numbers" (top 53)
 s_law_sum:Src K mg "_law_sum" (top 54)
 s_law_condition:Src K mg "_law_condition" (top 55)
 s_law_node:Src K mg "_law_node" (top 56)
 s_law_boxes:Src K mg "_law_boxes" (top 57)
 s_law_program:Src K mg "_law_program" (top 58)
 s_law_renamed:Src K mg "_law_renamed" (top 59)
 s_law_node_as:Src K mg "_law_node_as" (top 60)
 s_law_made_over:Src K mg "_law_made_over" (top 61)
 s_law_skip:Src K mg "_law_skip" (top 62)
 s_law_all_same:Src K mg "_law_all_same" (top 63)
 s_law_good_paper:Src K mg "_law_good_paper" (top 64)
 s_law_copied:Src K mg "_law_copied" (top 65)
 s_law_kinds:Src K mg "_law_kinds" (top 66)
 s_law_refused:Src K mg "_law_refused" (top 67)
 s_law_entry:Src K mg "_law_entry" (top 68)
 s_law_strangers:Src K mg "_law_strangers" (top 69)
 s_law:Src K mg "law" (top 70)
 s_known_worths:II K mg "known_worths" (top 19) "box"
 c_PARTED:lU K mg "PARTED" ["plus","less","same","under","not","both"]
 c_NAMELESS:lU K mg "NAMELESS" ["number","yes"]
 c_TURNS:lU K mg "TURNS" ["mine","yours","both","end"]
 c_QUIET:lU K mg "QUIET" ["put","test"]
 k_Side:∃C,jW K mg "Side" C ["program","worths","numbers","steps","stays"]/\oQ K C "Side.__init__" (dq 34 0)/\fF K C "number_of" "Side.number_of" (dq 34 1)/\fF K C "kind_at" "Side.kind_at" (dq 34 2)/\fF K C "steps_at" "Side.steps_at" (dq 34 3)/\fF K C "stays_at" "Side.stays_at" (dq 34 4)
 k_Ground:∃C,jW K mg "Ground" C ["mine","yours","width","rows","columns"]/\oQ K C "Ground.__init__" (dq 35 0)/\fF K C "row_of" "Ground.row_of" (dq 35 1)/\fF K C "worths_of" "Ground.worths_of" (dq 35 2)/\fF K C "beginnings" "Ground.beginnings" (dq 35 3)
 k_Turn:∃C,jW K mg "Turn" C ["width","waits","here","alone","first","second"]/\oQ K C "Turn.__init__" (dq 44 0)/\fF K C "behind" "Turn.behind" (dq 44 1)
 cl:∃T aZ aQ aI bo b7 b8 bD bE cV bF bG,Qz K mg T aZ aQ aI bo b7 b8 bD bE cV bF bG
 m_len:mg "len"=Z
 m_list:mg "list"=Z
 m_range:mg "range"=Z
 m_zip:mg "zip"=Z
 m_dict:mg "dict"=Z
 m_int:mg "int"=Z
 m_isinstance:mg "isinstance"=Z
 m_bool:mg "bool"=Z
 m_set:mg "set"=Z
 m_tuple:mg "tuple"=Z
 m_enumerate:mg "enumerate"=Z
 m_all:mg "all"=Z
 m_ValueError:mg "ValueError"=Z
end TW
namespace TW
open PySem L2
section
variable{P:Program}{w:World}{K:ad2}{mg:Str->Option Value}{base:Heap}
abbrev mG:Stmt:=top 20
def Gn (H:Hp)(a:J)(P:Str->Str->Prop)(W:Str->Str->Int):Prop:=∃kvs,H a=S (.dT kvs)/\∀t x,P t x->aY kvs [.inr t,.inr x]=S (.int (W t x))
def IK (P:Str->Str->Prop):Prop:=∀t x,P t x->t="box"\/t="mine"\/t="yours"
def eE (n:Nat):Sp:=λvs H Q z=>∃(a:J) (v:V) (e:E) (Pb:Str->Str->Prop) (W:Str->Str->Int),vs=[.ref a,v]/\Gn H a Pb W/\IK Pb/\dP H v e/\e.i5/\e.okIn Pb/\e.dep<n/\Q (.int (e.worth W)) H
def yt:aA ["known","sum_told"] ["known","sum_told"] (ao mG):=dX
def AU {n:Nat}{f:J}{fd:aef}(F:cF K "worth_by" "worth_by" mG f fd)(G:bI P w K mg base "worth_by" ["known","sum_told"] (n+1) (eE n)) :
    aL P w K mg base cm (n+2) f fd ["known","sum_told"] (eE (n+1)):=by
 #F.eO yt λcdv A outer s H vs Q E hr h=>?_
 @⟨a,v,e,Pb,W,rfl,kn,tg,ev,es,ok,hd,q⟩:=h
 #⟨_,ai7 (aiz (aiM (aiK aiR (aiy aiE (Y 1) aix) aiD) (aiA (aiF (aiy aiE (Y 1) aix))) aiN)
   (aiz (aiM (aiK aiR (aiy aiE (Y 1) aix) aiD) (aiA (aiF (aiB aiZ (aiJ G hr U (L (Y 0) (L (aiy aiE (Y 1) aix) M))) (aiJ G hr U (L (Y 0) (L (aiy aiE (Y 1) aix) M)))))) aiN)
   (aiz (aiM (aiK aiR (aiy aiE (Y 1) aix) aiD) (aiA (aiF (aiB ajm (aiJ G hr U (L (Y 0) (L (aiy aiE (Y 1) aix) M))) (aiJ G hr U (L (Y 0) (L (aiy aiE (Y 1) aix) M)))))) aiN)
   (aiA (aiF (ajc (bj hr _ (by left)) (Y 0) (Y 1))))))),?_⟩
 cases e with
 | num m=>
   @⟨p,rfl,hp⟩:=ev
   #af U ?_
   #aW hp U ?_
   #bB U U ?_
   #aC (λu=>?_) (λc=>aw (ed rfl) c)
   #af U ?_
   #aW hp U ?_
   #q
 | box t x=>
   @⟨p,rfl,hp⟩:=ev
   @⟨kvs,hk,hv⟩:=kn
   !ht:=tg t x ok
   #af U ?_
   #aW hp U ?_
   #bB U U ?_
   #aC (λc=>?_) (λu=>?_)
   . !:=cU c
     injection this with z
     subst z
     #aw ht (by left)
   #af U ?_
   #aW hp U ?_
   #bB U U ?_
   #aC (λc=>?_) (λu=>?_)
   . !:=cU c
     injection this with z
     subst z
     #aw ht (by left)
   #af U ?_
   #aW hp U ?_
   #bB U U ?_
   #aC (λc=>?_) (λu=>?_)
   . !:=cU c
     injection this with z
     subst z
     #aw ht (by left)
   #af U (af U ⟨a,af U ⟨?_,q⟩⟩)
   !g:=dv.t (k:=[.inr t,.inr x]) hk hp
   rw[hv t x ok]at g
   #g
 | yes=>#es.elim
 | nt a=>#es.elim
 | two k e1 e2=>
   @⟨x,y,⟨p,rfl,hp⟩,ax,ay⟩:=ev
   !qQ:max e1.dep e2.dep+1<n+1:=hd
   cases k with
   | plus=>
     #af U ?_
     #aW hp U ?_
     #bB U U ?_
     #aC (λc=>aw (cU c) (by left)) (λu=>?_)
     #af U ?_
     #aW hp U ?_
     #bB U U ?_
     #aC (λu=>?_) (λc=>aw (ed rfl) c)
     #af U (af U ?_)
     #aW hp U ?_
     #⟨a,x,e1,Pb,W,U,kn,tg,ax,es.1,ok.1,by lia,?_⟩
     #af U (af U ?_)
     #aW hp U ?_
     #⟨a,y,e2,Pb,W,U,kn,tg,ay,es.2,ok.2,by lia,?_⟩
     #aJ U U q
   | less=>
     #af U ?_
     #aW hp U ?_
     #bB U U ?_
     #aC (λc=>aw (cU c) (by left)) (λu=>?_)
     #af U ?_
     #aW hp U ?_
     #bB U U ?_
     #aC (λc=>aw (cU c) (by left)) (λu=>?_)
     #af U ?_
     #aW hp U ?_
     #bB U U ?_
     #aC (λu=>?_) (λc=>aw (ed rfl) c)
     #af U (af U ?_)
     #aW hp U ?_
     #⟨a,x,e1,Pb,W,U,kn,tg,ax,es.1,ok.1,by lia,?_⟩
     #af U (af U ?_)
     #aW hp U ?_
     #⟨a,y,e2,Pb,W,U,kn,tg,ay,es.2,ok.2,by lia,?_⟩
     #aJ U U q
   | same=>#es.elim
   | under=>#es.elim
   | both=>#es.elim
def ud {f:J}{fd:aef}:aL P w K mg base cm 1 f fd ["known","sum_told"] (eE 0):=by
 !no:∀vs H Q E,¬ eE 0 vs H Q E:=λvs H Q E h=>by
   @⟨_,_,_,_,_,_,_,_,_,_,_,h1,_⟩:=h
   lia
 #⟨λvs H Q E h=>aw h (no vs H Q E),λA outer s H args us vs Q E z z z z h=>aw h (no vs H Q E)⟩
def xt (s:Src K mg "worth_by" mG):∀n:Nat,bI P w K mg base "worth_by" ["known","sum_told"] (n+1) (eE n):=by
 @⟨f,fd,F,m⟩:=s
 !b:Binds K fd ["known","sum_told"] []:=iV F λz z z z z z z z=>rfl
 intro n
 !all:aL P w K mg base cm (n+1) f fd ["known","sum_told"] (eE n):=by
   induction n with
   | zero=>#ud
   | succ n ih=>#AU F ⟨f,fd,ih,F.kp,b,m⟩
 #⟨f,fd,all,F.kp,b,m⟩
def Gn.same {H H':Hp}{a:J}{Pb:Str->Str->Prop}{W:Str->Str->Int}(h:Gn H a Pb W)(s:ak H H'):Gn H' a Pb W:=by@⟨kvs,e,v⟩:=h;#⟨kvs,s _ _ e,v⟩
def dP.same {H H':Hp}{v:V}{e:E}(h:dP H v e)(s:ak H H'):dP H' v e:=dP.keep (ak.tk s) h
abbrev jj:Stmt:=top 16
def E.bP (f:Str->Str->Bool):E->Bool
 | .num _=>true|.box t x=>f t x|.yes=>true|.nt a=>a.bP f|.two _ a b=>a.bP f&&b.bP f
def fD (kvs:O (O Key×V))(t x:Str):Bool:=(aY kvs [.inr t,.inr x]).isSome
abbrev lg:Str->Str->Prop:=λt _=>t="box"\/t="mine"\/t="yours"
def eL (n:Nat):Sp:=λvs H Q z=>∃(a:J) (v:V) (e:E) (kvs:O (O Key×V)),vs=[.ref a,v]/\H a=S (.dT kvs)/\dP H v e/\e.okIn lg/\e.dep<n/\∀H',ak H H'->Q (.bl (e.bP (fD kvs))) H'
def kD:aA ["known","told","part"] ["known","told"] (ao jj):=dX
def xS {n:Nat}{f:J}{fd:aef}(F:cF K "all_known" "all_known" jj f fd)(N:lU K mg "NAMELESS" ["number","yes"])(PT:lU K mg "PARTED" ["plus","less","same","under","not","both"])
    (G:bI P w K mg base "all_known" ["known","told"] (n+1) (eL n)):aL P w K mg base cm (n+2) f fd ["known","told"] (eL (n+1)):=by
 @⟨tn,mN,cN⟩:=N
 @⟨tp,mP,cP⟩:=PT
 #F.eO kD λcdv A outer s H vs Q E hr h=>?_
 @⟨a,v,e,kvs,rfl,hk,ev,ok,hd,q⟩:=h
 #⟨_,ai7 (aiz (aiM (aiK ajl (aiy aiE (Y 1) aix) (ai6 (w:=.ref tn) U mN rfl) U) (aiA (aiF ai1)) aiN)
   (aiz (aiM (aiK L3.pO (aiy aiE (Y 1) aix) (ai6 (w:=.ref tp) U mP rfl) U) (aiA (aiF (L3.R8 (bj hr _ (by left)) (Y 1) (Y 0)))) aiN)
   (aiz (ai0 (L3.iT (L3.Vu (Y 1) aix)) (aiC 2 kD.nd) (aiA (aiM (ajo (ajh (aiJ G hr U (L (Y 0) (L (Y 2) M))))) (aiA (aiF ai1)) aiN)))
   (aiA (aiF ai1))))),?_⟩
 cases e with
 | num m=>
   @⟨p,rfl,hp⟩:=ev
   #af U ?_
   #aW hp U ?_
   #⟨tn,af U ⟨.inr (cN _),U,bB U U ?_⟩⟩
   #aC (λu=>?_) (λc=>aw (show qX (.str "number") _=true by left) c)
   #q _ (same_refl _)
 | yes=>
   @⟨p,rfl,hp⟩:=ev
   #af U ?_
   #aW hp U ?_
   #⟨tn,af U ⟨.inr (cN _),U,bB U U ?_⟩⟩
   #aC (λu=>?_) (λc=>aw (show qX (.str "yes") _=true by left) c)
   #q _ (same_refl _)
 | box t x=>
   @⟨p,rfl,hp⟩:=ev
   !ht:t="box"\/t="mine"\/t="yours":=ok
   !g:=dv.t (k:=[.inr t,.inr x]) hk hp
   #af U ?_
   #aW hp U ?_
   #⟨tn,af U ⟨.inr (cN _),U,bB U U ?_⟩⟩
   #aC (λc=>aw c (by rcases ht with rfl|rfl|rfl<;>decide)) (λu=>?_)
   #af U ?_
   #aW hp U ?_
   #⟨tp,af U ⟨.inr (cP _),U,bB U U ?_⟩⟩
   #aC (λu=>?_) (λc=>aw (show(!qX (.str t) _)=true by rcases ht with rfl|rfl|rfl<;>decide) c)
   #af U (af U ⟨a,af U ⟨g,q _ (same_refl _)⟩⟩)
 | nt e1=>
   @⟨x,⟨p,rfl,hp⟩,ax⟩:=ev
   !qQ:e1.dep+1<n+1:=hd
   !i7:e1.okIn lg:=ok
   #af U ?_
   #aW hp U ?_
   #⟨tn,af U ⟨.inr (cN _),U,bB U U ?_⟩⟩
   #aC (λc=>aw c (by left)) (λu=>?_)
   #af U ?_
   #aW hp U ?_
   #⟨tp,af U ⟨.inr (cP _),U,bB U U ?_⟩⟩
   #aC (λc=>aw c (by left)) (λu=>?_)
   #af U (af U (aJ U (dY.of hp) ⟨(λz=>aw z.1 (show ¬ HT.dJ 2 0 (S 1)=0 by left)),λl hl=>⟨l,U,⟨_,dY.of ae⟩,?_⟩⟩))
   #vw (xs:=[x]) (λi σ H2=>(∃pv,σ=[S (.ref a),S (.ref p),pv])/\ak (upd H l (.tup [x])) H2/\(1<=i->e1.bP (fD kvs)=true)) ⟨⟨_,U⟩,same_refl _,λz=>aw z (by left)⟩ (λi σ H2 u z=>dY.of (z.2.1 _ _ ae)) (λi x0 σ H2 hx z=>?_) (λσ H2 z=>?_)
   . @⟨⟨pv,rfl⟩,z,_⟩:=z
     !s2:=aa (ah hl _) z
     !GQ:x0=x:=by
       match i,hx with
       | 0,hx=>#(aej hx).symm
     subst GQ
     #af U (af U ⟨a,x0,e1,kvs,U,s2 _ _ hk,ax.same s2,i7,by lia,λH3 s3=>(af U ?_)⟩)
     #aC (λc=>?_) (λc=>?_)
     . !c':e1.bP (fD kvs)=false:=by cases zz:e1.bP (fD kvs)<;>simp_all
       !q':=q H3 (aa s2 s3)
       rw[show(TW.E.nt e1).bP (fD kvs)=false from c']at q'
       #q'
     . !c':e1.bP (fD kvs)=true:=by cases zz:e1.bP (fD kvs)<;>simp_all
       #⟨⟨_,U⟩,aa z s3,λu=>c'⟩
   . !q':=q H2 (aa (ah hl _) z.2.1)
     rw[show(TW.E.nt e1).bP (fD kvs)=true from z.2.2 (by change 1<=1;decide)]at q'
     #q'
 | two k e1 e2=>
   @⟨x,y,⟨p,rfl,hp⟩,ax,ay⟩:=ev
   !qQ:max e1.dep e2.dep+1<n+1:=hd
   !i7:e1.okIn lg:=ok.1
   !Dg:e2.okIn lg:=ok.2
   #af U ?_
   #aW hp U ?_
   #⟨tn,af U ⟨.inr (cN _),U,bB U U ?_⟩⟩
   #aC (λc=>aw c (by cases k<;>decide)) (λu=>?_)
   #af U ?_
   #aW hp U ?_
   #⟨tp,af U ⟨.inr (cP _),U,bB U U ?_⟩⟩
   #aC (λc=>aw c (by cases k<;>decide)) (λu=>?_)
   #af U (af U (aJ U (dY.of hp) ⟨(λz=>aw z.1 (show ¬ HT.dJ 3 0 (S 1)=0 by left)),λl hl=>⟨l,U,⟨_,dY.of ae⟩,?_⟩⟩))
   #vw (xs:=[x,y]) (λi σ H2=>(∃pv,σ=[S (.ref a),S (.ref p),pv])/\ak (upd H l (.tup [x,y])) H2/\(1<=i->e1.bP (fD kvs)=true)/\(2<=i->e2.bP (fD kvs)=true)) ⟨⟨_,U⟩,same_refl _,(λz=>aw z (by left)),λz=>aw z (by left)⟩ (λi σ H2 u z=>dY.of (z.2.1 _ _ ae)) (λi x0 σ H2 hx z=>?_) (λσ H2 z=>?_)
   . @⟨⟨pv,rfl⟩,z,z1,z2⟩:=z
     !s2:=aa (ah hl _) z
     !GQ:∃e0,dP H x0 e0/\e0.okIn lg/\e0.dep<n/\(e0.bP (fD kvs)=false->(TW.E.two k e1 e2).bP (fD kvs)=false)/\(e0.bP (fD kvs)=true->(1<=i+1->e1.bP (fD kvs)=true)/\(2<=i+1->e2.bP (fD kvs)=true)):=by
       match i,hx,z1 with
       | 0,hx,_=>#⟨e1,(aej hx)▸ax,i7,by lia,λc=>by change(e1.bP _&&e2.bP _)=false;rw[c];rfl,λc=>⟨λu=>c,λz=>aw z (by left)⟩⟩
       | 1,hx,z1=>#⟨e2,(aej hx)▸ay,Dg,by lia,λc=>by change(e1.bP _&&e2.bP _)=false;rw[c,agj],λc=>⟨λu=>z1 (by left),λu=>c⟩⟩
     @⟨e0,a0,o0,d0,f0,t0⟩:=GQ
     #af U (af U ⟨a,x0,e0,kvs,U,s2 _ _ hk,a0.same s2,o0,d0,λH3 s3=>(af U ?_)⟩)
     #aC (λc=>?_) (λc=>?_)
     . !c':e0.bP (fD kvs)=false:=by cases zz:e0.bP (fD kvs)<;>simp_all
       !q':=q H3 (aa s2 s3)
       rw[f0 c']at q'
       #q'
     . !c':e0.bP (fD kvs)=true:=by cases zz:e0.bP (fD kvs)<;>simp_all
       #⟨⟨_,U⟩,aa z s3,t0 c'⟩
   . !q':=q H2 (aa (ah hl _) z.2.1)
     rw[show(TW.E.two k e1 e2).bP (fD kvs)=true by change(e1.bP _&&e2.bP _)=true;rw[z.2.2.1 (by change 1<=2;decide),z.2.2.2 (by change 2<=2;decide)];rfl]at q'
     #q'
def rh {f:J}{fd:aef}:aL P w K mg base cm 1 f fd ["known","told"] (eL 0):=by
 !no:∀vs H Q E,¬ eL 0 vs H Q E:=λvs H Q E h=>by
   @⟨_,_,_,_,_,_,_,_,h1,_⟩:=h
   lia
 #⟨λvs H Q E h=>aw h (no vs H Q E),λA outer s H args us vs Q E z z z z h=>aw h (no vs H Q E)⟩
def tM (s:Src K mg "all_known" jj)(N:lU K mg "NAMELESS" ["number","yes"])(PT:lU K mg "PARTED" ["plus","less","same","under","not","both"]):∀n:Nat,bI P w K mg base "all_known" ["known","told"] (n+1) (eL n):=by
 @⟨f,fd,F,m⟩:=s
 !b:Binds K fd ["known","told"] []:=iV F λz z z z z z z z=>rfl
 intro n
 !all:aL P w K mg base cm (n+1) f fd ["known","told"] (eL n):=by
   induction n with
   | zero=>#rh
   | succ n ih=>#xS F N PT ⟨f,fd,ih,F.kp,b,m⟩
 #⟨f,fd,all,F.kp,b,m⟩
theorem iM {f:Str->Str->Bool}{Pb:Str->Str->Prop}(h:∀t x,f t x=true↔Pb t x):∀e:E,e.okIn lg->(e.bP f=true↔e.okIn Pb)
 | .num _,o=>⟨λz=>o,λz=>rfl⟩
 | .box t x,_=>h t x
 | .yes,_=>⟨λz=>aeh,λz=>rfl⟩
 | .nt a,o=>iM h a o
 | .two _ a b,o=>by
   change(a.bP f&&b.bP f)=true↔_
   rw[aeI,iM h a o.1,iM h b o.2]
   rfl
abbrev HN:Stmt:=top 17
def Paired.Nh {α β:Type}{F:α->β->Prop}{l₁:O α}{l₂:O β}{i:Nat}{x:α}{y:β}(h:Paired F l₁ l₂)(e1:l₁[i]?=S x)(e2:l₂[i]?=S y):F x y:=by
 @⟨z,h1,h2⟩:=Paired.get h e1
 rw[e2]at h1
 cases h1
 #h2
def aX {α β:Type}{f:α->β}{l:O α}{i:Nat}{y:β}(h:(l.map f)[i]?=S y):∃x,l[i]?=S x/\y=f x:=by
 rw[aei]at h
 @⟨x,h1,h2⟩:=Option.map_eq_some_iff.mp h
 #⟨x,h1,h2.symm⟩
def Within (s w:Int):Prop:=0<=w/\w<s
def uN:Sp:=λvs H Q z=>∃(sa wa:J) (szs ws:O Int),vs=[.ref sa,.ref wa]/\H sa=S (.lst (szs.map V.int))/\H wa=S (.lst (ws.map V.int))/\Paired Within szs ws/\∀H',ak H H'->Q .bA H'
def uH:aA ["sizes","worths","size","worth"] ["sizes","worths"] (ao HN):=dX
def EO {f:J}{fd:aef}(F:cF K "refuse_worths" "refuse_worths" HN f fd)(m_len:mg "len"=Z)(m_zip:mg "zip"=Z):aL P w K mg base cm 1 f fd ["sizes","worths"] uN:=by
 #F.eO uH λcdv A outer s H vs Q E hr h=>?_
 @⟨sa,wa,szs,ws,rfl,hs,hw,pw,q⟩:=h
 #⟨_,ai7 (aiz (aiM (aiK L3.JT (aiS aiX U m_len aeo (L (Y 1) M)) (aiS aiX U m_len aeo (L (Y 0) M))) L3.never aiN)
   (aiA (ai0 (ajp U m_zip (L (Y 0) (L (Y 1) M))) (aiT 2 (aiI (aiC 2 uH.nd) (aiI (aiC 3 uH.nd) aiU))) (aiA (aiM (aje (ajb (aiK ai9 (Y 3) aix) (ajk (aiK L3.AI (Y 3) (Y 2))))) L3.never aiN))))),?_⟩
 !hl:szs~=ws~:=Paired.length pw
 !Mv:(szs.map V.int)~=(ws.map V.int)~:=by rw[ad1,ad1];#hl
 #af U (aJ U (.inl (aB.of hw)) (af U (aJ U (.inl (aB.of hs)) (bB U U ?_))))
 #aC (λc=>?_) (λv=>?_)
 . rw[Mv,ed rfl]at c
   #aw c (by left)
 #af U (af U ⟨sa,bu U ⟨_,aB.of hs⟩ ⟨⟨_,aB.of hw⟩,?_⟩⟩)
 #pd (xs:=szs.map V.int) (ys:=ws.map V.int) Mv (λi σ H2=>(∃v1 v2,σ=[S (.ref sa),S (.ref wa),v1,v2])/\ak H H2) ⟨⟨_,_,U⟩,same_refl _⟩ (λi σ H2 v z=>⟨aB.of (z.2 _ _ hs),aB.of (z.2 _ _ hw)⟩) (λi x y p σ H2 hx hy z hp=>?_) (λσ H2 z=>?_)
 . @⟨⟨v1,v2,rfl⟩,z⟩:=z
   @⟨s0,e1,rfl⟩:=aX hx
   @⟨w0,e2,rfl⟩:=aX hy
   @⟨g0,g1⟩:=Paired.Nh pw e1 e2
   #nJ ae ?_
   #af U (aJ U U (af U ?_))
   #aC (λc=>aw (cU c) (by lia)) (λv=>?_)
   #af U (af U (aJ U U (af U ?_)))
   #aC (λc=>aw (cU c) (by lia)) (λv=>?_)
   #⟨⟨_,_,U⟩,aa z (ah hp _)⟩
 . #q _ z.2
def jq (H:Hp)(v:V)(bs:ag):Prop:=∃p B I N vb,v=.ref p/\H p=S (.tup [.ref B,I,N])/\H B=S (.lst vb)/\Paired (cE H) vb bs
def jq.same {H H':Hp}{v:V}{bs:ag}(h:jq H v bs)(s:ak H H'):jq H' v bs:=
 let⟨p,B,I,N,vb,e,h1,h2,h3⟩:=h;⟨p,B,I,N,vb,e,s _ _ h1,s _ _ h2,Paired.aP h3 λy y z=>Tp.keep (ak.tk s) z⟩
abbrev lD:Stmt:=top 19
def eP:ag->O Int->Str->Int
 | b::bs,w::ws,x=>if b.1=x then w else eP bs ws x
 | _,_,_=>0
def eF (side:Str):ag->O Int->O (O Key×V)
 | b::bs,w::ws=>([.inr side,.inr b.1],.int w)::eF side bs ws
 | _,_=>[]
theorem oi (side:Str):∀(bs:ag) (ws:O Int),(eF side bs ws)~<=bs~
 | [],_=>by simp[eF]
 | _::_,[]=>by simp[eF]
 | _::bs,_::ws=>by simp[eF];#oi side bs ws
theorem iK (side:Str):∀(bs:ag) (ws:O Int) (x:Str),bs~=ws~->x∈bs.map (·.1)->aY (eF side bs ws) [.inr side,.inr x]=S (.int (eP bs ws x))
 | [],_,_,_,h=>by simp at h
 | _::_,[],_,h,_=>by simp at h
 | b::bs,w::ws,x,hl,hx=>by
   change aY (([.inr side,.inr b.1],V.int w)::eF side bs ws) _=S (.int (if b.1=x then w else eP bs ws x))
   by_cases e:b.1=x
   . rw[aR e,cI (p:=(([.inr side,.inr b.1]:O Key),V.int w)) (by rw[← e])]
   . rw[aM e,cu (p:=(([.inr side,.inr b.1]:O Key),V.int w)) (λz=>by injection z with _ z;injection z with z _;injection z with z;#e z)]
     #iK side bs ws x (by simpa using hl) ?_
     rcases cZ hx with z|z
     . #aw z.symm e
     . #z
theorem mr (side:Str):∀(bs:ag) (ws:O Int) (s x:Str),(s=side->x∉bs.map (·.1))->aY (eF side bs ws) [.inr s,.inr x]=Z
 | [],_,_,_,_=>rfl
 | _::_,[],_,_,_=>rfl
 | b::bs,w::ws,s,x,h=>by
   change aY (([.inr side,.inr b.1],V.int w)::eF side bs ws) _=Z
   rw[cu (p:=(([.inr side,.inr b.1]:O Key),V.int w)) (λz=>by injection z with z1 z;injection z1 with z1;injection z with z _;injection z with z;#h z1.symm (dA (.inl z.symm)))]
   #mr side bs ws s x λe z=>h e (dA (.inr z))
def rA {κ:Type}[DecidableEq κ]{kvs:O (κ×V)}{k:κ}{v:V}(h:aY kvs k=Z):putK kvs k v=kvs++[(k,v)]:=by
 unfold putK
 rw[gF,h]
 rfl
theorem mv (side:Str):∀(bs:ag) (ws:O Int) (b:Str×Int) (w:Int),bs~=ws~->eF side (bs++[b]) (ws++[w])=eF side bs ws++[([.inr side,.inr b.1],.int w)]
 | [],[],_,_,_=>rfl
 | [],_::_,_,_,h=>by simp at h
 | _::_,[],_,_,h=>by simp at h
 | b::bs,w::ws,c,v,h=>by
   change _::eF side (bs++[c]) (ws++[v])=_
   rw[mv side bs ws c v (by simpa using h)]
   rfl
def Ep {bs:ag}(nd:(bs.map (·.1)).Nodup){i:Nat}{b:Str×Int}(h:bs[i]?=S b):b.1∉(bs.take i).map (·.1):=by
 intro z
 !hi:i<bs~:=(aH h)
 !e:bs[i]=b:=(List.getElem?_eq_some_iff.mp h).2
 @⟨c,hc,e2⟩:=cO z
 @⟨j,hj,e3⟩:=afC hc
 !DX:j<i:=by rw[aea]at hj;lia
 rw[List.getElem_take]at e3
 !k1:(bs.map (·.1))[j]'(by rw[ad1];lia)=(bs.map (·.1))[i]'(by rw[ad1];lia):=by
   rw[List.getElem_map,List.getElem_map,e3,e,e2]
 #(List.pairwise_iff_getElem.mp nd) j i _ _ DX k1
def jR:Sp:=λvs H Q z=>∃(v:V) (wa:J) (side:Str) (bs:ag) (ws:O Int),vs=[v,.ref wa,.str side]/\jq H v bs/\(bs.map (·.1)).Nodup/\bs~<=900/\H wa=S (.lst (ws.map V.int))/\bs~=ws~ /\
 ∀D H',H D=Z->ak H H'->H' D=S (.dT (eF side bs ws))->Q (.ref D) H'
def BB:aA ["program","worths","side"] ["program","worths","side"] (ao lD):=dX
def xT {f:J}{fd:aef}{dV:Value}(F:Dp K "known_worths" "known_worths" lD dV f fd)(m_zip:mg "zip"=Z):aL P w K mg base cm 1 f fd ["program","worths","side"] jR:=by
 #F.ok BB (λvs H Q E h=>?_) (λcdv A outer s H vs Q E hr h=>?_)
 . @⟨v,wa,side,bs,ws,rfl,_⟩:=h
   rfl
 @⟨v,wa,side,bs,ws,rfl,⟨p,B,I,N,vb,rfl,hp,hB,pb⟩,nd,Mg,hw,hlen,q⟩:=h
 #⟨_,ai7 (aiA (aiF (L3.Wb [Z,Z,Z,S 2] ["name","size","worth","side"] (bj hr _ (by left)) (ij lD) U (ajp U m_zip (L (aiy aiE (Y 0) aix) (L (Y 1) M))) (λu u u u u=>⟨(aiT 2 (aiI (aiT 2 (aiI (aiC 0 (dW ["name","size","worth","side"])) (aiI (aiC 1 (dW ["name","size","worth","side"])) aiU))) (aiI (aiC 2 (dW ["name","size","worth","side"])) aiU))),aiV,(aiG (L (Y 3) (L (Y 0) M))),(Y 2)⟩)))),?_⟩
 !pD:vb~=bs~:=Paired.length pb
 !Mv:vb~=(ws.map V.int)~:=by rw[ad1];lia
 #af U ?_
 #aW hp U ?_
 #af U ⟨B,bu U ⟨_,aB.of hB⟩ ⟨⟨_,aB.of hw⟩,λD hD=>?_⟩⟩
 !nB:B≠D:=ai hB hD
 !nw:wa≠D:=ai hw hD
 #jv (xs:=vb) (ys:=ws.map V.int) Mv (λi H2=>(∀b o,H b=S o->H2 b=S o)/\H2 D=S (.dT (eF side (bs.take i) (ws.take i)))) ⟨ah hD _,ae⟩ (λi H2 u z=>⟨aB.of (z.1 _ _ hB),aB.of (z.1 _ _ hw)⟩) (λi x y pr H2 hx hy z yN=>?_) (λH2 z=>?_)
 . @⟨z,xn⟩:=z
   @⟨b,ik,pp,rfl,Eb⟩:=Paired.get pb hx
   @⟨w0,UB,rfl⟩:=aX hy
   !du:i<vb~:=(aH hx)
   !Ac:=z _ _ Eb
   #aJ U (dY.of ae) ⟨U,_,af U (aJ U (dY.of (by rw[aj (ai Ac yN)];#Ac)) ⟨U,_,af U (aJ U U (aJ U U ?_))⟩)⟩
   #bQ (A:=λH3=>Ai _ _ D _ H3 _) ?_
   #af U (bu U akA (λkp DY=>(af U ?_)))
   !nkp:D≠kp:=ai (show(upd H2 pr _) D=S _ by rw[aj (ai xn yN)];#xn) DY
   !QQ:(upd (upd H2 pr (.tup [.ref pp,.int w0])) kp (.tup [.str side,.str b.1])) D=S (.dT (eF side (bs.take i) (ws.take i))):=by
     rw[aj nkp,aj (ai xn yN)];#xn
   !D2:=oi side (bs.take i) (ws.take i)
   !hl5:(bs.take i)~<=bs~:=by rw[aea];lia
   #⟨_,ir.t (k:=[.inr side,.inr b.1]) QQ ae (aD (by lia)),aF (Pv:=λi H2=>(∀b o,H b=S o->H2 b=S o)/\H2 D=S (.dT (eF side (bs.take i) (ws.take i)))) (by repeat' constructor) du ⟨λc o hc=>?_,?_⟩⟩
   . !C9:=z c o hc
     !n1:c≠D:=ai hc hD
     !Mi:(upd H2 pr (.tup [.ref pp,.int w0])) c=S o:=by rw[aj (ai C9 yN)];#C9
     rw[aj n1,aj (ai Mi DY)]
     #Mi
   . rw[ae,rA (mr side _ _ _ _ λu=>Ep nd ik),aec,aec,ik,UB]
     change _=S (HO.dT (eF side (bs.take i++[b]) (ws.take i++[w0])))
     rw[mv side _ _ b w0 (by rw[aea,aea];lia)]
 . @⟨z,xn⟩:=z
   rw[pD,aed,hlen,aed]at xn
   #q D H2 hD z xn
def su (P:Program)(w:World)(K:ad2)(mg:Str->Option Value)(base:Heap)(x:Str)(ps:O Str)(k:Nat)(sp:Sp)(d:Str):Prop:=
 ∃f fd tk,aL P w K mg base cm k f fd ps sp/\aeV K (.ref f)=true/\Binds K fd ps [.str d tk]/\mg x=S (.ref f)
def tN (s:II K mg "known_worths" lD "box")(m_zip:mg "zip"=Z):su P w K mg base "known_worths" ["program","worths","side"] 1 jR "box":=by
 @⟨f,fd,T,tk,oc,od,n,sl,F,m,lT⟩:=s
 #⟨f,fd,tk,xT F m_zip,F.kp,?_,m⟩
 @⟨oc,od,kV,doc,pm,an,cdv,ct,osl,rfl,lk,hcd⟩:=F.ex
 intro s us kin hl
 !h2:us~=2:=by simpa using hl
 match us,h2 with
 | [u1,u2],_=>#BindsTo.of_defaults rfl (kin _ _ lT) rfl rfl rfl
def su.mono {x:Str}{ps:O Str}{j k:Nat}{sp:Sp}{d:Str}(h:su P w K mg base x ps j sp d)(hk:j<=k):su P w K mg base x ps k sp d:=
 let⟨f,fd,tk,a,b,c,e⟩:=h;⟨f,fd,tk,a.mono hk,b,c,e⟩
def Vd {X:Cx}{x:Str}{d:Str}{p pos:Pos}{ps:O Str}{kk:Nat}{sp:Sp}{e:Expr}{es:O Expr}{t:TA}(D:su X.prog X.w X.K X.mg X.base x ps kk sp d)(hr:cG kk X.A)(hg:Gl X x)(ha:L3.SA X (e::es) t)(hdb:(x==("__debug__":Str))=false:=by left) :
   L3.SE X (.Call (.Name x p) (e::es) [] pos) (mS sp [.str d] E0 t):=by
 @⟨_,_,tk,G,kp,b,m⟩:=D
 #⟨pR G hr hg m kp b (.cons ⟨tk,U⟩ .nil) rp ha.h.pa hdb ((ha.h.ns e es rfl).1.h es X.env) ((ha.h.ns e es rfl).2 pos X.env)⟩
abbrev QC (bs:ag):Str->Str->Prop:=λt y=>t="box"/\y∈bs.map (·.1)
def lW (bs:ag):IK (QC bs):=λt z h=>.inl h.1
abbrev mE:Stmt:=top 21
def gV (n:Nat):Sp:=λvs H Q z=>∃(a:J) (v:V) (e:E) (Pb:Str->Str->Prop) (W:Str->Str->Int),vs=[.ref a,v]/\Gn H a Pb W/\IK Pb/\dP H v e/\e.kX/\e.okIn Pb/\e.dep<n/\Q (.bl (e.holds W)) H
def yq:aA ["known","condition"] ["known","condition"] (ao mE):=dX
def AO {n:Nat}{f:J}{fd:aef}(F:cF K "holds_by" "holds_by" mE f fd)(WB:∀n,bI P w K mg base "worth_by" ["known","sum_told"] (n+1) (eE n))(G:bI P w K mg base "holds_by" ["known","condition"] (n+2) (gV n)) :
    aL P w K mg base cm (n+3) f fd ["known","condition"] (gV (n+1)):=by
 #F.eO yq λcdv A outer s H vs Q E hr h=>?_
 @⟨a,v,e,Pb,W,rfl,kn,tg,ev,es,ok,hd,q⟩:=h
 !W1:=(WB n).mono (show n+1<=n+2 by lia)
 #⟨_,ai7 (aiz (aiM (aiK aiR (aiy aiE (Y 1) aix) aiD) (aiA (aiF ai1)) aiN)
   (aiz (aiM (aiK aiR (aiy aiE (Y 1) aix) aiD) (aiA (aiF (ai4 aiR (aiJ W1 hr U (L (Y 0) (L (aiy aiE (Y 1) aix) M))) (aiJ W1 hr U (L (Y 0) (L (aiy aiE (Y 1) aix) M)))))) aiN)
   (aiz (aiM (aiK aiR (aiy aiE (Y 1) aix) aiD) (aiA (aiF (ai4 ai9 (aiJ W1 hr U (L (Y 0) (L (aiy aiE (Y 1) aix) M))) (aiJ W1 hr U (L (Y 0) (L (aiy aiE (Y 1) aix) M)))))) aiN)
   (aiz (aiM (aiK aiR (aiy aiE (Y 1) aix) aiD) (aiA (aiF (L3.ntE (aiJ G hr U (L (Y 0) (L (aiy aiE (Y 1) aix) M)))))) aiN)
   (aiA (aiF (L3.u9 (aiJ G hr U (L (Y 0) (L (aiy aiE (Y 1) aix) M))) (L3.EZ (aiJ G hr U (L (Y 0) (L (aiy aiE (Y 1) aix) M))))))))))),?_⟩
 cases e with
 | num m=>#es.elim
 | box t x=>#es.elim
 | yes=>
   @⟨p,rfl,hp⟩:=ev
   #af U ?_
   #aW hp U ?_
   #bB U U ?_
   #aC (λu=>?_) (λc=>aw (ed rfl) c)
   #q
 | nt e1=>
   @⟨x,⟨p,rfl,hp⟩,ax⟩:=ev
   !qQ:e1.dep+1<n+1:=hd
   #af U ?_
   #aW hp U ?_
   #bB U U ?_
   #aC (λc=>aw (cU c) (by left)) (λu=>?_)
   #af U ?_
   #aW hp U ?_
   #bB U U ?_
   #aC (λc=>aw (cU c) (by left)) (λu=>?_)
   #af U ?_
   #aW hp U ?_
   #bB U U ?_
   #aC (λc=>aw (cU c) (by left)) (λu=>?_)
   #af U ?_
   #aW hp U ?_
   #bB U U ?_
   #aC (λu=>?_) (λc=>aw (ed rfl) c)
   #af U (af U ?_)
   #aW hp U ?_
   #⟨a,x,e1,Pb,W,U,kn,tg,ax,es,ok,by lia,af U q⟩
 | two k e1 e2=>
   @⟨x,y,⟨p,rfl,hp⟩,ax,ay⟩:=ev
   !qQ:max e1.dep e2.dep+1<n+1:=hd
   cases k with
   | plus=>#es.elim
   | less=>#es.elim
   | same=>
     #af U ?_
     #aW hp U ?_
     #bB U U ?_
     #aC (λc=>aw (cU c) (by left)) (λu=>?_)
     #af U ?_
     #aW hp U ?_
     #bB U U ?_
     #aC (λu=>?_) (λc=>aw (ed rfl) c)
     #af U (af U ?_)
     #aW hp U ?_
     #⟨a,x,e1,Pb,W,U,kn,tg,ax,es.1,ok.1,by lia,?_⟩
     #af U (af U ?_)
     #aW hp U ?_
     #⟨a,y,e2,Pb,W,U,kn,tg,ay,es.2,ok.2,by lia,?_⟩
     !eq:decide (V.int (e1.worth W)=V.int (e2.worth W))=decide (e1.worth W=e2.worth W):=decide_eq_decide.mpr ⟨λz=>by injection z,λz=>by rw[z]⟩
     #⟨U,?_⟩
     rw[eq]
     #q
   | under=>
     #af U ?_
     #aW hp U ?_
     #bB U U ?_
     #aC (λc=>aw (cU c) (by left)) (λu=>?_)
     #af U ?_
     #aW hp U ?_
     #bB U U ?_
     #aC (λc=>aw (cU c) (by left)) (λu=>?_)
     #af U ?_
     #aW hp U ?_
     #bB U U ?_
     #aC (λu=>?_) (λc=>aw (ed rfl) c)
     #af U (af U ?_)
     #aW hp U ?_
     #⟨a,x,e1,Pb,W,U,kn,tg,ax,es.1,ok.1,by lia,?_⟩
     #af U (af U ?_)
     #aW hp U ?_
     #⟨a,y,e2,Pb,W,U,kn,tg,ay,es.2,ok.2,by lia,?_⟩
     #aJ U U q
   | both=>
     #af U ?_
     #aW hp U ?_
     #bB U U ?_
     #aC (λc=>aw (cU c) (by left)) (λu=>?_)
     #af U ?_
     #aW hp U ?_
     #bB U U ?_
     #aC (λc=>aw (cU c) (by left)) (λu=>?_)
     #af U ?_
     #aW hp U ?_
     #bB U U ?_
     #aC (λc=>aw (cU c) (by left)) (λu=>?_)
     #af U ?_
     #aW hp U ?_
     #bB U U ?_
     #aC (λc=>aw (cU c) (by left)) (λu=>?_)
     #af U (af U ?_)
     #aW hp U ?_
     #⟨a,x,e1,Pb,W,U,kn,tg,ax,es.1,ok.1,by lia,af U ?_⟩
     !q':Q (.bl (e1.holds W&&e2.holds W)) H:=q
     #aC (λc=>?_) (λc=>?_)
     . #af U (af U ?_)
       #aW hp U ?_
       #⟨a,y,e2,Pb,W,U,kn,tg,ay,es.2,ok.2,by lia,?_⟩
       rw[c,aha]at q'
       #q'
     . rw[Bool.eq_false_iff.mpr c,afS]at q'
       #q'
def uc {f:J}{fd:aef}:aL P w K mg base cm 2 f fd ["known","condition"] (gV 0):=by
 !no:∀vs H Q E,¬ gV 0 vs H Q E:=λvs H Q E h=>by
   @⟨_,_,_,_,_,_,_,_,_,_,_,h1,_⟩:=h
   lia
 #⟨λvs H Q E h=>aw h (no vs H Q E),λA outer s H args us vs Q E z z z z h=>aw h (no vs H Q E)⟩
def xq (s:Src K mg "holds_by" mE)(WB:∀n,bI P w K mg base "worth_by" ["known","sum_told"] (n+1) (eE n)):∀n:Nat,bI P w K mg base "holds_by" ["known","condition"] (n+2) (gV n):=by
 @⟨f,fd,F,m⟩:=s
 !b:Binds K fd ["known","condition"] []:=iV F λz z z z z z z z=>rfl
 intro n
 !all:aL P w K mg base cm (n+2) f fd ["known","condition"] (gV n):=by
   induction n with
   | zero=>#uc
   | succ n ih=>#AO F WB ⟨f,fd,ih,F.kp,b,m⟩
 #⟨f,fd,all,F.kp,b,m⟩
abbrev Bt:Stmt:=top 24
abbrev vW:Stmt:=top 23
def dN (bs:ag)(ws:O Int)(x:Str)(t:Int):O Int:=List.zipWith (λb w=>if b.1=x then t%b.2 else w) bs ws
def Bk {bs:ag}{ws:O Int}{x:Str}{t:Int}{i:Nat}{b:Str×Int}{w:Int}(h1:bs[i]?=S b)(h2:ws[i]?=S w):(dN bs ws x t)[i]?=S (if b.1=x then t%b.2 else w):=by
 unfold dN
 rw[afT,h1,h2]
def rB {bs:ag}{ws:O Int}{x:Str}{t:Int}(h:bs~=ws~):(dN bs ws x t)~=bs~:=by
 unfold dN
 rw[List.length_zipWith]
 lia
def uR:Sp:=λvs H Q z=>∃(v:V) (wa:J) (x:Str) (t:Int) (bs:ag) (ws:O Int),vs=[v,.ref wa,.str x,.int t]/\jq H v bs/\bs~<=900/\(∀b∈bs,1<=b.2)/\H wa=S (.lst (ws.map V.int))/\bs~=ws~ /\
 ∀l H',H l=Z->ak H H'->H' l=S (.lst ((dN bs ws x t).map V.int))->Q (.ref l) H'
def LD:aA ["program","worths","put_name","told"] ["program","worths","put_name","told"] (ao Bt):=dX
def EY {f:J}{fd:aef}(F:cF K "worths_put" "worths_put" Bt f fd)(m_zip:mg "zip"=Z):aL P w K mg base cm 1 f fd ["program","worths","put_name","told"] uR:=by
 #F.eO LD λcdv A outer s H vs Q E hr h=>?_
 @⟨v,wa,x,t,bs,ws,rfl,⟨p,B,I,N,vb,rfl,hp,hB,pb⟩,Mg,sz,hw,hlen,q⟩:=h
 #⟨_,ai7 (aiA (aiF (aiY [Z,Z,Z,S 2,S 3] ["name","size","worth","put_name","told"] (ij Bt) U (ajp U m_zip (L (aiy aiE (Y 0) aix) (L (Y 1) M))) (λy y y y y=>⟨(aiT 2 (aiI (aiT 2 (aiI (aiC 0 (dW ["name","size","worth","put_name","told"])) (aiI (aiC 1 (dW ["name","size","worth","put_name","told"])) aiU))) (aiI (aiC 2 (dW ["name","size","worth","put_name","told"])) aiU))),aiV,(L3.Q5 (aiK aiR (Y 0) (Y 3)) (aiB aiQ (Y 4) (Y 1)) (Y 2))⟩)))),?_⟩
 !pD:vb~=bs~:=Paired.length pb
 !Mv:vb~=(ws.map V.int)~:=by rw[ad1];lia
 #af U ?_
 #aW hp U ?_
 #af U ⟨B,bu U ⟨_,aB.of hB⟩ ⟨⟨_,aB.of hw⟩,λD hD=>?_⟩⟩
 #jv (xs:=vb) (ys:=ws.map V.int) Mv (λi H2=>(∀b o,H b=S o->H2 b=S o)/\H2 D=S (.lst (((dN bs ws x t).take i).map V.int))) ⟨ah hD _,ae⟩ (λi H2 y z=>⟨aB.of (z.1 _ _ hB),aB.of (z.1 _ _ hw)⟩) (λi x0 y0 pr H2 hx hy z yN=>?_) (λH2 z=>?_)
 . @⟨z,xn⟩:=z
   @⟨b,ik,pp,rfl,Eb⟩:=Paired.get pb hx
   @⟨w0,UB,rfl⟩:=aX hy
   !du:i<vb~:=(aH hx)
   !Ac:=z _ _ Eb
   !mj:=sz b (ad4 ik)
   !hg:=Bk (x:=x) (t:=t) ik UB
   !WI:((dN bs ws x t).take i)~<=900:=by rw[aea,rB hlen];lia
   !QQ:(upd H2 pr (.tup [.ref pp,.int w0])) D=S (.lst (((dN bs ws x t).take i).map V.int)):=by rw[aj (ai xn yN)];#xn
   !keep:∀u,∀c o,H c=S o->(upd (upd H2 pr (.tup [.ref pp,.int w0])) D u) c=S o:=λu c o hc=>by
     !C9:=z c o hc
     rw[aj (ai hc hD),aj (ai C9 yN)]
     #C9
   #aJ U (dY.of ae) ⟨U,_,af U (aJ U (dY.of (by rw[aj (ai Ac yN)];#Ac)) ⟨U,_,af U (aJ U U (aJ U U ?_))⟩)⟩
   #bQ (A:=λH3=>cB _ D _ H3 _) ?_
   #af U (af U (bB U U ?_))
   #aC (λc=>?_) (λc=>?_)
   . !c':b.1=x:=by !:=cU c;injection this
     #af U (af U (dB U U (by change(0:Int)<b.2;lia) ⟨_,QQ,aD (by rw[ad1];lia),aF (Pv:=λi H2=>(∀b o,H b=S o->H2 b=S o)/\H2 D=S (.lst (((dN bs ws x t).take i).map V.int))) (by repeat' constructor) du ⟨keep _,?_⟩⟩))
     rw[ae,aec,hg,aR c',aeb]
     rfl
   . !c':¬ b.1=x:=λz=>c (ed (by rw[z]))
     #af U ⟨_,QQ,aD (by rw[ad1];lia),aF (Pv:=λi H2=>(∀b o,H b=S o->H2 b=S o)/\H2 D=S (.lst (((dN bs ws x t).take i).map V.int))) (by repeat' constructor) du ⟨keep _,?_⟩⟩
     rw[ae,aec,hg,aM c',aeb]
     rfl
 . @⟨z,xn⟩:=z
   !et:(dN bs ws x t).take vb~=dN bs ws x t:=by rw[pD,← rB (x:=x) (t:=t) hlen,aed]
   rw[et]at xn
   #q D H2 hD z xn
def cL (bs:ag)(ws:O Int):Nd->Option (O Int×Int×O Int)
 | .fin=>Z
 | .put x s n=>S ([],n,dN bs ws x (s.worth λz y=>eP bs ws y))
 | .say s n=>S ([s.worth λz y=>eP bs ws y],n,ws)
 | .test c n o=>S ([],if(c.holds λz y=>eP bs ws y)=true then n else o,ws)
structure oR (H:Hp)(v:V)(wa:J)(bs:ag)(ws:O Int)(ins:O Str)(nds:O Nd)(pl:Int)(nd:Nd)(m:Int):Prop where
 pa:aN H v bs ins nds
 ndn:(bs.map (·.1)).Nodup
 len:bs~<=900
 sz:∀b∈bs,1<=b.2
 wl:H wa=S (.lst (ws.map V.int))
 pw:Paired Within (bs.map (·.2)) ws
 p0:0<=pl
 here:nds[pl.toNat]?=S nd
 gd:nd.good (·∈bs.map (·.1)) m 19
def aN.same {H H':Hp}{v:V}{bs:ag}{ins:O Str}{nds:O Nd}(h:aN H v bs ins nds)(s:ak H H'):aN H' v bs ins nds:=by
 @⟨p,B,I,N,vb,vn,rfl,hp,hB,hI,hN,pb,pn⟩:=h
 #⟨p,B,I,N,vb,vn,U,s _ _ hp,s _ _ hB,s _ _ hI,s _ _ hN,Paired.aP pb λy y z=>Tp.keep (ak.tk s) z,Paired.aP pn λy y z=>bZ.keep (ak.tk s) z⟩
def oR.ll {H:Hp}{v:V}{wa:J}{bs:ag}{ws:O Int}{ins:O Str}{nds:O Nd}{pl:Int}{nd:Nd}{m:Int}(h:oR H v wa bs ws ins nds pl nd m):bs~=ws~:=by
 !:=Paired.length h.pw
 rw[ad1]at this
 #this
structure Told (H H':Hp)(r l1 l2:J)(said:O Int)(n:Int)(ws':O Int):Prop where
 s:ak H H'
 hr:H r=Z
 h1:H l1=Z
 h2:H l2=Z
 er:H' r=S (.tup [.ref l1,.int n,.ref l2])
 e1:H' l1=S (.lst (said.map V.int))
 e2:H' l2=S (.lst (ws'.map V.int))
 ne:l1≠l2
def Cc:Sp:=λvs H Q z=>∃(v:V) (pl:Int) (wa:J) (bs:ag) (ws:O Int) (ins:O Str) (nds:O Nd) (nd:Nd) (m:Int),vs=[v,.int pl,.ref wa]/\oR H v wa bs ws ins nds pl nd m /\
 (cL bs ws nd=Z->∀H',ak H H'->Q .bA H')/\∀said n ws',cL bs ws nd=S (said,n,ws')->∀r l1 l2 H',Told H H' r l1 l2 said n ws'->Q (.ref r) H'
def mJ:aA ["program","place","worths","node","known"] ["program","place","worths"] (ao vW):=dX
def xX {f:J}{fd:aef}(F:cF K "step_at" "step_at" vW f fd)(m_list:mg "list"=Z)(KW:su P w K mg base "known_worths" ["program","worths","side"] 24 jR "box")(WP:bI P w K mg base "worths_put" ["program","worths","put_name","told"] 24 uR)
    (WB:bI P w K mg base "worth_by" ["known","sum_told"] 24 (eE 20)) (HB:bI P w K mg base "holds_by" ["known","condition"] 24 (gV 20)):aL P w K mg base cm 25 f fd ["program","place","worths"] Cc:=by
 #F.eO mJ λcdv A outer s H vs Q E hr h=>?_
 @⟨v,pl,wa,bs,ws,ins,nds,nd,m,rfl,pre,qn,qs⟩:=h
 #⟨_,ai7 (aiz (aiL 3 mJ.nd (aiy aiH (aiy aiE (Y 0) aix) (Y 1)))
   (aiz (aiM (aiK aiR (aiy aiE (Y 3) aix) aiD) (aiA (aiF ajt)) aiN)
   (aiz (aiL 4 mJ.nd (Vd KW hr U (L (Y 0) (L (Y 2) M))))
   (aiz (aiM (aiK aiR (aiy aiE (Y 3) aix) aiD) (aiA (aiF (aiG (L (aiO M) (L (aiy aiE (Y 3) aix) (L (aiJ WP hr U (L (Y 0) (L (Y 2) (L (aiy aiE (Y 3) aix) (L (aiJ WB hr U (L (Y 4) (L (aiy aiE (Y 3) aix) M))) M))))) M)))))) aiN)
   (aiz (aiM (aiK aiR (aiy aiE (Y 3) aix) aiD) (aiA (aiF (aiG (L (aiO (L (aiJ WB hr U (L (Y 4) (L (aiy aiE (Y 3) aix) M))) M)) (L (aiy aiE (Y 3) aix) (L (ai2 ajq U m_list (by right) (L (Y 2) M)) M)))))) aiN)
   (aiz (aiM (ajh (aiJ HB hr U (L (Y 4) (L (aiy aiE (Y 3) aix) M)))) (aiA (aiF (aiG (L (aiO M) (L (aiy aiE (Y 3) aix) (L (ai2 ajq U m_list (by right) (L (Y 2) M)) M)))))) aiN)
   (aiA (aiF (aiG (L (aiO M) (L (aiy aiE (Y 3) aix) (L (ai2 ajq U m_list (by right) (L (Y 2) M)) M)))))))))))),?_⟩
 @⟨p,B,I,N,vb,vn,rfl,hp,hB,hI,hN,pb,pn⟩:=pre.pa
 !du:pl.toNat<nds~:=(aH pre.here)
 !WV:vn~=nds~:=Paired.length pn
 obtain⟨x0,GQ⟩ : ∃x0,vn[pl.toNat]?=S x0:=⟨vn[pl.toNat]'(by lia),ad3 (by lia)⟩
 !jV:hW vn pl=S x0:=by
   !:=bL GQ
   rw[afE pre.p0]at this
   #this
 !D9:=Paired.Nh pn GQ pre.here
 !gd:=pre.gd
 #af U ?_
 #aW hp U ?_
 #af U ?_
 #bY hN jV ?_
 cases nd with
 | fin=>
   @⟨x,rfl,hx⟩:=D9
   #af U ?_
   #aW hx U ?_
   #bB U U ?_
   #aC (λq=>?_) (λc=>aw (ed rfl) c)
   #qn rfl _ (same_refl _)
 | put nm e n=>
   @⟨u,⟨x,rfl,hx⟩,eu⟩:=D9
   @⟨g1,g2,g3,g4,g5,g6⟩:=gd
   #af U ?_
   #aW hx U ?_
   #bB U U ?_
   #aC (λc=>aw (cU c) (by left)) (λq=>?_)
   #af U (af U ⟨.ref p,wa,"box",bs,ws,U,⟨p,B,_,_,vb,U,hp,hB,pb⟩,pre.ndn,pre.len,pre.wl,pre.ll,λD H1 hD s1 hk=>?_⟩)
   !kn:Gn H1 D (QC bs) (λq y=>eP bs ws y):=⟨_,hk,λt x h=>by rw[h.1];#iK "box" bs ws x pre.ll h.2⟩
   !kS:=s1 _ _ hx
   !Qo:=s1 _ _ pre.wl
   #af U ?_
   #aW kS U ?_
   #bB U U ?_
   #aC (λq=>?_) (λc=>aw (ed rfl) c)
   #⟨aky,λl1 hl1=>?_⟩
   !s2:=ah hl1 (.lst [])
   !e1:(upd H1 l1 (.lst [])) l1=S (.lst []):=ae
   generalize upd H1 l1 (.lst [])=H2 at s2 e1 ⊢
   !s02:=aa s1 s2
   !Jz:=s2 _ _ kS
   #af U ?_
   #aW Jz U ?_
   #af U (af U (af U ?_))
   #aW Jz U ?_
   #af U (af U ?_)
   #aW Jz U ?_
   #⟨D,u,e,_,af U ⟨kn.same s2,lW bs,eu.same s02,g2,g3,by lia,?_⟩⟩
   #⟨.ref p,wa,nm,_,bs,ws,U,⟨p,B,_,_,vb,U,s02 _ _ hp,s02 _ _ hB,Paired.aP pb λq q z=>Tp.keep (ak.tk s02) z⟩,pre.len,pre.sz,s02 _ _ pre.wl,pre.ll,λl2 H3 hl2 s3 e2=>⟨akB,λr dO=>?_⟩⟩
   !s4:=ah dO (.tup [.ref l1,.int n,.ref l2])
   !s03:=aa s02 s3
   #qs _ _ _ rfl r l1 l2 _ ⟨aa s03 s4,aq s03 dO,aq s1 hl1,aq s02 hl2,ae,s4 _ _ (s3 _ _ e1),s4 _ _ e2,ai e1 hl2⟩
 | say e n=>
   @⟨u,⟨x,rfl,hx⟩,eu⟩:=D9
   @⟨g2,g3,g4,g5,g6⟩:=gd
   #af U ?_
   #aW hx U ?_
   #bB U U ?_
   #aC (λc=>aw (cU c) (by left)) (λq=>?_)
   #af U (af U ⟨.ref p,wa,"box",bs,ws,U,⟨p,B,_,_,vb,U,hp,hB,pb⟩,pre.ndn,pre.len,pre.wl,pre.ll,λD H1 hD s1 hk=>?_⟩)
   !kn:Gn H1 D (QC bs) (λq y=>eP bs ws y):=⟨_,hk,λt x h=>by rw[h.1];#iK "box" bs ws x pre.ll h.2⟩
   !kS:=s1 _ _ hx
   !Qo:=s1 _ _ pre.wl
   #af U ?_
   #aW kS U ?_
   #bB U U ?_
   #aC (λc=>aw (cU c) (by left)) (λq=>?_)
   #af U ?_
   #aW kS U ?_
   #bB U U ?_
   #aC (λq=>?_) (λc=>aw (ed rfl) c)
   #af U (af U ?_)
   #aW kS U ?_
   #⟨D,u,e,_,af U ⟨kn,lW bs,eu.same s1,g2,g3,by lia,akz,λl1 hl1=>?_⟩⟩
   !s2:=ah hl1 (.lst [.int (e.worth λq y=>eP bs ws y)])
   !e1:(upd H1 l1 (.lst [.int (e.worth λq y=>eP bs ws y)])) l1=S _:=ae
   generalize upd H1 l1 (.lst [.int (e.worth λq y=>eP bs ws y)])=H2 at s2 e1 ⊢
   !s02:=aa s1 s2
   #af U ?_
   #aW (s2 _ _ kS) U ?_
   #af U (aJ U (.inl (aB.of (s2 _ _ Qo))) (λl2 hl2=>⟨akB,λr dO=>?_⟩))
   !s3:=ah hl2 (.lst (ws.map V.int))
   !s4:=ah dO (.tup [.ref l1,.int n,.ref l2])
   !s03:=aa s02 s3
   #qs _ _ _ rfl r l1 l2 _ ⟨aa s03 s4,aq s03 dO,aq s1 hl1,aq s02 hl2,ae,s4 _ _ (s3 _ _ e1),s4 _ _ ae,ai e1 hl2⟩
 | test c n o=>
   @⟨u,⟨x,rfl,hx⟩,eu⟩:=D9
   @⟨g2,g3,g4,g5,g6⟩:=gd
   #af U ?_
   #aW hx U ?_
   #bB U U ?_
   #aC (λc=>aw (cU c) (by left)) (λq=>?_)
   #af U (af U ⟨.ref p,wa,"box",bs,ws,U,⟨p,B,_,_,vb,U,hp,hB,pb⟩,pre.ndn,pre.len,pre.wl,pre.ll,λD H1 hD s1 hk=>?_⟩)
   !kn:Gn H1 D (QC bs) (λq y=>eP bs ws y):=⟨_,hk,λt x h=>by rw[h.1];#iK "box" bs ws x pre.ll h.2⟩
   !kS:=s1 _ _ hx
   !Qo:=s1 _ _ pre.wl
   #af U ?_
   #aW kS U ?_
   #bB U U ?_
   #aC (λc=>aw (cU c) (by left)) (λq=>?_)
   #af U ?_
   #aW kS U ?_
   #bB U U ?_
   #aC (λc=>aw (cU c) (by left)) (λq=>?_)
   #af U (af U ?_)
   #aW kS U ?_
   #⟨D,u,c,_,af U ⟨kn,lW bs,eu.same s1,g2,g3,by lia,af U ?_⟩⟩
   #aC (λhc=>?_) (λhc=>?_)
   . #⟨aky,λl1 hl1=>?_⟩
     !s2:=ah hl1 (.lst [])
     !e1:(upd H1 l1 (.lst [])) l1=S (.lst []):=ae
     generalize upd H1 l1 (.lst [])=H2 at s2 e1 ⊢
     !s02:=aa s1 s2
     #af U ?_
     #aW (s2 _ _ kS) U ?_
     #af U (aJ U (.inl (aB.of (s2 _ _ Qo))) (λl2 hl2=>⟨akB,λr dO=>?_⟩))
     !s3:=ah hl2 (.lst (ws.map V.int))
     !s4:=ah dO (.tup [.ref l1,.int n,.ref l2])
     !s03:=aa s02 s3
     #qs [] n ws (by change S _=S _;rw[aR hc]) r l1 l2 _ ⟨aa s03 s4,aq s03 dO,aq s1 hl1,aq s02 hl2,ae,s4 _ _ (s3 _ _ e1),s4 _ _ ae,ai e1 hl2⟩
   . #⟨aky,λl1 hl1=>?_⟩
     !s2:=ah hl1 (.lst [])
     !e1:(upd H1 l1 (.lst [])) l1=S (.lst []):=ae
     generalize upd H1 l1 (.lst [])=H2 at s2 e1 ⊢
     !s02:=aa s1 s2
     #af U ?_
     #aW (s2 _ _ kS) U ?_
     #af U (aJ U (.inl (aB.of (s2 _ _ Qo))) (λl2 hl2=>⟨akB,λr dO=>?_⟩))
     !s3:=ah hl2 (.lst (ws.map V.int))
     !s4:=ah dO (.tup [.ref l1,.int o,.ref l2])
     !s03:=aa s02 s3
     #qs [] o ws (by change S _=S _;rw[aM hc]) r l1 l2 _ ⟨aa s03 s4,aq s03 dO,aq s1 hl1,aq s02 hl2,ae,s4 _ _ (s3 _ _ e1),s4 _ _ ae,ai e1 hl2⟩
def iA:ag->O Int->O (Key×V)
 | b::bs,w::ws=>(.inr b.1,.int w)::iA bs ws
 | _,_=>[]
theorem j8:∀(bs:ag) (ws:O Int) (k:Key),k∈(iA bs ws).map (·.1)->∃x∈bs.map (·.1),k=.inr x
 | [],_,_,h=>by simp[iA]at h
 | _::_,[],_,h=>by simp[iA]at h
 | b::bs,w::ws,k,h=>by
   rcases cZ h with z|z
   . #⟨b.1,dA (.inl rfl),z⟩
   . @⟨x,hx,e⟩:=j8 bs ws k z
     #⟨x,dA (.inr hx),e⟩
theorem jh:∀(kvs d:O (Key×V)) (k:Key),k∉kvs.map (·.1)->aY (putAll d kvs) k=aY d k
 | [],_,_,_=>rfl
 | p::r,d,k,h=>by
   change aY (putAll (putK d p.1 p.2) r) k=_
   rw[jh r _ k (λz=>h (dA (.inr z))),ck,aM (λz=>h (dA (.inl z)))]
theorem ji:∀(bs:ag) (ws:O Int) (d:O (Key×V)) (x:Str),bs~=ws~->(bs.map (·.1)).Nodup->x∈bs.map (·.1)->aY (putAll d (iA bs ws)) (.inr x)=S (.int (eP bs ws x))
 | [],_,_,_,_,_,h=>by simp at h
 | _::_,[],_,_,h,_,_=>by simp at h
 | b::bs,w::ws,d,x,hl,nd,hx=>by
   rw[aeN,af5]at nd
   change aY (putAll (putK d (.inr b.1) (.int w)) (iA bs ws)) (.inr x)=S (.int (if b.1=x then w else eP bs ws x))
   by_cases e:b.1=x
   . rw[aR e,jh _ _ _ (λz=>by
       @⟨y,hy,e2⟩:=j8 bs ws _ z
       injection e2 with e2
       subst e2
       #nd.1 (e▸hy)),ck,aR (by rw[e])]
   . rw[aM e]
     #ji bs ws _ x (by simpa using hl) nd.2 ?_
     rcases cZ hx with z|z
     . #aw z.symm e
     . #z
abbrev Bq:Stmt:=top 25
abbrev uA:Stmt:=top 26
def bN (bs:ag)(x:Str):Int:=eP bs (bs.map (·.2)) x
def JJ (bs:ag):O (Key×V):=iA bs (bs.map (·.2))
theorem rn {H:Hp}:∀{vb:O V} {bs:ag},Paired (cE H) vb bs->Paired (sJ H) vb (JJ bs)
 | _,_,.nil=>.nil
 | _,_,.cons ⟨p,e,h⟩ r=>.cons ⟨p,e,h⟩ (rn r)
def r8 (ins:O Str):ag:=ins.map λx=>(x,0)
def eh (ins:O Str):(r8 ins).map (·.1)=ins:=by
 unfold r8
 rw[ae0]
 #List.map_id _
def tH (ins:O Str)(iw:O Int)(y:Str):Int:=eP (r8 ins) iw y
theorem CV:∀(ins:O Str) (iw:O Int),(ins.map (Sum.inr:Str->Key)).zip (iw.map V.int)=iA (r8 ins) iw
 | [],_=>by simp[r8,iA]
 | _::_,[]=>by simp[r8,iA]
 | x::ins,w::iw=>by
   change(Sum.inr x,V.int w)::(ins.map (Sum.inr:Str->Key)).zip (iw.map V.int)=(Sum.inr x,V.int w)::iA (r8 ins) iw
   rw[CV ins iw]
theorem jT:∀{bs:ag} {ws:O Int} {x:Str},x∉bs.map (·.1)->eP bs ws x=0
 | [],_,_,_=>rfl
 | _::_,[],_,_=>rfl
 | b::bs,w::ws,x,h=>by
   change(if b.1=x then w else eP bs ws x)=0
   rw[aM (λe=>h (dA (.inl e.symm)))]
   #jT λz=>h (dA (.inr z))
def dE (bs:ag)(ins:O Str)(iw:O Int):O Int:=bs.map λb=>tH ins iw b.1
theorem fN:∀{bs:ag} {b:Str×Int},(bs.map (·.1)).Nodup->b∈bs->bN bs b.1=b.2
 | [],_,_,h=>nomatch h
 | c::bs,b,nd,h=>by
   rw[aeN,af5]at nd
   change(if c.1=b.1 then c.2 else eP bs (bs.map (·.2)) b.1)=b.2
   rcases cZ h with rfl|h
   . rw[aR rfl]
   . rw[aM (λe:c.1=b.1=>nd.1 (by rw[e];#dD ⟨b,h,rfl⟩))]
     #fN nd.2 h
theorem zE {sz:Str->Int}:∀{ins:O Str} {iw:O Int} {y:Str},Paired Within (ins.map sz) iw->y∈ins->0<=tH ins iw y/\tH ins iw y<sz y
 | [],_,_,_,h=>nomatch h
 | x::ins,[],_,h,_=>nomatch h
 | x::ins,w::iw,y,.cons r t,h=>by
   change 0<=(if x=y then w else tH ins iw y)/\(if x=y then w else tH ins iw y)<sz y
   by_cases e:x=y
   . rw[aR e,← e]
     #r
   . rw[aM e]
     rcases cZ h with z|z
     . #aw z.symm e
     . #zE t z
def gJ {bs:ag}{ins:O Str}{iw:O Int}(nd:(bs.map (·.1)).Nodup)(sz:∀b∈bs,1<=b.2)(pw:Paired Within (ins.map (bN bs)) iw):Paired Within (bs.map (·.2)) (dE bs ins iw):=by
 !go:∀cs:ag,(∀c∈cs,c∈bs)->Paired Within (cs.map (·.2)) (cs.map λb=>tH ins iw b.1):=λcs=>by
   induction cs with
   | nil=>#λz=>.nil
   | cons c cs ih=>
     intro h
     #.cons ?_ (ih λd hd=>h d (dA (.inr hd)))
     !hc:=h c (dA (.inl rfl))
     !h1:=sz c hc
     by_cases m:c.1∈ins
     . @⟨a1,a2⟩:=zE pw m
       rw[fN nd hc]at a2
       #⟨a1,a2⟩
     . !e:tH ins iw c.1=0:=jT (by rw[eh];#m)
       change Within c.2 (tH ins iw c.1)
       rw[e]
       #⟨ag0 0,by lia⟩
 #go bs λz h=>h
structure Fits (bs:ag)(ins:O Str):Prop where
 nd:(bs.map (·.1)).Nodup
 len:bs~<=900
 sz:∀b∈bs,1<=b.2
 ind:ins.Nodup
 sub:∀x∈ins,x∈bs.map (·.1)
 ilen:ins~<=900
def jn:Sp:=λvs H Q z=>∃(v:V) (bs:ag) (ins:O Str) (nds:O Nd),vs=[v]/\aN H v bs ins nds/\Fits bs ins/\∀l H',H l=Z->ak H H'->H' l=S (.lst ((ins.map (bN bs)).map V.int))->Q (.ref l) H'
def BA:aA ["program","sizes"] ["program"] (ao Bq):=dX
def EE {f:J}{fd:aef}(F:cF K "input_sizes" "input_sizes" Bq f fd)(m_dict:mg "dict"=Z):aL P w K mg base cm 1 f fd ["program"] jn:=by
 #F.eO BA λcdv A outer s H vs Q E hr h=>?_
 @⟨v,bs,ins,nds,rfl,pa,ft,q⟩:=h
 #⟨_,ai7 (aiz (aiL 1 BA.nd (ai2 L3.IZ U m_dict (by right) (L (aiy aiE (Y 0) aix) M)))
   (aiA (aiF (aiY [Z,S 1] ["name","sizes"] (ij Bq) U (aiW (aiy aiE (Y 0) aix)) (λy y y y y=>⟨(aiC 0 (dW ["name","sizes"])),aiV,(ajc (bj hr _ (by left)) (Y 1) (Y 0))⟩))))),?_⟩
 @⟨p,B,I,N,vb,vn,rfl,hp,hB,hI,hN,pb,pn⟩:=pa
 !ilen:=ft.ilen
 #af U ?_
 #aW hp U ?_
 #⟨B,vb,JJ bs,U,hB,rn pb,λD hD=>?_⟩
 !s1:=ah hD (.dK (putAll [] (JJ bs)))
 !eD:(upd H D (.dK (putAll [] (JJ bs)))) D=S (.dK (putAll [] (JJ bs))):=ae
 generalize upd H D (.dK (putAll [] (JJ bs)))=H2 at s1 eD ⊢
 !zK:=s1 _ _ hI
 #af U ?_
 #aW (s1 _ _ hp) U ?_
 #bu U ⟨_,aB.of zK⟩ (λl hl=>?_)
 #aV (xs:=ins.map V.str) (λi H3=>(∀b o,H2 b=S o->H3 b=S o)/\H3 l=S (.lst (((ins.map (bN bs)).take i).map V.int))) ⟨ah hl _,ae⟩ (λi H3 y z=>aB.of (z.1 _ _ zK)) (λi x0 H3 hx z=>?_) (λH3 z=>?_)
 . @⟨z,zV⟩:=z
   !du:=(aH hx)
   @⟨x,JA,rfl⟩:=aX hx
   !hv:=ji bs (bs.map (·.2)) [] x (by rw[ad1]) ft.nd (ft.sub x (ad4 JA))
   !g:=dv.k (k:=.inr x) (z _ _ eD)
   rw[show aY (putAll [] (JJ bs)) (.inr x)=S (.int (bN bs x))from hv]at g
   #aS ?_
   #bQ (A:=λH4=>cB _ l _ H4 _) ?_
   #af U (af U ⟨D,af U ⟨g,_,zV,aD (by rw[ad1,aea,ad1];lia),aF (Pv:=λi H3=>(∀b o,H2 b=S o->H3 b=S o)/\H3 l=S (.lst (((ins.map (bN bs)).take i).map V.int))) (by repeat' constructor) du ⟨λc o hc=>?_,?_⟩⟩⟩)
   . rw[aj (ai hc hl)]
     #z c o hc
   . rw[ae,aec,aei,JA,aeb]
     rfl
 . @⟨z,zV⟩:=z
   !et:(ins.map (bN bs)).take (ins.map V.str)~=ins.map (bN bs):=by rw[ad1,← ad1 (f:=bN bs) (as:=ins),aed]
   rw[et]at zV
   #q l H3 (aq s1 hl) (aa s1 z) zV
def v8:Sp:=λvs H Q z=>∃(v:V) (ia:J) (bs:ag) (ins:O Str) (nds:O Nd) (iw:O Int),vs=[v,.ref ia]/\aN H v bs ins nds/\Fits bs ins/\H ia=S (.lst (iw.map V.int))/\Paired Within (ins.map (bN bs)) iw/\∀l H',H l=Z->ak H H'->H' l=S (.lst ((dE bs ins iw).map V.int))->Q (.ref l) H'
def vX:aA ["program","inputs","given"] ["program","inputs"] (ao uA):=dX
def AL {f:J}{fd:aef}(F:cF K "beginning_of" "beginning_of" uA f fd)(m_dict:mg "dict"=Z)(m_zip:mg "zip"=Z)(RW:bI P w K mg base "refuse_worths" ["sizes","worths"] 1 uN)(IS:bI P w K mg base "input_sizes" ["program"] 1 jn):aL P w K mg base cm 2 f fd ["program","inputs"] v8:=by
 #F.eO vX λcdv A outer s H vs Q E hr h=>?_
 @⟨v,ia,bs,ins,nds,iw,rfl,pa,ft,hw,pw,q⟩:=h
 #⟨_,ai7 (aiz (ai3 (aiJ RW hr U (L (aiJ IS hr U (L (Y 0) M)) (L (Y 1) M))))
   (aiz (aiL 2 vX.nd (L3.DE U m_dict U m_zip (L (aiy aiE (Y 0) aix) (L (Y 1) M))))
   (aiA (aiF (aiY [Z,Z,S 2] ["name","size","given"] (ij uA) U (aiW (aiy aiE (Y 0) aix)) (λx x x x x=>⟨(aiT 2 (aiI (aiC 0 (dW ["name","size","given"])) (aiI (aiC 1 (dW ["name","size","given"])) aiU))),aiV,(L3.Gx (bj hr _ (by left)) (Y 2) (Y 0) aix)⟩)))))),?_⟩
 !hlen:ins~=iw~:=by !:=Paired.length pw;rw[ad1]at this;#this
 !ilen:=ft.ilen
 !YE:=ft.len
 #af U ⟨v,bs,ins,nds,U,pa,ft,λsl Ha Q3 sa ea=>?_⟩
 #af U ⟨sl,ia,ins.map (bN bs),iw,U,ea,sa _ _ hw,pw,λH1 sb=>?_⟩
 !s1:=aa sa sb
 @⟨p,B,I,N,vb,vn,rfl,hp,hB,hI,hN,pb,pn⟩:=pa.same s1
 !pD:vb~=bs~:=Paired.length pb
 !UA:=s1 _ _ hw
 !TJ:(ins.map V.str)=(ins.map (Sum.inr:Str->Key)).map kV:=by rw[ae0];rfl
 #af U ?_
 #aW hp U ?_
 #af U ⟨I,ia,ins.map Sum.inr,iw.map V.int,U,by rw[← TJ];show aB.of hI,aB.of UA,by rw[ad1,ad1];show hlen,by rw[ad1];lia,λD hD=>?_⟩
 rw[CV]
 !s2:=ah hD (.dK (putAll [] (iA (r8 ins) iw)))
 !eD:(upd H1 D (.dK (putAll [] (iA (r8 ins) iw)))) D=S (.dK (putAll [] (iA (r8 ins) iw))):=ae
 generalize upd H1 D (.dK (putAll [] (iA (r8 ins) iw)))=H3 at s2 eD ⊢
 !Wt:=s2 _ _ hB
 !pb3:Paired (cE H3) vb bs:=Paired.aP pb λx x z=>Tp.keep (ak.tk s2) z
 #af U ?_
 #aW (s2 _ _ hp) U ?_
 #bu U ⟨_,aB.of Wt⟩ (λl hl=>?_)
 #aV (xs:=vb) (λi H4=>(∀b o,H3 b=S o->H4 b=S o)/\H4 l=S (.lst (((dE bs ins iw).take i).map V.int))) ⟨ah hl _,ae⟩ (λi H4 x z=>aB.of (z.1 _ _ Wt)) (λi x0 H4 hx z=>?_) (λH4 z=>?_)
 . @⟨z,D2⟩:=z
   @⟨b,ik,pp,rfl,Eb⟩:=Paired.get pb3 hx
   !du:i<vb~:=(aH hx)
   !Uz:(aY (putAll [] (iA (r8 ins) iw)) (.inr b.1)).getD (.int 0)=V.int (tH ins iw b.1):=by
     by_cases m:b.1∈ins
     . !hv:=ji (r8 ins) iw [] b.1 (by unfold r8;rw[ad1];#hlen) (by rw[eh];#ft.ind) (by rw[eh];#m)
       rw[hv]
       rfl
     . !hv:aY (putAll [] (iA (r8 ins) iw)) (.inr b.1)=Z:=by
         rw[jh _ _ _ (λzz=>by
           @⟨y,hy,e2⟩:=j8 (r8 ins) iw _ zz
           injection e2 with e2
           rw[eh]at hy
           #m (e2▸hy))]
         rfl
       rw[hv,show tH ins iw b.1=0 from jT (by rw[eh];#m)]
       rfl
   #nJ (z _ _ Eb) ?_
   #bQ (A:=λH5=>cB _ l _ H5 _) ?_
   #af U ⟨D,U,.inl ⟨_,.inl (z _ _ eD)⟩,af U ⟨_,dv.k (k:=.inr b.1) (z _ _ eD),?_⟩⟩
   rw[Uz]
   #⟨_,D2,aD (by rw[ad1,aea];unfold dE;rw[ad1];lia),aF (Pv:=λi H4=>(∀b o,H3 b=S o->H4 b=S o)/\H4 l=S (.lst (((dE bs ins iw).take i).map V.int))) (by repeat' constructor) du ⟨λc o hc=>?_,?_⟩⟩
   . rw[aj (ai hc hl)]
     #z c o hc
   . rw[ae,aec,show(dE bs ins iw)[i]?=S (tH ins iw b.1)by unfold dE;rw[aei,ik];rfl,aeb]
     rfl
 . @⟨z,D2⟩:=z
   !et:(dE bs ins iw).take vb~=dE bs ins iw:=by
     !:vb~=(dE bs ins iw)~:=by unfold dE;rw[ad1];#pD
     rw[this,aed]
   rw[et]at D2
   #q l H4 (aq (aa s1 s2) hl) (aa s1 (aa s2 z)) D2
abbrev uC:Stmt:=top 18
def pY:Sp:=λvs H Q z=>∃(v:V) (bs:ag),vs=[v]/\jq H v bs/\bs~<=900/\∀l,H l=Z->Q (.ref l) (upd H l (.lst ((bs.map (·.2)).map V.int)))
def FV:aA ["program"] ["program"] (ao uC):=dX
def AM {f:J}{fd:aef}(F:cF K "box_sizes" "box_sizes" uC f fd):aL P w K mg base cm 1 f fd ["program"] pY:=by
 #F.eO FV λcdv A outer s H vs Q E hr h=>?_
 @⟨v,bs,rfl,⟨p,B,I,N,vb,rfl,hp,hB,pb⟩,Mg,q⟩:=h
 #⟨_,ai7 (aiA (aiF (aiY [Z,Z] ["name","size"] (ij uC) U (aiW (aiy aiE (Y 0) aix)) (λz z z z z=>⟨(aiT 2 (aiI (aiC 0 (dW ["name","size"])) (aiI (aiC 1 (dW ["name","size"])) aiU))),aiV,(Y 1)⟩)))),?_⟩
 !pD:vb~=bs~:=Paired.length pb
 #af U ?_
 #aW hp U ?_
 #bu U ⟨_,aB.of hB⟩ (λna kP=>?_)
 !Oy:B≠na:=ai hB kP
 #aV (xs:=vb) (λi H2=>H2=upd H na (.lst ((bs.take i).map λb=>V.int b.2))) rfl (λi H2 z e=>?_) (λi x H2 hx e=>?_) (λH2 e=>?_)
 . subst e
   #aB.of (by rw[aj Oy];#hB)
 . subst e
   @⟨b,ik,p,rfl,hp⟩:=Paired.get pb hx
   !du:i<vb~:=(aH hx)
   #nJ (by rw[aj (ai hp kP)];#hp) ?_
   #bQ (A:=λH3=>cB (qg 1) na _ H3 _) (af U ⟨_,ae,aD (by rw[ad1,aea];lia),aF (Pv:=λi H2=>H2=upd H na (.lst ((bs.take i).map λb=>V.int b.2))) (by repeat' constructor) du ?_⟩)
   rw[da]
   congr 2
   rw[aec,ik,aeb]
   rfl
 . subst e
   !et:(bs.take vb~).map (λb=>V.int b.2)=(bs.map (·.2)).map V.int:=by rw[pD,aed,ae0];rfl
   rw[et]
   #q na kP
abbrev qB (b1 b2:ag):Str->Str->Prop:=λt x=>(t="mine"/\x∈b1.map (·.1))\/(t="yours"/\x∈b2.map (·.1))
def kJ (b1:ag)(w1:O Int)(b2:ag)(w2:O Int):Str->Str->Int:=λt x=>if t="mine" then eP b1 w1 x else eP b2 w2 x
def aN.bx {H:Hp}{v:V}{bs:ag}{ins:O Str}{nds:O Nd}(h:aN H v bs ins nds):jq H v bs:=by
 @⟨p,B,I,N,vb,vn,e,h1,h2,h3,h4,h5,h6⟩:=h
 #⟨p,B,_,_,vb,e,h1,h2,h5⟩
abbrev vT:Stmt:=top 30
structure V3 (H:Hp)(v1 v2:V)(b1 b2:ag)(ins:O Str)(n1 n2:O Nd):Prop where
 p1:aN H v1 b1 ins n1
 p2:aN H v2 b2 ins n2
 f1:Fits b1 ins
 f2:Fits b2 ins
 sz:ins.map (bN b1)=ins.map (bN b2)
def rO:Sp:=λvs H Q z=>∃(v1 v2:V) (b1 b2:ag) (ins:O Str) (n1 n2:O Nd),vs=[v1,v2]/\V3 H v1 v2 b1 b2 ins n1 n2/\∀H',ak H H'->Q .bA H'
def BC:aA ["one","other"] ["one","other"] (ao vT):=dX
def xU {f:J}{fd:aef}(F:cF K "refuse_no_pair" "refuse_no_pair" vT f fd)(IS:bI P w K mg base "input_sizes" ["program"] 1 jn):aL P w K mg base cm 2 f fd ["one","other"] rO:=by
 #F.eO BC λcdv A outer s H vs Q E hr h=>?_
 @⟨v1,v2,b1,b2,ins,n1,n2,rfl,T,q⟩:=h
 #f7 ⟨_,(aiA (aiM (aje (ajb (aiK (L3.oq (m:=0) (bj hr _ (by left))) (aiy aiE (Y 0) aix) (aiy aiE (Y 1) aix)) (ajk (aiK (L3.oq (m:=0) (bj hr _ (by left))) (aiJ IS hr U (L (Y 0) M)) (aiJ IS hr U (L (Y 1) M)))))) L3.never aiN)),?_⟩
 @⟨p,B,I,N,vb,vn,rfl,hp,hB,hI,hN,pb,pn⟩:=T.p1
 @⟨p',B',I',N',XZ,VH,rfl,r6,Ws,QV,Su,Xj,Vk⟩:=T.p2
 !eqs:∀{H:Hp} {n:Nat} {xs:O V},(∀x∈xs,cM x=true)->∀(j:Nat) (x y:V),xs[j]?=S x->xs[j]?=S y->ET K H n x y:=λhf j x y hx hy=>by
   rw[hx]at hy
   cases hy
   #ET.refl (.inl (hf x (ad4 hx)))
 !fs:∀x∈ins.map V.str,cM x=true:=λx hx=>by@⟨z,_,rfl⟩:=cO hx;rfl
 !fi:∀(l:O Int),∀x∈l.map V.int,cM x=true:=λl x hx=>by@⟨z,_,rfl⟩:=cO hx;rfl
 #af U ?_
 #aW hp U ?_
 #af U ?_
 #aW r6 U ?_
 #⟨true,RB.lst (aB.of hI) (aB.of QV) rfl (eqs fs),af U ?_⟩
 #aC (λc=>aw c (by left)) (λv=>?_)
 #af U ⟨_,b1,ins,n1,U,T.p1,T.f1,λl1 H1 hl1 s1 g1=>?_⟩
 #af U ⟨_,b2,ins,n2,U,T.p2.same s1,T.f2,λl2 H2 hl2 s2 g2=>?_⟩
 rw[← T.sz]at g2
 #⟨true,RB.lst (aB.of (s2 _ _ g1)) (aB.of g2) rfl (eqs (fi _)),af U ?_⟩
 #aC (λc=>aw c (by left)) (λv=>?_)
 #q _ (aa s1 s2)
abbrev Lu:Stmt:=top 28
def ext (n:Nat)(r:O Int):O (O Int):=(aem n).map λw=>r++[((w:Nat):Int)]
def bV:O Int->O (O Int)
 | []=>[[]]
 | s::ss=>(aem s.toNat).flatMap λw=>(bV ss).map λr=>((w:Nat):Int)::r
theorem nY:∀(ss:O Int) (s:Int),bV (ss++[s])=(bV ss).flatMap (ext s.toNat)
 | [],s=>by
   change(aem s.toNat).flatMap (λw=>[[((w:Nat):Int)]])=[[]].flatMap (ext s.toNat)
   rw[afM,ahp,aeK]
   change _=(aem s.toNat).map λw=>[]++[((w:Nat):Int)]
   generalize aem s.toNat=l
   induction l with
   | nil=>rfl
   | cons x l ih=>rw[afM,ih];rfl
 | a::ss,s=>by
   change(aem a.toNat).flatMap (λw=>(bV (ss++[s])).map λr=>((w:Nat):Int)::r)=((aem a.toNat).flatMap λw=>(bV ss).map λr=>((w:Nat):Int)::r).flatMap (ext s.toNat)
   rw[List.flatMap_assoc]
   congr 1
   funext w
   rw[nY ss s,List.map_flatMap,List.flatMap_map]
   congr 1
   funext r
   unfold ext
   rw[ae0]
   rfl
theorem ee:∀(ss:O Int) (r:O Int),r∈bV ss->r~=ss~
 | [],r,h=>by rw[cR h]
 | s::ss,r,h=>by
   @⟨w,_,h⟩:=List.mem_flatMap.mp h
   @⟨q,hq,rfl⟩:=cO h
   rw[aet,aet,ee ss q hq]
theorem pK (n:Nat):∀rows:O (O Int),(rows.flatMap (ext n))~=rows~*n
 | []=>by simp
 | r::rows=>by
   rw[afM,ad7,pK n rows,aet]
   unfold ext
   rw[ad1,aeJ,afV,air]
def IG (H:Hp)(a:J)(r:O Int):Prop:=H a=S (.lst (r.map V.int))
structure Own (H H2:Hp)(l:J)(as:O J)(rows:O (O Int)):Prop where
 s:ak H H2
 nl:H l=Z
 na:∀a∈as,H a=Z
 e:H2 l=S (.lst (as.map V.ref))
 p:Paired (IG H2) as rows
 nd:as.Nodup
 nin:l∉as
theorem Paired.Ak {α β:Type}{F G:α->β->Prop}:∀{l₁:O α} {l₂:O β},Paired F l₁ l₂->(∀a b,a∈l₁->F a b->G a b)->Paired G l₁ l₂
 | _,_,.nil,_=>.nil
 | _,_,.cons h r,f=>.cons (f _ _ aeX h) (Paired.Ak r λa b ha=>f a b (dA (.inr ha)))
def Own.from {H0 H H2:Hp}{l:J}{as:O J}{rows:O (O Int)}(h:Own H H2 l as rows)(s:ak H0 H):Own H0 H2 l as rows:=
 ⟨aa s h.s,aq s h.nl,λa ha=>aq s (h.na a ha),h.e,h.p,h.nd,h.nin⟩
def Own.more {H H2:Hp}{l:J}{as:O J}{rows:O (O Int)}(h:Own H H2 l as rows){b:J}{r:O Int}(hb:H2 b=Z)(h3:Hp)(s3:ak H2 h3)(e3:h3 b=S (.lst (r.map V.int))) :
   Own H (upd h3 l (.lst ((as++[b]).map V.ref))) l (as++[b]) (rows++[r]):=by
 !nb:b≠l:=λz=>by rw[z,h.e]at hb;cases hb
 !Oy:b∉as:=λz=>by
   @⟨i,hi⟩:=aeB z
   @⟨q,_,hq⟩:=Paired.get h.p hi
   rw[show H2 b=S (.lst (q.map V.int))from hq]at hb
   cases hb
 !hbn:H b=Z:=aq h.s hb
 #⟨λc o hc=>?_,h.nl,λa ha=>?_,ae,Paired.snoc ?_ ?_,?_,λz=>?_⟩
 . rw[aj (ai hc h.nl)]
   #s3 _ _ (h.s _ _ hc)
 . rcases eI ha with ha|ha
   . #h.na a ha
   . rw[cR ha];#hbn
 . #Paired.Ak h.p λa r ha z=>?_
   change upd h3 l _ a=_
   rw[aj (λe:a=l=>h.nin (e▸ha))]
   #s3 _ _ z
 . change upd h3 l _ b=_
   rw[aj nb]
   #e3
 . rw[ahj]
   #⟨h.nd,by simp,λx hx y hy e=>Oy (by rw[cR hy]at e;#e▸hx)⟩
 . rcases eI z with z|z
   . #h.nin z
   . #nb (cR z).symm
def we:Sp:=λvs H Q z=>∃(sa:J) (szs:O Int),vs=[.ref sa]/\H sa=S (.lst (szs.map V.int))/\(∀s∈szs,0<=s/\s<=900)/\szs~<=900/\(∀i,(bV (szs.take i))~<=900)/\∀l as H',Own H H' l as (bV szs)->Q (.ref l) H'
def vY:aA ["sizes","rows","size"] ["sizes"] (ao Lu):=dX
def J6 {f:J}{fd:aef}(F:cF K "every_worths" "every_worths" Lu f fd)(m_range:mg "range"=Z):aL P w K mg base cm 1 f fd ["sizes"] we:=by
 #F.eO vY λcdv A outer s H vs Q E hr h=>?_
 @⟨sa,szs,rfl,GL,hsz,Z0,hg,q⟩:=h
 #⟨_,ai7 (aiz (aiL 1 vY.nd (aiO (L (aiO M) M)))
   (aiz (ai0 (aiW (Y 0)) (aiC 2 vY.nd) (aiA (L3.Vw (i:=1) [Z,Z,S 2] ["row","worth","size"] (ij Lu) U (aiW (Y 1)) (λy y y y y=>⟨(aiC 0 (dW ["row","worth","size"])),aiV,(ajj U m_range (L (Y 2) M)),(aiC 1 (dW ["row","worth","size"])),aiV,(aiB ajd (Y 0) (aiO (L (Y 1) M)))⟩) vY.nd)))
   (aiA (aiF (Y 1))))),?_⟩
 #⟨aky,λe0 Wy=>⟨akz,λr0 n8=>?_⟩⟩
 !s1:=ah Wy (.lst [])
 !e1:(upd H e0 (.lst [])) e0=S (.lst []):=ae
 generalize upd H e0 (.lst [])=Ha at s1 e1 n8 ⊢
 !s2:=ah n8 (.lst [.ref e0])
 !e2:(upd Ha r0 (.lst [.ref e0])) r0=S (.lst [.ref e0]):=ae
 generalize upd Ha r0 (.lst [.ref e0])=H1 at s2 e2 ⊢
 !s12:=aa s1 s2
 !O1:Own H H1 r0 [e0] (bV (szs.take 0)):=⟨s12,aq s1 n8,λa ha=>by rw[cR ha];show Wy,e2,.cons (s2 _ _ e1) .nil,by simp,λz=>by rw[cR z,e1]at n8;cases n8⟩
 #af U (bu U ⟨_,aB.of (s12 _ _ GL)⟩ ?_)
 #dz (xs:=szs.map V.int) (λi σ H2=>∃(l:J) (as:O J) (o2:Option V),σ=[S (.ref sa),S (.ref l),o2]/\Own H H2 l as (bV (szs.take i))) ⟨_,_,af U O1⟩ (λi σ H2 y z=>?_) (λi x0 σ H2 hx z=>?_) (λσ H2 z=>?_)
 . @⟨l,as,o2,rfl,O8⟩:=z
   #aB.of (O8.s _ _ GL)
 . @⟨l,as,o2,rfl,O8⟩:=z
   @⟨s0,Ul,rfl⟩:=aX hx
   @⟨z0,z9⟩:=hsz s0 (ad4 Ul)
   !hi:i<szs~:=(aH Ul)
   !GJ:bV (szs.take (i+1))=(bV (szs.take i)).flatMap (ext s0.toNat):=by
     rw[aec,Ul]
     #nY _ _
   !aaV:(bV (szs.take i))~*s0.toNat<=900:=by
     !:=hg (i+1)
     rw[GJ,pK]at this
     #this
   !Jg:as~=(bV (szs.take i))~:=Paired.length O8.p
   #af U (bu U ⟨_,aB.of O8.e⟩ (λD hD=>?_))
   #aV (xs:=as.map V.ref) (λj H3=>∃bs,Own H2 H3 D bs (((bV (szs.take i)).take j).flatMap (ext s0.toNat))) ⟨[],ah hD _,hD,(λa ha=>nomatch ha),ae,.nil,List.nodup_nil,(λz=>nomatch z)⟩ (λj H3 y z=>?_) (λj x H3 hx z=>?_) (λH3 z=>?_)
   . @⟨bs,O3⟩:=z
     #aB.of (O3.s _ _ O8.e)
   . @⟨bs,O3⟩:=z
     @⟨a,ha,rfl⟩:=aX hx
     !Mo:j<as~:=(aH ha)
     !hjm:j<(as.map V.ref)~:=by rw[ad1];#Mo
     @⟨r,dO,vz⟩:=Paired.get O8.p ha
     !Ad:r~<=900:=by
       !:=ee _ _ (ad4 dO)
       rw[aea]at this
       lia
     #aS ?_
     #bQ (A:=λH4=>vG _ _ _ (cB _ D) _ H4 _) ?_
     #af U ⟨s0,U,by lia,by lia,?_⟩
     #d9 (lo:=0) (n:=s0.toNat) (λk H4=>∃bs,Own H2 H4 D bs (((bV (szs.take i)).take j).flatMap (ext s0.toNat)++(ext s0.toNat r).take k)) ⟨bs,by rw[afQ,aeK];#O3⟩ (λk H4 hk z=>?_) (λH4 z=>?_)
     . @⟨cs,O4⟩:=z
       !Dc:cs~=j*s0.toNat+k:=by
         !:=Paired.length O4.p
         rw[ad7,pK,aea,aea]at this
         unfold ext at this
         rw[ad1,aeJ]at this
         rw[this,af9 (by lia),af9 (by lia)]
       !S6:cs~<901:=by
         !h1:(j+1)*s0.toNat<=(bV (szs.take i))~*s0.toNat:=afZ _ (by lia)
         rw[afV]at h1
         lia
       #aS ?_
       #bQ (A:=λH5=>cB _ D _ H5 _) ?_
       #af U (bu U akz (λwl hwl=>?_))
       !t1:=ah hwl (.lst [.int (0+(k:Int))])
       !u1:(upd H4 wl (.lst [.int (0+(k:Int))])) wl=S (.lst [.int (0+(k:Int))]):=ae
       generalize upd H4 wl (.lst [.int (0+(k:Int))])=H5 at t1 u1 ⊢
       !Sy:H4 a=S (.lst (r.map V.int)):=O4.s _ _ vz
       #⟨a,wl,aJ U U ⟨t1 _ _ Sy,u1,small (by simp;lia),λnb lq=>?_⟩⟩
       !t2:=ah lq (.lst (r.map V.int++[.int (0+(k:Int))]))
       !u2:(upd H5 nb (.lst (r.map V.int++[.int (0+(k:Int))]))) nb=S (.lst ((r++[(k:Int)]).map V.int)):=by
         rw[ae,aeb,agL]
         rfl
       generalize upd H5 nb (.lst (r.map V.int++[.int (0+(k:Int))]))=H6 at t2 u2 ⊢
       !XO:=aa t1 t2
       #⟨_,XO _ _ O4.e,aD (by rw[ad1];lia),aF (Pv:=λk H4=>∃bs,Own H2 H4 D bs (((bV (szs.take i)).take j).flatMap (ext s0.toNat)++(ext s0.toNat r).take k)) (by repeat' constructor) hk ⟨cs++[nb],?_⟩⟩
       !O5:=O4.more (aq t1 lq) H6 XO u2
       rw[aeb]at O5
       !er:(ext s0.toNat r).take (k+1)=(ext s0.toNat r).take k++[r++[(k:Int)]]:=by
         rw[aec]
         congr 1
         unfold ext
         rw[aei,ae9 hk]
         rfl
       rw[er,← afN]
       #O5
     . @⟨cs,O4⟩:=z
       #aF (Pv:=λj H3=>∃bs,Own H2 H3 D bs (((bV (szs.take i)).take j).flatMap (ext s0.toNat))) (by repeat' constructor) hjm ⟨cs,?_⟩
       !e1:(ext s0.toNat r).take s0.toNat=ext s0.toNat r:=aeE (by unfold ext;rw[ad1,aeJ];#ad5 _)
       rw[e1]at O4
       rw[aec,dO,List.flatMap_append]
       change Own H2 H4 D cs (_++[r].flatMap (ext s0.toNat))
       rw[afM,ahp,aeK]
       #O4
   . @⟨bs,O3⟩:=z
     rw[ad1,Jg,aed,← GJ]at O3
     #⟨D,bs,af U (O3.from O8.s)⟩
 . @⟨l,as,o2,rfl,O8⟩:=z
   rw[ad1,aed]at O8
   #af U (q l as H2 O8)
def E.iq (f:Str->Str):E->E
 | .num n=>.num n|.box t x=>.box t (f x)|.yes=>.yes|.nt a=>.nt (a.iq f)|.two k a b=>.two k (a.iq f) (b.iq f)
def Nd.as (f:Str->Str)(g:Int->Int):Nd->Nd
 | .put x s n=>.put (f x) (s.iq f) (g n)|.say s n=>.say (s.iq f) (g n)|.test c n o=>.test (c.iq f) (g n) (g o)|.fin=>.fin
def bS (H:Hp)(c:J)(dom:O Str)(f:Str->Str):Prop:=∃kvs,H c=S (.dK kvs)/\∀x∈dom,aY kvs (.inr x)=S (.str (f x))
def bS.same {H H':Hp}{c:J}{dom:O Str}{f:Str->Str}(h:bS H c dom f)(s:ak H H'):bS H' c dom f:=by@⟨kvs,e,v⟩:=h;#⟨kvs,s _ _ e,v⟩
def bS.get {H:Hp}{c:J}{dom:O Str}{f:Str->Str}(h:bS H c dom f){x:Str}(hx:x∈dom):dv H c (.str x) (S (.str (f x))):=by
 @⟨kvs,e,v⟩:=h
 !g:=dv.k (k:=.inr x) e
 rw[v x hx]at g
 #g
inductive Pt where
 | plain (v:V)|tree (e:E)
def Pt.isAt (H:Hp):V->Pt->Prop
 | v,.plain u=>v=u/\((∃s,u=.str s)\/∃i,u=.int i)
 | v,.tree e=>dP H v e
def Pt.pQ (g:E->E)(H:Hp):V->Pt->Prop
 | v,.plain u=>v=u
 | v,.tree e=>dP H v (g e)
theorem Pt.pQ.keep {g:E->E}{H H':Hp}(k:TK H H'):∀{pt:Pt} {v:V},Pt.pQ g H v pt->Pt.pQ g H' v pt
 | .plain _,_,h=>h
 | .tree _,_,h=>dP.keep k h
def Pt.MG (P:Str->Str->Prop)(n:Nat):Pt->Prop
 | .plain _=>True
 | .tree e=>e.okIn P/\e.dep<n
structure Mp (g:E->E):Prop where
 num:∀m,g (.num m)=.num m
 yes:g .yes=.yes
 nt:∀a,g (.nt a)=.nt (g a)
 two:∀k a b,g (.two k a b)=.two k (g a) (g b)
def AZ {H:Hp}{v:V}{e:E}{P:Str->Str->Prop}{n:Nat}{g:E->E}(mp:Mp g)(ev:dP H v e)(ok:e.okIn P)(hd:e.dep<n+1):(∃t x,e=.box t x/\P t x)\/∃(p:J) (xs:O V) (pts:O Pt) (s0:Str),v=.ref p/\H p=S (.tup xs)/\Paired (Pt.isAt H) xs pts/\hW xs 0=S (.str s0)/\(s0≠"box"/\s0≠"mine"/\s0≠"yours")/\(∀pt∈pts,pt.MG P n)/\xs~<=4 /\
   ∀(p':J) (ys:O V) (H':Hp),H' p'=S (.tup ys)->Paired (Pt.pQ g H') ys pts->dP H' (.ref p') (g e):=by
 !one:∀{a:Pt},a.MG P n->∀pt∈[a],pt.MG P n:=λh pt hp=>by rw[cR hp];#h
 !more:∀{a:Pt} {l:O Pt},a.MG P n->(∀pt∈l,pt.MG P n)->∀pt∈a::l,pt.MG P n:=λh k pt hp=>(cZ hp).elim (λz=>z▸h) (k pt)
 cases e with
 | num m=>
   @⟨p,rfl,hp⟩:=ev
   #.inr ⟨p,_,[.plain (.str "number"),.plain (.int m)],"number",U,hp,.cons ⟨U,.inl ⟨_,U⟩⟩ (.cons ⟨U,.inr ⟨_,U⟩⟩ .nil),U,by left,more trivial (one trivial),by change 2<=4;decide,λp' ys H' r6 po=>?_⟩
   rw[mp.num]
   cases po with
   | cons h1 po=>cases po with
     | cons h2 po=>cases po;cases h1;cases h2;#⟨p',rfl,r6⟩
 | box t x=>#.inl ⟨t,x,rfl,ok⟩
 | yes=>
   @⟨p,rfl,hp⟩:=ev
   #.inr ⟨p,_,[.plain (.str "yes")],"yes",U,hp,.cons ⟨U,.inl ⟨_,U⟩⟩ .nil,U,by left,one trivial,by change 1<=4;decide,λp' ys H' r6 po=>?_⟩
   rw[mp.yes]
   cases po with
   | cons h1 po=>cases po;cases h1;#⟨p',rfl,r6⟩
 | nt a=>
   @⟨x,⟨p,rfl,hp⟩,ax⟩:=ev
   !qQ:a.dep+1<n+1:=hd
   #.inr ⟨p,_,[.plain (.str "not"),.tree a],"not",U,hp,.cons ⟨U,.inl ⟨_,U⟩⟩ (.cons ax .nil),U,by left,more trivial (one ⟨ok,by lia⟩),by change 2<=4;decide,λp' ys H' r6 po=>?_⟩
   rw[mp.nt]
   cases po with
   | cons h1 po=>cases po with
     | cons h2 po=>cases po;cases h1;#⟨_,⟨p',rfl,r6⟩,h2⟩
 | two k a b=>
   @⟨x,y,⟨p,rfl,hp⟩,ax,ay⟩:=ev
   !qQ:max a.dep b.dep+1<n+1:=hd
   #.inr ⟨p,_,[.plain (.str k.str),.tree a,.tree b],k.str,U,hp,.cons ⟨U,.inl ⟨_,U⟩⟩ (.cons ax (.cons ay .nil)),U,by cases k<;>decide,more trivial (more ⟨ok.1,by lia⟩ (one ⟨ok.2,by lia⟩)),by change 3<=4;decide,λp' ys H' r6 po=>?_⟩
   rw[mp.two]
   cases po with
   | cons h1 po=>cases po with
     | cons h2 po=>cases po with
       | cons h3 po=>cases po;cases h1;#⟨_,_,⟨p',rfl,r6⟩,h2,h3⟩
abbrev FU:Stmt:=top 59
def kF (n:Nat):Sp:=λvs H Q z=>∃(v:V) (c:J) (e:E) (dom:O Str) (f:Str->Str),vs=[v,.ref c]/\dP H v e/\e.okIn (OC dom)/\bS H c dom f/\e.dep<n/\∀(v':V) (H':Hp),ak H H'->dP H' v' (e.iq f)->Q v' H'
def PY:aA ["thing","called"] ["thing","called"] (ao FU):=dX
def Kd {n:Nat}{f:J}{fd:aef}(F:cF K "_law_renamed" "_law_renamed" FU f fd)(m_tuple:mg "tuple"=Z)(m_isinstance:mg "isinstance"=Z)(G:bI P w K mg base "_law_renamed" ["thing","called"] (n+1) (kF n)):aL P w K mg base cm (n+2) f fd ["thing","called"] (kF (n+1)):=by
 #F.eO PY λcdv A outer s H vs Q E hr h=>?_
 @⟨v,c,e,dom,g,rfl,ev,ok,ca,hd,q⟩:=h
 #f7 ⟨_,(aiz (aiM (aiK aiR (aiy aiE (Y 0) aix) aiD) (aiA (aiF (aiG (L aiD (L (ajc (bj hr _ (by left)) (Y 1) (aiy aiE (Y 0) aix)) M))))) aiN)
   (aiA (aiF (ai2 L3.oT U m_tuple (by right) (L (aiY [Z,S 1] ["part","called"] (ij FU) U (L3.iT (Y 0)) (λr r r r r=>⟨(aiC 0 (dW ["part","called"])),aiV,(L3.Q5 (ajh (aiS L3.Gu U m_isinstance (by right) (L (Y 0) (L (L3.IW (w:=.ty "tuple") U m_tuple (by right) rfl) M)))) (aiJ G hr U (L (Y 0) (L (Y 1) M))) (Y 0))⟩)) M))))),?_⟩
 !mp:Mp (TW.E.iq g):=⟨λr=>rfl,rfl,λr=>rfl,λr r r=>rfl⟩
 rcases AZ mp ev ok hd with⟨_,x,rfl,rfl,hx⟩|⟨p,xs,pts,s0,rfl,hp,pp,h0,Ea,okp,D2,fin⟩
 . @⟨p,rfl,hp⟩:=ev
   #af U ?_
   #aW hp U ?_
   #bB U U ?_
   #aC (λr=>?_) (λc=>aw (ed rfl) c)
   #af U (af U ?_)
   #aW hp U ?_
   #⟨c,af U ⟨ca.get hx,akA,λp2 cy=>?_⟩⟩
   #q _ _ (ah cy _) ⟨p2,U,ae⟩
 . #af U ?_
   #aW hp h0 ?_
   #bB U U ?_
   #aC (λc=>aw (cU c) (λz=>Ea.1 (by injection z))) (λr=>?_)
   #af U ⟨p,U,⟨_,dY.of hp⟩,λnb lq=>?_⟩
   #zi (xs:=xs) (λi H2=>∃ys:O V,ak H H2/\H2 nb=S (.lst ys)/\ys~=i/\Paired (Pt.pQ (TW.E.iq g) H2) ys (pts.take i)) ⟨[],ah lq _,ae,U,.nil⟩ (λi H2 r z=>dY.of (z.choose_spec.1 _ _ hp)) (λi x H2 hx z=>?_) (λH2 z=>?_)
   . @⟨ys,s2,xu,WX,py⟩:=z
     @⟨pt,WK,jV⟩:=Paired.get pp hx
     !du:i<xs~:=(aH hx)
     !Xi:=okp pt (ad4 WK)
     #aS ?_
     #bQ (A:=λH3=>cB _ nb _ H3 _) ?_
     !Nb:∀(v:V) (H3:Hp),ak H2 H3->Pt.pQ (TW.E.iq g) H3 v pt->∃ys,H3 nb=S (.lst ys)/\ys~<sizeLine/\∃Qr,ak H (upd H3 nb (.lst (ys++[v])))/\(upd H3 nb (.lst (ys++[v]))) nb=S (.lst Qr)/\Qr.length=i+1/\Paired (Pt.pQ (TW.E.iq g) (upd H3 nb (.lst (ys++[v])))) Qr (pts.take (i+1)):=λv H3 s3 ho=>by
       !zO:=s3 _ _ xu
       #⟨ys,zO,aD (by lia),ys++[v],aE (aa s2 s3) lq,ae,by rw[ad7,WX];rfl,?_⟩
       rw[aec,WK]
       #Paired.snoc (Paired.aP py λa b h=>h.keep ((ak.tk s3).trans (TK.lst zO))) (ho.keep (TK.lst zO))
     cases pt with
     | plain u=>
       @⟨rfl,hu⟩:=jV
       !hty:∃T:String,jc K H2 x (.type T)/\aey K (.type T) (.type "tuple")=S false:=by
         rcases hu with⟨s,rfl⟩|⟨i,rfl⟩
         . #⟨"str",.str s,U⟩
         . #⟨"int",.int i,U⟩
       @⟨T,ty,kit⟩:=hty
       @⟨VS,g1,g2,g3⟩:=Nb x H2 (same_refl _) rfl
       #af U ⟨x,"tuple",_,false,U,ty,kit,af U ?_⟩
       #mn (af U ⟨VS,g1,g2,aF (Pv:=λi H2=>∃ys:O V,ak H H2/\H2 nb=S (.lst ys)/\ys~=i/\Paired (Pt.pQ (TW.E.iq g) H2) ys (pts.take i)) (by repeat' constructor) du g3⟩)
     | tree e1=>
       obtain⟨px,ex,hpx⟩ : ∃px,x=.ref px/\∃us,H px=S (.tup us):=by
         !zN:dP H x e1:=jV
         cases e1 with
         | num m=>@⟨p,e,h⟩:=zN;#⟨p,e,_,h⟩
         | box t y=>@⟨p,e,h⟩:=zN;#⟨p,e,_,h⟩
         | yes=>@⟨p,e,h⟩:=zN;#⟨p,e,_,h⟩
         | nt a=>@⟨_,⟨p,e,h⟩,_⟩:=zN;#⟨p,e,_,h⟩
         | two k a b=>@⟨_,_,⟨p,e,h⟩,_,_⟩:=zN;#⟨p,e,_,h⟩
       @⟨us,Q4⟩:=hpx
       subst ex
       #af U ⟨.ref px,"tuple",_,true,U,.tup (s2 _ _ Q4),bB U U ?_⟩
       #nC (af U (af U ⟨.ref px,c,e1,dom,g,U,dP.keep (ak.tk s2) jV,Xi.1,ca.same s2,Xi.2,λv' H3 s3 Y0=>?_⟩))
       @⟨VS,g1,g2,g3⟩:=Nb v' H3 s3 Y0
       #⟨VS,g1,g2,aF (Pv:=λi H2=>∃ys:O V,ak H H2/\H2 nb=S (.lst ys)/\ys~=i/\Paired (Pt.pQ (TW.E.iq g) H2) ys (pts.take i)) (by repeat' constructor) du g3⟩
   . @⟨ys,s2,xu,WX,py⟩:=z
     rw[Paired.length pp,aed]at py
     #aJ U (aB.of xu) (λp' r6=>?_)
     #q _ _ (az s2 r6) (fin p' ys _ ae (Paired.aP py λa b h=>h.keep (aG r6 _)))
def Ax {f:J}{fd:aef}:aL P w K mg base cm 1 f fd ["thing","called"] (kF 0):=by
 !no:∀vs H Q E,¬ kF 0 vs H Q E:=λvs H Q E h=>by
   @⟨_,_,_,_,_,_,_,_,_,h1,_⟩:=h
   lia
 #⟨λvs H Q E h=>aw h (no vs H Q E),λA outer s H args us vs Q E z z z z h=>aw h (no vs H Q E)⟩
def DT (s:Src K mg "_law_renamed" FU)(m_tuple:mg "tuple"=Z)(m_isinstance:mg "isinstance"=Z):∀n:Nat,bI P w K mg base "_law_renamed" ["thing","called"] (n+1) (kF n):=by
 @⟨f,fd,F,m⟩:=s
 !b:Binds K fd ["thing","called"] []:=iV F λz z z z z z z z=>rfl
 intro n
 !all:aL P w K mg base cm (n+1) f fd ["thing","called"] (kF n):=by
   induction n with
   | zero=>#Ax
   | succ n ih=>#Kd F m_tuple m_isinstance ⟨f,fd,ih,F.kp,b,m⟩
 #⟨f,fd,all,F.kp,b,m⟩
abbrev vU:Stmt:=top 60
abbrev HR:Stmt:=top 62
def jL (ps:O Int)(n:Int):Int:=ps.getD n.toNat 0
def mC {ps:O Int}{n:Int}(h0:0<=n)(h1:n<(ps~:Int)):hW (ps.map V.int) n=S (.int (jL ps n)):=by
 @⟨x,g,_,e⟩:=dS V.int ps h0 h1
 rw[e]
 unfold jL
 rw[ad9,g]
 rfl
def rP:Sp:=λvs H Q z=>∃(v:V) (c pl:J) (e:Nd) (dom:O Str) (f:Str->Str) (ps:O Int),vs=[v,.ref c,.ref pl]/\bZ H v e/\e.good (·∈dom) ps~ 5/\bS H c dom f/\H pl=S (.lst (ps.map V.int))/\∀(v':V) (H':Hp),ak H H'->bZ H' v' (e.as f (jL ps))->Q v' H'
def BD:aA ["node","called","places"] ["node","called","places"] (ao vU):=dX
def xV {f:J}{fd:aef}(F:cF K "_law_node_as" "_law_node_as" vU f fd)(R:bI P w K mg base "_law_renamed" ["thing","called"] 7 (kF 6)):aL P w K mg base cm 8 f fd ["node","called","places"] rP:=by
 #F.eO BD λcdv A outer s H vs Q E hr h=>?_
 @⟨v,c,pl,e,dom,g,ps,rfl,ev,gd,ca,hpl,q⟩:=h
 #f7 ⟨_,(aiz (aiM (aiK aiR (aiy aiE (Y 0) aix) aiD) (aiA (aiF (aiG (L aiD (L (ajc (bj hr _ (by left)) (Y 1) (aiy aiE (Y 0) aix)) (L (aiJ R hr U (L (aiy aiE (Y 0) aix) (L (Y 1) M))) (L (aiy aiH (Y 2) (aiy aiE (Y 0) aix)) M))))))) aiN)
   (aiz (aiM (aiK aiR (aiy aiE (Y 0) aix) aiD) (aiA (aiF (aiG (L aiD (L (aiJ R hr U (L (aiy aiE (Y 0) aix) (L (Y 1) M))) (L (aiy aiH (Y 2) (aiy aiE (Y 0) aix)) M)))))) aiN)
   (aiz (aiM (aiK aiR (aiy aiE (Y 0) aix) aiD) (aiA (aiF (aiG (L aiD (L (aiJ R hr U (L (aiy aiE (Y 0) aix) (L (Y 1) M))) (L (aiy aiH (Y 2) (aiy aiE (Y 0) aix)) (L (aiy aiH (Y 2) (aiy aiE (Y 0) aix)) M))))))) aiN)
   (aiA (aiF (Y 0)))))),?_⟩
 cases e with
 | put x s1 n1=>
   @⟨u,⟨p,rfl,hp⟩,au⟩:=ev
   @⟨hx,kW,i7,yJ,n0,nl⟩:=gd
   #af U ?_
   #aW hp U ?_
   #bB U U ?_
   #aC (λz=>?_) (λc=>aw (ed rfl) c)
   #af U (af U ?_)
   #aW hp U ?_
   #⟨c,af U ⟨ca.get hx,?_⟩⟩
   #af U ?_
   #aW hp U ?_
   #af U ⟨u,c,s1,dom,g,U,au,i7,ca,by lia,λv' H2 s2 a2=>?_⟩
   #af U (af U ?_)
   #aW (s2 _ _ hp) U ?_
   #bY (s2 _ _ hpl) (mC n0 nl) ?_
   #⟨akC,λp2 cy=>?_⟩
   #q _ _ (az s2 cy) ⟨v',⟨p2,U,ae⟩,a2.keep (aG cy _)⟩
 | say s1 n1=>
   @⟨u,⟨p,rfl,hp⟩,au⟩:=ev
   @⟨kW,i7,yJ,n0,nl⟩:=gd
   #af U ?_
   #aW hp U ?_
   #bB U U ?_
   #aC (λc=>aw (cU c) (by left)) (λz=>?_)
   #af U ?_
   #aW hp U ?_
   #bB U U ?_
   #aC (λz=>?_) (λc=>aw (ed rfl) c)
   #af U ?_
   #aW hp U ?_
   #af U ⟨u,c,s1,dom,g,U,au,i7,ca,by lia,λv' H2 s2 a2=>?_⟩
   #af U (af U ?_)
   #aW (s2 _ _ hp) U ?_
   #bY (s2 _ _ hpl) (mC n0 nl) ?_
   #⟨akB,λp2 cy=>?_⟩
   #q _ _ (az s2 cy) ⟨v',⟨p2,U,ae⟩,a2.keep (aG cy _)⟩
 | test s1 n1 n2=>
   @⟨u,⟨p,rfl,hp⟩,au⟩:=ev
   @⟨kW,i7,yJ,n0,nl,m0,ml⟩:=gd
   #af U ?_
   #aW hp U ?_
   #bB U U ?_
   #aC (λc=>aw (cU c) (by left)) (λz=>?_)
   #af U ?_
   #aW hp U ?_
   #bB U U ?_
   #aC (λc=>aw (cU c) (by left)) (λz=>?_)
   #af U ?_
   #aW hp U ?_
   #bB U U ?_
   #aC (λz=>?_) (λc=>aw (ed rfl) c)
   #af U ?_
   #aW hp U ?_
   #af U ⟨u,c,s1,dom,g,U,au,i7,ca,by lia,λv' H2 s2 a2=>?_⟩
   #af U (af U ?_)
   #aW (s2 _ _ hp) U ?_
   #bY (s2 _ _ hpl) (mC n0 nl) ?_
   #af U (af U ?_)
   #aW (s2 _ _ hp) U ?_
   #bY (s2 _ _ hpl) (mC m0 ml) ?_
   #⟨akC,λp2 cy=>?_⟩
   #q _ _ (az s2 cy) ⟨v',⟨p2,U,ae⟩,a2.keep (aG cy _)⟩
 | fin=>
   @⟨p,rfl,hp⟩:=ev
   #af U ?_
   #aW hp U ?_
   #bB U U ?_
   #aC (λc=>aw (cU c) (by left)) (λz=>?_)
   #af U ?_
   #aW hp U ?_
   #bB U U ?_
   #aC (λc=>aw (cU c) (by left)) (λz=>?_)
   #af U ?_
   #aW hp U ?_
   #bB U U ?_
   #aC (λc=>aw (cU c) (by left)) (λz=>?_)
   #af U (q _ _ (same_refl _) ⟨p,U,hp⟩)
def jY (bs:ag)(f:Str->Str)(after:Int)(e:Nd):Prop:=(∃o,0<=o/\o<=after/\e=.test .yes after o)\/∃x∈bs.map (·.1),e=.put (f x) (.box "box" (f x)) after
def uP:Sp:=λvs H Q z=>∃(B c:J) (vb:O V) (bs:ag) (f:Str->Str) (n after:Int),vs=[.ref B,.ref c,.int n,.int after]/\H B=S (.lst vb)/\Paired (cE H) vb bs/\bS H c (bs.map (·.1)) f/\0<=n/\0<=after/\∀(v':V) (H':Hp) (e:Nd),ak H H'->bZ H' v' e->jY bs f after e->Q v' H'
def BF:aA ["boxes","called","number","after","name"] ["boxes","called","number","after"] (ao HR):=dX
def EU {f:J}{fd:aef}(F:cF K "_law_skip" "_law_skip" HR f fd)(m_len:mg "len"=Z):aL P w K mg base cm 1 f fd ["boxes","called","number","after"] uP:=by
 #F.eO BF λcdv A outer s H vs Q E hr h=>?_
 @⟨B,c,vb,bs,g,n,after,rfl,hB,pb,ca,hn0,Mf,q⟩:=h
 #f7 ⟨_,(aiz (aiM (aje (ajb (aiK (L3.rj (m:=0) (bj hr _ (by left))) (Y 0) (aiO M)) (ajk (aiK aiR (aiB aiQ (Y 2) aix) aix)))) (aiA (aiF (aiG (L aiD (L (aiG (L aiD M)) (L (Y 3) (L (aiB aiQ (aiB aja (Y 2) aix) (aiB aiZ (Y 3) aix)) M))))))) aiN)
   (aiz (aiL 4 BF.nd (ajc (bj hr _ (by left)) (Y 1) (aiy aiE (aiy aiH (Y 0) (aiB aiQ (aiB aja (Y 2) aix) (aiS aiX U m_len aeo (L (Y 0) M)))) aix)))
   (aiA (aiF (aiG (L aiD (L (Y 4) (L (aiG (L aiD (L (Y 4) M))) (L (Y 3) M))))))))),?_⟩
 !d2:(2:Int)<2^1000:=by right
 !pD:vb~=bs~:=Paired.length pb
 #bu U aky (λlz GI=>?_)
 @⟨H1,s1,hz,zz⟩:=aK GI (.lst [])
 rw[zz];clear zz
 !qO:=s1 _ _ hB
 #⟨_,RB.nil (aB.of qO) (aB.of hz),af U ?_⟩
 #aC (λc1=>?_) (λc1=>?_)
 . #nC ?_
   #⟨akz,λp1 nZ=>(af U (af U (aJ U U ⟨⟨(by change(0:Int)<2;decide),d2⟩,af U (aJ U U (dB U U (by change(0:Int)<after+1;lia) ⟨akC,λp2 cy=>?_⟩))⟩)))⟩
   !k1:dP (upd H1 p1 (.tup [.str "yes"])) (.ref p1) .yes:=⟨p1,rfl,ae⟩
   #q _ _ (.test .yes after (n/2%(after+1))) (az (az s1 nZ) cy) ⟨.ref p1,⟨p2,U,ae⟩,k1.keep (aG cy _)⟩ (.inl ⟨_,aeD _ (by lia),by !:=aeu (n/2) (show 0<after+1 by lia);lia,U⟩)
 #af U (dB U U (by change(0:Int)<2;decide) (bB U U ?_))
 #aC (λc2=>?_) (λc2=>?_)
 . #⟨akz,λp1 nZ=>(af U (af U (aJ U U ⟨⟨(by change(0:Int)<2;decide),d2⟩,af U (aJ U U (dB U U (by change(0:Int)<after+1;lia) ⟨akC,λp2 cy=>?_⟩))⟩)))⟩
   !k1:dP (upd H1 p1 (.tup [.str "yes"])) (.ref p1) .yes:=⟨p1,rfl,ae⟩
   #q _ _ (.test .yes after (n/2%(after+1))) (az (az s1 nZ) cy) ⟨.ref p1,⟨p2,U,ae⟩,k1.keep (aG cy _)⟩ (.inl ⟨_,aeD _ (by lia),by !:=aeu (n/2) (show 0<after+1 by lia);lia,U⟩)
 !mj:(0:Int)<(vb~:Int):=by
   cases vb with
   | nil=>#aw rfl c1
   | cons x r=>simp only[aet];lia
 @⟨x,gx,jV⟩:=va (xs:=vb) (r:=n/2%(vb~:Int)) (aeD _ (by lia)) (aeu _ mj)
 @⟨b,gb,p,rfl,hp⟩:=Paired.get pb gx
 !hx:b.1∈bs.map (·.1):=dD ⟨b,ad4 gb,rfl⟩
 #af U (af U (af U (aJ U U ⟨⟨(by change(0:Int)<2;decide),d2⟩,af U (aJ U (.inl (aB.of qO)) (aJ U U ⟨mj,?_⟩))⟩)))
 #bY qO jV ?_
 #aW (s1 _ _ hp) U ?_
 #⟨c,af U ⟨(ca.same s1).get hx,?_⟩⟩
 #af U (bu U akA (λp1 nZ=>(bu U akC (λp2 cy=>?_))))
 !k1:dP (upd H1 p1 (.tup [.str "box",.str (g b.1)])) (.ref p1) (.box "box" (g b.1)):=⟨p1,rfl,ae⟩
 #q _ _ (.put (g b.1) (.box "box" (g b.1)) after) (az (az s1 nZ) cy) ⟨.ref p1,⟨p2,U,ae⟩,k1.keep (aG cy _)⟩ (.inr ⟨b.1,hx,U⟩)
abbrev rK:Stmt:=top 61
theorem qY (x:Str):∀(ins:O Str),qX (.str x) (ins.map V.str)=decide (x∈ins)
 | []=>rfl
 | y::r=>by
   change(jU (.str y) (.str x) || qX (.str x) (r.map V.str))=_
   rw[qY x r]
   change((y==x) || decide (x∈r))=_
   by_cases h:y=x
   . subst h
     simp
   . !h1:(y==x)=false:=beq_eq_false_iff_ne.mpr h
     !h2:¬ x=y:=λz=>h z.symm
     rw[h1,ahc]
     by_cases h3:x∈r<;>simp[h2,h3]
def xi (ins:O Str):(ins.map V.str).all cM=true:=by
 rw[List.all_map]
 #List.all_eq_true.mpr λx z=>rfl
theorem jy {α:Type}[DecidableEq α]{y:α}:∀{xs:O α},y∈xs->∃j:Nat,xs[j]?=S y/\∀m,m<j->xs[m]?≠S y
 | x::r,h=>by
   by_cases e:x=y
   . #⟨0,by rw[e];rfl,λm hm=>aw hm (ae8 _)⟩
   . @⟨j,h1,h2⟩:=jy (xs:=r) ((cZ h).resolve_left λz=>e z.symm)
     #⟨j+1,by simpa using h1,λm hm=>?_⟩
     cases m with
     | zero=>intro z;simp at z;#e z
     | succ m=>simpa using h2 m (by lia)
theorem mw {α:Type}:∀{l:O α} {i:Nat} (h:i<l~) {x:α},x∈l->x=l[i]\/x∈l.eraseIdx i
 | a::r,0,_,x,hx=>by
   rcases cZ hx with z|z
   . #.inl z
   . #.inr (by rw[List.eraseIdx_cons_zero];#z)
 | a::r,i+1,h,x,hx=>by
   !h':i<r~:=by simpa using h
   rw[ahV]
   rcases cZ hx with z|z
   . #.inr (dA (.inl z))
   . rcases mw h' z with y|y
     . #.inl y
     . #.inr (dA (.inr y))
def de (ins:O Str)(c:Bool)(x:Str):Str:=if x∈ins then x else if c=true then x++"z" else x
structure fP (bs:ag)(ins:O Str)(c:Bool)(st:Int)(bs':ag):Prop where
 bx:bs'=aT st (bs.map λb=>(de ins c b.1,b.2))
 st:st=1\/st=-1
def ui {α β:Type}{R:α->β->Prop}{xs:O α}{ys:O β}(h:Paired R xs ys):Paired R xs.reverse ys.reverse:=by
 induction h with
 | nil=>#.nil
 | @cons a b as bs r t ih=>rw[afK,afK];#Paired.snoc ih r
def rm {β:Type}{R:V->β->Prop}{n:Int}{xs:O V}{ys:O β}(h:Paired R xs ys):Paired R (fB n xs) (aT n ys):=by
 unfold fB aT
 by_cases e:n=1
 . rw[aR e,aR e];#h
 . rw[aM e,aM e];#ui h
def BK {Pm:Hp->O Int->Prop}{G:Hp->Prop}{M8:Prop}(main:(∀H l,Pm H l->G H)->M8)(rest:∀H l,Pm H l->G H):M8:=main rest
def wF (ord ps:O Int):Prop:=∀(k:Nat) (x:Int),ps[k]?=S x->∃j:Nat,x=(j:Int)/\ord[j]?=S (k:Int)/\∀m,m<j->ord[m]?≠S (k:Int)
def yj {ord ps:O Int}{j:Nat}(h:wF ord ps)(hj:ord[j]?=S ((ps~:Nat):Int))(hn:∀m,m<j->ord[m]?≠S ((ps~:Nat):Int)):wF ord (ps++[(j:Int)]):=λk x hx=>by
 by_cases hk:k<ps~
 . rw[afh hk]at hx
   #h k x hx
 . !hl:=(aH hx)
   rw[ad7]at hl
   !e:k=ps~:=by simp at hl;lia
   subst e
   rw[agc (ad5 _),Nat.sub_self]at hx
   cases hx
   #⟨j,U,hj,hn⟩
def ou {ord ps:O Int}(h:wF ord ps)(h0:ord[0]?=S 0)(hl:0<ps~):ps[0]?=S 0:=by
 @⟨j,e,hj,hn⟩:=h 0 ps[0] (ad3 hl)
 !zU:j=0:=by
   by_cases z:j=0
   . #z
   . #aw h0 (hn 0 (by lia))
 rw[ad3 hl,e,zU]
 rfl
def uZ (ord:O Int)(many:Int)(ps bp:O Int)(sk:Nat):Prop:=∀(k:Nat) (x:Int),bp[k]?=S x->ps[k]?=S x\/(k=sk/\∃j:Nat,x=(j:Int)/\ord[j]?=S many)
def u5 (bs:ag)(f:Str->Str)(nds:O Nd)(ord ps bp:O Int)(sk:Int)(nds2:O Nd):Prop:=∀(j:Nat) (e':Nd),nds2[j]?=S e'->∃k:Int,ord[j]?=S k/\((∃e,0<=k/\nds[k.toNat]?=S e/\e'=e.as f (jL bp))\/(k=(nds~:Int)/\sk<(nds~:Int)/\jY bs f (jL ps sk) e'))
def mx {bs:ag}{f:Str->Str}{nds:O Nd}{ord ps bp:O Int}{sk:Int}{nds2:O Nd}{e:Nd}(h:u5 bs f nds ord ps bp sk nds2)(hn:∃k:Int,ord[nds2~]?=S k/\((∃e1,0<=k/\nds[k.toNat]?=S e1/\e=e1.as f (jL bp))\/(k=(nds~:Int)/\sk<(nds~:Int)/\jY bs f (jL ps sk) e))):u5 bs f nds ord ps bp sk (nds2++[e]):=λj e' hj=>by
 by_cases hk:j<nds2~
 . rw[afh hk]at hj
   #h j e' hj
 . !hl:=(aH hj)
   rw[ad7]at hl
   !e1:j=nds2~:=by simp at hl;lia
   subst e1
   rw[agc (ad5 _),Nat.sub_self]at hj
   cases hj
   #hn
structure ja (bs:ag)(f:Str->Str)(nds nds2:O Nd)(ps bp:O Int):Prop where
 pl:ps~=nds~
 bl:bp~=nds~
 all:∀(k:Nat) (e:Nd),nds[k]?=S e->∃p b:Nat,ps[k]?=S (p:Int)/\bp[k]?=S (b:Int)/\p<nds2~/\b<nds2~/\nds2[p]?=S (e.as f (jL bp))/\(b=p\/∃e',nds2[b]?=S e'/\jY bs f (p:Int) e')
 only:∀(j:Nat) (e':Nd),nds2[j]?=S e'->(∃e∈nds,e'=e.as f (jL bp))\/∃p:Nat,p<nds2~/\jY bs f (p:Int) e'
 zero:bp[0]?=S 0
def xP {bs:ag}{f:Str->Str}{nds nds2:O Nd}{ord ps bp:O Int}{sk:Int}(pl:ps~=nds~)(bl:bp~=nds~)(hp:wF ord ps)(hb:uZ ord (nds~:Int) ps bp sk.toNat)(hn:u5 bs f nds ord ps bp sk nds2)(hl:nds2~=ord~)(zero:bp[0]?=S 0):ja bs f nds nds2 ps bp:=by
 !pat:∀(k:Nat),k<nds~->∃p:Nat,ps[k]?=S (p:Int)/\ord[p]?=S (k:Int)/\p<nds2~:=λk hk=>by
   !DY:k<ps~:=by lia
   @⟨j,e,hj,_⟩:=hp k ps[k] (ad3 DY)
   !:=(aH hj)
   #⟨j,by rw[ad3 DY,e],hj,by lia⟩
 !psk:∀{k p:Nat},ps[k]?=S (p:Int)->jL ps (k:Int)=(p:Int):=λh=>by
   unfold jL
   rw[ad9,aes,h]
   rfl
 #⟨pl,bl,λk e he=>?_,λj e' hj=>?_,zero⟩
 . !hk:k<nds~:=(aH he)
   @⟨p,h1,h2,h3⟩:=pat k hk
   !Tg:k<bp~:=by lia
   !cy:nds2[p]?=S (e.as f (jL bp)):=by
     @⟨k',h4,h5⟩:=hn p nds2[p] (ad3 h3)
     rw[h2]at h4
     cases h4
     rcases h5 with⟨e1,_,h6,h7⟩|⟨h6,_⟩
     . rw[aes,he]at h6
       cases h6
       rw[ad3 h3,h7]
     . lia
   rcases hb k bp[k] (ad3 Tg)with h4|⟨h4,j,h5,h6⟩
   . !e1:bp[k]=(p:Int):=by
       rw[h1]at h4
       #(aej h4).symm
     #⟨p,p,h1,by rw[ad3 Tg,e1],h3,h3,cy,.inl rfl⟩
   . !Mo:=(aH h6)
     !Jk:j<nds2~:=by lia
     @⟨k',h7,h8⟩:=hn j nds2[j] (ad3 Jk)
     rw[h6]at h7
     cases h7
     #⟨p,j,h1,by rw[ad3 Tg,h5],h3,Jk,cy,.inr ⟨_,ad3 Jk,?_⟩⟩
     rcases h8 with⟨e1,_,h9,_⟩|⟨_,h9,DQ⟩
     . !:=(aH h9)
       lia
     . !xB:jL ps sk=(p:Int):=by
         !h11:jL ps sk=jL ps (k:Int):=by unfold jL;rw[h4,aes]
         rw[h11,psk h1]
       rw[← xB]
       #DQ
 . @⟨k',h4,h5⟩:=hn j e' hj
   rcases h5 with⟨e1,_,h6,h7⟩|⟨_,h6,h7⟩
   . #.inl ⟨e1,ad4 h6,h7⟩
   . !hk:sk.toNat<nds~:=by
       !:=ah1 (ad4 (show bp[0]?=S 0 from zero))
       lia
     @⟨p,h1,h2,h3⟩:=pat sk.toNat hk
     #.inr ⟨p,h3,?_⟩
     !e1:jL ps sk=(p:Int):=by
       unfold jL
       rw[ad9,h1]
       rfl
     rw[← e1]
     #h7
structure MW (bs:ag)(nds:O Nd):Prop where
 l2:bs~<=2
 sh:∀b∈bs,b.1~<=20
 one:1<=nds~
 fI:(nds~:Int)<=100
 good:∀e∈nds,e.good (·∈bs.map (·.1)) nds~ 5
def B6:Sp:=λvs H Q z=>∃(v:V) (r:J) (bs:ag) (ins:O Str) (nds:O Nd) (row:O Int) (n:Nat),vs=[v,.ref r]/\aN H v bs ins nds/\MW bs nds/\H r=S (.lst (row.map V.int))/\Row (2^30) row n/\6<=n /\
 ∀(p q T I2 N2 c pl bh:J) (H':Hp) (vt vn2:O V) (bs':ag) (nds2:O Nd) (cz:Bool) (st:Int),ak H H'->H' p=S (.tup [.ref q,.ref c,.ref pl,.ref bh])->H' q=S (.tup [.ref T,.ref I2,.ref N2])->H' T=S (.lst vt)->Paired (cE H') vt bs'->H' I2=S (.lst (ins.map V.str))->H' N2=S (.lst vn2)->Paired (bZ H') vn2 nds2->nds2~<=nds~+1 ->
   bS H' c (bs.map (·.1)) (de ins cz)->fP bs ins cz st bs'->∀(ps bp:O Int),H' pl=S (.lst (ps.map V.int))->H' bh=S (.lst (bp.map V.int))->ja bs (de ins cz) nds nds2 ps bp->Q (.ref p) H'
def bC {u1 u2:TS}{D:L2.Ends}{σ:L2.St}{H:Hp}(h:∀R:L2.St->Hp->Prop,(∀σ H,u2 D σ H->R σ H)->u1 {D with nx:=R} σ H):ki u1 u2 D σ H:=h _ λy y z=>z
def R4 {u1 u2 u3:TS}{D:L2.Ends}{σ:L2.St}{H:Hp}(h:∀R:L2.St->Hp->Prop,(∀σ H,u3 D σ H->R σ H)->ki u1 (ki u2 λy=>R) D σ H):ki u1 (ki u2 u3) D σ H:=h (u3 D) λy y z=>z
def I9 {u1 u2 u3 u4:TS}{D:L2.Ends}{σ:L2.St}{H:Hp}(h:∀R:L2.St->Hp->Prop,(∀σ H,u4 D σ H->R σ H)->ki u1 (ki u2 (ki u3 λy=>R)) D σ H):ki u1 (ki u2 (ki u3 u4)) D σ H:=h (u4 D) λy y z=>z
def cY:aA ["program","row","boxes","inputs","nodes","called","name","size","many","skipped","left","order","k","places","behind","found","turned"] ["program","row"] (ao rK):=dX
def EK {f:J}{fd:aef}(F:cF K "_law_made_over" "_law_made_over" rK f fd)(m_len:mg "len"=Z)(m_range:mg "range"=Z)(m_int:mg "int"=Z)(m_list:mg "list"=Z)(NA:bI P w K mg base "_law_node_as" ["node","called","places"] 8 rP)(SK:bI P w K mg base "_law_skip" ["boxes","called","number","after"] 1 uP):aL P w K mg base cm 9 f fd ["program","row"] B6:=by
 #F.eO cY λcdv A outer s H vs Q E hr h=>?_
 @⟨v,r,bs,ins,nds,row,n,rfl,⟨p,B,I,N,vb,vn,rfl,hp,hB,hI,hN,pb,pn⟩,Fx,n8,hR,hn6,q⟩:=h
 !Yo:=NA
 !Yu:=SK.mono (show 1<=8 by left)
 #f7 ⟨_,(aiz (ajg (Y 0) (aiT 3 (aiI (aiC 2 cY.nd) (aiI (aiC 3 cY.nd) (aiI (aiC 4 cY.nd) aiU)))))
   (aiz (aiL 5 cY.nd L3.zt)
   (aiz (ai0 (aiW (Y 2)) (aiT 2 (aiI (aiC 6 cY.nd) (aiI (aiC 7 cY.nd) aiU))) (aiz (aju (bj hr _ (by left)) (Y 5) (Y 6) (Y 6))
   (aiA (aiM (aje (L3.IT (aiK L3.pO (Y 6) (Y 3) U) (L3.IQ (aiK aiR (aiB aiQ (aiy aiH (Y 1) aix) aix) aix)))) (aiA (aju (bj hr _ (by left)) (Y 5) (Y 6) (aiB L3.JR (Y 6) aiD))) aiN))))
   (aiz (aiL 8 cY.nd (aiS aiX U m_len aeo (L (Y 4) M)))
   (aiz (aiL 9 cY.nd (aiB aiQ (aiy aiH (Y 1) aix) (aiB ai5 aix (Y 8))))
   (aiz (ajn (i:=10) [Z] ["k"] (ij rK) U (L3.iR2 U m_range (L aix (L (Y 8) M))) (λu u u u u=>⟨(aiC 0 (dW ["k"])),aiV,(Y 0)⟩) cY.nd)
   (aiz (aiL 11 cY.nd (aiO (L aix M)))
   (aiz (ai0 (ajj U m_range (L (aiB ajm (Y 8) aix) M)) (aiC 12 cY.nd) (aiA (ai3 (ajf (Y 11) (L (L3.O6 (Y 10) (L (aiB aiQ (aiB aja (aiy aiH (Y 1) aix) (aiB aiZ (Y 12) aix)) (aiS aiX U m_len aeo (L (Y 10) M))) M)) M)))))
   (aiz (aiM (aiK ai9 (Y 9) (Y 8)) (aiA (ai3 (L3.insert (Y 11) (L (aiB aiZ (L3.tV (Y 11) (L (Y 9) M)) (aiB ai5 (aiB aiQ (aiy aiH (Y 1) aix) aix) (ai2 ajs U m_int (by right) (L (ai4 L3.Ew (Y 9) aix) M)))) (L (Y 8) M))))) aiN)
   (aiz (ajn (i:=13) [Z,S 11] ["k","order"] (ij rK) U (ajj U m_range (L (Y 8) M)) (λu u u u u=>⟨(aiC 0 (dW ["k","order"])),aiV,(L3.tV (Y 1) (L (Y 0) M))⟩) cY.nd)
   (aiz (aiL 14 cY.nd (ai2 ajq U m_list (by right) (L (Y 13) M)))
   (aiz (aiM (aiK ai9 (Y 9) (Y 8)) (aiA (ajg (L3.tV (Y 11) (L (Y 8) M)) (L3.GB (Y 14) (Y 9)))) aiN)
   (aiz (aiL 15 cY.nd (aiO M))
   (aiz (ai0 (aiW (Y 11)) (aiC 12 cY.nd) (aiA (aiM (aiK ai9 (Y 12) (Y 8)) (aiA (ai3 (ajf (Y 15) (L (aiJ Yo hr U (L (aiy aiH (Y 4) (Y 12)) (L (Y 5) (L (Y 14) M)))) M)))) (aiA (ai3 (ajf (Y 15) (L (aiJ Yu hr U (L (Y 2) (L (Y 5) (L (aiy aiH (Y 1) aix) (L (aiy aiH (Y 13) (Y 9)) M))))) M)))))))
   (aiz (aiL 16 cY.nd (L3.BL (aiY [Z,Z,S 5] ["name","size","called"] (ij rK) U (aiW (Y 2)) (λu u u u u=>⟨(aiT 2 (aiI (aiC 0 (dW ["name","size","called"])) (aiI (aiC 1 (dW ["name","size","called"])) aiU))),aiV,(aiG (L (ajc (bj hr _ (by left)) (Y 2) (Y 0)) (L (Y 1) M)))⟩)) (aiB ajm aix (aiB ai5 aix (aiB aiQ (aiy aiH (Y 1) aix) aix)))))
   (aiA (aiF (aiG (L (aiG (L (Y 16) (L (ai2 ajq U m_list (by right) (L (Y 3) M)) (L (Y 15) M)))) (L (Y 5) (L (Y 13) (L (Y 14) M)))))))))))))))))))))),?_⟩
 #I9 λRk kR=>?_
 @⟨x0,a0,RA,VJ⟩:=hR.at (i:=0) (by left) (by lia)
 @⟨x1,a1,VL,VM⟩:=hR.at (i:=1) (by left) (by lia)
 @⟨x2,a2,X4,X5⟩:=hR.at (i:=2) (by left) (by lia)
 @⟨x3,a3,x30,x31⟩:=hR.at (i:=3) (by left) (by lia)
 @⟨x4,a4,Qp,x41⟩:=hR.at (i:=4) (by left) (by lia)
 @⟨x5,a5,x50,x51⟩:=hR.at (i:=5) (by left) (by lia)
 !pD:vb~=bs~:=Paired.length pb
 !xu:=Fx.l2
 !j6:vn~=nds~:=Paired.length pn
 !one:=Fx.one
 !fI:=Fx.fI
 #af U ?_
 #LS hp ?_
 #λc hc=>?_
 #af U (bu U ⟨_,aB.of (ah hc _ _ _ hB)⟩ ?_)
 !hI1:=λkvs=>ah hc (.dK kvs) _ _ hI
 !hr1:=λkvs=>ah hc (.dK kvs) _ _ n8
 #dz (xs:=vb) (λi σ H2=>(∃nv sv,σ=[S (.ref p),S (.ref r),S (.ref B),S (.ref I),S (.ref N),S (.ref c),nv,sv,Z,Z,Z,Z,Z,Z,Z,Z,Z])/\∃kvs:O (Key×V),H2=upd H c (.dK kvs)/\kvs~<=2*i/\∀x∈(bs.take i).map (·.1),aY kvs (.inr x)=S (.str (de ins (decide (x0%2=1)) x))) ⟨⟨_,_,U⟩,[],U,ad5 _,λx hx=>nomatch hx⟩ (λi σ H2 u z=>?_) (λi x σ H2 hx z=>?_) (λσ H2 z=>?_)
 . @⟨_,kvs,rfl,_⟩:=z
   #aB.of (ah hc _ _ _ hB)
 . @⟨⟨nv,sv,rfl⟩,kvs,rfl,Jl,Mt⟩:=z
   @⟨b,ik,uk,rfl,pC⟩:=Paired.get pb hx
   !du:i<vb~:=(aH hx)
   !S0:b∈bs:=ad4 ik
   !WQ:=Fx.sh b S0
   !hl1:=cj kvs (.inr b.1) (V.str b.1)
   #nJ (ah hc _ _ _ pC) ?_
   #af U (af U (af U ⟨c,af U ⟨ir.k (k:=.inr b.1) ae (aD (by lia)),?_⟩⟩))
   rw[da]
   !keep:∀(w:Str) (kvs':O (Key×V)),(∀j:Key,aY kvs' j=if j=.inr b.1 then S (.str w)else aY kvs j)->w=de ins (decide (x0%2=1)) b.1->∀x∈(bs.take (i+1)).map (·.1),aY kvs' (.inr x)=S (.str (de ins (decide (x0%2=1)) x)):=λw kvs' hv hw x hx=>by
     rw[hv]
     by_cases e:(Sum.inr x:Key)=.inr b.1
     . rw[aR e,hw]
       injection e with e
       rw[e]
     . rw[aM e]
       #Mt x ?_
       rw[aec,ik,aeb]at hx
       rcases eI hx with z|z
       . #z
       . #aw (by rw[cR z]) e
   #af U (af U (aJ U (.inl (aB.of (hI1 _))) ⟨U,xi ins,af U ?_⟩))
   rw[aR rfl,qY]
   #aC (λc1=>?_) (λc1=>?_)
   . !yL:b.1∉ins:=λz=>by rw[ed z]at c1;#aw c1 (by left)
     #af U ?_
     #bY (hr1 _) a0 ?_
     #dB U U (by change(0:Int)<2;decide) (bB U U ?_)
     #aC (λc2=>?_) (λc2=>?_)
     . !e2:x0%2=1:=by !:=cU c2;injection this
       !hl2:=cj (putK kvs (.inr b.1) (V.str b.1)) (.inr b.1) (V.str (b.1++"z"))
       #af U (aJ U U ⟨small (show _<=1000 by !:Str.length ("z":Str)=1:=(by right);lia),af U (af U ⟨c,af U ⟨ir.k (k:=.inr b.1) ae (aD (by lia)),?_⟩⟩)⟩)
       rw[da]
       #⟨⟨_,_,U⟩,af U ⟨by lia,keep (b.1++"z") _ (λj=>?_) ?_⟩⟩
       . rw[ck,ck]
         by_cases e:j=(.inr b.1:Key)
         . rw[aR e,aR e]
         . rw[aM e,aM e,aM e]
       . unfold de
         rw[aM yL,aR (ed e2)]
     . !e2:¬ x0%2=1:=λz=>c2 (ed (show V.int (x0%2)=V.int 1 by rw[z]))
       #⟨⟨_,_,U⟩,af U ⟨by lia,keep b.1 _ (λj=>ck _ _ _ _) ?_⟩⟩
       unfold de
       rw[aM yL,aM (λz=>e2 (cU z))]
   . #mn ⟨⟨_,_,U⟩,af U ⟨by lia,keep b.1 _ (λj=>ck _ _ _ _) ?_⟩⟩
     !yL:b.1∈ins:=ahm λz=>c1 (by rw[mW z];rfl)
     unfold de
     rw[aR yL]
 @⟨⟨nv,sv,rfl⟩,kvs,rfl,Jl,Mt⟩:=z
 rw[pD,aed]at Mt
 !s1:ak H (upd H c (.dK kvs)):=ah hc _
 !ca:bS (upd H c (.dK kvs)) c (bs.map (·.1)) (de ins (decide (x0%2=1))):=⟨kvs,ae,Mt⟩
 generalize upd H c (.dK kvs)=H1 at s1 ca ⊢
 !C7:=s1 _ _ hN
 !hr1:=s1 _ _ n8
 #kR _ _ ?_
 #I9 λRk kR=>?_
 #af U (aJ U (.inl (aB.of C7)) ?_)
 !zW:(0:Int)<2*(vn~:Int):=by lia
 #af U ?_
 #bY hr1 a1 ?_
 #af U (dB U U (.inl ⟨by left,by left⟩) (aJ U U ⟨zW,?_⟩))
 !P0:0<=x1%(2*(vn~:Int)):=aeD _ (by lia)
 obtain⟨sk,xB⟩ : ∃sk:Int,sk=x1%(2*(vn~:Int)):=⟨_,rfl⟩
 rw[← xB]at P0
 #af U ⟨_,af U ⟨⟨by left,by left,by lia,by lia⟩,λla Mu=>?_⟩⟩
 #d9 (lo:=1) (n:=((vn~:Int)-1).toNat) (λi H2=>H2=upd H1 la (.lst (((aem i).map λj:Nat=>(1:Int)+(j:Int)).map V.int))) rfl (λi H2 hi z=>?_) (λH2 z=>?_)
 . subst z
   #aS ?_
   #bQ (A:=λH3=>cB _ la _ H3 _) ?_
   #af U ⟨_,ae,aD (by rw[ad1,ad1,aeJ];lia),aF (Pv:=λi H2=>H2=upd H1 la (.lst (((aem i).map λj:Nat=>(1:Int)+(j:Int)).map V.int))) (by repeat' constructor) hi ?_⟩
   rw[da,ahw,aeb,aeb]
   rfl
 subst z
 #kR _ _ (R4 λRk kR=>?_)
 #⟨akz,λoa TV=>?_⟩
 !Rc:la≠oa:=ai ae TV
 !Jn:H1 oa=Z:=by rw[aj Rc.symm]at TV;#TV
 #af U (aJ U U (af U ⟨by lia,by lia,?_⟩))
 #fZ (lo:=0) (n:=((vn~:Int)-1).toNat) (λi σ H2=>∃(kv:Option V) (ord left:O Int),σ=[S (.ref p),S (.ref r),S (.ref B),S (.ref I),S (.ref N),S (.ref c),nv,sv,S (.int (vn~:Int)),S (.int (x1%(2*(vn~:Int)))),S (.ref la),S (.ref oa),kv,Z,Z,Z,Z]/\ak H1 H2/\H2 la=S (.lst (left.map V.int))/\H2 oa=S (.lst (ord.map V.int))/\ord~=i+1/\left~+i+1=vn~/\(∀x∈ord,0<=x/\x<(vn~:Int))/\(∀x∈left,0<=x/\x<(vn~:Int))/\(∀x:Int,0<=x->x<(vn~:Int)->x∈ord\/x∈left)/\ord[0]?=S 0) ?_ ?_ ?_
 . #⟨Z,[0],(aem ((vn~:Int)-1).toNat).map λj:Nat=>(1:Int)+(j:Int),U,aE (ah Mu _) Jn,?_,ae,U,?_,?_,?_,?_,U⟩
   . rw[aj Rc];#ae
   . rw[ad1,aeJ];lia
   . intro x hx
     rw[cR hx]
     lia
   . intro x hx
     @⟨j,hj,rfl⟩:=cO hx
     !:=List.mem_range.mp hj
     lia
   . intro x h0 h1
     by_cases e:x=0
     . #.inl (List.mem_singleton.mpr e)
     . #.inr (dD ⟨(x-1).toNat,List.mem_range.mpr (by lia),by lia⟩)
 . rintro i σ H2 hi ⟨kv,ord,left,rfl,s2,D3,qT,Q1,WI,ho,hl,cov,x9⟩
   !vC:=s2 _ _ hr1
   !mj:(0:Int)<((left.map V.int)~:Int):=by rw[ad1];lia
   !d0:(0:Int)+(i:Int)+1<2^1000:=Int.lt_of_le_of_lt (show _<=(2^40:Int)by lia) (by right)
   #af U ⟨.inl ⟨U,_,aB.of qT⟩,af U ⟨.inl ⟨U,_,aB.of D3⟩,af U ?_⟩⟩
   #bY vC a2 ?_
   #af U (aJ U U (aJ U U ⟨⟨(by change(0:Int)<0+(i:Int)+1;lia),d0⟩,af U (aJ U (.inl (aB.of D3)) (aJ U U ⟨mj,?_⟩))⟩))
   !r0:=aeD (x2/(0+(i:Int)+1)) (show((left.map V.int)~:Int)≠0 by lia)
   !rl:=aeu (x2/(0+(i:Int)+1)) mj
   obtain⟨rr,WO⟩ : ∃rr:Int,rr=x2/(0+(i:Int)+1)%((left.map V.int)~:Int):=⟨_,rfl⟩
   rw[← WO]at r0 rl
   rw[ad1]at rl
   !Q2:rr.toNat<left~:=by lia
   !hix:xG (left.map V.int)~ rr=S rr.toNat:=by rw[ad1];unfold xG;rw[aR r0,aR rl]
   !hgx:(left.map V.int)[rr.toNat]?=S (V.int left[rr.toNat]):=by rw[aei,ad3 Q2];rfl
   !nA:(upd H2 la (.lst ((left.eraseIdx rr.toNat).map V.int))) oa=S (.lst (ord.map V.int)):=by rw[aj Rc.symm];#qT
   #⟨la,_,rr,rr.toNat,af U ⟨(by subst WO;rfl),D3,by lia,by lia,(pI hix).1,hgx,?_⟩⟩
   rw[(om V.int left rr.toNat).symm]
   #⟨oa,aJ U U ⟨nA,aD (by rw[ad1];lia),?_⟩⟩
   !hle:=List.length_eraseIdx_of_lt Q2
   #⟨_,ord++[left[rr.toNat]],left.eraseIdx rr.toNat,U,aE (aE s2 Mu) Jn,?_,?_,?_,?_,?_,?_,?_,by rw[afh (by lia)];#x9⟩
   . rw[aj Rc];#ae
   . rw[ae,aeb];rfl
   . rw[ad7,Q1];rfl
   . lia
   . intro x hx
     rcases eI hx with z|z
     . #ho x z
     . rw[cR z]
       #hl _ (aho Q2)
   . #λx hx=>hl x ((List.eraseIdx_sublist _ _).mem hx)
   . intro x h0 h1
     rcases cov x h0 h1 with z|z
     . #.inl (iC (.inl z))
     . rcases mw Q2 z with y|y
       . #.inl (iC (.inr (List.mem_singleton.mpr y)))
       . #.inr y
 rintro σ H2 ⟨kv,ord,left,rfl,s2,D3,qT,Q1,WI,ho,hl,cov,x9⟩
 !Oj:left=[]:=List.length_eq_zero_iff.mp (by lia)
 !cov:∀x:Int,0<=x->x<(vn~:Int)->x∈ord:=λx h0 h1=>(cov x h0 h1).resolve_right λz=>by rw[Oj]at z;#nomatch z
 !vC:=s2 _ _ hr1
 !cl:∀c:Bool,(-(2^64):Int)<(if c=true then 1 else 0)/\(if c=true then(1:Int)else 0)<2^64:=by left
 #kR _ _ ?_
 #af U (af U (aJ U U (af U ?_)))
 !factB:¬ decide (x1%(2*(vn~:Int))<(vn~:Int))=true->ak H1 H2/\H2 oa=S (.lst (ord.map V.int))/\(∀x∈ord,0<=x/\(x<(vn~:Int)\/(x=(vn~:Int)/\sk<(vn~:Int))))/\(∀x:Int,0<=x->x<(vn~:Int)->x∈ord)/\ord~<=vn~+1/\(sk<(vn~:Int)->(vn~:Int)∈ord)/\(sk=0/\sk<(vn~:Int)->ord[0]?=S (vn~:Int))/\(¬ (sk=0/\sk<(vn~:Int))->ord[0]?=S 0):=λc1=>by
   !yS:¬ sk<(vn~:Int):=λz=>c1 (ed (by rw[← xB];#z))
   #⟨s2,qT,λx hx=>⟨(ho x hx).1,.inl (ho x hx).2⟩,λx h0 h1=>cov x h0 h1,by lia,λz=>aw z yS,λz=>aw z.2 yS,λu=>x9⟩
 #BK (Pm:=λH3 cS=>ak H1 H3/\H3 oa=S (.lst (cS.map V.int))/\(∀x∈cS,0<=x/\(x<(vn~:Int)\/(x=(vn~:Int)/\sk<(vn~:Int))))/\(∀x:Int,0<=x->x<(vn~:Int)->x∈cS)/\cS~<=vn~+1/\(sk<(vn~:Int)->(vn~:Int)∈cS)/\(sk=0/\sk<(vn~:Int)->cS[0]?=S (vn~:Int))/\(¬ (sk=0/\sk<(vn~:Int))->cS[0]?=S 0)) (λrest=>aC (λc1=>?brA) (λc1=>rest H2 ord (factB c1))) ?rest1
 case brA=>
   have yS:sk<(vn~:Int):=by rw[xB];#cU c1
   @⟨j,hj,hjn⟩:=jy (cov sk P0 yS)
   !Mo:j<ord~:=(aH hj)
   !x3m:=aeD x3 (show(2:Int)≠0 by left)
   !x3l:=aeu x3 (show(0:Int)<2 by left)
   !YG:∀b:Bool,0<=x3%2*(if b=true then 1 else 0)/\x3%2*(if b=true then 1 else 0)<=1:=λb=>by cases b<;>simp<;>lia
   !b1:=YG (decide (0<x1%(2*(vn~:Int))))
   obtain⟨ix,NM⟩ : ∃ix:Int,ix=(j:Int)+x3%2*(if decide (0<x1%(2*(vn~:Int)))=true then 1 else 0):=⟨_,rfl⟩
   #af U ⟨.inl ⟨U,_,aB.of qT⟩,af U ⟨.inl ⟨U,_,aB.of qT⟩,af U ⟨oa,ord,sk,j,U,(by rw[xB]),aB.of qT,hj,hjn,by lia,af U ?_⟩⟩⟩
   #bY vC a3 ?_
   #dB U U (by change(0:Int)<2;decide) (af U (aJ U U (.inr (af U (aJ U U ⟨.inr (cl _),aJ U U (af U ⟨oa,_,_,ix,U,(by subst NM;rfl),qT,by lia,by rw[ad1];lia,by rw[ad1];lia,?_⟩)⟩)))))
   obtain⟨cS,qp⟩ : ∃cS:O Int,cS=ord.take ix.toNat++(vn~:Int)::ord.drop ix.toNat:=⟨_,rfl⟩
   !eo:(ord.map V.int).take ix.toNat++V.int (vn~:Int)::(ord.map V.int).drop ix.toNat=cS.map V.int:=by rw[qp,aeb,aeN,ahU,List.map_drop]
   !F1:∀x∈cS,0<=x/\(x<(vn~:Int)\/(x=(vn~:Int)/\sk<(vn~:Int))):=λx hx=>by
     rw[qp]at hx
     rcases eI hx with z|z
     . #⟨(ho x (ae1 z)).1,.inl (ho x (ae1 z)).2⟩
     . rcases cZ z with z|z
       . #⟨by lia,.inr ⟨z,yS⟩⟩
       . #⟨(ho x (afk z)).1,.inl (ho x (afk z)).2⟩
   !F2:∀x:Int,0<=x->x<(vn~:Int)->x∈cS:=λx h0 h1=>by
     !:=cov x h0 h1
     rw[← agE ix.toNat ord]at this
     rw[qp]
     rcases eI this with z|z
     . #iC (.inl z)
     . #iC (.inr (dA (.inr z)))
   !F3:cS~<=vn~+1:=by
     rw[qp,ad7,aet,aea,ae3]
     lia
   !F4:(vn~:Int)∈cS:=by
     rw[qp]
     #iC (.inr (dA (.inl rfl)))
   rw[eo]
   !s3:ak H1 (upd H2 oa (.lst (cS.map V.int))):=aE s2 Jn
   !nA:(upd H2 oa (.lst (cS.map V.int))) oa=S (.lst (cS.map V.int)):=ae
   generalize upd H2 oa (.lst (cS.map V.int))=H3 at s3 nA ⊢
   #rest H3 cS ⟨s3,nA,F1,F2,F3,λu=>F4,λe=>?_,λe=>?_⟩
   . !ei:ix.toNat=0:=by
       !zU:j=0:=by
         by_cases zU:j=0
         . #zU
         . #aw (by rw[e.1];#x9) (hjn 0 (by lia))
       rw[NM,← xB,e.1,zU,show decide ((0:Int)<0)=false from rfl]
       simp
     rw[qp,ei]
     rfl
   . !WG:0<j:=by
       by_cases zU:j=0
       . subst zU
         rw[x9]at hj
         #aw ⟨(aej hj).symm,yS⟩ e
       . lia
     !hip:0<ix.toNat:=by lia
     rw[qp,afh (by rw[aea];lia),List.getElem?_take,aR hip]
     #x9
 case rest1=>
   rintro H3 cS ⟨s3,nA,F1,F2,F3,F4,Z1,Z2⟩
   !s03:=aa s1 s3
   #af U (af U ⟨by lia,by lia,λpa vB=>?_⟩)
   !npo:oa≠pa:=ai nA vB
   #d9 (lo:=0) (n:=(vn~:Int).toNat) (λi H4=>∃ps:O Int,H4=upd H3 pa (.lst (ps.map V.int))/\ps~=i/\(∀x∈ps,0<=x)/\wF cS ps) ⟨[],U,U,(λx hx=>nomatch hx),λk x hx=>by simp at hx⟩ (λi H4 hi z=>?_) (λH4 z=>?_)
   . @⟨ps,rfl,hpl,T4,N7⟩:=z
     @⟨j,hj,hjn⟩:=jy (F2 (0+(i:Int)) (by lia) (by lia))
     !NX:(upd H3 pa (.lst (ps.map V.int))) oa=S (.lst (cS.map V.int)):=by rw[aj npo];#nA
     #aS ?_
     #bQ (A:=λH3=>cB _ pa _ H3 _) ?_
     #af U ⟨.inl ⟨U,_,aB.of NX⟩,af U ⟨oa,cS,0+(i:Int),j,U,U,aB.of NX,hj,hjn,by lia,_,ae,aD (by rw[ad1];lia),aF (Pv:=λi H4=>∃ps:O Int,H4=upd H3 pa (.lst (ps.map V.int))/\ps~=i/\(∀x∈ps,0<=x)/\wF cS ps) (by repeat' constructor) hi ⟨ps++[(j:Int)],?_,by rw[ad7,hpl];rfl,λx hx=>?_,yj N7 (by rw[hpl,← agL (i:Int)];#hj) (by rw[hpl,← agL (i:Int)];#hjn)⟩⟩⟩
     . rw[da,aeb]
       rfl
     . rcases eI hx with z|z
       . #T4 x z
       . rw[cR z];lia
   @⟨ps,rfl,hpl,T4,N7⟩:=z
   rw[aes]at hpl
   !s4:ak H3 (upd H3 pa (.lst (ps.map V.int))):=ah vB _
   !Aa:(upd H3 pa (.lst (ps.map V.int))) pa=S (.lst (ps.map V.int)):=ae
   !aaK:H pa=Z:=aq s03 vB
   generalize upd H3 pa (.lst (ps.map V.int))=H4 at s4 Aa ⊢
   #af U (aJ U (.inl (aB.of Aa)) (λbh C8=>?_))
   @⟨H5,s5,Nv,zz⟩:=aK C8 (.lst (ps.map V.int))
   rw[zz];clear zz
   !s05:=aa (aa s03 s4) s5
   !SV:H bh=Z:=aq (aa s03 s4) C8
   #af U (af U (aJ U U (af U ?_)))
   !factC:¬ decide (x1%(2*(vn~:Int))<(vn~:Int))=true->ak H H5/\H5 oa=S (.lst (cS.map V.int))/\H5 pa=S (.lst (ps.map V.int))/\bS H5 c (bs.map (·.1)) (de ins (decide (x0%2=1)))/\H5 bh=S (.lst (ps.map V.int))/\ps~=vn~/\uZ cS (vn~:Int) ps ps sk.toNat/\ps[0]?=S 0:=λz=>by
     !yS:¬ sk<(vn~:Int):=λy=>z (ed (by rw[← xB];#y))
     #⟨s05,s5 _ _ (s4 _ _ nA),s5 _ _ Aa,ca.same (aa (aa s3 s4) s5),Nv,hpl,λk x hx=>.inl hx,ou N7 (Z2 λe=>yS e.2) (by lia)⟩
   #BK (Pm:=λH6 bp=>ak H H6/\H6 oa=S (.lst (cS.map V.int))/\H6 pa=S (.lst (ps.map V.int))/\bS H6 c (bs.map (·.1)) (de ins (decide (x0%2=1)))/\H6 bh=S (.lst (bp.map V.int))/\bp~=vn~/\uZ cS (vn~:Int) ps bp sk.toNat/\bp[0]?=S 0) (λrest=>aC (λc2=>?brC) (λc2=>rest H5 ps (factC c2))) ?rest2
   case brC=>
     have yS:sk<(vn~:Int):=by rw[xB];#cU c2
     have F4:=F4 yS
     have Jo:=s5 _ _ (s4 _ _ nA)
     @⟨j2,WE,hj2n⟩:=jy F4
     !Tf:xG (ps.map V.int)~ sk=S sk.toNat:=by rw[ad1,hpl];unfold xG;rw[aR P0,aR yS]
     #af U ⟨.inl ⟨U,_,aB.of Jo⟩,af U ⟨oa,cS,_,j2,U,U,aB.of Jo,WE,hj2n,by lia,af U (af U ⟨bh,_,sk,sk.toNat,U,(by rw[xB]),Nv,Tf,?_⟩)⟩⟩
     obtain⟨bp,DW⟩ : ∃bp:O Int,bp=ps.set sk.toNat (j2:Int):=⟨_,rfl⟩
     !eb:(ps.map V.int).set sk.toNat (V.int (j2:Int))=bp.map V.int:=by rw[DW,List.map_set]
     !GF:bp~=vn~:=by rw[DW,afu];#hpl
     !S2:uZ cS (vn~:Int) ps bp sk.toNat:=λk x hx=>by
       rw[DW,ago]at hx
       by_cases e:sk.toNat=k
       . rw[aR e]at hx
         by_cases e2:sk.toNat<ps~
         . rw[aR e2]at hx
           cases hx
           #.inr ⟨e.symm,j2,U,WE⟩
         . rw[aM e2]at hx
           cases hx
       . rw[aM e]at hx
         #.inl hx
     !DV:bp[0]?=S 0:=by
       rw[DW]
       by_cases e:sk=0
       . !h2:=Z1 ⟨e,yS⟩
         !zU:j2=0:=by
           by_cases zU:j2=0
           . #zU
           . #aw h2 (hj2n 0 (by lia))
         rw[e,zU]
         !:0<ps~:=by lia
         rw[ago]
         simp[this]
       . rw[ago,aM (by lia)]
         #ou N7 (Z2 λz=>e z.1) (by lia)
     rw[eb]
     !T6:=s5 _ _ Aa
     !npb:pa≠bh:=ai Aa C8
     !Hs:ak H (upd H5 bh (.lst (bp.map V.int))):=aE s05 SV
     !zZ:(upd H5 bh (.lst (bp.map V.int))) oa=S (.lst (cS.map V.int)):=by rw[aj (ai (s4 _ _ nA) C8)];#Jo
     !Ab:(upd H5 bh (.lst (bp.map V.int))) pa=S (.lst (ps.map V.int)):=by rw[aj npb];#T6
     !L9:bS (upd H5 bh (.lst (bp.map V.int))) c (bs.map (·.1)) (de ins (decide (x0%2=1))):=by
       @⟨kvs,hk,hv⟩:=ca
       #⟨kvs,by rw[aj (ai (s4 _ _ (s3 _ _ hk)) C8)];#s5 _ _ (s4 _ _ (s3 _ _ hk)),hv⟩
     !zP:(upd H5 bh (.lst (bp.map V.int))) bh=S (.lst (bp.map V.int)):=ae
     generalize upd H5 bh (.lst (bp.map V.int))=H6 at Hs zZ Ab L9 zP ⊢
     #rest H6 bp ⟨Hs,zZ,Ab,L9,zP,GF,S2,DV⟩
   case rest2=>
     rintro H6 bp ⟨Hs,zZ,Ab,L9,zP,GF,S2,DV⟩
     #⟨aky,λfa hfa=>?_⟩
     #af U (bu U ⟨_,aB.of (ah hfa _ _ _ zZ)⟩ ?_)
     #dz (xs:=cS.map V.int) (λi σ H7=>(∃kv,σ=[S (.ref p),S (.ref r),S (.ref B),S (.ref I),S (.ref N),S (.ref c),nv,sv,S (.int (vn~:Int)),S (.int (x1%(2*(vn~:Int)))),S (.ref la),S (.ref oa),kv,S (.ref pa),S (.ref bh),S (.ref fa),Z])/\∃(vn2:O V) (nds2:O Nd),ak H6 H7/\H7 fa=S (.lst vn2)/\Paired (bZ H7) vn2 nds2/\nds2~=i/\u5 bs (de ins (decide (x0%2=1))) nds cS ps bp sk nds2) ⟨⟨_,U⟩,[],[],ah hfa _,ae,.nil,U,λj e hj=>by simp at hj⟩ (λi σ H7 u z=>?_) (λi x σ H7 hx z=>?_) (λσ H7 z=>?_)
     . @⟨_,vn2,nds2,s7,_⟩:=z
       #aB.of (s7 _ _ zZ)
     . @⟨⟨kv,rfl⟩,vn2,nds2,s7,zS,MI,hn2,qo⟩:=z
       obtain⟨k,hk,rfl⟩ : ∃k,cS[i]?=S k/\x=V.int k:=by
         rw[aei]at hx
         @⟨y,h1,h2⟩:=Option.map_eq_some_iff.mp hx
         #⟨y,h1,h2.symm⟩
       !du:i<cS~:=(aH hk)
       @⟨k0,k1⟩:=F1 k (ad4 hk)
       !s07:=aa Hs s7
       !aaW:vn2~=nds2~:=Paired.length MI
       !app:∀(v':V) (H8:Hp) (e':Nd),ak H7 H8->bZ H8 v' e'->H8 fa=S (.lst vn2)/\ak H6 (upd H8 fa (.lst (vn2++[v'])))/\Paired (bZ (upd H8 fa (.lst (vn2++[v'])))) (vn2++[v']) (nds2++[e']):=λv' H8 e' s8 Oz=>by
         !h8:=s8 _ _ zS
         #⟨h8,aE (aa s7 s8) hfa,Paired.snoc (Paired.aP MI λa b h=>bZ.keep ((ak.tk s8).trans (TK.lst h8)) h) (bZ.keep (TK.lst h8) Oz)⟩
       #af U (af U (aJ U U (af U ?_)))
       #aC (λc5=>?_) (λc5=>?_)
       . !Mq:k<(vn~:Int):=cU c5
         @⟨v9,g9,SH⟩:=va (xs:=vn) (r:=k) k0 Mq
         @⟨e9,Wo,nd9⟩:=Paired.get pn g9
         !Wn:=Fx.good e9 (ad4 Wo)
         rw[← j6,← GF]at Wn
         #af U ⟨.inl ⟨U,_,aB.of zS⟩,af U (af U ?_)⟩
         #bY (s07 _ _ hN) SH ?_
         #af U (af U ⟨v9,c,bh,e9,bs.map (·.1),_,bp,U,bZ.keep (ak.tk s07) nd9,Wn,L9.same s7,s7 _ _ zP,λv' H8 s8 Oz=>?_⟩)
         @⟨z1,z2,z3⟩:=app v' H8 _ s8 Oz
         #⟨fa,vn2,v',U,U,z1,aD (by lia),⟨_,U⟩,_,_,z2,ae,z3,by rw[ad7,hn2];rfl,mx qo ⟨k,by rw[hn2];#hk,.inl ⟨e9,k0,Wo,U⟩⟩⟩
       . !Mq:k=(vn~:Int)/\sk<(vn~:Int):=k1.resolve_left λz=>c5 (ed z)
         !Ui:=mC (ps:=ps) P0 (by rw[hpl];#Mq.2)
         rw[xB]at Ui
         !Uj:0<=jL ps (x1%(2*(vn~:Int))):=by
           @⟨y,_,hy,e⟩:=dS V.int ps (r:=sk) P0 (by rw[hpl];#Mq.2)
           rw[xB,Ui]at e
           injection e with e
           injection e with e
           rw[e]
           #T4 y hy
         #af U ⟨.inl ⟨U,_,aB.of zS⟩,af U (af U (af U ?_))⟩
         #bY (s07 _ _ n8) a4 ?_
         #af U (af U ?_)
         #bY (s7 _ _ Ab) Ui ?_
         #⟨B,c,vb,bs,_,x4,af U ⟨s07 _ _ hB,Paired.aP pb (λa b h=>Tp.keep (ak.tk s07) h),L9.same s7,Qp,Uj,λv' H8 e' s8 Oz hsd=>?_⟩⟩
         @⟨z1,z2,z3⟩:=app v' H8 e' s8 Oz
         #⟨fa,vn2,v',U,U,z1,aD (by lia),⟨_,U⟩,_,_,z2,ae,z3,by rw[ad7,hn2];rfl,mx qo ⟨k,by rw[hn2];#hk,.inr ⟨by rw[Mq.1,j6],by rw[← j6];show Mq.2,by rw[xB];#hsd⟩⟩⟩
     @⟨⟨kv,rfl⟩,vn2,nds2,s7,zS,MI,hn2,qo⟩:=z
     rw[ad1]at hn2
     !NO:ja bs (de ins (decide (x0%2=1))) nds nds2 ps bp:=xP (by rw[hpl];#j6) (by rw[GF];#j6) N7 (by rw[← j6];#S2) qo hn2 DV
     !s07:=aa Hs s7
     !Wu:=s07 _ _ hB
     !C4:=L9.same s7
     #af U (bu U ⟨_,aB.of Wu⟩ (λta GN=>?_))
     #aV (xs:=vb) (λi H8=>∃vt:O V,ak H7 H8/\H8 ta=S (.lst vt)/\vt~=i/\Paired (cE H8) vt ((bs.map λb=>(de ins (decide (x0%2=1)) b.1,b.2)).take i)) ⟨[],ah GN _,ae,U,.nil⟩ (λi H8 u z=>aB.of (z.choose_spec.1 _ _ Wu)) (λi x H8 hx z=>?_) (λH8 z=>?_)
     . @⟨vt,s8,tT,WW,pt⟩:=z
       @⟨b,ik,uk,rfl,pC⟩:=Paired.get pb hx
       !du:i<vb~:=(aH hx)
       !kS:b.1∈bs.map (·.1):=dD ⟨b,ad4 ik,rfl⟩
       #nJ (s8 _ _ (s07 _ _ pC)) ?_
       #bQ (A:=λH3=>cB _ ta _ H3 _) ?_
       #af U (af U ⟨c,af U ⟨(C4.same s8).get kS,bu U akA (λp2 cy=>⟨vt,?_,aD (by lia),aF (Pv:=λi H8=>∃vt:O V,ak H7 H8/\H8 ta=S (.lst vt)/\vt~=i/\Paired (cE H8) vt ((bs.map λb=>(de ins (decide (x0%2=1)) b.1,b.2)).take i)) (by repeat' constructor) du ?_⟩)⟩⟩)
       . rw[aj (ai tT cy)];#tT
       . !h4:(upd H8 p2 (.tup [.str (de ins (decide (x0%2=1)) b.1),.int b.2])) ta=S (.lst vt):=by rw[aj (ai tT cy)];#tT
         #⟨vt++[.ref p2],aE (az s8 cy) GN,ae,by rw[ad7,WW];rfl,?_⟩
         !eg:(bs.map λb=>(de ins (decide (x0%2=1)) b.1,b.2))[i]?=S (de ins (decide (x0%2=1)) b.1,b.2):=by rw[aei,ik];rfl
         rw[aec,eg]
         #Paired.snoc (Paired.aP pt λa b h=>Tp.keep ((aG cy _).trans (TK.lst h4)) h) ⟨p2,U,by rw[aj (ai tT cy).symm];#ae⟩
     @⟨vt,s8,tT,WW,pt⟩:=z
     !YZ:(bs.map λb=>(de ins (decide (x0%2=1)) b.1,b.2)).take vb~=bs.map λb=>(de ins (decide (x0%2=1)) b.1,b.2):=aeE (by rw[ad1];lia)
     rw[YZ]at pt
     !s08:=aa s07 s8
     !XG:1-2*(x5%2)=1\/1-2*(x5%2)=-1:=by
       !:=aeD x5 (show(2:Int)≠0 by left)
       !:=aeu x5 (show(0:Int)<2 by left)
       lia
     #af U ?_
     #bY (s08 _ _ n8) a5 ?_
     #dB U U (by change(0:Int)<2;decide) (dB U U (.inl ⟨by left,by left⟩) (aJ U U (af U ⟨XG,aJ U (aB.of tT) (λtu WT=>?_)⟩)))
     #af U (af U (aJ U (.inl (aB.of (ah WT _ _ _ (s08 _ _ hI)))) (λi2 xx=>(bu U akB (λq3 GK=>(af U (af U (bu U akC (λp4 vA=>?_)))))))))
     !t1:ak H8 (upd H8 tu (.lst (fB (1-2*(x5%2)) vt))):=ah WT _
     !g1:(upd H8 tu (.lst (fB (1-2*(x5%2)) vt))) tu=S (.lst (fB (1-2*(x5%2)) vt)):=ae
     generalize upd H8 tu (.lst (fB (1-2*(x5%2)) vt))=H9 at t1 g1 xx GK vA ⊢
     !t2:ak H9 (upd H9 i2 (.lst (ins.map V.str))):=ah xx _
     !g2:(upd H9 i2 (.lst (ins.map V.str))) i2=S (.lst (ins.map V.str)):=ae
     generalize upd H9 i2 (.lst (ins.map V.str))=HA at t2 g2 GK vA ⊢
     !t3:ak HA (upd HA q3 (.tup [.ref tu,.ref i2,.ref fa])):=ah GK _
     !g3:(upd HA q3 (.tup [.ref tu,.ref i2,.ref fa])) q3=S (.tup [.ref tu,.ref i2,.ref fa]):=ae
     generalize upd HA q3 (.tup [.ref tu,.ref i2,.ref fa])=HB at t3 g3 vA ⊢
     !t4:ak HB (upd HB p4 (.tup [.ref q3,.ref c,.ref pa,.ref bh])):=ah vA _
     !t78:=aa s8 (aa t1 (aa t2 (aa t3 t4)))
     !t8:=aa t1 (aa t2 (aa t3 t4))
     #q p4 q3 tu i2 fa c pa bh _ (fB (1-2*(x5%2)) vt) vn2 (aT (1-2*(x5%2)) (bs.map λb=>(de ins (decide (x0%2=1)) b.1,b.2))) nds2 (decide (x0%2=1)) (1-2*(x5%2)) (aa s08 t8) ae (t4 _ _ g3) (t4 _ _ (t3 _ _ (t2 _ _ g1))) ?_ (t4 _ _ (t3 _ _ g2)) (t78 _ _ zS) (Paired.aP MI λa b h=>bZ.keep (ak.tk t78) h) (by lia) (C4.same t78) ⟨U,XG⟩ ps bp (t78 _ _ (s7 _ _ Ab)) (t78 _ _ (s7 _ _ zP)) NO
     #rm (Paired.aP pt λa b h=>Tp.keep (ak.tk t8) h)
abbrev uF:Stmt:=dq 34 0
abbrev FQ:Stmt:=dq 35 0
def oF {n:Nat}(h:n<=9000):n<sizeLine:=Nat.lt_of_le_of_lt h (by left)
abbrev lk (fs:O (Str×V))(f:Str):Option V:=fs.lookup f
def eU {fs:O (Str×V)}(f:Str)(v:V){k:Nat}(h:fs~<=k):∃fs',gC f v fs=fs'/\fs'~<=k+1/\lk fs' f=S v/\∀g,g≠f->lk fs' g=lk fs g:=
 ⟨_,rfl,by !:=iB f v fs;lia,by change afB _ _=_;rw[fK,aR rfl],λg ng=>by change afB _ _=_;rw[fK,aM ng]⟩
def jN {κ:Type}[DecidableEq κ](kvs:O (κ×V))(k:κ)(v:V):(putK kvs k v)~<=kvs~+1:=by
 unfold putK
 split
 . rw[ad1];lia
 . rw[ad7];#ad5 _
def Kp.tk {x C dx:J}{fs:O (Str×V)}{H H':Hp}(k:Kp x H H')(h:H x=S (.ins C dx fs)):TK H H':=λb xs e=>k b _ e λz=>by rw[z,h]at e;cases e
structure cC (K:ad2)(H:Hp)(a:J)(W:O (O Int)):Prop where
 ex:∃(C dx:J) (fs:O (Str×V)) (lw:J) (as:O J),lj K C/\dQ K C "worths"/\H a=S (.ins C dx fs)/\lk fs "worths"=S (.ref lw)/\H lw=S (.lst (as.map V.ref))/\Paired (IG H) as W
def cC.keep {K:ad2}{H H':Hp}{a g C dx:J}{fs:O (Str×V)}{W:O (O Int)}(h:cC K H a W)(k:Kp g H H')(hg:H g=S (.ins C dx fs))(ne:a≠g):cC K H' a W:=by
 @⟨C1,xb,xj,lw,as,c,n,ha,l,hl,p⟩:=h
 !nl:∀{b:J} {xs:O V},H b=S (.lst xs)->b≠g:=λe z=>by rw[z,hg]at e;cases e
 #⟨C1,xb,xj,lw,as,c,n,k _ _ ha ne,l,k _ _ hl (nl hl),Paired.aP p λy y z=>k _ _ z (nl z)⟩
def cC.same {K:ad2}{H H':Hp}{a:J}{W:O (O Int)}(h:cC K H a W)(s:ak H H'):cC K H' a W:=by
 @⟨C1,xb,xj,lw,as,c,n,ha,l,hl,p⟩:=h
 #⟨C1,xb,xj,lw,as,c,n,s _ _ ha,l,s _ _ hl,Paired.aP p λy y z=>s _ _ z⟩
structure wC (szs:O Int):Prop where
 sz:∀s∈szs,0<=s/\s<=900
 len:szs~<=400
 gr:∀i,(bV (szs.take i))~<=900
abbrev av (bs:ag):O (O Int):=bV (bs.map (·.2))
theorem ff:∀ss:O Int,(bV ss).Nodup
 | []=>ahA (λv h=>nomatch h) ahJ
 | s::ss=>by
   change((aem s.toNat).flatMap λw=>(bV ss).map λr=>((w:Nat):Int)::r).Nodup
   #List.pairwise_flatMap.mpr ⟨λa v=>List.pairwise_map.mpr ((ff ss).imp λh z=>h (List.cons.inj z).2),List.Pairwise.imp (λ{a b} h x hx y hy z=>?_) (List.nodup_range (n:=s.toNat))⟩
   @⟨r,_,rfl⟩:=cO hx
   @⟨r',_,rfl⟩:=cO hy
   #h (agf (List.cons.inj z).1)
def jH {α:Type}{l:O α}(h:l.Nodup){i j:Nat}{x:α}(h1:l[i]?=S x)(h2:l[j]?=S x):i=j:=by
 @⟨a1,e1⟩:=List.getElem?_eq_some_iff.mp h1
 @⟨a2,e2⟩:=List.getElem?_eq_some_iff.mp h2
 rcases Nat.lt_trichotomy i j with z|z|z
 . #aw (e1.trans e2.symm) (List.pairwise_iff_getElem.mp h i j a1 a2 z)
 . #z
 . #aw (e2.trans e1.symm) (List.pairwise_iff_getElem.mp h j i a2 a1 z)
abbrev yW (W:O (O Int))(kvs:O (O Key×V))(n:Nat):Prop:=∀j r,j<n->W[j]?=S r->aY kvs (r.map Sum.inl)=S (.int (j:Nat))
structure dR (K:ad2)(C:J)(H:Hp)(a:J)(v:V)(W:O (O Int))(st sy:J):Prop where
 cl:lj K C
 na:fG K C ["program","worths","numbers","steps","stays"]
 ex:∃(dx:J) (fs:O (Str×V)) (nb:J) (kvs:O (O Key×V)),H a=S (.ins C dx fs)/\lk fs "program"=S v/\lk fs "numbers"=S (.ref nb)/\lk fs "steps"=S (.ref st)/\lk fs "stays"=S (.ref sy)/\H nb=S (.dT kvs)/\yW W kvs W.length/\∀f,f∉(["program","worths","numbers","steps","stays"]:O Str)->lk fs f=Z
def dR.keep {K:ad2}{C:J}{H H':Hp}{a d st sy:J}{v:V}{W:O (O Int)}(h:dR K C H a v W st sy)(k:Kp d H H')(na:a≠d)(nd:∀b kvs,H b=S (.dT kvs)->b≠d):dR K C H' a v W st sy:=by
 @⟨cl,n,dx,fs,nb,kvs,h1,h2,h3,h4,h5,h6,h7⟩:=h
 #⟨cl,n,dx,fs,nb,kvs,k _ _ h1 na,h2,h3,h4,h5,k _ _ h6 (nd _ _ h6),h7⟩
def dR.same {K:ad2}{C:J}{H H':Hp}{a st sy:J}{v:V}{W:O (O Int)}(h:dR K C H a v W st sy)(s:ak H H'):dR K C H' a v W st sy:=by
 @⟨cl,n,dx,fs,nb,kvs,h1,h2,h3,h4,h5,h6,h7⟩:=h
 #⟨cl,n,dx,fs,nb,kvs,s _ _ h1,h2,h3,h4,h5,s _ _ h6,h7⟩
def qc (K:ad2)(C:J):Sp:=λvs H Q z=>∃(x dx:J) (v:V) (bs:ag),vs=[.ref x,v]/\H x=S (.ins C dx [])/\jq H v bs/\wC (bs.map (·.2)) /\
 ∀(H':Hp) (st sy:J),Kp x H H'->(∃fs,H' x=S (.ins C dx fs))->cC K H' x (av bs)->dR K C H' x v (av bs) st sy->H st=Z->H sy=Z->st≠sy->H' st=S (.dK [])->H' sy=S (.dK [])->Q .bA H'
def FW:aA ["self","program"] ["self","program"] (ao uF):=dX
def jq.kp {x C dx:J}{fs:O (Str×V)}{H H':Hp}{v:V}{bs:ag}(h:jq H v bs)(k:Kp x H H')(hx:H x=S (.ins C dx fs)):jq H' v bs:=
 let⟨p,B,I,N,vb,e,h1,h2,h3⟩:=h
 ⟨p,B,I,N,vb,e,k.tk hx _ _ h1,k _ _ h2 (λz=>by rw[z,hx]at h2;cases h2),Paired.aP h3 λy y z=>Tp.keep (k.tk hx) z⟩
def AR {C:J}{f:J}{fd:aef}(F:cF K "__init__" "Side.__init__" uF f fd)(cs:jW K mg "Side" C ["program","worths","numbers","steps","stays"])(EW:bI P w K mg base "every_worths" ["sizes"] 1 we)(BS:bI P w K mg base "box_sizes" ["program"] 1 pY)(m_tuple:mg "tuple"=Z)(m_enumerate:mg "enumerate"=Z):aL P w K mg base cm 2 f fd ["self","program"] (qc K C):=by
 #F.eO FW λcdv A outer s H vs Q E hr h=>?_
 @⟨x,dx,v,bs,rfl,hx,hb,fw,q⟩:=h
 #f7 ⟨_,(aiz (ai8 (Y 0) (Y 1))
   (aiz (ai8 (Y 0) (aiJ EW hr U (L (aiJ BS hr U (L (Y 1) M)) M)))
   (aiz (ai8 (Y 0) (L3.Wb [Z,Z] ["number","worths"] (bj hr _ (by left)) (ij uF) U (L3.iE U m_enumerate (L (aiP (Y 0)) M)) (λu u u u u=>⟨(aiT 2 (aiI (aiC 0 (dW ["number","worths"])) (aiI (aiC 1 (dW ["number","worths"])) aiU))),aiV,(ai2 L3.oT U m_tuple (by right) (L (Y 1) M)),(Y 0)⟩)))
   (aiz (ai8 (Y 0) L3.zt)
   (aiA (ai8 (Y 0) L3.zt)))))),?_⟩
 !cl:=cs.c
 !na:∀f,f∈(["program","worths","numbers","steps","stays"]:O Str)->dQ K C f:=λf hf=>cs.na.get hf
 #af U (af U ⟨x,C,dx,[],U,hx,cl,na _ (by left),by left,?_⟩)
 @⟨f1,e1,l1,Rh,k1⟩:=eU "program" v (fs:=[]) (ad5 0)
 rw[e1]
 !UJ:Kp x H (upd H x (.ins C dx f1)):=(Kp.refl H).self
 !x1:(upd H x (.ins C dx f1)) x=S (.ins C dx f1):=ae
 generalize upd H x (.ins C dx f1)=H1 at UJ x1 ⊢
 !Nu:jq H1 v bs:=hb.kp UJ hx
 !GF:bs~<=900:=by !:=fw.len;rw[ad1]at this;lia
 #af U ⟨v,bs,U,Nu,GF,λl hl=>⟨l,af U ⟨ae,fw.sz,aeg fw.len (by left),fw.gr,λlw as H3 O8=>?_⟩⟩⟩
 !s3:ak H1 H3:=aa (ah hl _) O8.s
 !x3:=s3 _ _ x1
 #af U ⟨x,C,dx,f1,U,x3,cl,na _ (by left),by lia,?_⟩
 @⟨f2,e2,l2,w2,k2⟩:=eU "worths" (.ref lw) l1
 rw[e2]
 !kp4:Kp x H (upd H3 x (.ins C dx f2)):=(UJ.same s3).self
 !nl:∀{b:J} {xs:O V},H3 b=S (.lst xs)->b≠x:=λe z=>by rw[z,x3]at e;cases e
 !Ot:(upd H3 x (.ins C dx f2)) lw=S (.lst (as.map V.ref)):=by rw[aj (nl O8.e)];#O8.e
 !p4:Paired (IG (upd H3 x (.ins C dx f2))) as (bV (bs.map (·.2))):=Paired.aP O8.p λa r z=>by change upd H3 x _ a=_;rw[aj (nl z)];#z
 !x4:(upd H3 x (.ins C dx f2)) x=S (.ins C dx f2):=ae
 generalize upd H3 x (.ins C dx f2)=H4 at kp4 Ot p4 x4 ⊢
 !Jg:=Paired.length p4
 !hgr:=fw.gr (bs.map (·.2))~
 rw[aed]at hgr
 #af U ?_
 #bJ x4 cl (na _ (by left)) w2 ?_
 #bu U ⟨_,aB.of Ot⟩ (λD hD=>?_)
 #wR (xs:=as.map V.ref) (λi H2=>ak H4 H2/\∃kvs,H2 D=S (.dT kvs)/\kvs~<=i/\yW (av bs) kvs i) ⟨ah hD _,_,ae,ad5 _,λj r h u=>aw h (ae8 _)⟩ (λi H2 u z=>aB.of (z.1 _ _ Ot)) (λi y p H2 hy z hp=>?_) (λH5 z=>?_)
 . @⟨s5,kvs,Me,hk,qo⟩:=z
   @⟨a,ha,rfl⟩:=aX hy
   @⟨r,dO,vz⟩:=Paired.get p4 ha
   !du:i<(as.map V.ref)~:=(aH hy)
   !xx:i<900:=by rw[ad1]at du;lia
   @⟨H6,s6,g6,zz⟩:=aK hp (.tup [.int (i:Nat),.ref a])
   rw[zz];clear zz
   #nJ g6 ?_
   #bQ (A:=λH3=>Ai _ _ D _ H3 _) ?_
   #af U (aJ U (aB.of (s6 _ _ (s5 _ _ vz))) (λtk htk=>(af U ⟨_,ir.t (k:=r.map Sum.inl) (kvs:=kvs) ?_ ?_ (aD (by lia)),aF (Pv:=λi H2=>ak H4 H2/\∃kvs,H2 D=S (.dT kvs)/\kvs~<=i/\yW (av bs) kvs i) (by repeat' constructor) du ⟨?_,_,ae,by !:=jN kvs (r.map Sum.inl) (.int (i:Nat));lia,λj r2 hj vC=>?_⟩⟩)))
   . rw[aj (ai (s6 _ _ Me) htk)];#s6 _ _ Me
   . rw[ae,ae0];rfl
   . #aE (az (aa s5 s6) htk) hD
   . rw[ck]
     by_cases ej:j=i
     . subst ej
       rw[dO]at vC
       cases vC
       rw[aR rfl]
     . rw[aM λz=>ej (jH (ff _) vC (by rw[(List.map_inj_right (λa b h=>agH h)).mp z];#dO))]
       #qo j r2 (by lia) vC
 @⟨s5,kvs,Me,_,qo⟩:=z
 rw[ad1,Jg]at qo
 !D0:∀{b:J},H5 b=Z->H b=Z:=λ{b} h=>by
   match e:H b with
   | none=>rfl
   | some o=>
     by_cases z:b=x
     . rw[z,s5 _ _ x4]at h;cases h
     . rw[s5 _ _ (kp4 _ _ e z)]at h;cases h
 !nDx:D≠x:=λz=>by rw[z,s5 _ _ x4]at Me;cases Me
 !x5:=s5 _ _ x4
 #af U ⟨x,C,dx,f2,U,x5,cl,na _ (by left),by lia,?_⟩
 @⟨f3,e3,l3,nu3,k3⟩:=eU "numbers" (.ref D) l2
 rw[e3]
 !w3:lk f3 "worths"=S (.ref lw):=by rw[k3 _ (by left)];#w2
 #λd1 Ny=>?_
 !n1:d1≠x:=λz=>by rw[z,ae]at Ny;cases Ny
 !ZY:H5 d1=Z:=by rw[aj n1]at Ny;#Ny
 !x6:(upd (upd H5 x (.ins C dx f3)) d1 (.dK [])) x=S (.ins C dx f3):=by rw[aj n1.symm];#ae
 #af U ⟨x,C,dx,f3,U,x6,cl,na _ (by left),by lia,?_⟩
 @⟨f4,e4,l4,Ii,k4⟩:=eU "steps" (.ref d1) l3
 rw[e4]
 !w4:lk f4 "worths"=S (.ref lw):=by rw[k4 _ (by left)];#w3
 #λd2 hd2=>?_
 !n2:d2≠x:=λz=>by rw[z,ae]at hd2;cases hd2
 !U2:d1≠d2:=λz=>by rw[← z,aj n1,ae]at hd2;cases hd2
 !ZZ:H5 d2=Z:=by rw[aj n2,aj U2.symm,aj n2]at hd2;#hd2
 !x7:(upd (upd (upd (upd H5 x (.ins C dx f3)) d1 (.dK [])) x (.ins C dx f4)) d2 (.dK [])) x=S (.ins C dx f4):=by rw[aj n2.symm];#ae
 #af U ⟨x,C,dx,f4,U,x7,cl,na _ (by left),by lia,?_⟩
 @⟨f5,e5,l5,sy5,k5⟩:=eU "stays" (.ref d2) l4
 rw[e5]
 !w5:lk f5 "worths"=S (.ref lw):=by rw[k5 _ (by left)];#w4
 !yT:lk f5 "steps"=S (.ref d1):=by rw[k5 _ (by left)];#Ii
 !nu5:lk f5 "numbers"=S (.ref D):=by rw[k5 _ (by left),k4 _ (by left)];#nu3
 !pr5:lk f5 "program"=S v:=by rw[k5 _ (by left),k4 _ (by left),k3 _ (by left),k2 _ (by left)];#Rh
 !Q7:Kp x H5 (upd (upd (upd (upd (upd H5 x (.ins C dx f3)) d1 (.dK [])) x (.ins C dx f4)) d2 (.dK [])) x (.ins C dx f5)):=((((Kp.refl H5).self).new Ny).self).new hd2 |>.self
 !nl4:∀{b:J} {xs:O V},H4 b=S (.lst xs)->b≠x:=λe z=>by rw[z,x4]at e;cases e
 #q _ d1 d2 ((kp4.same s5).trans Q7) ⟨_,ae⟩ ⟨C,dx,f5,lw,as,cl,na _ (by left),ae,w5,Q7 _ _ (s5 _ _ Ot) (nl4 Ot),Paired.aP p4 λu u z=>Q7 _ _ (s5 _ _ z) (nl4 z)⟩ ⟨cl,cs.na,dx,f5,D,kvs,ae,pr5,nu5,yT,sy5,Q7 _ _ Me nDx,qo,λf hf=>by rw[k5 _ (λz=>hf (by rw[z];simp)),k4 _ (λz=>hf (by rw[z];simp)),k3 _ (λz=>hf (by rw[z];simp)),k2 _ (λz=>hf (by rw[z];simp)),k1 _ (λz=>hf (by rw[z];simp))];rfl⟩ (D0 ZY) (D0 ZZ) U2 ?_ ?_
 . rw[aj n1,aj U2,aj n1];#ae
 . rw[aj n2];#ae
theorem jo:∀{bs:ag} {ws:O Int} {i:Nat} {b:Str×Int} {w:Int},(bs.map (·.1)).Nodup->bs[i]?=S b->ws[i]?=S w->eP bs ws b.1=w
 | [],_,_,_,_,_,h,_=>by simp at h
 | _::_,[],_,_,_,_,_,h=>by simp at h
 | c::bs,v::ws,0,b,w,_,h,g=>by
   simp at h g
   subst h g
   change(if c.1=c.1 then v else eP bs ws c.1)=v
   rw[aR rfl]
 | c::bs,v::ws,i+1,b,w,nd,h,g=>by
   rw[aeN,af5]at nd
   !h':bs[i]?=S b:=by simpa using h
   change(if c.1=b.1 then v else eP bs ws b.1)=w
   rw[aM (λe:c.1=b.1=>nd.1 (by rw[e];#dD ⟨b,ad4 h',rfl⟩))]
   #jo nd.2 h' (by simpa using g)
def made {H H1:Hp}{x dx:J}{o:HO}(n1:H x=Z)(n2:H dx=Z)(k:Kp x (upd (upd H dx (.own x)) x o) H1):ak H H1:=λb u e=>by
 #k b u ?_ (ai e n1)
 rw[aj (ai e n1),aj (ai e n2)]
 #e
abbrev nR (b1 b2:ag):Nat:=(av b1)~*(av b2)~
def wA (W:O (O Int))(i:Nat):O Int:=W.getD i []
def gG {W:O (O Int)}{i:Nat}{r:O Int}(h:W[i]?=S r):wA W i=r:=by
 unfold wA
 rw[ad9,h]
 rfl
def dt (b1 b2:ag)(r:Nat):Str->Str->Int:=kJ b1 (wA (av b1) (r/(av b2)~)) b2 (wA (av b2) (r%(av b2)~))
abbrev wQ (b1 b2:ag)(t x:Str):O V:=(aem (nR b1 b2)).map λr:Nat=>V.int (dt b1 b2 r t x)
def iY (b1 b2:ag)(H:Hp)(kvs:O (O Key×V))(Pc:Str->Str->Prop):Prop:=∀t x,(Pc t x->∃col,aY kvs [.inr t,.inr x]=S (.ref col)/\H col=S (.lst (wQ b1 b2 t x)))/\((aY kvs [.inr t,.inr x]).isSome=true->Pc t x)
def iY.put {b1 b2:ag}{H H':Hp}{kvs:O (O Key×V)}{Pc Pd:Str->Str->Prop}{sd y:Str}{l:J}(h:iY b1 b2 H kvs Pc)(k:∀b xs,H b=S (.lst xs)->H' b=S (.lst xs))(hl:H' l=S (.lst (wQ b1 b2 sd y)))
   (hP:∀t x,Pd t x↔Pc t x\/(t=sd/\x=y)):iY b1 b2 H' (putK kvs [.inr sd,.inr y] (.ref l)) Pd:=λt x=>by
 rw[ck]
 by_cases e:([.inr t,.inr x]:O Key)=[.inr sd,.inr y]
 . rw[aR e]
   injection e with e1 e2
   injection e1 with e1
   injection e2 with e2 _
   injection e2 with e2
   subst e1 e2
   #⟨λw=>⟨l,U,hl⟩,λw=>(hP _ _).mpr (.inr ⟨U,U⟩)⟩
 . rw[aM e]
   #⟨λhx=>?_,λhx=>(hP t x).mpr (.inl ((h t x).2 hx))⟩
   rcases(hP t x).mp hx with z|⟨rfl,rfl⟩
   . @⟨col,h1,h2⟩:=(h t x).1 z
     #⟨col,h1,k _ _ h2⟩
   . #aw rfl e
structure oP (K:ad2)(C:J)(H:Hp)(g:J)(b1 b2:ag):Prop where
 cl:lj K C
 na:fG K C ["mine","yours","width","rows","columns"]
 ex:∃(dx:J) (fs:O (Str×V)) (m y rl cd:J) (kvs:O (O Key×V)),H g=S (.ins C dx fs)/\lk fs "mine"=S (.ref m)/\lk fs "yours"=S (.ref y)/\lk fs "width"=S (.int ((av b2)~:Nat))/\lk fs "rows"=S (.ref rl)/\lk fs "columns"=S (.ref cd) /\
   cC K H m (av b1)/\cC K H y (av b2)/\H rl=S (.lst ((aem (nR b1 b2)).map λi:Nat=>V.int i))/\H cd=S (.dT kvs)/\iY b1 b2 H kvs (qB b1 b2)/\∀f,f∉(["mine","yours","width","rows","columns"]:O Str)->lk fs f=Z
def oP.same {K:ad2}{C:J}{H H':Hp}{g:J}{b1 b2:ag}(h:oP K C H g b1 b2)(s:ak H H'):oP K C H' g b1 b2:=by
 @⟨cl,na,dx,fs,m,y,rl,cd,kvs,h1,h2,h3,h4,h5,h6,h7,h8,h9,DQ,h11,Nm⟩:=h
 #⟨cl,na,dx,fs,m,y,rl,cd,kvs,s _ _ h1,h2,h3,h4,h5,h6,h7.same s,h8.same s,s _ _ h9,s _ _ DQ,λt x=>⟨λhx=>?_,(h11 t x).2⟩,Nm⟩
 @⟨col,k1,k2⟩:=(h11 t x).1 hx
 #⟨col,k1,s _ _ k2⟩
structure Ca where
 s1:J
 t1:J
 s2:J
 t2:J
structure Ca.Nd (c:Ca):Prop where
 n1:c.s1≠c.t1
 n2:c.s1≠c.s2
 n3:c.s1≠c.t2
 n4:c.t1≠c.s2
 n5:c.t1≠c.t2
 n6:c.s2≠c.t2
structure Ca.Yp (c:Ca)(H:Hp):Prop where
 n1:H c.s1=Z
 n2:H c.t1=Z
 n3:H c.s2=Z
 n4:H c.t2=Z
structure VX (K:ad2)(C CS:J)(H:Hp)(g:J)(v1 v2:V)(b1 b2:ag)(c:Ca):Prop where
 ex:∃(dx:J) (fs:O (Str×V)) (m y:J),H g=S (.ins C dx fs)/\lk fs "mine"=S (.ref m)/\lk fs "yours"=S (.ref y)/\dR K CS H m v1 (av b1) c.s1 c.t1/\dR K CS H y v2 (av b2) c.s2 c.t2
structure sO (K:ad2)(C:J)(H:Hp)(o:J)(v:V)(b:ag)(st sy:J):Prop where
 a:cC K H o (av b)
 m:dR K C H o v (av b) st sy
 s:H st=S (.dK [])
 y:H sy=S (.dK [])
def sO.keep {K:ad2}{CS:J}{H H':Hp}{a g C dx st sy:J}{fs:O (Str×V)}{v:V}{b:ag}(h:sO K CS H a v b st sy)(k:Kp g H H')(hg:H g=S (.ins C dx fs))(ne:a≠g):sO K CS H' a v b st sy:=
 have nk:∀{b:J} {kvs:O (Key×V)},H b=S (.dK kvs)->b≠g:=λe z=>by rw[z,hg]at e;cases e
 ⟨h.a.keep k hg ne,h.m.keep k ne (λx x e z=>by rw[z,hg]at e;cases e),k _ _ h.s (nk h.s),k _ _ h.y (nk h.y)⟩
def sO.same {K:ad2}{CS:J}{H H':Hp}{a st sy:J}{v:V}{b:ag}(h:sO K CS H a v b st sy)(s:ak H H'):sO K CS H' a v b st sy:=⟨h.a.same s,h.m.same s,s _ _ h.s,s _ _ h.y⟩
def B4 (K:ad2)(C CS:J):Sp:=λvs H Q z=>∃(x dx:J) (v1 v2:V) (b1 b2:ag),vs=[.ref x,v1,v2]/\H x=S (.ins C dx [])/\jq H v1 b1/\jq H v2 b2/\(b1.map (·.1)).Nodup/\(b2.map (·.1)).Nodup/\wC (b1.map (·.2))/\wC (b2.map (·.2))/\nR b1 b2<=3000 /\
 ∀(H':Hp) (c:Ca),Kp x H H'->oP K C H' x b1 b2->VX K C CS H' x v1 v2 b1 b2 c->c.Nd->c.Yp H->H' c.s1=S (.dK [])->H' c.t1=S (.dK [])->H' c.s2=S (.dK [])->H' c.t2=S (.dK [])->Q .bA H'
def mI:aA ["self","one","other","at","name","size"] ["self","one","other"] (ao FQ):=dX
def J7 {C CS:J}{f:J}{fd:aef}(F:cF K "__init__" "Ground.__init__" FQ f fd)(cs:jW K mg "Ground" C ["mine","yours","width","rows","columns"])(SD:m7 P w K mg base "Side" CS ["self","program"] 2 (qc K CS))(m_len:mg "len"=Z)(m_list:mg "list"=Z)(m_range:mg "range"=Z)(m_enumerate:mg "enumerate"=Z):aL P w K mg base cm 4 f fd ["self","one","other"] (B4 K C CS):=by
 #F.eO mI λcdv A outer s H vs Q E hr h=>?_
 @⟨x,dx,v1,v2,b1,b2,rfl,hx,V7,V8,nd1,dI,fw1,fw2,hn,q⟩:=h
 #f7 ⟨_,(aiz (ai8 (Y 0) (ajE SD hr U (L (Y 1) M)))
   (aiz (ai8 (Y 0) (ajE SD hr U (L (Y 2) M)))
   (aiz (ai8 (Y 0) (aiS aiX U m_len aeo (L (aiP (aiP (Y 0))) M)))
   (aiz (ai8 (Y 0) (L3.Ek U m_list U m_range (L (aiB ai5 (aiS aiX U m_len aeo (L (aiP (aiP (Y 0))) M)) (aiP (Y 0))) M)))
   (aiz (ai8 (Y 0) L3.zu)
   (aiz (ai0 (L3.iE U m_enumerate (L (aiy aiE (Y 1) aix) M)) (aiT 2 (aiI (aiC 3 mI.nd) (aiI (aiT 2 (aiI (aiC 4 mI.nd) (aiI (aiC 5 mI.nd) aiU))) aiU))) (aiA (aju (bj hr _ (by left)) (aiP (Y 0)) (aiG (L aiD (L (Y 4) M))) (aiY [Z,S 3,S 0] ["row","at","self"] (ij FQ) U (aiW (aiP (Y 0))) (λv v v v v=>⟨(aiC 0 (dW ["row","at","self"])),aiV,(aiy aiH (aiy aiH (aiP (aiP (Y 2))) (aiB aja (Y 0) (aiP (Y 2)))) (Y 1))⟩)))))
   (aiA (ai0 (L3.iE U m_enumerate (L (aiy aiE (Y 2) aix) M)) (aiT 2 (aiI (aiC 3 mI.nd) (aiI (aiT 2 (aiI (aiC 4 mI.nd) (aiI (aiC 5 mI.nd) aiU))) aiU))) (aiA (aju (bj hr _ (by left)) (aiP (Y 0)) (aiG (L aiD (L (Y 4) M))) (aiY [Z,S 3,S 0] ["row","at","self"] (ij FQ) U (aiW (aiP (Y 0))) (λv v v v v=>⟨(aiC 0 (dW ["row","at","self"])),aiV,(aiy aiH (aiy aiH (aiP (aiP (Y 2))) (aiB aiQ (Y 0) (aiP (Y 2)))) (Y 1))⟩)))))))))))),?_⟩
 !cl:=cs.c
 !na:∀f,f∈(["mine","yours","width","rows","columns"]:O Str)->dQ K C f:=λf hf=>cs.na.get hf
 @⟨p1,B1,I1,N1,F9,rfl,nZ,qO,uk⟩:=id V7
 @⟨p2,B2,I2,N2,Qn,rfl,cy,Jf,OT⟩:=id V8
 !nl:∀{b:J} {xs:O V},H b=S (.lst xs)->b≠x:=λe z=>by rw[z,hx]at e;cases e
 !W7:=nl qO
 !nB2:=nl Jf
 #bC λRk kR=>?_
 #af U (λsm sdx m1 m2 m3=>⟨sm,sdx,_,b1,U,ae,V7.same (aa (ah m2 _) (ah (by rw[aj m3.symm];#m1) _)),fw1,λHa r9 Iw ka xa sa sb n1 n2 n3 n4 n5=>⟨U,?_⟩⟩)
 !s0a:=made m1 m2 ka
 replace sa:sO K CS Ha sm (.ref p1) b1 r9 Iw:=⟨sa,sb,n4,n5⟩
 !Zd:H r9=Z:=aq (aa (ah m2 _) (ah (by rw[aj m3.symm];#m1) _)) n1
 !Mc:H Iw=Z:=aq (aa (ah m2 _) (ah (by rw[aj m3.symm];#m1) _)) n2
 !G2:sm≠x:=λz=>by rw[z,hx]at m1;cases m1
 !xa:=s0a _ _ hx
 #af U ⟨x,C,dx,[],U,xa,cl,na _ (by left),by left,?_⟩
 @⟨f1,e1,l1,Ov,q1⟩:=eU "mine" (.ref sm) (fs:=[]) (ad5 0)
 rw[e1]
 !Q6:Kp x H (upd Ha x (.ins C dx f1)):=((Kp.refl H).same s0a).self
 !x1:(upd Ha x (.ins C dx f1)) x=S (.ins C dx f1):=ae
 !jm:sO K CS (upd Ha x (.ins C dx f1)) sm (.ref p1) b1 r9 Iw:=sa.keep (Kp.refl Ha).self xa G2
 generalize upd Ha x (.ins C dx f1)=H1 at Q6 x1 jm ⊢
 #kR _ _ (bC λRk kR=>?_)
 #af U (λsq Vr m4 m5 m6=>⟨sq,Vr,_,b2,U,ae,(V8.kp Q6 hx).same (aa (ah m5 _) (ah (by rw[aj m6.symm];#m4) _)),fw2,λHa mY LP ka xa sa sb w1 w2 w3 w4 w5=>⟨U,?_⟩⟩)
 !Vp:=made m4 m5 ka
 replace sa:sO K CS Ha sq (.ref p2) b2 mY LP:=⟨sa,sb,w4,w5⟩
 !old:∀{b d:J} {kvs:O (Key×V)},(upd (upd H1 Vr (.own sq)) sq (.ins CS Vr [])) d=Z->H1 b=S (.dK kvs)->b≠d:=λh e z=>by
   rw[← z]at h
   rw[aa (ah m5 _) (ah (by rw[aj m6.symm];#m4) _) _ _ e]at h
   cases h
 !YO:Ca.Nd ⟨r9,Iw,mY,LP⟩:=⟨n3,old w1 jm.s,old w2 jm.s,old w1 jm.y,old w2 jm.y,w3⟩
 !low:∀{d:J},H1 d=Z->H d=Z:=λ{d} h=>by
   match e:H d with
   | none=>rfl
   | some o=>
     by_cases z:d=x
     . rw[z,x1]at h;cases h
     . rw[Q6 _ _ e z]at h;cases h
 !GA:H mY=Z:=low (aq (aa (ah m5 _) (ah (by rw[aj m6.symm];#m4) _)) w1)
 !Ze:H LP=Z:=low (aq (aa (ah m5 _) (ah (by rw[aj m6.symm];#m4) _)) w2)
 !OE:sq≠x:=λz=>by rw[z,x1]at m4;cases m4
 !xa:=Vp _ _ x1
 #af U ⟨x,C,dx,f1,U,xa,cl,na _ (by left),by lia,?_⟩
 @⟨f2,e2,l2,CM,q2⟩:=eU "yours" (.ref sq) l1
 rw[e2]
 !WY:Kp x H (upd Ha x (.ins C dx f2)):=(Q6.same Vp).self
 !x2:(upd Ha x (.ins C dx f2)) x=S (.ins C dx f2):=ae
 !lF:sO K CS (upd Ha x (.ins C dx f2)) sq (.ref p2) b2 mY LP:=sa.keep (Kp.refl Ha).self xa OE
 replace jm:sO K CS (upd Ha x (.ins C dx f2)) sm (.ref p1) b1 r9 Iw:=(jm.same Vp).keep (Kp.refl Ha).self xa G2
 generalize upd Ha x (.ins C dx f2)=H2 at WY x2 jm lF ⊢
 #kR _ _ (bC λRk kR=>?_)
 @⟨C2,R9,Si,W3,RU,c2,n2,Ed,JL,D5,KG⟩:=id lF.a
 !Sv:(RU.map V.ref)~=(av b2)~:=by rw[ad1];#Paired.length KG
 #af U ?_
 #bJ x2 cl (na _ (by left)) CM ?_
 #⟨sq,C2,R9,Si,af U ⟨Ed,c2,n2,JL,aJ U (.inl (aB.of D5)) ?_⟩⟩
 rw[Sv]
 #af U ⟨x,C,dx,f2,U,x2,cl,na _ (by left),by lia,?_⟩
 @⟨f3,e3,l3,CK,q3⟩:=eU "width" (.int ((av b2)~:Nat)) l2
 rw[e3]
 !Oi:Kp x H (upd H2 x (.ins C dx f3)):=WY.self
 !x3:(upd H2 x (.ins C dx f3)) x=S (.ins C dx f3):=ae
 replace jm:sO K CS (upd H2 x (.ins C dx f3)) sm (.ref p1) b1 r9 Iw:=jm.keep (Kp.refl H2).self x2 G2
 replace lF:sO K CS (upd H2 x (.ins C dx f3)) sq (.ref p2) b2 mY LP:=lF.keep (Kp.refl H2).self x2 OE
 generalize upd H2 x (.ins C dx f3)=H3 at Oi x3 jm lF ⊢
 #kR _ _ (bC λRk kR=>?_)
 @⟨C3,Sa,Sj,W4,RV,c3,n3,Ec,JM,D6,KH⟩:=id jm.a
 !Sw:(RV.map V.ref)~=(av b1)~:=by rw[ad1];#Paired.length KH
 !GX:lk f3 "mine"=S (.ref sm):=by rw[q3 _ (by left),q2 _ (by left)];#Ov
 #af U ?_
 #bJ x3 cl (na _ (by left)) GX ?_
 #⟨sm,C3,Sa,Sj,af U ⟨Ec,c3,n3,JM,aJ U (.inl (aB.of D6)) ?_⟩⟩
 rw[Sw]
 !g1:(av b1)~<=900:=by !:=fw1.gr (b1.map (·.2))~;rw[aed]at this;#this
 !g2:(av b2)~<=900:=by !:=fw2.gr (b2.map (·.2))~;rw[aed]at this;#this
 #af U ?_
 #bJ x3 cl (na _ (by left)) CK ?_
 #dB U U (.inl ⟨by lia,by lia⟩) ⟨nR b1 b2,by change[V.int (((av b1)~:Int)*((av b2)~:Int))]=_;rw[← Int.natCast_mul],by lia,λrl Ad=>?_⟩
 !s3:=ah Ad (.lst ((aem (nR b1 b2)).map λi:Nat=>V.int i))
 !xa:=s3 _ _ x3
 #af U ⟨x,C,dx,f3,U,xa,cl,na _ (by left),by lia,?_⟩
 @⟨f4,e4,l4,Pp,q4⟩:=eU "rows" (.ref rl) l3
 rw[e4]
 !Rn:(upd H3 rl (.lst ((aem (nR b1 b2)).map λi:Nat=>V.int i))) rl=S (.lst ((aem (nR b1 b2)).map λi:Nat=>V.int i)):=ae
 replace jm:=jm.same s3
 replace lF:=lF.same s3
 replace Oi:=Oi.same s3
 generalize upd H3 rl (.lst ((aem (nR b1 b2)).map λi:Nat=>V.int i))=Ha at s3 xa Rn jm lF Oi ⊢
 !Rf:rl≠x:=λz=>by rw[z,xa]at Rn;cases Rn
 !MB:Kp x H (upd Ha x (.ins C dx f4)):=Oi.self
 !x4:(upd Ha x (.ins C dx f4)) x=S (.ins C dx f4):=ae
 !Pn:(upd Ha x (.ins C dx f4)) rl=S (.lst ((aem (nR b1 b2)).map λi:Nat=>V.int i)):=by rw[aj Rf];#Rn
 replace jm:sO K CS (upd Ha x (.ins C dx f4)) sm (.ref p1) b1 r9 Iw:=jm.keep (Kp.refl Ha).self xa G2
 replace lF:sO K CS (upd Ha x (.ins C dx f4)) sq (.ref p2) b2 mY LP:=lF.keep (Kp.refl Ha).self xa OE
 generalize upd Ha x (.ins C dx f4)=H4 at MB x4 Pn jm lF ⊢
 !MN:=jm
 !MO:=lF
 replace jm:=MN.a
 replace lF:=MO.a
 #kR _ _ (bC λRk kR=>?_)
 #λcd hcd=>?_
 !YL:H cd=Z:=by
   match e:H cd with
   | none=>rfl
   | some o=>
     by_cases z:cd=x
     . rw[z,x4]at hcd;cases hcd
     . rw[MB _ _ e z]at hcd;cases hcd
 !s4:=ah hcd (.dT [])
 !YM:=hcd
 !Qp:=x4
 !xa:=s4 _ _ x4
 #af U ⟨x,C,dx,f4,U,xa,cl,na _ (by left),by lia,?_⟩
 @⟨f5,e5,l5,qF,q5⟩:=eU "columns" (.ref cd) l4
 rw[e5]
 !QD:(upd H4 cd (.dT [])) cd=S (.dT []):=ae
 replace jm:=jm.same s4
 replace lF:=lF.same s4
 replace MB:=MB.same s4
 replace Pn:=s4 _ _ Pn
 generalize upd H4 cd (.dT [])=Ha at s4 xa QD jm lF MB Pn ⊢
 !W8:cd≠x:=λz=>by rw[z,xa]at QD;cases QD
 !k07:Kp x H (upd Ha x (.ins C dx f5)):=MB.self
 !x7:(upd Ha x (.ins C dx f5)) x=S (.ins C dx f5):=ae
 !Bn:(upd Ha x (.ins C dx f5)) rl=S (.lst ((aem (nR b1 b2)).map λi:Nat=>V.int i)):=by rw[aj Rf];#Pn
 !Dx:(upd Ha x (.ins C dx f5)) cd=S (.dT []):=by rw[aj W8];#QD
 replace jm:cC K (upd Ha x (.ins C dx f5)) sm (av b1):=jm.keep (Kp.refl Ha).self xa G2
 replace lF:cC K (upd Ha x (.ins C dx f5)) sq (av b2):=lF.keep (Kp.refl Ha).self xa OE
 !k47:Kp x H4 (upd Ha x (.ins C dx f5)):=((Kp.refl H4).same s4).self
 generalize upd Ha x (.ins C dx f5)=H7 at k07 x7 Bn Dx jm lF k47 ⊢
 !Al:lk f5 "mine"=S (.ref sm):=by rw[q5 _ (by left),q4 _ (by left)];#GX
 !uX:lk f5 "yours"=S (.ref sq):=by rw[q5 _ (by left),q4 _ (by left),q3 _ (by left)];#CM
 !uV:lk f5 "width"=S (.int ((av b2)~:Nat)):=by rw[q5 _ (by left),q4 _ (by left)];#CK
 !rH:lk f5 "rows"=S (.ref rl):=by rw[q5 _ (by left)];#Pp
 !G3:x≠cd:=W8.symm
 !nl7:∀{b:J} {xs:O V},H7 b=S (.lst xs)->b≠cd:=λe z=>by rw[z,Dx]at e;cases e
 !nt7:∀{b:J} {xs:O V},H7 b=S (.tup xs)->b≠cd:=λe z=>by rw[z,Dx]at e;cases e
 !VV:=k07 _ _ qO W7
 !Qv:=k07 _ _ Jf nB2
 !X0:=Paired.length uk
 !X1:=Paired.length OT
 !Sf:=fw1.len
 !DK:=fw2.len
 rw[ad1]at Sf DK
 #kR _ _ (bC λRk kR=>?_)
 #af U ?_
 #aW (k07.tk hx _ _ nZ) U ?_
 #bu U ⟨_,aB.of (k07 _ _ qO W7)⟩ ?_
 #qM (xs:=F9) (λi σ Hx=>(∃o3 o4 o5,σ=[S (.ref x),S (.ref p1),S (.ref p2),o3,o4,o5])/\Kp cd H7 Hx/\∃kvs,Hx cd=S (.dT kvs)/\kvs~<=i/\iY b1 b2 Hx kvs (λt y=>t="mine"/\y∈(b1.take i).map (·.1))) ⟨⟨_,_,_,rfl⟩,Kp.refl _,_,Dx,ad5 _,(λt y=>⟨λh=>by@⟨_,h⟩:=h;simp at h,λh=>aw h ael⟩)⟩ (λi σ Hx v z=>aB.of (z.2.1 _ _ VV (nl7 VV))) (λi xv p σ Hx JB z hp=>?_) (λσ Hx z=>?_)
 . @⟨⟨o3,o4,o5,rfl⟩,kx,kvs,hcd,Jl,cok⟩:=z
   @⟨b,ik,pb,rfl,pC⟩:=Paired.get uk JB
   !du:i<F9.length:=(aH JB)
   !qU:=k07.tk hx _ _ pC
   !Jr:=kx _ _ (k07.tk hx _ _ pC) (λz=>by rw[z,Dx]at qU;cases qU)
   @⟨H6,s6,g6,zz⟩:=aK hp (.tup [.int (i:Nat),.ref pb])
   rw[zz];clear zz
   #aJ U (dY.of g6) ⟨U,_,af U ⟨_,af U ?_⟩⟩
   #nJ (s6 _ _ Jr) ?_
   #⟨U,?_⟩
   !k6:Kp cd H7 H6:=kx.same s6
   !x6:=k6 _ _ x7 G3
   #af U ?_
   #bJ x6 cl (na _ (by left)) rH ?_
   #bu U ⟨_,aB.of (k6 _ _ Bn (nl7 Bn))⟩ (λl hl=>?_)
   @⟨C1,xb,xj,lw,as,c1,n1,Uq,JK,De,Di⟩:=jm
   !G2:sm≠cd:=λz=>by rw[z,Dx]at Uq;cases Uq
   !Jg:=Paired.length Di
   #aV (xs:=(aem (nR b1 b2)).map λi:Nat=>V.int i) (λj Hy=>ak H6 Hy/\Hy l=S (.lst ((wQ b1 b2 "mine" b.1).take j))) ⟨ah hl _,by rw[afQ];#ae⟩ (λj Hy v z=>aB.of (z.1 _ _ (k6 _ _ Bn (nl7 Bn)))) (λj xv Hy hj z=>?_) (λHy z=>?_)
   . @⟨sy,hly⟩:=z
     @⟨j',DX,rfl⟩:=aX hj
     !hjn:j<nR b1 b2:=by !:=(aH DX);rwa[aeJ]at this
     !ej:j'=j:=by rw[ae9 hjn]at DX;#(aej DX).symm
     subst ej
     !w2:0<(av b2)~:=afG λz=>by unfold nR at hjn;rw[z,agK]at hjn;#aw hjn (ae8 _)
     !hix:j'/(av b2)~<(av b1)~:=af0 (by rw[agh];#hjn)
     obtain⟨a,ha,jV⟩ : ∃a,as[j'/(av b2)~]?=S a/\hW (as.map V.ref) ((j'/(av b2)~:Nat):Int)=S (.ref a):=by
       !h1:j'/(av b2)~<as~:=by rw[Jg];#hix
       #⟨as[j'/(av b2)~],ad3 h1,bL (by rw[aei,ad3 h1];rfl)⟩
     @⟨r,dO,vz⟩:=Paired.get Di ha
     !Ad:r~=b1~:=by !:=ee _ _ (ad4 dO);rwa[ad1]at this
     !GF:i<b1~:=(aH ik)
     !N9:r[i]?=S (r[i]'(by lia)):=ad3 _
     !val:dt b1 b2 j' "mine" b.1=r[i]'(by lia):=by
       unfold dt
       rw[gG dO]
       change(if _ then _ else _)=_
       rw[aR rfl]
       #jo nd1 ik N9
     !ky:Kp cd H7 Hy:=k6.same sy
     !xy:=ky _ _ x7 G3
     #aS ?_
     #bQ (A:=λH3=>cB _ l _ H3 _) ?_
     #af U ?_
     #bJ xy cl (na _ (by left)) Al ?_
     #⟨sm,C1,xb,xj,af U ⟨ky _ _ Uq G2,c1,n1,JK,af U (af U ?_)⟩⟩
     #bJ xy cl (na _ (by left)) uV ?_
     #aJ U U ⟨⟨by lia,ahf (show((av b2)~:Int)<901 by lia) (by right)⟩,?_⟩
     #bY (ky _ _ De (nl7 De)) jV ?_
     #af U ?_
     #bY (ky _ _ vz (nl7 vz)) (bL (by rw[aei,N9];rfl)) ?_
     #⟨_,hly,oF (by rw[aea];lia),aF (Pv:=λj Hy=>ak H6 Hy/\Hy l=S (.lst ((wQ b1 b2 "mine" b.1).take j))) (by repeat' constructor) (by rw[ad1,aeJ];#hjn) ⟨aE sy hl,?_⟩⟩
     rw[ae,aec]
     congr 3
     rw[aei,ae9 hjn]
     change[V.int _]=[V.int _]
     rw[val]
   @⟨sy,hly⟩:=z
   rw[aeE (by rw[ad1,ad1];#ad5 _)]at hly
   !ky:Kp cd H7 Hy:=k6.same sy
   #af U ?_
   #bJ (ky _ _ x7 G3) cl (na _ (by left)) qF ?_
   #bu U akA (λkp DY=>?_)
   !sk:ak Hy (upd Hy kp (.tup [.str "mine",.str b.1])):=ah DY _
   !zQ:=sy _ _ (s6 _ _ hcd)
   #⟨cd,af U ⟨ir.t (k:=[.inr "mine",.inr b.1]) (kvs:=kvs) (sk _ _ zQ) ae (oF (by lia)),⟨_,_,_,U⟩,(ky.same sk).self,_,ae,by !:=jN kvs ([.inr "mine",.inr b.1]:O Key) (.ref l);lia,cok.put (λc xs e=>?_) ?_ λt y=>?_⟩⟩
   . rw[aj (eJ e hcd (λz=>nomatch z))]
     #sk _ _ (sy _ _ (s6 _ _ e))
   . rw[aj (eJ (sk _ _ hly) (sk _ _ zQ) (λz=>nomatch z))]
     #sk _ _ hly
   . rw[aec,ik,aeb,ahz]
     change t="mine"/\(y∈(b1.take i).map (·.1)\/y∈[b.1])↔_
     rw[ag6]
     #and_or_left
 @⟨⟨o3,o4,o5,rfl⟩,kx,kvs,hcd,Jl,cok⟩:=z
 rw[X0,aed]at cok
 #kR _ _ ?_
 !LI:iY b1 b2 Hx kvs (λt y=>(t="mine"/\y∈b1.map (·.1))\/(t="yours"/\y∈(b2.take 0).map (·.1))):=λt y=>⟨λh=>by
   rcases h with h|⟨_,h⟩
   . #(cok t y).1 h
   . simp at h,λh=>.inl ((cok t y).2 h)⟩
 #af U ?_
 #aW (kx _ _ (k07.tk hx _ _ cy) (nt7 (k07.tk hx _ _ cy))) U ?_
 #bu U ⟨_,aB.of (kx _ _ Qv (nl7 Qv))⟩ ?_
 #qM (xs:=Qn) (λi σ Hx=>(∃o3 o4 o5,σ=[S (.ref x),S (.ref p1),S (.ref p2),o3,o4,o5])/\Kp cd H7 Hx/\∃kvs,Hx cd=S (.dT kvs)/\kvs~<=F9.length+i/\iY b1 b2 Hx kvs (λt y=>(t="mine"/\y∈b1.map (·.1))\/(t="yours"/\y∈(b2.take i).map (·.1)))) ⟨⟨_,_,_,U⟩,kx,kvs,hcd,Jl,LI⟩ (λi σ Hx v z=>aB.of (z.2.1 _ _ Qv (nl7 Qv))) (λi xv p σ Hx JB z hp=>?_) (λσ Hx z=>?_)
 . @⟨⟨o3,o4,o5,rfl⟩,kx,kvs,hcd,Jl,cok⟩:=z
   @⟨b,ik,pb,rfl,pC⟩:=Paired.get OT JB
   !du:i<Qn.length:=(aH JB)
   !qU:=k07.tk hx _ _ pC
   !Jr:=kx _ _ (k07.tk hx _ _ pC) (λz=>by rw[z,Dx]at qU;cases qU)
   @⟨H6,s6,g6,zz⟩:=aK hp (.tup [.int (i:Nat),.ref pb])
   rw[zz];clear zz
   #aJ U (dY.of g6) ⟨U,_,af U ⟨_,af U ?_⟩⟩
   #nJ (s6 _ _ Jr) ?_
   #⟨U,?_⟩
   !k6:Kp cd H7 H6:=kx.same s6
   !x6:=k6 _ _ x7 G3
   #af U ?_
   #bJ x6 cl (na _ (by left)) rH ?_
   #bu U ⟨_,aB.of (k6 _ _ Bn (nl7 Bn))⟩ (λl hl=>?_)
   @⟨C1,xb,xj,lw,as,c1,n1,Jt,JK,De,Di⟩:=lF
   !U7:sq≠cd:=λz=>by rw[z,Dx]at Jt;cases Jt
   !Jg:=Paired.length Di
   #aV (xs:=(aem (nR b1 b2)).map λi:Nat=>V.int i) (λj Hy=>ak H6 Hy/\Hy l=S (.lst ((wQ b1 b2 "yours" b.1).take j))) ⟨ah hl _,by rw[afQ];#ae⟩ (λj Hy v z=>aB.of (z.1 _ _ (k6 _ _ Bn (nl7 Bn)))) (λj xv Hy hj z=>?_) (λHy z=>?_)
   . @⟨sy,hly⟩:=z
     @⟨j',DX,rfl⟩:=aX hj
     !hjn:j<nR b1 b2:=by !:=(aH DX);rwa[aeJ]at this
     !ej:j'=j:=by rw[ae9 hjn]at DX;#(aej DX).symm
     subst ej
     !w2:0<(av b2)~:=afG λz=>by unfold nR at hjn;rw[z,agK]at hjn;#aw hjn (ae8 _)
     !hix:j'%(av b2)~<(av b2)~:=ahT _ w2
     obtain⟨a,ha,jV⟩ : ∃a,as[j'%(av b2)~]?=S a/\hW (as.map V.ref) ((j'%(av b2)~:Nat):Int)=S (.ref a):=by
       !h1:j'%(av b2)~<as~:=by rw[Jg];#hix
       #⟨as[j'%(av b2)~],ad3 h1,bL (by rw[aei,ad3 h1];rfl)⟩
     @⟨r,dO,vz⟩:=Paired.get Di ha
     !Ad:r~=b2~:=by !:=ee _ _ (ad4 dO);rwa[ad1]at this
     !GF:i<b2~:=(aH ik)
     !N9:r[i]?=S (r[i]'(by lia)):=ad3 _
     !val:dt b1 b2 j' "yours" b.1=r[i]'(by lia):=by
       unfold dt
       rw[gG dO]
       change(if _ then _ else _)=_
       rw[aM (by left)]
       #jo dI ik N9
     !ky:Kp cd H7 Hy:=k6.same sy
     !xy:=ky _ _ x7 G3
     #aS ?_
     #bQ (A:=λH3=>cB _ l _ H3 _) ?_
     #af U ?_
     #bJ xy cl (na _ (by left)) uX ?_
     #⟨sq,C1,xb,xj,af U ⟨ky _ _ Jt U7,c1,n1,JK,af U (af U ?_)⟩⟩
     #bJ xy cl (na _ (by left)) uV ?_
     #aJ U U ⟨(by lia),?_⟩
     #bY (ky _ _ De (nl7 De)) jV ?_
     #af U ?_
     #bY (ky _ _ vz (nl7 vz)) (bL (by rw[aei,N9];rfl)) ?_
     #⟨_,hly,oF (by rw[aea];lia),aF (Pv:=λj Hy=>ak H6 Hy/\Hy l=S (.lst ((wQ b1 b2 "yours" b.1).take j))) (by repeat' constructor) (by rw[ad1,aeJ];#hjn) ⟨aE sy hl,?_⟩⟩
     rw[ae,aec]
     congr 3
     rw[aei,ae9 hjn]
     change[V.int _]=[V.int _]
     rw[val]
   @⟨sy,hly⟩:=z
   rw[aeE (by rw[ad1,ad1];#ad5 _)]at hly
   !ky:Kp cd H7 Hy:=k6.same sy
   #af U ?_
   #bJ (ky _ _ x7 G3) cl (na _ (by left)) qF ?_
   #bu U akA (λkp DY=>?_)
   !sk:ak Hy (upd Hy kp (.tup [.str "yours",.str b.1])):=ah DY _
   !zQ:=sy _ _ (s6 _ _ hcd)
   #⟨cd,af U ⟨ir.t (k:=[.inr "yours",.inr b.1]) (kvs:=kvs) (sk _ _ zQ) ae (oF (by lia)),⟨_,_,_,U⟩,(ky.same sk).self,_,ae,by !:=jN kvs ([.inr "yours",.inr b.1]:O Key) (.ref l);lia,cok.put (λc xs e=>?_) ?_ λt y=>?_⟩⟩
   . rw[aj (eJ e hcd (λz=>nomatch z))]
     #sk _ _ (sy _ _ (s6 _ _ e))
   . rw[aj (eJ (sk _ _ hly) (sk _ _ zQ) (λz=>nomatch z))]
     #sk _ _ hly
   . rw[aec,ik,aeb,ahz]
     change(t="mine"/\y∈b1.map (·.1))\/(t="yours"/\(y∈(b2.take i).map (·.1)\/y∈[b.1]))↔_
     rw[ag6,and_or_left]
     #or_assoc.symm
 @⟨⟨o3,o4,o5,rfl⟩,kz,UK,S4,_,M8⟩:=z
 rw[X1,aed]at M8
 @⟨C2,R9,Si,W3,RU,c2,n2,Ed,JL,D5,KG⟩:=id lF
 @⟨C3,Sa,Sj,W4,RV,c3,n3,Ec,JM,D6,KH⟩:=id jm
 !ni:∀{b C' d':J} {fs:O (Str×V)},H7 b=S (.ins C' d' fs)->b≠cd:=λe z=>by rw[z,Dx]at e;cases e
 !k4z:Kp x H4 _:=λb o e nb=>kz _ _ (k47 _ _ e nb) λz=>by rw[z,YM]at e;cases e
 !nk:∀{b:J} {kvs:O (Key×V)},H4 b=S (.dK kvs)->b≠x:=λe z=>by rw[z,Qp]at e;cases e
 !nT:∀b (kvs:O (O Key×V)),H4 b=S (.dT kvs)->b≠x:=λv v e z=>by rw[z,Qp]at e;cases e
 #q _ ⟨r9,Iw,mY,LP⟩ (λb o e nb=>kz _ _ (k07 _ _ e nb) λz=>?_) ⟨cl,cs.na,dx,f5,sm,sq,rl,cd,UK,kz _ _ x7 G3,Al,uX,uV,rH,qF,⟨C3,Sa,Sj,W4,RV,c3,n3,kz _ _ Ec (ni Ec),JM,kz _ _ D6 (nl7 D6),Paired.aP KH λv v z=>kz _ _ z (nl7 z)⟩,⟨C2,R9,Si,W3,RU,c2,n2,kz _ _ Ed (ni Ed),JL,kz _ _ D5 (nl7 D5),Paired.aP KG λv v z=>kz _ _ z (nl7 z)⟩,kz _ _ Bn (nl7 Bn),S4,M8,λf hf=>?_⟩ ⟨dx,f5,sm,sq,kz _ _ x7 G3,Al,uX,MN.m.keep k4z G2 nT,MO.m.keep k4z OE nT⟩ YO ⟨Zd,Mc,GA,Ze⟩ (k4z _ _ MN.s (nk MN.s)) (k4z _ _ MN.y (nk MN.y)) (k4z _ _ MO.s (nk MO.s)) (k4z _ _ MO.y (nk MO.y))
 . rw[z,YL]at e;cases e
 . rw[q5 _ (λz=>hf (by rw[z];simp)),q4 _ (λz=>hf (by rw[z];simp)),q3 _ (λz=>hf (by rw[z];simp)),q2 _ (λz=>hf (by rw[z];simp)),q1 _ (λz=>hf (by rw[z];simp))]
   rfl
abbrev yp:Stmt:=top 36
abbrev Bs:Stmt:=top 37
abbrev Lw:Stmt:=top 38
abbrev cD (rows:O Nat):O V:=rows.map λr:Nat=>V.int r
def Ao (rows:O Nat):cD rows=(rows.map λr:Nat=>(r:Int)).map V.int:=by rw[ae0];rfl
def rQ:Sp:=λvs H Q z=>∃(a b:J) (rows taken:O Nat),vs=[.ref a,.ref b]/\H a=S (.lst (cD rows))/\H b=S (.lst (cD taken))/\rows~<=3000/\taken~<=3000/\∀(l:J) (H':Hp),ak H H'->H l=Z->H' l=S (.lst (cD (rows.filter λr=>!taken.contains r)))->Q (.ref l) H'
def nX (ns:O Nat)(r:Nat):(ns.map λr:Nat=>(r:Int)).contains (r:Int)=ns.contains r:=by
 rw[afc,afU,afU]
 constructor
 . intro h
   @⟨x,hx,e⟩:=cO h
   rw[← agf e]
   #hx
 . #λh=>dD ⟨r,h,U⟩
def dG {α:Type}{p:α->Bool}{xs:O α}{i:Nat}{x:α}(h:xs[i]?=S x):(xs.take (i+1)).filter p=(xs.take i).filter p++(if p x=true then[x]else[]):=by
 rw[aec,h,List.filter_append]
 congr 1
 by_cases c:p x=true
 . rw[aR c];change List.filter p [x]=[x];rw[List.filter_cons,aR c];rfl
 . rw[aM c];change List.filter p [x]=[];rw[List.filter_cons,aM c];rfl
def HW:aA ["rows","taken","gone"] ["rows","taken"] (ao Lw):=dX
def Kc {f:J}{fd:aef}(F:cF K "rows_without" "rows_without" Lw f fd)(m_set:mg "set"=Z):aL P w K mg base cm 1 f fd ["rows","taken"] rQ:=by
 #F.eO HW λcdv A outer s H vs Q E hr h=>?_
 @⟨a,b,rows,taken,rfl,ha,hb,hr9,ht9,q⟩:=h
 #f7 ⟨_,(aiz (aiL 2 HW.nd (ai2 L3.M4 U m_set (by right) (L (Y 1) M)))
   (aiA (aiF (aiY [Z,S 2] ["row","gone"] (ij Lw) U (aiW (Y 0)) (λy y y y y=>⟨(aiC 0 (dW ["row","gone"])),(L3.if1 (aiK L3.AJ (Y 0) (Y 1) U)),(Y 0)⟩))))),?_⟩
 #af U ⟨b,af U ⟨(show aB K H b ((taken.map λr:Nat=>(r:Int)).map V.int)from aB.of (by rw[← Ao];#hb)),by rw[ad1];lia,λz n hz=>?_⟩⟩
 @⟨H1,s1,g1,zz⟩:=aK hz (.set (λk=>(taken.map λr:Nat=>(r:Int)).contains k) n)
 rw[zz];clear zz
 #af U (bu U ⟨_,aB.of (s1 _ _ ha)⟩ (λl hl=>?_))
 #aV (xs:=cD rows) (λi Hy=>ak H1 Hy/\Hy l=S (.lst (cD ((rows.take i).filter λr=>!taken.contains r)))) ⟨ah hl _,ae⟩ (λi Hy y w=>aB.of (w.1 _ _ (s1 _ _ ha))) (λi x Hy hx w=>?_) (λHy w=>?_)
 . @⟨sy,hly⟩:=w
   @⟨r,dO,rfl⟩:=aX hx
   !du:i<(cD rows)~:=(aH hx)
   !WA:((rows.take i).filter λr=>!taken.contains r)~<=3000:=aeg (aeQ _ _) (by rw[aea];lia)
   #aS ?_
   #af U (af U ⟨_,z,_,n,U,U,sy _ _ g1,af U ?_⟩)
   #aC (λc=>?_) (λc=>?_)
   . !c':(!taken.contains r)=true:=by rw[← nX];#c
     #af U ⟨_,hly,oF (by rw[ad1];lia),aF (Pv:=λi Hy=>ak H1 Hy/\Hy l=S (.lst (cD ((rows.take i).filter λr=>!taken.contains r)))) (by repeat' constructor) du ⟨aE sy hl,?_⟩⟩
     rw[ae,dG dO,aR c']
     change _=S (HO.lst (List.map _ _))
     rw[aeb]
     rfl
   . !c':¬ (!taken.contains r)=true:=by rw[← nX];#c
     #aF (Pv:=λi Hy=>ak H1 Hy/\Hy l=S (.lst (cD ((rows.take i).filter λr=>!taken.contains r)))) (by repeat' constructor) du ⟨sy,?_⟩
     rw[dG dO,aM c',aeK]
     #hly
 @⟨sy,hly⟩:=w
 rw[ad1,aed]at hly
 #q l Hy (aa s1 sy) (aq s1 hl) hly
structure qr (K:ad2)(C:J)(H:Hp)(g rl:J)(b1 b2:ag)(rows:O Nat):Prop where
 gr:oP K C H g b1 b2
 hr:H rl=S (.lst (cD rows))
 lt:∀r∈rows,r<nR b1 b2
 fI:rows~<=3000
def qr.same {K:ad2}{C:J}{H H':Hp}{g rl:J}{b1 b2:ag}{rows:O Nat}(h:qr K C H g rl b1 b2 rows)(s:ak H H'):qr K C H' g rl b1 b2 rows:=⟨h.gr.same s,s _ _ h.hr,h.lt,h.fI⟩
def i9 (K:ad2)(C:J)(n:Nat):Sp:=λvs H Q z=>∃(g rl:J) (v:V) (e:E) (rows:O Nat) (b1 b2:ag),vs=[.ref g,.ref rl,v]/\qr K C H g rl b1 b2 rows/\dP H v e/\e.i5/\e.okIn (qB b1 b2)/\e.dep<n /\
 ∀(l:J) (H':Hp),ak H H'->H l=Z->H' l=S (.lst (rows.map λr:Nat=>V.int (e.worth (dt b1 b2 r))))->Q (.ref l) H'
def FL (rows:O Nat)(v:V):(aev rows~ [v]).flatten=rows.map λz=>v:=by
 induction rows with
 | nil=>rfl
 | cons a r ih=>rw[aet,afm,afL,ih];rfl
def Iz {K K1:ad2}{l1 l2 l:J}{σ:L2.St}{Z8:Hp->Prop}{H3:Hp}(op:Int->Int->Int){u v:Nat->Int}{rows:O Nat}(fI:rows~<=3000)(g1:H3 l1=S (.lst (rows.map λr:Nat=>V.int (u r))))(g2:H3 l2=S (.lst (rows.map λr:Nat=>V.int (v r))))(hl:H3 l=Z)(q:∀Hy,ak H3 Hy->Hy l=S (.lst (rows.map λr:Nat=>V.int (op (u r) (v r))))->Z8 Hy):hU (IC K1 l1 l2) (capσ [Z,Z] σ) (xl K 2 (gZ (dH 0) (gZ (dH 1) xk))) F7 (cB (Dl (ym λi j=>V.int (op i j)) (qg 0) (qg 1)) l) Z8 (upd H3 l (.lst [])):=by
 #jv (xs:=rows.map λr:Nat=>V.int (u r)) (ys:=rows.map λr:Nat=>V.int (v r)) (by rw[ad1,ad1]) (λi Hy=>ak H3 Hy/\Hy l=S (.lst ((rows.take i).map λr:Nat=>V.int (op (u r) (v r))))) ⟨ah hl _,ae⟩ (λi Hy w z=>⟨aB.of (z.1 _ _ g1),aB.of (z.1 _ _ g2)⟩) (λi x y pr Hy hx hy z yN=>?_) (λHy z=>?_)
 . @⟨sy,hly⟩:=z
   @⟨r,dO,rfl⟩:=aX hx
   @⟨r2,vC,rfl⟩:=aX hy
   !er:r2=r:=by rw[dO]at vC;#(aej vC).symm
   subst er
   !du:i<(rows.map λr:Nat=>V.int (u r))~:=(aH hx)
   @⟨Hz,sp,gp,zz⟩:=aK yN (.tup [.int (u r2),.int (v r2)])
   rw[zz];clear zz
   #nJ gp ?_
   #bQ (A:=λH3=>cB _ l _ H3 _) ?_
   #af U (af U (aJ U U ⟨_,sp _ _ hly,oF (by rw[ad1,aea];lia),aF (Pv:=λi Hy=>ak H3 Hy/\Hy l=S (.lst ((rows.take i).map λr:Nat=>V.int (op (u r) (v r))))) (by repeat' constructor) du ⟨aE (aa sy sp) hl,?_⟩⟩))
   rw[ae,aec,dO,aeb]
   rfl
 @⟨sy,hly⟩:=z
 rw[ad1,aed]at hly
 #q Hy sy hly
def BJ:aA ["ground","rows","sum_told","column","first","second"] ["ground","rows","sum_told"] (ao yp):=dX
def Ki {C:J}{n:Nat}{f:J}{fd:aef}(F:cF K "worths_along" "worths_along" yp f fd)(m_len:mg "len"=Z)(m_zip:mg "zip"=Z)(G:bI P w K mg base "worths_along" ["ground","rows","sum_told"] (n+1) (i9 K C n)):aL P w K mg base cm (n+2) f fd ["ground","rows","sum_told"] (i9 K C (n+1)):=by
 #F.eO BJ λcdv A outer s H vs Q E hr h=>?_
 @⟨g,rl,v,e,rows,b1,b2,rfl,al,ev,es,ok,hd,q⟩:=h
 #f7 ⟨_,(aiz (aiM (aiK aiR (aiy aiE (Y 2) aix) aiD) (aiA (aiF (aiB L3.G5 (aiO (L (aiy aiE (Y 2) aix) M)) (aiS aiX U m_len aeo (L (Y 1) M))))) aiN)
   (aiz (aiM (aiK L3.pO (aiy aiE (Y 2) aix) (aiG (L aiD (L aiD M))) U) (aiz (aiL 3 BJ.nd (ajc (bj hr _ (by left)) (aiP (Y 0)) (Y 2)))
   (aiA (aiF (aiY [Z,S 3] ["row","column"] (ij yp) U (aiW (Y 1)) (λu u u u u=>⟨(aiC 0 (dW ["row","column"])),aiV,(aiy aiH (Y 1) (Y 0))⟩))))) aiN)
   (aiz (L3.KD 4 5 BJ.nd (L (aiJ G hr U (L (Y 0) (L (Y 1) (L (aiy aiE (Y 2) aix) M)))) (L (aiJ G hr U (L (Y 0) (L (Y 1) (L (aiy aiE (Y 2) aix) M)))) M)))
   (aiz (aiM (aiK aiR (aiy aiE (Y 2) aix) aiD) (aiA (aiF (aiY [Z,Z] ["x","y"] (ij yp) U (ajp U m_zip (L (Y 4) (L (Y 5) M))) (λu u u u u=>⟨(aiT 2 (aiI (aiC 0 (dW ["x","y"])) (aiI (aiC 1 (dW ["x","y"])) aiU))),aiV,(aiB aiZ (Y 0) (Y 1))⟩)))) aiN)
   (aiA (aiF (aiY [Z,Z] ["x","y"] (ij yp) U (ajp U m_zip (L (Y 4) (L (Y 5) M))) (λu u u u u=>⟨(aiT 2 (aiI (aiC 0 (dW ["x","y"])) (aiI (aiC 1 (dW ["x","y"])) aiU))),aiV,(aiB ajm (Y 0) (Y 1))⟩)))))))),?_⟩
 cases e with
 | num m=>
   @⟨p,rfl,hp⟩:=ev
   #af U ?_
   #aW hp U ?_
   #bB U U ?_
   #aC (λu=>?_) (λc=>aw (ed rfl) c)
   #af U ?_
   #aW hp U ?_
   #⟨akz,λl hl=>?_⟩
   !s1:=ah hl (.lst [.int m])
   !g1:(upd H l (.lst [.int m])) l=S (.lst [.int m]):=ae
   generalize upd H l (.lst [.int m])=H1 at s1 g1 ⊢
   !fI:=al.fI
   #af U (aJ U (.inl (aB.of (s1 _ _ al.hr))) ⟨l,((cD rows)~:Int),af U ⟨U,g1,by rw[ad1];lia,by rw[ad1];lia,?_,λk hk=>q k _ (aa s1 (ah hk _)) (aq s1 hk) ?_⟩⟩)
   . rw[ad1]
     #aeg (show _<=3000 by change 1*rows~<=3000;lia) (by left)
   . rw[ae,ad1,aes,FL]
     rfl
 | box tg x=>
   @⟨p,rfl,hp⟩:=ev
   !ht:tg="mine"\/tg="yours":=(show qB b1 b2 tg x from ok).imp And.left And.left
   @⟨dx,fs,m0,y0,Pl,cd,kvs,hx,_,_,_,_,qF,_,_,_,hcd,cok,_⟩:=al.gr.ex
   @⟨col,hv,hcol⟩:=(cok tg x).1 ok
   #af U ?_
   #aW hp U ?_
   #bB U U ?_
   #aC (λc=>?_) (λu=>?_)
   . !:=cU c
     injection this with z
     subst z
     #aw ht (by left)
   #af U ?_
   #aW hp U ?_
   #⟨akA,λtt mm=>(aJ U (.inr (dY.of ae)) ⟨U,bB U U ?_⟩)⟩
   !s1:=ah mm (.tup [.str "plus",.str "less"])
   generalize upd H tt (.tup [.str "plus",.str "less"])=H1 at s1 ⊢
   #aC (λu=>?_) (λc=>aw (by rcases ht with rfl|rfl<;>rfl) c)
   !kS:=s1 _ _ hx
   !gd:=dv.t (k:=[.inr tg,.inr x]) (s1 _ _ hcd) (s1 _ _ hp)
   rw[hv]at gd
   #af U ?_
   #bJ kS al.gr.cl (al.gr.na.get (by left)) qF ?_
   #af U ⟨cd,af U ⟨gd,?_⟩⟩
   #aS ?_
   #af U (bu U ⟨_,aB.of (s1 _ _ al.hr)⟩ (λl hl=>?_))
   !fI:=al.fI
   #aV (xs:=cD rows) (λi Hy=>ak H1 Hy/\Hy l=S (.lst ((rows.take i).map λr:Nat=>V.int (dt b1 b2 r tg x)))) ⟨ah hl _,ae⟩ (λi Hy u z=>aB.of (z.1 _ _ (s1 _ _ al.hr))) (λi w Hy hw z=>?_) (λHy z=>?_)
   . @⟨sy,hly⟩:=z
     @⟨r,dO,rfl⟩:=aX hw
     !du:i<(cD rows)~:=(aH hw)
     !fS:=al.lt r (ad4 dO)
     #aS ?_
     #bQ (A:=λH3=>cB _ l _ H3 _) ?_
     #af U (af U ?_)
     #bY (sy _ _ (s1 _ _ hcol)) (bL (by rw[aei,ae9 fS];rfl)) ?_
     #⟨_,hly,oF (by rw[ad1,aea];lia),aF (Pv:=λi Hy=>ak H1 Hy/\Hy l=S (.lst ((rows.take i).map λr:Nat=>V.int (dt b1 b2 r tg x)))) (by repeat' constructor) du ⟨aE sy hl,?_⟩⟩
     rw[ae,aec,dO,aeb]
     rfl
   @⟨sy,hly⟩:=z
   rw[ad1,aed]at hly
   #q l Hy (aa s1 sy) (aq s1 hl) hly
 | yes=>#es.elim
 | nt a=>#es.elim
 | two k ea eb=>
   @⟨x,y,⟨p,rfl,hp⟩,ax,ay⟩:=ev
   !qQ:max ea.dep eb.dep+1<n+1:=hd
   cases k with
   | plus=>
     #af U ?_
     #aW hp U ?_
     #bB U U ?_
     #aC (λc=>aw (cU c) (by left)) (λu=>?_)
     #af U ?_
     #aW hp U ?_
     #⟨akA,λtt mm=>(aJ U (.inr (dY.of ae)) ⟨U,bB U U ?_⟩)⟩
     !s1:=ah mm (.tup [.str "plus",.str "less"])
     generalize upd H tt (.tup [.str "plus",.str "less"])=H1 at s1 ⊢
     #aC (λc=>aw c (show ¬ (false=true)by left)) (λu=>?_)
     #af U (af U (af U ?_))
     #aW (s1 _ _ hp) U ?_
     #⟨g,rl,x,ea,rows,b1,b2,U,al.same s1,ax.keep (ak.tk s1),es.1,ok.1,by lia,λl1 H2 s2 u g1=>?_⟩
     !s12:=aa s1 s2
     #af U (af U (af U ?_))
     #aW (s12 _ _ hp) U ?_
     #⟨g,rl,y,eb,rows,b1,b2,U,al.same s12,ay.keep (ak.tk s12),es.2,ok.2,by lia,λl2 H3 s3 u g2=>⟨_,af U ?_⟩⟩
     #af U ?_
     #aW (s3 _ _ (s12 _ _ hp)) U ?_
     #bB U U ?_
     #aC (λu=>?_) (λc=>aw (ed rfl) c)
     #af U (af U ⟨l1,bu U ⟨_,aB.of (s3 _ _ g1)⟩ ⟨⟨_,aB.of g2⟩,λl hl=>Iz (λi j=>i+j) al.fI (s3 _ _ g1) g2 hl λHy sy hly=>q l Hy (aa s1 (aa s2 (aa s3 sy))) (aq s1 (aq s2 (aq s3 hl))) hly⟩⟩)
   | less=>
     #af U ?_
     #aW hp U ?_
     #bB U U ?_
     #aC (λc=>aw (cU c) (by left)) (λu=>?_)
     #af U ?_
     #aW hp U ?_
     #⟨akA,λtt mm=>(aJ U (.inr (dY.of ae)) ⟨U,bB U U ?_⟩)⟩
     !s1:=ah mm (.tup [.str "plus",.str "less"])
     generalize upd H tt (.tup [.str "plus",.str "less"])=H1 at s1 ⊢
     #aC (λc=>aw c (show ¬ (false=true)by left)) (λu=>?_)
     #af U (af U (af U ?_))
     #aW (s1 _ _ hp) U ?_
     #⟨g,rl,x,ea,rows,b1,b2,U,al.same s1,ax.keep (ak.tk s1),es.1,ok.1,by lia,λl1 H2 s2 u g1=>?_⟩
     !s12:=aa s1 s2
     #af U (af U (af U ?_))
     #aW (s12 _ _ hp) U ?_
     #⟨g,rl,y,eb,rows,b1,b2,U,al.same s12,ay.keep (ak.tk s12),es.2,ok.2,by lia,λl2 H3 s3 u g2=>⟨_,af U ?_⟩⟩
     #af U ?_
     #aW (s3 _ _ (s12 _ _ hp)) U ?_
     #bB U U ?_
     #aC (λc=>aw (cU c) (by left)) (λu=>?_)
     #af U (af U ⟨l1,bu U ⟨_,aB.of (s3 _ _ g1)⟩ ⟨⟨_,aB.of g2⟩,λl hl=>Iz (λi j=>i-j) al.fI (s3 _ _ g1) g2 hl λHy sy hly=>q l Hy (aa s1 (aa s2 (aa s3 sy))) (aq s1 (aq s2 (aq s3 hl))) hly⟩⟩)
   | same=>#es.elim
   | under=>#es.elim
   | both=>#es.elim
def Ay {C:J}{f:J}{fd:aef}:aL P w K mg base cm 1 f fd ["ground","rows","sum_told"] (i9 K C 0):=by
 !no:∀vs H Q E,¬ i9 K C 0 vs H Q E:=λvs H Q E h=>by
   @⟨_,_,_,_,_,_,_,_,_,_,_,_,h1,_⟩:=h
   lia
 #⟨λvs H Q E h=>aw h (no vs H Q E),λA outer s H args us vs Q E z z z z h=>aw h (no vs H Q E)⟩
def DU {C:J}(s:Src K mg "worths_along" yp)(m_len:mg "len"=Z)(m_zip:mg "zip"=Z):∀n:Nat,bI P w K mg base "worths_along" ["ground","rows","sum_told"] (n+1) (i9 K C n):=by
 @⟨f,fd,F,m⟩:=s
 !b:Binds K fd ["ground","rows","sum_told"] []:=sR F λz z z z z z z z z=>rfl
 intro n
 !all:aL P w K mg base cm (n+1) f fd ["ground","rows","sum_told"] (i9 K C n):=by
   induction n with
   | zero=>#Ay
   | succ n ih=>#Ki F m_len m_zip ⟨f,fd,ih,F.kp,b,m⟩
 #⟨f,fd,all,F.kp,b,m⟩
abbrev D4 (b1 b2:ag)(e:E)(r:Nat):Bool:=e.holds (dt b1 b2 r)
def mL (K:ad2)(C:J)(n:Nat):Sp:=λvs H Q z=>∃(g rl:J) (v:V) (e:E) (rows:O Nat) (b1 b2:ag),vs=[.ref g,.ref rl,v]/\qr K C H g rl b1 b2 rows/\dP H v e/\e.kX/\e.okIn (qB b1 b2)/\e.dep<n /\
 ∀(l:J) (H':Hp),ak H H'->(l=rl\/H l=Z)->H' l=S (.lst (cD (rows.filter (D4 b1 b2 e))))->Q (.ref l) H'
def me (rows:O Nat)(p:Nat->Bool):(rows.filter λr=>!(rows.filter p).contains r)=rows.filter λr=>!p r:=by
 apply agq
 intro r hr
 congr 1
 rw[afc,afU,ahy]
 #⟨λh=>h.2,λh=>⟨hr,h⟩⟩
def Gw {K K1:ad2}{rl l1 l2 l:J}{σ:L2.St}{Z8:Hp->Prop}{H3:Hp}{R:V->V->Hp->VK->Prop}(t:Int->Int->Bool)(hR:∀(i j:Int) (H:Hp) (Q:VK),Q (.bl (t i j)) H->R (.int i) (.int j) H Q){u v:Nat->Int}{rows:O Nat}(fI:rows~<=3000)(g0:H3 rl=S (.lst (cD rows)))(g1:H3 l1=S (.lst (rows.map λr:Nat=>V.int (u r))))(g2:H3 l2=S (.lst (rows.map λr:Nat=>V.int (v r))))(hl:H3 l=Z)(q:∀Hy,ak H3 Hy->Hy l=S (.lst (cD (rows.filter λr=>t (u r) (v r))))->Z8 Hy):hU (sH K1 rl l1 l2) (capσ [Z,Z,Z] σ) (xl K 3 (gZ (dH 0) (gZ (dH 1) (gZ (dH 2) xk)))) (Cu (Dl R (qg 1) (qg 2))) (cB (qg 0) l) Z8 (upd H3 l (.lst [])):=by
 #wW (xs:=cD rows) (ys:=rows.map λr:Nat=>V.int (u r)) (zs:=rows.map λr:Nat=>V.int (v r)) (by rw[ad1,ad1]) (by rw[ad1,ad1]) (λi Hy=>ak H3 Hy/\Hy l=S (.lst (cD ((rows.take i).filter λr=>t (u r) (v r))))) ⟨ah hl _,ae⟩ (λi Hy s z=>⟨aB.of (z.1 _ _ g0),aB.of (z.1 _ _ g1),aB.of (z.1 _ _ g2)⟩) (λi x y w pr Hy hx hy hu z yN=>?_) (λHy z=>?_)
 . @⟨sy,hly⟩:=z
   @⟨r,dO,rfl⟩:=aX hx
   @⟨r2,vC,rfl⟩:=aX hy
   @⟨r3,WN,rfl⟩:=aX hu
   obtain rfl:r2=r:=by rw[dO]at vC;#(aej vC).symm
   obtain rfl:r3=r2:=by rw[dO]at WN;#(aej WN).symm
   !du:i<(cD rows)~:=(aH hx)
   @⟨Hz,sp,gp,zz⟩:=aK yN (.tup [.int (r3:Nat),.int (u r3),.int (v r3)])
   rw[zz];clear zz
   !WA:((rows.take i).filter λr=>t (u r) (v r))~<=3000:=aeg (aeQ _ _) (by rw[aea];lia)
   #LS gp ?_
   #af U (af U (hR _ _ _ _ (af U ?_)))
   #aC (λc=>?_) (λc=>?_)
   . #af U ⟨_,sp _ _ hly,oF (by rw[ad1];lia),aF (Pv:=λi Hy=>ak H3 Hy/\Hy l=S (.lst (cD ((rows.take i).filter λr=>t (u r) (v r))))) (by repeat' constructor) du ⟨aE (aa sy sp) hl,?_⟩⟩
     rw[ae,dG dO,aR c]
     change _=S (HO.lst (List.map _ _))
     rw[aeb]
     rfl
   . #aF (Pv:=λi Hy=>ak H3 Hy/\Hy l=S (.lst (cD ((rows.take i).filter λr=>t (u r) (v r))))) (by repeat' constructor) du ⟨aa sy sp,?_⟩
     rw[dG dO,aM c,aeK]
     #sp _ _ hly
 @⟨sy,hly⟩:=z
 rw[ad1,aed]at hly
 #q Hy sy hly
def HU:aA ["ground","rows","condition","first","second"] ["ground","rows","condition"] (ao Bs):=dX
def Kb {C:J}{n:Nat}{f:J}{fd:aef}(F:cF K "rows_where" "rows_where" Bs f fd)(m_zip:mg "zip"=Z)(WL0:∀n,bI P w K mg base "worths_along" ["ground","rows","sum_told"] (n+1) (i9 K C n))(RO0:bI P w K mg base "rows_without" ["rows","taken"] 1 rQ)(G:bI P w K mg base "rows_where" ["ground","rows","condition"] (n+1) (mL K C n)):aL P w K mg base cm (n+2) f fd ["ground","rows","condition"] (mL K C (n+1)):=by
 #F.eO HU λcdv A outer s H vs Q E hr h=>?_
 @⟨g,rl,v,e,rows,b1,b2,rfl,al,ev,es,ok,hd,q⟩:=h
 !WL:=(WL0 n).mono (show n+1<=n+1 from ad5 _)
 !RO:=RO0.mono (show 1<=n+1 by lia)
 #f7 ⟨_,(aiz (aiM (aiK aiR (aiy aiE (Y 2) aix) aiD) (aiA (aiF (Y 1))) aiN)
   (aiz (aiM (aiK aiR (aiy aiE (Y 2) aix) aiD) (aiA (aiF (aiJ RO hr U (L (Y 1) (L (aiJ G hr U (L (Y 0) (L (Y 1) (L (aiy aiE (Y 2) aix) M)))) M))))) aiN)
   (aiz (aiM (aiK aiR (aiy aiE (Y 2) aix) aiD) (aiA (aiF (aiJ G hr U (L (Y 0) (L (aiJ G hr U (L (Y 0) (L (Y 1) (L (aiy aiE (Y 2) aix) M)))) (L (aiy aiE (Y 2) aix) M)))))) aiN)
   (aiz (L3.KD 3 4 HU.nd (L (aiJ WL hr U (L (Y 0) (L (Y 1) (L (aiy aiE (Y 2) aix) M)))) (L (aiJ WL hr U (L (Y 0) (L (Y 1) (L (aiy aiE (Y 2) aix) M)))) M)))
   (aiz (aiM (aiK aiR (aiy aiE (Y 2) aix) aiD) (aiA (aiF (aiY [Z,Z,Z] ["row","x","y"] (ij Bs) U (L3.UE U m_zip (L (Y 1) (L (Y 3) (L (Y 4) M)))) (λu u u u u=>⟨(aiT 3 (aiI (aiC 0 (dW ["row","x","y"])) (aiI (aiC 1 (dW ["row","x","y"])) (aiI (aiC 2 (dW ["row","x","y"])) aiU)))),(L3.if1 (aiK aiR (Y 1) (Y 2))),(Y 0)⟩)))) aiN)
   (aiA (aiF (aiY [Z,Z,Z] ["row","x","y"] (ij Bs) U (L3.UE U m_zip (L (Y 1) (L (Y 3) (L (Y 4) M)))) (λu u u u u=>⟨(aiT 3 (aiI (aiC 0 (dW ["row","x","y"])) (aiI (aiC 1 (dW ["row","x","y"])) (aiI (aiC 2 (dW ["row","x","y"])) aiU)))),(L3.if1 (aiK ai9 (Y 1) (Y 2))),(Y 0)⟩))))))))),?_⟩
 cases e with
 | num m=>#es.elim
 | box tg x=>#es.elim
 | yes=>
   @⟨p,rfl,hp⟩:=ev
   #af U ?_
   #aW hp U ?_
   #bB U U ?_
   #aC (λu=>?_) (λc=>aw (ed rfl) c)
   #af U (q rl H (same_refl H) (.inl rfl) ?_)
   !e0:rows.filter (D4 b1 b2 .yes)=rows:=List.filter_eq_self.mpr λu u=>rfl
   rw[e0]
   #al.hr
 | nt a=>
   @⟨x,⟨p,rfl,hp⟩,ax⟩:=ev
   !qQ:a.dep+1<n+1:=hd
   #af U ?_
   #aW hp U ?_
   #bB U U ?_
   #aC (λc=>aw (cU c) (by left)) (λu=>?_)
   #af U ?_
   #aW hp U ?_
   #bB U U ?_
   #aC (λu=>?_) (λc=>aw (ed rfl) c)
   #af U (af U (af U (af U ?_)))
   #aW hp U ?_
   #⟨g,rl,x,a,rows,b1,b2,U,al,ax,es,ok,by lia,λl1 H1 s1 u g1=>?_⟩
   #⟨rl,l1,rows,af U ⟨s1 _ _ al.hr,g1,al.fI,aeg (aeQ _ _) al.fI,λl H2 s2 n2 g2=>?_⟩⟩
   #q l H2 (aa s1 s2) (.inr (aq s1 n2)) ?_
   rw[me]at g2
   #g2
 | two k ea eb=>
   @⟨x,y,⟨p,rfl,hp⟩,ax,ay⟩:=ev
   !qQ:max ea.dep eb.dep+1<n+1:=hd
   cases k with
   | plus=>#es.elim
   | less=>#es.elim
   | same=>
     #af U ?_
     #aW hp U ?_
     #bB U U ?_
     #aC (λc=>aw (cU c) (by left)) (λu=>?_)
     #af U ?_
     #aW hp U ?_
     #bB U U ?_
     #aC (λc=>aw (cU c) (by left)) (λu=>?_)
     #af U ?_
     #aW hp U ?_
     #bB U U ?_
     #aC (λc=>aw (cU c) (by left)) (λu=>?_)
     #af U (af U (af U ?_))
     #aW hp U ?_
     #⟨g,rl,x,ea,rows,b1,b2,U,al,ax,es.1,ok.1,by lia,λl1 H1 s1 u g1=>?_⟩
     #af U (af U (af U ?_))
     #aW (s1 _ _ hp) U ?_
     #⟨g,rl,y,eb,rows,b1,b2,U,al.same s1,ay.keep (ak.tk s1),es.2,ok.2,by lia,λl2 H2 s2 u g2=>⟨_,af U ?_⟩⟩
     !s12:=aa s1 s2
     #af U ?_
     #aW (s12 _ _ hp) U ?_
     #bB U U ?_
     #aC (λu=>?_) (λc=>aw (ed rfl) c)
     #af U (af U (af U ⟨rl,l1,bu U ⟨_,aB.of (s12 _ _ al.hr)⟩ ⟨⟨_,aB.of (s2 _ _ g1)⟩,⟨_,aB.of g2⟩,λl hl=>Gw (λi j=>decide (i=j)) (λi j H Q h=>⟨U,by rw[show decide (V.int i=V.int j)=decide (i=j)from decide_eq_decide.mpr ⟨λh=>by injection h,λh=>by rw[h]⟩];#h⟩) al.fI (s12 _ _ al.hr) (s2 _ _ g1) g2 hl λHy sy hly=>q l Hy (aa s12 sy) (.inr (aq s12 hl)) hly⟩⟩))
   | under=>
     #af U ?_
     #aW hp U ?_
     #bB U U ?_
     #aC (λc=>aw (cU c) (by left)) (λu=>?_)
     #af U ?_
     #aW hp U ?_
     #bB U U ?_
     #aC (λc=>aw (cU c) (by left)) (λu=>?_)
     #af U ?_
     #aW hp U ?_
     #bB U U ?_
     #aC (λc=>aw (cU c) (by left)) (λu=>?_)
     #af U (af U (af U ?_))
     #aW hp U ?_
     #⟨g,rl,x,ea,rows,b1,b2,U,al,ax,es.1,ok.1,by lia,λl1 H1 s1 u g1=>?_⟩
     #af U (af U (af U ?_))
     #aW (s1 _ _ hp) U ?_
     #⟨g,rl,y,eb,rows,b1,b2,U,al.same s1,ay.keep (ak.tk s1),es.2,ok.2,by lia,λl2 H2 s2 u g2=>⟨_,af U ?_⟩⟩
     !s12:=aa s1 s2
     #af U ?_
     #aW (s12 _ _ hp) U ?_
     #bB U U ?_
     #aC (λc=>aw (cU c) (by left)) (λu=>?_)
     #af U (af U (af U ⟨rl,l1,bu U ⟨_,aB.of (s12 _ _ al.hr)⟩ ⟨⟨_,aB.of (s2 _ _ g1)⟩,⟨_,aB.of g2⟩,λl hl=>Gw (λi j=>decide (i<j)) (λi j H Q h=>(aJ U U h)) al.fI (s12 _ _ al.hr) (s2 _ _ g1) g2 hl λHy sy hly=>q l Hy (aa s12 sy) (.inr (aq s12 hl)) hly⟩⟩))
   | both=>
     #af U ?_
     #aW hp U ?_
     #bB U U ?_
     #aC (λc=>aw (cU c) (by left)) (λu=>?_)
     #af U ?_
     #aW hp U ?_
     #bB U U ?_
     #aC (λc=>aw (cU c) (by left)) (λu=>?_)
     #af U ?_
     #aW hp U ?_
     #bB U U ?_
     #aC (λu=>?_) (λc=>aw (ed rfl) c)
     #af U (af U (af U (af U ?_)))
     #aW hp U ?_
     #⟨g,rl,x,ea,rows,b1,b2,U,al,ax,es.1,ok.1,by lia,λl1 H1 s1 n1 g1=>?_⟩
     #af U ?_
     #aW (s1 _ _ hp) U ?_
     #⟨g,l1,y,eb,_,b1,b2,U,⟨al.gr.same s1,g1,λr hr=>al.lt r (List.mem_filter.mp hr).1,aeg (aeQ _ _) al.fI⟩,ay.keep (ak.tk s1),es.2,ok.2,by lia,λl H2 s2 n2 g2=>?_⟩
     #q l H2 (aa s1 s2) (n2.elim (λz=>z▸n1) λz=>.inr (aq s1 z)) ?_
     rw[List.filter_filter]at g2
     rw[g2,show rows.filter (λa=>D4 b1 b2 eb a&&D4 b1 b2 ea a)=rows.filter (D4 b1 b2 (.two .both ea eb))from agq λr u=>Bool.and_comm _ _]
def Aw {C:J}{f:J}{fd:aef}:aL P w K mg base cm 1 f fd ["ground","rows","condition"] (mL K C 0):=by
 !no:∀vs H Q E,¬ mL K C 0 vs H Q E:=λvs H Q E h=>by
   @⟨_,_,_,_,_,_,_,_,_,_,_,_,h1,_⟩:=h
   lia
 #⟨λvs H Q E h=>aw h (no vs H Q E),λA outer s H args us vs Q E z z z z h=>aw h (no vs H Q E)⟩
def DS {C:J}(s:Src K mg "rows_where" Bs)(m_zip:mg "zip"=Z)(WL0:∀n,bI P w K mg base "worths_along" ["ground","rows","sum_told"] (n+1) (i9 K C n))(RO0:bI P w K mg base "rows_without" ["rows","taken"] 1 rQ):∀n:Nat,bI P w K mg base "rows_where" ["ground","rows","condition"] (n+1) (mL K C n):=by
 @⟨f,fd,F,m⟩:=s
 !b:Binds K fd ["ground","rows","condition"] []:=sR F λz z z z z z z z z=>rfl
 intro n
 !all:aL P w K mg base cm (n+1) f fd ["ground","rows","condition"] (mL K C n):=by
   induction n with
   | zero=>#Aw
   | succ n ih=>#Kb F m_zip WL0 RO0 ⟨f,fd,ih,F.kp,b,m⟩
 #⟨f,fd,all,F.kp,b,m⟩
abbrev PJ:Stmt:=top 39
structure En where
 p:Int
 q:Int
 c:E
def IB (H:Hp)(v:V)(e:En):Prop:=∃cv wh wt,Tp H v [.int e.p,.int e.q,cv,wh,wt]/\dP H cv e.c
def yh (e:En)(p q:Int):Bool:=decide (e.p=p/\e.q=q)
def eT (b1 b2:ag)(ens:O En)(p q:Int):O Nat:=(aem (nR b1 b2)).filter λr=>!(ens.any λe=>yh e p q&&D4 b1 b2 e.c r)
def iy (b1 b2:ag)(ens:O En)(e:En):O Nat:=(eT b1 b2 ens e.p e.q).filter (D4 b1 b2 e.c)
def kL (b1 b2:ag):O En->O En->O (O Nat)
 | _,[]=>[]
 | done,e::r=>iy b1 b2 done e::kL b1 b2 (done++[e]) r
theorem nS (b1 b2:ag)(e:En):∀(xs done:O En),kL b1 b2 done (xs++[e])=kL b1 b2 done xs++[iy b1 b2 (done++xs) e]
 | [],done=>by rw[aeK];rfl
 | x::xs,done=>by
   change iy b1 b2 done x::kL b1 b2 (done++[x]) (xs++[e])=_
   rw[nS b1 b2 e xs,afN]
   rfl
theorem l7 (b1 b2:ag):∀(xs done:O En),(kL b1 b2 done xs)~=xs~
 | [],_=>rfl
 | x::xs,done=>by change _+1=_+1;rw[l7 b1 b2 xs]
def DM (b1 b2:ag)(ens:O En)(e:En):(eT b1 b2 ens e.p e.q).filter (λr=>!D4 b1 b2 e.c r)=eT b1 b2 (ens++[e]) e.p e.q:=by
 unfold eT
 rw[List.filter_filter]
 apply agq
 intro r _
 rw[List.any_append]
 !:yh e e.p e.q=true:=ed ⟨rfl,rfl⟩
 simp only[afn,ahl,ahb,this,aha,Bool.not_or]
 #Bool.and_comm _ _
def zD (b1 b2:ag)(ens:O En)(e:En){p q:Int}(h:¬ (e.p=p/\e.q=q)):eT b1 b2 (ens++[e]) p q=eT b1 b2 ens p q:=by
 unfold eT
 apply agq
 intro r _
 rw[List.any_append]
 !:yh e p q=false:=mW h
 simp only[afn,ahl,ahb,this,afS]
def zC (b1 b2:ag)(p q:Int):eT b1 b2 [] p q=aem (nR b1 b2):=List.filter_eq_self.mpr λz z=>rfl
def mf (b1 b2:ag)(ens:O En)(p q:Int):(eT b1 b2 ens p q)~<=nR b1 b2:=aeg (aeQ _ _) (by rw[aeJ];#ad5 _)
def DL {b1 b2:ag}{ens:O En}{p q:Int}{r:Nat}(h:r∈eT b1 b2 ens p q):r<nR b1 b2:=List.mem_range.mp (List.mem_filter.mp h).1
def lP (b1 b2:ag)(H:Hp)(l:J)(kvs:O (O Key×V))(ens:O En):Prop:=∀p q:Int,(aY kvs [.inl p,.inl q]=Z/\eT b1 b2 ens p q=aem (nR b1 b2))\/∃a,aY kvs [.inl p,.inl q]=S (.ref a)/\a≠l/\H a=S (.lst (cD (eT b1 b2 ens p q)))
def lP.put {b1 b2:ag}{H H':Hp}{l f:J}{kvs:O (O Key×V)}{ens:O En}{e:En}(h:lP b1 b2 H l kvs ens)(k:∀a xs,a≠l->H a=S (.lst xs)->H' a=S (.lst xs))(nf:f≠l)(hf:H' f=S (.lst (cD (eT b1 b2 (ens++[e]) e.p e.q)))):lP b1 b2 H' l (putK kvs [.inl e.p,.inl e.q] (.ref f)) (ens++[e]):=λp q=>by
 rw[ck]
 by_cases c:e.p=p/\e.q=q
 . @⟨rfl,rfl⟩:=c
   rw[aR rfl]
   #.inr ⟨f,U,nf,hf⟩
 . rw[aM (λz=>c (by injection z with z1 z2;injection z1 with z1;injection z2 with z2 _;injection z2 with z2;#⟨z1.symm,z2.symm⟩)),zD b1 b2 ens e c]
   rcases h p q with z|⟨a,z1,z2,z3⟩
   . #.inl z
   . #.inr ⟨a,z1,z2,k _ _ z2 z3⟩
structure Yf (b1 b2:ag)(n:Nat)(ens:O En):Prop where
 fI:ens~<=3000
 kX:∀e∈ens,e.c.kX
 ok:∀e∈ens,e.c.okIn (qB b1 b2)
 dep:∀e∈ens,e.c.dep<n
def B9 (K:ad2)(C:J)(n:Nat):Sp:=λvs H Q z=>∃(g pa:J) (vps:O V) (ens:O En) (b1 b2:ag),vs=[.ref g,.ref pa]/\oP K C H g b1 b2/\nR b1 b2<=3000/\H pa=S (.lst vps)/\Paired (IB H) vps ens/\Yf b1 b2 n ens /\
 ∀(l:J) (cs:O J) (H':Hp),ak H H'->H' l=S (.lst (cs.map V.ref))->Paired (λa rows=>H' a=S (.lst (cD rows))) cs (kL b1 b2 [] ens)->Q (.ref l) H'
def oC:aA ["ground","paper","free","counted","entry","places","rows","taken"] ["ground","paper"] (ao PJ):=dX
def Ka {C:J}{n:Nat}{f:J}{fd:aef}(F:cF K "rows_counted" "rows_counted" PJ f fd)(RW0:∀n,bI P w K mg base "rows_where" ["ground","rows","condition"] (n+1) (mL K C n))(RO0:bI P w K mg base "rows_without" ["rows","taken"] 1 rQ):aL P w K mg base cm (n+2) f fd ["ground","paper"] (B9 K C n):=by
 #F.eO oC λcdv A outer s H vs Q E hr h=>?_
 @⟨g,pa,vps,ens,b1,b2,rfl,G,hn,vB,pe,GH,q⟩:=h
 !RW:=(RW0 n).mono (show n+1<=n+1 from ad5 _)
 !RO:=RO0.mono (show 1<=n+1 by lia)
 #f7 ⟨_,(aiz (L3.KD 2 3 oC.nd (L L3.zu (L (aiO M) M) Et))
   (aiz (ai0 (aiW (Y 1)) (aiC 4 oC.nd) (aiz (aiL 5 oC.nd (aiG (L (aiy aiE (Y 4) aix) (L (aiy aiE (Y 4) aix) M))))
   (aiz (aiL 6 oC.nd (L3.Gx (bj hr _ (by left)) (Y 2) (Y 5) (aiP (Y 0))))
   (aiz (aiL 7 oC.nd (aiJ RW hr U (L (Y 0) (L (Y 6) (L (aiy aiE (Y 4) aix) M)))))
   (aiz (aju (bj hr _ (by left)) (Y 2) (Y 5) (aiJ RO hr U (L (Y 6) (L (Y 7) M))))
   (aiA (ai3 (ajf (Y 3) (L (Y 7) M)))))))))
   (aiA (aiF (Y 3))))),?_⟩
 #λd hd=>⟨aky,λl hl=>⟨_,af U ?_⟩⟩
 !Ra:d≠l:=ai ae hl
 !D1:H l=Z:=by rw[aj Ra.symm]at hl;#hl
 !s0:ak H (upd (upd H d (.dT [])) l (.lst [])):=aE (ah hd _) D1
 !VG:=Paired.length pe
 !fI:=GH.fI
 @⟨dx,fs,m0,y0,Pl,cd,kv0,hg,_,_,_,rH,_,_,_,Ad,_,_,_⟩:=G.ex
 !Rf:Pl≠l:=ai Ad D1
 #af U (bu U ⟨_,aB.of (s0 _ _ vB)⟩ ?_)
 #dz (xs:=vps) (λi σ Hx=>(∃o4 o5 o6 o7,σ=[S (.ref g),S (.ref pa),S (.ref d),S (.ref l),o4,o5,o6,o7])/\ak H Hx/\∃kvs cs,Hx d=S (.dT kvs)/\kvs~<=i/\lP b1 b2 Hx l kvs (ens.take i)/\Hx l=S (.lst (cs.map V.ref))/\Paired (λa rows=>Hx a=S (.lst (cD rows))/\a≠l) cs (kL b1 b2 [] (ens.take i))) ⟨⟨_,_,_,_,U⟩,s0,[],[],by rw[aj Ra];#ae,ad5 _,(λp q=>.inl ⟨U,zC b1 b2 p q⟩),ae,.nil⟩ (λi σ Hx y z=>aB.of (z.2.1 _ _ vB)) (λi x σ Hx hx z=>?_) (λσ Hx z=>?_)
 . @⟨⟨o4,o5,o6,o7,rfl⟩,sx,kvs,cs,Mj,Jl,Sg,NT,G7⟩:=z
   !du:i<vps~:=(aH hx)
   @⟨e,S9,cv,wh,wt,⟨en,rfl,NI⟩,hcv⟩:=Paired.get pe hx
   !NH:=ad4 S9
   !NK:=sx _ _ NI
   #aS (bC λRk kR=>?_)
   #af U ?_
   #aW NK U ?_
   #af U ?_
   #aW NK U ?_
   #⟨akA,λpl hpl=>?_⟩
   @⟨H1,s1,g1,zz⟩:=aK hpl (.tup [.int e.p,.int e.q])
   rw[zz];clear zz
   #aS (kR _ _ (bC λRk kR=>?_))
   !s01:=aa sx s1
   !dg:=dv.t (k:=[.inl e.p,.inl e.q]) (s1 _ _ Mj) g1
   #af U ⟨d,U,.inr ⟨_,.inl (s1 _ _ Mj)⟩,af U (af U ?_)⟩
   #bJ (s01 _ _ hg) G.cl (G.na.get (by left)) rH ?_
   #⟨_,dg,?_⟩
   obtain⟨ra,era,U6,yO⟩ : ∃ra,(aY kvs [.inl e.p,.inl e.q]).getD (.ref Pl)=.ref ra/\ra≠l/\H1 ra=S (.lst (cD (eT b1 b2 (ens.take i) e.p e.q))):=by
     rcases Sg e.p e.q with⟨z1,z2⟩|⟨a,z1,z2,z3⟩
     . rw[z1,z2]
       #⟨Pl,U,Rf,s01 _ _ Ad⟩
     . rw[z1]
       #⟨a,U,z2,s1 _ _ z3⟩
   rw[era]
   #aS (kR _ _ (bC λRk kR=>?_))
   #af U (af U (af U ?_))
   #aW (s01 _ _ NI) U ?_
   #⟨g,ra,cv,e.c,_,b1,b2,U,⟨G.same s01,yO,λr hr=>DL hr,aeg (mf b1 b2 _ _ _) hn⟩,hcv.keep (ak.tk s01),GH.kX e NH,GH.ok e NH,GH.dep e NH,λtk H2 s2 n2 g2=>?_⟩
   !Xf:tk≠l:=n2.elim (λz=>z▸U6) λz=>(ai (s1 _ _ NT) z).symm
   #aS (kR _ _ (bC λRk kR=>?_))
   !DK:(eT b1 b2 (ens.take i) e.p e.q)~<=3000:=aeg (mf b1 b2 _ _ _) hn
   #af U (af U ⟨ra,tk,_,af U ⟨s2 _ _ yO,g2,DK,aeg (aeQ _ _) DK,λfr H3 s3 n3 g3=>?_⟩⟩)
   rw[me,DM]at g3
   !Xb:fr≠l:=(ai (s2 _ _ (s1 _ _ NT)) n3).symm
   !s13:ak Hx H3:=aa s1 (aa s2 s3)
   #af U (af U ⟨d,af U ⟨ir.t (k:=[.inl e.p,.inl e.q]) (kvs:=kvs) (s13 _ _ Mj) (s3 _ _ (s2 _ _ g1)) (oF (by lia)),?_⟩⟩)
   #kR _ _ ?_
   !D2:(upd H3 d (.dT (putK kvs [.inl e.p,.inl e.q] (.ref fr)))) l=S (.lst (cs.map V.ref)):=by rw[aj Ra.symm];#s13 _ _ NT
   !cl:=Paired.length G7
   rw[l7,aea]at cl
   #af U ⟨.inl ⟨U,_,aB.of D2⟩,af U ⟨l,aJ U U ⟨D2,oF (by rw[ad1];lia),⟨_,_,_,_,U⟩,aE (aE (aa sx s13) hd) D1,putK kvs [.inl e.p,.inl e.q] (.ref fr),cs++[tk],by rw[aj Ra];show ae,by !:=jN kvs ([.inl e.p,.inl e.q]:O Key) (.ref fr);lia,?_,by rw[ae,aeb];rfl,?_⟩⟩⟩
   . rw[aec,S9]
     !kk:∀(a:J) (xs:O V),a≠l->H3 a=S (.lst xs)->(upd (upd H3 d (.dT (putK kvs [.inl e.p,.inl e.q] (.ref fr)))) l (.lst (cs.map V.ref++[.ref tk]))) a=S (.lst xs):=λa xs na ha=>by
       rw[aj na,aj (eJ ha (s13 _ _ Mj) (λz=>nomatch z))]
       #ha
     #lP.put Sg (λa xs na ha=>kk a xs na (s13 _ _ ha)) Xb (kk _ _ Xb g3)
   . rw[aec,S9]
     change Paired _ _ (kL b1 b2 [] (ens.take i++[e]))
     rw[nS,ahx]
     !kk:∀(a:J) (xs:O V),a≠l->H3 a=S (.lst xs)->(upd (upd H3 d (.dT (putK kvs [.inl e.p,.inl e.q] (.ref fr)))) l (.lst (cs.map V.ref++[.ref tk]))) a=S (.lst xs):=λa xs na ha=>by
       rw[aj na,aj (eJ ha (s13 _ _ Mj) (λz=>nomatch z))]
       #ha
     #Paired.snoc (Paired.aP G7 λa r z=>⟨kk a _ z.2 (s13 _ _ z.1),z.2⟩) ⟨kk tk _ Xf (s3 _ _ g2),Xf⟩
 @⟨⟨o4,o5,o6,o7,rfl⟩,sx,kvs,cs,Mj,Jl,Sg,NT,G7⟩:=z
 rw[VG,aed]at G7
 #af U (q l cs Hx sx NT (Paired.aP G7 λy y z=>z.1))
abbrev HM:Stmt:=dq 34 1
abbrev HK:Stmt:=dq 34 2
abbrev lE:Stmt:=dq 34 3
abbrev pT:Stmt:=dq 34 4
def qb (K:ad2)(C:J):Sp:=λvs H Q z=>∃(x wa:J) (v:V) (W:O (O Int)) (st sy:J) (ws:O Int) (j:Nat),vs=[.ref x,.ref wa]/\dR K C H x v W st sy/\H wa=S (.lst (ws.map V.int))/\W[j]?=S ws/\∀H',ak H H'->Q (.int (j:Nat)) H'
def LB:aA ["self","worths"] ["self","worths"] (ao HM):=dX
def EJ {C:J}{f:J}{fd:aef}(F:cF K "number_of" "Side.number_of" HM f fd)(m_tuple:mg "tuple"=Z):aL P w K mg base cm 1 f fd ["self","worths"] (qb K C):=by
 #F.eO LB λcdv A outer s H vs Q E hr h=>?_
 @⟨x,wa,v,W,st,sy,ws,j,rfl,⟨cl,fU,dx,fs,nb,kvs,hx,_,UY,_,_,lq,ok,_⟩,hwa,hj,q⟩:=h
 #f7 ⟨_,(aiA (aiF (ajc (bj hr _ (by left)) (aiP (Y 0)) (ai2 L3.oT U m_tuple (by right) (L (Y 1) M))))),?_⟩
 !Mo:j<W.length:=(aH hj)
 #af U ?_
 #bJ hx cl (fU.get (by left)) UY ?_
 #af U (aJ U (aB.of hwa) (λtk htk=>?_))
 !s1:ak H (upd H tk (.tup (ws.map V.int))):=ah htk _
 !g:=dv.t (k:=ws.map Sum.inl) (s1 _ _ lq) (by rw[ae,ae0];rfl)
 rw[ok j ws Mo hj]at g
 #⟨nb,af U ⟨g,q _ s1⟩⟩
def Paired.xm {α β:Type}{F:α->β->Prop}:∀{l₁:O α} {l₂:O β} {i:Nat} {y:β},Paired F l₁ l₂->l₂[i]?=S y->∃x,l₁[i]?=S x/\F x y:=λ{l₁ l₂ i y} h e=>by
 !hl:i<l₁~:=by rw[Paired.length h];#(aH e)
 @⟨z,h1,h2⟩:=Paired.get h (ad3 hl)
 rw[e]at h1
 cases h1
 #⟨_,ad3 hl,h2⟩
def ip:Nd->Str
 | .put _ _ _=>"put"
 | .say _ _=>"say"
 | .test _ _ _=>"test"
 | .fin=>"end"
def bZ.kind {H:Hp}:∀{nd:Nd} {v:V},bZ H v nd->∃p xs,v=.ref p/\H p=S (.tup (.str (ip nd)::xs))
 | .put _ _ _,_,⟨_,⟨p,e,h⟩,_⟩=>⟨p,_,e,h⟩
 | .say _ _,_,⟨_,⟨p,e,h⟩,_⟩=>⟨p,_,e,h⟩
 | .test _ _ _,_,⟨_,⟨p,e,h⟩,_⟩=>⟨p,_,e,h⟩
 | .fin,_,⟨p,e,h⟩=>⟨p,_,e,h⟩
def uL (K:ad2)(C:J):Sp:=λvs H Q z=>∃(x:J) (v:V) (W:O (O Int)) (st sy:J) (bs:ag) (ins:O Str) (nds:O Nd) (p:Nat) (nd:Nd),vs=[.ref x,.int (p:Nat)]/\dR K C H x v W st sy/\aN H v bs ins nds/\nds[p]?=S nd/\Q (.str (ip nd)) H
def LA:aA ["self","place"] ["self","place"] (ao HK):=dX
def EG {C:J}{f:J}{fd:aef}(F:cF K "kind_at" "Side.kind_at" HK f fd)  : aL P w K mg base cm 1 f fd ["self","place"] (uL K C):=by
 #F.eO LA λcdv A outer s H vs Q E hr h=>?_
 @⟨x,v,W,st,sy,bs,ins,nds,p,nd,rfl,⟨cl,fU,dx,fs,nb,kvs,hx,Q8,_⟩,⟨pp,B,I,N,vb,vn,rfl,hp,hB,hI,hN,pb,pn⟩,D9,q⟩:=h
 #f7 ⟨_,(aiA (aiF (aiy aiE (aiy aiH (aiy aiE (aiP (Y 0)) aix) (Y 1)) aix))),?_⟩
 @⟨u,hu,nu⟩:=Paired.xm pn D9
 @⟨a,xs,rfl,ha⟩:=nu.kind
 #af U ?_
 #bJ hx cl (fU.get (by left)) Q8 ?_
 #aW hp U ?_
 #af U ?_
 #bY hN (bL hu) ?_
 #aW ha (bL (j:=0) rfl) ?_
 #q
def Sm (H H':Hp):Prop:=∀a o,H a=S o->(∀ks,o≠.dK ks)->H' a=S o
def ak.sm {H H':Hp}(s:ak H H'):Sm H H':=λa o e z=>s a o e
def Kp.sm {d:J}{H H':Hp}{ks:O (Key×V)}(k:Kp d H H')(h:H d=S (.dK ks)):Sm H H':=λa o e n=>k a o e λz=>n ks (by rw[z,h]at e;#(aej e).symm)
abbrev Tl:=O (O Int×Int×Nat)
def gH (H:Hp)(F:Tl)(v:V):Prop:=∃(l:J) (ts:O J),v=.ref l/\H l=S (.lst (ts.map V.ref))/\Paired (λt f=>∃e,H t=S (.tup [.ref e,.int f.2.1,.int (f.2.2:Nat)])/\H e=S (.lst (f.1.map V.int))) ts F
def gH.sm {H H':Hp}{F:Tl}{v:V}(h:gH H F v)(s:Sm H H'):gH H' F v:=by
 @⟨l,ts,e,h1,h2⟩:=h
 #⟨l,ts,e,s _ _ h1 (λy z=>nomatch z),Paired.aP h2 λ_ _ ⟨e,h3,h4⟩=>⟨e,s _ _ h3 (λy z=>nomatch z),s _ _ h4 (λy z=>nomatch z)⟩⟩
structure dC (H:Hp)(d:J)(n:Nat)(R:Nat->Tl->Prop):Prop where
 ex:∃(ks:O (Key×V)) (ps:O Nat),H d=S (.dK ks)/\ks.map (·.1)=ps.map (λp:Nat=>(Sum.inl (p:Int):Key))/\ps.Nodup/\(∀p∈ps,p<n)/\∀(p:Nat) v,aY ks (.inl (p:Int))=S v->∃F,R p F/\gH H F v
theorem Au:∀(n:Nat) (ps:O Nat),ps.Nodup->(∀p∈ps,p<n)->ps~<=n
 | 0,ps,_,h=>by
   cases ps with
   | nil=>#ad5 _
   | cons p _=>#aw (h p (dA (.inl rfl))) (ae8 _)
 | n+1,ps,nd,h=>by
   !:=Au n (ps.erase n) (nd.erase n) λp hp=>by
     !h1:=h p (List.mem_of_mem_erase hp)
     !h2:p≠n:=λz=>by rw[z]at hp;#nd.not_mem_erase hp
     lia
   !h3:=List.length_erase (a:=n) (l:=ps)
   split at h3<;>lia
def dC.put {H:Hp}{d:J}{n:Nat}{R:Nat->Tl->Prop}{ks:O (Key×V)}{ps:O Nat}{p:Nat}{F:Tl}{v:V}(h1:H d=S (.dK ks))(h2:ks.map (·.1)=ps.map (λp:Nat=>(Sum.inl (p:Int):Key)))(h3:ps.Nodup)(h4:∀p∈ps,p<n)(h5:∀(p:Nat) v,aY ks (.inl (p:Int))=S v->∃F,R p F/\gH H F v)
   (hp:p<n) (hn:aY ks (.inl (p:Int))=Z) (r:R p F) (t:gH H F v):dC (upd H d (.dK (putK ks (.inl (p:Int)) v))) d n R:=by
 !s:Sm H (upd H d (.dK (putK ks (.inl (p:Int)) v))):=(Kp.refl (d:=d) H).self.sm h1
 #⟨_,ps++[p],ae,by rw[rA hn,aeb,aeb,h2];rfl,?_,λq hq=>?_,λq u hu=>?_⟩
 . #List.nodup_append.mpr ⟨h3,ahA (λy h=>nomatch h) .nil,λa ha b hb e=>?_⟩
   rw[cR hb]at e
   subst e
   #CC hn (by rw[h2];#dD ⟨a,ha,U⟩)
 . rcases eI hq with z|z
   . #h4 q z
   . rw[cR z];#hp
 . rw[ck]at hu
   by_cases e:q=p
   . subst e
     rw[aR rfl]at hu
     cases hu
     #⟨F,r,t.sm s⟩
   . !ne:¬ (Sum.inl (q:Int):Key)=Sum.inl (p:Int):=λz=>e (by !:=agH z;lia)
     rw[aM ne]at hu
     @⟨F',r',t'⟩:=h5 q u hu
     #⟨F',r',t'.sm s⟩
abbrev gW (W:O (O Int))(p:Nat)(F:Tl):Prop:=F=(aem W.length).map λi=>([],(p:Int),i)
def mM (K:ad2)(C:J):Sp:=λvs H Q z=>∃(x:J) (v:V) (W:O (O Int)) (st sy:J) (n p:Nat),vs=[.ref x,.int (p:Nat)]/\dR K C H x v W st sy/\cC K H x W/\W.length<=900/\n<=900/\p<n/\dC H sy n (gW W) /\
 ∀H' u F,Kp sy H H'->dC H' sy n (gW W)->gW W p F->gH H' F u->Q u H'
def BI:aA ["self","place"] ["self","place"] (ao pT):=dX
def xW {C:J}{f:J}{fd:aef}(F:cF K "stays_at" "Side.stays_at" pT f fd)(m_len:mg "len"=Z)(m_range:mg "range"=Z):aL P w K mg base cm 1 f fd ["self","place"] (mM K C):=by
 #F.eO BI λcdv A outer s H vs Q E hr h=>?_
 @⟨x,v,W,st,sy,n,p,rfl,⟨cl,fU,dx,fs,nb,kvs,hx,_,_,_,MC,lq,ok,_⟩,⟨C1,xb,xj,lw,as,c1,n1,kS,JK,De,Di⟩,wl,hn,hp,⟨ks,ps,hd,hk,nd,lt,hv⟩,q⟩:=h
 #f7 ⟨_,(aiz (aiM (L3.oZ (bj hr _ (by left)) (Y 1) (aiP (Y 0))) (aiA (aju (bj hr _ (by left)) (aiP (Y 0)) (Y 1) (aiY [Z,S 1] ["number","place"] (ij pT) U (ajj U m_range (L (aiS aiX U m_len aeo (L (aiP (Y 0)) M)) M)) (λy y y y y=>⟨(aiC 0 (dW ["number","place"])),aiV,(aiG (L (aiO M) (L (Y 1) (L (Y 0) M))))⟩)))) aiN)
   (aiA (aiF (ajc (bj hr _ (by left)) (aiP (Y 0)) (Y 1))))),?_⟩
 !g:=dv.k (k:=(.inl (p:Int):Key)) hd
 #af U (af U ?_)
 #bJ hx cl (fU.get (by left)) MC ?_
 #⟨sy,af U ⟨g,af U ?_⟩⟩
 #aC (λc=>?_) (λc=>?_)
 . !hc:aY ks (.inl (p:Int))=Z:=by
     cases e:aY ks (.inl (p:Int))with
     | none=>rfl
     | some _=>rw[e]at c;cases c
   !RX:(as.map V.ref)~=W.length:=by rw[ad1];#Paired.length Di
   #af U ⟨x,C1,xb,xj,af U ⟨kS,c1,n1,JK,aJ U (.inl (aB.of De)) (af U ⟨by lia,by lia,λl hl=>?_⟩)⟩⟩
   #d9 (lo:=0) (n:=(((as.map V.ref)~:Nat):Int).toNat) (λi H2=>∃ts:O J,ak H H2/\H2 l=S (.lst (ts.map V.ref))/\Paired (λt f=>∃e,H2 t=S (.tup [.ref e,.int f.2.1,.int (f.2.2:Nat)])/\H2 e=S (.lst (f.1.map V.int))/\e≠l) ts ((aem i).map λi=>(([],(p:Int),i):O Int×Int×Nat))) ⟨[],ah hl _,ae,.nil⟩ (λi H2 hi z=>?_) (λH2 z=>?_)
   . @⟨ts,s2,g2,p2⟩:=z
     !tl:=Paired.length p2
     rw[ad1,aeJ]at tl
     #aS ?_
     #bQ (A:=λH3=>cB _ l _ H3 _) ?_
     #⟨aky,λe he=>(af U (bu U akB (λt ht=>?_)))⟩
     !s3:ak H2 (upd (upd H2 e (.lst [])) t (.tup [.ref e,.int (p:Nat),.int (0+(i:Int))])):=az (ah he _) ht
     !g3:(upd (upd H2 e (.lst [])) t (.tup [.ref e,.int (p:Nat),.int (0+(i:Int))])) e=S (.lst []):=by rw[aj (ai ae ht)];#ae
     !g4:(upd (upd H2 e (.lst [])) t (.tup [.ref e,.int (p:Nat),.int (0+(i:Int))])) t=S (.tup [.ref e,.int (p:Nat),.int (0+(i:Int))]):=ae
     generalize upd (upd H2 e (.lst [])) t (.tup [.ref e,.int (p:Nat),.int (0+(i:Int))])=H3 at s3 g3 g4 ⊢
     !n3:∀{a:J} {xs:O V},H3 a=S (.tup xs)->a≠l:=λe z=>by rw[z,s3 _ _ g2]at e;cases e
     #⟨_,s3 _ _ g2,oF (by rw[ad1];lia),aF (Pv:=λi H2=>∃ts:O J,ak H H2/\H2 l=S (.lst (ts.map V.ref))/\Paired (λt f=>∃e,H2 t=S (.tup [.ref e,.int f.2.1,.int (f.2.2:Nat)])/\H2 e=S (.lst (f.1.map V.int))/\e≠l) ts ((aem i).map λi=>(([],(p:Int),i):O Int×Int×Nat))) (by repeat' constructor) hi ⟨ts++[t],aE (aa s2 s3) hl,by rw[ae,aeb];rfl,?_⟩⟩
     rw[ahw,aeb]
     !Xa:e≠l:=(ai g2 he).symm
     #Paired.snoc (Paired.aP p2 λt0 f ⟨e0,h1,h2,h3⟩=>⟨e0,?_,?_,h3⟩) ⟨e,?_,?_,Xa⟩
     . rw[aj (n3 (s3 _ _ h1))];#s3 _ _ h1
     . rw[aj h3];#s3 _ _ h2
     . rw[aj (n3 g4),g4,agL]
     . rw[aj Xa];#g3
   @⟨ts,s2,g2,p2⟩:=z
   rw[aes,RX]at p2
   !Qk:gH H2 ((aem W.length).map λi=>([],(p:Int),i)) (.ref l):=⟨l,ts,rfl,g2,Paired.aP p2 λ_ _ ⟨e,h1,h2,_⟩=>⟨e,h1,h2⟩⟩
   !d2:=s2 _ _ hd
   !kl:ks~=ps~:=by !:=congrArg agS hk;rwa[ad1,ad1]at this
   !pl:=Au n ps nd lt
   #af U ?_
   #bJ (s2 _ _ hx) cl (fU.get (by left)) MC ?_
   #af U ⟨sy,af U ⟨ir.k (k:=(.inl (p:Int):Key)) d2 (oF (by lia)),?_⟩⟩
   !R1:=dC.put d2 hk nd lt (λp v h=>let⟨F,r,t⟩:=hv p v h;⟨F,r,t.sm (ak.sm s2)⟩) hp hc (show gW W p _ from rfl) Qk
   !kp:Kp sy H (upd H2 sy (.dK (putK ks (.inl (p:Int)) (.ref l)))):=((Kp.refl H).same s2).self
   !nx:x≠sy:=λz=>by rw[z,hd]at hx;cases hx
   !g':=dv.k (H:=upd H2 sy (.dK (putK ks (.inl (p:Int)) (.ref l)))) (a:=sy) (k:=(.inl (p:Int):Key)) ae
   rw[ck,aR rfl]at g'
   #af U ?_
   #bJ (kp _ _ hx nx) cl (fU.get (by left)) MC ?_
   #af U ⟨sy,af U ⟨g',q _ _ _ kp R1 rfl (Qk.sm ((Kp.refl (d:=sy) H2).self.sm d2))⟩⟩
 . cases hc:aY ks (.inl (p:Int))with
   | none=>rw[hc]at c;#aw rfl c
   | some u=>
     @⟨F,r,tl⟩:=hv p u hc
     rw[hc]at g
     #af U ?_
     #bJ hx cl (fU.get (by left)) MC ?_
     #af U ⟨sy,u,U,g,q _ u F (Kp.refl H) ⟨ks,ps,hd,hk,nd,lt,hv⟩ r tl⟩
def m7.mono {x:Str}{C:J}{ps:O Str}{j k:Nat}{sp:Sp}(h:m7 P w K mg base x C ps j sp)(hk:j<=k):m7 P w K mg base x C ps k sp:=by@⟨f,fd,a,b,c,d⟩:=h;#⟨f,fd,a.mono hk,b,c,d⟩
def fY.mono {C:J}{m:Str}{ps:O Str}{j k:Nat}{sp:Sp}(h:fY P w K mg base C m ps j sp)(hk:j<=k):fY P w K mg base C m ps k sp:=by@⟨f,fd,a,b,c⟩:=h;#⟨f,fd,a.mono hk,b,c⟩
theorem b9:∀{szs:O Int} {r:O Int},r∈bV szs->Paired Within szs r
 | [],r,h=>by rw[cR h];#.nil
 | s::ss,r,h=>by
   @⟨w,hw,h⟩:=List.mem_flatMap.mp h
   @⟨q,hq,rfl⟩:=cO h
   !:=List.mem_range.mp hw
   #.cons ⟨by lia,by lia⟩ (b9 hq)
theorem mD {x:Str}{t:Int}:∀{bs:ag} {ws:O Int},(∀b∈bs,1<=b.2)->Paired Within (bs.map (·.2)) ws->Paired Within (bs.map (·.2)) (dN bs ws x t)
 | [],_,_,.nil=>.nil
 | b::bs,w::ws,sz,.cons r q=>by
   !h1:=sz b (dA (.inl rfl))
   #.cons ?_ (mD (λc hc=>sz c (dA (.inr hc))) q)
   change Within b.2 (if b.1=x then t%b.2 else w)
   by_cases e:b.1=x
   . rw[aR e]
     #⟨aeD _ (by lia),aeu _ (by lia)⟩
   . rw[aM e]
     #r
def iS {bs:ag}{ws:O Int}{nd:Nd}{m:Int}{d:Nat}{r:O Int×Int×O Int}(sz:∀b∈bs,1<=b.2)(pw:Paired Within (bs.map (·.2)) ws)(gd:nd.good (·∈bs.map (·.1)) m d)(h:cL bs ws nd=S r):0<=r.2.1/\r.2.1<m/\Paired Within (bs.map (·.2)) r.2.2/\r.1~<=1:=by
 cases nd with
 | fin=>cases h
 | put x s n=>
   cases h
   #⟨gd.2.2.2.2.1,gd.2.2.2.2.2,mD sz pw,aeG _⟩
 | say s n=>
   cases h
   #⟨gd.2.2.2.1,gd.2.2.2.2,pw,ad5 _⟩
 | test c n o=>
   cases h
   #⟨?_,?_,pw,aeG _⟩
   . change 0<=(if _ then n else o)
     split
     . #gd.2.2.2.1
     . #gd.2.2.2.2.2.1
   . change(if _ then n else o)<m
     split
     . #gd.2.2.2.2.1
     . #gd.2.2.2.2.2.2
theorem eB:∀{szs ws:O Int},Paired Within szs ws->ws∈bV szs
 | [],_,.nil=>List.mem_singleton.mpr rfl
 | s::ss,w::ws,.cons h r=>List.mem_flatMap.mpr ⟨w.toNat,List.mem_range.mpr (by !:=h.1;!:=h.2;lia),dD ⟨ws,eB r,by rw[afE h.1]⟩⟩
structure RM (H:Hp)(v:V)(bs:ag)(ins:O Str)(nds:O Nd)(p:Nat)(nd:Nd)(m:Int):Prop where
 pa:aN H v bs ins nds
 ndn:(bs.map (·.1)).Nodup
 len:bs~<=900
 sz:∀b∈bs,1<=b.2
 here:nds[p]?=S nd
 gd:nd.good (·∈bs.map (·.1)) m 19
 nf:nd≠.fin
def gX (bs:ag)(nds:O Nd)(p:Nat)(F:Tl):Prop:=∃nd,nds[p]?=S nd/\Paired (λr f=>∃ws,cL bs r nd=S (f.1,f.2.1,ws)/\(av bs)[f.2.2]?=S ws) (av bs) F
def mO (K:ad2)(C:J):Sp:=λvs H Q z=>∃(x:J) (v:V) (st sy:J) (bs:ag) (ins:O Str) (nds:O Nd) (n p:Nat) (nd:Nd) (m:Int),vs=[.ref x,.int (p:Nat)]/\dR K C H x v (av bs) st sy/\cC K H x (av bs)/\(av bs)~<=900/\n<=900/\p<n/\RM H v bs ins nds p nd m/\dC H st n (gX bs nds) /\
 ∀H' u F,Kp st H H'->dC H' st n (gX bs nds)->gX bs nds p F->gH H' F u->Q u H'
def rM:aA ["self","place","told"] ["self","place"] (ao lE):=dX
def xY {C:J}{f:J}{fd:aef}(F:cF K "steps_at" "Side.steps_at" lE f fd)(SA:bI P w K mg base "step_at" ["program","place","worths"] 25 Cc)(NO0:fY P w K mg base C "number_of" ["self","worths"] 1 (qb K C)):aL P w K mg base cm 26 f fd ["self","place"] (mO K C):=by
 #F.eO rM λcdv A outer s H vs Q E hr h=>?_
 @⟨x,v,st,sy,bs,ins,nds,n,p,nd,m,rfl,⟨cl,fU,dx,fs,nb,kvs,hx,Q8,UY,lst,MC,lq,ok,jI⟩,⟨C1,xb,xj,lw,as,c1,n1,kS,JK,De,Di⟩,wl,hn,hp,pre,⟨ks,ps,hd,hk,U3,lt,hv⟩,q⟩:=h
 !NO:=NO0.mono (show 1<=25 by left)
 #f7 ⟨_,(aiz (aiM (L3.oZ (bj hr _ (by left)) (Y 1) (aiP (Y 0))) (aiz (ajn (i:=2) [Z,S 1,S 0] ["worths","place","self"] (ij lE) U (aiW (aiP (Y 0))) (λy y y y y=>⟨(aiC 0 (dW ["worths","place","self"])),aiV,(aiJ SA hr U (L (aiP (Y 2)) (L (Y 1) (L (Y 0) M))))⟩) rM.nd)
   (aiA (aju (bj hr _ (by left)) (aiP (Y 0)) (Y 1) (aiY [Z,Z,Z,S 0] ["said","to","worths","self"] (ij lE) U (aiW (Y 2)) (λy y y y y=>⟨(aiT 3 (aiI (aiC 0 (dW ["said","to","worths","self"])) (aiI (aiC 1 (dW ["said","to","worths","self"])) (aiI (aiC 2 (dW ["said","to","worths","self"])) aiU)))),aiV,(aiG (L (Y 0) (L (Y 1) (L (aji (Y 3) cl NO hr (L (Y 2) M)) M))))⟩))))) aiN)
   (aiA (aiF (ajc (bj hr _ (by left)) (aiP (Y 0)) (Y 1))))),?_⟩
 !g:=dv.k (k:=(.inl (p:Int):Key)) hd
 #af U (af U ?_)
 #bJ hx cl (fU.get (by left)) lst ?_
 #⟨st,af U ⟨g,af U ?_⟩⟩
 #aC (λc=>?_) (λc=>?_)
 . !hc:aY ks (.inl (p:Int))=Z:=by
     cases e:aY ks (.inl (p:Int))with
     | none=>rfl
     | some _=>rw[e]at c;cases c
   !RX:=Paired.length Di
   #af U ⟨x,C1,xb,xj,af U ⟨kS,c1,n1,JK,bu U ⟨_,aB.of De⟩ (λl hl=>?_)⟩⟩
   #aV (xs:=as.map V.ref) (λi H2=>∃ts:O J,ak H H2/\H2 l=S (.lst (ts.map V.ref))/\Paired (λt r=>∃said to ws l1 l2,cL bs r nd=S (said,to,ws)/\H2 t=S (.tup [.ref l1,.int to,.ref l2])/\H2 l1=S (.lst (said.map V.int))/\H2 l2=S (.lst (ws.map V.int))/\t≠l/\l1≠l/\l2≠l) ts ((av bs).take i)) ⟨[],ah hl _,ae,.nil⟩ (λi H2 y z=>aB.of (z.choose_spec.1 _ _ De)) (λi a0 H2 Mf z=>?_) (λH2 z=>?_)
   . @⟨ts,s2,g2,p2⟩:=z
     @⟨a,ha,rfl⟩:=aX Mf
     @⟨r,dO,vz⟩:=Paired.get Di ha
     !du:i<(as.map V.ref)~:=(aH Mf)
     !tl:=Paired.length p2
     rw[aea]at tl
     #aS ?_
     #bQ (A:=λH3=>cB _ l _ H3 _) ?_
     #af U ?_
     #bJ (s2 _ _ hx) cl (fU.get (by left)) Q8 ?_
     #af U (af U ⟨v,(p:Int),a,bs,r,ins,nds,nd,m,U,⟨pre.pa.same s2,pre.ndn,pre.len,pre.sz,s2 _ _ vz,b9 (ad4 dO),by lia,by rw[aes];#pre.here,pre.gd⟩,(λe=>?_),λsaid to ws e t l1 l2 H3 T=>?_⟩)
     . cases nd with
       | fin=>#aw rfl pre.nf
       | put _ _ _=>cases e
       | say _ _=>cases e
       | test _ _ _=>cases e
     !nn:∀{b:J},H2 b=Z->b≠l:=λh z=>by rw[z,g2]at h;cases h
     #⟨_,T.s _ _ g2,oF (by rw[ad1];lia),aF (Pv:=λi H2=>∃ts:O J,ak H H2/\H2 l=S (.lst (ts.map V.ref))/\Paired (λt r=>∃said to ws l1 l2,cL bs r nd=S (said,to,ws)/\H2 t=S (.tup [.ref l1,.int to,.ref l2])/\H2 l1=S (.lst (said.map V.int))/\H2 l2=S (.lst (ws.map V.int))/\t≠l/\l1≠l/\l2≠l) ts ((av bs).take i)) (by repeat' constructor) du ⟨ts++[t],aE (aa s2 T.s) hl,by rw[ae,aeb];rfl,?_⟩⟩
     rw[aec,dO]
     #Paired.snoc (Paired.aP p2 λt0 r0 ⟨f1,f2,f3,d1,d2,h0,h1,h2,h3,h4,h5,h6⟩=>⟨f1,f2,f3,d1,d2,h0,?_,?_,?_,h4,h5,h6⟩) ⟨said,to,ws,l1,l2,e,?_,?_,?_,nn T.hr,nn T.h1,nn T.h2⟩
     . rw[aj h4];#T.s _ _ h1
     . rw[aj h5];#T.s _ _ h2
     . rw[aj h6];#T.s _ _ h3
     . rw[aj (nn T.hr)];#T.er
     . rw[aj (nn T.h1)];#T.e1
     . rw[aj (nn T.h2)];#T.e2
   @⟨ts,s2,g2,p2⟩:=z
   rw[ad1,RX,aed]at p2
   !tsl:=Paired.length p2
   #af U (bu U ⟨_,aB.of g2⟩ (λl3 zV=>?_))
   #aV (xs:=ts.map V.ref) (λi H3=>∃(us:O J) (F:Tl),ak H2 H3/\H3 l3=S (.lst (us.map V.ref))/\Paired (λt f=>∃e,H3 t=S (.tup [.ref e,.int f.2.1,.int (f.2.2:Nat)])/\H3 e=S (.lst (f.1.map V.int))/\e≠l3) us F/\Paired (λr f=>∃ws,cL bs r nd=S (f.1,f.2.1,ws)/\(av bs)[f.2.2]?=S ws) ((av bs).take i) F) ⟨[],[],ah zV _,ae,.nil,.nil⟩ (λi H3 y z=>aB.of (z.choose_spec.choose_spec.1 _ _ g2)) (λi t0 H3 WR z=>?_) (λH3 z=>?_)
   . @⟨us,F,s3,g3,p3,pF⟩:=z
     @⟨tt,mm,rfl⟩:=aX WR
     @⟨r,dO,said,to,ws,l1,l2,es,h1,h2,h3,_⟩:=Paired.get p2 mm
     !du:i<(ts.map V.ref)~:=(aH WR)
     !hw:=(iS pre.sz (b9 (ad4 dO)) pre.gd es).2.2.1
     @⟨j,hj⟩:=aeB (eB hw)
     !usl:=Paired.length p3
     !Fl:=Paired.length pF
     rw[aea]at Fl
     #LS (s3 _ _ h1) ?_
     #bQ (A:=λH3=>cB _ l3 _ H3 _) ?_
     !s23:=aa s2 s3
     #af U (af U (af U ⟨x,dx,fs,U,s23 _ _ hx,jI _ (by left),af U ⟨x,l2,v,av bs,st,sy,ws,j,U,⟨cl,fU,dx,fs,nb,kvs,s23 _ _ hx,Q8,UY,lst,MC,s23 _ _ lq,ok,jI⟩,s3 _ _ h3,hj,λH4 s4=>⟨akB,λt ht=>?_⟩⟩⟩))
     !s5:ak H3 (upd H4 t (.tup [.ref l1,.int to,.int (j:Nat)])):=aa s4 (ah ht _)
     !g5:(upd H4 t (.tup [.ref l1,.int to,.int (j:Nat)])) t=S (.tup [.ref l1,.int to,.int (j:Nat)]):=ae
     generalize upd H4 t (.tup [.ref l1,.int to,.int (j:Nat)])=H5 at s5 g5 ⊢
     !nt:∀{a:J} {xs:O V},H5 a=S (.tup xs)->a≠l3:=λe z=>by rw[z,s5 _ _ g3]at e;cases e
     !n2:∀{a:J} {o:HO},H2 a=S o->a≠l3:=λe z=>by rw[z,zV]at e;cases e
     #⟨_,s5 _ _ g3,oF (by rw[ad1];lia),aF (Pv:=λi H3=>∃(us:O J) (F:Tl),ak H2 H3/\H3 l3=S (.lst (us.map V.ref))/\Paired (λt f=>∃e,H3 t=S (.tup [.ref e,.int f.2.1,.int (f.2.2:Nat)])/\H3 e=S (.lst (f.1.map V.int))/\e≠l3) us F/\Paired (λr f=>∃ws,cL bs r nd=S (f.1,f.2.1,ws)/\(av bs)[f.2.2]?=S ws) ((av bs).take i) F) (by repeat' constructor) du ⟨us++[t],F++[(said,to,j)],aE (aa s3 s5) zV,by rw[ae,aeb];rfl,?_,?_⟩⟩
     . #Paired.snoc (Paired.aP p3 λt0 f ⟨e0,h1,h2,h3⟩=>⟨e0,?_,?_,h3⟩) ⟨l1,?_,?_,n2 h2⟩
       . rw[aj (nt (s5 _ _ h1))];#s5 _ _ h1
       . rw[aj h3];#s5 _ _ h2
       . rw[aj (nt g5)];#g5
       . rw[aj (n2 h2)];#s5 _ _ (s3 _ _ h2)
     . rw[aec,dO]
       #Paired.snoc pF ⟨ws,es,hj⟩
   @⟨us,F,s3,g3,p3,pF⟩:=z
   rw[ad1,tsl,aed]at pF
   !s23:=aa s2 s3
   !Qk:gH H3 F (.ref l3):=⟨l3,us,rfl,g3,Paired.aP p3 λ_ _ ⟨e,h1,h2,_⟩=>⟨e,h1,h2⟩⟩
   !d2:=s23 _ _ hd
   !kl:ks~=ps~:=by !:=congrArg agS hk;rwa[ad1,ad1]at this
   !pl:=Au n ps U3 lt
   !rF:gX bs nds p F:=⟨nd,pre.here,pF⟩
   #af U ?_
   #bJ (s23 _ _ hx) cl (fU.get (by left)) lst ?_
   #af U ⟨st,af U ⟨ir.k (k:=(.inl (p:Int):Key)) d2 (oF (by lia)),?_⟩⟩
   !R1:=dC.put d2 hk U3 lt (λp v h=>let⟨F,r,t⟩:=hv p v h;⟨F,r,t.sm (ak.sm s23)⟩) hp hc rF Qk
   !kp:Kp st H (upd H3 st (.dK (putK ks (.inl (p:Int)) (.ref l3)))):=((Kp.refl H).same s23).self
   !nx:x≠st:=λz=>by rw[z,hd]at hx;cases hx
   !g':=dv.k (H:=upd H3 st (.dK (putK ks (.inl (p:Int)) (.ref l3)))) (a:=st) (k:=(.inl (p:Int):Key)) ae
   rw[ck,aR rfl]at g'
   #af U ?_
   #bJ (kp _ _ hx nx) cl (fU.get (by left)) lst ?_
   #af U ⟨st,af U ⟨g',q _ _ _ kp R1 rF (Qk.sm ((Kp.refl (d:=st) H3).self.sm d2))⟩⟩
 . cases hc:aY ks (.inl (p:Int))with
   | none=>rw[hc]at c;#aw rfl c
   | some u=>
     @⟨F,r,tl⟩:=hv p u hc
     rw[hc]at g
     #af U ?_
     #bJ hx cl (fU.get (by left)) lst ?_
     #af U ⟨st,u,U,g,q _ u F (Kp.refl H) ⟨ks,ps,hd,hk,U3,lt,hv⟩ r tl⟩
abbrev HQ:Stmt:=dq 35 1
abbrev Lr:Stmt:=dq 35 3
abbrev PD:Stmt:=top 27
def cC.sm {K:ad2}{H H':Hp}{a:J}{W:O (O Int)}(h:cC K H a W)(s:Sm H H'):cC K H' a W:=by
 @⟨C1,xb,xj,lw,as,c,n,ha,l,hl,p⟩:=h
 #⟨C1,xb,xj,lw,as,c,n,s _ _ ha (λy z=>nomatch z),l,s _ _ hl (λy z=>nomatch z),Paired.aP p λy y z=>s _ _ z (λy z=>nomatch z)⟩
def dR.sm {K:ad2}{C:J}{H H':Hp}{a st sy:J}{v:V}{W:O (O Int)}(h:dR K C H a v W st sy)(s:Sm H H'):dR K C H' a v W st sy:=by
 @⟨cl,n,dx,fs,nb,kvs,h1,h2,h3,h4,h5,h6,h7⟩:=h
 #⟨cl,n,dx,fs,nb,kvs,s _ _ h1 (λy z=>nomatch z),h2,h3,h4,h5,s _ _ h6 (λy z=>nomatch z),h7⟩
structure Gr (K:ad2)(C CS:J)(H:Hp)(g:J)(v1 v2:V)(b1 b2:ag)(c:Ca):Prop where
 a:oP K C H g b1 b2
 m:VX K C CS H g v1 v2 b1 b2 c
section
variable{C CS:J}{H H':Hp}{g:J}{v1 v2:V}{b1 b2:ag}{c:Ca}
def Gr.sm (h:Gr K C CS H g v1 v2 b1 b2 c)(s:Sm H H'):Gr K C CS H' g v1 v2 b1 b2 c:=by
 @⟨⟨cl,na,dx,fs,m,y,rl,cd,kvs,h1,h2,h3,h4,h5,h6,h7,h8,h9,DQ,h11,Nm⟩,QG,fs',m',y',k1,k2,k3,k4,k5⟩:=h
 #⟨⟨cl,na,dx,fs,m,y,rl,cd,kvs,s _ _ h1 (λw z=>nomatch z),h2,h3,h4,h5,h6,h7.sm s,h8.sm s,s _ _ h9 (λw z=>nomatch z),s _ _ DQ (λw z=>nomatch z),λt x=>⟨λhx=>?_,(h11 t x).2⟩,Nm⟩,QG,fs',m',y',s _ _ k1 (λw z=>nomatch z),k2,k3,k4.sm s,k5.sm s⟩
 @⟨col,e1,e2⟩:=(h11 t x).1 hx
 #⟨col,e1,s _ _ e2 (λw z=>nomatch z)⟩
def Gr.same (h:Gr K C CS H g v1 v2 b1 b2 c)(s:ak H H'):Gr K C CS H' g v1 v2 b1 b2 c:=h.sm (ak.sm s)
def Gr.view (h:Gr K C CS H g v1 v2 b1 b2 c):∃(dx:J) (fs:O (Str×V)) (m y rl cd:J) (kvs:O (O Key×V)),H g=S (.ins C dx fs)/\lk fs "mine"=S (.ref m)/\lk fs "yours"=S (.ref y)/\lk fs "width"=S (.int ((av b2)~:Nat))/\lk fs "rows"=S (.ref rl)/\lk fs "columns"=S (.ref cd) /\
   cC K H m (av b1)/\cC K H y (av b2)/\H rl=S (.lst ((aem (nR b1 b2)).map λi:Nat=>V.int i))/\H cd=S (.dT kvs)/\iY b1 b2 H kvs (qB b1 b2)/\(∀f,f∉(["mine","yours","width","rows","columns"]:O Str)->lk fs f=Z)/\dR K CS H m v1 (av b1) c.s1 c.t1/\dR K CS H y v2 (av b2) c.s2 c.t2:=by
 @⟨⟨cl,na,dx,fs,m,y,rl,cd,kvs,h1,h2,h3,h4,h5,h6,h7,h8,h9,DQ,h11,Nm⟩,QG,fs',m',y',k1,k2,k3,k4,k5⟩:=h
 rw[h1]at k1
 cases k1
 rw[h2]at k2
 cases k2
 rw[h3]at k3
 cases k3
 #⟨dx,fs,m,y,rl,cd,kvs,h1,h2,h3,h4,h5,h6,h7,h8,h9,DQ,h11,Nm,k4,k5⟩
end
def uO (K:ad2)(C CS:J):Sp:=λvs H Q z=>∃(g a b:J) (v1 v2:V) (b1 b2:ag) (c:Ca) (w1 w2:O Int) (i j:Nat),vs=[.ref g,.ref a,.ref b]/\Gr K C CS H g v1 v2 b1 b2 c/\H a=S (.lst (w1.map V.int))/\H b=S (.lst (w2.map V.int))/\(av b1)[i]?=S w1/\(av b2)[j]?=S w2/\(av b1)~<=900/\(av b2)~<=900/\∀H',ak H H'->Q (.int ((i*(av b2)~+j:Nat):Int)) H'
def LC:aA ["self","mine","yours"] ["self","mine","yours"] (ao HQ):=dX
def ES {C CS:J}{f:J}{fd:aef}(F:cF K "row_of" "Ground.row_of" HQ f fd)(cs:lj K CS)(NO:fY P w K mg base CS "number_of" ["self","worths"] 1 (qb K CS)):aL P w K mg base cm 2 f fd ["self","mine","yours"] (uO K C CS):=by
 #F.eO LC λcdv A outer s H vs Q E hr h=>?_
 @⟨g,a,b,v1,v2,b1,b2,c,w1,w2,i,j,rfl,gr,ha,hb,hi,hj,l1,l2,q⟩:=h
 #f7 ⟨_,(aiA (aiF (aiB aiZ (aiB ai5 (aji (aiP (Y 0)) cs NO hr (L (Y 1) M)) (aiP (Y 0))) (aji (aiP (Y 0)) cs NO hr (L (Y 2) M))))),?_⟩
 !cl:=gr.a.cl
 !fU:=gr.a.na
 @⟨dx,fs,m,y,rl,cd,kvs,hg,lm,ly,MD,_,_,_,_,_,_,_,_,sm,sy⟩:=gr.view
 @⟨_,_,dm,fm,_,_,hm,_,_,_,_,_,_,nm⟩:=id sm
 @⟨_,_,dy,fy,_,_,hy,_,_,_,_,_,_,ny⟩:=id sy
 !il:=(aH hi)
 #af U ?_
 #bJ hg cl (fU.get (by left)) lm ?_
 #⟨m,dm,fm,U,hm,nm _ (by left),af U ⟨m,a,v1,_,_,_,w1,i,U,sm,ha,hi,λH1 s1=>?_⟩⟩
 #af U ?_
 #bJ (s1 _ _ hg) cl (fU.get (by left)) MD ?_
 #dB U U (.inl ⟨by lia,by lia⟩) (af U ?_)
 #bJ (s1 _ _ hg) cl (fU.get (by left)) ly ?_
 #⟨y,dy,fy,U,s1 _ _ hy,ny _ (by left),af U ⟨y,b,v2,_,_,_,w2,j,U,sy.same s1,s1 _ _ hb,hj,λH2 s2=>(aJ U U ?_)⟩⟩
 rw[Int.natCast_add,Int.natCast_mul]at q
 #q H2 (aa s1 s2)
def Ih:Sp:=λvs H Q z=>∃(v:V) (bs:ag) (ins:O Str) (nds:O Nd),vs=[v]/\aN H v bs ins nds/\Fits bs ins/\(∀s∈ins.map (bN bs),0<=s/\s<=900)/\(∀i,(bV ((ins.map (bN bs)).take i))~<=900)/\∀l as H',Own H H' l as (bV (ins.map (bN bs)))->Q (.ref l) H'
def PX:aA ["program"] ["program"] (ao PD):=dX
def J5 {f:J}{fd:aef}(F:cF K "every_input" "every_input" PD f fd)(EW:bI P w K mg base "every_worths" ["sizes"] 1 we)(IS:bI P w K mg base "input_sizes" ["program"] 1 jn):aL P w K mg base cm 2 f fd ["program"] Ih:=by
 #F.eO PX λcdv A outer s H vs Q E hr h=>?_
 @⟨v,bs,ins,nds,rfl,pa,ft,h1,h2,q⟩:=h
 #⟨_,ai7 (aiA (aiF (aiJ EW hr U (L (aiJ IS hr U (L (Y 0) M)) M)))),?_⟩
 #af U ⟨v,bs,ins,nds,U,pa,ft,λl H1 hl s1 e1=>?_⟩
 #⟨l,af U ⟨e1,h1,by rw[ad1];#ft.ilen,h2,λl2 as H2 O8=>q l2 as H2 (O8.from s1)⟩⟩
def xO (rows:O Nat)(k:Nat):cD (rows++[k])=cD rows++[V.int (k:Nat)]:=aeb
def lM (b1 b2:ag)(ins:O Str)(r:O Int)(k:Nat):Prop:=∃i j,(av b1)[i]?=S (dE b1 ins r)/\(av b2)[j]?=S (dE b2 ins r)/\k=i*(av b2)~+j
structure L6 (H:Hp)(v1 v2:V)(b1 b2:ag)(ins:O Str)(n1 n2:O Nd):Prop where
 p:V3 H v1 v2 b1 b2 ins n1 n2
 l1:(av b1)~<=900
 l2:(av b2)~<=900
 si:∀s∈ins.map (bN b1),0<=s/\s<=900
 li:∀i,(bV ((ins.map (bN b1)).take i))~<=900
def BP (K:ad2)(C CS:J):Sp:=λvs H Q z=>∃(g:J) (v1 v2:V) (b1 b2:ag) (c:Ca) (ins:O Str) (n1 n2:O Nd),vs=[.ref g]/\Gr K C CS H g v1 v2 b1 b2 c/\L6 H v1 v2 b1 b2 ins n1 n2 /\
 ∀(l:J) (rows:O Nat) (H':Hp),ak H H'->H l=Z->H' l=S (.lst (cD rows))->Paired (lM b1 b2 ins) (bV (ins.map (bN b1))) rows->Q (.ref l) H'
def Bw:aA ["self","one","other"] ["self"] (ao Lr):=dX
def JY {C CS:J}{f:J}{fd:aef}(F:cF K "beginnings" "Ground.beginnings" Lr f fd)(EI:bI P w K mg base "every_input" ["program"] 2 Ih)(BG0:bI P w K mg base "beginning_of" ["program","inputs"] 2 v8)(RO0:fY P w K mg base C "row_of" ["self","mine","yours"] 2 (uO K C CS)):aL P w K mg base cm 3 f fd ["self"] (BP K C CS):=by
 #F.eO Bw λcdv A outer s H vs Q E hr h=>?_
 @⟨g,v1,v2,b1,b2,c,ins,n1,n2,rfl,gr,pr,q⟩:=h
 !BG:=BG0
 !RO:=RO0
 !cl:=gr.a.cl
 #f7 ⟨_,(aiz (ajg (aiG (L (aiP (aiP (Y 0))) (L (aiP (aiP (Y 0))) M))) (aiT 2 (aiI (aiC 1 Bw.nd) (aiI (aiC 2 Bw.nd) aiU))))
   (aiA (aiF (aiY [Z,S 0,S 1,S 2] ["inputs","self","one","other"] (ij Lr) U (aiW (aiJ EI hr U (L (Y 1) M))) (λx x x x x=>⟨(aiC 0 (dW ["inputs","self","one","other"])),aiV,(aji (Y 1) cl RO hr (L (aiJ BG hr U (L (Y 2) (L (Y 0) M))) (L (aiJ BG hr U (L (Y 3) (L (Y 0) M))) M)))⟩))))),?_⟩
 !fU:=gr.a.na
 @⟨dx,fs,m,y,rl,cd,kvs,hg,lm,ly,MD,_,_,_,_,_,_,_,jI,sm,sy⟩:=gr.view
 @⟨cs,Ox,dm,fm,_,_,hm,UZ,_⟩:=id sm
 @⟨_,_,dy,fy,_,_,hy,U0,_⟩:=id sy
 #af U ?_
 #bJ hg cl (fU.get (by left)) lm ?_
 #bJ hm cs (Ox.get (by left)) UZ ?_
 #af U ?_
 #bJ hg cl (fU.get (by left)) ly ?_
 #bJ hy cs (Ox.get (by left)) U0 ?_
 #⟨akA,λtp Oc=>?_⟩
 @⟨H0,s0,g0,zz⟩:=aK Oc (.tup [v1,v2])
 rw[zz];clear zz
 #nJ g0 ?_
 #af U ⟨v1,b1,ins,n1,U,pr.p.p1.same s0,pr.p.f1,pr.si,pr.li,λl as H1 O8=>(bu U ⟨_,aB.of O8.e⟩ (λlr Mw=>?_))⟩
 #aV (xs:=as.map V.ref) (λi H2=>∃rows:O Nat,ak H1 H2/\H2 lr=S (.lst (cD rows))/\Paired (lM b1 b2 ins) ((bV (ins.map (bN b1))).take i) rows) ⟨[],ah Mw _,ae,.nil⟩ (λi H2 x z=>aB.of (z.choose_spec.1 _ _ O8.e)) (λi a0 H2 Mf z=>?_) (λH2 z=>?_)
 . @⟨rows,s2,g2,p2⟩:=z
   @⟨a,ha,rfl⟩:=aX Mf
   @⟨r,dO,vz⟩:=Paired.get O8.p ha
   !du:i<(as.map V.ref)~:=(aH Mf)
   !rl':=Paired.length p2
   rw[aea]at rl'
   !gl:=pr.li (ins.map (bN b1))~
   rw[aed]at gl
   !s02:ak H H2:=aa s0 (aa O8.s s2)
   !MK:=b9 (ad4 dO)
   !Rl:Paired Within (ins.map (bN b2)) r:=by rw[← pr.p.sz];#MK
   @⟨i1,yK⟩:=aeB (eB (gJ pr.p.f1.nd pr.p.f1.sz MK))
   @⟨j1,WD⟩:=aeB (eB (gJ pr.p.f2.nd pr.p.f2.sz Rl))
   #aS ?_
   #bQ (A:=λH3=>cB _ lr _ H3 _) ?_
   #af U ⟨g,dx,fs,U,s02 _ _ hg,jI _ (by left),af U (af U ⟨v1,a,b1,ins,n1,r,U,pr.p.p1.same s02,pr.p.f1,s2 _ _ vz,MK,λla H3 Mu s3 Sl=>?_⟩)⟩
   !s03:=aa s02 s3
   #af U (af U ⟨v2,a,b2,ins,n2,r,U,pr.p.p2.same s03,pr.p.f2,s3 _ _ (s2 _ _ vz),Rl,λlb H4 TH s4 Sn=>?_⟩)
   !s04:=aa s03 s4
   #⟨g,la,lb,v1,v2,b1,b2,c,_,_,i1,j1,U,gr.same s04,s4 _ _ Sl,Sn,yK,WD,pr.l1,pr.l2,λH5 s5=>?_⟩
   !Pq:=aa s3 (aa s4 s5)
   #⟨_,Pq _ _ g2,oF (by rw[ad1];lia),aF (Pv:=λi H2=>∃rows:O Nat,ak H1 H2/\H2 lr=S (.lst (cD rows))/\Paired (lM b1 b2 ins) ((bV (ins.map (bN b1))).take i) rows) (by repeat' constructor) du ⟨rows++[i1*(av b2)~+j1],aE (aa s2 Pq) Mw,by rw[ae,xO],?_⟩⟩
   rw[aec,dO]
   #Paired.snoc p2 ⟨i1,j1,yK,WD,U⟩
 @⟨rows,s2,g2,p2⟩:=z
 rw[ad1,Paired.length O8.p,aed]at p2
 #q lr rows H2 (aa s0 (aa O8.s s2)) (aq s0 (aq O8.s Mw)) g2 p2
abbrev PL:Stmt:=top 43
abbrev Pz:Stmt:=top 42
structure Ef where
 e:En
 who:Str
 wait:E
def fO (H:Hp)(v:V)(f:Ef):Prop:=∃cv wv,Tp H v [.int f.e.p,.int f.e.q,cv,.str f.who,wv]/\dP H cv f.e.c/\dP H wv f.wait
def fO.en {H:Hp}{v:V}{f:Ef}(h:fO H v f):IB H v f.e:=by@⟨cv,wv,h1,h2,_⟩:=h;#⟨cv,_,wv,h1,h2⟩
def fO.keep {H H':Hp}{v:V}{f:Ef}(h:fO H v f)(k:TK H H'):fO H' v f:=by@⟨cv,wv,h1,h2,h3⟩:=h;#⟨cv,wv,h1.keep k,h2.keep k,h3.keep k⟩
abbrev gT (a:Str):Bool:=qX (.str a) [.str "put",.str "test"]
def eN (a b w:Str):Bool:=if w="mine" then gT a else if w="yours" then gT b else if w="both" then(decide (a=b)&&decide (b="say")) || (gT a&&gT b)else decide (a=b)&&decide (b="end")
def Ce (K:ad2)(C CS:J):Sp:=λvs H Q z=>∃(g:J) (ev v1 v2:V) (b1 b2:ag) (c:Ca) (ins:O Str) (n1 n2:O Nd) (f:Ef) (p q:Nat) (nd1 dI:Nd),vs=[.ref g,ev]/\Gr K C CS H g v1 v2 b1 b2 c/\aN H v1 b1 ins n1/\aN H v2 b2 ins n2/\fO H ev f/\f.e.p=(p:Nat)/\f.e.q=(q:Nat)/\n1[p]?=S nd1/\n2[q]?=S dI/\Q (.bl (eN (ip nd1) (ip dI) f.who)) H
def HY:aA ["ground","entry","first","second","who"] ["ground","entry"] (ao PL):=dX
def Kg {C CS:J}{f:J}{fd:aef}(F:cF K "turn_fits" "turn_fits" PL f fd)(cs:lj K CS)(KA:fY P w K mg base CS "kind_at" ["self","place"] 1 (uL K CS))(QT:lU K mg "QUIET" ["put","test"]):aL P w K mg base cm 2 f fd ["ground","entry"] (Ce K C CS):=by
 #F.eO HY λcdv A outer s H vs Q E hr h=>?_
 @⟨g,ev,v1,v2,b1,b2,c,ins,n1,n2,⟨⟨fp,fq,fc⟩,who,fw⟩,p,q',nd1,dI,rfl,gr,Ky,OP,⟨cv,wv,⟨a,rfl,ha⟩,_,_⟩,ep,eq,h1,h2,q⟩:=h
 @⟨tq,mQ,cQ⟩:=QT
 #f7 ⟨_,(aiz (L3.OR 2 3 4 HY.nd (L (aji (aiP (Y 0)) cs KA hr (L (aiy aiE (Y 1) aix) M)) (L (aji (aiP (Y 0)) cs KA hr (L (aiy aiE (Y 1) aix) M)) (L (aiy aiE (Y 1) aix) M))))
   (aiz (aiM (aiK aiR (Y 4) aiD) (aiA (aiF (ai4 ajl (Y 2) (ai6 (w:=.ref tq) U mQ rfl) U))) aiN)
   (aiz (aiM (aiK aiR (Y 4) aiD) (aiA (aiF (ai4 ajl (Y 3) (ai6 (w:=.ref tq) U mQ rfl) U))) aiN)
   (aiz (aiM (aiK aiR (Y 4) aiD) (aiA (aiF (L3.Vb (L3.zf aiR aiR (Y 2) (Y 3) aiD) (L3.EZ (L3.u9 (ai4 ajl (Y 2) (ai6 (w:=.ref tq) U mQ rfl) U) (L3.EZ (ai4 ajl (Y 3) (ai6 (w:=.ref tq) U mQ rfl) U))))))) aiN)
   (aiA (aiF (L3.zf aiR aiR (Y 2) (Y 3) aiD))))))),?_⟩
 !ep:fp=(p:Int):=ep
 !eq:fq=(q':Int):=eq
 subst ep eq
 !cl:=gr.a.cl
 !fU:=gr.a.na
 @⟨dx,fs,m,y,rl,cd,kvs,hg,lm,ly,MD,_,_,_,_,_,_,_,jI,sm,sy⟩:=gr.view
 @⟨_,_,dm,fm,_,_,hm,_,_,_,_,_,_,nm⟩:=id sm
 @⟨_,_,dy,fy,_,_,hy,_,_,_,_,_,_,ny⟩:=id sy
 #af U ?_
 #bJ hg cl (fU.get (by left)) lm ?_
 #⟨m,dm,fm,U,hm,nm _ (by left),af U ?_⟩
 #aW ha U ?_
 #⟨m,v1,_,_,_,b1,ins,n1,p,nd1,U,sm,Ky,h1,?_⟩
 #af U ?_
 #bJ hg cl (fU.get (by left)) ly ?_
 #⟨y,dy,fy,U,hy,ny _ (by left),af U ?_⟩
 #aW ha U ?_
 #⟨y,v2,_,_,_,b2,ins,n2,q',dI,U,sy,OP,h2,?_⟩
 #af U ?_
 #aW ha U ?_
 generalize ip nd1=k1 at q ⊢
 generalize ip dI=k2 at q ⊢
 !q:Q (.bl (eN k1 k2 who)) H:=q
 unfold eN at q
 #⟨_,_,af U ?_⟩
 #af U (bB U U ?_)
 #aC (λc=>?_) (λc=>?_)
 . !e:who="mine":=by simpa[jU]using c
   rw[aR e]at q
   #af U ⟨tq,af U ⟨.inr (cQ _),U,U,q⟩⟩
 rw[aM (show ¬ who="mine" from λe=>c (by simp[jU,e]))]at q
 #af U (bB U U ?_)
 #aC (λc=>?_) (λc=>?_)
 . !e:who="yours":=by simpa[jU]using c
   rw[aR e]at q
   #af U ⟨tq,af U ⟨.inr (cQ _),U,U,q⟩⟩
 rw[aM (show ¬ who="yours" from λe=>c (by simp[jU,e]))]at q
 #af U (bB U U ?_)
 #aC (λc=>?_) (λc=>?_)
 . !e:who="both":=by simpa[jU]using c
   rw[aR e]at q
   #af U (af U (bB U U ?_))
   #aC (λc1=>?_) (λc1=>?_)
   . !e1:k1=k2:=by simpa using c1
     #bB U U ?_
     #aC (λc2=>?_) (λc2=>?_)
     . !e2:k2="say":=by simpa using c2
       rw[show(decide (k1=k2)&&decide (k2="say"))=true by simp[e1,e2],Bool.true_or]at q
       #q
     . rw[show(decide (k1=k2)&&decide (k2="say"))=false by
         !:¬ k2="say":=λe=>c2 (by simp[e])
         simp[this],ahc]at q
       #af U ⟨tq,af U ⟨.inr (cQ _),U,bB U U ?_⟩⟩
       #aC (λc3=>?_) (λc3=>?_)
       . !IY:gT k1=true:=c3
         rw[IY,aha]at q
         #af U ⟨tq,af U ⟨.inr (cQ _),U,U,q⟩⟩
       . !IY:gT k1=false:=Bool.eq_false_iff.mpr c3
         rw[IY,afS]at q
         #q
   . rw[show(decide (k1=k2)&&decide (k2="say"))=false by
       !:¬ k1=k2:=λe=>c1 (by simp[e])
       simp[this],ahc]at q
     #af U (mn ?_)
     #af U ⟨tq,af U ⟨.inr (cQ _),U,bB U U ?_⟩⟩
     #aC (λc3=>?_) (λc3=>?_)
     . !IY:gT k1=true:=c3
       rw[IY,aha]at q
       #af U ⟨tq,af U ⟨.inr (cQ _),U,U,q⟩⟩
     . !IY:gT k1=false:=Bool.eq_false_iff.mpr c3
       rw[IY,afS]at q
       #q
 rw[aM (show ¬ who="both" from λe=>c (by simp[jU,e]))]at q
 #af U (af U (bB U U ?_))
 #aC (λc1=>?_) (λc1=>?_)
 . !e1:k1=k2:=by simpa using c1
   #⟨U,?_⟩
   rw[show(decide (k1=k2)&&decide (k2="end"))=decide (V.str k2=V.str "end")by simp[e1]]at q
   #q
 . rw[show(decide (k1=k2)&&decide (k2="end"))=false by
     !:¬ k1=k2:=λe=>c1 (by simp[e])
     simp[this]]at q
   #q
structure yU (b1 b2:ag)(n1 n2:O Nd)(f:Ef)(p q n:Nat):Prop where
 ep:f.e.p=(p:Nat)
 eq:f.e.q=(q:Nat)
 pl:p<n1~
 ql:q<n2~
 who:qX (.str f.who) [.str "mine",.str "yours",.str "both",.str "end"]=true
 ok:f.e.c.okIn (qB b1 b2)
 dp:f.e.c.dep<n
 okw:f.wait.okIn (qB b1 b2)
 dw:f.wait.dep<n
abbrev oO (b1 b2:ag)(n1 n2:O Nd)(f:Ef)(n:Nat):Prop:=∃p q,yU b1 b2 n1 n2 f p q n
structure LY (f:Ef)(n:Nat):Prop where
 oc:f.e.c.okIn lg
 dc:f.e.c.dep<n
 ow:f.wait.okIn lg
 dw:f.wait.dep<n
def iY.kn {b1 b2:ag}{H:Hp}{kvs:O (O Key×V)}(h:iY b1 b2 H kvs (qB b1 b2))(t x:Str):fD kvs t x=true↔qB b1 b2 t x:=⟨(h t x).2,λz=>let⟨_,e,_⟩:=(h t x).1 z;by unfold fD;rw[e];rfl⟩
def BV (K:ad2)(C CS:J)(n:Nat):Sp:=λvs H Q z=>∃(g:J) (ev v1 v2:V) (b1 b2:ag) (c:Ca) (ins:O Str) (n1 n2:O Nd) (f:Ef),vs=[.ref g,ev]/\Gr K C CS H g v1 v2 b1 b2 c/\aN H v1 b1 ins n1/\aN H v2 b2 ins n2/\fO H ev f/\LY f n/\∀(b:Bool) (H':Hp),ak H H'->(b=true↔oO b1 b2 n1 n2 f n)->Q (.bl b) H'
def oB:aA ["ground","entry","p","q","condition","who","wait"] ["ground","entry"] (ao Pz):=dX
def J2 {C CS:J}{n:Nat}{f:J}{fd:aef}(F:cF K "entry_fits" "entry_fits" Pz f fd)(m_len:mg "len"=Z)(AK:bI P w K mg base "all_known" ["known","told"] (n+1) (eL n))(TT:lU K mg "TURNS" ["mine","yours","both","end"]):aL P w K mg base cm (n+2) f fd ["ground","entry"] (BV K C CS n):=by
 #F.eO oB λcdv A outer s H vs Q E hr h=>?_
 @⟨g,ev,v1,v2,b1,b2,c,ins,n1,n2,⟨⟨fp,fq,fc⟩,who,fw⟩,rfl,gr,⟨pp,B,I,N,vb,vn,rfl,hp,hB,hI,hN,pb,pn⟩,⟨pp',B',I',N',XZ,VH,rfl,r6,Ws,QV,Su,Xj,Vk⟩,⟨cv,wv,⟨a,rfl,ha⟩,ec,ew⟩,⟨oc,dc,ow,dw⟩,q⟩:=h
 @⟨tt,mT,cT⟩:=TT
 #f7 ⟨_,(aiz (ajg (Y 1) (aiT 5 (aiI (aiC 2 oB.nd) (aiI (aiC 3 oB.nd) (aiI (aiC 4 oB.nd) (aiI (aiC 5 oB.nd) (aiI (aiC 6 oB.nd) aiU)))))))
   (aiz (aiM (aje (ajb (aiK ai9 (Y 2) aix) (ajb (aiK L3.AI (Y 2) (aiS aiX U m_len aeo (L (aiy aiE (aiP (aiP (Y 0))) aix) M))) (ajb (aiK ai9 (Y 3) aix) (ajk (aiK L3.AI (Y 3) (aiS aiX U m_len aeo (L (aiy aiE (aiP (aiP (Y 0))) aix) M)))))))) (aiA (aiF ai1)) aiN)
   (aiA (aiF (L3.u9 (ai4 ajl (Y 5) (ai6 (w:=.ref tt) U mT rfl) U) (L3.u9 (aiJ AK hr U (L (aiP (Y 0)) (L (Y 4) M))) (L3.EZ (aiJ AK hr U (L (aiP (Y 0)) (L (Y 6) M)))))))))),?_⟩
 !ha:H a=S (.tup [.int fp,.int fq,cv,.str who,wv]):=ha
 !cl:=gr.a.cl
 !fU:=gr.a.na
 @⟨dx,fs,m,y,rl,cd,kvs,hg,lm,ly,MD,_,WZ,_,_,_,hcd,col,jI,sm,sy⟩:=gr.view
 @⟨cs,Ox,dm,fm,_,_,hm,UZ,_⟩:=id sm
 @⟨_,_,dy,fy,_,_,hy,U0,_⟩:=id sy
 !vl:=Paired.length pn
 !vl':=Paired.length Vk
 !no:∀{H':Hp},ak H H'->¬ oO b1 b2 n1 n2 ⟨⟨fp,fq,fc⟩,who,fw⟩ n->Q (.bl false) H':=λs h=>q false _ s ⟨(λz=>nomatch z),λz=>aw z h⟩
 #af U (aJ U (dY.of ha) ⟨U,_,af U ⟨_,af U ⟨_,af U ⟨_,af U (aJ U U ?_)⟩⟩⟩⟩)
 #af U (aJ U U (af U ?_))
 #aC (λc=>?_) (λc1=>?_)
 . #no (same_refl _) λh9=>?_
   @⟨p,q,z⟩:=h9
   !h1:=cU c
   !h2:fp=(p:Int):=z.ep
   lia
 #af U (af U ?_)
 #bJ hg cl (fU.get (by left)) lm ?_
 #bJ hm cs (Ox.get (by left)) UZ ?_
 #aW hp U ?_
 #aJ U (.inl (aB.of hN)) (aJ U U (af U ?_))
 #aC (λc=>?_) (λc2=>?_)
 . #no (same_refl _) λh9=>?_
   @⟨p,q,z⟩:=h9
   !h1:=cU c
   !h2:fp=(p:Int):=z.ep
   !h3:=z.pl
   lia
 #af U (aJ U U (af U ?_))
 #aC (λc=>?_) (λc3=>?_)
 . #no (same_refl _) λh9=>?_
   @⟨p,q,z⟩:=h9
   !h1:=cU c
   !h2:fq=(q:Int):=z.eq
   lia
 #af U (af U ?_)
 #bJ hg cl (fU.get (by left)) ly ?_
 #bJ hy cs (Ox.get (by left)) U0 ?_
 #aW r6 U ?_
 #aJ U (.inl (aB.of Su)) (aJ U U (af U ?_))
 #aC (λc=>?_) (λc4=>?_)
 . #no (same_refl _) λh9=>?_
   @⟨p,q,z⟩:=h9
   !h1:=cU c
   !h2:fq=(q:Int):=z.eq
   !h3:=z.ql
   lia
 !c1:¬ fp<0:=λz=>c1 (ed z)
 !c2:¬ ((vn~:Nat):Int)<=fp:=λz=>c2 (ed z)
 !c3:¬ fq<0:=λz=>c3 (ed z)
 !c4:¬ ((VH.length:Nat):Int)<=fq:=λz=>c4 (ed z)
 #af U ⟨tt,af U ⟨.inr (cT _),U,bB U U ?_⟩⟩
 #aC (λhw=>?_) (λc=>no (same_refl _) λ⟨p,q,z⟩=>c z.who)
 !kn:=iM col.kn
 #af U ?_
 #bJ hg cl (fU.get (by left)) WZ ?_
 #af U ⟨cd,cv,fc,kvs,U,hcd,ec,oc,dc,λH1 s1=>(af U ?_)⟩
 #aC (λk1=>?_) (λc=>?_)
 . #af U ?_
   #bJ (s1 _ _ hg) cl (fU.get (by left)) WZ ?_
   #af U ⟨cd,wv,fw,kvs,U,s1 _ _ hcd,dP.same ew s1,ow,dw,λH2 s2=>q _ H2 (aa s1 s2) ?_⟩
   rw[kn fw ow]
   #⟨λz=>⟨fp.toNat,fq.toNat,(afE (Int.not_lt.mp c1)).symm,(afE (Int.not_lt.mp c3)).symm,by lia,by lia,hw,(kn fc oc).mp k1,dc,z,dw⟩,λ⟨p,q,z⟩=>z.okw⟩
 . #no s1 λh9=>?_
   @⟨p,q,z⟩:=h9
   #c ((kn fc oc).mpr z.ok)
abbrev Lp:Stmt:=top 47
theorem fA {α:Type}{R:α->Prop}:∀{bs:O Bool} {es:O α},Paired (λb f=>b=true↔R f) bs es->(bs.all id=true↔∀f∈es,R f)
 | _,_,.nil=>⟨λz z h=>aw h aep,λz=>rfl⟩
 | _,_,.cons h r=>by
   rw[ag8,aeI,fA r,List.forall_mem_cons]
   #and_congr h Iff.rfl
def BN (K:ad2)(C CS:J)(n:Nat):Sp:=λvs H Q z=>∃(g pa:J) (v1 v2:V) (b1 b2:ag) (c:Ca) (ins:O Str) (n1 n2:O Nd) (vps:O V) (es:O Ef),vs=[.ref g,.ref pa]/\Gr K C CS H g v1 v2 b1 b2 c/\aN H v1 b1 ins n1/\aN H v2 b2 ins n2/\H pa=S (.lst vps)/\Paired (fO H) vps es/\es~<=900/\(∀f∈es,LY f n)/\∀(b:Bool) (H':Hp),ak H H'->(b=true↔∀f∈es,oO b1 b2 n1 n2 f n)->Q (.bl b) H'
def PN:aA ["ground","paper"] ["ground","paper"] (ao Lp):=dX
def JV {C CS:J}{n:Nat}{f:J}{fd:aef}(F:cF K "all_fit" "all_fit" Lp f fd)(m_all:mg "all"=Z)(EF:bI P w K mg base "entry_fits" ["ground","entry"] (n+2) (BV K C CS n)):aL P w K mg base cm (n+3) f fd ["ground","paper"] (BN K C CS n):=by
 #F.eO PN λcdv A outer s H vs Q E hr h=>?_
 @⟨g,pa,v1,v2,b1,b2,c,ins,n1,n2,vps,es,rfl,gr,Ky,OP,vB,Xk,le,fit,q⟩:=h
 #f7 ⟨_,(aiA (aiF (aiS L3.Gs U m_all (by right) (L (aiY [Z,S 0] ["entry","ground"] (ij Lp) U (aiW (Y 1)) (λy y y y y=>⟨(aiC 0 (dW ["entry","ground"])),aiV,(aiJ EF hr U (L (Y 1) (L (Y 0) M)))⟩)) M)))),?_⟩
 !vl:=Paired.length Xk
 #af U (bu U ⟨_,aB.of vB⟩ (λl hl=>?_))
 #aV (xs:=vps) (λi H2=>ak H H2/\∃bs:O Bool,H2 l=S (.lst (bs.map V.bl))/\Paired (λ(b:Bool) f=>b=true↔oO b1 b2 n1 n2 f n) bs (es.take i)) ⟨ah hl _,[],ae,.nil⟩ (λi H2 y z=>aB.of (z.1 _ _ vB)) (λi x0 H2 hx z=>?_) (λH2 z=>?_)
 . @⟨s2,bs,g2,pb⟩:=z
   @⟨f,hf,ef⟩:=Paired.get Xk hx
   !du:i<vps~:=(aH hx)
   !bl:=Paired.length pb
   rw[aea]at bl
   #aS ?_
   #bQ (A:=λH3=>cB _ l _ H3 _) ?_
   #af U (af U ⟨g,x0,v1,v2,b1,b2,c,ins,n1,n2,f,U,gr.same s2,Ky.same s2,OP.same s2,ef.keep (ak.tk s2),fit f (ad4 hf),λb H3 s3 hb=>?_⟩)
   #⟨_,s3 _ _ g2,oF (by rw[ad1];lia),aF (Pv:=λi H2=>ak H H2/\∃bs:O Bool,H2 l=S (.lst (bs.map V.bl))/\Paired (λ(b:Bool) f=>b=true↔oO b1 b2 n1 n2 f n) bs (es.take i)) (by repeat' constructor) du ⟨aE (aa s2 s3) hl,bs++[b],?_,?_⟩⟩
   . rw[ae,aeb]
     rfl
   . rw[aec,hf]
     #Paired.snoc pb hb
 @⟨s2,bs,g2,pb⟩:=z
 rw[vl,aed]at pb
 #⟨l,bs,U,aB.of g2,q _ H2 s2 (fA pb)⟩
abbrev Lq:Stmt:=top 46
def nh (H:Hp)(wd:J)(n:Nat)(f:Int->Int->Option (O V)):Prop:=∃kvs,H wd=S (.dT kvs)/\∀p q:Int,(f p q=Z->aY kvs [.inl p,.inl q]=Z)/\∀col,f p q=S col->col~=n/\∃c,aY kvs [.inl p,.inl q]=S (.ref c)/\H c=S (.lst col)
def nh.sm {H H':Hp}{wd:J}{n:Nat}{f:Int->Int->Option (O V)}(h:nh H wd n f)(s:Sm H H'):nh H' wd n f:=by
 @⟨kvs,h1,h2⟩:=h
 #⟨kvs,s _ _ h1 (λy z=>nomatch z),λp q=>⟨(h2 p q).1,λcol e=>let⟨l,c,h3,h4⟩:=(h2 p q).2 col e;⟨l,c,h3,s _ _ h4 (λy z=>nomatch z)⟩⟩⟩
def IU {b1 b2:ag}{ins:O Str}{r:O Int}{k:Nat}(h:lM b1 b2 ins r k):k<nR b1 b2:=by
 @⟨i,j,hi,hj,rfl⟩:=h
 !h1:=(aH hi)
 !h2:=(aH hj)
 !h3:(i+1)*(av b2)~<=(av b1)~*(av b2)~:=afZ _ h1
 rw[afV]at h3
 change _<(av b1)~*(av b2)~
 lia
def v5 (K:ad2)(C CS:J):Sp:=λvs H Q z=>∃(g wd:J) (v1 v2:V) (b1 b2:ag) (c:Ca) (ins:O Str) (n1 n2:O Nd) (f:Int->Int->Option (O V)),vs=[.ref g,.ref wd]/\Gr K C CS H g v1 v2 b1 b2 c/\L6 H v1 v2 b1 b2 ins n1 n2/\nh H wd (nR b1 b2) f /\
 (f 0 0=Z->∀H',ak H H'->Q (.bl false) H')/\∀col,f 0 0=S col->∀(rows:O Nat) (H':Hp),ak H H'->Paired (lM b1 b2 ins) (bV (ins.map (bN b1))) rows->Q (.bl ((rows.map λr=>!decide (col.getD r .bA=.bA)).all id)) H'
def PQ:aA ["ground","waits"] ["ground","waits"] (ao Lq):=dX
def JX {C CS:J}{f:J}{fd:aef}(F:cF K "begins_well" "begins_well" Lq f fd)(m_all:mg "all"=Z)(BG:fY P w K mg base C "beginnings" ["self"] 3 (BP K C CS)):aL P w K mg base cm 4 f fd ["ground","waits"] (v5 K C CS):=by
 #F.eO PQ λcdv A outer s H vs Q E hr h=>?_
 @⟨g,wd,v1,v2,b1,b2,ca,ins,n1,n2,f,rfl,gr,pr,⟨kvs,Ae,hf⟩,q0,q1⟩:=h
 !cl:=gr.a.cl
 #f7 ⟨_,(aiz (aiM (L3.oZ (bj hr _ (by left)) (aiG (L aix (L aix M))) (Y 1)) (aiA (aiF ai1)) aiN)
   (aiA (aiF (aiS L3.Gs U m_all (by right) (L (aiY [Z,S 1] ["row","waits"] (ij Lq) U (aiW (L3.Ou (Y 0) cl BG hr)) (λy y y y y=>⟨(aiC 0 (dW ["row","waits"])),aiV,(ai4 L3.JU (aiy aiH (ajc (bj hr _ (by left)) (Y 1) (aiG (L aix (L aix M)))) (Y 0)) ajt)⟩)) M))))),?_⟩
 #⟨akA,λkt Jm=>?_⟩
 !s0:ak H (upd H kt (.tup [.int 0,.int 0])):=ah Jm _
 !g0:=dv.t (k:=([.inl 0,.inl 0]:O Key)) (s0 _ _ Ae) ae
 #af U ⟨wd,af U ⟨g0,af U ?_⟩⟩
 #aC (λc=>?_) (λc=>?_)
 . cases e:f 0 0 with
   | none=>#q0 e _ s0
   | some col=>
     @⟨_,cc,hc,_⟩:=(hf 0 0).2 col e
     rw[hc]at c
     cases c
 cases e:f 0 0 with
 | none=>rw[(hf 0 0).1 e]at c;#aw rfl c
 | some col=>
   @⟨YN,cc,hc,xw⟩:=(hf 0 0).2 col e
   @⟨dx,fs,_,_,_,_,_,hg,_,_,_,_,_,_,_,_,_,_,jI,_⟩:=gr.view
   generalize upd H kt (.tup [.int 0,.int 0])=H0 at s0 ⊢
   !pr0:L6 H0 v1 v2 b1 b2 ins n1 n2:=⟨⟨pr.p.p1.same s0,pr.p.p2.same s0,pr.p.f1,pr.p.f2,pr.p.sz⟩,pr.l1,pr.l2,pr.si,pr.li⟩
   #af U ⟨g,dx,fs,U,s0 _ _ hg,jI _ (by left),g,v1,v2,b1,b2,ca,ins,n1,n2,U,gr.same s0,pr0,λl rows H1 s1 hl gl pb=>(bu U ⟨_,aB.of gl⟩ (λlr Mw=>?_))⟩
   !s01:=aa s0 s1
   !pbl:=Paired.length pb
   !ZR:=pr.li (ins.map (bN b1))~
   rw[aed]at ZR
   #aV (xs:=cD rows) (λi H2=>ak H1 H2/\H2 lr=S (.lst (((rows.take i).map λr=>!decide (col.getD r .bA=.bA)).map V.bl))) ⟨ah Mw _,ae⟩ (λi H2 y z=>aB.of (z.1 _ _ gl)) (λi x0 H2 hx z=>?_) (λH2 z=>?_)
   . @⟨s2,g2⟩:=z
     @⟨r,dO,rfl⟩:=aX hx
     !du:i<(cD rows)~:=(aH hx)
     @⟨_,_,br⟩:=Paired.xm pb dO
     !Ad:r<col~:=by rw[YN];#IU br
     !jV:col[r]?=S (col.getD r .bA):=by rw[ad9,ad3 Ad];rfl
     !s02:=aa s01 s2
     #aS ?_
     #bQ (A:=λH3=>cB _ lr _ H3 _) ?_
     #bu U akA (λk2 Dd=>?_)
     !s3:ak H2 (upd H2 k2 (.tup [.int 0,.int 0])):=ah Dd _
     !g3:=dv.t (k:=([.inl 0,.inl 0]:O Key)) (s3 _ _ (s02 _ _ Ae)) ae
     rw[hc]at g3
     !s4:=aa s2 s3
     #⟨wd,af U ⟨g3,af U ?_⟩⟩
     #bY (s3 _ _ (s02 _ _ xw)) (bL jV) ?_
     #⟨U,_,s3 _ _ g2,oF (by rw[ad1,ad1,aea];lia),aF (Pv:=λi H2=>ak H1 H2/\H2 lr=S (.lst (((rows.take i).map λr=>!decide (col.getD r .bA=.bA)).map V.bl))) (by repeat' constructor) du ⟨aE s4 Mw,?_⟩⟩
     rw[ae,aec,dO,aeb,aeb]
     rfl
   @⟨s2,g2⟩:=z
   rw[aeE (by rw[ad1];#ad5 _)]at g2
   #aJ U (aB.of g2) (q1 col e rows H2 (aa s01 s2) pb)
abbrev PK:Stmt:=top 40
abbrev mZ:=Int->Int->Option (O V)
def gD (col:O V)(rows:O Nat)(th:O V):O V:=(rows.zip th).foldl (λc x=>c.set x.1 x.2) col
def kc (col:O V)(rows:O Nat)(th:O V):(gD col rows th)~=col~:=by
 unfold gD
 generalize rows.zip th=l
 induction l generalizing col with
 | nil=>rfl
 | cons a r ih=>rw[List.foldl_cons,ih,afu]
def uv {col:O V}{rows:O Nat}{th:O V}{k r:Nat}{v:V}(h1:rows[k]?=S r)(h2:th[k]?=S v):gD col (rows.take (k+1)) (th.take (k+1))=(gD col (rows.take k) (th.take k)).set r v:=by
 unfold gD
 !l1:=(aH h1)
 !l2:=(aH h2)
 rw[aec,aec,h1,h2,List.zip_append (by rw[aea,aea];lia),List.foldl_append]
 rfl
def df (n:Nat)(f:mZ)(p q:Int)(rows:O Nat)(th:O V):mZ:=λp' q'=>if p'=p/\q'=q then S (gD ((f p q).getD (aev n .bA)) rows th)else f p' q'
def fe (n:Nat)(ens:O En)(cnt:O (O Nat))(ths:O (O V)):Nat->mZ
 | 0=>λz z=>Z
 | i+1=>match ens[i]?,cnt[i]?,ths[i]? with
   | some e,S rows,S th=>df n (fe n ens cnt ths i) e.p e.q rows th
   | _,_,_=>fe n ens cnt ths i
structure yZ (H H2:Hp)(kvs:O (O Key×V))(f:mZ)(n:Nat):Prop where
 no:∀p q:Int,f p q=Z->aY kvs [.inl p,.inl q]=Z
 yes:∀(p q:Int) col,f p q=S col->col~=n/\∃c,aY kvs [.inl p,.inl q]=S (.ref c)/\H2 c=S (.lst col)/\H c=Z
 inj:∀(p q p' q':Int) c,aY kvs [.inl p,.inl q]=S (.ref c)->aY kvs [.inl p',.inl q']=S (.ref c)->p=p'/\q=q'
def UH {p q p' q':Int}(h:([.inl p,.inl q]:O Key)=[.inl p',.inl q']):p=p'/\q=q':=by
 injection h with h1 h2
 injection h2 with h2 _
 #⟨agH h1,agH h2⟩
def yZ.same {H H2 H3:Hp}{kvs:O (O Key×V)}{f:mZ}{n:Nat}(h:yZ H H2 kvs f n)(s:ak H2 H3):yZ H H3 kvs f n:=⟨h.no,λp q col e=>let⟨l,c,h1,h2,h3⟩:=h.yes p q col e;⟨l,c,h1,s _ _ h2,h3⟩,h.inj⟩
def yZ.put {H H2 H3:Hp}{kvs:O (O Key×V)}{f:mZ}{n:Nat}{p q:Int}{rows:O Nat}{th:O V}{c:J}{col:O V}(h:yZ H H2 kvs f n)(hc:(f p q).getD (aev n .bA)=col)(hl:col~=n)(e:aY kvs [.inl p,.inl q]=S (.ref c))(nc:H c=Z)(k:Kp c H2 H3)(g:H3 c=S (.lst (gD col rows th)))  : yZ H H3 kvs (df n f p q rows th) n:=by
 #⟨λp' q' z=>?_,λp' q' zh z=>?_,h.inj⟩
 . unfold df at z
   split at z
   . cases z
   . #h.no p' q' z
 . unfold df at z
   split at z
   . rename_i w
     @⟨rfl,rfl⟩:=w
     cases z
     rw[hc]
     #⟨by rw[kc];#hl,c,e,g,nc⟩
   . rename_i w
     @⟨l,c',h1,h2,h3⟩:=h.yes p' q' zh z
     #⟨l,c',h1,k _ _ h2 λz=>w (h.inj p' q' p q c (z▸h1) e),h3⟩
def nU {n:Nat}{f:mZ}{p q:Int}{col:O V}(h:f p q=S col):df n f p q [] []=f:=by
 funext p' q'
 unfold df
 split
 . rename_i w
   @⟨rfl,rfl⟩:=w
   rw[h]
   rfl
 . rfl
def qG {n:Nat}{f:mZ}{p q:Int}{rows:O Nat}{th:O V}:df n (df n f p q [] []) p q rows th=df n f p q rows th:=by
 funext p' q'
 by_cases w:p'=p/\q'=q
 . @⟨rfl,rfl⟩:=w
   simp[df,gD]
 . simp[df,w]
def yZ.new {H H2 H3:Hp}{kvs:O (O Key×V)}{f:mZ}{n:Nat}{p q:Int}{c:J}(h:yZ H H2 kvs f n)(hn:f p q=Z)(fresh:H2 c=Z)(nc:H c=Z)(g:H3 c=S (.lst (aev n .bA)))(s:∀a xs,H2 a=S (.lst xs)->H3 a=S (.lst xs)):yZ H H3 (putK kvs [.inl p,.inl q] (.ref c)) (df n f p q [] []) n:=by
 !old:∀p' q':Int,¬ aY kvs [.inl p',.inl q']=S (.ref c):=λp' q' z=>by
   cases e:f p' q' with
   | none=>rw[h.no p' q' e]at z;cases z
   | some col=>
     @⟨_,c',h1,h2,_⟩:=h.yes p' q' col e
     rw[h1]at z
     cases z
     rw[fresh]at h2
     cases h2
 !val:∀p' q':Int,aY (putK kvs [.inl p,.inl q] (.ref c)) [.inl p',.inl q']=if p'=p/\q'=q then S (.ref c)else aY kvs [.inl p',.inl q']:=λp' q'=>by
   rw[ck]
   by_cases w:p'=p/\q'=q
   . rw[aR w,aR (by rw[w.1,w.2])]
   . rw[aM w,aM λz=>w (UH z)]
 #⟨λp' q' z=>?_,λp' q' col z=>?_,λp1 q1 p2 q2 c' z1 z2=>?_⟩
 . unfold df at z
   rw[val]
   split at z
   . cases z
   . rename_i w
     rw[aM w]
     #h.no p' q' z
 . unfold df at z
   rw[val]
   split at z
   . rename_i w
     rw[hn]at z
     cases z
     rw[aR w]
     #⟨afg,c,U,g,nc⟩
   . rename_i w
     rw[aM w]
     @⟨l,c',h1,h2,h3⟩:=h.yes p' q' col z
     #⟨l,c',h1,s _ _ h2,h3⟩
 . rw[val]at z1 z2
   by_cases w1:p1=p/\q1=q
   . by_cases w2:p2=p/\q2=q
     . #⟨w1.1.trans w2.1.symm,w1.2.trans w2.2.symm⟩
     . rw[aR w1]at z1
       rw[aM w2]at z2
       cases z1
       #aw z2 (old _ _)
   . rw[aM w1]at z1
     by_cases w2:p2=p/\q2=q
     . rw[aR w2]at z2
       cases z2
       #aw z1 (old _ _)
     . rw[aM w2]at z2
       #h.inj _ _ _ _ _ z1 z2
def Eg {n r:Nat}(h:r<n):xG n (r:Int)=S r:=by
 unfold xG
 simp[h]
structure Yv (K:ad2)(C:J)(H:Hp)(g pa ca ta:J)(b1 b2:ag)(vps:O V)(ens:O En)(cas:O J)(cnt:O (O Nat))(tas:O J)(ths:O (O V)):Prop where
 gr:oP K C H g b1 b2
 hp:H pa=S (.lst vps)
 pe:Paired (IB H) vps ens
 hc:H ca=S (.lst (cas.map V.ref))
 pc:Paired (λa rows=>H a=S (.lst (cD rows))) cas cnt
 ht:H ta=S (.lst (tas.map V.ref))
 pt:Paired (λa th=>H a=S (.lst th)) tas ths
 l1:cnt~=ens~
 l2:ths~=ens~
 ll:∀(i:Nat) rows th,cnt[i]?=S rows->ths[i]?=S th->rows~=th~
 lt:∀rows∈cnt,∀r∈rows,r<nR b1 b2
 le:ens~<=900
 nr:nR b1 b2<=3000
def Cd (K:ad2)(C:J):Sp:=λvs H Q z=>∃(g pa ca ta:J) (b1 b2:ag) (vps:O V) (ens:O En) (cas:O J) (cnt:O (O Nat)) (tas:O J) (ths:O (O V)),vs=[.ref g,.ref pa,.ref ca,.ref ta]/\Yv K C H g pa ca ta b1 b2 vps ens cas cnt tas ths /\
 ∀(wd:J) (H':Hp),ak H H'->H wd=Z->nh H' wd (nR b1 b2) (fe (nR b1 b2) ens cnt ths ens~)->Q (.ref wd) H'
def kE:aA ["ground","paper","counted","told","columns","entry","rows","things","column","row","thing"] ["ground","paper","counted","told"] (ao PK):=dX
def Kf {C:J}{f:J}{fd:aef}(F:cF K "told_by_places" "told_by_places" PK f fd)(m_len:mg "len"=Z)(m_zip:mg "zip"=Z):aL P w K mg base cm 1 f fd ["ground","paper","counted","told"] (Cd K C):=by
 #F.eO kE λcdv A outer s H vs Q E hr h=>?_
 @⟨g,pa,ca,ta,b1,b2,vps,ens,cas,cnt,tas,ths,rfl,T,q⟩:=h
 #f7 ⟨_,(aiz (aiL 4 kE.nd L3.zu)
   (aiz (ai0 (L3.UE U m_zip (L (Y 1) (L (Y 2) (L (Y 3) M)))) (aiT 3 (aiI (aiC 5 kE.nd) (aiI (aiC 6 kE.nd) (aiI (aiC 7 kE.nd) aiU)))) (aiz (aiL 8 kE.nd (L3.YT (bj hr _ (by left)) (Y 4) (aiG (L (aiy aiE (Y 5) aix) (L (aiy aiE (Y 5) aix) M))) (aiB L3.G5 (aiO (L ajt M)) (aiS aiX U m_len aeo (L (aiP (Y 0)) M)))))
   (aiA (ai0 (ajp U m_zip (L (Y 6) (L (Y 7) M))) (aiT 2 (aiI (aiC 9 kE.nd) (aiI (aiC 10 kE.nd) aiU))) (aiA (ajg (Y 10) (L3.GB (Y 8) (Y 9))))))))
   (aiA (aiF (Y 4))))),?_⟩
 !vl:=Paired.length T.pe
 !Ma:=Paired.length T.pc
 !VD:=Paired.length T.pt
 !e1:=T.l1
 !e2:=T.l2
 #λwd Ae=>?_
 @⟨H0,s0,g0,zz⟩:=aK Ae (.dT [])
 rw[zz];clear zz
 #aS ?_
 #af U (af U (af U ⟨pa,ca,bu U ⟨_,aB.of (s0 _ _ T.hp)⟩ ⟨⟨_,aB.of (s0 _ _ T.hc)⟩,⟨_,aB.of (s0 _ _ T.ht)⟩,?_⟩⟩))
 #zB (xs:=vps) (ys:=cas.map V.ref) (zs:=tas.map V.ref) (by rw[ad1];lia) (by rw[ad1];lia) (λi σ H2=>(∃o5 o6 o7 o8 o9 MF,σ=[S (.ref g),S (.ref pa),S (.ref ca),S (.ref ta),S (.ref wd),o5,o6,o7,o8,o9,MF])/\ak H H2/\∃kvs,H2 wd=S (.dT kvs)/\kvs~<=i/\yZ H H2 kvs (fe (nR b1 b2) ens cnt ths i) (nR b1 b2)) ⟨⟨_,_,_,_,_,_,U⟩,s0,[],g0,ad5 _,⟨λt t t=>rfl,(λt t t z=>nomatch z),(λt t t t t z=>nomatch z)⟩⟩ (λi σ H2 t z=>⟨aB.of (z.2.1 _ _ T.hp),aB.of (z.2.1 _ _ T.hc),aB.of (z.2.1 _ _ T.ht)⟩) (λi x y u p σ H2 hx hy hu z N6=>?_) (λσ H2 z=>?_)
 . @⟨⟨o5,o6,o7,o8,o9,MF,rfl⟩,s2,kvs,Dd,kl,wk⟩:=z
   @⟨e,he,cv,wh,wt,⟨en,rfl,GH⟩,_⟩:=Paired.get T.pe hx
   @⟨ra,yO,rfl⟩:=aX hy
   @⟨rows,f9,tQ⟩:=Paired.get T.pc yO
   @⟨Ry,Uy,rfl⟩:=aX hu
   @⟨th,WS,Jw⟩:=Paired.get T.pt Uy
   !ie:i<ens~:=(aH he)
   !le:=T.le
   !step:fe (nR b1 b2) ens cnt ths (i+1)=df (nR b1 b2) (fe (nR b1 b2) ens cnt ths i) e.p e.q rows th:=by
     change(match ens[i]?,cnt[i]?,ths[i]? with|some e,S rows,S th=>df (nR b1 b2) (fe (nR b1 b2) ens cnt ths i) e.p e.q rows th|_,_,_=>fe (nR b1 b2) ens cnt ths i)=_
     rw[he,f9,WS]
   !rl:=T.ll i rows th f9 WS
   !ML:=T.lt rows (ad4 f9)
   @⟨H3,s3,g3,zz⟩:=aK N6 (.tup [.ref en,.ref ra,.ref Ry])
   rw[zz];clear zz
   #LS g3 ?_
   replace wk:=wk.same s3
   !s03:=aa s2 s3
   #bC λRk kR=>?_
   !go:∀(H7:Hp) (kv7:O (O Key×V)) (cc:J) (col:O V),ak H H7->H7 wd=S (.dT kv7)->kv7~<=i+1->yZ H H7 kv7 (df (nR b1 b2) (fe (nR b1 b2) ens cnt ths i) e.p e.q [] []) (nR b1 b2)->aY kv7 [.inl e.p,.inl e.q]=S (.ref cc)->H cc=Z->H7 cc=S (.lst col)->(df (nR b1 b2) (fe (nR b1 b2) ens cnt ths i) e.p e.q [] []) e.p e.q=S col->col~=nR b1 b2->Rk [S (.ref g),S (.ref pa),S (.ref ca),S (.ref ta),S (.ref wd),S (.ref en),S (.ref ra),S (.ref Ry),S (.ref cc),o9,MF] H7:=λH7 kv7 cc col s7 w7 k7 wk7 v7 nc g7 fc QF=>by
     #kR _ _ ?_
     #af U (af U ⟨ra,bu U ⟨_,aB.of (s7 _ _ tQ)⟩ ⟨⟨_,aB.of (s7 _ _ Jw)⟩,?_⟩⟩)
     !U6:ra≠cc:=ai tQ nc
     !nth:Ry≠cc:=ai Jw nc
     #pd (xs:=cD rows) (ys:=th) (by rw[ad1];#rl) (λk σ H8=>(∃o9 MF,σ=[S (.ref g),S (.ref pa),S (.ref ca),S (.ref ta),S (.ref wd),S (.ref en),S (.ref ra),S (.ref Ry),S (.ref cc),o9,MF])/\Kp cc H7 H8/\H8 cc=S (.lst (gD col (rows.take k) (th.take k)))) ⟨⟨_,_,U⟩,Kp.refl _,g7⟩ (λk σ H8 t z=>⟨aB.of (z.2.1 _ _ (s7 _ _ tQ) U6),aB.of (z.2.1 _ _ (s7 _ _ Jw) nth)⟩) (λk x y p σ H8 hx hy z hp=>?_) (λσ H8 z=>?_)
     . @⟨⟨p9,p10,rfl⟩,k8,g8⟩:=z
       @⟨r,dO,rfl⟩:=aX hx
       @⟨H9,s9,g9,zz⟩:=aK hp (.tup [.int (r:Nat),y])
       rw[zz];clear zz
       #nJ g9 ?_
       !lr:r<(gD col (rows.take k) (th.take k))~:=by rw[kc,QF];#ML r (ad4 dO)
       #af U (af U (af U ⟨cc,_,_,r,U,U,s9 _ _ g8,Eg lr,⟨_,_,U⟩,(k8.same s9).self,?_⟩))
       rw[ae,uv dO hy]
     . @⟨⟨p9,p10,rfl⟩,k8,g8⟩:=z
       rw[ad1,aed,rl,aed]at g8
       #⟨⟨_,_,_,_,_,_,U⟩,λa o ea=>k8 _ _ (s7 _ _ ea) λz=>?_,kv7,k8 _ _ w7 (eJ w7 g7 (λz=>nomatch z)),k7,?_⟩
       . rw[z,nc]at ea;cases ea
       rw[step,← qG]
       #wk7.put (by rw[fc];rfl) QF v7 nc k8 g8
   @⟨cl,fU,dx,fs,m0,y0,Pl,cd,abe,hg,_,_,_,Om,_,_,_,Ad,_,_,_⟩:=id T.gr
   !nr:=T.nr
   #af U ⟨wd,U,.inr ⟨kvs,.inl (s3 _ _ Dd)⟩,?_⟩
   !NJ:=s03 _ _ GH
   #af U ?_
   #aW NJ U ?_
   #af U ?_
   #aW NJ U ?_
   #⟨akA,λkt Jm=>?_⟩
   @⟨H4,s4,g4,zz⟩:=aK Jm (.tup [.int e.p,.int e.q])
   rw[zz];clear zz
   #⟨akz,λl0 D1=>?_⟩
   @⟨H5,s5,g5,zz⟩:=aK D1 (.lst [.bA])
   rw[zz];clear zz
   !Vq:=aa s4 s5
   !s05:=aa s03 Vq
   !ln:((aem (nR b1 b2)).map λi:Nat=>V.int i)~=nR b1 b2:=by rw[ad1,aeJ]
   #af U ?_
   #bJ (s05 _ _ hg) cl (fU.get (by left)) Om ?_
   #aJ U (.inl (aB.of (s05 _ _ Ad))) ⟨l0,aJ U U ⟨g5,by rw[ln];lia,by rw[ln];lia,?_,λlc Q0=>?_⟩⟩
   . rw[ln]
     #aeg (show _<=3000 by change 1*nR b1 b2<=3000;lia) (by left)
   rw[ln,aes,List.flatten_replicate_singleton]
   @⟨H6,s6,g6,zz⟩:=aK Q0 (.lst (aev (nR b1 b2) .bA))
   rw[zz];clear zz
   !s36:=aa Vq s6
   !Hs:=aa s03 s36
   !w6:=s36 _ _ (s3 _ _ Dd)
   #⟨kvs,[.inl e.p,.inl e.q],kt,U,w6,s6 _ _ (s5 _ _ g4),oF (by lia),λv hv=>?_,λhv=>?_⟩
   . cases ef:fe (nR b1 b2) ens cnt ths i e.p e.q with
     | none=>rw[wk.no _ _ ef]at hv;cases hv
     | some col=>
       @⟨QF,cc,h1,h2,h3⟩:=wk.yes _ _ col ef
       rw[h1]at hv
       cases hv
       #go H6 kvs cc col Hs w6 (by lia) (by rw[nU ef];#wk.same s36) h1 h3 (s36 _ _ h2) (by rw[nU ef];#ef) QF
   . !ef:fe (nR b1 b2) ens cnt ths i e.p e.q=Z:=by
       cases ef:fe (nR b1 b2) ens cnt ths i e.p e.q with
       | none=>rfl
       | some col=>
         @⟨_,cc,h1,_⟩:=wk.yes _ _ col ef
         rw[h1]at hv
         cases hv
     !nw:lc≠wd:=λz=>by rw[z,w6]at g6;cases g6
     !gl:(upd H6 wd (.dT (putK kvs [.inl e.p,.inl e.q] (.ref lc)))) lc=S (.lst (aev (nR b1 b2) .bA)):=by rw[aj nw];#g6
     #go _ _ lc _ (aE Hs Ae) ae (by !:=jN kvs ([.inl e.p,.inl e.q]:O Key) (.ref lc);lia) (wk.new ef (aq Vq Q0) (aq s05 Q0) gl λa xs ea=>?_) (by rw[ck,aR rfl]) (aq s05 Q0) gl (by unfold df;rw[aR ⟨U,U⟩,ef];rfl) afg
     !Sb:=s36 _ _ ea
     rw[aj λz=>by rw[z,w6]at Sb;cases Sb]
     #Sb
 @⟨⟨o5,o6,o7,o8,o9,MF,rfl⟩,s2,kvs,Dd,kl,wk⟩:=z
 rw[vl]at wk
 #af U (q wd H2 s2 Ae ⟨kvs,Dd,λp q=>⟨wk.no p q,λcol e=>?_⟩⟩)
 @⟨l,c,h1,h2,_⟩:=wk.yes p q col e
 #⟨l,c,h1,h2⟩
abbrev Ly:Stmt:=top 41
abbrev rX (b1 b2:ag)(f:Ef)(rows:O Nat):O V:=rows.map λr:Nat=>V.int (f.wait.worth (dt b1 b2 r))
abbrev kG (b1 b2:ag)(es:O Ef)(cnt:O (O Nat)):O (O V):=List.zipWith (rX b1 b2) es cnt
structure Yx (K:ad2)(C:J)(n:Nat)(H:Hp)(g pa ca:J)(b1 b2:ag)(vps:O V)(es:O Ef)(cas:O J)(cnt:O (O Nat)):Prop where
 gr:oP K C H g b1 b2
 hp:H pa=S (.lst vps)
 pe:Paired (fO H) vps es
 hc:H ca=S (.lst (cas.map V.ref))
 pc:Paired (λa rows=>H a=S (.lst (cD rows))) cas cnt
 l1:cnt~=es~
 lt:∀rows∈cnt,∀r∈rows,r<nR b1 b2
 fI:∀rows∈cnt,rows~<=3000
 le:es~<=900
 nr:nR b1 b2<=3000
 wt:∀f∈es,f.wait.i5/\f.wait.okIn (qB b1 b2)/\f.wait.dep<n
def Cg (K:ad2)(C:J)(n:Nat):Sp:=λvs H Q z=>∃(g pa ca:J) (b1 b2:ag) (vps:O V) (es:O Ef) (cas:O J) (cnt:O (O Nat)),vs=[.ref g,.ref pa,.ref ca,.int 4]/\Yx K C n H g pa ca b1 b2 vps es cas cnt /\
 ∀(wd:J) (H':Hp),ak H H'->H wd=Z->nh H' wd (nR b1 b2) (fe (nR b1 b2) (es.map (·.e)) cnt (kG b1 b2 es cnt) es~)->Q (.ref wd) H'
theorem Paired.mapR {α β γ:Type}{F:α->β->Prop}{G:α->γ->Prop}(k:β->γ)(h:∀a b,F a b->G a (k b)):∀{l₁:O α} {l₂:O β},Paired F l₁ l₂->Paired G l₁ (l₂.map k)
 | _,_,.nil=>.nil
 | _,_,.cons a r=>.cons (h _ _ a) (Paired.mapR k h r)
def Ia:aA ["ground","paper","counted","part","told"] ["ground","paper","counted","part"] (ao Ly):=dX
def Kj {C:J}{n:Nat}{f:J}{fd:aef}(F:cF K "worths_by_places" "worths_by_places" Ly f fd)(m_zip:mg "zip"=Z)(WL:bI P w K mg base "worths_along" ["ground","rows","sum_told"] (n+1) (i9 K C n))(TB0:bI P w K mg base "told_by_places" ["ground","paper","counted","told"] 1 (Cd K C)):aL P w K mg base cm (n+2) f fd ["ground","paper","counted","part"] (Cg K C n):=by
 #F.eO Ia λcdv A outer s H vs Q E hr h=>?_
 @⟨g,pa,ca,b1,b2,vps,es,cas,cnt,rfl,T,q⟩:=h
 !TB:=TB0.mono (show 1<=n+1 by lia)
 #f7 ⟨_,(aiz (ajn (i:=4) [Z,Z,S 0,S 3] ["entry","rows","ground","part"] (ij Ly) U (ajp U m_zip (L (Y 1) (L (Y 2) M))) (λv v v v v=>⟨(aiT 2 (aiI (aiC 0 (dW ["entry","rows","ground","part"])) (aiI (aiC 1 (dW ["entry","rows","ground","part"])) aiU))),aiV,(aiJ WL hr U (L (Y 2) (L (Y 1) (L (aiy aiE (Y 0) (Y 3)) M))))⟩) Ia.nd)
   (aiA (aiF (aiJ TB hr U (L (Y 0) (L (Y 1) (L (Y 2) (L (Y 4) M)))))))),?_⟩
 !vl:=Paired.length T.pe
 !Ma:=Paired.length T.pc
 !e1:=T.l1
 !le:=T.le
 #af U (af U ⟨pa,bu U ⟨_,aB.of T.hp⟩ ⟨⟨_,aB.of T.hc⟩,λl hl=>?_⟩⟩)
 #jv (xs:=vps) (ys:=cas.map V.ref) (by rw[ad1];lia) (λi H2=>∃tas:O J,ak H H2/\H2 l=S (.lst (tas.map V.ref))/\Paired (λa th=>H2 a=S (.lst th)/\a≠l) tas ((kG b1 b2 es cnt).take i)) ⟨[],ah hl _,ae,.nil⟩ (λi H2 v z=>⟨aB.of (z.choose_spec.1 _ _ T.hp),aB.of (z.choose_spec.1 _ _ T.hc)⟩) (λi x y p H2 hx hy z N6=>?_) (λH2 z=>?_)
 . @⟨tas,s2,g2,p2⟩:=z
   @⟨f,hf,cv,wv,⟨en,rfl,GH⟩,_,MA⟩:=Paired.get T.pe hx
   @⟨ra,yO,rfl⟩:=aX hy
   @⟨rows,f9,tQ⟩:=Paired.get T.pc yO
   !du:i<vps~:=(aH hx)
   !tl:=Paired.length p2
   rw[aea]at tl
   @⟨H3,s3,g3,zz⟩:=aK N6 (.tup [.ref en,.ref ra])
   rw[zz];clear zz
   !s03:=aa s2 s3
   @⟨w1,w2,w3⟩:=T.wt f (ad4 hf)
   #nJ g3 ?_
   #bQ (A:=λH3=>cB _ l _ H3 _) ?_
   #af U (af U (af U (af U ?_)))
   #aW (s03 _ _ GH) U ?_
   #⟨g,ra,wv,f.wait,rows,b1,b2,U,⟨T.gr.same s03,s03 _ _ tQ,T.lt rows (ad4 f9),T.fI rows (ad4 f9)⟩,MA.keep (ak.tk s03),w1,w2,w3,λVD H4 s4 n4 g4=>?_⟩
   !MM:=aa s3 s4
   !Xg:VD≠l:=λz=>by rw[z,s3 _ _ g2]at n4;cases n4
   #⟨_,MM _ _ g2,oF (by rw[ad1];lia),aF (Pv:=λi H2=>∃tas:O J,ak H H2/\H2 l=S (.lst (tas.map V.ref))/\Paired (λa th=>H2 a=S (.lst th)/\a≠l) tas ((kG b1 b2 es cnt).take i)) (by repeat' constructor) du ⟨tas++[VD],aE (aa s2 MM) hl,by rw[ae,aeb];rfl,?_⟩⟩
   !hz:(kG b1 b2 es cnt)[i]?=S (rX b1 b2 f rows):=by rw[afT,hf,f9]
   rw[aec,hz]
   #Paired.snoc (Paired.aP p2 λa th ⟨h1,h2⟩=>⟨?_,h2⟩) ⟨?_,Xg⟩
   . rw[aj h2];#MM _ _ h1
   . rw[aj Xg];#g4
 @⟨tas,s2,g2,p2⟩:=z
 !zl:(kG b1 b2 es cnt)~=es~:=by rw[List.length_zipWith];lia
 rw[aeE (by lia)]at p2
 #af U (af U (af U (af U ⟨g,pa,ca,l,b1,b2,vps,es.map (·.e),cas,cnt,tas,kG b1 b2 es cnt,U,⟨T.gr.same s2,s2 _ _ T.hp,Paired.mapR (·.e) (λv v z=>z) (Paired.aP T.pe λv v z=>(z.keep (ak.tk s2)).en),s2 _ _ T.hc,Paired.aP T.pc λv v z=>s2 _ _ z,g2,Paired.aP p2 λv v z=>z.1,by rw[ad1];show e1,by rw[ad1];show zl,λi rows th h1 h2=>?_,T.lt,by rw[ad1];#le,T.nr⟩,λwd H' s' nw wa=>q wd H' (aa s2 s') (aq s2 nw) ?_⟩)))
 . rw[afT,h1]at h2
   cases ei:es[i]? with
   | none=>rw[ei]at h2;cases h2
   | some f=>rw[ei]at h2;cases h2;rw[ad1]
 . rw[ad1]at wa
   #wa
abbrev PM:Stmt:=dq 44 0
abbrev Px:Stmt:=dq 44 1
section
variable{H H' H0:Hp}{d x:J}{n:Nat}{R:Nat->Tl->Prop}{F:Tl}{v:V}
def gH.nE (h:gH H F v)(k:Kp x H H')(nl:∀xs,H x≠S (.lst xs))(nt:∀xs,H x≠S (.tup xs)):gH H' F v:=by
 @⟨l,ts,e,h1,h2⟩:=h
 #⟨l,ts,e,k _ _ h1 (λz=>nl _ (z▸h1)),Paired.aP h2 λ_ _ ⟨e,h3,h4⟩=>⟨e,k _ _ h3 (λz=>nt _ (z▸h3)),k _ _ h4 (λz=>nl _ (z▸h4))⟩⟩
def dC.nE (h:dC H d n R)(k:Kp x H H')(ne:d≠x)(nl:∀xs,H x≠S (.lst xs))(nt:∀xs,H x≠S (.tup xs)):dC H' d n R:=by
 @⟨ks,ps,h1,h2,h3,h4,h5⟩:=h
 #⟨ks,ps,k _ _ h1 ne,h2,h3,h4,λp v hv=>let⟨F,r,t⟩:=h5 p v hv;⟨F,r,t.nE k nl nt⟩⟩
def dC.same (h:dC H d n R)(s:ak H H'):dC H' d n R:=by
 @⟨ks,ps,h1,h2,h3,h4,h5⟩:=h
 #⟨ks,ps,s _ _ h1,h2,h3,h4,λp v hv=>let⟨F,r,t⟩:=h5 p v hv;⟨F,r,t.sm (ak.sm s)⟩⟩
def dC.none (h:H d=S (.dK [])):dC H d n R:=⟨[],[],h,rfl,.nil,(λy z=>nomatch z),(λy y z=>nomatch z)⟩
def Sc (c:Ca)(H H':Hp):Prop:=∀a o,H a=S o->a≠c.s1->a≠c.t1->a≠c.s2->a≠c.t2->H' a=S o
def ak.sc {c:Ca}(s:ak H H'):Sc c H H':=λa o e z z z z=>s a o e
def Sc.same {c:Ca}(s:Sc c H0 H)(z:ak H H'):Sc c H0 H':=λa o e n1 n2 n3 n4=>z a o (s a o e n1 n2 n3 n4)
def Sc.trans {c:Ca}(s:Sc c H0 H)(z:Sc c H H'):Sc c H0 H':=λa o e n1 n2 n3 n4=>z a o (s a o e n1 n2 n3 n4) n1 n2 n3 n4
def Sc.put {c:Ca}{o:HO}(s:Sc c H0 H)(h:H0 x=Z):Sc c H0 (upd H x o):=λa u e n1 n2 n3 n4=>by rw[aj (ai e h)];#s a u e n1 n2 n3 n4
def Sc.k1 {c:Ca}(s:Sc c H0 H)(k:Kp c.s1 H H'):Sc c H0 H':=λa u e n1 n2 n3 n4=>k a u (s a u e n1 n2 n3 n4) n1
def Sc.k2 {c:Ca}(s:Sc c H0 H)(k:Kp c.t1 H H'):Sc c H0 H':=λa u e n1 n2 n3 n4=>k a u (s a u e n1 n2 n3 n4) n2
def Sc.k3 {c:Ca}(s:Sc c H0 H)(k:Kp c.s2 H H'):Sc c H0 H':=λa u e n1 n2 n3 n4=>k a u (s a u e n1 n2 n3 n4) n3
def Sc.k4 {c:Ca}(s:Sc c H0 H)(k:Kp c.t2 H H'):Sc c H0 H':=λa u e n1 n2 n3 n4=>k a u (s a u e n1 n2 n3 n4) n4
def aN.sm {bs:ag}{ins:O Str}{nds:O Nd}(h:aN H v bs ins nds)(s:Sm H H'):aN H' v bs ins nds:=by
 @⟨p,B,I,N,vb,vn,e,hp,hB,hI,hN,pb,pn⟩:=h
 !tk:TK H H':=λb xs e=>s _ _ e (λy z=>nomatch z)
 #⟨p,B,I,N,vb,vn,e,s _ _ hp (λy z=>nomatch z),s _ _ hB (λy z=>nomatch z),s _ _ hI (λy z=>nomatch z),s _ _ hN (λy z=>nomatch z),Paired.aP pb λy y z=>Tp.keep tk z,Paired.aP pn λy y z=>bZ.keep tk z⟩
end
structure fW (H:Hp)(c:Ca)(b1 b2:ag)(n1 n2:O Nd):Prop where
 nd:c.Nd
 s1:dC H c.s1 n1~ (gX b1 n1)
 t1:dC H c.t1 n1~ (gW (av b1))
 s2:dC H c.s2 n2~ (gX b2 n2)
 t2:dC H c.t2 n2~ (gW (av b2))
section
variable{H H':Hp}{c:Ca}{b1 b2:ag}{n1 n2:O Nd}
def fW.same (h:fW H c b1 b2 n1 n2)(s:ak H H'):fW H' c b1 b2 n1 n2:=⟨h.nd,h.s1.same s,h.t1.same s,h.s2.same s,h.t2.same s⟩
def fW.put {C dx x:J}{fs:O (Str×V)}{o:HO}(h:fW H c b1 b2 n1 n2)(hx:H x=S (.ins C dx fs)):fW (upd H x o) c b1 b2 n1 n2:=by
 !k:Kp x H (upd H x o):=(Kp.refl H).self
 !nl:∀xs,H x≠S (.lst xs):=λxs z=>by rw[hx]at z;cases z
 !nt:∀xs,H x≠S (.tup xs):=λxs z=>by rw[hx]at z;cases z
 !ne:∀{d:J} {n:Nat} {R:Nat->Tl->Prop},dC H d n R->d≠x:=λ⟨ks,_,e,_⟩ z=>by rw[z,hx]at e;cases e
 #⟨h.nd,h.s1.nE k (ne h.s1) nl nt,h.t1.nE k (ne h.t1) nl nt,h.s2.nE k (ne h.s2) nl nt,h.t2.nE k (ne h.t2) nl nt⟩
def fW.k {d:J}{n:Nat}{R:Nat->Tl->Prop}(h:dC H d n R):∃ks,H d=S (.dK ks):=by@⟨ks,_,e,_⟩:=h;#⟨ks,e⟩
def fW.ks1 (h:fW H c b1 b2 n1 n2)(k:Kp c.s1 H H')(z:dC H' c.s1 n1~ (gX b1 n1)):fW H' c b1 b2 n1 n2:=by
 @⟨ks,e⟩:=fW.k h.s1
 !nl:∀xs,H c.s1≠S (.lst xs):=λxs z=>by rw[e]at z;cases z
 !nt:∀xs,H c.s1≠S (.tup xs):=λxs z=>by rw[e]at z;cases z
 #⟨h.nd,z,h.t1.nE k h.nd.n1.symm nl nt,h.s2.nE k h.nd.n2.symm nl nt,h.t2.nE k h.nd.n3.symm nl nt⟩
def fW.kt1 (h:fW H c b1 b2 n1 n2)(k:Kp c.t1 H H')(z:dC H' c.t1 n1~ (gW (av b1))):fW H' c b1 b2 n1 n2:=by
 @⟨ks,e⟩:=fW.k h.t1
 !nl:∀xs,H c.t1≠S (.lst xs):=λxs z=>by rw[e]at z;cases z
 !nt:∀xs,H c.t1≠S (.tup xs):=λxs z=>by rw[e]at z;cases z
 #⟨h.nd,h.s1.nE k h.nd.n1 nl nt,z,h.s2.nE k h.nd.n4.symm nl nt,h.t2.nE k h.nd.n5.symm nl nt⟩
def fW.ks2 (h:fW H c b1 b2 n1 n2)(k:Kp c.s2 H H')(z:dC H' c.s2 n2~ (gX b2 n2)):fW H' c b1 b2 n1 n2:=by
 @⟨ks,e⟩:=fW.k h.s2
 !nl:∀xs,H c.s2≠S (.lst xs):=λxs z=>by rw[e]at z;cases z
 !nt:∀xs,H c.s2≠S (.tup xs):=λxs z=>by rw[e]at z;cases z
 #⟨h.nd,h.s1.nE k h.nd.n2 nl nt,h.t1.nE k h.nd.n4 nl nt,z,h.t2.nE k h.nd.n6.symm nl nt⟩
def fW.kt2 (h:fW H c b1 b2 n1 n2)(k:Kp c.t2 H H')(z:dC H' c.t2 n2~ (gW (av b2))):fW H' c b1 b2 n1 n2:=by
 @⟨ks,e⟩:=fW.k h.t2
 !nl:∀xs,H c.t2≠S (.lst xs):=λxs z=>by rw[e]at z;cases z
 !nt:∀xs,H c.t2≠S (.tup xs):=λxs z=>by rw[e]at z;cases z
 #⟨h.nd,h.s1.nE k h.nd.n3 nl nt,h.t1.nE k h.nd.n5 nl nt,h.s2.nE k h.nd.n6 nl nt,z⟩
end
def Sc.sm {H H':Hp}{c:Ca}{b1 b2:ag}{n1 n2:O Nd}(s:Sc c H H')(h:fW H c b1 b2 n1 n2):Sm H H':=λa o e n=>by
 !no:∀{d:J} {m:Nat} {R:Nat->Tl->Prop},dC H d m R->a≠d:=λ⟨ks,_,e2,_⟩ z=>by rw[z,e2]at e;#n ks (aej e).symm
 #s a o e (no h.s1) (no h.t1) (no h.s2) (no h.t2)
structure yY (K:ad2)(CT:J)(H:Hp)(x wd hc:J)(wid:Nat)(al:Bool)(F1 F2:Tl):Prop where
 cl:lj K CT
 na:fG K CT ["width","waits","here","alone","first","second"]
 ex:∃(dx:J) (fs:O (Str×V)) (v1 v2:V),H x=S (.ins CT dx fs)/\lk fs "width"=S (.int (wid:Nat))/\lk fs "waits"=S (.ref wd)/\lk fs "here"=S (.ref hc)/\lk fs "alone"=S (.bl al)/\lk fs "first"=S v1/\lk fs "second"=S v2/\gH H F1 v1/\gH H F2 v2/\∀f,f∉(["width","waits","here","alone","first","second"]:O Str)->lk fs f=Z
def yY.same {CT:J}{H H':Hp}{x wd hc:J}{wid:Nat}{al:Bool}{F1 F2:Tl}(h:yY K CT H x wd hc wid al F1 F2)(s:ak H H'):yY K CT H' x wd hc wid al F1 F2:=by
 @⟨cl,na,dx,fs,v1,v2,h1,h2,h3,h4,h5,h6,h7,h8,h9,DQ⟩:=h
 #⟨cl,na,dx,fs,v1,v2,s _ _ h1,h2,h3,h4,h5,h6,h7,h8.sm (ak.sm s),h9.sm (ak.sm s),DQ⟩
abbrev je (w:Str)(a b:Str):Bool:=qX (.str w) [.str a,.str b]
def zG (st:Bool)(bs:ag)(nds:O Nd)(p:Nat)(F:Tl):Prop:=if st=true then gX bs nds p F else gW (av bs) p F
structure Yw (K:ad2)(C CS:J)(H:Hp)(g:J)(wd:J)(ev v1 v2:V)(b1 b2:ag)(c:Ca)(ins:O Str)(n1 n2:O Nd)(f:Ef)(p q:Nat)(nd1 dI:Nd)(m1 m2:Int)(wf:Int->Int->Option (O V))(col:O V):Prop where
 gr:Gr K C CS H g v1 v2 b1 b2 c
 ca:fW H c b1 b2 n1 n2
 p1:aN H v1 b1 ins n1
 p2:aN H v2 b2 ins n2
 ev:fO H ev f
 ep:f.e.p=(p:Nat)
 eq:f.e.q=(q:Nat)
 h1:n1[p]?=S nd1
 h2:n2[q]?=S dI
 l1:n1~<=900
 l2:n2~<=900
 g1:(av b1)~<=900
 g2:(av b2)~<=900
 s1:je f.who "mine" "both"=true->RM H v1 b1 ins n1 p nd1 m1
 s2:je f.who "yours" "both"=true->RM H v2 b2 ins n2 q dI m2
 wa:nh H wd (nR b1 b2) wf
 wc:wf p q=S col
def Cf (K:ad2)(C CS CT:J):Sp:=λvs H Q z=>∃(x dx:J) (H0:Hp) (g wd:J) (ev v1 v2:V) (b1 b2:ag) (c:Ca) (ins:O Str) (n1 n2:O Nd) (f:Ef) (p q:Nat) (nd1 dI:Nd) (m1 m2:Int) (wf:Int->Int->Option (O V)) (col:O V),vs=[.ref x,.ref g,.ref wd,ev]/\ak H0 H/\H0 x=Z/\H x=S (.ins CT dx [])/\Yw K C CS H0 g wd ev v1 v2 b1 b2 c ins n1 n2 f p q nd1 dI m1 m2 wf col /\
 ∀(H':Hp) (hc:J) (F1 F2:Tl),Sc c H0 H'->H' hc=S (.lst col)->fW H' c b1 b2 n1 n2->zG (je f.who "mine" "both") b1 n1 p F1->zG (je f.who "yours" "both") b2 n2 q F2->yY K CT H' x wd hc (av b2)~ (je f.who "mine" "yours") F1 F2->Q .bA H'
def HZ:aA ["self","ground","waits","entry","p","q","who"] ["self","ground","waits","entry"] (ao PM):=dX
def Kh {C CS CT:J}{f:J}{fd:aef}(F:cF K "__init__" "Turn.__init__" PM f fd)(ct:jW K mg "Turn" CT ["width","waits","here","alone","first","second"])(cs:lj K CS)(SA:fY P w K mg base CS "steps_at" ["self","place"] 26 (mO K CS))(SY0:fY P w K mg base CS "stays_at" ["self","place"] 1 (mM K CS)):aL P w K mg base cm 27 f fd ["self","ground","waits","entry"] (Cf K C CS CT):=by
 #F.eO HZ λcdv A outer s H vs Q E hr h=>?_
 @⟨x,dx,H0,g,wd,ev,v1,v2,b1,b2,c,ins,n1,n2,⟨⟨fp,fq,fc⟩,who,fw⟩,p,q',nd1,dI,m1,m2,wf,col,rfl,s0,nx,hx,T,q⟩:=h
 @⟨cv,wv,⟨a,rfl,ha⟩,_,_⟩:=id T.ev
 !ep:fp=(p:Int):=T.ep
 !eq:fq=(q':Int):=T.eq
 subst ep eq
 !ha:H0 a=S (.tup [.int (p:Nat),.int (q':Nat),cv,.str who,wv]):=ha
 !cl:=ct.c
 !na:∀f,f∈(["width","waits","here","alone","first","second"]:O Str)->dQ K CT f:=λf hf=>ct.na.get hf
 !SY:=SY0.mono (show 1<=26 by left)
 #f7 ⟨_,(aiz (L3.OR 4 5 6 HZ.nd (L (aiy aiE (Y 3) aix) (L (aiy aiE (Y 3) aix) (L (aiy aiE (Y 3) aix) M))))
   (aiz (ai8 (Y 0) (aiP (Y 1)))
   (aiz (ai8 (Y 0) (Y 2))
   (aiz (ai8 (Y 0) (ajc (bj hr _ (by left)) (Y 2) (aiG (L (Y 4) (L (Y 5) M)))))
   (aiz (ai8 (Y 0) (ai4 ajl (Y 6) (aiG (L aiD (L aiD M))) U))
   (aiz (ai8 (Y 0) (L3.Q5 (aiK ajl (Y 6) (aiG (L aiD (L aiD M))) U) (aji (aiP (Y 1)) cs SA hr (L (Y 4) M)) (aji (aiP (Y 1)) cs SY hr (L (Y 4) M))))
   (aiA (ai8 (Y 0) (L3.Q5 (aiK ajl (Y 6) (aiG (L aiD (L aiD M))) U) (aji (aiP (Y 1)) cs SA hr (L (Y 5) M)) (aji (aiP (Y 1)) cs SY hr (L (Y 5) M))))))))))),?_⟩
 !M7:=T.gr.a.cl
 !Ow:=T.gr.a.na
 @⟨dg,fg,m,y,rl,cd,kvs,hg,lm,ly,MD,_,_,am,ay,_,_,_,jI,sm,sy⟩:=T.gr.view
 @⟨_,_,dm,fm,_,_,hm,_,_,_,_,_,_,nm⟩:=id sm
 @⟨_,_,dy,fy,_,_,hy,_,_,_,_,_,_,ny⟩:=id sy
 !Vj:p<n1~:=(aH T.h1)
 !Vm:q'<n2~:=(aH T.h2)
 !y0:Sc c H0 H:=ak.sc s0
 !z0:=y0.sm T.ca
 !c0:=T.ca.same s0
 #af U ?_
 #aW (s0 _ _ ha) U ?_
 #af U ?_
 #aW (s0 _ _ ha) U ?_
 #af U ?_
 #aW (s0 _ _ ha) U ?_
 #⟨_,_,af U ?_⟩
 dsimp only
 #bC λRk kR=>?_
 #af U ?_
 #bJ (s0 _ _ hg) M7 (Ow.get (by left)) MD ?_
 #af U ⟨x,CT,dx,[],U,hx,cl,na _ (by left),by left,?_⟩
 @⟨f1,e1,l1,w1,k1⟩:=eU "width" (.int ((av b2)~:Nat)) (fs:=[]) (ad5 0)
 rw[e1]
 !y1:Sc c H0 (upd H x (.ins CT dx f1)):=y0.put nx
 !c1:fW (upd H x (.ins CT dx f1)) c b1 b2 n1 n2:=c0.put hx
 !x1:(upd H x (.ins CT dx f1)) x=S (.ins CT dx f1):=ae
 generalize upd H x (.ins CT dx f1)=H1 at y1 c1 x1 ⊢
 !z1:=y1.sm T.ca
 #kR _ _ (bC λRk kR=>?_)
 #af U (af U ⟨x,CT,dx,f1,U,x1,cl,na _ (by left),by lia,?_⟩)
 @⟨f2,e2,l2,w2,k2⟩:=eU "waits" (.ref wd) l1
 rw[e2]
 !y2:Sc c H0 (upd H1 x (.ins CT dx f2)):=y1.put nx
 !c2:fW (upd H1 x (.ins CT dx f2)) c b1 b2 n1 n2:=c1.put x1
 !x2:(upd H1 x (.ins CT dx f2)) x=S (.ins CT dx f2):=ae
 generalize upd H1 x (.ins CT dx f2)=H2 at y2 c2 x2 ⊢
 !z2:=y2.sm T.ca
 #kR _ _ (bC λRk kR=>?_)
 @⟨kw,Ae,wok⟩:=id T.wa
 @⟨_,hc,hv,hcol⟩:=(wok (p:Int) (q':Int)).2 col T.wc
 #af U (af U (bu U akA (λkt Jm=>?_)))
 !s3:ak H2 (upd H2 kt (.tup [.int (p:Nat),.int (q':Nat)])):=ah Jm _
 !g3:=dv.t (k:=([.inl (p:Int),.inl (q':Int)]:O Key)) (s3 _ _ (z2 _ _ Ae (λv z=>nomatch z))) ae
 rw[hv]at g3
 replace x2:=s3 _ _ x2
 replace y2:=y2.same s3
 replace c2:=c2.same s3
 #⟨wd,af U ⟨g3,?_⟩⟩
 generalize upd H2 kt (.tup [.int (p:Nat),.int (q':Nat)])=Qw at x2 y2 c2 s3 ⊢
 !z2:=y2.sm T.ca
 #af U ⟨x,CT,dx,f2,U,x2,cl,na _ (by left),by lia,?_⟩
 @⟨f3,e3,l3,w3,k3⟩:=eU "here" (.ref hc) l2
 rw[e3]
 !y3:Sc c H0 (upd Qw x (.ins CT dx f3)):=y2.put nx
 !c3:fW (upd Qw x (.ins CT dx f3)) c b1 b2 n1 n2:=c2.put x2
 !x3:(upd Qw x (.ins CT dx f3)) x=S (.ins CT dx f3):=ae
 generalize upd Qw x (.ins CT dx f3)=H3 at y3 c3 x3 ⊢
 !z3:=y3.sm T.ca
 #kR _ _ (bC λRk kR=>?_)
 #bu U akA (λtt mm=>(aJ U (.inr (dY.of ae)) ⟨U,U,?_⟩))
 !s4:=ah mm (.tup [.str "mine",.str "yours"])
 replace x3:=s4 _ _ x3
 replace y3:=y3.same s4
 replace c3:=c3.same s4
 generalize upd H3 tt (.tup [.str "mine",.str "yours"])=MT at x3 y3 c3 s4 ⊢
 !z3:=y3.sm T.ca
 #af U ⟨x,CT,dx,f3,U,x3,cl,na _ (by left),by lia,?_⟩
 @⟨f4,e4,l4,w4,k4⟩:=eU "alone" (.bl (je who "mine" "yours")) l3
 change Rk _ (upd MT x (.ins CT dx (gC "alone" (.bl (je who "mine" "yours")) f3)))
 rw[e4]
 !y4:Sc c H0 (upd MT x (.ins CT dx f4)):=y3.put nx
 !c4:fW (upd MT x (.ins CT dx f4)) c b1 b2 n1 n2:=c3.put x3
 !x4:(upd MT x (.ins CT dx f4)) x=S (.ins CT dx f4):=ae
 generalize upd MT x (.ins CT dx f4)=H4 at y4 c4 x4 ⊢
 !z4:=y4.sm T.ca
 #kR _ _ (bC λRk kR=>?_)
 !Wr:∀(H5:Hp) (F1:Tl) (u1:V),Sc c H0 H5->fW H5 c b1 b2 n1 n2->H5 x=S (.ins CT dx f4)->zG (je who "mine" "both") b1 n1 p F1->gH H5 F1 u1->Rk [S (.ref x),S (.ref g),S (.ref wd),S (.ref a),S (.int (p:Nat)),S (.int (q':Nat)),S (.str who)] (upd H5 x (.ins CT dx (gC "first" u1 f4))):=λH5 F1 u1 y5 c5 x5 r1 t1=>by
   @⟨f5,e5,l5,w5,k5⟩:=eU "first" u1 l4
   rw[e5]
   #kR _ _ ?_
   !t6:gH (upd H5 x (.ins CT dx f5)) F1 u1:=t1.nE (x:=x) (Kp.refl H5).self (λv z=>by rw[x5]at z;cases z) (λv z=>by rw[x5]at z;cases z)
   !y6:Sc c H0 (upd H5 x (.ins CT dx f5)):=y5.put nx
   !c6:fW (upd H5 x (.ins CT dx f5)) c b1 b2 n1 n2:=c5.put x5
   !x6:(upd H5 x (.ins CT dx f5)) x=S (.ins CT dx f5):=ae
   generalize upd H5 x (.ins CT dx f5)=H6 at y6 c6 x6 t6 ⊢
   !z6:=y6.sm T.ca
   !go2:∀(H7:Hp) (F2:Tl) (u2:V),Sc c H0 H7->fW H7 c b1 b2 n1 n2->H7 x=S (.ins CT dx f5)->zG (je who "yours" "both") b2 n2 q' F2->gH H7 F1 u1->gH H7 F2 u2->Q .bA (upd H7 x (.ins CT dx (gC "second" u2 f5))):=λH7 F2 u2 y7 c7 x7 r2 t7 t8=>by
     @⟨f6,e6,l6,w6,k6⟩:=eU "second" u2 l5
     rw[e6]
     !nl:∀xs,H7 x≠S (.lst xs):=λv z=>by rw[x7]at z;cases z
     !nt:∀xs,H7 x≠S (.tup xs):=λv z=>by rw[x7]at z;cases z
     !y8:Sc c H0 (upd H7 x (.ins CT dx f6)):=y7.put nx
     #q _ hc F1 F2 y8 (y8.sm T.ca _ _ hcol (λv z=>nomatch z)) (c7.put x7) r1 r2 ⟨cl,ct.na,dx,f6,u1,u2,ae,?_,?_,?_,?_,?_,w6,t7.nE (x:=x) (Kp.refl H7).self nl nt,t8.nE (x:=x) (Kp.refl H7).self nl nt,λf hf=>?_⟩
     . rw[k6 _ (by left),k5 _ (by left),k4 _ (by left),k3 _ (by left),k2 _ (by left)];#w1
     . rw[k6 _ (by left),k5 _ (by left),k4 _ (by left),k3 _ (by left)];#w2
     . rw[k6 _ (by left),k5 _ (by left),k4 _ (by left)];#w3
     . rw[k6 _ (by left),k5 _ (by left)];#w4
     . rw[k6 _ (by left)];#w5
     . rw[k6 _ (λz=>hf (by rw[z];simp)),k5 _ (λz=>hf (by rw[z];simp)),k4 _ (λz=>hf (by rw[z];simp)),k3 _ (λz=>hf (by rw[z];simp)),k2 _ (λz=>hf (by rw[z];simp)),k1 _ (λz=>hf (by rw[z];simp))];rfl
   #bu U akA (λtt mm=>(aJ U (.inr (dY.of ae)) ⟨U,bB U U ?_⟩))
   !s6:=ah mm (.tup [.str "yours",.str "both"])
   replace x6:=s6 _ _ x6
   replace y6:=y6.same s6
   replace c6:=c6.same s6
   replace t6:=t6.sm (ak.sm s6)
   generalize upd H6 tt (.tup [.str "yours",.str "both"])=VZ at x6 y6 c6 t6 s6 ⊢
   !z6:=y6.sm T.ca
   #aC (λe=>?_) (λe=>?_)
   . replace e:je who "yours" "both"=true:=e
     !sp:=T.s2 e
     !kk:∃ks,VZ c.s2=S (.dK ks):=fW.k c6.s2
     @⟨ks,DZ⟩:=kk
     #af U ⟨g,C,dg,fg,af U ⟨z6 _ _ hg (λv z=>nomatch z),M7,Ow.get (by left),ly,y,dy,fy,U,z6 _ _ hy (λv z=>nomatch z),ny _ (by left),af U ⟨y,v2,c.s2,c.t2,b2,ins,n2,n2~,q',dI,m2,U,sy.sm z6,ay.sm z6,T.g2,T.l2,Vm,⟨sp.pa.sm z6,sp.ndn,sp.len,sp.sz,sp.here,sp.gd,sp.nf⟩,c6.s2,λH7 u2 F2 k7 C4 r7 LO=>?_⟩⟩⟩
     !x7:=k7 _ _ x6 (λz=>by rw[z,DZ]at x6;cases x6)
     #af U ⟨x,CT,dx,f5,U,x7,cl,na _ (by left),by lia,go2 H7 F2 u2 (y6.k3 k7) (c6.ks2 k7 C4) x7 (by unfold zG;rw[aR e];#r7) (t6.sm (k7.sm DZ)) LO⟩
   . replace e:¬ je who "yours" "both"=true:=e
     !kk:∃ks,VZ c.t2=S (.dK ks):=fW.k c6.t2
     @⟨ks,DZ⟩:=kk
     #af U ⟨g,C,dg,fg,af U ⟨z6 _ _ hg (λv z=>nomatch z),M7,Ow.get (by left),ly,y,dy,fy,U,z6 _ _ hy (λv z=>nomatch z),ny _ (by left),af U ⟨y,v2,av b2,c.s2,c.t2,n2~,q',U,sy.sm z6,ay.sm z6,T.g2,T.l2,Vm,c6.t2,λH7 u2 F2 k7 C4 r7 LO=>?_⟩⟩⟩
     !x7:=k7 _ _ x6 (λz=>by rw[z,DZ]at x6;cases x6)
     #af U ⟨x,CT,dx,f5,U,x7,cl,na _ (by left),by lia,go2 H7 F2 u2 (y6.k4 k7) (c6.kt2 k7 C4) x7 (by unfold zG;rw[aM e];#r7) (t6.sm (k7.sm DZ)) LO⟩
 #bu U akA (λtt mm=>(aJ U (.inr (dY.of ae)) ⟨U,bB U U ?_⟩))
 !s6:=ah mm (.tup [.str "mine",.str "both"])
 replace x4:=s6 _ _ x4
 replace y4:=y4.same s6
 replace c4:=c4.same s6
 generalize upd H4 tt (.tup [.str "mine",.str "both"])=VY at x4 y4 c4 s6 ⊢
 !z4:=y4.sm T.ca
 #aC (λe=>?_) (λe=>?_)
 . replace e:je who "mine" "both"=true:=e
   !sp:=T.s1 e
   !kk:∃ks,VY c.s1=S (.dK ks):=fW.k c4.s1
   @⟨ks,DZ⟩:=kk
   #af U ⟨g,C,dg,fg,af U ⟨z4 _ _ hg (λv z=>nomatch z),M7,Ow.get (by left),lm,m,dm,fm,U,z4 _ _ hm (λv z=>nomatch z),nm _ (by left),af U ⟨m,v1,c.s1,c.t1,b1,ins,n1,n1~,p,nd1,m1,U,sm.sm z4,am.sm z4,T.g1,T.l1,Vj,⟨sp.pa.sm z4,sp.ndn,sp.len,sp.sz,sp.here,sp.gd,sp.nf⟩,c4.s1,λH7 u2 F2 k7 C4 r7 LO=>?_⟩⟩⟩
   !x7:=k7 _ _ x4 (λz=>by rw[z,DZ]at x4;cases x4)
   #af U ⟨x,CT,dx,f4,U,x7,cl,na _ (by left),by lia,Wr H7 F2 u2 (y4.k1 k7) (c4.ks1 k7 C4) x7 (by unfold zG;rw[aR e];#r7) LO⟩
 . replace e:¬ je who "mine" "both"=true:=e
   !kk:∃ks,VY c.t1=S (.dK ks):=fW.k c4.t1
   @⟨ks,DZ⟩:=kk
   #af U ⟨g,C,dg,fg,af U ⟨z4 _ _ hg (λv z=>nomatch z),M7,Ow.get (by left),lm,m,dm,fm,U,z4 _ _ hm (λv z=>nomatch z),nm _ (by left),af U ⟨m,v1,av b1,c.s1,c.t1,n1~,p,U,sm.sm z4,am.sm z4,T.g1,T.l1,Vj,c4.t1,λH7 u2 F2 k7 C4 r7 LO=>?_⟩⟩⟩
   !x7:=k7 _ _ x4 (λz=>by rw[z,DZ]at x4;cases x4)
   #af U ⟨x,CT,dx,f4,U,x7,cl,na _ (by left),by lia,Wr H7 F2 u2 (y4.k2 k7) (c4.kt1 k7 C4) x7 (by unfold zG;rw[aM e];#r7) LO⟩
def wH (wf:Int->Int->Option (O V))(wid:Nat)(al:Bool)(h:Int)(x1 x2:O Int×Int×Nat):Option (Int×Int×Nat):=
 if h<0 then Z else if x1.1=x2.1 then
   match wf x1.2.1 x2.2.1 with
   | none=>Z
   | some col=>match col.getD (x1.2.2*wid+x2.2.2) .bA with
     | .int w=>if al=true/\h<=w then Z else S (x1.2.1,x2.2.1,x1.2.2*wid+x2.2.2)
     | _=>Z
 else Z
def NumV (wf:Int->Int->Option (O V)):Prop:=∀p q col,wf p q=S col->∀v∈col,v=.bA\/∃w,v=.int w
def BQ (K:ad2)(CT:J):Sp:=λvs H Q z=>∃(x wd hc:J) (row wid n:Nat) (al:Bool) (F1 F2:Tl) (wf:Int->Int->Option (O V)) (col:O V) (h:Int) (x1 x2:O Int×Int×Nat),vs=[.ref x,.int (row:Nat)]/\yY K CT H x wd hc wid al F1 F2/\nh H wd n wf/\NumV wf/\H hc=S (.lst col)/\col[row]?=S (.int h)/\F1[row/wid]?=S x1/\F2[row%wid]?=S x2/\0<wid/\wid<=900/\x1.2.2<=900/\x1.2.2*wid+x2.2.2<n /\
 (wH wf wid al h x1 x2=Z->∀H',ak H H'->Q .bA H')/\∀p q r,wH wf wid al h x1 x2=S (p,q,r)->∀(H':Hp) (t k:J),ak H H'->H' t=S (.tup [.ref k,.int (r:Nat)])->H' k=S (.tup [.int p,.int q])->Q (.ref t) H'
def jP:aA ["self","row","said","p","mine_number","heard","q","yours_number","there","wait"] ["self","row"] (ao Px):=dX
def JZ {CT:J}{f:J}{fd:aef}(F:cF K "behind" "Turn.behind" Px f fd)  : aL P w K mg base cm 1 f fd ["self","row"] (BQ K CT):=by
 #F.eO jP λcdv A outer s H vs Q E hr h=>?_
 @⟨x,wd,hc,row,wid,n,al,F1,F2,wf,col,h0,x1,x2,rfl,⟨cl,fU,dx,fs,v1,v2,hx,JP,W5,W0,lal,lf,ls,⟨l1,ts1,rfl,hl1,pt1⟩,⟨l2,ts2,rfl,hl2,rq⟩,_⟩,⟨kvs,Ae,wok⟩,nv,WC,kQ,kS,Jz,w0,w9,X3,hin,q0,q1⟩:=h
 @⟨said,p,i1⟩:=x1
 @⟨zR,q',j1⟩:=x2
 @⟨t1,Ut,e1,Ju,NC⟩:=Paired.xm pt1 kS
 @⟨t2,Uu,e2,Jv,NF⟩:=Paired.xm rq Jz
 replace X3:i1<=900:=X3
 replace Ju:H t1=S (.tup [.ref e1,.int p,.int (i1:Nat)]):=Ju
 replace Jv:H t2=S (.tup [.ref e2,.int q',.int (j1:Nat)]):=Jv
 replace NC:H e1=S (.lst (said.map V.int)):=NC
 replace NF:H e2=S (.lst (zR.map V.int)):=NF
 replace hin:i1*wid+j1<n:=hin
 #f7 ⟨_,(aiz (ajg (aiy aiH (aiP (Y 0)) (aiB aja (Y 1) (aiP (Y 0)))) (aiT 3 (aiI (aiC 2 jP.nd) (aiI (aiC 3 jP.nd) (aiI (aiC 4 jP.nd) aiU)))))
   (aiz (ajg (aiy aiH (aiP (Y 0)) (aiB aiQ (Y 1) (aiP (Y 0)))) (aiT 3 (aiI (aiC 5 jP.nd) (aiI (aiC 6 jP.nd) (aiI (aiC 7 jP.nd) aiU)))))
   (aiz (aiM (aje (ajb (aiK ai9 (aiy aiH (aiP (Y 0)) (Y 1)) aix) (ajb (aiK (L3.oq (m:=2) (bj hr _ (by left))) (Y 2) (Y 5)) (ajk (L3.oZ (bj hr _ (by left)) (aiG (L (Y 3) (L (Y 6) M))) (aiP (Y 0))))))) (aiA (aiF ajt)) aiN)
   (aiz (aiL 8 jP.nd (aiB aiZ (aiB ai5 (Y 4) (aiP (Y 0))) (Y 7)))
   (aiz (aiL 9 jP.nd (aiy aiH (ajc (bj hr _ (by left)) (aiP (Y 0)) (aiG (L (Y 3) (L (Y 6) M)))) (Y 8)))
   (aiz (aiM (aje (ajb (aiK L3.G4 (Y 9) ajt) (ajk (aje (L3.IT (ajh (aiP (Y 0))) (L3.IQ (aiK L3.AI (Y 9) (aiy aiH (aiP (Y 0)) (Y 1))))))))) (aiA (aiF ajt)) aiN)
   (aiA (aiF (aiG (L (aiG (L (Y 3) (L (Y 6) M))) (L (Y 8) M))))))))))),?_⟩
 !w9':((wid:Nat):Int)<=900:=by lia
 !Sz:hW (ts1.map V.ref) ((row/wid:Nat):Int)=S (.ref t1):=bL (by rw[aei,Ut];rfl)
 !SF:hW (ts2.map V.ref) ((row%wid:Nat):Int)=S (.ref t2):=bL (by rw[aei,Uu];rfl)
 #af U ?_
 #bJ hx cl (fU.get (by left)) lf ?_
 #af U (af U ?_)
 #bJ hx cl (fU.get (by left)) JP ?_
 #aJ U U ⟨⟨by lia,ahf (show((wid:Nat):Int)<901 by lia) (by right)⟩,?_⟩
 #bY hl1 Sz ?_
 #LS Ju ?_
 #af U ?_
 #bJ hx cl (fU.get (by left)) ls ?_
 #af U (af U ?_)
 #bJ hx cl (fU.get (by left)) JP ?_
 #aJ U U ⟨(by lia),?_⟩
 #bY hl2 SF ?_
 #LS Jv ?_
 unfold wH at q0 q1
 #af U ?_
 #bJ hx cl (fU.get (by left)) W0 ?_
 #af U ?_
 #bY WC (bL kQ) ?_
 #aJ U U (af U ?_)
 #aC (λc=>?_) (λc=>?_)
 . !c':h0<0:=cU c
   rw[aR c']at q0
   #nC (q0 rfl H (same_refl H))
 !c':¬ h0<0:=λz=>c (ed z)
 rw[aM c']at q0 q1
 #af U (af U ⟨_,RB.ints NC NF,af U ?_⟩)
 #aC (λc=>?_) (λc=>?_)
 . !cs:¬ said=zR:=by simpa using c
   rw[aM cs]at q0
   #nC (q0 rfl H (same_refl H))
 !cs:said=zR:=by simpa using c
 rw[aR cs]at q0 q1
 #af U (bu U akA (λkt Jm=>?_))
 !s3:ak H (upd H kt (.tup [.int p,.int q'])):=ah Jm _
 !g3:=dv.t (k:=([.inl p,.inl q']:O Key)) (s3 _ _ Ae) ae
 #af U ?_
 #bJ (s3 _ _ hx) cl (fU.get (by left)) W5 ?_
 #⟨wd,af U ⟨g3,af U ?_⟩⟩
 generalize upd H kt (.tup [.int p,.int q'])=H3 at s3 ⊢
 cases ef:wf p q' with
 | none=>
   rw[(wok p q').1 ef]
   #nC ?_
   !q0:=q0 (by change(match wf p q' with|none=>Z|some col=>_)=Z;rw[ef])
   #q0 _ s3
 | some c0=>
   @⟨lc0,cc,hv,xw⟩:=(wok p q').2 c0 ef
   rw[hv]
   #mn ?_
   !eb:(match wf p q' with
     | none=>Z
     | some col=>match col.getD (i1*wid+j1) .bA with
       | .int w=>if al=true/\h0<=w then Z else S (p,q',i1*wid+j1)
       | _=>Z:Option (Int×Int×Nat))=(match c0.getD (i1*wid+j1) .bA with
       | .int w=>if al=true/\h0<=w then Z else S (p,q',i1*wid+j1)
       | _=>Z):=by rw[ef]
   replace q0:=λz=>q0 (eb.trans z)
   replace q1:=λa b c z=>q1 a b c (eb.trans z)
   !jV:c0[i1*wid+j1]?=S (c0.getD (i1*wid+j1) .bA):=by rw[ad9,ad3 (by lia)];rfl
   #af U (af U ?_)
   #bJ (s3 _ _ hx) cl (fU.get (by left)) JP ?_
   #dB U U (.inl ⟨by lia,by lia⟩) (af U (aJ U U ?_))
   #aS ?_
   #af U ?_
   #bJ (s3 _ _ hx) cl (fU.get (by left)) W5 ?_
   #af U (bu U akA (λk2 Dd=>?_))
   !s4:ak H3 (upd H3 k2 (.tup [.int p,.int q'])):=ah Dd _
   !g4:=dv.t (k:=([.inl p,.inl q']:O Key)) (s4 _ _ (s3 _ _ Ae)) ae
   rw[hv]at g4
   #⟨wd,af U ⟨g4,af U ?_⟩⟩
   #bY (s4 _ _ (s3 _ _ xw)) (show hW c0 ((i1*wid+j1:Nat):Int)=_ from bL jV) ?_
   generalize upd H3 k2 (.tup [.int p,.int q'])=H4 at s4 ⊢
   !s04:=aa s3 s4
   #aS ?_
   rcases nv p q' c0 ef _ (ad4 jV)with ev|⟨w0,ev⟩
   . rw[ev]at q0 ⊢
     #af U (bB U U (nC (nC ?_)))
     #q0 rfl _ s04
   . rw[ev]at q0 q1 ⊢
     #af U (bB U U (mn ?_))
     replace q0:=λ(z:al=true/\h0<=w0)=>q0 (show(if al=true/\h0<=w0 then Z else S (p,q',i1*wid+j1))=Z from aR z)
     replace q1:=λ(z:¬ (al=true/\h0<=w0))=>q1 p q' (i1*wid+j1) (show(if al=true/\h0<=w0 then Z else S (p,q',i1*wid+j1))=S (p,q',i1*wid+j1)from aM z)
     #af U ?_
     #bJ (s04 _ _ hx) cl (fU.get (by left)) lal ?_
     #af U ?_
     #aC (λc=>?_) (λc=>?_)
     . #af U (af U ?_)
       #bJ (s04 _ _ hx) cl (fU.get (by left)) W0 ?_
       #af U ?_
       #bY (s04 _ _ WC) (bL kQ) ?_
       #aJ U U (af U ?_)
       #aC (λd=>?_) (λd=>?_)
       . #q0 ⟨c,cU d⟩ _ s04
       . #af U (bu U akA (λkk Ti=>(bu U akA (λtt mm=>?_))))
         #q1 (λz=>d (ed z.2)) _ tt kk (aa s04 (az (ah Ti _) mm)) ae (by rw[aj (ai ae mm)];#ae)
     . #af U (bu U akA (λkk Ti=>(bu U akA (λtt mm=>?_))))
       #q1 (λz=>c z.1) _ tt kk (aa s04 (az (ah Ti _) mm)) ae (by rw[aj (ai ae mm)];#ae)
abbrev PB:Stmt:=top 45
abbrev Pw:Stmt:=top 48
structure gY (bs:ag)(nds:O Nd)(m:Int):Prop where
 nd:(bs.map (·.1)).Nodup
 len:bs~<=900
 sz:∀b∈bs,1<=b.2
 gd:∀nd∈nds,nd.good (·∈bs.map (·.1)) m 19
 nl:nds~<=900
 gl:(av bs)~<=900
structure MZ (K:ad2)(C CS:J)(H:Hp)(g wd:J)(v1 v2:V)(b1 b2:ag)(c:Ca)(ins:O Str)(n1 n2:O Nd)(m1 m2:Int)(wf:Int->Int->Option (O V)):Prop where
 gr:Gr K C CS H g v1 v2 b1 b2 c
 ca:fW H c b1 b2 n1 n2
 p1:aN H v1 b1 ins n1
 p2:aN H v2 b2 ins n2
 o1:gY b1 n1 m1
 o2:gY b2 n2 m2
 wa:nh H wd (nR b1 b2) wf
 nv:NumV wf
def MZ.sc {C CS:J}{H H':Hp}{g wd:J}{v1 v2:V}{b1 b2:ag}{c:Ca}{ins:O Str}{n1 n2:O Nd}{m1 m2:Int}{wf:Int->Int->Option (O V)}(h:MZ K C CS H g wd v1 v2 b1 b2 c ins n1 n2 m1 m2 wf)(s:Sc c H H')(ca:fW H' c b1 b2 n1 n2):MZ K C CS H' g wd v1 v2 b1 b2 c ins n1 n2 m1 m2 wf:=
 have z:=s.sm h.ca
 ⟨h.gr.sm z,ca,h.p1.sm z,h.p2.sm z,h.o1,h.o2,h.wa.sm z,h.nv⟩
def pf (st:Bool)(bs:ag)(nd:Nd)(p i:Nat)(x:O Int×Int×Nat):Prop:=if st=true then ∃ws,cL bs (wA (av bs) i) nd=S (x.1,x.2.1,ws)/\(av bs)[x.2.2]?=S ws else x=([],(p:Int),i)
def pf.uniq {st:Bool}{bs:ag}{nd:Nd}{p i:Nat}{x y:O Int×Int×Nat}(h:pf st bs nd p i x)(k:pf st bs nd p i y):x=y:=by
 unfold pf at h k
 by_cases e:st=true
 . rw[aR e]at h k
   @⟨ws,h1,h2⟩:=h
   @⟨ws',k1,k2⟩:=k
   rw[h1]at k1
   injection k1 with k1
   injection k1 with a1 k1
   injection k1 with a2 a3
   subst a3
   @⟨x1,x2,x3⟩:=x
   @⟨y1,y2,y3⟩:=y
   !e3:x3=y3:=jH (ff _) h2 k2
   !e1:x1=y1:=a1
   !e2:x2=y2:=a2
   rw[e1,e2,e3]
 . rw[aM e]at h k
   rw[h,k]
def zG.at {st:Bool}{bs:ag}{nds:O Nd}{nd:Nd}{p i:Nat}{F:Tl}(h:zG st bs nds p F)(hn:nds[p]?=S nd)(hi:i<(av bs)~):∃x,F[i]?=S x/\pf st bs nd p i x/\x.2.2<(av bs)~:=by
 unfold zG at h
 unfold pf
 by_cases e:st=true
 . rw[aR e]at h
   @⟨nd',e',pr⟩:=h
   rw[hn]at e'
   cases e'
   !hr:(av bs)[i]?=S (av bs)[i]:=ad3 hi
   @⟨x,hx,ws,h1,h2⟩:=Paired.get pr hr
   #⟨x,hx,?_,(aH h2)⟩
   rw[aR e,gG hr]
   #⟨ws,h1,h2⟩
 . rw[aM e]at h
   !h:F=_:=h
   subst h
   #⟨([],(p:Int),i),by rw[aei,ae9 hi];rfl,?_,hi⟩
   rw[aM e]
def qv (b1 b2:ag)(wf:Int->Int->Option (O V))(f:Ef)(p q:Nat)(nd1 dI:Nd)(col:O V)(r:Nat):Prop:=eN (ip nd1) (ip dI) f.who=true/\∃x1 x2 h,pf (je f.who "mine" "both") b1 nd1 p (r/(av b2)~) x1/\pf (je f.who "yours" "both") b2 dI q (r%(av b2)~) x2/\col[r]?=S (.int h)/\(wH wf (av b2)~ (je f.who "mine" "yours") h x1 x2).isSome=true
def GY {w a b:Str}:je w a b=true↔w=a\/w=b:=by
 change qX (.str w) [.str a,.str b]=true↔_
 simp only[qX,afn,ahl,ahb,Bool.or_eq_true]
 !e:∀x:Str,jU (.str x) (.str w)=true↔w=x:=λx=>⟨λh=>(show x=w by simpa[jU]using h).symm,λh=>by subst h;simp[jU]⟩
 rw[e,e]
def As (nd:Nd):ip nd="put"\/ip nd="say"\/ip nd="test"\/ip nd="end":=by
 cases nd
 . #.inl rfl
 . #.inr (.inl rfl)
 . #.inr (.inr (.inl rfl))
 . #.inr (.inr (.inr rfl))
def Cv {nd1 dI:Nd}{w:Str}(h:eN (ip nd1) (ip dI) w=true)(m:je w "mine" "both"=true):nd1≠.fin:=λe=>by
 subst e
 !h:eN "end" (ip dI) w=true:=h
 rcases GY.mp m with rfl|rfl<;>rcases As dI with e|e|e|e<;>rw[e]at h<;>revert h<;>decide
def Cw {nd1 dI:Nd}{w:Str}(h:eN (ip nd1) (ip dI) w=true)(m:je w "yours" "both"=true):dI≠.fin:=λe=>by
 subst e
 !h:eN (ip nd1) "end" w=true:=h
 rcases GY.mp m with rfl|rfl<;>rcases As nd1 with e|e|e|e<;>rw[e]at h<;>revert h<;>decide
def BY (K:ad2)(C CS:J):Sp:=λvs H Q z=>∃(g wd ra:J) (ev v1 v2:V) (b1 b2:ag) (c:Ca) (ins:O Str) (n1 n2:O Nd) (m1 m2:Int) (wf:Int->Int->Option (O V)) (f:Ef) (p q:Nat) (nd1 dI:Nd) (col:O V) (rows:O Nat),vs=[.ref g,.ref wd,ev,.ref ra]/\MZ K C CS H g wd v1 v2 b1 b2 c ins n1 n2 m1 m2 wf/\fO H ev f/\f.e.p=(p:Nat)/\f.e.q=(q:Nat)/\n1[p]?=S nd1/\n2[q]?=S dI/\wf p q=S col/\H ra=S (.lst (cD rows))/\(∀r∈rows,r<nR b1 b2/\∃h,col[r]?=S (.int h)) /\
 ∀(b:Bool) (H':Hp),Sc c H H'->fW H' c b1 b2 n1 n2->(b=true↔∀r∈rows,qv b1 b2 wf f p q nd1 dI col r)->Q (.bl b) H'
def Bx:aA ["ground","waits","entry","rows","turn","row"] ["ground","waits","entry","rows"] (ao PB):=dX
def J3 {C CS CT:J}{f:J}{fd:aef}(F:cF K "entry_well" "entry_well" PB f fd)(ct:lj K CT)(m_len:mg "len"=Z)(FT0:bI P w K mg base "turn_fits" ["ground","entry"] 2 (Ce K C CS))(TU:m7 P w K mg base "Turn" CT ["self","ground","waits","entry"] 27 (Cf K C CS CT))(BH0:fY P w K mg base CT "behind" ["self","row"] 1 (BQ K CT)):aL P w K mg base cm 29 f fd ["ground","waits","entry","rows"] (BY K C CS):=by
 #F.eO Bx λcdv A outer s H vs Q E hr h=>?_
 @⟨g,wd,ra,ev,v1,v2,b1,b2,c,ins,n1,n2,m1,m2,wf,f,p,q',nd1,dI,col,rows,rfl,T,Wz,ep,eq,h1,h2,hwf,yO,f9,q⟩:=h
 !FT:=FT0.mono (show 2<=28 by left)
 !BH:=BH0.mono (show 1<=28 by left)
 #f7 ⟨_,(aiz (aiM (aiK aiR (aiS aiX U m_len aeo (L (Y 3) M)) aix) (aiA (aiF ai1)) aiN)
   (aiz (aiM (ajo (ajh (aiJ FT hr U (L (Y 0) (L (Y 2) M))))) (aiA (aiF ai1)) aiN)
   (aiz (aiL 4 Bx.nd (ajE TU hr U (L (Y 0) (L (Y 1) (L (Y 2) M)))))
   (aiz (ai0 (aiW (Y 3)) (aiC 5 Bx.nd) (aiA (aiM (aiK L3.G4 (aji (Y 4) ct BH hr (L (Y 5) M)) ajt) (aiA (aiF ai1)) aiN)))
   (aiA (aiF ai1)))))),?_⟩
 #af U (aJ U (.inl (aB.of yO)) (bB U U ?_))
 #aC (λe=>?_) (λe=>?_)
 . !e0:rows=[]:=by
     rw[ad1]at e
     simpa using e
   subst e0
   #q true H (ak.sc (same_refl H)) T.ca ⟨λy r hr=>(nomatch hr),λy=>rfl⟩
 #af U (af U ⟨g,ev,v1,v2,b1,b2,c,ins,n1,n2,f,p,q',nd1,dI,U,T.gr,T.p1,T.p2,Wz,ep,eq,h1,h2,af U ?_⟩)
 #aC (λe2=>?_) (λe2=>?_)
 . !DF:¬ eN (ip nd1) (ip dI) f.who=true:=by simpa using e2
   #q false H (ak.sc (same_refl H)) T.ca ⟨λz=>(nomatch z),λall=>?_⟩
   cases rows with
   | nil=>#aw U e
   | cons r rs=>#aw (all r aeX).1 DF
 !DF:eN (ip nd1) (ip dI) f.who=true:=by simpa using e2
 !Vj:p<n1~:=(aH h1)
 !Vm:q'<n2~:=(aH h2)
 #af U (af U (af U (λx dx nx ME ne=>⟨x,dx,H,g,wd,ev,v1,v2,b1,b2,c,ins,n1,n2,f,p,q',nd1,dI,m1,m2,wf,col,U,aE (ah ME _) nx,nx,ae,⟨T.gr,T.ca,T.p1,T.p2,Wz,ep,eq,h1,h2,T.o1.nl,T.o2.nl,T.o1.gl,T.o2.gl,(λm=>⟨T.p1,T.o1.nd,T.o1.len,T.o1.sz,h1,T.o1.gd _ (ad4 h1),Cv DF m⟩),(λm=>⟨T.p2,T.o2.nd,T.o2.len,T.o2.sz,h2,T.o2.gd _ (ad4 h2),Cw DF m⟩),T.wa,hwf⟩,λH' hc F1 F2 y' hcol V9 r1 r2 tu=>⟨U,?_⟩⟩)))
 #aS ?_
 !z':=y'.sm T.ca
 !wa':=T.wa.sm z'
 #af U (bu U ⟨_,aB.of (z' _ _ yO (λy z=>nomatch z))⟩ ?_)
 #dz (xs:=cD rows) (λi σ H2=>(∃o,σ=[S (.ref g),S (.ref wd),S ev,S (.ref ra),S (.ref x),o])/\ak H' H2/\∀r∈rows.take i,qv b1 b2 wf f p q' nd1 dI col r) ⟨⟨_,U⟩,same_refl _,(λr hr=>by rw[afQ]at hr;cases hr)⟩ (λi σ H2 y z=>aB.of (z.2.1 _ _ (z' _ _ yO (λy z=>nomatch z)))) (λi x0 σ H2 GQ z=>?_) (λσ H2 z=>?_)
 . @⟨⟨o,rfl⟩,s2,ok⟩:=z
   @⟨r,dO,rfl⟩:=aX GQ
   @⟨ML,h0,Td⟩:=f9 r (ad4 dO)
   !w2:0<(av b2)~:=afG λz=>by unfold nR at ML;rw[z,agK]at ML;#aw ML (ae8 _)
   @⟨x1,kS,g1,l1⟩:=r1.at h1 (show r/(av b2)~<(av b1)~ from af0 (by rw[agh];#ML))
   @⟨x2,Jz,g2,l2⟩:=r2.at h2 (ahT r w2)
   !gl1:=T.o1.gl
   !ZQ:=T.o2.gl
   !XU:=tu.same s2
   @⟨_,_,YU,Zg,_,_,hxx,_,_,_,_,_,_,_,_,nn⟩:=id XU
   !inn:x1.2.2*(av b2)~+x2.2.2<nR b1 b2:=by
     !h3:(x1.2.2+1)*(av b2)~<=(av b1)~*(av b2)~:=afZ _ l1
     rw[afV]at h3
     change _<(av b1)~*(av b2)~
     lia
   #aS ?_
   #af U ⟨x,YU,Zg,U,hxx,nn _ (by left),af U ⟨x,wd,hc,r,(av b2)~,nR b1 b2,_,F1,F2,wf,col,h0,x1,x2,U,XU,wa'.sm (ak.sm s2),T.nv,s2 _ _ hcol,Td,kS,Jz,w2,ZQ,by lia,inn,λe H3 s3=>(bB U U ?_),λpp qq rr e H3 tt kk s3 y y=>(bB U U ?_)⟩⟩
   . #aC (λy=>?_) (λc=>aw (ed rfl) c)
     !s23:=aa s2 s3
     #q false H3 (y'.same s23) (V9.same s23) ⟨λz=>(nomatch z),λall=>?_⟩
     @⟨_,y1,y2,h3,k1,k2,k3,k4⟩:=all r (ad4 dO)
     rw[k1.uniq g1,k2.uniq g2]at k4
     rw[Td]at k3
     cases k3
     rw[e]at k4
     cases k4
   . #aC (λc=>aw (cU c) (λz=>nomatch z)) (λy=>?_)
     #⟨⟨_,U⟩,aa s2 s3,λr0 n8=>?_⟩
     rw[aec,dO]at n8
     rcases eI n8 with z|z
     . #ok r0 z
     . rw[cR z]
       #⟨DF,x1,x2,h0,g1,g2,Td,by rw[e];rfl⟩
 . @⟨⟨o,rfl⟩,s2,ok⟩:=z
   rw[ad1,aed]at ok
   #q true H2 (y'.same s2) (V9.same s2) ⟨λy=>ok,λy=>rfl⟩
def lM.uniq {b1 b2:ag}{ins:O Str}{r:O Int}{k k':Nat}(h:lM b1 b2 ins r k)(h':lM b1 b2 ins r k'):k=k':=by
 @⟨i,j,h1,h2,rfl⟩:=h
 @⟨i',j',h3,h4,rfl⟩:=h'
 rw[jH (ff _) h1 h3,jH (ff _) h2 h4]
def MQ (b1 b2:ag)(ins:O Str)(wf:Int->Int->Option (O V)):Prop:=∃col,wf 0 0=S col/\∀ws∈bV (ins.map (bN b1)),∀k,lM b1 b2 ins ws k->col.getD k .bA≠.bA
def Du {b1 b2:ag}{ins:O Str}{rows:O Nat}{col:O V}(p:Paired (lM b1 b2 ins) (bV (ins.map (bN b1))) rows):((rows.map λr=>!decide (col.getD r .bA=.bA)).all id)=true↔∀ws∈bV (ins.map (bN b1)),∀k,lM b1 b2 ins ws k->col.getD k .bA≠.bA:=by
 rw[afz]
 constructor
 . intro h ws yQ k hk
   @⟨i,hi⟩:=aeB yQ
   @⟨k',NQ,br⟩:=Paired.get p hi
   rw[hk.uniq br]
   !:=h _ (dD ⟨k',ad4 NQ,rfl⟩)
   simpa using this
 . intro h x hx
   @⟨r,hr,rfl⟩:=cO hx
   @⟨i,hi⟩:=aeB hr
   @⟨ws,yQ,br⟩:=Paired.xm p hi
   !:=h ws (ad4 yQ) r br
   simpa using this
def MS (b1 b2:ag)(n1 n2:O Nd)(wf:Int->Int->Option (O V))(f:Ef)(rows:O Nat):Prop:=∃p q nd1 dI col,f.e.p=((p:Nat):Int)/\f.e.q=((q:Nat):Int)/\n1[p]?=S nd1/\n2[q]?=S dI/\wf p q=S col/\∀r∈rows,r<nR b1 b2/\∃h,col[r]?=S (.int h)
def Dn (b1 b2:ag)(n1 n2:O Nd)(wf:Int->Int->Option (O V))(f:Ef)(rows:O Nat):Prop:=∀p q nd1 dI col,f.e.p=((p:Nat):Int)->f.e.q=((q:Nat):Int)->n1[p]?=S nd1->n2[q]?=S dI->wf p q=S col->∀r∈rows,qv b1 b2 wf f p q nd1 dI col r
def Ig (K:ad2)(C CS:J):Sp:=λvs H Q z=>∃(g wd:J) (v1 v2:V) (b1 b2:ag) (c:Ca) (ins:O Str) (n1 n2:O Nd) (f:Int->Int->Option (O V)),vs=[.ref g,.ref wd]/\Gr K C CS H g v1 v2 b1 b2 c/\L6 H v1 v2 b1 b2 ins n1 n2/\nh H wd (nR b1 b2) f/\∀(b:Bool) (H':Hp),ak H H'->(b=true↔MQ b1 b2 ins f)->Q (.bl b) H'
def YI {C CS:J}{vs:O V}{H:Hp}{Q:VK}{E:XK}(h:Ig K C CS vs H Q E):v5 K C CS vs H Q E:=by
 @⟨g,wd,v1,v2,b1,b2,c,ins,n1,n2,f,rfl,gr,pr,wa,q⟩:=h
 #⟨g,wd,v1,v2,b1,b2,c,ins,n1,n2,f,U,gr,pr,wa,λe H1 s1=>q false H1 s1 ⟨λz=>(nomatch z),λ⟨col,e',_⟩=>by rw[e]at e';cases e'⟩,λcol e rows H1 s1 pb=>q _ H1 s1 ((Du pb).trans ⟨λh=>⟨col,e,h⟩,λ⟨zh,e',h⟩=>by rw[e]at e';cases e';#h⟩)⟩
structure Ya (K:ad2)(C CS:J)(H:Hp)(g pa ca wd:J)(v1 v2:V)(b1 b2:ag)(c:Ca)(ins:O Str)(n1 n2:O Nd)(m1 m2:Int)(wf:Int->Int->Option (O V))(vps:O V)(es:O Ef)(cas:O J)(cnt:O (O Nat)):Prop where
 p:MZ K C CS H g wd v1 v2 b1 b2 c ins n1 n2 m1 m2 wf
 r:L6 H v1 v2 b1 b2 ins n1 n2
 hp:H pa=S (.lst vps)
 pe:Paired (fO H) vps es
 hc:H ca=S (.lst (cas.map V.ref))
 pc:Paired (λa rows=>H a=S (.lst (cD rows))) cas cnt
 l1:cnt~=es~
 ef:∀(i:Nat) f rows,es[i]?=S f->cnt[i]?=S rows->MS b1 b2 n1 n2 wf f rows
def MU (b1 b2:ag)(ins:O Str)(n1 n2:O Nd)(wf:Int->Int->Option (O V))(es:O Ef)(cnt:O (O Nat)):Prop:=MQ b1 b2 ins wf/\∀(i:Nat) f rows,es[i]?=S f->cnt[i]?=S rows->Dn b1 b2 n1 n2 wf f rows
def BO (K:ad2)(C CS:J):Sp:=λvs H Q z=>∃(g pa ca wd:J) (v1 v2:V) (b1 b2:ag) (c:Ca) (ins:O Str) (n1 n2:O Nd) (m1 m2:Int) (wf:Int->Int->Option (O V)) (vps:O V) (es:O Ef) (cas:O J) (cnt:O (O Nat)),vs=[.ref g,.ref pa,.ref ca,.ref wd]/\Ya K C CS H g pa ca wd v1 v2 b1 b2 c ins n1 n2 m1 m2 wf vps es cas cnt /\
 ∀(b:Bool) (H':Hp),Sc c H H'->(b=true↔MU b1 b2 ins n1 n2 wf es cnt)->Q (.bl b) H'
def Bv:aA ["ground","paper","counted","waits","entry","rows"] ["ground","paper","counted","waits"] (ao Pw):=dX
def JW {C CS:J}{f:J}{fd:aef}(F:cF K "all_well" "all_well" Pw f fd)(m_zip:mg "zip"=Z)(BW0:bI P w K mg base "begins_well" ["ground","waits"] 4 (v5 K C CS))(EW:bI P w K mg base "entry_well" ["ground","waits","entry","rows"] 29 (BY K C CS)):aL P w K mg base cm 30 f fd ["ground","paper","counted","waits"] (BO K C CS):=by
 #F.eO Bv λcdv A outer s H vs Q E hr h=>?_
 @⟨g,pa,ca,wd,v1,v2,b1,b2,c,ins,n1,n2,m1,m2,wf,vps,es,cas,cnt,rfl,T,q⟩:=h
 !BW:=(BW0.imp (sp':=Ig K C CS) λv v v v h=>YI h).mono (show 4<=29 by left)
 #f7 ⟨_,(aiz (aiM (ajo (ajh (aiJ BW hr U (L (Y 0) (L (Y 3) M))))) (aiA (aiF ai1)) aiN)
   (aiz (ai0 (ajp U m_zip (L (Y 1) (L (Y 2) M))) (aiT 2 (aiI (aiC 4 Bv.nd) (aiI (aiC 5 Bv.nd) aiU))) (aiA (aiM (ajo (ajh (aiJ EW hr U (L (Y 0) (L (Y 3) (L (Y 4) (L (Y 5) M))))))) (aiA (aiF ai1)) aiN)))
   (aiA (aiF ai1)))),?_⟩
 !vl:=Paired.length T.pe
 !Ma:=Paired.length T.pc
 !e1:=T.l1
 #af U (af U ⟨g,wd,v1,v2,b1,b2,c,ins,n1,n2,wf,U,T.p.gr,T.r,T.p.wa,λbb H1 s1 eb=>(af U ?_)⟩)
 #aC (λcc=>?_) (λcc=>?_)
 . !nb:¬ bb=true:=by simpa using cc
   #q false H1 (ak.sc s1) ⟨λz=>(nomatch z),λz=>aw (eb.mpr z.1) nb⟩
 !yb:bb=true:=by simpa using cc
 #af U (af U ⟨pa,bu U ⟨_,aB.of (s1 _ _ T.hp)⟩ ⟨⟨_,aB.of (s1 _ _ T.hc)⟩,?_⟩⟩)
 #pd (xs:=vps) (ys:=cas.map V.ref) (by rw[ad1];lia) (λi σ H2=>(∃o4 o5,σ=[S (.ref g),S (.ref pa),S (.ref ca),S (.ref wd),o4,o5])/\Sc c H H2/\fW H2 c b1 b2 n1 n2/\∀k,k<i->∀f rows,es[k]?=S f->cnt[k]?=S rows->Dn b1 b2 n1 n2 wf f rows) ⟨⟨_,_,U⟩,ak.sc s1,T.p.ca.same s1,λk hk=>aw hk (ae8 _)⟩ (λi σ H2 v z=>⟨aB.of (z.2.1.sm T.p.ca _ _ T.hp (λv z=>nomatch z)),aB.of (z.2.1.sm T.p.ca _ _ T.hc (λv z=>nomatch z))⟩) (λi x y p σ H2 hx hy z N6=>?_) (λσ H2 z=>?_)
 . @⟨⟨o4,o5,rfl⟩,y2,c2,ok⟩:=z
   @⟨f,hf,hef⟩:=Paired.get T.pe hx
   @⟨ra,yO,rfl⟩:=aX hy
   @⟨rows,f9,tQ⟩:=Paired.get T.pc yO
   @⟨pp,qq,nd1,dI,col,ep,eq,h1,h2,hw,dO⟩:=T.ef i f rows hf f9
   @⟨H3,s3,g3,zz⟩:=aK N6 (.tup [x,.ref ra])
   rw[zz];clear zz
   !y3:=y2.same s3
   !c3:=c2.same s3
   !z3:=y3.sm T.p.ca
   #nJ g3 ?_
   #af U (af U (af U (af U ⟨g,wd,ra,x,v1,v2,b1,b2,c,ins,n1,n2,m1,m2,wf,f,pp,qq,nd1,dI,col,rows,U,T.p.sc y3 c3,hef.keep (λb xs e=>z3 _ _ e (λv z=>nomatch z)),ep,eq,h1,h2,hw,z3 _ _ tQ (λv z=>nomatch z),dO,λb H4 y4 c4 YW=>(af U ?_)⟩)))
   !ew:b=true↔Dn b1 b2 n1 n2 wf f rows:=YW.trans ⟨λh p' q' d1 d2 cl a1 a2 a3 a4 a5 r hr=>by
     rw[ep]at a1
     rw[eq]at a2
     obtain rfl:pp=p':=agf a1
     obtain rfl:qq=q':=agf a2
     rw[h1]at a3
     rw[h2]at a4
     rw[hw]at a5
     cases a3
     cases a4
     cases a5
     #h r hr,λh=>h pp qq nd1 dI col ep eq h1 h2 hw⟩
   #aC (λcc=>?_) (λcc=>?_)
   . !nb:¬ b=true:=by simpa using cc
     #q false H4 (y3.trans y4) ⟨λz=>(nomatch z),λz=>aw (ew.mpr (z.2 i f rows hf f9)) nb⟩
   . !yb:b=true:=by simpa using cc
     #⟨⟨_,_,U⟩,y3.trans y4,c4,λk hk f' Po Ta n8=>?_⟩
     by_cases ek:k=i
     . subst ek
       rw[hf]at Ta
       rw[f9]at n8
       cases Ta
       cases n8
       #ew.mp yb
     . #ok k (by lia) f' Po Ta n8
 . @⟨⟨o4,o5,rfl⟩,y2,c2,ok⟩:=z
   #q true H2 y2 ⟨λv=>⟨eb.mp yb,λi f rows hf n8=>ok i (by rw[vl];#(aH hf)) f rows hf n8⟩,λv=>rfl⟩
def ib (es:O Ef)(W:Str->Str->Int)(p q:Int):Option Ef:=es.find? λf=>yh f.e p q&&f.e.c.holds W
def qC (es:O Ef)(f:Ef)(W:Str->Str->Int)(p q:Int):ib (es++[f]) W p q=match ib es W p q with
   | some g=>S g
   | none=>if(yh f.e p q&&f.e.c.holds W)=true then S f else Z:=by
 unfold ib
 rw[agp]
 cases es.find? (λf=>yh f.e p q&&f.e.c.holds W)with
 | some g=>rfl
 | none=>
   rw[Option.none_or,afa]
   cases(yh f.e p q&&f.e.c.holds W)<;>rfl
theorem rE (g:Nat->V):∀(rows:O Nat) (col:O V) (r:Nat),r<col~->(gD col rows (rows.map g))[r]?=if r∈rows then S (g r)else col[r]?
 | [],col,r,_=>by rw[aM (λh=>nomatch h)];rfl
 | a::rows,col,r,h=>by
   change(gD (col.set a (g a)) rows (rows.map g))[r]?=_
   rw[rE g rows (col.set a (g a)) r (by rw[afu];#h)]
   by_cases m:r∈rows
   . rw[aR m,aR (dA (.inr m))]
   . rw[aM m,ago]
     by_cases e:a=r
     . subst e
       rw[aR rfl,aR aeX,aR h]
     . rw[aM e,aM λz=>(cZ z).elim (λz=>e z.symm) m]
def wV (b1 b2:ag)(es:O Ef)(p q:Int)(r:Nat):V:=match ib es (dt b1 b2 r) p q with
 | some f=>.int (f.wait.worth (dt b1 b2 r))
 | none=>.bA
def ju {b1 b2:ag}{es:O Ef}{f:Ef}{r:Nat}:r∈iy b1 b2 (es.map (·.e)) f.e↔r<nR b1 b2/\ib es (dt b1 b2 r) f.e.p f.e.q=Z/\f.e.c.holds (dt b1 b2 r)=true:=by
 unfold iy eT ib
 rw[ahy,ahy,List.mem_range,List.find?_eq_none]
 constructor
 . rintro⟨⟨h1,h2⟩,h3⟩
   #⟨h1,λg hg z=>?_,h3⟩
   !:((es.map (·.e)).any λe=>yh e f.e.p f.e.q&&D4 b1 b2 e.c r)=true:=List.any_eq_true.mpr ⟨g.e,dD ⟨g,hg,rfl⟩,z⟩
   rw[this]at h2
   cases h2
 . rintro⟨h1,h2,h3⟩
   #⟨⟨h1,?_⟩,h3⟩
   rw[Bool.not_eq_true']
   #Bool.eq_false_iff.mpr λz=>?_
   @⟨e,he,z⟩:=List.any_eq_true.mp z
   @⟨g,hg,rfl⟩:=cO he
   #h2 g hg z
theorem vg (b1 b2:ag):∀(xs done:O En) (i:Nat) (e:En),xs[i]?=S e->(kL b1 b2 done xs)[i]?=S (iy b1 b2 (done++xs.take i) e)
 | [],_,i,e,h=>by cases h
 | x::xs,done,0,e,h=>by
   cases h
   change S (iy b1 b2 done x)=_
   rw[afQ,aeK]
 | x::xs,done,i+1,e,h=>by
   change(kL b1 b2 (done++[x]) xs)[i]?=_
   rw[vg b1 b2 xs _ i e h,List.take_succ_cons,afN]
   rfl
abbrev jZ (b1 b2:ag)(es:O Ef):O (O Nat):=kL b1 b2 [] (es.map (·.e))
def jt {b1 b2:ag}{es:O Ef}{i:Nat}{f:Ef}(h:es[i]?=S f):(jZ b1 b2 es)[i]?=S (iy b1 b2 ((es.take i).map (·.e)) f.e):=by
 rw[show jZ b1 b2 es=kL b1 b2 [] (es.map (·.e))from rfl,vg b1 b2 _ _ i f.e (by rw[aei,h];rfl),ahx,ahU]
abbrev lh (b1 b2:ag)(es:O Ef)(i:Nat):mZ:=fe (nR b1 b2) (es.map (·.e)) (jZ b1 b2 es) (kG b1 b2 es (jZ b1 b2 es)) i
def CH {b1 b2:ag}{es:O Ef}{i:Nat}{f:Ef}(h:es[i]?=S f):lh b1 b2 es (i+1)=df (nR b1 b2) (lh b1 b2 es i) f.e.p f.e.q (iy b1 b2 ((es.take i).map (·.e)) f.e) (rX b1 b2 f (iy b1 b2 ((es.take i).map (·.e)) f.e)):=by
 change(match(es.map (·.e))[i]?,(jZ b1 b2 es)[i]?,(kG b1 b2 es (jZ b1 b2 es))[i]? with
   | some e,S rows,S th=>df (nR b1 b2) (lh b1 b2 es i) e.p e.q rows th
   | _,_,_=>lh b1 b2 es i)=_
 rw[afT,jt h,aei,h]
 rfl
theorem CF (b1 b2:ag)(es:O Ef)(p q:Int):∀i,i<=es~->((∀f∈es.take i,¬ (f.e.p=p/\f.e.q=q))/\lh b1 b2 es i p q=Z)\/((∃f∈es.take i,f.e.p=p/\f.e.q=q)/\∃col,lh b1 b2 es i p q=S col/\col~=nR b1 b2/\∀r,r<nR b1 b2->col[r]?=S (wV b1 b2 (es.take i) p q r))
 | 0,_=>.inl ⟨λf hf=>by rw[afQ]at hf;(cases hf),rfl⟩
 | i+1,h=>by
   !hi:es[i]?=S es[i]:=ad3 h
   !et:es.take (i+1)=es.take i++[es[i]]:=by rw[aec,hi];rfl
   generalize es[i]=f at hi et
   rw[CH hi]
   !ih:=CF b1 b2 es p q i (by lia)
   !R3:df (nR b1 b2) (lh b1 b2 es i) f.e.p f.e.q (iy b1 b2 ((es.take i).map (·.e)) f.e) (rX b1 b2 f (iy b1 b2 ((es.take i).map (·.e)) f.e)) p q=if p=f.e.p/\q=f.e.q then S (gD ((lh b1 b2 es i f.e.p f.e.q).getD (aev (nR b1 b2) .bA)) (iy b1 b2 ((es.take i).map (·.e)) f.e) (rX b1 b2 f (iy b1 b2 ((es.take i).map (·.e)) f.e)))else lh b1 b2 es i p q:=rfl
   rw[R3,et]
   by_cases c:p=f.e.p/\q=f.e.q
   . rw[aR c]
     @⟨rfl,rfl⟩:=c
     #.inr ⟨⟨f,iC (.inr (List.mem_singleton.mpr rfl)),U,U⟩,af U ?_⟩
     !old:∃col,(lh b1 b2 es i f.e.p f.e.q).getD (aev (nR b1 b2) .bA)=col/\col~=nR b1 b2/\∀r,r<nR b1 b2->col[r]?=S (wV b1 b2 (es.take i) f.e.p f.e.q r):=by
       rcases ih with⟨no,e⟩|⟨_,col,e,l,at_⟩
       . #⟨_,by rw[e];rfl,afg,λr hr=>?_⟩
         !:ib (es.take i) (dt b1 b2 r) f.e.p f.e.q=Z:=List.find?_eq_none.mpr λg hg z=>by
           rw[aeI]at z
           #no g hg (cU z.1)
         unfold wV
         rw[this,agu,aR hr]
       . #⟨col,by rw[e];rfl,l,at_⟩
     @⟨col,e,l,at_⟩:=old
     rw[e]
     #⟨by rw[kc,l],λr hr=>?_⟩
     rw[rE (λr=>V.int (f.wait.worth (dt b1 b2 r))) _ col r (by rw[l];#hr)]
     unfold wV
     rw[qC]
     by_cases m:r∈iy b1 b2 ((es.take i).map (·.e)) f.e
     . rw[aR m]
       @⟨_,h2,h3⟩:=ju.mp m
       rw[h2]
       change _=S (match(if(yh f.e f.e.p f.e.q&&f.e.c.holds (dt b1 b2 r))=true then S f else Z)with
         | some f=>V.int (f.wait.worth (dt b1 b2 r))
         | none=>V.bA)
       rw[h3,aR (by rw[Bool.and_true];#ed ⟨rfl,rfl⟩)]
     . rw[aM m,at_ r hr]
       unfold wV
       cases e2:ib (es.take i) (dt b1 b2 r) f.e.p f.e.q with
       | some g=>rfl
       | none=>
         have h3:f.e.c.holds (dt b1 b2 r)=false:=by
           cases h3:f.e.c.holds (dt b1 b2 r)with
           | false=>rfl
           | true=>#aw (ju.mpr ⟨hr,e2,h3⟩) m
         change _=S (match(if(yh f.e f.e.p f.e.q&&f.e.c.holds (dt b1 b2 r))=true then S f else Z)with
           | some f=>V.int (f.wait.worth (dt b1 b2 r))
           | none=>V.bA)
         rw[h3,agj,aM (by left)]
   . rw[aM c]
     !c':¬ (f.e.p=p/\f.e.q=q):=λz=>c ⟨z.1.symm,z.2.symm⟩
     !same:∀r,wV b1 b2 (es.take i++[f]) p q r=wV b1 b2 (es.take i) p q r:=λr=>by
       unfold wV
       rw[qC]
       cases ib (es.take i) (dt b1 b2 r) p q with
       | some g=>rfl
       | none=>
         have:yh f.e p q=false:=mW c'
         rw[this,afS,aM (by left)]
     rcases ih with⟨no,e⟩|⟨⟨g,hg,eg⟩,col,e,l,at_⟩
     . #.inl ⟨λg hg=>?_,e⟩
       rcases eI hg with z|z
       . #no g z
       . rw[cR z];#c'
     . #.inr ⟨⟨g,iC (.inl hg),eg⟩,col,e,l,λr hr=>by rw[same];#at_ r hr⟩
def qj (b1 b2:ag)(es:O Ef)(p q:Int):((∀f∈es,¬ (f.e.p=p/\f.e.q=q))/\lh b1 b2 es es~ p q=Z)\/((∃f∈es,f.e.p=p/\f.e.q=q)/\∃col,lh b1 b2 es es~ p q=S col/\col~=nR b1 b2/\∀r,r<nR b1 b2->col[r]?=S (wV b1 b2 es p q r)):=by
 !:=CF b1 b2 es p q es~ (ad5 _)
 rw[aed]at this
 #this
def CG {b1 b2:ag}{es:O Ef}{p q:Int}(h:lh b1 b2 es es~ p q=Z)(W:Str->Str->Int):ib es W p q=Z:=by
 rcases qj b1 b2 es p q with⟨no,_⟩|⟨_,col,e,_⟩
 . #List.find?_eq_none.mpr λg hg z=>?_
   rw[aeI]at z
   #no g hg (cU z.1)
 . rw[h]at e;cases e
def iH {b1 b2:ag}{es:O Ef}{p q:Int}{col:O V}(h:lh b1 b2 es es~ p q=S col):col~=nR b1 b2/\∀r,r<nR b1 b2->col[r]?=S (wV b1 b2 es p q r):=by
 rcases qj b1 b2 es p q with⟨_,e⟩|⟨_,zh,e,l⟩
 . rw[h]at e;cases e
 . rw[h]at e;cases e;#l
def km {b1 b2:ag}{es:O Ef}{f:Ef}(h:f∈es):∃col,lh b1 b2 es es~ f.e.p f.e.q=S col:=by
 rcases qj b1 b2 es f.e.p f.e.q with⟨no,_⟩|⟨_,col,e,_⟩
 . #aw ⟨U,U⟩ (no f h)
 . #⟨col,e⟩
def AH (b1 b2:ag)(es:O Ef):NumV (lh b1 b2 es es~):=λp q col e v hv=>by
 @⟨l,at_⟩:=iH e
 @⟨r,hr⟩:=aeB hv
 !:=at_ r (by rw[← l];#(aH hr))
 rw[hr]at this
 unfold wV at this
 cases e2:ib es (dt b1 b2 r) p q with
 | some f=>rw[e2]at this;#.inr ⟨_,aej this⟩
 | none=>rw[e2]at this;#.inl (aej this)
def lX {es:O Ef}{W:Str->Str->Int}{p q:Int}{f:Ef}(h:ib es W p q=S f):f.e.p=p/\f.e.q=q/\f∈es/\∃i,es[i]?=S f/\f.e.c.holds W=true/\ib (es.take i) W p q=Z:=by
 unfold ib at h
 @⟨hp,as,bs,e,no⟩:=List.find?_eq_some_iff_append.mp h
 rw[aeI]at hp
 @⟨a,b⟩:=cU (show decide (f.e.p=p/\f.e.q=q)=true from hp.1)
 #⟨a,b,by rw[e];simp,as~,by rw[e];simp,hp.2,?_⟩
 unfold ib
 rw[List.find?_eq_none,e]
 intro x hx
 rw[List.take_left'  rfl]at hx
 !:=no x hx
 intro z
 rw[z]at this
 cases this
def vh {b1 b2:ag}{es:O Ef}{i:Nat}{f:Ef}{r:Nat}(h:es[i]?=S f)(hr:r∈iy b1 b2 ((es.take i).map (·.e)) f.e):r<nR b1 b2/\ib es (dt b1 b2 r) f.e.p f.e.q=S f:=by
 @⟨h1,h2,h3⟩:=ju.mp hr
 #⟨h1,?_⟩
 !e:es=es.take i++(f::es.drop (i+1)):=by
   @⟨hl,hf⟩:=List.getElem?_eq_some_iff.mp h
   rw[← hf,List.getElem_cons_drop,agE]
 unfold ib at h2 ⊢
 rw[e,agp,h2]
 rw[Option.none_or,afa,show yh f.e f.e.p f.e.q=true from ed ⟨rfl,rfl⟩,h3]
 rfl
def fM (b:ag)(k9:Bool)(p:Int)(m:O Int)(nd:Nd):Option (O Int×Int×O Int):=if k9=true then S ([],p,m)else cL b m nd
def gI (b1 b2:ag)(n1 n2:O Nd)(es:O Ef)(f:Ef)(m y:O Int):Prop:=0<=f.wait.worth (kJ b1 m b2 y)/\∃nd1 dI,n1[f.e.p.toNat]?=S nd1/\n2[f.e.q.toNat]?=S dI /\
 if f.who="end" then nd1=.fin/\dI=.fin else ∃said p' m' q' y' f',fM b1 (decide (f.who="yours")) f.e.p m nd1=S (said,p',m')/\fM b2 (decide (f.who="mine")) f.e.q y dI=S (said,q',y')/\ib es (kJ b1 m' b2 y') p' q'=S f'/\(f.who="both"\/f'.wait.worth (kJ b1 m' b2 y')<f.wait.worth (kJ b1 m b2 y))
def Good (b1 b2:ag)(ins:O Str)(n1 n2:O Nd)(es:O Ef):Prop:=(∀ws∈bV (ins.map (bN b1)),∃f,ib es (kJ b1 (dE b1 ins ws) b2 (dE b2 ins ws)) 0 0=S f)/\∀m∈av b1,∀y∈av b2,∀p q f,ib es (kJ b1 m b2 y) p q=S f->gI b1 b2 n1 n2 es f m y
def uw {b1 b2:ag}{i j:Nat}(hi:i<(av b1)~)(hj:j<(av b2)~):i*(av b2)~+j<nR b1 b2:=by
 !h3:(i+1)*(av b2)~<=(av b1)~*(av b2)~:=afZ _ hi
 rw[afV]at h3
 change _<(av b1)~*(av b2)~
 lia
def Bo {w i j:Nat}(hj:j<w):(i*w+j)/w=i/\(i*w+j)%w=j:=by
 rw[air,Nat.add_mul_div_right _ _ (by lia),Nat.add_mul_mod_self_right,Nat.div_eq_of_lt hj,Nat.mod_eq_of_lt hj,Nat.zero_add]
 #⟨U,U⟩
def lC {b1 b2:ag}{i j:Nat}{m y:O Int}(hi:(av b1)[i]?=S m)(hj:(av b2)[j]?=S y):dt b1 b2 (i*(av b2)~+j)=kJ b1 m b2 y:=by
 @⟨h1,h2⟩:=Bo (i:=i) (aH hj)
 unfold dt
 rw[h1,h2,gG hi,gG hj]
def fH {b1 b2:ag}{es:O Ef}{i j:Nat}{m y s1 s2:O Int}{p q h:Int}{al:Bool}(hm:(av b1)[i]?=S m)(hy:(av b2)[j]?=S y):(wH (lh b1 b2 es es~) (av b2)~ al h (s1,p,i) (s2,q,j)).isSome=true↔0<=h/\s1=s2/\∃f,ib es (kJ b1 m b2 y) p q=S f/\¬ (al=true/\h<=f.wait.worth (kJ b1 m b2 y)):=by
 !rl:=uw (b1:=b1) (b2:=b2) (aH hm) (aH hy)
 !rw_:=lC hm hy
 unfold wH
 by_cases c:h<0
 . rw[aR c]
   #⟨λz=>(nomatch z),λz=>aw z.1 (by lia)⟩
 rw[aM c]
 by_cases d:s1=s2
 . rw[aR d]
   cases e:lh b1 b2 es es~ p q with
   | none=>
     have:=CG e (kJ b1 m b2 y)
     #⟨λz=>(nomatch z),λ⟨_,_,f,hf,_⟩=>by rw[this]at hf;cases hf⟩
   | some col=>
     @⟨l,at_⟩:=iH e
     !jV:=at_ _ rl
     !hg:col.getD (i*(av b2)~+j) .bA=wV b1 b2 es p q (i*(av b2)~+j):=by rw[ad9,jV];rfl
     change(match col.getD (i*(av b2)~+j) .bA with
         | .int w=>if al=true/\h<=w then Z else S (p,q,i*(av b2)~+j)
         | _=>Z:Option (Int×Int×Nat)).isSome=true↔_
     rw[hg]
     unfold wV
     rw[rw_]
     cases e2:ib es (kJ b1 m b2 y) p q with
     | none=>#⟨λz=>(nomatch z),λ⟨_,_,f,hf,_⟩=>(nomatch hf)⟩
     | some f=>
       change(if al=true/\h<=f.wait.worth (kJ b1 m b2 y)then Z else S (p,q,i*(av b2)~+j)).isSome=true↔_
       by_cases g:al=true/\h<=f.wait.worth (kJ b1 m b2 y)
       . rw[aR g]
         #⟨λz=>(nomatch z),λ⟨_,_,f',hf,hg⟩=>by cases hf;#aw g hg⟩
       . rw[aM g]
         #⟨λx=>⟨by lia,d,f,U,g⟩,λx=>rfl⟩
 . rw[aM d]
   #⟨λz=>(nomatch z),λz=>aw z.2.1 d⟩
def jO {b:ag}{m:O Int}{nd:Nd}{p':Int}{m':O Int}(h:cL b m nd=S ([],p',m')):gT (ip nd)=true:=by
 cases nd with
 | put _ _ _=>rfl
 | test _ _ _=>rfl
 | say _ _=>cases h
 | fin=>cases h
def Dv {b1 b2:ag}{m y:O Int}{nd1 dI:Nd}{s:O Int}{p' q':Int}{m' y':O Int}(h1:cL b1 m nd1=S (s,p',m'))(h2:cL b2 y dI=S (s,q',y')):eN (ip nd1) (ip dI) "both"=true:=by
 cases nd1 with
 | fin=>cases h1
 | put _ _ _=>
   cases h1
   !:=jO h2
   unfold eN
   rw[aM (by left),aM (by left),aR rfl,this]
   #aik _
 | test _ _ _=>
   cases h1
   !:=jO h2
   unfold eN
   rw[aM (by left),aM (by left),aR rfl,this]
   #aik _
 | say _ _=>
   cases dI with
   | fin=>cases h2
   | put _ _ _=>cases h1;cases h2
   | test _ _ _=>cases h1;cases h2
   | say _ _=>rfl
def lH {b:ag}{nds:O Nd}{k:Int}{m:O Int}{nd:Nd}{s:O Int}{p':Int}{m':O Int}(o:gY b nds k)(hm:m∈av b)(hn:nd∈nds)(h:cL b m nd=S (s,p',m')):∃i:Nat,(av b)[i]?=S m':=aeB (eB (iS o.sz (b9 hm) (o.gd nd hn) h).2.2.1)
def rY {b1 b2:ag}{n1 n2:O Nd}{k1 k2:Int}{es:O Ef}{f:Ef}{p q r:Nat}{nd1 dI:Nd}{col:O V}(o1:gY b1 n1 k1)(o2:gY b2 n2 k2)(hw:f.who="mine"\/f.who="yours"\/f.who="both"\/f.who="end")(ep:f.e.p=(p:Nat))(eq:f.e.q=(q:Nat))(h1:n1[p]?=S nd1)(h2:n2[q]?=S dI)(hr:r<nR b1 b2)(hc:ib es (dt b1 b2 r) p q=S f)(hcol:lh b1 b2 es es~ p q=S col):qv b1 b2 (lh b1 b2 es es~) f p q nd1 dI col r↔gI b1 b2 n1 n2 es f (wA (av b1) (r/(av b2)~)) (wA (av b2) (r%(av b2)~)):=by
 !hh:col[r]?=S (.int (f.wait.worth (dt b1 b2 r))):=by rw[(iH hcol).2 r hr];unfold wV;rw[hc]
 !w2:0<(av b2)~:=afG λz=>by unfold nR at hr;rw[z,agK]at hr;#aw hr (ae8 _)
 !i1:r/(av b2)~<(av b1)~:=af0 (by rw[agh];#hr)
 obtain⟨m,hm⟩ : ∃m,(av b1)[r/(av b2)~]?=S m:=⟨_,ad3 i1⟩
 obtain⟨y,hy⟩ : ∃y,(av b2)[r%(av b2)~]?=S y:=⟨_,ad3 (ahT r w2)⟩
 !er:r/(av b2)~*(av b2)~+r%(av b2)~=r:=by rw[agh];#Nat.div_add_mod r _
 !eW:=lC hm hy
 rw[er]at eW
 rw[eW]at hh hc
 !Em:n1[f.e.p.toNat]?=S nd1:=by rw[ep,aes];#h1
 !Eo:n2[f.e.q.toNat]?=S dI:=by rw[eq,aes];#h2
 unfold qv gI
 simp only[pf,gG hm,gG hy]
 !mg:=ad4 hm
 !yg:=ad4 hy
 !rr:col[r]?=S (V.int (f.wait.worth (kJ b1 m b2 y))):=hh
 !fin:∀{X:Prop},(∃Aq Ar,n1[f.e.p.toNat]?=S Aq/\n2[f.e.q.toNat]?=S Ar/\X)↔X:=λ{X}=>⟨λ⟨_,_,_,_,x⟩=>x,λx=>⟨nd1,dI,Em,Eo,x⟩⟩
 rcases hw with e|e|e|e
 . !a1:je f.who "mine" "both"=true:=by rw[e];decide
   !a2:¬ je f.who "yours" "both"=true:=by rw[e];decide
   !a3:je f.who "mine" "yours"=true:=by rw[e];decide
   !ne:¬ f.who="end":=by rw[e];decide
   constructor
   . rintro⟨_,⟨s1,p1,i⟩,x2,h',g1,g2,a,be⟩
     rw[aR a1]at g1
     rw[aM a2]at g2
     @⟨ws,g1,gw⟩:=g1
     subst g2
     rw[rr]at a
     cases a
     @⟨z1,z2,f',z3,z4⟩:=(fH gw hy).mp be
     #⟨z1,nd1,dI,Em,Eo,?_⟩
     rw[aM ne]
     #⟨s1,p1,ws,(q:Int),y,f',?_,?_,z3,.inr (Int.not_le.mp λz=>z4 ⟨a3,z⟩)⟩
     . unfold fM;rw[mW (by rw[e];decide),aM (by left)];#g1
     . unfold fM;rw[ed e,aR rfl,eq,z2]
   . rintro⟨z1,Aq,Ar,e1,e2,z⟩
     rw[Em]at e1
     rw[Eo]at e2
     cases e1
     cases e2
     rw[aM ne]at z
     @⟨s,p1,m',q1,y',f',u1,u2,u3,u4⟩:=z
     unfold fM at u1 u2
     rw[mW (by rw[e];decide),aM (by left)]at u1
     rw[ed e,aR rfl]at u2
     cases u2
     @⟨i,hi⟩:=lH o1 mg (ad4 h1) u1
     #⟨by unfold eN;rw[aR e];show jO u1,([],p1,i),([],(q:Int),r%(av b2)~),_,by rw[aR a1];show⟨m',u1,hi⟩,by rw[aM a2],rr,?_⟩
     rw[eq]at u3
     #(fH hi hy).mpr ⟨z1,U,f',u3,λz=>u4.elim (λz2=>aw (e.symm.trans z2) (by left)) λz2=>by lia⟩
 . !a1:¬ je f.who "mine" "both"=true:=by rw[e];decide
   !a2:je f.who "yours" "both"=true:=by rw[e];decide
   !a3:je f.who "mine" "yours"=true:=by rw[e];decide
   !ne:¬ f.who="end":=by rw[e];decide
   constructor
   . rintro⟨_,x1,⟨s2,q1,j⟩,h',g1,g2,a,be⟩
     rw[aM a1]at g1
     rw[aR a2]at g2
     @⟨ws,g2,gw⟩:=g2
     subst g1
     rw[rr]at a
     cases a
     @⟨z1,z2,f',z3,z4⟩:=(fH hm gw).mp be
     #⟨z1,nd1,dI,Em,Eo,?_⟩
     rw[aM ne]
     #⟨s2,(p:Int),m,q1,ws,f',?_,?_,z3,.inr (Int.not_le.mp λz=>z4 ⟨a3,z⟩)⟩
     . unfold fM;rw[ed e,aR rfl,ep,z2]
     . unfold fM;rw[mW (by rw[e];decide),aM (by left)];#g2
   . rintro⟨z1,Aq,Ar,e1,e2,z⟩
     rw[Em]at e1
     rw[Eo]at e2
     cases e1
     cases e2
     rw[aM ne]at z
     @⟨s,p1,m',q1,y',f',u1,u2,u3,u4⟩:=z
     unfold fM at u1 u2
     rw[ed e,aR rfl]at u1
     rw[mW (by rw[e];decide),aM (by left)]at u2
     cases u1
     @⟨j,hj⟩:=lH o2 yg (ad4 h2) u2
     #⟨by unfold eN;rw[aM (by rw[e];decide),aR e];show jO u2,([],(p:Int),r/(av b2)~),([],q1,j),_,by rw[aM a1],by rw[aR a2];#⟨y',u2,hj⟩,rr,?_⟩
     rw[ep]at u3
     #(fH hm hj).mpr ⟨z1,U,f',u3,λz=>u4.elim (λz2=>aw (e.symm.trans z2) (by left)) λz2=>by lia⟩
 . !a1:je f.who "mine" "both"=true:=by rw[e];decide
   !a2:je f.who "yours" "both"=true:=by rw[e];decide
   !a3:¬ je f.who "mine" "yours"=true:=by rw[e];decide
   !ne:¬ f.who="end":=by rw[e];decide
   constructor
   . rintro⟨_,⟨s1,p1,i⟩,⟨s2,q1,j⟩,h',g1,g2,a,be⟩
     rw[aR a1]at g1
     rw[aR a2]at g2
     @⟨ws,g1,gw⟩:=g1
     @⟨ws2,g2,Ss⟩:=g2
     rw[rr]at a
     cases a
     @⟨z1,z2,f',z3,z4⟩:=(fH gw Ss).mp be
     #⟨z1,nd1,dI,Em,Eo,?_⟩
     rw[aM ne]
     #⟨s1,p1,ws,q1,ws2,f',?_,?_,z3,.inl e⟩
     . unfold fM;rw[mW (by rw[e];decide),aM (by left)];#g1
     . unfold fM;rw[mW (by rw[e];decide),aM (by left),z2];#g2
   . rintro⟨z1,Aq,Ar,e1,e2,z⟩
     rw[Em]at e1
     rw[Eo]at e2
     cases e1
     cases e2
     rw[aM ne]at z
     @⟨s,p1,m',q1,y',f',u1,u2,u3,u4⟩:=z
     unfold fM at u1 u2
     rw[mW (by rw[e];decide),aM (by left)]at u1 u2
     @⟨i,hi⟩:=lH o1 mg (ad4 h1) u1
     @⟨j,hj⟩:=lH o2 yg (ad4 h2) u2
     #⟨by rw[e];show Dv u1 u2,(s,p1,i),(s,q1,j),_,by rw[aR a1];show⟨m',u1,hi⟩,by rw[aR a2];#⟨y',u2,hj⟩,rr,(fH hi hj).mpr ⟨z1,U,f',u3,λz=>a3 z.1⟩⟩
 . !a1:¬ je f.who "mine" "both"=true:=by rw[e];decide
   !a2:¬ je f.who "yours" "both"=true:=by rw[e];decide
   !a3:¬ je f.who "mine" "yours"=true:=by rw[e];decide
   !tE:eN (ip nd1) (ip dI) f.who=true↔nd1=.fin/\dI=.fin:=by
     unfold eN
     rw[aM (by rw[e];decide),aM (by rw[e];decide),aM (by rw[e];decide),aeI,decide_eq_true_iff,decide_eq_true_iff]
     constructor
     . rintro⟨k1,k2⟩
       rw[k2]at k1
       #⟨?_,?_⟩
       . cases nd1 with
         | fin=>rfl
         | put _ _ _=>#aw k1 (by change ¬ (("put":Str)="end");decide)
         | say _ _=>#aw k1 (by change ¬ (("say":Str)="end");decide)
         | test _ _ _=>#aw k1 (by change ¬ (("test":Str)="end");decide)
       . cases dI with
         | fin=>rfl
         | put _ _ _=>#aw k2 (by change ¬ (("put":Str)="end");decide)
         | say _ _=>#aw k2 (by change ¬ (("say":Str)="end");decide)
         | test _ _ _=>#aw k2 (by change ¬ (("test":Str)="end");decide)
     . rintro⟨rfl,rfl⟩
       #⟨U,U⟩
   constructor
   . rintro⟨tb,x1,x2,h',g1,g2,a,be⟩
     rw[aM a1]at g1
     rw[aM a2]at g2
     subst g1
     subst g2
     rw[rr]at a
     cases a
     @⟨z1,_⟩:=(fH hm hy).mp be
     #⟨z1,nd1,dI,Em,Eo,?_⟩
     rw[aR e]
     #tE.mp tb
   . rintro⟨z1,Aq,Ar,e1,e2,z⟩
     rw[Em]at e1
     rw[Eo]at e2
     cases e1
     cases e2
     rw[aR e]at z
     #⟨tE.mpr z,([],(p:Int),r/(av b2)~),([],(q:Int),r%(av b2)~),_,by rw[aM a1],by rw[aM a2],rr,(fH hm hy).mpr ⟨z1,U,f,hc,λz=>a3 z.1⟩⟩
abbrev FR:Stmt:=top 49
def CJ {w:Str}(h:qX (.str w) [.str "mine",.str "yours",.str "both",.str "end"]=true):w="mine"\/w="yours"\/w="both"\/w="end":=by
 simp only[qX,afn,ahl,ahb,Bool.or_eq_true]at h
 !e:∀x:Str,jU (.str x) (.str w)=true->w=x:=λx h=>(show x=w by simpa[jU]using h).symm
 rcases h with h|h|h|h
 . #.inl (e _ h)
 . #.inr (.inl (e _ h))
 . #.inr (.inr (.inl (e _ h)))
 . #.inr (.inr (.inr (e _ h)))
def DG {b1 b2:ag}{n1 n2:O Nd}{es:O Ef}{i n:Nat}{f:Ef}{rows:O Nat}(fit:∃p q,yU b1 b2 n1 n2 f p q n)(h:es[i]?=S f)(hc:(jZ b1 b2 es)[i]?=S rows):MS b1 b2 n1 n2 (lh b1 b2 es es~) f rows:=by
 @⟨p,q,ft⟩:=fit
 @⟨col,hcol⟩:=km (b1:=b1) (b2:=b2) (ad4 h)
 rw[jt h]at hc
 cases hc
 #⟨p,q,_,_,col,ft.ep,ft.eq,ad3 ft.pl,ad3 ft.ql,by rw[← ft.ep,← ft.eq];#hcol,λr hr=>?_⟩
 @⟨rl,Nw⟩:=vh h hr
 #⟨rl,f.wait.worth (dt b1 b2 r),?_⟩
 rw[(iH hcol).2 r rl]
 unfold wV
 rw[Nw]
def Dr {b1 b2:ag}{n1 n2:O Nd}{k1 k2:Int}{es:O Ef}{n:Nat}(o1:gY b1 n1 k1)(o2:gY b2 n2 k2)(fit:∀f∈es,∃p q,yU b1 b2 n1 n2 f p q n):(∀(i:Nat) f rows,es[i]?=S f->(jZ b1 b2 es)[i]?=S rows->Dn b1 b2 n1 n2 (lh b1 b2 es es~) f rows)↔∀m∈av b1,∀y∈av b2,∀p q f,ib es (kJ b1 m b2 y) p q=S f->gI b1 b2 n1 n2 es f m y:=by
 constructor
 . intro h m hm y hy p q f hf
   @⟨i,hi⟩:=aeB hm
   @⟨j,hj⟩:=aeB hy
   !rl:=uw (b1:=b1) (b2:=b2) (aH hi) (aH hj)
   @⟨d1,d2⟩:=Bo (i:=i) (aH hj)
   !eW:=lC hi hj
   rw[← eW]at hf
   @⟨rfl,rfl,kO,k,hk,Q1,qo⟩:=lX hf
   @⟨p,q,ft⟩:=fit f kO
   @⟨col,hcol⟩:=km (b1:=b1) (b2:=b2) kO
   !kQ:i*(av b2)~+j∈iy b1 b2 ((es.take k).map (·.e)) f.e:=ju.mpr ⟨rl,qo,Q1⟩
   rw[ft.ep,ft.eq]at hcol hf
   !hp:=ad3 ft.pl
   !hq:=ad3 ft.ql
   !wp:=h k f _ hk (jt hk) p q _ _ col ft.ep ft.eq hp hq hcol _ kQ
   !:=(rY o1 o2 (CJ ft.who) ft.ep ft.eq hp hq rl hf hcol).mp wp
   rw[d1,d2,gG hi,gG hj]at this
   #this
 . intro h i f rows hf hr p q nd1 dI col ep eq h1 h2 hcol r dO
   rw[jt hf]at hr
   cases hr
   @⟨rl,Nw⟩:=vh hf dO
   !kO:=ad4 hf
   @⟨p',q',ft⟩:=fit f kO
   !w2:0<(av b2)~:=afG λz=>by unfold nR at rl;rw[z,agK]at rl;#aw rl (ae8 _)
   obtain⟨m,hm⟩ : ∃m,(av b1)[r/(av b2)~]?=S m:=⟨_,ad3 (af0 (by rw[agh];#rl))⟩
   obtain⟨y,hy⟩ : ∃y,(av b2)[r%(av b2)~]?=S y:=⟨_,ad3 (ahT r w2)⟩
   !Nx:=Nw
   rw[show dt b1 b2 r=kJ b1 m b2 y from by unfold dt;rw[gG hm,gG hy]]at Nx
   !wa:=h m (ad4 hm) y (ad4 hy) _ _ f Nx
   rw[ep,eq]at Nw
   #(rY o1 o2 (CJ ft.who) ep eq h1 h2 rl Nw hcol).mpr ?_
   rw[gG hm,gG hy]
   #wa
def LJ {bs:ag}{ins:O Str}(F:Fits bs ins):∀s∈ins.map (bN bs),1<=s:=λs hs=>by
 @⟨x,hx,rfl⟩:=cO hs
 @⟨b,hb,rfl⟩:=cO (F.sub x hx)
 rw[fN F.nd hb]
 #F.sz b hb
def DP:∀{ss:O Int},(∀s∈ss,1<=s)->∃ws,ws∈bV ss:=λ{ss} h=>⟨ss.map λz=>0,eB (by
 induction ss with
 | nil=>#.nil
 | cons s ss ih=>#.cons ⟨ag0 _,by !:=h s aeX;change(0:Int)<s;lia⟩ (ih λx hx=>h x (dA (.inr hx))))⟩
def vd {b1 b2:ag}{ins:O Str}{ws:O Int}(F1:Fits b1 ins)(F2:Fits b2 ins)(sz:ins.map (bN b1)=ins.map (bN b2))(h:ws∈bV (ins.map (bN b1))):∃i j:Nat,(av b1)[i]?=S (dE b1 ins ws)/\(av b2)[j]?=S (dE b2 ins ws):=by
 !MK:=b9 h
 !Rl:Paired Within (ins.map (bN b2)) ws:=by rw[← sz];#MK
 @⟨i,hi⟩:=aeB (eB (gJ F1.nd F1.sz MK))
 @⟨j,hj⟩:=aeB (eB (gJ F2.nd F2.sz Rl))
 #⟨i,j,hi,hj⟩
def wy {b1 b2:ag}{es:O Ef}{p q:Int}{i j:Nat}{m y:O Int}{col:O V}(h:lh b1 b2 es es~ p q=S col)(hi:(av b1)[i]?=S m)(hj:(av b2)[j]?=S y):col.getD (i*(av b2)~+j) .bA≠.bA↔∃f,ib es (kJ b1 m b2 y) p q=S f:=by
 rw[ad9,(iH h).2 _ (uw (aH hi) (aH hj))]
 unfold wV
 rw[lC hi hj]
 cases ib es (kJ b1 m b2 y) p q with
 | none=>#⟨λz=>aw rfl z,λ⟨_,z⟩=>(nomatch z)⟩
 | some f=>#⟨λx=>⟨f,rfl⟩,λx z=>(nomatch z)⟩
def Ej {b1 b2:ag}{ins:O Str}{n1 n2:O Nd}{k1 k2:Int}{es:O Ef}{n:Nat}(o1:gY b1 n1 k1)(o2:gY b2 n2 k2)(F1:Fits b1 ins)(F2:Fits b2 ins)(sz:ins.map (bN b1)=ins.map (bN b2))(fit:∀f∈es,∃p q,yU b1 b2 n1 n2 f p q n):MU b1 b2 ins n1 n2 (lh b1 b2 es es~) es (jZ b1 b2 es)↔Good b1 b2 ins n1 n2 es:=by
 #and_congr ?_ (Dr o1 o2 fit)
 constructor
 . rintro⟨col,e,h⟩ ws yQ
   @⟨i,j,hi,hj⟩:=vd F1 F2 sz yQ
   #(wy e hi hj).mp (h ws yQ _ ⟨i,j,hi,hj,U⟩)
 . intro h
   @⟨w0,hw0⟩:=DP (LJ F1)
   @⟨f0,Ml⟩:=h w0 hw0
   @⟨ep,eq,kO,_⟩:=lX Ml
   @⟨col,e⟩:=km (b1:=b1) (b2:=b2) kO
   rw[ep,eq]at e
   #⟨col,e,λws yQ k hk=>?_⟩
   @⟨i,j,hi,hj,rfl⟩:=hk
   #(wy e hi hj).mpr (h ws yQ)
structure V4 (n:Nat)(H:Hp)(v1 v2:V)(pa:J)(b1 b2:ag)(ins:O Str)(n1 n2:O Nd)(m1 m2:Int)(es:O Ef):Prop where
 r:L6 H v1 v2 b1 b2 ins n1 n2
 o1:gY b1 n1 m1
 o2:gY b2 n2 m2
 fw1:wC (b1.map (·.2))
 fw2:wC (b2.map (·.2))
 fI:nR b1 b2<=3000
 hp:∃vps,H pa=S (.lst vps)/\Paired (fO H) vps es
 le:es~<=900
 pr:∀f∈es,LY f n
 kX:∀f∈es,f.e.c.kX/\f.wait.i5
def B7 (n:Nat):Sp:=λvs H Q z=>∃(v1 v2:V) (pa:J) (b1 b2:ag) (ins:O Str) (n1 n2:O Nd) (m1 m2:Int) (es:O Ef),vs=[v1,v2,.ref pa]/\V4 n H v1 v2 pa b1 b2 ins n1 n2 m1 m2 es /\
 ∀(b:Bool) (H':Hp),ak H H'->(b=true↔(∀f∈es,oO b1 b2 n1 n2 f n)/\Good b1 b2 ins n1 n2 es)->Q (.bl b) H'
def v3:aA ["one","other","paper","ground","counted"] ["one","other","paper"] (ao FR):=dX
def J9 {C CS:J}{n:Nat}{f:J}{fd:aef}(F:cF K "paper_shows" "paper_shows" FR f fd)(cl:lj K C)(NP0:bI P w K mg base "refuse_no_pair" ["one","other"] 2 rO)(GD0:m7 P w K mg base "Ground" C ["self","one","other"] 4 (B4 K C CS))(AF0:bI P w K mg base "all_fit" ["ground","paper"] (n+3) (BN K C CS n))(RC0:bI P w K mg base "rows_counted" ["ground","paper"] (n+2) (B9 K C n))(WB0:bI P w K mg base "worths_by_places" ["ground","paper","counted","part"] (n+2) (Cg K C n))(AW0:bI P w K mg base "all_well" ["ground","paper","counted","waits"] 30 (BO K C CS)):aL P w K mg base cm (n+31) f fd ["one","other","paper"] (B7 n):=by
 #F.eO v3 λcdv A outer s H vs Q E hr h=>?_
 @⟨v1,v2,pa,b1,b2,ins,n1,n2,m1,m2,es,rfl,T,q⟩:=h
 !NP:=NP0.mono (show 2<=n+30 by lia)
 !GD:=GD0.mono (show 4<=n+29 by lia)
 !AF:=AF0.mono (show n+3<=n+30 by lia)
 !RC:=RC0.mono (show n+2<=n+30 by lia)
 !WB:=WB0.mono (show n+2<=n+30 by lia)
 !AW:=AW0.mono (show 30<=n+30 by lia)
 #f7 ⟨_,(aiz (ai3 (aiJ NP hr U (L (Y 0) (L (Y 1) M))))
   (aiz (aiL 3 v3.nd (ajE GD hr U (L (Y 0) (L (Y 1) M))))
   (aiz (aiM (ajo (ajh (aiJ AF hr U (L (Y 3) (L (Y 2) M))))) (aiA (aiF ai1)) aiN)
   (aiz (aiL 4 v3.nd (aiJ RC hr U (L (Y 3) (L (Y 2) M))))
   (aiA (aiF (aiJ AW hr U (L (Y 3) (L (Y 2) (L (Y 4) (L (aiJ WB hr U (L (Y 3) (L (Y 2) (L (Y 4) (L aix M))))) M))))))))))),?_⟩
 @⟨vps,vB,pe⟩:=T.hp
 #bC λRk kR=>?_
 #af U (af U ⟨v1,v2,b1,b2,ins,n1,n2,U,T.r.p,λH1 s1=>?_⟩)
 #kR _ _ (bC λRk kR=>?_)
 !P1:=T.r.p.p1.same s1
 !P2:=T.r.p.p2.same s1
 #af U (af U (λx dx nx ME ne=>⟨x,dx,v1,v2,b1,b2,U,ae,P1.bx.same (aE (ah ME _) nx),P2.bx.same (aE (ah ME _) nx),T.o1.nd,T.o2.nd,T.fw1,T.fw2,T.fI,λH2 c k2 ga gm cn cw d1 d2 d3 d4=>⟨U,?_⟩⟩))
 !s12:ak H1 H2:=made nx ME k2
 !s2:=aa s1 s12
 !gr:Gr K C CS H2 x v1 v2 b1 b2 c:=⟨ga,gm⟩
 !ca:fW H2 c b1 b2 n1 n2:=⟨cn,dC.none d1,dC.none d2,dC.none d3,dC.none d4⟩
 !up:∀{d:J},(upd (upd H1 dx (.own x)) x (.ins C dx [])) d=Z->H d=Z:=λh=>aq s1 (aq (aE (ah ME _) nx) h)
 #aS (kR _ _ (bC λRk kR=>?_))
 #af U (af U ⟨x,pa,v1,v2,b1,b2,c,ins,n1,n2,vps,es,U,gr,P1.same s12,P2.same s12,s2 _ _ vB,Paired.aP pe λy y z=>z.keep (ak.tk s2),T.le,T.pr,λbf H3 s3 hb=>(af U ?_)⟩)
 #aC (λcc=>?_) (λcc=>?_)
 . !cc:bf=false:=by simpa using cc
   #q false H3 (aa s2 s3) ⟨(λz=>nomatch z),λz=>by !:=hb.mpr z.1;rw[cc]at this;cases this⟩
 !Tfit:=hb.mp (by simpa using cc)
 #kR _ _ (bC λRk kR=>?_)
 !s03:=aa s2 s3
 !pe3:Paired (fO H3) vps es:=Paired.aP pe λy y z=>z.keep (ak.tk s03)
 !el:=T.le
 #af U (af U ⟨x,pa,vps,es.map (·.e),b1,b2,U,(gr.same s3).a,T.fI,s03 _ _ vB,Paired.mapR (·.e) (λy y z=>z) (Paired.aP pe3 λy y z=>z.en),⟨by rw[ad1];lia,λe he=>?_,λe he=>?_,λe he=>?_⟩,λl cs H4 s4 hl G7=>?_⟩)
 . @⟨f,hf,rfl⟩:=cO he
   #(T.kX f hf).1
 . @⟨f,hf,rfl⟩:=cO he
   @⟨p,q,ft⟩:=Tfit f hf
   #ft.ok
 . @⟨f,hf,rfl⟩:=cO he
   @⟨p,q,ft⟩:=Tfit f hf
   #ft.dp
 #aS (kR _ _ ?_)
 !MM:=aa s3 s4
 !s04:=aa s03 s4
 !pe4:Paired (fO H4) vps es:=Paired.aP pe λy y z=>z.keep (ak.tk s04)
 !Ma:(jZ b1 b2 es)~=es~:=by rw[l7,ad1]
 !inn:∀rows∈jZ b1 b2 es,(∀r∈rows,r<nR b1 b2)/\rows~<=3000:=λrows hr=>by
   @⟨i,hi⟩:=aeB hr
   !il:=(aH hi)
   rw[Ma]at il
   rw[jt (ad3 il)]at hi
   cases hi
   #⟨λr hr=>(ju.mp hr).1,?_⟩
   !:=T.fI
   #aeg (aeQ _ _) (aeg (mf b1 b2 _ _ _) this)
 #af U (af U (af U (af U (af U (af U ⟨x,pa,l,b1,b2,vps,es,cs,jZ b1 b2 es,U,⟨(gr.same MM).a,s04 _ _ vB,pe4,hl,G7,Ma,λrows hr=>(inn rows hr).1,λrows hr=>(inn rows hr).2,el,T.fI,λf hf=>?_⟩,λwd H5 s5 nw wa=>?_⟩)))))
 . @⟨p,q,ft⟩:=Tfit f hf
   #⟨(T.kX f hf).2,ft.okw,ft.dw⟩
 !Pq:=aa MM s5
 !s05:=aa s04 s5
 #⟨x,pa,l,wd,v1,v2,b1,b2,c,ins,n1,n2,m1,m2,lh b1 b2 es es~,vps,es,cs,jZ b1 b2 es,U,⟨⟨gr.same Pq,ca.same Pq,T.r.p.p1.same s05,T.r.p.p2.same s05,T.o1,T.o2,wa,AH b1 b2 es⟩,⟨⟨T.r.p.p1.same s05,T.r.p.p2.same s05,T.r.p.f1,T.r.p.f2,T.r.p.sz⟩,T.r.l1,T.r.l2,T.r.si,T.r.li⟩,s05 _ _ vB,Paired.aP pe λy y z=>z.keep (ak.tk s05),s5 _ _ hl,Paired.aP G7 λy y z=>s5 _ _ z,Ma,λi f rows hf hr=>DG (Tfit f (ad4 hf)) hf hr⟩,λb H6 y6 eb=>q b H6 (λa o e=>y6 a o (s05 a o e) ?_ ?_ ?_ ?_) ((eb.trans (Ej T.o1 T.o2 T.r.p.f1 T.r.p.f2 T.r.p.sz Tfit)).trans ⟨λz=>⟨Tfit,z⟩,λz=>z.2⟩)⟩
 . #ai e (up cw.n1)
 . #ai e (up cw.n2)
 . #ai e (up cw.n3)
 . #ai e (up cw.n4)
theorem sub_len {α:Type}[DecidableEq α]:∀{xs ys:O α},xs.Nodup->(∀x∈xs,x∈ys)->xs~<=ys~
 | [],_,_,_=>aeG _
 | x::r,ys,nd,h=>by
   rw[af5]at nd
   !hx:x∈ys:=h x (dA (.inl rfl))
   !ih:=sub_len (xs:=r) (ys:=ys.erase x) nd.2 λy hy=>(List.mem_erase_of_ne (a:=y) (b:=x) (λe:y=x=>nd.1 (e▸hy))).mpr (h y (dA (.inr hy)))
   !hl:=List.length_erase_of_mem hx
   !mj:0<ys~:=ah1 hx
   rw[aet]
   lia
def oG {α β:Type}(f:α->β)(n:Int)(xs:O α):(aT n xs).map f=aT n (xs.map f):=by
 unfold aT
 split
 . rfl
 . rw[agy]
def Nc {bs:ag}{ins:O Str}(h:e8 bs ins):Fits bs ins:=by
 !l2:=h.len
 !il:ins~<=900:=by
   !:=sub_len h.ind h.insub
   rw[ad1]at this
   lia
 #⟨h.nd,by lia,λb hb=>(h.sz b hb).1,h.ind,h.insub,il⟩
theorem E.iO (f:Str->Str):∀e:E,(e.iq f).dep=e.dep
 | .num _=>rfl
 | .box _ _=>rfl
 | .yes=>rfl
 | .nt a=>by change(a.iq f).dep+1=a.dep+1;rw[E.iO f a]
 | .two _ a b=>by change max (a.iq f).dep (b.iq f).dep+1=max a.dep b.dep+1;rw[E.iO f a,E.iO f b]
theorem E.eC (f:Str->Str):∀e:E,e.i5->(e.iq f).i5
 | .num _,_=>aeh
 | .box _ _,_=>aeh
 | .two .plus a b,h=>⟨E.eC f a h.1,E.eC f b h.2⟩
 | .two .less a b,h=>⟨E.eC f a h.1,E.eC f b h.2⟩
theorem E.lB (f:Str->Str):∀e:E,e.kX->(e.iq f).kX
 | .yes,_=>aeh
 | .nt a,h=>E.lB f a h
 | .two .same a b,h=>⟨E.eC f a h.1,E.eC f b h.2⟩
 | .two .under a b,h=>⟨E.eC f a h.1,E.eC f b h.2⟩
 | .two .both a b,h=>⟨E.lB f a h.1,E.lB f b h.2⟩
theorem E.kf {f:Str->Str}{A B:Str->Prop}(hf:∀x,A x->B (f x)):∀e:E,e.okIn (λt y=>t="box"/\A y)->(e.iq f).okIn (λt y=>t="box"/\B y)
 | .num _,h=>h
 | .box _ _,h=>⟨h.1,hf _ h.2⟩
 | .yes,_=>aeh
 | .nt a,h=>E.kf hf a h
 | .two _ a b,h=>⟨E.kf hf a h.1,E.kf hf b h.2⟩
theorem Nd.good.imp {A B:Str->Prop}{m:Int}{d d':Nat}(hf:∀x,A x->B x)(hd:d<=d'):∀{e:Nd},e.good A m d->e.good B m d'
 | .put x s n,h=>⟨hf x h.1,h.2.1,E.okIn.imp (λt y z=>⟨z.1,hf y z.2⟩) h.2.2.1,aeg h.2.2.2.1 hd,h.2.2.2.2.1,h.2.2.2.2.2⟩
 | .say s n,h=>⟨h.1,E.okIn.imp (λt y z=>⟨z.1,hf y z.2⟩) h.2.1,aeg h.2.2.1 hd,h.2.2.2.1,h.2.2.2.2⟩
 | .test c n o,h=>⟨h.1,E.okIn.imp (λt y z=>⟨z.1,hf y z.2⟩) h.2.1,aeg h.2.2.1 hd,h.2.2.2.1,h.2.2.2.2.1,h.2.2.2.2.2.1,h.2.2.2.2.2.2⟩
 | .fin,_=>aeh
def Nd.Ds {f:Str->Str}{g:Int->Int}{A B:Str->Prop}{m m':Int}{d:Nat}(hf:∀x,A x->B (f x))(hg:∀n,0<=n->n<m->0<=g n/\g n<m'):∀{e:Nd},e.good A m d->(e.as f g).good B m' d
 | .put x s n,h=>⟨hf x h.1,E.eC f s h.2.1,E.kf hf s h.2.2.1,by rw[E.iO];#h.2.2.2.1,hg n h.2.2.2.2.1 h.2.2.2.2.2⟩
 | .say s n,h=>⟨E.eC f s h.1,E.kf hf s h.2.1,by rw[E.iO];#h.2.2.1,hg n h.2.2.2.1 h.2.2.2.2⟩
 | .test c n o,h=>⟨E.lB f c h.1,E.kf hf c h.2.1,by rw[E.iO];#h.2.2.1,(hg n h.2.2.2.1 h.2.2.2.2.1).1,(hg n h.2.2.2.1 h.2.2.2.2.1).2,(hg o h.2.2.2.2.2.1 h.2.2.2.2.2.2).1,(hg o h.2.2.2.2.2.1 h.2.2.2.2.2.2).2⟩
 | .fin,_=>aeh
def ya {bs b':ag}{f:Str->Str}{nds nds2:O Nd}{ps bp:O Int}(no:ja bs f nds nds2 ps bp)(hf:∀x∈bs.map (·.1),f x∈b'.map (·.1))(good:∀e∈nds,e.good (·∈bs.map (·.1)) nds~ 5):∀e∈nds2,e.good (·∈b'.map (·.1)) nds2~ 5:=λe' he=>by
 @⟨j,hj⟩:=List.mem_iff_getElem?.mp he
 rcases no.only j e' hj with⟨e,NH,rfl⟩|⟨p,hp,hs⟩
 . #Nd.Ds (A:=(·∈bs.map (·.1))) hf (λn h0 h1=>?_) (good e NH)
   !hn:n.toNat<nds~:=by lia
   @⟨p,b,h2,h3,h4,h5,_⟩:=no.all n.toNat nds[n.toNat] (ad3 hn)
   !:jL bp n=(b:Int):=by
     unfold jL
     rw[ad9,h3]
     rfl
   rw[this]
   lia
 . rcases hs with⟨o,h0,h1,rfl⟩|⟨x,hx,rfl⟩
   . #⟨aeh,aeh,aeG _,by lia,by lia,h0,by lia⟩
   . #⟨hf x hx,aeh,⟨U,hf x hx⟩,aeG _,by lia,by lia⟩
def uS {x y z:Str}(h:x++z=y++z):x=y:=by
 !h1:x.cps++z.cps=y.cps++z.cps:=congrArg Str.cps h
 !h2:=congrArg ah5 h1
 rw[ais,ais]at h2
 !h3:=List.append_cancel_right h2
 @⟨x⟩:=x
 @⟨y⟩:=y
 !:x=y:=Array.toList_inj.mp h3
 rw[this]
structure y9 (bs:ag)(ins:O Str):Prop where
 nd:(bs.map (·.1)).Nodup
 z1:∀x∈bs.map (·.1),x∉ins->∀y∈bs.map (·.1),x++"z"≠y
 sub:∀x∈ins,x∈bs.map (·.1)
def wB {bs:ag}{ins:O Str}(h:y9 bs ins)(cz:Bool){x y:Str}(hx:x∈bs.map (·.1))(hy:y∈bs.map (·.1))(e:de ins cz x=de ins cz y):x=y:=by
 unfold de at e
 by_cases h1:x∈ins
 . rw[aR h1]at e
   by_cases h2:y∈ins
   . rw[aR h2]at e
     #e
   . rw[aM h2]at e
     cases cz with
     | true=>rw[aR rfl]at e;#aw e.symm (h.z1 y hy h2 x hx)
     | false=>#e
 . rw[aM h1]at e
   by_cases h2:y∈ins
   . rw[aR h2]at e
     cases cz with
     | true=>rw[aR rfl]at e;#aw e (h.z1 x hx h1 y hy)
     | false=>#e
   . rw[aM h2]at e
     cases cz with
     | true=>rw[aR rfl,aR rfl]at e;#uS e
     | false=>#e
def Qs {bs:ag}{ins:O Str}(h:y9 bs ins)(cz:Bool){x:Str}(hx:x∈bs.map (·.1)):de ins cz x∈ins↔x∈ins:=by
 unfold de
 by_cases h1:x∈ins
 . rw[aR h1]
 . rw[aM h1]
   cases cz with
   | false=>#Iff.rfl
   | true=>
     rw[aR rfl]
     #⟨λz=>aw rfl (h.z1 x hx h1 _ (h.sub _ z)),λz=>aw z h1⟩
theorem wx {bs:ag}{f:Str->Str}:∀{cs:ag} {ws:O Int} {x:Str},(∀b∈cs,f b.1=f x->b.1=x)->eP (cs.map λb=>(f b.1,b.2)) ws (f x)=eP cs ws x
 | [],_,_,_=>rfl
 | _::_,[],_,_=>rfl
 | c::cs,v::ws,x,h=>by
   change(if f c.1=f x then v else eP (cs.map λb=>(f b.1,b.2)) ws (f x))=if c.1=x then v else eP cs ws x
   rw[wx (bs:=bs) λb hb=>h b (dA (.inr hb))]
   by_cases e:c.1=x
   . rw[aR e,aR (by rw[e])]
   . rw[aM e,aM λz=>e (h c (dA (.inl rfl)) z)]
def Bm {α:Type}{l:O α}{i:Nat}{a:α}(h:l[i]?=S a):l.reverse[l~-1-i]?=S a:=by
 !hi:=(aH h)
 rw[aif (by lia),show l~-1-(l~-1-i)=i by lia]
 #h
def CD {bs:ag}{ws:O Int}{st:Int}{x:Str}(nd:(bs.map (·.1)).Nodup)(hl:bs~=ws~)(hx:x∈bs.map (·.1)):eP (aT st bs) (aT st ws) x=eP bs ws x:=by
 unfold aT
 by_cases e:st=1
 . rw[aR e,aR e]
 . rw[aM e,aM e]
   @⟨b,hb,rfl⟩:=cO hx
   @⟨i,hi⟩:=List.mem_iff_getElem?.mp hb
   !du:=(aH hi)
   obtain⟨w0,hw⟩ : ∃w0,ws[i]?=S w0:=⟨ws[i]'(by lia),ad3 (by lia)⟩
   !h1:=Bm hi
   !h2:=Bm hw
   rw[← hl]at h2
   rw[jo nd hi hw,jo (by rw[agy];!:=mR (n:=0) nd;unfold aT at this;rw[aM (by left)]at this;#this) h1 h2]
theorem rD {bs:ag}{f:Str->Str}{t:Int}:∀{cs:ag} {ws:O Int} {x:Str},(∀b∈cs,f b.1=f x->b.1=x)->dN (cs.map λb=>(f b.1,b.2)) ws (f x) t=dN cs ws x t
 | [],_,_,_=>rfl
 | _::_,[],_,_=>rfl
 | c::cs,v::ws,x,h=>by
   change(if f c.1=f x then t%c.2 else v)::dN (cs.map λb=>(f b.1,b.2)) ws (f x) t=(if c.1=x then t%c.2 else v)::dN cs ws x t
   rw[rD (bs:=bs) λb hb=>h b (dA (.inr hb))]
   by_cases e:c.1=x
   . rw[aR e,aR (by rw[e])]
   . rw[aM e,aM λz=>e (h c (dA (.inl rfl)) z)]
def yl {bs:ag}{ws:O Int}{st:Int}{x:Str}{t:Int}(hl:bs~=ws~):dN (aT st bs) (aT st ws) x t=aT st (dN bs ws x t):=by
 unfold aT
 by_cases e:st=1
 . rw[aR e,aR e,aR e]
 . rw[aM e,aM e,aM e]
   unfold dN
   rw[List.reverse_zipWith hl]
theorem rC {x:Str}{t:Int}:∀{bs:ag} {ws:O Int},bs~=ws~->x∉bs.map (·.1)->dN bs ws x t=ws
 | [],[],_,_=>rfl
 | [],_::_,h,_=>by simp at h
 | _::_,[],h,_=>by simp at h
 | b::bs,w::ws,h,hx=>by
   change(if b.1=x then t%b.2 else w)::dN bs ws x t=w::ws
   rw[aM (λe=>hx (dA (.inl e.symm))),rC (by simpa using h) λz=>hx (dA (.inr z))]
theorem oy {x:Str}:∀{bs:ag} {ws:O Int},(bs.map (·.1)).Nodup->Paired Within (bs.map (·.2)) ws->dN bs ws x (eP bs ws x)=ws
 | [],_,_,.nil=>rfl
 | b::bs,w::ws,nd,.cons r q=>by
   rw[aeN,af5]at nd
   !hl:bs~=ws~:=by !:=Paired.length q;rwa[ad1]at this
   change(if b.1=x then(if b.1=x then w else eP bs ws x)%b.2 else w)::dN bs ws x (if b.1=x then w else eP bs ws x)=w::ws
   by_cases e:b.1=x
   . rw[aR e,aR e,Int.emod_eq_of_lt r.1 r.2,rC hl (by rw[← e];#nd.1)]
   . rw[aM e,aM e,oy nd.2 q]
theorem E.cJ {f:Str->Str}{A:Str->Prop}{W W':Str->Int}(h:∀x,A x->W' (f x)=W x):∀e:E,e.okIn (λt y=>t="box"/\A y)->(e.iq f).worth (λz y=>W' y)=e.worth (λz y=>W y)
 | .num _,_=>rfl
 | .box _ x,k=>h x k.2
 | .yes,_=>rfl
 | .nt _,_=>rfl
 | .two .plus a b,k=>by change(a.iq f).worth _+(b.iq f).worth _=a.worth _+b.worth _;rw[E.cJ h a k.1,E.cJ h b k.2]
 | .two .less a b,k=>by change(a.iq f).worth _-(b.iq f).worth _=a.worth _-b.worth _;rw[E.cJ h a k.1,E.cJ h b k.2]
 | .two .same _ _,_=>rfl
 | .two .under _ _,_=>rfl
 | .two .both _ _,_=>rfl
theorem E.iP {f:Str->Str}{A:Str->Prop}{W W':Str->Int}(h:∀x,A x->W' (f x)=W x):∀e:E,e.okIn (λt y=>t="box"/\A y)->(e.iq f).holds (λz y=>W' y)=e.holds (λz y=>W y)
 | .num _,_=>rfl
 | .box _ _,_=>rfl
 | .yes,_=>rfl
 | .nt a,k=>by change(!(a.iq f).holds _)=!a.holds _;rw[E.iP h a k]
 | .two .plus _ _,_=>rfl
 | .two .less _ _,_=>rfl
 | .two .same a b,k=>by change decide ((a.iq f).worth _=(b.iq f).worth _)=decide (a.worth _=b.worth _);rw[E.cJ h a k.1,E.cJ h b k.2]
 | .two .under a b,k=>by change decide ((a.iq f).worth _<(b.iq f).worth _)=decide (a.worth _<b.worth _);rw[E.cJ h a k.1,E.cJ h b k.2]
 | .two .both a b,k=>by change((a.iq f).holds _&&(b.iq f).holds _)=(a.holds _&&b.holds _);rw[E.iP h a k.1,E.iP h b k.2]
section
variable{bs b':ag}{ins:O Str}{cz:Bool}{st:Int}{ws:O Int}
def E6 (zk:y9 bs ins)(o:fP bs ins cz st b')(hl:bs~=ws~){x:Str}(hx:x∈bs.map (·.1)):eP b' (aT st ws) (de ins cz x)=eP bs ws x:=by
 !inj:∀b∈bs,de ins cz b.1=de ins cz x->b.1=x:=λb hb e=>wB zk cz (dD ⟨b,hb,rfl⟩) hx e
 !nd:((bs.map λb=>(de ins cz b.1,b.2)).map (·.1)).Nodup:=by
   rw[ae0]
   #List.pairwise_map.mpr ?_
   #ag9 ?_ (List.pairwise_map.mp zk.nd)
   intro a b ha hb hab e
   #hab (wB zk cz (dD ⟨a,ha,U⟩) (dD ⟨b,hb,U⟩) e)
 @⟨b,hb,rfl⟩:=cO hx
 rw[o.bx,CD nd (by rw[ad1];#hl) (by rw[ae0];#dD ⟨b,hb,rfl⟩),wx (bs:=bs) inj]
def AX (zk:y9 bs ins)(o:fP bs ins cz st b')(hl:bs~=ws~){x:Str}(hx:x∈bs.map (·.1)){t:Int}:dN b' (aT st ws) (de ins cz x) t=aT st (dN bs ws x t):=by
 rw[o.bx,yl (by rw[ad1];#hl),rD (bs:=bs) λb hb e=>wB zk cz (dD ⟨b,hb,rfl⟩) hx e]
def E5 (zk:y9 bs ins)(o:fP bs ins cz st b')(hl:bs~=ws~){g:Int->Int}{m:Int}{d:Nat}{nd:Nd}(gd:nd.good (·∈bs.map (·.1)) m d):cL b' (aT st ws) (nd.as (de ins cz) g)=(cL bs ws nd).map λr=>(r.1,g r.2.1,aT st r.2.2):=by
 !hw:∀x,x∈bs.map (·.1)->eP b' (aT st ws) (de ins cz x)=eP bs ws x:=λx hx=>E6 zk o hl hx
 cases nd with
 | fin=>rfl
 | put x s n=>
   change S ([],g n,dN b' (aT st ws) (de ins cz x) ((s.iq (de ins cz)).worth λw y=>eP b' (aT st ws) y))=S ([],g n,aT st (dN bs ws x (s.worth λw y=>eP bs ws y)))
   rw[E.cJ (W':=eP b' (aT st ws)) hw s gd.2.2.1,AX zk o hl gd.1]
 | say s n=>
   change S ([(s.iq (de ins cz)).worth λw y=>eP b' (aT st ws) y],g n,aT st ws)=S ([s.worth λw y=>eP bs ws y],g n,aT st ws)
   rw[E.cJ (W':=eP b' (aT st ws)) hw s gd.2.1]
 | test c n k=>
   change S ([],(if((c.iq (de ins cz)).holds λw y=>eP b' (aT st ws) y)=true then g n else g k),aT st ws)=S ([],g (if(c.holds λw y=>eP bs ws y)=true then n else k),aT st ws)
   rw[E.iP (W':=eP b' (aT st ws)) hw c gd.2.1]
   by_cases z:(c.holds λw y=>eP bs ws y)=true
   . rw[aR z,aR z]
   . rw[aM z,aM z]
def E4 (zk:y9 bs ins)(o:fP bs ins cz st b')(pw:Paired Within (bs.map (·.2)) ws){p:Int}{e:Nd}(h:jY bs (de ins cz) p e):cL b' (aT st ws) e=S ([],p,aT st ws):=by
 !hl:bs~=ws~:=by !:=Paired.length pw;rwa[ad1]at this
 rcases h with⟨q,_,_,rfl⟩|⟨x,hx,rfl⟩
 . rfl
 . change S ([],p,dN b' (aT st ws) (de ins cz x) (eP b' (aT st ws) (de ins cz x)))=_
   rw[E6 zk o hl hx,AX zk o hl hx,oy zk.nd pw]
def Kx {iw:O Int}(zk:y9 bs ins)(o:fP bs ins cz st b'):dE b' ins iw=aT st (dE bs ins iw):=by
 !e:∀x∈bs.map (·.1),tH ins iw (de ins cz x)=tH ins iw x:=λx hx=>by
   by_cases h1:x∈ins
   . unfold de
     rw[aR h1]
   . !h2:de ins cz x∉ins:=λz=>h1 ((Qs zk cz hx).mp z)
     rw[show tH ins iw x=0 from jT (by rw[eh];#h1),show tH ins iw (de ins cz x)=0 from jT (by rw[eh];#h2)]
 unfold dE
 rw[o.bx,oG,ae0]
 congr 1
 #af6 λb hb=>e b.1 (dD ⟨b,hb,U⟩)
end
structure RQ (bs:ag)(ins:O Str):Prop where
 zk:y9 bs ins
 z2:∀x∈bs.map (·.1),x∉ins->∀y∈bs.map (·.1),x++"z"++"z"≠y
def CZ {bs:ag}{ins:O Str}(h:e8 bs ins):RQ bs ins:=by
 @⟨nm,szs,h1,h2,_,e⟩:=id h.nm
 !sub:∀x∈bs.map (·.1),x∈nm:=λx hx=>by
   @⟨b,hb,rfl⟩:=cO hx
   rw[e]at hb
   #(afl (a:=b.1) (b:=b.2) hb).1
 !d1:∀x∈nm,∀y∈nm,x++"z"≠y:=by rcases h1 with rfl|rfl|rfl<;>decide +kernel
 !d2:∀x∈nm,∀y∈nm,x++"z"++"z"≠y:=by rcases h1 with rfl|rfl|rfl<;>decide +kernel
 #⟨⟨h.nd,λx hx w y hy=>d1 x (sub x hx) y (sub y hy),h.insub⟩,λx hx w y hy=>d2 x (sub x hx) y (sub y hy)⟩
abbrev Xw:Stmt:=top 64
abbrev Ht:Stmt:=top 63
def cq (f:Str->Str)(bs:ag):E:=bs.foldl (λe b=>.two .both (.two .same (.box "mine" b.1) (.box "yours" (f b.1))) e) .yes
def jk (f:Str->Str)(bs:ag)(b:Str×Int):cq f (bs++[b])=.two .both (.two .same (.box "mine" b.1) (.box "yours" (f b.1))) (cq f bs):=by
 unfold cq
 rw[List.foldl_append]
 rfl
def rN {α:Type}{P:O α->Prop}(h0:P [])(h1:∀l a,P l->P (l++[a]))(l:O α):P l:=by
 !:∀m:O α,P m.reverse:=λm=>by
   induction m with
   | nil=>#h0
   | cons a m ih=>rw[afK];#h1 _ _ ih
 rw[← List.reverse_reverse l]
 #this _
def Bu (f:Str->Str)(b1 b2:ag)(bs:ag)(h1:∀b∈bs,b.1∈b1.map (·.1))(h2:∀b∈bs,f b.1∈b2.map (·.1)):(cq f bs).kX/\(cq f bs).okIn (qB b1 b2)/\(cq f bs).dep<=bs~+1:=by
 revert h1 h2
 #rN (P:=λbs=>(∀b∈bs,b.1∈b1.map (·.1))->(∀b∈bs,f b.1∈b2.map (·.1))->(cq f bs).kX/\(cq f bs).okIn (qB b1 b2)/\(cq f bs).dep<=bs~+1) ?_ (λl b ih h1 h2=>?_) bs
 . #λz z=>⟨aeh,aeh,aeG _⟩
 . @⟨i1,i2,i3⟩:=ih (λb hb=>h1 b (iC (.inl hb))) (λb hb=>h2 b (iC (.inl hb)))
   !hb:b∈l++[b]:=iC (.inr (List.mem_singleton.mpr rfl))
   rw[jk]
   #⟨⟨⟨aeh,aeh⟩,i1⟩,⟨⟨.inl ⟨U,h1 b hb⟩,.inr ⟨U,h2 b hb⟩⟩,i2⟩,?_⟩
   rw[ad7]
   change max (max 0 0+1) (cq f l).dep+1<=l~+1+1
   lia
def rL (f:Str->Str)(W:Str->Str->Int)(bs:ag):(cq f bs).holds W=true↔∀b∈bs,W "mine" b.1=W "yours" (f b.1):=by
 #rN (P:=λbs=>(cq f bs).holds W=true↔∀b∈bs,W "mine" b.1=W "yours" (f b.1)) ?_ (λl b ih=>?_) bs
 . #⟨λy b hb=>(nomatch hb),λy=>rfl⟩
 . rw[jk]
   change(decide (W "mine" b.1=W "yours" (f b.1))&&(cq f l).holds W)=true↔_
   rw[aeI,decide_eq_true_iff,ih]
   constructor
   . rintro⟨h1,h2⟩ c hc
     rcases eI hc with z|z
     . #h2 c z
     . rw[cR z];#h1
   . #λh=>⟨h b (iC (.inr (List.mem_singleton.mpr rfl))),λc hc=>h c (iC (.inl hc))⟩
def uJ:Sp:=λvs H Q z=>∃(B c:J) (vb:O V) (bs:ag) (f:Str->Str),vs=[.ref B,.ref c]/\H B=S (.lst vb)/\Paired (cE H) vb bs/\bS H c (bs.map (·.1)) f /\
 ∀(v:V) (H':Hp),ak H H'->dP H' v (cq f bs)->Q v H'
def mH:aA ["boxes","called","found","name","size"] ["boxes","called"] (ao Ht):=dX
def Ez {f:J}{fd:aef}(F:cF K "_law_all_same" "_law_all_same" Ht f fd)  : aL P w K mg base cm 1 f fd ["boxes","called"] uJ:=by
 #F.eO mH λcdv A outer s H vs Q E hr h=>?_
 @⟨B,c,vb,bs,f,rfl,hB,pb,hc,q⟩:=h
 #f7 ⟨_,(aiz (aiL 2 mH.nd (aiG (L aiD M)))
   (aiz (ai0 (aiW (Y 0)) (aiT 2 (aiI (aiC 3 mH.nd) (aiI (aiC 4 mH.nd) aiU))) (aiA (aiL 2 mH.nd (aiG (L aiD (L (aiG (L aiD (L (aiG (L aiD (L (Y 3) M))) (L (aiG (L aiD (L (ajc (bj hr _ (by left)) (Y 1) (Y 3)) M))) M)))) (L (Y 2) M)))))))
   (aiA (aiF (Y 2))))),?_⟩
 #⟨akz,λy0 hy0=>?_⟩
 @⟨H1,s0,g0,zz⟩:=aK hy0 (.tup [.str "yes"])
 rw[zz];clear zz
 !vl:=Paired.length pb
 #af U (bu U ⟨_,aB.of (s0 _ _ hB)⟩ ?_)
 #dz (xs:=vb) (λi σ H2=>∃(v:V) (o3 o4:Option V),σ=[S (.ref B),S (.ref c),S v,o3,o4]/\ak H H2/\dP H2 v (cq f (bs.take i))) ⟨_,_,af U ⟨s0,⟨y0,U,g0⟩⟩⟩ (λi σ H2 y z=>?_) (λi x σ H2 hx z=>?_) (λσ H2 z=>?_)
 . @⟨v,o3,o4,rfl,s2,_⟩:=z
   #aB.of (s2 _ _ hB)
 . @⟨v,o3,o4,rfl,s2,ev⟩:=z
   @⟨b,ik,uk,rfl,pC⟩:=Paired.get pb hx
   !S0:b.1∈bs.map (·.1):=dD ⟨b,ad4 ik,rfl⟩
   #nJ (s2 _ _ pC) ?_
   #bu U akA (λt1 h1=>?_)
   @⟨H3,s3,g1,zz⟩:=aK h1 (.tup [.str "mine",.str b.1])
   rw[zz];clear zz
   @⟨kvs,hk,hv⟩:=hc.same (aa s2 s3)
   !dg:=dv.k (k:=.inr b.1) hk
   rw[hv _ S0]at dg
   #af U (af U ⟨c,af U ⟨dg,akA,λt2 h2=>?_⟩⟩)
   @⟨H4,s4,g2,zz⟩:=aK h2 (.tup [.str "yours",.str (f b.1)])
   rw[zz];clear zz
   #⟨akB,λt3 h3=>?_⟩
   @⟨H5,s5,g3,zz⟩:=aK h3 (.tup [.str "same",.ref t1,.ref t2])
   rw[zz];clear zz
   #bu U akB (λt4 h4=>?_)
   @⟨H6,s6,g4,zz⟩:=aK h4 (.tup [.str "both",.ref t3,v])
   rw[zz];clear zz
   !s36:=aa s3 (aa s4 (aa s5 s6))
   #⟨.ref t4,_,af U ⟨aa s2 s36,?_⟩⟩
   rw[aec,ik]
   change dP H6 _ (cq f (bs.take i++[b]))
   rw[jk]
   #⟨_,_,⟨t4,U,g4⟩,⟨_,_,⟨t3,U,s6 _ _ g3⟩,⟨t1,U,s6 _ _ (s5 _ _ (s4 _ _ g1))⟩,⟨t2,U,s6 _ _ (s5 _ _ g2)⟩⟩,ev.keep (ak.tk s36)⟩
 @⟨v,o3,o4,rfl,s2,ev⟩:=z
 rw[vl,aed]at ev
 #af U (q v H2 s2 ev)
def C6 (nds:O Nd)(ps bp:O Int)(c:E)(p:Nat):O Ef:=⟨⟨(p:Int),ps.getD p 0,c⟩,if ip (nds.getD p .fin)="end" then "end" else "both",.num 0⟩::if bp.getD p 0=ps.getD p 0 then[]else[⟨⟨(p:Int),bp.getD p 0,c⟩,"yours",.num 1⟩]
def tK (nds:O Nd)(ps bp:O Int)(c:E):Nat->O Ef
 | 0=>[]
 | n+1=>tK nds ps bp c n++C6 nds ps bp c n
def DO (nds:O Nd)(ps bp:O Int)(c:E)(p:Nat):(C6 nds ps bp c p)~<=2:=by
 unfold C6
 rw[aet]
 by_cases e:bp.getD p 0=ps.getD p 0
 . rw[aR e];#Nat.succ_le_succ (aeG _)
 . rw[aM e];#ad5 _
theorem ph (nds:O Nd)(ps bp:O Int)(c:E):∀n,(tK nds ps bp c n)~<=2*n
 | 0=>ad5 _
 | n+1=>by
   change(tK nds ps bp c n++C6 nds ps bp c n)~<=_
   rw[ad7]
   !h1:=ph nds ps bp c n
   !h2:=DO nds ps bp c n
   lia
structure sN (H:Hp)(l:J)(es:O Ef):Prop where
 ex:∃vps,H l=S (.lst vps)/\Paired (fO H) vps es
def sN.snoc {H:Hp}{l t:J}{vps:O V}{es:O Ef}{f:Ef}(h1:H l=S (.lst vps))(h2:Paired (fO H) vps es)(ht:fO H (.ref t) f):sN (upd H l (.lst (vps++[.ref t]))) l (es++[f]):=by
 !kk:TK H (upd H l (.lst (vps++[.ref t]))):=λd xs z=>by rw[aj (eJ z h1 (λz=>nomatch z))];#z
 #⟨_,ae,Paired.snoc (Paired.aP h2 λy y z=>z.keep kk) (ht.keep kk)⟩
def P5:Sp:=λvs H Q z=>∃(v:V) (c pl bh:J) (bs:ag) (ins:O Str) (nds:O Nd) (f:Str->Str) (ps bp:O Int),vs=[v,.ref c,.ref pl,.ref bh]/\aN H v bs ins nds/\bS H c (bs.map (·.1)) f/\H pl=S (.lst (ps.map V.int))/\H bh=S (.lst (bp.map V.int))/\ps~=nds~/\bp~=nds~/\nds~<=100 /\
 ∀(l:J) (H':Hp),ak H H'->H l=Z->sN H' l (tK nds ps bp (cq f bs) nds~)->Q (.ref l) H'
def By:aA ["program","called","places","behind","same","found","p","who"] ["program","called","places","behind"] (ao Xw):=dX
def OF {f:J}{fd:aef}(F:cF K "_law_good_paper" "_law_good_paper" Xw f fd)(m_len:mg "len"=Z)(m_range:mg "range"=Z)(m_int:mg "int"=Z)(AS:bI P w K mg base "_law_all_same" ["boxes","called"] 1 uJ):aL P w K mg base cm 2 f fd ["program","called","places","behind"] P5:=by
 #F.eO By λcdv A outer s H vs Q E hr h=>?_
 @⟨v,c,pl,bh,bs,ins,nds,f,ps,bp,rfl,⟨p0,B,I,N,vb,vn,rfl,hp,hB,hI,hN,pb,pn⟩,hc,hpl,C8,pll,bll,fI,q⟩:=h
 #f7 ⟨_,(aiz (aiL 4 By.nd (aiJ AS hr U (L (aiy aiE (Y 0) aix) (L (Y 1) M))))
   (aiz (aiL 5 By.nd (aiO M))
   (aiz (ai0 (ajj U m_range (L (aiS aiX U m_len aeo (L (Y 2) M)) M)) (aiC 6 By.nd) (aiz (aiL 7 By.nd (aiy aiH (aiO (L aiD (L aiD M))) (ai2 ajs U m_int (by right) (L (ai4 aiR (aiy aiE (aiy aiH (aiy aiE (Y 0) aix) (Y 6)) aix) aiD) M))))
   (aiz (ai3 (ajf (Y 5) (L (aiG (L (Y 6) (L (aiy aiH (Y 2) (Y 6)) (L (Y 4) (L (Y 7) (L (aiG (L aiD (L aix M))) M)))))) M)))
   (aiA (aiM (aiK L3.JT (aiy aiH (Y 3) (Y 6)) (aiy aiH (Y 2) (Y 6))) (aiA (ai3 (ajf (Y 5) (L (aiG (L (Y 6) (L (aiy aiH (Y 3) (Y 6)) (L (Y 4) (L aiD (L (aiG (L aiD (L aix M))) M)))))) M)))) aiN)))))
   (aiA (aiF (Y 5)))))),?_⟩
 !vnl:=Paired.length pn
 #bC λRk kR=>?_
 #af U ?_
 #aW hp U ?_
 #af U ⟨B,c,vb,bs,f,U,hB,pb,hc,λsv H1 s1 ev=>?_⟩
 generalize cq f bs=cs at ev q
 #aS (kR _ _ (bC λRk kR=>?_))
 #⟨aky,λl hl=>?_⟩
 !s2:=aa s1 (ah hl (.lst []))
 #aS (kR _ _ ?_)
 #af U (aJ U (.inl (aB.of (s2 _ _ hpl))) (af U ⟨by rw[ad1];lia,by rw[ad1];lia,?_⟩))
 #fZ (lo:=0) (n:=((ps.map V.int)~:Int).toNat) (λi σ H2=>(∃o6 o7,σ=[S (.ref p0),S (.ref c),S (.ref pl),S (.ref bh),S sv,S (.ref l),o6,o7])/\ak H1 H2/\sN H2 l (tK nds ps bp cs i)) ⟨⟨_,_,U⟩,ah hl _,[],ae,.nil⟩ (λi σ H2 hi z=>?_) (λσ H2 z=>?_)
 . @⟨⟨o6,o7,rfl⟩,sx,vps,Jy,pap⟩:=z
   rw[ad1,aes]at hi
   !hin:i<nds~:=by lia
   !s02:=aa s1 sx
   !D9:nds[i]?=S (nds.getD i .fin):=by rw[ad9,ad3 hin];rfl
   !WM:ps[i]?=S (ps.getD i 0):=by rw[ad9,ad3 (by lia)];rfl
   !Wx:bp[i]?=S (bp.getD i 0):=by rw[ad9,ad3 (by lia)];rfl
   !gs:tK nds ps bp cs (i+1)=tK nds ps bp cs i++C6 nds ps bp cs i:=rfl
   unfold C6 at gs
   !fw:=ph nds ps bp cs i
   generalize nds.getD i .fin=nd at D9 gs
   generalize ps.getD i 0=pz at WM gs
   generalize bp.getD i 0=bz at Wx gs
   generalize tK nds ps bp cs i=es at pap gs fw
   !i0:0+(i:Int)=(i:Nat):=agL _
   @⟨nv,hnv,TR⟩:=Paired.xm pn D9
   @⟨np,nx,rfl,WJ⟩:=TR.kind
   generalize ip nd=kd at gs WJ
   !SQ:hW vn (0+(i:Int))=S (.ref np):=by rw[i0];#bL hnv
   !Nt:hW (ps.map V.int) (0+(i:Int))=S (.int pz):=by rw[i0];#bL (by rw[aei,WM];rfl)
   !Nr:hW (bp.map V.int) (0+(i:Int))=S (.int bz):=by rw[i0];#bL (by rw[aei,Wx];rfl)
   !pvl:=Paired.length pap
   #aS (bC λRk kR=>?_)
   #⟨akA,λwl hwl=>?_⟩
   @⟨H3,s3,g3,zz⟩:=aK hwl (.lst [.str "both",.str "end"])
   rw[zz];clear zz
   !MA:hW ([V.str "both",V.str "end"]:O V) (if decide (V.str kd=V.str "end")=true then 1 else 0)=S (.str (if kd="end" then "end" else "both")):=by
     by_cases cc:kd="end"
     . rw[aR cc,aR (ed (by rw[cc]))];rfl
     . rw[aM cc,aM (λz=>cc (by !:=cU z;injection this))];rfl
   generalize(if kd="end" then("end":Str)else "both")=wh at MA gs
   !s03:=aa s02 s3
   #af U ?_
   #aW (s03 _ _ hp) U ?_
   #af U ?_
   #bY (s03 _ _ hN) SQ ?_
   #aW (s03 _ _ WJ) (show hW _ ((0:Nat):Int)=_ from bL rfl) ?_
   #⟨U,.inr (af U ⟨wl,_,aJ U U ⟨aB.of g3,MA,?_⟩⟩)⟩
   #aS (kR _ _ (bC λRk kR=>?_))
   #af U ⟨.inl ⟨U,_,aB.of (s3 _ _ Jy)⟩,af U (af U (af U ?_))⟩
   #bY (s03 _ _ hpl) Nt ?_
   #af U (bu U akA (λu1 tU=>⟨akD,λu2 Df=>?_⟩))
   @⟨H4,s4,Zn,g4,zz⟩:=GW tU Df (.tup [.int (0+(i:Int)),.int pz,sv,.str wh,.ref u1])
   rw[zz];clear zz
   rw[i0]at g4
   !s34:=aa s3 s4
   #⟨l,aJ U U ⟨s34 _ _ Jy,aD (by lia),?_⟩⟩
   !KC:=sN.snoc (f:=⟨⟨(i:Nat),pz,cs⟩,wh,.num 0⟩) (s34 _ _ Jy) (Paired.aP pap λy y z=>z.keep (ak.tk s34)) ⟨sv,.ref u1,⟨u2,rfl,g4⟩,ev.keep (ak.tk (aa sx s34)),⟨u1,rfl,Zn⟩⟩
   !sA:ak H1 (upd H4 l (.lst (vps++[.ref u2]))):=aE (aa sx s34) hl
   generalize upd H4 l (.lst (vps++[.ref u2]))=HA at KC sA ⊢
   #kR _ _ ?_
   !s0A:=aa s1 sA
   #af U (af U ?_)
   #bY (s0A _ _ C8) Nr ?_
   #af U (af U ?_)
   #bY (s0A _ _ hpl) Nt ?_
   #bB U U ?_
   #aC (λcc=>?_) (λcc=>⟨⟨_,_,U⟩,sA,?_⟩)
   . !ne:¬ bz=pz:=by simpa using cc
     rw[aM ne]at gs
     @⟨vpA,hA,pA⟩:=KC
     !pvA:=Paired.length pA
     rw[ad7,aid]at pvA
     #af U ⟨.inl ⟨U,_,aB.of hA⟩,af U (af U (af U ?_))⟩
     #bY (s0A _ _ C8) Nr ?_
     #bu U akA (λu3 Jx=>⟨akD,λu4 Od=>?_⟩)
     @⟨H5,s5,Zq,g5,zz⟩:=GW Jx Od (.tup [.int (0+(i:Int)),.int bz,sv,.str "yours",.ref u3])
     rw[zz];clear zz
     rw[i0]at g5
     #⟨l,aJ U U ⟨s5 _ _ hA,aD (by lia),⟨_,_,U⟩,aE (aa sA s5) hl,?_⟩⟩
     !OQ:=sN.snoc (f:=⟨⟨(i:Nat),bz,cs⟩,"yours",.num 1⟩) (s5 _ _ hA) (Paired.aP pA λy y z=>z.keep (ak.tk s5)) ⟨sv,.ref u3,⟨u4,rfl,g5⟩,ev.keep (ak.tk (aa sA s5)),⟨u3,rfl,Zq⟩⟩
     rw[gs]
     rw[afN]at OQ
     #OQ
   . !e:bz=pz:=by simpa using cc
     rw[gs,aR e]
     #KC
 @⟨⟨o6,o7,rfl⟩,sx,pap⟩:=z
 rw[ad1,aes,pll]at pap
 #af U (q l H2 (aa s1 sx) (aq s1 hl) pap)
def sX {es:O Ef}{W:Str->Str->Int}{p q:Int}{f:Ef}(hf:f∈es)(hp:f.e.p=p)(hq:f.e.q=q)(hc:f.e.c.holds W=true):∃g,ib es W p q=S g:=by
 cases e:ib es W p q with
 | some g=>#⟨g,rfl⟩
 | none=>
   have:=List.find?_eq_none.mp e f hf
   #aw (show(yh f.e p q&&f.e.c.holds W)=true by rw[hc,Bool.and_true];#ed ⟨hp,hq⟩) this
def wI {es:O Ef}{W:Str->Str->Int}{p q:Int}{f:Ef}(h:ib es W p q=S f):f.e.c.holds W=true:=let⟨_,_,_,_,_,k,_⟩:=lX h;k
theorem fJ {nds:O Nd}{ps bp:O Int}{c:E}{f:Ef}:∀{n:Nat},f∈tK nds ps bp c n↔∃p,p<n/\f∈C6 nds ps bp c p
 | 0=>⟨λh=>(nomatch h),λ⟨_,h,_⟩=>aw h (ae8 _)⟩
 | n+1=>by
   change f∈tK nds ps bp c n++C6 nds ps bp c n↔_
   rw[ahz,fJ]
   constructor
   . rintro(⟨p,h1,h2⟩|h)
     . #⟨p,by lia,h2⟩
     . #⟨n,by lia,h⟩
   . rintro⟨p,h1,h2⟩
     by_cases e:p=n
     . subst e;#.inr h2
     . #.inl ⟨p,by lia,h2⟩
def gO {nds:O Nd}{ps bp:O Int}{c:E}{p:Nat}{f:Ef}:f∈C6 nds ps bp c p↔f=⟨⟨(p:Int),ps.getD p 0,c⟩,if ip (nds.getD p .fin)="end" then "end" else "both",.num 0⟩ \/ (bp.getD p 0≠ps.getD p 0/\f=⟨⟨(p:Int),bp.getD p 0,c⟩,"yours",.num 1⟩):=by
 unfold C6
 rw[aew]
 by_cases e:bp.getD p 0=ps.getD p 0
 . rw[aR e]
   #⟨λh=>h.elim .inl (λh=>(nomatch h)),λh=>h.elim .inl (λh=>aw e h.1)⟩
 . rw[aM e,ag6]
   #⟨λh=>h.elim .inl (λh=>.inr ⟨e,h⟩),λh=>h.elim .inl (λh=>.inr h.2)⟩
def Nk {nds:O Nd}{ps bp:O Int}{c:E}{n:Nat}{f:Ef}(h:f∈tK nds ps bp c n):f.e.c=c:=by
 @⟨p,_,h⟩:=fJ.mp h
 rcases gO.mp h with rfl|⟨_,rfl⟩<;>rfl
def eY {α:Type}(n:Int)(xs:O α):(aT n xs)~=xs~:=by
 unfold aT
 split
 . rfl
 . #agR
section
variable{bs b':ag}{ins:O Str}{cz:Bool}{st:Int}{nds nds2:O Nd}{ps bp:O Int}
def same_iff (zk:y9 bs ins)(nd':(b'.map (·.1)).Nodup)(o:fP bs ins cz st b'){m y:O Int}(hm:m∈av bs)(hy:y∈av b'):(cq (de ins cz) bs).holds (kJ bs m b' y)=true↔y=aT st m:=by
 !lm:bs~=m~:=by !:=ee _ _ hm;rw[ad1]at this;#this.symm
 !ly:b'~=y~:=by !:=ee _ _ hy;rw[ad1]at this;#this.symm
 !lb:b'~=bs~:=by rw[o.bx,eY,ad1]
 rw[rL]
 !mi:∀x,kJ bs m b' y "mine" x=eP bs m x:=λx=>aR rfl
 !yo:∀x,kJ bs m b' y "yours" x=eP b' y x:=λx=>aM (by left)
 constructor
 . intro h
   apply List.ext_getElem?
   intro i
   by_cases hi:i<y~
   . !xx:i<(aT st m)~:=by rw[eY];lia
     obtain⟨b,hb⟩ : ∃b,b'[i]?=S b:=⟨_,ad3 (by lia)⟩
     rw[ad3 hi,ad3 xx]
     !e1:=jo nd' hb (ad3 hi)
     !e2:=jo nd' hb (ad3 xx)
     !kO:=ad4 hb
     rw[o.bx]at kO
     @⟨a,ha,rfl⟩:=cO (gE.mp kO)
     !e3:=h a ha
     rw[mi,yo]at e3
     !e4:=E6 zk o lm (dD ⟨a,ha,rfl⟩)
     rw[← e1,← e2]
     change S (eP b' y (de ins cz a.1))=S (eP b' (aT st m) (de ins cz a.1))
     rw[← e3,e4]
   . rw[aih (by lia),aih (by rw[eY];lia)]
 . rintro rfl b hb
   rw[mi,yo]
   #(E6 zk o lm (dD ⟨b,hb,U⟩)).symm
def tJ (zk:y9 bs ins)(nd':(b'.map (·.1)).Nodup)(F1:Fits bs ins)(F2:Fits b' ins)(sz:ins.map (bN bs)=ins.map (bN b'))(o:fP bs ins cz st b')(no:ja bs (de ins cz) nds nds2 ps bp)(good:∀e∈nds,e.good (·∈bs.map (·.1)) nds~ 5)(good2:∀e∈nds2,e.good (·∈b'.map (·.1)) nds2~ 5)(one:1<=nds~):Good bs b' ins nds nds2 (tK nds ps bp (cq (de ins cz) bs) nds~):=by
 !pG:∀{k b:Nat},bp[k]?=S (b:Int)->jL bp (k:Int)=(b:Int)/\bp.getD k 0=(b:Int):=λh=>by
   unfold jL
   rw[ad9,ad9,aes,h]
   #⟨U,U⟩
 !there:∀{k:Nat} {m y:O Int},k<nds~->m∈av bs->y∈av b'->y=aT st m->∃g,ib (tK nds ps bp (cq (de ins cz) bs) nds~) (kJ bs m b' y) (k:Int) (jL bp (k:Int))=S g:=λ{k m y} hk hm hy e=>by
   @⟨p,b,h1,h2,_⟩:=no.all k nds[k] (ad3 hk)
   @⟨g1,g2⟩:=pG h2
   !hh:=(same_iff zk nd' o hm hy).mpr e
   by_cases eb:bp.getD k 0=ps.getD k 0
   . #sX (fJ.mpr ⟨k,hk,gO.mpr (.inl rfl)⟩) rfl (by change ps.getD k 0=_;rw[← eb,g1,g2]) hh
   . #sX (fJ.mpr ⟨k,hk,gO.mpr (.inr ⟨eb,U⟩)⟩) rfl (by change bp.getD k 0=_;rw[g1,g2]) hh
 #⟨λws yQ=>?_,λm hm y hy p q f hf=>?_⟩
 . @⟨i,j,hi,hj⟩:=vd F1 F2 sz yQ
   !:=there (k:=0) one (ad4 hi) (ad4 hj) (Kx zk o)
   !z:jL bp ((0:Nat):Int)=0:=(pG (k:=0) (b:=0) no.zero).1
   rw[z]at this
   #this
 . @⟨rfl,rfl,kO,_⟩:=lX hf
   !hc:=wI hf
   rw[Nk kO]at hc
   !ey:=(same_iff zk nd' o hm hy).mp hc
   @⟨k,hk,Dd⟩:=fJ.mp kO
   !Mx:nds[k]?=S nds[k]:=ad3 hk
   @⟨p,b,h1,h2,h3,h4,h5,h6⟩:=no.all k nds[k] Mx
   !gp:ps.getD k 0=(p:Int):=by rw[ad9,h1];rfl
   @⟨Wm,QM⟩:=pG h2
   !Wq:nds.getD k .fin=nds[k]:=by rw[ad9,Mx];rfl
   !lm:bs~=m~:=by !:=ee _ _ hm;rw[ad1]at this;#this.symm
   !gd:=good _ (ad4 Mx)
   generalize nds[k]=e at Mx h5 h6 Wq gd
   rcases gO.mp Dd with rfl|⟨ne,rfl⟩
   . #⟨ag0 _,e,e.as (de ins cz) (jL bp),by change nds[((k:Nat):Int).toNat]?=_;rw[aes];show Mx,by change nds2[(ps.getD k 0).toNat]?=_;rw[gp,aes];#h5,?_⟩
     change if(if ip (nds.getD k .fin)="end" then("end":Str)else "both")="end" then _ else _
     rw[Wq]
     by_cases ef:e=.fin
     . subst ef
       rw[aR (show(if ip Nd.fin="end" then("end":Str)else "both")="end" from aR rfl)]
       #⟨U,U⟩
     . !kn:¬ ip e="end":=by
         cases e with
         | fin=>#aw rfl ef
         | put _ _ _=>change ¬ (("put":Str)="end");decide
         | say _ _=>change ¬ (("say":Str)="end");decide
         | test _ _ _=>change ¬ (("test":Str)="end");decide
       !wb:(if ip e="end" then("end":Str)else "both")="both":=aM kn
       rw[aM (by rw[wb];decide)]
       obtain⟨⟨said,to,m'⟩,hs⟩ : ∃r,cL bs m e=S r:=by
         cases e with
         | fin=>#aw rfl ef
         | put _ _ _=>#⟨_,rfl⟩
         | say _ _=>#⟨_,rfl⟩
         | test _ _ _=>#⟨_,rfl⟩
       !hs2:=E5 zk o lm (g:=jL bp) gd
       rw[hs]at hs2
       @⟨t0,t1,pw,_⟩:=iS F1.sz (b9 hm) gd hs
       !D7:m'∈av bs:=eB pw
       obtain⟨i2,xx⟩ : ∃i,(av b')[i]?=S (aT st m'):=by
         #aeB (eB (iS F2.sz (b9 hy) (good2 _ (ad4 h5)) (r:=(said,jL bp to,aT st m')) ?_).2.2.1)
         rw[ey,hs2]
         rfl
       obtain⟨tn,rfl⟩ : ∃tn:Nat,to=(tn:Int):=⟨to.toNat,by rw[afE t0]⟩
       @⟨g,hg⟩:=there (k:=tn) (by !t1':(tn:Int)<nds~:=t1;lia) D7 (ad4 xx) rfl
       #⟨said,(tn:Int),m',jL bp (tn:Int),aT st m',g,?_,?_,hg,.inl wb⟩
       . change fM bs (decide ((if ip e="end" then("end":Str)else "both")="yours")) _ m e=_
         rw[wb]
         #hs
       . change fM b' (decide ((if ip e="end" then("end":Str)else "both")="mine")) _ y _=_
         rw[wb,ey]
         #hs2
   . rw[gp,QM]at ne
     rcases h6 with rfl|⟨e',h7,h8⟩
     . #aw rfl ne
     !hh:=(same_iff zk nd' o hm hy).mpr ey
     @⟨g,hg⟩:=sX (W:=kJ bs m b' y) (fJ.mpr ⟨k,hk,gO.mpr (.inl rfl)⟩) rfl rfl (show(cq (de ins cz) bs).holds (kJ bs m b' y)=true from hh)
     #⟨show(0:Int)<=1 by left,e,e',by change nds[((k:Nat):Int).toNat]?=_;rw[aes];show Mx,by change nds2[(bp.getD k 0).toNat]?=_;rw[QM,aes];#h7,?_⟩
     rw[aM (show ¬ ("yours":Str)="end" by left)]
     #⟨[],(k:Int),m,(p:Int),aT st m,g,?_,?_,?_,.inr ?_⟩
     . rfl
     . change fM b' (decide (("yours":Str)="mine")) _ y e'=_
       rw[ey]
       #E4 zk o (b9 hm) h8
     . rw[← ey,← gp]
       #hg
     . @⟨q1,q2,q3,_⟩:=lX hg
       @⟨k2,aau,QZ⟩:=fJ.mp q3
       rcases gO.mp QZ with rfl|⟨ne2,rfl⟩
       . change(0:Int)<1
         decide
       . !ek:k2=k:=agf q1
         subst ek
         #aw q2 ne2
end
def gI.congr {b1 b2:ag}{n1 n2:O Nd}{es Jc:O Ef}{f:Ef}{m y:O Int}(h:∀W p q,ib Jc W p q=ib es W p q)(w:gI b1 b2 n1 n2 es f m y):gI b1 b2 n1 n2 Jc f m y:=by
 !:ib Jc=ib es:=funext λW=>funext λp=>funext λq=>h W p q
 unfold gI at w ⊢
 rw[this]
 #w
abbrev mF:Stmt:=top 30
def yr:aA ["one","other"] ["one","other"] (ao mF):=dX
structure Gp (H:Hp)(v1 v2:V)(b1 b2:ag)(i1 i2:O Str)(n1 n2:O Nd):Prop where
 p1:aN H v1 b1 i1 n1
 p2:aN H v2 b2 i2 n2
 f1:Fits b1 i1
 f2:Fits b2 i2
def Gp.same {H H':Hp}{v1 v2:V}{b1 b2:ag}{i1 i2:O Str}{n1 n2:O Nd}(h:Gp H v1 v2 b1 b2 i1 i2 n1 n2)(s:ak H H'):Gp H' v1 v2 b1 b2 i1 i2 n1 n2:=⟨h.p1.same s,h.p2.same s,h.f1,h.f2⟩
abbrev lQ (b1 b2:ag)(i1 i2:O Str):Prop:=i1=i2/\i1.map (bN b1)=i2.map (bN b2)
def eZ (C:J):Sp:=λvs H Q X=>∃(v1 v2:V) (b1 b2:ag) (i1 i2:O Str) (n1 n2:O Nd),vs=[v1,v2]/\Gp H v1 v2 b1 b2 i1 i2 n1 n2/\(lQ b1 b2 i1 i2->∀H',ak H H'->Q .bA H')/\(¬ lQ b1 b2 i1 i2->∀H',ak H H'->X (.ref C) Z H')
def vI {p:Prop}[Decidable p](c:(!decide p)=true):¬ p:=λh=>by rw[ed h]at c;cases c
def rb {p:Prop}[Decidable p](c:¬ (!decide p)=true):p:=by
 by_cases h:p
 . #h
 . rw[mW h]at c
   #aw rfl c
def uf {C T:J}{f:J}{fd:aef}(F:cF K "refuse_no_pair" "refuse_no_pair" mF f fd)(cN:Xc K mg "NoPair" C (.ref T::vE))(IS:bI P w K mg base "input_sizes" ["program"] 1 jn):aL P w K mg base (qm P w base) 2 f fd ["one","other"] (eZ C):=by
 #F.Va yr (λvs H Q E h=>?_) (λcdv A outer s H vs Q E hr h=>?_)
 . @⟨v1,v2,b1,b2,i1,i2,n1,n2,rfl,_⟩:=h
   rfl
 . @⟨v1,v2,b1,b2,i1,i2,n1,n2,rfl,T,q,qx⟩:=h
   #f7 ⟨_,(aiA (aiM (aje (ajb (aiK (L3.oq (m:=0) (bj hr _ (by left))) (aiy aiE (Y 0) aix) (aiy aiE (Y 1) aix)) (ajk (aiK (L3.oq (m:=0) (bj hr _ (by left))) (aiJ IS hr U (L (Y 0) M)) (aiJ IS hr U (L (Y 1) M)))))) (aiA (L3.Ln FK cN U U (L aiD M))) aiN)),?_⟩
   @⟨p,B,I,N,vb,vn,rfl,hp,hB,hI,hN,pb,pn⟩:=T.p1
   @⟨p',B',I',N',XZ,VH,rfl,r6,Ws,QV,Su,Xj,Vk⟩:=T.p2
   #af U ?_
   #aW hp U ?_
   #af U ?_
   #aW r6 U ?_
   #⟨_,RB.strs hI QV,af U ?_⟩
   #aC (λc=>nC ?_) (λc=>?_)
   . #af U (qx (λz=>vI c z.1) _ (same_refl _))
   !ei:=rb c
   #af U ⟨_,b1,i1,n1,U,T.p1,T.f1,λl1 H1 hl1 s1 g1=>?_⟩
   #af U ⟨_,b2,i2,n2,U,T.p2.same s1,T.f2,λl2 H2 hl2 s2 g2=>?_⟩
   #⟨_,RB.ints (s2 _ _ g1) g2,af U ?_⟩
   #aC (λc=>?_) (λc=>?_)
   . #af U (qx (λz=>vI c z.2) _ (aa s1 s2))
   . #q ⟨ei,rb c⟩ _ (aa s1 s2)
def qP {C T:J}(s:Src K mg "refuse_no_pair" mF)(cN:Xc K mg "NoPair" C (.ref T::vE))(IS:bI P w K mg base "input_sizes" ["program"] 1 jn):m9 P w K mg base "refuse_no_pair" ["one","other"] 2 (eZ C):=
 let⟨f,fd,F,m⟩:=s
 ⟨f,fd,uf F cN IS,F.kp,iV F λz z z z z z z z=>rfl,m⟩
def uM (C:J):Sp:=λvs H Q X=>∃(v1 v2 pv:V) (b1 b2:ag) (i1 i2:O Str) (n1 n2:O Nd),vs=[v1,v2,pv]/\Gp H v1 v2 b1 b2 i1 i2 n1 n2/\¬ lQ b1 b2 i1 i2/\∀H',ak H H'->X (.ref C) Z H'
def uK (C:J):Sp:=λvs H Q X=>∃(v1 v2 pv kv:V) (b1 b2:ag) (i1 i2:O Str) (n1 n2:O Nd),vs=[v1,v2,pv,kv]/\Gp H v1 v2 b1 b2 i1 i2 n1 n2/\¬ lQ b1 b2 i1 i2/\∀H',ak H H'->X (.ref C) Z H'
def off {X:Cx}{rest:O Stmt}:L3.SL X rest (λz z z=>False):=⟨λz z z z z z h=>h.elim⟩
def EL {cN:J}{f:J}{fd:aef}(F:cF K "paper_shows" "paper_shows" FR f fd)(NP:m9 P w K mg base "refuse_no_pair" ["one","other"] 2 (eZ cN)):aL P w K mg base (qm P w base) 3 f fd ["one","other","paper"] (uM cN):=by
 #F.Va v3 (λvs H Q E h=>?_) (λcdv A outer s H vs Q E hr h=>?_)
 . @⟨v1,v2,pv,b1,b2,i1,i2,n1,n2,rfl,_⟩:=h
   rfl
 . @⟨v1,v2,pv,b1,b2,i1,i2,n1,n2,rfl,T,ng,qx⟩:=h
   #f7 ⟨_,(aiz (ai3 (L3.E7 G6 NP hr U (L (Y 0) (L (Y 1) M)))) off),?_⟩
   #af U (af U ⟨v1,v2,b1,b2,i1,i2,n1,n2,U,T,λgp=>aw gp ng,λz H1 s1=>qx H1 s1⟩)
def zM {cN:J}(s:Src K mg "paper_shows" FR)(NP:m9 P w K mg base "refuse_no_pair" ["one","other"] 2 (eZ cN)):m9 P w K mg base "paper_shows" ["one","other","paper"] 3 (uM cN):=
 let⟨f,fd,F,m⟩:=s
 ⟨f,fd,EL F NP,F.kp,sR F λz z z z z z z z z=>rfl,m⟩
abbrev Ls:Stmt:=top 50
def PV:aA ["one","other","paper","number","ground","places","ahead","counted"] ["one","other","paper","number"] (ao Ls):=dX
def ED {cN:J}{f:J}{fd:aef}(F:cF K "entry_worths" "entry_worths" Ls f fd)(NP:m9 P w K mg base "refuse_no_pair" ["one","other"] 2 (eZ cN)):aL P w K mg base (qm P w base) 3 f fd ["one","other","paper","number"] (uK cN):=by
 #F.Va PV (λvs H Q E h=>?_) (λcdv A outer s H vs Q E hr h=>?_)
 . @⟨v1,v2,pv,kv,b1,b2,i1,i2,n1,n2,rfl,_⟩:=h
   rfl
 . @⟨v1,v2,pv,kv,b1,b2,i1,i2,n1,n2,rfl,T,ng,qx⟩:=h
   #f7 ⟨_,(aiz (ai3 (L3.E7 G6 NP hr U (L (Y 0) (L (Y 1) M)))) off),?_⟩
   #af U (af U ⟨v1,v2,b1,b2,i1,i2,n1,n2,U,T,λgp=>aw gp ng,λz H1 s1=>qx H1 s1⟩)
def zL {cN:J}(s:Src K mg "entry_worths" Ls)(NP:m9 P w K mg base "refuse_no_pair" ["one","other"] 2 (eZ cN)):m9 P w K mg base "entry_worths" ["one","other","paper","number"] 3 (uK cN):=
 let⟨f,fd,F,m⟩:=s
 ⟨f,fd,ED F NP,F.kp,sU F λz z z z z z z z z z=>rfl,m⟩
abbrev uE:Stmt:=top 66
abbrev HP:Stmt:=top 67
def kb:Nat->O Bool
 | 0=>[true,false,false,true,false]
 | 1=>[false,true,false,true,false]
 | 2=>[false,false,true,true,false]
 | _=>[]
def Yn (cN cW cP:J)(k:Nat)(C:J):Prop:=(k=0/\C=cN)\/(k=1/\C=cW)\/(k=2/\C=cP)
def qa (cN cW cP:J):Sp:=λvs H Q z=>∃(ea C:J) (k:Nat),vs=[.ref ea]/\H ea=S (Gz ea C)/\Yn cN cW cP k C/\∀(l:J) (H':Hp),H l=Z->ak H H'->H' l=S (.lst ((kb k).map V.bl))->Q (.ref l) H'
def vZ:aA ["e","told"] ["e"] (ao uE):=dX
def AQ {T aZ aQ aI bo b7 b8 bD bE cV bF bG:J}{f:J}{fd:aef}(F:cF K "_law_kinds" "_law_kinds" uE f fd)(R:Qz K mg T aZ aQ aI bo b7 b8 bD bE cV bF bG)(m_isinstance:mg "isinstance"=Z)(m_ValueError:mg "ValueError"=Z):lO P w K mg base 1 f fd ["e"] (qa aZ aQ aI):=by
 #F.okH vZ (λvs H Q E h=>?_) (λcdv A outer s H vs Q E hr h=>?_)
 . @⟨ea,C,k,rfl,_⟩:=h
   rfl
 . @⟨ea,C,k,rfl,he,hk,q⟩:=h
   obtain⟨kk,i1,i2,i3,iv,io,ek⟩ : IL K C/\aey K (.ref C) (.ref aZ)=S (decide (k=0))/\aey K (.ref C) (.ref aQ)=S (decide (k=1))/\aey K (.ref C) (.ref aI)=S (decide (k=2))/\aey K (.ref C) (.type "ValueError")=S true/\af8 K (.ref C) [.ref bo,.ref b7,.ref b8,.ref bD,.ref bE,.ref cV,.ref bF,.ref bG]=S false/\kb k=[decide (k=0),decide (k=1),decide (k=2),true,false]:=by
     rcases hk with⟨rfl,rfl⟩|⟨rfl,rfl⟩|⟨rfl,rfl⟩
     . #⟨R.k_NoPair,R.i_NoPair_NoPair,R.i_NoPair_NoWorths,R.i_NoPair_NoProgram,R.v_NoPair,R.o_NoPair,U⟩
     . #⟨R.k_NoWorths,R.i_NoWorths_NoPair,R.i_NoWorths_NoWorths,R.i_NoWorths_NoProgram,R.v_NoWorths,R.o_NoWorths,U⟩
     . #⟨R.k_NoProgram,R.i_NoProgram_NoPair,R.i_NoProgram_NoWorths,R.i_NoProgram_NoProgram,R.v_NoProgram,R.o_NoProgram,U⟩
   #f7 ⟨_,(aiz (aiL 1 vZ.nd (aiO (L (aiS L3.qD U m_isinstance (by right) (L (Y 0) (L (ai6 (w:=.ref aZ) U R.x_NoPair.m rfl) M))) (L (aiS L3.qD U m_isinstance (by right) (L (Y 0) (L (ai6 (w:=.ref aQ) U R.x_NoWorths.m rfl) M))) (L (aiS L3.qD U m_isinstance (by right) (L (Y 0) (L (ai6 (w:=.ref aI) U R.x_NoProgram.m rfl) M))) (L (aiS L3.qD U m_isinstance (by right) (L (Y 0) (L (L3.IW (w:=.ty "ValueError") U m_ValueError (by right) rfl) M))) M))))))
     (aiA (aiF (aiB ajd (Y 1) (aiO (L (aiS L3.qD U m_isinstance (by right) (L (Y 0) (L (aiG (L (ai6 (w:=.ref bo) U R.m_NoChange rfl) (L (ai6 (w:=.ref b7) U R.m_NoForm rfl) (L (ai6 (w:=.ref b8) U R.m_NoNode rfl) (L (ai6 (w:=.ref bD) U R.m_NoPaper rfl) (L (ai6 (w:=.ref bE) U R.m_NoPicks rfl) (L (ai6 (w:=.ref cV) U R.m_NoRow rfl) (L (ai6 (w:=.ref bF) U R.m_NoneYet rfl) (L (ai6 (w:=.ref bG) U R.m_TooMany rfl) M))))))))) M))) M)))))),?_⟩
   #af U ⟨ea,C,_,he,kk,.inl (af U i1),af U ⟨ea,C,_,he,kk,.inl (af U i2),af U ⟨ea,C,_,he,kk,.inl (af U i3),af U ⟨ea,C,_,he,kk,.inr (.inl (af U iv)),akC,λl0 D1=>?_⟩⟩⟩⟩
   @⟨H1,s1,g1,zz⟩:=aK D1 (.lst [.bl (decide (k=0)),.bl (decide (k=1)),.bl (decide (k=2)),.bl true])
   rw[zz];clear zz
   #af U (bu U akE (λtp Oc=>?_))
   @⟨H2,s2,g2,zz⟩:=aK Oc (.tup [.ref bo,.ref b7,.ref b8,.ref bD,.ref bE,.ref cV,.ref bF,.ref bG])
   rw[zz];clear zz
   #⟨ea,C,false,s2 _ _ (s1 _ _ he),kk,.inr (.inr ⟨tp,[bo,b7,b8,bD,bE,cV,bF,bG],U,g2,io⟩),akz,λl1 hl1=>?_⟩
   @⟨H3,s3,g3,zz⟩:=aK hl1 (.lst [.bl false])
   rw[zz];clear zz
   #⟨l0,l1,aJ U U ⟨s3 _ _ (s2 _ _ g1),g3,(by change 4+1<=sizeLine;decide),λp hp=>?_⟩⟩
   !s03:=aa s1 (aa s2 s3)
   #q p _ (aq s03 hp) (aa s03 (ah hp _)) (by rw[ae,ek];rfl)
def xr {T aZ aQ aI bo b7 b8 bD bE cV bF bG:J}(s:Src K mg "_law_kinds" uE)(R:Qz K mg T aZ aQ aI bo b7 b8 bD bE cV bF bG)(m_isinstance:mg "isinstance"=Z)(m_ValueError:mg "ValueError"=Z):wD P w K mg base "_law_kinds" ["e"] 1 (qa aZ aQ aI):=
 let⟨f,fd,F,m⟩:=s
 ⟨f,fd,AQ F R m_isinstance m_ValueError,F.kp,IX F λz z z z z z z=>rfl,m⟩
def Cb:Sp:=λvs H Q z=>∃(v1 v2 pv:V) (k:Int) (b1 b2:ag) (i1 i2:O Str) (n1 n2:O Nd),vs=[v1,v2,pv,.int k]/\Gp H v1 v2 b1 b2 i1 i2 n1 n2/\¬ lQ b1 b2 i1 i2/\∀H',ak H H'->Q (.bl true) H'
def pV:aA ["one","other","paper","way","told","e"] ["one","other","paper","way"] (ao HP):=dX
def ER {T aZ aQ aI bo b7 b8 bD bE cV bF bG:J}{f:J}{fd:aef}(F:cF K "_law_refused" "_law_refused" HP f fd)(R:Qz K mg T aZ aQ aI bo b7 b8 bD bE cV bF bG)(PS:m9 P w K mg base "paper_shows" ["one","other","paper"] 3 (uM aZ))(EW:m9 P w K mg base "entry_worths" ["one","other","paper","number"] 3 (uK aZ))(KN0:wD P w K mg base "_law_kinds" ["e"] 1 (qa aZ aQ aI)):aL P w K mg base cm 4 f fd ["one","other","paper","way"] Cb:=by
 !KN:=KN0.mono (show 1<=3 by left)
 #F.eO pV λcdv A outer s H vs Q E hr h=>?_
 @⟨v1,v2,pv,k,b1,b2,i1,i2,n1,n2,rfl,T0,ng,q⟩:=h
 #f7 ⟨_,(aiz (aiL 4 pV.nd (aiO M))
   (aiz (L3.VF 5 pV.nd R.t U (λW pn Ex hp=>(aiA (aiM (aiK aiR (Y 3) aix) (aiA (ai3 (L3.E7 hp PS hr U (L (Y 0) (L (Y 1) (L (Y 2) M)))))) (aiA (ai3 (L3.E7 hp EW hr U (L (Y 0) (L (Y 1) (L (Y 2) (L aix M)))))))))) (λea=>(aiA (aiL 4 pV.nd (L3.Ve KN (cG.h hr _) U (L (Y 5) M))))))
   (aiA (aiF (ai4 (L3.rj (m:=0) (bj hr _ (by left))) (Y 4) (aiO (L ai1 (L ai1 (L ai1 (L ai1 (L ai1 M))))))))))),?_⟩
 #⟨aky,λl0 D1=>?_⟩
 @⟨H1,s1,g1,zz⟩:=aK D1 (.lst [])
 rw[zz];clear zz
 !T1:=T0.same s1
 !fin:∀(H3:Hp) (ea l:J) (H5:Hp),ak H1 H3->H3 ea=Z->ak (upd H3 ea (Gz ea aZ)) H5->H5 l=S (.lst ((kb 0).map V.bl))->5<=sizeLine/\∀l2,H5 l2=Z->∃b,RB K (upd H5 l2 (.lst [.bl true,.bl false,.bl false,.bl true,.bl false])) 0 (.ref l) (.ref l2) b/\Q (.bl b) (upd H5 l2 (.lst [.bl true,.bl false,.bl false,.bl true,.bl false])):=λH3 ea l H5 s3 Ji s5 g5=>by
   #⟨by left,λl2 hl2=>⟨_,RB.YF (ys:=kb 0) (ah hl2 _ _ _ g5) ae,?_⟩⟩
   rw[ed rfl]
   #q _ (az (aa s1 (aa s3 (aa (ah Ji _) s5))) hl2)
 #af U (bB U U ?_)
 #aC (λc=>?_) (λc=>?_)
 . #af U (af U (af U ⟨v1,v2,pv,b1,b2,i1,i2,n1,n2,U,T1,ng,λH3 s3=>?_⟩))
   #⟨_,_,af U ⟨R.x_NoPair,(by simp),λea Ji=>(af U ⟨ea,_,0,U,ae,.inl ⟨U,U⟩,λl H5 hl s5 g5=>(af U ?_)⟩)⟩⟩
   #fin H3 ea l H5 s3 Ji s5 g5
 . #af U (af U (af U ⟨v1,v2,pv,_,b1,b2,i1,i2,n1,n2,U,T1,ng,λH3 s3=>?_⟩))
   #⟨_,_,af U ⟨R.x_NoPair,(by simp),λea Ji=>(af U ⟨ea,_,0,U,ae,.inl ⟨U,U⟩,λl H5 hl s5 g5=>(af U ?_)⟩)⟩⟩
   #fin H3 ea l H5 s3 Ji s5 g5
abbrev Py:Stmt:=top 65
def BU:Sp:=λvs H Q z=>∃(p B I N:J) (vb vi vn:O V),vs=[.ref p]/\H p=S (.tup [.ref B,.ref I,.ref N])/\H B=S (.lst vb)/\H I=S (.lst vi)/\H N=S (.lst vn) /\
 ∀(p' B' I' N':J) (H':Hp),ak H H'->H' p'=S (.tup [.ref B',.ref I',.ref N'])->H' B'=S (.lst vb)->H' I'=S (.lst vi)->H' N'=S (.lst vn)->Q (.ref p') H'
def PU:aA ["program"] ["program"] (ao Py):=dX
def J1 {f:J}{fd:aef}(F:cF K "_law_copied" "_law_copied" Py f fd)(m_list:mg "list"=Z):aL P w K mg base cm 1 f fd ["program"] BU:=by
 #F.eO PU λcdv A outer s H vs Q E hr h=>?_
 @⟨p,B,I,N,vb,vi,vn,rfl,hp,hB,hI,hN,q⟩:=h
 #f7 ⟨_,(aiA (aiF (aiG (L (ai2 ajq U m_list (by right) (L (aiy aiE (Y 0) aix) M)) (L (ai2 ajq U m_list (by right) (L (aiy aiE (Y 0) aix) M)) (L (ai2 ajq U m_list (by right) (L (aiy aiE (Y 0) aix) M)) M)))))),?_⟩
 #af U ?_
 #aW hp U ?_
 #aJ U (.inl (aB.of hB)) (λb1 Nu=>?_)
 @⟨H1,s1,g1,zz⟩:=aK Nu (.lst vb)
 rw[zz];clear zz
 #af U ?_
 #aW (s1 _ _ hp) U ?_
 #aJ U (.inl (aB.of (s1 _ _ hI))) (λi1 yK=>?_)
 @⟨H2,s2,g2,zz⟩:=aK yK (.lst vi)
 rw[zz];clear zz
 !s02:=aa s1 s2
 #af U ?_
 #aW (s02 _ _ hp) U ?_
 #aJ U (.inl (aB.of (s02 _ _ hN))) (λn1 NV=>⟨akB,λp1 nZ=>?_⟩)
 !s3:ak H2 (upd (upd H2 n1 (.lst vn)) p1 (.tup [.ref b1,.ref i1,.ref n1])):=az (ah NV _) nZ
 #q p1 b1 i1 n1 _ (aa s02 s3) ae (s3 _ _ (s2 _ _ g1)) (s3 _ _ g2) (by rw[aj (ai ae nZ)];#ae)
structure i4 (bs:ag)(ins:O Str)(b3:ag)(i3:O Str):Prop where
 F:Fits b3 i3
 no:¬ (i3=ins/\i3.map (bN b3)=ins.map (bN bs))
section
variable{bs:ag}{ins:O Str}
def wo (F:Fits bs ins)(l2:bs~<=2)(il:ins~<=2)(nw:("w":Str)∉bs.map (·.1)):i4 bs ins (bs++[(("w":Str),(2:Int))]) (ins++[("w":Str)]):=by
 !ni:("w":Str)∉ins:=λh=>nw (F.sub _ h)
 #⟨⟨?_,by rw[ad7];change _+1<=900;lia,λb hb=>?_,?_,λx hx=>?_,by rw[ad7];change _+1<=900;lia⟩,λh=>?_⟩
 . rw[aeb,ahj]
   #⟨F.nd,by simp,λa ha b hb e=>nw (by rw[e]at ha;rw[cR hb]at ha;#ha)⟩
 . rcases eI hb with h|h
   . #F.sz b h
   . rw[cR h];decide
 . rw[ahj]
   #⟨F.ind,by simp,λa ha b hb e=>ni (by rw[e]at ha;rw[cR hb]at ha;#ha)⟩
 . rw[aeb]
   rcases eI hx with h|h
   . #iC (.inl (F.sub x h))
   . #iC (.inr h)
 . !:=congrArg agS h.1
   rw[ad7]at this
   #aw this (by change ¬ _+1=_;lia)
def yz (F:Fits bs ins)(l2:bs~<=2)(il:ins~<=2)(nw:("w":Str)∉bs.map (·.1)):i4 bs ins (bs++[(("w":Str),(2:Int))]) (("w":Str)::ins):=by
 !ni:("w":Str)∉ins:=λh=>nw (F.sub _ h)
 !G:=(wo F l2 il nw).F
 #⟨⟨G.nd,G.len,G.sz,List.nodup_cons.mpr ⟨ni,F.ind⟩,λx hx=>?_,by change _+1<=900;lia⟩,λh=>?_⟩
 . rw[aeb]
   rcases cZ hx with h|h
   . #iC (.inr (List.mem_singleton.mpr h))
   . #iC (.inl (F.sub x h))
 . !:=congrArg agS h.1
   #aw this (by change ¬ _+1=_;lia)
def Ck {own:Str}(F:Fits bs ins)(l2:bs~<=2)(il:ins~<=2)(ho:own∈ins):i4 bs ins (bs.map λb=>(b.1,b.2+if b.1=own then 1 else 0)) ins:=by
 !e1:(bs.map λb=>(b.1,b.2+if b.1=own then 1 else 0)).map (·.1)=bs.map (·.1):=by rw[ae0];rfl
 !nd:((bs.map λb=>(b.1,b.2+if b.1=own then 1 else 0)).map (·.1)).Nodup:=by rw[e1];#F.nd
 #⟨⟨nd,by rw[ad1];show F.len,λb hb=>?_,F.ind,λx hx=>by rw[e1];#F.sub x hx,F.ilen⟩,λh=>?_⟩
 . @⟨c,hc,rfl⟩:=cO hb
   !:=F.sz c hc
   change 1<=c.2+_
   split<;>lia
 . @⟨c,hc,e⟩:=cO (F.sub own ho)
   !e:c.1=own:=e
   subst e
   !h2:=List.map_inj_left.mp h.2 c.1 ho
   rw[fN F.nd hc]at h2
   !hm:(c.1,c.2+if c.1=c.1 then 1 else 0)∈bs.map λb=>(b.1,b.2+if b.1=c.1 then 1 else 0):=dD ⟨c,hc,rfl⟩
   !h3:=fN nd hm
   rw[h3]at h2
   !h2:c.2+(if c.1=c.1 then 1 else 0)=c.2:=h2
   rw[aR rfl]at h2
   lia
def Ci {own:Str}(F:Fits bs ins)(l2:bs~<=2)(il:ins~<=2)(ho:own∈ins)(nz:("zz":Str)∉bs.map (·.1)):i4 bs ins (bs.map λb=>(if b.1=own then("zz":Str)else b.1,b.2)) (ins.map λx=>if x=own then("zz":Str)else x):=by
 !inj:∀{a b:Str},a∈bs.map (·.1)->b∈bs.map (·.1)->a≠b->(if a=own then("zz":Str)else a)≠if b=own then("zz":Str)else b:=λ{a b} ha hb ne e=>by
   by_cases h1:a=own
   . by_cases h2:b=own
     . #ne (h1.trans h2.symm)
     . rw[aR h1,aM h2]at e
       #nz (by rw[e];#hb)
   . by_cases h2:b=own
     . rw[aM h1,aR h2]at e
       #nz (by rw[← e];#ha)
     . rw[aM h1,aM h2]at e
       #ne e
 !e1:(bs.map λb=>(if b.1=own then("zz":Str)else b.1,b.2)).map (·.1)=(bs.map (·.1)).map λx=>if x=own then("zz":Str)else x:=by rw[ae0,ae0];rfl
 #⟨⟨?_,by rw[ad1];show F.len,λb hb=>?_,?_,λx hx=>?_,by rw[ad1];#F.ilen⟩,λh=>?_⟩
 . rw[e1]
   #List.pairwise_map.mpr (F.nd.imp_of_mem λha hb ne=>inj ha hb ne)
 . @⟨c,hc,rfl⟩:=cO hb
   #F.sz c hc
 . #List.pairwise_map.mpr (F.ind.imp_of_mem λha hb ne=>inj (F.sub _ ha) (F.sub _ hb) ne)
 . rw[e1]
   @⟨y,hy,rfl⟩:=cO hx
   #dD ⟨y,F.sub y hy,U⟩
 . !h1:(ins.map λx=>if x=own then("zz":Str)else x)=ins.map id:=by rw[List.map_id];#h.1
   !h2:(if own=own then("zz":Str)else own)=own:=List.map_inj_left.mp h1 own ho
   rw[aR rfl]at h2
   #nz (by rw[h2];#F.sub own ho)
def Cj {own:Str}(F:Fits bs ins)(l2:bs~<=2)(il:ins~<=2)(ho:own∈ins):i4 bs ins bs (ins.filter λx=>!decide (x=own)):=by
 #⟨⟨F.nd,F.len,F.sz,F.ind.filter _,λx hx=>F.sub x (List.mem_filter.mp hx).1,aeg (aeQ _ _) F.ilen⟩,λh=>?_⟩
 !hm:own∈ins.filter λx=>!decide (x=own):=by rw[h.1];#ho
 !:=(List.mem_filter.mp hm).2
 simp at this
def FZ (F:Fits bs ins)(l2:bs~<=2)(il:ins~<=2)(h1:1<ins~):i4 bs ins bs ins.reverse:=by
 #⟨⟨F.nd,F.len,F.sz,(List.pairwise_reverse.mpr (F.ind.imp λh=>h.symm)),λx hx=>F.sub x (List.mem_reverse.mp hx),by rw[agR];#F.ilen⟩,λh=>?_⟩
 match ins,F.ind,h1,il,h.1 with
 | [a,b],nd,_,_,e=>
   have e:[b,a]=[a,b]:=e
   injection e with e _
   #aw e (λz=>(List.nodup_cons.mp nd).1 (by rw[z];#List.mem_singleton.mpr rfl))
end
abbrev oA:Stmt:=top 69
def di {F:L2.St->Hp->Prop}{σ:L2.St}{H:Hp}(σ':L2.St)(e:σ=σ')(h:F σ' H):F σ H:=by subst e;#h
def wm {α:Type}(x y:Str)(a b:α):(if decide (V.str x=V.str y)=true then a else b)=if x=y then a else b:=by
 by_cases c:x=y
 . rw[aR c,aR (ed (by rw[c]))]
 . rw[aM c,aM λz=>c (by !:=cU z;injection this)]
def IA (x own:Str):hW ([V.str x,V.str "zz"]:O V) (if decide (V.str x=V.str own)=true then 1 else 0)=S (.str (if x=own then "zz" else x)):=by
 rw[wm]
 by_cases c:x=own
 . rw[aR c,aR c];rfl
 . rw[aM c,aM c];rfl
structure wG (fo:J)(bs:ag)(ins:O Str)(H:Hp)(u:V):Prop where
 ex:∃p B I N vb vn b3 i3 n3,u=.ref p/\H p=S (.tup [.ref B,.ref I,.ref N])/\H B=S (.lst vb)/\H I=S (.lst (i3.map V.str))/\H N=S (.lst vn)/\Paired (cE H) vb b3/\Paired (bZ H) vn n3/\B≠fo/\I≠fo/\N≠fo/\i4 bs ins b3 i3
section
variable{fo:J}{bs:ag}{ins:O Str}{H Hx H1:Hp}{u:V}
def wG.of {b3:ag}{i3:O Str}{n3:O Nd}(h:aN H u b3 i3 n3)(hf:H fo=Z)(o:i4 bs ins b3 i3):wG fo bs ins H u:=by
 @⟨p,B,I,N,vb,vn,h0,h1,h2,h3,h4,h5,h6⟩:=h
 #⟨p,B,I,N,vb,vn,b3,i3,n3,h0,h1,h2,h3,h4,h5,h6,ai h2 hf,ai h3 hf,ai h4 hf,o⟩
def wG.same (h:wG fo bs ins H u)(s:ak H Hx):wG fo bs ins Hx u:=by
 @⟨p,B,I,N,vb,vn,b3,i3,n3,h0,h1,h2,h3,h4,h5,h6,h7⟩:=h
 #⟨p,B,I,N,vb,vn,b3,i3,n3,h0,s _ _ h1,s _ _ h2,s _ _ h3,s _ _ h4,Paired.aP h5 λy y z=>Tp.keep (ak.tk s) z,Paired.aP h6 λy y z=>bZ.keep (ak.tk s) z,h7⟩
def wG.put {us XX:O V}(h:wG fo bs ins H u)(hf:H fo=S (.lst us)):wG fo bs ins (upd H fo (.lst XX)) u:=by
 @⟨p,B,I,N,vb,vn,b3,i3,n3,h0,h1,h2,h3,h4,h5,h6,n1,n2,W6,o⟩:=h
 !k:TK H (upd H fo (.lst XX)):=TK.lst hf
 #⟨p,B,I,N,vb,vn,b3,i3,n3,h0,k _ _ h1,by rw[aj n1];show h2,by rw[aj n2];show h3,by rw[aj W6];#h4,Paired.aP h5 λy y z=>Tp.keep k z,Paired.aP h6 λy y z=>bZ.keep k z,n1,n2,W6,o⟩
structure lS (H:Hp)(bs:ag)(ins:O Str)(fo:J)(n:Nat)(Hx:Hp):Prop where
 s:ak H Hx
 ex:∃us,Hx fo=S (.lst us)/\us~<=n/\∀u∈us,wG fo bs ins Hx u
def lS.app {n m:Nat}(hf:H fo=Z)(h:lS H bs ins fo n Hx)(s:ak Hx H1)(hm:n+1<=m)(a:wG fo bs ins H1 u):∃us,H1 fo=S (.lst us)/\us~<=n/\lS H bs ins fo m (upd H1 fo (.lst (us++[u]))):=by
 @⟨us,hu,hl,al⟩:=h.ex
 !tU:=s _ _ hu
 #⟨us,tU,hl,aE (aa h.s s) hf,_,ae,by rw[ad7];change us~+1<=_;lia,λv hv=>?_⟩
 rcases eI hv with z|z
 . #((al v z).same s).put tU
 . rw[cR z];#a.put tU
def lS.more {n m:Nat}(h:lS H bs ins fo n Hx)(hm:n<=m):lS H bs ins fo m Hx:=let⟨us,hu,hl,al⟩:=h.ex;⟨h.s,us,hu,by lia,al⟩
end
def uQ:Sp:=λvs H Q z=>∃(v:V) (bs:ag) (ins:O Str) (nds:O Nd),vs=[v]/\aN H v bs ins nds/\Fits bs ins/\bs~<=2/\ins~<=2/\("w":Str)∉bs.map (·.1)/\("zz":Str)∉bs.map (·.1) /\
 ∀(l:J) (us:O V) (H':Hp),ak H H'->H' l=S (.lst us)->us~<=20->(∀u∈us,∃b3 i3 n3,aN H' u b3 i3 n3/\i4 bs ins b3 i3)->Q (.ref l) H'
def jl:aA ["program","boxes","inputs","nodes","found","own","called"] ["program"] (ao oA):=dX
def EX {f:J}{fd:aef}(F:cF K "_law_strangers" "_law_strangers" oA f fd)(m_int:mg "int"=Z)(m_len:mg "len"=Z):aL P w K mg base cm 1 f fd ["program"] uQ:=by
 #F.eO jl λcdv A outer s H vs Q E hr h=>?_
 @⟨v,bs,ins,nds,rfl,⟨p,B,I,N,vb,vn,rfl,hp,hB,hI,hN,pb,pn⟩,F,L8,il,nw,nz,q⟩:=h
 !vl:=Paired.length pb
 #f7 ⟨_,(aiz (ajg (Y 0) (aiT 3 (aiI (aiC 1 jl.nd) (aiI (aiC 2 jl.nd) (aiI (aiC 3 jl.nd) aiU)))))
   (aiz (aiL 4 jl.nd (aiO (L (aiG (L (aiB ajd (Y 1) (aiO (L (aiG (L aiD (L aix M))) M))) (L (aiB ajd (Y 2) (aiO (L aiD M))) (L (Y 3) M)))) (L (aiG (L (aiB ajd (Y 1) (aiO (L (aiG (L aiD (L aix M))) M))) (L (aiB ajd (aiO (L aiD M)) (Y 2)) (L (Y 3) M)))) M))))
   (aiz (ai0 (aiW (Y 2)) (aiC 5 jl.nd) (aiz (ai3 (ajf (Y 4) (L (aiG (L (aiY [Z,Z,S 5] ["name","size","own"] (ij oA) U (aiW (Y 1)) (λy y y y y=>⟨(aiT 2 (aiI (aiC 0 (dW ["name","size","own"])) (aiI (aiC 1 (dW ["name","size","own"])) aiU))),aiV,(aiG (L (Y 0) (L (aiB aiZ (Y 1) (ai2 ajs U m_int (by right) (L (ai4 aiR (Y 0) (Y 2)) M))) M)))⟩)) (L (Y 2) (L (Y 3) M)))) M)))
   (aiz (ajn (i:=6) [Z,Z,S 5] ["name","size","own"] (ij oA) U (aiW (Y 1)) (λy y y y y=>⟨(aiT 2 (aiI (aiC 0 (dW ["name","size","own"])) (aiI (aiC 1 (dW ["name","size","own"])) aiU))),aiV,(aiG (L (aiy aiH (aiO (L (Y 0) (L aiD M))) (ai2 ajs U m_int (by right) (L (ai4 aiR (Y 0) (Y 2)) M))) (L (Y 1) M)))⟩) jl.nd)
   (aiz (ai3 (ajf (Y 4) (L (aiG (L (Y 6) (L (aiY [Z,S 5] ["name","own"] (ij oA) U (aiW (Y 2)) (λy y y y y=>⟨(aiC 0 (dW ["name","own"])),aiV,(aiy aiH (aiO (L (Y 0) (L aiD M))) (ai2 ajs U m_int (by right) (L (ai4 aiR (Y 0) (Y 1)) M)))⟩)) (L (aiO (L (aiG (L aiD M)) M)) M)))) M)))
   (aiA (ai3 (ajf (Y 4) (L (aiG (L (Y 1) (L (aiY [Z,S 5] ["name","own"] (ij oA) U (aiW (Y 2)) (λy y y y y=>⟨(aiC 0 (dW ["name","own"])),(L3.if1 (aiK L3.JT (Y 0) (Y 1))),(Y 0)⟩)) (L (Y 3) M)))) M))))))))
   (aiz (aiM (aiK L3.Ew (aiS aiX U m_len aeo (L (Y 2) M)) aix) (aiA (ai3 (ajf (Y 4) (L (aiG (L (Y 1) (L (L3.P4 (Y 2) (ajz aix)) (L (Y 3) M)))) M)))) aiN)
   (aiA (aiF (Y 4))))))),?_⟩
 #bC λRk kR=>?_
 #af U ?_
 #LS hp ?_
 #kR _ _ ?_
 #di [S (.ref p),S (.ref B),S (.ref I),S (.ref N),Z,Z,Z] U ?_
 #bC λRk kR=>?_
 !s00:=same_refl H
 #bu U akA (λw1 UA=>?_)
 @⟨Ha1,sa1,ZG,zz⟩:=aK UA (.tup [.str "w",.int 2])
 rw[zz];clear zz
 #⟨akz,λl1 hl1=>?_⟩
 @⟨Yg,sb1,Wm,zz⟩:=aK hl1 (.lst [.ref w1])
 rw[zz];clear zz
 !Xz:=aa sa1 sb1
 #⟨B,l1,aJ U U ⟨Xz _ _ (s00 _ _ hB),Wm,aeg (show _<=3 by change vb~+1<=3;lia) (by left),λB1 qO=>?_⟩⟩
 @⟨Hc1,jm,ZI,zz⟩:=aK qO (.lst (vb++[.ref w1]))
 rw[zz];clear zz
 !XH:=aa Xz jm
 !se1:=aa s00 XH
 !ZV:=jm _ _ (sb1 _ _ ZG)
 #bu U akz (λm1 hm1=>?_)
 @⟨Hd1,XC,Ni,zz⟩:=aK hm1 (.lst [.str "w"])
 rw[zz];clear zz
 #⟨I,m1,aJ U U ⟨XC _ _ (se1 _ _ hI),Ni,aeg (show _<=3 by rw[ad1];change ins~+1<=3;lia) (by left),λI1 hI1=>?_⟩⟩
 @⟨He1,si1,ZO,zz⟩:=aK hI1 (.lst (ins.map V.str++[.str "w"]))
 rw[zz];clear zz
 #bu U akB (λt1 Ut=>?_)
 @⟨Yj,XM,ZT,zz⟩:=aK Ut (.tup [.ref B1,.ref I1,.ref N])
 rw[zz];clear zz
 !Ru:=aa (aa XC si1) XM
 !F5:=aa se1 Ru
 !sf1:=aa XH Ru
 !Ky:aN Yj (.ref t1) (bs++[(("w":Str),(2:Int))]) (ins++[("w":Str)]) nds:=⟨t1,B1,I1,N,vb++[.ref w1],vn,rfl,ZT,Ru _ _ ZI,by rw[XM _ _ ZO];rw[aeb];rfl,F5 _ _ hN,Paired.snoc (Paired.aP pb λy y z=>Tp.keep (ak.tk F5) z) ⟨w1,rfl,Ru _ _ ZV⟩,Paired.aP pn λy y z=>bZ.keep (ak.tk F5) z⟩
 !se1:=F5
 #bu U akA (λw2 hw2=>?_)
 @⟨Ha2,sa2,ZH,zz⟩:=aK hw2 (.tup [.str "w",.int 2])
 rw[zz];clear zz
 #⟨akz,λl2 hl2=>?_⟩
 @⟨Yh,sb2,QM,zz⟩:=aK hl2 (.lst [.ref w2])
 rw[zz];clear zz
 !XA:=aa sa2 sb2
 #⟨B,l2,aJ U U ⟨XA _ _ (se1 _ _ hB),QM,aeg (show _<=3 by change vb~+1<=3;lia) (by left),λB2 Jf=>?_⟩⟩
 @⟨Hc2,lF,ZJ,zz⟩:=aK Jf (.lst (vb++[.ref w2]))
 rw[zz];clear zz
 !XI:=aa XA lF
 !se2:=aa se1 XI
 !Ss:=lF _ _ (sb2 _ _ ZH)
 #⟨akz,λm2 hm2=>?_⟩
 @⟨Hd2,XD,Nj,zz⟩:=aK hm2 (.lst [.str "w"])
 rw[zz];clear zz
 #af U ⟨m2,I,aJ U U ⟨Nj,XD _ _ (se2 _ _ hI),aeg (show _<=3 by rw[ad1];change 1+ins~<=3;lia) (by left),λI2 zK=>?_⟩⟩
 @⟨He2,si2,ZP,zz⟩:=aK zK (.lst ([.str "w"]++ins.map V.str))
 rw[zz];clear zz
 #bu U akB (λt2 Uu=>?_)
 @⟨RE,XN,ZU,zz⟩:=aK Uu (.tup [.ref B2,.ref I2,.ref N])
 rw[zz];clear zz
 !Rv:=aa (aa XD si2) XN
 !F5:=aa se2 Rv
 !sf2:=aa XI Rv
 !OP:aN RE (.ref t2) (bs++[(("w":Str),(2:Int))]) (("w":Str)::ins) nds:=⟨t2,B2,I2,N,vb++[.ref w2],vn,rfl,ZU,Rv _ _ ZJ,by rw[XN _ _ ZP];rfl,F5 _ _ hN,Paired.snoc (Paired.aP pb λy y z=>Tp.keep (ak.tk F5) z) ⟨w2,rfl,Rv _ _ Ss⟩,Paired.aP pn λy y z=>bZ.keep (ak.tk F5) z⟩
 !se2:=F5
 !Ky:=Ky.same sf2
 #⟨akA,λfo Mm=>?_⟩
 !Vz:lS H bs ins fo 2 (upd RE fo (.lst [.ref t1,.ref t2])):=⟨aa se2 (ah Mm _),_,ae,ad5 _,λu hu=>wG.same (by
   rcases cZ hu with z|z
   . rw[z];#wG.of Ky Mm (wo F L8 il nw)
   . rw[cR z];#wG.of OP Mm (yz F L8 il nw)) (ah Mm _)⟩
 !Ml:=aq se2 Mm
 !hff:=Mm
 generalize upd RE fo (.lst [.ref t1,.ref t2])=Hg at Vz ⊢
 #aS (kR _ _ ?_)
 #di [S (.ref p),S (.ref B),S (.ref I),S (.ref N),S (.ref fo),Z,Z] U ?_
 !nB:B≠fo:=ai hB Ml
 !nI:I≠fo:=ai hI Ml
 !nN:N≠fo:=ai hN Ml
 !ext:∀{Hx Hy:Hp} {n m:Nat} {B3 I3 N3 t:J} {vt Rz:O V} {b3:ag} {i3:O Str} {n3:O Nd},lS H bs ins fo n Hx->n+1<=m->ak Hx Hy->B3≠fo->I3≠fo->N3≠fo->Hy B3=S (.lst vt)->Hy I3=S (.lst (i3.map V.str))->Hy N3=S (.lst Rz)->Paired (cE Hy) vt b3->Paired (bZ Hy) Rz n3->i4 bs ins b3 i3->Hy t=Z->∃us,(upd Hy t (.tup [.ref B3,.ref I3,.ref N3])) fo=S (.lst us)/\us~<=n/\lS H bs ins fo m (upd (upd Hy t (.tup [.ref B3,.ref I3,.ref N3])) fo (.lst (us++[.ref t]))):=λ{Hx Hy n m B3 I3 N3 t vt Rz b3 i3 n3} st hm s k1 k2 k3 h1 h2 h3 h4 h5 o ht=>by
   !s2:ak Hy (upd Hy t (.tup [.ref B3,.ref I3,.ref N3])):=ah ht _
   #st.app Ml (aa s s2) hm ⟨t,B3,I3,N3,vt,Rz,b3,i3,n3,U,ae,s2 _ _ h1,s2 _ _ h2,s2 _ _ h3,Paired.aP h4 λy y z=>Tp.keep (ak.tk s2) z,Paired.aP h5 λy y z=>bZ.keep (ak.tk s2) z,k1,k2,k3,o⟩
 !pbs:∀{Hx:Hp},ak H Hx->Paired (cE Hx) vb bs:=λs=>Paired.aP pb λy y h=>Tp.keep (ak.tk s) h
 !pns:∀{Hx:Hp},ak H Hx->Paired (bZ Hx) vn nds:=λs=>Paired.aP pn λy y h=>bZ.keep (ak.tk s) h
 #bC λRk kR=>?_
 #af U (bu U ⟨_,aB.of (Vz.s _ _ hI)⟩ ?_)
 #dz (xs:=ins.map V.str) (λi σ Hx=>(∃o5 o6,σ=[S (.ref p),S (.ref B),S (.ref I),S (.ref N),S (.ref fo),o5,o6])/\lS H bs ins fo (2+3*i) Hx) ⟨⟨_,_,U⟩,Vz⟩ (λi σ Hx y z=>aB.of (z.2.s _ _ hI)) (λi x σ Hx hx z=>?_) (λσ Hx z=>?_)
 . @⟨⟨o5,o6,rfl⟩,st⟩:=z
   @⟨own,N0,rfl⟩:=aX hx
   !T3:=ad4 N0
   !iil:i<ins~:=(aH N0)
   #aS ?_
   #di [S (.ref p),S (.ref B),S (.ref I),S (.ref N),S (.ref fo),S (.str own),o6] U ?_
   #bC λRj kj=>?_
   @⟨LU,xD,-⟩:=id st.ex
   #af U ⟨.inl ⟨U,_,aB.of xD⟩,?_⟩
   #af U (bu U ⟨_,aB.of (st.s _ _ hB)⟩ (λta GN=>?_))
   #aV (xs:=vb) (λi H8=>ak Hx H8/\∃vt,H8 ta=S (.lst vt)/\Paired (cE H8) vt ((bs.take i).map λb=>(b.1,b.2+if b.1=own then 1 else 0))) ⟨ah GN _,[],ae,.nil⟩ (λi H8 y z=>aB.of (z.1 _ _ (st.s _ _ hB))) (λi x H8 hx z=>?_) (λH8 z=>?_)
   . @⟨s8,vt,gt,pt⟩:=z
     @⟨b,ik,uk,rfl,pC⟩:=Paired.get pb hx
     !du:i<vb~:=(aH hx)
     !tl:=Paired.length pt
     rw[ad1,aea]at tl
     #nJ (s8 _ _ (st.s _ _ pC)) ?_
     #bQ (A:=λH3=>cB _ ta _ H3 _) ?_
     #af U (af U (af U (af U ⟨U,.inr (af U (aJ U U ⟨akA,λp2 cy=>⟨vt,?_,aD (by lia),aF (Pv:=λi H8=>ak Hx H8/\∃vt,H8 ta=S (.lst vt)/\Paired (cE H8) vt ((bs.take i).map λb=>(b.1,b.2+if b.1=own then 1 else 0))) (by repeat' constructor) du ?_⟩⟩))⟩)))
     . rw[aj (ai gt cy)];#gt
     . #⟨aE (az s8 cy) GN,vt++[.ref p2],ae,?_⟩
       rw[aec,ik,aeb]
       !h4:(upd H8 p2 (.tup [.str b.1,.int (b.2+if decide (V.str b.1=V.str own)=true then 1 else 0)])) ta=S (.lst vt):=by rw[aj (ai gt cy)];#gt
       #Paired.snoc (Paired.aP pt λy y h=>Tp.keep ((aG cy _).trans (TK.lst h4)) h) ⟨p2,U,?_⟩
       rw[aj (ai gt cy).symm,ae]
       rw[wm]
   @⟨s8,vt,gt,pt⟩:=z
   rw[vl,aed]at pt
   #af U (bu U akB (λt3 ht3=>?_))
   !s08:=aa st.s s8
   @⟨us,e1,e2,r9⟩:=ext (m:=2+3*i+1) (i3:=ins) st (ad5 _) s8 (ai xD GN).symm nI nN gt (s08 _ _ hI) (s08 _ _ hN) pt (pns s08) (Ck F L8 il T3) ht3
   #⟨fo,us,.ref t3,U,U,e1,aD (by lia),?_⟩
   generalize upd (upd H8 t3 _) fo _=Hk at r9 ⊢
   #kj _ _ ?_
   #bC λRj kj=>?_
   @⟨LU,xD,-⟩:=id r9.ex
   #af U (bu U ⟨_,aB.of (r9.s _ _ hB)⟩ (λtb Uv=>?_))
   #aV (xs:=vb) (λi H8=>ak Hk H8/\∃vt,H8 tb=S (.lst vt)/\Paired (cE H8) vt ((bs.take i).map λb=>(if b.1=own then("zz":Str)else b.1,b.2))) ⟨ah Uv _,[],ae,.nil⟩ (λi H8 y z=>aB.of (z.1 _ _ (r9.s _ _ hB))) (λi x H8 hx z=>?_) (λH8 z=>?_)
   . @⟨s8,vt,gt,pt⟩:=z
     @⟨b,ik,uk,rfl,pC⟩:=Paired.get pb hx
     !du:i<vb~:=(aH hx)
     !tl:=Paired.length pt
     rw[ad1,aea]at tl
     #nJ (s8 _ _ (r9.s _ _ pC)) ?_
     #bQ (A:=λH3=>cB _ tb _ H3 _) ?_
     #bu U akA (λu hu=>?_)
     @⟨H9,s9,g9,zz⟩:=aK hu (.lst [.str b.1,.str "zz"])
     rw[zz];clear zz
     !Nl:=s9 _ _ gt
     #af U (af U ⟨U,.inr (af U ⟨u,_,aJ U U ⟨aB.of g9,IA b.1 own,bu U akA (λp2 cy=>⟨vt,?_,aD (by lia),aF (Pv:=λi H8=>ak Hk H8/\∃vt,H8 tb=S (.lst vt)/\Paired (cE H8) vt ((bs.take i).map λb=>(if b.1=own then("zz":Str)else b.1,b.2))) (by repeat' constructor) du ?_⟩)⟩⟩)⟩)
     . rw[aj (ai Nl cy)];#Nl
     . #⟨aE (az (aa s8 s9) cy) Uv,vt++[.ref p2],ae,?_⟩
       rw[aec,ik,aeb]
       !h4:(upd H9 p2 (.tup [.str (if b.1=own then "zz" else b.1),.int b.2])) tb=S (.lst vt):=by rw[aj (ai Nl cy)];#Nl
       #Paired.snoc (Paired.aP pt λy y h=>Tp.keep (((ak.tk s9).trans (aG cy _)).trans (TK.lst h4)) h) ⟨p2,U,?_⟩
       rw[aj (ai Nl cy).symm,ae]
   @⟨s8,vt,gt,pt⟩:=z
   rw[vl,aed]at pt
   !ntb:=(ai xD Uv).symm
   !s28:=s8
   #aS ?_
   #kj _ _ ?_
   #di [S (.ref p),S (.ref B),S (.ref I),S (.ref N),S (.ref fo),S (.str own),S (.ref tb)] U ?_
   #bC λRj kj=>?_
   #af U ⟨.inl ⟨U,_,aB.of (s8 _ _ xD)⟩,af U ?_⟩
   generalize hHk:H8=Hm at s8 s28 gt pt ⊢
   !Sr:=gt
   !Vl:=pt
   !s1m:=aa r9.s s28
   #af U (bu U ⟨_,aB.of (s1m _ _ hI)⟩ (λtc Uw=>?_))
   #aV (xs:=ins.map V.str) (λi H8=>ak Hm H8/\H8 tc=S (.lst (((ins.take i).map λx=>if x=own then("zz":Str)else x).map V.str))) ⟨ah Uw _,ae⟩ (λi H8 y z=>aB.of (z.1 _ _ (s1m _ _ hI))) (λi x H8 hx z=>?_) (λH8 z=>?_)
   . @⟨s8,gt⟩:=z
     @⟨x,JA,rfl⟩:=aX hx
     !du:i<(ins.map V.str)~:=(aH hx)
     #aS ?_
     #bQ (A:=λH3=>cB _ tc _ H3 _) ?_
     #bu U akA (λu hu=>?_)
     @⟨H9,s9,g9,zz⟩:=aK hu (.lst [.str x,.str "zz"])
     rw[zz];clear zz
     #af U (af U ⟨U,.inr (af U ⟨u,_,aJ U U ⟨aB.of g9,IA x own,_,s9 _ _ gt,aD (by rw[ad1,ad1,aea];lia),aF (Pv:=λi H8=>ak Hm H8/\H8 tc=S (.lst (((ins.take i).map λx=>if x=own then("zz":Str)else x).map V.str))) (by repeat' constructor) du ⟨aE (aa s8 s9) Uw,?_⟩⟩⟩)⟩)
     rw[ae,aec,JA,aeb,aeb]
     rfl
   @⟨s8,gt⟩:=z
   rw[ad1,aed]at gt
   !Sr:=s8 _ _ Sr
   !Vl:=Paired.aP Vl λy y h=>Tp.keep (ak.tk s8) h
   #⟨akz,λe1 NC=>?_⟩
   @⟨Hn,se,ge,zz⟩:=aK NC (.tup [.str "end"])
   rw[zz];clear zz
   #⟨akz,λn1 NV=>?_⟩
   @⟨Hh,sn,gn,zz⟩:=aK NV (.lst [.ref e1])
   rw[zz];clear zz
   !sMN:=aa s8 (aa se sn)
   #⟨akB,λt4 ht4=>?_⟩
   !n1n:n1≠fo:=(ai (se _ _ (s8 _ _ (s28 _ _ xD))) NV).symm
   !tcn:tc≠fo:=(ai (s28 _ _ xD) Uw).symm
   @⟨us,k1,k2,mY⟩:=ext (m:=2+3*i+2) (i3:=ins.map λx=>if x=own then("zz":Str)else x) (n3:=[.fin]) r9 (ad5 _) (aa s28 sMN) ntb tcn n1n ((aa se sn) _ _ Sr) (sn _ _ (se _ _ gt)) gn (Paired.aP Vl λy y h=>Tp.keep (ak.tk (aa se sn)) h) (.cons ⟨e1,rfl,sn _ _ ge⟩ .nil) (Ci F L8 il T3 nz) ht4
   #⟨fo,us,.ref t4,U,U,k1,aD (by lia),?_⟩
   generalize upd (upd Hh t4 _) fo _=Hk at mY ⊢
   #kj _ _ ?_
   @⟨LU,xD,-⟩:=id mY.ex
   #af U ⟨.inl ⟨U,_,aB.of xD⟩,af U ?_⟩
   #af U (bu U ⟨_,aB.of (mY.s _ _ hI)⟩ (λtd Ux=>?_))
   #aV (xs:=ins.map V.str) (λi H8=>ak Hk H8/\H8 td=S (.lst (((ins.take i).filter λx=>!decide (x=own)).map V.str))) ⟨ah Ux _,ae⟩ (λi H8 y z=>aB.of (z.1 _ _ (mY.s _ _ hI))) (λi x H8 hx z=>?_) (λH8 z=>?_)
   . @⟨s8,gt⟩:=z
     @⟨x,JA,rfl⟩:=aX hx
     !du:i<(ins.map V.str)~:=(aH hx)
     !WA:((ins.take i).filter λx=>!decide (x=own))~<=2:=aeg (aeQ _ _) (by rw[aea];lia)
     !dd:decide (V.str x=V.str own)=decide (x=own):=decide_eq_decide.mpr ⟨λz=>by injection z,λz=>by rw[z]⟩
     #aS ?_
     #af U (af U (bB U U ?_))
     rw[dd]
     #aC (λc=>?_) (λc=>?_)
     . #af U ⟨_,gt,aD (by rw[ad1];lia),aF (Pv:=λi H8=>ak Hk H8/\H8 td=S (.lst (((ins.take i).filter λx=>!decide (x=own)).map V.str))) (by repeat' constructor) du ⟨aE s8 Ux,?_⟩⟩
       rw[ae,dG JA,aR c,aeb]
       rfl
     . #aF (Pv:=λi H8=>ak Hk H8/\H8 td=S (.lst (((ins.take i).filter λx=>!decide (x=own)).map V.str))) (by repeat' constructor) du ⟨s8,?_⟩
       rw[dG JA,aM c,aeK]
       #gt
   @⟨s8,gt⟩:=z
   rw[ad1,aed]at gt
   #bu U akB (λt5 ht5=>?_)
   !s08:=aa mY.s s8
   @⟨us,k1,k2,yv⟩:=ext (m:=2+3*(i+1)) (i3:=ins.filter λx=>!decide (x=own)) mY (by lia) s8 nB (ai xD Ux).symm nN (s08 _ _ hB) gt (s08 _ _ hN) (pbs s08) (pns s08) (Cj F L8 il T3) ht5
   #⟨fo,us,.ref t5,U,U,k1,aD (by lia),⟨_,_,U⟩,yv⟩
 @⟨⟨o5,o6,rfl⟩,st⟩:=z
 rw[ad1]at st
 !st:=st.more (show 2+3*ins~<=8 by lia)
 #kR _ _ ?_
 !fin:∀Hz,lS H bs ins fo 9 Hz->Q (.ref fo) Hz:=λHz h=>by
   @⟨us,h1,h2,h3⟩:=h.ex
   #q fo us Hz h.s h1 (by lia) λu hu=>?_
   @⟨p,B,I,N,vb,vn,b3,i3,n3,k0,k1,k2,k3,k4,k5,k6,_,_,_,o⟩:=h3 u hu
   #⟨b3,i3,n3,⟨p,B,I,N,vb,vn,k0,k1,k2,k3,k4,k5,k6⟩,o⟩
 #bC λRk kR=>?_
 #af U (aJ U (.inl (aB.of (st.s _ _ hI))) (aJ U U (af U ?_)))
 #aC (λc=>?_) (λc=>?_)
 . !c1:1<ins~:=by !:=cU c;rw[ad1]at this;lia
   @⟨LU,xD,-⟩:=id st.ex
   #af U ⟨.inl ⟨U,_,aB.of xD⟩,af U (af U (af U ⟨U,aJ U (aB.of (st.s _ _ hI)) (λi1 yK=>?_)⟩))⟩
   rw[← agy]
   @⟨Hi,si,gi,zz⟩:=aK yK (.lst (ins.reverse.map V.str))
   rw[zz];clear zz
   !s09:=aa st.s si
   #bu U akB (λt6 ht6=>?_)
   @⟨us,k1,k2,Ii⟩:=ext (m:=9) (i3:=ins.reverse) st (ad5 _) si nB (ai xD yK).symm nN (s09 _ _ hB) gi (s09 _ _ hN) (pbs s09) (pns s09) (FZ F L8 il c1) ht6
   #⟨fo,us,.ref t6,U,U,k1,aD (by lia),?_⟩
   #kR _ _ (af U (fin _ Ii))
 . #kR _ _ (af U (fin _ (st.more (by left))))
abbrev FO:Stmt:=top 68
def iI {P:V->Prop}{xs:O V}{r:Int}(h0:0<=r)(h1:r<(xs~:Int))(h:∀x∈xs,P x):∃x,hW xs r=S x/\P x:=let⟨x,h2,h3⟩:=va h0 h1;⟨x,h3,h x (ad4 h2)⟩
def fu {k n:Int}(h:0<n):0<=k%n:=aeD _ (by lia)
def gQ {k n:Int}(h:0<n):k%n<n:=aeu _ h
def pE {a b:Int}(c:decide (V.int a=V.int b)=true):a=b:=by !:=cU c;injection this
def pH {a b:Int}(c:¬ decide (V.int a=V.int b)=true):a≠b:=λz=>c (ed (by rw[z]))
def SE (b1 b2:ag)(S8:E->Prop)(d:Nat)(A:Prop)(H:Hp)(v:V):Prop:=∃e,dP H v e/\S8 e/\e.okIn lg/\e.dep<=d/\(e.okIn (qB b1 b2)↔A)
def SE.keep {b1 b2:ag}{S8:E->Prop}{d:Nat}{A:Prop}{H H':Hp}{v:V}(h:SE b1 b2 S8 d A H v)(k:TK H H'):SE b1 b2 S8 d A H' v:=by@⟨e,h1,h2⟩:=h;#⟨e,h1.keep k,h2⟩
def SE.iff {b1 b2:ag}{S8:E->Prop}{d:Nat}{A B:Prop}{H:Hp}{v:V}(h:SE b1 b2 S8 d A H v)(k:A↔B):SE b1 b2 S8 d B H v:=by@⟨e,h1,h2,h3,h4,h5⟩:=h;#⟨e,h1,h2,h3,h4,h5.trans k⟩
abbrev OB (c:E):Prop:=c.kX/\∀W,c.holds W=false
abbrev Gd (w:Str):Prop:=qX (.str w) [.str "mine",.str "yours",.str "both",.str "end"]=true
structure Gk (b1 b2:ag)(n1 n2:O Nd):Prop where
 l1:b1~<=2
 l2:b2~<=2
 o1:1<=n1~
 o2:1<=n2~
 qq:("qq":Str)∉b1.map (·.1)
 yo:("yours":Str)∉b1.map (·.1)
 zz:("zz":Str)∉b2.map (·.1)
structure yV (b1 b2:ag)(n1 n2:O Nd)(nb:Bool)(f:Ef):Prop where
 p:LY f 10
 c:f.e.c.kX
 w:f.wait.i5
 nv:∀W,f.e.c.holds W=false
 fit:nb=true↔¬ oO b1 b2 n1 n2 f 10
def BZ:Sp:=λvs H Q z=>∃(v1 v2:V) (r:J) (far:Int) (b1 b2:ag) (ins:O Str) (n1 n2:O Nd) (row:O Int),vs=[v1,v2,.ref r,.int far]/\aN H v1 b1 ins n1/\aN H v2 b2 ins n2/\Gk b1 b2 n1 n2/\H r=S (.lst (row.map V.int))/\Row (2^30) row 7/\0<=far /\
 ∀(t e:J) (nb:Bool) (f:Ef) (H':Hp),ak H H'->H' t=S (.tup [.ref e,.bl nb])->fO H' (.ref e) f->yV b1 b2 n1 n2 nb f->Q (.ref t) H'
def DH {b1 b2:ag}{n1 n2:O Nd}{p q x0 x3:Int}{who:Str}{c w:E}(hp:(0<=p/\p<(n1~:Int))↔x0%6≠1)(hq:(0<=q/\q<(n2~:Int))↔x0%6≠2)(hw:Gd who↔x0%6≠3)(tc:c.okIn lg)(tw:w.okIn lg)(dc:c.dep<=2)(dw:w.dep<=2)(ic:c.kX)(iw:w.i5)(nv:∀W,c.holds W=false)(oc:c.okIn (qB b1 b2)↔(x3%4≠1->¬ 3<x0%6))(ow:w.okIn (qB b1 b2)↔(x3%2=1->¬ 3<x0%6)):yV b1 b2 n1 n2 (decide (0<x0%6)) ⟨⟨p,q,c⟩,who,w⟩:=by
 #⟨⟨tc,by change c.dep<10;lia,tw,by change w.dep<10;lia⟩,ic,iw,nv,?_⟩
 rw[decide_eq_true_iff]
 !m6:=fu (k:=x0) (n:=6) (by left)
 constructor
 . rintro h ⟨a,b,z⟩
   !e1:p=(a:Int):=z.ep
   !e2:q=(b:Int):=z.eq
   !h1:=hp.mp ⟨by lia,by !:=z.pl;lia⟩
   !h2:=hq.mp ⟨by lia,by !:=z.ql;lia⟩
   !h3:=hw.mp z.who
   !h4:=oc.mp z.ok
   !h5:=ow.mp z.okw
   by_cases k:x3%4=1
   . !:=h5 (by lia);lia
   . !:=h4 k;lia
 . intro h
   #Int.not_le.mp λz=>h ?_
   @⟨p0,p1⟩:=hp.mpr (by lia)
   @⟨q0,q1⟩:=hq.mpr (by lia)
   #⟨p.toNat,q.toNat,(by change p=_;lia),(by change q=_;lia),by lia,by lia,hw.mpr (by lia),oc.mpr (λy=>by lia),(by change c.dep<10;lia),ow.mpr (λy=>by lia),(by change w.dep<10;lia)⟩
def fL:aA ["one","other","row","far","names","good","bad","box","never","wait","p","q","who"] ["one","other","row","far"] (ao FO):=dX
def J4 {f:J}{fd:aef}(F:cF K "_law_entry" "_law_entry" FO f fd)(m_int:mg "int"=Z)(m_len:mg "len"=Z):aL P w K mg base cm 1 f fd ["one","other","row","far"] BZ:=by
 #F.ok fL (λvs H Q Ex h=>?_) (λcdv A outer s H vs Q Ex n8 h=>?_)
 . @⟨v1,v2,r,far,b1,b2,ins,n1,n2,row,rfl,_⟩:=h
   rfl
 . @⟨v1,v2,r,far,b1,b2,ins,n1,n2,row,rfl,⟨p1,B1,I1,N1,F9,yF,rfl,nZ,qO,hI1,C7,uk,MH⟩,⟨p2,B2,I2,N2,Qn,vn2,rfl,cy,Jf,zK,DR,OT,MI⟩,pre,hr,hR,f0,q⟩:=h
   @⟨x0,a0,_⟩:=hR.at (i:=0) (by left) (by left)
   @⟨x1,a1,_⟩:=hR.at (i:=1) (by left) (by left)
   @⟨x2,a2,_⟩:=hR.at (i:=2) (by left) (by left)
   @⟨x3,a3,_⟩:=hR.at (i:=3) (by left) (by left)
   @⟨x4,a4,_⟩:=hR.at (i:=4) (by left) (by left)
   @⟨x5,a5,_⟩:=hR.at (i:=5) (by left) (by left)
   !l1:=pre.l1
   !l2:=pre.l2
   !o1:=pre.o1
   !o2:=pre.o2
   !X0:=Paired.length uk
   !X1:=Paired.length OT
   !nl1:=Paired.length MH
   !nl2:=Paired.length MI
   #f7 ⟨_,(aiz (aiL 4 fL.nd (aiB ajd (aiY [Z,Z] ["name","size"] (ij FO) U (aiW (aiy aiE (Y 0) aix)) (λy y y y y=>⟨(aiT 2 (aiI (aiC 0 (dW ["name","size"])) (aiI (aiC 1 (dW ["name","size"])) aiU))),aiV,(aiG (L aiD (L (Y 0) M)))⟩)) (aiY [Z,Z] ["name","size"] (ij FO) U (aiW (aiy aiE (Y 1) aix)) (λy y y y y=>⟨(aiT 2 (aiI (aiC 0 (dW ["name","size"])) (aiI (aiC 1 (dW ["name","size"])) aiU))),aiV,(aiG (L aiD (L (Y 0) M)))⟩))))
     (aiz (aiL 5 fL.nd (aiy aiH (aiB ajd (Y 4) (aiO (L (aiG (L aiD (L aix M))) M))) (aiB aiQ (aiy aiH (Y 2) aix) (aiB aiZ (aiS aiX U m_len aeo (L (Y 4) M)) aix))))
     (aiz (aiL 6 fL.nd (aiy aiH (aiO (L (aiG (L aiD (L aiD M))) (L (aiG (L aiD (L aiD M))) (L (aiG (L aiD (L aiD M))) M)))) (aiB aiQ (aiy aiH (Y 2) aix) aix)))
     (aiz (aiL 7 fL.nd (aiy aiH (aiO (L (Y 5) (L (Y 6) M))) (ai2 ajs U m_int (by right) (L (ai4 L3.Ew (aiB aiQ (aiy aiH (Y 2) aix) aix) aix) M))))
     (aiz (aiL 8 fL.nd (aiG (L aiD (L (aiG (L aiD (L (Y 7) (L (Y 5) M)))) (L (aiG (L aiD (L (aiG (L aiD M)) M))) M)))))
     (aiz (aiL 9 fL.nd (aiy aiH (aiO (L (aiG (L aiD (L aix M))) (L (aiG (L aiD (L (aiG (L aiD (L (aiG (L aiD (L aix M))) (L (Y 7) M)))) (L (Y 5) M)))) M))) (aiB aiQ (aiy aiH (Y 2) aix) aix)))
     (aiz (aiM (aiK aiR (aiB aiQ (aiy aiH (Y 2) aix) aix) aix) (aiA (aiL 8 fL.nd (aiG (L aiD (L (aiG (L aiD M)) M))))) aiN)
     (aiz (aiL 10 fL.nd (aiB aiQ (aiy aiH (Y 2) aix) (aiS aiX U m_len aeo (L (aiy aiE (Y 0) aix) M))))
     (aiz (aiL 11 fL.nd (aiB aiQ (aiy aiH (Y 2) aix) (aiS aiX U m_len aeo (L (aiy aiE (Y 1) aix) M))))
     (aiz (aiL 12 fL.nd (aiy aiH (aiO (L aiD (L aiD (L aiD (L aiD M))))) (aiB aiQ (aiy aiH (Y 2) aix) aix)))
     (aiz (aiM (aiK aiR (aiB aiQ (aiy aiH (Y 2) aix) aix) aix) (aiA (aiL 10 fL.nd (aiy aiH (aiO (L (aiB ajm (ajz aix) (Y 3)) (L (aiB aiZ (aiS aiX U m_len aeo (L (aiy aiE (Y 0) aix) M)) (Y 3)) (L (ajz aix) (L (aiS aiX U m_len aeo (L (aiy aiE (Y 0) aix) M)) M))))) (aiB aiQ (aiy aiH (Y 2) aix) aix)))) aiN)
     (aiz (aiM (aiK aiR (aiB aiQ (aiy aiH (Y 2) aix) aix) aix) (aiA (aiL 11 fL.nd (aiy aiH (aiO (L (aiB ajm (ajz aix) (Y 3)) (L (aiB aiZ (aiS aiX U m_len aeo (L (aiy aiE (Y 1) aix) M)) (Y 3)) (L (ajz aix) (L (aiS aiX U m_len aeo (L (aiy aiE (Y 1) aix) M)) M))))) (aiB aiQ (aiy aiH (Y 2) aix) aix)))) aiN)
     (aiz (aiM (aiK aiR (aiB aiQ (aiy aiH (Y 2) aix) aix) aix) (aiA (aiL 12 fL.nd (aiy aiH (aiO (L aiD (L aiD (L aiD (L aiD (L aiD M)))))) (aiB aiQ (aiy aiH (Y 2) aix) aix)))) aiN)
     (aiA (aiF (aiG (L (aiG (L (Y 10) (L (Y 11) (L (Y 8) (L (Y 12) (L (Y 9) M)))))) (L (ai4 L3.Ew (aiB aiQ (aiy aiH (Y 2) aix) aix) aix) M)))))))))))))))))),?_⟩
   #bC λRk kR=>?_
   !s00:=same_refl H
   #af U ?_
   #aW (s00 _ _ nZ) U ?_
   #bu U ⟨_,aB.of (s00 _ _ qO)⟩ (λla Mu=>?_)
   #aV (xs:=F9) (λi H8=>ak H H8/\∃vt,H8 la=S (.lst vt)/\vt~<=i/\∀v∈vt,SE b1 b2 E.i5 0 True H8 v) ⟨ah Mu _,[],ae,aeG _,λv hv=>(nomatch hv)⟩ (λi H8 y z=>aB.of (z.1 _ _ (s00 _ _ qO))) (λi x H8 hx z=>?_) (λHa z=>?_)
   . @⟨s8,vt,gt,tl,al⟩:=z
     @⟨b,ik,pb0,rfl,pC⟩:=Paired.get uk hx
     !du:i<F9.length:=(aH hx)
     #nJ (s8 _ _ (s00 _ _ pC)) ?_
     #bQ (A:=λH3=>cB _ la _ H3 _) ?_
     #bu U akA (λu hu=>⟨vt,?_,aD (by lia),aF (Pv:=λi H8=>ak H H8/\∃vt,H8 la=S (.lst vt)/\vt~<=i/\∀v∈vt,SE b1 b2 E.i5 0 True H8 v) (by repeat' constructor) du ?_⟩)
     . rw[aj (ai gt hu)];#gt
     . !h4:(upd H8 u (.tup [.str "mine",.str b.1])) la=S (.lst vt):=by rw[aj (ai gt hu)];#gt
       !tk:=(aG hu (.tup [.str "mine",.str b.1])).trans (TK.lst (o:=.lst (vt++[.ref u])) h4)
       #⟨aE (az s8 hu) Mu,_,ae,by rw[ad7];change vt~+1<=_;lia,λv hv=>?_⟩
       rcases eI hv with z|z
       . #(al v z).keep tk
       . rw[cR z]
         #⟨.box "mine" b.1,⟨u,U,by rw[aj (ai gt hu).symm];#ae⟩,aeh,.inr (.inl rfl),ad5 _,⟨λy=>aeh,λy=>.inl ⟨U,dD ⟨b,ad4 ik,U⟩⟩⟩⟩
   @⟨sla,vtla,Sl,acu,alla⟩:=z
   !s0a:=aa s00 sla
   #af U ?_
   #aW (s0a _ _ cy) U ?_
   #bu U ⟨_,aB.of (s0a _ _ Jf)⟩ (λlb TH=>?_)
   #aV (xs:=Qn) (λi H8=>ak Ha H8/\∃vt,H8 lb=S (.lst vt)/\vt~<=i/\∀v∈vt,SE b1 b2 E.i5 0 True H8 v) ⟨ah TH _,[],ae,aeG _,λv hv=>(nomatch hv)⟩ (λi H8 y z=>aB.of (z.1 _ _ (s0a _ _ Jf))) (λi x H8 hx z=>?_) (λHb z=>?_)
   . @⟨s8,vt,gt,tl,al⟩:=z
     @⟨b,ik,pb0,rfl,pC⟩:=Paired.get OT hx
     !du:i<Qn.length:=(aH hx)
     #nJ (s8 _ _ (s0a _ _ pC)) ?_
     #bQ (A:=λH3=>cB _ lb _ H3 _) ?_
     #bu U akA (λu hu=>⟨vt,?_,aD (by lia),aF (Pv:=λi H8=>ak Ha H8/\∃vt,H8 lb=S (.lst vt)/\vt~<=i/\∀v∈vt,SE b1 b2 E.i5 0 True H8 v) (by repeat' constructor) du ?_⟩)
     . rw[aj (ai gt hu)];#gt
     . !h4:(upd H8 u (.tup [.str "yours",.str b.1])) lb=S (.lst vt):=by rw[aj (ai gt hu)];#gt
       !tk:=(aG hu (.tup [.str "yours",.str b.1])).trans (TK.lst (o:=.lst (vt++[.ref u])) h4)
       #⟨aE (az s8 hu) TH,_,ae,by rw[ad7];change vt~+1<=_;lia,λv hv=>?_⟩
       rcases eI hv with z|z
       . #(al v z).keep tk
       . rw[cR z]
         #⟨.box "yours" b.1,⟨u,U,by rw[aj (ai gt hu).symm];#ae⟩,aeh,.inr (.inr rfl),ad5 _,⟨λy=>aeh,λy=>.inr ⟨U,dD ⟨b,ad4 ik,U⟩⟩⟩⟩
   @⟨Vv,Ga,Sn,acv,allb⟩:=z
   #⟨la,lb,aJ U U ⟨Vv _ _ Sl,Sn,aeg (show _<=4 by lia) (by left),λnm NW=>?_⟩⟩
   @⟨Hc,sc,gc,zz⟩:=aK NW (.lst (vtla++Ga))
   rw[zz];clear zz
   !alN:∀v∈vtla++Ga,SE b1 b2 E.i5 0 True Hc v:=λv hv=>by
     rcases eI hv with z|z
     . #(alla v z).keep ((ak.tk Vv).trans (ak.tk sc))
     . #(allb v z).keep (ak.tk sc)
   !lN:(vtla++Ga)~<=4:=by rw[ad7];lia
   generalize vtla++Ga=vN at alN lN gc
   !sc:=aa s0a (aa Vv sc)
   #aS (kR _ _ ?_)
   #di [S (.ref p1),S (.ref p2),S (.ref r),S (.int far),S (.ref nm),Z,Z,Z,Z,Z,Z,Z,Z] U ?_
   #bC λRk kR=>?_
   #bu U akA (λu hu=>?_)
   @⟨Hd,sd,gd,zz⟩:=aK hu (.tup [.str "number",.int 2])
   rw[zz];clear zz
   #⟨akz,λl hl=>?_⟩
   @⟨He,se,ge,zz⟩:=aK hl (.lst [.ref u])
   rw[zz];clear zz
   #⟨nm,l,aJ U U ⟨se _ _ (sd _ _ gc),ge,aeg (show _<=5 by change vN~+1<=5;lia) (by left),λL8 hL=>?_⟩⟩
   @⟨Hf,sf,gf,zz⟩:=aK hL (.lst (vN++[.ref u]))
   rw[zz];clear zz
   !scf:=aa sd (aa se sf)
   @⟨gv,hgv,Md⟩:=iI (P:=SE b1 b2 E.i5 0 True Hf) (xs:=vN++[.ref u]) (r:=x1%((vN~:Int)+1)) (fu (by lia)) (by rw[ad7];#gQ (by lia)) (λv hv=>by
     rcases eI hv with z|z
     . #(alN v z).keep (ak.tk scf)
     . rw[cR z]
       #⟨.num 2,⟨u,U,sf _ _ (se _ _ gd)⟩,aeh,(by change(2:Int).natAbs<2^100;decide),ad5 _,⟨λy=>aeh,λy=>(by change(2:Int).natAbs<2^100;decide)⟩⟩)
   !sF:=aa sc scf
   #af U ?_
   #bY (sF _ _ hr) a1 ?_
   #af U (aJ U (.inl (aB.of (scf _ _ gc))) (aJ U U (dB U U (by change(0:Int)<(vN~:Int)+1;lia) ?_)))
   #bY gf hgv ?_
   #aS (kR _ _ ?_)
   #di [S (.ref p1),S (.ref p2),S (.ref r),S (.int far),S (.ref nm),S (gv),Z,Z,Z,Z,Z,Z,Z] U ?_
   #bC λRk kR=>?_
   #⟨akA,λu1 tU=>?_⟩
   @⟨Yg,se1,ge1,zz⟩:=aK tU (.tup [.str "mine",.str "qq"])
   rw[zz];clear zz
   #⟨akA,λu2 Df=>?_⟩
   @⟨Yh,se2,ZK,zz⟩:=aK Df (.tup [.str "yours",.str "zz"])
   rw[zz];clear zz
   #⟨akA,λu3 Jx=>?_⟩
   @⟨Hb3,se3,ZL,zz⟩:=aK Jx (.tup [.str "mine",.str "yours"])
   rw[zz];clear zz
   #⟨akB,λL8 hL=>?_⟩
   @⟨Yi,Rq,ZM,zz⟩:=aK hL (.lst [.ref u1,.ref u2,.ref u3])
   rw[zz];clear zz
   !XB:=aa se1 (aa se2 (aa se3 Rq))
   @⟨bv,hbv,YH⟩:=iI (P:=SE b1 b2 E.i5 0 False Yi) (xs:=[.ref u1,.ref u2,.ref u3]) (r:=x2%3) (fu (by left)) (gQ (by left)) (λv hv=>by
     rcases cZ hv with e|hv
     . rw[e];#⟨.box "mine" "qq",⟨u1,rfl,Rq _ _ (se3 _ _ (se2 _ _ ge1))⟩,aeh,.inr (.inl rfl),ad5 _,⟨λh=>h.elim (λz=>pre.qq z.2) (λz=>aw z.1 (by left)),aeS⟩⟩
     rcases cZ hv with e|hv
     . rw[e];#⟨.box "yours" "zz",⟨u2,rfl,Rq _ _ (se3 _ _ ZK)⟩,aeh,.inr (.inr rfl),ad5 _,⟨λh=>h.elim (λz=>aw z.1 (by left)) (λz=>pre.zz z.2),aeS⟩⟩
     . rw[cR hv];#⟨.box "mine" "yours",⟨u3,rfl,Rq _ _ ZL⟩,aeh,.inr (.inl rfl),ad5 _,⟨λh=>h.elim (λz=>pre.yo z.2) (λz=>aw z.1 (by left)),aeS⟩⟩)
   !sB:=aa sF XB
   !Md:=Md.keep (ak.tk XB)
   #af U ?_
   #bY (sB _ _ hr) a2 ?_
   #dB U U (by change(0:Int)<3;decide) ?_
   #bY ZM hbv ?_
   #aS (kR _ _ ?_)
   #di [S (.ref p1),S (.ref p2),S (.ref r),S (.int far),S (.ref nm),S (gv),S (bv),Z,Z,Z,Z,Z,Z] U ?_
   #bC λRk kR=>?_
   #af U (bu U akA (λL8 hL=>?_))
   @⟨Hg,sg,gg,zz⟩:=aK hL (.lst [gv,bv])
   rw[zz];clear zz
   obtain⟨xv,JB,xvA⟩ : ∃xv,hW [gv,bv] (if decide (3<x0%6)=true then 1 else 0)=S xv/\SE b1 b2 E.i5 0 (¬ 3<x0%6) Hg xv:=by
     by_cases c:3<x0%6
     . rw[aR (ed c)];#⟨bv,rfl,(YH.keep (ak.tk sg)).iff ⟨aeS,λz=>z c⟩⟩
     . rw[aM λz=>c (cU z)];#⟨gv,rfl,(Md.keep (ak.tk sg)).iff ⟨λy=>c,λy=>aeh⟩⟩
   !sG:=aa sB sg
   !Md:=Md.keep (ak.tk sg)
   #af U ?_
   #bY (sG _ _ hr) a0 ?_
   #dB U U (by change(0:Int)<6;decide) (aJ U U (.inr (af U ⟨L8,_,aJ U U ⟨aB.of gg,JB,?_⟩⟩)))
   #aS (kR _ _ ?_)
   #di [S (.ref p1),S (.ref p2),S (.ref r),S (.int far),S (.ref nm),S (gv),S (bv),S (xv),Z,Z,Z,Z,Z] U ?_
   @⟨eg,QH,Wc,Wd,eg4,QI⟩:=Md
   @⟨ex,QJ,Wh,Wi,ex4,QK⟩:=xvA
   !QI:=QI.mpr aeh
   #bC λRk kR=>?_
   #af U (bu U akB (λu1 tU=>?_))
   @⟨Hm1,Vx,Ni,zz⟩:=aK tU (.tup [.str "under",xv,gv])
   rw[zz];clear zz
   #⟨akz,λu2 Df=>?_⟩
   @⟨Hm2,Vy,Nj,zz⟩:=aK Df (.tup [.str "yes"])
   rw[zz];clear zz
   #⟨akA,λu3 Jx=>?_⟩
   @⟨Hm3,sm3,So,zz⟩:=aK Jx (.tup [.str "not",.ref u2])
   rw[zz];clear zz
   #⟨akB,λu4 Od=>?_⟩
   @⟨Yk,sm4,Sq,zz⟩:=aK Od (.tup [.str "both",.ref u1,.ref u3])
   rw[zz];clear zz
   !t2:=aa Vy (aa sm3 sm4)
   !tA:=aa Vx t2
   !kA:=ak.tk tA
   !vj:SE b1 b2 OB 2 (¬ 3<x0%6) Yk (.ref u4):=⟨.two .both (.two .under ex eg) (.nt .yes),⟨_,_,⟨u4,rfl,Sq⟩,⟨_,_,⟨u1,rfl,t2 _ _ Ni⟩,QJ.keep kA,QH.keep kA⟩,⟨_,⟨u3,rfl,sm4 _ _ So⟩,⟨u2,rfl,sm4 _ _ (sm3 _ _ Nj)⟩⟩⟩,⟨⟨⟨Wh,Wc⟩,aeh⟩,λW=>agj _⟩,⟨⟨Wi,Wd⟩,aeh⟩,(by change max (max ex.dep eg.dep+1) 1+1<=2;lia),⟨λz=>QK.mp z.1.1,λz=>⟨⟨QK.mpr z,QI⟩,aeh⟩⟩⟩
   !sM:=aa sG tA
   !QH:=QH.keep kA
   !QJ:=QJ.keep kA
   #aS (kR _ _ ?_)
   generalize V.ref u4=cv at vj ⊢
   #di [S (.ref p1),S (.ref p2),S (.ref r),S (.int far),S (.ref nm),S (gv),S (bv),S (xv),S (cv),Z,Z,Z,Z] U ?_
   #bC λRk kR=>?_
   #⟨akA,λu1 tU=>?_⟩
   @⟨Hw1,Vx,Ni,zz⟩:=aK tU (.tup [.str "number",.int 1])
   rw[zz];clear zz
   #⟨akA,λu2 Df=>?_⟩
   @⟨Hw2,Vy,Nj,zz⟩:=aK Df (.tup [.str "number",.int 1])
   rw[zz];clear zz
   #bu U akB (λu3 Jx=>?_)
   @⟨Hw3,sm3,So,zz⟩:=aK Jx (.tup [.str "less",.ref u2,xv])
   rw[zz];clear zz
   #bu U akB (λu4 Od=>?_)
   @⟨Hw4,sm4,Sq,zz⟩:=aK Od (.tup [.str "plus",.ref u3,gv])
   rw[zz];clear zz
   #⟨akA,λL8 hL=>?_⟩
   @⟨RG,Rr,ZS,zz⟩:=aK hL (.lst [.ref u1,.ref u4])
   rw[zz];clear zz
   !t2:=aa Vy (aa sm3 (aa sm4 Rr))
   !tA:=aa Vx t2
   !kA:=ak.tk tA
   obtain⟨wv,MA,CL⟩ : ∃wv,hW [.ref u1,.ref u4] (x3%2)=S wv/\SE b1 b2 E.i5 2 (x3%2=1->¬ 3<x0%6) RG wv:=by
     rcases Int.emod_two_eq x3 with c|c<;>rw[c]
     . #af U ⟨.num 1,⟨u1,U,t2 _ _ Ni⟩,aeh,(by change(1:Int).natAbs<2^100;decide),aeG _,⟨λy h=>aw h (by left),λy=>(by change(1:Int).natAbs<2^100;decide)⟩⟩
     . #af U ⟨.two .plus (.two .less (.num 1) ex) eg,⟨_,_,⟨u4,U,Rr _ _ Sq⟩,⟨_,_,⟨u3,U,Rr _ _ (sm4 _ _ So)⟩,⟨u2,U,Rr _ _ (sm4 _ _ (sm3 _ _ Nj))⟩,QJ.keep kA⟩,QH.keep kA⟩,⟨⟨aeh,Wh⟩,Wc⟩,⟨⟨(by change(1:Int).natAbs<2^100;decide),Wi⟩,Wd⟩,(by change max (max 0 ex.dep+1) eg.dep+1<=2;lia),⟨λz y=>QK.mp z.1.2,λz=>⟨⟨(by change(1:Int).natAbs<2^100;decide),QK.mpr (z rfl)⟩,QI⟩⟩⟩
   #af U ?_
   #bY ((aa sM tA) _ _ hr) a3 ?_
   #dB U U (by change(0:Int)<2;decide) ?_
   #bY ZS MA ?_
   !sW:=aa sM tA
   !vj:=vj.keep kA
   #aS (kR _ _ ?_)
   #di [S (.ref p1),S (.ref p2),S (.ref r),S (.int far),S (.ref nm),S (gv),S (bv),S (xv),S (cv),S (wv),Z,Z,Z] U ?_
   #bC λRk kR=>?_
   suffices hs:∀(cv:V) (Hy:Hp),ak RG Hy->SE b1 b2 OB 2 (x3%4≠1->¬ 3<x0%6) Hy cv->Rk [S (.ref p1),S (.ref p2),S (.ref r),S (.int far),S (.ref nm),S (gv),S (bv),S (xv),S (cv),S (wv),Z,Z,Z] Hy by
     #af U ?_
     #bY (sW _ _ hr) a3 ?_
     #dB U U (by change(0:Int)<4;decide) (bB U U ?_)
     #aC (λc=>?_) (λc=>?_)
     . #⟨akz,λu1 tU=>⟨akA,λu2 Df=>?_⟩⟩
       !g1:=ah Df (.tup [.str "not",.ref u1]) _ _ (ae (H:=RG) (a:=u1) (o:=.tup [.str "yes"]))
       #hs _ _ (az (ah tU _) Df) ⟨.nt .yes,⟨_,⟨u2,U,ae⟩,⟨u1,U,g1⟩⟩,⟨aeh,λW=>rfl⟩,aeh,(by change 1<=2;decide),⟨λy h=>aw (pE c) h,λy=>aeh⟩⟩
     . #hs cv _ (same_refl _) (vj.iff ⟨λz y=>z,λz=>z (pH c)⟩)
   intro cv Hy XJ vj
   #kR _ _ ?_
   !sy:=aa sW XJ
   !CL:=CL.keep (ak.tk XJ)
   #bC λRk kR=>?_
   #af U ?_
   #bY (sy _ _ hr) a4 ?_
   #af U ?_
   #aW (sy _ _ nZ) U ?_
   #aJ U (.inl (aB.of (sy _ _ C7))) (dB U U (by change(0:Int)<(yF~:Int);lia) ?_)
   obtain⟨pz,Wf⟩ : ∃pz,pz=x4%(yF~:Int):=⟨_,rfl⟩
   !YA:0<=pz/\pz<(n1~:Int):=by rw[Wf,← nl1];#⟨fu (by lia),gQ (by lia)⟩
   #aS (kR _ _ ?_)
   #di [S (.ref p1),S (.ref p2),S (.ref r),S (.int far),S (.ref nm),S (gv),S (bv),S (xv),S (cv),S (wv),S (.int pz),Z,Z] (by subst Wf;rfl) ?_
   #bC λRk kR=>?_
   #af U ?_
   #bY (sy _ _ hr) a5 ?_
   #af U ?_
   #aW (sy _ _ cy) U ?_
   #aJ U (.inl (aB.of (sy _ _ DR))) (dB U U (by change(0:Int)<(vn2~:Int);lia) ?_)
   obtain⟨qz,Wg⟩ : ∃qz,qz=x5%(vn2~:Int):=⟨_,rfl⟩
   !YB:0<=qz/\qz<(n2~:Int):=by rw[Wg,← nl2];#⟨fu (by lia),gQ (by lia)⟩
   #aS (kR _ _ ?_)
   #di [S (.ref p1),S (.ref p2),S (.ref r),S (.int far),S (.ref nm),S (gv),S (bv),S (xv),S (cv),S (wv),S (.int pz),S (.int qz),Z] (by subst Wg;rfl) ?_
   #bC λRk kR=>?_
   #⟨akC,λL8 hL=>?_⟩
   @⟨Hj,sj,gj,zz⟩:=aK hL (.lst [.str "mine",.str "yours",.str "both",.str "end"])
   rw[zz];clear zz
   @⟨_,hz,wh,rfl,hwh⟩:=iI (P:=λv=>∃w,v=.str w/\Gd w) (xs:=[.str "mine",.str "yours",.str "both",.str "end"]) (r:=x1%4) (fu (by left)) (gQ (by left)) (λx hx=>by
     rcases cZ hx with e|hx
     . #⟨_,e,U⟩
     rcases cZ hx with e|hx
     . #⟨_,e,U⟩
     rcases cZ hx with e|hx
     . #⟨_,e,U⟩
     . #⟨_,cR hx,U⟩)
   !sy':=aa sy sj
   #af U ?_
   #bY (sy' _ _ hr) a1 ?_
   #dB U U (by change(0:Int)<4;decide) ?_
   #bY gj hz ?_
   !vj:=vj.keep (ak.tk sj)
   !CL:=CL.keep (ak.tk sj)
   !sy:=sy'
   #aS (kR _ _ ?_)
   #di [S (.ref p1),S (.ref p2),S (.ref r),S (.int far),S (.ref nm),S (gv),S (bv),S (xv),S (cv),S (wv),S (.int pz),S (.int qz),S (.str wh)] U ?_
   #bC λRk kR=>?_
   suffices hs:∀(pz:Int) (Hq:Hp),ak Hj Hq->((0<=pz/\pz<(n1~:Int))↔x0%6≠1)->Rk [S (.ref p1),S (.ref p2),S (.ref r),S (.int far),S (.ref nm),S (gv),S (bv),S (xv),S (cv),S (wv),S (.int pz),S (.int qz),S (.str wh)] Hq by
     #af U ?_
     #bY (sy _ _ hr) a0 ?_
     #dB U U (by change(0:Int)<6;decide) (bB U U ?_)
     #aC (λc=>?_) (λc=>?_)
     . #af U (af U (aJ U U (af U ?_)))
       #aW (sy _ _ nZ) U ?_
       #aJ U (.inl (aB.of (sy _ _ C7))) (af U (aJ U U (af U (af U ?_))))
       #aW (sy _ _ nZ) U ?_
       #aJ U (.inl (aB.of (sy _ _ C7))) ⟨akC,λL8 hL=>?_⟩
       !sL:=ah hL (.lst [.int (-1-far),.int ((yF~:Int)+far),.int (-1),.int (yF~:Int)])
       !gL:(upd Hj L8 (.lst [.int (-1-far),.int ((yF~:Int)+far),.int (-1),.int (yF~:Int)])) L8=S (.lst [.int (-1-far),.int ((yF~:Int)+far),.int (-1),.int (yF~:Int)]):=ae
       @⟨_,hz,pv,rfl,UD⟩:=iI (P:=λv=>∃k:Int,v=.int k/\¬ (0<=k/\k<(n1~:Int))) (xs:=[.int (-1-far),.int ((yF~:Int)+far),.int (-1),.int (yF~:Int)]) (r:=x2%4) (fu (by left)) (gQ (by left)) (λx hx=>by
         rcases cZ hx with e|hx
         . #⟨_,e,by lia⟩
         rcases cZ hx with e|hx
         . #⟨_,e,by lia⟩
         rcases cZ hx with e|hx
         . #⟨_,e,by lia⟩
         . #⟨_,cR hx,by lia⟩)
       #af U ?_
       #bY ((aa sy sL) _ _ hr) a2 ?_
       #dB U U (by change(0:Int)<4;decide) ?_
       #bY gL hz ?_
       #hs pv _ sL ⟨λh=>aw h UD,λh=>aw (pE c) h⟩
     . #hs _ Hj (same_refl _) ⟨λy=>pH c,λy=>YA⟩
   intro pz Hq LK RS
   #kR _ _ ?_
   !vj:=vj.keep (ak.tk LK)
   !CL:=CL.keep (ak.tk LK)
   !sy':=aa sy LK
   !sy:=sy'
   #bC λRk kR=>?_
   suffices hs:∀(qz:Int) (Hu:Hp),ak Hq Hu->((0<=qz/\qz<(n2~:Int))↔x0%6≠2)->Rk [S (.ref p1),S (.ref p2),S (.ref r),S (.int far),S (.ref nm),S (gv),S (bv),S (xv),S (cv),S (wv),S (.int pz),S (.int qz),S (.str wh)] Hu by
     #af U ?_
     #bY (sy _ _ hr) a0 ?_
     #dB U U (by change(0:Int)<6;decide) (bB U U ?_)
     #aC (λc=>?_) (λc=>?_)
     . #af U (af U (aJ U U (af U ?_)))
       #aW (sy _ _ cy) U ?_
       #aJ U (.inl (aB.of (sy _ _ DR))) (af U (aJ U U (af U (af U ?_))))
       #aW (sy _ _ cy) U ?_
       #aJ U (.inl (aB.of (sy _ _ DR))) ⟨akC,λL8 hL=>?_⟩
       !sL:=ah hL (.lst [.int (-1-far),.int ((vn2~:Int)+far),.int (-1),.int (vn2~:Int)])
       !gL:(upd Hq L8 (.lst [.int (-1-far),.int ((vn2~:Int)+far),.int (-1),.int (vn2~:Int)])) L8=S (.lst [.int (-1-far),.int ((vn2~:Int)+far),.int (-1),.int (vn2~:Int)]):=ae
       @⟨_,hz,pv,rfl,hqz⟩:=iI (P:=λv=>∃k:Int,v=.int k/\¬ (0<=k/\k<(n2~:Int))) (xs:=[.int (-1-far),.int ((vn2~:Int)+far),.int (-1),.int (vn2~:Int)]) (r:=x2%4) (fu (by left)) (gQ (by left)) (λx hx=>by
         rcases cZ hx with e|hx
         . #⟨_,e,by lia⟩
         rcases cZ hx with e|hx
         . #⟨_,e,by lia⟩
         rcases cZ hx with e|hx
         . #⟨_,e,by lia⟩
         . #⟨_,cR hx,by lia⟩)
       #af U ?_
       #bY ((aa sy sL) _ _ hr) a2 ?_
       #dB U U (by change(0:Int)<4;decide) ?_
       #bY gL hz ?_
       #hs pv _ sL ⟨λh=>aw h hqz,λh=>aw (pE c) h⟩
     . #hs _ Hq (same_refl _) ⟨λy=>pH c,λy=>YB⟩
   intro qz Hu LK RT
   #kR _ _ ?_
   !vj:=vj.keep (ak.tk LK)
   !CL:=CL.keep (ak.tk LK)
   !sy':=aa sy LK
   !sy:=sy'
   #bC λRk kR=>?_
   suffices hs:∀(wh:Str) (Hv:Hp),ak Hu Hv->(Gd wh↔x0%6≠3)->Rk [S (.ref p1),S (.ref p2),S (.ref r),S (.int far),S (.ref nm),S (gv),S (bv),S (xv),S (cv),S (wv),S (.int pz),S (.int qz),S (.str wh)] Hv by
     #af U ?_
     #bY (sy _ _ hr) a0 ?_
     #dB U U (by change(0:Int)<6;decide) (bB U U ?_)
     #aC (λc=>?_) (λc=>?_)
     . #⟨akD,λL8 hL=>?_⟩
       !sL:=ah hL (.lst [.str "",.str "Mine",.str "none",.str "yes",.str "ends"])
       !gL:(upd Hu L8 (.lst [.str "",.str "Mine",.str "none",.str "yes",.str "ends"])) L8=S (.lst [.str "",.str "Mine",.str "none",.str "yes",.str "ends"]):=ae
       @⟨_,hz,w3,rfl,hw3⟩:=iI (P:=λv=>∃w,v=.str w/\¬ Gd w) (xs:=[.str "",.str "Mine",.str "none",.str "yes",.str "ends"]) (r:=x2%5) (fu (by left)) (gQ (by left)) (λx hx=>by
         rcases cZ hx with e|hx
         . #⟨_,e,by left⟩
         rcases cZ hx with e|hx
         . #⟨_,e,by left⟩
         rcases cZ hx with e|hx
         . #⟨_,e,by left⟩
         rcases cZ hx with e|hx
         . #⟨_,e,by left⟩
         . #⟨_,cR hx,by left⟩)
       #af U ?_
       #bY ((aa sy sL) _ _ hr) a2 ?_
       #dB U U (by change(0:Int)<5;decide) ?_
       #bY gL hz ?_
       #hs w3 _ sL ⟨λh=>aw h hw3,λh=>aw (pE c) h⟩
     . #hs wh _ (same_refl _) ⟨λy=>pH c,λy=>hwh⟩
   intro wh Hv sv YD
   #kR _ _ ?_
   !vj:=vj.keep (ak.tk sv)
   !CL:=CL.keep (ak.tk sv)
   !sV:=aa sy sv
   #af U (af U (af U (af U (bu U akD (λe he=>?_)))))
   @⟨Hk,sk,gk,zz⟩:=aK he (.tup [.int pz,.int qz,cv,.str wh,wv])
   rw[zz];clear zz
   #af U ?_
   #bY ((aa sV sk) _ _ hr) a0 ?_
   #dB U U (by change(0:Int)<6;decide) (aJ U U ⟨akA,λtt mm=>?_⟩)
   !sT:=ah mm (.tup [.ref e,.bl (decide (0<x0%6))])
   @⟨c,c1,⟨c2,YJ⟩,c3,c4,c5⟩:=vj
   @⟨w,w1,w2,w3,w4,w5⟩:=CL
   !kT:=ak.tk (aa sk sT)
   #q tt e _ ⟨⟨pz,qz,c⟩,wh,w⟩ _ (aa sV (aa sk sT)) ae ⟨cv,wv,⟨e,U,sT _ _ gk⟩,c1.keep kT,w1.keep kT⟩ (DH RS RT YD c3 w3 c4 w4 c2 w2 YJ c5 w5)
def fR (s:Int)(ss:O Int):(bV (s::ss))~=s.toNat*(bV ss)~:=by
 change((aem s.toNat).flatMap λw=>(bV ss).map λr=>((w:Nat):Int)::r)~=_
 generalize s.toNat=n
 induction n with
 | zero=>rw[Nat.zero_mul];rfl
 | succ n ih=>rw[ahw,List.flatMap_append,ad7,ih,afM,ahp,aeK,ad1,afV]
def zJ:∀{szs:O Int},szs~<=2->(∀s∈szs,1<=s/\s<=5)->(bV szs)~<=32
 | [],_,_=>by left
 | [s],_,h=>by
   !:=h s (dA (.inl rfl))
   rw[fR]
   change s.toNat*1<=32
   lia
 | [s,u],_,h=>by
   !h1:=h s (dA (.inl rfl))
   !h2:=h u (dA (.inr (dA (.inl rfl))))
   rw[fR,fR]
   change s.toNat*(u.toNat*1)<=32
   rw[Nat.mul_one]
   #aeg (Nat.mul_le_mul (show s.toNat<=5 by lia) (show u.toNat<=5 by lia)) (by left)
 | _::_::_::_,h,_=>by simp at h
structure L7 (bs:ag)(ins:O Str):Prop where
 F:Fits bs ins
 l2:bs~<=2
 sz:∀b∈bs,1<=b.2/\b.2<=16
 gl:∀i,(bV ((bs.map (·.2)).take i))~<=32
 gi:∀i,(bV ((ins.map (bN bs)).take i))~<=32
 si:∀s∈ins.map (bN bs),0<=s/\s<=16
structure Pk (bs:ag)(ins:O Str)(nds:O Nd)(N:Nat):Prop where
 F:Fits bs ins
 s5:∀b∈bs,1<=b.2/\b.2<=5
 l2:bs~<=2
 sh:∀b∈bs,b.1~<=N
 one:1<=nds~
 fI:nds~<=N
 good:∀e∈nds,e.good (·∈bs.map (·.1)) nds~ 5
def F6 {bs:ag}{ins:O Str}{B:Int}(F:Fits bs ins)(s5:∀b∈bs,1<=b.2/\b.2<=B):∀s∈ins.map (bN bs),1<=s/\s<=B:=λs hs=>by
 @⟨x,hx,rfl⟩:=cO hs
 @⟨b,hb,rfl⟩:=cO (F.sub x hx)
 rw[fN F.nd hb]
 #s5 b hb
def Pk.XF {bs:ag}{ins:O Str}{nds:O Nd}{N:Nat}(h:Pk bs ins nds N):L7 bs ins:=by
 !il:(ins.map (bN bs))~<=2:=by
   !:=sub_len h.F.ind h.F.sub
   rw[ad1]at this ⊢
   !:=h.l2
   lia
 !si:=F6 h.F h.s5
 !bl:(bs.map (·.2))~<=2:=by rw[ad1];#h.l2
 #⟨h.F,h.l2,λb hb=>by !:=h.s5 b hb;lia,λi=>zJ (by rw[aea];lia) λs hs=>?_,λi=>zJ (by rw[aea];lia) λs hs=>si s (ae1 hs),λs hs=>by !:=si s hs;lia⟩
 @⟨b,hb,rfl⟩:=cO (ae1 hs)
 #h.s5 b hb
def Fv {bs:ag}{ins:O Str}{nds:O Nd}(h:u7 bs ins nds 4):Pk bs ins nds 8:=by
 !fI:=h.fI
 #⟨Nc h.bx,h.bx.sz,h.bx.len,λb hb=>?_,h.one,by lia,h.good⟩
 @⟨nm,szs,h1,h2,_,rfl⟩:=h.bx.nm
 !:=(afl (a:=b.1) (b:=b.2) hb).1
 generalize b.1=x at this
 !all:∀x∈nm,x~<=8:=by rcases h1 with rfl|rfl|rfl<;>decide
 #all x this
def Fw {bs b':ag}{ins:O Str}{cz:Bool}{st:Int}{nds nds2:O Nd}{ps bp:O Int}{N:Nat}(h:Pk bs ins nds N)(zk:y9 bs ins)(o:fP bs ins cz st b')(no:ja bs (de ins cz) nds nds2 ps bp)(nl:nds2~<=nds~+1):Pk b' ins nds2 (N+1)/\ins.map (bN bs)=ins.map (bN b')/\∀x∈bs.map (·.1),de ins cz x∈b'.map (·.1):=by
 !hl:b'~=bs~:=by rw[o.bx,eY,ad1]
 !nd:(b'.map (·.1)).Nodup:=by
   rw[o.bx,oG]
   #mR ?_
   rw[ae0]
   #List.pairwise_map.mpr ?_
   #ag9 ?_ (List.pairwise_map.mp zk.nd)
   intro a b ha hb ne e
   #ne (wB zk cz (dD ⟨a,ha,U⟩) (dD ⟨b,hb,U⟩) e)
 !mem:∀b∈bs,(de ins cz b.1,b.2)∈b':=λb hb=>by
   rw[o.bx]
   #gE.mpr (dD ⟨b,hb,U⟩)
 !QL:∀c∈b',∃b∈bs,c=(de ins cz b.1,b.2):=λc hc=>by
   rw[o.bx]at hc
   @⟨b,hb,rfl⟩:=cO (gE.mp hc)
   #⟨b,hb,U⟩
 !szs:∀c∈b',1<=c.2/\c.2<=5:=λc hc=>by
   @⟨b,hb,rfl⟩:=QL c hc
   #h.s5 b hb
 !key:∀x∈ins,∃b∈bs,b.1=x/\(x,b.2)∈b':=λx hx=>by
   @⟨b,hb,e⟩:=cO (h.F.sub x hx)
   #⟨b,hb,e,?_⟩
   !:=mem b hb
   rw[show de ins cz b.1=x by unfold de;rw[e,aR hx]]at this
   #this
 !nm:∀x∈bs.map (·.1),de ins cz x∈b'.map (·.1):=λx hx=>by
   @⟨b,hb,rfl⟩:=cO hx
   #dD ⟨_,mem b hb,U⟩
 !l2:=h.l2
 #⟨⟨⟨nd,by lia,λc hc=>(szs c hc).1,h.F.ind,λx hx=>?_,h.F.ilen⟩,szs,by lia,λc hc=>?_,?_,?_,ya no nm h.good⟩,af6 λx hx=>?_,nm⟩
 . @⟨b,hb,e,hm⟩:=key x hx
   #dD ⟨_,hm,U⟩
 . @⟨b,hb,rfl⟩:=QL c hc
   !hs:=h.sh b hb
   change(de ins cz b.1)~<=N+1
   unfold de
   split
   . lia
   . split
     . rw[Str.length_append]
       change b.1~+1<=N+1
       lia
     . lia
 . @⟨p,b,h1,h2,h3,_⟩:=no.all 0 (nds[0]'h.one) (ad3 h.one)
   lia
 . !:=h.fI
   lia
 . @⟨b,hb,e,hm⟩:=key x hx
   !e1:=fN h.F.nd hb
   !e2:=fN nd hm
   rw[e]at e1
   rw[e1]
   #e2.symm
def yX (b1 b2:ag)(n1 n2:O Nd)(n:Nat)(es:O Ef):Prop:=∀f∈es,(∃p q,yU b1 b2 n1 n2 f p q n)/\f.e.c.kX/\f.wait.i5
def Dq (n:Nat)(es:O Ef):Prop:=∀f∈es,LY f n/\f.e.c.kX/\f.wait.i5
def Ib {bs:ag}{ins:O Str}{nds:O Nd}(s:L7 bs ins)(fI:nds~<=50)(good:∀e∈nds,e.good (·∈bs.map (·.1)) nds~ 5):gY bs nds nds~:=by
 !gl:=s.gl (bs.map (·.2))~
 rw[aed]at gl
 !l2:=s.l2
 #⟨s.F.nd,by lia,s.F.sz,λe he=>(good e he).imp (λy z=>z) (by left),by lia,by change(bV (bs.map (·.2)))~<=900;lia⟩
def L7.fI {bs:ag}{ins:O Str}(s:L7 bs ins):wC (bs.map (·.2)):=by
 !l2:=s.l2
 #⟨λx hx=>?_,by rw[ad1];lia,λi=>aeg (s.gl i) (by left)⟩
 @⟨b,hb,rfl⟩:=cO hx
 !:=s.sz b hb
 lia
def Lh {n:Nat}{H:Hp}{v1 v2:V}{pa:J}{b1 b2:ag}{ins:O Str}{n1 n2:O Nd}{es:O Ef}(s1:L7 b1 ins)(s2:L7 b2 ins)(sz:ins.map (bN b1)=ins.map (bN b2))(f1:n1~<=50)(f2:n2~<=50)(g1:∀e∈n1,e.good (·∈b1.map (·.1)) n1~ 5)(g2:∀e∈n2,e.good (·∈b2.map (·.1)) n2~ 5)(p1:aN H v1 b1 ins n1)(p2:aN H v2 b2 ins n2)(pp:sN H pa es)(le:es~<=900)(ok:Dq n es):V4 n H v1 v2 pa b1 b2 ins n1 n2 n1~ n2~ es:=by
 !a1:=Ib s1 f1 g1
 !a2:=Ib s2 f2 g2
 !x1:=s1.gl (b1.map (·.2))~
 !x2:=s2.gl (b2.map (·.2))~
 rw[aed]at x1 x2
 #⟨⟨⟨p1,p2,s1.F,s2.F,sz⟩,a1.gl,a2.gl,λs hs=>by !:=s1.si s hs;lia,λi=>aeg (s1.gi i) (by left)⟩,a1,a2,s1.fI,s2.fI,aeg (Nat.mul_le_mul x1 x2) (by left),pp.ex,le,λf hf=>(ok f hf).1,λf hf=>(ok f hf).2⟩
def uj {bs b':ag}{f:Str->Str}{nds nds2:O Nd}{ps bp:O Int}(no:ja bs f nds nds2 ps bp)(nm:∀x∈bs.map (·.1),f x∈b'.map (·.1))(l2:bs~<=2):yX bs b' nds nds2 10 (tK nds ps bp (cq f bs) nds~):=λe he=>by
 @⟨k,hk,h⟩:=fJ.mp he
 @⟨p,b,h1,h2,h3,h4,_⟩:=no.all k nds[k] (ad3 hk)
 !gp:ps.getD k 0=(p:Int):=by rw[ad9,h1];rfl
 !gb:bp.getD k 0=(b:Int):=by rw[ad9,h2];rfl
 @⟨c1,c2,c3⟩:=Bu f bs b' bs (λb hb=>dD ⟨b,hb,rfl⟩) (λb hb=>nm _ (dD ⟨b,hb,rfl⟩))
 rcases gO.mp h with rfl|⟨_,rfl⟩
 . #⟨⟨k,p,U,gp,hk,h3,?_,c2,by change(cq f bs).dep<10;lia,(by change(0:Int).natAbs<2^100;decide),(by change 0<10;decide)⟩,c1,aeh⟩
   change qX (.str (if _ then _ else _)) _=true
   split<;>decide
 . #⟨⟨k,b,U,gb,hk,h4,(by change qX (.str "yours") _=true;decide),c2,by change(cq f bs).dep<10;lia,(by change(1:Int).natAbs<2^100;decide),(by change 0<10;decide)⟩,c1,aeh⟩
def oS {es fs:O Ef}{f:Ef}{W:Str->Str->Int}{p q:Int}(h:f.e.c.holds W=false):ib (es++f::fs) W p q=ib (es++fs) W p q:=by
 unfold ib
 rw[agp,agp,afa,h,agj]
def zI {b1 b2:ag}{ins:O Str}{n1 n2:O Nd}{es fs:O Ef}{f:Ef}(h:∀W,f.e.c.holds W=false)(g:Good b1 b2 ins n1 n2 (es++fs)):Good b1 b2 ins n1 n2 (es++f::fs):=by
 #⟨λws yQ=>?_,λm hm y hy p q e he=>?_⟩
 . rw[oS (h _)];#g.1 ws yQ
 . rw[oS (h _)]at he
   #gI.congr (λW p q=>oS (h W)) (g.2 m hm y hy p q e he)
def E9 {b1 b2:ag}{n1 n2:O Nd}{n:Nat}{es:O Ef}(h:yX b1 b2 n1 n2 n es):Dq n es:=λf hf=>by
 @⟨⟨p,q,z⟩,c,w⟩:=h f hf
 !k:∀t x,qB b1 b2 t x->lg t x:=λt x z=>.inr (z.elim (λz=>.inl z.1) λz=>.inr z.1)
 #⟨⟨z.ok.imp k,z.dp,z.okw.imp k,z.dw⟩,c,w⟩
def Ee {b1 b2:ag}{ins:O Str}{n1 n2:O Nd}{es:O Ef}{f:Ef}{nb b:Bool}{a:Nat}(g:Good b1 b2 ins n1 n2 es)(ok:yX b1 b2 n1 n2 10 es)(o:yV b1 b2 n1 n2 nb f)(eb:b=true↔(∀g∈es.take a++f::es.drop a,oO b1 b2 n1 n2 g 10)/\Good b1 b2 ins n1 n2 (es.take a++f::es.drop a)):b=!nb:=by
 !gd:=zI (es:=es.take a) (fs:=es.drop a) o.nv (by rw[agE];#g)
 !e2:b=true↔oO b1 b2 n1 n2 f 10:=by
   rw[eb]
   #⟨λz=>z.1 f (iC (.inr aeX)),λz=>⟨λk hk=>?_,gd⟩⟩
   rcases eI hk with h|h
   . #(ok k (ae1 h)).1
   . rcases cZ h with h|h
     . rw[h];#z
     . #(ok k (afk h)).1
 !e3:=o.fit
 cases b<;>cases nb
 . #aw (e2.mpr (ahm λz=>aw (e3.mpr z) (by left))) (by left)
 . rfl
 . rfl
 . #aw (e2.mp rfl) (e3.mp rfl)
def AY {n:Nat}{es:O Ef}{f:Ef}{a:Nat}(h:Dq n es)(p:LY f n/\f.e.c.kX/\f.wait.i5):Dq n (es.take a++f::es.drop a):=λk hk=>by
 rcases eI hk with z|z
 . #h k (ae1 z)
 . rcases cZ z with z|z
   . rw[z];#p
   . #h k (afk z)
def uh {α β:Type}{R:α->β->Prop}{xs:O α}{ys:O β}{x:α}{y:β}(h:Paired R xs ys)(k:R x y)(a:Nat):Paired R (xs.take a++[x]++xs.drop a) (ys.take a++y::ys.drop a):=by
 induction h generalizing a with
 | nil=>
   rw[List.take_nil,List.drop_nil,List.take_nil,List.drop_nil]
   #.cons k .nil
 | cons h r ih=>
   cases a with
   | zero=>#.cons k (.cons h r)
   | succ a=>#.cons h (ih a)
def An {bs b':ag}{ins:O Str}{cz:Bool}{st:Int}(h:e8 bs ins)(o:fP bs ins cz st b'):(("qq":Str)∉bs.map (·.1)/\("yours":Str)∉bs.map (·.1))/\("w":Str)∉b'.map (·.1)/\("zz":Str)∉b'.map (·.1):=by
 @⟨nm,szs,h1,h2,_,e⟩:=id h.nm
 !sub:∀x∈bs.map (·.1),x∈nm:=λx hx=>by
   @⟨b,hb,rfl⟩:=cO hx
   rw[e]at hb
   #(afl (a:=b.1) (b:=b.2) hb).1
 !P7:∀x∈b'.map (·.1),∃y∈nm,x=y\/x=y++"z":=λx hx=>by
   @⟨c,hc,rfl⟩:=cO hx
   rw[o.bx]at hc
   @⟨b,hb,rfl⟩:=cO (gE.mp hc)
   #⟨b.1,sub _ (dD ⟨b,hb,U⟩),?_⟩
   change de ins cz b.1=_\/de ins cz b.1=_
   unfold de
   split
   . #.inl rfl
   . split
     . #.inr rfl
     . #.inl rfl
 !d1:("qq":Str)∉nm/\("yours":Str)∉nm/\∀y∈nm,("w":Str)≠y/\("w":Str)≠y++"z"/\("zz":Str)≠y/\("zz":Str)≠y++"z":=by rcases h1 with rfl|rfl|rfl<;>decide +kernel
 #⟨⟨λz=>d1.1 (sub _ z),λz=>d1.2.1 (sub _ z)⟩,λz=>?_,λz=>?_⟩
 . @⟨y,hy,e⟩:=P7 _ z
   #e.elim (d1.2.2 y hy).1 (d1.2.2 y hy).2.1
 . @⟨y,hy,e⟩:=P7 _ z
   #e.elim (d1.2.2 y hy).2.2.1 (d1.2.2 y hy).2.2.2
abbrev PH:Stmt:=top 70
def wg (K:ad2):Sp:=λvs H Q z=>∃(a:J) (ns:O Int),vs=[.ref a]/\aB K H a (ns.map V.int)/\ns~<=63/\∀H',Q (.bl true) H'
def qI (xs:O V){k:Nat}(h:k<=xs~):j4 xs (S (k:Int)) Z=xs.drop k:=by
 unfold j4
 !e0:HT.dJ xs~ 0 (S (k:Int))=k:=by rw[HT.gU];lia
 !e1:HT.dJ xs~ xs~ Z=xs~:=rfl
 rw[e0,e1]
 #aeE (by rw[ae3];#ad5 _)
def zp (xs:O V){k:Nat}(h:k<=xs~):j4 xs Z (S (k:Int))=xs.take k:=by
 unfold j4
 !e0:HT.dJ xs~ 0 Z=0:=rfl
 !e1:HT.dJ xs~ xs~ (S (k:Int))=k:=by rw[HT.gU];lia
 rw[e0,e1,afR,Nat.sub_zero]
def Vn {row:O Int}{i:Nat}(h:Row (2^30) row 30)(hi:i<3):∃rk,j4 (row.map V.int) (S (7+7*(0+(i:Int)))) (S (14+7*(0+(i:Int))))=rk.map V.int/\Row (2^30) rk 7:=by
 !hl:=h.len
 #⟨(row.drop (7+7*i)).take (14+7*i-(7+7*i)),?_,?_,λx hx=>h.all x (afk (ae1 hx))⟩
 . rw[show(7:Int)+7*(0+(i:Int))=((7+7*i:Nat):Int)by lia,show(14:Int)+7*(0+(i:Int))=((14+7*i:Nat):Int)by lia,jw,zm _ _ _ (by lia) (by lia)]
 . rw[aea,ae3]
   lia
def d6:aA ["script","one","row","far","other","called","places","behind","good","handed","k","entry","none","at","paper","found","third","way"] ["script"] (ao PH):=dX
def J8 {f:J}{fd:aef}(F:cF K "law" "law" PH f fd)(m_len:mg "len"=Z)(m_range:mg "range"=Z)(m_isinstance:mg "isinstance"=Z)(m_bool:mg "bool"=Z)(PR:bI P w K mg base "_law_program" ["script","most"] 64 (B8 K))(NU:bI P w K mg base "_law_numbers" ["cell","many","base"] 64 iQ)(CE:bI P w K mg base "_law_cell_at" ["script","k"] 64 (p8 K))(OV:bI P w K mg base "_law_made_over" ["program","row"] 64 B6)(GP:bI P w K mg base "_law_good_paper" ["program","called","places","behind"] 64 P5)(CP:bI P w K mg base "_law_copied" ["program"] 64 BU)(EN:bI P w K mg base "_law_entry" ["one","other","row","far"] 64 BZ)(PS:bI P w K mg base "paper_shows" ["one","other","paper"] 64 (B7 10))(ST:bI P w K mg base "_law_strangers" ["program"] 64 uQ)(RF:bI P w K mg base "_law_refused" ["one","other","paper","way"] 64 Cb):aL P w K mg base cm 65 f fd ["script"] (wg K):=by
 #F.eO d6 λcdv A outer s H vs Q E tL h=>?_
 @⟨a,ns,rfl,hS,h63,q⟩:=h
 #f7 ⟨_,(aiz (aiL 1 d6.nd (aiJ PR tL U (L (Y 0) (L aix M))))
   (aiz (aiL 2 d6.nd (aiJ NU tL U (L (aiJ CE tL U (L (Y 0) (L aix M))) (L aix (L aix M)))))
   (aiz (aiL 3 d6.nd (aiB aiQ (aiJ CE tL U (L (Y 0) (L aix M))) (aiB ajr aix aix)))
   (aiz (ajg (aiJ OV tL U (L (Y 1) (L (Y 2) M))) (aiT 4 (aiI (aiC 4 d6.nd) (aiI (aiC 5 d6.nd) (aiI (aiC 6 d6.nd) (aiI (aiC 7 d6.nd) aiU))))))
   (aiz (aiL 8 d6.nd (aiJ GP tL U (L (Y 1) (L (Y 5) (L (Y 6) (L (Y 7) M))))))
   (aiz (aiL 9 d6.nd (aiO (L (aiJ CP tL U (L (Y 1) M)) (L (aiJ CP tL U (L (Y 4) M)) M))))
   (aiz (ai0 (ajj U m_range (L aix M)) (aiC 10 d6.nd) (aiz (ajg (aiJ EN tL U (L (Y 1) (L (Y 4) (L (L3.Ic (Y 2) (aiB aiZ aix (aiB ai5 aix (Y 10))) (aiB aiZ aix (aiB ai5 aix (Y 10)))) (L (Y 3) M))))) (aiT 2 (aiI (aiC 11 d6.nd) (aiI (aiC 12 d6.nd) aiU))))
   (aiz (aiL 13 d6.nd (aiB aiQ (aiy aiH (Y 2) (aiB aiZ aix (aiB ai5 aix (Y 10)))) (aiB aiZ (aiS aiX U m_len aeo (L (Y 8) M)) aix)))
   (aiz (aiL 14 d6.nd (aiB ajd (aiB ajd (L3.LG (Y 8) (Y 13)) (aiO (L (Y 11) M))) (L3.LF (Y 8) (Y 13))))
   (aiz (aiL 15 d6.nd (aiJ PS tL U (L (aiy aiH (Y 9) aix) (L (aiy aiH (Y 9) aix) (L (Y 14) M)))))
   (aiA (aiM (aje (ajb (ajo (ajh (aiS L3.Gu U m_isinstance (by right) (L (Y 15) (L (L3.IW (w:=.ty "bool") U m_bool (by right) rfl) M))))) (ajb (aiK aiR (Y 15) (Y 12)) (ajk (aiK (L3.oq (m:=2) (bj tL _ (by left))) (Y 14) (aiB ajd (aiB ajd (L3.LG (Y 8) (Y 13)) (aiO (L (Y 11) M))) (L3.LF (Y 8) (Y 13)))))))) (aiA (aiF ai1)) aiN)))))))
   (aiz (ai0 (aiW (aiJ ST tL U (L (Y 4) M))) (aiC 16 d6.nd) (aiA (ai0 (ajj U m_range (L aix M)) (aiC 17 d6.nd) (aiA (aiM (aje (ajb (ajo (ajh (aiJ RF tL U (L (Y 1) (L (Y 16) (L (Y 8) (L (Y 17) M))))))) (ajk (ajo (ajh (aiJ RF tL U (L (Y 16) (L (Y 1) (L (Y 8) (L (Y 17) M)))))))))) (aiA (aiF ai1)) aiN)))))
   (aiA (aiF (ai4 (L3.rj (m:=2) (bj tL _ (by left))) (Y 9) (aiO (L (Y 1) (L (Y 4) M)))))))))))))),?_⟩
 #I9 λRk kR=>?_
 #af U ⟨a,ns,4,U,hS,by left,by left,λv1 HA bs ins nds sA Vf Fx=>?_⟩
 @⟨p1,B1,I1,N1,F9,yF,rfl,nZ,qO,hI1,C7,uk,MH⟩:=id Vf
 #af U ⟨a,ns,1,U,ak.seq sA hS,by left,λcc=>⟨cc,30,840,U,by left,by left,by left,by left,λr row hr Z6=>?_⟩⟩
 @⟨HB,sB,gr,zz⟩:=aK hr (.lst (row.map V.int))
 rw[zz];clear zz
 !hR:Row (2^30) row 30:=Z6.mono (by left)
 #af U ⟨a,ns,1,U,ak.seq (aa sA sB) hS,by left,λcf=>(dB U U ⟨by left,by left,by left⟩ (dB U U (by change(0:Int)<10^Int.toNat 20;decide) ?_))⟩
 obtain⟨far,Na⟩ : ∃far,far=cf%(10^Int.toNat 20):=⟨_,rfl⟩
 !f0:0<=far:=by rw[Na];#fu (by left)
 !pk:=Fv Fx
 !fI:=pk.fI
 !z2:=CZ Fx.bx
 !Rg:=Vf.same sB
 #aS (kR _ _ ?_)
 #di [S (.ref a),S (.ref p1),S (.ref r),S (.int far),Z,Z,Z,Z,Z,Z,Z,Z,Z,Z,Z,Z,Z,Z] (by subst Na;rfl) ?_
 #bC λRk kR=>?_
 #af U (af U ⟨.ref p1,r,bs,ins,nds,row,30,U,Rg,⟨pk.l2,λb hb=>by !:=pk.sh b hb;lia,pk.one,by lia,pk.good⟩,gr,hR,by left,λpp p2 T0 I2 N2 cA yR yI HC VI vn2 b' nds2 cz st sC Eb cy Np OO zK DR ON n2l S3 ov ps bp hpl C8 OA=>?_⟩)
 #aJ U (dY.of Eb) ⟨U,_,af U ⟨_,af U ⟨_,af U (aJ U U ?_)⟩⟩⟩
 #kR _ _ ?_
 #di [S (.ref a),S (.ref p1),S (.ref r),S (.int far),S (.ref p2),S (.ref cA),S (.ref yR),S (.ref yI),Z,Z,Z,Z,Z,Z,Z,Z,Z,Z] U ?_
 @⟨Fu,Rw,Xe⟩:=Fw pk z2.zk ov OA n2l
 @⟨⟨nqq,nyo⟩,nw,Xh⟩:=An Fx.bx ov
 !gd:=tJ z2.zk Fu.F.nd pk.F Fu.F Rw ov OA pk.good Fu.good pk.one
 !U9:=uj OA Xe pk.l2
 !lG:=ph nds ps bp (cq (de ins cz) bs) nds~
 !Se:Gk bs b' nds nds2:=⟨pk.l2,Fu.l2,pk.one,Fu.one,nqq,nyo,Xh⟩
 #bC λRk kR=>?_
 #af U (af U (af U (af U ⟨.ref p1,cA,yR,yI,bs,ins,nds,de ins cz,ps,bp,U,Rg.same sC,S3,hpl,C8,OA.pl,OA.bl,by lia,λl HD sD nl pap=>?_⟩)))
 @⟨vps,hl,MJ⟩:=pap.ex
 generalize tK nds ps bp (cq (de ins cz) bs) nds~=es at gd U9 lG MJ
 !vpl:=Paired.length MJ
 !acE:vps~<=16:=by lia
 #aS (kR _ _ ?_)
 #di [S (.ref a),S (.ref p1),S (.ref r),S (.int far),S (.ref p2),S (.ref cA),S (.ref yR),S (.ref yI),S (.ref l),Z,Z,Z,Z,Z,Z,Z,Z,Z] U ?_
 #bC λRk kR=>?_
 !Pu:=aa sB (aa sC sD)
 #af U ⟨p1,B1,I1,N1,F9,_,yF,U,Pu _ _ nZ,Pu _ _ qO,Pu _ _ hI1,Pu _ _ C7,λc1 CB CI CN HE sE QX QN QO QP=>?_⟩
 !Ro:=aa sD sE
 #af U ⟨p2,T0,I2,N2,VI,_,vn2,U,Ro _ _ cy,Ro _ _ Np,Ro _ _ zK,Ro _ _ DR,λc2 DB DI DN HF sF C9 QR QS QU=>?_⟩
 #⟨akA,λha hha=>?_⟩
 @⟨HG,sG,Sk,zz⟩:=aK hha (.lst [.ref c1,.ref c2])
 rw[zz];clear zz
 !FP:=aa sF sG
 !Rp:=aa sE FP
 !Dj:=aa sD Rp
 !FN:=aa Pu Rp
 #aS (kR _ _ ?_)
 #di [S (.ref a),S (.ref p1),S (.ref r),S (.int far),S (.ref p2),S (.ref cA),S (.ref yR),S (.ref yI),S (.ref l),S (.ref ha),Z,Z,Z,Z,Z,Z,Z,Z] U ?_
 !Xl:aN HG (.ref p1) bs ins nds:=Vf.same FN
 !Xm:aN HG (.ref p2) b' ins nds2:=aN.same ⟨p2,T0,I2,N2,VI,vn2,rfl,cy,Np,zK,DR,OO,ON⟩ Dj
 !pc1:aN HG (.ref c1) bs ins nds:=⟨c1,CB,CI,CN,F9,yF,rfl,FP _ _ QX,FP _ _ QN,FP _ _ QO,FP _ _ QP,Paired.aP uk λv v z=>Tp.keep (ak.tk FN) z,Paired.aP MH λv v z=>bZ.keep (ak.tk FN) z⟩
 !pc2:aN HG (.ref c2) b' ins nds2:=⟨c2,DB,DI,DN,VI,vn2,rfl,sG _ _ C9,sG _ _ QR,sG _ _ QS,sG _ _ QU,Paired.aP OO λv v z=>Tp.keep (ak.tk Dj) z,Paired.aP ON λv v z=>bZ.keep (ak.tk Dj) z⟩
 !gr:=(aa sC Dj) _ _ gr
 !hl:=Rp _ _ hl
 !MJ:=Paired.aP MJ λv v z=>fO.keep z (ak.tk Rp)
 !nZ:=FN _ _ nZ
 !qO:=FN _ _ qO
 !hI1:=FN _ _ hI1
 !C7:=FN _ _ C7
 !uk:=Paired.aP uk λv v z=>Tp.keep (ak.tk FN) z
 !MH:=Paired.aP MH λv v z=>bZ.keep (ak.tk FN) z
 !cy:=Dj _ _ cy
 !Np:=Dj _ _ Np
 !zK:=Dj _ _ zK
 !DR:=Dj _ _ DR
 !OO:=Paired.aP OO λv v z=>Tp.keep (ak.tk Dj) z
 !ON:=Paired.aP ON λv v z=>bZ.keep (ak.tk Dj) z
 !QX:=FP _ _ QX
 !QN:=FP _ _ QN
 !QO:=FP _ _ QO
 !QP:=FP _ _ QP
 !C9:=sG _ _ C9
 !QR:=sG _ _ QR
 !QS:=sG _ _ QS
 !QU:=sG _ _ QU
 !fv:∀x∈vps,∃a,x=.ref a:=λx hx=>by
   @⟨j,hj,ej⟩:=afC hx
   @⟨f,_,cv,wv,⟨p,hp,_⟩,_⟩:=Paired.get MJ (ad3 hj)
   #⟨p,ej.symm.trans hp⟩
 #bC λRk kR=>?_
 #af U ⟨by left,by left,?_⟩
 #fZ (lo:=0) (n:=(3:Int).toNat) (λi σ Hx=>(∃o1 o2 o3 o4 o5 o6,σ=[S (.ref a),S (.ref p1),S (.ref r),S (.int far),S (.ref p2),S (.ref cA),S (.ref yR),S (.ref yI),S (.ref l),S (.ref ha),o1,o2,o3,o4,o5,o6,Z,Z])/\ak HG Hx) ⟨⟨_,_,_,_,_,_,U⟩,same_refl _⟩ (λi σ Hx hi z=>?_) (λσ Hx z=>?_)
 . @⟨⟨o1,o2,o3,o4,o5,o6,rfl⟩,sx⟩:=z
   !hi3:i<3:=hi
   #aS ?_
   #di [S (.ref a),S (.ref p1),S (.ref r),S (.int far),S (.ref p2),S (.ref cA),S (.ref yR),S (.ref yI),S (.ref l),S (.ref ha),S (.int (0+(i:Int))),o2,o3,o4,o5,o6,Z,Z] U ?_
   @⟨rk,YY,R7⟩:=Vn hR hi3
   @⟨x13,Yy,_⟩:=hR.at (i:=13+7*(0+(i:Int))) (by lia) (by lia)
   #bC λRj kj=>?_
   #af U (af U (af U (af U (dB U U (.inl ⟨by left,by left⟩) (aJ U U (af U (af U (dB U U (.inl ⟨by left,by left⟩) (aJ U U (af U (aJ U (aB.of (sx _ _ gr)) (λsl Q3=>?_))))))))))))
   rw[YY]
   @⟨H1,s1,g1,zz⟩:=aK Q3 (.lst (rk.map V.int))
   rw[zz];clear zz
   !t1:=aa sx s1
   #af U ⟨.ref p1,.ref p2,sl,far,bs,b',ins,nds,nds2,rk,U,Xl.same t1,Xm.same t1,Se,g1,R7,f0,λtt e nb f H2 s2 mm ef eo=>?_⟩
   #nJ mm ?_
   #kj _ _ ?_
   #di [S (.ref a),S (.ref p1),S (.ref r),S (.int far),S (.ref p2),S (.ref cA),S (.ref yR),S (.ref yI),S (.ref l),S (.ref ha),S (.int (0+(i:Int))),S (.ref e),S (.bl nb),o4,o5,o6,Z,Z] U ?_
   !t2:=aa t1 s2
   #bC λRj kj=>?_
   #af U (af U (dB U U (.inl ⟨by left,by left⟩) (aJ U U ?_)))
   #bY (t2 _ _ gr) Yy ?_
   #af U (aJ U (.inl (aB.of (t2 _ _ hl))) (aJ U U (dB U U (by change(0:Int)<(vps~:Int)+1;lia) ?_)))
   obtain⟨n,en,Rb⟩ : ∃n:Nat,(n:Int)=x13%((vps~:Int)+1)/\n<=vps~:=by
     !h0:=fu (k:=x13) (n:=(vps~:Int)+1) (by lia)
     !h1:=gQ (k:=x13) (n:=(vps~:Int)+1) (by lia)
     #⟨(x13%((vps~:Int)+1)).toNat,by lia,by lia⟩
   #aS ?_
   #kj _ _ ?_
   #di [S (.ref a),S (.ref p1),S (.ref r),S (.int far),S (.ref p2),S (.ref cA),S (.ref yR),S (.ref yI),S (.ref l),S (.ref ha),S (.int (0+(i:Int))),S (.ref e),S (.bl nb),S (.int (n:Int)),o5,o6,Z,Z] (by rw[en];rfl) ?_
   #bC λRj kj=>?_
   #af U (af U (af U (aJ U (aB.of (t2 _ _ hl)) (λpaA T7=>?_))))
   rw[zp vps Rb]
   @⟨H1A,s1A,Zh,zz⟩:=aK T7 (.lst (vps.take n))
   rw[zz];clear zz
   #bu U akz (λpbA T9=>?_)
   @⟨H2A,Xs,Zj,zz⟩:=aK T9 (.lst [.ref e])
   rw[zz];clear zz
   #⟨paA,pbA,aJ U U ⟨Xs _ _ Zh,Zj,aeg (show _<=100 by rw[aea];change _+1<=100;lia) (by left),λpcA Ub=>?_⟩⟩
   @⟨H3A,s3A,Zl,zz⟩:=aK Ub (.lst (vps.take n++[.ref e]))
   rw[zz];clear zz
   !t3A:=aa s1A (aa Xs s3A)
   #af U (af U (af U (aJ U (aB.of (t3A _ _ (t2 _ _ hl))) (λpdA Ud=>?_))))
   rw[qI vps Rb]
   @⟨H4A,Xu,Zo,zz⟩:=aK Ud (.lst (vps.drop n))
   rw[zz];clear zz
   #⟨pcA,pdA,aJ U U ⟨Xu _ _ Zl,Zo,aeg (show _<=100 by rw[ad7,aea,ae3];change _+1+_<=100;lia) (by left),λVg Ug=>?_⟩⟩
   @⟨H5A,s5A,Wl,zz⟩:=aK Ug (.lst (vps.take n++[.ref e]++vps.drop n))
   rw[zz];clear zz
   !XQ:=aa t3A (aa Xu s5A)
   #aS ?_
   #kj _ _ ?_
   #di [S (.ref a),S (.ref p1),S (.ref r),S (.int far),S (.ref p2),S (.ref cA),S (.ref yR),S (.ref yI),S (.ref l),S (.ref ha),S (.int (0+(i:Int))),S (.ref e),S (.bl nb),S (.int (n:Int)),S (.ref Vg),o6,Z,Z] U ?_
   !t3:=aa t2 XQ
   #bC λRj kj=>?_
   #af U ?_
   #bY (t3 _ _ Sk) U ?_
   #af U ?_
   #bY (t3 _ _ Sk) U ?_
   #af U ⟨.ref c1,.ref c2,Vg,bs,b',ins,nds,nds2,_,_,es.take n++f::es.drop n,U,Lh pk.XF Fu.XF Rw (by lia) (by lia) pk.good Fu.good (pc1.same t3) (pc2.same t3) ⟨_,Wl,uh (Paired.aP MJ λv v z=>fO.keep z (ak.tk t3)) (ef.keep (ak.tk XQ)) n⟩ (by rw[ad7,aet,aea,ae3];lia) (AY (E9 U9) ⟨eo.p,eo.c,eo.w⟩),λb H6 s6 eb=>?_⟩
   !YX:=Ee gd U9 eo eb
   #aS ?_
   #kj _ _ ?_
   #di [S (.ref a),S (.ref p1),S (.ref r),S (.int far),S (.ref p2),S (.ref cA),S (.ref yR),S (.ref yI),S (.ref l),S (.ref ha),S (.int (0+(i:Int))),S (.ref e),S (.bl nb),S (.int (n:Int)),S (.ref Vg),S (.bl b),Z,Z] U ?_
   !t6:=aa t3 s6
   #af U ⟨_,"bool",_,true,U,.bl _,U,true,U,?_⟩
   #mn ?_
   !dn:decide (V.bl b=V.bl nb)=false:=by rw[YX];cases nb<;>decide
   #af U (af U (bB U U ?_))
   rw[dn]
   #mn ?_
   #af U (af U (af U (af U (aJ U (aB.of (t6 _ _ hl)) (λRg T8=>?_)))))
   rw[zp vps Rb]
   @⟨H1B,s1B,Zi,zz⟩:=aK T8 (.lst (vps.take n))
   rw[zz];clear zz
   #bu U akz (λpbB Ua=>?_)
   @⟨H2B,Xt,Zk,zz⟩:=aK Ua (.lst [.ref e])
   rw[zz];clear zz
   #⟨Rg,pbB,aJ U U ⟨Xt _ _ Zi,Zk,aeg (show _<=100 by rw[aea];change _+1<=100;lia) (by left),λpcB Uc=>?_⟩⟩
   @⟨H3B,s3B,Zm,zz⟩:=aK Uc (.lst (vps.take n++[.ref e]))
   rw[zz];clear zz
   !t3B:=aa s1B (aa Xt s3B)
   #af U (af U (af U (aJ U (aB.of (t3B _ _ (t6 _ _ hl))) (λpdB Ue=>?_))))
   rw[qI vps Rb]
   @⟨H4B,Xv,Zp,zz⟩:=aK Ue (.lst (vps.drop n))
   rw[zz];clear zz
   #⟨pcB,pdB,aJ U U ⟨Xv _ _ Zm,Zp,aeg (show _<=100 by rw[ad7,aea,ae3];change _+1+_<=100;lia) (by left),λpeB Uh=>?_⟩⟩
   @⟨H5B,s5B,Zr,zz⟩:=aK Uh (.lst (vps.take n++[.ref e]++vps.drop n))
   rw[zz];clear zz
   !t5B:=aa t3B (aa Xv s5B)
   #⟨true,RB.lst (aB.of (t5B _ _ (s6 _ _ Wl))) (aB.of Zr) rfl (λj x y hx hy=>?_),af U ?_⟩
   . rw[hx]at hy
     cases hy
     #ET.refl (.inr ?_)
     !hm:=ad4 hx
     rcases eI hm with z|z
     . rcases eI z with z|z
       . #fv x (ae1 z)
       . #⟨_,cR z⟩
     . #fv x (afk z)
   . #mn ⟨⟨_,_,_,_,_,_,U⟩,aa t6 t5B⟩
 @⟨⟨o1,o2,o3,o4,o5,o6,rfl⟩,sx⟩:=z
 #kR _ _ ?_
 !il:ins~<=2:=by
   !:=sub_len pk.F.ind pk.F.sub
   rw[ad1]at this
   !:=pk.l2
   lia
 #bC λRk kR=>?_
 #af U ⟨.ref p2,b',ins,nds2,U,Xm.same sx,Fu.F,Fu.l2,il,nw,Xh,λlu us HS sS Q4 ul al=>?_⟩
 !Xx:=aa sx sS
 #bu U ⟨_,aB.of Q4⟩ ?_
 #dz (xs:=us) (λi σ Hx=>(∃o7 o8,σ=[S (.ref a),S (.ref p1),S (.ref r),S (.int far),S (.ref p2),S (.ref cA),S (.ref yR),S (.ref yI),S (.ref l),S (.ref ha),o1,o2,o3,o4,o5,o6,o7,o8])/\ak HS Hx) ⟨⟨_,_,U⟩,same_refl _⟩ (λi σ Hx v z=>aB.of (z.2 _ _ Q4)) (λi u σ Hx hu z=>?_) (λσ HX z=>?_)
 . @⟨⟨o7,o8,rfl⟩,sy⟩:=z
   @⟨b3,i3,n3,pu,so⟩:=al u (ad4 hu)
   !ng1:¬ lQ bs b3 ins i3:=λg=>so.no ⟨g.1.symm,g.2.symm.trans Rw⟩
   !ng2:¬ lQ b3 bs i3 ins:=λg=>so.no ⟨g.1,g.2.trans Rw⟩
   #aS ?_
   #af U ⟨by left,by left,?_⟩
   #fZ (lo:=0) (n:=(2:Int).toNat) (λj σ Hy=>(∃o8,σ=[S (.ref a),S (.ref p1),S (.ref r),S (.int far),S (.ref p2),S (.ref cA),S (.ref yR),S (.ref yI),S (.ref l),S (.ref ha),o1,o2,o3,o4,o5,o6,S (u),o8])/\ak HS Hy) ⟨⟨_,U⟩,sy⟩ (λj σ Hy hj z=>?_) (λσ Hy z=>?_)
   . @⟨⟨o8,rfl⟩,sw⟩:=z
     !Rh:Gp Hy (.ref p1) u bs b3 ins i3 nds n3:=⟨Xl.same (aa Xx sw),pu.same sw,pk.F,so.F⟩
     #aS ?_
     #af U (af U (af U (af U ⟨.ref p1,u,.ref l,_,bs,b3,ins,i3,nds,n3,U,Rh,ng1,λH1 s1=>(af U (mn ?_))⟩)))
     !Ri:=Rh.same s1
     #af U (af U (af U (af U ⟨u,.ref p1,.ref l,_,b3,bs,i3,ins,n3,nds,U,⟨Ri.p2,Ri.p1,Ri.f2,Ri.f1⟩,ng2,λH2 s2=>(af U (mn ?_))⟩)))
     #⟨⟨_,U⟩,aa sw (aa s1 s2)⟩
   . @⟨⟨o8,rfl⟩,sw⟩:=z
     #⟨⟨_,_,U⟩,sw⟩
 @⟨⟨o7,o8,rfl⟩,sy⟩:=z
 #kR _ _ ?_
 #af U (af U (bu U akA (λhb hhb=>?_)))
 @⟨HV,sV,ZN,zz⟩:=aK hhb (.lst [.ref p1,.ref p2])
 rw[zz];clear zz
 !sGV:=aa Xx (aa sy sV)
 !rf:∀{n:Nat} {xs:O V},(∀x∈xs,cM x=true\/∃a,x=.ref a)->∀(j:Nat) (x y:V),xs[j]?=S x->xs[j]?=S y->ET K HV n x y:=λhf j x y hx hy=>by
   rw[hx]at hy
   cases hy
   #ET.refl (hf x (ad4 hx))
 !fs':∀l:O Str,∀x∈l.map V.str,cM x=true\/∃a,x=.ref a:=λl x hx=>by@⟨z,_,rfl⟩:=cO hx;#.inl rfl
 !fb:∀{vb:O V} {bs:ag},Paired (cE HG) vb bs->∀x∈vb,cM x=true\/∃a,x=.ref a:=λpb x hx=>by
   @⟨j,hj,ej⟩:=afC hx
   @⟨b,_,hb⟩:=Paired.get pb (ad3 hj)
   rw[ej]at hb
   #.inr hb.ref
 !fn:∀{vn:O V} {nds:O Nd},Paired (bZ HG) vn nds->∀x∈vn,cM x=true\/∃a,x=.ref a:=λpn x hx=>by
   @⟨j,hj,ej⟩:=afC hx
   @⟨b,_,hb⟩:=Paired.get pn (ad3 hj)
   rw[ej]at hb
   #.inr hb.ref
 !Xn:∀{p p' B B' I I' N N':J} {vb vi vn:O V},HV p=S (.tup [.ref B,.ref I,.ref N])->HV p'=S (.tup [.ref B',.ref I',.ref N'])->HV B=S (.lst vb)->HV B'=S (.lst vb)->HV I=S (.lst vi)->HV I'=S (.lst vi)->HV N=S (.lst vn)->HV N'=S (.lst vn)->(∀x∈vb,cM x=true\/∃a,x=.ref a)->(∀x∈vi,cM x=true\/∃a,x=.ref a)->(∀x∈vn,cM x=true\/∃a,x=.ref a)->ET K HV 2 (.ref p) (.ref p'):=λh1 h2 h3 h4 h5 h6 h7 h8 g1 g2 g3=>ET.tup (dY.of h1) (dY.of h2) rfl λj x y hx hy=>by
   match j,hx,hy with
   | 0,hx,hy=>cases hx;cases hy;#ET.lst (aB.of h3) (aB.of h4) rfl (rf g1)
   | 1,hx,hy=>cases hx;cases hy;#ET.lst (aB.of h5) (aB.of h6) rfl (rf g2)
   | 2,hx,hy=>cases hx;cases hy;#ET.lst (aB.of h7) (aB.of h8) rfl (rf g3)
 #⟨true,RB.lst (aB.of (sGV _ _ Sk)) (aB.of ZN) rfl (λj x y hx hy=>?_),q _⟩
 match j,hx,hy with
 | 0,hx,hy=>cases hx;cases hy;#Xn (sGV _ _ QX) (sGV _ _ nZ) (sGV _ _ QN) (sGV _ _ qO) (sGV _ _ QO) (sGV _ _ hI1) (sGV _ _ QP) (sGV _ _ C7) (fb uk) (fs' _) (fn MH)
 | 1,hx,hy=>cases hx;cases hy;#Xn (sGV _ _ C9) (sGV _ _ cy) (sGV _ _ QR) (sGV _ _ Np) (sGV _ _ QS) (sGV _ _ zK) (sGV _ _ QU) (sGV _ _ DR) (fb OO) (fs' _) (fn ON)
end
end TW
namespace TW
open PySem L2
def j9 {x:Str}{st:Stmt}{ps:O Str}{k:Nat}{sp:Sp}{P:Program}{w:World}{K:ad2}{mg:Str->Option Value}{base:Heap}(s:Src K mg x st)(h:∀{f fd},cF K x x st f fd->aL P w K mg base cm k f fd ps sp)(b:∀{f fd},cF K x x st f fd->Binds K fd ps []:=by intro f fd F;first|show iV F λz z z z z z z z=>rfl|show IX F λz z z z z z z=>rfl|show sR F λz z z z z z z z z=>rfl|show sU F λz z z z z z z z z z=>rfl):bI P w K mg base x ps k sp:=let⟨f,fd,F,m⟩:=s;⟨f,fd,h F,F.kp,b F,m⟩
def IP {P:Program}{w:World}{K:ad2}{mg:Str->Option Value}{fa:J}(hfa:mg "law"=S (.ref fa))(t:M0 K mg) :
   ∃fd:aef,(∀(s:Shared) (u:Value),BindsTo s fd ⟨[u],[]⟩ [("script",u)])/\∀base:Heap,K.In base->base.Ns aeZ mg->aL P w K mg base cm 65 fa fd ["script"] (wg K):=by
 @⟨f,fd,F,m⟩:=t.s_law
 !e:=hfa.symm.trans m
 cases e
 #⟨fd,λs u=>?_,λbase z z=>?_⟩
 . @⟨oc,od,kV,doc,pm,an,cdv,ct,osl,rfl,lk,hcd⟩:=F.ex
   #.of_eq rfl
 @⟨T,aZ,aQ,aI,bo,b7,b8,bD,bE,cV,bF,bG,R⟩:=t.cl
 !CE:bI P w K mg base "_law_cell_at" ["script","k"] 1 (p8 K):=j9 t.s_law_cell_at λF=>EA F t.m_len
 !NU:bI P w K mg base "_law_numbers" ["cell","many","base"] 1 iQ:=j9 t.s_law_numbers λF=>ug F t.m_range
 !SM:bI P w K mg base "_law_sum" ["row","names"] 1 wj:=j9 t.s_law_sum λF=>Ke F t.m_len
 !CO:=j9 (P:=P) (w:=w) (base:=base) t.s_law_condition λF=>EC F SM
 !ND:=j9 (P:=P) (w:=w) (base:=base) t.s_law_node λF=>EH F t.m_len SM CO
 !BX:bI P w K mg base "_law_boxes" ["number"] 1 pZ:=j9 t.s_law_boxes λF=>AN F t.m_len t.m_range t.m_int
 !PR:=j9 (P:=P) (w:=w) (base:=base) t.s_law_program λF=>EM F t.m_len t.m_range CE NU BX ND
 !RN:bI P w K mg base "_law_renamed" ["thing","called"] 7 (kF 6):=DT t.s_law_renamed t.m_tuple t.m_isinstance 6
 !NA:=j9 (P:=P) (w:=w) (base:=base) t.s_law_node_as λF=>xV F RN
 !SK:bI P w K mg base "_law_skip" ["boxes","called","number","after"] 1 uP:=j9 t.s_law_skip λF=>EU F t.m_len
 !OV:=j9 (P:=P) (w:=w) (base:=base) t.s_law_made_over λF=>EK F t.m_len t.m_range t.m_int t.m_list NA SK
 !AS:bI P w K mg base "_law_all_same" ["boxes","called"] 1 uJ:=j9 t.s_law_all_same λF=>Ez F
 !GP:=j9 (P:=P) (w:=w) (base:=base) t.s_law_good_paper λF=>OF F t.m_len t.m_range t.m_int AS
 !BS:bI P w K mg base "box_sizes" ["program"] 1 pY:=j9 t.s_box_sizes λF=>AM F
 !IS:bI P w K mg base "input_sizes" ["program"] 1 jn:=j9 t.s_input_sizes λF=>EE F t.m_dict
 !NP:=j9 (P:=P) (w:=w) (base:=base) t.s_refuse_no_pair λF=>xU F IS
 !EV:bI P w K mg base "every_worths" ["sizes"] 1 we:=j9 t.s_every_worths λF=>J6 F t.m_range
 !EI:=j9 (P:=P) (w:=w) (base:=base) t.s_every_input λF=>J5 F EV IS
 !WB0:∀n,bI P w K mg base "worth_by" ["known","sum_told"] (n+1) (eE n):=xt t.s_worth_by
 !HB0:=xq t.s_holds_by WB0
 !KW:su P w K mg base "known_worths" ["program","worths","side"] 1 jR "box":=tN t.s_known_worths t.m_zip
 !Yr:bI P w K mg base "refuse_worths" ["sizes","worths"] 1 uN:=j9 t.s_refuse_worths λF=>EO F t.m_len t.m_zip
 !Yb:=j9 (P:=P) (w:=w) (base:=base) t.s_beginning_of λF=>AL F t.m_dict t.m_zip Yr IS
 !PW:bI P w K mg base "worths_put" ["program","worths","put_name","told"] 1 uR:=j9 t.s_worths_put λF=>EY F t.m_zip
 !Yt:=j9 (P:=P) (w:=w) (base:=base) t.s_step_at λF=>xX F t.m_list (KW.mono (by left)) (PW.mono (by left)) ((WB0 20).mono (by left)) ((HB0 20).mono (by left))
 !AK:bI P w K mg base "all_known" ["known","told"] 11 (eL 10):=tM t.s_all_known t.c_NAMELESS t.c_PARTED 10
 @⟨CS,c1,⟨f1,d1,F1,M1⟩,⟨fn,dn,Fn,Mn⟩,⟨fk,dk,Fk,Mk⟩,⟨fs,ds,Fs,Ms⟩,fy,dy,Fy,My⟩:=t.k_Side
 @⟨C,c2,⟨f2,d2,F2,M2⟩,⟨fr,dr,Fr,Mr⟩,_,fb,db,Fb,Mb⟩:=t.k_Ground
 @⟨CT,c3,⟨f3,d3,F3,M3⟩,fh,dh,Fh,Mh⟩:=t.k_Turn
 !SD:m7 P w K mg base "Side" CS ["self","program"] 2 (qc K CS):=⟨f1,d1,AR F1 c1 EV BS t.m_tuple t.m_enumerate,iV F1 λz z z z z z z z=>rfl,M1,c1.m⟩
 !NO:fY P w K mg base CS "number_of" ["self","worths"] 1 (qb K CS):=⟨fn,dn,EJ Fn t.m_tuple,iV Fn λz z z z z z z z=>rfl,Mn⟩
 !KA:fY P w K mg base CS "kind_at" ["self","place"] 1 (uL K CS):=⟨fk,dk,EG Fk,iV Fk λz z z z z z z z=>rfl,Mk⟩
 !ST:fY P w K mg base CS "steps_at" ["self","place"] 26 (mO K CS):=⟨fs,ds,xY Fs Yt NO,iV Fs λz z z z z z z z=>rfl,Ms⟩
 !SY:fY P w K mg base CS "stays_at" ["self","place"] 1 (mM K CS):=⟨fy,dy,xW Fy t.m_len t.m_range,iV Fy λz z z z z z z z=>rfl,My⟩
 !GD:m7 P w K mg base "Ground" C ["self","one","other"] 4 (B4 K C CS):=⟨f2,d2,J7 F2 c2 SD t.m_len t.m_list t.m_range t.m_enumerate,sR F2 λz z z z z z z z z=>rfl,M2,c2.m⟩
 !Ys:fY P w K mg base C "row_of" ["self","mine","yours"] 2 (uO K C CS):=⟨fr,dr,ES Fr c1.c NO,sR Fr λz z z z z z z z z=>rfl,Mr⟩
 !BE:fY P w K mg base C "beginnings" ["self"] 3 (BP K C CS):=⟨fb,db,JY Fb EI Yb Ys,IX Fb λz z z z z z z=>rfl,Mb⟩
 !WL:∀n,bI P w K mg base "worths_along" ["ground","rows","sum_told"] (n+1) (i9 K C n):=DU t.s_worths_along t.m_len t.m_zip
 !RO:bI P w K mg base "rows_without" ["rows","taken"] 1 rQ:=j9 t.s_rows_without λF=>Kc F t.m_set
 !RW:=DS t.s_rows_where t.m_zip WL RO
 !RC:bI P w K mg base "rows_counted" ["ground","paper"] 12 (B9 K C 10):=j9 t.s_rows_counted λF=>Ka F RW RO
 !EF:bI P w K mg base "entry_fits" ["ground","entry"] 12 (BV K C CS 10):=by@⟨f,fd,F,m⟩:=t.s_entry_fits;#⟨f,fd,J2 F t.m_len AK t.c_TURNS,F.kp,iV F λz z z z z z z z=>rfl,m⟩
 !AF:bI P w K mg base "all_fit" ["ground","paper"] 13 (BN K C CS 10):=by@⟨f,fd,F,m⟩:=t.s_all_fit;#⟨f,fd,JV F t.m_all EF,F.kp,iV F λz z z z z z z z=>rfl,m⟩
 !TF:bI P w K mg base "turn_fits" ["ground","entry"] 2 (Ce K C CS):=by@⟨f,fd,F,m⟩:=t.s_turn_fits;#⟨f,fd,Kg F c1.c KA t.c_QUIET,F.kp,iV F λz z z z z z z z=>rfl,m⟩
 !BW:bI P w K mg base "begins_well" ["ground","waits"] 4 (v5 K C CS):=by@⟨f,fd,F,m⟩:=t.s_begins_well;#⟨f,fd,JX F t.m_all BE,F.kp,iV F λz z z z z z z z=>rfl,m⟩
 !TB:bI P w K mg base "told_by_places" ["ground","paper","counted","told"] 1 (Cd K C):=by@⟨f,fd,F,m⟩:=t.s_told_by_places;#⟨f,fd,Kf F t.m_len t.m_zip,F.kp,sU F λz z z z z z z z z z=>rfl,m⟩
 !WB:bI P w K mg base "worths_by_places" ["ground","paper","counted","part"] 12 (Cg K C 10):=by@⟨f,fd,F,m⟩:=t.s_worths_by_places;#⟨f,fd,Kj F t.m_zip (WL 10) TB,F.kp,sU F λz z z z z z z z z z=>rfl,m⟩
 !TU:m7 P w K mg base "Turn" CT ["self","ground","waits","entry"] 27 (Cf K C CS CT):=⟨f3,d3,Kh F3 c3 c1.c ST SY,sU F3 λz z z z z z z z z z=>rfl,M3,c3.m⟩
 !BH:fY P w K mg base CT "behind" ["self","row"] 1 (BQ K CT):=⟨fh,dh,JZ Fh,iV Fh λz z z z z z z z=>rfl,Mh⟩
 !Yd:bI P w K mg base "entry_well" ["ground","waits","entry","rows"] 29 (BY K C CS):=by@⟨f,fd,F,m⟩:=t.s_entry_well;#⟨f,fd,J3 F c3.c t.m_len TF TU BH,F.kp,sU F λz z z z z z z z z z=>rfl,m⟩
 !AW:bI P w K mg base "all_well" ["ground","paper","counted","waits"] 30 (BO K C CS):=by@⟨f,fd,F,m⟩:=t.s_all_well;#⟨f,fd,JW F t.m_zip BW Yd,F.kp,sU F λz z z z z z z z z z=>rfl,m⟩
 !PS:bI P w K mg base "paper_shows" ["one","other","paper"] 41 (B7 10):=by@⟨f,fd,F,m⟩:=t.s_paper_shows;#⟨f,fd,J9 F c2.c NP GD AF RC WB AW,F.kp,sR F λz z z z z z z z z=>rfl,m⟩
 !V0:=qP t.s_refuse_no_pair R.x_NoPair IS
 !Yq:=zM t.s_paper_shows V0
 !Ye:=zL t.s_entry_worths V0
 !KN:=xr (P:=P) (w:=w) (base:=base) t.s_law_kinds R t.m_isinstance t.m_ValueError
 !RF:=j9 (P:=P) (w:=w) (base:=base) t.s_law_refused λF=>ER F R Yq Ye KN
 !CP:bI P w K mg base "_law_copied" ["program"] 1 BU:=j9 t.s_law_copied λF=>J1 F t.m_list
 !ST:bI P w K mg base "_law_strangers" ["program"] 1 uQ:=j9 t.s_law_strangers λF=>EX F t.m_int t.m_len
 !EN:bI P w K mg base "_law_entry" ["one","other","row","far"] 1 BZ:=j9 t.s_law_entry λF=>J4 F t.m_int t.m_len
 #J8 F t.m_len t.m_range t.m_isinstance t.m_bool (PR.mono (by left)) (NU.mono (by left)) (CE.mono (by left)) (OV.mono (by left)) (GP.mono (by left)) (CP.mono (by left)) (EN.mono (by left)) (PS.mono (by left)) (ST.mono (by left)) (RF.mono (by left))
end TW
namespace TW
open PySem L2
def walk {l:PySem.W.OpenLaw}{q:Program}{loose:O Str}{XP:(Str->Option Value)->Heap->Prop}{YP:World->Heap->Prop}{d:DefRec}{K:Params->ad2}(hn:l.most=S 63)(hdf:d.params.defaults=[])
   (hY:∀(w:World) (h:Heap),YP w h->(K w.params).In h)
   (F:∀(w:World) (mg:Str->Option Value) (fa:J) (h:Heap),(K w.params).In h->h.Ns aeZ mg->mg d.name=S (.ref fa) ->
     ∃fd:aef,(∀(s:Shared) (u:Value),BindsTo s fd ⟨[u],[]⟩ [("script",u)])/\∀base:Heap,(K w.params).In base->base.Ns aeZ mg->aL l.prog w (K w.params) mg base cm 65 fa fd ["script"] (wg (K w.params))) :
   PySem.W.WalkO q loose XP YP l.row.toRowW d [] (λf vs=>PySem.call f vs):=
 L2.Gb (n:=63) (k:=65) (x:="script") (CX:=λy=>cm) (sp:=λw=>wg (K w.params)) hn (by left) hdf ⟨rfl,by left,by left⟩ hY F (λy y a ns hl y hS=>⟨a,ns,rfl,hS,hl,λy=>rfl⟩) λy y y y y z=>z
end TW
namespace PySem.W.Fast
open Lean in
local macro"tw"ns:num*:command=>return⟨mkNullNode (<-ns.mapM fun n=>do let i:=mkIdent (.mkSimple s!"tw{n.getNat}");`(def $i:ident:=0))⟩
tw 10062782187509569481 10127826384669305981 10142082979488656216 10150027618576767712 10158132694138807767 10182405291403876734 10205083989924786681 10229345077192456999 10237849036018980938 10243434982099664568 10259577246368419204 10325053858364389797 10368999357138463407 10371084479969959442 10399045198262393926 10446263525512052969 10471746998181461603 1050361504440100531 10538890702424268957 10554552907696374548 10566810970724771445 10589008640591458836 1064552063475158270 10670922233703877210 10687109334125944809 10738039184991161092 1076465478564134816 1086575977822718600 10878362360947592376 10884865558157914900 10910048383130322859 10914850848744884375 1093841388447158271 10971675984971659851 10973400733325581041 10992729846244817773 10999516586766645647 11016371294675501125 11090231347648453038 11130367701342316074 1115045391328289248 11299001214333870942 11299586560584098959 11312046850824196670 11344614809434745982 11350143962378297626 11357074853635434926 11366057612281640664 11410019014241576047 11445569669514101991 11498744601303007368 11508469118143107288 11527469252667292376 11546000211819677097 11575662960405759162 11592436136431934368 11605652744580867747 11632492386332219972 1165257828954525111 1168868555124066136 1169233412408527481 11702797699311577909 11729203783818822 11760005004960545856 11774142721921208903 11810828334496878877 11885214011996021196 11903374942397232706 11910603112446748822 11944068477545399187 11965112463726263324 12001194714417324091 12037112414334321347 1209418557919592249 1211392063728204930 12129009961105166618 12177490768159064797 12229123419266571262 12235845903482410253 12319694747986264292 12326444540762653735 12339062590129057815 12381609196045625257 1241728161989705437 12441666048438329840 12496722976116297928 12530531191302102609 12553913235375461557 12558279154587844503 12647244783119415760 12704065193178411694 12750435860391057032 12854646403533283638 1287186093043139109 12913412911049368937 13001303386714025053 13001578482848648574 13003727098794403975 13010516457471810168 13043450725905498613 13065639898265432333 13085019748608189577 13109331829259011729 13127578029050412922 1314961063658884207 131687656306843815 13181108717451531842 13183530786833526576 13200654899134004706 13261510713199598728 13285552082943730376 13301377839717274270 13317744639283184346 13324647570241395028 13370235594063649255 13388077009212037688 1339145137803575844 13410571454822910136 1341295813904997169 13423839722040388436 13432615928520231893 13456741969596709561 13482508917241457940 13511058851780935476 13529646695530060125 13550466867223170639 13556658953801775751 13682756134153200623 13685636043949169531 13751708258105834217 13762724126792772257 13767108159668125078 13823517214570132253 13832996088704721870 13833066312336156195 13854039207755796827 13859861927390819745 13899527061300044212 13950654888080839626 13992970474833171812 14050548849576796273 1406668302544513680 14147995303110205790 14179726136424522328 14200672820826549610 14220223810020051207 14268812632693278192 14329797971342337035 14333821785348211503 14355243572944645598 14412109237614523836 1443944580471776128 14446884431947340096 14453160711309385344 14470524967652408361 14494970462937001178 14518619539747738918 14554244467919299602 14575399937431437690 14594054244873390883 14639892923354011672 14640833619353597631 14644874480849284886 14653666833281885663 14798747368403617776 14826076700919957539 14837303208884391214 14858803678977991974 14866788181805714280 14918559740765696000 14949973204105666497 14971802617935428954 14982750578680260705 15023300222820790288 15024024004144751580 15024732443059633710 15046559431336455675 15144375811283918359 15164433450945602356 15169246689442273914 15189275375042967689 15190066184240576042 15204939220220777826 15205764139025871668 15208287983112423660 15239475439844402350 15284366511949033732 15296843327440169687 1529771754530425852 15305270601216217199 15346751025227821791 15384234893318969995 15397880819634815415 15452515033646308879 15476466749447301135 15484990920229792906 15513410585976995641 15522189859600285057 15577168640860373346 15676449245163313395 15699264995271926286 15709018884419196717 157098827774235755 1572596022588694 15728415564632779005 157828874030806470 15783294883209163144 159326535377231569 1599132753660007647 16044498531400650655 16079368351016561202 16123236280376673337 16172538046091339692 16184413677314729575 16293474262772949158 16318528801719590911 16384429496482671629 16400264403864656047 16415957074732969103 16416733290250173036 16419546547086662510 16430488665224587036 16431026403722044249 16435269730974088109 16495892969709070697 1650707844752063854 16509351982443115811 16528886446509423360 16535482376694988082 16554896424131782945 16615987539676053413 16630761765165120584 16671734676162265145 16693316653792071289 16718414301565024503 16772388098585040842 16782381509590055381 16821159969964237615 16852503951766420757 16892279657917223441 16899462307822685783 17002249361002930626 17030012865256162222 17075190770849098503 17078449111433886873 17169055457975619723 17252790944447242992 17267338113655120547 1728249581845029159 17288150566221183271 17298219518535906979 17350752945194851962 17362416838300356814 174011842082670754 1748147771356233568 17536157506906825733 17617356155765602452 17619539362566377290 17672028038443400757 17718207402682952483 17718687148498604701 17722624525201620199 17797449636879377478 1781880532996238825 17858222074673869050 17868963073185438780 17871253791879970502 17889577806483448591 17922501913698858486 17942569216029203527 17978231571661820646 18004054087169051563 18010298700021314776 18027630924442339493 18053019482304376324 18067427923992286750 18126067460939883695 18127837318468152409 18153316254937285494 18154594934832147537 18206484890662540433 18220026675304474043 18332273047321737102 18351796584754081530 18352801800039330073 18396938606488438203 18404009248687199599 1881507884481714504 1904023836026213145 1950103324221708861 1995790843051882724 2034812292561213731 2043456574630963033 2219947840952128076 2233455286987182330 2264537545943914548 2362764698701834590 2377920738757564713 2436168602544039352 2518547014507257485 2519454888649598810 2576101034542670484 2628784936346198727 2644333282912716017 2687916406832267780 2703417765911387141 2708622913931609855 2784420023431527883 2880427634300890996 2888839792937481605 2893577830939742936 2898529944806094287 2927609792383887868 2969488723173248204 301861029723063031 3037206786645743332 3051294608004419671 3087613194023989212 3142265122145111684 3172440841105534820 3194681713572641937 3195318400325843444 3205050641224001962 3234833582280006979 3243932852480933842 3244486456006850941 3283760936137025603 3357651093497981832 3446286210684846842 358267275838710313 3593478570981661910 3646965714762613247 3712952855515985755 3718467150409563151 3731958174346396462 3775910815161646557 3779148119095212601 3789585788807447726 3822756398946976193 3831649792487886008 385006389525332938 3873177332096445428 3874268481211314647 3963737093263305347 3970783573409824173 4002548984637186372 4108297862749611006 4119421485124806529 4127848138544601999 4159910293883395944 426874836173477570 4290188981959947465 4295539109927948982 4348380861222501143 435150036145283484 4372170692176338484 4436045438535324665 4460150265506279978 4477027156626275023 4570207267727206869 4617160129243546003 4692141744338909996 4760352913566481610 4822573933012617962 48226385749839339 4827893591966747623 4841199624208703294 4851239918127056260 488120549668040300 4891877317064909401 4895070619363087305 490495306079647312 4926047515772494424 4932249159092954312 4940662035802528147 4970893553420851519 4977337121929983107 4999882161063148192 5012335241086590040 5056796028576172346 5071053941793316022 5175669924963163163 5192147904289297693 5205342481257732082 5249783077151757821 5283224346561323893 5298829017876267817 5336054943185594922 5346885181737602781 5381236723602844102 5405040263876225884 5445180317115476922 5481386123795961491 5530324014081480894 5560210204838824402 5603532680586378123 562132996098428597 5628785517670317086 5633927521372896878 5638640814001904711 5656670750268636756 5771706428073211449 5781790890058603270 5822047182645204905 5833272242427585244 5847786391127784265 5884913338259536843 5925446939594733604 5935989322321949353 5939111672802227271 5953319597162311205 5954061067702481682 5985952502143229386 5987074903641803347 605509175077904322 6090983944844866796 6143310343066216931 621475401174291323 6222531388916610527 6233449069757144573 6276144730765718765 6359569877803727103 6391688051297376544 6408172529496198544 6420691230902699776 6457856433302746295 6472182705808853472 6516813821526864713 6555325658006219928 6558356969275893407 6574582829735083642 6578165848654110418 6609450744271079601 6645109164171567402 670747712720322529 6761600532364851791 6828623696898493884 6829833258320087606 6990486866593763365 6996431386134241588 700828860981562641 7026200246737347707 7041972166853365594 707210434884153827 708190674697640134 7103687904344448768 7106882197631879502 7124689812935416518 7125612858754567290 7134077731858736397 7185458071689544766 7218709847405968442 7223901264377064316 7276317272193900389 7334495250577058867 7335376326686746671 7417476827544307660 7429712931990850086 7450629875572502947 747492357118935513 7479523425515635886 7481906638527981422 7482479843505766447 7493511043938471999 7525799210611154972 7571914362369192807 7619583915823069327 7619763813888738663 763161607232857981 7644503387953891089 7662648929654007810 7711950170616971546 7730595082036379752 7738658204702659012 7750947552015381458 7762921081574952311 7783850543831377935 7825296387039593950 7873040157740753975 7873910539504940101 789764808660365371 7902594679665021325 790956189687288434 7910296868881707426 7938120999044376264 7973979920481470881 7977605403664186352 7998387329333208353 8006747104381541937 8012629972726914322 8015015543945591940 8051800760282072668 8065639830031305922 8346942779506640794 8387219573762160138 8421580266038215366 8464207190237043302 8478576018397448789 8557038825704159677 8598471318341258986 8649089635641425817 8668323727344072957 8745200266427893008 8767726419548000575 8780531268881542072 8986570264797341943 900248902840433937 9029048967564669691 9032719004107460471 9116744895343570793 9129513448846346820 9164931790884142914 9184897633159302902 9260432957651665676 9267421803358181931 9278053037262261470 9299206148214585953 9329129966884392227 934384338857447135 9381646880800015459 9389533720401399621 9415525536823131856 9483946707584784026 9543012047814564680 9570473051578520291 9594089757883240301 9598184230329566786 9599167478290905995 9628229177361846977 965831030071212878 9662040488082799274 9664052683206043753 9664162377434765244 9674794695166261349 9685795835643461387 9691374622516501126 9708129180241546793 9715622522735585313 9818584256205752690 9823606089606966882 9854460578952857020 986842142977053450 9892831914836978304 9915292888876034098 9924315858885867341 992608161287502738 9934330237446679574 9986887306696109194
end PySem.W.Fast
open PySem PySem.W PyProof.Rows
set_option maxRecDepth 100000 in
set_option maxHeartbeats 0 in
theorem PySem.Challenge.cw_twinwalk_k20_papers_of_none_holds : PySem.Challenge.rw_twinwalk_k20_papers_of_none.Holds := by
 w_on;o_law;k_head;(case hw=>w_witness2)
 k_fill
 show TW.walk (l:=PySem.Challenge.rw_twinwalk_k20_papers_of_none) rfl rfl (fun w h Y8=>PySem.W.kIn_of Y8) ?F
 case F=>
   intro w mg fa h KX G hmg
   show TW.IP hmg ?_
   refine' (⟨TW.aO KX G ?_ ?_ ?_ ?_,TW.aO KX G ?_ ?_ ?_ ?_,TW.aO KX G ?_ ?_ ?_ ?_,TW.aO KX G ?_ ?_ ?_ ?_,TW.aO KX G ?_ ?_ ?_ ?_,TW.aO KX G ?_ ?_ ?_ ?_,TW.aO KX G ?_ ?_ ?_ ?_,TW.aO KX G ?_ ?_ ?_ ?_,TW.aO KX G ?_ ?_ ?_ ?_,TW.aO KX G ?_ ?_ ?_ ?_,TW.aO KX G ?_ ?_ ?_ ?_,TW.aO KX G ?_ ?_ ?_ ?_,TW.aO KX G ?_ ?_ ?_ ?_,TW.aO KX G ?_ ?_ ?_ ?_,TW.aO KX G ?_ ?_ ?_ ?_,TW.aO KX G ?_ ?_ ?_ ?_,TW.aO KX G ?_ ?_ ?_ ?_,TW.aO KX G ?_ ?_ ?_ ?_,TW.aO KX G ?_ ?_ ?_ ?_,TW.aO KX G ?_ ?_ ?_ ?_,TW.aO KX G ?_ ?_ ?_ ?_,TW.aO KX G ?_ ?_ ?_ ?_,TW.aO KX G ?_ ?_ ?_ ?_,TW.aO KX G ?_ ?_ ?_ ?_,TW.aO KX G ?_ ?_ ?_ ?_,TW.aO KX G ?_ ?_ ?_ ?_,TW.aO KX G ?_ ?_ ?_ ?_,TW.aO KX G ?_ ?_ ?_ ?_,TW.aO KX G ?_ ?_ ?_ ?_,TW.aO KX G ?_ ?_ ?_ ?_,TW.aO KX G ?_ ?_ ?_ ?_,TW.aO KX G ?_ ?_ ?_ ?_,TW.aO KX G ?_ ?_ ?_ ?_,TW.aO KX G ?_ ?_ ?_ ?_,TW.aO KX G ?_ ?_ ?_ ?_,TW.aO KX G ?_ ?_ ?_ ?_,TW.aO KX G ?_ ?_ ?_ ?_,TW.aO KX G ?_ ?_ ?_ ?_,TW.aO KX G ?_ ?_ ?_ ?_,TW.aO KX G ?_ ?_ ?_ ?_,TW.aO KX G ?_ ?_ ?_ ?_,TW.aO KX G ?_ ?_ ?_ ?_,TW.aO KX G ?_ ?_ ?_ ?_,TW.aO KX G ?_ ?_ ?_ ?_,TW.aO KX G ?_ ?_ ?_ ?_,TW.FY KX G ?_ ?_ ?_ ?_ ?_,TW.lK KX G ?_ ?_ ?_ ?_ ?_,TW.lK KX G ?_ ?_ ?_ ?_ ?_,TW.lK KX G ?_ ?_ ?_ ?_ ?_,TW.lK KX G ?_ ?_ ?_ ?_ ?_,⟨_,⟨aeR KX G ?_,⟨?_,?_,?_,?_⟩,⟨?_,?_,?_,?_,?_,trivial⟩⟩,⟨_,_,L2.eR ?_ ?_ ?_,⟨?_,?_,?_,?_⟩⟩,⟨_,_,L2.eR ?_ ?_ ?_,⟨?_,?_,?_⟩⟩,⟨_,_,L2.eR ?_ ?_ ?_,⟨?_,?_,?_⟩⟩,⟨_,_,L2.eR ?_ ?_ ?_,⟨?_,?_,?_⟩⟩,⟨_,_,L2.eR ?_ ?_ ?_,⟨?_,?_,?_⟩⟩⟩,⟨_,⟨aeR KX G ?_,⟨?_,?_,?_,?_⟩,⟨?_,?_,?_,?_,?_,trivial⟩⟩,⟨_,_,L2.eR ?_ ?_ ?_,⟨?_,?_,?_,?_⟩⟩,⟨_,_,L2.eR ?_ ?_ ?_,⟨?_,?_,?_⟩⟩,⟨_,_,L2.eR ?_ ?_ ?_,⟨?_,?_,?_⟩⟩,⟨_,_,L2.eR ?_ ?_ ?_,⟨?_,?_,?_⟩⟩⟩,⟨_,⟨aeR KX G ?_,⟨?_,?_,?_,?_⟩,⟨?_,?_,?_,?_,?_,?_,trivial⟩⟩,⟨_,_,L2.eR ?_ ?_ ?_,⟨?_,?_,?_,?_⟩⟩,⟨_,_,L2.eR ?_ ?_ ?_,⟨?_,?_,?_⟩⟩⟩,⟨_,_,_,_,_,_,_,_,_,_,_,_,TW.wz KX G ?_ ?_ ?_ ?_,TW.wz KX G ?_ ?_ ?xl_NoPair ?_,TW.uW ?_ ?_ ?_ ?xhn ?xtk ?_ ?_ ?xl_NoPair,?_,?_,?_,?_,?_,TW.wz KX G ?_ ?_ ?xl_NoWorths ?_,TW.uW ?_ ?_ ?_ ?xhn ?xtk ?_ ?_ ?xl_NoWorths,?_,?_,?_,?_,?_,TW.wz KX G ?_ ?_ ?xl_NoProgram ?_,TW.uW ?_ ?_ ?_ ?xhn ?xtk ?_ ?_ ?xl_NoProgram,?_,?_,?_,?_,?_,aeR KX G ?_,aeR KX G ?_,aeR KX G ?_,aeR KX G ?_,aeR KX G ?_,aeR KX G ?_,aeR KX G ?_,aeR KX G ?_⟩,aeF KX G ?_,aeF KX G ?_,aeF KX G ?_,aeF KX G ?_,aeF KX G ?_,aeF KX G ?_,aeF KX G ?_,aeF KX G ?_,aeF KX G ?_,aeF KX G ?_,aeF KX G ?_,aeF KX G ?_,aeF KX G ?_⟩ : TW.M0 _ _)
   any_goals first|k_is|k_exc|rfl
   any_goals first|k_is|k_exc|rfl
   all_goals first|kit_is|decide|(repeat' constructor)
