import PyProof.Rows.All
import Wide.All
import OpenK.AllK
import Wide.FinOn
import Lean
import PyProof.EqAt
import PyProof.EqKinds
import PyProof.TupleCall
import PyProof.SumWalkG
import KE.KTryMore
import PyProof.NeKinds
import PyProof.ExcAttrAll.ValueError
import KE.KRevIter
import PyProof.ReprRoads
import PyProof.ReprLen
import PyProof.TupleOfSeq
import KE.BitLaws
import PyProof.Rows.SortRuns
import PyProof.Rows.SortShell
import KE.KSortKey
import PyProof.WalkInts
import KE.KSortTup
import PyProof.DictValues
import PyProof.DictItems
import KE.KDictList
import KE.KDictSum
import KE.KIntText
import PyProof.StrLoop
import PyProof.StrWalks
import PyProof.StrCalls2
import PyProof.ConsumeWalk
import PyProof.StrLawsRepr
import PySem.Challenge.RW_claspwork_k32_works_on_the_way
set_option genSizeOf false
set_option Elab.async false
set_option linter.all false
set_option maxRecDepth 100000
local macro_rules
 | `(tactic| omega)=>`(tactic| first | lia | omega (config:={}))
open List renaming getElem?_eq_getElem → HP,length_map → HQ,getElem?_eq_some_iff → HR,mem_map → HW,getElem?_map → HX,length_append → HY,size_toArray → HZ,mem_of_getElem? → Ib,mem_append → Ic,mem_filter → Ie,range → Ig,mem_singleton → Ih,mem_range → Ii,length_range → Ij,append_assoc → Ik,mem_cons_of_mem → Im,mem_append_right → Ip,mem_cons_self → Iq,nodup_iff_pairwise_ne → Iu,length_take → Iw,append_nil → Iy,mem_cons → IA,length_cons → ID,filter_append → IE,getElem?_append_right → IG,filter_cons_of_pos → IH,filter_cons_of_neg → II,pairwise_map → IJ,getElem?_append_left → IK,length_set → IM,length_filter_le → IP,pairwise_append → IQ,map_append → IS,take_length → IV,mem_append_left → IW,all_eq_true → I0,pairwise_iff_getElem → Ja,map_map → Jf,nodup_range → Jg,getD_eq_getElem?_getD → Ji,nodup_append → Jj,getElem?_eq_none → Jm,take_append_drop → Jr,map_cons → Js,mem_iff_getElem? → Jx,getElem_of_mem → Jz,length_eq_zero_iff → JC,perm_ext_iff_of_nodup → JD,exists_cons_of_length_eq_add_one → JE,filter_eq_nil_iff → JG,nodup_cons → JI,filter_nil → JJ,map_congr_left → JL,mem_map_of_mem → JM,range_succ → JN,getElem?_drop → JO,not_mem_nil → JP,mem_flatMap → JQ,filterMap_cons → JR,getElem?_range → JS,pairwise_flatMap → JX,length_drop → J0,getElem_mem → J1,filter_congr → J2,ext_getElem? → J3,pairwise_lt_range → J6,take_of_length_le → J7,getD → Kb,getElem?_take_of_lt → Ke,length_erase_of_mem → Kf,getElem?_replicate → Kh,flatMap_append → Kk,lookup_cons → Km,length_pos_of_mem → Kq,drop_eq_nil_of_le → Kr,find?_cons → Ks,filter_map → Kt,perm_append_comm → Ku,flatMap_cons → Kz,replicate → KA,mem_flatten → KC,mergeSort_perm → KH,of_mem_zip → KJ,any_cons → KL,length_nil → KN,pairwise_mergeSort → KQ,getElem?_set_self → KS,take_add_one → KU,nodup_nil → KY,length_replicate → KZ,pairwise_flatten → K0,flatMap_nil → K2,getElem?_set_ne → K5,mem_of_mem_take → K7,mem_filterMap → Ld,filter_filter → Lf,drop_eq_getElem_cons → Lj,getLast?_eq_getElem? → Lk,length → Lr,pairwise_singleton → Lu,zip → LA,getElem_inj → LB,length_singleton → LH,foldl_cons → LK,nil_append → LM,rec → LV,mem_erase_of_ne → LW,getLastD_concat → LX,take_take → LZ,take_zero → L3,filter_eq_self → L9,zip_cons_cons → Mj,flatten_cons → Mp,map_nil → Mu,map_id' → MB,ext_getElem → MJ,countP_cons → MK,map_snd_zip → MN,filter_cons → MO,range'_succ → MP,cons_ne_nil → MQ,any_eq_true → MR,length_zip → MV,all_cons → M3,map_drop → M5,map_id → Nc
open PySem.W renaming Frag → HS,mg_none_of → Jo,fnOf → Jp,kia_one → JH,kitOne → JT,KatTups → J5,mg_of → Ki,keepIn → Ko,codeIn → Kp,methodObj → Lm,cellsFrom_some → LD,instObj → LF,nsIn → LS,lookIn → LY,hideAll_get → L7,of_hideAll → Md,excIn → Me,kitx_list → Mk,kitx_dict → Ml,plainGet → ME,hideAll → MS,OpenLaw → MT,findIn → MW,kIn_of → MX,WalkO → M4
open PySem.Heap renaming get?_push_of_some → HU,lt_size → Il,get?_push_size → Ir,get?_update_other → Jw,get?_update_self → JU,size_push → Kc,get?_update_ne → KG,get?_push_ne → KW,size_update → K3
open Nat renaming le_refl → HV,ne_of_lt → IB,beq → IL,zero_le → IT,lt_of_lt_of_le → IY,zero_add → IZ,le_trans → Jk,max_eq_right → Jq,lt_succ_of_lt → JB,lt_of_le_of_lt → JF,lt_irrefl → JK,not_lt_zero → JV,ne_of_gt → J9,le_succ → Kj,lt_succ_self → Kl,min_eq_left → Kv,add_sub_cancel_left → KP,le_add_right → K1,le_of_eq → Le,ble → Lw,mul_assoc → Lx,le_of_not_lt → LC,le_of_lt → LG,strongRecOn → LI,le_antisymm → LJ,max_eq_left → LN,ble_eq_true_of_le → LO,le_of_ble_eq_true → LP,eq_of_beq_eq_true → LQ,mul_le_mul → L5,testBit_or → L6,add_le_add_left → L8,lor → Ma,testBit_two_pow → Mb,add_sub_cancel → Mf,lt_of_le_of_ne → Mg,sub_le → Mn,lt_trichotomy → Mo,lt_of_succ_lt → Mq,add_zero → Mv,sub_zero → Mx,succ_pos → Mz,min_self → MC,mul_comm → MD,min_eq_right → MM,one_mul → MU,rec → M6,beq_refl → M8,add → Na,mul → Nd
open Classical renaming byContradiction → Ia,choose_spec → Ka,axiomOfChoice → KO,choose → MG
open Bool renaming false_ne_true → Io,and_eq_true → Iv,false_eq_true → Jl,eq_iff_iff → Jt,or_eq_true → JA,false_and → Kn,not_eq_true' → Kx,eq_false_iff → Ky,not_eq_true → K4,rec → Lh,and_false → Li,true_or → Ms,false_or → M1
open Int renaming toNat_natCast → Iz,natCast_nonneg → Jn,le_of_lt → Jy,emod_nonneg → Kw,le_refl → KD,zero_add → KI,emod_lt_of_pos → KR,lt_trichotomy → Lq,toNat → LR,not_lt → LU,le_trans → Mw,lt_irrefl → M7,mul_one → M9
open PySem.F renaming plainAttrs_list → IF,slot_list_append → Jc,type_list_append → Jd,slot_list_extend → JY,type_list_extend → JZ,excBase_ValueError → Lb,slot_dict_update → Lp,slot_list_count → Ly,type_list_count → Lz
open Array renaming toList_append → IU,length_toList → Jb,getElem?_eq_some_iff → Je,size_push → Ju,getElem?_eq_getElem → Jv,getElem?_toList → JW,perm_iff_toList_perm → J8,toList_reverse → K6,getElem?_setIfInBounds → K8,toList → Lc,size_extract → Lg,size_setIfInBounds → Lo,size_map → L4,append_assoc → Mc,forIn_toList → Mh,size_zip → MY
open Option renaming map_eq_some_iff → Jh,map_some → La,isSome_iff_exists → Ln,isSome_map → Mm,getD_none → MF
open PyProof.Rows renaming callWith_type1 → J4,slot_tuple_getitem → Kg,get?_update_seq → K9,callWith_builtin1 → Mr,callWith_kw → MZ,ge_int → Nb
open Prod renaming ext → Ls
namespace L2
open PySem PySem.Spec PyProof.Rows

noncomputable abbrev Key:=Sum Int Str
noncomputable def pS:Key->Value->Bool
 | .inl k,v=>Value.isInt k v
 | .inr x,v=>Value.isStrOf x v
noncomputable def Fw (w:World):Key->Int
 | .inl k=>hashInt k
 | .inr x=>hashStr w x
theorem cg:∀ {k:Key} {v:Value},pS k v=true->(∃ i t,k=Sum.inl i/\v=Value.int i t)\/(∃ x t,k=Sum.inr x/\v=Value.str x t)
 | .inl i,v,h=>by
  obtain⟨t,e⟩:=Value.isInt_shape (k:=i) (v:=v) h;exact .inl ⟨i,t,rfl,e⟩
 | .inr x,v,h=>by
  obtain⟨t,e⟩:=Value.isStrOf_shape (x:=x) (v:=v) h;exact .inr ⟨x,t,rfl,e⟩
theorem xQ (i:Int)(t:Tok):pS (.inl i) (.int i t)=true:=by simp[pS,Value.isInt]
theorem xR (x:Str)(t:Tok):pS (.inr x) (.str x t)=true:=by simp[pS,Value.isStrOf]
theorem Cr (a b:Int):decide ((Sum.inl a:Key)=Sum.inl b)=(a == b):=by
 by_cases e:a=b
 ·subst e;simp
 ·have h:¬ (Sum.inl a:Key)=Sum.inl b:=fun q=>e (Sum.inl.inj q)
  rw[decide_eq_false h];exact(beq_eq_false_iff_ne.mpr e).symm
theorem Cs (a b:Str):decide ((Sum.inr a:Key)=Sum.inr b)=decide (a=b):=by
 by_cases e:a=b
 ·subst e;simp
 ·have h:¬ (Sum.inr a:Key)=Sum.inr b:=fun q=>e (Sum.inr.inj q)
  rw[decide_eq_false h,decide_eq_false e]
theorem Ct (a:Int)(b:Str):decide ((Sum.inl a:Key)=Sum.inr b)=false:=decide_eq_false (fun q=>nomatch q)
theorem Cu (a:Str)(b:Int):decide ((Sum.inr a:Key)=Sum.inl b)=false:=decide_eq_false (fun q=>nomatch q)

noncomputable def cH (prog:Program)(w:World):PySem.KeyKind prog w Key where
 is:=pS
 hash:=Fw w
 inj:=fun v a b ha hb=>by
  rcases cg ha with ⟨i,t,rfl,rfl⟩ | ⟨x,t,rfl,rfl⟩
  ·rcases cg hb with ⟨j,u,rfl,e⟩ | ⟨y,u,rfl,e⟩
   ·injection e with e1 _;rw[e1]
   ·exact nomatch e
  ·rcases cg hb with ⟨j,u,rfl,e⟩ | ⟨y,u,rfl,e⟩
   ·exact nomatch e
   ·injection e with e1 _;rw[e1]
 byValue:=fun k v h=>by
  rcases cg h with ⟨i,t,rfl,rfl⟩ | ⟨x,t,rfl,rfl⟩ <;> rfl
 pyHash:=fun hv h=>by
  rcases cg hv with ⟨i,t,rfl,rfl⟩ | ⟨x,t,rfl,rfl⟩
  ·exact wpAny_pyHash_int h
  ·exact wpAny_pyHash_str h
 eqBool:=fun hu hv h=>by
  rcases cg hu with ⟨i,t,rfl,rfl⟩ | ⟨x,t,rfl,rfl⟩
  ·rcases cg hv with ⟨j,u,rfl,rfl⟩ | ⟨y,u,rfl,rfl⟩
   ·rw[Cr] at h;exact wpAny_eqBool_int h
   ·rw[Ct] at h;exact SeqAt.EqAt.int_str i t y u _ _ _ _ h
  ·rcases cg hv with ⟨j,u,rfl,rfl⟩ | ⟨y,u,rfl,rfl⟩
   ·rw[Cu] at h;exact SeqAt.EqAt.str_int x t j u _ _ _ _ h
   ·rw[Cs] at h;exact wpAny_eqBool_str h
 «strs»:=fun k x t v h=>by
  rcases cg h with ⟨i,u,rfl,e⟩ | ⟨y,u,rfl,e⟩
  ·exact nomatch e
  ·injection e with e1 _;subst e1;cases v <;> rfl

theorem sT (prog:Program)(w:World)(i:Int)(t:Tok):(cH prog w).is (.inl i) (.int i t)=true:=xQ i t
theorem sU (prog:Program)(w:World)(x:Str)(t:Tok):(cH prog w).is (.inr x) (.str x t)=true:=xR x t
end L2

namespace L2
open PySem PySem.Spec PyProof.Rows

inductive V where
 | non | bl (b:Bool) | int (i:Int) | str (x:Str) | byt (b:Array UInt8) | flt (b:UInt64) | ref (a:Addr) | ty (n:String)
 deriving DecidableEq

noncomputable def RelV:V->Value->Prop
 | .non,u=>u=Value.none
 | .bl b,u=>u=Value.bool b
 | .int i,u=>∃ t,u=Value.int i t
 | .str x,u=>∃ t,u=Value.str x t
 | .byt b,u=>∃ t,u=Value.bytes b t
 | .flt b,u=>∃ t,u=Value.float b t
 | .ref a,u=>u=Value.ref a
 | .ty n,u=>u=Value.type n

noncomputable abbrev Vals:List V->List Value->Prop:=Paired RelV
theorem Vals.length {xs:List V}{us:List Value}(r:Vals xs us):xs.length=us.length:=Paired.length r
theorem Vals.get:∀ {xs:List V} {us:List Value} {i:Nat} {x:V},Vals xs us->xs[i]?=some x->∃ u,us[i]?=some u/\RelV x u
 | _,_,_,_,.nil,e=>by simp at e
 | _,_,0,_,.cons r _,e=>by simp at e;subst e;exact⟨_,rfl,r⟩
 | _,_,i+1,x,.cons _ t,e=>by
  obtain⟨u,h1,h2⟩:=Vals.get (i:=i) (x:=x) t (by simpa using e);exact⟨u,by simpa using h1,h2⟩
theorem Vals.set {x:V}{u:Value}(r:RelV x u):∀ {xs:List V} {us:List Value} (i:Nat),Vals xs us->Vals (xs.set i x) (us.set i u)
 | _,_,_,.nil=>.nil
 | _,_,0,.cons _ t=>.cons r t
 | _,_,i+1,.cons q t=>.cons q (Vals.set r i t)
theorem Vals.append:∀ {xs ys:List V} {us ws:List Value},Vals xs us->Vals ys ws->Vals (xs++ys) (us++ws)
 | _,_,_,_,.nil,s=>s
 | _,_,_,_,.cons r t,s=>.cons r (Vals.append t s)
theorem Vals.take:∀ {xs:List V} {us:List Value} (n:Nat),Vals xs us->Vals (xs.take n) (us.take n)
 | _,_,0,_=>.nil
 | _,_,_+1,.nil=>.nil
 | _,_,n+1,.cons r t=>.cons r (Vals.take n t)
theorem Vals.drop:∀ {xs:List V} {us:List Value} (n:Nat),Vals xs us->Vals (xs.drop n) (us.drop n)
 | _,_,0,r=>r
 | _,_,_+1,.nil=>.nil
 | _,_,n+1,.cons _ t=>Vals.drop n t
noncomputable def vm:Option V->Option Value->Prop
 | some v,some u=>RelV v u
 | none,none=>True
 | _,_=>False
noncomputable def KV {κ:Type}:List (κ×V)->List (κ×Value)->Prop:=Paired fun (p:κ×V) (q:κ×Value)=>p.1=q.1/\RelV p.2 q.2

noncomputable def kV:Key->V
 | .inl i=>.int i
 | .inr x=>.str x

inductive HO where
 | lst (xs:List V)
 | tup (xs:List V)
 | dK (kvs:List (Key×V)) | dT (kvs:List (List Key×V))
 | set (S:Int->Bool) (n:Nat)
 | ins (C dx:Addr) (fs:List (Str×V))
 | own (x:Addr)
 | xd (fs:List (Str×V))
 | met (f x:Addr)
 | rng (lo hi:Int)
 | frz (o:Obj) (u:HO)
 | tbl (ps:Array Value)
 | ext (φ:Heap->Prop)

noncomputable abbrev Hp:=Addr->Option HO
noncomputable def upd (H:Hp)(a:Addr)(o:HO):Hp:=fun b=>if b=a then some o else H b
theorem ah {H:Hp}{a:Addr}{o:HO}:upd H a o a=some o:=by unfold upd;rw[if_pos rfl]
theorem aE {H:Hp}{a b:Addr}{o:HO}(h:b≠a):upd H a o b=H b:=by unfold upd;rw[if_neg h]
theorem AI {H:Hp}{a:Addr}{o u:HO}:upd (upd H a o) a u=upd H a u:=by
 funext b;unfold upd;split <;> rfl
theorem yR {H:Hp}{a b:Addr}{o u:HO}(h:H a=some o)(h':H b=some u)(d:o≠u):a≠b:=by
 intro e;subst e;rw[h] at h';exact d (Option.some.inj h')
theorem aM {H:Hp}{a b:Addr}{o:HO}(h:H a=some o)(h':H b=none):a≠b:=by
 intro e;subst e;rw[h] at h';cases h'

section
variable (P:Program)(w:World)
noncomputable def bL (H : Hp)(h : Heap)(a : Addr) : HO -> Prop
  | .lst xs => xs.length <= sizeLine /\ ∃ (its : List Value) (n : Nat), Vals xs its /\ h.get? a=some { cls := .type "list", data := .seq its.toArray n }
  | .tup xs => xs.length <= sizeLine /\ ∃ its : List Value, Vals xs its /\ IsTup h a its.toArray
  | .dK kvs => kvs.length <= sizeLine /\ (a == sysModules)=false /\ ∃ vs, KV kvs vs /\ h.DictOf (cH P w) a vs
  | .dT kvs => kvs.length <= sizeLine /\ (a == sysModules)=false /\ ∃ xs : List (List Key × Addr × Value),
      Paired (fun (p : List Key × V) (q : List Key × Addr × Value) => p.1=q.1 /\ H q.2.1=some (.tup (p.1.map kV)) /\ RelV p.2 q.2.2) kvs xs /\
      ∃ o es ep, h.get? a=some o /\ o.ExactDict /\ o.data=.dict es ep /\ es.toList=xs.map (entryOfKey (tupleKind (cH P w))) /\ (xs.map (·.1)).Nodup
  | .set S n => h.SetOf (intKind P w) a S n
  | .ins C dx fs => H dx=some (.own a) /\ fs.length <= 1000 /\ dx ≠ a /\ h.get? a=some (LF C dx) /\
      ∃ mA, h.Ns1 dx mA /\ (∀ f, vm (fs.lookup f) (mA f)) /\ PySem.Within mA (fs.map (·.1))
  | .own _ => ∃ o, h.get? a=some o
  | .xd fs => ∃ mA, h.Ns1 a mA /\ ∀ f, vm (fs.lookup f) (mA f)
  | .rng lo hi => ∃ t u v, h.get? a=some { cls := .type "range", data := .fields #[.int lo t, .int hi u, .int 1 v] }
  | .frz o u => h.get? a=some o /\ bL H h a u
  | .tbl ps => h.get? a=some { cls := .none, data := .fields ps }
  | .met f x => h.get? a=some (Lm (.ref f) (.ref x))
  | .ext φ => φ h /\ (∃ o, h.get? a=some o) /\ ∀ h1 h2 : Heap, φ h1 -> (∀ o, h1.get? a=some o -> h2.get? a=some o) -> φ h2
noncomputable def HOk (H:Hp)(h:Heap):Prop:=∀ a o,H a=some o->bL P w H h a o
end

section
variable {P:Program}{w:World}{H H':Hp}{h h':Heap}{a:Addr}{o:HO}
theorem bL.lt (x:bL P w H h a o):a<h.objs.size:=by
 cases o with
 | lst xs=>obtain⟨_,_,_,_,e⟩:=x;exact Il e
 | tup xs=>obtain⟨_,_,_,p⟩:=x;exact p.lt
 | dK kvs=>obtain⟨_,_,_,_,o,_,_,e,_⟩:=x;exact Il e
 | dT kvs=>obtain⟨_,_,_,_,o,_,_,e,_⟩:=x;exact Il e
 | set S n=>obtain⟨o,_,_,_,e,_⟩:=x;exact Il e
 | ins C dx fs=>obtain⟨_,_,_,e,_⟩:=x;exact Il e
 | own y=>obtain⟨_,e⟩:=x;exact Il e
 | xd fs=>obtain⟨_,⟨_,_,_,e,_⟩,_⟩:=x;exact Il e
 | rng lo hi=>obtain⟨_,_,_,e⟩:=x;exact Il e
 | frz ob u=>obtain⟨e,_⟩:=x;exact Il e
 | tbl ps=>exact Il (show h.get? a=some _ from x)
 | met f y=>exact Il (show h.get? a=some _ from x)
 | ext φ=>obtain⟨_,⟨_,e⟩,_⟩:=x;exact Il e
theorem Paired.Cv {α β:Type}{F G:α->β->Prop}:∀ {l₁:List α} {l₂:List β},Paired F l₁ l₂->(∀ a b,F a b->G a b)->Paired G l₁ l₂
 | _,_,.nil,_=>.nil
 | _,_,.cons r t,f=>.cons (f _ _ r) (Paired.Cv t f)
theorem bL.qJ (x:bL P w H h a o)(k:∀ b u,(b=a\/H b=some (.own a))->h.get? b=some u->h'.get? b=some u)
  (ho:∀ b,H b=some (.own a)->H' b=some (.own a)) (ht:∀ b xs,H b=some (.tup xs)->H' b=some (.tup xs)):bL P w H' h' a o:=by
 induction o with
 | lst xs=>obtain⟨z,its,n,r,e⟩:=x;exact⟨z,its,n,r,k _ _ (.inl rfl) e⟩
 | tup xs=>obtain⟨z,its,r,ob,e,c⟩:=x;exact⟨z,its,r,ob,k _ _ (.inl rfl) e,c⟩
 | dK kvs=>obtain⟨z,y,vs,r,ob,es,ep,e,c⟩:=x;exact⟨z,y,vs,r,ob,es,ep,k _ _ (.inl rfl) e,c⟩
 | dT kvs =>
  obtain⟨z,y,xs,r,ob,es,ep,e,c⟩:=x;exact⟨z,y,xs,Paired.Cv r fun p q z=>⟨z.1,ht _ _ z.2.1,z.2.2⟩,ob,es,ep,k _ _ (.inl rfl) e,c⟩
 | set S n=>obtain⟨ob,es,ep,t,e,c⟩:=x;exact⟨ob,es,ep,t,k _ _ (.inl rfl) e,c⟩
 | ins C dx fs =>
  obtain⟨d,z,ne,e,mA,⟨od,es,ep,e2,c⟩,r⟩:=x;exact⟨ho _ d,z,ne,k _ _ (.inl rfl) e,mA,⟨od,es,ep,k _ _ (.inr d) e2,c⟩,r⟩
 | own y=>obtain⟨ob,e⟩:=x;exact⟨ob,k _ _ (.inl rfl) e⟩
 | xd fs=>obtain⟨mA,⟨od,es,ep,e,c⟩,r⟩:=x;exact⟨mA,⟨od,es,ep,k _ _ (.inl rfl) e,c⟩,r⟩
 | rng lo hi=>obtain⟨t,u,v,e⟩:=x;exact⟨t,u,v,k _ _ (.inl rfl) e⟩
 | frz ob u ih=>obtain⟨e,q⟩:=x;exact⟨k _ _ (.inl rfl) e,ih q⟩
 | tbl ps =>
  have e:h.get? a=some { cls:=.none,data:=.fields ps }:=x;show h'.get? a=some { cls:=.none,data:=.fields ps };exact k a _ (.inl rfl) e
 | met f y =>
  have e:h.get? a=some (Lm (.ref f) (.ref y)):=x;show h'.get? a=some (Lm (.ref f) (.ref y));exact k a _ (.inl rfl) e
 | ext φ=>obtain⟨p,⟨o,e⟩,st⟩:=x;exact⟨st _ _ p fun o q=>k _ _ (.inl rfl) q,⟨o,k _ _ (.inl rfl) e⟩,st⟩
theorem HOk.lt (x:HOk P w H h)(e:H a=some o):a<h.objs.size:=(x a o e).lt
theorem HOk.fresh (x:HOk P w H h)(e:h.objs.size<=a):H a=none:=by
 cases q:H a with
 | none=>rfl
 | some u=>exact absurd (IY (x.lt q) e) (JK _)
theorem HOk.kept (x:HOk P w H h)(k:∀ b u,h.get? b=some u->h'.get? b=some u):HOk P w H h':=fun a o e =>
 (x a o e).qJ (fun b u _ q=>k b u q) (fun _ q=>q) fun _ _ q=>q
theorem HOk.laid (x:HOk P w H h)(k:∀ b u,h.get? b=some u->h'.get? b=some u)(hp:h.objs.size<=a)(new:bL P w (upd H a o) h' a o):HOk P w (upd H a o) h':=fun b u e=>by
 have hn:=x.fresh hp;by_cases hb:b=a
 ·subst hb;rw[ah] at e;cases e;exact new
 ·rw[aE hb] at e;exact(x b u e).qJ (fun c v _ q=>k c v q) (fun c q=>by rw[aE (aM q hn)];exact q) fun c xs q=>by rw[aE (aM q hn)];exact q
end

noncomputable def Rd (H:Hp)(a:Addr)(u:HO):Prop:=H a=some u\/∃ o,H a=some (.frz o u)
theorem Rd.ok {P:Program}{w:World}{H:Hp}{h:Heap}{a:Addr}{u:HO}(r:Rd H a u)(x:HOk P w H h):bL P w H h a u:=by
 rcases r with r | ⟨o,r⟩
 ·exact x a u r
 ·obtain⟨_,q⟩:=x a _ r;exact q
noncomputable def Mut:Option HO->Prop
 | some (.lst _)=>True
 | some (.dK _)=>True
 | some (.dT _)=>True
 | some (.set _ _)=>True
 | some (.ins _ _ _)=>True
 | some (.ext _)=>True
 | _=>False
section
variable {P:Program}{w:World}{H:Hp}{h h':Heap}{x e:Addr}{o':HO}
theorem HOk.write (ok:HOk P w H h)(mu:Mut (H x))(he:e=x\/H e=some (.own x))(k:∀ b u,b≠e->h.get? b=some u->h'.get? b=some u)(heo:∃ u,h'.get? e=some u)
  (new:bL P w (upd H x o') h' x o'):HOk P w (upd H x o') h':=fun b u q=>by
 have D6:∀ c y,H c=some (.own y)->c≠x:=fun c y r z=>by subst z;rw[r] at mu;exact mu
 have Fx:∀ c xs,H c=some (.tup xs)->c≠x:=fun c xs r z=>by subst z;rw[r] at mu;exact mu
 by_cases hb:b=x
 ·subst hb;rw[ah] at q;cases q;exact new
 ·rw[aE hb] at q;by_cases hbe:b=e
  ·have q':H b=some (.own x):=by
    rcases he with z | z
    ·exact absurd (hbe.trans z) hb
    ·rw[hbe];exact z
   rw[q] at q';cases q';obtain⟨v,hv⟩:=heo;exact⟨v,by rw[hbe];exact hv⟩
  ·refine(ok b u q).qJ (fun c v hc r=>k c v ?_ r) (fun c r=>by rw[aE (D6 c b r)];exact r) fun c xs r=>by rw[aE (Fx c xs r)];exact r
   rcases hc with rfl | hc
   ·exact hbe
   ·rintro rfl;rcases he with z | z
    ·exact D6 c b hc z
    ·rw[hc] at z;cases z;exact hb rfl
end

structure Un (fs ex:List Addr) (H H':Hp) (h h':Heap):Prop where
 keep:∀ b o,h.get? b=some o->H b=none->b ∉ fs->b ∉ ex->h'.get? b=some o
 slot:∀ b o,h.get? b=some o->H b=none->b∈fs->b ∉ ex->∃ sl,h'.get? b=some { o with slots:=sl }
 free:∀ b o,h.get? b=some o->H b=none->b ∉ ex->H' b=none
 there:∀ b o,h.get? b=some o->b ∉ ex->∃ o',h'.get? b=some o'
 kI:∀ b xs,H b=some (.tup xs)->H' b=some (.tup xs)
 jY:∀ b o u,H b=some (.frz o u)->H' b=some (.frz o u)
 kJ:∀ b ps,H b=some (.tbl ps)->∃ more,H' b=some (.tbl (ps++more))
section
variable {fs fs' ex ex':List Addr}{H H1 H2:Hp}{h h1 h2 h':Heap}{a x e:Addr}{o:HO}
theorem Un.any (u:Un fs ex H H1 h h1){b:Addr}{ob:Obj}(q:h.get? b=some ob)(n:H b=none)(hx:b ∉ ex):∃ sl,h1.get? b=some { ob with slots:=sl }:=by
 by_cases hb:b∈fs
 ·exact u.slot b ob q n hb hx
 ·exact⟨ob.slots,u.keep b ob q n hb hx⟩
theorem Un.trans (a:Un fs ex H H1 h h1)(b:Un fs ex H1 H2 h1 h2):Un fs ex H H2 h h2 where
 keep:=fun c ob q n hc hx=>b.keep c ob (a.keep c ob q n hc hx) (a.free c ob q n hx) hc hx
 slot:=fun c ob q n hc hx=>by
  obtain⟨sl,e1⟩:=a.slot c ob q n hc hx;obtain⟨sl',e2⟩:=b.slot c _ e1 (a.free c ob q n hx) hc hx;exact⟨sl',e2⟩
 free:=fun c ob q n hx=>by
  obtain⟨o',e1⟩:=a.there c ob q hx;exact b.free c o' e1 (a.free c ob q n hx) hx
 there:=fun c ob q hx=>by
  obtain⟨o',e1⟩:=a.there c ob q hx;exact b.there c o' e1 hx
 kI:=fun c xs q=>b.kI c xs (a.kI c xs q)
 jY:=fun c ob xs q=>b.jY c ob xs (a.jY c ob xs q)
 kJ:=fun c ps q=>by
  obtain⟨m1,e1⟩:=a.kJ c ps q;obtain⟨m2,e2⟩:=b.kJ c _ e1;exact⟨m1++m2,by rw[e2,Mc]⟩
theorem Un.kept (k:∀ b u,h.get? b=some u->h'.get? b=some u):Un fs ex H H h h' :=
 ⟨fun b ob q _ _ _=>k b ob q,fun b ob q _ _ _=>⟨ob.slots,k b ob q⟩,fun _ _ _ n _=>n,fun b ob q _=>⟨ob,k b ob q⟩,fun _ _ q=>q,fun _ _ _ q=>q,fun _ ps q=>⟨#[],by rw[q];simp⟩⟩
theorem Un.refl:Un fs ex H H h h:=Un.kept fun _ _ q=>q
theorem Un.laid (k:∀ b u,h.get? b=some u->h'.get? b=some u)(hp:h.objs.size<=a)(hn:H a=none):Un fs ex H (upd H a o) h h' where
 keep:=fun b u q _ _ _=>k b u q
 slot:=fun b u q _ _ _=>⟨u.slots,k b u q⟩
 free:=fun b u q n _=>by rw[aE (IB (IY (Il q) hp))];exact n
 there:=fun b u q _=>⟨u,k b u q⟩
 kI:=fun b xs q=>by rw[aE (aM q hn)];exact q
 jY:=fun b u xs q=>by rw[aE (aM q hn)];exact q
 kJ:=fun b ps q=>⟨#[],by rw[aE (aM q hn),q];simp⟩
theorem Un.write (mu:Mut (H x))(he:e=x\/H e=some (.own x))(k:∀ b u,b≠e->h.get? b=some u->h'.get? b=some u)(heo:∃ u,h'.get? e=some u):Un fs ex H (upd H x o) h h':=by
 have hx:∀ b,H b=none->b≠x:=fun b n z=>by subst z;rw[n] at mu;exact mu
 have hb:∀ b,H b=none->b≠e:=fun b n z=>by
  subst z;rcases he with r | r
  ·exact hx b n r
  ·rw[n] at r;cases r
 have hm:∀ b u,H b=some u->¬ Mut (some u)->b≠x:=fun b u q nm z=>by subst z;rw[q] at mu;exact nm mu
 refine⟨fun b u q n _ _=>k b u (hb b n) q,fun b u q n _ _=>⟨u.slots,k b u (hb b n) q⟩,fun b u q n _=>by rw[aE (hx b n)];exact n,fun b u q _=>?_,
  fun b xs q=>by rw[aE (hm b _ q fun z=>z)];exact q,fun b u xs q=>by rw[aE (hm b _ q fun z=>z)];exact q,fun b ps q=>⟨#[],by rw[aE (hm b _ q fun z=>z),q];simp⟩⟩
 by_cases hbe:b=e
 ·subst hbe;exact heo
 ·exact⟨u,k b u hbe q⟩
theorem Un.mono (u:Un fs ex H H1 h h1)(hs:∀ b∈fs,b∈fs')(hx:∀ b∈ex,b∈ex'):Un fs' ex' H H1 h h1 :=
 ⟨fun b ob q n hb he=>u.keep b ob q n (fun z=>hb (hs b z)) fun z=>he (hx b z),fun _ _ q n _ he=>u.any q n fun z=>he (hx _ z),fun b ob q n he=>u.free b ob q n fun z=>he (hx b z),fun b ob q he=>u.there b ob q fun z=>he (hx b z),u.kI,u.jY,u.kJ⟩
end

noncomputable def trk (h:Heap)(H:Hp):List Addr:=(Ig h.objs.size).filter fun a=>(H a).isSome
noncomputable def qK (h:Heap)(H:Hp):Heap:=MS h (trk h H)
theorem xS (h:Heap)(H:Hp):(qK h H).objs.size=h.objs.size:=PySem.W.hideAll_size _ _
theorem yS {h:Heap}{H:Hp}{b:Addr}{o:Obj}(e:h.get? b=some o)(n:H b=none):(qK h H).get? b=some o :=
 L7 _ e fun hm=>by
  have q:(H b).isSome=true:=(Ie.mp hm).2;rw[n] at q;simp at q
theorem AJ {h:Heap}{H:Hp}{b:Addr}{o:Obj}(e:(qK h H).get? b=some o):h.get? b=some o/\H b=none:=by
 have e':h.get? b=some o:=Md (trk h H) e;refine⟨e',?_⟩;cases q:H b with
 | none=>rfl
 | some x =>
  have hm:b∈trk h H:=Ie.mpr ⟨Ii.mpr (Il e'),by simp[q]⟩;have z:(qK h H).get? b=none:=PySem.W.hideAll_none (trk h H) hm;rw[z] at e;cases e

end L2

namespace L2
open PySem PySem.Spec PyProof.Rows

structure Mod (K:HS) (mg:Str->Option Value) (base:Heap):Prop where
 kin:K.In base
 glob:base.Ns mainGlobals mg
 blt:∃ mb,base.Ns builtinsNs mb/\∀ x:Str,x≠"__name__"->mb x=bootBuiltins x
 nolimit:base.NoLimit

/-- the context: a D7 body (or a i9 block) running. base: fixed through the whole law; s₀, H₀: the entry; outer: the frames D8 slots others may change (a D7 Fu); stack: all frames AK run;
   ex: DZ AK Fy made ahead of the entry and are walked here (a i9); fn: the names D8 cells Fy made at the entry (a def: all; a i9 block: its own); calm: not within an except Ho; pn: pins AK Hq state bears; xe: Hw is wanted of an exception AK Fz the code -/
structure Cx where
 prog:Program
 w:World
 K:HS
 mg:Str->Option Value
 base:Heap
 A:Around
 N:List Str
 s₀:Shared
 H₀:Hp
 env:Env
 outer:List Env
 stack:List Env
 ex:List Addr
 fn:Str->Bool
 calm:Bool
 pn:List (Addr×Obj)
 xe:Value->Shared->Prop
noncomputable def frs (l:List Env):List Addr:=l.filterMap (·.frame)
noncomputable abbrev Cx.fs (X:Cx):List Addr:=frs X.outer

noncomputable def Vis (sc:Scope)(x:Str):Prop:=sc.names.lookup x=some .local\/sc.names.lookup x=some .cell\/sc.names.lookup x=some .free
noncomputable def Loc (sc:Scope)(x:Str):Prop:=sc.names.lookup x=some .local\/sc.names.lookup x=some .cell
noncomputable def Look (env:Env)(h:Heap)(m:Str->Option Value)(x:Str)(u:Value):Prop :=
 (env.kindOf x=some .local/\m x=some u)\/((env.kindOf x=some .cell\/env.kindOf x=some .free)/\∃ c,env.cells.lookup x=some c/\h.IsCell c (some u))

structure Cx.Ok (X:Cx):Prop where
 mod:Mod X.K X.mg X.base
 kind:X.env.scope.kind=.function
 glob:X.env.globals=mainGlobals
 blt:X.env.builtins=builtinsNs
 above:X.s₀.heap.objs.size<=X.env.locals
 inj:∀ x y c,X.env.cells.lookup x=some c->X.env.cells.lookup y=some c->x=y
 has:∀ x,(X.env.kindOf x=some .cell\/X.env.kindOf x=some .free)->∃ c,X.env.cells.lookup x=some c
 cab:∀ x c,X.fn x=true->X.env.cells.lookup x=some c->X.s₀.heap.objs.size<=c
 hd:X.calm=true->X.A.handled=none
 frames:X.A.frames=some X.stack
 stk:X.stack=X.outer\/(X.stack=X.env::X.outer/\X.env.frame=some X.env.locals)
 exf:∀ b∈X.ex,b≠X.env.locals/\∀ x c,X.env.cells.lookup x=some c->c≠b
 bs:∀ b o,X.base.get? b=some o->X.s₀.heap.get? b=some o/\X.H₀ b=none
 bsz:X.base.objs.size<=X.s₀.heap.objs.size
 yT:∀ b o,X.base.get? b=some o->b ∉ X.ex
 AL:∀ b∈X.ex,b ∉ X.fs
 m6:X.s₀.heap.FunFrames X.base X.outer
 frf:∀ b∈X.fs,X.H₀ b=none

structure Inv (X:Cx) (pins:List (Addr×Obj)) (σ:List (Option V)) (H:Hp) (s:Shared):Prop where
 ok:X.Ok
 os:s.os=X.s₀.os
 bare:AllBare s.gens
 base:Un X.fs X.ex X.H₀ H X.s₀.heap s.heap
 loc:∃ m,s.heap.Ns X.env.locals m/\∀ (i:Nat) (x:Str) (v:V),X.N[i]?=some x->σ[i]?=some (some v)->Vis X.env.scope x->∃ u,RelV v u/\Look X.env s.heap m x u
 cell:∀ x c,X.env.cells.lookup x=some c->∃ v,s.heap.IsCell c v
 free:H X.env.locals=none
 jS:∀ x c,X.env.cells.lookup x=some c->H c=none
 pin:∀ p∈X.pn++pins,s.heap.get? p.1=some p.2/\H p.1=none/\p.1≠X.env.locals/\p.1 ∉ X.fs/\∀ v,p.2.data≠.cell v
 hok:HOk X.prog X.w H s.heap
 len:σ.length=X.N.length

section
variable {X:Cx}{pins:List (Addr×Obj)}{σ:List (Option V)}{H H':Hp}{s:Shared}{h':Heap}

theorem Cx.Ok.FA (ok:X.Ok){b:Addr}{o:Obj}(e:X.base.get? b=some o):b ∉ X.fs:=fun hb=>by
 have:=(ok.m6.mem hb).1;rw[e] at this;cases this
theorem Inv.bs (I:Inv X pins σ H s):∀ b o,X.base.get? b=some o->s.heap.get? b=some o/\H b=none:=fun b o e =>
 ⟨I.base.keep b o (I.ok.bs b o e).1 (I.ok.bs b o e).2 (I.ok.FA e) (I.ok.yT b o e),I.base.free b o (I.ok.bs b o e).1 (I.ok.bs b o e).2 (I.ok.yT b o e)⟩
theorem Inv.bk (I:Inv X pins σ H s):∀ b o,X.base.get? b=some o->s.heap.get? b=some o:=fun b o e=>(I.bs b o e).1
theorem Inv.mod (I:Inv X pins σ H s):Mod X.K X.mg X.base:=I.ok.mod
theorem Inv.kIn (I:Inv X pins σ H s):X.K.In s.heap:=I.ok.mod.kin.keeps I.bk
theorem Inv.lt (I:Inv X pins σ H s):X.env.locals<s.heap.objs.size:=let ⟨_,hn,_⟩:=I.loc;hn.lt
theorem Inv.sz (I:Inv X pins σ H s):X.s₀.heap.objs.size<=s.heap.objs.size:=Jk I.ok.above (LG I.lt)
theorem Inv.FD (I:Inv X pins σ H s){a:Addr}(h:s.heap.objs.size<=a):a ∉ X.fs:=fun hb=>by
 obtain⟨_,o,ho,_⟩:=I.ok.m6.mem hb;exact absurd (IY (Il ho) (Jk I.sz h)) (JK _)
theorem Inv.cne (I:Inv X pins σ H s):∀ x c,X.env.cells.lookup x=some c->c≠X.env.locals:=fun x c e z=>by
 obtain⟨v,o,ho,hd⟩:=I.cell x c e;obtain⟨m,⟨o',es,ep,ho',hd',_⟩,_⟩:=I.loc;rw[z,ho'] at ho;cases ho;rw[hd'] at hd;cases hd
theorem Inv.m6 (I:Inv X pins σ H s):s.heap.FunFrames X.base X.outer:=by
 have all:∀ (l:List Env),(∀ b∈frs l,b∈X.fs)->X.s₀.heap.FunFrames X.base l->s.heap.FunFrames X.base l:=by
  intro l
  induction l with
  | nil=>intro _ _;trivial
  | cons env r ih =>
   intro hs hl;obtain⟨hk,⟨L,o,hf,hn,ho,hd⟩,hr⟩:=hl;have hL:L∈X.fs:=hs L (by unfold frs;rw[JR,hf];exact Iq);obtain⟨sl,e⟩:=I.base.slot L o ho (I.ok.frf L hL) hL fun z=>I.ok.AL L z hL
   exact⟨hk,⟨L,_,hf,hn,e,hd⟩,ih (fun b hb=>hs b (by unfold frs;rw[JR,hf];exact Im _ hb)) hr⟩
 exact all X.outer (fun _ hb=>hb) I.ok.m6

theorem Inv.stack (I:Inv X pins σ H s):s.heap.FunFrames X.base X.stack:=by
 rcases I.ok.stk with e | ⟨e,hf⟩
 ·rw[e];exact I.m6
 ·rw[e];obtain⟨m,hn,_⟩:=I.loc;refine .cons (by rw[I.ok.kind];decide) hf hn ?_ I.m6;exact Heap.get?_none_of_le (Jk I.ok.bsz I.ok.above)
theorem Inv.nI (I:Inv X pins σ H s):∀ b∈frs X.stack,b∈X.env.locals::X.fs:=fun b hb=>by
 rcases I.ok.stk with e | ⟨e,hf⟩
 ·rw[e] at hb;exact Im _ hb
 ·rw[e] at hb;unfold frs at hb;rw[JR,hf] at hb;exact hb
theorem Inv.qL (I:Inv X pins σ H s):∀ b∈frs X.stack,H b=none:=fun b hb=>by
 rcases IA.mp (I.nI b hb) with e | hb
 ·rw[e];exact I.free
 ·obtain⟨_,o,ho,_⟩:=I.ok.m6.mem hb;exact I.base.free b o ho (I.ok.frf b hb) fun z=>I.ok.AL b z hb

theorem Inv.step {g':Array GenState}{t':Nat}{d':Drawn}{ch:List Addr}(I:Inv X pins σ H s)
  (hch:∀ b∈ch,(b∈X.ex\/X.s₀.heap.objs.size<=b)/\b≠X.env.locals/\(∀ x c,X.env.cells.lookup x=some c->c≠b)/\∀ p∈X.pn++pins,p.1≠b)
  (keep:∀ b o,b≠X.env.locals->b ∉ X.fs->b ∉ ch->s.heap.get? b=some o->H b=none->h'.get? b=some o)
  (slot:∀ b o,b≠X.env.locals->b∈X.fs->b ∉ ch->s.heap.get? b=some o->H b=none->∃ sl,h'.get? b=some { o with slots:=sl }) (free:∀ b o,b ∉ ch->s.heap.get? b=some o->H b=none->H' b=none)
  (there:∀ b o,b ∉ ch->s.heap.get? b=some o->∃ o',h'.get? b=some o')
  (kI:∀ b xs,H b=some (.tup xs)->H' b=some (.tup xs)) (jY:∀ b o u,H b=some (.frz o u)->H' b=some (.frz o u)) (kJ:∀ b ps,H b=some (.tbl ps)->∃ more,H' b=some (.tbl (ps++more)))
  (ns:∀ m,s.heap.Ns X.env.locals m->h'.Ns X.env.locals m) (hok:HOk X.prog X.w H' h') (hg:AllBare g') :
  Inv X pins σ H' { s with heap:=h',gens:=g',drawn:=d',toks:=t' }:=by
 have neL:∀ b o,X.s₀.heap.get? b=some o->b≠X.env.locals:=fun b o e=>IB (IY (Il e) I.ok.above)
 have neC:∀ b o,X.s₀.heap.get? b=some o->b ∉ X.ex->b ∉ ch:=fun b o e hx hb=>by
  rcases(hch b hb).1 with z | z
  ·exact hx z
  ·exact absurd (IY (Il e) z) (JK _)
 have cellK:∀ x c,X.env.cells.lookup x=some c->∀ v,s.heap.IsCell c v->h'.IsCell c v:=fun x c e v ⟨o,ho,hd⟩=>by
  have nch:c ∉ ch:=fun z=>(hch c z).2.2.1 x c e rfl
  by_cases hc:c∈X.fs
  ·obtain⟨sl,q⟩:=slot c o (I.cne x c e) hc nch ho (I.jS x c e);exact⟨_,q,hd⟩
  ·exact⟨o,keep c o (I.cne x c e) hc nch ho (I.jS x c e),hd⟩
 refine⟨I.ok,I.os,hg,⟨fun b o e n hb hx=>?_,fun b o e n hb hx=>?_,fun b o e n hx=>?_,fun b o e hx=>?_,fun b xs e=>kI b xs (I.base.kI b xs e),fun b o xs e=>jY b o xs (I.base.jY b o xs e),fun b ps e=>?_⟩,?_,fun x c e=>?_,?_,fun x c e=>?_,fun p hp=>?_,hok,I.len⟩
 ·exact keep b o (neL b o e) hb (neC b o e hx) (I.base.keep b o e n hb hx) (I.base.free b o e n hx)
 ·obtain⟨sl,e1⟩:=I.base.slot b o e n hb hx;obtain⟨sl',e2⟩:=slot b _ (neL b o e) hb (neC b o e hx) e1 (I.base.free b o e n hx);exact⟨sl',e2⟩
 ·obtain⟨o',e1⟩:=I.base.there b o e hx;exact free b o' (neC b o e hx) e1 (I.base.free b o e n hx)
 ·obtain⟨o',e1⟩:=I.base.there b o e hx;exact there b o' (neC b o e hx) e1
 ·obtain⟨m1,e1⟩:=I.base.kJ b ps e;obtain⟨m2,e2⟩:=kJ b _ e1;exact⟨m1++m2,by rw[e2,Mc]⟩
 ·obtain⟨m,hn,hl⟩:=I.loc;refine⟨m,ns m hn,fun i x v e1 e2 e3=>?_⟩;obtain⟨u,r,l⟩:=hl i x v e1 e2 e3;refine⟨u,r,?_⟩;rcases l with l | ⟨k,c,e,z⟩
  ·exact .inl l
  ·exact .inr ⟨k,c,e,cellK x c e _ z⟩
 ·obtain⟨v,z⟩:=I.cell x c e;exact⟨v,cellK x c e v z⟩
 ·obtain⟨m,⟨o,_,_,ho,_⟩,_⟩:=I.loc;exact free _ o (fun z=>(hch _ z).2.1 rfl) ho I.free
 ·obtain⟨v,o,ho,hd⟩:=I.cell x c e;exact free c o (fun z=>(hch c z).2.2.1 x c e rfl) ho (I.jS x c e)
 ·obtain⟨e,n,ne,nf,d⟩:=I.pin p hp;have nch:p.1 ∉ ch:=fun z=>(hch p.1 z).2.2.2 p hp rfl
  exact⟨keep p.1 p.2 ne nf nch e n,free p.1 p.2 nch e n,ne,nf,d⟩
theorem Inv.un {t':Nat}(I:Inv X pins σ H s)(u:Un X.fs [] H H' s.heap h')(hok:HOk X.prog X.w H' h'):Inv X pins σ H' { s with heap:=h',toks:=t' }:=by
 obtain⟨m,⟨o,es,ep,ho,r⟩,_⟩:=id I.loc;obtain⟨sl,hL⟩:=u.any ho I.free (by simp);exact I.step (g':=s.gens) (d':=s.drawn) (ch:=[]) (fun _ z=>nomatch z) (fun b o _ hb _ e n=>u.keep b o e n hb (by simp)) (fun b o _ hb _ e n=>u.slot b o e n hb (by simp)) (fun b o _ e n=>u.free b o e n (by simp)) (fun b o _ e=>u.there b o e (by simp)) u.kI u.jY u.kJ (fun m' hm=>by
  obtain⟨o',es',ep',ho',r'⟩:=hm;rw[ho] at ho';cases ho';exact⟨_,es',ep',hL,r'⟩) hok I.bare
theorem Inv.call {g':Array GenState}{t':Nat}{d':Drawn}{ch:List Addr}(I:Inv X pins σ H s)(u:Un (frs X.stack) ch H H' s.heap h')(hok:HOk X.prog X.w H' h')(hg:AllBare g')
  (hch:∀ b∈ch,(b∈X.ex\/X.s₀.heap.objs.size<=b)/\b≠X.env.locals/\(∀ x c,X.env.cells.lookup x=some c->c≠b)/\∀ p∈X.pn++pins,p.1≠b) :
  Inv X pins σ H' { s with heap:=h',gens:=g',drawn:=d',toks:=t' }:=by
 obtain⟨m,⟨o,es,ep,ho,r⟩,_⟩:=id I.loc;obtain⟨sl,hL⟩:=u.any ho I.free fun z=>(hch _ z).2.1 rfl
 exact I.step (ch:=ch) hch (fun b o hL hb hc e n=>u.keep b o e n (fun z=>(IA.mp (I.nI b z)).elim hL hb) hc) (fun b o _ _ hc e n=>u.any e n hc) (fun b o hc e n=>u.free b o e n hc) (fun b o hc e=>u.there b o e hc) u.kI u.jY u.kJ (fun m' hm=>by
  obtain⟨o',es',ep',ho',r'⟩:=hm;rw[ho] at ho';cases ho';exact⟨_,es',ep',hL,r'⟩) hok hg
theorem Inv.turned {t':Nat}{it:Addr}(I:Inv X pins σ H s)(k:∀ b o,b≠it->s.heap.get? b=some o->h'.get? b=some o)(hn:H it=none)(hL:it≠X.env.locals)
  (h1:it∈X.ex\/X.s₀.heap.objs.size<=it) (h2:∀ x c,X.env.cells.lookup x=some c->c≠it) (h3:∀ p∈X.pn++pins,p.1≠it):Inv X pins σ H { s with heap:=h',toks:=t' }:=by
 have nit:∀ b u,H b=some u->b≠it:=fun b u e z=>by rw[z,hn] at e;cases e
 refine I.step (g':=s.gens) (d':=s.drawn) (ch:=[it]) (fun b hb=>?_) (fun b o _ _ hc e _=>k b o (fun z=>hc (by simp[z])) e) (fun b o _ _ hc e _=>⟨o.slots,k b o (fun z=>hc (by simp[z])) e⟩) (fun _ _ _ _ n=>n)
  (fun b o hc e=>⟨o,k b o (fun z=>hc (by simp[z])) e⟩) (fun _ _ e=>e) (fun _ _ _ e=>e) (fun b ps e=>⟨#[],by rw[e];simp⟩) (fun m hm=>?_) (fun b u e=>?_) I.bare
 ·have e:b=it:=by simpa using hb
  subst e;exact⟨h1,hL,h2,h3⟩
 ·obtain⟨o,es,ep,ho,r⟩:=hm;exact⟨o,es,ep,k _ o (Ne.symm hL) ho,r⟩
 ·refine(I.hok b u e).qJ (fun c v hc q=>k c v ?_ q) (fun _ q=>q) fun _ _ q=>q
  rcases hc with z | z
  ·rw[z];exact nit b u e
  ·exact nit c _ z
theorem Inv.tok (I:Inv X pins σ H s)(t:Nat):Inv X pins σ H { s with toks:=t }:=I.un (h':=s.heap) (t':=t) Un.refl I.hok
theorem Inv.kept {t':Nat}(I:Inv X pins σ H s)(k:∀ b u,s.heap.get? b=some u->h'.get? b=some u):Inv X pins σ H { s with heap:=h',toks:=t' }:=I.un (Un.kept k) (I.hok.kept k)
theorem Inv.laid {a : Addr}{o : HO}{t' : Nat}(I : Inv X pins σ H s)(k : ∀ b u, s.heap.get? b=some u -> h'.get? b=some u)(hp : s.heap.objs.size <= a)(new : bL X.prog X.w (upd H a o) h' a o) :
    Inv X pins σ (upd H a o) { s with heap := h', toks := t' } := I.un (Un.laid k hp (I.hok.fresh hp)) (I.hok.laid k hp new)
theorem Inv.write {x e : Addr}{o : HO}{t' : Nat}(I : Inv X pins σ H s)(mu : Mut (H x))(he : e=x \/ H e=some (.own x))(k : ∀ b u, b ≠ e -> s.heap.get? b=some u -> h'.get? b=some u)(heo : ∃ u, h'.get? e=some u)
    (new : bL X.prog X.w (upd H x o) h' x o) : Inv X pins σ (upd H x o) { s with heap := h', toks := t' } := I.un (Un.write mu he k heo) (I.hok.write mu he k heo new)
theorem Inv.qM {yU:List (Addr×Obj)}(I:Inv X pins σ H s)(h:∀ p∈yU,s.heap.get? p.1=some p.2/\H p.1=none/\p.1≠X.env.locals/\p.1 ∉ X.fs/\∀ v,p.2.data≠.cell v):Inv X yU σ H s :=
 ⟨I.ok,I.os,I.bare,I.base,I.loc,I.cell,I.free,I.jS,fun p hp=>(Ic.mp hp).elim (fun z=>I.pin p (IW _ z)) (h p),I.hok,I.len⟩

theorem sV {N:List Str}(hN:N.Nodup){i j:Nat}{x:Str}(a:N[i]?=some x)(b:N[j]?=some x):i=j:=by
 obtain⟨h1,e1⟩:=HR.mp a;obtain⟨h2,e2⟩:=HR.mp b;exact(LB hN).mp (e1.trans e2.symm)

theorem pT {M:Model}{A:Around}{E:Value->Shared->Prop}{i:Nat}{x:Str}{v:V}{u:Value}{Q:Unit->Shared->Prop}(I:Inv X pins σ H s)(hN:X.N.Nodup)(hi:X.N[i]?=some x)(hx:Loc X.env.scope x)(r:RelV v u)
  (h:∀ s',Inv X pins (σ.set i (some v)) H s'->(∃ a,Heap.SameBut a s.heap s'.heap/\(a=X.env.locals\/X.env.cells.lookup x=some a))->Q () s') (hf:X.fn x=true\/X.env.scope.names.lookup x=some .local:=by first | exact .inl rfl | exact .inr rfl | assumption):wpAny M A (storeName X.env x u) Q E s:=by
 obtain⟨m,hn,hl⟩:=id I.loc;have Cw:(X.env.scope.kind == .class||(X.env.scope.kind == .module&&X.env.locals != X.env.globals))=false:=by rw[I.ok.kind];rfl
 have hiσ:i<σ.length:=by rw[I.len];exact(HR.mp hi).1
 have cne:=I.cne;have tracked:∀ {a:Addr} {h':Heap},(∃ o,s.heap.get? a=some o/\H a=none)->Heap.SameBut a s.heap h'->HOk X.prog X.w H h':=fun {a h'} ha hs b ob e=>by
  obtain⟨_,_,sW⟩:=ha;refine(I.hok b ob e).qJ (fun c w' hc q=>(hs.2 c ?_).trans q) (fun _ q=>q) fun _ _ q=>q
  rintro rfl;rcases hc with rfl | hc
  ·rw[sW] at e;cases e
  ·rw[sW] at hc;cases hc
 rcases hx with hk | hk
 ·refine wpAny_storeName_local hk hn (fun h' hn' hs=>?_) Cw;obtain⟨oL,_,_,hoL,_⟩:=id hn;refine h _ ⟨I.ok,I.os,I.bare,⟨fun b o e n hb hx=>?_,fun b o e n hb hx=>?_,I.base.free,fun b o e hx=>?_,I.base.kI,I.base.jY,I.base.kJ⟩,⟨_,hn',fun j y v' e1 e2 e3=>?_⟩,fun y c e=>?_,I.free,I.jS,fun p hp=>?_,tracked ⟨oL,hoL,I.free⟩ hs,by simpa using I.len⟩ ⟨_,hs,.inl rfl⟩
  ·exact(hs.2 b (IB (IY (Il e) I.ok.above))).trans (I.base.keep b o e n hb hx)
  ·obtain⟨sl,e1⟩:=I.base.slot b o e n hb hx;exact⟨sl,(hs.2 b (IB (IY (Il e) I.ok.above))).trans e1⟩
  ·obtain⟨o',e1⟩:=I.base.there b o e hx;exact⟨o',(hs.2 b (IB (IY (Il e) I.ok.above))).trans e1⟩
  ·by_cases hj:j=i
   ·subst hj;rw[hi] at e1;cases e1;rw[KS hiσ] at e2;cases e2;exact⟨u,r,.inl ⟨hk,by simp⟩⟩
   ·rw[K5 (Ne.symm hj)] at e2;obtain⟨u',r',q⟩:=hl j y v' e1 e2 e3;refine⟨u',r',?_⟩;rcases q with ⟨k,e⟩ | ⟨k,c,e,z⟩
    ·refine .inl ⟨k,?_⟩;have:y≠x:=fun e=>hj (sV hN e1 (e ▸ hi))
     simp[this,e]
    ·exact .inr ⟨k,c,e,z.sameBut hs (cne y c e)⟩
  ·obtain⟨w',z⟩:=I.cell y c e;exact⟨w',z.sameBut hs (cne y c e)⟩
  ·obtain⟨e,n,ne,nf,d⟩:=I.pin p hp;exact⟨(hs.2 p.1 ne).trans e,n,ne,nf,d⟩
 ·have hfn:X.fn x=true:=by
   rcases hf with z | z
   ·exact z
   ·rw[z] at hk;cases hk
  obtain⟨c,hc⟩:=I.ok.has x (.inl hk);obtain⟨w',z⟩:=I.cell x c hc;refine wpAny_storeName_cell I.ok.kind hk hc z (fun h' hc' hs=>?_);obtain⟨oc,hoc,FE⟩:=id z;refine h { s with heap:=h' } ⟨I.ok,I.os,I.bare,⟨fun b o e n hb hx=>?_,fun b o e n hb hx=>?_,I.base.free,fun b o e hx=>?_,I.base.kI,I.base.jY,I.base.kJ⟩,⟨m,hn.sameBut hs (Ne.symm (cne x c hc)),fun j y v' e1 e2 e3=>?_⟩,fun y c' e=>?_,I.free,I.jS,fun p hp=>?_,tracked ⟨oc,hoc,I.jS x c hc⟩ hs,by simpa using I.len⟩ ⟨c,hs,.inr hc⟩
  ·exact(hs.2 b (IB (IY (Il e) (I.ok.cab x c hfn hc)))).trans (I.base.keep b o e n hb hx)
  ·obtain⟨sl,e1⟩:=I.base.slot b o e n hb hx;exact⟨sl,(hs.2 b (IB (IY (Il e) (I.ok.cab x c hfn hc)))).trans e1⟩
  ·obtain⟨o',e1⟩:=I.base.there b o e hx;exact⟨o',(hs.2 b (IB (IY (Il e) (I.ok.cab x c hfn hc)))).trans e1⟩
  ·by_cases hj:j=i
   ·subst hj;rw[hi] at e1;cases e1;rw[KS hiσ] at e2;cases e2;exact⟨u,r,.inr ⟨.inl hk,c,hc,hc'⟩⟩
   ·rw[K5 (Ne.symm hj)] at e2;obtain⟨u',r',q⟩:=hl j y v' e1 e2 e3;refine⟨u',r',?_⟩;rcases q with q | ⟨k,c',e,z'⟩
    ·exact .inl q
    ·refine .inr ⟨k,c',e,z'.sameBut hs ?_⟩;rintro rfl;exact hj (sV hN e1 (I.ok.inj _ _ _ e hc ▸ hi))
  ·by_cases hcc:c'=c
   ·subst hcc;exact⟨_,hc'⟩
   ·obtain⟨w2,z2⟩:=I.cell y c' e;exact⟨w2,z2.sameBut hs hcc⟩
  ·obtain⟨e,n,ne,nf,d⟩:=I.pin p hp;refine⟨(hs.2 p.1 ?_).trans e,n,ne,nf,d⟩;intro q;rw[q,hoc] at e;have q':oc=p.2:=Option.some.inj e;exact d w' (by rw[<- q'];exact FE)
theorem sX {M:Model}{A:Around}{E:Value->Shared->Prop}{i:Nat}{x:Str}{v:V}{u:Value}{Q:Unit->Shared->Prop}(I:Inv X pins σ H s)(hN:X.N.Nodup)(hi:X.N[i]?=some x)(hx:Loc X.env.scope x)(r:RelV v u)
  (h:∀ s',Inv X pins (σ.set i (some v)) H s'->Q () s') (hf:X.fn x=true\/X.env.scope.names.lookup x=some .local:=by first | exact .inl rfl | exact .inr rfl | assumption):wpAny M A (storeName X.env x u) Q E s :=
 pT I hN hi hx r (fun s' I' _=>h s' I') hf
theorem Inv.D9 {s':Shared}{ch:List Addr}(I:Inv X pins σ H s)(ho:s'.os=s.os)(u:Un (frs X.stack) ch H H' s.heap s'.heap)(hok:HOk X.prog X.w H' s'.heap)(hg:AllBare s'.gens)
  (hch:∀ b∈ch,(b∈X.ex\/X.s₀.heap.objs.size<=b)/\b≠X.env.locals/\(∀ x c,X.env.cells.lookup x=some c->c≠b)/\∀ p∈X.pn++pins,p.1≠b):Inv X pins σ H' s':=by
 obtain⟨h',g',d',t',o'⟩:=s';have e:o'=s.os:=ho;subst e;exact I.call (g':=g') (t':=t') (d':=d') u hok hg hch
end

noncomputable abbrev XK:=Value->Option Addr->Hp->Prop
noncomputable abbrev St:=List (Option V)
noncomputable abbrev VK:=V->Hp->Prop
noncomputable abbrev TE:=St->Hp->VK->Prop
noncomputable abbrev TT:=St->Hp->(Bool->Hp->Prop)->Prop
noncomputable abbrev TA:=St->Hp->(List V->Hp->Prop)->Prop
structure Ends where
 nx:St->Hp->Prop
 rt:VK
 bk:St->Hp->Prop:=fun _ _=>False
 ct:St->Hp->Prop:=fun _ _=>False
noncomputable abbrev TS:=Ends->St->Hp->Prop

noncomputable def EP (X:Cx)(pins:List (Addr×Obj))(σ:St)(Q:VK)(u:Value)(s':Shared):Prop:=∃ v H',Inv X pins σ H' s'/\RelV v u/\Q v H'
noncomputable def TP (X:Cx)(pins:List (Addr×Obj))(σ:St)(Q:Bool->Hp->Prop)(b:Bool)(s':Shared):Prop:=∃ H',Inv X pins σ H' s'/\Q b H'
noncomputable def AP (X:Cx)(pins:List (Addr×Obj))(σ:St)(Q:List V->Hp->Prop)(us:List Value)(s':Shared):Prop:=∃ vs H',Inv X pins σ H' s'/\Vals vs us/\Q vs H'
noncomputable def SP (X:Cx)(pins:List (Addr×Obj))(D:Ends)(f:Flow)(s':Shared):Prop :=
 match f with
 | .next=>∃ σ' H',Inv X pins σ' H' s'/\D.nx σ' H'
 | .brk=>∃ σ' H',Inv X pins σ' H' s'/\D.bk σ' H'
 | .cont=>∃ σ' H',Inv X pins σ' H' s'/\D.ct σ' H'
 | .ret u=>∃ v σ' H',Inv X pins σ' H' s'/\RelV v u/\D.rt v H'

noncomputable def PE (X:Cx)(e:Expr)(t:TE):Prop :=
 ∀ (pins:List (Addr×Obj)) (s:Shared) (σ:St) (H:Hp) (Q:VK),Inv X pins σ H s->t σ H Q->wpAny (model X.prog X.w) X.A (eval e X.env) (EP X pins σ Q) X.xe s
noncomputable def PT (X:Cx)(e:Expr)(t:TT):Prop :=
 ∀ (pins:List (Addr×Obj)) (s:Shared) (σ:St) (H:Hp) (Q:Bool->Hp->Prop),Inv X pins σ H s->t σ H Q->wpAny (model X.prog X.w) X.A (isTrue e X.env (eval e X.env)) (TP X pins σ Q) X.xe s
noncomputable def PW (X:Cx)(e:Expr)(t:TT):Prop :=
 ∀ (whole:Sem Value) (pins:List (Addr×Obj)) (s:Shared) (σ:St) (H:Hp) (Q:Bool->Hp->Prop),Inv X pins σ H s->t σ H Q->wpAny (model X.prog X.w) X.A (isTrue e X.env whole) (TP X pins σ Q) X.xe s
theorem PW.pt {X:Cx}{e:Expr}{t:TT}(h:PW X e t):PT X e t:=h _
noncomputable def PA (X:Cx)(es:List Expr)(t:TA):Prop :=
 ∀ (pos:Pos) (pins:List (Addr×Obj)) (s:Shared) (σ:St) (H:Hp) (Q:List V->Hp->Prop),Inv X pins σ H s->t σ H Q->wpAny (model X.prog X.w) X.A (spliced (backTo pos (starEach es X.env))) (AP X pins σ Q) X.xe s
noncomputable def PS (X:Cx)(st:Stmt)(t:TS):Prop :=
 ∀ (pins:List (Addr×Obj)) (s:Shared) (σ:St) (H:Hp) (D:Ends),Inv X pins σ H s->t D σ H->wpAny (model X.prog X.w) X.A (exec st X.env) (SP X pins D) X.xe s
noncomputable def PSs (X:Cx)(st:List Stmt)(t:TS):Prop :=
 ∀ (pins:List (Addr×Obj)) (s:Shared) (σ:St) (H:Hp) (D:Ends),Inv X pins σ H s->t D σ H->wpAny (model X.prog X.w) X.A (execs st X.env) (SP X pins D) X.xe s
theorem thn {α:Type}{t:Sem α}{Q Q':α->Shared->Prop}{M:Model}{A:Around}{E:Value->Shared->Prop}{s:Shared}(h:wpAny M A t Q E s)(hQ:∀ a s,Q a s->Q' a s):wpAny M A t Q' E s:=wpAny_mono h hQ fun _ _ x=>x
end L2

namespace L2
open PySem PySem.Spec PyProof.Rows
section
variable {X:Cx}

noncomputable def yV (i:Nat):TE:=fun σ H Q=>∃ v,σ[i]?=some (some v)/\Q v H
noncomputable def tC (v:V):TE:=fun _ H Q=>Q v H
theorem Cy {i:Nat}{x:Str}{pos:Pos}(hN:X.N[i]?=some x)(hv:Vis X.env.scope x)(hd:(x == ("__debug__":Str))=false:=by decide)(hcd:(x == ("__classdict__":Str))=false:=by decide):PE X (.Name x pos) (yV i):=by
 intro pins s σ H Q I h;obtain⟨v,e,h⟩:=h;obtain⟨m,hn,hl⟩:=I.loc;obtain⟨u,r,l⟩:=hl i x v hN e hv;have fin:EP X pins σ Q u s:=⟨v,H,I,r,h⟩
 rcases l with ⟨hk,hm⟩ | ⟨hk,c,hc,BV⟩
 ·exact wpAny_Name (wpAny_loadName_local I.ok.kind hk hn hm fin) hd
 ·rcases hk with hk | hk
  ·exact wpAny_Name (wpAny_loadName_cell I.ok.kind hk hc BV fin) hd
  ·exact wpAny_Name (wpAny_loadName_free I.ok.kind hk hc BV fin hcd) hd
theorem aC {i j pos}:PE X (.Constant (.int i) j pos) (tC (.int i)):=fun _ _ _ H _ I h=>wpAny_Constant_int ⟨.int i,H,I.tok _,⟨_,rfl⟩,h⟩
theorem fX {b j pos}:PE X (.Constant (.bool b) j pos) (tC (.bl b)):=fun _ _ _ H _ I h=>Constant_bool ⟨.bl b,H,I,rfl,h⟩
theorem yW {j pos}:PE X (.Constant .none j pos) (tC .non):=fun _ _ _ H _ I h=>Constant_none ⟨.non,H,I,rfl,h⟩
theorem d7 {x j pos}:PE X (.Constant (.str x) j pos) (tC (.str x)):=fun _ _ _ H _ I h=>Calls.Constant_str ⟨.str x,H,I.tok _,⟨_,rfl⟩,h⟩

noncomputable def Gl (X:Cx)(x:Str):Prop:=X.env.kindOf x=some .globalImplicit
theorem qN {E:Value->Shared->Prop}{pins:List (Addr×Obj)}{s:Shared}{σ:St}{H:Hp}{x:Str}{u:Value}{pos:Pos}{Q:Value->Shared->Prop}(I:Inv X pins σ H s)(hg:Gl X x)(hm:X.mg x=some u)(h:Q u s)
  (hd:(x == ("__debug__":Str))=false:=by decide):wpAny (model X.prog X.w) X.A (eval (.Name x pos) X.env) Q E s :=
 Calls.Name_function_global I.ok.kind hg (Calls.loadGlobal_global (by rw[I.ok.glob];exact I.mod.glob.keeps I.bk) hm h) hd
theorem jZ {E:Value->Shared->Prop}{pins:List (Addr×Obj)}{s:Shared}{σ:St}{H:Hp}{x:Str}{u:Value}{pos:Pos}{Q:Value->Shared->Prop}(I:Inv X pins σ H s)(hg:Gl X x)(hm:X.mg x=none)(hv:bootBuiltins x=some u)(h:Q u s)
  (hn:x≠"__name__":=by decide) (hd:(x == ("__debug__":Str))=false:=by decide):wpAny (model X.prog X.w) X.A (eval (.Name x pos) X.env) Q E s:=by
 obtain⟨mb,h1,h2⟩:=I.mod.blt;exact Calls.Name_function_global I.ok.kind hg (Calls.loadGlobal_builtin (by rw[I.ok.glob];exact I.mod.glob.keeps I.bk) hm (by rw[I.ok.blt];exact h1.keeps I.bk) ((h2 x hn).trans hv) h) hd
theorem wO {x:Str}{v:V}{u:Value}{pos:Pos}(hg:Gl X x)(hm:X.mg x=some u)(r:RelV v u)(hd:(x == ("__debug__":Str))=false:=by decide):PE X (.Name x pos) (tC v) :=
 fun _ _ _ H _ I h=>qN I hg hm ⟨v,H,I,r,h⟩ hd
theorem nv {x:Str}{v:V}{u:Value}{pos:Pos}(hg:Gl X x)(hm:X.mg x=none)(hv:bootBuiltins x=some u)(r:RelV v u)(hn:x≠"__name__":=by decide)(hd:(x == ("__debug__":Str))=false:=by decide):PE X (.Name x pos) (tC v) :=
 fun _ _ _ H _ I h=>jZ I hg hm hv ⟨v,H,I,r,h⟩ hn hd

variable {a b:Expr}{ta tb:TE}{pos:Pos}
noncomputable def PC (X:Cx)(op:CmpOp)(a b:Expr)(t:TE):Prop :=
 ∀ (pins:List (Addr×Obj)) (s:Shared) (σ:St) (H:Hp) (Q:VK),Inv X pins σ H s->t σ H Q ->
  wpAny (model X.prog X.w) X.A (eval a X.env) (fun v s₁=>wpAny (model X.prog X.w) X.A (eval b X.env) (fun u s₂=>wpAny (model X.prog X.w) X.A (compareOp op v u) (EP X pins σ Q) X.xe s₂) X.xe s₁) X.xe s
noncomputable def tB (t:TE):TT:=fun σ H Q=>t σ H fun x H1=>∃ c,x=.bl c/\Q c H1
theorem nJ {op:CmpOp}{t:TE}(h:PC X op a b t)(h1:behindInMarks op b=false:=by first | exact Ea _ (by decide) (by decide) | rfl):PT X (.Compare a [op] [b] pos) (tB t):=by
 intro pins s σ H Q I hw;refine wpAny_isTrue_Compare1 (thn (h pins s σ H _ I hw) fun v s1 h1=>thn h1 fun u s2 h2=>thn h2 fun c s3 ⟨x,H1,I1,r1,q1⟩=>?_) h1;obtain⟨d,rfl,q⟩:=q1;cases r1;exact wpAny_truthy_bool ⟨H1,I1,q⟩
theorem jf {e:Expr}{t:TE}(h:PE X e t)(he:∀ whole,isTrue e X.env whole=(do let v <- whole;standAt e.pos;holding [v] (truthy v)):=by intro _;rfl):PT X e (tB t):=by
 intro pins s σ H Q I hw;refine isTrue_plain (thn (h pins s σ H _ I hw) fun v s1 ⟨x,H1,I1,r1,q1⟩=>?_) (he _);obtain⟨d,rfl,q⟩:=q1;cases r1;exact wpAny_truthy_bool ⟨H1,I1,q⟩

variable {tA tB':TT}{rest:List Expr}
noncomputable def FG (t u:TT):TT:=fun σ H Q=>t σ H fun c H1=>if c=true then u σ H1 Q else Q false H1
noncomputable def tOr (t u:TT):TT:=fun σ H Q=>t σ H fun c H1=>if c=true then Q true H1 else u σ H1 Q
noncomputable def FH (t:TT):TT:=fun σ H Q=>t σ H fun c H1=>Q (!c) H1
theorem fZ (ha:PT X a tA):PW X (.BoolOp .And [a] pos) tA:=by
 intro wh pins s σ H Q I h;refine isTrue_and (thn (ha pins s σ H Q I h) fun c s1 e=>?_);cases c with
 | true=>exact isTrue_and_nil e
 | false=>exact e
theorem lP (ha:PT X a tA):PW X (.BoolOp .Or [a] pos) tA:=by
 intro wh pins s σ H Q I h;refine isTrue_or (thn (ha pins s σ H Q I h) fun c s1 e=>?_);cases c with
 | false=>exact isTrue_or_nil e
 | true=>exact e
theorem iN (ha:PT X a tA)(hb:PW X (.BoolOp .And (b::rest) pos) tB'):PW X (.BoolOp .And (a::b::rest) pos) (FG tA tB'):=by
 intro wh pins s σ H Q I h;refine isTrue_and (thn (ha pins s σ H _ I h) fun c s1 ⟨H1,I1,q1⟩=>?_);cases c with
 | true=>exact hb wh pins s1 σ H1 Q I1 q1
 | false=>exact⟨H1,I1,q1⟩
theorem mK (ha:PT X a tA)(hb:PW X (.BoolOp .Or (b::rest) pos) tB'):PW X (.BoolOp .Or (a::b::rest) pos) (tOr tA tB'):=by
 intro wh pins s σ H Q I h;refine isTrue_or (thn (ha pins s σ H _ I h) fun c s1 ⟨H1,I1,q1⟩=>?_);cases c with
 | true=>exact⟨H1,I1,q1⟩
 | false=>exact hb wh pins s1 σ H1 Q I1 q1
theorem jg (ha:PT X a tA):PT X (.UnaryOp .Not a pos) (FH tA):=by
 intro pins s σ H Q I h;exact isTrue_not (ha pins s σ H (fun c H1=>Q (!c) H1) I h)
noncomputable def Eb (ta tb:TE):TE:=fun σ H Q=>ta σ H fun x H1=>∃ c,x=.bl c/\if c=true then tb σ H1 Q else Q (.bl false) H1
noncomputable def Ec (ta:TE):TE:=fun σ H Q=>ta σ H fun x H1=>∃ c,x=.bl c/\Q (.bl (!c)) H1
theorem yX {op}{t:TE}(h:PE X a t):PE X (.BoolOp op [a] pos) t:=fun pins s σ H Q I hw=>BoolOp_one (h pins s σ H Q I hw)
theorem yY (ha:PE X a ta)(hb:PE X (.BoolOp .And (b::rest) pos) tb):PE X (.BoolOp .And (a::b::rest) pos) (Eb ta tb):=by
 intro pins s σ H Q I h;refine BoolOp_and (thn (ha pins s σ H _ I h) fun v s1 ⟨x,H1,I1,r1,q1⟩=>?_);obtain⟨c,rfl,q1⟩:=q1;cases r1;refine wpAny_truthy_bool ?_;cases c with
 | true=>exact hb pins s1 σ H1 Q I1 q1
 | false=>exact⟨.bl false,H1,I1,rfl,q1⟩
theorem Cz (ha:PE X a ta):PE X (.UnaryOp .Not a pos) (Ec ta):=by
 intro pins s σ H Q I h;refine UnaryOp_ (thn (ha pins s σ H _ I h) fun v s1 ⟨x,H1,I1,r1,q1⟩=>?_);obtain⟨c,rfl,q1⟩:=q1;cases r1;exact not_of (wpAny_truthy_bool ⟨.bl (!c),H1,I1,rfl,q1⟩)
noncomputable def tIf (t:TT)(ta tb:TE):TE:=fun σ H Q=>t σ H fun c H1=>if c=true then ta σ H1 Q else tb σ H1 Q
theorem yZ {c:Expr}(hc:PT X c tA)(ha:PE X a ta)(hb:PE X b tb):PE X (.IfExp c a b pos) (tIf tA ta tb):=by
 intro pins s σ H Q I h;refine wpAny_IfExp (thn (hc pins s σ H _ I h) fun d s1 ⟨H1,I1,q1⟩=>?_);cases d with
 | true=>exact ha pins s1 σ H1 Q I1 q1
 | false=>exact hb pins s1 σ H1 Q I1 q1
end
end L2

namespace L2
open PySem PySem.Spec PyProof.Rows

noncomputable def SqL (K:HS)(H:Hp)(a:Addr)(xs:List V):Prop :=
 Rd H a (.lst xs) \/
  ∃ (o:Obj) (its:Array Value) (n:Nat),K.lookup a=some o/\o.cls=.type "list"/\o.dict=none/\o.data=.seq its n/\its.size<=sizeLine/\Vals xs its.toList
noncomputable def SqT (K:HS)(H:Hp)(a:Addr)(xs:List V):Prop :=
 Rd H a (.tup xs) \/
  ∃ (o:Obj) (its:Array Value) (n:Nat),K.lookup a=some o/\o.cls=.type "tuple"/\o.data=.seq its n/\its.size<=sizeLine/\Vals xs its.toList
noncomputable def FI:Value->Option V
 | .none=>some .non
 | .bool b=>some (.bl b)
 | .int i _=>some (.int i)
 | .str x _=>some (.str x)
 | .bytes b _=>some (.byt b)
 | .float b _=>some (.flt b)
 | .ref a=>some (.ref a)
 | .type n=>some (.ty n)
 | _=>none
theorem RelV.abs {x:V}{u:Value}(r:RelV x u):FI u=some x:=by
 cases x with
 | non=>cases r;rfl
 | bl _=>cases r;rfl
 | int _=>obtain⟨t,rfl⟩:=r;rfl
 | str _=>obtain⟨t,rfl⟩:=r;rfl
 | byt _=>obtain⟨t,rfl⟩:=r;rfl
 | flt _=>obtain⟨t,rfl⟩:=r;rfl
 | ref _=>cases r;rfl
 | ty _=>cases r;rfl
theorem RelV.inj {x y:V}{u:Value}(r:RelV x u)(q:RelV y u):x=y:=Option.some.inj (r.abs.symm.trans q.abs)
theorem Vals.inj:∀ {xs ys:List V} {us:List Value},Vals xs us->Vals ys us->xs=ys
 | _,_,_,.nil,.nil=>rfl
 | _,_,_,.cons r t,.cons r' t'=>by rw[r.inj r',Vals.inj t t']
section
variable {X:Cx}{pins:List (Addr×Obj)}{σ:St}{H:Hp}{s:Shared}{a:Addr}{xs ys:List V}
theorem SqL.of {K:HS}(h:H a=some (.lst xs)):SqL K H a xs:=.inl (.inl h)
theorem SqT.of {K:HS}(h:H a=some (.tup xs)):SqT K H a xs:=.inl (.inl h)
theorem Inv.list (I:Inv X pins σ H s)(h:SqL X.K H a xs):∃ its:List Value,Vals xs its/\PlainL s.heap a its.toArray/\xs.length<=sizeLine:=by
 rcases h with h | ⟨o,its,n,hk,hc,hd,hs,hz,r⟩
 ·obtain⟨z,its,n,r,e⟩:=h.ok I.hok;exact⟨its,r,⟨_,n,e,rfl,rfl,rfl⟩,z⟩
 ·refine⟨its.toList,r,⟨o,n,I.kIn a o hk,hc,hd,by simpa using hs⟩,?_⟩;have e:=r.length;simp only[Jb] at e;omega
theorem Inv.tuple (I:Inv X pins σ H s)(h:SqT X.K H a xs):∃ its:List Value,Vals xs its/\IsTup s.heap a its.toArray/\xs.length<=sizeLine:=by
 rcases h with h | ⟨o,its,n,hk,hc,hs,hz,r⟩
 ·obtain⟨z,its,r,p⟩:=h.ok I.hok;exact⟨its,r,p,z⟩
 ·refine⟨its.toList,r,⟨o,I.kIn a o hk,hc,n,by simpa using hs⟩,?_⟩;have e:=r.length;simp only[Jb] at e;omega
theorem Inv.y0 (I:Inv X pins σ H s)(h:SqL X.K H a xs)(h':SqL X.K H a ys):xs=ys:=by
 obtain⟨its,r,⟨o,n,e,_,_,d⟩,_⟩:=I.list h;obtain⟨its',r',⟨o',n',e',_,_,d'⟩,_⟩:=I.list h';rw[e] at e';cases e';rw[d] at d';injection d' with d1 _;have:its=its':=by simpa using congrArg Lc d1
 subst this;exact r.inj r'
theorem Inv.pU (I:Inv X pins σ H s)(h:SqT X.K H a xs)(h':SqT X.K H a ys):xs=ys:=by
 obtain⟨its,r,⟨o,e,_,n,d⟩,_⟩:=I.tuple h;obtain⟨its',r',⟨o',e',_,n',d'⟩,_⟩:=I.tuple h';rw[e] at e';cases e';rw[d] at d';injection d' with d1 _;have:its=its':=by simpa using congrArg Lc d1
 subst this;exact r.inj r'
end

noncomputable abbrev Cx.ig (X:Cx)(E:Value->Shared->Prop):Cx:={ X with xe:=E }
noncomputable abbrev Cx.nox (X:Cx):Cx:=X.ig fun _ _=>False
theorem Cx.Ok.ig {X:Cx}(ok:X.Ok)(E:Value->Shared->Prop):(X.ig E).Ok :=
 ⟨ok.mod,ok.kind,ok.glob,ok.blt,ok.above,ok.inj,ok.has,ok.cab,ok.hd,ok.frames,ok.stk,ok.exf,ok.bs,ok.bsz,ok.yT,ok.AL,ok.m6,ok.frf⟩
theorem Cx.Ok.dI {X:Cx}{E:Value->Shared->Prop}(ok:(X.ig E).Ok):X.Ok :=
 ⟨ok.mod,ok.kind,ok.glob,ok.blt,ok.above,ok.inj,ok.has,ok.cab,ok.hd,ok.frames,ok.stk,ok.exf,ok.bs,ok.bsz,ok.yT,ok.AL,ok.m6,ok.frf⟩
section
variable {X:Cx}{pins:List (Addr×Obj)}{σ:St}{H:Hp}{s:Shared}{E:Value->Shared->Prop}
theorem Inv.ig (I:Inv X pins σ H s)(E:Value->Shared->Prop):Inv (X.ig E) pins σ H s:=⟨I.ok.ig E,I.os,I.bare,I.base,I.loc,I.cell,I.free,I.jS,I.pin,I.hok,I.len⟩
theorem Inv.dI (I:Inv (X.ig E) pins σ H s):Inv X pins σ H s:=⟨I.ok.dI,I.os,I.bare,I.base,I.loc,I.cell,I.free,I.jS,I.pin,I.hok,I.len⟩
theorem SP.dI {D:Ends}{f:Flow}{s':Shared}(h:SP (X.ig E) pins D f s'):SP X pins D f s':=by
 cases f with
 | next=>obtain⟨σ',H',I,q⟩:=h;exact⟨σ',H',I.dI,q⟩
 | brk=>obtain⟨σ',H',I,q⟩:=h;exact⟨σ',H',I.dI,q⟩
 | cont=>obtain⟨σ',H',I,q⟩:=h;exact⟨σ',H',I.dI,q⟩
 | ret u=>obtain⟨v,σ',H',I,r,q⟩:=h;exact⟨v,σ',H',I.dI,r,q⟩
theorem PSs.nox {st:List Stmt}{t:TS}(h:PSs X.nox st t):PSs X st t:=fun pins s σ H D I hw =>
 wpAny_mono (h pins s σ H D (I.ig _) hw) (fun _ _ q=>q.dI) fun _ _ z=>False.elim z
end

section
variable {X:Cx}{st:Stmt}{rest:List Stmt}{t u:TS}{e:Expr}{te:TE}{pos:Pos}
noncomputable def Ed:TS:=fun D σ H=>D.nx σ H
noncomputable def AM (t u:TS):TS:=fun D σ H=>t { D with nx:=u D } σ H
theorem a7:PSs X [] Ed:=fun _ _ σ H _ I h=>wpAny_execs_nil ⟨σ,H,I,h⟩
theorem ag (h1:PS X st t)(h2:PSs X rest u):PSs X (st::rest) (AM t u):=by
 intro pins s σ H D I h;refine wpAny_execs_cons (thn (h1 pins s σ H { D with nx:=u D } I h) fun f s1 q=>?_);cases f with
 | next =>
  obtain⟨σ',H',I',q⟩:=q;exact h2 pins s1 σ' H' D I' q
 | ret v=>exact q
 | brk=>exact q
 | cont=>exact q
theorem aj (h1:PS X st t):PSs X [st] t:=by
 intro pins s σ H D I h;refine wpAny_execs_cons (thn (h1 pins s σ H D I h) fun f s1 q=>?_);cases f with
 | next=>exact wpAny_execs_nil q
 | ret v=>exact q
 | brk=>exact q
 | cont=>exact q
theorem Inv.quiet {pins:List (Addr×Obj)}{σ:St}{H:Hp}{s:Shared}(I:Inv X pins σ H s):interactive X.env=false:=by simp[interactive,I.ok.kind]
noncomputable def BW (te:TE):TS:=fun D σ H=>te σ H fun _ H1=>D.nx σ H1
theorem bf (he:PE X e te)(hs:swapsWith e none pos.line X.env=pure false:=by rfl):PS X (.Expr e pos) (BW te):=by
 intro pins s σ H D I h;exact wpAny_Expr_any (thn (he pins s σ H _ I h) fun v s1 ⟨x,H1,I1,r1,q1⟩=>⟨σ,H1,I1,q1⟩) I.quiet hs
noncomputable def Ee (te:TE):TS:=fun D σ H=>te σ H D.rt
theorem aQ (he:PE X e te):PS X (.Return (some e) pos) (Ee te):=by
 intro pins s σ H D I h;exact wpAny_Return_some (thn (he pins s σ H _ I h) fun v s1 ⟨x,H1,I1,r1,q1⟩=>⟨x,σ,H1,I1,r1,q1⟩)
noncomputable def FJ (c:TT)(t u:TS):TS:=fun D σ H=>c σ H fun b H1=>if b=true then t D σ H1 else u D σ H1
theorem bM {c:Expr}{a b:List Stmt}{tc:TT}(hc:PT X c tc)(ha:PSs X a t)(hb:PSs X b u):PS X (.If c a b pos) (FJ tc t u):=by
 intro pins s σ H D I h;refine wpAny_If (thn (hc pins s σ H _ I h) fun d s1 ⟨H1,I1,q1⟩=>?_);cases d with
 | true=>exact ha pins s1 σ H1 D I1 q1
 | false=>exact hb pins s1 σ H1 D I1 q1
noncomputable def CA:TS:=fun _ _ _=>False
theorem xT {sts:List Stmt}:PSs X sts CA:=fun _ _ _ _ _ _ h=>h.elim
end

noncomputable abbrev TG:=V->St->Hp->(St->Hp->Prop)->Prop
noncomputable abbrev TGs:=List V->St->Hp->(St->Hp->Prop)->Prop
noncomputable def PG (X:Cx)(target:Expr)(t:TG):Prop :=
 ∀ (pins:List (Addr×Obj)) (s:Shared) (σ:St) (H:Hp) (v:V) (u:Value) (Q:St->Hp->Prop),Inv X pins σ H s->RelV v u->t v σ H Q ->
  wpAny (model X.prog X.w) X.A (assign target X.env u) (fun _ s'=>∃ σ' H',Inv X pins σ' H' s'/\Q σ' H') X.xe s
noncomputable def PGs (X:Cx)(ts:List Expr)(t:TGs):Prop :=
 ∀ (pins:List (Addr×Obj)) (s:Shared) (σ:St) (H:Hp) (vs:List V) (us:List Value) (Q:St->Hp->Prop),Inv X pins σ H s->Vals vs us->t vs σ H Q ->
  wpAny (model X.prog X.w) X.A (assignInOrder ((assignEach ts X.env).map (·.2)) us) (fun _ s'=>∃ σ' H',Inv X pins σ' H' s'/\Q σ' H') X.xe s
noncomputable abbrev CC:=V->V->V->Hp->(Hp->Prop)->Prop
noncomputable def Ef (X:Cx)(t:CC):Prop :=
 ∀ (pins:List (Addr×Obj)) (s:Shared) (σ:St) (H:Hp) (o i v:V) (ov iv u:Value) (Q:Hp->Prop),Inv X pins σ H s->RelV o ov->RelV i iv->RelV v u->t o i v H Q ->
  wpAny (model X.prog X.w) X.A (setItem ov iv u) (fun _ s'=>∃ H',Inv X pins σ H' s'/\Q H') X.xe s
section
variable {X:Cx}{pos:Pos}
noncomputable def pV (i:Nat):TG:=fun v σ H Q=>Q (σ.set i (some v)) H
theorem aL {i:Nat}{x:Str}(hN:X.N.Nodup)(hi:X.N[i]?=some x)(hx:Loc X.env.scope x)(hf:X.fn x=true\/X.env.scope.names.lookup x=some .local:=by first | exact .inl rfl | exact .inr rfl | assumption):PG X (.Name x pos) (pV i):=by
 intro pins s σ H v u Q I r h;exact wpAny_assign_Name (sX I hN hi hx r (fun s' I'=>⟨_,H,I',h⟩) hf)
noncomputable def FK:TGs:=fun vs σ H Q=>vs=[]/\Q σ H
noncomputable def Eg (t:TG)(u:TGs):TGs:=fun vs σ H Q=>∃ v r,vs=v::r/\t v σ H fun σ' H'=>u r σ' H' Q
theorem gb:PGs X [] FK:=by
 intro pins s σ H vs us Q I r h;obtain⟨e,h⟩:=h;subst e;cases r;exact assignInOrder_nil ⟨σ,H,I,h⟩
theorem bH {e:Expr}{es:List Expr}{t:TG}{u:TGs}(h1:PG X e t)(h2:PGs X es u)
  (hs:(assignEach (e::es) X.env).map (·.2)=assign e X.env::(assignEach es X.env).map (·.2):=by rfl):PGs X (e::es) (Eg t u):=by
 intro pins s σ H vs us Q I r h;obtain⟨v,vr,e1,h⟩:=h;subst e1;cases r with
 | cons r rr =>
  rw[hs];refine assignInOrder_cons (thn (h1 pins s σ H _ _ _ I r h) fun _ s1 ⟨σ1,H1,I1,q1⟩=>?_);exact h2 pins s1 σ1 H1 _ _ Q I1 rr q1
noncomputable def Eh (K:HS)(n:Nat)(t:TGs):TG:=fun v σ H Q=>∃ a xs,v=.ref a/\SqT K H a xs/\xs.length=n/\t xs σ H Q
theorem j5 {es:List Expr}{k:Nat}{t:TGs}{n:Nat}(hc:X.calm=true)(h:PGs X es t)
  (hn:(assignEach es X.env).length=n:=by rfl) (hst:(assignEach es X.env).findIdx? (·.1)=none:=by rfl):PG X (.Tuple es k pos) (Eh X.K n t):=by
 intro pins s σ H v u Q I r hw;obtain⟨a,xs,e1,hq,hl,hw⟩:=hw;subst e1;cases r;obtain⟨its,rv,ht,hz⟩:=I.tuple hq;refine assign_Tuple_tuple (I.ok.hd hc) ht (by simp[hn,<- hl,rv.length]) hst fun h' hx=>?_
 have I1:Inv X pins σ H { s with heap:=h' }:=I.kept (t':=s.toks) fun b o e=>hx b o (IB (Il e)) e
 exact h pins _ σ H xs _ Q I1 (by simpa using rv) hw
noncomputable def FL (to ti:TE)(t:CC):TG:=fun v σ H Q=>to σ H fun o H1=>ti σ H1 fun i H2=>t o i v H2 fun H3=>Q σ H3
theorem fP {o i:Expr}{to ti:TE}{t:CC}(ho:PE X o to)(hi:PE X i ti)(hs:Ef X t)
  (ha:∀ v,assign (.Subscript o i pos) X.env v=(do
   let ov <- holding [v] (eval o X.env)
   let iv <- holding [v,ov] (eval i X.env)
   standAt pos
   holding [v,ov,iv] (setItem ov iv v)
   release [v,ov,iv] []):=by intro _;rfl):PG X (.Subscript o i pos) (FL to ti t):=by
 intro pins s σ H v u Q I r h;rw[ha];refine wpAny_bind (wpAny_holding (thn (ho pins s σ H _ I h) fun ov s1 ⟨x,H1,I1,r1,q1⟩=>?_));refine wpAny_bind (wpAny_holding (thn (hi pins s1 σ H1 _ I1 q1) fun iv s2 ⟨y,H2,I2,r2,q2⟩=>?_));refine wpAny_bind (wpAny_standAt (wpAny_bind (wpAny_holding (thn (hs pins s2 σ H2 x y v ov iv u _ I2 r1 r2 r q2) fun _ s3 ⟨H3,I3,q3⟩=>?_))));exact wpAny_release ⟨σ,H3,I3,q3⟩
noncomputable def AN (te:TE)(g:TG):TS:=fun D σ H=>te σ H fun x H1=>g x σ H1 D.nx
theorem eV {tg e:Expr}{te:TE}{g:TG}(he:PE X e te)(hg:PG X tg g)(hs:swapsWithSole [tg] e pos.line X.env=pure false:=by rfl)(hw:swappedStores [tg] e X.env=pure none:=by rfl)
  (h1:(assignEach [tg] X.env).map (·.2)=[assign tg X.env]:=by rfl):PS X (.Assign [tg] e pos) (AN te g):=by
 intro pins s σ H D I h;refine wpAny_Assign_stores (thn (he pins s σ H _ I h) fun v s1 ⟨x,H1,I1,r1,q1⟩=>?_) hs hw;rw[h1];exact thn (hg pins s1 σ H1 x v _ I1 r1 q1) fun _ s2 q=>q
theorem aK {i:Nat}{x:Str}{e:Expr}{te:TE}{pos':Pos}(hN:X.N.Nodup)(hi:X.N[i]?=some x)(hx:Loc X.env.scope x)(he:PE X e te)(hs:swapsWith e (some (.Name x pos')) pos.line X.env=pure false:=by rfl)(hf:X.fn x=true\/X.env.scope.names.lookup x=some .local:=by first | exact .inl rfl | exact .inr rfl | assumption) :
  PS X (.Assign [.Name x pos'] e pos) (AN te (pV i)):=by
 intro pins s σ H D I h;refine wpAny_Assign_Name (thn (he pins s σ H _ I h) fun v s1 ⟨y,H1,I1,r1,q1⟩=>?_) hs;exact sX I1 hN hi hx r1 (fun s2 I2=>⟨_,H1,I2,q1⟩) hf
end

section
variable {X:Cx}{pos:Pos}
noncomputable def y4 (c:TT)(tb:TS):TS:=fun D σ H=>∃ W:Nat->St->Hp->Prop,(∃ m,W m σ H)/\∀ m σ H,W m σ H ->
 c σ H fun b H1=>if b=true then ∃ N:St->Hp->Prop,(∀ σ' H',N σ' H'->∃ m',m'<m/\W m' σ' H')/\tb { D with nx:=N,ct:=N,bk:=D.nx } σ H1 else D.nx σ H1
theorem nK {c:Expr}{body:List Stmt}{tc:TT}{tb:TS}(hp:PassesOwn (model X.prog X.w) X.A X.env X.xe)(hc:PT X c tc)(hb:PSs X body tb):PS X (.While c body [] pos) (y4 tc tb):=by
 intro pins s σ H D I h;obtain⟨W,⟨m0,w0⟩,turn⟩:=h;refine wpAny_While (codeAny_whileLoop (fun n s'=>∃ σ' H',Inv X pins σ' H' s'/\W n σ' H') ?_ m0 ⟨σ,H,I,w0⟩);rintro n s1 ⟨σ1,H1,I1,w1⟩;refine wpAny_passesOwn hp (thn (hc pins s1 σ1 H1 _ I1 (turn n σ1 H1 w1)) fun b s2 ⟨H2,I2,q2⟩=>?_);cases b with
 | true =>
  obtain⟨N,hN,q2⟩:=q2;rw[if_pos rfl];refine wpAny_passesOwn hp (thn (hb pins s2 σ1 H2 _ I2 q2) fun f s3 q3=>?_);cases f with
  | next =>
   obtain⟨σ3,H3,I3,n3⟩:=q3;obtain⟨m',hm,w3⟩:=hN σ3 H3 n3;exact⟨m',hm,σ3,H3,I3,w3⟩
  | cont =>
   obtain⟨σ3,H3,I3,n3⟩:=q3;obtain⟨m',hm,w3⟩:=hN σ3 H3 n3;exact⟨m',hm,σ3,H3,I3,w3⟩
  | brk=>exact q3
  | ret v=>exact q3
 | false =>
  rw[if_neg Io];exact wpAny_execs_nil ⟨σ1,H2,I2,q2⟩
end

structure It where
 go:Nat->Hp->Prop
 yld:Nat->Hp->V->Hp->Prop
 stop:Nat->Hp->Prop
noncomputable def gH (X:Cx)(pins:List (Addr×Obj))(H:Hp)(b:Addr):Prop :=
 H b=none/\b≠X.env.locals/\b ∉ X.fs/\(b∈X.ex\/X.s₀.heap.objs.size<=b)/\(∀ x c,X.env.cells.lookup x=some c->c≠b)/\∀ p∈X.pn++pins,p.1≠b
theorem Inv.qO {X:Cx}{pins:List (Addr×Obj)}{σ:St}{H H':Hp}{s:Shared}{b:Addr}(I:Inv X pins σ H s)(hb:s.heap.objs.size<=b)(hn:H' b=none):gH X pins H' b:=by
 refine⟨hn,J9 (IY I.lt hb),I.FD hb,.inr (Jk I.sz hb),fun x c e z=>?_,fun p hp z=>?_⟩
 ·obtain⟨v,q⟩:=I.cell x c e;exact absurd (IY q.lt (by rw[z];exact hb)) (JK _)
 ·exact absurd (IY (Il (I.pin p hp).1) (by rw[z];exact hb)) (JK _)
structure Turn (P:Program) (w:World) (K:HS) (tg:Expr) (J:It) (fp:List Addr) (it:Addr) (tn:Nat->Heap->Prop):Prop where
 mem:it∈fp
 obj:∀ i h,tn i h->∀ b∈fp,∃ o,h.get? b=some o/\∀ v,o.data≠.cell v
 keep:∀ i h h',tn i h->(∀ b∈fp,∀ o,h.get? b=some o->h'.get? b=some o)->tn i h'
 item:∀ (X:Cx),X.prog=P->X.w=w->X.K=K->X.calm=true->∀ (i:Nat) (pins:List (Addr×Obj)) (s:Shared) (σ:St) (H:Hp) (E:Value->Shared->Prop),Inv X pins σ H s->(∀ b∈fp,gH X pins H b)->tn i s.heap->J.go i H ->
  wpAny (model P w) X.A (pyNext (.ref it)) (fun r s1=>∃ u,r=some u /\
   wpAny (model P w) X.A (letOwnedTupleGo tg (.ref it) u) (fun _ s2=>∃ x H',Inv X pins σ H' s2/\RelV x u/\J.yld i H x H'/\tn (i+1) s2.heap/\∀ b∈fp,H' b=none) E s1) E s
 done:∀ (X:Cx),X.prog=P->X.w=w->X.K=K->X.calm=true->∀ (i:Nat) (pins:List (Addr×Obj)) (s:Shared) (σ:St) (H:Hp) (E:Value->Shared->Prop),Inv X pins σ H s->(∀ b∈fp,gH X pins H b)->tn i s.heap->J.stop i H ->
  wpAny (model P w) X.A (pyNext (.ref it)) (fun r s1=>r=none/\Inv X pins σ H s1) E s
 self:∀ (A:Around) (i:Nat) (s:Shared) (Q:Value->Shared->Prop) (E:Value->Shared->Prop),tn i s.heap->Q (.ref it) s->wpAny (model P w) A (pyIter (.ref it)) Q E s
noncomputable abbrev TI:=St->Hp->(It->Hp->Prop)->Prop
noncomputable def PIE (X:Cx)(pins:List (Addr×Obj))(σ:St)(tg:Expr)(R:It->Hp->Prop)(itv:Value)(s2:Shared):Prop :=
 ∃ (it:Addr) (fp:List Addr) (tn:Nat->Heap->Prop) (J:It) (H':Hp),itv=.ref it/\Inv X pins σ H' s2/\Turn X.prog X.w X.K tg J fp it tn/\tn 0 s2.heap/\(∀ b∈fp,gH X pins H' b)/\R J H'
noncomputable def PI (X:Cx)(tg iter:Expr)(wi:TI):Prop :=
 ∀ (pins:List (Addr×Obj)) (s:Shared) (σ:St) (H:Hp) (R:It->Hp->Prop),Inv X pins σ H s->wi σ H R ->
  wpAny (model X.prog X.w) X.A (eval iter X.env) (fun v s1=>wpAny (model X.prog X.w) X.A (pyIter v) (PIE X pins σ tg R) X.xe s1) X.xe s

theorem y6 {M : Model}{A : Around}{E : Value -> Shared -> Prop}{s : Shared}{tg : Expr}{it : Addr}{u : Value}{o : Obj}{n : String}{vs : Array Value}{Q : Unit -> Shared -> Prop}(ho : s.heap.get? it=some o)(hc : o.cls=.type n)(hd : o.data=.fields vs)
    (hn : ["enumerate", "zip", "dict_itemiterator", "dict_reverseitemiterator", "odict_iterator", "itertools.zip_longest", "itertools.pairwise"].contains n=false) (hQ : Q () s) : wpAny M A (letOwnedTupleGo tg (.ref it) u) Q E s := by
  unfold letOwnedTupleGo;cases tg <;> first
    | exact wpAny_pure hQ
    | (cases u <;> first
        | exact wpAny_pure hQ
        | (refine wpAny_bind (wpAny_load ho ?_)
           rw[hc, hd];show wpAny M A (if (["enumerate", "zip", "dict_itemiterator", "dict_reverseitemiterator", "odict_iterator", "itertools.zip_longest", "itertools.pairwise"].contains n&&vs[0]? == some (rawInt _))=true then _ else _) Q E s;rw[if_neg (by intro h; rw[hn, Kn] at h; cases h)];exact wpAny_pure hQ))

noncomputable def Itl (K:HS)(a:Addr):It :=
 ⟨fun i H=>∃ xs x,SqL K H a xs/\xs[i]?=some x,fun i H x H'=>H'=H/\∀ xs,SqL K H a xs->xs[i]?=some x,fun i H=>∃ xs,SqL K H a xs/\xs.length<=i⟩
noncomputable def Itt (K:HS)(a:Addr):It :=
 ⟨fun i H=>∃ xs x,SqT K H a xs/\xs[i]?=some x,fun i H x H'=>H'=H/\∀ xs,SqT K H a xs->xs[i]?=some x,fun i H=>∃ xs,SqT K H a xs/\xs.length<=i⟩
noncomputable def Itr (lo:Int)(n:Nat):It:=⟨fun i _=>i<n,fun i H x H'=>H'=H/\x=.int (lo+i),fun i _=>n<=i⟩
theorem xU {P:Program}{w:World}{K:HS}{tg:Expr}(a it:Addr):Turn P w K tg (Itl K a) [it] it (fun i h=>h.IsListIter it a i) where
 mem:=by simp
 obj:=fun i h st b hb=>by
  have e:b=it:=by simpa using hb
  subst e;obtain⟨o,e,c,d⟩:=st;exact⟨o,e,fun v z=>by rw[d] at z;cases z⟩
 keep:=fun i h h' st k=>st.at fun o e=>k it (by simp) o e
 item:=by
  intro X hP hw hK hc i pins s σ H E I hf st hg;subst hP hw hK;obtain⟨xs,x,hq,hx⟩:=hg;obtain⟨its,rv,p,hz⟩:=I.list hq;obtain⟨u,hu,ru⟩:=rv.get hx;obtain⟨f0,f1,f2,f3,f4,f5⟩:=hf it (by simp);refine wpAny_pyNext_list_item st p.isList (x:=u) (by simpa using hu) fun h' st' sb=>?_
  have I1:Inv X pins σ H { s with heap:=h' }:=I.turned (t':=s.toks) (fun b o hb e=>(sb.2 b hb).trans e) f0 f1 f3 f4 f5;obtain⟨o,e,c,d⟩:=id st';exact⟨u,rfl,y6 (s:={ s with heap:=h' }) e c d (by decide) ⟨x,H,I1,ru,⟨rfl,fun ys hy=>by rw[I.y0 hy hq];exact hx⟩,st',fun b hb=>(hf b hb).1⟩⟩
 done:=by
  intro X hP hw hK hc i pins s σ H E I hf st hg;subst hP hw hK;obtain⟨xs,hq,hx⟩:=hg;obtain⟨its,rv,p,hz⟩:=I.list hq;obtain⟨f0,f1,f2,f3,f4,f5⟩:=hf it (by simp);have hl:=rv.length;exact wpAny_pyNext_list_end (I.ok.hd hc) st p.isList (by simp;omega) fun h' eb=>⟨rfl,I.turned (t':=s.toks) (fun b o hb e=>eb b o hb e) f0 f1 f3 f4 f5⟩
 self:=fun _ _ _ _ _ st h=>wpAny_pyIter_listiter st h
theorem vn {P:Program}{w:World}{K:HS}{tg:Expr}(a it:Addr):Turn P w K tg (Itt K a) [it] it (fun i h=>h.IsTupleIter it a i) where
 mem:=by simp
 obj:=fun i h st b hb=>by
  have e:b=it:=by simpa using hb
  subst e;obtain⟨o,e,c,d⟩:=st;exact⟨o,e,fun v z=>by rw[d] at z;cases z⟩
 keep:=fun i h h' st k=>st.at fun o e=>k it (by simp) o e
 item:=by
  intro X hP hw hK hc i pins s σ H E I hf st hg;subst hP hw hK;obtain⟨xs,x,hq,hx⟩:=hg;obtain⟨its,rv,p,hz⟩:=I.tuple hq;obtain⟨u,hu,ru⟩:=rv.get hx;obtain⟨f0,f1,f2,f3,f4,f5⟩:=hf it (by simp);refine wpAny_pyNext_tuple_item st (show s.heap.IsTuple a its.toArray from p) (x:=u) (by simpa using hu) fun h' st' sb=>?_
  have I1:Inv X pins σ H { s with heap:=h' }:=I.turned (t':=s.toks) (fun b o hb e=>(sb.2 b hb).trans e) f0 f1 f3 f4 f5;obtain⟨o,e,c,d⟩:=id st';exact⟨u,rfl,y6 (s:={ s with heap:=h' }) e c d (by decide) ⟨x,H,I1,ru,⟨rfl,fun ys hy=>by rw[I.pU hy hq];exact hx⟩,st',fun b hb=>(hf b hb).1⟩⟩
 done:=by
  intro X hP hw hK hc i pins s σ H E I hf st hg;subst hP hw hK;obtain⟨xs,hq,hx⟩:=hg;obtain⟨its,rv,p,hz⟩:=I.tuple hq;obtain⟨f0,f1,f2,f3,f4,f5⟩:=hf it (by simp);have hl:=rv.length;exact wpAny_pyNext_tuple_end (I.ok.hd hc) st (show s.heap.IsTuple a its.toArray from p) (by simp;omega) fun h' eb=>⟨rfl,I.turned (t':=s.toks) (fun b o hb e=>eb b o hb e) f0 f1 f3 f4 f5⟩
 self:=fun _ _ _ _ _ st h=>wpAny_pyIter_tupleiter st h
theorem vo {P:Program}{w:World}{K:HS}{tg:Expr}(it:Addr)(lo:Int)(n:Nat):Turn P w K tg (Itr lo n) [it] it (fun i h=>IsRangeIter h it (lo+(i:Nat)*1) ((n:Int)-(i:Nat)) 1) where
 mem:=by simp
 obj:=fun i h st b hb=>by
  have e:b=it:=by simpa using hb
  subst e;exact⟨_,st,fun v z=>by
   have z':Data.fields _=Data.cell v:=z;cases z'⟩
 keep:=fun i h h' st k=>k it (by simp) _ st
 item:=by
  intro X hP hw hK hc i pins s σ H E I hf st hg;subst hP hw hK;obtain⟨f0,f1,f2,f3,f4,f5⟩:=hf it (by simp);have W:=Walks.range (prog:=X.prog) (w:=X.w) (I.ok.hd hc) it lo 1 n;refine W.item i s _ _ hg st fun v h' tk hv st' kk=>?_
  obtain⟨t,rfl⟩:=hv;have I1:Inv X pins σ H { s with heap:=h',toks:=tk }:=I.turned (fun b o hb e=>kk b o (by simpa using hb) e) f0 f1 f3 f4 f5;refine⟨_,rfl,y6 (s:={ s with heap:=h',toks:=tk }) (n:="range_iterator") st' rfl rfl (by decide) ⟨.int (lo+i),H,I1,⟨t,?_⟩,⟨rfl,rfl⟩,st',fun b hb=>(hf b hb).1⟩⟩;rw[M9]
 done:=by
  intro X hP hw hK hc i pins s σ H E I hf st hg;subst hP hw hK;obtain⟨f0,f1,f2,f3,f4,f5⟩:=hf it (by simp);exact wpAny_pyNext_range_end (I.ok.hd hc) st (by have:n<=i:=hg;omega) fun h' eb=>⟨rfl,I.turned (t':=s.toks) (fun b o hb e=>eb b o hb e) f0 f1 f3 f4 f5⟩
 self:=fun _ _ _ _ _ st h=>wpAny_pyIter_rangeiter st h
end L2

namespace L2
open PySem PySem.Spec PyProof.Rows
section
variable {X:Cx}{tg:Expr}
noncomputable def Ei (K:HS)(tl:TE):TI:=fun σ H R=>tl σ H fun x H1=>∃ a,x=.ref a/\(∃ xs,SqL K H1 a xs)/\R (Itl K a) H1
noncomputable def FN (K:HS)(tl:TE):TI:=fun σ H R=>tl σ H fun x H1=>∃ a,x=.ref a/\(∃ xs,SqT K H1 a xs)/\R (Itt K a) H1
theorem bJ {l:Expr}{tl:TE}(hl:PE X l tl):PI X tg l (Ei X.K tl):=by
 intro pins s σ H R I h;refine thn (hl pins s σ H _ I h) fun v s1 ⟨x,H1,I1,r1,q1⟩=>?_
 obtain⟨a,e,⟨xs,hq⟩,q⟩:=q1;subst e;cases r1;obtain⟨its,rv,p,hz⟩:=I1.list hq;refine wpAny_pyIter_list p.isList ?_;refine⟨s1.heap.objs.size,[s1.heap.objs.size],_,_,H1,rfl,I1.kept (t':=s1.toks) fun b o e=>HU _ e,xU a _,⟨_,Ir _ rfl,rfl,rfl⟩,fun b hb=>?_,q⟩;have e:b=s1.heap.objs.size:=by simpa using hb
 subst e;exact I1.qO (HV _) (I1.hok.fresh (HV _))
theorem qP {l:Expr}{tl:TE}(hl:PE X l tl):PI X tg l (FN X.K tl):=by
 intro pins s σ H R I h;refine thn (hl pins s σ H _ I h) fun v s1 ⟨x,H1,I1,r1,q1⟩=>?_
 obtain⟨a,e,⟨xs,hq⟩,q⟩:=q1;subst e;cases r1;obtain⟨its,rv,p,hz⟩:=I1.tuple hq;refine wpAny_pyIter_tuple (show s1.heap.IsTuple a its.toArray from p) ?_;refine⟨s1.heap.objs.size,[s1.heap.objs.size],_,_,H1,rfl,I1.kept (t':=s1.toks) fun b o e=>HU _ e,vn a _,⟨_,Ir _ rfl,rfl,rfl⟩,fun b hb=>?_,q⟩;have e:b=s1.heap.objs.size:=by simpa using hb
 subst e;exact I1.qO (HV _) (I1.hok.fresh (HV _))
theorem sY {pins:List (Addr×Obj)}{σ:St}{H:Hp}{s:Shared}{R:It->Hp->Prop}{E:Value->Shared->Prop}{lo hi:Int}{t u v:Tok}{tk:Nat}(I:Inv X pins σ H s)(h1:-(2 ^ 62)<=lo)(h2:lo<2 ^ 62)(h3:-(2 ^ 62)<=hi)(h4:hi<2 ^ 62)
  (q:R (Itr lo (hi-lo).toNat) H):wpAny (model X.prog X.w) X.A (pyIter (.ref s.heap.objs.size)) (PIE X pins σ tg R) E { s with heap:=s.heap.push { cls:=.type "range",data:=.fields #[.int lo t,.int hi u,.int 1 v] },toks:=tk }:=by
 refine wpAny_pyIter_range (IsRange.new ..) (small_one h1 h2 h3 h4) ?_;have I1:Inv X pins σ H { s with heap:=s.heap.push { cls:=.type "range",data:=.fields #[.int lo t,.int hi u,.int 1 v] },toks:=tk }:=I.kept fun b o e=>HU _ e
 refine⟨(s.heap.push { cls:=.type "range",data:=.fields #[.int lo t,.int hi u,.int 1 v] }).objs.size,[(s.heap.push { cls:=.type "range",data:=.fields #[.int lo t,.int hi u,.int 1 v] }).objs.size],_,_,H,rfl,
  I1.kept (t':=tk) fun b o e=>HU _ e,vo _ lo (hi-lo).toNat,?_,fun b hb=>?_,q⟩
 ·have e1:lo+((0:Nat):Int)*1=lo:=by simp
  have e2:(((hi-lo).toNat:Nat):Int)-((0:Nat):Int)=Builtin.Range.rangeSize lo hi 1:=by rw[rangeSize_one];split <;> omega
  show IsRangeIter _ _ (lo+((0:Nat):Int)*1) ((((hi-lo).toNat:Nat):Int)-((0:Nat):Int)) 1;rw[e1,e2];exact Ir _ rfl
 ·have e:b=(s.heap.push { cls:=.type "range",data:=.fields #[.int lo t,.int hi u,.int 1 v] }).objs.size:=by simpa using hb
  subst e;exact I1.qO (HV _) (I1.hok.fresh (HV _))
noncomputable def Ej (ta:TA):TI:=fun σ H R=>ta σ H fun vs H1=>∃ j:Int,vs=[.int j]/\-(2 ^ 62)<=j/\j<2 ^ 62/\R (Itr 0 j.toNat) H1
noncomputable def Ek (ta:TA):TI:=fun σ H R=>ta σ H fun vs H1=>∃ i j:Int,vs=[.int i,.int j]/\(-(2 ^ 62)<=i/\i<2 ^ 62/\-(2 ^ 62)<=j/\j<2 ^ 62)/\R (Itr i (j-i).toNat) H1
theorem gA {a:Expr}{ta:TA}{p pos:Pos}(hg:Gl X "range")(hm:X.mg "range" = none)(ha:PA X [a] ta)(hs:starEach [a] X.env=[(false,eval a X.env)]:=by rfl):PI X tg (.Call (.Name "range" p) [a] [] pos) (Ej ta):=by
 intro pins s σ H R I h;refine Call_ (jZ I hg hm boot_range (J4 (thn (ha pos pins s σ H _ I h) fun us s1 ⟨vs,H1,I1,r1,q1⟩=>?_) hs rfl));obtain⟨j,e,q1,q2,q⟩:=q1;subst e;cases r1 with
 | cons r rr =>
  cases rr;obtain⟨t,rfl⟩:=r;exact call_range_1 (sY I1 (by omega) (by omega) q1 q2 (by simpa using q))
theorem xV {a b:Expr}{ta:TA}{p pos:Pos}(hg:Gl X "range")(hm:X.mg "range" = none)(ha:PA X [a,b] ta)(hs:starEach [a,b] X.env=[(false,eval a X.env),(false,eval b X.env)]:=by rfl)(hs2:starEach [b] X.env=[(false,eval b X.env)]:=by rfl) :
  PI X tg (.Call (.Name "range" p) [a,b] [] pos) (Ek ta):=by
 intro pins s σ H R I h;refine Call_ (jZ I hg hm boot_range (J4 (thn (ha pos pins s σ H _ I h) fun us s1 ⟨vs,H1,I1,r1,q1⟩=>?_) (by rw[hs,hs2]) (by rw[hs2];rfl)));obtain⟨i,j,e,⟨q1,q2,q3,q4⟩,q⟩:=q1;subst e;cases r1 with
 | cons r rr =>
  cases rr with
  | cons r' rr =>
   cases rr;obtain⟨t,rfl⟩:=r;obtain⟨t',rfl⟩:=r';exact call_range_2 (sY I1 q1 q2 q3 q4 q)

noncomputable def FO (wi:TI)(g:TG)(tb:TS):TS:=fun D σ H=>wi σ H fun J H1=>∃ W:Nat->Nat->St->Hp->Prop,(∃ m,W 0 m σ H1)/\∀ i m σ H,W i m σ H ->
 (J.stop i H/\D.nx σ H)\/(J.go i H/\∃ N:St->Hp->Prop,(∀ σ' H',N σ' H'->∃ m',m'<m/\W (i+1) m' σ' H')/\∀ x H',J.yld i H x H'->g x σ H' fun σ2 H2=>tb { D with nx:=N,ct:=N,bk:=D.nx } σ2 H2)
noncomputable def lQ (fp:List Addr)(h:Heap):List (Addr×Obj):=fp.filterMap fun b=>(h.get? b).map fun o=>(b,o)
theorem eW {fp:List Addr}{h:Heap}{b:Addr}{o:Obj}(hb:b∈fp)(e:h.get? b=some o):(b,o)∈lQ fp h:=Ld.mpr ⟨b,hb,by rw[e];rfl⟩
theorem xW {fp:List Addr}{h:Heap}{p:Addr×Obj}(hp:p∈lQ fp h):p.1∈fp/\h.get? p.1=some p.2:=by
 obtain⟨b,hb,e⟩:=Ld.mp hp;cases q:h.get? b with
 | none=>rw[q] at e;cases e
 | some o =>
  rw[q] at e;have e':(b,o)=p:=Option.some.inj e;subst e';exact⟨hb,q⟩
theorem Inv.pinned {pins:List (Addr×Obj)}{σ:St}{H:Hp}{s:Shared}{fp:List Addr}(I:Inv X pins σ H s)(hf:∀ b∈fp,gH X pins H b)(ho:∀ b∈fp,∃ o,s.heap.get? b=some o/\∀ v,o.data≠.cell v):Inv X (pins++lQ fp s.heap) σ H s :=
 I.qM fun p hp=>(Ic.mp hp).elim (fun z=>I.pin p (Ip _ z)) fun z=>by
  obtain⟨hb,e⟩:=xW z;obtain⟨f0,f1,f2,_⟩:=hf p.1 hb;obtain⟨o,e',d⟩:=ho p.1 hb;rw[e] at e';cases e';exact⟨e,f0,f1,f2,d⟩
theorem Inv.iz {pins pl:List (Addr×Obj)}{σ:St}{H:Hp}{s:Shared}(I:Inv X (pins++pl) σ H s):Inv X pins σ H s:=I.qM fun p hp=>I.pin p (Ip _ (IW _ hp))
theorem b6 {iter:Expr}{body:List Stmt}{wi:TI}{g:TG}{tb:TS}{pos:Pos}(hp:PassesOwn (model X.prog X.w) X.A X.env X.xe)(hc:X.calm=true)(hi:PI X tg iter wi)(hg:PG X tg g)(hb:PSs X body tb)
  (hs:∀ x,foldedSetIterable iter X.env x=pure x:=by intro _;rfl):PS X (.For tg iter body [] pos) (FO wi g tb):=by
 intro pins s σ H D I h;refine wpAny_For (thn (hi pins s σ H _ I h) fun v s1 h1=>thn h1 fun itv s2 h2=>?_) hs;obtain⟨it,fp,tn,J,H2,e,I2,T,st2,f2,W,⟨m0,w0⟩,turn⟩:=h2;subst e;have nM:∀ {H':Hp},(∀ b∈fp,H' b=none)->∀ b∈fp,gH X pins H' b:=fun hn b hb=>⟨hn b hb,(f2 b hb).2⟩
 refine codeAny_forLoop_any (fun n s'=>∃ i σ' H',Inv X pins σ' H' s'/\tn i s'.heap/\(∀ b∈fp,H' b=none)/\W i n σ' H') ?_ m0 ⟨0,σ,H2,I2,st2,fun b hb=>(f2 b hb).1,w0⟩;rintro n s3 ⟨i,σ3,H3,I3,st3,fr3,w3⟩;rcases turn i n σ3 H3 w3 with ⟨stop,qn⟩ | ⟨go,N,hN,step⟩
 ·refine wpAny_passesOwn hp (thn (T.done X rfl rfl rfl hc i pins s3 σ3 H3 X.xe I3 (nM fr3) st3 stop) fun r s4 ⟨hr,I4⟩=>?_);subst hr;exact wpAny_execs_nil ⟨σ3,H3,I4,qn⟩
 ·refine wpAny_passesOwn hp (thn (T.item X rfl rfl rfl hc i pins s3 σ3 H3 X.xe I3 (nM fr3) st3 go) fun r s4 ⟨u,hr,h4⟩=>?_);subst hr;refine wpAny_passesOwn hp (thn h4 fun _ s5 ⟨x,H5,I5,r5,y5,st5,fr5⟩=>?_);have I5':=I5.pinned (nM fr5) (T.obj _ _ st5);refine wpAny_passesOwn hp (thn (hg _ s5 σ3 H5 x u _ I5' r5 (step x H5 y5)) fun _ s6 ⟨σ6,H6,I6,q6⟩=>?_);refine wpAny_passesOwn hp (thn (hb _ s6 σ6 H6 _ I6 q6) fun f s7 q7=>?_);have again:∀ {σ7:St} {H7:Hp},Inv X (pins++lQ fp s5.heap) σ7 H7 s7->N σ7 H7->∃ m,m<n/\∃ i σ' H',Inv X pins σ' H' s7/\tn i s7.heap/\(∀ b∈fp,H' b=none)/\W i m σ' H':=fun {σ7 H7} I7 n7=>by
   obtain⟨m',hm,w7⟩:=hN σ7 H7 n7;refine⟨m',hm,i+1,σ7,H7,I7.iz,T.keep _ _ _ st5 fun b hb o e=>(I7.pin (b,o) (Ip _ (Ip _ (eW hb e)))).1,fun b hb=>?_,w7⟩;obtain⟨o,e,d⟩:=T.obj _ _ st5 b hb;exact(I7.pin (b,o) (Ip _ (Ip _ (eW hb e)))).2.1
  cases f with
  | next=>obtain⟨σ7,H7,I7,n7⟩:=q7;exact again I7 n7
  | cont=>obtain⟨σ7,H7,I7,n7⟩:=q7;exact again I7 n7
  | brk=>obtain⟨σ7,H7,I7,q7⟩:=q7;exact⟨σ7,H7,I7.iz,q7⟩
  | ret v=>obtain⟨x7,σ7,H7,I7,r7,q7⟩:=q7;exact⟨x7,σ7,H7,I7.iz,r7,q7⟩
end

theorem cJ {K:HS}{a:Addr}{xs:List V}{g:TG}{tb:TS}{D:Ends}{σ:St}{H:Hp}(Pv:Nat->St->Hp->Prop)(h0:Pv 0 σ H)(hl:∀ i σ H,i<=xs.length->Pv i σ H->SqL K H a xs)
  (hs:∀ i x σ H,xs[i]?=some x->Pv i σ H->g x σ H fun σ2 H2=>tb { D with nx:=Pv (i+1),ct:=Pv (i+1),bk:=D.nx } σ2 H2) (hd:∀ σ H,Pv xs.length σ H->D.nx σ H) :
  ∃ W:Nat->Nat->St->Hp->Prop,(∃ m,W 0 m σ H)/\∀ i m σ H,W i m σ H ->
   ((Itl K a).stop i H/\D.nx σ H)\/((Itl K a).go i H/\∃ N:St->Hp->Prop,(∀ σ' H',N σ' H'->∃ m',m'<m/\W (i+1) m' σ' H')/\∀ x H',(Itl K a).yld i H x H'->g x σ H' fun σ2 H2=>tb { D with nx:=N,ct:=N,bk:=D.nx } σ2 H2):=by
 refine⟨fun i m σ H=>m=xs.length-i/\i<=xs.length/\Pv i σ H,⟨xs.length,by simp,IT _,h0⟩,?_⟩;rintro i m σ H ⟨rfl,hi,p⟩;have q:=hl i σ H hi p;by_cases hlt:i<xs.length
 ·refine .inr ⟨⟨xs,xs[i],q,by simp[hlt]⟩,Pv (i+1),fun σ' H' p'=>⟨xs.length-(i+1),by omega,rfl,hlt,p'⟩,fun x H' y=>?_⟩;obtain⟨e,y⟩:=y;subst e;exact hs i x σ _ (y xs q) p
 ·have e:i=xs.length:=by omega
  subst e;exact .inl ⟨⟨xs,q,HV _⟩,hd σ H p⟩
theorem wQ {K:HS}{a:Addr}{xs:List V}{g:TG}{tb:TS}{D:Ends}{σ:St}{H:Hp}(Pv:Nat->St->Hp->Prop)(h0:Pv 0 σ H)(hl:∀ i σ H,i<=xs.length->Pv i σ H->SqT K H a xs)
  (hs:∀ i x σ H,xs[i]?=some x->Pv i σ H->g x σ H fun σ2 H2=>tb { D with nx:=Pv (i+1),ct:=Pv (i+1),bk:=D.nx } σ2 H2) (hd:∀ σ H,Pv xs.length σ H->D.nx σ H) :
  ∃ W:Nat->Nat->St->Hp->Prop,(∃ m,W 0 m σ H)/\∀ i m σ H,W i m σ H ->
   ((Itt K a).stop i H/\D.nx σ H)\/((Itt K a).go i H/\∃ N:St->Hp->Prop,(∀ σ' H',N σ' H'->∃ m',m'<m/\W (i+1) m' σ' H')/\∀ x H',(Itt K a).yld i H x H'->g x σ H' fun σ2 H2=>tb { D with nx:=N,ct:=N,bk:=D.nx } σ2 H2):=by
 refine⟨fun i m σ H=>m=xs.length-i/\i<=xs.length/\Pv i σ H,⟨xs.length,by simp,IT _,h0⟩,?_⟩;rintro i m σ H ⟨rfl,hi,p⟩;have q:=hl i σ H hi p;by_cases hlt:i<xs.length
 ·refine .inr ⟨⟨xs,xs[i],q,by simp[hlt]⟩,Pv (i+1),fun σ' H' p'=>⟨xs.length-(i+1),by omega,rfl,hlt,p'⟩,fun x H' y=>?_⟩;obtain⟨e,y⟩:=y;subst e;exact hs i x σ _ (y xs q) p
 ·have e:i=xs.length:=by omega
  subst e;exact .inl ⟨⟨xs,q,HV _⟩,hd σ H p⟩
theorem gB {lo:Int}{n:Nat}{g:TG}{tb:TS}{D:Ends}{σ:St}{H:Hp}(Pv:Nat->St->Hp->Prop)(h0:Pv 0 σ H)
  (hs:∀ i σ H,i<n->Pv i σ H->g (.int (lo+i)) σ H fun σ2 H2=>tb { D with nx:=Pv (i+1),ct:=Pv (i+1),bk:=D.nx } σ2 H2) (hd:∀ σ H,Pv n σ H->D.nx σ H) :
  ∃ W:Nat->Nat->St->Hp->Prop,(∃ m,W 0 m σ H)/\∀ i m σ H,W i m σ H ->
   ((Itr lo n).stop i H/\D.nx σ H)\/((Itr lo n).go i H/\∃ N:St->Hp->Prop,(∀ σ' H',N σ' H'->∃ m',m'<m/\W (i+1) m' σ' H')/\∀ x H',(Itr lo n).yld i H x H'->g x σ H' fun σ2 H2=>tb { D with nx:=N,ct:=N,bk:=D.nx } σ2 H2):=by
 refine⟨fun i m σ H=>m=n-i/\i<=n/\Pv i σ H,⟨n,by simp,IT _,h0⟩,?_⟩;rintro i m σ H ⟨rfl,hi,p⟩;by_cases hlt:i<n
 ·refine .inr ⟨hlt,Pv (i+1),fun σ' H' p'=>⟨n-(i+1),by omega,rfl,hlt,p'⟩,fun x H' y=>?_⟩;obtain⟨e,y⟩:=y;subst e y;exact hs i σ _ hlt p
 ·have e:i=n:=by omega
  subst e;exact .inl ⟨HV _,hd σ H p⟩
theorem sZ {c:TT}{tb:TS}{D:Ends}{σ:St}{H:Hp}(Pv:St->Hp->Prop)(μ:St->Hp->Nat)(h0:Pv σ H)
  (hs:∀ σ H,Pv σ H->c σ H fun b H1=>if b=true then tb { D with nx:=fun σ' H'=>Pv σ' H'/\μ σ' H'<μ σ H,ct:=fun σ' H'=>Pv σ' H'/\μ σ' H'<μ σ H,bk:=D.nx } σ H1 else D.nx σ H1)
  (mono:∀ σ H Q Q',(∀ b H1,Q b H1->Q' b H1)->c σ H Q->c σ H Q'):y4 c tb D σ H:=by
 refine⟨fun m σ H=>m=μ σ H/\Pv σ H,⟨_,rfl,h0⟩,?_⟩;rintro m σ H ⟨rfl,p⟩;refine mono σ H _ _ (fun b H1 q=>?_) (hs σ H p);cases b with
 | true=>exact⟨_,fun σ' H' ⟨p',l⟩=>⟨_,l,rfl,p'⟩,q⟩
 | false=>exact q
end L2

namespace L2
open PySem PySem.Spec PyProof.Rows

noncomputable abbrev R2:=V->V->Hp->VK->Prop
noncomputable def OpR (X:Cx)(f:Value->Value->Sem Value)(r:R2):Prop :=
 ∀ (pins:List (Addr×Obj)) (s:Shared) (σ:St) (H:Hp) (x y:V) (v u:Value) (Q:VK),Inv X pins σ H s->RelV x v->RelV y u->r x y H Q ->
  wpAny (model X.prog X.w) X.A (f v u) (EP X pins σ Q) X.xe s
noncomputable def UnR (X:Cx)(f:Value->Sem Value)(r:V->Hp->VK->Prop):Prop :=
 ∀ (pins:List (Addr×Obj)) (s:Shared) (σ:St) (H:Hp) (x:V) (v:Value) (Q:VK),Inv X pins σ H s->RelV x v->r x H Q ->
  wpAny (model X.prog X.w) X.A (f v) (EP X pins σ Q) X.xe s
noncomputable def eI (X:Cx)(f:Value)(r:List V->Hp->VK->Prop):Prop :=
 ∀ (pins:List (Addr×Obj)) (s:Shared) (σ:St) (H:Hp) (xs:List V) (us:List Value) (Q:VK),Inv X pins σ H s->Vals xs us->r xs H Q ->
  wpAny (model X.prog X.w) X.A (call f us) (EP X pins σ Q) X.xe s
noncomputable def tOp (r:R2)(ta tb:TE):TE:=fun σ H Q=>ta σ H fun x H1=>tb σ H1 fun y H2=>r x y H2 Q
noncomputable def tUn (r:V->Hp->VK->Prop)(ta:TE):TE:=fun σ H Q=>ta σ H fun x H1=>r x H1 Q
noncomputable def rI (C:Int->Int->Prop)(g:Int->Int->V):R2:=fun x y H Q=>∃ i j,x=.int i/\y=.int j/\C i j/\Q (g i j) H
noncomputable def rI0 (g:Int->Int->V):R2:=fun x y H Q=>∃ i j,x=.int i/\y=.int j/\Q (g i j) H
noncomputable def rU (g:Int->V):V->Hp->VK->Prop:=fun x H Q=>∃ i,x=.int i/\Q (g i) H

section
variable {X:Cx}{a b c:Expr}{ta tb tc:TE}{pos:Pos}

theorem CD (ha:PE X a ta)(hb:PE X b tb){pins:List (Addr×Obj)}{s:Shared}{σ:St}{H:Hp}{R:V->V->Hp->Prop}(I:Inv X pins σ H s)
  (h:ta σ H fun x H1=>tb σ H1 fun y H2=>R x y H2) {Q:Value->Shared->Prop} {f:Value->Value->Sem Value}
  (hf:∀ v u s2 x y H2,Inv X pins σ H2 s2->RelV x v->RelV y u->R x y H2->wpAny (model X.prog X.w) X.A (f v u) Q X.xe s2) :
  wpAny (model X.prog X.w) X.A (eval a X.env) (fun v s₁=>wpAny (model X.prog X.w) X.A (eval b X.env) (fun u s₂=>wpAny (model X.prog X.w) X.A (f v u) Q X.xe s₂) X.xe s₁) X.xe s:=by
 refine thn (ha pins s σ H _ I h) fun v s1 ⟨x,H1,I1,r1,q1⟩=>?_
 refine thn (hb pins s1 σ H1 _ I1 q1) fun u s2 ⟨y,H2,I2,r2,q2⟩=>?_
 exact hf v u s2 x y H2 I2 r1 r2 q2

theorem bt {op:Operator}{r:R2}(ho:OpR X (binaryOp op) r)(ha:PE X a ta)(hb:PE X b tb):PE X (.BinOp a op b pos) (tOp r ta tb):=by
 intro pins s σ H Q I h;exact wpAny_BinOp (CD ha hb I h fun v u s2 x y H2 I2 rx ry q=>ho pins s2 σ H2 x y v u Q I2 rx ry q)
theorem wR {op:UnaryOp}{r:V->Hp->VK->Prop}(ho:UnR X (unaryOp op) r)(ha:PE X a ta):PE X (.UnaryOp op a pos) (tUn r ta):=by
 intro pins s σ H Q I h;exact UnaryOp_ (thn (ha pins s σ H _ I h) fun v s1 ⟨x,H1,I1,r1,q1⟩=>ho pins s1 σ H1 x v Q I1 r1 q1)
theorem opI {f:Value->Value->Sem Value}{C:Int->Int->Prop}{g:Int->Int->Int}
  (rule:∀ (i j:Int) (t u:Tok) (s:Shared) (Q:Value->Shared->Prop) (E:Value->Shared->Prop),C i j->Q (.int (g i j) s.toks) { s with toks:=s.toks+1 }->wpAny (model X.prog X.w) X.A (f (.int i t) (.int j u)) Q E s) :
  OpR X f (rI C fun i j=>.int (g i j)):=by
 intro pins s σ H x y v u Q I rx ry h;obtain⟨i,j,rfl,rfl,hc,q⟩:=h;obtain⟨t,rfl⟩:=rx;obtain⟨t',rfl⟩:=ry;exact rule i j t t' s _ _ hc ⟨.int (g i j),H,I.tok _,⟨_,rfl⟩,q⟩
theorem El {f:Value->Value->Sem Value}{g:Int->Int->Int}
  (rule:∀ (i j:Int) (t u:Tok) (s:Shared) (Q:Value->Shared->Prop) (E:Value->Shared->Prop),Q (.int (g i j) s.toks) { s with toks:=s.toks+1 }->wpAny (model X.prog X.w) X.A (f (.int i t) (.int j u)) Q E s) :
  OpR X f (rI0 fun i j=>.int (g i j)):=by
 intro pins s σ H x y v u Q I rx ry h;obtain⟨i,j,rfl,rfl,q⟩:=h;obtain⟨t,rfl⟩:=rx;obtain⟨t',rfl⟩:=ry;exact rule i j t t' s _ _ ⟨.int (g i j),H,I.tok _,⟨_,rfl⟩,q⟩
theorem AO {f:Value->Value->Sem Value}{g:Int->Int->Bool}
  (rule:∀ (i j:Int) (t u:Tok) (s:Shared) (Q:Value->Shared->Prop) (E:Value->Shared->Prop),Q (.bool (g i j)) s->wpAny (model X.prog X.w) X.A (f (.int i t) (.int j u)) Q E s) :
  OpR X f (rI0 fun i j=>.bl (g i j)):=by
 intro pins s σ H x y v u Q I rx ry h;obtain⟨i,j,rfl,rfl,q⟩:=h;obtain⟨t,rfl⟩:=rx;obtain⟨t',rfl⟩:=ry;exact rule i j t t' s _ _ ⟨.bl (g i j),H,I,rfl,q⟩

noncomputable def FP (i j:Int):Prop:=0<j/\j<1073741824
noncomputable def CF (i j:Int):Prop:=(-(2 ^ 64)<i/\i<2 ^ 64)\/(-(2 ^ 64)<j/\j<2 ^ 64)
theorem CF.ok {i j:Int}(h:CF i j):IntMulOk i j:=by
 rcases h with ⟨h1,h2⟩ | ⟨h1,h2⟩
 ·exact .of_left (intBits_le_64 h1 h2)
 ·exact .of_right (intBits_le_64 h1 h2)
theorem jh:OpR X (binaryOp .Add) (rI0 fun i j=>.int (i+j)):=El fun _ _ _ _ _ _ _ q=>add_int q
theorem lR:OpR X (binaryOp .Sub) (rI0 fun i j=>.int (i-j)):=El fun _ _ _ _ _ _ _ q=>sub_int q
theorem lS:OpR X (binaryOp .Mult) (rI CF fun i j=>.int (i*j)):=opI fun _ _ _ _ _ _ _ hc q=>mul_int q hc.ok
theorem gc:OpR X (binaryOp .FloorDiv) (rI FP fun i j=>.int (i/j)):=opI fun i j _ _ _ _ _ hc q=>by
 have h1:(0:Int)<j:=hc.1;have h2:j<1073741824:=hc.2;exact floordiv_int (by omega) (by rw[Int.fdiv_eq_ediv_of_nonneg i (by omega)];exact q) (.inl (PyProof.noPylong_small (by omega)))
theorem fQ:OpR X (binaryOp .Mod) (rI (fun _ j=>0<j) fun i j=>.int (i%j)):=opI fun i j _ _ _ _ _ hc q=>by
 have h1:(0:Int)<j:=hc;exact mod_int' (by omega) (by rw[Int.fmod_eq_emod_of_nonneg i (by omega)];exact q)
theorem unI {f:Value->Sem Value}{g:Int->Int}
  (rule:∀ (i:Int) (t:Tok) (s:Shared) (Q:Value->Shared->Prop) (E:Value->Shared->Prop),Q (.int (g i) s.toks) { s with toks:=s.toks+1 }->wpAny (model X.prog X.w) X.A (f (.int i t)) Q E s) :
  UnR X f (rU fun i=>.int (g i)):=by
 intro pins s σ H x v Q I rx h;obtain⟨i,rfl,q⟩:=h;obtain⟨t,rfl⟩:=rx;exact rule i t s _ _ ⟨.int (g i),H,I.tok _,⟨_,rfl⟩,q⟩
theorem qQ:UnR X (unaryOp .USub) (rU fun i=>.int (-i)):=unI fun _ _ _ _ _ q=>neg_int q
end

noncomputable def Em:V->V->Bool
 | .non,.non=>true | .non,.int _=>true | .int _,.non=>true | .non,.bl _=>true | .bl _,.non=>true | .non,.str _=>true | .str _,.non=>true
 | .int _,.int _=>true | .bl _,.bl _=>true | .str _,.str _=>true | .byt _,.byt _=>true
 | .int _,.str _=>true | .str _,.int _=>true | .bl _,.str _=>true | .str _,.bl _=>true
 | _,_=>false
noncomputable def rEq:R2:=fun x y H Q=>Em x y=true/\Q (.bl (decide (x=y))) H
noncomputable def rNe:R2:=fun x y H Q=>Em x y=true/\Q (.bl (!decide (x=y))) H

theorem wU {i j:Int}:decide (V.int i=V.int j)=(i == j):=by
 rw[Jt];simp
theorem y7 {i j:Bool}:decide (V.bl i=V.bl j)=(i == j):=by
 rw[Jt];simp
theorem wV {i j:Str}:decide (V.str i=V.str j)=(i == j):=by
 rw[Jt];simp
theorem wW {i j:Array UInt8}:decide (V.byt i=V.byt j)=(i.toList == j.toList):=by
 rw[Jt];cases i;cases j;simp

section
variable {X:Cx}{a b c:Expr}{ta tb tc:TE}{pos:Pos}
theorem br {pins:List (Addr×Obj)}{σ:St}{H:Hp}{s:Shared}{Q:VK}{k k':Bool}(I:Inv X pins σ H s)(q:Q (.bl k) H)(e:k=k'):EP X pins σ Q (.bool k') s:=by
 subst e;exact⟨.bl k,H,I,rfl,q⟩
theorem eC:OpR X (compareOp .Eq) rEq:=by
 intro pins s σ H x y v u Q I rx ry h;obtain⟨hs,q⟩:=h;cases x with
 | non =>
  cases rx;cases y with
  | non=>cases ry;exact PySem.EqNone.eq_none_none (br I q (by simp))
  | bl j=>cases ry;exact PySem.EqNone.eq_none_bool (br I q (by simp))
  | int j=>obtain⟨t',rfl⟩:=ry;exact PySem.EqNone.eq_none_int (br I q (by simp))
  | str j=>obtain⟨t',rfl⟩:=ry;exact PySem.EqNone.eq_none_str (br I q (by simp))
  | _=>exact absurd (show false=true from hs) Io
 | bl i =>
  cases rx;cases y with
  | non=>cases ry;exact PySem.EqNone.eq_bool_none (br I q (by simp))
  | bl j=>cases ry;exact eq_bool (br I q y7)
  | str j=>obtain⟨t',rfl⟩:=ry;exact PySem.EqMixed.eq_bool_str (br I q (by simp))
  | _=>exact absurd (show false=true from hs) Io
 | int i =>
  obtain⟨t,rfl⟩:=rx;cases y with
  | non=>cases ry;exact PySem.EqNone.eq_int_none (br I q (by simp))
  | int j=>obtain⟨t',rfl⟩:=ry;exact eq_int (br I q wU)
  | str j=>obtain⟨t',rfl⟩:=ry;exact PySem.EqMixed.eq_int_str (br I q (by simp))
  | _=>exact absurd (show false=true from hs) Io
 | str i =>
  obtain⟨t,rfl⟩:=rx;cases y with
  | non=>cases ry;exact PySem.EqNone.eq_str_none (br I q (by simp))
  | bl j=>cases ry;exact PySem.EqMixed.eq_str_bool (br I q (by simp))
  | int j=>obtain⟨t',rfl⟩:=ry;exact PySem.EqMixed.eq_str_int (br I q (by simp))
  | str j=>obtain⟨t',rfl⟩:=ry;exact eq_str (br I q wV)
  | _=>exact absurd (show false=true from hs) Io
 | byt i =>
  obtain⟨t,rfl⟩:=rx;cases y with
  | byt j=>obtain⟨t',rfl⟩:=ry;exact PySem.W.eq_bytes (br I q wW)
  | _=>exact absurd (show false=true from hs) Io
 | _=>cases y <;> exact absurd (show false=true from hs) Io
theorem ja:OpR X (compareOp .NotEq) rNe:=by
 intro pins s σ H x y v u Q I rx ry h;obtain⟨hs,q⟩:=h;cases x with
 | non =>
  cases rx;cases y with
  | non=>cases ry;exact PySem.EqNone.ne_none_none (br I q (by simp))
  | bl j=>cases ry;exact PySem.EqNone.ne_none_bool (br I q (by simp))
  | int j=>obtain⟨t',rfl⟩:=ry;exact PySem.EqNone.ne_none_int (br I q (by simp))
  | str j=>obtain⟨t',rfl⟩:=ry;exact PySem.EqNone.ne_none_str (br I q (by simp))
  | _=>exact absurd (show false=true from hs) Io
 | bl i =>
  cases rx;cases y with
  | non=>cases ry;exact PySem.EqNone.ne_bool_none (br I q (by simp))
  | bl j=>cases ry;exact ne_bool (br I q (congrArg not y7))
  | str j=>obtain⟨t',rfl⟩:=ry;exact PySem.EqMixed.ne_bool_str (br I q (by simp))
  | _=>exact absurd (show false=true from hs) Io
 | int i =>
  obtain⟨t,rfl⟩:=rx;cases y with
  | non=>cases ry;exact PySem.EqNone.ne_int_none (br I q (by simp))
  | int j=>obtain⟨t',rfl⟩:=ry;exact ne_int (br I q (congrArg not wU))
  | str j=>obtain⟨t',rfl⟩:=ry;exact PySem.EqMixed.ne_int_str (br I q (by simp))
  | _=>exact absurd (show false=true from hs) Io
 | str i =>
  obtain⟨t,rfl⟩:=rx;cases y with
  | non=>cases ry;exact PySem.EqNone.ne_str_none (br I q (by simp))
  | bl j=>cases ry;exact PySem.EqMixed.ne_str_bool (br I q (by simp))
  | int j=>obtain⟨t',rfl⟩:=ry;exact PySem.EqMixed.ne_str_int (br I q (by simp))
  | str j=>obtain⟨t',rfl⟩:=ry;exact ne_str (br I q (congrArg not wV))
  | _=>exact absurd (show false=true from hs) Io
 | byt i =>
  obtain⟨t,rfl⟩:=rx;cases y with
  | byt j=>obtain⟨t',rfl⟩:=ry;exact PySem.W.ne_bytes (br I q (congrArg not wW))
  | _=>exact absurd (show false=true from hs) Io
 | _=>cases y <;> exact absurd (show false=true from hs) Io

theorem nN:OpR X (compareOp .Lt) (rI0 fun i j=>.bl (decide (i<j))):=AO fun _ _ _ _ _ _ _ q=>lt_int q
theorem BX:OpR X (compareOp .LtE) (rI0 fun i j=>.bl (decide (i<=j))):=AO fun _ _ _ _ _ _ _ q=>le_int q
theorem tm:OpR X (compareOp .Gt) (rI0 fun i j=>.bl (decide (j<i))):=AO fun _ _ _ _ _ _ _ q=>gt_int q
theorem En:OpR X (compareOp .GtE) (rI0 fun i j=>.bl (decide (j<=i))):=AO fun _ _ _ _ _ _ _ q=>ge_int q
theorem AQ:OpR X (compareOp .IsNot) (fun x y H Q=>y=.non/\Q (.bl (!decide (x=.non))) H):=by
 intro pins s σ H x y v u Q I rx ry h;obtain⟨rfl,q⟩:=h;cases ry;refine isnot_none_gen (br I q ?_);cases x <;> first
  | (cases rx;rfl)
  | (obtain⟨t,rfl⟩:=rx;rfl)

theorem aO (b:Expr){op:CmpOp}(h:op≠.In:=by decide)(h2:op≠.NotIn:=by decide):behindInMarks op b=false:=by
 have e1:(op == CmpOp.In)=false:=by cases op <;> first | rfl | exact absurd rfl h
 have e2:(op == CmpOp.NotIn)=false:=by cases op <;> first | rfl | exact absurd rfl h2
 cases b <;> simp[behindInMarks,e1,e2]
theorem kK {op:CmpOp}{r:R2}(ho:OpR X (compareOp op) r)(ha:PE X a ta)(hb:PE X b tb)(hm:behindInMarks op b=false):PE X (.Compare a [op] [b] pos) (tOp r ta tb):=by
 intro pins s σ H Q I h;exact wpAny_Compare1 (CD ha hb I h fun v u s2 x y H2 I2 rx ry q=>ho pins s2 σ H2 x y v u Q I2 rx ry q) hm
noncomputable def BY (t:TE):TT:=fun σ H Q=>t σ H fun x H'=>∃ k,x=.bl k/\Q k H'
theorem aJ {op:CmpOp}{r:R2}(ho:OpR X (compareOp op) r)(ha:PE X a ta)(hb:PE X b tb)(hm:behindInMarks op b=false):PT X (.Compare a [op] [b] pos) (BY (tOp r ta tb)):=by
 intro pins s σ H Q I h;refine wpAny_isTrue_Compare1 (thn (ha pins s σ H _ I h) fun v s1 ⟨x,H1,I1,r1,q1⟩=>thn (hb pins s1 σ H1 _ I1 q1) fun u s2 ⟨y,H2,I2,r2,q2⟩ =>
  thn (ho pins s2 σ H2 x y v u _ I2 r1 r2 q2) fun c s3 ⟨z,H3,I3,r3,k,e,q3⟩=>?_) hm
 subst e;cases r3;exact wpAny_truthy_bool ⟨H3,I3,q3⟩
theorem qR:(sizeLine:Nat)<2 ^ 63:=by rw[sizeLine_eq];decide
theorem vals1 {x:V}{us:List Value}(r:Vals [x] us):∃ u,us=[u]/\RelV x u:=by
 cases r with
 | cons r1 r2=>cases r2;exact⟨_,rfl,r1⟩
theorem vals2 {x y:V}{us:List Value}(r:Vals [x,y] us):∃ u w',us=[u,w']/\RelV x u/\RelV y w':=by
 cases r with
 | cons r1 r2 =>
  cases r2 with
  | cons r3 r4=>cases r4;exact⟨_,_,rfl,r1,r3⟩
theorem pW (hc:X.calm=true):eI X (.builtin "max") (fun xs H Q=>∃ i j,xs=[.int i,.int j]/\Q (.int (if j>i then j else i)) H):=by
 intro pins s σ H xs us Q I r h;obtain⟨i,j,rfl,q⟩:=h;obtain⟨u,w',rfl,⟨t,rfl⟩,⟨t',rfl⟩⟩:=vals2 r;refine max_two_ints (I.ok.hd hc) fun h' tk k=>⟨_,H,I.kept k,?_,q⟩
 by_cases hj:j>i
 ·rw[if_pos hj,if_pos hj];exact⟨_,rfl⟩
 ·rw[if_neg hj,if_neg hj];exact⟨_,rfl⟩
theorem xX (hc:X.calm=true):eI X (.builtin "min") (fun xs H Q=>∃ i j,xs=[.int i,.int j]/\Q (.int (if j<i then j else i)) H):=by
 intro pins s σ H xs us Q I r h;obtain⟨i,j,rfl,q⟩:=h;obtain⟨u,w',rfl,⟨t,rfl⟩,⟨t',rfl⟩⟩:=vals2 r;refine min_two_ints (I.ok.hd hc) fun h' tk k=>⟨_,H,I.kept k,?_,q⟩
 by_cases hj:j<i
 ·rw[if_pos hj,if_pos hj];exact⟨_,rfl⟩
 ·rw[if_neg hj,if_neg hj];exact⟨_,rfl⟩
end
end L2

namespace L2
open PySem PySem.Spec PyProof.Rows

structure CG (h:Heap) (x dx C:Addr) (mA:Str->Option Value):Prop where
 obj:h.get? x=some (LF C dx)
 ns:h.Ns1 dx mA
 ne:dx≠x

theorem xY {h:Heap}{dx:Addr}{mA:Str->Option Value}(n:h.Ns1 dx mA):∃ od,h.get? dx=some od/\∀ name,LY name od=some (mA name):=by
 obtain⟨o,es,ep,ho,hd,hk,_,hm⟩:=n;refine⟨o,ho,fun name=>?_⟩;have e:=hm name;unfold nsFind findBy at e;rw[<- Array.find?_toList] at e;unfold LY;rw[hd];dsimp only
 split
 ·rename_i y q;rw[q] at e;exact congrArg some e
 ·rename_i q;rw[q] at e;have a:es.toList.any (·.refKey)=false:=by
   rw[List.any_eq_false];intro y hy;obtain⟨z,t,qS⟩:=hk y (Array.mem_toList_iff.mp hy);simp[DictEntry.refKey,qS]
  have a':¬ es.toList.any (·.refKey)=true:=by rw[a];exact Io
  rw[if_neg a'];exact congrArg some e

theorem CG.look {h:Heap}{x dx C:Addr}{mA:Str->Option Value}(I:CG h x dx C mA):∃ od,PySem.W.InstAt h x (LF C dx) C (some od)/\∀ name,LY name od=some (mA name) :=
 let ⟨od,ho,hl⟩:=xY I.ns
 ⟨od,⟨I.obj,rfl,rfl,ho⟩,hl⟩


section
variable {P:Program}{w:World}{H H':Hp}{h h':Heap}{a C dx:Addr}{fs fs':List (Str×V)}
theorem AR (hok:HOk P w H h)(e:H a=some (.ins C dx fs)):∃ mA,CG h a dx C mA/\(∀ f,vm (fs.lookup f) (mA f))/\PySem.Within mA (fs.map (·.1))/\fs.length<=1000/\H dx=some (.own a):=by
 obtain⟨d,z,ne,ob,mA,n,r,q⟩:=(show bL P w H h a (.ins C dx fs) from hok a _ e)
 exact⟨mA,⟨ob,n,ne⟩,r,q,z,d⟩
end

structure Cls (K:HS) (C:Addr):Prop where
 pg:ME K C Str.empty=true
 hd:PySem.W.hasDictIn K C=true
 po:PySem.W.plainOver K C=true
 sa:MW K (.ref C) "__setattr__" = some (some (.builtin "object.__setattr__"))
theorem Cls.get {K:HS}{C:Addr}(c:Cls K C)(f:Str):ME K C f=true:=c.pg


section
variable {X:Cx}{pins:List (Addr×Obj)}{σ:St}{H:Hp}{s:Shared}{A:Around}{E:Value->Shared->Prop}{Q:Value->Shared->Prop}{c:Value}{b:Bool}
inductive lT (K : HS) (H : Hp) : V -> Value -> Prop where
  | non : lT K H .non (.type "NoneType")
  | bl (x : Bool) : lT K H (.bl x) (.type "bool")
  | int (i : Int) : lT K H (.int i) (.type "int")
  | str (x : Str) : lT K H (.str x) (.type "str")
  | flt (x : UInt64) : lT K H (.flt x) (.type "float")
  | lst {a : Addr} {xs : List V} (e : H a=some (.lst xs)) : lT K H (.ref a) (.type "list")
  | frz {a : Addr} {o : Obj} {xs : List V} (e : H a=some (.frz o (.lst xs))) : lT K H (.ref a) (.type "list")
  | tup {a : Addr} {xs : List V} (e : H a=some (.tup xs)) : lT K H (.ref a) (.type "tuple")
  | dK {a : Addr} {kvs : List (Key × V)} (e : H a=some (.dK kvs)) : lT K H (.ref a) (.type "dict")
  | dT {a : Addr} {kvs : List (List Key × V)} (e : H a=some (.dT kvs)) : lT K H (.ref a) (.type "dict")
  | ins {a C dx : Addr} {fs : List (Str × V)} (e : H a=some (.ins C dx fs)) (cl : Cls K C) (ha : MW K (.ref C) "__class__" = some (some (.builtin "object.__class__")))
      (hn : PySem.W.specialIn K (.builtin "object.__class__") "__get__" = some (some (.builtin "getset_descriptor.__get__"))) (htk : PySem.W.takesIn K (.builtin "object.__class__")=some true)
      (hm : PySem.W.mroIn K C (.type "object")=some true) : lT K H (.ref a) (.ref C)
theorem xZ {x:V}{u t:Value}(I:Inv X pins σ H s)(rx:RelV x u)(ty:lT X.K H x t)(e:JT X.K t c=some b)(h:∀ tk,Q (.bool b) { s with toks:=tk }) :
  wpAny (model X.prog X.w) A (call (.builtin "isinstance") [u,c]) Q E s:=by
 cases ty with
 | non=>cases (show u=Value.none from rx);exact JH PySem.W.kitx_none I.kIn True.intro e (fun z=>nomatch z) h
 | bl y=>cases (show u=Value.bool y from rx);exact JH PySem.W.kitx_bool I.kIn True.intro e (fun z=>nomatch z) h
 | int i=>obtain⟨t,q⟩:=(show ∃ t,u=Value.int i t from rx);cases q;exact JH PySem.W.kitx_int I.kIn True.intro e (fun z=>nomatch z) h
 | str y=>obtain⟨t,q⟩:=(show ∃ t,u=Value.str y t from rx);cases q;exact JH PySem.W.kitx_str I.kIn True.intro e (fun z=>nomatch z) h
 | flt y=>obtain⟨t,q⟩:=(show ∃ t,u=Value.float y t from rx);cases q;exact JH PySem.W.kitx_float I.kIn True.intro e (fun z=>nomatch z) h
 | @lst a xs ea =>
  cases (show u=Value.ref a from rx);obtain⟨_,_,n,_,h1⟩:=(show bL X.prog X.w H s.heap a (.lst xs) from I.hok a _ ea)
  exact JH Mk I.kIn ⟨_,h1,rfl⟩ e (fun z=>nomatch z) h
 | @frz a ob xs ea =>
  cases (show u=Value.ref a from rx);obtain⟨_,_,_,n,_,h1⟩:=(show bL X.prog X.w H s.heap a (.frz ob (.lst xs)) from I.hok a _ ea)
  exact JH Mk I.kIn ⟨_,h1,rfl⟩ e (fun z=>nomatch z) h
 | @tup a xs ea =>
  cases (show u=Value.ref a from rx);obtain⟨_,_,_,p⟩:=(show bL X.prog X.w H s.heap a (.tup xs) from I.hok a _ ea)
  obtain⟨o,h1,h2,_⟩:=p;exact JH PySem.W.kitx_tuple I.kIn ⟨o,h1,h2⟩ e (fun z=>nomatch z) h
 | @dK a kvs ea =>
  cases (show u=Value.ref a from rx);obtain⟨_,_,vs,_,p⟩:=(show bL X.prog X.w H s.heap a (.dK kvs) from I.hok a _ ea)
  obtain⟨o,es,ep,h1,h2,_⟩:=p;exact JH Ml I.kIn ⟨o,h1,h2.1⟩ e (fun z=>nomatch z) h
 | @dT a kvs ea =>
  cases (show u=Value.ref a from rx);obtain⟨_,_,xs,_,o,es,ep,h1,h2,_⟩:=(show bL X.prog X.w H s.heap a (.dT kvs) from I.hok a _ ea)
  exact JH Ml I.kIn ⟨o,h1,h2.1⟩ e (fun z=>nomatch z) h
 | @ins a C dx fs ea cl ha hn htk hm =>
  cases (show u=Value.ref a from rx);obtain⟨mA,O,_⟩:=AR I.hok ea;obtain⟨od,J,_⟩:=O.look;exact JH (PySem.W.kitx_own (cl.get _) cl.hd ha hn htk hm) I.kIn J e (fun z=>nomatch z) h
end
end L2

namespace L2
open PySem PySem.Spec PyProof.Rows

structure eG (k:Nat) (A:Around):Prop where
 hd:A.handled=none
 dp:A.depth+3*k+5<recursionLimit
 un:A.units+16*k+200<cLine
 gd:A.guards=some []
theorem eG.mono {j k:Nat}{A:Around}(r:eG k A)(h:j<=k):eG j A:=⟨r.hd,by have:=r.dp;omega,by have:=r.un;omega,r.gd⟩
theorem eG.deeper {k:Nat}{A:Around}(r:eG (k+1) A)(env:Env):eG k (A.deeper env) :=
 ⟨r.hd,by have:=r.dp;show A.depth+1+3*k+5<_;omega,by have:=r.un;show A.units+3+16*k+200<_;omega,r.gd⟩
theorem eG.in1 {k:Nat}{A:Around}(r:eG (k+1) A):eG k A.in1 :=
 ⟨r.hd,by have:=r.dp;show A.depth+3*k+5<_;omega,by have:=r.un;show A.units+1+16*k+200<_;omega,r.gd⟩
theorem eG.depth {k:Nat}{A:Around}(r:eG k A):A.depth<recursionLimit:=by have:=r.dp;omega
theorem eG.units {k:Nat}{A:Around}(r:eG k A):A.units+64<cLine:=by have:=r.un;omega
noncomputable def AS:TA:=fun _ H Q=>Q [] H
noncomputable def pX (ta:TE)(tr:TA):TA:=fun σ H Q=>ta σ H fun x H1=>tr σ H1 fun xs H2=>Q (x::xs) H2
section
variable {X:Cx}{e:Expr}{es:List Expr}{te:TE}{t:TA}{pos:Pos}
theorem af:PA X [] AS:=fun _ _ _ _ H Q I h=>Calls.spliced_nil ⟨[],H,I,.nil,h⟩
theorem ae (ha:PE X e te)(hr:PA X es t)(hs:starEach (e::es) X.env=(false,eval e X.env)::starEach es X.env:=by rfl):PA X (e::es) (pX te t):=by
 intro pos pins s σ H Q I h;rw[hs];show wpAny _ _ (spliced ((false,eval e X.env)::backTo pos (starEach es X.env))) _ _ s;refine Calls.spliced_cons (thn (ha pins s σ H _ I h) fun u s1 ⟨x,H1,I1,r1,q1⟩=>?_);exact thn (hr pos pins s1 σ H1 _ I1 q1) fun us s2 ⟨xs,H2,I2,r2,q2⟩=>⟨x::xs,H2,I2,.cons r1 r2,q2⟩

noncomputable def FQ (t:TA):TE:=fun σ H Q=>t σ H fun xs H1=>xs.length<=sizeLine/\∀ p,H1 p=none->Q (.ref p) (upd H1 p (.tup xs))
noncomputable def FT (t:TA):TE:=fun σ H Q=>t σ H fun xs H1=>xs.length<=sizeLine/\∀ p,H1 p=none->Q (.ref p) (upd H1 p (.lst xs))
theorem eJ {x1}(h:PA X es t):PE X (.Tuple es x1 pos) (FQ t):=by
 intro pins s σ H Q I hq;refine wpAny_Tuple_spliced (thn (h pos pins s σ H _ I hq) fun us s1 ⟨xs,H1,I1,r,z,q⟩=>⟨by rw[<- r.length];exact z,?_⟩);have hf:H1 s1.heap.objs.size=none:=I1.hok.fresh (HV _);refine⟨.ref s1.heap.objs.size,upd H1 s1.heap.objs.size (.tup xs),I1.laid (t':=s1.toks) (fun b u e=>HU _ e) (HV _) ?_,rfl,q _ hf⟩;exact⟨z,us,r,⟨_,Ir _ rfl,rfl,_,rfl⟩⟩
theorem gI (h:PA X es t):PE X (.List es pos) (FT t):=by
 intro pins s σ H Q I hq;refine wpAny_List_spliced (thn (h pos pins s σ H _ I hq) fun us s1 ⟨xs,H1,I1,r,z,q⟩=>⟨by rw[<- r.length];exact z,?_⟩);have hf:H1 s1.heap.objs.size=none:=I1.hok.fresh (HV _);refine⟨.ref s1.heap.objs.size,upd H1 s1.heap.objs.size (.lst xs),I1.laid (t':=s1.toks) (fun b u e=>HU _ e) (HV _) ?_,rfl,q _ hf⟩;exact⟨z,us,0,r,Ir _ rfl⟩
end

noncomputable abbrev Sp:=List V->Hp->VK->XK->Prop
noncomputable abbrev CXT:=List Env->Hp->Shared->XK->Value->Shared->Prop

structure vq (P:Program) (w:World) (K:HS) (mg:Str->Option Value) (base:Heap) (A:Around) (outer:List Env) (s:Shared) (H:Hp):Prop where
 frames:A.frames=some outer
 mod:Mod K mg base
 bs:∀ b o,base.get? b=some o->s.heap.get? b=some o/\H b=none
 bsz:base.objs.size<=s.heap.objs.size
 m6:s.heap.FunFrames base outer
 frf:∀ b∈frs outer,H b=none
 hok:HOk P w H s.heap
 bare:AllBare s.gens
noncomputable def CE (outer:List Env)(P:Program)(w:World)(H:Hp)(s:Shared)(Q:VK)(u:Value)(s':Shared):Prop :=
 ∃ v H',s'.os=s.os/\AllBare s'.gens/\Un (frs outer) [] H H' s.heap s'.heap/\HOk P w H' s'.heap/\RelV v u/\Q v H'
noncomputable def CR (CX:CXT)(outer:List Env)(P:Program)(w:World)(H:Hp)(s:Shared)(Q:VK)(E:XK)(r:Result)(s':Shared):Prop :=
 match r with
 | .ok (.ret u)=>CE outer P w H s Q u s'
 | .ok _=>False
 | .error e=>CX outer H s E e s'
structure aS (P:Program) (w:World) (K:HS) (mg:Str->Option Value) (base:Heap) (CX:CXT) (k:Nat) (f:Addr) (fd:FuncData) (ps:List Str) (sp:Sp):Prop where
 len:∀ vs H Q E,sp vs H Q E->vs.length=ps.length
 run:∀ (A:Around) (outer:List Env) (s:Shared) (H:Hp) (args:Args) (us:List Value) (vs:List V) (Q:VK) (E:XK),eG k A->vq P w K mg base A outer s H->BindsTo s fd args (ps.zip us)->Vals vs us->sp vs H Q E ->
  codeAny (model P w) A (.call (.ref f) args) (CR CX outer P w H s Q E) s
theorem vq.in1 {P : Program}{w : World}{K : HS}{mg : Str -> Option Value}{base : Heap}{A : Around}{outer : List Env}{s : Shared}{H : Hp}(e : vq P w K mg base A outer s H) :
    vq P w K mg base A.in1 outer s H := ⟨e.frames, e.mod, e.bs, e.bsz, e.m6, e.frf, e.hok, e.bare⟩

section
variable {X:Cx}{pins:List (Addr×Obj)}{σ:St}{H:Hp}{s s':Shared}
theorem Inv.Eo (I:Inv X pins σ H s):vq X.prog X.w X.K X.mg X.base X.A X.stack s H :=
 ⟨I.ok.frames,I.ok.mod,I.bs,Jk I.ok.bsz I.sz,I.stack,I.qL,I.hok,I.bare⟩
theorem Inv.after {Q:VK}{u:Value}(I:Inv X pins σ H s)(h:CE X.stack X.prog X.w H s Q u s'):EP X pins σ Q u s':=by
 obtain⟨v,H',os,bare,un,hok,r,q⟩:=h;obtain⟨hh,g,d,t,os'⟩:=s';obtain rfl:os'=s.os:=os;exact⟨v,H',I.call (h':=hh) (g':=g) (d':=d) (t':=t) (ch:=[]) un hok bare (fun b z=>absurd z (by simp)),r,q⟩
end

noncomputable def tq (sp:Sp)(dvs:List V)(E:XK)(t:TA):TE:=fun σ H Q=>t σ H fun vs H1=>sp (vs++dvs) H1 Q E
noncomputable def Binds (K:HS)(fd:FuncData)(ps:List Str)(ds:List Value):Prop :=
 ∀ (s:Shared) (us:List Value),K.In s.heap->(us++ds).length=ps.length->BindsTo s fd ⟨us,[]⟩ (ps.zip (us++ds))
theorem Binds.all {K:HS}{fd:FuncData}{ps:List Str}(h:∀ us:List Value,us.length=ps.length->bindArgs fd ⟨us,[]⟩=pure (ps.zip us)):Binds K fd ps []:=fun s us _ hl=>by
 rw[Iy] at hl ⊢;exact .of_eq (h us hl)

noncomputable def Passes (CX:CXT)(X:Cx)(E:XK):Prop:=∀ (pins:List (Addr×Obj)) (σ:St) (H:Hp) (s:Shared) (e:Value) (s':Shared),Inv X pins σ H s->CX X.stack H s E e s'->X.xe e s'

section
variable {X:Cx}{CX:CXT}{k:Nat}{f C:Addr}{fd:FuncData}{ps:List Str}{sp:Sp}{dvs:List V}{ds:List Value}{E:XK}{x m:Str}{p pos apos:Pos}{e o:Expr}{es:List Expr}{ta:TE}{t:TA}

theorem CH {pins:List (Addr×Obj)}{σ:St}{H:Hp}{s:Shared}{Q:VK}{us:List Value}{vs:List V}(F:aS X.prog X.w X.K X.mg X.base CX k f fd ps sp)(hr:eG k X.A)(hb:Binds X.K fd ps ds)(hd:Vals dvs ds)(hx:Passes CX X E)
  (I:Inv X pins σ H s) (r:Vals vs us) (h:sp (vs++dvs) H Q E):wpAny (model X.prog X.w) X.A (call (.ref f) us) (EP X pins σ Q) X.xe s:=by
 have r2:Vals (vs++dvs) (us++ds):=r.append hd;have hl:(us++ds).length=ps.length:=by rw[<- r2.length];exact F.len _ _ _ _ h
 refine wpAny_call (codeAny_mono (F.run X.A X.stack s H ⟨us,[]⟩ (us++ds) (vs++dvs) Q E hr I.Eo (hb s us I.kIn hl) r2 h) fun r s' hq=>?_);cases r with
 | error e=>exact hx pins σ H s e s' I hq
 | ok fl =>
  cases fl with
  | ret u=>exact I.after hq
  | next=>exact False.elim hq
  | brk=>exact False.elim hq
  | cont=>exact False.elim hq

theorem qT (F:aS X.prog X.w X.K X.mg X.base CX k f fd ps sp)(hr:eG k X.A)(hg:Gl X x)(hm:X.mg x=some (.ref f))(hk:Ko X.K (.ref f)=true)(hb:Binds X.K fd ps ds)(hd:Vals dvs ds)(hx:Passes CX X E)
  (ha:PA X (e::es) t) (hdb:(x == ("__debug__":Str))=false:=by decide) (he:starEach (e::es) X.env=(false,eval e X.env)::starEach es X.env:=by rfl) (hpl:(backTo pos (starEach es X.env)).any (·.1)=false:=by rfl) :
  PE X (.Call (.Name x p) (e::es) [] pos) (tq sp dvs E t):=by
 intro pins s σ H Q I h;refine wpAny_Call_Name_kw (qN I hg hm ?_ hdb);refine PySem.W.callWith_K (h₀:=X.base) I.ok.mod.kin hk (thn (ha pos pins s σ H _ I h) fun us s1 ⟨vs,H1,I1,r,q⟩=>⟨I1.kIn,?_⟩) he hpl;exact CH F hr hb hd hx I1 r q
end

noncomputable def PK (X:Cx)(kws:List Keyword)(t:TA):Prop :=
 ∀ (pos:Pos) (pins:List (Addr×Obj)) (s:Shared) (σ:St) (H:Hp) (Q:List V->Hp->Prop),Inv X pins σ H s->t σ H Q->wpAny (model X.prog X.w) X.A (evalAll ((backToKw pos (keywordEach kws X.env)).map (·.2))) (AP X pins σ Q) X.xe s
section
variable {X:Cx}{CX:CXT}{k:Nat}{f C:Addr}{fd:FuncData}{ps ks:List Str}{sp:Sp}{E:XK}{x m:Str}{p pos apos kpos:Pos}{e o:Expr}{es:List Expr}{kws:List Keyword}{te ta:TE}{t tk:TA}{nm:Option Str}
theorem CI:PK X [] AS:=fun _ _ _ _ H Q I h=>wpAny_evalAll_nil ⟨[],H,I,.nil,h⟩
theorem AU (ha:PE X e te)(hr:PK X kws t):PK X (⟨nm,e,kpos⟩::kws) (pX te t):=by
 intro pos pins s σ H Q I h;show wpAny _ _ (evalAll ((do let v <- eval e X.env;standAt pos;pure v)::(backToKw pos (keywordEach kws X.env)).map (·.2))) _ _ s;refine wpAny_evalAll_cons (wpAny_bind (thn (ha pins s σ H _ I h) fun u s1 ⟨x,H1,I1,r1,q1⟩=>wpAny_bind (wpAny_standAt (wpAny_pure ?_))));exact thn (hr pos pins s1 σ H1 _ I1 q1) fun us s2 ⟨xs,H2,I2,r2,q2⟩=>⟨x::xs,H2,I2,.cons r1 r2,q2⟩

variable {g:List Value->List Value->List Value}{gV:List V->List V->List V}
end

structure aN (N P:List Str) (sc:Scope):Prop where
 kind:sc.kind=.function
 co:sc.isCoroutine=false
 gen:sc.isGenerator=false
 nd:N.Nodup
 pre:N.take P.length=P
 par:∀ x∈P,sc.names.lookup x=some .local\/sc.names.lookup x=some .cell
 CJ:∀ y∈sc.names,y.2≠.free

theorem pY {kindOf:Str->Option NameKind}{x:Str}:∀ {binds:List (Str×Value)} {m:Str->Option Value},(∀ v,(x,v) ∉ binds)->bindL kindOf binds m x=m x
 | [],_,_=>rfl
 | (n,v)::r,m,h=>by
  unfold bindL;rw[pY fun w hw=>h w (Im _ hw)]
  split
  ·have:x≠n:=by rintro rfl;exact h v Iq
   simp[this]
  ·rfl
theorem pZ {kindOf:Str->Option NameKind}{x:Str}:∀ {binds:List (Str×Value)} {m:Str->Option Value},(∀ v,(x,v) ∉ binds)->bindC kindOf binds m x=m x
 | [],_,_=>rfl
 | (n,v)::r,m,h=>by
  unfold bindC;rw[pZ fun w hw=>h w (Im _ hw)]
  split
  ·rfl
  ·have:x≠n:=by rintro rfl;exact h v Iq
   simp[this]
theorem p6 {kindOf:Str->Option NameKind}{x:Str}{v:Value}:∀ {P:List Str} {vs:List Value} {i:Nat} {m:Str->Option Value},P.Nodup->P[i]?=some x->vs[i]?=some v->kindOf x=some .local ->
  bindL kindOf (P.zip vs) m x=some v
 | [],_,_,_,_,h,_,_=>by simp at h
 | _::_,[],_,_,_,_,h,_=>by simp at h
 | p::P,w::vs,0,m,nd,h1,h2,hk=>by
  simp at h1 h2;subst h1;subst h2;show bindL kindOf ((p,w)::P.zip vs) m p=_;unfold bindL;rw[pY fun v hv=>(JI.mp nd).1 (KJ hv).1,if_pos hk];simp
 | p::P,w::vs,i+1,m,nd,h1,h2,hk=>by
  show bindL kindOf ((p,w)::P.zip vs) m x=_;unfold bindL;exact p6 (i:=i) (JI.mp nd).2 (by simpa using h1) (by simpa using h2) hk
theorem p7 {kindOf:Str->Option NameKind}{x:Str}{v:Value}:∀ {P:List Str} {vs:List Value} {i:Nat} {m:Str->Option Value},P.Nodup->P[i]?=some x->vs[i]?=some v->kindOf x≠some .local ->
  bindC kindOf (P.zip vs) m x=some v
 | [],_,_,_,_,h,_,_=>by simp at h
 | _::_,[],_,_,_,_,h,_=>by simp at h
 | p::P,w::vs,0,m,nd,h1,h2,hk=>by
  simp at h1 h2;subst h1;subst h2;show bindC kindOf ((p,w)::P.zip vs) m p=_;unfold bindC;rw[pZ fun v hv=>(JI.mp nd).1 (KJ hv).1,if_neg hk];simp
 | p::P,w::vs,i+1,m,nd,h1,h2,hk=>by
  show bindC kindOf ((p,w)::P.zip vs) m x=_;unfold bindC;exact p7 (i:=i) (JI.mp nd).2 (by simpa using h1) (by simpa using h2) hk

noncomputable def start (N:List Str)(vs:List V):St:=vs.map some++KA (N.length-vs.length) none

noncomputable def lU (CX:CXT)(P:Program)(w:World)(K:HS)(mg:Str->Option Value)(base:Heap)(N:List Str)(qual:Str)(scope:Scope)(f:Addr)(cd:Value)(A:Around)(outer:List Env)(s:Shared)(H:Hp)(E:XK):Cx where
 prog:=P
 w:=w
 K:=K
 mg:=mg
 base:=base
 A:=A.deeper (envOfC qual scope s.heap.objs.size f cd)
 N:=N
 s₀:=s
 H₀:=H
 env:=envOfC qual scope s.heap.objs.size f cd
 outer:=outer
 stack:=envOfC qual scope s.heap.objs.size f cd::outer
 ex:=[]
 calm:=true
 fn:=fun _=>true
 pn:=[]
 xe:=fun e s'=>wpAny (model P w) (A.deeper (envOfC qual scope s.heap.objs.size f cd)) (leaving (envOfC qual scope s.heap.objs.size f cd) e) (fun _ s''=>CX outer H s E e s'') (fun e' s''=>CX outer H s E e' s'') s'

theorem tu {sc:Scope}{n:Nat}{x:Str}(h:sc.names.lookup x=some .cell):∃ c,(cellsFrom n sc.names []).lookup x=some c:=by
 have q:=LD sc.names n [] (.inl h);exact Ln.mp q

theorem x6 {CX:CXT}{P:Program}{w:World}{K:HS}{mg:Str->Option Value}{base:Heap}{N ps:List Str}{qual:Str}{scope:Scope}{f:Addr}{cd:Value}{A:Around}{outer:List Env}{s s1:Shared}{H:Hp}{E:XK}{us:List Value}{vs:List V}
  (S:aN N ps scope) (hd:A.handled=none) (e0:vq P w K mg base A outer s H) (hl:vs.length=ps.length) (r:Vals vs us)
  (x:InCallC s s.heap.objs.size (bindL (envOfC qual scope s.heap.objs.size f cd).kindOf (ps.zip us) fun _=>none) (cellsFrom (s.heap.objs.size+1) scope.names []) (bindC (envOfC qual scope s.heap.objs.size f cd).kindOf (ps.zip us) fun _=>none) s1) :
  Inv (lU CX P w K mg base N qual scope f cd A outer s H E) [] (start N vs) H s1:=by
 have hpl:ps.length<=N.length:=by have:=congrArg Lr S.pre;rw[Iw] at this;omega
 obtain⟨h1,tk,rfl,hk⟩:=x.done;have noA:∀ b:Addr,b ∉ (lU CX P w K mg base N qual scope f cd A outer s H E).ex:=fun b z=>absurd (show b∈([]:List Addr) from z) (by simp)
 refine⟨⟨e0.mod,S.kind,rfl,rfl,HV _,fun y z c h1 h2=>?_,fun y hy=>?_,fun y c _ h=>?_,fun _=>hd,Around.frames_deeper e0.frames,.inr ⟨rfl,rfl⟩,fun b z=>absurd z (noA b),e0.bs,e0.bsz,fun b _ _=>noA b,fun b z=>absurd z (noA b),e0.m6,e0.frf⟩,
  rfl,e0.bare,Un.kept hk,⟨_,x.toInCall.ns,fun i y v h1 h2 h3=>?_⟩,fun y c h=>⟨_,x.cell y c h⟩,e0.hok.fresh (HV _),fun y c h=>?_,fun p hp=>absurd (show p∈([]:List (Addr×Obj)) from hp) (by simp),e0.hok.kept hk,?_⟩
 ·exact name_of_addr x.apart (PySem.mem_of_lookup h1) (PySem.mem_of_lookup h2)
 ·have hy:scope.names.lookup y=some .cell\/scope.names.lookup y=some .free:=hy;rcases hy with hy | hy
  ·exact tu hy
  ·exact absurd rfl (S.CJ _ (PySem.mem_of_lookup hy))
 ·exact LG (x.above y c (PySem.mem_of_lookup h))
 ·have hi:i<vs.length:=by
   unfold start at h2;by_cases hi:i<vs.length
   ·exact hi
   ·rw[IG (by simpa using hi)] at h2;rw[Kh] at h2
    split at h2 <;> cases h2
  have ha:vs[i]?=some v:=by
   unfold start at h2;rw[IK (by simpa using hi),HX] at h2;cases e:vs[i]? with
   | none=>rw[e] at h2;cases h2
   | some a=>rw[e] at h2;cases h2;rfl
  obtain⟨u,hu,rv⟩:=r.get ha;have hp:ps[i]?=some y:=by
   rw[<- S.pre,Ke (by omega)];exact h1
  have ndP:ps.Nodup:=by rw[<- S.pre];exact S.nd.sublist (List.take_sublist _ _)
  refine⟨u,rv,?_⟩;rcases S.par y (Ib hp) with k | k
  ·exact .inl ⟨k,p6 ndP hp hu k⟩
  ·obtain⟨c,e⟩:=tu (n:=s.heap.objs.size+1) k;refine .inr ⟨.inl k,c,e,?_⟩;have q:=x.cell y c e;rw[p7 ndP hp hu (by show scope.names.lookup y≠_;rw[k];decide)] at q;exact q
 ·exact e0.hok.fresh (LG (x.above y c (PySem.mem_of_lookup h)))
 ·unfold start;show _=N.length;rw[HY,HQ,KZ];omega

theorem BZ {CX:CXT}{P:Program}{w:World}{K:HS}{mg:Str->Option Value}{base:Heap}{k:Nat}{f:Addr}{name qual:Str}{params:Arguments}{body:List Stmt}{scope:Scope}{dV kV doc pm cdv ct oc:Value}{an od:Option Addr}
  {osl:Array (Option Value)} {N ps:List Str} {sp:Sp} (lk:K.lookup f=some ⟨oc,od,.func (Jp name qual params body scope dV kV doc pm an cdv ct),osl⟩) (hcd:Kp K cdv qual=true) (S:aN N ps scope)
  (len:∀ vs H Q E,sp vs H Q E->vs.length=ps.length)
  (nO:∀ (A:Around) (outer:List Env) (s:Shared) (H:Hp) (vs:List V) (Q:VK) (E:XK),eG k (A.deeper (envOfC qual scope s.heap.objs.size f cdv))->sp vs H Q E ->
   ∃ t,PSs (lU CX P w K mg base N qual scope f cdv A outer s H E) body t/\t { nx:=fun _ H'=>Q .non H',rt:=Q } (start N vs) H) :
  aS P w K mg base CX (k+1) f (Jp name qual params body scope dV kV doc pm an cdv ct) ps sp:=by
 refine⟨len,fun A outer s H args us vs Q E hr e0 hb r hsp=>?_⟩;have hl:=len _ _ _ _ hsp;have KX:K.In s.heap:=e0.mod.kin.keeps fun b o e=>(e0.bs b o e).1
 have lim:s.heap.NoLimit:=e0.mod.nolimit.keeps fun b o e=>(e0.bs b o e).1
 have kL:∀ y∈ps.zip us,scope.names.lookup y.1=some .local\/(scope.names.lookup y.1=some .cell/\((cellsFrom (s.heap.objs.size+1) scope.names []).lookup y.1).isSome=true):=fun ⟨n,v⟩ hy=>by
  rcases S.par n (KJ hy).1 with q | q
  ·exact .inl q
  ·exact .inr ⟨q,LD _ _ _ (.inl q)⟩
 refine codeAny_call_function hr.depth (KX _ _ lk) rfl S.co S.gen rfl (PySem.W.codeRec_of KX hcd) (hb _ _ _ _ ?_);refine wpAny_newFunctionEnv_cells S.kind kL fun env he s1 x=>?_
 subst he;refine⟨lim.keeps x.toInCall.keep,codeAny_func ?_⟩;obtain⟨t,ht,hq⟩:=nO A outer s H vs Q E (hr.deeper _) hsp;have I:Inv (lU CX P w K mg base N qual scope f cdv A outer s H E) [] (start N vs) H s1:=x6 S hr.hd e0 hl r x;refine wpAny_mono (ht [] s1 (start N vs) H _ I hq) (fun fl s' hs=>?_) fun e s' hs=>hs
 have fin:∀ {σ':St} {H':Hp} {v:V} {u:Value},Inv (lU CX P w K mg base N qual scope f cdv A outer s H E) [] σ' H' s'->RelV v u->Q v H'->CE outer P w H s Q u s' :=
  fun {σ' H' v u} J rv q=>⟨v,H',J.os,J.bare,J.base,J.hok,rv,q⟩
 cases fl with
 | ret u =>
  obtain⟨v,σ',H',J,rv,q⟩:=hs;exact fin J rv q
 | next =>
  obtain⟨σ',H',J,q⟩:=hs;exact fin (v:=V.non) (u:=Value.none) J rfl q
 | brk =>
  obtain⟨_,_,_,q⟩:=hs;exact False.elim q
 | cont =>
  obtain⟨_,_,_,q⟩:=hs;exact False.elim q
end L2

namespace L2
open PySem PySem.Spec PyProof.Rows
section
variable {X:Cx}{x:Str}{p pos:Pos}{e:Expr}{es:List Expr}{t:TA}{id T:String}{r:List V->Hp->VK->Prop}

noncomputable def tCB (r:List V->Hp->VK->Prop)(t:TA):TE:=fun σ H Q=>t σ H fun vs H1=>r vs H1 Q
theorem aF (hc:eI X (.builtin id) r)(hg:Gl X x)(hm:X.mg x=none)(hv:bootBuiltins x=some (.builtin id))(ha:PA X (e::es) t)(hn:x≠"__name__":=by decide)(hdb:(x == ("__debug__":Str))=false:=by decide)
  (he:starEach (e::es) X.env=(false,eval e X.env)::starEach es X.env:=by rfl) (hpl:(backTo pos (starEach es X.env)).any (·.1)=false:=by rfl):PE X (.Call (.Name x p) (e::es) [] pos) (tCB r t):=by
 intro pins s σ H Q I h;refine wpAny_Call_Name_kw (jZ I hg hm hv ?_ hn hdb);exact Mr (thn (ha pos pins s σ H _ I h) fun us s1 ⟨vs,H1,I1,r1,q1⟩=>hc pins s1 σ H1 vs us Q I1 r1 q1) he hpl
theorem bg (hc:eI X (.type T) r)(hg:Gl X x)(hm:X.mg x=none)(hv:bootBuiltins x=some (.type T))(ha:PA X (e::es) t)(hn:x≠"__name__":=by decide)(hdb:(x == ("__debug__":Str))=false:=by decide)
  (he:starEach (e::es) X.env=(false,eval e X.env)::starEach es X.env:=by rfl) (hpl:(backTo pos (starEach es X.env)).any (·.1)=false:=by rfl):PE X (.Call (.Name x p) (e::es) [] pos) (tCB r t):=by
 intro pins s σ H Q I h;refine wpAny_Call_Name_kw (jZ I hg hm hv ?_ hn hdb);exact J4 (thn (ha pos pins s σ H _ I h) fun us s1 ⟨vs,H1,I1,r1,q1⟩=>hc pins s1 σ H1 vs us Q I1 r1 q1) he hpl
end
end L2

namespace L2
open PySem PySem.Spec PyProof.Rows

section
variable {κ:Type}[DecidableEq κ]
noncomputable def bD (kvs:List (κ×V))(k:κ):Option V:=(kvs.find? fun kv=>decide (kv.1=k)).map (·.2)
noncomputable def putK (kvs:List (κ×V))(k:κ)(v:V):List (κ×V) :=
 if (kvs.any fun kv=>decide (kv.1=k))=true then kvs.map (fun kv=>if kv.1=k then (kv.1,v) else kv) else kvs++[(k,v)]
theorem cX {p:κ×V}{r:List (κ×V)}{k:κ}(e:p.1=k):bD (p::r) k=some p.2:=by simp[bD,Ks,e]
theorem cK {p:κ×V}{r:List (κ×V)}{k:κ}(e:¬ p.1=k):bD (p::r) k=bD r k:=by simp[bD,Ks,e]
theorem ji (k:κ):∀ kvs:List (κ×V),(kvs.any fun kv=>decide (kv.1=k))=(bD kvs k).isSome
 | []=>rfl
 | p::r=>by
  rw[KL];by_cases e:p.1=k
  ·simp only[cX e,decide_eq_true e,Ms,Option.isSome_some]
  ·rw[cK e,decide_eq_false e,M1];exact ji k r
theorem tx (k j:κ)(y:V):∀ kvs:List (κ×V),bD (kvs.map fun kv=>if kv.1=k then (kv.1,y) else kv) j=(bD kvs j).map fun x=>if j=k then y else x
 | []=>rfl
 | p::r=>by
  have ih:=tx k j y r;rw[Js];by_cases h:p.1=k
  ·rw[if_pos h];by_cases e:p.1=j
   ·rw[cX (p:=(p.1,y)) e,cX e,La,if_pos (e.symm.trans h)]
   ·rw[cK (p:=(p.1,y)) e,cK e,ih]
  ·rw[if_neg h];by_cases e:p.1=j
   ·rw[cX (p:=p) e,cX e,La,if_neg (fun z=>h (e.trans z))]
   ·rw[cK (p:=p) e,cK e,ih]
theorem p8 (k j:κ)(y:V):∀ kvs:List (κ×V),bD kvs k=none->bD (kvs++[(k,y)]) j=if j=k then some y else bD kvs j
 | [],_=>by
  by_cases e:k=j
  ·rw[if_pos e.symm];exact cX (p:=(k,y)) e
  ·rw[if_neg (fun z=>e z.symm)];exact cK (p:=(k,y)) e
 | p::r,hn=>by
  rw[List.cons_append];have hk:¬ p.1=k:=fun z=>by rw[cX z] at hn;cases hn
  rw[cK hk] at hn;have ih:=p8 k j y r hn;by_cases e:p.1=j
  ·rw[cX e,cX e,if_neg (fun z=>hk (e.trans z))]
  ·rw[cK e,cK e,ih]
theorem nP (kvs:List (κ×V))(k j:κ)(y:V):bD (putK kvs k y) j=if j=k then some y else bD kvs j:=by
 unfold putK;by_cases a:(kvs.any fun kv=>decide (kv.1=k))=true
 ·rw[if_pos a,tx];rw[ji] at a;by_cases e:j=k
  ·obtain⟨x,hx⟩:=Ln.mp a;rw[if_pos e,e,hx,La,if_pos rfl]
  ·rw[if_neg e];cases bD kvs j with
   | none=>rfl
   | some x=>rw[La,if_neg e]
 ·rw[if_neg a];refine p8 k j y kvs ?_;rw[ji] at a;cases q:bD kvs k with
  | none=>rfl
  | some x=>rw[q] at a;exact(a rfl).elim
theorem eD (kvs:List (κ×V))(k:κ)(v:V):(putK kvs k v).length<=kvs.length+1:=by
 unfold putK
 split
 ·rw[HQ];omega
 ·rw[HY,ID,KN];omega
theorem y8 {kvs:List (κ×V)}{k:κ}(v:V)(h:bD kvs k=none):putK kvs k v=kvs++[(k,v)]:=by
 unfold putK;rw[ji,h];exact if_neg (by decide)

theorem vm.lV {o:Option V}{u:Option Value}(r:vm o u):o.isSome=u.isSome:=by
 cases o with
 | none=>cases u with
  | none=>rfl
  | some _=>exact(show False from r).elim
 | some _=>cases u with
  | none=>exact(show False from r).elim
  | some _=>rfl
theorem KV.val {kvs:List (κ×V)}{vs:List (κ×Value)}(r:KV kvs vs)(k:κ):vm (bD kvs k) (valueAt vs k):=by
 unfold KV at r
 induction r with
 | nil=>exact True.intro
 | @cons p q ps qs h t ih =>
  obtain⟨h1,h2⟩:=h;by_cases e:p.1=k
  ·have e':q.1=k:=h1.symm.trans e;have b:valueAt (q::qs) k=some q.2:=by simp[valueAt,Ks,e']
   rw[cX e,b];exact h2
  ·have e':¬ q.1=k:=fun z=>e (h1.trans z)
   have b:valueAt (q::qs) k=valueAt qs k:=by simp[valueAt,Ks,e']
   rw[cK e,b];exact ih
theorem KV.any {kvs:List (κ×V)}{vs:List (κ×Value)}(r:KV kvs vs)(k:κ):(kvs.any fun kv=>decide (kv.1=k))=vs.any fun kv=>decide (kv.1=k):=by
 unfold KV at r
 induction r with
 | nil=>rfl
 | cons h t ih=>rw[KL,KL,ih,h.1]
theorem KV.CK {kvs:List (κ×V)}{vs:List (κ×Value)}(r:KV kvs vs)(k:κ){y:V}{u:Value}(ry:RelV y u) :
  KV (kvs.map fun kv=>if kv.1=k then (kv.1,y) else kv) (vs.map fun kv=>if kv.1=k then (kv.1,u) else kv):=by
 unfold KV at r ⊢
 induction r with
 | nil=>exact .nil
 | @cons p q ps qs h t ih =>
  rw[Js,Js];refine .cons ?_ ih;obtain⟨h1,h2⟩:=h;by_cases e:p.1=k
  ·rw[if_pos e,if_pos (h1.symm.trans e)];exact⟨h1,ry⟩
  ·rw[if_neg e,if_neg (fun z=>e (h1.trans z))];exact⟨h1,h2⟩
theorem KV.put {kvs:List (κ×V)}{vs:List (κ×Value)}(r:KV kvs vs)(k:κ){y:V}{u:Value}(ry:RelV y u):KV (putK kvs k y) (stored vs k u):=by
 unfold putK stored;rw[r.any k];by_cases e:(vs.any fun kv=>decide (kv.1=k))=true
 ·rw[if_pos e,if_pos e];exact r.CK k ry
 ·rw[if_neg e,if_neg e];exact Paired.snoc r ⟨rfl,ry⟩
theorem KV.length {kvs:List (κ×V)}{vs:List (κ×Value)}(r:KV kvs vs):kvs.length=vs.length:=Paired.length r
end


theorem y9 {P:Program}{w:World}{k:Key}{u:Value}(r:RelV (kV k) u):(cH P w).is k u=true:=by
 cases k with
 | inl i=>obtain⟨t,e⟩:=(show ∃ t,u=Value.int i t from r);subst e;exact sT P w i t
 | inr x=>obtain⟨t,e⟩:=(show ∃ t,u=Value.str x t from r);subst e;exact sU P w x t
theorem p9 {P:Program}{w:World}:∀ {ks:List Key} {us:List Value},Vals (ks.map kV) us->ItemsAre (cH P w) ks us
 | [],_,r=>by rw[Mu] at r;cases r;exact .nil
 | k::ks,_,r=>by
  rw[Js] at r;cases r with
  | cons h t=>exact .cons (y9 h) (p9 t)

noncomputable abbrev KT (H:Hp):List (List Key×V)->List (List Key×Addr×Value)->Prop:=Paired fun p q=>p.1=q.1/\H q.2.1=some (.tup (p.1.map kV))/\RelV p.2 q.2.2
theorem KT.val {H:Hp}{kvs:List (List Key×V)}{xs:List (List Key×Addr×Value)}(r:KT H kvs xs)(k:List Key):vm (bD kvs k) ((atKey xs k).map (·.2)):=by
 induction r with
 | nil=>exact True.intro
 | @cons p q ps qs h t ih =>
  obtain⟨h1,_,h2⟩:=h;by_cases e:p.1=k
  ·have e':q.1=k:=h1.symm.trans e;have b:atKey (q::qs) k=some q.2:=by simp[atKey,Ks,e']
   rw[cX e,b];exact h2
  ·have e':¬ q.1=k:=fun z=>e (h1.trans z)
   have b:atKey (q::qs) k=atKey qs k:=by simp[atKey,Ks,e']
   rw[cK e,b];exact ih
theorem KT.CK {H:Hp}{kvs:List (List Key×V)}{xs:List (List Key×Addr×Value)}(r:KT H kvs xs)(k:List Key){y:V}{u:Value}(ry:RelV y u) :
  KT H (kvs.map fun kv=>if kv.1=k then (kv.1,y) else kv) (xs.map (putAt k u)):=by
 induction r with
 | nil=>exact .nil
 | @cons p q ps qs h t ih =>
  rw[Js,Js];refine .cons ?_ ih;obtain⟨h1,h2,h3⟩:=h;unfold putAt;by_cases e:p.1=k
  ·rw[if_pos e,if_pos (h1.symm.trans e)];exact⟨h1,h2,ry⟩
  ·rw[if_neg e,if_neg (fun z=>e (h1.trans z))];exact⟨h1,h2,h3⟩
theorem KT.put {H:Hp}{kvs:List (List Key×V)}{xs:List (List Key×Addr×Value)}(r:KT H kvs xs)(k:List Key){b:Addr}{y:V}{u:Value}(hb:H b=some (.tup (k.map kV)))(ry:RelV y u) :
  KT H (putK kvs k y) (storedH xs k b u):=by
 have e:(kvs.any fun kv=>decide (kv.1=k))=(atKey xs k).isSome:=by
  rw[ji,(r.val k).lV,Mm]
 unfold putK storedH;rw[e];by_cases q:(atKey xs k).isSome=true
 ·rw[if_pos q,if_pos q];exact r.CK k ry
 ·rw[if_neg q,if_neg q];exact Paired.snoc r ⟨rfl,hb,ry⟩
theorem KT.keeps {H H':Hp}{kvs:List (List Key×V)}{xs:List (List Key×Addr×Value)}(r:KT H kvs xs)(ht:∀ b ys,H b=some (.tup ys)->H' b=some (.tup ys)):KT H' kvs xs :=
 Paired.Cv r fun _ _ z=>⟨z.1,ht _ _ z.2.1,z.2.2⟩

section
variable {P:Program}{w:World}{H:Hp}{h:Heap}{a:Addr}
theorem B0 {u:HO}(ok:HOk P w H h)(e:Rd H a u):bL P w H h a u:=e.ok ok
theorem B2 {kvs:List (Key×V)}(ok:HOk P w H h)(e:Rd H a (.dK kvs)):kvs.length<=sizeLine/\(a == sysModules)=false/\∃ vs,KV kvs vs/\h.DictOf (cH P w) a vs :=
 show bL P w H h a (.dK kvs) from B0 ok e
theorem Ep {kvs:List (Key×V)}(ok:HOk P w H h)(e:H a=some (.dK kvs)):kvs.length<=sizeLine/\(a == sysModules)=false/\∃ vs,KV kvs vs/\h.DictOf (cH P w) a vs:=B2 ok (.inl e)
theorem qU {ks:List Key}(ok:HOk P w H h)(e:H a=some (.tup (ks.map kV))):(tupleKind (cH P w)).is h ks a:=by
 obtain⟨_,its,r,o,h1,h2,n,h3⟩:=(show bL P w H h a (.tup (ks.map kV)) from ok a _ e)
 exact⟨o,its.toArray,n,h1,h2,h3,by simpa using p9 r⟩
theorem B3 {kvs:List (List Key×V)}(ok:HOk P w H h)(e:Rd H a (.dT kvs)):kvs.length<=sizeLine/\(a == sysModules)=false /\
  ∃ xs,KT H kvs xs/\h.DictOfH (tupleKind (cH P w)) a xs:=by
 obtain⟨z,y,xs,r,o,es,ep,h1,h2,h3,h4,h5⟩:=(show bL P w H h a (.dT kvs) from B0 ok e)
 refine⟨z,y,xs,r,o,es,ep,h1,h2,h3,h4,fun x hx=>?_,h5⟩;have all:∀ {l:List (List Key×V)} {m:List (List Key×Addr×Value)},KT H l m->∀ x∈m,(tupleKind (cH P w)).is h x.1 x.2.1:=by
  intro l m q
  induction q with
  | nil=>intro x hx;exact nomatch hx
  | @cons p q ps qs hq t ih =>
   intro x hx;rcases IA.mp hx with e | hx
   ·subst e;exact qU ok (by rw[<- hq.1];exact hq.2.1)
   ·exact ih x hx
 exact all r x hx
theorem wX {kvs : List (List Key × V)}(ok : HOk P w H h)(e : H a=some (.dT kvs)) : kvs.length <= sizeLine /\ (a == sysModules)=false /\
    ∃ xs, KT H kvs xs /\ h.DictOfH (tupleKind (cH P w)) a xs := B3 ok (.inl e)
end

noncomputable def nQ (H:Hp)(a:Addr)(y:V)(r:Option V):Prop :=
 (∃ kvs k,Rd H a (.dK kvs)/\y=kV k/\r=bD kvs k)\/∃ kvs k b,Rd H a (.dT kvs)/\y=.ref b/\H b=some (.tup (k.map kV))/\r=bD kvs k
noncomputable def m7 (H:Hp)(a:Addr)(y v:V)(H':Hp):Prop :=
 (∃ kvs k,H a=some (.dK kvs)/\y=kV k/\kvs.length<sizeLine/\H'=upd H a (.dK (putK kvs k v))) \/
 ∃ kvs k b,H a=some (.dT kvs)/\y=.ref b/\H b=some (.tup (k.map kV))/\kvs.length<sizeLine/\H'=upd H a (.dT (putK kvs k v))
theorem nQ.k {H:Hp}{a:Addr}{kvs:List (Key×V)}{k:Key}(e:H a=some (.dK kvs)):nQ H a (kV k) (bD kvs k):=.inl ⟨kvs,k,.inl e,rfl,rfl⟩
theorem nQ.t {H:Hp}{a b:Addr}{kvs:List (List Key×V)}{k:List Key}(e:H a=some (.dT kvs))(eb:H b=some (.tup (k.map kV))):nQ H a (.ref b) (bD kvs k):=.inr ⟨kvs,k,b,.inl e,rfl,eb,rfl⟩
theorem m7.k {H:Hp}{a:Addr}{kvs:List (Key×V)}{k:Key}{v:V}(e:H a=some (.dK kvs))(hl:kvs.length<sizeLine):m7 H a (kV k) v (upd H a (.dK (putK kvs k v))):=.inl ⟨kvs,k,e,rfl,hl,rfl⟩
theorem m7.t {H : Hp}{a b : Addr}{kvs : List (List Key × V)}{k : List Key}{v : V}(e : H a=some (.dT kvs))(eb : H b=some (.tup (k.map kV)))(hl : kvs.length<sizeLine) :
    m7 H a (.ref b) v (upd H a (.dT (putK kvs k v))) := .inr ⟨kvs, k, b, e, rfl, eb, hl, rfl⟩


section
variable {X:Cx}{pins:List (Addr×Obj)}{σ:St}{H:Hp}{s:Shared}{a:Addr}{y v:V}{u r:Value}{o:Option V}{A:Around}{E:Value->Shared->Prop}

theorem Inv.big (I:Inv X pins σ H s):sysModules<s.heap.objs.size:=by
 have h:mainGlobals<s.heap.objs.size:=(I.mod.glob.keeps I.bk).lt;exact Nat.lt_trans (by decide) h

theorem AV {Q:Value->Shared->Prop}(hu:A.units+1<cLine)(I:Inv X pins σ H s)(g:nQ H a y o)(ry:RelV y u)(h:∀ s',Inv X pins σ H s'->Q (.bool (!o.isSome)) s') :
  wpAny (model X.prog X.w) A (compareOp .NotIn u (.ref a)) Q E s:=by
 rcases g with ⟨kvs,k,e,ey,l⟩ | ⟨kvs,k,b,e,ey,eb,l⟩
 ·subst ey;obtain⟨z,hd,vs,rel,dd⟩:=B2 I.hok e;refine wpAny_notIn_of (y9 ry) hd dd.mapOf ?_;rw[<- (rel.val k).lV,<- l];exact h _ (I.tok _)
 ·subst ey;cases (show u=Value.ref b from ry);obtain⟨z,hd,xs,rel,dd⟩:=B3 I.hok e;refine wpAny_notIn_heap (tupleKind_room_in1 hu) (qU I.hok eb) hd dd ?_;have q:=(rel.val k).lV;rw[Mm] at q;rw[<- q,<- l];exact h _ (I.tok _)
theorem ny {h':Heap}{t':Nat}{ob:HO}(I:Inv X pins σ H s)(mu:Mut (H a))(hs:Heap.SameBut a s.heap h')(he:∃ q,h'.get? a=some q)(new:bL X.prog X.w (upd H a ob) h' a ob) :
  Inv X pins σ (upd H a ob) { s with heap:=h',toks:=t' } :=
 I.write (x:=a) (e:=a) mu (.inl rfl) (fun b q hb z=>(hs.2 b hb).trans z) he new
theorem CL {P : Program}{w : World}{H' : Hp}{h' : Heap}{kvs : List (Key × V)}{vs : List (Key × Value)}(z : kvs.length <= sizeLine)(hd : (a == sysModules)=false)(rel : KV kvs vs)(dd : h'.DictOf (cH P w) a vs) :
    bL P w H' h' a (.dK kvs) := ⟨z, hd, vs, rel, dd⟩
theorem x8 {H':Hp}{Q:Unit->Shared->Prop}(hu:A.units+1<cLine)(I:Inv X pins σ H s)(g:m7 H a y v H')(ry:RelV y u)(rv:RelV v r)(h:∀ s',Inv X pins σ H' s'->Q () s') :
  wpAny (model X.prog X.w) A (setItem (.ref a) u r) Q E s:=by
 rcases g with ⟨kvs,k,e,ey,l,eH⟩ | ⟨kvs,k,b,e,ey,eb,l,eH⟩
 ·subst ey eH;obtain⟨z,hd,vs,rel,dd⟩:=Ep I.hok e;have hz:vs.length<=sizeLine:=by rw[<- rel.length];exact z
  have hl:(putK kvs k v).length<=sizeLine:=by have:=eD kvs k v;omega
  refine wpAny_setItem_pairs (hsz:=hz) (y9 ry) dd fun h' dd' hs=>h _ ?_
  have he:∃ q,h'.get? a=some q:=let ⟨q,_,_,hq,_⟩:=dd';⟨q,hq⟩
  exact ny I (by rw[e];exact True.intro) hs he (CL hl hd (rel.put k rv) dd')
 ·subst ey eH;cases (show u=Value.ref b from ry);obtain⟨z,hd,xs,rel,dd⟩:=wX I.hok e;have hz:xs.length<=sizeLine:=by rw[<- Paired.length rel];exact z
  have hl:(putK kvs k v).length<=sizeLine:=by have:=eD kvs k v;omega
  refine wpAny_setItem_heap (hsz:=hz) (tupleKind_room_in1 hu) (qU I.hok eb) dd fun h' dd' hs=>h _ ?_
  obtain⟨q,es,ep,hq,h2,h3,h4,_,h5⟩:=dd';refine ny I (by rw[e];exact True.intro) hs ⟨q,hq⟩ ⟨hl,hd,_,(rel.put k eb rv).keeps fun c ys ec=>?_,q,es,ep,hq,h2,h3,h4,h5⟩;rw[aE (yR ec e (fun z=>nomatch z))];exact ec
end



noncomputable def AW (ty td:TE):TE:=fun σ H Q=>ty σ H fun y H1=>td σ H1 fun x H2=>∃ a o,x=.ref a/\nQ H2 a y o/\Q (.bl (!o.isSome)) H2
noncomputable def Er (td ty tv:TE):TS:=fun D σ H=>tv σ H fun v H1=>td σ H1 fun x H2=>ty σ H2 fun y H3=>∃ a H4,x=.ref a/\m7 H3 a y v H4/\D.nx σ H4
section
variable {X:Cx}{o i e value:Expr}{pos pos' Hx:Pos}{td ty tv:TE}
theorem iA (hu:X.A.units+1<cLine)(hi:PE X i ty)(ho:PE X o td):PC X .NotIn i o (AW ty td):=by
 intro pins s σ H Q I h;refine thn (hi pins s σ H _ I h) fun iv s1 ⟨y,H1,I1,ry,q1⟩=>thn (ho pins s1 σ H1 _ I1 q1) fun u s2 ⟨x,H2,I2,rx,a,ov,ex,g,q2⟩=>?_
 subst ex;obtain rfl:u=Value.ref a:=rx;exact AV hu I2 g ry fun s3 I3=>⟨.bl (!ov.isSome),H2,I3,rfl,q2⟩
theorem kM (hu:X.A.units+1<cLine)(ho:PE X o td)(hi:PE X i ty)(hv:PE X value tv)(hs:swapsWith value (some (.Subscript o i pos')) pos.line X.env=pure false) :
  PS X (.Assign [.Subscript o i pos'] value pos) (Er td ty tv):=by
 intro pins s σ H D I h;refine wpAny_Assign_Subscript (thn (hv pins s σ H _ I h) fun r s1 ⟨v,H1,I1,rv,q1⟩=>thn (ho pins s1 σ H1 _ I1 q1) fun u s2 ⟨x,H2,I2,rx,q2⟩=>thn (hi pins s2 σ H2 _ I2 q2) fun iv s3 ⟨y,H3,I3,ry,a,H4,ex,g,q3⟩=>?_) hs;subst ex;obtain rfl:u=Value.ref a:=rx;exact x8 hu I3 g ry rv fun s4 I4=>⟨σ,H4,I4,q3⟩
end


theorem zd {P:Program}{w:World}{H:Hp}(h:Heap)(hb:sysModules<h.objs.size):bL P w H (h.push { cls:=.type "dict",data:=.dict #[] }) h.objs.size (.dK []) :=
 ⟨IT _,beq_eq_false_iff_ne.mpr (Ne.symm (IB hb)),[],.nil,Heap.DictOf.new h⟩
theorem tD {P:Program}{w:World}{H:Hp}(h:Heap)(hb:sysModules<h.objs.size):bL P w H (h.push { cls:=.type "dict",data:=.dict #[] }) h.objs.size (.dT []) :=
 ⟨IT _,beq_eq_false_iff_ne.mpr (Ne.symm (IB hb)),[],.nil,_,#[],0,Ir _ rfl,⟨rfl,rfl,rfl⟩,rfl,rfl,KY⟩
noncomputable def CM:TE:=fun _ H Q=>∀ p,H p=none->Q (.ref p) (upd H p (.dK []))
noncomputable def CN:TE:=fun _ H Q=>∀ p,H p=none->Q (.ref p) (upd H p (.dT []))
section
variable {X:Cx}{pos:Pos}
theorem nR:PE X (.Dict [] [] pos) CM:=fun pins s σ H Q I h =>
 wpAny_Dict_empty ⟨.ref s.heap.objs.size,_,I.laid (a:=s.heap.objs.size) (o:=.dK []) (t':=s.toks) (fun _ _ q=>HU _ q) (HV _) (zd s.heap I.big),rfl,h _ (I.hok.fresh (HV _))⟩
theorem tE:PE X (.Dict [] [] pos) CN:=fun pins s σ H Q I h =>
 wpAny_Dict_empty ⟨.ref s.heap.objs.size,_,I.laid (a:=s.heap.objs.size) (o:=.dT []) (t':=s.toks) (fun _ _ q=>HU _ q) (HV _) (tD s.heap I.big),rfl,h _ (I.hok.fresh (HV _))⟩
end

noncomputable def ze:List (TE×TE)->St->Hp->(List (V×V)->Hp->Prop)->Prop
 | [],_,H,Q=>Q [] H
 | (tk,tv)::r,σ,H,Q=>tk σ H fun x H1=>tv σ H1 fun y H2=>ze r σ H2 fun ps H3=>Q ((x,y)::ps) H3
noncomputable abbrev VV:List (V×V)->List (Value×Value)->Prop:=Paired fun p q=>RelV p.1 q.1/\RelV p.2 q.2
noncomputable def PPs (X:Cx)(pos:Pos)(keys:List (Option Expr))(values:List Expr)(trs:List (TE×TE)):Prop :=
 ∀ (pins:List (Addr×Obj)) (s:Shared) (σ:St) (H:Hp) (Q:List (V×V)->Hp->Prop),Inv X pins σ H s->ze trs σ H Q ->
  wpAny (model X.prog X.w) X.A (evalPairs (pairTrees keys values X.env pos)) (fun vs s'=>∃ ps H',Inv X pins σ H' s'/\VV ps vs/\Q ps H') X.xe s
theorem AX {X:Cx}{pos:Pos}:PPs X pos [] [] []:=fun pins s σ H Q I h=>pairTrees_nil_walk ⟨[],H,I,.nil,h⟩
theorem zf {X:Cx}{pos:Pos}{k v:Expr}{ks:List (Option Expr)}{vs:List Expr}{tk tv:TE}{trs:List (TE×TE)}(hk:PE X k tk)(hv:PE X v tv)(hr:PPs X pos ks vs trs) :
  PPs X pos (some k::ks) (v::vs) ((tk,tv)::trs):=fun pins s σ H Q I h =>
 pairTrees_cons_walk (thn (hk pins s σ H _ I h) fun u s1 ⟨x,H1,I1,rx,q1⟩=>thn (hv pins s1 σ H1 _ I1 q1) fun w2 s2 ⟨y,H2,I2,ry,q2⟩ =>
  thn (hr pins s2 σ H2 _ I2 q2) fun ws s3 ⟨ps,H3,I3,rel,q3⟩=>⟨(x,y)::ps,H3,I3,.cons ⟨rx,ry⟩ rel,q3⟩)





end L2


namespace HT
open PySem PyProof.Rows

noncomputable def lexLt:List Int->List Int->Bool
 | [],[]=>false
 | [],_::_=>true
 | _::_,[]=>false
 | x::xs,y::ys=>if x=y then lexLt xs ys else decide (x<y)
theorem vt (x y:Int)(xs ys:List Int):lexLt (x::xs) (y::ys)=if x=y then lexLt xs ys else decide (x<y):=rfl
theorem pz:lexLt [] []=false:=rfl
theorem nS (y:Int)(ys:List Int):lexLt [] (y::ys)=true:=rfl
theorem nT (x:Int)(xs:List Int):lexLt (x::xs) []=false:=rfl

theorem zg (A:Around)(s:Shared)(a:Int)(t:Tok)(c:Int)(u:Tok):∃ e,SeqAt.EqAt A s (.int a t) (.int c u) e/\(e=true↔a=c) :=
 ⟨(a == c),SeqAt.EqAt.int_int a t c u,by simp⟩

section
variable {prog:Program}{w:World}{A:Around}{E:Value->Shared->Prop}{s:Shared}

noncomputable def sIx (n d:Nat):Option Int->Nat
 | none=>d
 | some v=>if v<0 then (v+(n:Int)).toNat else min v.toNat n
end
end HT

namespace L2
open PySem PySem.Spec PyProof.Rows

noncomputable abbrev TO:=St->Hp->(Option Int->Hp->Prop)->Prop
noncomputable def PO (X:Cx)(e:Option Expr)(t:TO):Prop :=
 ∀ (pins:List (Addr×Obj)) (s:Shared) (σ:St) (H:Hp) (Q:Option Int->Hp->Prop),Inv X pins σ H s->t σ H Q ->
  wpAny (model X.prog X.w) X.A (evalPart e X.env) (fun u s'=>∃ o H',Inv X pins σ H' s'/\IsPart u o/\Q o H') X.xe s
noncomputable def AY:TO:=fun _ H Q=>Q none H
noncomputable def Es (t:TE):TO:=fun σ H Q=>t σ H fun x H1=>∃ i,x=.int i/\Q (some i) H1

theorem intsAre_of {ns:List Int}:∀ {us:List Value},Vals (ns.map V.int) us->IntsAre us ns:=by
 induction ns with
 | nil=>intro us r;rw[Mu] at r;cases r;exact .nil
 | cons n ns ih =>
  intro us r;rw[Js] at r;cases r with
  | cons r1 r2 =>
   obtain⟨t,e⟩:=r1;subst e;exact .cons n t (ih r2)

section
variable {X:Cx}{e:Expr}{te:TE}{lo hi:Option Expr}{tl th:TO}{pos p2:Pos}

theorem AZ:PO X none AY:=by
 intro pins s σ H Q I h;rw[evalPart_none];exact wpAny_pure ⟨none,H,I,.none,h⟩
theorem qV (h:PE X e te):PO X (some e) (Es te):=by
 intro pins s σ H Q I hw;rw[evalPart_some];refine thn (h pins s σ H _ I hw) fun u s1 ⟨x,H1,I1,r1,q1⟩=>?_
 obtain⟨i,rfl,q⟩:=q1;obtain⟨t,rfl⟩:=r1;exact⟨some i,H1,I1,.int i t,q⟩

noncomputable def SlR (X:Cx)(r:V->Option Int->Option Int->Hp->VK->Prop):Prop :=
 ∀ (pins:List (Addr×Obj)) (s:Shared) (σ:St) (H:Hp) (x:V) (v vl vu:Value) (lo hi:Option Int) (sl:Addr) (Q:VK),Inv X pins σ H s->RelV x v->s.heap.IsSliceOf sl vl vu .none->IsPart vl lo->IsPart vu hi->r x lo hi H Q ->
  ∃ T id,typeLookup (.type T) "__getitem__" = pure (some (.builtin id))/\s.TypeIs v T/\wpAny (model X.prog X.w) X.A (getItem v (.ref sl)) (EP X pins σ Q) X.xe s
noncomputable def tSl (r:V->Option Int->Option Int->Hp->VK->Prop)(te:TE)(tl th:TO):TE:=fun σ H Q=>te σ H fun x H1=>tl σ H1 fun l H2=>th σ H2 fun u H3=>r x l u H3 Q
theorem tF {r:V->Option Int->Option Int->Hp->VK->Prop}(hr:SlR X r)(he:PE X e te)(hl:PO X lo tl)(hu:PO X hi th):PE X (.Subscript e (.Slice lo hi none p2) pos) (tSl r te tl th):=by
 intro pins s σ H Q I h;refine Subscript_ (thn (he pins s σ H _ I h) fun v s1 ⟨x,H1,I1,r1,q1⟩=>?_);refine wpAny_Slice (thn (hl pins s1 σ H1 _ I1 q1) fun vl s2 ⟨l,H2,I2,pl,q2⟩=>thn (hu pins s2 σ H2 _ I2 q2) fun vu s3 ⟨u,H3,I3,pu,q3⟩=>?_);rw[evalPart_none];refine wpAny_pure ?_;have I4:Inv X pins σ H3 { s3 with heap:=s3.heap.push { cls:=.type "slice",data:=.fields #[vl,vu,.none] } }:=I3.kept (t':=s3.toks) fun b ob q=>HU _ q
 obtain⟨T,id,hT,ht,hg⟩:=hr pins { s3 with heap:=s3.heap.push { cls:=.type "slice",data:=.fields #[vl,vu,.none] } } σ H3 x v vl vu l u s3.heap.objs.size Q I4 r1 (Heap.IsSliceOf.new ..) pl pu q3;show wpAny (model X.prog X.w) X.A (subscriptTail e (.Slice lo hi none p2) v (.ref s3.heap.objs.size)) (EP X pins σ Q) X.xe { s3 with heap:=s3.heap.push { cls:=.type "slice",data:=.fields #[vl,vu,.none] } };exact tail_any (ops:=[.ref s3.heap.objs.size,v]) ht hT hg (by with_unfolding_all rfl)

noncomputable def x9 (xs:List V)(lo hi:Option Int):List V:=(xs.drop (HT.sIx xs.length 0 lo)).take (HT.sIx xs.length xs.length hi-HT.sIx xs.length 0 lo)
theorem mL (xs:List V)(lo hi:Option Int):(x9 xs lo hi).length<=xs.length:=by
 unfold x9;rw[Iw,J0];omega
end
end L2

namespace L2
open PySem PySem.Spec PyProof.Rows

noncomputable def ixN (n:Nat)(i:Int):Option Nat:=if 0<=i then (if i<n then some i.toNat else none) else if -(n:Int)<=i then some (i+n).toNat else none
noncomputable def atI {α:Type}(xs:List α)(i:Int):Option α:=(ixN xs.length i).bind fun j=>xs[j]?
theorem wY {n:Nat}{i:Int}{j:Nat}(h:ixN n i=some j):seqIndex? i n=some j/\j<n/\-(n:Int)<=i/\i<n:=by
 unfold ixN at h;by_cases h0:0<=i
 ·rw[if_pos h0] at h;by_cases h1:i<n
  ·rw[if_pos h1] at h;have e:i.toNat=j:=Option.some.inj h;exact⟨by rw[seqIndex_of h0 h1,e],by omega,by omega,h1⟩
  ·rw[if_neg h1] at h;cases h
 ·rw[if_neg h0] at h;by_cases h1:-(n:Int)<=i
  ·rw[if_pos h1] at h;have e:(i+n).toNat=j:=Option.some.inj h;exact⟨by rw[seqIndex_neg (by omega) h1,e],by omega,h1,by omega⟩
  ·rw[if_neg h1] at h;cases h
theorem wZ {α:Type}{xs:List α}{i:Int}{v:α}(h:atI xs i=some v):∃ j,seqIndex? i xs.length=some j/\xs[j]?=some v/\j<xs.length/\-(xs.length:Int)<=i/\i<xs.length:=by
 unfold atI at h;cases e:ixN xs.length i with
 | none=>rw[e] at h;cases h
 | some j =>
  rw[e] at h;obtain⟨h1,h2,h3,h4⟩:=wY e;exact⟨j,h1,h,h2,h3,h4⟩
theorem gf {α:Type}{xs:List α}{j:Nat}{v:α}(h:xs[j]?=some v):atI xs (j:Int)=some v:=by
 have hj:j<xs.length:=(HR.mp h).1;have e:ixN xs.length (j:Int)=some j:=by
  unfold ixN;rw[if_pos (by omega),if_pos (by omega)];simp
 unfold atI;rw[e];exact h
theorem zh {α:Type}(xs:List α)(v:α):atI (xs++[v]) (-1)=some v:=by
 have hl:(xs++[v]).length=xs.length+1:=by simp
 have e:ixN (xs++[v]).length (-1)=some xs.length:=by
  unfold ixN;rw[hl,if_neg (by decide),if_pos (by omega)];congr 1;omega
 unfold atI;rw[e];show (xs++[v])[xs.length]?=some v;simp

noncomputable def A0 (b:Expr):Prop:=∀ o i,subscripted b false o i=operate [o,i] (getItem o i)
noncomputable def IxR (X:Cx)(r:R2):Prop :=
 ∀ (value slice:Expr) (pins:List (Addr×Obj)) (s:Shared) (σ:St) (H:Hp) (x y:V) (v u:Value) (Q:VK),Inv X pins σ H s->RelV x v->RelV y u->r x y H Q ->
  subscripted slice false v u=operate [v,u] (getItem v u)->wpAny (model X.prog X.w) X.A (subscriptTail value slice v u) (EP X pins σ Q) X.xe s
noncomputable def MtR (X:Cx)(id:String)(r:V->List V->Hp->VK->Prop):Prop :=
 ∀ (pins:List (Addr×Obj)) (s:Shared) (σ:St) (H:Hp) (x:V) (xs:List V) (v:Value) (us:List Value) (Q:VK),Inv X pins σ H s->RelV x v->Vals xs us->r x xs H Q ->
  wpAny (model X.prog X.w) X.A (call (.builtin id) (v::us)) (EP X pins σ Q) X.xe s
section
variable {X:Cx}{a b:Expr}{ta tb:TE}{pos:Pos}
theorem bB {r:R2}(hr:IxR X r)(ha:PE X a ta)(hb:PE X b tb)(hs:A0 b):PE X (.Subscript a b pos) (tOp r ta tb):=by
 intro pins s σ H Q I h;exact Subscript_ (CD ha hb I h fun v u s2 x y H2 I2 rx ry q=>hr a b pins s2 σ H2 x y v u Q I2 rx ry q (hs _ _))

noncomputable def Et (K:HS):R2:=fun x y H Q=>∃ p xs i v,x=.ref p/\y=.int i/\SqL K H p xs/\atI xs i=some v/\Q v H
noncomputable def A2 (K:HS):R2:=fun x y H Q=>∃ p xs i v,x=.ref p/\y=.int i/\SqT K H p xs/\atI xs i=some v/\Q v H
theorem bN:IxR X (Et X.K):=by
 intro value slice pins s σ H x y v u Q I rx ry h hs;obtain⟨p,xs,i,z,rfl,rfl,hq,he,q⟩:=h;cases rx;obtain⟨t,rfl⟩:=ry;obtain⟨its,r,pl,hz⟩:=I.list hq;obtain⟨j,h1,h2,h3,h4,h5⟩:=wZ he;obtain⟨w,ew,rw'⟩:=r.get h2;have hl:=r.length;have hn:=qR;have fin:EP X pins σ Q w s:=⟨z,H,I,rw',q⟩
 by_cases h0:0<=i
 ·have hj:i.toNat=j:=by
   rw[seqIndex_of h0 h5] at h1;exact Option.some.inj h1
  exact item_listR pl.isList h0 (by omega) (by rw[hj];simpa using ew) fin hs
 ·have hj:(i+(its.toArray.size:Int)).toNat=j:=by
   rw[seqIndex_neg (by omega) h4] at h1;rw[HZ,<- hl];exact Option.some.inj h1
  exact subscriptTail_builtinR (x:=w) pl.isList.typeIs slot_list_getitem.lookup
   (wpAny_getItem_list_neg (Q:=fun r s'=>r=w/\EP X pins σ Q r s') pl.isList (by omega) (by rw[HZ] <;> omega) (by omega) (by rw[hj];simpa using ew) ⟨rfl,fin⟩) hs
theorem eK:IxR X (A2 X.K):=by
 intro value slice pins s σ H x y v u Q I rx ry h hs;obtain⟨p,xs,i,z,rfl,rfl,hq,he,q⟩:=h;cases rx;obtain⟨t,rfl⟩:=ry;obtain⟨its,r,pl,hz⟩:=I.tuple hq;obtain⟨j,h1,h2,h3,h4,h5⟩:=wZ he;obtain⟨w,ew,rw'⟩:=r.get h2;have hl:=r.length;have hn:=qR;have fin:EP X pins σ Q w s:=⟨z,H,I,rw',q⟩
 exact subscriptTail_builtinR (x:=w) pl.typeIs slot_tuple_getitem.lookup
  (getItem_tuple (j:=j) (Q:=fun r s'=>r=w/\EP X pins σ Q r s') pl (by omega) (by omega) (by rw[HZ,<- hl];exact h1) (by simpa using ew) ⟨rfl,fin⟩) hs
theorem vv (its:List Value)(n j:Nat)(u:Value):Obj.mapSeq (·.setIfInBounds j u) { cls:=.type "list",data:=.seq its.toArray n } = { cls:=.type "list",data:=.seq (its.set j u).toArray n }:=by
 simp[Obj.mapSeq]
theorem Inv.lst {pins:List (Addr×Obj)}{σ:St}{H:Hp}{s:Shared}{p:Addr}{xs:List V}(I:Inv X pins σ H s)(h:H p=some (.lst xs)) :
  ∃ (its:List Value) (n:Nat),Vals xs its/\s.heap.get? p=some { cls:=.type "list",data:=.seq its.toArray n }/\xs.length<=sizeLine:=by
 obtain⟨z,its,n,r,e⟩:=I.hok p _ h;exact⟨its,n,r,e,z⟩
theorem Inv.CO {pins:List (Addr×Obj)}{σ:St}{H:Hp}{s:Shared}{p:Addr}{xs ys:List V}{its its':List Value}{n n':Nat}{f:Obj->Obj}(I:Inv X pins σ H s)(h:H p=some (.lst xs))
  (ho:s.heap.get? p=some { cls:=.type "list",data:=.seq its.toArray n }) (hf:f { cls:=.type "list",data:=.seq its.toArray n } = { cls:=.type "list",data:=.seq its'.toArray n' }) (r:Vals ys its') (hz:ys.length<=sizeLine) (t:Nat) :
  Inv X pins σ (upd H p (.lst ys)) { s with heap:=s.heap.update p f,toks:=t }:=by
 have e:(s.heap.update p f).get? p=some { cls:=.type "list",data:=.seq its'.toArray n' }:=by
  rw[JU f ho (by rw[hf] <;> rfl),hf]
 refine I.write (x:=p) (e:=p) (by rw[h];trivial) (.inl rfl) (fun b u hb q=>(Jw _ _ (Ne.symm hb)).trans q) ⟨_,e⟩ ?_;exact⟨hz,its',n',r,e⟩
noncomputable def Eu:V->V->V->Hp->(Hp->Prop)->Prop:=fun o i v H Q=>∃ p xs k j,o=.ref p/\i=.int k/\H p=some (.lst xs)/\ixN xs.length k=some j/\Q (upd H p (.lst (xs.set j v)))
theorem set_list:Ef X Eu:=by
 intro pins s σ H o i v ov iv u Q I ro ri rv h;obtain⟨p,xs,k,j,rfl,rfl,hp,hj,q⟩:=h;cases ro;obtain⟨t,rfl⟩:=ri;obtain⟨its,n,r,ho,hz⟩:=I.lst hp;obtain⟨h1,h2,h3,h4⟩:=wY hj;have hl:=r.length;have hn:=qR;have I':Inv X pins σ (upd H p (.lst (xs.set j v))) { s with heap:=s.heap.update p (Obj.mapSeq (·.setIfInBounds j u)) } :=
  I.CO hp ho (vv its n j u) (r.set rv j) (by rw[IM];exact hz) s.toks
 by_cases h0:0<=k
 ·have hk:k.toNat=j:=by
   rw[seqIndex_of h0 h4] at h1;exact Option.some.inj h1
  exact PySem.W.ki_setAt ho h0 (by omega) (by rw[HZ,<- hl];exact h4) (by rw[hk];exact⟨_,I',q⟩)
 ·have hk:(k+(its.toArray.size:Int)).toNat=j:=by
   rw[seqIndex_neg (by omega) h3] at h1;rw[HZ,<- hl];exact Option.some.inj h1
  exact PySem.W.ki_setBack ho (by omega) (by rw[HZ,<- hl];exact h3) (by omega) (by rw[hk];exact⟨_,I',q⟩)

theorem qW (lo hi:Option Int)(n:Nat):(sliceBounds lo hi none n).1=((HT.sIx n 0 lo:Nat):Int)/\(sliceBounds lo hi none n).2.1=((HT.sIx n n hi:Nat):Int)/\(sliceBounds lo hi none n).2.2=1:=by
 refine⟨?_,?_,rfl⟩
 ·cases lo with
  | none=>simp[sliceBounds,HT.sIx]
  | some i =>
   simp only[sliceBounds,HT.sIx,MF,show (1:Int)>0 by decide,if_true];by_cases h:i<0
   ·simp only[h,if_true] <;> omega
   ·simp only[h,if_false] <;> omega
 ·cases hi with
  | none=>simp[sliceBounds,HT.sIx]
  | some i =>
   simp only[sliceBounds,HT.sIx,MF,show (1:Int)>0 by decide,if_true];by_cases h:i<0
   ·simp only[h,if_true] <;> omega
   ·simp only[h,if_false] <;> omega
theorem pC (its:List Value)(lo hi:Option Int):slicePick its.toArray lo hi none=((its.drop (HT.sIx its.length 0 lo)).take (HT.sIx its.length its.length hi-HT.sIx its.length 0 lo)).toArray:=by
 obtain⟨h1,h2,h3⟩:=qW lo hi its.toArray.size;unfold slicePick;rw[h1,h2,h3];simp only[sliceRange_one,pick_run,HZ] <;> rfl
noncomputable def FU (K:HS):V->Option Int->Option Int->Hp->VK->Prop:=fun x lo hi H Q=>∃ a xs,x=.ref a/\SqL K H a xs/\∀ p,H p=none->Q (.ref p) (upd H p (.lst (x9 xs lo hi)))
theorem w6:SlR X (FU X.K):=by
 intro pins s σ H x v vl vu lo hi sl Q I rx hs pl pu h;obtain⟨a,xs,rfl,hx,q⟩:=h;cases rx;obtain⟨its,r,ht,hz⟩:=I.list hx;have hlen:=r.length;refine⟨"list",_,slot_list_getitem.lookup,ht.isList.typeIs,?_⟩;refine wpAny_getItem_list_slice ht.isList hs pl pu .none (by simp) ?_ (by rw[HZ] <;> omega);rw[pC,<- hlen];refine⟨.ref s.heap.objs.size,_,I.laid (t':=s.toks) (o:=.lst (x9 xs lo hi)) (fun b ob q=>HU _ q) (HV _) ?_,rfl,q _ (I.hok.fresh (HV _))⟩;exact⟨Jk (mL xs lo hi) hz,_,0,(r.drop (HT.sIx xs.length 0 lo)).take (HT.sIx xs.length xs.length hi-HT.sIx xs.length 0 lo),Ir _ rfl⟩

noncomputable def gY:V->Bool
 | .non=>true
 | .bl _=>true
 | .int _=>true
 | .str _=>true
 | _=>false
noncomputable def eqV:V->V->Bool
 | .non,.non=>true
 | .bl a,.bl b=>a == b
 | .bl a,.int b=>(if a then 1 else 0) == b
 | .int a,.bl b=>a == (if b then 1 else 0)
 | .int a,.int b=>a == b
 | .str a,.str b=>a == b
 | _,_=>false
theorem vw {A:Around}{s:Shared}{y x:V}{u v:Value}(ry:RelV y u)(rx:RelV x v)(fy:gY y=true)(fx:gY x=true):SeqAt.EqAt A s u v (eqV y x):=by
 cases y with
 | non =>
  cases ry;cases x with
  | non=>cases rx;exact SeqAt.EqAt.same _
  | bl b=>cases rx;exact SeqAt.EqAt.none_bool b
  | int b=>obtain⟨t,rfl⟩:=rx;exact SeqAt.EqAt.none_int b t
  | str b=>obtain⟨t,rfl⟩:=rx;exact SeqAt.EqAt.none_str b t
  | _=>exact absurd (show false=true from fx) Io
 | bl a =>
  cases ry;cases x with
  | non=>cases rx;exact SeqAt.EqAt.bool_none a
  | bl b=>cases rx;exact SeqAt.EqAt.bool_bool a b
  | int b=>obtain⟨t,rfl⟩:=rx;exact SeqAt.EqAt.bool_int a b t
  | str b=>obtain⟨t,rfl⟩:=rx;exact SeqAt.EqAt.bool_str a b t
  | _=>exact absurd (show false=true from fx) Io
 | int a =>
  obtain⟨t',rfl⟩:=ry;cases x with
  | non=>cases rx;exact SeqAt.EqAt.int_none a t'
  | bl b=>cases rx;exact SeqAt.EqAt.int_bool a t' b
  | int b=>obtain⟨t,rfl⟩:=rx;exact SeqAt.EqAt.int_int a t' b t
  | str b=>obtain⟨t,rfl⟩:=rx;exact SeqAt.EqAt.int_str a t' b t
  | _=>exact absurd (show false=true from fx) Io
 | str a =>
  obtain⟨t',rfl⟩:=ry;cases x with
  | non=>cases rx;exact SeqAt.EqAt.str_none a t'
  | bl b=>cases rx;exact SeqAt.EqAt.str_bool a t' b
  | int b=>obtain⟨t,rfl⟩:=rx;exact SeqAt.EqAt.str_int a t' b t
  | str b=>obtain⟨t,rfl⟩:=rx;exact SeqAt.EqAt.str_str a t' b t
  | _=>exact absurd (show false=true from fx) Io
 | _=>exact absurd (show false=true from fy) Io
noncomputable def eqU (x:V)(u:Value):Bool:=match u with
 | .none=>eqV .non x
 | .bool b=>eqV (.bl b) x
 | .int i _=>eqV (.int i) x
 | .str z _=>eqV (.str z) x
 | _=>false
theorem zi {x y:V}{u:Value}(r:RelV y u)(f:gY y=true):eqU x u=eqV y x:=by
 cases y with
 | non=>cases r;rfl
 | bl b=>cases r;rfl
 | int i=>obtain⟨t,rfl⟩:=r;rfl
 | str z=>obtain⟨t,rfl⟩:=r;rfl
 | _=>exact absurd (show false=true from f) Io
theorem qX {x:V}:∀ {xs:List V} {us:List Value},Vals xs us->xs.all gY=true->us.any (eqU x)=xs.any fun y=>eqV y x
 | _,_,.nil,_=>rfl
 | y::xs,u::us,.cons r t,f=>by
  rw[M3,Iv] at f;rw[KL,KL,zi r f.1,qX t f.2]
theorem nU {A:Around}{s:Shared}{x:V}{v:Value}(rx:RelV x v)(fx:gY x=true):∀ {xs:List V} {us:List Value},Vals xs us->xs.all gY=true->∀ u∈us,SeqAt.EqAt A s u v (eqU x u)
 | _,_,.nil,_=>fun u hu=>by cases hu
 | y::xs,u::us,.cons r t,f=>fun u' hu=>by
  rw[M3,Iv] at f;rcases IA.mp hu with rfl | hu
  ·rw[zi r f.1];exact vw r rx f.1 fx
  ·exact nU rx fx t f.2 u' hu
noncomputable def inV (x:V)(xs:List V):Bool:=xs.any fun y=>eqV y x
noncomputable def rIn (K:HS)(neg:Bool):R2:=fun x y H Q=>∃ p xs,y=.ref p/\(SqL K H p xs\/SqT K H p xs)/\gY x=true/\xs.all gY=true/\Q (.bl (if neg then !inV x xs else inV x xs)) H
theorem qa:OpR X (compareOp .In) (rIn X.K false):=by
 intro pins s σ H x y v u Q I rx ry h;obtain⟨p,xs,rfl,hq,fx,fs,q⟩:=h;cases ry;rcases hq with hq | hq
 ·obtain⟨its,r,pl,hz⟩:=I.list hq;refine SeqAt.in_listAt (eqU x) pl.isList (fun w hw=>nU rx fx r fs w (by simpa using hw)) ⟨.bl _,H,I,rfl,?_⟩;rw[show its.toArray.any (eqU x)=its.any (eqU x) by simp,qX r fs];exact q
 ·obtain⟨its,r,pl,hz⟩:=I.tuple hq;refine SeqAt.in_tupleAt (eqU x) pl (fun w hw=>nU rx fx r fs w (by simpa using hw)) ⟨.bl _,H,I,rfl,?_⟩;rw[show its.toArray.any (eqU x)=its.any (eqU x) by simp,qX r fs];exact q
theorem aB:eI X (.builtin "len") (fun xs H Q=>∃ p ys,xs=[.ref p]/\(SqL X.K H p ys\/SqT X.K H p ys)/\Q (.int ys.length) H):=by
 intro pins s σ H xs us Q I r h;obtain⟨p,ys,rfl,hq,q⟩:=h;obtain⟨u,rfl,rx⟩:=vals1 r;cases rx;have hn:=qR;rcases hq with hq | hq
 ·obtain⟨its,r',pl,hz⟩:=I.list hq;have hlen:=r'.length;exact Calls.call_len_list pl.isList (by simp only[HZ] <;> omega) ⟨.int ys.length,H,I.tok _,⟨s.toks+1,by rw[HZ,hlen]⟩,q⟩
 ·obtain⟨its,r',pl,hz⟩:=I.tuple hq;have hlen:=r'.length;exact len_tuple pl (by simp only[HZ] <;> omega) ⟨.int ys.length,H,I.tok _,⟨s.toks+1,by rw[HZ,hlen]⟩,q⟩
theorem dA:eI X (.type "list") (fun xs H Q=>∃ p ys,xs=[.ref p]/\(SqL X.K H p ys\/SqT X.K H p ys)/\∀ l,H l=none->Q (.ref l) (upd H l (.lst ys))):=by
 intro pins s σ H xs us Q I r h;obtain⟨p,ys,rfl,hq,q⟩:=h;obtain⟨u,rfl,rx⟩:=vals1 r;cases rx;have fin:∀ (its:List Value),Vals ys its->ys.length<=sizeLine->∀ (h':Heap) (c':Nat),(∀ b o',s.heap.get? b=some o'->h'.get? b=some o') ->
   h'.get? s.heap.objs.size=some { cls:=.type "list",dict:=none,data:=.seq its.toArray c',slots:=#[] }->EP X pins σ Q (.ref s.heap.objs.size) { s with heap:=h' }:=fun its r' hz h' c' kp e =>
  ⟨.ref s.heap.objs.size,_,I.laid (t':=s.toks) kp (HV _) (show bL X.prog X.w _ h' _ (.lst ys) from ⟨hz,its,c',r',e⟩),rfl,q _ (I.hok.fresh (HV _))⟩
 rcases hq with hq | hq
 ·obtain⟨its,r',pl,hz⟩:=I.list hq;have hlen:=r'.length;obtain⟨o,ho,hc,n,hd⟩:=pl.isList;exact call_list_seq p (.inl rfl) ho hc hd (fun h' c' kp e=>fin its r' hz h' c' kp e) (by simp only[HZ] <;> omega)
 ·obtain⟨its,r',pl,hz⟩:=I.tuple hq;have hlen:=r'.length;obtain⟨o,ho,hc,n,hd⟩:=pl;exact call_list_seq p (.inr rfl) ho hc hd (fun h' c' kp e=>fin its r' hz h' c' kp e) (by simp only[HZ] <;> omega)
theorem jT:eI X (.type "tuple") (fun xs H Q=>∃ p ys,xs=[.ref p]/\((SqL X.K H p ys/\∀ l,H l=none->Q (.ref l) (upd H l (.tup ys)))\/(SqT X.K H p ys/\Q (.ref p) H))):=by
 intro pins s σ H xs us Q I r h;obtain⟨p,ys,rfl,h⟩:=h;obtain⟨u,rfl,rx⟩:=vals1 r;cases rx;rcases h with ⟨hq,q⟩ | ⟨hq,q⟩
 ·obtain⟨its,r',pl,hz⟩:=I.list hq;have hlen:=r'.length;refine call_tuple_list pl.isList (fun h' kp=>?_) (by simp only[HZ] <;> omega);have I1:Inv X pins σ H { s with heap:=h' }:=I.kept (t':=s.toks) kp;have I2:Inv X pins σ (upd H h'.objs.size (.tup ys)) { s with heap:=h'.push { cls:=.type "tuple",data:=.seq its.toArray } } :=
   I1.laid (t':=s.toks) (fun b o e=>HU _ e) (HV _) (show bL X.prog X.w _ _ _ (.tup ys) from ⟨hz,its,r',IsTup.new _ _⟩)
  exact⟨.ref h'.objs.size,_,I2,rfl,q _ (I1.hok.fresh (HV _))⟩
 ·obtain⟨its,r',pl,hz⟩:=I.tuple hq;exact call_tuple_same pl ⟨.ref p,H,I,rfl,q⟩

noncomputable def tyV (K : HS)(T : String)(x : V)(H : Hp) : Prop := match x with
  | .str _ => T = "str"
  | .int _ => T = "int"
  | .ref p => (T = "list" /\ ∃ xs, SqL K H p xs) \/ (T = "tuple" /\ ∃ o, K.lookup p=some o /\ o.cls=.type "tuple" /\ o.dict=none) \/
      (T = "dict" /\ ((∃ kvs, H p=some (.dK kvs)) \/ ∃ kvs, H p=some (.dT kvs))) \/ (T = "set" /\ ∃ S n, H p=some (.set S n))
  | _ => False
theorem CP {pins:List (Addr×Obj)}{σ:St}{H:Hp}{s:Shared}{T:String}{x:V}{v:Value}(I:Inv X pins σ H s)(r:RelV x v)(ty:tyV X.K T x H) :
  s.TypeIs v T/\∀ a,v=.ref a->∃ ob,s.heap.get? a=some ob/\ob.dict=none:=by
 cases x with
 | str z =>
  obtain⟨t,rfl⟩:=r;cases (show T = "str" from ty);exact⟨typeIs_str s z t,fun _ e=>nomatch e⟩
 | int i =>
  obtain⟨t,rfl⟩:=r;cases (show T = "int" from ty);exact⟨typeIs_int s i t,fun _ e=>nomatch e⟩
 | ref p =>
  cases r;rcases ty with ⟨rfl,xs,hq⟩ | ⟨rfl,o,hk,hc,hd⟩ | ⟨rfl,hk⟩ | ⟨rfl,S,n,hk⟩
  ·obtain⟨its,_,pl,_⟩:=I.list hq;refine⟨pl.isList.typeIs,fun a e=>?_⟩;cases e;obtain⟨o,n,e,c,hd,_⟩:=pl;exact⟨o,e,hd⟩
  ·refine⟨⟨o,I.kIn p o hk,hc⟩,fun a e=>?_⟩;cases e;exact⟨o,I.kIn _ o hk,hd⟩
  ·have z:∃ o,s.heap.get? p=some o/\o.ExactDict:=by
    rcases hk with ⟨kvs,hk⟩ | ⟨kvs,hk⟩
    ·obtain⟨_,_,_,_,o,_,_,e,ex,_⟩:=I.hok p _ hk;exact⟨o,e,ex⟩
    ·obtain⟨_,_,_,_,o,_,_,e,ex,_⟩:=I.hok p _ hk;exact⟨o,e,ex⟩
   obtain⟨o,e,ex⟩:=z;refine⟨⟨o,e,ex.1⟩,fun a e2=>?_⟩;cases e2;exact⟨o,e,ex.2.1⟩
  ·obtain⟨o,_,_,_,e,ex,_⟩:=I.hok p _ hk;refine⟨⟨o,e,ex.1⟩,fun a e2=>?_⟩;cases e2;exact⟨o,e,ex.2.1⟩
 | _=>exact False.elim ty
noncomputable def tBM (K:HS)(T:String)(r:V->List V->Hp->VK->Prop)(to:TE)(t:TA):TE:=fun σ H Q=>to σ H fun x H1=>tyV K T x H1/\t σ H1 fun xs H2=>r x xs H2 Q
variable {o e:Expr}{es:List Expr}{to:TE}{t:TA}{name:Str}{apos kN:Pos}{T id:String}{r:V->List V->Hp->VK->Prop}
theorem eL (pa:PlainAttrs T)(slot:Slot T name id)(hty:typeOf (.builtin id)=pure (.type "method_descriptor"))(hm:MtR X id r)(ho:PE X o to)(ha:PA X (e::es) t)
  (Ew:attributeBase o name X.env (eval o X.env)=eval o X.env:=by rfl)
  (FV:((backTo kN (starEach (e::es) X.env)).all (fun x=>!x.1)&&(backToKw kN (keywordEach [] X.env)).all (fun x=>x.1.isSome)
   && decide ((e::es).length+([]:List Keyword).length+(if ([]:List Keyword).isEmpty then 0 else 1)<30))=true:=by rfl)
  (Ex:(apos.endLine == kN.line)=true:=by rfl) (hs:starEach (e::es) X.env=(false,eval e X.env)::starEach es X.env:=by rfl) (vx:(backTo kN (starEach es X.env)).any (·.1)=false:=by rfl) :
  PE X (.Call (.Attribute o name apos) (e::es) [] kN) (tBM X.K T r to t):=by
 intro pins s σ H Q I h;refine wpAny_Call_method_late Ew FV Ex rfl (thn (ho pins s σ H _ I h) fun v s1 ⟨x,H1,I1,r1,ty,q1⟩=>?_);obtain⟨h1,h2⟩:=CP I1 r1 ty;refine⟨T,id,pa,slot,hty,h1,h2,?_⟩;have hA:=ha kN pins s1 σ H1 _ I1 q1;rw[hs] at hA ⊢;refine Calls.callWith_builtin (by show (false||(backTo kN (starEach es X.env)).any (·.1))=false;rw[vx] <;> rfl) (Calls.evalArgs_plain ?_);exact thn hA fun us s2 ⟨vs,H2,I2,r2,q2⟩=>hm pins s2 σ H2 x vs v us Q I2 r1 r2 q2
/- xs.append(e), list.index on a Ey tuple .. are MtR facts of 06m -/
end
end L2

namespace L2
open PySem PySem.Spec PyProof.Rows

noncomputable def MtM (X:Cx)(id:String)(r:V->List V->Hp->VK->Prop):Prop :=
 ∀ (pins:List (Addr×Obj)) (s:Shared) (σ:St) (H:Hp) (x:V) (xs:List V) (v:Value) (us:List Value) (Q:VK),Inv X pins σ H s->RelV x v->Vals xs us->r x xs H Q ->
  wpAny (model X.prog X.w) X.A (call (.builtin id) (v::us)) (EP X pins σ Q) X.xe s

theorem Vals.one:∀ {x:V} {us:List Value},Vals [x] us->∃ u,us=[u]/\RelV x u
 | _,_,.cons r .nil=>⟨_,rfl,r⟩
theorem Vals.two:∀ {x y:V} {us:List Value},Vals [x,y] us->∃ u v,us=[u,v]/\RelV x u/\RelV y v
 | _,_,_,.cons r (.cons q .nil)=>⟨_,_,rfl,r,q⟩
section
variable {X:Cx}{pins:List (Addr×Obj)}{σ:St}{H:Hp}{s:Shared}{l b:Addr}{xs ys zs:List V}

theorem Inv.CQ {its its':List Value}{n:Nat}{f:Array Value->Array Value}{t':Nat}(I:Inv X pins σ H s)(hH:H l=some (.lst xs))
  (e:s.heap.get? l=some { cls:=.type "list",data:=.seq its.toArray n }) (hf:f its.toArray=its'.toArray) (hv:Vals ys its') (hz:ys.length<=sizeLine) :
  Inv X pins σ (upd H l (.lst ys)) { s with heap:=s.heap.update l (Obj.mapSeq f),toks:=t' }:=by
 have q:=PySem.IsL.update e f;rw[hf] at q;refine I.write (x:=l) (e:=l) (by rw[hH];exact trivial) (.inl rfl) (fun b' u hb hu=>(Jw s.heap (Obj.mapSeq f) (Ne.symm hb)).trans hu) ⟨_,q⟩ ?_;exact⟨hz,its',_,hv,q⟩
theorem Inv.Ez {its:List Value}{t':Nat}(I:Inv X pins σ H s)(hv:Vals ys its)(hz:ys.length<=sizeLine) :
  Inv X pins σ (upd H s.heap.objs.size (.lst ys)) { s with heap:=s.heap.push { cls:=.type "list",data:=.seq its.toArray },toks:=t' } :=
 I.laid (fun _ _ q=>HU _ q) (HV _) ⟨hz,its,0,hv,Ir _ rfl⟩
theorem Inv.ya (I:Inv X pins σ H s)(hH:H l=some (.lst xs)):xs.length<=sizeLine/\∃ (its:List Value) (n:Nat),Vals xs its/\xs.length=its.length/\s.heap.get? l=some { cls:=.type "list",data:=.seq its.toArray n }:=by
 obtain⟨z,its,n,r,e⟩:=I.hok l _ hH;exact⟨z,its,n,r,r.length,e⟩

theorem tG {n:Nat}(h:n<=sizeLine):Builtin.List.listTooLong n=false:=by
 unfold Builtin.List.listTooLong;exact decide_eq_false (by omega)
end

section
variable {X:Cx}

noncomputable def A3:V->List V->Hp->VK->Prop:=fun x vs H Q=>∃ l xs y,x=.ref l/\vs=[y]/\H l=some (.lst xs)/\xs.length<sizeLine/\Q .non (upd H l (.lst (xs++[y])))
theorem bU:MtM X "list.append" A3:=by
 intro pins s σ H x vs v us Q I rx rv h;obtain⟨l,xs,y,rfl,rfl,hH,hz,q⟩:=h;cases rx;obtain⟨u,rfl,ru⟩:=rv.one;obtain⟨z,its,n,r,hl,e⟩:=I.ya hH;refine call_meets F.slot_list_append ⟨_,e,rfl⟩ F.entry_list_append (F.args_list_append_2 _ _) (PySem.list_append l its.toArray n u (by rw[HZ];omega)) ⟨e,?_⟩;refine⟨.non,_,I.CQ (its':=its++[u]) hH e (by simp) (r.append (.cons ru .nil)) ?_,rfl,q⟩;rw[HY,LH];omega

noncomputable def A4:V->List V->Hp->VK->Prop:=fun x vs H Q=>∃ l b xs zs,x=.ref l/\vs=[.ref b]/\H l=some (.lst xs)/\H b=some (.lst zs)/\xs.length+zs.length<=sizeLine/\Q .non (upd H l (.lst (xs++zs)))
theorem iB:MtM X "list.extend" A4:=by
 intro pins s σ H x vs v us Q I rx rv h;obtain⟨l,b,xs,zs,rfl,rfl,hH,hB,hz,q⟩:=h;cases rx;obtain⟨u,rfl,ru⟩:=rv.one;cases ru;obtain⟨z,its,n,r,hl,e⟩:=I.ya hH;obtain⟨z2,m8,n2,r2,hl2,e2⟩:=I.ya hB;have hsz:its.toArray.size+m8.toArray.size<=sizeLine:=by rw[HZ,HZ];omega
 have zj:¬ (!its.toArray.isEmpty&&Builtin.List.listTooLong (its.toArray.size+m8.toArray.size))=true:=by
  rw[tG hsz,Li];exact Io
 refine call_meets F.slot_list_extend ⟨_,e,rfl⟩ F.entry_list_extend (F.args_list_extend_2 _ _)
  (AutoSeq1.list_extend_list_list_0 l its.toArray n b m8.toArray n2 zj (by rw[HZ];omega) (by omega)) ⟨e,e2,?_⟩
 refine⟨.non,_,I.CQ (its':=its++m8) hH e (by simp) (r.append r2) ?_,rfl,q⟩;rw[HY];omega

end


end L2

namespace Att
open PySem PySem.W PySem.Calls PyProof.Rows

theorem m9 {P:Params}{h:Heap}:∀ (ns:List Int) (vs:List Value),WellAll P h vs (ns.map WData.int)->IntsAre vs ns:=by
 intro ns
 induction ns with
 | nil =>
  intro vs w;rw[Mu] at w;cases w;exact .nil
 | cons n ns ih =>
  intro vs w;rw[Js] at w;cases w with
  | cons a b =>
   cases a;exact .cons _ _ (ih _ b)

theorem yb {l:OpenLaw}{n:Nat}(hn:l.most=some n){P:Params}{h:Heap}{args:List WData}{vals:List Value}
  (A5:l.row.toRowW.claim.pre args=true) (hwl:WellAll P h vals args) :
  ∃ a vs ns,vals=[Value.ref a]/\args=[WData.list (ns.map WData.int)]/\h.get? a=some { cls:=.type "list",data:=.seq vs.toArray }/\IntsAre vs ns/\ns.length<=n:=by
 have hsh:WShape.hasAll [] args [.list .int]=true:=(pre_splitW A5).1;have hc:l.pre.holds [] { args:=args }=true:=(pre_splitW A5).2;obtain⟨d,r,rfl,h1,h2⟩:=hasAllW_cons hsh;obtain rfl:=hasAllW_nil h2;obtain⟨xs,rfl,h3⟩:=hasW_list h1;obtain⟨ns,rfl⟩:=items_int h3;have hlen:ns.length<=n:=by
  unfold OpenLaw.pre at hc;have h4:(WTm.not (.lt (.lit (.int (n:Int))) (.len (.arg 0)))).holds [] { args:=[.list (ns.map .int)] }=true:=by
   have h4:=(holds_andW hc).1;rw[hn] at h4;exact h4
  have h5:=condW_of h4 (w_not (w_lt w_lit (w_len_list (w_arg rfl))));rw[HQ] at h5;refine LC fun q=>?_
  have q':(n:Int)<((ns.length:Nat):Int):=by omega
  first
   | (rw[decide_eq_true q'] at h5;exact absurd h5 (by decide))
   | (simp at h5;omega)
 cases hwl with
 | cons w1 w2 =>
  cases w2;cases w1 with
  | list ho FW=>exact⟨_,_,ns,rfl,rfl,ho,m9 ns _ FW,hlen⟩

theorem yc (l:OpenLaw)(args:List WData):l.row.toRowW.claim.post args (.bool true) args=true :=
 postW_of (r:=l.row.toRowW) (X:=(true == true))
  (show WShape.has [] (.bool true) .bool=true by first | rfl | decide | simp[WShape.has,WShape.arms,WShape.armsAll])
  (show (WTm.eq .res (.lit (.bool true))).value [] { args:=args,res:=some (.bool true),after:=args }=some (.bool (true == true)) from w_eq_bool (w_res rfl) w_lit) rfl

theorem tH {l:OpenLaw}{n:Nat}{q:Program}{loose:List Str}{XP:(Str->Option Value)->Heap->Prop}{YP:World->Heap->Prop}{d:DefRec}
  (hn:l.most=some n) (hdf:d.params.defaults=[])
  (call:∀ (w:World) (s₀ s₁:Shared) (mg mb:Str->Option Value) (fa:Addr) (o:Obj) (pm cd doc:Value) (a:Addr) (vs:List Value) (ns:List Int),
   Ground q loose [] XP w s₀ mg mb s₁.heap->YP w s₁.heap ->
   s₁.heap.get? fa=some o->o.data=.func (docDef d.name d.params d.body d.scope pm cd doc)->s₁.heap.CodeRec cd d.name->mg d.name=some (.ref fa) ->
   s₁.heap.get? a=some { cls:=.type "list",data:=.seq vs.toArray }->IntsAre vs ns->ns.length<=n->s₁.gens = #[] ->
   codeAny (model l.prog w) callerA (.call (.ref fa) ⟨[.ref a],[]⟩) (fun r s'=>r=.ok (.ret (.bool true))/\OldK s₁.heap s'.heap/\s'.os=s₁.os/\AllBare s'.gens) s₁) :
  WalkO q loose XP YP l.row.toRowW d [] (fun f vs=>PySem.call f vs):=by
 intro w s₀ s₁ mg mb G Y fa o pm cd doc dV kV ho hd hcd hD hmg hg args vals as A5 Hy hrd hwl hlo;obtain rfl:dV=.none:=Dflts.none hD hdf;obtain rfl:kV=.none:=Dflts.noKw hD;obtain⟨a,vs,ns,rfl,rfl,CS,hints,hlen⟩:=yb hn A5 hwl;refine enter_call (codeAny_mono (call w s₀ s₁ mg mb fa o pm cd doc a vs ns G Y ho (fd_plain hd) hcd hmg CS hints hlen hg) fun r s' hq=>?_);obtain⟨rfl,h2,h3,h4⟩:=hq;exact⟨.inl ⟨.bool true,.bool true,[],rfl,fun _=>rfl,.bool true,yc l _,fun _=>⟨List.Pairwise.nil,fun _ hm=>(nomatch hm)⟩⟩,h2,h3,h4⟩

end Att

namespace L2
open PySem PySem.Spec PyProof.Rows

theorem qb:∀ {vs:List Value} {ns:List Int},IntsAre vs ns->Vals (ns.map V.int) vs
 | _,_,.nil=>.nil
 | _,_,.cons n t h=>.cons ⟨t,rfl⟩ (qb h)

noncomputable def CT (H:Hp):Prop:=∀ b,H b=none\/∃ o xs,H b=some (.frz o (.lst xs))

theorem zk {P:Program}{w:World}{K:HS}{mg mb:Str->Option Value}{CX:CXT}{k:Nat}{fa a:Addr}{fd:FuncData}{x:Str}{sp:Sp}{s₁:Shared}{vs:List Value}{ns:List Int}
  (KX:K.In s₁.heap) (hns:s₁.heap.Ns mainGlobals mg) (hb:s₁.heap.Ns builtinsNs mb) (hbb:∀ x:Str,x≠"__name__"->mb x=bootBuiltins x) (FX:s₁.heap.NoLimit) (hg:s₁.gens = #[])
  (ha:s₁.heap.get? a=some { cls:=.type "list",data:=.seq vs.toArray }) (hi:IntsAre vs ns) (hl:ns.length<=sizeLine) (hr:eG k callerA)
  (F:∀ base:Heap,K.In base->base.Ns mainGlobals mg->aS P w K mg base CX k fa fd [x] sp) (EA:∀ (s:Shared) (u:Value),BindsTo s fd ⟨[u],[]⟩ [(x,u)])
  (hsp:∀ H:Hp,CT H->SqL K H a (ns.map V.int)->sp [.ref a] H (fun v _=>v=.bl true) fun _ _ _=>False)
  (hCX:∀ H e s',CX [] H s₁ (fun _ _ _=>False) e s'->False) :
  codeAny (model P w) callerA (.call (.ref fa) ⟨[.ref a],[]⟩) (fun r s'=>r=.ok (.ret (.bool true))/\OldK s₁.heap s'.heap/\s'.os=s₁.os/\AllBare s'.gens) s₁:=by
 have rv:=qb hi;have FY:=hi.length;have core:∀ H:Hp,CT H->SqL K H a (ns.map V.int)->HOk P w H s₁.heap->(∀ b,H b≠none->b=a)->(H a≠none->K.lookup a=none) ->
   codeAny (model P w) callerA (.call (.ref fa) ⟨[.ref a],[]⟩) (fun r s'=>r=.ok (.ret (.bool true))/\OldK s₁.heap s'.heap/\s'.os=s₁.os/\AllBare s'.gens) s₁:=by
  intro H hO hS hok hA hK;have w8:∀ {b:Addr} {o:Obj},s₁.heap.get? b=some o->H b=none->(qK s₁.heap H).get? b=some o:=fun e n=>yS e n
  have noA:∀ {b:Addr} {o:Obj} {es:Array DictEntry} {ep:Nat},s₁.heap.get? b=some o->o.data=.dict es ep->H b=none:=fun {b o es ep} e d=>by
   cases q:H b with
   | none=>rfl
   | some u =>
    have e':b=a:=hA b (by rw[q];simp);subst e';rw[ha] at e;cases e;have d':Data.seq vs.toArray _=Data.dict es ep:=d;cases d'
  have nsK:∀ {b:Addr} {m:Str->Option Value},s₁.heap.Ns b m->(qK s₁.heap H).Ns b m:=fun {b m} ⟨o,es,ep,e,d,r⟩=>⟨o,es,ep,w8 e (noA e d),d,r⟩
  have hKb:K.In (qK s₁.heap H):=fun b o e=>w8 (KX b o e) (by
   cases q:H b with
   | none=>rfl
   | some u =>
    have e':b=a:=hA b (by rw[q];simp);subst e';rw[hK (by rw[q];simp)] at e;cases e)
  have hM:Mod K mg (qK s₁.heap H):=⟨hKb,nsK hns,⟨mb,nsK hb,hbb⟩,let ⟨mc,h1,h2⟩:=FX;⟨mc,nsK h1,h2⟩⟩
  have e0:vq P w K mg (qK s₁.heap H) callerA [] s₁ H:=⟨rfl,hM,fun b o e=>AJ e,Le (xS _ _),trivial,fun b hb=>absurd (show b∈([]:List Addr) from hb) (by simp),hok,.of_eq hg⟩
  refine codeAny_mono ((F _ hKb (nsK hns)).run callerA [] s₁ H ⟨[.ref a],[]⟩ [.ref a] [.ref a] _ _ hr e0 (EA s₁ (.ref a)) (.cons rfl .nil) (hsp H hO hS)) fun r s' h=>?_
  cases r with
  | error e=>exact(hCX H e s' h).elim
  | ok fl =>
   cases fl with
   | next=>exact False.elim h
   | brk=>exact False.elim h
   | cont=>exact False.elim h
   | ret u =>
    obtain⟨v,H',os,bare,un,FZ,r',q⟩:=h;have q':v=.bl true:=q;subst q';obtain rfl:u=Value.bool true:=r';refine⟨rfl,OldK.of_keep fun b o e=>?_,os,bare⟩;cases q:H b with
    | none=>exact un.keep b o e q (by intro z;exact absurd (show b∈([]:List Addr) from z) (by simp)) (by simp)
    | some u =>
     rcases hO b with z | ⟨ob,xs,z⟩
     ·rw[q] at z;cases z
     ·have z2:=un.jY b ob _ z;obtain⟨e1,_⟩:=hok b _ z;obtain⟨e2,_⟩:=FZ b _ z2;rw[e] at e1;cases e1;exact e2
 cases hk:K.lookup a with
 | some o =>
  have e:=KX a o hk;rw[ha] at e;cases e;refine core (fun _=>none) (fun _=>.inl rfl) (.inr ⟨_,vs.toArray,_,hk,rfl,rfl,rfl,by rw[HZ,FY];exact hl,by simpa using rv⟩) (fun b u z=>by have z':(none:Option HO)=some u:=z;cases z') (fun b z=>absurd rfl z) fun z=>absurd rfl z
 | none =>
  refine core (fun b=>if b=a then some (.frz { cls:=.type "list",data:=.seq vs.toArray } (.lst (ns.map V.int))) else none) (fun b=>?_) (.inl (.inr ⟨{ cls:=.type "list",data:=.seq vs.toArray },if_pos rfl⟩)) (fun b u z=>?_) (fun b z=>?_) fun _=>hk
  ·by_cases hb:b=a
   ·exact .inr ⟨_,_,if_pos hb⟩
   ·exact .inl (if_neg hb)
  ·by_cases hb:b=a
   ·have z':=(if_pos hb).symm.trans z;cases z';subst hb;exact⟨ha,by rw[HQ];exact hl,vs,_,rv,ha⟩
   ·have z':=(if_neg hb).symm.trans z;cases z'
  ·by_cases hb:b=a
   ·exact hb
   ·exact absurd (if_neg hb) z
end L2

namespace L2
open PySem PySem.Spec PyProof.Rows

theorem w9 {l:MT}{n k:Nat}{q:Program}{loose:List Str}{XP:(Str->Option Value)->Heap->Prop}{YP:World->Heap->Prop}{d:DefRec}{K:Params->HS}{CX:World->CXT}{sp:World->Sp}{x:Str}
  (hn:l.most=some n) (hn2:n<=sizeLine) (hdf:d.params.defaults=[]) (hr:eG k callerA)
  (hY:∀ (w:World) (h:Heap),YP w h->(K w.params).In h)
  (F:∀ (w:World) (mg:Str->Option Value) (fa:Addr) (h:Heap),(K w.params).In h->h.Ns mainGlobals mg->mg d.name=some (.ref fa) ->
   ∃ fd:FuncData,(∀ (s:Shared) (u:Value),BindsTo s fd ⟨[u],[]⟩ [(x,u)]) /\
    ∀ base:Heap,(K w.params).In base->base.Ns mainGlobals mg->aS l.prog w (K w.params) mg base (CX w) k fa fd [x] (sp w))
  (hsp:∀ (w:World) (H:Hp) (a:Addr) (ns:List Int),ns.length<=n->CT H->SqL (K w.params) H a (ns.map V.int)->sp w [.ref a] H (fun v _=>v=.bl true) fun _ _ _=>False)
  (hCX:∀ (w:World) (H:Hp) (s:Shared) (e:Value) (s':Shared),CX w [] H s (fun _ _ _=>False) e s'->False) :
  M4 q loose XP YP l.row.toRowW d [] (fun f vs=>PySem.call f vs):=by
 refine Att.tH hn hdf fun w s₀ s₁ mg mb fa o pm cd doc a vs ns G Y ho hd hcd hmg CS hints hlen hg=>?_
 have KX:=hY w _ Y;obtain⟨fd,hb,hF⟩:=F w mg fa _ KX G.T.g hmg;exact zk KX G.T.g G.T.b G.T.builtins G.T.nolimit hg CS hints (Jk hlen hn2) hr hF hb (fun H hO hS=>hsp w H a ns hlen hO hS) fun H e s'=>hCX w H s₁ e s'
end L2

/- THE Hz Fv (shape; LID, My.* are Hr):
   My.Adr: a structure of the addresses AK HA Hs names (classes, D0); My.Txt K t: a structure (Prop) of the equations over K;
   My.CV : {K} {implicit addresses ..} (e1 : nsIn K mainGlobals "law" = some (some (.ref f))) (e2 : K.lookup f = some ⟨oc, od, .func (fnOf "law" "law" params body scope dV kV doc pm an cdv ct), sl⟩) (e3 : codeIn K cdv "law" = true) .. : ∃ t, My.Txt K t

set_option maxRecDepth 100000 in
set_option maxHeartbeats 0 in
theorem PySem.Challenge.A6 : PySem.Challenge.CW.Holds := by
 w_on;o_law;k_head;(case hw=>w_witness2)
 k_fill
 refine L2.w9 (l:=PySem.Challenge.CW) (n:=63) (k:=40) (x:="script") (CX:=fun w=>..) (sp:=fun _=>My.Ga) rfl (by decide) rfl ⟨rfl,by decide,by decide⟩ (fun w h Y=>MX Y) ?F ?S ?C
 case F =>
  intro w mg fa h KX G hmg;have T:∃ t,My.Txt (L2.KOf KX) t:=by
   dsimp only [L2.KOf]                          -- K HB Ht as «<heap const> w.params» for k_is;refine' My.CV ?e1 ?e2 ?e3 ..
   (case e1 => PySem.W.k_is)                    -- in the order: a name -> its address -> its object -> its parts
   (case e2=>PySem.W.k_is)
   ..
  obtain ⟨t,T⟩:=T;have e0:=hmg.symm.trans (Ki KX G T.law);cases e0                                       -- fa is the Hu own address;exact ⟨_, fun s u => .of_eq rfl, fun base kb nb => My.CY T kb nb⟩     -- if «.of_eq rfl» comes too early: refine' ⟨_, ?b, fun base kb nb => My.CY T kb nb⟩; exact fun s u => .of_eq rfl
 case S=>exact fun w H a ns hl hO hS=>..
 case C=>exact ..
(the tactic k_is has no namespace: write k_is) -/

namespace L2
open PySem PySem.Spec PyProof.Rows

noncomputable def cu (s:Stmt):Arguments:=match s with
 | .FunctionDef _ a _ _ _ _ _ _ _ _=>a
 | _=>{ posonlyargs:=[],args:=[],vararg:=none,kwonlyargs:=[],kw_defaults:=[],kwarg:=none,defaults:=[] }
noncomputable def bO (s:Stmt):List Stmt:=match s with
 | .FunctionDef _ _ b _ _ _ _ _ _ _=>b
 | _=>[]
noncomputable def az (s:Stmt):Scope:=match s with
 | .FunctionDef _ _ _ _ _ _ sc _ _ _=>sc
 | _=>{ kind:=.function,names:=[],isGenerator:=false,isCoroutine:=false }

noncomputable abbrev CX0:CXT:=fun _ _ _ _ _ _=>False
noncomputable abbrev E0:XK:=fun _ _ _=>False
theorem EB {X:Cx}:Passes CX0 X E0:=fun _ _ _ _ _ _ _ h=>h.elim

structure Fun (K:HS) (x qual:Str) (st:Stmt) (f:Addr) (fd:FuncData):Prop where
 ex:∃ (oc:Value) (od:Option Addr) (kV doc pm:Value) (an:Option Addr) (cdv ct:Value) (osl:Array (Option Value)),
  fd=Jp x qual (cu st) (bO st) (az st) .none kV doc pm an cdv ct/\K.lookup f=some ⟨oc,od,.func fd,osl⟩/\Kp K cdv qual=true
 kp:Ko K (.ref f)=true
section
variable {P:Program}{w:World}{K:HS}{mg:Str->Option Value}{base:Heap}
theorem Fun.ok {x qual:Str}{st:Stmt}{f:Addr}{fd:FuncData}{N ps:List Str}{k:Nat}{sp:Sp}(F:Fun K x qual st f fd)(S:aN N ps (az st))(len:∀ vs H Q E,sp vs H Q E->vs.length=ps.length)
  (nO:∀ (cdv:Value) (A:Around) (outer:List Env) (s:Shared) (H:Hp) (vs:List V) (Q:VK) (E:XK),eG k (A.deeper (envOfC qual (az st) s.heap.objs.size f cdv))->sp vs H Q E ->
   ∃ t,PSs (lU CX0 P w K mg base N qual (az st) f cdv A outer s H E).nox (bO st) t/\t { nx:=fun _ H'=>Q .non H',rt:=Q } (start N vs) H):aS P w K mg base CX0 (k+1) f fd ps sp:=by
 obtain⟨oc,od,kV,doc,pm,an,cdv,ct,osl,rfl,lk,hcd⟩:=F.ex;refine BZ lk hcd S len fun A outer s H vs Q E hr hsp=>?_
 obtain⟨t,h,q⟩:=nO cdv A outer s H vs Q E hr hsp;exact⟨t,h.nox,q⟩
theorem Fun.binds {x qual:Str}{st:Stmt}{f:Addr}{fd:FuncData}{ps:List Str}(F:Fun K x qual st f fd)
  (h:∀ (kV doc pm:Value) (an:Option Addr) (cdv ct:Value) (us:List Value),us.length=ps.length->bindArgs (Jp x qual (cu st) (bO st) (az st) .none kV doc pm an cdv ct) ⟨us,[]⟩=pure (ps.zip us)):Binds K fd ps []:=by
 obtain⟨oc,od,kV,doc,pm,an,cdv,ct,osl,rfl,lk,hcd⟩:=F.ex;exact .all (h kV doc pm an cdv ct)
theorem qY {x qual : Str}{st : Stmt}{f : Addr}{oc : Value}{od an : Option Addr}{osl : Array (Option Value)}{kV doc pm cdv ct : Value}(l : K.lookup f=some ⟨oc, od, .func (Jp x qual (cu st) (bO st) (az st) .none kV doc pm an cdv ct), osl⟩)
    (c : Kp K cdv qual=true) (k : Ko K (.ref f)=true) : Fun K x qual st f (Jp x qual (cu st) (bO st) (az st) .none kV doc pm an cdv ct) := ⟨⟨oc, od, kV, doc, pm, an, cdv, ct, osl, rfl, l, c⟩, k⟩
end
theorem kO {A:Around}{k:Nat}(hr:eG k A):A.units+1<cLine:=JF (L8 (by decide:1<=64) _) hr.units
theorem bx {n:Nat}(h:n<=1000):n<sizeLine:=JF h (by decide)

section
variable {X:Cx}
theorem pv (i : Nat){x : Str}{pos : Pos}(hN : X.N[i]?=some x := by rfl)(hv : Vis X.env.scope x := by first | exact Or.inl rfl | exact Or.inr (Or.inl rfl) | exact Or.inr (Or.inr rfl))(hd : (x == ("__debug__" : Str))=false := by decide)
    (hcd : (x == ("__classdict__" : Str))=false := by decide) : PE X (.Name x pos) (yV i) := Cy hN hv hd hcd
end

theorem kP {A B:Prop}(h:B):if false=true then A else B:=by
 rw[if_neg Io];exact h
theorem tI {A B:Prop}(h:A):if true=true then A else B:=by
 rw[if_pos rfl];exact h
theorem d8 {c A B:Prop}[Decidable c](h1:c->A)(h2:¬ c->B):if c then A else B:=by
 by_cases h:c
 ·rw[if_pos h];exact h1 h
 ·rw[if_neg h];exact h2 h
theorem xa {c A B:Prop}[Decidable c](hc:c)(h:B):if (!decide c)=true then A else B:=by
 rw[decide_eq_true hc];exact kP h

noncomputable def aG (H H':Hp):Prop:=∀ b o,H b=some o->H' b=some o
theorem aG.refl (H:Hp):aG H H:=fun _ _ h=>h
theorem aG.trans {H H1 H2:Hp}(a:aG H H1)(b:aG H1 H2):aG H H2:=fun c o h=>b c o (a c o h)
theorem aG.free {H H':Hp}(e:aG H H'){l:Addr}(h:H' l=Option.none):H l=Option.none:=by
 cases q:H l with
 | none=>rfl
 | some o =>
  rw[e l o q] at h;cases h
theorem aG.seq {K:HS}{H H':Hp}{a:Addr}{xs:List V}(e:aG H H')(h:SqL K H a xs):SqL K H' a xs:=by
 rcases h with (h | ⟨o,h⟩) | h
 ·exact .inl (.inl (e _ _ h))
 ·exact .inl (.inr ⟨o,e _ _ h⟩)
 ·exact .inr h

end L2



namespace L2
open PySem PySem.Spec PyProof.Rows

theorem jj {α:Type}{t:Sem α}{Q Q':α->Shared->Prop}{M:Model}{A:Around}{E:Value->Shared->Prop}{s:Shared}(h:wpAny M A t Q (fun _ _=>False) s)(hQ:∀ a s,Q a s->Q' a s):wpAny M A t Q' E s :=
 wpAny_mono h hQ fun _ _ z=>z.elim
theorem jk:∀ {xs:List V} {us:List Value},xs.length=us.length->(∀ (i:Nat) (x:V) (u:Value),xs[i]?=some x->us[i]?=some u->RelV x u)->Vals xs us
 | [],[],_,_=>.nil
 | [],_::_,h,_=>by simp at h
 | _::_,[],h,_=>by simp at h
 | x::xs,u::us,h,f=>.cons (f 0 x u rfl rfl) (jk (by simpa using h) fun i y w e1 e2=>f (i+1) y w (by simpa using e1) (by simpa using e2))

noncomputable def b7 (X:Cx)(scope:Scope)(cl:List (Str×Addr))(NC:List Str)(fp:List Addr)(C:Addr)(s₀:Shared)(H₀:Hp):Cx where
 prog:=X.prog
 w:=X.w
 K:=X.K
 mg:=X.mg
 base:=X.base
 A:=X.A
 N:=NC
 s₀:=s₀
 H₀:=H₀
 env:=compEnvC scope cl C X.env
 outer:=X.stack
 stack:=X.stack
 ex:=fp
 fn:=fun _=>false
 calm:=X.calm
 pn:=[]
 xe:=fun _ _=>False
structure j6 (X:Cx) (scope:Scope) (cl:List (Str×Addr)) (NC:List Str) (ini:List (Option Nat)):Prop where
 zm:closureFor scope X.env=pure cl
 cell:∀ y∈scope.names,y.2≠.cell
 kind:scope.kind=.function
 names:∀ y∈scope.names,y.2=.local->scope.names.lookup y.1=some .local
 cls:∀ x c,cl.lookup x=some c->X.env.cells.lookup x=some c
 has:∀ x,((relabel scope X.env).names.lookup x=some .cell\/(relabel scope X.env).names.lookup x=some .free)->∃ c,cl.lookup x=some c
 len:ini.length=NC.length
 src:∀ (i j:Nat) (x:Str),ini[i]?=some (some j)->NC[i]?=some x->X.N[j]?=some x/\(X.env.kindOf x=some .cell\/X.env.kindOf x=some .free) /\
  ((relabel scope X.env).names.lookup x=some .cell\/(relabel scope X.env).names.lookup x=some .free)
noncomputable def xb (ini:List (Option Nat))(σ:St):St:=ini.map fun o=>o.bind fun j=>(σ[j]?).join
section
variable {X:Cx}{scope:Scope}{cl:List (Str×Addr)}{NC:List Str}{ini:List (Option Nat)}{pins:List (Addr×Obj)}{σ:St}{H:Hp}{s:Shared}{fp:List Addr}
theorem tJ {h₁:Heap}{tk:Nat}{m:Str->Option Value}(O:j6 X scope cl NC ini)(I:Inv X pins σ H s)(hf:∀ b∈fp,gH X pins H b)(ho:∀ b∈fp,∃ o,s.heap.get? b=some o)
  (hn:h₁.Ns s.heap.objs.size m) (hk:∀ b o,s.heap.get? b=some o->h₁.get? b=some o) :
  Inv (b7 X scope cl NC fp s.heap.objs.size s H) [] (xb ini σ) H { s with heap:=h₁,toks:=tk }:=by
 have lt:∀ b∈fp,b<s.heap.objs.size:=fun b hb=>let ⟨o,e⟩:=ho b hb;Il e
 refine⟨⟨I.ok.mod,O.kind,I.ok.glob,I.ok.blt,HV _,fun x y c h1 h2=>I.ok.inj x y c (O.cls x c h1) (O.cls y c h2),O.has,fun x c h=>(Io h).elim,I.ok.hd,I.ok.frames,.inl rfl,
   fun b hb=>⟨IB (lt b hb),fun x c h=>(hf b hb).2.2.2.2.1 x c (O.cls x c h)⟩,I.bs,Jk I.ok.bsz I.sz,fun b o e hb=>?_,fun b hb hs=>?_,I.stack,I.qL⟩,
  rfl,I.bare,Un.kept hk,⟨m,hn,fun i x v e1 e2 e3=>?_⟩,fun x c h=>?_,I.hok.fresh (HV _),fun x c h=>I.jS x c (O.cls x c h),fun p hp=>absurd (show p∈([]:List (Addr×Obj)) from hp) (by simp),I.hok.kept hk,?_⟩
 ·rcases(hf b hb).2.2.2.1 with z | z
  ·exact I.ok.yT b o e z
  ·exact absurd (IY (Il e) (Jk I.ok.bsz z)) (JK _)
 ·rcases IA.mp (I.nI b hs) with e | e
  ·exact(hf b hb).2.1 e
  ·exact(hf b hb).2.2.1 e
 ·have e2:(ini.map fun o=>o.bind fun j=>(σ[j]?).join)[i]?=some (some v):=e2;rw[HX] at e2;cases q:ini[i]? with
  | none=>rw[q] at e2;cases e2
  | some oj =>
   rw[q] at e2;cases oj with
   | none=>cases e2
   | some j =>
    have e4:(σ[j]?).join=some v:=Option.some.inj e2;have e5:σ[j]?=some (some v):=by
     cases z:σ[j]? with
     | none=>rw[z] at e4;cases e4
     | some y =>
      rw[z] at e4;have e4:y=some v:=e4;rw[e4]
    obtain⟨a1,a2,a3⟩:=O.src i j x q e1;obtain⟨m0,hn0,hl⟩:=I.loc;obtain⟨u,r,l⟩:=hl j x v a1 e5 (.inr a2);refine⟨u,r,?_⟩;rcases l with ⟨k,_⟩ | ⟨_,c,e,z⟩
    ·rcases a2 with a2 | a2
     ·rw[k] at a2;cases a2
     ·rw[k] at a2;cases a2
    ·obtain⟨c',e'⟩:=O.has x a3;have e6:=O.cls x c' e';rw[e] at e6;cases e6;obtain⟨oc,h1,h2⟩:=z;exact .inr ⟨a3,c,e',oc,hk _ _ h1,h2⟩
 ·obtain⟨v,oc,h1,h2⟩:=I.cell x c (O.cls x c h);exact⟨v,oc,hk _ _ h1,h2⟩
 ·show (ini.map _).length=NC.length;rw[HQ];exact O.len
theorem comp_back {EC:List (Addr×Obj)}{σ':St}{H':Hp}{s':Shared}{h':Heap}(I:Inv X pins σ H s)(hf:∀ b∈fp,gH X pins H b)(J:Inv (b7 X scope cl NC fp s.heap.objs.size s H) EC σ' H' s')
  (hs:Heap.SameBut s.heap.objs.size s'.heap h'):Inv X pins σ H' { s' with heap:=h' }:=by
 have ne:∀ {b:Addr} {o:Obj},s.heap.get? b=some o->b≠s.heap.objs.size:=fun e=>IB (Il e)
 have sW:H' s.heap.objs.size=none:=J.free;have B:Un (frs X.stack) fp H H' s.heap s'.heap:=J.base;refine I.D9 (s':={ s' with heap:=h' }) (ch:=fp) J.os ⟨fun b o q n hb hx=>(hs.2 b (ne q)).trans (B.keep b o q n hb hx),fun b o q n hb hx=>?_,B.free,fun b o q hx=>?_,B.kI,B.jY,B.kJ⟩ (fun b u e=>?_) J.bare
  fun b hb=>⟨(hf b hb).2.2.2.1,(hf b hb).2.1,(hf b hb).2.2.2.2.1,(hf b hb).2.2.2.2.2⟩
 ·obtain⟨sl,e⟩:=B.slot b o q n hb hx;exact⟨sl,(hs.2 b (ne q)).trans e⟩
 ·obtain⟨o',e⟩:=B.there b o q hx;exact⟨o',(hs.2 b (ne q)).trans e⟩
 ·refine(J.hok b u e).qJ (fun c v hc q=>(hs.2 c ?_).trans q) (fun _ q=>q) fun _ _ q=>q
  rintro rfl;rcases hc with hc | hc
  ·rw[<- hc,sW] at e;cases e
  ·rw[sW] at hc;cases hc
end

noncomputable def PTs (X:Cx)(ifs:List Expr)(t:TT):Prop :=
 ∀ (pins:List (Addr×Obj)) (s:Shared) (σ:St) (H:Hp) (Q:Bool->Hp->Prop),Inv X pins σ H s->t σ H Q ->
  wpAny (model X.prog X.w) X.A (forIn ifs true fun c r=>if r=true then do let ok <- isTrue c X.env (eval c X.env);pure (ForInStep.yield ok) else pure (ForInStep.yield r)) (TP X pins σ Q) X.xe s
noncomputable def ED:TT:=fun _ H Q=>Q true H
theorem Gb {i:Nat}{v:V}{σ:St}{H:Hp}{A B:St->Hp->Prop}(h:A (σ.set i (some v)) H):pV i v σ H (fun σ3 H3=>ED σ3 H3 fun b H4=>if b=true then A σ3 H4 else B σ3 H4):=h
theorem jD {X:Cx}:PTs X [] ED:=fun _ _ _ H _ I h=>wpAny_tests_nil ⟨H,I,h⟩
theorem jE {X:Cx}{c:Expr}{t:TT}(h:PT X c t):PTs X [c] t:=fun pins s σ H Q I hw=>wpAny_tests_one (h pins s σ H Q I hw)

noncomputable def tN (J:It)(g:TG)(tt:TT)(te:TE)(D:Addr)(Q:VK)(σ₀:St)(H₀:Hp):Prop :=
 ∃ W:Nat->Nat->St->Hp->Prop,(∃ m,W 0 m σ₀ H₀)/\∀ i m σ' H',W i m σ' H' ->
  (J.stop i H'/\Q (.ref D) H')\/(J.go i H'/\∃ N:St->Hp->Prop,(∀ σ2 H2,N σ2 H2->∃ m',m'<m/\W (i+1) m' σ2 H2) /\
   ∀ x H2,J.yld i H' x H2->g x σ' H2 fun σ3 H3=>tt σ3 H3 fun b H4=>if b=true then te σ3 H4 fun v H5=>∃ ys,H5 D=some (.lst ys)/\ys.length<sizeLine/\N σ3 (upd H5 D (.lst (ys++[v]))) else N σ3 H4)
noncomputable def B4 (wi:TI)(g:TG)(tt:TT)(te:TE)(ini:List (Option Nat)):TE:=fun σ H Q=>wi σ H fun J H1=>∀ D,H1 D=none->tN J g tt te D Q (xb ini σ) (upd H1 D (.lst []))
theorem gh {X:Cx}{elt iter tg:Expr}{ifs:List Expr}{scope:Scope}{pos:Pos}{cl:List (Str×Addr)}{NC:List Str}{ini:List (Option Nat)}{wi:TI}{g:TG}{tt:TT}{te:TE}
  (hc:X.calm=true) (O:j6 X scope cl NC ini) (hi:PI X tg iter wi)
  (hg:∀ fp C s₀ H₀,PG (b7 X scope cl NC fp C s₀ H₀) tg g) (ht:∀ fp C s₀ H₀,PTs (b7 X scope cl NC fp C s₀ H₀) ifs tt) (he:∀ fp C s₀ H₀,PE (b7 X scope cl NC fp C s₀ H₀) elt te)
  (hs:∀ x,foldedSetIterable iter X.env x=pure x:=by intro _;rfl):PE X (.ListComp elt [⟨tg,iter,ifs,0⟩] scope pos) (B4 wi g tt te ini):=by
 intro pins s σ H Q I h;rw[eval_ListComp];refine wpAny_comprehension_free (use:=none) rfl hs O.zm O.kind O.names (thn (hi pins s σ H _ I h) fun v s1 h1=>thn h1 fun itv s2 h2=>?_);obtain⟨it,fp,tn,J,H2,e,I2,T,st2,f2,h2⟩:=h2;subst e;have hD:H2 s2.heap.objs.size=none:=I2.hok.fresh (HV _);obtain⟨W,⟨m0,w0⟩,turn⟩:=h2 _ hD;refine wpAny_newObj_type (wpAny_newFunctionEnv O.cell (by intro y hy;simp at hy) (fun h₁ j7 j8=>?_) O.kind);dsimp only at j7 j8 ⊢;have I3:Inv X pins σ (upd H2 s2.heap.objs.size (.lst [])) { s2 with heap:=s2.heap.push { cls:=.type "list",dict:=none,data:=.seq ([]:List Value).toArray } }:=I2.Ez (its:=[]) (t':=s2.toks) .nil (by decide);have ob2:∀ b∈fp,∃ o,s2.heap.get? b=some o:=fun b hb=>let ⟨o,e,_⟩:=T.obj 0 _ st2 b hb;⟨o,e⟩
 have neD:∀ b∈fp,b≠s2.heap.objs.size:=fun b hb=>let ⟨o,e⟩:=ob2 b hb;IB (Il e)
 have f3:∀ b∈fp,gH X pins (upd H2 s2.heap.objs.size (.lst [])) b:=fun b hb=>⟨by rw[aE (neD b hb)];exact(f2 b hb).1,(f2 b hb).2⟩
 generalize hs3:({ s2 with heap:=s2.heap.push { cls:=.type "list",dict:=none,data:=.seq ([]:List Value).toArray } }:Shared)=s3 at I3;have hh3:s2.heap.push { cls:=.type "list",dict:=none,data:=.seq ([]:List Value).toArray }=s3.heap:=by rw[<- hs3]
 have ob3:∀ b∈fp,∃ o,s3.heap.get? b=some o:=fun b hb=>let ⟨o,e⟩:=ob2 b hb;⟨o,by rw[<- hh3];exact HU _ e⟩
 rw[hh3] at j7 j8 ⊢;have old:∀ b o,s3.heap.get? b=some o->h₁.get? b=some o:=fun b o e=>j8.extBut b o (IB (Il e)) (HU _ e)
 have st1:tn 0 h₁:=T.keep 0 _ _ st2 fun b hb o e=>old b o (by rw[<- hh3];exact HU _ e)
 have IC:∀ tk,Inv (b7 X scope cl NC fp s3.heap.objs.size s3 (upd H2 s2.heap.objs.size (.lst []))) [] (xb ini σ) (upd H2 s2.heap.objs.size (.lst [])) { s3 with heap:=h₁,toks:=tk }:=fun tk=>tJ O I3 f3 ob3 j7 old
 have nM:∀ {H':Hp},(∀ b∈fp,H' b=none)->∀ b∈fp,gH (b7 X scope cl NC fp s3.heap.objs.size s3 (upd H2 s2.heap.objs.size (.lst []))) [] H' b:=fun {H'} hn b hb=>by
  obtain⟨o,e⟩:=ob3 b hb;refine⟨hn b hb,IB (Il e),fun z=>?_,.inl hb,fun x c hx=>(f3 b hb).2.2.2.2.1 x c (O.cls x c hx),fun p hp=>absurd (show p∈([]:List (Addr×Obj)) from hp) (by simp)⟩;rcases IA.mp (I3.nI b z) with q | q
  ·exact(f3 b hb).2.1 q
  ·exact(f3 b hb).2.2.1 q
 have loop:∀ s₃:Shared,s₃ = { s2 with heap:=h₁,toks:=s2.toks+([]:List (Str×Value)).length } ->
   codeAny (model X.prog X.w) X.A (.compLoop (.ListComp elt [⟨tg,iter,ifs,0⟩] scope pos) 0 (.ref it) (.ref s2.heap.objs.size) (compEnvC scope cl s3.heap.objs.size X.env))
    (compPost (model X.prog X.w) X.A X.xe none (EP X pins σ Q) (.ref s2.heap.objs.size) s3.heap.objs.size) s₃:=by
  rintro s₃ rfl;refine codeAny_loop rfl (fun n s'=>∃ i σ' H',Inv (b7 X scope cl NC fp s3.heap.objs.size s3 (upd H2 s2.heap.objs.size (.lst []))) [] σ' H' s'/\tn i s'.heap/\(∀ b∈fp,H' b=none)/\W i n σ' H') (fun n s' hI=>?_) m0
   ⟨0,_,_,by have z:=IC (s2.toks+([]:List (Str×Value)).length);rw[<- hs3] at z ⊢;exact z,st1,fun b hb=>(f3 b hb).1,w0⟩
  show wpAny _ X.A ((compTurn (.ListComp elt [⟨tg,iter,ifs,0⟩] scope pos) 0 (.ref it) (.ref s2.heap.objs.size) (compEnvC scope cl s3.heap.objs.size X.env)).onRaise (fun x=>do noteFrame x (compEnvC scope cl s3.heap.objs.size X.env);theTreesLotGoes x)) _ _ s';refine wpAny_noted ?_;rw[compTurn_list];obtain⟨i,σ3,H3,I3',st3,fr3,w3⟩:=hI;rcases turn i n σ3 H3 w3 with ⟨stop,qn⟩ | ⟨go,N,hN,step⟩
  ·refine wpAny_bind (wpAny_standAt (wpAny_bind (thn (T.done (b7 X scope cl NC fp s3.heap.objs.size s3 (upd H2 s2.heap.objs.size (.lst []))) rfl rfl rfl hc i [] s' σ3 H3 _ I3' (nM fr3) st3 stop) fun r s4 ⟨hr,I4⟩=>?_)));subst hr;obtain⟨m',hn',_⟩:=I4.loc;exact wpAny_pure ⟨m',hn',fun h' hs'=>⟨.ref s2.heap.objs.size,H3,comp_back I3 f3 I4 hs',rfl,qn⟩⟩
  ·refine wpAny_bind (wpAny_standAt (wpAny_bind (thn (T.item (b7 X scope cl NC fp s3.heap.objs.size s3 (upd H2 s2.heap.objs.size (.lst []))) rfl rfl rfl hc i [] s' σ3 H3 _ I3' (nM fr3) st3 go) fun r s4 ⟨u,hr,h4⟩=>?_)));subst hr;refine wpAny_bind (thn h4 fun _ s5 ⟨x,H5,I5,r5,y5,st5,fr5⟩=>?_);have I5':=I5.pinned (nM fr5) (T.obj _ _ st5);refine wpAny_bind (jj (hg fp _ s3 _ _ s5 σ3 H5 x u _ I5' r5 (step x H5 y5)) fun _ s6 ⟨σ6,H6,I6,q6⟩=>?_);have again:∀ {s7:Shared} {H7:Hp},Inv (b7 X scope cl NC fp s3.heap.objs.size s3 (upd H2 s2.heap.objs.size (.lst []))) ([]++lQ fp s5.heap) σ6 H7 s7->N σ6 H7 ->
     ∃ m,m<n/\∃ i σ' H',Inv (b7 X scope cl NC fp s3.heap.objs.size s3 (upd H2 s2.heap.objs.size (.lst []))) [] σ' H' s7/\tn i s7.heap/\(∀ b∈fp,H' b=none)/\W i m σ' H':=fun {s7 H7} I7 n7=>by
    obtain⟨m',hm,w7⟩:=hN σ6 H7 n7;refine⟨m',hm,i+1,σ6,H7,I7.iz,T.keep _ _ _ st5 fun b hb o e=>(I7.pin (b,o) (Ip _ (Ip _ (eW hb e)))).1,fun b hb=>?_,w7⟩;obtain⟨o,e,d⟩:=T.obj _ _ st5 b hb;exact(I7.pin (b,o) (Ip _ (Ip _ (eW hb e)))).2.1
   refine wpAny_bind (jj (ht fp _ s3 _ _ s6 σ6 H6 _ I6 q6) fun ok s7 ⟨H7,I7,q7⟩=>?_);cases ok with
   | false=>exact wpAny_pure ⟨rfl,again I7 q7⟩
   | true =>
    refine wpAny_bind (wpAny_bind (jj (he fp _ s3 _ _ s7 σ6 H7 _ I7 q7) fun u8 s8 ⟨v8,H8,I8,r8,ys,hy,hz,n8⟩=>?_));refine wpAny_bind (jj (bU _ s8 σ6 H8 (.ref s2.heap.objs.size) [v8] (.ref s2.heap.objs.size) [u8] (fun _ H9=>N σ6 H9) I8 rfl (.cons r8 .nil) ⟨_,ys,v8,rfl,rfl,hy,hz,n8⟩) fun _ s9 ⟨_,H9,I9,_,n9⟩=>?_);exact wpAny_pure (wpAny_pure ⟨rfl,again I9 n9⟩)
 exact codeAny_compStart_list (loop _ rfl) (T.self _ 0 _ _ _ st1 (loop _ rfl))

theorem vy {lo:Int}{n:Nat}{g:TG}{tt:TT}{te:TE}{D:Addr}{Q:VK}{σ₀:St}{H₀:Hp}(Pv:Nat->St->Hp->Prop)(h0:Pv 0 σ₀ H₀)
  (hs:∀ i σ H,i<n->Pv i σ H->g (.int (lo+i)) σ H fun σ3 H3=>tt σ3 H3 fun b H4=>if b=true then te σ3 H4 fun v H5=>∃ ys,H5 D=some (.lst ys)/\ys.length<sizeLine/\Pv (i+1) σ3 (upd H5 D (.lst (ys++[v]))) else Pv (i+1) σ3 H4)
  (hd:∀ σ H,Pv n σ H->Q (.ref D) H):tN (Itr lo n) g tt te D Q σ₀ H₀:=by
 refine⟨fun i m σ H=>m=n-i/\i<=n/\Pv i σ H,⟨n,by simp,IT _,h0⟩,?_⟩;rintro i m σ H ⟨rfl,hi,p⟩;by_cases hlt:i<n
 ·refine .inr ⟨hlt,Pv (i+1),fun σ' H' p'=>⟨n-(i+1),by omega,rfl,hlt,p'⟩,fun x H' y=>?_⟩;obtain⟨e,y⟩:=y;subst e y;exact hs i σ _ hlt p
 ·have e:i=n:=by omega
  subst e;exact .inl ⟨HV _,hd σ H p⟩
theorem eE {K:HS}{a:Addr}{xs:List V}{g:TG}{tt:TT}{te:TE}{D:Addr}{Q:VK}{σ₀:St}{H₀:Hp}(Pv:Nat->St->Hp->Prop)(h0:Pv 0 σ₀ H₀)(hl:∀ i σ H,i<=xs.length->Pv i σ H->SqL K H a xs)
  (hs:∀ i x σ H,xs[i]?=some x->Pv i σ H->g x σ H fun σ3 H3=>tt σ3 H3 fun b H4=>if b=true then te σ3 H4 fun v H5=>∃ ys,H5 D=some (.lst ys)/\ys.length<sizeLine/\Pv (i+1) σ3 (upd H5 D (.lst (ys++[v]))) else Pv (i+1) σ3 H4)
  (hd:∀ σ H,Pv xs.length σ H->Q (.ref D) H):tN (Itl K a) g tt te D Q σ₀ H₀:=by
 refine⟨fun i m σ H=>m=xs.length-i/\i<=xs.length/\Pv i σ H,⟨xs.length,by simp,IT _,h0⟩,?_⟩;rintro i m σ H ⟨rfl,hi,p⟩;have q:=hl i σ H hi p;by_cases hlt:i<xs.length
 ·refine .inr ⟨⟨xs,xs[i],q,by simp[hlt]⟩,Pv (i+1),fun σ' H' p'=>⟨xs.length-(i+1),by omega,rfl,hlt,p'⟩,fun x H' y=>?_⟩;obtain⟨e,y⟩:=y;subst e;exact hs i x σ _ (y xs q) p
 ·have e:i=xs.length:=by omega
  subst e;exact .inl ⟨⟨xs,q,HV _⟩,hd σ H p⟩
theorem nz {X:Cx}{scope:Scope}{NC:List Str}(kL:scope.kind=.function)(h:∀ y∈scope.names,y.2≠.cell/\y.2≠.free)(hn:∀ y∈scope.names,y.2=.local->scope.names.lookup y.1=some .local) :
  j6 X scope [] NC (KA NC.length none) where
 zm:=closureFor_none fun x hx=>(h x hx).2
 cell:=fun y hy=>(h y hy).1
 kind:=kL
 names:=hn
 cls:=fun x c e=>by cases e
 has:=fun x e=>by
  exfalso;have key:∀ k,(relabel scope X.env).names.lookup x=some k->k=.cell\/k=.free->False:=fun k e hk=>by
   have hm:=PySem.mem_of_lookup e;obtain⟨⟨n,k'⟩,hy,ey⟩:=HW.mp hm;have h1:=h _ hy;have hb:(k' == NameKind.free)=false:=by simpa using h1.2
   simp only[hb,Kn,Jl,if_false,Prod.mk.injEq] at ey;obtain⟨_,rfl⟩:=ey;rcases hk with hk | hk
   ·exact h1.1 hk
   ·exact h1.2 hk
  rcases e with e | e
  ·exact key _ e (.inl rfl)
  ·exact key _ e (.inr rfl)
 len:=by simp
 src:=fun i j x e _=>by
  rw[Kh] at e
  split at e <;> cases e

section
variable {X:Cx}
theorem yd:eI X (.type "range") (fun xs H Q=>∃ j,xs=[.int j]/\∀ p,H p=none->Q (.ref p) (upd H p (.rng 0 j))):=by
 intro pins s σ H xs us Q I r h;obtain⟨j,rfl,q⟩:=h;obtain⟨u,rfl,ru⟩:=r.one;obtain⟨t,rfl⟩:=ru;refine call_range_1 ⟨.ref s.heap.objs.size,_,I.laid (o:=.rng 0 j) (fun b u e=>HU _ e) (HV _) ?_,rfl,q _ (I.hok.fresh (HV _))⟩;exact⟨_,_,_,Ir _ rfl⟩
noncomputable def qZ (lo:Int)(n:Nat):List V:=(Ig n).map fun (i:Nat)=>V.int (lo+i)
theorem nW (lo:Int)(n:Nat):(qZ lo n).length=n:=by unfold qZ;rw[HQ,Ij]
theorem zo {lo:Int}{n i:Nat}(h:i<n):(qZ lo n)[i]?=some (.int (lo+i)):=by
 unfold qZ;rw[HX,JS h]
 rfl
theorem pD (hc:X.calm=true):eI X (.type "list") (fun xs H Q=>∃ p lo hi,xs=[.ref p]/\H p=some (.rng lo hi)/\(-(2 ^ 62)<=lo/\lo<2 ^ 62/\-(2 ^ 62)<=hi/\hi<2 ^ 62)/\(hi-lo).toNat<=2 ^ 20 /\
  ∀ l,H l=none->Q (.ref l) (upd H l (.lst (qZ lo (hi-lo).toNat)))):=by
 intro pins s σ H xs us Q I r h;obtain⟨p,lo,hi,rfl,hp,⟨b1,b2,b3,b4⟩,hz,q⟩:=h;obtain⟨u,rfl,ru⟩:=r.one;cases ru;obtain⟨t,u',v',e⟩:=I.hok p _ hp;have hsz:(hi-lo).toNat<=sizeLine:=Jk hz (by decide);refine call_list_range (n:=(hi-lo).toNat) (I.ok.hd hc) (show IsRange s.heap p lo hi 1 t u' v' from e) (small_one b1 b2 b3 b4) (by rw[rangeSize_one];split <;> omega) (Jk hz (by decide)) fun h' tk iC c' hk hS' lW=>?_
 refine⟨.ref s.heap.objs.size,_,I.laid (o:=.lst (qZ lo (hi-lo).toNat)) (t':=tk) hk (HV _) ⟨by rw[nW];exact hsz,iC.toList,c',?_,by simpa using hS'⟩,rfl,q _ (I.hok.fresh (HV _))⟩;refine jk (by rw[nW,Jb,lW.1]) fun i x w e1 e2=>?_
 have hi':i<(hi-lo).toNat:=by
  have z:=(HR.mp e1).1;rw[nW] at z;exact z
 rw[zo hi'] at e1;cases e1;obtain⟨t,rfl⟩:=lW.2 i w (by simpa using e2);exact⟨t,by rw[M9]⟩
theorem kQ:eI X (.builtin "isinstance") (fun xs H Q=>∃ x n t b,xs=[x,.ty n]/\lT X.K H x t/\JT X.K t (.type n)=some b/\Q (.bl b) H):=by
 intro pins s σ H xs us Q I r h;obtain⟨x,n,t,b,rfl,ty,e,q⟩:=h;obtain⟨u,v,rfl,ru,rv⟩:=r.two;cases rv;exact xZ I ru ty e fun tk=>⟨.bl b,H,I.tok tk,rfl,q⟩
theorem tO (K:HS):JT K (.type "int") (.type "int")=some true:=by unfold JT;rw[if_pos (by decide +kernel)]
theorem tP (K:HS):JT K (.type "tuple") (.type "tuple")=some true:=by unfold JT;rw[if_pos (by decide +kernel)]
theorem tQ (K:HS):JT K (.type "list") (.type "list")=some true:=by unfold JT;rw[if_pos (by decide +kernel)]
theorem q8 (K:HS):JT K (.type "int") (.type "bool")=some false:=by
 unfold JT;rw[if_neg (by decide +kernel)];show (if PySem.W.kitMeta "bool" = true then (fastBuiltinMro "int").map (·.contains (Value.type "bool")) else none)=some false;decide +kernel
end

structure Fn (K:HS) (mg:Str->Option Value) (x:Str) (st:Stmt) (ps:List Str) (f:Addr) (fd:FuncData):Prop where
 fn:Fun K x x st f fd
 b:Binds K fd ps []
 g:mg x=some (.ref f)
theorem Fn.mk' {K : HS}{mg : Str -> Option Value}{x : Str}{st : Stmt}{ps : List Str}{f : Addr}{fd : FuncData}(F : Fun K x x st f fd)
    (h : ∀ (kV doc pm : Value) (an : Option Addr) (cdv ct : Value) (us : List Value), us.length=ps.length -> bindArgs (Jp x x (cu st) (bO st) (az st) .none kV doc pm an cdv ct) ⟨us, []⟩=pure (ps.zip us))
    (g : mg x=some (.ref f)) : Fn K mg x st ps f fd := ⟨F, F.binds h, g⟩
theorem a8 {X : Cx}{x : Str}{st : Stmt}{ps : List Str}{f : Addr}{fd : FuncData}{k : Nat}{sp : Sp}{e : Expr}{es : List Expr}{t : TA}{p pos : Pos}(G : aS X.prog X.w X.K X.mg X.base CX0 k f fd ps sp)(F : Fn X.K X.mg x st ps f fd)(hr : eG k X.A)(ha : PA X (e::es) t)
    (hg : Gl X x := by rfl) (hdb : (x == ("__debug__" : Str))=false := by decide) (he : starEach (e::es) X.env=(false, eval e X.env)::starEach es X.env := by rfl) (hpl : (backTo pos (starEach es X.env)).any (·.1)=false := by rfl) :
    PE X (.Call (.Name x p) (e::es) [] pos) (tq sp [] E0 t) := qT G hr hg F.g F.fn.kp F.b .nil EB ha hdb he hpl
noncomputable def zp (K:HS):Sp:=fun vs H Q _=>∃ (a:Addr) (ns:List Int),vs=[.ref a]/\SqL K H a (ns.map V.int)/\ns.length<=63/\∀ H',Q (.bl true) H'

theorem aA {H:Hp}{p:Addr}{o:HO}(h:H p=none):aG H (upd H p o):=fun b u e=>by rw[aE (aM e h)];exact e
theorem aG.upd {H H':Hp}{p:Addr}{o:HO}(s:aG H H')(h:H p=none):aG H (upd H' p o):=fun b u e=>by rw[aE (aM e h)];exact s b u e
theorem aG.tup {K:HS}{H H':Hp}{a:Addr}{xs:List V}(e:aG H H')(h:SqT K H a xs):SqT K H' a xs:=by
 rcases h with (h | ⟨o,h⟩) | h
 ·exact .inl (.inl (e _ _ h))
 ·exact .inl (.inr ⟨o,e _ _ h⟩)
 ·exact .inr h
theorem zq {H:Hp}{p l:Addr}{o:HO}(h:upd H p o l=none):l≠p/\H l=none:=by
 by_cases e:l=p
 ·rw[e,ah] at h;cases h
 ·rw[aE e] at h;exact⟨e,h⟩
theorem fS {n:Nat}{k:Int}(h0:0<=k)(h1:k<n):ixN n k=some k.toNat:=by unfold ixN;rw[if_pos h0,if_pos h1]
theorem bh:bootBuiltins "len" = some (.builtin "len"):=by decide +kernel
theorem fc:bootBuiltins "isinstance" = some (.builtin "isinstance"):=by decide +kernel
theorem lX:bootBuiltins "sorted" = some (.builtin "sorted"):=by decide +kernel
theorem CZ:bootBuiltins "int" = some (.type "int"):=by decide +kernel
theorem A7:bootBuiltins "bool" = some (.type "bool"):=by decide +kernel
theorem gi:bootBuiltins "list" = some (.type "list"):=by decide +kernel
theorem dQ:bootBuiltins "tuple" = some (.type "tuple"):=by decide +kernel
theorem zr:bootBuiltins "range" = some (.type "range"):=by decide +kernel
theorem q9:bootBuiltins "min" = some (.builtin "min"):=by decide +kernel
theorem rf:bootBuiltins "enumerate" = some (.type "enumerate"):=by decide +kernel
end L2

namespace Th
open Classical
theorem sub_len {α:Type}:∀ {l m:List α},l.Nodup->(∀ x∈l,x∈m)->l.length<=m.length
 | [],m,_,_=>IT _
 | a::l,m,nd,h=>by
  obtain⟨h1,h2⟩:=JI.mp nd;have ha:=h a Iq;have z:=sub_len (l:=l) (m:=m.erase a) h2 fun x hx=>by
   have hne:x≠a:=fun e=>h1 (e ▸ hx)
   exact(LW hne).mpr (h x (Im _ hx))
  rw[Kf ha] at z;have:0<m.length:=Kq ha;rw[ID];omega
structure Two (N:Nat) (f g:Nat->Nat):Prop where
 fl:∀ x,x<N->f x<N
 gl:∀ x,x<N->g x<N
 ff:∀ x,x<N->f (f x)=x
 gg:∀ x,x<N->g (g x)=x
theorem Two.swap {N:Nat}{f g:Nat->Nat}(h:Two N f g):Two N g f:=⟨h.gl,h.fl,h.gg,h.ff⟩
noncomputable def stp (f g:Nat->Nat)(i x:Nat):Nat:=if i%2=0 then f x else g x
noncomputable def wlk (f g:Nat->Nat)(s:Nat):Nat->Nat
 | 0=>s
 | i+1=>stp f g i (wlk f g s i)
section
variable {N:Nat}{f g:Nat->Nat}{s:Nat}
theorem C1 (T:Two N f g)(i:Nat){x:Nat}(h:x<N):stp f g i x<N:=by
 unfold stp;split
 ·exact T.fl x h
 ·exact T.gl x h
theorem A8 (T:Two N f g)(i:Nat){x:Nat}(h:x<N):stp f g i (stp f g i x)=x:=by
 unfold stp;split
 ·exact T.ff x h
 ·exact T.gg x h
theorem nB {i j:Nat}(h:i%2=j%2)(x:Nat):stp f g i x=stp f g j x:=by unfold stp;rw[h]
theorem iO (T:Two N f g)(hs:s<N):∀ i,wlk f g s i<N
 | 0=>hs
 | i+1=>C1 T i (iO T hs i)
theorem fm (T:Two N f g)(hs:s<N)(i:Nat):stp f g i (wlk f g s (i+1))=wlk f g s i:=A8 T i (iO T hs i)
structure Goes (f g:Nat->Nat) (s k:Nat):Prop where
 mv:∀ i,i<k->wlk f g s (i+1)≠wlk f g s i
 rt:g s=s\/∀ j,0<j->j<=k->wlk f g s j≠s
theorem apart (T:Two N f g)(hs:s<N){k:Nat}(G:Goes f g s k):∀ j,j<=k->∀ i,i<j->wlk f g s i≠wlk f g s j:=by
 intro j
 induction j using LI with
 | _ j ih =>
  intro hj i hi e;obtain⟨j',rfl⟩:∃ j',j=j'+1:=⟨j-1,by omega⟩
  by_cases i0:i=0
  ·subst i0;rcases G.rt with gs | hr
   ·have e:s=stp f g j' (wlk f g s j'):=e;by_cases p:j'%2=0
    ·have e1:wlk f g s j'=f s:=by
      have e':f (wlk f g s j')=s:=by unfold stp at e;rw[if_pos p] at e;exact e.symm
      have z:=T.ff _ (iO T hs j');rw[e'] at z;exact z.symm
     have e2:wlk f g s 1=f s:=rfl;by_cases j0:j'=0
     ·subst j0;exact G.mv 0 (by omega) (by rw[e2,<- e1])
     ·exact ih j' (by omega) (by omega) 1 (by omega) (by rw[e2,e1])
    ·have e1:wlk f g s j'=s:=by
      have e':g (wlk f g s j')=s:=by unfold stp at e;rw[if_neg p] at e;exact e.symm
      have z:=T.gg _ (iO T hs j');rw[e',gs] at z;exact z.symm
     exact ih j' (by omega) (by omega) 0 (by omega) e1.symm
   ·exact hr (j'+1) (by omega) hj e.symm
  ·obtain⟨i',rfl⟩:∃ i',i=i'+1:=⟨i-1,by omega⟩
   by_cases p:i'%2=j'%2
   ·have e1:wlk f g s i'=wlk f g s j':=by
     rw[<- fm T hs i',<- fm T hs j',e];exact nB p _
    exact ih j' (by omega) (by omega) i' (by omega) e1
   ·have e1:wlk f g s (i'+2)=wlk f g s j':=by
     rw[<- fm T hs j',<- e];exact nB (by omega) _
    by_cases c:i'+2<j'
    ·exact ih j' (by omega) (by omega) (i'+2) c e1
    ·have c2:j'=i'+1:=by omega
     subst c2;exact G.mv (i'+1) (by omega) e.symm
noncomputable def ao (f g:Nat->Nat)(x y:Nat):Prop:=∀ S:Nat->Prop,S x->(∀ z,S z->S (f z)/\S (g z))->S y
theorem ao.refl (x:Nat):ao f g x x:=fun S h _=>h
theorem ao.trans {x y z:Nat}(h:ao f g x y)(k:ao f g y z):ao f g x z:=fun S hx hS=>k S (h S hx hS) hS
theorem ao.sf {x y:Nat}(h:ao f g x y):ao f g x (f y):=fun S hx hS=>(hS y (h S hx hS)).1
theorem ao.sg {x y:Nat}(h:ao f g x y):ao f g x (g y):=fun S hx hS=>(hS y (h S hx hS)).2
theorem ao.lt (T:Two N f g){x y:Nat}(hx:x<N)(h:ao f g x y):y<N:=h (· < N) hx fun z hz=>⟨T.fl z hz,T.gl z hz⟩
theorem ao.symm (T:Two N f g){x y:Nat}(hx:x<N)(h:ao f g x y):ao f g y x:=by
 have z:=h (fun z=>z<N/\ao f g z x) ⟨hx,ao.refl x⟩ fun z ⟨hz,hc⟩=>⟨⟨T.fl z hz,fun S a b=>hc S (by have:=(b _ a).1;rwa[T.ff z hz] at this) b⟩,T.gl z hz,fun S a b=>hc S (by have:=(b _ a).2;rwa[T.gg z hz] at this) b⟩
 exact z.2
theorem ao.swap {x y:Nat}(h:ao f g x y):ao g f x y:=fun S hx hS=>h S hx fun z hz=>⟨(hS z hz).2,(hS z hz).1⟩
theorem iD {x y:Nat}:ao g f x y↔ao f g x y:=⟨ao.swap,ao.swap⟩
theorem iE:∀ i,ao f g s (wlk f g s i)
 | 0=>ao.refl s
 | i+1=>by
  show ao f g s (stp f g i (wlk f g s i));unfold stp;split
  ·exact(iE i).sf
  ·exact(iE i).sg
noncomputable def aT (f g:Nat->Nat)(x:Nat):Prop:=∀ y,ao f g x y->f y≠y/\g y≠y
theorem aT.of (T:Two N f g){x y:Nat}(hx:x<N)(h:aT f g x)(c:ao f g x y):aT f g y:=fun z hz=>h z (c.trans hz)
noncomputable def dJ (f g:Nat->Nat)(s K:Nat):List Nat:=(Ig K).map (wlk f g s)
theorem cv (K:Nat):(dJ f g s K).length=K:=by unfold dJ;rw[HQ,Ij]
theorem zt {K i:Nat}(h:i<K):(dJ f g s K)[i]?=some (wlk f g s i):=by
 unfold dJ;rw[HX,JS h]
 rfl
theorem bE {K y:Nat}:y∈dJ f g s K↔∃ i,i<K/\wlk f g s i=y:=by
 unfold dJ;rw[HW];exact⟨fun ⟨i,h,e⟩=>⟨i,Ii.mp h,e⟩,fun ⟨i,h,e⟩=>⟨i,Ii.mpr h,e⟩⟩
theorem jF (K:Nat):dJ f g s (K+1)=dJ f g s K++[wlk f g s K]:=by
 unfold dJ;rw[JN,IS]
 rfl
structure Ends (f g:Nat->Nat) (s K:Nat):Prop where
 lY:Goes f g s K
 stop:wlk f g s (K+1)=wlk f g s K\/wlk f g s (K+1)=s
 ok:g s=s\/aT f g s
theorem eX (T:Two N f g)(hs:s<N){K:Nat}(G:Goes f g s K):(dJ f g s (K+1)).Nodup:=by
 unfold dJ;rw[Iu,IJ];refine J6.imp_of_mem fun {i j} _ hj hij=>?_
 exact apart T hs G j (by have:=Ii.mp hj;omega) i hij
theorem nC (T:Two N f g)(hs:s<N){K:Nat}(G:Goes f g s K):K<N:=by
 have nd:=eX T hs G;have sub:∀ y∈dJ f g s (K+1),y∈Ig N:=fun y hy=>by
  obtain⟨i,_,rfl⟩:=bE.mp hy;exact Ii.mpr (iO T hs i)
 have z:=sub_len nd sub;rw[cv,Ij] at z;omega
theorem Ends.ring (T:Two N f g)(hs:s<N){K:Nat}(E:Ends f g s K)(h:g s≠s):wlk f g s (K+1)=s/\K%2=1/\g s=wlk f g s K:=by
 have W:aT f g s:=E.ok.resolve_left h;have ns:wlk f g s (K+1)≠wlk f g s K:=fun z=>by
  have z:stp f g K (wlk f g s K)=wlk f g s K:=z;have w:=W _ (iE (s:=s) K);unfold stp at z
  split at z
  ·exact w.1 z
  ·exact w.2 z
 have rt:wlk f g s (K+1)=s:=E.stop.resolve_left ns;have od:K%2=1:=by
  refine Ia fun p=>?_
  have p:K%2=0:=by omega
  have e:f (wlk f g s K)=s:=by have z:stp f g K (wlk f g s K)=s:=rt;unfold stp at z;rw[if_pos p] at z;exact z
  have e1:wlk f g s K=f s:=by have z:=T.ff _ (iO T hs K);rw[e] at z;exact z.symm
  by_cases k0:K=0
  ·subst k0;exact ns (by rw[rt];rfl)
  ·exact apart T hs E.lY K (HV _) 1 (by omega) (by rw[e1];rfl)
 refine⟨rt,od,?_⟩;have e:g (wlk f g s K)=s:=by have z:stp f g K (wlk f g s K)=s:=rt;unfold stp at z;rw[if_neg (by omega)] at z;exact z
 have z:=T.gg _ (iO T hs K);rw[e] at z;exact z
theorem Ends.stuck (T:Two N f g)(hs:s<N){K:Nat}(E:Ends f g s K)(h:g s=s):wlk f g s (K+1)=wlk f g s K:=by
 rcases E.stop with z | z
 ·exact z
 ·refine Ia fun q=>?_
  have G:Goes f g s (K+1):=⟨fun i hi=>by
   by_cases c:i=K
   ·subst c;exact q
   ·exact E.lY.mv i (by omega),.inl h⟩
  exact apart T hs G (K+1) (HV _) 0 (by omega) z.symm
theorem Ends.mem (T:Two N f g)(hs:s<N){K:Nat}(E:Ends f g s K){y:Nat}:y∈dJ f g s (K+1)↔ao f g s y:=by
 constructor
 ·intro h;obtain⟨i,_,rfl⟩:=bE.mp h;exact iE i
 ·intro h;refine h (·∈dJ f g s (K+1)) (bE.mpr ⟨0,by omega,rfl⟩) fun z hz=>?_
  obtain⟨i,hi,rfl⟩:=bE.mp hz;have fw:stp f g i (wlk f g s i)∈dJ f g s (K+1):=by
   by_cases c:i<K
   ·exact bE.mpr ⟨i+1,by omega,rfl⟩
   ·have c:i=K:=by omega
    subst c;rcases E.stop with z | z
    ·exact bE.mpr ⟨i,by omega,z.symm⟩
    ·exact bE.mpr ⟨0,by omega,z.symm⟩
  have bw:(if i%2=0 then g (wlk f g s i) else f (wlk f g s i))∈dJ f g s (K+1):=by
   by_cases i0:i=0
   ·subst i0;show g s∈_;by_cases h:g s=s
    ·exact bE.mpr ⟨0,by omega,h.symm⟩
    ·exact bE.mpr ⟨K,by omega,(E.ring T hs h).2.2.symm⟩
   ·obtain⟨i',rfl⟩:∃ i',i=i'+1:=⟨i-1,by omega⟩
    refine bE.mpr ⟨i',by omega,?_⟩;rw[<- fm T hs i'];unfold stp;by_cases p:i'%2=0
    ·rw[if_pos p,if_neg (by omega)]
    ·rw[if_neg p,if_pos (by omega)]
  by_cases p:i%2=0
  ·unfold stp at fw;rw[if_pos p] at fw bw;exact⟨fw,bw⟩
  ·unfold stp at fw;rw[if_neg p] at fw bw;exact⟨bw,fw⟩
theorem Ends.loose (T:Two N f g)(hs:s<N){K:Nat}(E:Ends f g s K)(h:g s=s){i:Nat}(hi:i<=K) :
  (f (wlk f g s i)=wlk f g s i↔i=K/\K%2=0)/\(g (wlk f g s i)=wlk f g s i↔i=0\/(i=K/\K%2=1)):=by
 have st:=E.stuck T hs h;have fwd:stp f g i (wlk f g s i)=wlk f g s i↔i=K:=by
  constructor
  ·intro z;refine Ia fun c=>E.lY.mv i (by omega) z
  ·rintro rfl;exact st
 have bwd:0<i->(if i%2=0 then g (wlk f g s i) else f (wlk f g s i))≠wlk f g s i:=fun h0 z=>by
  obtain⟨i',rfl⟩:∃ i',i=i'+1:=⟨i-1,by omega⟩
  have z2:stp f g i' (wlk f g s (i'+1))=wlk f g s (i'+1):=by
   unfold stp;by_cases p:i'%2=0
   ·rw[if_neg (by omega)] at z;rw[if_pos p];exact z
   ·rw[if_pos (by omega)] at z;rw[if_neg p];exact z
  rw[fm T hs i'] at z2;exact E.lY.mv i' (by omega) z2.symm
 unfold stp at fwd;by_cases p:i%2=0
 ·rw[if_pos p] at fwd bwd;refine⟨⟨fun z=>⟨fwd.mp z,by have:=fwd.mp z;omega⟩,fun z=>fwd.mpr z.1⟩,⟨fun z=>?_,fun z=>?_⟩⟩
  ·by_cases i0:i=0
   ·exact .inl i0
   ·exact absurd z (bwd (by omega))
  ·rcases z with rfl | ⟨z1,z2⟩
   ·exact h
   ·omega
 ·rw[if_neg p] at fwd bwd;refine⟨⟨fun z=>absurd z (bwd (by omega)),fun z=>by omega⟩,⟨fun z=>.inr ⟨fwd.mp z,by have:=fwd.mp z;omega⟩,fun z=>?_⟩⟩;rcases z with rfl | ⟨z1,z2⟩
  ·omega
  ·exact fwd.mpr z1
theorem fe (T:Two N f g)(hs:s<N)(h:g s=s\/aT f g s):∃ K,Ends f g s K:=by
 refine Ia fun no=>?_
 have all:∀ k,Goes f g s k:=fun k=>by
  induction k with
  | zero=>exact⟨fun i hi=>absurd hi (JV _),by rcases h with h | h;exact .inl h;exact .inr fun j h1 h2=>by omega⟩
  | succ k ih =>
   have q:¬ (wlk f g s (k+1)=wlk f g s k\/wlk f g s (k+1)=s):=fun z=>no ⟨k,ih,z,h⟩
   refine⟨fun i hi=>?_,?_⟩
   ·by_cases c:i=k
    ·subst c;exact fun z=>q (.inl z)
    ·exact ih.mv i (by omega)
   ·rcases ih.rt with z | z
    ·exact .inl z
    ·refine .inr fun j h1 h2=>?_
     by_cases c:j=k+1
     ·subst c;exact fun z=>q (.inr z)
     ·exact z j h1 (by omega)
 have:=nC T hs (all N);omega
end
end Th

namespace Th
open Classical
theorem zu {P:Nat->Prop}:∀ n,P n->∃ m,P m/\∀ k,P k->m<=k:=fun n=>by
 induction n using LI with
 | _ n ih =>
  intro h;by_cases c:∃ k,k<n/\P k
  ·obtain⟨k,hk,hp⟩:=c;exact ih k hk hp
  ·exact⟨n,h,fun k hk=>LC fun z=>c ⟨k,z,hk⟩⟩
theorem eF {α β:Type}{l:List α}{φ:α->β}(nd:l.Nodup)(h:∀ x∈l,∀ y∈l,φ x=φ y->x=y):(l.map φ).Nodup:=by
 rw[Iu,IJ];exact(Iu.mp nd).imp_of_mem fun {x y} hx hy hne e=>hne (h x hx y hy e)
theorem kR {α β:Type}{l:List α}{m:List β}(φ:α->β)(nd:l.Nodup)(h:∀ x∈l,∀ y∈l,φ x=φ y->x=y)(hm:∀ x∈l,φ x∈m):l.length<=m.length:=by
 have z:=sub_len (eF nd h) (m:=m) fun y hy=>by
  obtain⟨x,hx,rfl⟩:=HW.mp hy;exact hm x hx
 rwa[HQ] at z
theorem kT:∀ (k:Nat) (l:List Nat) (φ:Nat->Nat),l.length<=k->l.Nodup->(∀ x∈l,φ x∈l/\φ (φ x)=x/\φ x≠x)->l.length%2=0
 | 0,l,φ,hk,_,_=>by omega
 | k+1,[],φ,hk,_,_=>rfl
 | k+1,x::r,φ,hk,nd,h=>by
  obtain⟨h1,h2⟩:=JI.mp nd;obtain⟨a1,a2,a3⟩:=h x Iq;have hy:φ x∈r:=by
   rcases IA.mp a1 with z | z
   ·exact absurd z a3
   ·exact z
  have z:=kT k (r.erase (φ x)) φ (by rw[Kf hy];rw[ID] at hk;omega) (h2.erase _) fun w hw=>by
   obtain⟨w1,w2⟩:=(List.Nodup.mem_erase_iff h2).mp hw;obtain⟨b1,b2,b3⟩:=h w (Im _ w2);refine⟨(List.Nodup.mem_erase_iff h2).mpr ⟨fun e=>?_,?_⟩,b2,b3⟩
   ·have:w=x:=by rw[<- b2,e,a2]
    exact h1 (this ▸ w2)
   ·rcases IA.mp b1 with e | e
    ·exact absurd (by rw[<- b2,e]) w1
    ·exact e
  rw[Kf hy] at z;have:0<r.length:=Kq hy;rw[ID];omega
theorem j9 {α:Type}(p:α->Bool):∀ l:List α,(l.filter p).length+(l.filter fun x=>!p x).length=l.length
 | []=>rfl
 | a::l=>by
  have ih:=j9 p l;by_cases c:p a=true
  ·rw[IH c,II (by simp[c]),ID,ID];omega
  ·rw[II c,IH (by simpa using c),ID,ID];omega
section
variable {N:Nat}{a b:Nat->Nat}
noncomputable def aX (a b:Nat->Nat)(m:Nat):Prop:=∀ y,ao a b m y->m<=y
noncomputable def gJ (a b:Nat->Nat)(m:Nat):Prop:=(∃ u,ao a b m u/\a u=u)/\∃ z,ao a b m z/\b z=z
noncomputable def OL (a b:Nat->Nat)(i:Nat):List Nat:=(Ig i).filter fun u=>decide (a u=u/\∃ z,ao a b u z/\b z=z)
noncomputable def RL (a b:Nat->Nat)(i:Nat):List Nat:=(Ig i).filter fun m=>decide (aX a b m/\aT a b m)
noncomputable def QL (a b:Nat->Nat)(i:Nat):List Nat:=(Ig i).filter fun m=>decide (aX a b m/\gJ a b m)
noncomputable def score (a b:Nat->Nat)(N:Nat):Nat:=2*(RL a b N).length+(OL a b N).length
theorem d9 {i u:Nat}:u∈OL a b i↔u<i/\a u=u/\∃ z,ao a b u z/\b z=z:=by unfold OL;rw[Ie,Ii,decide_eq_true_iff]
theorem bb {i u:Nat}:u∈RL a b i↔u<i/\aX a b u/\aT a b u:=by unfold RL;rw[Ie,Ii,decide_eq_true_iff]
theorem nX {i u:Nat}:u∈QL a b i↔u<i/\aX a b u/\gJ a b u:=by unfold QL;rw[Ie,Ii,decide_eq_true_iff]
theorem zv {i:Nat}:(OL a b i).Nodup:=Jg.filter _
theorem xf {i:Nat}:(RL a b i).Nodup:=Jg.filter _
theorem EE {i:Nat}:(QL a b i).Nodup:=Jg.filter _
theorem kU (T:Two N a b){u v z:Nat}(hu:u<N)(au:a u=u)(hv:ao a b u v)(av:a v=v)(hz:ao a b u z)(bz:b z=z):v=u:=by
 obtain⟨K,E⟩:=fe T.swap hu (.inl au);obtain⟨i,hi,rfl⟩:=bE.mp ((E.mem T.swap hu).mpr hz.swap);obtain⟨j,hj,rfl⟩:=bE.mp ((E.mem T.swap hu).mpr hv.swap);have q1:=(E.loose T.swap hu au (i:=i) (by omega)).1.mp bz;rcases(E.loose T.swap hu au (i:=j) (by omega)).2.mp av with e | e
 ·subst e;rfl
 ·omega
theorem jl (T:Two N a b){x:Nat}(hx:x<N):∃ m,ao a b x m/\m<N/\aX a b m:=by
 obtain⟨m,h1,h2⟩:=zu (P:=fun y=>ao a b x y) x (ao.refl x);exact⟨m,h1,h1.lt T hx,fun y hy=>h2 y (h1.trans hy)⟩
theorem EF (T:Two N a b):(OL a b N).length=(QL a b N).length:=by
 refine LJ ?_ ?_
 ·have ch:∀ x,∃ m,x<N->ao a b x m/\m<N/\aX a b m:=fun x=>by
   by_cases c:x<N
   ·obtain⟨m,h⟩:=jl T c;exact⟨m,fun _=>h⟩
   ·exact⟨0,fun z=>absurd z c⟩
  obtain⟨φ,hφ⟩:=KO ch;refine kR φ zv (fun x hx y hy e=>?_) fun x hx=>?_
  ·obtain⟨x1,x2,z,x3,x4⟩:=d9.mp hx;obtain⟨y1,y2,_⟩:=d9.mp hy;have c1:=(hφ x x1).1;have c2:=(hφ y y1).1;rw[<- e] at c2;exact(kU T x1 x2 (c1.trans (c2.symm T y1)) y2 x3 x4).symm
  ·obtain⟨x1,x2,z,x3,x4⟩:=d9.mp hx;obtain⟨c1,c2,c3⟩:=hφ x x1;have c4:=c1.symm T x1;exact nX.mpr ⟨c2,c3,⟨x,c4,x2⟩,z,c4.trans x3,x4⟩
 ·have ch:∀ m,∃ u,m∈QL a b N->ao a b m u/\a u=u:=fun m=>by
   by_cases c:m∈QL a b N
   ·obtain⟨_,_,⟨u,h1,h2⟩,_⟩:=nX.mp c;exact⟨u,fun _=>⟨h1,h2⟩⟩
   ·exact⟨0,fun z=>absurd z c⟩
  obtain⟨φ,hφ⟩:=KO ch;refine kR φ EE (fun x hx y hy e=>?_) fun x hx=>?_
  ·obtain⟨x1,x2,_⟩:=nX.mp hx;obtain⟨y1,y2,_⟩:=nX.mp hy;have c1:=(hφ x hx).1;have c2:=(hφ y hy).1;rw[<- e] at c2;have c:=c1.trans (c2.symm T y1);have:=x2 y c;have:=y2 x (c.symm T x1);omega
  ·obtain⟨x1,x2,_,z,x3,x4⟩:=nX.mp hx;obtain⟨c1,c2⟩:=hφ x hx;exact d9.mpr ⟨c1.lt T x1,c2,z,(c1.symm T x1).trans x3,x4⟩
theorem kX (T:Two N a b){u:Nat}(hu:u<N)(au:a u=u)(no:¬ ∃ z,ao a b u z/\b z=z):∃ v,v≠u/\ao a b u v/\a v=v/\∀ w,ao a b u w->a w=w->w=u\/w=v:=by
 obtain⟨K,E⟩:=fe T.swap hu (.inl au);have last:wlk b a u K∈dJ b a u (K+1):=bE.mpr ⟨K,by omega,rfl⟩;have od:K%2=1:=by
  refine Ia fun p=>no ⟨wlk b a u K,((E.mem T.swap hu).mp last).swap,(E.loose T.swap hu au (HV _)).1.mpr ⟨rfl,by omega⟩⟩
 refine⟨wlk b a u K,fun e=>?_,((E.mem T.swap hu).mp last).swap,(E.loose T.swap hu au (HV _)).2.mpr (.inr ⟨rfl,od⟩),fun w hw aw=>?_⟩
 ·exact apart T.swap hu E.lY K (HV _) 0 (by omega) e.symm
 ·obtain⟨i,hi,rfl⟩:=bE.mp ((E.mem T.swap hu).mpr hw.swap);rcases(E.loose T.swap hu au (i:=i) (by omega)).2.mp aw with e | e
  ·subst e;exact .inl rfl
  ·rw[e.1];exact .inr rfl
theorem A9 (T:Two N a b)(hN:N%2=0):(OL a b N).length%2=0:=by
 have e1:((Ig N).filter fun x=>!decide (a x=x)).length%2=0:=by
  refine kT N _ a (by have:=IP (fun x=>!decide (a x=x)) (Ig N);rwa[Ij] at this) (Jg.filter _) fun x hx=>?_
  rw[Ie,Ii] at hx;have ne:a x≠x:=by simpa using hx.2
  have ne2:a (a x)≠a x:=fun z=>ne (by rw[T.ff x hx.1] at z;exact z.symm)
  exact⟨Ie.mpr ⟨Ii.mpr (T.fl x hx.1),by simpa using ne2⟩,T.ff x hx.1,ne⟩
 have e2:=j9 (fun x=>decide (a x=x)) (Ig N);rw[Ij] at e2;have e3:=j9 (fun u=>decide (∃ z,ao a b u z/\b z=z)) ((Ig N).filter fun x=>decide (a x=x));have e4:((Ig N).filter fun x=>decide (a x=x)).filter (fun u=>decide (∃ z,ao a b u z/\b z=z))=OL a b N:=by
  unfold OL;rw[Lf];refine J2 fun x _=>?_
  rw[Jt,Iv,decide_eq_true_iff,decide_eq_true_iff,decide_eq_true_iff];exact⟨fun h=>⟨h.2,h.1⟩,fun h=>⟨h.2,h.1⟩⟩
 have e5:(((Ig N).filter fun x=>decide (a x=x)).filter (fun u=>!decide (∃ z,ao a b u z/\b z=z))).length%2=0:=by
  have ch:∀ u,∃ v,u<N->a u=u->(¬ ∃ z,ao a b u z/\b z=z)->v≠u/\ao a b u v/\a v=v/\∀ w,ao a b u w->a w=w->w=u\/w=v:=fun u=>by
   by_cases c:u<N/\a u=u/\¬ ∃ z,ao a b u z/\b z=z
   ·obtain⟨v,h⟩:=kX T c.1 c.2.1 c.2.2;exact⟨v,fun _ _ _=>h⟩
   ·exact⟨0,fun h1 h2 h3=>absurd ⟨h1,h2,h3⟩ c⟩
  obtain⟨φ,hφ⟩:=KO ch;have mem:∀ x,x∈((Ig N).filter fun x=>decide (a x=x)).filter (fun u=>!decide (∃ z,ao a b u z/\b z=z))↔x<N/\a x=x/\¬ ∃ z,ao a b x z/\b z=z:=fun x=>by
   rw[Ie,Ie,Ii,decide_eq_true_iff,Kx,decide_eq_false_iff_not,and_assoc]
  refine kT N _ φ ?_ ((Jg.filter _).filter _) fun x hx=>?_
  ·have z1:=IP (fun u=>!decide (∃ z,ao a b u z/\b z=z)) ((Ig N).filter fun x=>decide (a x=x));have z2:=IP (fun x=>decide (a x=x)) (Ig N);rw[Ij] at z2;omega
  ·obtain⟨x1,x2,x3⟩:=(mem x).mp hx;obtain⟨q1,q2,q3,q4⟩:=hφ x x1 x2 x3;have hv:=q2.lt T x1;have no:¬ ∃ z,ao a b (φ x) z/\b z=z:=fun ⟨z,z1,z2⟩=>x3 ⟨z,q2.trans z1,z2⟩
   refine⟨(mem _).mpr ⟨hv,q3,no⟩,?_,q1⟩;obtain⟨r1,r2,r3,r4⟩:=hφ (φ x) hv q3 no;rcases q4 _ (q2.trans r2) r3 with e | e
   ·exact e
   ·exact absurd e r1
 rw[e4] at e3;omega
theorem dj (T:Two N a b)(hN:N%2=0):score a b N%2=0:=by
 have:=A9 T hN;unfold score;omega
noncomputable def ML (a b:Nat->Nat)(N:Nat):List Nat:=OL a b N++(RL a b N++(RL a b N).map a)
theorem vz:(ML a b N).length=score a b N:=by unfold ML score;rw[HY,HY,HQ];omega
theorem tR (T:Two N a b):(ML a b N).Nodup:=by
 unfold ML;refine Jj.mpr ⟨zv,Jj.mpr ⟨xf,eF xf fun x hx y hy e=>?_,fun x hx y hy e=>?_⟩,fun x hx y hy e=>?_⟩
 ·have x1:=(bb.mp hx).1;have y1:=(bb.mp hy).1;rw[<- T.ff x x1,e,T.ff y y1]
 ·subst e;obtain⟨x1,x2,x3⟩:=bb.mp hx;obtain⟨m,hm,rfl⟩:=HW.mp hy;obtain⟨m1,m2,m3⟩:=bb.mp hm;have c:ao a b m (a m):=(ao.refl m).sf;have:=m2 _ c;have:=x2 m (c.symm T m1);exact(m3 m (ao.refl m)).1 (by omega)
 ·subst e;obtain⟨x1,x2,_⟩:=d9.mp hx;rcases Ic.mp hy with h | h
  ·exact((bb.mp h).2.2 x (ao.refl x)).1 x2
  ·obtain⟨m,hm,rfl⟩:=HW.mp h;exact((bb.mp hm).2.2 (a m) (ao.refl m).sf).1 x2
theorem B5 (T:Two N a b):∀ x∈ML a b N,x∈Ig N:=fun x hx=>by
 rw[Ii];rcases Ic.mp hx with h | h
 ·exact(d9.mp h).1
 ·rcases Ic.mp h with h | h
  ·exact(bb.mp h).1
  ·obtain⟨m,hm,rfl⟩:=HW.mp h;exact T.fl m (bb.mp hm).1
theorem dk (T:Two N a b):score a b N<=N:=by
 have z:=sub_len (tR T) (B5 T);rwa[vz,Ij] at z
theorem iP (T:Two N a b):score a b N=N↔∀ x,x<N->a x=b x:=by
 constructor
 ·intro h;have all:∀ x,x<N->x∈ML a b N:=fun x hx=>Ia fun no=>by
   have z:=sub_len (tR T) (m:=(Ig N).erase x) fun y hy=>(LW (fun e=>no (by rw[<- e];exact hy))).mpr (B5 T y hy)
   rw[vz,h,Kf (Ii.mpr hx),Ij] at z;omega
  have loose:∀ x,x<N->a x=x->b x=x:=fun x hx ax=>by
   have hO:∀ y,y<N->a y=y->y∈OL a b N:=fun y hy ay=>by
    rcases Ic.mp (all y hy) with h | h
    ·exact h
    ·rcases Ic.mp h with h | h
     ·exact absurd ay ((bb.mp h).2.2 y (ao.refl y)).1
     ·obtain⟨m,hm,rfl⟩:=HW.mp h;exact absurd ay ((bb.mp hm).2.2 (a m) (ao.refl m).sf).1
   obtain⟨_,_,z,z1,z2⟩:=d9.mp (hO x hx ax);have hb:=T.gl x hx;have cb:ao a b x (b x):=(ao.refl x).sg;rcases Ic.mp (all (b x) hb) with h | h
   ·exact kU T hx ax cb (d9.mp h).2.1 z1 z2
   ·exfalso;have wh:aT a b (b x):=by
     rcases Ic.mp h with h | h
     ·exact(bb.mp h).2.2
     ·obtain⟨m,hm,e⟩:=HW.mp h;rw[<- e];exact(bb.mp hm).2.2.of T (bb.mp hm).1 (ao.refl m).sf
    exact(wh x (cb.symm T hx)).1 ax
  intro x hx;by_cases ax:a x=x
  ·rw[ax,loose x hx ax]
  ·have pair:∀ m,m∈RL a b N->b m=a m:=fun m hm=>by
    obtain⟨m1,m2,m3⟩:=bb.mp hm;have cb:ao a b m (b m):=(ao.refl m).sg;rcases Ic.mp (all (b m) (T.gl m m1)) with h | h
    ·exact absurd (d9.mp h).2.1 (m3 _ cb).1
    ·rcases Ic.mp h with h | h
     ·obtain⟨q1,q2,_⟩:=bb.mp h;have:=m2 _ cb;have:=q2 m (cb.symm T m1);exact absurd (show b m=m by omega) (m3 m (ao.refl m)).2
     ·obtain⟨m',hm',e⟩:=HW.mp h;obtain⟨q1,q2,_⟩:=bb.mp hm';have c:ao a b m m':=by
       have z:ao a b m (a m'):=e ▸ cb;have z2:=z.sf;rwa[T.ff m' q1] at z2
      have:=m2 _ c;have:=q2 m (c.symm T m1);have e2:m'=m:=by omega
      rw[<- e,e2]
   rcases Ic.mp (all x hx) with h | h
   ·exact absurd (d9.mp h).2.1 ax
   ·rcases Ic.mp h with h | h
    ·exact(pair x h).symm
    ·obtain⟨m,hm,rfl⟩:=HW.mp h;have m1:=(bb.mp hm).1;have e:=pair m hm;rw[T.ff m m1,<- e,T.gg m m1]
 ·intro h;refine LJ (dk T) ?_;have z:=sub_len (l:=Ig N) (m:=ML a b N) Jg fun x hx=>?_
  ·rwa[vz,Ij] at z
  have hx:=Ii.mp hx;by_cases ax:a x=x
  ·exact IW _ (d9.mpr ⟨hx,ax,x,ao.refl x,by rw[<- h x hx];exact ax⟩)
  ·have cl:∀ y,y<N->∀ z,ao a b y z->z=y\/z=a y:=fun y hy z hc=>hc (fun z=>z=y\/z=a y) (.inl rfl) fun w hw=>by
    rcases hw with rfl | rfl
    ·exact⟨.inr rfl,.inr (h w hy).symm⟩
    ·refine⟨.inl (T.ff y hy),.inl ?_⟩;rw[<- h _ (T.fl y hy),T.ff y hy]
   have wh:∀ y,y<N->a y≠y->aT a b y:=fun y hy ne z hc=>by
    rcases cl y hy z hc with rfl | rfl
    ·exact⟨ne,by rw[<- h z hy];exact ne⟩
    ·have n2:a (a y)≠a y:=by rw[T.ff y hy];exact Ne.symm ne
     exact⟨n2,by rw[<- h _ (T.fl y hy)];exact n2⟩
   have al:=T.fl x hx;have ne2:a (a x)≠a x:=by rw[T.ff x hx];exact Ne.symm ax
   refine Ip _ ?_;by_cases c:x<a x
   ·refine IW _ (bb.mpr ⟨hx,fun y hy=>?_,wh x hx ax⟩);rcases cl x hx y hy with rfl | rfl <;> omega
   ·refine Ip _ (HW.mpr ⟨a x,bb.mpr ⟨al,fun y hy=>?_,wh _ al ne2⟩,T.ff x hx⟩);rcases cl _ al y hy with rfl | rfl
    ·omega
    ·rw[T.ff x hx];omega
structure bG (a b:Nat->Nat) (x:Nat) (L:List Nat):Prop where
 nd:L.Nodup
 mem:∀ y,y∈L↔ao a b x y
theorem jm {x:Nat}{L M:List Nat}(h:bG a b x L)(k:bG a b x M):L.length=M.length :=
 LJ (sub_len h.nd fun y hy=>(k.mem y).mpr ((h.mem y).mp hy)) (sub_len k.nd fun y hy=>(h.mem y).mpr ((k.mem y).mp hy))
theorem vA (T:Two N a b){x:Nat}(hx:x<N){L:List Nat}(h:bG a b x L)(w:aT a b x):L.length%2=0:=by
 refine kT L.length L a (HV _) h.nd fun y hy=>?_
 have hc:=(h.mem y).mp hy;exact⟨(h.mem _).mpr hc.sf,T.ff y (hc.lt T hx),(w y hc).1⟩
theorem jn (T:Two N a b){x:Nat}(hx:x<N){L:List Nat}(h:bG a b x L):L.length%2=1↔gJ a b x:=by
 have B6:∀ u,ao a b x u->a u=u->(L.length%2=1↔∃ z,ao a b x z/\b z=z):=fun u hu au=>by
  have hul:=hu.lt T hx;obtain⟨K,E⟩:=fe T.swap hul (.inl au);have C:bG a b x (dJ b a u (K+1)):=⟨eX T.swap hul E.lY,fun y=>by
   rw[E.mem T.swap hul,iD];exact⟨fun z=>hu.trans z,fun z=>(hu.symm T hx).trans z⟩⟩
  rw[jm h C,cv];constructor
  ·intro p;exact⟨wlk b a u K,(C.mem _).mp (bE.mpr ⟨K,by omega,rfl⟩),(E.loose T.swap hul au (HV _)).1.mpr ⟨rfl,by omega⟩⟩
  ·rintro⟨z,z1,z2⟩;obtain⟨i,hi,rfl⟩:=bE.mp ((C.mem z).mpr z1);have:=(E.loose T.swap hul au (i:=i) (by omega)).1.mp z2;omega
 constructor
 ·intro p;by_cases cA:∃ u,ao a b x u/\a u=u
  ·obtain⟨u,hu,au⟩:=cA;exact⟨⟨u,hu,au⟩,(B6 u hu au).mp p⟩
  ·exfalso;by_cases cB:∃ z,ao a b x z/\b z=z
   ·obtain⟨u,hu,bu⟩:=cB;have hul:=hu.lt T hx;obtain⟨K,E⟩:=fe T hul (.inl bu);have C:bG a b x (dJ a b u (K+1)):=⟨eX T hul E.lY,fun y=>by
     rw[E.mem T hul];exact⟨fun z=>hu.trans z,fun z=>(hu.symm T hx).trans z⟩⟩
    rw[jm h C,cv] at p;exact cA ⟨wlk a b u K,(C.mem _).mp (bE.mpr ⟨K,by omega,rfl⟩),(E.loose T hul bu (HV _)).1.mpr ⟨rfl,by omega⟩⟩
   ·have w:aT a b x:=fun y hy=>⟨fun z=>cA ⟨y,hy,z⟩,fun z=>cB ⟨y,hy,z⟩⟩
    have:=vA T hx h w;omega
 ·rintro⟨⟨u,hu,au⟩,hz⟩;exact(B6 u hu au).mpr hz
noncomputable def bY (a b:Nat->Nat)(i:Nat):Nat:=2*(RL a b i).length+(QL a b i).length
theorem tS (T:Two N a b):bY a b N=score a b N:=by unfold bY score;rw[EF T]
theorem gj (i:Nat):bY a b (i+1)=bY a b i+(if aX a b i/\aT a b i then 2 else 0)+(if aX a b i/\gJ a b i then 1 else 0):=by
 unfold bY RL QL;rw[JN,IE,IE,HY,HY];have e1:([i].filter fun m=>decide (aX a b m/\aT a b m)).length=if aX a b i/\aT a b i then 1 else 0:=by
  by_cases c:aX a b i/\aT a b i
  ·rw[if_pos c,IH (by simpa using c)];rfl
  ·rw[if_neg c,II (by simpa using c)];rfl
 have e2:([i].filter fun m=>decide (aX a b m/\gJ a b m)).length=if aX a b i/\gJ a b i then 1 else 0:=by
  by_cases c:aX a b i/\gJ a b i
  ·rw[if_pos c,IH (by simpa using c)];rfl
  ·rw[if_neg c,II (by simpa using c)];rfl
 rw[e1,e2];by_cases c:aX a b i/\aT a b i
 ·rw[if_pos c,if_pos c];omega
 ·rw[if_neg c,if_neg c];omega
end
end Th

namespace Th
open Classical
section
variable {N:Nat}{f g:Nat->Nat}{s:Nat}
theorem ye (T:Two N f g)(hs:s<N){K K':Nat}(E:Ends f g s K)(E':Ends f g s K'):K=K':=by
 have z:=jm (a:=f) (b:=g) (x:=s) ⟨eX T hs E.lY,fun y=>E.mem T hs⟩ ⟨eX T hs E'.lY,fun y=>E'.mem T hs⟩;rw[cv,cv] at z;omega
noncomputable def thr (f g:Nat->Nat)(s:Nat):List Nat:=if h:∃ K,Ends f g s K then dJ f g s (MG h+1) else []
theorem iQ (T:Two N f g)(hs:s<N){K:Nat}(E:Ends f g s K):thr f g s=dJ f g s (K+1):=by
 have h:∃ K,Ends f g s K:=⟨K,E⟩
 unfold thr;rw[dif_pos h,ye T hs (Ka h) E]
theorem ba (T:Two N f g)(hs:s<N)(h:g s=s\/aT f g s):bG f g s (thr f g s):=by
 obtain⟨K,E⟩:=fe T hs h;rw[iQ T hs E];exact⟨eX T hs E.lY,fun y=>E.mem T hs⟩
theorem kY (T:Two N f g)(hs:s<N)(h:g s=s\/aT f g s):0<(thr f g s).length/\(thr f g s).length<=N:=by
 obtain⟨K,E⟩:=fe T hs h;rw[iQ T hs E,cv];have:=nC T hs E.lY;omega
end
section
variable {N:Nat}{a b:Nat->Nat}
inductive Kd | ring | odd | bare | tied
deriving DecidableEq
noncomputable def bC (L:List Nat):Nat:=L.getLastD 0
theorem dR {f g:Nat->Nat}{s:Nat}(T:Two N f g)(hs:s<N)(gs:g s=s)(ev:(thr f g s).length%2=0) :
  bC (thr f g s)≠s/\ao f g s (bC (thr f g s))/\g (bC (thr f g s))=bC (thr f g s)/\(∀ w,ao f g s w->g w=w->w=s\/w=bC (thr f g s))/\∀ w,ao f g s w->f w≠w:=by
 obtain⟨K,E⟩:=fe T hs (.inl gs);rw[iQ T hs E,cv] at ev;have el:bC (thr f g s)=wlk f g s K:=by
  rw[iQ T hs E,jF];unfold bC;rw[LX]
 rw[el];have ld:=fun i (hi:i<=K)=>E.loose T hs gs hi
 refine⟨fun e=>?_,iE K,(ld K (HV _)).2.mpr (.inr ⟨rfl,by omega⟩),fun w hw gw=>?_,fun w hw fw=>?_⟩
 ·exact apart T hs E.lY K (HV _) 0 (by omega) e.symm
 ·obtain⟨i,hi,rfl⟩:=bE.mp ((E.mem T hs).mpr hw);rcases(ld i (by omega)).2.mp gw with e | e
  ·subst e;exact .inl rfl
  ·rw[e.1];exact .inr rfl
 ·obtain⟨i,hi,rfl⟩:=bE.mp ((E.mem T hs).mpr hw);have:=(ld i (by omega)).1.mp fw;omega
theorem kZ {f g:Nat->Nat}{s:Nat}(T:Two N f g)(hs:s<N)(gs:g s=s):(thr f g s).length%2=1↔∃ z,ao f g s z/\f z=z:=by
 have z:=jn T hs (ba T hs (.inl gs));rw[z];exact⟨fun h=>h.1,fun h=>⟨h,s,ao.refl s,gs⟩⟩
noncomputable def pA (a b:Nat->Nat)(u:Nat):Prop:=(thr b a u).length%2=1\/u<bC (thr b a u)
noncomputable def eA (a b:Nat->Nat)(u:Nat):Kd×List Nat:=(if (thr b a u).length%2=1 then .odd else .bare,thr b a u)
noncomputable def pB (a b:Nat->Nat)(z:Nat):Prop:=(thr a b z).length%2=0/\z<bC (thr a b z)
noncomputable def eB (a b:Nat->Nat)(z:Nat):Kd×List Nat:=(.tied,thr a b z)
noncomputable def lsL (N:Nat)(a:Nat->Nat):List Nat:=(Ig N).filter fun e=>e == a e
theorem cL {u:Nat}:u∈lsL N a↔u<N/\a u=u:=by
 unfold lsL;rw[Ie,Ii,beq_iff_eq];exact⟨fun h=>⟨h.1,h.2.symm⟩,fun h=>⟨h.1,h.2.symm⟩⟩
theorem B7:(lsL N a).Nodup:=Jg.filter _
noncomputable def gZ (N:Nat)(a b:Nat->Nat)(us:List Nat):List (Kd×List Nat):=(us.filter fun u=>decide (pA a b u)).map (eA a b)
noncomputable def jb (N:Nat)(a b:Nat->Nat)(zs:List Nat):List (Kd×List Nat):=(zs.filter fun z=>decide (pB a b z)).map (eB a b)
noncomputable def gK (N:Nat)(a b:Nat->Nat):List (Kd×List Nat):=gZ N a b (lsL N a)++jb N a b (lsL N b)
noncomputable def de (a b:Nat->Nat)(i:Nat):List (Kd×List Nat):=(RL a b i).map fun m=>(Kd.ring,thr a b m)
noncomputable def unL (N:Nat)(a b:Nat->Nat):List (Kd×List Nat):=gK N a b++de a b N
theorem nY (us:List Nat)(u:Nat):gZ N a b (us++[u])=gZ N a b us++(if pA a b u then [eA a b u] else []):=by
 unfold gZ;rw[IE,IS];congr 1;by_cases c:pA a b u
 ·rw[if_pos c,IH (by simpa using c)];rfl
 ·rw[if_neg c,II (by simpa using c)];rfl
theorem nZ (us:List Nat)(u:Nat):jb N a b (us++[u])=jb N a b us++(if pB a b u then [eB a b u] else []):=by
 unfold jb;rw[IE,IS];congr 1;by_cases c:pB a b u
 ·rw[if_pos c,IH (by simpa using c)];rfl
 ·rw[if_neg c,II (by simpa using c)];rfl
theorem lZ (us:List Nat):(gZ N a b us).length<=us.length:=by unfold gZ;rw[HQ];exact IP _ _
theorem qc (us:List Nat):(jb N a b us).length<=us.length:=by unfold jb;rw[HQ];exact IP _ _
theorem n0 {L:List Nat}(h:0<L.length):L.getLast?=some (bC L):=by
 unfold bC;cases L with
 | nil=>exact absurd h (JK _)
 | cons x r=>rw[List.getLastD_eq_getLast?,List.getLast?_cons];rfl
theorem l6 (T:Two N a b){th:Kd×List Nat}(h:th∈gK N a b):∃ u,u<N/\¬ aT a b u/\bG a b u th.2:=by
 unfold gK gZ jb at h;rcases Ic.mp h with h | h
 ·obtain⟨u,hu,rfl⟩:=HW.mp h;obtain⟨u1,u2⟩:=cL.mp (Ie.mp hu).1;have C:=ba T.swap u1 (.inl u2);exact⟨u,u1,fun w=>(w u (ao.refl u)).1 u2,C.nd,fun y=>by rw[<- iD];exact C.mem y⟩
 ·obtain⟨u,hu,rfl⟩:=HW.mp h;obtain⟨u1,u2⟩:=cL.mp (Ie.mp hu).1;exact⟨u,u1,fun w=>(w u (ao.refl u)).2 u2,ba T u1 (.inl u2)⟩
theorem l7 (T:Two N a b){x:Nat}(hx:x<N):(∃ th∈gK N a b,x∈th.2)↔¬ aT a b x:=by
 constructor
 ·rintro⟨th,h1,h2⟩ w;obtain⟨u,u1,u2,C⟩:=l6 T h1;exact u2 (w.of T hx (((C.mem x).mp h2).symm T u1))
 ·intro nw;have side:∀ u,u<N->a u=u->ao a b u x->∃ th∈gK N a b,x∈th.2:=fun u hu au hc=>by
   have inA:∀ v,v<N->a v=v->pA a b v->ao a b v x->∃ th∈gK N a b,x∈th.2:=fun v hv av pv hcv=>by
    refine⟨eA a b v,IW _ (HW.mpr ⟨v,Ie.mpr ⟨cL.mpr ⟨hv,av⟩,decide_eq_true pv⟩,rfl⟩),?_⟩;exact((ba T.swap hv (.inl av)).mem x).mpr hcv.swap
   by_cases p:pA a b u
   ·exact inA u hu au p hc
   ·have p1:¬ (thr b a u).length%2=1:=fun z=>p (.inl z)
    have p2:¬ u<bC (thr b a u):=fun z=>p (.inr z)
    obtain⟨l1,l2,l3,l4,l5⟩:=dR T.swap hu au (by omega);have lv:=l2.swap.lt T hu;refine inA _ lv l3 ?_ ((l2.swap.symm T hu).trans hc);by_cases q:(thr b a (bC (thr b a u))).length%2=1
    ·exact .inl q
    ·refine .inr ?_;obtain⟨m1,m2,m3,m4,m5⟩:=dR T.swap lv l3 (by omega);rcases l4 _ (l2.trans m2) m3 with e | e
     ·rw[e];omega
     ·exact absurd e m1
  by_cases cA:∃ u,ao a b x u/\a u=u
  ·obtain⟨u,hu,au⟩:=cA;exact side u (hu.lt T hx) au (hu.symm T hx)
  ·have cB:∃ z,ao a b x z/\b z=z:=Ia fun no=>nw fun y hy=>⟨fun e=>cA ⟨y,hy,e⟩,fun e=>no ⟨y,hy,e⟩⟩
   obtain⟨z,hz,bz⟩:=cB;have hzl:=hz.lt T hx;have ev:∀ v,v<N->ao a b x v->b v=v->(thr a b v).length%2=0:=fun v hv hc bv=>by
    have:=(kZ T hv bv)
    by_cases q:(thr a b v).length%2=1
    ·obtain⟨w,w1,w2⟩:=this.mp q;exact absurd ⟨w,hc.trans w1,w2⟩ cA
    ·omega
   have inB:∀ v,v<N->b v=v->pB a b v->ao a b v x->∃ th∈gK N a b,x∈th.2:=fun v hv bv pv hcv=>by
    refine⟨eB a b v,Ip _ (HW.mpr ⟨v,Ie.mpr ⟨cL.mpr ⟨hv,bv⟩,decide_eq_true pv⟩,rfl⟩),?_⟩;exact((ba T hv (.inl bv)).mem x).mpr hcv
   have e1:=ev z hzl hz bz;obtain⟨l1,l2,l3,l4,l5⟩:=dR T hzl bz e1;have lv:=l2.lt T hzl;by_cases p:z<bC (thr a b z)
   ·exact inB z hzl bz ⟨e1,p⟩ (hz.symm T hx)
   ·have e2:=ev _ lv (hz.trans l2) l3;obtain⟨m1,m2,m3,m4,m5⟩:=dR T lv l3 e2;refine inB _ lv l3 ⟨e2,?_⟩ ((hz.trans l2).symm T hx);rcases l4 _ (l2.trans m2) m3 with e | e
    ·rw[e];omega
    ·exact absurd e m1
theorem yf (T:Two N a b){i:Nat}(hi:i<N):(aX a b i/\aT a b i)↔¬ (¬ aT a b i\/∃ th∈de a b i,i∈th.2):=by
 have rm:(∃ th∈de a b i,i∈th.2)↔∃ m,m<i/\aX a b m/\aT a b m/\ao a b m i:=by
  unfold de;constructor
  ·rintro⟨th,h1,h2⟩;obtain⟨m,hm,rfl⟩:=HW.mp h1;obtain⟨m1,m2,m3⟩:=bb.mp hm;exact⟨m,m1,m2,m3,((ba T (by omega) (.inr m3)).mem i).mp h2⟩
  ·rintro⟨m,m1,m2,m3,m4⟩;exact⟨_,HW.mpr ⟨m,bb.mpr ⟨m1,m2,m3⟩,rfl⟩,((ba T (by omega) (.inr m3)).mem i).mpr m4⟩
 rw[rm];constructor
 ·rintro⟨h1,h2⟩ h;rcases h with h | ⟨m,m1,m2,m3,m4⟩
  ·exact h h2
  ·have:=h1 m (m4.symm T (by omega));omega
 ·intro h;have w:aT a b i:=Ia fun z=>h (.inl z)
  refine⟨fun y hy=>Ia fun z=>?_,w⟩;obtain⟨m,c1,c2,c3⟩:=jl T hi;have:=c3 y ((c1.symm T hi).trans hy);exact h (.inr ⟨m,by omega,c3,w.of T hi c1,c1.symm T hi⟩)
theorem gk (i:Nat):de a b (i+1)=de a b i++(if aX a b i/\aT a b i then [(Kd.ring,thr a b i)] else []):=by
 unfold de RL;rw[JN,IE,IS];congr 1;by_cases c:aX a b i/\aT a b i
 ·rw[if_pos c,IH (by simpa using c)];rfl
 ·rw[if_neg c,II (by simpa using c)];rfl
theorem tT (i:Nat):(de a b i).length<=i:=by
 unfold de RL;rw[HQ];have z:=IP (fun m=>decide (aX a b m/\aT a b m)) (Ig i);rwa[Ij] at z
theorem pE {i:Nat}(h:¬ aX a b i):bY a b (i+1)=bY a b i:=by rw[gj,if_neg (fun z=>h z.1),if_neg (fun z=>h z.1)];omega
theorem qd {i:Nat}(h:gJ a b i):¬ aT a b i:=fun w=>let ⟨⟨u,h1,h2⟩,_⟩:=h;(w u h1).1 h2
theorem tU {i:Nat}(h:aX a b i)(o:gJ a b i):bY a b (i+1)=bY a b i+1:=by rw[gj,if_neg (fun z=>qd o z.2),if_pos ⟨h,o⟩]
theorem rg {i:Nat}(h:aX a b i)(w:aT a b i):bY a b (i+1)=bY a b i+2:=by rw[gj,if_pos ⟨h,w⟩,if_neg (fun z=>qd z.2 w)]
theorem rh {i:Nat}(w:¬ aT a b i)(o:¬ gJ a b i):bY a b (i+1)=bY a b i:=by rw[gj,if_neg (fun z=>w z.2),if_neg (fun z=>o z.2)];omega
noncomputable def mn (L:List Nat):Nat:=L.foldl min (L.headD 0)
theorem xg:∀ (L:List Nat) (k:Nat),L.foldl min k<=k/\(∀ x∈L,L.foldl min k<=x)/\(L.foldl min k=k\/L.foldl min k∈L)
 | [],k=>⟨HV _,fun x hx=>absurd hx JP,.inl rfl⟩
 | y::r,k=>by
  obtain⟨h1,h2,h3⟩:=xg r (min k y);rw[LK];refine⟨by omega,fun x hx=>?_,?_⟩
  ·rcases IA.mp hx with rfl | hx
   ·omega
   ·exact h2 x hx
  ·rcases h3 with e | e
   ·by_cases c:k<=y
    ·exact .inl (by rw[e];omega)
    ·have:min k y=y:=by omega
     exact .inr (by rw[e,this];exact Iq)
   ·exact .inr (Im _ e)
theorem fg {x:Nat}{L:List Nat}(C:bG a b x L):ao a b x (mn L)/\∀ y,ao a b x y->mn L<=y:=by
 obtain⟨h1,h2,h3⟩:=xg L (L.headD 0);have hx:=(C.mem x).mpr (ao.refl x);have hd:L.headD 0∈L:=by
  cases L with
  | nil=>cases hx
  | cons z r=>exact Iq
 refine⟨(C.mem _).mp ?_,fun y hy=>h2 y ((C.mem y).mpr hy)⟩;rcases h3 with e | e
 ·unfold mn;rw[e];exact hd
 ·exact e
theorem oa (T:Two N a b){x y:Nat}{L M:List Nat}(hx:x<N)(hy:y<N)(C:bG a b x L)(D:bG a b y M)(e:mn L=mn M):ao a b x y:=by
 have h1:=(fg C).1;rw[e] at h1;exact h1.trans ((fg D).1.symm T hy)
theorem keys_nodup (T:Two N a b):((unL N a b).map fun th=>mn th.2).Nodup:=by
 have cA:∀ u,u∈lsL N a->bG a b u (thr b a u):=fun u hu=>by
  obtain⟨u1,u2⟩:=cL.mp hu;have C:=ba T.swap u1 (.inl u2);exact⟨C.nd,fun y=>by rw[<- iD];exact C.mem y⟩
 have cB:∀ u,u∈lsL N b->bG a b u (thr a b u):=fun u hu=>by
  obtain⟨u1,u2⟩:=cL.mp hu;exact ba T u1 (.inl u2)
 unfold unL gK gZ jb de;rw[IS,IS,Jf,Jf,Jf];refine Jj.mpr ⟨Jj.mpr ⟨eF (B7.filter _) fun x hx y hy e=>?_,eF (B7.filter _) fun x hx y hy e=>?_,?_⟩,eF xf fun x hx y hy e=>?_,?_⟩
 ·obtain⟨x1,x2⟩:=Ie.mp hx;obtain⟨y1,y2⟩:=Ie.mp hy;obtain⟨xl,ax⟩:=cL.mp x1;obtain⟨yl,ay⟩:=cL.mp y1;have c:=oa T xl yl (cA x x1) (cA y y1) e;have px:pA a b x:=of_decide_eq_true x2;have py:pA a b y:=of_decide_eq_true y2;by_cases o:(thr b a x).length%2=1
  ·obtain⟨z,z1,z2⟩:=(kZ T.swap xl ax).mp o;exact(kU T xl ax c ay z1.swap z2).symm
  ·obtain⟨l1,l2,l3,l4,l5⟩:=dR T.swap xl ax (by omega);rcases l4 y c.swap ay with e | e
   ·exact e.symm
   ·exfalso;have o2:¬ (thr b a y).length%2=1:=fun o2=>by
     obtain⟨z,z1,z2⟩:=(kZ T.swap yl ay).mp o2;exact l5 z (c.swap.trans z1) z2
    obtain⟨m1,m2,m3,m4,m5⟩:=dR T.swap yl ay (by omega);have q1:x<bC (thr b a x):=px.resolve_left o;have q2:y<bC (thr b a y):=py.resolve_left o2;rcases l4 _ (c.swap.trans m2) m3 with w | w
    ·omega
    ·exact m1 (by omega)
 ·obtain⟨x1,x2⟩:=Ie.mp hx;obtain⟨y1,y2⟩:=Ie.mp hy;obtain⟨xl,ax⟩:=cL.mp x1;obtain⟨yl,ay⟩:=cL.mp y1;have c:=oa T xl yl (cB x x1) (cB y y1) e;obtain⟨px1,px2⟩:pB a b x:=of_decide_eq_true x2;obtain⟨py1,py2⟩:pB a b y:=of_decide_eq_true y2;obtain⟨l1,l2,l3,l4,l5⟩:=dR T xl ax px1;obtain⟨m1,m2,m3,m4,m5⟩:=dR T yl ay py1;rcases l4 y c ay with e | e
  ·exact e.symm
  ·rcases l4 _ (c.trans m2) m3 with w | w
   ·omega
   ·exact absurd (show bC (thr a b y)=y by omega) m1
 ·intro p hp q hq e;obtain⟨x,hx,rfl⟩:=HW.mp hp;obtain⟨y,hy,rfl⟩:=HW.mp hq;obtain⟨x1,x2⟩:=Ie.mp hx;obtain⟨y1,y2⟩:=Ie.mp hy;obtain⟨xl,ax⟩:=cL.mp x1;obtain⟨yl,ay⟩:=cL.mp y1;have c:=oa T xl yl (cA x x1) (cB y y1) e;obtain⟨py1,py2⟩:pB a b y:=of_decide_eq_true y2;obtain⟨m1,m2,m3,m4,m5⟩:=dR T yl ay py1;exact m5 x (c.symm T xl) ax
 ·obtain⟨x1,x2,x3⟩:=bb.mp hx;obtain⟨y1,y2,y3⟩:=bb.mp hy;have c:=oa T x1 y1 (ba T x1 (.inr x3)) (ba T y1 (.inr y3)) e;have:=x2 y c;have:=y2 x (c.symm T x1);omega
 ·intro p hp q hq e;obtain⟨y,hy,rfl⟩:=HW.mp hq;obtain⟨y1,y2,y3⟩:=bb.mp hy;have key:∃ x,x<N/\¬ aT a b x/\∃ L,bG a b x L/\p=mn L:=by
   rcases Ic.mp hp with h | h
   ·obtain⟨x,hx,rfl⟩:=HW.mp h;have x1:=(Ie.mp hx).1;obtain⟨xl,ax⟩:=cL.mp x1;exact⟨x,xl,fun w=>(w x (ao.refl x)).1 ax,_,cA x x1,rfl⟩
   ·obtain⟨x,hx,rfl⟩:=HW.mp h;have x1:=(Ie.mp hx).1;obtain⟨xl,ax⟩:=cL.mp x1;exact⟨x,xl,fun w=>(w x (ao.refl x)).2 ax,_,cB x x1,rfl⟩
  obtain⟨x,xl,nw,L,C,rfl⟩:=key;exact nw (y3.of T y1 ((oa T xl y1 C (ba T y1 (.inr y3)) e).symm T xl))
theorem jG (T:Two N a b){th:Kd×List Nat}(h:th∈unL N a b):∃ u,u<N/\bG a b u th.2:=by
 rcases Ic.mp h with h | h
 ·obtain⟨u,h1,_,h2⟩:=l6 T h;exact⟨u,h1,h2⟩
 ·obtain⟨m,hm,rfl⟩:=HW.mp h;obtain⟨m1,m2,m3⟩:=bb.mp hm;exact⟨m,m1,ba T m1 (.inr m3)⟩
theorem zw (T:Two N a b):(unL N a b).length<=N:=by
 have z:=sub_len (keys_nodup T) (m:=Ig N) fun x hx=>by
  obtain⟨th,h,rfl⟩:=HW.mp hx;obtain⟨u,hu,C⟩:=jG T h;exact Ii.mpr ((fg C).1.lt T hu)
 rwa[HQ,Ij] at z
theorem C2 (T:Two N a b):((unL N a b).filter fun th=>th.1=.odd).length=(OL a b N).length:=by
 unfold unL gK gZ jb de;rw[IE,IE,Kt,Kt,Kt,HY,HY,HQ,HQ,HQ];have e1:(((lsL N b).filter fun z=>decide (pB a b z)).filter ((fun th:Kd×List Nat=>decide (th.1=.odd)) ∘ eB a b))=[]:=JG.mpr fun x _=>by simp[eB]
 have e2:((RL a b N).filter ((fun th:Kd×List Nat=>decide (th.1=.odd)) ∘ fun m=>(Kd.ring,thr a b m)))=[]:=JG.mpr fun x _=>by simp
 rw[e1,e2];have e3:(((lsL N a).filter fun u=>decide (pA a b u)).filter ((fun th:Kd×List Nat=>decide (th.1=.odd)) ∘ eA a b))=OL a b N:=by
  unfold OL lsL;rw[Lf,Lf];refine J2 fun x hx=>?_
  have xl:=Ii.mp hx;rw[Jt,Iv,Iv,beq_iff_eq,decide_eq_true_iff,decide_eq_true_iff];show (decide ((if (thr b a x).length%2=1 then Kd.odd else Kd.bare)=Kd.odd)=true/\_)/\_↔_;rw[decide_eq_true_iff];constructor
  ·rintro⟨⟨h1,h2⟩,h3⟩;have ax:=h3.symm;have o:(thr b a x).length%2=1:=by
    refine Ia fun z=>?_
    rw[if_neg z] at h1;cases h1
   obtain⟨z,z1,z2⟩:=(kZ T.swap xl ax).mp o;exact⟨ax,z,z1.swap,z2⟩
  ·rintro⟨ax,z,z1,z2⟩;have o:=(kZ T.swap xl ax).mpr ⟨z,z1.swap,z2⟩;exact⟨⟨by rw[if_pos o],.inl o⟩,ax.symm⟩
 rw[e3]
 rfl
theorem Ba:((unL N a b).filter fun th=>th.1=.ring).length=(RL a b N).length:=by
 unfold unL gK gZ jb de;rw[IE,IE,Kt,Kt,Kt,HY,HY,HQ,HQ,HQ];have e1:(((lsL N b).filter fun z=>decide (pB a b z)).filter ((fun th:Kd×List Nat=>decide (th.1=.ring)) ∘ eB a b))=[]:=JG.mpr fun x _=>by simp[eB]
 have e3:(((lsL N a).filter fun u=>decide (pA a b u)).filter ((fun th:Kd×List Nat=>decide (th.1=.ring)) ∘ eA a b))=[]:=JG.mpr fun x _=>by
  simp only[Function.comp,eA]
  split <;> simp
 have e2:((RL a b N).filter ((fun th:Kd×List Nat=>decide (th.1=.ring)) ∘ fun m=>(Kd.ring,thr a b m)))=RL a b N:=L9.mpr fun x _=>by simp
 rw[e1,e2,e3];simp
end
end Th

namespace Th
open Classical
noncomputable def cnt (N:Nat)(P:Nat->Prop):Nat:=((Ig N).filter fun x=>decide (P x)).length
theorem iF {N:Nat}{P Q:Nat->Prop}(h:∀ x,x<N->(P x↔Q x)):cnt N P=cnt N Q:=by
 unfold cnt;congr 1;refine J2 fun x hx=>?_
 have:=h x (Ii.mp hx);simp[this]
theorem iR {N m:Nat}{P Q:Nat->Prop}(hm:m<N)(hP:¬ P m)(h:∀ x,x<N->(Q x↔P x\/x=m)):cnt N Q=cnt N P+1:=by
 unfold cnt;have nd:(Ig N).Nodup:=Jg;have mem:m∈Ig N:=Ii.mpr hm;have lt:∀ x∈Ig N,x<N:=fun x hx=>Ii.mp hx
 generalize Ig N=l at nd mem lt
 induction l with
 | nil=>cases mem
 | cons y l ih =>
  rw[JI] at nd;have hy:=h y (lt y (Iq ..));by_cases e:y=m
  ·subst e;have hq:Q y:=hy.mpr (.inr rfl);rw[IH (by simpa using hq),II (by simpa using hP),ID];congr 2;refine J2 fun x hx=>?_
   have h1:=h x (lt x (Im _ hx));have h2:x≠y:=fun z=>nd.1 (z ▸ hx)
   simp[h1,h2]
  ·have mem:m∈l:=by
    rcases IA.mp mem with z | z
    ·exact absurd z.symm e
    ·exact z
   have ih:=ih nd.2 mem (fun x hx=>lt x (Im _ hx));by_cases hp:P y
   ·rw[IH (by simpa using hy.mpr (.inl hp)),IH (by simpa using hp),ID,ID,ih]
   ·have hq:¬ Q y:=fun z=>by
     rcases hy.mp z with z | z
     ·exact hp z
     ·exact e z
    rw[II (by simpa using hq),II (by simpa using hp),ih]
variable {N:Nat}{a b:Nat->Nat}
noncomputable def fT (a b:Nat->Nat)(u:Nat):Prop:=∃ z,ao a b u z/\b z=z
theorem jH:score a b N=2*cnt N (fun m=>aX a b m/\aT a b m)+cnt N (fun u=>a u=u/\fT a b u):=by
 unfold score cnt RL OL fT;congr 1
 ·congr 2;refine J2 fun x _=>?_;simp
 ·congr 1;refine J2 fun x _=>?_;simp
theorem og {a2 b2:Nat->Nat}(T:Two N a b)(ea:∀ x,x<N->a2 x=a x)(eb:∀ x,x<N->b2 x=b x){x y:Nat}(hx:x<N)(h:ao a b x y):ao a2 b2 x y:=fun S h1 h2 =>
 (h (fun z=>z<N/\S z) ⟨hx,h1⟩ fun z ⟨z1,z2⟩=>⟨⟨T.fl z z1,ea z z1 ▸ (h2 z z2).1⟩,⟨T.gl z z1,eb z z1 ▸ (h2 z z2).2⟩⟩).2
theorem Two.congr {a2 b2:Nat->Nat}(T:Two N a b)(ea:∀ x,x<N->a2 x=a x)(eb:∀ x,x<N->b2 x=b x):Two N a2 b2 :=
 ⟨fun x h=>by rw[ea x h];exact T.fl x h,fun x h=>by rw[eb x h];exact T.gl x h,fun x h=>by rw[ea x h,ea _ (T.fl x h)];exact T.ff x h,fun x h=>by rw[eb x h,eb _ (T.gl x h)];exact T.gg x h⟩
theorem aU {a2 b2:Nat->Nat}(T:Two N a b)(ea:∀ x,x<N->a2 x=a x)(eb:∀ x,x<N->b2 x=b x):score a2 b2 N=score a b N:=by
 have T2:=T.congr ea eb;have cc:∀ x y,x<N->(ao a2 b2 x y↔ao a b x y):=fun x y hx=>⟨fun h=>og T2 (fun z hz=>(ea z hz).symm) (fun z hz=>(eb z hz).symm) hx h,fun h=>og T ea eb hx h⟩
 rw[jH,jH];congr 1
 ·congr 1;refine iF fun m hm=>?_
  unfold aX aT;constructor
  ·rintro⟨h1,h2⟩;refine⟨fun y hy=>h1 y ((cc m y hm).mpr hy),fun y hy=>?_⟩;have hyN:=hy.lt T hm;have:=h2 y ((cc m y hm).mpr hy);rwa[ea y hyN,eb y hyN] at this
  ·rintro⟨h1,h2⟩;refine⟨fun y hy=>h1 y ((cc m y hm).mp hy),fun y hy=>?_⟩;have hy:=(cc m y hm).mp hy;have hyN:=hy.lt T hm;rw[ea y hyN,eb y hyN];exact h2 y hy
 ·refine iF fun u hu=>?_
  unfold fT;rw[ea u hu];constructor
  ·rintro⟨h1,z,h2,h3⟩;have h2:=(cc u z hu).mp h2;exact⟨h1,z,h2,by rwa[eb z (h2.lt T hu)] at h3⟩
  ·rintro⟨h1,z,h2,h3⟩;exact⟨h1,z,(cc u z hu).mpr h2,by rw[eb z (h2.lt T hu)];exact h3⟩
noncomputable def link (a:Nat->Nat)(u v x:Nat):Nat:=if x=u then v else if x=v then u else a x
section
variable {u v:Nat}
theorem cw (T:Two N a b)(hu:u<N)(hv:v<N)(au:a u=u)(av:a v=v):Two N (link a u v) b:=by
 refine⟨fun x h=>?_,T.gl,fun x h=>?_,T.gg⟩
 ·have:=T.fl x h;unfold link
  split
  ·exact hv
  ·split <;> assumption
 ·have:=T.ff x h;have:=T.fl x h;unfold link;grind
theorem qf (T:Two N a b)(hu:u<N)(hv:v<N)(au:a u=u)(av:a v=v)(x y:Nat):ao (link a u v) b x y↔ao a b x y\/(ao a b x u/\ao a b v y)\/(ao a b x v/\ao a b u y):=by
 have up:∀ {x y},ao a b x y->ao (link a u v) b x y:=fun {x y} h S h1 h2=>h S h1 fun z hz=>by
  have:=h2 z hz;unfold link at this;refine⟨?_,this.2⟩;by_cases e1:z=u
  ·rw[e1,au];rwa[e1] at hz
  ·by_cases e2:z=v
   ·rw[e2,av];rwa[e2] at hz
   ·simpa[e1,e2] using this.1
 have uv:ao (link a u v) b u v:=by
  have:=(ao.refl (f:=link a u v) (g:=b) u).sf;rwa[show link a u v u=v by unfold link;rw[if_pos rfl]] at this
 have vu:ao (link a u v) b v u:=by
  have:=(ao.refl (f:=link a u v) (g:=b) v).sf;by_cases e:v=u
  ·subst e;exact ao.refl _
  ·rwa[show link a u v v=u by unfold link;rw[if_neg e,if_pos rfl]] at this
 constructor
 ·intro h;refine h (fun y=>ao a b x y\/(ao a b x u/\ao a b v y)\/(ao a b x v/\ao a b u y)) (.inl (ao.refl _)) fun z hz=>⟨?_,?_⟩
  ·show ao a b x (link a u v z)\/(ao a b x u/\ao a b v (link a u v z))\/(ao a b x v/\ao a b u (link a u v z))
   unfold link;by_cases e1:z=u
   ·subst e1;rw[if_pos rfl];rcases hz with h1 | ⟨h1,h2⟩ | ⟨h1,h2⟩
    ·exact .inr (.inl ⟨h1,ao.refl _⟩)
    ·exact .inr (.inl ⟨h1,ao.refl _⟩)
    ·exact .inl h1
   ·rw[if_neg e1];by_cases e2:z=v
    ·subst e2;rw[if_pos rfl];rcases hz with h1 | ⟨h1,h2⟩ | ⟨h1,h2⟩
     ·exact .inr (.inr ⟨h1,ao.refl _⟩)
     ·exact .inl h1
     ·exact .inr (.inr ⟨h1,ao.refl _⟩)
    ·rw[if_neg e2];rcases hz with h1 | ⟨h1,h2⟩ | ⟨h1,h2⟩
     ·exact .inl h1.sf
     ·exact .inr (.inl ⟨h1,h2.sf⟩)
     ·exact .inr (.inr ⟨h1,h2.sf⟩)
  ·rcases hz with h1 | ⟨h1,h2⟩ | ⟨h1,h2⟩
   ·exact .inl h1.sg
   ·exact .inr (.inl ⟨h1,h2.sg⟩)
   ·exact .inr (.inr ⟨h1,h2.sg⟩)
 ·rintro(h | ⟨h1,h2⟩ | ⟨h1,h2⟩)
  ·exact up h
  ·exact((up h1).trans uv).trans (up h2)
  ·exact((up h1).trans vu).trans (up h2)
noncomputable def pt (a b:Nat->Nat)(u:Nat):Option Nat:=if h:∃ v,v≠u/\ao a b u v/\a v=v then some (choose h) else none
theorem cC (T:Two N a b)(hu:u<N)(au:a u=u):pt a b u=none↔fT a b u:=by
 unfold pt;constructor
 ·intro h;by_cases c:fT a b u
  ·exact c
  ·obtain⟨v,v1,v2,v3,_⟩:=kX T hu au c;rw[dif_pos ⟨v,v1,v2,v3⟩] at h;cases h
 ·rintro⟨z,z1,z2⟩;rw[dif_neg];rintro⟨v,v1,v2,v3⟩;exact v1 (kU T hu au v2 v3 z1 z2)
theorem cO (T:Two N a b)(hu:u<N)(au:a u=u):pt a b u=some v↔v≠u/\ao a b u v/\a v=v:=by
 constructor
 ·intro h;unfold pt at h
  split at h
  ·rename_i hx;have:=choose_spec hx;rw[Option.some.inj h] at this;exact this
  ·cases h
 ·rintro⟨v1,v2,v3⟩;have no:¬ fT a b u:=fun ⟨z,z1,z2⟩=>v1 (kU T hu au v2 v3 z1 z2)
  obtain⟨w,w1,w2,w3,w4⟩:=kX T hu au no;have hx:∃ v,v≠u/\ao a b u v/\a v=v:=⟨v,v1,v2,v3⟩
  unfold pt;rw[dif_pos hx];obtain⟨q1,q2,q3⟩:=choose_spec hx;have e1:=(w4 v v2 v3).resolve_left v1;have e2:=(w4 _ q2 q3).resolve_left q1;rw[e2,e1]
theorem cP (T:Two N a b)(hu:u<N)(au:a u=u)(h:pt a b u=some v):v<N/\a v=v/\v≠u/\pt a b v=some u:=by
 obtain⟨h1,h2,h3⟩:=(cO T hu au).mp h;have hv:=h2.lt T hu;exact⟨hv,h3,h1,(cO T hv h3).mpr ⟨h1.symm,h2.symm T hu,au⟩⟩
theorem Bb (T:Two N a b)(hu:u<N)(au:a u=u)(av:a v=v)(h:ao a b u v):v=u\/pt a b u=some v:=by
 by_cases e:v=u
 ·exact .inl e
 ·exact .inr ((cO T hu au).mpr ⟨e,h,av⟩)
noncomputable def dl (a b:Nat->Nat)(u v:Nat):Int:=if pt a b u=some v then 2 else if pt a b u=none/\pt a b v=none then -2 else 0
theorem fh (T:Two N a b)(hu:u<N)(hv:v<N)(au:a u=u)(av:a v=v)(huv:u≠v){w:Nat}(hw:w<N)(aw:a w=w)(wu:w≠u)(wv:w≠v) :
  pt (link a u v) b w=if pt a b w=some u then pt a b v else if pt a b w=some v then pt a b u else pt a b w:=by
 have T2:=cw T hu hv au av;have lw:∀ {x},x≠u->x≠v->link a u v x=a x:=fun {x} h1 h2=>by unfold link;rw[if_neg h1,if_neg h2]
 have lu:link a u v u=v:=by unfold link;rw[if_pos rfl]
 have lv:link a u v v=u:=by unfold link;rw[if_neg huv.symm,if_pos rfl]
 have law:link a u v w=w:=by rw[lw wu wv];exact aw
 have cl:=qf T hu hv au av;by_cases c1:pt a b w=some u
 ·rw[if_pos c1];obtain⟨_,_,_,c1s⟩:=cP T hw aw c1;obtain⟨d1,d2,d3⟩:=(cO T hw aw).mp c1;cases hp:pt a b v with
  | none =>
   obtain⟨z,z1,z2⟩:=(cC T hv av).mp hp;exact(cC T2 hw law).mpr ⟨z,(cl w z).mpr (.inr (.inl ⟨d2,z1⟩)),z2⟩
  | some v' =>
   obtain⟨e1,e2,e3⟩:=(cO T hv av).mp hp;obtain⟨_,_,_,hps⟩:=cP T hv av hp;have n1:v'≠w:=fun z=>by rw[z,c1] at hps;exact huv (Option.some.inj hps)
   have n2:v'≠u:=fun z=>by rw[z,c1s] at hps;exact wv (Option.some.inj hps)
   exact(cO T2 hw law).mpr ⟨n1,(cl w v').mpr (.inr (.inl ⟨d2,e2⟩)),by rw[lw n2 e1];exact e3⟩
 ·rw[if_neg c1];by_cases c2:pt a b w=some v
  ·rw[if_pos c2];obtain⟨_,_,_,c2s⟩:=cP T hw aw c2;obtain⟨d1,d2,d3⟩:=(cO T hw aw).mp c2;cases hp:pt a b u with
   | none =>
    obtain⟨z,z1,z2⟩:=(cC T hu au).mp hp;exact(cC T2 hw law).mpr ⟨z,(cl w z).mpr (.inr (.inr ⟨d2,z1⟩)),z2⟩
   | some u' =>
    obtain⟨e1,e2,e3⟩:=(cO T hu au).mp hp;obtain⟨_,_,_,hps⟩:=cP T hu au hp;have n1:u'≠w:=fun z=>by rw[z,c2] at hps;exact huv (Option.some.inj hps).symm
    have n2:u'≠v:=fun z=>by rw[z,c2s] at hps;exact wu (Option.some.inj hps)
    exact(cO T2 hw law).mpr ⟨n1,(cl w u').mpr (.inr (.inr ⟨d2,e2⟩)),by rw[lw e1 n2];exact e3⟩
  ·rw[if_neg c2];cases hp:pt a b w with
   | none =>
    obtain⟨z,z1,z2⟩:=(cC T hw aw).mp hp;exact(cC T2 hw law).mpr ⟨z,(cl w z).mpr (.inl z1),z2⟩
   | some w' =>
    obtain⟨e1,e2,e3⟩:=(cO T hw aw).mp hp;have n1:w'≠u:=fun z=>c1 (by rw[hp,z])
    have n2:w'≠v:=fun z=>c2 (by rw[hp,z])
    exact(cO T2 hw law).mpr ⟨e1,(cl w w').mpr (.inl e2),by rw[lw n1 n2];exact e3⟩
theorem aV (T:Two N a b)(hu:u<N)(hv:v<N)(au:a u=u)(av:a v=v)(huv:u≠v):(score (link a u v) b N:Int)=score a b N+dl a b u v:=by
 have T2:=cw T hu hv au av;have lw:∀ {x},x≠u->x≠v->link a u v x=a x:=fun {x} h1 h2=>by unfold link;rw[if_neg h1,if_neg h2]
 have lu:link a u v u=v:=by unfold link;rw[if_pos rfl]
 have lv:link a u v v=u:=by unfold link;rw[if_neg huv.symm,if_pos rfl]
 have cl:=qf T hu hv au av;have lo:∀ x,link a u v x=x↔a x=x/\x≠u/\x≠v:=fun x=>by
  unfold link;constructor
  ·intro h
   split at h
   ·rename_i e;exact absurd (h.trans e).symm huv
   ·split at h
    ·rename_i e;exact absurd (h.trans e) huv
    ·exact⟨h,by assumption,by assumption⟩
  ·rintro⟨h1,h2,h3⟩;rw[if_neg h2,if_neg h3];exact h1
 have od:∀ w,w<N->((link a u v w=w/\fT (link a u v) b w)↔(a w=w/\w≠u/\w≠v/\(if pt a b w=some u then pt a b v else if pt a b w=some v then pt a b u else pt a b w)=none)):=fun w hw=>by
  constructor
  ·rintro⟨h1,h2⟩;obtain⟨h3,h4,h5⟩:=(lo w).mp h1;refine⟨h3,h4,h5,?_⟩;rw[<- fh T hu hv au av huv hw h3 h4 h5];exact(cC T2 hw h1).mpr h2
  ·rintro⟨h3,h4,h5,h6⟩;have h1:=(lo w).mpr ⟨h3,h4,h5⟩;rw[<- fh T hu hv au av huv hw h3 h4 h5] at h6;exact⟨h1,(cC T2 hw h1).mp h6⟩
 have od0:∀ w,w<N->((a w=w/\fT a b w)↔(a w=w/\pt a b w=none)):=fun w hw=>by
  constructor
  ·rintro⟨h1,h2⟩;exact⟨h1,(cC T hw h1).mpr h2⟩
  ·rintro⟨h1,h2⟩;exact⟨h1,(cC T hw h1).mp h2⟩
 have sy:∀ {x y},x<N->a x=x->pt a b x=some y->pt a b y=some x:=fun hx ax h=>(cP T hx ax h).2.2.2
 rw[jH,jH];have far:∀ m,m<N->¬ ao a b m u->¬ ao a b m v->((aX (link a u v) b m/\aT (link a u v) b m)↔(aX a b m/\aT a b m)):=fun m hm n1 n2=>by
  have cc:∀ y,ao (link a u v) b m y↔ao a b m y:=fun y=>by
   rw[cl m y];constructor
   ·rintro(h | ⟨h,_⟩ | ⟨h,_⟩)
    ·exact h
    ·exact absurd h n1
    ·exact absurd h n2
   ·exact .inl
  unfold aX aT;constructor
  ·rintro⟨h1,h2⟩;refine⟨fun y hy=>h1 y ((cc y).mpr hy),fun y hy=>?_⟩;have:=h2 y ((cc y).mpr hy);rwa[lw (fun z=>n1 (z ▸ hy)) (fun z=>n2 (z ▸ hy))] at this
  ·rintro⟨h1,h2⟩;refine⟨fun y hy=>h1 y ((cc y).mp hy),fun y hy=>?_⟩;have hy:=(cc y).mp hy;rw[lw (fun z=>n1 (z ▸ hy)) (fun z=>n2 (z ▸ hy))];exact h2 y hy
 have near:∀ m,ao a b m u\/ao a b m v->¬ aT a b m:=fun m h w=>by
  rcases h with h | h
  ·exact(w u h).1 au
  ·exact(w v h).1 av
 have rs:(∃ z,(ao (link a u v) b u z/\(link a u v z=z\/b z=z)))->cnt N (fun m=>aX (link a u v) b m/\aT (link a u v) b m)=cnt N (fun m=>aX a b m/\aT a b m):=fun ⟨z,z1,z2⟩=>iF fun m hm=>by
  by_cases n1:ao a b m u\/ao a b m v
  ·constructor
   ·rintro⟨_,h2⟩;have mz:ao (link a u v) b m z:=by
     rcases n1 with n1 | n1
     ·exact ao.trans ((cl m u).mpr (.inl n1)) z1
     ·exact ao.trans ((cl m u).mpr (.inr (.inr ⟨n1,ao.refl _⟩))) z1
    have:=h2 z mz;rcases z2 with z2 | z2
    ·exact absurd z2 this.1
    ·exact absurd z2 this.2
   ·rintro⟨_,h2⟩;exact absurd h2 (near m n1)
  ·exact far m hm (fun z=>n1 (.inl z)) (fun z=>n1 (.inr z))
 unfold dl;by_cases c1:pt a b u=some v
 ·have c1s:=sy hu au c1;rw[if_pos c1];obtain⟨_,cuv,_⟩:=(cO T hu au).mp c1;have nou:¬ fT a b u:=fun h=>by rw[(cC T hu au).mpr h] at c1;cases c1
  have e1:cnt N (fun w=>link a u v w=w/\fT (link a u v) b w)=cnt N (fun w=>a w=w/\fT a b w):=iF fun w hw=>by
   rw[od w hw,od0 w hw];constructor
   ·rintro⟨h1,h2,h3,h4⟩;refine⟨h1,?_⟩
    split at h4
    ·rename_i e;have:=sy hw h1 e;rw[c1] at this;exact absurd (Option.some.inj this).symm h3
    ·split at h4
     ·rename_i e;have:=sy hw h1 e;rw[c1s] at this;exact absurd (Option.some.inj this).symm h2
     ·exact h4
   ·rintro⟨h1,h2⟩;refine⟨h1,fun z=>(by rw[z,c1] at h2;cases h2),fun z=>(by rw[z,c1s] at h2;cases h2),?_⟩;rw[h2];rfl
  obtain⟨m0,m1,m2,m3⟩:=jl T hu;have e2:cnt N (fun m=>aX (link a u v) b m/\aT (link a u v) b m)=cnt N (fun m=>aX a b m/\aT a b m)+1:=by
   have m0u:=m1.symm T hu;refine iR m2 (fun z=>near m0 (.inl m0u) z.2) fun m hm=>?_
   by_cases n1:ao a b m u
   ·have cc:∀ y,ao (link a u v) b m y↔ao a b m y:=fun y=>by
     rw[cl m y];constructor
     ·rintro(h | ⟨h,h'⟩ | ⟨h,h'⟩)
      ·exact h
      ·exact(n1.trans cuv).trans h'
      ·exact n1.trans h'
     ·exact .inl
    have wh:aT (link a u v) b m:=fun y hy=>by
     have hy:=(cc y).mp hy;have uy:ao a b u y:=(n1.symm T hm).trans hy;refine⟨fun z=>?_,fun z=>nou ⟨y,uy,z⟩⟩;obtain⟨z1,z2,z3⟩:=(lo y).mp z;rcases Bb T hu au z1 uy with e | e
     ·exact z2 e
     ·rw[c1] at e;exact z3 (Option.some.inj e).symm
    constructor
    ·rintro⟨h1,_⟩;have q1:=h1 m0 ((cc m0).mpr (n1.trans m1));have q2:=m3 m (m0u.trans (n1.symm T hm));exact .inr (by omega)
    ·rintro(h | h)
     ·exact absurd h.2 (near m (.inl n1))
     ·subst h;exact⟨fun y hy=>m3 y ((cc y).mp hy),wh⟩
   ·have n2:¬ ao a b m v:=fun z=>n1 (z.trans (cuv.symm T hu))
    rw[far m hm n1 n2];constructor
    ·exact .inl
    ·rintro(h | h)
     ·exact h
     ·subst h;exact absurd m0u n1
  rw[e1,e2];omega
 ·rw[if_neg c1];have c1v:pt a b v≠some u:=fun z=>c1 (sy hv av z)
  by_cases c2:pt a b u=none/\pt a b v=none
  ·obtain⟨c2,c3⟩:=c2;rw[if_pos ⟨c2,c3⟩];have nw:∀ w,w<N->a w=w->pt a b w≠some u/\pt a b w≠some v:=fun w hw aw=>⟨fun z=>(by have:=sy hw aw z;rw[c2] at this;cases this),fun z=>(by have:=sy hw aw z;rw[c3] at this;cases this)⟩
   have e1:cnt N (fun w=>a w=w/\fT a b w)=cnt N (fun w=>(link a u v w=w/\fT (link a u v) b w)\/w=u)+1:=by
    refine iR hv ?_ fun w hw=>?_
    ·rintro(h | h)
     ·exact((lo v).mp h.1).2.2 rfl
     ·exact huv h.symm
    ·rw[od w hw,od0 w hw];constructor
     ·rintro⟨h1,h2⟩;by_cases q1:w=u
      ·exact .inl (.inr q1)
      ·by_cases q2:w=v
       ·exact .inr q2
       ·refine .inl (.inl ⟨h1,q1,q2,?_⟩);rw[h2];rfl
     ·rintro((⟨h1,h2,h3,h4⟩ | h) | h)
      ·rw[if_neg (nw w hw h1).1,if_neg (nw w hw h1).2] at h4;exact⟨h1,h4⟩
      ·subst h;exact⟨au,c2⟩
      ·subst h;exact⟨av,c3⟩
   have e2:cnt N (fun w=>(link a u v w=w/\fT (link a u v) b w)\/w=u)=cnt N (fun w=>link a u v w=w/\fT (link a u v) b w)+1 :=
    iR hu (fun z=>((lo u).mp z.1).2.1 rfl) fun w hw=>Iff.rfl
   have e3:=rs (by
    obtain⟨z,z1,z2⟩:=(cC T hu au).mp c2;exact⟨z,(cl u z).mpr (.inl z1),.inr z2⟩)
   rw[e1,e2,e3];omega
  ·rw[if_neg c2];cases hpu:pt a b u with
   | some u' =>
    obtain⟨u1,u2,u3,u4⟩:=cP T hu au hpu;have nuv:u'≠v:=fun z=>c1 (by rw[hpu,z])
    have e3:=rs ⟨u',(cl u u').mpr (.inl ((cO T hu au).mp hpu).2.1),.inl ((lo u').mpr ⟨u2,u3,nuv⟩)⟩;rw[e3];cases hpv:pt a b v with
    | some v' =>
     obtain⟨v1,v2,v3,v4⟩:=cP T hv av hpv;have e1:cnt N (fun w=>link a u v w=w/\fT (link a u v) b w)=cnt N (fun w=>a w=w/\fT a b w):=iF fun w hw=>by
      rw[od w hw,od0 w hw];constructor
      ·rintro⟨h1,h2,h3,h4⟩;refine⟨h1,?_⟩
       split at h4
       ·rw[hpv] at h4;cases h4
       ·split at h4
        ·rw[hpu] at h4;cases h4
        ·exact h4
      ·rintro⟨h1,h2⟩;refine⟨h1,fun z=>(by rw[z,hpu] at h2;cases h2),fun z=>(by rw[z,hpv] at h2;cases h2),?_⟩;rw[h2];rfl
     rw[e1];omega
    | none =>
     have nw:∀ w,w<N->a w=w->pt a b w≠some v:=fun w hw aw z=>by have:=sy hw aw z;rw[hpv] at this;cases this
     have e1:cnt N (fun w=>a w=w/\fT a b w)=cnt N (fun w=>a w=w/\fT a b w/\w≠v)+1:=by
      refine iR hv (fun z=>z.2.2 rfl) fun w hw=>?_
      constructor
      ·rintro⟨h1,h2⟩;by_cases q:w=v
       ·exact .inr q
       ·exact .inl ⟨h1,h2,q⟩
      ·rintro(⟨h1,h2,_⟩ | h)
       ·exact⟨h1,h2⟩
       ·subst h;exact⟨av,(cC T hw av).mp hpv⟩
     have e2:cnt N (fun w=>link a u v w=w/\fT (link a u v) b w)=cnt N (fun w=>a w=w/\fT a b w/\w≠v)+1:=by
      refine iR u1 (fun z=>by have:=(cC T u1 u2).mpr z.2.1;rw[u4] at this;cases this) fun w hw=>?_
      rw[od w hw];constructor
      ·rintro⟨h1,h2,h3,h4⟩
       split at h4
       ·rename_i e;have:=sy hw h1 e;rw[hpu] at this;exact .inr (Option.some.inj this).symm
       ·rw[if_neg (nw w hw h1)] at h4;exact .inl ⟨h1,(cC T hw h1).mp h4,h3⟩
      ·rintro(⟨h1,h2,h3⟩ | h)
       ·have h4:=(cC T hw h1).mpr h2;refine⟨h1,fun z=>(by rw[z,hpu] at h4;cases h4),h3,?_⟩;rw[h4];rfl
       ·subst h;refine⟨u2,u3,nuv,?_⟩;rw[if_pos u4];exact hpv
     rw[e1,e2];omega
   | none =>
    cases hpv:pt a b v with
    | none=>exact absurd ⟨hpu,hpv⟩ c2
    | some v' =>
     obtain⟨v1,v2,v3,v4⟩:=cP T hv av hpv;have nvu:v'≠u:=fun z=>c1v (by rw[hpv,z])
     have e3:=rs ⟨v',(cl u v').mpr (.inr (.inl ⟨ao.refl _,((cO T hv av).mp hpv).2.1⟩)),.inl ((lo v').mpr ⟨v2,nvu,v3⟩)⟩;rw[e3];have nw:∀ w,w<N->a w=w->pt a b w≠some u:=fun w hw aw z=>by have:=sy hw aw z;rw[hpu] at this;cases this
     have e1:cnt N (fun w=>a w=w/\fT a b w)=cnt N (fun w=>a w=w/\fT a b w/\w≠u)+1:=by
      refine iR hu (fun z=>z.2.2 rfl) fun w hw=>?_
      constructor
      ·rintro⟨h1,h2⟩;by_cases q:w=u
       ·exact .inr q
       ·exact .inl ⟨h1,h2,q⟩
      ·rintro(⟨h1,h2,_⟩ | h)
       ·exact⟨h1,h2⟩
       ·subst h;exact⟨au,(cC T hw au).mp hpu⟩
     have e2:cnt N (fun w=>link a u v w=w/\fT (link a u v) b w)=cnt N (fun w=>a w=w/\fT a b w/\w≠u)+1:=by
      refine iR v1 (fun z=>by have:=(cC T v1 v2).mpr z.2.1;rw[v4] at this;cases this) fun w hw=>?_
      rw[od w hw];constructor
      ·rintro⟨h1,h2,h3,h4⟩;rw[if_neg (nw w hw h1)] at h4
       split at h4
       ·rename_i e;have:=sy hw h1 e;rw[hpv] at this;exact .inr (Option.some.inj this).symm
       ·exact .inl ⟨h1,(cC T hw h1).mp h4,h2⟩
      ·rintro(⟨h1,h2,h3⟩ | h)
       ·have h4:=(cC T hw h1).mpr h2;refine⟨h1,h3,fun z=>(by rw[z,hpv] at h4;cases h4),?_⟩;rw[h4];rfl
       ·subst h;refine⟨v2,nvu,v3,?_⟩;rw[if_neg (nw _ v1 v2),if_pos v4];exact hpu
     rw[e1,e2];omega
end
end Th

namespace L2E
open PySem PySem.Spec PyProof.Rows
open Sem (wp)
open AutoSeq1 (wpAny_loadPart')
section
variable {prog:Program}{w:World}{A:Around}{E:Value->Shared->Prop}{s:Shared}
theorem nc {it t:Addr}{i:Nat}{items:Array Value}{x:Value}{Q:Value->Shared->Prop}(hit:s.heap.IsTupleIter it t i)(ht:s.heap.IsTuple t items)(hx:items[i]?=some x)
  (hQ:∀ h',h'.IsTupleIter it t (i+1)->Heap.SameBut it s.heap h'->Q x { s with heap:=h' }):wpAny (model prog w) A (Builtin.SmallTypes.nextOf (.ref it)) Q E s:=by
 obtain⟨o,ho,hc,hd⟩:=id hit;obtain⟨ol,hol,_,nl,hdl⟩:=ht;unfold Builtin.SmallTypes.nextOf;refine wpAny_bind (wpAny_callSpecial?_slot (name:=Str.ofString "__next__") hit.typeIs F.slot_tuple_iterator_next (wpAny_call_entry F.slot_tuple_iterator_next hit.typeIs F.entry_tuple_iterator_next ?_ (F.args_tuple_iterator_next_1 _)));show wpAny _ _ (field (.ref it) 0 >>= _) _ _ s;refine wpAny_bind (wpAny_field ho hd (x:=.ref t) rfl ?_);show wpAny _ _ (if (Value.ref t == Value.none)=true then _ else _) _ _ s;rw[if_neg (show ¬ ((Value.ref t == Value.none)=true) from Io)];show wpAny _ _ (field (.ref it) 1 >>= _) _ _ s;refine wpAny_bind (wpAny_field ho hd (x:=.int i 0) rfl ?_);show wpAny _ _ (seqItems? (.ref t) >>= _) _ _ s;refine wpAny_bind (wpAny_seqItems hol hdl ?_);simp only[Iz,hx];refine wpAny_bind (wpAny_setField ho hd (by simp) (wpAny_pure ⟨x,rfl,wpAny_pure (hQ _ ?_ (Heap.SameBut.update ..))⟩));exact⟨_,JU _ ho (Obj.isFreed_of_fields (Obj.data_mapFields hd _)),(Obj.cls_mapFields ..).trans hc,by
  rw[Obj.data_mapFields hd];simp[rawInt]⟩
theorem oh {it t:Addr}{i:Nat}{items:Array Value}{Q:Value->Shared->Prop}(hh:A.handled=none)(hit:s.heap.IsTupleIter it t i)(ht:s.heap.IsTuple t items)(hx:items[i]?=none)
  (hE:∀ h' e,Heap.ExtBut it s.heap h'->(∃ o,h'.get? e=some o/\o.cls=.type "StopIteration")->E (.ref e) { s with heap:=h' }):wpAny (model prog w) A (Builtin.SmallTypes.nextOf (.ref it)) Q E s:=by
 obtain⟨o,ho,hc,hd⟩:=id hit;obtain⟨ol,hol,_,nl,hdl⟩:=ht;unfold Builtin.SmallTypes.nextOf;refine wpAny_bind (wpAny_callSpecial?_slot (name:=Str.ofString "__next__") hit.typeIs F.slot_tuple_iterator_next (wpAny_call_entry F.slot_tuple_iterator_next hit.typeIs F.entry_tuple_iterator_next ?_ (F.args_tuple_iterator_next_1 _)));show wpAny _ _ (field (.ref it) 0 >>= _) _ _ s;refine wpAny_bind (wpAny_field ho hd (x:=.ref t) rfl ?_);show wpAny _ _ (if (Value.ref t == Value.none)=true then _ else _) _ _ s;rw[if_neg (show ¬ ((Value.ref t == Value.none)=true) from Io)];show wpAny _ _ (field (.ref it) 1 >>= _) _ _ s;refine wpAny_bind (wpAny_field ho hd (x:=.int i 0) rfl ?_);show wpAny _ _ (seqItems? (.ref t) >>= _) _ _ s;refine wpAny_bind (wpAny_seqItems hol hdl ?_);simp only[Iz,hx];refine wpAny_bind (wpAny_rule (wpAny_bind (wpAny_setField ho hd (by simp) ?_)));show wpAny _ _ (newExc (.type "StopIteration") [] >>= _) _ _ _;refine wpAny_bind ?_;simp only[newExc,newTuple];refine wpAny_bind (wpAny_newObj_type ?_ (by size_fits));refine wpAny_bind (m:=firstArgMember _ _) (wpAny_of_eq (a:=Value.none) (by first | rfl | (simp only[firstArgMember];rfl)) ?_);refine wpAny_newObj_type ?_ (by size_fits);simp only[raiseNew];refine wpAny_bind (wpAny_handled ?_)
 first | rw[show A.in1.handled=none from hh] | rw[hh]
 refine wpAny_bind (wpAny_pure (wpAny_throw ?_));exact hE _ _ (((Heap.SameBut.update ..).extBut.push _).push _) ⟨_,Ir _ rfl,rfl⟩

theorem pF {e it l:Addr}{i:Nat}{items:Array Value}{x old:Value}{Q:Value->Shared->Prop}
  (he:IsEnum s.heap e it i old) (hit:s.heap.IsTupleIter it l i) (hl:s.heap.IsTuple l items) (hx:items[i]?=some x) (hne:e≠it)
  (hQ:∀ h',IsEnumOut h' e it ((i:Int)+1) x s.heap.objs.size->h'.IsTupleIter it l (i+1)->h'.get? s.heap.objs.size=some { cls:=.type "tuple",data:=.seq #[.int i s.toks,x] }->h'.objs.size=s.heap.objs.size+1 ->
   (∀ b o,b≠e->b≠it->s.heap.get? b=some o->h'.get? b=some o)->Q (.ref s.heap.objs.size) { s with heap:=h',toks:=s.toks+1 }) :
  wpAny (model prog w) A (Builtin.«enumerate.__next__» ⟨[.ref e],[]⟩) (fun fin s'=>∃ v,fin=.done (.ret v)/\Q v s') E s:=by
 obtain⟨hp,g,d,tk,os⟩:=s;show wpAny _ _ (field (.ref e) 2 >>= _) _ _ _;refine wpAny_bind (wpAny_field he rfl (x:=.ref it) rfl ?_);refine wpAny_bind (nc hit hl hx fun h₁ zx hs₁=>?_)
 replace hs₁:Heap.SameBut it hp h₁:=hs₁
 have he₁:IsEnum h₁ e it i old:=(hs₁.2 e hne).trans he;show wpAny _ _ (field (.ref e) 3 >>= _) _ _ ⟨h₁,g,d,tk,os⟩;refine wpAny_bind (wpAny_field he₁ rfl (x:=rawInt i) rfl ?_);show wpAny _ _ (field (.ref e) 4 >>= _) _ _ ⟨h₁,g,d,tk,os⟩;refine wpAny_bind (wpAny_field he₁ rfl (x:=.none) rfl ?_);show wpAny _ _ (mkInt i >>= _) _ _ ⟨h₁,g,d,tk,os⟩;refine wpAny_bind (wpAny_mkInt ?_);show wpAny _ _ (setField (.ref e) 3 (rawInt ((i:Int)+1)) >>= _) _ _ ⟨h₁,g,d,tk+1,os⟩;refine wpAny_bind (wpAny_setField_rec he₁ (by simp) fun h₂ he₂ hs₂=>?_)
 replace hs₂:Heap.SameBut e h₁ h₂:=hs₂
 replace he₂:IsEnum h₂ e it ((i:Int)+1) old:=he₂
 show wpAny _ _ (setField (.ref e) 4 .none >>= _) _ _ ⟨h₂,g,d,tk+1,os⟩;refine wpAny_bind (wpAny_setField_rec he₂ (by simp) fun h₃ he₃ hs₃=>?_)
 replace hs₃:Heap.SameBut e h₂ h₃:=hs₃
 replace he₃:IsEnum h₃ e it ((i:Int)+1) old:=he₃
 show wpAny _ _ (newTuple [.int i tk,x] >>= _) _ _ ⟨h₃,g,d,tk+1,os⟩;refine wpAny_bind (wpAny_newTuple ?_);have he₄:IsEnum (h₃.push { cls:=.type "tuple",data:=.seq #[.int i tk,x] }) e it ((i:Int)+1) old:=HU _ he₃;generalize hh₄:h₃.push { cls:=.type "tuple",data:=.seq #[.int i tk,x] }=h₄ at he₄;have hsz:h₃.objs.size=hp.objs.size:=by rw[hs₃.1,hs₂.1,hs₁.1]
 have hel:e<hp.objs.size:=Il he;have ht₄:h₄.get? hp.objs.size=some { cls:=.type "tuple",data:=.seq #[.int i tk,x] }:=by rw[<- hh₄,<- hsz];exact Ir _ rfl
 have hz₄:h₄.objs.size=hp.objs.size+1:=by rw[<- hh₄,Kc,hsz]
 have hk₄:∀ b o,b≠e->b≠it->hp.get? b=some o->h₄.get? b=some o:=fun b o hbe hbi hb=>by
  rw[<- hh₄];exact HU _ (hs₃.extBut b o hbe (hs₂.extBut b o hbe (hs₁.extBut b o hbi hb)))
 have C3:h₄.IsTupleIter it l (i+1):=by
  rw[<- hh₄];obtain⟨o,ho,r⟩:=(zx.extBut hs₂.extBut (Ne.symm hne)).extBut hs₃.extBut (Ne.symm hne);exact⟨o,HU _ ho,r⟩
 show wpAny _ _ (Builtin.SmallTypes.ownedTupleIsFree (.ref e) >>= _) _ _ ⟨h₄,g,d,tk+1,os⟩;rw[hsz];clear hh₄ he₃ hs₃ he₂ hs₂ he₁ hs₁ zx hsz h₃ h₂ h₁;refine wpAny_bind ?_
 ·unfold Builtin.SmallTypes.ownedTupleIsFree;refine wpAny_bind (wpAny_field he₄ rfl (x:=.none) rfl (wpAny_pure ?_));simp only[if_true];refine wpAny_bind (wpAny_rule ?_);refine wpAny_bind (wpAny_field he₄ rfl (x:=old) rfl ?_);refine wpAny_bind (wpAny_setField_rec he₄ (by simp) fun h₅ he₅ hs₅=>?_)
  replace hs₅:Heap.SameBut e h₄ h₅:=hs₅
  replace he₅:IsEnum h₅ e it ((i:Int)+1) x:=he₅
  show wpAny _ _ (Builtin.SmallTypes.ownedTupleHandOut (.ref e) (.ref hp.objs.size) >>= _) _ _ ⟨h₅,g,d,tk+1,os⟩;refine wpAny_bind ?_
  ·unfold Builtin.SmallTypes.ownedTupleHandOut;refine wpAny_bind (wpAny_setField_rec he₅ (by simp) fun h₆ he₆ hs₆=>?_)
   replace hs₆:Heap.SameBut e h₅ h₆:=hs₆
   replace he₆:IsEnumOut h₆ e it ((i:Int)+1) x hp.objs.size:=he₆
   refine wpAny_setField_rec he₆ (by simp) fun h₇ he₇ hs₇=>?_
   replace hs₇:Heap.SameBut e h₆ h₇:=hs₇
   replace he₇:IsEnumOut h₇ e it ((i:Int)+1) x hp.objs.size:=he₇
   refine wpAny_bind (wpAny_letGo (wpAny_pure ⟨_,rfl,hQ h₇ he₇ ?_ ?_ ?_ ?_⟩))
   ·exact((C3.extBut hs₅.extBut (Ne.symm hne)).extBut hs₆.extBut (Ne.symm hne)).extBut hs₇.extBut (Ne.symm hne)
   ·exact hs₇.extBut _ _ (J9 hel) (hs₆.extBut _ _ (J9 hel) (hs₅.extBut _ _ (J9 hel) ht₄))
   ·rw[hs₇.1,hs₆.1,hs₅.1,hz₄]
   ·exact fun b o hbe hbi hb=>hs₇.extBut b o hbe (hs₆.extBut b o hbe (hs₅.extBut b o hbe (hk₄ b o hbe hbi hb)))
theorem k6 {e it l:Addr}{i:Nat}{items:Array Value}{x old:Value}{Q:Option Value->Shared->Prop}
  (he:IsEnum s.heap e it i old) (hit:s.heap.IsTupleIter it l i) (hl:s.heap.IsTuple l items) (hx:items[i]?=some x) (hne:e≠it)
  (hQ:∀ h',IsEnumOut h' e it ((i:Int)+1) x s.heap.objs.size->h'.IsTupleIter it l (i+1)->h'.get? s.heap.objs.size=some { cls:=.type "tuple",data:=.seq #[.int i s.toks,x] }->h'.objs.size=s.heap.objs.size+1 ->
   (∀ b o,b≠e->b≠it->s.heap.get? b=some o->h'.get? b=some o)->Q (some (.ref s.heap.objs.size)) { s with heap:=h',toks:=s.toks+1 }) :
  wpAny (model prog w) A (pyNext (.ref e)) Q E s:=by
 have hT:s.TypeIs (.ref e) "enumerate":=⟨_,he,rfl⟩
 unfold pyNext;exact wpAny_bind (wpAny_attempt (wpAny_callSpecial?_slot (name:=Str.ofString "__next__") hT F.slot_enumerate_next
  (wpAny_call_entry F.slot_enumerate_next hT F.entry_enumerate_next (pF he hit hl hx hne fun h' a b c d k=>wpAny_pure (hQ h' a b c d k)) (F.args_enumerate_next_1 _))))
theorem l8 {e it l:Addr}{i:Nat}{items:Array Value}{old:Value}{Q:Option Value->Shared->Prop}(hh:A.handled=none)
  (he:IsEnum s.heap e it i old) (hit:s.heap.IsTupleIter it l i) (hl:s.heap.IsTuple l items) (hx:items[i]?=none)
  (hQ:∀ h',Heap.ExtBut it s.heap h'->Q none { s with heap:=h' }):wpAny (model prog w) A (pyNext (.ref e)) Q E s:=by
 have hT:s.TypeIs (.ref e) "enumerate":=⟨_,he,rfl⟩
 unfold pyNext;refine wpAny_bind (wpAny_attempt (wpAny_callSpecial?_slot (name:=Str.ofString "__next__") hT F.slot_enumerate_next (wpAny_call_entry F.slot_enumerate_next hT F.entry_enumerate_next ?_ (F.args_enumerate_next_1 _))));show wpAny _ _ (field (.ref e) 2 >>= _) _ _ _;refine wpAny_bind (wpAny_field he rfl (x:=.ref it) rfl ?_);refine wpAny_bind (oh hh hit hl hx fun h' x he' hx'=>?_);obtain⟨o,ho,hc⟩:=hx';refine wpAny_bind (wpAny_isInstance (T:="StopIteration") (b:=true) ⟨o,ho,hc⟩ isSubtype_stop ?_);exact wpAny_pure (hQ _ he')

theorem oi (l:Addr)(items:Array Value)(n:Nat)(dct:Option Addr)(sl:Array (Option Value)) :
  Meets (Builtin.«enumerate.__new__» ⟨[.type "enumerate",.ref l],[]⟩) (fun _ R s=>s.heap.get? l=some { cls:=.type "tuple",dict:=dct,data:=.seq items n,slots:=sl } /\
   R (.ok (.ret (.ref (s.heap.push { cls:=.type "tuple_iterator",data:=.fields #[.ref l,.int 0 0] }).objs.size)))
    { s with heap:=(s.heap.push { cls:=.type "tuple_iterator",data:=.fields #[.ref l,.int 0 0] }).push { cls:=.type "enumerate",data:=.fields #[.none,.bool false,.ref s.heap.objs.size,rawInt 0,.none,.none] } }) :=
 .of_wp fun prog w A R s h=>by
  obtain⟨hp,g,d,tk,os⟩:=s;obtain⟨hl,h⟩:=h;have C4:=sub_enumerate;have hL:Heap.IsTuple (Shared.heap ⟨hp,g,d,tk,os⟩) l items:=⟨_,hl,rfl,n,rfl⟩
  wp_walk using wpAny_loadPart' hl
  refine wpAny_stack_any fun st=>wpAny_pure ?_
  split
  ·rename_i c _ _ _ _ _;cases (c == Value.type "enumerate")
   ·wp_walk using wpAny_loadPart' hl,wpAny_pyIter_tuple hL
    exact⟨_,rfl,h⟩
   ·wp_walk using wpAny_loadPart' hl,wpAny_pyIter_tuple hL
    exact⟨_,rfl,h⟩
  ·wp_walk using wpAny_loadPart' hl,wpAny_pyIter_tuple hL
   exact⟨_,rfl,h⟩
theorem pG {l:Addr}{items:Array Value}{Q:Value->Shared->Prop}(hL:s.heap.IsTuple l items)
  (h:∀ h',IsEnum h' (s.heap.objs.size+1) s.heap.objs.size 0 .none->h'.IsTupleIter s.heap.objs.size l 0->h'.objs.size=s.heap.objs.size+2 ->
   (∀ b o,s.heap.get? b=some o->h'.get? b=some o)->Q (.ref (s.heap.objs.size+1)) { s with heap:=h' }) :
  wpAny (model prog w) A (call (.type "enumerate") [.ref l]) Q E s:=by
 obtain⟨⟨c,dct,dt,sl⟩,hl,hc,n,hd⟩:=hL
 replace hc:c=.type "tuple":=hc
 replace hd:dt=.seq items n:=hd
 subst hc hd;refine callType_new F.called_enumerate (by decide) (F.typeCall_enumerate_1 _) (F.newCall_enumerate_1 _) (fun obj=>F.args_object_init_2 obj _) F.entry_enumerate_new
  (oi l items n dct sl) ⟨hl,?_⟩
 have hz:(s.heap.push { cls:=.type "tuple_iterator",data:=.fields #[.ref l,.int 0 0] }).objs.size=s.heap.objs.size+1:=Kc ..;show _/\_;rw[hz];have he:IsEnum ((s.heap.push { cls:=.type "tuple_iterator",data:=.fields #[.ref l,.int 0 0] }).push
   { cls:=.type "enumerate",data:=.fields #[.none,.bool false,.ref s.heap.objs.size,rawInt 0,.none,.none] }) (s.heap.objs.size+1) s.heap.objs.size 0 .none:=by
  have:=Ir (s.heap.push { cls:=.type "tuple_iterator",data:=.fields #[.ref l,.int 0 0] })
   (o:={ cls:=.type "enumerate",data:=.fields #[.none,.bool false,.ref s.heap.objs.size,rawInt 0,.none,.none] }) rfl
  rw[hz] at this;exact this
 refine⟨⟨_,he,rfl⟩,h _ he ⟨_,HU _ (Ir _ rfl),rfl,rfl⟩ (by rw[Kc,hz]) fun b o x=>HU _ (HU _ x)⟩
end
end L2E

namespace L2
open PySem PySem.Spec PyProof.Rows
noncomputable def Ite (K:HS)(a:Addr):It :=
 ⟨fun i H=>∃ xs x,SqT K H a xs/\xs[i]?=some x,fun i H y H'=>∃ t x,y=.ref t/\H t=none/\H'=upd H t (.tup [.int i,x])/\∀ xs,SqT K H a xs->xs[i]?=some x,fun i H=>∃ xs,SqT K H a xs/\xs.length<=i⟩
theorem vB {P:Program}{w:World}{K:HS}{elts:List Expr}{x1:Nat}{tp:Pos}(a e it:Addr)(hei:e≠it) :
  Turn P w K (.Tuple elts x1 tp) (Ite K a) [e,it] e (fun i h=>(∃ old,IsEnum h e it i old)/\h.IsTupleIter it a i) where
 mem:=by simp
 obj:=fun i h st b hb=>by
  obtain⟨⟨old,he⟩,hit⟩:=st;rcases IA.mp hb with rfl | hb
  ·exact⟨_,he,fun v z=>by
    have z':Data.fields _=Data.cell v:=z;cases z'⟩
  ·have e1:b=it:=by simpa using hb
   subst e1;obtain⟨o,e,c,d⟩:=hit;exact⟨o,e,fun v z=>by rw[d] at z;cases z⟩
 keep:=fun i h h' st k=>⟨let ⟨old,he⟩:=st.1;⟨old,k e (by simp) _ he⟩,let ⟨o,ho,r⟩:=st.2;⟨o,k it (by simp) o ho,r⟩⟩
 item:=by
  intro X hP hw hK hc i pins s σ H E I hf st hg;subst hP hw hK;obtain⟨⟨old,he⟩,hit⟩:=st;obtain⟨xs,x,hq,hx⟩:=hg;obtain⟨its,rv,p,hz⟩:=I.tuple hq;obtain⟨u,hu,ru⟩:=rv.get hx;obtain⟨f0,f1,f2,f3,f4,f5⟩:=hf e (by simp);obtain⟨g0,g1,g2,g3,g4,g5⟩:=hf it (by simp);refine L2E.k6 he hit (show s.heap.IsTuple a its.toArray from p) (x:=u) (by simpa using hu) hei fun h' ho' yg hT hsz hk=>?_
  refine⟨_,rfl,wpAny_letOwnedTupleGo_enum ho' fun h'' Gd yh=>?_⟩;have hlt:e<s.heap.objs.size:=Il he;have k2:∀ b o,b≠e->b≠it->s.heap.get? b=some o->h''.get? b=some o:=fun b o h1 h2 q=>(yh.2 b h1).trans (hk b o h1 h2 q)
  have hT2:h''.get? s.heap.objs.size=some { cls:=.type "tuple",data:=.seq #[.int i s.toks,u] }:=(yh.2 _ (J9 hlt)).trans hT;have hfr:H s.heap.objs.size=none:=I.hok.fresh (HV _);have neT:∀ {b:Addr} {o:Obj},s.heap.get? b=some o->b≠s.heap.objs.size:=fun q=>IB (Il q)
  have trk:∀ {b:Addr} {o:HO},H b=some o->b≠e/\b≠it:=fun q=>⟨fun z=>(by rw[z,f0] at q;cases q),fun z=>(by rw[z,g0] at q;cases q)⟩
  have I2:Inv X pins σ (upd H s.heap.objs.size (.tup [.int i,x])) { s with heap:=h'',toks:=s.toks+1 }:=by
   refine I.step (g':=s.gens) (d':=s.drawn) (ch:=[e,it]) (fun b hb=>?_) (fun b o _ _ hch q _=>k2 b o (fun z=>hch (by simp[z])) (fun z=>hch (by simp[z])) q) (fun b o _ _ hch q _=>⟨o.slots,k2 b o (fun z=>hch (by simp[z])) (fun z=>hch (by simp[z])) q⟩)
    (fun b o _ q n=>by rw[aE (neT q)];exact n) (fun b o hch q=>⟨o,k2 b o (fun z=>hch (by simp[z])) (fun z=>hch (by simp[z])) q⟩) (fun b ys q=>by rw[aE (aM q hfr)];exact q) (fun b o ys q=>by rw[aE (aM q hfr)];exact q)
    (fun b ps q=>⟨#[],by rw[aE (aM q hfr),q];simp⟩) (fun m hm=>?_) (fun b v q=>?_) I.bare
   ·rcases IA.mp hb with rfl | hb
    ·exact⟨f3,f1,f4,f5⟩
    ·have e1:b=it:=by simpa using hb
     subst e1;exact⟨g3,g1,g4,g5⟩
   ·obtain⟨o,es,ep,ho,r⟩:=hm;exact⟨o,es,ep,k2 _ o (Ne.symm f1) (Ne.symm g1) ho,r⟩
   ·by_cases hb:b=s.heap.objs.size
    ·subst hb;rw[ah] at q;cases q;exact⟨by show 2<=sizeLine;decide,[.int i s.toks,u],.cons ⟨_,rfl⟩ (.cons ru .nil),_,hT2,rfl,_,rfl⟩
    ·rw[aE hb] at q;refine(I.hok b v q).qJ (fun c o hc z=>?_) (fun c z=>by rw[aE (aM z hfr)];exact z) fun c ys z=>by rw[aE (aM z hfr)];exact z
     rcases hc with rfl | hc
     ·exact k2 c o (trk q).1 (trk q).2 z
     ·exact k2 c o (trk hc).1 (trk hc).2 z
  refine⟨.ref s.heap.objs.size,_,I2,rfl,⟨_,x,rfl,hfr,rfl,fun ys hy=>by rw[I.pU hy hq];exact hx⟩,⟨⟨u,by simpa using Gd⟩,?_⟩,fun b hb=>?_⟩
  ·obtain⟨o,q,r⟩:=yg;exact⟨o,(yh.2 it (Ne.symm hei)).trans q,r⟩
  ·rcases IA.mp hb with rfl | hb
   ·rw[aE (IB hlt)];exact f0
   ·have e1:b=it:=by simpa using hb
    subst e1;obtain⟨o,q,_⟩:=hit;rw[aE (neT q)];exact g0
 done:=by
  intro X hP hw hK hc i pins s σ H E I hf st hg;subst hP hw hK;obtain⟨⟨old,he⟩,hit⟩:=st;obtain⟨xs,hq,hx⟩:=hg;obtain⟨its,rv,p,hz⟩:=I.tuple hq;obtain⟨g0,g1,g2,g3,g4,g5⟩:=hf it (by simp);have hl:=rv.length;exact L2E.l8 (I.ok.hd hc) he hit (show s.heap.IsTuple a its.toArray from p) (by simp;omega) fun h' eb=>⟨rfl,I.turned (t':=s.toks) (fun b o hb q=>eb b o hb q) g0 g1 g3 g4 g5⟩
 self:=fun _ _ _ _ _ st h=>let ⟨_,he⟩:=st.1;wpAny_pyIter_enum he h
section
variable {X:Cx}
noncomputable def EG (K:HS)(ta:TA):TI:=fun σ H R=>ta σ H fun vs H1=>∃ a,vs=[.ref a]/\(∃ xs,SqT K H1 a xs)/\R (Ite K a) H1
theorem rj {K : HS}{es : List Expr}{k : Nat}{t : TGs}{n : Nat}{pos : Pos}(hK : X.K=K)(hc : X.calm=true)(h : PGs X es t)
    (hn : (assignEach es X.env).length=n := by rfl) (hst : (assignEach es X.env).findIdx? (·.1)=none := by rfl) : PG X (.Tuple es k pos) (Eh K n t) := hK ▸ j5 hc h hn hst
theorem tV {a:Expr}{ta:TA}{p pos:Pos}{elts:List Expr}{x1:Nat}{tp:Pos}(hg:Gl X "enumerate")(hm:X.mg "enumerate" = none)(ha:PA X [a] ta)(hs:starEach [a] X.env=[(false,eval a X.env)]:=by rfl) :
  PI X (.Tuple elts x1 tp) (.Call (.Name "enumerate" p) [a] [] pos) (EG X.K ta):=by
 intro pins s σ H R I h;refine Call_ (jZ I hg hm rf (J4 (thn (ha pos pins s σ H _ I h) fun us s1 ⟨vs,H1,I1,r1,q1⟩=>?_) hs rfl));obtain⟨l,e,⟨xs,hq⟩,q⟩:=q1;subst e;cases r1 with
 | cons r rr =>
  cases rr;cases r;obtain⟨its,rv,ht,hz⟩:=I1.tuple hq;refine L2E.pG (show s1.heap.IsTuple l its.toArray from ht) fun h' he hit hsz hk=>?_
  have I2:Inv X pins σ H1 { s1 with heap:=h' }:=I1.kept (t':=s1.toks) hk;refine wpAny_pyIter_enum he ?_;refine⟨s1.heap.objs.size+1,[s1.heap.objs.size+1,s1.heap.objs.size],_,_,H1,rfl,I2,vB l _ _ (Nat.succ_ne_self _),⟨⟨_,he⟩,hit⟩,fun b hb=>?_,q⟩;rcases IA.mp hb with rfl | hb
  ·exact(I1.qO (Kj _) (I1.hok.fresh (Kj _)))
  ·have e:b=s1.heap.objs.size:=by simpa using hb
   subst e;exact I1.qO (HV _) (I1.hok.fresh (HV _))
theorem zy {K:HS}{a:Addr}{xs:List V}{g:TG}{tb:TS}{D:Ends}{σ:St}{H:Hp}(Pv:Nat->St->Hp->Prop)(h0:Pv 0 σ H)(hl:∀ i σ H,i<=xs.length->Pv i σ H->SqT K H a xs)
  (hs:∀ i x t σ H,xs[i]?=some x->Pv i σ H->H t=none->g (.ref t) σ (upd H t (.tup [.int i,x])) fun σ2 H2=>tb { D with nx:=Pv (i+1),ct:=Pv (i+1),bk:=D.nx } σ2 H2) (hd:∀ σ H,Pv xs.length σ H->D.nx σ H) :
  ∃ W:Nat->Nat->St->Hp->Prop,(∃ m,W 0 m σ H)/\∀ i m σ H,W i m σ H ->
   ((Ite K a).stop i H/\D.nx σ H)\/((Ite K a).go i H/\∃ N:St->Hp->Prop,(∀ σ' H',N σ' H'->∃ m',m'<m/\W (i+1) m' σ' H')/\∀ x H',(Ite K a).yld i H x H'->g x σ H' fun σ2 H2=>tb { D with nx:=N,ct:=N,bk:=D.nx } σ2 H2):=by
 refine⟨fun i m σ H=>m=xs.length-i/\i<=xs.length/\Pv i σ H,⟨xs.length,by simp,IT _,h0⟩,?_⟩;rintro i m σ H ⟨rfl,hi,p⟩;have q:=hl i σ H hi p;by_cases hlt:i<xs.length
 ·refine .inr ⟨⟨xs,xs[i],q,by simp[hlt]⟩,Pv (i+1),fun σ' H' p'=>⟨xs.length-(i+1),by omega,rfl,hlt,p'⟩,fun x H' y=>?_⟩;obtain⟨t,z,e,hn,e2,y⟩:=y;subst e e2;exact hs i z t σ _ (y xs q) p hn
 ·have e:i=xs.length:=by omega
  subst e;exact .inl ⟨⟨xs,q,HV _⟩,hd σ H p⟩
theorem yi {K:HS}{a:Addr}{xs:List V}{g:TG}{tt:TT}{te:TE}{D:Addr}{Q:VK}{σ₀:St}{H₀:Hp}(Pv:Nat->St->Hp->Prop)(h0:Pv 0 σ₀ H₀)(hl:∀ i σ H,i<=xs.length->Pv i σ H->SqT K H a xs)
  (hs:∀ i x t σ H,xs[i]?=some x->Pv i σ H->H t=none->g (.ref t) σ (upd H t (.tup [.int i,x])) fun σ3 H3=>tt σ3 H3 fun b H4=>if b=true then te σ3 H4 fun v H5=>∃ ys,H5 D=some (.lst ys)/\ys.length<sizeLine/\Pv (i+1) σ3 (upd H5 D (.lst (ys++[v]))) else Pv (i+1) σ3 H4)
  (hd:∀ σ H,Pv xs.length σ H->Q (.ref D) H):tN (Ite K a) g tt te D Q σ₀ H₀:=by
 refine⟨fun i m σ H=>m=xs.length-i/\i<=xs.length/\Pv i σ H,⟨xs.length,by simp,IT _,h0⟩,?_⟩;rintro i m σ H ⟨rfl,hi,p⟩;have q:=hl i σ H hi p;by_cases hlt:i<xs.length
 ·refine .inr ⟨⟨xs,xs[i],q,by simp[hlt]⟩,Pv (i+1),fun σ' H' p'=>⟨xs.length-(i+1),by omega,rfl,hlt,p'⟩,fun x H' y=>?_⟩;obtain⟨t,z,e,hn,e2,y⟩:=y;subst e e2;exact hs i z t σ _ (y xs q) p hn
 ·have e:i=xs.length:=by omega
  subst e;exact .inl ⟨⟨xs,q,HV _⟩,hd σ H p⟩
theorem tW {K:HS}{a:Addr}{xs:List V}{g:TG}{tt:TT}{te:TE}{D:Addr}{Q:VK}{σ₀:St}{H₀:Hp}(Pv:Nat->St->Hp->Prop)(h0:Pv 0 σ₀ H₀)(hl:∀ i σ H,i<=xs.length->Pv i σ H->SqT K H a xs)
  (hs:∀ i x σ H,xs[i]?=some x->Pv i σ H->g x σ H fun σ3 H3=>tt σ3 H3 fun b H4=>if b=true then te σ3 H4 fun v H5=>∃ ys,H5 D=some (.lst ys)/\ys.length<sizeLine/\Pv (i+1) σ3 (upd H5 D (.lst (ys++[v]))) else Pv (i+1) σ3 H4)
  (hd:∀ σ H,Pv xs.length σ H->Q (.ref D) H):tN (Itt K a) g tt te D Q σ₀ H₀:=by
 refine⟨fun i m σ H=>m=xs.length-i/\i<=xs.length/\Pv i σ H,⟨xs.length,by simp,IT _,h0⟩,?_⟩;rintro i m σ H ⟨rfl,hi,p⟩;have q:=hl i σ H hi p;by_cases hlt:i<xs.length
 ·refine .inr ⟨⟨xs,xs[i],q,by simp[hlt]⟩,Pv (i+1),fun σ' H' p'=>⟨xs.length-(i+1),by omega,rfl,hlt,p'⟩,fun x H' y=>?_⟩;obtain⟨e,y⟩:=y;subst e;exact hs i x σ _ (y xs q) p
 ·have e:i=xs.length:=by omega
  subst e;exact .inl ⟨⟨xs,q,HV _⟩,hd σ H p⟩

theorem rn (hc:X.calm=true):eI X (.builtin "min") (fun xs H Q=>∃ (p:Addr) (ns:List Int),xs=[.ref p]/\SqT X.K H p (ns.map V.int)/\0<ns.length/\∀ M:Int,M∈ns->(∀ a∈ns,M<=a)->Q (.int M) H):=by
 intro pins s σ H xs us Q I r h;obtain⟨p,ns,rfl,hq,hne,q⟩:=h;obtain⟨u,rfl,ru⟩:=r.one;cases ru;obtain⟨its,rv,ht,hz⟩:=I.tuple hq;have hit:s.heap.IsTuple p its.toArray:=ht;have hlen:ns.length=its.length:=by have z:=rv.length;rwa[HQ] at z
 have hlt:p<s.heap.objs.size:=let ⟨_,e,_⟩:=ht;Il e
 have val:∀ (i:Nat) (v:Value),its.toArray[i]?=some v->i<ns.length/\∃ t,v=.int (ns.getD i 0) t:=fun i v hv=>by
  have hv:its[i]?=some v:=by simpa using hv
  have hi:i<its.length:=(HR.mp hv).1;have hi2:i<ns.length:=by omega
  have e1:(ns.map V.int)[i]?=some (.int ns[i]):=by rw[HX,HP hi2];rfl
  obtain⟨u,hu,t,e⟩:=rv.get e1;rw[hv] at hu;cases hu;exact⟨hi2,t,by rw[e];simp[Kb,HP hi2]⟩
 refine call_min_walk (wpAny_pyIter_tuple hit ?_);refine⟨_,_,_,_,_,_,_,rfl,Walks.tuple (A:=X.A.in1) (I.ok.hd hc) s.heap.objs.size p (IB hlt) its.toArray,⟨⟨_,Ir _ rfl,rfl,rfl⟩,hit.push _⟩,fun b hb=>?_,by rw[HZ];omega,
  CmpOf.ints_lt (fun i=>ns.getD i 0) (fun i v hv=>(val i v hv).2),fun v h' tk hP hk=>?_⟩
 ·rw[Kc];rcases IA.mp hb with e | e
  ·rw[e];exact Kl _
  ·have e:b=p:=by simpa using e
   rw[e];exact JB hlt
 ·obtain⟨h1,t,rfl⟩:=val _ v hP;obtain⟨h2,h3⟩:=argBest_lt (fun i=>ns.getD i 0) (its.toArray.size-1);have I':Inv X pins σ H { s with heap:=h',toks:=tk }:=I.kept fun b o e=>hk b o (fun z=>absurd (Ih.mp z) (IB (Il e))) (HU _ e)
  refine⟨.int _,H,I',⟨t,rfl⟩,q _ ?_ fun a ha=>?_⟩
  ·have e:ns.getD (argBest (fun i j=>decide (ns.getD i 0<ns.getD j 0)) (its.toArray.size-1)) 0=ns[argBest (fun i j=>decide (ns.getD i 0<ns.getD j 0)) (its.toArray.size-1)]'h1:=by rw[Ji,HP h1];rfl
   rw[e];exact J1 _
  ·obtain⟨j,hj⟩:=Jx.mp ha;have hjl:j<ns.length:=(HR.mp hj).1;have z:=h3 j (by rw[HZ];omega);have e:ns.getD j 0=a:=by simp[Kb,hj]
   rw[e] at z;exact z

end
end L2

namespace L2
open PySem PySem.Spec PyProof.Rows

theorem bL.obj {P:Program}{w:World}{H:Hp}{h:Heap}{a:Addr}:∀ {o:HO},bL P w H h a o->∃ u,h.get? a=some u:=fun {o} x=>by
 cases o with
 | lst xs=>obtain⟨_,_,_,_,e⟩:=x;exact⟨_,e⟩
 | tup xs=>obtain⟨_,_,_,o,e,_⟩:=x;exact⟨_,e⟩
 | dK kvs=>obtain⟨_,_,_,_,o,_,_,e,_⟩:=x;exact⟨_,e⟩
 | dT kvs=>obtain⟨_,_,_,_,o,_,_,e,_⟩:=x;exact⟨_,e⟩
 | set S n=>obtain⟨o,_,_,_,e,_⟩:=x;exact⟨_,e⟩
 | ins C dx fs=>obtain⟨_,_,_,e,_⟩:=x;exact⟨_,e⟩
 | own y=>exact x
 | xd fs=>obtain⟨_,⟨_,_,_,e,_⟩,_⟩:=x;exact⟨_,e⟩
 | rng lo hi=>obtain⟨_,_,_,e⟩:=x;exact⟨_,e⟩
 | frz ob u=>obtain⟨e,_⟩:=x;exact⟨_,e⟩
 | tbl ps=>exact⟨_,(show h.get? a=some _ from x)⟩
 | met f y=>exact⟨_,(show h.get? a=some _ from x)⟩
 | ext φ=>obtain⟨_,e,_⟩:=x;exact e
noncomputable def zA (h:Heap)(l:List Env):Heap:=MS h (frs l)
theorem tX {h:Heap}{l:List Env}{b:Addr}{o:Obj}(e:h.get? b=some o)(n:b ∉ frs l):(zA h l).get? b=some o:=L7 _ e n
theorem xh {h:Heap}{l:List Env}{b:Addr}{o:Obj}(e:(zA h l).get? b=some o):h.get? b=some o:=Md _ e
theorem tY {h base:Heap}{l:List Env}(x:h.FunFrames base l):h.FunFrames (zA h l) l:=PySem.W.funFrames_hide x fun env he a hf=>Ld.mpr ⟨env,he,hf⟩

noncomputable def Sta (B:Heap)(l:List Env)(a:Addr)(cls:Value)(h:Heap):Prop:=∃ a0,
 (B.StaysIn h/\B.get? a=none/\h.FunFrames B l/\∃ oe vs,h.get? a=some oe/\oe.cls=cls/\oe.data=.fields vs/\vs[1]?=some .none/\vs[0]?=some a0) \/
 Heap.FlyingW B l a cls a0 h\/∃ L env outer,l=env::outer/\env.frame=some L/\Heap.HeldW B l a cls a0 L h
theorem Sta.stays {B h:Heap}{l:List Env}{a:Addr}{cls:Value}(x:Sta B l a cls h):B.StaysIn h:=by
 obtain⟨a0,x | x | ⟨_,_,_,_,_,x⟩⟩:=x
 ·exact x.1
 ·exact x.1
 ·exact x.1
theorem Sta.frames {B h:Heap}{l:List Env}{a:Addr}{cls:Value}(x:Sta B l a cls h):h.FunFrames B l:=by
 obtain⟨a0,x | x | ⟨_,_,_,_,_,x⟩⟩:=x
 ·exact x.2.2.1
 ·exact x.2.2.1
 ·exact x.2.2.1
section
variable {M:Model}{A:Around}{E:Value->Shared->Prop}{s:Shared}{B:Heap}{env:Env}{outer:List Env}{L a:Addr}{cls:Value}
theorem tZ {Q:Unit->Shared->Prop}(hfr:A.frames=some (env::outer))(hf:env.frame=some L)(x:Sta B (env::outer) a cls s.heap)
  (hQ:∀ h' a0,Heap.HeldW B (env::outer) a cls a0 L h'->s.heap.UpToSlots h'->Q () { s with heap:=h' }):wpAny M A (noteFrame (.ref a) env) Q E s:=by
 obtain⟨a0,⟨x1,x2,x3,oe,vs,he,hc,hd,h1,h0⟩ | x | ⟨L',HC,Ge,e1,e2,x⟩⟩:=x
 ·unfold noteFrame;simp only[hf];refine wpAny_bind (wpAny_field he hd h1 ?_);rw[if_neg (by decide)];refine wpAny_entryW hfr x3 hf he x1 x2 hd (Je.mp h1).1 h0 fun h' hN=>?_
  obtain⟨k1,k2,k3,k4⟩:=hN;rw[hc] at k3;exact hQ h' a0 ⟨k1,x2,k2,k3⟩ k4
 ·exact wpAny_looks_onW hfr hf x fun h' k1 k2=>hQ h' a0 k1 k2
 ·cases e1;rw[hf] at e2;cases e2;exact wpAny_noteFrame_againW hf x.2.2.2 (hQ s.heap a0 x (Heap.UpToSlots.refl _))
theorem yj {Q:Unit->Shared->Prop}(hfr:A.frames=some (env::outer))(hf:env.frame=some L)(x:Sta B (env::outer) a cls s.heap)
  (hQ:∀ h' a0,Heap.FlyingW B outer a cls a0 h'->s.heap.UpToSlots h'->Q () { s with heap:=h' }):wpAny M A (leaving env (.ref a)) Q E s:=by
 unfold leaving;refine wpAny_bind (tZ hfr hf x fun h1 a0 k1 k2=>?_);refine wpAny_landsW k1 fun h2 k3 k4=>?_
 obtain⟨c1,c2,⟨_,_,c3⟩,c4⟩:=k3;exact hQ h2 a0 ⟨c1,c2,c3,c4⟩ (k2.trans k4)
theorem yk {F:Value->Shared->Prop}{a0:Value}(hf:env.frame=some L)(x:Heap.HeldW B (env::outer) a cls a0 L s.heap)
  (hQ:∀ h',Heap.HeldW B (env::outer) a cls a0 L h'->s.heap.UpToSlots h'->F (.ref a) { s with heap:=h' }):cameBackBy M A env F (.ref a) s:=by
 obtain⟨hkb,hen,hl,oe,vs,T,oT,ts,he,Cw,hd,h1,hnT,hTe,hT,hdT,h3⟩:=x;unfold cameBackBy;refine wpAny_bind (wpAny_field he hd h1 ?_);rw[if_neg (show ¬ ((Value.ref T == Value.none)=true) from Io)];rw[hf];have EH:3<ts.size:=(Je.mp h3).1;have other:∀ b,b≠T->(s.heap.update T (Obj.mapFields (·.setIfInBounds 3 ((some L).elim Value.none fun f=>rawInt f)))).get? b=s.heap.get? b:=fun b hb=>Jw _ _ (Ne.symm hb)
 have t7:∀ b o,s.heap.get? b=some o->(∀ vs,o.data≠.fields vs)->b≠T:=fun b o hb hnf q=>by
  rw[q,hT] at hb;injection hb with hb;subst hb;exact hnf ts hdT
 unfold setFlight;refine wpAny_bind (wpAny_field he hd h1 ?_);rw[if_pos (show (Value.ref T != Value.none)=true from by simp)];refine wpAny_setField hT hdT EH (hQ _ ⟨fun b o hbo=>(other b fun q=>by rw[q,hnT] at hbo;cases hbo).trans (hkb b o hbo),hen,
  hl.of_keeps fun b o hb hnf=>⟨o,(other b (t7 b o hb hnf)).trans hb,rfl⟩,?_⟩ fun b o hb hnf=>⟨o.slots,(other b (t7 b o hb hnf)).trans hb⟩)
 exact⟨oe,vs,T,_,_,(other a (Ne.symm hTe)).trans he,Cw,hd,h1,hnT,hTe,JU _ hT (Obj.isFreed_of_fields (Obj.data_mapFields hdT _)),Obj.data_mapFields hdT _,by simp[EH]⟩
end

structure XAt (P:Program) (w:World) (l:List Env) (ex:List Addr) (H:Hp) (s:Shared) (B:Heap) (a:Addr) (cls:Value) (H':Hp) (s':Shared):Prop where
 os:s'.os=s.os
 bare:AllBare s'.gens
 un:Un (frs l) ex H H' s.heap s'.heap
 hok:HOk P w H' s'.heap
 na:H' a=none
 sta:Sta B l a cls s'.heap
 old:∀ b o,s.heap.get? b=some o->b ∉ frs l->b ∉ ex->∃ o',s'.heap.get? b=some o'/\B.get? b=some o'
 trk:∀ b,H' b≠none->∃ o,s'.heap.get? b=some o/\B.get? b=some o
theorem XAt.move {P:Program}{w:World}{l l':List Env}{ex:List Addr}{H H':Hp}{s s':Shared}{B h':Heap}{a:Addr}{cls:Value}(x:XAt P w l ex H s B a cls H' s')(k:s'.heap.UpToSlots h')(st:Sta B l' a cls h')
  (C4:∀ b∈frs l',b∈frs l) (hin:∀ b o,s.heap.get? b=some o->b∈frs l->b∈frs l') (hx:∀ b∈frs l,b ∉ ex):XAt P w l' ex H s B a cls H' { s' with heap:=h' }:=by
 have sB:=st.stays;have nf:∀ b∈frs l,∀ o,s'.heap.get? b=some o->∀ vs,o.data≠.fields vs:=fun b hb o e=>by
  obtain⟨_,o',e',d⟩:=x.sta.frames.mem hb;rw[e] at e';cases e';exact d
 have oldK:∀ b o,s.heap.get? b=some o->b ∉ frs l'->b ∉ ex->∃ o',s'.heap.get? b=some o'/\B.get? b=some o':=fun b o e hb he=>x.old b o e (fun z=>hb (hin b o e z)) he
 refine⟨x.os,x.bare,⟨fun b o e n hb he=>?_,fun b o e n hb he=>?_,x.un.free,fun b o e he=>?_,x.un.kI,x.un.jY,x.un.kJ⟩,fun b u e=>?_,x.na,st,fun b o e hb he=>?_,fun b hb=>?_⟩
 ·have e1:=x.un.keep b o e n (fun z=>hb (hin b o e z)) he;obtain⟨o',e2,e3⟩:=oldK b o e hb he;rw[e1] at e2;cases e2;exact sB b _ e3
 ·obtain⟨sl,e1⟩:=x.un.slot b o e n (C4 b hb) he;obtain⟨sl',e2⟩:=k b _ e1 (nf b (C4 b hb) _ e1);exact⟨sl',e2⟩
 ·by_cases hb:b∈frs l
  ·obtain⟨_,o',e',d⟩:=x.sta.frames.mem hb;obtain⟨sl',e2⟩:=k b _ e' d;exact⟨_,e2⟩
  ·obtain⟨o',_,e3⟩:=x.old b o e hb he;exact⟨o',sB b _ e3⟩
 ·refine(x.hok b u e).qJ (fun c v hc q=>?_) (fun _ q=>q) fun _ _ q=>q
  have hn:H' c≠none:=by
   rcases hc with rfl | hc
   ·rw[e];exact fun z=>nomatch z
   ·rw[hc];exact fun z=>nomatch z
  obtain⟨o',e1,e2⟩:=x.trk c hn;rw[q] at e1;cases e1;exact sB c _ e2
 ·obtain⟨o',_,e3⟩:=oldK b o e hb he;exact⟨o',sB b _ e3,e3⟩
 ·obtain⟨o',_,e3⟩:=x.trk b hb;exact⟨o',sB b _ e3,e3⟩

noncomputable def CXo (P:Program)(w:World):CXT:=fun outer H s E e s'=>∃ a cls H' B,e=.ref a/\XAt P w outer [] H s B a cls H' s'/\E cls none H'
noncomputable def jo (X:Cx)(E:XK)(e:Value)(s':Shared):Prop:=∃ a cls H' B,e=.ref a/\XAt X.prog X.w X.stack X.ex X.H₀ X.s₀ B a cls H' s'/\E cls none H'
section
variable {X:Cx}{E:XK}
theorem EI {F:Value->Shared->Prop}:Passes (CXo X.prog X.w) (X.ig (jo X E)) E:=fun pins σ H s e s' I h=>by
 have I:=I.dI;obtain⟨a,cls,H',B,rfl,x,hE⟩:=h;have U:Un (frs X.stack) X.ex X.H₀ H X.s₀.heap s.heap:=I.base.mono (fun b hb=>by
  rcases I.ok.stk with z | ⟨z,_⟩
  ·rw[z];exact hb
  ·rw[z];unfold frs;rw[JR];split
   ·exact hb
   ·exact Im _ hb) fun b hb=>hb
 have U2:Un (frs X.stack) X.ex H H' s.heap s'.heap:=x.un.mono (fun b hb=>hb) fun b hb=>absurd hb (by simp)
 refine⟨a,cls,H',B,rfl,⟨x.os.trans I.os,x.bare,U.trans U2,x.hok,x.na,x.sta,fun b o q hb he=>?_,x.trk⟩,hE⟩;obtain⟨o1,e1⟩:=U.there b o q he;exact x.old b o1 e1 hb (by simp)
end
structure Own (X:Cx):Prop where
 ok:X.Ok
 top:X.stack=X.env::X.outer
 fr:X.env.frame=some X.env.locals
 ex:X.ex=[]
theorem Own.loc {X:Cx}(o:Own X):∀ b o',X.s₀.heap.get? b=some o'->b∈frs X.stack->b∈frs X.outer:=fun b o' e hb=>by
 rw[o.top] at hb;unfold frs at hb;rw[JR,o.fr] at hb;rcases IA.mp hb with z | z
 ·subst z;exact absurd (IY (Il e) o.ok.above) (JK _)
 ·exact z
theorem om {X:Cx}{E:XK}(O:Own X):PassesOwn (model X.prog X.w) X.A X.env (jo X E):=fun e s' h=>by
 obtain⟨a,cls,H',B,rfl,x,hE⟩:=h;have hfr:X.A.frames=some (X.env::X.outer):=by rw[<- O.top];exact O.ok.frames
 have x':=x;have st:=x.sta;rw[O.top] at st;show wpAny _ _ (noteFrame (.ref a) X.env) _ _ s';refine tZ hfr O.fr st fun h1 a0 k1 k2=>?_
 have x1:XAt X.prog X.w X.stack X.ex X.H₀ X.s₀ B a cls H' { s' with heap:=h1 }:=x.move k2 (by rw[O.top];exact⟨a0,.inr (.inr ⟨_,_,_,rfl,O.fr,k1⟩)⟩) (fun b hb=>hb) (fun b o _ hb=>hb) fun b _=>by rw[O.ex];simp
 refine yk (s:={ s' with heap:=h1 }) O.fr k1 fun h2 k3 k4=>?_
 exact⟨a,cls,H',B,rfl,x1.move k4 (by rw[O.top];exact⟨a0,.inr (.inr ⟨_,_,_,rfl,O.fr,k3⟩)⟩) (fun b hb=>hb) (fun b o _ hb=>hb) fun b _=>by rw[O.ex];simp,hE⟩

structure vC (K:HS) (mg:Str->Option Value) (x:Str) (C:Addr):Prop where
 g:mg x=some (.ref C)
 ex:∃ bm newId B zB,Me K C bm newId=true/\ExcBaseFacts B newId zB bm
noncomputable def C5 (C:Addr)(t:TA)(E:XK):TS:=fun _ σ H=>t σ H fun vs H1=>vs.length<=sizeLine/\E (.ref C) none H1
theorem jq {K:HS}{C:Addr}{bmB:List Value}{newId:String}{h:Heap}(X:K.In h)(q:Me K C bmB newId=true) :
  ∃ bm ns nm qn bs hd sn sub ab col dd k0 k1 k2 k3 k5 mN,h.get? C=some (excClassObj nm qn C ns bs bm hd sn sub ab col dd k0 k1 k2 k3 k5 newId)/\h.Ns ns mN/\mN "__init__" = none/\OwnTail h bmB bm:=by
 unfold Me at q
 split at q
 ·rename_i dd cd sl ho
  split at q
  ·rename_i C' bm k0 k1 k2 k3 n k5 hm hs;simp only[Iv,beq_iff_eq,Kx] at q;obtain⟨⟨⟨⟨⟨rfl,rfl⟩,EJ⟩,ht⟩,hok⟩,hni⟩:=q;obtain⟨nm,bs,mro,ns,qn,hd,sn,sub,ab,col,del⟩:=cd;dsimp only at hm EJ hok hni;subst hm EJ;have hsl:sl = #[k0,k1,k2,k3,some (.builtin n),k5]:=by
    obtain⟨l⟩:=sl;simp only at hs;rw[hs]
   subst hsl;exact⟨bm,ns,nm,qn,bs,hd,sn,sub,ab,col,dd,k0,k1,k2,k3,k5,_,X _ _ ho,.of_isNs (PySem.W.isNs_of_in X hok),PySem.W.nsMap_none_of_in X hok hni,PySem.W.tail_of_in X ht⟩
  ·cases q
 ·cases q
theorem t8 {X:Cx}{E:XK}{x:Str}{C:Addr}{np kN pos:Pos}{e₀:Expr}{rest:List Expr}{t:TA}(hc:X.calm=true)(Z:vC X.K X.mg x C)(ha:PA (X.ig (jo X E)) (e₀::rest) t)
  (hg:Gl X x:=by rfl) (hdb:(x == ("__debug__":Str))=false:=by decide) (he:starEach (e₀::rest) X.env=(false,eval e₀ X.env)::starEach rest X.env:=by rfl) (vx:(backTo kN (starEach rest X.env)).any (·.1)=false:=by rfl) :
  PS (X.ig (jo X E)) (.Raise (some (.Call (.Name x np) (e₀::rest) [] kN)) none pos) (C5 C t E):=by
 intro pins s σ H D I h;obtain⟨bmB,newId,Bn,zB,q,FB⟩:=Z.ex;obtain⟨bm,ns,nm,qn,bs,hd,sn,sub,ab,col,dd,k0,k1,k2,k3,k5,mN,hC,hN,hni,T⟩:=jq I.kIn q;have hA:=ha kN pins s σ H _ I h;rw[show starEach (e₀::rest) (X.ig (jo X E)).env=(false,eval e₀ X.env)::starEach rest X.env from he] at hA;refine wpAny_Raise_call_subT (C:=C) (nm:=nm) (q:=qn) (N:=ns) (bs:=bs) (bm:=bm) (hdct:=hd) (sn:=sn) (sub:=sub) (ab:=ab) (col:=col) (dd:=dd) (k0:=k0) (k1:=k1) (k2:=k2) (k3:=k3) (k5:=k5)
  FB (mN:=mN) (T.hasType FB.hasBase) (I.ok.hd hc) (by show (backTo kN (starEach (e₀::rest) X.env)).any (·.1)=false;rw[he];show (false||(backTo kN (starEach rest X.env)).any (·.1))=false;rw[vx];rfl) hni (qN I hg Z.g ⟨rfl,?_⟩ hdb)
 show wpAny _ _ (evalArgs (.ref C) true (backTo kN (starEach (e₀::rest) X.env)) []) _ _ s;rw[he];refine Calls.evalArgs_plain (wpAny_mono hA (fun us s2 h2=>?_) fun _ _ y=>y);obtain⟨vs,H2,I2,r2,hz,hE⟩:=h2;obtain⟨bm',ns',nm',qn',bs',hd',sn',HD,ab',HE,dd',k0',k1',k2',k3',k5',mN',hC2,hN2,HF,T2⟩:=jq I2.kIn q;have J:=I2.dI;have st:∀ b o,X.base.get? b=some o->s2.heap.get? b=some o:=J.bk;have hC':s2.heap.get? C=some (excClassObj nm qn C ns bs bm hd sn sub ab col dd k0 k1 k2 k3 k5 newId):=by
  obtain⟨bm3,ns3,nm3,qn3,bs3,hd3,sn3,EK,ab3,EL,dd3,k03,k13,k23,k33,k53,mN3,hC3,hN3,EM,T3⟩:=jq J.ok.mod.kin q;have e1:=(I.dI.bk _ _ hC3).symm.trans hC;cases e1;exact st _ _ hC3
 have hN':s2.heap.Ns ns mN:=by
  obtain⟨bm3,ns3,nm3,qn3,bs3,hd3,sn3,EK,ab3,EL,dd3,k03,k13,k23,k33,k53,mN3,hC3,hN3,EM,T3⟩:=jq J.ok.mod.kin q;have e1:=(I.dI.bk _ _ hC3).symm.trans hC;injection e1 with e1;injection e1 with _ _ e1 _;injection e1 with e1;injection e1 with _ _ _ e1 _ _ _ _ _ _ _;subst e1;have f1:=hN3.keeps I.dI.bk;have f2:=hN3.keeps st;obtain⟨o1,es1,ep1,g1,g2,g3,g4⟩:=f1;obtain⟨o2,es2,ep2,j1,j2,j3,j4⟩:=hN;rw[g1] at j1;cases j1;rw[g2] at j2;cases j2;have em:mN3=mN:=by funext y;rw[<- g4 y,<- j4 y]
  rw[<- em];exact f2
 have T':OwnTail s2.heap bmB bm:=by
  obtain⟨bm3,ns3,nm3,qn3,bs3,hd3,sn3,EK,ab3,EL,dd3,k03,k13,k23,k33,k53,mN3,hC3,hN3,EM,T3⟩:=jq J.ok.mod.kin q;have e1:=(I.dI.bk _ _ hC3).symm.trans hC;injection e1 with e1;injection e1 with _ _ e1 _;injection e1 with e1;injection e1 with _ _ e1 _ _ _ _ _ _ _ _;injection e1 with _ e1;rw[<- e1];exact T3.keeps st
 refine⟨rfl,by show us.length<=sizeLine;rw[<- r2.length];exact hz,hC',hN',T',fun h' a hx=>?_⟩;have U:Un (frs X.stack) X.ex X.H₀ H2 X.s₀.heap s2.heap:=J.base.mono (fun b hb=>by
  rcases J.ok.stk with z | ⟨z,_⟩
  ·rw[z];exact hb
  ·rw[z];unfold frs;rw[JR];split
   ·exact hb
   ·exact Im _ hb) fun b hb=>hb
 obtain⟨t0,ht1,ht2,ht3⟩:=hx.there;refine⟨a,.ref C,H2,zA s2.heap X.stack,rfl,⟨J.os,J.bare,U.trans (Un.kept hx.keeps),J.hok.kept hx.keeps,?_,⟨_,.inl ⟨fun b o e=>hx.keeps b o (xh e),?_,?_,_,_,ht1,rfl,rfl,rfl,rfl⟩⟩,fun b o e hb he=>?_,fun b hb=>?_⟩,hE⟩
 ·cases z:H2 a with
  | none=>rfl
  | some u =>
   obtain⟨o,e⟩:=(J.hok a u z).obj;rw[hx.new] at e;cases e
 ·cases z:(zA s2.heap X.stack).get? a with
  | none=>rfl
  | some o=>have:=xh z;rw[hx.new] at this;cases this
 ·exact(tY J.stack).of_keeps fun b o e _=>⟨o,hx.keeps b o e,rfl⟩
 ·obtain⟨o1,e1⟩:=U.there b o e he;exact⟨o1,hx.keeps b o1 e1,tX e1 hb⟩
 ·obtain⟨u,hu⟩:=Option.ne_none_iff_exists'.mp hb;obtain⟨o,e⟩:=(J.hok b u hu).obj;exact⟨o,hx.keeps b o e,tX e fun z=>hb (J.qL b z)⟩

theorem Fun.okX {P:Program}{w:World}{K:HS}{mg:Str->Option Value}{base:Heap}{x qual:Str}{st:Stmt}{f:Addr}{fd:FuncData}{N ps:List Str}{k:Nat}{sp:Sp}(F:Fun K x qual st f fd)(S:aN N ps (az st))(len:∀ vs H Q E,sp vs H Q E->vs.length=ps.length)
  (nO:∀ (cdv:Value) (A:Around) (outer:List Env) (s:Shared) (H:Hp) (vs:List V) (Q:VK) (E:XK),eG k (A.deeper (envOfC qual (az st) s.heap.objs.size f cdv))->sp vs H Q E->∀ X:Cx,X=lU (CXo P w) P w K mg base N qual (az st) f cdv A outer s H E ->
   ∃ t,PSs (X.ig (jo X E)) (bO st) t/\t { nx:=fun _ H'=>Q .non H',rt:=Q } (start N vs) H):aS P w K mg base (CXo P w) (k+1) f fd ps sp:=by
 obtain⟨oc,od,kV,doc,pm,an,cdv,ct,osl,rfl,lk,hcd⟩:=F.ex;refine BZ lk hcd S len fun A outer s H vs Q E hr hsp=>?_
 obtain⟨t,h,q⟩:=nO cdv A outer s H vs Q E hr hsp _ rfl;refine⟨t,fun pins s1 σ H1 D I hw=>?_,q⟩;refine wpAny_mono (h pins s1 σ H1 D (I.ig _) hw) (fun _ _ q=>q.dI) fun e s' hx=>?_
 obtain⟨a,cls,H',B,rfl,x,hE⟩:=hx;have O:Own (lU (CXo P w) P w K mg base N qual (az st) f cdv A outer s H E):=⟨I.ok,rfl,rfl,rfl⟩
 show wpAny (model P w) _ (leaving _ (.ref a)) _ _ s';refine yj (outer:=outer) I.ok.frames rfl x.sta fun h' a0 k1 k2=>?_
 refine⟨a,cls,H',B,rfl,x.move k2 ⟨a0,.inr (.inl k1)⟩ (fun b hb=>Im _ hb) O.loc fun b _=>by simp[lU],hE⟩
end L2


namespace L2
open PySem PySem.Spec PyProof.Rows
section
variable {X:Cx}
theorem bK:eI X (.type "tuple") (fun xs H Q=>∃ p ys,xs=[.ref p]/\(H p=some (.lst ys)\/H p=some (.tup ys))/\∀ t H1,aG H H1->H1 t=some (.tup ys)->Q (.ref t) H1):=by
 intro pins s σ H xs us Q I r h;obtain⟨p,ys,rfl,hp,q⟩:=h;refine jT pins s σ H [.ref p] us Q I r ⟨p,ys,rfl,?_⟩;rcases hp with hp | hp
 ·exact .inl ⟨SqL.of hp,fun l hl=>q l _ (aA hl) ah⟩
 ·exact .inr ⟨SqT.of hp,q p H (aG.refl H) hp⟩
theorem EN:Passes (CXo X.prog X.w) X E0:=fun _ _ _ _ _ _ _ h=>by
 obtain⟨_,_,_,_,_,_,z⟩:=h;exact z.elim
theorem vD {x : Str}{st : Stmt}{ps : List Str}{f : Addr}{fd : FuncData}{k : Nat}{sp : Sp}{e : Expr}{es : List Expr}{t : TA}{p pos : Pos}(G : aS X.prog X.w X.K X.mg X.base (CXo X.prog X.w) k f fd ps sp)(F : Fn X.K X.mg x st ps f fd)(hr : eG k X.A)(ha : PA X (e::es) t)
    (hg : Gl X x := by rfl) (hdb : (x == ("__debug__" : Str))=false := by decide) (he : starEach (e::es) X.env=(false, eval e X.env)::starEach es X.env := by rfl) (hpl : (backTo pos (starEach es X.env)).any (·.1)=false := by rfl) :
    PE X (.Call (.Name x p) (e::es) [] pos) (tq sp [] E0 t) := qT G hr hg F.g F.fn.kp F.b .nil EN ha hdb he hpl
theorem oq {E : XK}{x : Str}{st : Stmt}{ps : List Str}{f : Addr}{fd : FuncData}{k : Nat}{sp : Sp}{e : Expr}{es : List Expr}{t : TA}{p pos : Pos}(G : aS X.prog X.w X.K X.mg X.base (CXo X.prog X.w) k f fd ps sp)(F : Fn X.K X.mg x st ps f fd)(hr : eG k X.A)(ha : PA (X.ig (jo X E)) (e::es) t)
    (hg : Gl (X.ig (jo X E)) x := by rfl) (hdb : (x == ("__debug__" : Str))=false := by decide) (he : starEach (e::es) X.env=(false, eval e X.env)::starEach es X.env := by rfl) (hpl : (backTo pos (starEach es X.env)).any (·.1)=false := by rfl) :
    PE (X.ig (jo X E)) (.Call (.Name x p) (e::es) [] pos) (tq sp [] E t) := qT (X := X.ig (jo X E)) G hr hg F.g F.fn.kp F.b .nil (EI (F := fun _ _ => True)) ha hdb he hpl

theorem Fun.vE {P:Program}{w:World}{K:HS}{mg:Str->Option Value}{base:Heap}{x qual:Str}{st:Stmt}{f:Addr}{fd:FuncData}{N ps:List Str}{k:Nat}{sp:Sp}(F:Fun K x qual st f fd)(S:aN N ps (az st))(len:∀ vs H Q E,sp vs H Q E->vs.length=ps.length)
  (nO:∀ (cdv:Value) (A:Around) (outer:List Env) (s:Shared) (H:Hp) (vs:List V) (Q:VK) (E:XK),eG k (A.deeper (envOfC qual (az st) s.heap.objs.size f cdv))->sp vs H Q E->Own (lU (CXo P w) P w K mg base N qual (az st) f cdv A outer s H E) ->
   ∃ t,PSs ((lU (CXo P w) P w K mg base N qual (az st) f cdv A outer s H E).ig (jo (lU (CXo P w) P w K mg base N qual (az st) f cdv A outer s H E) E)) (bO st) t/\t { nx:=fun _ H'=>Q .non H',rt:=Q } (start N vs) H):aS P w K mg base (CXo P w) (k+1) f fd ps sp:=by
 refine F.okX S len fun cdv A outer s H vs Q E hr h X hX=>?_
 subst hX;by_cases ok:(lU (CXo P w) P w K mg base N qual (az st) f cdv A outer s H E).Ok
 ·exact nO cdv A outer s H vs Q E hr h ⟨ok,rfl,rfl,rfl⟩
 ·exact⟨fun _ _ _=>True,fun pins s σ H D I _=>absurd I.ok.dI ok,trivial⟩
theorem eG.lt {k:Nat}{A:Around}(r:eG k A)(n:Nat)(h:n<=62):A.units+n+1<cLine:=by have:=r.units;omega

noncomputable def PJ (X:Cx)(es:List Expr)(m:Nat)(t:St->Hp->Prop):Prop :=
 ∀ (pins:List (Addr×Obj)) (s:Shared) (σ:St) (H:Hp) (out:Str) (Q:Value->Shared->Prop),Inv X pins σ H s->t σ H->out.length+m<=sizeLine->(∀ x tk s',Inv X pins σ H s'->Q (.str x tk) s') ->
  wpAny (model X.prog X.w) X.A (joinParts out (evalEach es X.env)) Q X.xe s
noncomputable def Gf:St->Hp->Prop:=fun _ _=>True
theorem C6:PJ X [] 0 Gf:=fun pins s σ H out Q I _ hz q=>joinParts_nil (q _ _ _ (I.tok _)) (by omega)
theorem zC {x:Str}{j}{pos:Pos}{es:List Expr}{m:Nat}{t:St->Hp->Prop}(h:PJ X es m t):PJ X (.Constant (.str x) j pos::es) (x.length+m) t:=fun pins s σ H out Q I ht hz q=>by
 show wpAny _ _ (joinParts out (eval (.Constant (.str x) j pos) X.env::evalEach es X.env)) Q _ s;have e:(out++x).length=out.length+x.length:=strLen_append _ _;refine joinParts_cons (Calls.Constant_str ?_);exact⟨by rw[e];omega,h pins _ σ H (out++x) Q (I.tok _) ht (by rw[e];omega) q⟩
noncomputable def tFs (t:St->Hp->Prop):TE:=fun σ H Q=>t σ H/\∀ x,Q (.str x) H
theorem EO {a b:Expr}{es:List Expr}{pos:Pos}{m:Nat}{t:St->Hp->Prop}(h:PJ X (a::b::es) m t)(hm:m<=1000000):PE X (.JoinedStr (a::b::es) pos) (tFs t):=fun pins s σ H Q I hw=>by
 have e:Str.empty.length=0:=rfl;have z:sizeLine=16777216:=sizeLine_eq;exact JoinedStr_many (h pins s σ H Str.empty _ I hw.1 (by rw[e,z];omega) fun x tk s' I'=>⟨.str x,H,I',⟨_,rfl⟩,hw.2 x⟩)
end

end L2

namespace L2
open PySem PySem.Spec PyProof.Rows
section
variable {X:Cx}
noncomputable def C7 (K:HS)(H:Hp):Nat->V->V->Prop
 | 0,x,y=>x=y/\gY x=true
 | n+1,x,y=>(x=y/\gY x=true)\/∃ (a b:Addr) (xs ys:List V),x=.ref a/\y=.ref b/\((SqL K H a xs/\SqL K H b ys)\/(SqT K H a xs/\SqT K H b ys))/\xs.length=ys.length/\∀ (i:Nat) (u v:V),xs[i]?=some u->ys[i]?=some v->C7 K H n u v
theorem t9 {x:V}(h:gY x=true):eqV x x=true:=by
 cases x <;> first | rfl | (exact absurd h Io) | (show (_ == _)=true;exact beq_self_eq_true _)
theorem gn {xs:List V}{its:List Value}{j:Nat}(r:Vals xs its)(hj:j<its.toArray.size):∃ x,xs[j]?=some x/\RelV x its.toArray[j]:=by
 have hl:=r.length;have hx:j<xs.length:=by rw[HZ] at hj;omega
 obtain⟨u,hu,ru⟩:=r.get (HP hx);refine⟨_,HP hx,?_⟩;have z:its.toArray[j]?=some u:=by simpa using hu
 rw[(Je.mp z).2];exact ru
theorem all_true (n:Nat):(Ig n).all (fun _=>true)=true:=I0.mpr fun _ _=>rfl
section
variable {pins:List (Addr×Obj)}{σ:St}{H:Hp}{s:Shared}
theorem l9 (I:Inv X pins σ H s):∀ (n:Nat) {A:Around} {x y:V} {u v:Value},A.units+n<cLine->C7 X.K H n x y->RelV x u->RelV y v->SeqAt.EqAt A s u v true
 | 0,A,x,y,u,v,hu,h,rx,ry=>by
  obtain⟨rfl,f⟩:=h;have z:=vw (A:=A) (s:=s) rx ry f f;rw[t9 f] at z;exact z
 | n+1,A,x,y,u,v,hu,h,rx,ry=>by
  rcases h with ⟨rfl,f⟩ | ⟨a,b,xs,ys,rfl,rfl,hs,hl,hd⟩
  ·have z:=vw (A:=A) (s:=s) rx ry f f;rw[t9 f] at z;exact z
  ·cases rx;cases ry;by_cases e:a=b
   ·subst e;exact SeqAt.EqAt.same _
   ·refine SeqAt.EqAt.of_refs e ?_;have hu1:A.in1.units+n<cLine:=by show A.units+1+n<cLine;omega
    rcases hs with ⟨h1,h2⟩ | ⟨h1,h2⟩
    ·obtain⟨i1,r1,p1,z1⟩:=I.list h1;obtain⟨i2,r2,p2,z2⟩:=I.list h2;have l1:=r1.length;have l2:=r2.length;have z:=SeqAt.RcAt.lists (A:=A) (e:=fun _=>true) p1.isList p2.isList (by simp only[HZ];omega) (by omega) fun j q1 q2=>by
      obtain⟨x1,e1,t1⟩:=gn r1 q1;obtain⟨x2,e2,t2⟩:=gn r2 q2;exact l9 I n hu1 (hd j x1 x2 e1 e2) t1 t2
     rw[all_true] at z;exact z
    ·obtain⟨i1,r1,p1,z1⟩:=I.tuple h1;obtain⟨i2,r2,p2,z2⟩:=I.tuple h2;have l1:=r1.length;have l2:=r2.length;have z:=SeqAt.RcAt.tuples (A:=A) (e:=fun _=>true) (show s.heap.IsTuple a i1.toArray from p1) (show s.heap.IsTuple b i2.toArray from p2) (by omega) fun j q1 q2=>by
      obtain⟨x1,e1,t1⟩:=gn r1 q1;obtain⟨x2,e2,t2⟩:=gn r2 q2;exact l9 I n hu1 (hd j x1 x2 e1 e2) t1 t2
     have e3:(i1.toArray.size == i2.toArray.size)=true:=by simp only[HZ,beq_iff_eq];omega
     rw[all_true,e3] at z;exact z
end
noncomputable def B8 (K:HS)(H:Hp)(n:Nat)(a b:Addr):Prop:=∃ xs ys:List V,SqL K H a xs/\SqL K H b ys/\xs.length=ys.length/\∀ (i:Nat) (u v:V),xs[i]?=some u->ys[i]?=some v->C7 K H n u v
theorem vF (n:Nat)(hu:X.A.units+n+1<cLine):OpR X (compareOp .Eq) (fun x y H Q=>∃ a b:Addr,x=.ref a/\y=.ref b/\B8 X.K H n a b/\Q (.bl true) H):=by
 intro pins s σ H x y v u Q I rx ry h;obtain⟨a,b,rfl,rfl,⟨xs,ys,h1,h2,hl,hd⟩,q⟩:=h;cases rx;cases ry;obtain⟨i1,r1,p1,z1⟩:=I.list h1;obtain⟨i2,r2,p2,z2⟩:=I.list h2;have l1:=r1.length;have l2:=r2.length;refine SeqAt.eq_listAt (e:=fun _=>true) p1.isList p2.isList (by simp only[HZ];omega) (by omega) (fun j q1 q2=>?_) ⟨.bl true,H,I,?_,q⟩
 ·obtain⟨x1,e1,t1⟩:=gn r1 q1;obtain⟨x2,e2,t2⟩:=gn r2 q2;exact l9 I n (by show X.A.units+1+n<cLine;omega) (hd j x1 x2 e1 e2) t1 t2
 ·show Value.bool _=Value.bool true;rw[all_true]
end
end L2

namespace L2
open PySem PySem.Spec PyProof.Rows

theorem Bc {X:Cx}{scope:Scope}{pre:List Str}{y:Str}{c:Addr}{j:Nat}(kL:scope.kind=.function)(h:∀ z∈scope.names,z.2≠.cell/\(z.2=.free->z.1=y))(hn:∀ z∈scope.names,z.2=.local->scope.names.lookup z.1=some .local)
  (hcl:closureFor scope X.env=pure [(y,c)]) (hc:X.env.cells.lookup y=some c) (hN:X.N[j]?=some y) (hk:X.env.kindOf y=some .cell) (hr:(relabel scope X.env).names.lookup y=some .cell) :
  j6 X scope [(y,c)] (pre++[y]) (KA pre.length none++[some j]) where
 zm:=hcl
 cell:=fun z hz=>(h z hz).1
 kind:=kL
 names:=hn
 cls:=fun x c' e=>by
  rw[Km] at e
  split at e
  ·rename_i hx;rw[eq_of_beq hx,<- e];exact hc
  ·cases e
 has:=fun x e=>by
  have key:∀ k,(relabel scope X.env).names.lookup x=some k->k=.cell\/k=.free->x=y:=fun k e hk=>by
   have hm:=PySem.mem_of_lookup e;obtain⟨⟨n,k'⟩,hy,ey⟩:=HW.mp hm;have h1:=h _ hy;by_cases hf:k'=.free
   ·have z:=h1.2 hf;dsimp only at ey
    split at ey
    ·cases ey;exact z
    ·cases ey;exact z
   ·have hb:(k' == NameKind.free)=false:=by simpa using hf
    simp only[hb,Kn,Jl,if_false,Prod.mk.injEq] at ey;obtain⟨_,rfl⟩:=ey;rcases hk with hk | hk
    ·exact absurd hk h1.1
    ·exact absurd hk hf
  have hxy:x=y:=by
   rcases e with e | e
   ·exact key _ e (.inl rfl)
   ·exact key _ e (.inr rfl)
  exact⟨c,by rw[hxy,Km,beq_self_eq_true]⟩
 len:=by simp
 src:=fun i k x e1 e2=>by
  by_cases hi:i<pre.length
  ·rw[IK (by simpa using hi),Kh,if_pos hi] at e1;cases e1
  ·have hl:=(HR.mp e2).1;rw[HY,LH] at hl;have e:i=pre.length:=by omega
   subst e;rw[IG (by simp)] at e1;rw[IG (HV _)] at e2;simp at e1 e2;subst e1 e2;exact⟨hN,.inl hk,.inl hr⟩

theorem iS {X : Cx}{scope : Scope}{x y : Str}{c : Addr}{j : Nat}(kL : scope.kind=.function)(h : ∀ z ∈ scope.names, z.2 ≠ .cell /\ (z.2=.free -> z.1=y))(hn : ∀ z ∈ scope.names, z.2=.local -> scope.names.lookup z.1=some .local)
    (hcl : closureFor scope X.env=pure [(y, c)]) (hc : X.env.cells.lookup y=some c) (hN : X.N[j]?=some y) (hk : X.env.kindOf y=some .cell) (hr : (relabel scope X.env).names.lookup y=some .cell) :
    j6 X scope [(y, c)] [x, y] [none, some j] := Bc (pre := [x]) kL h hn hcl hc hN hk hr
theorem ym {M:Model}{A:Around}{E:Value->Shared->Prop}{s:Shared}{env:Env}{x:Str}{v:Value}{Q:Unit->Shared->Prop}(h:wpAny M A (storeName env x v) Q E s):wpAny M A (bindName env x v) Q E s:=fun Γ p hΓ=>by
 rw[Sem.wp_bindName];exact h Γ _ hΓ
theorem rp {X:Cx}{elt iter tg:Expr}{ifs:List Expr}{scope:Scope}{pos pos' ps:Pos}{x:Str}{ix:Nat}{cl:List (Str×Addr)}{NC:List Str}{ini:List (Option Nat)}{wi:TI}{g:TG}{tt:TT}{te:TE}
  (hN:X.N.Nodup) (hix:X.N[ix]?=some x) (hx:Loc X.env.scope x) (hc:X.calm=true) (O:j6 X scope cl NC ini) (hi:PI X tg iter wi)
  (hg:∀ fp C s₀ H₀,PG (b7 X scope cl NC fp C s₀ H₀) tg g) (ht:∀ fp C s₀ H₀,PTs (b7 X scope cl NC fp C s₀ H₀) ifs tt) (he:∀ fp C s₀ H₀,PE (b7 X scope cl NC fp C s₀ H₀) elt te)
  (hs:∀ x,foldedSetIterable iter X.env x=pure x:=by intro _;rfl) (hsw:swapsWith (.ListComp elt [⟨tg,iter,ifs,0⟩] scope pos) (some (.Name x pos')) ps.line X.env=pure true:=by rfl)
  (hf:X.fn x=true\/X.env.scope.names.lookup x=some .local:=by first | exact .inl rfl | exact .inr rfl | assumption):PS X (.Assign [.Name x pos'] (.ListComp elt [⟨tg,iter,ifs,0⟩] scope pos) ps) (AN (B4 wi g tt te ini) (pV ix)):=by
 intro pins s σ H Dn I h;rw[exec_Assign_Name_used _ _ _ _ hsw];refine wpAny_bind (wpAny_standAt (wpAny_bind ?_));show wpAny _ _ (comprehension (.ListComp elt [⟨tg,iter,ifs,0⟩] scope pos) scope X.env _ (newList []) false (eval iter X.env) (some (assign (.Name x pos') X.env)) >>= fun _=>pure ()) _ _ s;refine wpAny_bind ?_;refine wpAny_comprehension_free (use:=some (assign (.Name x pos') X.env)) rfl hs O.zm O.kind O.names (thn (hi pins s σ H _ I h) fun v s1 h1=>thn h1 fun itv s2 h2=>?_);obtain⟨it,fp,tn,J,H2,e,I2,T,st2,f2,h2⟩:=h2;subst e;have hD:H2 s2.heap.objs.size=none:=I2.hok.fresh (HV _);obtain⟨W,⟨m0,w0⟩,turn⟩:=h2 _ hD;refine wpAny_newObj_type (wpAny_newFunctionEnv O.cell (by intro y hy;simp at hy) (fun h₁ j7 j8=>?_) O.kind);dsimp only at j7 j8 ⊢;have I3:Inv X pins σ (upd H2 s2.heap.objs.size (.lst [])) { s2 with heap:=s2.heap.push { cls:=.type "list",dict:=none,data:=.seq ([]:List Value).toArray } }:=I2.Ez (its:=[]) (t':=s2.toks) .nil (by decide);have ob2:∀ b∈fp,∃ o,s2.heap.get? b=some o:=fun b hb=>let ⟨o,e,_⟩:=T.obj 0 _ st2 b hb;⟨o,e⟩
 have neD:∀ b∈fp,b≠s2.heap.objs.size:=fun b hb=>let ⟨o,e⟩:=ob2 b hb;IB (Il e)
 have f3:∀ b∈fp,gH X pins (upd H2 s2.heap.objs.size (.lst [])) b:=fun b hb=>⟨by rw[aE (neD b hb)];exact(f2 b hb).1,(f2 b hb).2⟩
 generalize hs3:({ s2 with heap:=s2.heap.push { cls:=.type "list",dict:=none,data:=.seq ([]:List Value).toArray } }:Shared)=s3 at I3;have hh3:s2.heap.push { cls:=.type "list",dict:=none,data:=.seq ([]:List Value).toArray }=s3.heap:=by rw[<- hs3]
 have ob3:∀ b∈fp,∃ o,s3.heap.get? b=some o:=fun b hb=>let ⟨o,e⟩:=ob2 b hb;⟨o,by rw[<- hh3];exact HU _ e⟩
 rw[hh3] at j7 j8 ⊢;have old:∀ b o,s3.heap.get? b=some o->h₁.get? b=some o:=fun b o e=>j8.extBut b o (IB (Il e)) (HU _ e)
 have st1:tn 0 h₁:=T.keep 0 _ _ st2 fun b hb o e=>old b o (by rw[<- hh3];exact HU _ e)
 have IC:∀ tk,Inv (b7 X scope cl NC fp s3.heap.objs.size s3 (upd H2 s2.heap.objs.size (.lst []))) [] (xb ini σ) (upd H2 s2.heap.objs.size (.lst [])) { s3 with heap:=h₁,toks:=tk }:=fun tk=>tJ O I3 f3 ob3 j7 old
 have nM:∀ {H':Hp},(∀ b∈fp,H' b=none)->∀ b∈fp,gH (b7 X scope cl NC fp s3.heap.objs.size s3 (upd H2 s2.heap.objs.size (.lst []))) [] H' b:=fun {H'} hn b hb=>by
  obtain⟨o,e⟩:=ob3 b hb;refine⟨hn b hb,IB (Il e),fun z=>?_,.inl hb,fun x c hx=>(f3 b hb).2.2.2.2.1 x c (O.cls x c hx),fun p hp=>absurd (show p∈([]:List (Addr×Obj)) from hp) (by simp)⟩;rcases IA.mp (I3.nI b z) with q | q
  ·exact(f3 b hb).2.1 q
  ·exact(f3 b hb).2.2.1 q
 have loop:∀ s₃:Shared,s₃ = { s2 with heap:=h₁,toks:=s2.toks+([]:List (Str×Value)).length } ->
   codeAny (model X.prog X.w) X.A (.compLoop (.ListComp elt [⟨tg,iter,ifs,0⟩] scope pos) 0 (.ref it) (.ref s2.heap.objs.size) (compEnvC scope cl s3.heap.objs.size X.env))
    (compPost (model X.prog X.w) X.A X.xe (some (assign (.Name x pos') X.env)) (fun _ sE=>wpAny (model X.prog X.w) X.A (pure ()) (fun _ s₁=>wpAny (model X.prog X.w) X.A (pure Flow.next) (SP X pins Dn) X.xe s₁) X.xe sE) (.ref s2.heap.objs.size) s3.heap.objs.size) s₃:=by
  rintro s₃ rfl;refine codeAny_loop rfl (fun n s'=>∃ i σ' H',Inv (b7 X scope cl NC fp s3.heap.objs.size s3 (upd H2 s2.heap.objs.size (.lst []))) [] σ' H' s'/\tn i s'.heap/\(∀ b∈fp,H' b=none)/\W i n σ' H') (fun n s' hI=>?_) m0
   ⟨0,_,_,by have z:=IC (s2.toks+([]:List (Str×Value)).length);rw[<- hs3] at z ⊢;exact z,st1,fun b hb=>(f3 b hb).1,w0⟩
  show wpAny _ X.A ((compTurn (.ListComp elt [⟨tg,iter,ifs,0⟩] scope pos) 0 (.ref it) (.ref s2.heap.objs.size) (compEnvC scope cl s3.heap.objs.size X.env)).onRaise (fun x=>do noteFrame x (compEnvC scope cl s3.heap.objs.size X.env);theTreesLotGoes x)) _ _ s';refine wpAny_noted ?_;rw[compTurn_list];obtain⟨i,σ3,H3,I3',st3,fr3,w3⟩:=hI;rcases turn i n σ3 H3 w3 with ⟨stop,qn⟩ | ⟨go,N,hN,step⟩
  ·refine wpAny_bind (wpAny_standAt (wpAny_bind (thn (T.done (b7 X scope cl NC fp s3.heap.objs.size s3 (upd H2 s2.heap.objs.size (.lst []))) rfl rfl rfl hc i [] s' σ3 H3 _ I3' (nM fr3) st3 stop) fun r s4 ⟨hr,I4⟩=>?_)));subst hr;obtain⟨m',hn',_⟩:=I4.loc;refine wpAny_pure ?_;show wpAny _ _ (do standAt pos';bindName X.env x (.ref s2.heap.objs.size)) _ _ s4;refine wpAny_bind (wpAny_standAt ?_);have IX:Inv X pins σ H3 s4:=comp_back I3 f3 I4 (Heap.SameBut.refl _ _);have fC:gH X pins H3 s3.heap.objs.size:=I3.qO (HV _) I4.free;obtain⟨c0,c1,c2,c3,c4,c5⟩:=fC;refine ym (pT IX hN hix hx (v:=.ref s2.heap.objs.size) rfl (fun s5 I5 sb=>?_) hf);obtain⟨aa,sb1,sb2⟩:=sb;have nA:s3.heap.objs.size≠aa:=by
    rcases sb2 with z | z
    ·rw[z];exact c1
    ·exact Ne.symm (c4 x aa z)
   obtain⟨oo,es,ep,g1,g2⟩:=hn';refine⟨m',⟨oo,es,ep,(sb1.2 _ nA).trans g1,g2⟩,fun h' hs'=>wpAny_pure (wpAny_pure ⟨_,H3,I5.turned (t':=s5.toks) (fun b o hb e=>(hs'.2 b hb).trans e) c0 c1 c3 c4 c5,qn⟩)⟩
  ·refine wpAny_bind (wpAny_standAt (wpAny_bind (thn (T.item (b7 X scope cl NC fp s3.heap.objs.size s3 (upd H2 s2.heap.objs.size (.lst []))) rfl rfl rfl hc i [] s' σ3 H3 _ I3' (nM fr3) st3 go) fun r s4 ⟨u,hr,h4⟩=>?_)));subst hr;refine wpAny_bind (thn h4 fun _ s5 ⟨x,H5,I5,r5,y5,st5,fr5⟩=>?_);have I5':=I5.pinned (nM fr5) (T.obj _ _ st5);refine wpAny_bind (jj (hg fp _ s3 _ _ s5 σ3 H5 x u _ I5' r5 (step x H5 y5)) fun _ s6 ⟨σ6,H6,I6,q6⟩=>?_);have again:∀ {s7:Shared} {H7:Hp},Inv (b7 X scope cl NC fp s3.heap.objs.size s3 (upd H2 s2.heap.objs.size (.lst []))) ([]++lQ fp s5.heap) σ6 H7 s7->N σ6 H7 ->
     ∃ m,m<n/\∃ i σ' H',Inv (b7 X scope cl NC fp s3.heap.objs.size s3 (upd H2 s2.heap.objs.size (.lst []))) [] σ' H' s7/\tn i s7.heap/\(∀ b∈fp,H' b=none)/\W i m σ' H':=fun {s7 H7} I7 n7=>by
    obtain⟨m',hm,w7⟩:=hN σ6 H7 n7;refine⟨m',hm,i+1,σ6,H7,I7.iz,T.keep _ _ _ st5 fun b hb o e=>(I7.pin (b,o) (Ip _ (Ip _ (eW hb e)))).1,fun b hb=>?_,w7⟩;obtain⟨o,e,d⟩:=T.obj _ _ st5 b hb;exact(I7.pin (b,o) (Ip _ (Ip _ (eW hb e)))).2.1
   refine wpAny_bind (jj (ht fp _ s3 _ _ s6 σ6 H6 _ I6 q6) fun ok s7 ⟨H7,I7,q7⟩=>?_);cases ok with
   | false=>exact wpAny_pure ⟨rfl,again I7 q7⟩
   | true =>
    refine wpAny_bind (wpAny_bind (jj (he fp _ s3 _ _ s7 σ6 H7 _ I7 q7) fun u8 s8 ⟨v8,H8,I8,r8,ys,hy,hz,n8⟩=>?_));refine wpAny_bind (jj (bU _ s8 σ6 H8 (.ref s2.heap.objs.size) [v8] (.ref s2.heap.objs.size) [u8] (fun _ H9=>N σ6 H9) I8 rfl (.cons r8 .nil) ⟨_,ys,v8,rfl,rfl,hy,hz,n8⟩) fun _ s9 ⟨_,H9,I9,_,n9⟩=>?_);exact wpAny_pure (wpAny_pure ⟨rfl,again I9 n9⟩)
 exact codeAny_compStart_list (loop _ rfl) (T.self _ 0 _ _ _ st1 (loop _ rfl))

theorem k8 {X:Cx}{K:HS}(hK:X.K=K):IxR X (Et K):=hK ▸ bN
theorem nD {X:Cx}{K:HS}(hK:X.K=K):IxR X (A2 K):=hK ▸ eK

end L2

namespace L2
open PySem PySem.Spec PyProof.Rows
theorem ot {h:Heap}:∀ {ns:List Int} {its:List Value},Vals (ns.map V.int) its->ReadsAll h its (ns.map PyData.int) []
 | [],_,.nil=>.nil
 | n::ns,_::_,.cons r t=>by
  obtain⟨tk,rfl⟩:=r;exact ReadsAll.cons (as:=[]) (bs:=[]) (.int n tk) (ot t)
theorem jU:∀ {ns:List Int},(∀ n∈ns,n.natAbs.log2<1920)->PyData.showableAll (ns.map PyData.int)=true
 | [],_=>rfl
 | n::ns,h=>by
  show (decide (n.natAbs.log2<1920)&&PyData.showableAll (ns.map PyData.int))=true;rw[decide_eq_true (h n Iq),jU fun m hm=>h m (Im _ hm)]
  rfl
theorem mM:∀ ns:List Int,PyData.hasDictAll (ns.map PyData.int)=false
 | []=>rfl
 | n::ns=>by show (false||PyData.hasDictAll (ns.map PyData.int))=false;rw[mM ns];rfl
theorem ou:∀ ns:List Int,PyData.depthAll (ns.map PyData.int)=0
 | []=>rfl
 | n::ns=>by show max 0 (PyData.depthAll (ns.map PyData.int))=0;rw[ou ns];rfl
theorem ow:∀ {ns:List Int},(∀ n∈ns,n.natAbs.log2<1920)->(PyData.shownAll (ns.map PyData.int)).length=ns.length/\((PyData.shownAll (ns.map PyData.int)).map (·.length)).sum<=1921*ns.length
 | [],_=>⟨rfl,HV _⟩
 | n::ns,h=>by
  obtain⟨e1,e2⟩:=ow (ns:=ns) fun m hm=>h m (Im _ hm)
  have l1:=int_text_length_le (k:=1920) (by decide) (h n Iq);refine⟨by show (PyData.shownAll (ns.map PyData.int)).length+1=ns.length+1;rw[e1],?_⟩;show (Str.ofString (toString n)).length+((PyData.shownAll (ns.map PyData.int)).map (·.length)).sum<=1921*(ns.length+1);rw[PySem.ofString_length];omega
end L2

namespace L2
open PySem PySem.Spec PyProof.Rows
theorem vG:bootBuiltins "max" = some (.builtin "max"):=by decide +kernel
section
variable {X:Cx}
noncomputable def Gg (te:TE)(t:St->Hp->Prop):St->Hp->Prop:=fun σ H=>te σ H fun v H'=>H'=H/\(∃ (l:Addr) (ns:List Int),v=.ref l/\H l=some (.tup (ns.map V.int))/\ns.length<=100/\∀ n∈ns,n.natAbs.log2<1920)/\t σ H
theorem C8 {a:Expr}{pos:Pos}{es:List Expr}{m:Nat}{t:St->Hp->Prop}{te:TE}(hg:X.A.guards=some [])(hu:X.A.units+3<cLine)(ha:PE X a te)(h:PJ X es m t):PJ X (.FormattedValue a (-1) none pos::es) (200000+m) (Gg te t):=fun pins s σ H out Q I ht hz q=>by
 show wpAny _ _ (joinParts out (eval (.FormattedValue a (-1) none pos) X.env::evalEach es X.env)) Q _ s;refine joinParts_cons (FormattedValue_plain (thn (ha pins s σ H _ I ht) fun u s1 h1=>?_));obtain⟨v,H1,I1,r,rfl,⟨l,ns,rfl,hl,hn,hsm⟩,ht1⟩:=h1;cases r;obtain⟨z2,its,rv,⟨o,e,hc,n,hd⟩⟩:=I1.hok l _ hl;have rd:Reads s1.heap (.ref l) (.tuple (ns.map PyData.int)) []:=Reads.tuple (as:=[]) e hc hd (ot rv);obtain⟨e1,e2⟩:=ow hsm;have l1:=tupleText_len_le (PyData.shownAll (ns.map PyData.int));have l2:(PyData.shown (.tuple (ns.map PyData.int))).length<=200000:=by
  show (tupleText (PyData.shownAll (ns.map PyData.int))).length<=200000;omega
 have sz:=sizeLine_eq;have dep:(PyData.tuple (ns.map PyData.int)).depth=1:=by
  show PyData.depthAll (ns.map PyData.int)+1=1;rw[ou]
 refine formatField_of_reads rd (jU hsm) (PyData.noDict_hsm (mM ns)) hg (by rw[dep];exact hu) (fun _ _ e=>e) (fun h' u tk hk=>?_) (by rw[sz];omega);have e3:(out++PyData.shown (.tuple (ns.map PyData.int))).length=out.length+(PyData.shown (.tuple (ns.map PyData.int))).length:=strLen_append _ _;exact⟨by rw[e3];omega,h pins _ σ H1 _ Q (I1.kept (t':=tk) hk) ht1 (by rw[e3];omega) q⟩
end
end L2
namespace L2
open PySem PySem.Spec PyProof.Rows
section
variable {X:Cx}{a b c d:Expr}{ta tb tc td:TE}{pos:Pos}
noncomputable def Bd (r r' r3:R2)(ta tb tc td:TE):TE:=fun σ H Q=>ta σ H fun x H1=>tb σ H1 fun y H2=>r x y H2 fun z H3=>∃ k,z=.bl k /\
 (if k=true then tc σ H3 fun y' H4=>r' y y' H4 fun z' H5=>∃ k',z'=.bl k'/\(if k'=true then td σ H5 fun x' H6=>r3 y' x' H6 Q else Q (.bl false) H5) else Q (.bl false) H3)
theorem yn {op op' op3:CmpOp}{r r' r3:R2}(ho:OpR X (compareOp op) r)(ho':OpR X (compareOp op') r')(ho3:OpR X (compareOp op3) r3)(ha:PE X a ta)(hb:PE X b tb)(hc:PE X c tc)(hd:PE X d td)
  (hm:lastMarks [op,op',op3] [b,c,d]=false:=by with_unfolding_all rfl):PT X (.Compare a [op,op',op3] [b,c,d] pos) (BY (Bd r r' r3 ta tb tc td)):=by
 intro pins s σ H Q I h;refine isTrue_chain (thn (ha pins s σ H _ I h) fun v s1 ⟨x,H1,I1,r1,q1⟩=>test_link (thn (hb pins s1 σ H1 _ I1 q1) fun u s2 ⟨y,H2,I2,r2,q2⟩ =>
  thn (ho pins s2 σ H2 x y v u _ I2 r1 r2 q2) fun d s3 ⟨z,H3,I3,r3,k,e,q3⟩=>?_)) hm
 subst e;cases r3;refine wpAny_truthy_bool ?_;cases k with
 | false =>
  obtain⟨k',e',q'⟩:=q3;cases e';exact ite_ff ⟨H3,I3,q'⟩
 | true =>
  refine ite_tt (test_link (thn (hc pins s3 σ H3 _ I3 q3) fun w' s4 ⟨z',H4,I4,r4,q4⟩=>thn (ho' pins s4 σ H4 y z' u w' _ I4 r2 r4 q4) fun d' s5 ⟨z2,H5,I5,r5,k2,e2,q5⟩=>?_));subst e2;cases r5;refine wpAny_truthy_bool ?_;cases k2 with
  | false =>
   obtain⟨k',e',q'⟩:=q5;cases e';exact ite_ff ⟨H5,I5,q'⟩
  | true =>
   refine ite_tt (test_last (thn (hd pins s5 σ H5 _ I5 q5) fun x5 s6 ⟨z5,H6,I6,r6,q6⟩=>thn (ho3 pins s6 σ H6 z' z5 w' x5 _ I6 r4 r6 q6) fun d3 s7 ⟨z7,H7,I7,r7,k7,e7,q7⟩=>?_));subst e7;cases r7;exact wpAny_truthy_bool ⟨H7,I7,q7⟩
end
end L2

namespace L2
open PySem PySem.Spec PyProof.Rows
section
variable {X:Cx}
theorem qg {s:Shared}{A:Around}{ns ms:List Int}{i1 i2:List Value}(r1:Vals (ns.map V.int) i1)(r2:Vals (ms.map V.int) i2)(j:Nat)(h1:j<i1.toArray.size)(h2:j<i2.toArray.size) :
  SeqAt.EqAt A.in1 s i1.toArray[j] i2.toArray[j] (ns.getD j 0 == ms.getD j 0):=by
 have l1:ns.length=i1.length:=by have z:=r1.length;rwa[HQ] at z
 have l2:ms.length=i2.length:=by have z:=r2.length;rwa[HQ] at z
 have hj:j<ns.length:=by simp only[HZ] at h1;omega
 have hj2:j<ms.length:=by simp only[HZ] at h2;omega
 obtain⟨x1,e1,t1⟩:=gn r1 h1;obtain⟨x2,e2,t2⟩:=gn r2 h2;rw[HX,HP hj] at e1;rw[HX,HP hj2] at e2;obtain rfl:=Option.some.inj e1;obtain rfl:=Option.some.inj e2;obtain⟨k1,q1⟩:=t1;obtain⟨k2,q2⟩:=t2;rw[q1,q2];have g1:ns.getD j 0=ns[j]:=by simp[Kb,HP hj]
 have g2:ms.getD j 0=ms[j]:=by simp[Kb,HP hj2]
 rw[g1,g2];exact SeqAt.EqAt.int_int (A:=A.in1) (s:=s) ns[j] k1 ms[j] k2
theorem ox {ns ms:List Int}{i1 i2:List Value}(r1:Vals (ns.map V.int) i1)(r2:Vals (ms.map V.int) i2) :
  ((Ig (min i1.toArray.size i2.toArray.size)).all (fun j=>ns.getD j 0 == ms.getD j 0)&&i1.toArray.size == i2.toArray.size)=decide (ns=ms):=by
 have l1:ns.length=i1.length:=by have z:=r1.length;rwa[HQ] at z
 have l2:ms.length=i2.length:=by have z:=r2.length;rwa[HQ] at z
 by_cases c:ns=ms
 ·subst c;rw[decide_eq_true rfl,Iv];exact⟨I0.mpr fun _ _=>beq_self_eq_true _,by simp only[HZ,<- l1,<- l2];exact beq_self_eq_true _⟩
 ·rw[decide_eq_false c];refine Ky.mpr fun z=>c ?_
  rw[Iv] at z;have hl:ns.length=ms.length:=by have z2:=eq_of_beq z.2;simp only[HZ] at z2;omega
  refine MJ hl fun j q1 q2=>?_
  have z2:=I0.mp z.1 j (Ii.mpr (by simp only[HZ];omega));have g1:ns.getD j 0=ns[j]:=by simp[Kb,HP q1]
  have g2:ms.getD j 0=ms[j]:=by simp[Kb,HP q2]
  rw[<- g1,<- g2];exact eq_of_beq z2
theorem yo {pins:List (Addr×Obj)}{σ:St}{H:Hp}{s:Shared}{A:Around}{t u:Addr}{ns ms:List Int}(I:Inv X pins σ H s)(hu:A.units<cLine)(ht:SqT X.K H t (ns.map V.int))(hw:SqT X.K H u (ms.map V.int)):SeqAt.EqAt A s (.ref t) (.ref u) (decide (ns=ms)):=by
 obtain⟨i1,r1,p1,z1⟩:=I.tuple ht;obtain⟨i2,r2,p2,z2⟩:=I.tuple hw;by_cases e:t=u
 ·subst e;have ee:i1=i2:=by
   obtain⟨o1,e1,d1,n1,f1⟩:=p1;obtain⟨o2,e2,d2,n2,f2⟩:=p2;rw[e1] at e2;cases e2;rw[f1] at f2;injection f2 with f3 _;simpa using congrArg Lc f3
  subst ee;have en:ns=ms:=by
   have l1:ns.length=i1.length:=by have z:=r1.length;rwa[HQ] at z
   have l2:ms.length=i1.length:=by have z:=r2.length;rwa[HQ] at z
   refine MJ (by omega) fun j q1 q2=>?_
   have a1:(ns.map V.int)[j]?=some (.int ns[j]):=by rw[HX,HP q1];rfl
   have a2:(ms.map V.int)[j]?=some (.int ms[j]):=by rw[HX,HP q2];rfl
   obtain⟨u1,e1,t1,rfl⟩:=r1.get a1;obtain⟨u2,e2,t2,rfl⟩:=r2.get a2;rw[e1] at e2;injection e2 with e2;injection e2
  rw[decide_eq_true en];exact SeqAt.EqAt.same _
 ·have z:=SeqAt.RcAt.tuples (e:=fun j=>ns.getD j 0 == ms.getD j 0) (show s.heap.IsTuple t i1.toArray from p1) (show s.heap.IsTuple u i2.toArray from p2) hu fun j h1 h2=>qg r1 r2 j h1 h2
  rw[ox r1 r2] at z;exact SeqAt.EqAt.of_refs e z
noncomputable def B9 (K:HS)(neg:Bool):R2:=fun x y H Q=>∃ (a b:Addr) (ns ms:List Int),x=.ref a/\y=.ref b/\SqT K H a (ns.map V.int)/\SqT K H b (ms.map V.int)/\Q (.bl (if neg then !decide (ns=ms) else decide (ns=ms))) H
theorem vH (hu:X.A.units<cLine):OpR X (compareOp .Eq) (B9 X.K false):=by
 intro pins s σ H x y v u Q I rx ry h;obtain⟨a,b,ns,ms,rfl,rfl,ha,hb,q⟩:=h;cases rx;cases ry;obtain⟨i1,r1,p1,z1⟩:=I.tuple ha;obtain⟨i2,r2,p2,z2⟩:=I.tuple hb;refine SeqAt.eq_tupleAt (e:=fun j=>ns.getD j 0 == ms.getD j 0) (show s.heap.IsTuple a i1.toArray from p1) (show s.heap.IsTuple b i2.toArray from p2) hu (fun j h1 h2=>qg r1 r2 j h1 h2) ⟨.bl (decide (ns=ms)),H,I,?_,q⟩;show Value.bool _=Value.bool _;congr 1;exact ox r1 r2
end
end L2


namespace L2E
open PySem PySem.Spec PyProof.Rows
open Sem (wp)
open AutoSeq1 (wpAny_loadPart')
theorem ma (l:Addr)(items:Array Value)(n:Nat)(b:Addr)(dM:Array Value)(n2:Nat)(dct:Option Addr)(sl:Array (Option Value))(hs0:¬(!items.isEmpty&&Builtin.List.listTooLong (items.size+dM.size))=true)(hs1:items.size<=sizeLine)(hs2:items.size+dM.size<=sizeLine+1) :
  Meets (Builtin.«list.extend» ⟨[.ref l,.ref b],[]⟩) (fun _ R s=>s.heap.get? l=some { cls:=.type "list",dict:=none,data:=.seq items n,slots:=#[] }/\s.heap.get? b=some { cls:=.type "tuple",dict:=dct,data:=.seq dM n2,slots:=sl }/\R (.ok (.ret Value.none)) { s with heap:=s.heap.update l (Obj.mapSeq fun x=>x++dM),toks:=s.toks }) :=
 .of_wp fun prog w A R s h=>by
  obtain⟨hp,g,d,tk,os⟩:=s;obtain⟨hl,hb,h⟩:=h;have f1:=AutoSeq1.idx_int;have f2:=AutoSeq1.sub_tuple_tuple;have f3:=AutoSeq1.sub_list_list;have f4:=AutoSeq1.sub_tuple_list;have f5:=AutoSeq1.sub_list_tuple;have hz':(items++dM).size<=sizeLine+1:=by rw[Array.size_append];exact hs2
  wp_walk using (wpAny_updateSeq hl rfl (hz:=hs1) (_hz':=hz')),wpAny_loadPart' hl,wpAny_loadPart' hb;exact⟨_,rfl,h⟩
end L2E
namespace L2
open PySem PySem.Spec PyProof.Rows
section
variable {X:Cx}
noncomputable def LT (H:Hp)(a:Addr)(xs:List V):Prop:=H a=some (.lst xs)\/H a=some (.tup xs)
noncomputable def zD:V->List V->Hp->VK->Prop:=fun x vs H Q=>∃ l b xs zs,x=.ref l/\vs=[.ref b]/\H l=some (.lst xs)/\LT H b zs/\xs.length+zs.length<=sizeLine/\Q .non (upd H l (.lst (xs++zs)))
theorem vI:MtM X "list.extend" zD:=by
 intro pins s σ H x vs v us Q I rx rv h;obtain⟨l,b,xs,zs,ex,ev,hH,hB,hz,q⟩:=h;rcases hB with hB | hB
 ·exact iB pins s σ H x vs v us Q I rx rv ⟨l,b,xs,zs,ex,ev,hH,hB,hz,q⟩
 subst ex ev;cases rx;obtain⟨u,rfl,ru⟩:=rv.one;cases ru;obtain⟨z,its,n,r,hl,e⟩:=I.ya hH;obtain⟨z2,m8,r2,⟨⟨c,dct,dt,sl⟩,e2,hc,n2,hd⟩⟩:=I.hok b _ hB;have hc:c=.type "tuple":=hc;have hd:dt=.seq m8.toArray n2:=hd;subst hc hd;have hl2:=r2.length;have hsz:its.toArray.size+m8.toArray.size<=sizeLine:=by rw[HZ,HZ];omega
 have zj:¬ (!its.toArray.isEmpty&&Builtin.List.listTooLong (its.toArray.size+m8.toArray.size))=true:=by
  rw[tG hsz,Li];exact Io
 refine call_meets F.slot_list_extend ⟨_,e,rfl⟩ F.entry_list_extend (F.args_list_extend_2 _ _)
  (L2E.ma l its.toArray n b m8.toArray n2 dct sl zj (by rw[HZ];omega) (by omega)) ⟨e,e2,?_⟩
 refine⟨.non,_,I.CQ (its':=its++m8) hH e (by simp) (r.append r2) ?_,rfl,q⟩;rw[HY];omega
end
end L2


namespace Mir
open PySem L2

theorem take_snoc {α:Type}{l:List α}{i:Nat}{x:α}(h:l[i]?=some x):l.take (i+1)=l.take i++[x]:=by
 rw[KU,h];rfl
noncomputable def rq:Sp:=fun vs H Q _=>∃ e:Int,vs=[.int e]/\Q (.bl true) H
end Mir

namespace Ch
structure Gh (n:Nat) (M:Nat->Nat):Prop where
 lt:∀ x,x<2*n->M x<2*n
 inv:∀ x,x<2*n->M (M x)=x
section
variable {n:Nat}{M:Nat->Nat}
noncomputable def zE (n:Nat)(M:Nat->Nat):List Nat:=(Ig (2*n)).filter fun e=>e == M e
end
end Ch

namespace Mir
open PySem L2 Ch
noncomputable def nV (ms:List Nat):List V:=ms.map fun (m:Nat)=>V.int m
noncomputable def b8 (xs:List Nat):List Int:=xs.map fun (x:Nat)=>(x:Int)
theorem oy (xs:List Nat):(b8 xs).map V.int=nV xs:=by unfold b8 nV;rw[Jf];rfl
theorem aI (ms:List Nat):(nV ms).length=ms.length:=by unfold nV;rw[HQ]
theorem rA {ms:List Nat}{i m:Nat}(h:ms[i]?=some m):(nV ms)[i]?=some (.int m):=by unfold nV;rw[HX,h];rfl
theorem df {ms:List Nat}{i:Nat}{x:V}(h:(nV ms)[i]?=some x):∃ m,ms[i]?=some m/\x=.int m:=by
 unfold nV at h;rw[HX] at h;cases e:ms[i]? with
 | none=>rw[e] at h;cases h
 | some m=>rw[e] at h;exact⟨m,rfl,(Option.some.inj h).symm⟩
theorem iT (xs:List Nat)(x:Nat):nV (xs++[x])=nV xs++[.int x]:=by unfold nV;rw[IS];rfl
noncomputable def at0 (ms:List Nat)(e:Nat):Nat:=ms.getD e 0
theorem dZ {ms:List Nat}{e:Nat}(h:e<ms.length):ms[e]?=some (at0 ms e):=by unfold at0;simp[Kb,HP h]
structure ak (n:Nat) (ms:List Nat):Prop where
 small:n<=40
 len:ms.length=2*n
 wk:Gh n (at0 ms)
theorem ak.get {n:Nat}{ms:List Nat}(W:ak n ms){e:Nat}(h:e<2*n):(nV ms)[e]?=some (.int (at0 ms e)):=rA (dZ (by rw[W.len];exact h))
theorem ak.ix {n:Nat}{ms:List Nat}(W:ak n ms){e:Nat}(h:e<2*n):atI (nV ms) (e:Int)=some (.int (at0 ms e)):=gf (W.get h)
theorem jI {xs:List Nat}{x:Nat}(h:xs.getLast?=some x):atI (nV xs) (-1)=some (.int x):=by
 obtain⟨ys,rfl⟩:=List.getLast?_eq_some_iff.mp h;rw[iT];exact zh _ _
section
variable (K:HS)
noncomputable def ua:Sp:=fun vs H Q _=>∃ (a:Addr) (n:Nat) (ms:List Nat),vs=[.ref a]/\SqT K H a (nV ms)/\ak n ms/\Q (.int n) H
noncomputable def xi:Sp:=fun vs H Q _=>∃ (a:Addr) (n:Nat) (ms:List Nat),vs=[.ref a]/\SqT K H a (nV ms)/\ak n ms/\∀ (l:Addr) (H':Hp),H l=none->aG H H'->H' l=some (.lst (nV (zE n (at0 ms))))->Q (.ref l) H'
end
noncomputable def ub (K:HS):Sp:=fun vs H Q _=>∃ (a:Addr) (ns:List Int) (k:Nat),vs=[.ref a,.int k]/\SqL K H a (ns.map V.int)/\∀ i:Int,Q (.int i) H
noncomputable def xj (K:HS):Sp:=fun vs H Q _=>∃ (a:Addr) (cs:List Int) (n:Nat),vs=[.ref a,.int n]/\SqL K H a (cs.map V.int)/\n<=40 /\
 ∀ (l:Addr) (H':Hp) (ms:List Nat),H l=none->aG H H'->ak n ms->H' l=some (.lst (nV ms))->Q (.ref l) H'

noncomputable def freed (ms:List Nat)(e:Nat):List Nat:=(ms.set (at0 ms e) (at0 ms e)).set e e
noncomputable def gL (ms:List Nat)(p q:Nat):List Nat:=(ms.set p q).set q p
theorem k9 {ms:List Nat}{i j v:Nat}(hi:i<ms.length):at0 (ms.set i v) j=if j=i then v else at0 ms j:=by
 unfold at0;by_cases e:j=i
 ·subst e;rw[if_pos rfl];simp[Kb,KS hi]
 ·rw[if_neg e];simp[Kb,K5 (Ne.symm e)]
theorem bA (ms:List Nat)(e:Nat):(freed ms e).length=ms.length:=by unfold freed;rw[IM,IM]
theorem uc {n:Nat}{ms:List Nat}(W:ak n ms){e:Nat}(he:e<2*n)(j:Nat):at0 (freed ms e) j=if j=e then e else if j=at0 ms e then at0 ms e else at0 ms j:=by
 unfold freed;rw[k9 (by rw[IM,W.len];exact he),k9 (by rw[W.len];exact W.wk.lt e he)]
theorem vJ {n:Nat}{ms:List Nat}(W:ak n ms){e:Nat}(he:e<2*n):ak n (freed ms e)/\at0 (freed ms e) e=e:=by
 have m:=W.wk.lt e he;have key:=uc W he;refine⟨⟨W.small,by rw[bA];exact W.len,fun x hx=>?_,fun x hx=>?_⟩,by rw[key,if_pos rfl]⟩
 ·rw[key]
  split
  ·exact he
  ·split
   ·exact m
   ·exact W.wk.lt x hx
 ·rw[key x];by_cases c1:x=e
  ·rw[if_pos c1,key,if_pos rfl,c1]
  ·rw[if_neg c1];by_cases c2:x=at0 ms e
   ·rw[if_pos c2,key];by_cases c3:at0 ms e=e
    ·exact absurd (c2.trans c3) c1
    ·rw[if_neg c3,if_pos rfl,c2]
   ·rw[if_neg c2,key];have i1:=W.wk.inv x hx;have c3:at0 ms x≠e:=fun z=>c2 (by rw[<- z,i1])
    have c4:at0 ms x≠at0 ms e:=fun z=>c1 (by rw[<- i1,z,W.wk.inv e he])
    rw[if_neg c3,if_neg c4,i1]
theorem vK {n:Nat}{ms:List Nat}(W:ak n ms){p q:Nat}(hp:p<2*n)(hq:q<2*n)(lp:at0 ms p=p)(lq:at0 ms q=q):ak n (gL ms p q):=by
 have key:∀ j,at0 (gL ms p q) j=if j=q then p else if j=p then q else at0 ms j:=fun j=>by
  unfold gL;rw[k9 (by rw[IM,W.len];exact hq),k9 (by rw[W.len];exact hp)]
 refine⟨W.small,by unfold gL;rw[IM,IM];exact W.len,fun x hx=>?_,fun x hx=>?_⟩
 ·rw[key]
  split
  ·exact hp
  ·split
   ·exact hq
   ·exact W.wk.lt x hx
 ·rw[key x];by_cases c1:x=q
  ·rw[if_pos c1,key];by_cases c2:p=q
   ·rw[if_pos c2,c1,c2]
   ·rw[if_neg c2,if_pos rfl,c1]
  ·rw[if_neg c1];by_cases c2:x=p
   ·rw[if_pos c2,key,if_pos rfl,c2]
   ·rw[if_neg c2,key];have i1:=W.wk.inv x hx;have c3:at0 ms x≠q:=fun z=>c1 (by rw[<- i1,z,lq])
    have c4:at0 ms x≠p:=fun z=>c2 (by rw[<- i1,z,lp])
    rw[if_neg c3,if_neg c4,i1]
theorem ud {n:Nat}{ms:List Nat}(W:ak n ms){e:Nat}(he:e<2*n){j:Nat}(hj:at0 ms j=j):at0 (freed ms e) j=j:=by
 rw[uc W he]
 split
 ·rename_i h;exact h.symm
 ·split
  ·rename_i h;exact h.symm
  ·exact hj
theorem vL {n:Nat}(h:n<=40):ak n (Ig (2*n)):=by
 have key:∀ x,x<2*n->at0 (Ig (2*n)) x=x:=fun x hx=>by unfold at0;simp[Kb,JS hx]
 exact⟨h,Ij,fun x hx=>by rw[key x hx];exact hx,fun x hx=>by rw[key x hx,key x hx]⟩
theorem Be (n:Nat):qZ 0 n=nV (Ig n):=by
 unfold qZ nV;refine JL fun a _=>?_
 rw[KI]
theorem fU (ms:List Nat)(i v:Nat):(nV ms).set i (.int v)=nV (ms.set i v):=by unfold nV;rw[List.map_set]

theorem qh (ns:List Int)(lo hi:Option Int):∃ cs:List Int,x9 (ns.map V.int) lo hi=cs.map V.int/\cs.length<=ns.length:=by
 have h:=mL (ns.map V.int) lo hi;rw[HQ] at h;unfold x9 at h ⊢;rw[<- M5,<- List.map_take] at h ⊢;exact⟨_,rfl,by rw[HQ] at h;exact h⟩
theorem yp (xs ys:List Nat):nV (xs++ys)=nV xs++nV ys:=by unfold nV;rw[IS]
end Mir

namespace Mt
open Ch

noncomputable def up (xs:List Nat):List Int:=xs.map fun (x:Nat)=>(x:Int)
theorem C9 (xs:List Nat):(up xs).length=xs.length:=by unfold up;rw[HQ]

end Mt



namespace Mir
open PySem L2 Ch
noncomputable def iV (ns:List Int):List V:=ns.map V.int
theorem ER (ms:List Nat):nV ms=iV (Mt.up ms):=by unfold nV iV Mt.up;rw[Jf];rfl
noncomputable def Sm (i:Int):Prop:=i.natAbs<10 ^ 40
theorem Sm.log {i:Int}(h:Sm i):i.natAbs.log2<1920:=by
 unfold Sm at h;by_cases z:i.natAbs=0
 ·rw[z];decide
 ·exact(Nat.log2_lt z).mpr (IY h (by decide +kernel))
theorem Sm.of {i:Int}(h1:-(10 ^ 32:Int)<i)(h2:i<(10 ^ 32:Int)):Sm i:=by
 unfold Sm;have e:(10:Nat) ^ 40=100000000*10 ^ 32:=by decide +kernel
 rw[e];omega
end Mir

namespace L2
open PySem PySem.Spec
section
variable {X:Cx}
theorem Dc {st:Stmt}{R:TS}(h:∀ D σ H,R D σ H->∃ t,PS X st t/\t D σ H):PS X st R:=fun pins s σ H D I hw=>by
 obtain⟨t,ht,hq⟩:=h D σ H hw;exact ht pins s σ H D I hq
end
end L2


namespace L2
open PySem PySem.Spec
theorem zF {X:Cx}{c:Expr}{R:TT}(h:∀ σ H Q,R σ H Q->∃ t,PT X c t/\t σ H Q):PT X c R:=fun pins s σ H Q I hw=>by
 obtain⟨t,ht,hq⟩:=h σ H Q hw;exact ht pins s σ H Q I hq
end L2
namespace Mir
open PySem L2
noncomputable def TsT {α:Type}(f:α->List V)(H:Hp)(l:Addr)(xs:List α):Prop :=
 ∃ ts:List Addr,H l=some (.lst (ts.map V.ref))/\ts.length=xs.length/\∀ (i:Nat) (t:Addr) (x:α),ts[i]?=some t->xs[i]?=some x->H t=some (.tup (f x))
section
variable {α:Type}{f:α->List V}{H H':Hp}{l r b t d:Addr}{xs ys:List α}{x:α}
theorem TsT.same (h:TsT f H l xs)(s:aG H H'):TsT f H' l xs:=by
 obtain⟨ts,h1,h2,h3⟩:=h;exact⟨ts,s _ _ h1,h2,fun i t p e1 e2=>s _ _ (h3 i t p e1 e2)⟩
theorem TsT.nil (h:H l=some (.lst [])):TsT f H l ([]:List α):=⟨[],h,rfl,fun i t r e=>by simp at e⟩
theorem TsT.len (h:TsT f H l xs):∃ vs,H l=some (.lst vs)/\vs.length=xs.length:=by
 obtain⟨ts,h1,h2,_⟩:=h;exact⟨_,h1,by rw[HQ];exact h2⟩
noncomputable def Tup (f:α->List V)(H:Hp)(ts:List Addr)(xs:List α):Prop:=ts.length=xs.length/\∀ (i:Nat) (t:Addr) (x:α),ts[i]?=some t->xs[i]?=some x->H t=some (.tup (f x))
theorem TsT.tup (h:TsT f H l xs):∃ ts,H l=some (.lst (ts.map V.ref))/\Tup f H ts xs:=by
 obtain⟨ts,h1,h2,h3⟩:=h;exact⟨ts,h1,h2,h3⟩
theorem Tup.tst {ts:List Addr}(h:Tup f H ts xs)(hl:H l=some (.lst (ts.map V.ref))):TsT f H l xs:=⟨ts,hl,h.1,h.2⟩
theorem Tup.upd {ts:List Addr}{o:HO}{vs:List V}(h:Tup f H ts xs)(hl:H l=some (.lst vs)):Tup f (upd H l o) ts xs:=⟨h.1,fun i t p e1 e2=>by
 have key:=h.2 i t p e1 e2;rw[aE (fun e=>by rw[e,hl] at key;cases key)];exact key⟩
theorem Tup.app {ts us:List Addr}(h:Tup f H ts xs)(k:Tup f H us ys):Tup f H (ts++us) (xs++ys):=⟨by rw[HY,HY,h.1,k.1],fun i t p e1 e2=>by
 by_cases hi:i<ts.length
 ·rw[IK hi] at e1;rw[IK (by have:=h.1;omega)] at e2;exact h.2 i t p e1 e2
 ·rw[IG (by omega)] at e1;rw[IG (by have:=h.1;omega),<- h.1] at e2;exact k.2 _ t p e1 e2⟩
theorem Tup.one (h:H t=some (.tup (f x))):Tup f H [t] [x]:=⟨rfl,fun i u p e1 e2=>by
 cases i with
 | zero=>cases e1;cases e2;exact h
 | succ i=>cases e1⟩
theorem TsT.snoc (h:TsT f H l xs)(ht:H t=some (.tup (f x))):∃ vs,H l=some (.lst vs)/\vs.length=xs.length/\TsT f (L2.upd H l (.lst (vs++[.ref t]))) l (xs++[x]):=by
 obtain⟨ts,h1,h2⟩:=h.tup;refine⟨_,h1,by rw[HQ];exact h2.1,?_⟩;exact((h2.app (Tup.one ht)).upd h1).tst (by rw[ah,IS];rfl)
theorem TsT.deep {K:HS}(hf:∀ x,∀ v∈f x,gY v=true)(h:TsT f H l xs)(k:TsT f H r xs):B8 K H 1 l r:=by
 obtain⟨ts,h1,h2⟩:=h.tup;obtain⟨us,k1,k2⟩:=k.tup;refine⟨_,_,SqL.of h1,SqL.of k1,by rw[HQ,HQ,h2.1,k2.1],fun i u v e1 e2=>?_⟩;have hi:i<ts.length:=by have z:=(HR.mp e1).1;rw[HQ] at z;exact z
 have hi2:i<us.length:=by rw[k2.1,<- h2.1];exact hi
 have hx:i<xs.length:=by rw[<- h2.1];exact hi
 rw[HX,HP hi] at e1;rw[HX,HP hi2] at e2;obtain rfl:=Option.some.inj e1;obtain rfl:=Option.some.inj e2;refine .inr ⟨_,_,_,_,rfl,rfl,.inr ⟨SqT.of (h2.2 i _ _ (HP hi) (HP hx)),SqT.of (k2.2 i _ _ (HP hi2) (HP hx))⟩,rfl,fun j a b d1 d2=>?_⟩;rw[d1] at d2;obtain rfl:=Option.some.inj d2;exact⟨rfl,hf _ _ (Ib d1)⟩
end
end Mir

set_option maxHeartbeats 2000000


set_option maxHeartbeats 2000000
namespace dB
open PySem PyProof.Rows
class RkP where
 G:Keyed->Prop
 nm:Keyed->Int
 kd:SortKind
variable [RkP]
noncomputable def num (p:Keyed):Int:=RkP.nm p
noncomputable def K (xs:Array Keyed)(i:Nat):Int:=match xs[i]? with
 | some p=>num p
 | none=>0
noncomputable def IntKeys (xs:Array Keyed):Prop:=∀ p∈xs.toList,RkP.G p
noncomputable def SortedTo (xs:Array Keyed)(k:Nat):Prop:=∀ i j,i<=j->j<k->K xs i<=K xs j
noncomputable abbrev oneType':SortKind:=RkP.kd
noncomputable def Asks (prog:Program)(w:World)(A:Around)(s:Shared):Prop:=∀ x y:Keyed,RkP.G x->RkP.G y->∀ (E:Value->Shared->Prop) (Q:Bool->Shared->Prop),Q (decide (num x<num y)) s->wpAny (model prog w) A (keyLt' oneType' x.1 y.1) Q E s
structure IKA (prog:Program) (w:World) (A:Around) (s:Shared) (xs:Array Keyed):Prop where
 ik:IntKeys xs
 as:Asks prog w A s
theorem K_congr {xs ys:Array Keyed}{i j:Nat}(h:xs[i]?=ys[j]?):K xs i=K ys j:=by unfold K;rw[h]
theorem K_bubble {xs:Array Keyed}{src d:Nat}(hs:src<xs.size)(hd:d<=src)(k:Nat):K (bubble xs src d) k=if k=src-d then K xs src else if src-d<k/\k<=src then K xs (k-1) else K xs k:=by
 have e:=getElem?_bubble hs d hd k
 split at e
 ·rw[if_pos (by assumption)];exact K_congr e
 ·rw[if_neg (by assumption)]
  split at e
  ·rw[if_pos (by assumption)];exact K_congr e
  ·rw[if_neg (by assumption)];exact K_congr e
theorem K_mirror {xs:Array Keyed}{i j:Nat}(hj:j<=xs.size)(k:Nat):K (mirror xs i j ((j-i)/2)) k=if i<=k/\k<j then K xs (i+j-1-k) else K xs k:=by
 have e:=getElem?_mirror_all (i:=i) hj k
 split at e
 ·rw[if_pos (by assumption)];exact K_congr e
 ·rw[if_neg (by assumption)];exact K_congr e
theorem K_mirror_equal {xs:Array Keyed}{i j:Nat}(hj:j<=xs.size)(heq:∀ k,i<=k->k<j->K xs k=K xs (j-1))(k:Nat):K (mirror xs i j ((j-i)/2)) k=K xs k:=by
 rw[K_mirror hj];by_cases c:i<=k/\k<j
 ·rw[if_pos c,heq k c.1 c.2];exact heq _ (by omega) (by omega)
 ·rw[if_neg c]
noncomputable def Bf:Bool->Keyed->Array Keyed->Nat->Nat->Nat->StateT SortSt Sem (Option Nat):=sortPriv% PySem.Builtin.gallop
noncomputable def ask (l:Bool)(key:Keyed)(arr:Array Keyed)(b i:Nat):StateT SortSt Sem (Option Bool):=elem' arr (b+i) >>= fun x=>if l=true then lt' x key else lt' key x >>= fun r=>pure (r.map (!·))
section
variable {prog:Program}{w:World}{A:Around}{E:Value->Shared->Prop}{s:Shared}
theorem bF {st:SortSt}{l:Bool}{key:Keyed}{arr:Array Keyed}{b n h:Nat}{Q:Option Nat->SortSt->Prop}{P:Nat->Bool}(hh:h<n)(mono:∀ i j,i<=j->j<n->P j=true->P i=true)
  (hb:∀ i,i<n->∀ Q':Option Bool->SortSt->Prop,Q' (some (P i)) st->wpS (model prog w) A E s (ask l key arr b i) Q' st)
  (q:∀ k,k<=n->(∀ i,i<k->P i=true)->(∀ i,k<=i->i<n->P i=false)->Q (some k) st):wpS (model prog w) A E s (Bf l key arr b n h) Q st:=by
 have Bg:∀ {i j},i<=j->j<n->P i=false->P j=false:=fun {i j} h1 h2 h3=>by
  cases e:P j with
  | false=>rfl
  | true=>exact absurd (mono i j h1 h2 e) (by rw[h3];exact Io)
 refine wpS_bind (hb h hh _ ?_);dsimp only;cases hP:P h with
 | true =>
  simp only[if_true];refine wpS_bind (wpS_mono (wpS_forRange (I:=fun x c st'=>st'=st/\∃ last ofs,c=(none,last,ofs)/\P (h+last)=true/\last<n-h/\last<ofs/\x+1<=ofs)
   (Q:=fun c st'=>st'=st/\∃ last ofs,c=(none,last,ofs)/\P (h+last)=true/\last<n-h/\last<ofs/\(n-h<=ofs\/(ofs<n-h/\P (h+ofs)=false))) ?s1 ?f1 ⟨rfl,0,1,rfl,hP,by omega,by omega,by omega⟩) ?p1)
  case f1 =>
   rintro c st' ⟨e,last,ofs,hc,h1,h2,h3,h4⟩;exact⟨e,last,ofs,hc,h1,h2,h3,.inl (by omega)⟩
  case s1 =>
   rintro x c st' _ hx ⟨rfl,last,ofs,rfl,h1,h2,h3,h4⟩;dsimp only;by_cases c1:ofs ≥ n-h
   ·rw[if_pos c1];exact wpS_pure ⟨rfl,last,ofs,rfl,h1,h2,h3,.inl c1⟩
   ·rw[if_neg c1];refine wpS_bind (hb (h+ofs) (by omega) _ ?_);cases e:P (h+ofs) with
    | true=>exact wpS_pure ⟨rfl,ofs,2*ofs+1,rfl,e,by omega,by omega,by omega⟩
    | false=>exact wpS_pure ⟨rfl,last,ofs,rfl,h1,h2,h3,.inr ⟨by omega,e⟩⟩
  case p1 =>
   rintro c st' ⟨rfl,last,ofs,rfl,h1,h2,h3,h4⟩;dsimp only;refine wpS_bind (wpS_mono (wpS_forRange (I:=fun x c aZ=>aZ=st'/\∃ lo hi,c=(none,lo,hi)/\lo<=hi/\hi<=n/\hi-lo<=n-x/\(∀ i,i<lo->P i=true)/\∀ i,hi<=i->i<n->P i=false)
    (Q:=fun c aZ=>aZ=st'/\∃ lo hi,c=(none,lo,hi)/\hi<=n/\(∀ i,i<hi->P i=true)/\∀ i,hi<=i->i<n->P i=false) ?s2 ?f2 ⟨rfl,_,_,rfl,by omega,by omega,by omega,fun i hi=>mono i (h+last) (by omega) (by omega) h1,?i2⟩) ?p2)
   case i2 =>
    intro i hi1 hi2;rcases h4 with h4 | ⟨h4,h5⟩
    ·omega
    ·exact Bg (i:=h+ofs) (by omega) hi2 h5
   case f2 =>
    rintro c aZ ⟨e,lo,hi,hc,g1,g2,g3,g4,g5⟩;have:lo=hi:=by omega
    subst this;exact⟨e,lo,lo,hc,g2,g4,g5⟩
   case s2 =>
    rintro x c aZ _ hx ⟨rfl,lo,hi,rfl,g1,g2,g3,g4,g5⟩;dsimp only;by_cases c1:lo ≥ hi
    ·rw[if_pos c1];have:lo=hi:=by omega
     subst this;exact wpS_pure ⟨rfl,lo,lo,rfl,g2,g4,g5⟩
    ·rw[if_neg c1];refine wpS_bind (hb (lo+(hi-lo)/2) (by omega) _ ?_);cases e:P (lo+(hi-lo)/2) with
     | true=>exact wpS_pure ⟨rfl,_,hi,rfl,by omega,g2,by omega,fun i hi=>mono i _ (by omega) (by omega) e,g5⟩
     | false=>exact wpS_pure ⟨rfl,lo,_,rfl,by omega,by omega,by omega,g4,fun i h1 h2=>Bg h1 h2 e⟩
   case p2 =>
    rintro c aZ ⟨rfl,lo,hi,rfl,g2,g4,g5⟩;exact wpS_pure (q hi g2 g4 g5)
 | false =>
  simp only[Jl,if_false];refine wpS_bind (wpS_mono (wpS_forRange (I:=fun x c st'=>st'=st/\∃ last ofs,c=(none,last,ofs)/\P (h-last)=false/\last<=h/\last<ofs/\x+1<=ofs)
   (Q:=fun c st'=>st'=st/\∃ last ofs,c=(none,last,ofs)/\P (h-last)=false/\last<=h/\last<ofs/\(h+1<=ofs\/(ofs<h+1/\P (h-ofs)=true))) ?s3 ?f3 ⟨rfl,0,1,rfl,hP,by omega,by omega,by omega⟩) ?p3)
  case f3 =>
   rintro c st' ⟨e,last,ofs,hc,h1,h2,h3,h4⟩;exact⟨e,last,ofs,hc,h1,h2,h3,.inl (by omega)⟩
  case s3 =>
   rintro x c st' _ hx ⟨rfl,last,ofs,rfl,h1,h2,h3,h4⟩;dsimp only;by_cases c1:ofs ≥ h+1
   ·rw[if_pos c1];exact wpS_pure ⟨rfl,last,ofs,rfl,h1,h2,h3,.inl c1⟩
   ·rw[if_neg c1];refine wpS_bind (hb (h-ofs) (by omega) _ ?_);cases e:P (h-ofs) with
    | true=>exact wpS_pure ⟨rfl,last,ofs,rfl,h1,h2,h3,.inr ⟨by omega,e⟩⟩
    | false=>exact wpS_pure ⟨rfl,ofs,2*ofs+1,rfl,e,by omega,by omega,by omega⟩
  case p3 =>
   rintro c st' ⟨rfl,last,ofs,rfl,h1,h2,h3,h4⟩;dsimp only;refine wpS_bind (wpS_mono (wpS_forRange (I:=fun x c aZ=>aZ=st'/\∃ lo hi,c=(none,lo,hi)/\lo<=hi/\hi<=n/\hi-lo<=n-x/\(∀ i,i<lo->P i=true)/\∀ i,hi<=i->i<n->P i=false)
    (Q:=fun c aZ=>aZ=st'/\∃ lo hi,c=(none,lo,hi)/\hi<=n/\(∀ i,i<hi->P i=true)/\∀ i,hi<=i->i<n->P i=false) ?s4 ?f4 ⟨rfl,_,_,rfl,by omega,by omega,by omega,?i4,fun i hi1 hi2=>Bg hi1 hi2 h1⟩) ?p4)
   case i4 =>
    intro i hi;rcases h4 with h4 | ⟨h4,h5⟩
    ·omega
    ·exact mono i (h-ofs) (by omega) (by omega) h5
   case f4 =>
    rintro c aZ ⟨e,lo,hi,hc,g1,g2,g3,g4,g5⟩;have:lo=hi:=by omega
    subst this;exact⟨e,lo,lo,hc,g2,g4,g5⟩
   case s4 =>
    rintro x c aZ _ hx ⟨rfl,lo,hi,rfl,g1,g2,g3,g4,g5⟩;dsimp only;by_cases c1:lo ≥ hi
    ·rw[if_pos c1];have:lo=hi:=by omega
     subst this;exact wpS_pure ⟨rfl,lo,lo,rfl,g2,g4,g5⟩
    ·rw[if_neg c1];refine wpS_bind (hb (lo+(hi-lo)/2) (by omega) _ ?_);cases e:P (lo+(hi-lo)/2) with
     | true=>exact wpS_pure ⟨rfl,_,hi,rfl,by omega,g2,by omega,fun i hi=>mono i _ (by omega) (by omega) e,g5⟩
     | false=>exact wpS_pure ⟨rfl,lo,_,rfl,by omega,by omega,by omega,g4,fun i h1 h2=>Bg h1 h2 e⟩
   case p4 =>
    rintro c aZ ⟨rfl,lo,hi,rfl,g2,g4,g5⟩;exact wpS_pure (q hi g2 g4 g5)
theorem oz {st:SortSt}{x y:Keyed}{i j:Int}{Q:Option Bool->SortSt->Prop}(as:Asks prog w A s)(hk:kindOf st=oneType')(hx:RkP.G x/\num x=i)(hy:RkP.G y/\num y=j)(h:Q (some (decide (i<j))) st):wpS (model prog w) A E s (lt' x y) Q st:=by
 rw[lt'_eq];refine wpS_bind (wpS_get ?_);rw[hk];refine wpS_bind (wpS_lift (wpAny_attempt (as x y hx.1 hy.1 _ _ ⟨rfl,?_⟩)));rw[hx.2,hy.2];exact wpS_pure h
theorem aD {st:SortSt}{arr:Array Keyed}{i:Nat}{Q:Keyed->SortSt->Prop}{p:Keyed}(hp:arr[i]?=some p)(h:Q p st):wpS (model prog w) A E s (elem' arr i) Q st:=by
 rw[elem'_eq,hp];exact wpS_pure h
theorem ai {α:Type}{c:Prop}[Decidable c]{m m':StateT SortSt Sem α}{Q:α->SortSt->Prop}{st:SortSt}(h1:c->wpS (model prog w) A E s m Q st)(h2:¬ c->wpS (model prog w) A E s m' Q st):wpS (model prog w) A E s (if c then m else m') Q st:=by
 by_cases h:c
 ·rw[if_pos h];exact h1 h
 ·rw[if_neg h];exact h2 h
end
noncomputable def Asc (l:List Keyed):Prop:=l.Pairwise fun p q=>num p<=num q
structure MI (a b out A B:List Keyed):Prop where
 perm:(out++A++B).Perm (a++b)
 oA:Asc (out++A)
 oB:Asc (out++B)
section
variable {a b out A B X A' B':List Keyed}
theorem MI.dg (h:MI a b out A (X++B'))(hx:∀ x∈X,∀ q∈A,num x<=num q):MI a b (out++X) A B':=by
 refine⟨?_,?_,by rw[Ik];exact h.oB⟩
 ·refine List.Perm.trans ?_ h.perm;rw[Ik out X A,Ik out A,Ik out];refine List.Perm.append_left out ?_;rw[<- Ik A X B'];exact List.Perm.append_right B' Ku
 ·obtain⟨p1,p2,p3⟩:=IQ.mp h.oA;have q0:=h.oB;rw[<- Ik] at q0;obtain⟨q1,_,_⟩:=IQ.mp q0;refine IQ.mpr ⟨q1,p2,fun x hx1 q hq=>?_⟩;rcases Ic.mp hx1 with z | z
  ·exact p3 x z q hq
  ·exact hx x z q hq
theorem MI.cG (h:MI a b out (X++A') B)(hx:∀ x∈X,∀ q∈B,num x<=num q):MI a b (out++X) A' B:=by
 refine⟨?_,by rw[Ik];exact h.oA,?_⟩
 ·rw[Ik out X A'];exact h.perm
 ·obtain⟨p1,p2,p3⟩:=IQ.mp h.oB;have q0:=h.oA;rw[<- Ik] at q0;obtain⟨q1,_,_⟩:=IQ.mp q0;refine IQ.mpr ⟨q1,p2,fun x hx1 q hq=>?_⟩;rcases Ic.mp hx1 with z | z
  ·exact p3 x z q hq
  ·exact hx x z q hq
theorem MI.done (h:MI a b out A []):(out++A).Perm (a++b)/\Asc (out++A):=⟨by have z:=h.perm;rwa[Iy] at z,h.oA⟩
theorem MI.ES (h:MI a b out [] B):(out++B).Perm (a++b)/\Asc (out++B):=⟨by have z:=h.perm;rwa[Iy] at z,h.oB⟩
theorem MI.ET {z:Keyed}(h:MI a b out [z] B)(hb:∀ q∈B,num q<=num z):(out++B++[z]).Perm (a++b)/\Asc (out++B++[z]):=by
 refine⟨List.Perm.trans ?_ h.perm,?_⟩
 ·rw[Ik,Ik];exact List.Perm.append_left out Ku
 ·obtain⟨p1,p2,p3⟩:=IQ.mp h.oA;refine IQ.mpr ⟨h.oB,by simp,fun x hx q hq=>?_⟩;have e:q=z:=by simpa using hq
  subst e;rcases Ic.mp hx with y | y
  ·exact p3 x y q (by simp)
  ·exact hb x y
end
structure MA (a b out:Array Keyed) (ia ib:Nat):Prop where
 mi:MI a.toList b.toList out.toList (a.toList.drop ia) (b.toList.drop ib)
 la:ia<=a.size
 lb:ib<=b.size
section
variable {a b out:Array Keyed}{ia ib k:Nat}
theorem bZ {xs:Array Keyed}{i:Nat}{p:Keyed}(h:xs[i]?=some p):K xs i=num p:=by unfold K;rw[h]
theorem cI {xs:Array Keyed}{i:Nat}{p:Keyed}(h:xs[i]?=some p):xs.toList.drop i=[p]++xs.toList.drop (i+1):=by
 obtain⟨hi,e⟩:=Je.mp h;rw[Lj (by simpa using hi),List.singleton_append];congr 1
theorem drop_take {xs:List Keyed}{i k:Nat}:xs.drop i=(xs.drop i).take k++xs.drop (i+k):=by
 rw[<- List.drop_drop,Jr]
theorem lg {xs:Array Keyed}{i:Nat}{p:Keyed}(h:p∈xs.toList.drop i):∃ j,i<=j/\xs[j]?=some p:=by
 obtain⟨j,hj⟩:=Jx.mp h;rw[JO] at hj;exact⟨i+j,by omega,by simpa using hj⟩
theorem ue {xs:Array Keyed}{i k:Nat}{p:Keyed}(h:p∈(xs.toList.drop i).take k):∃ j,i<=j/\j<i+k/\xs[j]?=some p:=by
 obtain⟨j,hj⟩:=Jx.mp h;have hl:=(HR.mp hj).1;rw[Iw] at hl;rw[Ke (by omega),JO] at hj;exact⟨i+j,by omega,by omega,by simpa using hj⟩
theorem MA.dg (h:MA a b out ia ib)(hk:ib+k<=b.size)(hx:∀ j i,ib<=j->j<ib+k->ia<=i->i<a.size->K b j<=K a i){out':Array Keyed}(ho:out'.toList=out.toList++(b.toList.drop ib).take k):MA a b out' ia (ib+k):=by
 have m:=h.mi;rw[drop_take (xs:=b.toList) (i:=ib) (k:=k)] at m;refine⟨?_,h.la,hk⟩;rw[ho];refine m.dg fun x hx1 q hq=>?_
 obtain⟨j,h1,h2,h3⟩:=ue hx1;obtain⟨i,h4,h5⟩:=lg hq;rw[<- bZ h3,<- bZ h5];exact hx j i h1 h2 h4 (Je.mp h5).1
theorem MA.cG (h:MA a b out ia ib)(hk:ia+k<=a.size)(hx:∀ j i,ia<=j->j<ia+k->ib<=i->i<b.size->K a j<=K b i){out':Array Keyed}(ho:out'.toList=out.toList++(a.toList.drop ia).take k):MA a b out' (ia+k) ib:=by
 have m:=h.mi;rw[drop_take (xs:=a.toList) (i:=ia) (k:=k)] at m;refine⟨?_,hk,h.lb⟩;rw[ho];refine m.cG fun x hx1 q hq=>?_
 obtain⟨j,h1,h2,h3⟩:=ue hx1;obtain⟨i,h4,h5⟩:=lg hq;rw[<- bZ h3,<- bZ h5];exact hx j i h1 h2 h4 (Je.mp h5).1
theorem MA.size (h:MA a b out ia ib):out.size+(a.size-ia)+(b.size-ib)=a.size+b.size:=by
 have z:=h.mi.perm.length_eq;simp only[HY,J0,Jb] at z;exact z
end
noncomputable def zG:Array Keyed->Array Keyed->StateT SortSt Sem (Array Keyed):=sortPriv% PySem.Builtin.mergeLo
structure fo (st st':SortSt):Prop where
 kind:kindOf st'=kindOf st
 arr:arrOf st'=arrOf st
 pend:pendingOf st'=pendingOf st
 failed:failedOf st'=failedOf st
theorem fo.refl (st:SortSt):fo st st:=⟨rfl,rfl,rfl,rfl⟩
noncomputable def Res (a b r:Array Keyed):Prop:=r.toList.Perm (a.toList++b.toList)/\Asc r.toList
theorem aP {xs:Array Keyed}(h:IntKeys xs){i:Nat}(hi:i<xs.size):∃ (p:Keyed) (t:Unit),xs[i]?=some p/\RkP.G p/\num p=K xs i:=by
 have e:xs[i]?=some xs[i]:=getElem?_pos _ i hi;exact⟨xs[i],(),e,h xs[i] (by simp),(bZ e).symm⟩
theorem rB {xs:Array Keyed}(h:SortedTo xs xs.size):Asc xs.toList:=by
 refine Ja.mpr fun i j hi hj hij=>?_
 have hi':i<xs.size:=by simpa using hi
 have hj':j<xs.size:=by simpa using hj
 have e1:xs[i]?=some xs[i]:=getElem?_pos _ i hi';have e2:xs[j]?=some xs[j]:=getElem?_pos _ j hj';have z:=h i j (by omega) hj';rw[bZ e1,bZ e2] at z;simpa using z
section
variable {a b out:Array Keyed}{ia ib k:Nat}
theorem MA.init (sa:SortedTo a a.size)(sb:SortedTo b b.size):MA a b #[] 0 0:=⟨⟨by simp,by simpa using rB sa,by simpa using rB sb⟩,IT _,IT _⟩
theorem jJ (xs:Array Keyed)(i:Nat):(xs.extract i).toList=xs.toList.drop i:=by simp;exact J7 (by simp)
theorem iG (xs:Array Keyed)(i k:Nat):(xs.extract i (i+k)).toList=(xs.toList.drop i).take k:=by simp
theorem MA.gM (h:MA a b out ia ib)(e:ib=b.size):Res a b (out++a.extract ia++b.extract ib):=by
 have m:=h.mi;have z:b.toList.drop ib=[]:=Kr (by simp;omega);rw[z] at m;unfold Res;rw[IU,IU,jJ,jJ,z,Iy];exact m.done
theorem MA.vM (h:MA a b out ia ib)(e:ia=a.size):Res a b (out++a.extract ia++b.extract ib):=by
 have m:=h.mi;have z:a.toList.drop ia=[]:=Kr (by simp;omega);rw[z] at m;unfold Res;rw[IU,IU,jJ,jJ,z,Iy];exact m.ES
theorem MA.fin2 (h:MA a b out ia ib)(e:ia+1=a.size)(hl:∀ j,j<b.size->K b j<K a (a.size-1)):Res a b (out++b.extract ib++a.extract ia):=by
 have m:=h.mi;have ea:a[ia]?=some a[ia]:=getElem?_pos _ ia (by omega);have z:a.toList.drop ia=[a[ia]]:=by
  rw[cI ea,Kr (by simp;omega),Iy]
 rw[z] at m;unfold Res;rw[IU,IU,jJ,jJ,z];refine m.ET fun q hq=>?_
 obtain⟨j,h1,h2⟩:=lg hq;have y:=hl j (Je.mp h2).1;rw[show a.size-1=ia by omega,bZ h2,bZ ea] at y;omega
end
section
variable {prog:Program}{w:World}{A:Around}{E:Value->Shared->Prop}{s:Shared}
theorem dh {st:SortSt}{l:Bool}{key:Keyed}{arr:Array Keyed}{c i:Nat}{kk:Int}(as:Asks prog w A s)(hk:kindOf st=oneType')(ik:IntKeys arr)(hi:c+i<arr.size)(hy:RkP.G key/\num key=kk)(Q':Option Bool->SortSt->Prop)
  (h:Q' (some (if l=true then decide (K arr (c+i)<kk) else !decide (kk<K arr (c+i)))) st):wpS (model prog w) A E s (ask l key arr c i) Q' st:=by
 obtain⟨p,u,e1,e2⟩:=aP ik hi;unfold ask;refine wpS_bind (aD e1 ?_);cases l with
 | true=>exact oz as hk e2 hy h
 | false=>exact wpS_bind (oz as hk hy e2 (wpS_pure h))
theorem uf {st:SortSt}{a b:Array Keyed}{Q:Array Keyed->SortSt->Prop}(as:Asks prog w A s)(hk:kindOf st=oneType')(ka:IntKeys a)(kb:IntKeys b)(sa:SortedTo a a.size)(sb:SortedTo b b.size)(na:1<=a.size)(nb:1<=b.size)
  (h0:K b 0<K a 0) (hl:∀ j,j<b.size->K b j<K a (a.size-1)) (q:∀ r st',fo st st'->Res a b r->Q r st'):wpS (model prog w) A E s (zG a b) Q st:=by
 obtain⟨b0,tb0,eb0,_⟩:=aP kb (i:=0) (by omega);have M0:MA a b #[b0] 0 1:=(MA.init sa sb).dg (k:=1) (by omega) (fun j i h1 h2 h3 h4=>by
  have e:j=0:=by omega
  subst e;have z:=sa 0 i (by omega) h4;omega) (by rw[cI eb0];simp)
 refine wpS_bind (wpS_lift (wpAny_rule ⟨rfl,?_⟩));refine wpS_bind (aD eb0 ?_);refine ai (fun c=>wpS_pure (q _ _ (fo.refl _) (M0.gM (by simpa using c)))) (fun c1=>?_);refine ai (fun c=>wpS_pure (q _ _ (fo.refl _) (M0.fin2 (by simpa using c) hl))) (fun c2=>?_);have c1:1<b.size:=by
  have z:¬ 1=b.size:=fun z=>c1 (by simpa using z)
  omega
 have c2:1<a.size:=by
  have z:¬ 1=a.size:=fun z=>c2 (by simpa using z)
  omega
 refine wpS_bind (wpS_get ?_);refine wpS_bind (wpS_mono (wpS_forRange (I:=fun x c st'=>fo st st'/\∃ out ia ib g,c=(none,out,ia,ib,g)/\MA a b out ia ib/\ia+1<a.size/\ib<b.size/\x+1<=out.size)
  (Q:=fun c st'=>fo st st'/\∃ r out ia ib g,c=(some r,out,ia,ib,g)/\Res a b r) ?step ?fin ⟨fo.refl _,_,_,_,_,rfl,M0,by omega,by omega,by simp⟩) ?post)
 case post =>
  rintro c st' ⟨kp,r,out,ia,ib,g,rfl,hr⟩;exact wpS_pure (q r st' kp hr)
 case fin =>
  rintro c st' ⟨kp,out,ia,ib,g,rfl,m,h1,h2,h3⟩;have z:=m.size;omega
 case step =>
  rintro x c st' _ hx ⟨kp,out,ia,ib,g,rfl,m,h1,h2,h3⟩;dsimp only;refine wpS_bind (wpS_mono (wpS_forRange (I:=fun y c aZ=>fo st aZ/\∃ out ia ib ac bc,c=(none,out,ia,ib,ac,bc)/\MA a b out ia ib/\ia+1<a.size/\ib<b.size/\x+1<=out.size/\(0<y->x+2<=out.size))
   (Q:=fun c aZ=>fo st aZ/\((∃ r out ia ib ac bc,c=(some r,out,ia,ib,ac,bc)/\Res a b r)\/∃ out ia ib ac bc,c=(none,out,ia,ib,ac,bc)/\MA a b out ia ib/\ia+1<a.size/\ib<b.size/\x+2<=out.size)) ?s1 ?f1 ⟨kp,_,_,_,_,_,rfl,m,h1,h2,h3,fun z=>absurd z (JK _)⟩) ?p1)
  case f1 =>
   rintro c aZ ⟨kp,out,ia,ib,ac,bc,rfl,m,h1,h2,h3,h4⟩;exact⟨kp,.inr ⟨out,ia,ib,ac,bc,rfl,m,h1,h2,h4 (by omega)⟩⟩
  case s1 =>
   rintro y c aZ _ hy ⟨kp,out,ia,ib,ac,bc,rfl,m,h1,h2,h3,h4⟩;dsimp only;obtain⟨pb,tb,eb,eb'⟩:=aP kb h2;obtain⟨pa,ta,ea,ea'⟩:=aP ka (i:=ia) (by omega);refine wpS_bind (aD eb (wpS_bind (aD ea (wpS_bind (oz as (kp.kind.trans hk) eb' ea' ?_)))));by_cases cc:K b ib<K a ia
   ·simp only[cc,decide_true,if_true];have m':MA a b (out.push pb) ia (ib+1):=m.dg (k:=1) (by omega) (fun j i g1 g2 g3 g4=>by
     have e:j=ib:=by omega
     subst e;have z:=sa ia i g3 g4;omega) (by rw[cI eb];simp)
    refine wpS_bind (aD eb ?_);refine ai (fun c=>wpS_pure ⟨kp,.inl ⟨_,_,_,_,_,_,rfl,m'.gM (by simpa using c)⟩⟩) (fun c=>?_);have c:ib+1<b.size:=by
     have z:¬ ib+1=b.size:=fun z=>c (by simpa using z)
     omega
    refine ai (fun _=>wpS_pure ⟨kp,.inr ⟨_,_,_,_,_,rfl,m',h1,c,by rw[Ju];omega⟩⟩) (fun _=>wpS_pure ⟨kp,_,_,_,_,_,rfl,m',h1,c,by rw[Ju];omega,fun _=>by rw[Ju];omega⟩)
   ·simp only[cc,decide_false,Jl,if_false];have m':MA a b (out.push pa) (ia+1) ib:=m.cG (k:=1) (by omega) (fun j i g1 g2 g3 g4=>by
     have e:j=ia:=by omega
     subst e;have z:=sb ib i g3 g4;omega) (by rw[cI ea];simp)
    refine wpS_bind (aD ea ?_);refine ai (fun c=>wpS_pure ⟨kp,.inl ⟨_,_,_,_,_,_,rfl,m'.fin2 (by simpa using c) hl⟩⟩) (fun c=>?_);have c:ia+1+1<a.size:=by
     have z:¬ ia+1+1=a.size:=fun z=>c (by simpa using z)
     omega
    refine ai (fun _=>wpS_pure ⟨kp,.inr ⟨_,_,_,_,_,rfl,m',c,h2,by rw[Ju];omega⟩⟩) (fun _=>wpS_pure ⟨kp,_,_,_,_,_,rfl,m',c,h2,by rw[Ju];omega,fun _=>by rw[Ju];omega⟩)
  case p1 =>
   rintro c aZ ⟨kp,⟨r,out,ia,ib,ac,bc,rfl,hr⟩ | ⟨out,ia,ib,ac,bc,rfl,m,h1,h2,h3⟩⟩
   ·exact wpS_pure ⟨kp,r,_,_,_,_,rfl,hr⟩
   dsimp only;refine wpS_bind (wpS_lift (wpAny_rule ⟨rfl,?_⟩));refine wpS_bind (wpS_mono (wpS_forRange (I:=fun y c st3=>fo st st3/\∃ out ia ib g ac bc,c=(none,out,ia,ib,g,ac,bc)/\MA a b out ia ib/\ia+1<a.size/\ib<b.size/\x+2<=out.size)
    (Q:=fun c st3=>fo st st3/\((∃ r out ia ib g ac bc,c=(some r,out,ia,ib,g,ac,bc)/\Res a b r)\/∃ out ia ib g ac bc,c=(none,out,ia,ib,g,ac,bc)/\MA a b out ia ib/\ia+1<a.size/\ib<b.size/\x+2<=out.size)) ?s2 ?f2 ⟨kp,_,_,_,_,_,_,rfl,m,h1,h2,h3⟩) ?p2)
   case f2 =>
    rintro c st3 ⟨kp,out,ia,ib,g,ac,bc,rfl,m,h1,h2,h3⟩;exact⟨kp,.inr ⟨out,ia,ib,g,ac,bc,rfl,m,h1,h2,h3⟩⟩
   case p2 =>
    rintro c st3 ⟨kp,⟨r,out,ia,ib,g,ac,bc,rfl,hr⟩ | ⟨out,ia,ib,g,ac,bc,rfl,m,h1,h2,h3⟩⟩
    ·exact wpS_pure ⟨kp,r,_,_,_,_,rfl,hr⟩
    dsimp only;refine wpS_bind (wpS_modify ?_);exact wpS_pure ⟨⟨kp.kind,kp.arr,kp.pend,kp.failed⟩,_,_,_,_,rfl,m,h1,h2,h3⟩
   case s2 =>
    rintro y c st3 _ hy ⟨kp,out,ia,ib,g,ac,bc,rfl,m,h1,h2,h3⟩;dsimp only;obtain⟨pb,tb,eb,eb'⟩:=aP kb h2;refine ai (fun _=>?_) (fun _=>?_)
    ·skip
     refine wpS_bind (wpS_modify ?_);have kp3:fo st (SortSt.mk' (kindOf st3) (arrOf st3) (pendingOf st3) (g-1) (failedOf st3)):=⟨kp.kind,kp.arr,kp.pend,kp.failed⟩
     refine wpS_bind (aD eb ?_);refine wpS_bind (bF (P:=fun i=>!decide (K b ib<K a (ia+i))) (by omega) (fun i j e1 e2 e3=>by
      have z:=sa (ia+i) (ia+j) (by omega) (by omega);have y:¬ K b ib<K a (ia+j):=by simpa using e3
      have y2:¬ K b ib<K a (ia+i):=by omega
      simpa using y2) (fun i hi Q' hq=>dh (l:=false) as (kp3.kind.trans hk) ka (by omega) eb' Q' hq) fun k1 hk1 t1 t2=>?_)
     dsimp only;have u1:∀ j,ia<=j->j<ia+k1->K a j<=K b ib:=fun j e1 e2=>by
      have z:¬ K b ib<K a (ia+(j-ia)):=by simpa using t1 (j-ia) (by omega)
      rw[show ia+(j-ia)=j by omega] at z;omega
     have u2:∀ i,ia+k1<=i->i<a.size->K b ib<K a i:=fun i e1 e2=>by
      have z:K b ib<K a (ia+(i-ia)):=by simpa using t2 (i-ia) (by omega) (by omega)
      rwa[show ia+(i-ia)=i by omega] at z
     have hlb:=hl ib h2;refine ai (fun ck1=>?_) (fun ck1=>?_)
     ·have m1:MA a b (out++a.extract ia (ia+k1)) (ia+k1) ib:=m.cG (k:=k1) (by omega) (fun j i g1 g2 g3 g4=>by
       have z:=u1 j g1 g2;have y:=sb ib i g3 g4;omega) (by rw[IU,iG])
      refine ai (fun c=>wpS_pure ⟨kp3,.inl ⟨_,_,_,_,_,_,_,rfl,m1.fin2 (by simpa using c) hl⟩⟩) (fun c=>?_);have d1:¬ ia+k1+1=a.size:=fun z=>c (by simpa using z)
      refine ai (fun c=>wpS_pure ⟨kp3,.inl ⟨_,_,_,_,_,_,_,rfl,m1.vM (by simpa using c)⟩⟩) (fun c=>?_);have d2:¬ ia+k1=a.size:=fun z=>c (by simpa using z)
      have hIA:ia+k1+1<a.size:=by omega
      have hgt:=u2;refine wpS_bind (aD eb ?_);have m2:MA a b ((out++a.extract ia (ia+k1)).push pb) (ia+k1) (ib+1):=m1.dg (k:=1) (by omega) (fun j i g1 g2 g3 g4=>by
       have e:j=ib:=by omega
       rw[e];exact Jy (hgt i g3 g4)) (by rw[cI eb];simp)
      refine ai (fun c=>wpS_pure ⟨kp3,.inl ⟨_,_,_,_,_,_,_,rfl,m2.gM (by simpa using c)⟩⟩) (fun c=>?_);have c4:ib+1<b.size:=by
       have z:¬ ib+1=b.size:=fun z=>c (by simpa using z)
       omega
      obtain⟨pa0,ta0,ea0,kf⟩:=aP ka (i:=ia+k1) (by omega);refine wpS_bind (aD ea0 ?_);refine wpS_bind (bF (P:=fun i=>decide (K b (ib+1+i)<K a (ia+k1))) (by omega) (fun i j e1 e2 e3=>decide_eq_true (by
       have z:=sb (ib+1+i) (ib+1+j) (by omega) (by omega);have y:=of_decide_eq_true e3;omega)) (fun i hi Q' hq=>dh (l:=true) as (kp3.kind.trans hk) kb (by omega) kf Q' hq) fun k2 hk2 t1 t2=>?_)
      dsimp only;refine ai (fun ck2=>?_) (fun ck2=>?_)
      ·have m2':MA a b ((out++a.extract ia (ia+k1)).push pb++b.extract (ib+1) (ib+1+k2)) (ia+k1) (ib+1+k2):=m2.dg (k:=k2) (by omega) (fun j i g1 g2 g3 g4=>by
        have z:=of_decide_eq_true (t1 (j-(ib+1)) (by omega));rw[show ib+1+(j-(ib+1))=j by omega] at z;have y:=sa (ia+k1) i g3 g4;omega) (by rw[IU,iG])
       refine ai (fun c=>wpS_pure ⟨kp3,.inl ⟨_,_,_,_,_,_,_,rfl,m2'.gM (by simpa using c)⟩⟩) (fun c=>?_);have hIB:ib+1+k2<b.size:=by
        have z:¬ ib+1+k2=b.size:=fun z=>c (by simpa using z)
        omega
       have hle:∀ i,ib+1+k2<=i->i<b.size->K a (ia+k1)<=K b i:=fun i e1 e2=>by
        have z:=of_decide_eq_false (t2 (i-(ib+1)) (by omega) (by omega));rw[show ib+1+(i-(ib+1))=i by omega] at z;omega
       replace m2:=m2'
       obtain⟨pa,ta,ea,ea'⟩:=aP ka (i:=ia+k1) (by omega);refine wpS_bind (aD ea ?_);have m3:MA a b (((out++a.extract ia (ia+k1)).push pb++b.extract (ib+1) (ib+1+k2)).push pa) (ia+k1+1) (ib+1+k2):=m2.cG (k:=1) (by omega) (fun j i g1 g2 g3 g4=>by
        have e:j=ia+k1:=by omega
        rw[e];exact hle i g3 g4) (by rw[cI ea];simp)
       refine ai (fun c=>wpS_pure ⟨kp3,.inl ⟨_,_,_,_,_,_,_,rfl,m3.fin2 (by simpa using c) hl⟩⟩) (fun c=>?_);have c5:ia+k1+1+1<a.size:=by
        have z:¬ ia+k1+1+1=a.size:=fun z=>c (by simpa using z)
        omega
       have z3:x+2<=(((out++a.extract ia (ia+k1)).push pb++b.extract (ib+1) (ib+1+k2)).push pa).size:=by
        have y:=m3.size;have y2:=m.size;omega
       exact ai (fun _=>wpS_pure ⟨kp3,.inr ⟨_,_,_,_,_,_,rfl,m3,c5,hIB,z3⟩⟩) (fun _=>wpS_pure ⟨kp3,_,_,_,_,_,_,rfl,m3,c5,hIB,z3⟩)
      ·have hIB:=c4;have hle:∀ i,ib+1<=i->i<b.size->K a (ia+k1)<=K b i:=fun i e1 e2=>by
        have z:=of_decide_eq_false (t2 (i-(ib+1)) (by omega) (by omega));rw[show ib+1+(i-(ib+1))=i by omega] at z;omega
       obtain⟨pa,ta,ea,ea'⟩:=aP ka (i:=ia+k1) (by omega);refine wpS_bind (aD ea ?_);have m3:MA a b (((out++a.extract ia (ia+k1)).push pb).push pa) (ia+k1+1) (ib+1):=m2.cG (k:=1) (by omega) (fun j i g1 g2 g3 g4=>by
        have e:j=ia+k1:=by omega
        rw[e];exact hle i g3 g4) (by rw[cI ea];simp)
       refine ai (fun c=>wpS_pure ⟨kp3,.inl ⟨_,_,_,_,_,_,_,rfl,m3.fin2 (by simpa using c) hl⟩⟩) (fun c=>?_);have c5:ia+k1+1+1<a.size:=by
        have z:¬ ia+k1+1+1=a.size:=fun z=>c (by simpa using z)
        omega
       have z3:x+2<=(((out++a.extract ia (ia+k1)).push pb).push pa).size:=by
        have y:=m3.size;have y2:=m.size;omega
       exact ai (fun _=>wpS_pure ⟨kp3,.inr ⟨_,_,_,_,_,_,rfl,m3,c5,hIB,z3⟩⟩) (fun _=>wpS_pure ⟨kp3,_,_,_,_,_,_,rfl,m3,c5,hIB,z3⟩)
     ·have m1:=m;have hIA:=h1;have hgt:∀ i,ia<=i->i<a.size->K b ib<K a i:=fun i e1 e2=>u2 i (by omega) e2
      refine wpS_bind (aD eb ?_);have m2:MA a b ((out).push pb) (ia) (ib+1):=m1.dg (k:=1) (by omega) (fun j i g1 g2 g3 g4=>by
       have e:j=ib:=by omega
       rw[e];exact Jy (hgt i g3 g4)) (by rw[cI eb];simp)
      refine ai (fun c=>wpS_pure ⟨kp3,.inl ⟨_,_,_,_,_,_,_,rfl,m2.gM (by simpa using c)⟩⟩) (fun c=>?_);have c4:ib+1<b.size:=by
       have z:¬ ib+1=b.size:=fun z=>c (by simpa using z)
       omega
      obtain⟨pa0,ta0,ea0,kf⟩:=aP ka (i:=ia) (by omega);refine wpS_bind (aD ea0 ?_);refine wpS_bind (bF (P:=fun i=>decide (K b (ib+1+i)<K a (ia))) (by omega) (fun i j e1 e2 e3=>decide_eq_true (by
       have z:=sb (ib+1+i) (ib+1+j) (by omega) (by omega);have y:=of_decide_eq_true e3;omega)) (fun i hi Q' hq=>dh (l:=true) as (kp3.kind.trans hk) kb (by omega) kf Q' hq) fun k2 hk2 t1 t2=>?_)
      dsimp only;refine ai (fun ck2=>?_) (fun ck2=>?_)
      ·have m2':MA a b ((out).push pb++b.extract (ib+1) (ib+1+k2)) (ia) (ib+1+k2):=m2.dg (k:=k2) (by omega) (fun j i g1 g2 g3 g4=>by
        have z:=of_decide_eq_true (t1 (j-(ib+1)) (by omega));rw[show ib+1+(j-(ib+1))=j by omega] at z;have y:=sa (ia) i g3 g4;omega) (by rw[IU,iG])
       refine ai (fun c=>wpS_pure ⟨kp3,.inl ⟨_,_,_,_,_,_,_,rfl,m2'.gM (by simpa using c)⟩⟩) (fun c=>?_);have hIB:ib+1+k2<b.size:=by
        have z:¬ ib+1+k2=b.size:=fun z=>c (by simpa using z)
        omega
       have hle:∀ i,ib+1+k2<=i->i<b.size->K a (ia)<=K b i:=fun i e1 e2=>by
        have z:=of_decide_eq_false (t2 (i-(ib+1)) (by omega) (by omega));rw[show ib+1+(i-(ib+1))=i by omega] at z;omega
       replace m2:=m2'
       obtain⟨pa,ta,ea,ea'⟩:=aP ka (i:=ia) (by omega);refine wpS_bind (aD ea ?_);have m3:MA a b (((out).push pb++b.extract (ib+1) (ib+1+k2)).push pa) (ia+1) (ib+1+k2):=m2.cG (k:=1) (by omega) (fun j i g1 g2 g3 g4=>by
        have e:j=ia:=by omega
        rw[e];exact hle i g3 g4) (by rw[cI ea];simp)
       refine ai (fun c=>wpS_pure ⟨kp3,.inl ⟨_,_,_,_,_,_,_,rfl,m3.fin2 (by simpa using c) hl⟩⟩) (fun c=>?_);have c5:ia+1+1<a.size:=by
        have z:¬ ia+1+1=a.size:=fun z=>c (by simpa using z)
        omega
       have z3:x+2<=(((out).push pb++b.extract (ib+1) (ib+1+k2)).push pa).size:=by
        have y:=m3.size;have y2:=m.size;omega
       exact ai (fun _=>wpS_pure ⟨kp3,.inr ⟨_,_,_,_,_,_,rfl,m3,c5,hIB,z3⟩⟩) (fun _=>wpS_pure ⟨kp3,_,_,_,_,_,_,rfl,m3,c5,hIB,z3⟩)
      ·have hIB:=c4;have hle:∀ i,ib+1<=i->i<b.size->K a (ia)<=K b i:=fun i e1 e2=>by
        have z:=of_decide_eq_false (t2 (i-(ib+1)) (by omega) (by omega));rw[show ib+1+(i-(ib+1))=i by omega] at z;omega
       obtain⟨pa,ta,ea,ea'⟩:=aP ka (i:=ia) (by omega);refine wpS_bind (aD ea ?_);have m3:MA a b (((out).push pb).push pa) (ia+1) (ib+1):=m2.cG (k:=1) (by omega) (fun j i g1 g2 g3 g4=>by
        have e:j=ia:=by omega
        rw[e];exact hle i g3 g4) (by rw[cI ea];simp)
       refine ai (fun c=>wpS_pure ⟨kp3,.inl ⟨_,_,_,_,_,_,_,rfl,m3.fin2 (by simpa using c) hl⟩⟩) (fun c=>?_);have c5:ia+1+1<a.size:=by
        have z:¬ ia+1+1=a.size:=fun z=>c (by simpa using z)
        omega
       have z3:x+2<=(((out).push pb).push pa).size:=by
        have y:=m3.size;have y2:=m.size;omega
       exact ai (fun _=>wpS_pure ⟨kp3,.inr ⟨_,_,_,_,_,_,rfl,m3,c5,hIB,z3⟩⟩) (fun _=>wpS_pure ⟨kp3,_,_,_,_,_,_,rfl,m3,c5,hIB,z3⟩)
    ·skip
     refine wpS_bind (wpS_modify ?_);have kp3:fo st (SortSt.mk' (kindOf st3) (arrOf st3) (pendingOf st3) g (failedOf st3)):=⟨kp.kind,kp.arr,kp.pend,kp.failed⟩
     refine wpS_bind (aD eb ?_);refine wpS_bind (bF (P:=fun i=>!decide (K b ib<K a (ia+i))) (by omega) (fun i j e1 e2 e3=>by
      have z:=sa (ia+i) (ia+j) (by omega) (by omega);have y:¬ K b ib<K a (ia+j):=by simpa using e3
      have y2:¬ K b ib<K a (ia+i):=by omega
      simpa using y2) (fun i hi Q' hq=>dh (l:=false) as (kp3.kind.trans hk) ka (by omega) eb' Q' hq) fun k1 hk1 t1 t2=>?_)
     dsimp only;have u1:∀ j,ia<=j->j<ia+k1->K a j<=K b ib:=fun j e1 e2=>by
      have z:¬ K b ib<K a (ia+(j-ia)):=by simpa using t1 (j-ia) (by omega)
      rw[show ia+(j-ia)=j by omega] at z;omega
     have u2:∀ i,ia+k1<=i->i<a.size->K b ib<K a i:=fun i e1 e2=>by
      have z:K b ib<K a (ia+(i-ia)):=by simpa using t2 (i-ia) (by omega) (by omega)
      rwa[show ia+(i-ia)=i by omega] at z
     have hlb:=hl ib h2;refine ai (fun ck1=>?_) (fun ck1=>?_)
     ·have m1:MA a b (out++a.extract ia (ia+k1)) (ia+k1) ib:=m.cG (k:=k1) (by omega) (fun j i g1 g2 g3 g4=>by
       have z:=u1 j g1 g2;have y:=sb ib i g3 g4;omega) (by rw[IU,iG])
      refine ai (fun c=>wpS_pure ⟨kp3,.inl ⟨_,_,_,_,_,_,_,rfl,m1.fin2 (by simpa using c) hl⟩⟩) (fun c=>?_);have d1:¬ ia+k1+1=a.size:=fun z=>c (by simpa using z)
      refine ai (fun c=>wpS_pure ⟨kp3,.inl ⟨_,_,_,_,_,_,_,rfl,m1.vM (by simpa using c)⟩⟩) (fun c=>?_);have d2:¬ ia+k1=a.size:=fun z=>c (by simpa using z)
      have hIA:ia+k1+1<a.size:=by omega
      have hgt:=u2;refine wpS_bind (aD eb ?_);have m2:MA a b ((out++a.extract ia (ia+k1)).push pb) (ia+k1) (ib+1):=m1.dg (k:=1) (by omega) (fun j i g1 g2 g3 g4=>by
       have e:j=ib:=by omega
       rw[e];exact Jy (hgt i g3 g4)) (by rw[cI eb];simp)
      refine ai (fun c=>wpS_pure ⟨kp3,.inl ⟨_,_,_,_,_,_,_,rfl,m2.gM (by simpa using c)⟩⟩) (fun c=>?_);have c4:ib+1<b.size:=by
       have z:¬ ib+1=b.size:=fun z=>c (by simpa using z)
       omega
      obtain⟨pa0,ta0,ea0,kf⟩:=aP ka (i:=ia+k1) (by omega);refine wpS_bind (aD ea0 ?_);refine wpS_bind (bF (P:=fun i=>decide (K b (ib+1+i)<K a (ia+k1))) (by omega) (fun i j e1 e2 e3=>decide_eq_true (by
       have z:=sb (ib+1+i) (ib+1+j) (by omega) (by omega);have y:=of_decide_eq_true e3;omega)) (fun i hi Q' hq=>dh (l:=true) as (kp3.kind.trans hk) kb (by omega) kf Q' hq) fun k2 hk2 t1 t2=>?_)
      dsimp only;refine ai (fun ck2=>?_) (fun ck2=>?_)
      ·have m2':MA a b ((out++a.extract ia (ia+k1)).push pb++b.extract (ib+1) (ib+1+k2)) (ia+k1) (ib+1+k2):=m2.dg (k:=k2) (by omega) (fun j i g1 g2 g3 g4=>by
        have z:=of_decide_eq_true (t1 (j-(ib+1)) (by omega));rw[show ib+1+(j-(ib+1))=j by omega] at z;have y:=sa (ia+k1) i g3 g4;omega) (by rw[IU,iG])
       refine ai (fun c=>wpS_pure ⟨kp3,.inl ⟨_,_,_,_,_,_,_,rfl,m2'.gM (by simpa using c)⟩⟩) (fun c=>?_);have hIB:ib+1+k2<b.size:=by
        have z:¬ ib+1+k2=b.size:=fun z=>c (by simpa using z)
        omega
       have hle:∀ i,ib+1+k2<=i->i<b.size->K a (ia+k1)<=K b i:=fun i e1 e2=>by
        have z:=of_decide_eq_false (t2 (i-(ib+1)) (by omega) (by omega));rw[show ib+1+(i-(ib+1))=i by omega] at z;omega
       replace m2:=m2'
       obtain⟨pa,ta,ea,ea'⟩:=aP ka (i:=ia+k1) (by omega);refine wpS_bind (aD ea ?_);have m3:MA a b (((out++a.extract ia (ia+k1)).push pb++b.extract (ib+1) (ib+1+k2)).push pa) (ia+k1+1) (ib+1+k2):=m2.cG (k:=1) (by omega) (fun j i g1 g2 g3 g4=>by
        have e:j=ia+k1:=by omega
        rw[e];exact hle i g3 g4) (by rw[cI ea];simp)
       refine ai (fun c=>wpS_pure ⟨kp3,.inl ⟨_,_,_,_,_,_,_,rfl,m3.fin2 (by simpa using c) hl⟩⟩) (fun c=>?_);have c5:ia+k1+1+1<a.size:=by
        have z:¬ ia+k1+1+1=a.size:=fun z=>c (by simpa using z)
        omega
       have z3:x+2<=(((out++a.extract ia (ia+k1)).push pb++b.extract (ib+1) (ib+1+k2)).push pa).size:=by
        have y:=m3.size;have y2:=m.size;omega
       exact ai (fun _=>wpS_pure ⟨kp3,.inr ⟨_,_,_,_,_,_,rfl,m3,c5,hIB,z3⟩⟩) (fun _=>wpS_pure ⟨kp3,_,_,_,_,_,_,rfl,m3,c5,hIB,z3⟩)
      ·have hIB:=c4;have hle:∀ i,ib+1<=i->i<b.size->K a (ia+k1)<=K b i:=fun i e1 e2=>by
        have z:=of_decide_eq_false (t2 (i-(ib+1)) (by omega) (by omega));rw[show ib+1+(i-(ib+1))=i by omega] at z;omega
       obtain⟨pa,ta,ea,ea'⟩:=aP ka (i:=ia+k1) (by omega);refine wpS_bind (aD ea ?_);have m3:MA a b (((out++a.extract ia (ia+k1)).push pb).push pa) (ia+k1+1) (ib+1):=m2.cG (k:=1) (by omega) (fun j i g1 g2 g3 g4=>by
        have e:j=ia+k1:=by omega
        rw[e];exact hle i g3 g4) (by rw[cI ea];simp)
       refine ai (fun c=>wpS_pure ⟨kp3,.inl ⟨_,_,_,_,_,_,_,rfl,m3.fin2 (by simpa using c) hl⟩⟩) (fun c=>?_);have c5:ia+k1+1+1<a.size:=by
        have z:¬ ia+k1+1+1=a.size:=fun z=>c (by simpa using z)
        omega
       have z3:x+2<=(((out++a.extract ia (ia+k1)).push pb).push pa).size:=by
        have y:=m3.size;have y2:=m.size;omega
       exact ai (fun _=>wpS_pure ⟨kp3,.inr ⟨_,_,_,_,_,_,rfl,m3,c5,hIB,z3⟩⟩) (fun _=>wpS_pure ⟨kp3,_,_,_,_,_,_,rfl,m3,c5,hIB,z3⟩)
     ·have m1:=m;have hIA:=h1;have hgt:∀ i,ia<=i->i<a.size->K b ib<K a i:=fun i e1 e2=>u2 i (by omega) e2
      refine wpS_bind (aD eb ?_);have m2:MA a b ((out).push pb) (ia) (ib+1):=m1.dg (k:=1) (by omega) (fun j i g1 g2 g3 g4=>by
       have e:j=ib:=by omega
       rw[e];exact Jy (hgt i g3 g4)) (by rw[cI eb];simp)
      refine ai (fun c=>wpS_pure ⟨kp3,.inl ⟨_,_,_,_,_,_,_,rfl,m2.gM (by simpa using c)⟩⟩) (fun c=>?_);have c4:ib+1<b.size:=by
       have z:¬ ib+1=b.size:=fun z=>c (by simpa using z)
       omega
      obtain⟨pa0,ta0,ea0,kf⟩:=aP ka (i:=ia) (by omega);refine wpS_bind (aD ea0 ?_);refine wpS_bind (bF (P:=fun i=>decide (K b (ib+1+i)<K a (ia))) (by omega) (fun i j e1 e2 e3=>decide_eq_true (by
       have z:=sb (ib+1+i) (ib+1+j) (by omega) (by omega);have y:=of_decide_eq_true e3;omega)) (fun i hi Q' hq=>dh (l:=true) as (kp3.kind.trans hk) kb (by omega) kf Q' hq) fun k2 hk2 t1 t2=>?_)
      dsimp only;refine ai (fun ck2=>?_) (fun ck2=>?_)
      ·have m2':MA a b ((out).push pb++b.extract (ib+1) (ib+1+k2)) (ia) (ib+1+k2):=m2.dg (k:=k2) (by omega) (fun j i g1 g2 g3 g4=>by
        have z:=of_decide_eq_true (t1 (j-(ib+1)) (by omega));rw[show ib+1+(j-(ib+1))=j by omega] at z;have y:=sa (ia) i g3 g4;omega) (by rw[IU,iG])
       refine ai (fun c=>wpS_pure ⟨kp3,.inl ⟨_,_,_,_,_,_,_,rfl,m2'.gM (by simpa using c)⟩⟩) (fun c=>?_);have hIB:ib+1+k2<b.size:=by
        have z:¬ ib+1+k2=b.size:=fun z=>c (by simpa using z)
        omega
       have hle:∀ i,ib+1+k2<=i->i<b.size->K a (ia)<=K b i:=fun i e1 e2=>by
        have z:=of_decide_eq_false (t2 (i-(ib+1)) (by omega) (by omega));rw[show ib+1+(i-(ib+1))=i by omega] at z;omega
       replace m2:=m2'
       obtain⟨pa,ta,ea,ea'⟩:=aP ka (i:=ia) (by omega);refine wpS_bind (aD ea ?_);have m3:MA a b (((out).push pb++b.extract (ib+1) (ib+1+k2)).push pa) (ia+1) (ib+1+k2):=m2.cG (k:=1) (by omega) (fun j i g1 g2 g3 g4=>by
        have e:j=ia:=by omega
        rw[e];exact hle i g3 g4) (by rw[cI ea];simp)
       refine ai (fun c=>wpS_pure ⟨kp3,.inl ⟨_,_,_,_,_,_,_,rfl,m3.fin2 (by simpa using c) hl⟩⟩) (fun c=>?_);have c5:ia+1+1<a.size:=by
        have z:¬ ia+1+1=a.size:=fun z=>c (by simpa using z)
        omega
       have z3:x+2<=(((out).push pb++b.extract (ib+1) (ib+1+k2)).push pa).size:=by
        have y:=m3.size;have y2:=m.size;omega
       exact ai (fun _=>wpS_pure ⟨kp3,.inr ⟨_,_,_,_,_,_,rfl,m3,c5,hIB,z3⟩⟩) (fun _=>wpS_pure ⟨kp3,_,_,_,_,_,_,rfl,m3,c5,hIB,z3⟩)
      ·have hIB:=c4;have hle:∀ i,ib+1<=i->i<b.size->K a (ia)<=K b i:=fun i e1 e2=>by
        have z:=of_decide_eq_false (t2 (i-(ib+1)) (by omega) (by omega));rw[show ib+1+(i-(ib+1))=i by omega] at z;omega
       obtain⟨pa,ta,ea,ea'⟩:=aP ka (i:=ia) (by omega);refine wpS_bind (aD ea ?_);have m3:MA a b (((out).push pb).push pa) (ia+1) (ib+1):=m2.cG (k:=1) (by omega) (fun j i g1 g2 g3 g4=>by
        have e:j=ia:=by omega
        rw[e];exact hle i g3 g4) (by rw[cI ea];simp)
       refine ai (fun c=>wpS_pure ⟨kp3,.inl ⟨_,_,_,_,_,_,_,rfl,m3.fin2 (by simpa using c) hl⟩⟩) (fun c=>?_);have c5:ia+1+1<a.size:=by
        have z:¬ ia+1+1=a.size:=fun z=>c (by simpa using z)
        omega
       have z3:x+2<=(((out).push pb).push pa).size:=by
        have y:=m3.size;have y2:=m.size;omega
       exact ai (fun _=>wpS_pure ⟨kp3,.inr ⟨_,_,_,_,_,_,rfl,m3,c5,hIB,z3⟩⟩) (fun _=>wpS_pure ⟨kp3,_,_,_,_,_,_,rfl,m3,c5,hIB,z3⟩)
end
noncomputable def zH:Array Keyed->Array Keyed->StateT SortSt Sem (Array Keyed):=sortPriv% PySem.Builtin.mergeHi
structure HI (a b A B O:List Keyed):Prop where
 perm:(A++B++O).Perm (a++b)
 oA:Asc (A++O)
 oB:Asc (B++O)
section
variable {a b A B O X A' B':List Keyed}
theorem HI.dg (h:HI a b A (B'++X) O)(hx:∀ x∈X,∀ q∈A,num q<=num x):HI a b A B' (X++O):=by
 refine⟨?_,?_,by rw[<- Ik];exact h.oB⟩
 ·refine List.Perm.trans ?_ h.perm;rw[Ik,Ik,<- Ik B' X O]
 ·obtain⟨p1,p2,p3⟩:=IQ.mp h.oA;have q0:=h.oB;rw[Ik] at q0;obtain⟨_,q1,_⟩:=IQ.mp q0;refine IQ.mpr ⟨p1,q1,fun y hy q hq=>?_⟩;rcases Ic.mp hq with z | z
  ·exact hx q z y hy
  ·exact p3 y hy q z
theorem HI.cG (h:HI a b (A'++X) B O)(hx:∀ x∈X,∀ q∈B,num q<=num x):HI a b A' B (X++O):=by
 refine⟨?_,by rw[<- Ik];exact h.oA,?_⟩
 ·refine List.Perm.trans ?_ h.perm;rw[Ik,Ik,Ik];refine List.Perm.append_left A' ?_;rw[<- Ik,<- Ik];exact List.Perm.append_right O Ku
 ·obtain⟨p1,p2,p3⟩:=IQ.mp h.oB;have q0:=h.oA;rw[Ik] at q0;obtain⟨_,q1,_⟩:=IQ.mp q0;refine IQ.mpr ⟨p1,q1,fun y hy q hq=>?_⟩;rcases Ic.mp hq with z | z
  ·exact hx q z y hy
  ·exact p3 y hy q z
end
structure MH (a b out:Array Keyed) (na nb:Nat):Prop where
 hi:HI a.toList b.toList (a.toList.take na) (b.toList.take nb) out.toList.reverse
 la:na<=a.size
 lb:nb<=b.size
theorem cy (out:Array Keyed)(p:Keyed):(out.push p).toList.reverse=[p]++out.toList.reverse:=by simp
theorem jK (out xs:Array Keyed):(out++xs.reverse).toList.reverse=xs.toList++out.toList.reverse:=by simp
theorem fi (xs:Array Keyed){i j:Nat}(h:i<=j):(xs.extract i j).toList=(xs.toList.take j).drop i:=by simp[List.drop_take]
theorem bI {xs:Array Keyed}{i n:Nat}{p:Keyed}(h:xs[i]?=some p)(e:i+1=n):(xs.toList.take n).drop (n-1)=[p]:=by
 subst e;have h':xs.toList[i]?=some p:=by simpa using h
 rw[Mf,KU,h',List.drop_append_of_le_length (by have:=(HR.mp h').1;rw[Iw];omega)];rw[Kr (by rw[Iw];omega)]
 rfl
theorem take_take (xs:List Keyed)(n k:Nat):xs.take n=xs.take (n-k)++(xs.take n).drop (n-k):=by
 have z:=Jr (n-k) (xs.take n);rw[LZ,Kv (Mn _ _)] at z;exact z.symm
theorem jr {xs:Array Keyed}{i n:Nat}{p:Keyed}(h:p∈(xs.toList.take n).drop i):∃ j,i<=j/\j<n/\xs[j]?=some p:=by
 obtain⟨j,hj⟩:=Jx.mp h;rw[JO] at hj;have hl:=(HR.mp hj).1;rw[Iw] at hl;rw[Ke (by omega)] at hj;exact⟨i+j,by omega,by omega,by simpa using hj⟩
theorem jL {xs:Array Keyed}{n:Nat}{p:Keyed}(h:p∈xs.toList.take n):∃ j,j<n/\xs[j]?=some p:=by
 obtain⟨j,_,h2,h3⟩:=jr (i:=0) (by simpa using h);exact⟨j,h2,h3⟩
section
variable {a b out:Array Keyed}{na nb k:Nat}
theorem MH.dg (h:MH a b out na nb)(hk:k<=nb)(hx:∀ j i,nb-k<=j->j<nb->i<na->K a i<=K b j){out':Array Keyed}(ho:out'.toList.reverse=(b.toList.take nb).drop (nb-k)++out.toList.reverse):MH a b out' na (nb-k):=by
 have m:=h.hi;rw[take_take b.toList nb k] at m;refine⟨?_,h.la,Jk (Mn _ _) h.lb⟩;rw[ho];refine m.dg fun x hx1 q hq=>?_
 obtain⟨j,h1,h2,h3⟩:=jr hx1;obtain⟨i,h4,h5⟩:=jL hq;rw[<- bZ h3,<- bZ h5];exact hx j i h1 h2 h4
theorem MH.cG (h:MH a b out na nb)(hk:k<=na)(hx:∀ j i,na-k<=j->j<na->i<nb->K b i<=K a j){out':Array Keyed}(ho:out'.toList.reverse=(a.toList.take na).drop (na-k)++out.toList.reverse):MH a b out' (na-k) nb:=by
 have m:=h.hi;rw[take_take a.toList na k] at m;refine⟨?_,Jk (Mn _ _) h.la,h.lb⟩;rw[ho];refine m.cG fun x hx1 q hq=>?_
 obtain⟨j,h1,h2,h3⟩:=jr hx1;obtain⟨i,h4,h5⟩:=jL hq;rw[<- bZ h3,<- bZ h5];exact hx j i h1 h2 h4
theorem MH.size (h:MH a b out na nb):out.size+na+nb=a.size+b.size:=by
 have z:=h.hi.perm.length_eq;have l1:=h.la;have l2:=h.lb;simp only[HY,Iw,Jb,List.length_reverse] at z;omega
theorem jM (xs:Array Keyed)(n:Nat):(xs.extract 0 n).toList=xs.toList.take n:=by simp
theorem MH.gM (h:MH a b out na nb)(e:na=0):Res a b (a.extract 0 na++b.extract 0 nb++out.reverse):=by
 have m:=h.hi;subst e;unfold Res;rw[IU,IU,jM,jM,K6];rw[L3] at m ⊢;rw[LM];exact⟨by have z:=m.perm;rwa[LM] at z,m.oB⟩
theorem MH.vM (h:MH a b out na nb)(e:nb=0):Res a b (a.extract 0 na++b.extract 0 nb++out.reverse):=by
 have m:=h.hi;subst e;unfold Res;rw[IU,IU,jM,jM,K6];rw[L3] at m ⊢;rw[Iy];exact⟨by have z:=m.perm;rwa[Iy] at z,m.oA⟩
theorem MH.fin2 (h:MH a b out na nb)(e:nb=1)(sa:SortedTo a a.size)(h0:K b 0<K a 0):Res a b (b.extract 0 nb++a.extract 0 na++out.reverse):=by
 have m:=h.hi;unfold Res;rw[IU,IU,jM,jM,K6];refine⟨List.Perm.trans (List.Perm.append_right _ Ku) m.perm,?_⟩;obtain⟨p1,p2,p3⟩:=IQ.mp m.oB;rw[Ik];refine IQ.mpr ⟨p1,m.oA,fun x hx q hq=>?_⟩;rcases Ic.mp hq with z | z
 ·obtain⟨j,h1,h2⟩:=jL hx;obtain⟨i,h3,h4⟩:=jL z;have hi:i<a.size:=(Je.mp h4).1;rw[<- bZ h2,<- bZ h4,show j=0 by omega];have y:=sa 0 i (by omega) hi;omega
 ·exact p3 x hx q z
end
section
variable {prog:Program}{w:World}{A:Around}{E:Value->Shared->Prop}{s:Shared}
theorem ug {st:SortSt}{a b:Array Keyed}{Q:Array Keyed->SortSt->Prop}(as:Asks prog w A s)(hk:kindOf st=oneType')(ka:IntKeys a)(kb:IntKeys b)(sa:SortedTo a a.size)(sb:SortedTo b b.size)(na0:1<=a.size)(nb0:1<=b.size)
  (h0:K b 0<K a 0) (hl:∀ j,j<b.size->K b j<K a (a.size-1)) (q:∀ r st',fo st st'->Res a b r->Q r st'):wpS (model prog w) A E s (zH a b) Q st:=by
 obtain⟨a0,ta0,ea0,_⟩:=aP ka (i:=a.size-1) (by omega);have Mi:MH a b #[] a.size b.size:=⟨⟨by simp[J7],by simpa[J7] using rB sa,by simpa[J7] using rB sb⟩,HV _,HV _⟩
 have M0:MH a b #[a0] (a.size-1) b.size:=Mi.cG (k:=1) (by omega) (fun j i g1 g2 g3=>by
  have e:j=a.size-1:=by omega
  rw[e];exact Jy (hl i g3)) (by rw[bI ea0 (by omega)];simp)
 refine wpS_bind (wpS_lift (wpAny_rule ⟨rfl,?_⟩));refine wpS_bind (aD ea0 ?_);refine ai (fun c=>wpS_pure (q _ _ (fo.refl _) (M0.gM (by simpa using c)))) (fun c1=>?_);refine ai (fun c=>wpS_pure (q _ _ (fo.refl _) (M0.fin2 (by simpa using c) sa h0))) (fun c2=>?_);have c1:0<a.size-1:=by
  have z:¬ a.size-1=0:=fun z=>c1 (by simpa using z)
  omega
 have c2:1<b.size:=by
  have z:¬ b.size=1:=fun z=>c2 (by simpa using z)
  omega
 refine wpS_bind (wpS_get ?_);refine wpS_bind (wpS_mono (wpS_forRange (I:=fun x c st'=>fo st st'/\∃ out na nb g,c=(none,na,nb,out,g)/\MH a b out na nb/\0<na/\1<nb/\x+1<=out.size)
  (Q:=fun c st'=>fo st st'/\∃ r out na nb g,c=(some r,na,nb,out,g)/\Res a b r) ?step ?fin ⟨fo.refl _,_,_,_,_,rfl,M0,c1,c2,by simp⟩) ?post)
 case post =>
  rintro c st' ⟨kp,r,out,na,nb,g,rfl,hr⟩;exact wpS_pure (q r st' kp hr)
 case fin =>
  rintro c st' ⟨kp,out,na,nb,g,rfl,m,h1,h2,h3⟩;have z:=m.size;omega
 case step =>
  rintro x c st' _ hx ⟨kp,out,na,nb,g,rfl,m,h1,h2,h3⟩;dsimp only;refine wpS_bind (wpS_mono (wpS_forRange (I:=fun y c aZ=>fo st aZ/\∃ out na nb ac bc,c=(none,na,nb,out,ac,bc)/\MH a b out na nb/\0<na/\1<nb/\x+1<=out.size/\(0<y->x+2<=out.size))
   (Q:=fun c aZ=>fo st aZ/\((∃ r out na nb ac bc,c=(some r,na,nb,out,ac,bc)/\Res a b r)\/∃ out na nb ac bc,c=(none,na,nb,out,ac,bc)/\MH a b out na nb/\0<na/\1<nb/\x+2<=out.size)) ?s1 ?f1 ⟨kp,_,_,_,_,_,rfl,m,h1,h2,h3,fun z=>absurd z (JK _)⟩) ?p1)
  case f1 =>
   rintro c aZ ⟨kp,out,na,nb,ac,bc,rfl,m,h1,h2,h3,h4⟩;exact⟨kp,.inr ⟨out,na,nb,ac,bc,rfl,m,h1,h2,h4 (by omega)⟩⟩
  case s1 =>
   rintro y c aZ _ hy ⟨kp,out,na,nb,ac,bc,rfl,m,h1,h2,h3,h4⟩;dsimp only;have la:=m.la;have lb:=m.lb;obtain⟨pb,tb,eb,eb'⟩:=aP kb (i:=nb-1) (by omega);obtain⟨pa,ta,ea,ea'⟩:=aP ka (i:=na-1) (by omega);refine wpS_bind (aD eb (wpS_bind (aD ea (wpS_bind (oz as (kp.kind.trans hk) eb' ea' ?_)))));by_cases cc:K b (nb-1)<K a (na-1)
   ·simp only[cc,decide_true,if_true];have m':MH a b (out.push pa) (na-1) nb:=m.cG (k:=1) (by omega) (fun j i g1 g2 g3=>by
     have e:j=na-1:=by omega
     rw[e];have z:=sb i (nb-1) (by omega) (by omega);omega) (by rw[cy,bI ea (by omega)])
    refine wpS_bind (aD ea ?_);refine ai (fun c=>wpS_pure ⟨kp,.inl ⟨_,_,_,_,_,_,rfl,m'.gM (by simpa using c)⟩⟩) (fun c=>?_);have c:0<na-1:=by
     have z:¬ na-1=0:=fun z=>c (by simpa using z)
     omega
    refine ai (fun _=>wpS_pure ⟨kp,.inr ⟨_,_,_,_,_,rfl,m',c,h2,by rw[Ju];omega⟩⟩) (fun _=>wpS_pure ⟨kp,_,_,_,_,_,rfl,m',c,h2,by rw[Ju];omega,fun _=>by rw[Ju];omega⟩)
   ·simp only[cc,decide_false,Jl,if_false];have m':MH a b (out.push pb) na (nb-1):=m.dg (k:=1) (by omega) (fun j i g1 g2 g3=>by
     have e:j=nb-1:=by omega
     rw[e];have z:=sa i (na-1) (by omega) (by omega);omega) (by rw[cy,bI eb (by omega)])
    refine wpS_bind (aD eb ?_);refine ai (fun c=>wpS_pure ⟨kp,.inl ⟨_,_,_,_,_,_,rfl,m'.fin2 (by simpa using c) sa h0⟩⟩) (fun c=>?_);have c:1<nb-1:=by
     have z:¬ nb-1=1:=fun z=>c (by simpa using z)
     omega
    refine ai (fun _=>wpS_pure ⟨kp,.inr ⟨_,_,_,_,_,rfl,m',h1,c,by rw[Ju];omega⟩⟩) (fun _=>wpS_pure ⟨kp,_,_,_,_,_,rfl,m',h1,c,by rw[Ju];omega,fun _=>by rw[Ju];omega⟩)
  case p1 =>
   rintro c aZ ⟨kp,⟨r,out,na,nb,ac,bc,rfl,hr⟩ | ⟨out,na,nb,ac,bc,rfl,m,h1,h2,h3⟩⟩
   ·exact wpS_pure ⟨kp,r,_,_,_,_,rfl,hr⟩
   dsimp only;refine wpS_bind (wpS_lift (wpAny_rule ⟨rfl,?_⟩));refine wpS_bind (wpS_mono (wpS_forRange (I:=fun y c st3=>fo st st3/\∃ out na nb g ac bc,c=(none,na,nb,out,g,ac,bc)/\MH a b out na nb/\0<na/\1<nb/\x+2<=out.size)
    (Q:=fun c st3=>fo st st3/\((∃ r out na nb g ac bc,c=(some r,na,nb,out,g,ac,bc)/\Res a b r)\/∃ out na nb g ac bc,c=(none,na,nb,out,g,ac,bc)/\MH a b out na nb/\0<na/\1<nb/\x+2<=out.size)) ?s2 ?f2 ⟨kp,_,_,_,_,_,_,rfl,m,h1,h2,h3⟩) ?p2)
   case f2 =>
    rintro c st3 ⟨kp,out,na,nb,g,ac,bc,rfl,m,h1,h2,h3⟩;exact⟨kp,.inr ⟨out,na,nb,g,ac,bc,rfl,m,h1,h2,h3⟩⟩
   case p2 =>
    rintro c st3 ⟨kp,⟨r,out,na,nb,g,ac,bc,rfl,hr⟩ | ⟨out,na,nb,g,ac,bc,rfl,m,h1,h2,h3⟩⟩
    ·exact wpS_pure ⟨kp,r,_,_,_,_,rfl,hr⟩
    dsimp only;refine wpS_bind (wpS_modify ?_);exact wpS_pure ⟨⟨kp.kind,kp.arr,kp.pend,kp.failed⟩,_,_,_,_,rfl,m,h1,h2,h3⟩
   case s2 =>
    rintro y c st3 _ hy ⟨kp,out,na,nb,g,ac,bc,rfl,m,h1,h2,h3⟩;dsimp only;have la:=m.la;have lb:=m.lb;obtain⟨pb,tb,eb,eb'⟩:=aP kb (i:=nb-1) (by omega);refine ai (fun _=>?_) (fun _=>?_)
    ·skip
     refine wpS_bind (wpS_modify ?_);have kp3:fo st (SortSt.mk' (kindOf st3) (arrOf st3) (pendingOf st3) (g-1) (failedOf st3)):=⟨kp.kind,kp.arr,kp.pend,kp.failed⟩
     refine wpS_bind (aD eb ?_);refine wpS_bind (bF (P:=fun i=>!decide (K b (nb-1)<K a (0+i))) (by omega) (fun i j e1 e2 e3=>by
      have z:=sa (0+i) (0+j) (by omega) (by omega);have y:¬ K b (nb-1)<K a (0+j):=by simpa using e3
      have y2:¬ K b (nb-1)<K a (0+i):=by omega
      simpa using y2) (fun i hi Q' hq=>dh (l:=false) as (kp3.kind.trans hk) ka (by omega) eb' Q' hq) fun at1 hk1 t1 t2=>?_)
     dsimp only;have u1:∀ j,j<at1->K a j<=K b (nb-1):=fun j e1=>by
      have z:¬ K b (nb-1)<K a (0+j):=by simpa using t1 j e1
      rw[IZ] at z;omega
     have u2:∀ i,at1<=i->i<na->K b (nb-1)<K a i:=fun i e1 e2=>by
      have z:K b (nb-1)<K a (0+i):=by simpa using t2 i e1 e2
      rwa[IZ] at z
     refine ai (fun ck1=>?_) (fun ck1=>?_)
     ·have m1:MH a b (out++(a.extract at1 na).reverse) at1 nb:=by
       have z:=m.cG (k:=na-at1) (out':=out++(a.extract at1 na).reverse) (by omega) (fun j i g1 g2 g3=>by
        have z:=u2 j (by omega) (by omega);have y:=sb i (nb-1) (by omega) (by omega);omega) (by rw[jK,show na-(na-at1)=at1 by omega,fi a (by omega)])
       rwa[show na-(na-at1)=at1 by omega] at z
      refine ai (fun c=>wpS_pure ⟨kp3,.inl ⟨_,_,_,_,_,_,_,rfl,m1.gM (by simpa using c)⟩⟩) (fun c=>?_);have d1:¬ at1=0:=fun z=>c (by simpa using z)
      have hIA:0<at1:=by omega
      have hgt:=u1;refine wpS_bind (aD eb ?_);have m2:MH a b ((out++(a.extract at1 na).reverse).push pb) (at1) (nb-1):=m1.dg (k:=1) (by omega) (fun j i g1 g2 g3=>by
       have e:j=nb-1:=by omega
       rw[e];exact hgt i g3) (by rw[cy,bI eb (by omega)])
      refine ai (fun c=>wpS_pure ⟨kp3,.inl ⟨_,_,_,_,_,_,_,rfl,m2.fin2 (by simpa using c) sa h0⟩⟩) (fun c=>?_);have c4:1<nb-1:=by
       have z:¬ nb-1=1:=fun z=>c (by simpa using z)
       omega
      obtain⟨pa0,ta0,ea0,kf⟩:=aP ka (i:=at1-1) (by omega);refine wpS_bind (aD ea0 ?_);refine wpS_bind (bF (P:=fun i=>decide (K b (0+i)<K a (at1-1))) (by omega) (fun i j e1 e2 e3=>decide_eq_true (by
       have z:=sb (0+i) (0+j) (by omega) (by omega);have y:=of_decide_eq_true e3;omega)) (fun i hi Q' hq=>dh (l:=true) as (kp3.kind.trans hk) kb (by omega) kf Q' hq) fun at2 hk2 t1 t2=>?_)
      dsimp only;have v1:∀ i,i<at2->K b i<K a (at1-1):=fun i e1=>by
       have z:=of_decide_eq_true (t1 i e1);rwa[IZ] at z
      have v2:∀ i,at2<=i->i<nb-1->K a (at1-1)<=K b i:=fun i e1 e2=>by
       have z:=of_decide_eq_false (t2 i e1 e2);rw[IZ] at z;omega
      refine ai (fun ck2=>?_) (fun ck2=>?_)
      ·have m2':MH a b ((out++(a.extract at1 na).reverse).push pb++(b.extract at2 (nb-1)).reverse) (at1) at2:=by
        have z:=m2.dg (k:=nb-1-at2) (out':=(out++(a.extract at1 na).reverse).push pb++(b.extract at2 (nb-1)).reverse) (by omega) (fun j i g1 g2 g3=>by
         have z:=v2 j (by omega) (by omega);have y:=sa i (at1-1) (by omega) (by omega);omega) (by rw[jK,show nb-1-(nb-1-at2)=at2 by omega,fi b (by omega)])
        rwa[show nb-1-(nb-1-at2)=at2 by omega] at z
       refine ai (fun c=>wpS_pure ⟨kp3,.inl ⟨_,_,_,_,_,_,_,rfl,m2'.fin2 (by simpa using c) sa h0⟩⟩) (fun c=>?_);have d1:¬ at2=1:=fun z=>c (by simpa using z)
       refine ai (fun c=>wpS_pure ⟨kp3,.inl ⟨_,_,_,_,_,_,_,rfl,m2'.vM (by simpa using c)⟩⟩) (fun c=>?_);have d2:¬ at2=0:=fun z=>c (by simpa using z)
       have hIB:1<at2:=by omega
       have hle:∀ i,i<at2->K b i<=K a (at1-1):=fun i e1=>Jy (v1 i e1)
       replace m2:=m2'
       obtain⟨pa,ta,ea,ea'⟩:=aP ka (i:=at1-1) (by omega);refine wpS_bind (aD ea ?_);have m3:MH a b (((out++(a.extract at1 na).reverse).push pb++(b.extract at2 (nb-1)).reverse).push pa) (at1-1) (at2):=m2.cG (k:=1) (by omega) (fun j i g1 g2 g3=>by
        have e:j=at1-1:=by omega
        rw[e];exact hle i g3) (by rw[cy,bI ea (by omega)])
       refine ai (fun c=>wpS_pure ⟨kp3,.inl ⟨_,_,_,_,_,_,_,rfl,m3.gM (by simpa using c)⟩⟩) (fun c=>?_);have c5:0<at1-1:=by
        have z:¬ at1-1=0:=fun z=>c (by simpa using z)
        omega
       have z3:x+2<=(((out++(a.extract at1 na).reverse).push pb++(b.extract at2 (nb-1)).reverse).push pa).size:=by
        have y:=m3.size;have y2:=m.size;omega
       exact ai (fun _=>wpS_pure ⟨kp3,.inr ⟨_,_,_,_,_,_,rfl,m3,c5,hIB,z3⟩⟩) (fun _=>wpS_pure ⟨kp3,_,_,_,_,_,_,rfl,m3,c5,hIB,z3⟩)
      ·have hIB:=c4;have hle:∀ i,i<nb-1->K b i<=K a (at1-1):=fun i e1=>Jy (v1 i (by omega))
       obtain⟨pa,ta,ea,ea'⟩:=aP ka (i:=at1-1) (by omega);refine wpS_bind (aD ea ?_);have m3:MH a b (((out++(a.extract at1 na).reverse).push pb).push pa) (at1-1) (nb-1):=m2.cG (k:=1) (by omega) (fun j i g1 g2 g3=>by
        have e:j=at1-1:=by omega
        rw[e];exact hle i g3) (by rw[cy,bI ea (by omega)])
       refine ai (fun c=>wpS_pure ⟨kp3,.inl ⟨_,_,_,_,_,_,_,rfl,m3.gM (by simpa using c)⟩⟩) (fun c=>?_);have c5:0<at1-1:=by
        have z:¬ at1-1=0:=fun z=>c (by simpa using z)
        omega
       have z3:x+2<=(((out++(a.extract at1 na).reverse).push pb).push pa).size:=by
        have y:=m3.size;have y2:=m.size;omega
       exact ai (fun _=>wpS_pure ⟨kp3,.inr ⟨_,_,_,_,_,_,rfl,m3,c5,hIB,z3⟩⟩) (fun _=>wpS_pure ⟨kp3,_,_,_,_,_,_,rfl,m3,c5,hIB,z3⟩)
     ·have m1:=m;have hIA:=h1;have hgt:∀ i,i<na->K a i<=K b (nb-1):=fun i e1=>u1 i (by omega)
      refine wpS_bind (aD eb ?_);have m2:MH a b ((out).push pb) (na) (nb-1):=m1.dg (k:=1) (by omega) (fun j i g1 g2 g3=>by
       have e:j=nb-1:=by omega
       rw[e];exact hgt i g3) (by rw[cy,bI eb (by omega)])
      refine ai (fun c=>wpS_pure ⟨kp3,.inl ⟨_,_,_,_,_,_,_,rfl,m2.fin2 (by simpa using c) sa h0⟩⟩) (fun c=>?_);have c4:1<nb-1:=by
       have z:¬ nb-1=1:=fun z=>c (by simpa using z)
       omega
      obtain⟨pa0,ta0,ea0,kf⟩:=aP ka (i:=na-1) (by omega);refine wpS_bind (aD ea0 ?_);refine wpS_bind (bF (P:=fun i=>decide (K b (0+i)<K a (na-1))) (by omega) (fun i j e1 e2 e3=>decide_eq_true (by
       have z:=sb (0+i) (0+j) (by omega) (by omega);have y:=of_decide_eq_true e3;omega)) (fun i hi Q' hq=>dh (l:=true) as (kp3.kind.trans hk) kb (by omega) kf Q' hq) fun at2 hk2 t1 t2=>?_)
      dsimp only;have v1:∀ i,i<at2->K b i<K a (na-1):=fun i e1=>by
       have z:=of_decide_eq_true (t1 i e1);rwa[IZ] at z
      have v2:∀ i,at2<=i->i<nb-1->K a (na-1)<=K b i:=fun i e1 e2=>by
       have z:=of_decide_eq_false (t2 i e1 e2);rw[IZ] at z;omega
      refine ai (fun ck2=>?_) (fun ck2=>?_)
      ·have m2':MH a b ((out).push pb++(b.extract at2 (nb-1)).reverse) (na) at2:=by
        have z:=m2.dg (k:=nb-1-at2) (out':=(out).push pb++(b.extract at2 (nb-1)).reverse) (by omega) (fun j i g1 g2 g3=>by
         have z:=v2 j (by omega) (by omega);have y:=sa i (na-1) (by omega) (by omega);omega) (by rw[jK,show nb-1-(nb-1-at2)=at2 by omega,fi b (by omega)])
        rwa[show nb-1-(nb-1-at2)=at2 by omega] at z
       refine ai (fun c=>wpS_pure ⟨kp3,.inl ⟨_,_,_,_,_,_,_,rfl,m2'.fin2 (by simpa using c) sa h0⟩⟩) (fun c=>?_);have d1:¬ at2=1:=fun z=>c (by simpa using z)
       refine ai (fun c=>wpS_pure ⟨kp3,.inl ⟨_,_,_,_,_,_,_,rfl,m2'.vM (by simpa using c)⟩⟩) (fun c=>?_);have d2:¬ at2=0:=fun z=>c (by simpa using z)
       have hIB:1<at2:=by omega
       have hle:∀ i,i<at2->K b i<=K a (na-1):=fun i e1=>Jy (v1 i e1)
       replace m2:=m2'
       obtain⟨pa,ta,ea,ea'⟩:=aP ka (i:=na-1) (by omega);refine wpS_bind (aD ea ?_);have m3:MH a b (((out).push pb++(b.extract at2 (nb-1)).reverse).push pa) (na-1) (at2):=m2.cG (k:=1) (by omega) (fun j i g1 g2 g3=>by
        have e:j=na-1:=by omega
        rw[e];exact hle i g3) (by rw[cy,bI ea (by omega)])
       refine ai (fun c=>wpS_pure ⟨kp3,.inl ⟨_,_,_,_,_,_,_,rfl,m3.gM (by simpa using c)⟩⟩) (fun c=>?_);have c5:0<na-1:=by
        have z:¬ na-1=0:=fun z=>c (by simpa using z)
        omega
       have z3:x+2<=(((out).push pb++(b.extract at2 (nb-1)).reverse).push pa).size:=by
        have y:=m3.size;have y2:=m.size;omega
       exact ai (fun _=>wpS_pure ⟨kp3,.inr ⟨_,_,_,_,_,_,rfl,m3,c5,hIB,z3⟩⟩) (fun _=>wpS_pure ⟨kp3,_,_,_,_,_,_,rfl,m3,c5,hIB,z3⟩)
      ·have hIB:=c4;have hle:∀ i,i<nb-1->K b i<=K a (na-1):=fun i e1=>Jy (v1 i (by omega))
       obtain⟨pa,ta,ea,ea'⟩:=aP ka (i:=na-1) (by omega);refine wpS_bind (aD ea ?_);have m3:MH a b (((out).push pb).push pa) (na-1) (nb-1):=m2.cG (k:=1) (by omega) (fun j i g1 g2 g3=>by
        have e:j=na-1:=by omega
        rw[e];exact hle i g3) (by rw[cy,bI ea (by omega)])
       refine ai (fun c=>wpS_pure ⟨kp3,.inl ⟨_,_,_,_,_,_,_,rfl,m3.gM (by simpa using c)⟩⟩) (fun c=>?_);have c5:0<na-1:=by
        have z:¬ na-1=0:=fun z=>c (by simpa using z)
        omega
       have z3:x+2<=(((out).push pb).push pa).size:=by
        have y:=m3.size;have y2:=m.size;omega
       exact ai (fun _=>wpS_pure ⟨kp3,.inr ⟨_,_,_,_,_,_,rfl,m3,c5,hIB,z3⟩⟩) (fun _=>wpS_pure ⟨kp3,_,_,_,_,_,_,rfl,m3,c5,hIB,z3⟩)
    ·skip
     refine wpS_bind (wpS_modify ?_);have kp3:fo st (SortSt.mk' (kindOf st3) (arrOf st3) (pendingOf st3) g (failedOf st3)):=⟨kp.kind,kp.arr,kp.pend,kp.failed⟩
     refine wpS_bind (aD eb ?_);refine wpS_bind (bF (P:=fun i=>!decide (K b (nb-1)<K a (0+i))) (by omega) (fun i j e1 e2 e3=>by
      have z:=sa (0+i) (0+j) (by omega) (by omega);have y:¬ K b (nb-1)<K a (0+j):=by simpa using e3
      have y2:¬ K b (nb-1)<K a (0+i):=by omega
      simpa using y2) (fun i hi Q' hq=>dh (l:=false) as (kp3.kind.trans hk) ka (by omega) eb' Q' hq) fun at1 hk1 t1 t2=>?_)
     dsimp only;have u1:∀ j,j<at1->K a j<=K b (nb-1):=fun j e1=>by
      have z:¬ K b (nb-1)<K a (0+j):=by simpa using t1 j e1
      rw[IZ] at z;omega
     have u2:∀ i,at1<=i->i<na->K b (nb-1)<K a i:=fun i e1 e2=>by
      have z:K b (nb-1)<K a (0+i):=by simpa using t2 i e1 e2
      rwa[IZ] at z
     refine ai (fun ck1=>?_) (fun ck1=>?_)
     ·have m1:MH a b (out++(a.extract at1 na).reverse) at1 nb:=by
       have z:=m.cG (k:=na-at1) (out':=out++(a.extract at1 na).reverse) (by omega) (fun j i g1 g2 g3=>by
        have z:=u2 j (by omega) (by omega);have y:=sb i (nb-1) (by omega) (by omega);omega) (by rw[jK,show na-(na-at1)=at1 by omega,fi a (by omega)])
       rwa[show na-(na-at1)=at1 by omega] at z
      refine ai (fun c=>wpS_pure ⟨kp3,.inl ⟨_,_,_,_,_,_,_,rfl,m1.gM (by simpa using c)⟩⟩) (fun c=>?_);have d1:¬ at1=0:=fun z=>c (by simpa using z)
      have hIA:0<at1:=by omega
      have hgt:=u1;refine wpS_bind (aD eb ?_);have m2:MH a b ((out++(a.extract at1 na).reverse).push pb) (at1) (nb-1):=m1.dg (k:=1) (by omega) (fun j i g1 g2 g3=>by
       have e:j=nb-1:=by omega
       rw[e];exact hgt i g3) (by rw[cy,bI eb (by omega)])
      refine ai (fun c=>wpS_pure ⟨kp3,.inl ⟨_,_,_,_,_,_,_,rfl,m2.fin2 (by simpa using c) sa h0⟩⟩) (fun c=>?_);have c4:1<nb-1:=by
       have z:¬ nb-1=1:=fun z=>c (by simpa using z)
       omega
      obtain⟨pa0,ta0,ea0,kf⟩:=aP ka (i:=at1-1) (by omega);refine wpS_bind (aD ea0 ?_);refine wpS_bind (bF (P:=fun i=>decide (K b (0+i)<K a (at1-1))) (by omega) (fun i j e1 e2 e3=>decide_eq_true (by
       have z:=sb (0+i) (0+j) (by omega) (by omega);have y:=of_decide_eq_true e3;omega)) (fun i hi Q' hq=>dh (l:=true) as (kp3.kind.trans hk) kb (by omega) kf Q' hq) fun at2 hk2 t1 t2=>?_)
      dsimp only;have v1:∀ i,i<at2->K b i<K a (at1-1):=fun i e1=>by
       have z:=of_decide_eq_true (t1 i e1);rwa[IZ] at z
      have v2:∀ i,at2<=i->i<nb-1->K a (at1-1)<=K b i:=fun i e1 e2=>by
       have z:=of_decide_eq_false (t2 i e1 e2);rw[IZ] at z;omega
      refine ai (fun ck2=>?_) (fun ck2=>?_)
      ·have m2':MH a b ((out++(a.extract at1 na).reverse).push pb++(b.extract at2 (nb-1)).reverse) (at1) at2:=by
        have z:=m2.dg (k:=nb-1-at2) (out':=(out++(a.extract at1 na).reverse).push pb++(b.extract at2 (nb-1)).reverse) (by omega) (fun j i g1 g2 g3=>by
         have z:=v2 j (by omega) (by omega);have y:=sa i (at1-1) (by omega) (by omega);omega) (by rw[jK,show nb-1-(nb-1-at2)=at2 by omega,fi b (by omega)])
        rwa[show nb-1-(nb-1-at2)=at2 by omega] at z
       refine ai (fun c=>wpS_pure ⟨kp3,.inl ⟨_,_,_,_,_,_,_,rfl,m2'.fin2 (by simpa using c) sa h0⟩⟩) (fun c=>?_);have d1:¬ at2=1:=fun z=>c (by simpa using z)
       refine ai (fun c=>wpS_pure ⟨kp3,.inl ⟨_,_,_,_,_,_,_,rfl,m2'.vM (by simpa using c)⟩⟩) (fun c=>?_);have d2:¬ at2=0:=fun z=>c (by simpa using z)
       have hIB:1<at2:=by omega
       have hle:∀ i,i<at2->K b i<=K a (at1-1):=fun i e1=>Jy (v1 i e1)
       replace m2:=m2'
       obtain⟨pa,ta,ea,ea'⟩:=aP ka (i:=at1-1) (by omega);refine wpS_bind (aD ea ?_);have m3:MH a b (((out++(a.extract at1 na).reverse).push pb++(b.extract at2 (nb-1)).reverse).push pa) (at1-1) (at2):=m2.cG (k:=1) (by omega) (fun j i g1 g2 g3=>by
        have e:j=at1-1:=by omega
        rw[e];exact hle i g3) (by rw[cy,bI ea (by omega)])
       refine ai (fun c=>wpS_pure ⟨kp3,.inl ⟨_,_,_,_,_,_,_,rfl,m3.gM (by simpa using c)⟩⟩) (fun c=>?_);have c5:0<at1-1:=by
        have z:¬ at1-1=0:=fun z=>c (by simpa using z)
        omega
       have z3:x+2<=(((out++(a.extract at1 na).reverse).push pb++(b.extract at2 (nb-1)).reverse).push pa).size:=by
        have y:=m3.size;have y2:=m.size;omega
       exact ai (fun _=>wpS_pure ⟨kp3,.inr ⟨_,_,_,_,_,_,rfl,m3,c5,hIB,z3⟩⟩) (fun _=>wpS_pure ⟨kp3,_,_,_,_,_,_,rfl,m3,c5,hIB,z3⟩)
      ·have hIB:=c4;have hle:∀ i,i<nb-1->K b i<=K a (at1-1):=fun i e1=>Jy (v1 i (by omega))
       obtain⟨pa,ta,ea,ea'⟩:=aP ka (i:=at1-1) (by omega);refine wpS_bind (aD ea ?_);have m3:MH a b (((out++(a.extract at1 na).reverse).push pb).push pa) (at1-1) (nb-1):=m2.cG (k:=1) (by omega) (fun j i g1 g2 g3=>by
        have e:j=at1-1:=by omega
        rw[e];exact hle i g3) (by rw[cy,bI ea (by omega)])
       refine ai (fun c=>wpS_pure ⟨kp3,.inl ⟨_,_,_,_,_,_,_,rfl,m3.gM (by simpa using c)⟩⟩) (fun c=>?_);have c5:0<at1-1:=by
        have z:¬ at1-1=0:=fun z=>c (by simpa using z)
        omega
       have z3:x+2<=(((out++(a.extract at1 na).reverse).push pb).push pa).size:=by
        have y:=m3.size;have y2:=m.size;omega
       exact ai (fun _=>wpS_pure ⟨kp3,.inr ⟨_,_,_,_,_,_,rfl,m3,c5,hIB,z3⟩⟩) (fun _=>wpS_pure ⟨kp3,_,_,_,_,_,_,rfl,m3,c5,hIB,z3⟩)
     ·have m1:=m;have hIA:=h1;have hgt:∀ i,i<na->K a i<=K b (nb-1):=fun i e1=>u1 i (by omega)
      refine wpS_bind (aD eb ?_);have m2:MH a b ((out).push pb) (na) (nb-1):=m1.dg (k:=1) (by omega) (fun j i g1 g2 g3=>by
       have e:j=nb-1:=by omega
       rw[e];exact hgt i g3) (by rw[cy,bI eb (by omega)])
      refine ai (fun c=>wpS_pure ⟨kp3,.inl ⟨_,_,_,_,_,_,_,rfl,m2.fin2 (by simpa using c) sa h0⟩⟩) (fun c=>?_);have c4:1<nb-1:=by
       have z:¬ nb-1=1:=fun z=>c (by simpa using z)
       omega
      obtain⟨pa0,ta0,ea0,kf⟩:=aP ka (i:=na-1) (by omega);refine wpS_bind (aD ea0 ?_);refine wpS_bind (bF (P:=fun i=>decide (K b (0+i)<K a (na-1))) (by omega) (fun i j e1 e2 e3=>decide_eq_true (by
       have z:=sb (0+i) (0+j) (by omega) (by omega);have y:=of_decide_eq_true e3;omega)) (fun i hi Q' hq=>dh (l:=true) as (kp3.kind.trans hk) kb (by omega) kf Q' hq) fun at2 hk2 t1 t2=>?_)
      dsimp only;have v1:∀ i,i<at2->K b i<K a (na-1):=fun i e1=>by
       have z:=of_decide_eq_true (t1 i e1);rwa[IZ] at z
      have v2:∀ i,at2<=i->i<nb-1->K a (na-1)<=K b i:=fun i e1 e2=>by
       have z:=of_decide_eq_false (t2 i e1 e2);rw[IZ] at z;omega
      refine ai (fun ck2=>?_) (fun ck2=>?_)
      ·have m2':MH a b ((out).push pb++(b.extract at2 (nb-1)).reverse) (na) at2:=by
        have z:=m2.dg (k:=nb-1-at2) (out':=(out).push pb++(b.extract at2 (nb-1)).reverse) (by omega) (fun j i g1 g2 g3=>by
         have z:=v2 j (by omega) (by omega);have y:=sa i (na-1) (by omega) (by omega);omega) (by rw[jK,show nb-1-(nb-1-at2)=at2 by omega,fi b (by omega)])
        rwa[show nb-1-(nb-1-at2)=at2 by omega] at z
       refine ai (fun c=>wpS_pure ⟨kp3,.inl ⟨_,_,_,_,_,_,_,rfl,m2'.fin2 (by simpa using c) sa h0⟩⟩) (fun c=>?_);have d1:¬ at2=1:=fun z=>c (by simpa using z)
       refine ai (fun c=>wpS_pure ⟨kp3,.inl ⟨_,_,_,_,_,_,_,rfl,m2'.vM (by simpa using c)⟩⟩) (fun c=>?_);have d2:¬ at2=0:=fun z=>c (by simpa using z)
       have hIB:1<at2:=by omega
       have hle:∀ i,i<at2->K b i<=K a (na-1):=fun i e1=>Jy (v1 i e1)
       replace m2:=m2'
       obtain⟨pa,ta,ea,ea'⟩:=aP ka (i:=na-1) (by omega);refine wpS_bind (aD ea ?_);have m3:MH a b (((out).push pb++(b.extract at2 (nb-1)).reverse).push pa) (na-1) (at2):=m2.cG (k:=1) (by omega) (fun j i g1 g2 g3=>by
        have e:j=na-1:=by omega
        rw[e];exact hle i g3) (by rw[cy,bI ea (by omega)])
       refine ai (fun c=>wpS_pure ⟨kp3,.inl ⟨_,_,_,_,_,_,_,rfl,m3.gM (by simpa using c)⟩⟩) (fun c=>?_);have c5:0<na-1:=by
        have z:¬ na-1=0:=fun z=>c (by simpa using z)
        omega
       have z3:x+2<=(((out).push pb++(b.extract at2 (nb-1)).reverse).push pa).size:=by
        have y:=m3.size;have y2:=m.size;omega
       exact ai (fun _=>wpS_pure ⟨kp3,.inr ⟨_,_,_,_,_,_,rfl,m3,c5,hIB,z3⟩⟩) (fun _=>wpS_pure ⟨kp3,_,_,_,_,_,_,rfl,m3,c5,hIB,z3⟩)
      ·have hIB:=c4;have hle:∀ i,i<nb-1->K b i<=K a (na-1):=fun i e1=>Jy (v1 i (by omega))
       obtain⟨pa,ta,ea,ea'⟩:=aP ka (i:=na-1) (by omega);refine wpS_bind (aD ea ?_);have m3:MH a b (((out).push pb).push pa) (na-1) (nb-1):=m2.cG (k:=1) (by omega) (fun j i g1 g2 g3=>by
        have e:j=na-1:=by omega
        rw[e];exact hle i g3) (by rw[cy,bI ea (by omega)])
       refine ai (fun c=>wpS_pure ⟨kp3,.inl ⟨_,_,_,_,_,_,_,rfl,m3.gM (by simpa using c)⟩⟩) (fun c=>?_);have c5:0<na-1:=by
        have z:¬ na-1=0:=fun z=>c (by simpa using z)
        omega
       have z3:x+2<=(((out).push pb).push pa).size:=by
        have y:=m3.size;have y2:=m.size;omega
       exact ai (fun _=>wpS_pure ⟨kp3,.inr ⟨_,_,_,_,_,_,rfl,m3,c5,hIB,z3⟩⟩) (fun _=>wpS_pure ⟨kp3,_,_,_,_,_,_,rfl,m3,c5,hIB,z3⟩)
end
noncomputable def lay (sa:Nat)(xs:Array Keyed)(l:List (Keyed×Nat)):Array Keyed:=l.foldl (fun a q=>a.setIfInBounds (sa+q.2) q.1) xs
theorem uh (sa:Nat):∀ (l:List (Keyed×Nat)) (xs:Array Keyed),(lay sa xs l).size=xs.size
 | [],_=>rfl
 | q::r,xs=>by
  show (lay sa (xs.setIfInBounds (sa+q.2) q.1) r).size=_;rw[uh sa r,Lo]
theorem xk (sa:Nat):∀ (l:List Keyed) (o:Nat) (xs:Array Keyed),sa+o+l.length<=xs.size->∀ k,(lay sa xs (l.zipIdx o))[k]?=if sa+o<=k/\k<sa+o+l.length then l[k-(sa+o)]? else xs[k]?
 | [],o,xs,_,k=>by
  rw[if_neg (by simp)]
  rfl
 | p::r,o,xs,h,k=>by
  rw[ID] at h;show (lay sa (xs.setIfInBounds (sa+o) p) (r.zipIdx (o+1)))[k]?=_;rw[xk sa r (o+1) _ (by rw[Lo];omega) k,ID];by_cases c:k=sa+o
  ·subst c;rw[if_neg (by omega),if_pos (by omega),K8,if_pos rfl,if_pos (by omega),Nat.sub_self]
   rfl
  ·by_cases d:sa+(o+1)<=k/\k<sa+(o+1)+r.length
   ·rw[if_pos d,if_pos (by omega),show k-(sa+o)=(k-(sa+(o+1)))+1 by omega]
    rfl
   ·rw[if_neg d,if_neg (by omega),K8,if_neg (Ne.symm c)]
theorem zI {sa:Nat}{l:List Keyed}{xs:Array Keyed}(h:sa+l.length<=xs.size):(lay sa xs l.zipIdx).toList=xs.toList.take sa++l++xs.toList.drop (sa+l.length):=by
 refine J3 fun k=>?_
 have z:=xk sa l 0 xs (by omega) k;rw[JW,z,Mv];by_cases c:k<sa
 ·rw[if_neg (by omega),Ik,IK (by rw[Iw];simp;omega),Ke c,JW]
 ·by_cases d:k<sa+l.length
  ·rw[if_pos (by omega),IK (by rw[HY,Iw];simp;omega),IG (by rw[Iw];simp;omega)];congr 1;rw[Iw];simp;omega
  ·rw[if_neg (by omega),IG (by rw[HY,Iw];simp;omega),JO,JW];congr 1;rw[HY,Iw];simp;omega
theorem lh {xs:Array Keyed}(h:IntKeys xs)(i j:Nat):IntKeys (xs.extract i j):=fun p hp=>by
 have z:p∈(xs.toList.drop i).take (j-i):=by simpa using hp
 exact h p (List.mem_of_mem_drop (K7 z))
theorem mO {xs:Array Keyed}{i j k:Nat}(h:k<j-i)(hj:j<=xs.size):K (xs.extract i j) k=K xs (i+k):=K_congr (by rw[Array.getElem?_extract,if_pos (by omega)])
section
variable {prog:Program}{w:World}{A:Around}{E:Value->Shared->Prop}{s:Shared}
theorem Bh {σ:Type}{M:Model}{x:σ}{Q:PUnit->σ->Prop}{st:σ}(h:Q ⟨⟩ x):wpS M A E s (set x:StateT σ Sem PUnit) Q st:=by
 unfold wpS;rw[StateT.run_set];exact wpAny_pure ⟨rfl,h⟩
theorem vN {xs:Array Keyed}{r:Array Keyed}{k n1 nb:Nat}(hk:k<=n1)(hn:n1+nb<=xs.size)(hk1:k<n1)(hnb:0<nb)(s1:∀ i j,i<=j->j<n1->K xs i<=K xs j)(s2:∀ i j,n1<=i->i<=j->j<xs.size->K xs i<=K xs j)
  (t1:∀ i,i<k->K xs i<=K xs n1) (t2:∀ i,n1+nb<=i->i<xs.size->K xs (n1-1)<=K xs i) (hr:Res (xs.extract k n1) (xs.extract n1 (n1+nb)) r) :
  (lay k xs r.toList.zipIdx).toList.Perm xs.toList/\SortedTo (lay k xs r.toList.zipIdx) xs.size:=by
 obtain⟨pr,ar⟩:=hr;have rl:r.toList.length=n1-k+nb:=by
  have z:=pr.length_eq;simp only[HY,Jb,Lg] at z;rw[Jb];omega
 have e:=zI (sa:=k) (l:=r.toList) (xs:=xs) (by omega);have e2:k+r.toList.length=n1+nb:=by omega
 rw[e2] at e;have sp:xs.toList=xs.toList.take k++((xs.extract k n1).toList++(xs.extract n1 (n1+nb)).toList)++xs.toList.drop (n1+nb):=by
  rw[fi xs hk,fi xs (K1 n1 nb)];have y1:xs.toList.take n1=xs.toList.take k++(xs.toList.take n1).drop k:=by
   have z:=Jr k (xs.toList.take n1);rw[LZ,Kv hk] at z;exact z.symm
  have y2:xs.toList.take (n1+nb)=xs.toList.take n1++(xs.toList.take (n1+nb)).drop n1:=by
   have z:=Jr n1 (xs.toList.take (n1+nb));rw[LZ,Kv (K1 _ _)] at z;exact z.symm
  rw[<- Ik,<- y1,<- y2,Jr]
 refine⟨?_,?_⟩
 ·rw[e]
  conv=>rhs;rw[sp]
  exact List.Perm.append_right _ (List.Perm.append_left _ pr)
 ·have asc:Asc (lay k xs r.toList.zipIdx).toList:=by
   rw[e];have inR:∀ q∈r.toList,∃ j,k<=j/\j<n1+nb/\xs[j]?=some q:=fun q hq=>by
    rcases Ic.mp (pr.subset hq) with z | z
    ·rw[fi xs hk] at z;obtain⟨j,h1,h2,h3⟩:=jr z;exact⟨j,h1,by omega,h3⟩
    ·rw[fi xs (K1 n1 nb)] at z;obtain⟨j,h1,h2,h3⟩:=jr z;exact⟨j,by omega,h2,h3⟩
   have Gi:∀ i j,i<k->k<=j->j<xs.size->K xs i<=K xs j:=fun i j h1 h2 h3=>by
    by_cases c:j<n1
    ·exact s1 i j (by omega) c
    ·have z:=t1 i h1;have y:=s2 n1 j (HV _) (by omega) h3;omega
   have upR:∀ i j,i<n1+nb->n1+nb<=j->j<xs.size->K xs i<=K xs j:=fun i j h1 h2 h3=>by
    by_cases c:i<n1
    ·have z:=s1 i (n1-1) (by omega) (by omega);have y:=t2 j h2 h3;omega
    ·exact s2 i j (by omega) (by omega) h3
   refine IQ.mpr ⟨IQ.mpr ⟨?_,ar,fun p hp q hq=>?_⟩,?_,fun p hp q hq=>?_⟩
   ·refine Ja.mpr fun i j hi hj hij=>?_
    rw[Iw,Jb] at hi hj;have e1:xs[i]?=some xs[i]:=getElem?_pos _ i (by omega);have e2:xs[j]?=some xs[j]:=getElem?_pos _ j (by omega);have z:=s1 i j (by omega) (by omega);rw[bZ e1,bZ e2] at z;simpa using z
   ·obtain⟨i,h1,h2⟩:=jL hp;obtain⟨j,h3,h4,h5⟩:=inR q hq;rw[<- bZ h2,<- bZ h5];exact Gi i j h1 h3 (Je.mp h5).1
   ·refine Ja.mpr fun i j hi hj hij=>?_
    rw[J0,Jb] at hi hj;have e1:xs[n1+nb+i]?=some xs[n1+nb+i]:=getElem?_pos _ _ (by omega);have e2:xs[n1+nb+j]?=some xs[n1+nb+j]:=getElem?_pos _ _ (by omega);have z:=s2 (n1+nb+i) (n1+nb+j) (by omega) (by omega) (by omega);rw[bZ e1,bZ e2] at z;simpa using z
   ·obtain⟨j,h3,h4⟩:=lg hq;have hj:=(Je.mp h4).1;rcases Ic.mp hp with y | y
    ·obtain⟨i,h1,h2⟩:=jL y;rw[<- bZ h2,<- bZ h4];exact upR i j (by omega) h3 hj
    ·obtain⟨i,h1,h2,h5⟩:=inR p y;rw[<- bZ h5,<- bZ h4];exact upR i j h2 h3 hj
  intro i j hij hj;by_cases c:i=j
  ·rw[c];exact KD _
  have sz:=uh k r.toList.zipIdx xs;have e1:(lay k xs r.toList.zipIdx)[i]?=some (lay k xs r.toList.zipIdx)[i]:=getElem?_pos _ i (by omega);have e2:(lay k xs r.toList.zipIdx)[j]?=some (lay k xs r.toList.zipIdx)[j]:=getElem?_pos _ j (by omega);rw[bZ e1,bZ e2];have z:=Ja.mp asc i j (by simp;omega) (by simp;omega) (by omega);simpa using z
theorem rC {st:SortSt}{Q:Bool->SortSt->Prop}{n1 n2 p p2:Nat}(as:Asks prog w A s)(hk:kindOf st=oneType')(hf:failedOf st=none)(hp:pendingOf st = #[(0,n1,p),(n1,n2,p2)])(ik:IntKeys (arrOf st))(hn:(arrOf st).size=n1+n2)(h1:1<=n1)(h2:1<=n2)
  (s1:∀ i j,i<=j->j<n1->K (arrOf st) i<=K (arrOf st) j) (s2:∀ i j,n1<=i->i<=j->j<(arrOf st).size->K (arrOf st) i<=K (arrOf st) j)
  (q:∀ st',kindOf st'=oneType'->failedOf st'=none->pendingOf st' = #[(0,n1+n2,p)]->(arrOf st').toList.Perm (arrOf st).toList->SortedTo (arrOf st') (arrOf st).size->Q true st'):wpS (model prog w) A E s (mergeAt' 0) Q st:=by
 refine wpS_bind (wpS_get ?_);have e0:(pendingOf st)[0]?=some (0,n1,p):=by rw[hp];rfl
 have e1:(pendingOf st)[0+1]?=some (n1,n2,p2):=by rw[hp];rfl
 simp only[e0,e1];have pe:((pendingOf st).setIfInBounds 0 (0,n1+n2,p)).eraseIdxIfInBounds (0+1) = #[(0,n1+n2,p)]:=by rw[hp];simp[Array.setIfInBounds,Array.eraseIdxIfInBounds,Array.eraseIdx]
 have hk2:kindOf (SortSt.mk' (kindOf st) (arrOf st) #[(0,n1+n2,p)] (gallopOf st) (failedOf st))=oneType':=hk;refine wpS_bind (Bh ?_);rw[pe];obtain⟨pb,tb,eb,eb'⟩:=aP ik (i:=n1) (by omega);refine wpS_bind (aD eb ?_);refine wpS_bind (bF (P:=fun i=>!decide (K (arrOf st) n1<K (arrOf st) (0+i))) (by omega) (fun i j g1 g2 g3=>by
  have z:=s1 (0+i) (0+j) (by omega) (by omega);have y:¬ K (arrOf st) n1<K (arrOf st) (0+j):=by simpa using g3
  have y2:¬ K (arrOf st) n1<K (arrOf st) (0+i):=by omega
  simpa using y2) (fun i hi Q' hq=>dh (l:=false) as hk2 ik (by omega) eb' Q' hq) fun k hkn t1 t2=>?_)
 dsimp only;have u1:∀ i,i<k->K (arrOf st) i<=K (arrOf st) n1:=fun i g=>by
  have z:¬ K (arrOf st) n1<K (arrOf st) (0+i):=by simpa using t1 i g
  rw[IZ] at z;omega
 have u2:∀ i,k<=i->i<n1->K (arrOf st) n1<K (arrOf st) i:=fun i g1 g2=>by
  have z:K (arrOf st) n1<K (arrOf st) (0+i):=by simpa using t2 i g1 g2
  rwa[IZ] at z
 have whole:(∀ i,i<n1->∀ j,n1<=j->j<(arrOf st).size->K (arrOf st) i<=K (arrOf st) j)->SortedTo (arrOf st) (arrOf st).size:=fun hh i j g1 g2=>by
  by_cases c:j<n1
  ·exact s1 i j g1 c
  ·by_cases d:i<n1
   ·exact hh i d j (by omega) g2
   ·exact s2 i j (by omega) g1 g2
 refine ai (fun c=>wpS_pure (q _ hk hf rfl (List.Perm.refl _) (whole fun i g1 j g2 g3=>?_))) (fun c=>?_)
 ·have ck:n1-k=0:=by simpa using c
  have z:=u1 i (by omega);have y:=s2 n1 j (HV _) g2 g3;omega
 have ck:k<n1:=by
  have z:¬ n1-k=0:=fun z=>c (by simpa using z)
  omega
 obtain⟨pa,ta,ea,ea'⟩:=aP ik (i:=0+k+(n1-k)-1) (by omega);have el:0+k+(n1-k)-1=n1-1:=by omega
 rw[el] at ea';refine wpS_bind (aD ea ?_);refine wpS_bind (bF (P:=fun i=>decide (K (arrOf st) (n1+i)<K (arrOf st) (n1-1))) (by omega) (fun i j g1 g2 g3=>decide_eq_true (by
  have z:=s2 (n1+i) (n1+j) (by omega) (by omega) (by omega);have y:=of_decide_eq_true g3;omega)) (fun i hi Q' hq=>dh (l:=true) as hk2 ik (by omega) ea' Q' hq) fun nb hnb t3 t4=>?_)
 dsimp only;refine ai (fun c=>wpS_pure (q _ hk hf rfl (List.Perm.refl _) (whole fun i g1 j g2 g3=>?_))) (fun c=>?_)
 ·have cn:nb=0:=by simpa using c
  have z:=of_decide_eq_false (t4 0 (by omega) (by omega));rw[Mv] at z;have y:=s1 i (n1-1) (by omega) (by omega);have x:=s2 n1 j (HV _) g2 g3;omega
 have cn:0<nb:=by
  have z:¬ nb=0:=fun z=>c (by simpa using z)
  omega
 have u4:∀ i,n1+nb<=i->i<(arrOf st).size->K (arrOf st) (n1-1)<=K (arrOf st) i:=fun i g1 g2=>by
  have z:=of_decide_eq_false (t4 (i-n1) (by omega) (by omega));rw[show n1+(i-n1)=i by omega] at z;omega
 have za:((arrOf st).extract (0+k) n1).size=n1-k:=by rw[Lg];omega
 have zb:((arrOf st).extract n1 (n1+nb)).size=nb:=by rw[Lg];omega
 have Z1:1<=((arrOf st).extract (0+k) n1).size:=by rw[za];omega
 have Z2:1<=((arrOf st).extract n1 (n1+nb)).size:=by rw[zb];omega
 have A1:SortedTo ((arrOf st).extract (0+k) n1) ((arrOf st).extract (0+k) n1).size:=fun i j g1 g2=>by
  rw[za] at g2;rw[mO (by omega) (by omega),mO (by omega) (by omega)];exact s1 _ _ (by omega) (by omega)
 have B1:SortedTo ((arrOf st).extract n1 (n1+nb)) ((arrOf st).extract n1 (n1+nb)).size:=fun i j g1 g2=>by
  rw[zb] at g2;rw[mO (by omega) (by omega),mO (by omega) (by omega)];exact s2 _ _ (by omega) (by omega) (by omega)
 have H0:K ((arrOf st).extract n1 (n1+nb)) 0<K ((arrOf st).extract (0+k) n1) 0:=by
  rw[mO (by omega) (by omega),mO (by omega) (by omega)];exact u2 _ (by omega) (by omega)
 have HL:∀ j,j<((arrOf st).extract n1 (n1+nb)).size->K ((arrOf st).extract n1 (n1+nb)) j<K ((arrOf st).extract (0+k) n1) (((arrOf st).extract (0+k) n1).size-1):=fun j g=>by
  rw[zb] at g;rw[za,mO (by omega) (by omega),mO (by omega) (by omega),show 0+k+(n1-k-1)=n1-1 by omega];exact of_decide_eq_true (t3 j g)
 have fin:∀ (r:Array Keyed) (st':SortSt),Res ((arrOf st).extract (0+k) n1) ((arrOf st).extract n1 (n1+nb)) r->arrOf st'=arrOf st->(lay (0+k) (arrOf st') r.toList.zipIdx).toList.Perm (arrOf st).toList/\SortedTo (lay (0+k) (arrOf st') r.toList.zipIdx) (arrOf st).size:=fun r st' hr ha=>by
  rw[ha];exact vN (by omega) (by omega) (by omega) cn s1 s2 (fun i g=>u1 i (by omega)) u4 hr
 refine ai (fun _=>?_) (fun _=>?_)
 ·refine wpS_bind (uf as hk2 (lh ik _ _) (lh ik _ _) A1 B1 Z1 Z2 H0 HL fun r st' kp hr=>?_);obtain⟨f1,f2⟩:=fin r st' hr kp.arr;refine wpS_bind (wpS_modify (wpS_bind (wpS_get ?_)));have ef:failedOf st'=none:=kp.failed.trans hf;show wpS _ _ _ _ (pure (failedOf st').isNone) _ _;rw[ef];exact wpS_pure (q _ (kp.kind.trans hk) ef (kp.pend) f1 f2)
 ·refine wpS_bind (ug as hk2 (lh ik _ _) (lh ik _ _) A1 B1 Z1 Z2 H0 HL fun r st' kp hr=>?_);obtain⟨f1,f2⟩:=fin r st' hr kp.arr;refine wpS_bind (wpS_modify (wpS_bind (wpS_get ?_)));have ef:failedOf st'=none:=kp.failed.trans hf;show wpS _ _ _ _ (pure (failedOf st').isNone) _ _;rw[ef];exact wpS_pure (q _ (kp.kind.trans hk) ef (kp.pend) f1 f2)
end
structure SB (a₀:Array Keyed) (pd:Array (Nat×Nat×Nat)) (lo:Nat) (f:Nat->Int) (st:SortSt):Prop where
 perm:(arrOf st).Perm a₀
 kd:kindOf st=oneType'
 fl:failedOf st=none
 pd:pendingOf st=pd
 pre:∀ i,i<lo->K (arrOf st) i=f i
section
variable {a₀:Array Keyed}{pd:Array (Nat×Nat×Nat)}{lo:Nat}{f:Nat->Int}{st:SortSt}
theorem SB.sz (h:SB a₀ pd lo f st):(arrOf st).size=a₀.size:=h.perm.size_eq
theorem SB.put (h:SB a₀ pd lo f st){xs:Array Keyed}(hp:xs.Perm (arrOf st))(hk:∀ i,i<lo->K xs i=K (arrOf st) i):SB a₀ pd lo f (setArr st xs):=⟨hp.trans h.perm,h.kd,h.fl,h.pd,fun i hi=>(hk i hi).trans (h.pre i hi)⟩
theorem SB.item (h:SB a₀ pd lo f st)(h0:IntKeys a₀){i:Nat}(hi:i<a₀.size):∃ p,(arrOf st)[i]?=some p/\RkP.G p/\num p=K (arrOf st) i:=by
 have hi':i<(arrOf st).size:=h.sz.symm ▸ hi;have e:(arrOf st)[i]?=some (arrOf st)[i]:=getElem?_pos _ i hi';exact⟨(arrOf st)[i],e,h0 _ ((J8.mp h.perm).mem_iff.mp (Array.getElem_mem_toList hi')),(bZ e).symm⟩
end
noncomputable def ft (lo:Nat)(xs:Array Keyed)(n:Nat):Prop:=∀ i j,i<=j->j<n->K xs (lo+i)<=K xs (lo+j)
noncomputable def kh (lo:Nat)(xs:Array Keyed)(n:Nat):Prop:=∀ i j,i<=j->j<n->K xs (lo+j)<=K xs (lo+i)
theorem ft.more {lo n:Nat}{xs:Array Keyed}(h:ft lo xs n)(hn:1<=n)(k:K xs (lo+n-1)<=K xs (lo+n)):ft lo xs (n+1):=fun i j hij hj=>by
 by_cases c:j<n
 ·exact h i j hij c
 ·obtain rfl:j=n:=by omega
  by_cases d:i=j
  ·rw[d];exact KD _
  ·have z:=h i (j-1) (by omega) (by omega);rw[show lo+(j-1)=lo+j-1 by omega] at z;exact Mw z k
theorem kh.more {lo n:Nat}{xs:Array Keyed}(h:kh lo xs n)(hn:1<=n)(k:K xs (lo+n)<=K xs (lo+n-1)):kh lo xs (n+1):=fun i j hij hj=>by
 by_cases c:j<n
 ·exact h i j hij c
 ·obtain rfl:j=n:=by omega
  by_cases d:i=j
  ·rw[d];exact KD _
  ·have z:=h i (j-1) (by omega) (by omega);rw[show lo+(j-1)=lo+j-1 by omega] at z;exact Mw k z
theorem ft.one {lo:Nat}{xs:Array Keyed}:ft lo xs 1:=fun i j hij hj=>by
 obtain rfl:i=j:=by omega
 exact KD _
theorem kh.one {lo:Nat}{xs:Array Keyed}:kh lo xs 1:=fun i j hij hj=>by
 obtain rfl:i=j:=by omega
 exact KD _
theorem kh.congr {lo n:Nat}{xs ys:Array Keyed}(h:kh lo xs n)(e:∀ k,K ys k=K xs k):kh lo ys n:=fun i j hij hj=>by rw[e,e];exact h i j hij hj
noncomputable def upL (lo a m:Nat):StateT SortSt Sem AscSt :=
 forIn [a:m] ((none,a):AscSt) fun _ c=>do
  let x <- ltAt' (lo+c.2) (lo+c.2-1)
  match x with
  | some b=>if b=true then pure (ForInStep.done (none,c.2)) else pure (ForInStep.yield (none,c.2+1))
  | _=>pure (ForInStep.done (some none,c.2))
noncomputable def zJ (lo n m:Nat):StateT SortSt Sem (Option Nat):=do
 reverseSlice' lo (lo+n)
 let c <- upL lo n m
 match c.1 with
 | some r=>pure r
 | none=>pure (some c.2)
noncomputable def xm (lo n m:Nat):StateT SortSt Sem DescSt :=
 forIn [n:m] ((none,n,0):DescSt) fun _ c=>do
  let x <- ltAt' (lo+c.2.1) (lo+c.2.1-1)
  match x with
  | some b =>
   if b=true then
    if c.2.2>0 then do
     reverseSlice' (lo+c.2.1-(c.2.2+1)) (lo+c.2.1)
     pure (ForInStep.yield (none,c.2.1+1,0))
    else pure (ForInStep.yield (none,c.2.1+1,0))
   else do
    let y <- ltAt' (lo+c.2.1-1) (lo+c.2.1)
    match y with
    | some g=>if g=true then pure (ForInStep.done (none,c.2.1,c.2.2)) else pure (ForInStep.yield (none,c.2.1+1,c.2.2+1))
    | _=>pure (ForInStep.done (some none,c.2.1,c.2.2))
  | _=>pure (ForInStep.done (some none,c.2.1,c.2.2))
noncomputable def ui (lo n m:Nat):StateT SortSt Sem (Option Nat):=do
 liftM (rule "list.sort.descending-run")
 let c <- xm lo (n+1) m
 match c.1 with
 | some r=>pure r
 | none =>
  if c.2.2>0 then do
   reverseSlice' (lo+c.2.1-(c.2.2+1)) (lo+c.2.1)
   zJ lo c.2.1 m
  else zJ lo c.2.1 m
theorem yq (lo m:Nat):countRun' lo m=(do
  let c <- upL lo 1 m
  match c.1 with
  | some r=>pure r
  | none =>
   if (c.2 == m)=true then pure (some c.2)
   else if c.2>1 then do
    let x <- ltAt' lo (lo+c.2-1)
    match x with
    | some b=>if b=true then pure (some c.2) else do
      reverseSlice' lo (lo+c.2)
      ui lo c.2 m
    | _=>pure none
   else ui lo c.2 m):=by
 rw[countRun'_eq];dsimp only;unfold ui zJ xm upL;congr 1;funext c;obtain⟨r,n⟩:=c;cases r with
 | some r=>rfl
 | none =>
  dsimp only
  split
  ·rfl
  ·split
   ·congr 1;funext x;cases x with
    | none=>rfl
    | some b =>
     dsimp only
     split
     ·rfl
     ·congr 1;funext _r;congr 1;funext _u;congr 1;congr 1;funext s2;obtain⟨r2,n2,q2⟩:=s2;cases r2 with
      | some r2=>rfl
      | none =>
       dsimp only
       split
       ·congr 1;funext _v;congr 1;funext _w;congr 1;funext s3;obtain⟨r3,n3⟩:=s3;cases r3 <;> rfl
       ·congr 1;funext _w;congr 1;funext s3;obtain⟨r3,n3⟩:=s3;cases r3 <;> rfl
   ·congr 1;funext _u;congr 1;congr 1;funext s2;obtain⟨r2,n2,q2⟩:=s2;cases r2 with
    | some r2=>rfl
    | none =>
     dsimp only
     split
     ·congr 1;funext _v;congr 1;funext _w;congr 1;funext s3;obtain⟨r3,n3⟩:=s3;cases r3 <;> rfl
     ·congr 1;funext _w;congr 1;funext s3;obtain⟨r3,n3⟩:=s3;cases r3 <;> rfl
theorem Dd {f:Nat->Int}{lo l k i:Nat}(hi:i<=k):(if lo+i=lo+l then f (lo+k) else if lo+l<lo+i/\lo+i<=lo+k then f (lo+i-1) else f (lo+i))=if i=l then f (lo+k) else if i<l then f (lo+i) else f (lo+(i-1)):=by
 by_cases c:i=l
 ·rw[if_pos (congrArg _ c),if_pos c]
 ·rw[if_neg (fun z=>c (Nat.add_left_cancel z)),if_neg c];by_cases d:i<l
  ·rw[if_neg (fun z=>Nat.lt_asymm d (Nat.lt_of_add_lt_add_left z.1)),if_pos d]
  ·rw[if_pos ⟨Nat.add_lt_add_left (Mg (LC d) (Ne.symm c)) lo,L8 hi lo⟩,if_neg d,Nat.add_sub_assoc (by omega)]
theorem Bi {X Y:Nat->Int}{l k:Nat}(hY:∀ i,i<=k->Y i=if i=l then X k else if i<l then X i else X (i-1))(up:∀ i j,i<=j->j<k->X i<=X j)(p4:∀ i,i<l->X i<=X k)(p5:∀ i,l<=i->i<k->X k<X i)(i j:Nat)(hij:i<=j)(hj:j<=k):Y i<=Y j:=by
 rw[hY i (Jk hij hj),hY j hj];by_cases ci:i=l
 ·rw[if_pos ci];by_cases cj:j=l
  ·rw[if_pos cj];exact KD _
  ·rw[if_neg cj,if_neg (by omega)];exact Jy (p5 _ (by omega) (by omega))
 ·rw[if_neg ci];by_cases ci2:i<l
  ·rw[if_pos ci2];by_cases cj:j=l
   ·rw[if_pos cj];exact p4 i ci2
   ·rw[if_neg cj];by_cases cj2:j<l
    ·rw[if_pos cj2];by_cases cl:l<=k
     ·exact up i j hij (IY cj2 cl)
     ·by_cases ck:j=k
      ·rw[ck];exact p4 i ci2
      ·exact up i j hij (Mg hj ck)
    ·rw[if_neg cj2];exact up i (j-1) (by omega) (by omega)
  ·rw[if_neg ci2,if_neg (by omega),if_neg (by omega)];exact up _ _ (Nat.sub_le_sub_right hij 1) (by omega)
section
variable {prog:Program}{w:World}{A:Around}{E:Value->Shared->Prop}{s:Shared}{a₀:Array Keyed}{pd:Array (Nat×Nat×Nat)}{lo:Nat}{f:Nat->Int}
theorem js {st:SortSt}{i j:Nat}{Q:Option Bool->SortSt->Prop}(hB:SB a₀ pd lo f st)(h0:IKA prog w A s a₀)(hi:i<a₀.size)(hj:j<a₀.size)(h:Q (some (decide (K (arrOf st) i<K (arrOf st) j))) st):wpS (model prog w) A E s (ltAt' i j) Q st:=by
 obtain⟨p,e1,g1⟩:=hB.item h0.ik hi;obtain⟨q,e2,g2⟩:=hB.item h0.ik hj;rw[ltAt'_eq];refine wpS_bind (wpS_get ?_);refine wpS_bind (aD e1 (wpS_bind (aD e2 ?_)));exact oz h0.as hB.kd g1 g2 h
theorem SB.turn {st:SortSt}(hB:SB a₀ pd lo f st){i j:Nat}(hi:lo<=i)(hj:j<=a₀.size):SB a₀ pd lo f (setArr st (mirror (arrOf st) i j ((j-i)/2))) :=
 hB.put (mirror_perm _ _ _ _) fun k hk=>by rw[K_mirror (by rw[hB.sz];exact hj),if_neg (by omega)]
theorem xn {st:SortSt}{a m:Nat}{Q:AscSt->SortSt->Prop}(h0:IKA prog w A s a₀)(hn:lo+m<=a₀.size)(ha:1<=a)(han:a<=m)(hB:SB a₀ pd lo f st)(hs:ft lo (arrOf st) a)
  (h:∀ n,a<=n->n<=m->ft lo (arrOf st) n->(n=m\/K (arrOf st) (lo+n)<K (arrOf st) (lo+n-1))->Q (none,n) st):wpS (model prog w) A E s (upL lo a m) Q st:=by
 unfold upL;refine wpS_forRange (I:=fun x c st'=>st'=st/\c=(none,x)/\ft lo (arrOf st) x) ?step ?fin ⟨rfl,rfl,hs⟩
 case fin =>
  rintro c st' ⟨e1,e2,g⟩;subst e1 e2;have e:max a m=m:=Jq han;rw[e] at g ⊢;exact h m han (HV _) g (.inl rfl)
 case step =>
  rintro x c st' hax hxm ⟨e1,e2,g⟩;subst e1 e2;dsimp only;refine wpS_bind (js hB h0 (by omega) (by omega) ?_);dsimp only;refine ai (fun z=>?_) (fun z=>?_)
  ·exact wpS_pure (h x hax (by omega) g (.inr (of_decide_eq_true z)))
  ·exact wpS_pure ⟨rfl,rfl,g.more (by omega) (LU.mp fun y=>z (decide_eq_true y))⟩
theorem uj {st:SortSt}{n m:Nat}{Q:Option Nat->SortSt->Prop}(h0:IKA prog w A s a₀)(hn:lo+m<=a₀.size)(h1:1<=n)(hnn:n<=m)(hB:SB a₀ pd lo f st)(hs:kh lo (arrOf st) n)
  (h:∀ k st',SB a₀ pd lo f st'->1<=k->k<=m->ft lo (arrOf st') k->Q (some k) st'):wpS (model prog w) A E s (zJ lo n m) Q st:=by
 unfold zJ;have hz:lo+n<=(arrOf st).size:=by rw[hB.sz];omega
 have hB':=hB.turn (i:=lo) (j:=lo+n) (HV _) (by omega);refine wpS_bind (wpS_reverse (wpS_bind (xn h0 hn h1 hnn hB' (fun i j hij hj=>?_) fun k k1 k2 g _=>wpS_pure (h k _ hB' (by omega) k2 g))));show K (mirror (arrOf st) lo (lo+n) _) (lo+i)<=K (mirror (arrOf st) lo (lo+n) _) (lo+j);rw[K_mirror hz,K_mirror hz,if_pos (by omega),if_pos (by omega)];have z:=hs (n-1-j) (n-1-i) (by omega) (by omega);rw[show lo+(n-1-j)=lo+(lo+n)-1-(lo+j) by omega,show lo+(n-1-i)=lo+(lo+n)-1-(lo+i) by omega] at z;exact z
theorem yr {st:SortSt}{n m:Nat}{Q:DescSt->SortSt->Prop}(h0:IKA prog w A s a₀)(hn:lo+m<=a₀.size)(h1:1<=n)(hnn:n<=m)(hB:SB a₀ pd lo f st)(hs:kh lo (arrOf st) n)
  (h:∀ k q st',SB a₀ pd lo f st'->n<=k->k<=m->kh lo (arrOf st') k->q+1<=k->(∀ i,lo+k-(q+1)<=i->i<lo+k->K (arrOf st') i=K (arrOf st') (lo+k-1))->Q (none,k,q) st'):wpS (model prog w) A E s (xm lo n m) Q st:=by
 unfold xm;refine wpS_forRange (I:=fun x c st'=>∃ q,c=(none,x,q)/\SB a₀ pd lo f st'/\kh lo (arrOf st') x/\q+1<=x/\(∀ i,lo+x-(q+1)<=i->i<lo+x->K (arrOf st') i=K (arrOf st') (lo+x-1))) ?step ?fin
  ⟨0,rfl,hB,hs,by omega,fun i z1 z2=>congrArg _ (by omega)⟩
 case fin =>
  rintro c st' ⟨q,e,g1,g2,g3,g4⟩;subst e;have e:max n m=m:=Jq hnn;rw[e] at g2 g3 g4 ⊢;exact h m q st' g1 hnn (HV _) g2 g3 g4
 case step =>
  rintro x c st' hax hxm ⟨q,e,g1,g2,g3,g4⟩;subst e;dsimp only;refine wpS_bind (js g1 h0 (by omega) (by omega) ?_);dsimp only;refine ai (fun z=>?_) (fun z=>?_)
  ·have z:=Jy (of_decide_eq_true z);refine ai (fun y=>?_) (fun y=>?_)
   ·have hz:lo+x<=(arrOf st').size:=by rw[g1.sz];omega
    have ke:=K_mirror_equal (i:=lo+x-(q+1)) hz g4;refine wpS_bind (wpS_reverse (wpS_pure ⟨0,rfl,g1.turn (by omega) (by omega),(g2.congr ke).more (by omega) ?_,by omega,fun i z1 z2=>congrArg _ (by omega)⟩));show K (mirror (arrOf st') _ _ _) _<=K (mirror (arrOf st') _ _ _) _;rw[ke,ke];exact z
   ·exact wpS_pure ⟨0,rfl,g1,g2.more (by omega) z,by omega,fun i z1 z2=>congrArg _ (by omega)⟩
  ·have z:K (arrOf st') (lo+x-1)<=K (arrOf st') (lo+x):=LU.mp fun y=>z (decide_eq_true y)
   refine wpS_bind (js g1 h0 (by omega) (by omega) ?_);dsimp only;refine ai (fun y=>?_) (fun y=>?_)
   ·exact wpS_pure (h x q st' g1 hax (by omega) g2 g3 g4)
   ·have y:K (arrOf st') (lo+x)<=K (arrOf st') (lo+x-1):=LU.mp fun u=>y (decide_eq_true u)
    have ee:K (arrOf st') (lo+x)=K (arrOf st') (lo+x-1):=Int.le_antisymm y z;refine wpS_pure ⟨q+1,rfl,g1,g2.more (by omega) y,by omega,fun i z1 z2=>?_⟩;rw[show lo+(x+1)-1=lo+x by omega];by_cases c:i=lo+x
    ·rw[c]
    ·rw[ee];exact g4 i (by omega) (by omega)
theorem qi {st:SortSt}{n m:Nat}{Q:Option Nat->SortSt->Prop}(h0:IKA prog w A s a₀)(hn:lo+m<=a₀.size)(hnn:n+1<=m)(hB:SB a₀ pd lo f st)(hs:kh lo (arrOf st) (n+1))
  (h:∀ k st',SB a₀ pd lo f st'->1<=k->k<=m->ft lo (arrOf st') k->Q (some k) st'):wpS (model prog w) A E s (ui lo n m) Q st:=by
 unfold ui;refine wpS_bind (wpS_lift (wpAny_rule ⟨rfl,wpS_bind (yr h0 hn (by omega) hnn hB hs fun k q st' g1 k1 k2 g2 g3 g4=>?_)⟩));dsimp only;have hz:lo+k<=(arrOf st').size:=by rw[g1.sz];omega
 refine ai (fun y=>?_) (fun y=>?_)
 ·exact wpS_bind (wpS_reverse (uj h0 hn (by omega) k2 (g1.turn (by omega) (by omega)) (g2.congr (K_mirror_equal (i:=lo+k-(q+1)) hz g4)) h))
 ·exact uj h0 hn (by omega) k2 g1 g2 h
theorem ki {st:SortSt}{m:Nat}{Q:Option Nat->SortSt->Prop}(h0:IKA prog w A s a₀)(hn:lo+m<=a₀.size)(h1:1<=m)(hB:SB a₀ pd lo f st)
  (h:∀ k st',SB a₀ pd lo f st'->1<=k->k<=m->ft lo (arrOf st') k->Q (some k) st'):wpS (model prog w) A E s (countRun' lo m) Q st:=by
 rw[yq];refine wpS_bind (xn h0 hn (HV 1) h1 hB ft.one fun n n1 n2 g hor=>?_);dsimp only;refine ai (fun c=>?_) (fun c=>?_)
 ·exact wpS_pure (h n st hB n1 n2 g)
 ·have c:n≠m:=fun z=>c (by rw[z];exact beq_self_eq_true _)
  have hlt:=Jy (hor.resolve_left c);refine ai (fun d=>?_) (fun d=>?_)
  ·refine wpS_bind (js hB h0 (by omega) (by omega) ?_);dsimp only;refine ai (fun y=>?_) (fun y=>?_)
   ·exact wpS_pure (h n st hB n1 n2 g)
   ·have y:K (arrOf st) (lo+n-1)<=K (arrOf st) lo:=LU.mp fun u=>y (decide_eq_true u)
    have hz:lo+n<=(arrOf st).size:=by rw[hB.sz];omega
    have all:∀ k,lo<=k->k<lo+n->K (arrOf st) k=K (arrOf st) (lo+n-1):=fun k z1 z2=>by
     have a1:=g 0 (k-lo) (by omega) (by omega);have a2:=g (k-lo) (n-1) (by omega) (by omega);rw[show lo+(k-lo)=k by omega] at a1 a2;rw[show lo+(n-1)=lo+n-1 by omega] at a2;rw[Mv] at a1;omega
    have ke:=K_mirror_equal (i:=lo) hz all;have dn:kh lo (arrOf st) n:=fun i j hij hj=>by rw[all (lo+i) (by omega) (by omega),all (lo+j) (by omega) (by omega)];exact KD _
    exact wpS_bind (wpS_reverse (qi h0 hn (by omega) (hB.turn (HV _) (by omega)) ((dn.more (by omega) hlt).congr ke) h))
  ·obtain rfl:n=1:=by omega
   exact qi h0 hn (by omega) hB (kh.one.more (HV _) hlt) h
theorem oC {st:SortSt}{n ok:Nat}{Q:Bool->SortSt->Prop}(h0:IKA prog w A s a₀)(hn:lo+n<=a₀.size)(Gj:1<=ok)(hok:ok<=n)(hB:SB a₀ pd lo f st)(hs:ft lo (arrOf st) ok)
  (h:∀ st',SB a₀ pd lo f st'->ft lo (arrOf st') n->Q true st'):wpS (model prog w) A E s (binarySort' lo n ok) Q st:=by
 rw[binarySort'_eq];have em:max ok 1=ok:=LN Gj;rw[em];refine wpS_bind (wpS_mono (wpS_forRange (I:=fun k c st'=>c=(none,())/\SB a₀ pd lo f st'/\ft lo (arrOf st') k) (Q:=fun c st'=>c=(none,())/\SB a₀ pd lo f st'/\ft lo (arrOf st') n) ?step ?fin ⟨rfl,hB,hs⟩) ?post)
 case post =>
  rintro c st' ⟨e,g1,g2⟩;subst e;exact wpS_pure (h st' g1 g2)
 case fin =>
  rintro c st' ⟨e,g1,g2⟩;have e2:max ok n=n:=Jq hok;rw[e2] at g2;exact⟨e,g1,g2⟩
 case step =>
  rintro k c st' hak hkn ⟨e,g1,g2⟩;subst e;have hk:lo+k<a₀.size:=by omega
  refine wpS_bind (wpS_mono (wpS_forRange (I:=fun x c aZ=>aZ=st'/\∃ l r,c=(none,l,r)/\l<=r/\r<=k/\r-l<=k-x/\(∀ i,i<l->K (arrOf st') (lo+i)<=K (arrOf st') (lo+k))/\(∀ i,r<=i->i<k->K (arrOf st') (lo+k)<K (arrOf st') (lo+i)))
   (Q:=fun c aZ=>aZ=st'/\∃ l r,c=(none,l,r)/\l<=k/\(∀ i,i<l->K (arrOf st') (lo+i)<=K (arrOf st') (lo+k))/\(∀ i,l<=i->i<k->K (arrOf st') (lo+k)<K (arrOf st') (lo+i))) ?istep ?ifin
   ⟨rfl,0,k,rfl,IT _,HV _,HV _,fun i z=>absurd z (JV _),fun i z1 z2=>absurd z1 (by omega)⟩) ?ipost)
  case ifin =>
   rintro c aZ ⟨e1,l,r,e2,p1,p2,p3,p4,p5⟩;obtain rfl:l=r:=by omega
   exact⟨e1,l,l,e2,p2,p4,p5⟩
  case istep =>
   rintro x c aZ _ hxk ⟨e1,l,r,e2,p1,p2,p3,p4,p5⟩;subst e1 e2;dsimp only;refine ai (fun y=>?_) (fun y=>?_)
   ·obtain rfl:l=r:=by omega
    exact wpS_pure ⟨rfl,l,l,rfl,p2,p4,p5⟩
   ·refine wpS_bind (js g1 h0 hk (by omega) ?_);dsimp only;refine ai (fun z=>?_) (fun z=>?_)
    ·have z:=of_decide_eq_true z;exact wpS_pure ⟨rfl,l,(l+r)/2,rfl,by omega,by omega,by omega,p4,fun i z1 z2=>Int.lt_of_lt_of_le z (g2 _ _ z1 z2)⟩
    ·have z:=LU.mp fun u=>z (decide_eq_true u)
     exact wpS_pure ⟨rfl,(l+r)/2+1,r,rfl,by omega,by omega,by omega,fun i z1=>Mw (g2 i ((l+r)/2) (by omega) (by omega)) z,p5⟩
  case ipost =>
   rintro c aZ ⟨e1,l,r,e2,p2,p4,p5⟩;subst e1 e2;show wpS _ _ _ _ (do moveDown' (lo+k) (lo+l);pure (ForInStep.yield (none,()))) _ _;rw[moveDown'_eq];have hz:lo+k<(arrOf aZ).size:=by rw[g1.sz];exact hk
   have dl:lo+k-(lo+l)=k-l:=Nat.add_sub_add_left lo k l;rw[dl];have pk:lo+k-(k-l)=lo+l:=by omega
   have kb:=fun i=>K_bubble (d:=k-l) hz (Jk (Mn k l) (Nat.le_add_left k lo)) i
   rw[pk] at kb;refine wpS_bind (wpS_modify (wpS_pure ⟨rfl,g1.put (bubble_perm _ _ _) fun i hi=>?_,fun i j hij hj=>?_⟩))
   ·rw[kb,if_neg (by omega),if_neg (by omega)]
   ·refine Bi (X:=fun i=>K (arrOf aZ) (lo+i)) (Y:=fun i=>K (bubble (arrOf aZ) (lo+k) (k-l)) (lo+i)) (l:=l) (k:=k) (fun i hi=>?_) (fun a b=>g2 a b) p4 p5 i j hij (Nat.le_of_lt_succ hj);show K (bubble (arrOf aZ) (lo+k) (k-l)) (lo+i)=_;rw[kb];exact Dd (f:=fun i=>K (arrOf aZ) i) hi
end
theorem vO {n:Nat}(h1:1<=n)(h2:n<128):1<=minRun' n n 0/\minRun' n n 0<=n/\n<=minRun' n n 0+minRun' n n 0:=by
 obtain⟨g,rfl⟩:∃ g,n=g+1:=⟨n-1,by omega⟩
 by_cases c:g+1<64
 ·rw[minRun'_succ,if_pos c];omega
 ·obtain⟨k,rfl⟩:∃ k,g=k+1:=⟨g-1,by omega⟩
  rw[minRun'_succ,if_neg c,minRun'_succ,if_pos (by omega)];have e3:max 0 ((k+1+1)%2)=(k+1+1)%2:=Jq (IT _);rw[e3];omega
section
variable {prog:Program}{w:World}{A:Around}{E:Value->Shared->Prop}{s:Shared}{a₀:Array Keyed}
noncomputable def Laid (a₀:Array Keyed)(st:SortSt):Prop:=(arrOf st).Perm a₀/\kindOf st=oneType'/\failedOf st=none /\
 ((∃ p,pendingOf st = #[p]/\ft 0 (arrOf st) a₀.size)\/∃ n1 n2 p,1<=n1/\1<=n2/\n1+n2=a₀.size/\pendingOf st = #[(0,n1,p),(n1,n2,0)]/\ft 0 (arrOf st) n1/\ft n1 (arrOf st) n2)
theorem gp {xs:Array Keyed}{n:Nat}(h:ft 0 xs n):SortedTo xs n:=fun i j hij hj=>by
 have z:=h i j hij hj;rw[IZ,IZ] at z;exact z
theorem vP {xs:Array Keyed}{f:Nat->Int}{n:Nat}(h:∀ i,i<n->K xs i=f i)(g:∀ i j,i<=j->j<n->f i<=f j):ft 0 xs n:=fun i j hij hj=>by
 rw[IZ,IZ,h i (by omega),h j hj];exact g i j hij hj
theorem zK {st:SortSt}{Q:Unit->SortSt->Prop}(h0:IKA prog w A s a₀)(hp:(arrOf st).Perm a₀)(hk:kindOf st=oneType')(hf:failedOf st=none)(hd:pendingOf st = #[])(h64:2<=a₀.size)(gX:a₀.size<128)
  (h:∀ st',(arrOf st').Perm a₀->failedOf st'=none->SortedTo (arrOf st') a₀.size->Q () st'):wpS (model prog w) A E s sortRuns' Q st:=by
 rw[sortRuns'_eq];refine wpS_bind (wpS_get ?_);dsimp only;have hsz:(arrOf st).size=a₀.size:=hp.size_eq;rw[hsz];obtain⟨m3,m1,m2⟩:=vO (n:=a₀.size) (by omega) gX;generalize minRun' a₀.size a₀.size 0=m at m1 m2 m3;refine wpS_bind (wpS_mono (wpS_forRange
  (I:=fun x c st'=>(x=0/\c=(none,0)/\SB a₀ #[] 0 (fun _=>0) st')\/(x=1/\∃ n1,c=(none,n1)/\m<=n1/\n1<=a₀.size/\SB a₀ #[(0,n1,0)] 0 (fun _=>0) st'/\ft 0 (arrOf st') n1)\/(2<=x/\c=(none,a₀.size)/\Laid a₀ st'))
  (Q:=fun c st'=>c=(none,a₀.size)/\Laid a₀ st') ?step ?fin (.inl ⟨rfl,rfl,⟨hp,hk,hf,hd,fun i hi=>absurd hi (JV _)⟩⟩)) ?post)
 case fin =>
  rintro c st' (⟨hx,_⟩ | ⟨hx,_⟩ | ⟨_,e,L⟩)
  ·have:max 0 a₀.size=a₀.size:=Jq (IT _);omega
  ·have:max 0 a₀.size=a₀.size:=Jq (IT _);omega
  ·exact⟨e,L⟩
 case step =>
  rintro x c st' _ hx (⟨rfl,rfl,hB⟩ | ⟨rfl,n1,rfl,q1,q2,hB,q3⟩ | ⟨hx2,rfl,L⟩)
  ·dsimp only;refine ai (fun z=>absurd z (by omega)) (fun _=>?_);refine wpS_bind (ki h0 (by omega) (by omega) hB fun k st2 hB2 k1 k2 g2=>?_);dsimp only;rw[Mx] at k2;have push:∀ (n1:Nat) (st3:SortSt),m<=n1->n1<=a₀.size->SB a₀ #[] 0 (fun _=>0) st3->ft 0 (arrOf st3) n1->SB a₀ #[(0,n1,0)] 0 (fun _=>0) (setPending st3 ((pendingOf st3).push (0,n1,0))):=fun n1 st3 _ _ b _ =>
    ⟨b.perm,b.kd,b.fl,by show (pendingOf st3).push _=_;rw[b.pd];rfl,b.pre⟩
   refine ai (fun z=>?_) (fun z=>?_)
   ·have ef:min (a₀.size-0) m=m:=by omega
    rw[ef];refine wpS_bind (wpS_lift (wpAny_rule ⟨rfl,wpS_bind (oC h0 (by omega) k1 (by omega) hB2 g2 fun st3 hB3 g3=>?_)⟩));refine ai (fun z=>absurd z (by simp)) (fun _=>?_);refine wpS_bind (wpS_get ?_);have hb:(pendingOf st3).back?=none:=by rw[hB3.pd];rfl
    rw[hb];dsimp only;refine wpS_bind (wpS_modify (wpS_pure (.inr (.inl ⟨rfl,m,by rw[IZ],HV _,m1,push m st3 (HV _) m1 hB3 g3,g3⟩))))
   ·refine wpS_bind (wpS_get ?_);have hb:(pendingOf st2).back?=none:=by rw[hB2.pd];rfl
    rw[hb];dsimp only;refine wpS_bind (wpS_modify (wpS_pure (.inr (.inl ⟨rfl,k,by rw[IZ],by omega,by omega,push k st2 (by omega) (by omega) hB2 g2,g2⟩))))
  ·dsimp only;refine ai (fun z=>?_) (fun z=>?_)
   ·obtain rfl:n1=a₀.size:=by omega
    exact wpS_pure ⟨rfl,hB.perm,hB.kd,hB.fl,.inl ⟨_,hB.pd,q3⟩⟩
   have z:n1<a₀.size:=by omega
   have hB':SB a₀ #[(0,n1,0)] n1 (K (arrOf st')) st':=⟨hB.perm,hB.kd,hB.fl,hB.pd,fun _ _=>rfl⟩
   have up:∀ i j,i<=j->j<n1->K (arrOf st') i<=K (arrOf st') j:=gp q3;refine wpS_bind (ki h0 (by omega) (by omega) hB' fun k st2 hB2 k1 k2 g2=>?_);dsimp only;have last:∀ st3:SortSt,SB a₀ #[(0,n1,0)] n1 (K (arrOf st')) st3->ft n1 (arrOf st3) (a₀.size-n1)->∀ pw,Laid a₀ (setPending (setPending st3 ((pendingOf st3).modify ((pendingOf st3).size-1) fun (st,len,_)=>(st,len,pw))) ((pendingOf (setPending st3 ((pendingOf st3).modify ((pendingOf st3).size-1) fun (st,len,_)=>(st,len,pw)))).push (n1,a₀.size-n1,0))):=fun st3 b g pw=>by
    refine⟨b.perm,b.kd,b.fl,.inr ⟨n1,a₀.size-n1,pw,by omega,by omega,by omega,?_,vP b.pre up,g⟩⟩;show ((pendingOf st3).modify ((pendingOf st3).size-1) _).push (n1,a₀.size-n1,0)=_;rw[b.pd]
    rfl
   have tail:∀ (st3:SortSt),SB a₀ #[(0,n1,0)] n1 (K (arrOf st')) st3->(pendingOf st3).back?=some (0,n1,0):=fun st3 b=>by rw[b.pd];rfl
   have inner:∀ (st3:SortSt) (pw:Nat),SB a₀ #[(0,n1,0)] n1 (K (arrOf st')) st3->(if (pendingOf st3).size>1 then (pendingOf st3)[(pendingOf st3).size-2]? else none)=none:=fun st3 pw b=>by rw[b.pd];rfl
   refine ai (fun y=>?_) (fun y=>?_)
   ·have ef:min (a₀.size-n1) m=a₀.size-n1:=by omega
    rw[ef];refine wpS_bind (wpS_lift (wpAny_rule ⟨rfl,wpS_bind (oC h0 (by omega) k1 k2 hB2 g2 fun st3 hB3 g3=>?_)⟩));refine ai (fun z=>absurd z (by simp)) (fun _=>?_);refine wpS_bind (wpS_get ?_);rw[tail st3 hB3];dsimp only;refine wpS_bind (wpS_mono (wpS_forRange (I:=fun x c aZ=>x=0/\aZ=st3/\c=(none,())) (Q:=fun c aZ=>aZ=st3/\c=(none,())) ?is ?ie ⟨rfl,rfl,rfl⟩) ?ip)
    case ie =>
     rintro c aZ ⟨e,_⟩;have:max 0 a₀.size=a₀.size:=Jq (IT _);omega
    case is =>
     rintro x c aZ _ _ ⟨_,e1,e2⟩;subst e1 e2;refine wpS_bind (wpS_get ?_);rw[inner _ 0 hB3];exact wpS_pure ⟨rfl,rfl⟩
    case ip =>
     rintro c aZ ⟨e1,e2⟩;subst e1 e2;dsimp only;exact wpS_bind (wpS_modify (wpS_bind (wpS_modify (wpS_pure (.inr (.inr ⟨HV _,by rw[show n1+(a₀.size-n1)=a₀.size by omega],last _ hB3 g3 _⟩))))))
   ·obtain rfl:k=a₀.size-n1:=by omega
    refine wpS_bind (wpS_get ?_);rw[tail st2 hB2];dsimp only;refine wpS_bind (wpS_mono (wpS_forRange (I:=fun x c aZ=>x=0/\aZ=st2/\c=(none,())) (Q:=fun c aZ=>aZ=st2/\c=(none,())) ?is ?ie ⟨rfl,rfl,rfl⟩) ?ip)
    case ie =>
     rintro c aZ ⟨e,_⟩;have:max 0 a₀.size=a₀.size:=Jq (IT _);omega
    case is =>
     rintro x c aZ _ _ ⟨_,e1,e2⟩;subst e1 e2;refine wpS_bind (wpS_get ?_);rw[inner _ 0 hB2];exact wpS_pure ⟨rfl,rfl⟩
    case ip =>
     rintro c aZ ⟨e1,e2⟩;subst e1 e2;dsimp only;exact wpS_bind (wpS_modify (wpS_bind (wpS_modify (wpS_pure (.inr (.inr ⟨HV _,by rw[show n1+(a₀.size-n1)=a₀.size by omega],last _ hB2 g2 _⟩))))))
  ·dsimp only;refine ai (fun _=>wpS_pure ⟨rfl,L⟩) (fun z=>absurd (HV _) z)
 case post =>
  rintro c st' ⟨rfl,L⟩;dsimp only;obtain⟨lp,lk,lf,alt⟩:=L;refine wpS_bind (wpS_mono (wpS_forRange (I:=fun x c aZ=>c=(none,())/\((x=0/\aZ=st')\/((arrOf aZ).Perm a₀/\failedOf aZ=none/\SortedTo (arrOf aZ) a₀.size/\(pendingOf aZ).size<=1))) (Q:=fun c aZ=>c=(none,())/\(arrOf aZ).Perm a₀/\failedOf aZ=none/\SortedTo (arrOf aZ) a₀.size) ?fs ?ff ⟨rfl,.inl ⟨rfl,rfl⟩⟩) ?fp)
  case ff =>
   rintro c aZ ⟨e,⟨z,_⟩ | ⟨g1,g2,g3,_⟩⟩
   ·have:max 0 a₀.size=a₀.size:=Jq (IT _);omega
   ·exact⟨e,g1,g2,g3⟩
  case fp =>
   rintro c aZ ⟨e,g1,g2,g3⟩;subst e;exact wpS_pure (h _ g1 g2 g3)
  case fs =>
   rintro x c aZ _ _ ⟨e,⟨_,e2⟩ | ⟨g1,g2,g3,g4⟩⟩
   ·subst e e2;refine wpS_bind (wpS_get ?_);rcases alt with ⟨p,e1,asc⟩ | ⟨n1,n2,p,a1,a2,a3,e1,s1,s2⟩
    ·refine ai (fun _=>wpS_pure ⟨rfl,lp,lf,gp asc⟩) (fun z=>absurd (by rw[e1];exact HV 1) z)
    ·refine ai (fun z=>absurd z (by rw[e1];show ¬ 2<=1;decide)) (fun _=>?_);have hz:(arrOf aZ).size=n1+n2:=by rw[lp.size_eq];omega
     have ik:IntKeys (arrOf aZ):=fun q hq=>h0.ik q ((J8.mp lp).mem_iff.mp hq)
     have ei:(pendingOf aZ).size-2=0:=by rw[e1];rfl
     rw[ei];refine wpS_bind (rC h0.as lk lf e1 ik hz a1 a2 (gp s1) (fun i j hi hij hj=>?_) fun st3 b1 b2 b3 b4 b5=>?_)
     ·have y:=s2 (i-n1) (j-n1) (by omega) (by omega);rw[show n1+(i-n1)=i by omega,show n1+(j-n1)=j by omega] at y;exact y
     ·refine ai (fun z=>absurd z (by simp)) (fun _=>wpS_pure ⟨rfl,.inr ⟨(J8.mpr b4).trans lp,b2,?_,by rw[b3];exact HV 1⟩⟩);rw[<- lp.size_eq];exact b5
   ·subst e;refine wpS_bind (wpS_get ?_);exact ai (fun _=>wpS_pure ⟨rfl,g1,g2,g3⟩) (fun z=>absurd g4 z)
end
end dB



set_option maxHeartbeats 4000000
namespace L2
open PySem PySem.Spec PyProof.Rows
section
variable {X:Cx}
theorem Inv.adopt {pins:List (Addr×Obj)}{σ:L2.St}{H:Hp}{s:Shared}{D:Addr}{o:HO}(I:Inv X pins σ H s)(f:gH X pins H D)(new:bL X.prog X.w (upd H D o) s.heap D o):Inv X pins σ (upd H D o) s:=by
 obtain⟨f0,f1,f2,f3,f4,f5⟩:=f;have z:=I.step (h':=s.heap) (H':=upd H D o) (g':=s.gens) (t':=s.toks) (d':=s.drawn) (ch:=[D]) (fun b hb=>?_) (fun b o' _ _ _ q _=>q) (fun b o' _ _ _ q _=>⟨o'.slots,q⟩) (fun b o' hc q n=>by rw[aE (fun z=>hc (by simp[z]))];exact n) (fun b o' _ q=>⟨o',q⟩)
  (fun b ys q=>by rw[aE (aM q f0)];exact q) (fun b o' u q=>by rw[aE (aM q f0)];exact q) (fun b ps q=>⟨#[],by rw[aE (aM q f0),q];simp⟩) (fun m hm=>hm) (fun b v q=>?_) I.bare
 ·exact z
 ·rw[Ih.mp hb];exact⟨f3,f1,f4,f5⟩
 ·by_cases hb:b=D
  ·subst hb;rw[ah] at q;cases q;exact new
  ·rw[aE hb] at q;exact(I.hok b v q).qJ (fun c o' _ z=>z) (fun c z=>by rw[aE (aM z f0)];exact z) fun c ys z=>by rw[aE (aM z f0)];exact z
end
end L2

namespace L2
open PySem PySem.Spec PyProof.Rows
inductive Two:List (Int×Value)->List (Int×V)->Prop
 | nil:Two [] []
 | cons {k:Int} {u:Value} {v:V} {a:List (Int×Value)} {b:List (Int×V)}:RelV v u->Two a b->Two ((k,u)::a) ((k,v)::b)
theorem zL {a b:List (Int×Value)}(h:a.Perm b):∀ {c:List (Int×V)},Two b c->∃ d,d.Perm c/\Two a d:=by
 induction h with
 | nil=>intro c t;exact⟨c,List.Perm.refl _,t⟩
 | cons x _ ih =>
  intro c t;cases t with
  | cons r t =>
   obtain⟨d,hd,td⟩:=ih t;exact⟨_,hd.cons _,.cons r td⟩
 | swap x y l =>
  intro c t;cases t with
  | cons r t =>
   cases t with
   | cons r2 t=>exact⟨_,List.Perm.swap _ _ _,.cons r2 (.cons r t)⟩
 | trans _ _ ih1 ih2 =>
  intro c t;obtain⟨d,hd,td⟩:=ih2 t;obtain⟨e,he,te⟩:=ih1 td;exact⟨e,he.trans hd,te⟩
theorem xo:∀ {xs:List V} {its:List Value},Vals xs its->∀ kz:List Int,Two (kz.zip its) (kz.zip xs)
 | _,_,.nil,kz=>by simp;exact .nil
 | _,_,.cons r v,[]=>by simp;exact .nil
 | _,_,.cons r v,k::kz=>.cons r (xo v kz)
theorem xp:∀ {a:List (Int×Value)} {b:List (Int×V)},Two a b->a.map (·.1)=b.map (·.1)
 | _,_,.nil=>rfl
 | _,_,.cons r t=>by rw[Js,Js,xp t]
theorem uk:∀ {a:List (Int×Value)} {b:List (Int×V)},Two a b->Vals (b.map (·.2)) (a.map (·.2))
 | _,_,.nil=>.nil
 | _,_,.cons r t=>.cons r (uk t)
end L2

namespace Mir
open PySem L2 Ch
noncomputable def c8 (M:Nat->Nat)(p q e:Nat):Nat :=
 if p=q then (if e=p\/e=M p then e else M e)
 else if e=p then q else if e=q then p
 else if e=M p then (if M q≠q then M q else e)
 else if e=M q then (if M p≠p then M p else e) else M e
noncomputable def beh (ms:List Nat)(p q:Nat):List Nat:=(Ig ms.length).map (c8 (at0 ms) p q)
theorem cQ (ms:List Nat)(p q:Nat):(beh ms p q).length=ms.length:=by unfold beh;rw[HQ,Ij]
theorem cD {ms:List Nat}{p q e:Nat}(h:e<ms.length):at0 (beh ms p q) e=c8 (at0 ms) p q e:=by
 unfold beh at0;simp[Kb,HX,JS h]
theorem gN {a b:List Nat}(h:a.length=b.length)(k:∀ e,e<a.length->at0 a e=at0 b e):a=b:=by
 refine J3 fun i=>?_
 by_cases hi:i<a.length
 ·rw[dZ hi,dZ (h ▸ hi),k i hi]
 ·rw[Jm (by omega),Jm (by omega)]
theorem gO (ms:List Nat)(i j v:Nat):at0 (ms.set i v) j=if j=i/\i<ms.length then v else at0 ms j:=by
 by_cases h:i<ms.length
 ·rw[k9 h];simp[h]
 ·rw[if_neg (by omega),List.set_eq_of_length_le (by omega)]
noncomputable def Fits (n:Nat)(ms:List Nat)(p q:Int):Prop:=0<=p/\p<=q/\q<2*n/\((at0 ms p.toNat:Nat):Int)≠q
noncomputable instance {n:Nat} {ms:List Nat} {p q:Int}:Decidable (Fits n ms p q):=by unfold Fits;infer_instance
theorem Fits.nat {n:Nat}{ms:List Nat}{p q:Int}(h:Fits n ms p q):∃ x y:Nat,p=x/\q=y/\x<=y/\y<2*n/\at0 ms x≠y:=by
 obtain⟨h0,h1,h2,h3⟩:=h;exact⟨p.toNat,q.toNat,by omega,by omega,by omega,by omega,by omega⟩
theorem zM {n:Nat}{ms:List Nat}{x y:Nat}(h1:x<=y)(h2:y<2*n)(h3:at0 ms x≠y):Fits n ms x y:=by
 refine⟨by omega,by omega,by omega,?_⟩;rw[Iz];omega
theorem dS {n:Nat}{ms:List Nat}(W:ak n ms){p q:Nat}(hp:p<2*n)(hq:q<2*n)(hf:at0 ms p≠q):ak n (beh ms p q):=by
 have hl:=W.len;have ip:=W.wk.inv p hp;have iq:=W.wk.inv q hq;have lp:=W.wk.lt p hp;have lq:=W.wk.lt q hq;refine⟨W.small,by rw[cQ];exact hl,fun x hx=>?_,fun x hx=>?_⟩
 ·rw[cD (by omega)];have lx:=W.wk.lt x hx;unfold c8;grind
 ·have lx:=W.wk.lt x hx;have ix:=W.wk.inv x hx;have b:c8 (at0 ms) p q x<ms.length:=by unfold c8;grind
  rw[cD (e:=x) (by omega),cD b];unfold c8;grind
noncomputable def frd (ms:List Nat)(p q:Nat):List Nat:=([p,q].filter fun e=>!decide (at0 ms e=e)).map (at0 ms)
noncomputable def lj (ms:List Nat)(p q:Nat):List Nat :=
 let fr:=frd ms p q
 gL (if 0<fr.length then gL ms (fr.getD 0 0) (fr.getD (fr.length-1) 0) else ms) p q
theorem md (ms:List Nat)(p q:Nat):(gL ms p q).length=ms.length:=by unfold gL;simp only[IM]
theorem Bj (ms:List Nat)(p q:Nat):(frd ms p q).length<=2:=by
 unfold frd;rw[HQ];exact IP _ _
theorem mf (ms:List Nat)(p q:Nat):frd ms p q=if at0 ms p=p then (if at0 ms q=q then [] else [at0 ms q]) else (if at0 ms q=q then [at0 ms p] else [at0 ms p,at0 ms q]):=by
 unfold frd;by_cases a:at0 ms p=p <;> by_cases b:at0 ms q=q <;> simp[a,b]
theorem vQ {n:Nat}{ms:List Nat}(W:ak n ms){p q:Nat}(hp:p<2*n)(hq:q<2*n)(hf:at0 ms p≠q):lj ms p q=beh ms p q:=by
 have hl:=W.len;have ip:=W.wk.inv p hp;have iq:=W.wk.inv q hq;have lp:=W.wk.lt p hp;have lq:=W.wk.lt q hq;have ln:(lj ms p q).length=ms.length:=by unfold lj;simp only;rw[md];split <;> first | rw[md] | rfl
 refine gN (by rw[ln,cQ]) fun e he=>?_
 rw[ln] at he;rw[cD he];unfold lj c8;simp only;rw[mf];by_cases a:at0 ms p=p <;> by_cases b:at0 ms q=q
 ·simp[a,b];unfold gL;simp only[gO,IM];grind
 ·simp[a,b];unfold gL;simp only[gO,IM];grind
 ·simp[a,b];unfold gL;simp only[gO,IM];grind
 ·simp[a,b];unfold gL;simp only[gO,IM];grind
end Mir
namespace Mir
open PySem L2 Ch
section
variable (K:HS)
noncomputable def vR:Sp:=fun vs H Q _=>∃ (a d:Addr) (n:Nat) (ms:List Nat) (p q:Int),vs=[.ref a,.ref d]/\SqT K H a (nV ms)/\ak n ms/\SqT K H d [.int p,.int q]/\Q (.bl (decide (Fits n ms p q))) H
noncomputable def um (C:Addr):Sp:=fun vs H Q E=>∃ (a d:Addr) (n:Nat) (ms:List Nat) (p q:Int),vs=[.ref a,.ref d]/\SqT K H a (nV ms)/\ak n ms/\H d=some (.tup [.int p,.int q])/\Sm p/\Sm q/\(Fits n ms p q->Q .non H)/\(¬ Fits n ms p q->E (.ref C) none H)
noncomputable def oD:Sp:=fun vs H Q _=>∃ (a d:Addr) (n:Nat) (ms:List Nat) (p q:Nat),vs=[.ref a,.ref d]/\SqT K H a (nV ms)/\ak n ms/\SqT K H d [.int p,.int q]/\p<2*n/\q<2*n /\
 ∀ (l:Addr) (H':Hp),H l=none->aG H H'->H' l=some (.lst (nV (frd ms p q)))->Q (.ref l) H'
noncomputable def oE:Sp:=fun vs H Q _=>∃ (l:Addr) (ms:List Nat) (p q:Nat),vs=[.ref l,.int p,.int q]/\H l=some (.lst (nV ms))/\p<ms.length/\q<ms.length /\
 ∀ H':Hp,H' l=some (.lst (nV (gL ms p q)))->(∀ b,b≠l->H' b=H b)->Q .non H'
noncomputable def zN (C:Addr):Sp:=fun vs H Q E=>∃ (a d:Addr) (n:Nat) (ms:List Nat) (p q:Int),vs=[.ref a,.ref d]/\SqT K H a (nV ms)/\ak n ms/\H d=some (.tup [.int p,.int q])/\Sm p/\Sm q /\
 (Fits n ms p q->∀ (l:Addr) (H':Hp),H l=none->aG H H'->H' l=some (.tup (nV (beh ms p.toNat q.toNat)))->Q (.ref l) H')/\(¬ Fits n ms p q->E (.ref C) none H)
end
end Mir

namespace Mir
open PySem L2 Ch
noncomputable def iH (n:Nat)(ms os:List Nat)(p q:Nat):Prop:=p<=q/\q<2*n/\at0 ms p≠q/\beh ms p q=os
noncomputable def nE (n:Nat)(ms os:List Nat)(p q:Nat):Prop:=iH n ms os p q/\∀ p' q',iH n ms os p' q'->p<p'\/(p=p'/\q<=q')
section
variable {n:Nat}{ms os:List Nat}
theorem vS (W:ak n ms){p q:Nat}(h:iH n ms os p q)(c:p≠q):p<at0 os p/\at0 os p=q/\at0 ms p≠at0 os p:=by
 obtain⟨h1,h2,h3,rfl⟩:=h;have hl:=W.len;rw[cD (by omega)];unfold c8;grind
theorem vT (W:ak n ms){p:Nat}(h:iH n ms os p p):∀ e,e<2*n->¬ (e<at0 os e/\at0 ms e≠at0 os e):=fun e he=>by
 obtain⟨h1,h2,h3,rfl⟩:=h;have hl:=W.len;rw[cD (by omega)];unfold c8;grind
theorem nE.uniq {p q p' q':Nat}(h:nE n ms os p q)(h':nE n ms os p' q'):p=p'/\q=q':=by
 have a:=h.2 p' q' h'.1;have b:=h'.2 p q h.1;omega
end
end Mir
namespace Mir
open PySem L2 Ch
section
variable (K:HS)
noncomputable def uo (CU:Addr):Sp:=fun vs H Q E=>∃ (a b:Addr) (n m:Nat) (ms os:List Nat),vs=[.ref a,.ref b]/\SqT K H a (nV ms)/\ak n ms/\SqT K H b (nV os)/\os.length=2*m/\(n=m->Q .non H)/\(n≠m->E (.ref CU) none H)
end
end Mir

namespace Mir
open PySem L2
theorem aW {n:Nat}{ms os:List Nat}(W:ak n ms)(WO:ak n os):Th.Two (2*n) (at0 ms) (at0 os):=⟨W.wk.lt,WO.wk.lt,W.wk.inv,WO.wk.inv⟩
theorem uq (n:Nat)(M:Nat->Nat):Ch.zE n M=Th.lsL (2*n) M:=rfl
noncomputable def ks:Th.Kd->Str
 | .ring=>"ring"
 | .odd=>"odd"
 | .bare=>"bare"
 | .tied=>"tied"
noncomputable abbrev Ent:=Th.Kd×Addr×List Nat
noncomputable def tf (x:Ent):List V:=[.str (ks x.1),.ref x.2.1]
noncomputable def en (x:Ent):Th.Kd×List Nat:=(x.1,x.2.2)
noncomputable def ThT (H:Hp)(l:Addr)(ths:List (Th.Kd×List Nat)):Prop:=∃ xs:List Ent,TsT tf H l xs/\(∀ x∈xs,H x.2.1=some (.tup (nV x.2.2)))/\xs.map en=ths
section
variable {H H':Hp}{l:Addr}{ths:List (Th.Kd×List Nat)}
theorem ThT.same (h:ThT H l ths)(s:aG H H'):ThT H' l ths:=by
 obtain⟨xs,h1,h2,h3⟩:=h;exact⟨xs,h1.same s,fun x hx=>s _ _ (h2 x hx),h3⟩
theorem ThT.nil (h:H l=some (.lst [])):ThT H l []:=⟨[],TsT.nil h,fun x hx=>absurd hx JP,rfl⟩
theorem ThT.len (h:ThT H l ths):∃ vs,H l=some (.lst vs)/\vs.length=ths.length:=by
 obtain⟨xs,h1,h2,rfl⟩:=h;obtain⟨vs,e1,e2⟩:=h1.len;exact⟨vs,e1,by rw[e2,HQ]⟩
theorem ThT.snoc {t e:Addr}{k:Th.Kd}{L:List Nat}(h:ThT H l ths)(ht:H t=some (.tup [.str (ks k),.ref e]))(he:H e=some (.tup (nV L))) :
  ∃ vs,H l=some (.lst vs)/\vs.length=ths.length/\ThT (upd H l (.lst (vs++[.ref t]))) l (ths++[(k,L)]):=by
 obtain⟨xs,h1,h2,rfl⟩:=h;obtain⟨vs,e1,e2,e3⟩:=h1.snoc (t:=t) (x:=(k,e,L)) ht;refine⟨vs,e1,by rw[e2,HQ],xs++[(k,e,L)],e3,fun x hx=>?_,by rw[IS];rfl⟩;have key:H x.2.1=some (.tup (nV x.2.2)):=by
  rcases Ic.mp hx with z | z
  ·exact h2 x z
  ·rw[Ih.mp z];exact he
 rw[aE (fun z=>by rw[z,e1] at key;cases key)];exact key
end
theorem ThT.keep {H H':Hp}{l d:Addr}{ths:List (Th.Kd×List Nat)}{kv:List (Key×V)}(h:ThT H l ths)(hd:H d=some (.dK kv))(s:∀ c o,c≠d->H c=some o->H' c=some o):ThT H' l ths:=by
 obtain⟨xs,⟨ts,h1,h2,h3⟩,h4,h5⟩:=h;refine⟨xs,⟨ts,s _ _ (fun z=>by rw[z,hd] at h1;cases h1) h1,h2,fun i t x e1 e2=>?_⟩,fun x hx=>?_,h5⟩
 ·have key:=h3 i t x e1 e2;exact s _ _ (fun z=>by rw[z,hd] at key;cases key) key
 ·have key:=h4 x hx;exact s _ _ (fun z=>by rw[z,hd] at key;cases key) key
theorem xq:∀ qs:List V,(∀ i,i<qs.length->∃ t,qs[i]?=some (.ref t))->∃ vs:List Addr,qs=vs.map V.ref/\vs.length=qs.length
 | [],_=>⟨[],rfl,rfl⟩
 | q::r,h=>by
  obtain⟨t,e⟩:=h 0 (by simp);obtain⟨vs,h1,h2⟩:=xq r fun i hi=>h (i+1) (by simpa using hi)
  obtain rfl:q=.ref t:=Option.some.inj e;exact⟨t::vs,by rw[Js,<- h1],by rw[ID,ID,h2]⟩
inductive Fa2 {α β:Type} (R:α->β->Prop):List α->List β->Prop
 | nil:Fa2 R [] []
 | cons {a:α} {b:β} {l:List α} {m:List β}:R a b->Fa2 R l m->Fa2 R (a::l) (b::m)
theorem Fa2.perm {α β:Type}{R:α->β->Prop}{a b:List α}(h:a.Perm b):∀ {c:List β},Fa2 R b c->∃ d,d.Perm c/\Fa2 R a d:=by
 induction h with
 | nil=>intro c t;exact⟨c,List.Perm.refl _,t⟩
 | cons x _ ih =>
  intro c t;cases t with
  | cons r t =>
   obtain⟨d,hd,td⟩:=ih t;exact⟨_,hd.cons _,.cons r td⟩
 | swap x y l =>
  intro c t;cases t with
  | cons r t =>
   cases t with
   | cons r2 t=>exact⟨_,List.Perm.swap _ _ _,.cons r2 (.cons r t)⟩
 | trans _ _ ih1 ih2 =>
  intro c t;obtain⟨d,hd,td⟩:=ih2 t;obtain⟨e,he,te⟩:=ih1 td;exact⟨e,he.trans hd,te⟩
theorem Fa2.of {α β:Type}{R:α->β->Prop}:∀ {l:List α} {m:List β},l.length=m.length->(∀ (i:Nat) (a:α) (b:β),l[i]?=some a->m[i]?=some b->R a b)->Fa2 R l m
 | [],[],_,_=>.nil
 | [],_::_,h,_=>by cases h
 | _::_,[],h,_=>by cases h
 | a::l,b::m,h,k=>.cons (k 0 a b rfl rfl) (Fa2.of (by simpa using h) fun i x y e1 e2=>k (i+1) x y e1 e2)
theorem Fa2.len {α β:Type}{R:α->β->Prop}:∀ {l:List α} {m:List β},Fa2 R l m->l.length=m.length
 | _,_,.nil=>rfl
 | _,_,.cons _ t=>by rw[ID,ID,t.len]
theorem Fa2.get {α β:Type}{R:α->β->Prop}:∀ {l:List α} {m:List β},Fa2 R l m->∀ (i:Nat) (a:α) (b:β),l[i]?=some a->m[i]?=some b->R a b
 | _,_,.nil,i,a,b,e,_=>by simp at e
 | _,_,.cons r t,0,a,b,e1,e2=>by cases e1;cases e2;exact r
 | _,_,.cons r t,i+1,a,b,e1,e2=>t.get i a b e1 e2
variable (K:HS)
noncomputable def rD:Sp:=fun vs H Q _=>∃ (a b:Addr) (n:Nat) (ms os:List Nat) (s:Nat),vs=[.int s,.ref a,.ref b]/\SqT K H a (nV ms)/\ak n ms/\SqT K H b (nV os)/\ak n os/\s<2*n/\(at0 os s=s\/Th.aT (at0 ms) (at0 os) s) /\
 ∀ (l:Addr) (H':Hp),aG H H'->H' l=some (.tup (nV (Th.thr (at0 ms) (at0 os) s)))->Q (.ref l) H'
noncomputable def xr:Sp:=fun vs H Q _=>∃ (d e:Addr) (kv:List (Key×V)) (L:List Nat),vs=[.ref d,.ref e]/\H d=some (.dK kv)/\H e=some (.tup (nV L))/\kv.length+L.length<=100000 /\
 ∀ (kv2:List (Key×V)) (H':Hp),H' d=some (.dK kv2)->(∀ b o,b≠d->H b=some o->H' b=some o)->kv2.length<=kv.length+L.length->(∀ j:Nat,(bD kv2 (Sum.inl (j:Int):Key)).isSome=true↔(bD kv (Sum.inl (j:Int):Key)).isSome=true\/j∈L)->Q .non H'
noncomputable def zO:Sp:=fun vs H Q _=>∃ (a b:Addr) (n:Nat) (ms os:List Nat),vs=[.ref a,.ref b]/\SqT K H a (nV ms)/\ak n ms/\SqT K H b (nV os)/\ak n os /\
 ∀ (l:Addr) (H':Hp),H l=none->aG H H'->ThT H' l (Th.gK (2*n) (at0 ms) (at0 os))->Q (.ref l) H'
noncomputable def oF:Sp:=fun vs H Q _=>∃ (t e:Addr) (k:Th.Kd) (L:List Nat),vs=[.ref t]/\H t=some (.tup [.str (ks k),.ref e])/\H e=some (.tup (nV L))/\0<L.length/\Q (.int (Th.mn L:Nat)) H
noncomputable def fY (n:Nat)(ms os:List Nat)(ths:List (Th.Kd×List Nat)):Prop:=ths.Perm (Th.unL (2*n) (at0 ms) (at0 os))/\ths.Pairwise fun p q=>Th.mn p.2<Th.mn q.2
noncomputable def aH (n:Nat)(ms os:List Nat):Nat:=n-Th.score (at0 ms) (at0 os) (2*n)/2
end Mir

namespace Th
open Classical
variable {N:Nat}{a b:Nat->Nat}
noncomputable def cut (a:Nat->Nat)(p x:Nat):Nat:=if x=p\/x=a p then x else a x
theorem g6 (T:Two N a b){p:Nat}(hp:p<N):Two N (cut a p) b:=by
 refine⟨fun x h=>?_,T.gl,fun x h=>?_,T.gg⟩
 ·have:=T.fl x h;unfold cut
  split <;> assumption
 ·have:=T.ff x h;have:=T.ff p hp;unfold cut;grind
theorem De (T:Two N a b){u v:Nat}(hu:u<N)(hv:v<N)(au:a u=u)(av:a v=v):dl a b u v=dl a b v u:=by
 have h1:pt a b u=some v↔pt a b v=some u:=⟨fun h=>(cP T hu au h).2.2.2,fun h=>(cP T hv av h).2.2.2⟩
 unfold dl;by_cases c:pt a b u=some v
 ·rw[if_pos c,if_pos (h1.mp c)]
 ·rw[if_neg c,if_neg (fun z=>c (h1.mpr z))];by_cases d:pt a b u=none/\pt a b v=none
  ·rw[if_pos d,if_pos ⟨d.2,d.1⟩]
  ·rw[if_neg d,if_neg (fun z=>d ⟨z.2,z.1⟩)]
theorem zP (u v:Nat):dl a b u v=2\/dl a b u v=0\/dl a b u v=-2:=by
 unfold dl
 split
 ·exact .inl rfl
 ·split
  ·exact .inr (.inr rfl)
  ·exact .inr (.inl rfl)
theorem zQ (T:Two N a b){p x q:Nat}(hpx:x≠q) :
  (dl a b p q-dl a b p x=2\/dl a b p q-dl a b p x=0\/dl a b p q-dl a b p x=-2)/\(pt a b p=some q->dl a b p q-dl a b p x=2):=by
 unfold dl;constructor
 ·by_cases c1:pt a b p=some q
  ·have c2:¬ pt a b p=some x:=fun z=>by rw[c1] at z;exact hpx (Option.some.inj z).symm
   have c3:¬ (pt a b p=none/\pt a b x=none):=fun z=>by rw[c1] at z;cases z.1
   rw[if_pos c1,if_neg c2,if_neg c3];exact .inl rfl
  ·rw[if_neg c1];by_cases c2:pt a b p=some x
   ·have c3:¬ (pt a b p=none/\pt a b q=none):=fun z=>by rw[c2] at z;cases z.1
    rw[if_pos c2,if_neg c3];exact .inr (.inr rfl)
   ·rw[if_neg c2]
    split <;> split <;> simp
 ·intro c1;have c2:¬ pt a b p=some x:=fun z=>by rw[c1] at z;exact hpx (Option.some.inj z).symm
  have c3:¬ (pt a b p=none/\pt a b x=none):=fun z=>by rw[c1] at z;cases z.1
  rw[if_pos c1,if_neg c2,if_neg c3];rfl
theorem four {P X Q Y:Option Nat}{p x q y:Nat}(n1:p≠x)(n2:p≠q)(n3:p≠y)(n4:x≠q)(n5:x≠y)(n6:q≠y)
  (p1:P≠some p) (p2:X≠some x) (p3:Q≠some q) (p4:Y≠some y)
  (s1:P=some x↔X=some p) (s2:P=some q↔Q=some p) (s3:P=some y↔Y=some p) (s4:X=some q↔Q=some x) (s5:X=some y↔Y=some x) (s6:Q=some y↔Y=some q)
  {d1 d2 d3 d4:Int} {X1 Y1 Q2 Y2:Option Nat}
  (hX1:X1=if X=some p then Q else if X=some q then P else X) (hY1:Y1=if Y=some p then Q else if Y=some q then P else Y)
  (hQ2:Q2=if Q=some p then X else if Q=some x then P else Q) (hY2:Y2=if Y=some p then X else if Y=some x then P else Y)
  (h1:d1=if P=some q then 2 else if P=none/\Q=none then -2 else 0)
  (h2:d2=if X1=some y then 2 else if X1=none/\Y1=none then -2 else 0)
  (h3:d3=if P=some x then 2 else if P=none/\X=none then -2 else 0)
  (h4:d4=if Q2=some y then 2 else if Q2=none/\Y2=none then -2 else 0) :
  (d1+d2-d3-d4=2\/d1+d2-d3-d4=0\/d1+d2-d3-d4=-2)/\(P=some q->d1+d2-d3-d4=2):=by
 by_cases a1:P=some x
 ·grind
 ·by_cases a2:P=some q
  ·grind
  ·by_cases a3:P=some y
   ·grind
   ·by_cases a4:X=some q
    ·grind
    ·by_cases a5:X=some y
     ·grind
     ·by_cases a6:Q=some y
      ·grind
      ·by_cases b1:P=none <;> by_cases b2:X=none <;> by_cases b3:Q=none <;> by_cases b4:Y=none <;> grind
noncomputable def Right (a b:Nat->Nat)(p q:Nat):Prop:=(p≠q/\b p=q)\/(p=q/\b p=p/\b (a p)=a p)
theorem jt {p q:Nat}(T:Two N a b)(hp:p<N)(hpq:p≠q)(ap:a p=p)(aq:a q=q)(h:b p=q):pt a b p=some q:=by
 refine(cO T hp ap).mpr ⟨hpq.symm,?_,aq⟩;have:=(ao.refl (f:=a) (g:=b) p).sg;rwa[h] at this
theorem nF {p:Nat}(T:Two N a b)(hp:p<N)(ap:a p=p)(h:b p=p):pt a b p=none:=(cC T hp ap).mpr ⟨p,ao.refl _,h⟩
theorem kj (T:Two N a b){p q:Nat}(hp:p<N)(hq:q<N)(hf:a p≠q){a2:Nat->Nat}(h2:∀ x,x<N->a2 x=Mir.c8 a p q x) :
  ((score a2 b N:Int)-score a b N=2\/(score a2 b N:Int)-score a b N=0\/(score a2 b N:Int)-score a b N=-2)/\(Right a b p q->(score a2 b N:Int)-score a b N=2):=by
 have ip:=T.ff p hp;have iq:=T.ff q hq;have lp:=T.fl p hp;have lq:=T.fl q hq;by_cases hpq:p=q
 ·subst hpq;have T0:=g6 T hp;have c1:cut a p p=p:=by unfold cut;rw[if_pos (.inl rfl)]
  have c2:cut a p (a p)=a p:=by unfold cut;rw[if_pos (.inr rfl)]
  have e1:=aV T0 hp lp c1 c2 hf.symm;have e2:score (link (cut a p) p (a p)) b N=score a b N:=aU T (fun x hx=>by have:=T.ff x hx;unfold link cut;grind) (fun _ _=>rfl);have e3:score a2 b N=score (cut a p) b N:=aU T0 (fun x hx=>by rw[h2 x hx];unfold Mir.c8 cut;grind) (fun _ _=>rfl);rw[e2] at e1;rw[e3];have v:=zP (a:=cut a p) (b:=b) p (a p);refine⟨by omega,?_⟩;rintro(⟨r,_⟩ | ⟨_,r1,r2⟩)
  ·exact absurd rfl r
  ·have:dl (cut a p) b p (a p)=-2:=by
    have z1:=nF T0 hp c1 r1;have z2:=nF T0 lp c2 r2;unfold dl;rw[z1,z2]
    rfl
   omega
 ·have rt:Right a b p q->b p=q:=by
   rintro(⟨_,r⟩ | ⟨r,_⟩)
   ·exact r
   ·exact absurd r hpq
  by_cases ap:a p=p
  ·by_cases aq:a q=q
   ·have e1:=aV T hp hq ap aq hpq;have T1:=cw T hp hq ap aq;have e3:score a2 b N=score (link a p q) b N:=aU T1 (fun x hx=>by rw[h2 x hx];unfold Mir.c8 link;grind) (fun _ _=>rfl);rw[e3,e1];have v:=zP (a:=a) (b:=b) p q;refine⟨by omega,fun r=>?_⟩;have z:=jt T hp hpq ap aq (rt r);have:dl a b p q=2:=by unfold dl;rw[if_pos z]
    omega
   ·-- q Bk, p loose
    have T0:=g6 T hq;have c1:cut a q q=q:=by unfold cut;rw[if_pos (.inl rfl)]
    have c2:cut a q (a q)=a q:=by unfold cut;rw[if_pos (.inr rfl)]
    have npy:p≠a q:=fun z=>hf (by rw[z];exact iq)
    have c3:cut a q p=p:=by unfold cut;rw[if_neg (by rintro(z | z);exact hpq z;exact npy z)];exact ap
    have e1:=aV T0 hq lq c1 c2 (fun z=>aq z.symm);have e2:score (link (cut a q) q (a q)) b N=score a b N:=aU T (fun x hx=>by have:=T.ff x hx;unfold link cut;grind) (fun _ _=>rfl);have e4:=aV T0 hp hq c3 c1 hpq;have T1:=cw T0 hp hq c3 c1;have e3:score a2 b N=score (link (cut a q) p q) b N:=aU T1 (fun x hx=>by rw[h2 x hx];have:=T.ff x hx;unfold Mir.c8 link cut;grind) (fun _ _=>rfl);have sy:=De T0 hp hq c3 c1;have v:=zQ T0 (p:=q) (x:=a q) (q:=p) npy.symm;rw[e2] at e1;rw[e3];refine⟨by omega,fun r=>?_⟩;have z:=jt T0 hp hpq c3 c1 (rt r);have z2:=(cP T0 hp c3 z).2.2.2;have:=v.2 z2;omega
  ·by_cases aq:a q=q
   ·have T0:=g6 T hp;have c1:cut a p p=p:=by unfold cut;rw[if_pos (.inl rfl)]
    have c2:cut a p (a p)=a p:=by unfold cut;rw[if_pos (.inr rfl)]
    have c3:cut a p q=q:=by unfold cut;rw[if_neg (by rintro(z | z);exact hpq z.symm;exact hf z.symm)];exact aq
    have e1:=aV T0 hp lp c1 c2 (fun z=>ap z.symm);have e2:score (link (cut a p) p (a p)) b N=score a b N:=aU T (fun x hx=>by have:=T.ff x hx;unfold link cut;grind) (fun _ _=>rfl);have e4:=aV T0 hp hq c1 c3 hpq;have T1:=cw T0 hp hq c1 c3;have e3:score a2 b N=score (link (cut a p) p q) b N:=aU T1 (fun x hx=>by rw[h2 x hx];have:=T.ff x hx;unfold Mir.c8 link cut;grind) (fun _ _=>rfl);have v:=zQ T0 (p:=p) (x:=a p) (q:=q) hf;rw[e2] at e1;rw[e3];refine⟨by omega,fun r=>?_⟩;have z:=jt T0 hp hpq c1 c3 (rt r);have:=v.2 z;omega
   ·-- both Bk
    have npy:p≠a q:=fun z=>hf (by rw[z];exact iq)
    have nxy:a p≠a q:=fun z=>hpq (by rw[<- ip,z,iq])
    let a0:=cut (cut a p) q
    have Tp:=g6 T hp;have T0:Two N a0 b:=g6 Tp hq;have cq:cut a p q=a q:=by unfold cut;rw[if_neg (by rintro(z | z);exact hpq z.symm;exact hf z.symm)]
    have v0:∀ x,a0 x=if x=p\/x=a p\/x=q\/x=a q then x else a x:=fun x=>by
     show cut (cut a p) q x=_;have e:cut (cut a p) q x=if x=q\/x=cut a p q then x else cut a p x:=rfl
     rw[e,cq];unfold cut;grind
    have c1:a0 p=p:=by rw[v0,if_pos (.inl rfl)]
    have c2:a0 (a p)=a p:=by rw[v0,if_pos (.inr (.inl rfl))]
    have c3:a0 q=q:=by rw[v0,if_pos (.inr (.inr (.inl rfl)))]
    have c4:a0 (a q)=a q:=by rw[v0,if_pos (.inr (.inr (.inr rfl)))]
    have lk:∀ {u v w:Nat},a0 w=w->w≠u->w≠v->link a0 u v w=w:=fun {u v w} h1 h2 h3=>by unfold link;rw[if_neg h2,if_neg h3];exact h1
    have e1:=aV T0 hp lp c1 c2 (fun z=>ap z.symm);have T1:=cw T0 hp lp c1 c2;have d3:=lk c3 (u:=p) (v:=a p) (fun z=>hpq z.symm) hf.symm;have d4:=lk c4 (u:=p) (v:=a p) npy.symm nxy.symm;have e2:=aV T1 hq lq d3 d4 (fun z=>aq z.symm);have e3:score (link (link a0 p (a p)) q (a q)) b N=score a b N:=aU T (fun x hx=>by have:=T.ff x hx;unfold link;rw[v0];grind) (fun _ _=>rfl);have f1:=aV T0 hp hq c1 c3 hpq;have T2:=cw T0 hp hq c1 c3;have g3:=lk c2 (u:=p) (v:=q) ap hf;have g4:=lk c4 (u:=p) (v:=q) npy.symm aq;have f2:=aV T2 lp lq g3 g4 nxy;have T3:=cw T2 lp lq g3 g4;have f3:score a2 b N=score (link (link a0 p q) (a p) (a q)) b N:=aU T3 (fun x hx=>by rw[h2 x hx];have:=T.ff x hx;unfold Mir.c8 link;rw[v0];grind) (fun _ _=>rfl);have sm:∀ {u v:Nat},u<N->v<N->a0 u=u->a0 v=v->(pt a0 b u=some v↔pt a0 b v=some u):=fun hu hv au av=>⟨fun h=>(cP T0 hu au h).2.2.2,fun h=>(cP T0 hv av h).2.2.2⟩
    have ns:∀ {u:Nat},u<N->a0 u=u->pt a0 b u≠some u:=fun hu au h=>(cP T0 hu au h).2.2.1 rfl
    have key:=four (P:=pt a0 b p) (X:=pt a0 b (a p)) (Q:=pt a0 b q) (Y:=pt a0 b (a q)) (p:=p) (x:=a p) (q:=q) (y:=a q) (fun z=>ap z.symm) hpq npy hf nxy (fun z=>aq z.symm)
     (ns hp c1) (ns lp c2) (ns hq c3) (ns lq c4) (sm hp lp c1 c2) (sm hp hq c1 c3) (sm hp lq c1 c4) (sm lp hq c2 c3) (sm lp lq c2 c4) (sm hq lq c3 c4)
     (fh T0 hp hq c1 c3 hpq lp c2 ap hf) (fh T0 hp hq c1 c3 hpq lq c4 npy.symm aq)
     (fh T0 hp lp c1 c2 (fun z=>ap z.symm) hq c3 (fun z=>hpq z.symm) hf.symm) (fh T0 hp lp c1 c2 (fun z=>ap z.symm) lq c4 npy.symm nxy.symm)
     (d1:=dl a0 b p q) (d2:=dl (link a0 p q) b (a p) (a q)) (d3:=dl a0 b p (a p)) (d4:=dl (link a0 p (a p)) b q (a q)) rfl rfl rfl rfl
    rw[e3] at e2;rw[f3];refine⟨by omega,fun r=>?_⟩;have:=key.2 (jt T0 hp hpq c1 c3 (rt r));omega
end Th

namespace L2
open PySem PySem.Spec PyProof.Rows
section
variable {X:Cx}
noncomputable def isS (z:Str):Value->Bool
 | .str i _=>i == z
 | _=>false
theorem ur:∀ {zs:List Str} {its:List Value},Vals (zs.map V.str) its->∀ z:Str,its.countP (isS z)=zs.countP (· == z)/\∀ y∈its,∃ x t,y=.str x t
 | [],_,.nil,z=>⟨rfl,fun y hy=>absurd hy JP⟩
 | x::zs,_,.cons r v,z=>by
  obtain⟨t,rfl⟩:=r;obtain⟨h1,h2⟩:=ur v z;refine⟨?_,fun y hy=>?_⟩
  ·rw[MK,MK,h1]
   rfl
  ·rcases IA.mp hy with rfl | hy
   ·exact⟨x,t,rfl⟩
   ·exact h2 y hy
noncomputable def Df:V->List V->Hp->VK->Prop:=fun x vs H Q=>∃ (l:Addr) (zs:List Str) (z:Str),x=.ref l/\vs=[.str z]/\H l=some (.lst (zs.map V.str))/\Q (.int ((zs.countP (· == z):Nat):Int)) H
theorem uu:MtM X "list.count" Df:=by
 intro pins s σ H x vs v us Q I rx rv h;obtain⟨l,zs,z,rfl,rfl,hH,q⟩:=h;cases rx;obtain⟨u,rfl,ru⟩:=rv.one;obtain⟨t,rfl⟩:=ru;obtain⟨hz,its,k,r,hl,e⟩:=I.ya hH;obtain⟨c1,c2⟩:=ur r z;refine call_meets F.slot_list_count ⟨_,e,rfl⟩ F.entry_list_count (F.args_list_count_2 _ _) (SeqAt.list_countAt l its.toArray k none #[] (.str z t) (isS z)) ⟨e,fun y hy=>?_,?_⟩
 ·obtain⟨x,t',rfl⟩:=c2 y (by simpa using hy);exact SeqAt.EqAt.str_str (A:=X.A.in1) (s:=s) x t' z t
 ·refine⟨.int ((zs.countP (· == z):Nat):Int),H,I.tok _,⟨s.toks,?_⟩,q⟩;have e2:its.toArray.toList=its:=by simp
  rw[e2,c1]
end
end L2
namespace Mir
open PySem L2
theorem oG:∀ a b:Th.Kd,ks a=ks b->a=b:=by
 intro a b h;cases a <;> cases b <;> first | rfl | exact absurd h (by decide)
theorem mP (ths:List (Th.Kd×List Nat))(k:Th.Kd):(ths.map fun th=>ks th.1).countP (· == ks k)=(ths.filter fun th=>th.1=k).length:=by
 rw[List.countP_map,List.countP_eq_length_filter];congr 1;refine J2 fun th _=>?_
 by_cases c:th.1=k
 ·rw[decide_eq_true c];show (ks th.1 == ks k)=true;rw[c];exact beq_self_eq_true _
 ·rw[decide_eq_false c];exact beq_eq_false_iff_ne.mpr fun z=>c (oG _ _ z)
theorem fY.counts {n:Nat}{ms os:List Nat}{ths:List (Th.Kd×List Nat)}(W:ak n ms)(WO:ak n os)(h:fY n ms os ths) :
  2*(ths.map fun th=>ks th.1).countP (· == ks .ring)+(ths.map fun th=>ks th.1).countP (· == ks .odd)=Th.score (at0 ms) (at0 os) (2*n):=by
 rw[mP,mP,(h.1.filter _).length_eq,(h.1.filter _).length_eq,Th.Ba,Th.C2 (aW W WO)]
 rfl
end Mir

namespace L2
open PySem PySem.Spec
theorem Bm {X:Cx}{scope:Scope}{pre:List Str}{y z:Str}{c e:Addr}{j k:Nat}(kL:scope.kind=.function)(h:∀ w∈scope.names,w.2≠.cell/\(w.2=.free->w.1=y\/w.1=z))(hn:∀ w∈scope.names,w.2=.local->scope.names.lookup w.1=some .local)
  (hcl:closureFor scope X.env=pure [(y,c),(z,e)]) (hc:X.env.cells.lookup y=some c) (he:X.env.cells.lookup z=some e) (hN:X.N[j]?=some y) (hM:X.N[k]?=some z) (hk:X.env.kindOf y=some .cell) (hk2:X.env.kindOf z=some .cell) (hr:(relabel scope X.env).names.lookup y=some .cell) (hr2:(relabel scope X.env).names.lookup z=some .cell) :
  j6 X scope [(y,c),(z,e)] (pre++[y,z]) (KA pre.length none++[some j,some k]) where
 zm:=hcl
 cell:=fun w hw=>(h w hw).1
 kind:=kL
 names:=hn
 cls:=fun x c' q=>by
  rw[Km] at q
  split at q
  ·rename_i hx;rw[eq_of_beq hx,<- q];exact hc
  ·rw[Km] at q
   split at q
   ·rename_i hx;rw[eq_of_beq hx,<- q];exact he
   ·cases q
 has:=fun x q=>by
  have key:∀ k,(relabel scope X.env).names.lookup x=some k->k=.cell\/k=.free->x=y\/x=z:=fun k q hk=>by
   have hm:=PySem.mem_of_lookup q;obtain⟨⟨n,k'⟩,hy,ey⟩:=HW.mp hm;have h1:=h _ hy;by_cases hf:k'=.free
   ·have w:=h1.2 hf;dsimp only at ey
    split at ey
    ·cases ey;exact w
    ·cases ey;exact w
   ·have hb:(k' == NameKind.free)=false:=by simpa using hf
    simp only[hb,Kn,Jl,if_false,Prod.mk.injEq] at ey;obtain⟨_,rfl⟩:=ey;rcases hk with hk | hk
    ·exact absurd hk h1.1
    ·exact absurd hk hf
  have hxy:x=y\/x=z:=by
   rcases q with q | q
   ·exact key _ q (.inl rfl)
   ·exact key _ q (.inr rfl)
  rw[Km];by_cases e1:x == y
  ·rw[e1];exact⟨c,rfl⟩
  ·have e1:(x == y)=false:=by simpa using e1
   rw[e1];rcases hxy with w | w
   ·rw[w,beq_self_eq_true] at e1;cases e1
   ·rw[Km,w,beq_self_eq_true];exact⟨e,rfl⟩
 len:=by simp
 src:=fun i q x e1 e2=>by
  by_cases hi:i<pre.length
  ·rw[IK (by simpa using hi),Kh,if_pos hi] at e1;cases e1
  ·rw[IG (by simp;omega),KZ] at e1;rw[IG (by omega)] at e2
   match hd:i-pre.length,e1,e2 with
   | 0,e1,e2 =>
    simp at e1 e2;subst e1 e2;exact⟨hN,.inl hk,.inl hr⟩
   | 1,e1,e2 =>
    simp at e1 e2;subst e1 e2;exact⟨hM,.inl hk2,.inl hr2⟩
   | d+2,e1,e2 =>
    simp at e1
end L2
namespace Mir
open PySem L2
variable (K:HS)
noncomputable def zR:Sp:=fun vs H Q _=>∃ (a:Addr) (ns:List Int) (most:Nat),vs=[.ref a,.int most]/\SqL K H a (ns.map V.int)/\ns.length<=63/\most<=40 /\
 ∀ (n:Nat) (t l1 l2:Addr) (ms os:List Nat) (H':Hp),n<=most->aG H H'->H' t=some (.tup [.ref l1,.ref l2])->H' l1=some (.lst (nV ms))->ak n ms->H' l2=some (.lst (nV os))->ak n os->H l1=none->H l2=none->l1≠l2->Q (.ref t) H'
noncomputable def rE (n:Nat)(ms os:List Nat)(S:Nat->Prop):Prop:=∀ j,j<2*n->S j->S (at0 ms j)/\S (at0 os j)
noncomputable def mh:Sp:=fun vs H Q _=>∃ (a b d:Addr) (n e:Nat) (ms os:List Nat) (kv:List (Key×V)),vs=[.ref a,.ref b,.int e,.ref d]/\H a=some (.lst (nV ms))/\ak n ms/\H b=some (.lst (nV os))/\ak n os/\e<2*n/\H d=some (.dK kv)/\kv.length<=10000 /\
 rE n ms os (fun j=>(bD kv (Sum.inl (j:Int):Key)).isSome=true)/\¬ (bD kv (Sum.inl (e:Int):Key)).isSome=true /\
 ∀ (l:Addr) (L:List Nat) (kv2:List (Key×V)) (H':Hp),H l=none->(∀ c o,c≠d->H c=some o->H' c=some o)->H' l=some (.lst (nV L))->Th.bG (at0 ms) (at0 os) e L->H' d=some (.dK kv2)->kv2.length<=kv.length+L.length ->
  (∀ j:Nat,j<2*n->((bD kv2 (Sum.inl (j:Int):Key)).isSome=true↔(bD kv (Sum.inl (j:Int):Key)).isSome=true\/Th.ao (at0 ms) (at0 os) e j))->Q (.ref l) H'
noncomputable def oH:Sp:=fun vs H Q _=>∃ (a b:Addr) (n:Nat) (ms os:List Nat),vs=[.ref a,.ref b]/\H a=some (.lst (nV ms))/\ak n ms/\H b=some (.lst (nV os))/\ak n os/\∀ H':Hp,aG H H'->Q (.int (Th.score (at0 ms) (at0 os) (2*n):Nat)) H'
noncomputable def oI:Sp:=fun vs H Q _=>∃ (a b:Addr) (n:Nat) (ms os:List Nat),vs=[.ref a,.ref b]/\H a=some (.lst (nV ms))/\ak n ms/\H b=some (.lst (nV os))/\ak n os/\∀ H':Hp,aG H H'->Q (.int (aH n ms os:Nat)) H'
end Mir

namespace L2
theorem mj {b:Bool}{A B:Prop}(hb:b=true)(h:A):if b=true then A else B:=by rw[if_pos hb];exact h
theorem ij {b:Bool}{A B:Prop}(hb:b=false)(h:B):if b=true then A else B:=by rw[if_neg (by rw[hb];decide)];exact h
theorem Bo {i j:Int}(h:i=j):decide (V.int i=V.int j)=true:=decide_eq_true (by rw[h])
theorem uw {i j:Int}(h:i≠j):decide (V.int i=V.int j)=false:=decide_eq_false (fun z=>h (by injection z))
theorem dNe {i j:Int}(h:i≠j):(!decide (V.int i=V.int j))=true:=by rw[uw h];rfl
theorem Bp {i j:Int}(h:i=j):(!decide (V.int i=V.int j))=false:=by rw[Bo h];rfl
end L2
namespace Mir
open PySem L2 Ch
noncomputable def qj (ms:List Nat)(p q:Nat):List Nat :=
 if p=q then freed ms p else
  let m3:=((freed (freed ms p) q).set p q).set q p
  if at0 ms p≠p/\at0 ms q≠q then (m3.set (at0 ms p) (at0 ms q)).set (at0 ms q) (at0 ms p) else m3
theorem mm (ms:List Nat)(e j:Nat)(h:e<ms.length)(h2:at0 ms e<ms.length):at0 (freed ms e) j=if j=e then e else if j=at0 ms e then at0 ms e else at0 ms j:=by
 unfold freed;simp only[gO,IM];grind
theorem ux {n:Nat}{ms:List Nat}(W:ak n ms){p q:Nat}(hp:p<2*n)(hq:q<2*n)(hf:at0 ms p≠q):qj ms p q=beh ms p q:=by
 have hl:=W.len;have ip:=W.wk.inv p hp;have iq:=W.wk.inv q hq;have lp:=W.wk.lt p hp;have lq:=W.wk.lt q hq;have ln:(qj ms p q).length=ms.length:=by
  unfold qj;simp only;split
  ·rw[bA]
  ·split <;> simp only[IM,bA]
 refine gN (by rw[ln,cQ]) fun e he=>?_
 rw[ln] at he;rw[cD he];unfold qj c8;simp only;have h1:=fun j=>mm ms p j (by omega) (by omega)
 by_cases c1:p=q
 ·rw[if_pos c1,if_pos c1,h1];grind
 ·have hq2:at0 (freed ms p) q=if q=p then p else if q=at0 ms p then at0 ms p else at0 ms q:=h1 q
  have h2:=fun j=>mm (freed ms p) q j (by rw[bA];omega) (by rw[bA,hq2];grind)
  rw[if_neg c1,if_neg c1];by_cases c2:at0 ms p≠p/\at0 ms q≠q
  ·rw[if_pos c2];simp only[gO,IM,bA,h1,h2];grind
  ·rw[if_neg c2];simp only[gO,IM,bA,h1,h2];grind
section
variable (K:HS)
noncomputable def oJ:Sp:=fun vs H Q _=>∃ (a:Addr) (e:Nat) (ms:List Nat),vs=[.ref a,.int e]/\H a=some (.lst (nV ms))/\e<ms.length/\at0 ms e<ms.length/\Q .non (upd H a (.lst (nV (freed ms e))))
noncomputable def qk:Sp:=fun vs H Q _=>∃ (a:Addr) (n x y:Nat) (ms:List Nat),vs=[.ref a,.int x,.int y]/\H a=some (.lst (nV ms))/\ak n ms/\x<2*n/\y<2*n /\
 (at0 ms x=y->∀ H':Hp,aG H H'->Q .non H')/\(at0 ms x≠y->∀ (l:Addr) (H':Hp),H l=none->aG H H'->H' l=some (.lst (nV (beh ms x y)))->Q (.ref l) H')
end
end Mir

namespace Th
open Classical
variable {N:Nat}{a b:Nat->Nat}
noncomputable def turn:Kd->Nat
 | .ring=>0
 | .odd=>1
 | .bare=>1
 | .tied=>0
noncomputable def hd (L:List Nat):Nat:=L.headD 0
noncomputable def Gk (a b:Nat->Nat)(L:List Nat):Kd->Prop
 | .ring=>b (bC L)=hd L/\bC L≠hd L/\hd L=mn L
 | .odd=>a (hd L)=hd L/\b (bC L)=bC L
 | .bare=>a (hd L)=hd L/\a (bC L)=bC L/\hd L<bC L
 | .tied=>b (hd L)=hd L/\b (bC L)=bC L/\hd L<bC L
structure dU (N:Nat) (a b:Nat->Nat) (k:Kd) (L:List Nat):Prop where
 ne:0<L.length
 nd:L.Nodup
 lt:∀ x∈L,x<N
 par:L.length%2=1↔k=.odd
 lk:∀ i x y,L[i]?=some x->L[i+1]?=some y->(if (turn k+i)%2=0 then a x else b x)=y/\x≠y
 fin:Gk a b L k
theorem mq {f g:Nat->Nat}{s:Nat}(T:Two N f g)(hs:s<N)(h:g s=s\/aT f g s):hd (thr f g s)=s/\∀ i x y,(thr f g s)[i]?=some x->(thr f g s)[i+1]?=some y->stp f g i x=y/\x≠y:=by
 obtain⟨K,E⟩:=fe T hs h;rw[iQ T hs E];constructor
 ·unfold hd dJ;rw[List.range_succ_eq_map]
  rfl
 ·intro i x y hx hy;have l2:i+1<K+1:=by
   have:=HR.mp hy;obtain⟨q,_⟩:=this;rwa[cv] at q
  rw[zt (by omega)] at hx hy;obtain rfl:=Option.some.inj hx;obtain rfl:=Option.some.inj hy;exact⟨rfl,(E.lY.mv i (by omega)).symm⟩
theorem uz {f g:Nat->Nat}{s K:Nat}(T:Two N f g)(hs:s<N)(E:Ends f g s K):bC (thr f g s)=wlk f g s K:=by
 rw[iQ T hs E,jF];unfold bC;rw[LX]
theorem uA (f g:Nat->Nat)(i x:Nat):stp f g i x=if i%2=0 then f x else g x:=rfl
theorem rF (T:Two N a b){th:Kd×List Nat}(h:th∈unL N a b):dU N a b th.1 th.2:=by
 rcases Ic.mp h with h | h
 ·rcases Ic.mp h with h | h
  ·-- from an end loose in a
   obtain⟨u,hu,rfl⟩:=HW.mp h;obtain⟨hu,pu⟩:=Ie.mp hu;obtain⟨ul,au⟩:=cL.mp hu;have pu:pA a b u:=of_decide_eq_true pu;obtain⟨l1,l2⟩:=kY T.swap ul (.inl au);obtain⟨h0,hst⟩:=mq T.swap ul (.inl au);have C:=ba T.swap ul (.inl au);have hlt:∀ x∈thr b a u,x<N:=fun x hx=>((C.mem x).mp hx).lt T.swap ul
   obtain⟨K,E⟩:=fe T.swap ul (.inl au);have hl:(thr b a u).length=K+1:=by rw[iQ T.swap ul E,cv]
   have ju:=uz T.swap ul E;have ld:=E.loose T.swap ul au (i:=K) (HV _);by_cases o:(thr b a u).length%2=1
   ·have e:eA a b u=(.odd,thr b a u):=by unfold eA;rw[if_pos o]
    rw[e];show dU N a b .odd (thr b a u);refine⟨l1,C.nd,hlt,⟨fun _=>rfl,fun _=>o⟩,fun i x y hx hy=>?_,?_,?_⟩
    ·have:=hst i x y hx hy;show (if (1+i)%2=0 then a x else b x)=y/\x≠y;rw[uA] at this;refine⟨?_,this.2⟩;rw[<- this.1];by_cases c:i%2=0
     ·rw[if_neg (by omega),if_pos c]
     ·rw[if_pos (by omega),if_neg c]
    ·show a (hd (thr b a u))=hd (thr b a u);rw[h0];exact au
    ·show b (bC (thr b a u))=bC (thr b a u);rw[ju];exact ld.1.mpr ⟨rfl,by omega⟩
   ·have e:eA a b u=(.bare,thr b a u):=by unfold eA;rw[if_neg o]
    rw[e];show dU N a b .bare (thr b a u);have Gm:u<bC (thr b a u):=pu.resolve_left o;refine⟨l1,C.nd,hlt,⟨fun z=>absurd z o,fun z=>by cases z⟩,fun i x y hx hy=>?_,?_,?_,?_⟩
    ·have:=hst i x y hx hy;show (if (1+i)%2=0 then a x else b x)=y/\x≠y;rw[uA] at this;refine⟨?_,this.2⟩;rw[<- this.1];by_cases c:i%2=0
     ·rw[if_neg (by omega),if_pos c]
     ·rw[if_pos (by omega),if_neg c]
    ·show a (hd (thr b a u))=hd (thr b a u);rw[h0];exact au
    ·show a (bC (thr b a u))=bC (thr b a u);rw[ju];exact ld.2.mpr (.inr ⟨rfl,by omega⟩)
    ·rw[h0];exact Gm
  ·obtain⟨u,hu,rfl⟩:=HW.mp h;obtain⟨hu,pu⟩:=Ie.mp hu;obtain⟨ul,au⟩:=cL.mp hu;obtain⟨ev,lt2⟩:pB a b u:=of_decide_eq_true pu;obtain⟨l1,l2⟩:=kY T ul (.inl au);obtain⟨h0,hst⟩:=mq T ul (.inl au);have C:=ba T ul (.inl au);have hlt:∀ x∈thr a b u,x<N:=fun x hx=>((C.mem x).mp hx).lt T ul
   obtain⟨_,_,q,_,_⟩:=dR T ul au ev;show dU N a b .tied (thr a b u);refine⟨l1,C.nd,hlt,⟨fun z=>by omega,fun z=>by cases z⟩,fun i x y hx hy=>?_,?_,q,?_⟩
   ·have:=hst i x y hx hy;unfold turn;rw[IZ];exact this
   ·show b (hd (thr a b u))=hd (thr a b u);rw[h0];exact au
   ·rw[h0];exact lt2
 ·obtain⟨m,hm,rfl⟩:=HW.mp h;obtain⟨ml,lm,wm⟩:=bb.mp hm;obtain⟨l1,l2⟩:=kY T ml (.inr wm);obtain⟨h0,hst⟩:=mq T ml (.inr wm);have C:=ba T ml (.inr wm);have hlt:∀ x∈thr a b m,x<N:=fun x hx=>((C.mem x).mp hx).lt T ml
  obtain⟨K,E⟩:=fe T ml (.inr wm);have hl:(thr a b m).length=K+1:=by rw[iQ T ml E,cv]
  have ju:=uz T ml E;have gm:=(wm m (ao.refl m)).2;obtain⟨r1,r2,r3⟩:=E.ring T ml gm;show dU N a b .ring (thr a b m);refine⟨l1,C.nd,hlt,⟨fun z=>by omega,fun z=>by cases z⟩,fun i x y hx hy=>?_,?_,?_,?_⟩
  ·have:=hst i x y hx hy;unfold turn;rw[IZ];exact this
  ·rw[ju,h0,<- r3];exact T.gg m ml
  ·rw[ju,h0,<- r3];exact gm
  ·rw[h0];obtain⟨q1,q2⟩:=fg C;have:=lm _ q1;have:=q2 m (ao.refl m);omega
theorem xt (T:Two N a b){ths:List (Kd×List Nat)}(hp:ths.Perm (unL N a b)):(ths.map (·.2)).flatten.Perm (Ig N):=by
 have p1:(ths.map (·.2)).flatten.Perm ((unL N a b).map (·.2)).flatten:=(hp.map _).flatten;refine p1.trans ?_;have nd:((unL N a b).map (·.2)).flatten.Nodup:=by
  rw[Iu,K0];constructor
  ·intro l hl;obtain⟨th,h,rfl⟩:=HW.mp hl;obtain⟨u,hu,C⟩:=jG T h;exact C.nd
  ·rw[IJ];have kn:=keys_nodup T;rw[Iu,IJ] at kn;refine kn.imp_of_mem fun {p q} hp hq hne=>?_
   intro x hx y hy exy;subst exy;obtain⟨u,hu,C⟩:=jG T hp;obtain⟨v,hv,D⟩:=jG T hq;refine hne ?_;have c1:=(C.mem x).mp hx;have c2:=(D.mem x).mp hy;have uv:ao a b u v:=c1.trans (c2.symm T hv);obtain⟨m1,m2⟩:=fg C;obtain⟨m3,m4⟩:=fg D;have:=m2 _ (uv.trans m3);have:=m4 _ ((uv.symm T hu).trans m1);omega
 refine(JD nd Jg).mpr fun x=>?_
 rw[KC,Ii];constructor
 ·rintro⟨l,hl,hx⟩;obtain⟨th,h,rfl⟩:=HW.mp hl;exact(rF T h).lt x hx
 ·intro hx;by_cases w:aT a b x
  ·obtain⟨m,m1,m2,m3⟩:=jl T hx;have wm:=w.of T hx m1;have hm:m∈RL a b N:=bb.mpr ⟨m2,m3,wm⟩;refine⟨thr a b m,HW.mpr ⟨(.ring,thr a b m),Ic.mpr (.inr (HW.mpr ⟨m,hm,rfl⟩)),rfl⟩,?_⟩;exact((ba T m2 (.inr wm)).mem x).mpr (m1.symm T hx)
  ·obtain⟨th,h1,h2⟩:=(l7 T hx).mpr w;exact⟨th.2,HW.mpr ⟨th,Ic.mpr (.inl h1),rfl⟩,h2⟩
end Th

namespace Th
open Classical
theorem zS {P X Q Y:Option Nat}{p x q y:Nat}(n1:p≠x)(n2:p≠q)(n3:p≠y)(n4:x≠q)(n5:x≠y)(n6:q≠y)
  (p1:P≠some p) (p2:X≠some x) (p3:Q≠some q) (p4:Y≠some y)
  (s1:P=some x↔X=some p) (s2:P=some q↔Q=some p) (s3:P=some y↔Y=some p) (s4:X=some q↔Q=some x) (s5:X=some y↔Y=some x) (s6:Q=some y↔Y=some q)
  {d1 d2 d3 d4:Int} {X1 Y1 Q2 Y2:Option Nat}
  (hX1:X1=if X=some p then Q else if X=some q then P else X) (hY1:Y1=if Y=some p then Q else if Y=some q then P else Y)
  (hQ2:Q2=if Q=some p then X else if Q=some x then P else Q) (hY2:Y2=if Y=some p then X else if Y=some x then P else Y)
  (h1:d1=if P=some q then 2 else if P=none/\Q=none then -2 else 0)
  (h2:d2=if X1=some y then 2 else if X1=none/\Y1=none then -2 else 0)
  (h3:d3=if P=some x then 2 else if P=none/\X=none then -2 else 0)
  (h4:d4=if Q2=some y then 2 else if Q2=none/\Y2=none then -2 else 0) :
  d1+d2-d3-d4=2↔(P=some q\/X=some y\/(Q=none/\Y=none/\P≠none/\X≠none/\P≠some x)\/(P=none/\X=none/\Q≠none/\Y≠none/\Q≠some y)):=by
 by_cases a1:P=some x
 ·grind
 ·by_cases a2:P=some q
  ·grind
  ·by_cases a3:P=some y
   ·grind
   ·by_cases a4:X=some q
    ·grind
    ·by_cases a5:X=some y
     ·grind
     ·by_cases a6:Q=some y
      ·grind
      ·by_cases b1:P=none <;> by_cases b2:X=none <;> by_cases b3:Q=none <;> by_cases b4:Y=none <;> grind
variable {N:Nat}{a b:Nat->Nat}
noncomputable def c4 (a:Nat->Nat)(p q x:Nat):Nat:=if x=p\/x=a p\/x=q\/x=a q then x else a x
theorem rG (T:Two N a b){p q:Nat}(hp:p<N)(hq:q<N):Two N (c4 a p q) b:=by
 refine⟨fun x h=>?_,T.gl,fun x h=>?_,T.gg⟩
 ·have:=T.fl x h;unfold c4
  split <;> assumption
 ·have:=T.ff x h;have:=T.ff p hp;have:=T.ff q hq;unfold c4;grind
theorem oK (p q:Nat):c4 a p q p=p/\c4 a p q (a p)=a p/\c4 a p q q=q/\c4 a p q (a q)=a q:=by
 refine⟨if_pos (.inl rfl),if_pos (.inr (.inl rfl)),if_pos (.inr (.inr (.inl rfl))),if_pos (.inr (.inr (.inr rfl)))⟩
theorem yt (T:Two N a b){p:Nat}(hp:p<N)(hf:a p≠p){a2:Nat->Nat}(h2:∀ x,x<N->a2 x=Mir.c8 a p p x) :
  (score a2 b N:Int)-score a b N=2↔(pt (c4 a p p) b p=none/\pt (c4 a p p) b (a p)=none):=by
 have lp:=T.fl p hp;have ip:=T.ff p hp;have ec:c4 a p p=cut a p:=funext fun x=>by unfold c4 cut;grind
 rw[ec];have T0:=g6 T hp;have c1:cut a p p=p:=by unfold cut;rw[if_pos (.inl rfl)]
 have c2:cut a p (a p)=a p:=by unfold cut;rw[if_pos (.inr rfl)]
 have e1:=aV T0 hp lp c1 c2 (fun z=>hf z.symm);have e2:score (link (cut a p) p (a p)) b N=score a b N:=aU T (fun x hx=>by have:=T.ff x hx;unfold link cut;grind) (fun _ _=>rfl);have e3:score a2 b N=score (cut a p) b N:=aU T0 (fun x hx=>by rw[h2 x hx];unfold Mir.c8 cut;grind) (fun _ _=>rfl);rw[e2] at e1;rw[e3];have ed:dl (cut a p) b p (a p)=-2↔(pt (cut a p) b p=none/\pt (cut a p) b (a p)=none):=by
  unfold dl;by_cases c:pt (cut a p) b p=some (a p)
  ·rw[if_pos c,c];constructor
   ·intro z;cases z
   ·rintro⟨z,_⟩;cases z
  ·rw[if_neg c];by_cases d:pt (cut a p) b p=none/\pt (cut a p) b (a p)=none
   ·rw[if_pos d];exact⟨fun _=>d,fun _=>rfl⟩
   ·rw[if_neg d];exact⟨fun z=>absurd z (by decide),fun z=>absurd z d⟩
 rw[<- ed];omega
theorem zT (T:Two N a b){p q:Nat}(hp:p<N)(hq:q<N)(hpq:p≠q)(hf:a p≠q){a2:Nat->Nat}(h2:∀ x,x<N->a2 x=Mir.c8 a p q x) :
  (score a2 b N:Int)-score a b N=2↔(pt (c4 a p q) b p=some q\/(a p≠p/\a q≠q/\pt (c4 a p q) b (a p)=some (a q)) \/
   (a q≠q/\pt (c4 a p q) b q=none/\pt (c4 a p q) b (a q)=none/\pt (c4 a p q) b p≠none/\pt (c4 a p q) b (a p)≠none/\(a p≠p->pt (c4 a p q) b p≠some (a p))) \/
   (a p≠p/\pt (c4 a p q) b p=none/\pt (c4 a p q) b (a p)=none/\pt (c4 a p q) b q≠none/\pt (c4 a p q) b (a q)≠none/\(a q≠q->pt (c4 a p q) b q≠some (a q)))):=by
 have ip:=T.ff p hp;have iq:=T.ff q hq;have lp:=T.fl p hp;have lq:=T.fl q hq;by_cases ap:a p=p
 ·by_cases aq:a q=q
  ·have ec:c4 a p q=a:=funext fun x=>by unfold c4;grind
   rw[ec];have e1:=aV T hp hq ap aq hpq;have T1:=cw T hp hq ap aq;have e3:score a2 b N=score (link a p q) b N:=aU T1 (fun x hx=>by rw[h2 x hx];unfold Mir.c8 link;grind) (fun _ _=>rfl);rw[e3,e1];unfold dl;grind
  ·have ec:c4 a p q=cut a q:=funext fun x=>by unfold c4 cut;grind
   rw[ec];have T0:=g6 T hq;have c1:cut a q q=q:=by unfold cut;rw[if_pos (.inl rfl)]
   have c2:cut a q (a q)=a q:=by unfold cut;rw[if_pos (.inr rfl)]
   have npy:p≠a q:=fun z=>hf (by rw[z];exact iq)
   have c3:cut a q p=p:=by unfold cut;rw[if_neg (by rintro(z | z);exact hpq z;exact npy z)];exact ap
   have e1:=aV T0 hq lq c1 c2 (fun z=>aq z.symm);have e2:score (link (cut a q) q (a q)) b N=score a b N:=aU T (fun x hx=>by have:=T.ff x hx;unfold link cut;grind) (fun _ _=>rfl);have e4:=aV T0 hp hq c3 c1 hpq;have T1:=cw T0 hp hq c3 c1;have e3:score a2 b N=score (link (cut a q) p q) b N:=aU T1 (fun x hx=>by rw[h2 x hx];have:=T.ff x hx;unfold Mir.c8 link cut;grind) (fun _ _=>rfl);have sy:pt (cut a q) b p=some q↔pt (cut a q) b q=some p:=⟨fun h=>(cP T0 hp c3 h).2.2.2,fun h=>(cP T0 hq c1 h).2.2.2⟩
   rw[e2] at e1;rw[e3,e4,e1];unfold dl;grind
 ·by_cases aq:a q=q
  ·have ec:c4 a p q=cut a p:=funext fun x=>by unfold c4 cut;grind
   rw[ec];have T0:=g6 T hp;have c1:cut a p p=p:=by unfold cut;rw[if_pos (.inl rfl)]
   have c2:cut a p (a p)=a p:=by unfold cut;rw[if_pos (.inr rfl)]
   have c3:cut a p q=q:=by unfold cut;rw[if_neg (by rintro(z | z);exact hpq z.symm;exact hf z.symm)];exact aq
   have e1:=aV T0 hp lp c1 c2 (fun z=>ap z.symm);have e2:score (link (cut a p) p (a p)) b N=score a b N:=aU T (fun x hx=>by have:=T.ff x hx;unfold link cut;grind) (fun _ _=>rfl);have e4:=aV T0 hp hq c1 c3 hpq;have T1:=cw T0 hp hq c1 c3;have e3:score a2 b N=score (link (cut a p) p q) b N:=aU T1 (fun x hx=>by rw[h2 x hx];have:=T.ff x hx;unfold Mir.c8 link cut;grind) (fun _ _=>rfl);rw[e2] at e1;rw[e3,e4,e1];unfold dl;grind
  ·have npy:p≠a q:=fun z=>hf (by rw[z];exact iq)
   have nxy:a p≠a q:=fun z=>hpq (by rw[<- ip,z,iq])
   have T0:=rG T hp hq;obtain⟨c1,c2,c3,c4'⟩:=oK (a:=a) p q;generalize ea:c4 a p q=a0 at T0 c1 c2 c3 c4';have v0:∀ x,a0 x=if x=p\/x=a p\/x=q\/x=a q then x else a x:=fun x=>by rw[<- ea];rfl
   have lk:∀ {u v w:Nat},a0 w=w->w≠u->w≠v->link a0 u v w=w:=fun {u v w} h1 h2 h3=>by unfold link;rw[if_neg h2,if_neg h3];exact h1
   have e1:=aV T0 hp lp c1 c2 (fun z=>ap z.symm);have T1:=cw T0 hp lp c1 c2;have d3:=lk c3 (u:=p) (v:=a p) (fun z=>hpq z.symm) hf.symm;have d4:=lk c4' (u:=p) (v:=a p) npy.symm nxy.symm;have e2:=aV T1 hq lq d3 d4 (fun z=>aq z.symm);have e3:score (link (link a0 p (a p)) q (a q)) b N=score a b N:=aU T (fun x hx=>by have:=T.ff x hx;unfold link;rw[v0];grind) (fun _ _=>rfl);have f1:=aV T0 hp hq c1 c3 hpq;have T2:=cw T0 hp hq c1 c3;have g3:=lk c2 (u:=p) (v:=q) ap hf;have g4:=lk c4' (u:=p) (v:=q) npy.symm aq;have f2:=aV T2 lp lq g3 g4 nxy;have T3:=cw T2 lp lq g3 g4;have f3:score a2 b N=score (link (link a0 p q) (a p) (a q)) b N:=aU T3 (fun x hx=>by rw[h2 x hx];have:=T.ff x hx;unfold Mir.c8 link;rw[v0];grind) (fun _ _=>rfl);have sm:∀ {u v:Nat},u<N->v<N->a0 u=u->a0 v=v->(pt a0 b u=some v↔pt a0 b v=some u):=fun hu hv au av=>⟨fun h=>(cP T0 hu au h).2.2.2,fun h=>(cP T0 hv av h).2.2.2⟩
   have ns:∀ {u:Nat},u<N->a0 u=u->pt a0 b u≠some u:=fun hu au h=>(cP T0 hu au h).2.2.1 rfl
   have key:=zS (P:=pt a0 b p) (X:=pt a0 b (a p)) (Q:=pt a0 b q) (Y:=pt a0 b (a q)) (p:=p) (x:=a p) (q:=q) (y:=a q) (fun z=>ap z.symm) hpq npy hf nxy (fun z=>aq z.symm)
    (ns hp c1) (ns lp c2) (ns hq c3) (ns lq c4') (sm hp lp c1 c2) (sm hp hq c1 c3) (sm hp lq c1 c4') (sm lp hq c2 c3) (sm lp lq c2 c4') (sm hq lq c3 c4')
    (fh T0 hp hq c1 c3 hpq lp c2 ap hf) (fh T0 hp hq c1 c3 hpq lq c4' npy.symm aq)
    (fh T0 hp lp c1 c2 (fun z=>ap z.symm) hq c3 (fun z=>hpq z.symm) hf.symm) (fh T0 hp lp c1 c2 (fun z=>ap z.symm) lq c4' npy.symm nxy.symm)
    (d1:=dl a0 b p q) (d2:=dl (link a0 p q) b (a p) (a q)) (d3:=dl a0 b p (a p)) (d4:=dl (link a0 p (a p)) b q (a q)) rfl rfl rfl rfl
   rw[e3] at e2;have ed:(score a2 b N:Int)-score a b N=dl a0 b p q+dl (link a0 p q) b (a p) (a q)-dl a0 b p (a p)-dl (link a0 p (a p)) b q (a q):=by rw[f3];omega
   rw[ed,key];constructor
   ·rintro(h | h | ⟨h1,h2,h3,h4,h5⟩ | ⟨h1,h2,h3,h4,h5⟩)
    ·exact .inl h
    ·exact .inr (.inl ⟨ap,aq,h⟩)
    ·exact .inr (.inr (.inl ⟨aq,h1,h2,h3,h4,fun _=>h5⟩))
    ·exact .inr (.inr (.inr ⟨ap,h1,h2,h3,h4,fun _=>h5⟩))
   ·rintro(h | ⟨_,_,h⟩ | ⟨_,h1,h2,h3,h4,h5⟩ | ⟨_,h1,h2,h3,h4,h5⟩)
    ·exact .inl h
    ·exact .inr (.inl h)
    ·exact .inr (.inr (.inl ⟨h1,h2,h3,h4,h5 ap⟩))
    ·exact .inr (.inr (.inr ⟨h1,h2,h3,h4,h5 aq⟩))
variable {k:Kd}{L:List Nat}
theorem dU.aR (G:dU N a b k L){i x y:Nat}(h1:L[i]?=some x)(h2:L[i+1]?=some y)(o:(turn k+i)%2=0):a x=y:=by
 have z:=(G.lk i x y h1 h2).1;rwa[if_pos o] at z
theorem dU.bR (G:dU N a b k L){i x y:Nat}(h1:L[i]?=some x)(h2:L[i+1]?=some y)(o:(turn k+i)%2=1):b x=y:=by
 have z:=(G.lk i x y h1 h2).1;rwa[if_neg (by omega)] at z
theorem dU.one (G:dU N a b k L){i j x:Nat}(h1:L[i]?=some x)(h2:L[j]?=some x):i=j:=by
 obtain⟨l1,e1⟩:=HR.mp h1;obtain⟨l2,e2⟩:=HR.mp h2;exact(LB G.nd).mp (e1.trans e2.symm)
theorem dU.ltx (G:dU N a b k L){i x:Nat}(h:L[i]?=some x):x<N:=G.lt x (Ib h)
theorem Ca {i x:Nat}(h:L[i]?=some x):L[0]?=some (hd L):=by
 cases L with
 | nil=>simp at h
 | cons y r=>rfl
theorem xu {i x:Nat}(h:L[i]?=some x):L[L.length-1]?=some (bC L):=by
 have hl:0<L.length:=JF (IT _) (HR.mp h).1;rw[<- n0 hl,Lk]
theorem dU.mate (G:dU N a b k L)(T:Two N a b){i x:Nat}(h:L[i]?=some x) :
  ((turn k+i)%2=0/\(L[i+1]?=some (a x)\/(i+1=L.length/\a x=x/\k=.bare)))\/((turn k+i)%2=1/\((1<=i/\L[i-1]?=some (a x))\/(i=0/\a x=x/\(k=.bare\/k=.odd)))):=by
 have hl:=(HR.mp h).1;by_cases o:(turn k+i)%2=0
 ·refine .inl ⟨o,?_⟩;by_cases c:i+1<L.length
  ·obtain⟨y,hy⟩:∃ y,L[i+1]?=some y:=⟨_,HP c⟩
   rw[G.aR h hy o];exact .inl hy
  ·refine .inr ⟨by omega,?_⟩;have e:i=L.length-1:=by omega
   have hx:=xu h;rw[<- e,h] at hx;have hx:=Option.some.inj hx;have par:=G.par;have F:=G.fin;cases k with
   | ring=>exact absurd o (by show ¬ (0+i)%2=0;have:¬ L.length%2=1:=(fun z=>by cases par.mp z);omega)
   | odd=>exact absurd o (by show ¬ (1+i)%2=0;have:=par.mpr rfl;omega)
   | bare=>exact⟨by rw[hx];exact F.2.1,rfl⟩
   | tied=>exact absurd o (by show ¬ (0+i)%2=0;have:¬ L.length%2=1:=(fun z=>by cases par.mp z);omega)
 ·have o:(turn k+i)%2=1:=by omega
  refine .inr ⟨o,?_⟩;by_cases c:i=0
  ·refine .inr ⟨c,?_⟩;subst c;have hx:=Ca h;rw[h] at hx;have hx:=Option.some.inj hx;have F:=G.fin;cases k with
   | ring=>exact absurd o (by decide)
   | odd=>exact⟨by rw[hx];exact F.1,.inr rfl⟩
   | bare=>exact⟨by rw[hx];exact F.1,.inl rfl⟩
   | tied=>exact absurd o (by decide)
  ·obtain⟨y,hy⟩:∃ y,L[i-1]?=some y:=⟨_,HP (by omega)⟩
   have h':L[i-1+1]?=some x:=by rw[show i-1+1=i by omega];exact h
   have e:=G.aR hy h' (by omega);refine .inl ⟨by omega,?_⟩;rw[<- e,T.ff y (G.ltx hy)];exact hy
theorem qm {p q:Nat}(h:p≠q)(x:Nat):Mir.c8 a p q x=Mir.c8 a q p x:=by
 unfold Mir.c8;grind
end Th

namespace Mir
open PySem L2 Ch
noncomputable def bP (ms:List Nat)(p q:Nat):Nat×Nat:=(min (at0 ms p) (at0 ms q),max (at0 ms p) (at0 ms q))
noncomputable def bV (ms:List Nat)(p q:Nat):Nat×Nat :=
 if at0 ms p≠p/\at0 ms q≠q then (if (bP ms p q).1<p\/((bP ms p q).1=p/\(bP ms p q).2<q) then bP ms p q else (p,q)) else (p,q)
section
variable {n:Nat}{ms:List Nat}
theorem uB (W:ak n ms){p q:Nat}(h1:p<=q)(h2:q<2*n)(h3:at0 ms p≠q)(c:at0 ms p≠p/\at0 ms q≠q):iH n ms (beh ms p q) (bP ms p q).1 (bP ms p q).2:=by
 have lp:=W.wk.lt p (by omega);have lq:=W.wk.lt q h2;have ip:=W.wk.inv p (by omega);have iq:=W.wk.inv q h2;unfold bP;refine⟨by simp only;omega,by simp only;omega,?_,?_⟩
 ·simp only;by_cases d:at0 ms p<=at0 ms q
  ·rw[Kv d,Jq d,ip];grind
  ·rw[MM (by omega),LN (by omega),iq];grind
 ·simp only;refine gN (by rw[cQ,cQ]) fun e he=>?_
  rw[cQ] at he;rw[cD he,cD he];unfold c8;by_cases d:at0 ms p<=at0 ms q
  ·rw[Kv d,Jq d,ip,iq];grind
  ·rw[MM (by omega),LN (by omega),ip,iq];grind
theorem yu (W:ak n ms){p q x y:Nat}(h1:p<=q)(h2:q<2*n)(h3:at0 ms p≠q)(L:iH n ms (beh ms p q) x y):(x=p/\y=q)\/((at0 ms p≠p/\at0 ms q≠q)/\x=(bP ms p q).1/\y=(bP ms p q).2):=by
 have hl:=W.len;have ip:=W.wk.inv p (by omega);have iq:=W.wk.inv q h2;have vb:∀ e,e<2*n->at0 (beh ms p q) e=c8 (at0 ms) p q e:=fun e he=>cD (by omega)
 have lx:x<2*n:=by have:=L.1;have:=L.2.1;omega
 unfold bP;simp only;by_cases c:x=y
 ·subst c;have hx:=L.2.2.1;have ix:=W.wk.inv x lx;have no:=vT W L;have epq:p=q:=Ia fun z=>no p (by omega) (by
   rw[vb p (by omega)];unfold c8;rw[if_neg z,if_pos rfl];exact⟨by omega,h3⟩)
  subst epq;have vp:at0 (beh ms x x) p=at0 (beh ms p p) p:=by rw[L.2.2.2]
  rw[cD (by omega),cD (by omega)] at vp;unfold c8 at vp;have r1:(if p=p\/p=at0 ms p then p else at0 ms p)=p:=if_pos (.inl rfl);rw[if_pos rfl,if_pos rfl,r1] at vp;by_cases e1:p=x
  ·exact .inl ⟨e1.symm,e1.symm⟩
  ·have e2:p=at0 ms x:=Ia fun z=>by
    rw[if_neg (by rintro(y | y);exact e1 y;exact z y)] at vp;exact h3 vp
   have e3:at0 ms p=x:=by rw[e2];exact ix
   exact .inr ⟨⟨h3,h3⟩,by omega,by omega⟩
 ·obtain⟨g1,g2,g3⟩:=vS W L c;rw[vb x lx] at g1 g2 g3;unfold c8 at g1 g2 g3;by_cases epq:p=q
  ·exfalso;rw[if_pos epq] at g2 g3 g1;by_cases e1:x=p\/x=at0 ms p
   ·rw[if_pos e1] at g2;exact c g2
   ·rw[if_neg e1] at g3;exact g3 rfl
  ·rw[if_neg epq] at g1 g2 g3;by_cases e1:x=p
   ·rw[if_pos e1] at g2;exact .inl ⟨e1,g2.symm⟩
   ·rw[if_neg e1] at g1 g2 g3;by_cases e2:x=q
    ·rw[if_pos e2] at g1;omega
    ·rw[if_neg e2] at g1 g2 g3;by_cases e3:x=at0 ms p
     ·rw[if_pos e3] at g1 g2 g3;by_cases e4:at0 ms q≠q
      ·rw[if_pos e4] at g1 g2;exact .inr ⟨⟨fun z=>e1 (by rw[e3];exact z),e4⟩,by omega,by omega⟩
      ·rw[if_neg e4] at g2;exact absurd g2 c
     ·rw[if_neg e3] at g1 g2 g3;by_cases e4:x=at0 ms q
      ·rw[if_pos e4] at g1 g2 g3;by_cases e5:at0 ms p≠p
       ·rw[if_pos e5] at g1 g2;exact .inr ⟨⟨e5,fun z=>e2 (by rw[e4];exact z)⟩,by omega,by omega⟩
       ·rw[if_neg e5] at g2;exact absurd g2 c
      ·rw[if_neg e4] at g3;exact absurd rfl g3
theorem gq (W:ak n ms){p q:Nat}(h1:p<=q)(h2:q<2*n)(h3:at0 ms p≠q):nE n ms (beh ms p q) (bV ms p q).1 (bV ms p q).2:=by
 have L0:iH n ms (beh ms p q) p q:=⟨h1,h2,h3,rfl⟩
 have one:∀ p' q',iH n ms (beh ms p q) p' q'->(p'=p/\q'=q)\/((at0 ms p≠p/\at0 ms q≠q)/\p'=(bP ms p q).1/\q'=(bP ms p q).2):=fun p' q' L=>yu W h1 h2 h3 L
 unfold bV;by_cases c:at0 ms p≠p/\at0 ms q≠q
 ·rw[if_pos c];have L1:=uB W h1 h2 h3 c;generalize bP ms p q=o at L1 one;obtain⟨o1,o2⟩:=o;by_cases d:o1<p\/(o1=p/\o2<q)
  ·rw[if_pos d];refine⟨L1,fun p' q' L=>?_⟩;rcases one p' q' L with ⟨e1,e2⟩ | ⟨_,e1,e2⟩
   ·show o1<p'\/(o1=p'/\o2<=q')
    omega
   ·exact .inr ⟨e1.symm,Le e2.symm⟩
  ·rw[if_neg d];refine⟨L0,fun p' q' L=>?_⟩;rcases one p' q' L with ⟨e1,e2⟩ | ⟨_,e1,e2⟩
   ·exact .inr ⟨e1.symm,Le e2.symm⟩
   ·show p<p'\/(p=p'/\q<=q')
    simp only at e1 e2;omega
 ·rw[if_neg c];refine⟨L0,fun p' q' L=>?_⟩;rcases one p' q' L with ⟨e1,e2⟩ | ⟨z,_⟩
  ·exact .inr ⟨e1.symm,Le e2.symm⟩
  ·exact absurd z c
theorem vU (W:ak n ms){p q:Nat}(h1:p<=q)(h2:q<2*n)(h3:at0 ms p≠q):bV ms p q=(p,q)↔∀ p' q',iH n ms (beh ms p q) p' q'->¬ (p'<p\/(p'=p/\q'<q)):=by
 have L:=gq W h1 h2 h3;have L0:iH n ms (beh ms p q) p q:=⟨h1,h2,h3,rfl⟩
 constructor
 ·intro e p' q' l;rw[e] at L;have:=L.2 p' q' l;simp only at this;omega
 ·intro h;have:=h _ _ L.1;have:=L.2 _ _ L0;refine Ls ?_ ?_
  ·show (bV ms p q).1=p;omega
  ·show (bV ms p q).2=q;omega
end
end Mir

noncomputable def ev2 {α:Type}:List α->List α
 | []=>[]
 | [x]=>[x]
 | x::_::r=>x::ev2 r
theorem jN {α:Type}:∀ l:List α,(ev2 l).length=(l.length+1)/2
 | []=>by simp[ev2]
 | [x]=>by simp[ev2]
 | x::y::r=>by
  show (ev2 r).length+1=(r.length+1+1+1)/2;rw[jN r];omega
theorem lr {α:Type}:∀ (l:List α) (k:Nat),(ev2 l)[k]?=l[2*k]?
 | [],k=>by simp[ev2]
 | [x],0=>rfl
 | [x],k+1=>by simp[ev2]
 | x::y::r,0=>rfl
 | x::y::r,k+1=>by
  show (ev2 r)[k]?=_;rw[lr r k,show 2*(k+1)=2*k+1+1 by omega]
  rfl
theorem xv {α β:Type}(f:α->β):∀ l:List α,ev2 (l.map f)=(ev2 l).map f
 | []=>rfl
 | [x]=>rfl
 | x::y::r=>by
  show f x::ev2 (r.map f)=f x::(ev2 r).map f;rw[xv f r]
theorem zU {α:Type}(l:List α)(i:Nat):(Ig ((l.drop i).length+1-(l.drop i).length/2-1)).filterMap (fun k=>l[i+2*k]?)=ev2 (l.drop i):=by
 have hc:(l.drop i).length+1-(l.drop i).length/2-1=(ev2 (l.drop i)).length:=by rw[jN];omega
 rw[hc];have e:∀ k,k<(ev2 (l.drop i)).length->l[i+2*k]?=(ev2 (l.drop i))[k]?:=fun k _=>by rw[lr,JO]
 generalize ev2 (l.drop i)=m at e;refine J3 fun j=>?_
 have gen:∀ n,n<=m.length->(Ig n).filterMap (fun k=>l[i+2*k]?)=m.take n:=fun n hn=>by
  induction n with
  | zero=>rfl
  | succ n ih =>
   rw[JN,List.filterMap_append,ih (by omega),KU];congr 1;have z:=e n (by omega);have z2:m[n]?=some m[n]:=HP (by omega);rw[z2];show List.filterMap _ [n]=[m[n]]
   rw[JR,z,z2]
   rfl
 rw[gen m.length (HV _),IV]
namespace HT
open PySem PySem.Spec PyProof.Rows L2
section
variable {prog:Program}{w:World}{A:Around}{E:Value->Shared->Prop}{s:Shared}
theorem uC {sl:Addr}{i:Int}{t1 t2:Tok}{n:Nat}{Q:Int×Int×Nat->Shared->Prop}(hi:0<=i)(hs:s.heap.IsSliceOf sl (.int i t1) .none (.int 2 t2))
  (h:Q (min i n,2,n+1-i.toNat-(n-i.toNat)/2-1) s):wpAny (model prog w) A (Builtin.Slice.sliceApplied (.ref sl) (pure (n:Int))) Q E s:=by
 obtain⟨os,hos,hcs,hds⟩:=id hs;unfold Builtin.Slice.sliceApplied Builtin.Slice.sliceFields;refine wpAny_bind (wpAny_bind (wpAny_field hos hds (x:=.int i t1) rfl (wpAny_bind (wpAny_field hos hds (x:=.none) rfl (wpAny_bind (wpAny_field hos hds (x:=.int 2 t2) rfl (wpAny_pure ?_)))))));refine wpAny_bind (slicePart_int ?_);show wpAny _ _ (if ((2:Int) == 0)=true then _ else _) _ _ s;rw[if_neg (by decide)];refine wpAny_bind (slicePart_int (wpAny_bind (slicePart_none (wpAny_bind (wpAny_pure ?_)))));show wpAny _ _ (match Builtin.Slice.sliceAdjust (some i) none 2 (n:Int) with | (lo,hi)=>pure (lo,(2:Int),Builtin.Slice.slicePlaces lo hi 2)) _ _ s;have e:Builtin.Slice.sliceAdjust (some i) none 2 (n:Int)=(min i n,(n:Int)):=by
  have h1:¬ ((2:Int)<0):=by omega
  unfold Builtin.Slice.sliceAdjust;simp only[h1,if_false];refine Ls ?_ rfl;show (if i<0 then _ else _)=_;rw[if_neg (by omega)]
 rw[e];have e2:Builtin.Slice.slicePlaces (min i n) (n:Int) 2=n+1-i.toNat-(n-i.toNat)/2-1:=by
  unfold Builtin.Slice.slicePlaces;have h1:(2:Int)>0:=by omega
  simp only[h1,if_true]
  split <;> omega
 show wpAny _ _ (pure (min i n,(2:Int),Builtin.Slice.slicePlaces (min i n) (n:Int) 2)) _ _ s;rw[e2];exact wpAny_pure h
theorem lz {t sl:Addr}{its:List Value}{i:Int}{t1 t2:Tok}{Q:Value->Shared->Prop}(ht:IsTup s.heap t its.toArray)(hi:0<=i)(hs:s.heap.IsSliceOf sl (.int i t1) .none (.int 2 t2))
  (h:Q (.ref s.heap.objs.size) { s with heap:=s.heap.push { cls:=.type "tuple",data:=.seq (ev2 (its.drop i.toNat)).toArray } }) (hsz:its.length<=sizeLine):wpAny (model prog w) A (getItem (.ref t) (.ref sl)) Q E s:=by
 have xw:sizeOk (.seq (ev2 (its.drop i.toNat)).toArray):=by
  show (ev2 (its.drop i.toNat)).toArray.size<=sizeLine;rw[HZ,jN,J0];omega
 obtain⟨os,hos,hcs,hds⟩:=id hs;have hTs:s.TypeIs (.ref sl) "slice":=⟨os,hos,hcs⟩
 unfold getItem
 try with_reducible refine wpAny_holding ?_
 first | refine wpAny_bind (wpAny_pure ?_) | skip
 refine wpAny_bind (wpAny_sequenceKey ht.typeIs (by decide) (wpAny_bind (wpAny_callSpecial?_slot (name:=Str.ofString "__getitem__") ht.typeIs Kg (wpAny_call_entry Kg ht.typeIs entry_tuple_getitem ?_ (args_tuple_getitem _ _)))));show wpAny _ _ (Builtin.Tuple.tupleItemsOf (.ref t) >>= _) _ _ s;refine wpAny_bind (tupleItemsOf_ ht (wpAny_bind (wpAny_typeOf hTs ?_)));rw[if_pos (by decide)];refine wpAny_bind (uC (n:=its.toArray.size) hi hs ?_);have hno:¬ ((min i (its.toArray.size:Int) == 0&&(2:Int) == 1&&(its.toArray.size+1-i.toNat-(its.toArray.size-i.toNat)/2-1) == its.toArray.size)=true):=by
  rw[show ((2:Int) == 1)=false from rfl,Li,Kn];exact Io
 show wpAny _ _ (if (min i (its.toArray.size:Int) == 0&&(2:Int) == 1&&(its.toArray.size+1-i.toNat-(its.toArray.size-i.toNat)/2-1) == its.toArray.size)=true then _ else _) _ _ s;rw[if_neg hno];have pk:((Ig (its.toArray.size+1-i.toNat-(its.toArray.size-i.toNat)/2-1)).filterMap fun (k:Nat)=>its.toArray[(min i (its.toArray.size:Int)+(k:Int)*2).toNat]?)=ev2 (its.drop i.toNat):=by
  rw[HZ];by_cases c:i.toNat<=its.length
  ·have em:min i (its.length:Int)=i:=by omega
   rw[<- zU its i.toNat,J0,show its.length-i.toNat+1-(its.length-i.toNat)/2-1=its.length+1-i.toNat-(its.length-i.toNat)/2-1 by omega];congr 1;funext k;rw[em,show (i+(k:Int)*2).toNat=i.toNat+2*k by omega];simp
  ·rw[show its.length+1-i.toNat-(its.length-i.toNat)/2-1=0 by omega,List.drop_of_length_le (by omega)]
   rfl
 rw[pk]
 first
  | exact wpAny_bind (m:=Builtin.Tuple.tupleExact _) (wpAny_newObj_type (wpAny_pure ⟨_,rfl,wpAny_pure h⟩) xw)
  | exact wpAny_bind (m:=Builtin.Tuple.tupleExact _) (wpAny_newObj_type (wpAny_bind (wpAny_pure (wpAny_pure ⟨_,rfl,wpAny_pure h⟩))) xw)
  | exact wpAny_bind (wpAny_bind (m:=Builtin.Tuple.tupleExact _) (wpAny_newObj_type (wpAny_pure (wpAny_pure ⟨_,rfl,wpAny_pure h⟩)) xw))
  | exact wpAny_bind (wpAny_bind (m:=Builtin.Tuple.tupleExact _) (wpAny_newObj_type (wpAny_pure ⟨_,rfl,wpAny_pure h⟩) xw))
end
end HT
namespace L2
open PySem PySem.Spec PyProof.Rows
theorem uD:∀ {xs:List V} {us:List Value},Vals xs us->Vals (ev2 xs) (ev2 us)
 | _,_,.nil=>.nil
 | _,_,.cons r .nil=>.cons r .nil
 | _,_,.cons r (.cons _ rr)=>.cons r (uD rr)
section
variable {X:Cx}{e lo st:Expr}{te tl ts:TE}{pos p2:Pos}
noncomputable def Dg (K:HS)(te tl ts:TE):TE:=fun σ H Q=>te σ H fun x H1=>tl σ H1 fun v H2=>ts σ H2 fun u H3=>∃ (a:Addr) (xs:List V) (i:Int),x=.ref a/\v=.int i/\u=.int 2/\SqT K H3 a xs/\0<=i/\∀ p,H3 p=none->Q (.ref p) (upd H3 p (.tup (ev2 (xs.drop i.toNat))))
theorem zV (he:PE X e te)(hl:PE X lo tl)(hs:PE X st ts):PE X (.Subscript e (.Slice (some lo) none (some st) p2) pos) (Dg X.K te tl ts):=by
 intro pins s σ H Q I h;refine Subscript_ (thn (he pins s σ H _ I h) fun v s1 ⟨x,H1,I1,r1,q1⟩=>?_);refine wpAny_Slice ?_;rw[evalPart_some,evalPart_none,evalPart_some];refine thn (hl pins s1 σ H1 _ I1 q1) fun vl s2 ⟨l,H2,I2,pl,q2⟩=>wpAny_pure (thn (hs pins s2 σ H2 _ I2 q2) fun vu s3 ⟨u,H3,I3,pu,q3⟩=>?_)
 obtain⟨a,xs,i,rfl,rfl,rfl,hq,hi,q⟩:=q3;cases r1;obtain⟨t1,rfl⟩:=pl;obtain⟨t2,rfl⟩:=pu;have I4:Inv X pins σ H3 { s3 with heap:=s3.heap.push { cls:=.type "slice",data:=.fields #[.int i t1,.none,.int 2 t2] } }:=I3.kept (t':=s3.toks) fun b ob q=>HU _ q
 obtain⟨its,r,ht,hz⟩:=I4.tuple hq;have hlen:=r.length;show wpAny (model X.prog X.w) X.A (subscriptTail e (.Slice (some lo) none (some st) p2) (.ref a) (.ref s3.heap.objs.size)) (EP X pins σ Q) X.xe { s3 with heap:=s3.heap.push { cls:=.type "slice",data:=.fields #[.int i t1,.none,.int 2 t2] } };refine tail_any (ops:=[.ref a,.ref s3.heap.objs.size]) ht.typeIs Kg.lookup ?_ (by with_unfolding_all rfl);refine HT.lz ht hi (Heap.IsSliceOf.new ..) ?_ (by rw[<- hlen];exact hz);refine⟨.ref _,_,I4.laid (t':=s3.toks) (o:=.tup (ev2 (xs.drop i.toNat))) (fun b ob q=>HU _ q) (HV _) ?_,rfl,q _ (I4.hok.fresh (HV _))⟩;refine⟨?_,_,uD (r.drop i.toNat),IsTup.new _ _⟩;rw[jN,J0];omega
end
end L2

namespace Th
section
open Classical
variable {N:Nat}{a b:Nat->Nat}
noncomputable def LL (a b:Nat->Nat)(i:Nat):List Nat:=(Ig i).filter fun m=>decide (aX a b m)
theorem xx (i:Nat):LL a b (i+1)=LL a b i++(if aX a b i then [i] else []):=by
 unfold LL;rw[JN,IE];congr 1;by_cases c:aX a b i
 ·rw[if_pos c,IH (by simpa using c)];rfl
 ·rw[if_neg c,II (by simpa using c)];rfl
theorem Dh (i:Nat):(LL a b i).length<=i:=by
 unfold LL;have z:=IP (fun m=>decide (aX a b m)) (Ig i);rwa[Ij] at z
theorem Di {i u:Nat}:u∈LL a b i↔u<i/\aX a b u:=by unfold LL;rw[Ie,Ii,decide_eq_true_iff]
noncomputable def eM (a b:Nat->Nat)(x:Nat):Prop:=∃ u,ao a b x u/\a u=u
noncomputable def dm (a b:Nat->Nat)(x:Nat):Prop:=∃ u,ao a b x u/\b u=u
noncomputable def kd (a b:Nat->Nat)(x:Nat):Kd:=if gJ a b x then .odd else if eM a b x then .bare else if dm a b x then .tied else .ring
noncomputable def oM (N:Nat)(a b:Nat->Nat)(x:Nat):List Nat:=(Ig N).filter fun y=>decide (ao a b x y)
theorem lA (T:Two N a b){x:Nat}(hx:x<N):bG a b x (oM N a b x) :=
 ⟨Jg.filter _,fun y=>by unfold oM;rw[Ie,Ii,decide_eq_true_iff];exact⟨fun h=>h.2,fun h=>⟨h.lt T hx,h⟩⟩⟩
noncomputable def lack (N:Nat)(a b:Nat->Nat)(x:Nat):Nat:=if kd a b x=.ring then (oM N a b x).length/2-1 else (oM N a b x).length/2
noncomputable def jv (th:Kd×List Nat):Nat:=if th.1=.ring then th.2.length/2-1 else th.2.length/2
theorem uE (T:Two N a b){x y:Nat}(hx:x<N)(c:ao a b x y)(z:Nat):ao a b x z↔ao a b y z:=⟨fun h=>(c.symm T hx).trans h,fun h=>c.trans h⟩
theorem Bq (T:Two N a b){x y:Nat}(hx:x<N)(c:ao a b x y):kd a b x=kd a b y:=by
 have e:=uE T hx c;have e1:gJ a b x=gJ a b y:=by unfold gJ;simp only[e]
 have e2:eM a b x=eM a b y:=by unfold eM;simp only[e]
 have e3:dm a b x=dm a b y:=by unfold dm;simp only[e]
 unfold kd;simp only[e1,e2,e3]
theorem bG.to (T:Two N a b){x y:Nat}{L:List Nat}(hx:x<N)(C:bG a b x L)(c:ao a b x y):bG a b y L:=⟨C.nd,fun z=>by rw[C.mem,uE T hx c]⟩
theorem Cb (T:Two N a b){th:Kd×List Nat}(h:th∈unL N a b):∃ u,u<N/\bG a b u th.2/\th.1=kd a b u:=by
 rcases Ic.mp h with h | h
 ·rcases Ic.mp h with h | h
  ·obtain⟨u,hu,rfl⟩:=HW.mp h;obtain⟨hu,pu⟩:=Ie.mp hu;obtain⟨ul,au⟩:=cL.mp hu;have C0:=ba T.swap ul (.inl au);have C:bG a b u (thr b a u):=⟨C0.nd,fun y=>by rw[<- iD];exact C0.mem y⟩
   have od:=jn T ul C;refine⟨u,ul,C,?_⟩;unfold eA kd;by_cases o:(thr b a u).length%2=1
   ·simp only[if_pos o,if_pos (od.mp o)]
   ·simp only[if_neg o,if_neg (fun z=>o (od.mpr z)),if_pos (show eM a b u from ⟨u,ao.refl u,au⟩)]
  ·obtain⟨u,hu,rfl⟩:=HW.mp h;obtain⟨hu,pu⟩:=Ie.mp hu;obtain⟨ul,bu⟩:=cL.mp hu;have pu:pB a b u:=of_decide_eq_true pu;have C:=ba T ul (.inl bu);have od:=jn T ul C;refine⟨u,ul,C,?_⟩;have no:¬ gJ a b u:=fun z=>by have:=od.mpr z;have:=pu.1;omega
   have noA:¬ eM a b u:=fun z=>no ⟨z,u,ao.refl u,bu⟩
   unfold eB kd;simp only[if_neg no,if_neg noA,if_pos (show dm a b u from ⟨u,ao.refl u,bu⟩)]
 ·obtain⟨m,hm,rfl⟩:=HW.mp h;obtain⟨m1,m2,m3⟩:=bb.mp hm;refine⟨m,m1,ba T m1 (.inr m3),?_⟩;have noA:¬ eM a b m:=fun ⟨u,h1,h2⟩=>(m3 u h1).1 h2
  have noB:¬ dm a b m:=fun ⟨u,h1,h2⟩=>(m3 u h1).2 h2
  have no:¬ gJ a b m:=fun z=>noA z.1
  unfold kd;simp only[if_neg no,if_neg noA,if_neg noB]
theorem Cc (T:Two N a b){th:Kd×List Nat}(h:th∈unL N a b):mn th.2<N/\aX a b (mn th.2)/\th.1=kd a b (mn th.2)/\jv th=lack N a b (mn th.2):=by
 obtain⟨u,ul,C,e⟩:=Cb T h;obtain⟨c,le⟩:=fg C;have lt:=c.lt T ul;have e2:=e.trans (Bq T ul c);refine⟨lt,fun y hy=>le y (c.trans hy),e2,?_⟩;unfold jv lack;rw[<- e2,jm (C.to T ul c) (lA T lt)]
theorem Dj (T:Two N a b){m:Nat}(hm:m<N)(hL:aX a b m):∃ th∈unL N a b,mn th.2=m:=by
 have fin:∀ th∈unL N a b,m∈th.2->∃ th∈unL N a b,mn th.2=m:=fun th h hmm=>by
  obtain⟨u,ul,C,e⟩:=Cb T h;have c:=(C.mem m).mp hmm;obtain⟨c2,le⟩:=fg C;have h1:=le m c;have h2:=hL _ ((c.symm T ul).trans c2);exact⟨th,h,by omega⟩
 by_cases w:aT a b m
 ·exact fin (.ring,thr a b m) (Ip _ (HW.mpr ⟨m,bb.mpr ⟨hm,hL,w⟩,rfl⟩)) (((ba T hm (.inr w)).mem m).mpr (ao.refl m))
 ·obtain⟨th,h1,h2⟩:=(l7 T hm).mpr w;exact fin th (IW _ h1) h2
theorem Dk:∀ {l m:List Nat},l.Pairwise (· < ·)->m.Pairwise (· < ·)->(∀ x,x∈l↔x∈m)->l=m:=fun {l m} h k e =>
 List.Perm.eq_of_pairwise (le:=(· < ·)) (fun x y _ _ h1 h2=>absurd h1 (by omega)) h k ((JD (h.imp (fun z=>IB z)) (k.imp (fun z=>IB z))).mpr e)
theorem yv (T:Two N a b){ths:List (Kd×List Nat)}(hp:ths.Perm (unL N a b))(hs:ths.Pairwise fun p q=>mn p.2<mn q.2) :
  ths.map (fun th=>mn th.2)=LL a b N:=by
 refine Dk (IJ.mpr hs) ((J6).filter _) fun x=>?_
 rw[HW,Di];constructor
 ·rintro⟨th,h,rfl⟩;obtain⟨h1,h2,_⟩:=Cc T (hp.mem_iff.mp h);exact⟨h1,h2⟩
 ·rintro⟨h1,h2⟩;obtain⟨th,h3,h4⟩:=Dj T h1 h2;exact⟨th,hp.mem_iff.mpr h3,h4⟩
theorem yw (T:Two N a b){ths:List (Kd×List Nat)}(hp:ths.Perm (unL N a b))(hs:ths.Pairwise fun p q=>mn p.2<mn q.2) :
  ths.map (fun th=>(th.1,jv th))=(LL a b N).map fun m=>(kd a b m,lack N a b m):=by
 rw[<- yv T hp hs,Jf];refine JL fun th h=>?_
 obtain⟨_,_,h3,h4⟩:=Cc T (hp.mem_iff.mp h);show (th.1,jv th)=(kd a b (mn th.2),lack N a b (mn th.2))
 rw[h3,h4]
theorem qo (T:Two N a b){x:Nat}(hx:x<N){L:List Nat}(C:bG a b x L)(no:¬ gJ a b x):(L.filter fun y=>decide (a y=y)).length=2↔eM a b x:=by
 constructor
 ·intro h;cases e:L.filter fun y=>decide (a y=y) with
  | nil=>rw[e] at h;cases h
  | cons y r =>
   have hy:y∈L.filter fun y=>decide (a y=y):=by rw[e];exact Iq
   obtain⟨h1,h2⟩:=Ie.mp hy;exact⟨y,(C.mem y).mp h1,of_decide_eq_true h2⟩
 ·rintro⟨u,hu,au⟩;have hul:=hu.lt T hx;obtain⟨v,v1,v2,v3,v4⟩:=kX T hul au (fun ⟨z,z1,z2⟩=>no ⟨⟨u,hu,au⟩,z,hu.trans z1,z2⟩);have nd:(L.filter fun y=>decide (a y=y)).Nodup:=C.nd.filter _;have me:∀ y,y∈(L.filter fun y=>decide (a y=y))↔y∈[u,v]:=fun y=>by
   rw[Ie,C.mem,decide_eq_true_iff,IA,Ih];constructor
   ·rintro⟨h1,h2⟩;exact v4 y ((hu.symm T hx).trans h1) h2
   ·rintro(rfl | rfl)
    ·exact⟨hu,au⟩
    ·exact⟨hu.trans v2,v3⟩
  have z:=((JD nd (by simp[v1.symm])).mpr me).length_eq;exact z
theorem gJ.swap {x:Nat}(h:gJ a b x):gJ b a x:=let ⟨⟨u,h1,h2⟩,z,h3,h4⟩:=h;⟨⟨z,h3.swap,h4⟩,u,h1.swap,h2⟩
theorem vV (T:Two N a b){x:Nat}(hx:x<N){L:List Nat}(C:bG a b x L)(no:¬ gJ a b x):(L.filter fun y=>decide (b y=y)).length=2↔dm a b x:=by
 have z:=qo T.swap hx (L:=L) ⟨C.nd,fun y=>by rw[C.mem,iD]⟩ (fun z=>no z.swap);rw[z];exact⟨fun ⟨u,h1,h2⟩=>⟨u,h1.swap,h2⟩,fun ⟨u,h1,h2⟩=>⟨u,h1.swap,h2⟩⟩
theorem uF (T:Two N a b):∀ i,i<=N->2*((LL a b i).map (lack N a b)).sum<=((Ig N).filter fun y=>decide (∃ m,m<i/\ao a b m y)).length
 | 0,_=>by
  show 2*0<=_;omega
 | i+1,h=>by
  have ih:=uF T i (by omega);rw[xx];by_cases c:aX a b i
  ·rw[if_pos c,IS,List.sum_append];have hl:2*lack N a b i<=(oM N a b i).length:=by unfold lack;split <;> omega
   have e:((List.map (lack N a b) [i])).sum=lack N a b i:=by simp
   rw[e];have dis:∀ y,y∈(Ig N).filter (fun y=>decide (∃ m,m<i/\ao a b m y))->y ∉ oM N a b i:=fun y hy hz=>by
    obtain⟨_,h2⟩:=Ie.mp hy;obtain⟨m,m1,m2⟩:=of_decide_eq_true h2;have c2:=((lA T (by omega)).mem y).mp hz;have:=c m (c2.trans (m2.symm T (by omega)));omega
   have nd:((Ig N).filter (fun y=>decide (∃ m,m<i/\ao a b m y))++oM N a b i).Nodup:=Jj.mpr ⟨Jg.filter _,(lA T (by omega)).nd,fun y hy z hz e=>dis y hy (e ▸ hz)⟩;have z:=sub_len nd (m:=(Ig N).filter fun y=>decide (∃ m,m<i+1/\ao a b m y)) fun y hy=>by
    rw[Ie,decide_eq_true_iff];rcases Ic.mp hy with hy | hy
    ·obtain⟨h1,h2⟩:=Ie.mp hy;obtain⟨m,m1,m2⟩:=of_decide_eq_true h2;exact⟨h1,m,by omega,m2⟩
    ·obtain⟨h1,h2⟩:=Ie.mp hy;exact⟨h1,i,by omega,of_decide_eq_true h2⟩
   rw[HY] at z;omega
  ·rw[if_neg c,Iy];refine Jk ih ?_;refine sub_len (Jg.filter _) fun y hy=>?_
   obtain⟨h1,h2⟩:=Ie.mp hy;obtain⟨m,m1,m2⟩:=of_decide_eq_true h2;exact Ie.mpr ⟨h1,decide_eq_true ⟨m,by omega,m2⟩⟩
theorem zW (T:Two N a b){i:Nat}(h:i<=N):2*((LL a b i).map (lack N a b)).sum<=N:=by
 have h1:=uF T i h;have h2:=IP (fun y=>decide (∃ m,m<i/\ao a b m y)) (Ig N);rw[Ij] at h2;omega
end
end Th

namespace Th
open Classical
noncomputable def ord (x y:Nat):Nat×Nat:=(min x y,max x y)
theorem iU {x y u v:Nat}(h:ord x y=ord u v):(x=u/\y=v)\/(x=v/\y=u):=by
 unfold ord at h;injection h with h1 h2;omega
theorem rH (x y:Nat):(ord x y).1<=(ord x y).2:=by unfold ord;simp only;omega
theorem dq {p q:Nat}(h:p<=q):ord p q=(p,q):=by unfold ord;rw[Kv h,Jq h]
theorem gP (x y:Nat):ord x y=ord y x:=by unfold ord;rw[Nat.min_comm,Nat.max_comm]
noncomputable def gr (L:List Nat)(i:Nat):List (Nat×Nat):=(Ig i).flatMap fun m=>(ev2 (L.drop (m+1))).map (ord (L.getD m 0))
noncomputable def eg (L:List Nat):List (Nat×Nat):=gr L L.length
noncomputable def bj (ths:List (Kd×List Nat))(k:Kd):List Nat:=(ths.filter fun th=>th.1=k).flatMap (·.2)
noncomputable def dN (B S:List Nat):List (Nat×Nat):=B.flatMap fun e=>S.map (ord e)
noncomputable def a9 (ths:List (Kd×List Nat)):List (Nat×Nat):=dN (bj ths .bare) (bj ths .tied)++ths.flatMap (fun th=>eg th.2)++(bj ths .tied).map fun e=>(e,e)
theorem g7 {α β:Type}(f:α->List β)(c:Nat):∀ l:List α,(∀ x∈l,(f x).length<=c)->(l.flatMap f).length<=l.length*c
 | [],_=>IT _
 | x::r,h=>by
  rw[Kz,HY,ID,Nat.add_mul,MU];have h1:=h x Iq;have h2:=g7 f c r fun y hy=>h y (Im _ hy)
  omega
theorem uG (L:List Nat)(i:Nat):(gr L i).length<=i*L.length:=by
 unfold gr;have z:=g7 (fun m=>(ev2 (L.drop (m+1))).map (ord (L.getD m 0))) L.length (Ig i) fun m _=>by
  rw[HQ,jN,J0];omega
 rwa[Ij] at z
theorem yx (B S:List Nat):(dN B S).length<=B.length*S.length:=g7 _ _ _ fun x _=>by rw[HQ];exact HV _
theorem vW {B S:List Nat}{x:Nat}:dN (B++[x]) S=dN B S++S.map (ord x):=by
 unfold dN;rw[Kk,Kz,K2,Iy]
theorem rJ {L:List Nat}{i x:Nat}(h:L[i]?=some x):gr L (i+1)=gr L i++(ev2 (L.drop (i+1))).map (ord x):=by
 unfold gr;rw[JN,Kk];congr 1;rw[Kz,K2,Iy];have e:L.getD i 0=x:=by rw[Ji,h];rfl
 rw[e]
theorem oN {L:List Nat}{i y:Nat}:y∈ev2 (L.drop (i+1))↔∃ j,i<j/\(j-i)%2=1/\L[j]?=some y:=by
 rw[Jx];constructor
 ·rintro⟨k,hk⟩;rw[lr,JO] at hk;exact⟨i+1+2*k,by omega,by omega,hk⟩
 ·rintro⟨j,h1,h2,h3⟩;refine⟨(j-i-1)/2,?_⟩;rw[lr,JO,show i+1+2*((j-i-1)/2)=j by omega];exact h3
theorem c7 {L:List Nat}{c:Nat×Nat}:c∈eg L↔∃ i j x y,i<j/\(j-i)%2=1/\L[i]?=some x/\L[j]?=some y/\c=ord x y:=by
 unfold eg gr;rw[JQ];constructor
 ·rintro⟨i,hi,hc⟩;obtain⟨y,hy,rfl⟩:=HW.mp hc;obtain⟨j,h1,h2,h3⟩:=oN.mp hy;have hi:=Ii.mp hi;exact⟨i,j,L.getD i 0,y,h1,h2,by rw[Ji,HP hi];rfl,h3,rfl⟩
 ·rintro⟨i,j,x,y,h1,h2,h3,h4,rfl⟩;have hi:=(HR.mp h3).1;refine⟨i,Ii.mpr hi,HW.mpr ⟨y,oN.mpr ⟨j,h1,h2,h4⟩,?_⟩⟩;rw[Ji,h3];rfl
theorem bW {ths:List (Kd×List Nat)}{k:Kd}{x:Nat}:x∈bj ths k↔∃ th∈ths,th.1=k/\x∈th.2:=by
 unfold bj;rw[JQ];constructor
 ·rintro⟨th,h1,h2⟩;obtain⟨h3,h4⟩:=Ie.mp h1;exact⟨th,h3,of_decide_eq_true h4,h2⟩
 ·rintro⟨th,h1,h2,h3⟩;exact⟨th,Ie.mpr ⟨h1,decide_eq_true h2⟩,h3⟩
theorem mr {B S:List Nat}{c:Nat×Nat}:c∈dN B S↔∃ x∈B,∃ y∈S,c=ord x y:=by
 unfold dN;rw[JQ];constructor
 ·rintro⟨x,h1,h2⟩;obtain⟨y,h3,rfl⟩:=HW.mp h2;exact⟨x,h1,y,h3,rfl⟩
 ·rintro⟨x,h1,y,h3,rfl⟩;exact⟨x,h1,HW.mpr ⟨y,h3,rfl⟩⟩
theorem dC {ths:List (Kd×List Nat)}{c:Nat×Nat}:c∈a9 ths↔(∃ x∈bj ths .bare,∃ y∈bj ths .tied,c=ord x y)\/(∃ th∈ths,c∈eg th.2)\/∃ x∈bj ths .tied,c=(x,x):=by
 unfold a9;rw[Ic,Ic,mr,JQ,HW];constructor
 ·rintro((h | h) | ⟨x,h1,h2⟩)
  ·exact .inl h
  ·exact .inr (.inl h)
  ·exact .inr (.inr ⟨x,h1,h2.symm⟩)
 ·rintro(h | h | ⟨x,h1,h2⟩)
  ·exact .inl (.inl h)
  ·exact .inl (.inr h)
  ·exact .inr ⟨x,h1,h2.symm⟩
section
variable {N:Nat}{a b:Nat->Nat}{ths:List (Kd×List Nat)}
structure eY (N:Nat) (a b:Nat->Nat) (ths:List (Kd×List Nat)):Prop where
 T:Two N a b
 hp:ths.Perm (unL N a b)
 hs:ths.Pairwise fun p q=>mn p.2<mn q.2
theorem eY.good (A:eY N a b ths){th:Kd×List Nat}(h:th∈ths):dU N a b th.1 th.2:=rF A.T (A.hp.mem_iff.mp h)
theorem eY.comp (A:eY N a b ths){th:Kd×List Nat}(h:th∈ths):∃ u,u<N/\bG a b u th.2:=jG A.T (A.hp.mem_iff.mp h)
theorem eY.mem (A:eY N a b ths){p:Nat}(hp:p<N):∃ th∈ths,p∈th.2:=by
 have z:=(xt A.T A.hp).mem_iff.mpr (Ii.mpr hp);obtain⟨L,h1,h2⟩:=KC.mp z;obtain⟨th,h3,rfl⟩:=HW.mp h1;exact⟨th,h3,h2⟩
theorem eY.conn (A:eY N a b ths){s t:Kd×List Nat}(hs:s∈ths)(ht:t∈ths){p q:Nat}(h1:p∈s.2)(h2:q∈t.2)(c:ao a b p q):s=t:=by
 obtain⟨u,ul,C⟩:=A.comp hs;obtain⟨v,vl,D⟩:=A.comp ht;have cp:=(C.mem p).mp h1;have cq:=(D.mem q).mp h2;have e:mn s.2=mn t.2:=by
  obtain⟨m1,m2⟩:=fg C;obtain⟨m3,m4⟩:=fg D;have x1:=m2 _ (cp.trans (c.trans ((cq.symm A.T vl).trans m3)));have x2:=m4 _ (cq.trans ((c.symm A.T (cp.lt A.T ul)).trans ((cp.symm A.T ul).trans m1)));omega
 obtain⟨i,hi,rfl⟩:=Jz hs;obtain⟨j,hj,rfl⟩:=Jz ht;have pw:=Ja.mp A.hs;rcases Mo i j with h | h | h
 ·have:=pw i j hi hj h;omega
 ·subst h;rfl
 ·have:=pw j i hj hi h;omega
theorem eY.same (A:eY N a b ths){s t:Kd×List Nat}(hs:s∈ths)(ht:t∈ths){p:Nat}(h1:p∈s.2)(h2:p∈t.2):s=t:=A.conn hs ht h1 h2 (ao.refl p)
theorem eY.lt (A:eY N a b ths){s:Kd×List Nat}(hs:s∈ths){p:Nat}(h1:p∈s.2):p<N:=(A.good hs).lt p h1
theorem eY.apart (A:eY N a b ths)(f:Kd×List Nat->Bool):(ths.filter f).Pairwise fun s t=>∀ x∈s.2,∀ y∈t.2,x≠y:=by
 refine List.Pairwise.imp_of_mem (fun {s t} hs ht h x hx y hy e=>?_) (A.hs.filter f);have:=A.same (Ie.mp hs).1 (Ie.mp ht).1 hx (e ▸ hy);subst this;omega
theorem eY.nG (A:eY N a b ths)(k:Kd):(bj ths k).Nodup:=by
 unfold bj;rw[Iu,JX];exact⟨fun th hth=>Iu.mp (A.good (Ie.mp hth).1).nd,A.apart _⟩
theorem eY.Dl (A:eY N a b ths){x y:Nat}(hx:x∈bj ths .bare)(hy:y∈bj ths .tied):x≠y:=fun e=>by
 obtain⟨th,t1,t2,t3⟩:=bW.mp hx;obtain⟨th',t1',t2',t3'⟩:=bW.mp hy;have:=A.same t1 t1' t3 (e ▸ t3');subst this;rw[t2] at t2';cases t2'
theorem zX {L:List Nat}(nd:L.Nodup):(eg L).Nodup:=by
 have one:∀ {i j x:Nat},L[i]?=some x->L[j]?=some x->i=j:=fun {i j x} h1 h2=>by
  obtain⟨l1,e1⟩:=HR.mp h1;obtain⟨l2,e2⟩:=HR.mp h2;exact(LB nd).mp (e1.trans e2.symm)
 have gd:∀ {m:Nat},m<L.length->L[m]?=some (L.getD m 0):=fun {m} h=>by rw[Ji,HP h];rfl
 unfold eg gr;rw[Iu,JX];constructor
 ·intro m hm;have hm:=Ii.mp hm;rw[IJ];have ne:(ev2 (L.drop (m+1))).Nodup:=by
   rw[Iu];refine Ja.mpr fun i j hi hj hij e=>?_
   have g1:(ev2 (L.drop (m+1)))[i]?=some (ev2 (L.drop (m+1)))[i]:=HP hi;have g2:(ev2 (L.drop (m+1)))[j]?=some (ev2 (L.drop (m+1)))[j]:=HP hj;rw[lr,JO] at g1 g2;rw[e] at g1;have:=one g1 g2;omega
  refine List.Pairwise.imp_of_mem (fun {x y} hx hy h e=>?_) (Iu.mp ne);obtain⟨j,j1,_,j3⟩:=oN.mp hx;rcases iU e with ⟨_,z⟩ | ⟨z1,z2⟩
  ·exact h z
  ·rw[z2] at j3;have:=one j3 (gd hm);omega
 ·refine List.Pairwise.imp_of_mem (fun {m n} hm hn h c hc d hd e=>?_) (J6 (n:=L.length));have hm:=Ii.mp hm;have hn:=Ii.mp hn;obtain⟨x,hx,rfl⟩:=HW.mp hc;obtain⟨y,hy,rfl⟩:=HW.mp hd;obtain⟨i,i1,_,i3⟩:=oN.mp hx;obtain⟨j,j1,_,j3⟩:=oN.mp hy;rcases iU e with ⟨z,_⟩ | ⟨z1,z2⟩
  ·have g:=gd hm;rw[z] at g;have:=one g (gd hn);omega
  ·have g:=gd hm;rw[z1] at g;have:=one g j3;omega
theorem eY.nodup (A:eY N a b ths):(a9 ths).Nodup:=by
 unfold a9;refine Jj.mpr ⟨Jj.mpr ⟨?_,?_,?_⟩,?_,?_⟩
 ·unfold dN;rw[Iu,JX];constructor
  ·intro x hx;rw[IJ];refine List.Pairwise.imp_of_mem (fun {y z} hy hz h e=>?_) (Iu.mp (A.nG .tied));rcases iU e with ⟨_,w⟩ | ⟨w,_⟩
   ·exact h w
   ·exact A.Dl hx hz w
  ·refine List.Pairwise.imp_of_mem (fun {x y} hx hy h c hc d hd e=>?_) (Iu.mp (A.nG .bare));obtain⟨u,hu,rfl⟩:=HW.mp hc;obtain⟨v,hv,rfl⟩:=HW.mp hd;rcases iU e with ⟨w,_⟩ | ⟨w,_⟩
   ·exact h w
   ·exact A.Dl hx hv w
 ·rw[Iu,JX];refine⟨fun th hth=>Iu.mp (zX (A.good hth).nd),?_⟩;refine List.Pairwise.imp_of_mem (fun {s t} hs ht h c hc d hd e=>?_) A.hs;obtain⟨i,j,x,y,_,_,g3,g4,rfl⟩:=c7.mp hc;obtain⟨i',j',x',y',_,_,g3',g4',rfl⟩:=c7.mp hd;have m1:=Ib g3;have eq:s=t:=by
   rcases iU e with ⟨w,_⟩ | ⟨w,_⟩
   ·exact A.same hs ht m1 (w ▸ Ib g3')
   ·exact A.same hs ht m1 (w ▸ Ib g4')
  subst eq;omega
 ·intro c hc d hd e;subst e;obtain⟨x,hx,y,hy,h⟩:=mr.mp hc;obtain⟨th,hth,hs⟩:=JQ.mp hd;obtain⟨i,j,u,v,_,_,g3,g4,rfl⟩:=c7.mp hs;obtain⟨t1,a1,a2,a3⟩:=bW.mp hx;obtain⟨t2,b1,b2,b3⟩:=bW.mp hy;have mu:=Ib g3;have mv:=Ib g4;have w:t1=th/\t2=th:=by
   rcases iU h with ⟨w1,w2⟩ | ⟨w1,w2⟩
   ·exact⟨A.same a1 hth a3 (w1 ▸ mu),A.same b1 hth b3 (w2 ▸ mv)⟩
   ·exact⟨A.same a1 hth a3 (w2 ▸ mv),A.same b1 hth b3 (w1 ▸ mu)⟩
  rw[w.1] at a2;rw[w.2,a2] at b2;cases b2
 ·rw[Iu,IJ];exact(Iu.mp (A.nG .tied)).imp fun h e=>h (congrArg Prod.fst e)
 ·intro c hc d hd e;subst e;obtain⟨z,hz,rfl⟩:=HW.mp hd;rcases Ic.mp hc with hc | hc
  ·obtain⟨x,hx,y,hy,h⟩:=mr.mp hc;have ho:=dq (HV z);rw[<- ho] at h;refine A.Dl hx hy ?_;rcases iU h with ⟨w1,w2⟩ | ⟨w1,w2⟩ <;> omega
  ·obtain⟨th,hth,hs⟩:=JQ.mp hc;obtain⟨i,j,u,v,h1,_,g3,g4,h⟩:=c7.mp hs;have ho:=dq (HV z);rw[<- ho] at h;have euv:u=v:=by rcases iU h with ⟨w1,w2⟩ | ⟨w1,w2⟩ <;> omega
   rw[euv] at g3;have:=(A.good hth).one g3 g4;omega
theorem eY.bound (A:eY N a b ths){c:Nat×Nat}(h:c∈a9 ths):c.1<=c.2/\c.2<N:=by
 have bo:∀ {x y:Nat},x<N->y<N->(ord x y).1<=(ord x y).2/\(ord x y).2<N:=fun {x y} hx hy=>⟨rH x y,by unfold ord;simp only;omega⟩
 rcases dC.mp h with ⟨x,hx,y,hy,rfl⟩ | ⟨th,hth,h⟩ | ⟨x,hx,rfl⟩
 ·obtain⟨t1,a1,a2,a3⟩:=bW.mp hx;obtain⟨t2,b1,b2,b3⟩:=bW.mp hy;exact bo (A.lt a1 a3) (A.lt b1 b3)
 ·obtain⟨i,j,u,v,_,_,g3,g4,rfl⟩:=c7.mp h;exact bo (A.lt hth (Ib g3)) (A.lt hth (Ib g4))
 ·obtain⟨t2,b1,b2,b3⟩:=bW.mp hx;exact⟨HV _,A.lt b1 b3⟩
end
end Th

namespace Mir
open PySem L2
variable (K:HS)
theorem fY.flat {n:Nat}{ms os:List Nat}{ths:List (Th.Kd×List Nat)}(W:ak n ms)(WO:ak n os)(h:fY n ms os ths):(ths.map (·.2)).flatten.Perm (Ig (2*n)):=Th.xt (aW W WO) h.1
theorem fY.good {n:Nat}{ms os:List Nat}{ths:List (Th.Kd×List Nat)}(W:ak n ms)(WO:ak n os)(h:fY n ms os ths){th:Th.Kd×List Nat}(ht:th∈ths):Th.dU (2*n) (at0 ms) (at0 os) th.1 th.2:=Th.rF (aW W WO) (h.1.mem_iff.mp ht)
theorem ThT.at {H:Hp}{l:Addr}{ths:List (Th.Kd×List Nat)}(h:ThT H l ths):∃ ts:List Addr,H l=some (.lst (ts.map V.ref))/\ts.length=ths.length/\∀ (i:Nat) (th:Th.Kd×List Nat),ths[i]?=some th->∃ t e:Addr,ts[i]?=some t/\H t=some (.tup [.str (ks th.1),.ref e])/\H e=some (.tup (nV th.2)):=by
 obtain⟨xs,⟨ts,h1,h2,h3⟩,h4,rfl⟩:=h;refine⟨ts,h1,by rw[HQ];exact h2,fun i th hi=>?_⟩;rw[HX] at hi;cases hx:xs[i]? with
 | none=>rw[hx] at hi;cases hi
 | some x =>
  rw[hx] at hi;obtain rfl:=Option.some.inj hi;have hl:i<ts.length:=by rw[h2];exact(HR.mp hx).1
  exact⟨ts[i],x.2.1,HP hl,h3 i _ x (HP hl) hx,h4 x (Ib hx)⟩
end Mir

set_option maxHeartbeats 1000000
namespace PySem.SeqAt
open AutoSeq1 (wpAny_loadPart')
open MeetsSeq MeetsSeq2 MeetsSeq3 SeqRoads2
theorem yy (l m:Addr)(a b c d:Int)(t1 t2 t3 t4:Tok)(n n2:Nat)(dd dd2:Option Addr)(sl sl2:Array (Option Value)) :
  Meets (Builtin.«tuple.__lt__» ⟨[.ref l,.ref m],[]⟩)
   (fun A R s=>s.heap.get? l=some { cls:=.type "tuple",dict:=dd,data:=.seq #[.int a t1,.int b t2] n,slots:=sl }/\s.heap.get? m=some { cls:=.type "tuple",dict:=dd2,data:=.seq #[.int c t3,.int d t4] n2,slots:=sl2 } /\
    R (.ok (.ret (.bool (decide (a<c\/a=c/\b<d))))) s) :=
 .of_wp fun prog w A R s h=>by
  obtain⟨hp,g,dr,tk,os⟩:=s;obtain⟨hl,hb,h⟩:=h;have f2:=AutoSeq1.sub_tuple_tuple;have rc:∀ (x y:Int) (u v:Tok) (Q':Value->Shared->Prop) (E':Value->Shared->Prop) (s':Shared),Q' (.bool (decide (x<y))) s'->wpAny (model prog w) A.in1 (richCompare .Lt (.int x u) (.int y v)) Q' E' s':=fun x y u v Q' E' s' q=>wpAny_lt_int q
  by_cases e1:a=c
  ·have g1:(a == c)=true:=beq_iff_eq.mpr e1;by_cases e2:b=d
   ·have g2:(b == d)=true:=beq_iff_eq.mpr e2;have g3:decide (a<c\/a=c/\b<d)=false:=decide_eq_false (by omega);rw[g3] at h
    wp_walk using wpAny_loadPart' hl,wpAny_loadPart' hb,wpAny_eqBool_int
    exact⟨_,rfl,h⟩
   ·have g2:(b == d)=false:=beq_eq_false_iff_ne.mpr e2;have g3:decide (a<c\/a=c/\b<d)=decide (b<d):=decide_eq_decide.mpr (by omega);rw[g3] at h
    wp_walk using wpAny_loadPart' hl,wpAny_loadPart' hb,wpAny_eqBool_int,rc
    exact⟨_,rfl,h⟩
  ·have g1:(a == c)=false:=beq_eq_false_iff_ne.mpr e1;have g3:decide (a<c\/a=c/\b<d)=decide (a<c):=decide_eq_decide.mpr (by omega);rw[g3] at h
   wp_walk using wpAny_loadPart' hl,wpAny_loadPart' hb,wpAny_eqBool_int,rc
   exact⟨_,rfl,h⟩
theorem Dm {prog:Program}{w:World}{A:Around}{s:Shared}{E:Value->Shared->Prop}{Q:Value->Shared->Prop}{l m:Addr}{a b c d:Int}{t1 t2 t3 t4:Tok}(hl:s.heap.IsTuple l #[.int a t1,.int b t2])(hb:s.heap.IsTuple m #[.int c t3,.int d t4])(hu:A.units<cLine)
  (h:Q (.bool (decide (a<c\/a=c/\b<d))) s):wpAny (model prog w) A (richCompare .Lt (.ref l) (.ref m)) Q E s:=by
 obtain⟨⟨cl,d1,da,sl⟩,ho,rfl,n,rfl⟩:=id hl;obtain⟨⟨cl2,d2,da2,sl2⟩,ho2,rfl,n2,rfl⟩:=id hb;exact richCompare_meets_room (op:=.Lt) ⟨_,ho,rfl⟩ ⟨_,ho2,rfl⟩ F.slot_tuple_lt F.entry_tuple_lt (F.args_tuple_lt_2 _ _) (yy l m a b c d t1 t2 t3 t4 n n2 d1 d2 sl sl2)
  ⟨ho,ho2,show Value.bool (decide (a<c\/a=c/\b<d))≠Value.notImplemented/\Q (.bool (decide (a<c\/a=c/\b<d))) s from ⟨(fun x=>nomatch x),h⟩⟩ hu
end PySem.SeqAt

set_option maxHeartbeats 1000000
namespace PySem
section
variable {prog:Program}{w:World}{A:Around}{E:Value->Shared->Prop}{s:Shared}
theorem yz {I L:Addr}{fp wr:List Addr}{St:Nat->Heap->Prop}{x y:Value}{r:Bool}{R:Result->Shared->Prop}{z:Shared}{c:Nat}(W:Walks prog w A.in1 I fp wr 2 (fun i v=>(#[x,y]:Array Value)[i]?=some v) St)(nL:L ∉ fp)(st:St 0 z.heap)
  (hL:z.heap.get? L=some { cls:=.type "list",dict:=none,data:=.seq #[] c,slots:=#[] })
  (Dp:∀ (h':Heap) (tk:Nat) (E':Value->Shared->Prop) (Q':Value->Shared->Prop),(∀ q o,q ∉ wr->q≠L->z.heap.get? q=some o->h'.get? q=some o)->Q' (.bool r) { z with heap:=h',toks:=tk }->wpAny (model prog w) A.in1 (richCompare .Lt y x) Q' E' { z with heap:=h',toks:=tk })
  (hR:∀ h' tk,(∀ q o,q ∉ wr->q≠L->z.heap.get? q=some o->h'.get? q=some o)->R (.ok (.ret (if r=true then y else x))) { z with heap:=h',toks:=tk }) :
  codeAny (model prog w) A (.builtin "min.loop" ⟨[.ref I,.none,.ref L],[]⟩) R z:=by
 have nm:(toString "min" ++ toString ".loop":String) = "min.loop":=by decide
 have nw:L ∉ wr:=fun q=>nL (W.sub _ q)
 have fin:∀ (v:Value) (h1:Heap) (k1 c1:Nat),St 2 h1->h1.get? L=some { cls:=.type "list",dict:=none,data:=.seq #[v,v] c1,slots:=#[] }->(∀ q o,q ∉ wr->q≠L->z.heap.get? q=some o->h1.get? q=some o)->v=(if r=true then y else x) ->
   codeAny (model prog w) A (.builtin "min.loop" ⟨[.ref I,.none,.ref L],[]⟩) R { z with heap:=h1,toks:=k1 }:=fun v h1 k1 c1 s1 l1 kp ev=>by
  refine codeAny_builtin F.entry_min_loop ?_;rw[Around.under_plainId F.plain_min_loop _];show wpAny _ A.in1 (seqItems? (.ref L) >>= _) _ _ { z with heap:=h1,toks:=k1 };refine wpAny_bind (wpAny_seqItems l1 rfl ?_);show wpAny _ A.in1 (tryCatch (pyNext (.ref I)) _ >>= _) _ _ { z with heap:=h1,toks:=k1 };refine wpAny_bind (wpAny_tryCatch (W.done _ _ _ s1 fun h2 k2 kq=>?_));have l2:=kq L _ nw l1;show wpAny _ A.in1 (updateSeq L (fun _=>#[]) >>= _) _ _ _;refine wpAny_bind (wpAny_updateSeq l2 rfl (wpAny_bind (wpAny_letGo (wpAny_pure ?_))));rw[ev];exact hR _ k2 fun q o q1 q2 e=>(Jw _ _ (Ne.symm q2)).trans (kq q o q1 (kp q o q1 q2 e))
 refine codeAny_builtin F.entry_min_loop ?_;rw[Around.under_plainId F.plain_min_loop _];show wpAny _ A.in1 (seqItems? (.ref L) >>= _) _ _ z;refine wpAny_bind (wpAny_seqItems hL rfl ?_);show wpAny _ A.in1 (tryCatch (pyNext (.ref I)) _ >>= _) _ _ z;refine wpAny_bind (wpAny_tryCatch (W.item 0 z _ _ (by decide) st fun v h1 k1 pv s1 kq=>?_));obtain rfl:v=x:=(Option.some.inj pv).symm;have l1:=kq L _ nw hL;show wpAny _ A.in1 (updateSeq L (fun _=>#[v,v]) >>= _) _ _ _;refine wpAny_bind (wpAny_updateSeq l1 rfl ?_);rw[nm];refine wpAny_pure ⟨plainId_quiet F.plain_min_loop _,codeAny_builtin F.entry_min_loop ?_⟩;rw[Around.under_plainId F.plain_min_loop _];obtain⟨c2,l2⟩:∃ c2,(h1.update L (Obj.mapSeq fun _=>#[v,v])).get? L=some { cls:=.type "list",dict:=none,data:=.seq #[v,v] c2,slots:=#[] }:=⟨_,K9 l1 fun _=>#[v,v]⟩
 have s2:St 1 _:=W.frame 1 h1 (h1.update L (Obj.mapSeq fun _=>#[v,v])) s1 fun q hq o e=>(Jw _ _ (fun u:L=q=>nL (by rw[u];exact hq))).trans e
 have kp2:∀ q o,q ∉ wr->q≠L->z.heap.get? q=some o->(h1.update L (Obj.mapSeq fun _=>#[v,v])).get? q=some o:=fun q o q1 q2 e=>(Jw _ _ (Ne.symm q2)).trans (kq q o q1 e)
 show wpAny (model prog w) A.in1 _ _ _ { z with heap:=h1.update L (Obj.mapSeq fun _=>#[v,v]),toks:=k1 };generalize h1.update L (Obj.mapSeq fun _=>#[v,v])=h2 at l2 s2 kp2;show wpAny _ A.in1 (seqItems? (.ref L) >>= _) _ _ { z with heap:=h2,toks:=k1 };refine wpAny_bind (wpAny_seqItems l2 rfl ?_);show wpAny _ A.in1 (tryCatch (pyNext (.ref I)) _ >>= _) _ _ { z with heap:=h2,toks:=k1 };refine wpAny_bind (wpAny_tryCatch (W.item 1 _ _ _ (by decide) s2 fun u h3 k3 pu s3 kr=>?_));obtain rfl:u=y:=(Option.some.inj pu).symm;have l3:=kr L _ nw l2;have kp3:∀ q o,q ∉ wr->q≠L->z.heap.get? q=some o->h3.get? q=some o:=fun q o q1 q2 e=>kr q o q1 (kp2 q o q1 q2 e)
 show wpAny _ A.in1 (tryCatch (holding [u,u] (richCompare .Lt u v >>= _)) _ >>= _) _ _ { z with heap:=h3,toks:=k3 };refine wpAny_bind (wpAny_tryCatch (wpAny_holding (wpAny_bind (Dp h3 k3 _ _ kp3 ?_))));refine wpAny_bind (wpAny_holding (wpAny_truthy_bool (wpAny_bind (wpAny_letGo (wpAny_pure ?_)))));cases r with
 | true =>
  simp only[if_true];refine wpAny_bind (wpAny_updateSeq l3 rfl (wpAny_bind (wpAny_letGo ?_)));rw[nm];obtain⟨c4,l4⟩:∃ c4,(h3.update L (Obj.mapSeq fun _=>#[u,u])).get? L=some { cls:=.type "list",dict:=none,data:=.seq #[u,u] c4,slots:=#[] }:=⟨_,K9 l3 fun _=>#[u,u]⟩
  refine wpAny_pure ⟨plainId_quiet F.plain_min_loop _,fin u _ k3 c4 (W.frame 2 h3 _ s3 fun q hq o e=>(Jw _ _ (fun g:L=q=>nL (by rw[g];exact hq))).trans e) l4 (fun q o q1 q2 e=>(Jw _ _ (Ne.symm q2)).trans (kp3 q o q1 q2 e)) rfl⟩
 | false =>
  simp only[Jl,if_false];refine wpAny_bind (wpAny_letGo ?_);rw[nm];exact wpAny_pure ⟨plainId_quiet F.plain_min_loop _,fin v h3 k3 c2 s3 l3 kp3 rfl⟩
theorem vX {a b:Value}{r:Bool}{Q:Value->Shared->Prop}(hh:A.handled=none)
  (Dp:∀ (h':Heap) (tk:Nat) (E':Value->Shared->Prop) (Q':Value->Shared->Prop),(∀ c o,s.heap.get? c=some o->h'.get? c=some o)->Q' (.bool r) { s with heap:=h',toks:=tk }->wpAny (model prog w) A.in1 (richCompare .Lt b a) Q' E' { s with heap:=h',toks:=tk })
  (h:∀ h' tk,(∀ c o,s.heap.get? c=some o->h'.get? c=some o)->Q (if r=true then b else a) { s with heap:=h',toks:=tk }) :
  wpAny (model prog w) A (call (.builtin "min") [a,b]) Q E s:=by
 have nm:(toString "min" ++ toString ".loop":String) = "min.loop":=by decide
 have hT:(s.heap.push { cls:=.type "tuple",data:=.seq #[a,b] }).IsTuple s.heap.objs.size #[a,b]:=⟨_,Ir _ rfl,rfl,0,rfl⟩
 have z1:(s.heap.push { cls:=.type "tuple",data:=.seq #[a,b] }).objs.size=s.heap.objs.size+1:=Kc ..;refine call_function_tree F.kind_min F.plain_min F.entry_min (F.args_min2 _ _) ?_;refine wpAny_bind (m:=Builtin.Builtins.bindParams "min" ["key","default"] 0 ⟨[],[]⟩) (wpAny_of_eq (show Builtin.Builtins.bindParams "min" ["key","default"] 0 ⟨[],[]⟩=pure [none,none] from rfl) (wpAny_bind (m:=newTuple [a,b]) (wpAny_newObj_type (wpAny_bind (wpAny_pyIter_tuple hT ?_)))));have W:=Walks.tuple (prog:=prog) (w:=w) (A:=A.in1) hh (s.heap.objs.size+1) s.heap.objs.size (IB (Kl _)) #[a,b];show wpAny (model prog w) A.in1 _ _ _ { s with heap:=(s.heap.push { cls:=.type "tuple",data:=.seq #[a,b] }).push { cls:=.type "tuple_iterator",data:=.fields #[.ref s.heap.objs.size,.int 0 0] } };rw[z1];refine wpAny_bind (wpAny_newObj_type ?_);rw[nm];have z2:((s.heap.push { cls:=.type "tuple",data:=.seq #[a,b] }).push { cls:=.type "tuple_iterator",data:=.fields #[.ref s.heap.objs.size,.int 0 0] }).objs.size=s.heap.objs.size+2:=by rw[Kc,z1]
 have g1:((s.heap.push { cls:=.type "tuple",data:=.seq #[a,b] }).push { cls:=.type "tuple_iterator",data:=.fields #[.ref s.heap.objs.size,.int 0 0] }).get? (s.heap.objs.size+1)=some { cls:=.type "tuple_iterator",data:=.fields #[.ref s.heap.objs.size,.int 0 0] }:=z1 ▸ Ir _ rfl;have up:∀ q o,s.heap.get? q=some o->(((s.heap.push { cls:=.type "tuple",data:=.seq #[a,b] }).push { cls:=.type "tuple_iterator",data:=.fields #[.ref s.heap.objs.size,.int 0 0] }).push { cls:=.type "list",data:=.seq #[] }).get? q=some o/\q ∉ [s.heap.objs.size+1]/\q≠s.heap.objs.size+2:=fun q o e=>by
  have lt:q<s.heap.objs.size:=Il e;refine⟨HU _ (HU _ (HU _ e)),fun y=>?_,IB (JB (JB lt))⟩;exact absurd (Ih.mp y) (IB (JB lt))
 refine wpAny_pure ⟨plainId_quiet F.plain_min_loop _,?_⟩;show codeAny (model prog w) A (.builtin "min.loop" ⟨[.ref (s.heap.objs.size+1),.none,.ref ((s.heap.push { cls:=.type "tuple",data:=.seq #[a,b] }).push { cls:=.type "tuple_iterator",data:=.fields #[.ref s.heap.objs.size,.int 0 0] }).objs.size],[]⟩) _ { s with heap:=(((s.heap.push { cls:=.type "tuple",data:=.seq #[a,b] }).push { cls:=.type "tuple_iterator",data:=.fields #[.ref s.heap.objs.size,.int 0 0] }).push { cls:=.type "list",data:=.seq #[] }) };rw[z2];refine yz (r:=r) W (fun y=>?_) ⟨⟨_,HU _ g1,rfl,rfl⟩,(hT.push _).push _⟩ (c:=0) (z2 ▸ Ir _ rfl) (fun h' tk E' Q' kp q=>?_) fun h' tk kp=>?_
 ·rcases IA.mp y with y | y
  ·exact absurd y (J9 (Kl _))
  ·exact absurd (Ih.mp y) (J9 (JB (Kl _)))
 ·exact Dp h' tk E' Q' (fun q o e=>kp q o (up q o e).2.1 (up q o e).2.2 (up q o e).1) q
 ·exact h h' tk fun q o e=>kp q o (up q o e).2.1 (up q o e).2.2 (up q o e).1
end
end PySem
namespace L2
open PySem PySem.Spec PyProof.Rows
section
variable {X:Cx}
theorem vY (hc:X.calm=true)(hu:X.A.units+1<cLine):eI X (.builtin "min") (fun xs H Q=>∃ (p q:Addr) (a b c d:Int),xs=[.ref p,.ref q]/\SqT X.K H p [.int a,.int b]/\SqT X.K H q [.int c,.int d]/\Q (.ref (if c<a\/c=a/\d<b then q else p)) H):=by
 intro pins s σ H xs us Q I r h;obtain⟨p,q,a,b,c,d,rfl,hp,hq,k⟩:=h;obtain⟨u,w',rfl,ru,rw'⟩:=vals2 r;cases ru;cases rw';obtain⟨i1,v1,p1,_⟩:=I.tuple hp;obtain⟨i2,v2,p2,_⟩:=I.tuple hq;obtain⟨x1,x2,rfl,⟨t1,rfl⟩,⟨t2,rfl⟩⟩:=vals2 v1;obtain⟨y1,y2,rfl,⟨t3,rfl⟩,⟨t4,rfl⟩⟩:=vals2 v2;have g1:s.heap.IsTuple p #[.int a t1,.int b t2]:=p1;have g2:s.heap.IsTuple q #[.int c t3,.int d t4]:=p2;refine vX (r:=decide (c<a\/c=a/\d<b)) (I.ok.hd hc) (fun h' tk E' Q' kp y=>?_) fun h' tk kp=>?_
 ·exact SeqAt.Dm (s:={ s with heap:=h',toks:=tk }) (g2.at fun o e=>kp _ _ e) (g1.at fun o e=>kp _ _ e) (by show X.A.in1.units<cLine;exact hu) y
 ·refine⟨.ref (if c<a\/c=a/\d<b then q else p),H,I.kept kp,?_,k⟩;by_cases e:c<a\/c=a/\d<b
  ·rw[if_pos e,if_pos (decide_eq_true e)];rfl
  ·rw[if_neg e,if_neg (by rw[decide_eq_false e];decide)];rfl
theorem EU {its:List Value}{x y:Int}(r:Vals [.int x,.int y] its):∃ t u,its=[.int x t,.int y u]:=by
 obtain⟨a,b,rfl,⟨t,rfl⟩,⟨u,rfl⟩⟩:=vals2 r;exact⟨t,u,rfl⟩
theorem vZ (hc:X.calm=true):eI X (.builtin "min") (fun xs H Q=>∃ (p:Addr) (x y:Int),xs=[.ref p]/\SqL X.K H p [.int x,.int y]/\Q (.int (min x y)) H):=by
 intro pins s σ H xs us Q I r h;obtain⟨p,x,y,rfl,hq,q⟩:=h;obtain⟨u,rfl,ru⟩:=r.one;cases ru;obtain⟨its,rv,pl,hz⟩:=I.list hq;obtain⟨t1,t2,rfl⟩:=EU rv;have hl:=pl.isList;have hlt:p<s.heap.objs.size:=let ⟨_,e,_⟩:=hl;Il e
 refine call_min_walk (wpAny_pyIter_list hl ?_);refine⟨_,_,_,_,_,_,_,rfl,Walks.list (A:=X.A.in1) (I.ok.hd hc) s.heap.objs.size p (IB hlt) #[.int x t1,.int y t2],⟨⟨_,Ir _ rfl,rfl,rfl⟩,hl.push _⟩,fun b hb=>?_,(by show 0<2;decide),
  CmpOf.ints_lt (fun i=>if i=0 then x else y) (fun i v hv=>?_),fun v h' tk hP hk=>?_⟩
 ·rw[Kc];rcases IA.mp hb with e | e
  ·rw[e];exact Kl _
  ·rw[Ih.mp e];exact JB hlt
 ·match i,hv with
  | 0,hv=>exact⟨t1,(Option.some.inj hv).symm⟩
  | 1,hv=>exact⟨t2,(Option.some.inj hv).symm⟩
  | i+2,hv=>exact absurd hv (by simp)
 ·have hold:∀ c o,s.heap.get? c=some o->h'.get? c=some o:=fun c o e=>hk c o (fun z=>absurd (Ih.mp z) (IB (Il e))) (HU _ e)
  refine⟨.int (min x y),H,I.kept hold,?_,q⟩;by_cases g:y<x
  ·have e:argBest (fun i j=>decide ((if i=0 then x else y)<(if j=0 then x else y))) 1=1:=by simp[argBest,g]
   have hP:(#[.int x t1,.int y t2]:Array Value)[argBest (fun i j=>decide ((if i=0 then x else y)<(if j=0 then x else y))) 1]?=some v:=hP;rw[e] at hP;have hv:v=.int y t2:=(Option.some.inj hP).symm;exact⟨t2,by rw[hv,Int.min_eq_right (by omega)]⟩
  ·have e:argBest (fun i j=>decide ((if i=0 then x else y)<(if j=0 then x else y))) 1=0:=by simp[argBest,g]
   have hP:(#[.int x t1,.int y t2]:Array Value)[argBest (fun i j=>decide ((if i=0 then x else y)<(if j=0 then x else y))) 1]?=some v:=hP;rw[e] at hP;have hv:v=.int x t1:=(Option.some.inj hP).symm;exact⟨t1,by rw[hv,Int.min_eq_left (by omega)]⟩
theorem v9 (hc:X.calm=true):eI X (.builtin "max") (fun xs H Q=>∃ (p:Addr) (x y:Int),xs=[.ref p]/\SqL X.K H p [.int x,.int y]/\Q (.int (max x y)) H):=by
 intro pins s σ H xs us Q I r h;obtain⟨p,x,y,rfl,hq,q⟩:=h;obtain⟨u,rfl,ru⟩:=r.one;cases ru;obtain⟨its,rv,pl,hz⟩:=I.list hq;obtain⟨t1,t2,rfl⟩:=EU rv;have hl:=pl.isList;have hlt:p<s.heap.objs.size:=let ⟨_,e,_⟩:=hl;Il e
 refine call_max_walk (wpAny_pyIter_list hl ?_);refine⟨_,_,_,_,_,_,_,rfl,Walks.list (A:=X.A.in1) (I.ok.hd hc) s.heap.objs.size p (IB hlt) #[.int x t1,.int y t2],⟨⟨_,Ir _ rfl,rfl,rfl⟩,hl.push _⟩,fun b hb=>?_,(by show 0<2;decide),
  CmpOf.ints_gt (fun i=>if i=0 then x else y) (fun i v hv=>?_),fun v h' tk hP hk=>?_⟩
 ·rw[Kc];rcases IA.mp hb with e | e
  ·rw[e];exact Kl _
  ·rw[Ih.mp e];exact JB hlt
 ·match i,hv with
  | 0,hv=>exact⟨t1,(Option.some.inj hv).symm⟩
  | 1,hv=>exact⟨t2,(Option.some.inj hv).symm⟩
  | i+2,hv=>exact absurd hv (by simp)
 ·have hold:∀ c o,s.heap.get? c=some o->h'.get? c=some o:=fun c o e=>hk c o (fun z=>absurd (Ih.mp z) (IB (Il e))) (HU _ e)
  refine⟨.int (max x y),H,I.kept hold,?_,q⟩;by_cases g:y>x
  ·have e:argBest (fun i j=>decide ((if i=0 then x else y)>(if j=0 then x else y))) 1=1:=by simp[argBest,g]
   have hP:(#[.int x t1,.int y t2]:Array Value)[argBest (fun i j=>decide ((if i=0 then x else y)>(if j=0 then x else y))) 1]?=some v:=hP;rw[e] at hP;have hv:v=.int y t2:=(Option.some.inj hP).symm;exact⟨t2,by rw[hv,Int.max_eq_right (by omega)]⟩
  ·have e:argBest (fun i j=>decide ((if i=0 then x else y)>(if j=0 then x else y))) 1=0:=by simp[argBest,g]
   have hP:(#[.int x t1,.int y t2]:Array Value)[argBest (fun i j=>decide ((if i=0 then x else y)>(if j=0 then x else y))) 1]?=some v:=hP;rw[e] at hP;have hv:v=.int x t1:=(Option.some.inj hP).symm;exact⟨t1,by rw[hv,Int.max_eq_left (by omega)]⟩
end
end L2

namespace dB
open PySem PyProof.Rows PySem.W
section
variable {prog:Program}{w:World}{A:Around}{E:Value->Shared->Prop}{s:Shared}
theorem mQ [RkP]{vs:List Value}{rk:Value->Int}(hr:∀ p:Keyed,num p=rk p.1){xs:Array Keyed}(hp:xs.Perm (pairsOf vs))(hs:SortedTo xs (pairsOf vs).size):(xs.map (·.2)).toList.Perm vs/\(xs.map (·.2)).toList.Pairwise fun u v=>rk u<=rk v:=by
 have hl:=J8.mp hp;have ez:(pairsOf vs).toList=vs.zip vs:=by unfold pairsOf;simp
 have same:∀ p∈xs.toList,p.1=p.2:=fun p hpm=>by
  have z:=hl.mem_iff.mp hpm;rw[ez] at z;obtain⟨i,hi,e⟩:=Jz z;rw[List.getElem_zip] at e;rw[<- e]
 rw[Array.toList_map];constructor
 ·have z:=hl.map (·.2);rw[ez] at z;have e2:(vs.zip vs).map (·.2)=vs:=by rw[MN];exact HV _
  rw[e2] at z;exact z
 ·rw[IJ];refine Ja.mpr fun i j hi hj hij=>?_
  have hsz:xs.size=(pairsOf vs).size:=hp.size_eq;have hi':i<xs.size:=by simpa using hi
  have hj':j<xs.size:=by simpa using hj
  have z:=hs i j (by omega) (by omega);rw[bZ (getElem?_pos xs i hi'),bZ (getElem?_pos xs j hj'),hr,hr] at z;have e1:=same _ (J1 hi);have e2:=same _ (J1 hj);rw[<- e1,<- e2];simpa using z
theorem yA [RkP]{a:Addr}{vs fs:List Value}{rk:Value->Int}{T:Value}{n:Nat}{P:PySem.Fin->Shared->Prop}(hr:∀ p:Keyed,num p=rk p.1)(hkd:RkP.kd=tuples' (T != Value.type "tuple"))(hT2:(T == T)=true)(ho:s.heap.get? a=some (seqObj "list" vs.toArray n))(h2:2<=vs.length)(gX:vs.length<128)
  (hT:∀ h':Heap,(∀ b o,b≠a->s.heap.get? b=some o->h'.get? b=some o)->KatTups h' vs fs/\(∀ v∈fs,Looks (model prog w) h' (typeOf v) T)/\IKA prog w A { s with heap:=h' } (pairsOf vs))
  (h:∀ out:Array Value,out.toList.Perm vs->(out.toList.Pairwise fun u v=>rk u<=rk v)->P (.done (.ret .none)) { s with heap:=sortedHeap s.heap a vs out }):wpAny (model prog w) A (Builtin.«list.sort» ⟨[.ref a],[]⟩) P E s:=by
 rw[list_sort_plain];have la:a<s.heap.objs.size:=Il ho;obtain⟨k,hk⟩:∃ k,(s.heap.update a (Obj.mapSeq fun _=>#[])).get? a=some (seqObj "list" #[] k):=⟨_,get?_update_seq ho (fun _=>#[])⟩
 have hk2:(((s.heap.update a (Obj.mapSeq fun _=>#[])).push (seqObj "tuple" vs.toArray 0)).push (seqObj "list" #[] 0)).get? a=some (seqObj "list" #[] k) :=
  HU _ (HU _ hk)
 have keep:∀ b o,b≠a->s.heap.get? b=some o->(((s.heap.update a (Obj.mapSeq fun _=>#[])).push (seqObj "tuple" vs.toArray 0)).push (seqObj "list" #[] 0)).get? b=some o:=fun b o hb e =>
  HU _ (HU _ (by rw[KG _ _ _ _ hb];exact e))
 obtain⟨t1,t2,t3⟩:=hT _ keep;have hz1:vs.toArray.size<=sizeLine:=by rw[HZ,sizeLine_eq];omega
 have hz2:vs.toArray.toList.length<=sizeLine:=by rw[sizeLine_eq];simp;omega
 refine wpAny_bind (listItems_at ho rfl (wpAny_bind (listUpdate_at ho rfl (wpAny_bind (seqEpoch_at hk rfl ?_)) hz1 (IT _))));refine wpAny_bind (wpAny_newTuple (wpAny_bind (wpAny_newList (wpAny_holding ?_) (IT _))) hz2);show wpAny (model prog w) A _ P E { s with heap:=((s.heap.update a (Obj.mapSeq fun _=>#[])).push (seqObj "tuple" vs.toArray 0)).push (seqObj "list" #[] 0) };dsimp only;have z2:¬ vs.toArray.size<2:=by rw[HZ];omega
 rw[if_neg z2,if_neg z2];have hne:0<fs.length:=by
  cases fs with
  | nil=>cases vs with
   | nil=>exact absurd h2 (by decide)
   | cons v r=>exact t1.elim
  | cons f r=>exact Mz _
 refine wpAny_bind (kat_kind t1 hne t2 hT2 ?_);refine wpAny_bind (wpAny_mono (zK (a₀:=pairsOf vs) (st:=SortSt.mk' (tuples' (T != Value.type "tuple")) (vs.toArray.zip vs.toArray) #[] 7 none) (Q:=fun _ z=>(arrOf z).Perm (pairsOf vs)/\failedOf z=none/\SortedTo (arrOf z) (pairsOf vs).size)
  t3 (Array.Perm.refl _) hkd.symm rfl rfl (by rw[pairsOf_size];exact h2) (by rw[pairsOf_size];exact gX) fun z a1 a2 a3=>⟨a1,a2,a3⟩) ?_ fun _ _ e=>e)
 rintro⟨⟨⟩,z⟩ s2 ⟨rfl,hp,hf,hs⟩;dsimp only;have zs:((arrOf z).map (·.2)).size<=sizeLine+1:=by
  rw[L4,hp.size_eq,pairsOf_size,sizeLine_eq];omega
 refine wpAny_bind (seqEpoch_at hk2 rfl (wpAny_bind (listUpdate_at hk2 rfl ?_ (hsz2:=zs))));rw[hf];dsimp only;rw[bne_self_eq_false];obtain⟨b1,b2⟩:=mQ hr hp hs;exact wpAny_pure (h _ b1 b2)
theorem uH {a:Addr}{vs:List Value}{n:Nat}{P:PySem.Fin->Shared->Prop}(ho:s.heap.get? a=some (seqObj "list" vs.toArray n))(h2:vs.length<2)
  (h:P (.done (.ret .none)) { s with heap:=sortedHeap s.heap a vs vs.toArray }):wpAny (model prog w) A (Builtin.«list.sort» ⟨[.ref a],[]⟩) P E s:=by
 rw[list_sort_plain];obtain⟨k,hk⟩:∃ k,(s.heap.update a (Obj.mapSeq fun _=>#[])).get? a=some (seqObj "list" #[] k):=⟨_,get?_update_seq ho (fun _=>#[])⟩
 have hk2:(((s.heap.update a (Obj.mapSeq fun _=>#[])).push (seqObj "tuple" vs.toArray 0)).push (seqObj "list" #[] 0)).get? a=some (seqObj "list" #[] k) :=
  HU _ (HU _ hk)
 have hz1:vs.toArray.size<=sizeLine:=by rw[HZ,sizeLine_eq];omega
 have hz2:vs.toArray.toList.length<=sizeLine:=by rw[sizeLine_eq];simp;omega
 refine wpAny_bind (listItems_at ho rfl (wpAny_bind (listUpdate_at ho rfl (wpAny_bind (seqEpoch_at hk rfl ?_)) hz1 (IT _))));refine wpAny_bind (wpAny_newTuple (wpAny_bind (wpAny_newList (wpAny_holding ?_) (IT _))) hz2);show wpAny (model prog w) A _ P E { s with heap:=((s.heap.update a (Obj.mapSeq fun _=>#[])).push (seqObj "tuple" vs.toArray 0)).push (seqObj "list" #[] 0) };dsimp only;have z2:vs.toArray.size<2:=by rw[HZ];omega
 rw[if_pos z2,if_pos z2];refine wpAny_bind (wpAny_pure (wpAny_bind (wpAny_pure ?_)));dsimp only;have e:(arrOf (SortSt.mk' general' (vs.toArray.zip vs.toArray) #[] 7 none)).map (·.2)=vs.toArray:=by
  apply Array.toList_inj.mp;show ((vs.toArray.zip vs.toArray).map (·.2)).toList=vs;have e2:(vs.zip vs).map (·.2)=vs:=by rw[MN];exact HV _
  simpa using e2
 rw[e];refine wpAny_bind (seqEpoch_at hk2 rfl (wpAny_bind (listUpdate_at hk2 rfl ?_ (hsz2:=by rw[HZ,sizeLine_eq];omega))));dsimp only;rw[bne_self_eq_false];exact wpAny_pure h
theorem wa {l:Addr}{vs:List Value}{Q:Value->Shared->Prop}(hl:s.heap.IsList l vs.toArray)(h2:vs.length<2)
  (h:Q (.ref (s.heap.objs.size+1)) { s with heap:=sortedAll s.heap vs vs.toArray }):wpAny (model prog w) A (call (.builtin "sorted") [.ref l]) Q E s:=by
 have z:((s.heap.push (seqObj "list" #[] 0)).update s.heap.objs.size (Obj.mapSeq (· ++ vs.toArray))).objs.size=s.heap.objs.size+1:=(K3 _ _ _).trans (size_push' _ _);have hL:(((s.heap.push (seqObj "list" #[] 0)).update s.heap.objs.size (Obj.mapSeq (· ++ vs.toArray))).push (seqObj "list" vs.toArray 0)).get? (s.heap.objs.size+1)=some (seqObj "list" vs.toArray 0):=z ▸ Ir _ rfl;refine Calls.call_function_entry kind_sorted plain_sorted entry_sorted (args_sorted1 _) ?_;unfold Builtin.«sorted»;refine wpAny_bind (m:=checkCount "sorted" 1 1 _) (wpAny_pure (wpAny_bind (collect_list hl (wpAny_bind (wpAny_newList ?_ (by rw[sizeLine_eq];omega))) (hsz:=by rw[sizeLine_eq];omega))));show wpAny _ _ _ _ _ { s with heap:=((s.heap.push (seqObj "list" #[] 0)).update s.heap.objs.size (Obj.mapSeq (· ++ vs.toArray))).push (seqObj "list" vs.toArray 0) };rw[z];exact wpAny_bind (wpAny_holding (wpAny_call_entry slot_list_sort ⟨_,hL,rfl⟩ entry_list_sort (uH hL h2 ⟨_,rfl,wpAny_pure ⟨_,rfl,h⟩⟩) (args_list_sort _)))
end
end dB

namespace dB
open PySem PySem.Spec PyProof.Rows PySem.W L2
noncomputable def kx:Th.Kd->Int
 | .bare=>0
 | .odd=>1
 | .ring=>2
 | .tied=>3
theorem Dq:∀ a b:Th.Kd,kx a=kx b->a=b:=by intro a b h;cases a <;> cases b <;> first | rfl | exact absurd h (by decide)
theorem EV:∀ a b:Th.Kd,decide ((Mir.ks a).cps.toList<(Mir.ks b).cps.toList)=decide (kx a<kx b):=by intro a b;cases a <;> cases b <;> decide +kernel
noncomputable def Pr (h:Heap)(str:Bool)(v:Value)(r:Int):Prop:=∃ (t:Addr) (o:Obj) (n:Nat) (x:Value) (y a:Int) (u1 u2:Tok),v=.ref t/\h.get? t=some o/\o.cls=.type "tuple"/\o.data=.seq #[x,.int y u2] n/\0<=y/\y<1000/\r=1000*a+y /\
 ((str=false/\x=.int a u1)\/(str=true/\∃ k:Th.Kd,x=.str (Mir.ks k) u1/\a=kx k))
theorem Pr.uniq {h:Heap}{str:Bool}{v:Value}{r r':Int}(p:Pr h str v r)(q:Pr h str v r'):r=r':=by
 obtain⟨t,o,n,x,y,a,u1,u2,rfl,e1,e2,e3,e4,e5,e6,e7⟩:=p;obtain⟨t',o',n',x',y',a',u1',u2',f0,f1,f2,f3,f4,f5,f6,f7⟩:=q;injection f0 with f0;subst f0;rw[e1] at f1;obtain rfl:=Option.some.inj f1;rw[e3] at f3;injection f3 with f3 _;have f3:=congrArg Lc f3;injection f3 with g1 g2;injection g2 with g2 _;injection g2 with g2 _;subst g2;rcases e7 with ⟨s1,e7⟩ | ⟨e8,k,e7,e9⟩
 ·rcases f7 with ⟨_,f7⟩ | ⟨f8,_⟩
  ·rw[e7,f7] at g1;injection g1 with g1 _;rw[e6,f6,g1]
  ·rw[s1] at f8;cases f8
 ·rcases f7 with ⟨f8,f7⟩ | ⟨_,k',f7,f9⟩
  ·rw[e8] at f8;cases f8
  ·rw[e7,f7] at g1;injection g1 with g1 _;have:=Mir.oG _ _ g1;rw[e6,f6,e9,f9,this]
open Classical in
noncomputable def rkO (h:Heap)(str:Bool)(v:Value):Int:=if e:∃ r,Pr h str v r then choose e else 0
theorem zY {h:Heap}{str:Bool}{v:Value}{r:Int}(p:Pr h str v r):rkO h str v=r:=by
 unfold rkO;have e:∃ r,Pr h str v r:=⟨r,p⟩
 rw[dif_pos e];exact(Ka e).uniq p
@[reducible] noncomputable def Dr (h:Heap)(str:Bool):RkP:=⟨fun p=>∃ r,Pr h str p.1 r,fun p=>rkO h str p.1,tuples' true⟩
noncomputable def tyP (str:Bool):Value:=if str=true then .type "str" else .type "int"
theorem Br {prog:Program}{w:World}{A:Around}{s:Shared}{h:Heap}{str:Bool}(k:∀ b o,h.get? b=some o->s.heap.get? b=some o):@Asks (Dr h str) prog w A s:=by
 letI:=Dr h str
 intro x y ⟨r,px⟩ ⟨r',py⟩ E Q q0;have q:Q (decide (r<r')) s:=by
  have e1:num x=r:=zY px;have e2:num y=r':=zY py;rw[e1,e2] at q0;exact q0
 clear q0;obtain⟨x1,x2⟩:=x;obtain⟨y1,y2⟩:=y;obtain⟨t,o,n,x,y,a,u1,u2,rfl,e1,e2,e3,e4,e5,e6,e7⟩:=px;obtain⟨t',o',n',x',y',a',u1',u2',rfl,f1,f2,f3,f4,f5,f6,f7⟩:=py;show wpAny _ _ (keyLt' (tuples' true) (.ref t) (.ref t')) _ _ _;refine kat_lt (k _ _ e1) e3 (k _ _ f1) f3 ?_;show KatLex prog w A true (decide (2<2)) _ [(x,x'),(.int y u2,.int y' u2')] 0 s;have second:a=a'->KatLex prog w A true (decide (2<2)) Q [(.int y u2,.int y' u2')] 1 s:=fun ea=>by
  refine kat_cons (wpAny_eqBool_int ?_);by_cases c:y=y'
  ·rw[show (y == y')=true from beq_iff_eq.mpr c];refine kat_yes (kat_nil ?_);rw[show decide (2<2)=decide (r<r') from decide_eq_decide.mpr (by omega)];exact q
  ·rw[show (y == y')=false from beq_eq_false_iff_ne.mpr c];refine kat_no (kat_one _ _ (lt_int ?_));show Q _ s;rw[show decide (y<y')=decide (r<r') from decide_eq_decide.mpr (by omega)];exact q
 rcases e7 with ⟨s1,rfl⟩ | ⟨s1,k1,rfl,ek⟩
 ·rcases f7 with ⟨_,rfl⟩ | ⟨s2,_⟩
  ·refine kat_cons (wpAny_eqBool_int ?_);by_cases c:a=a'
   ·rw[show (a == a')=true from beq_iff_eq.mpr c];exact kat_yes (second c)
   ·rw[show (a == a')=false from beq_eq_false_iff_ne.mpr c];refine kat_no (oneLt_int ?_);rw[show decide (a<a')=decide (r<r') from decide_eq_decide.mpr (by omega)];exact q
  ·rw[s1] at s2;cases s2
 ·rcases f7 with ⟨s2,_⟩ | ⟨_,k2,rfl,fk⟩
  ·rw[s1] at s2;cases s2
  ·refine kat_cons (eqBool_str ?_);by_cases c:k1=k2
   ·subst c;rw[beq_self_eq_true];exact kat_yes (second (by rw[ek,fk]))
   ·rw[show (Mir.ks k1 == Mir.ks k2)=false from beq_eq_false_iff_ne.mpr fun z=>c (Mir.oG _ _ z)];refine kat_no (oneLt_str ?_);have ne:a≠a':=fun z=>c (Dq _ _ (by rw[<- ek,<- fk,z]))
    rw[EV,<- ek,<- fk,show decide (a<a')=decide (r<r') from decide_eq_decide.mpr (by omega)];exact q
end dB
namespace L2
open PySem PySem.Spec PyProof.Rows dB
section
variable {X:Cx}
noncomputable def PrV (str:Bool)(vs:List V)(r:Int):Prop:=∃ (x:V) (y a:Int),vs=[x,.int y]/\0<=y/\y<1000/\r=1000*a+y/\((str=false/\x=.int a)\/(str=true/\∃ k:Th.Kd,x=.str (Mir.ks k)/\a=kx k))
theorem EW {pins:List (Addr×Obj)}{s:Shared}{σ:L2.St}{H:Hp}{t:Addr}{vs:List V}{r:Int}{str:Bool}(I:Inv X pins σ H s)(h:H t=some (.tup vs))(p:PrV str vs r):Pr s.heap str (.ref t) r:=by
 obtain⟨x,y,a,rfl,h1,h2,h3,h4⟩:=p;obtain⟨its,rv,⟨o,e1,e2,n,e3⟩,_⟩:=I.tuple (SqT.of h);cases rv with
 | cons r1 rr =>
  cases rr with
  | cons r2 rr =>
   cases rr;obtain⟨u2,rfl⟩:=r2;rcases h4 with ⟨s1,rfl⟩ | ⟨s1,k,rfl,ek⟩
   ·obtain⟨u1,rfl⟩:=r1;exact⟨t,o,n,_,y,a,u1,u2,rfl,e1,e2,e3,h1,h2,h3,.inl ⟨s1,rfl⟩⟩
   ·obtain⟨u1,rfl⟩:=r1;exact⟨t,o,n,_,y,a,u1,u2,rfl,e1,e2,e3,h1,h2,h3,.inr ⟨s1,k,rfl,ek⟩⟩
theorem oO {h h':Heap}(k:∀ b o,h.get? b=some o->h'.get? b=some o):∀ {vs fs:List Value},J5 h vs fs->J5 h' vs fs
 | [],[],_=>trivial
 | [],_::_,z=>z.elim
 | _::_,[],z=>z.elim
 | _::_,_::_,⟨⟨a,o,xs,n,e0,e1,e2⟩,r⟩=>⟨⟨a,o,xs,n,e0,k _ _ e1,e2⟩,oO k r⟩
theorem kat_tups {h:Heap}{str:Bool}:∀ ts:List Addr,(∀ t∈ts,∃ r,Pr h str (.ref t) r)->∃ fs:List Value,J5 h (ts.map Value.ref) fs/\∀ v∈fs,(str=false/\∃ i u,v=.int i u)\/(str=true/\∃ z u,v=.str z u)
 | [],_=>⟨[],J5.nil,fun v hv=>absurd hv JP⟩
 | t::ts,hp=>by
  obtain⟨fs,h1,h2⟩:=kat_tups ts fun t ht=>hp t (Im _ ht)
  obtain⟨r,t',o,n,x,y,a,u1,u2,e0,e1,e2,e3,e4,e5,e6,e7⟩:=hp t Iq;injection e0 with e0;subst e0;refine⟨x::fs,J5.cons e1 e2 e3 rfl h1,fun v hv=>?_⟩;rcases IA.mp hv with rfl | hv
  ·rcases e7 with ⟨s1,e7⟩ | ⟨s1,k,e7,_⟩
   ·exact .inl ⟨s1,_,_,e7⟩
   ·exact .inr ⟨s1,_,_,e7⟩
  ·exact h2 v hv
theorem qq:∀ {ts:List Addr} {its:List Value},Vals (ts.map V.ref) its->its=ts.map Value.ref
 | [],_,.nil=>rfl
 | t::ts,_,.cons r rr=>by cases r;rw[qq rr];rfl
theorem kl:∀ ts:List Addr,Vals (ts.map V.ref) (ts.map Value.ref)
 | []=>.nil
 | t::ts=>.cons rfl (kl ts)
theorem qr {us:List Value}{ts:List Addr}(h:us.Perm (ts.map Value.ref)):∃ ws:List Addr,us=ws.map Value.ref/\ws.Perm ts:=by
 let g:Value->Addr:=fun v=>match v with
  | .ref a=>a
  | _=>0
 have e:∀ v∈us,Value.ref (g v)=v:=fun v hv=>by
  obtain⟨t,_,rfl⟩:=HW.mp (h.mem_iff.mp hv)
  rfl
 refine⟨us.map g,?_,?_⟩
 ·rw[Jf];exact(MB us).symm.trans (JL fun v hv=>(e v hv).symm)
 ·have z:=h.map g;rw[Jf] at z;have e2:ts.map (g ∘ Value.ref)=ts:=MB ts;rw[e2] at z;exact z
end
end L2

namespace L2
open PySem
theorem uI {X:Cx}{K:HS}(hK:X.K=K)(hu:X.A.units<cLine):OpR X (compareOp .Eq) (B9 K false):=hK ▸ vH hu
end L2
namespace Mir
open PySem L2
noncomputable def pf (c:Nat×Nat):List V:=[.int (c.1:Nat),.int (c.2:Nat)]
theorem TsT.ext {α:Type}{f:α->List V}{H:Hp}{l r:Addr}{xs ys:List α}(h:TsT f H l xs)(k:TsT f H r ys):∃ vs ws,H l=some (.lst vs)/\H r=some (.lst ws)/\vs.length=xs.length/\ws.length=ys.length/\TsT f (L2.upd H l (.lst (vs++ws))) l (xs++ys):=by
 obtain⟨ts,h1,h2,h3⟩:=h;obtain⟨us,k1,k2,k3⟩:=k;refine⟨_,_,h1,k1,by rw[HQ];exact h2,by rw[HQ];exact k2,ts++us,by rw[ah,IS],by rw[HY,HY,h2,k2],fun i t x e1 e2=>?_⟩;have ne:∀ {c:Addr} {zs:List V},H c=some (.tup zs)->L2.upd H l (.lst (ts.map V.ref++us.map V.ref)) c=some (.tup zs):=fun {c zs} e=>by
  rw[aE (fun z=>by rw[z,h1] at e;cases e)];exact e
 by_cases c:i<ts.length
 ·rw[IK c] at e1;rw[IK (by omega)] at e2;exact ne (h3 i t x e1 e2)
 ·rw[IG (by omega)] at e1;rw[IG (by omega),<- h2] at e2;exact ne (k3 _ t x e1 e2)
noncomputable def cR (n:Nat)(ms:List Nat)(c:Nat×Nat):Bool:=decide (Fits n ms c.1 c.2)&&decide (bV ms c.1 c.2=c)
noncomputable def rkN (c:Nat×Nat):Int:=1000*c.1+c.2
noncomputable def gPr (H:Hp)(t:Addr):Int:=match H t with
 | some (.tup [.int x,.int y])=>1000*x+y
 | _=>0
theorem wb {H:Hp}{t:Addr}{c:Nat×Nat}(h:H t=some (.tup (pf c))):gPr H t=rkN c:=by
 unfold gPr;rw[h]
 rfl
theorem Ds {c:Nat×Nat}(h:c.2<1000):PrV false (pf c) (rkN c):=⟨_,c.2,c.1,rfl,by omega,by omega,rfl,.inl ⟨rfl,rfl⟩⟩
theorem Bt {H:Hp}{l:Addr}{ts us:List Addr}{xs:List (Nat×Nat)}(hl:ts.length=xs.length)(h3:∀ (i:Nat) (t:Addr) (x:Nat×Nat),ts[i]?=some t->xs[i]?=some x->H t=some (.tup (pf x)))(hp:us.Perm ts)(hs:us.Pairwise fun t u=>gPr H t<=gPr H u)(hn:H l=none) :
  ∃ ys:List (Nat×Nat),ys.Perm xs/\(ys.Pairwise fun p q=>rkN p<=rkN q)/\TsT pf (L2.upd H l (.lst (us.map V.ref))) l ys:=by
 obtain⟨ys,y1,y2⟩:=Fa2.perm hp (Fa2.of (R:=fun (t:Addr) (x:Nat×Nat)=>H t=some (.tup (pf x))) hl fun i t x e1 e2=>h3 i t x e1 e2);have len:=y2.len;refine⟨ys,y1,Ja.mpr fun i j hi hj hij=>?_,us,ah,len,fun i t x e1 e2=>?_⟩
 ·have z:=Ja.mp hs i j (by omega) (by omega) hij;rw[wb (y2.get i _ _ (HP (by omega)) (HP hi)),wb (y2.get j _ _ (HP (by omega)) (HP hj))] at z;exact z
 ·exact(aA hn) _ _ (y2.get i t x e1 e2)
theorem pairs_len {n:Nat}{ms os:List Nat}{ths:List (Th.Kd×List Nat)}(A:Th.eY (2*n) (at0 ms) (at0 os) ths)(h:n<=5):(Th.a9 ths).length<=100:=by
 have z:=Th.sub_len A.nodup (m:=(Ig (2*n)).flatMap fun p=>(Ig (2*n)).map fun q=>(p,q)) fun c hc=>by
  obtain⟨b1,b2⟩:=A.bound hc;refine JQ.mpr ⟨c.1,Ii.mpr (by omega),HW.mpr ⟨c.2,Ii.mpr b2,rfl⟩⟩
 have y:=Th.g7 (fun p=>(Ig (2*n)).map fun q=>(p,q)) (2*n) (Ig (2*n)) fun x _=>by rw[HQ,Ij];exact HV _
 rw[Ij] at y;have:2*n*(2*n)<=10*10:=L5 (by omega) (by omega);omega
variable (K:HS)
noncomputable def wc:Sp:=fun vs H Q _=>∃ (x y:Nat),vs=[.int (x:Nat),.int (y:Nat)]/\∀ (l:Addr) (H':Hp),H l=none->aG H H'->H' l=some (.tup (pf (Th.ord x y)))->Q (.ref l) H'
noncomputable def uJ:Sp:=fun vs H Q _=>∃ (l:Addr) (k:Th.Kd) (ths:List (Th.Kd×List Nat)),vs=[.ref l,.str (ks k)]/\ThT H l ths/\((ths.map (·.2)).flatten.length<=100)/\∀ (D:Addr) (H':Hp),H D=none->aG H H'->H' D=some (.lst (nV (Th.bj ths k)))->Q (.ref D) H'
noncomputable def xy:Sp:=fun vs H Q _=>∃ (e:Addr) (L:List Nat),vs=[.ref e]/\H e=some (.tup (nV L))/\L.length<=80/\∀ (D:Addr) (H':Hp),H D=none->aG H H'->TsT pf H' D (Th.eg L)->Q (.ref D) H'
noncomputable def xA:Sp:=fun vs H Q _=>∃ (a b:Addr) (B S:List Nat),vs=[.ref a,.ref b]/\H a=some (.lst (nV B))/\H b=some (.lst (nV S))/\B.length<=80/\S.length<=80/\∀ (D:Addr) (H':Hp),H D=none->aG H H'->TsT pf H' D (Th.dN B S)->Q (.ref D) H'
noncomputable def mR:Sp:=fun vs H Q _=>∃ (a d:Addr) (n p q:Nat) (ms:List Nat),vs=[.ref a,.ref d]/\SqT K H a (nV ms)/\ak n ms/\SqT K H d [.int (p:Nat),.int (q:Nat)]/\p<2*n/\q<2*n /\
 ∀ (l:Addr) (H':Hp),H l=none->aG H H'->H' l=some (.tup (pf (bV ms p q)))->Q (.ref l) H'
end Mir



namespace Th
theorem uK {N:Nat}{a b:Nat->Nat}(T:Two N a b)(h:∃ x,x<N/\a x≠b x):∃ p q,p<=q/\q<N/\a p≠q/\Right a b p q:=by
 by_cases c:∃ x,x<N/\b x≠x/\a x≠b x
 ·obtain⟨x,h1,h2,h3⟩:=c;have l:=T.gl x h1;have i:=T.gg x h1;have j:=T.ff x h1;by_cases d:x<=b x
  ·exact⟨x,b x,d,l,h3,.inl ⟨h2.symm,rfl⟩⟩
  ·refine⟨b x,x,by omega,h1,fun z=>?_,.inl ⟨h2,i⟩⟩;have k:=T.ff (b x) l;rw[z] at k;exact h3 k
 ·obtain⟨x,h1,h2⟩:=h;have hb:b x=x:=Ia fun z=>c ⟨x,h1,z,h2⟩
  have l:=T.fl x h1;have hy:b (a x)=a x:=Ia fun z=>by
   have:a (a x)=b (a x):=Ia fun y=>c ⟨a x,l,z,y⟩
   rw[T.ff x h1] at this;have g:=T.gg (a x) l;rw[<- this,hb] at g;exact h2 (by rw[hb];exact g.symm)
  exact⟨x,x,HV _,h1,fun z=>h2 (by rw[hb];exact z),.inr ⟨rfl,hb,hy⟩⟩
end Th
namespace Mir
open PySem L2 Ch
theorem mw:∀ (k n:Nat) (ms ws os:List Nat),ak n ms->ak n ws->ak n os->aH n ms ws<=k->aH n ms os<=aH n ms ws+aH n ws os
 | 0,n,ms,ws,os,W,WW,WO,h=>by
  have T:=aW W WW;have le:=Th.dk T;have ev:=Th.dj T (by omega);have e:Th.score (at0 ms) (at0 ws) (2*n)=2*n:=by unfold aH at h;omega
  have al:=(Th.iP T).mp e;have em:ms=ws:=gN (by rw[W.len,WW.len]) fun x hx=>al x (by rw[W.len] at hx;exact hx)
  subst em;omega
 | k+1,n,ms,ws,os,W,WW,WO,h=>by
  have T:=aW W WW;by_cases d:∃ x,x<2*n/\at0 ms x≠at0 ws x
  ·obtain⟨p,q,h1,h2,h3,R⟩:=Th.uK T d;have hp:p<2*n:=by omega
   have W2:=dS W hp h2 h3;have k1:=Th.kj T hp h2 h3 (a2:=at0 (beh ms p q)) (fun e he=>cD (by rw[W.len];exact he));have k2:=Th.kj (aW W WO) hp h2 h3 (a2:=at0 (beh ms p q)) (fun e he=>cD (by rw[W.len];exact he));have e1:=k1.2 R;have l1:=Th.dk T;have l2:=Th.dk (aW W2 WW);have l3:=Th.dk (aW W WO);have l4:=Th.dk (aW W2 WO);have v1:=Th.dj T (by omega);have v2:=Th.dj (aW W2 WW) (by omega);have v3:=Th.dj (aW W WO) (by omega);have v4:=Th.dj (aW W2 WO) (by omega);have ih:=mw k n (beh ms p q) ws os W2 WW WO (by unfold aH at h ⊢;omega);have c:=k2.1;unfold aH at ih h ⊢;omega
  ·have em:ms=ws:=gN (by rw[W.len,WW.len]) fun x hx=>Ia fun z=>d ⟨x,by rw[W.len] at hx;exact hx,z⟩
   subst em;omega
end Mir

namespace Th
theorem yB {N:Nat}{a b:Nat->Nat}(T:Two N a b){p q:Nat}(hp:p<N)(hq:q<N)(hf:a p≠q){a2:Nat->Nat}(h2:∀ x,x<N->a2 x=Mir.c8 a p q x)(R:Right a b p q):(score a2 b N:Int)-score a b N=2:=by
 rcases R with ⟨hpq,hb⟩ | ⟨e,hb1,hb2⟩
 ·obtain⟨c1,c2,c3,c4'⟩:=oK (a:=a) p q;exact(zT T hp hq hpq hf h2).mpr (.inl (jt (rG T hp hq) hp hpq c1 c3 hb))
 ·subst e;obtain⟨c1,c2,c3,c4'⟩:=oK (a:=a) p p;exact(yt T hp hf h2).mpr ⟨nF (rG T hp hp) hp c1 hb1,nF (rG T hp hp) (T.fl p hp) c2 hb2⟩
end Th
namespace Mir
open PySem L2
open Classical
noncomputable def zZ (p m:Nat):List (Nat×Nat):=(Ig m).map fun d=>(p,p+d)
noncomputable def g8 (N i:Nat):List (Nat×Nat):=(Ig i).flatMap fun p=>zZ p (N-p)
theorem iI {p m:Nat}{c:Nat×Nat}:c∈zZ p m↔c.1=p/\p<=c.2/\c.2<p+m:=by
 unfold zZ;rw[HW];constructor
 ·rintro⟨d,hd,rfl⟩;have:=Ii.mp hd;exact⟨rfl,by simp only;omega,by simp only;omega⟩
 ·rintro⟨h1,h2,h3⟩;exact⟨c.2-p,Ii.mpr (by omega),Ls h1.symm (by simp only;omega)⟩
theorem gC {N i:Nat}{c:Nat×Nat}:c∈g8 N i↔c.1<i/\c.1<=c.2/\c.2<N:=by
 unfold g8;rw[JQ];constructor
 ·rintro⟨p,hp,hc⟩;obtain⟨h1,h2,h3⟩:=iI.mp hc;have:=Ii.mp hp;omega
 ·rintro⟨h1,h2,h3⟩;exact⟨c.1,Ii.mpr h1,iI.mpr ⟨rfl,h2,by omega⟩⟩
theorem qt {N:Nat}(h:N<=1000)(i:Nat):(g8 N i).Pairwise fun c d=>rkN c<rkN d:=by
 unfold g8;rw[JX];constructor
 ·intro p _;unfold zZ;rw[IJ];refine(J6 (n:=N-p)).imp fun hab=>?_
  unfold rkN;simp only;omega
 ·refine(J6 (n:=i)).imp fun {p q} hpq c hc d hd=>?_
  obtain⟨h1,h2,h3⟩:=iI.mp hc;obtain⟨g1,g2,g3⟩:=iI.mp hd;unfold rkN;omega
noncomputable def okD (n:Nat)(ms os:List Nat)(c:Nat×Nat):Prop:=at0 ms c.1≠c.2/\bV ms c.1 c.2=c/\aH n (beh ms c.1 c.2) os+1=aH n ms os
noncomputable def jV (n:Nat)(ms os:List Nat)(l:List (Nat×Nat)):List (Nat×Nat):=l.filter fun c=>decide (okD n ms os c)
section
variable {n:Nat}{ms os:List Nat}
theorem km (W:ak n ms)(WO:ak n os){p q:Nat}(hp:p<2*n)(hq:q<2*n)(hf:at0 ms p≠q):aH n (beh ms p q) os+1=aH n ms os↔(Th.score (at0 (beh ms p q)) (at0 os) (2*n):Int)-Th.score (at0 ms) (at0 os) (2*n)=2:=by
 have W2:=dS W hp hq hf;have l1:=Th.dk (aW W WO);have l2:=Th.dk (aW W2 WO);have v1:=Th.dj (aW W WO) (by omega);have v2:=Th.dj (aW W2 WO) (by omega);unfold aH;omega
theorem uL {p q:Nat}(h1:p<=q)(h2:q<2*n):Fits n ms (p:Nat) (q:Nat)↔at0 ms p≠q:=by
 constructor
 ·intro h z;exact h.2.2.2 (by rw[Iz,z])
 ·intro h;exact zM h1 h2 h
theorem xB (W:ak n ms)(WO:ak n os):jV n ms os (g8 (2*n) (2*n))=[]↔ms=os:=by
 have T:=aW W WO;constructor
 ·intro h;refine Ia fun ne=>?_
  have dif:∃ x,x<2*n/\at0 ms x≠at0 os x:=Ia fun z=>ne (gN (by rw[W.len,WO.len]) fun x hx=>Ia fun y=>z ⟨x,by rw[W.len] at hx;exact hx,y⟩)
  obtain⟨p,q,h1,h2,h3,R⟩:=Th.uK T dif;have k1:=Th.yB T (show p<2*n by omega) h2 h3 (a2:=at0 (beh ms p q)) (fun e he=>cD (by rw[W.len];exact he)) R;obtain⟨⟨l1,l2,l3,l4⟩,lm⟩:=gq W h1 h2 h3;have idem:bV ms (bV ms p q).1 (bV ms p q).2=bV ms p q:=by
   rw[vU W l1 l2 l3];intro p' q' L;rw[l4] at L;have:=lm p' q' L;omega
  have mem:bV ms p q∈jV n ms os (g8 (2*n) (2*n)):=by
   unfold jV;rw[Ie,gC,decide_eq_true_iff];refine⟨⟨by omega,l1,l2⟩,l3,idem,?_⟩;rw[l4,km W WO (by omega) h2 h3];exact k1
  rw[h] at mem;exact absurd mem JP
 ·intro h;subst h;have z:=(Th.iP T).mpr fun x hx=>rfl
  unfold jV;rw[JG];intro c hc hd;obtain⟨_,_,h3⟩:=of_decide_eq_true hd;unfold aH at h3;omega
end
end Mir

namespace dB
open PySem PySem.Spec PyProof.Rows PySem.W
section
variable [RkP]{prog:Program}{w:World}{A:Around}{E:Value->Shared->Prop}{s:Shared}{a₀:Array Keyed}
noncomputable def z4 (a₀:Array Keyed)(st:SortSt):Prop:=(arrOf st).Perm a₀/\failedOf st=none/\∃ p,pendingOf st = #[p]/\ft 0 (arrOf st) a₀.size
theorem wd {st:SortSt}{Q:Unit->SortSt->Prop}(h0:IKA prog w A s a₀)(hp:(arrOf st).Perm a₀)(hk:kindOf st=oneType')(hf:failedOf st=none)(hd:pendingOf st = #[])(h2:2<=a₀.size)(h64:a₀.size<64)
  (h:∀ st',(arrOf st').Perm a₀->failedOf st'=none->SortedTo (arrOf st') a₀.size->Q () st'):wpS (model prog w) A E s sortRuns' Q st:=by
 rw[sortRuns'_eq];refine wpS_bind (wpS_get ?_);dsimp only;have hsz:(arrOf st).size=a₀.size:=hp.size_eq;rw[hsz];have em:minRun' a₀.size a₀.size 0=a₀.size:=by
  obtain⟨g,e⟩:∃ g,a₀.size=g+1:=⟨a₀.size-1,by omega⟩
  rw[e,minRun'_succ,if_pos (by omega)]
 rw[em];refine wpS_bind (wpS_mono (wpS_forRange
  (I:=fun x c st'=>(x=0/\c=(none,0)/\SB a₀ #[] 0 (fun _=>0) st')\/(1<=x/\c=(none,a₀.size)/\z4 a₀ st'))
  (Q:=fun c st'=>c=(none,a₀.size)/\z4 a₀ st') ?step ?fin (.inl ⟨rfl,rfl,⟨hp,hk,hf,hd,fun i hi=>absurd hi (JV _)⟩⟩)) ?post)
 case fin =>
  rintro c st' (⟨hx,_⟩ | ⟨_,e,L⟩)
  ·have:max 0 a₀.size=a₀.size:=Jq (IT _);omega
  ·exact⟨e,L⟩
 case step =>
  rintro x c st' _ hx (⟨rfl,rfl,hB⟩ | ⟨hx2,rfl,L⟩)
  ·dsimp only;refine ai (fun z=>absurd z (by omega)) (fun _=>?_);refine wpS_bind (ki h0 (by omega) (by omega) hB fun k st2 hB2 k1 k2 g2=>?_);dsimp only;rw[Mx] at k2;have push:∀ (st3:SortSt),SB a₀ #[] 0 (fun _=>0) st3->ft 0 (arrOf st3) a₀.size->z4 a₀ (setPending st3 ((pendingOf st3).push (0,a₀.size,0))):=fun st3 b g =>
    ⟨b.perm,b.fl,⟨_,by show (pendingOf st3).push _=_;rw[b.pd];rfl,g⟩⟩
   refine ai (fun z=>?_) (fun z=>?_)
   ·have ef:min (a₀.size-0) a₀.size=a₀.size:=by omega
    rw[ef];refine wpS_bind (wpS_lift (wpAny_rule ⟨rfl,wpS_bind (oC h0 (by omega) k1 (by omega) hB2 g2 fun st3 hB3 g3=>?_)⟩));refine ai (fun z=>absurd z (by simp)) (fun _=>?_);refine wpS_bind (wpS_get ?_);have hb:(pendingOf st3).back?=none:=by rw[hB3.pd];rfl
    rw[hb];dsimp only;refine wpS_bind (wpS_modify (wpS_pure (.inr ⟨HV _,by rw[IZ],push st3 hB3 g3⟩)))
   ·have hka:k=a₀.size:=by omega
    rw[hka] at g2 ⊢;refine wpS_bind (wpS_get ?_);have hb:(pendingOf st2).back?=none:=by rw[hB2.pd];rfl
    rw[hb];dsimp only;refine wpS_bind (wpS_modify (wpS_pure (.inr ⟨HV _,by rw[IZ],push st2 hB2 g2⟩)))
  ·dsimp only;refine ai (fun _=>wpS_pure ⟨rfl,L⟩) (fun z=>absurd (HV _) z)
 case post =>
  rintro c st' ⟨rfl,L⟩;dsimp only;obtain⟨lp,lf,p,e1,asc⟩:=L;refine wpS_bind (wpS_mono (wpS_forRange (I:=fun x c aZ=>c=(none,())/\aZ=st') (Q:=fun c aZ=>c=(none,())/\aZ=st') ?fs ?ff ⟨rfl,rfl⟩) ?fp)
  case ff =>
   rintro c aZ ⟨e,e2⟩;exact⟨e,e2⟩
  case fp =>
   rintro c aZ ⟨e,e2⟩;subst e e2;exact wpS_pure (h _ lp lf (gp asc))
  case fs =>
   rintro x c aZ _ _ ⟨e,e2⟩;subst e e2;refine wpS_bind (wpS_get ?_);exact ai (fun _=>wpS_pure ⟨rfl,rfl⟩) (fun z=>absurd (by rw[e1];exact HV 1) z)
end
end dB
namespace dB
open PySem PyProof.Rows PySem.W
section
variable {prog:Program}{w:World}{A:Around}{E:Value->Shared->Prop}{s:Shared}
theorem uM [RkP]{a:Addr}{vs fs:List Value}{rk:Value->Int}{T:Value}{n:Nat}{P:PySem.Fin->Shared->Prop}(hr:∀ p:Keyed,num p=rk p.1)(hkd:RkP.kd=tuples' (T != Value.type "tuple"))(hT2:(T == T)=true)(ho:s.heap.get? a=some (seqObj "list" vs.toArray n))(h2:2<=vs.length)(gX:vs.length<64)
  (hT:∀ h':Heap,(∀ b o,b≠a->s.heap.get? b=some o->h'.get? b=some o)->KatTups h' vs fs/\(∀ v∈fs,Looks (model prog w) h' (typeOf v) T)/\IKA prog w A { s with heap:=h' } (pairsOf vs))
  (h:∀ out:Array Value,out.toList.Perm vs->(out.toList.Pairwise fun u v=>rk u<=rk v)->P (.done (.ret .none)) { s with heap:=sortedHeap s.heap a vs out }):wpAny (model prog w) A (Builtin.«list.sort» ⟨[.ref a],[]⟩) P E s:=by
 rw[list_sort_plain];have la:a<s.heap.objs.size:=Il ho;obtain⟨k,hk⟩:∃ k,(s.heap.update a (Obj.mapSeq fun _=>#[])).get? a=some (seqObj "list" #[] k):=⟨_,get?_update_seq ho (fun _=>#[])⟩
 have hk2:(((s.heap.update a (Obj.mapSeq fun _=>#[])).push (seqObj "tuple" vs.toArray 0)).push (seqObj "list" #[] 0)).get? a=some (seqObj "list" #[] k) :=
  HU _ (HU _ hk)
 have keep:∀ b o,b≠a->s.heap.get? b=some o->(((s.heap.update a (Obj.mapSeq fun _=>#[])).push (seqObj "tuple" vs.toArray 0)).push (seqObj "list" #[] 0)).get? b=some o:=fun b o hb e =>
  HU _ (HU _ (by rw[KG _ _ _ _ hb];exact e))
 obtain⟨t1,t2,t3⟩:=hT _ keep;have hz1:vs.toArray.size<=sizeLine:=by rw[HZ,sizeLine_eq];omega
 have hz2:vs.toArray.toList.length<=sizeLine:=by rw[sizeLine_eq];simp;omega
 refine wpAny_bind (listItems_at ho rfl (wpAny_bind (listUpdate_at ho rfl (wpAny_bind (seqEpoch_at hk rfl ?_)) hz1 (IT _))));refine wpAny_bind (wpAny_newTuple (wpAny_bind (wpAny_newList (wpAny_holding ?_) (IT _))) hz2);show wpAny (model prog w) A _ P E { s with heap:=((s.heap.update a (Obj.mapSeq fun _=>#[])).push (seqObj "tuple" vs.toArray 0)).push (seqObj "list" #[] 0) };dsimp only;have z2:¬ vs.toArray.size<2:=by rw[HZ];omega
 rw[if_neg z2,if_neg z2];have hne:0<fs.length:=by
  cases fs with
  | nil=>cases vs with
   | nil=>exact absurd h2 (by decide)
   | cons v r=>exact t1.elim
  | cons f r=>exact Mz _
 refine wpAny_bind (kat_kind t1 hne t2 hT2 ?_);refine wpAny_bind (wpAny_mono (wd (a₀:=pairsOf vs) (st:=SortSt.mk' (tuples' (T != Value.type "tuple")) (vs.toArray.zip vs.toArray) #[] 7 none) (Q:=fun _ z=>(arrOf z).Perm (pairsOf vs)/\failedOf z=none/\SortedTo (arrOf z) (pairsOf vs).size)
  t3 (Array.Perm.refl _) hkd.symm rfl rfl (by rw[pairsOf_size];exact h2) (by rw[pairsOf_size];exact gX) fun z a1 a2 a3=>⟨a1,a2,a3⟩) ?_ fun _ _ e=>e)
 rintro⟨⟨⟩,z⟩ s2 ⟨rfl,hp,hf,hs⟩;dsimp only;have zs:((arrOf z).map (·.2)).size<=sizeLine+1:=by
  rw[L4,hp.size_eq,pairsOf_size,sizeLine_eq];omega
 refine wpAny_bind (seqEpoch_at hk2 rfl (wpAny_bind (listUpdate_at hk2 rfl ?_ (hsz2:=zs))));rw[hf];dsimp only;rw[bne_self_eq_false];obtain⟨b1,b2⟩:=mQ hr hp hs;exact wpAny_pure (h _ b1 b2)
theorem pH [RkP]{l:Addr}{vs fs:List Value}{rk:Value->Int}{T:Value}{Q:Value->Shared->Prop}(hr:∀ p:Keyed,num p=rk p.1)(hkd:RkP.kd=tuples' (T != Value.type "tuple"))(hT2:(T == T)=true)(hl:s.heap.IsList l vs.toArray)(h2:2<=vs.length)(gX:vs.length<64)
  (hT:∀ (A':Around) (h':Heap),(∀ b o,s.heap.get? b=some o->h'.get? b=some o)->KatTups h' vs fs/\(∀ v∈fs,Looks (model prog w) h' (typeOf v) T)/\IKA prog w A' { s with heap:=h' } (pairsOf vs))
  (h:∀ out:Array Value,out.toList.Perm vs->(out.toList.Pairwise fun u v=>rk u<=rk v)->Q (.ref (s.heap.objs.size+1)) { s with heap:=sortedAll s.heap vs out }):wpAny (model prog w) A (call (.builtin "sorted") [.ref l]) Q E s:=by
 have z:((s.heap.push (seqObj "list" #[] 0)).update s.heap.objs.size (Obj.mapSeq (· ++ vs.toArray))).objs.size=s.heap.objs.size+1:=(K3 _ _ _).trans (size_push' _ _);have hL:(((s.heap.push (seqObj "list" #[] 0)).update s.heap.objs.size (Obj.mapSeq (· ++ vs.toArray))).push (seqObj "list" vs.toArray 0)).get? (s.heap.objs.size+1)=some (seqObj "list" vs.toArray 0):=z ▸ Ir _ rfl;have keep:∀ b o,s.heap.get? b=some o->b≠s.heap.objs.size+1/\(((s.heap.push (seqObj "list" #[] 0)).update s.heap.objs.size (Obj.mapSeq (· ++ vs.toArray))).push (seqObj "list" vs.toArray 0)).get? b=some o:=fun b o q=>by
  have hlt:b<s.heap.objs.size:=Il q;have hne:b≠s.heap.objs.size:=IB hlt;have EX:b≠s.heap.objs.size+1:=IB (JB hlt);refine⟨EX,?_⟩;rw[KW _ _ _ (by rw[z];exact EX),KG _ _ _ _ hne,KW _ _ _ hne];exact q
 refine Calls.call_function_entry kind_sorted plain_sorted entry_sorted (args_sorted1 _) ?_;unfold Builtin.«sorted»;refine wpAny_bind (m:=checkCount "sorted" 1 1 _) (wpAny_pure (wpAny_bind (collect_list hl (wpAny_bind (wpAny_newList ?_ (by rw[sizeLine_eq];omega))) (hsz:=by rw[sizeLine_eq];omega))));show wpAny _ _ _ _ _ { s with heap:=((s.heap.push (seqObj "list" #[] 0)).update s.heap.objs.size (Obj.mapSeq (· ++ vs.toArray))).push (seqObj "list" vs.toArray 0) };rw[z];refine wpAny_bind (wpAny_holding (wpAny_call_entry slot_list_sort ⟨_,hL,rfl⟩ entry_list_sort (uM (fs:=fs) hr hkd hT2 hL h2 gX (fun h' hk=>?_) fun out a1 a2=>⟨_,rfl,wpAny_pure ⟨_,rfl,h out a1 a2⟩⟩) (args_list_sort _)));exact hT _ h' fun b o q=>hk b o (keep b o q).1 (keep b o q).2
end
end dB
namespace L2
open PySem PySem.Spec PyProof.Rows dB
section
variable {X:Cx}
theorem oP (str:Bool):eI X (.builtin "sorted") (fun xs H Q=>∃ (p:Addr) (ts:List Addr) (g:Addr->Int),xs=[.ref p]/\SqL X.K H p (ts.map V.ref)/\ts.length<64/\(∀ t∈ts,∃ vs,H t=some (.tup vs)/\PrV str vs (g t)) /\
  ∀ (us:List Addr) (l:Addr),us.Perm ts->(us.Pairwise fun t u=>g t<=g u)->H l=none->Q (.ref l) (upd H l (.lst (us.map V.ref)))):=by
 intro pins s σ H xs us Q I r h;obtain⟨p,ts,g,rfl,hq,gX,ht,q⟩:=h;obtain⟨u,rfl,ru⟩:=r.one;cases ru;obtain⟨its,rv,pl,hz⟩:=I.list hq;obtain rfl:=qq rv;have hpr:∀ t∈ts,Pr s.heap str (.ref t) (g t):=fun t hm=>by
  obtain⟨vs,e1,e2⟩:=ht t hm;exact EW I e1 e2
 have hfr:H (s.heap.objs.size+1)=none:=I.hok.fresh (Kj _);have fin:∀ (out:Array Value),out.toList.Perm (ts.map Value.ref)->(out.toList.Pairwise fun u v=>rkO s.heap str u<=rkO s.heap str v)->EP X pins σ Q (.ref (s.heap.objs.size+1)) { s with heap:=sortedAll s.heap (ts.map Value.ref) out }:=fun out a1 a2=>by
  obtain⟨ws,e,hw⟩:=qr a1;obtain⟨c,he⟩:=sortedAll_at s.heap (ts.map Value.ref) out;have hg:∀ t∈ws,rkO s.heap str (.ref t)=g t:=fun t hm=>zY (hpr t (hw.mem_iff.mp hm))
  have a3:ws.Pairwise fun t u=>g t<=g u:=by
   rw[e,IJ] at a2;refine List.Pairwise.imp_of_mem (fun {x y} hx hy z=>?_) a2;rw[hg x hx,hg y hy] at z;exact z
  refine⟨.ref (s.heap.objs.size+1),_,I.laid (a:=s.heap.objs.size+1) (o:=.lst (ws.map V.ref)) (t':=s.toks) (fun b o=>sortedAll_old) (Kj _) ⟨?_,out.toList,c,by rw[e];exact kl ws,by simpa[seqObj] using he⟩,rfl,q ws _ hw a3 hfr⟩;rw[HQ,hw.length_eq];have:=sizeLine_eq;omega
 by_cases c:2<=ts.length
 ·letI:=Dr s.heap str
  obtain⟨fs,k1,k2⟩:=kat_tups (h:=s.heap) (str:=str) ts fun t hm=>⟨_,hpr t hm⟩
  refine pH (fs:=fs) (rk:=rkO s.heap str) (T:=tyP str) (fun p=>rfl) (by cases str <;> rfl) (by cases str <;> rfl) pl.isList (by rw[HQ];exact c) (by rw[HQ];exact gX) (fun A' h' hk=>?_) fun out a1 a2=>fin out a1 a2
  refine⟨oO hk k1,fun v hv=>?_,fun p hp=>?_,Br hk⟩
  ·rcases k2 v hv with ⟨s1,i,u,rfl⟩ | ⟨s1,z,u,rfl⟩
   ·subst s1;exact .now
   ·subst s1;exact .now
  ·have ez:(pairsOf (ts.map Value.ref)).toList=(ts.map Value.ref).zip (ts.map Value.ref):=by unfold pairsOf;simp
   rw[ez] at hp;obtain⟨t,hm,e⟩:=HW.mp (KJ hp).1;exact⟨g t,by rw[<- e];exact hpr t hm⟩
 ·refine wa pl.isList (by rw[HQ];omega) (fin _ (by simp) ?_)
  match ts,c with
  | [],_=>exact List.Pairwise.nil
  | [t],_=>exact Lu _ _
  | _::_::_,c=>exact absurd (by simp) c
end
end L2


set_option maxHeartbeats 4000000
namespace L2T
open PySem PySem.Spec PyProof.Rows L2
section
variable {X:Cx}{pins:List (Addr×Obj)}{σ:L2.St}{H:Hp}{A:Around}{E:Value->Shared->Prop}{s:Shared}{a kS:Addr}{vs:List Value}{kz:List Int}{keys:Array Value}{e e1:Nat}{P:PySem.Fin->Shared->Prop}
theorem uN {st:SortSt}(I:Inv X pins σ H s)(na:s.heap.get? a=some (seqObj "list" #[] e1))(nk:s.heap.get? kS=some (seqObj "list" keys e))(hka:kS≠a)(fa:gH X pins H a)(fk:gH X pins H kS)
  (hk:IntsAre keys.toList kz) (hlen:kz.length=vs.length) (gX:vs.length<64) (hp:(arrOf st).Perm (keys.zip vs.toArray)) (hs:SortedTo (arrOf st) (arrOf st).size) (hfl:failedOf st=none)
  (h:∀ s' out c,Inv X pins σ H s'->s'.heap.get? a=some (seqObj "list" out c)->KskOut false kz vs out.toList->P (.done (.ret .none)) s') :
  wpAny (model X.prog X.w) A (ksk_tail a false e1 (.ref kS) st) P E s:=by
 have hsz:keys.size=vs.length:=by
  have h1:=hk.length;rw[Jb] at h1;omega
 have hsz2:(arrOf st).size=vs.length:=by rw[hp.size_eq,MY,hsz,HZ,MC]
 have s1:=Heap.SameBut.update s.heap kS (Obj.mapSeq fun _=>(#[]:Array Value));have na1:(s.heap.update kS (Obj.mapSeq fun _=>(#[]:Array Value))).get? a=some (seqObj "list" #[] e1):=(s1.2 a hka.symm).trans na;have s2:=Heap.SameBut.update (s.heap.update kS (Obj.mapSeq fun _=>(#[]:Array Value))) a (Obj.mapSeq fun _=>(arrOf st).map (·.2));obtain⟨c2,hc2⟩:∃ c2,((s.heap.update kS (Obj.mapSeq fun _=>(#[]:Array Value))).update a (Obj.mapSeq fun _=>(arrOf st).map (·.2))).get? a=some (seqObj "list" ((arrOf st).map (·.2)) c2) :=
  ⟨_,get?_update_seq na1 fun _=>(arrOf st).map (·.2)⟩
 unfold ksk_tail
 try dsimp only
 refine wpAny_bind (listUpdate_at nk rfl ?_ (by rw[hsz,sizeLine_eq];omega) (IT _));refine wpAny_bind (wpAny_letGo ?_);refine wpAny_bind (seqEpoch_at na1 rfl ?_);refine wpAny_bind (listUpdate_at na1 rfl ?_ (IT _) (by show ((arrOf st).map (·.2)).size<=_;rw[L4,hsz2,sizeLine_eq];omega));rw[hfl];simp only[bne_self_eq_false,Jl,if_false];obtain⟨f0,f1,f2,f3,f4,f5⟩:=fk;obtain⟨g0,g1,g2,g3,g4,g5⟩:=fa;have I1:Inv X pins σ H { s with heap:=s.heap.update kS (Obj.mapSeq fun _=>(#[]:Array Value)),toks:=s.toks }:=I.turned (t':=s.toks) (fun b o hb q=>(s1.2 b hb).trans q) f0 f1 f3 f4 f5;have I2:=I1.turned (h':=(s.heap.update kS (Obj.mapSeq fun _=>(#[]:Array Value))).update a (Obj.mapSeq fun _=>(arrOf st).map (·.2))) (t':=s.toks) (fun b o hb q=>(s2.2 b hb).trans q) g0 g1 g3 g4 g5;refine wpAny_pure (h _ _ c2 I2 hc2 ?_);have z:=ksk_out (b:=false) hk hp hs;simpa using z
theorem Bu (I:Inv X pins σ H s)(na:s.heap.get? a=some (seqObj "list" #[] e1))(nk:s.heap.get? kS=some (seqObj "list" keys e))(hka:kS≠a)(fa:gH X pins H a)(fk:gH X pins H kS)
  (hk:IntsAre keys.toList kz) (hlen:kz.length=vs.length) (gX:vs.length<64)
  (h:∀ s' out c,Inv X pins σ H s'->s'.heap.get? a=some (seqObj "list" out c)->KskOut false kz vs out.toList->P (.done (.ret .none)) s') :
  wpAny (model X.prog X.w) A (ksk_end a false vs.toArray e1 (.ref kS) keys) P E s:=by
 have hsz:keys.size=vs.length:=by
  have h1:=hk.length;rw[Jb] at h1;omega
 have hzs:(keys.zip vs.toArray).size=vs.length:=by rw[MY,hsz,HZ,MC]
 unfold ksk_end
 try dsimp only
 simp only[Jl,if_false];by_cases h2:vs.toArray.size<2
 ·rw[if_pos h2,if_pos h2];refine wpAny_bind (wpAny_pure ?_);rw[StateT.run_pure];refine wpAny_bind (wpAny_pure ?_)
  try dsimp only
  refine uN (st:=SortSt.mk' general' (keys.zip vs.toArray) #[] 7 none) I na nk hka fa fk hk hlen gX (Array.Perm.refl _) ?_ rfl h;intro i j hij hj;have hj2:j<(keys.zip vs.toArray).size:=hj;rw[hzs] at hj2;rw[HZ] at h2;have:i=j:=by omega
  subst this;exact KD _
 ·rw[if_neg h2,if_neg h2];rw[HZ] at h2;rw[ksk_kind hk (by rw[hsz];omega)];refine wpAny_bind (wpAny_pure ?_);have fin:∀ st',(arrOf st').Perm (keys.zip vs.toArray)->failedOf st'=none->SortedTo (arrOf st') (keys.zip vs.toArray).size->wpAny (model X.prog X.w) A (ksk_tail a false e1 (.ref kS) st') P E s:=fun st' hp hf hs =>
   uN I na nk hka fa fk hk hlen gX hp (by rw[hp.size_eq];exact hs) hf h
  refine wpAny_bind (wpAny_mono (wpS_sortRuns (a₀:=keys.zip vs.toArray) (st:=SortSt.mk' oneType' (keys.zip vs.toArray) #[] 7 none)
   (Q:=fun _ st'=>(arrOf st').Perm (keys.zip vs.toArray)/\failedOf st'=none/\SortedTo (arrOf st') (keys.zip vs.toArray).size)
   (ksk_intKeys hk) ⟨Array.Perm.refl _,rfl,rfl,rfl⟩ (by rw[hzs];omega) (by rw[hzs];exact gX) fun st' a1 a2 a3=>⟨a1,a2,a3⟩) ?_ fun _ _ e=>e)
  rintro⟨⟨⟩,st'⟩ s' ⟨rfl,hp,hf,hs⟩;exact fin st' hp hf hs
noncomputable def rK (X:Cx)(σ:L2.St)(H:Hp)(A:Around)(f v:Value)(k:Int):Prop:=∀ (pins:List (Addr×Obj)) (s:Shared),Inv X pins σ H s ->
 wpAny (model X.prog X.w) A (call f [v]) (fun u s'=>(∃ t,u=.int k t)/\Inv X pins σ H s') (fun _ _=>False) s
theorem z6 {f:Value}(I:Inv X pins σ H s)(na:s.heap.get? a=some (seqObj "list" #[] e1))(nk:s.heap.get? kS=some (seqObj "list" #[] 0))(hka:kS≠a)(fa:gH X pins H a)(fk:gH X pins H kS)
  (hlen:kz.length=vs.length) (gX:vs.length<64) (turn:∀ (i:Nat) (v:Value) (k:Int),vs[i]?=some v->kz[i]?=some k->rK X σ H A f v k)
  (h:∀ s' out c,Inv X pins σ H s'->s'.heap.get? a=some (seqObj "list" out c)->KskOut false kz vs out.toList->P (.done (.ret .none)) s') :
  wpAny (model X.prog X.w) A (ksk_rest a f false vs.toArray e1 (.ref kS)) P E s:=by
 unfold ksk_rest;refine wpAny_bind (wpAny_rule ?_)
 first
  | rw[List.forIn_toArray]
  | (rw[<- Mh];simp only[List.toList_toArray])
  | rw[<- Mh]
 refine wpAny_bind (ksk_fold (fun i s'=>∃ kA e,Inv X pins σ H s'/\s'.heap.get? a=some (seqObj "list" #[] e1)/\s'.heap.get? kS=some (seqObj "list" kA e)/\IntsAre kA.toList (kz.take i)) vs 0 s
  ⟨#[],0,I,na,nk,by simpa using IntsAre.nil⟩ ?step ?done)
 case step =>
  rintro j x s' hx ⟨kA,e,I',na',nk',hk⟩;simp only[IZ] at hk ⊢;have hj:j<vs.length:=(HR.mp hx).1;obtain⟨k,hkj⟩:∃ k,kz[j]?=some k:=⟨_,HP (by omega)⟩
  have hz:kA.size<=vs.length:=by
   have h1:=hk.length;rw[Jb,Iw] at h1;omega
  have I2:Inv X (pins++[(a,seqObj "list" #[] e1),(kS,seqObj "list" kA e)]) σ H s':=I'.qM fun p hp=>by
   rcases Ic.mp hp with hp | hp
   ·exact I'.pin p (Ip _ hp)
   ·rcases IA.mp hp with rfl | hp
    ·exact⟨na',fa.1,fa.2.1,fa.2.2.1,fun v z=>by cases z⟩
    ·rw[Ih.mp hp];exact⟨nk',fk.1,fk.2.1,fk.2.2.1,fun v z=>by cases z⟩
  refine wpAny_bind (wpAny_attempt (wpAny_mono (turn j x k hx hkj _ s' I2) (fun v s'' he=>?_) fun _ _ hF=>hF.elim));obtain⟨⟨t2,rfl⟩,I3⟩:=he
  try dsimp only
  have na3:=(I3.pin (a,seqObj "list" #[] e1) (Ip _ (Ip _ (.head _)))).1;have nk3:=(I3.pin (kS,seqObj "list" kA e) (Ip _ (Ip _ (.tail _ (.head _))))).1;have I4:=I3.iz;have s1:=Heap.SameBut.update s''.heap kS (Obj.mapSeq (·.push (.int k t2)));obtain⟨c2,hc2⟩:∃ c2,(s''.heap.update kS (Obj.mapSeq (·.push (.int k t2)))).get? kS=some (seqObj "list" (kA.push (.int k t2)) c2):=⟨_,get?_update_seq nk3 (·.push (.int k t2))⟩
  have ek:kz.take (j+1)=kz.take j++[k]:=by rw[KU,hkj];simp
  have ea:(kA.push (Value.int k t2)).toList=kA.toList++[Value.int k t2]:=by simp
  refine wpAny_bind (listUpdate_at nk3 rfl ?_ (by rw[sizeLine_eq];omega) (Jk (Le (Ju ..)) (by rw[sizeLine_eq];omega)));obtain⟨f0,f1,f2,f3,f4,f5⟩:=fk;refine wpAny_pure ⟨rfl,kA.push (.int k t2),c2,I4.turned (t':=s''.toks) (fun b o hb q=>(s1.2 b hb).trans q) f0 f1 f3 f4 f5,(s1.2 a hka.symm).trans na3,hc2,by rw[ea,ek];exact ksk_snoc hk⟩
 case done =>
  rintro s' ⟨kA,e,I',na',nk',hk⟩;have hk':IntsAre kA.toList kz:=by
   have e3:kz.take (0+vs.length)=kz:=J7 (by omega);rw[e3] at hk;exact hk
  try dsimp only
  refine wpAny_bind (listItems_at nk' rfl ?_);exact Bu I' na' nk' hka fa fk hk' hlen gX h
theorem z8 {f:Value}{n:Nat}(I:Inv X pins σ H s)(ho:s.heap.get? a=some (seqObj "list" vs.toArray n))(fa:gH X pins H a)
  (hlen:kz.length=vs.length) (gX:vs.length<64) (turn:∀ (i:Nat) (v:Value) (k:Int),vs[i]?=some v->kz[i]?=some k->rK X σ H A f v k)
  (h:∀ s' out c,Inv X pins σ H s'->s'.heap.get? a=some (seqObj "list" out c)->KskOut false kz vs out.toList->P (.done (.ret .none)) s') :
  wpAny (model X.prog X.w) A (ksk_tree a f false) P E s:=by
 have ha:a<s.heap.objs.size:=Il ho;have s1:=Heap.SameBut.update s.heap a (Obj.mapSeq fun _=>(#[]:Array Value));obtain⟨e1,ho1⟩:∃ e1,(s.heap.update a (Obj.mapSeq fun _=>(#[]:Array Value))).get? a=some (seqObj "list" #[] e1):=⟨_,get?_update_seq ho fun _=>#[]⟩
 have hkS:((s.heap.update a (Obj.mapSeq fun _=>(#[]:Array Value))).push (seqObj "tuple" vs.toArray 0)).objs.size=s.heap.objs.size+1:=by rw[size_push',K3]
 obtain⟨g0,g1,g2,g3,g4,g5⟩:=id fa;have I1:Inv X pins σ H { s with heap:=s.heap.update a (Obj.mapSeq fun _=>(#[]:Array Value)),toks:=s.toks }:=I.turned (t':=s.toks) (fun b o hb q=>(s1.2 b hb).trans q) g0 g1 g3 g4 g5;have I2:Inv X pins σ H { s with heap:=((s.heap.update a (Obj.mapSeq fun _=>(#[]:Array Value))).push (seqObj "tuple" vs.toArray 0)).push (seqObj "list" #[] 0),toks:=s.toks }:=I1.kept (t':=s.toks) fun b o q=>HU _ (HU _ q)
 unfold ksk_tree;refine wpAny_bind (listItems_at ho rfl ?_);refine wpAny_bind (listUpdate_at ho rfl ?_ (by rw[HZ,sizeLine_eq];omega) (IT _));refine wpAny_bind (seqEpoch_at ho1 rfl ?_);refine wpAny_bind (wpAny_newTuple ?_ (by show vs.length<=_;rw[sizeLine_eq];omega));refine wpAny_bind (wpAny_newList ?_ (IT _));refine wpAny_holding ?_;have fk:gH X pins H ((s.heap.update a (Obj.mapSeq fun _=>(#[]:Array Value))).push (seqObj "tuple" vs.toArray 0)).objs.size:=by
  rw[hkS];exact I.qO (Kj _) (I.hok.fresh (Kj _))
 refine z6 (s:={ s with heap:=((s.heap.update a (Obj.mapSeq fun _=>(#[]:Array Value))).push (seqObj "tuple" vs.toArray 0)).push (seqObj "list" #[] 0) }) (kS:=((s.heap.update a (Obj.mapSeq fun _=>(#[]:Array Value))).push (seqObj "tuple" vs.toArray 0)).objs.size)
  I2 (HU _ (HU _ ho1)) (Ir _ rfl) (by rw[hkS];exact J9 (JB ha)) fa fk hlen gX turn h
end
section
variable {X:Cx}{pins:List (Addr×Obj)}{σ:L2.St}{H:Hp}{E:Value->Shared->Prop}{s:Shared}{A:Around}{l:Addr}{vs:List Value}{kz:List Int}{Q:Value->Shared->Prop}
theorem we {q:Addr}(I:Inv X pins σ H s)(hl:s.heap.IsList l vs.toArray)(hlen:kz.length=vs.length)(gX:vs.length<64)
  (turn:∀ (i:Nat) (v:Value) (k:Int),vs[i]?=some v->kz[i]?=some k->rK X σ H A.in1.in1 (.ref q) v k)
  (h:∀ D s' out c,Inv X pins σ H s'->s'.heap.get? D=some (seqObj "list" out c)->gH X pins H D->KskOut false kz vs out.toList->Q (.ref D) s') :
  wpAny (model X.prog X.w) A (call (.builtin "sorted") [.ref l] [(Str.ofString "key",.ref q)]) Q E s:=by
 refine call_function_entry_kw kind_sorted plain_sorted entry_sorted (ksk_s1 _ _) ?_;unfold Builtin.«sorted»;refine wpAny_bind (m:=checkCount "sorted" 1 1 _) (wpAny_pure ?_);refine wpAny_bind (collect_list hl ?_ (by rw[sizeLine_eq];omega));refine wpAny_bind (wpAny_newList ?_ (by rw[sizeLine_eq];omega));have hsz:((s.heap.push (seqObj "list" #[] 0)).update s.heap.objs.size (Obj.mapSeq (· ++ vs.toArray))).objs.size=s.heap.objs.size+1:=by
  rw[K3,size_push']
 have hoL:(((s.heap.push (seqObj "list" #[] 0)).update s.heap.objs.size (Obj.mapSeq (· ++ vs.toArray))).push (seqObj "list" vs.toArray 0)).get? (s.heap.objs.size+1)=some (seqObj "list" vs.toArray 0):=by
  rw[<- hsz];exact Ir _ rfl
 have keep:∀ b o,s.heap.get? b=some o->(((s.heap.push (seqObj "list" #[] 0)).update s.heap.objs.size (Obj.mapSeq (· ++ vs.toArray))).push (seqObj "list" vs.toArray 0)).get? b=some o:=fun b o q=>by
  have hlt:b<s.heap.objs.size:=Il q;rw[KW _ _ _ (by rw[hsz];exact IB (JB hlt)),KG _ _ _ _ (IB hlt),KW _ _ _ (IB hlt)];exact q
 show wpAny _ _ _ _ _ { s with heap:=((s.heap.push (seqObj "list" #[] 0)).update s.heap.objs.size (Obj.mapSeq (· ++ vs.toArray))).push (seqObj "list" vs.toArray 0) };rw[hsz];refine wpAny_bind (wpAny_holding (wpAny_call_entry_kw slot_list_sort ⟨_,hoL,rfl⟩ entry_list_sort ?body (ksk_l1 _ _)))
 case body =>
  show wpAny (model X.prog X.w) A.in1.in1 (Builtin.«list.sort» ⟨[.ref (s.heap.objs.size+1)],[(Str.ofString "key",.ref q)]⟩) _ _ _;rw[ksk_t1];refine z8 (s:={ s with heap:=((s.heap.push (seqObj "list" #[] 0)).update s.heap.objs.size (Obj.mapSeq (· ++ vs.toArray))).push (seqObj "list" vs.toArray 0) }) (I.kept (t':=s.toks) keep) hoL (I.qO (Kj _) (I.hok.fresh (Kj _))) hlen gX turn fun s3 out c i3 n3 k3=>⟨_,rfl,?_⟩
  exact wpAny_pure ⟨_,rfl,h _ s3 out c i3 n3 (I.qO (Kj _) (I.hok.fresh (Kj _))) k3⟩
end
end L2T
namespace L2
open PySem PySem.Spec PyProof.Rows
section
variable {X:Cx}
noncomputable def Bv (K:HS)(sp:Sp)(ta:TA):TE:=fun σ H Q=>ta σ H fun vs H1=>∃ (l:Addr) (xs:List V) (kz:List Int),vs=[.ref l]/\SqL K H1 l xs/\kz.length=xs.length/\xs.length<64 /\
 (∀ (i:Nat) (v:V) (k:Int),xs[i]?=some v->kz[i]?=some k->∀ Q':VK,Q' (.int k) H1->sp [v] H1 Q' (fun _ _ _=>False)) /\
 ∀ (l':Addr) (ps:List (Int×V)),ps.Perm (kz.zip xs)->ps.Pairwise (fun p q=>p.1<=q.1)->H1 l'=none->Q (.ref l') (upd H1 l' (.lst (ps.map (·.2))))
theorem yC {x:Str}{st:Stmt}{p1:Str}{f:Addr}{fd:FuncData}{k:Nat}{sp:Sp}{e:Expr}{t:TA}{p pos kp np:Pos}(hg:Gl X "sorted")(hm:X.mg "sorted" = none)(G:aS X.prog X.w X.K X.mg X.base CX0 k f fd [p1] sp)(F:Fn X.K X.mg x st [p1] f fd)(hr:eG (k+2) X.A)(ha:PA X [e] t)
  (hgx:Gl X x:=by rfl) (hdb:(x == ("__debug__":Str))=false:=by decide) (hs:starEach [e] X.env=[(false,eval e X.env)]:=by rfl) :
  PE X (.Call (.Name "sorted" p) [e] [⟨some "key",.Name x np,kp⟩] pos) (Bv X.K sp t):=by
 intro pins s σ H Q I h;refine wpAny_Call_Name_kw (jZ I hg hm lX ?_);refine MZ (rest:=[]) (thn (ha pos pins s σ H _ I h) fun us s1 ⟨vs,H1,I1,r1,q1⟩=>?_) (by rw[hs];rfl) (by rw[hs];rfl) rfl rfl;refine thn (AU (nm:=some "key") (kpos:=kp) (wO (v:=.ref f) hgx F.g rfl hdb) CI pos pins s1 σ H1 _ I1 (show pX (tC (.ref f)) AS σ H1 (fun zs H2=>zs=[.ref f]/\H2=H1) from ⟨rfl,rfl⟩)) fun ks s2 ⟨zs,H2,I2,rz,q2⟩=>?_
 obtain⟨rfl,e2⟩:=q2;subst e2;obtain⟨ku,rfl,rk⟩:=rz.one;cases rk;obtain⟨l,xs,kz,rfl,hq,hlen,gX,hk,q⟩:=q1;obtain⟨lu,rfl,rl⟩:=r1.one;cases rl;show wpAny _ _ (call (.builtin "sorted") [.ref l] [(Str.ofString "key",.ref f)]) _ _ _;obtain⟨its,rv,pl,hz⟩:=I2.list hq;have hli:=rv.length;refine L2T.we (kz:=kz) I2 pl.isList (by omega) (by omega) (fun i v kk hv hki=>?_) fun D s3 out c I3 hD fD ho=>?_
 ·intro yU s' I';obtain⟨hi,ei⟩:=HR.mp hv;obtain⟨y,hy,ry⟩:=gn rv (show i<its.toArray.size by rw[HZ];exact hi);have ry:RelV y v:=by
   have z:its.toArray[i]'(by rw[HZ];exact hi)=its[i]:=by simp
   rw[z,ei] at ry;exact ry
  have hsp:=hk i y kk hy hki (fun v' H'=>v'=.int kk/\H'=H2) ⟨rfl,rfl⟩;refine wpAny_call (codeAny_mono (G.run X.A.in1.in1 X.stack s' H2 ⟨[v],[]⟩ [v] [y] _ _ hr.in1.in1 I'.Eo.in1.in1 (F.b s' [v] I'.kIn rfl) (.cons ry .nil) hsp) fun r s'' hq'=>?_);cases r with
  | error e=>exact hq'.elim
  | ok fl =>
   cases fl with
   | ret u =>
    obtain⟨y',H',I'',ry',rfl,rfl⟩:=I'.after hq';exact⟨ry',I''⟩
   | next=>exact False.elim hq'
   | brk=>exact False.elim hq'
   | cont=>exact False.elim hq'
 ·obtain⟨ps,hp,ho2,hpw⟩:=ho;obtain⟨qs,hqp,hqa⟩:=zL hp (xo rv kz);have Gn:=xp hqa;have EY:Vals (qs.map (·.2)) out.toList:=by rw[ho2];exact uk hqa
  have Gp:qs.Pairwise fun p q=>p.1<=q.1:=by
   have z:(ps.map (·.1)).Pairwise (·<=·):=by rw[IJ];exact hpw.imp fun h=>by simpa using h
   rw[Gn,IJ] at z;exact z
  have hlq:(qs.map (·.2)).length<=sizeLine:=by
   rw[HQ,hqp.length_eq,MV];have:=sizeLine_eq;omega
  exact⟨.ref D,_,I3.adopt fD (show bL X.prog X.w (upd H2 D (.lst (qs.map (·.2)))) s3.heap D (.lst (qs.map (·.2))) from ⟨hlq,out.toList,c,EY,by simpa[seqObj] using hD⟩),rfl,q D qs hqp Gp fD.1⟩
end
end L2

namespace Mir
open PySem L2
noncomputable def lf (x:Th.Kd×Nat):List V:=[.str (ks x.1),.int (x.2:Nat)]
noncomputable def both (l:List Th.Kd):Bool:=decide (Th.Kd.bare∈l)&&decide (Th.Kd.tied∈l)
theorem mx (k:Th.Kd):∀ l:List Th.Kd,inV (.str (ks k)) (l.map fun x=>V.str (ks x))=decide (k∈l)
 | []=>rfl
 | y::r=>by
  have ih:=mx k r;unfold inV at ih ⊢;rw[Js,KL,ih];show ((ks y == ks k)||decide (k∈r))=decide (k∈y::r);by_cases c:k=y
  ·subst c;rw[decide_eq_true (Iq (a:=k) (l:=r)),beq_self_eq_true,Ms]
  ·have h1:(ks y == ks k)=false:=by
    rw[beq_eq_false_iff_ne];exact fun z=>c (oG _ _ z).symm
   rw[h1,M1];exact decide_eq_decide.mpr ⟨fun z=>Im _ z,fun z=>(IA.mp z).resolve_left c⟩
theorem oQ (l:List Th.Kd):(l.map fun x=>V.str (ks x)).all gY=true:=by
 rw[I0];intro v hv;obtain⟨x,_,rfl⟩:=HW.mp hv
 rfl
theorem TsT.EZ {α:Type}{f:α->List V}{H H':Hp}{l d:Addr}{xs:List α}{kv:List (Key×V)}(h:TsT f H l xs)(hd:H d=some (.dK kv))(s:∀ c o,c≠d->H c=some o->H' c=some o):TsT f H' l xs:=by
 obtain⟨ts,h1,h2,h3⟩:=h;exact⟨ts,s _ _ (fun z=>by rw[z,hd] at h1;cases h1) h1,h2,fun i t x e1 e2=>s _ _ (fun z=>by have q:=h3 i t x e1 e2;rw[z,hd] at q;cases q) (h3 i t x e1 e2)⟩
noncomputable def c9 (n:Nat)(ms os:List Nat)(i:Nat):List (Th.Kd×Nat):=(Th.LL (at0 ms) (at0 os) i).map fun m=>(Th.kd (at0 ms) (at0 os) m,Th.lack (2*n) (at0 ms) (at0 os) m)
open Classical in
theorem oR (n:Nat)(ms os:List Nat)(i:Nat):c9 n ms os (i+1)=c9 n ms os i++(if Th.aX (at0 ms) (at0 os) i then [(Th.kd (at0 ms) (at0 os) i,Th.lack (2*n) (at0 ms) (at0 os) i)] else []):=by
 unfold c9;rw[Th.xx,IS];congr 1
 split <;> rfl
theorem qu (n:Nat)(ms os:List Nat)(i:Nat):(c9 n ms os i).length<=i:=by unfold c9;rw[HQ];exact Th.Dh i
theorem yD {n:Nat}{ms os:List Nat}(W:ak n ms)(WO:ak n os):((c9 n ms os (2*n)).map (·.2)).sum<=n:=by
 have z:=Th.zW (aW W WO) (HV (2*n));have e:(c9 n ms os (2*n)).map (·.2)=(Th.LL (at0 ms) (at0 os) (2*n)).map (Th.lack (2*n) (at0 ms) (at0 os)):=by unfold c9;rw[Jf];rfl
 rw[e];omega
theorem fY.lacks {n:Nat}{ms os:List Nat}{ths:List (Th.Kd×List Nat)}(W:ak n ms)(WO:ak n os)(h:fY n ms os ths):ths.map (fun th=>(th.1,Th.jv th))=c9 n ms os (2*n):=Th.yw (aW W WO) h.1 h.2
variable (K:HS)
noncomputable def ko (C:Addr):Sp:=fun vs H Q E=>∃ (a b:Addr) (n m:Nat) (ms os:List Nat),vs=[.ref a,.ref b]/\n<=31/\SqT K H a (nV ms)/\ak n ms/\SqT K H b (nV os)/\os.length=2*m /\
 (n=m->ak n os/\∀ (l:Addr) (H':Hp) (ths:List (Th.Kd×List Nat)),aG H H'->fY n ms os ths->ThT H' l ths->H l=none->Q (.ref l) H')/\(n≠m->E (.ref C) none H)
noncomputable def uO (C:Addr):Sp:=fun vs H Q E=>∃ (a b:Addr) (n m:Nat) (ms os:List Nat),vs=[.ref a,.ref b]/\n<=31/\SqT K H a (nV ms)/\ak n ms/\SqT K H b (nV os)/\os.length=2*m /\
 (n=m->ak n os/\∀ H':Hp,aG H H'->Q (.int (Th.score (at0 ms) (at0 os) (2*n):Nat)) H')/\(n≠m->E (.ref C) none H)
noncomputable def uP (C:Addr):Sp:=fun vs H Q E=>∃ (a b:Addr) (n m:Nat) (ms os:List Nat),vs=[.ref a,.ref b]/\n<=31/\SqT K H a (nV ms)/\ak n ms/\SqT K H b (nV os)/\os.length=2*m /\
 (n=m->ak n os/\∀ H':Hp,aG H H'->Q (.int (aH n ms os:Nat)) H')/\(n≠m->E (.ref C) none H)
noncomputable def Bw:Sp:=fun vs H Q _=>∃ (a b:Addr) (n:Nat) (ms os:List Nat),vs=[.ref a,.ref b]/\H a=some (.lst (nV ms))/\ak n ms/\H b=some (.lst (nV os))/\ak n os /\
 ∀ (l:Addr) (H':Hp),aG H H'->TsT lf H' l (c9 n ms os (2*n))->Q (.ref l) H'
noncomputable def Bx:Sp:=fun vs H Q _=>∃ (l:Addr) (xs:List (Th.Kd×Nat)),vs=[.ref l]/\TsT lf H l xs/\xs.length<=100/\∀ H':Hp,aG H H'->Q (.bl (both (xs.map (·.1)))) H'
noncomputable def rL (n:Nat)(ms os:List Nat):Prop:=both ((c9 n ms os (2*n)).map (·.1))=false
end Mir

namespace Mir
open PySem L2
open Classical
section
variable {n:Nat}{ms os:List Nat}{l:List (Nat×Nat)}{kvs:List (List Key×V)}
theorem Dt (hn:n<=5):(g8 (2*n) (2*n)).length<=55:=by
 have h:n=0\/n=1\/n=2\/n=3\/n=4\/n=5:=by omega
 rcases h with rfl | rfl | rfl | rfl | rfl | rfl <;> decide
theorem By (hn:n<=5){ths:List (Th.Kd×List Nat)}(A:Th.eY (2*n) (at0 ms) (at0 os) ths):((Th.a9 ths).filter (cR n ms)).length<=55:=by
 have z:=Th.sub_len (A.nodup.filter (cR n ms)) (m:=g8 (2*n) (2*n)) fun c hc=>by
  obtain⟨b1,b2⟩:=A.bound (Ie.mp hc).1;exact gC.mpr ⟨by omega,b1,b2⟩
 have:=Dt hn;omega
end
variable (K:HS)
noncomputable def qv (C:Addr):Sp:=fun vs H Q E=>∃ (a b:Addr) (n m:Nat) (ms os:List Nat),vs=[.ref a,.ref b]/\n<=31/\SqT K H a (nV ms)/\ak n ms/\SqT K H b (nV os)/\os.length=2*m /\
 (n=m->n<=5/\ak n os/\∀ (l:Addr) (H':Hp) (ths:List (Th.Kd×List Nat)) (ys:List (Nat×Nat)),H l=none->aG H H'->fY n ms os ths->ys.Perm ((Th.a9 ths).filter (cR n ms))->(ys.Pairwise fun c d=>rkN c<=rkN d)->TsT pf H' l ys->Q (.ref l) H')/\(n≠m->E (.ref C) none H)
end Mir

namespace Mir
open PySem L2
open Classical
noncomputable def duL (n:Nat)(os ms:List Nat):List (Nat×Nat):=jV n ms os (g8 (2*n) (2*n))
section
variable {n:Nat}{ms os:List Nat}
theorem rM {c:Nat×Nat}(h:c∈duL n os ms):c.1<=c.2/\c.2<2*n/\at0 ms c.1≠c.2/\aH n (beh ms c.1 c.2) os+1=aH n ms os:=by
 unfold duL jV at h;rw[Ie,gC,decide_eq_true_iff] at h;exact⟨h.1.2.1,h.1.2.2,h.2.1,h.2.2.2⟩
theorem ky (W:ak n ms):aH n ms ms=0:=by
 have z:=(Th.iP (aW W W)).mpr fun x hx=>rfl
 unfold aH;omega
theorem wg (W:ak n ms)(WO:ak n os):aH n ms os=0↔ms=os:=by
 constructor
 ·intro h;rw[<- xB W WO];unfold jV;rw[JG];intro c hc hd;obtain⟨_,_,h3⟩:=of_decide_eq_true hd;omega
 ·intro h;subst h;exact ky W
theorem z9 (W:ak n ms)(WO:ak n os){k:Nat}(h:aH n ms os=k+1):∃ c,(duL n os ms).head?=some c:=by
 cases e:duL n os ms with
 | nil =>
  have z:=(xB W WO).mp e;rw[z,ky WO] at h;cases h
 | cons a r=>exact⟨a,rfl⟩
end
variable (K:HS)
end Mir

namespace Iso
open Th Classical
structure gu (N:Nat) (a b a' b' φ ψ:Nat->Nat):Prop where
 T:Two N a b
 T':Two N a' b'
 pl:∀ x,x<N->φ x<N
 ql:∀ x,x<N->ψ x<N
 qp:∀ x,x<N->ψ (φ x)=x
 pq:∀ x,x<N->φ (ψ x)=x
 fa:∀ x,x<N->φ (a x)=a' (φ x)
 fb:∀ x,x<N->φ (b x)=b' (φ x)
noncomputable def kc:Kd->Nat
 | .ring=>0
 | .odd=>1
 | .bare=>2
 | .tied=>3
section
variable {N:Nat}{a b a' b' φ ψ:Nat->Nat}
theorem gu.symm (I:gu N a b a' b' φ ψ):gu N a' b' a b ψ φ where
 T:=I.T'
 T':=I.T
 pl:=I.ql
 ql:=I.pl
 qp:=I.pq
 pq:=I.qp
 fa:=fun y hy=>by
  have h1:=I.ql y hy;have h2:=I.fa _ h1;rw[I.pq y hy] at h2;rw[<- h2,I.qp _ (I.T.fl _ h1)]
 fb:=fun y hy=>by
  have h1:=I.ql y hy;have h2:=I.fb _ h1;rw[I.pq y hy] at h2;rw[<- h2,I.qp _ (I.T.gl _ h1)]
theorem gu.inj (I:gu N a b a' b' φ ψ){x y:Nat}(hx:x<N)(hy:y<N):φ x=φ y↔x=y :=
 ⟨fun h=>by rw[<- I.qp x hx,h,I.qp y hy],fun h=>by rw[h]⟩
theorem gu.to (I:gu N a b a' b' φ ψ){x y:Nat}(hx:x<N)(c:ao a b x y):ao a' b' (φ x) (φ y) :=
 (c (fun z=>z<N/\ao a' b' (φ x) (φ z)) ⟨hx,ao.refl _⟩ fun z ⟨hz,q⟩=>⟨⟨I.T.fl z hz,by rw[I.fa z hz];exact q.sf⟩,⟨I.T.gl z hz,by rw[I.fb z hz];exact q.sg⟩⟩).2
theorem gu.conn (I:gu N a b a' b' φ ψ){x y:Nat}(hx:x<N)(hy:y<N):ao a b x y↔ao a' b' (φ x) (φ y) :=
 ⟨I.to hx,fun c=>by have z:=I.symm.to (I.pl x hx) c;rwa[I.qp x hx,I.qp y hy] at z⟩
theorem gu.la (I:gu N a b a' b' φ ψ){x:Nat}(hx:x<N):a x=x↔a' (φ x)=φ x:=by rw[<- I.fa x hx,I.inj (I.T.fl x hx) hx]
theorem gu.lb (I:gu N a b a' b' φ ψ){x:Nat}(hx:x<N):b x=x↔b' (φ x)=φ x:=by rw[<- I.fb x hx,I.inj (I.T.gl x hx) hx]
theorem gu.whole (I:gu N a b a' b' φ ψ){x:Nat}(hx:x<N)(h:aT a b x):aT a' b' (φ x):=fun y c=>by
 have hy:=c.lt I.T' (I.pl x hx);have z:=I.symm.to (I.pl x hx) c;rw[I.qp x hx] at z;obtain⟨h1,h2⟩:=h _ z;exact⟨fun e=>h1 ((I.symm.la hy).mp e),fun e=>h2 ((I.symm.lb hy).mp e)⟩
theorem gu.Cd (I:gu N a b a' b' φ ψ):(OL a b N).length<=(OL a' b' N).length:=by
 refine kR φ zv (fun u hu v hv e=>(I.inj (d9.mp hu).1 (d9.mp hv).1).mp e) fun u hu=>?_
 obtain⟨h1,h2,z,c,h3⟩:=d9.mp hu;exact d9.mpr ⟨I.pl u h1,(I.la h1).mp h2,φ z,I.to h1 c,(I.lb (c.lt I.T h1)).mp h3⟩
noncomputable def lst (N:Nat)(a b:Nat->Nat)(x:Nat):Nat:=if h:∃ m,ao a b x m/\m<N/\aX a b m then MG h else 0
theorem lst_is (T:Two N a b){x:Nat}(hx:x<N):ao a b x (lst N a b x)/\lst N a b x<N/\aX a b (lst N a b x):=by
 have h:=jl T hx;unfold lst;rw[dif_pos h];exact Ka h
theorem gu.Ce (I:gu N a b a' b' φ ψ):(RL a b N).length<=(RL a' b' N).length:=by
 refine kR (fun u=>lst N a' b' (φ u)) xf (fun u hu v hv e=>?_) fun u hu=>?_
 ·obtain⟨h1,h2,h3⟩:=bb.mp hu;obtain⟨k1,k2,k3⟩:=bb.mp hv;have c1:=(lst_is I.T' (I.pl u h1)).1;have c2:=(lst_is I.T' (I.pl v k1)).1;have c:ao a b u v:=(I.conn h1 k1).mpr (c1.trans (by rw[e];exact c2.symm I.T' (I.pl v k1)));have z1:=h2 v c;have z2:=k2 u (c.symm I.T h1);omega
 ·obtain⟨h1,h2,h3⟩:=bb.mp hu;obtain⟨c,hl,hL⟩:=lst_is I.T' (I.pl u h1);exact bb.mpr ⟨hl,hL,(I.whole h1 h3).of I.T' (I.pl u h1) c⟩
theorem gu.score (I:gu N a b a' b' φ ψ):score a b N=score a' b' N:=by
 have h1:=I.Cd;have h2:=I.symm.Cd;have h3:=I.Ce;have h4:=I.symm.Ce;unfold Th.score;omega
theorem gu.beh (I:gu N a b a' b' φ ψ){p q x:Nat}(hp:p<N)(hq:q<N)(hx:x<N):φ (Mir.c8 a p q x)=Mir.c8 a' (φ p) (φ q) (φ x):=by
 have ap:=I.T.fl p hp;have aq:=I.T.fl q hq;have e1:=I.inj hp hq;have e2:=I.inj hx hp;have e3:=I.inj hx hq;have e4:=I.inj hx ap;have e5:=I.inj hx aq;have e6:=I.inj aq hq;have e7:=I.inj ap hp;have f1:=I.fa p hp;have f2:=I.fa q hq;have f3:=I.fa x hx;unfold Mir.c8;rw[<- f1,<- f2,<- f3];simp only[e1,e2,e3,e4,e5,e6,e7,ne_eq]
 repeat' split
 all_goals first | rfl | exact f1 | exact f2 | exact f3
end
end Iso

namespace Iso
open Th Classical Mir
noncomputable def jP (n:Nat)(os ms:List Nat):List (List Nat):=(duL n os ms).map fun c=>beh ms c.1 c.2
section
variable {n:Nat}{ms os:List Nat}
theorem gv (W:ak n ms){w:List Nat}:w∈jP n os ms↔(∃ p q,iH n ms w p q)/\aH n w os+1=aH n ms os:=by
 unfold jP;rw[HW];constructor
 ·rintro⟨c,hc,rfl⟩;obtain⟨h1,h2,h3,h4⟩:=rM hc;exact⟨⟨c.1,c.2,h1,h2,h3,rfl⟩,h4⟩
 ·rintro⟨⟨p,q,h1,h2,h3,rfl⟩,h4⟩;have L:=gq W h1 h2 h3;obtain⟨⟨l1,l2,l3,l4⟩,hm⟩:=L;refine⟨bV ms p q,?_,l4⟩;unfold duL jV;rw[Ie,gC,decide_eq_true_iff];refine⟨⟨by omega,l1,l2⟩,l3,?_,by rw[l4];exact h4⟩;have L2:=gq W l1 l2 l3;rw[l4] at L2;obtain⟨z1,z2⟩:=L2.uniq ⟨⟨l1,l2,l3,l4⟩,hm⟩;exact Ls z1 z2
theorem Du:(duL n os ms).Nodup:=by
 unfold duL jV;refine List.Pairwise.filter _ ?_;by_cases h:2*n<=1000
 ·exact(qt h (2*n)).imp fun z e=>by rw[e] at z;omega
 ·unfold g8;rw[JX];refine⟨fun p _=>?_,?_⟩
  ·unfold zZ;exact eF Jg fun x _ y _ e=>by have:=(Prod.mk.inj e).2;omega
  ·refine Jg.imp fun {x y} e c hc d hd z=>?_
   have h1:=(iI.mp hc).1;have h2:=(iI.mp hd).1;exact e (by rw[<- h1,<- h2,z])
end
noncomputable def il (φ ψ:Nat->Nat)(w:List Nat):List Nat:=(Ig w.length).map fun y=>φ (at0 w (ψ y))
theorem dW (φ ψ:Nat->Nat)(w:List Nat):(il φ ψ w).length=w.length:=by unfold il;rw[HQ,Ij]
theorem iW (φ ψ:Nat->Nat){w:List Nat}{y:Nat}(h:y<w.length):at0 (il φ ψ w) y=φ (at0 w (ψ y)):=by
 unfold il at0;simp[Kb,HX,JS h]
section
variable {n:Nat}{ms os ms' os':List Nat}{φ ψ:Nat->Nat}
theorem nH {n:Nat}{ms:List Nat}(hn:n<=40)(hl:ms.length=2*n)(h1:∀ x,x<2*n->at0 ms x<2*n)(h2:∀ x,x<2*n->at0 ms (at0 ms x)=x):ak n ms:=⟨hn,hl,⟨h1,h2⟩⟩
noncomputable abbrev lB (n:Nat)(ms os ms' os':List Nat)(φ ψ:Nat->Nat):Prop:=gu (2*n) (at0 ms) (at0 os) (at0 ms') (at0 os') φ ψ
theorem my (I:lB n ms os ms' os' φ ψ){w:List Nat}(W:ak n w):ak n (il φ ψ w):=by
 have L:=dW φ ψ w;have A:=fun y (h:y<2*n)=>iW φ ψ (w:=w) (y:=y) (by rw[W.len];exact h)
 refine nH W.small (by rw[L,W.len]) (fun x hx=>?_) fun x hx=>?_
 ·rw[A x hx];exact I.pl _ (W.wk.lt _ (I.ql x hx))
 ·have z:=W.wk.lt _ (I.ql x hx);rw[A x hx,A _ (I.pl _ z),I.qp _ z,W.wk.inv _ (I.ql x hx),I.pq x hx]
theorem oS (I:lB n ms os ms' os' φ ψ){w:List Nat}(W:ak n w):lB n w os (il φ ψ w) os' φ ψ where
 T:=⟨W.wk.lt,I.T.gl,W.wk.inv,I.T.gg⟩
 T':=⟨(my I W).wk.lt,I.T'.gl,(my I W).wk.inv,I.T'.gg⟩
 pl:=I.pl
 ql:=I.ql
 qp:=I.qp
 pq:=I.pq
 fa:=fun x hx=>by rw[iW φ ψ (by rw[W.len];exact I.pl x hx),I.qp x hx]
 fb:=I.fb
theorem qw (I:lB n ms os ms' os' φ ψ){w:List Nat}(W:ak n w):il ψ φ (il φ ψ w)=w:=by
 refine gN (by rw[dW,dW]) fun e he=>?_
 rw[dW,dW] at he;have he':e<2*n:=by rw[<- W.len];exact he
 rw[iW ψ φ (by rw[dW];exact he),iW φ ψ (by rw[W.len];exact I.pl e he'),I.qp e he',I.qp _ (W.wk.lt e he')]
theorem wo (I:lB n ms os ms' os' φ ψ)(W:ak n ms)(W':ak n ms'){w:List Nat}(h:∃ p q,iH n ms w p q):∃ p q,iH n ms' (il φ ψ w) p q:=by
 obtain⟨p,q,h1,h2,h3,rfl⟩:=h;have hp:p<2*n:=by omega
 have key:∀ e,e<2*n->at0 (il φ ψ (beh ms p q)) e=c8 (at0 ms') (φ p) (φ q) e:=fun e he=>by
  have hq:=I.ql e he;rw[iW φ ψ (by rw[cQ,W.len];exact he),cD (by rw[W.len];exact hq),I.beh hp h2 hq,I.pq e he]
 have nf:at0 ms' (φ p)≠φ q:=fun z=>h3 ((I.inj (W.wk.lt p hp) h2).mp (by rw[I.fa p hp];exact z))
 have ln:(il φ ψ (beh ms p q)).length=2*n:=by rw[dW,cQ,W.len]
 by_cases c:φ p<=φ q
 ·refine⟨φ p,φ q,c,I.pl q h2,nf,gN (by rw[cQ,W'.len,ln]) fun e he=>?_⟩;rw[cQ] at he;rw[cD he,key e (by rw[<- W'.len];exact he)]
 ·have ne:φ q≠φ p:=by omega
  refine⟨φ q,φ p,by omega,I.pl p hp,fun z=>nf (by rw[<- z,W'.wk.inv _ (I.pl q h2)]),gN (by rw[cQ,W'.len,ln]) fun e he=>?_⟩;rw[cQ] at he;rw[cD he,key e (by rw[<- W'.len];exact he),qm ne]
theorem Aa (I:lB n ms os ms' os' φ ψ)(W:ak n ms)(W':ak n ms'){p q:Nat}(hp:p<2*n)(h2:q<2*n):il φ ψ (beh ms p q)=beh ms' (ord (φ p) (φ q)).1 (ord (φ p) (φ q)).2:=by
 have key:∀ e,e<2*n->at0 (il φ ψ (beh ms p q)) e=c8 (at0 ms') (φ p) (φ q) e:=fun e he=>by
  have hq:=I.ql e he;rw[iW φ ψ (by rw[cQ,W.len];exact he),cD (by rw[W.len];exact hq),I.beh hp h2 hq,I.pq e he]
 have ln:(il φ ψ (beh ms p q)).length=2*n:=by rw[dW,cQ,W.len]
 refine gN (by rw[cQ,W'.len,ln]) fun e he=>?_
 rw[ln] at he;rw[cD (by rw[W'.len];exact he),key e he];by_cases c:φ p<=φ q
 ·rw[dq c]
 ·have ne:φ q≠φ p:=by omega
  rw[gP,dq (by omega),qm ne]
theorem qx (I:lB n ms os ms' os' φ ψ):aH n ms os=aH n ms' os':=by unfold aH;rw[I.score]
theorem Ab (I:lB n ms os ms' os' φ ψ)(W:ak n ms)(W':ak n ms'){w:List Nat}(h:w∈jP n os ms):il φ ψ w∈jP n os' ms':=by
 obtain⟨h1,h2⟩:=(gv W).mp h;obtain⟨p,q,l1,l2,l3,rfl⟩:=id h1;have Ww:=dS W (by omega) l2 l3;exact(gv W').mpr ⟨wo I W W' h1,by rw[<- qx (oS I Ww),<- qx I];exact h2⟩
theorem oU (W:ak n ms){w:List Nat}(h:w∈jP n os ms):ak n w:=by
 obtain⟨⟨p,q,l1,l2,l3,rfl⟩,_⟩:=(gv W).mp h;exact dS W (by omega) l2 l3
end
end Iso

namespace Iso
open Th Mir
noncomputable def mt (t:Nat)(k:Nat)(l i:Nat):Nat:=bif IL ((t+i)%2) 0 then (bif Nat.blt (i+1) l then i+1 else bif IL k 0 then 0 else i) else (bif IL i 0 then (bif IL k 0 then l-1 else 0) else i-1)
noncomputable def tn (k:Nat):Nat:=bif IL k 1||IL k 2 then 1 else 0
noncomputable def can (u:Nat)(off:Nat):List Nat->List Nat
 | []=>[]
 | e::S=>(Ig (e/4)).map (fun i=>off+mt (u+tn (e%4)) (e%4) (e/4) i)++can u (off+e/4) S
theorem Cf (t k l i:Nat):mt t k l i=if (t+i)%2=0 then (if i+1<l then i+1 else if k=0 then 0 else i) else (if i=0 then (if k=0 then l-1 else 0) else i-1):=by
 unfold mt;have b1:Nat.blt (i+1) l=decide (i+1<l):=by
  by_cases h:i+1<l
  ·rw[decide_eq_true h];exact LO h
  ·rw[decide_eq_false h];exact Ky.mpr fun z=>h (LP z)
 have b2:∀ x y:Nat,IL x y=decide (x=y):=fun x y=>by
  by_cases h:x=y
  ·rw[decide_eq_true h,h];exact M8 y
  ·rw[decide_eq_false h];exact Ky.mpr fun z=>h (LQ z)
 rw[b1,b2,b2,b2];simp only[cond_eq_ite,decide_eq_true_eq]
theorem Cg (k:Kd):tn (kc k)=turn k:=by cases k <;> rfl
theorem Ci (k:Kd):kc k<4:=by cases k <;> decide
theorem rN (k:Kd):kc k=0↔k=.ring:=by cases k <;> decide
section
variable {N:Nat}{a b:Nat->Nat}{k:Kd}{L:List Nat}
theorem Gq (G:dU N a b k L)(T:Two N a b){i x:Nat}(h:L[i]?=some x):L[mt (0+tn (kc k)) (kc k) L.length i]?=some (a x):=by
 have hl:=(HR.mp h).1;rw[Cf,Cg,IZ];rcases G.mate T h with ⟨o,q | ⟨q1,q2,q3⟩⟩ | ⟨o,⟨q1,q2⟩ | ⟨q1,q2,q3⟩⟩
 ·have:=(HR.mp q).1;rw[if_pos o,if_pos this];exact q
 ·rw[if_pos o,if_neg (by omega),if_neg (by rw[rN,q3];exact(fun z=>nomatch z)),q2];exact h
 ·rw[if_neg (by omega),if_neg (by omega)];exact q2
 ·rw[if_neg (by omega),if_pos q1,if_neg (by rw[rN];rcases q3 with q3 | q3 <;> rw[q3] <;> exact(fun z=>nomatch z)),q2,<- q1];exact h
theorem Gr (G:dU N a b k L)(T:Two N a b){i x:Nat}(h:L[i]?=some x):L[mt (1+tn (kc k)) (kc k) L.length i]?=some (b x):=by
 have hl:=(HR.mp h).1;have par:=G.par;have F:=G.fin;have h0:=Ca h;have hL:=xu h;rw[Cf,Cg];by_cases o:(turn k+i)%2=1
 ·rw[if_pos (by omega)];by_cases c:i+1<L.length
  ·rw[if_pos c];have hy:=HP c;rw[G.bR h hy o];exact hy
  ·rw[if_neg c];have e:i=L.length-1:=by omega
   rw[<- e,h] at hL;have hL:=Option.some.inj hL;cases k with
   | ring=>rw[if_pos (show kc Kd.ring=0 from rfl),hL,F.1];exact h0
   | odd=>rw[if_neg (by decide),hL,F.2,<- hL];exact h
   | bare=>exact absurd o (by show ¬ (1+i)%2=1;have:¬ L.length%2=1:=(fun z=>by cases par.mp z);omega)
   | tied=>rw[if_neg (by decide),hL,F.2.1,<- hL];exact h
 ·rw[if_neg (by omega)];by_cases c:i=0
  ·rw[if_pos c];subst c;rw[h] at h0;have h0:=Option.some.inj h0;cases k with
   | ring =>
    have hl':=G.ltx hL;rw[if_pos (show kc Kd.ring=0 from rfl),hL,h0,<- F.1,T.gg _ hl']
   | odd=>exact absurd (by show (1+0)%2=1;decide) o
   | bare=>exact absurd (by show (1+0)%2=1;decide) o
   | tied=>rw[if_neg (by decide),h0,F.1,<- h0];exact h
  ·rw[if_neg c];obtain⟨y,hy⟩:∃ y,L[i-1]?=some y:=⟨_,HP (by omega)⟩
   have h':L[i-1+1]?=some x:=by rw[show i-1+1=i by omega];exact h
   have e:=G.bR hy h' (by omega);rw[<- e,T.gg y (G.ltx hy)];exact hy
end
noncomputable def ec (th:Kd×List Nat):Nat:=4*th.2.length+kc th.1
theorem oV (th:Kd×List Nat):ec th/4=th.2.length:=by unfold ec;have:=Ci th.1;omega
theorem rO (th:Kd×List Nat):ec th%4=kc th.1:=by unfold ec;have:=Ci th.1;omega
noncomputable def flt (ths:List (Kd×List Nat)):List Nat:=(ths.map (·.2)).flatten
theorem rP (u:Nat):∀ (ths:List (Kd×List Nat)) (off:Nat),(can u off (ths.map ec)).length=(flt ths).length
 | [],_=>rfl
 | th::r,off=>by
  show ((Ig (ec th/4)).map _++can u (off+ec th/4) (r.map ec)).length=(th.2++flt r).length;rw[HY,HY,HQ,Ij,rP u r,oV]
theorem xC (u:Nat)(f:Nat->Nat):∀ (ths:List (Kd×List Nat)) (pre:List Nat),(∀ th∈ths,∀ (i x:Nat),th.2[i]?=some x->th.2[mt (u+tn (kc th.1)) (kc th.1) th.2.length i]?=some (f x)) ->
  ∀ (j x:Nat),(flt ths)[j]?=some x->∃ m:Nat,(can u pre.length (ths.map ec))[j]?=some m/\(pre++flt ths)[m]?=some (f x)
 | [],pre,_,j,x,h=>by simp[flt] at h
 | th::r,pre,g,j,x,h=>by
  have hf:flt (th::r)=th.2++flt r:=rfl;have hc:can u pre.length ((th::r).map ec)=(Ig (ec th/4)).map (fun i=>pre.length+mt (u+tn (ec th%4)) (ec th%4) (ec th/4) i)++can u (pre.length+ec th/4) (r.map ec):=rfl;rw[oV,rO] at hc;rw[hf] at h;by_cases c:j<th.2.length
  ·rw[IK c] at h;have z:=g th Iq j x h;have zl:=(HR.mp z).1;refine⟨pre.length+mt (u+tn (kc th.1)) (kc th.1) th.2.length j,?_,?_⟩
   ·rw[hc,IK (by rw[HQ,Ij];exact c),HX,JS c];rfl
   ·rw[hf,IG (by omega),KP,IK zl];exact z
  ·rw[IG (by omega)] at h;obtain⟨m,h1,h2⟩:=xC u f r (pre++th.2) (fun t ht=>g t (Im _ ht)) _ x h;refine⟨m,?_,?_⟩
   ·rw[hc,IG (by rw[HQ,Ij];omega),HQ,Ij];rw[HY] at h1;exact h1
   ·rw[hf,<- Ik];exact h2
noncomputable def kdOf (k:Nat):Kd:=bif IL k 0 then .ring else bif IL k 1 then .odd else bif IL k 2 then .bare else .tied
theorem Bz (k:Kd):kdOf (kc k)=k:=by cases k <;> rfl
noncomputable def rQ (off:Nat):List Nat->List (Kd×List Nat)
 | []=>[]
 | e::S=>(kdOf (e%4),(Ig (e/4)).map fun i=>off+i)::rQ (off+e/4) S
theorem uQ:∀ (ths:List (Kd×List Nat)) (pre:List Nat),(rQ pre.length (ths.map ec)).map (fun th=>(th.1,th.2.map (at0 (pre++flt ths))))=ths
 | [],_=>rfl
 | th::r,pre=>by
  have ih:=uQ r (pre++th.2);rw[HY,Ik] at ih;show (kdOf (ec th%4),((Ig (ec th/4)).map fun i=>pre.length+i).map (at0 (pre++(th.2++flt r))))::(rQ (pre.length+ec th/4) (r.map ec)).map (fun th'=>(th'.1,th'.2.map (at0 (pre++(th.2++flt r)))))=th::r;rw[rO,oV,ih,Bz];congr 1;refine Ls rfl ?_;show ((Ig th.2.length).map fun i=>pre.length+i).map (at0 (pre++(th.2++flt r)))=th.2;refine J3 fun i=>?_
  rw[HX,HX];by_cases c:i<th.2.length
  ·rw[JS c,HP c];show some (at0 _ (pre.length+i))=_;congr 1;unfold at0;rw[Kb,IG (by omega),KP,IK c,HP c]
   rfl
  ·rw[Jm (by rw[Ij];omega),Jm (by omega)];rfl
theorem lC (ψ:Nat->Nat)(x y:Nat):ord (ψ (ord x y).1) (ψ (ord x y).2)=ord (ψ x) (ψ y):=by
 by_cases c:x<=y
 ·rw[dq c]
 ·have e:ord x y=(y,x):=by rw[gP,dq (by omega)]
  rw[e,gP]
theorem uR (x:Nat):ord x x=(x,x):=dq (HV _)
theorem gD (ψ:Nat->Nat){ths:List (Kd×List Nat)}{k:Kd}{x:Nat}:x∈bj (ths.map fun th=>(th.1,th.2.map ψ)) k↔∃ y∈bj ths k,ψ y=x:=by
 rw[bW];constructor
 ·rintro⟨th,ht,h1,h2⟩;obtain⟨t,h3,rfl⟩:=HW.mp ht;obtain⟨y,h4,h5⟩:=HW.mp h2;exact⟨y,bW.mpr ⟨t,h3,h1,h4⟩,h5⟩
 ·rintro⟨y,hy,rfl⟩;obtain⟨t,h3,h1,h4⟩:=bW.mp hy;exact⟨_,JM h3,h1,JM h4⟩
theorem yE (ψ:Nat->Nat){ths:List (Kd×List Nat)}{c:Nat×Nat}:c∈a9 (ths.map fun th=>(th.1,th.2.map ψ))↔∃ d∈a9 ths,c=ord (ψ d.1) (ψ d.2):=by
 rw[dC];constructor
 ·rintro(⟨x,hx,y,hy,rfl⟩ | ⟨th,ht,hc⟩ | ⟨x,hx,rfl⟩)
  ·obtain⟨u,hu,rfl⟩:=(gD ψ).mp hx;obtain⟨v,hv,rfl⟩:=(gD ψ).mp hy;exact⟨ord u v,dC.mpr (.inl ⟨u,hu,v,hv,rfl⟩),(lC ψ u v).symm⟩
  ·obtain⟨t,h3,rfl⟩:=HW.mp ht;obtain⟨i,j,x,y,h1,h2,h4,h5,rfl⟩:=c7.mp hc;rw[HX] at h4 h5;obtain⟨u,hu,rfl⟩:=Jh.mp h4;obtain⟨v,hv,rfl⟩:=Jh.mp h5;exact⟨ord u v,dC.mpr (.inr (.inl ⟨t,h3,c7.mpr ⟨i,j,u,v,h1,h2,hu,hv,rfl⟩⟩)),(lC ψ u v).symm⟩
  ·obtain⟨u,hu,rfl⟩:=(gD ψ).mp hx;exact⟨(u,u),dC.mpr (.inr (.inr ⟨u,hu,rfl⟩)),(uR _).symm⟩
 ·rintro⟨d,hd,rfl⟩;rcases dC.mp hd with ⟨x,hx,y,hy,rfl⟩ | ⟨th,ht,hc⟩ | ⟨x,hx,rfl⟩
  ·exact .inl ⟨ψ x,(gD ψ).mpr ⟨x,hx,rfl⟩,ψ y,(gD ψ).mpr ⟨y,hy,rfl⟩,lC ψ x y⟩
  ·obtain⟨i,j,x,y,h1,h2,h4,h5,rfl⟩:=c7.mp hc;exact .inr (.inl ⟨_,JM ht,c7.mpr ⟨i,j,ψ x,ψ y,h1,h2,by rw[HX,h4];rfl,by rw[HX,h5];rfl,lC ψ x y⟩⟩)
  ·exact .inr (.inr ⟨ψ x,(gD ψ).mpr ⟨x,hx,rfl⟩,uR _⟩)
theorem wq {ths Ac:List (Kd×List Nat)}(h:Ac.Perm ths){c:Nat×Nat}:c∈a9 Ac↔c∈a9 ths:=by
 rw[dC,dC];simp only[bW,h.mem_iff]
theorem qy {ths:List (Kd×List Nat)}{c:Nat×Nat}(h:c∈a9 ths):c.1<=c.2/\(∃ th∈ths,c.1∈th.2)/\∃ th∈ths,c.2∈th.2:=by
 have o:∀ {x y:Nat} {S:Nat->Prop},S x->S y->S (ord x y).1/\S (ord x y).2:=fun {x y S} hx hy=>by
  by_cases c:x<=y
  ·rw[dq c];exact⟨hx,hy⟩
  ·rw[gP,dq (by omega)];exact⟨hy,hx⟩
 rcases dC.mp h with ⟨x,hx,y,hy,rfl⟩ | ⟨th,ht,hc⟩ | ⟨x,hx,rfl⟩
 ·obtain⟨t,t1,_,t2⟩:=bW.mp hx;obtain⟨u,u1,_,u2⟩:=bW.mp hy;exact⟨rH _ _,o (S:=fun z=>∃ th∈ths,z∈th.2) ⟨t,t1,t2⟩ ⟨u,u1,u2⟩⟩
 ·obtain⟨i,j,x,y,h1,h2,h4,h5,rfl⟩:=c7.mp hc;exact⟨rH _ _,o (S:=fun z=>∃ th∈ths,z∈th.2) ⟨th,ht,Ib h4⟩ ⟨th,ht,Ib h5⟩⟩
 ·obtain⟨t,t1,_,t2⟩:=bW.mp hx;exact⟨HV _,⟨t,t1,t2⟩,t,t1,t2⟩
theorem rR:∀ (S:List Nat) (off:Nat) {x:Nat},(∃ th∈rQ off S,x∈th.2)->x<off+(can 0 off S).length
 | [],_,_,⟨_,h,_⟩=>nomatch h
 | e::S,off,x,⟨th,h,hx⟩=>by
  show x<off+((Ig (e/4)).map _++can 0 (off+e/4) S).length;rw[HY,HQ,Ij];rcases IA.mp h with h | h
  ·subst h;obtain⟨i,hi,rfl⟩:=HW.mp hx;have:=Ii.mp hi;omega
  ·have:=rR S (off+e/4) ⟨th,h,hx⟩;omega
structure Lay (n:Nat) (ms os:List Nat) (ths:List (Kd×List Nat)):Prop where
 good:∀ th∈ths,dU (2*n) (at0 ms) (at0 os) th.1 th.2
 nd:(flt ths).Nodup
 mem:∀ x,x∈flt ths↔x<2*n
section
variable {n:Nat}{ms os:List Nat}{ths:List (Kd×List Nat)}
theorem Lay.perm (l:Lay n ms os ths):(flt ths).Perm (Ig (2*n)):=(JD l.nd Jg).mpr fun x=>by rw[l.mem,Ii]
theorem Lay.len (l:Lay n ms os ths):(flt ths).length=2*n:=by rw[l.perm.length_eq,Ij]
theorem Lay.iso (l:Lay n ms os ths)(W:ak n ms)(WO:ak n os):ak n (can 0 0 (ths.map ec))/\ak n (can 1 0 (ths.map ec))/\lB n ms os (can 0 0 (ths.map ec)) (can 1 0 (ths.map ec)) (fun x=>(flt ths).idxOf x) (at0 (flt ths)):=by
 have T:=aW W WO;have len:=l.len;have getL:∀ j,j<2*n->(flt ths)[j]?=some (at0 (flt ths) j):=fun j hj=>dZ (by rw[len];exact hj)
 have one:∀ i j x,(flt ths)[i]?=some x->(flt ths)[j]?=some x->i=j:=fun i j x h1 h2=>(List.getElem?_inj (HR.mp h1).1 l.nd).mp (h1.trans h2.symm)
 have step:∀ (u:Nat) (f:Nat->Nat),(∀ th∈ths,∀ (i x:Nat),th.2[i]?=some x->th.2[mt (u+tn (kc th.1)) (kc th.1) th.2.length i]?=some (f x))->∀ j,j<2*n->at0 (can u 0 (ths.map ec)) j<2*n/\at0 (flt ths) (at0 (can u 0 (ths.map ec)) j)=f (at0 (flt ths) j):=fun u f g j hj=>by
  obtain⟨m,h1,h2⟩:=xC u f ths [] g j _ (getL j hj);have h1':(can u 0 (ths.map ec))[j]?=some m:=h1;have e:at0 (can u 0 (ths.map ec)) j=m:=by unfold at0;rw[Kb,h1'];rfl
  have hm:=(HR.mp h2).1;rw[LM] at hm h2;rw[len] at hm;rw[e];refine⟨hm,?_⟩;have z:=getL m hm;rw[h2] at z;exact(Option.some.inj z).symm
 have A:=step 0 (at0 ms) fun th ht i x h=>Gq (l.good th ht) T h
 have B:=step 1 (at0 os) fun th ht i x h=>Gr (l.good th ht) T h
 have lt:∀ j,j<2*n->at0 (flt ths) j<2*n:=fun j hj=>(l.mem _).mp (Ib (getL j hj))
 have inj:∀ i j,i<2*n->j<2*n->at0 (flt ths) i=at0 (flt ths) j->i=j:=fun i j hi hj e=>one i j _ (getL i hi) (by rw[e];exact getL j hj)
 have WA:ak n (can 0 0 (ths.map ec)):=nH W.small (by rw[rP,len]) (fun x hx=>(A x hx).1) fun x hx=>by
  have h1:=A x hx;have h2:=A _ h1.1;exact inj _ _ h2.1 hx (by rw[h2.2,h1.2,W.wk.inv _ (lt x hx)])
 have WB:ak n (can 1 0 (ths.map ec)):=nH W.small (by rw[rP,len]) (fun x hx=>(B x hx).1) fun x hx=>by
  have h1:=B x hx;have h2:=B _ h1.1;exact inj _ _ h2.1 hx (by rw[h2.2,h1.2,WO.wk.inv _ (lt x hx)])
 have ix:∀ x,x<2*n->(flt ths).idxOf x<2*n/\at0 (flt ths) ((flt ths).idxOf x)=x:=fun x hx=>by
  have h1:=List.idxOf_lt_length_of_mem ((l.mem x).mpr hx);have h2:=getL _ (by rw[<- len];exact h1);rw[HP h1,List.getElem_idxOf h1] at h2;exact⟨by rw[<- len];exact h1,(Option.some.inj h2).symm⟩
 have J:lB n (can 0 0 (ths.map ec)) (can 1 0 (ths.map ec)) ms os (at0 (flt ths)) (fun x=>(flt ths).idxOf x) :=
  { T:=aW WA WB,T':=T,pl:=lt,ql:=fun x hx=>(ix x hx).1,qp:=fun x hx=>inj _ _ (ix _ (lt x hx)).1 hx (ix _ (lt x hx)).2,pq:=fun x hx=>(ix x hx).2,fa:=fun x hx=>(A x hx).2,fb:=fun x hx=>(B x hx).2 }
 exact⟨WA,WB,J.symm⟩
end
end Iso

namespace Iso
open Th Mir
noncomputable def nth:List Nat->Nat->Nat
 | [],_=>0
 | x::_,0=>x
 | _::r,i+1=>nth r i
noncomputable def wl:Nat->List Nat->List Nat->Nat->List Nat
 | 0,_,_,x=>[x]
 | k+1,A,B,x=>x::wl k B A (nth A x)
noncomputable def je (A:List Nat):List Nat->Bool
 | []=>false
 | y::r=>IL (nth A y) y||je A r
noncomputable def memC (x:Nat):List Nat->Bool
 | []=>false
 | y::r=>IL x y||memC x r
noncomputable def cnt:Nat->List Nat->Nat
 | 0,_=>0
 | i+1,W=>(bif memC i W then 1 else 0)+cnt i W
noncomputable def leC (x:Nat):List Nat->Bool
 | []=>true
 | y::r=>Lw x y&&leC x r
noncomputable def kcC (la lb:Bool):Nat:=bif la then (bif lb then 1 else 2) else (bif lb then 3 else 0)
noncomputable def qz (A B:List Nat)(N:Nat):Nat->Nat
 | 0=>0
 | i+1=>(let W:=wl (2*N) A B i;16 ^ (4*cnt N W+kcC (je A W) (je B W)))+qz A B N i
noncomputable def ir (A B:List Nat)(N:Nat):Nat->Nat
 | 0=>0
 | i+1=>(let W:=wl (2*N) A B i;(bif !je A W && !je B W&&leC i W then 2 else 0)+(bif IL (nth A i) i&&je B W then 1 else 0))+ir A B N i
noncomputable def Dv:List (Nat×Nat):=[(0,1),(2097152,1),(4194304,1),(6291456,1),(8388608,1),(8589934592,1),(8592031744,1),(8594128896,1),(8596226048,1),(17179869184,1),(17181966336,1),(17184063488,1),(25769803776,1),(25771900928,1),(34359738368,1),(2199023255552,1),(2199025352704,1),(2199027449856,1),(2199029547008,1),(2207613190144,1),(2207615287296,1),(2207617384448,1),(2216203124736,1),(2216205221888,1),(2224793059328,1),(4398046511104,2),(4398048608256,2),(4398050705408,2),(4406636445696,2),(4406638542848,2),(4415226380288,2),(6597069766656,6),(6597071863808,6),(6605659701248,6),(8796093022208,24),(35184372088832,1),(35184374185984,1),(35184376283136,1),(35184378380288,1),(35192962023424,1),(35192964120576,1),(35192966217728,1),(35201551958016,1),(35201554055168,1),(35210141892608,1),(37383395344384,6),(37383397441536,6),(37383399538688,6),(37391985278976,6),(37391987376128,6),(37400575213568,6),(39582418599936,30),(39582420697088,30),(39591008534528,30),(41781441855488,168),(70368744177664,2),(70368746274816,2),(70368748371968,2),(70377334112256,2),(70377336209408,2),(70385924046848,2),(72567767433216,30),(72567769530368,30),(72576357367808,30),(74766790688768,408),(105553116266496,6),(105553118363648,6),(105561706201088,6),(107752139522048,168),(140737488355328,24),(13510798883160064,1),(13510798885257216,1),(13510798887354368,1),(13510807473094656,1),(13510807475191808,1),(13510816063029248,1),(13512997906415616,2),(13512997908512768,2),(13513006496350208,2),(13515196929671168,6),(13545983255248896,2),(13545983257346048,2),(13545991845183488,2),(13548182278504448,18),(13581167627337728,6),(27021597764222976,2),(27021597766320128,2),(27021606354157568,2),(27023796787478528,6),(27056782136311808,6),(73786976294838206464,1),(73786976294840303616,1),(73786976294842400768,1),(73786976303428141056,1),(73786976303430238208,1),(73786976312018075648,1),(73786978493861462016,2),(73786978493863559168,2),(73786978502451396608,2),(73786980692884717568,6),(73787011479210295296,2),(73787011479212392448,2),(73787011487800229888,2),(73787013678233550848,18),(73787046663582384128,6),(73800487093721366528,2),(147573952589676412928,2),(18889465931478580854784,3),(18889465931478582951936,3),(18889465931478585049088,3),(18889465931487170789376,3),(18889465931487172886528,3),(18889465931495760723968,3),(18889465933677604110336,9),(18889465933677606207488,9),(18889465933686194044928,9),(18889465935876627365888,36),(18889465966662952943616,33),(18889465966662955040768,33),(18889465966671542878208,33),(18889465968861976199168,204),(18889466001847325032448,228),(18889479442277464014848,9),(18963252907773419061248,9),(37778931862957161709568,54),(302231454903657293676544,3),(302231454903657295773696,3),(302231454903657297870848,3),(302231454903665883611136,3),(302231454903665885708288,3),(302231454903674473545728,3),(302231454905856316932096,33),(302231454905856319029248,33),(302231454905864906866688,33),(302231454908055340187648,228),(302231454938841665765376,9),(302231454938841667862528,9),(302231454938850255699968,9),(302231454941040689020928,204),(302231454974026037854208,36),(302231468414456176836608,9),(302305241879952131883008,9),(321120920835135874531328,262),(604462909807314587353088,54),(96714065569170333977542656,3),(96714065569170333979639808,3),(96714065569170342567477248,3),(96714065569172533000798208,9),(96714065569205518349631488,9),(96714065582681132858605568,9),(475368975085586025561263702016,3),(475368975085586025561265799168,3),(475368975085586025569853636608,3),(475368975085586027760286957568,9),(475368975085586060745635790848,9),(121694457621910022543683507716096,16),(121694457621910022543683509813248,16),(121694457621910022543692097650688,16),(121694457621910022545882530971648,64),(121694457621910022578867879804928,260),(1947111321950560360698936123457536,16),(1947111321950560360698936125554688,16),(1947111321950560360698944713392128,16),(1947111321950560360701135146713088,260),(1947111321950560360734120495546368,64),(581537248155900694395415588873699328,16),(2722258935367507707706996859454145691648,16),(696898287454081973172991196020261297061888,125),(11150372599265311570767859136324180752990208,125)]
noncomputable def look (c:Nat):List (Nat×Nat)->Nat
 | []=>0
 | (k,v)::r=>bif IL k c then v else look c r
noncomputable def tbl (c:Nat):Nat:=look c Dv
noncomputable def wt (c:Nat×Nat):List (Nat×Nat)->Bool
 | []=>false
 | d::r=>(IL c.1 d.1&&IL c.2 d.2)||wt c r
noncomputable def okC (A:List Nat)(L:List (Nat×Nat))(c:Nat×Nat):Bool:=!IL (nth A c.1) c.2&&decide (Mir.bV A c.1 c.2=c)&&wt c L
noncomputable def nrC (A B:List Nat)(N s:Nat)(L:List (Nat×Nat))(c:Nat×Nat):Bool:=IL (nth A c.1) c.2||(IL (ir (Mir.beh A c.1 c.2) B N N) (s+2) == wt c L)
noncomputable def chk (A B:List Nat)(N:Nat)(L:List (Nat×Nat)):Bool:=let s:=ir A B N N;(Mir.g8 N N).all (nrC A B N s L)&&bif IL s N then IL (tbl (qz A B N N)) 1 else IL (tbl (qz A B N N)) (((Mir.g8 N N).filter (okC A L)).map fun c=>tbl (qz (Mir.beh A c.1 c.2) B N N)).sum
noncomputable def tys:Nat->List Nat
 | 0=>[]
 | l+1=>tys l++(bif IL ((l+1)%2) 1 then [4*(l+1)+1] else [4*(l+1),4*(l+1)+2,4*(l+1)+3])
noncomputable def enm:Nat->Nat->Nat->List (List Nat)
 | 0,_,_=>[]
 | f+1,lo,rest=>bif IL rest 0 then [[]] else ((tys rest).filter fun e=>Lw lo e).flatMap fun e=>(enm f e (rest-e/4)).map (e :: ·)
noncomputable def mS (e:Nat):Nat:=bif IL (e%4) 0 then e/4/2-1 else e/4/2
noncomputable def rS (k:Nat):List Nat->Bool
 | []=>false
 | e::S=>IL (e%4) k||rS k S
theorem aY (x y:Nat):IL x y=decide (x=y):=by
 by_cases h:x=y
 ·rw[decide_eq_true h,h];exact M8 y
 ·rw[decide_eq_false h];exact Ky.mpr fun z=>h (LQ z)
theorem jO (x y:Nat):Lw x y=decide (x<=y):=by
 by_cases h:x<=y
 ·rw[decide_eq_true h];exact LO h
 ·rw[decide_eq_false h];exact Ky.mpr fun z=>h (LP z)
theorem iu:∀ (l:List Nat) (i:Nat),nth l i=at0 l i
 | [],i=>by unfold nth at0;simp
 | x::r,0=>rfl
 | x::r,i+1=>by
  have z:=iu r i;unfold at0 at z ⊢;rw[show nth (x::r) (i+1)=nth r i from rfl,z];simp[Kb]
theorem mB (f g:Nat->Nat)(x:Nat):∀ i,wlk g f (f x) i=wlk f g x (i+1)
 | 0=>rfl
 | i+1=>by
  show stp g f i (wlk g f (f x) i)=stp f g (i+1) (wlk f g x (i+1));rw[mB f g x i];unfold stp;by_cases h:i%2=0
  ·rw[if_pos h,if_neg (by omega)]
  ·rw[if_neg h,if_pos (by omega)]
theorem Ad:∀ (k:Nat) (A B:List Nat) (x y:Nat),y∈wl k A B x↔∃ i,i<=k/\wlk (at0 A) (at0 B) x i=y
 | 0,A,B,x,y=>by
  show y∈[x]↔_;rw[Ih];exact⟨fun h=>⟨0,HV _,h.symm⟩,fun ⟨i,h1,h2⟩=>by (obtain rfl:i=0:=(by omega));exact h2.symm⟩
 | k+1,A,B,x,y=>by
  show y∈x::wl k B A (nth A x)↔_;rw[IA,Ad k,iu];constructor
  ·rintro(h | ⟨i,h1,h2⟩)
   ·exact⟨0,by omega,h.symm⟩
   ·exact⟨i+1,by omega,by rw[<- mB];exact h2⟩
  ·rintro⟨i,h1,h2⟩;cases i with
   | zero=>exact .inl h2.symm
   | succ i=>exact .inr ⟨i,by omega,by rw[mB];exact h2⟩
section
variable {N:Nat}{a b:Nat->Nat}
theorem BA (T:Two N a b){x:Nat}(hx:x<N){i p:Nat}(hp:p%2=0):wlk a b x i=wlk a b x (i+p)->wlk a b x 0=wlk a b x p:=by
 induction i with
 | zero=>rw[IZ];exact id
 | succ i ih =>
  intro h;refine ih ?_;have h1:=fm T hx i;have h2:=fm T hx (i+p);rw[show i+p+1=i+1+p by omega,<- h] at h2;rw[<- h1,<- h2];exact nB (by omega) _
theorem Dw (T:Two N a b){x:Nat}(hx:x<N):∃ p,0<p/\p<=2*N/\p%2=0/\wlk a b x p=x:=by
 by_cases c:∃ i j,i<j/\j<=2*N/\2*wlk a b x i+i%2=2*wlk a b x j+j%2
 ·obtain⟨i,j,h1,h2,h3⟩:=c;refine⟨j-i,by omega,by omega,by omega,(BA T hx (i:=i) (p:=j-i) (by omega) ?_).symm⟩;rw[show i+(j-i)=j by omega];omega
 ·exfalso;have z:=kR (l:=Ig (2*N+1)) (m:=Ig (2*N)) (fun i=>2*wlk a b x i+i%2) Jg (fun i hi j hj e=>?_) fun i hi=>?_
  ·rw[Ij,Ij] at z;omega
  ·have hi:=Ii.mp hi;have hj:=Ii.mp hj;rcases Mo i j with h | h | h
   ·exact absurd ⟨i,j,h,by omega,e⟩ c
   ·exact h
   ·exact absurd ⟨j,i,h,by omega,e.symm⟩ c
  ·rw[Ii];have:=iO T hx i;omega
theorem yF (T:Two N a b){x y:Nat}(hx:x<N):ao a b x y↔∃ i,i<=2*N/\wlk a b x i=y:=by
 obtain⟨p,p0,p1,p2,pe⟩:=Dw T hx;have per:∀ i,wlk a b x (i+p)=wlk a b x i:=fun i=>by
  induction i with
  | zero=>rw[IZ,pe];rfl
  | succ i ih =>
   rw[show i+1+p=i+p+1 by omega];show stp a b (i+p) (wlk a b x (i+p))=stp a b i (wlk a b x i);rw[ih];exact nB (by omega) _
 have red:∀ i,∃ j,j<=2*N/\wlk a b x j=wlk a b x i:=fun i=>by
  induction i using LI with
  | ind i ih =>
   by_cases c:i<p
   ·exact⟨i,by omega,rfl⟩
   ·obtain⟨j,h1,h2⟩:=ih (i-p) (by omega);refine⟨j,h1,?_⟩;rw[h2,<- per (i-p),show i-p+p=i by omega]
 constructor
 ·intro c;have z:=c (fun z=>∃ i,1<=i/\wlk a b x i=z) ⟨p,p0,pe⟩ fun z ⟨i,h1,h2⟩=>?_
  ·obtain⟨i,_,h⟩:=z;obtain⟨j,h1,h2⟩:=red i;exact⟨j,h1,h2.trans h⟩
  ·have nx:stp a b i z=wlk a b x (i+1):=by rw[<- h2];rfl
   have bk:stp a b (i-1) z=wlk a b x (i-1):=by
    have q:=fm T hx (i-1);rw[show i-1+1=i by omega,h2] at q;exact q
   have bk':∃ j,1<=j/\wlk a b x j=wlk a b x (i-1):=⟨i-1+p,by omega,per _⟩
   unfold stp at nx bk;by_cases e:i%2=0
   ·rw[if_pos e] at nx;rw[if_neg (by omega)] at bk;exact⟨⟨i+1,by omega,nx.symm⟩,by rw[bk];exact bk'⟩
   ·rw[if_neg e] at nx;rw[if_pos (by omega)] at bk;exact⟨by rw[bk];exact bk',⟨i+1,by omega,nx.symm⟩⟩
 ·rintro⟨i,_,rfl⟩;exact iE i
end
section
open Classical
variable {N:Nat}{A B:List Nat}
theorem oW (A:List Nat):∀ W:List Nat,je A W=true↔∃ y∈W,at0 A y=y
 | []=>by simp[je]
 | y::r=>by
  unfold je;rw[JA,oW A r,aY,iu,decide_eq_true_eq];simp
theorem uS (x:Nat):∀ W:List Nat,memC x W=true↔x∈W
 | []=>by simp[memC]
 | y::r=>by unfold memC;rw[JA,uS x r,aY,decide_eq_true_eq,IA]
theorem rT (x:Nat):∀ W:List Nat,leC x W=true↔∀ y∈W,x<=y
 | []=>by simp[leC]
 | y::r=>by unfold leC;rw[Iv,rT x r,jO,decide_eq_true_eq];simp
variable (T:Two N (at0 A) (at0 B)){x:Nat}(hx:x<N)
include T hx
theorem Ae {y:Nat}:y∈wl (2*N) A B x↔ao (at0 A) (at0 B) x y:=by rw[Ad,yF T hx]
theorem E1:je A (wl (2*N) A B x)=decide (eM (at0 A) (at0 B) x):=by
 rw[Jt,oW,decide_eq_true_iff];unfold eM;simp only[Ae T hx]
theorem E2:je B (wl (2*N) A B x)=decide (dm (at0 A) (at0 B) x):=by
 rw[Jt,oW,decide_eq_true_iff];unfold dm;simp only[Ae T hx]
theorem Gs:leC x (wl (2*N) A B x)=decide (aX (at0 A) (at0 B) x):=by
 rw[Jt,rT,decide_eq_true_iff];unfold aX;simp only[Ae T hx]
end
section
open Classical
variable {N:Nat}{A B:List Nat}
theorem qA (T:Two N (at0 A) (at0 B)):ir A B N N=score (at0 A) (at0 B) N:=by
 have key:∀ i,i<=N->ir A B N i=2*(RL (at0 A) (at0 B) i).length+(OL (at0 A) (at0 B) i).length:=fun i=>by
  induction i with
  | zero=>exact fun _=>rfl
  | succ i ih =>
   intro hi;have hx:i<N:=by omega
   unfold ir;dsimp only;rw[ih (by omega),E1 T hx,E2 T hx,Gs T hx,aY,iu];have e1:(RL (at0 A) (at0 B) (i+1)).length=(RL (at0 A) (at0 B) i).length+(if aX (at0 A) (at0 B) i/\aT (at0 A) (at0 B) i then 1 else 0):=by
    unfold RL;rw[JN,IE,HY];by_cases c:aX (at0 A) (at0 B) i/\aT (at0 A) (at0 B) i <;> simp[c]
   have e2:(OL (at0 A) (at0 B) (i+1)).length=(OL (at0 A) (at0 B) i).length+(if at0 A i=i/\dm (at0 A) (at0 B) i then 1 else 0):=by
    unfold OL;rw[JN,IE,HY];by_cases c:at0 A i=i/\dm (at0 A) (at0 B) i
    ·rw[if_pos c];unfold dm at c;simp[c]
    ·rw[if_neg c];unfold dm at c;simp only[MO,JJ];rw[if_neg (by rw[decide_eq_true_iff];exact c)]
     rfl
   have e3:aT (at0 A) (at0 B) i↔¬ eM (at0 A) (at0 B) i/\¬ dm (at0 A) (at0 B) i:=by
    constructor
    ·exact fun h=>⟨fun ⟨u,c,e⟩=>(h u c).1 e,fun ⟨u,c,e⟩=>(h u c).2 e⟩
    ·exact fun h y c=>⟨fun e=>h.1 ⟨y,c,e⟩,fun e=>h.2 ⟨y,c,e⟩⟩
   rw[e1,e2,e3];by_cases c1:eM (at0 A) (at0 B) i <;> by_cases c2:dm (at0 A) (at0 B) i <;> by_cases c3:aX (at0 A) (at0 B) i <;> by_cases c4:at0 A i=i <;> simp[c1,c2,c3,c4] <;> omega
 exact key N (HV _)
end
section
variable {n:Nat}{ms os:List Nat}
theorem uT {c:Nat×Nat}:∀ L:List (Nat×Nat),wt c L=true↔c∈L
 | []=>by simp[wt]
 | d::r=>by
  unfold wt;rw[JA,Iv,aY,aY,decide_eq_true_eq,decide_eq_true_eq,uT r,IA];exact⟨fun h=>h.imp (fun h=>Ls h.1 h.2) id,fun h=>h.imp (fun h=>by rw[h];exact⟨rfl,rfl⟩) id⟩
variable {L:List (Nat×Nat)}
theorem Dx (W:ak n ms)(WO:ak n os)(h:chk ms os (2*n) L=true){p q:Nat}(h1:p<=q)(h2:q<2*n)(h3:at0 ms p≠q):(p,q)∈L↔score (at0 (beh ms p q)) (at0 os) (2*n)=score (at0 ms) (at0 os) (2*n)+2:=by
 have T:=aW W WO;unfold chk at h;dsimp only at h;rw[Iv,qA T] at h;have z:=I0.mp h.1 (p,q) (gC.mpr ⟨by simp only;omega,h1,h2⟩);unfold nrC at z;rw[aY,aY,iu,JA,decide_eq_true_eq,beq_iff_eq,Jt,uT,decide_eq_true_eq,qA (aW (dS W (by omega) h2 h3) WO)] at z;rcases z with z | z
 ·exact absurd z h3
 ·exact z.symm
end
end Iso

set_option maxHeartbeats 4000000
namespace Iso
open Mir
noncomputable def frN {α:Type}(x:Nat)(k:Nat->α):α:=M6 (motive:=fun _=>α) (k 0) (fun n _=>k (Nat.succ n)) x
theorem kB {α:Type}(x:Nat)(k:Nat->α):frN x k=k x:=by cases x <;> rfl
noncomputable def frL {α:Type}(l:List Nat)(k:List Nat->α):α:=LV (motive:=fun _=>(List Nat->α)->α) (fun k=>k []) (fun x _ ih k=>frN x fun y=>ih fun s=>k (y::s)) l k
theorem fV {α:Type}:∀ (l:List Nat) (k:List Nat->α),frL l k=k l
 | [],_=>rfl
 | x::r,k=>by
  show frN x (fun y=>frL r fun s=>k (y::s))=_;rw[kB,fV r]
noncomputable def frP {α:Type}(l:List (Nat×Nat))(k:List (Nat×Nat)->α):α:=LV (motive:=fun _=>(List (Nat×Nat)->α)->α) (fun k=>k []) (fun x _ ih k=>frN x.1 fun y=>frN x.2 fun z=>ih fun s=>k ((y,z)::s)) l k
theorem wx {α:Type}:∀ (l:List (Nat×Nat)) (k:List (Nat×Nat)->α),frP l k=k l
 | [],_=>rfl
 | x::r,k=>by
  show frN x.1 (fun y=>frN x.2 fun z=>frP r fun s=>k ((y,z)::s))=_;rw[kB,kB,wx r]
noncomputable def wy (l:List Nat)(i:Nat):Nat:=LV (motive:=fun _=>Nat->Nat) (fun _=>0) (fun x _ ih i=>M6 (motive:=fun _=>Nat) x (fun j _=>ih j) i) l i
theorem lD:∀ (l:List Nat) (i:Nat),wy l i=nth l i
 | [],0=>rfl
 | [],_+1=>rfl
 | _::_,0=>rfl
 | _::r,i+1=>lD r i
noncomputable def wlR (k:Nat)(A B:List Nat)(x:Nat):List Nat:=M6 (motive:=fun _=>List Nat->List Nat->Nat->List Nat) (fun _ _ x=>[x]) (fun _ ih A B x=>frN (wy A x) fun y=>x::ih B A y) k A B x
theorem wz:∀ (k:Nat) (A B:List Nat) (x:Nat),wlR k A B x=wl k A B x
 | 0,_,_,_=>rfl
 | k+1,A,B,x=>by
  show frN (wy A x) (fun y=>x::wlR k B A y)=_;rw[kB,wz k,lD]
  rfl
noncomputable def anyR (A:List Nat)(W:List Nat):Bool:=LV (motive:=fun _=>Bool) false (fun y _ ih=>Lh (motive:=fun _=>Bool) ih true (IL (wy A y) y)) W
theorem anyR_eq (A:List Nat):∀ W:List Nat,anyR A W=je A W
 | []=>rfl
 | y::r=>by
  show Lh (motive:=fun _=>Bool) (anyR A r) true (IL (wy A y) y)=(IL (nth A y) y||je A r)
  rw[anyR_eq A r,lD];cases IL (nth A y) y <;> rfl
noncomputable def rV (A B:List Nat)(N:Nat)(i:Nat):Nat:=M6 (motive:=fun _=>Nat) 0 (fun i ih=>Na (frL (wlR (Nd 2 N) A B i) fun W=>Lh (motive:=fun _=>Nat) (Lh (motive:=fun _=>Nat) (Lh (motive:=fun _=>Nat) 0 2 (leC i W)) 0 (anyR A W)) (Lh (motive:=fun _=>Nat) 0 1 (IL (wy A i) i)) (anyR B W)) ih) i
theorem mC (A B:List Nat)(N:Nat):∀ i:Nat,rV A B N i=ir A B N i
 | 0=>rfl
 | i+1=>by
  show (frL (wlR (2*N) A B i) _)+rV A B N i=_;rw[fV,mC A B N i,wz,anyR_eq,anyR_eq,lD];show _=((bif !je A (wl (2*N) A B i) && !je B (wl (2*N) A B i)&&leC i (wl (2*N) A B i) then 2 else 0)+(bif IL (nth A i) i&&je B (wl (2*N) A B i) then 1 else 0))+ir A B N i;congr 1;cases je A (wl (2*N) A B i) <;> cases je B (wl (2*N) A B i) <;> cases leC i (wl (2*N) A B i) <;> cases IL (nth A i) i <;> rfl
noncomputable def qB (A B:List Nat)(N:Nat)(i:Nat):Nat:=M6 (motive:=fun _=>Nat) 0 (fun i ih=>Na (frL (wlR (Nd 2 N) A B i) fun W=>Nat.pow 16 (Na (Nd 4 (cnt N W)) (kcC (anyR A W) (anyR B W)))) ih) i
theorem oX (A B:List Nat)(N:Nat):∀ i:Nat,qB A B N i=qz A B N i
 | 0=>rfl
 | i+1=>by
  show (frL (wlR (2*N) A B i) _)+qB A B N i=_;rw[fV,oX A B N i,wz,anyR_eq,anyR_eq]
  rfl
noncomputable def Af (c:Nat):Nat:=frN c fun c=>LV (motive:=fun _=>Nat) 0 (fun p _ ih=>Lh (motive:=fun _=>Nat) ih p.2 (IL p.1 c)) Dv
theorem uU (c:Nat):∀ l:List (Nat×Nat),LV (motive:=fun _=>Nat) 0 (fun p _ ih=>Lh (motive:=fun _=>Nat) ih p.2 (IL p.1 c)) l=look c l
 | []=>rfl
 | (k,v)::r=>by
  show Lh (motive:=fun _=>Nat) (LV (motive:=fun _=>Nat) 0 _ r) v (IL k c)=(bif IL k c then v else look c r)
  rw[uU c r];cases IL k c <;> rfl
theorem xD (c:Nat):Af c=tbl c:=(kB c _).trans (uU c Dv)
noncomputable def nrF (A B:List Nat)(N s:Nat)(L:List (Nat×Nat))(c:Nat×Nat):Bool:=IL (wy A c.1) c.2||(IL (frL (Mir.beh A c.1 c.2) fun A=>rV A B N N) (Na s 2) == wt c L)
theorem Dy (A B:List Nat)(N s:Nat)(L:List (Nat×Nat))(c:Nat×Nat):nrF A B N s L c=nrC A B N s L c:=by unfold nrF nrC;rw[fV,mC,lD]
noncomputable def Dz (A B:List Nat)(N:Nat)(L:List (Nat×Nat)):Bool:=frL A fun A=>frL B fun B=>frP L fun L=>frN (rV A B N N) fun s=>(Mir.g8 N N).all (nrF A B N s L)&&bif IL s N then IL (Af (qB A B N N)) 1 else IL (Af (qB A B N N)) (((Mir.g8 N N).filter (okC A L)).map fun c=>Af (frL (Mir.beh A c.1 c.2) fun A=>qB A B N N)).sum
theorem lE (A B:List Nat)(N:Nat)(L:List (Nat×Nat)):Dz A B N L=chk A B N L:=by
 unfold Dz chk;rw[fV,fV,wx,kB,mC,xD,oX,show nrF A B N (ir A B N N) L=nrC A B N (ir A B N N) L from funext fun c=>Dy A B N _ L c,
  show (fun c:Nat×Nat=>Af (frL (Mir.beh A c.1 c.2) fun A=>qB A B N N))=fun c=>tbl (qz (Mir.beh A c.1 c.2) B N N) from funext fun c=>by rw[fV,xD,oX]]
noncomputable def rW (N:Nat)(S:List Nat):Bool:=Dz (can 0 0 S) (can 1 0 S) N (Th.a9 (rQ 0 S))
theorem gE {α:Type}{p:α->Bool}(m:Nat){l:List α}(h1:(l.take m).all p=true)(h2:(l.drop m).all p=true):l.all p=true:=by
 rw[<- Jr m l,List.all_append,h1,h2]
 rfl
theorem tf0:(enm 9 0 0).all (rW 0)=true:=by decide +kernel
theorem tf2:(enm 9 0 2).all (rW 2)=true:=by decide +kernel
theorem tf4:(enm 9 0 4).all (rW 4)=true:=by decide +kernel
theorem tf6:(enm 9 0 6).all (rW 6)=true:=by decide +kernel
theorem Gu:(((enm 9 0 8).take 28).all (rW 8))=true:=by decide +kernel
theorem Gv:((((enm 9 0 8).drop 28).take 28).all (rW 8))=true:=by decide +kernel
theorem Gw:(((((enm 9 0 8).drop 28).drop 28).take 28).all (rW 8))=true:=by decide +kernel
theorem Gx:(((((enm 9 0 8).drop 28).drop 28).drop 28).all (rW 8))=true:=by decide +kernel
theorem tf8:(enm 9 0 8).all (rW 8)=true:=gE 28 Gu (gE 28 Gv (gE 28 Gw Gx))
end Iso

namespace Iso
open Th Mir
theorem xE:∀ (m l e:Nat),1<=l->l<=m->((l%2=1/\e=4*l+1)\/(l%2=0/\(e=4*l\/e=4*l+2\/e=4*l+3)))->e∈tys m
 | 0,l,e,h1,h2,_=>by omega
 | m+1,l,e,h1,h2,h=>by
  unfold tys;by_cases c:l<=m
  ·exact Ic.mpr (.inl (xE m l e h1 c h))
  ·obtain rfl:l=m+1:=by omega
   refine Ic.mpr (.inr ?_);rw[aY];rcases h with ⟨o,h⟩ | ⟨o,h⟩
   ·rw[decide_eq_true o];exact Ih.mpr h
   ·rw[decide_eq_false (by omega)];rcases h with h | h | h <;> rw[h] <;> simp
noncomputable def szS:List Nat->Nat
 | []=>0
 | e::S=>e/4+szS S
noncomputable def Okt (e:Nat):Prop:=∃ l,1<=l/\((l%2=1/\e=4*l+1)\/(l%2=0/\(e=4*l\/e=4*l+2\/e=4*l+3)))
theorem Okt.tys {e m:Nat}(h:Okt e)(hm:e/4<=m):e∈tys m/\1<=e/4:=by
 obtain⟨l,h1,h2⟩:=h;have:e/4=l:=by omega
 exact⟨xE m l e h1 (by omega) h2,by omega⟩
theorem rX:∀ (S:List Nat) (f lo:Nat),(∀ e∈S,Okt e)->S.length<f->(∀ e∈S,lo<=e)->S.Pairwise (·<=·)->S∈enm f lo (szS S)
 | [],f+1,lo,_,_,_,_=>by unfold enm szS;exact Ih.mpr rfl
 | e::S,f+1,lo,h1,h2,h3,h4=>by
  obtain⟨q1,q2⟩:=(h1 e Iq).tys (m:=szS (e::S)) (K1 _ _);unfold enm;rw[aY,decide_eq_false (by unfold szS;omega)];refine JQ.mpr ⟨e,Ie.mpr ⟨q1,by rw[jO];exact decide_eq_true (h3 e Iq)⟩,HW.mpr ⟨S,?_,rfl⟩⟩;rw[show szS (e::S)-e/4=szS S from KP _ _];rw[List.pairwise_cons] at h4;exact rX S f e (fun x hx=>h1 x (Im _ hx)) (by rw[ID] at h2;omega) h4.1 h4.2
 | [],0,_,_,h,_,_=>absurd h (JV _)
 | _::_,0,_,_,h,_,_=>absurd h (JV _)
theorem Ag:∀ (S:List Nat),(∀ e∈S,Okt e)->S.length<=szS S
 | [],_=>HV _
 | e::S,h=>by
  have z:=((h e Iq).tys (m:=e/4) (HV _)).2;have y:=Ag S fun x hx=>h x (Im _ hx)
  unfold szS;rw[ID];omega
theorem BB {n:Nat}(hn:n<=4){S:List Nat}(h:S∈enm 9 0 (2*n)):chk (can 0 0 S) (can 1 0 S) (2*n) (a9 (rQ 0 S))=true:=by
 have e:n=0\/n=1\/n=2\/n=3\/n=4:=by omega
 rcases e with rfl | rfl | rfl | rfl | rfl
 ·exact(lE _ _ _ _).symm.trans (I0.mp tf0 S h)
 ·exact(lE _ _ _ _).symm.trans (I0.mp tf2 S h)
 ·exact(lE _ _ _ _).symm.trans (I0.mp tf4 S h)
 ·exact(lE _ _ _ _).symm.trans (I0.mp tf6 S h)
 ·exact(lE _ _ _ _).symm.trans (I0.mp tf8 S h)
theorem Ah:∀ ths:List (Kd×List Nat),szS (ths.map ec)=(flt ths).length
 | []=>rfl
 | th::r=>by
  show ec th/4+szS (r.map ec)=(th.2++flt r).length;rw[Ah r,oV,HY]
theorem uV {l m:List (Kd×List Nat)}(h:l.Perm m):(flt l).Perm (flt m):=(h.map _).flatten
section
variable {n:Nat}{ms os:List Nat}{ths:List (Kd×List Nat)}
theorem Lay.Cj {Ac:List (Kd×List Nat)}(l:Lay n ms os ths)(h:Ac.Perm ths):Lay n ms os Ac :=
 ⟨fun th ht=>l.good th (h.mem_iff.mp ht),(uV h).symm.nodup l.nd,fun x=>by rw[(uV h).mem_iff];exact l.mem x⟩
theorem Lay.okt (l:Lay n ms os ths):∀ e∈ths.map ec,Okt e:=fun e he=>by
 obtain⟨th,ht,rfl⟩:=HW.mp he;have G:=l.good th ht;refine⟨th.2.length,G.ne,?_⟩;have par:=G.par;unfold ec;cases h:th.1 with
 | ring=>exact .inr ⟨by rw[h] at par;have:¬ th.2.length%2=1:=(fun z=>by cases par.mp z);omega,.inl rfl⟩
 | odd=>exact .inl ⟨par.mpr h,rfl⟩
 | bare=>exact .inr ⟨by rw[h] at par;have:¬ th.2.length%2=1:=(fun z=>by cases par.mp z);omega,.inr (.inl rfl)⟩
 | tied=>exact .inr ⟨by rw[h] at par;have:¬ th.2.length%2=1:=(fun z=>by cases par.mp z);omega,.inr (.inr rfl)⟩
theorem Lay.sz (l:Lay n ms os ths):szS (ths.map ec)=2*n:=by rw[Ah,l.len]
theorem Lay.few (l:Lay n ms os ths)(hn:n<=4):(ths.map ec).length<9:=by
 have:=Ag _ l.okt;rw[l.sz] at this;omega
theorem qC (W:ak n ms)(WO:ak n os)(h:fY n ms os ths):Lay n ms os ths:=by
 have A:eY (2*n) (at0 ms) (at0 os) ths:=⟨aW W WO,h.1,h.2⟩
 refine⟨fun th ht=>A.good ht,?_,fun x=>?_⟩
 ·unfold flt;show List.Pairwise (·≠·) _;rw[K0];refine⟨fun l hl=>?_,?_⟩
  ·obtain⟨th,ht,rfl⟩:=HW.mp hl;exact(A.good ht).nd
  ·rw[IJ];have z:=A.apart (fun _=>true);rw[L9.mpr (fun _ _=>rfl)] at z;exact z.imp fun {s t} q x hx y hy=>q x hx y hy
 ·unfold flt;rw[KC];constructor
  ·rintro⟨l,hl,hx⟩;obtain⟨th,ht,rfl⟩:=HW.mp hl;exact A.lt ht hx
  ·intro hx;obtain⟨th,ht,hm⟩:=A.mem hx;exact⟨th.2,JM ht,hm⟩
theorem DA (W:ak n ms)(WO:ak n os):∃ ths,fY n ms os ths:=by
 have T:=aW W WO;have kn:=keys_nodup T;refine⟨(unL (2*n) (at0 ms) (at0 os)).mergeSort fun p q=>decide (mn p.2<=mn q.2),KH _ _,?_⟩;have srt:=KQ (le:=fun (p q:Kd×List Nat)=>decide (mn p.2<=mn q.2)) (fun p q r h1 h2=>by rw[decide_eq_true_eq] at *;omega) (fun p q=>by rw[JA,decide_eq_true_eq,decide_eq_true_eq];omega) (unL (2*n) (at0 ms) (at0 os));have nd:=(((KH (unL (2*n) (at0 ms) (at0 os)) fun p q=>decide (mn p.2<=mn q.2)).map fun th=>mn th.2).symm).nodup kn;have nd':=IJ.mp nd;exact(srt.and nd').imp fun {p q} ⟨h1,h2⟩=>by rw[decide_eq_true_eq] at h1;omega
theorem Ai (W:ak n ms)(WO:ak n os)(hn:n<=4)(l0:Lay n ms os ths){p q:Nat}(h1:p<=q)(h2:q<2*n)(h3:at0 ms p≠q):(p,q)∈a9 ths↔score (at0 (beh ms p q)) (at0 os) (2*n)=score (at0 ms) (at0 os) (2*n)+2:=by
 have pm:=KH ths fun p q=>decide (ec p<=ec q)
 have l:=l0.Cj pm;have srt:=KQ (le:=fun (p q:Kd×List Nat)=>decide (ec p<=ec q)) (fun p q r h1 h2=>by rw[decide_eq_true_eq] at *;omega) (fun p q=>by rw[JA,decide_eq_true_eq,decide_eq_true_eq];omega) ths;rw[<- wq pm];generalize (ths.mergeSort fun p q=>decide (ec p<=ec q))=th' at l srt;have DB:(th'.map ec).Pairwise (·<=·):=IJ.mpr (srt.imp fun {p q} h=>of_decide_eq_true h);have m:=rX (th'.map ec) 9 0 l.okt (l.few hn) (fun _ _=>IT _) DB;rw[l.sz] at m;have ck:=BB hn m;obtain⟨WA,WB,I⟩:=l.iso W WO;have cm:=uQ th' [];have hp:p<2*n:=by omega
 have cb:=Aa I W WA hp h2;have sc:=(oS I (dS W hp h2 h3)).score;rw[cb] at sc;have oo:∀ {x y:Nat} {S:Nat->Prop},S x->S y->S (ord x y).1/\S (ord x y).2:=fun {x y S} hx hy=>by
  by_cases c:x<=y
  ·rw[dq c];exact⟨hx,hy⟩
  ·rw[gP,dq (by omega)];exact⟨hy,hx⟩
 have ob:=oo (S:=fun z=>z<2*n) (I.pl p hp) (I.pl q h2);have fit:at0 (can 0 0 (th'.map ec)) (ord ((flt th').idxOf p) ((flt th').idxOf q)).1≠(ord ((flt th').idxOf p) ((flt th').idxOf q)).2:=fun z=>by
  have e0:at0 (can 0 0 (th'.map ec)) ((flt th').idxOf p)=(flt th').idxOf q:=by
   by_cases c:(flt th').idxOf p<=(flt th').idxOf q
   ·rw[dq c] at z;exact z
   ·rw[gP,dq (by omega)] at z;dsimp only at z;rw[<- z,WA.wk.inv _ (I.pl q h2)]
  exact h3 ((I.inj (W.wk.lt p hp) h2).mp (by rw[I.fa p hp];exact e0))
 have key:=Dx WA WB ck (rH _ _) ob.2 fit;rw[sc,I.score,<- key];have pmap:=yE (at0 ([]++flt th')) (ths:=rQ 0 (th'.map ec)) (c:=(p,q));have cm':(rQ 0 (th'.map ec)).map (fun th=>(th.1,th.2.map (at0 ([]++flt th'))))=th':=cm;rw[cm'] at pmap;rw[pmap];show (∃ d∈a9 (rQ 0 (th'.map ec)),(p,q)=ord (at0 (flt th') d.1) (at0 (flt th') d.2))↔ord ((flt th').idxOf p) ((flt th').idxOf q)∈_;have ml:(can 0 0 (th'.map ec)).length=2*n:=WA.len;constructor
 ·rintro⟨d,hd,e⟩;obtain⟨d1,d2,d3⟩:=qy hd;have b1:=rR _ 0 d2;have b2:=rR _ 0 d3;rw[ml,IZ] at b1 b2;have q1:=I.pq _ b1;have q2:=I.pq _ b2;have e1:ord ((flt th').idxOf p) ((flt th').idxOf q)=d:=by
   rw[<- dq h1] at e;rcases iU e with ⟨r1,r2⟩ | ⟨r1,r2⟩
   ·rw[r1,r2,q1,q2,dq d1]
   ·rw[r1,r2,q1,q2,gP,dq d1]
  rw[e1];exact hd
 ·intro hd;refine⟨_,hd,?_⟩;have q1:=I.qp p hp;have q2:=I.qp q h2;rw[lC,q1,q2,dq h1]
theorem E3 (W:ak n ms)(WO:ak n os)(hn:n<=4)(h0:fY n ms os ths){p q:Nat}(h1:p<=q)(h2:q<2*n)(h3:at0 ms p≠q):(p,q)∈a9 ths↔score (at0 (beh ms p q)) (at0 os) (2*n)=score (at0 ms) (at0 os) (2*n)+2:=Ai W WO hn (qC W WO h0) h1 h2 h3
theorem wA (W:ak n ms)(WO:ak n os)(hn:n<=4)(hI:fY n ms os ths){ys:List (Nat×Nat)}(hp:ys.Perm ((a9 ths).filter (cR n ms)))(hs:ys.Pairwise fun c d=>rkN c<=rkN d):ys=duL n os ms:=by
 have A:eY (2*n) (at0 ms) (at0 os) ths:=⟨aW W WO,hI.1,hI.2⟩
 have me:∀ c,c∈(a9 ths).filter (cR n ms)↔c∈duL n os ms:=fun c=>by
  unfold duL jV;rw[Ie,Ie,gC,@decide_eq_true_iff _ (Classical.propDecidable _)];have key:c.1<=c.2->c.2<2*n->at0 ms c.1≠c.2->(c∈a9 ths↔aH n (beh ms c.1 c.2) os+1=aH n ms os):=fun b1 b2 hf=>by
   rw[km W WO (by omega) b2 hf];have z:=E3 W WO hn hI b1 b2 hf;constructor
   ·intro hc;have:=z.mp hc;omega
   ·intro hc;exact z.mpr (by omega)
  constructor
  ·rintro⟨h1,h2⟩;obtain⟨b1,b2⟩:=A.bound h1;unfold cR at h2;rw[Iv,decide_eq_true_iff,decide_eq_true_iff,uL b1 b2] at h2;exact⟨⟨by omega,b1,b2⟩,h2.1,h2.2,(key b1 b2 h2.1).mp h1⟩
  ·rintro⟨⟨_,b1,b2⟩,h1,h2,h3⟩;refine⟨(key b1 b2 h1).mpr h3,?_⟩;unfold cR;rw[Iv,decide_eq_true_iff,decide_eq_true_iff,uL b1 b2];exact⟨h1,h2⟩
 have ad:(duL n os ms).Pairwise fun c d=>rkN c<rkN d:=(qt (N:=2*n) (by omega) (2*n)).filter _
 have pm:=(JD (A.nodup.filter _) Du).mpr me;have bd:∀ c∈duL n os ms,c.2<2*n:=fun c hc=>(rM hc).2.1
 refine List.Perm.eq_of_pairwise (le:=fun c d=>rkN c<=rkN d) (fun c d hc hd z1 z2=>?_) hs (ad.imp fun h=>by omega) (hp.trans pm);have b1:=bd c ((hp.trans pm).mem_iff.mp hc);have b2:=bd d hd;unfold rkN at z1 z2;exact Ls (by omega) (by omega)
end
end Iso

namespace Iso
open Th Mir Classical
inductive Rch (n:Nat) (os ms:List Nat):List Nat->Prop
 | refl:Rch n os ms ms
 | step {w v:List Nat}:Rch n os ms w->v∈jP n os w->Rch n os ms v
section
variable {n:Nat}{ms os ms' os':List Nat}{φ ψ:Nat->Nat}
theorem Rch.work (W:ak n ms){w:List Nat}(h:Rch n os ms w):ak n w:=by
 induction h with
 | refl=>exact W
 | step _ hv ih=>exact oU ih hv
theorem Rch.trans {w v:List Nat}(h:Rch n os ms w)(k:Rch n os w v):Rch n os ms v:=by
 induction k with
 | refl=>exact h
 | step _ hv ih=>exact ih.step hv
theorem BC (I:lB n ms os ms' os' φ ψ)(W:ak n ms)(W':ak n ms'):il φ ψ ms=ms':=by
 refine gN (by rw[dW,W.len,W'.len]) fun e he=>?_
 rw[dW] at he;have he':e<2*n:=by rw[<- W.len];exact he
 rw[iW φ ψ he];have z:=I.fa (ψ e) (I.ql e he');rw[I.pq e he'] at z;exact z
theorem Rch.il (I:lB n ms os ms' os' φ ψ)(W:ak n ms)(W':ak n ms'){w:List Nat}(h:Rch n os ms w):Rch n os' ms' (il φ ψ w):=by
 induction h with
 | refl=>rw[BC I W W'];exact .refl
 | step hw hv ih =>
  have Ww:=hw.work W;exact ih.step (Ab (oS I Ww) Ww (my I Ww) hv)
theorem wB (I:lB n ms os ms' os' φ ψ)(W:ak n ms)(W':ak n ms'){L L':List (List Nat)}(nd:L.Nodup)(h:∀ w∈L,Rch n os ms w)(h':∀ w,Rch n os' ms' w->w∈L'):L.length<=L'.length:=by
 have e:(L.map (Iso.il φ ψ)).Nodup:=by
  refine eF nd fun a ha b hb z=>?_
  have z2:=congrArg (Iso.il ψ φ) z;rw[qw I ((h a ha).work W),qw I ((h b hb).work W)] at z2;exact z2
 have:=sub_len e (m:=L') fun x hx=>by
  obtain⟨w,hw,rfl⟩:=HW.mp hx;exact h' _ ((h w hw).il I W W')
 rw[HQ] at this;exact this
end
end Iso

namespace L2
open PySem PySem.Spec PyProof.Rows
section
variable {X:Cx}
theorem kC {α β:Type}{F:α->β->Prop}:∀ {l:List α} {m:List β} {i:Nat} {a:α} {b:β},Paired F l m->l[i]?=some a->m[i]?=some b->F a b
 | _,_,0,_,_,.cons h _,e1,e2=>by cases e1;cases e2;exact h
 | _,_,i+1,_,_,.cons _ r,e1,e2=>kC r (i:=i) (by simpa using e1) (by simpa using e2)
end
end L2



namespace L2V
open PySem PySem.Spec PyProof.Rows PySem.W
noncomputable def DEx (h:Heap)(d:Addr)(es:Array DictEntry)(ep:Nat):Prop:=∃ o,h.get? d=some o/\o.cls=.type "dict"/\o.data=.dict es ep
section
variable {prog:Program}{w:World}{A:Around}{E:Value->Shared->Prop}{s:Shared}
theorem DEx.typeIs {d:Addr}{es:Array DictEntry}{ep:Nat}(x:DEx s.heap d es ep):s.TypeIs (.ref d) "dict":=let ⟨o,ho,hc,_⟩:=x;⟨o,ho,hc⟩
theorem yG {d:Addr}{es:Array DictEntry}{ep:Nat}{Q:Value->Shared->Prop}(hd:(d == sysModules)=false)(hm:DEx s.heap d es ep)
  (hQ:Q (.ref s.heap.objs.size) { s with heap:=s.heap.push { cls:=.type "dict_keyiterator",data:=.fields #[.ref d,.int 0 0,.int es.size 0,.int ep 0] } }):wpAny (model prog w) A (pyIter (.ref d)) Q E s:=by
 obtain⟨o,ho,hc,E4⟩:=id hm;have hT:=hm.typeIs;refine wpAny_pyIter_slot hT F.slot_dict_iter (wpAny_call_entry F.slot_dict_iter hT F.entry_dict_iter ?_ (F.args_dict_iter_1 _));unfold Builtin.«dict.__iter__»;refine wpAny_bind ?_;unfold Builtin.Dict.dictSlotNone;refine wpAny_bind (wpAny_notOrdered_dict hT ?_);show wpAny _ _ (pure (Value.ref d)) _ _ s;refine wpAny_pure ?_;show wpAny _ _ (Builtin.Dict.showsAll d >>= _) _ _ s;unfold Builtin.Dict.showsAll;rw[if_neg (by rw[hd];exact Io)];refine wpAny_bind (wpAny_pure (wpAny_bind (wpAny_dictEntries ho E4 (wpAny_bind (wpAny_dictEpoch ho E4 ?_)))));refine wpAny_bind (wpAny_newObj_type (wpAny_pure ⟨_,rfl,"dict_keyiterator",_,⟨_,Ir _ rfl,rfl⟩,F.slot_dict_keyiterator_next.lookup,?_⟩));simpa[rawInt] using hQ
theorem yH {it d:Addr}{i ep:Nat}{es:Array DictEntry}{Q:Option Value->Shared->Prop}(hit:s.heap.IsKeyIter it d i es.size ep)(hm:DEx s.heap d es ep)(hlt:i<es.size)
  (hQ:∀ h',h'.IsKeyIter it d (i+1) es.size ep->Heap.SameBut it s.heap h'->Q (some es[i].key) { s with heap:=h' }):wpAny (model prog w) A (pyNext (.ref it)) Q E s:=by
 obtain⟨o,ho,hc,hd⟩:=id hit;obtain⟨od,hod,hcd,hdd⟩:=id hm;unfold pyNext;refine wpAny_bind (wpAny_attempt (wpAny_callSpecial?_slot (name:=Str.ofString "__next__") hit.typeIs F.slot_dict_keyiterator_next (wpAny_call_entry F.slot_dict_keyiterator_next hit.typeIs F.entry_dict_keyiterator_next ?_ (F.args_dict_keyiterator_next_1 _))));refine wpAny_bind (wpAny_pure (wpAny_bind (wpAny_bind ?_)))
 (first | refine wpAny_bind (wpAny_typeNameOfWhole_keyiter hit.typeIs (wpAny_pure ?_)) | refine wpAny_bind (wpAny_typeNameOf_keyiter hit.typeIs (wpAny_pure ?_)));refine wpAny_bind (wpAny_fieldsOf ho hd ?_)
 have DC:Builtin.Dict_items.ownsTuple "dict_keyiterator" = false:=by decide
 simp only[DC,Jl,if_false];show wpAny _ _ (if (Value.ref d == Value.none)=true then _ else _) _ _ s;rw[if_neg (show ¬ ((Value.ref d == Value.none)=true) from Io)];refine wpAny_bind (wpAny_pure (wpAny_bind (wpAny_dictEntries hod hdd ?_)));rw[if_neg (by simp)];refine wpAny_bind (wpAny_pure (wpAny_bind (wpAny_dictEpoch hod hdd ?_)));rw[if_neg (by simp)];refine wpAny_pure ?_;simp only[show ¬ ((i:Int)<0) from by omega,if_false,Iz,Jv hlt];refine wpAny_bind ?_
 (first | refine wpAny_bind (wpAny_typeNameOfWhole_keyiter hit.typeIs (wpAny_pure ?_)) | refine wpAny_bind (wpAny_typeNameOf_keyiter hit.typeIs (wpAny_pure ?_)));refine wpAny_bind (wpAny_isOneOf_keyiter hit.typeIs ?_)
 show wpAny _ _ (setField (.ref it) 1 (rawInt ((i:Int)+1)) >>= _) _ _ s;refine wpAny_bind (wpAny_setField ho hd (by simp) ?_);have yg:(s.heap.update it (Obj.mapFields (·.setIfInBounds 1 (rawInt ((i:Int)+1))))).IsKeyIter it d (i+1) es.size ep:=⟨_,JU _ ho (Obj.isFreed_of_fields (Obj.data_mapFields hd _)),(Obj.cls_mapFields ..).trans hc,by rw[Obj.data_mapFields hd];simp[rawInt]⟩
 refine wpAny_bind (wpAny_holding ?_);refine wpAny_bind (wpAny_isOneOf_keyiter (s:={ s with heap:=s.heap.update it (Obj.mapFields (·.setIfInBounds 1 (rawInt ((i:Int)+1)))) }) yg.typeIs ?_);show wpAny _ _ (pure es[i].key) _ _ _;exact wpAny_pure (wpAny_pure ⟨_,rfl,wpAny_pure (hQ _ yg (Heap.SameBut.update ..))⟩)
theorem Aj {it d:Addr}{ep:Nat}{es:Array DictEntry}{Q:Option Value->Shared->Prop}(hh:A.handled=none)(hit:s.heap.IsKeyIter it d es.size es.size ep)(hm:DEx s.heap d es ep)
  (hQ:∀ h',Heap.ExtBut it s.heap h'->Q none { s with heap:=h' }):wpAny (model prog w) A (pyNext (.ref it)) Q E s:=by
 obtain⟨o,ho,hc,hd⟩:=id hit;obtain⟨od,hod,hcd,hdd⟩:=id hm;unfold pyNext;refine wpAny_bind (wpAny_attempt (wpAny_callSpecial?_slot (name:=Str.ofString "__next__") hit.typeIs F.slot_dict_keyiterator_next (wpAny_call_entry F.slot_dict_keyiterator_next hit.typeIs F.entry_dict_keyiterator_next ?_ (F.args_dict_keyiterator_next_1 _))));refine wpAny_bind (wpAny_pure (wpAny_bind (wpAny_bind ?_)))
 (first | refine wpAny_bind (wpAny_typeNameOfWhole_keyiter hit.typeIs (wpAny_pure ?_)) | refine wpAny_bind (wpAny_typeNameOf_keyiter hit.typeIs (wpAny_pure ?_)));refine wpAny_bind (wpAny_fieldsOf ho hd ?_)
 have DC:Builtin.Dict_items.ownsTuple "dict_keyiterator" = false:=by decide
 simp only[DC,Jl,if_false];show wpAny _ _ (if (Value.ref d == Value.none)=true then _ else _) _ _ s;rw[if_neg (show ¬ ((Value.ref d == Value.none)=true) from Io)];refine wpAny_bind (wpAny_pure (wpAny_bind (wpAny_dictEntries hod hdd ?_)));rw[if_neg (by simp)];refine wpAny_bind (wpAny_pure (wpAny_bind (wpAny_dictEpoch hod hdd ?_)));rw[if_neg (by simp)];refine wpAny_pure ?_;simp only[show ¬ ((es.size:Int)<0) from by omega,if_false,Iz,Array.getElem?_eq_none (HV es.size)];refine wpAny_bind ?_
 (first | refine wpAny_bind (wpAny_typeNameOfWhole_keyiter hit.typeIs (wpAny_pure ?_)) | refine wpAny_bind (wpAny_typeNameOf_keyiter hit.typeIs (wpAny_pure ?_)));show wpAny _ _ (setField (.ref it) 0 .none >>= _) _ _ s
 refine wpAny_bind (wpAny_setField ho hd (by simp) ?_);show wpAny _ _ (newExc (.type "StopIteration") [] >>= _) _ _ _;refine wpAny_bind ?_;simp only[newExc,newTuple];refine wpAny_bind (wpAny_newObj_type ?_ (by size_fits));refine wpAny_bind (m:=firstArgMember _ _) (wpAny_of_eq (a:=Value.none) (by first | rfl | (simp only[firstArgMember];rfl)) ?_);refine wpAny_newObj_type ?_ (by size_fits);simp only[raiseNew];refine wpAny_bind (wpAny_handled ?_);rw[show A.in1.handled=none from hh];refine wpAny_bind (wpAny_pure (wpAny_throw ?_));refine wpAny_bind (wpAny_isInstance (T:="StopIteration") (b:=true) ⟨_,Ir _ rfl,rfl⟩ isSubtype_stop ?_);exact wpAny_pure (hQ _ (((Heap.SameBut.update ..).extBut.push _).push _))
end
theorem wC {prog:Program}{w:World}{A:Around}(hh:A.handled=none)(I d:Addr)(hne:d≠I)(es:Array DictEntry)(ep:Nat) :
  Walks prog w A I [I,d] [I] es.size (fun i v=>∃ h:i<es.size,v=es[i].key) (fun i h=>h.IsKeyIter I d i es.size ep/\DEx h d es ep) where
 sub:=fun b hb=>by simp at hb;simp[hb]
 frame:=fun _ _ _ st hk=>⟨st.1.at fun o e=>hk I (by simp) o e,let ⟨o,ho,r⟩:=st.2;⟨o,hk d (by simp) o ho,r⟩⟩
 item:=fun i s Q E hi st hQ=>by
  refine yH st.1 st.2 hi fun h' yg hs'=>?_
  exact hQ _ h' s.toks ⟨hi,rfl⟩ ⟨yg,let ⟨o,ho,r⟩:=st.2;⟨o,hs'.extBut d o hne ho,r⟩⟩ fun b o hb e=>hs'.extBut b o (fun h=>hb (by simp[h])) e
 done:=fun s Q E st hQ=>Aj hh st.1 st.2 fun h' he'=>hQ h' s.toks fun b o hb e=>he' b o (fun h=>hb (by simp[h])) e
 self:=fun _ _ _ _ st hQ=>wpAny_pyIter_keyiter st.1 hQ
theorem uW {prog:Program}{w:World}{d:Addr}{es:Array DictEntry}{ep:Nat}(lo:(d == sysModules)=false):KdlSrc prog w "dict" d d es.size (fun i v=>∃ h:i<es.size,v=es[i].key) (fun h=>DEx h d es ep) where
 type:=fun _ hm=>hm.typeIs
 there:=fun _ ⟨_,ho,_⟩=>⟨Il ho,Il ho⟩
 keep:=fun _ _ ⟨o,ho,r⟩ hk=>⟨o,hk d (.inl rfl) o ho,r⟩
 notList:=by decide
 notTuple:=by decide
 hint:=fun _ _ _ _ hm hq=>kdl_hint_dict hm.typeIs hq
 iter:=fun _ _ hh hm=>⟨_,_,(fun _ _ hq=>yG lo hm hq),wC hh _ d (let ⟨_,ho,_⟩:=hm;IB (Il ho)) es ep,⟨⟨_,Ir _ rfl,rfl,rfl⟩,let ⟨o,ho,r⟩:=hm;⟨o,HU _ ho,r⟩⟩⟩
end L2V
namespace L2
open PySem PySem.Spec PyProof.Rows L2V PySem.W
variable {X:Cx}
theorem rY (hc:X.calm=true):eI X (.type "list") (fun xs H Q=>∃ (d:Addr) (kvs:List (List Key×V)),xs=[.ref d]/\H d=some (.dT kvs)/\∀ (l:Addr) (bs:List Addr),H l=none->bs.length=kvs.length->(∀ (i:Nat) (b:Addr) (k:List Key) (v:V),bs[i]?=some b->kvs[i]?=some (k,v)->H b=some (.tup (k.map kV)))->Q (.ref l) (upd H l (.lst (bs.map V.ref)))):=by
 intro pins s σ H xs us Q I r h;obtain⟨d,kvs,rfl,hd,q⟩:=h;obtain⟨u,rfl,ru⟩:=r.one;cases ru;obtain⟨z,lo,xs,rel,o,es,ep,h1,h2,h3,h4,h5⟩:=(show bL X.prog X.w H s.heap d (.dT kvs) from I.hok d _ hd)
 have hsz:es.size=kvs.length:=by
  rw[Paired.length rel];have:=congrArg Lr h4;rwa[Jb,HQ] at this
 refine kdl_call (uW (prog:=X.prog) (w:=X.w) (es:=es) (ep:=ep) lo) (I.ok.hd hc) ⟨o,h1,h2.1,h3⟩ (by rw[hsz];exact z) fun h' tk iC c' hk hS' lW=>?_
 have hx:xs.length=kvs.length:=(Paired.length rel).symm;refine⟨.ref _,_,I.laid (a:=s.heap.objs.size) (o:=.lst ((xs.map (·.2.1)).map V.ref)) (t':=tk) hk (HV _) ⟨by rw[HQ,HQ,hx];exact z,iC.toList,c',?_,by simpa using hS'⟩,rfl,q _ (xs.map (·.2.1)) (I.hok.fresh (HV _)) (by rw[HQ];exact hx) fun i b k v e1 e2=>?_⟩
 ·refine jk (by rw[HQ,HQ,hx,<- hsz];exact(by simpa using lW.1.symm)) fun i x v e6 e7=>?_
  obtain⟨hi,ev⟩:=lW.2 i v (by simpa using e7);rw[HX,HX] at e6;obtain⟨y,e8,e9⟩:=Jh.mp e6;obtain⟨p,e10,e11⟩:=Jh.mp e8;have e12:es.toList[i]?=some (entryOfKey (tupleKind (cH X.prog X.w)) p):=by rw[h4,HX,e10];rfl
  have e13:es.toList[i]?=some es[i]:=by rw[JW];exact Jv hi
  rw[e13] at e12;have e14:=Option.some.inj e12;rw[ev,e14,<- e9,<- e11];exact rfl
 ·rw[HX] at e1;obtain⟨p,e10,e11⟩:=Jh.mp e1;have z:=kC rel e2 e10;rw[<- e11];exact z.2.1
end L2

namespace L2E
open PySem PySem.Spec PyProof.Rows
section
variable {prog:Program}{w:World}{K:Type}[DecidableEq K]{knd:HeapKind prog w K}{A:Around}{E:Value->Shared->Prop}{s:Shared}
theorem wD {d a:Addr}{xs:List (K×Addr×Value)}{k:K}{v:Value}{Q:Unit->Shared->Prop}(hu:knd.room A)(qS:knd.is s.heap k a)(hm:s.heap.DictOfH knd d xs)(hz:xs.length<=sizeLine)
  (hQ:∀ h',h'.DictOfH knd d (storedH xs k a v)->Heap.SameBut d s.heap h'->Q () { s with heap:=h' }):wpAny (model prog w) A (dictSetHashed d (.ref a) (knd.hash k) v) Q E s:=by
 obtain⟨o,es,ep,ho,hc,hd,he,his,hn⟩:=hm;have esz:=size_of_entries he;unfold dictSetHashed
 try with_reducible refine wpAny_holding ?_
 refine wpAny_bind (wpAny_dictFind_heap hu qS ho hd he his hn (fun hno=>?_) fun j p hj=>?_)
 ·have en:=atKey_none_of_get hno;refine wpAny_bind (wpAny_rule (wpAny_updateDictKeys (hz:=by omega) ho hd (hQ _ ⟨_,_,ep+1,JU _ ho (Obj.isFreed_of_dict (Obj.data_mapDictKeys hd _)),hc.mapDictKeys _,Obj.data_mapDictKeys hd _,?_,?_,?_⟩ (Heap.SameBut.update ..))))
  all_goals rw[storedH_new en]
  ·simp[he,entryOfKey]
  ·intro b hb;rcases Ic.mp hb with q | q
   ·exact knd.keeps (his b q) ho hd (Heap.SameBut.update ..)
   ·rw[Ih.mp q];exact knd.keeps qS ho hd (Heap.SameBut.update ..)
  ·rw[IS,Jj];refine⟨hn,by simp,fun x hx y hy e=>not_mem_keys_of_get hno ?_⟩;have:y=k:=by simpa using hy
   rw[<- this,<- e];exact hx
 ·have ea:=atKey_of_get hn hj;refine wpAny_bind (wpAny_rule (wpAny_bind (wpAny_updateDict ho hd (wpAny_point (hQ _ ⟨_,_,ep,JU _ ho (Obj.isFreed_of_dict (Obj.data_mapDict hd _)),hc.mapDict _,Obj.data_mapDict hd _,?_,?_,?_⟩ (Heap.SameBut.update ..))))))
  all_goals rw[storedH_old ea]
  ·have z:=modify_map_putAt (entryOfKey knd) (fun e:DictEntry=>{ e with val:=v }) k v (fun _ _=>rfl) hn hj;rw[<- he] at z;obtain⟨l⟩:=es;simpa using z
  ·intro b hb;obtain⟨y,hy,rfl⟩:=HW.mp hb;unfold putAt
   split <;> exact knd.keeps (his y hy) ho hd (Heap.SameBut.update ..)
  ·rw[keys_map_putAt];exact hn
noncomputable def eN (xs ys:List (K×Addr×Value)):List (K×Addr×Value):=ys.foldl (fun acc e=>storedH acc e.1 e.2.1 e.2.2) xs
theorem rZ {xs ys:List (K×Addr×Value)}{i:Nat}{e:K×Addr×Value}(h:ys[i]?=some e):eN xs (ys.take (i+1))=storedH (eN xs (ys.take i)) e.1 e.2.1 e.2.2:=by
 unfold eN;rw[List.take_succ,h,List.foldl_append]
 rfl
theorem wF (xs:List (K×Addr×Value))(k:K)(a:Addr)(v:Value):(storedH xs k a v).length<=xs.length+1:=by
 unfold storedH
 split
 ·rw[HQ];omega
 ·rw[HY];exact HV _
theorem oY:∀ (ys xs:List (K×Addr×Value)),(eN xs ys).length<=xs.length+ys.length
 | [],xs=>HV _
 | e::ys,xs=>by
  have h1:=oY ys (storedH xs e.1 e.2.1 e.2.2);have h2:=wF xs e.1 e.2.1 e.2.2;show (eN (storedH xs e.1 e.2.1 e.2.2) ys).length<=_;rw[ID];omega
theorem DD {nm:String}{d o:Addr}{xs ys:List (K×Addr×Value)}{Q:Unit->Shared->Prop}(hu:knd.room A)(hdo:d≠o)(hoS:(o == sysModules)=false)(hd:s.heap.DictOfH knd d xs)(ho:s.heap.DictOfH knd o ys)(hne:xs≠[])(hz:xs.length+ys.length<=sizeLine)
  (hQ:∀ h',h'.DictOfH knd d (eN xs ys)->Heap.SameBut d s.heap h'->Q () { s with heap:=h' }):wpAny (model prog w) A (Builtin.Dict.mergeDict nm d o) Q E s:=by
 obtain⟨od,esd,epd,hod,hcd,hdd,hed,hid,hnd⟩:=id hd;obtain⟨oo,eso,epo,hoo,hco,Ak,heo,hio,hno⟩:=id ho;have ld:=size_of_entries hed;have lo:=size_of_entries heo;have Gy:¬ (esd.isEmpty=true):=fun z=>by
  rw[Array.isEmpty_iff.mp z] at ld;exact hne (JC.mp (by simpa using ld.symm))
 unfold Builtin.Dict.mergeDict;rw[if_neg (by simpa using hdo)];unfold Builtin.Dict.showsAll;rw[if_neg (by rw[hoS];exact Io)];refine wpAny_bind (wpAny_pure ?_);refine wpAny_bind (wpAny_dictEntries hoo Ak ?_);dsimp only
 split
 all_goals try (refine wpAny_bind (wpAny_dictEntries hod hdd ?_);rw[if_neg Gy])
 all_goals
  refine wpAny_bind (wpAny_dictEpoch hoo Ak ?_);refine wpAny_bind (wpAny_dictEntries hoo Ak ?_);refine wpAny_bind ?_;rw[Std.Legacy.Range.forIn_eq_forIn_range'];simp only[Std.Legacy.Range.size,Mx,Mf,Nat.div_one];refine wpAny_forIn_list _ (fun rest _ s'=>∃ h' i,s' = { s with heap:=h' }/\rest=List.range' i (eso.size-i)/\i<=eso.size/\h'.DictOfH knd d (eN xs (ys.take i))/\h'.get? o=some oo/\Heap.SameBut d s.heap h') _ ?_ ?_ _ _ ⟨s.heap,0,rfl,by simp,IT _,hd,hoo,Heap.SameBut.refl _ _⟩
  ·rintro x rest b s' ⟨h',i,rfl,hr,hi,hd',DE,hs'⟩;by_cases hlt:i<eso.size
   ·obtain⟨m,hm⟩:∃ m,eso.size-i=m+1:=⟨eso.size-i-1,by omega⟩
    rw[hm,MP] at hr;obtain⟨rfl,Al⟩:=List.cons.inj hr;refine wpAny_bind (wpAny_dictEntries DE Ak ?_);rw[Jv hlt];have hy:ys[x]?=some (ys[x]'(by omega)):=HP _;generalize ys[x]'(by omega)=e at hy;obtain⟨k,a,v⟩:=e;have ee:eso[x]=entryOfKey knd (k,a,v):=by
     have z:=entry_at heo x;rw[hy,Jv hlt] at z;exact Option.some.inj z
    rw[ee];have qS:knd.is h' k a:=knd.keeps (hio _ (Ib hy)) hod hdd hs';have hmx:(eN xs (ys.take x)).length<=sizeLine:=by
     have e1:=oY (ys.take x) xs;rw[Iw] at e1;omega
    refine wpAny_bind (wpAny_holding (wD (s:={ s with heap:=h' }) hu qS hd' hmx fun h'' Gz yh=>?_));have Ck:h''.get? o=some oo:=(yh.2 o (Ne.symm hdo)).trans DE;refine wpAny_bind (wpAny_dictEpoch Ck Ak ?_);rw[if_neg (by simp)];exact wpAny_pure ⟨h'',x+1,rfl,by rw[Al];congr 1;omega,hlt,by rw[rZ hy];exact Gz,Ck,hs'.trans yh⟩
   ·rw[Nat.sub_eq_zero_of_le (by omega)] at hr;simp at hr
  ·rintro b s' ⟨h',i,rfl,hr,hi,hd',DE,hs'⟩;have hin:i=eso.size:=by
    by_cases hlt:i<eso.size
    ·obtain⟨m,hm⟩:∃ m,eso.size-i=m+1:=⟨eso.size-i-1,by omega⟩
     rw[hm,MP] at hr;exact nomatch hr
    ·omega
   refine wpAny_pure (hQ h' ?_ hs');rw[hin,lo,IV] at hd';exact hd'
theorem wG (d o:Addr)(hdo:d≠o)(hoS:(o == sysModules)=false):MeetsIn prog w (Builtin.«dict.update» ⟨[.ref d,.ref o],[]⟩) (fun A R s=>knd.room A.in1/\∃ xs ys,s.heap.DictOfH knd d xs/\s.heap.DictOfH knd o ys/\xs≠[]/\xs.length+ys.length<=sizeLine /\
  ∀ h',h'.DictOfH knd d (eN xs ys)->Heap.SameBut d s.heap h'->R (.ok (.ret .none)) { s with heap:=h' }) :=
 .of_wp fun A R s ⟨hu,xs,ys,hd,ho,hne,hz,h⟩=>by
  unfold Builtin.«dict.update»;refine wpAny_bind ?_;unfold Builtin.Dict.selfAndRest;refine wpAny_bind (wpAny_notOrdered_dict hd.typeIs (wpAny_pure ?_));show wpAny _ _ (Builtin.Dict.updateFrom "dict.update" d (.ref o) [] .none) _ _ s;unfold Builtin.Dict.updateFrom Builtin.Dict.merge Builtin.Dict.readDirectly;refine wpAny_bind (wpAny_typeOf ho.typeIs ?_);rw[if_neg (by decide)];refine wpAny_bind (wpAny_bind (wpAny_bind (wpAny_isInstance ho.typeIs isSubtype_dict_dict ?_)));simp only[Bool.not_true,Jl,if_false];refine wpAny_bind (wpAny_specialOf ho.typeIs F.slot_dict_iter.lookup (wpAny_pure ?_));simp only[beq_self_eq_true,if_true];refine wpAny_bind (wpAny_pure ?_);refine DD hu hdo hoS hd ho hne hz fun h' hd' hs'=>?_
  show wpAny _ _ (Builtin.Dict.addKeywords d [] >>= _) _ _ _;exact wpAny_bind (wpAny_pure (wpAny_pure ⟨.none,rfl,h h' hd' hs'⟩))
end
end L2E
namespace L2
open PySem PySem.Spec PyProof.Rows L2E
section
variable {X:Cx}
noncomputable def iX (kvs more:List (List Key×V)):List (List Key×V):=more.foldl (fun acc e=>putK acc e.1 e.2) kvs
theorem KT.merge {H:Hp}:∀ {more:List (List Key×V)} {ys:List (List Key×Addr×Value)} {kvs:List (List Key×V)} {xs:List (List Key×Addr×Value)},KT H more ys->KT H kvs xs->KT H (iX kvs more) (eN xs ys)
 | _,_,_,_,.nil,r=>r
 | _,_,_,_,.cons (a:=p) (b:=q) h t,r=>by
  have z:=KT.put r p.1 (b:=q.2.1) h.2.1 h.2.2;have z2:=KT.merge t z;rw[h.1] at z2;unfold iX eN at z2 ⊢;rw[LK,LK,h.1];exact z2
theorem qD:∀ (more kvs:List (List Key×V)),(iX kvs more).length<=kvs.length+more.length
 | [],kvs=>HV _
 | e::more,kvs=>by
  have h1:=qD more (putK kvs e.1 e.2);have h2:=eD kvs e.1 e.2;show (iX (putK kvs e.1 e.2) more).length<=_;rw[ID];omega
noncomputable def DF:V->List V->Hp->VK->Prop:=fun x vs H Q=>∃ a b kvs more,x=.ref a/\vs=[.ref b]/\a≠b/\H a=some (.dT kvs)/\H b=some (.dT more)/\kvs≠[]/\kvs.length+more.length<=5000/\Q .non (upd H a (.dT (iX kvs more)))
theorem Am (hu:X.A.units+1<cLine):MtM X "dict.update" DF:=by
 intro pins s σ H x vs v us Q I rx rv h;obtain⟨a,b,kvs,more,rfl,rfl,ne,ha,hb,hne,hz,q⟩:=h;cases rx;obtain⟨u,rfl,ru⟩:=Vals.one rv;cases ru;obtain⟨za,hda,va,ra,da⟩:=wX I.hok ha;obtain⟨zb,hdb,vb,rb,db⟩:=wX I.hok hb;have l1:=Paired.length ra;have l2:=Paired.length rb;have hl:=qD more kvs;have big:(5000:Nat)<=sizeLine:=by decide
 refine call_meetsIn Lp da.typeIs PySem.F.entry_dict_update (PySem.F.args_dict_update_2 _ _) (wG (knd:=tupleKind (cH X.prog X.w)) a b ne hdb) ⟨tupleKind_room_in1 hu,va,vb,da,db,fun z=>hne (JC.mp (by rw[l1,z];rfl)),by omega,fun h' da' hs=>?_⟩;obtain⟨q',es,ep,hq,h2,h3,h4,_,h5⟩:=da';refine⟨.non,_,ny (ob:=.dT (iX kvs more)) (t':=s.toks) I (by rw[ha];exact True.intro) hs ⟨q',hq⟩ ⟨by omega,hda,_,(KT.merge rb ra).keeps fun c ys ec=>?_,q',es,ep,hq,h2,h3,h4,h5⟩,rfl,q⟩;rw[aE (yR ec ha (fun z=>nomatch z))];exact ec
end
end L2

namespace dB
open PySem PySem.Spec PyProof.Rows PySem.W L2
noncomputable def rkA:Int->List Int->Int
 | c,[]=>c
 | c,x::xs=>rkA (c*100+x) xs
noncomputable def InR (xs:List Int):Prop:=∀ x∈xs,0<=x/\x<100
theorem kD:∀ {xs ys:List Int} {c c':Int},xs.length=ys.length->InR xs->InR ys->c<c'->rkA c xs<rkA c' ys
 | [],[],_,_,_,_,_,h=>h
 | [],_::_,_,_,e,_,_,_=>by simp at e
 | _::_,[],_,_,e,_,_,_=>by simp at e
 | x::xs,y::ys,c,c',e,hx,hy,h=>by
  have a1:=hx x Iq;have a2:=hy y Iq;have h1:InR xs:=fun z hz=>hx z (Im _ hz)
  have h2:InR ys:=fun z hz=>hy z (Im _ hz)
  show rkA (c*100+x) xs<rkA (c'*100+y) ys;exact kD (by simpa using e) h1 h2 (by omega)
theorem BD {xs ys:List Int}(e:xs.length=ys.length)(hx:InR xs)(hy:InR ys):∀ {c:Int},rkA c xs=rkA c ys->xs=ys:=by
 induction xs generalizing ys with
 | nil=>intro c _;cases ys with
  | nil=>rfl
  | cons y ys=>simp at e
 | cons x xs ih =>
  intro c h;cases ys with
  | nil=>simp at e
  | cons y ys =>
   have el:xs.length=ys.length:=by simpa using e
   have h1:InR xs:=fun z hz=>hx z (Im _ hz)
   have h2:InR ys:=fun z hz=>hy z (Im _ hz)
   have exy:x=y:=by
    rcases Lq x y with q | q | q
    ·have:=kD (c:=c*100+x) (c':=c*100+y) el h1 h2 (by omega);unfold rkA at h;omega
    ·exact q
    ·have:=kD (c:=c*100+y) (c':=c*100+x) el.symm h2 h1 (by omega);unfold rkA at h;omega
   subst exy;rw[ih el h1 h2 (c:=c*100+x) h]
theorem An {prog:Program}{w:World}{A:Around}{s:Shared}{Q:Bool->Shared->Prop}{fin:Bool}:∀ {xs ys:List Int} {its jts:List Value} {c:Int} {i:Nat},Vals (xs.map V.int) its->Vals (ys.map V.int) jts->xs.length=ys.length->InR xs->InR ys->fin=false->Q (decide (rkA c xs<rkA c ys)) s->KatLex prog w A true fin Q (its.zip jts) i s
 | [],[],_,_,c,i,.nil,.nil,_,_,_,hf,q=>by
  refine kat_nil ?_;rw[hf];have e:decide (rkA c []<rkA c [])=false:=decide_eq_false (M7 _);rw[e] at q;exact q
 | [],_::_,_,_,_,_,_,_,e,_,_,_,_=>by simp at e
 | _::_,[],_,_,_,_,_,_,e,_,_,_,_=>by simp at e
 | x::xs,y::ys,_,_,c,i,.cons r1 t1,.cons r2 t2,e,hx,hy,hf,q=>by
  obtain⟨u1,rfl⟩:=r1;obtain⟨u2,rfl⟩:=r2;have el:xs.length=ys.length:=by simpa using e
  have h1:InR xs:=fun z hz=>hx z (Im _ hz)
  have h2:InR ys:=fun z hz=>hy z (Im _ hz)
  refine kat_cons (wpAny_eqBool_int ?_);by_cases cc:x=y
  ·subst cc;rw[show (x == x)=true from beq_iff_eq.mpr rfl];exact kat_yes (An t1 t2 el h1 h2 hf q)
  ·rw[show (x == y)=false from beq_eq_false_iff_ne.mpr cc];have ed:decide (rkA c (x::xs)<rkA c (y::ys))=decide (x<y):=by
    refine decide_eq_decide.mpr ⟨fun h=>?_,fun h=>(show rkA (c*100+x) xs<rkA (c*100+y) ys from kD el h1 h2 (by omega))⟩;rcases Lq x y with z | z | z
    ·exact z
    ·exact absurd z cc
    ·have:=kD (c:=c*100+y) (c':=c*100+x) el.symm h2 h1 (by omega);unfold rkA at h;omega
   rw[ed] at q;refine kat_no ?_;cases i with
   | zero=>exact oneLt_int q
   | succ i=>exact kat_one _ _ (lt_int q)
noncomputable def Pl (h:Heap)(m:Nat)(v:Value)(xs:List Int):Prop:=∃ (t:Addr) (o:Obj) (n:Nat) (its:List Value),v=.ref t/\h.get? t=some o/\o.cls=.type "tuple"/\o.data=.seq its.toArray n/\Vals (xs.map V.int) its/\xs.length=m/\InR xs
theorem jw:∀ {xs ys:List Int} {its:List Value},Vals (xs.map V.int) its->Vals (ys.map V.int) its->xs=ys
 | [],[],_,_,_=>rfl
 | [],_::_,_,.nil,h=>nomatch h
 | _::_,[],_,.cons _ _,h=>nomatch h
 | x::xs,y::ys,_,.cons r1 t1,.cons r2 t2=>by
  obtain⟨u1,rfl⟩:=r1;obtain⟨u2,e⟩:=r2;injection e with e _;rw[e,jw t1 t2]
theorem Pl.uniq {h:Heap}{m:Nat}{v:Value}{xs ys:List Int}(p:Pl h m v xs)(q:Pl h m v ys):xs=ys:=by
 obtain⟨t,o,n,its,rfl,e1,e2,e3,e4,e5,e6⟩:=p;obtain⟨t',o',n',its',f0,f1,f2,f3,f4,f5,f6⟩:=q;injection f0 with f0;subst f0;rw[e1] at f1;obtain rfl:=Option.some.inj f1;rw[e3] at f3;injection f3 with f3 _;have f3:its=its':=by simpa using congrArg Lc f3
 subst f3;exact jw e4 f4
open Classical in
noncomputable def rkL (h:Heap)(m:Nat)(v:Value):Int:=if e:∃ xs,Pl h m v xs then rkA 0 (choose e) else 0
theorem r9 {h:Heap}{m:Nat}{v:Value}{xs:List Int}(p:Pl h m v xs):rkL h m v=rkA 0 xs:=by
 unfold rkL;have e:∃ xs,Pl h m v xs:=⟨xs,p⟩
 rw[dif_pos e,(Ka e).uniq p]
@[reducible] noncomputable def DG (h:Heap)(m:Nat):RkP:=⟨fun p=>∃ xs,Pl h m p.1 xs,fun p=>rkL h m p.1,tuples' true⟩
theorem BE {prog:Program}{w:World}{A:Around}{s:Shared}{h:Heap}{m:Nat}(k:∀ b o,h.get? b=some o->s.heap.get? b=some o):@Asks (DG h m) prog w A s:=by
 letI:=DG h m
 intro x y ⟨xs,px⟩ ⟨ys,py⟩ E Q q0;have q:Q (decide (rkA 0 xs<rkA 0 ys)) s:=by
  have e1:num x=rkA 0 xs:=r9 px;have e2:num y=rkA 0 ys:=r9 py;rw[e1,e2] at q0;exact q0
 clear q0;obtain⟨x1,x2⟩:=x;obtain⟨y1,y2⟩:=y;obtain⟨t,o,n,its,rfl,e1,e2,e3,e4,e5,e6⟩:=px;obtain⟨t',o',n',its',rfl,f1,f2,f3,f4,f5,f6⟩:=py;show wpAny _ _ (keyLt' (tuples' true) (.ref t) (.ref t')) _ _ _;refine kat_lt (k _ _ e1) e3 (k _ _ f1) f3 ?_;have l1:its.length=m:=by have:=e4.length;rw[HQ] at this;omega
 have l2:its'.length=m:=by have:=f4.length;rw[HQ] at this;omega
 exact An e4 f4 (by omega) e6 f6 (decide_eq_false (by rw[HZ,HZ];omega)) q
end dB

namespace L2E
open PySem PySem.Spec PyProof.Rows PySem.W
section
variable {prog:Program}{w:World}{A:Around}{E:Value->Shared->Prop}{s:Shared}{T:String}{r d:Addr}{n:Nat}{P:Nat->Value->Prop}{OK:Heap->Prop}
theorem Ao {Q:List Value->Shared->Prop}(K:KdlSrc prog w T r d n P OK)(hh:A.handled=none)(hok:OK s.heap)(hn:n<=sizeLine)
  (hQ:∀ h' tk iC,(∀ b o,s.heap.get? b=some o->h'.get? b=some o)->s.heap.objs.size<h'.objs.size->ItemsOf P iC n->Q iC.toList { s with heap:=h',toks:=tk }):wpAny (model prog w) A (collect (.ref r)) Q E s:=by
 have hlt:=K.there _ hok;unfold collect;refine wpAny_bind (wpAny_runValue (codeAny_builtin entry_proto_collect' ?_));rw[Around.under_plainId F.plain_proto_collect _];show wpAny _ A.in1 (newList [] >>= fun l=>again (.builtin "list.__iadd__" ⟨[l,.ref r],[]⟩)) _ _ s;refine wpAny_bind (wpAny_newObj_type ?_);refine wpAny_pure ⟨plainId_quiet F.plain_list_iadd _,codeAny_builtin entry_list_iadd' ?_⟩;rw[Around.under_plainId F.plain_list_iadd _];show wpAny _ A.in1 (Builtin.List.listExtendWith (.ref s.heap.objs.size) (.ref r) (.ref s.heap.objs.size)) _ _ _;have hS:(s.heap.push { cls:=.type "list",data:=.seq ([]:List Value).toArray }).get? s.heap.objs.size=some { cls:=.type "list",data:=.seq #[] 0 }:=Ir _ rfl;have E5:∀ h' tk iC c',(∀ b o,s.heap.get? b=some o->h'.get? b=some o)->h'.get? s.heap.objs.size=some { cls:=.type "list",dict:=none,data:=.seq iC c',slots:=#[] }->ItemsOf P iC n ->
   wpAny (model prog w) A (match Value.ref s.heap.objs.size with
   | Value.ref a=>do
    match (<- load a).data with
     | Data.seq xs _=>pure xs.toList
     | _=>unsupported "internal:collect"
   | _=>unsupported "internal:collect") Q E { s with heap:=h',toks:=tk }:=by
  intro h' tk iC c' hk hS' lW;show wpAny _ A (load s.heap.objs.size >>= _) _ _ _;exact wpAny_bind (wpAny_load hS' (wpAny_pure (hQ h' tk iC hk (Il hS') lW)))
 refine wpAny_mono (kdl_extend (A:=A) (R:=fun r' s'=>r'=.ok (.ret (.ref s.heap.objs.size))/\∃ h' tk iC c',s' = { s with heap:=h',toks:=tk }/\(∀ b o,s.heap.get? b=some o->h'.get? b=some o) /\
   h'.get? s.heap.objs.size=some { cls:=.type "list",dict:=none,data:=.seq iC c',slots:=#[] }/\ItemsOf P iC n)
  (s:={ s with heap:=s.heap.push { cls:=.type "list",data:=.seq ([]:List Value).toArray } }) K hh (K.keep _ _ hok fun b _ o e=>HU _ e) s.heap.objs.size (J9 hlt.1) (J9 hlt.2) (.ref s.heap.objs.size) 0 hS
  (fun h' tk iC c' hk hS' lW=>⟨rfl,h',tk,iC,c',rfl,fun b o e=>hk b o (IB (Il e)) (HU _ e),hS',lW⟩) hn) (fun fin s' h=>?_) (fun e s' h=>?_)
 ·cases fin with
  | done f =>
   obtain⟨e,h',tk,iC,c',rfl,h1,h2,h3⟩:=h;cases e;exact E5 h' tk iC c' h1 h2 h3
  | again c'=>exact⟨h.1,codeAny_mono h.2 fun r s'' hr=>by obtain⟨rfl,h',tk,iC,c',rfl,h1,h2,h3⟩:=hr;exact E5 h' tk iC c' h1 h2 h3⟩
 ·exact absurd h.1 (by simp)
end
end L2E
namespace L2
open PySem PySem.Spec PyProof.Rows L2V L2E PySem.W dB Calls
section
variable {X:Cx}
noncomputable def DH (i:Int):Key:=.inl i
theorem qE {h:Heap}{m:Nat}(hm:0<m):∀ ts:List Addr,(∀ t∈ts,∃ xs,Pl h m (.ref t) xs)->∃ fs:List Value,J5 h (ts.map Value.ref) fs/\∀ v∈fs,∃ i u,v=.int i u
 | [],_=>⟨[],J5.nil,fun v hv=>absurd hv JP⟩
 | t::ts,hp=>by
  obtain⟨fs,h1,h2⟩:=qE hm ts fun t ht=>hp t (Im _ ht)
  obtain⟨xs,t',o,n,its,e0,e1,e2,e3,e4,e5,e6⟩:=hp t Iq;injection e0 with e0;subst e0;cases xs with
  | nil=>rw[KN] at e5;omega
  | cons x xs =>
   cases e4 with
   | @cons _ v _ vs r1 t1 =>
    obtain⟨u,rfl⟩:=r1;refine⟨.int x u::fs,J5.cons e1 e2 e3 rfl h1,fun v hv=>?_⟩;rcases IA.mp hv with rfl | hv
    ·exact⟨_,_,rfl⟩
    ·exact h2 v hv
theorem uX:∀ {xs ys:List Int},xs.map V.int=ys.map V.int->xs=ys
 | [],[],_=>rfl
 | [],_::_,h=>by simp at h
 | _::_,[],h=>by simp at h
 | x::xs,y::ys,h=>by
  rw[Js,Js] at h;injection h with h1 h2;injection h1 with h1;rw[h1,uX h2]
open Classical in
noncomputable def wH (H:Hp)(t:Addr):List Int:=if e:∃ r:List Int,H t=some (.tup (r.map V.int)) then choose e else []
theorem yI {H:Hp}{t:Addr}{r:List Int}(e:H t=some (.tup (r.map V.int))):wH H t=r:=by
 have ex:∃ r:List Int,H t=some (.tup (r.map V.int)):=⟨r,e⟩
 unfold wH;rw[dif_pos ex];have e2:=e.symm.trans (Ka ex);injection e2 with e2;injection e2 with e2;exact(uX e2).symm
theorem sd (hc:X.calm=true):eI X (.builtin "sorted") (fun xs H Q=>∃ (d:Addr) (m:Nat) (kvs:List (List Key×V)) (L:List (List Int)),xs=[.ref d]/\H d=some (.dT kvs)/\kvs.map (·.1)=L.map (fun r=>r.map DH)/\L.length<128/\(2<=L.length->0<m)/\(∀ r∈L,r.length=m/\InR r) /\
  ∀ (us:List Addr) (g:Addr->List Int) (l:Addr),(us.map g).Perm L->((us.map g).Pairwise fun r q=>rkA 0 r<=rkA 0 q)->(∀ t∈us,H t=some (.tup ((g t).map V.int)))->H l=none->Q (.ref l) (upd H l (.lst (us.map V.ref)))):=by
 intro pins s σ H xs us Q I r h;obtain⟨d,m,kvs,L,rfl,hd,hk,gX,hm,hL,q⟩:=h;obtain⟨u,rfl,ru⟩:=r.one;cases ru;obtain⟨z,lo,xs,rel,o,es,ep,h1,h2,h3,h4,h5⟩:=(show bL X.prog X.w H s.heap d (.dT kvs) from I.hok d _ hd)
 have hsz:es.size=kvs.length:=by
  rw[Paired.length rel];have:=congrArg Lr h4;rwa[Jb,HQ] at this
 have hx:xs.length=kvs.length:=(Paired.length rel).symm;have hkl:kvs.length=L.length:=by have:=congrArg Lr hk;rwa[HQ,HQ] at this
 let ts:=xs.map (·.2.1)
 have tl:ts.length=L.length:=by show (xs.map _).length=_;rw[HQ,hx,hkl]
 have qS:∀ (i:Nat) (t:Addr) (r:List Int),ts[i]?=some t->L[i]?=some r->H t=some (.tup (r.map V.int)):=fun i t r e1 e2=>by
  rw[HX] at e1;obtain⟨p,e3,rfl⟩:=Jh.mp e1;have hi:=(HR.mp e3).1;have e4:=HP (l:=kvs) (i:=i) (by omega);have zz:=kC rel e4 e3;have e5:(kvs.map (·.1))[i]?=some kvs[i].1:=by rw[HX,e4];rfl
  rw[hk,HX,e2] at e5;have e6:kvs[i].1=r.map DH:=(Option.some.inj e5).symm;rw[zz.2.1,e6,Jf]
  rfl
 have hpl:∀ t∈ts,∃ r∈L,Pl s.heap m (.ref t) r/\H t=some (.tup (r.map V.int)):=fun t ht=>by
  obtain⟨i,hi⟩:=Jx.mp ht;have hlt:=(HR.mp hi).1;have el:=HP (l:=L) (i:=i) (by omega);have hm':=Ib el;have e:=qS i t _ hi el;obtain⟨its,rv,⟨o',f1,f2,n,f3⟩,_⟩:=I.tuple (SqT.of e);exact⟨_,hm',⟨t,o',n,its,rfl,f1,f2,f3,rv,(hL _ hm').1,(hL _ hm').2⟩,e⟩
 refine call_function_entry kind_sorted plain_sorted entry_sorted (args_sorted1 _) ?_;unfold Builtin.«sorted»;refine wpAny_bind (m:=checkCount "sorted" 1 1 _) (wpAny_pure ?_);refine wpAny_bind (Ao (A:=X.A.in1) (uW (prog:=X.prog) (w:=X.w) (es:=es) (ep:=ep) lo) (I.ok.hd hc) ⟨o,h1,h2.1,h3⟩ (by rw[hsz];exact z) fun h' tk acc hkp E6 lW=>?_);have GA:acc.toList=ts.map Value.ref:=by
  refine J3 fun i=>?_
  by_cases hi:i<es.size
  ·have hi2:i<acc.size:=by rw[lW.1];exact hi
   have e7:acc.toList[i]?=some acc[i]:=by rw[JW];exact Jv hi2
   obtain⟨hi',ev⟩:=lW.2 i acc[i] (Jv hi2);have e10:=HP (l:=xs) (i:=i) (by omega);have e12:es.toList[i]?=some (entryOfKey (tupleKind (cH X.prog X.w)) xs[i]):=by rw[h4,HX,e10];rfl
   have e13:es.toList[i]?=some es[i]:=by rw[JW];exact Jv hi
   rw[e13] at e12;rw[e7,HX,HX,e10,ev,Option.some.inj e12]
   rfl
  ·rw[Jm (by rw[Jb,lW.1];omega),Jm (by rw[HQ,tl];omega)]
 rw[GA];refine wpAny_bind (wpAny_newList ?_ (by rw[HQ,tl,sizeLine_eq];omega));have Ap:(h'.push (seqObj "list" (ts.map Value.ref).toArray 0)).get? h'.objs.size=some (seqObj "list" (ts.map Value.ref).toArray 0):=Ir _ rfl;have old:∀ b o,s.heap.get? b=some o->b≠h'.objs.size/\(h'.push (seqObj "list" (ts.map Value.ref).toArray 0)).get? b=some o:=fun b o e=>⟨IB (Il (hkp b o e)),HU _ (hkp b o e)⟩
 have gsz:s.heap.objs.size<=h'.objs.size:=LG E6
 let g:Addr->List Int:=wH H
 have gof:∀ {t:Addr} {r:List Int},H t=some (.tup (r.map V.int))->g t=r:=yI;have tsg:ts.map g=L:=by
  refine J3 fun i=>?_
  by_cases hi:i<ts.length
  ·have e1:=HP hi;have e2:=HP (l:=L) (i:=i) (by omega);rw[HX,e1,e2];exact congrArg some (gof (qS i _ _ e1 e2))
  ·rw[Jm (by rw[HQ];omega),Jm (by omega)]
 have hgt:∀ t∈ts,Pl s.heap m (.ref t) (g t)/\H t=some (.tup ((g t).map V.int)):=fun t ht=>by
  obtain⟨r,_,p1,p2⟩:=hpl t ht;rw[gof p2];exact⟨p1,p2⟩
 have fin:∀ (out:Array Value),out.toList.Perm (ts.map Value.ref)->(out.toList.Pairwise fun u v=>rkL s.heap m u<=rkL s.heap m v)->EP X pins σ Q (.ref h'.objs.size) { s with heap:=sortedHeap (h'.push (seqObj "list" (ts.map Value.ref).toArray 0)) h'.objs.size (ts.map Value.ref) out,toks:=tk }:=fun out a1 a2=>by
  obtain⟨ws,e,hw⟩:=qr a1;obtain⟨c,he⟩:=sortedHeap_at (out:=out) Ap;have wm:∀ t∈ws,t∈ts:=fun t ht=>hw.mem_iff.mp ht
  have a3:(ws.map g).Pairwise fun r q=>rkA 0 r<=rkA 0 q:=by
   rw[e,IJ] at a2;rw[IJ];refine List.Pairwise.imp_of_mem (fun {x y} hx hy z=>?_) a2;rw[r9 (hgt x (wm x hx)).1,r9 (hgt y (wm y hy)).1] at z;exact z
  refine⟨.ref h'.objs.size,_,I.laid (a:=h'.objs.size) (o:=.lst (ws.map V.ref)) (t':=tk) (fun b o eb=>?_) gsz ⟨?_,out.toList,c,by rw[e];exact kl ws,by simpa[seqObj] using he⟩,rfl,q ws g _ (by have:=hw.map g;rw[tsg] at this;exact this) a3 (fun t ht=>(hgt t (wm t ht)).2) (I.hok.fresh gsz)⟩
  ·obtain⟨n1,n2⟩:=old b o eb;rw[sortedHeap_old n1 (Il n2)];exact n2
  ·rw[HQ,hw.length_eq,tl,sizeLine_eq];omega
 by_cases c:2<=ts.length
 ·letI:=DG s.heap m
  obtain⟨fs,k1,k2⟩:=qE (h:=s.heap) (hm (by omega)) ts fun t ht=>⟨_,(hgt t ht).1⟩
  refine wpAny_bind (wpAny_holding (wpAny_call_entry slot_list_sort ⟨_,Ap,rfl⟩ entry_list_sort (yA (fs:=fs) (rk:=rkL s.heap m) (T:=.type "int") (fun p=>rfl) rfl rfl Ap (by rw[HQ];exact c) (by rw[HQ];omega) (fun h'' GB=>?_) fun out a1 a2=>⟨_,rfl,wpAny_pure ⟨_,rfl,fin out a1 a2⟩⟩) (args_list_sort _)));have kk:∀ b o,s.heap.get? b=some o->h''.get? b=some o:=fun b o e=>GB b o (old b o e).1 (old b o e).2
  refine⟨oO kk k1,fun v hv=>?_,fun p hp=>?_,BE kk⟩
  ·obtain⟨i,u,rfl⟩:=k2 v hv;exact .now
  ·have ez:(pairsOf (ts.map Value.ref)).toList=(ts.map Value.ref).zip (ts.map Value.ref):=by unfold pairsOf;simp
   rw[ez] at hp;obtain⟨t,ht,e⟩:=HW.mp (KJ hp).1;exact⟨g t,by rw[<- e];exact(hgt t ht).1⟩
 ·refine wpAny_bind (wpAny_holding (wpAny_call_entry slot_list_sort ⟨_,Ap,rfl⟩ entry_list_sort (uH Ap (by rw[HQ];omega) ⟨_,rfl,wpAny_pure ⟨_,rfl,fin _ (by simp) ?_⟩⟩) (args_list_sort _)));have:(ts.map Value.ref).length<2:=by rw[HQ];omega
  generalize ts.map Value.ref=vs at this
  match vs,this with
  | [],_=>exact List.Pairwise.nil
  | [t],_=>exact Lu _ _
  | _::_::_,z=>exact absurd z (by simp)
end
end L2

namespace L2
open PySem PySem.Spec PyProof.Rows
section
variable {X:Cx}
noncomputable def DI (tk tv:TE):TE:=fun σ H Q=>∀ p,H p=none->tk σ (upd H p (.dT [])) fun x H1=>tv σ H1 fun y H2=>H2 p=some (.dT [])/\∃ (b:Addr) (k:List Key),x=.ref b/\H2 b=some (.tup (k.map kV))/\Q (.ref p) (upd H2 p (.dT [(k,y)]))
theorem Aq {k v:Expr}{pos:Pos}{tk tv:TE}(hu:X.A.units+1<cLine)(hk:PE X k tk)(hv:PE X v tv):PE X (.Dict [some k] [v] pos) (DI tk tv):=by
 intro pins s σ H Q I q;have hn:=I.hok.fresh (HV s.heap.objs.size);have I1:=I.laid (a:=s.heap.objs.size) (o:=.dT []) (h':=s.heap.push { cls:=.type "dict",data:=.dict #[] }) (t':=s.toks) (fun _ _ q=>HU _ q) (HV _) (tD s.heap I.big);have hp:=(zf (pos:=pos) hk hv AX) pins _ σ _ (fun ps H2=>match ps with | [(x,y)]=>H2 s.heap.objs.size=some (.dT [])/\∃ (b:Addr) (k:List Key),x=.ref b/\H2 b=some (.tup (k.map kV))/\Q (.ref s.heap.objs.size) (upd H2 s.heap.objs.size (.dT [(k,y)])) | _=>False) I1 (q _ hn);rw[arm_eval_Dict,zip_pairTrees [some k] [v] X.env pos rfl rfl,dictDisplay_pairs (pairTrees [some k] [v] X.env pos) (MQ _ _) (by show 1<17;decide)];refine wpAny_bind (wpAny_standAt (wpAny_bind ?_));unfold subDict;refine wpAny_bind (wpAny_alloc ?_);refine wpAny_bind (wpAny_holding ?_);rw[if_pos (show (pairTrees [some k] [v] X.env pos).length<=15 by show 1<=15;decide)];refine wpAny_bind (thn hp fun ws s2 ⟨ps,H2,I2,rel,q1⟩=>?_);obtain⟨x,y,rfl⟩:∃ x y,ps=[(x,y)]:=by
  match ps,q1 with
  | [(x,y)],_=>exact⟨x,y,rfl⟩
  | [],z=>exact z.elim
  | _::_::_,z=>exact z.elim
 obtain⟨e,b,key,ex,eb,q2⟩:=q1;cases rel with
 | @cons a c as bs h t =>
  cases t;subst ex;obtain⟨c1,c2⟩:=c;obtain rfl:c1=Value.ref b:=h.1;obtain⟨z,hd,xs,E7,dd⟩:=wX I2.hok e;have hz:xs.length<=sizeLine:=by rw[<- Paired.length E7];exact z
  refine wpAny_holding ?_;rw[List.forIn_cons];refine wpAny_bind (wpAny_bind (wpAny_bind (wpAny_dictSet_heap (hsz:=hz) (show X.A.units<cLine by omega) (qU I2.hok eb) dd fun h' dd' hs=>wpAny_pure ?_)));dsimp only;rw[List.forIn_nil];refine wpAny_pure (wpAny_pure (wpAny_pure (wpAny_pure ⟨.ref s.heap.objs.size,_,?_,rfl,q2⟩)));have hl:(putK ([]:List (List Key×V)) key y).length<=sizeLine:=by show 1<=sizeLine;decide
  obtain⟨q',es,ep,hq,h2,h3,h4,_,h5⟩:=dd';refine ny I2 (by rw[e];exact True.intro) hs ⟨q',hq⟩ ⟨hl,hd,_,(E7.put key eb h.2).keeps fun c ys ec=>?_,q',es,ep,hq,h2,h3,h4,h5⟩;rw[aE (yR ec e (fun z=>nomatch z))];exact ec
end
end L2

namespace Iso
open Th Mir
section
variable {n:Nat}{ms os:List Nat}{ths:List (Kd×List Nat)}
theorem oZ (k:Kd):∀ ths:List (Kd×List Nat),rS (kc k) (ths.map ec)=decide (k∈ths.map (·.1))
 | []=>rfl
 | th::r=>by
  show (IL (ec th%4) (kc k)||rS (kc k) (r.map ec))=decide (k∈th.1::r.map (·.1));rw[oZ k r,rO,aY,Jt,JA,decide_eq_true_eq,decide_eq_true_eq,decide_eq_true_eq,IA];have e:kc th.1=kc k↔k=th.1:=by cases th.1 <;> cases k <;> decide
  rw[e]
theorem Ar (th:Kd×List Nat):mS (ec th)=jv th:=by
 unfold mS jv;rw[aY,rO,oV];have e:=rN th.1;by_cases c:th.1=.ring
 ·rw[if_pos c,decide_eq_true (e.mpr c)];rfl
 ·rw[if_neg c,decide_eq_false (fun z=>c (e.mp z))];rfl
theorem As (W:ak n ms)(WO:ak n os)(h:fY n ms os ths):both (ths.map (·.1))=both ((c9 n ms os (2*n)).map (·.1)):=by
 rw[<- h.lacks W WO,Jf];rfl
end
end Iso



namespace Mir
open PySem L2 Iso
variable (K:HS)
noncomputable def qF:Sp:=fun vs H Q _=>∃ (a b:Addr) (m:Int) (n:Nat) (ms os:List Nat),vs=[.int m,.ref a,.ref b]/\4<=m/\SqT K H a (nV ms)/\ak n ms/\SqT K H b (nV os)/\ak n os/\n<=4/\∀ H':Hp,aG H H'->Q .non H'
theorem Au {n:Nat}{ms os:List Nat}:aH n ms os<=n:=by unfold aH;omega
end Mir

namespace L2
open PySem PySem.Spec PyProof.Rows
section
variable {X:Cx}
theorem wI (bs:List Bool):((Ig bs.length).all fun i=>(bs[i]?).getD true)=bs.all id:=by
 rw[Jt,I0,I0];constructor
 ·intro h b hb;obtain⟨i,hi,rfl⟩:=List.mem_iff_getElem.mp hb;have z:=h i (Ii.mpr hi);rw[HP hi] at z;exact z
 ·intro h i hi;have hi:=Ii.mp hi;rw[HP hi];exact h _ (J1 hi)
theorem uY (hc:X.calm=true):eI X (.builtin "all") (fun xs H Q=>∃ (p:Addr) (bs:List Bool),xs=[.ref p]/\H p=some (.lst (bs.map V.bl))/\Q (.bl (bs.all id)) H):=by
 intro pins s σ H xs us Q I r h;obtain⟨p,bs,rfl,hp,q⟩:=h;obtain⟨u,rfl,ru⟩:=r.one;cases ru;obtain⟨z,its,n,rv,hlen,e⟩:=I.ya hp;have hl:s.heap.IsList p its.toArray:=⟨_,e,rfl,n,rfl⟩
 have hlt:p<s.heap.objs.size:=Il e;have hbl:bs.length=its.length:=by rw[<- hlen,HQ]
 refine call_all_walk (wpAny_pyIter_list hl ⟨s.heap.objs.size,[s.heap.objs.size,p],[s.heap.objs.size],its.toArray.size,_,_,fun i=>(bs[i]?).getD true,rfl,Walks.list (A:=X.A.in1) (I.ok.hd hc) _ p (IB hlt) its.toArray,
  ⟨⟨_,Ir _ rfl,rfl,rfl⟩,hl.push _⟩,fun i v s' Q' E' hP hQ=>?_,fun h' tk hk=>?_⟩)
 ·have hP:its[i]?=some v:=by simpa using hP
  have hi:i<bs.length:=by rw[hbl];exact(HR.mp hP).1
  have eb:(bs.map V.bl)[i]?=some (.bl bs[i]):=by rw[HX,HP hi];rfl
  obtain⟨u,e1,r1⟩:=rv.get eb;rw[hP] at e1;obtain rfl:=Option.some.inj e1;cases r1;dsimp only at hQ;rw[HP hi] at hQ;exact wpAny_truthy_bool hQ
 ·have e2:((Ig its.toArray.size).all fun i=>(bs[i]?).getD true)=bs.all id:=by rw[HZ,<- hbl];exact wI bs
  rw[e2];exact⟨.bl _,H,I.kept (t':=tk) fun b o eb=>hk b o (fun hm=>by rw[Ih.mp hm] at eb;exact JK _ (Il eb)) (HU _ eb),rfl,q⟩
end
end L2

namespace Iso
open PySem L2 Th Mir
noncomputable def kW (w:List Nat):List Key:=w.map fun (x:Nat)=>(Sum.inl (x:Int):Key)
noncomputable def bT (F:List (List Nat)):List (List Key×V):=F.map fun w=>(kW w,V.bl true)
theorem wJ:∀ {v w:List Nat},kW v=kW w->v=w
 | [],[],_=>rfl
 | [],_::_,h=>by simp[kW] at h
 | _::_,[],h=>by simp[kW] at h
 | x::v,y::w,h=>by
  have h:(Sum.inl (x:Int):Key)::kW v=Sum.inl (y:Int)::kW w:=h;injection h with h1 h2;injection h1 with h1;rw[wJ h2,show x=y by omega]
theorem Cm (w:List Nat):nV w=(kW w).map kV:=by
 unfold nV kW;rw[Jf]
 rfl
theorem o5 {H:Hp}{t:Addr}{w:List Nat}(h:H t=some (.tup (nV w))):H t=some (.tup ((kW w).map kV)):=by rw[h,Cm]
theorem mD {w:List Nat}:∀ {F:List (List Nat)},w ∉ F->bD (bT F) (kW w)=none
 | [],_=>rfl
 | v::F,h=>(cK (fun z=>h (by rw[wJ z];exact Iq))).trans (mD fun z=>h (Im _ z))
open Classical in
noncomputable def addW (F:List (List Nat))(w:List Nat):List (List Nat):=if w∈F then F else F++[w]
theorem DJ (F:List (List Nat))(w:List Nat):putK (bT F) (kW w) (.bl true)=bT (addW F w):=by
 unfold addW;by_cases c:w∈F
 ·rw[if_pos c];have e:((bT F).any fun kv=>decide (kv.1=kW w))=true:=MR.mpr ⟨(kW w,.bl true),HW.mpr ⟨w,c,rfl⟩,decide_eq_true rfl⟩;unfold putK;rw[if_pos e];unfold bT;rw[Jf];refine JL fun v _=>?_
  show (if (kW v,V.bl true).1=kW w then ((kW v,V.bl true).1,V.bl true) else (kW v,V.bl true))=_
  split <;> rfl
 ·rw[if_neg c,y8 _ (mD c)];unfold bT;rw[IS]
  rfl
theorem Av {F:List (List Nat)}{w v:List Nat}:v∈addW F w↔v∈F\/v=w:=by
 unfold addW
 split
 ·rename_i h;exact⟨.inl,fun z=>z.elim id fun e=>e ▸ h⟩
 ·rw[Ic,Ih]
theorem BF {F:List (List Nat)}{w:List Nat}(h:F.Nodup):(addW F w).Nodup:=by
 unfold addW
 split
 ·exact h
 ·rename_i c;rw[Jj];exact⟨h,by simp,fun a ha b hb e=>c (by rw[<- Ih.mp hb,<- e];exact ha)⟩
theorem Aw:∀ {O F:List (List Nat)},(F++O).Nodup->iX (bT F) (bT O)=bT (F++O)
 | [],F,_=>by rw[Iy];rfl
 | w::O,F,h=>by
  have hw:w ∉ F:=fun z=>(Jj.mp h).2.2 w z w Iq rfl
  show iX (putK (bT F) (kW w) (.bl true)) (bT O)=_;rw[DJ];have e:addW F w=F++[w]:=by unfold addW;rw[if_neg hw]
  rw[e,Aw (by rw[Ik];exact h),Ik]
  rfl
structure Lv (n:Nat) (os ms:List Nat) (F R:List (List Nat)) (c:Nat):Prop where
 nd:F.Nodup
 one:ms∈F
 rch:∀ w∈F,Rch n os ms w
 sub:∀ w∈R,w∈F
 far:∀ w∈F,c<=aH n w os
 now:∀ w∈R,aH n w os=c
 don:∀ w∈F,w ∉ R->∀ v∈jP n os w,v∈F
theorem Lv.start {n:Nat}{os ms:List Nat}:Lv n os ms [ms] [ms] (aH n ms os) :=
 ⟨by simp,Iq,fun w hw=>by rw[Ih.mp hw];exact .refl,fun w h=>h,fun w hw=>by rw[Ih.mp hw];exact HV _,fun w hw=>by rw[Ih.mp hw],fun w hw z=>absurd hw z⟩
theorem Lv.next {n:Nat}{os ms:List Nat}{F R O:List (List Nat)}{c:Nat}(W:ak n ms)(L:Lv n os ms F R c)(nd:O.Nodup)(hO:∀ v,v∈O↔∃ w∈R,v∈jP n os w)(ne:O≠[]):∃ c',c=c'+1/\Lv n os ms (F++O) O c':=by
 have ap:∀ v∈O,aH n v os+1=c:=fun v hv=>by
  obtain⟨w,hw,h⟩:=(hO v).mp hv;have:=((gv ((L.rch w (L.sub w hw)).work W)).mp h).2;rw[L.now w hw] at this;exact this
 obtain⟨v0,hv0⟩:∃ v,v∈O:=by cases O with
  | nil=>exact absurd rfl ne
  | cons v _=>exact⟨v,Iq⟩
 have h0:=ap v0 hv0;refine⟨aH n v0 os,h0.symm,?_,IW _ L.one,fun w hw=>?_,fun w hw=>Ip _ hw,fun w hw=>?_,fun w hw=>?_,fun w hw hn v hv=>?_⟩
 ·rw[Jj];refine⟨L.nd,nd,fun a ha b hb e=>?_⟩;have a1:=L.far a ha;have a2:=ap b hb;rw[e] at a1;omega
 ·rcases Ic.mp hw with q | q
  ·exact L.rch w q
  ·obtain⟨u,hu,h⟩:=(hO w).mp q;exact(L.rch u (L.sub u hu)).step h
 ·rcases Ic.mp hw with q | q
  ·have:=L.far w q;omega
  ·have:=ap w q;omega
 ·have:=ap w hw;omega
 ·rcases Ic.mp hw with q | q
  ·by_cases c2:w∈R
   ·exact Ip _ ((hO v).mpr ⟨w,c2,hv⟩)
   ·exact IW _ (L.don w q c2 v hv)
  ·exact absurd q hn
theorem Lv.all {n:Nat}{os ms:List Nat}{F:List (List Nat)}{c:Nat}(L:Lv n os ms F [] c){w:List Nat}(h:Rch n os ms w):w∈F:=by
 induction h with
 | refl=>exact L.one
 | step _ hv ih=>exact L.don _ ih (by simp) _ hv
theorem Lv.stop {n:Nat}{os ms:List Nat}{F R:List (List Nat)}{c:Nat}(L:Lv n os ms F R c)(h:∀ w∈R,∀ v,v ∉ jP n os w):Lv n os ms F [] c :=
 ⟨L.nd,L.one,L.rch,fun w hw=>by simp at hw,L.far,fun w hw=>by simp at hw,fun w hw _ v hv=>by
  by_cases c2:w∈R
  ·exact absurd hv (h w c2 v)
  ·exact L.don w hw c2 v hv⟩
variable (K:HS)
noncomputable def BG:Sp:=fun vs H Q _=>∃ (a b:Addr) (n:Nat) (ms os:List Nat),vs=[.ref a,.ref b]/\H a=some (.tup (nV ms))/\ak n ms/\H b=some (.tup (nV os))/\ak n os/\n<=4/\(∀ L:List (List Nat),L.Nodup->(∀ w∈L,Rch n os ms w)->L.length<128) /\
 ∀ (l:Addr) (L:List (List Nat)) (H':Hp),H l=none->aG H H'->TsT nV H' l L->L.Nodup->(∀ w,w∈L↔Rch n os ms w)->(L.Pairwise fun v w=>dB.rkA 0 (b8 v)<=dB.rkA 0 (b8 w))->Q (.ref l) H'
end Iso
namespace Iso
open PySem L2 Th Mir
theorem qG {w:List Nat}:∀ {F:List (List Nat)},w∈F->bD (bT F) (kW w)=some (.bl true)
 | v::F,h=>by
  by_cases c:v=w
  ·subst c;exact cX rfl
  ·exact(cK (fun z=>c (wJ z))).trans (qG ((IA.mp h).resolve_left fun z=>c z.symm))
theorem BH {n p q:Nat}{ms os:List Nat}(W:ak n ms)(h1:p<=q)(h2:q<2*n)(h3:at0 ms p≠q)(h4:aH n (beh ms p q) os+1=aH n ms os):beh ms p q∈jP n os ms :=
 (gv W).mpr ⟨⟨p,q,h1,h2,h3,rfl⟩,h4⟩
noncomputable def Ax:Sp:=fun vs H Q _=>∃ (a b d:Addr) (n:Nat) (ws os:List Nat) (F:List (List Nat)),vs=[.ref a,.ref b,.ref d]/\H a=some (.lst (nV ws))/\ak n ws/\H b=some (.lst (nV os))/\ak n os/\n<=4/\H d=some (.dT (bT F))/\(∀ v∈jP n os ws,v∈F)/\∀ H':Hp,aG H H'->Q (.bl true) H'
end Iso
namespace Iso
open PySem L2 Th Mir
noncomputable def BI:Sp:=fun vs H Q _=>∃ (t:Addr) (n:Nat) (ws:List Nat),vs=[.ref t,.int ((2*n:Nat):Int)]/\H t=some (.tup (nV ws))/\ak n ws/\∀ H':Hp,aG H H'->Q (.bl true) H'
end Iso
theorem L2.DK:PySem.bootBuiltins "all" = some (.builtin "all"):=by decide +kernel

namespace Iso
open Th Mir
theorem yJ {n p q:Nat}{w:List Nat}(W:ak n w)(hp:p<2*n)(hq:q<2*n)(h:at0 w p≠q):aH n w (beh w p q)<=1:=by
 have W2:=dS W hp hq h;have T:=aW W W2;have k1:=Th.kj T hp hq h (a2:=at0 (beh w p q)) (fun e he=>cD (by rw[W.len];exact he));have e:Th.score (at0 (beh w p q)) (at0 (beh w p q)) (2*n)=2*n:=(Th.iP (aW W2 W2)).mpr fun x _=>rfl
 have l:=Th.dk T;have a:=k1.1;rw[e] at a;unfold aH;omega
theorem BJ {n:Nat}{ms os:List Nat}(W:ak n ms)(WO:ak n os){w:List Nat}(h:Rch n os ms w):aH n ms w+aH n w os=aH n ms os:=by
 have up:aH n ms w+aH n w os<=aH n ms os:=by
  induction h with
  | refl=>rw[ky W];omega
  | @step w v hw hv ih =>
   have Ww:=hw.work W;have Wv:=oU Ww hv;obtain⟨⟨p,q,h1,h2,h3,rfl⟩,ha⟩:=(gv Ww).mp hv;have t:=mw _ n ms w (beh w p q) W Ww Wv (HV _);have o:=yJ Ww (show p<2*n by omega) h2 h3;omega
 have t:=mw _ n ms w os W (h.work W) WO (HV _);omega
theorem xF {n:Nat}{os:List Nat}(WO:ak n os):∀ (k:Nat) {ms:List Nat},ak n ms->aH n ms os=k->Rch n os ms os
 | 0,ms,W,h=>by rw[(wg W WO).mp h];exact .refl
 | k+1,ms,W,h=>by
  obtain⟨c,hc⟩:=z9 W WO h;have hm:c∈duL n os ms:=List.mem_of_mem_head? hc;have hv:beh ms c.1 c.2∈jP n os ms:=HW.mpr ⟨c,hm,rfl⟩;have:=((gv W).mp hv).2;exact(Rch.refl.step hv).trans (xF WO k (oU W hv) (by omega))
end Iso

set_option maxHeartbeats 1000000
namespace HT
open PySem PyProof.Rows
theorem yK (x y:Int):(!decide (x<y))=decide (y<=x):=by
 by_cases h:x<y
 ·rw[decide_eq_true h,decide_eq_false (by omega)];rfl
 ·rw[decide_eq_false h,decide_eq_true (by omega)];rfl
theorem yL (x y:Nat):(!decide (x<y))=decide (y<=x):=by
 by_cases h:x<y
 ·rw[decide_eq_true h,decide_eq_false (by omega)];rfl
 ·rw[decide_eq_false h,decide_eq_true (by omega)];rfl
theorem Ay (A:Around)(s:Shared)(a:Int)(t:Tok)(c:Int)(u:Tok)(prog:Program)(w:World)(E:Value->Shared->Prop)(Q:Value->Shared->Prop)(h:Q (.bool (decide (c<=a))) s) :
  wpAny (model prog w) A (richCompare .GtE (.int a t) (.int c u)) Q E s :=
 (Nb h:wpAny (model prog w) A (compareOp .GtE (.int a t) (.int c u)) Q E s)
section
open PySem.SeqAt
open PySem.AutoSeq1 (wpAny_loadPart')
open PySem.MeetsSeq PySem.MeetsSeq2 PySem.MeetsSeq3
theorem pI (l b:Addr)(items dM:Array Value)(n n2:Nat)(dd dd2:Option Addr)(sl sl2:Array (Option Value))(ns ms:List Int)(hi:IntsAre items.toList ns)(hj:IntsAre dM.toList ms) :
  Meets (Builtin.«tuple.__ge__» ⟨[.ref l,.ref b],[]⟩)
   (fun _ R s=>s.heap.get? l=some { cls:=.type "tuple",dict:=dd,data:=.seq items n,slots:=sl }/\s.heap.get? b=some { cls:=.type "tuple",dict:=dd2,data:=.seq dM n2,slots:=sl2 } /\
    R (.ok (.ret (.bool (!lexLt ns ms)))) s) :=
 .of_wp fun prog w A R s h=>by
  obtain⟨hp,g,d,tk,os⟩:=s;obtain⟨hl,hb,h⟩:=h;have f2:=AutoSeq1.sub_tuple_tuple;have z1:items.size=ns.length:=by rw[<- hi.length];simp
  have z2:dM.size=ms.length:=by rw[<- hj.length];simp
  wp_walk using wpAny_loadPart' hl,wpAny_loadPart' hb,wpAny_forIn_list _ (fun rest b s'=>b.1=none/\s'=⟨hp,g,d,tk,os⟩/\∃ (vs ws:List Value) (ns' ms':List Int),rest=vs.zip ws /\
   IntsAre vs ns'/\IntsAre ws ms'/\ns'.length+dM.size=ms'.length+items.size/\R (.ok (.ret (.bool (!lexLt ns' ms')))) ⟨hp,g,d,tk,os⟩) _
  case turn =>
   rintro⟨y,x⟩ rest b s' ⟨hb',rfl,vs,ws,ns',ms',hz,hvi,hwi,hlen,hR⟩;cases hvi with
   | nil=>rw[List.zip_nil_left] at hz;cases hz
   | cons a t GD =>
    cases hwi with
    | nil=>rw[List.zip_nil_right] at hz;cases hz
    | cons c u GG =>
     rw[Mj] at hz;injection hz with hyx Al;injection hyx with hy hx;subst hy hx;rw[vt] at hR;simp only[ID] at hlen;obtain⟨e,he,E8⟩:=zg A.in1 ⟨hp,g,d,tk,os⟩ a t c u;refine wpAny_bind (he prog w _ _ ?_);cases e with
     | true =>
      rw[if_pos (E8.mp rfl)] at hR
      wp_walk
      exact⟨rfl,rfl,_,_,_,_,Al,GD,GG,by omega,hR⟩
     | false =>
      rw[if_neg (fun q=>absurd (E8.mpr q) Io)] at hR;have hri:=Ay A.in1 ⟨hp,g,d,tk,os⟩ a t c u prog w;rw[yK] at hR
      wp_walk using hri
      exact⟨_,rfl,by simpa using hR⟩
  case fin =>
   rintro⟨b1,b2⟩ s' ⟨hb',rfl,vs,ws,ns',ms',hz,hvi,hwi,hlen,hR⟩;simp only at hb';subst hb';have hv:lexLt ns' ms'=decide (items.size<dM.size):=by
    cases hvi with
    | nil =>
     cases hwi with
     | nil =>
      simp only[KN] at hlen;rw[pz];exact(decide_eq_false (by omega)).symm
     | cons c u hw =>
      simp only[KN,ID] at hlen;rw[nS];exact(decide_eq_true (by omega)).symm
    | cons a t hv =>
     cases hwi with
     | nil =>
      simp only[KN,ID] at hlen;rw[nT];exact(decide_eq_false (by omega)).symm
     | cons c u hw =>
      rw[Mj] at hz;cases hz
   rw[hv,yL] at hR
   wp_walk
   exact⟨_,rfl,by simpa[Builtin.Tuple.tupleCompareSizes] using hR⟩
  case h =>
   exact⟨rfl,rfl,items.toList,dM.toList,ns,ms,rfl,hi,hj,by omega,h⟩
end
section
variable {prog:Program}{w:World}{A:Around}{E:Value->Shared->Prop}{s:Shared}
theorem wK {l b:Addr}{items dM:Array Value}{ns ms:List Int}{Q:Value->Shared->Prop}(hl:IsTup s.heap l items)(hb:IsTup s.heap b dM)(hi:IntsAre items.toList ns)(hj:IntsAre dM.toList ms)
  (hu:A.units<cLine) (h:Q (.bool (!lexLt ns ms)) s):wpAny (model prog w) A (compareOp .GtE (.ref l) (.ref b)) Q E s:=by
 obtain⟨⟨cls,dd,data,sl⟩,ho,hc,n,hd⟩:=id hl;obtain⟨⟨HG,dd2,data2,sl2⟩,ho2,hc2,n2,hd2⟩:=id hb;simp only at hc hd hc2 hd2;subst hc hd hc2 hd2;exact richCompare_meets_room (op:=.GtE) ⟨_,ho,rfl⟩ ⟨_,ho2,rfl⟩ PySem.F.slot_tuple_ge PySem.F.entry_tuple_ge (PySem.F.args_tuple_ge_2 _ _) (pI l b items dM n n2 dd dd2 sl sl2 ns ms hi hj)
  ⟨ho,ho2,show Value.bool (!lexLt ns ms)≠Value.notImplemented/\Q (.bool (!lexLt ns ms)) s from ⟨(fun x=>nomatch x),h⟩⟩ hu


end
end HT
namespace L2
open PySem PySem.Spec PyProof.Rows
theorem DL {X:Cx}(hu:X.A.units<cLine):OpR X (compareOp .GtE) (fun x y H Q=>∃ a b ns ms,x=.ref a/\y=.ref b/\SqT X.K H a (ns.map V.int)/\SqT X.K H b (ms.map V.int)/\Q (.bl (!HT.lexLt ns ms)) H):=by
 intro pins s σ H x y v u Q I rx ry h;obtain⟨a,b,ns,ms,rfl,rfl,ha,hb,q⟩:=h;cases rx;cases ry;obtain⟨its,r1,p1,_⟩:=I.tuple ha;obtain⟨m8,r2,p2,_⟩:=I.tuple hb;have i1:IntsAre its.toArray.toList ns:=intsAre_of r1;have i2:IntsAre m8.toArray.toList ms:=intsAre_of r2;exact HT.wK p1 p2 i1 i2 hu ⟨.bl (!HT.lexLt ns ms),H,I,rfl,q⟩
end L2

namespace dB
theorem uZ:∀ {xs ys:List Int} {c:Int},xs.length=ys.length->InR xs->InR ys->HT.lexLt xs ys=decide (rkA c xs<rkA c ys)
 | [],[],c,_,_,_=>by
  rw[show decide (rkA c []<rkA c [])=false from decide_eq_false (M7 _)]
  rfl
 | [],_::_,_,e,_,_=>by simp at e
 | _::_,[],_,e,_,_=>by simp at e
 | x::xs,y::ys,c,e,hx,hy=>by
  have el:xs.length=ys.length:=by simpa using e
  have h1:InR xs:=fun z hz=>hx z (Im _ hz)
  have h2:InR ys:=fun z hz=>hy z (Im _ hz)
  have ih:=uZ (c:=c*100+x) el h1 h2;by_cases cc:x=y
  ·subst cc;have e2:HT.lexLt (x::xs) (x::ys)=HT.lexLt xs ys:=by simp[HT.lexLt]
   rw[e2,ih]
   rfl
  ·have e2:HT.lexLt (x::xs) (y::ys)=decide (x<y):=by simp[HT.lexLt,cc]
   rw[e2];refine decide_eq_decide.mpr ⟨fun h=>(show rkA (c*100+x) xs<rkA (c*100+y) ys from kD el h1 h2 (by omega)),fun h=>?_⟩;rcases Lq x y with z | z | z
   ·exact z
   ·exact absurd z cc
   ·have q:=kD (c:=c*100+y) (c':=c*100+x) el.symm h2 h1 (by omega);have h:rkA (c*100+x) xs<rkA (c*100+y) ys:=h;omega
end dB

namespace Iso
open Th Mir
noncomputable def dgs:Nat->Nat->List Nat
 | 0,_=>[]
 | f+1,c=>c%16::dgs f (c/16)
noncomputable def cOf:List Nat->Nat
 | []=>0
 | x::r=>x+16*cOf r
theorem xG:∀ (f c:Nat),(dgs f c).length=f
 | 0,_=>rfl
 | f+1,c=>by show (dgs f (c/16)).length+1=f+1;rw[xG f]
theorem xH:∀ (l:List Nat),(∀ x∈l,x<16)->dgs l.length (cOf l)=l
 | [],_=>rfl
 | x::r,h=>by
  have h1:=h x Iq;show (x+16*cOf r)%16::dgs r.length ((x+16*cOf r)/16)=x::r;rw[show (x+16*cOf r)/16=cOf r by omega,show (x+16*cOf r)%16=x by omega,xH r fun y hy=>h y (Im _ hy)]
noncomputable def lkB (A B:List Nat):Nat->Nat->List Nat->Bool
 | _,_,[]=>true
 | t,x,y::r=>IL (bif IL (t%2) 0 then nth A x else nth B x) y&&(!IL x y&&lkB A B (t+1) y r)
noncomputable def lsE:Nat->List Nat->Nat
 | x,[]=>x
 | _,y::r=>lsE y r
noncomputable def DM (A B:List Nat)(k:Nat)(L:List Nat)(h l:Nat):Bool :=
 bif IL k 0 then IL (nth B l) h&&(!IL l h&&leC h L) else
 bif IL k 1 then IL (nth A h) h&&IL (nth B l) l else
 bif IL k 2 then IL (nth A h) h&&(IL (nth A l) l&&Lw (h+1) l)
 else IL (nth B h) h&&(IL (nth B l) l&&Lw (h+1) l)
noncomputable def gtB (A B:List Nat)(th:Nat×List Nat):Bool:=match th.2 with
 | []=>false
 | x::r=>lkB A B (tn th.1) x r&&(DM A B th.1 (x::r) x (lsE x r)&&IL ((x::r).length%2) (bif IL th.1 1 then 1 else 0))
noncomputable def ndB:List Nat->Bool
 | []=>true
 | x::r=>!memC x r&&ndB r
noncomputable def ltB (N:Nat):List Nat->Bool
 | []=>true
 | x::r=>Lw (x+1) N&&ltB N r
noncomputable def wkB (N:Nat)(w:List Nat):List Nat->Nat->Bool
 | [],_=>true
 | x::r,i=>Lw (x+1) N&&(IL (nth w x) i&&wkB N w r (i+1))
noncomputable def kds (D:List (Nat×List Nat)):List (Kd×List Nat):=D.map fun d=>(kdOf d.1,d.2)
noncomputable def layB (w os:List Nat)(N:Nat)(T:List (Nat×List Nat))(F:List Nat):Bool:=IL F.length N&&(ndB F&&(ltB N F&&T.all (gtB w os)))
theorem se:∀ L:List Nat,ndB L=true->L.Nodup
 | [],_=>KY
 | x::r,h=>by
  unfold ndB at h;rw[Iv,Kx] at h;refine JI.mpr ⟨fun z=>?_,se r h.2⟩;rw[(uS x r).mpr z] at h;cases h.1
theorem ltB_iff {N:Nat}:∀ L:List Nat,ltB N L=true->∀ x∈L,x<N
 | [],_,x,hx=>by cases hx
 | y::r,h,x,hx=>by
  unfold ltB at h;rw[Iv,jO,decide_eq_true_eq] at h;rcases IA.mp hx with rfl | hx
  ·exact h.1
  ·exact ltB_iff r h.2 x hx
theorem xI {A B:List Nat}:∀ (r:List Nat) (t x:Nat),lkB A B t x r=true->∀ (i u v:Nat),(x::r)[i]?=some u->(x::r)[i+1]?=some v->(if (t+i)%2=0 then at0 A u else at0 B u)=v/\u≠v
 | [],t,x,_,i,u,v,_,h2=>by simp at h2
 | y::r,t,x,h,i,u,v,h1,h2=>by
  unfold lkB at h;rw[Iv,Iv,Kx,aY,aY,aY,decide_eq_true_eq,decide_eq_false_iff_not,iu,iu,cond_eq_ite] at h;simp only[decide_eq_true_eq] at h;cases i with
  | zero =>
   have e1:x=u:=by simpa using h1
   have e2:y=v:=by simpa using h2
   subst e1;subst e2;exact⟨h.1,h.2.1⟩
  | succ i =>
   have h1':(y::r)[i]?=some u:=by simpa using h1
   have h2':(y::r)[i+1]?=some v:=by simpa using h2
   have z:=xI r (t+1) y h.2.2 i u v h1' h2';rw[show t+1+i=t+(i+1) by omega] at z;exact z
theorem u0:∀ (r:List Nat) (x:Nat),lsE x r=bC (x::r)
 | [],x=>rfl
 | y::r,x=>by
  show lsE y r=bC (x::y::r);rw[u0 r y];unfold bC;simp
theorem E9 (k:Nat):tn k=turn (kdOf k):=by
 unfold tn kdOf;rw[aY,aY,aY];by_cases c0:k=0
 ·subst c0;rfl
 ·by_cases c1:k=1
  ·subst c1;rfl
  ·by_cases c2:k=2
   ·subst c2;rfl
   ·simp[c0,c1,c2,turn]
theorem BK {N:Nat}{A B:List Nat}{th:Nat×List Nat}(h:gtB A B th=true)(nd:th.2.Nodup)(lt:∀ x∈th.2,x<N):dU N (at0 A) (at0 B) (kdOf th.1) th.2:=by
 obtain⟨k,L⟩:=th;cases L with
 | nil=>cases h
 | cons x r =>
  have h:(lkB A B (tn k) x r&&(DM A B k (x::r) x (lsE x r)&&IL ((x::r).length%2) (bif IL k 1 then 1 else 0)))=true:=h;rw[Iv,Iv,aY,aY,cond_eq_ite,decide_eq_true_eq,u0] at h;simp only[decide_eq_true_eq] at h;obtain⟨h1,h2,h3⟩:=h;have pr:(x::r).length%2=1↔kdOf k=.odd:=by
   rw[h3];unfold kdOf;rw[aY,aY,aY];by_cases c0:k=0
   ·subst c0;simp
   ·by_cases c1:k=1
    ·subst c1;simp
    ·by_cases c2:k=2
     ·subst c2;simp
     ·simp[c0,c1,c2]
  refine⟨Mz _,nd,lt,pr,fun i u v e1 e2=>?_,?_⟩
  ·have z:=xI r (tn k) x h1 i u v e1 e2;rw[E9] at z;exact z
  ·unfold DM at h2;simp only[aY,jO,iu] at h2;have hh:hd (x::r)=x:=rfl;by_cases c0:k=0
   ·subst c0;simp only[decide_true,cond_true,Iv,decide_eq_true_eq,Kx,decide_eq_false_iff_not,rT] at h2;refine⟨by rw[hh];exact h2.1,by rw[hh];exact h2.2.1,?_⟩;rw[hh];obtain⟨m1,m2,m3⟩:=xg (x::r) x;have m4:mn (x::r)=(x::r).foldl min x:=rfl;rw[m4];rcases m3 with m3 | m3
    ·exact m3.symm
    ·have:=h2.2.2 _ m3;omega
   ·by_cases c1:k=1
    ·subst c1;rw[decide_eq_false (show ¬ (1:Nat)=0 by decide)] at h2;simp only[decide_true,cond_true,cond_false,Iv,decide_eq_true_eq] at h2;exact⟨by rw[hh];exact h2.1,h2.2⟩
    ·by_cases c2:k=2
     ·subst c2;rw[decide_eq_false (show ¬ (2:Nat)=0 by decide),decide_eq_false (show ¬ (2:Nat)=1 by decide)] at h2;simp only[decide_true,cond_true,cond_false,Iv,decide_eq_true_eq] at h2;exact⟨by rw[hh];exact h2.1,h2.2.1,by rw[hh];exact h2.2.2⟩
     ·have e:kdOf k=.tied:=by unfold kdOf;simp[aY,c0,c1,c2]
      rw[e];simp only[c0,c1,c2,decide_false,cond_false,Iv,decide_eq_true_eq] at h2;exact⟨by rw[hh];exact h2.1,h2.2.1,by rw[hh];exact h2.2.2⟩
theorem sh:∀ D:List (Nat×List Nat),flt (kds D)=(D.map (·.2)).flatten
 | []=>rfl
 | d::r=>by
  have:=sh r;show d.2++flt (kds r)=d.2++_;rw[this]
theorem Az {n:Nat}{w os:List Nat}{D:List (Nat×List Nat)}(h:layB w os (2*n) D ((D.map (·.2)).flatten)=true):Lay n w os (kds D):=by
 unfold layB at h;rw[Iv,Iv,Iv,aY,decide_eq_true_eq] at h;obtain⟨h1,h2,h3,h4⟩:=h;have nd:=se _ h2;have lt:=ltB_iff _ h3;have sub:∀ d∈D,∀ x∈d.2,x∈(D.map (·.2)).flatten:=fun d hd x hx=>KC.mpr ⟨d.2,JM hd,hx⟩
 refine⟨fun th ht=>?_,by rw[sh];exact nd,fun x=>?_⟩
 ·obtain⟨d,hd,rfl⟩:=HW.mp ht;refine BK (I0.mp h4 d hd) ?_ fun x hx=>lt x (sub d hd x hx)
  have:List.Pairwise (·≠·) (D.map (·.2)).flatten:=nd;rw[K0] at this;exact this.1 d.2 (JM hd)
 ·rw[sh];refine⟨lt x,fun hx=>Ia fun c=>?_⟩;have z:=sub_len (l:=x::(D.map (·.2)).flatten) (m:=Ig (2*n)) (JI.mpr ⟨c,nd⟩) fun y hy=>by
   rcases IA.mp hy with rfl | hy
   ·exact Ii.mpr hx
   ·exact Ii.mpr (lt y hy)
  rw[ID,Ij] at z;omega
theorem xJ {N:Nat}{w:List Nat}:∀ (r:List Nat) (i:Nat),wkB N w r i=true->∀ (j x:Nat),r[j]?=some x->x<N/\at0 w x=i+j
 | [],_,_,j,x,h=>by simp at h
 | y::r,i,h,j,x,hx=>by
  unfold wkB at h;rw[Iv,Iv,jO,aY,iu,decide_eq_true_eq,decide_eq_true_eq] at h;cases j with
  | zero =>
   have e:y=x:=by simpa using hx
   subst e;exact⟨h.1,by rw[h.2.1];omega⟩
  | succ j =>
   have z:=xJ r (i+1) h.2.2 j x (by simpa using hx);exact⟨z.1,by rw[z.2];omega⟩
theorem o6 {n:Nat}{w:List Nat}(hn:n<=40)(hl:w.length=2*n)(h:wkB (2*n) w w 0=true):ak n w:=by
 have z:=fun x (hx:x<2*n)=>xJ w 0 h x _ (dZ (by rw[hl];exact hx))
 refine nH hn hl (fun x hx=>(z x hx).1) fun x hx=>?_
 rw[(z x hx).2,IZ]

noncomputable def pth:Nat->List Nat->List Nat->Nat->List Nat
 | 0,_,_,x=>[x]
 | f+1,A,B,x=>bif IL (nth A x) x then [x] else x::pth f B A (nth A x)
noncomputable def rgL:Nat->List Nat->List Nat->Nat->Nat->List Nat
 | 0,A,_,_,_=>[A.length]
 | f+1,A,B,u,x=>bif IL (nth A x) x||IL (nth B (nth A x)) (nth A x) then [A.length] else bif IL (nth B (nth A x)) u then [x,nth A x] else x::nth A x::rgL f A B u (nth B (nth A x))
noncomputable def thX (N:Nat)(A B:List Nat)(x:Nat):List (Nat×List Nat):=bif IL (nth A x) x then frL (pth N B A x) fun L=>bif IL (L.length%2) 1 then [(1,L)] else bif Lw (x+1) (lsE x L) then [(2,L)] else []
 else bif IL (nth B x) x then frL (pth N A B x) fun L=>bif IL (L.length%2) 0&&Lw (x+1) (lsE x L) then [(3,L)] else []
 else frL (rgL N A B x x) fun L=>bif !memC N L&&leC x L then [(0,L)] else []
noncomputable def thO (os:List Nat)(N c:Nat):List (Nat×List Nat):=frL (dgs N c) fun w=>(Ig N).flatMap (thX N w os)
noncomputable def jx (c:Nat):List Nat->Nat->Nat
 | [],b=>b
 | d::r,b=>bif IL d c then b else jx c r (2*b)
noncomputable def prM (w:List Nat)(D:List Nat):List (Nat×Nat)->Nat
 | []=>0
 | c::r=>Ma (bif IL (nth w c.1) c.2 then 0 else frN (cOf (beh w c.1 c.2)) fun x=>jx x D 1) (prM w D r)
noncomputable def Cn (os:List Nat)(N:Nat)(d:Nat):Bool:=frL (dgs N d) fun w=>IL (cOf w) d&&(wkB N w w 0&&layB w os N (thO os N d) ((thO os N d).map (·.2)).flatten)
noncomputable def allM (os:List Nat)(N:Nat)(D:List Nat):List Nat->Nat
 | []=>0
 | d::r=>Ma (frL (dgs N d) fun w=>frP (a9 (kds (thO os N d))) fun P=>prM w D P) (allM os N D r)
noncomputable def AA:List Nat->Nat
 | []=>1
 | e::S=>nth [1,2,5,14,42] (mS e)*AA S
noncomputable def BL (w:List Nat)(O:List Nat):List (Nat×Nat)->List Nat
 | []=>O
 | c::r=>bif IL (nth w c.1) c.2 then BL w O r else frN (cOf (beh w c.1 c.2)) fun x=>bif memC x O then BL w O r else BL w (x::O) r
noncomputable def lvB (os:List Nat)(N:Nat)(O:List Nat):List Nat->List Nat
 | []=>O
 | d::r=>lvB os N (frL (dgs N d) fun w=>frP (a9 (kds (thO os N d))) fun P=>BL w O P) r
noncomputable def bfs (os:List Nat)(N:Nat):Nat->List Nat->List Nat
 | 0,R=>R
 | f+1,R=>frL (lvB os N [] R) fun O=>bif IL O.length 0 then R else R++bfs os N f O
noncomputable def wyD (N:Nat)(S:List Nat)(D:List Nat):Bool:=frL (can 0 0 S) fun ms=>frL (can 1 0 S) fun os =>
 (wkB N ms ms 0&&wkB N os os 0)&&((IL ms.length N&&IL os.length N)&&(ndB D&&(D.all (Cn os N)&&(IL (Ma (allM os N D D) (jx (cOf ms) D 1)) (2 ^ D.length-1)&&(Lw D.length 127&&((rS 2 S&&rS 3 S)||IL D.length (AA S)))))))
noncomputable def wyC (N:Nat)(S:List Nat):Bool:=frL (bfs (can 1 0 S) N 5 [cOf (can 0 0 S)]) fun D=>wyD N S D
theorem si (c:Nat):∀ (D:List Nat) (b:Nat),∃ i,jx c D b=b*2 ^ i/\i<=D.length/\(i<D.length->∃ d,D[i]?=some d/\d=c)
 | [],b=>⟨0,by show b=_;omega,HV _,fun h=>absurd h (JV _)⟩
 | d::r,b=>by
  unfold jx;rw[aY];by_cases e:d=c
  ·rw[decide_eq_true e];exact⟨0,by show b=_;omega,IT _,fun _=>⟨d,rfl,e⟩⟩
  ·rw[decide_eq_false e];obtain⟨i,h1,h2,h3⟩:=si c r (2*b);refine⟨i+1,?_,by rw[ID];omega,fun h=>?_⟩
   ·show jx c r (2*b)=_;rw[h1,Nat.pow_succ,MD 2 b,Lx,MD 2]
   ·obtain⟨d',h4,h5⟩:=h3 (by rw[ID] at h;omega);exact⟨d',by simpa using h4,h5⟩
theorem xK {w D:List Nat}{j:Nat}:∀ ps:List (Nat×Nat),(prM w D ps).testBit j=true↔∃ c∈ps,at0 w c.1≠c.2/\(jx (cOf (beh w c.1 c.2)) D 1).testBit j=true
 | []=>by simp[prM]
 | c::r=>by
  unfold prM;rw[show ∀ x y:Nat,Ma x y=x ||| y from fun _ _=>rfl,L6,JA,xK r,kB,aY,iu];by_cases e:at0 w c.1=c.2
  ·simp[e]
  ·simp[e]
theorem o7 {os D:List Nat}{N j:Nat}:∀ ds:List Nat,(allM os N D ds).testBit j=true↔∃ d∈ds,∃ c∈a9 (kds (thO os N d)),at0 (dgs N d) c.1≠c.2/\(jx (cOf (beh (dgs N d) c.1 c.2)) D 1).testBit j=true
 | []=>by simp[allM]
 | d::r=>by
  unfold allM;rw[show ∀ x y:Nat,Ma x y=x ||| y from fun _ _=>rfl,L6,JA,o7 r,fV,wx,xK];simp
theorem DN {n:Nat}(hn:n<=4){S:List Nat}(h:wyC (2*n) S=true):∃ L:List (List Nat),L.Nodup/\(∀ w,Rch n (can 1 0 S) (can 0 0 S) w↔w∈L)/\L.length<128/\((rS 2 S&&rS 3 S)=false->L.length=AA S):=by
 unfold wyC at h;rw[fV] at h;generalize bfs (can 1 0 S) (2*n) 5 [cOf (can 0 0 S)]=D at h;unfold wyD at h;rw[fV,fV] at h;simp only[Iv,aY,jO,decide_eq_true_eq] at h;obtain⟨⟨w1,w2⟩,⟨l1,l2⟩,asc,nds,msk,few,ct⟩:=h;have WA:=o6 (by omega) l1 w1;have WB:=o6 (by omega) l2 w2;generalize hos:can 1 0 S=os at *;generalize hms:can 0 0 S=ms at *;have nd:∀ d∈D,cOf (dgs (2*n) d)=d/\ak n (dgs (2*n) d)/\Lay n (dgs (2*n) d) os (kds (thO os (2*n) d)):=fun d hd=>by
  have z:=I0.mp nds d hd;unfold Cn at z;rw[fV,Iv,Iv,aY,decide_eq_true_eq] at z;exact⟨z.1,o6 (by omega) (xG _ _) z.2.1,Az z.2.2⟩
 have bk:∀ {v:List Nat},ak n v->dgs (2*n) (cOf v)=v:=fun {v} W=>by
  have z:=xH v fun x hx=>by
   obtain⟨i,hi,e⟩:=Jz hx;have hi':i<2*n:=by rw[<- W.len];exact hi
   have:=W.wk.lt i hi';have e2:=dZ hi;rw[HP hi,e] at e2;have e3:x=at0 v i:=Option.some.inj e2;omega
  rw[W.len] at z;exact z
 have bit:∀ j,(Ma (allM os (2*n) D D) (jx (cOf ms) D 1)).testBit j=decide (j<D.length):=fun j=>by rw[msk,Nat.testBit_two_pow_sub_one]
 have pos:∀ (c j:Nat),(jx c D 1).testBit j=true->(∃ i,jx c D 1=2 ^ i/\i=j)/\(j<D.length->∃ d,D[j]?=some d/\d=c):=fun c j hj=>by
  obtain⟨i,h1,h2,h3⟩:=si c D 1;rw[MU] at h1;rw[h1,Mb,decide_eq_true_eq] at hj;subst hj;exact⟨⟨i,h1,rfl⟩,h3⟩
 have set:∀ c,∃ j,(jx c D 1).testBit j=true:=fun c=>by
  obtain⟨i,h1,_,_⟩:=si c D 1;exact⟨i,by rw[h1,MU,Mb];exact decide_eq_true rfl⟩
 have orb:∀ j,(Ma (allM os (2*n) D D) (jx (cOf ms) D 1)).testBit j=((allM os (2*n) D D).testBit j||(jx (cOf ms) D 1).testBit j):=fun j=>L6 _ _ _
 have out:∀ d∈D,∀ p q,p<=q->q<2*n->at0 (dgs (2*n) d) p≠q->((p,q)∈a9 (kds (thO os (2*n) d))↔aH n (beh (dgs (2*n) d) p q) os+1=aH n (dgs (2*n) d) os):=fun d hd p q h1 h2 h3=>by
  obtain⟨_,W,l⟩:=nd d hd;rw[Ai W WB hn l h1 h2 h3,km W WB (by omega) h2 h3];omega
 have fnd:∀ c j,(jx c D 1).testBit j=true->(Ma (allM os (2*n) D D) (jx (cOf ms) D 1)).testBit j=true->∃ d∈D,d=c:=fun c j h1 h2=>by
  rw[bit j,decide_eq_true_eq] at h2;obtain⟨d,h3,h4⟩:=(pos c j h1).2 h2;exact⟨d,Ib h3,h4⟩
 refine⟨D.map fun d=>dgs (2*n) d,?_,fun w=>⟨fun hw=>?_,fun hw=>?_⟩,by rw[HQ];omega,fun hm=>by
  rw[HQ];rcases JA _ _ ▸ ct with z | z
  ·rw[hm] at z;cases z
  ·exact of_decide_eq_true z⟩
 ·refine eF (se D asc) fun d hd e he z=>?_
  have z2:=congrArg cOf z;rw[(nd d hd).1,(nd e he).1] at z2;exact z2
 ·induction hw with
  | refl =>
   obtain⟨j,hj⟩:=set (cOf ms);obtain⟨d,hd,e⟩:=fnd _ j hj (by rw[orb,hj,Bool.or_true]);exact HW.mpr ⟨d,hd,by rw[e];exact bk WA⟩
  | @step w v hw hv ih =>
   obtain⟨d,hd,rfl⟩:=HW.mp ih;obtain⟨_,W,l⟩:=nd d hd;obtain⟨⟨p,q,h1,h2,h3,rfl⟩,ha⟩:=(gv W).mp hv;have hp:=(out d hd p q h1 h2 h3).mpr ha;obtain⟨j,hj⟩:=set (cOf (beh (dgs (2*n) d) p q));obtain⟨d',hd',e⟩:=fnd _ j hj (by rw[orb,(o7 D).mpr ⟨d,hd,(p,q),hp,h3,hj⟩,Ms]);exact HW.mpr ⟨d',hd',by rw[e];exact bk (dS W (by omega) h2 h3)⟩
 ·obtain⟨d,hd,rfl⟩:=HW.mp hw;have key:∀ (k:Nat) (d:Nat),d∈D->n-aH n (dgs (2*n) d) os<=k->Rch n os ms (dgs (2*n) d):=fun k=>by
   induction k with
   | zero=>?_
   | succ k ih=>?_
   all_goals
    intro d hd hk;obtain⟨j,hj,e⟩:=Jz hd;have b:=bit j;rw[orb,decide_eq_true hj,JA] at b;have same:∀ c,(jx c D 1).testBit j=true->d=c:=fun c h=>by
     obtain⟨d',h3,h4⟩:=(pos c j h).2 hj;rw[HP hj,e] at h3;rw[Option.some.inj h3];exact h4
    rcases b with b | b
    ·obtain⟨u,hu,c,hc,hf,hb⟩:=(o7 D).mp b;obtain⟨_,W,l⟩:=nd u hu;obtain⟨c1,⟨t2,m2,c2⟩,t3,m3,c3⟩:=qy hc;have lt2:c.2<2*n:=(l.mem _).mp (KC.mpr ⟨t3.2,JM m3,c3⟩);have ap:=(out u hu c.1 c.2 c1 lt2 hf).mp hc;have ev:dgs (2*n) d=beh (dgs (2*n) u) c.1 c.2:=by rw[same _ hb];exact bk (dS W (by omega) lt2 hf)
     have bu:aH n (dgs (2*n) u) os<=n:=by unfold aH;omega
     rw[<- ev] at ap
     first
     | exact(ih u hu (by omega)).step ((gv W).mpr ⟨⟨c.1,c.2,c1,lt2,hf,ev.symm⟩,ap⟩)
     | exact absurd hk (by omega)
    ·rw[same _ b,bk WA];exact .refl
  exact key _ d hd (HV _)
end Iso

set_option maxHeartbeats 4000000
namespace Iso
theorem wt0:(enm 9 0 0).all (wyC 0)=true:=by decide +kernel
theorem wt2:(enm 9 0 2).all (wyC 2)=true:=by decide +kernel
theorem wt4:(enm 9 0 4).all (wyC 4)=true:=by decide +kernel
theorem wt6:(enm 9 0 6).all (wyC 6)=true:=by decide +kernel
theorem GH:(((enm 9 0 8).take 50).all (wyC 8))=true:=by decide +kernel
theorem GI:((((enm 9 0 8).drop 50).take 25).all (wyC 8))=true:=by decide +kernel
theorem GJ:(((((enm 9 0 8).drop 50).drop 25).take 17).all (wyC 8))=true:=by decide +kernel
theorem GK:(((((enm 9 0 8).drop 50).drop 25).drop 17).all (wyC 8))=true:=by decide +kernel
theorem DO {n:Nat}(hn:n<=4){S:List Nat}(h:S∈enm 9 0 (2*n)):wyC (2*n) S=true:=by
 have e:n=0\/n=1\/n=2\/n=3\/n=4:=by omega
 rcases e with rfl | rfl | rfl | rfl | rfl
 ·exact I0.mp wt0 S h
 ·exact I0.mp wt2 S h
 ·exact I0.mp wt4 S h
 ·exact I0.mp wt6 S h
 ·exact I0.mp (gE 50 GH (gE 25 GI (gE 17 GJ GK))) S h
end Iso

namespace Iso
open Th Mir
noncomputable def jy:List Nat:=[1,2,5,14,42]
noncomputable def mE:List Nat->Nat
 | []=>1
 | x::r=>nth jy x*mE r
theorem xM:∀ S:List Nat,AA S=mE (S.map mS)
 | []=>rfl
 | e::S=>by
  show nth [1,2,5,14,42] (mS e)*AA S=nth jy (mS e)*mE (S.map mS);rw[xM S]
  rfl
theorem qH (x:Nat):∀ l:List Nat,mE (l++[x])=mE l*nth jy x
 | []=>by show nth jy x*1=1*nth jy x;omega
 | y::l=>by
  show nth jy y*mE (l++[x])=nth jy y*mE l*nth jy x;rw[qH x l,Lx]
theorem yM {l m:List Nat}(h:l.Perm m):mE l=mE m:=by
 induction h with
 | nil=>rfl
 | cons x _ ih=>show nth jy x*_=nth jy x*_;rw[ih]
 | swap x y l=>show nth jy y*(nth jy x*_)=nth jy x*(nth jy y*_);rw[<- Lx,<- Lx,MD (nth jy y)]
 | trans _ _ h1 h2=>exact h1.trans h2
section
variable {n:Nat}{ms os:List Nat}
theorem xN (W:ak n ms)(WO:ak n os)(hn:n<=4):∃ (ths:List (Kd×List Nat)) (ms' os':List Nat) (φ ψ:Nat->Nat) (L:List (List Nat)),fY n ms os ths/\ak n ms'/\ak n os'/\lB n ms os ms' os' φ ψ/\L.Nodup/\(∀ w,Rch n os' ms' w↔w∈L)/\L.length<128/\(both (ths.map (·.1))=false->L.length=mE (ths.map jv)):=by
 obtain⟨BM,h0⟩:=DA W WO;have l0:=qC W WO h0;have pm:=KH BM fun p q=>decide (ec p<=ec q)
 have l:=l0.Cj pm;have srt:=KQ (le:=fun (p q:Kd×List Nat)=>decide (ec p<=ec q)) (fun p q r h1 h2=>by rw[decide_eq_true_eq] at *;omega) (fun p q=>by rw[JA,decide_eq_true_eq,decide_eq_true_eq];omega) BM;generalize (BM.mergeSort fun p q=>decide (ec p<=ec q))=ths at l srt pm;have DB:(ths.map ec).Pairwise (·<=·):=IJ.mpr (srt.imp fun {p q} h=>of_decide_eq_true h);have m:=rX (ths.map ec) 9 0 l.okt (l.few hn) (fun _ _=>IT _) DB;rw[l.sz] at m;obtain⟨L,h1,h2,h3,h4⟩:=DN hn (DO hn m);obtain⟨WA,WB,I⟩:=l.iso W WO;refine⟨BM,_,_,_,_,L,h0,WA,WB,I,h1,h2,h3,fun nb=>?_⟩;have e:(rS 2 (ths.map ec)&&rS 3 (ths.map ec))=false:=by
  rw[show (2:Nat)=kc .bare from rfl,show (3:Nat)=kc .tied from rfl,oZ,oZ];unfold both at nb;rw[decide_eq_decide.mpr (pm.map (·.1)).mem_iff,decide_eq_decide.mpr (pm.map (·.1)).mem_iff];exact nb
 rw[h4 e,xM,Jf];have e2:(ths.map (mS ∘ ec))=ths.map jv:=JL fun th _=>Ar th
 rw[e2];exact yM (pm.map _)
theorem BN (W:ak n ms)(WO:ak n os)(hn:n<=4){L:List (List Nat)}(nd:L.Nodup)(h:∀ w∈L,Rch n os ms w):L.length<128:=by
 obtain⟨ths,ms',os',φ,ψ,L',h0,WA,WB,I,h1,h2,h3,h4⟩:=xN W WO hn;have:=wB I W WA nd h fun w hw=>(h2 w).mp hw
 omega
theorem BO (W:ak n ms)(WO:ak n os)(hn:n<=4)(nb:rL n ms os){L:List (List Nat)}(nd:L.Nodup)(h:∀ w,w∈L↔Rch n os ms w):L.length=mE ((c9 n ms os (2*n)).map (·.2)):=by
 obtain⟨ths,ms',os',φ,ψ,L',h0,WA,WB,I,h1,h2,h3,h4⟩:=xN W WO hn;have a:=wB I W WA nd (fun w hw=>(h w).mp hw) fun w hw=>(h2 w).mp hw
 have b:=wB I.symm WA W h1 (fun w hw=>(h2 w).mpr hw) fun w hw=>(h w).mpr hw
 unfold rL at nb;rw[<- As W WO h0] at nb;have c:=h4 nb;rw[<- h0.lacks W WO,Jf];have e:ths.map ((·.2) ∘ fun th=>(th.1,jv th))=ths.map jv:=rfl;rw[e];omega
theorem BP (W:ak n ms)(WO:ak n os)(hn:n<=4){x:Kd×Nat}(h:x∈c9 n ms os (2*n)):x.2<=4:=by
 have s:=yD W WO;have:∀ (l:List Nat) (y:Nat),y∈l->y<=l.sum:=fun l y hy=>by
  induction l with
  | nil=>cases hy
  | cons z l ih =>
   rw[List.sum_cons];rcases IA.mp hy with rfl | hy
   ·omega
   ·have:=ih hy;omega
 have:=this _ _ (JM (f:=(·.2)) h);omega
end
end Iso

namespace Iso
open PySem L2 Th Mir
theorem u6 {c d:List Nat}(e:b8 c=b8 d):c=d:=(List.map_inj_right (f:=fun (x:Nat)=>(x:Int)) fun a b h=>by omega).mp e
theorem xO {c:List Nat}{rs:List (List Nat)}:b8 c∈rs.map b8↔c∈rs:=by
 rw[HW];exact⟨fun ⟨d,hd,e⟩=>u6 e ▸ hd,fun h=>⟨c,h,rfl⟩⟩
theorem xP {H:Hp}{ts:List Addr}{L:List (List Nat)}(h:∀ (i:Nat) (t:Addr) (x:List Nat),ts[i]?=some t->L[i]?=some x->H t=some (.tup (nV x))):∀ (i:Nat) (u:Addr) (r:List Int),ts[i]?=some u->(L.map b8)[i]?=some r->H u=some (.tup (r.map V.int)):=fun i u r e1 e2=>by
 rw[HX] at e2;obtain⟨x,e3,rfl⟩:=Jh.mp e2;rw[oy];exact h i u x e1 e3
section
variable {n:Nat}{ms os:List Nat}
theorem sj (hn:n<=40){w:List Nat}(W:ak n w):dB.InR (b8 w):=fun x hx=>by
 obtain⟨y,hy,rfl⟩:=HW.mp hx;obtain⟨i,hi,e⟩:=Jz hy;have:=W.wk.lt i (by rw[<- W.len];exact hi);have e2:=dZ hi;rw[HP hi,e] at e2;have e3:y=at0 w i:=Option.some.inj e2;omega
theorem AB {v w:List Nat}(V:ak n v)(W:ak n w):(b8 v).length=(b8 w).length:=by
 unfold b8;rw[HQ,HQ,V.len,W.len]
theorem AD {v w:List Nat}(V:ak n v)(W:ak n w)(e:dB.rkA 0 (b8 v)=dB.rkA 0 (b8 w)):v=w:=u6 (dB.BD (AB V W) (sj V.small V) (sj W.small W) e)
theorem Fb {L:List (List Nat)}(nd:L.Nodup)(wk:∀ w∈L,ak n w)(srt:L.Pairwise fun v w=>dB.rkA 0 (b8 v)<=dB.rkA 0 (b8 w)){i:Nat}{v w:List Nat}(h1:L[i]?=some v)(h2:L[i+1]?=some w):HT.lexLt (b8 v) (b8 w)=true:=by
 have m1:=Ib h1;have m2:=Ib h2;rw[dB.uZ (c:=0) (AB (wk v m1) (wk w m2)) (sj (wk v m1).small (wk v m1)) (sj (wk w m2).small (wk w m2))];obtain⟨l1,e1⟩:=HR.mp h1;obtain⟨l2,e2⟩:=HR.mp h2;have le:=Ja.mp srt i (i+1) l1 l2 (by omega);have ne:=Ja.mp (Iu.mp nd) i (i+1) l1 l2 (by omega);rw[e1,e2] at le ne;refine decide_eq_true ?_;have:dB.rkA 0 (b8 v)≠dB.rkA 0 (b8 w):=fun z=>ne (AD (wk v m1) (wk w m2) z)
 omega
theorem only {L M:List (List Nat)}(W:ak n ms)(n1:L.Nodup)(n2:M.Nodup)(m1:∀ w,w∈L↔Rch n os ms w)(m2:∀ w,w∈M↔Rch n os ms w)(s1:L.Pairwise fun v w=>dB.rkA 0 (b8 v)<=dB.rkA 0 (b8 w))(s2:M.Pairwise fun v w=>dB.rkA 0 (b8 v)<=dB.rkA 0 (b8 w)):L=M:=by
 have pm:L.Perm M:=(JD n1 n2).mpr fun w=>by rw[m1,m2]
 refine List.Perm.eq_of_pairwise (le:=fun v w=>dB.rkA 0 (b8 v)<=dB.rkA 0 (b8 w)) (fun v w hv hw z1 z2=>?_) s1 s2 pm;exact AD (((m1 v).mp hv).work W) (((m2 w).mp hw).work W) (by omega)
end
theorem yN {L:List (List Nat)}(nd:L.Nodup){i:Nat}{w:List Nat}(h:L[i]?=some w):putK (bT (L.take i)) (kW w) (.bl true)=bT (L.take (i+1)):=by
 have hn:w ∉ L.take i:=fun z=>by
  obtain⟨hi,e⟩:=HR.mp h;have z2:w∈L.drop i:=by rw[Lj hi,e];exact Iq
  have nd2:=nd;rw[<- Jr i L] at nd2;exact(Jj.mp nd2).2.2 w z w z2 rfl
 rw[DJ];unfold addW;rw[if_neg hn,Mir.take_snoc h]
theorem BQ (w:List Nat):∀ v∈nV w,gY v=true:=fun v hv=>by
 obtain⟨x,_,rfl⟩:=HW.mp hv
 rfl
end Iso






namespace L2
open PySem PySem.Spec PyProof.Rows
noncomputable def tupI (H:Hp)(t:Addr):List Int:=match H t with
 | some (.tup xs)=>xs.map fun v=>match v with
  | .int i=>i
  | _=>0
 | _=>[]
theorem sk {H:Hp}{t:Addr}{ns:List Int}(h:H t=some (.tup (ns.map V.int))):tupI H t=ns:=by
 unfold tupI;rw[h];show (ns.map V.int).map _=ns;rw[Jf];exact MB ns
noncomputable def eqT (H:Hp)(ns:List Int):Value->Bool
 | .ref t=>decide (tupI H t=ns)
 | _=>false
theorem o8:∀ {ts:List Addr} {its:List Value},Vals (ts.map V.ref) its->its=ts.map Value.ref
 | [],_,.nil=>rfl
 | t::ts,_,.cons h r=>by rw[o8 r];cases h;rfl
end L2















namespace L2
open PySem PySem.Spec PyProof.Rows
section
variable {X:Cx}
noncomputable def BR:R2:=fun x y H Q=>∃ (t p:Addr) (ts:List Addr) (ns:List Int) (rows:List (List Int)),x=.ref t/\y=.ref p/\H t=some (.tup (ns.map V.int))/\H p=some (.lst (ts.map V.ref))/\ts.length=rows.length/\(∀ (i:Nat) (u:Addr) (r:List Int),ts[i]?=some u->rows[i]?=some r->H u=some (.tup (r.map V.int)))/\Q (.bl (!decide (ns∈rows))) H
theorem jW (hu:X.A.units+1<cLine):OpR X (compareOp .NotIn) BR:=by
 intro pins s σ H x y v u Q I rx ry h;obtain⟨t,p,ts,ns,rows,rfl,rfl,ht,hp,hl,hr,q⟩:=h;cases rx;cases ry;obtain⟨its,r,pl,hz⟩:=I.list (SqL.of hp);have er:its=ts.map Value.ref:=o8 r;subst er;have row:∀ w∈ts,∃ rr∈rows,H w=some (.tup (rr.map V.int)):=fun w hw=>by
  obtain⟨i,hi,rfl⟩:=Jz hw;exact⟨rows[i]'(by omega),J1 _,hr i _ _ (HP hi) (HP (by omega))⟩
 refine SeqAt.notIn_listAt (eqT H ns) pl.isList (fun w hw=>?_) ⟨.bl _,H,I,rfl,?_⟩
 ·obtain⟨a,ha,rfl⟩:=HW.mp (show w∈ts.map Value.ref by simpa using hw);obtain⟨rr,_,e⟩:=row a ha;have z:=yo (A:=X.A.in1) (ns:=rr) (ms:=ns) I (by show X.A.units+1<cLine;exact hu) (SqT.of e) (SqT.of ht);show SeqAt.EqAt _ _ _ _ (decide (tupI H a=ns));rw[sk e];exact z
 ·have e:(ts.map Value.ref).toArray.any (eqT H ns)=decide (ns∈rows):=by
   rw[show (ts.map Value.ref).toArray.any (eqT H ns)=(ts.map Value.ref).any (eqT H ns) by simp,Jt,MR,decide_eq_true_iff];constructor
   ·rintro⟨w,hw,hz⟩;obtain⟨a,ha,rfl⟩:=HW.mp hw;obtain⟨rr,hrr,e⟩:=row a ha;have hz:tupI H a=ns:=of_decide_eq_true hz;rw[sk e] at hz;rw[<- hz];exact hrr
   ·intro hm;obtain⟨i,hi,e1⟩:=Jz hm;have hi2:i<ts.length:=by omega
    refine⟨.ref ts[i],HW.mpr ⟨_,J1 hi2,rfl⟩,?_⟩;show decide (tupI H ts[i]=ns)=true;rw[sk (hr i _ _ (HP hi2) (HP hi)),e1];exact decide_eq_true rfl
  rw[e];exact q
end
end L2

set_option maxHeartbeats 2000000
open Mir (ua nV aI uo xi at0 df dZ iT vR um oD oE fU rD aW jI zO uq ThT ks xr oF ER ko en Fa2 tf xq uO uP aH wc uJ oG yp xy TsT pf xA mR mf bP bV frd zN gL beh vQ Bj lj rA md qv cR By wb Ds Bt qF Au duL rM Sm ak b8 ub rq xj Be vL vJ ud vK zR qh oJ qk ux qj mm bA mh oH rE oI Bw c9 qu oR Bx oQ mx dS oy rL)
open Iso (BG kW o5 bT Lv jP wA DJ BF Av Aw Cm Ax qG mD BH BI BN xP xO xF yN Fb BJ BP BO mE nth jy qH BQ)
open Th (wlk dJ nC jF cv stp lsL gZ cL kY thr lZ Kd pA eA nY bC n0 jb qc nZ mn gK bG aT de gk aX zw ao dk bj dN eg a9 bY jn gJ lack eM dm)
namespace Law
open PySem L2
noncomputable def top (i:Nat):Stmt:=PySem.Challenge.pw_claspwork_k32_works_on_the_way.main.body.getD i (.Pass ⟨0,0,0,0⟩)
noncomputable abbrev fu:Stmt:=top 6
noncomputable abbrev cY:Stmt:=top 7
noncomputable abbrev dD:Stmt:=top 8
noncomputable abbrev du:Stmt:=top 10
noncomputable abbrev cZ:Stmt:=top 11
noncomputable abbrev fv:Stmt:=top 12
noncomputable abbrev cS:Stmt:=top 13
noncomputable abbrev eO:Stmt:=top 14
noncomputable abbrev eP:Stmt:=top 15
noncomputable abbrev gF:Stmt:=top 17
noncomputable abbrev dv:Stmt:=top 18
noncomputable abbrev b9:Stmt:=top 19
noncomputable abbrev fz:Stmt:=top 20
noncomputable abbrev fA:Stmt:=top 21
noncomputable abbrev dw:Stmt:=top 22
noncomputable abbrev gQ:Stmt:=top 23
noncomputable abbrev dy:Stmt:=top 25
noncomputable abbrev iJ:Stmt:=top 26
noncomputable abbrev cz:Stmt:=top 27
noncomputable abbrev cM:Stmt:=top 28
noncomputable abbrev bX:Stmt:=top 29
noncomputable abbrev c6:Stmt:=top 32
noncomputable abbrev eQ:Stmt:=top 33
noncomputable abbrev dX:Stmt:=top 35
noncomputable abbrev fB:Stmt:=top 36
noncomputable abbrev fE:Stmt:=top 37
noncomputable abbrev gx:Stmt:=top 38
noncomputable abbrev fG:Stmt:=top 39
noncomputable abbrev gR:Stmt:=top 40
noncomputable abbrev eo:Stmt:=top 41
noncomputable abbrev fH:Stmt:=top 42
noncomputable abbrev fI:Stmt:=top 43
noncomputable abbrev g9:Stmt:=top 44
noncomputable abbrev hG:Stmt:=top 45
noncomputable abbrev gy:Stmt:=top 46
noncomputable abbrev iY:Stmt:=top 47
noncomputable abbrev AE:Stmt:=top 48
theorem so:aN ["work"] ["work"] (az fu):=⟨rfl,rfl,rfl,by decide +kernel,rfl,by decide +kernel,by decide +kernel⟩
theorem mF:aN ["one","other"] ["one","other"] (az cY):=⟨rfl,rfl,rfl,by decide +kernel,rfl,by decide +kernel,by decide +kernel⟩
theorem pJ:aN ["work"] ["work"] (az dD):=⟨rfl,rfl,rfl,by decide +kernel,rfl,by decide +kernel,by decide +kernel⟩
theorem iZ:aN ["work","deed","low","high"] ["work","deed"] (az du):=⟨rfl,rfl,rfl,by decide +kernel,rfl,by decide +kernel,by decide +kernel⟩
theorem mG:aN ["work","deed"] ["work","deed"] (az cZ):=⟨rfl,rfl,rfl,by decide +kernel,rfl,by decide +kernel,by decide +kernel⟩
theorem i5:aN ["work","deed","mates","freed"] ["work","deed"] (az fv):=⟨rfl,rfl,rfl,by decide +kernel,rfl,by decide +kernel,by decide +kernel⟩
theorem pK:aN ["work","deed"] ["work","deed"] (az cS):=⟨rfl,rfl,rfl,by decide +kernel,rfl,by decide +kernel,by decide +kernel⟩
theorem pL:aN ["mates","one","other"] ["mates","one","other"] (az eO):=⟨rfl,rfl,rfl,by decide +kernel,rfl,by decide +kernel,by decide +kernel⟩
theorem iw:aN ["work","deed","pair","freed"] ["work","deed"] (az eP):=⟨rfl,rfl,rfl,by decide +kernel,rfl,by decide +kernel,by decide +kernel⟩
theorem eu:aN ["one","other","found","seen","kind","ends","end","ring"] ["one","other"] (az gF):=⟨rfl,rfl,rfl,by decide +kernel,rfl,by decide +kernel,by decide +kernel⟩
theorem cf:aN ["one","other","found","end","ends"] ["one","other"] (az dv):=⟨rfl,rfl,rfl,by decide +kernel,rfl,by decide +kernel,by decide +kernel⟩
theorem dE:aN ["start","first","second","ends","onward"] ["start","first","second"] (az b9):=⟨rfl,rfl,rfl,by decide +kernel,rfl,by decide +kernel,by decide +kernel⟩
theorem lF:aN ["seen","ends","end"] ["seen","ends"] (az fz):=⟨rfl,rfl,rfl,by decide +kernel,rfl,by decide +kernel,by decide +kernel⟩
theorem sr:aN ["thread"] ["thread"] (az fA):=⟨rfl,rfl,rfl,by decide +kernel,rfl,by decide +kernel,by decide +kernel⟩
theorem jc:aN ["one","other","kinds"] ["one","other"] (az dw):=⟨rfl,rfl,rfl,by decide +kernel,rfl,by decide +kernel,by decide +kernel⟩
theorem vc:aN ["one","other"] ["one","other"] (az gQ):=⟨rfl,rfl,rfl,by decide +kernel,rfl,by decide +kernel,by decide +kernel⟩
theorem bQ:aN ["one","other","laid","bare","tied","pairs","kind","ends"] ["one","other"] (az dy):=⟨rfl,rfl,rfl,by decide +kernel,rfl,by decide +kernel,by decide +kernel⟩
theorem i6:aN ["laid","kind","found","told","ends"] ["laid","kind"] (az iJ):=⟨rfl,rfl,rfl,by decide +kernel,rfl,by decide +kernel,by decide +kernel⟩
theorem cT:aN ["ends","pairs","place","end"] ["ends"] (az cz):=⟨rfl,rfl,rfl,by decide +kernel,rfl,by decide +kernel,by decide +kernel⟩
theorem eR:aN ["bare","tied","pairs","end"] ["bare","tied"] (az cM):=⟨rfl,rfl,rfl,by decide +kernel,rfl,by decide +kernel,by decide +kernel⟩
theorem ng:aN ["end","mate"] ["end","mate"] (az bX):=⟨rfl,rfl,rfl,by decide +kernel,rfl,by decide +kernel,by decide +kernel⟩
theorem iK:aN ["most","one","other","apart"] ["most","one","other"] (az c6):=⟨rfl,rfl,rfl,by decide +kernel,rfl,by decide +kernel,by decide +kernel⟩
theorem bS:aN ["one","other","found","fresh","onward","work","deed"] ["one","other"] (az eQ):=⟨rfl,rfl,rfl,by decide +kernel,rfl,by decide +kernel,by decide +kernel⟩
theorem o9:aN ["script","k"] ["script","k"] (az dX):=⟨rfl,rfl,rfl,by decide +kernel,rfl,by decide +kernel,by decide +kernel⟩
theorem su:aN ["found"] ["found"] (az fB):=⟨rfl,rfl,rfl,by decide +kernel,rfl,by decide +kernel,by decide +kernel⟩
theorem dF:aN ["flow","staves","mates","cell","one","other","end"] ["flow","staves"] (az fE):=⟨rfl,rfl,rfl,by decide +kernel,rfl,by decide +kernel,by decide +kernel⟩
theorem iy:aN ["script","most","cut","staves"] ["script","most"] (az gx):=⟨rfl,rfl,rfl,by decide +kernel,rfl,by decide +kernel,by decide +kernel⟩
theorem sv:aN ["mates","end"] ["mates","end"] (az fG):=⟨rfl,rfl,rfl,by decide +kernel,rfl,by decide +kernel,by decide +kernel⟩
theorem hJ:aN ["mates","one","other","behind","first","last"] ["mates","one","other"] (az gR):=⟨rfl,rfl,rfl,by decide +kernel,rfl,by decide +kernel,by decide +kernel⟩
theorem fJ:aN ["one","other","end","known","ends","at","onward"] ["one","other","end","known"] (az eo):=⟨rfl,rfl,rfl,by decide +kernel,rfl,by decide +kernel,by decide +kernel⟩
theorem cU:aN ["one","other","known","score","end","ends"] ["one","other"] (az fH):=⟨rfl,rfl,rfl,by decide +kernel,rfl,by decide +kernel,by decide +kernel⟩
theorem sx:aN ["one","other"] ["one","other"] (az fI):=⟨rfl,rfl,rfl,by decide +kernel,rfl,by decide +kernel,by decide +kernel⟩
theorem dG:aN ["one","other","known","found","end","ends","sides"] ["one","other"] (az g9):=⟨rfl,rfl,rfl,by decide +kernel,rfl,by decide +kernel,by decide +kernel⟩
theorem lG:aN ["lacks","kinds"] ["lacks"] (az hG):=⟨rfl,rfl,rfl,by decide +kernel,rfl,by decide +kernel,by decide +kernel⟩
theorem dY:aN ["work","other","known","apart","low","high","behind"] ["work","other","known"] (az gy):=⟨rfl,rfl,rfl,by decide +kernel,rfl,by decide +kernel,by decide +kernel⟩
theorem mT:aN ["found","size","mate"] ["found","size"] (az iY):=⟨rfl,rfl,rfl,by decide +kernel,rfl,by decide +kernel,by decide +kernel⟩
theorem dO:aN ["script","most","one","other","found","known","k","apart","work","lacks","due","kind","lack","kept"] ["script"] (az AE):=⟨rfl,rfl,rfl,by decide +kernel,rfl,by decide +kernel,by decide +kernel⟩
structure Bl (mg:Str->Option Value):Prop where
 «all»:mg "all" = none
 «bool»:mg "bool" = none
 «enumerate»:mg "enumerate" = none
 «int»:mg "int" = none
 «isinstance»:mg "isinstance" = none
 «len»:mg "len" = none
 «list»:mg "list" = none
 «max»:mg "max" = none
 «min»:mg "min" = none
 «range»:mg "range" = none
 «sorted»:mg "sorted" = none
 «tuple»:mg "tuple" = none
section
variable {P:Program}{w:World}{K:HS}{mg:Str->Option Value}{base:Heap}
theorem sA {f:Addr}{fd:FuncData}(B:Bl mg)(F:Fn K mg "staves_in" fu ["work"] f fd):aS P w K mg base CX0 1 f fd ["work"] (ua K):=by
 refine F.fn.ok so (fun vs H Q E h=>?_) (fun cdv A outer s H vs Q E hr h=>?_)
 ·obtain⟨a,n,ms,rfl,_⟩:=h
  rfl
 ·obtain⟨a,n,ms,rfl,hS,W,q⟩:=h;refine⟨_,aj (aQ (bt gc (aF aB rfl B.len bh (ae (pv 0) af)) aC)),?_⟩;refine⟨_,rfl,a,_,rfl,.inr hS,_,_,rfl,rfl,⟨by decide,by decide⟩,?_⟩;have e:(((nV ms).length:Nat):Int)/2=n:=by rw[aI,W.len];omega
  show Q (.int ((((nV ms).length:Nat):Int)/2)) H;rw[e];exact q
end
section
variable {P:Program}{w:World}{K:HS}{mg:Str->Option Value}{base:Heap}
theorem mH {f CU:Addr}{fd:FuncData}(B:Bl mg)(Z:vC K mg "Unlike" CU)(F:Fn K mg "refuse_unlike" cY ["one","other"] f fd):aS P w K mg base (CXo P w) 1 f fd ["one","other"] (uo K CU):=by
 refine F.fn.vE mF (fun vs H Q E h=>?_) (fun cdv A outer s H vs Q E hr h own=>?_)
 ·obtain⟨a,b,n,m,ms,os,rfl,_⟩:=h
  rfl
 ·obtain⟨a,b,n,m,ms,os,rfl,hS,W,hO,hm,kg,kb⟩:=h;refine⟨_,aj (bM (aJ ja (aF aB rfl B.len bh (ae (pv 0) af)) (aF aB rfl B.len bh (ae (pv 1) af)) (aO _)) (aj (t8 rfl Z (ae d7 af))) a7),?_⟩;refine⟨_,rfl,a,_,rfl,.inr hS,_,rfl,b,_,rfl,.inr hO,rfl,_,rfl,?_⟩;rw[aI,aI,W.len,hm];by_cases c:n=m
  ·subst c;exact xa rfl (kg rfl)
  ·refine d8 (fun _=>⟨by show 1<=sizeLine;decide,kb c⟩) (fun z=>absurd ?_ z);simp;omega
end
section
variable {P:Program}{w:World}{K:HS}{mg:Str->Option Value}{base:Heap}
theorem pM {f:Addr}{fd:FuncData}(B:Bl mg)(F:Fn K mg "loose_ends" dD ["work"] f fd):aS P w K mg base CX0 1 f fd ["work"] (xi K):=by
 refine F.fn.ok pJ (fun vs H Q E h=>?_) (fun cdv A outer s H vs Q E hr h=>?_)
 ·obtain⟨a,n,ms,rfl,_⟩:=h
  rfl
 ·obtain⟨a,n,ms,rfl,hS,W,k⟩:=h;have nd2:(["end","mate"]:List Str).Nodup:=by decide +kernel
  refine⟨_,aj (aQ (gh (NC:=["end","mate"]) rfl (nz rfl (by decide +kernel) (by decide +kernel)) (tV rfl B.enumerate (ae (pv 0) af))
   (fun _ _ _ _=>rj (K:=K) (n:=2) rfl rfl (bH (aL (i:=0) nd2 rfl (Or.inl rfl)) (bH (aL (i:=1) nd2 rfl (Or.inl rfl)) gb))) (fun _ _ _ _=>jE (aJ eC (pv 0) (pv 1) (aO _))) (fun _ _ _ _=>pv 0))),?_⟩
  refine⟨_,rfl,a,rfl,⟨_,hS⟩,fun D hD=>?_⟩;refine yi (K:=K) (a:=a) (xs:=nV ms) (fun i σ H2=>∃ v0 v1:Option V,σ=[v0,v1]/\aG H H2/\H2 D=some (.lst (nV ((Ig i).filter fun e=>e == at0 ms e))))
   ⟨none,none,rfl,aA hD,ah⟩ (fun i σ H2 _ ⟨_,_,_,s2,_⟩=>s2.tup hS) ?_ ?_
  ·rintro i x t σ H2 hx ⟨v0,v1,rfl,s2,hD2⟩ ht;obtain⟨m,hm,rfl⟩:=df hx;have hi:i<2*n:=by have z:=(HR.mp hm).1;rw[W.len] at z;exact z
   have em:m=at0 ms i:=by have z:=dZ (ms:=ms) (e:=i) (by rw[W.len];exact hi);rw[hm] at z;exact Option.some.inj z
   have nDt:D≠t:=aM hD2 ht;refine⟨t,_,rfl,SqT.of ah,rfl,_,_,rfl,_,_,rfl,rfl,?_⟩;refine⟨_,rfl,_,rfl,rfl,_,rfl,?_⟩;refine d8 (fun h1=>?_) (fun h1=>?_)
   ·have h1:=of_decide_eq_true h1;injection h1 with h1;refine⟨_,rfl,_,by rw[aE nDt];exact hD2,bx ?_,_,_,rfl,(s2.upd (s2.free ht)).upd hD,?_⟩
    ·rw[aI];have z:=IP (fun e=>e == at0 ms e) (Ig i);rw[Ij] at z;have:=W.small;omega
    ·have e:(i == at0 ms i)=true:=by rw[beq_iff_eq,<- em];omega
     rw[ah,JN,IE,IH (by exact e),JJ,iT]
   ·refine⟨_,_,rfl,s2.upd (s2.free ht),?_⟩;have e:¬ (i == at0 ms i)=true:=fun z=>h1 (decide_eq_true (by rw[beq_iff_eq,<- em] at z;rw[z]))
    rw[aE nDt,hD2,JN,IE,II (by exact e),JJ,Iy]
  ·rintro σ H2 ⟨v0,v1,rfl,s2,hD2⟩;rw[aI,W.len] at hD2;exact k D H2 hD s2 hD2
end
section
variable {P:Program}{w:World}{K:HS}{mg:Str->Option Value}{base:Heap}
theorem lI {f:Addr}{fd:FuncData}(B:Bl mg)(F:Fn K mg "fits_work" du ["work","deed"] f fd):aS P w K mg base CX0 1 f fd ["work","deed"] (vR K):=by
 refine F.fn.ok iZ (fun vs H Q E h=>?_) (fun cdv A outer s H vs Q E hr h=>?_)
 ·obtain⟨a,d,n,ms,p,q,rfl,_⟩:=h
  rfl
 ·obtain⟨a,d,n,ms,p,q,rfl,hS,W,hD,k⟩:=h;refine⟨_,ag (aK (i:=2) iZ.nd rfl (Or.inl rfl) (bB eK (pv 1) aC (fun _ _=>rfl)))
   (ag (aK (i:=3) iZ.nd rfl (Or.inl rfl) (bB eK (pv 1) aC (fun _ _=>rfl)))
   (ag (bM (jg (yn BX BX nN aC (pv 2) (pv 3) (aF aB rfl B.len bh (ae (pv 0) af)))) (aj (aQ fX)) a7)
   (aj (aQ (kK ja (bB eK (pv 0) (pv 2) (fun _ _=>rfl)) (pv 3) (aO _)))))),?_⟩
  refine⟨_,rfl,d,_,_,_,rfl,rfl,hD,rfl,?_⟩;refine⟨_,rfl,d,_,_,_,rfl,rfl,hD,rfl,?_⟩;have no:¬ Mir.Fits n ms p q->Q (.bl false) H:=fun z=>by rw[decide_eq_false z] at k;exact k
  refine⟨_,rfl,_,_,rfl,rfl,_,rfl,d8 (fun h1=>?_) (fun h1=>?_)⟩
  ·have h1:0<=p:=of_decide_eq_true h1;refine⟨_,rfl,_,_,rfl,rfl,_,rfl,d8 (fun h2=>?_) (fun h2=>?_)⟩
   ·have h2:p<=q:=of_decide_eq_true h2;refine⟨_,rfl,a,_,rfl,.inr hS,_,_,rfl,rfl,_,rfl,d8 (fun h3=>?_) (fun h3=>?_)⟩
    ·have h3:¬ q<((nV ms).length:Nat):=by simpa using h3
     rw[aI,W.len] at h3;exact no fun z=>h3 (by have:=z.2.2.1;omega)
    ·have h3:q<((nV ms).length:Nat):=by simpa using h3
     rw[aI,W.len] at h3;have hx:p=((p.toNat:Nat):Int):=by omega
     have hix:=W.ix (e:=p.toNat) (by omega);rw[<- hx] at hix;refine⟨_,rfl,_,rfl,a,_,_,_,rfl,rfl,hS,hix,_,rfl,rfl,?_⟩;have e:decide (Mir.Fits n ms p q)=!decide (V.int ((at0 ms p.toNat:Nat):Int)=V.int q):=by
      by_cases c:((at0 ms p.toNat:Nat):Int)=q
      ·rw[decide_eq_false (fun z:Mir.Fits n ms p q=>z.2.2.2 c),decide_eq_true (congrArg V.int c)];rfl
      ·rw[decide_eq_true (show Mir.Fits n ms p q from ⟨h1,h2,by omega,c⟩),decide_eq_false (fun z=>c (by injection z))];rfl
     rw[e] at k;exact k
   ·have h2:¬ p<=q:=fun z=>h2 (decide_eq_true z)
    exact⟨_,rfl,tI (no fun z=>h2 z.2.1)⟩
  ·have h1:¬ 0<=p:=fun z=>h1 (decide_eq_true z)
   exact⟨_,rfl,tI (no fun z=>h1 z.1)⟩
end
section
variable {P:Program}{w:World}{K:HS}{mg:Str->Option Value}{base:Heap}
theorem mI {f fF C:Addr}{fd fdF:FuncData}(B:Bl mg)(Z:vC K mg "BadDeed" C)(F:Fn K mg "refuse_misfit" cZ ["work","deed"] f fd)(FF:Fn K mg "fits_work" du ["work","deed"] fF fdF):aS P w K mg base (CXo P w) 2 f fd ["work","deed"] (um K C):=by
 have GF:aS P w K mg base CX0 1 fF fdF ["work","deed"] (vR K):=lI B FF;refine F.fn.vE mG (fun vs H Q E h=>?_) (fun cdv A outer s H vs Q E hr h own=>?_)
 ·obtain⟨a,d,n,ms,p,q,rfl,_⟩:=h
  rfl
 ·obtain⟨a,d,n,ms,p,q,rfl,hS,W,hD,sp,sq,kg,kb⟩:=h;refine⟨_,aj (bM (jg (jf (a8 GF FF hr (ae (pv 0) (ae (pv 1) af))))) (aj (t8 rfl Z (ae (EO (zC (C8 hr.gd (hr.lt 2 (by decide)) (pv 1) (zC C6))) (by decide)) af))) a7),?_⟩;refine⟨_,rfl,_,rfl,a,d,n,ms,p,q,rfl,hS,W,SqT.of hD,_,rfl,?_⟩;by_cases c:Mir.Fits n ms p q
  ·rw[decide_eq_true c];exact kP (kg c)
  ·rw[decide_eq_false c];refine tI ⟨⟨_,rfl,rfl,⟨d,[p,q],rfl,hD,by show 2<=100;decide,fun m hm=>?_⟩,trivial⟩,fun x=>⟨by show 1<=sizeLine;decide,kb c⟩⟩;rcases IA.mp hm with rfl | hm
   ·exact sp.log
   ·rw[Ih.mp hm];exact sq.log
end
section
variable {P:Program}{w:World}{K:HS}{mg:Str->Option Value}{base:Heap}
theorem jX {f:Addr}{fd:FuncData}(F:Fn K mg "freed_ends" cS ["work","deed"] f fd):aS P w K mg base CX0 1 f fd ["work","deed"] (oD K):=by
 refine F.fn.ok pK (fun vs H Q E h=>?_) (fun cdv A outer s H vs Q E hr h=>?_)
 ·obtain⟨a,d,n,ms,p,q,rfl,_⟩:=h
  rfl
 ·obtain⟨a,d,n,ms,p,q,rfl,hS,W,hD,hp,hq,k⟩:=h;have nd2:(["end","work"]:List Str).Nodup:=by decide +kernel
  refine⟨_,aj (aQ (gh (NC:=["end","work"]) rfl (iS (c:=s.heap.objs.size+1) (j:=0) rfl (by decide +kernel) (by decide +kernel) rfl rfl rfl rfl rfl) (qP (pv 1))
   (fun _ _ _ _=>aL (i:=0) nd2 rfl (Or.inl rfl)) (fun _ _ _ _=>jE (aJ ja (bB (nD (K:=K) rfl) (pv 1) (pv 0) (fun _ _=>rfl)) (pv 0) (aO _))) (fun _ _ _ _=>bB (nD (K:=K) rfl) (pv 1) (pv 0) (fun _ _=>rfl)))),?_⟩
  refine⟨_,rfl,d,rfl,⟨_,hD⟩,fun D hDn=>?_⟩;refine tW (K:=K) (a:=d) (xs:=nV [p,q]) (fun i σ H2=>∃ v0:Option V,σ=[v0,some (.ref a)]/\aG H H2/\H2 D=some (.lst (nV ((([p,q].take i).filter fun e=>!decide (at0 ms e=e)).map (at0 ms)))))
   ⟨none,rfl,aA hDn,ah⟩ (fun i σ H2 _ ⟨_,_,s2,_⟩=>s2.tup hD) ?_ ?_
  ·rintro i x σ H2 hx ⟨v0,rfl,s2,h2⟩;obtain⟨e,he,rfl⟩:=df hx;have hi:i<2:=(HR.mp he).1;have he2:e<2*n:=by
    rcases IA.mp (Ib he) with rfl | z
    ·exact hp
    ·rw[Ih.mp z];exact hq
   have hlen:((([p,q].take i).filter fun e=>!decide (at0 ms e=e)).map (at0 ms)).length<=2:=by
    rw[HQ];refine Jk (IP _ _) ?_;rw[Iw];exact Nat.min_le_right _ _
   refine⟨_,rfl,_,rfl,a,_,_,_,rfl,rfl,s2.tup hS,W.ix he2,_,rfl,rfl,_,rfl,?_⟩;rw[Mir.take_snoc he,IE,IS];refine d8 (fun h1=>?_) (fun h1=>?_)
   ·have h1:at0 ms e≠e:=fun z=>by rw[z] at h1;simp at h1
    refine⟨_,rfl,_,rfl,a,_,_,_,rfl,rfl,s2.tup hS,W.ix he2,_,h2,bx (by rw[aI];omega),_,rfl,s2.upd hDn,?_⟩;rw[ah];simp[h1,nV]
   ·have h1:at0 ms e=e:=by
     by_cases z:at0 ms e=e
     ·exact z
     ·exact absurd (by simp;omega) h1
    refine⟨_,rfl,s2,?_⟩;rw[h2];simp[h1]
  ·rintro σ H2 ⟨v0,rfl,s2,h2⟩;exact k D H2 hDn s2 h2
theorem pN {f:Addr}{fd:FuncData}(F:Fn K mg "clasp_ends" eO ["mates","one","other"] f fd):aS P w K mg base CX0 1 f fd ["mates","one","other"] oE:=by
 refine F.fn.ok pL (fun vs H Q E h=>?_) (fun cdv A outer s H vs Q E hr h=>?_)
 ·obtain⟨l,ms,p,q,rfl,_⟩:=h
  rfl
 ·obtain⟨l,ms,p,q,rfl,hl,hp,hq,k⟩:=h;refine⟨_,ag (eV (pv 2) (fP (pv 0) (pv 1) set_list)) (aj (eV (pv 1) (fP (pv 0) (pv 2) set_list))),?_⟩;refine⟨_,rfl,_,rfl,_,rfl,l,_,_,_,rfl,rfl,hl,fS (Jn _) (by rw[aI];omega),?_⟩;rw[Iz,fU];refine⟨_,rfl,_,rfl,_,rfl,l,_,_,_,rfl,rfl,ah,fS (Jn _) (by rw[aI,IM];omega),?_⟩;rw[Iz,fU];exact k _ ah fun b hb=>by rw[aE hb,aE hb]
end
section
variable {P:Program}{w:World}{K:HS}{mg:Str->Option Value}{base:Heap}
theorem iL {f:Addr}{fd:FuncData}(B:Bl mg)(F:Fn K mg "walked_thread" b9 ["start","first","second"] f fd):aS P w K mg base CX0 1 f fd ["start","first","second"] (rD K):=by
 refine F.fn.ok dE (fun vs H Q E h=>?_) (fun cdv A outer s H vs Q E hr h=>?_)
 ·obtain⟨a,b,n,ms,os,st,rfl,_⟩:=h
  rfl
 ·obtain⟨a,b,n,ms,os,st,rfl,hS,W,hO,WO,hst,hok,k⟩:=h;have T:=aW W WO;have hsm:=W.small;refine⟨_,(ag (aK (i:=3) dE.nd rfl (Or.inl rfl) (gI (ae (pv 0) af)))
   (ag (aK (i:=4) dE.nd rfl (Or.inl rfl) (bB eK (pv 1) (pv 0) (fun _ _=>rfl)))
   (ag (nK PassesOwn.never (zF (R:=fun σ H Q=>∃ (l:Addr) (ys:List V) (x y s:Nat),σ[4]?=some (some (.int x))/\σ[3]?=some (some (.ref l))/\H l=some (.lst ys)/\atI ys (-1)=some (.int y)/\σ[0]?=some (some (.int s))/\Q (decide (x≠y/\x≠s)) H) fun σ H Q hR=>?tst) (ag (bf (eL IF Jc Jd bU (pv 3) (ae (pv 4) af)))
   (aj (aK (i:=4) dE.nd rfl (Or.inl rfl) (yZ (aJ eC (bt fQ (aF aB rfl B.len bh (ae (pv 3) af)) aC) aC (aO _)) (bB eK (pv 2) (pv 4) (fun _ _=>rfl)) (bB eK (pv 1) (pv 4) (fun _ _=>rfl)))))))
   (aj (aQ (bg bK rfl B.tuple dQ (ae (pv 3) af))))))),?_⟩
  case tst =>
   obtain⟨l,ys,x,y,st,e4,e3,hl,hy,e0,q⟩:=hR;refine⟨_,PW.pt (iN (aJ ja (pv 4) (bB bN (pv 3) (wR qQ aC) (fun _ _=>rfl)) (aO _)) (fZ (aJ ja (pv 4) (pv 0) (aO _)))),?_⟩;refine⟨_,e4,_,e3,_,rfl,l,_,_,_,rfl,rfl,SqL.of hl,hy,rfl,_,rfl,?_⟩;by_cases c1:x=y
   ·rw[decide_eq_false (fun z=>z.1 c1)] at q;have e:(!decide (V.int (x:Nat)=V.int (y:Nat)))=false:=by rw[decide_eq_true (by rw[c1])];rfl
    rw[e];exact q
   ·have e:(!decide (V.int (x:Nat)=V.int (y:Nat)))=true:=by rw[decide_eq_false (fun z=>c1 (by injection z with z;omega))];rfl
    rw[e];refine⟨_,e4,_,e0,rfl,_,rfl,?_⟩;by_cases c2:x=st
    ·rw[decide_eq_false (fun z=>z.2 c2)] at q;have e:(!decide (V.int (x:Nat)=V.int (st:Nat)))=false:=by rw[decide_eq_true (by rw[c2])];rfl
     exact(congrArg (fun b=>Q b H) e).mpr q
    ·rw[decide_eq_true ⟨c1,c2⟩] at q;have e:(!decide (V.int (x:Nat)=V.int (st:Nat)))=true:=by rw[decide_eq_false (fun z=>c2 (by injection z with z;omega))];rfl
     exact(congrArg (fun b=>Q b H) e).mpr q
  refine⟨_,rfl,by show 1<=sizeLine;decide,fun l hl=>?_⟩;have s0:aG H (upd H l (.lst [.int st])):=aA hl;refine⟨_,rfl,_,rfl,a,_,_,_,rfl,rfl,s0.tup hS,W.ix hst,?_⟩;dsimp only[pV];unfold AM;dsimp only;refine sZ (fun σ H2=>∃ m:Nat,σ=[some (.int st),some (.ref a),some (.ref b),some (.ref l),some (.int (wlk (at0 ms) (at0 os) st (m+1):Nat))]/\aG H H2/\H2 l=some (.lst (nV (dJ (at0 ms) (at0 os) st (m+1))))/\Th.Goes (at0 ms) (at0 os) st m)
   (fun σ H2=>match H2 l with | some (.lst ys)=>2*n+1-ys.length | _=>0)
   ⟨0,rfl,s0,ah,⟨fun i hi=>absurd hi (JV _),by rcases hok with z | z;exact .inl z;exact .inr fun j h1 h2=>by omega⟩⟩ ?_ ?_
  ·rintro σ H2 ⟨m,rfl,s2,hl2,G⟩;have hm:=nC T hst G;have hlt:=Th.iO T hst (m+1);have ju:atI (nV (dJ (at0 ms) (at0 os) st (m+1))) (-1)=some (.int (wlk (at0 ms) (at0 os) st m:Nat)):=jI (by rw[jF,List.getLast?_append];rfl);refine⟨l,_,_,_,st,rfl,rfl,hl2,ju,rfl,?_⟩;refine d8 (fun h1=>?_) (fun h1=>?_)
   ·obtain⟨c1,c2⟩:=of_decide_eq_true h1;have G2:Th.Goes (at0 ms) (at0 os) st (m+1):=⟨fun i hi=>by
     by_cases c:i=m
     ·subst c;exact c1
     ·exact G.mv i (by omega),by
     rcases G.rt with z | z
     ·exact .inl z
     ·refine .inr fun j h2 h3=>?_
      by_cases c:j=m+1
      ·subst c;exact c2
      ·exact z j h2 (by omega)⟩
    have hm2:=nC T hst G2;have hll:(nV (dJ (at0 ms) (at0 os) st (m+1))).length=m+1:=by rw[aI,cv]
    refine⟨_,rfl,.inl ⟨rfl,_,SqL.of hl2⟩,_,rfl,l,_,_,rfl,rfl,hl2,bx (by rw[hll];omega),?_⟩;have s3:aG H (upd H2 l (.lst (nV (dJ (at0 ms) (at0 os) st (m+1))++[.int (wlk (at0 ms) (at0 os) st (m+1):Nat)]))):=s2.upd hl;have hl3:upd H2 l (.lst (nV (dJ (at0 ms) (at0 os) st (m+1))++[.int (wlk (at0 ms) (at0 os) st (m+1):Nat)])) l=some (.lst (nV (dJ (at0 ms) (at0 os) st (m+2)))):=by rw[ah,jF (m+1),iT]
    generalize upd H2 l (.lst (nV (dJ (at0 ms) (at0 os) st (m+1))++[.int (wlk (at0 ms) (at0 os) st (m+1):Nat)]))=H3 at s3 hl3 ⊢;have Fc:(match H3 l with | some (.lst ys)=>2*n+1-ys.length | _=>0)<(match H2 l with | some (.lst ys)=>2*n+1-ys.length | _=>0):=by
     rw[hl3,hl2];show 2*n+1-(nV (dJ (at0 ms) (at0 os) st (m+2))).length<2*n+1-(nV (dJ (at0 ms) (at0 os) st (m+1))).length;rw[aI,aI,cv,cv];omega
    have Fd:((nV (dJ (at0 ms) (at0 os) st (m+2))).length:Int)=m+2:=by rw[aI,cv];omega
    refine⟨_,rfl,l,_,rfl,.inl (SqL.of hl3),_,_,rfl,rfl,(by show (0:Int)<2;decide),rfl,_,rfl,?_⟩;refine d8 (fun h2=>?_) (fun h2=>?_)
    ·have p:m%2=0:=by
      have z:=of_decide_eq_true h2;injection z with z;rw[Fd] at z;omega
     have e:at0 os (wlk (at0 ms) (at0 os) st (m+1))=wlk (at0 ms) (at0 os) st (m+2):=by
      show _=stp _ _ (m+1) _;unfold stp;rw[if_neg (by omega)]
     refine⟨_,rfl,_,rfl,b,_,_,_,rfl,rfl,s3.tup hO,WO.ix hlt,?_⟩;exact⟨⟨m+1,(by show _=[_,_,_,_,some (V.int (wlk (at0 ms) (at0 os) st (m+2):Nat))];rw[<- e];rfl),s3,hl3,G2⟩,Fc⟩
    ·have p:m%2=1:=by
      refine Ia fun z=>h2 (decide_eq_true ?_)
      show V.int (((nV (dJ (at0 ms) (at0 os) st (m+2))).length:Int)%2)=V.int 0;rw[Fd];have z2:((m:Int)+2)%2=0:=by omega
      rw[z2]
     have e:at0 ms (wlk (at0 ms) (at0 os) st (m+1))=wlk (at0 ms) (at0 os) st (m+2):=by
      show _=stp _ _ (m+1) _;unfold stp;rw[if_pos (by omega)]
     refine⟨_,rfl,_,rfl,a,_,_,_,rfl,rfl,s3.tup hS,W.ix hlt,?_⟩;exact⟨⟨m+1,(by show _=[_,_,_,_,some (V.int (wlk (at0 ms) (at0 os) st (m+2):Nat))];rw[<- e];rfl),s3,hl3,G2⟩,Fc⟩
   ·have hc:wlk (at0 ms) (at0 os) st (m+1)=wlk (at0 ms) (at0 os) st m\/wlk (at0 ms) (at0 os) st (m+1)=st:=by
     refine Ia fun z=>h1 (decide_eq_true ⟨fun e=>z (.inl e),fun e=>z (.inr e)⟩)
    have ht:=Th.iQ T hst ⟨G,hc,hok⟩;exact⟨_,rfl,l,_,rfl,.inl hl2,fun t H3 s3 h3=>k t H3 (s2.trans s3) (by rw[h3,ht])⟩
  ·rintro σ H2 R R' hR ⟨l,ys,x,y,s,e1,e2,e3,e4,e5,q⟩;exact⟨l,ys,x,y,s,e1,e2,e3,e4,e5,hR _ _ q⟩
end
section
variable {P:Program}{w:World}{K:HS}{mg:Str->Option Value}{base:Heap}
theorem nh {f f1 f2:Addr}{fd fd1 fd2:FuncData}(B:Bl mg)(F:Fn K mg "open_threads" dv ["one","other"] f fd)(cV:Fn K mg "loose_ends" dD ["work"] f1 fd1)(bq:Fn K mg "walked_thread" b9 ["start","first","second"] f2 fd2):aS P w K mg base CX0 2 f fd ["one","other"] (zO K):=by
 have lJ:aS P w K mg base CX0 1 f1 fd1 ["work"] (xi K):=pM B cV;have d0:aS P w K mg base CX0 1 f2 fd2 ["start","first","second"] (rD K):=iL B bq;refine F.fn.ok cf (fun vs H Q E h=>?_) (fun cdv A outer s H vs Q E hr h=>?_)
 ·obtain⟨a,b,n,ms,os,rfl,_⟩:=h
  rfl
 ·obtain⟨a,b,n,ms,os,rfl,hS,W,hO,WO,k⟩:=h;have T:=aW W WO;have hsm:=W.small;refine⟨_,(ag (aK (i:=2) cf.nd rfl (Or.inl rfl) (gI af))
   (ag (b6 PassesOwn.never rfl (bJ (a8 lJ cV (hr.mono (by decide)) (ae (pv 0) af))) (aL (i:=3) cf.nd rfl (Or.inl rfl)) (ag (aK (i:=4) cf.nd rfl (Or.inl rfl) (a8 d0 bq (hr.mono (by decide)) (ae (pv 3) (ae (pv 1) (ae (pv 0) af)))))
   (aj (bM (aJ eC (bt fQ (aF aB rfl B.len bh (ae (pv 4) af)) aC) aC (aO _)) (aj (bf (eL IF Jc Jd bU (pv 2) (ae (eJ (ae d7 (ae (pv 4) af))) af)))) (aj (bM (aJ nN (pv 3) (bB eK (pv 4) (wR qQ aC) (fun _ _=>rfl)) (aO _)) (aj (bf (eL IF Jc Jd bU (pv 2) (ae (eJ (ae d7 (ae (pv 4) af))) af)))) a7))))))
   (ag (b6 PassesOwn.never rfl (bJ (a8 lJ cV (hr.mono (by decide)) (ae (pv 1) af))) (aL (i:=3) cf.nd rfl (Or.inl rfl)) (ag (aK (i:=4) cf.nd rfl (Or.inl rfl) (a8 d0 bq (hr.mono (by decide)) (ae (pv 3) (ae (pv 0) (ae (pv 1) af)))))
   (aj (bM (PW.pt (iN (aJ eC (bt fQ (aF aB rfl B.len bh (ae (pv 4) af)) aC) aC (aO _)) (fZ (aJ nN (pv 3) (bB eK (pv 4) (wR qQ aC) (fun _ _=>rfl)) (aO _))))) (aj (bf (eL IF Jc Jd bU (pv 2) (ae (eJ (ae d7 (ae (pv 4) af))) af)))) a7))))
   (aj (aQ (pv 2)))))),?_⟩
  refine⟨by show 0<=sizeLine;decide,fun l hl=>?_⟩;have s0:aG H (upd H l (.lst [])):=aA hl;refine⟨_,rfl,a,n,ms,rfl,s0.tup hS,W,fun la H1 hla s1 DP=>?_⟩;have s01:=s0.trans s1;have hl1:H1 l=some (.lst []):=s1 _ _ ah;rw[uq] at DP;have AF:∀ M:Nat->Nat,(lsL (2*n) M).length<=80:=fun M=>by
   unfold lsL;have z:=IP (fun e=>e == M e) (Ig (2*n));rw[Ij] at z;omega
  have nla:l≠la:=aM ah hla;have nvl:∀ xs:List Nat,(nV xs).length=xs.length:=aI;refine⟨la,rfl,⟨_,SqL.of DP⟩,cJ (K:=K) (a:=la) (xs:=nV (lsL (2*n) (at0 ms))) (fun i σ H2=>∃ v3 v4:Option V,σ=[some (.ref a),some (.ref b),some (.ref l),v3,v4]/\aG H H2/\H2 la=some (.lst (nV (lsL (2*n) (at0 ms))))/\ThT H2 l (gZ (2*n) (at0 ms) (at0 os) ((lsL (2*n) (at0 ms)).take i)))
   ⟨none,none,rfl,s01,DP,ThT.nil hl1⟩ (fun i σ H2 _ ⟨_,_,_,_,h2,_⟩=>SqL.of h2) ?_ ?_⟩
  ·rintro i y σ H2 hy ⟨v3,v4,rfl,s2,Fe,hT⟩;obtain⟨u,hu,rfl⟩:=df hy;have hil:=(HR.mp hu).1;obtain⟨ul,au⟩:=cL.mp (Ib hu);refine⟨_,rfl,_,rfl,_,rfl,b,a,n,os,ms,u,rfl,s2.tup hO,WO,s2.tup hS,W,ul,.inl au,fun e H3 s3 he=>?_⟩;have s23:=s2.trans s3;have hTL:=kY T.swap ul (.inl au);have hT3:=hT.same s3;have Ff:=s3 _ _ Fe;have hll:((nV (thr (at0 os) (at0 ms) u)).length:Int)=(thr (at0 os) (at0 ms) u).length:=by rw[nvl]
   have hoA:=lZ (N:=2*n) (a:=at0 ms) (b:=at0 os) ((lsL (2*n) (at0 ms)).take i);rw[Iw] at hoA;have l80:=AF (at0 ms);have add:∀ (kd:Kd) (D:Hp->Prop),pA (at0 ms) (at0 os) u->eA (at0 ms) (at0 os) u=(kd,thr (at0 os) (at0 ms) u)->∀ tp,H3 tp=none ->
     (∃ xs,upd H3 tp (.tup [.str (ks kd),.ref e]) l=some (.lst xs)/\xs.length<sizeLine/\ThT (upd (upd H3 tp (.tup [.str (ks kd),.ref e])) l (.lst (xs++[.ref tp]))) l (gZ (2*n) (at0 ms) (at0 os) ((lsL (2*n) (at0 ms)).take (i+1))) /\
      aG H (upd (upd H3 tp (.tup [.str (ks kd),.ref e])) l (.lst (xs++[.ref tp])))/\upd (upd H3 tp (.tup [.str (ks kd),.ref e])) l (.lst (xs++[.ref tp])) la=some (.lst (nV (lsL (2*n) (at0 ms))))):=fun kd D hp hE tp htp=>by
    have s4:aG H3 (upd H3 tp (.tup [.str (ks kd),.ref e])):=aA htp;obtain⟨xs,x1,x2,x3⟩:=(hT3.same s4).snoc (t:=tp) (e:=e) (k:=kd) ah (s4 _ _ he);refine⟨xs,x1,bx (by rw[x2];omega),?_,(s23.trans s4).upd hl,?_⟩
    ·rw[Mir.take_snoc hu,nY,if_pos hp,hE];exact x3
    ·rw[aE (Ne.symm nla)];exact s4 _ _ Ff
   refine⟨_,rfl,e,_,rfl,.inr (SqT.of he),_,_,rfl,rfl,(by show (0:Int)<2;decide),rfl,_,rfl,?_⟩;refine d8 (fun h1=>?_) (fun h1=>?_)
   ·have o:(thr (at0 os) (at0 ms) u).length%2=1:=by
     have z:=of_decide_eq_true h1;injection z with z;rw[hll] at z;omega
    obtain⟨vs,w1,_⟩:=hT3.len;refine⟨_,rfl,.inl ⟨rfl,_,SqL.of w1⟩,_,rfl,by show 2<=sizeLine;decide,fun tp htp=>?_⟩;obtain⟨xs,x1,x2,x3,x4,x5⟩:=add .odd (fun _=>True) (.inl o) (by unfold eA;rw[if_pos o]) tp htp;exact⟨l,_,_,rfl,rfl,x1,x2,_,_,rfl,x4,x5,x3⟩
   ·have o:¬ (thr (at0 os) (at0 ms) u).length%2=1:=fun z=>h1 (decide_eq_true (by
     show V.int (((nV (thr (at0 os) (at0 ms) u)).length:Int)%2)=V.int 1;rw[hll];have z2:((thr (at0 os) (at0 ms) u).length:Int)%2=1:=by omega
     rw[z2]))
    have ju:atI (nV (thr (at0 os) (at0 ms) u)) (-1)=some (.int (bC (thr (at0 os) (at0 ms) u):Nat)):=jI (n0 hTL.1);refine⟨_,rfl,_,rfl,_,rfl,e,_,_,_,rfl,rfl,SqT.of he,ju,_,_,rfl,rfl,_,rfl,?_⟩;refine d8 (fun h2=>?_) (fun h2=>?_)
    ·have h2:=of_decide_eq_true h2;obtain⟨vs,w1,_⟩:=hT3.len;refine⟨_,rfl,.inl ⟨rfl,_,SqL.of w1⟩,_,rfl,by show 2<=sizeLine;decide,fun tp htp=>?_⟩;obtain⟨xs,x1,x2,x3,x4,x5⟩:=add .bare (fun _=>True) (.inr (by omega)) (by unfold eA;rw[if_neg o]) tp htp;exact⟨l,_,_,rfl,rfl,x1,x2,_,_,rfl,x4,x5,x3⟩
    ·have h2:¬ pA (at0 ms) (at0 os) u:=fun z=>by
      rcases z with z | z
      ·exact o z
      ·exact h2 (decide_eq_true (by omega))
     refine⟨_,_,rfl,s23,Ff,?_⟩;rw[Mir.take_snoc hu,nY,if_neg h2,Iy];exact hT3
  rintro σ H2 ⟨v3,v4,rfl,s2,Fe,hT⟩;rw[nvl,IV] at hT;refine⟨_,rfl,b,n,os,rfl,s2.tup hO,WO,fun lb H3 hlb s3 DQ=>?_⟩;rw[uq] at DQ;have s03:=s2.trans s3;have hT3:=hT.same s3;obtain⟨vs0,w0,_⟩:=hT.len;have nlb:l≠lb:=aM w0 hlb;refine⟨lb,rfl,⟨_,SqL.of DQ⟩,cJ (K:=K) (a:=lb) (xs:=nV (lsL (2*n) (at0 os))) (fun i σ H4=>∃ v3 v4:Option V,σ=[some (.ref a),some (.ref b),some (.ref l),v3,v4]/\aG H H4/\H4 lb=some (.lst (nV (lsL (2*n) (at0 os))))/\ThT H4 l (gZ (2*n) (at0 ms) (at0 os) (lsL (2*n) (at0 ms))++jb (2*n) (at0 ms) (at0 os) ((lsL (2*n) (at0 os)).take i)))
   ⟨_,_,rfl,s03,DQ,by show ThT H3 l (_++[]);rw[Iy];exact hT3⟩ (fun i σ H4 _ ⟨_,_,_,_,h2,_⟩=>SqL.of h2) ?_ ?_⟩
  ·rintro i y σ H4 hy ⟨v3,v4,rfl,s4,Fg,hT4⟩;obtain⟨u,hu,rfl⟩:=df hy;have hil:=(HR.mp hu).1;obtain⟨ul,au⟩:=cL.mp (Ib hu);refine⟨_,rfl,_,rfl,_,rfl,a,b,n,ms,os,u,rfl,s4.tup hS,W,s4.tup hO,WO,ul,.inl au,fun e H5 s5 he=>?_⟩;have s45:=s4.trans s5;have hTL:=kY T ul (.inl au);have hT5:=hT4.same s5;have DR:=s5 _ _ Fg;have hll:((nV (thr (at0 ms) (at0 os) u)).length:Int)=(thr (at0 ms) (at0 os) u).length:=by rw[nvl]
   have hoA:=lZ (N:=2*n) (a:=at0 ms) (b:=at0 os) (lsL (2*n) (at0 ms));have hoB:=qc (N:=2*n) (a:=at0 ms) (b:=at0 os) ((lsL (2*n) (at0 os)).take i);rw[Iw] at hoB;have l80:=AF (at0 ms);have HH:=AF (at0 os);have skip:¬ Th.pB (at0 ms) (at0 os) u->ThT H5 l (gZ (2*n) (at0 ms) (at0 os) (lsL (2*n) (at0 ms))++jb (2*n) (at0 ms) (at0 os) ((lsL (2*n) (at0 os)).take (i+1))):=fun h2=>by
    rw[Mir.take_snoc hu,nZ,if_neg h2,Iy];exact hT5
   refine⟨_,rfl,e,_,rfl,.inr (SqT.of he),_,_,rfl,rfl,(by show (0:Int)<2;decide),rfl,_,rfl,?_⟩;refine d8 (fun h1=>?_) (fun h1=>?_)
   ·have o:(thr (at0 ms) (at0 os) u).length%2=0:=by
     have z:=of_decide_eq_true h1;injection z with z;rw[hll] at z;omega
    have ju:atI (nV (thr (at0 ms) (at0 os) u)) (-1)=some (.int (bC (thr (at0 ms) (at0 os) u):Nat)):=jI (n0 hTL.1);refine⟨_,rfl,_,rfl,_,rfl,e,_,_,_,rfl,rfl,SqT.of he,ju,_,_,rfl,rfl,_,rfl,?_⟩;refine d8 (fun h2=>?_) (fun h2=>?_)
    ·have h2:=of_decide_eq_true h2;obtain⟨vs,w1,_⟩:=hT5.len;refine⟨_,rfl,.inl ⟨rfl,_,SqL.of w1⟩,_,rfl,by show 2<=sizeLine;decide,fun tp htp=>?_⟩;have s6:aG H5 (upd H5 tp (.tup [.str (ks .tied),.ref e])):=aA htp;obtain⟨xs,x1,x2,x3⟩:=(hT5.same s6).snoc (t:=tp) (e:=e) (k:=.tied) ah (s6 _ _ he);refine⟨l,_,_,rfl,rfl,x1,bx (by rw[x2,HY];omega),_,_,rfl,(s45.trans s6).upd hl,?_,?_⟩
     ·rw[aE (Ne.symm nlb)];exact s6 _ _ DR
     ·rw[Mir.take_snoc hu,nZ,if_pos ⟨o,by omega⟩,<- Ik];exact x3
    ·exact⟨_,_,rfl,s45,DR,skip fun z=>h2 (decide_eq_true (by have:=z.2;omega))⟩
   ·refine kP ⟨_,_,rfl,s45,DR,skip fun z=>h1 (decide_eq_true ?_)⟩;show V.int (((nV (thr (at0 ms) (at0 os) u)).length:Int)%2)=V.int 0;rw[hll];have z2:((thr (at0 ms) (at0 os) u).length:Int)%2=0:=by have:=z.1;omega
    rw[z2]
  ·rintro σ H4 ⟨v3,v4,rfl,s4,Fg,hT4⟩;rw[nvl,IV] at hT4;exact⟨_,rfl,k l H4 hl s4 hT4⟩
end
section
variable {P:Program}{w:World}{K:HS}{mg:Str->Option Value}{base:Heap}
theorem sC {f:Addr}{fd:FuncData}(F:Fn K mg "mark_ends" fz ["seen","ends"] f fd):aS P w K mg base CX0 1 f fd ["seen","ends"] xr:=by
 refine F.fn.ok lF (fun vs H Q E h=>?_) (fun cdv A outer s H vs Q E hr h=>?_)
 ·obtain⟨d,e,kv,L,rfl,_⟩:=h
  rfl
 ·obtain⟨d,c,kv,L,rfl,hd,he,hlen,k⟩:=h;have hu:=kO hr;have ne:c≠d:=fun z=>by rw[z,hd] at he;cases he
  refine⟨_,(aj (b6 PassesOwn.never rfl (qP (pv 1)) (aL (i:=2) lF.nd rfl (Or.inl rfl)) (aj (kM hu (pv 0) (pv 2) fX rfl)))),?_⟩;refine⟨_,rfl,c,rfl,⟨_,SqT.of he⟩,wQ (K:=K) (a:=c) (xs:=nV L) (fun i σ H2=>∃ (v:Option V) (kv2:List (Key×V)),σ=[some (.ref d),some (.ref c),v]/\(∀ b o,b≠d->H b=some o->H2 b=some o)/\H2 d=some (.dK kv2) /\
    kv2.length<=kv.length+i/\∀ j:Nat,(bD kv2 (Sum.inl (j:Int):Key)).isSome=true↔(bD kv (Sum.inl (j:Int):Key)).isSome=true\/j∈L.take i)
   ⟨none,kv,rfl,fun b o _ e=>e,hd,HV _,fun j=>by simp⟩ (fun i σ H2 _ ⟨_,_,_,s2,_⟩=>SqT.of (s2 _ _ ne he)) ?_ ?_⟩
  ·rintro i y σ H2 hy ⟨v,kv2,rfl,s2,hd2,hl2,hk2⟩;obtain⟨x,hx,rfl⟩:=df hy;have hil:i<L.length:=(HR.mp hx).1;refine⟨_,rfl,_,rfl,d,_,rfl,m7.k (k:=Sum.inl (x:Int)) hd2 (JF (show kv2.length<=200000 by omega) (by decide)),?_⟩;refine⟨_,_,rfl,fun b o hb e=>by rw[aE hb];exact s2 b o hb e,ah,?_,fun j=>?_⟩
   ·have z:=eD kv2 (Sum.inl (x:Int):Key) (V.bl true);omega
   ·rw[nP,Mir.take_snoc hx,Ic];by_cases e:(Sum.inl (j:Int):Key)=Sum.inl (x:Int)
    ·rw[if_pos e];have e2:j=x:=by injection e with e;omega
     exact⟨fun _=>.inr (.inr (by simp[e2])),fun _=>rfl⟩
    ·rw[if_neg e,hk2 j];have e2:j≠x:=fun z=>e (by rw[z])
     constructor
     ·rintro(h | h)
      ·exact .inl h
      ·exact .inr (.inl h)
     ·rintro(h | h | h)
      ·exact .inl h
      ·exact .inr h
      ·exact absurd (Ih.mp h) e2
  ·rintro σ H2 ⟨v,kv2,rfl,s2,hd2,hl2,hk2⟩;rw[aI] at hl2 hk2;rw[IV] at hk2;exact k kv2 H2 hd2 s2 hl2 hk2
end
section
variable {P:Program}{w:World}{K:HS}{mg:Str->Option Value}{base:Heap}
theorem sD {f:Addr}{fd:FuncData}(B:Bl mg)(F:Fn K mg "least_end" fA ["thread"] f fd):aS P w K mg base CX0 1 f fd ["thread"] oF:=by
 refine F.fn.ok sr (fun vs H Q E h=>?_) (fun cdv A outer s H vs Q E hr h=>?_)
 ·obtain⟨t,e,kd,L,rfl,_⟩:=h
  rfl
 ·obtain⟨t,e,kd,L,rfl,ht,he,hL,k⟩:=h;refine⟨_,(aj (aQ (aF (rn rfl) rfl B.min q9 (ae (bB eK (pv 0) aC (fun _ _=>rfl)) af)))),?_⟩;have e1:atI [V.str (ks kd),V.ref e] 1=some (.ref e):=rfl;refine⟨_,rfl,t,_,_,_,rfl,rfl,SqT.of ht,e1,e,Mt.up L,rfl,SqT.of (by rw[he,ER];rfl),?_,fun M hM hle=>?_⟩
  ·rw[Mt.C9];exact hL
  ·obtain⟨q1,q2,q3⟩:=Th.xg L (L.headD 0);have hd:L.headD 0∈L:=by
    cases L with
    | nil=>exact absurd hL (JK _)
    | cons z r=>exact Iq
   have hm:mn L∈L:=by
    rcases q3 with z | z
    ·unfold mn;rw[z];exact hd
    ·exact z
   unfold Mt.up at hM hle;obtain⟨x,hx,rfl⟩:=HW.mp hM;have z1:=q2 x hx;have z2:=hle _ (HW.mpr ⟨_,hm,rfl⟩);have z3:x=mn L:=by unfold mn at z2 ⊢;omega
   rw[z3];exact k
end
section
variable {P:Program}{w:World}{K:HS}{mg:Str->Option Value}{base:Heap}
theorem wL {f f1 f2 f3 f4 f5 f6 C:Addr}{fd fd1 fd2 fd3 fd4 fd5 fd6:FuncData}(B:Bl mg)(Z:vC K mg "Unlike" C)(F:Fn K mg "threads" gF ["one","other"] f fd)(d5:Fn K mg "refuse_unlike" cY ["one","other"] f1 fd1)(cV:Fn K mg "loose_ends" dD ["work"] f2 fd2)
  (eS:Fn K mg "open_threads" dv ["one","other"] f3 fd3) (bq:Fn K mg "walked_thread" b9 ["start","first","second"] f4 fd4) (fK:Fn K mg "mark_ends" fz ["seen","ends"] f5 fd5) (hU:Fn K mg "least_end" fA ["thread"] f6 fd6) :
  aS P w K mg base (CXo P w) 4 f fd ["one","other"] (ko K C):=by
 have ni:aS P w K mg base (CXo P w) 1 f1 fd1 ["one","other"] (uo K C):=mH B Z d5;have ph:aS P w K mg base CX0 2 f3 fd3 ["one","other"] (zO K):=nh B eS cV bq;have d0:aS P w K mg base CX0 1 f4 fd4 ["start","first","second"] (rD K):=iL B bq;have mU:aS P w K mg base CX0 1 f5 fd5 ["seen","ends"] xr:=sC fK;have vd:aS P w K mg base CX0 1 f6 fd6 ["thread"] oF:=sD B hU;refine F.fn.vE eu (fun vs H Q E h=>?_) (fun cdv A outer s H vs Q E hr h own=>?_)
 ·obtain⟨a,b,n,m,ms,os,rfl,_,_⟩:=h
  rfl
 ·obtain⟨a,b,n,m,ms,os,rfl,yO,hS,W,hO,hm,kg,kb⟩:=h;have op:=om (E:=E) own;have hu:=kO hr;refine⟨_,(ag (bf (oq ni d5 (hr.mono (by decide)) (ae (pv 0) (ae (pv 1) af))))
   (ag (aK (i:=2) eu.nd rfl (Or.inl rfl) (a8 ph eS (hr.mono (by decide)) (ae (pv 0) (ae (pv 1) af))))
   (ag (aK (i:=3) eu.nd rfl (Or.inl rfl) nR)
   (ag (b6 op rfl (bJ (pv 2)) (j5 rfl (bH (aL (i:=4) eu.nd rfl (Or.inl rfl)) (bH (aL (i:=5) eu.nd rfl (Or.inl rfl)) gb))) (aj (bf (a8 mU fK (hr.mono (by decide)) (ae (pv 3) (ae (pv 5) af))))))
   (ag (b6 op rfl (gA rfl B.range (ae (aF aB rfl B.len bh (ae (pv 0) af)) af)) (aL (i:=6) eu.nd rfl (Or.inl rfl)) (aj (bM (nJ (iA hu (pv 6) (pv 3))) (ag (aK (i:=7) eu.nd rfl (Or.inl rfl) (a8 d0 bq (hr.mono (by decide)) (ae (pv 6) (ae (pv 0) (ae (pv 1) af)))))
   (ag (bf (a8 mU fK (hr.mono (by decide)) (ae (pv 3) (ae (pv 7) af))))
   (aj (bf (eL IF Jc Jd bU (pv 2) (ae (eJ (ae d7 (ae (pv 7) af))) af)))))) a7)))
   (aj (aQ (yC (by rfl) B.sorted vd hU (hr.mono (by decide)) (ae (pv 2) af))))))))),?_⟩
  refine⟨_,rfl,_,rfl,a,b,n,m,ms,os,rfl,hS,W,hO,hm,fun hnm=>?_,fun hne=>kb hne⟩;obtain⟨WO,kg⟩:=kg hnm;have T:=aW W WO;have hsm:=W.small;refine⟨_,rfl,_,rfl,a,b,n,ms,os,rfl,hS,W,hO,WO,fun l H1 hl s1 hT=>?_⟩;intro d hd;have s2:aG H1 (upd H1 d (.dK [])):=aA hd;have hT2:=hT.same s2;have hd2:upd H1 d (.dK []) d=some (.dK []):=ah;obtain⟨vs0,w0,w00⟩:=hT.len;have nld:l≠d:=aM w0 hd;have hd0:H d=none:=s1.free hd;generalize upd H1 d (.dK [])=H2 at s2 hT2 hd2 ⊢;obtain⟨xs,⟨ts,t1,t2,t3⟩,x2,x3⟩:=id hT2;have hol:(gK (2*n) (at0 ms) (at0 os)).length<=160:=by
   unfold gK;rw[HY];have q1:=lZ (N:=2*n) (a:=at0 ms) (b:=at0 os) (lsL (2*n) (at0 ms));have q2:=qc (N:=2*n) (a:=at0 ms) (b:=at0 os) (lsL (2*n) (at0 os));have q3:∀ M:Nat->Nat,(lsL (2*n) M).length<=80:=fun M=>by
    unfold lsL;have z:=IP (fun e=>e == M e) (Ig (2*n));rw[Ij] at z;omega
   have:=q3 (at0 ms);have:=q3 (at0 os);omega
  have hxl:xs.length<=160:=by rw[<- x3,HQ] at hol;exact hol
  have Fh:∀ {x:Nat} {L:List Nat},x<2*n->bG (at0 ms) (at0 os) x L->L.length<=80:=fun {x L} hx C=>by
   have z:=Th.sub_len C.nd (m:=Ig (2*n)) fun y hy=>Ii.mpr (((C.mem y).mp hy).lt T hx)
   rw[Ij] at z;omega
  refine⟨_,rfl,l,rfl,⟨_,SqL.of t1⟩,cJ (K:=K) (a:=l) (xs:=ts.map V.ref) (fun i σ H3=>∃ (v4 v5:Option V) (kv:List (Key×V)),σ=[some (.ref a),some (.ref b),some (.ref l),some (.ref d),v4,v5,none,none]/\(∀ c o,c≠d->H2 c=some o->H3 c=some o)/\H3 d=some (.dK kv)/\kv.length<=80*i /\
    ∀ j:Nat,(bD kv (Sum.inl (j:Int):Key)).isSome=true↔∃ x∈xs.take i,j∈x.2.2)
   ⟨none,none,[],rfl,fun c o _ e=>e,hd2,HV _,fun j=>by simp[bD]⟩ (fun i σ H3 _ ⟨_,_,_,_,s3,_⟩=>SqL.of (s3 _ _ nld t1)) ?_ ?_⟩
  ·rintro i y σ H3 hy ⟨v4,v5,kv,rfl,s3,hd3,hkl,hk⟩;have hi:i<ts.length:=by have z:=(HR.mp hy).1;rw[HQ] at z;exact z
   rw[HX,HP hi] at hy;obtain rfl:=Option.some.inj hy;have hix:i<xs.length:=by rw[<- t2];exact hi
   have ex:=HP hix;generalize xs[i]=x at ex;have htd:=t3 i _ x (HP hi) ex;have hxm:=Ib ex;have hxe:=x2 x hxm;have nt:ts[i]≠d:=fun z=>by rw[z,hd2] at htd;cases htd
   have ne:x.2.1≠d:=fun z=>by rw[z,hd2] at hxe;cases hxe
   obtain⟨u,hul,_,C⟩:=Th.l6 T (th:=en x) (by rw[<- x3];exact HW.mpr ⟨x,hxm,rfl⟩);have hLl:=Fh hul C;have hLl:x.2.2.length<=80:=hLl;refine⟨_,_,rfl,SqT.of (s3 _ _ nt htd),rfl,_,_,rfl,_,_,rfl,rfl,?_⟩;refine⟨_,rfl,_,rfl,d,x.2.1,kv,x.2.2,rfl,hd3,s3 _ _ ne hxe,by omega,fun kv2 H4 hd4 s4 hl4 hk4=>?_⟩;refine⟨_,_,kv2,rfl,fun c o hc e=>s4 c o hc (s3 c o hc e),hd4,by omega,fun j=>?_⟩;rw[hk4,hk,Mir.take_snoc ex];constructor
   ·rintro(⟨x',h1,h2⟩ | h)
    ·exact⟨x',IW _ h1,h2⟩
    ·exact⟨x,Ip _ (Ih.mpr rfl),h⟩
   ·rintro⟨x',h1,h2⟩;rcases Ic.mp h1 with h1 | h1
    ·exact .inl ⟨x',h1,h2⟩
    ·rw[Ih.mp h1] at h2;exact .inr h2
  rintro σ H3 ⟨v4,v5,kv,rfl,s3,hd3,hkl,hk⟩;rw[HQ,t2] at hkl hk;rw[IV] at hk;have s03:aG H H3:=fun c o e=>s3 c o (fun z=>by rw[z,hd0] at e;cases e) (s2 _ _ (s1 _ _ e))
  have hT3:ThT H3 l (gK (2*n) (at0 ms) (at0 os)):=hT2.keep hd2 s3;have hk3:∀ j:Nat,j<2*n->((bD kv (Sum.inl (j:Int):Key)).isSome=true↔¬ aT (at0 ms) (at0 os) j):=fun j hj=>by
   rw[hk,<- Th.l7 T hj,<- x3];constructor
   ·rintro⟨x,h1,h2⟩;exact⟨en x,HW.mpr ⟨x,h1,rfl⟩,h2⟩
   ·rintro⟨th,h1,h2⟩;obtain⟨x,h3,rfl⟩:=HW.mp h1;exact⟨x,h3,h2⟩
  have hlm:((nV ms).length:Int)=2*n:=by rw[aI,W.len];omega
  have hld:H l=none:=hl;refine⟨_,rfl,a,_,rfl,.inr (s03.tup hS),_,rfl,by rw[hlm];omega,by rw[hlm];omega,gB (lo:=0) (n:=((nV ms).length:Int).toNat) (fun i σ H4=>∃ (v4 v5 v6 v7:Option V) (kv:List (Key×V)),σ=[some (.ref a),some (.ref b),some (.ref l),some (.ref d),v4,v5,v6,v7]/\aG H H4/\H4 d=some (.dK kv)/\kv.length<=13000+80*i /\
    ThT H4 l (gK (2*n) (at0 ms) (at0 os)++de (at0 ms) (at0 os) i)/\∀ j:Nat,j<2*n->((bD kv (Sum.inl (j:Int):Key)).isSome=true↔(¬ aT (at0 ms) (at0 os) j\/∃ th∈de (at0 ms) (at0 os) i,j∈th.2)))
   ⟨_,_,_,_,kv,rfl,s03,hd3,by omega,by show ThT H3 l (_++[]);rw[Iy];exact hT3,fun j hj=>?_⟩ ?_ ?_⟩
  ·rw[hk3 j hj];constructor
   ·exact .inl
   ·rintro(h | ⟨th,h,_⟩)
    ·exact h
    ·exact absurd h JP
  ·rintro i σ H4 hi ⟨v4,v5,v6,v7,kv4,rfl,s4,hd4,GL,hT4,hk4⟩;have hi':i<2*n:=by rw[hlm] at hi;omega
   have hir:=Th.tT (a:=at0 ms) (b:=at0 os) i;rw[KI];have nx:=Th.yf T hi';refine⟨_,rfl,_,rfl,d,_,rfl,nQ.k (k:=Sum.inl (i:Int)) hd4,_,rfl,?_⟩;refine d8 (fun h1=>?_) (fun h1=>?_)
   ·have hns:¬ (bD kv4 (Sum.inl (i:Int):Key)).isSome=true:=fun z=>by rw[z] at h1;cases h1
    rw[hk4 i hi'] at hns;have hLW:=nx.mpr hns;have C:=Th.ba T hi' (.inr hLW.2);have hLl:=Fh hi' C;refine⟨_,rfl,_,rfl,_,rfl,a,b,n,ms,os,i,rfl,s4.tup hS,W,s4.tup hO,WO,hi',.inr hLW.2,fun e H5 s5 he=>?_⟩;refine⟨_,rfl,_,rfl,d,e,kv4,_,rfl,s5 _ _ hd4,he,by omega,fun kv6 H6 hd6 s6 hl6 hk6=>?_⟩;have hd5:=s5 _ _ hd4;have hT6:=(hT4.same s5).keep hd5 s6;have s46:aG H H6:=fun c o q=>s6 c o (fun z=>by rw[z,hd0] at q;cases q) (s5 _ _ (s4 _ _ q))
    have he6:H6 e=some (.tup (nV (thr (at0 ms) (at0 os) i))):=s6 _ _ (fun z=>by rw[z,hd5] at he;cases he) he;obtain⟨vs,w1,_⟩:=hT6.len;refine⟨_,rfl,.inl ⟨rfl,_,SqL.of w1⟩,_,rfl,by show 2<=sizeLine;decide,fun tp htp=>?_⟩;have s7:aG H6 (upd H6 tp (.tup [.str (ks .ring),.ref e])):=aA htp;obtain⟨ys,y1,y2,y3⟩:=(hT6.same s7).snoc (t:=tp) (e:=e) (k:=.ring) ah (s7 _ _ he6);refine⟨l,_,_,rfl,rfl,y1,bx (by rw[y2,HY];omega),?_⟩;refine⟨_,_,_,_,kv6,rfl,(s46.trans s7).upd hld,?_,by omega,?_,fun j hj=>?_⟩
    ·rw[aE (Ne.symm nld)];exact s7 _ _ hd6
    ·rw[gk,if_pos hLW,<- Ik];exact y3
    ·rw[hk6,hk4 j hj,gk,if_pos hLW];constructor
     ·rintro((h | ⟨th,h2,h3⟩) | h)
      ·exact .inl h
      ·exact .inr ⟨th,IW _ h2,h3⟩
      ·exact .inr ⟨_,Ip _ (Ih.mpr rfl),h⟩
     ·rintro(h | ⟨th,h2,h3⟩)
      ·exact .inl (.inl h)
      ·rcases Ic.mp h2 with h2 | h2
       ·exact .inl (.inr ⟨th,h2,h3⟩)
       ·rw[Ih.mp h2] at h3;exact .inr h3
   ·have hs:(bD kv4 (Sum.inl (i:Int):Key)).isSome=true:=Ia fun z=>h1 (by rw[K4] at z;rw[z];rfl)
    rw[hk4 i hi'] at hs;have hno:¬ (aX (at0 ms) (at0 os) i/\aT (at0 ms) (at0 os) i):=fun z=>nx.mp z hs
    refine⟨_,_,_,_,kv4,rfl,s4,hd4,by omega,?_,fun j hj=>?_⟩
    ·rw[gk,if_neg hno,Iy];exact hT4
    ·rw[gk,if_neg hno,Iy];exact hk4 j hj
  rintro σ H4 ⟨v4,v5,v6,v7,kv4,rfl,s4,hd4,GL,hT4,hk4⟩;have en':((nV ms).length:Int).toNat=2*n:=by rw[hlm];omega
  rw[en'] at hT4;have hT4:ThT H4 l (Th.unL (2*n) (at0 ms) (at0 os)):=hT4;obtain⟨zs,⟨us,u1,u2,u3⟩,z2,z3⟩:=id hT4;have hzl:zs.length<=62:=by
   have z:=zw T;rw[<- z3,HQ] at z;omega
  have zc:∀ x∈zs,∃ u,u<2*n/\bG (at0 ms) (at0 os) u x.2.2:=fun x hx=>Th.jG T (th:=en x) (by rw[<- z3];exact HW.mpr ⟨x,hx,rfl⟩)
  refine⟨_,rfl,l,us.map V.ref,zs.map (fun x=>((mn x.2.2:Nat):Int)),rfl,SqL.of u1,by rw[HQ,HQ,u2],by rw[HQ,u2];omega,fun i v kk hv hkk Q' hQ'=>?_,fun l' ps hp hpw hl'=>?_⟩
  ·have hi:i<us.length:=by have z:=(HR.mp hv).1;rw[HQ] at z;exact z
   have hix:i<zs.length:=by rw[<- u2];exact hi
   rw[HX,HP hi] at hv;rw[HX,HP hix] at hkk;obtain rfl:=Option.some.inj hv;obtain rfl:=Option.some.inj hkk;have hm:=J1 hix;obtain⟨u,hul,C⟩:=zc _ hm;have pos:0<(zs[i]).2.2.length:=Kq ((C.mem u).mpr (ao.refl u));exact⟨us[i],(zs[i]).2.1,(zs[i]).1,(zs[i]).2.2,rfl,u3 i _ _ (HP hi) (HP hix),z2 _ hm,pos,hQ'⟩
  ·have fa:Fa2 (fun (p:Int×V) (x:Mir.Ent)=>p.1=((mn x.2.2:Nat):Int)/\∃ t,p.2=.ref t/\H4 t=some (.tup (tf x))) ((zs.map (fun x=>((mn x.2.2:Nat):Int))).zip (us.map V.ref)) zs:=by
    refine Fa2.of (by rw[MV,HQ,HQ,u2,MC]) fun i p x e1 e2=>?_
    have hix:=(HR.mp e2).1;have hi:i<us.length:=by rw[u2];exact hix
    rw[List.getElem?_zip_eq_some] at e1;obtain⟨q1,q2⟩:=e1;rw[HX,e2] at q1;rw[HX,HP hi] at q2;exact⟨(Option.some.inj q1).symm,us[i],(Option.some.inj q2).symm,u3 i _ x (HP hi) e2⟩
   obtain⟨ws,hw1,hw2⟩:=fa.perm hp;have s5:aG H4 (upd H4 l' (.lst (ps.map (·.2)))):=aA hl';have HJ:=hw2.len;have Fi:ps.map (·.1)=ws.map (fun x=>((mn x.2.2:Nat):Int)):=by
    refine J3 fun i=>?_
    rw[HX,HX];by_cases hi:i<ps.length
    ·rw[HP hi,HP (by omega)];exact congrArg some (hw2.get i _ _ (HP hi) (HP (by omega))).1
    ·rw[Jm (by omega),Jm (by omega)]
     rfl
   have nd:(ws.map (fun x=>mn x.2.2)).Nodup:=by
    have z:=Th.keys_nodup T;rw[<- z3,Jf] at z;exact((hw1.map (fun x:Mir.Ent=>mn x.2.2)).nodup_iff).mpr z
   have pw:(ws.map en).Pairwise fun p q=>mn p.2<mn q.2:=by
    rw[IJ];have q1:(ws.map (fun x=>((mn x.2.2:Nat):Int))).Pairwise (·<=·):=by rw[<- Fi,IJ];exact hpw
    rw[IJ] at q1;rw[Iu,IJ] at nd;exact(q1.and nd).imp fun ⟨h1,h2⟩=>by show mn _<mn _;have:=h2;simp only[en];omega
   refine kg l' _ (ws.map en) (s4.trans s5) ⟨by rw[<- z3];exact hw1.map _,pw⟩ ?_ (s4.free hl');have ch:∀ i,i<ps.length->∃ t,(ps.map (·.2))[i]?=some (.ref t)/\∀ x,ws[i]?=some x->H4 t=some (.tup (tf x)):=fun i hi=>by
    obtain⟨_,t,q1,q2⟩:=hw2.get i _ _ (HP hi) (HP (by omega));exact⟨t,by rw[HX,HP hi];exact congrArg some q1,fun x hx=>by rw[HP (by omega)] at hx;rw[<- Option.some.inj hx];exact q2⟩
   obtain⟨vs',hv1,hv2⟩:=xq (ps.map (·.2)) fun i hi=>let ⟨t,q,_⟩:=ch i (by rw[HQ] at hi;exact hi);⟨t,q⟩
   rw[HQ] at hv2;refine⟨ws,⟨vs',by rw[ah,hv1],by omega,fun i t x e1 e2=>?_⟩,fun x hx=>s5 _ _ (z2 x (hw1.mem_iff.mp hx)),rfl⟩;have hi:i<ps.length:=by have z:=(HR.mp e1).1;omega
   obtain⟨t',q1,q2⟩:=ch i hi;rw[hv1,HX,e1] at q1;obtain rfl:t=t':=by have z:=Option.some.inj q1;injection z
   exact s5 _ _ (q2 x e2)
end
section
variable {P:Program}{w:World}{K:HS}{mg:Str->Option Value}{base:Heap}
theorem nj {f f1 C:Addr}{fd fd1:FuncData}(B:Bl mg)(F:Fn K mg "thread_score" dw ["one","other"] f fd)(eZ:Fn K mg "threads" gF ["one","other"] f1 fd1)(gG:aS P w K mg base (CXo P w) 4 f1 fd1 ["one","other"] (ko K C)) :
  aS P w K mg base (CXo P w) 5 f fd ["one","other"] (uO K C):=by
 refine F.fn.vE jc (fun vs H Q E h=>?_) (fun cdv A outer s H vs Q E hr h own=>?_)
 ·obtain⟨a,b,n,m,ms,os,rfl,_⟩:=h
  rfl
 ·obtain⟨a,b,n,m,ms,os,rfl,yO,hS,W,hO,hm,kg,kb⟩:=h;refine⟨_,(ag (rp (ix:=2) (NC:=["kind","ends"]) jc.nd rfl (Or.inl rfl) rfl (nz rfl (by decide +kernel) (by decide +kernel)) (bJ (oq gG eZ (hr.mono (by decide)) (ae (pv 0) (ae (pv 1) af)))) (fun _ _ _ _=>(rj (K:=K) (n:=2) rfl rfl (bH (aL (i:=0) (show (["kind","ends"]:List Str).Nodup by decide +kernel) rfl (Or.inl rfl)) (bH (aL (i:=1) (show (["kind","ends"]:List Str).Nodup by decide +kernel) rfl (Or.inl rfl)) gb)))) (fun _ _ _ _=>jD) (fun _ _ _ _=>(pv 0)))
   (aj (aQ (bt jh (bt lS aC (eL IF Ly Lz uu (pv 2) (ae d7 af))) (eL IF Ly Lz uu (pv 2) (ae d7 af)))))),?_⟩
  refine⟨_,rfl,_,rfl,a,b,n,m,ms,os,rfl,yO,hS,W,hO,hm,fun hnm=>?_,fun hne=>kb hne⟩;obtain⟨WO,kg⟩:=kg hnm;refine⟨WO,fun l H1 ths s1 hI hT hl=>?_⟩;have hsm:=W.small;have hlen:ths.length<=80:=by rw[hI.1.length_eq];have:=zw (aW W WO);omega
  obtain⟨xs,⟨ts,t1,t2,t3⟩,x2,x3⟩:=id hT;have hxl:xs.length<=80:=by rw[<- x3,HQ] at hlen;exact hlen
  refine⟨l,rfl,⟨_,SqL.of t1⟩,fun D hD=>eE (K:=K) (a:=l) (xs:=ts.map V.ref) (fun i σ H2=>∃ v0 v1:Option V,σ=[v0,v1]/\aG H1 H2/\H2 D=some (.lst (((xs.take i).map fun x=>ks x.1).map V.str))) ⟨none,none,rfl,aA hD,ah⟩ (fun i σ H2 _ ⟨_,_,_,s2,_⟩=>SqL.of (s2 _ _ t1)) ?_ ?_⟩
  ·rintro i y σ H2 hy ⟨v0,v1,rfl,s2,h2⟩;have hi:i<ts.length:=by have z:=(HR.mp hy).1;rw[HQ] at z;exact z
   rw[HX,HP hi] at hy;obtain rfl:=Option.some.inj hy;have hix:i<xs.length:=by rw[<- t2];exact hi
   have ex:=HP hix;generalize xs[i]=x at ex;have htd:=t3 i _ x (HP hi) ex;refine⟨_,_,rfl,SqT.of (s2 _ _ htd),rfl,_,_,rfl,_,_,rfl,rfl,?_⟩;refine⟨_,rfl,_,h2,bx (by rw[HQ,HQ,Iw];omega),_,_,rfl,s2.upd hD,?_⟩;rw[ah,Mir.take_snoc ex,IS,IS]
   rfl
  ·rintro σ H2 ⟨v0,v1,rfl,s2,h2⟩;rw[HQ,t2,IV] at h2;have ek:(xs.map fun x=>ks x.1)=ths.map fun th=>ks th.1:=by rw[<- x3,Jf];rfl
   rw[ek] at h2;refine⟨_,rfl,.inl ⟨rfl,_,SqL.of h2⟩,D,_,_,rfl,rfl,h2,?_⟩;refine⟨_,_,rfl,rfl,.inl ⟨by decide,by decide⟩,?_⟩;refine⟨_,rfl,.inl ⟨rfl,_,SqL.of h2⟩,D,_,_,rfl,rfl,h2,_,_,rfl,rfl,?_⟩;have e:=hI.counts W WO;have e2:(2:Int)*(((ths.map fun th=>ks th.1).countP (· == ks .ring):Nat):Int)+(((ths.map fun th=>ks th.1).countP (· == ks .odd):Nat):Int)=((Th.score (at0 ms) (at0 os) (2*n):Nat):Int):=by omega
   have z:=kg H2 (s1.trans s2);rw[<- e2] at z;exact z
end
section
variable {P:Program}{w:World}{K:HS}{mg:Str->Option Value}{base:Heap}
theorem ve {f f1 f2 C:Addr}{fd fd1 fd2:FuncData}(B:Bl mg)(F:Fn K mg "apart_by" gQ ["one","other"] f fd)(hV:Fn K mg "staves_in" fu ["work"] f1 fd1)(eT:Fn K mg "thread_score" dw ["one","other"] f2 fd2)(gS:aS P w K mg base (CXo P w) 5 f2 fd2 ["one","other"] (uO K C)) :
  aS P w K mg base (CXo P w) 6 f fd ["one","other"] (uP K C):=by
 have vf:aS P w K mg base CX0 1 f1 fd1 ["work"] (ua K):=sA B hV;refine F.fn.vE vc (fun vs H Q E h=>?_) (fun cdv A outer s H vs Q E hr h own=>?_)
 ·obtain⟨a,b,n,m,ms,os,rfl,_⟩:=h
  rfl
 ·obtain⟨a,b,n,m,ms,os,rfl,yO,hS,W,hO,hm,kg,kb⟩:=h;refine⟨_,(aj (aQ (bt lR (a8 vf hV (hr.mono (by decide)) (ae (pv 0) af)) (bt gc (oq gS eT (hr.mono (by decide)) (ae (pv 0) (ae (pv 1) af))) aC)))),?_⟩;refine⟨_,rfl,a,n,ms,rfl,hS,W,?_⟩;refine⟨_,rfl,_,rfl,a,b,n,m,ms,os,rfl,yO,hS,W,hO,hm,fun hnm=>?_,fun hne=>kb hne⟩;obtain⟨WO,kg⟩:=kg hnm;refine⟨WO,fun H1 s1=>?_⟩;have hle:=dk (aW W WO);refine⟨_,_,rfl,rfl,⟨by decide,by decide⟩,_,_,rfl,rfl,?_⟩;have e:(n:Int)-((Th.score (at0 ms) (at0 os) (2*n):Nat):Int)/2=(aH n ms os:Nat):=by unfold aH;omega
  dsimp only;rw[e];exact kg H1 s1
end
section
seal L2.PSs L2.PS L2.PE L2.PT
variable {P:Program}{w:World}{K:HS}{mg:Str->Option Value}{base:Heap}
theorem jd {f:Addr}{fd:FuncData}(B:Bl mg)(F:Fn K mg "ordered_pair" bX ["end","mate"] f fd):aS P w K mg base CX0 1 f fd ["end","mate"] wc:=by
 refine F.fn.ok ng (fun vs H Q E h=>?_) (fun cdv A outer s H vs Q E hr h=>?_)
 ·obtain⟨x,y,rfl,_⟩:=h
  rfl
 ·obtain⟨x,y,rfl,k⟩:=h;refine⟨_,(aj (aQ (eJ (ae (aF (xX rfl) rfl B.min q9 (ae (pv 0) (ae (pv 1) af))) (ae (aF (pW rfl) rfl B.max vG (ae (pv 0) (ae (pv 1) af))) af))))),?_⟩;refine⟨_,rfl,_,rfl,_,_,rfl,_,rfl,_,rfl,_,_,rfl,(by show 2<=sizeLine;decide),fun l hl=>?_⟩;refine k l _ hl (aA hl) ?_;have e1:(if (y:Int)<(x:Int) then (y:Int) else (x:Int))=((min x y:Nat):Int):=by split <;> omega
  have e2:(if (y:Int)>(x:Int) then (y:Int) else (x:Int))=((max x y:Nat):Int):=by split <;> omega
  rw[ah,e1,e2]
  rfl
end
section
seal L2.PSs L2.PS L2.PE L2.PT
variable {P:Program}{w:World}{K:HS}{mg:Str->Option Value}{base:Heap}
theorem wM {f:Addr}{fd:FuncData}(B:Bl mg)(F:Fn K mg "ends_in" iJ ["laid","kind"] f fd):aS P w K mg base CX0 1 f fd ["laid","kind"] uJ:=by
 refine F.fn.ok i6 (fun vs H Q E h=>?_) (fun cdv A outer s H vs Q E hr h=>?_)
 ·obtain⟨l,kk,ths,rfl,_⟩:=h
  rfl
 ·obtain⟨l,kk,ths,rfl,hT,hlen,k⟩:=h;refine⟨_,(ag (aK (i:=2) i6.nd rfl (Or.inl rfl) (gI af))
   (ag (b6 PassesOwn.never rfl (bJ (pv 0)) (j5 rfl (bH (aL (i:=3) i6.nd rfl (Or.inl rfl)) (bH (aL (i:=4) i6.nd rfl (Or.inl rfl)) gb))) (aj (bM (aJ eC (pv 3) (pv 1) (aO _)) (aj (bf (eL IF JY JZ vI (pv 2) (ae (pv 4) af)))) a7)))
   (aj (aQ (pv 2))))),?_⟩
  obtain⟨ts,t1,t2,t3⟩:=hT.at
  have fle:∀ i,(bj (ths.take i) kk).length<=100:=fun i=>by
   refine Jk ?_ hlen;unfold bj;have g:∀ (l:List (Kd×List Nat)),((l.filter fun th=>th.1=kk).flatMap (·.2)).length<=(l.map (·.2)).flatten.length:=fun l=>by
    induction l with
    | nil=>exact HV _
    | cons th r ih =>
     rw[MO]
     split
     ·rw[Kz,Js,Mp,HY,HY];omega
     ·rw[Js,Mp,HY];omega
   refine Jk (g _) ?_;have e:ths=ths.take i++ths.drop i:=(Jr i ths).symm;have e2:(ths.map (·.2)).flatten.length=((ths.take i).map (·.2)).flatten.length+((ths.drop i).map (·.2)).flatten.length:=by
    rw[<- HY,<- List.flatten_append,<- IS,<- e]
   omega
  refine⟨(by show 0<=sizeLine;decide),fun D hD=>?_⟩;refine⟨_,rfl,l,rfl,⟨_,SqL.of ((aA hD) _ _ t1)⟩,cJ (K:=K) (a:=l) (xs:=ts.map V.ref) (fun i σ H2=>∃ v3 v4:Option V,σ=[some (.ref l),some (.str (ks kk)),some (.ref D),v3,v4]/\aG H H2/\H2 D=some (.lst (nV (bj (ths.take i) kk)))) ⟨none,none,rfl,aA hD,ah⟩ (fun i σ H2 _ ⟨_,_,_,s2,_⟩=>SqL.of (s2 _ _ t1)) ?_ ?_⟩
  ·rintro i y σ H2 hy ⟨v3,v4,rfl,s2,h2⟩;have hi:i<ts.length:=by have z:=(HR.mp hy).1;rw[HQ] at z;exact z
   obtain⟨th,hth⟩:∃ th,ths[i]?=some th:=⟨_,HP (by omega)⟩
   obtain⟨tt,te,e1,e2,e3⟩:=t3 i th hth;rw[HX,e1] at hy;obtain rfl:=Option.some.inj hy;refine⟨_,_,rfl,SqT.of (s2 _ _ e2),rfl,_,_,rfl,_,_,rfl,rfl,?_⟩;have es:bj (ths.take (i+1)) kk=bj (ths.take i) kk++(if th.1=kk then th.2 else []):=by
    unfold bj;rw[Mir.take_snoc hth,IE,Kk];congr 1;by_cases c:th.1=kk
    ·rw[if_pos c,IH (by simpa using c)];simp
    ·rw[if_neg c,II (by simpa using c)];rfl
   refine⟨_,rfl,_,rfl,rfl,_,rfl,?_⟩;refine d8 (fun h=>?_) (fun h=>?_)
   ·have hk:th.1=kk:=oG _ _ (by have z:=of_decide_eq_true h;injection z);rw[if_pos hk] at es;have b1:=fle (i+1);rw[es,HY] at b1;refine⟨_,rfl,.inl ⟨rfl,_,SqL.of h2⟩,_,rfl,D,te,_,nV th.2,rfl,rfl,h2,.inr (s2 _ _ e3),?_,some (.str (ks th.1)),some (.ref te),rfl,s2.upd hD,?_⟩
    ·rw[aI,aI];have:1000<=sizeLine:=by decide
     omega
    ·rw[ah,es,yp]
   ·have hk:¬ th.1=kk:=fun z=>h (decide_eq_true (by rw[z]))
    rw[if_neg hk,Iy] at es;exact⟨some (.str (ks th.1)),some (.ref te),rfl,s2,by rw[es];exact h2⟩
  ·rintro σ H2 ⟨v3,v4,rfl,s2,h2⟩;rw[HQ,t2,IV] at h2;exact⟨_,rfl,k D H2 hD s2 h2⟩
end
section
seal L2.PSs L2.PS L2.PE L2.PT
variable {P:Program}{w:World}{K:HS}{mg:Str->Option Value}{base:Heap}
theorem kE {f f1:Addr}{fd fd1:FuncData}(B:Bl mg)(F:Fn K mg "splitting_pairs" cz ["ends"] f fd)(bp:Fn K mg "ordered_pair" bX ["end","mate"] f1 fd1):aS P w K mg base CX0 2 f fd ["ends"] xy:=by
 have gT:aS P w K mg base CX0 1 f1 fd1 ["end","mate"] wc:=jd B bp;refine F.fn.ok cT (fun vs H Q E h=>?_) (fun cdv A outer s H vs Q E hr h=>?_)
 ·obtain⟨e,L,rfl,_⟩:=h
  rfl
 ·obtain⟨e,L,rfl,he,hlen,k⟩:=h;refine⟨_,(ag (aK (i:=1) cT.nd rfl (Or.inl rfl) (gI af))
   (ag (b6 PassesOwn.never rfl (tV rfl B.enumerate (ae (pv 0) af)) (j5 rfl (bH (aL (i:=2) cT.nd rfl (Or.inl rfl)) (bH (aL (i:=3) cT.nd rfl (Or.inr rfl)) gb))) (aj (bf (eL IF JY JZ iB (pv 1) (ae (gh (NC:=["behind","end"]) rfl (iS (c:=s.heap.objs.size+1) (j:=3) rfl (by decide +kernel) (by decide +kernel) rfl rfl rfl rfl rfl) (qP (zV (pv 0) (bt jh (pv 2) aC) aC)) (fun _ _ _ _=>(aL (i:=0) (show (["behind","end"]:List Str).Nodup by decide +kernel) rfl (Or.inl rfl))) (fun _ _ _ _=>jD) (fun _ _ _ _=>(a8 gT bp (hr.mono (by decide)) (ae (pv 1) (ae (pv 0) af))))) af)))))
   (aj (aQ (pv 1))))),?_⟩
  refine⟨(by show 0<=sizeLine;decide),fun D hD=>?_⟩;have s0:aG H (upd H D (.lst [])):=aA hD;refine⟨_,rfl,e,rfl,⟨_,SqT.of (s0 _ _ he)⟩,zy (K:=K) (a:=e) (xs:=nV L) (fun i σ H2=>∃ v2 v3:Option V,σ=[some (.ref e),some (.ref D),v2,v3]/\aG H H2/\TsT pf H2 D (Th.gr L i)) ⟨none,none,rfl,s0,TsT.nil ah⟩ (fun i σ H2 _ ⟨_,_,_,s2,_⟩=>SqT.of (s2 _ _ he)) ?_ ?_⟩
  ·rintro i x t σ H2 hx ⟨v2,v3,rfl,s2,h2⟩ ht;obtain⟨u,hu,rfl⟩:=df hx;have hil:=(HR.mp hu).1;have st:aG H2 (upd H2 t (.tup [.int (i:Nat),.int (u:Nat)])):=aA ht;have e3:upd H2 t (.tup [.int (i:Nat),.int (u:Nat)]) t=some (.tup [.int (i:Nat),.int (u:Nat)]):=ah;generalize upd H2 t (.tup [.int (i:Nat),.int (u:Nat)])=H3 at st e3;have h3:=h2.same st;obtain⟨vs0,w0,_⟩:=h3.len;refine⟨t,_,rfl,SqT.of e3,rfl,_,_,rfl,_,_,rfl,rfl,?_⟩;refine⟨_,rfl,.inl ⟨rfl,_,SqL.of w0⟩,?_⟩;have he3:=st _ _ (s2 _ _ he);refine⟨_,rfl,_,rfl,_,_,rfl,rfl,e,_,_,rfl,rfl,rfl,SqT.of he3,(by omega),fun p hp=>?_⟩;have ep:ev2 ((nV L).drop ((i:Int)+1).toNat)=nV (ev2 (L.drop (i+1))):=by
    rw[show ((i:Int)+1).toNat=i+1 by omega];unfold nV;rw[<- M5,xv]
   rw[ep];have s4:aG H3 (upd H3 p (.tup (nV (ev2 (L.drop (i+1)))))):=aA hp;have e4:upd H3 p (.tup (nV (ev2 (L.drop (i+1))))) p=some (.tup (nV (ev2 (L.drop (i+1))))):=ah;have hml:(ev2 (L.drop (i+1))).length<=80:=by rw[jN,J0];omega
   have es:=Th.rJ hu;have bl:=Th.uG L (i+1);have bl2:(i+1)*L.length<=80*80:=L5 (by omega) hlen;generalize ev2 (L.drop (i+1))=M at e4 s4 hml es;generalize upd H3 p (.tup (nV M))=H4 at s4 e4;refine⟨p,rfl,⟨_,SqT.of e4⟩,fun D2 hD2=>tW (K:=K) (a:=p) (xs:=nV M) (fun j σ H5=>∃ v:Option V,σ=[v,some (.int (u:Nat))]/\aG H4 H5/\TsT pf H5 D2 ((M.take j).map (Th.ord u))) ⟨none,rfl,aA hD2,TsT.nil ah⟩ (fun j σ H5 _ ⟨_,_,s5,_⟩=>SqT.of (s5 _ _ e4)) ?_ ?_⟩
   ·rintro j y σ H5 hy ⟨v,rfl,s5,h5⟩;obtain⟨z,hz,rfl⟩:=df hy;refine⟨_,rfl,_,rfl,u,z,rfl,fun l H6 hl s6 hl6=>?_⟩;obtain⟨ws,y1,y2,y3⟩:=(h5.same s6).snoc (t:=l) (x:=Th.ord u z) hl6;refine⟨ws,y1,bx (by rw[y2,HQ,Iw];omega),some (.int (z:Nat)),rfl,(s5.trans s6).upd hD2,?_⟩;rw[Mir.take_snoc hz,IS];exact y3
   ·rintro σ H5 ⟨v,rfl,s5,h5⟩;rw[aI,IV] at h5;have s35:=s4.trans s5;obtain⟨as,bs,g1,g2,g3,g4,g5⟩:=(h3.same s35).ext h5;refine⟨D,D2,as,bs,rfl,rfl,g1,g2,?_,some (.int (i:Nat)),some (.int (u:Nat)),rfl,(s2.trans (st.trans s35)).upd hD,?_⟩
    ·rw[g3,g4,<- HY,<- es];have:6400<=sizeLine:=by decide
     omega
    ·rw[es];exact g5
  ·rintro σ H2 ⟨v2,v3,rfl,s2,h2⟩;rw[aI] at h2;exact⟨_,rfl,k D H2 hD s2 h2⟩
end
section
seal L2.PSs L2.PS L2.PE L2.PT
variable {P:Program}{w:World}{K:HS}{mg:Str->Option Value}{base:Heap}
theorem lK {f f1:Addr}{fd fd1:FuncData}(B:Bl mg)(F:Fn K mg "crossing_pairs" cM ["bare","tied"] f fd)(bp:Fn K mg "ordered_pair" bX ["end","mate"] f1 fd1):aS P w K mg base CX0 2 f fd ["bare","tied"] xA:=by
 have gT:aS P w K mg base CX0 1 f1 fd1 ["end","mate"] wc:=jd B bp;refine F.fn.ok eR (fun vs H Q E h=>?_) (fun cdv A outer s H vs Q E hr h=>?_)
 ·obtain⟨a,b,Bs,S,rfl,_⟩:=h
  rfl
 ·obtain⟨a,b,Bs,S,rfl,ha,hb,hB,hS,k⟩:=h;refine⟨_,(ag (aK (i:=2) eR.nd rfl (Or.inl rfl) (gI af))
   (ag (b6 PassesOwn.never rfl (bJ (pv 0)) (aL (i:=3) eR.nd rfl (Or.inr rfl)) (aj (bf (eL IF JY JZ iB (pv 2) (ae (gh (NC:=["crossed","end"]) rfl (iS (c:=s.heap.objs.size+1) (j:=3) rfl (by decide +kernel) (by decide +kernel) rfl rfl rfl rfl rfl) (bJ (pv 1)) (fun _ _ _ _=>(aL (i:=0) (show (["crossed","end"]:List Str).Nodup by decide +kernel) rfl (Or.inl rfl))) (fun _ _ _ _=>jD) (fun _ _ _ _=>(a8 gT bp (hr.mono (by decide)) (ae (pv 1) (ae (pv 0) af))))) af)))))
   (aj (aQ (pv 2))))),?_⟩
  refine⟨(by show 0<=sizeLine;decide),fun D hD=>?_⟩;have s0:aG H (upd H D (.lst [])):=aA hD;refine⟨_,rfl,a,rfl,⟨_,SqL.of (s0 _ _ ha)⟩,cJ (K:=K) (a:=a) (xs:=nV Bs) (fun i σ H2=>∃ v3:Option V,σ=[some (.ref a),some (.ref b),some (.ref D),v3]/\aG H H2/\TsT pf H2 D (dN (Bs.take i) S)) ⟨none,rfl,s0,TsT.nil ah⟩ (fun i σ H2 _ ⟨_,_,s2,_⟩=>SqL.of (s2 _ _ ha)) ?_ ?_⟩
  ·rintro i x σ H2 hx ⟨v3,rfl,s2,h2⟩;obtain⟨u,hu,rfl⟩:=df hx;obtain⟨vs0,w0,_⟩:=h2.len;have es:dN (Bs.take (i+1)) S=dN (Bs.take i) S++S.map (Th.ord u):=by rw[Mir.take_snoc hu];exact Th.vW
   have bl:=Th.yx (Bs.take (i+1)) S;have bl2:(Bs.take (i+1)).length*S.length<=80*80:=L5 (by rw[Iw];omega) hS;refine⟨_,rfl,.inl ⟨rfl,_,SqL.of w0⟩,?_⟩;have hb2:=s2 _ _ hb;refine⟨_,rfl,b,rfl,⟨_,SqL.of hb2⟩,fun D2 hD2=>eE (K:=K) (a:=b) (xs:=nV S) (fun j σ H5=>∃ v:Option V,σ=[v,some (.int (u:Nat))]/\aG H2 H5/\TsT pf H5 D2 ((S.take j).map (Th.ord u))) ⟨none,rfl,aA hD2,TsT.nil ah⟩ (fun j σ H5 _ ⟨_,_,s5,_⟩=>SqL.of (s5 _ _ hb2)) ?_ ?_⟩
   ·rintro j y σ H5 hy ⟨v,rfl,s5,h5⟩;obtain⟨z,hz,rfl⟩:=df hy;refine⟨_,rfl,_,rfl,u,z,rfl,fun l H6 hl s6 hl6=>?_⟩;obtain⟨ws,y1,y2,y3⟩:=(h5.same s6).snoc (t:=l) (x:=Th.ord u z) hl6;refine⟨ws,y1,bx (by rw[y2,HQ,Iw];omega),some (.int (z:Nat)),rfl,(s5.trans s6).upd hD2,?_⟩;rw[Mir.take_snoc hz,IS];exact y3
   ·rintro σ H5 ⟨v,rfl,s5,h5⟩;rw[aI,IV] at h5;obtain⟨as,bs,g1,g2,g3,g4,g5⟩:=(h2.same s5).ext h5;refine⟨D,D2,as,bs,rfl,rfl,g1,g2,?_,some (.int (u:Nat)),rfl,(s2.trans s5).upd hD,?_⟩
    ·rw[g3,g4,<- HY,<- es];have:6400<=sizeLine:=by decide
     omega
    ·rw[es];exact g5
  ·rintro σ H2 ⟨v3,rfl,s2,h2⟩;rw[aI,IV] at h2;exact⟨_,rfl,k D H2 hD s2 h2⟩
end
section
seal L2.PSs L2.PS L2.PE L2.PT
variable {P:Program}{w:World}{K:HS}{mg:Str->Option Value}{base:Heap}
theorem pO {f f1:Addr}{fd fd1:FuncData}(B:Bl mg)(F:Fn K mg "least_pair" eP ["work","deed"] f fd)(cW:Fn K mg "freed_ends" cS ["work","deed"] f1 fd1):aS P w K mg base CX0 2 f fd ["work","deed"] (mR K):=by
 have sF:aS P w K mg base CX0 1 f1 fd1 ["work","deed"] (oD K):=jX cW;refine F.fn.ok iw (fun vs H Q E h=>?_) (fun cdv A outer s H vs Q E hr h=>?_)
 ·obtain⟨a,d,n,p,q,ms,rfl,_⟩:=h
  rfl
 ·obtain⟨a,d,n,p,q,ms,rfl,hS,W,hD,hp,hq,k⟩:=h;have hu:=kO hr;refine⟨_,(ag (aK (i:=2) iw.nd rfl (Or.inl rfl) (eJ (ae (bB eK (pv 1) aC (fun _ _=>rfl)) (ae (bB eK (pv 1) aC (fun _ _=>rfl)) af))))
   (ag (aK (i:=3) iw.nd rfl (Or.inl rfl) (a8 sF cW (hr.mono (by decide)) (ae (pv 0) (ae (pv 1) af))))
   (ag (bM (aJ nN (aF aB rfl B.len bh (ae (pv 3) af)) aC (aO _)) (aj (aQ (pv 2))) a7)
   (aj (aQ (aF (vY rfl hu) rfl B.min q9 (ae (pv 2) (ae (eJ (ae (aF (vZ rfl) rfl B.min q9 (ae (pv 3) af)) (ae (aF (v9 rfl) rfl B.max vG (ae (pv 3) af)) af))) af)))))))),?_⟩
  refine⟨_,rfl,d,_,_,_,rfl,rfl,hD,rfl,_,rfl,d,_,_,_,rfl,rfl,hD,rfl,(by show 2<=sizeLine;decide),fun pr hpr=>?_⟩;have s1:aG H (upd H pr (.tup [.int (p:Nat),.int (q:Nat)])):=aA hpr;have e1:upd H pr (.tup [.int (p:Nat),.int (q:Nat)]) pr=some (.tup [.int (p:Nat),.int (q:Nat)]):=ah;generalize upd H pr (.tup [.int (p:Nat),.int (q:Nat)])=H1 at s1 e1;refine⟨_,rfl,_,rfl,a,d,n,ms,p,q,rfl,s1.tup hS,W,s1.tup hD,hp,hq,fun fr H2 hfr s2 h2=>?_⟩;have s12:=s1.trans s2;have ec:=mf ms p q;refine⟨_,rfl,fr,_,rfl,.inl (SqL.of h2),_,_,rfl,rfl,_,rfl,?_⟩;by_cases c:at0 ms p≠p/\at0 ms q≠q
  ·rw[if_neg c.1,if_neg c.2] at ec;rw[ec] at h2;have h2:H2 fr=some (.lst [.int (at0 ms p:Nat),.int (at0 ms q:Nat)]):=h2;refine ij (decide_eq_false (by rw[aI,ec];show ¬ ((2:Nat):Int)<2;decide)) ?_;refine⟨_,rfl,_,rfl,fr,_,_,rfl,SqL.of h2,_,rfl,fr,_,_,rfl,SqL.of h2,(by show 2<=sizeLine;decide),fun pp hpp=>?_⟩;have s3:=aA (o:=.tup [.int (min ((at0 ms p:Nat):Int) (at0 ms q:Nat)),.int (max ((at0 ms p:Nat):Int) (at0 ms q:Nat))]) hpp;have e3:upd H2 pp (.tup [.int (min ((at0 ms p:Nat):Int) (at0 ms q:Nat)),.int (max ((at0 ms p:Nat):Int) (at0 ms q:Nat))]) pp=some (.tup (pf (bP ms p q))):=by
    rw[ah];unfold pf bP;simp only;rw[show min ((at0 ms p:Nat):Int) (at0 ms q:Nat)=((min (at0 ms p) (at0 ms q):Nat):Int) by omega,show max ((at0 ms p:Nat):Int) (at0 ms q:Nat)=((max (at0 ms p) (at0 ms q):Nat):Int) by omega]
   generalize upd H2 pp (.tup [.int (min ((at0 ms p:Nat):Int) (at0 ms q:Nat)),.int (max ((at0 ms p:Nat):Int) (at0 ms q:Nat))])=H3 at s3 e3;have s13:=s12.trans s3;have e1':=s3 _ _ (s2 _ _ e1);refine⟨pr,pp,_,_,_,_,rfl,SqT.of e1',SqT.of e3,?_⟩;have el:bV ms p q=if ((bP ms p q).1:Int)<(p:Nat)\/((bP ms p q).1:Int)=(p:Nat)/\((bP ms p q).2:Int)<(q:Nat) then bP ms p q else (p,q):=by
    unfold bV;rw[if_pos c];by_cases d:(bP ms p q).1<p\/((bP ms p q).1=p/\(bP ms p q).2<q)
    ·rw[if_pos d,if_pos (by omega)]
    ·rw[if_neg d,if_neg (by omega)]
   by_cases d:((bP ms p q).1:Int)<(p:Nat)\/((bP ms p q).1:Int)=(p:Nat)/\((bP ms p q).2:Int)<(q:Nat)
   ·rw[if_pos d] at el ⊢;exact k pp H3 (s12.free hpp) s13 (by rw[el];exact e3)
   ·rw[if_neg d] at el ⊢;exact k pr H3 hpr s13 (by rw[el];exact e1')
  ·have el:bV ms p q=(p,q):=by unfold bV;rw[if_neg c]
   have hlen:(frd ms p q).length<2:=by
    rw[ec];by_cases c1:at0 ms p=p
    ·rw[if_pos c1];split <;> simp
    ·rw[if_neg c1];have c2:at0 ms q=q:=Ia fun z=>c ⟨c1,z⟩
     rw[if_pos c2];simp
   refine mj (decide_eq_true (by rw[aI];omega)) ?_;exact⟨_,rfl,k pr H2 hpr s12 (by rw[el];exact s2 _ _ e1)⟩
end
section
variable {P:Program}{w:World}{K:HS}{mg:Str->Option Value}{base:Heap}
theorem sG {f fM fR fC C fF:Addr}{fd fdM fdR fdC fdF:FuncData}(B:Bl mg)(Z:vC K mg "BadDeed" C)(F:Fn K mg "reclasped" fv ["work","deed"] f fd)(FF:Fn K mg "fits_work" du ["work","deed"] fF fdF)(FM:Fn K mg "refuse_misfit" cZ ["work","deed"] fM fdM)
  (FR:Fn K mg "freed_ends" cS ["work","deed"] fR fdR) (FC:Fn K mg "clasp_ends" eO ["mates","one","other"] fC fdC):aS P w K mg base (CXo P w) 3 f fd ["work","deed"] (zN K C):=by
 have GM:aS P w K mg base (CXo P w) 2 fM fdM ["work","deed"] (um K C):=mI B Z FM FF;have GR:aS P w K mg base CX0 1 fR fdR ["work","deed"] (oD K):=jX FR;have GC:aS P w K mg base CX0 1 fC fdC ["mates","one","other"] oE:=pN FC;refine F.fn.vE i5 (fun vs H Q E h=>?_) (fun cdv A outer s H vs Q E hr h own=>?_)
 ·obtain⟨a,d,n,ms,p,q,rfl,_⟩:=h
  rfl
 ·obtain⟨a,d,n,ms,p,q,rfl,hS,W,hD,sp,sq,kg,kb⟩:=h;have hr1:eG 1 _:=hr.mono (by decide);refine⟨_,ag (bf (oq GM FM hr (ae (pv 0) (ae (pv 1) af))))
   (ag (aK (i:=2) i5.nd rfl (Or.inl rfl) (bg dA rfl B.list gi (ae (pv 0) af)))
   (ag (aK (i:=3) i5.nd rfl (Or.inl rfl) (a8 GR FR hr1 (ae (pv 0) (ae (pv 1) af))))
   (ag (bM (aJ tm (aF aB rfl B.len bh (ae (pv 3) af)) aC (aO _)) (aj (bf (a8 GC FC hr1 (ae (pv 2) (ae (bB bN (pv 3) aC (fun _ _=>rfl)) (ae (bB bN (pv 3) (wR qQ aC) (fun _ _=>rfl)) af)))))) a7)
   (ag (bf (a8 GC FC hr1 (ae (pv 2) (ae (bB eK (pv 1) aC (fun _ _=>rfl)) (ae (bB eK (pv 1) aC (fun _ _=>rfl)) af)))))
   (aj (aQ (bg jT rfl B.tuple dQ (ae (pv 2) af)))))))),?_⟩
  refine⟨_,rfl,_,rfl,a,d,n,ms,p,q,rfl,hS,W,hD,sp,sq,fun hf=>?_,kb⟩;obtain⟨x,y,rfl,rfl,hxy,hy,hne⟩:=hf.nat;have k:=kg hf;rw[Iz,Iz] at k;have hx:x<2*n:=by omega
  refine⟨_,rfl,a,_,rfl,.inr hS,fun l hl=>?_⟩;have s1:aG H (upd H l (.lst (nV ms))):=aA hl;refine⟨_,rfl,_,rfl,a,d,n,ms,x,y,rfl,s1.tup hS,W,SqT.of (s1 _ _ hD),hx,hy,fun lf H2 hlf s2 h2=>?_⟩;have hl2:=s2 _ _ (show upd H l (.lst (nV ms)) l=some (.lst (nV ms)) from ah);have nll:l≠lf:=aM ah hlf;have s12:=s1.trans s2;have fin:∀ (H3:Hp) (m1:List Nat),aG H H3->H3 l=some (.lst (nV m1))->m1.length=2*n->gL m1 x y=beh ms x y ->
    ((AM (BW (tq oE [] E0 (pX (yV 2) (pX (tOp (A2 K) (yV 1) (tC (.int 0))) (pX (tOp (A2 K) (yV 1) (tC (.int 1))) AS))))) (Ee (fun σ H Q=>∃ v,σ[2]?=some (some v)/\∃ p ys,[v]=[V.ref p]/\((SqL K H p ys/\∀ l,H l=none->Q (.ref l) (upd H l (.tup ys)))\/(SqT K H p ys/\Q (.ref p) H)))))
     { nx:=fun _ H'=>Q .non H',rt:=Q } [some (.ref a),some (.ref d),some (.ref l),some (.ref lf)] H3):=fun H3 m1 s3 h3 hlen hbe=>by
   refine⟨_,rfl,_,rfl,d,_,_,_,rfl,rfl,SqT.of (s3 _ _ hD),rfl,_,rfl,d,_,_,_,rfl,rfl,SqT.of (s3 _ _ hD),rfl,l,m1,x,y,rfl,h3,by omega,by omega,fun H4 h4 o4=>?_⟩;rw[hbe] at h4;refine⟨_,rfl,l,_,rfl,.inl ⟨SqL.of h4,fun r hr'=>?_⟩⟩;have s4:aG H H4:=fun b o e=>by
    rw[o4 b (aM e hl)];exact s3 b o e
   exact k r _ (s4.free hr') (s4.upd (s4.free hr')) ah
  have hcm:=vQ W hx hy hne;have hfl:=Bj ms x y;unfold lj at hcm;refine⟨_,rfl,lf,_,rfl,.inl (SqL.of h2),_,_,rfl,rfl,_,rfl,?_⟩;rw[aI];refine d8 (fun h1=>?_) (fun h1=>?_)
  ·have h1:0<(frd ms x y).length:=by have z:=of_decide_eq_true h1;omega
   simp only[h1,if_true] at hcm;have mem:∀ e∈frd ms x y,e<2*n:=fun e he=>by
    have lx:=W.wk.lt x hx;have ly:=W.wk.lt y hy;rw[mf] at he
    split at he <;> split at he <;> simp at he <;> omega
   have hg:∀ i,i<(frd ms x y).length->(frd ms x y).getD i 0<2*n:=fun i hi=>mem _ (Ib (dZ hi))
   have a0:atI (nV (frd ms x y)) 0=some (.int ((frd ms x y).getD 0 0:Nat)):=gf (j:=0) (rA (dZ h1));have a1:atI (nV (frd ms x y)) (-1)=some (.int ((frd ms x y).getD ((frd ms x y).length-1) 0:Nat)):=jI (by rw[Lk];exact dZ (by omega));refine⟨_,rfl,_,rfl,lf,_,_,_,rfl,rfl,SqL.of h2,a0,_,rfl,_,rfl,lf,_,_,_,rfl,rfl,SqL.of h2,a1,l,ms,_,_,rfl,hl2,by have:=hg 0 h1;rw[W.len];exact this,by have:=hg ((frd ms x y).length-1) (by omega);rw[W.len];exact this,fun H3 h3 o3=>?_⟩;refine fin H3 _ (fun b o e=>?_) h3 (by rw[md,W.len]) hcm;rw[o3 b (aM e hl)];exact s12 b o e
  ·have h1:¬ 0<(frd ms x y).length:=fun z=>h1 (decide_eq_true (by omega))
   simp only[h1,if_false] at hcm;exact fin H2 ms s12 hl2 W.len hcm
end
section
seal L2.PSs L2.PS L2.PE L2.PT
variable {P:Program}{w:World}{K:HS}{mg:Str->Option Value}{base:Heap}
theorem nq {f f1 f2 f3 f4 f5 f6 f7 f8 C:Addr}{fd fd1 fd2 fd3 fd4 fd5 fd6 fd7 fd8:FuncData}(B:Bl mg)(F:Fn K mg "nearer_deeds" dy ["one","other"] f fd)(eZ:Fn K mg "threads" gF ["one","other"] f1 fd1)(gG:aS P w K mg base (CXo P w) 4 f1 fd1 ["one","other"] (ko K C))(iM:Fn K mg "ends_in" iJ ["laid","kind"] f2 fd2)(dH:Fn K mg "crossing_pairs" cM ["bare","tied"] f3 fd3)(di:Fn K mg "splitting_pairs" cz ["ends"] f4 fd4)(bp:Fn K mg "ordered_pair" bX ["end","mate"] f5 fd5)(fL:Fn K mg "fits_work" du ["work","deed"] f6 fd6)(gz:Fn K mg "least_pair" eP ["work","deed"] f7 fd7)(cW:Fn K mg "freed_ends" cS ["work","deed"] f8 fd8) :
  aS P w K mg base (CXo P w) 5 f fd ["one","other"] (qv K C):=by
 have qI:aS P w K mg base CX0 1 f2 fd2 ["laid","kind"] uJ:=wM B iM;have mJ:aS P w K mg base CX0 2 f3 fd3 ["bare","tied"] xA:=lK B dH bp;have lL:aS P w K mg base CX0 2 f4 fd4 ["ends"] xy:=kE B di bp;have vg:aS P w K mg base CX0 1 f6 fd6 ["work","deed"] (vR K):=lI B fL;have sH:aS P w K mg base CX0 2 f7 fd7 ["work","deed"] (mR K):=pO B gz cW;refine F.fn.vE bQ (fun vs H Q E h=>?_) (fun cdv A outer s H vs Q E hr h own=>?_)
 ·obtain⟨a,b,n,m,ms,os,rfl,_⟩:=h
  rfl
 ·obtain⟨a,b,n,m,ms,os,rfl,yO,hS,W,hO,hm,kg,kb⟩:=h;have op:=om (E:=E) own;have hu:=kO hr;refine⟨_,(ag (aK (i:=2) bQ.nd rfl (Or.inl rfl) (oq gG eZ (hr.mono (by decide)) (ae (pv 0) (ae (pv 1) af))))
   (ag (aK (i:=3) bQ.nd rfl (Or.inl rfl) (a8 qI iM (hr.mono (by decide)) (ae (pv 2) (ae d7 af))))
   (ag (aK (i:=4) bQ.nd rfl (Or.inl rfl) (a8 qI iM (hr.mono (by decide)) (ae (pv 2) (ae d7 af))))
   (ag (aK (i:=5) bQ.nd rfl (Or.inl rfl) (a8 mJ dH (hr.mono (by decide)) (ae (pv 3) (ae (pv 4) af))))
   (ag (b6 op rfl (bJ (pv 2)) (j5 rfl (bH (aL (i:=6) bQ.nd rfl (Or.inl rfl)) (bH (aL (i:=7) bQ.nd rfl (Or.inl rfl)) gb))) (aj (bf (eL IF JY JZ iB (pv 5) (ae (a8 lL di (hr.mono (by decide)) (ae (pv 7) af)) af)))))
   (ag (bf (eL IF JY JZ iB (pv 5) (ae (gh (NC:=["end"]) rfl (nz rfl (by decide +kernel) (by decide +kernel)) (bJ (pv 4)) (fun _ _ _ _=>(aL (i:=0) (show (["end"]:List Str).Nodup by decide +kernel) rfl (Or.inl rfl))) (fun _ _ _ _=>jD) (fun _ _ _ _=>(eJ (ae (pv 0) (ae (pv 0) af))))) af)))
   (aj (aQ (aF (oP false) rfl B.sorted lX (ae (gh (NC:=["pair","one"]) rfl (iS (c:=s.heap.objs.size+1) (j:=0) rfl (by decide +kernel) (by decide +kernel) rfl rfl rfl rfl rfl) (bJ (pv 5)) (fun _ _ _ _=>(aL (i:=0) (show (["pair","one"]:List Str).Nodup by decide +kernel) rfl (Or.inl rfl))) (fun _ _ _ _=>(jE (PW.pt (iN (jf (a8 vg fL (hr.mono (by decide)) (ae (pv 1) (ae (pv 0) af)))) (fZ (aJ (uI (K:=K) rfl (Mq hu)) (a8 sH gz (hr.mono (by decide)) (ae (pv 1) (ae (pv 0) af))) (pv 0) (aO _))))))) (fun _ _ _ _=>(pv 0))) af)))))))))),?_⟩
  refine⟨_,rfl,_,rfl,a,b,n,m,ms,os,rfl,yO,hS,W,hO,hm,fun hnm=>?_,fun hne=>kb hne⟩;obtain⟨hn5,WO,kg⟩:=kg hnm;refine⟨WO,fun l H1 ths s1 hI hT hl=>?_⟩;have AT:Th.eY (2*n) (at0 ms) (at0 os) ths:=⟨aW W WO,hI.1,hI.2⟩
  have fl:=(hI.flat W WO).length_eq;rw[Ij] at fl;have el:∀ kk,(bj ths kk).length<=80:=fun kk=>by
   have z:=Th.sub_len (AT.nG kk) (m:=Ig (2*n)) fun x hx=>by
    obtain⟨th,t1,t2,t3⟩:=Th.bW.mp hx;exact Ii.mpr (AT.lt t1 t3)
   rw[Ij] at z;omega
  have pl:=Mir.pairs_len AT hn5;refine⟨_,rfl,l,.bare,ths,rfl,hT,by omega,fun D1 H2 hD1 s2 h2=>?_⟩;refine⟨_,rfl,l,.tied,ths,rfl,hT.same s2,by omega,fun D2 H3 hD2 s3 h3=>?_⟩;have h2:=s3 _ _ h2;have s23:=s2.trans s3;have s13:=s1.trans s23;refine⟨_,rfl,_,rfl,D1,D2,_,_,rfl,h2,h3,el _,el _,fun PP H4 hPP s4 h4=>?_⟩;obtain⟨ts,t1,t2,t3⟩:=(hT.same s23).at
  have pre:∀ i,(dN (bj ths .bare) (bj ths .tied)++(ths.take i).flatMap fun th=>eg th.2).length<=100:=fun i=>by
   have e:ths.flatMap (fun th=>eg th.2)=(ths.take i).flatMap (fun th=>eg th.2)++(ths.drop i).flatMap (fun th=>eg th.2):=by rw[<- Kk,Jr]
   have e2:=congrArg Lr e;unfold a9 at pl;rw[HY,HY] at pl;rw[HY] at e2 ⊢;omega
  refine⟨_,rfl,l,rfl,⟨_,SqL.of (s4 _ _ t1)⟩,cJ (K:=K) (a:=l) (xs:=ts.map V.ref) (fun i σ H5=>∃ v6 v7:Option V,σ=[some (.ref a),some (.ref b),some (.ref l),some (.ref D1),some (.ref D2),some (.ref PP),v6,v7]/\aG H3 H5/\TsT pf H5 PP (dN (bj ths .bare) (bj ths .tied)++(ths.take i).flatMap fun th=>eg th.2))
   ⟨none,none,rfl,s4,by rw[L3,K2,Iy];exact h4⟩ (fun i σ H5 _ ⟨_,_,_,s5,_⟩=>SqL.of (s5 _ _ t1)) ?_ ?_⟩
  ·rintro i y σ H5 hy ⟨v6,v7,rfl,s5,h5⟩;have hi:i<ts.length:=by have z:=(HR.mp hy).1;rw[HQ] at z;exact z
   obtain⟨th,hth⟩:∃ th,ths[i]?=some th:=⟨_,HP (by omega)⟩
   obtain⟨tt,te,e1,e2,e3⟩:=t3 i th hth;rw[HX,e1] at hy;obtain rfl:=Option.some.inj hy;obtain⟨vs0,w0,_⟩:=h5.len;have G:=hI.good W WO (Ib hth);have thl:th.2.length<=80:=by
    have z:=Th.sub_len G.nd (m:=Ig (2*n)) fun x hx=>Ii.mpr (G.lt x hx)
    rw[Ij] at z;omega
   refine⟨_,_,rfl,SqT.of (s5 _ _ e2),rfl,_,_,rfl,_,_,rfl,rfl,?_⟩;refine⟨_,rfl,.inl ⟨rfl,_,SqL.of w0⟩,_,rfl,te,th.2,rfl,s5 _ _ e3,thl,fun D3 H6 hD3 s6 h6=>?_⟩;obtain⟨as,bs,g1,g2,g3,g4,g5⟩:=(h5.same s6).ext h6;have es:dN (bj ths .bare) (bj ths .tied)++(ths.take (i+1)).flatMap (fun th=>eg th.2)=(dN (bj ths .bare) (bj ths .tied)++(ths.take i).flatMap fun th=>eg th.2)++eg th.2:=by
    rw[Mir.take_snoc hth,Kk,Ik,Kz,K2,Iy]
   refine⟨PP,D3,as,bs,rfl,rfl,g1,g2,?_,some (.str (ks th.1)),some (.ref te),rfl,(s5.trans s6).upd hPP,?_⟩
   ·have z:=pre (i+1);rw[es,HY] at z;rw[g3,g4];have:1000<=sizeLine:=by decide
    omega
   ·rw[es];exact g5
  rintro σ H5 ⟨v6,v7,rfl,s5,h5⟩;rw[HQ,t2,IV] at h5;obtain⟨vs0,w0,_⟩:=h5.len;have h35:=s5 _ _ h3;refine⟨_,rfl,.inl ⟨rfl,_,SqL.of w0⟩,_,rfl,D2,rfl,⟨_,SqL.of h35⟩,fun D4 hD4=>eE (K:=K) (a:=D2) (xs:=nV (bj ths .tied)) (fun j σ H6=>∃ v:Option V,σ=[v]/\aG H5 H6/\TsT pf H6 D4 (((bj ths .tied).take j).map fun e=>(e,e))) ⟨none,rfl,aA hD4,TsT.nil ah⟩ (fun j σ H6 _ ⟨_,_,s6,_⟩=>SqL.of (s6 _ _ h35)) ?_ ?_⟩
  ·rintro j y σ H6 hy ⟨v,rfl,s6,h6⟩;obtain⟨z,hz,rfl⟩:=df hy;refine⟨_,rfl,_,rfl,(by show 2<=sizeLine;decide),fun tp htp=>?_⟩;have s7:aG H6 (upd H6 tp (.tup [.int (z:Nat),.int (z:Nat)])):=aA htp;obtain⟨ws,y1,y2,y3⟩:=(h6.same s7).snoc (t:=tp) (x:=(z,z)) ah;have ez:=el .tied;refine⟨ws,y1,bx (by rw[y2,HQ,Iw];omega),some (.int (z:Nat)),rfl,(s6.trans s7).upd hD4,?_⟩;rw[Mir.take_snoc hz,IS];exact y3
  rintro σ H6 ⟨v,rfl,s6,h6⟩;rw[aI,IV] at h6;obtain⟨as,bs,g1,g2,g3,g4,g5⟩:=(h5.same s6).ext h6;have s36:=s5.trans s6;refine⟨PP,D4,as,bs,rfl,rfl,g1,g2,?_,?_⟩
  ·unfold a9 at pl;rw[HY] at pl;rw[g3,g4];have:1000<=sizeLine:=by decide
   omega
  have s7:aG H3 (upd H6 PP (.lst (as++bs))):=s36.upd hPP;have h7:TsT pf (upd H6 PP (.lst (as++bs))) PP (a9 ths):=g5;generalize upd H6 PP (.lst (as++bs))=H7 at s7 h7;have s17:=s13.trans s7;obtain⟨ps,p1,p2,p3⟩:=h7;have hS7:=s17.tup hS;refine⟨_,rfl,PP,rfl,⟨_,SqL.of p1⟩,fun D5 hD5=>eE (K:=K) (a:=PP) (xs:=ps.map V.ref) (fun j σ H8=>∃ v:Option V,σ=[v,some (.ref a)]/\aG H7 H8/\TsT pf H8 D5 (((a9 ths).take j).filter (cR n ms))) ⟨none,rfl,aA hD5,TsT.nil ah⟩ (fun j σ H8 _ ⟨_,_,s8,_⟩=>SqL.of (s8 _ _ p1)) ?_ ?_⟩
  ·rintro j y σ H8 hy ⟨v,rfl,s8,h8⟩;have hj:j<ps.length:=by have z:=(HR.mp hy).1;rw[HQ] at z;exact z
   obtain⟨c,hc⟩:∃ c,(a9 ths)[j]?=some c:=⟨_,HP (by omega)⟩
   have e2:=p3 j _ c (HP hj) hc;rw[HX,HP hj] at hy;obtain rfl:=Option.some.inj hy;obtain⟨b1,b2⟩:=AT.bound (Ib hc);have e8:=s8 _ _ e2;have hS8:=s8.tup hS7;have no:cR n ms c=false->((a9 ths).take (j+1)).filter (cR n ms)=((a9 ths).take j).filter (cR n ms):=fun h=>by
    rw[Mir.take_snoc hc,IE,II (by rw[h];decide),JJ,Iy]
   refine⟨_,rfl,_,rfl,a,_,n,ms,(c.1:Nat),(c.2:Nat),rfl,hS8,W,SqT.of e8,?_⟩;refine⟨_,rfl,?_⟩;by_cases hf:Mir.Fits n ms (c.1:Nat) (c.2:Nat)
   ·refine mj (decide_eq_true hf) ?_;refine⟨_,rfl,_,rfl,a,_,n,c.1,c.2,ms,rfl,hS8,W,SqT.of e8,by omega,by omega,fun lq H9 hlq s9 hl9=>?_⟩;refine⟨_,rfl,lq,_,[((bV ms c.1 c.2).1:Int),((bV ms c.1 c.2).2:Int)],[(c.1:Int),(c.2:Int)],rfl,rfl,SqT.of hl9,SqT.of (s9 _ _ e8),_,rfl,?_⟩;by_cases hq:bV ms c.1 c.2=c
    ·have ok:cR n ms c=true:=by unfold cR;rw[decide_eq_true hf,decide_eq_true hq];rfl
     refine mj (by show decide _=true;exact decide_eq_true (by rw[hq])) ?_;obtain⟨ws,y1,y2,y3⟩:=(h8.same s9).snoc (t:=ps[j]) (x:=c) (s9 _ _ e8);have hfl:=IP (cR n ms) ((a9 ths).take j);rw[Iw] at hfl;refine⟨_,rfl,ws,y1,bx (by rw[y2];omega),some (.ref ps[j]),rfl,(s8.trans s9).upd hD5,?_⟩;rw[Mir.take_snoc hc,IE,IH ok,JJ];exact y3
    ·have ok:cR n ms c=false:=by unfold cR;rw[decide_eq_false hq,Li]
     refine ij (by show decide _=false;exact decide_eq_false (fun z=>hq (by
      injection z with z1 z2;injection z2 with z2 _;exact Ls (by omega) (by omega)))) ?_
     exact⟨some (.ref ps[j]),rfl,s8.trans s9,by rw[no ok];exact h8.same s9⟩
   ·have ok:cR n ms c=false:=by unfold cR;rw[decide_eq_false hf,Kn]
    refine ij (decide_eq_false hf) ?_;exact ij rfl ⟨some (.ref ps[j]),rfl,s8,by rw[no ok];exact h8⟩
  ·rintro σ H8 ⟨v,rfl,s8,h8⟩;rw[HQ,p2,IV] at h8;obtain⟨us,u1,u2,u3⟩:=h8;have hfl:=By hn5 AT;refine⟨D5,us,Mir.gPr H8,rfl,SqL.of u1,by omega,fun t ht=>?_,fun ws l' hp hs hl'=>?_⟩
   ·obtain⟨i,hi,rfl⟩:=Jz ht;have hi2:i<((a9 ths).filter (cR n ms)).length:=by omega
    have e:=u3 i _ _ (HP hi) (HP hi2);have bd:=AT.bound (Ie.mp (J1 hi2)).1;exact⟨_,e,by rw[wb e];exact Ds (by omega)⟩
   ·obtain⟨ys,y1,y2,y3⟩:=Bt u2 u3 hp hs hl';have s18:=s17.trans s8;exact kg l' _ ths ys (s18.free hl') (s18.upd (s18.free hl')) hI y1 y2 y3
end
section
seal L2.PSs L2.PS L2.PE L2.PT
variable {P:Program}{w:World}{K:HS}{mg:Str->Option Value}{base:Heap}
theorem lM {f f1 C:Addr}{fd fd1:FuncData}(F:Fn K mg "refuse_beyond" c6 ["most","one","other"] f fd)(i7:Fn K mg "apart_by" gQ ["one","other"] f1 fd1)(kF:aS P w K mg base (CXo P w) 6 f1 fd1 ["one","other"] (uP K C)):aS P w K mg base CX0 7 f fd ["most","one","other"] (qF K):=by
 refine F.fn.ok iK (fun vs H Q E h=>?_) (fun cdv A outer s H vs Q E hr h=>?_)
 ·obtain⟨a,b,m,n,ms,os,rfl,_⟩:=h
  rfl
 ·obtain⟨a,b,m,n,ms,os,rfl,h4,hS,W,hO,WO,hn,k⟩:=h;refine⟨_,(ag (aK (i:=3) iK.nd rfl (Or.inl rfl) (vD kF i7 (hr.mono (by decide)) (ae (pv 1) (ae (pv 2) af))))
   (aj (bM (aJ tm (pv 3) (pv 0) (aO _)) xT a7))),?_⟩
  refine⟨_,rfl,_,rfl,a,b,n,n,ms,os,rfl,by omega,hS,W,hO,WO.len,fun _=>⟨WO,fun H1 s1=>?_⟩,fun z=>absurd rfl z⟩;have hap:aH n ms os<=n:=Au;refine⟨_,rfl,_,rfl,_,_,rfl,rfl,_,rfl,ij (decide_eq_false (by omega)) ?_⟩;exact k H1 s1
end
section
seal L2.PSs L2.PS L2.PE L2.PT L2.PA
variable {P:Program}{w:World}{K:HS}{mg:Str->Option Value}{base:Heap}
theorem nr {f f1 f2 f3 C CB:Addr}{fd fd1 fd2 fd3:FuncData}{t0:Tok}(B:Bl mg)(dP:mg "MOST_APART_LISTED" = some (.int 5 t0))(F:Fn K mg "works_on_way" eQ ["one","other"] f fd)(d6:Fn K mg "refuse_beyond" c6 ["most","one","other"] f1 fd1)(fW:aS P w K mg base CX0 7 f1 fd1 ["most","one","other"] (qF K))
  (eU:Fn K mg "nearer_deeds" dy ["one","other"] f2 fd2) (gU:aS P w K mg base (CXo P w) 5 f2 fd2 ["one","other"] (qv K C)) (hZ:Fn K mg "reclasped" fv ["work","deed"] f3 fd3) (jz:aS P w K mg base (CXo P w) 3 f3 fd3 ["work","deed"] (zN K CB)):aS P w K mg base CX0 8 f fd ["one","other"] BG:=by
 refine F.fn.ok bS (fun vs H Q E h=>?_) (fun cdv A outer s H vs Q E hr h=>?_)
 ·obtain⟨a,b,n,ms,os,rfl,_⟩:=h
  rfl
 ·obtain⟨a,b,n,ms,os,rfl,ha,Wm,hb,WO,hn,few,k⟩:=h;have hu:=hr.lt 0 (by decide);refine⟨_,(ag (bf (a8 fW d6 (hr.mono (by decide)) (ae (wO (v:=.int 5) rfl dP ⟨_,rfl⟩) (ae (pv 0) (ae (pv 1) af)))))
   (ag (aK (i:=2) bS.nd rfl (Or.inl rfl) (Aq (hr.lt 0 (by decide)) (pv 0) fX))
   (ag (aK (i:=3) bS.nd rfl (Or.inl rfl) (gI (ae (pv 0) af)))
   (ag (nK PassesOwn.never (aJ tm (aF aB rfl B.len bh (ae (pv 3) af)) aC (aO _)) (ag (aK (i:=4) bS.nd rfl (Or.inl rfl) tE)
   (ag (b6 PassesOwn.never rfl (bJ (pv 3)) (aL (i:=5) bS.nd rfl (Or.inl rfl)) (aj (b6 PassesOwn.never rfl (bJ (vD gU eU (hr.mono (by decide)) (ae (pv 5) (ae (pv 1) af)))) (aL (i:=6) bS.nd rfl (Or.inl rfl)) (aj (kM hu (pv 4) (vD jz hZ (hr.mono (by decide)) (ae (pv 5) (ae (pv 6) af))) fX rfl)))))
   (ag (bf (eL PySem.F.plainAttrs_dict Lp PySem.F.type_dict_update (Am hu) (pv 2) (ae (pv 4) af)))
   (aj (aK (i:=3) bS.nd rfl (Or.inl rfl) (bg (rY rfl) rfl B.list gi (ae (pv 4) af))))))))
   (aj (aQ (aF (sd rfl) rfl B.sorted lX (ae (pv 2) af)))))))),?_⟩
  refine⟨_,rfl,_,rfl,a,b,5,n,ms,os,rfl,by decide,SqT.of ha,Wm,SqT.of hb,WO,hn,fun H1 s1=>?_⟩;have big:∀ x:Nat,x<=5000->x<sizeLine:=fun x hx=>JF hx (by decide)
  have ha1:=s1 _ _ ha;intro d hd;have hdH:H d=none:=s1.free hd;refine⟨_,rfl,ah,a,kW ms,rfl,o5 (by rw[aE (fun z=>by rw[z,hd] at ha1;cases ha1)];exact ha1),?_⟩;have s2:aG H1 (upd (upd H1 d (.dT [])) d (.dT [(kW ms,.bl true)])):=(aA hd).upd hd;have u2:upd (upd H1 d (.dT [])) d (.dT [(kW ms,.bl true)]) d=some (.dT (bT [ms])):=ah;generalize upd (upd H1 d (.dT [])) d (.dT [(kW ms,.bl true)])=H2 at s2 u2;have s02:=s1.trans s2;refine⟨_,rfl,by show 1<=sizeLine;decide,fun lf0 GN=>?_⟩;have s3:aG H2 (upd H2 lf0 (.lst [.ref a])):=aA GN;have u3:upd H2 lf0 (.lst [.ref a]) lf0=some (.lst [.ref a]):=ah;generalize upd H2 lf0 (.lst [.ref a])=H3 at s3 u3;have s03:=s02.trans s3;have T0:TsT nV H3 lf0 [ms]:=⟨[a],u3,rfl,fun i t x e1 e2=>by
   cases i with
   | zero=>cases e1;cases e2;exact s03 _ _ ha
   | succ i=>simp at e1⟩
  obtain⟨W,hW⟩:∃ W:Nat->L2.St->Hp->Prop,W=fun m σ H4=>∃ (F R:List (List Nat)) (c:Nat) (lf:Addr) (v4 v5 v6:Option V),σ=[some (.ref a),some (.ref b),some (.ref d),some (.ref lf),v4,v5,v6]/\aG H H4/\H4 d=some (.dT (bT F))/\TsT nV H4 lf R/\Lv n os ms F R c/\((R=[]/\m=0)\/(R≠[]/\m=c+1)):=⟨_,rfl⟩
  refine⟨W,⟨aH n ms os+1,by rw[hW];exact⟨[ms],[ms],_,lf0,_,_,_,rfl,s03,s3 _ _ u2,T0,Lv.start,.inr ⟨MQ _ _,rfl⟩⟩⟩,?_⟩;intro m σ H4 h;have h':=h;rw[hW] at h';obtain⟨F,R,c,lf,v4,v5,v6,rfl,s4,hd4,hT4,lv,hm⟩:=h';obtain⟨rv,r1,r2⟩:=hT4.len;refine⟨_,rfl,lf,_,rfl,.inl (SqL.of r1),_,_,rfl,rfl,_,rfl,?_⟩;have Fl:=few F lv.nd lv.rch;by_cases c0:0<R.length
  ·refine mj (decide_eq_true (by omega)) ?_;have rne:R≠[]:=fun z=>by rw[z] at c0;exact absurd c0 (JK _)
   have hm:m=c+1:=by
    rcases hm with ⟨z,_⟩ | ⟨_,z⟩
    ·exact absurd z rne
    ·exact z
   subst hm;refine⟨fun σ' H'=>∃ m',m'<c+1/\W m' σ' H',fun σ' H' h=>h,?_⟩;intro dn hdn;have HK:H dn=none:=s4.free hdn;have ndn:d≠dn:=fun z=>by rw[<- z,hd4] at hdn;cases hdn
   have u5:upd H4 dn (.dT []) dn=some (.dT (bT [])):=ah;have s5:aG H4 (upd H4 dn (.dT [])):=aA hdn;generalize upd H4 dn (.dT [])=H5 at s5 u5;obtain⟨us,a1,a2,a3⟩:=id hT4;refine⟨_,rfl,lf,rfl,⟨_,SqL.of (s5 _ _ a1)⟩,?_⟩;have mono:∀ (O:List (List Nat)),O.Nodup->(∀ v∈O,∃ w∈R,v∈jP n os w)->O.length<128:=fun O nd hO=>few O nd fun v hv=>by
    obtain⟨w,hw,q⟩:=hO v hv;exact(lv.rch w (lv.sub w hw)).step q
   refine cJ (K:=K) (a:=lf) (xs:=us.map V.ref) (fun i σ H6=>∃ (O:List (List Nat)) (v5 v6:Option V),σ=[some (.ref a),some (.ref b),some (.ref d),some (.ref lf),some (.ref dn),v5,v6]/\aG H4 H6/\H6 dn=some (.dT (bT O))/\O.Nodup/\∀ v,v∈O↔∃ w∈R.take i,v∈jP n os w) ⟨[],_,_,rfl,s5,u5,KY,fun v=>by simp⟩ (fun i σ H6 _ ⟨_,_,_,_,s6,_⟩=>SqL.of (s6 _ _ a1)) ?_ ?_
   ·rintro i x σ H6 hx ⟨O,v5,v6,rfl,s6,hd6,nd6,hO6⟩;rw[HX] at hx;obtain⟨tw,et,rfl⟩:=Jh.mp hx;have hi:i<R.length:=by rw[<- a2];exact(HR.mp et).1
    have ew:=HP hi;generalize R[i]=wk at ew;have hwR:=Ib ew;have htw:=s6 _ _ (a3 i tw wk et ew);have Ww:=(lv.rch wk (lv.sub wk hwR)).work Wm;refine⟨_,rfl,_,rfl,tw,b,n,n,wk,os,rfl,by omega,SqT.of htw,Ww,SqT.of ((s4.trans s6) _ _ hb),WO.len,fun _=>⟨by omega,WO,fun ld H7 ths ys hld s7 hI hp hs hT7=>?_⟩,fun z=>absurd rfl z⟩;have ey:=wA Ww WO hn hI hp hs;subst ey;obtain⟨ds,b1,b2,b3⟩:=id hT7;refine⟨ld,rfl,⟨_,SqL.of b1⟩,?_⟩;refine cJ (K:=K) (a:=ld) (xs:=ds.map V.ref) (fun j σ H8=>∃ (O:List (List Nat)) (v6:Option V),σ=[some (.ref a),some (.ref b),some (.ref d),some (.ref lf),some (.ref dn),some (.ref tw),v6]/\aG H4 H8/\H8 tw=some (.tup (nV wk))/\H8 ld=some (.lst (ds.map V.ref))/\(∀ (i:Nat) (t:Addr) (x:Nat×Nat),ds[i]?=some t->(duL n os wk)[i]?=some x->H8 t=some (.tup (pf x)))/\H8 dn=some (.dT (bT O))/\O.Nodup/\∀ v,v∈O↔(∃ w∈R.take i,v∈jP n os w)\/∃ c∈(duL n os wk).take j,v=beh wk c.1 c.2) ⟨O,_,rfl,s6.trans s7,s7 _ _ htw,b1,b3,s7 _ _ hd6,nd6,fun v=>by rw[hO6];simp⟩ (fun i σ H8 _ ⟨_,_,_,_,_,q,_⟩=>SqL.of q) ?_ ?_
    ·rintro j y σ H8 hy ⟨O8,v6,rfl,s8,ht8,hl8,DS,hd8,nd8,hO8⟩;rw[HX] at hy;obtain⟨td,ed,rfl⟩:=Jh.mp hy;have hj:j<(duL n os wk).length:=by rw[<- b2];exact(HR.mp ed).1
     have ec:=HP hj;generalize (duL n os wk)[j]=cc at ec;have hcm:=Ib ec;obtain⟨q1,q2,q3,q4⟩:=rM hcm;have htd:=DS j td cc ed ec;refine⟨_,rfl,_,rfl,_,rfl,tw,td,n,wk,_,_,rfl,SqT.of ht8,Ww,htd,Sm.of (by omega) (by omega),Sm.of (by omega) (by omega),fun _ tv H9 htv s9 hv9=>?_,fun z=>absurd ⟨by omega,by omega,by omega,by rw[Iz];omega⟩ z⟩;rw[Iz,Iz] at hv9;have hd9:=s9 _ _ hd8;have ex8:∀ v∈O8,∃ w∈R,v∈jP n os w:=fun v hv=>by
      rcases(hO8 v).mp hv with ⟨w,hw,q⟩ | ⟨e,he,rfl⟩
      ·exact⟨w,K7 hw,q⟩
      ·exact⟨wk,hwR,HW.mpr ⟨e,K7 he,rfl⟩⟩
     have Ol:=mono O8 nd8 ex8;refine⟨dn,_,rfl,m7.t hd9 (o5 hv9) (big _ (by unfold bT;rw[HQ];omega)),?_⟩;rw[DJ];have Fj:∀ t vs,H9 t=some (.tup vs)->t≠dn:=fun t vs e z=>by rw[z,hd9] at e;cases e
     have nld:ld≠dn:=fun z=>by rw[<- z,s9 _ _ hl8] at hd9;cases hd9
     refine⟨Iso.addW O8 (beh wk cc.1 cc.2),_,rfl,(s8.trans s9).upd hdn,?_,?_,fun i' t' x' e1 e2=>?_,ah,BF nd8,fun v=>?_⟩
     ·rw[aE (Fj _ _ (s9 _ _ ht8))];exact s9 _ _ ht8
     ·rw[aE nld];exact s9 _ _ hl8
     ·have q:=s9 _ _ (DS i' t' x' e1 e2);rw[aE (Fj _ _ q)];exact q
     ·rw[Av,hO8,Mir.take_snoc ec];constructor
      ·rintro((q | ⟨e,he,q⟩) | q)
       ·exact .inl q
       ·exact .inr ⟨e,IW _ he,q⟩
       ·exact .inr ⟨cc,Ip _ Iq,q⟩
      ·rintro(q | ⟨e,he,q⟩)
       ·exact .inl (.inl q)
       ·rcases Ic.mp he with z | z
        ·exact .inl (.inr ⟨e,z,q⟩)
        ·rw[Ih.mp z] at q;exact .inr q
    ·rintro σ H8 ⟨O8,v6,rfl,s8,ht8,hl8,DS,hd8,nd8,hO8⟩;refine⟨O8,_,_,rfl,s8,hd8,nd8,fun v=>?_⟩;rw[hO8,HQ,b2,IV,Mir.take_snoc ew];constructor
     ·rintro(⟨w,hw,q⟩ | ⟨e,he,q⟩)
      ·exact⟨w,IW _ hw,q⟩
      ·exact⟨wk,Ip _ Iq,HW.mpr ⟨e,he,q.symm⟩⟩
     ·rintro⟨w,hw,q⟩;rcases Ic.mp hw with z | z
      ·exact .inl ⟨w,z,q⟩
      ·rw[Ih.mp z] at q;obtain⟨e,he,q⟩:=HW.mp q;exact .inr ⟨e,he,q.symm⟩
   ·rintro σ H6 ⟨O,v5,v6,rfl,s6,hd6,nd6,hO6⟩;rw[HQ,a2,IV] at hO6;have Ol:=mono O nd6 fun v hv=>(hO6 v).mp hv
    have fne:bT F≠[]:=fun z=>by
     have q:(kW ms,V.bl true)∈bT F:=HW.mpr ⟨ms,lv.one,rfl⟩;rw[z] at q;cases q
    refine⟨_,rfl,.inr (.inr (.inl ⟨rfl,.inr ⟨_,s6 _ _ hd4⟩⟩)),_,rfl,d,dn,_,_,rfl,rfl,ndn,s6 _ _ hd4,hd6,fne,?_,?_⟩
    ·unfold bT;rw[HQ,HQ];omega
    ·by_cases oe:O=[]
     ·subst oe;have e9:iX (bT F) (bT [])=bT F:=rfl;rw[e9];have s9:aG H (upd H6 d (.dT (bT F))):=(s4.trans s6).upd hdH;have u9:upd H6 d (.dT (bT F)) d=some (.dT (bT F)):=ah;have n9:upd H6 d (.dT (bT F)) dn=some (.dT (bT [])):=by rw[aE (Ne.symm ndn)];exact hd6
      generalize upd H6 d (.dT (bT F))=H9 at s9 u9 n9;refine⟨_,rfl,dn,_,rfl,n9,fun l2 bs hl2 hbl _=>?_⟩;have hbs:bs=[]:=JC.mp hbl;subst hbs;refine⟨0,by omega,?_⟩;rw[hW];exact⟨F,[],c,l2,_,_,_,rfl,s9.trans (aA hl2),aA hl2 _ _ u9,TsT.nil ah,lv.stop fun w hw v hv=>by have:=(hO6 v).mpr ⟨w,hw,hv⟩;simp at this,.inl ⟨rfl,rfl⟩⟩
     ·obtain⟨c',ec,lv'⟩:=lv.next Wm nd6 hO6 oe
      rw[Aw lv'.nd];have s9:aG H (upd H6 d (.dT (bT (F++O)))):=(s4.trans s6).upd hdH;have u9:upd H6 d (.dT (bT (F++O))) d=some (.dT (bT (F++O))):=ah;have n9:upd H6 d (.dT (bT (F++O))) dn=some (.dT (bT O)):=by rw[aE (Ne.symm ndn)];exact hd6
      generalize upd H6 d (.dT (bT (F++O)))=H9 at s9 u9 n9;refine⟨_,rfl,dn,_,rfl,n9,fun l2 bs hl2 hbl hbs=>?_⟩;refine⟨c,by omega,?_⟩;rw[hW];have T9:TsT nV (upd H9 l2 (.lst (bs.map V.ref))) l2 O:=by
       refine⟨bs,ah,by rw[hbl];unfold bT;rw[HQ],fun i t v e1 e2=>?_⟩;have q:=hbs i t (kW v) (.bl true) e1 (by unfold bT;rw[HX,e2];rfl);rw[<- Cm] at q;rw[aE (fun z=>by rw[z,hl2] at q;cases q)];exact q
      exact⟨F++O,O,c',l2,_,_,_,rfl,s9.trans (aA hl2),aA hl2 _ _ u9,T9,lv',.inr ⟨oe,ec⟩⟩
  ·refine ij (decide_eq_false (by omega)) ?_;have r0:R=[]:=JC.mp (by omega);subst r0;have inR:∀ w:List Nat,ak n w->dB.InR (b8 w):=fun w Ww x hx=>by
    obtain⟨y,hy,rfl⟩:=HW.mp hx;obtain⟨i,hi⟩:=Jx.mp hy;have hlt:=(HR.mp hi).1;rw[Ww.len] at hlt;have q:=Ww.wk.lt i hlt;have e:at0 w i=y:=by unfold at0;rw[Ji,hi];rfl
    rw[e] at q;omega
   refine⟨_,rfl,d,2*n,_,F.map b8,rfl,hd4,?_,by rw[HQ];exact Fl,fun z=>?_,fun r hr=>?_,fun us g l hp hs ht hl=>?_⟩
   ·unfold bT;rw[Jf,Jf];refine JL fun w _=>?_
    show kW w=(b8 w).map DH;unfold b8;rw[Jf]
    rfl
   ·refine Nat.pos_of_ne_zero fun z0=>?_
    have GO:∀ w∈F,w=[]:=fun w hw=>JC.mp (by rw[((lv.rch w hw).work Wm).len,z0])
    rw[HQ] at z;have:=Th.sub_len lv.nd (m:=[[]]) fun w hw=>by rw[GO w hw];exact Iq
    simp at this;omega
   ·obtain⟨w,hw,rfl⟩:=HW.mp hr;have Ww:=(lv.rch w hw).work Wm;exact⟨by unfold b8;rw[HQ,Ww.len],inR w Ww⟩
   ·have unr:∀ w:List Nat,(b8 w).map LR=w:=fun w=>by
     unfold b8;rw[Jf];exact(JL fun x _=>Iz x).trans (Nc w)
    have gw:∀ t∈us,∃ w∈F,g t=b8 w:=fun t ht'=>by
     obtain⟨w,hw,e⟩:=HW.mp (hp.mem_iff.mp (HW.mpr ⟨t,ht',rfl⟩));exact⟨w,hw,e.symm⟩
    have pm:((us.map g).map fun r=>r.map LR).Perm F:=by
     have q:=hp.map fun r=>r.map LR
     rw[Jf (l:=F)] at q;have e:F.map ((fun r:List Int=>r.map LR) ∘ b8)=F:=(JL fun w _=>unr w).trans (Nc F);rw[e] at q;exact q
    refine k l ((us.map g).map fun r=>r.map LR) _ (s4.free hl) (s4.trans (aA hl)) ⟨us,ah,by rw[HQ,HQ],fun i t x e1 e2=>?_⟩ (pm.nodup_iff.mpr lv.nd) (fun w=>?_) ?_
    ·rw[HX,HX,e1] at e2;obtain rfl:=Option.some.inj e2;have htm:=Ib e1;obtain⟨w,_,e⟩:=gw t htm;have q:=ht t htm;rw[aE (fun z=>by rw[z,hl] at q;cases q),q];rw[e];show some (HO.tup ((b8 w).map V.int))=some (HO.tup (nV ((b8 w).map LR)));rw[unr];unfold b8 nV;rw[Jf]
     rfl
    ·rw[pm.mem_iff];exact⟨fun q=>lv.rch w q,fun q=>lv.all q⟩
    ·rw[IJ];refine List.Pairwise.imp_of_mem (fun {x y} hx hy q=>?_) hs;obtain⟨t1,m1,rfl⟩:=HW.mp hx;obtain⟨t2,m2,rfl⟩:=HW.mp hy;obtain⟨w1,_,e1⟩:=gw t1 m1;obtain⟨w2,_,e2⟩:=gw t2 m2;rw[e1,e2,unr,unr];rw[e1,e2] at q;exact q
end
section
variable {P:Program}{w:World}{K:HS}{mg:Str->Option Value}{base:Heap}
theorem jA {f:Addr}{fd:FuncData}(B:Bl mg)(F:Fn K mg "_law_cell_at" dX ["script","k"] f fd):aS P w K mg base CX0 1 f fd ["script","k"] (ub K):=by
 refine F.fn.ok o9 (fun vs H Q E h=>?_) (fun cdv A outer s H vs Q E hr h=>?_)
 ·obtain⟨a,ns,k,rfl,_⟩:=h
  rfl
 ·obtain⟨a,ns,k,rfl,hS,q⟩:=h;refine⟨_,ag (bM (aJ nN (pv 1) (aF aB rfl B.len bh (ae (pv 0) af)) (aO _)) (aj (aQ (bB bN (pv 0) (pv 1) (fun _ _=>rfl)))) a7) (aj (aQ aC)),?_⟩;refine⟨_,rfl,_,rfl,a,_,rfl,.inl hS,_,_,rfl,rfl,_,rfl,?_⟩;refine d8 (fun h1=>?_) (fun h1=>?_)
  ·have h1:=of_decide_eq_true h1;rw[HQ] at h1;have hk:k<ns.length:=by omega
   have e:(ns.map V.int)[k]?=some (.int ns[k]):=by rw[HX,HP hk];rfl
   exact⟨_,rfl,_,rfl,a,_,_,_,rfl,rfl,hS,gf e,q _⟩
  ·exact q 0
end
section
variable {P:Program}{w:World}{K:HS}{mg:Str->Option Value}{base:Heap}
theorem sI {f:Addr}{fd:FuncData}(B:Bl mg)(F:Fn K mg "_law_whole" fB ["found"] f fd):aS P w K mg base CX0 1 f fd ["found"] rq:=by
 refine F.fn.ok su (fun vs H Q E h=>?_) (fun cdv A outer s H vs Q E hr h=>?_)
 ·obtain⟨e,rfl,_⟩:=h
  rfl
 ·obtain⟨e,rfl,q⟩:=h;refine⟨_,aj (aQ (yY (aF kQ rfl B.isinstance fc (ae (pv 0) (ae (nv (v:=.ty "int") rfl B.int CZ rfl) af)))
   (yX (Cz (aF kQ rfl B.isinstance fc (ae (pv 0) (ae (nv (v:=.ty "bool") rfl B.bool A7 rfl) af))))))),?_⟩
  refine⟨_,rfl,_,_,_,_,rfl,.int e,tO _,_,rfl,tI ?_⟩;exact⟨_,rfl,_,_,_,_,rfl,.int e,q8 _,_,rfl,q⟩
end
section
variable {P:Program}{w:World}{K:HS}{mg:Str->Option Value}{base:Heap}
theorem sJ {f:Addr}{fd:FuncData}(B:Bl mg)(F:Fn K mg "_law_mates" fE ["flow","staves"] f fd):aS P w K mg base CX0 1 f fd ["flow","staves"] (xj K):=by
 refine F.fn.ok dF (fun vs H Q E h=>?_) (fun cdv A outer s H vs Q E hr h=>?_)
 ·obtain⟨a,cs,n,rfl,_⟩:=h
  rfl
 ·obtain⟨a,cs,n,rfl,hS,hn,k⟩:=h;refine⟨_,ag (aK (i:=2) dF.nd rfl (Or.inl rfl) (bg (pD rfl) rfl B.list gi (ae (bg yd rfl B.range zr (ae (bt lS aC (pv 1)) af)) af)))
   (ag (b6 PassesOwn.never rfl (bJ (pv 0)) (aL (i:=3) dF.nd rfl (Or.inl rfl))
    (aj (bM (aJ tm (pv 1) aC (aO _))
     (ag (aK (i:=4) dF.nd rfl (Or.inl rfl) (bt fQ (pv 3) (bt lS aC (pv 1))))
     (ag (aK (i:=5) dF.nd rfl (Or.inl rfl) (bt fQ (bt gc (bt fQ (bt lS (bt fQ (pv 3) aC) aC) aC) aC) (bt lS aC (pv 1))))
     (ag (b6 PassesOwn.never rfl (bJ (gI (ae (pv 4) (ae (pv 5) af)))) (aL (i:=6) dF.nd rfl (Or.inl rfl))
      (ag (eV (bB bN (pv 2) (pv 6) (fun _ _=>rfl)) (fP (pv 2) (bB bN (pv 2) (pv 6) (fun _ _=>rfl)) set_list))
      (aj (eV (pv 6) (fP (pv 2) (pv 6) set_list)))))
     (ag (eV (pv 5) (fP (pv 2) (pv 4) set_list))
     (aj (eV (pv 4) (fP (pv 2) (pv 5) set_list))))))) a7)))
   (aj (aQ (pv 2)))),?_⟩
  refine⟨_,rfl,_,_,rfl,rfl,.inl ⟨by decide,by decide⟩,_,rfl,fun p hp=>⟨p,0,_,rfl,ah,⟨by omega,by omega,by omega,by omega⟩,by omega,fun l hl=>?_⟩⟩;obtain⟨nlp,nl⟩:=zq hl;have e0:qZ 0 (2*(n:Int)-0).toNat=nV (Ig (2*n)):=by
   rw[show (2*(n:Int)-0).toNat=2*n by omega];exact Be _
  rw[e0];have S1:aG H (upd (upd H p (.rng 0 (2*(n:Int)))) l (.lst (nV (Ig (2*n))))):=(aA hp).upd nl;refine⟨_,rfl,a,rfl,⟨_,S1.seq hS⟩,cJ (K:=K) (a:=a) (xs:=cs.map V.int) (fun i σ H2=>∃ (v3 v4 v5 v6:Option V) (ms:List Nat),σ=[some (.ref a),some (.int n),some (.ref l),v3,v4,v5,v6]/\aG H H2/\H2 l=some (.lst (nV ms))/\ak n ms)
   ⟨none,none,none,none,_,rfl,S1,ah,vL hn⟩ (fun i σ H2 _ ⟨_,_,_,_,_,_,s2,_⟩=>s2.seq hS) ?_ ?_⟩
  ·rintro i x σ H2 hx ⟨v3,v4,v5,v6,ms,rfl,s2,hl2,W⟩;obtain⟨z,rfl⟩:∃ z,x=V.int z:=by
    obtain⟨z,_,e⟩:=HW.mp (Ib hx);exact⟨z,e.symm⟩
   refine⟨_,rfl,_,_,rfl,rfl,_,rfl,?_⟩;refine d8 (fun h1=>?_) (fun h1=>?_)
   ·have hn0:0<(n:Int):=of_decide_eq_true h1;have BS:0<2*(n:Int):=by omega
    refine⟨_,rfl,_,rfl,_,_,rfl,rfl,.inl ⟨by decide,by decide⟩,_,_,rfl,rfl,BS,?_⟩;have b0:=Kw z (show (1000000007:Int)≠0 by decide);have b1:=KR z (show (0:Int)<1000000007 by decide);refine⟨_,rfl,_,_,rfl,rfl,(by show (0:Int)<1000000007;decide),_,_,rfl,rfl,.inl ⟨by omega,by omega⟩,_,_,rfl,rfl,(by show (0:Int)<2147483647;decide),_,_,rfl,rfl,⟨by decide,by decide⟩,_,rfl,_,_,rfl,rfl,.inl ⟨by decide,by decide⟩,_,_,rfl,rfl,BS,?_⟩;generalize z%1000000007*48271%2147483647/89=y;obtain⟨pe,hpe,hp1⟩:∃ pe:Nat,z%(2*(n:Int))=pe/\pe<2*n:=⟨(z%(2*(n:Int))).toNat,by have:=Kw z (show 2*(n:Int)≠0 by omega);omega,by have:=KR z BS;have:=Kw z (show 2*(n:Int)≠0 by omega);omega⟩
    obtain⟨qe,hqe,hq1⟩:∃ qe:Nat,y%(2*(n:Int))=qe/\qe<2*n:=⟨(y%(2*(n:Int))).toNat,by have:=Kw y (show 2*(n:Int)≠0 by omega);omega,by have:=KR y BS;have:=Kw y (show 2*(n:Int)≠0 by omega);omega⟩
    dsimp only;rw[hpe,hqe];refine⟨_,rfl,_,rfl,by show 2<=sizeLine;decide,fun le hle=>⟨le,rfl,⟨_,SqL.of ah⟩,cJ (K:=K) (a:=le) (xs:=[.int pe,.int qe])
     (fun j σ H3=>∃ (v:Option V) (ms':List Nat),σ=[some (.ref a),some (.int n),some (.ref l),some (.int z),some (.int pe),some (.int qe),v]/\aG H H3/\H3 le=some (.lst [.int pe,.int qe])/\H3 l=some (.lst (nV ms'))/\ak n ms' /\
      (1<=j->at0 ms' pe=pe)/\(2<=j->at0 ms' qe=qe))
     ⟨v6,ms,rfl,s2.upd (s2.free hle),ah,by rw[aE (aM hl2 hle)];exact hl2,W,fun h=>by omega,fun h=>by omega⟩ (fun j σ H3 _ ⟨_,_,_,_,e,_⟩=>SqL.of e) ?_ ?_⟩⟩
    ·rintro j y' σ H3 hj ⟨v,ms',rfl,s3,Fm,hl3,W3,h1',h2'⟩;obtain⟨e,rfl,he,Co⟩:∃ e:Nat,y'=V.int e/\e<2*n/\((j=0/\e=pe)\/(j=1/\e=qe)):=by
      match j,hj with
      | 0,hj=>exact⟨pe,(Option.some.inj hj).symm,hp1,.inl ⟨rfl,rfl⟩⟩
      | 1,hj=>exact⟨qe,(Option.some.inj hj).symm,hq1,.inr ⟨rfl,rfl⟩⟩
      | _+2,hj=>cases hj
     have nll:l≠le:=aM hl2 hle;have hix:=W3.ix he;have hlen:(nV ms').length=2*n:=by rw[aI,W3.len]
     have hm:=W3.wk.lt e he;refine⟨_,rfl,_,rfl,l,_,_,_,rfl,rfl,SqL.of hl3,hix,_,rfl,_,rfl,_,rfl,l,_,_,_,rfl,rfl,SqL.of hl3,hix,l,_,_,_,rfl,rfl,hl3,fS (Jn _) (by rw[hlen];omega),?_⟩;rw[Iz,fU];refine⟨_,rfl,_,rfl,_,rfl,l,_,_,_,rfl,rfl,ah,fS (Jn _) (by rw[aI,IM,W3.len];omega),?_⟩;rw[Iz,fU];obtain⟨W4,l4⟩:=vJ W3 he;refine⟨_,Mir.freed ms' e,rfl,(s3.upd nl).upd nl,by rw[aE nll.symm,aE nll.symm];exact Fm,ah,W4,fun _=>?_,fun h=>?_⟩
     ·rcases Co with ⟨rfl,rfl⟩ | ⟨rfl,rfl⟩
      ·exact l4
      ·exact ud W3 he (h1' (HV _))
     ·rcases Co with ⟨rfl,rfl⟩ | ⟨rfl,rfl⟩
      ·omega
      ·exact l4
    ·rintro σ H3 ⟨v,ms',rfl,s3,Fm,hl3,W3,h1',h2'⟩;have hlen:(nV ms').length=2*n:=by rw[aI,W3.len]
     refine⟨_,rfl,_,rfl,_,rfl,l,_,_,_,rfl,rfl,hl3,fS (Jn _) (by rw[hlen];omega),?_⟩;rw[Iz,fU];refine⟨_,rfl,_,rfl,_,rfl,l,_,_,_,rfl,rfl,ah,fS (Jn _) (by rw[aI,IM,W3.len];omega),?_⟩;rw[Iz,fU];exact⟨_,_,_,_,gL ms' pe qe,rfl,(s3.upd nl).upd nl,ah,vK W3 hp1 hq1 (h1' (by simp)) (h2' (by simp))⟩
   ·exact⟨_,_,_,_,ms,rfl,s2,hl2,W⟩
  ·rintro σ H2 ⟨v3,v4,v5,v6,ms,rfl,s2,hl2,W⟩;exact⟨_,rfl,k l H2 ms nl s2 W hl2⟩
end
section
variable {P:Program}{w:World}{K:HS}{mg:Str->Option Value}{base:Heap}
theorem pP {f f1 f2:Addr}{fd fd1 fd2:FuncData}(B:Bl mg)(F:Fn K mg "_law_halves" gx ["script","most"] f fd)(cE:Fn K mg "_law_cell_at" dX ["script","k"] f1 fd1)(fN:Fn K mg "_law_mates" fE ["flow","staves"] f2 fd2):aS P w K mg base CX0 2 f fd ["script","most"] (zR K):=by
 have fj:aS P w K mg base CX0 1 f1 fd1 ["script","k"] (ub K):=jA B cE;have mV:aS P w K mg base CX0 1 f2 fd2 ["flow","staves"] (xj K):=sJ B fN;refine F.fn.ok iy (fun vs H Q E h=>?_) (fun cdv A outer s H vs Q E hr h=>?_)
 ·obtain⟨a,ns,most,rfl,_⟩:=h
  rfl
 ·obtain⟨a,ns,most,rfl,hS,hlen,Hv,k⟩:=h;refine⟨_,(ag (aK (i:=2) iy.nd rfl (Or.inl rfl) (bt jh aC (bt fQ (a8 fj cE (hr.mono (by decide)) (ae (pv 0) (ae aC af))) (aF (pW rfl) rfl B.max vG (ae aC (ae (bt lR (aF aB rfl B.len bh (ae (pv 0) af)) aC) af))))))
   (ag (aK (i:=3) iy.nd rfl (Or.inl rfl) (bt fQ (a8 fj cE (hr.mono (by decide)) (ae (pv 0) (ae aC af))) (bt jh (pv 1) aC)))
   (aj (aQ (eJ (ae (a8 mV fN (hr.mono (by decide)) (ae (tF w6 (pv 0) (qV aC) (qV (pv 2))) (ae (pv 3) af))) (ae (a8 mV fN (hr.mono (by decide)) (ae (tF w6 (pv 0) (qV (pv 2)) AZ) (ae (pv 3) af))) af))))))),?_⟩
  refine⟨_,rfl,a,ns,1,rfl,hS,fun c1=>?_⟩;refine⟨_,rfl,a,_,rfl,.inl hS,_,_,rfl,rfl,_,_,rfl,?_⟩;have hmx:(1:Int)<=(if ((ns.map V.int).length:Int)-1>1 then ((ns.map V.int).length:Int)-1 else 1):=by split <;> omega
  refine⟨_,_,rfl,rfl,(by show (0:Int)<(if ((ns.map V.int).length:Int)-1>1 then ((ns.map V.int).length:Int)-1 else 1);omega),_,_,rfl,rfl,?_⟩;dsimp only;generalize (2:Int)+c1%(if ((ns.map V.int).length:Int)-1>1 then ((ns.map V.int).length:Int)-1 else 1)=cut;refine⟨_,rfl,a,ns,0,rfl,hS,fun c0=>?_⟩;refine⟨_,rfl,_,_,rfl,rfl,_,_,rfl,rfl,(by show (0:Int)<(most:Int)+1;omega),?_⟩;dsimp only;have g0:0<=c0%((most:Int)+1):=Kw _ (by omega);have g1:c0%((most:Int)+1)<(most:Int)+1:=KR _ (by omega);obtain⟨n,hn⟩:∃ n:Nat,c0%((most:Int)+1)=n:=⟨(c0%((most:Int)+1)).toNat,by omega⟩
  rw[hn];obtain⟨x1,ex1,_⟩:=qh ns (some 2) (some cut);obtain⟨x2,ex2,_⟩:=qh ns (some cut) none;refine⟨_,rfl,_,rfl,_,rfl,_,rfl,a,_,rfl,hS,fun b1 hb1=>?_⟩;rw[ex1];have s1:aG H (upd H b1 (.lst (x1.map V.int))):=aA hb1;refine⟨_,rfl,b1,x1,n,rfl,SqL.of ah,by omega,fun l1 H1 ms hl1 s2 W h1=>?_⟩;have s12:=s1.trans s2;refine⟨_,rfl,_,rfl,_,rfl,a,_,rfl,s12.seq hS,fun b2 hb2=>?_⟩;rw[ex2];have s3:aG H1 (upd H1 b2 (.lst (x2.map V.int))):=aA hb2;refine⟨_,rfl,b2,x2,n,rfl,SqL.of ah,by omega,fun l2 H2 os hl2 s4 WO h2=>?_⟩;have s34:=s3.trans s4;refine⟨by show 2<=sizeLine;decide,fun t ht=>?_⟩;have s5:aG H2 (upd H2 t (.tup [.ref l1,.ref l2])):=aA ht;have n12:l1≠l2:=aM (s3 _ _ h1) hl2;exact k n t l1 l2 ms os _ (by omega) ((s12.trans s34).trans s5) ah (s5 _ _ (s34 _ _ h1)) W (s5 _ _ h2) WO (s1.free hl1) ((s12.trans s3).free hl2) n12
end
section
variable {P:Program}{w:World}{K:HS}{mg:Str->Option Value}{base:Heap}
theorem sL {f:Addr}{fd:FuncData}(B:Bl mg)(F:Fn K mg "_law_freed" fG ["mates","end"] f fd):aS P w K mg base CX0 1 f fd ["mates","end"] oJ:=by
 refine F.fn.ok sv (fun vs H Q E h=>?_) (fun cdv A outer s H vs Q E hr h=>?_)
 ·obtain⟨a,e,ms,rfl,_⟩:=h
  rfl
 ·obtain⟨a,e,ms,rfl,ha,he,hm,k⟩:=h;refine⟨_,(ag (eV (bB bN (pv 0) (pv 1) (fun _ _=>rfl)) (fP (pv 0) (bB bN (pv 0) (pv 1) (fun _ _=>rfl)) set_list))
   (aj (eV (pv 1) (fP (pv 0) (pv 1) set_list)))),?_⟩
  have ix:atI (nV ms) (e:Int)=some (.int (at0 ms e:Nat)):=gf (rA (dZ he));refine⟨_,rfl,_,rfl,a,_,_,_,rfl,rfl,SqL.of ha,ix,_,rfl,_,rfl,_,rfl,a,_,_,_,rfl,rfl,SqL.of ha,ix,a,_,_,_,rfl,rfl,ha,fS (Jn _) (by rw[aI];omega),?_⟩;rw[Iz,fU];refine⟨_,rfl,_,rfl,_,rfl,a,_,_,_,rfl,rfl,ah,fS (Jn _) (by rw[aI,IM];omega),?_⟩;rw[Iz,fU,AI];exact k
end
section
variable {P:Program}{w:World}{K:HS}{mg:Str->Option Value}{base:Heap}
theorem vh {f f1:Addr}{fd fd1:FuncData}(B:Bl mg)(F:Fn K mg "_law_done" gR ["mates","one","other"] f fd)(fO:Fn K mg "_law_freed" fG ["mates","end"] f1 fd1):aS P w K mg base CX0 2 f fd ["mates","one","other"] qk:=by
 have mW:aS P w K mg base CX0 1 f1 fd1 ["mates","end"] oJ:=sL B fO;refine F.fn.ok hJ (fun vs H Q E h=>?_) (fun cdv A outer s H vs Q E hr h=>?_)
 ·obtain⟨a,n,x,y,ms,rfl,_⟩:=h
  rfl
 ·obtain⟨a,n,x,y,ms,rfl,ha,W,hx,hy,k0,k1⟩:=h;refine⟨_,(ag (aK (i:=3) hJ.nd rfl (Or.inl rfl) (bg dA rfl B.list gi (ae (pv 0) af)))
   (ag (aK (i:=4) hJ.nd rfl (Or.inl rfl) (bB bN (pv 0) (pv 1) (fun _ _=>rfl)))
   (ag (aK (i:=5) hJ.nd rfl (Or.inl rfl) (bB bN (pv 0) (pv 2) (fun _ _=>rfl)))
   (ag (bM (PW.pt (mK (PW.pt (iN (aJ eC (pv 1) (pv 2) (aO _)) (fZ (aJ eC (pv 4) (pv 1) (aO _))))) (lP (PW.pt (iN (aJ ja (pv 1) (pv 2) (aO _)) (fZ (aJ eC (pv 4) (pv 2) (aO _)))))))) (aj (aQ yW)) a7)
   (ag (bf (a8 mW fO (hr.mono (by decide)) (ae (pv 3) (ae (pv 1) af))))
   (ag (bM (aJ ja (pv 1) (pv 2) (aO _)) (ag (bf (a8 mW fO (hr.mono (by decide)) (ae (pv 3) (ae (pv 2) af))))
   (ag (eV (pv 2) (fP (pv 3) (pv 1) set_list))
   (ag (eV (pv 1) (fP (pv 3) (pv 2) set_list))
   (aj (bM (PW.pt (iN (aJ ja (pv 4) (pv 1) (aO _)) (fZ (aJ ja (pv 5) (pv 2) (aO _))))) (ag (eV (pv 5) (fP (pv 3) (pv 4) set_list))
   (aj (eV (pv 4) (fP (pv 3) (pv 5) set_list)))) a7))))) a7)
   (aj (aQ (pv 3))))))))),?_⟩
  have hl:=W.len;have lx:=W.wk.lt x hx;have ly:=W.wk.lt y hy;refine⟨_,rfl,a,_,rfl,.inl (SqL.of ha),fun l hl0=>?_⟩;have s1:aG H (upd H l (.lst (nV ms))):=aA hl0;have h1:upd H l (.lst (nV ms)) l=some (.lst (nV ms)):=ah;generalize upd H l (.lst (nV ms))=H1 at s1 h1;refine⟨_,rfl,_,rfl,a,_,_,_,rfl,rfl,SqL.of (s1 _ _ ha),W.ix hx,?_⟩;refine⟨_,rfl,_,rfl,a,_,_,_,rfl,rfl,SqL.of (s1 _ _ ha),W.ix hy,?_⟩;have HM:∀ (H3:Hp) (m:List Nat) (i v:Nat),aG H H3->aG H (upd H3 l (.lst (nV (m.set i v)))):=fun H3 m i v s3=>s3.upd hl0
  by_cases hxy:x=y
  ·subst hxy;refine⟨_,rfl,_,rfl,rfl,_,rfl,mj (Bo rfl) ?_⟩;refine⟨_,rfl,_,rfl,rfl,_,rfl,?_⟩;by_cases q:at0 ms x=x
   ·refine mj (Bo (by omega)) ?_;exact k0 q H1 s1
   ·refine ij (uw (by omega)) ?_;refine⟨_,rfl,_,rfl,rfl,_,rfl,ij (Bp rfl) (kP ?_)⟩;refine⟨_,rfl,_,rfl,l,x,ms,rfl,h1,by omega,by omega,?_⟩;refine⟨_,rfl,_,rfl,rfl,_,rfl,ij (Bp rfl) ?_⟩;refine⟨_,rfl,k1 q l _ hl0 (s1.upd hl0) ?_⟩;rw[ah,<- ux W hx hx q];unfold qj;rw[if_pos rfl]
  ·refine⟨_,rfl,_,rfl,rfl,_,rfl,ij (uw (by omega)) ?_⟩;refine⟨_,rfl,_,rfl,rfl,_,rfl,mj (dNe (by omega)) ?_⟩;refine⟨_,rfl,_,rfl,rfl,_,rfl,?_⟩;by_cases q:at0 ms x=y
   ·refine mj (Bo (by omega)) ?_;exact k0 q H1 s1
   ·refine ij (uw (by omega)) ?_;refine⟨_,rfl,_,rfl,l,x,ms,rfl,h1,by omega,by omega,?_⟩;refine⟨_,rfl,_,rfl,rfl,_,rfl,mj (dNe (by omega)) ?_⟩;have e1:=mm ms x y (by omega) (by omega);have e1l:at0 (Mir.freed ms x) y<ms.length:=by rw[e1];split <;> first | omega | (split <;> omega)
    refine⟨_,rfl,_,rfl,l,y,Mir.freed ms x,rfl,ah,by rw[bA];omega,by rw[bA];exact e1l,?_⟩;refine⟨_,rfl,_,rfl,_,rfl,l,_,_,_,rfl,rfl,ah,fS (Jn _) (by rw[aI,bA,bA];omega),?_⟩;rw[Iz,fU];refine⟨_,rfl,_,rfl,_,rfl,l,_,_,_,rfl,rfl,ah,fS (Jn _) (by rw[aI,IM,bA,bA];omega),?_⟩;rw[Iz,fU];have hd:=ux W hx hy q;unfold qj at hd;rw[if_neg hxy] at hd;simp only at hd;have s5:=((((s1.upd hl0 (o:=.lst (nV (Mir.freed ms x)))).upd hl0 (o:=.lst (nV (Mir.freed (Mir.freed ms x) y)))).upd hl0 (o:=.lst (nV ((Mir.freed (Mir.freed ms x) y).set x y)))).upd hl0 (o:=.lst (nV (((Mir.freed (Mir.freed ms x) y).set x y).set y x))))
    refine⟨_,rfl,_,rfl,rfl,_,rfl,?_⟩;by_cases q1:at0 ms x=x
    ·refine ij (Bp (by omega)) (kP ?_);refine⟨_,rfl,k1 q l _ hl0 s5 ?_⟩;rw[if_neg (fun z=>z.1 q1)] at hd;rw[ah,hd]
    ·refine mj (dNe (by omega)) ?_;refine⟨_,rfl,_,rfl,rfl,_,rfl,?_⟩;by_cases q2:at0 ms y=y
     ·refine ij (Bp (by omega)) ?_;refine⟨_,rfl,k1 q l _ hl0 s5 ?_⟩;rw[if_neg (fun z=>z.2 q2)] at hd;rw[ah,hd]
     ·refine mj (dNe (by omega)) ?_;refine⟨_,rfl,_,rfl,_,rfl,l,_,_,_,rfl,rfl,ah,fS (Jn _) (by rw[aI,IM,IM,bA,bA];omega),?_⟩;rw[Iz,fU];refine⟨_,rfl,_,rfl,_,rfl,l,_,_,_,rfl,rfl,ah,fS (Jn _) (by rw[aI,IM,IM,IM,bA,bA];omega),?_⟩;rw[Iz,fU];refine⟨_,rfl,k1 q l _ hl0 ((s5.upd hl0).upd hl0) ?_⟩;rw[if_pos ⟨q1,q2⟩] at hd;rw[ah,hd]
end
section
variable {P:Program}{w:World}{K:HS}{mg:Str->Option Value}{base:Heap}
theorem mX {f:Addr}{fd:FuncData}(B:Bl mg)(F:Fn K mg "_law_walk" eo ["one","other","end","known"] f fd):aS P w K mg base CX0 1 f fd ["one","other","end","known"] mh:=by
 refine F.fn.ok fJ (fun vs H Q E h=>?_) (fun cdv A outer s H vs Q E hr h=>?_)
 ·obtain⟨a,b,d,n,e,ms,os,kv,rfl,_⟩:=h
  rfl
 ·obtain⟨a,b,d,n,e,ms,os,kv,rfl,ha,W,hb,WO,he,hd,hkv,hcl,hne,k⟩:=h;have T:=aW W WO;have hsm:=W.small;have hu:=kO hr;have nad:a≠d:=fun z=>by rw[z,hd] at ha;cases ha
  have nbd:b≠d:=fun z=>by rw[z,hd] at hb;cases hb
  refine⟨_,(ag (aK (i:=4) fJ.nd rfl (Or.inl rfl) (gI (ae (pv 2) af)))
   (ag (kM hu (pv 3) (pv 2) fX rfl)
   (ag (aK (i:=5) fJ.nd rfl (Or.inl rfl) aC)
   (ag (nK PassesOwn.never (zF (R:=fun σ H Q=>∃ (l:Addr) (ys:List V) (x:Nat),σ[5]?=some (some (.int x))/\σ[4]?=some (some (.ref l))/\H l=some (.lst ys)/\Q (decide (x<ys.length)) H) fun σ H Q hR=>?tst) (ag (b6 PassesOwn.never rfl (bJ (gI (ae (bB bN (pv 0) (bB bN (pv 4) (pv 5) (fun _ _=>rfl)) (fun _ _=>rfl)) (ae (bB bN (pv 1) (bB bN (pv 4) (pv 5) (fun _ _=>rfl)) (fun _ _=>rfl)) af)))) (aL (i:=6) fJ.nd rfl (Or.inl rfl)) (aj (bM (nJ (iA hu (pv 6) (pv 3))) (ag (kM hu (pv 3) (pv 6) fX rfl)
   (aj (bf (eL IF Jc Jd bU (pv 4) (ae (pv 6) af))))) a7)))
   (aj (aK (i:=5) fJ.nd rfl (Or.inl rfl) (bt jh (pv 5) aC)))))
   (aj (aQ (pv 4))))))),?_⟩
  case tst =>
   obtain⟨l,ys,x,e5,e4,hl,q⟩:=hR;refine⟨_,aJ nN (pv 5) (aF aB rfl B.len bh (ae (pv 4) af)) (aO _),?_⟩;refine⟨_,e5,_,e4,l,_,rfl,.inl (SqL.of hl),_,_,rfl,rfl,_,rfl,?_⟩;have ee:decide ((x:Int)<(ys.length:Int))=decide (x<ys.length):=by
    by_cases c:x<ys.length
    ·rw[decide_eq_true c,decide_eq_true (by omega)]
    ·rw[decide_eq_false c,decide_eq_false (by omega)]
   exact(congrArg (fun b=>Q b H) ee).mpr q
  have dis:∀ y,ao (at0 ms) (at0 os) e y->¬ (bD kv (Sum.inl (y:Int):Key)).isSome=true:=fun y hy z=>by
   have back:=hy.symm T he;have hyl:=hy.lt T he;have q:=back (fun j=>j<2*n/\(bD kv (Sum.inl (j:Int):Key)).isSome=true) ⟨hyl,z⟩ fun j ⟨hj,hs⟩=>⟨⟨T.fl j hj,(hcl j hj hs).1⟩,T.gl j hj,(hcl j hj hs).2⟩
   exact hne q.2
  refine⟨_,rfl,by show 1<=sizeLine;decide,fun l hl=>?_⟩;have s0:aG H (upd H l (.lst [.int e])):=aA hl;have nld:l≠d:=fun z=>by rw[z,hd] at hl;cases hl
  have hd1:upd H l (.lst [.int e]) d=some (.dK kv):=s0 _ _ hd;have hl1:upd H l (.lst [.int e]) l=some (.lst (nV [e])):=ah;generalize upd H l (.lst [.int e])=H1 at s0 hd1 hl1 ⊢;refine⟨_,rfl,_,rfl,d,_,rfl,m7.k (k:=Sum.inl (e:Int)) hd1 (JF (show kv.length<=10000 from hkv) (by decide)),?_⟩;unfold AM;dsimp only[pV,AN,tC];have Fo:∀ L:List Nat,L.Nodup->(∀ y∈L,ao (at0 ms) (at0 os) e y)->L.length<=2*n:=fun L nd hc=>by
   have z:=Th.sub_len nd (m:=Ig (2*n)) fun y hy=>Ii.mpr ((hc y hy).lt T he)
   rwa[Ij] at z
  refine sZ (fun σ H2=>∃ (L:List Nat) (at':Nat) (kv2:List (Key×V)) (v6:Option V),σ=[some (.ref a),some (.ref b),some (.int e),some (.ref d),some (.ref l),some (.int at'),v6]/\(∀ c o,c≠d->H c=some o->H2 c=some o)/\H2 l=some (.lst (nV L))/\H2 d=some (.dK kv2)/\kv2.length<=kv.length+L.length /\
    L.Nodup/\(∀ y∈L,ao (at0 ms) (at0 os) e y)/\e∈L/\at'<=L.length/\(∀ j:Nat,j<2*n->((bD kv2 (Sum.inl (j:Int):Key)).isSome=true↔(bD kv (Sum.inl (j:Int):Key)).isSome=true\/j∈L))/\∀ i y,i<at'->L[i]?=some y->at0 ms y∈L/\at0 os y∈L)
   (fun (σ:L2.St) (H2:Hp)=>match σ[5]? with | some (some (V.int k))=>2*n+1-k.toNat | _=>0)
   ⟨[e],0,_,_,rfl,fun c o hc q=>by rw[aE hc];exact s0 _ _ q,by rw[aE nld];exact hl1,ah,?_,JI.mpr ⟨JP,KY⟩,fun y hy=>by rw[Ih.mp hy];exact ao.refl e,Ih.mpr rfl,by simp,fun j hj=>?_,fun i y hi=>absurd hi (JV _)⟩ ?_ ?_
  ·have z:=eD kv (Sum.inl (e:Int):Key) (V.bl true);exact z
  ·rw[nP];by_cases q:(Sum.inl (j:Int):Key)=Sum.inl (e:Int)
   ·rw[if_pos q];have e2:j=e:=by injection q with q;omega
    exact⟨fun _=>.inr (Ih.mpr e2),fun _=>rfl⟩
   ·rw[if_neg q];have e2:j≠e:=fun z=>q (by rw[z])
    exact⟨.inl,fun z=>z.resolve_right fun w=>e2 (Ih.mp w)⟩
  ·rintro σ H2 ⟨L,at',kv2,v6,rfl,s2,hl2,hd2,hkl,nd,hcn,heL,hat,hkn,Cp⟩;have hL:=Fo L nd hcn;have nvl:(nV L).length=L.length:=aI L;refine⟨l,_,at',rfl,rfl,hl2,?_⟩;rw[nvl];refine d8 (fun h1=>?_) (fun h1=>?_)
   ·have h1:at'<L.length:=of_decide_eq_true h1
    have ey:=HP h1;generalize L[at']=y at ey;have hyc:=hcn y (Ib ey);have hyl:=hyc.lt T he;have ha2:=s2 _ _ nad ha;have hb2:=s2 _ _ nbd hb;have Fp:atI (nV L) (at':Int)=some (.int (y:Nat)):=gf (rA ey);refine⟨_,rfl,_,rfl,_,rfl,l,_,_,_,rfl,rfl,SqL.of hl2,Fp,a,_,_,_,rfl,rfl,SqL.of ha2,W.ix hyl,?_⟩;refine⟨_,rfl,_,rfl,_,rfl,l,_,_,_,rfl,rfl,SqL.of hl2,Fp,b,_,_,_,rfl,rfl,SqL.of hb2,WO.ix hyl,?_⟩;refine⟨by show 2<=sizeLine;decide,fun lq hlq=>?_⟩;have s3:aG H2 (upd H2 lq (.lst [.int (at0 ms y:Nat),.int (at0 os y:Nat)])):=aA hlq;have DT:upd H2 lq (.lst [.int (at0 ms y:Nat),.int (at0 os y:Nat)]) lq=some (.lst (nV [at0 ms y,at0 os y])):=ah;have nql:lq≠l:=fun z=>by rw[z,hl2] at hlq;cases hlq
    have nqd:lq≠d:=fun z=>by rw[z,hd2] at hlq;cases hlq
    have hl3:=s3 _ _ hl2;have hd3:=s3 _ _ hd2;have Cq:∀ c o,c≠d->H c=some o->upd H2 lq (.lst [.int (at0 ms y:Nat),.int (at0 os y:Nat)]) c=some o:=fun c o hc q=>s3 _ _ (s2 c o hc q)
    generalize upd H2 lq (.lst [.int (at0 ms y:Nat),.int (at0 os y:Nat)])=H3 at s3 DT hl3 hd3 Cq ⊢;refine⟨lq,rfl,⟨_,SqL.of DT⟩,cJ (K:=K) (a:=lq) (xs:=nV [at0 ms y,at0 os y]) (fun i σ H4=>∃ (r:List Nat) (kv4:List (Key×V)) (v6:Option V),σ=[some (.ref a),some (.ref b),some (.int e),some (.ref d),some (.ref l),some (.int at'),v6]/\(∀ c o,c≠d->H c=some o->H4 c=some o) /\
      H4 lq=some (.lst (nV [at0 ms y,at0 os y]))/\H4 l=some (.lst (nV (L++r)))/\H4 d=some (.dK kv4)/\kv4.length<=kv.length+(L++r).length/\(L++r).Nodup/\(∀ y∈L++r,ao (at0 ms) (at0 os) e y) /\
      (∀ j:Nat,j<2*n->((bD kv4 (Sum.inl (j:Int):Key)).isSome=true↔(bD kv (Sum.inl (j:Int):Key)).isSome=true\/j∈L++r))/\(0<i->at0 ms y∈L++r)/\(1<i->at0 os y∈L++r))
     ⟨[],kv2,v6,rfl,Cq,DT,by rw[Iy];exact hl3,hd3,by rw[Iy];exact hkl,by rw[Iy];exact nd,by rw[Iy];exact hcn,by rw[Iy];exact hkn,fun z=>absurd z (by omega),fun z=>absurd z (by omega)⟩
     (fun i σ H4 _ ⟨_,_,_,_,_,q,_⟩=>SqL.of q) ?_ ?_⟩
    ·rintro i z σ H4 hz ⟨r,kv4,v6',rfl,s4,hq4,hl4,hd4,hk4,nd4,cn4,kn4,b1,b2⟩;obtain⟨x,hx,rfl⟩:=df hz;have hi2:i<2:=by have:=(HR.mp hx).1;simpa using this
     have hxc:ao (at0 ms) (at0 os) e x:=by
      match i,hi2,hx with
      | 0,_,hx=>obtain rfl:=Option.some.inj hx;exact hyc.sf
      | 1,_,hx=>obtain rfl:=Option.some.inj hx;exact hyc.sg
     have hxl:=hxc.lt T he;have got:∀ M:List Nat,x∈M->(∀ w,w∈L++r->w∈M)->(0<i+1->at0 ms y∈M)/\(1<i+1->at0 os y∈M):=fun M hM sub=>by
      match i,hi2,hx,b1 with
      | 0,_,hx,_=>obtain rfl:=Option.some.inj hx;exact⟨fun _=>hM,fun z=>absurd z (by omega)⟩
      | 1,_,hx,b1=>obtain rfl:=Option.some.inj hx;exact⟨fun _=>sub _ (b1 (by omega)),fun _=>hM⟩
     have hL4:=Fo _ nd4 cn4;refine⟨_,rfl,_,rfl,d,_,rfl,nQ.k (k:=Sum.inl (x:Int)) hd4,_,rfl,?_⟩;refine d8 (fun h2=>?_) (fun h2=>?_)
     ·have hns:¬ (bD kv4 (Sum.inl (x:Int):Key)).isSome=true:=fun z=>by rw[z] at h2;cases h2
      rw[kn4 x hxl] at hns;have hxn:x ∉ L++r:=fun z=>hns (.inr z)
      refine⟨_,rfl,_,rfl,d,_,rfl,m7.k (k:=Sum.inl (x:Int)) hd4 (JF (show kv4.length<=200000 by omega) (by decide)),?_⟩;have hl5:upd H4 d (.dK (putK kv4 (Sum.inl (x:Int):Key) (.bl true))) l=some (.lst (nV (L++r))):=by rw[aE nld];exact hl4
      refine⟨_,rfl,.inl ⟨rfl,_,SqL.of hl5⟩,_,rfl,l,_,_,rfl,rfl,hl5,bx (by rw[aI];omega),?_⟩;obtain⟨g1,g2⟩:=got (L++(r++[x])) (by simp) (fun w hw=>by rw[<- Ik];exact IW _ hw);refine⟨r++[x],_,_,rfl,fun c o hc q=>?_,?_,by rw[ah,<- Ik,iT],by rw[aE (Ne.symm nld)];exact ah,?_,?_,fun w hw=>?_,fun j hj=>?_,g1,g2⟩
      ·rw[aE (fun z=>by rw[z,hl] at q;cases q),aE hc];exact s4 c o hc q
      ·rw[aE nql,aE nqd];exact hq4
      ·have z:=eD kv4 (Sum.inl (x:Int):Key) (V.bl true);rw[<- Ik,HY];show _<=_+(_+1)
       omega
      ·rw[<- Ik];exact Jj.mpr ⟨nd4,JI.mpr ⟨JP,KY⟩,fun p hp q hq z=>hxn (by rw[<- Ih.mp hq,<- z];exact hp)⟩
      ·rw[<- Ik] at hw;rcases Ic.mp hw with hw | hw
       ·exact cn4 w hw
       ·rw[Ih.mp hw];exact hxc
      ·rw[nP,<- Ik,Ic];by_cases q:(Sum.inl (j:Int):Key)=Sum.inl (x:Int)
       ·rw[if_pos q];have e2:j=x:=by injection q with q;omega
        exact⟨fun _=>.inr (.inr (Ih.mpr e2)),fun _=>rfl⟩
       ·rw[if_neg q,kn4 j hj];have e2:j≠x:=fun z=>q (by rw[z])
        constructor
        ·rintro(h | h)
         ·exact .inl h
         ·exact .inr (.inl h)
        ·rintro(h | h | h)
         ·exact .inl h
         ·exact .inr h
         ·exact absurd (Ih.mp h) e2
     ·have hs:(bD kv4 (Sum.inl (x:Int):Key)).isSome=true:=Ia fun z=>h2 (by rw[K4] at z;rw[z];rfl)
      rw[kn4 x hxl] at hs;have hxm:x∈L++r:=hs.resolve_left (dis x hxc);obtain⟨g1,g2⟩:=got (L++r) hxm (fun w hw=>hw);exact⟨r,kv4,_,rfl,s4,hq4,hl4,hd4,hk4,nd4,cn4,kn4,g1,g2⟩
    ·rintro σ H4 ⟨r,kv4,v6',rfl,s4,hq4,hl4,hd4,hk4,nd4,cn4,kn4,b1,b2⟩;have c1:at0 ms y∈L++r:=b1 (by rw[aI];simp);have c2:at0 os y∈L++r:=b2 (by rw[aI];simp);refine⟨_,rfl,_,_,rfl,rfl,⟨L++r,at'+1,kv4,_,rfl,s4,hl4,hd4,hk4,nd4,cn4,IW _ heL,by rw[HY];omega,kn4,fun i w hi hw=>?_⟩,?_⟩
     ·by_cases c:i<at'
      ·rw[IK (by omega)] at hw;obtain⟨q1,q2⟩:=Cp i w c hw;exact⟨IW _ q1,IW _ q2⟩
      ·have c:i=at':=by omega
       subst c;rw[IK h1,ey] at hw;obtain rfl:=Option.some.inj hw;exact⟨c1,c2⟩
     ·show 2*n+1-((at':Int)+1).toNat<2*n+1-((at':Int)).toNat;omega
   ·have h1:at'=L.length:=by
     have z:¬ at'<L.length:=fun z=>h1 (decide_eq_true z)
     omega
    have C:bG (at0 ms) (at0 os) e L:=⟨nd,fun w=>⟨hcn w,fun hw=>hw (·∈L) heL fun z hz=>by
     obtain⟨i,hi⟩:=Jx.mp hz;exact Cp i z (by rw[h1];exact(HR.mp hi).1) hi⟩⟩
    refine⟨_,rfl,k l L kv2 H2 hl s2 hl2 C hd2 hkl fun j hj=>?_⟩;rw[hkn j hj,C.mem]
  ·rintro σ H2 R R' hR ⟨l,ys,x,e1,e2,e3,q⟩;exact⟨l,ys,x,e1,e2,e3,hR _ _ q⟩
end
section
variable {P:Program}{w:World}{K:HS}{mg:Str->Option Value}{base:Heap}
theorem sM {f f1:Addr}{fd fd1:FuncData}(B:Bl mg)(F:Fn K mg "_law_score" fH ["one","other"] f fd)(cF:Fn K mg "_law_walk" eo ["one","other","end","known"] f1 fd1):aS P w K mg base CX0 2 f fd ["one","other"] oH:=by
 have kG:aS P w K mg base CX0 1 f1 fd1 ["one","other","end","known"] mh:=mX B cF;refine F.fn.ok cU (fun vs H Q E h=>?_) (fun cdv A outer s H vs Q E hr h=>?_)
 ·obtain⟨a,b,n,ms,os,rfl,_⟩:=h
  rfl
 ·obtain⟨a,b,n,ms,os,rfl,ha,W,hb,WO,k⟩:=h;have T:=aW W WO;have hsm:=W.small;have hu:=kO hr;refine⟨_,(ag (aK (i:=2) cU.nd rfl (Or.inl rfl) nR)
   (ag (aK (i:=3) cU.nd rfl (Or.inl rfl) aC)
   (ag (b6 PassesOwn.never rfl (gA rfl B.range (ae (aF aB rfl B.len bh (ae (pv 0) af)) af)) (aL (i:=4) cU.nd rfl (Or.inl rfl)) (aj (bM (nJ (iA hu (pv 4) (pv 2))) (ag (aK (i:=5) cU.nd rfl (Or.inl rfl) (a8 kG cF (hr.mono (by decide)) (ae (pv 0) (ae (pv 1) (ae (pv 4) (ae (pv 2) af))))))
   (aj (bM (aJ eC (bt fQ (aF aB rfl B.len bh (ae (pv 5) af)) aC) aC (aO _)) (aj (aK (i:=3) cU.nd rfl (Or.inl rfl) (bt jh (pv 3) aC))) (aj (bM (aJ eC (aF aB rfl B.len bh (ae (gh (NC:=["at","other","one"]) rfl (Bm (pre:=["at"]) (c:=s.heap.objs.size+2) (e:=s.heap.objs.size+1) (j:=1) (k:=0) rfl (by decide +kernel) (by decide +kernel) rfl rfl rfl rfl rfl rfl rfl rfl rfl) (bJ (pv 5)) (fun _ _ _ _=>(aL (i:=0) (show (["at","other","one"]:List Str).Nodup by decide +kernel) rfl (Or.inl rfl))) (fun _ _ _ _=>(jE (PW.pt (mK (aJ eC (bB (k8 (K:=K) rfl) (pv 2) (pv 0) (fun _ _=>rfl)) (pv 0) (aO _)) (lP (aJ eC (bB (k8 (K:=K) rfl) (pv 1) (pv 0) (fun _ _=>rfl)) (pv 0) (aO _))))))) (fun _ _ _ _=>(pv 0))) af)) aC (aO _)) (aj (aK (i:=3) cU.nd rfl (Or.inl rfl) (bt jh (pv 3) aC))) a7))))) a7)))
   (aj (aQ (pv 3)))))),?_⟩
  intro d hd;have s0:aG H (upd H d (.dK [])):=aA hd;have hlm:((nV ms).length:Int)=2*n:=by rw[aI,W.len];omega
  refine⟨_,rfl,a,_,rfl,.inl (SqL.of (s0 _ _ ha)),_,rfl,by rw[hlm];omega,by rw[hlm];omega,gB (lo:=0) (n:=((nV ms).length:Int).toNat) (fun i σ H2=>∃ (v4 v5:Option V) (kv:List (Key×V)),σ=[some (.ref a),some (.ref b),some (.ref d),some (.int (bY (at0 ms) (at0 os) i:Nat)),v4,v5]/\aG H H2/\H2 d=some (.dK kv)/\kv.length<=80*i /\
    ∀ j:Nat,j<2*n->((bD kv (Sum.inl (j:Int):Key)).isSome=true↔∃ y,y<i/\ao (at0 ms) (at0 os) y j))
   ⟨none,none,[],rfl,s0,ah,HV _,fun j hj=>?_⟩ ?_ ?_⟩
  ·constructor
   ·intro z;cases z
   ·rintro⟨y,hy,_⟩;omega
  ·rintro i σ H2 hi ⟨v4,v5,kv,rfl,s2,hd2,hkl,hkn⟩;have hi':i<2*n:=by rw[hlm] at hi;omega
   rw[KI];have isL:(bD kv (Sum.inl (i:Int):Key)).isSome=true↔¬ aX (at0 ms) (at0 os) i:=by
    rw[hkn i hi'];constructor
    ·rintro⟨y,h1,h2⟩ hL;have:=hL y (h2.symm T (by omega));omega
    ·intro hn;refine Ia fun no=>hn fun y hy=>Ia fun z=>no ⟨y,by omega,hy.symm T hi'⟩
   refine⟨_,rfl,_,rfl,d,_,rfl,nQ.k (k:=Sum.inl (i:Int)) hd2,_,rfl,?_⟩;refine d8 (fun h1=>?_) (fun h1=>?_)
   ·have hns:¬ (bD kv (Sum.inl (i:Int):Key)).isSome=true:=fun z=>by rw[z] at h1;cases h1
    have hL:aX (at0 ms) (at0 os) i:=Ia fun z=>hns (isL.mpr z)
    have hcl:rE n ms os (fun j=>(bD kv (Sum.inl (j:Int):Key)).isSome=true):=fun j hj hs=>by
     obtain⟨y,y1,y2⟩:=(hkn j hj).mp hs;exact⟨(hkn _ (T.fl j hj)).mpr ⟨y,y1,y2.sf⟩,(hkn _ (T.gl j hj)).mpr ⟨y,y1,y2.sg⟩⟩
    refine⟨_,rfl,_,rfl,_,rfl,_,rfl,a,b,d,n,i,ms,os,kv,rfl,s2 _ _ ha,W,s2 _ _ hb,WO,hi',hd2,by omega,hcl,hns,fun l L kv3 H3 hl s3 hl3 C hd3 GP DU=>?_⟩;have s03:aG H H3:=fun c o q=>s3 c o (fun z=>by rw[z,hd] at q;cases q) (s2 _ _ q)
    have hLl:L.length<=80:=by
     have z:=Th.sub_len C.nd (m:=Ig (2*n)) fun y hy=>Ii.mpr (((C.mem y).mp hy).lt T hi')
     rw[Ij] at z;omega
    have kn':∀ j:Nat,j<2*n->((bD kv3 (Sum.inl (j:Int):Key)).isSome=true↔∃ y,y<i+1/\ao (at0 ms) (at0 os) y j):=fun j hj=>by
     rw[DU j hj,hkn j hj];constructor
     ·rintro(⟨y,h2,h3⟩ | h)
      ·exact⟨y,by omega,h3⟩
      ·exact⟨i,by omega,h⟩
     ·rintro⟨y,h2,h3⟩;by_cases c:y=i
      ·subst c;exact .inr h3
      ·exact .inl ⟨y,by omega,h3⟩
    have hll:((nV L).length:Int)=L.length:=by rw[aI]
    have od:=jn T hi' C;refine⟨_,rfl,l,_,rfl,.inl (SqL.of hl3),_,_,rfl,rfl,(by show (0:Int)<2;decide),rfl,_,rfl,?_⟩;refine d8 (fun h2=>?_) (fun h2=>?_)
    ·have o:L.length%2=1:=by
      have z:=of_decide_eq_true h2;injection z with z;rw[hll] at z;omega
     have e:=Th.tU hL (od.mp o);have e2:((bY (at0 ms) (at0 os) i:Nat):Int)+1=((bY (at0 ms) (at0 os) (i+1):Nat):Int):=by rw[e];omega
     refine⟨_,rfl,_,_,rfl,rfl,some (.int (i:Nat)),some (.ref l),kv3,?_,s03,hd3,by omega,kn'⟩;rw[<- e2]
     rfl
    ·have o:¬ L.length%2=1:=fun z=>h2 (decide_eq_true (by
      show V.int (((nV L).length:Int)%2)=V.int 1;rw[hll];have z2:(L.length:Int)%2=1:=by omega
      rw[z2]))
     have no:¬ gJ (at0 ms) (at0 os) i:=fun z=>o (od.mpr z)
     have ha3:=s03 _ _ ha;have hb3:=s03 _ _ hb
     let lo:Nat->Bool:=fun y=>decide (at0 ms y=y\/at0 os y=y)
     refine⟨_,rfl,l,rfl,⟨_,SqL.of hl3⟩,fun D hD=>eE (K:=K) (a:=l) (xs:=nV L) (fun j σ H4=>∃ v:Option V,σ=[v,some (.ref b),some (.ref a)]/\aG H3 H4/\H4 D=some (.lst (nV ((L.take j).filter lo)))) ⟨none,rfl,aA hD,ah⟩ (fun j σ H4 _ ⟨_,_,s4,_⟩=>SqL.of (s4 _ _ hl3)) ?_ ?_⟩
     ·rintro j z σ H4 hz ⟨v,rfl,s4,h4⟩;obtain⟨x,hx,rfl⟩:=df hz;have hxl:=((C.mem x).mp (Ib hx)).lt T hi';have yes:lo x=true->upd H4 D (.lst (nV ((L.take j).filter lo)++[.int (x:Nat)])) D=some (.lst (nV ((L.take (j+1)).filter lo))):=fun hlo=>by
       rw[ah,Mir.take_snoc hx,IE,IH (by exact hlo),JJ,iT]
      have small:(nV ((L.take j).filter lo)).length<sizeLine:=bx (by
       rw[aI];have z:=IP lo (L.take j);rw[Iw] at z;omega)
      refine⟨_,rfl,_,rfl,a,_,_,_,rfl,rfl,SqL.of (s4 _ _ ha3),W.ix hxl,_,rfl,rfl,_,rfl,?_⟩;refine d8 (fun q1=>?_) (fun q1=>?_)
      ·have q1:at0 ms x=x:=by have z:=of_decide_eq_true q1;injection z with z;omega
       exact tI ⟨_,rfl,_,h4,small,_,rfl,s4.upd hD,yes (decide_eq_true (.inl q1))⟩
      ·have q1:¬ at0 ms x=x:=fun z=>q1 (decide_eq_true (by rw[z]))
       refine⟨_,rfl,_,rfl,b,_,_,_,rfl,rfl,SqL.of (s4 _ _ hb3),WO.ix hxl,_,rfl,rfl,_,rfl,?_⟩;refine d8 (fun q2=>?_) (fun q2=>?_)
       ·have q2:at0 os x=x:=by have z:=of_decide_eq_true q2;injection z with z;omega
        exact⟨_,rfl,_,h4,small,_,rfl,s4.upd hD,yes (decide_eq_true (.inr q2))⟩
       ·have q2:¬ at0 os x=x:=fun z=>q2 (decide_eq_true (by rw[z]))
        refine⟨_,rfl,s4,?_⟩;rw[h4,Mir.take_snoc hx,IE,II (by show ¬ lo x=true;simp[lo,q1,q2]),JJ,Iy]
     ·rintro σ H4 ⟨v,rfl,s4,h4⟩;rw[aI,IV] at h4;have s04:=s03.trans s4;have hd4:=s4 _ _ hd3;refine⟨D,_,rfl,.inl (SqL.of h4),rfl,_,rfl,?_⟩;have hw:(L.filter lo).length=0↔aT (at0 ms) (at0 os) i:=by
       rw[JC,JG];constructor
       ·intro hz y hy;have:=hz y ((C.mem y).mpr hy);simp only[lo,decide_eq_true_eq,not_or] at this;exact this
       ·intro wh y hy;have:=wh y ((C.mem y).mp hy);simp only[lo,decide_eq_true_eq,not_or];exact this
      refine d8 (fun q=>?_) (fun q=>?_)
      ·have q:(L.filter lo).length=0:=by have z:=of_decide_eq_true q;injection z with z;rw[aI] at z;omega
       have e:=Th.rg hL (hw.mp q);have e2:((bY (at0 ms) (at0 os) i:Nat):Int)+2=((bY (at0 ms) (at0 os) (i+1):Nat):Int):=by rw[e];omega
       refine⟨_,rfl,_,_,rfl,rfl,some (.int (i:Nat)),some (.ref l),kv3,?_,s04,hd4,by omega,kn'⟩;rw[<- e2]
       rfl
      ·have q:¬ (L.filter lo).length=0:=fun z=>q (decide_eq_true (by rw[aI,z];rfl))
       have e:=Th.rh (fun z=>q (hw.mpr z)) no;exact⟨some (.int (i:Nat)),some (.ref l),kv3,by rw[e];rfl,s04,hd4,by omega,kn'⟩
   ·have hs:(bD kv (Sum.inl (i:Int):Key)).isSome=true:=Ia fun z=>h1 (by rw[K4] at z;rw[z];rfl)
    have e:=Th.pE (isL.mp hs);refine⟨some (.int (i:Nat)),v5,kv,by rw[e];rfl,s2,hd2,by omega,fun j hj=>?_⟩;rw[hkn j hj];constructor
    ·rintro⟨y,h2,h3⟩;exact⟨y,by omega,h3⟩
    ·rintro⟨y,h2,h3⟩;by_cases c:y=i
     ·subst c;obtain⟨x,x1,x2⟩:=(hkn y hi').mp hs;exact⟨x,x1,x2.trans h3⟩
     ·exact⟨y,by omega,h3⟩
  ·rintro σ H2 ⟨v4,v5,kv,rfl,s2,hd2,hkl,hkn⟩;have en':((nV ms).length:Int).toNat=2*n:=by rw[hlm];omega
   have z:=k H2 s2;rw[<- Th.tS T] at z;refine⟨_,rfl,?_⟩;rw[en'];exact z
end
section
variable {P:Program}{w:World}{K:HS}{mg:Str->Option Value}{base:Heap}
theorem sN {f f1 f2:Addr}{fd fd1 fd2:FuncData}(B:Bl mg)(F:Fn K mg "_law_apart" fI ["one","other"] f fd)(h9:Fn K mg "_law_score" fH ["one","other"] f1 fd1)(cF:Fn K mg "_law_walk" eo ["one","other","end","known"] f2 fd2):aS P w K mg base CX0 3 f fd ["one","other"] oI:=by
 have vi:aS P w K mg base CX0 2 f1 fd1 ["one","other"] oH:=sM B h9 cF;refine F.fn.ok sx (fun vs H Q E h=>?_) (fun cdv A outer s H vs Q E hr h=>?_)
 ·obtain⟨a,b,n,ms,os,rfl,_⟩:=h
  rfl
 ·obtain⟨a,b,n,ms,os,rfl,ha,W,hb,WO,k⟩:=h;refine⟨_,(aj (aQ (bt gc (bt lR (aF aB rfl B.len bh (ae (pv 0) af)) (a8 vi h9 (hr.mono (by decide)) (ae (pv 0) (ae (pv 1) af)))) aC))),?_⟩;refine⟨_,rfl,a,_,rfl,.inl (SqL.of ha),_,rfl,_,rfl,a,b,n,ms,os,rfl,ha,W,hb,WO,fun H1 s1=>?_⟩;refine⟨_,_,rfl,rfl,_,_,rfl,rfl,⟨by decide,by decide⟩,?_⟩;have hle:=dk (aW W WO);have e:(((nV ms).length:Int)-((Th.score (at0 ms) (at0 os) (2*n):Nat):Int))/2=(aH n ms os:Nat):=by
   rw[aI,W.len];have ev:=Th.dj (aW W WO) (by omega);unfold aH;omega
  dsimp only;rw[e];exact k H1 s1
end
section
seal L2.PSs L2.PS L2.PE L2.PT
variable {P:Program}{w:World}{K:HS}{mg:Str->Option Value}{base:Heap}
theorem sO {f f1:Addr}{fd fd1:FuncData}(B:Bl mg)(F:Fn K mg "_law_lacks" g9 ["one","other"] f fd)(cF:Fn K mg "_law_walk" eo ["one","other","end","known"] f1 fd1):aS P w K mg base CX0 2 f fd ["one","other"] Bw:=by
 have kG:aS P w K mg base CX0 1 f1 fd1 ["one","other","end","known"] mh:=mX B cF;refine F.fn.ok dG (fun vs H Q E h=>?_) (fun cdv A outer s H vs Q E hr h=>?_)
 ·obtain⟨a,b,n,ms,os,rfl,_⟩:=h
  rfl
 ·obtain⟨a,b,n,ms,os,rfl,ha,W,hb,WO,k⟩:=h;have T:=aW W WO;have hsm:=W.small;have hu:=kO hr;refine⟨_,(ag (aK (i:=2) dG.nd rfl (Or.inl rfl) nR)
   (ag (aK (i:=3) dG.nd rfl (Or.inl rfl) (gI af))
   (ag (b6 PassesOwn.never rfl (gA rfl B.range (ae (aF aB rfl B.len bh (ae (pv 0) af)) af)) (aL (i:=4) dG.nd rfl (Or.inl rfl)) (aj (bM (nJ (iA hu (pv 4) (pv 2))) (ag (aK (i:=5) dG.nd rfl (Or.inl rfl) (a8 kG cF (hr.mono (by decide)) (ae (pv 0) (ae (pv 1) (ae (pv 4) (ae (pv 2) af))))))
   (ag (rp (ix:=6) (NC:=["at","one"]) dG.nd rfl (Or.inl rfl) rfl (iS (c:=s.heap.objs.size+1) (j:=0) rfl (by decide +kernel) (by decide +kernel) rfl rfl rfl rfl rfl) (bJ (pv 5)) (fun _ _ _ _=>(aL (i:=0) (show (["at","one"]:List Str).Nodup by decide +kernel) rfl (Or.inl rfl))) (fun _ _ _ _=>(jE (aJ eC (bB (k8 (K:=K) rfl) (pv 1) (pv 0) (fun _ _=>rfl)) (pv 0) (aO _)))) (fun _ _ _ _=>(pv 0)))
   (aj (bM (aJ eC (bt fQ (aF aB rfl B.len bh (ae (pv 5) af)) aC) aC (aO _)) (aj (bf (eL IF Jc Jd bU (pv 3) (ae (eJ (ae d7 (ae (bt gc (aF aB rfl B.len bh (ae (pv 5) af)) aC) af))) af)))) (aj (bM (aJ eC (aF aB rfl B.len bh (ae (pv 6) af)) aC (aO _)) (aj (bf (eL IF Jc Jd bU (pv 3) (ae (eJ (ae d7 (ae (bt gc (aF aB rfl B.len bh (ae (pv 5) af)) aC) af))) af)))) (aj (bM (aJ eC (aF aB rfl B.len bh (ae (gh (NC:=["at","other"]) rfl (iS (c:=s.heap.objs.size+2) (j:=1) rfl (by decide +kernel) (by decide +kernel) rfl rfl rfl rfl rfl) (bJ (pv 5)) (fun _ _ _ _=>(aL (i:=0) (show (["at","other"]:List Str).Nodup by decide +kernel) rfl (Or.inl rfl))) (fun _ _ _ _=>(jE (aJ eC (bB (k8 (K:=K) rfl) (pv 1) (pv 0) (fun _ _=>rfl)) (pv 0) (aO _)))) (fun _ _ _ _=>(pv 0))) af)) aC (aO _)) (aj (bf (eL IF Jc Jd bU (pv 3) (ae (eJ (ae d7 (ae (bt gc (aF aB rfl B.len bh (ae (pv 5) af)) aC) af))) af)))) (aj (bf (eL IF Jc Jd bU (pv 3) (ae (eJ (ae d7 (ae (bt lR (bt gc (aF aB rfl B.len bh (ae (pv 5) af)) aC) aC) af))) af)))))))))))) a7)))
   (aj (aQ (pv 3)))))),?_⟩
  intro d hd;have s0:aG H (upd H d (.dK [])):=aA hd;refine⟨(by show 0<=sizeLine;decide),fun l hl=>?_⟩;have s1:aG (upd H d (.dK [])) (upd (upd H d (.dK [])) l (.lst [])):=aA hl;have hd1:=s1 _ _ (ah (H:=H) (a:=d) (o:=.dK []));have hl1:upd (upd H d (.dK [])) l (.lst []) l=some (.lst []):=ah;have hlH:H l=none:=s0.free hl;have s01:=s0.trans s1;generalize upd (upd H d (.dK [])) l (.lst [])=H1 at s1 hd1 hl1 s01;have hlm:((nV ms).length:Int)=2*n:=by rw[aI,W.len];omega
  refine⟨_,rfl,a,_,rfl,.inl (SqL.of (s01 _ _ ha)),_,rfl,by rw[hlm];omega,by rw[hlm];omega,gB (lo:=0) (n:=((nV ms).length:Int).toNat) (fun i σ H2=>∃ (v4 v5 v6:Option V) (kv:List (Key×V)),σ=[some (.ref a),some (.ref b),some (.ref d),some (.ref l),v4,v5,v6]/\aG H H2/\H2 d=some (.dK kv)/\kv.length<=80*i/\TsT Mir.lf H2 l (c9 n ms os i) /\
    ∀ j:Nat,j<2*n->((bD kv (Sum.inl (j:Int):Key)).isSome=true↔∃ y,y<i/\ao (at0 ms) (at0 os) y j))
   ⟨none,none,none,[],rfl,s01,hd1,HV _,TsT.nil hl1,fun j hj=>?_⟩ ?_ ?_⟩
  ·constructor
   ·intro z;cases z
   ·rintro⟨y,hy,_⟩;omega
  ·rintro i σ H2 hi ⟨v4,v5,v6,kv,rfl,s2,hd2,hkl,hT2,hkn⟩;have hi':i<2*n:=by rw[hlm] at hi;omega
   rw[KI];have isL:(bD kv (Sum.inl (i:Int):Key)).isSome=true↔¬ aX (at0 ms) (at0 os) i:=by
    rw[hkn i hi'];constructor
    ·rintro⟨y,h1,h2⟩ hL;have:=hL y (h2.symm T (by omega));omega
    ·intro hn;refine Ia fun no=>hn fun y hy=>Ia fun z=>no ⟨y,by omega,hy.symm T hi'⟩
   refine⟨_,rfl,_,rfl,d,_,rfl,nQ.k (k:=Sum.inl (i:Int)) hd2,_,rfl,?_⟩;refine d8 (fun h1=>?_) (fun h1=>?_)
   ·have hns:¬ (bD kv (Sum.inl (i:Int):Key)).isSome=true:=fun z=>by rw[z] at h1;cases h1
    have hL:aX (at0 ms) (at0 os) i:=Ia fun z=>hns (isL.mpr z)
    have hcl:rE n ms os (fun j=>(bD kv (Sum.inl (j:Int):Key)).isSome=true):=fun j hj hs=>by
     obtain⟨y,y1,y2⟩:=(hkn j hj).mp hs;exact⟨(hkn _ (T.fl j hj)).mpr ⟨y,y1,y2.sf⟩,(hkn _ (T.gl j hj)).mpr ⟨y,y1,y2.sg⟩⟩
    refine⟨_,rfl,_,rfl,_,rfl,_,rfl,a,b,d,n,i,ms,os,kv,rfl,s2 _ _ ha,W,s2 _ _ hb,WO,hi',hd2,by omega,hcl,hns,fun le L kv3 H3 hle s3 hl3 C hd3 GP DU=>?_⟩;have s03:aG H H3:=fun c o q=>s3 c o (fun z=>by rw[z,hd] at q;cases q) (s2 _ _ q)
    have hLl:L.length<=80:=by
     have z:=Th.sub_len C.nd (m:=Ig (2*n)) fun y hy=>Ii.mpr (((C.mem y).mp hy).lt T hi')
     rw[Ij] at z;omega
    have kn':∀ j:Nat,j<2*n->((bD kv3 (Sum.inl (j:Int):Key)).isSome=true↔∃ y,y<i+1/\ao (at0 ms) (at0 os) y j):=fun j hj=>by
     rw[DU j hj,hkn j hj];constructor
     ·rintro(⟨y,h2,h3⟩ | h)
      ·exact⟨y,by omega,h3⟩
      ·exact⟨i,by omega,h⟩
     ·rintro⟨y,h2,h3⟩;by_cases c:y=i
      ·subst c;exact .inr h3
      ·exact .inl ⟨y,by omega,h3⟩
    have hT3:=TsT.EZ hT2 hd2 s3;have hll:((nV L).length:Int)=L.length:=by rw[aI]
    have od:=jn T hi' C;have ecl:=Th.jm C (Th.lA T hi');have ha3:=s03 _ _ ha;have hb3:=s03 _ _ hb;have hbl:=qu n ms os i;have ndl:d≠l:=fun z=>by obtain⟨vs,w1,_⟩:=hT2.len;rw[<- z,hd2] at w1;cases w1
    have fin:∀ (kk:Kd) (q:Nat) (v6:Option V) (H4:Hp) (tp:Addr),Th.kd (at0 ms) (at0 os) i=kk->lack (2*n) (at0 ms) (at0 os) i=q->aG H3 H4->H4 tp=none->∃ vs,upd H4 tp (.tup [.str (ks kk),.int (q:Nat)]) l=some (.lst vs)/\vs.length<sizeLine /\
      ∃ (v4 v5 v7:Option V) (kv:List (Key×V)),[some (.ref a),some (.ref b),some (.ref d),some (.ref l),some (.int (i:Nat)),some (.ref le),v6]=[some (.ref a),some (.ref b),some (.ref d),some (.ref l),v4,v5,v7]/\aG H (upd (upd H4 tp (.tup [.str (ks kk),.int (q:Nat)])) l (.lst (vs++[.ref tp])))/\upd (upd H4 tp (.tup [.str (ks kk),.int (q:Nat)])) l (.lst (vs++[.ref tp])) d=some (.dK kv)/\kv.length<=80*(i+1) /\
       TsT Mir.lf (upd (upd H4 tp (.tup [.str (ks kk),.int (q:Nat)])) l (.lst (vs++[.ref tp]))) l (c9 n ms os (i+1))/\∀ j:Nat,j<2*n->((bD kv (Sum.inl (j:Int):Key)).isSome=true↔∃ y,y<i+1/\ao (at0 ms) (at0 os) y j):=fun kk q v6 H4 tp e1 e2 s4 htp=>by
     have s5:aG H4 (upd H4 tp (.tup [.str (ks kk),.int (q:Nat)])):=aA htp;obtain⟨vs,y1,y2,y3⟩:=(hT3.same (s4.trans s5)).snoc (t:=tp) (x:=(kk,q)) ah;refine⟨vs,y1,bx (by omega),some (.int (i:Nat)),some (.ref le),v6,kv3,rfl,(s03.trans (s4.trans s5)).upd hlH,?_,by omega,?_,kn'⟩
     ·rw[aE ndl];exact s5 _ _ (s4 _ _ hd3)
     ·rw[oR,if_pos hL,e1,e2];exact y3
    have lo1:=Th.qo T hi' C;have lo2:=Th.vV T hi' C
    let fa:Nat->Bool:=fun y=>decide (at0 ms y=y)
    let fb:Nat->Bool:=fun y=>decide (at0 os y=y)
    refine⟨_,rfl,le,rfl,⟨_,SqL.of hl3⟩,fun D hD=>eE (K:=K) (a:=le) (xs:=nV L) (fun j σ H4=>∃ v:Option V,σ=[v,some (.ref a)]/\aG H3 H4/\H4 D=some (.lst (nV ((L.take j).filter fa)))) ⟨none,rfl,aA hD,ah⟩ (fun j σ H4 _ ⟨_,_,s4,_⟩=>SqL.of (s4 _ _ hl3)) ?_ ?_⟩
    ·rintro j z σ H4 hz ⟨v,rfl,s4,h4⟩;obtain⟨x,hx,rfl⟩:=df hz;have hxl:=((C.mem x).mp (Ib hx)).lt T hi';refine⟨_,rfl,_,rfl,a,_,_,_,rfl,rfl,SqL.of (s4 _ _ ha3),W.ix hxl,_,rfl,rfl,_,rfl,?_⟩;refine d8 (fun q1=>?_) (fun q1=>?_)
     ·have q1:at0 ms x=x:=by have z:=of_decide_eq_true q1;injection z with z;omega
      refine⟨_,rfl,_,h4,bx ?_,some (.int (x:Nat)),rfl,s4.upd hD,?_⟩
      ·rw[aI];have z:=IP fa (L.take j);rw[Iw] at z;omega
      ·rw[ah,Mir.take_snoc hx,IE,IH (by exact decide_eq_true q1),JJ,iT]
     ·have q1:¬ at0 ms x=x:=fun z=>q1 (decide_eq_true (by rw[z]))
      refine⟨some (.int (x:Nat)),rfl,s4,?_⟩;rw[h4,Mir.take_snoc hx,IE,II (by show ¬ fa x=true;simp only[fa,decide_eq_true_eq];exact q1),JJ,Iy]
    ·rintro σ H4 ⟨v,rfl,s4,h4⟩;rw[aI,IV] at h4;have hl4:=s4 _ _ hl3;have hT4:=hT3.same s4;obtain⟨vs0,w0,_⟩:=hT4.len;have eh:(L.length:Int)/2=((L.length/2:Nat):Int):=by omega
     refine⟨_,rfl,le,_,rfl,.inl (SqL.of hl4),_,_,rfl,rfl,(by show (0:Int)<2;decide),rfl,_,rfl,?_⟩;refine d8 (fun h2=>?_) (fun h2=>?_)
     ·have o:L.length%2=1:=by
       have z:=of_decide_eq_true h2;injection z with z;rw[hll] at z;omega
      refine⟨_,rfl,.inl ⟨rfl,_,SqL.of w0⟩,_,rfl,le,_,rfl,.inl (SqL.of hl4),_,_,rfl,rfl,⟨by decide,by decide⟩,(by show 2<=sizeLine;decide),fun tp htp=>?_⟩;dsimp only;rw[hll,eh];have ek:Th.kd (at0 ms) (at0 os) i=.odd:=by unfold Th.kd;rw[if_pos (od.mp o)]
      obtain⟨vs,y1,y2,y3⟩:=fin .odd (L.length/2) (some (.ref D)) H4 tp ek (by unfold lack;rw[ek,if_neg (by decide),<- ecl]) s4 htp;exact⟨l,vs,_,rfl,rfl,y1,y2,y3⟩
     ·have o:¬ L.length%2=1:=fun z=>h2 (decide_eq_true (by
       show V.int (((nV L).length:Int)%2)=V.int 1;rw[hll];have z2:(L.length:Int)%2=1:=by omega
       rw[z2]))
      have no:¬ gJ (at0 ms) (at0 os) i:=fun z=>o (od.mpr z)
      refine⟨_,rfl,D,_,rfl,.inl (SqL.of h4),rfl,_,rfl,?_⟩;refine d8 (fun h3=>?_) (fun h3=>?_)
      ·have la:eM (at0 ms) (at0 os) i:=(lo1 no).mp (by
        have z:=of_decide_eq_true h3;injection z with z;rw[aI] at z;show (L.filter fa).length=2;omega)
       refine⟨_,rfl,.inl ⟨rfl,_,SqL.of w0⟩,_,rfl,le,_,rfl,.inl (SqL.of hl4),_,_,rfl,rfl,⟨by decide,by decide⟩,(by show 2<=sizeLine;decide),fun tp htp=>?_⟩;dsimp only;rw[hll,eh];have ek:Th.kd (at0 ms) (at0 os) i=.bare:=by unfold Th.kd;rw[if_neg no,if_pos la]
       obtain⟨vs,y1,y2,y3⟩:=fin .bare (L.length/2) (some (.ref D)) H4 tp ek (by unfold lack;rw[ek,if_neg (by decide),<- ecl]) s4 htp;exact⟨l,vs,_,rfl,rfl,y1,y2,y3⟩
      ·have la:¬ eM (at0 ms) (at0 os) i:=fun z=>h3 (decide_eq_true (by
        have z:=(lo1 no).mpr z;have z:(L.filter fa).length=2:=z;rw[aI,z]
        rfl))
       refine⟨_,rfl,le,rfl,⟨_,SqL.of hl4⟩,fun D2 hD2=>eE (K:=K) (a:=le) (xs:=nV L) (fun j σ H5=>∃ v:Option V,σ=[v,some (.ref b)]/\aG H4 H5/\H5 D2=some (.lst (nV ((L.take j).filter fb)))) ⟨none,rfl,aA hD2,ah⟩ (fun j σ H5 _ ⟨_,_,s5,_⟩=>SqL.of (s5 _ _ hl4)) ?_ ?_⟩
       ·rintro j z σ H5 hz ⟨v,rfl,s5,h5⟩;obtain⟨x,hx,rfl⟩:=df hz;have hxl:=((C.mem x).mp (Ib hx)).lt T hi';refine⟨_,rfl,_,rfl,b,_,_,_,rfl,rfl,SqL.of (s5 _ _ (s4 _ _ hb3)),WO.ix hxl,_,rfl,rfl,_,rfl,?_⟩;refine d8 (fun q1=>?_) (fun q1=>?_)
        ·have q1:at0 os x=x:=by have z:=of_decide_eq_true q1;injection z with z;omega
         refine⟨_,rfl,_,h5,bx ?_,some (.int (x:Nat)),rfl,s5.upd hD2,?_⟩
         ·rw[aI];have z:=IP fb (L.take j);rw[Iw] at z;omega
         ·rw[ah,Mir.take_snoc hx,IE,IH (by exact decide_eq_true q1),JJ,iT]
        ·have q1:¬ at0 os x=x:=fun z=>q1 (decide_eq_true (by rw[z]))
         refine⟨some (.int (x:Nat)),rfl,s5,?_⟩;rw[h5,Mir.take_snoc hx,IE,II (by show ¬ fb x=true;simp only[fb,decide_eq_true_eq];exact q1),JJ,Iy]
       ·rintro σ H5 ⟨v,rfl,s5,h5⟩;rw[aI,IV] at h5;have hl5:=s5 _ _ hl4;have s45:=s4.trans s5;have w5:=s5 _ _ w0;refine⟨D2,_,rfl,.inl (SqL.of h5),rfl,_,rfl,?_⟩;refine d8 (fun h6=>?_) (fun h6=>?_)
        ·have lb:dm (at0 ms) (at0 os) i:=(lo2 no).mp (by
          have z:=of_decide_eq_true h6;injection z with z;rw[aI] at z;show (L.filter fb).length=2;omega)
         refine⟨_,rfl,.inl ⟨rfl,_,SqL.of w5⟩,_,rfl,le,_,rfl,.inl (SqL.of hl5),_,_,rfl,rfl,⟨by decide,by decide⟩,(by show 2<=sizeLine;decide),fun tp htp=>?_⟩;dsimp only;rw[hll,eh];have ek:Th.kd (at0 ms) (at0 os) i=.tied:=by unfold Th.kd;rw[if_neg no,if_neg la,if_pos lb]
         obtain⟨vs,y1,y2,y3⟩:=fin .tied (L.length/2) (some (.ref D)) H5 tp ek (by unfold lack;rw[ek,if_neg (by decide),<- ecl]) s45 htp;exact⟨l,vs,_,rfl,rfl,y1,y2,y3⟩
        ·have lb:¬ dm (at0 ms) (at0 os) i:=fun z=>h6 (decide_eq_true (by
          have z:=(lo2 no).mpr z;have z:(L.filter fb).length=2:=z;rw[aI,z]
          rfl))
         refine⟨_,rfl,.inl ⟨rfl,_,SqL.of w5⟩,_,rfl,le,_,rfl,.inl (SqL.of hl5),_,_,rfl,rfl,⟨by decide,by decide⟩,_,_,rfl,rfl,(by show 2<=sizeLine;decide),fun tp htp=>?_⟩;dsimp only;have pos:0<L.length:=Kq ((C.mem i).mpr (ao.refl i));rw[hll,show (L.length:Int)/2-1=((L.length/2-1:Nat):Int) by omega];have ek:Th.kd (at0 ms) (at0 os) i=.ring:=by unfold Th.kd;rw[if_neg no,if_neg la,if_neg lb]
         obtain⟨vs,y1,y2,y3⟩:=fin .ring (L.length/2-1) (some (.ref D)) H5 tp ek (by unfold lack;rw[ek,if_pos rfl,<- ecl]) s45 htp;exact⟨l,vs,_,rfl,rfl,y1,y2,y3⟩
   ·have hs:(bD kv (Sum.inl (i:Int):Key)).isSome=true:=Ia fun z=>h1 (by rw[K4] at z;rw[z];rfl)
    refine⟨some (.int (i:Nat)),v5,v6,kv,rfl,s2,hd2,by omega,by rw[oR,if_neg (isL.mp hs),Iy];exact hT2,fun j hj=>?_⟩;rw[hkn j hj];constructor
    ·rintro⟨y,h2,h3⟩;exact⟨y,by omega,h3⟩
    ·rintro⟨y,h2,h3⟩;by_cases c:y=i
     ·subst c;obtain⟨x,x1,x2⟩:=(hkn y hi').mp hs;exact⟨x,x1,x2.trans h3⟩
     ·exact⟨y,by omega,h3⟩
  ·rintro σ H2 ⟨v4,v5,v6,kv,rfl,s2,hd2,hkl,hT2,hkn⟩;have en':((nV ms).length:Int).toNat=2*n:=by rw[hlm];omega
   rw[en'] at hT2;exact⟨_,rfl,k l H2 s2 hT2⟩
end
section
seal L2.PSs L2.PS L2.PE L2.PT
variable {P:Program}{w:World}{K:HS}{mg:Str->Option Value}{base:Heap}
theorem sP {f:Addr}{fd:FuncData}(B:Bl mg)(F:Fn K mg "_law_mixed" hG ["lacks"] f fd):aS P w K mg base CX0 1 f fd ["lacks"] Bx:=by
 refine F.fn.ok lG (fun vs H Q E h=>?_) (fun cdv A outer s H vs Q E hr h=>?_)
 ·obtain⟨l,xs,rfl,_⟩:=h
  rfl
 ·obtain⟨l,xs,rfl,hT,hlen,k⟩:=h;refine⟨_,(ag (rp (ix:=1) (NC:=["kind","lack"]) lG.nd rfl (Or.inl rfl) rfl (nz rfl (by decide +kernel) (by decide +kernel)) (bJ (pv 0)) (fun _ _ _ _=>(rj (K:=K) (n:=2) rfl rfl (bH (aL (i:=0) (show (["kind","lack"]:List Str).Nodup by decide +kernel) rfl (Or.inl rfl)) (bH (aL (i:=1) (show (["kind","lack"]:List Str).Nodup by decide +kernel) rfl (Or.inl rfl)) gb)))) (fun _ _ _ _=>jD) (fun _ _ _ _=>(pv 0)))
   (aj (aQ (yY (kK qa d7 (pv 1) (by with_unfolding_all rfl)) (yX (kK qa d7 (pv 1) (by with_unfolding_all rfl))))))),?_⟩
  obtain⟨ts,t1,t2,t3⟩:=hT;refine⟨_,rfl,l,rfl,⟨_,SqL.of t1⟩,fun D hD=>eE (K:=K) (a:=l) (xs:=ts.map V.ref) (fun i σ H2=>∃ v0 v1:Option V,σ=[v0,v1]/\aG H H2/\H2 D=some (.lst ((xs.take i).map fun x=>V.str (ks x.1)))) ⟨none,none,rfl,aA hD,ah⟩ (fun i σ H2 _ ⟨_,_,_,s2,_⟩=>SqL.of (s2 _ _ t1)) ?_ ?_⟩
  ·rintro i y σ H2 hy ⟨v0,v1,rfl,s2,h2⟩;have hi:i<ts.length:=by have z:=(HR.mp hy).1;rw[HQ] at z;exact z
   obtain⟨x,hx⟩:∃ x,xs[i]?=some x:=⟨_,HP (by omega)⟩
   have e2:=t3 i _ x (HP hi) hx;rw[HX,HP hi] at hy;obtain rfl:=Option.some.inj hy;refine⟨_,_,rfl,SqT.of (s2 _ _ e2),rfl,_,_,rfl,_,_,rfl,rfl,?_⟩;refine⟨_,rfl,_,h2,bx (by rw[HQ,Iw];omega),_,_,rfl,s2.upd hD,?_⟩;rw[ah,Mir.take_snoc hx,IS]
   rfl
  ·rintro σ H2 ⟨v0,v1,rfl,s2,h2⟩;rw[HQ,t2,IV] at h2;have e:(xs.map fun x=>V.str (ks x.1))=(xs.map (·.1)).map fun x=>V.str (ks x):=by rw[Jf];rfl
   rw[e] at h2;refine⟨_,rfl,D,_,rfl,.inl (SqL.of h2),rfl,oQ _,?_⟩;have i1:=mx .bare (xs.map (·.1));have i2:=mx .tied (xs.map (·.1));refine⟨_,rfl,?_⟩;show (if inV (V.str (ks .bare)) _=true then _ else _);rw[i1];by_cases hb:Kd.bare∈xs.map (·.1)
   ·have e0:Mir.both (xs.map (·.1))=decide (Kd.tied∈xs.map (·.1)):=by unfold Mir.both;rw[decide_eq_true hb,Bool.true_and]
    rw[decide_eq_true hb];refine mj rfl ?_;refine⟨_,rfl,D,_,rfl,.inl (SqL.of h2),rfl,oQ _,?_⟩;show Q (V.bl (inV (V.str (ks .tied)) _)) H2;rw[i2,<- e0];exact k H2 s2
   ·have e0:Mir.both (xs.map (·.1))=false:=by unfold Mir.both;rw[decide_eq_false hb,Kn]
    rw[decide_eq_false hb];refine ij rfl ?_;show Q (V.bl false) H2;rw[<- e0];exact k H2 s2
end
section
seal L2.PSs L2.PS L2.PE L2.PT L2.PA
variable {P:Program}{w:World}{K:HS}{mg:Str->Option Value}{base:Heap}
theorem pQ {f f1 f2:Addr}{fd fd1 fd2:FuncData}(B:Bl mg)(F:Fn K mg "_law_closed" gy ["work","other","known"] f fd)(i8:Fn K mg "_law_done" gR ["mates","one","other"] f1 fd1)(kH:aS P w K mg base CX0 2 f1 fd1 ["mates","one","other"] qk)
  (cN:Fn K mg "_law_apart" fI ["one","other"] f2 fd2) (dz:aS P w K mg base CX0 3 f2 fd2 ["one","other"] oI):aS P w K mg base CX0 4 f fd ["work","other","known"] Ax:=by
 refine F.fn.ok dY (fun vs H Q E h=>?_) (fun cdv A outer s H vs Q E hr h=>?_)
 ·obtain⟨a,b,d,n,ws,os,F,rfl,_⟩:=h
  rfl
 ·obtain⟨a,b,d,n,ms,os,F,rfl,ha,W,hb,WO,hn,hd,hcl,k⟩:=h;have hu:=kO hr;refine⟨_,(ag (aK (i:=3) dY.nd rfl (Or.inl rfl) (a8 dz cN (hr.mono (by decide)) (ae (pv 0) (ae (pv 1) af))))
   (ag (b6 PassesOwn.never rfl (gA rfl B.range (ae (aF aB rfl B.len bh (ae (pv 0) af)) af)) (aL (i:=4) dY.nd rfl (Or.inl rfl)) (aj (b6 PassesOwn.never rfl (xV rfl B.range (ae (pv 4) (ae (aF aB rfl B.len bh (ae (pv 0) af)) af))) (aL (i:=5) dY.nd rfl (Or.inl rfl)) (ag (aK (i:=6) dY.nd rfl (Or.inl rfl) (a8 kH i8 (hr.mono (by decide)) (ae (pv 0) (ae (pv 4) (ae (pv 5) af)))))
   (aj (bM (PW.pt (iN (aJ AQ (pv 6) yW (aO _)) (fZ (nJ (iA hu (bg bK rfl B.tuple dQ (ae (pv 6) af)) (pv 2)))))) (aj (bM (aJ eC (a8 dz cN (hr.mono (by decide)) (ae (pv 6) (ae (pv 1) af))) (bt lR (pv 3) aC) (aO _)) (aj (aQ fX)) a7)) a7))))))
   (aj (aQ fX)))),?_⟩
  have hlm:((nV ms).length:Int)=2*n:=by rw[aI,W.len];omega
  refine⟨_,rfl,_,rfl,a,b,n,ms,os,rfl,ha,W,hb,WO,fun H0 s0=>?_⟩;refine⟨_,rfl,a,_,rfl,.inl (SqL.of (s0 _ _ ha)),_,rfl,by rw[hlm];omega,by rw[hlm];omega,gB (lo:=0) (n:=((nV ms).length:Int).toNat) (fun i σ H3=>∃ v4 v5 v6:Option V,σ=[some (.ref a),some (.ref b),some (.ref d),some (.int (aH n ms os:Nat)),v4,v5,v6]/\aG H H3) ⟨none,none,none,rfl,s0⟩ ?_ ?_⟩
  ·rintro i σ H3 hi ⟨v4,v5,v6,rfl,s3⟩;have hi':i<2*n:=by rw[hlm] at hi;omega
   rw[KI];refine⟨_,rfl,_,rfl,a,_,rfl,.inl (SqL.of (s3 _ _ ha)),?_⟩;refine⟨_,_,rfl,⟨by omega,by omega,by rw[hlm];omega,by rw[hlm];omega⟩,gB (lo:=(i:Nat)) (n:=(((nV ms).length:Int)-(i:Nat)).toNat) (fun j σ H4=>∃ v5 v6:Option V,σ=[some (.ref a),some (.ref b),some (.ref d),some (.int (aH n ms os:Nat)),some (.int (i:Nat)),v5,v6]/\aG H H4) ⟨v5,v6,rfl,s3⟩ ?_ ?_⟩
   ·rintro j σ H4 hj ⟨v5,v6,rfl,s4⟩;have hj':i+j<2*n:=by rw[hlm] at hj;omega
    have ej:((i:Nat):Int)+(j:Nat)=((i+j:Nat):Int):=by omega
    rw[ej];refine⟨_,rfl,_,rfl,_,rfl,a,n,i,i+j,ms,rfl,s4 _ _ ha,W,by omega,hj',fun hm H5 s5=>?_,fun hm lb H5 hlb s5 hb5=>?_⟩
    ·refine⟨_,rfl,rfl,_,rfl,kP (kP ?_)⟩;exact⟨_,_,rfl,s4.trans s5⟩
    ·refine⟨_,rfl,rfl,_,rfl,tI ?_⟩;have WB:=dS W (p:=i) (q:=i+j) (by omega) hj' hm;have s45:=s4.trans s5;refine⟨_,rfl,lb,_,rfl,.inl hb5,fun t H6 s6 h6=>?_⟩;have s46:=s45.trans s6;refine⟨_,rfl,d,_,rfl,nQ.t (s46 _ _ hd) (o5 h6),?_⟩;by_cases hk:beh ms i (i+j)∈F
     ·rw[qG hk];refine⟨_,rfl,kP ?_⟩;exact⟨_,_,rfl,s46⟩
     ·rw[mD hk];refine⟨_,rfl,tI ?_⟩;refine⟨_,rfl,_,rfl,lb,b,n,_,os,rfl,s6 _ _ hb5,WB,s46 _ _ hb,WO,fun H7 s7=>?_⟩;have ho:aH n (beh ms i (i+j)) os+1≠aH n ms os:=fun z=>hk (hcl _ (BH W (by omega) hj' hm z))
      refine⟨_,rfl,_,_,rfl,rfl,rfl,_,rfl,ij (uw (by omega)) ?_⟩;exact⟨_,_,rfl,s46.trans s7⟩
   ·rintro σ H4 ⟨v5,v6,rfl,s4⟩;exact⟨_,_,_,rfl,s4⟩
  ·rintro σ H3 ⟨v4,v5,v6,rfl,s3⟩;exact k H3 s3
end
section
seal L2.PSs L2.PS L2.PE L2.PT L2.PA
variable {P:Program}{w:World}{K:HS}{mg:Str->Option Value}{base:Heap}
theorem pR {f f1:Addr}{fd fd1:FuncData}(B:Bl mg)(F:Fn K mg "_law_work" iY ["found","size"] f fd)(ic:Fn K mg "_law_whole" fB ["found"] f1 fd1)(jB:aS P w K mg base CX0 1 f1 fd1 ["found"] rq):aS P w K mg base CX0 2 f fd ["found","size"] BI:=by
 refine F.fn.ok mT (fun vs H Q E h=>?_) (fun cdv A outer s H vs Q E hr h=>?_)
 ·obtain⟨t,n,ws,rfl,_⟩:=h
  rfl
 ·obtain⟨t,n,ws,rfl,ht,W,k⟩:=h;refine⟨_,(ag (bM (PW.pt (mK (jg (jf (aF kQ rfl B.isinstance fc (ae (pv 0) (ae (nv (v:=.ty "tuple") rfl B.tuple dQ rfl) af))))) (lP (aJ ja (aF aB rfl B.len bh (ae (pv 0) af)) (pv 1) (aO _))))) (aj (aQ fX)) a7)
   (ag (b6 PassesOwn.never rfl (qP (pv 0)) (aL (i:=2) mT.nd rfl (Or.inl rfl)) (aj (bM (PW.pt (mK (jg (jf (a8 jB ic (hr.mono (by decide)) (ae (pv 2) af)))) (mK (aJ nN (pv 2) aC (aO _)) (lP (aJ En (pv 2) (pv 1) (aO _)))))) (aj (aQ fX)) a7)))
   (aj (aQ (aF (uY rfl) rfl B.all DK (ae (gh (NC:=["end","found"]) rfl (iS (c:=s.heap.objs.size+1) (j:=0) rfl (by decide +kernel) (by decide +kernel) rfl rfl rfl rfl rfl) (gA rfl B.range (ae (pv 1) af)) (fun _ _ _ _=>(aL (i:=0) (show (["end","found"]:List Str).Nodup by decide +kernel) rfl (Or.inl rfl))) (fun _ _ _ _=>jD) (fun _ _ _ _=>(kK eC (bB (nD (K:=K) rfl) (pv 1) (bB (nD (K:=K) rfl) (pv 1) (pv 0) (fun _ _=>rfl)) (fun _ _=>rfl)) (pv 0) (aO _)))) af)))))),?_⟩
  have wl:ws.length=2*n:=W.len;have hs:=W.small;refine⟨_,rfl,_,_,_,_,rfl,.tup ht,tP _,_,rfl,kP ?_⟩;refine⟨_,rfl,t,_,rfl,.inr (SqT.of ht),_,rfl,rfl,_,rfl,xa (by rw[aI,wl]) ?_⟩;refine⟨_,rfl,t,rfl,⟨_,SqT.of ht⟩,wQ (K:=K) (a:=t) (xs:=nV ws) (fun i σ H2=>∃ v2:Option V,σ=[some (.ref t),some (.int ((2*n:Nat):Int)),v2]/\H2=H) ⟨none,rfl,rfl⟩ (fun i σ H2 _ ⟨_,_,e⟩=>by rw[e];exact SqT.of ht) ?_ ?_⟩
  ·rintro i x σ H2 hx ⟨v2,rfl,rfl⟩;have hi:=(HR.mp hx).1;rw[aI,wl] at hi;unfold nV at hx;rw[HX] at hx;obtain⟨y,ey,rfl⟩:=Jh.mp hx;have e:at0 ws i=y:=by unfold at0;rw[Ji,ey];rfl
   have lt:=W.wk.lt i hi;rw[e] at lt;refine⟨_,rfl,_,rfl,_,rfl,kP ?_⟩;refine⟨_,rfl,_,_,rfl,rfl,_,rfl,ij (decide_eq_false (by omega)) ?_⟩;refine⟨_,rfl,_,rfl,_,_,rfl,rfl,_,rfl,ij (decide_eq_false (by omega)) ?_⟩;exact⟨_,rfl,rfl⟩
  ·rintro σ H2 ⟨v2,rfl,rfl⟩;refine⟨_,rfl,_,rfl,by omega,by omega,fun D hD=>?_⟩;refine vy (lo:=0) (n:=(((2*n:Nat):Int)).toNat) (fun i σ H3=>∃ v:Option V,σ=[v,some (.ref t)]/\aG H2 H3/\H3 D=some (.lst ((KA i true).map V.bl))) ⟨none,rfl,aA hD,ah⟩ ?_ ?_
   ·rintro i σ H3 hi ⟨v,rfl,s3,h3⟩;rw[Iz] at hi;rw[KI];have g:∀ j,j<2*n->(nV ws)[j]?=some (.int (at0 ws j:Nat)):=fun j hj=>by
     unfold nV;rw[HX,HP (by omega)];have e:at0 ws j=ws[j]:=by unfold at0;rw[Ji,HP (by omega)];rfl
     rw[e]
     rfl
    have lt:=W.wk.lt i hi;refine Gb ⟨_,rfl,_,rfl,_,rfl,t,_,_,_,rfl,rfl,SqT.of (s3 _ _ ht),gf (g i hi),t,_,_,_,rfl,rfl,SqT.of (s3 _ _ ht),gf (g _ lt),_,rfl,rfl,_,h3,JF (show _<=100 by rw[HQ,KZ];omega) (by decide),_,rfl,s3.upd hD,?_⟩;rw[ah,W.wk.inv i hi,decide_eq_true rfl,List.replicate_succ',IS]
    rfl
   ·rintro σ H3 ⟨v,rfl,s3,h3⟩;refine⟨D,_,rfl,h3,?_⟩;have e:(KA (((2*n:Nat):Int)).toNat true).all id=true:=by simp
    rw[e];exact k H3 s3
end
theorem BU {N G:Prop}(m:N->G)(x:N):G:=m x
section
seal L2.PSs L2.PS L2.PE L2.PT L2.PA
variable {P:Program}{w:World}{K:HS}{mg:Str->Option Value}{base:Heap}
theorem DV {yP AG:Addr}{jQ:Tok}(B:Bl mg)(ZD:vC K mg "BadDeed" yP)(Z:vC K mg "Unlike" AG)(dP:mg "MOST_APART_LISTED" = some (.int 5 jQ))
  {f0 f1 f2 f3 f4 f5 f6 f7 f8 f9 f10 f11 f12 f13 f14 f15 f16 f17 f18 f19 f20 f21 f22 f23 f24 f25 f26 f27 f28 f29 f30 f31 f32 f33 f34 f35 f36:Addr} {fd0 fd1 fd2 fd3 fd4 fd5 fd6 fd7 fd8 fd9 GQ GS GU GV GW GX GY GZ G0 G1 G3 G4 G5 G6 G7 G8 G9 Ha Hb Hc Hd He Hf Hg Hh Hi Fq:FuncData} (hV:Fn K mg "staves_in" fu ["work"] f0 fd0) (d5:Fn K mg "refuse_unlike" cY ["one","other"] f1 fd1) (cV:Fn K mg "loose_ends" dD ["work"] f2 fd2) (fL:Fn K mg "fits_work" du ["work","deed"] f3 fd3) (nu:Fn K mg "refuse_misfit" cZ ["work","deed"] f4 fd4) (hZ:Fn K mg "reclasped" fv ["work","deed"] f5 fd5) (cW:Fn K mg "freed_ends" cS ["work","deed"] f6 fd6) (sQ:Fn K mg "clasp_ends" eO ["mates","one","other"] f7 fd7) (gz:Fn K mg "least_pair" eP ["work","deed"] f8 fd8) (eZ:Fn K mg "threads" gF ["one","other"] f9 fd9) (eS:Fn K mg "open_threads" dv ["one","other"] f10 GQ) (bq:Fn K mg "walked_thread" b9 ["start","first","second"] f11 GS) (fK:Fn K mg "mark_ends" fz ["seen","ends"] f12 GU) (hU:Fn K mg "least_end" fA ["thread"] f13 GV) (eT:Fn K mg "thread_score" dw ["one","other"] f14 GW) (i7:Fn K mg "apart_by" gQ ["one","other"] f15 GX) (eU:Fn K mg "nearer_deeds" dy ["one","other"] f16 GY) (iM:Fn K mg "ends_in" iJ ["laid","kind"] f17 GZ) (di:Fn K mg "splitting_pairs" cz ["ends"] f18 G0) (dH:Fn K mg "crossing_pairs" cM ["bare","tied"] f19 G1) (bp:Fn K mg "ordered_pair" bX ["end","mate"] f20 G3) (d6:Fn K mg "refuse_beyond" c6 ["most","one","other"] f21 G4) (gW:Fn K mg "works_on_way" eQ ["one","other"] f22 G5) (cE:Fn K mg "_law_cell_at" dX ["script","k"] f23 G6) (ic:Fn K mg "_law_whole" fB ["found"] f24 G7) (fN:Fn K mg "_law_mates" fE ["flow","staves"] f25 G8) (lN:Fn K mg "_law_halves" gx ["script","most"] f26 G9) (fO:Fn K mg "_law_freed" fG ["mates","end"] f27 Ha) (i8:Fn K mg "_law_done" gR ["mates","one","other"] f28 Hb) (cF:Fn K mg "_law_walk" eo ["one","other","end","known"] f29 Hc) (h9:Fn K mg "_law_score" fH ["one","other"] f30 Hd) (cN:Fn K mg "_law_apart" fI ["one","other"] f31 He) (mY:Fn K mg "_law_lacks" g9 ["one","other"] f32 Hf) (mZ:Fn K mg "_law_mixed" hG ["lacks"] f33 Hg) (lO:Fn K mg "_law_closed" gy ["work","other","known"] f34 Hh) (pj:Fn K mg "_law_work" iY ["found","size"] f35 Hi) (Fs:Fn K mg "law" AE ["script"] f36 Fq):aS P w K mg base CX0 9 f36 Fq ["script"] (zp K):=by
 have gG:=wL (P:=P) (w:=w) (base:=base) B Z eZ d5 cV eS bq fK hU;have gS:=nj B eT eZ gG;have kF:=ve B i7 hV eT gS;have gU:=nq B eU eZ gG iM dH di bp fL gz cW;have jz:=sG (P:=P) (w:=w) (base:=base) B ZD hZ fL nu cW sQ;have fW:=lM d6 i7 kF;have jC:=nr B dP gW d6 fW eU gU hZ jz;have fj:=jA (P:=P) (w:=w) (base:=base) B cE;have jB:aS P w K mg base CX0 1 _ _ ["found"] rq:=sI B ic;have sR:=pP (P:=P) (w:=w) (base:=base) B lN cE fN;have kH:=vh (P:=P) (w:=w) (base:=base) B i8 fO;have dz:=sN (P:=P) (w:=w) (base:=base) B cN h9 cF;have vj:=sO (P:=P) (w:=w) (base:=base) B mY cF;have vk:=sP (P:=P) (w:=w) (base:=base) B mZ;have sS:=pQ B lO i8 kH cN dz;have wN:=pR B pj ic jB;refine Fs.fn.ok dO (fun vs H Q E h=>?_) (fun cdv A outer s H vs Q E hr h=>?_)
 ·obtain⟨a,ns,rfl,_⟩:=h
  rfl
 ·obtain⟨a,ns,rfl,hS,hlen,k⟩:=h;have hu:=kO hr;refine⟨_,(ag (aK (i:=1) dO.nd rfl (Or.inl rfl) aC)
   (ag (Dc (R:=fun D σ H1=>σ=[some (.ref a),some (.int 3),none,none,none,none,none,none,none,none,none,none,none,none]/\H1=H/\∀ m:Nat,m<=4->D.nx [some (.ref a),some (.int m),none,none,none,none,none,none,none,none,none,none,none,none] H1) (fun D σ H1 hR=>?mid))
   (ag (eV (a8 sR lN (hr.mono (by decide)) (ae (pv 0) (ae (pv 1) af))) (j5 rfl (bH (aL (i:=2) dO.nd rfl (Or.inl rfl)) (bH (aL (i:=3) dO.nd rfl (Or.inl rfl)) gb))))
   (ag (aK (i:=4) dO.nd rfl (Or.inl rfl) (a8 jC gW (hr.mono (by decide)) (ae (bg bK rfl B.tuple dQ (ae (pv 2) af)) (ae (bg bK rfl B.tuple dQ (ae (pv 3) af)) af))))
   (ag (bM (PW.pt (mK (jg (jf (aF kQ rfl B.isinstance fc (ae (pv 4) (ae (nv (v:=.ty "list") rfl B.list gi rfl) af))))) (mK (aJ (jW hu) (bg bK rfl B.tuple dQ (ae (pv 2) af)) (pv 4) (by with_unfolding_all rfl)) (lP (aJ (jW hu) (bg bK rfl B.tuple dQ (ae (pv 3) af)) (pv 4) (by with_unfolding_all rfl)))))) (aj (aQ fX)) a7)
   (ag (aK (i:=5) dO.nd rfl (Or.inl rfl) tE)
   (ag (b6 PassesOwn.never rfl (gA rfl B.range (ae (aF aB rfl B.len bh (ae (pv 4) af)) af)) (aL (i:=6) dO.nd rfl (Or.inl rfl)) (ag (bM (PW.pt (mK (jg (jf (a8 wN pj (hr.mono (by decide)) (ae (bB bN (pv 4) (pv 6) (fun _ _=>rfl)) (ae (aF aB rfl B.len bh (ae (pv 2) af)) af))))) (lP (PW.pt (iN (aJ tm (pv 6) aC (aO _)) (fZ (aJ (DL (Mq hu)) (bB bN (pv 4) (bt lR (pv 6) aC) (fun _ _=>rfl)) (bB bN (pv 4) (pv 6) (fun _ _=>rfl)) (aO _)))))))) (aj (aQ fX)) a7)
   (aj (kM hu (pv 5) (bB bN (pv 4) (pv 6) (fun _ _=>rfl)) fX rfl))))
   (ag (aK (i:=7) dO.nd rfl (Or.inl rfl) (a8 dz cN (hr.mono (by decide)) (ae (pv 2) (ae (pv 3) af))))
   (ag (b6 PassesOwn.never rfl (bJ (pv 4)) (aL (i:=8) dO.nd rfl (Or.inl rfl)) (ag (bM (aJ ja (bt jh (a8 dz cN (hr.mono (by decide)) (ae (pv 2) (ae (bg dA rfl B.list gi (ae (pv 8) af)) af))) (a8 dz cN (hr.mono (by decide)) (ae (bg dA rfl B.list gi (ae (pv 8) af)) (ae (pv 3) af)))) (pv 7) (aO _)) (aj (aQ fX)) a7)
   (aj (bM (jg (jf (a8 sS lO (hr.mono (by decide)) (ae (bg dA rfl B.list gi (ae (pv 8) af)) (ae (pv 3) (ae (pv 5) af)))))) (aj (aQ fX)) a7))))
   (ag (aK (i:=9) dO.nd rfl (Or.inl rfl) (a8 vj mY (hr.mono (by decide)) (ae (pv 2) (ae (pv 3) af))))
   (ag (aK (i:=10) dO.nd rfl (Or.inl rfl) aC)
   (ag (b6 PassesOwn.never rfl (bJ (pv 9)) (j5 rfl (bH (aL (i:=11) dO.nd rfl (Or.inl rfl)) (bH (aL (i:=12) dO.nd rfl (Or.inl rfl)) gb))) (aj (aK (i:=10) dO.nd rfl (Or.inl rfl) (bt lS (pv 10) (bB bN (gI (ae aC (ae aC (ae aC (ae aC (ae aC af)))))) (pv 12) (fun _ _=>rfl))))))
   (ag (bM (PW.pt (iN (jg (jf (a8 vk mZ (hr.mono (by decide)) (ae (pv 9) af)))) (fZ (aJ ja (aF aB rfl B.len bh (ae (pv 4) af)) (pv 10) (aO _))))) (aj (aQ fX)) a7)
   (ag (aK (i:=13) dO.nd rfl (Or.inl rfl) (bg dA rfl B.list gi (ae (pv 4) af)))
   (ag (bf (eL IF Jc Jd bU (pv 4) (ae (eJ af) af)))
   (aj (aQ (kK (vF 1 (hr.lt 1 (by decide))) (a8 jC gW (hr.mono (by decide)) (ae (bg bK rfl B.tuple dQ (ae (pv 2) af)) (ae (bg bK rfl B.tuple dQ (ae (pv 3) af)) af))) (pv 13) (aO _))))))))))))))))))),?_⟩
  case mid =>
   obtain⟨rfl,rfl,kk⟩:=hR;refine⟨_,(bM (aJ eC (bt fQ (bt gc (a8 fj cE (hr.mono (by decide)) (ae (pv 0) (ae aC af))) aC) aC) aC (aO _)) (aj (aK (i:=1) dO.nd rfl (Or.inl rfl) aC)) a7),?_⟩;refine⟨_,rfl,a,ns,0,rfl,hS,fun c=>?_⟩;refine⟨_,_,rfl,rfl,⟨by decide,by decide⟩,_,_,rfl,rfl,(by show (0:Int)<8;decide),rfl,_,rfl,?_⟩;refine d8 (fun _=>?_) (fun _=>?_)
   ·exact kk 4 (HV _)
   ·exact kk 3 (by decide)
  refine⟨rfl,rfl,fun m hm=>?_⟩;refine⟨_,rfl,_,rfl,a,ns,m,rfl,hS,hlen,by omega,fun n t l1 l2 ms os H1 hn s1 ht h1 W h2 WO f1' f2' n12=>?_⟩;refine⟨t,_,rfl,SqT.of ht,rfl,_,_,rfl,_,_,rfl,rfl,?_⟩;have hn4:n<=4:=by omega
  have few:∀ L:List (List Nat),L.Nodup->(∀ w∈L,Iso.Rch n os ms w)->L.length<128:=fun L nd h=>BN W WO hn4 nd h
  refine⟨_,rfl,l1,_,rfl,.inl h1,fun t1 H2 s2 ht1=>?_⟩;refine⟨_,rfl,l2,_,rfl,.inl (s2 _ _ h2),fun t2 H3 s3 ht2=>?_⟩;refine⟨t1,t2,n,ms,os,rfl,s3 _ _ ht1,W,ht2,WO,hn4,few,fun l L H4 fl s4 tL nd mem srt=>?_⟩;have n1l:l1≠l:=fun z=>by have q:=(s2.trans s3) _ _ h1;rw[z,fl] at q;cases q
  have n2l:l2≠l:=fun z=>by have q:=(s2.trans s3) _ _ h2;rw[z,fl] at q;cases q
  have s24:=s2.trans (s3.trans s4);have h1:=s24 _ _ h1;have h2:=s24 _ _ h2;obtain⟨ts,y1,y2,y3⟩:=id tL;have wk:∀ w∈L,ak n w:=fun w hw=>((mem w).mp hw).work W
  have Ll:L.length<128:=few L nd fun w hw=>(mem w).mp hw
  have big:∀ x:Nat,x<=5000->x<sizeLine:=fun x hx=>JF hx (by decide)
  refine⟨_,rfl,_,_,_,_,rfl,.lst y1,tQ _,_,rfl,kP ?_⟩;refine⟨_,rfl,l1,_,rfl,.inl h1,fun t3 H5 s5 ht3=>?_⟩;refine⟨_,rfl,t3,l,ts,b8 ms,L.map b8,rfl,rfl,by rw[oy];exact ht3,s5 _ _ y1,by rw[HQ];exact y2,xP fun i t x e1 e2=>s5 _ _ (y3 i t x e1 e2),_,rfl,ij (by rw[decide_eq_true (xO.mpr ((mem ms).mpr .refl))];rfl) ?_⟩;refine⟨_,rfl,l2,_,rfl,.inl (s5 _ _ h2),fun t4 H6 s6 ht4=>?_⟩;have s56:=s5.trans s6;refine⟨_,rfl,t4,l,ts,b8 os,L.map b8,rfl,rfl,by rw[oy];exact ht4,s56 _ _ y1,by rw[HQ];exact y2,xP fun i t x e1 e2=>s56 _ _ (y3 i t x e1 e2),_,rfl,ij (by rw[decide_eq_true (xO.mpr ((mem os).mpr (xF WO _ W rfl)))];rfl) ?_⟩;have h1:=s56 _ _ h1;have h2:=s56 _ _ h2;have tL:=tL.same s56;have y1:=s56 _ _ y1;have y3:=fun i t x e1 e2=>s56 _ _ (y3 i t x e1 e2)
  clear s24 s5 s6 ht3 ht4;intro d hd;have s7:aG H6 (upd H6 d (.dT [])):=aA hd;have u7:upd H6 d (.dT []) d=some (.dT (bT (L.take 0))):=ah;generalize upd H6 d (.dT [])=H7 at s7 u7;have ll:(((ts.map V.ref).length:Nat):Int)=L.length:=by rw[HQ,y2]
  have dl:d≠l:=fun z=>by rw[z,y1] at hd;cases hd
  refine⟨_,rfl,l,_,rfl,.inl (SqL.of (s7 _ _ y1)),_,rfl,by rw[ll];omega,by rw[ll];omega,gB (lo:=0) (n:=(((ts.map V.ref).length:Nat):Int).toNat) (fun i σ H8=>∃ v6:Option V,σ=[some (.ref a),some (.int m),some (.ref l1),some (.ref l2),some (.ref l),some (.ref d),v6,none,none,none,none,none,none,none]/\aG H6 H8/\H8 d=some (.dT (bT (L.take i)))) ⟨none,rfl,s7,u7⟩ ?_ ?_⟩
  ·rintro i σ H8 hi ⟨v6,rfl,s8,h8⟩;rw[ll,Iz] at hi;rw[KI];have hx:=HP hi;generalize L[i]=wi at hx;have hit:i<ts.length:=by omega
   have ht:=HP hit;generalize ts[i]=ti at ht;have hti:=s8 _ _ (y3 i ti wi ht hx);have ixi:atI (ts.map V.ref) (i:Int)=some (.ref ti):=gf (by rw[HX,ht];rfl);have Wi:=wk wi (Ib hx);refine⟨_,rfl,_,rfl,l,_,_,_,rfl,rfl,SqL.of (s8 _ _ y1),ixi,_,rfl,l1,_,rfl,.inl (SqL.of (s8 _ _ h1)),?_⟩;refine⟨ti,n,wi,by rw[show (((nV ms).length:Nat):Int)=((2*n:Nat):Int) by rw[aI,W.len]];rfl,hti,Wi,fun H9 s9=>?_⟩;refine⟨_,rfl,kP ?_⟩;have s89:=s8.trans s9;have y19:=s89 _ _ y1;have h89:=s9 _ _ h8;have DW:=s9 _ _ hti;have put:H9 d=some (.dT (bT (L.take i)))->∃ v6:Option V,[some (V.ref a),some (V.int m),some (V.ref l1),some (V.ref l2),some (V.ref l),some (V.ref d),some (V.int (i:Nat)),none,none,none,none,none,none,none]=[some (V.ref a),some (V.int m),some (V.ref l1),some (V.ref l2),some (V.ref l),some (V.ref d),v6,none,none,none,none,none,none,none]/\aG H6 (upd H9 d (.dT (putK (bT (L.take i)) (kW wi) (.bl true))))/\upd H9 d (.dT (putK (bT (L.take i)) (kW wi) (.bl true))) d=some (.dT (bT (L.take (i+1)))):=fun _=>⟨_,rfl,s89.upd hd,by rw[ah,yN nd hx]⟩
   have room:(bT (L.take i)).length<sizeLine:=big _ (by unfold bT;rw[HQ,Iw];omega);by_cases c0:i=0
   ·refine⟨_,rfl,_,_,rfl,rfl,_,rfl,ij (decide_eq_false (by omega)) ?_⟩;refine⟨_,rfl,_,rfl,_,rfl,l,_,_,_,rfl,rfl,SqL.of y19,ixi,?_⟩;exact⟨_,_,rfl,m7.t (k:=kW wi) h89 (o5 DW) room,put h89⟩
   ·refine⟨_,rfl,_,_,rfl,rfl,_,rfl,mj (decide_eq_true (by omega)) ?_⟩;obtain⟨wj,hxj⟩:∃ x,L[i-1]?=some x:=⟨_,HP (by omega)⟩
    obtain⟨tj,htj⟩:∃ x,ts[i-1]?=some x:=⟨_,HP (by omega)⟩
    have Hj:=s89 _ _ (y3 (i-1) tj wj htj hxj);have ixj:atI (ts.map V.ref) ((i:Int)-1)=some (.ref tj):=by
     rw[show (i:Int)-1=((i-1:Nat):Int) by omega];exact gf (by rw[HX,htj];rfl)
    have lt:=Fb nd wk srt hxj (by rw[show i-1+1=i by omega];exact hx);refine⟨_,rfl,_,rfl,_,_,rfl,rfl,l,_,_,_,rfl,rfl,SqL.of y19,ixj,?_⟩;refine⟨_,rfl,_,rfl,l,_,_,_,rfl,rfl,SqL.of y19,ixi,?_⟩;refine⟨tj,ti,b8 wj,b8 wi,rfl,rfl,by rw[oy];exact SqT.of Hj,by rw[oy];exact SqT.of DW,_,rfl,ij (by rw[lt];rfl) ?_⟩;refine⟨_,rfl,_,rfl,_,rfl,l,_,_,_,rfl,rfl,SqL.of y19,ixi,?_⟩;exact⟨_,_,rfl,m7.t (k:=kW wi) h89 (o5 DW) room,put h89⟩
  ·rintro σ H8 ⟨v6,rfl,s8,h8⟩;rw[ll,Iz,IV] at h8;have h1:=s8 _ _ h1;have h2:=s8 _ _ h2;have y1:=s8 _ _ y1;have y3:=fun i t x e1 e2=>s8 _ _ (y3 i t x e1 e2)
   refine⟨_,rfl,_,rfl,l1,l2,n,ms,os,rfl,h1,W,h2,WO,fun H9 s9=>?_⟩;have h1:=s9 _ _ h1;have h2:=s9 _ _ h2;have h8:=s9 _ _ h8;have y1:=s9 _ _ y1;have y3:=fun i t x e1 e2=>s9 _ _ (y3 i t x e1 e2)
   refine⟨_,rfl,l,rfl,⟨_,SqL.of y1⟩,cJ (K:=K) (a:=l) (xs:=ts.map V.ref) (fun i σ H10=>∃ v8:Option V,σ=[some (.ref a),some (.int m),some (.ref l1),some (.ref l2),some (.ref l),some (.ref d),v6,some (.int (aH n ms os:Nat)),v8,none,none,none,none,none]/\aG H9 H10) ⟨none,rfl,aG.refl _⟩ (fun i σ H10 _ ⟨_,_,s⟩=>SqL.of (s _ _ y1)) ?_ ?_⟩
   ·rintro i y σ H10 hy ⟨v8,rfl,s10⟩;have hi:i<ts.length:=by have z:=(HR.mp hy).1;rw[HQ] at z;exact z
    obtain⟨wi,hx⟩:∃ x,L[i]?=some x:=⟨_,HP (by omega)⟩
    rw[HX,HP hi] at hy;obtain rfl:=Option.some.inj hy;have hti:=s10 _ _ (y3 i _ wi (HP hi) hx);have hm:=Ib hx;have Wi:=wk wi hm;have ap:=BJ W WO ((mem wi).mp hm);refine⟨_,rfl,_,rfl,_,_,rfl,.inr (SqT.of hti),fun b1 hb1=>?_⟩;have s11:aG H10 (upd H10 b1 (.lst (nV wi))):=aA hb1;have u11:upd H10 b1 (.lst (nV wi)) b1=some (.lst (nV wi)):=ah;generalize upd H10 b1 (.lst (nV wi))=H11 at s11 u11;refine⟨l1,b1,n,ms,wi,rfl,s11 _ _ (s10 _ _ h1),W,u11,Wi,fun H12 s12=>?_⟩;have DX:=s11.trans s12;have Hk:=DX _ _ hti;refine⟨_,rfl,_,_,rfl,.inr (SqT.of Hk),fun b2 hb2=>?_⟩;have s13:aG H12 (upd H12 b2 (.lst (nV wi))):=aA hb2;have u13:upd H12 b2 (.lst (nV wi)) b2=some (.lst (nV wi)):=ah;generalize upd H12 b2 (.lst (nV wi))=H13 at s13 u13;refine⟨_,rfl,b2,l2,n,wi,os,rfl,u13,Wi,s13 _ _ (DX _ _ (s10 _ _ h2)),WO,fun H14 s14=>?_⟩;have Ft:=DX.trans (s13.trans s14);refine⟨_,_,rfl,rfl,_,rfl,rfl,_,rfl,xa ?_ ?_⟩
    ·show V.int _=V.int _;congr 1;omega
    have Hl:=Ft _ _ hti;refine⟨_,rfl,_,_,rfl,.inr (SqT.of Hl),fun b3 hb3=>?_⟩;have s15:aG H14 (upd H14 b3 (.lst (nV wi))):=aA hb3;have u15:upd H14 b3 (.lst (nV wi)) b3=some (.lst (nV wi)):=ah;generalize upd H14 b3 (.lst (nV wi))=H15 at s15 u15;have DY:=s10.trans (Ft.trans s15);refine⟨_,rfl,_,rfl,b3,l2,d,n,wi,os,L,rfl,u15,Wi,DY _ _ h2,WO,hn4,DY _ _ h8,fun v hv=>(mem v).mpr (((mem wi).mp hm).step hv),fun H16 s16=>?_⟩;exact⟨_,rfl,kP ⟨_,rfl,DY.trans s16⟩⟩
   ·rintro σ H10 ⟨v8,rfl,s10⟩;have h1:=s10 _ _ h1;have h2:=s10 _ _ h2;have y1:=s10 _ _ y1;have y3:=fun i t x e1 e2=>s10 _ _ (y3 i t x e1 e2)
    refine⟨_,rfl,_,rfl,l1,l2,n,ms,os,rfl,h1,W,h2,WO,fun ll H11 s11 tC=>?_⟩;have cl:=qu n ms os (2*n);have cx:∀ x∈c9 n ms os (2*n),x.2<=4:=fun x hx=>BP W WO hn4 hx
    have cat:=fun nb:rL n ms os=>BO W WO hn4 nb nd mem
    unfold rL at cat;generalize c9 n ms os (2*n)=C at tC cl cx cat;obtain⟨cs,c1,c2,c3⟩:=id tC;refine⟨_,rfl,ll,rfl,⟨_,SqL.of c1⟩,cJ (K:=K) (a:=ll) (xs:=cs.map V.ref) (fun i σ H12=>∃ v11 v12:Option V,σ=[some (.ref a),some (.int m),some (.ref l1),some (.ref l2),some (.ref l),some (.ref d),v6,some (.int (aH n ms os:Nat)),v8,some (.ref ll),some (.int (mE ((C.take i).map (·.2)):Nat)),v11,v12,none]/\aG H11 H12) ⟨none,none,rfl,aG.refl _⟩ (fun i σ H12 _ ⟨_,_,_,s⟩=>SqL.of (s _ _ c1)) ?_ ?_⟩
    ·rintro i y σ H12 hy ⟨v11,v12,rfl,s12⟩;have hi:i<cs.length:=by have z:=(HR.mp hy).1;rw[HQ] at z;exact z
     obtain⟨x,hx⟩:∃ x,C[i]?=some x:=⟨_,HP (by omega)⟩
     have e2:=c3 i _ x (HP hi) hx;rw[HX,HP hi] at hy;obtain rfl:=Option.some.inj hy;have x4:=cx x (Ib hx);refine⟨_,_,rfl,SqT.of (s12 _ _ e2),rfl,_,_,rfl,_,_,rfl,rfl,?_⟩;refine⟨_,rfl,(by show 5<=sizeLine;decide),fun lp hlp=>?_⟩;have ixc:atI [V.int 1,.int 2,.int 5,.int 14,.int 42] ((x.2:Nat):Int)=some (.int (nth jy x.2:Nat)):=by
      have q:x.2=0\/x.2=1\/x.2=2\/x.2=3\/x.2=4:=by omega
      rcases q with q | q | q | q | q <;> rw[q] <;> rfl
     have xc:nth jy x.2<=42:=by
      have q:x.2=0\/x.2=1\/x.2=2\/x.2=3\/x.2=4:=by omega
      rcases q with q | q | q | q | q <;> rw[q] <;> decide
     refine⟨_,rfl,lp,_,_,_,rfl,rfl,SqL.of ah,ixc,_,_,rfl,rfl,.inr ⟨by omega,by omega⟩,some (.str (ks x.1)),some (.int (x.2:Nat)),?_,s12.trans (aA hlp)⟩;dsimp only;rw[Mir.take_snoc hx,IS];show _=[_,_,_,_,_,_,_,_,_,_,some (V.int (mE (_++[x.2]):Nat)),_,_,_]
     rw[qH,Int.natCast_mul]
     rfl
    ·rintro σ H12 ⟨v11,v12,rfl,s12⟩;rw[HQ,c2,IV];have h1:=s12 _ _ (s11 _ _ h1);have h2:=s12 _ _ (s11 _ _ h2);have y1:=s12 _ _ (s11 _ _ y1);have y3:=fun i t x e1 e2=>s12 _ _ (s11 _ _ (y3 i t x e1 e2))
     refine⟨_,rfl,ll,C,rfl,tC.same s12,by omega,fun H13 s13=>?_⟩;have HN:=s12.trans s13;refine' BU (fun N=>?mway) ?xway
     case mway =>
      cases hb:Mir.both (C.map (·.1)) with
      | true=>exact⟨_,rfl,kP N⟩
      | false =>
       refine⟨_,rfl,tI ⟨_,rfl,l,_,rfl,.inl (SqL.of (s13 _ _ y1)),_,rfl,rfl,_,rfl,xa ?_ N⟩⟩;show V.int _=V.int _;rw[HQ,y2,cat hb]
     have h1:=s13 _ _ h1;have h2:=s13 _ _ h2;have y1:=s13 _ _ y1;have y3:=fun i t x e1 e2=>s13 _ _ (y3 i t x e1 e2)
     refine⟨_,rfl,l,_,rfl,.inl (SqL.of y1),fun lk hlk=>?_⟩;have s14:aG H13 (upd H13 lk (.lst (ts.map V.ref))):=aA hlk;have u14:upd H13 lk (.lst (ts.map V.ref)) lk=some (.lst (ts.map V.ref)):=ah;generalize upd H13 lk (.lst (ts.map V.ref))=H14 at s14 u14;have nlk:lk≠l:=fun z=>by rw[z,y1] at hlk;cases hlk
     have y1:=s14 _ _ y1;have h1:=s14 _ _ h1;have h2:=s14 _ _ h2;have y3:=fun i t x e1 e2=>s14 _ _ (y3 i t x e1 e2)
     refine⟨_,rfl,.inl ⟨rfl,_,SqL.of y1⟩,(by show 0<=sizeLine;decide),fun te hte=>?_⟩;have s15:aG H14 (upd H14 te (.tup [])):=aA hte;generalize upd H14 te (.tup [])=H15 at s15;have y1:=s15 _ _ y1;refine⟨l,_,_,rfl,rfl,y1,big _ (by rw[HQ];omega),?_⟩;have lH:∀ {o:HO} {b:Addr},H15 b=some o->b≠l->upd H15 l (.lst (ts.map V.ref++[.ref te])) b=some o:=fun e ne=>by rw[aE ne];exact e
     have h1:=lH (s15 _ _ h1) n1l;have h2:=lH (s15 _ _ h2) n2l;have tK:TsT nV (upd H15 l (.lst (ts.map V.ref++[.ref te]))) lk L:=⟨ts,lH (s15 _ _ u14) nlk,y2,fun i t x e1 e2=>lH (s15 _ _ (y3 i t x e1 e2)) (fun z=>by have q:=s15 _ _ (y3 i t x e1 e2);rw[z,y1] at q;cases q)⟩
     generalize upd H15 l (.lst (ts.map V.ref++[.ref te]))=H16 at h1 h2 tK;refine⟨_,rfl,l1,_,rfl,.inl h1,fun t5 H17 s17 ht5=>?_⟩;refine⟨_,rfl,l2,_,rfl,.inl (s17 _ _ h2),fun t6 H18 s18 ht6=>?_⟩;refine⟨t5,t6,n,ms,os,rfl,s18 _ _ ht5,W,ht6,WO,hn4,few,fun lq M H19 fq s19 tM ndM Hm Hn=>?_⟩;obtain rfl:=Iso.only W nd ndM mem Hm srt Hn;refine⟨_,rfl,lq,lk,rfl,rfl,tM.deep BQ (tK.same (s17.trans (s18.trans s19))),?_⟩;exact k _
end
theorem us0 {R:List Value->Prop}(h:∀ _:Unit,R [])(us:List Value)(e:us.length=0):R us:=(JC.mp e) ▸ h ()
theorem us1 {R:List Value->Prop}(h:∀ x0:Value,R [x0])(us:List Value)(e:us.length=1):R us:=by
 obtain⟨a,r,rfl⟩:=JE e;exact us0 (R:=fun r=>R (a::r)) (fun _=>h a) r (Nat.succ.inj e)
theorem us2 {R:List Value->Prop}(h:∀ x0 x1:Value,R [x0,x1])(us:List Value)(e:us.length=2):R us:=by
 obtain⟨a,r,rfl⟩:=JE e;exact us1 (R:=fun r=>R (a::r)) (h a) r (Nat.succ.inj e)
theorem us3 {R:List Value->Prop}(h:∀ x0 x1 x2:Value,R [x0,x1,x2])(us:List Value)(e:us.length=3):R us:=by
 obtain⟨a,r,rfl⟩:=JE e;exact us2 (R:=fun r=>R (a::r)) (h a) r (Nat.succ.inj e)
theorem us4 {R:List Value->Prop}(h:∀ x0 x1 x2 x3:Value,R [x0,x1,x2,x3])(us:List Value)(e:us.length=4):R us:=by
 obtain⟨a,r,rfl⟩:=JE e;exact us3 (R:=fun r=>R (a::r)) (h a) r (Nat.succ.inj e)
theorem fn1 (x:Str)(st:Stmt)(p0:Str){K:HS}{h:Heap}{mg:Str->Option Value}{f:Addr}{od an:Option Addr}{sl:Array (Option Value)}{oc kV dc pm cd ct:Value}(X:K.In h)(G:h.Ns mainGlobals mg)(a:LS K mainGlobals x=some (some (.ref f)))(l:K.lookup f=some ⟨oc,od,.func (Jp x x (cu st) (bO st) (az st) .none kV dc pm an cd ct),sl⟩)(c:Kp K cd x=true)(k:Ko K (.ref f)=true)(hb:∀ (kV doc pm:Value) (an:Option Addr) (cdv ct:Value) (x0:Value),bindArgs (Jp x x (cu st) (bO st) (az st) .none kV doc pm an cdv ct) ⟨[x0],[]⟩=pure (LA [p0] [x0])):Fn K mg x st [p0] f (Jp x x (cu st) (bO st) (az st) .none kV dc pm an cd ct) :=
 Fn.mk' (qY (st:=st) l c k) (fun kV doc pm an cdv ct us hl=>us1 (R:=fun us=>bindArgs _ ⟨us,[]⟩=pure (LA _ us)) (hb kV doc pm an cdv ct) us hl) (Ki X G a)
theorem fn2 (x:Str)(st:Stmt)(p0 p1:Str){K:HS}{h:Heap}{mg:Str->Option Value}{f:Addr}{od an:Option Addr}{sl:Array (Option Value)}{oc kV dc pm cd ct:Value}(X:K.In h)(G:h.Ns mainGlobals mg)(a:LS K mainGlobals x=some (some (.ref f)))(l:K.lookup f=some ⟨oc,od,.func (Jp x x (cu st) (bO st) (az st) .none kV dc pm an cd ct),sl⟩)(c:Kp K cd x=true)(k:Ko K (.ref f)=true)(hb:∀ (kV doc pm:Value) (an:Option Addr) (cdv ct:Value) (x0 x1:Value),bindArgs (Jp x x (cu st) (bO st) (az st) .none kV doc pm an cdv ct) ⟨[x0,x1],[]⟩=pure (LA [p0,p1] [x0,x1])):Fn K mg x st [p0,p1] f (Jp x x (cu st) (bO st) (az st) .none kV dc pm an cd ct) :=
 Fn.mk' (qY (st:=st) l c k) (fun kV doc pm an cdv ct us hl=>us2 (R:=fun us=>bindArgs _ ⟨us,[]⟩=pure (LA _ us)) (hb kV doc pm an cdv ct) us hl) (Ki X G a)
theorem fn3 (x:Str)(st:Stmt)(p0 p1 p2:Str){K:HS}{h:Heap}{mg:Str->Option Value}{f:Addr}{od an:Option Addr}{sl:Array (Option Value)}{oc kV dc pm cd ct:Value}(X:K.In h)(G:h.Ns mainGlobals mg)(a:LS K mainGlobals x=some (some (.ref f)))(l:K.lookup f=some ⟨oc,od,.func (Jp x x (cu st) (bO st) (az st) .none kV dc pm an cd ct),sl⟩)(c:Kp K cd x=true)(k:Ko K (.ref f)=true)(hb:∀ (kV doc pm:Value) (an:Option Addr) (cdv ct:Value) (x0 x1 x2:Value),bindArgs (Jp x x (cu st) (bO st) (az st) .none kV doc pm an cdv ct) ⟨[x0,x1,x2],[]⟩=pure (LA [p0,p1,p2] [x0,x1,x2])):Fn K mg x st [p0,p1,p2] f (Jp x x (cu st) (bO st) (az st) .none kV dc pm an cd ct) :=
 Fn.mk' (qY (st:=st) l c k) (fun kV doc pm an cdv ct us hl=>us3 (R:=fun us=>bindArgs _ ⟨us,[]⟩=pure (LA _ us)) (hb kV doc pm an cdv ct) us hl) (Ki X G a)
theorem fn4 (x:Str)(st:Stmt)(p0 p1 p2 p3:Str){K:HS}{h:Heap}{mg:Str->Option Value}{f:Addr}{od an:Option Addr}{sl:Array (Option Value)}{oc kV dc pm cd ct:Value}(X:K.In h)(G:h.Ns mainGlobals mg)(a:LS K mainGlobals x=some (some (.ref f)))(l:K.lookup f=some ⟨oc,od,.func (Jp x x (cu st) (bO st) (az st) .none kV dc pm an cd ct),sl⟩)(c:Kp K cd x=true)(k:Ko K (.ref f)=true)(hb:∀ (kV doc pm:Value) (an:Option Addr) (cdv ct:Value) (x0 x1 x2 x3:Value),bindArgs (Jp x x (cu st) (bO st) (az st) .none kV doc pm an cdv ct) ⟨[x0,x1,x2,x3],[]⟩=pure (LA [p0,p1,p2,p3] [x0,x1,x2,x3])):Fn K mg x st [p0,p1,p2,p3] f (Jp x x (cu st) (bO st) (az st) .none kV dc pm an cd ct) :=
 Fn.mk' (qY (st:=st) l c k) (fun kV doc pm an cdv ct us hl=>us4 (R:=fun us=>bindArgs _ ⟨us,[]⟩=pure (LA _ us)) (hb kV doc pm an cdv ct) us hl) (Ki X G a)
theorem walk {l:MT}{q:Program}{loose:List Str}{XP:(Str->Option Value)->Heap->Prop}{YP:World->Heap->Prop}{d:DefRec}{K:Params->HS}(hn:l.most=some 63)(hdf:d.params.defaults=[])
  (hY:∀ (w:World) (h:Heap),YP w h->(K w.params).In h)
  (F:∀ (w:World) (mg:Str->Option Value) (fa:Addr) (h:Heap),(K w.params).In h->h.Ns mainGlobals mg->mg d.name=some (.ref fa) ->
   ∃ fd:FuncData,(∀ (s:Shared) (u:Value),BindsTo s fd ⟨[u],[]⟩ [("script",u)])/\∀ base:Heap,(K w.params).In base->base.Ns mainGlobals mg->aS l.prog w (K w.params) mg base CX0 9 fa fd ["script"] (zp (K w.params))) :
  M4 q loose XP YP l.row.toRowW d [] (fun f vs=>PySem.call f vs) :=
 L2.w9 (n:=63) (k:=9) (x:="script") (CX:=fun _=>CX0) (sp:=fun w=>zp (K w.params)) hn (by decide) hdf ⟨rfl,by decide,by decide,rfl⟩ hY F (fun _ _ a ns hl _ hS=>⟨a,ns,rfl,hS,hl,fun _=>rfl⟩) fun _ _ _ _ _ z=>z
end Law
noncomputable def PySem.W.Fast.tw4528328422827437108:=0
noncomputable def PySem.W.Fast.tw9472302594734395132:=0
noncomputable def PySem.W.Fast.tw388359238983015489:=0
noncomputable def PySem.W.Fast.tw7645878605702936852:=0
noncomputable def PySem.W.Fast.tw1728435832560127873:=0
noncomputable def PySem.W.Fast.tw9136942956634478371:=0
noncomputable def PySem.W.Fast.tw7004714674575926596:=0
noncomputable def PySem.W.Fast.tw3200953266596782134:=0
noncomputable def PySem.W.Fast.tw4963262042116304060:=0
noncomputable def PySem.W.Fast.tw9132174473362019058:=0
noncomputable def PySem.W.Fast.tw16823253055403351296:=0
noncomputable def PySem.W.Fast.tw18232516514198851658:=0
noncomputable def PySem.W.Fast.tw11587670707053812267:=0
noncomputable def PySem.W.Fast.tw6669300037230683255:=0
noncomputable def PySem.W.Fast.tw514033076217433417:=0
noncomputable def PySem.W.Fast.tw6947126354966814714:=0
noncomputable def PySem.W.Fast.tw15193840157520463982:=0
noncomputable def PySem.W.Fast.tw15217858384068164005:=0
noncomputable def PySem.W.Fast.tw18321525493610119508:=0
noncomputable def PySem.W.Fast.tw9324332749387883414:=0
noncomputable def PySem.W.Fast.tw11847237622637930215:=0
noncomputable def PySem.W.Fast.tw7180011151796864973:=0
noncomputable def PySem.W.Fast.tw6326536565035576779:=0
noncomputable def PySem.W.Fast.tw10126144379411570647:=0
noncomputable def PySem.W.Fast.tw5009795845897579953:=0
noncomputable def PySem.W.Fast.tw14941810267966488252:=0
noncomputable def PySem.W.Fast.tw13765437432401914925:=0
noncomputable def PySem.W.Fast.tw2858330158262282462:=0
noncomputable def PySem.W.Fast.tw6224658091814503141:=0
noncomputable def PySem.W.Fast.tw18119577007556203248:=0
noncomputable def PySem.W.Fast.tw10762270666009121130:=0
noncomputable def PySem.W.Fast.tw7360982626290993976:=0
noncomputable def PySem.W.Fast.tw18245635657627256188:=0
noncomputable def PySem.W.Fast.tw13756101011992844157:=0
noncomputable def PySem.W.Fast.tw7233456433222183863:=0
noncomputable def PySem.W.Fast.tw5547549504522847485:=0
noncomputable def PySem.W.Fast.tw10883996194116833129:=0
noncomputable def PySem.W.Fast.tw15702561832849658191:=0
noncomputable def PySem.W.Fast.tw6325997206586138859:=0
noncomputable def PySem.W.Fast.tw16192244403114907249:=0
noncomputable def PySem.W.Fast.tw10752297672995350123:=0
noncomputable def PySem.W.Fast.tw16632560394206400896:=0
noncomputable def PySem.W.Fast.tw10147773799474136721:=0
noncomputable def PySem.W.Fast.tw6236604518232540508:=0
noncomputable def PySem.W.Fast.tw15846528970285041272:=0
noncomputable def PySem.W.Fast.tw7439580307776656315:=0
noncomputable def PySem.W.Fast.tw8138305104606524797:=0
noncomputable def PySem.W.Fast.tw5997650608952082256:=0
noncomputable def PySem.W.Fast.tw3938809973557607883:=0
noncomputable def PySem.W.Fast.tw13320760505094119022:=0
noncomputable def PySem.W.Fast.tw9864337746120936946:=0
noncomputable def PySem.W.Fast.tw15004551248230766819:=0
noncomputable def PySem.W.Fast.tw16561923600471628960:=0
noncomputable def PySem.W.Fast.tw11483810202377827133:=0
noncomputable def PySem.W.Fast.tw274401320795541236:=0
noncomputable def PySem.W.Fast.tw7862596907588515601:=0
noncomputable def PySem.W.Fast.tw5553383247337635071:=0
noncomputable def PySem.W.Fast.tw7779323155154511826:=0
noncomputable def PySem.W.Fast.tw15565018274540851322:=0
noncomputable def PySem.W.Fast.tw13776457123755976183:=0
noncomputable def PySem.W.Fast.tw14701837473695198071:=0
noncomputable def PySem.W.Fast.tw8543089950520008715:=0
noncomputable def PySem.W.Fast.tw12174473411539868521:=0
noncomputable def PySem.W.Fast.tw2127651946729270636:=0
noncomputable def PySem.W.Fast.tw8522688849113230355:=0
noncomputable def PySem.W.Fast.tw11759981943158889001:=0
noncomputable def PySem.W.Fast.tw8405184513426169208:=0
noncomputable def PySem.W.Fast.tw5883889897128128665:=0
noncomputable def PySem.W.Fast.tw2507046909071401810:=0
noncomputable def PySem.W.Fast.tw12803291661166361016:=0
noncomputable def PySem.W.Fast.tw8179506654956596574:=0
noncomputable def PySem.W.Fast.tw14981544218388983459:=0
noncomputable def PySem.W.Fast.tw17487389811674943308:=0
noncomputable def PySem.W.Fast.tw9870017176253230532:=0
noncomputable def PySem.W.Fast.tw6157921899766403895:=0
noncomputable def PySem.W.Fast.tw11691378051110140448:=0
noncomputable def PySem.W.Fast.tw2898567979882643430:=0
noncomputable def PySem.W.Fast.tw12504041216864860462:=0
noncomputable def PySem.W.Fast.tw18002674649472478889:=0
noncomputable def PySem.W.Fast.tw9340076936652150720:=0
noncomputable def PySem.W.Fast.tw6106611165434867702:=0
noncomputable def PySem.W.Fast.tw14701003299843259259:=0
noncomputable def PySem.W.Fast.tw11424033731773405959:=0
noncomputable def PySem.W.Fast.tw15252248197298774855:=0
noncomputable def PySem.W.Fast.tw14867107802561504303:=0
noncomputable def PySem.W.Fast.tw16888364310486799863:=0
noncomputable def PySem.W.Fast.tw2835763798062525220:=0
noncomputable def PySem.W.Fast.tw17601643597572644448:=0
noncomputable def PySem.W.Fast.tw7746540579941728656:=0
noncomputable def PySem.W.Fast.tw9171222347980161386:=0
noncomputable def PySem.W.Fast.tw7033077867036231443:=0
noncomputable def PySem.W.Fast.tw14135870926699753836:=0
noncomputable def PySem.W.Fast.tw1877659643616241012:=0
noncomputable def PySem.W.Fast.tw1661167830080913065:=0
noncomputable def PySem.W.Fast.tw14843614904877180456:=0
noncomputable def PySem.W.Fast.tw4452406978584235308:=0
noncomputable def PySem.W.Fast.tw9542578531028000442:=0
noncomputable def PySem.W.Fast.tw5302640492176047892:=0
noncomputable def PySem.W.Fast.tw9613333119184197419:=0
noncomputable def PySem.W.Fast.tw1852567337029216298:=0
noncomputable def PySem.W.Fast.tw9921066736624959089:=0
noncomputable def PySem.W.Fast.tw18356641984132406327:=0
noncomputable def PySem.W.Fast.tw2677501863270495479:=0
noncomputable def PySem.W.Fast.tw7170376867648150656:=0
noncomputable def PySem.W.Fast.tw6763974872296568453:=0
noncomputable def PySem.W.Fast.tw9191781195319538709:=0
noncomputable def PySem.W.Fast.tw4135151690678392987:=0
noncomputable def PySem.W.Fast.tw13902149059678176037:=0
noncomputable def PySem.W.Fast.tw16969547797359752157:=0
noncomputable def PySem.W.Fast.tw1597351945589416417:=0
noncomputable def PySem.W.Fast.tw4250150645191669159:=0
noncomputable def PySem.W.Fast.tw13848361438435907625:=0
noncomputable def PySem.W.Fast.tw3510886308466332620:=0
noncomputable def PySem.W.Fast.tw14517358107445939648:=0
noncomputable def PySem.W.Fast.tw53368180610107021:=0
noncomputable def PySem.W.Fast.tw9876559216905098920:=0
noncomputable def PySem.W.Fast.tw6695995017522559645:=0
noncomputable def PySem.W.Fast.tw3407895328493652248:=0
open PySem PySem.W PyProof.Rows
set_option maxRecDepth 100000 in
set_option maxHeartbeats 0 in
theorem PySem.Challenge.cw_claspwork_k32_works_on_the_way_holds : PySem.Challenge.rw_claspwork_k32_works_on_the_way.Holds := by
 w_on;o_law;k_head;(case hw=>w_witness2)
 k_fill
 refine Law.walk (l:=PySem.Challenge.rw_claspwork_k32_works_on_the_way) rfl rfl (fun w h Y=>MX Y) ?F
 case F =>
  intro w mg fa h X G hmg
  have F0:=Law.fn1 "staves_in" Law.fu "work" X G (by k_is) (by k_is) (by k_is) (by k_is) fun _ _ _ _ _ _ _=>rfl
  have F1:=Law.fn2 "refuse_unlike" Law.cY "one" "other" X G (by k_is) (by k_is) (by k_is) (by k_is) fun _ _ _ _ _ _ _ _=>rfl
  have F2:=Law.fn1 "loose_ends" Law.dD "work" X G (by k_is) (by k_is) (by k_is) (by k_is) fun _ _ _ _ _ _ _=>rfl
  have F3:=Law.fn2 "fits_work" Law.du "work" "deed" X G (by k_is) (by k_is) (by k_is) (by k_is) fun _ _ _ _ _ _ _ _=>rfl
  have F4:=Law.fn2 "refuse_misfit" Law.cZ "work" "deed" X G (by k_is) (by k_is) (by k_is) (by k_is) fun _ _ _ _ _ _ _ _=>rfl
  have F5:=Law.fn2 "reclasped" Law.fv "work" "deed" X G (by k_is) (by k_is) (by k_is) (by k_is) fun _ _ _ _ _ _ _ _=>rfl
  have F6:=Law.fn2 "freed_ends" Law.cS "work" "deed" X G (by k_is) (by k_is) (by k_is) (by k_is) fun _ _ _ _ _ _ _ _=>rfl
  have F7:=Law.fn3 "clasp_ends" Law.eO "mates" "one" "other" X G (by k_is) (by k_is) (by k_is) (by k_is) fun _ _ _ _ _ _ _ _ _=>rfl
  have F8:=Law.fn2 "least_pair" Law.eP "work" "deed" X G (by k_is) (by k_is) (by k_is) (by k_is) fun _ _ _ _ _ _ _ _=>rfl
  have F9:=Law.fn2 "threads" Law.gF "one" "other" X G (by k_is) (by k_is) (by k_is) (by k_is) fun _ _ _ _ _ _ _ _=>rfl
  have F10:=Law.fn2 "open_threads" Law.dv "one" "other" X G (by k_is) (by k_is) (by k_is) (by k_is) fun _ _ _ _ _ _ _ _=>rfl
  have F11:=Law.fn3 "walked_thread" Law.b9 "start" "first" "second" X G (by k_is) (by k_is) (by k_is) (by k_is) fun _ _ _ _ _ _ _ _ _=>rfl
  have F12:=Law.fn2 "mark_ends" Law.fz "seen" "ends" X G (by k_is) (by k_is) (by k_is) (by k_is) fun _ _ _ _ _ _ _ _=>rfl
  have F13:=Law.fn1 "least_end" Law.fA "thread" X G (by k_is) (by k_is) (by k_is) (by k_is) fun _ _ _ _ _ _ _=>rfl
  have F14:=Law.fn2 "thread_score" Law.dw "one" "other" X G (by k_is) (by k_is) (by k_is) (by k_is) fun _ _ _ _ _ _ _ _=>rfl
  have F15:=Law.fn2 "apart_by" Law.gQ "one" "other" X G (by k_is) (by k_is) (by k_is) (by k_is) fun _ _ _ _ _ _ _ _=>rfl
  have F16:=Law.fn2 "nearer_deeds" Law.dy "one" "other" X G (by k_is) (by k_is) (by k_is) (by k_is) fun _ _ _ _ _ _ _ _=>rfl
  have F17:=Law.fn2 "ends_in" Law.iJ "laid" "kind" X G (by k_is) (by k_is) (by k_is) (by k_is) fun _ _ _ _ _ _ _ _=>rfl
  have F18:=Law.fn1 "splitting_pairs" Law.cz "ends" X G (by k_is) (by k_is) (by k_is) (by k_is) fun _ _ _ _ _ _ _=>rfl
  have F19:=Law.fn2 "crossing_pairs" Law.cM "bare" "tied" X G (by k_is) (by k_is) (by k_is) (by k_is) fun _ _ _ _ _ _ _ _=>rfl
  have F20:=Law.fn2 "ordered_pair" Law.bX "end" "mate" X G (by k_is) (by k_is) (by k_is) (by k_is) fun _ _ _ _ _ _ _ _=>rfl
  have F21:=Law.fn3 "refuse_beyond" Law.c6 "most" "one" "other" X G (by k_is) (by k_is) (by k_is) (by k_is) fun _ _ _ _ _ _ _ _ _=>rfl
  have F22:=Law.fn2 "works_on_way" Law.eQ "one" "other" X G (by k_is) (by k_is) (by k_is) (by k_is) fun _ _ _ _ _ _ _ _=>rfl
  have F23:=Law.fn2 "_law_cell_at" Law.dX "script" "k" X G (by k_is) (by k_is) (by k_is) (by k_is) fun _ _ _ _ _ _ _ _=>rfl
  have F24:=Law.fn1 "_law_whole" Law.fB "found" X G (by k_is) (by k_is) (by k_is) (by k_is) fun _ _ _ _ _ _ _=>rfl
  have F25:=Law.fn2 "_law_mates" Law.fE "flow" "staves" X G (by k_is) (by k_is) (by k_is) (by k_is) fun _ _ _ _ _ _ _ _=>rfl
  have F26:=Law.fn2 "_law_halves" Law.gx "script" "most" X G (by k_is) (by k_is) (by k_is) (by k_is) fun _ _ _ _ _ _ _ _=>rfl
  have F27:=Law.fn2 "_law_freed" Law.fG "mates" "end" X G (by k_is) (by k_is) (by k_is) (by k_is) fun _ _ _ _ _ _ _ _=>rfl
  have F28:=Law.fn3 "_law_done" Law.gR "mates" "one" "other" X G (by k_is) (by k_is) (by k_is) (by k_is) fun _ _ _ _ _ _ _ _ _=>rfl
  have F29:=Law.fn4 "_law_walk" Law.eo "one" "other" "end" "known" X G (by k_is) (by k_is) (by k_is) (by k_is) fun _ _ _ _ _ _ _ _ _ _=>rfl
  have F30:=Law.fn2 "_law_score" Law.fH "one" "other" X G (by k_is) (by k_is) (by k_is) (by k_is) fun _ _ _ _ _ _ _ _=>rfl
  have F31:=Law.fn2 "_law_apart" Law.fI "one" "other" X G (by k_is) (by k_is) (by k_is) (by k_is) fun _ _ _ _ _ _ _ _=>rfl
  have F32:=Law.fn2 "_law_lacks" Law.g9 "one" "other" X G (by k_is) (by k_is) (by k_is) (by k_is) fun _ _ _ _ _ _ _ _=>rfl
  have F33:=Law.fn1 "_law_mixed" Law.hG "lacks" X G (by k_is) (by k_is) (by k_is) (by k_is) fun _ _ _ _ _ _ _=>rfl
  have F34:=Law.fn3 "_law_closed" Law.gy "work" "other" "known" X G (by k_is) (by k_is) (by k_is) (by k_is) fun _ _ _ _ _ _ _ _ _=>rfl
  have F35:=Law.fn2 "_law_work" Law.iY "found" "size" X G (by k_is) (by k_is) (by k_is) (by k_is) fun _ _ _ _ _ _ _ _=>rfl
  have F36:=Law.fn1 "law" Law.AE "script" X G (by k_is) (by k_is) (by k_is) (by k_is) fun _ _ _ _ _ _ _=>rfl
  cases hmg.symm.trans F36.g
  have yQ:=Ki (n:="BadDeed") X G (by k_is)
  have AH:=Ki (n:="Unlike") X G (by k_is)
  have jR:=Ki (n:="MOST_APART_LISTED") X G (by k_is)
  refine'⟨_,fun s v=>.of_eq rfl,fun base _ _=>Law.DV ⟨Jo X G (by k_is),Jo X G (by k_is),Jo X G (by k_is),Jo X G (by k_is),Jo X G (by k_is),Jo X G (by k_is),Jo X G (by k_is),Jo X G (by k_is),Jo X G (by k_is),Jo X G (by k_is),Jo X G (by k_is),Jo X G (by k_is)⟩ ⟨yQ,⟨_,_,_,_,(by kernel_rfl),Lb⟩⟩ ⟨AH,⟨_,_,_,_,(by kernel_rfl),Lb⟩⟩ jR F0 F1 F2 F3 F4 F5 F6 F7 F8 F9 F10 F11 F12 F13 F14 F15 F16 F17 F18 F19 F20 F21 F22 F23 F24 F25 F26 F27 F28 F29 F30 F31 F32 F33 F34 F35 F36⟩

