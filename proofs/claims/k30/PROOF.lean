import PyProof.Rows.All
import Wide.All
import OpenK.AllK
import Wide.FinOn
import Lean
import PyProof.EqAt
import PyProof.EqKinds
import PyProof.TupleCall
import PyProof.SumWalkG
import KE.KTryMore
import PyProof.NeKinds
import PyProof.ExcAttrAll.ValueError
import KE.KRevIter
import PyProof.ReprRoads
import PyProof.ReprLen
import PyProof.TupleOfSeq
import KE.BitLaws
import PyProof.Rows.SortRuns
import PyProof.Rows.SortShell
import KE.KSortKey
import PyProof.WalkInts
import KE.KSortTup
import PyProof.DictValues
import PyProof.DictItems
import KE.KDictList
import KE.KDictSum
import KE.KIntText
import PyProof.StrLoop
import PyProof.StrWalks
import PyProof.StrCalls2
import PyProof.ConsumeWalk
import PyProof.StrLawsRepr
import PySem.Challenge.RW_claspwork_k30_too_far_apart
set_option genSizeOf false
set_option Elab.async false
set_option linter.all false
set_option maxRecDepth 100000
local macro_rules
 | `(tactic| omega)=>`(tactic| first | lia | omega (config:={}))
open List renaming getElem?_eq_getElem→OG,length_map→OH,getElem?_eq_some_iff→OI,mem_map→OO,mem_of_getElem?→OP,length_append→OQ,getElem?_map→OR,mem_singleton→OS,size_toArray→OT,range→OV,length_range→OW,mem_range→OX,mem_append→OY,mem_filter→OZ,mem_cons_of_mem→O0,mem_cons_self→O1,mem_append_right→O4,map_append→O5,filter_append→O9,mem_cons→Pa,nodup_iff_pairwise_ne→Pb,take_length→Pc,filter_cons_of_pos→Pe,filter_cons_of_neg→Pf,getElem?_append_left→Pg,length_cons→Ph,append_nil→Pj,getElem?_append_right→Pk,length_filter_le→Pm,mem_append_left→Pn,map_cons→Po,map_map→Pp,length_take→Pu,pairwise_map→Px,map_congr_left→PB,nodup_range→PL,append_assoc→PM,length_set→PR,getElem?_eq_none→PU,nodup_append→PY,perm_ext_iff_of_nodup→P0,sum_cons→Qe,range_succ→Qg,length_eq_zero_iff→Qk,getD_eq_getElem?_getD→Ql,exists_cons_of_length_eq_add_one→Qm,length_nil→Qn,filter_nil→Qo,not_mem_nil→Qp,mem_iff_getElem?→Qq,find?_cons→Qr,filter_eq_nil_iff→Qt,filterMap_cons→Qu,getElem?_range→Qv,pairwise_iff_getElem→Qx,nodup_cons→Qy,length_singleton→QA,pairwise_flatMap→QC,filter_congr→QH,flatMap_cons→QI,getD→QK,pairwise_lt_range→QN,mem_flatMap→QR,length_erase_of_mem→QX,ext_getElem?→QY,getElem?_replicate→Q1,flatMap_append→Q3,length_drop→Q4,lookup_cons→Q5,exists_mem_of_length_pos→Q6,getElem?_set_self→Ra,length_pos_of_mem→Rb,filter_map→Rg,sum_append→Rh,getElem?_set_ne→Ro,getElem_mem→Rp,all_eq_true→Rq,getElem_of_mem→Rr,of_mem_zip→Ru,any_cons→Rv,getElem?_drop→Rz,nodup_nil→RF,take_append_drop→RJ,countP_cons→RK,flatMap_nil→RM,filter_cons→RO,map_eq_cons_iff→RQ,filter_eq_self→RV,mem_filterMap→RY,zip_cons_cons→RZ,filter_filter→R3,zip→R6,replicate→R7,getLast?_eq_getElem?→R8,drop_eq_getElem_cons→R9,take_add_one→Sd,length→Sf,pairwise_singleton→Sh,getElem_inj→Sk,mem_flatten→Sn,range_succ_eq_map→Sq,length_replicate→Su,map_nil→Sv,foldl_cons→Sx,pairwise_flatten→SA,mem_erase_of_ne→SK,getLastD_concat→SM,getElem?_of_mem→SN,mem_of_mem_take→SQ,mergeSort_perm→SV,length_flatten→SW,sum_singleton→S8,flatten_cons→Te,map_snd_zip→Tp,range'_succ→Tq,cons_ne_nil→Tr,drop_length→Tt,length_zip→TF,take_succ→TK,all_cons→TR,map_drop→TV,map_id'→T4,map_id→Ue
open PySem.W renaming Frag→OJ,kitOne→Pw,fnOf→PV,mg_none_of→PZ,mg_of→Qi,KatTups→QM,keepIn→Q7,codeIn→Q9,exmOne→RH,methodObj→Sa,cellsFrom_some→So,nsIn→SI,hideAll_get→SS,of_hideAll→SY,callWith_K→S4,excIn→S5,Looks→Ta,hideAll→Tu,OpenLaw→Tv,kia_one→Tx,kIn_of→TJ,WalkO→TU
open PySem.Heap renaming get?_push_of_some→OM,lt_size→O3,get?_push_size→O6,get?_update_other→Qc,get?_update_self→Qz,size_push→QG,get?_push_ne→RD,size_update→RN,get?_update_ne→RW
open Nat renaming le_refl→ON,ne_of_lt→Pd,lt_of_lt_of_le→Pt,le_trans→PD,zero_le→PH,lt_succ_of_lt→Qa,zero_add→Qh,lt_of_le_of_lt→Qs,lt_irrefl→QF,le_of_not_lt→QO,lt_succ_self→QP,max_eq_right→QQ,ne_of_gt→QS,mul_le_mul_right→QU,lt_of_succ_lt→Q0,le_succ→Q2,mul_left_comm→Rk,not_lt_zero→Rx,mul_assoc→RA,add_assoc→RR,add_le_add_left→RU,le_of_eq→R0,min_self→R5,le_of_lt→Sr,le_antisymm→Sw,add_zero→Sy,max_eq_left→Sz,min_eq_left→SD,mul_comm→SE,succ_mul→SG,pow_le_pow_right→SO,mul_le_mul→SR,add_mul→SU,lt_of_le_of_ne→S6,lt_or_gt_of_ne→S7,add_sub_cancel→S9,beq→Td,succ_pos→Tj,min_eq_right→To,le_add_right→Ts,strongRecOn→Tw,le_add_left→Tz,mul_add→TB,one_mul→TC,pow_succ→TZ,sub_zero→T5,max_self→T6,one_pos→Ub,mul_pos→Uc,mul_one→Ud
open Classical renaming byContradiction→OU,choose_spec→QB,axiomOfChoice→Ry,choose→Sl,em→T7
open Bool renaming false_ne_true→O2,false_eq_true→PF,and_eq_true→PX,eq_false_iff→Qj,false_and→Qw,eq_iff_iff→QV,not_true→Rl,and_false→RG,not_eq_true→RP,and_eq_false_iff→SF,true_and→Tb,not_eq_true'→Tc,false_or→TQ,true_or→TY
open PySem.F renaming plainAttrs_list→O7,slot_list_append→Py,type_list_append→Pz,slot_list_extend→PN,type_list_extend→PQ,excBase_ValueError→Rn,args_tuple_add_2→Rt,entry_tuple_add→Rw,slot_tuple_add→RB,slot_dict_update→Se,slot_list_count→Si,type_list_count→Sj
open Int renaming toNat_natCast→Pq,emod_nonneg→QD,emod_lt_of_pos→QE,natCast_nonneg→QT,zero_add→Ri,natCast_mul→Rj,le_refl→RC,toNat→SH,not_lt→SJ,le_trans→Tg,le_of_lt→Ti,natCast_add→TH,mul_one→T8
open Array renaming getElem?_eq_getElem→Qb,length_toList→Qf,forIn_toList→Rc,getElem?_eq_some_iff→Rm,getElem?_toList→RI,perm_iff_toList_perm→RX,toList→Ss,append_assoc→SX,size_map→TL,size_zip→TM
open Option renaming map_eq_some_iff→Qd,isSome_map→QW,map_some→RT,isSome_iff_exists→Sb,getD_none→Tn
open PyProof.Rows renaming callWith_type1→QJ,slot_tuple_getitem→QZ,get?_update_seq→RS,callWith_builtin1→Tf,callWith_kw→TN,lt_int→Ua
open Prod renaming ext→R4,fst→TX
open PySem renaming wpAny_bind→Uh,Value→Uj,Addr→Um,Shared→Uq,wpAny_pure→Ur,sizeLine→Uu,Program→Ux,FuncData→Uz,World→UA,starEach→UC,wpAny_holding→UD,Around→UG,Heap→UH,Str→UI,sizeLine_eq→UJ,wpAny_loadPart'→UK,Expr→UL,wpAny_call_entry→UM,wpAny_newObj_type→UN,wpAny_truthy_bool→UP,compareOp→UQ,bootBuiltins→UR,mainGlobals→UT,wpAny_field→UW,wpAny_mono→UX,sysModules→U0,wpAny_typeNameOfWhole_keyiter→U4,wpAny_dictEntries→U5,Obj→U6,wpAny_eqBool_int→U7,wpAny_pyIter_tuple→U8,wpAny_execs_nil→U9,wpAny_passesOwn→Va,wpAny_attempt→Vc,wpAny_typeNameOf_keyiter→Ve,wpAny_forIn_list→Vf,wpAny_seqItems→Vg,wpAny_isInstance→Vh,wpAny_Call_Name_kw→Vi,wpAny_setField_rec→Vj,wpAny_specialOf→Vl,codeAny_builtin→Vm,wpAny_standAt→Vn,wpAny_newList→Vo,Stmt→Vp,wpAny_rule→Vq,wpAny_execs_cons→Vr,argBest→Vs,binaryOp→Vu,bindArgs→Vv,wpAny_dictEpoch→Vw,assignEach→Vx,sliceBounds→Vy,DictEntry→Vz,wpAny_pyIter_list→VC,foldedSetIterable→VD,codeAny_mono→VE,wpAny_setField→VF,isSubtype_tuple_tuple→VH,entryOfKey→VI,tupleKind→VJ,Pos→VL,behindInMarks→VM,storedH→VN,relabel→VO,plainId_quiet→VP,richCompare→VQ,wpAny_letGo→VR,wpAny_updateSeq→VT,Scope→VU,codeAny→VX,tupleKind_room_in1→V0,firstArgMember→V2,wpAny_newTuple→V3,wpAny_tryCatch→V5,wpAny_tupleItemsOf→V7,IsEnum→Wb,swapsWith→We,wpAny_Dict_empty→Wf,noFill_tuple_add→Wg,wpAny_call→Wh,getItem→Wi,wpAny_Assign_Subscript→Wj,richCompare_meets_room→Wk,isInstance→Wo,letOwnedTupleGo→Wu,size_of_entries→Wv,wpAny_isTrue_Compare1→Wx,wpAny_notOrdered_dict→Wy,wpAny_isOneOf_keyiter→Wz,wpAny_loadName_local→WD,subscripted→WE,wpAny_of_eq→WG,codeAny_call_builtin→WJ,inplaceOp→WM,callerA→WN,eqIsQuiet→WR,wpAny_loadName_cell→WS,Env→WT,Model→WU,seq_tuple_add→WV,evalPart_none→WW,evalPart_some→WX,strLen_append→WY,wpAny_setItem_heap→WZ,call_meets→W5,closureFor→W6,int_text_length_le→W7,checkCount→W9,valueAt→Xb,concat_meets→Xc,seqIndex_neg→Xd,wpAny_pyIter_enum→Xe,eqIsQuiet_byValue→Xk,storeName→Xm,noteFrame→Xo,IsEnumOut→Xp,joinParts→Xq,keywordEach→Xr,seqIndex_of→Xs,holding→Xu,BindsTo→Xv,builtinsNs→Xw,wpAny_Name→Xx,NameKind→Xy,typeLookup→Xz,compEnvC→XA,newTuple→XB,setField→XC,evalEach→XD,IsTupleKey→XI,Tok→XJ,CmpOp→XN,standAt→XQ,setItem→XR,Keyword→XS,leaving→XW,Sem→X0
open PyProof.Rows renaming wpS_bind→UO,SortSt→UZ,wpS_pure→U2,Keyed→U3,IntsAre→Vb,listUpdate_at→Vd,pairsOf→Vt,wpS_forRange→VG,seqEpoch_at→VS,AllBare→VW,pendingOf→VZ,failedOf→V4,args_list_sort→V6,subscriptTail→Wa,reverseSlice'→Wd,subscriptTail_builtinR→Wl,listItems_at→Wq,plain_sorted→Wr,entry_sorted→Ws,joinParts_cons→WH,FormattedValue_plain→WI,wpS_reverse→WK,kind_sorted→WL,tuples'→WQ,Subscript_→W0,size_push'→W8,wpS_get→Xg,args_sorted1→Xh,collect_list→Xi,pairsOf_size→Xj,wpS_mono→XE,wpS_modify→XF,sortedHeap→XG,IsTup→XM,KskOut→XZ
open PySem.W renaming looks_findIn→Xf,kat_cons→XH,Looks→XO,kat_yes→XY
open Option renaming some→Ya
def Uk:=@if_neg
def Ul:=@decide_eq_true
def Uo:=@if_pos
def Up:=@decide_eq_false
def Us:=@absurd
def Uw:=@of_decide_eq_true
def Uy:=@decide_eq_true_iff
def US:=@beq_self_eq_true
def U1:=@if_false
def VA:=@decide_eq_false_iff_not
def VY:=@if_true
def Wn:=@dif_pos
namespace L2
open PySem PySem.Spec PyProof.Rows
noncomputable abbrev Key:=Sum Int UI
noncomputable def tP:Key->Uj->Bool
 |.inl k,v=>Value.isInt k v
 |.inr x,v=>Value.isStrOf x v
noncomputable def NZ(w:UA):Key->Int
 |.inl k=>hashInt k
 |.inr x=>hashStr w x
theorem bV:∀{k:Key}{v:Uj},tP k v=true->(∃i t,k=Sum.inl i/\v=Value.int i t)\/(∃x t,k=Sum.inr x/\v=Value.str x t)
 |.inl i,v,h=>by
  obtain⟨t,e⟩:=Value.isInt_shape (k:=i) (v:=v) h;exact .inl ⟨i,t,rfl,e⟩
 |.inr x,v,h=>by
  obtain⟨t,e⟩:=Value.isStrOf_shape (x:=x) (v:=v) h;exact .inr ⟨x,t,rfl,e⟩
theorem A9(i:Int)(t:XJ):tP (.inl i) (.int i t)=true:=by simp[tP,Value.isInt]
theorem Ba(x:UI)(t:XJ):tP (.inr x) (.str x t)=true:=by simp[tP,Value.isStrOf]
theorem Ie(a b:Int):decide ((Sum.inl a:Key)=Sum.inl b)=(a==b):=by
 by_cases e:a=b
 .subst e;simp
 have h:¬(Sum.inl a:Key)=Sum.inl b:=λq=>e (Sum.inl.inj q);rw[Up h];exact(beq_eq_false_iff_ne.mpr e).symm
theorem Ig(a b:UI):decide ((Sum.inr a:Key)=Sum.inr b)=decide (a=b):=by
 by_cases e:a=b
 .subst e;simp
 have h:¬(Sum.inr a:Key)=Sum.inr b:=λq=>e (Sum.inr.inj q);rw[Up h,Up e]
theorem Ih(a:Int)(b:UI):decide ((Sum.inl a:Key)=Sum.inr b)=false:=Up (λq=>nomatch q)
theorem Ii(a:UI)(b:Int):decide ((Sum.inr a:Key)=Sum.inl b)=false:=Up (λq=>nomatch q)
noncomputable def bG(prog:Ux)(w:UA):PySem.KeyKind prog w Key where
 is:=tP
 hash:=NZ w
 inj:=λv a b J G=>by
  rcases bV J with⟨i,t,rfl,rfl⟩|⟨x,t,rfl,rfl⟩
  .rcases bV G with⟨j,u,rfl,e⟩|⟨y,u,rfl,e⟩
   .injection e with e1 _;rw[e1]
   exact nomatch e
  rcases bV G with⟨j,u,rfl,e⟩|⟨y,u,rfl,e⟩
  .exact nomatch e
  injection e with e1 _;rw[e1]
 byValue:=λk v h=>by
  rcases bV h with⟨i,t,rfl,rfl⟩|⟨x,t,rfl,rfl⟩ <;> rfl
 pyHash:=λD h=>by
  rcases bV D with⟨i,t,rfl,rfl⟩|⟨x,t,rfl,rfl⟩
  .exact wpAny_pyHash_int h
  exact wpAny_pyHash_str h
 eqBool:=λO D h=>by
  rcases bV O with⟨i,t,rfl,rfl⟩|⟨x,t,rfl,rfl⟩
  .rcases bV D with⟨j,u,rfl,rfl⟩|⟨y,u,rfl,rfl⟩
   .rw[Ie]at h;exact U7 h
   rw[Ih]at h;exact SeqAt.EqAt.int_str i t y u _ _ _ _ h
  rcases bV D with⟨j,u,rfl,rfl⟩|⟨y,u,rfl,rfl⟩
  .rw[Ii]at h;exact SeqAt.EqAt.str_int x t j u _ _ _ _ h
  rw[Ig]at h;exact wpAny_eqBool_str h
 «strs»:=λk x t v h=>by
  rcases bV h with⟨i,u,rfl,e⟩|⟨y,u,rfl,e⟩
  .exact nomatch e
  injection e with e1 _;subst e1;cases v <;> rfl
theorem wQ(prog:Ux)(w:UA)(i:Int)(t:XJ):(bG prog w).is (.inl i) (.int i t)=true:=A9 i t
theorem wR(prog:Ux)(w:UA)(x:UI)(t:XJ):(bG prog w).is (.inr x) (.str x t)=true:=Ba x t
inductive V where
 |g6|bl (b:Bool)|int (i:Int)|str (x:UI)|Cs (b:Array UInt8)|iT (b:UInt64)|ref (a:Um)|ty (n:String)
 deriving DecidableEq
noncomputable def RelV:V->Uj->Prop
 |.g6,u=>u=Value.none
 |.bl b,u=>u=Value.bool b
 |.int i,u=>∃t,u=Value.int i t
 |.str x,u=>∃t,u=Value.str x t
 |.Cs b,u=>∃t,u=Value.bytes b t
 |.iT b,u=>∃t,u=Value.float b t
 |.ref a,u=>u=Value.ref a
 |.ty n,u=>u=Value.type n
abbrev Vals:List V->List Uj->Prop:=Paired RelV
theorem Vals.length{xs:List V}{D:List Uj}(r:Vals xs D):xs.length=D.length:=Paired.length r
theorem Vals.get:∀{xs:List V}{D:List Uj}{i:Nat}{x:V},Vals xs D->xs[i]?=Ya x->∃u,D[i]?=Ya u/\RelV x u
 |_,_,_,_,.nil,e=>by simp at e
 |_,_,0,_,.cons r _,e=>by simp at e;subst e;exact⟨_,rfl,r⟩
 |_,_,i+1,x,.cons _ t,e=>by
  obtain⟨u,G,J⟩:=Vals.get (i:=i) (x:=x) t (by simpa using e);exact⟨u,by simpa using G,J⟩
theorem Vals.set{x:V}{u:Uj}(r:RelV x u):∀{xs:List V}{D:List Uj} (i:Nat),Vals xs D->Vals (xs.set i x) (D.set i u)
 |_,_,_,.nil=>.nil
 |_,_,0,.cons _ t=>.cons r t
 |_,_,i+1,.cons q t=>.cons q (Vals.set r i t)
theorem Vals.append:∀{xs D:List V}{G J:List Uj},Vals xs G->Vals D J->Vals (xs++D) (G++J)
 |_,_,_,_,.nil,s=>s
 |_,_,_,_,.cons r t,s=>.cons r (Vals.append t s)
theorem Vals.take:∀{xs:List V}{D:List Uj} (n:Nat),Vals xs D->Vals (xs.take n) (D.take n)
 |_,_,0,_=>.nil
 |_,_,_+1,.nil=>.nil
 |_,_,n+1,.cons r t=>.cons r (Vals.take n t)
theorem Vals.drop:∀{xs:List V}{D:List Uj} (n:Nat),Vals xs D->Vals (xs.drop n) (D.drop n)
 |_,_,0,r=>r
 |_,_,_+1,.nil=>.nil
 |_,_,n+1,.cons _ t=>Vals.drop n t
noncomputable def sQ:Option V->Option Uj->Prop
 |some v,Ya u=>RelV v u
 |none,none=>True
 |_,_=>False
def KV{κ:Type}:List (κ×V)->List (κ×Uj)->Prop:=Paired λ(p:κ×V) (q:κ×Uj)=>p.1=q.1/\RelV p.2 q.2
noncomputable def kV:Key->V
 |.inl i=>.int i
 |.inr x=>.str x
inductive HO where
 |lst (xs:List V)
 |tup (xs:List V)
 |dK (lV:List (Key×V))|dT (lV:List (List Key×V))
 |set (S:Int->Bool) (n:Nat)
 |ins (C dx:Um) (fs:List (UI×V))
 |own (x:Um)
 |xd (fs:List (UI×V))
 |met (f x:Um)
 |Hj (lo hi:Int)
 |Ct (o:U6) (u:HO)
 |Hk (ps:Array Uj)
 |ext (φ:UH->Prop)
noncomputable abbrev Hp:=Um->Option HO
noncomputable def upd(H:Hp)(a:Um)(o:HO):Hp:=λb=>if b=a then some o else H b
theorem ag{H:Hp}{a:Um}{o:HO}:upd H a o a=Ya o:=by unfold upd;rw[Uo rfl]
theorem aG{H:Hp}{a b:Um}{o:HO}(h:b≠a):upd H a o b=H b:=by unfold upd;rw[Uk h]
theorem Cu{H:Hp}{a b:Um}{o u:HO}(h:H a=Ya o)(h':H b=Ya u)(d:o≠u):a≠b:=by
 intro e;subst e;rw[h]at h';exact d (Option.some.inj h')
theorem aW{H:Hp}{a b:Um}{o:HO}(h:H a=Ya o)(h':H b=none):a≠b:=by
 intro e;subst e;rw[h]at h';cases h'
section
variable (P:Ux)(w:UA)
noncomputable def cQ(H:Hp)(h:UH)(a:Um): HO->Prop
  |.lst xs=>xs.length<=Uu/\∃(its:List Uj) (n:Nat),Vals xs its/\h.get? a=Ya { cls := .type "list", data := .seq its.toArray n }
  |.tup xs=>xs.length<=Uu/\∃its:List Uj,Vals xs its/\XM h a its.toArray
  |.dK D=>D.length<=Uu/\(a==U0)=false/\∃O,KV D O/\h.DictOf (bG P w) a O
  | .dT D => D.length <= Uu /\ (a == U0)=false /\ ∃ xs : List (List Key × Um × Uj),
      Paired (λ(p:List Key×V) (q:List Key×Um×Uj)=>p.1=q.1/\H q.2.1=Ya (.tup (p.1.map kV))/\RelV p.2 q.2.2) D xs /\
      ∃o es ep,h.get? a=Ya o/\o.ExactDict/\o.data=.dict es ep/\es.toList=xs.map (VI (VJ (bG P w)))/\(xs.map (·.1)).Nodup
  |.set S n=>h.SetOf (intKind P w) a S n
  | .ins C J fs => H J=Ya (.own a) /\ fs.length <= 1000 /\ J ≠ a /\ h.get? a=Ya (PySem.W.instObj C J) /\
      ∃G,h.Ns1 J G/\(∀f,sQ (fs.lookup f) (G f))/\PySem.Within G (fs.map (·.1))
  |.own _=>∃o,h.get? a=Ya o
  |.xd fs=>∃G,h.Ns1 a G/\∀f,sQ (fs.lookup f) (G f)
  |.Hj lo hi=>∃t u v,h.get? a=Ya { cls := .type "range", data := .fields #[.int lo t,.int hi u,.int 1 v] }
  |.Ct o u=>h.get? a=Ya o/\cQ H h a u
  |.Hk ps=>h.get? a=Ya { cls := .none,data := .fields ps }
  |.met f x=>h.get? a=Ya (Sa (.ref f) (.ref x))
  |.ext φ=>φ h/\(∃o,h.get? a=Ya o)/\∀U Z:UH,φ U->(∀o,U.get? a=Ya o->Z.get? a=Ya o)->φ Z
def md(H:Hp)(h:UH):Prop:=∀a o,H a=Ya o->cQ P w H h a o
end
section
variable {P:Ux}{w:UA}{H H':Hp}{h h':UH}{a:Um}{o:HO}
theorem cQ.lt(x:cQ P w H h a o):a<h.objs.size:=by
 cases o with
 |lst xs=>obtain⟨_,_,_,_,e⟩:=x;exact O3 e
 |tup xs=>obtain⟨_,_,_,p⟩:=x;exact p.lt
 |dK D=>obtain⟨_,_,_,_,o,_,_,e,_⟩:=x;exact O3 e
 |dT D=>obtain⟨_,_,_,_,o,_,_,e,_⟩:=x;exact O3 e
 |set S n=>obtain⟨o,_,_,_,e,_⟩:=x;exact O3 e
 |ins C G fs=>obtain⟨_,_,_,e,_⟩:=x;exact O3 e
 |own y=>obtain⟨_,e⟩:=x;exact O3 e
 |xd fs=>obtain⟨_,⟨_,_,_,e,_⟩,_⟩:=x;exact O3 e
 |Hj lo J=>obtain⟨_,_,_,e⟩:=x;exact O3 e
 |Ct ob u=>obtain⟨e,_⟩:=x;exact O3 e
 |Hk O=>exact O3 (show h.get? a=Ya _ from x)
 |met f y=>exact O3 (show h.get? a=Ya _ from x)
 |ext φ=>obtain⟨_,⟨_,e⟩,_⟩:=x;exact O3 e
theorem Paired.Fw{α β:Type}{F G:α->β->Prop}:∀{D:List α}{J:List β},Paired F D J->(∀a b,F a b->G a b)->Paired G D J
 |_,_,.nil,_=>.nil
 |_,_,.cons r t,f=>.cons (f _ _ r) (Paired.Fw t f)
theorem cQ.sR(x:cQ P w H h a o)(k:∀b u,(b=a\/H b=Ya (.own a))->h.get? b=Ya u->h'.get? b=Ya u)
  (U:∀b,H b=Ya (.own a)->H' b=Ya (.own a)) (V:∀b xs,H b=Ya (.tup xs)->H' b=Ya (.tup xs)):cQ P w H' h' a o:=by
 induction o with
 |lst xs=>obtain⟨z,its,n,r,e⟩:=x;exact⟨z,its,n,r,k _ _ (.inl rfl) e⟩
 |tup xs=>obtain⟨z,its,r,ob,e,c⟩:=x;exact⟨z,its,r,ob,k _ _ (.inl rfl) e,c⟩
 |dK D=>obtain⟨z,y,Z,r,ob,es,ep,e,c⟩:=x;exact⟨z,y,Z,r,ob,es,ep,k _ _ (.inl rfl) e,c⟩
 |dT D =>
  obtain⟨z,y,xs,r,ob,es,ep,e,c⟩:=x;exact⟨z,y,xs,Paired.Fw r λp q z=>⟨z.1,V _ _ z.2.1,z.2.2⟩,ob,es,ep,k _ _ (.inl rfl) e,c⟩
 |set S n=>obtain⟨ob,es,ep,t,e,c⟩:=x;exact⟨ob,es,ep,t,k _ _ (.inl rfl) e,c⟩
 |ins C dx fs =>
  obtain⟨d,z,ne,e,G,⟨J,es,ep,e2,c⟩,r⟩:=x;exact⟨U _ d,z,ne,k _ _ (.inl rfl) e,G,⟨J,es,ep,k _ _ (.inr d) e2,c⟩,r⟩
 |own y=>obtain⟨ob,e⟩:=x;exact⟨ob,k _ _ (.inl rfl) e⟩
 |xd fs=>obtain⟨G,⟨J,es,ep,e,c⟩,r⟩:=x;exact⟨G,⟨J,es,ep,k _ _ (.inl rfl) e,c⟩,r⟩
 |Hj lo hi=>obtain⟨t,u,v,e⟩:=x;exact⟨t,u,v,k _ _ (.inl rfl) e⟩
 |Ct ob u ih=>obtain⟨e,q⟩:=x;exact⟨k _ _ (.inl rfl) e,ih q⟩
 |Hk O =>
  have e:h.get? a=Ya { cls:=.none,data:=.fields O }:=x;show h'.get? a=Ya { cls:=.none,data:=.fields O };exact k a _ (.inl rfl) e
 |met f y =>
  have e:h.get? a=Ya (Sa (.ref f) (.ref y)):=x;show h'.get? a=Ya (Sa (.ref f) (.ref y));exact k a _ (.inl rfl) e
 |ext φ=>obtain⟨p,⟨o,e⟩,st⟩:=x;exact⟨st _ _ p λo q=>k _ _ (.inl rfl) q,⟨o,k _ _ (.inl rfl) e⟩,st⟩
theorem md.lt(x:md P w H h)(e:H a=Ya o):a<h.objs.size:=(x a o e).lt
theorem md.fresh(x:md P w H h)(e:h.objs.size<=a):H a=none:=by
 cases q:H a with
 |none=>rfl
 |some u=>exact Us (Pt (x.lt q) e) (QF _)
theorem md.kept(x:md P w H h)(k:∀b u,h.get? b=Ya u->h'.get? b=Ya u):md P w H h':=λa o e =>
 (x a o e).sR (λb u _ q=>k b u q) (λ_ q=>q) λ_ _ q=>q
theorem md.laid(x:md P w H h)(k:∀b u,h.get? b=Ya u->h'.get? b=Ya u)(hp:h.objs.size<=a)(D:cQ P w (upd H a o) h' a o):md P w (upd H a o) h':=λb u e=>by
 have G:=x.fresh hp;by_cases J:b=a
 .subst J;rw[ag]at e;cases e;exact D
 rw[aG J]at e;exact(x b u e).sR (λc v _ q=>k c v q) (λc q=>by rw[aG (aW q G)];exact q) λc xs q=>by rw[aG (aW q G)];exact q
end
def Rd(H:Hp)(a:Um)(u:HO):Prop:=H a=Ya u\/∃o,H a=Ya (.Ct o u)
theorem Rd.ok{P:Ux}{w:UA}{H:Hp}{h:UH}{a:Um}{u:HO}(r:Rd H a u)(x:md P w H h):cQ P w H h a u:=by
 rcases r with r|⟨o,r⟩
 .exact x a u r
 obtain⟨_,q⟩:=x a _ r;exact q
noncomputable def KR:Option HO->Prop
 |some (.lst _)=>True
 |some (.dK _)=>True
 |some (.dT _)=>True
 |some (.set _ _)=>True
 |some (.ins _ _ _)=>True
 |some (.ext _)=>True
 |_=>False
section
variable {P:Ux}{w:UA}{H:Hp}{h h':UH}{x e:Um}{o':HO}
theorem md.write(ok:md P w H h)(O:KR (H x))(he:e=x\/H e=Ya (.own x))(k:∀b u,b≠e->h.get? b=Ya u->h'.get? b=Ya u)(Z:∃u,h'.get? e=Ya u)
  (new:cQ P w (upd H x o') h' x o'):md P w (upd H x o') h':=λb u q=>by
 have G:∀c y,H c=Ya (.own y)->c≠x:=λc y r z=>by subst z;rw[r]at O;exact O
 have J:∀c xs,H c=Ya (.tup xs)->c≠x:=λc xs r z=>by subst z;rw[r]at O;exact O
 by_cases U:b=x
 .subst U;rw[ag]at q;cases q;exact new
 rw[aG U]at q;by_cases D:b=e
 .have q':H b=Ya (.own x):=by
   rcases he with z|z
   .exact Us (D.trans z) U
   rw[D];exact z
  rw[q]at q';cases q';obtain⟨v,hv⟩:=Z;exact⟨v,by rw[D];exact hv⟩
 refine(ok b u q).sR (λc v V r=>k c v ?_ r) (λc r=>by rw[aG (G c b r)];exact r) λc xs r=>by rw[aG (J c xs r)];exact r
 rcases V with rfl|V
 .exact D
 rintro rfl;rcases he with z|z
 .exact G c b V z
 rw[V]at z;cases z;exact U rfl
end
structure Un(fs ex:List Um) (H H':Hp) (h h':UH):Prop where
 keep:∀b o,h.get? b=Ya o->H b=none->b∉fs->b∉ex->h'.get? b=Ya o
 slot:∀b o,h.get? b=Ya o->H b=none->b∈fs->b∉ex->∃sl,h'.get? b=Ya { o with slots:=sl }
 free:∀b o,h.get? b=Ya o->H b=none->b∉ex->H' b=none
 there:∀b o,h.get? b=Ya o->b∉ex->∃o',h'.get? b=Ya o'
 mw:∀b xs,H b=Ya (.tup xs)->H' b=Ya (.tup xs)
 lW:∀b o u,H b=Ya (.Ct o u)->H' b=Ya (.Ct o u)
 my:∀b ps,H b=Ya (.Hk ps)->∃more,H' b=Ya (.Hk (ps++more))
section
variable {fs fs' ex ex':List Um}{H H1 H2:Hp}{h h1 h2 h':UH}{a x e:Um}{o:HO}
theorem Un.any(u:Un fs ex H H1 h h1){b:Um}{ob:U6}(q:h.get? b=Ya ob)(n:H b=none)(D:b∉ex):∃J,h1.get? b=Ya { ob with slots:=J }:=by
 by_cases G:b∈fs
 .exact u.slot b ob q n G D
 exact⟨ob.slots,u.keep b ob q n G D⟩
theorem Un.trans(a:Un fs ex H H1 h h1)(b:Un fs ex H1 H2 h1 h2):Un fs ex H H2 h h2 where
 keep:=λc ob q n G D=>b.keep c ob (a.keep c ob q n G D) (a.free c ob q n D) G D
 slot:=λc ob q n G D=>by
  obtain⟨V,e1⟩:=a.slot c ob q n G D;obtain⟨J,e2⟩:=b.slot c _ e1 (a.free c ob q n D) G D;exact⟨J,e2⟩
 free:=λc ob q n D=>by
  obtain⟨O,e1⟩:=a.there c ob q D;exact b.free c O e1 (a.free c ob q n D) D
 there:=λc ob q D=>by
  obtain⟨O,e1⟩:=a.there c ob q D;exact b.there c O e1 D
 mw:=λc xs q=>b.mw c xs (a.mw c xs q)
 lW:=λc ob xs q=>b.lW c ob xs (a.lW c ob xs q)
 my:=λc U q=>by
  obtain⟨m1,e1⟩:=a.my c U q;obtain⟨m2,e2⟩:=b.my c _ e1;exact⟨m1++m2,by rw[e2,SX]⟩
theorem Un.kept(k:∀b u,h.get? b=Ya u->h'.get? b=Ya u):Un fs ex H H h h' :=
 ⟨λb ob q _ _ _=>k b ob q,λb ob q _ _ _=>⟨ob.slots,k b ob q⟩,λ_ _ _ n _=>n,λb ob q _=>⟨ob,k b ob q⟩,λ_ _ q=>q,λ_ _ _ q=>q,λ_ D q=>⟨#[],by rw[q];simp⟩⟩
theorem Un.refl:Un fs ex H H h h:=Un.kept λ_ _ q=>q
theorem Un.laid(k:∀b u,h.get? b=Ya u->h'.get? b=Ya u)(hp:h.objs.size<=a)(D:H a=none):Un fs ex H (upd H a o) h h' where
 keep:=λb u q _ _ _=>k b u q
 slot:=λb u q _ _ _=>⟨u.slots,k b u q⟩
 free:=λb u q n _=>by rw[aG (Pd (Pt (O3 q) hp))];exact n
 there:=λb u q _=>⟨u,k b u q⟩
 mw:=λb xs q=>by rw[aG (aW q D)];exact q
 lW:=λb u xs q=>by rw[aG (aW q D)];exact q
 my:=λb G q=>⟨#[],by rw[aG (aW q D),q];simp⟩
theorem Un.write(G:KR (H x))(Z:e=x\/H e=Ya (.own x))(k:∀b u,b≠e->h.get? b=Ya u->h'.get? b=Ya u)(J:∃u,h'.get? e=Ya u):Un fs ex H (upd H x o) h h':=by
 have U:∀b,H b=none->b≠x:=λb n z=>by subst z;rw[n]at G;exact G
 have V:∀b,H b=none->b≠e:=λb n z=>by
  subst z;rcases Z with r|r
  .exact U b n r
  rw[n]at r;cases r
 have O:∀b u,H b=Ya u->¬KR (Ya u)->b≠x:=λb u q nm z=>by subst z;rw[q]at G;exact nm G
 refine⟨λb u q n _ _=>k b u (V b n) q,λb u q n _ _=>⟨u.slots,k b u (V b n) q⟩,λb u q n _=>by rw[aG (U b n)];exact n,λb u q _=>?_,
  λb xs q=>by rw[aG (O b _ q λz=>z)];exact q,λb u xs q=>by rw[aG (O b _ q λz=>z)];exact q,λb ps q=>⟨#[],by rw[aG (O b _ q λz=>z),q];simp⟩⟩
 by_cases D:b=e
 .subst D;exact J
 exact⟨u,k b u D q⟩
theorem Un.mono(u:Un fs ex H H1 h h1)(hs:∀b∈fs,b∈fs')(G:∀b∈ex,b∈ex'):Un fs' ex' H H1 h h1 :=
 ⟨λb ob q n J D=>u.keep b ob q n (λz=>J (hs b z)) λz=>D (G b z),λ_ _ q n _ D=>u.any q n λz=>D (G _ z),λb ob q n D=>u.free b ob q n λz=>D (G b z),λb ob q D=>u.there b ob q λz=>D (G b z),u.mw,u.lW,u.my⟩
end
noncomputable def Bb(h:UH)(H:Hp):List Addr:=(OV h.objs.size).filter λa=>(H a).isSome
noncomputable def uL(h:UH)(H:Hp):Heap:=Tu h (Bb h H)
theorem Bc(h:UH)(H:Hp):(uL h H).objs.size=h.objs.size:=PySem.W.hideAll_size _ _
theorem Cv{h:UH}{H:Hp}{b:Um}{o:U6}(e:h.get? b=Ya o)(n:H b=none):(uL h H).get? b=Ya o :=
 SS _ e λD=>by
  have q:(H b).isSome=true:=(OZ.mp D).2;rw[n]at q;simp at q
theorem Fx{h:UH}{H:Hp}{b:Um}{o:U6}(e:(uL h H).get? b=Ya o):h.get? b=Ya o/\H b=none:=by
 have D:h.get? b=Ya o:=SY (Bb h H) e;refine⟨D,?_⟩;cases q:H b with
 |none=>rfl
 |some x =>
  have G:b∈Bb h H:=OZ.mpr ⟨OX.mpr (O3 D),by simp[q]⟩;have z:(uL h H).get? b=none:=PySem.W.hideAll_none (Bb h H) G;rw[z]at e;cases e
structure Mod(K:OJ) (mg:UI->Option Uj) (base:UH):Prop where
 mU:K.In base
 glob:base.Ns UT mg
 blt:∃mb,base.Ns Xw mb/\∀x:UI,x≠"__name__"->mb x=UR x
 nolimit:base.NoLimit
/-- Cc context: a KS body (or a jV block) running. base: fixed through Cc whole law; s₀, H₀: Cc entry; outer: Cc frames KU slots others may change (a KS Nl); stack: all frames Fy run;
   ex: Kh Fy N0 made ahead of Cc entry and are walked here (a jV); fn: Cc names KU cells N0 made at Cc entry (a def: all; a jV block: its own); calm: not within an except suite; pn: pins Fy ab9 state bears; xe: aeh is wanted of an exception Fy N1 Cc code -/
structure Cx where
 prog:Ux
 w:UA
 K:OJ
 mg:UI->Option Uj
 base:UH
 A:UG
 N:List UI
 s₀:Uq
 H₀:Hp
 env:WT
 outer:List WT
 stack:List WT
 ex:List Um
 fn:UI->Bool
 calm:Bool
 pn:List (Um×U6)
 xe:Uj->Uq->Prop
noncomputable def lX(l:List WT):List Addr:=l.filterMap (·.frame)
noncomputable abbrev Cx.fs(X:Cx):List Addr:=lX X.outer
def Nm(D:VU)(x:UI):Prop:=D.names.lookup x=Ya .local\/D.names.lookup x=Ya .cell\/D.names.lookup x=Ya .free
def Loc(D:VU)(x:UI):Prop:=D.names.lookup x=Ya .local\/D.names.lookup x=Ya .cell
def Look(env:WT)(h:UH)(m:UI->Option Uj)(x:UI)(u:Uj):Prop :=
 (env.kindOf x=Ya .local/\m x=Ya u)\/((env.kindOf x=Ya .cell\/env.kindOf x=Ya .free)/\∃c,env.cells.lookup x=Ya c/\h.IsCell c (Ya u))
structure Cx.Ok(X:Cx):Prop where
 mod:Mod X.K X.mg X.base
 kind:X.env.scope.kind=.function
 glob:X.env.globals=UT
 blt:X.env.builtins=Xw
 above:X.s₀.heap.objs.size<=X.env.locals
 inj:∀x y c,X.env.cells.lookup x=Ya c->X.env.cells.lookup y=Ya c->x=y
 has:∀x,(X.env.kindOf x=Ya .cell\/X.env.kindOf x=Ya .free)->∃c,X.env.cells.lookup x=Ya c
 Ij:∀x c,X.fn x=true->X.env.cells.lookup x=Ya c->X.s₀.heap.objs.size<=c
 hd:X.calm=true->X.A.handled=none
 frames:X.A.frames=Ya X.stack
 Hl:X.stack=X.outer\/(X.stack=X.env::X.outer/\X.env.frame=Ya X.env.locals)
 Nn:∀b∈X.ex,b≠X.env.locals/\∀x c,X.env.cells.lookup x=Ya c->c≠b
 bs:∀b o,X.base.get? b=Ya o->X.s₀.heap.get? b=Ya o/\X.H₀ b=none
 Cw:X.base.objs.size<=X.s₀.heap.objs.size
 qM:∀b o,X.base.get? b=Ya o->b∉X.ex
 Bd:∀b∈X.ex,b∉X.fs
 mA:X.s₀.heap.FunFrames X.base X.outer
 Fz:∀b∈X.fs,X.H₀ b=none
structure Inv(X:Cx) (pins:List (Um×U6)) (σ:List (Option V)) (H:Hp) (s:Uq):Prop where
 ok:X.Ok
 os:s.os=X.s₀.os
 bare:VW s.gens
 base:Un X.fs X.ex X.H₀ H X.s₀.heap s.heap
 loc:∃m,s.heap.Ns X.env.locals m/\∀(i:Nat) (x:UI) (v:V),X.N[i]?=Ya x->σ[i]?=Ya (Ya v)->Nm X.env.scope x->∃u,RelV v u/\Look X.env s.heap m x u
 cell:∀x c,X.env.cells.lookup x=Ya c->∃v,s.heap.IsCell c v
 free:H X.env.locals=none
 iU:∀x c,X.env.cells.lookup x=Ya c->H c=none
 pin:∀p∈X.pn++pins,s.heap.get? p.1=Ya p.2/\H p.1=none/\p.1≠X.env.locals/\p.1∉X.fs/\∀v,p.2.data≠.cell v
 bM:md X.prog X.w H s.heap
 len:σ.length=X.N.length
section
variable {X:Cx}{pins:List (Um×U6)}{σ:List (Option V)}{H H':Hp}{s:Uq}{h':UH}
theorem Cx.Ok.N2(ok:X.Ok){b:Um}{o:U6}(e:X.base.get? b=Ya o):b∉X.fs:=λD=>by
 have:=(ok.mA.mem D).1;rw[e]at this;cases this
theorem Inv.bs(I:Inv X pins σ H s):∀b o,X.base.get? b=Ya o->s.heap.get? b=Ya o/\H b=none:=λb o e =>
 ⟨I.base.keep b o (I.ok.bs b o e).1 (I.ok.bs b o e).2 (I.ok.N2 e) (I.ok.qM b o e),I.base.free b o (I.ok.bs b o e).1 (I.ok.bs b o e).2 (I.ok.qM b o e)⟩
theorem Inv.bk(I:Inv X pins σ H s):∀b o,X.base.get? b=Ya o->s.heap.get? b=Ya o:=λb o e=>(I.bs b o e).1
theorem Inv.mod(I:Inv X pins σ H s):Mod X.K X.mg X.base:=I.ok.mod
theorem Inv.Be(I:Inv X pins σ H s):X.K.In s.heap:=I.ok.mod.mU.keeps I.bk
theorem Inv.lt(I:Inv X pins σ H s):X.env.locals<s.heap.objs.size:=let⟨_,D,_⟩:=I.loc;D.lt
theorem Inv.sz(I:Inv X pins σ H s):X.s₀.heap.objs.size<=s.heap.objs.size:=PD I.ok.above (Sr I.lt)
theorem Inv.N3(I:Inv X pins σ H s){a:Um}(h:s.heap.objs.size<=a):a∉X.fs:=λD=>by
 obtain⟨_,o,G,_⟩:=I.ok.mA.mem D;exact Us (Pt (O3 G) (PD I.sz h)) (QF _)
theorem Inv.Cy(I:Inv X pins σ H s):∀x c,X.env.cells.lookup x=Ya c->c≠X.env.locals:=λx c e z=>by
 obtain⟨v,o,J,hd⟩:=I.cell x c e;obtain⟨m,⟨O,es,ep,D,G,_⟩,_⟩:=I.loc;rw[z,D]at J;cases J;rw[G]at hd;cases hd
theorem Inv.mA(I:Inv X pins σ H s):s.heap.FunFrames X.base X.outer:=by
 have all:∀(l:List WT),(∀b∈lX l,b∈X.fs)->X.s₀.heap.FunFrames X.base l->s.heap.FunFrames X.base l:=by
  intro l
  induction l with
  |nil=>intro _ _;trivial
  |cons env r O =>
   intro hs U;obtain⟨V,⟨L,o,D,Z,ho,hd⟩,hr⟩:=U;have G:L∈X.fs:=hs L (by unfold lX;rw[Qu,D];exact O1);obtain⟨sl,e⟩:=I.base.slot L o ho (I.ok.Fz L G) G λz=>I.ok.Bd L z G;exact⟨V,⟨L,_,D,Z,e,hd⟩,O (λb J=>hs b (by unfold lX;rw[Qu,D];exact O0 _ J)) hr⟩
 exact all X.outer (λ_ J=>J) I.ok.mA
theorem Inv.stack(I:Inv X pins σ H s):s.heap.FunFrames X.base X.stack:=by
 rcases I.ok.Hl with e|⟨e,D⟩
 .rw[e];exact I.mA
 rw[e];obtain⟨m,G,_⟩:=I.loc;refine .cons (by rw[I.ok.kind];decide) D G ?_ I.mA;exact Heap.get?_none_of_le (PD I.ok.Cw I.ok.above)
theorem Inv.uM(I:Inv X pins σ H s):∀b∈lX X.stack,b∈X.env.locals::X.fs:=λb D=>by
 rcases I.ok.Hl with e|⟨e,G⟩
 .rw[e]at D;exact O0 _ D
 rw[e]at D;unfold lX at D;rw[Qu,G]at D;exact D
theorem Inv.uN(I:Inv X pins σ H s):∀b∈lX X.stack,H b=none:=λb D=>by
 rcases Pa.mp (I.uM b D)with e|D
 .rw[e];exact I.free
 obtain⟨_,o,G,_⟩:=I.ok.mA.mem D;exact I.base.free b o G (I.ok.Fz b D) λz=>I.ok.Bd b z D
theorem Inv.step{g':Array GenState}{t':Nat}{d':Drawn}{ch:List Um}(I:Inv X pins σ H s)
  (G:∀b∈ch,(b∈X.ex\/X.s₀.heap.objs.size<=b)/\b≠X.env.locals/\(∀x c,X.env.cells.lookup x=Ya c->c≠b)/\∀p∈X.pn++pins,p.1≠b)
  (keep:∀b o,b≠X.env.locals->b∉X.fs->b∉ch->s.heap.get? b=Ya o->H b=none->h'.get? b=Ya o)
  (slot:∀b o,b≠X.env.locals->b∈X.fs->b∉ch->s.heap.get? b=Ya o->H b=none->∃sl,h'.get? b=Ya { o with slots:=sl }) (free:∀b o,b∉ch->s.heap.get? b=Ya o->H b=none->H' b=none)
  (there:∀b o,b∉ch->s.heap.get? b=Ya o->∃Z,h'.get? b=Ya Z)
  (mw:∀b xs,H b=Ya (.tup xs)->H' b=Ya (.tup xs)) (lW:∀b o u,H b=Ya (.Ct o u)->H' b=Ya (.Ct o u)) (my:∀b ps,H b=Ya (.Hk ps)->∃more,H' b=Ya (.Hk (ps++more)))
  (ns:∀m,s.heap.Ns X.env.locals m->h'.Ns X.env.locals m) (bM:md X.prog X.w H' h') (hg:VW g') :
  Inv X pins σ H' { s with heap:=h',gens:=g',drawn:=d',toks:=t' }:=by
 have neL:∀b o,X.s₀.heap.get? b=Ya o->b≠X.env.locals:=λb o e=>Pd (Pt (O3 e) I.ok.above);have O:∀b o,X.s₀.heap.get? b=Ya o->b∉X.ex->b∉ch:=λb o e D U=>by
  rcases(G b U).1 with z|z
  .exact D z
  exact Us (Pt (O3 e) z) (QF _)
 have cellK:∀x c,X.env.cells.lookup x=Ya c->∀v,s.heap.IsCell c v->h'.IsCell c v:=λx c e v ⟨o,V,hd⟩=>by
  have J:c∉ch:=λz=>(G c z).2.2.1 x c e rfl;by_cases hc:c∈X.fs
  .obtain⟨sl,q⟩:=slot c o (I.Cy x c e) hc J V (I.iU x c e);exact⟨_,q,hd⟩
  exact⟨o,keep c o (I.Cy x c e) hc J V (I.iU x c e),hd⟩
 refine⟨I.ok,I.os,hg,⟨λb o e n U D=>?_,λb o e n U D=>?_,λb o e n D=>?_,λb o e D=>?_,λb xs e=>mw b xs (I.base.mw b xs e),λb o xs e=>lW b o xs (I.base.lW b o xs e),λb ps e=>?_⟩,?_,λx c e=>?_,?_,λx c e=>?_,λp hp=>?_,bM,I.len⟩
 .exact keep b o (neL b o e) U (O b o e D) (I.base.keep b o e n U D) (I.base.free b o e n D)
 .obtain⟨sl,e1⟩:=I.base.slot b o e n U D;obtain⟨sl',e2⟩:=slot b _ (neL b o e) U (O b o e D) e1 (I.base.free b o e n D);exact⟨sl',e2⟩
 .obtain⟨Z,e1⟩:=I.base.there b o e D;exact free b Z (O b o e D) e1 (I.base.free b o e n D)
 .obtain⟨Z,e1⟩:=I.base.there b o e D;exact there b Z (O b o e D) e1
 .obtain⟨m1,e1⟩:=I.base.my b ps e;obtain⟨m2,e2⟩:=my b _ e1;exact⟨m1++m2,by rw[e2,SX]⟩
 .obtain⟨m,hn,hl⟩:=I.loc;refine⟨m,ns m hn,λi x v e1 e2 e3=>?_⟩;obtain⟨u,r,l⟩:=hl i x v e1 e2 e3;refine⟨u,r,?_⟩;rcases l with l|⟨k,c,e,z⟩
  .exact .inl l
  exact .inr ⟨k,c,e,cellK x c e _ z⟩
 .obtain⟨v,z⟩:=I.cell x c e;exact⟨v,cellK x c e v z⟩
 .obtain⟨m,⟨o,_,_,V,_⟩,_⟩:=I.loc;exact free _ o (λz=>(G _ z).2.1 rfl) V I.free
 .obtain⟨v,o,V,hd⟩:=I.cell x c e;exact free c o (λz=>(G c z).2.2.1 x c e rfl) V (I.iU x c e)
 obtain⟨e,n,ne,nf,d⟩:=I.pin p hp;have J:p.1∉ch:=λz=>(G p.1 z).2.2.2 p hp rfl;exact⟨keep p.1 p.2 ne nf J e n,free p.1 p.2 J e n,ne,nf,d⟩
theorem Inv.un{t':Nat}(I:Inv X pins σ H s)(u:Un X.fs [] H H' s.heap h')(bM:md X.prog X.w H' h'):Inv X pins σ H' { s with heap:=h',toks:=t' }:=by
 obtain⟨m,⟨o,es,ep,U,r⟩,_⟩:=id I.loc;obtain⟨sl,V⟩:=u.any U I.free (by simp);exact I.step (g':=s.gens) (d':=s.drawn) (ch:=[]) (λ_ z=>nomatch z) (λb o _ G _ e n=>u.keep b o e n G (by simp)) (λb o _ G _ e n=>u.slot b o e n G (by simp)) (λb o _ e n=>u.free b o e n (by simp)) (λb o _ e=>u.there b o e (by simp)) u.mw u.lW u.my (λm' Z=>by
  obtain⟨o',J,O,D,r'⟩:=Z;rw[U]at D;cases D;exact⟨_,J,O,V,r'⟩) bM I.bare
theorem Inv.call{g':Array GenState}{t':Nat}{d':Drawn}{ch:List Um}(I:Inv X pins σ H s)(u:Un (lX X.stack) ch H H' s.heap h')(bM:md X.prog X.w H' h')(hg:VW g')
  (G:∀b∈ch,(b∈X.ex\/X.s₀.heap.objs.size<=b)/\b≠X.env.locals/\(∀x c,X.env.cells.lookup x=Ya c->c≠b)/\∀p∈X.pn++pins,p.1≠b) :
  Inv X pins σ H' { s with heap:=h',gens:=g',drawn:=d',toks:=t' }:=by
 obtain⟨m,⟨o,es,ep,Z,r⟩,_⟩:=id I.loc;obtain⟨sl,O⟩:=u.any Z I.free λz=>(G _ z).2.1 rfl;exact I.step (ch:=ch) G (λb o O hb D e n=>u.keep b o e n (λz=>(Pa.mp (I.uM b z)).elim O hb) D) (λb o _ _ D e n=>u.any e n D) (λb o D e n=>u.free b o e n D) (λb o D e=>u.there b o e D) u.mw u.lW u.my (λm' hm=>by
  obtain⟨o',U,V,J,r'⟩:=hm;rw[Z]at J;cases J;exact⟨_,U,V,O,r'⟩) bM hg
theorem Inv.turned{t':Nat}{D:Um}(I:Inv X pins σ H s)(k:∀b o,b≠D->s.heap.get? b=Ya o->h'.get? b=Ya o)(U:H D=none)(O:D≠X.env.locals)
  (V:D∈X.ex\/X.s₀.heap.objs.size<=D) (Z:∀x c,X.env.cells.lookup x=Ya c->c≠D) (h3:∀p∈X.pn++pins,p.1≠D):Inv X pins σ H { s with heap:=h',toks:=t' }:=by
 have J:∀b u,H b=Ya u->b≠D:=λb u e z=>by rw[z,U]at e;cases e
 refine I.step (g':=s.gens) (d':=s.drawn) (ch:=[D]) (λb hb=>?_) (λb o _ _ G e _=>k b o (λz=>G (by simp[z])) e) (λb o _ _ G e _=>⟨o.slots,k b o (λz=>G (by simp[z])) e⟩) (λ_ _ _ _ n=>n)
  (λb o G e=>⟨o,k b o (λz=>G (by simp[z])) e⟩) (λ_ _ e=>e) (λ_ _ _ e=>e) (λb ps e=>⟨#[],by rw[e];simp⟩) (λm hm=>?_) (λb u e=>?_) I.bare
 .have e:b=D:=by simpa using hb
  subst e;exact⟨V,O,Z,h3⟩
 .obtain⟨o,es,ep,ho,r⟩:=hm;exact⟨o,es,ep,k _ o (Ne.symm O) ho,r⟩
 refine(I.bM b u e).sR (λc v G q=>k c v ?_ q) (λ_ q=>q) λ_ _ q=>q;rcases G with z|z
 .rw[z];exact J b u e
 exact J c _ z
theorem Inv.tok(I:Inv X pins σ H s)(t:Nat):Inv X pins σ H { s with toks:=t }:=I.un (h':=s.heap) (t':=t) Un.refl I.bM
theorem Inv.kept{t':Nat}(I:Inv X pins σ H s)(k:∀b u,s.heap.get? b=Ya u->h'.get? b=Ya u):Inv X pins σ H { s with heap:=h',toks:=t' }:=I.un (Un.kept k) (I.bM.kept k)
theorem Inv.laid {a : Um}{o : HO}{t' : Nat}(I : Inv X pins σ H s)(k : ∀ b u, s.heap.get? b=Ya u -> h'.get? b=Ya u)(hp : s.heap.objs.size <= a)(D : cQ X.prog X.w (upd H a o) h' a o) :
    Inv X pins σ (upd H a o) { s with heap:=h',toks:=t' }:= I.un (Un.laid k hp (I.bM.fresh hp)) (I.bM.laid k hp D)
theorem Inv.write {x e : Um}{o : HO}{t' : Nat}(I : Inv X pins σ H s)(J : KR (H x))(O : e=x \/ H e=Ya (.own x))(k : ∀ b u, b ≠ e -> s.heap.get? b=Ya u -> h'.get? b=Ya u)(D : ∃ u, h'.get? e=Ya u)
    (G:cQ X.prog X.w (upd H x o) h' x o): Inv X pins σ (upd H x o) { s with heap:=h',toks:=t' }:= I.un (Un.write J O k D) (I.bM.write J O k D G)
theorem Inv.uO{D:List (Um×U6)}(I:Inv X pins σ H s)(h:∀p∈D,s.heap.get? p.1=Ya p.2/\H p.1=none/\p.1≠X.env.locals/\p.1∉X.fs/\∀v,p.2.data≠.cell v):Inv X D σ H s :=
 ⟨I.ok,I.os,I.bare,I.base,I.loc,I.cell,I.free,I.iU,λp hp=>(OY.mp hp).elim (λz=>I.pin p (Pn _ z)) (h p),I.bM,I.len⟩
theorem qN{N:List UI}(D:N.Nodup){i j:Nat}{x:UI}(a:N[i]?=Ya x)(b:N[j]?=Ya x):i=j:=by
 obtain⟨G,e1⟩:=OI.mp a;obtain⟨J,e2⟩:=OI.mp b;exact(Sk D).mp (e1.trans e2.symm)
theorem tQ{M:WU}{A:UG}{E:Uj->Uq->Prop}{i:Nat}{x:UI}{v:V}{u:Uj}{Q:Unit->Uq->Prop}(I:Inv X pins σ H s)(hN:X.N.Nodup)(hi:X.N[i]?=Ya x)(G:Loc X.env.scope x)(r:RelV v u)
  (h:∀s',Inv X pins (σ.set i (Ya v)) H s'->(∃a,Heap.SameBut a s.heap s'.heap/\(a=X.env.locals\/X.env.cells.lookup x=Ya a))->Q () s') (hf:X.fn x=true\/X.env.scope.names.lookup x=Ya .local:=by first|exact .inl rfl|exact .inr rfl|assumption):wpAny M A (Xm X.env x u) Q E s:=by
 obtain⟨m,hn,hl⟩:=id I.loc;have Ik:(X.env.scope.kind == .class||(X.env.scope.kind == .module&&X.env.locals != X.env.globals))=false:=by rw[I.ok.kind];rfl
 have O:i<σ.length:=by rw[I.len];exact(OI.mp hi).1
 have Cy:=I.Cy;have tracked:∀{a:Um}{h':UH},(∃o,s.heap.get? a=Ya o/\H a=none)->Heap.SameBut a s.heap h'->md X.prog X.w H h':=λ{a h'} ha hs b ob e=>by
  obtain⟨_,_,J⟩:=ha;refine(I.bM b ob e).sR (λc w' D q=>(hs.2 c ?_).trans q) (λ_ q=>q) λ_ _ q=>q;rintro rfl;rcases D with rfl|D
  .rw[J]at e;cases e
  rw[J]at D;cases D
 rcases G with U|U
 .refine wpAny_storeName_local U hn (λh' N4 hs=>?_) Ik;obtain⟨oL,_,_,hoL,_⟩:=id hn;refine h _ ⟨I.ok,I.os,I.bare,⟨λb o e n Z G=>?_,λb o e n Z G=>?_,I.base.free,λb o e G=>?_,I.base.mw,I.base.lW,I.base.my⟩,⟨_,N4,λj y v' e1 e2 e3=>?_⟩,λy c e=>?_,I.free,I.iU,λp hp=>?_,tracked ⟨oL,hoL,I.free⟩ hs,by simpa using I.len⟩ ⟨_,hs,.inl rfl⟩
  .exact(hs.2 b (Pd (Pt (O3 e) I.ok.above))).trans (I.base.keep b o e n Z G)
  .obtain⟨sl,e1⟩:=I.base.slot b o e n Z G;exact⟨sl,(hs.2 b (Pd (Pt (O3 e) I.ok.above))).trans e1⟩
  .obtain⟨o',e1⟩:=I.base.there b o e G;exact⟨o',(hs.2 b (Pd (Pt (O3 e) I.ok.above))).trans e1⟩
  .by_cases hj:j=i
   .subst hj;rw[hi]at e1;cases e1;rw[Ra O]at e2;cases e2;exact⟨u,r,.inl ⟨U,by simp⟩⟩
   rw[Ro (Ne.symm hj)]at e2;obtain⟨u',r',q⟩:=hl j y v' e1 e2 e3;refine⟨u',r',?_⟩;rcases q with⟨k,e⟩|⟨k,c,e,z⟩
   .refine .inl ⟨k,?_⟩;have:y≠x:=λe=>hj (qN hN e1 (e▸hi));simp[this,e]
   exact .inr ⟨k,c,e,z.sameBut hs (Cy y c e)⟩
  .obtain⟨w',z⟩:=I.cell y c e;exact⟨w',z.sameBut hs (Cy y c e)⟩
  obtain⟨e,n,ne,nf,d⟩:=I.pin p hp;exact⟨(hs.2 p.1 ne).trans e,n,ne,nf,d⟩
 have N5:X.fn x=true:=by
  rcases hf with z|z
  .exact z
  rw[z]at U;cases U
 obtain⟨c,D⟩:=I.ok.has x (.inl U);obtain⟨w',z⟩:=I.cell x c D;refine wpAny_storeName_cell I.ok.kind U D z (λh' hc' hs=>?_);obtain⟨oc,hoc,N6⟩:=id z;refine h { s with heap:=h' } ⟨I.ok,I.os,I.bare,⟨λb o e n Z G=>?_,λb o e n Z G=>?_,I.base.free,λb o e G=>?_,I.base.mw,I.base.lW,I.base.my⟩,⟨m,hn.sameBut hs (Ne.symm (Cy x c D)),λj y v' e1 e2 e3=>?_⟩,λy c' e=>?_,I.free,I.iU,λp hp=>?_,tracked ⟨oc,hoc,I.iU x c D⟩ hs,by simpa using I.len⟩ ⟨c,hs,.inr D⟩
 .exact(hs.2 b (Pd (Pt (O3 e) (I.ok.Ij x c N5 D)))).trans (I.base.keep b o e n Z G)
 .obtain⟨sl,e1⟩:=I.base.slot b o e n Z G;exact⟨sl,(hs.2 b (Pd (Pt (O3 e) (I.ok.Ij x c N5 D)))).trans e1⟩
 .obtain⟨o',e1⟩:=I.base.there b o e G;exact⟨o',(hs.2 b (Pd (Pt (O3 e) (I.ok.Ij x c N5 D)))).trans e1⟩
 .by_cases hj:j=i
  .subst hj;rw[hi]at e1;cases e1;rw[Ra O]at e2;cases e2;exact⟨u,r,.inr ⟨.inl U,c,D,hc'⟩⟩
  rw[Ro (Ne.symm hj)]at e2;obtain⟨u',r',q⟩:=hl j y v' e1 e2 e3;refine⟨u',r',?_⟩;rcases q with q|⟨k,c',e,z'⟩
  .exact .inl q
  refine .inr ⟨k,c',e,z'.sameBut hs ?_⟩;rintro rfl;exact hj (qN hN e1 (I.ok.inj _ _ _ e D▸hi))
 .by_cases hcc:c'=c
  .subst hcc;exact⟨_,hc'⟩
  obtain⟨w2,z2⟩:=I.cell y c' e;exact⟨w2,z2.sameBut hs hcc⟩
 obtain⟨e,n,ne,nf,d⟩:=I.pin p hp;refine⟨(hs.2 p.1 ?_).trans e,n,ne,nf,d⟩;intro q;rw[q,hoc]at e;have q':oc=p.2:=Option.some.inj e;exact d w' (by rw[<-q'];exact N6)
theorem mW{M:WU}{A:UG}{E:Uj->Uq->Prop}{i:Nat}{x:UI}{v:V}{u:Uj}{Q:Unit->Uq->Prop}(I:Inv X pins σ H s)(D:X.N.Nodup)(G:X.N[i]?=Ya x)(J:Loc X.env.scope x)(r:RelV v u)
  (h:∀s',Inv X pins (σ.set i (Ya v)) H s'->Q () s') (O:X.fn x=true\/X.env.scope.names.lookup x=Ya .local:=by first|exact .inl rfl|exact .inr rfl|assumption):wpAny M A (Xm X.env x u) Q E s :=
 tQ I D G J r (λs' U _=>h s' U) O
theorem Inv.Cz{s':Uq}{ch:List Um}(I:Inv X pins σ H s)(G:s'.os=s.os)(u:Un (lX X.stack) ch H H' s.heap s'.heap)(bM:md X.prog X.w H' s'.heap)(J:VW s'.gens)
  (D:∀b∈ch,(b∈X.ex\/X.s₀.heap.objs.size<=b)/\b≠X.env.locals/\(∀x c,X.env.cells.lookup x=Ya c->c≠b)/\∀p∈X.pn++pins,p.1≠b):Inv X pins σ H' s':=by
 obtain⟨h',g',d',t',O⟩:=s';have e:O=s.os:=G;subst e;exact I.call (g':=g') (t':=t') (d':=d') u bM J D
end
noncomputable abbrev XK:=Uj->Option Um->Hp->Prop
noncomputable abbrev St:=List (Option V)
noncomputable abbrev VK:=V->Hp->Prop
noncomputable abbrev TE:=St->Hp->VK->Prop
noncomputable abbrev TT:=St->Hp->(Bool->Hp->Prop)->Prop
noncomputable abbrev TA:=St->Hp->(List V->Hp->Prop)->Prop
structure Ends where
 nx:St->Hp->Prop
 rt:VK
 bk:St->Hp->Prop:=λ_ _=>False
 ct:St->Hp->Prop:=λ_ _=>False
noncomputable abbrev TS:=Ends->St->Hp->Prop
def EP(X:Cx)(pins:List (Um×U6))(σ:St)(Q:VK)(u:Uj)(s':Uq):Prop:=∃v H',Inv X pins σ H' s'/\RelV v u/\Q v H'
def TP(X:Cx)(pins:List (Um×U6))(σ:St)(Q:Bool->Hp->Prop)(b:Bool)(s':Uq):Prop:=∃H',Inv X pins σ H' s'/\Q b H'
def AP(X:Cx)(pins:List (Um×U6))(σ:St)(Q:List V->Hp->Prop)(G:List Uj)(s':Uq):Prop:=∃D H',Inv X pins σ H' s'/\Vals D G/\Q D H'
def SP(X:Cx)(pins:List (Um×U6))(D:Ends)(f:Flow)(s':Uq):Prop :=
 match f with
 |.next=>∃G H',Inv X pins G H' s'/\D.nx G H'
 |.brk=>∃G H',Inv X pins G H' s'/\D.bk G H'
 |.cont=>∃G H',Inv X pins G H' s'/\D.ct G H'
 |.ret u=>∃v G H',Inv X pins G H' s'/\RelV v u/\D.rt v H'
def PE(X:Cx)(e:UL)(t:TE):Prop :=
 ∀(pins:List (Um×U6)) (s:Uq) (σ:St) (H:Hp) (Q:VK),Inv X pins σ H s->t σ H Q->wpAny (model X.prog X.w) X.A (eval e X.env) (EP X pins σ Q) X.xe s
def PT(X:Cx)(e:UL)(t:TT):Prop :=
 ∀(pins:List (Um×U6)) (s:Uq) (σ:St) (H:Hp) (Q:Bool->Hp->Prop),Inv X pins σ H s->t σ H Q->wpAny (model X.prog X.w) X.A (isTrue e X.env (eval e X.env)) (TP X pins σ Q) X.xe s
def PW(X:Cx)(e:UL)(t:TT):Prop :=
 ∀(whole:X0 Uj) (pins:List (Um×U6)) (s:Uq) (σ:St) (H:Hp) (Q:Bool->Hp->Prop),Inv X pins σ H s->t σ H Q->wpAny (model X.prog X.w) X.A (isTrue e X.env whole) (TP X pins σ Q) X.xe s
theorem PW.pt{X:Cx}{e:UL}{t:TT}(h:PW X e t):PT X e t:=h _
def PA(X:Cx)(es:List UL)(t:TA):Prop :=
 ∀(pos:VL) (pins:List (Um×U6)) (s:Uq) (σ:St) (H:Hp) (Q:List V->Hp->Prop),Inv X pins σ H s->t σ H Q->wpAny (model X.prog X.w) X.A (spliced (backTo pos (UC es X.env))) (AP X pins σ Q) X.xe s
def PS(X:Cx)(st:Vp)(t:TS):Prop :=
 ∀(pins:List (Um×U6)) (s:Uq) (σ:St) (H:Hp) (D:Ends),Inv X pins σ H s->t D σ H->wpAny (model X.prog X.w) X.A (exec st X.env) (SP X pins D) X.xe s
def mX(X:Cx)(st:List Vp)(t:TS):Prop :=
 ∀(pins:List (Um×U6)) (s:Uq) (σ:St) (H:Hp) (D:Ends),Inv X pins σ H s->t D σ H->wpAny (model X.prog X.w) X.A (execs st X.env) (SP X pins D) X.xe s
theorem cL{α:Type}{t:X0 α}{Q D:α->Uq->Prop}{M:WU}{A:UG}{E:Uj->Uq->Prop}{s:Uq}(h:wpAny M A t Q E s)(G:∀a s,Q a s->D a s):wpAny M A t D E s:=UX h G λ_ _ x=>x
section
variable {X:Cx}
def CA(i:Nat):TE:=λσ H Q=>∃v,σ[i]?=Ya (Ya v)/\Q v H
def tC(v:V):TE:=λ_ H Q=>Q v H
theorem Il{i:Nat}{x:UI}{pos:VL}(U:X.N[i]?=Ya x)(V:Nm X.env.scope x)(hd:(x==("__debug__":UI))=false:=by decide)(J:(x==("__classdict__":UI))=false:=by decide):PE X (.Name x pos) (CA i):=by
 intro pins s σ H Q I h;obtain⟨v,e,h⟩:=h;obtain⟨m,Z,hl⟩:=I.loc;obtain⟨u,r,l⟩:=hl i x v U e V;have fin:EP X pins σ Q u s:=⟨v,H,I,r,h⟩
 rcases l with⟨G,hm⟩|⟨G,c,O,D⟩
 .exact Xx (WD I.ok.kind G Z hm fin) hd
 rcases G with G|G
 .exact Xx (WS I.ok.kind G O D fin) hd
 exact Xx (wpAny_loadName_free I.ok.kind G O D fin J) hd
theorem ao{i j pos}:PE X (.Constant (.int i) j pos) (tC (.int i)):=λ_ _ _ H _ I h=>wpAny_Constant_int ⟨.int i,H,I.tok _,⟨_,rfl⟩,h⟩
theorem du{b j pos}:PE X (.Constant (.bool b) j pos) (tC (.bl b)):=λ_ _ _ H _ I h=>Constant_bool ⟨.bl b,H,I,rfl,h⟩
theorem eg{x j pos}:PE X (.Constant (.str x) j pos) (tC (.str x)):=λ_ _ _ H _ I h=>Calls.Constant_str ⟨.str x,H,I.tok _,⟨_,rfl⟩,h⟩
def Gl(X:Cx)(x:UI):Prop:=X.env.kindOf x=Ya .globalImplicit
theorem mY{E:Uj->Uq->Prop}{pins:List (Um×U6)}{s:Uq}{σ:St}{H:Hp}{x:UI}{u:Uj}{pos:VL}{Q:Uj->Uq->Prop}(I:Inv X pins σ H s)(D:Gl X x)(G:X.mg x=Ya u)(h:Q u s)
  (hd:(x==("__debug__":UI))=false:=by decide):wpAny (model X.prog X.w) X.A (eval (.Name x pos) X.env) Q E s :=
 Calls.Name_function_global I.ok.kind D (Calls.loadGlobal_global (by rw[I.ok.glob];exact I.mod.glob.keeps I.bk) G h) hd
theorem mB{E:Uj->Uq->Prop}{pins:List (Um×U6)}{s:Uq}{σ:St}{H:Hp}{x:UI}{u:Uj}{pos:VL}{Q:Uj->Uq->Prop}(I:Inv X pins σ H s)(D:Gl X x)(G:X.mg x=none)(J:UR x=Ya u)(h:Q u s)
  (O:x≠"__name__":=by decide) (hd:(x==("__debug__":UI))=false:=by decide):wpAny (model X.prog X.w) X.A (eval (.Name x pos) X.env) Q E s:=by
 obtain⟨mb,U,V⟩:=I.mod.blt;exact Calls.Name_function_global I.ok.kind D (Calls.loadGlobal_builtin (by rw[I.ok.glob];exact I.mod.glob.keeps I.bk) G (by rw[I.ok.blt];exact U.keeps I.bk) ((V x O).trans J) h) hd
theorem iW{x:UI}{v:V}{u:Uj}{pos:VL}(D:Gl X x)(G:X.mg x=Ya u)(r:RelV v u)(hd:(x==("__debug__":UI))=false:=by decide):PE X (.Name x pos) (tC v):=
 λ_ _ _ H _ I h=>mY I D G ⟨v,H,I,r,h⟩ hd
theorem FA{x:UI}{v:V}{u:Uj}{pos:VL}(D:Gl X x)(G:X.mg x=none)(J:UR x=Ya u)(r:RelV v u)(O:x≠"__name__":=by decide)(hd:(x==("__debug__":UI))=false:=by decide):PE X (.Name x pos) (tC v):=
 λ_ _ _ H _ I h=>mB I D G J ⟨v,H,I,r,h⟩ O hd
variable {a b:UL}{ta tb:TE}{pos:VL}
def PC(X:Cx)(op:XN)(a b:UL)(t:TE):Prop :=
 ∀(pins:List (Um×U6)) (s:Uq) (σ:St) (H:Hp) (Q:VK),Inv X pins σ H s->t σ H Q ->
  wpAny (model X.prog X.w) X.A (eval a X.env) (λv D=>wpAny (model X.prog X.w) X.A (eval b X.env) (λu G=>wpAny (model X.prog X.w) X.A (UQ op v u) (EP X pins σ Q) X.xe G) X.xe D) X.xe s
def tB(t:TE):TT:=λσ H Q=>t σ H λx D=>∃c,x=.bl c/\Q c D
theorem qO{op:XN}{t:TE}(h:PC X op a b t)(G:VM op b=false:=by first|exact D _ (by decide) (by decide)|rfl):PT X (.Compare a [op] [b] pos) (tB t):=by
 intro pins s σ H Q I hw;refine Wx (cL (h pins s σ H _ I hw) λv s1 G=>cL G λu s2 J=>cL J λc s3 ⟨x,O,U,V,Z⟩=>?_) G;obtain⟨d,rfl,q⟩:=Z;cases V;exact UP ⟨O,U,q⟩
theorem iE{e:UL}{t:TE}(h:PE X e t)(D:∀whole,isTrue e X.env whole=(do let v <- whole;XQ e.pos;Xu [v] (truthy v)):=by intro _;rfl):PT X e (tB t):=by
 intro pins s σ H Q I hw;refine isTrue_plain (cL (h pins s σ H _ I hw) λv V ⟨x,G,J,O,U⟩=>?_) (D _);obtain⟨d,rfl,q⟩:=U;cases O;exact UP ⟨G,J,q⟩
variable {tA Np:TT}{rest:List UL}
def N7(t u:TT):TT:=λσ H Q=>t σ H λc D=>if c=true then u σ D Q else Q false D
def tOr(t u:TT):TT:=λσ H Q=>t σ H λc D=>if c=true then Q true D else u σ D Q
def N8(t:TT):TT:=λσ H Q=>t σ H λc D=>Q (!c) D
theorem iX(D:PT X a tA):PW X (.BoolOp .And [a] pos) tA:=by
 intro G pins s σ H Q I h;refine isTrue_and (cL (D pins s σ H Q I h) λc J e=>?_);cases c with
 |true=>exact isTrue_and_nil e
 |false=>exact e
theorem uP(D:PT X a tA):PW X (.BoolOp .Or [a] pos) tA:=by
 intro G pins s σ H Q I h;refine isTrue_or (cL (D pins s σ H Q I h) λc J e=>?_);cases c with
 |false=>exact isTrue_or_nil e
 |true=>exact e
theorem jz(O:PT X a tA)(U:PW X (.BoolOp .And (b::rest) pos) Np):PW X (.BoolOp .And (a::b::rest) pos) (N7 tA Np):=by
 intro V pins s σ H Q I h;refine isTrue_and (cL (O pins s σ H _ I h) λc Z ⟨D,G,J⟩=>?_);cases c with
 |true=>exact U V pins Z σ D Q G J
 |false=>exact⟨D,G,J⟩
theorem z8(O:PT X a tA)(U:PW X (.BoolOp .Or (b::rest) pos) Np):PW X (.BoolOp .Or (a::b::rest) pos) (tOr tA Np):=by
 intro V pins s σ H Q I h;refine isTrue_or (cL (O pins s σ H _ I h) λc Z ⟨D,G,J⟩=>?_);cases c with
 |true=>exact⟨D,G,J⟩
 |false=>exact U V pins Z σ D Q G J
theorem mC(D:PT X a tA):PT X (.UnaryOp .Not a pos) (N8 tA):=by
 intro pins s σ H Q I h;exact isTrue_not (D pins s σ H (λc G=>Q (!c) G) I h)
def KW(ta tb:TE):TE:=λσ H Q=>ta σ H λx D=>∃c,x=.bl c/\if c=true then tb σ D Q else Q (.bl false) D
def N9(ta tb:TE):TE:=λσ H Q=>ta σ H λx D=>∃c,x=.bl c/\if c=true then Q (.bl true) D else tb σ D Q
theorem mD{op}{t:TE}(h:PE X a t):PE X (.BoolOp op [a] pos) t:=λpins s σ H Q I hw=>BoolOp_one (h pins s σ H Q I hw)
theorem qP(O:PE X a ta)(U:PE X (.BoolOp .And (b::rest) pos) tb):PE X (.BoolOp .And (a::b::rest) pos) (KW ta tb):=by
 intro pins s σ H Q I h;refine BoolOp_and (cL (O pins s σ H _ I h) λv V Z=>?_);obtain⟨x,G,J,r1,D⟩:=Z;obtain⟨c,rfl,D⟩:=D;cases r1;refine UP ?_;cases c with
 |true=>exact U pins V σ G Q J D
 |false=>exact⟨.bl false,G,J,rfl,D⟩
theorem Hm(O:PE X a ta)(U:PE X (.BoolOp .Or (b::rest) pos) tb):PE X (.BoolOp .Or (a::b::rest) pos) (N9 ta tb):=by
 intro pins s σ H Q I h;refine BoolOp_or (cL (O pins s σ H _ I h) λv V Z=>?_);obtain⟨x,G,J,r1,D⟩:=Z;obtain⟨c,rfl,D⟩:=D;cases r1;refine UP ?_;cases c with
 |false=>exact U pins V σ G Q J D
 |true=>exact⟨.bl true,G,J,rfl,D⟩
def tIf(t:TT)(ta tb:TE):TE:=λσ H Q=>t σ H λc D=>if c=true then ta σ D Q else tb σ D Q
theorem mZ{c:UL}(U:PT X c tA)(V:PE X a ta)(Z:PE X b tb):PE X (.IfExp c a b pos) (tIf tA ta tb):=by
 intro pins s σ H Q I h;refine wpAny_IfExp (cL (U pins s σ H _ I h) λd D ⟨G,J,O⟩=>?_);cases d with
 |true=>exact V pins D σ G Q J O
 |false=>exact Z pins D σ G Q J O
end
def aZ(K:OJ)(H:Hp)(a:Um)(xs:List V):Prop :=
 Rd H a (.lst xs) \/
  ∃(o:U6) (its:Array Uj) (n:Nat),K.lookup a=Ya o/\o.cls=.type "list"/\o.dict=none/\o.data=.seq its n/\its.size<=Uu/\Vals xs its.toList
def br(K:OJ)(H:Hp)(a:Um)(xs:List V):Prop :=
 Rd H a (.tup xs) \/
  ∃(o:U6) (its:Array Uj) (n:Nat),K.lookup a=Ya o/\o.cls=.type "tuple"/\o.data=.seq its n/\its.size<=Uu/\Vals xs its.toList
noncomputable def Oa:Uj->Option V
 |.none=>Ya .g6
 |.bool b=>Ya (.bl b)
 |.int i _=>Ya (.int i)
 |.str x _=>Ya (.str x)
 |.bytes b _=>Ya (.Cs b)
 |.float b _=>Ya (.iT b)
 |.ref a=>Ya (.ref a)
 |.type n=>Ya (.ty n)
 |_=>none
theorem RelV.abs{x:V}{u:Uj}(r:RelV x u):Oa u=Ya x:=by
 cases x with
 |g6=>cases r;rfl
 |bl _=>cases r;rfl
 |int _=>obtain⟨t,rfl⟩:=r;rfl
 |str _=>obtain⟨t,rfl⟩:=r;rfl
 |Cs _=>obtain⟨t,rfl⟩:=r;rfl
 |iT _=>obtain⟨t,rfl⟩:=r;rfl
 |ref _=>cases r;rfl
 |ty _=>cases r;rfl
theorem RelV.inj{x y:V}{u:Uj}(r:RelV x u)(q:RelV y u):x=y:=Option.some.inj (r.abs.symm.trans q.abs)
theorem Vals.inj{xs D:List V}{G:List Uj}(h:Vals xs G)(k:Vals D G):xs=D:=by
 induction h generalizing D with
 |nil=>cases k;rfl
 |cons r t J =>
  cases k with
  |cons O t'=>rw[r.inj O,J t']
section
variable {X:Cx}{pins:List (Um×U6)}{σ:St}{H:Hp}{s:Uq}{a:Um}{xs U:List V}
theorem aZ.of{K:OJ}(h:H a=Ya (.lst xs)):aZ K H a xs:=.inl (.inl h)
theorem br.of{K:OJ}(h:H a=Ya (.tup xs)):br K H a xs:=.inl (.inl h)
theorem Inv.list(I:Inv X pins σ H s)(h:aZ X.K H a xs):∃its:List Uj,Vals xs its/\PlainL s.heap a its.toArray/\xs.length<=sizeLine:=by
 rcases h with h|⟨o,its,n,D,G,hd,hs,hz,r⟩
 .obtain⟨z,its,n,r,e⟩:=h.ok I.bM;exact⟨its,r,⟨_,n,e,rfl,rfl,rfl⟩,z⟩
 refine⟨its.toList,r,⟨o,n,I.Be a o D,G,hd,by simpa using hs⟩,?_⟩;have e:=r.length;simp only[Qf]at e;omega
theorem Inv.tuple(I:Inv X pins σ H s)(h:br X.K H a xs):∃its:List Uj,Vals xs its/\XM s.heap a its.toArray/\xs.length<=sizeLine:=by
 rcases h with h|⟨o,its,n,D,G,hs,hz,r⟩
 .obtain⟨z,its,r,p⟩:=h.ok I.bM;exact⟨its,r,p,z⟩
 refine⟨its.toList,r,⟨o,I.Be a o D,G,n,by simpa using hs⟩,?_⟩;have e:=r.length;simp only[Qf]at e;omega
theorem Inv.CC(I:Inv X pins σ H s)(h:aZ X.K H a xs)(h':aZ X.K H a U):xs=U:=by
 obtain⟨its,r,⟨o,n,e,_,_,d⟩,_⟩:=I.list h;obtain⟨its',G,⟨J,O,D,_,_,d'⟩,_⟩:=I.list h';rw[e]at D;cases D;rw[d]at d';injection d' with d1 _;have:its=its':=by simpa using congrArg Ss d1
 subst this;exact r.inj G
theorem Inv.tS(I:Inv X pins σ H s)(h:br X.K H a xs)(h':br X.K H a U):xs=U:=by
 obtain⟨its,r,⟨o,e,_,n,d⟩,_⟩:=I.tuple h;obtain⟨its',G,⟨J,D,_,O,d'⟩,_⟩:=I.tuple h';rw[e]at D;cases D;rw[d]at d';injection d' with d1 _;have:its=its':=by simpa using congrArg Ss d1
 subst this;exact r.inj G
end
noncomputable abbrev Cx.iF(X:Cx)(E:Uj->Uq->Prop):Cx:={ X with xe:=E }
noncomputable abbrev Cx.FD(X:Cx):Cx:=X.iF λ_ _=>False
theorem Cx.Ok.iF{X:Cx}(ok:X.Ok)(E:Uj->Uq->Prop):(X.iF E).Ok :=
 ⟨ok.mod,ok.kind,ok.glob,ok.blt,ok.above,ok.inj,ok.has,ok.Ij,ok.hd,ok.frames,ok.Hl,ok.Nn,ok.bs,ok.Cw,ok.qM,ok.Bd,ok.mA,ok.Fz⟩
theorem Cx.Ok.ej{X:Cx}{E:Uj->Uq->Prop}(ok:(X.iF E).Ok):X.Ok :=
 ⟨ok.mod,ok.kind,ok.glob,ok.blt,ok.above,ok.inj,ok.has,ok.Ij,ok.hd,ok.frames,ok.Hl,ok.Nn,ok.bs,ok.Cw,ok.qM,ok.Bd,ok.mA,ok.Fz⟩
section
variable {X:Cx}{pins:List (Um×U6)}{σ:St}{H:Hp}{s:Uq}{E:Uj->Uq->Prop}
theorem Inv.iF(I:Inv X pins σ H s)(E:Uj->Uq->Prop):Inv (X.iF E) pins σ H s:=⟨I.ok.iF E,I.os,I.bare,I.base,I.loc,I.cell,I.free,I.iU,I.pin,I.bM,I.len⟩
theorem Inv.ej(I:Inv (X.iF E) pins σ H s):Inv X pins σ H s:=⟨I.ok.ej,I.os,I.bare,I.base,I.loc,I.cell,I.free,I.iU,I.pin,I.bM,I.len⟩
theorem SP.ej{D:Ends}{f:Flow}{s':Uq}(h:SP (X.iF E) pins D f s'):SP X pins D f s':=by
 cases f with
 |next=>obtain⟨G,H',I,q⟩:=h;exact⟨G,H',I.ej,q⟩
 |brk=>obtain⟨G,H',I,q⟩:=h;exact⟨G,H',I.ej,q⟩
 |cont=>obtain⟨G,H',I,q⟩:=h;exact⟨G,H',I.ej,q⟩
 |ret u=>obtain⟨v,G,H',I,r,q⟩:=h;exact⟨v,G,H',I.ej,r,q⟩
theorem mX.FD{st:List Vp}{t:TS}(h:mX X.FD st t):mX X st t:=λpins s σ H D I hw =>
 UX (h pins s σ H D (I.iF _) hw) (λ_ _ q=>q.ej) λ_ _ z=>False.elim z
end
section
variable {X:Cx}{st:Vp}{rest:List Vp}{t u:TS}{e:UL}{te:TE}{pos:VL}
def KY:TS:=λD σ H=>D.nx σ H
def FE(t u:TS):TS:=λD σ H=>t { D with nx:=u D } σ H
theorem bg:mX X [] KY:=λ_ _ σ H _ I h=>U9 ⟨σ,H,I,h⟩
theorem ah(J:PS X st t)(O:mX X rest u):mX X (st::rest) (FE t u):=by
 intro pins s σ H D I h;refine Vr (cL (J pins s σ H { D with nx:=u D } I h) λf U q=>?_);cases f with
 |next =>
  obtain⟨G,H',V,q⟩:=q;exact O pins U G H' D V q
 |ret v=>exact q
 |brk=>exact q
 |cont=>exact q
theorem aA(G:PS X st t):mX X [st] t:=by
 intro pins s σ H D I h;refine Vr (cL (G pins s σ H D I h) λf J q=>?_);cases f with
 |next=>exact U9 q
 |ret v=>exact q
 |brk=>exact q
 |cont=>exact q
def Im:TS:=λD σ H=>D.bk σ H
theorem CD:PS X (.Break pos) Im:=λ_ _ σ H _ I h=>wpAny_Break ⟨σ,H,I,h⟩
theorem Inv.quiet{pins:List (Um×U6)}{σ:St}{H:Hp}{s:Uq}(I:Inv X pins σ H s):interactive X.env=false:=by simp[interactive,I.ok.kind]
def Hn(te:TE):TS:=λD σ H=>te σ H λ_ G=>D.nx σ G
theorem bh(G:PE X e te)(hs:We e none pos.line X.env=pure false:=by rfl):PS X (.Expr e pos) (Hn te):=by
 intro pins s σ H D I h;exact wpAny_Expr_any (cL (G pins s σ H _ I h) λv V ⟨x,J,O,Z,U⟩=>⟨σ,J,O,U⟩) I.quiet hs
def KZ(te:TE):TS:=λD σ H=>te σ H D.rt
theorem aU(G:PE X e te):PS X (.Return (Ya e) pos) (KZ te):=by
 intro pins s σ H D I h;exact wpAny_Return_some (cL (G pins s σ H _ I h) λv Z ⟨x,J,O,U,V⟩=>⟨x,σ,J,O,U,V⟩)
def K0(c:TT)(t u:TS):TS:=λD σ H=>c σ H λb G=>if b=true then t D σ G else u D σ G
theorem bS{c:UL}{a b:List Vp}{G:TT}(Z:PT X c G)(ha:mX X a t)(hb:mX X b u):PS X (.If c a b pos) (K0 G t u):=by
 intro pins s σ H D I h;refine wpAny_If (cL (Z pins s σ H _ I h) λd J ⟨O,U,V⟩=>?_);cases d with
 |true=>exact ha pins J σ O D U V
 |false=>exact hb pins J σ O D U V
def Io:TS:=λ_ _ _=>False
theorem ox{D:List Vp}:mX X D Io:=λ_ _ _ _ _ _ h=>h.elim
end
noncomputable abbrev TG:=V->St->Hp->(St->Hp->Prop)->Prop
noncomputable abbrev Ho:=List V->St->Hp->(St->Hp->Prop)->Prop
def PG(X:Cx)(target:UL)(t:TG):Prop :=
 ∀(pins:List (Um×U6)) (s:Uq) (σ:St) (H:Hp) (v:V) (u:Uj) (Q:St->Hp->Prop),Inv X pins σ H s->RelV v u->t v σ H Q ->
  wpAny (model X.prog X.w) X.A (assign target X.env u) (λ_ s'=>∃D H',Inv X pins D H' s'/\Q D H') X.xe s
def K1(X:Cx)(O:List UL)(t:Ho):Prop :=
 ∀(pins:List (Um×U6)) (s:Uq) (σ:St) (H:Hp) (G:List V) (J:List Uj) (Q:St->Hp->Prop),Inv X pins σ H s->Vals G J->t G σ H Q ->
  wpAny (model X.prog X.w) X.A (assignInOrder ((Vx O X.env).map (·.2)) J) (λ_ s'=>∃D H',Inv X pins D H' s'/\Q D H') X.xe s
noncomputable abbrev Ip:=V->V->V->Hp->(Hp->Prop)->Prop
def K3(X:Cx)(t:Ip):Prop :=
 ∀(pins:List (Um×U6)) (s:Uq) (σ:St) (H:Hp) (o i v:V) (D G u:Uj) (Q:Hp->Prop),Inv X pins σ H s->RelV o D->RelV i G->RelV v u->t o i v H Q ->
  wpAny (model X.prog X.w) X.A (XR D G u) (λ_ s'=>∃H',Inv X pins σ H' s'/\Q H') X.xe s
noncomputable abbrev Ob:=V->V->Hp->VK->Prop
def PIp(X:Cx)(op:Operator)(t:Ob):Prop :=
 ∀(pins:List (Um×U6)) (s:Uq) (σ:St) (H:Hp) (x y:V) (v u:Uj) (Q:VK),Inv X pins σ H s->RelV x v->RelV y u->t x y H Q ->
  wpAny (model X.prog X.w) X.A (WM op v u) (EP X pins σ Q) X.xe s
section
variable {X:Cx}{pos:VL}
def wU(i:Nat):TG:=λv σ H Q=>Q (σ.set i (Ya v)) H
theorem aK{i:Nat}{x:UI}(D:X.N.Nodup)(G:X.N[i]?=Ya x)(J:Loc X.env.scope x)(O:X.fn x=true\/X.env.scope.names.lookup x=Ya .local:=by first|exact .inl rfl|exact .inr rfl|assumption):PG X (.Name x pos) (wU i):=by
 intro pins s σ H v u Q I r h;exact wpAny_assign_Name (mW I D G J r (λs' U=>⟨_,H,U,h⟩) O)
noncomputable def Oc:Ho:=λD σ H Q=>D=[]/\Q σ H
noncomputable def K4(t:TG)(u:Ho):Ho:=λG σ H Q=>∃v r,G=v::r/\t v σ H λD H'=>u r D H' Q
theorem dN:K1 X [] Oc:=by
 intro pins s σ H D G Q I r h;obtain⟨e,h⟩:=h;subst e;cases r;exact assignInOrder_nil ⟨σ,H,I,h⟩
theorem aX{e:UL}{es:List UL}{t:TG}{u:Ho}(G:PG X e t)(J:K1 X es u)
  (hs:(Vx (e::es) X.env).map (·.2)=assign e X.env::(Vx es X.env).map (·.2):=by rfl):K1 X (e::es) (K4 t u):=by
 intro pins s σ H vs us Q I r h;obtain⟨v,vr,e1,h⟩:=h;subst e1;cases r with
 |cons r O =>
  rw[hs];refine assignInOrder_cons (cL (G pins s σ H _ _ _ I r h) λ_ U ⟨D,V,Z,q1⟩=>?_);exact J pins U D V _ _ Q Z O q1
def K6(K:OJ)(n:Nat)(t:Ho):TG:=λv σ H Q=>∃a xs,v=.ref a/\br K H a xs/\xs.length=n/\t xs σ H Q
theorem jA{es:List UL}{k:Nat}{t:Ho}{n:Nat}(J:X.calm=true)(h:K1 X es t)
  (O:(Vx es X.env).length=n:=by rfl) (D:(Vx es X.env).findIdx? (·.1)=none:=by rfl):PG X (.Tuple es k pos) (K6 X.K n t):=by
 intro pins s σ H v u Q I r hw;obtain⟨a,xs,e1,U,V,hw⟩:=hw;subst e1;cases r;obtain⟨its,G,Z,hz⟩:=I.tuple U;refine assign_Tuple_tuple (I.ok.hd J) Z (by simp[O,<-V,G.length]) D λh' hx=>?_;have I1:Inv X pins σ H { s with heap:=h' }:=I.kept (t':=s.toks) λb o e=>hx b o (Pd (O3 e)) e;exact h pins _ σ H xs _ Q I1 (by simpa using G) hw
def Od(to D:TE)(t:Ip):TG:=λv σ H Q=>to σ H λo G=>D σ G λi J=>t o i v J λO=>Q σ O
theorem oy{o i:UL}{to O:TE}{t:Ip}(U:PE X o to)(V:PE X i O)(hs:K3 X t)
  (Z:∀v,assign (.Subscript o i pos) X.env v=(do
   let D <-Xu [v] (eval o X.env)
   let G <-Xu [v,D] (eval i X.env)
   XQ pos
   Xu [v,D,G] (XR D G v)
   release [v,D,G] []):=by intro _;rfl):PG X (.Subscript o i pos) (Od to O t):=by
 intro pins s σ H v u Q I r h;rw[Z];refine Uh (UD (cL (U pins s σ H _ I h) λD s1 J=>?_));obtain⟨x,H1,I1,r1,q1⟩:=J;refine Uh (UD (cL (V pins s1 σ H1 _ I1 q1) λG s2 J=>?_));obtain⟨y,H2,I2,r2,q2⟩:=J;refine Uh (Vn (Uh (UD (cL (hs pins s2 σ H2 x y v D G u _ I2 r1 r2 r q2) λ_ s3 ⟨H3,I3,q3⟩=>?_))));exact wpAny_release ⟨σ,H3,I3,q3⟩
def FG(G:TE)(g:TG):TS:=λD σ H=>G σ H λx J=>g x σ J D.nx
theorem kA{G e:UL}{J:TE}{g:TG}(O:PE X e J)(U:PG X G g)(hs:swapsWithSole [G] e pos.line X.env=pure false:=by rfl)(hw:swappedStores [G] e X.env=pure none:=by rfl)
  (V:(Vx [G] X.env).map (·.2)=[assign G X.env]:=by rfl):PS X (.Assign [G] e pos) (FG J g):=by
 intro pins s σ H D I h;refine wpAny_Assign_stores (cL (O pins s σ H _ I h) λv Z ⟨x,H1,I1,r1,q1⟩=>?_) hs hw;rw[V];exact cL (U pins Z σ H1 x v _ I1 r1 q1) λ_ s2 q=>q
theorem aJ{i:Nat}{x:UI}{e:UL}{G:TE}{pos':VL}(J:X.N.Nodup)(O:X.N[i]?=Ya x)(U:Loc X.env.scope x)(V:PE X e G)(hs:We e (Ya (.Name x pos')) pos.line X.env=pure false:=by rfl)(Z:X.fn x=true\/X.env.scope.names.lookup x=Ya .local:=by first|exact .inl rfl|exact .inr rfl|assumption) :
  PS X (.Assign [.Name x pos'] e pos) (FG G (wU i)):=by
 intro pins s σ H D I h;refine wpAny_Assign_Name (cL (V pins s σ H _ I h) λv s1 ⟨y,H1,I1,r1,q1⟩=>?_) hs;exact mW I1 J O U r1 (λs2 I2=>⟨_,H1,I2,q1⟩) Z
def Oe(i:Nat)(G:TE)(J:Ob):TS:=λD σ H=>∃x,σ[i]?=Ya (Ya x)/\G σ H λy O=>J x y O λz U=>D.nx (σ.set i (Ya z)) U
theorem qQ{i:Nat}{x:UI}{e:UL}{te:TE}{op:Operator}{ti:Ob}{pos':VL}(hN:X.N.Nodup)(hi:X.N[i]?=Ya x)(V:Loc X.env.scope x)(he:PE X e te)(ho:PIp X op ti)(hf:X.fn x=true\/X.env.scope.names.lookup x=Ya .local:=by first|exact .inl rfl|exact .inr rfl|assumption) :
  PS X (.AugAssign (.Name x pos') op e pos) (Oe i te ti):=by
 intro pins s σ H D I h;obtain⟨v,e1,h⟩:=h;obtain⟨m,hn,hl⟩:=I.loc;have Z:Nm X.env.scope x:=by rcases V with k|k;exact .inl k;exact .inr (.inl k)
 obtain⟨u,r,l⟩:=hl i x v hi e1 Z;refine wpAny_AugAssign_Name ?_;have go:wpAny (model X.prog X.w) X.A (eval e X.env) (λw O=>wpAny (model X.prog X.w) X.A (WM op u w) (λr U=>wpAny (model X.prog X.w) X.A (Xm X.env x r) (λ_=>SP X pins D .next) X.xe U) X.xe O) X.xe s:=by
  refine cL (he pins s σ H _ I h) λw s1 zq=>?_;obtain⟨y,H1,I1,r1,q1⟩:=zq;refine cL (ho pins s1 σ H1 v y u w _ I1 r r1 q1) λz s2 zq=>?_;obtain⟨zv,H2,I2,r2,q2⟩:=zq;exact mW I2 hN hi V r2 (λs3 I3=>⟨_,H2,I3,q2⟩) hf
 rcases l with⟨G,hm⟩|⟨G,c,hc,J⟩
 .exact WD I.ok.kind G hn hm go
 rcases G with G|G
 .exact WS I.ok.kind G hc J go
 rcases V with k|k
 .have:X.env.scope.names.lookup x=Ya .free:=G;rw[k]at this;cases this
 have:X.env.scope.names.lookup x=Ya .free:=G;rw[k]at this;cases this
end
section
variable {X:Cx}{pos:VL}
def CF(c:TT)(tb:TS):TS:=λD σ H=>∃W:Nat->St->Hp->Prop,(∃m,W m σ H)/\∀m σ H,W m σ H ->
 c σ H λb J=>if b=true then∃N:St->Hp->Prop,(∀G H',N G H'->∃m',m'<m/\W m' G H')/\tb { D with nx:=N,ct:=N,bk:=D.nx } σ J else D.nx σ J
theorem m6{c:UL}{body:List Vp}{tc:TT}{tb:TS}(hp:PassesOwn (model X.prog X.w) X.A X.env X.xe)(hc:PT X c tc)(hb:mX X body tb):PS X (.While c body [] pos) (CF tc tb):=by
 intro pins s σ H D I h;obtain⟨W,⟨m0,w0⟩,turn⟩:=h;refine wpAny_While (codeAny_whileLoop (λn s'=>∃O H',Inv X pins O H' s'/\W n O H') ?_ m0 ⟨σ,H,I,w0⟩);rintro n s1 ⟨J,H1,I1,w1⟩;refine Va hp (cL (hc pins s1 J H1 _ I1 (turn n J H1 w1)) λb s2 ⟨H2,I2,V⟩=>?_);cases b with
 |true =>
  obtain⟨N,hN,V⟩:=V;rw[Uo rfl];refine Va hp (cL (hb pins s2 J H2 _ I2 V) λf s3 Z=>?_);cases f with
  |next =>
   obtain⟨G,U,I3,n3⟩:=Z;obtain⟨m',hm,w3⟩:=hN G U n3;exact⟨m',hm,G,U,I3,w3⟩
  |cont =>
   obtain⟨G,U,I3,n3⟩:=Z;obtain⟨m',hm,w3⟩:=hN G U n3;exact⟨m',hm,G,U,I3,w3⟩
  |brk=>exact Z
  |ret v=>exact Z
 |false =>
  rw[Uk O2];exact U9 ⟨J,H2,I2,V⟩
end
structure It where
 go:Nat->Hp->Prop
 Iq:Nat->Hp->V->Hp->Prop
 stop:Nat->Hp->Prop
def iS(X:Cx)(pins:List (Um×U6))(H:Hp)(b:Um):Prop :=
 H b=none/\b≠X.env.locals/\b∉X.fs/\(b∈X.ex\/X.s₀.heap.objs.size<=b)/\(∀x c,X.env.cells.lookup x=Ya c->c≠b)/\∀p∈X.pn++pins,p.1≠b
theorem Inv.uQ{X:Cx}{pins:List (Um×U6)}{σ:St}{H H':Hp}{s:Uq}{b:Um}(I:Inv X pins σ H s)(D:s.heap.objs.size<=b)(G:H' b=none):iS X pins H' b:=by
 refine⟨G,QS (Pt I.lt D),I.N3 D,.inr (PD I.sz D),λx c e z=>?_,λp hp z=>?_⟩
 .obtain⟨v,q⟩:=I.cell x c e;exact Us (Pt q.lt (by rw[z];exact D)) (QF _)
 exact Us (Pt (O3 (I.pin p hp).1) (by rw[z];exact D)) (QF _)
structure Turn(P:Ux) (w:UA) (K:OJ) (tg:UL) (J:It) (fp:List Um) (it:Um) (tn:Nat->UH->Prop):Prop where
 mem:it∈fp
 obj:∀i h,tn i h->∀b∈fp,∃o,h.get? b=Ya o/\∀v,o.data≠.cell v
 keep:∀i h h',tn i h->(∀b∈fp,∀o,h.get? b=Ya o->h'.get? b=Ya o)->tn i h'
 item:∀(X:Cx),X.prog=P->X.w=w->X.K=K->X.calm=true->∀(i:Nat) (pins:List (Um×U6)) (s:Uq) (σ:St) (H:Hp) (E:Uj->Uq->Prop),Inv X pins σ H s->(∀b∈fp,iS X pins H b)->tn i s.heap->J.go i H ->
  wpAny (model P w) X.A (pyNext (.ref it)) (λr s1=>∃u,r=Ya u /\
   wpAny (model P w) X.A (Wu tg (.ref it) u) (λ_ s2=>∃x H',Inv X pins σ H' s2/\RelV x u/\J.Iq i H x H'/\tn (i+1) s2.heap/\∀b∈fp,H' b=none) E s1) E s
 done:∀(X:Cx),X.prog=P->X.w=w->X.K=K->X.calm=true->∀(i:Nat) (pins:List (Um×U6)) (s:Uq) (σ:St) (H:Hp) (E:Uj->Uq->Prop),Inv X pins σ H s->(∀b∈fp,iS X pins H b)->tn i s.heap->J.stop i H ->
  wpAny (model P w) X.A (pyNext (.ref it)) (λr s1=>r=none/\Inv X pins σ H s1) E s
 self:∀(A:UG) (i:Nat) (s:Uq) (Q:Uj->Uq->Prop) (E:Uj->Uq->Prop),tn i s.heap->Q (.ref it) s->wpAny (model P w) A (pyIter (.ref it)) Q E s
noncomputable abbrev TI:=St->Hp->(It->Hp->Prop)->Prop
def PIE(X:Cx)(pins:List (Um×U6))(σ:St)(U:UL)(R:It->Hp->Prop)(D:Uj)(G:Uq):Prop :=
 ∃(O:Um) (fp:List Um) (tn:Nat->UH->Prop) (J:It) (H':Hp),D=.ref O/\Inv X pins σ H' G/\Turn X.prog X.w X.K U J fp O tn/\tn 0 G.heap/\(∀b∈fp,iS X pins H' b)/\R J H'
def PI(X:Cx)(D iter:UL)(G:TI):Prop :=
 ∀(pins:List (Um×U6)) (s:Uq) (σ:St) (H:Hp) (R:It->Hp->Prop),Inv X pins σ H s->G σ H R ->
  wpAny (model X.prog X.w) X.A (eval iter X.env) (λv J=>wpAny (model X.prog X.w) X.A (pyIter v) (PIE X pins σ D R) X.xe J) X.xe s
theorem CG {M : WU}{A : UG}{E : Uj -> Uq -> Prop}{s : Uq}{G : UL}{J : Um}{u : Uj}{o : U6}{n : String}{O : Array Uj}{Q : Unit -> Uq -> Prop}(U : s.heap.get? J=Ya o)(V : o.cls=.type n)(hd : o.data=.fields O)
    (Z:["enumerate", "zip", "dict_itemiterator", "dict_reverseitemiterator", "odict_iterator", "itertools.zip_longest", "itertools.pairwise"].contains n=false) (D:Q () s): wpAny M A (Wu G (.ref J) u) Q E s:=by
  unfold Wu;cases G <;> first
    |exact Ur D
    | (cases u <;> first
        |exact Ur D
        | (refine Uh (wpAny_load U ?_)
           rw[V,hd];show wpAny M A (if(["enumerate", "zip", "dict_itemiterator", "dict_reverseitemiterator", "odict_iterator", "itertools.zip_longest", "itertools.pairwise"].contains n&&O[0]? == some (rawInt _))=true then _ else _) Q E s;rw[Uk (by intro h; rw[Z,Qw]at h; cases h)];exact Ur D))
noncomputable def Ki(K:OJ)(a:Um):It :=
 ⟨λi H=>∃xs x,aZ K H a xs/\xs[i]?=Ya x,λi H x H'=>H'=H/\∀xs,aZ K H a xs->xs[i]?=Ya x,λi H=>∃xs,aZ K H a xs/\xs.length<=i⟩
noncomputable def Kj(K:OJ)(a:Um):It :=
 ⟨λi H=>∃xs x,br K H a xs/\xs[i]?=Ya x,λi H x H'=>H'=H/\∀xs,br K H a xs->xs[i]?=Ya x,λi H=>∃xs,br K H a xs/\xs.length<=i⟩
noncomputable def Hq(lo:Int)(n:Nat):It:=⟨λi _=>i<n,λi H x H'=>H'=H/\x=.int (lo+i),λi _=>n<=i⟩
theorem Bf{P:Ux}{w:UA}{K:OJ}{tg:UL}(a D:Um):Turn P w K tg (Ki K a) [D] D (λi h=>h.IsListIter D a i) where
 mem:=by simp
 obj:=λi h st b G=>by
  have e:b=D:=by simpa using G
  subst e;obtain⟨o,e,c,d⟩:=st;exact⟨o,e,λv z=>by rw[d]at z;cases z⟩
 keep:=λi h h' st k=>st.at λo e=>k D (by simp) o e
 item:=by
  intro X V hw Z hc i pins s σ H E I O st hg;subst V hw Z;obtain⟨xs,x,U,hx⟩:=hg;obtain⟨its,rv,p,hz⟩:=I.list U;obtain⟨u,hu,ru⟩:=rv.get hx;obtain⟨f0,f1,f2,f3,f4,f5⟩:=O D (by simp);refine wpAny_pyNext_list_item st p.isList (x:=u) (by simpa using hu) λh' J sb=>?_;have I1:Inv X pins σ H { s with heap:=h' }:=I.turned (t':=s.toks) (λb o G e=>(sb.2 b G).trans e) f0 f1 f3 f4 f5;obtain⟨o,e,c,d⟩:=id J;exact⟨u,rfl,CG (s:={ s with heap:=h' }) e c d (by decide) ⟨x,H,I1,ru,⟨rfl,λys hy=>by rw[I.CC hy U];exact hx⟩,J,λb G=>(O b G).1⟩⟩
 done:=by
  intro X V hw Z hc i pins s σ H E I O st hg;subst V hw Z;obtain⟨xs,U,hx⟩:=hg;obtain⟨its,rv,p,hz⟩:=I.list U;obtain⟨f0,f1,f2,f3,f4,f5⟩:=O D (by simp);have hl:=rv.length;exact wpAny_pyNext_list_end (I.ok.hd hc) st p.isList (by simp;omega) λh' eb=>⟨rfl,I.turned (t':=s.toks) (λb o G e=>eb b o G e) f0 f1 f3 f4 f5⟩
 self:=λ_ _ _ _ _ st h=>wpAny_pyIter_listiter st h
theorem yF{P:Ux}{w:UA}{K:OJ}{tg:UL}(a D:Um):Turn P w K tg (Kj K a) [D] D (λi h=>h.IsTupleIter D a i) where
 mem:=by simp
 obj:=λi h st b G=>by
  have e:b=D:=by simpa using G
  subst e;obtain⟨o,e,c,d⟩:=st;exact⟨o,e,λv z=>by rw[d]at z;cases z⟩
 keep:=λi h h' st k=>st.at λo e=>k D (by simp) o e
 item:=by
  intro X V hw Z hc i pins s σ H E I O st hg;subst V hw Z;obtain⟨xs,x,U,hx⟩:=hg;obtain⟨its,rv,p,hz⟩:=I.tuple U;obtain⟨u,hu,ru⟩:=rv.get hx;obtain⟨f0,f1,f2,f3,f4,f5⟩:=O D (by simp);refine wpAny_pyNext_tuple_item st (show s.heap.IsTuple a its.toArray from p) (x:=u) (by simpa using hu) λh' J sb=>?_;have I1:Inv X pins σ H { s with heap:=h' }:=I.turned (t':=s.toks) (λb o G e=>(sb.2 b G).trans e) f0 f1 f3 f4 f5;obtain⟨o,e,c,d⟩:=id J;exact⟨u,rfl,CG (s:={ s with heap:=h' }) e c d (by decide) ⟨x,H,I1,ru,⟨rfl,λys hy=>by rw[I.tS hy U];exact hx⟩,J,λb G=>(O b G).1⟩⟩
 done:=by
  intro X V hw Z hc i pins s σ H E I O st hg;subst V hw Z;obtain⟨xs,U,hx⟩:=hg;obtain⟨its,rv,p,hz⟩:=I.tuple U;obtain⟨f0,f1,f2,f3,f4,f5⟩:=O D (by simp);have hl:=rv.length;exact wpAny_pyNext_tuple_end (I.ok.hd hc) st (show s.heap.IsTuple a its.toArray from p) (by simp;omega) λh' eb=>⟨rfl,I.turned (t':=s.toks) (λb o G e=>eb b o G e) f0 f1 f3 f4 f5⟩
 self:=λ_ _ _ _ _ st h=>wpAny_pyIter_tupleiter st h
theorem yG{P:Ux}{w:UA}{K:OJ}{tg:UL}(D:Um)(lo:Int)(n:Nat):Turn P w K tg (Hq lo n) [D] D (λi h=>IsRangeIter h D (lo+(i:Nat)*1) ((n:Int)-(i:Nat)) 1) where
 mem:=by simp
 obj:=λi h st b G=>by
  have e:b=D:=by simpa using G
  subst e;exact⟨_,st,λv z=>by
   have z':Data.fields _=Data.cell v:=z;cases z'⟩
 keep:=λi h h' st k=>k D (by simp) _ st
 item:=by
  intro X U hw V Z i pins s σ H E I O st hg;subst U hw V;obtain⟨f0,f1,f2,f3,f4,f5⟩:=O D (by simp);have W:=Walks.range (prog:=X.prog) (w:=X.w) (I.ok.hd Z) D lo 1 n;refine W.item i s _ _ hg st λv h' tk hv J kk=>?_;obtain⟨t,rfl⟩:=hv;have I1:Inv X pins σ H { s with heap:=h',toks:=tk }:=I.turned (λb o G e=>kk b o (by simpa using G) e) f0 f1 f3 f4 f5;refine⟨_,rfl,CG (s:={ s with heap:=h',toks:=tk }) (n:="range_iterator") J rfl rfl (by decide) ⟨.int (lo+i),H,I1,⟨t,?_⟩,⟨rfl,rfl⟩,J,λb G=>(O b G).1⟩⟩;rw[T8]
 done:=by
  intro X U hw V Z i pins s σ H E I O st hg;subst U hw V;obtain⟨f0,f1,f2,f3,f4,f5⟩:=O D (by simp);exact wpAny_pyNext_range_end (I.ok.hd Z) st (by have:n<=i:=hg;omega) λh' eb=>⟨rfl,I.turned (t':=s.toks) (λb o G e=>eb b o G e) f0 f1 f3 f4 f5⟩
 self:=λ_ _ _ _ _ st h=>wpAny_pyIter_rangeiter st h
section
variable {X:Cx}{tg:UL}
noncomputable def K9(K:OJ)(G:TE):TI:=λσ H R=>G σ H λx D=>∃a,x=.ref a/\(∃xs,aZ K D a xs)/\R (Ki K a) D
noncomputable def Of(K:OJ)(G:TE):TI:=λσ H R=>G σ H λx D=>∃a,x=.ref a/\(∃xs,br K D a xs)/\R (Kj K a) D
theorem bp{l:UL}{J:TE}(O:PE X l J):PI X tg l (K9 X.K J):=by
 intro pins s σ H R I h;refine cL (O pins s σ H _ I h) λv D U=>?_;obtain⟨x,V,G,Z,q1⟩:=U;obtain⟨a,e,⟨xs,hq⟩,q⟩:=q1;subst e;cases Z;obtain⟨its,rv,p,hz⟩:=G.list hq;refine VC p.isList ?_;refine⟨D.heap.objs.size,[D.heap.objs.size],_,_,V,rfl,G.kept (t':=D.toks) λb o e=>OM _ e,Bf a _,⟨_,O6 _ rfl,rfl,rfl⟩,λb hb=>?_,q⟩;have e:b=D.heap.objs.size:=by simpa using hb
 subst e;exact G.uQ (ON _) (G.bM.fresh (ON _))
theorem yH{l:UL}{J:TE}(O:PE X l J):PI X tg l (Of X.K J):=by
 intro pins s σ H R I h;refine cL (O pins s σ H _ I h) λv D U=>?_;obtain⟨x,V,G,Z,q1⟩:=U;obtain⟨a,e,⟨xs,hq⟩,q⟩:=q1;subst e;cases Z;obtain⟨its,rv,p,hz⟩:=G.tuple hq;refine U8 (show D.heap.IsTuple a its.toArray from p) ?_;refine⟨D.heap.objs.size,[D.heap.objs.size],_,_,V,rfl,G.kept (t':=D.toks) λb o e=>OM _ e,yF a _,⟨_,O6 _ rfl,rfl,rfl⟩,λb hb=>?_,q⟩;have e:b=D.heap.objs.size:=by simpa using hb
 subst e;exact G.uQ (ON _) (G.bM.fresh (ON _))
theorem wV{pins:List (Um×U6)}{σ:St}{H:Hp}{s:Uq}{R:It->Hp->Prop}{E:Uj->Uq->Prop}{lo D:Int}{t u v:XJ}{tk:Nat}(I:Inv X pins σ H s)(J:-(2 ^ 62)<=lo)(O:lo<2 ^ 62)(U:-(2 ^ 62)<=D)(V:D<2 ^ 62)
  (q:R (Hq lo (D-lo).toNat) H):wpAny (model X.prog X.w) X.A (pyIter (.ref s.heap.objs.size)) (PIE X pins σ tg R) E { s with heap:=s.heap.push { cls:=.type "range",data:=.fields #[.int lo t,.int D u,.int 1 v] },toks:=tk }:=by
 refine wpAny_pyIter_range (IsRange.new ..) (small_one J O U V) ?_;have G:Inv X pins σ H { s with heap:=s.heap.push { cls:=.type "range",data:=.fields #[.int lo t,.int D u,.int 1 v] },toks:=tk }:=I.kept λb o e=>OM _ e;refine⟨(s.heap.push { cls:=.type "range",data:=.fields #[.int lo t,.int D u,.int 1 v] }).objs.size,[(s.heap.push { cls:=.type "range",data:=.fields #[.int lo t,.int D u,.int 1 v] }).objs.size],_,_,H,rfl,
  G.kept (t':=tk) λb o e=>OM _ e,yG _ lo (D-lo).toNat,?_,λb Z=>?_,q⟩
 .have e1:lo+((0:Nat):Int)*1=lo:=by simp
  have e2:(((D-lo).toNat:Nat):Int)-((0:Nat):Int)=Builtin.Range.rangeSize lo D 1:=by rw[rangeSize_one];split <;> omega
  show IsRangeIter _ _ (lo+((0:Nat):Int)*1) ((((D-lo).toNat:Nat):Int)-((0:Nat):Int)) 1;rw[e1,e2];exact O6 _ rfl
 have e:b=(s.heap.push { cls:=.type "range",data:=.fields #[.int lo t,.int D u,.int 1 v] }).objs.size:=by simpa using Z
 subst e;exact G.uQ (ON _) (G.bM.fresh (ON _))
noncomputable def La(D:TA):TI:=λσ H R=>D σ H λG J=>∃j:Int,G=[.int j]/\-(2 ^ 62)<=j/\j<2 ^ 62/\R (Hq 0 j.toNat) J
noncomputable def Lb(D:TA):TI:=λσ H R=>D σ H λG J=>∃i j:Int,G=[.int i,.int j]/\(-(2 ^ 62)<=i/\i<2 ^ 62/\-(2 ^ 62)<=j/\j<2 ^ 62)/\R (Hq i (j-i).toNat) J
theorem fV{a:UL}{G:TA}{p pos:VL}(J:Gl X "range")(O:X.mg "range" = none)(U:PA X [a] G)(hs:UC [a] X.env=[(false,eval a X.env)]:=by rfl):PI X tg (.Call (.Name "range" p) [a] [] pos) (La G):=by
 intro pins s σ H R I h;refine Call_ (mB I J O boot_range (QJ (cL (U pos pins s σ H _ I h) λus s1 ⟨vs,H1,V,Z,D⟩=>?_) hs rfl));obtain⟨j,e,D,q2,q⟩:=D;subst e;cases Z with
 |cons r rr =>
  cases rr;obtain⟨t,rfl⟩:=r;exact call_range_1 (wV V (by omega) (by omega) D q2 (by simpa using q))
theorem tT{a b:UL}{O:TA}{p pos:VL}(U:Gl X "range")(V:X.mg "range" = none)(Z:PA X [a,b] O)(hs:UC [a,b] X.env=[(false,eval a X.env),(false,eval b X.env)]:=by rfl)(D:UC [b] X.env=[(false,eval b X.env)]:=by rfl) :
  PI X tg (.Call (.Name "range" p) [a,b] [] pos) (Lb O):=by
 intro pins s σ H R I h;refine Call_ (mB I U V boot_range (QJ (cL (Z pos pins s σ H _ I h) λus s1 ⟨vs,H1,I1,r1,G⟩=>?_) (by rw[hs,D]) (by rw[D];rfl)));obtain⟨i,j,e,⟨G,q2,q3,q4⟩,q⟩:=G;subst e;cases r1 with
 |cons r J =>
  cases J with
  |cons r' J =>
   cases J;obtain⟨t,rfl⟩:=r;obtain⟨t',rfl⟩:=r';exact call_range_2 (wV I1 G q2 q3 q4 q)
def Og(U:TI)(g:TG)(tb:TS):TS:=λD σ H=>U σ H λJ V=>∃W:Nat->Nat->St->Hp->Prop,(∃m,W 0 m σ V)/\∀i m σ H,W i m σ H ->
 (J.stop i H/\D.nx σ H)\/(J.go i H/\∃N:St->Hp->Prop,(∀G H',N G H'->∃m',m'<m/\W (i+1) m' G H')/\∀x H',J.Iq i H x H'->g x σ H' λO Z=>tb { D with nx:=N,ct:=N,bk:=D.nx } O Z)
noncomputable def qR(fp:List Um)(h:UH):List (Um×U6):=fp.filterMap λb=>(h.get? b).map λo=>(b,o)
theorem jB{fp:List Um}{h:UH}{b:Um}{o:U6}(D:b∈fp)(e:h.get? b=Ya o):(b,o)∈qR fp h:=RY.mpr ⟨b,D,by rw[e];rfl⟩
theorem Bg{fp:List Um}{h:UH}{p:Um×U6}(hp:p∈qR fp h):p.1∈fp/\h.get? p.1=Ya p.2:=by
 obtain⟨b,D,e⟩:=RY.mp hp;cases q:h.get? b with
 |none=>rw[q]at e;cases e
 |some o =>
  rw[q]at e;have G:(b,o)=p:=Option.some.inj e;subst G;exact⟨D,q⟩
theorem Inv.pinned{pins:List (Um×U6)}{σ:St}{H:Hp}{s:Uq}{fp:List Um}(I:Inv X pins σ H s)(J:∀b∈fp,iS X pins H b)(O:∀b∈fp,∃o,s.heap.get? b=Ya o/\∀v,o.data≠.cell v):Inv X (pins++qR fp s.heap) σ H s :=
 I.uO λp hp=>(OY.mp hp).elim (λz=>I.pin p (O4 _ z)) λz=>by
  obtain⟨D,e⟩:=Bg z;obtain⟨U,V,Z,_⟩:=J p.1 D;obtain⟨o,G,d⟩:=O p.1 D;rw[e]at G;cases G;exact⟨e,U,V,Z,d⟩
theorem Inv.kB{pins pl:List (Um×U6)}{σ:St}{H:Hp}{s:Uq}(I:Inv X (pins++pl) σ H s):Inv X pins σ H s:=I.uO λp hp=>I.pin p (O4 _ (Pn _ hp))
theorem b6{iter:UL}{body:List Vp}{wi:TI}{g:TG}{tb:TS}{pos:VL}(hp:PassesOwn (model X.prog X.w) X.A X.env X.xe)(hc:X.calm=true)(hi:PI X tg iter wi)(hg:PG X tg g)(O:mX X body tb)
  (hs:∀x,VD iter X.env x=pure x:=by intro _;rfl):PS X (.For tg iter body [] pos) (Og wi g tb):=by
 intro pins s σ H D I h;refine wpAny_For (cL (hi pins s σ H _ I h) λv s1 h1=>cL h1 λitv s2 h2=>?_) hs;obtain⟨it,fp,tn,J,H2,e,I2,T,Nq,f2,W,⟨m0,w0⟩,turn⟩:=h2;subst e;have U:∀{H':Hp},(∀b∈fp,H' b=none)->∀b∈fp,iS X pins H' b:=λhn b O=>⟨hn b O,(f2 b O).2⟩
 refine codeAny_forLoop_any (λn s'=>∃i V H',Inv X pins V H' s'/\tn i s'.heap/\(∀b∈fp,H' b=none)/\W i n V H') ?_ m0 ⟨0,σ,H2,I2,Nq,λb O=>(f2 b O).1,w0⟩;rintro n s3 ⟨i,Z,H3,I3,Lc,Ld,w3⟩;rcases turn i n Z H3 w3 with⟨stop,qn⟩|⟨go,N,hN,step⟩
 .refine Va hp (cL (T.done X rfl rfl rfl hc i pins s3 Z H3 X.xe I3 (U Ld) Lc stop) λr s4 ⟨hr,I4⟩=>?_);subst hr;exact U9 ⟨Z,H3,I4,qn⟩
 refine Va hp (cL (T.item X rfl rfl rfl hc i pins s3 Z H3 X.xe I3 (U Ld) Lc go) λr s4 ⟨u,hr,h4⟩=>?_);subst hr;refine Va hp (cL h4 λ_ s5 zq=>?_);obtain⟨x,H5,I5,r5,y5,Ir,Oh⟩:=zq;have Oi:=I5.pinned (U Oh) (T.obj _ _ Ir);refine Va hp (cL (hg _ s5 Z H5 x u _ Oi r5 (step x H5 y5)) λ_ s6 ⟨σ6,H6,I6,q6⟩=>?_);refine Va hp (cL (O _ s6 σ6 H6 _ I6 q6) λf s7 q7=>?_);have again:∀{G:St}{H7:Hp},Inv X (pins++qR fp s5.heap) G H7 s7->N G H7->∃m,m<n/\∃i V H',Inv X pins V H' s7/\tn i s7.heap/\(∀b∈fp,H' b=none)/\W i m V H':=λ{G H7} I7 n7=>by
  obtain⟨m',hm,w7⟩:=hN G H7 n7;refine⟨m',hm,i+1,G,H7,I7.kB,T.keep _ _ _ Ir λb O o e=>(I7.pin (b,o) (O4 _ (O4 _ (jB O e)))).1,λb O=>?_,w7⟩;obtain⟨o,e,d⟩:=T.obj _ _ Ir b O;exact(I7.pin (b,o) (O4 _ (O4 _ (jB O e)))).2.1
 cases f with
 |next=>obtain⟨G,H7,I7,n7⟩:=q7;exact again I7 n7
 |cont=>obtain⟨G,H7,I7,n7⟩:=q7;exact again I7 n7
 |brk=>obtain⟨G,H7,I7,q7⟩:=q7;exact⟨G,H7,I7.kB,q7⟩
 |ret v=>obtain⟨x7,G,H7,I7,r7,q7⟩:=q7;exact⟨x7,G,H7,I7.kB,r7,q7⟩
end
theorem cw{K:OJ}{a:Um}{xs:List V}{g:TG}{tb:TS}{D:Ends}{σ:St}{H:Hp}(Pv:Nat->St->Hp->Prop)(Z:Pv 0 σ H)(hl:∀i σ H,i<=xs.length->Pv i σ H->aZ K H a xs)
  (hs:∀i x σ H,xs[i]?=Ya x->Pv i σ H->g x σ H λG U=>tb { D with nx:=Pv (i+1),ct:=Pv (i+1),bk:=D.nx } G U) (hd:∀σ H,Pv xs.length σ H->D.nx σ H) :
  ∃W:Nat->Nat->St->Hp->Prop,(∃m,W 0 m σ H)/\∀i m σ H,W i m σ H ->
   ((Ki K a).stop i H/\D.nx σ H)\/((Ki K a).go i H/\∃N:St->Hp->Prop,(∀J H',N J H'->∃m',m'<m/\W (i+1) m' J H')/\∀x H',(Ki K a).Iq i H x H'->g x σ H' λG U=>tb { D with nx:=N,ct:=N,bk:=D.nx } G U):=by
 refine⟨λi m σ H=>m=xs.length-i/\i<=xs.length/\Pv i σ H,⟨xs.length,by simp,PH _,Z⟩,?_⟩;rintro i m σ H ⟨rfl,hi,p⟩;have q:=hl i σ H hi p;by_cases O:i<xs.length
 .refine .inr ⟨⟨xs,xs[i],q,by simp[O]⟩,Pv (i+1),λJ H' p'=>⟨xs.length-(i+1),by omega,rfl,O,p'⟩,λx H' y=>?_⟩;obtain⟨e,y⟩:=y;subst e;exact hs i x σ _ (y xs q) p
 have e:i=xs.length:=by omega
 subst e;exact .inl ⟨⟨xs,q,ON _⟩,hd σ H p⟩
theorem FH{K:OJ}{a:Um}{xs:List V}{g:TG}{tb:TS}{D:Ends}{σ:St}{H:Hp}(Pv:Nat->St->Hp->Prop)(Z:Pv 0 σ H)(hl:∀i σ H,i<=xs.length->Pv i σ H->br K H a xs)
  (hs:∀i x σ H,xs[i]?=Ya x->Pv i σ H->g x σ H λG U=>tb { D with nx:=Pv (i+1),ct:=Pv (i+1),bk:=D.nx } G U) (hd:∀σ H,Pv xs.length σ H->D.nx σ H) :
  ∃W:Nat->Nat->St->Hp->Prop,(∃m,W 0 m σ H)/\∀i m σ H,W i m σ H ->
   ((Kj K a).stop i H/\D.nx σ H)\/((Kj K a).go i H/\∃N:St->Hp->Prop,(∀J H',N J H'->∃m',m'<m/\W (i+1) m' J H')/\∀x H',(Kj K a).Iq i H x H'->g x σ H' λG U=>tb { D with nx:=N,ct:=N,bk:=D.nx } G U):=by
 refine⟨λi m σ H=>m=xs.length-i/\i<=xs.length/\Pv i σ H,⟨xs.length,by simp,PH _,Z⟩,?_⟩;rintro i m σ H ⟨rfl,hi,p⟩;have q:=hl i σ H hi p;by_cases O:i<xs.length
 .refine .inr ⟨⟨xs,xs[i],q,by simp[O]⟩,Pv (i+1),λJ H' p'=>⟨xs.length-(i+1),by omega,rfl,O,p'⟩,λx H' y=>?_⟩;obtain⟨e,y⟩:=y;subst e;exact hs i x σ _ (y xs q) p
 have e:i=xs.length:=by omega
 subst e;exact .inl ⟨⟨xs,q,ON _⟩,hd σ H p⟩
theorem fW{lo:Int}{n:Nat}{g:TG}{tb:TS}{D:Ends}{σ:St}{H:Hp}(Pv:Nat->St->Hp->Prop)(V:Pv 0 σ H)
  (hs:∀i σ H,i<n->Pv i σ H->g (.int (lo+i)) σ H λG U=>tb { D with nx:=Pv (i+1),ct:=Pv (i+1),bk:=D.nx } G U) (hd:∀σ H,Pv n σ H->D.nx σ H) :
  ∃W:Nat->Nat->St->Hp->Prop,(∃m,W 0 m σ H)/\∀i m σ H,W i m σ H ->
   ((Hq lo n).stop i H/\D.nx σ H)\/((Hq lo n).go i H/\∃N:St->Hp->Prop,(∀J H',N J H'->∃m',m'<m/\W (i+1) m' J H')/\∀x H',(Hq lo n).Iq i H x H'->g x σ H' λG U=>tb { D with nx:=N,ct:=N,bk:=D.nx } G U):=by
 refine⟨λi m σ H=>m=n-i/\i<=n/\Pv i σ H,⟨n,by simp,PH _,V⟩,?_⟩;rintro i m σ H ⟨rfl,hi,p⟩;by_cases O:i<n
 .refine .inr ⟨O,Pv (i+1),λJ H' Z=>⟨n-(i+1),by omega,rfl,O,Z⟩,λx H' y=>?_⟩;obtain⟨e,y⟩:=y;subst e y;exact hs i σ _ O p
 have e:i=n:=by omega
 subst e;exact .inl ⟨ON _,hd σ H p⟩
theorem qS{c:TT}{tb:TS}{D:Ends}{σ:St}{H:Hp}(Pv:St->Hp->Prop)(μ:St->Hp->Nat)(U:Pv σ H)
  (hs:∀σ H,Pv σ H->c σ H λb J=>if b=true then tb { D with nx:=λG H'=>Pv G H'/\μ G H'<μ σ H,ct:=λG H'=>Pv G H'/\μ G H'<μ σ H,bk:=D.nx } σ J else D.nx σ J)
  (mono:∀σ H Q O,(∀b J,Q b J->O b J)->c σ H Q->c σ H O):CF c tb D σ H:=by
 refine⟨λm σ H=>m=μ σ H/\Pv σ H,⟨_,rfl,U⟩,?_⟩;rintro m σ H ⟨rfl,p⟩;refine mono σ H _ _ (λb J q=>?_) (hs σ H p);cases b with
 |true=>exact⟨_,λG H' ⟨V,l⟩=>⟨_,l,rfl,V⟩,q⟩
 |false=>exact q
noncomputable abbrev R2:=V->V->Hp->VK->Prop
def kl(X:Cx)(f:Uj->Uj->X0 Uj)(r:R2):Prop :=
 ∀(pins:List (Um×U6)) (s:Uq) (σ:St) (H:Hp) (x y:V) (v u:Uj) (Q:VK),Inv X pins σ H s->RelV x v->RelV y u->r x y H Q ->
  wpAny (model X.prog X.w) X.A (f v u) (EP X pins σ Q) X.xe s
def Oj(X:Cx)(f:Uj->X0 Uj)(r:V->Hp->VK->Prop):Prop :=
 ∀(pins:List (Um×U6)) (s:Uq) (σ:St) (H:Hp) (x:V) (v:Uj) (Q:VK),Inv X pins σ H s->RelV x v->r x H Q ->
  wpAny (model X.prog X.w) X.A (f v) (EP X pins σ Q) X.xe s
def fX(X:Cx)(f:Uj)(r:List V->Hp->VK->Prop):Prop :=
 ∀(pins:List (Um×U6)) (s:Uq) (σ:St) (H:Hp) (xs:List V) (D:List Uj) (Q:VK),Inv X pins σ H s->Vals xs D->r xs H Q ->
  wpAny (model X.prog X.w) X.A (call f D) (EP X pins σ Q) X.xe s
def Kk(r:R2)(D tb:TE):TE:=λσ H Q=>D σ H λx G=>tb σ G λy J=>r x y J Q
def tUn(r:V->Hp->VK->Prop)(D:TE):TE:=λσ H Q=>D σ H λx G=>r x G Q
def rI(C:Int->Int->Prop)(g:Int->Int->V):R2:=λx y H Q=>∃i j,x=.int i/\y=.int j/\C i j/\Q (g i j) H
def FI(g:Int->Int->V):R2:=λx y H Q=>∃i j,x=.int i/\y=.int j/\Q (g i j) H
def rU(g:Int->V):V->Hp->VK->Prop:=λx H Q=>∃i,x=.int i/\Q (g i) H
section
variable {X:Cx}{a b c:UL}{ta tb tc:TE}{pos:VL}
theorem Iu(ha:PE X a ta)(hb:PE X b tb){pins:List (Um×U6)}{s:Uq}{σ:St}{H:Hp}{R:V->V->Hp->Prop}(I:Inv X pins σ H s)
  (h:ta σ H λx U=>tb σ U λy D=>R x y D) {Q:Uj->Uq->Prop}{f:Uj->Uj->X0 Uj}
  (hf:∀v u O x y D,Inv X pins σ D O->RelV x v->RelV y u->R x y D->wpAny (model X.prog X.w) X.A (f v u) Q X.xe O) :
  wpAny (model X.prog X.w) X.A (eval a X.env) (λv G=>wpAny (model X.prog X.w) X.A (eval b X.env) (λu J=>wpAny (model X.prog X.w) X.A (f v u) Q X.xe J) X.xe G) X.xe s:=by
 refine cL (ha pins s σ H _ I h) λv s1 Z=>?_;obtain⟨x,U,I1,r1,q1⟩:=Z;refine cL (hb pins s1 σ U _ I1 q1) λu O Z=>?_;obtain⟨y,D,I2,r2,q2⟩:=Z;exact hf v u O x y D I2 r1 r2 q2
theorem aT{op:Operator}{r:R2}(D:kl X (Vu op) r)(G:PE X a ta)(J:PE X b tb):PE X (.BinOp a op b pos) (Kk r ta tb):=by
 intro pins s σ H Q I h;exact wpAny_BinOp (Iu G J I h λv u O x y U V Z ry q=>D pins O σ U x y v u Q V Z ry q)
theorem z9{op:UnaryOp}{r:V->Hp->VK->Prop}(D:Oj X (unaryOp op) r)(G:PE X a ta):PE X (.UnaryOp op a pos) (tUn r ta):=by
 intro pins s σ H Q I h;exact UnaryOp_ (cL (G pins s σ H _ I h) λv J ⟨x,O,U,Z,q1⟩=>D pins J σ O x v Q U Z q1)
theorem Le{f:Uj->Uj->X0 Uj}{C:Int->Int->Prop}{g:Int->Int->Int}
  (rule:∀(i j:Int) (t u:XJ) (s:Uq) (Q:Uj->Uq->Prop) (E:Uj->Uq->Prop),C i j->Q (.int (g i j) s.toks) { s with toks:=s.toks+1 }->wpAny (model X.prog X.w) X.A (f (.int i t) (.int j u)) Q E s) :
  kl X f (rI C λi j=>.int (g i j)):=by
 intro pins s σ H x y v u Q I D G h;obtain⟨i,j,rfl,rfl,J,q⟩:=h;obtain⟨t,rfl⟩:=D;obtain⟨t',rfl⟩:=G;exact rule i j t t' s _ _ J ⟨.int (g i j),H,I.tok _,⟨_,rfl⟩,q⟩
theorem FJ{f:Uj->Uj->X0 Uj}{g:Int->Int->Int}
  (rule:∀(i j:Int) (t u:XJ) (s:Uq) (Q:Uj->Uq->Prop) (E:Uj->Uq->Prop),Q (.int (g i j) s.toks) { s with toks:=s.toks+1 }->wpAny (model X.prog X.w) X.A (f (.int i t) (.int j u)) Q E s) :
  kl X f (FI λi j=>.int (g i j)):=by
 intro pins s σ H x y v u Q I D G h;obtain⟨i,j,rfl,rfl,q⟩:=h;obtain⟨t,rfl⟩:=D;obtain⟨t',rfl⟩:=G;exact rule i j t t' s _ _ ⟨.int (g i j),H,I.tok _,⟨_,rfl⟩,q⟩
theorem Iv{f:Uj->Uj->X0 Uj}{g:Int->Int->Bool}
  (rule:∀(i j:Int) (t u:XJ) (s:Uq) (Q:Uj->Uq->Prop) (E:Uj->Uq->Prop),Q (.bool (g i j)) s->wpAny (model X.prog X.w) X.A (f (.int i t) (.int j u)) Q E s) :
  kl X f (FI λi j=>.bl (g i j)):=by
 intro pins s σ H x y v u Q I D G h;obtain⟨i,j,rfl,rfl,q⟩:=h;obtain⟨t,rfl⟩:=D;obtain⟨t',rfl⟩:=G;exact rule i j t t' s _ _ ⟨.bl (g i j),H,I,rfl,q⟩
def Om(i j:Int):Prop:=0<j/\j<1073741824
def Oo(i j:Int):Prop:=0<=j/\j<=1000000/\i.natAbs<2 ^ 64
def Bh(i j:Int):Prop:=(-(2 ^ 64)<i/\i<2 ^ 64)\/(-(2 ^ 64)<j/\j<2 ^ 64)
theorem Bh.ok{i j:Int}(h:Bh i j):IntMulOk i j:=by
 rcases h with⟨D,G⟩|⟨D,G⟩
 .exact .of_left (intBits_le_64 D G)
 exact .of_right (intBits_le_64 D G)
theorem eH:kl X (Vu .Add) (FI λi j=>.int (i+j)):=FJ λ_ _ _ _ _ _ _ q=>add_int q
theorem kC:kl X (Vu .Sub) (FI λi j=>.int (i-j)):=FJ λ_ _ _ _ _ _ _ q=>sub_int q
theorem fq:kl X (Vu .Mult) (rI Bh λi j=>.int (i*j)):=Le λ_ _ _ _ _ _ _ D q=>mul_int q D.ok
theorem dO:kl X (Vu .FloorDiv) (rI Om λi j=>.int (i/j)):=Le λi j _ _ _ _ _ D q=>by
 have G:(0:Int)<j:=D.1;have J:j<1073741824:=D.2;exact floordiv_int (by omega) (by rw[Int.fdiv_eq_ediv_of_nonneg i (by omega)];exact q) (.inl (PyProof.noPylong_small (by omega (config:={}))))
theorem eI:kl X (Vu .Mod) (rI (λ_ j=>0<j) λi j=>.int (i%j)):=Le λi j _ _ _ _ _ D q=>by
 have G:(0:Int)<j:=D;exact mod_int' (by omega) (by rw[Int.fmod_eq_emod_of_nonneg i (by omega)];exact q)
theorem CH:kl X (Vu .Pow) (rI Oo λi j=>.int (i ^ j.toNat)):=Le λ_ _ _ _ _ _ _ D q=>pow_int_small D.1 D.2.1 D.2.2 q
theorem Aa:kl X (WM .Add) (FI λi j=>.int (i+j)):=FJ λ_ _ _ _ _ _ _ q=>iadd_int q
theorem FK:kl X (WM .Sub) (FI λi j=>.int (i-j)):=FJ λ_ _ _ _ _ _ _ q=>isub_int q
theorem Ab:kl X (WM .Mult) (rI Bh λi j=>.int (i*j)):=Le λ_ _ _ _ _ _ _ D q=>imul_int q D.ok
theorem unI{f:Uj->X0 Uj}{g:Int->Int}
  (rule:∀(i:Int) (t:XJ) (s:Uq) (Q:Uj->Uq->Prop) (E:Uj->Uq->Prop),Q (.int (g i) s.toks) { s with toks:=s.toks+1 }->wpAny (model X.prog X.w) X.A (f (.int i t)) Q E s) :
  Oj X f (rU λi=>.int (g i)):=by
 intro pins s σ H x v Q I D h;obtain⟨i,rfl,q⟩:=h;obtain⟨t,rfl⟩:=D;exact rule i t s _ _ ⟨.int (g i),H,I.tok _,⟨_,rfl⟩,q⟩
theorem uR:Oj X (unaryOp .USub) (rU λi=>.int (-i)):=unI λ_ _ _ _ _ q=>neg_int q
end
noncomputable def Lf:V->V->Bool
 |.g6,.g6=>true|.g6,.int _=>true|.int _,.g6=>true|.g6,.bl _=>true|.bl _,.g6=>true|.g6,.str _=>true|.str _,.g6=>true
 |.int _,.int _=>true|.bl _,.bl _=>true|.str _,.str _=>true|.Cs _,.Cs _=>true
 |.int _,.str _=>true|.str _,.int _=>true|.bl _,.str _=>true|.str _,.bl _=>true
 |_,_=>false
def rEq:R2:=λx y H Q=>Lf x y=true/\Q (.bl (decide (x=y))) H
def rNe:R2:=λx y H Q=>Lf x y=true/\Q (.bl (!decide (x=y))) H
theorem Ac{i j:Int}:decide (V.int i=V.int j)=(i==j):=by
 rw[QV];simp
theorem CI{i j:Bool}:decide (V.bl i=V.bl j)=(i==j):=by
 rw[QV];simp
theorem Ad{i j:UI}:decide (V.str i=V.str j)=(i==j):=by
 rw[QV];simp
theorem Ae{i j:Array UInt8}:decide (V.Cs i=V.Cs j)=(i.toList==j.toList):=by
 rw[QV];cases i;cases j;simp
section
variable {X:Cx}{a b c:UL}{ta tb tc:TE}{pos:VL}
theorem bO{pins:List (Um×U6)}{σ:St}{H:Hp}{s:Uq}{Q:VK}{k D:Bool}(I:Inv X pins σ H s)(q:Q (.bl k) H)(e:k=D):EP X pins σ Q (.bool D) s:=by
 subst e;exact⟨.bl k,H,I,rfl,q⟩
theorem fm:kl X (UQ .Eq) rEq:=by
 intro pins s σ H x y v u Q I G D h;obtain⟨hs,q⟩:=h;cases x with
 |g6 =>
  cases G;cases y with
  |g6=>cases D;exact PySem.EqNone.eq_none_none (bO I q (by simp))
  |bl j=>cases D;exact PySem.EqNone.eq_none_bool (bO I q (by simp))
  |int j=>obtain⟨t',rfl⟩:=D;exact PySem.EqNone.eq_none_int (bO I q (by simp))
  |str j=>obtain⟨t',rfl⟩:=D;exact PySem.EqNone.eq_none_str (bO I q (by simp))
  |_=>exact Us (show false=true from hs) O2
 |bl i =>
  cases G;cases y with
  |g6=>cases D;exact PySem.EqNone.eq_bool_none (bO I q (by simp))
  |bl j=>cases D;exact eq_bool (bO I q CI)
  |str j=>obtain⟨t',rfl⟩:=D;exact PySem.EqMixed.eq_bool_str (bO I q (by simp))
  |_=>exact Us (show false=true from hs) O2
 |int i =>
  obtain⟨t,rfl⟩:=G;cases y with
  |g6=>cases D;exact PySem.EqNone.eq_int_none (bO I q (by simp))
  |int j=>obtain⟨t',rfl⟩:=D;exact eq_int (bO I q Ac)
  |str j=>obtain⟨t',rfl⟩:=D;exact PySem.EqMixed.eq_int_str (bO I q (by simp))
  |_=>exact Us (show false=true from hs) O2
 |str i =>
  obtain⟨t,rfl⟩:=G;cases y with
  |g6=>cases D;exact PySem.EqNone.eq_str_none (bO I q (by simp))
  |bl j=>cases D;exact PySem.EqMixed.eq_str_bool (bO I q (by simp))
  |int j=>obtain⟨t',rfl⟩:=D;exact PySem.EqMixed.eq_str_int (bO I q (by simp))
  |str j=>obtain⟨t',rfl⟩:=D;exact eq_str (bO I q Ad)
  |_=>exact Us (show false=true from hs) O2
 |Cs i =>
  obtain⟨t,rfl⟩:=G;cases y with
  |Cs j=>obtain⟨t',rfl⟩:=D;exact PySem.W.eq_bytes (bO I q Ae)
  |_=>exact Us (show false=true from hs) O2
 |_=>cases y <;> exact Us (show false=true from hs) O2
theorem qT:kl X (UQ .NotEq) rNe:=by
 intro pins s σ H x y v u Q I G D h;obtain⟨hs,q⟩:=h;cases x with
 |g6 =>
  cases G;cases y with
  |g6=>cases D;exact PySem.EqNone.ne_none_none (bO I q (by simp))
  |bl j=>cases D;exact PySem.EqNone.ne_none_bool (bO I q (by simp))
  |int j=>obtain⟨t',rfl⟩:=D;exact PySem.EqNone.ne_none_int (bO I q (by simp))
  |str j=>obtain⟨t',rfl⟩:=D;exact PySem.EqNone.ne_none_str (bO I q (by simp))
  |_=>exact Us (show false=true from hs) O2
 |bl i =>
  cases G;cases y with
  |g6=>cases D;exact PySem.EqNone.ne_bool_none (bO I q (by simp))
  |bl j=>cases D;exact ne_bool (bO I q (congrArg not CI))
  |str j=>obtain⟨t',rfl⟩:=D;exact PySem.EqMixed.ne_bool_str (bO I q (by simp))
  |_=>exact Us (show false=true from hs) O2
 |int i =>
  obtain⟨t,rfl⟩:=G;cases y with
  |g6=>cases D;exact PySem.EqNone.ne_int_none (bO I q (by simp))
  |int j=>obtain⟨t',rfl⟩:=D;exact ne_int (bO I q (congrArg not Ac))
  |str j=>obtain⟨t',rfl⟩:=D;exact PySem.EqMixed.ne_int_str (bO I q (by simp))
  |_=>exact Us (show false=true from hs) O2
 |str i =>
  obtain⟨t,rfl⟩:=G;cases y with
  |g6=>cases D;exact PySem.EqNone.ne_str_none (bO I q (by simp))
  |bl j=>cases D;exact PySem.EqMixed.ne_str_bool (bO I q (by simp))
  |int j=>obtain⟨t',rfl⟩:=D;exact PySem.EqMixed.ne_str_int (bO I q (by simp))
  |str j=>obtain⟨t',rfl⟩:=D;exact ne_str (bO I q (congrArg not Ad))
  |_=>exact Us (show false=true from hs) O2
 |Cs i =>
  obtain⟨t,rfl⟩:=G;cases y with
  |Cs j=>obtain⟨t',rfl⟩:=D;exact PySem.W.ne_bytes (bO I q (congrArg not Ae))
  |_=>exact Us (show false=true from hs) O2
 |_=>cases y <;> exact Us (show false=true from hs) O2
theorem jW:kl X (UQ .Lt) (FI λi j=>.bl (decide (i<j))):=Iv λ_ _ _ _ _ _ _ q=>lt_int q
theorem Af:kl X (UQ .LtE) (FI λi j=>.bl (decide (i<=j))):=Iv λ_ _ _ _ _ _ _ q=>le_int q
theorem iY:kl X (UQ .Gt) (FI λi j=>.bl (decide (j<i))):=Iv λ_ _ _ _ _ _ _ q=>gt_int q
theorem aQ(b:UL){op:XN}(h:op≠.In:=by decide)(D:op≠.NotIn:=by decide):VM op b=false:=by
 have e1:(op==CmpOp.In)=false:=by cases op <;> first|rfl|exact Us rfl h
 have e2:(op==CmpOp.NotIn)=false:=by cases op <;> first|rfl|exact Us rfl D
 cases b <;> simp[VM,e1,e2]
theorem eV{op:XN}{r:R2}(D:kl X (UQ op) r)(G:PE X a ta)(J:PE X b tb)(O:VM op b=false):PE X (.Compare a [op] [b] pos) (Kk r ta tb):=by
 intro pins s σ H Q I h;exact wpAny_Compare1 (Iu G J I h λv u U x y V Z rx ry q=>D pins U σ V x y v u Q Z rx ry q) O
def CJ(t:TE):TT:=λσ H Q=>t σ H λx H'=>∃k,x=.bl k/\Q k H'
theorem aM{op:XN}{r:R2}(D:kl X (UQ op) r)(G:PE X a ta)(J:PE X b tb)(O:VM op b=false):PT X (.Compare a [op] [b] pos) (CJ (Kk r ta tb)):=by
 intro pins s σ H Q I h;refine Wx (cL (G pins s σ H _ I h) λv U ⟨x,V,Z,r1,q1⟩=>cL (J pins U σ V _ Z q1) λu s2 ⟨y,H2,I2,r2,q2⟩ =>
  cL (D pins s2 σ H2 x y v u _ I2 r1 r2 q2) λc s3 ⟨z,H3,I3,r3,k,e,q3⟩=>?_) O
 subst e;cases r3;exact UP ⟨H3,I3,q3⟩
def Iw(r G:R2)(ta tb tc:TE):TE:=λσ H Q=>ta σ H λx J=>tb σ J λy O=>r x y O λz D=>∃k,z=.bl k /\
 (if k=true then tc σ D λU V=>G y U V Q else Q (.bl false) D)
theorem CK{op D:XN}{r J:R2}(ho:kl X (UQ op) r)(G:kl X (UQ D) J)(ha:PE X a ta)(hb:PE X b tb)(hc:PE X c tc)
  (hm:lastMarks [op,D] [b,c]=false:=by with_unfolding_all rfl):PT X (.Compare a [op,D] [b,c] pos) (CJ (Iw r J ta tb tc)):=by
 intro pins s σ H Q I h;refine isTrue_chain (cL (ha pins s σ H _ I h) λv s1 ⟨x,H1,I1,r1,q1⟩=>test_link (cL (hb pins s1 σ H1 _ I1 q1) λu s2 ⟨y,H2,I2,O,q2⟩ =>
  cL (ho pins s2 σ H2 x y v u _ I2 r1 O q2) λd s3 ⟨z,U,V,r3,k,e,Z⟩=>?_)) hm
 subst e;cases r3;refine UP ?_;cases k with
 |false =>
  obtain⟨k',e',q'⟩:=Z;cases e';exact ite_ff ⟨U,V,q'⟩
 |true =>
  refine ite_tt (test_last (cL (hc pins s3 σ U _ V Z) λw' s4 ⟨z',H4,I4,r4,q4⟩=>cL (G pins s4 σ H4 y z' u w' _ I4 O r4 q4) λd' s5 zq=>?_));obtain⟨z2,H5,I5,r5,k2,e2,q5⟩:=zq;subst e2;cases r5;exact UP ⟨H5,I5,q5⟩
theorem uS:(Uu:Nat)<2 ^ 63:=by rw[UJ];decide
theorem vals1{x:V}{D:List Uj}(r:Vals [x] D):∃u,D=[u]/\RelV x u:=by
 cases r with
 |cons G J=>cases J;exact⟨_,rfl,G⟩
theorem vals2{x y:V}{D:List Uj}(r:Vals [x,y] D):∃u G,D=[u,G]/\RelV x u/\RelV y G:=by
 cases r with
 |cons J O =>
  cases O with
  |cons U Z=>cases Z;exact⟨_,_,rfl,J,U⟩
theorem tU(G:X.calm=true):fX X (.builtin "max") (λxs H Q=>∃i j,xs=[.int i,.int j]/\Q (.int (if j>i then j else i)) H):=by
 intro pins s σ H xs J Q I r h;obtain⟨i,j,rfl,q⟩:=h;obtain⟨u,O,rfl,⟨t,rfl⟩,⟨t',rfl⟩⟩:=vals2 r;refine max_two_ints (I.ok.hd G) λh' tk k=>⟨_,H,I.kept k,?_,q⟩
 by_cases D:j>i
 .rw[Uo D,Uo D];exact⟨_,rfl⟩
 rw[Uk D,Uk D];exact⟨_,rfl⟩
theorem Bi(G:X.calm=true):fX X (.builtin "min") (λxs H Q=>∃i j,xs=[.int i,.int j]/\Q (.int (if j<i then j else i)) H):=by
 intro pins s σ H xs J Q I r h;obtain⟨i,j,rfl,q⟩:=h;obtain⟨u,O,rfl,⟨t,rfl⟩,⟨t',rfl⟩⟩:=vals2 r;refine min_two_ints (I.ok.hd G) λh' tk k=>⟨_,H,I.kept k,?_,q⟩
 by_cases D:j<i
 .rw[Uo D,Uo D];exact⟨_,rfl⟩
 rw[Uk D,Uk D];exact⟨_,rfl⟩
end
theorem sQ.some_of{v:V}{o:Option Uj}(r:sQ (Ya v) o):∃u,o=Ya u/\RelV v u:=by
 cases o with
 |none=>exact(show False from r).elim
 |some u=>exact⟨u,rfl,r⟩
structure eJ(k:Nat) (A:UG):Prop where
 hd:A.handled=none
 dp:A.depth+3*k+5<recursionLimit
 un:A.units+16*k+200<cLine
 gd:A.guards=Ya []
theorem eJ.mono{j k:Nat}{A:UG}(r:eJ k A)(h:j<=k):eJ j A:=⟨r.hd,by have:=r.dp;omega,by have:=r.un;omega,r.gd⟩
theorem eJ.deeper{k:Nat}{A:UG}(r:eJ (k+1) A)(env:WT):eJ k (A.deeper env):=
 ⟨r.hd,by have:=r.dp;show A.depth+1+3*k+5<_;omega,by have:=r.un;show A.units+3+16*k+200<_;omega,r.gd⟩
theorem eJ.in1{k:Nat}{A:UG}(r:eJ (k+1) A):eJ k A.in1 :=
 ⟨r.hd,by have:=r.dp;show A.depth+3*k+5<_;omega,by have:=r.un;show A.units+1+16*k+200<_;omega,r.gd⟩
theorem eJ.depth{k:Nat}{A:UG}(r:eJ k A):A.depth<recursionLimit:=by have:=r.dp;omega
theorem eJ.units{k:Nat}{A:UG}(r:eJ k A):A.units+64<cLine:=by have:=r.un;omega
def FL:TA:=λ_ H Q=>Q [] H
def tV(D:TE)(tr:TA):TA:=λσ H Q=>D σ H λx G=>tr σ G λxs J=>Q (x::xs) J
section
variable {X:Cx}{e:UL}{es:List UL}{te:TE}{t:TA}{pos:VL}
theorem af:PA X [] FL:=λ_ _ _ _ H Q I h=>Calls.spliced_nil ⟨[],H,I,.nil,h⟩
theorem ae(D:PE X e te)(G:PA X es t)(hs:UC (e::es) X.env=(false,eval e X.env)::UC es X.env:=by rfl):PA X (e::es) (tV te t):=by
 intro pos pins s σ H Q I h;rw[hs];show wpAny _ _ (spliced ((false,eval e X.env)::backTo pos (UC es X.env))) _ _ s;refine Calls.spliced_cons (cL (D pins s σ H _ I h) λu J O=>?_);obtain⟨x,U,V,Z,q1⟩:=O;exact cL (G pos pins J σ U _ V q1) λus s2 ⟨xs,H2,I2,r2,q2⟩=>⟨x::xs,H2,I2,.cons Z r2,q2⟩
def Oq(t:TA):TE:=λσ H Q=>t σ H λxs D=>xs.length<=Uu/\∀p,D p=none->Q (.ref p) (upd D p (.tup xs))
def Ot(t:TA):TE:=λσ H Q=>t σ H λxs D=>xs.length<=Uu/\∀p,D p=none->Q (.ref p) (upd D p (.lst xs))
theorem bC{x1}(h:PA X es t):PE X (.Tuple es x1 pos) (Oq t):=by
 intro pins s σ H Q I O;refine wpAny_Tuple_spliced (cL (h pos pins s σ H _ I O) λU D ⟨xs,G,J,r,z,q⟩=>⟨by rw[<-r.length];exact z,?_⟩);have V:G D.heap.objs.size=none:=J.bM.fresh (ON _);refine⟨.ref D.heap.objs.size,upd G D.heap.objs.size (.tup xs),J.laid (t':=D.toks) (λb u e=>OM _ e) (ON _) ?_,rfl,q _ V⟩;exact⟨z,U,r,⟨_,O6 _ rfl,rfl,_,rfl⟩⟩
theorem bP(h:PA X es t):PE X (.List es pos) (Ot t):=by
 intro pins s σ H Q I O;refine wpAny_List_spliced (cL (h pos pins s σ H _ I O) λU D ⟨xs,G,J,r,z,q⟩=>⟨by rw[<-r.length];exact z,?_⟩);have V:G D.heap.objs.size=none:=J.bM.fresh (ON _);refine⟨.ref D.heap.objs.size,upd G D.heap.objs.size (.lst xs),J.laid (t':=D.toks) (λb u e=>OM _ e) (ON _) ?_,rfl,q _ V⟩;exact⟨z,U,0,r,O6 _ rfl⟩
end
noncomputable abbrev Sp:=List V->Hp->VK->XK->Prop
noncomputable abbrev Cd:=List WT->Hp->Uq->XK->Uj->Uq->Prop
structure yI(P:Ux) (w:UA) (K:OJ) (mg:UI->Option Uj) (base:UH) (A:UG) (outer:List WT) (s:Uq) (H:Hp):Prop where
 frames:A.frames=Ya outer
 mod:Mod K mg base
 bs:∀b o,base.get? b=Ya o->s.heap.get? b=Ya o/\H b=none
 Cw:base.objs.size<=s.heap.objs.size
 mA:s.heap.FunFrames base outer
 Fz:∀b∈lX outer,H b=none
 bM:md P w H s.heap
 bare:VW s.gens
def CE(outer:List WT)(P:Ux)(w:UA)(H:Hp)(s:Uq)(Q:VK)(u:Uj)(s':Uq):Prop :=
 ∃v H',s'.os=s.os/\VW s'.gens/\Un (lX outer) [] H H' s.heap s'.heap/\md P w H' s'.heap/\RelV v u/\Q v H'
def CR(CX:Cd)(outer:List WT)(P:Ux)(w:UA)(H:Hp)(s:Uq)(Q:VK)(E:XK)(r:Result)(s':Uq):Prop :=
 match r with
 |.ok (.ret u)=>CE outer P w H s Q u s'
 |.ok _=>False
 |.error e=>CX outer H s E e s'
structure aO(P:Ux) (w:UA) (K:OJ) (mg:UI->Option Uj) (base:UH) (CX:Cd) (k:Nat) (f:Um) (fd:Uz) (ps:List UI) (sp:Sp):Prop where
 len:∀vs H Q E,sp vs H Q E->vs.length=ps.length
 run:∀(A:UG) (outer:List WT) (s:Uq) (H:Hp) (args:Args) (us:List Uj) (vs:List V) (Q:VK) (E:XK),eJ k A->yI P w K mg base A outer s H->Xv s fd args (ps.zip us)->Vals vs us->sp vs H Q E ->
  VX (model P w) A (.call (.ref f) args) (CR CX outer P w H s Q E) s
theorem yI.in1 {P : Ux}{w : UA}{K : OJ}{mg : UI -> Option Uj}{base : UH}{A : UG}{outer : List WT}{s : Uq}{H : Hp}(e : yI P w K mg base A outer s H) :
    yI P w K mg base A.in1 outer s H:=⟨e.frames,e.mod,e.bs,e.Cw,e.mA,e.Fz,e.bM,e.bare⟩
section
variable {X:Cx}{pins:List (Um×U6)}{σ:St}{H:Hp}{s s':Uq}
theorem Inv.Iy(I:Inv X pins σ H s):yI X.prog X.w X.K X.mg X.base X.A X.stack s H :=
 ⟨I.ok.frames,I.ok.mod,I.bs,PD I.ok.Cw I.sz,I.stack,I.uN,I.bM,I.bare⟩
theorem Inv.after{Q:VK}{u:Uj}(I:Inv X pins σ H s)(h:CE X.stack X.prog X.w H s Q u s'):EP X pins σ Q u s':=by
 obtain⟨v,H',os,bare,un,bM,r,q⟩:=h;obtain⟨G,g,d,t,D⟩:=s';obtain rfl:D=s.os:=os;exact⟨v,H',I.call (h':=G) (g':=g) (d':=d) (t':=t) (ch:=[]) un bM bare (λb z=>Us z (by simp)),r,q⟩
end
def tW(sp:Sp)(D:List V)(E:XK)(t:TA):TE:=λσ H Q=>t σ H λG J=>sp (G++D) J Q E
def Binds(K:OJ)(O:Uz)(G:List UI)(J:List Uj):Prop :=
 ∀(s:Uq) (D:List Uj),K.In s.heap->(D++J).length=G.length->Xv s O ⟨D,[]⟩ (G.zip (D++J))
theorem Binds.all{K:OJ}{J:Uz}{G:List UI}(h:∀D:List Uj,D.length=G.length->Vv J ⟨D,[]⟩=pure (G.zip D)):Binds K J G []:=λs D _ O=>by
 rw[Pj]at O⊢;exact .of_eq (h D O)
def Passes(CX:Cd)(X:Cx)(E:XK):Prop:=∀(pins:List (Um×U6)) (σ:St) (H:Hp) (s:Uq) (e:Uj) (s':Uq),Inv X pins σ H s->CX X.stack H s E e s'->X.xe e s'
section
variable {X:Cx}{CX:Cd}{k:Nat}{f C:Um}{fd:Uz}{ps:List UI}{sp:Sp}{Kl:List V}{ds:List Uj}{E:XK}{x m:UI}{p pos apos:VL}{e o:UL}{es:List UL}{ta:TE}{t:TA}
theorem Iz{pins:List (Um×U6)}{σ:St}{H:Hp}{s:Uq}{Q:VK}{D:List Uj}{J:List V}(F:aO X.prog X.w X.K X.mg X.base CX k f fd ps sp)(U:eJ k X.A)(Z:Binds X.K fd ps ds)(hd:Vals Kl ds)(hx:Passes CX X E)
  (I:Inv X pins σ H s) (r:Vals J D) (h:sp (J++Kl) H Q E):wpAny (model X.prog X.w) X.A (call (.ref f) D) (EP X pins σ Q) X.xe s:=by
 have O:Vals (J++Kl) (D++ds):=r.append hd;have hl:(D++ds).length=ps.length:=by rw[<-O.length];exact F.len _ _ _ _ h
 refine Wh (VE (F.run X.A X.stack s H ⟨D,[]⟩ (D++ds) (J++Kl) Q E U I.Iy (Z s D I.Be hl) O h) λr s' G=>?_);cases r with
 |error e=>exact hx pins σ H s e s' I G
 |ok fl =>
  cases fl with
  |ret u=>exact I.after G
  |next=>exact False.elim G
  |brk=>exact False.elim G
  |cont=>exact False.elim G
theorem uT(F:aO X.prog X.w X.K X.mg X.base CX k f fd ps sp)(O:eJ k X.A)(U:Gl X x)(V:X.mg x=Ya (.ref f))(Z:Q7 X.K (.ref f)=true)(hb:Binds X.K fd ps ds)(hd:Vals Kl ds)(hx:Passes CX X E)
  (ha:PA X (e::es) t) (D:(x==("__debug__":UI))=false:=by decide) (he:UC (e::es) X.env=(false,eval e X.env)::UC es X.env:=by rfl) (G:(backTo pos (UC es X.env)).any (·.1)=false:=by rfl) :
  PE X (.Call (.Name x p) (e::es) [] pos) (tW sp Kl E t):=by
 intro pins s σ H Q I h;refine Vi (mY I U V ?_ D);refine S4 (h₀:=X.base) I.ok.mod.mU Z (cL (ha pos pins s σ H _ I h) λus s1 ⟨vs,H1,J,r,q⟩=>⟨J.Be,?_⟩) he G;exact Iz F O hb hd hx J r q
end
def PK(X:Cx)(D:List XS)(t:TA):Prop :=
 ∀(pos:VL) (pins:List (Um×U6)) (s:Uq) (σ:St) (H:Hp) (Q:List V->Hp->Prop),Inv X pins σ H s->t σ H Q->wpAny (model X.prog X.w) X.A (evalAll ((backToKw pos (Xr D X.env)).map (·.2))) (AP X pins σ Q) X.xe s
section
variable {X:Cx}{CX:Cd}{k:Nat}{f C:Um}{fd:Uz}{ps ks:List UI}{sp:Sp}{E:XK}{x m:UI}{p pos apos kpos:VL}{e o:UL}{es:List UL}{Ou:List XS}{te ta:TE}{t tk:TA}{nm:Option UI}
theorem IA:PK X [] FL:=λ_ _ _ _ H Q I h=>wpAny_evalAll_nil ⟨[],H,I,.nil,h⟩
theorem FN(D:PE X e te)(G:PK X Ou t):PK X (⟨nm,e,kpos⟩::Ou) (tV te t):=by
 intro pos pins s σ H Q I h;show wpAny _ _ (evalAll ((do let v <- eval e X.env;XQ pos;pure v)::(backToKw pos (Xr Ou X.env)).map (·.2))) _ _ s;refine wpAny_evalAll_cons (Uh (cL (D pins s σ H _ I h) λu J ⟨x,O,U,V,Z⟩=>Uh (Vn (Ur ?_))));exact cL (G pos pins J σ O _ U Z) λus s2 ⟨xs,H2,I2,r2,q2⟩=>⟨x::xs,H2,I2,.cons V r2,q2⟩
variable {g:List Uj->List Uj->List Uj}{gV:List V->List V->List V}
end
structure aN(N P:List UI) (sc:VU):Prop where
 kind:sc.kind=.function
 co:sc.isCoroutine=false
 gen:sc.isGenerator=false
 nd:N.Nodup
 pre:N.take P.length=P
 par:∀x∈P,sc.names.lookup x=Ya .local\/sc.names.lookup x=Ya .cell
 IB:∀y∈sc.names,y.2≠.free
theorem tX{kindOf:UI->Option Xy}{x:UI}:∀{binds:List (UI×Uj)}{m:UI->Option Uj},(∀v,(x,v)∉binds)->bindL kindOf binds m x=m x
 |[],_,_=>rfl
 |(n,v)::r,m,h=>by
  unfold bindL;rw[tX λw hw=>h w (O0 _ hw)]
  split
  .have:x≠n:=by rintro rfl;exact h v O1
   simp[this]
  rfl
theorem tY{kindOf:UI->Option Xy}{x:UI}:∀{binds:List (UI×Uj)}{m:UI->Option Uj},(∀v,(x,v)∉binds)->bindC kindOf binds m x=m x
 |[],_,_=>rfl
 |(n,v)::r,m,h=>by
  unfold bindC;rw[tY λw hw=>h w (O0 _ hw)]
  split
  .rfl
  have:x≠n:=by rintro rfl;exact h v O1
  simp[this]
theorem tZ{kindOf:UI->Option Xy}{x:UI}{v:Uj}:∀{P:List UI}{D:List Uj}{i:Nat}{m:UI->Option Uj},P.Nodup->P[i]?=Ya x->D[i]?=Ya v->kindOf x=Ya .local ->
  bindL kindOf (P.zip D) m x=Ya v
 |[],_,_,_,_,h,_,_=>by simp at h
 |_::_,[],_,_,_,_,h,_=>by simp at h
 |p::P,w::D,0,m,nd,G,J,O=>by
  simp at G J;subst G;subst J;show bindL kindOf ((p,w)::P.zip D) m p=_;unfold bindL;rw[tX λv U=>(Qy.mp nd).1 (Ru U).1,Uo O];simp
 |p::P,w::D,i+1,m,nd,G,J,O=>by
  show bindL kindOf ((p,w)::P.zip D) m x=_;unfold bindL;exact tZ (i:=i) (Qy.mp nd).2 (by simpa using G) (by simpa using J) O
theorem t5{kindOf:UI->Option Xy}{x:UI}{v:Uj}:∀{P:List UI}{D:List Uj}{i:Nat}{m:UI->Option Uj},P.Nodup->P[i]?=Ya x->D[i]?=Ya v->kindOf x≠Ya .local ->
  bindC kindOf (P.zip D) m x=Ya v
 |[],_,_,_,_,h,_,_=>by simp at h
 |_::_,[],_,_,_,_,h,_=>by simp at h
 |p::P,w::D,0,m,nd,G,J,O=>by
  simp at G J;subst G;subst J;show bindC kindOf ((p,w)::P.zip D) m p=_;unfold bindC;rw[tY λv U=>(Qy.mp nd).1 (Ru U).1,Uk O];simp
 |p::P,w::D,i+1,m,nd,G,J,O=>by
  show bindC kindOf ((p,w)::P.zip D) m x=_;unfold bindC;exact t5 (i:=i) (Qy.mp nd).2 (by simpa using G) (by simpa using J) O
noncomputable def start(N:List UI)(D:List V):St:=D.map some++R7 (N.length-D.length) none
noncomputable def lY(CX:Cd)(P:Ux)(w:UA)(K:OJ)(mg:UI->Option Uj)(base:UH)(N:List UI)(qual:UI)(scope:VU)(f:Um)(G:Uj)(A:UG)(outer:List WT)(s:Uq)(H:Hp)(E:XK):Cx where
 prog:=P
 w:=w
 K:=K
 mg:=mg
 base:=base
 A:=A.deeper (envOfC qual scope s.heap.objs.size f G)
 N:=N
 s₀:=s
 H₀:=H
 env:=envOfC qual scope s.heap.objs.size f G
 outer:=outer
 stack:=envOfC qual scope s.heap.objs.size f G::outer
 ex:=[]
 calm:=true
 fn:=λ_=>true
 pn:=[]
 xe:=λe s'=>wpAny (model P w) (A.deeper (envOfC qual scope s.heap.objs.size f G)) (XW (envOfC qual scope s.heap.objs.size f G) e) (λ_ D=>CX outer H s E e D) (λJ D=>CX outer H s E J D) s'
theorem wW{D:VU}{n:Nat}{x:UI}(h:D.names.lookup x=Ya .cell):∃c,(cellsFrom n D.names []).lookup x=Ya c:=by
 have q:=So D.names n [] (.inl h);exact Sb.mp q
theorem Bj{CX:Cd}{P:Ux}{w:UA}{K:OJ}{mg:UI->Option Uj}{base:UH}{N J:List UI}{qual:UI}{scope:VU}{f:Um}{cd:Uj}{A:UG}{outer:List WT}{s s1:Uq}{H:Hp}{E:XK}{us:List Uj}{O:List V}
  (S:aN N J scope) (hd:A.handled=none) (G:yI P w K mg base A outer s H) (hl:O.length=J.length) (r:Vals O us)
  (x:InCallC s s.heap.objs.size (bindL (envOfC qual scope s.heap.objs.size f cd).kindOf (J.zip us) λ_=>none) (cellsFrom (s.heap.objs.size+1) scope.names []) (bindC (envOfC qual scope s.heap.objs.size f cd).kindOf (J.zip us) λ_=>none) s1) :
  Inv (lY CX P w K mg base N qual scope f cd A outer s H E) [] (start N O) H s1:=by
 have hpl:J.length<=N.length:=by have:=congrArg Sf S.pre;rw[Pu]at this;omega
 obtain⟨h1,tk,rfl,hk⟩:=x.done;have U:∀b:Um,b∉(lY CX P w K mg base N qual scope f cd A outer s H E).ex:=λb z=>Us (show b∈([]:List Um)from z) (by simp);refine⟨⟨G.mod,S.kind,rfl,rfl,ON _,λy z c h1 D=>?_,λy Z=>?_,λy c _ h=>?_,λ_=>hd,Around.frames_deeper G.frames,.inr ⟨rfl,rfl⟩,λb z=>Us z (U b),G.bs,G.Cw,λb _ _=>U b,λb z=>Us z (U b),G.mA,G.Fz⟩,
  rfl,G.bare,Un.kept hk,⟨_,x.toInCall.ns,λi y v h1 D h3=>?_⟩,λy c h=>⟨_,x.cell y c h⟩,G.bM.fresh (ON _),λy c h=>?_,λp hp=>Us (show p∈([]:List (Um×U6))from hp) (by simp),G.bM.kept hk,?_⟩
 .exact name_of_addr x.apart (PySem.mem_of_lookup h1) (PySem.mem_of_lookup D)
 .have Z:scope.names.lookup y=Ya .cell\/scope.names.lookup y=Ya .free:=Z;rcases Z with Z|Z
  .exact wW Z
  exact Us rfl (S.IB _ (PySem.mem_of_lookup Z))
 .exact Sr (x.above y c (PySem.mem_of_lookup h))
 .have hi:i<O.length:=by
   unfold start at D;by_cases hi:i<O.length
   .exact hi
   rw[Pk (by simpa using hi)]at D;rw[Q1]at D
   split at D <;> cases D
  have ha:O[i]?=Ya v:=by
   unfold start at D;rw[Pg (by simpa using hi),OR]at D;cases e:O[i]? with
   |none=>rw[e]at D;cases D
   |some a=>rw[e]at D;cases D;rfl
  obtain⟨u,hu,rv⟩:=r.get ha;have hp:J[i]?=Ya y:=by
   rw[<-S.pre,List.getElem?_take_of_lt (by omega)];exact h1
  have ndP:J.Nodup:=by rw[<-S.pre];exact S.nd.sublist (List.take_sublist _ _)
  refine⟨u,rv,?_⟩;rcases S.par y (OP hp)with k|k
  .exact .inl ⟨k,tZ ndP hp hu k⟩
  obtain⟨c,e⟩:=wW (n:=s.heap.objs.size+1) k;refine .inr ⟨.inl k,c,e,?_⟩;have q:=x.cell y c e;rw[t5 ndP hp hu (by show scope.names.lookup y≠_;rw[k];decide)]at q;exact q
 .exact G.bM.fresh (Sr (x.above y c (PySem.mem_of_lookup h)))
 unfold start;show _=N.length;rw[OQ,OH,Su];omega
theorem Hr{CX:Cd}{P:Ux}{w:UA}{K:OJ}{mg:UI->Option Uj}{base:UH}{k:Nat}{f:Um}{name qual:UI}{params:Arguments}{body:List Vp}{scope:VU}{dV kV doc pm D ct oc:Uj}{an od:Option Um}
  {Lg:Array (Option Uj)}{N ps:List UI}{sp:Sp} (lk:K.lookup f=Ya ⟨oc,od,.func (PV name qual params body scope dV kV doc pm an D ct),Lg⟩) (FO:Q9 K D qual=true) (S:aN N ps scope)
  (len:∀G H Q E,sp G H Q E->G.length=ps.length)
  (U:∀(A:UG) (outer:List WT) (s:Uq) (H:Hp) (G:List V) (Q:VK) (E:XK),eJ k (A.deeper (envOfC qual scope s.heap.objs.size f D))->sp G H Q E ->
   ∃t,mX (lY CX P w K mg base N qual scope f D A outer s H E) body t/\t { nx:=λ_ H'=>Q .g6 H',rt:=Q } (start N G) H) :
  aO P w K mg base CX (k+1) f (PV name qual params body scope dV kV doc pm an D ct) ps sp:=by
 refine⟨len,λA outer s H args us G Q E hr e0 hb r Fh=>?_⟩;have hl:=len _ _ _ _ Fh;have KX:K.In s.heap:=e0.mod.mU.keeps λb o e=>(e0.bs b o e).1;have lim:s.heap.NoLimit:=e0.mod.nolimit.keeps λb o e=>(e0.bs b o e).1;have Z:∀y∈ps.zip us,scope.names.lookup y.1=Ya .local\/(scope.names.lookup y.1=Ya .cell/\((cellsFrom (s.heap.objs.size+1) scope.names []).lookup y.1).isSome=true):=λ⟨n,v⟩ hy=>by
  rcases S.par n (Ru hy).1 with q|q
  .exact .inl q
  exact .inr ⟨q,So _ _ _ (.inl q)⟩
 refine codeAny_call_function hr.depth (KX _ _ lk) rfl S.co S.gen rfl (PySem.W.codeRec_of KX FO) (hb _ _ _ _ ?_);refine wpAny_newFunctionEnv_cells S.kind Z λenv he s1 x=>?_;subst he;refine⟨lim.keeps x.toInCall.keep,codeAny_func ?_⟩;obtain⟨t,ht,hq⟩:=U A outer s H G Q E (hr.deeper _) Fh;have I:Inv (lY CX P w K mg base N qual scope f D A outer s H E) [] (start N G) H s1:=Bj S hr.hd e0 hl r x;refine UX (ht [] s1 (start N G) H _ I hq) (λfl s' hs=>?_) λe s' hs=>hs;have fin:∀{O:St}{H':Hp}{v:V}{u:Uj},Inv (lY CX P w K mg base N qual scope f D A outer s H E) [] O H' s'->RelV v u->Q v H'->CE outer P w H s Q u s' :=
  λ{O H' v u} J rv q=>⟨v,H',J.os,J.bare,J.base,J.bM,rv,q⟩
 cases fl with
 |ret u =>
  obtain⟨v,O,H',J,rv,q⟩:=hs;exact fin J rv q
 |next =>
  obtain⟨O,H',J,q⟩:=hs;exact fin (v:=V.g6) (u:=Value.none) J rfl q
 |brk =>
  obtain⟨_,_,_,q⟩:=hs;exact False.elim q
 |cont =>
  obtain⟨_,_,_,q⟩:=hs;exact False.elim q
section
variable {X:Cx}{x:UI}{p pos:VL}{e:UL}{es:List UL}{t:TA}{id T:String}{r:List V->Hp->VK->Prop}
def tCB(r:List V->Hp->VK->Prop)(t:TA):TE:=λσ H Q=>t σ H λD G=>r D G Q
theorem aL(J:fX X (.builtin id) r)(O:Gl X x)(U:X.mg x=none)(V:UR x=Ya (.builtin id))(Z:PA X (e::es) t)(hn:x≠"__name__":=by decide)(D:(x==("__debug__":UI))=false:=by decide)
  (he:UC (e::es) X.env=(false,eval e X.env)::UC es X.env:=by rfl) (G:(backTo pos (UC es X.env)).any (·.1)=false:=by rfl):PE X (.Call (.Name x p) (e::es) [] pos) (tCB r t):=by
 intro pins s σ H Q I h;refine Vi (mB I O U V ?_ hn D);exact Tf (cL (Z pos pins s σ H _ I h) λus s1 ⟨vs,H1,I1,r1,q1⟩=>J pins s1 σ H1 vs us Q I1 r1 q1) he G
theorem b7(J:fX X (.type T) r)(O:Gl X x)(U:X.mg x=none)(V:UR x=Ya (.type T))(Z:PA X (e::es) t)(hn:x≠"__name__":=by decide)(D:(x==("__debug__":UI))=false:=by decide)
  (he:UC (e::es) X.env=(false,eval e X.env)::UC es X.env:=by rfl) (G:(backTo pos (UC es X.env)).any (·.1)=false:=by rfl):PE X (.Call (.Name x p) (e::es) [] pos) (tCB r t):=by
 intro pins s σ H Q I h;refine Vi (mB I O U V ?_ hn D);exact QJ (cL (Z pos pins s σ H _ I h) λus s1 ⟨vs,H1,I1,r1,q1⟩=>J pins s1 σ H1 vs us Q I1 r1 q1) he G
end
section
variable {κ:Type}[DecidableEq κ]
noncomputable def bX(D:List (κ×V))(k:κ):Option V:=(D.find? λG=>decide (G.1=k)).map (·.2)
noncomputable def putK(D:List (κ×V))(k:κ)(v:V):List (κ×V):=
 if(D.any λG=>decide (G.1=k))=true then D.map (λG=>if G.1=k then(G.1,v)else G)else D++[(k,v)]
theorem eK{p:κ×V}{r:List (κ×V)}{k:κ}(e:p.1=k):bX (p::r) k=Ya p.2:=by simp[bX,Qr,e]
theorem dZ{p:κ×V}{r:List (κ×V)}{k:κ}(e:¬p.1=k):bX (p::r) k=bX r k:=by simp[bX,Qr,e]
theorem kD(k:κ):∀D:List (κ×V),(D.any λG=>decide (G.1=k))=(bX D k).isSome
 |[]=>rfl
 |p::r=>by
  rw[Rv];by_cases e:p.1=k
  .simp only[eK e,Ul e,TY,Option.isSome_some]
  rw[dZ e,Up e,TQ];exact kD k r
theorem wX(k j:κ)(y:V):∀D:List (κ×V),bX (D.map λG=>if G.1=k then(G.1,y)else G) j=(bX D j).map λx=>if j=k then y else x
 |[]=>rfl
 |p::r=>by
  have J:=wX k j y r;rw[Po];by_cases h:p.1=k
  .rw[Uo h];by_cases e:p.1=j
   .rw[eK (p:=(p.1,y)) e,eK e,RT,Uo (e.symm.trans h)]
   rw[dZ (p:=(p.1,y)) e,dZ e,J]
  rw[Uk h];by_cases e:p.1=j
  .rw[eK (p:=p) e,eK e,RT,Uk (λz=>h (e.trans z))]
  rw[dZ (p:=p) e,dZ e,J]
theorem t6(k j:κ)(y:V):∀D:List (κ×V),bX D k=none->bX (D++[(k,y)]) j=if j=k then some y else bX D j
 |[],_=>by
  by_cases e:k=j
  .rw[Uo e.symm];exact eK (p:=(k,y)) e
  rw[Uk (λz=>e z.symm)];exact dZ (p:=(k,y)) e
 |p::r,G=>by
  rw[List.cons_append];have J:¬p.1=k:=λz=>by rw[eK z]at G;cases G
  rw[dZ J]at G;have O:=t6 k j y r G;by_cases e:p.1=j
  .rw[eK e,eK e,Uk (λz=>J (e.trans z))]
  rw[dZ e,dZ e,O]
theorem qU(D:List (κ×V))(k j:κ)(y:V):bX (putK D k y) j=if j=k then some y else bX D j:=by
 unfold putK;by_cases a:(D.any λG=>decide (G.1=k))=true
 .rw[Uo a,wX];rw[kD]at a;by_cases e:j=k
  .obtain⟨x,J⟩:=Sb.mp a;rw[Uo e,e,J,RT,Uo rfl]
  rw[Uk e];cases bX D j with
  |none=>rfl
  |some x=>rw[RT,Uk e]
 rw[Uk a];refine t6 k j y D ?_;rw[kD]at a;cases q:bX D k with
 |none=>rfl
 |some x=>rw[q]at a;exact(a rfl).elim
theorem fY(D:List (κ×V))(k:κ)(v:V):(putK D k v).length<=D.length+1:=by
 unfold putK
 split
 .rw[OH];omega
 rw[OQ,Ph,Qn];omega
theorem CL{D:List (κ×V)}{k:κ}(v:V)(h:bX D k=none):putK D k v=D++[(k,v)]:=by
 unfold putK;rw[kD,h];exact Uk (by decide)
theorem sQ.jh{o:Option V}{u:Option Uj}(r:sQ o u):o.isSome=u.isSome:=by
 cases o with
 |none=>cases u with
  |none=>rfl
  |some _=>exact(show False from r).elim
 |some _=>cases u with
  |none=>exact(show False from r).elim
  |some _=>rfl
theorem KV.val{D:List (κ×V)}{O:List (κ×Uj)}(r:KV D O)(k:κ):sQ (bX D k) (Xb O k):=by
 unfold KV at r
 induction r with
 |nil=>exact True.intro
 | @cons p q ps G h t Z =>
  obtain⟨U,h2⟩:=h;by_cases e:p.1=k
  .have J:q.1=k:=U.symm.trans e;have b:Xb (q::G) k=Ya q.2:=by simp[Xb,Qr,J]
   rw[eK e,b];exact h2
  have J:¬q.1=k:=λz=>e (U.trans z);have b:Xb (q::G) k=Xb G k:=by simp[Xb,Qr,J]
  rw[dZ e,b];exact Z
theorem KV.any{D:List (κ×V)}{J:List (κ×Uj)}(r:KV D J)(k:κ):(D.any λG=>decide (G.1=k))=J.any λG=>decide (G.1=k):=by
 unfold KV at r
 induction r with
 |nil=>rfl
 |cons h t O=>rw[Rv,Rv,O,h.1]
theorem KV.ID{G:List (κ×V)}{O:List (κ×Uj)}(r:KV G O)(k:κ){y:V}{u:Uj}(U:RelV y u) :
  KV (G.map λD=>if D.1=k then(D.1,y)else D) (O.map λD=>if D.1=k then(D.1,u)else D):=by
 unfold KV at r⊢
 induction r with
 |nil=>exact .nil
 | @cons p q ps qs h t Z =>
  rw[Po,Po];refine .cons ?_ Z;obtain⟨J,h2⟩:=h;by_cases e:p.1=k
  .rw[Uo e,Uo (J.symm.trans e)];exact⟨J,U⟩
  rw[Uk e,Uk (λz=>e (J.trans z))];exact⟨J,h2⟩
theorem KV.put{D:List (κ×V)}{G:List (κ×Uj)}(r:KV D G)(k:κ){y:V}{u:Uj}(J:RelV y u):KV (putK D k y) (stored G k u):=by
 unfold putK stored;rw[r.any k];by_cases e:(G.any λO=>decide (O.1=k))=true
 .rw[Uo e,Uo e];exact r.ID k J
 rw[Uk e,Uk e];exact Paired.snoc r ⟨rfl,J⟩
theorem KV.length{D:List (κ×V)}{G:List (κ×Uj)}(r:KV D G):D.length=G.length:=Paired.length r
end
theorem Ag{P:Ux}{w:UA}{k:Key}{u:Uj}(r:RelV (kV k) u):(bG P w).is k u=true:=by
 cases k with
 |inl i=>obtain⟨t,e⟩:=(show∃t,u=Value.int i t from r);subst e;exact wQ P w i t
 |inr x=>obtain⟨t,e⟩:=(show∃t,u=Value.str x t from r);subst e;exact wR P w x t
theorem t7{P:Ux}{w:UA}:∀{ks:List Key}{D:List Uj},Vals (ks.map kV) D->ItemsAre (bG P w) ks D
 |[],_,r=>by rw[Sv]at r;cases r;exact .nil
 |k::ks,_,r=>by
  rw[Po]at r;cases r with
  |cons h t=>exact .cons (Ag h) (t7 t)
abbrev KT(H:Hp):List (List Key×V)->List (List Key×Um×Uj)->Prop:=Paired λp q=>p.1=q.1/\H q.2.1=Ya (.tup (p.1.map kV))/\RelV p.2 q.2.2
theorem KT.val{H:Hp}{D:List (List Key×V)}{xs:List (List Key×Um×Uj)}(r:KT H D xs)(k:List Key):sQ (bX D k) ((atKey xs k).map (·.2)):=by
 induction r with
 |nil=>exact True.intro
 | @cons p q ps G h t U =>
  obtain⟨O,_,Z⟩:=h;by_cases e:p.1=k
  .have J:q.1=k:=O.symm.trans e;have b:atKey (q::G) k=Ya q.2:=by simp[atKey,Qr,J]
   rw[eK e,b];exact Z
  have J:¬q.1=k:=λz=>e (O.trans z);have b:atKey (q::G) k=atKey G k:=by simp[atKey,Qr,J]
  rw[dZ e,b];exact U
theorem KT.ID{H:Hp}{D:List (List Key×V)}{xs:List (List Key×Um×Uj)}(r:KT H D xs)(k:List Key){y:V}{u:Uj}(U:RelV y u) :
  KT H (D.map λJ=>if J.1=k then(J.1,y)else J) (xs.map (putAt k u)):=by
 induction r with
 |nil=>exact .nil
 | @cons p q ps qs h t Z =>
  rw[Po,Po];refine .cons ?_ Z;obtain⟨G,O,h3⟩:=h;unfold putAt;by_cases e:p.1=k
  .rw[Uo e,Uo (G.symm.trans e)];exact⟨G,O,U⟩
  rw[Uk e,Uk (λz=>e (G.trans z))];exact⟨G,O,h3⟩
theorem KT.put{H:Hp}{D:List (List Key×V)}{xs:List (List Key×Um×Uj)}(r:KT H D xs)(k:List Key){b:Um}{y:V}{u:Uj}(J:H b=Ya (.tup (k.map kV)))(G:RelV y u) :
  KT H (putK D k y) (VN xs k b u):=by
 have e:(D.any λO=>decide (O.1=k))=(atKey xs k).isSome:=by
  rw[kD,(r.val k).jh,QW]
 unfold putK VN;rw[e];by_cases q:(atKey xs k).isSome=true
 .rw[Uo q,Uo q];exact r.ID k G
 rw[Uk q,Uk q];exact Paired.snoc r ⟨rfl,J,G⟩
theorem KT.keeps{H H':Hp}{D:List (List Key×V)}{xs:List (List Key×Um×Uj)}(r:KT H D xs)(J:∀b G,H b=Ya (.tup G)->H' b=Ya (.tup G)):KT H' D xs :=
 Paired.Fw r λ_ _ z=>⟨z.1,J _ _ z.2.1,z.2.2⟩
section
variable {P:Ux}{w:UA}{H:Hp}{h:UH}{a:Um}
theorem Hs{u:HO}(ok:md P w H h)(e:Rd H a u):cQ P w H h a u:=e.ok ok
theorem Ht{D:List (Key×V)}(ok:md P w H h)(e:Rd H a (.dK D)):D.length<=Uu/\(a==U0)=false/\∃G,KV D G/\h.DictOf (bG P w) a G :=
 show cQ P w H h a (.dK D)from Hs ok e
theorem Lh{D:List (Key×V)}(ok:md P w H h)(e:H a=Ya (.dK D)):D.length<=Uu/\(a==U0)=false/\∃G,KV D G/\h.DictOf (bG P w) a G:=Ht ok (.inl e)
theorem qV{ks:List Key}(ok:md P w H h)(e:H a=Ya (.tup (ks.map kV))):(VJ (bG P w)).is h ks a:=by
 obtain⟨_,its,r,o,D,G,n,J⟩:=(show cQ P w H h a (.tup (ks.map kV))from ok a _ e)
 exact⟨o,its.toArray,n,D,G,J,by simpa using t7 r⟩
theorem Hu{D:List (List Key×V)}(ok:md P w H h)(e:Rd H a (.dT D)):D.length<=Uu/\(a==U0)=false /\
  ∃xs,KT H D xs/\h.DictOfH (VJ (bG P w)) a xs:=by
 obtain⟨z,y,xs,r,o,es,ep,O,U,Z,h4,h5⟩:=(show cQ P w H h a (.dT D)from Hs ok e)
 refine⟨z,y,xs,r,o,es,ep,O,U,Z,h4,λx G=>?_,h5⟩;have all:∀{l:List (List Key×V)}{m:List (List Key×Um×Uj)},KT H l m->∀x∈m,(VJ (bG P w)).is h x.1 x.2.1:=by
  intro l m q
  induction q with
  |nil=>intro x G;exact nomatch G
  | @cons p q ps qs J t ih =>
   intro x G;rcases Pa.mp G with e|G
   .subst e;exact qV ok (by rw[<-J.1];exact J.2.1)
   exact ih x G
 exact all r x G
theorem Ah {D : List (List Key × V)}(ok : md P w H h)(e : H a=Ya (.dT D)) : D.length <= Uu /\ (a == U0)=false /\
    ∃xs,KT H D xs/\h.DictOfH (VJ (bG P w)) a xs:=Hu ok (.inl e)
end
def wY(H:Hp)(a:Um)(y:V)(r:Option V):Prop :=
 (∃D k,Rd H a (.dK D)/\y=kV k/\r=bX D k)\/∃D k b,Rd H a (.dT D)/\y=.ref b/\H b=Ya (.tup (k.map kV))/\r=bX D k
def sS(H:Hp)(a:Um)(y v:V)(H':Hp):Prop :=
 (∃D k,H a=Ya (.dK D)/\y=kV k/\D.length<Uu/\H'=upd H a (.dK (putK D k v))) \/
 ∃D k b,H a=Ya (.dT D)/\y=.ref b/\H b=Ya (.tup (k.map kV))/\D.length<Uu/\H'=upd H a (.dT (putK D k v))
theorem wY.k{H:Hp}{a:Um}{D:List (Key×V)}{k:Key}(e:H a=Ya (.dK D)):wY H a (kV k) (bX D k):=.inl ⟨D,k,.inl e,rfl,rfl⟩
theorem sS.k{H:Hp}{a:Um}{D:List (Key×V)}{k:Key}{v:V}(e:H a=Ya (.dK D))(G:D.length<Uu):sS H a (kV k) v (upd H a (.dK (putK D k v))):=.inl ⟨D,k,e,rfl,G,rfl⟩
theorem sS.t {H : Hp}{a b : Um}{D : List (List Key × V)}{k : List Key}{v : V}(e : H a=Ya (.dT D))(G : H b=Ya (.tup (k.map kV)))(J : D.length<Uu) :
    sS H a (.ref b) v (upd H a (.dT (putK D k v))):= .inr ⟨D,k,b,e,rfl,G,J,rfl⟩
section
variable {X:Cx}{pins:List (Um×U6)}{σ:St}{H:Hp}{s:Uq}{a:Um}{y v:V}{u r:Uj}{o:Option V}{A:UG}{E:Uj->Uq->Prop}
theorem Inv.big(I:Inv X pins σ H s):U0<s.heap.objs.size:=by
 have h:UT<s.heap.objs.size:=(I.mod.glob.keeps I.bk).lt;exact Nat.lt_trans (by decide) h
theorem FP{Q:Uj->Uq->Prop}(U:A.units+1<cLine)(I:Inv X pins σ H s)(g:wY H a y o)(O:RelV y u)(h:∀s',Inv X pins σ H s'->Q (.bool (!o.isSome)) s') :
  wpAny (model X.prog X.w) A (UQ .NotIn u (.ref a)) Q E s:=by
 rcases g with⟨G,k,e,J,l⟩|⟨G,k,b,e,J,V,l⟩
 .subst J;obtain⟨z,hd,Z,D,dd⟩:=Ht I.bM e;refine wpAny_notIn_of (Ag O) hd dd.mapOf ?_;rw[<-(D.val k).jh,<-l];exact h _ (I.tok _)
 subst J;cases(show u=Value.ref b from O);obtain⟨z,hd,xs,D,dd⟩:=Hu I.bM e;refine wpAny_notIn_heap (V0 U) (qV I.bM V) hd dd ?_;have q:=(D.val k).jh;rw[QW]at q;rw[<-q,<-l];exact h _ (I.tok _)
theorem m7{h':UH}{t':Nat}{ob:HO}(I:Inv X pins σ H s)(G:KR (H a))(hs:Heap.SameBut a s.heap h')(J:∃q,h'.get? a=Ya q)(D:cQ X.prog X.w (upd H a ob) h' a ob) :
  Inv X pins σ (upd H a ob) { s with heap:=h',toks:=t' }:=
 I.write (x:=a) (e:=a) G (.inl rfl) (λb q O z=>(hs.2 b O).trans z) J D
theorem IE {P : Ux}{w : UA}{H' : Hp}{h' : UH}{D : List (Key × V)}{G : List (Key × Uj)}(z : D.length <= Uu)(hd : (a == U0)=false)(J : KV D G)(dd : h'.DictOf (bG P w) a G) :
    cQ P w H' h' a (.dK D):= ⟨z,hd,G,J,dd⟩
theorem Bk{H':Hp}{Q:Unit->Uq->Prop}(hu:A.units+1<cLine)(I:Inv X pins σ H s)(g:sS H a y v H')(ry:RelV y u)(rv:RelV v r)(h:∀s',Inv X pins σ H' s'->Q () s') :
  wpAny (model X.prog X.w) A (XR (.ref a) u r) Q E s:=by
 rcases g with⟨D,k,e,U,l,V⟩|⟨D,k,b,e,U,eb,l,V⟩
 .subst U V;obtain⟨z,hd,vs,G,dd⟩:=Lh I.bM e;have hz:vs.length<=sizeLine:=by rw[<-G.length];exact z
  have Z:(putK D k v).length<=sizeLine:=by have:=fY D k v;omega
  refine wpAny_setItem_pairs (hsz:=hz) (Ag ry) dd λh' J hs=>h _ ?_;have he:∃q,h'.get? a=Ya q:=let⟨q,_,_,O,_⟩:=J;⟨q,O⟩
  exact m7 I (by rw[e];exact True.intro) hs he (IE Z hd (G.put k rv) J)
 subst U V;cases(show u=Value.ref b from ry);obtain⟨z,hd,xs,G,dd⟩:=Ah I.bM e;have hz:xs.length<=sizeLine:=by rw[<-Paired.length G];exact z
 have Z:(putK D k v).length<=sizeLine:=by have:=fY D k v;omega
 refine WZ (hsz:=hz) (V0 hu) (qV I.bM eb) dd λh' J hs=>h _ ?_;obtain⟨q,es,ep,O,h2,h3,h4,_,h5⟩:=J;refine m7 I (by rw[e];exact True.intro) hs ⟨q,O⟩ ⟨Z,hd,_,(G.put k eb rv).keeps λc ys ec=>?_,q,es,ep,O,h2,h3,h4,h5⟩;rw[aG (Cu ec e (λz=>nomatch z))];exact ec
end
def Li(i:UL):Prop:=∀D G,WE i false D G=operate [D,G] (Wi D G)
theorem FQ{prog:Ux}{w:UA}{A:UG}{E:Uj->Uq->Prop}{s:Uq}{env:WT}{value slice:UL}{pos:VL}{T id:String}{Q:Uj->Uq->Prop}
  (hl:Xz (.type T) "__getitem__" = pure (Ya (.builtin id))) (hs:Li slice)
  (h:wpAny (model prog w) A (eval value env) (λo J=>wpAny (model prog w) A (eval slice env) (λi D=>D.TypeIs o T/\wpAny (model prog w) A (Wi o i) Q E D) E J) E s) :
  wpAny (model prog w) A (eval (.Subscript value slice pos) env) Q E s:=by
 refine W0 (UX h (λo J U=>UX U (λi D G=>?_) λ_ _ x=>x) λ_ _ x=>x);obtain⟨Z,G⟩:=G;unfold Wa;refine Uh ?_;rw[getitemInPython_of_ne Z.not_modules];refine Uh (Vl Z hl ?_);have fin:wpAny (model prog w) A (WE slice false o i) (λr O=>wpAny (model prog w) A (letTemporaryGo value o r >>= λ_=>pure r) Q E O) E D:=by
  rw[hs o i];exact wpAny_operating (UX G (λr O V=>Uh (wpAny_letTemporaryGo (Ur V))) λ_ _ x=>x)
 first
  |exact Ur (Uh fin)
  |exact Uh (Ur (Uh fin))
  |exact Uh fin
def FT(ty G:TE):TE:=λσ H Q=>ty σ H λy J=>G σ J λx D=>∃a o,x=.ref a/\wY D a y o/\Q (.bl (!o.isSome)) D
def Lj(J ty O:TE):TS:=λD σ H=>O σ H λv U=>J σ U λx V=>ty σ V λy Z=>∃a G,x=.ref a/\sS Z a y v G/\D.nx σ G
section
variable {X:Cx}{o i e value:UL}{pos pos' Ov:VL}{td ty tv:TE}
theorem lD(D:X.A.units+1<cLine)(G:PE X i ty)(J:PE X o td):PC X .NotIn i o (FT ty td):=by
 intro pins s σ H Q I h;refine cL (G pins s σ H _ I h) λiv O ⟨y,U,V,Z,q1⟩=>cL (J pins O σ U _ V q1) λu s2 zq=>?_;obtain⟨x,H2,I2,rx,a,ov,ex,g,q2⟩:=zq;subst ex;obtain rfl:u=Value.ref a:=rx;exact FP D I2 g Z λs3 I3=>⟨.bl (!ov.isSome),H2,I3,rfl,q2⟩
theorem qv(G:X.A.units+1<cLine)(J:PE X o td)(O:PE X i ty)(U:PE X value tv)(hs:We value (Ya (.Subscript o i pos')) pos.line X.env=pure false) :
  PS X (.Assign [.Subscript o i pos'] value pos) (Lj td ty tv):=by
 intro pins s σ H D I h;refine Wj (cL (U pins s σ H _ I h) λr V ⟨v,Z,I1,rv,q1⟩=>cL (J pins V σ Z _ I1 q1) λu s2 ⟨x,H2,I2,rx,q2⟩=>cL (O pins s2 σ H2 _ I2 q2) λiv s3 zq=>?_) hs;obtain⟨y,H3,I3,ry,a,H4,ex,g,q3⟩:=zq;subst ex;obtain rfl:u=Value.ref a:=rx;exact Bk G I3 g ry rv λs4 I4=>⟨σ,H4,I4,q3⟩
end
theorem CM{P:Ux}{w:UA}{H:Hp}(h:UH)(D:U0<h.objs.size):cQ P w H (h.push { cls:=.type "dict",data:=.dict #[] }) h.objs.size (.dK []):=
 ⟨PH _,beq_eq_false_iff_ne.mpr (Ne.symm (Pd D)),[],.nil,Heap.DictOf.new h⟩
theorem wZ{P:Ux}{w:UA}{H:Hp}(h:UH)(D:U0<h.objs.size):cQ P w H (h.push { cls:=.type "dict",data:=.dict #[] }) h.objs.size (.dT []):=
 ⟨PH _,beq_eq_false_iff_ne.mpr (Ne.symm (Pd D)),[],.nil,_,#[],0,O6 _ rfl,⟨rfl,rfl,rfl⟩,rfl,rfl,RF⟩
def IF:TE:=λ_ H Q=>∀p,H p=none->Q (.ref p) (upd H p (.dK []))
def IG:TE:=λ_ H Q=>∀p,H p=none->Q (.ref p) (upd H p (.dT []))
section
variable {X:Cx}{pos:VL}
theorem qW:PE X (.Dict [] [] pos) IF:=λpins s σ H Q I h =>
 Wf ⟨.ref s.heap.objs.size,_,I.laid (a:=s.heap.objs.size) (o:=.dK []) (t':=s.toks) (λ_ _ q=>OM _ q) (ON _) (CM s.heap I.big),rfl,h _ (I.bM.fresh (ON _))⟩
theorem CO:PE X (.Dict [] [] pos) IG:=λpins s σ H Q I h =>
 Wf ⟨.ref s.heap.objs.size,_,I.laid (a:=s.heap.objs.size) (o:=.dT []) (t':=s.toks) (λ_ _ q=>OM _ q) (ON _) (wZ s.heap I.big),rfl,h _ (I.bM.fresh (ON _))⟩
end
noncomputable def CP:List (TE×TE)->St->Hp->(List (V×V)->Hp->Prop)->Prop
 |[],_,H,Q=>Q [] H
 |(tk,D)::r,σ,H,Q=>tk σ H λx G=>D σ G λy J=>CP r σ J λO U=>Q ((x,y)::O) U
abbrev VV:List (V×V)->List (Uj×Uj)->Prop:=Paired λp q=>RelV p.1 q.1/\RelV p.2 q.2
def Ow(X:Cx)(pos:VL)(keys:List (Option UL))(values:List UL)(D:List (TE×TE)):Prop :=
 ∀(pins:List (Um×U6)) (s:Uq) (σ:St) (H:Hp) (Q:List (V×V)->Hp->Prop),Inv X pins σ H s->CP D σ H Q ->
  wpAny (model X.prog X.w) X.A (evalPairs (pairTrees keys values X.env pos)) (λJ s'=>∃G H',Inv X pins σ H' s'/\VV G J/\Q G H') X.xe s
theorem FU{X:Cx}{pos:VL}:Ow X pos [] [] []:=λpins s σ H Q I h=>pairTrees_nil_walk ⟨[],H,I,.nil,h⟩
theorem CQ{X:Cx}{pos:VL}{k v:UL}{ks:List (Option UL)}{J:List UL}{tk O:TE}{D:List (TE×TE)}(U:PE X k tk)(V:PE X v O)(Z:Ow X pos ks J D) :
  Ow X pos (Ya k::ks) (v::J) ((tk,O)::D):=λpins s σ H Q I h =>
 pairTrees_cons_walk (cL (U pins s σ H _ I h) λu s1 ⟨x,H1,I1,rx,q1⟩=>cL (V pins s1 σ H1 _ I1 q1) λw2 s2 ⟨y,H2,I2,ry,q2⟩ =>
  cL (Z pins s2 σ H2 _ I2 q2) λws s3 ⟨ps,H3,I3,G,q3⟩=>⟨(x,y)::ps,H3,I3,.cons ⟨rx,ry⟩ G,q3⟩)
end L2
namespace HT
open PySem PyProof.Rows
noncomputable def lexLt:List Int->List Int->Bool
 |[],[]=>false
 |[],_::_=>true
 |_::_,[]=>false
 |x::xs,y::D=>if x=y then lexLt xs D else decide (x<y)
theorem mE(x y:Int)(xs D:List Int):lexLt (x::xs) (y::D)=if x=y then lexLt xs D else decide (x<y):=rfl
theorem mf:lexLt [] []=false:=rfl
theorem qX(y:Int)(D:List Int):lexLt [] (y::D)=true:=rfl
theorem qY(x:Int)(xs:List Int):lexLt (x::xs) []=false:=rfl
theorem CS(A:UG)(s:Uq)(a:Int)(t:XJ)(c:Int)(u:XJ):∃e,SeqAt.EqAt A s (.int a t) (.int c u) e/\(e=true↔a=c):=
 ⟨(a==c),SeqAt.EqAt.int_int a t c u,by simp⟩
theorem CV(A:UG)(s:Uq)(a:Int)(t:XJ)(c:Int)(u:XJ)(prog:Ux)(w:UA)(E:Uj->Uq->Prop)(Q:Uj->Uq->Prop)(h:Q (.bool (decide (a<c))) s) :
  wpAny (model prog w) A (VQ .Lt (.int a t) (.int c u)) Q E s :=
 (Ua h:wpAny (model prog w) A (UQ .Lt (.int a t) (.int c u)) Q E s)
section
open PySem.SeqAt
open PySem.AutoSeq1 (wpAny_loadPart')
open PySem.MeetsSeq PySem.MeetsSeq2 PySem.MeetsSeq3
theorem sT(l b:Um)(items D:Array Uj)(n n2:Nat)(dd dd2:Option Um)(sl sl2:Array (Option Uj))(ns ms:List Int)(hi:Vb items.toList ns)(hj:Vb D.toList ms) :
  Meets (Builtin.«tuple.__lt__» ⟨[.ref l,.ref b],[]⟩)
   (λ_ R s=>s.heap.get? l=Ya { cls:=.type "tuple",dict:=dd,data:=.seq items n,slots:=sl }/\s.heap.get? b=Ya { cls:=.type "tuple",dict:=dd2,data:=.seq D n2,slots:=sl2 } /\
    R (.ok (.ret (.bool (lexLt ns ms)))) s):=
 .of_wp λprog w A R s h=>by
  obtain⟨hp,g,d,tk,os⟩:=s;obtain⟨hl,hb,h⟩:=h;have f2:=AutoSeq1.sub_tuple_tuple;have z1:items.size=ns.length:=by rw[<-hi.length];simp
  have z2:D.size=ms.length:=by rw[<-hj.length];simp
  wp_walk using UK hl,UK hb,Vf _ (λrest b s'=>b.1=none/\s'=⟨hp,g,d,tk,os⟩/\∃(vs ws:List Uj) (G J:List Int),rest=vs.zip ws /\
   Vb vs G/\Vb ws J/\G.length+D.size=J.length+items.size/\R (.ok (.ret (.bool (lexLt G J)))) ⟨hp,g,d,tk,os⟩) _
  case turn =>
   rintro⟨y,x⟩ rest b s' ⟨Z,rfl,vs,ws,G,J,hz,Ox,O,hlen,U⟩;cases Ox with
   |nil=>rw[List.zip_nil_left]at hz;cases hz
   |cons a t Oy =>
    cases O with
    |nil=>rw[List.zip_nil_right]at hz;cases hz
    |cons c u Oz =>
     rw[RZ]at hz;injection hz with hyx CW;injection hyx with hy hx;subst hy hx;rw[mE]at U;simp only[Ph]at hlen;obtain⟨e,he,V⟩:=CS A.in1 ⟨hp,g,d,tk,os⟩ a t c u;refine Uh (he prog w _ _ ?_);cases e with
     |true =>
      rw[Uo (V.mp rfl)]at U
      wp_walk
      exact⟨rfl,rfl,_,_,_,_,CW,Oy,Oz,by omega,U⟩
     |false =>
      rw[Uk (λq=>Us (V.mpr q) O2)]at U;have hri:=CV A.in1 ⟨hp,g,d,tk,os⟩ a t c u prog w
      wp_walk using hri
      exact⟨_,rfl,by simpa using U⟩
  case fin =>
   rintro⟨b1,b2⟩ s' ⟨Z,rfl,vs,ws,G,J,hz,Ox,O,hlen,U⟩;simp only at Z;subst Z;have hv:lexLt G J=decide (items.size<D.size):=by
    cases Ox with
    |nil =>
     cases O with
     |nil =>
      simp only[Qn]at hlen;rw[mf];exact(Up (by omega)).symm
     |cons c u hw =>
      simp only[Qn,Ph]at hlen;rw[qX];exact(Ul (by omega)).symm
    |cons a t hv =>
     cases O with
     |nil =>
      simp only[Qn,Ph]at hlen;rw[qY];exact(Up (by omega)).symm
     |cons c u hw =>
      rw[RZ]at hz;cases hz
   rw[hv]at U
   wp_walk
   exact⟨_,rfl,by simpa[Builtin.Tuple.tupleCompareSizes]using U⟩
  case h =>
   exact⟨rfl,rfl,items.toList,D.toList,ns,ms,rfl,hi,hj,by omega,h⟩
end
section
variable {prog:Ux}{w:UA}{A:UG}{E:Uj->Uq->Prop}{s:Uq}
theorem yJ{l b:Um}{items D:Array Uj}{ns ms:List Int}{Q:Uj->Uq->Prop}(hl:XM s.heap l items)(hb:XM s.heap b D)(hi:Vb items.toList ns)(hj:Vb D.toList ms)
  (hu:A.units<cLine) (h:Q (.bool (lexLt ns ms)) s):wpAny (model prog w) A (UQ .Lt (.ref l) (.ref b)) Q E s:=by
 obtain⟨⟨cls,dd,data,sl⟩,Z,hc,n,hd⟩:=id hl;obtain⟨⟨Lk,U,data2,V⟩,G,J,n2,O⟩:=id hb;simp only at hc hd J O;subst hc hd J O;exact Wk (op:=.Lt) ⟨_,Z,rfl⟩ ⟨_,G,rfl⟩ PySem.F.slot_tuple_lt PySem.F.entry_tuple_lt (PySem.F.args_tuple_lt_2 _ _) (sT l b items D n n2 dd U sl V ns ms hi hj)
  ⟨Z,G,show Value.bool (lexLt ns ms)≠Value.notImplemented/\Q (.bool (lexLt ns ms)) s from⟨(λx=>nomatch x),h⟩⟩ hu
theorem FV{t b:Um}{J D:List Uj}{Q:Uj->Uq->Prop}(ht:XM s.heap t J.toArray)(hb:XM s.heap b D.toArray)(hv:J≠[])
  (h1:D=[]->Q (.ref t) s) (h2:D≠[]->Q (.ref s.heap.objs.size) { s with heap:=s.heap.push { cls:=.type "tuple",data:=.seq (J++D).toArray } })
  (hsz:J.length+D.length<=Uu):wpAny (model prog w) A (Vu .Add (.ref t) (.ref b)) Q E s:=by
 obtain⟨⟨cls,dd,data,sl⟩,ho,hc,n,hd⟩:=id ht;obtain⟨⟨Lk,O,data2,U⟩,G,V,n2,Z⟩:=id hb;simp only at hc hd V Z;subst hc hd V Z;have e:J.toArray++D.toArray=(J++D).toArray:=by simp
 by_cases hw:D=[]
 .exact Xc ⟨_,ho,rfl⟩ ⟨_,G,rfl⟩ Wg WV RB Rw (Rt _ _)
   (tuple_addW1 t b J.toArray D.toArray n n2 dd O sl U (by simpa using hv) (by simp[hw])) ⟨ho,G,h1 hw⟩
 refine Xc ⟨_,ho,rfl⟩ ⟨_,G,rfl⟩ Wg WV RB Rw (Rt _ _)
  (tuple_addW2 t b J.toArray D.toArray n n2 dd O sl U (by simpa using hv) (by simpa using hw) (by rw[OT,OT];exact hsz)) ⟨ho,G,?_⟩
 rw[e];exact h2 hw
noncomputable def yK(n d:Nat):Option Int->Nat
 |none=>d
 |some v=>if v<0 then(v+(n:Int)).toNat else min v.toNat n
end
end HT
namespace L2
open PySem PySem.Spec PyProof.Rows
noncomputable abbrev TO:=St->Hp->(Option Int->Hp->Prop)->Prop
def PO(X:Cx)(e:Option UL)(t:TO):Prop :=
 ∀(pins:List (Um×U6)) (s:Uq) (σ:St) (H:Hp) (Q:Option Int->Hp->Prop),Inv X pins σ H s->t σ H Q ->
  wpAny (model X.prog X.w) X.A (evalPart e X.env) (λu s'=>∃o H',Inv X pins σ H' s'/\IsPart u o/\Q o H') X.xe s
noncomputable def FW:TO:=λ_ H Q=>Q none H
noncomputable def Ll(t:TE):TO:=λσ H Q=>t σ H λx D=>∃i,x=.int i/\Q (Ya i) D
theorem intsAre_of{ns:List Int}:∀{D:List Uj},Vals (ns.map V.int) D->Vb D ns:=by
 induction ns with
 |nil=>intro D r;rw[Sv]at r;cases r;exact .nil
 |cons n ns G =>
  intro D r;rw[Po]at r;cases r with
  |cons J O =>
   obtain⟨t,e⟩:=J;subst e;exact .cons n t (G O)
section
variable {X:Cx}{e:UL}{te:TE}{lo hi:Option UL}{tl th:TO}{pos p2:VL}
theorem FX:PO X none FW:=by
 intro pins s σ H Q I h;rw[WW];exact Ur ⟨none,H,I,.none,h⟩
theorem uU(h:PE X e te):PO X (Ya e) (Ll te):=by
 intro pins s σ H Q I hw;rw[WX];refine cL (h pins s σ H _ I hw) λu V D=>?_;obtain⟨x,G,J,O,U⟩:=D;obtain⟨i,rfl,q⟩:=U;obtain⟨t,rfl⟩:=O;exact⟨Ya i,G,J,.int i t,q⟩
def SlR(X:Cx)(r:V->Option Int->Option Int->Hp->VK->Prop):Prop :=
 ∀(pins:List (Um×U6)) (s:Uq) (σ:St) (H:Hp) (x:V) (v D G:Uj) (lo hi:Option Int) (J:Um) (Q:VK),Inv X pins σ H s->RelV x v->s.heap.IsSliceOf J D G .none->IsPart D lo->IsPart G hi->r x lo hi H Q ->
  ∃T id,Xz (.type T) "__getitem__" = pure (Ya (.builtin id))/\s.TypeIs v T/\wpAny (model X.prog X.w) X.A (Wi v (.ref J)) (EP X pins σ Q) X.xe s
def tSl(r:V->Option Int->Option Int->Hp->VK->Prop)(te:TE)(tl th:TO):TE:=λσ H Q=>te σ H λx D=>tl σ D λl G=>th σ G λu J=>r x l u J Q
theorem w6{r:V->Option Int->Option Int->Hp->VK->Prop}(Z:SlR X r)(he:PE X e te)(hl:PO X lo tl)(hu:PO X hi th):PE X (.Subscript e (.Slice lo hi none p2) pos) (tSl r te tl th):=by
 intro pins s σ H Q I h;refine W0 (cL (he pins s σ H _ I h) λv s1 O=>?_);obtain⟨x,H1,I1,r1,q1⟩:=O;refine wpAny_Slice (cL (hl pins s1 σ H1 _ I1 q1) λG s2 ⟨l,H2,I2,pl,q2⟩=>cL (hu pins s2 σ H2 _ I2 q2) λJ D O=>?_);obtain⟨u,U,I3,pu,q3⟩:=O;rw[WW];refine Ur ?_;have I4:Inv X pins σ U { D with heap:=D.heap.push { cls:=.type "slice",data:=.fields #[G,J,.none] } }:=I3.kept (t':=D.toks) λb ob q=>OM _ q;obtain⟨T,id,hT,ht,hg⟩:=Z pins { D with heap:=D.heap.push { cls:=.type "slice",data:=.fields #[G,J,.none] } } σ U x v G J l u D.heap.objs.size Q I4 r1 (Heap.IsSliceOf.new ..) pl pu q3;show wpAny (model X.prog X.w) X.A (Wa e (.Slice lo hi none p2) v (.ref D.heap.objs.size)) (EP X pins σ Q) X.xe { D with heap:=D.heap.push { cls:=.type "slice",data:=.fields #[G,J,.none] } };exact tail_any (ops:=[.ref D.heap.objs.size,v]) ht hT hg (by with_unfolding_all rfl)
noncomputable def Bm(xs:List V)(lo hi:Option Int):List V:=(xs.drop (HT.yK xs.length 0 lo)).take (HT.yK xs.length xs.length hi-HT.yK xs.length 0 lo)
theorem pz(xs:List V)(lo hi:Option Int):(Bm xs lo hi).length<=xs.length:=by
 unfold Bm;rw[Pu,Q4];omega
def Lm(K:OJ):R2:=λx y H Q=>∃a b ns ms,x=.ref a/\y=.ref b/\br K H a (ns.map V.int)/\br K H b (ms.map V.int)/\Q (.bl (HT.lexLt ns ms)) H
theorem IH(G:X.A.units<cLine):kl X (UQ .Lt) (Lm X.K):=by
 intro pins s σ H x y v u Q I J O h;obtain⟨a,b,ns,ms,rfl,rfl,U,V,q⟩:=h;cases J;cases O;obtain⟨its,Z,p1,_⟩:=I.tuple U;obtain⟨D,r2,p2,_⟩:=I.tuple V;have i1:Vb its.toArray.toList ns:=intsAre_of Z;have i2:Vb D.toArray.toList ms:=intsAre_of r2;exact HT.yJ p1 p2 i1 i2 G ⟨.bl (HT.lexLt ns ms),H,I,rfl,q⟩
def Ln(K:OJ):R2:=λx y H Q=>∃a b xs D,x=.ref a/\y=.ref b/\br K H a xs/\br K H b D/\xs≠[]/\xs.length+D.length<=Uu /\
 (D=[]->Q (.ref a) H)/\(D≠[]->∀p,H p=none->Q (.ref p) (upd H p (.tup (xs++D))))
theorem Vals.qw{xs:List V}{D:List Uj}(r:Vals xs D):D=[]↔xs=[]:=by
 cases r with
 |nil=>simp
 |cons _ _=>simp
theorem FY:kl X (Vu .Add) (Ln X.K):=by
 intro pins s σ H x y v u Q I O U h;obtain⟨a,b,xs,V,rfl,rfl,Z,hb,hx,hz,q1,q2⟩:=h;cases O;cases U;obtain⟨its,G,p1,_⟩:=I.tuple Z;obtain⟨J,D,p2,_⟩:=I.tuple hb;refine HT.FV p1 p2 (λz=>hx (G.qw.mp z)) (λz=>⟨.ref a,H,I,rfl,q1 (D.qw.mp z)⟩) (λz=>?_) (by rw[<-G.length,<-D.length];exact hz);refine⟨.ref s.heap.objs.size,_,I.laid (t':=s.toks) (o:=.tup (xs++V)) (λb ob q=>OM _ q) (ON _) ?_,rfl,q2 (λw=>z (D.qw.mpr w)) _ (I.bM.fresh (ON _))⟩;exact⟨by rw[OQ];exact hz,_,G.append D,IsTup.new _ _⟩
end
noncomputable def CY(n:Nat)(i:Int):Option Nat:=if 0<=i then(if i<n then some i.toNat else none)else if -(n:Int)<=i then some (i+n).toNat else none
noncomputable def uV{α:Type}(xs:List α)(i:Int):Option α:=(CY xs.length i).bind λj=>xs[j]?
theorem Ai{n:Nat}{i:Int}{j:Nat}(h:CY n i=Ya j):seqIndex? i n=Ya j/\j<n/\-(n:Int)<=i/\i<n:=by
 unfold CY at h;by_cases G:0<=i
 .rw[Uo G]at h;by_cases D:i<n
  .rw[Uo D]at h;have e:i.toNat=j:=Option.some.inj h;exact⟨by rw[Xs G D,e],by omega,by omega,D⟩
  rw[Uk D]at h;cases h
 rw[Uk G]at h;by_cases D:-(n:Int)<=i
 .rw[Uo D]at h;have e:(i+n).toNat=j:=Option.some.inj h;exact⟨by rw[Xd (by omega) D,e],by omega,D,by omega⟩
 rw[Uk D]at h;cases h
theorem Aj{α:Type}{xs:List α}{i:Int}{v:α}(h:uV xs i=Ya v):∃j,seqIndex? i xs.length=Ya j/\xs[j]?=Ya v/\j<xs.length/\-(xs.length:Int)<=i/\i<xs.length:=by
 unfold uV at h;cases e:CY xs.length i with
 |none=>rw[e]at h;cases h
 |some j =>
  rw[e]at h;obtain⟨D,G,J,O⟩:=Ai e;exact⟨j,D,h,G,J,O⟩
theorem hU{α:Type}{xs:List α}{j:Nat}{v:α}(h:xs[j]?=Ya v):uV xs (j:Int)=Ya v:=by
 have D:j<xs.length:=(OI.mp h).1;have e:CY xs.length (j:Int)=Ya j:=by
  unfold CY;rw[Uo (by omega),Uo (by omega)];simp
 unfold uV;rw[e];exact h
theorem CZ{α:Type}(xs:List α)(v:α):uV (xs++[v]) (-1)=Ya v:=by
 have D:(xs++[v]).length=xs.length+1:=by simp
 have e:CY (xs++[v]).length (-1)=Ya xs.length:=by
  unfold CY;rw[D,Uk (by decide),Uo (by omega)];congr 1;omega
 unfold uV;rw[e];show(xs++[v])[xs.length]?=Ya v;simp
def FZ(b:UL):Prop:=∀o i,WE b false o i=operate [o,i] (Wi o i)
def Lo(X:Cx)(r:R2):Prop :=
 ∀(value slice:UL) (pins:List (Um×U6)) (s:Uq) (σ:St) (H:Hp) (x y:V) (v u:Uj) (Q:VK),Inv X pins σ H s->RelV x v->RelV y u->r x y H Q ->
  WE slice false v u=operate [v,u] (Wi v u)->wpAny (model X.prog X.w) X.A (Wa value slice v u) (EP X pins σ Q) X.xe s
def MtR(X:Cx)(id:String)(r:V->List V->Hp->VK->Prop):Prop :=
 ∀(pins:List (Um×U6)) (s:Uq) (σ:St) (H:Hp) (x:V) (xs:List V) (v:Uj) (D:List Uj) (Q:VK),Inv X pins σ H s->RelV x v->Vals xs D->r x xs H Q ->
  wpAny (model X.prog X.w) X.A (call (.builtin id) (v::D)) (EP X pins σ Q) X.xe s
section
variable {X:Cx}{a b:UL}{ta tb:TE}{pos:VL}
theorem cg{r:R2}(D:Lo X r)(G:PE X a ta)(J:PE X b tb)(hs:FZ b):PE X (.Subscript a b pos) (Kk r ta tb):=by
 intro pins s σ H Q I h;exact W0 (Iu G J I h λv u O x y U V Z ry q=>D a b pins O σ U x y v u Q V Z ry q (hs _ _))
def Lp(K:OJ):R2:=λx y H Q=>∃p xs i v,x=.ref p/\y=.int i/\aZ K H p xs/\uV xs i=Ya v/\Q v H
def Ga(K:OJ):R2:=λx y H Q=>∃p xs i v,x=.ref p/\y=.int i/\br K H p xs/\uV xs i=Ya v/\Q v H
theorem eE:Lo X (Lp X.K):=by
 intro value slice pins s σ H x y v u Q I V Z h hs;obtain⟨p,xs,i,z,rfl,rfl,hq,he,q⟩:=h;cases V;obtain⟨t,rfl⟩:=Z;obtain⟨its,r,pl,hz⟩:=I.list hq;obtain⟨j,D,h2,h3,h4,h5⟩:=Aj he;obtain⟨w,O,G⟩:=r.get h2;have hl:=r.length;have hn:=uS;have fin:EP X pins σ Q w s:=⟨z,H,I,G,q⟩
 by_cases U:0<=i
 .have J:i.toNat=j:=by
   rw[Xs U h5]at D;exact Option.some.inj D
  exact item_listR pl.isList U (by omega) (by rw[J];simpa using O) fin hs
 have J:(i+(its.toArray.size:Int)).toNat=j:=by
  rw[Xd (by omega) h4]at D;rw[OT,<-hl];exact Option.some.inj D
 exact Wl (x:=w) pl.isList.typeIs slot_list_getitem.lookup
  (wpAny_getItem_list_neg (Q:=λr s'=>r=w/\EP X pins σ Q r s') pl.isList (by omega) (by rw[OT] <;> omega) (by omega) (by rw[J];simpa using O) ⟨rfl,fin⟩) hs
theorem eo:Lo X (Ga X.K):=by
 intro value slice pins s σ H x y v u Q I G J h hs;obtain⟨p,xs,i,z,rfl,rfl,O,U,q⟩:=h;cases G;obtain⟨t,rfl⟩:=J;obtain⟨its,r,pl,hz⟩:=I.tuple O;obtain⟨j,V,Z,h3,h4,h5⟩:=Aj U;obtain⟨w,ew,D⟩:=r.get Z;have hl:=r.length;have hn:=uS;have fin:EP X pins σ Q w s:=⟨z,H,I,D,q⟩
 exact Wl (x:=w) pl.typeIs slot_tuple_getitem.lookup
  (getItem_tuple (j:=j) (Q:=λr s'=>r=w/\EP X pins σ Q r s') pl (by omega) (by omega) (by rw[OT,<-hl];exact V) (by simpa using ew) ⟨rfl,fin⟩) hs
theorem yL(its:List Uj)(n j:Nat)(u:Uj):Obj.mapSeq (·.setIfInBounds j u) { cls:=.type "list",data:=.seq its.toArray n }={ cls:=.type "list",data:=.seq (its.set j u).toArray n }:=by
 simp[Obj.mapSeq]
theorem Inv.lst{pins:List (Um×U6)}{σ:St}{H:Hp}{s:Uq}{p:Um}{xs:List V}(I:Inv X pins σ H s)(h:H p=Ya (.lst xs)) :
  ∃(its:List Uj) (n:Nat),Vals xs its/\s.heap.get? p=Ya { cls:=.type "list",data:=.seq its.toArray n }/\xs.length<=sizeLine:=by
 obtain⟨z,its,n,r,e⟩:=I.bM p _ h;exact⟨its,n,r,e,z⟩
theorem Inv.II{pins:List (Um×U6)}{σ:St}{H:Hp}{s:Uq}{p:Um}{xs D:List V}{its its':List Uj}{n G:Nat}{f:U6->U6}(I:Inv X pins σ H s)(h:H p=Ya (.lst xs))
  (O:s.heap.get? p=Ya { cls:=.type "list",data:=.seq its.toArray n }) (J:f { cls:=.type "list",data:=.seq its.toArray n }={ cls:=.type "list",data:=.seq its'.toArray G }) (r:Vals D its') (hz:D.length<=Uu) (t:Nat) :
  Inv X pins σ (upd H p (.lst D)) { s with heap:=s.heap.update p f,toks:=t }:=by
 have e:(s.heap.update p f).get? p=Ya { cls:=.type "list",data:=.seq its'.toArray G }:=by
  rw[Qz f O (by rw[J] <;> rfl),J]
 refine I.write (x:=p) (e:=p) (by rw[h];trivial) (.inl rfl) (λb u U q=>(Qc _ _ (Ne.symm U)).trans q) ⟨_,e⟩ ?_;exact⟨hz,its',G,r,e⟩
def Lq:V->V->V->Hp->(Hp->Prop)->Prop:=λo i v H Q=>∃p xs k j,o=.ref p/\i=.int k/\H p=Ya (.lst xs)/\CY xs.length k=Ya j/\Q (upd H p (.lst (xs.set j v)))
theorem set_list:K3 X Lq:=by
 intro pins s σ H o i v ov iv u Q I ro ri rv h;obtain⟨p,xs,k,j,rfl,rfl,hp,hj,q⟩:=h;cases ro;obtain⟨t,rfl⟩:=ri;obtain⟨its,n,r,G,hz⟩:=I.lst hp;obtain⟨D,h2,U,V⟩:=Ai hj;have J:=r.length;have hn:=uS;have Z:Inv X pins σ (upd H p (.lst (xs.set j v))) { s with heap:=s.heap.update p (Obj.mapSeq (·.setIfInBounds j u)) }:=
  I.II hp G (yL its n j u) (r.set rv j) (by rw[PR];exact hz) s.toks
 by_cases h0:0<=k
 .have O:k.toNat=j:=by
   rw[Xs h0 V]at D;exact Option.some.inj D
  exact PySem.W.ki_setAt G h0 (by omega) (by rw[OT,<-J];exact V) (by rw[O];exact⟨_,Z,q⟩)
 have O:(k+(its.toArray.size:Int)).toNat=j:=by
  rw[Xd (by omega) U]at D;rw[OT,<-J];exact Option.some.inj D
 exact PySem.W.ki_setBack G (by omega) (by rw[OT,<-J];exact U) (by omega) (by rw[O];exact⟨_,Z,q⟩)
theorem uW(lo D:Option Int)(n:Nat):(Vy lo D none n).1=((HT.yK n 0 lo:Nat):Int)/\(Vy lo D none n).2.1=((HT.yK n n D:Nat):Int)/\(Vy lo D none n).2.2=1:=by
 refine⟨?_,?_,rfl⟩
 .cases lo with
  |none=>simp[Vy,HT.yK]
  |some i =>
   simp only[Vy,HT.yK,Tn,show(1:Int)>0 by decide,VY];by_cases h:i<0
   .simp only[h,VY] <;> omega
   simp only[h,U1] <;> omega
 cases D with
 |none=>simp[Vy,HT.yK]
 |some i =>
  simp only[Vy,HT.yK,Tn,show(1:Int)>0 by decide,VY];by_cases h:i<0
  .simp only[h,VY] <;> omega
  simp only[h,U1] <;> omega
theorem sU(its:List Uj)(lo D:Option Int):slicePick its.toArray lo D none=((its.drop (HT.yK its.length 0 lo)).take (HT.yK its.length its.length D-HT.yK its.length 0 lo)).toArray:=by
 obtain⟨G,J,O⟩:=uW lo D its.toArray.size;unfold slicePick;rw[G,J,O];simp only[sliceRange_one,pick_run,OT] <;> rfl
def OA(K:OJ):V->Option Int->Option Int->Hp->VK->Prop:=λx lo D H Q=>∃a xs,x=.ref a/\aZ K H a xs/\∀p,H p=none->Q (.ref p) (upd H p (.lst (Bm xs lo D)))
theorem Ak:SlR X (OA X.K):=by
 intro pins s σ H x v V Z lo D sl Q I J hs pl O h;obtain⟨a,xs,rfl,U,q⟩:=h;cases J;obtain⟨its,r,G,hz⟩:=I.list U;have hlen:=r.length;refine⟨"list",_,slot_list_getitem.lookup,G.isList.typeIs,?_⟩;refine wpAny_getItem_list_slice G.isList hs pl O .none (by simp) ?_ (by rw[OT] <;> omega);rw[sU,<- hlen];refine⟨.ref s.heap.objs.size,_,I.laid (t':=s.toks) (o:=.lst (Bm xs lo D)) (λb ob q=>OM _ q) (ON _) ?_,rfl,q _ (I.bM.fresh (ON _))⟩;exact⟨PD (pz xs lo D) hz,_,0,(r.drop (HT.yK xs.length 0 lo)).take (HT.yK xs.length xs.length D-HT.yK xs.length 0 lo),O6 _ rfl⟩
noncomputable def jX:V->Bool
 |.g6=>true
 |.bl _=>true
 |.int _=>true
 |.str _=>true
 |_=>false
noncomputable def Gb:V->V->Bool
 |.g6,.g6=>true
 |.bl a,.bl b=>a==b
 |.bl a,.int b=>(if a then 1 else 0)==b
 |.int a,.bl b=>a==(if b then 1 else 0)
 |.int a,.int b=>a==b
 |.str a,.str b=>a==b
 |_,_=>false
theorem yM{A:UG}{s:Uq}{y x:V}{u v:Uj}(G:RelV y u)(D:RelV x v)(O:jX y=true)(J:jX x=true):SeqAt.EqAt A s u v (Gb y x):=by
 cases y with
 |g6 =>
  cases G;cases x with
  |g6=>cases D;exact SeqAt.EqAt.same _
  |bl b=>cases D;exact SeqAt.EqAt.none_bool b
  |int b=>obtain⟨t,rfl⟩:=D;exact SeqAt.EqAt.none_int b t
  |str b=>obtain⟨t,rfl⟩:=D;exact SeqAt.EqAt.none_str b t
  |_=>exact Us (show false=true from J) O2
 |bl a =>
  cases G;cases x with
  |g6=>cases D;exact SeqAt.EqAt.bool_none a
  |bl b=>cases D;exact SeqAt.EqAt.bool_bool a b
  |int b=>obtain⟨t,rfl⟩:=D;exact SeqAt.EqAt.bool_int a b t
  |str b=>obtain⟨t,rfl⟩:=D;exact SeqAt.EqAt.bool_str a b t
  |_=>exact Us (show false=true from J) O2
 |int a =>
  obtain⟨t',rfl⟩:=G;cases x with
  |g6=>cases D;exact SeqAt.EqAt.int_none a t'
  |bl b=>cases D;exact SeqAt.EqAt.int_bool a t' b
  |int b=>obtain⟨t,rfl⟩:=D;exact SeqAt.EqAt.int_int a t' b t
  |str b=>obtain⟨t,rfl⟩:=D;exact SeqAt.EqAt.int_str a t' b t
  |_=>exact Us (show false=true from J) O2
 |str a =>
  obtain⟨t',rfl⟩:=G;cases x with
  |g6=>cases D;exact SeqAt.EqAt.str_none a t'
  |bl b=>cases D;exact SeqAt.EqAt.str_bool a t' b
  |int b=>obtain⟨t,rfl⟩:=D;exact SeqAt.EqAt.str_int a t' b t
  |str b=>obtain⟨t,rfl⟩:=D;exact SeqAt.EqAt.str_str a t' b t
  |_=>exact Us (show false=true from J) O2
 |_=>exact Us (show false=true from O) O2
noncomputable def Ge(x:V)(u:Uj):Bool:=match u with
 |.none=>Gb .g6 x
 |.bool b=>Gb (.bl b) x
 |.int i _=>Gb (.int i) x
 |.str z _=>Gb (.str z) x
 |_=>false
theorem C1{x y:V}{u:Uj}(r:RelV y u)(f:jX y=true):Ge x u=Gb y x:=by
 cases y with
 |g6=>cases r;rfl
 |bl b=>cases r;rfl
 |int i=>obtain⟨t,rfl⟩:=r;rfl
 |str z=>obtain⟨t,rfl⟩:=r;rfl
 |_=>exact Us (show false=true from f) O2
theorem uX{x:V}:∀{xs:List V}{D:List Uj},Vals xs D->xs.all jX=true->D.any (Ge x)=xs.any λy=>Gb y x
 |_,_,.nil,_=>rfl
 |y::xs,u::D,.cons r t,f=>by
  rw[TR,PX]at f;rw[Rv,Rv,C1 r f.1,uX t f.2]
theorem qZ{A:UG}{s:Uq}{x:V}{v:Uj}(J:RelV x v)(O:jX x=true):∀{xs:List V}{G:List Uj},Vals xs G->xs.all jX=true->∀u∈G,SeqAt.EqAt A s u v (Ge x u)
 |_,_,.nil,_=>λu D=>by cases D
 |y::xs,u::G,.cons r t,f=>λU D=>by
  rw[TR,PX]at f;rcases Pa.mp D with rfl|D
  .rw[C1 r f.1];exact yM r J f.1 O
  exact qZ J O t f.2 U D
noncomputable def Hv(x:V)(xs:List V):Bool:=xs.any λy=>Gb y x
def rIn(K:OJ)(neg:Bool):R2:=λx y H Q=>∃p xs,y=.ref p/\(aZ K H p xs\/br K H p xs)/\jX x=true/\xs.all jX=true/\Q (.bl (if neg then !Hv x xs else Hv x xs)) H
theorem lE:kl X (UQ .In) (rIn X.K false):=by
 intro pins s σ H x y v u Q I G O h;obtain⟨p,xs,rfl,D,J,fs,q⟩:=h;cases O;rcases D with D|D
 .obtain⟨its,r,pl,hz⟩:=I.list D;refine SeqAt.in_listAt (Ge x) pl.isList (λw hw=>qZ G J r fs w (by simpa using hw)) ⟨.bl _,H,I,rfl,?_⟩;rw[show its.toArray.any (Ge x)=its.any (Ge x) by simp,uX r fs];exact q
 obtain⟨its,r,pl,hz⟩:=I.tuple D;refine SeqAt.in_tupleAt (Ge x) pl (λw hw=>qZ G J r fs w (by simpa using hw)) ⟨.bl _,H,I,rfl,?_⟩;rw[show its.toArray.any (Ge x)=its.any (Ge x) by simp,uX r fs];exact q
theorem aH:fX X (.builtin "len") (λxs H Q=>∃p D,xs=[.ref p]/\(aZ X.K H p D\/br X.K H p D)/\Q (.int D.length) H):=by
 intro pins s σ H xs U Q I r h;obtain⟨p,D,rfl,G,q⟩:=h;obtain⟨u,rfl,O⟩:=vals1 r;cases O;have V:=uS;rcases G with G|G
 .obtain⟨its,J,pl,hz⟩:=I.list G;have hlen:=J.length;exact Calls.call_len_list pl.isList (by simp only[OT] <;> omega) ⟨.int D.length,H,I.tok _,⟨s.toks+1,by rw[OT,hlen]⟩,q⟩
 obtain⟨its,J,pl,hz⟩:=I.tuple G;have hlen:=J.length;exact len_tuple pl (by simp only[OT] <;> omega) ⟨.int D.length,H,I.tok _,⟨s.toks+1,by rw[OT,hlen]⟩,q⟩
theorem uY:fX X (.type "list") (λxs H Q=>∃p D,xs=[.ref p]/\(aZ X.K H p D\/br X.K H p D)/\∀l,H l=none->Q (.ref l) (upd H l (.lst D))):=by
 intro pins s σ H xs us Q I r h;obtain⟨p,D,rfl,J,q⟩:=h;obtain⟨u,rfl,Z⟩:=vals1 r;cases Z;have fin:∀(its:List Uj),Vals D its->D.length<=Uu->∀(h':UH) (c':Nat),(∀b V,s.heap.get? b=Ya V->h'.get? b=Ya V) ->
   h'.get? s.heap.objs.size=Ya { cls:=.type "list",dict:=none,data:=.seq its.toArray c',slots:=#[] }->EP X pins σ Q (.ref s.heap.objs.size) { s with heap:=h' }:=λits G hz h' c' kp e =>
  ⟨.ref s.heap.objs.size,_,I.laid (t':=s.toks) kp (ON _) (show cQ X.prog X.w _ h' _ (.lst D)from⟨hz,its,c',G,e⟩),rfl,q _ (I.bM.fresh (ON _))⟩
 rcases J with J|J
 .obtain⟨its,G,pl,hz⟩:=I.list J;have hlen:=G.length;obtain⟨o,O,U,n,hd⟩:=pl.isList;exact call_list_seq p (.inl rfl) O U hd (λh' c' kp e=>fin its G hz h' c' kp e) (by simp only[OT] <;> omega)
 obtain⟨its,G,pl,hz⟩:=I.tuple J;have hlen:=G.length;obtain⟨o,O,U,n,hd⟩:=pl;exact call_list_seq p (.inr rfl) O U hd (λh' c' kp e=>fin its G hz h' c' kp e) (by simp only[OT] <;> omega)
theorem mh:fX X (.type "tuple") (λxs H Q=>∃p D,xs=[.ref p]/\((aZ X.K H p D/\∀l,H l=none->Q (.ref l) (upd H l (.tup D)))\/(br X.K H p D/\Q (.ref p) H))):=by
 intro pins s σ H xs Z Q I r h;obtain⟨p,D,rfl,h⟩:=h;obtain⟨u,rfl,U⟩:=vals1 r;cases U;rcases h with⟨G,q⟩|⟨G,q⟩
 .obtain⟨its,J,pl,hz⟩:=I.list G;have hlen:=J.length;refine call_tuple_list pl.isList (λh' kp=>?_) (by simp only[OT] <;> omega);have O:Inv X pins σ H { s with heap:=h' }:=I.kept (t':=s.toks) kp;have V:Inv X pins σ (upd H h'.objs.size (.tup D)) { s with heap:=h'.push { cls:=.type "tuple",data:=.seq its.toArray } }:=
   O.laid (t':=s.toks) (λb o e=>OM _ e) (ON _) (show cQ X.prog X.w _ _ _ (.tup D)from⟨hz,its,J,IsTup.new _ _⟩)
  exact⟨.ref h'.objs.size,_,V,rfl,q _ (O.bM.fresh (ON _))⟩
 obtain⟨its,J,pl,hz⟩:=I.tuple G;exact call_tuple_same pl ⟨.ref p,H,I,rfl,q⟩
def tyV(K:OJ)(T:String)(x:V)(H:Hp): Prop:=match x with
  |.str _=>T = "str"
  |.int _=>T = "int"
  | .ref p => (T = "list" /\ ∃ xs, aZ K H p xs) \/ (T = "tuple" /\ ∃ o, K.lookup p=Ya o /\ o.cls=.type "tuple" /\ o.dict=none) \/
      (T = "dict" /\ ((∃D,H p=Ya (.dK D)) \/ ∃D,H p=Ya (.dT D))) \/ (T = "set" /\ ∃S n,H p=Ya (.set S n))
  |_=>False
theorem IJ{pins:List (Um×U6)}{σ:St}{H:Hp}{s:Uq}{T:String}{x:V}{v:Uj}(I:Inv X pins σ H s)(r:RelV x v)(ty:tyV X.K T x H) :
  s.TypeIs v T/\∀a,v=.ref a->∃ob,s.heap.get? a=Ya ob/\ob.dict=none:=by
 cases x with
 |str z =>
  obtain⟨t,rfl⟩:=r;cases(show T = "str" from ty);exact⟨typeIs_str s z t,λ_ e=>nomatch e⟩
 |int i =>
  obtain⟨t,rfl⟩:=r;cases(show T = "int" from ty);exact⟨typeIs_int s i t,λ_ e=>nomatch e⟩
 |ref p =>
  cases r;rcases ty with⟨rfl,xs,J⟩|⟨rfl,o,D,O,hd⟩|⟨rfl,D⟩|⟨rfl,S,n,D⟩
  .obtain⟨its,_,pl,_⟩:=I.list J;refine⟨pl.isList.typeIs,λa e=>?_⟩;cases e;obtain⟨o,n,e,c,hd,_⟩:=pl;exact⟨o,e,hd⟩
  .refine⟨⟨o,I.Be p o D,O⟩,λa e=>?_⟩;cases e;exact⟨o,I.Be _ o D,hd⟩
  .have z:∃o,s.heap.get? p=Ya o/\o.ExactDict:=by
    rcases D with⟨G,D⟩|⟨G,D⟩
    .obtain⟨_,_,_,_,o,_,_,e,ex,_⟩:=I.bM p _ D;exact⟨o,e,ex⟩
    obtain⟨_,_,_,_,o,_,_,e,ex,_⟩:=I.bM p _ D;exact⟨o,e,ex⟩
   obtain⟨o,e,ex⟩:=z;refine⟨⟨o,e,ex.1⟩,λa e2=>?_⟩;cases e2;exact⟨o,e,ex.2.1⟩
  obtain⟨o,_,_,_,e,ex,_⟩:=I.bM p _ D;refine⟨⟨o,e,ex.1⟩,λa e2=>?_⟩;cases e2;exact⟨o,e,ex.2.1⟩
 |_=>exact False.elim ty
def tBM(K:OJ)(T:String)(r:V->List V->Hp->VK->Prop)(to:TE)(t:TA):TE:=λσ H Q=>to σ H λx D=>tyV K T x D/\t σ D λxs G=>r x xs G Q
variable {o e:UL}{es:List UL}{to:TE}{t:TA}{name:UI}{apos yN:VL}{T id:String}{r:V->List V->Hp->VK->Prop}
theorem d5(pa:PlainAttrs T)(slot:Slot T name id)(U:typeOf (.builtin id)=pure (.type "method_descriptor"))(hm:MtR X id r)(ho:PE X o to)(ha:PA X (e::es) t)
  (G:attributeBase o name X.env (eval o X.env)=eval o X.env:=by rfl)
  (O:((backTo yN (UC (e::es) X.env)).all (λx=>!x.1)&&(backToKw yN (Xr [] X.env)).all (λx=>x.1.isSome)
   && decide ((e::es).length+([]:List XS).length+(if([]:List XS).isEmpty then 0 else 1)<30))=true:=by rfl)
  (J:(apos.endLine==yN.line)=true:=by rfl) (hs:UC (e::es) X.env=(false,eval e X.env)::UC es X.env:=by rfl) (D:(backTo yN (UC es X.env)).any (·.1)=false:=by rfl) :
  PE X (.Call (.Attribute o name apos) (e::es) [] yN) (tBM X.K T r to t):=by
 intro pins s σ H Q I h;refine wpAny_Call_method_late G O J rfl (cL (ho pins s σ H _ I h) λv s1 zq=>?_);obtain⟨x,H1,V,Z,ty,q1⟩:=zq;obtain⟨h1,h2⟩:=IJ V Z ty;refine⟨T,id,pa,slot,U,h1,h2,?_⟩;have hA:=ha yN pins s1 σ H1 _ V q1;rw[hs]at hA⊢;refine Calls.callWith_builtin (by show(false||(backTo yN (UC es X.env)).any (·.1))=false;rw[D] <;> rfl) (Calls.evalArgs_plain ?_);exact cL hA λus s2 ⟨vs,H2,I2,r2,q2⟩=>hm pins s2 σ H2 x vs v us Q I2 Z r2 q2
/- xs.append(e),list.index on a Lr tuple .. are MtR facts of 06m -/
end
def Ls(X:Cx)(id:String)(r:V->List V->Hp->VK->Prop):Prop :=
 ∀(pins:List (Um×U6)) (s:Uq) (σ:St) (H:Hp) (x:V) (xs:List V) (v:Uj) (D:List Uj) (Q:VK),Inv X pins σ H s->RelV x v->Vals xs D->r x xs H Q ->
  wpAny (model X.prog X.w) X.A (call (.builtin id) (v::D)) (EP X pins σ Q) X.xe s
theorem Vals.one{x:V}{D:List Uj}(h:Vals [x] D):∃u,D=[u]/\RelV x u:=by
 cases h with
 |cons r h=>cases h;exact⟨_,rfl,r⟩
theorem Vals.two{x y:V}{D:List Uj}(h:Vals [x,y] D):∃u v,D=[u,v]/\RelV x u/\RelV y v:=by
 cases h with
 |cons r h=>obtain⟨u,rfl,q⟩:=Vals.one h;exact⟨_,_,rfl,r,q⟩
section
variable {X:Cx}{pins:List (Um×U6)}{σ:St}{H:Hp}{s:Uq}{l b:Um}{xs Z zs:List V}
theorem Inv.IK{its its':List Uj}{n:Nat}{f:Array Uj->Array Uj}{t':Nat}(I:Inv X pins σ H s)(D:H l=Ya (.lst xs))
  (e:s.heap.get? l=Ya { cls:=.type "list",data:=.seq its.toArray n }) (G:f its.toArray=its'.toArray) (J:Vals Z its') (hz:Z.length<=Uu) :
  Inv X pins σ (upd H l (.lst Z)) { s with heap:=s.heap.update l (Obj.mapSeq f),toks:=t' }:=by
 have q:=PySem.IsL.update e f;rw[G]at q;refine I.write (x:=l) (e:=l) (by rw[D];exact trivial) (.inl rfl) (λV u O U=>(Qc s.heap (Obj.mapSeq f) (Ne.symm O)).trans U) ⟨_,q⟩ ?_;exact⟨hz,its',_,J,q⟩
theorem Inv.Lu{its:List Uj}{t':Nat}(I:Inv X pins σ H s)(D:Vals Z its)(hz:Z.length<=Uu) :
  Inv X pins σ (upd H s.heap.objs.size (.lst Z)) { s with heap:=s.heap.push { cls:=.type "list",data:=.seq its.toArray },toks:=t' }:=
 I.laid (λ_ _ q=>OM _ q) (ON _) ⟨hz,its,0,D,O6 _ rfl⟩
theorem Inv.fresh(I:Inv X pins σ H s):H s.heap.objs.size=none:=I.bM.fresh (ON _)
theorem Inv.yO(I:Inv X pins σ H s)(D:H l=Ya (.lst xs)):xs.length<=Uu/\∃(its:List Uj) (n:Nat),Vals xs its/\xs.length=its.length/\s.heap.get? l=Ya { cls:=.type "list",data:=.seq its.toArray n }:=by
 obtain⟨z,its,n,r,e⟩:=I.bM l _ D;exact⟨z,its,n,r,r.length,e⟩
theorem w8{n:Nat}(h:n<=Uu):Builtin.List.listTooLong n=false:=by
 unfold Builtin.List.listTooLong;exact Up (by omega)
end
section
variable {X:Cx}
def Gf:V->List V->Hp->VK->Prop:=λx D H Q=>∃l xs y,x=.ref l/\D=[y]/\H l=Ya (.lst xs)/\xs.length<Uu/\Q .g6 (upd H l (.lst (xs++[y])))
theorem cF:Ls X "list.append" Gf:=by
 intro pins s σ H x U v V Q I G J h;obtain⟨l,xs,y,rfl,rfl,D,hz,q⟩:=h;cases G;obtain⟨u,rfl,O⟩:=J.one;obtain⟨z,its,n,r,Z,e⟩:=I.yO D;refine W5 F.slot_list_append ⟨_,e,rfl⟩ F.entry_list_append (F.args_list_append_2 _ _) (PySem.list_append l its.toArray n u (by rw[OT];omega)) ⟨e,?_⟩;refine⟨.g6,_,I.IK (its':=its++[u]) D e (by simp) (r.append (.cons O .nil)) ?_,rfl,q⟩;rw[OQ,QA];omega
def Gg:V->List V->Hp->VK->Prop:=λx G H Q=>∃l b xs D,x=.ref l/\G=[.ref b]/\H l=Ya (.lst xs)/\H b=Ya (.lst D)/\xs.length+D.length<=Uu/\Q .g6 (upd H l (.lst (xs++D)))
theorem eW:Ls X "list.extend" Gg:=by
 intro pins s σ H x vs v us Q I O U h;obtain⟨l,b,xs,zs,rfl,rfl,J,V,hz,q⟩:=h;cases O;obtain⟨u,rfl,Z⟩:=U.one;cases Z;obtain⟨z,its,n,r,hl,e⟩:=I.yO J;obtain⟨z2,D,n2,r2,uZ,e2⟩:=I.yO V;have hsz:its.toArray.size+D.toArray.size<=sizeLine:=by rw[OT,OT];omega
 have G:¬(!its.toArray.isEmpty&&Builtin.List.listTooLong (its.toArray.size+D.toArray.size))=true:=by
  rw[w8 hsz,RG];exact O2
 refine W5 F.slot_list_extend ⟨_,e,rfl⟩ F.entry_list_extend (F.args_list_extend_2 _ _)
  (AutoSeq1.list_extend_list_list_0 l its.toArray n b D.toArray n2 G (by rw[OT];omega) (by omega)) ⟨e,e2,?_⟩
 refine⟨.g6,_,I.IK (its':=its++D) J e (by simp) (r.append r2) ?_,rfl,q⟩;rw[OQ];omega
def OB:R2:=λx y H Q=>∃l b xs D,x=.ref l/\y=.ref b/\H l=Ya (.lst xs)/\H b=Ya (.lst D)/\xs.length+D.length<=Uu/\∀p,H p=none->Q (.ref p) (upd H p (.lst (xs++D)))
theorem C2:kl X (Vu .Add) OB:=by
 intro pins s σ H x y v u Q I G J h;obtain⟨l,b,xs,zs,rfl,rfl,O,U,hz,q⟩:=h;cases G;cases J;obtain⟨z,its,n,r,hl,e⟩:=I.yO O;obtain⟨z2,D,n2,V,Z,e2⟩:=I.yO U;refine PySem.P.add_list e e2 ?_ (by rw[OT,OT];omega);have ea:its.toArray++D.toArray=(its++D).toArray:=by simp
 rw[ea];exact⟨.ref _,_,I.Lu (t':=s.toks) (r.append V) (by rw[OQ];omega),rfl,q _ I.fresh⟩
end
end L2
namespace Att
open PySem PySem.W PySem.Calls PyProof.Rows
theorem pV{P:Params}{h:UH}:∀(ns:List Int) (D:List Uj),WellAll P h D (ns.map WData.int)->Vb D ns:=by
 intro ns
 induction ns with
 |nil =>
  intro D w;rw[Sv]at w;cases w;exact .nil
 |cons n ns G =>
  intro D w;rw[Po]at w;cases w with
  |cons a b =>
   cases a;exact .cons _ _ (G _ b)
theorem Bo{l:OpenLaw}{n:Nat}(hn:l.most=Ya n){P:Params}{h:UH}{args:List WData}{vals:List Uj}
  (D:l.row.toRowW.claim.pre args=true) (U:WellAll P h vals args) :
  ∃a Z ns,vals=[Value.ref a]/\args=[WData.list (ns.map WData.int)]/\h.get? a=Ya { cls:=.type "list",data:=.seq Z.toArray }/\Vb Z ns/\ns.length<=n:=by
 have V:WShape.hasAll [] args [.list .int]=true:=(pre_splitW D).1;have hc:l.pre.holds [] { args:=args }=true:=(pre_splitW D).2;obtain⟨d,r,rfl,h1,h2⟩:=hasAllW_cons V;obtain rfl:=hasAllW_nil h2;obtain⟨xs,rfl,h3⟩:=hasW_list h1;obtain⟨ns,rfl⟩:=items_int h3;have hlen:ns.length<=n:=by
  unfold OpenLaw.pre at hc;have J:(WTm.not (.lt (.lit (.int (n:Int))) (.len (.arg 0)))).holds [] { args:=[.list (ns.map .int)] }=true:=by
   have J:=(holds_andW hc).1;rw[hn]at J;exact J
  have O:=condW_of J (w_not (w_lt w_lit (w_len_list (w_arg rfl))));rw[OH]at O;refine QO λq=>?_;have q':(n:Int)<((ns.length:Nat):Int):=by omega
  first
   |(rw[Ul q']at O;exact Us O (by decide))
   |(simp at O;omega)
 cases U with
 |cons w1 w2 =>
  cases w2;cases w1 with
  |list ho G=>exact⟨_,_,ns,rfl,rfl,ho,pV ns _ G,hlen⟩
theorem Bp(l:OpenLaw)(args:List WData):l.row.toRowW.claim.post args (.bool true) args=true :=
 postW_of (r:=l.row.toRowW) (X:=(true==true))
  (show WShape.has [] (.bool true) .bool=true by first|rfl|decide|simp[WShape.has,WShape.arms,WShape.armsAll])
  (show(WTm.eq .res (.lit (.bool true))).value [] { args:=args,res:=Ya (.bool true),after:=args }=Ya (.bool (true==true))from w_eq_bool (w_res rfl) w_lit) rfl
theorem w9{l:OpenLaw}{n:Nat}{q:Ux}{loose:List UI}{XP:(UI->Option Uj)->UH->Prop}{YP:UA->UH->Prop}{d:DefRec}
  (hn:l.most=Ya n) (Z:d.params.defaults=[])
  (call:∀(w:UA) (s₀ D:Uq) (mg mb:UI->Option Uj) (fa:Um) (o:U6) (pm V doc:Uj) (a:Um) (J:List Uj) (ns:List Int),
   Ground q loose [] XP w s₀ mg mb D.heap->YP w D.heap ->
   D.heap.get? fa=Ya o->o.data=.func (docDef d.name d.params d.body d.scope pm V doc)->D.heap.CodeRec V d.name->mg d.name=Ya (.ref fa) ->
   D.heap.get? a=Ya { cls:=.type "list",data:=.seq J.toArray }->Vb J ns->ns.length<=n->D.gens = #[] ->
   VX (model l.prog w) WN (.call (.ref fa) ⟨[.ref a],[]⟩) (λr s'=>r=.ok (.ret (.bool true))/\OldK D.heap s'.heap/\s'.os=D.os/\VW s'.gens) D) :
  WalkO q loose XP YP l.row.toRowW d [] (λf J=>PySem.call f J):=by
 intro w s₀ D mg mb G Y fa o pm V doc dV kV ho hd FO hD Lw hg args vals as O aez hrd OC hlo;obtain rfl:dV=.none:=Dflts.none hD Z;obtain rfl:kV=.none:=Dflts.noKw hD;obtain⟨a,J,ns,rfl,rfl,U,hints,hlen⟩:=Bo hn O OC;refine enter_call (VE (call w s₀ D mg mb fa o pm V doc a J ns G Y ho (fd_plain hd) FO Lw U hints hlen hg) λr s' hq=>?_);obtain⟨rfl,h2,h3,h4⟩:=hq;exact⟨.inl ⟨.bool true,.bool true,[],rfl,λ_=>rfl,.bool true,Bp l _,λ_=>⟨List.Pairwise.nil,λ_ hm=>(nomatch hm)⟩⟩,h2,h3,h4⟩
end Att
namespace L2
open PySem PySem.Spec PyProof.Rows
theorem t8:∀{D:List Uj}{ns:List Int},Vb D ns->Vals (ns.map V.int) D
 |_,_,.nil=>.nil
 |_,_,.cons n t h=>.cons ⟨t,rfl⟩ (t8 h)
def IL(H:Hp):Prop:=∀b,H b=none\/∃o xs,H b=Ya (.Ct o (.lst xs))
theorem C3{P:Ux}{w:UA}{K:OJ}{mg mb:UI->Option Uj}{CX:Cd}{k:Nat}{fa a:Um}{fd:Uz}{x:UI}{sp:Sp}{D:Uq}{U:List Uj}{ns:List Int}
  (KX:K.In D.heap) (wL:D.heap.Ns UT mg) (J:D.heap.Ns Xw mb) (hbb:∀x:UI,x≠"__name__"->mb x=UR x) (OD:D.heap.NoLimit) (hg:D.gens = #[])
  (ha:D.heap.get? a=Ya { cls:=.type "list",data:=.seq U.toArray }) (hi:Vb U ns) (hl:ns.length<=Uu) (hr:eJ k WN)
  (F:∀base:UH,K.In base->base.Ns UT mg->aO P w K mg base CX k fa fd [x] sp) (Z:∀(s:Uq) (u:Uj),Xv s fd ⟨[u],[]⟩ [(x,u)])
  (Fh:∀H:Hp,IL H->aZ K H a (ns.map V.int)->sp [.ref a] H (λv _=>v=.bl true) λ_ _ _=>False)
  (OE:∀H e s',CX [] H D (λ_ _ _=>False) e s'->False) :
  VX (model P w) WN (.call (.ref fa) ⟨[.ref a],[]⟩) (λr s'=>r=.ok (.ret (.bool true))/\OldK D.heap s'.heap/\s'.os=D.os/\VW s'.gens) D:=by
 have rv:=t8 hi;have OF:=hi.length;have core:∀H:Hp,IL H->aZ K H a (ns.map V.int)->md P w H D.heap->(∀b,H b≠none->b=a)->(H a≠none->K.lookup a=none) ->
   VX (model P w) WN (.call (.ref fa) ⟨[.ref a],[]⟩) (λr s'=>r=.ok (.ret (.bool true))/\OldK D.heap s'.heap/\s'.os=D.os/\VW s'.gens) D:=by
  intro H hO hS bM hA hK;have G:∀{b:Um}{o:U6},D.heap.get? b=Ya o->H b=none->(uL D.heap H).get? b=Ya o:=λe n=>Cv e n;have noA:∀{b:Um}{o:U6}{es:Array Vz}{ep:Nat},D.heap.get? b=Ya o->o.data=.dict es ep->H b=none:=λ{b o es ep} e d=>by
   cases q:H b with
   |none=>rfl
   |some u =>
    have e':b=a:=hA b (by rw[q];simp);subst e';rw[ha]at e;cases e;have d':Data.seq U.toArray _=Data.dict es ep:=d;cases d'
  have O:∀{b:Um}{m:UI->Option Uj},D.heap.Ns b m->(uL D.heap H).Ns b m:=λ{b m} ⟨o,es,ep,e,d,r⟩=>⟨o,es,ep,G e (noA e d),d,r⟩
  have hKb:K.In (uL D.heap H):=λb o e=>G (KX b o e) (by
   cases q:H b with
   |none=>rfl
   |some u =>
    have e':b=a:=hA b (by rw[q];simp);subst e';rw[hK (by rw[q];simp)]at e;cases e)
  have hM:Mod K mg (uL D.heap H):=⟨hKb,O wL,⟨mb,O J,hbb⟩,let⟨mc,h1,h2⟩:=OD;⟨mc,O h1,h2⟩⟩
  have e0:yI P w K mg (uL D.heap H) WN [] D H:=⟨rfl,hM,λb o e=>Fx e,R0 (Bc _ _),trivial,λb J=>Us (show b∈([]:List Um)from J) (by simp),bM,.of_eq hg⟩
  refine VE ((F _ hKb (O wL)).run WN [] D H ⟨[.ref a],[]⟩ [.ref a] [.ref a] _ _ hr e0 (Z D (.ref a)) (.cons rfl .nil) (Fh H hO hS)) λr s' h=>?_;cases r with
  |error e=>exact(OE H e s' h).elim
  |ok fl =>
   cases fl with
   |next=>exact False.elim h
   |brk=>exact False.elim h
   |cont=>exact False.elim h
   |ret u =>
    obtain⟨v,H',os,bare,un,aaa,r',q⟩:=h;have q':v=.bl true:=q;subst q';obtain rfl:u=Value.bool true:=r';refine⟨rfl,OldK.of_keep λb o e=>?_,os,bare⟩;cases q:H b with
    |none=>exact un.keep b o e q (by intro z;exact Us (show b∈([]:List Um)from z) (by simp)) (by simp)
    |some u =>
     rcases hO b with z|⟨ob,xs,z⟩
     .rw[q]at z;cases z
     have z2:=un.lW b ob _ z;obtain⟨e1,_⟩:=bM b _ z;obtain⟨e2,_⟩:=aaa b _ z2;rw[e]at e1;cases e1;exact e2
 cases hk:K.lookup a with
 |some o =>
  have e:=KX a o hk;rw[ha]at e;cases e;refine core (λ_=>none) (λ_=>.inl rfl) (.inr ⟨_,U.toArray,_,hk,rfl,rfl,rfl,by rw[OT,OF];exact hl,by simpa using rv⟩) (λb u z=>by have z':(none:Option HO)=Ya u:=z;cases z') (λb z=>Us rfl z) λz=>Us rfl z
 |none =>
  refine core (λb=>if b=a then some (.Ct { cls:=.type "list",data:=.seq U.toArray } (.lst (ns.map V.int)))else none) (λb=>?_) (.inl (.inr ⟨{ cls:=.type "list",data:=.seq U.toArray },Uo rfl⟩)) (λb u z=>?_) (λb z=>?_) λ_=>hk
  .by_cases J:b=a
   .exact .inr ⟨_,_,Uo J⟩
   exact .inl (Uk J)
  .by_cases J:b=a
   .have z':=(Uo J).symm.trans z;cases z';subst J;exact⟨ha,by rw[OH];exact hl,U,_,rv,ha⟩
   have z':=(Uk J).symm.trans z;cases z'
  by_cases J:b=a
  .exact J
  exact Us (Uk J) z
theorem Am{l:Tv}{n k:Nat}{q:Ux}{loose:List UI}{XP:(UI->Option Uj)->UH->Prop}{YP:UA->UH->Prop}{d:DefRec}{K:Params->OJ}{CX:UA->Cd}{sp:UA->Sp}{x:UI}
  (hn:l.most=Ya n) (O:n<=Uu) (U:d.params.defaults=[]) (hr:eJ k WN)
  (hY:∀(w:UA) (h:UH),YP w h->(K w.params).In h)
  (F:∀(w:UA) (mg:UI->Option Uj) (fa:Um) (h:UH),(K w.params).In h->h.Ns UT mg->mg d.name=Ya (.ref fa) ->
   ∃Z:Uz,(∀(s:Uq) (u:Uj),Xv s Z ⟨[u],[]⟩ [(x,u)]) /\
    ∀base:UH,(K w.params).In base->base.Ns UT mg->aO l.prog w (K w.params) mg base (CX w) k fa Z [x] (sp w))
  (Fh:∀(w:UA) (H:Hp) (a:Um) (ns:List Int),ns.length<=n->IL H->aZ (K w.params) H a (ns.map V.int)->sp w [.ref a] H (λv _=>v=.bl true) λ_ _ _=>False)
  (OE:∀(w:UA) (H:Hp) (s:Uq) (e:Uj) (s':Uq),CX w [] H s (λ_ _ _=>False) e s'->False) :
  TU q loose XP YP l.row.toRowW d [] (λf vs=>PySem.call f vs):=by
 refine Att.w9 hn U λw s₀ D mg mb fa o pm cd doc a vs ns G Y ho hd FO Lw J hints hlen hg=>?_;have KX:=hY w _ Y;obtain⟨Z,hb,hF⟩:=F w mg fa _ KX G.T.g Lw;exact C3 KX G.T.g G.T.b G.T.builtins G.T.nolimit hg J hints (PD hlen O) hr hF hb (λH hO hS=>Fh w H a ns hlen hO hS) λH e s'=>OE w H D e s'
end L2
/- THE aeC Nr (shape; LID, My.* are acq):
   My.Adr: a structure of Cc addresses Fy aeD acr names (classes,Km); My.Txt K t: a structure (Prop) of Cc equations over K;
   My.IM:{K} {implicit addresses ..} (e1:nsIn K UT "law" = some (Ya (.ref f))) (e2:K.lookup f=some ⟨oc,od,.func (fnOf "law" "law" params body scope dV kV doc pm an je ct),sl⟩) (e3:codeIn K je "law" = true) .. : ∃t,My.Txt K t
set_option maxRecDepth 100000 in
set_option maxHeartbeats 0 in
theorem PySem.Challenge.Gh:PySem.Challenge.IP.Holds:=by
 w_on;o_law;k_head;(case hw=>w_witness2)
 k_fill
 refine L2.Am (l:=PySem.Challenge.IP) (n:=63) (k:=40) (x:="script") (CX:=λw=>..) (sp:=λ_=>J.aab) rfl (by decide) rfl ⟨rfl,by decide,by decide⟩ (λw h Y=>TJ Y) ?F ?S ?C
 case F =>
  intro w mg fa h KX G O;have T:∃t,J.Txt (L2.KOf KX) t:=by
   dsimp only [L2.KOf]                          -- K aeE U as «<heap const> w.params» for k_is;refine' J.IM ?e1 ?e2 ?e3 ..
   (case e1=>PySem.W.k_is)                    -- in D order: a name->its address->its object->its parts
   (case e2=>PySem.W.k_is)
   ..
  obtain⟨t,T⟩:=T;have e0:=O.symm.trans (Qi KX G T.law);cases e0                                       -- fa is D V own address;exact⟨_,λs u => .of_eq rfl,λbase Z nb=>J.IQ T Z nb⟩     -- if «.of_eq rfl» comes too early: refine' ⟨_, ?b,λbase Z nb=>J.IQ T Z nb⟩; exactλs u => .of_eq rfl
 case S=>exactλw H a ns hl hO hS=>..
 case C=>exact ..
(D tactic k_is has no namespace: write k_is) -/
namespace L2
open PySem PySem.Spec PyProof.Rows
noncomputable def dg(s:Vp):Arguments:=match s with
 |.FunctionDef _ a _ _ _ _ _ _ _ _=>a
 |_=>{ posonlyargs:=[],args:=[],vararg:=none,kwonlyargs:=[],kw_defaults:=[],kwarg:=none,defaults:=[] }
noncomputable def cp(s:Vp):List Stmt:=match s with
 |.FunctionDef _ _ b _ _ _ _ _ _ _=>b
 |_=>[]
noncomputable def aD(s:Vp):Scope:=match s with
 |.FunctionDef _ _ _ _ _ _ D _ _ _=>D
 |_=>{ kind:=.function,names:=[],isGenerator:=false,isCoroutine:=false }
noncomputable abbrev dq:Cd:=λ_ _ _ _ _ _=>False
noncomputable abbrev E0:XK:=λ_ _ _=>False
theorem Lx{X:Cx}:Passes dq X E0:=λ_ _ _ _ _ _ _ h=>h.elim
structure Bq(K:OJ) (x qual:UI) (st:Vp) (f:Um) (fd:Uz):Prop where
 ex:∃(oc:Uj) (od:Option Um) (kV doc pm:Uj) (an:Option Um) (je ct:Uj) (Lg:Array (Option Uj)),
  fd=PV x qual (dg st) (cp st) (aD st) .none kV doc pm an je ct/\K.lookup f=Ya ⟨oc,od,.func fd,Lg⟩/\Q9 K je qual=true
 kp:Q7 K (.ref f)=true
section
variable {P:Ux}{w:UA}{K:OJ}{mg:UI->Option Uj}{base:UH}
theorem Bq.ok{x qual:UI}{st:Vp}{f:Um}{fd:Uz}{N O:List UI}{k:Nat}{sp:Sp}(F:Bq K x qual st f fd)(S:aN N O (aD st))(len:∀G H Q E,sp G H Q E->G.length=O.length)
  (J:∀(D:Uj) (A:UG) (outer:List WT) (s:Uq) (H:Hp) (G:List V) (Q:VK) (E:XK),eJ k (A.deeper (envOfC qual (aD st) s.heap.objs.size f D))->sp G H Q E ->
   ∃t,mX (lY dq P w K mg base N qual (aD st) f D A outer s H E).FD (cp st) t/\t { nx:=λ_ H'=>Q .g6 H',rt:=Q } (start N G) H):aO P w K mg base dq (k+1) f fd O sp:=by
 obtain⟨oc,od,kV,doc,pm,an,D,ct,Lg,rfl,lk,U⟩:=F.ex;refine Hr lk U S len λA outer s H G Q E hr Z=>?_;obtain⟨t,h,q⟩:=J D A outer s H G Q E hr Z;exact⟨t,h.FD,q⟩
theorem Bq.binds{x qual:UI}{st:Vp}{f:Um}{U:Uz}{G:List UI}(F:Bq K x qual st f U)
  (h:∀(kV doc J:Uj) (an:Option Um) (D ct:Uj) (O:List Uj),O.length=G.length->Vv (PV x qual (dg st) (cp st) (aD st) .none kV doc J an D ct) ⟨O,[]⟩=pure (G.zip O)):Binds K U G []:=by
 obtain⟨oc,od,kV,doc,J,an,D,ct,V,rfl,lk,Z⟩:=F.ex;exact .all (h kV doc J an D ct)
theorem u0 {x qual : UI}{st : Vp}{f : Um}{O : Uj}{U an : Option Um}{G : Array (Option Uj)}{kV doc J D ct : Uj}(l : K.lookup f=Ya ⟨O, U, .func (PV x qual (dg st) (cp st) (aD st) .none kV doc J an D ct), G⟩)
    (c:Q9 K D qual=true) (k:Q7 K (.ref f)=true): Bq K x qual st f (PV x qual (dg st) (cp st) (aD st) .none kV doc J an D ct):= ⟨⟨O,U,kV,doc,J,an,D,ct,G,rfl,l,c⟩,k⟩
end
theorem jY{A:UG}{k:Nat}(D:eJ k A):A.units+1<cLine:=Qs (RU (by decide:1<=64) _) D.units
theorem aY{n:Nat}(h:n<=1000):n<sizeLine:=Qs h (by decide)
section
variable {X:Cx}
theorem pv (i : Nat){x : UI}{pos : VL}(G : X.N[i]?=Ya x := by rfl)(J : Nm X.env.scope x := by first | exact Or.inl rfl | exact Or.inr (Or.inl rfl) | exact Or.inr (Or.inr rfl))(hd : (x == ("__debug__" : UI))=false := by decide)
    (D:(x==("__classdict__" : UI))=false:=by decide): PE X (.Name x pos) (CA i):= Il G J hd D
end
theorem m8{A B:Prop}(h:B):if false=true then A else B:=by
 rw[Uk O2];exact h
theorem Br{A B:Prop}(h:A):if true=true then A else B:=by
 rw[Uo rfl];exact h
theorem fu{c A B:Prop}[Decidable c](D:c->A)(G:¬c->B):if c then A else B:=by
 by_cases h:c
 .rw[Uo h];exact D h
 rw[Uk h];exact G h
theorem Ly{c A B:Prop}[Decidable c](D:c)(h:B):if(!decide c)=true then A else B:=by
 rw[Ul D];exact m8 h
def aE(H H':Hp):Prop:=∀b o,H b=Ya o->H' b=Ya o
theorem aE.refl(H:Hp):aE H H:=λ_ _ h=>h
theorem aE.trans{H D G:Hp}(a:aE H D)(b:aE D G):aE H G:=λc o h=>b c o (a c o h)
theorem aE.free{H H':Hp}(e:aE H H'){l:Um}(h:H' l=Option.none):H l=Option.none:=by
 cases q:H l with
 |none=>rfl
 |some o =>
  rw[e l o q]at h;cases h
theorem aE.seq{K:OJ}{H H':Hp}{a:Um}{xs:List V}(e:aE H H')(h:aZ K H a xs):aZ K H' a xs:=by
 rcases h with(h|⟨o,h⟩)|h
 .exact .inl (.inl (e _ _ h))
 .exact .inl (.inr ⟨o,e _ _ h⟩)
 exact .inr h
theorem mF{α:Type}{t:X0 α}{Q D:α->Uq->Prop}{M:WU}{A:UG}{E:Uj->Uq->Prop}{s:Uq}(h:wpAny M A t Q (λ_ _=>False) s)(G:∀a s,Q a s->D a s):wpAny M A t D E s :=
 UX h G λ_ _ z=>z.elim
theorem kE:∀{xs:List V}{D:List Uj},xs.length=D.length->(∀(i:Nat) (x:V) (u:Uj),xs[i]?=Ya x->D[i]?=Ya u->RelV x u)->Vals xs D
 |[],[],_,_=>.nil
 |[],_::_,h,_=>by simp at h
 |_::_,[],h,_=>by simp at h
 |x::xs,u::D,h,f=>.cons (f 0 x u rfl rfl) (kE (by simpa using h) λi y w e1 e2=>f (i+1) y w (by simpa using e1) (by simpa using e2))
noncomputable def dP(X:Cx)(scope:VU)(cl:List (UI×Um))(NC:List UI)(fp:List Um)(C:Um)(s₀:Uq)(H₀:Hp):Cx where
 prog:=X.prog
 w:=X.w
 K:=X.K
 mg:=X.mg
 base:=X.base
 A:=X.A
 N:=NC
 s₀:=s₀
 H₀:=H₀
 env:=XA scope cl C X.env
 outer:=X.stack
 stack:=X.stack
 ex:=fp
 fn:=λ_=>false
 calm:=X.calm
 pn:=[]
 xe:=λ_ _=>False
structure kF(X:Cx) (scope:VU) (cl:List (UI×Um)) (NC:List UI) (Ce:List (Option Nat)):Prop where
 Gi:W6 scope X.env=pure cl
 cell:∀y∈scope.names,y.2≠.cell
 kind:scope.kind=.function
 names:∀y∈scope.names,y.2=.local->scope.names.lookup y.1=Ya .local
 cls:∀x c,cl.lookup x=Ya c->X.env.cells.lookup x=Ya c
 has:∀x,((VO scope X.env).names.lookup x=Ya .cell\/(VO scope X.env).names.lookup x=Ya .free)->∃c,cl.lookup x=Ya c
 len:Ce.length=NC.length
 src:∀(i j:Nat) (x:UI),Ce[i]?=Ya (Ya j)->NC[i]?=Ya x->X.N[j]?=Ya x/\(X.env.kindOf x=Ya .cell\/X.env.kindOf x=Ya .free) /\
  ((VO scope X.env).names.lookup x=Ya .cell\/(VO scope X.env).names.lookup x=Ya .free)
noncomputable def C4(D:List (Option Nat))(σ:St):St:=D.map λo=>o.bind λj=>(σ[j]?).join
section
variable {X:Cx}{scope:VU}{cl:List (UI×Um)}{NC:List UI}{Ce:List (Option Nat)}{pins:List (Um×U6)}{σ:St}{H:Hp}{s:Uq}{fp:List Um}
theorem C5{D:UH}{tk:Nat}{m:UI->Option Uj}(O:kF X scope cl NC Ce)(I:Inv X pins σ H s)(Z:∀b∈fp,iS X pins H b)(ho:∀b∈fp,∃o,s.heap.get? b=Ya o)
  (hn:D.Ns s.heap.objs.size m) (hk:∀b o,s.heap.get? b=Ya o->D.get? b=Ya o) :
  Inv (dP X scope cl NC fp s.heap.objs.size s H) [] (C4 Ce σ) H { s with heap:=D,toks:=tk }:=by
 have lt:∀b∈fp,b<s.heap.objs.size:=λb G=>let⟨o,e⟩:=ho b G;O3 e
 refine⟨⟨I.ok.mod,O.kind,I.ok.glob,I.ok.blt,ON _,λx y c U V=>I.ok.inj x y c (O.cls x c U) (O.cls y c V),O.has,λx c h=>(O2 h).elim,I.ok.hd,I.ok.frames,.inl rfl,
   λb G=>⟨Pd (lt b G),λx c h=>(Z b G).2.2.2.2.1 x c (O.cls x c h)⟩,I.bs,PD I.ok.Cw I.sz,λb o e G=>?_,λb G hs=>?_,I.stack,I.uN⟩,
  rfl,I.bare,Un.kept hk,⟨m,hn,λi x v e1 e2 e3=>?_⟩,λx c h=>?_,I.bM.fresh (ON _),λx c h=>I.iU x c (O.cls x c h),λp hp=>Us (show p∈([]:List (Um×U6))from hp) (by simp),I.bM.kept hk,?_⟩
 .rcases(Z b G).2.2.2.1 with z|z
  .exact I.ok.qM b o e z
  exact Us (Pt (O3 e) (PD I.ok.Cw z)) (QF _)
 .rcases Pa.mp (I.uM b hs)with e|e
  .exact(Z b G).2.1 e
  exact(Z b G).2.2.1 e
 .have e2:(Ce.map λo=>o.bind λj=>(σ[j]?).join)[i]?=Ya (Ya v):=e2;rw[OR]at e2;cases q:Ce[i]? with
  |none=>rw[q]at e2;cases e2
  |some oj =>
   rw[q]at e2;cases oj with
   |none=>cases e2
   |some j =>
    have J:(σ[j]?).join=Ya v:=Option.some.inj e2;have e5:σ[j]?=Ya (Ya v):=by
     cases z:σ[j]? with
     |none=>rw[z]at J;cases J
     |some y =>
      rw[z]at J;have J:y=Ya v:=J;rw[J]
    obtain⟨a1,a2,a3⟩:=O.src i j x q e1;obtain⟨m0,hn0,hl⟩:=I.loc;obtain⟨u,r,l⟩:=hl j x v a1 e5 (.inr a2);refine⟨u,r,?_⟩;rcases l with⟨k,_⟩|⟨_,c,e,z⟩
    .rcases a2 with a2|a2
     .rw[k]at a2;cases a2
     rw[k]at a2;cases a2
    obtain⟨c',e'⟩:=O.has x a3;have e6:=O.cls x c' e';rw[e]at e6;cases e6;obtain⟨oc,U,V⟩:=z;exact .inr ⟨a3,c,e',oc,hk _ _ U,V⟩
 .obtain⟨v,oc,U,V⟩:=I.cell x c (O.cls x c h);exact⟨v,oc,hk _ _ U,V⟩
 show(Ce.map _).length=NC.length;rw[OH];exact O.len
theorem comp_back{O:List (Um×U6)}{σ':St}{H':Hp}{s':Uq}{h':UH}(I:Inv X pins σ H s)(Z:∀b∈fp,iS X pins H b)(J:Inv (dP X scope cl NC fp s.heap.objs.size s H) O σ' H' s')
  (hs:Heap.SameBut s.heap.objs.size s'.heap h'):Inv X pins σ H' { s' with heap:=h' }:=by
 have ne:∀{b:Um}{o:U6},s.heap.get? b=Ya o->b≠s.heap.objs.size:=λe=>Pd (O3 e);have D:H' s.heap.objs.size=none:=J.free;have B:Un (lX X.stack) fp H H' s.heap s'.heap:=J.base;refine I.Cz (s':={ s' with heap:=h' }) (ch:=fp) J.os ⟨λb o q n G V=>(hs.2 b (ne q)).trans (B.keep b o q n G V),λb o q n G V=>?_,B.free,λb o q V=>?_,B.mw,B.lW,B.my⟩ (λb u e=>?_) J.bare
  λb G=>⟨(Z b G).2.2.2.1,(Z b G).2.1,(Z b G).2.2.2.2.1,(Z b G).2.2.2.2.2⟩
 .obtain⟨sl,e⟩:=B.slot b o q n G V;exact⟨sl,(hs.2 b (ne q)).trans e⟩
 .obtain⟨o',e⟩:=B.there b o q V;exact⟨o',(hs.2 b (ne q)).trans e⟩
 refine(J.bM b u e).sR (λc v U q=>(hs.2 c ?_).trans q) (λ_ q=>q) λ_ _ q=>q;rintro rfl;rcases U with U|U
 .rw[<-U,D]at e;cases e
 rw[D]at U;cases U
end
def Lz(X:Cx)(D:List UL)(t:TT):Prop :=
 ∀(pins:List (Um×U6)) (s:Uq) (σ:St) (H:Hp) (Q:Bool->Hp->Prop),Inv X pins σ H s->t σ H Q ->
  wpAny (model X.prog X.w) X.A (forIn D true λc r=>if r=true then do let ok <- isTrue c X.env (eval c X.env);pure (ForInStep.yield ok)else pure (ForInStep.yield r)) (TP X pins σ Q) X.xe s
def aac:TT:=λ_ H Q=>Q true H
theorem fE{X:Cx}:Lz X [] aac:=λ_ _ _ H _ I h=>wpAny_tests_nil ⟨H,I,h⟩
theorem iZ{X:Cx}{c:UL}{t:TT}(h:PT X c t):Lz X [c] t:=λpins s σ H Q I hw=>wpAny_tests_one (h pins s σ H Q I hw)
def xa(J:It)(g:TG)(tt:TT)(te:TE)(D:Um)(Q:VK)(O:St)(H₀:Hp):Prop :=
 ∃W:Nat->Nat->St->Hp->Prop,(∃m,W 0 m O H₀)/\∀i m U H',W i m U H' ->
  (J.stop i H'/\Q (.ref D) H')\/(J.go i H'/\∃N:St->Hp->Prop,(∀V Z,N V Z->∃m',m'<m/\W (i+1) m' V Z) /\
   ∀x Z,J.Iq i H' x Z->g x U Z λG H3=>tt G H3 λb H4=>if b=true then te G H4 λv H5=>∃ys,H5 D=Ya (.lst ys)/\ys.length<Uu/\N G (upd H5 D (.lst (ys++[v])))else N G H4)
def C6(U:TI)(g:TG)(V:TT)(Z:TE)(G:List (Option Nat)):TE:=λσ H Q=>U σ H λJ O=>∀D,O D=none->xa J g V Z D Q (C4 G σ) (upd O D (.lst []))
theorem t9{X:Cx}{elt iter tg:UL}{ifs:List UL}{scope:VU}{pos pp:VL}{cl:List (UI×Um)}{NC:List UI}{Ce:List (Option Nat)}{wi:TI}{g:TG}{tt:TT}{te:TE}{use:Option (Uj->X0 Unit)}{R:Uj->Uq->Prop}
  (hc:X.calm=true) (O:kF X scope cl NC Ce) (hi:PI X tg iter wi)
  (hg:∀fp C s₀ H₀,PG (dP X scope cl NC fp C s₀ H₀) tg g) (ht:∀fp C s₀ H₀,Lz (dP X scope cl NC fp C s₀ H₀) ifs tt) (he:∀fp C s₀ H₀,PE (dP X scope cl NC fp C s₀ H₀) elt te)
  (hs:∀x,VD iter X.env x=pure x) {pins:List (Um×U6)}{s:Uq}{σ:St}{H:Hp}{Q:VK} (I:Inv X pins σ H s) (h:C6 wi g tt te Ce σ H Q)
  (K:∀(D:Um) (fp:List Um) (G s4:Uq) (σ3:St) (H0 H3:Hp) (u:Flow),Inv X pins σ H0 G->(∀b∈fp,iS X pins H0 b)->Inv (dP X scope cl NC fp G.heap.objs.size G H0) [] σ3 H3 s4->Q (.ref D) H3->compPost (model X.prog X.w) X.A X.xe use R (.ref D) G.heap.objs.size (.ok u) s4) :
  wpAny (model X.prog X.w) X.A (comprehension (.ListComp elt [⟨tg,iter,ifs,0⟩] scope pos) scope X.env pp (newList []) false (eval iter X.env) use) R X.xe s:=by
 refine wpAny_comprehension_free (use:=use) rfl hs O.Gi O.kind O.names (cL (hi pins s σ H _ I h) λv s1 h1=>cL h1 λitv U h2=>?_);obtain⟨it,fp,tn,J,H2,e,I2,T,Nq,f2,h2⟩:=h2;subst e;have hD:H2 U.heap.objs.size=none:=I2.bM.fresh (ON _);obtain⟨W,⟨m0,w0⟩,turn⟩:=h2 _ hD;refine UN (wpAny_newFunctionEnv O.cell (by intro y hy;simp at hy) (λh₁ Z yP=>?_) O.kind);dsimp only at Z yP⊢;have I3:Inv X pins σ (upd H2 U.heap.objs.size (.lst [])) { U with heap:=U.heap.push { cls:=.type "list",dict:=none,data:=.seq ([]:List Uj).toArray } }:=I2.Lu (its:=[]) (t':=U.toks) .nil (by decide);have ob2:∀b∈fp,∃o,U.heap.get? b=Ya o:=λb V=>let⟨o,e,_⟩:=T.obj 0 _ Nq b V;⟨o,e⟩
 have neD:∀b∈fp,b≠U.heap.objs.size:=λb V=>let⟨o,e⟩:=ob2 b V;Pd (O3 e)
 have f3:∀b∈fp,iS X pins (upd H2 U.heap.objs.size (.lst [])) b:=λb V=>⟨by rw[aG (neD b V)];exact(f2 b V).1,(f2 b V).2⟩
 generalize hs3:({ U with heap:=U.heap.push { cls:=.type "list",dict:=none,data:=.seq ([]:List Uj).toArray } }:Uq)=G at I3;have hh3:U.heap.push { cls:=.type "list",dict:=none,data:=.seq ([]:List Uj).toArray }=G.heap:=by rw[<- hs3]
 have ob3:∀b∈fp,∃o,G.heap.get? b=Ya o:=λb V=>let⟨o,e⟩:=ob2 b V;⟨o,by rw[<-hh3];exact OM _ e⟩
 rw[hh3]at Z yP⊢;have old:∀b o,G.heap.get? b=Ya o->h₁.get? b=Ya o:=λb o e=>yP.extBut b o (Pd (O3 e)) (OM _ e);have st1:tn 0 h₁:=T.keep 0 _ _ Nq λb V o e=>old b o (by rw[<-hh3];exact OM _ e);have IC:∀tk,Inv (dP X scope cl NC fp G.heap.objs.size G (upd H2 U.heap.objs.size (.lst []))) [] (C4 Ce σ) (upd H2 U.heap.objs.size (.lst [])) { G with heap:=h₁,toks:=tk }:=λtk=>C5 O I3 f3 ob3 Z old;have IS:∀{H':Hp},(∀b∈fp,H' b=none)->∀b∈fp,iS (dP X scope cl NC fp G.heap.objs.size G (upd H2 U.heap.objs.size (.lst []))) [] H' b:=λ{H'} hn b V=>by
  obtain⟨o,e⟩:=ob3 b V;refine⟨hn b V,Pd (O3 e),λz=>?_,.inl V,λx c hx=>(f3 b V).2.2.2.2.1 x c (O.cls x c hx),λp hp=>Us (show p∈([]:List (Um×U6))from hp) (by simp)⟩;rcases Pa.mp (I3.uM b z)with q|q
  .exact(f3 b V).2.1 q
  exact(f3 b V).2.2.1 q
 have loop:∀s₃:Uq,s₃={ U with heap:=h₁,toks:=U.toks+([]:List (UI×Uj)).length } ->
   VX (model X.prog X.w) X.A (.compLoop (.ListComp elt [⟨tg,iter,ifs,0⟩] scope pos) 0 (.ref it) (.ref U.heap.objs.size) (XA scope cl G.heap.objs.size X.env))
    (compPost (model X.prog X.w) X.A X.xe use R (.ref U.heap.objs.size) G.heap.objs.size) s₃:=by
  rintro s₃ rfl;refine codeAny_loop rfl (λn s'=>∃i σ' H',Inv (dP X scope cl NC fp G.heap.objs.size G (upd H2 U.heap.objs.size (.lst []))) [] σ' H' s'/\tn i s'.heap/\(∀b∈fp,H' b=none)/\W i n σ' H') (λn s' hI=>?_) m0
   ⟨0,_,_,by have z:=IC (U.toks+([]:List (UI×Uj)).length);rw[<-hs3]at z⊢;exact z,st1,λb V=>(f3 b V).1,w0⟩
  show wpAny _ X.A ((compTurn (.ListComp elt [⟨tg,iter,ifs,0⟩] scope pos) 0 (.ref it) (.ref U.heap.objs.size) (XA scope cl G.heap.objs.size X.env)).onRaise (λx=>do Xo x (XA scope cl G.heap.objs.size X.env);theTreesLotGoes x)) _ _ s';refine wpAny_noted ?_;rw[compTurn_list];obtain⟨i,σ3,H3,I3',Lc,Ld,w3⟩:=hI;rcases turn i n σ3 H3 w3 with⟨stop,qn⟩|⟨go,N,hN,step⟩
  .refine Uh (Vn (Uh (cL (T.done (dP X scope cl NC fp G.heap.objs.size G (upd H2 U.heap.objs.size (.lst []))) rfl rfl rfl hc i [] s' σ3 H3 _ I3' (IS Ld) Lc stop) λr s4 ⟨hr,I4⟩=>?_)));subst hr;exact Ur (K _ _ _ _ _ _ _ _ I3 f3 I4 qn)
  refine Uh (Vn (Uh (cL (T.item (dP X scope cl NC fp G.heap.objs.size G (upd H2 U.heap.objs.size (.lst []))) rfl rfl rfl hc i [] s' σ3 H3 _ I3' (IS Ld) Lc go) λr s4 ⟨u,hr,h4⟩=>?_)));subst hr;refine Uh (cL h4 λ_ s5 zq=>?_);obtain⟨x,H5,I5,r5,y5,Ir,Oh⟩:=zq;have Oi:=I5.pinned (IS Oh) (T.obj _ _ Ir);refine Uh (mF (hg fp _ G _ _ s5 σ3 H5 x u _ Oi r5 (step x H5 y5)) λ_ s6 ⟨σ6,H6,I6,q6⟩=>?_);have again:∀{s7:Uq}{H7:Hp},Inv (dP X scope cl NC fp G.heap.objs.size G (upd H2 U.heap.objs.size (.lst []))) ([]++qR fp s5.heap) σ6 H7 s7->N σ6 H7 ->
    ∃m,m<n/\∃i σ' H',Inv (dP X scope cl NC fp G.heap.objs.size G (upd H2 U.heap.objs.size (.lst []))) [] σ' H' s7/\tn i s7.heap/\(∀b∈fp,H' b=none)/\W i m σ' H':=λ{s7 H7} I7 n7=>by
   obtain⟨m',hm,w7⟩:=hN σ6 H7 n7;refine⟨m',hm,i+1,σ6,H7,I7.kB,T.keep _ _ _ Ir λb V o e=>(I7.pin (b,o) (O4 _ (O4 _ (jB V e)))).1,λb V=>?_,w7⟩;obtain⟨o,e,d⟩:=T.obj _ _ Ir b V;exact(I7.pin (b,o) (O4 _ (O4 _ (jB V e)))).2.1
  refine Uh (mF (ht fp _ G _ _ s6 σ6 H6 _ I6 q6) λok s7 ⟨H7,I7,q7⟩=>?_);cases ok with
  |false=>exact Ur ⟨rfl,again I7 q7⟩
  |true =>
   refine Uh (Uh (mF (he fp _ G _ _ s7 σ6 H7 _ I7 q7) λu8 s8 zq=>?_));obtain⟨v8,H8,I8,r8,ys,hy,hz,n8⟩:=zq;refine Uh (mF (cF _ s8 σ6 H8 (.ref U.heap.objs.size) [v8] (.ref U.heap.objs.size) [u8] (λ_ H9=>N σ6 H9) I8 rfl (.cons r8 .nil) ⟨_,ys,v8,rfl,rfl,hy,hz,n8⟩) λ_ s9 zq=>?_);obtain⟨_,H9,I9,_,n9⟩:=zq;exact Ur (Ur ⟨rfl,again I9 n9⟩)
 exact codeAny_compStart_list (loop _ rfl) (T.self _ 0 _ _ _ st1 (loop _ rfl))
theorem eX{X:Cx}{G iter V:UL}{J:List UL}{scope:VU}{pos:VL}{cl:List (UI×Um)}{NC:List UI}{U:List (Option Nat)}{wi:TI}{g:TG}{tt:TT}{te:TE}
  (hc:X.calm=true) (O:kF X scope cl NC U) (hi:PI X V iter wi)
  (hg:∀fp C s₀ H₀,PG (dP X scope cl NC fp C s₀ H₀) V g) (ht:∀fp C s₀ H₀,Lz (dP X scope cl NC fp C s₀ H₀) J tt) (he:∀fp C s₀ H₀,PE (dP X scope cl NC fp C s₀ H₀) G te)
  (hs:∀x,VD iter X.env x=pure x:=by intro _;rfl):PE X (.ListComp G [⟨V,iter,J,0⟩] scope pos) (C6 wi g tt te U):=by
 intro pins s σ H Q I h;rw[eval_ListComp];refine t9 hc O hi hg ht he hs I h λD fp s3 s4 σ3 H0 H3 u I3 f3 I4 qn=>?_;obtain⟨m',Z,_⟩:=I4.loc;exact⟨m',Z,λh' Hw=>⟨.ref D,H3,comp_back I3 f3 I4 Hw,rfl,qn⟩⟩
theorem ra{lo:Int}{n:Nat}{g:TG}{V:TT}{Z:TE}{D:Um}{Q:VK}{G:St}{H₀:Hp}(Pv:Nat->St->Hp->Prop)(h0:Pv 0 G H₀)
  (hs:∀i σ H,i<n->Pv i σ H->g (.int (lo+i)) σ H λJ H3=>V J H3 λb H4=>if b=true then Z J H4 λv H5=>∃U,H5 D=Ya (.lst U)/\U.length<Uu/\Pv (i+1) J (upd H5 D (.lst (U++[v])))else Pv (i+1) J H4)
  (hd:∀σ H,Pv n σ H->Q (.ref D) H):xa (Hq lo n) g V Z D Q G H₀:=by
 refine⟨λi m σ H=>m=n-i/\i<=n/\Pv i σ H,⟨n,by simp,PH _,h0⟩,?_⟩;rintro i m σ H ⟨rfl,hi,p⟩;by_cases O:i<n
 .refine .inr ⟨O,Pv (i+1),λσ' H' p'=>⟨n-(i+1),by omega,rfl,O,p'⟩,λx H' y=>?_⟩;obtain⟨e,y⟩:=y;subst e y;exact hs i σ _ O p
 have e:i=n:=by omega
 subst e;exact .inl ⟨ON _,hd σ H p⟩
theorem b8{K:OJ}{a:Um}{xs:List V}{g:TG}{Z:TT}{te:TE}{D:Um}{Q:VK}{G:St}{H₀:Hp}(Pv:Nat->St->Hp->Prop)(h0:Pv 0 G H₀)(hl:∀i σ H,i<=xs.length->Pv i σ H->aZ K H a xs)
  (hs:∀i x σ H,xs[i]?=Ya x->Pv i σ H->g x σ H λJ H3=>Z J H3 λb H4=>if b=true then te J H4 λv H5=>∃U,H5 D=Ya (.lst U)/\U.length<Uu/\Pv (i+1) J (upd H5 D (.lst (U++[v])))else Pv (i+1) J H4)
  (hd:∀σ H,Pv xs.length σ H->Q (.ref D) H):xa (Ki K a) g Z te D Q G H₀:=by
 refine⟨λi m σ H=>m=xs.length-i/\i<=xs.length/\Pv i σ H,⟨xs.length,by simp,PH _,h0⟩,?_⟩;rintro i m σ H ⟨rfl,hi,p⟩;have q:=hl i σ H hi p;by_cases O:i<xs.length
 .refine .inr ⟨⟨xs,xs[i],q,by simp[O]⟩,Pv (i+1),λσ' H' p'=>⟨xs.length-(i+1),by omega,rfl,O,p'⟩,λx H' y=>?_⟩;obtain⟨e,y⟩:=y;subst e;exact hs i x σ _ (y xs q) p
 have e:i=xs.length:=by omega
 subst e;exact .inl ⟨⟨xs,q,ON _⟩,hd σ H p⟩
theorem hV{X:Cx}{scope:VU}{NC:List UI}(D:scope.kind=.function)(h:∀y∈scope.names,y.2≠.cell/\y.2≠.free)(V:∀y∈scope.names,y.2=.local->scope.names.lookup y.1=Ya .local) :
  kF X scope [] NC (R7 NC.length none) where
 Gi:=closureFor_none λx Z=>(h x Z).2
 cell:=λy J=>(h y J).1
 kind:=D
 names:=V
 cls:=λx c e=>by cases e
 has:=λx e=>by
  exfalso;have key:∀k,(VO scope X.env).names.lookup x=Ya k->k=.cell\/k=.free->False:=λk e G=>by
   have hm:=PySem.mem_of_lookup e;obtain⟨⟨n,k'⟩,J,U⟩:=OO.mp hm;have O:=h _ J;have hb:(k'==NameKind.free)=false:=by simpa using O.2
   simp only[hb,Qw,PF,U1,Prod.mk.injEq]at U;obtain⟨_,rfl⟩:=U;rcases G with G|G
   .exact O.1 G
   exact O.2 G
  rcases e with e|e
  .exact key _ e (.inl rfl)
  exact key _ e (.inr rfl)
 len:=by simp
 src:=λi j x e _=>by
  rw[Q1]at e
  split at e <;> cases e
section
variable {X:Cx}
theorem Bs:fX X (.type "range") (λxs H Q=>∃j,xs=[.int j]/\∀p,H p=none->Q (.ref p) (upd H p (.Hj 0 j))):=by
 intro pins s σ H xs G Q I r h;obtain⟨j,rfl,q⟩:=h;obtain⟨u,rfl,D⟩:=r.one;obtain⟨t,rfl⟩:=D;refine call_range_1 ⟨.ref s.heap.objs.size,_,I.laid (o:=.Hj 0 j) (λb u e=>OM _ e) (ON _) ?_,rfl,q _ (I.bM.fresh (ON _))⟩;exact⟨_,_,_,O6 _ rfl⟩
noncomputable def u7(lo:Int)(n:Nat):List V:=(OV n).map λ(i:Nat)=>V.int (lo+i)
theorem rg(lo:Int)(n:Nat):(u7 lo n).length=n:=by unfold u7;rw[OH,OW]
theorem C7{lo:Int}{n i:Nat}(h:i<n):(u7 lo n)[i]?=Ya (.int (lo+i)):=by
 unfold u7;rw[OR,Qv h]
 rfl
theorem sV(V:X.calm=true):fX X (.type "list") (λxs H Q=>∃p lo D,xs=[.ref p]/\H p=Ya (.Hj lo D)/\(-(2 ^ 62)<=lo/\lo<2 ^ 62/\-(2 ^ 62)<=D/\D<2 ^ 62)/\(D-lo).toNat<=2 ^ 20 /\
  ∀l,H l=none->Q (.ref l) (upd H l (.lst (u7 lo (D-lo).toNat)))):=by
 intro pins s σ H xs us Q I r h;obtain⟨p,lo,D,rfl,hp,⟨Z,b2,b3,b4⟩,hz,q⟩:=h;obtain⟨u,rfl,ru⟩:=r.one;cases ru;obtain⟨t,u',v',e⟩:=I.bM p _ hp;have hsz:(D-lo).toNat<=sizeLine:=PD hz (by decide);refine call_list_range (n:=(D-lo).toNat) (I.ok.hd V) (show IsRange s.heap p lo D 1 t u' v' from e) (small_one Z b2 b3 b4) (by rw[rangeSize_one];split <;> omega) (PD hz (by decide)) λh' tk J c' hk O G=>?_;refine⟨.ref s.heap.objs.size,_,I.laid (o:=.lst (u7 lo (D-lo).toNat)) (t':=tk) hk (ON _) ⟨by rw[rg];exact hsz,J.toList,c',?_,by simpa using O⟩,rfl,q _ (I.bM.fresh (ON _))⟩;refine kE (by rw[rg,Qf,G.1]) λi x w e1 e2=>?_;have U:i<(D-lo).toNat:=by
  have z:=(OI.mp e1).1;rw[rg]at z;exact z
 rw[C7 U]at e1;cases e1;obtain⟨t,rfl⟩:=G.2 i w (by simpa using e2);exact⟨t,by rw[T8]⟩
end
structure Fn(K:OJ) (mg:UI->Option Uj) (x:UI) (st:Vp) (ps:List UI) (f:Um) (fd:Uz):Prop where
 fn:Bq K x x st f fd
 b:Binds K fd ps []
 g:mg x=Ya (.ref f)
theorem Fn.mk' {K : OJ}{mg : UI -> Option Uj}{x : UI}{st : Vp}{D : List UI}{f : Um}{O : Uz}(F : Bq K x x st f O)
    (h:∀(kV doc U:Uj) (an:Option Um) (G ct:Uj) (J:List Uj),J.length=D.length->Vv (PV x x (dg st) (cp st) (aD st) .none kV doc U an G ct) ⟨J,[]⟩=pure (D.zip J))
    (g:mg x=Ya (.ref f)): Fn K mg x st D f O:=⟨F,F.binds h,g⟩
theorem bo {X : Cx}{x : UI}{st : Vp}{O : List UI}{f : Um}{U : Uz}{k : Nat}{sp : Sp}{e : UL}{es : List UL}{t : TA}{p pos : VL}(G : aO X.prog X.w X.K X.mg X.base dq k f U O sp)(F : Fn X.K X.mg x st O f U)(V : eJ k X.A)(Z : PA X (e::es) t)
    (hg:Gl X x:=by rfl) (D:(x==("__debug__" : UI))=false:=by decide) (he:UC (e::es) X.env=(false,eval e X.env)::UC es X.env:=by rfl) (J:(backTo pos (UC es X.env)).any (·.1)=false:=by rfl) :
    PE X (.Call (.Name x p) (e::es) [] pos) (tW sp [] E0 t):= uT G V hg F.g F.fn.kp F.b .nil Lx Z D he J
def C8(K:OJ):Sp:=λD H Q _=>∃(a:Um) (ns:List Int),D=[.ref a]/\aZ K H a (ns.map V.int)/\ns.length<=63/\∀H',Q (.bl true) H'
theorem ai{H:Hp}{p:Um}{o:HO}(h:H p=none):aE H (upd H p o):=λb u e=>by rw[aG (aW e h)];exact e
theorem aE.upd{H H':Hp}{p:Um}{o:HO}(s:aE H H')(h:H p=none):aE H (upd H' p o):=λb u e=>by rw[aG (aW e h)];exact s b u e
theorem aE.tup{K:OJ}{H H':Hp}{a:Um}{xs:List V}(e:aE H H')(h:br K H a xs):br K H' a xs:=by
 rcases h with(h|⟨o,h⟩)|h
 .exact .inl (.inl (e _ _ h))
 .exact .inl (.inr ⟨o,e _ _ h⟩)
 exact .inr h
theorem C9{H:Hp}{p l:Um}{o:HO}(h:upd H p o l=none):l≠p/\H l=none:=by
 by_cases e:l=p
 .rw[e,ag]at h;cases h
 rw[aG e]at h;exact⟨e,h⟩
theorem oz{n:Nat}{k:Int}(D:0<=k)(G:k<n):CY n k=Ya k.toNat:=by unfold CY;rw[Uo D,Uo G]
theorem bD:UR "len" = some (.builtin "len"):=by decide +kernel
theorem fv:UR "isinstance" = some (.builtin "isinstance"):=by decide +kernel
theorem lF:UR "sorted" = some (.builtin "sorted"):=by decide +kernel
theorem vc:UR "list" = some (.type "list"):=by decide +kernel
theorem eL:UR "tuple" = some (.type "tuple"):=by decide +kernel
theorem Dc:UR "range" = some (.type "range"):=by decide +kernel
theorem vd:UR "min" = some (.builtin "min"):=by decide +kernel
theorem ve:UR "enumerate" = some (.type "enumerate"):=by decide +kernel
end L2
namespace Th
open Classical
theorem sub_len{α:Type}:∀{l m:List α},l.Nodup->(∀x∈l,x∈m)->l.length<=m.length
 |[],m,_,_=>PH _
 |a::l,m,nd,h=>by
  obtain⟨O,U⟩:=Qy.mp nd;have G:=h a O1;have z:=sub_len (l:=l) (m:=m.erase a) U λx J=>by
   have D:x≠a:=λe=>O (e▸J);exact(SK D).mpr (h x (O0 _ J))
  rw[QX G]at z;have:0<m.length:=Rb G;rw[Ph];omega
structure cq(N:Nat) (f g:Nat->Nat):Prop where
 fl:∀x,x<N->f x<N
 gl:∀x,x<N->g x<N
 ff:∀x,x<N->f (f x)=x
 gg:∀x,x<N->g (g x)=x
theorem cq.swap{N:Nat}{f g:Nat->Nat}(h:cq N f g):cq N g f:=⟨h.gl,h.fl,h.gg,h.ff⟩
noncomputable def km(f g:Nat->Nat)(i x:Nat):Nat:=if i%2=0 then f x else g x
noncomputable def dG(f g:Nat->Nat)(s:Nat):Nat->Nat
 |0=>s
 |i+1=>km f g i (dG f g s i)
section
variable {N:Nat}{f g:Nat->Nat}{s:Nat}
theorem IT(T:cq N f g)(i:Nat){x:Nat}(h:x<N):km f g i x<N:=by
 unfold km;split
 .exact T.fl x h
 exact T.gl x h
theorem Gj(T:cq N f g)(i:Nat){x:Nat}(h:x<N):km f g i (km f g i x)=x:=by
 unfold km;split
 .exact T.ff x h
 exact T.gg x h
theorem An{i j:Nat}(h:i%2=j%2)(x:Nat):km f g i x=km f g j x:=by unfold km;rw[h]
theorem kG(T:cq N f g)(hs:s<N):∀i,dG f g s i<N
 |0=>hs
 |i+1=>IT T i (kG T hs i)
theorem kH(T:cq N f g)(hs:s<N)(i:Nat):km f g i (dG f g s (i+1))=dG f g s i:=Gj T i (kG T hs i)
structure Goes(f g:Nat->Nat) (s k:Nat):Prop where
 mv:∀i,i<k->dG f g s (i+1)≠dG f g s i
 rt:g s=s\/∀j,0<j->j<=k->dG f g s j≠s
theorem apart(T:cq N f g)(hs:s<N){k:Nat}(G:Goes f g s k):∀j,j<=k->∀i,i<j->dG f g s i≠dG f g s j:=by
 intro j
 induction j using Tw with
 |_ j D =>
  intro O i hi e;obtain⟨j',rfl⟩:∃j',j=j'+1:=⟨j-1,by omega⟩
  by_cases U:i=0
  .subst U;rcases G.rt with V|Z
   .have e:s=km f g j' (dG f g s j'):=e;by_cases p:j'%2=0
    .have e1:dG f g s j'=f s:=by
      have J:f (dG f g s j')=s:=by unfold km at e;rw[Uo p]at e;exact e.symm
      have z:=T.ff _ (kG T hs j');rw[J]at z;exact z.symm
     have e2:dG f g s 1=f s:=rfl;by_cases j0:j'=0
     .subst j0;exact G.mv 0 (by omega) (by rw[e2,<-e1])
     exact D j' (by omega) (by omega) 1 (by omega) (by rw[e2,e1])
    have e1:dG f g s j'=s:=by
     have J:g (dG f g s j')=s:=by unfold km at e;rw[Uk p]at e;exact e.symm
     have z:=T.gg _ (kG T hs j');rw[J,V]at z;exact z.symm
    exact D j' (by omega) (by omega) 0 (by omega) e1.symm
   exact Z (j'+1) (by omega) O e.symm
  obtain⟨i',rfl⟩:∃i',i=i'+1:=⟨i-1,by omega⟩
  by_cases p:i'%2=j'%2
  .have e1:dG f g s i'=dG f g s j':=by
    rw[<-kH T hs i',<-kH T hs j',e];exact An p _
   exact D j' (by omega) (by omega) i' (by omega) e1
  have e1:dG f g s (i'+2)=dG f g s j':=by
   rw[<-kH T hs j',<-e];exact An (by omega) _
  by_cases c:i'+2<j'
  .exact D j' (by omega) (by omega) (i'+2) c e1
  have c2:j'=i'+1:=by omega
  subst c2;exact G.mv (i'+1) (by omega) e.symm
def aB(f g:Nat->Nat)(x y:Nat):Prop:=∀S:Nat->Prop,S x->(∀z,S z->S (f z)/\S (g z))->S y
theorem aB.refl(x:Nat):aB f g x x:=λS h _=>h
theorem aB.trans{x y z:Nat}(h:aB f g x y)(k:aB f g y z):aB f g x z:=λS G D=>k S (h S G D) D
theorem aB.sf{x y:Nat}(h:aB f g x y):aB f g x (f y):=λS G D=>(D y (h S G D)).1
theorem aB.sg{x y:Nat}(h:aB f g x y):aB f g x (g y):=λS G D=>(D y (h S G D)).2
theorem aB.lt(T:cq N f g){x y:Nat}(D:x<N)(h:aB f g x y):y<N:=h (· < N) D λz hz=>⟨T.fl z hz,T.gl z hz⟩
theorem aB.symm(T:cq N f g){x y:Nat}(G:x<N)(h:aB f g x y):aB f g y x:=by
 have z:=h (λz=>z<N/\aB f g z x) ⟨G,aB.refl x⟩ λz ⟨hz,D⟩=>⟨⟨T.fl z hz,λS a b=>D S (by have:=(b _ a).1;rwa[T.ff z hz]at this) b⟩,T.gl z hz,λS a b=>D S (by have:=(b _ a).2;rwa[T.gg z hz]at this) b⟩
 exact z.2
theorem aB.swap{x y:Nat}(h:aB f g x y):aB g f x y:=λS G D=>h S G λz hz=>⟨(D z hz).2,(D z hz).1⟩
theorem ji{x y:Nat}:aB g f x y↔aB f g x y:=⟨aB.swap,aB.swap⟩
theorem kI:∀i,aB f g s (dG f g s i)
 |0=>aB.refl s
 |i+1=>by
  show aB f g s (km f g i (dG f g s i));unfold km;split
  .exact(kI i).sf
  exact(kI i).sg
def bq(f g:Nat->Nat)(x:Nat):Prop:=∀y,aB f g x y->f y≠y/\g y≠y
theorem bq.of(T:cq N f g){x y:Nat}(D:x<N)(h:bq f g x)(c:aB f g x y):bq f g y:=λz hz=>h z (c.trans hz)
noncomputable def eY(f g:Nat->Nat)(s K:Nat):List Nat:=(OV K).map (dG f g s)
theorem cR(K:Nat):(eY f g s K).length=K:=by unfold eY;rw[OH,OW]
theorem Dd{K i:Nat}(h:i<K):(eY f g s K)[i]?=Ya (dG f g s i):=by
 unfold eY;rw[OR,Qv h]
 rfl
theorem bT{K y:Nat}:y∈eY f g s K↔∃i,i<K/\dG f g s i=y:=by
 unfold eY;rw[OO];exact⟨λ⟨i,h,e⟩=>⟨i,OX.mp h,e⟩,λ⟨i,h,e⟩=>⟨i,OX.mpr h,e⟩⟩
theorem lG(K:Nat):eY f g s (K+1)=eY f g s K++[dG f g s K]:=by
 unfold eY;rw[Qg,O5]
 rfl
structure Ends(f g:Nat->Nat) (s K:Nat):Prop where
 oA:Goes f g s K
 stop:dG f g s (K+1)=dG f g s K\/dG f g s (K+1)=s
 ok:g s=s\/bq f g s
theorem gC(T:cq N f g)(hs:s<N){K:Nat}(G:Goes f g s K):(eY f g s (K+1)).Nodup:=by
 unfold eY;rw[Pb,Px];refine QN.imp_of_mem λ{i j} _ J D=>?_;exact apart T hs G j (by have:=OX.mp J;omega) i D
theorem qx(T:cq N f g)(hs:s<N){K:Nat}(G:Goes f g s K):K<N:=by
 have nd:=gC T hs G;have sub:∀y∈eY f g s (K+1),y∈OV N:=λy D=>by
  obtain⟨i,_,rfl⟩:=bT.mp D;exact OX.mpr (kG T hs i)
 have z:=sub_len nd sub;rw[cR,OW]at z;omega
theorem Ends.ring(T:cq N f g)(hs:s<N){K:Nat}(E:Ends f g s K)(h:g s≠s):dG f g s (K+1)=s/\K%2=1/\g s=dG f g s K:=by
 have W:bq f g s:=E.ok.resolve_left h;have ns:dG f g s (K+1)≠dG f g s K:=λz=>by
  have z:km f g K (dG f g s K)=dG f g s K:=z;have w:=W _ (kI (s:=s) K);unfold km at z
  split at z
  .exact w.1 z
  exact w.2 z
 have rt:dG f g s (K+1)=s:=E.stop.resolve_left ns;have D:K%2=1:=by
  refine OU λp=>?_;have p:K%2=0:=by omega
  have e:f (dG f g s K)=s:=by have z:km f g K (dG f g s K)=s:=rt;unfold km at z;rw[Uo p]at z;exact z
  have e1:dG f g s K=f s:=by have z:=T.ff _ (kG T hs K);rw[e]at z;exact z.symm
  by_cases k0:K=0
  .subst k0;exact ns (by rw[rt];rfl)
  exact apart T hs E.oA K (ON _) 1 (by omega) (by rw[e1];rfl)
 refine⟨rt,D,?_⟩;have e:g (dG f g s K)=s:=by have z:km f g K (dG f g s K)=s:=rt;unfold km at z;rw[Uk (by omega)]at z;exact z
 have z:=T.gg _ (kG T hs K);rw[e]at z;exact z
theorem Ends.stuck(T:cq N f g)(hs:s<N){K:Nat}(E:Ends f g s K)(h:g s=s):dG f g s (K+1)=dG f g s K:=by
 rcases E.stop with z|z
 .exact z
 refine OU λq=>?_;have G:Goes f g s (K+1):=⟨λi D=>by
  by_cases c:i=K
  .subst c;exact q
  exact E.oA.mv i (by omega),.inl h⟩
 exact apart T hs G (K+1) (ON _) 0 (by omega) z.symm
theorem Ends.mem(T:cq N f g)(hs:s<N){K:Nat}(E:Ends f g s K){y:Nat}:y∈eY f g s (K+1)↔aB f g s y:=by
 constructor
 .intro h;obtain⟨i,_,rfl⟩:=bT.mp h;exact kI i
 intro h;refine h (·∈eY f g s (K+1)) (bT.mpr ⟨0,by omega,rfl⟩) λz hz=>?_;obtain⟨i,O,rfl⟩:=bT.mp hz;have D:km f g i (dG f g s i)∈eY f g s (K+1):=by
  by_cases c:i<K
  .exact bT.mpr ⟨i+1,by omega,rfl⟩
  have c:i=K:=by omega
  subst c;rcases E.stop with z|z
  .exact bT.mpr ⟨i,by omega,z.symm⟩
  exact bT.mpr ⟨0,by omega,z.symm⟩
 have G:(if i%2=0 then g (dG f g s i)else f (dG f g s i))∈eY f g s (K+1):=by
  by_cases J:i=0
  .subst J;show g s∈_;by_cases h:g s=s
   .exact bT.mpr ⟨0,by omega,h.symm⟩
   exact bT.mpr ⟨K,by omega,(E.ring T hs h).2.2.symm⟩
  obtain⟨i',rfl⟩:∃i',i=i'+1:=⟨i-1,by omega⟩
  refine bT.mpr ⟨i',by omega,?_⟩;rw[<-kH T hs i'];unfold km;by_cases p:i'%2=0
  .rw[Uo p,Uk (by omega)]
  rw[Uk p,Uo (by omega)]
 by_cases p:i%2=0
 .unfold km at D;rw[Uo p]at D G;exact⟨D,G⟩
 unfold km at D;rw[Uk p]at D G;exact⟨G,D⟩
theorem Ends.loose(T:cq N f g)(hs:s<N){K:Nat}(E:Ends f g s K)(h:g s=s){i:Nat}(V:i<=K) :
  (f (dG f g s i)=dG f g s i↔i=K/\K%2=0)/\(g (dG f g s i)=dG f g s i↔i=0\/(i=K/\K%2=1)):=by
 have st:=E.stuck T hs h;have D:km f g i (dG f g s i)=dG f g s i↔i=K:=by
  constructor
  .intro z;refine OU λc=>E.oA.mv i (by omega) z
  rintro rfl;exact st
 have G:0<i->(if i%2=0 then g (dG f g s i)else f (dG f g s i))≠dG f g s i:=λZ z=>by
  obtain⟨i',rfl⟩:∃i',i=i'+1:=⟨i-1,by omega⟩
  have J:km f g i' (dG f g s (i'+1))=dG f g s (i'+1):=by
   unfold km;by_cases p:i'%2=0
   .rw[Uk (by omega)]at z;rw[Uo p];exact z
   rw[Uo (by omega)]at z;rw[Uk p];exact z
  rw[kH T hs i']at J;exact E.oA.mv i' (by omega) J.symm
 unfold km at D;by_cases p:i%2=0
 .rw[Uo p]at D G;refine⟨⟨λz=>⟨D.mp z,by have:=D.mp z;omega⟩,λz=>D.mpr z.1⟩,⟨λz=>?_,λz=>?_⟩⟩
  .by_cases U:i=0
   .exact .inl U
   exact Us z (G (by omega))
  rcases z with rfl|⟨O,J⟩
  .exact h
  omega
 rw[Uk p]at D G;refine⟨⟨λz=>Us z (G (by omega)),λz=>by omega⟩,⟨λz=>.inr ⟨D.mp z,by have:=D.mp z;omega⟩,λz=>?_⟩⟩;rcases z with rfl|⟨O,J⟩
 .omega
 exact D.mpr O
theorem gH(T:cq N f g)(hs:s<N)(h:g s=s\/bq f g s):∃K,Ends f g s K:=by
 refine OU λO=>?_;have all:∀k,Goes f g s k:=λk=>by
  induction k with
  |zero=>exact⟨λi G=>Us G (Rx _),by rcases h with h|h;exact .inl h;exact .inr λj J U=>by omega⟩
  |succ k D =>
   have q:¬(dG f g s (k+1)=dG f g s k\/dG f g s (k+1)=s):=λz=>O ⟨k,D,z,h⟩;refine⟨λi G=>?_,?_⟩
   .by_cases c:i=k
    .subst c;exactλz=>q (.inl z)
    exact D.mv i (by omega)
   rcases D.rt with z|z
   .exact .inl z
   refine .inr λj J U=>?_;by_cases c:j=k+1
   .subst c;exactλz=>q (.inr z)
   exact z j J (by omega)
 have:=qx T hs (all N);omega
end
theorem De{P:Nat->Prop}:∀n,P n->∃m,P m/\∀k,P k->m<=k:=λn=>by
 induction n using Tw with
 |_ n G =>
  intro h;by_cases c:∃k,k<n/\P k
  .obtain⟨k,D,hp⟩:=c;exact G k D hp
  exact⟨n,h,λk D=>QO λz=>c ⟨k,z,D⟩⟩
theorem eZ{α β:Type}{l:List α}{φ:α->β}(nd:l.Nodup)(h:∀x∈l,∀y∈l,φ x=φ y->x=y):(l.map φ).Nodup:=by
 rw[Pb,Px];exact(Pb.mp nd).imp_of_mem λ{x y} G J D e=>D (h x G y J e)
theorem m9{α β:Type}{l:List α}{m:List β}(φ:α->β)(nd:l.Nodup)(h:∀x∈l,∀y∈l,φ x=φ y->x=y)(D:∀x∈l,φ x∈m):l.length<=m.length:=by
 have z:=sub_len (eZ nd h) (m:=m) λy G=>by
  obtain⟨x,J,rfl⟩:=OO.mp G;exact D x J
 rwa[OH]at z
theorem ng:∀(k:Nat) (l:List Nat) (φ:Nat->Nat),l.length<=k->l.Nodup->(∀x∈l,φ x∈l/\φ (φ x)=x/\φ x≠x)->l.length%2=0
 |0,l,φ,D,_,_=>by omega
 |k+1,[],φ,D,_,_=>rfl
 |k+1,x::r,φ,D,nd,h=>by
  obtain⟨V,G⟩:=Qy.mp nd;obtain⟨Z,a2,a3⟩:=h x O1;have J:φ x∈r:=by
   rcases Pa.mp Z with z|z
   .exact Us z a3
   exact z
  have z:=ng k (r.erase (φ x)) φ (by rw[QX J];rw[Ph]at D;omega) (G.erase _) λw hw=>by
   obtain⟨w1,U⟩:=(List.Nodup.mem_erase_iff G).mp hw;obtain⟨b1,O,b3⟩:=h w (O0 _ U);refine⟨(List.Nodup.mem_erase_iff G).mpr ⟨λe=>?_,?_⟩,O,b3⟩
   .have:w=x:=by rw[<-O,e,a2]
    exact V (this▸U)
   rcases Pa.mp b1 with e|e
   .exact Us (by rw[<-O,e]) w1
   exact e
  rw[QX J]at z;have:0<r.length:=Rb J;rw[Ph];omega
theorem mG{α:Type}(p:α->Bool):∀l:List α,(l.filter p).length+(l.filter λx=>!p x).length=l.length
 |[]=>rfl
 |a::l=>by
  have D:=mG p l;by_cases c:p a=true
  .rw[Pe c,Pf (by simp[c]),Ph,Ph];omega
  rw[Pf c,Pe (by simpa using c),Ph,Ph];omega
section
variable {N:Nat}{a b:Nat->Nat}
def bB(a b:Nat->Nat)(m:Nat):Prop:=∀y,aB a b m y->m<=y
def gf(a b:Nat->Nat)(m:Nat):Prop:=(∃u,aB a b m u/\a u=u)/\∃z,aB a b m z/\b z=z
noncomputable def OL(a b:Nat->Nat)(i:Nat):List Nat:=(OV i).filter λu=>decide (a u=u/\∃z,aB a b u z/\b z=z)
noncomputable def RL(a b:Nat->Nat)(i:Nat):List Nat:=(OV i).filter λm=>decide (bB a b m/\bq a b m)
noncomputable def QL(a b:Nat->Nat)(i:Nat):List Nat:=(OV i).filter λm=>decide (bB a b m/\gf a b m)
noncomputable def score(a b:Nat->Nat)(N:Nat):Nat:=2*(RL a b N).length+(OL a b N).length
theorem fJ{i u:Nat}:u∈OL a b i↔u<i/\a u=u/\∃z,aB a b u z/\b z=z:=by unfold OL;rw[OZ,OX,Uy]
theorem bI{i u:Nat}:u∈RL a b i↔u<i/\bB a b u/\bq a b u:=by unfold RL;rw[OZ,OX,Uy]
theorem rh{i u:Nat}:u∈QL a b i↔u<i/\bB a b u/\gf a b u:=by unfold QL;rw[OZ,OX,Uy]
theorem Df{i:Nat}:(OL a b i).Nodup:=PL.filter _
theorem Ao{i:Nat}:(RL a b i).Nodup:=PL.filter _
theorem LA{i:Nat}:(QL a b i).Nodup:=PL.filter _
theorem ni(T:cq N a b){u v z:Nat}(D:u<N)(G:a u=u)(J:aB a b u v)(O:a v=v)(hz:aB a b u z)(U:b z=z):v=u:=by
 obtain⟨K,E⟩:=gH T.swap D (.inl G);obtain⟨i,V,rfl⟩:=bT.mp ((E.mem T.swap D).mpr hz.swap);obtain⟨j,Z,rfl⟩:=bT.mp ((E.mem T.swap D).mpr J.swap);have q1:=(E.loose T.swap D G (i:=i) (by omega)).1.mp U;rcases(E.loose T.swap D G (i:=j) (by omega)).2.mp O with e|e
 .subst e;rfl
 omega
theorem kJ(T:cq N a b){x:Nat}(G:x<N):∃m,aB a b x m/\m<N/\bB a b m:=by
 obtain⟨m,D,J⟩:=De (P:=λy=>aB a b x y) x (aB.refl x);exact⟨m,D,D.lt T G,λy O=>J y (D.trans O)⟩
theorem LB(T:cq N a b):(OL a b N).length=(QL a b N).length:=by
 refine Sw ?_ ?_
 .have ch:∀x,∃m,x<N->aB a b x m/\m<N/\bB a b m:=λx=>by
   by_cases c:x<N
   .obtain⟨m,h⟩:=kJ T c;exact⟨m,λ_=>h⟩
   exact⟨0,λz=>Us z c⟩
  obtain⟨φ,D⟩:=Ry ch;refine m9 φ Df (λx G y J e=>?_) λx G=>?_
  .obtain⟨x1,x2,z,x3,x4⟩:=fJ.mp G;obtain⟨O,U,_⟩:=fJ.mp J;have c1:=(D x x1).1;have c2:=(D y O).1;rw[<-e]at c2;exact(ni T x1 x2 (c1.trans (c2.symm T O)) U x3 x4).symm
  obtain⟨x1,x2,z,x3,x4⟩:=fJ.mp G;obtain⟨c1,c2,V⟩:=D x x1;have c4:=c1.symm T x1;exact rh.mpr ⟨c2,V,⟨x,c4,x2⟩,z,c4.trans x3,x4⟩
 have ch:∀m,∃u,m∈QL a b N->aB a b m u/\a u=u:=λm=>by
  by_cases c:m∈QL a b N
  .obtain⟨_,_,⟨u,Z,h2⟩,_⟩:=rh.mp c;exact⟨u,λ_=>⟨Z,h2⟩⟩
  exact⟨0,λz=>Us z c⟩
 obtain⟨φ,D⟩:=Ry ch;refine m9 φ LA (λx G y J e=>?_) λx G=>?_
 .obtain⟨x1,x2,_⟩:=rh.mp G;obtain⟨O,U,_⟩:=rh.mp J;have c1:=(D x G).1;have c2:=(D y J).1;rw[<-e]at c2;have c:=c1.trans (c2.symm T O);have:=x2 y c;have:=U x (c.symm T x1);omega
 obtain⟨x1,x2,_,z,x3,x4⟩:=rh.mp G;obtain⟨c1,c2⟩:=D x G;exact fJ.mpr ⟨c1.lt T x1,c2,z,(c1.symm T x1).trans x3,x4⟩
theorem nr(T:cq N a b){u:Nat}(D:u<N)(G:a u=u)(J:¬ ∃z,aB a b u z/\b z=z):∃v,v≠u/\aB a b u v/\a v=v/\∀w,aB a b u w->a w=w->w=u\/w=v:=by
 obtain⟨K,E⟩:=gH T.swap D (.inl G);have last:dG b a u K∈eY b a u (K+1):=bT.mpr ⟨K,by omega,rfl⟩;have O:K%2=1:=by
  refine OU λp=>J ⟨dG b a u K,((E.mem T.swap D).mp last).swap,(E.loose T.swap D G (ON _)).1.mpr ⟨rfl,by omega⟩⟩
 refine⟨dG b a u K,λe=>?_,((E.mem T.swap D).mp last).swap,(E.loose T.swap D G (ON _)).2.mpr (.inr ⟨rfl,O⟩),λw hw U=>?_⟩
 .exact apart T.swap D E.oA K (ON _) 0 (by omega) e.symm
 obtain⟨i,V,rfl⟩:=bT.mp ((E.mem T.swap D).mpr hw.swap);rcases(E.loose T.swap D G (i:=i) (by omega)).2.mp U with e|e
 .subst e;exact .inl rfl
 rw[e.1];exact .inr rfl
theorem Gk(T:cq N a b)(hN:N%2=0):(OL a b N).length%2=0:=by
 have e1:((OV N).filter λx=>!decide (a x=x)).length%2=0:=by
  refine ng N _ a (by have:=Pm (λx=>!decide (a x=x)) (OV N);rwa[OW]at this) (PL.filter _) λx D=>?_;rw[OZ,OX]at D;have ne:a x≠x:=by simpa using D.2
  have J:a (a x)≠a x:=λz=>ne (by rw[T.ff x D.1]at z;exact z.symm);exact⟨OZ.mpr ⟨OX.mpr (T.fl x D.1),by simpa using J⟩,T.ff x D.1,ne⟩
 have e2:=mG (λx=>decide (a x=x)) (OV N);rw[OW]at e2;have e3:=mG (λu=>decide (∃z,aB a b u z/\b z=z)) ((OV N).filter λx=>decide (a x=x));have e4:((OV N).filter λx=>decide (a x=x)).filter (λu=>decide (∃z,aB a b u z/\b z=z))=OL a b N:=by
  unfold OL;rw[R3];refine QH λx _=>?_;rw[QV,PX,Uy,Uy,Uy];exact⟨λh=>⟨h.2,h.1⟩,λh=>⟨h.2,h.1⟩⟩
 have e5:(((OV N).filter λx=>decide (a x=x)).filter (λu=>!decide (∃z,aB a b u z/\b z=z))).length%2=0:=by
  have ch:∀u,∃v,u<N->a u=u->(¬ ∃z,aB a b u z/\b z=z)->v≠u/\aB a b u v/\a v=v/\∀w,aB a b u w->a w=w->w=u\/w=v:=λu=>by
   by_cases c:u<N/\a u=u/\¬ ∃z,aB a b u z/\b z=z
   .obtain⟨v,h⟩:=nr T c.1 c.2.1 c.2.2;exact⟨v,λ_ _ _=>h⟩
   exact⟨0,λh1 h2 h3=>Us ⟨h1,h2,h3⟩ c⟩
  obtain⟨φ,G⟩:=Ry ch;have mem:∀x,x∈((OV N).filter λx=>decide (a x=x)).filter (λu=>!decide (∃z,aB a b u z/\b z=z))↔x<N/\a x=x/\¬ ∃z,aB a b x z/\b z=z:=λx=>by
   rw[OZ,OZ,OX,Uy,Tc,VA,and_assoc]
  refine ng N _ φ ?_ ((PL.filter _).filter _) λx D=>?_
  .have V:=Pm (λu=>!decide (∃z,aB a b u z/\b z=z)) ((OV N).filter λx=>decide (a x=x));have O:=Pm (λx=>decide (a x=x)) (OV N);rw[OW]at O;omega
  obtain⟨x1,x2,x3⟩:=(mem x).mp D;obtain⟨q1,U,Z,q4⟩:=G x x1 x2 x3;have hv:=U.lt T x1;have no:¬ ∃z,aB a b (φ x) z/\b z=z:=λ⟨z,V,O⟩=>x3 ⟨z,U.trans V,O⟩;refine⟨(mem _).mpr ⟨hv,Z,no⟩,?_,q1⟩;obtain⟨r1,r2,r3,r4⟩:=G (φ x) hv Z no;rcases q4 _ (U.trans r2) r3 with e|e
  .exact e
  exact Us e r1
 rw[e4]at e3;omega
theorem mH(T:cq N a b)(D:N%2=0):score a b N%2=0:=by
 have:=Gk T D;unfold score;omega
noncomputable def ML(a b:Nat->Nat)(N:Nat):List Nat:=OL a b N++(RL a b N++(RL a b N).map a)
theorem yQ:(ML a b N).length=score a b N:=by unfold ML score;rw[OQ,OQ,OH];omega
theorem xb(T:cq N a b):(ML a b N).Nodup:=by
 unfold ML;refine PY.mpr ⟨Df,PY.mpr ⟨Ao,eZ Ao λx D y G e=>?_,λx D y G e=>?_⟩,λx D y G e=>?_⟩
 .have x1:=(bI.mp D).1;have O:=(bI.mp G).1;rw[<-T.ff x x1,e,T.ff y O]
 .subst e;obtain⟨x1,x2,x3⟩:=bI.mp D;obtain⟨m,J,rfl⟩:=OO.mp G;obtain⟨m1,m2,m3⟩:=bI.mp J;have c:aB a b m (a m):=(aB.refl m).sf;have:=m2 _ c;have:=x2 m (c.symm T m1);exact(m3 m (aB.refl m)).1 (by omega)
 subst e;obtain⟨x1,x2,_⟩:=fJ.mp D;rcases OY.mp G with h|h
 .exact((bI.mp h).2.2 x (aB.refl x)).1 x2
 obtain⟨m,J,rfl⟩:=OO.mp h;exact((bI.mp J).2.2 (a m) (aB.refl m).sf).1 x2
theorem Hx(T:cq N a b):∀x∈ML a b N,x∈OV N:=λx D=>by
 rw[OX];rcases OY.mp D with h|h
 .exact(fJ.mp h).1
 rcases OY.mp h with h|h
 .exact(bI.mp h).1
 obtain⟨m,G,rfl⟩:=OO.mp h;exact T.fl m (bI.mp G).1
theorem jj(T:cq N a b):score a b N<=N:=by
 have z:=sub_len (xb T) (Hx T);rwa[yQ,OW]at z
theorem rj(T:cq N a b):score a b N=N↔∀x,x<N->a x=b x:=by
 constructor
 .intro h;have all:∀x,x<N->x∈ML a b N:=λx D=>OU λno=>by
   have z:=sub_len (xb T) (m:=(OV N).erase x) λy G=>(SK (λe=>no (by rw[<-e];exact G))).mpr (Hx T y G);rw[yQ,h,QX (OX.mpr D),OW]at z;omega
  have loose:∀x,x<N->a x=x->b x=x:=λx D J=>by
   have hO:∀y,y<N->a y=y->y∈OL a b N:=λy G ay=>by
    rcases OY.mp (all y G)with h|h
    .exact h
    rcases OY.mp h with h|h
    .exact Us ay ((bI.mp h).2.2 y (aB.refl y)).1
    obtain⟨m,O,rfl⟩:=OO.mp h;exact Us ay ((bI.mp O).2.2 (a m) (aB.refl m).sf).1
   obtain⟨_,_,z,z1,Z⟩:=fJ.mp (hO x D J);have hb:=T.gl x D;have U:aB a b x (b x):=(aB.refl x).sg;rcases OY.mp (all (b x) hb)with h|h
   .exact ni T D J U (fJ.mp h).2.1 z1 Z
   exfalso;have V:bq a b (b x):=by
    rcases OY.mp h with h|h
    .exact(bI.mp h).2.2
    obtain⟨m,O,e⟩:=OO.mp h;rw[<-e];exact(bI.mp O).2.2.of T (bI.mp O).1 (aB.refl m).sf
   exact(V x (U.symm T D)).1 J
  intro x D;by_cases J:a x=x
  .rw[J,loose x D J]
  have pair:∀m,m∈RL a b N->b m=a m:=λm O=>by
   obtain⟨m1,m2,m3⟩:=bI.mp O;have U:aB a b m (b m):=(aB.refl m).sg;rcases OY.mp (all (b m) (T.gl m m1))with h|h
   .exact Us (fJ.mp h).2.1 (m3 _ U).1
   rcases OY.mp h with h|h
   .obtain⟨q1,q2,_⟩:=bI.mp h;have:=m2 _ U;have:=q2 m (U.symm T m1);exact Us (show b m=m by omega) (m3 m (aB.refl m)).2
   obtain⟨m',LC,e⟩:=OO.mp h;obtain⟨q1,q2,_⟩:=bI.mp LC;have c:aB a b m m':=by
    have z:aB a b m (a m'):=e▸U;have Z:=z.sf;rwa[T.ff m' q1]at Z
   have:=m2 _ c;have:=q2 m (c.symm T m1);have e2:m'=m:=by omega
   rw[<-e,e2]
  rcases OY.mp (all x D)with h|h
  .exact Us (fJ.mp h).2.1 J
  rcases OY.mp h with h|h
  .exact(pair x h).symm
  obtain⟨m,O,rfl⟩:=OO.mp h;have m1:=(bI.mp O).1;have e:=pair m O;rw[T.ff m m1,<-e,T.gg m m1]
 intro h;refine Sw (jj T) ?_;have z:=sub_len (l:=OV N) (m:=ML a b N) PL λx D=>?_
 .rwa[yQ,OW]at z
 have D:=OX.mp D;by_cases J:a x=x
 .exact Pn _ (fJ.mpr ⟨D,J,x,aB.refl x,by rw[<-h x D];exact J⟩)
 have cl:∀y,y<N->∀z,aB a b y z->z=y\/z=a y:=λy G z hc=>hc (λz=>z=y\/z=a y) (.inl rfl) λw hw=>by
  rcases hw with rfl|rfl
  .exact⟨.inr rfl,.inr (h w G).symm⟩
  refine⟨.inl (T.ff y G),.inl ?_⟩;rw[<-h _ (T.fl y G),T.ff y G]
 have V:∀y,y<N->a y≠y->bq a b y:=λy G ne z hc=>by
  rcases cl y G z hc with rfl|rfl
  .exact⟨ne,by rw[<-h z G];exact ne⟩
  have n2:a (a y)≠a y:=by rw[T.ff y G];exact Ne.symm ne
  exact⟨n2,by rw[<-h _ (T.fl y G)];exact n2⟩
 have al:=T.fl x D;have ne2:a (a x)≠a x:=by rw[T.ff x D];exact Ne.symm J
 refine O4 _ ?_;by_cases c:x<a x
 .refine Pn _ (bI.mpr ⟨D,λy G=>?_,V x D J⟩);rcases cl x D y G with rfl|rfl <;> omega
 refine O4 _ (OO.mpr ⟨a x,bI.mpr ⟨al,λy G=>?_,V _ al ne2⟩,T.ff x D⟩);rcases cl _ al y G with rfl|rfl
 .omega
 rw[T.ff x D];omega
structure bU(a b:Nat->Nat) (x:Nat) (L:List Nat):Prop where
 nd:L.Nodup
 mem:∀y,y∈L↔aB a b x y
theorem jk{x:Nat}{L M:List Nat}(h:bU a b x L)(k:bU a b x M):L.length=M.length :=
 Sw (sub_len h.nd λy D=>(k.mem y).mpr ((h.mem y).mp D)) (sub_len k.nd λy D=>(h.mem y).mpr ((k.mem y).mp D))
theorem yR(T:cq N a b){x:Nat}(G:x<N){L:List Nat}(h:bU a b x L)(w:bq a b x):L.length%2=0:=by
 refine ng L.length L a (ON _) h.nd λy J=>?_;have D:=(h.mem y).mp J;exact⟨(h.mem _).mpr D.sf,T.ff y (D.lt T G),(w y D).1⟩
theorem kK(T:cq N a b){x:Nat}(U:x<N){L:List Nat}(h:bU a b x L):L.length%2=1↔gf a b x:=by
 have J:∀u,aB a b x u->a u=u->(L.length%2=1↔∃z,aB a b x z/\b z=z):=λu G O=>by
  have D:=G.lt T U;obtain⟨K,E⟩:=gH T.swap D (.inl O);have C:bU a b x (eY b a u (K+1)):=⟨gC T.swap D E.oA,λy=>by
   rw[E.mem T.swap D,ji];exact⟨λz=>G.trans z,λz=>(G.symm T U).trans z⟩⟩
  rw[jk h C,cR];constructor
  .intro p;exact⟨dG b a u K,(C.mem _).mp (bT.mpr ⟨K,by omega,rfl⟩),(E.loose T.swap D O (ON _)).1.mpr ⟨rfl,by omega⟩⟩
  rintro⟨z,z1,z2⟩;obtain⟨i,hi,rfl⟩:=bT.mp ((C.mem z).mpr z1);have:=(E.loose T.swap D O (i:=i) (by omega)).1.mp z2;omega
 constructor
 .intro p;by_cases V:∃u,aB a b x u/\a u=u
  .obtain⟨u,G,O⟩:=V;exact⟨⟨u,G,O⟩,(J u G O).mp p⟩
  exfalso;by_cases Z:∃z,aB a b x z/\b z=z
  .obtain⟨u,G,bu⟩:=Z;have D:=G.lt T U;obtain⟨K,E⟩:=gH T D (.inl bu);have C:bU a b x (eY a b u (K+1)):=⟨gC T D E.oA,λy=>by
    rw[E.mem T D];exact⟨λz=>G.trans z,λz=>(G.symm T U).trans z⟩⟩
   rw[jk h C,cR]at p;exact V ⟨dG a b u K,(C.mem _).mp (bT.mpr ⟨K,by omega,rfl⟩),(E.loose T D bu (ON _)).1.mpr ⟨rfl,by omega⟩⟩
  have w:bq a b x:=λy hy=>⟨λz=>V ⟨y,hy,z⟩,λz=>Z ⟨y,hy,z⟩⟩
  have:=yR T U h w;omega
 rintro⟨⟨u,G,O⟩,hz⟩;exact(J u G O).mpr hz
noncomputable def cM(a b:Nat->Nat)(i:Nat):Nat:=2*(RL a b i).length+(QL a b i).length
theorem xc(T:cq N a b):cM a b N=score a b N:=by unfold cM score;rw[LB T]
theorem hZ(i:Nat):cM a b (i+1)=cM a b i+(if bB a b i/\bq a b i then 2 else 0)+(if bB a b i/\gf a b i then 1 else 0):=by
 unfold cM RL QL;rw[Qg,O9,O9,OQ,OQ];have e1:([i].filter λm=>decide (bB a b m/\bq a b m)).length=if bB a b i/\bq a b i then 1 else 0:=by
  by_cases c:bB a b i/\bq a b i
  .rw[Uo c,Pe (by simpa using c)];rfl
  rw[Uk c,Pf (by simpa using c)];rfl
 have e2:([i].filter λm=>decide (bB a b m/\gf a b m)).length=if bB a b i/\gf a b i then 1 else 0:=by
  by_cases c:bB a b i/\gf a b i
  .rw[Uo c,Pe (by simpa using c)];rfl
  rw[Uk c,Pf (by simpa using c)];rfl
 rw[e1,e2];by_cases c:bB a b i/\bq a b i
 .rw[Uo c,Uo c];omega
 rw[Uk c,Uk c];omega
end
section
variable {N:Nat}{f g:Nat->Nat}{s:Nat}
theorem Bt(T:cq N f g)(hs:s<N){K D:Nat}(E:Ends f g s K)(G:Ends f g s D):K=D:=by
 have z:=jk (a:=f) (b:=g) (x:=s) ⟨gC T hs E.oA,λy=>E.mem T hs⟩ ⟨gC T hs G.oA,λy=>G.mem T hs⟩;rw[cR,cR]at z;omega
noncomputable def cN(f g:Nat->Nat)(s:Nat):List Nat:=if h:∃K,Ends f g s K then eY f g s (Sl h+1)else[]
theorem jC(T:cq N f g)(hs:s<N){K:Nat}(E:Ends f g s K):cN f g s=eY f g s (K+1):=by
 have h:∃K,Ends f g s K:=⟨K,E⟩
 unfold cN;rw[Wn h,Bt T hs (QB h) E]
theorem bH(T:cq N f g)(hs:s<N)(h:g s=s\/bq f g s):bU f g s (cN f g s):=by
 obtain⟨K,E⟩:=gH T hs h;rw[jC T hs E];exact⟨gC T hs E.oA,λy=>E.mem T hs⟩
theorem nu(T:cq N f g)(hs:s<N)(h:g s=s\/bq f g s):0<(cN f g s).length/\(cN f g s).length<=N:=by
 obtain⟨K,E⟩:=gH T hs h;rw[jC T hs E,cR];have:=qx T hs E.oA;omega
end
section
variable {N:Nat}{a b:Nat->Nat}
inductive Kd|ring|odd|bare|tied
deriving DecidableEq
noncomputable def bE(L:List Nat):Nat:=L.getLastD 0
theorem fx{f g:Nat->Nat}{s:Nat}(T:cq N f g)(hs:s<N)(G:g s=s)(J:(cN f g s).length%2=0) :
  bE (cN f g s)≠s/\aB f g s (bE (cN f g s))/\g (bE (cN f g s))=bE (cN f g s)/\(∀w,aB f g s w->g w=w->w=s\/w=bE (cN f g s))/\∀w,aB f g s w->f w≠w:=by
 obtain⟨K,E⟩:=gH T hs (.inl G);rw[jC T hs E,cR]at J;have O:bE (cN f g s)=dG f g s K:=by
  rw[jC T hs E,lG];unfold bE;rw[SM]
 rw[O];have ld:=λi (D:i<=K)=>E.loose T hs G D;refine⟨λe=>?_,kI K,(ld K (ON _)).2.mpr (.inr ⟨rfl,by omega⟩),λw hw U=>?_,λw hw V=>?_⟩
 .exact apart T hs E.oA K (ON _) 0 (by omega) e.symm
 .obtain⟨i,D,rfl⟩:=bT.mp ((E.mem T hs).mpr hw);rcases(ld i (by omega)).2.mp U with e|e
  .subst e;exact .inl rfl
  rw[e.1];exact .inr rfl
 obtain⟨i,D,rfl⟩:=bT.mp ((E.mem T hs).mpr hw);have:=(ld i (by omega)).1.mp V;omega
theorem nv{f g:Nat->Nat}{s:Nat}(T:cq N f g)(hs:s<N)(D:g s=s):(cN f g s).length%2=1↔∃z,aB f g s z/\f z=z:=by
 have z:=kK T hs (bH T hs (.inl D));rw[z];exact⟨λh=>h.1,λh=>⟨h,s,aB.refl s,D⟩⟩
def pA(a b:Nat->Nat)(u:Nat):Prop:=(cN b a u).length%2=1\/u<bE (cN b a u)
noncomputable def eA(a b:Nat->Nat)(u:Nat):Kd×List Nat:=(if(cN b a u).length%2=1 then .odd else .bare,cN b a u)
def pB(a b:Nat->Nat)(z:Nat):Prop:=(cN a b z).length%2=0/\z<bE (cN a b z)
noncomputable def eB(a b:Nat->Nat)(z:Nat):Kd×List Nat:=(.tied,cN a b z)
noncomputable def lH(N:Nat)(a:Nat->Nat):List Nat:=(OV N).filter λe=>e==a e
theorem dv{u:Nat}:u∈lH N a↔u<N/\a u=u:=by
 unfold lH;rw[OZ,OX,beq_iff_eq];exact⟨λh=>⟨h.1,h.2.symm⟩,λh=>⟨h.1,h.2.symm⟩⟩
theorem Hy:(lH N a).Nodup:=PL.filter _
noncomputable def iG(N:Nat)(a b:Nat->Nat)(D:List Nat):List (Kd×List Nat):=(D.filter λu=>decide (pA a b u)).map (eA a b)
noncomputable def jZ(N:Nat)(a b:Nat->Nat)(D:List Nat):List (Kd×List Nat):=(D.filter λz=>decide (pB a b z)).map (eB a b)
noncomputable def hG(N:Nat)(a b:Nat->Nat):List (Kd×List Nat):=iG N a b (lH N a)++jZ N a b (lH N b)
noncomputable def eF(a b:Nat->Nat)(i:Nat):List (Kd×List Nat):=(RL a b i).map λm=>(Kd.ring,cN a b m)
noncomputable def pW(N:Nat)(a b:Nat->Nat):List (Kd×List Nat):=hG N a b++eF a b N
theorem rm(D:List Nat)(u:Nat):iG N a b (D++[u])=iG N a b D++(if pA a b u then[eA a b u]else[]):=by
 unfold iG;rw[O9,O5];congr 1;by_cases c:pA a b u
 .rw[Uo c,Pe (by simpa using c)];rfl
 rw[Uk c,Pf (by simpa using c)];rfl
theorem rn(D:List Nat)(u:Nat):jZ N a b (D++[u])=jZ N a b D++(if pB a b u then[eB a b u]else[]):=by
 unfold jZ;rw[O9,O5];congr 1;by_cases c:pB a b u
 .rw[Uo c,Pe (by simpa using c)];rfl
 rw[Uk c,Pf (by simpa using c)];rfl
theorem oB(D:List Nat):(iG N a b D).length<=D.length:=by unfold iG;rw[OH];exact Pm _ _
theorem ua(D:List Nat):(jZ N a b D).length<=D.length:=by unfold jZ;rw[OH];exact Pm _ _
theorem rp{L:List Nat}(h:0<L.length):L.getLast?=Ya (bE L):=by
 unfold bE;cases L with
 |nil=>exact Us h (QF _)
 |cons x r=>rw[List.getLastD_eq_getLast?,List.getLast?_cons];rfl
theorem oC(T:cq N a b){th:Kd×List Nat}(h:th∈hG N a b):∃u,u<N/\¬bq a b u/\bU a b u th.2:=by
 unfold hG iG jZ at h;rcases OY.mp h with h|h
 .obtain⟨u,J,rfl⟩:=OO.mp h;obtain⟨D,G⟩:=dv.mp (OZ.mp J).1;have C:=bH T.swap D (.inl G);exact⟨u,D,λw=>(w u (aB.refl u)).1 G,C.nd,λy=>by rw[<-ji];exact C.mem y⟩
 obtain⟨u,J,rfl⟩:=OO.mp h;obtain⟨D,G⟩:=dv.mp (OZ.mp J).1;exact⟨u,D,λw=>(w u (aB.refl u)).2 G,bH T D (.inl G)⟩
theorem oD(T:cq N a b){x:Nat}(V:x<N):(∃th∈hG N a b,x∈th.2)↔¬bq a b x:=by
 constructor
 .rintro⟨th,h1,h2⟩ w;obtain⟨u,u1,u2,C⟩:=oC T h1;exact u2 (w.of T V (((C.mem x).mp h2).symm T u1))
 intro nw;have side:∀u,u<N->a u=u->aB a b u x->∃th∈hG N a b,x∈th.2:=λu J au hc=>by
  have inA:∀v,v<N->a v=v->pA a b v->aB a b v x->∃th∈hG N a b,x∈th.2:=λv O av pv U=>by
   refine⟨eA a b v,Pn _ (OO.mpr ⟨v,OZ.mpr ⟨dv.mpr ⟨O,av⟩,Ul pv⟩,rfl⟩),?_⟩;exact((bH T.swap O (.inl av)).mem x).mpr U.swap
  by_cases p:pA a b u
  .exact inA u J au p hc
  have p1:¬(cN b a u).length%2=1:=λz=>p (.inl z);have p2:¬u<bE (cN b a u):=λz=>p (.inr z);obtain⟨l1,G,Z,l4,l5⟩:=fx T.swap J au (by omega);have lv:=G.swap.lt T J;refine inA _ lv Z ?_ ((G.swap.symm T J).trans hc);by_cases q:(cN b a (bE (cN b a u))).length%2=1
  .exact .inl q
  refine .inr ?_;obtain⟨m1,m2,m3,m4,m5⟩:=fx T.swap lv Z (by omega);rcases l4 _ (G.trans m2) m3 with e|e
  .rw[e];omega
  exact Us e m1
 by_cases cA:∃u,aB a b x u/\a u=u
 .obtain⟨u,J,au⟩:=cA;exact side u (J.lt T V) au (J.symm T V)
 have cB:∃z,aB a b x z/\b z=z:=OU λno=>nw λy hy=>⟨λe=>cA ⟨y,hy,e⟩,λe=>no ⟨y,hy,e⟩⟩
 obtain⟨z,hz,bz⟩:=cB;have D:=hz.lt T V;have ev:∀v,v<N->aB a b x v->b v=v->(cN a b v).length%2=0:=λv O hc bv=>by
  have:=(nv T O bv)
  by_cases q:(cN a b v).length%2=1
  .obtain⟨w,w1,w2⟩:=this.mp q;exact Us ⟨w,hc.trans w1,w2⟩ cA
  omega
 have inB:∀v,v<N->b v=v->pB a b v->aB a b v x->∃th∈hG N a b,x∈th.2:=λv O bv pv U=>by
  refine⟨eB a b v,O4 _ (OO.mpr ⟨v,OZ.mpr ⟨dv.mpr ⟨O,bv⟩,Ul pv⟩,rfl⟩),?_⟩;exact((bH T O (.inl bv)).mem x).mpr U
 have e1:=ev z D hz bz;obtain⟨l1,G,Z,l4,l5⟩:=fx T D bz e1;have lv:=G.lt T D;by_cases p:z<bE (cN a b z)
 .exact inB z D bz ⟨e1,p⟩ (hz.symm T V)
 have e2:=ev _ lv (hz.trans G) Z;obtain⟨m1,m2,m3,m4,m5⟩:=fx T lv Z e2;refine inB _ lv Z ⟨e2,?_⟩ ((hz.trans G).symm T V);rcases l4 _ (G.trans m2) m3 with e|e
 .rw[e];omega
 exact Us e m1
theorem Bu(T:cq N a b){i:Nat}(D:i<N):(bB a b i/\bq a b i)↔¬(¬bq a b i\/∃th∈eF a b i,i∈th.2):=by
 have U:(∃th∈eF a b i,i∈th.2)↔∃m,m<i/\bB a b m/\bq a b m/\aB a b m i:=by
  unfold eF;constructor
  .rintro⟨th,G,J⟩;obtain⟨m,V,rfl⟩:=OO.mp G;obtain⟨m1,m2,m3⟩:=bI.mp V;exact⟨m,m1,m2,m3,((bH T (by omega) (.inr m3)).mem i).mp J⟩
  rintro⟨m,m1,m2,m3,m4⟩;exact⟨_,OO.mpr ⟨m,bI.mpr ⟨m1,m2,m3⟩,rfl⟩,((bH T (by omega) (.inr m3)).mem i).mpr m4⟩
 rw[U];constructor
 .rintro⟨G,J⟩ h;rcases h with h|⟨m,m1,m2,m3,m4⟩
  .exact h J
  have:=G m (m4.symm T (by omega));omega
 intro h;have w:bq a b i:=OU λz=>h (.inl z);refine⟨λy Z=>OU λz=>?_,w⟩;obtain⟨m,c1,c2,O⟩:=kJ T D;have:=O y ((c1.symm T D).trans Z);exact h (.inr ⟨m,by omega,O,w.of T D c1,c1.symm T D⟩)
theorem ia(i:Nat):eF a b (i+1)=eF a b i++(if bB a b i/\bq a b i then[(Kd.ring,cN a b i)]else[]):=by
 unfold eF RL;rw[Qg,O9,O5];congr 1;by_cases c:bB a b i/\bq a b i
 .rw[Uo c,Pe (by simpa using c)];rfl
 rw[Uk c,Pf (by simpa using c)];rfl
theorem xf(i:Nat):(eF a b i).length<=i:=by
 unfold eF RL;rw[OH];have z:=Pm (λm=>decide (bB a b m/\bq a b m)) (OV i);rwa[OW]at z
theorem sW{i:Nat}(h:¬bB a b i):cM a b (i+1)=cM a b i:=by rw[hZ,Uk (λz=>h z.1),Uk (λz=>h z.1)];omega
theorem ub{i:Nat}(h:gf a b i):¬bq a b i:=λw=>let⟨⟨u,D,G⟩,_⟩:=h;(w u D).1 G
theorem xg{i:Nat}(h:bB a b i)(o:gf a b i):cM a b (i+1)=cM a b i+1:=by rw[hZ,Uk (λz=>ub o z.2),Uo ⟨h,o⟩]
theorem vf{i:Nat}(h:bB a b i)(w:bq a b i):cM a b (i+1)=cM a b i+2:=by rw[hZ,Uo ⟨h,w⟩,Uk (λz=>ub z.2 w)]
theorem vg{i:Nat}(w:¬bq a b i)(o:¬gf a b i):cM a b (i+1)=cM a b i:=by rw[hZ,Uk (λz=>w z.2),Uk (λz=>o z.2)];omega
noncomputable def mn(L:List Nat):Nat:=L.foldl min (L.headD 0)
theorem Dg:∀(L:List Nat) (k:Nat),L.foldl min k<=k/\(∀x∈L,L.foldl min k<=x)/\(L.foldl min k=k\/L.foldl min k∈L)
 |[],k=>⟨ON _,λx D=>Us D Qp,.inl rfl⟩
 |y::r,k=>by
  obtain⟨O,G,J⟩:=Dg r (min k y);rw[Sx];refine⟨by omega,λx D=>?_,?_⟩
  .rcases Pa.mp D with rfl|D
   .omega
   exact G x D
  rcases J with e|e
  .by_cases c:k<=y
   .exact .inl (by rw[e];omega)
   have:min k y=y:=by omega
   exact .inr (by rw[e,this];exact O1)
  exact .inr (O0 _ e)
theorem gI{x:Nat}{L:List Nat}(C:bU a b x L):aB a b x (mn L)/\∀y,aB a b x y->mn L<=y:=by
 obtain⟨U,D,G⟩:=Dg L (L.headD 0);have J:=(C.mem x).mpr (aB.refl x);have hd:L.headD 0∈L:=by
  cases L with
  |nil=>cases J
  |cons z r=>exact O1
 refine⟨(C.mem _).mp ?_,λy O=>D y ((C.mem y).mpr O)⟩;rcases G with e|e
 .unfold mn;rw[e];exact hd
 exact e
theorem rq(T:cq N a b){x y:Nat}{L M:List Nat}(O:x<N)(J:y<N)(C:bU a b x L)(D:bU a b y M)(e:mn L=mn M):aB a b x y:=by
 have G:=(gI C).1;rw[e]at G;exact G.trans ((gI D).1.symm T J)
theorem keys_nodup(T:cq N a b):((pW N a b).map λth=>mn th.2).Nodup:=by
 have cA:∀u,u∈lH N a->bU a b u (cN b a u):=λu hu=>by
  obtain⟨u1,u2⟩:=dv.mp hu;have C:=bH T.swap u1 (.inl u2);exact⟨C.nd,λy=>by rw[<-ji];exact C.mem y⟩
 have cB:∀u,u∈lH N b->bU a b u (cN a b u):=λu hu=>by
  obtain⟨u1,u2⟩:=dv.mp hu;exact bH T u1 (.inl u2)
 unfold pW hG iG jZ eF;rw[O5,O5,Pp,Pp,Pp];refine PY.mpr ⟨PY.mpr ⟨eZ (Hy.filter _) λx J y U e=>?_,eZ (Hy.filter _) λx J y U e=>?_,?_⟩,eZ Ao λx J y U e=>?_,?_⟩
 .obtain⟨x1,x2⟩:=OZ.mp J;obtain⟨G,y2⟩:=OZ.mp U;obtain⟨D,O⟩:=dv.mp x1;obtain⟨V,Z⟩:=dv.mp G;have c:=rq T D V (cA x x1) (cA y G) e;have px:pA a b x:=Uw x2;have py:pA a b y:=Uw y2;by_cases o:(cN b a x).length%2=1
  .obtain⟨z,z1,z2⟩:=(nv T.swap D O).mp o;exact(ni T D O c Z z1.swap z2).symm
  obtain⟨l1,l2,l3,l4,l5⟩:=fx T.swap D O (by omega);rcases l4 y c.swap Z with e|e
  .exact e.symm
  exfalso;have o2:¬(cN b a y).length%2=1:=λo2=>by
   obtain⟨z,z1,z2⟩:=(nv T.swap V Z).mp o2;exact l5 z (c.swap.trans z1) z2
  obtain⟨m1,m2,m3,m4,m5⟩:=fx T.swap V Z (by omega);have q1:x<bE (cN b a x):=px.resolve_left o;have q2:y<bE (cN b a y):=py.resolve_left o2;rcases l4 _ (c.swap.trans m2) m3 with w|w
  .omega
  exact m1 (by omega)
 .obtain⟨x1,x2⟩:=OZ.mp J;obtain⟨G,y2⟩:=OZ.mp U;obtain⟨D,O⟩:=dv.mp x1;obtain⟨V,Z⟩:=dv.mp G;have c:=rq T D V (cB x x1) (cB y G) e;obtain⟨px1,px2⟩:pB a b x:=Uw x2;obtain⟨py1,py2⟩:pB a b y:=Uw y2;obtain⟨l1,l2,l3,l4,l5⟩:=fx T D O px1;obtain⟨m1,m2,m3,m4,m5⟩:=fx T V Z py1;rcases l4 y c Z with e|e
  .exact e.symm
  rcases l4 _ (c.trans m2) m3 with w|w
  .omega
  exact Us (show bE (cN a b y)=y by omega) m1
 .intro p hp q hq e;obtain⟨x,J,rfl⟩:=OO.mp hp;obtain⟨y,U,rfl⟩:=OO.mp hq;obtain⟨x1,x2⟩:=OZ.mp J;obtain⟨G,y2⟩:=OZ.mp U;obtain⟨D,O⟩:=dv.mp x1;obtain⟨V,Z⟩:=dv.mp G;have c:=rq T D V (cA x x1) (cB y G) e;obtain⟨py1,py2⟩:pB a b y:=Uw y2;obtain⟨m1,m2,m3,m4,m5⟩:=fx T V Z py1;exact m5 x (c.symm T D) O
 .obtain⟨x1,x2,x3⟩:=bI.mp J;obtain⟨G,y2,y3⟩:=bI.mp U;have c:=rq T x1 G (bH T x1 (.inr x3)) (bH T G (.inr y3)) e;have:=x2 y c;have:=y2 x (c.symm T x1);omega
 intro p hp q hq e;obtain⟨y,U,rfl⟩:=OO.mp hq;obtain⟨G,y2,y3⟩:=bI.mp U;have key:∃x,x<N/\¬bq a b x/\∃L,bU a b x L/\p=mn L:=by
  rcases OY.mp hp with h|h
  .obtain⟨x,J,rfl⟩:=OO.mp h;have x1:=(OZ.mp J).1;obtain⟨D,O⟩:=dv.mp x1;exact⟨x,D,λw=>(w x (aB.refl x)).1 O,_,cA x x1,rfl⟩
  obtain⟨x,J,rfl⟩:=OO.mp h;have x1:=(OZ.mp J).1;obtain⟨D,O⟩:=dv.mp x1;exact⟨x,D,λw=>(w x (aB.refl x)).2 O,_,cB x x1,rfl⟩
 obtain⟨x,D,nw,L,C,rfl⟩:=key;exact nw (y3.of T G ((rq T D G C (bH T G (.inr y3)) e).symm T D))
theorem lI(T:cq N a b){th:Kd×List Nat}(h:th∈pW N a b):∃u,u<N/\bU a b u th.2:=by
 rcases OY.mp h with h|h
 .obtain⟨u,D,_,G⟩:=oC T h;exact⟨u,D,G⟩
 obtain⟨m,J,rfl⟩:=OO.mp h;obtain⟨m1,m2,m3⟩:=bI.mp J;exact⟨m,m1,bH T m1 (.inr m3)⟩
theorem rA(T:cq N a b):(pW N a b).length<=N:=by
 have z:=sub_len (keys_nodup T) (m:=OV N) λx D=>by
  obtain⟨th,h,rfl⟩:=OO.mp D;obtain⟨u,G,C⟩:=lI T h;exact OX.mpr ((gI C).1.lt T G)
 rwa[OH,OW]at z
theorem IU(T:cq N a b):((pW N a b).filter λth=>th.1=.odd).length=(OL a b N).length:=by
 unfold pW hG iG jZ eF;rw[O9,O9,Rg,Rg,Rg,OQ,OQ,OH,OH,OH];have e1:(((lH N b).filter λz=>decide (pB a b z)).filter ((λth:Kd×List Nat=>decide (th.1=.odd)) ∘ eB a b))=[]:=Qt.mpr λx _=>by simp[eB]
 have e2:((RL a b N).filter ((λth:Kd×List Nat=>decide (th.1=.odd)) ∘ λm=>(Kd.ring,cN a b m)))=[]:=Qt.mpr λx _=>by simp
 rw[e1,e2];have e3:(((lH N a).filter λu=>decide (pA a b u)).filter ((λth:Kd×List Nat=>decide (th.1=.odd)) ∘ eA a b))=OL a b N:=by
  unfold OL lH;rw[R3,R3];refine QH λx V=>?_;have O:=OX.mp V;rw[QV,PX,PX,beq_iff_eq,Uy,Uy];show(decide ((if(cN b a x).length%2=1 then Kd.odd else Kd.bare)=Kd.odd)=true/\_)/\_↔_;rw[Uy];constructor
  .rintro⟨⟨U,h2⟩,Z⟩;have D:=Z.symm;have o:(cN b a x).length%2=1:=by
    refine OU λz=>?_;rw[Uk z]at U;cases U
   obtain⟨z,G,J⟩:=(nv T.swap O D).mp o;exact⟨D,z,G.swap,J⟩
  rintro⟨D,z,G,J⟩;have o:=(nv T.swap O D).mpr ⟨z,G.swap,J⟩;exact⟨⟨by rw[Uo o],.inl o⟩,D.symm⟩
 rw[e3]
 rfl
theorem Gm:((pW N a b).filter λth=>th.1=.ring).length=(RL a b N).length:=by
 unfold pW hG iG jZ eF;rw[O9,O9,Rg,Rg,Rg,OQ,OQ,OH,OH,OH];have e1:(((lH N b).filter λz=>decide (pB a b z)).filter ((λth:Kd×List Nat=>decide (th.1=.ring)) ∘ eB a b))=[]:=Qt.mpr λx _=>by simp[eB]
 have e3:(((lH N a).filter λu=>decide (pA a b u)).filter ((λth:Kd×List Nat=>decide (th.1=.ring)) ∘ eA a b))=[]:=Qt.mpr λx _=>by
  simp only[Function.comp,eA]
  split <;> simp
 have e2:((RL a b N).filter ((λth:Kd×List Nat=>decide (th.1=.ring)) ∘ λm=>(Kd.ring,cN a b m)))=RL a b N:=RV.mpr λx _=>by simp
 rw[e1,e2,e3];simp
end
noncomputable def cnt(N:Nat)(P:Nat->Prop):Nat:=((OV N).filter λx=>decide (P x)).length
theorem jl{N:Nat}{P Q:Nat->Prop}(h:∀x,x<N->(P x↔Q x)):cnt N P=cnt N Q:=by
 unfold cnt;congr 1;refine QH λx D=>?_;have:=h x (OX.mp D);simp[this]
theorem jD{N m:Nat}{P Q:Nat->Prop}(U:m<N)(V:¬P m)(h:∀x,x<N->(Q x↔P x\/x=m)):cnt N Q=cnt N P+1:=by
 unfold cnt;have nd:(OV N).Nodup:=PL;have mem:m∈OV N:=OX.mpr U;have lt:∀x∈OV N,x<N:=λx D=>OX.mp D;generalize OV N=l at nd mem lt
 induction l with
 |nil=>cases mem
 |cons y l G =>
  rw[Qy]at nd;have J:=h y (lt y (O1 ..));by_cases e:y=m
  .subst e;have O:Q y:=J.mpr (.inr rfl);rw[Pe (by simpa using O),Pf (by simpa using V),Ph];congr 2;refine QH λx D=>?_;have Z:=h x (lt x (O0 _ D));have h2:x≠y:=λz=>nd.1 (z▸D);simp[Z,h2]
  have mem:m∈l:=by
   rcases Pa.mp mem with z|z
   .exact Us z.symm e
   exact z
  have G:=G nd.2 mem (λx D=>lt x (O0 _ D));by_cases hp:P y
  .rw[Pe (by simpa using J.mpr (.inl hp)),Pe (by simpa using hp),Ph,Ph,G]
  have O:¬Q y:=λz=>by
   rcases J.mp z with z|z
   .exact hp z
   exact e z
  rw[Pf (by simpa using O),Pf (by simpa using hp),G]
variable {N:Nat}{a b:Nat->Nat}
def g7(a b:Nat->Nat)(u:Nat):Prop:=∃z,aB a b u z/\b z=z
theorem lJ:score a b N=2*cnt N (λm=>bB a b m/\bq a b m)+cnt N (λu=>a u=u/\g7 a b u):=by
 unfold score cnt RL OL g7;congr 1
 .congr 2;refine QH λx _=>?_;simp
 congr 1;refine QH λx _=>?_;simp
theorem rB{a2 G:Nat->Nat}(T:cq N a b)(U:∀x,x<N->a2 x=a x)(V:∀x,x<N->G x=b x){x y:Nat}(Z:x<N)(h:aB a b x y):aB a2 G x y:=λS h1 J =>
 (h (λz=>z<N/\S z) ⟨Z,h1⟩ λz ⟨D,O⟩=>⟨⟨T.fl z D,U z D▸(J z O).1⟩,⟨T.gl z D,V z D▸(J z O).2⟩⟩).2
theorem cq.congr{a2 J:Nat->Nat}(T:cq N a b)(D:∀x,x<N->a2 x=a x)(G:∀x,x<N->J x=b x):cq N a2 J :=
 ⟨λx h=>by rw[D x h];exact T.fl x h,λx h=>by rw[G x h];exact T.gl x h,λx h=>by rw[D x h,D _ (T.fl x h)];exact T.ff x h,λx h=>by rw[G x h,G _ (T.gl x h)];exact T.gg x h⟩
theorem dh{a2 b2:Nat->Nat}(T:cq N a b)(V:∀x,x<N->a2 x=a x)(O:∀x,x<N->b2 x=b x):score a2 b2 N=score a b N:=by
 have T2:=T.congr V O;have Z:∀x y,x<N->(aB a2 b2 x y↔aB a b x y):=λx y hx=>⟨λh=>rB T2 (λz hz=>(V z hz).symm) (λz hz=>(O z hz).symm) hx h,λh=>rB T V O hx h⟩
 rw[lJ,lJ];congr 1
 .congr 1;refine jl λm hm=>?_;unfold bB bq;constructor
  .rintro⟨U,D⟩;refine⟨λy G=>U y ((Z m y hm).mpr G),λy G=>?_⟩;have J:=G.lt T hm;have:=D y ((Z m y hm).mpr G);rwa[V y J,O y J]at this
  rintro⟨U,D⟩;refine⟨λy G=>U y ((Z m y hm).mp G),λy G=>?_⟩;have G:=(Z m y hm).mp G;have J:=G.lt T hm;rw[V y J,O y J];exact D y G
 refine jl λu hu=>?_;unfold g7;rw[V u hu];constructor
 .rintro⟨U,z,D,h3⟩;have D:=(Z u z hu).mp D;exact⟨U,z,D,by rwa[O z (D.lt T hu)]at h3⟩
 rintro⟨U,z,D,h3⟩;exact⟨U,z,(Z u z hu).mpr D,by rw[O z (D.lt T hu)];exact h3⟩
noncomputable def link(a:Nat->Nat)(u v x:Nat):Nat:=if x=u then v else if x=v then u else a x
section
variable {u v:Nat}
theorem gM(T:cq N a b)(G:u<N)(D:v<N)(J:a u=u)(O:a v=v):cq N (link a u v) b:=by
 refine⟨λx h=>?_,T.gl,λx h=>?_,T.gg⟩
 .have:=T.fl x h;unfold link
  split
  .exact D
  split <;> assumption
 have:=T.ff x h;have:=T.fl x h;unfold link;grind
theorem uc(T:cq N a b)(Z:u<N)(hv:v<N)(J:a u=u)(O:a v=v)(x y:Nat):aB (link a u v) b x y↔aB a b x y\/(aB a b x u/\aB a b v y)\/(aB a b x v/\aB a b u y):=by
 have up:∀{x y},aB a b x y->aB (link a u v) b x y:=λ{x y} h S D G=>h S D λz hz=>by
  have:=G z hz;unfold link at this;refine⟨?_,this.2⟩;by_cases e1:z=u
  .rw[e1,J];rwa[e1]at hz
  by_cases e2:z=v
  .rw[e2,O];rwa[e2]at hz
  simpa[e1,e2]using this.1
 have U:aB (link a u v) b u v:=by
  have:=(aB.refl (f:=link a u v) (g:=b) u).sf;rwa[show link a u v u=v by unfold link;rw[Uo rfl]]at this
 have V:aB (link a u v) b v u:=by
  have:=(aB.refl (f:=link a u v) (g:=b) v).sf;by_cases e:v=u
  .subst e;exact aB.refl _
  rwa[show link a u v v=u by unfold link;rw[Uk e,Uo rfl]]at this
 constructor
 .intro h;refine h (λy=>aB a b x y\/(aB a b x u/\aB a b v y)\/(aB a b x v/\aB a b u y)) (.inl (aB.refl _)) λz hz=>⟨?_,?_⟩
  .show aB a b x (link a u v z)\/(aB a b x u/\aB a b v (link a u v z))\/(aB a b x v/\aB a b u (link a u v z))
   unfold link;by_cases e1:z=u
   .subst e1;rw[Uo rfl];rcases hz with D|⟨D,G⟩|⟨D,G⟩
    .exact .inr (.inl ⟨D,aB.refl _⟩)
    .exact .inr (.inl ⟨D,aB.refl _⟩)
    exact .inl D
   rw[Uk e1];by_cases e2:z=v
   .subst e2;rw[Uo rfl];rcases hz with D|⟨D,G⟩|⟨D,G⟩
    .exact .inr (.inr ⟨D,aB.refl _⟩)
    .exact .inl D
    exact .inr (.inr ⟨D,aB.refl _⟩)
   rw[Uk e2];rcases hz with D|⟨D,G⟩|⟨D,G⟩
   .exact .inl D.sf
   .exact .inr (.inl ⟨D,G.sf⟩)
   exact .inr (.inr ⟨D,G.sf⟩)
  rcases hz with D|⟨D,G⟩|⟨D,G⟩
  .exact .inl D.sg
  .exact .inr (.inl ⟨D,G.sg⟩)
  exact .inr (.inr ⟨D,G.sg⟩)
 rintro(h|⟨D,G⟩|⟨D,G⟩)
 .exact up h
 .exact((up D).trans U).trans (up G)
 exact((up D).trans V).trans (up G)
noncomputable def pt(a b:Nat->Nat)(u:Nat):Option Nat:=if h:∃v,v≠u/\aB a b u v/\a v=v then some (choose h)else none
theorem dk(T:cq N a b)(O:u<N)(U:a u=u):pt a b u=none↔g7 a b u:=by
 unfold pt;constructor
 .intro h;by_cases c:g7 a b u
  .exact c
  obtain⟨v,D,G,J,_⟩:=nr T O U c;rw[Wn ⟨v,D,G,J⟩]at h;cases h
 rintro⟨z,V,Z⟩;rw[dif_neg];rintro⟨v,D,G,J⟩;exact D (ni T O U G J V Z)
theorem cv(T:cq N a b)(U:u<N)(V:a u=u):pt a b u=Ya v↔v≠u/\aB a b u v/\a v=v:=by
 constructor
 .intro h;unfold pt at h
  split at h
  .rename_i D;have:=choose_spec D;rw[Option.some.inj h]at this;exact this
  cases h
 rintro⟨G,J,O⟩;have no:¬g7 a b u:=λ⟨z,z1,z2⟩=>G (ni T U V J O z1 z2);obtain⟨w,w1,w2,w3,Z⟩:=nr T U V no;have D:∃v,v≠u/\aB a b u v/\a v=v:=⟨v,G,J,O⟩
 unfold pt;rw[Wn D];obtain⟨q1,q2,q3⟩:=choose_spec D;have e1:=(Z v J O).resolve_left G;have e2:=(Z _ q2 q3).resolve_left q1;rw[e2,e1]
theorem gi(T:cq N a b)(D:u<N)(G:a u=u)(h:pt a b u=Ya v):v<N/\a v=v/\v≠u/\pt a b v=Ya u:=by
 obtain⟨J,O,U⟩:=(cv T D G).mp h;have V:=O.lt T D;exact⟨V,U,J,(cv T V U).mpr ⟨J.symm,O.symm T D,G⟩⟩
theorem Gn(T:cq N a b)(D:u<N)(G:a u=u)(J:a v=v)(h:aB a b u v):v=u\/pt a b u=Ya v:=by
 by_cases e:v=u
 .exact .inl e
 exact .inr ((cv T D G).mpr ⟨e,h,J⟩)
noncomputable def dl(a b:Nat->Nat)(u v:Nat):Int:=if pt a b u=Ya v then 2 else if pt a b u=none/\pt a b v=none then -2 else 0
theorem lK(T:cq N a b)(U:u<N)(V:v<N)(Z:a u=u)(av:a v=v)(G:u≠v){w:Nat}(hw:w<N)(J:a w=w)(wu:w≠u)(wv:w≠v) :
  pt (link a u v) b w=if pt a b w=Ya u then pt a b v else if pt a b w=Ya v then pt a b u else pt a b w:=by
 have O:=gM T U V Z av;have lw:∀{x},x≠u->x≠v->link a u v x=a x:=λ{x} h1 h2=>by unfold link;rw[Uk h1,Uk h2]
 have lu:link a u v u=v:=by unfold link;rw[Uo rfl]
 have lv:link a u v v=u:=by unfold link;rw[Uk G.symm,Uo rfl]
 have law:link a u v w=w:=by rw[lw wu wv];exact J
 have cl:=uc T U V Z av;by_cases c1:pt a b w=Ya u
 .rw[Uo c1];obtain⟨_,_,_,Nt⟩:=gi T hw J c1;obtain⟨d1,d2,d3⟩:=(cv T hw J).mp c1;cases hp:pt a b v with
  |none =>
   obtain⟨z,z1,z2⟩:=(dk T V av).mp hp;exact(dk O hw law).mpr ⟨z,(cl w z).mpr (.inr (.inl ⟨d2,z1⟩)),z2⟩
  |some v' =>
   obtain⟨e1,e2,e3⟩:=(cv T V av).mp hp;obtain⟨_,_,_,D⟩:=gi T V av hp;have n1:v'≠w:=λz=>by rw[z,c1]at D;exact G (Option.some.inj D)
   have n2:v'≠u:=λz=>by rw[z,Nt]at D;exact wv (Option.some.inj D)
   exact(cv O hw law).mpr ⟨n1,(cl w v').mpr (.inr (.inl ⟨d2,e2⟩)),by rw[lw n2 e1];exact e3⟩
 rw[Uk c1];by_cases c2:pt a b w=Ya v
 .rw[Uo c2];obtain⟨_,_,_,c2s⟩:=gi T hw J c2;obtain⟨d1,d2,d3⟩:=(cv T hw J).mp c2;cases hp:pt a b u with
  |none =>
   obtain⟨z,z1,z2⟩:=(dk T U Z).mp hp;exact(dk O hw law).mpr ⟨z,(cl w z).mpr (.inr (.inr ⟨d2,z1⟩)),z2⟩
  |some u' =>
   obtain⟨e1,e2,e3⟩:=(cv T U Z).mp hp;obtain⟨_,_,_,D⟩:=gi T U Z hp;have n1:u'≠w:=λz=>by rw[z,c2]at D;exact G (Option.some.inj D).symm
   have n2:u'≠v:=λz=>by rw[z,c2s]at D;exact wu (Option.some.inj D)
   exact(cv O hw law).mpr ⟨n1,(cl w u').mpr (.inr (.inr ⟨d2,e2⟩)),by rw[lw e1 n2];exact e3⟩
 rw[Uk c2];cases hp:pt a b w with
 |none =>
  obtain⟨z,z1,z2⟩:=(dk T hw J).mp hp;exact(dk O hw law).mpr ⟨z,(cl w z).mpr (.inl z1),z2⟩
 |some w' =>
  obtain⟨e1,e2,e3⟩:=(cv T hw J).mp hp;have n1:w'≠u:=λz=>c1 (by rw[hp,z]);have n2:w'≠v:=λz=>c2 (by rw[hp,z]);exact(cv O hw law).mpr ⟨e1,(cl w w').mpr (.inl e2),by rw[lw n1 n2];exact e3⟩
theorem dm(T:cq N a b)(hu:u<N)(hv:v<N)(au:a u=u)(av:a v=v)(Kn:u≠v):(score (link a u v) b N:Int)=score a b N+dl a b u v:=by
 have T2:=gM T hu hv au av;have lw:∀{x},x≠u->x≠v->link a u v x=a x:=λ{x} D G=>by unfold link;rw[Uk D,Uk G]
 have lu:link a u v u=v:=by unfold link;rw[Uo rfl]
 have lv:link a u v v=u:=by unfold link;rw[Uk Kn.symm,Uo rfl]
 have cl:=uc T hu hv au av;have lo:∀x,link a u v x=x↔a x=x/\x≠u/\x≠v:=λx=>by
  unfold link;constructor
  .intro h
   split at h
   .rename_i e;exact Us (h.trans e).symm Kn
   split at h
   .rename_i e;exact Us (h.trans e) Kn
   exact⟨h,by assumption,by assumption⟩
  rintro⟨D,G,h3⟩;rw[Uk G,Uk h3];exact D
 have od:∀w,w<N->((link a u v w=w/\g7 (link a u v) b w)↔(a w=w/\w≠u/\w≠v/\(if pt a b w=Ya u then pt a b v else if pt a b w=Ya v then pt a b u else pt a b w)=none)):=λw hw=>by
  constructor
  .rintro⟨D,G⟩;obtain⟨h3,J,h5⟩:=(lo w).mp D;refine⟨h3,J,h5,?_⟩;rw[<-lK T hu hv au av Kn hw h3 J h5];exact(dk T2 hw D).mpr G
  rintro⟨h3,J,h5,h6⟩;have D:=(lo w).mpr ⟨h3,J,h5⟩;rw[<-lK T hu hv au av Kn hw h3 J h5]at h6;exact⟨D,(dk T2 hw D).mp h6⟩
 have od0:∀w,w<N->((a w=w/\g7 a b w)↔(a w=w/\pt a b w=none)):=λw hw=>by
  constructor
  .rintro⟨D,G⟩;exact⟨D,(dk T hw D).mpr G⟩
  rintro⟨D,G⟩;exact⟨D,(dk T hw D).mp G⟩
 have sy:∀{x y},x<N->a x=x->pt a b x=Ya y->pt a b y=Ya x:=λhx ax h=>(gi T hx ax h).2.2.2;rw[lJ,lJ];have far:∀m,m<N->¬aB a b m u->¬aB a b m v->((bB (link a u v) b m/\bq (link a u v) b m)↔(bB a b m/\bq a b m)):=λm hm V n2=>by
  have cc:∀y,aB (link a u v) b m y↔aB a b m y:=λy=>by
   rw[cl m y];constructor
   .rintro(h|⟨h,_⟩|⟨h,_⟩)
    .exact h
    .exact Us h V
    exact Us h n2
   exact .inl
  unfold bB bq;constructor
  .rintro⟨D,G⟩;refine⟨λy Z=>D y ((cc y).mpr Z),λy Z=>?_⟩;have:=G y ((cc y).mpr Z);rwa[lw (λz=>V (z▸Z)) (λz=>n2 (z▸Z))]at this
  rintro⟨D,G⟩;refine⟨λy Z=>D y ((cc y).mp Z),λy Z=>?_⟩;have Z:=(cc y).mp Z;rw[lw (λz=>V (z▸Z)) (λz=>n2 (z▸Z))];exact G y Z
 have near:∀m,aB a b m u\/aB a b m v->¬bq a b m:=λm h w=>by
  rcases h with h|h
  .exact(w u h).1 au
  exact(w v h).1 av
 have rs:(∃z,(aB (link a u v) b u z/\(link a u v z=z\/b z=z)))->cnt N (λm=>bB (link a u v) b m/\bq (link a u v) b m)=cnt N (λm=>bB a b m/\bq a b m):=λ⟨z,z1,z2⟩=>jl λm hm=>by
  by_cases V:aB a b m u\/aB a b m v
  .constructor
   .rintro⟨_,G⟩;have mz:aB (link a u v) b m z:=by
     rcases V with V|V
     .exact aB.trans ((cl m u).mpr (.inl V)) z1
     exact aB.trans ((cl m u).mpr (.inr (.inr ⟨V,aB.refl _⟩))) z1
    have:=G z mz;rcases z2 with z2|z2
    .exact Us z2 this.1
    exact Us z2 this.2
   rintro⟨_,G⟩;exact Us G (near m V)
  exact far m hm (λz=>V (.inl z)) (λz=>V (.inr z))
 unfold dl;by_cases c1:pt a b u=Ya v
 .have Nt:=sy hu au c1;rw[Uo c1];obtain⟨_,cuv,_⟩:=(cv T hu au).mp c1;have nou:¬g7 a b u:=λh=>by rw[(dk T hu au).mpr h]at c1;cases c1
  have e1:cnt N (λw=>link a u v w=w/\g7 (link a u v) b w)=cnt N (λw=>a w=w/\g7 a b w):=jl λw hw=>by
   rw[od w hw,od0 w hw];constructor
   .rintro⟨D,G,h3,J⟩;refine⟨D,?_⟩
    split at J
    .rename_i e;have:=sy hw D e;rw[c1]at this;exact Us (Option.some.inj this).symm h3
    split at J
    .rename_i e;have:=sy hw D e;rw[Nt]at this;exact Us (Option.some.inj this).symm G
    exact J
   rintro⟨D,G⟩;refine⟨D,λz=>(by rw[z,c1]at G;cases G),λz=>(by rw[z,Nt]at G;cases G),?_⟩;rw[G];rfl
  obtain⟨m0,m1,m2,m3⟩:=kJ T hu;have e2:cnt N (λm=>bB (link a u v) b m/\bq (link a u v) b m)=cnt N (λm=>bB a b m/\bq a b m)+1:=by
   have m0u:=m1.symm T hu;refine jD m2 (λz=>near m0 (.inl m0u) z.2) λm hm=>?_;by_cases V:aB a b m u
   .have cc:∀y,aB (link a u v) b m y↔aB a b m y:=λy=>by
     rw[cl m y];constructor
     .rintro(h|⟨h,h'⟩|⟨h,h'⟩)
      .exact h
      .exact(V.trans cuv).trans h'
      exact V.trans h'
     exact .inl
    have wh:bq (link a u v) b m:=λy Z=>by
     have Z:=(cc y).mp Z;have uy:aB a b u y:=(V.symm T hm).trans Z;refine⟨λz=>?_,λz=>nou ⟨y,uy,z⟩⟩;obtain⟨z1,z2,z3⟩:=(lo y).mp z;rcases Gn T hu au z1 uy with e|e
     .exact z2 e
     rw[c1]at e;exact z3 (Option.some.inj e).symm
    constructor
    .rintro⟨D,_⟩;have q1:=D m0 ((cc m0).mpr (V.trans m1));have q2:=m3 m (m0u.trans (V.symm T hm));exact .inr (by omega)
    rintro(h|h)
    .exact Us h.2 (near m (.inl V))
    subst h;exact⟨λy Z=>m3 y ((cc y).mp Z),wh⟩
   have n2:¬aB a b m v:=λz=>V (z.trans (cuv.symm T hu));rw[far m hm V n2];constructor
   .exact .inl
   rintro(h|h)
   .exact h
   subst h;exact Us m0u V
  rw[e1,e2];omega
 rw[Uk c1];have c1v:pt a b v≠Ya u:=λz=>c1 (sy hv av z);by_cases c2:pt a b u=none/\pt a b v=none
 .obtain⟨c2,c3⟩:=c2;rw[Uo ⟨c2,c3⟩];have nw:∀w,w<N->a w=w->pt a b w≠Ya u/\pt a b w≠Ya v:=λw hw aw=>⟨λz=>(by have:=sy hw aw z;rw[c2]at this;cases this),λz=>(by have:=sy hw aw z;rw[c3]at this;cases this)⟩
  have e1:cnt N (λw=>a w=w/\g7 a b w)=cnt N (λw=>(link a u v w=w/\g7 (link a u v) b w)\/w=u)+1:=by
   refine jD hv ?_ λw hw=>?_
   .rintro(h|h)
    .exact((lo v).mp h.1).2.2 rfl
    exact Kn h.symm
   rw[od w hw,od0 w hw];constructor
   .rintro⟨D,G⟩;by_cases q1:w=u
    .exact .inl (.inr q1)
    by_cases q2:w=v
    .exact .inr q2
    refine .inl (.inl ⟨D,q1,q2,?_⟩);rw[G];rfl
   rintro((⟨D,G,h3,J⟩|h)|h)
   .rw[Uk (nw w hw D).1,Uk (nw w hw D).2]at J;exact⟨D,J⟩
   .subst h;exact⟨au,c2⟩
   subst h;exact⟨av,c3⟩
  have e2:cnt N (λw=>(link a u v w=w/\g7 (link a u v) b w)\/w=u)=cnt N (λw=>link a u v w=w/\g7 (link a u v) b w)+1 :=
   jD hu (λz=>((lo u).mp z.1).2.1 rfl) λw hw=>Iff.rfl
  have e3:=rs (by
   obtain⟨z,z1,z2⟩:=(dk T hu au).mp c2;exact⟨z,(cl u z).mpr (.inl z1),.inr z2⟩)
  rw[e1,e2,e3];omega
 rw[Uk c2];cases U:pt a b u with
 |some u' =>
  obtain⟨u1,u2,u3,u4⟩:=gi T hu au U;have nuv:u'≠v:=λz=>c1 (by rw[U,z]);have e3:=rs ⟨u',(cl u u').mpr (.inl ((cv T hu au).mp U).2.1),.inl ((lo u').mpr ⟨u2,u3,nuv⟩)⟩;rw[e3];cases O:pt a b v with
  |some v' =>
   obtain⟨v1,v2,v3,v4⟩:=gi T hv av O;have e1:cnt N (λw=>link a u v w=w/\g7 (link a u v) b w)=cnt N (λw=>a w=w/\g7 a b w):=jl λw hw=>by
    rw[od w hw,od0 w hw];constructor
    .rintro⟨D,G,h3,J⟩;refine⟨D,?_⟩
     split at J
     .rw[O]at J;cases J
     split at J
     .rw[U]at J;cases J
     exact J
    rintro⟨D,G⟩;refine⟨D,λz=>(by rw[z,U]at G;cases G),λz=>(by rw[z,O]at G;cases G),?_⟩;rw[G];rfl
   rw[e1];omega
  |none =>
   have nw:∀w,w<N->a w=w->pt a b w≠Ya v:=λw hw aw z=>by have:=sy hw aw z;rw[O]at this;cases this
   have e1:cnt N (λw=>a w=w/\g7 a b w)=cnt N (λw=>a w=w/\g7 a b w/\w≠v)+1:=by
    refine jD hv (λz=>z.2.2 rfl) λw hw=>?_;constructor
    .rintro⟨D,G⟩;by_cases q:w=v
     .exact .inr q
     exact .inl ⟨D,G,q⟩
    rintro(⟨D,G,_⟩|h)
    .exact⟨D,G⟩
    subst h;exact⟨av,(dk T hw av).mp O⟩
   have e2:cnt N (λw=>link a u v w=w/\g7 (link a u v) b w)=cnt N (λw=>a w=w/\g7 a b w/\w≠v)+1:=by
    refine jD u1 (λz=>by have:=(dk T u1 u2).mpr z.2.1;rw[u4]at this;cases this) λw hw=>?_;rw[od w hw];constructor
    .rintro⟨D,G,h3,J⟩
     split at J
     .rename_i e;have:=sy hw D e;rw[U]at this;exact .inr (Option.some.inj this).symm
     rw[Uk (nw w hw D)]at J;exact .inl ⟨D,(dk T hw D).mp J,h3⟩
    rintro(⟨D,G,h3⟩|h)
    .have J:=(dk T hw D).mpr G;refine⟨D,λz=>(by rw[z,U]at J;cases J),h3,?_⟩;rw[J];rfl
    subst h;refine⟨u2,u3,nuv,?_⟩;rw[Uo u4];exact O
   rw[e1,e2];omega
 |none =>
  cases O:pt a b v with
  |none=>exact Us ⟨U,O⟩ c2
  |some v' =>
   obtain⟨v1,v2,v3,v4⟩:=gi T hv av O;have nvu:v'≠u:=λz=>c1v (by rw[O,z]);have e3:=rs ⟨v',(cl u v').mpr (.inr (.inl ⟨aB.refl _,((cv T hv av).mp O).2.1⟩)),.inl ((lo v').mpr ⟨v2,nvu,v3⟩)⟩;rw[e3];have nw:∀w,w<N->a w=w->pt a b w≠Ya u:=λw hw aw z=>by have:=sy hw aw z;rw[U]at this;cases this
   have e1:cnt N (λw=>a w=w/\g7 a b w)=cnt N (λw=>a w=w/\g7 a b w/\w≠u)+1:=by
    refine jD hu (λz=>z.2.2 rfl) λw hw=>?_;constructor
    .rintro⟨D,G⟩;by_cases q:w=u
     .exact .inr q
     exact .inl ⟨D,G,q⟩
    rintro(⟨D,G,_⟩|h)
    .exact⟨D,G⟩
    subst h;exact⟨au,(dk T hw au).mp U⟩
   have e2:cnt N (λw=>link a u v w=w/\g7 (link a u v) b w)=cnt N (λw=>a w=w/\g7 a b w/\w≠u)+1:=by
    refine jD v1 (λz=>by have:=(dk T v1 v2).mpr z.2.1;rw[v4]at this;cases this) λw hw=>?_;rw[od w hw];constructor
    .rintro⟨D,G,h3,J⟩;rw[Uk (nw w hw D)]at J
     split at J
     .rename_i e;have:=sy hw D e;rw[O]at this;exact .inr (Option.some.inj this).symm
     exact .inl ⟨D,(dk T hw D).mp J,G⟩
    rintro(⟨D,G,h3⟩|h)
    .have J:=(dk T hw D).mpr G;refine⟨D,h3,λz=>(by rw[z,O]at J;cases J),?_⟩;rw[J];rfl
    subst h;refine⟨v2,nvu,v3,?_⟩;rw[Uk (nw _ v1 v2),Uo v4];exact U
   rw[e1,e2];omega
end
end Th
namespace xh
open PySem PySem.Spec PyProof.Rows
open Sem (wp)
open AutoSeq1 (wpAny_loadPart')
section
variable {prog:Ux}{w:UA}{A:UG}{E:Uj->Uq->Prop}{s:Uq}
theorem pX{G t:Um}{i:Nat}{items:Array Uj}{x:Uj}{Q:Uj->Uq->Prop}(D:s.heap.IsTupleIter G t i)(V:s.heap.IsTuple t items)(Z:items[i]?=Ya x)
  (hQ:∀h',h'.IsTupleIter G t (i+1)->Heap.SameBut G s.heap h'->Q x { s with heap:=h' }):wpAny (model prog w) A (Builtin.SmallTypes.nextOf (.ref G)) Q E s:=by
 obtain⟨o,J,hc,hd⟩:=id D;obtain⟨ol,O,_,nl,U⟩:=V;unfold Builtin.SmallTypes.nextOf;refine Uh (wpAny_callSpecial?_slot (name:=Str.ofString "__next__") D.typeIs F.slot_tuple_iterator_next (UM F.slot_tuple_iterator_next D.typeIs F.entry_tuple_iterator_next ?_ (F.args_tuple_iterator_next_1 _)));show wpAny _ _ (field (.ref G) 0 >>= _) _ _ s;refine Uh (UW J hd (x:=.ref t) rfl ?_);show wpAny _ _ (if(Value.ref t==Value.none)=true then _ else _) _ _ s;rw[Uk (show¬((Value.ref t==Value.none)=true)from O2)];show wpAny _ _ (field (.ref G) 1 >>= _) _ _ s;refine Uh (UW J hd (x:=.int i 0) rfl ?_);show wpAny _ _ (seqItems? (.ref t) >>= _) _ _ s;refine Uh (Vg O U ?_);simp only[Pq,Z];refine Uh (VF J hd (by simp) (Ur ⟨x,rfl,Ur (hQ _ ?_ (Heap.SameBut.update ..))⟩));exact⟨_,Qz _ J (Obj.isFreed_of_fields (Obj.data_mapFields hd _)),(Obj.cls_mapFields ..).trans hc,by
  rw[Obj.data_mapFields hd];simp[rawInt]⟩
theorem rC{G t:Um}{i:Nat}{items:Array Uj}{Q:Uj->Uq->Prop}(V:A.handled=none)(D:s.heap.IsTupleIter G t i)(Z:s.heap.IsTuple t items)(hx:items[i]?=none)
  (hE:∀h' e,Heap.ExtBut G s.heap h'->(∃o,h'.get? e=Ya o/\o.cls=.type "StopIteration")->E (.ref e) { s with heap:=h' }):wpAny (model prog w) A (Builtin.SmallTypes.nextOf (.ref G)) Q E s:=by
 obtain⟨o,J,hc,hd⟩:=id D;obtain⟨ol,O,_,nl,U⟩:=Z;unfold Builtin.SmallTypes.nextOf;refine Uh (wpAny_callSpecial?_slot (name:=Str.ofString "__next__") D.typeIs F.slot_tuple_iterator_next (UM F.slot_tuple_iterator_next D.typeIs F.entry_tuple_iterator_next ?_ (F.args_tuple_iterator_next_1 _)));show wpAny _ _ (field (.ref G) 0 >>= _) _ _ s;refine Uh (UW J hd (x:=.ref t) rfl ?_);show wpAny _ _ (if(Value.ref t==Value.none)=true then _ else _) _ _ s;rw[Uk (show¬((Value.ref t==Value.none)=true)from O2)];show wpAny _ _ (field (.ref G) 1 >>= _) _ _ s;refine Uh (UW J hd (x:=.int i 0) rfl ?_);show wpAny _ _ (seqItems? (.ref t) >>= _) _ _ s;refine Uh (Vg O U ?_);simp only[Pq,hx];refine Uh (Vq (Uh (VF J hd (by simp) ?_)));show wpAny _ _ (newExc (.type "StopIteration") [] >>= _) _ _ _;refine Uh ?_;simp only[newExc,XB];refine Uh (UN ?_ (by size_fits));refine Uh (m:=V2 _ _) (WG (a:=Value.none) (by first|rfl|(simp only[V2];rfl)) ?_);refine UN ?_ (by size_fits);simp only[raiseNew];refine Uh (wpAny_handled ?_)
 first|rw[show A.in1.handled=none from V]|rw[V]
 refine Uh (Ur (wpAny_throw ?_));exact hE _ _ (((Heap.SameBut.update ..).extBut.push _).push _) ⟨_,O6 _ rfl,rfl⟩
theorem sY{e it l:Um}{i:Nat}{items:Array Uj}{x old:Uj}{Q:Uj->Uq->Prop}
  (he:Wb s.heap e it i old) (hit:s.heap.IsTupleIter it l i) (hl:s.heap.IsTuple l items) (hx:items[i]?=Ya x) (jf:e≠it)
  (hQ:∀h',Xp h' e it ((i:Int)+1) x s.heap.objs.size->h'.IsTupleIter it l (i+1)->h'.get? s.heap.objs.size=Ya { cls:=.type "tuple",data:=.seq #[.int i s.toks,x] }->h'.objs.size=s.heap.objs.size+1 ->
   (∀b o,b≠e->b≠it->s.heap.get? b=Ya o->h'.get? b=Ya o)->Q (.ref s.heap.objs.size) { s with heap:=h',toks:=s.toks+1 }) :
  wpAny (model prog w) A (Builtin.«enumerate.__next__» ⟨[.ref e],[]⟩) (λfin s'=>∃v,fin=.done (.ret v)/\Q v s') E s:=by
 obtain⟨hp,g,d,tk,os⟩:=s;show wpAny _ _ (field (.ref e) 2 >>= _) _ _ _;refine Uh (UW he rfl (x:=.ref it) rfl ?_);refine Uh (pX hit hl hx λZ Dh D=>?_)
 replace D:Heap.SameBut it hp Z:=D
 have Ap:Wb Z e it i old:=(D.2 e jf).trans he;show wpAny _ _ (field (.ref e) 3 >>= _) _ _ ⟨Z,g,d,tk,os⟩;refine Uh (UW Ap rfl (x:=rawInt i) rfl ?_);show wpAny _ _ (field (.ref e) 4 >>= _) _ _ ⟨Z,g,d,tk,os⟩;refine Uh (UW Ap rfl (x:=.none) rfl ?_);show wpAny _ _ (mkInt i >>= _) _ _ ⟨Z,g,d,tk,os⟩;refine Uh (wpAny_mkInt ?_);show wpAny _ _ (XC (.ref e) 3 (rawInt ((i:Int)+1)) >>= _) _ _ ⟨Z,g,d,tk+1,os⟩;refine Uh (Vj Ap (by simp) λh₂ Aq G=>?_)
 replace G:Heap.SameBut e Z h₂:=G
 replace Aq:Wb h₂ e it ((i:Int)+1) old:=Aq
 show wpAny _ _ (XC (.ref e) 4 .none >>= _) _ _ ⟨h₂,g,d,tk+1,os⟩;refine Uh (Vj Aq (by simp) λh₃ Ar J=>?_)
 replace J:Heap.SameBut e h₂ h₃:=J
 replace Ar:Wb h₃ e it ((i:Int)+1) old:=Ar
 show wpAny _ _ (XB [.int i tk,x] >>= _) _ _ ⟨h₃,g,d,tk+1,os⟩;refine Uh (V3 ?_);have As:Wb (h₃.push { cls:=.type "tuple",data:=.seq #[.int i tk,x] }) e it ((i:Int)+1) old:=OM _ Ar;generalize xj:h₃.push { cls:=.type "tuple",data:=.seq #[.int i tk,x] }=h₄ at As;have hsz:h₃.objs.size=hp.objs.size:=by rw[J.1,G.1,D.1]
 have hel:e<hp.objs.size:=O3 he;have LD:h₄.get? hp.objs.size=Ya { cls:=.type "tuple",data:=.seq #[.int i tk,x] }:=by rw[<- xj,<- hsz];exact O6 _ rfl
 have LF:h₄.objs.size=hp.objs.size+1:=by rw[<-xj,QG,hsz]
 have LG:∀b o,b≠e->b≠it->hp.get? b=Ya o->h₄.get? b=Ya o:=λb o Gp hbi hb=>by
  rw[<-xj];exact OM _ (J.extBut b o Gp (G.extBut b o Gp (D.extBut b o hbi hb)))
 have IW:h₄.IsTupleIter it l (i+1):=by
  rw[<-xj];obtain⟨o,ho,r⟩:=(Dh.extBut G.extBut (Ne.symm jf)).extBut J.extBut (Ne.symm jf);exact⟨o,OM _ ho,r⟩
 show wpAny _ _ (Builtin.SmallTypes.ownedTupleIsFree (.ref e) >>= _) _ _ ⟨h₄,g,d,tk+1,os⟩;rw[hsz];clear xj Ar J Aq G Ap D Dh hsz h₃ h₂ Z;refine Uh ?_;unfold Builtin.SmallTypes.ownedTupleIsFree;refine Uh (UW As rfl (x:=.none) rfl (Ur ?_));simp only[VY];refine Uh (Vq ?_);refine Uh (UW As rfl (x:=old) rfl ?_);refine Uh (Vj As (by simp) λh₅ Di O=>?_)
 replace O:Heap.SameBut e h₄ h₅:=O
 replace Di:Wb h₅ e it ((i:Int)+1) x:=Di
 show wpAny _ _ (Builtin.SmallTypes.ownedTupleHandOut (.ref e) (.ref hp.objs.size) >>= _) _ _ ⟨h₅,g,d,tk+1,os⟩;refine Uh ?_;unfold Builtin.SmallTypes.ownedTupleHandOut;refine Uh (Vj Di (by simp) λh₆ Dj U=>?_)
 replace U:Heap.SameBut e h₅ h₆:=U
 replace Dj:Xp h₆ e it ((i:Int)+1) x hp.objs.size:=Dj
 refine Vj Dj (by simp) λh₇ Dk V=>?_
 replace V:Heap.SameBut e h₆ h₇:=V
 replace Dk:Xp h₇ e it ((i:Int)+1) x hp.objs.size:=Dk
 refine Uh (VR (Ur ⟨_,rfl,hQ h₇ Dk ?_ ?_ ?_ ?_⟩))
 .exact((IW.extBut O.extBut (Ne.symm jf)).extBut U.extBut (Ne.symm jf)).extBut V.extBut (Ne.symm jf)
 .exact V.extBut _ _ (QS hel) (U.extBut _ _ (QS hel) (O.extBut _ _ (QS hel) LD))
 .rw[V.1,U.1,O.1,LF]
 exactλb o Gp hbi hb=>V.extBut b o Gp (U.extBut b o Gp (O.extBut b o Gp (LG b o Gp hbi hb)))
theorem ny{e D l:Um}{i:Nat}{items:Array Uj}{x old:Uj}{Q:Option Uj->Uq->Prop}
  (O:Wb s.heap e D i old) (G:s.heap.IsTupleIter D l i) (V:s.heap.IsTuple l items) (Z:items[i]?=Ya x) (J:e≠D)
  (hQ:∀h',Xp h' e D ((i:Int)+1) x s.heap.objs.size->h'.IsTupleIter D l (i+1)->h'.get? s.heap.objs.size=Ya { cls:=.type "tuple",data:=.seq #[.int i s.toks,x] }->h'.objs.size=s.heap.objs.size+1 ->
   (∀b o,b≠e->b≠D->s.heap.get? b=Ya o->h'.get? b=Ya o)->Q (Ya (.ref s.heap.objs.size)) { s with heap:=h',toks:=s.toks+1 }) :
  wpAny (model prog w) A (pyNext (.ref e)) Q E s:=by
 have U:s.TypeIs (.ref e) "enumerate":=⟨_,O,rfl⟩
 unfold pyNext;exact Uh (Vc (wpAny_callSpecial?_slot (name:=Str.ofString "__next__") U F.slot_enumerate_next
  (UM F.slot_enumerate_next U F.entry_enumerate_next (sY O G V Z J λh' a b c d k=>Ur (hQ h' a b c d k)) (F.args_enumerate_next_1 _))))
theorem oE{e D l:Um}{i:Nat}{items:Array Uj}{old:Uj}{Q:Option Uj->Uq->Prop}(Z:A.handled=none)
  (U:Wb s.heap e D i old) (G:s.heap.IsTupleIter D l i) (hl:s.heap.IsTuple l items) (hx:items[i]?=none)
  (hQ:∀h',Heap.ExtBut D s.heap h'->Q none { s with heap:=h' }):wpAny (model prog w) A (pyNext (.ref e)) Q E s:=by
 have V:s.TypeIs (.ref e) "enumerate":=⟨_,U,rfl⟩
 unfold pyNext;refine Uh (Vc (wpAny_callSpecial?_slot (name:=Str.ofString "__next__") V F.slot_enumerate_next (UM F.slot_enumerate_next V F.entry_enumerate_next ?_ (F.args_enumerate_next_1 _))));show wpAny _ _ (field (.ref e) 2 >>= _) _ _ _;refine Uh (UW U rfl (x:=.ref D) rfl ?_);refine Uh (rC Z G hl hx λh' x J O=>?_);obtain⟨o,ho,hc⟩:=O;refine Uh (Vh (T:="StopIteration") (b:=true) ⟨o,ho,hc⟩ isSubtype_stop ?_);exact Ur (hQ _ J)
theorem rD(l:Um)(items:Array Uj)(n:Nat)(G:Option Um)(U:Array (Option Uj)) :
  Meets (Builtin.«enumerate.__new__» ⟨[.type "enumerate",.ref l],[]⟩) (λ_ R s=>s.heap.get? l=Ya { cls:=.type "tuple",dict:=G,data:=.seq items n,slots:=U } /\
   R (.ok (.ret (.ref (s.heap.push { cls:=.type "tuple_iterator",data:=.fields #[.ref l,.int 0 0] }).objs.size)))
    { s with heap:=(s.heap.push { cls:=.type "tuple_iterator",data:=.fields #[.ref l,.int 0 0] }).push { cls:=.type "enumerate",data:=.fields #[.none,.bool false,.ref s.heap.objs.size,rawInt 0,.none,.none] } }):=
 .of_wp λprog w A R s h=>by
  obtain⟨hp,g,d,tk,os⟩:=s;obtain⟨D,h⟩:=h;have O:=sub_enumerate;have J:Heap.IsTuple (Shared.heap ⟨hp,g,d,tk,os⟩) l items:=⟨_,D,rfl,n,rfl⟩
  wp_walk using UK D
  refine wpAny_stack_any λst=>Ur ?_
  split
  .rename_i c _ _ _ _ _;cases(c==Value.type "enumerate")
   .wp_walk using UK D,U8 J
    exact⟨_,rfl,h⟩
   wp_walk using UK D,U8 J
   exact⟨_,rfl,h⟩
  wp_walk using UK D,U8 J
  exact⟨_,rfl,h⟩
theorem sZ{l:Um}{items:Array Uj}{Q:Uj->Uq->Prop}(O:s.heap.IsTuple l items)
  (h:∀h',Wb h' (s.heap.objs.size+1) s.heap.objs.size 0 .none->h'.IsTupleIter s.heap.objs.size l 0->h'.objs.size=s.heap.objs.size+2 ->
   (∀b o,s.heap.get? b=Ya o->h'.get? b=Ya o)->Q (.ref (s.heap.objs.size+1)) { s with heap:=h' }) :
  wpAny (model prog w) A (call (.type "enumerate") [.ref l]) Q E s:=by
 obtain⟨⟨c,D,U,V⟩,Z,G,n,hd⟩:=O
 replace G:c=.type "tuple":=G
 replace hd:U=.seq items n:=hd
 subst G hd;refine callType_new F.called_enumerate (by decide) (F.typeCall_enumerate_1 _) (F.newCall_enumerate_1 _) (λobj=>F.args_object_init_2 obj _) F.entry_enumerate_new
  (rD l items n D V) ⟨Z,?_⟩
 have hz:(s.heap.push { cls:=.type "tuple_iterator",data:=.fields #[.ref l,.int 0 0] }).objs.size=s.heap.objs.size+1:=QG ..;show _/\_;rw[hz];have J:Wb ((s.heap.push { cls:=.type "tuple_iterator",data:=.fields #[.ref l,.int 0 0] }).push
   { cls:=.type "enumerate",data:=.fields #[.none,.bool false,.ref s.heap.objs.size,rawInt 0,.none,.none] }) (s.heap.objs.size+1) s.heap.objs.size 0 .none:=by
  have:=O6 (s.heap.push { cls:=.type "tuple_iterator",data:=.fields #[.ref l,.int 0 0] })
   (o:={ cls:=.type "enumerate",data:=.fields #[.none,.bool false,.ref s.heap.objs.size,rawInt 0,.none,.none] }) rfl
  rw[hz]at this;exact this
 refine⟨⟨_,J,rfl⟩,h _ J ⟨_,OM _ (O6 _ rfl),rfl,rfl⟩ (by rw[QG,hz]) λb o x=>OM _ (OM _ x)⟩
end
end xh
namespace L2
open PySem PySem.Spec PyProof.Rows
noncomputable def Ko(K:OJ)(a:Um):It :=
 ⟨λi H=>∃xs x,br K H a xs/\xs[i]?=Ya x,λi H y H'=>∃t x,y=.ref t/\H t=none/\H'=upd H t (.tup [.int i,x])/\∀xs,br K H a xs->xs[i]?=Ya x,λi H=>∃xs,br K H a xs/\xs.length<=i⟩
theorem yS{P:Ux}{w:UA}{K:OJ}{elts:List UL}{x1:Nat}{tp:VL}(a e J:Um)(hei:e≠J) :
  Turn P w K (.Tuple elts x1 tp) (Ko K a) [e,J] e (λi h=>(∃old,Wb h e J i old)/\h.IsTupleIter J a i) where
 mem:=by simp
 obj:=λi h st b G=>by
  obtain⟨⟨old,Z⟩,O⟩:=st;rcases Pa.mp G with rfl|G
  .exact⟨_,Z,λv z=>by
    have z':Data.fields _=Data.cell v:=z;cases z'⟩
  have e1:b=J:=by simpa using G
  subst e1;obtain⟨o,e,c,d⟩:=O;exact⟨o,e,λv z=>by rw[d]at z;cases z⟩
 keep:=λi h h' st k=>⟨let⟨old,Z⟩:=st.1;⟨old,k e (by simp) _ Z⟩,let⟨o,ho,r⟩:=st.2;⟨o,k J (by simp) o ho,r⟩⟩
 item:=by
  intro X hP hw hK hc i pins s σ H E I hf st hg;subst hP hw hK;obtain⟨⟨old,Z⟩,O⟩:=st;obtain⟨xs,x,hq,hx⟩:=hg;obtain⟨its,rv,p,hz⟩:=I.tuple hq;obtain⟨u,hu,ru⟩:=rv.get hx;obtain⟨f0,f1,f2,f3,f4,f5⟩:=hf e (by simp);obtain⟨g0,g1,g2,g3,g4,g5⟩:=hf J (by simp);refine xh.ny Z O (show s.heap.IsTuple a its.toArray from p) (x:=u) (by simpa using hu) hei λh' ho' aaj hT hsz hk=>?_;refine⟨_,rfl,wpAny_letOwnedTupleGo_enum ho' λHz aak V=>?_⟩;have sO:e<s.heap.objs.size:=O3 Z;have k2:∀b o,b≠e->b≠J->s.heap.get? b=Ya o->Hz.get? b=Ya o:=λb o h1 h2 q=>(V.2 b h1).trans (hk b o h1 h2 q);have xk:Hz.get? s.heap.objs.size=Ya { cls:=.type "tuple",data:=.seq #[.int i s.toks,u] }:=(V.2 _ (QS sO)).trans hT;have U:H s.heap.objs.size=none:=I.bM.fresh (ON _);have neT:∀{b:Um} {o:U6},s.heap.get? b=Ya o->b≠s.heap.objs.size:=λq=>Pd (O3 q);have Bb:∀{b:Um} {o:HO},H b=Ya o->b≠e/\b≠J:=λq=>⟨λz=>(by rw[z,f0]at q;cases q),λz=>(by rw[z,g0]at q;cases q)⟩
  have I2:Inv X pins σ (upd H s.heap.objs.size (.tup [.int i,x])) { s with heap:=Hz,toks:=s.toks+1 }:=by
   refine I.step (g':=s.gens) (d':=s.drawn) (ch:=[e,J]) (λb G=>?_) (λb o _ _ D q _=>k2 b o (λz=>D (by simp[z])) (λz=>D (by simp[z])) q) (λb o _ _ D q _=>⟨o.slots,k2 b o (λz=>D (by simp[z])) (λz=>D (by simp[z])) q⟩)
    (λb o _ q n=>by rw[aG (neT q)];exact n) (λb o D q=>⟨o,k2 b o (λz=>D (by simp[z])) (λz=>D (by simp[z])) q⟩) (λb ys q=>by rw[aG (aW q U)];exact q) (λb o ys q=>by rw[aG (aW q U)];exact q)
    (λb ps q=>⟨#[],by rw[aG (aW q U),q];simp⟩) (λm hm=>?_) (λb v q=>?_) I.bare
   .rcases Pa.mp G with rfl|G
    .exact⟨f3,f1,f4,f5⟩
    have e1:b=J:=by simpa using G
    subst e1;exact⟨g3,g1,g4,g5⟩
   .obtain⟨o,es,ep,ho,r⟩:=hm;exact⟨o,es,ep,k2 _ o (Ne.symm f1) (Ne.symm g1) ho,r⟩
   by_cases G:b=s.heap.objs.size
   .subst G;rw[ag]at q;cases q;exact⟨by show 2<=Uu;decide,[.int i s.toks,u],.cons ⟨_,rfl⟩ (.cons ru .nil),_,xk,rfl,_,rfl⟩
   rw[aG G]at q;refine(I.bM b v q).sR (λc o hc z=>?_) (λc z=>by rw[aG (aW z U)];exact z) λc ys z=>by rw[aG (aW z U)];exact z
   rcases hc with rfl|hc
   .exact k2 c o (Bb q).1 (Bb q).2 z
   exact k2 c o (Bb hc).1 (Bb hc).2 z
  refine⟨.ref s.heap.objs.size,_,I2,rfl,⟨_,x,rfl,U,rfl,λys hy=>by rw[I.tS hy hq];exact hx⟩,⟨⟨u,by simpa using aak⟩,?_⟩,λb G=>?_⟩
  .obtain⟨o,q,r⟩:=aaj;exact⟨o,(V.2 J (Ne.symm hei)).trans q,r⟩
  rcases Pa.mp G with rfl|G
  .rw[aG (Pd sO)];exact f0
  have e1:b=J:=by simpa using G
  subst e1;obtain⟨o,q,_⟩:=O;rw[aG (neT q)];exact g0
 done:=by
  intro X hP hw hK hc i pins s σ H E I hf st hg;subst hP hw hK;obtain⟨⟨old,Z⟩,O⟩:=st;obtain⟨xs,hq,hx⟩:=hg;obtain⟨its,rv,p,hz⟩:=I.tuple hq;obtain⟨g0,g1,g2,g3,g4,g5⟩:=hf J (by simp);have hl:=rv.length;exact xh.oE (I.ok.hd hc) Z O (show s.heap.IsTuple a its.toArray from p) (by simp;omega) λh' eb=>⟨rfl,I.turned (t':=s.toks) (λb o G q=>eb b o G q) g0 g1 g3 g4 g5⟩
 self:=λ_ _ _ _ _ st h=>let⟨_,Z⟩:=st.1;Xe Z h
section
variable {X:Cx}
noncomputable def LH(K:OJ)(G:TA):TI:=λσ H R=>G σ H λJ D=>∃a,J=[.ref a]/\(∃xs,br K D a xs)/\R (Ko K a) D
theorem jE {K : OJ}{es : List UL}{k : Nat}{t : Ho}{n : Nat}{pos : VL}(G : X.K=K)(J : X.calm=true)(h : K1 X es t)
    (O:(Vx es X.env).length=n:=by rfl) (D:(Vx es X.env).findIdx? (·.1)=none:=by rfl): PG X (.Tuple es k pos) (K6 K n t):= G▸jA J h O D
theorem xl{a:UL}{U:TA}{p pos:VL}{elts:List UL}{x1:Nat}{tp:VL}(hg:Gl X "enumerate")(hm:X.mg "enumerate" = none)(ha:PA X [a] U)(hs:UC [a] X.env=[(false,eval a X.env)]:=by rfl) :
  PI X (.Tuple elts x1 tp) (.Call (.Name "enumerate" p) [a] [] pos) (LH X.K U):=by
 intro pins s σ H R I h;refine Call_ (mB I hg hm ve (QJ (cL (ha pos pins s σ H _ I h) λus D ⟨vs,V,G,r1,q1⟩=>?_) hs rfl));obtain⟨l,e,⟨xs,hq⟩,q⟩:=q1;subst e;cases r1 with
 |cons r rr =>
  cases rr;cases r;obtain⟨its,rv,ht,hz⟩:=G.tuple hq;refine xh.sZ (show D.heap.IsTuple l its.toArray from ht) λh' Z J hsz hk=>?_;have I2:Inv X pins σ V { D with heap:=h' }:=G.kept (t':=D.toks) hk;refine Xe Z ?_;refine⟨D.heap.objs.size+1,[D.heap.objs.size+1,D.heap.objs.size],_,_,V,rfl,I2,yS l _ _ (Nat.succ_ne_self _),⟨⟨_,Z⟩,J⟩,λb O=>?_,q⟩;rcases Pa.mp O with rfl|O
  .exact(G.uQ (Q2 _) (G.bM.fresh (Q2 _)))
  have e:b=D.heap.objs.size:=by simpa using O
  subst e;exact G.uQ (ON _) (G.bM.fresh (ON _))
theorem Dl{K:OJ}{a:Um}{xs:List V}{g:TG}{tb:TS}{D:Ends}{σ:St}{H:Hp}(Pv:Nat->St->Hp->Prop)(Z:Pv 0 σ H)(hl:∀i σ H,i<=xs.length->Pv i σ H->br K H a xs)
  (hs:∀i x t σ H,xs[i]?=Ya x->Pv i σ H->H t=none->g (.ref t) σ (upd H t (.tup [.int i,x])) λG U=>tb { D with nx:=Pv (i+1),ct:=Pv (i+1),bk:=D.nx } G U) (hd:∀σ H,Pv xs.length σ H->D.nx σ H) :
  ∃W:Nat->Nat->St->Hp->Prop,(∃m,W 0 m σ H)/\∀i m σ H,W i m σ H ->
   ((Ko K a).stop i H/\D.nx σ H)\/((Ko K a).go i H/\∃N:St->Hp->Prop,(∀J H',N J H'->∃m',m'<m/\W (i+1) m' J H')/\∀x H',(Ko K a).Iq i H x H'->g x σ H' λG U=>tb { D with nx:=N,ct:=N,bk:=D.nx } G U):=by
 refine⟨λi m σ H=>m=xs.length-i/\i<=xs.length/\Pv i σ H,⟨xs.length,by simp,PH _,Z⟩,?_⟩;rintro i m σ H ⟨rfl,hi,p⟩;have q:=hl i σ H hi p;by_cases O:i<xs.length
 .refine .inr ⟨⟨xs,xs[i],q,by simp[O]⟩,Pv (i+1),λJ H' p'=>⟨xs.length-(i+1),by omega,rfl,O,p'⟩,λx H' y=>?_⟩;obtain⟨t,z,e,hn,e2,y⟩:=y;subst e e2;exact hs i z t σ _ (y xs q) p hn
 have e:i=xs.length:=by omega
 subst e;exact .inl ⟨⟨xs,q,ON _⟩,hd σ H p⟩
theorem Bv{K:OJ}{a:Um}{xs:List V}{g:TG}{Z:TT}{te:TE}{D:Um}{Q:VK}{G:St}{H₀:Hp}(Pv:Nat->St->Hp->Prop)(h0:Pv 0 G H₀)(hl:∀i σ H,i<=xs.length->Pv i σ H->br K H a xs)
  (hs:∀i x t σ H,xs[i]?=Ya x->Pv i σ H->H t=none->g (.ref t) σ (upd H t (.tup [.int i,x])) λJ H3=>Z J H3 λb H4=>if b=true then te J H4 λv H5=>∃U,H5 D=Ya (.lst U)/\U.length<Uu/\Pv (i+1) J (upd H5 D (.lst (U++[v])))else Pv (i+1) J H4)
  (hd:∀σ H,Pv xs.length σ H->Q (.ref D) H):xa (Ko K a) g Z te D Q G H₀:=by
 refine⟨λi m σ H=>m=xs.length-i/\i<=xs.length/\Pv i σ H,⟨xs.length,by simp,PH _,h0⟩,?_⟩;rintro i m σ H ⟨rfl,hi,p⟩;have q:=hl i σ H hi p;by_cases O:i<xs.length
 .refine .inr ⟨⟨xs,xs[i],q,by simp[O]⟩,Pv (i+1),λσ' H' p'=>⟨xs.length-(i+1),by omega,rfl,O,p'⟩,λx H' y=>?_⟩;obtain⟨t,z,e,hn,e2,y⟩:=y;subst e e2;exact hs i z t σ _ (y xs q) p hn
 have e:i=xs.length:=by omega
 subst e;exact .inl ⟨⟨xs,q,ON _⟩,hd σ H p⟩
theorem xm{K:OJ}{a:Um}{xs:List V}{g:TG}{Z:TT}{te:TE}{D:Um}{Q:VK}{G:St}{H₀:Hp}(Pv:Nat->St->Hp->Prop)(h0:Pv 0 G H₀)(hl:∀i σ H,i<=xs.length->Pv i σ H->br K H a xs)
  (hs:∀i x σ H,xs[i]?=Ya x->Pv i σ H->g x σ H λJ H3=>Z J H3 λb H4=>if b=true then te J H4 λv H5=>∃U,H5 D=Ya (.lst U)/\U.length<Uu/\Pv (i+1) J (upd H5 D (.lst (U++[v])))else Pv (i+1) J H4)
  (hd:∀σ H,Pv xs.length σ H->Q (.ref D) H):xa (Kj K a) g Z te D Q G H₀:=by
 refine⟨λi m σ H=>m=xs.length-i/\i<=xs.length/\Pv i σ H,⟨xs.length,by simp,PH _,h0⟩,?_⟩;rintro i m σ H ⟨rfl,hi,p⟩;have q:=hl i σ H hi p;by_cases O:i<xs.length
 .refine .inr ⟨⟨xs,xs[i],q,by simp[O]⟩,Pv (i+1),λσ' H' p'=>⟨xs.length-(i+1),by omega,rfl,O,p'⟩,λx H' y=>?_⟩;obtain⟨e,y⟩:=y;subst e;exact hs i x σ _ (y xs q) p
 have e:i=xs.length:=by omega
 subst e;exact .inl ⟨⟨xs,q,ON _⟩,hd σ H p⟩
theorem vh(hc:X.calm=true):fX X (.builtin "min") (λxs H Q=>∃(p:Um) (ns:List Int),xs=[.ref p]/\br X.K H p (ns.map V.int)/\0<ns.length/\∀M:Int,M∈ns->(∀a∈ns,M<=a)->Q (.int M) H):=by
 intro pins s σ H xs us Q I r h;obtain⟨p,ns,rfl,hq,jf,q⟩:=h;obtain⟨u,rfl,ru⟩:=r.one;cases ru;obtain⟨its,U,Z,hz⟩:=I.tuple hq;have J:s.heap.IsTuple p its.toArray:=Z;have hlen:ns.length=its.length:=by have z:=U.length;rwa[OH]at z
 have O:p<s.heap.objs.size:=let⟨_,e,_⟩:=Z;O3 e
 have val:∀(i:Nat) (v:Uj),its.toArray[i]?=Ya v->i<ns.length/\∃t,v=.int (ns.getD i 0) t:=λi v G=>by
  have G:its[i]?=Ya v:=by simpa using G
  have hi:i<its.length:=(OI.mp G).1;have D:i<ns.length:=by omega
  have e1:(ns.map V.int)[i]?=Ya (.int ns[i]):=by rw[OR,OG D];rfl
  obtain⟨u,hu,t,e⟩:=U.get e1;rw[G]at hu;cases hu;exact⟨D,t,by rw[e];simp[QK,OG D]⟩
 refine call_min_walk (U8 J ?_);refine⟨_,_,_,_,_,_,_,rfl,Walks.tuple (A:=X.A.in1) (I.ok.hd hc) s.heap.objs.size p (Pd O) its.toArray,⟨⟨_,O6 _ rfl,rfl,rfl⟩,J.push _⟩,λb hb=>?_,by rw[OT];omega,
  CmpOf.ints_lt (λi=>ns.getD i 0) (λi v G=>(val i v G).2),λv h' tk hP hk=>?_⟩
 .rw[QG];rcases Pa.mp hb with e|e
  .rw[e];exact QP _
  have e:b=p:=by simpa using e
  rw[e];exact Qa O
 obtain⟨h1,t,rfl⟩:=val _ v hP;obtain⟨h2,h3⟩:=argBest_lt (λi=>ns.getD i 0) (its.toArray.size-1);have I':Inv X pins σ H { s with heap:=h',toks:=tk }:=I.kept λb o e=>hk b o (λz=>Us (OS.mp z) (Pd (O3 e))) (OM _ e);refine⟨.int _,H,I',⟨t,rfl⟩,q _ ?_ λa ha=>?_⟩
 .have e:ns.getD (Vs (λi j=>decide (ns.getD i 0<ns.getD j 0)) (its.toArray.size-1)) 0=ns[Vs (λi j=>decide (ns.getD i 0<ns.getD j 0)) (its.toArray.size-1)]'h1:=by rw[Ql,OG h1];rfl
  rw[e];exact Rp _
 obtain⟨j,hj⟩:=Qq.mp ha;have hjl:j<ns.length:=(OI.mp hj).1;have z:=h3 j (by rw[OT];omega);have e:ns.getD j 0=a:=by simp[QK,hj]
 rw[e]at z;exact z
end
theorem cQ.obj{P:Ux}{w:UA}{H:Hp}{h:UH}{a:Um}:∀{o:HO},cQ P w H h a o->∃u,h.get? a=Ya u:=λ{o} x=>by
 cases o with
 |lst xs=>obtain⟨_,_,_,_,e⟩:=x;exact⟨_,e⟩
 |tup xs=>obtain⟨_,_,_,o,e,_⟩:=x;exact⟨_,e⟩
 |dK D=>obtain⟨_,_,_,_,o,_,_,e,_⟩:=x;exact⟨_,e⟩
 |dT D=>obtain⟨_,_,_,_,o,_,_,e,_⟩:=x;exact⟨_,e⟩
 |set S n=>obtain⟨o,_,_,_,e,_⟩:=x;exact⟨_,e⟩
 |ins C G fs=>obtain⟨_,_,_,e,_⟩:=x;exact⟨_,e⟩
 |own y=>exact x
 |xd fs=>obtain⟨_,⟨_,_,_,e,_⟩,_⟩:=x;exact⟨_,e⟩
 |Hj lo J=>obtain⟨_,_,_,e⟩:=x;exact⟨_,e⟩
 |Ct ob u=>obtain⟨e,_⟩:=x;exact⟨_,e⟩
 |Hk O=>exact⟨_,(show h.get? a=Ya _ from x)⟩
 |met f y=>exact⟨_,(show h.get? a=Ya _ from x)⟩
 |ext φ=>obtain⟨_,e,_⟩:=x;exact e
noncomputable def Dm(h:UH)(l:List WT):Heap:=Tu h (lX l)
theorem xn{h:UH}{l:List WT}{b:Um}{o:U6}(e:h.get? b=Ya o)(n:b∉lX l):(Dm h l).get? b=Ya o:=SS _ e n
theorem Au{h:UH}{l:List WT}{b:Um}{o:U6}(e:(Dm h l).get? b=Ya o):h.get? b=Ya o:=SY _ e
theorem xo{h base:UH}{l:List WT}(x:h.FunFrames base l):h.FunFrames (Dm h l) l:=PySem.W.funFrames_hide x λenv D a G=>RY.mpr ⟨env,D,G⟩
def HA(B:UH)(l:List WT)(a:Um)(cls:Uj)(h:UH):Prop:=∃D,
 (B.StaysIn h/\B.get? a=none/\h.FunFrames B l/\∃G J,h.get? a=Ya G/\G.cls=cls/\G.data=.fields J/\J[1]?=Ya .none/\J[0]?=Ya D) \/
 Heap.FlyingW B l a cls D h\/∃L env outer,l=env::outer/\env.frame=Ya L/\Heap.HeldW B l a cls D L h
theorem HA.stays{B h:UH}{l:List WT}{a:Um}{cls:Uj}(x:HA B l a cls h):B.StaysIn h:=by
 obtain⟨D,x|x|⟨_,_,_,_,_,x⟩⟩:=x
 .exact x.1
 .exact x.1
 exact x.1
theorem HA.frames{B h:UH}{l:List WT}{a:Um}{cls:Uj}(x:HA B l a cls h):h.FunFrames B l:=by
 obtain⟨D,x|x|⟨_,_,_,_,_,x⟩⟩:=x
 .exact x.2.2.1
 .exact x.2.2.1
 exact x.2.2.1
section
variable {M:WU}{A:UG}{E:Uj->Uq->Prop}{s:Uq}{B:UH}{env:WT}{outer:List WT}{L a:Um}{cls:Uj}
theorem rE{Q:Unit->Uq->Prop}(D:A.frames=Ya (env::outer))(G:env.frame=Ya L)(x:HA B (env::outer) a cls s.heap)
  (U:∀h' J,Heap.HeldW B (env::outer) a cls J L h'->s.heap.UpToSlots h'->Q () { s with heap:=h' }):wpAny M A (Xo (.ref a) env) Q E s:=by
 obtain⟨J,⟨x1,x2,x3,oe,vs,V,hc,hd,Z,h0⟩|x|⟨L',aeN,O,e1,e2,x⟩⟩:=x
 .unfold Xo;simp only[G];refine Uh (UW V hd Z ?_);rw[Uk (by decide)];refine wpAny_entryW D x3 G V x1 x2 hd (Rm.mp Z).1 h0 λh' hN=>?_;obtain⟨k1,k2,k3,k4⟩:=hN;rw[hc]at k3;exact U h' J ⟨k1,x2,k2,k3⟩ k4
 .exact wpAny_looks_onW D G x λh' k1 k2=>U h' J k1 k2
 cases e1;rw[G]at e2;cases e2;exact wpAny_noteFrame_againW G x.2.2.2 (U s.heap J x (Heap.UpToSlots.refl _))
theorem Bw{Q:Unit->Uq->Prop}(D:A.frames=Ya (env::outer))(J:env.frame=Ya L)(x:HA B (env::outer) a cls s.heap)
  (O:∀h' G,Heap.FlyingW B outer a cls G h'->s.heap.UpToSlots h'->Q () { s with heap:=h' }):wpAny M A (XW env (.ref a)) Q E s:=by
 unfold XW;refine Uh (rE D J x λh1 G k1 k2=>?_);refine wpAny_landsW k1 λU k3 V=>?_;obtain⟨c1,c2,⟨_,_,Z⟩,c4⟩:=k3;exact O U G ⟨c1,c2,Z,c4⟩ (k2.trans V)
theorem Bx{F:Uj->Uq->Prop}{a0:Uj}(hf:env.frame=Ya L)(x:Heap.HeldW B (env::outer) a cls a0 L s.heap)
  (hQ:∀h',Heap.HeldW B (env::outer) a cls a0 L h'->s.heap.UpToSlots h'->F (.ref a) { s with heap:=h' }):cameBackBy M A env F (.ref a) s:=by
 obtain⟨hkb,hen,hl,oe,vs,T,oT,ts,he,Z,hd,h1,hnT,hTe,hT,O,h3⟩:=x;unfold cameBackBy;refine Uh (UW he hd h1 ?_);rw[Uk (show¬((Value.ref T==Value.none)=true)from O2)];rw[hf];have U:3<ts.size:=(Rm.mp h3).1;have other:∀b,b≠T->(s.heap.update T (Obj.mapFields (·.setIfInBounds 3 ((Ya L).elim Value.none λf=>rawInt f)))).get? b=s.heap.get? b:=λb G=>Qc _ _ (Ne.symm G);have D:∀b o,s.heap.get? b=Ya o->(∀vs,o.data≠.fields vs)->b≠T:=λb o G J q=>by
  rw[q,hT]at G;injection G with G;subst G;exact J ts O
 unfold setFlight;refine Uh (UW he hd h1 ?_);rw[Uo (show(Value.ref T != Value.none)=true from by simp)];refine VF hT O U (hQ _ ⟨λb o V=>(other b λq=>by rw[q,hnT]at V;cases V).trans (hkb b o V),hen,
  hl.of_keeps λb o G J=>⟨o,(other b (D b o G J)).trans G,rfl⟩,?_⟩ λb o G J=>⟨o.slots,(other b (D b o G J)).trans G⟩)
 exact⟨oe,vs,T,_,_,(other a (Ne.symm hTe)).trans he,Z,hd,h1,hnT,hTe,Qz _ hT (Obj.isFreed_of_fields (Obj.data_mapFields O _)),Obj.data_mapFields O _,by simp[U]⟩
end
structure IY(P:Ux) (w:UA) (l:List WT) (ex:List Um) (H:Hp) (s:Uq) (B:UH) (a:Um) (cls:Uj) (H':Hp) (s':Uq):Prop where
 os:s'.os=s.os
 bare:VW s'.gens
 un:Un (lX l) ex H H' s.heap s'.heap
 bM:md P w H' s'.heap
 na:H' a=none
 Kp:HA B l a cls s'.heap
 old:∀b o,s.heap.get? b=Ya o->b∉lX l->b∉ex->∃o',s'.heap.get? b=Ya o'/\B.get? b=Ya o'
 Bb:∀b,H' b≠none->∃o,s'.heap.get? b=Ya o/\B.get? b=Ya o
theorem IY.move{P:Ux}{w:UA}{l l':List WT}{ex:List Um}{H H':Hp}{s s':Uq}{B h':UH}{a:Um}{cls:Uj}(x:IY P w l ex H s B a cls H' s')(k:s'.heap.UpToSlots h')(st:HA B l' a cls h')
  (O:∀b∈lX l',b∈lX l) (U:∀b o,s.heap.get? b=Ya o->b∈lX l->b∈lX l') (hx:∀b∈lX l,b∉ex):IY P w l' ex H s B a cls H' { s' with heap:=h' }:=by
 have V:=st.stays;have nf:∀b∈lX l,∀o,s'.heap.get? b=Ya o->∀vs,o.data≠.fields vs:=λb D o e=>by
  obtain⟨_,G,e',d⟩:=x.Kp.frames.mem D;rw[e]at e';cases e';exact d
 have oldK:∀b o,s.heap.get? b=Ya o->b∉lX l'->b∉ex->∃G,s'.heap.get? b=Ya G/\B.get? b=Ya G:=λb o e D J=>x.old b o e (λz=>D (U b o e z)) J;refine⟨x.os,x.bare,⟨λb o e n D J=>?_,λb o e n D J=>?_,x.un.free,λb o e J=>?_,x.un.mw,x.un.lW,x.un.my⟩,λb u e=>?_,x.na,st,λb o e D J=>?_,λb D=>?_⟩
 .have e1:=x.un.keep b o e n (λz=>D (U b o e z)) J;obtain⟨G,e2,e3⟩:=oldK b o e D J;rw[e1]at e2;cases e2;exact V b _ e3
 .obtain⟨sl,e1⟩:=x.un.slot b o e n (O b D) J;obtain⟨Z,e2⟩:=k b _ e1 (nf b (O b D) _ e1);exact⟨Z,e2⟩
 .by_cases D:b∈lX l
  .obtain⟨_,G,e',d⟩:=x.Kp.frames.mem D;obtain⟨Z,e2⟩:=k b _ e' d;exact⟨_,e2⟩
  obtain⟨G,_,e3⟩:=x.old b o e D J;exact⟨G,V b _ e3⟩
 .refine(x.bM b u e).sR (λc v hc q=>?_) (λ_ q=>q) λ_ _ q=>q;have hn:H' c≠none:=by
   rcases hc with rfl|hc
   .rw[e];exactλz=>nomatch z
   rw[hc];exactλz=>nomatch z
  obtain⟨G,e1,e2⟩:=x.Bb c hn;rw[q]at e1;cases e1;exact V c _ e2
 .obtain⟨G,_,e3⟩:=oldK b o e D J;exact⟨G,V b _ e3,e3⟩
 obtain⟨G,_,e3⟩:=x.Bb b D;exact⟨G,V b _ e3,e3⟩
noncomputable def gh(P:Ux)(w:UA):Cd:=λouter H s E e s'=>∃a cls H' B,e=.ref a/\IY P w outer [] H s B a cls H' s'/\E cls none H'
def kL(X:Cx)(E:XK)(e:Uj)(s':Uq):Prop:=∃a cls H' B,e=.ref a/\IY X.prog X.w X.stack X.ex X.H₀ X.s₀ B a cls H' s'/\E cls none H'
section
variable {X:Cx}{E:XK}
theorem LI{F:Uj->Uq->Prop}:Passes (gh X.prog X.w) (X.iF (kL X E)) E:=λpins σ H s e s' I h=>by
 have I:=I.ej;obtain⟨a,cls,H',B,rfl,x,G⟩:=h;have U:Un (lX X.stack) X.ex X.H₀ H X.s₀.heap s.heap:=I.base.mono (λb D=>by
  rcases I.ok.Hl with z|⟨z,_⟩
  .rw[z];exact D
  rw[z];unfold lX;rw[Qu];split
  .exact D
  exact O0 _ D) λb D=>D
 have J:Un (lX X.stack) X.ex H H' s.heap s'.heap:=x.un.mono (λb D=>D) λb D=>Us D (by simp);refine⟨a,cls,H',B,rfl,⟨x.os.trans I.os,x.bare,U.trans J,x.bM,x.na,x.Kp,λb o q D O=>?_,x.Bb⟩,G⟩;obtain⟨V,e1⟩:=U.there b o q O;exact x.old b V e1 D (by simp)
end
structure Own(X:Cx):Prop where
 ok:X.Ok
 top:X.stack=X.env::X.outer
 fr:X.env.frame=Ya X.env.locals
 ex:X.ex=[]
theorem Own.loc{X:Cx}(o:Own X):∀b G,X.s₀.heap.get? b=Ya G->b∈lX X.stack->b∈lX X.outer:=λb G e D=>by
 rw[o.top]at D;unfold lX at D;rw[Qu,o.fr]at D;rcases Pa.mp D with z|z
 .subst z;exact Us (Pt (O3 e) o.ok.above) (QF _)
 exact z
theorem iH{X:Cx}{E:XK}(O:Own X):PassesOwn (model X.prog X.w) X.A X.env (kL X E):=λe s' h=>by
 obtain⟨a,cls,H',B,rfl,x,V⟩:=h;have G:X.A.frames=Ya (X.env::X.outer):=by rw[<-O.top];exact O.ok.frames
 have x':=x;have st:=x.Kp;rw[O.top]at st;show wpAny _ _ (Xo (.ref a) X.env) _ _ s';refine rE G O.fr st λJ U k1 k2=>?_;have x1:IY X.prog X.w X.stack X.ex X.H₀ X.s₀ B a cls H' { s' with heap:=J }:=x.move k2 (by rw[O.top];exact⟨U,.inr (.inr ⟨_,_,_,rfl,O.fr,k1⟩)⟩) (λb D=>D) (λb o _ D=>D) λb _=>by rw[O.ex];simp
 refine Bx (s:={ s' with heap:=J }) O.fr k1 λh2 k3 Z=>?_;exact⟨a,cls,H',B,rfl,x1.move Z (by rw[O.top];exact⟨U,.inr (.inr ⟨_,_,_,rfl,O.fr,k3⟩)⟩) (λb D=>D) (λb o _ D=>D) λb _=>by rw[O.ex];simp,V⟩
structure vi(K:OJ) (mg:UI->Option Uj) (x:UI) (C:Um):Prop where
 g:mg x=Ya (.ref C)
 ex:∃bm newId B Dp,S5 K C bm newId=true/\ExcBaseFacts B newId Dp bm
def IZ(C:Um)(t:TA)(E:XK):TS:=λ_ σ H=>t σ H λD G=>D.length<=Uu/\E (.ref C) none G
theorem kM{K:OJ}{C:Um}{G:List Uj}{newId:String}{h:UH}(X:K.In h)(q:S5 K C G newId=true) :
  ∃bm ns nm O bs hd sn sub ab col dd k0 k1 k2 k3 k5 mN,h.get? C=Ya (excClassObj nm O C ns bs bm hd sn sub ab col dd k0 k1 k2 k3 k5 newId)/\h.Ns ns mN/\mN "__init__" = none/\OwnTail h G bm:=by
 unfold S5 at q
 split at q
 .rename_i dd cd V ho
  split at q
  .rename_i C' bm k0 k1 k2 k3 n k5 Z hs;simp only[PX,beq_iff_eq,Tc]at q;obtain⟨⟨⟨⟨⟨rfl,rfl⟩,D⟩,ht⟩,bM⟩,J⟩:=q;obtain⟨nm,bs,mro,ns,O,hd,sn,sub,ab,col,del⟩:=cd;dsimp only at Z D bM J;subst Z D;have U:V = #[k0,k1,k2,k3,Ya (.builtin n),k5]:=by
    obtain⟨l⟩:=V;simp only at hs;rw[hs]
   subst U;exact⟨bm,ns,nm,O,bs,hd,sn,sub,ab,col,dd,k0,k1,k2,k3,k5,_,X _ _ ho,.of_isNs (PySem.W.isNs_of_in X bM),PySem.W.nsMap_none_of_in X bM J,PySem.W.tail_of_in X ht⟩
  cases q
 cases q
theorem rF{X:Cx}{E:XK}{x:UI}{C:Um}{np O pos:VL}{G:UL}{rest:List UL}{t:TA}(hc:X.calm=true)(Z:vi X.K X.mg x C)(ha:PA (X.iF (kL X E)) (G::rest) t)
  (hg:Gl X x:=by rfl) (I0:(x==("__debug__":UI))=false:=by decide) (he:UC (G::rest) X.env=(false,eval G X.env)::UC rest X.env:=by rfl) (Ja:(backTo O (UC rest X.env)).any (·.1)=false:=by rfl) :
  PS (X.iF (kL X E)) (.Raise (Ya (.Call (.Name x np) (G::rest) [] O)) none pos) (IZ C t E):=by
 intro pins s σ H D I h;obtain⟨bmB,newId,Bn,Dp,q,FB⟩:=Z.ex;obtain⟨bm,ns,nm,qn,bs,hd,sn,sub,ab,col,dd,k0,k1,k2,k3,k5,mN,hC,hN,hni,T⟩:=kM I.Be q;have hA:=ha O pins s σ H _ I h;rw[show UC (G::rest) (X.iF (kL X E)).env=(false,eval G X.env)::UC rest X.env from he]at hA;refine wpAny_Raise_call_subT (C:=C) (nm:=nm) (q:=qn) (N:=ns) (bs:=bs) (bm:=bm) (hdct:=hd) (sn:=sn) (sub:=sub) (ab:=ab) (col:=col) (dd:=dd) (k0:=k0) (k1:=k1) (k2:=k2) (k3:=k3) (k5:=k5)
  FB (mN:=mN) (T.hasType FB.hasBase) (I.ok.hd hc) (by show(backTo O (UC (G::rest) X.env)).any (·.1)=false;rw[he];show(false||(backTo O (UC rest X.env)).any (·.1))=false;rw[Ja];rfl) hni (mY I hg Z.g ⟨rfl,?_⟩ I0)
 show wpAny _ _ (evalArgs (.ref C) true (backTo O (UC (G::rest) X.env)) []) _ _ s;rw[he];refine Calls.evalArgs_plain (UX hA (λus s2 h2=>?_) λ_ _ y=>y);obtain⟨vs,H2,I2,r2,hz,hE⟩:=h2;obtain⟨bm',ns',nm',qn',bs',LJ,sn',aeS,ab',aeT,dd',k0',k1',k2',k3',k5',mN',hC2,hN2,aeU,T2⟩:=kM I2.Be q;have J:=I2.ej;have st:∀b o,X.base.get? b=Ya o->s2.heap.get? b=Ya o:=J.bk;have hC':s2.heap.get? C=Ya (excClassObj nm qn C ns bs bm hd sn sub ab col dd k0 k1 k2 k3 k5 newId):=by
  obtain⟨bm3,ns3,nm3,qn3,bs3,Av,sn3,LK,ab3,LM,dd3,k03,k13,k23,k33,k53,mN3,V,Nu,LN,T3⟩:=kM J.ok.mod.mU q;have e1:=(I.ej.bk _ _ V).symm.trans hC;cases e1;exact st _ _ V
 have hN':s2.heap.Ns ns mN:=by
  obtain⟨bm3,ns3,nm3,qn3,bs3,Av,sn3,LK,ab3,LM,dd3,k03,k13,k23,k33,k53,mN3,V,Nu,LN,T3⟩:=kM J.ok.mod.mU q;have e1:=(I.ej.bk _ _ V).symm.trans hC;injection e1 with e1;injection e1 with _ _ e1 _;injection e1 with e1;injection e1 with _ _ _ e1 _ _ _ _ _ _ _;subst e1;have f1:=Nu.keeps I.ej.bk;have f2:=Nu.keeps st;obtain⟨o1,es1,ep1,g1,g2,g3,g4⟩:=f1;obtain⟨o2,es2,ep2,j1,j2,j3,j4⟩:=hN;rw[g1]at j1;cases j1;rw[g2]at j2;cases j2;have em:mN3=mN:=by funext y;rw[<-g4 y,<-j4 y]
  rw[<-em];exact f2
 have T':OwnTail s2.heap bmB bm:=by
  obtain⟨bm3,ns3,nm3,qn3,bs3,Av,sn3,LK,ab3,LM,dd3,k03,k13,k23,k33,k53,mN3,V,Nu,LN,T3⟩:=kM J.ok.mod.mU q;have e1:=(I.ej.bk _ _ V).symm.trans hC;injection e1 with e1;injection e1 with _ _ e1 _;injection e1 with e1;injection e1 with _ _ e1 _ _ _ _ _ _ _ _;injection e1 with _ e1;rw[<-e1];exact T3.keeps st
 refine⟨rfl,by show us.length<=Uu;rw[<-r2.length];exact hz,hC',hN',T',λh' a hx=>?_⟩;have U:Un (lX X.stack) X.ex X.H₀ H2 X.s₀.heap s2.heap:=J.base.mono (λb hb=>by
  rcases J.ok.Hl with z|⟨z,_⟩
  .rw[z];exact hb
  rw[z];unfold lX;rw[Qu];split
  .exact hb
  exact O0 _ hb) λb hb=>hb
 obtain⟨t0,Gq,yD,ht3⟩:=hx.there;refine⟨a,.ref C,H2,Dm s2.heap X.stack,rfl,⟨J.os,J.bare,U.trans (Un.kept hx.keeps),J.bM.kept hx.keeps,?_,⟨_,.inl ⟨λb o e=>hx.keeps b o (Au e),?_,?_,_,_,Gq,rfl,rfl,rfl,rfl⟩⟩,λb o e hb he=>?_,λb hb=>?_⟩,hE⟩
 .cases z:H2 a with
  |none=>rfl
  |some u =>
   obtain⟨o,e⟩:=(J.bM a u z).obj;rw[hx.new]at e;cases e
 .cases z:(Dm s2.heap X.stack).get? a with
  |none=>rfl
  |some o=>have:=Au z;rw[hx.new]at this;cases this
 .exact(xo J.stack).of_keeps λb o e _=>⟨o,hx.keeps b o e,rfl⟩
 .obtain⟨o1,e1⟩:=U.there b o e he;exact⟨o1,hx.keeps b o1 e1,xn e1 hb⟩
 obtain⟨u,hu⟩:=Option.ne_none_iff_exists'.mp hb;obtain⟨o,e⟩:=(J.bM b u hu).obj;exact⟨o,hx.keeps b o e,xn e λz=>hb (J.uN b z)⟩
theorem Bq.okX{P:Ux}{w:UA}{K:OJ}{mg:UI->Option Uj}{base:UH}{x qual:UI}{st:Vp}{f:Um}{fd:Uz}{N Z:List UI}{k:Nat}{sp:Sp}(F:Bq K x qual st f fd)(S:aN N Z (aD st))(len:∀J H Q E,sp J H Q E->J.length=Z.length)
  (U:∀(G:Uj) (A:UG) (outer:List WT) (s:Uq) (H:Hp) (J:List V) (Q:VK) (E:XK),eJ k (A.deeper (envOfC qual (aD st) s.heap.objs.size f G))->sp J H Q E->∀X:Cx,X=lY (gh P w) P w K mg base N qual (aD st) f G A outer s H E ->
   ∃t,mX (X.iF (kL X E)) (cp st) t/\t { nx:=λ_ H'=>Q .g6 H',rt:=Q } (start N J) H):aO P w K mg base (gh P w) (k+1) f fd Z sp:=by
 obtain⟨oc,od,kV,doc,pm,an,G,ct,Lg,rfl,lk,FO⟩:=F.ex;refine Hr lk FO S len λA outer s H J Q E hr Fh=>?_;obtain⟨t,h,q⟩:=U G A outer s H J Q E hr Fh _ rfl;refine⟨t,λpins s1 σ H1 D I hw=>?_,q⟩;refine UX (h pins s1 σ H1 D (I.iF _) hw) (λ_ _ q=>q.ej) λe s' hx=>?_;obtain⟨a,cls,H',B,rfl,x,hE⟩:=hx;have O:Own (lY (gh P w) P w K mg base N qual (aD st) f G A outer s H E):=⟨I.ok,rfl,rfl,rfl⟩
 show wpAny (model P w) _ (XW _ (.ref a)) _ _ s';refine Bw (outer:=outer) I.ok.frames rfl x.Kp λh' a0 k1 k2=>?_;refine⟨a,cls,H',B,rfl,x.move k2 ⟨a0,.inr (.inl k1)⟩ (λb hb=>O0 _ hb) O.loc λb _=>by simp[lY],hE⟩
section
variable {X:Cx}{pins:List (Um×U6)}{σ:St}{H:Hp}{s:Uq}
theorem Inv.Jb{i:Nat}{x:UI}{h':UH}{m':UI->Option Uj}{t':Nat}(I:Inv X pins σ H s)(hN:X.N.Nodup)(Z:X.N[i]?=Ya x)(hm:∀m,s.heap.Ns X.env.locals m->∃v,h'.Ns X.env.locals (λy=>if y=x then v else m y))
  (hs:Heap.SameBut X.env.locals s.heap h'):Inv X pins (σ.set i none) H { s with heap:=h',toks:=t' }:=by
 obtain⟨m,hn,hl⟩:=id I.loc;obtain⟨v0,O⟩:=hm m hn;have Cy:=I.Cy;have D:i<σ.length:=by rw[I.len];exact(OI.mp Z).1
 refine⟨I.ok,I.os,I.bare,⟨λb o e n U G=>?_,λb o e n U G=>?_,I.base.free,λb o e G=>?_,I.base.mw,I.base.lW,I.base.my⟩,⟨_,O,λj y v' e1 e2 e3=>?_⟩,λy c e=>?_,I.free,I.iU,λp hp=>?_,λb ob e=>?_,by simpa using I.len⟩
 .exact(hs.2 b (Pd (Pt (O3 e) I.ok.above))).trans (I.base.keep b o e n U G)
 .obtain⟨sl,e1⟩:=I.base.slot b o e n U G;exact⟨sl,(hs.2 b (Pd (Pt (O3 e) I.ok.above))).trans e1⟩
 .obtain⟨o',e1⟩:=I.base.there b o e G;exact⟨o',(hs.2 b (Pd (Pt (O3 e) I.ok.above))).trans e1⟩
 .by_cases V:j=i
  .subst V;rw[Ra D]at e2;cases e2
  rw[Ro (Ne.symm V)]at e2;obtain⟨u',r',q⟩:=hl j y v' e1 e2 e3;refine⟨u',r',?_⟩;rcases q with⟨k,e⟩|⟨k,c,e,z⟩
  .refine .inl ⟨k,?_⟩;have:y≠x:=λe=>V (qN hN e1 (e▸Z));simp[this,e]
  exact .inr ⟨k,c,e,z.sameBut hs (Cy y c e)⟩
 .obtain⟨w',z⟩:=I.cell y c e;exact⟨w',z.sameBut hs (Cy y c e)⟩
 .obtain⟨e,n,ne,nf,d⟩:=I.pin p hp;exact⟨(hs.2 p.1 ne).trans e,n,ne,nf,d⟩
 refine(I.bM b ob e).sR (λc w' J q=>(hs.2 c ?_).trans q) (λ_ q=>q) λ_ _ q=>q;rintro rfl;rcases J with rfl|J
 .rw[I.free]at e;cases e
 rw[I.free]at J;cases J
end
noncomputable def i0(X:Cx)(a:Um)(D:U6):Cx:={ X with A:=X.A.mark (Ya (.ref a)),calm:=false,pn:=X.pn++[(a,D)],xe:=λ_ _=>False }
section
variable {X:Cx}{pins:List (Um×U6)}{σ:St}{H:Hp}{s:Uq}{a:Um}{O:U6}
theorem Inv.suite(I:Inv X pins σ H s)(e:s.heap.get? a=Ya O)(D:H a=none)(G:a≠X.env.locals)(J:a∉X.fs)(hd:∀v,O.data≠.cell v):Inv (i0 X a O) pins σ H s:=by
 refine⟨⟨I.ok.mod,I.ok.kind,I.ok.glob,I.ok.blt,I.ok.above,I.ok.inj,I.ok.has,I.ok.Ij,λz=>(O2 z).elim,I.ok.frames,I.ok.Hl,I.ok.Nn,I.ok.bs,I.ok.Cw,I.ok.qM,I.ok.Bd,I.ok.mA,I.ok.Fz⟩,I.os,I.bare,I.base,I.loc,I.cell,I.free,I.iU,λp hp=>?_,I.bM,I.len⟩;have hp:p∈(X.pn++[(a,O)])++pins:=hp;rcases OY.mp hp with z|z
 .rcases OY.mp z with z|z
  .exact I.pin p (Pn _ z)
  have z:p=(a,O):=by simpa using z
  subst z;exact⟨e,D,G,J,hd⟩
 exact I.pin p (O4 _ z)
end
def PEX(X:Cx)(e:UL)(t:XK->TE):Prop :=
 ∀(E:XK) (pins:List (Um×U6)) (s:Uq) (σ:St) (H:Hp) (Q:VK),Inv X pins σ H s->t E σ H Q ->
  wpAny (model X.prog X.w) X.A (eval e X.env) (EP X pins σ Q) (λe s'=>∃D G,Inv X pins σ D G/\gh X.prog X.w X.stack D G E e s') s
theorem vj{X:Cx}{x:UI}{st:Vp}{U:List UI}{f:Um}{fd:Uz}{k:Nat}{sp:Sp}{e:UL}{es:List UL}{t:TA}{p pos:VL}(G:aO X.prog X.w X.K X.mg X.base (gh X.prog X.w) k f fd U sp)(F:Fn X.K X.mg x st U f fd)(hr:eJ k X.A)(ha:PA X.FD (e::es) t)
  (hg:Gl X x:=by rfl) (V:(x==("__debug__":UI))=false:=by decide) (he:UC (e::es) X.env=(false,eval e X.env)::UC es X.env:=by rfl) (Z:(backTo pos (UC es X.env)).any (·.1)=false:=by rfl) :
  PEX X (.Call (.Name x p) (e::es) [] pos) (λE=>tW sp [] E t):=by
 intro E pins s σ H Q I h;refine Vi (mY I hg F.g ?_ V);refine S4 (h₀:=X.base) I.ok.mod.mU F.fn.kp (mF (ha pos pins s σ H _ (I.iF _) h) λO s1 ⟨vs,H1,D,r,q⟩=>⟨D.Be,?_⟩) he Z;have D:=D.ej;have q':sp (vs++[]) H1 Q E:=q;rw[Pj]at q';have hl:O.length=U.length:=by rw[<-r.length];exact G.len _ _ _ _ q'
 have hb:=F.b s1 O D.Be (by rw[Pj];exact hl);rw[Pj]at hb;refine Wh (VE (G.run X.A X.stack s1 H1 ⟨O,[]⟩ O vs Q E hr D.Iy hb r q') λr s' J=>?_);cases r with
 |error e=>exact⟨H1,s1,D,J⟩
 |ok fl =>
  cases fl with
  |ret u=>exact D.after J
  |next=>exact False.elim J
  |brk=>exact False.elim J
  |cont=>exact False.elim J
section
variable {X:Cx}
theorem rG{b:List Vp}{R:TS}(h:∀D σ H,R D σ H->∃t,mX X b t/\t D σ H):mX X b R:=λpins s σ H D I hw=>by
 obtain⟨t,G,J⟩:=h D σ H hw;exact G pins s σ H D I J
theorem bK:fX X (.type "tuple") (λxs H Q=>∃p D,xs=[.ref p]/\(H p=Ya (.lst D)\/H p=Ya (.tup D))/\∀t G,aE H G->G t=Ya (.tup D)->Q (.ref t) G):=by
 intro pins s σ H xs J Q I r h;obtain⟨p,D,rfl,hp,q⟩:=h;refine mh pins s σ H [.ref p] J Q I r ⟨p,D,rfl,?_⟩;rcases hp with hp|hp
 .exact .inl ⟨aZ.of hp,λl O=>q l _ (ai O) ag⟩
 exact .inr ⟨br.of hp,q p H (aE.refl H) hp⟩
theorem LO:Passes (gh X.prog X.w) X E0:=λ_ _ _ _ _ _ _ h=>by
 obtain⟨_,_,_,_,_,_,z⟩:=h;exact z.elim
theorem iI {x : UI}{st : Vp}{O : List UI}{f : Um}{U : Uz}{k : Nat}{sp : Sp}{e : UL}{es : List UL}{t : TA}{p pos : VL}(G : aO X.prog X.w X.K X.mg X.base (gh X.prog X.w) k f U O sp)(F : Fn X.K X.mg x st O f U)(V : eJ k X.A)(Z : PA X (e::es) t)
    (hg:Gl X x:=by rfl) (D:(x==("__debug__" : UI))=false:=by decide) (he:UC (e::es) X.env=(false,eval e X.env)::UC es X.env:=by rfl) (J:(backTo pos (UC es X.env)).any (·.1)=false:=by rfl) :
    PE X (.Call (.Name x p) (e::es) [] pos) (tW sp [] E0 t):= uT G V hg F.g F.fn.kp F.b .nil LO Z D he J
theorem g8 {E : XK}{x : UI}{st : Vp}{O : List UI}{f : Um}{U : Uz}{k : Nat}{sp : Sp}{e : UL}{es : List UL}{t : TA}{p pos : VL}(G : aO X.prog X.w X.K X.mg X.base (gh X.prog X.w) k f U O sp)(F : Fn X.K X.mg x st O f U)(V : eJ k X.A)(Z : PA (X.iF (kL X E)) (e::es) t)
    (hg:Gl (X.iF (kL X E)) x:=by rfl) (D:(x==("__debug__" : UI))=false:=by decide) (he:UC (e::es) X.env=(false,eval e X.env)::UC es X.env:=by rfl) (J:(backTo pos (UC es X.env)).any (·.1)=false:=by rfl) :
    PE (X.iF (kL X E)) (.Call (.Name x p) (e::es) [] pos) (tW sp [] E t):= uT (X:=X.iF (kL X E)) G V hg F.g F.fn.kp F.b .nil (LI (F:=λ_ _=>True)) Z D he J
theorem Bq.oF{P:Ux}{w:UA}{K:OJ}{mg:UI->Option Uj}{base:UH}{x qual:UI}{st:Vp}{f:Um}{Z:Uz}{N U:List UI}{k:Nat}{sp:Sp}(F:Bq K x qual st f Z)(S:aN N U (aD st))(len:∀J H Q E,sp J H Q E->J.length=U.length)
  (O:∀(G:Uj) (A:UG) (outer:List WT) (s:Uq) (H:Hp) (J:List V) (Q:VK) (E:XK),eJ k (A.deeper (envOfC qual (aD st) s.heap.objs.size f G))->sp J H Q E->Own (lY (gh P w) P w K mg base N qual (aD st) f G A outer s H E) ->
   ∃t,mX ((lY (gh P w) P w K mg base N qual (aD st) f G A outer s H E).iF (kL (lY (gh P w) P w K mg base N qual (aD st) f G A outer s H E) E)) (cp st) t/\t { nx:=λ_ H'=>Q .g6 H',rt:=Q } (start N J) H):aO P w K mg base (gh P w) (k+1) f Z U sp:=by
 refine F.okX S len λG A outer s H J Q E hr h X hX=>?_;subst hX;by_cases ok:(lY (gh P w) P w K mg base N qual (aD st) f G A outer s H E).Ok
 .exact O G A outer s H J Q E hr h ⟨ok,rfl,rfl,rfl⟩
 exact⟨λ_ _ _=>True,λpins s σ H D I _=>Us I.ok.ej ok,trivial⟩
theorem Bq.okO{P:Ux}{w:UA}{K:OJ}{mg:UI->Option Uj}{base:UH}{x qual:UI}{st:Vp}{f:Um}{Z:Uz}{N U:List UI}{k:Nat}{sp:Sp}(F:Bq K x qual st f Z)(S:aN N U (aD st))(len:∀J H Q E,sp J H Q E->J.length=U.length)
  (O:∀(G:Uj) (A:UG) (outer:List WT) (s:Uq) (H:Hp) (J:List V) (Q:VK) (E:XK),eJ k (A.deeper (envOfC qual (aD st) s.heap.objs.size f G))->sp J H Q E->Own (lY dq P w K mg base N qual (aD st) f G A outer s H E).FD ->
   ∃t,mX (lY dq P w K mg base N qual (aD st) f G A outer s H E).FD (cp st) t/\t { nx:=λ_ H'=>Q .g6 H',rt:=Q } (start N J) H):aO P w K mg base dq (k+1) f Z U sp:=by
 refine F.ok S len λG A outer s H J Q E hr h=>?_;by_cases ok:(lY dq P w K mg base N qual (aD st) f G A outer s H E).FD.Ok
 .exact O G A outer s H J Q E hr h ⟨ok,rfl,rfl,rfl⟩
 exact⟨λ_ _ _=>True,λpins s σ H D I _=>Us I.ok ok,trivial⟩
theorem eJ.lt{k:Nat}{A:UG}(r:eJ k A)(n:Nat)(h:n<=62):A.units+n+1<cLine:=by have:=r.units;omega
def PJ(X:Cx)(es:List UL)(m:Nat)(t:St->Hp->Prop):Prop :=
 ∀(pins:List (Um×U6)) (s:Uq) (σ:St) (H:Hp) (out:UI) (Q:Uj->Uq->Prop),Inv X pins σ H s->t σ H->out.length+m<=Uu->(∀x tk s',Inv X pins σ H s'->Q (.str x tk) s') ->
  wpAny (model X.prog X.w) X.A (Xq out (XD es X.env)) Q X.xe s
def aam:St->Hp->Prop:=λ_ _=>True
def aan(D:TE)(t:St->Hp->Prop):St->Hp->Prop:=λσ H=>D σ H λv H'=>H'=H/\(∃i:Int,v=.int i/\i.natAbs.log2<1920)/\t σ H
theorem Dq:PJ X [] 0 aam:=λpins s σ H out Q I _ hz q=>joinParts_nil (q _ _ _ (I.tok _)) (by omega)
theorem vk{x:UI}{j}{pos:VL}{es:List UL}{m:Nat}{t:St->Hp->Prop}(h:PJ X es m t):PJ X (.Constant (.str x) j pos::es) (x.length+m) t:=λpins s σ H out Q I D hz q=>by
 show wpAny _ _ (Xq out (eval (.Constant (.str x) j pos) X.env::XD es X.env)) Q _ s;have e:(out++x).length=out.length+x.length:=WY _ _;refine WH (Calls.Constant_str ?_);exact⟨by rw[e];omega,h pins _ σ H (out++x) Q (I.tok _) D (by rw[e];omega) q⟩
theorem Dr{a:UL}{pos:VL}{es:List UL}{m:Nat}{t:St->Hp->Prop}{G:TE}(O:PE X a G)(h:PJ X es m t):PJ X (.FormattedValue a (-1) none pos::es) (1921+m) (aan G t):=λpins s σ H out Q I U hz q=>by
 show wpAny _ _ (Xq out (eval (.FormattedValue a (-1) none pos) X.env::XD es X.env)) Q _ s;refine WH (WI (cL (O pins s σ H _ I U) λu s1 V=>?_));obtain⟨v,Z,I1,r,rfl,⟨i,rfl,J⟩,D⟩:=V;obtain⟨tk,rfl⟩:=r;have l1:=W7 (k:=1920) (by decide) J;have e:(out++Str.ofString (toString i)).length=out.length+(toString i).length:=by rw[WY,PySem.ofString_length]
 refine formatField_int_small J ?_;exact⟨by rw[e];omega,h pins _ σ Z (out++Str.ofString (toString i)) Q (I1.tok _) D (by rw[e];omega) q⟩
def tFs(t:St->Hp->Prop):TE:=λσ H Q=>t σ H/\∀x,Q (.str x) H
theorem HB{a b:UL}{es:List UL}{pos:VL}{m:Nat}{t:St->Hp->Prop}(h:PJ X (a::b::es) m t)(G:m<=1000000):PE X (.JoinedStr (a::b::es) pos) (tFs t):=λpins s σ H Q I hw=>by
 have e:Str.empty.length=0:=rfl;have z:Uu=16777216:=UJ;exact JoinedStr_many (h pins s σ H Str.empty _ I hw.1 (by rw[e,z];omega) λx tk s' D=>⟨.str x,H,D,⟨_,rfl⟩,hw.2 x⟩)
end
open PySem.W in
structure Ds(K:Frag) (D:Um):Prop where
 ga:findIn K (.ref D) "__getattribute__" = some (Ya (.builtin "BaseException.__getattribute__"))
 gt:findIn K (.ref D) "__getattr__" = some none
 cl:findIn K (.ref D) "__class__" = some (Ya (.builtin "object.__class__"))
 sp:specialIn K (.builtin "object.__class__") "__get__" = some (Ya (.builtin "getset_descriptor.__get__"))
 tk:takesIn K (.builtin "object.__class__")=Ya true
 mo:mroIn K D (.type "object")=Ya true
 mb:mroIn K D (.type "BaseException")=Ya true
 hd:(clsIn K D).isSome=true
section
open PySem.W PySem.Calls Builtin Builtin.ObjectAttr Builtin.Getset_descriptor
variable {prog:Ux}{w:UA}{A:UG}{E:Uj->Uq->Prop}{K:Frag}{x D:Um}{hp:UH}{gs:Array GenState}{dr:Drawn}{tn:Nat}{os:OsState}
theorem yT(mU:K.In hp)(Z:Ds K D)(M:WU):XO M hp (Builtin.ObjectAttr.find (.ref x) (.ref D) "__class__") (.bind (.builtin "getset_descriptor.__get__") (.builtin "object.__class__")):=by
 refine(Xf (M:=M) mU Z.cl).andThen ?_;refine(looks_specialIn (M:=M) mU Z.sp).andThen ?_;refine Looks.andThen (a:=Ya (.builtin "getset_descriptor.__get__",.builtin "object.__class__")) ?_ (Looks.tag .now);refine(looks_takesIn (M:=M) mU Z.tk).andThen ?_;exact .now
theorem tj{R:Result->Uq->Prop}{G:Uj}(mU:K.In hp)(LT:∀M:WU,XO M hp (typeOf (.ref x)) (.ref D))(Z:Ds K D)(h:R (.ok (.ret (.ref D))) ⟨hp,gs,dr,tn,os⟩) :
  VX (model prog w) A (.call (.builtin "getset_descriptor.__get__") ⟨[.builtin "object.__class__",.ref x,G],[]⟩) R ⟨hp,gs,dr,tn,os⟩:=by
 have la:=LT (model prog w);have lb:=looks_mroIn (M:=model prog w) mU Z.mo;refine WJ KF.slot_gs.plain KF.entry_gs (KF.slot_gs.check _ _ _ _ _ _ _ _ KF.type_class (KF.args_gs _ _ _) ?_);unfold Builtin.«getset_descriptor.__get__» descrGet;rw[dga_obj];refine Uh (Ur ?_);unfold descrGetter descrCheckInstance descrNameAndClass Wo;simp only[KF.owner_class]
 repeat lk
 refine⟨Code.quiet_builtin _ (by decide +kernel),Vm KF.entry_class ?_⟩;unfold Builtin.«object.__class__» shownTypeOf;repeat lk
 exact h
theorem By{Q:Fin->Uq->Prop}{tk:XJ}(mU:K.In hp)(LT:∀M:WU,XO M hp (typeOf (.ref x)) (.ref D))(Z:Ds K D)(h:Q (.done (.ret (.ref D))) ⟨hp,gs,dr,tn,os⟩) :
  wpAny (model prog w) A (Builtin.«object.__getattribute__» ⟨[.ref x,.str "__class__" tk],[]⟩) Q E ⟨hp,gs,dr,tn,os⟩:=by
 have la:=LT (model prog w);have lb:=yT (x:=x) mU Z (model prog w);unfold Builtin.«object.__getattribute__»;refine Uh (m:=slotArgs "__getattribute__" 1 ⟨[.ref x,.str "__class__" tk],[]⟩) (Ur ?_);show wpAny _ _ (attrName (.str "__class__" tk) >>= _) _ _ _;refine Uh (m:=attrName (.str "__class__" tk)) (Ur ?_);refine Uh (la.at ?_);refine Uh (lb.at ?_);show wpAny _ _ (bindTo (.builtin "getset_descriptor.__get__") (.builtin "object.__class__") (.ref x) (.ref D)) _ _ _;unfold bindTo;refine Uh (UD (Wh (tj mU LT Z ?_)));exact Ur h
theorem Bz{Q:Option Uj->Uq->Prop}(mU:K.In hp)(LT:∀M:WU,XO M hp (typeOf (.ref x)) (.ref D))(Z:Ds K D)(h:Q (Ya (.ref D)) ⟨hp,gs,dr,tn+1,os⟩) :
  wpAny (model prog w) A (getAttr? (.ref x) "__class__") Q E ⟨hp,gs,dr,tn,os⟩:=by
 have la:=LT (model prog w);have lb:=Xf (M:=model prog w) mU Z.ga;have O:=Xf (M:=model prog w) mU Z.gt;have ld:=looks_mroIn (M:=model prog w) mU Z.mb;have U:XO (model prog w) hp (Wo (.ref x) (.type "BaseException")) true:=la.andThen ld;have J:=PySem.F.attr_ValueError.ga;have G:(onTheHeap (Value.ref D)&&Value.builtin "BaseException.__getattribute__" == Value.builtin "object.__getattribute__")=false:=by
  rw[show(Value.builtin "BaseException.__getattribute__" == Value.builtin "object.__getattribute__")=false from by decide +kernel]
  rfl
 unfold getAttr? getAttrBy? getAttrBy;refine Uh (wpAny_mkText (Uh (Vc (UD (Uh (la.at (Uh (lb.at ?_))))))));show wpAny _ _ (if(onTheHeap (Value.ref D)&&Value.builtin "BaseException.__getattribute__" == Value.builtin "object.__getattribute__")=true then _ else getAttrByItsOwn _ _ _ _ _ _) _ _ _;rw[G,Uk O2];unfold getAttrByItsOwn;show wpAny _ _ (Xz (.ref D) "__getattr__" >>= _) _ _ _;refine Uh (O.at ?_);refine Uh (Vc (UD ?_));show wpAny _ _ (boundAndCalled _ _ _) _ _ _;unfold boundAndCalled;refine Uh (WG (J.bind (.ref x)) ?_);show wpAny _ _ (call (.builtin "BaseException.__getattribute__") [.ref x,.str "__class__" tn]) _ _ _;have V:builtinKind "BaseException.__getattribute__" = some .slot:=by decide +kernel
 have hs:splitId "BaseException.__getattribute__" = some ("BaseException","__getattribute__"):=by decide +kernel
 have hg:=PySem.F.args_bexc_ga (.ref x) (.str "__class__" tn);refine Wh (WJ J.plain PySem.F.entry_bexc_ga ?_);simp only[checkBuiltinCall,V,hs];refine Uh (U.at ?_)
 repeat (first|assumption|with_reducible refine By mU LT Z ?_|wp_step)
theorem xp(Z:Ds K D):KitX K (.ref x) (.ref D) (λh=>∃G,h.get? x=Ya G/\G.cls=.ref D) where
 ty:=λM h _ q=>by
  obtain⟨G,e,c⟩:=q;rw[<-c];exact(Looks.ld e).andThen .now
 it:=λ_ _ mU _=>by
  have hd:=Z.hd;unfold clsIn at hd
  split at hd
  .rename_i J;intro A' Q' E' s' U V;unfold isType loadHead;exact Uh (wpAny_loadPart (U _ _ (mU _ _ J)) (Ur V))
  cases hd
 ne:=λh tp dd its n sl mU O=>by
  have hd:=Z.hd;refine Qj.mpr λq=>?_;have e:D=tp:=Value.ref.inj (beq_iff_eq.mp q);rw[e]at hd;unfold clsIn at hd
  split at hd
  .rename_i J;have z:=(mU _ _ J).symm.trans O;cases z
  cases hd
 ca:=λ{_ _ _ _ _ s} mU q k=>by
  obtain⟨hp,gs,dr,tn,os⟩:=s;obtain⟨G,e,c⟩:=q;exact Bz mU (λM=>by rw[<-c];exact(Looks.ld e).andThen .now) Z k
end
theorem tm:UR "ValueError" = some (.type "ValueError"):=by decide +kernel
theorem kN{X:Cx}{a D:Um}{G:U6}(J:G.cls=.ref D)(Z:Ds X.K D):fX (i0 X a G) (.builtin "isinstance") (λxs H Q=>∃c b,((∃c',c=V.ref c'/\Pw X.K (.ref D) (.ref c')=Ya b)\/(∃n,c=V.ty n/\Pw X.K (.ref D) (.type n)=Ya b))/\xs=[.ref a,c]/\Q (.bl b) H):=by
 intro pins s σ H xs us Q I r h;obtain⟨c,b,U,rfl,q⟩:=h;obtain⟨u,v,rfl,ru,O⟩:=r.two;cases ru;have hp:=(I.pin (a,G) (Pn _ (O4 _ (OS.mpr rfl)))).1;have mU:X.K.In s.heap:=I.Be;rcases U with⟨c',rfl,e⟩|⟨n,rfl,e⟩
 .cases O;exact Tx (xp Z) mU ⟨G,hp,J⟩ e (λz=>nomatch z) λtk=>⟨.bl b,H,I.tok tk,rfl,q⟩
 cases O;exact Tx (xp Z) mU ⟨G,hp,J⟩ e (λz=>nomatch z) λtk=>⟨.bl b,H,I.tok tk,rfl,q⟩
section
variable {X:Cx}
noncomputable def Jc(K:OJ)(H:Hp):Nat->V->V->Prop
 |0,x,y=>x=y/\jX x=true
 |n+1,x,y=>(x=y/\jX x=true)\/∃(a b:Um) (xs D:List V),x=.ref a/\y=.ref b/\((aZ K H a xs/\aZ K H b D)\/(br K H a xs/\br K H b D))/\xs.length=D.length/\∀(i:Nat) (u v:V),xs[i]?=Ya u->D[i]?=Ya v->Jc K H n u v
theorem xq{x:V}(h:jX x=true):Gb x x=true:=by
 cases x <;> first|rfl|(exact Us h O2)|(show(_==_)=true;exact US _)
theorem ic{xs:List V}{its:List Uj}{j:Nat}(r:Vals xs its)(G:j<its.toArray.size):∃x,xs[j]?=Ya x/\RelV x its.toArray[j]:=by
 have U:=r.length;have D:j<xs.length:=by rw[OT]at G;omega
 obtain⟨u,J,O⟩:=r.get (OG D);refine⟨_,OG D,?_⟩;have z:its.toArray[j]?=Ya u:=by simpa using J
 rw[(Rm.mp z).2];exact O
theorem all_true(n:Nat):(OV n).all (λ_=>true)=true:=Rq.mpr λ_ _=>rfl
section
variable {pins:List (Um×U6)}{σ:St}{H:Hp}{s:Uq}
theorem oG(I:Inv X pins σ H s):∀(n:Nat) {A:UG}{x y:V}{u v:Uj},A.units+n<cLine->Jc X.K H n x y->RelV x u->RelV y v->SeqAt.EqAt A s u v true
 |0,A,x,y,u,v,hu,h,O,U=>by
  obtain⟨rfl,f⟩:=h;have z:=yM (A:=A) (s:=s) O U f f;rw[xq f]at z;exact z
 |n+1,A,x,y,u,v,hu,h,O,U=>by
  rcases h with⟨rfl,f⟩|⟨a,b,xs,ys,rfl,rfl,hs,hl,hd⟩
  .have z:=yM (A:=A) (s:=s) O U f f;rw[xq f]at z;exact z
  cases O;cases U;by_cases e:a=b
  .subst e;exact SeqAt.EqAt.same _
  refine SeqAt.EqAt.of_refs e ?_;have D:A.in1.units+n<cLine:=by show A.units+1+n<cLine;omega
  rcases hs with⟨Z,h2⟩|⟨Z,h2⟩
  .obtain⟨i1,G,p1,z1⟩:=I.list Z;obtain⟨i2,J,p2,z2⟩:=I.list h2;have l1:=G.length;have l2:=J.length;have z:=SeqAt.RcAt.lists (A:=A) (e:=λ_=>true) p1.isList p2.isList (by simp only[OT];omega) (by omega) λj q1 q2=>by
    obtain⟨x1,e1,t1⟩:=ic G q1;obtain⟨x2,e2,t2⟩:=ic J q2;exact oG I n D (hd j x1 x2 e1 e2) t1 t2
   rw[all_true]at z;exact z
  obtain⟨i1,G,p1,z1⟩:=I.tuple Z;obtain⟨i2,J,p2,z2⟩:=I.tuple h2;have l1:=G.length;have l2:=J.length;have z:=SeqAt.RcAt.tuples (A:=A) (e:=λ_=>true) (show s.heap.IsTuple a i1.toArray from p1) (show s.heap.IsTuple b i2.toArray from p2) (by omega) λj q1 q2=>by
   obtain⟨x1,e1,t1⟩:=ic G q1;obtain⟨x2,e2,t2⟩:=ic J q2;exact oG I n D (hd j x1 x2 e1 e2) t1 t2
  have e3:(i1.toArray.size==i2.toArray.size)=true:=by simp only[OT,beq_iff_eq];omega
  rw[all_true,e3]at z;exact z
end
def HC(K:OJ)(H:Hp)(n:Nat)(a b:Um):Prop:=∃xs D:List V,aZ K H a xs/\aZ K H b D/\xs.length=D.length/\∀(i:Nat) (u v:V),xs[i]?=Ya u->D[i]?=Ya v->Jc K H n u v
theorem mI(n:Nat)(hu:X.A.units+n+1<cLine):kl X (UQ .NotEq) (λx y H Q=>∃a b:Um,x=.ref a/\y=.ref b/\HC X.K H n a b/\Q (.bl false) H):=by
 intro pins s σ H x y v u Q I J O h;obtain⟨a,b,rfl,rfl,⟨xs,ys,U,V,hl,hd⟩,q⟩:=h;cases J;cases O;obtain⟨i1,D,Z,z1⟩:=I.list U;obtain⟨i2,G,p2,z2⟩:=I.list V;have l1:=D.length;have l2:=G.length;refine SeqAt.RcNeAt.lists (A:=X.A) (e:=λ_=>true) Z.isList p2.isList (by simp only[OT];omega) (by omega) (λj q1 q2=>?_) X.prog X.w X.xe _ ⟨.bl false,H,I,?_,q⟩
 .obtain⟨x1,e1,t1⟩:=ic D q1;obtain⟨x2,e2,t2⟩:=ic G q2;exact oG I n (by show X.A.units+1+n<cLine;omega) (hd j x1 x2 e1 e2) t1 t2
 show Value.bool _=Value.bool false;rw[all_true]
 rfl
end
theorem Gr{X:Cx}{scope:VU}{pre:List UI}{y:UI}{c:Um}{j:Nat}(D:scope.kind=.function)(h:∀z∈scope.names,z.2≠.cell/\(z.2=.free->z.1=y))(hn:∀z∈scope.names,z.2=.local->scope.names.lookup z.1=Ya .local)
  (O:W6 scope X.env=pure [(y,c)]) (hc:X.env.cells.lookup y=Ya c) (hN:X.N[j]?=Ya y) (G:X.env.kindOf y=Ya .cell) (hr:(VO scope X.env).names.lookup y=Ya .cell) :
  kF X scope [(y,c)] (pre++[y]) (R7 pre.length none++[Ya j]) where
 Gi:=O
 cell:=λz hz=>(h z hz).1
 kind:=D
 names:=hn
 cls:=λx c' e=>by
  rw[Q5]at e
  split at e
  .rename_i hx;rw[eq_of_beq hx,<-e];exact hc
  cases e
 has:=λx e=>by
  have key:∀k,(VO scope X.env).names.lookup x=Ya k->k=.cell\/k=.free->x=y:=λk e G=>by
   have hm:=PySem.mem_of_lookup e;obtain⟨⟨n,Z⟩,hy,J⟩:=OO.mp hm;have h1:=h _ hy;by_cases U:Z=.free
   .have z:=h1.2 U;dsimp only at J
    split at J
    .cases J;exact z
    cases J;exact z
   have hb:(Z==NameKind.free)=false:=by simpa using U
   simp only[hb,Qw,PF,U1,Prod.mk.injEq]at J;obtain⟨_,rfl⟩:=J;rcases G with G|G
   .exact Us G h1.1
   exact Us G U
  have V:x=y:=by
   rcases e with e|e
   .exact key _ e (.inl rfl)
   exact key _ e (.inr rfl)
  exact⟨c,by rw[V,Q5,US]⟩
 len:=by simp
 src:=λi k x e1 e2=>by
  by_cases hi:i<pre.length
  .rw[Pg (by simpa using hi),Q1,Uo hi]at e1;cases e1
  have hl:=(OI.mp e2).1;rw[OQ,QA]at hl;have e:i=pre.length:=by omega
  subst e;rw[Pk (by simp)]at e1;rw[Pk (ON _)]at e2;simp at e1 e2;subst e1 e2;exact⟨hN,.inl G,.inl hr⟩
theorem jF {X : Cx}{scope : VU}{x y : UI}{c : Um}{j : Nat}(D : scope.kind=.function)(h : ∀ z ∈ scope.names, z.2 ≠ .cell /\ (z.2=.free -> z.1=y))(J : ∀ z ∈ scope.names, z.2=.local -> scope.names.lookup z.1=Ya .local)
    (G:W6 scope X.env=pure [(y,c)]) (O:X.env.cells.lookup y=Ya c) (U:X.N[j]?=Ya y) (V:X.env.kindOf y=Ya .cell) (Z:(VO scope X.env).names.lookup y=Ya .cell) :
    kF X scope [(y,c)] [x,y] [none,some j]:= Gr (pre:=[x]) D h J G O U V Z
theorem BA{M:WU}{A:UG}{E:Uj->Uq->Prop}{s:Uq}{env:WT}{x:UI}{v:Uj}{Q:Unit->Uq->Prop}(h:wpAny M A (Xm env x v) Q E s):wpAny M A (bindName env x v) Q E s:=fun Γ p hΓ=>by
 rw[Sem.wp_bindName];exact h Γ _ hΓ
theorem jG{X:Cx}{G iter U:UL}{J:List UL}{scope:VU}{pos pos' ps:VL}{x:UI}{ix:Nat}{cl:List (UI×Um)}{NC:List UI}{V:List (Option Nat)}{wi:TI}{g:TG}{tt:TT}{te:TE}
  (hN:X.N.Nodup) (Z:X.N[ix]?=Ya x) (hx:Loc X.env.scope x) (hc:X.calm=true) (O:kF X scope cl NC V) (hi:PI X U iter wi)
  (hg:∀fp C s₀ H₀,PG (dP X scope cl NC fp C s₀ H₀) U g) (ht:∀fp C s₀ H₀,Lz (dP X scope cl NC fp C s₀ H₀) J tt) (he:∀fp C s₀ H₀,PE (dP X scope cl NC fp C s₀ H₀) G te)
  (hs:∀x,VD iter X.env x=pure x:=by intro _;rfl) (hsw:We (.ListComp G [⟨U,iter,J,0⟩] scope pos) (Ya (.Name x pos')) ps.line X.env=pure true:=by rfl)
  (hf:X.fn x=true\/X.env.scope.names.lookup x=Ya .local:=by first|exact .inl rfl|exact .inr rfl|assumption):PS X (.Assign [.Name x pos'] (.ListComp G [⟨U,iter,J,0⟩] scope pos) ps) (FG (C6 wi g tt te V) (wU ix)):=by
 intro pins s σ H Dn I h;rw[exec_Assign_Name_used _ _ _ _ hsw];refine Uh (Vn (Uh ?_));show wpAny _ _ (comprehension (.ListComp G [⟨U,iter,J,0⟩] scope pos) scope X.env _ (newList []) false (eval iter X.env) (Ya (assign (.Name x pos') X.env)) >>= λ_=>pure ()) _ _ s;refine Uh ?_;refine t9 hc O hi hg ht he hs I h λD fp s3 s4 σ3 H0 H3 u I3 f3 I4 qn=>?_;obtain⟨m',N4,_⟩:=I4.loc;show wpAny _ _ (do XQ pos';bindName X.env x (.ref D)) _ _ s4;refine Uh (Vn ?_);have IX:Inv X pins σ H3 s4:=comp_back I3 f3 I4 (Heap.SameBut.refl _ _);have fC:iS X pins H3 s3.heap.objs.size:=I3.uQ (ON _) I4.free;obtain⟨c0,c1,c2,c3,c4,c5⟩:=fC;refine BA (tQ IX hN Z hx (v:=.ref D) rfl (λs5 I5 sb=>?_) hf);obtain⟨aa,sb1,sb2⟩:=sb;have nA:s3.heap.objs.size≠aa:=by
  rcases sb2 with z|z
  .rw[z];exact c1
  exact Ne.symm (c4 x aa z)
 obtain⟨oo,es,ep,g1,g2⟩:=N4;refine⟨m',⟨oo,es,ep,(sb1.2 _ nA).trans g1,g2⟩,λh' Hw=>Ur (Ur ⟨_,H3,I5.turned (t':=s5.toks) (λb o hb e=>(Hw.2 b hb).trans e) c0 c1 c3 c4 c5,qn⟩)⟩
theorem nB{X:Cx}{K:OJ}(D:X.K=K):Lo X (Lp K):=D▸eE
theorem Aw{X:Cx}{K:OJ}(D:X.K=K):Lo X (Ga K):=D▸eo
section
variable {X:Cx}
theorem Dt:UR "sum" = some (.builtin "sum"):=by decide +kernel
end
theorem rH{h:UH}:∀{ns:List Int}{its:List Uj},Vals (ns.map V.int) its->ReadsAll h its (ns.map PyData.int) []
 |[],_,.nil=>.nil
 |n::ns,_::_,.cons r t=>by
  obtain⟨tk,rfl⟩:=r;exact ReadsAll.cons (as:=[]) (bs:=[]) (.int n tk) (rH t)
theorem mi:∀{ns:List Int},(∀n∈ns,n.natAbs.log2<1920)->PyData.showableAll (ns.map PyData.int)=true
 |[],_=>rfl
 |n::ns,h=>by
  show(decide (n.natAbs.log2<1920)&&PyData.showableAll (ns.map PyData.int))=true;rw[Ul (h n O1),mi λm D=>h m (O0 _ D)]
  rfl
theorem pC:∀ns:List Int,PyData.hasDictAll (ns.map PyData.int)=false
 |[]=>rfl
 |n::ns=>by show(false||PyData.hasDictAll (ns.map PyData.int))=false;rw[pC ns];rfl
theorem rJ:∀ns:List Int,PyData.depthAll (ns.map PyData.int)=0
 |[]=>rfl
 |n::ns=>by show max 0 (PyData.depthAll (ns.map PyData.int))=0;rw[rJ ns];rfl
theorem rK:∀{ns:List Int},(∀n∈ns,n.natAbs.log2<1920)->(PyData.shownAll (ns.map PyData.int)).length=ns.length/\((PyData.shownAll (ns.map PyData.int)).map (·.length)).sum<=1921*ns.length
 |[],_=>⟨rfl,ON _⟩
 |n::ns,h=>by
  obtain⟨e1,e2⟩:=rK (ns:=ns) λm D=>h m (O0 _ D);have G:=W7 (k:=1920) (by decide) (h n O1);refine⟨by show(PyData.shownAll (ns.map PyData.int)).length+1=ns.length+1;rw[e1],?_⟩;show(Str.ofString (toString n)).length+((PyData.shownAll (ns.map PyData.int)).map (·.length)).sum<=1921*(ns.length+1);rw[PySem.ofString_length];omega
theorem yU:UR "max" = some (.builtin "max"):=by decide +kernel
def Kq(X:Cx)(b:List Vp)(t:XK->TS):Prop :=
 ∀(E:XK) (pins:List (Um×U6)) (s:Uq) (σ:St) (H:Hp) (D:Ends),Inv X pins σ H s->t E D σ H ->
  wpAny (model X.prog X.w) X.A (execs b X.env) (SP X pins D) (λe s'=>∃G J,Inv X pins σ G J/\gh X.prog X.w X.stack G J E e s') s
theorem nC{X:Cx}{J:UL}{G:VL}{t:XK->TE}(V:PEX X J t)(O:We J none G.line X.env=pure false:=by rfl):Kq X [.Expr J G] (λE D σ H=>t E σ H λ_ U=>D.nx σ U):=λE pins s σ H D I h=>by
 refine Vr (wpAny_Expr_any (UX (V E pins s σ H _ I h) (λv Z ⟨y,U,I1,r1,q1⟩=>?_) λe s' hx=>hx) I.quiet O);exact U9 (show SP X pins D .next Z from⟨σ,U,I1,q1⟩)
theorem yV{X:Cx}{c:UL}{a b:List Vp}{pos:VL}{V:TT}{Z tb:XK->TS}(hc:PT X.FD c V)(ha:Kq X a Z)(hb:Kq X b tb):Kq X [.If c a b pos] (λE=>K0 V (Z E) (tb E)):=λE pins s σ H D I h=>by
 refine Vr (wpAny_If (mF (hc pins s σ H _ (I.iF _) h) λd G ⟨J,I1,q1⟩=>?_));have go:∀{O:List Vp}{t':XK->TS},Kq X O t'->t' E D σ J->wpAny (model X.prog X.w) X.A (execs O X.env) (λf G=>match f with|.next=>wpAny (model X.prog X.w) X.A (execs [] X.env) (SP X pins D) (λe s'=>∃J G,Inv X pins σ J G/\gh X.prog X.w X.stack J G E e s') G|f=>SP X pins D f G) (λe s'=>∃J G,Inv X pins σ J G/\gh X.prog X.w X.stack J G E e s') G:=λ{O t'} U ht=>by
  refine UX (U E pins G σ J D I1.ej ht) (λf s2 q=>?_) λ_ _ x=>x;cases f with
  |next=>exact U9 q
  |ret v=>exact q
  |brk=>exact q
  |cont=>exact q
 cases d with
 |true=>exact go ha q1
 |false=>exact go hb q1
noncomputable def qy(X:Cx)(a:Um)(D:U6):Cx:={ X with pn:=X.pn++[(a,D)] }
theorem Inv.Jd{X:Cx}{pins:List (Um×U6)}{σ:St}{H:Hp}{s:Uq}{a:Um}{D:U6}(ok:X.Ok)(I:Inv (i0 X a D) pins σ H s):Inv (qy X a D) pins σ H s :=
 ⟨⟨ok.mod,ok.kind,ok.glob,ok.blt,ok.above,ok.inj,ok.has,ok.Ij,ok.hd,ok.frames,ok.Hl,ok.Nn,ok.bs,ok.Cw,ok.qM,ok.Bd,ok.mA,ok.Fz⟩,I.os,I.bare,I.base,I.loc,I.cell,I.free,I.iU,I.pin,I.bM,I.len⟩
theorem Inv.nD{X:Cx}{pins:List (Um×U6)}{σ:St}{H:Hp}{s:Uq}{a:Um}{D:U6}(ok:X.Ok)(I:Inv (qy X a D) pins σ H s):Inv X pins σ H s :=
 ⟨ok,I.os,I.bare,I.base,I.loc,I.cell,I.free,I.iU,λp hp=>I.pin p (by
  show p∈(X.pn++[(a,D)])++pins;rcases OY.mp hp with z|z
  .exact Pn _ (Pn _ z)
  exact O4 _ z),I.bM,I.len⟩
section
variable {X:Cx}
def aao(D:TE)(t:St->Hp->Prop):St->Hp->Prop:=λσ H=>D σ H λv H'=>H'=H/\(∃(l:Um) (ns:List Int),v=.ref l/\H l=Ya (.tup (ns.map V.int))/\ns.length<=100/\∀n∈ns,n.natAbs.log2<1920)/\t σ H
theorem Je{a:UL}{pos:VL}{es:List UL}{m:Nat}{t:St->Hp->Prop}{O:TE}(V:X.A.guards=Ya [])(Z:X.A.units+3<cLine)(ha:PE X a O)(h:PJ X es m t):PJ X (.FormattedValue a (-1) none pos::es) (200000+m) (aao O t):=λpins s σ H out Q I ht hz q=>by
 show wpAny _ _ (Xq out (eval (.FormattedValue a (-1) none pos) X.env::XD es X.env)) Q _ s;refine WH (WI (cL (ha pins s σ H _ I ht) λu s1 h1=>?_));obtain⟨v,H1,U,r,rfl,⟨l,ns,rfl,hl,hn,D⟩,G⟩:=h1;cases r;obtain⟨z2,its,rv,⟨o,e,hc,n,hd⟩⟩:=U.bM l _ hl;have rd:Reads s1.heap (.ref l) (.tuple (ns.map PyData.int)) []:=Reads.tuple (as:=[]) e hc hd (rH rv);obtain⟨e1,e2⟩:=rK D;have l1:=tupleText_len_le (PyData.shownAll (ns.map PyData.int));have l2:(PyData.shown (.tuple (ns.map PyData.int))).length<=200000:=by
  show(tupleText (PyData.shownAll (ns.map PyData.int))).length<=200000;omega
 have sz:=UJ;have J:(PyData.tuple (ns.map PyData.int)).depth=1:=by
  show PyData.depthAll (ns.map PyData.int)+1=1;rw[rJ]
 refine formatField_of_reads rd (mi D) (PyData.noDict_hsm (pC ns)) V (by rw[J];exact Z) (λ_ _ e=>e) (λh' u tk hk=>?_) (by rw[sz];omega);have e3:(out++PyData.shown (.tuple (ns.map PyData.int))).length=out.length+(PyData.shown (.tuple (ns.map PyData.int))).length:=WY _ _;exact⟨by rw[e3];omega,h pins _ σ H1 _ Q (U.kept (t':=tk) hk) G (by rw[e3];omega) q⟩
end
section
variable {X:Cx}{a b c d:UL}{ta tb tc td:TE}{pos:VL}
def Gs(r U V:R2)(ta tb tc td:TE):TE:=λσ H Q=>ta σ H λx Z=>tb σ Z λy H2=>r x y H2 λz D=>∃k,z=.bl k /\
 (if k=true then tc σ D λG H4=>U y G H4 λz' J=>∃O,z'=.bl O/\(if O=true then td σ J λx' H6=>V G x' H6 Q else Q (.bl false) J)else Q (.bl false) D)
theorem BC{op D G:XN}{r r' J:R2}(ho:kl X (UQ op) r)(O:kl X (UQ D) r')(U:kl X (UQ G) J)(ha:PE X a ta)(hb:PE X b tb)(hc:PE X c tc)(hd:PE X d td)
  (hm:lastMarks [op,D,G] [b,c,d]=false:=by with_unfolding_all rfl):PT X (.Compare a [op,D,G] [b,c,d] pos) (CJ (Gs r r' J ta tb tc td)):=by
 intro pins s σ H Q I h;refine isTrue_chain (cL (ha pins s σ H _ I h) λv s1 ⟨x,H1,I1,r1,q1⟩=>test_link (cL (hb pins s1 σ H1 _ I1 q1) λu s2 ⟨y,H2,I2,r2,q2⟩ =>
  cL (ho pins s2 σ H2 x y v u _ I2 r1 r2 q2) λd s3 ⟨z,H3,I3,J,k,e,q3⟩=>?_)) hm
 subst e;cases J;refine UP ?_;cases k with
 |false =>
  obtain⟨k',V,Z⟩:=q3;cases V;exact ite_ff ⟨H3,I3,Z⟩
 |true =>
  refine ite_tt (test_link (cL (hc pins s3 σ H3 _ I3 q3) λw' s4 ⟨z',H4,I4,r4,q4⟩=>cL (O pins s4 σ H4 y z' u w' _ I4 r2 r4 q4) λd' s5 zq=>?_));obtain⟨z2,H5,I5,r5,k2,e2,q5⟩:=zq;subst e2;cases r5;refine UP ?_;cases k2 with
  |false =>
   obtain⟨k',V,Z⟩:=q5;cases V;exact ite_ff ⟨H5,I5,Z⟩
  |true =>
   refine ite_tt (test_last (cL (hd pins s5 σ H5 _ I5 q5) λx5 s6 ⟨z5,H6,I6,r6,q6⟩=>cL (U pins s6 σ H6 z' z5 w' x5 _ I6 r4 r6 q6) λd3 s7 zq=>?_));obtain⟨z7,H7,I7,r7,k7,e7,q7⟩:=zq;subst e7;cases r7;exact UP ⟨H7,I7,q7⟩
end
section
variable {X:Cx}
theorem ud{s:Uq}{A:UG}{ns ms:List Int}{G J:List Uj}(O:Vals (ns.map V.int) G)(U:Vals (ms.map V.int) J)(j:Nat)(Z:j<G.toArray.size)(h2:j<J.toArray.size) :
  SeqAt.EqAt A.in1 s G.toArray[j] J.toArray[j] (ns.getD j 0==ms.getD j 0):=by
 have l1:ns.length=G.length:=by have z:=O.length;rwa[OH]at z
 have l2:ms.length=J.length:=by have z:=U.length;rwa[OH]at z
 have hj:j<ns.length:=by simp only[OT]at Z;omega
 have D:j<ms.length:=by simp only[OT]at h2;omega
 obtain⟨x1,e1,t1⟩:=ic O Z;obtain⟨x2,e2,t2⟩:=ic U h2;rw[OR,OG hj]at e1;rw[OR,OG D]at e2;obtain rfl:=Option.some.inj e1;obtain rfl:=Option.some.inj e2;obtain⟨k1,q1⟩:=t1;obtain⟨k2,q2⟩:=t2;rw[q1,q2];have g1:ns.getD j 0=ns[j]:=by simp[QK,OG hj]
 have g2:ms.getD j 0=ms[j]:=by simp[QK,OG D]
 rw[g1,g2];exact SeqAt.EqAt.int_int (A:=A.in1) (s:=s) ns[j] k1 ms[j] k2
theorem rL{ns ms:List Int}{D G:List Uj}(O:Vals (ns.map V.int) D)(U:Vals (ms.map V.int) G) :
  ((OV (min D.toArray.size G.toArray.size)).all (λj=>ns.getD j 0==ms.getD j 0)&&D.toArray.size==G.toArray.size)=decide (ns=ms):=by
 have Z:ns.length=D.length:=by have z:=O.length;rwa[OH]at z
 have l2:ms.length=G.length:=by have z:=U.length;rwa[OH]at z
 by_cases c:ns=ms
 .subst c;rw[Ul rfl,PX];exact⟨Rq.mpr λ_ _=>US _,by simp only[OT,<-Z,<-l2];exact US _⟩
 rw[Up c];refine Qj.mpr λz=>c ?_;rw[PX]at z;have hl:ns.length=ms.length:=by have J:=eq_of_beq z.2;simp only[OT]at J;omega
 refine List.ext_getElem hl λj q1 q2=>?_;have J:=Rq.mp z.1 j (OX.mpr (by simp only[OT];omega));have g1:ns.getD j 0=ns[j]:=by simp[QK,OG q1]
 have g2:ms.getD j 0=ms[j]:=by simp[QK,OG q2]
 rw[<-g1,<-g2];exact eq_of_beq J
def Du(K:OJ)(neg:Bool):R2:=λx y H Q=>∃(a b:Um) (ns ms:List Int),x=.ref a/\y=.ref b/\br K H a (ns.map V.int)/\br K H b (ms.map V.int)/\Q (.bl (if neg then !decide (ns=ms)else decide (ns=ms))) H
theorem yW(J:X.A.units<cLine):kl X (UQ .Eq) (Du X.K false):=by
 intro pins s σ H x y v u Q I O U h;obtain⟨a,b,ns,ms,rfl,rfl,V,Z,q⟩:=h;cases O;cases U;obtain⟨i1,D,p1,z1⟩:=I.tuple V;obtain⟨i2,G,p2,z2⟩:=I.tuple Z;refine SeqAt.eq_tupleAt (e:=λj=>ns.getD j 0==ms.getD j 0) (show s.heap.IsTuple a i1.toArray from p1) (show s.heap.IsTuple b i2.toArray from p2) J (λj h1 h2=>ud D G j h1 h2) ⟨.bl (decide (ns=ms)),H,I,?_,q⟩;show Value.bool _=Value.bool _;congr 1;exact rL D G
theorem rM(J:X.A.units<cLine):kl X (UQ .NotEq) (Du X.K true):=by
 intro pins s σ H x y v u Q I O U h;obtain⟨a,b,ns,ms,rfl,rfl,V,Z,q⟩:=h;cases O;cases U;obtain⟨i1,D,p1,z1⟩:=I.tuple V;obtain⟨i2,G,p2,z2⟩:=I.tuple Z;refine SeqAt.RcNeAt.tuples (A:=X.A) (e:=λj=>ns.getD j 0==ms.getD j 0) (show s.heap.IsTuple a i1.toArray from p1) (show s.heap.IsTuple b i2.toArray from p2) J (λj h1 h2=>ud D G j h1 h2) X.prog X.w X.xe _ ⟨.bl (!decide (ns=ms)),H,I,?_,q⟩;show Value.bool _=Value.bool _;congr 1;rw[rL D G]
end
end L2
namespace xh
open PySem AutoSeq1 MeetsSeq
theorem tuple_addW0(l b:Um)(items D:Array Uj)(n O:Nat)(dd G:Option Um)(U J:Array (Option Uj))(V:items.isEmpty=true) :
  Meets (Builtin.«tuple.__add__» ⟨[.ref l,.ref b],[]⟩) (λ_ R s=>s.heap.get? l=Ya { cls:=.type "tuple",dict:=dd,data:=.seq items n,slots:=U }/\s.heap.get? b=Ya { cls:=.type "tuple",dict:=G,data:=.seq D O,slots:=J }/\R (.ok (.ret (Value.ref b))) s):=
 .of_wp λprog w A R s h=>by obtain⟨hp,g,d,tk,os⟩:=s;obtain⟨Z,hb,h⟩:=h;have f1:=idx_int;have f2:=sub_tuple_tuple;have f3:=sub_list_list;have f4:=sub_tuple_list;have f5:=sub_list_tuple;wp_walk using UK Z,UK hb;exact⟨_,rfl,h⟩
end xh
namespace L2
open PySem PySem.Spec PyProof.Rows
section
variable {X:Cx}
def Jf(K:OJ):R2:=λx y H Q=>∃a b xs D,x=.ref a/\y=.ref b/\br K H a xs/\br K H b D/\D≠[]/\xs.length+D.length<=Uu /\
 (xs=[]->Q (.ref b) H)/\(xs≠[]->∀p,H p=none->Q (.ref p) (upd H p (.tup (xs++D))))
theorem Dv:kl X (Vu .Add) (Jf X.K):=by
 intro pins s σ H x y v u Q I rx ry h;obtain⟨a,b,xs,ys,ex,ey,ha,hb,hy,hz,q1,q2⟩:=h;by_cases U:xs=[]
 .subst ex ey;cases rx;cases ry;obtain⟨its,r1,p1,_⟩:=I.tuple ha;obtain⟨D,r2,p2,_⟩:=I.tuple hb;obtain⟨⟨cls,dd,data,sl⟩,ho,hc,n,hd⟩:=id p1;obtain⟨⟨Lk,V,data2,Z⟩,G,J,n2,O⟩:=id p2;simp only at hc hd J O;subst hc hd J O;have e:its=[]:=r1.qw.mpr U;exact Xc ⟨_,ho,rfl⟩ ⟨_,G,rfl⟩ Wg WV RB Rw (Rt _ _)
   (xh.tuple_addW0 a b its.toArray D.toArray n n2 dd V sl Z (by rw[e];rfl)) ⟨ho,G,⟨.ref b,H,I,rfl,q1 U⟩⟩
 exact FY pins s σ H x y v u Q I rx ry ⟨a,b,xs,ys,ex,ey,ha,hb,U,hz,λz=>Us z hy,λ_=>q2 U⟩
end
end L2
namespace xh
open PySem PySem.Spec PyProof.Rows
open Sem (wp)
open AutoSeq1 (wpAny_loadPart')
theorem oH(l:Um)(items:Array Uj)(n:Nat)(b:Um)(D:Array Uj)(Z:Nat)(G:Option Um)(sl:Array (Option Uj))(hs0:¬(!items.isEmpty&&Builtin.List.listTooLong (items.size+D.size))=true)(J:items.size<=Uu)(O:items.size+D.size<=Uu+1) :
  Meets (Builtin.«list.extend» ⟨[.ref l,.ref b],[]⟩) (λ_ R s=>s.heap.get? l=Ya { cls:=.type "list",dict:=none,data:=.seq items n,slots:=#[] }/\s.heap.get? b=Ya { cls:=.type "tuple",dict:=G,data:=.seq D Z,slots:=sl }/\R (.ok (.ret Value.none)) { s with heap:=s.heap.update l (Obj.mapSeq λx=>x++D),toks:=s.toks }):=
 .of_wp λprog w A R s h=>by
  obtain⟨hp,g,d,tk,os⟩:=s;obtain⟨V,hb,h⟩:=h;have f1:=AutoSeq1.idx_int;have f2:=AutoSeq1.sub_tuple_tuple;have f3:=AutoSeq1.sub_list_list;have f4:=AutoSeq1.sub_tuple_list;have f5:=AutoSeq1.sub_list_tuple;have U:(items++D).size<=Uu+1:=by rw[Array.size_append];exact O
  wp_walk using(VT V rfl (hz:=J) (_hz':=U)),UK V,UK hb;exact⟨_,rfl,h⟩
end xh
namespace L2
open PySem PySem.Spec PyProof.Rows
section
variable {X:Cx}
def LT(H:Hp)(a:Um)(xs:List V):Prop:=H a=Ya (.lst xs)\/H a=Ya (.tup xs)
def Dw:V->List V->Hp->VK->Prop:=λx G H Q=>∃l b xs D,x=.ref l/\G=[.ref b]/\H l=Ya (.lst xs)/\LT H b D/\xs.length+D.length<=Uu/\Q .g6 (upd H l (.lst (xs++D)))
theorem yX:Ls X "list.extend" Dw:=by
 intro pins s σ H x vs v us Q I Z rv h;obtain⟨l,b,xs,zs,ex,ev,O,J,hz,q⟩:=h;rcases J with J|J
 .exact eW pins s σ H x vs v us Q I Z rv ⟨l,b,xs,zs,ex,ev,O,J,hz,q⟩
 subst ex ev;cases Z;obtain⟨u,rfl,ru⟩:=rv.one;cases ru;obtain⟨z,its,n,r,hl,e⟩:=I.yO O;obtain⟨z2,D,r2,⟨⟨c,U,dt,sl⟩,e2,V,n2,hd⟩⟩:=I.bM b _ J;have V:c=.type "tuple":=V;have hd:dt=.seq D.toArray n2:=hd;subst V hd;have uZ:=r2.length;have hsz:its.toArray.size+D.toArray.size<=sizeLine:=by rw[OT,OT];omega
 have G:¬(!its.toArray.isEmpty&&Builtin.List.listTooLong (its.toArray.size+D.toArray.size))=true:=by
  rw[w8 hsz,RG];exact O2
 refine W5 F.slot_list_extend ⟨_,e,rfl⟩ F.entry_list_extend (F.args_list_extend_2 _ _)
  (xh.oH l its.toArray n b D.toArray n2 U sl G (by rw[OT];omega) (by omega)) ⟨e,e2,?_⟩
 refine⟨.g6,_,I.IK (its':=its++D) O e (by simp) (r.append r2) ?_,rfl,q⟩;rw[OQ];omega
theorem tq{K:OJ}(G:X.K=K):fX X (.builtin "len") (λxs H Q=>∃p D,xs=[.ref p]/\(aZ K H p D\/br K H p D)/\Q (.int (D.length:Nat)) H):=G▸aH
theorem pD(ns:List Int):∀k,k<=ns.length->preSum (λi=>ns.getD i 0) k=(ns.take k).sum
 |0,_=>by simp[preSum]
 |k+1,h=>by
  have D:k<ns.length:=h;have e:ns.getD k 0=ns[k]:=by simp[QK,OG D]
  show preSum (λi=>ns.getD i 0) k+ns.getD k 0=_;rw[pD ns k (by omega),TK,OG D,Rh,e];simp
theorem xr(hc:X.calm=true):fX X (.builtin "sum") (λxs H Q=>∃(p:Um) (ns:List Int),xs=[.ref p]/\aZ X.K H p (ns.map V.int)/\Q (.int ns.sum) H):=by
 intro pins s σ H xs us Q I r h;obtain⟨p,ns,rfl,hq,q⟩:=h;obtain⟨u,rfl,ru⟩:=r.one;cases ru;obtain⟨its,U,ht,hz⟩:=I.list hq;have D:s.heap.IsList p its.toArray:=ht.isList;have hlen:ns.length=its.length:=by have z:=U.length;rwa[OH]at z
 have G:p<s.heap.objs.size:=let⟨_,e,_⟩:=D;O3 e
 have val:∀(i:Nat) (v:Uj),its.toArray[i]?=Ya v->∃t,v=.int (ns.getD i 0) t:=λi v O=>by
  have O:its[i]?=Ya v:=by simpa using O
  have hi:i<its.length:=(OI.mp O).1;have J:i<ns.length:=by omega
  have e1:(ns.map V.int)[i]?=Ya (.int ns[i]):=by rw[OR,OG J];rfl
  obtain⟨u,Z,t,e⟩:=U.get e1;rw[O]at Z;cases Z;exact⟨t,by rw[e];simp[QK,OG J]⟩
 refine call_sum_walkG (VC D ?_);refine⟨_,_,_,_,_,_,λi=>ns.getD i 0,rfl,Walks.list (A:=X.A.in1) (I.ok.hd hc) s.heap.objs.size p (Pd G) its.toArray,⟨⟨_,O6 _ rfl,rfl,rfl⟩,D.push _⟩,λb hb=>?_,val,λh' tk t' hk=>?_⟩
 .rw[QG];rcases Pa.mp hb with e|e
  .rw[e];exact QP _
  have e:b=p:=by simpa using e
  rw[e];exact Qa G
 have I':Inv X pins σ H { s with heap:=h',toks:=tk }:=I.kept λb o e=>hk b o (λz=>Us (OS.mp z) (Pd (O3 e))) (OM _ e);refine⟨.int ns.sum,H,I',⟨t',?_⟩,q⟩;have z:=pD ns ns.length (ON _);rw[Pc]at z;rw[OT,<-hlen,z]
end
end L2
namespace aI
open PySem L2
theorem take_snoc{α:Type}{l:List α}{i:Nat}{x:α}(h:l[i]?=Ya x):l.take (i+1)=l.take i++[x]:=by
 rw[Sd,h];rfl
end aI
namespace Ch
structure aap(n:Nat) (M:Nat->Nat):Prop where
 lt:∀x,x<2*n->M x<2*n
 inv:∀x,x<2*n->M (M x)=x
section
variable {n:Nat}{M:Nat->Nat}
noncomputable def Dx(n:Nat)(M:Nat->Nat):List Nat:=(OV (2*n)).filter λe=>e==M e
end
end Ch
namespace aI
open PySem L2 Ch
noncomputable def nV(ms:List Nat):List V:=ms.map λ(m:Nat)=>V.int m
noncomputable def oI(xs:List Nat):List Int:=xs.map λ(x:Nat)=>(x:Int)
theorem aS(ms:List Nat):(nV ms).length=ms.length:=by unfold nV;rw[OH]
theorem vn{ms:List Nat}{i m:Nat}(h:ms[i]?=Ya m):(nV ms)[i]?=Ya (.int m):=by unfold nV;rw[OR,h];rfl
theorem cX{ms:List Nat}{i:Nat}{x:V}(h:(nV ms)[i]?=Ya x):∃m,ms[i]?=Ya m/\x=.int m:=by
 unfold nV at h;rw[OR]at h;cases e:ms[i]? with
 |none=>rw[e]at h;cases h
 |some m=>rw[e]at h;exact⟨m,rfl,(Option.some.inj h).symm⟩
theorem gj(xs:List Nat)(x:Nat):nV (xs++[x])=nV xs++[.int x]:=by unfold nV;rw[O5];rfl
noncomputable def ar(ms:List Nat)(e:Nat):Nat:=ms.getD e 0
theorem ie{ms:List Nat}{e:Nat}(h:e<ms.length):ms[e]?=Ya (ar ms e):=by unfold ar;simp[QK,OG h]
structure ak(n:Nat) (ms:List Nat):Prop where
 small:n<=40
 len:ms.length=2*n
 wk:aap n (ar ms)
theorem ak.get{n:Nat}{ms:List Nat}(W:ak n ms){e:Nat}(h:e<2*n):(nV ms)[e]?=Ya (.int (ar ms e)):=vn (ie (by rw[W.len];exact h))
theorem ak.ix{n:Nat}{ms:List Nat}(W:ak n ms){e:Nat}(h:e<2*n):uV (nV ms) (e:Int)=Ya (.int (ar ms e)):=hU (W.get h)
theorem jm{xs:List Nat}{x:Nat}(h:xs.getLast?=Ya x):uV (nV xs) (-1)=Ya (.int x):=by
 obtain⟨D,rfl⟩:=List.getLast?_eq_some_iff.mp h;rw[gj];exact CZ _ _
section
variable (K:OJ)
def xt:Sp:=λD H Q _=>∃(a:Um) (n:Nat) (ms:List Nat),D=[.ref a]/\br K H a (nV ms)/\ak n ms/\Q (.int n) H
def Ax:Sp:=λD H Q _=>∃(a:Um) (n:Nat) (ms:List Nat),D=[.ref a]/\br K H a (nV ms)/\ak n ms/\∀(l:Um) (H':Hp),H l=none->aE H H'->H' l=Ya (.lst (nV (Dx n (ar ms))))->Q (.ref l) H'
end
def xu(K:OJ):Sp:=λD H Q _=>∃(a:Um) (ns:List Int) (k:Nat),D=[.ref a,.int k]/\aZ K H a (ns.map V.int)/\∀i:Int,Q (.int i) H
def Ay(K:OJ):Sp:=λD H Q _=>∃(a:Um) (G:List Int) (n:Nat),D=[.ref a,.int n]/\aZ K H a (G.map V.int)/\n<=40 /\
 ∀(l:Um) (H':Hp) (ms:List Nat),H l=none->aE H H'->ak n ms->H' l=Ya (.lst (nV ms))->Q (.ref l) H'
noncomputable def freed(ms:List Nat)(e:Nat):List Nat:=(ms.set (ar ms e) (ar ms e)).set e e
noncomputable def hH(ms:List Nat)(p q:Nat):List Nat:=(ms.set p q).set q p
theorem nE{ms:List Nat}{i j v:Nat}(D:i<ms.length):ar (ms.set i v) j=if j=i then v else ar ms j:=by
 unfold ar;by_cases e:j=i
 .subst e;rw[Uo rfl];simp[QK,Ra D]
 rw[Uk e];simp[QK,Ro (Ne.symm e)]
theorem BD(ms:List Nat)(e:Nat):(freed ms e).length=ms.length:=by unfold freed;rw[PR,PR]
theorem xv{n:Nat}{ms:List Nat}(W:ak n ms){e:Nat}(D:e<2*n)(j:Nat):ar (freed ms e) j=if j=e then e else if j=ar ms e then ar ms e else ar ms j:=by
 unfold freed;rw[nE (by rw[PR,W.len];exact D),nE (by rw[W.len];exact W.wk.lt e D)]
theorem yY{n:Nat}{ms:List Nat}(W:ak n ms){e:Nat}(D:e<2*n):ak n (freed ms e)/\ar (freed ms e) e=e:=by
 have m:=W.wk.lt e D;have key:=xv W D;refine⟨⟨W.small,by rw[BD];exact W.len,λx J=>?_,λx J=>?_⟩,by rw[key,Uo rfl]⟩
 .rw[key]
  split
  .exact D
  split
  .exact m
  exact W.wk.lt x J
 rw[key x];by_cases c1:x=e
 .rw[Uo c1,key,Uo rfl,c1]
 rw[Uk c1];by_cases c2:x=ar ms e
 .rw[Uo c2,key];by_cases G:ar ms e=e
  .exact Us (c2.trans G) c1
  rw[Uk G,Uo rfl,c2]
 rw[Uk c2,key];have O:=W.wk.inv x J;have G:ar ms x≠e:=λz=>c2 (by rw[<-z,O]);have c4:ar ms x≠ar ms e:=λz=>c1 (by rw[<-O,z,W.wk.inv e D]);rw[Uk G,Uk c4,O]
theorem yZ{n:Nat}{ms:List Nat}(W:ak n ms){p q:Nat}(hp:p<2*n)(J:q<2*n)(O:ar ms p=p)(U:ar ms q=q):ak n (hH ms p q):=by
 have key:∀j,ar (hH ms p q) j=if j=q then p else if j=p then q else ar ms j:=λj=>by
  unfold hH;rw[nE (by rw[PR,W.len];exact J),nE (by rw[W.len];exact hp)]
 refine⟨W.small,by unfold hH;rw[PR,PR];exact W.len,λx D=>?_,λx D=>?_⟩
 .rw[key]
  split
  .exact hp
  split
  .exact J
  exact W.wk.lt x D
 rw[key x];by_cases c1:x=q
 .rw[Uo c1,key];by_cases c2:p=q
  .rw[Uo c2,c1,c2]
  rw[Uk c2,Uo rfl,c1]
 rw[Uk c1];by_cases c2:x=p
 .rw[Uo c2,key,Uo rfl,c2]
 rw[Uk c2,key];have G:=W.wk.inv x D;have V:ar ms x≠q:=λz=>c1 (by rw[<-G,z,U]);have c4:ar ms x≠p:=λz=>c2 (by rw[<-G,z,O]);rw[Uk V,Uk c4,G]
theorem xw{n:Nat}{ms:List Nat}(W:ak n ms){e:Nat}(D:e<2*n){j:Nat}(G:ar ms j=j):ar (freed ms e) j=j:=by
 rw[xv W D]
 split
 .rename_i h;exact h.symm
 split
 .rename_i h;exact h.symm
 exact G
theorem y0{n:Nat}(h:n<=40):ak n (OV (2*n)):=by
 have key:∀x,x<2*n->ar (OV (2*n)) x=x:=λx D=>by unfold ar;simp[QK,Qv D]
 exact⟨h,OW,λx D=>by rw[key x D];exact D,λx D=>by rw[key x D,key x D]⟩
theorem Gu(n:Nat):u7 0 n=nV (OV n):=by
 unfold u7 nV;refine PB λa _=>?_;rw[Ri]
theorem mJ(ms:List Nat)(i v:Nat):(nV ms).set i (.int v)=nV (ms.set i v):=by unfold nV;rw[List.map_set]
theorem ue(ns:List Int)(lo D:Option Int):∃G:List Int,Bm (ns.map V.int) lo D=G.map V.int/\G.length<=ns.length:=by
 have h:=pz (ns.map V.int) lo D;rw[OH]at h;unfold Bm at h⊢;rw[<-TV,<-List.map_take]at h⊢;exact⟨_,rfl,by rw[OH]at h;exact h⟩
theorem BE(xs D:List Nat):nV (xs++D)=nV xs++nV D:=by unfold nV;rw[O5]
end aI
namespace Mt
open Ch
noncomputable def up(xs:List Nat):List Int:=xs.map λ(x:Nat)=>(x:Int)
theorem Jg(xs:List Nat):(up xs).length=xs.length:=by unfold up;rw[OH]
end Mt
namespace aI
open PySem L2 Ch
noncomputable def iV(ns:List Int):List V:=ns.map V.int
theorem LP(ms:List Nat):nV ms=iV (Mt.up ms):=by unfold nV iV Mt.up;rw[Pp];rfl
def Sm(i:Int):Prop:=i.natAbs<10 ^ 40
theorem Sm.log{i:Int}(h:Sm i):i.natAbs.log2<1920:=by
 unfold Sm at h;by_cases z:i.natAbs=0
 .rw[z];decide
 exact(Nat.log2_lt z).mpr (Pt h (by decide +kernel))
theorem Sm.of{i:Int}(D:-(10 ^ 32:Int)<i)(G:i<(10 ^ 32:Int)):Sm i:=by
 unfold Sm;have e:(10:Nat) ^ 40=100000000*10 ^ 32:=by decide +kernel
 rw[e];omega
end aI
namespace L2
open PySem PySem.Spec
theorem Dy{X:Cx}{c:UL}{R:TT}(h:∀σ H Q,R σ H Q->∃t,PT X c t/\t σ H Q):PT X c R:=λpins s σ H Q I hw=>by
 obtain⟨t,D,G⟩:=h σ H Q hw;exact D pins s σ H Q I G
end L2
namespace aI
open PySem L2
def ft{α:Type}(f:α->List V)(H:Hp)(l:Um)(xs:List α):Prop :=
 ∃D:List Um,H l=Ya (.lst (D.map V.ref))/\D.length=xs.length/\∀(i:Nat) (t:Um) (x:α),D[i]?=Ya t->xs[i]?=Ya x->H t=Ya (.tup (f x))
section
variable {α:Type}{f:α->List V}{H H':Hp}{l r b t d:Um}{xs Z:List α}{x:α}
theorem ft.same(h:ft f H l xs)(s:aE H H'):ft f H' l xs:=by
 obtain⟨D,G,J,O⟩:=h;exact⟨D,s _ _ G,J,λi t p e1 e2=>s _ _ (O i t p e1 e2)⟩
theorem ft.nil(h:H l=Ya (.lst [])):ft f H l ([]:List α):=⟨[],h,rfl,λi t r e=>by simp at e⟩
theorem ft.len(h:ft f H l xs):∃D,H l=Ya (.lst D)/\D.length=xs.length:=by
 obtain⟨O,G,J,_⟩:=h;exact⟨_,G,by rw[OH];exact J⟩
def Tup(f:α->List V)(H:Hp)(D:List Um)(xs:List α):Prop:=D.length=xs.length/\∀(i:Nat) (t:Um) (x:α),D[i]?=Ya t->xs[i]?=Ya x->H t=Ya (.tup (f x))
theorem ft.tup(h:ft f H l xs):∃D,H l=Ya (.lst (D.map V.ref))/\Tup f H D xs:=by
 obtain⟨D,G,J,O⟩:=h;exact⟨D,G,J,O⟩
theorem Tup.tst{D:List Um}(h:Tup f H D xs)(G:H l=Ya (.lst (D.map V.ref))):ft f H l xs:=⟨D,G,h.1,h.2⟩
theorem Tup.upd{D:List Um}{o:HO}{G:List V}(h:Tup f H D xs)(J:H l=Ya (.lst G)):Tup f (upd H l o) D xs:=⟨h.1,λi t p e1 e2=>by
 have key:=h.2 i t p e1 e2;rw[aG (λe=>by rw[e,J]at key;cases key)];exact key⟩
theorem Tup.app{D G:List Um}(h:Tup f H D xs)(k:Tup f H G Z):Tup f H (D++G) (xs++Z):=⟨by rw[OQ,OQ,h.1,k.1],λi t p e1 e2=>by
 by_cases J:i<D.length
 .rw[Pg J]at e1;rw[Pg (by have:=h.1;omega)]at e2;exact h.2 i t p e1 e2
 rw[Pk (by omega)]at e1;rw[Pk (by have:=h.1;omega),<-h.1]at e2;exact k.2 _ t p e1 e2⟩
theorem Tup.one(h:H t=Ya (.tup (f x))):Tup f H [t] [x]:=⟨rfl,λi u p e1 e2=>by
 cases i with
 |zero=>cases e1;cases e2;exact h
 |succ i=>cases e1⟩
theorem ft.snoc(h:ft f H l xs)(O:H t=Ya (.tup (f x))):∃D,H l=Ya (.lst D)/\D.length=xs.length/\ft f (L2.upd H l (.lst (D++[.ref t]))) l (xs++[x]):=by
 obtain⟨U,G,J⟩:=h.tup;refine⟨_,G,by rw[OH];exact J.1,?_⟩;exact((J.app (Tup.one O)).upd G).tst (by rw[ag,O5];rfl)
end
end aI
set_option maxHeartbeats 2000000
set_option maxHeartbeats 2000000
namespace nF
open PySem PyProof.Rows
class xA where
 G:U3->Prop
 nm:U3->Int
 kd:SortKind
variable [xA]
noncomputable def num(p:U3):Int:=xA.nm p
noncomputable def K(xs:Array U3)(i:Nat):Int:=match xs[i]? with
 |some p=>num p
 |none=>0
def IntKeys(xs:Array U3):Prop:=∀p∈xs.toList,xA.G p
def SortedTo(xs:Array U3)(k:Nat):Prop:=∀i j,i<=j->j<k->K xs i<=K xs j
noncomputable abbrev oneType':SortKind:=xA.kd
def Asks(prog:Ux)(w:UA)(A:UG)(s:Uq):Prop:=∀x y:U3,xA.G x->xA.G y->∀(E:Uj->Uq->Prop) (Q:Bool->Uq->Prop),Q (decide (num x<num y)) s->wpAny (model prog w) A (keyLt' oneType' x.1 y.1) Q E s
structure Fi(prog:Ux) (w:UA) (A:UG) (s:Uq) (xs:Array U3):Prop where
 ik:IntKeys xs
 as:Asks prog w A s
theorem K_congr{xs D:Array U3}{i j:Nat}(h:xs[i]?=D[j]?):K xs i=K D j:=by unfold K;rw[h]
theorem K_bubble{xs:Array U3}{src d:Nat}(hs:src<xs.size)(hd:d<=src)(k:Nat):K (bubble xs src d) k=if k=src-d then K xs src else if src-d<k/\k<=src then K xs (k-1)else K xs k:=by
 have e:=getElem?_bubble hs d hd k
 split at e
 .rw[Uo (by assumption)];exact K_congr e
 rw[Uk (by assumption)]
 split at e
 .rw[Uo (by assumption)];exact K_congr e
 rw[Uk (by assumption)];exact K_congr e
theorem K_mirror{xs:Array U3}{i j:Nat}(D:j<=xs.size)(k:Nat):K (mirror xs i j ((j-i)/2)) k=if i<=k/\k<j then K xs (i+j-1-k)else K xs k:=by
 have e:=getElem?_mirror_all (i:=i) D k
 split at e
 .rw[Uo (by assumption)];exact K_congr e
 rw[Uk (by assumption)];exact K_congr e
theorem K_mirror_equal{xs:Array U3}{i j:Nat}(G:j<=xs.size)(D:∀k,i<=k->k<j->K xs k=K xs (j-1))(k:Nat):K (mirror xs i j ((j-i)/2)) k=K xs k:=by
 rw[K_mirror G];by_cases c:i<=k/\k<j
 .rw[Uo c,D k c.1 c.2];exact D _ (by omega (config:={})) (by omega (config:={}))
 rw[Uk c]
section
variable {prog:Ux}{w:UA}{A:UG}{E:Uj->Uq->Prop}{s:Uq}
theorem Jh{st:UZ}{x y:U3}{i j:Int}{Q:Option Bool->UZ->Prop}(as:Asks prog w A s)(O:kindOf st=oneType')(D:xA.G x/\num x=i)(J:xA.G y/\num y=j)(h:Q (Ya (decide (i<j))) st):wpS (model prog w) A E s (lt' x y) Q st:=by
 rw[lt'_eq];refine UO (Xg ?_);rw[O];refine UO (wpS_lift (Vc (as x y D.1 J.1 _ _ ⟨rfl,?_⟩)));rw[D.2,J.2];exact U2 h
theorem xB{st:UZ}{D:Array U3}{i:Nat}{Q:U3->UZ->Prop}{p:U3}(hp:D[i]?=Ya p)(h:Q p st):wpS (model prog w) A E s (elem' D i) Q st:=by
 rw[elem'_eq,hp];exact U2 h
theorem dQ{α:Type}{c:Prop}[Decidable c]{m m':StateT UZ X0 α}{Q:α->UZ->Prop}{st:UZ}(D:c->wpS (model prog w) A E s m Q st)(G:¬c->wpS (model prog w) A E s m' Q st):wpS (model prog w) A E s (if c then m else m') Q st:=by
 by_cases h:c
 .rw[Uo h];exact D h
 rw[Uk h];exact G h
end
section
variable {a b out:Array U3}{G D k:Nat}
theorem Dz{xs:Array U3}{i:Nat}{p:U3}(h:xs[i]?=Ya p):K xs i=num p:=by unfold K;rw[h]
end
structure SB(a₀:Array U3) (pd:Array (Nat×Nat×Nat)) (lo:Nat) (f:Nat->Int) (st:UZ):Prop where
 perm:(arrOf st).Perm a₀
 kd:kindOf st=oneType'
 fl:V4 st=none
 pd:VZ st=pd
 pre:∀i,i<lo->K (arrOf st) i=f i
section
variable {a₀:Array U3}{pd:Array (Nat×Nat×Nat)}{lo:Nat}{f:Nat->Int}{st:UZ}
theorem SB.sz(h:SB a₀ pd lo f st):(arrOf st).size=a₀.size:=h.perm.size_eq
theorem SB.put(h:SB a₀ pd lo f st){xs:Array U3}(hp:xs.Perm (arrOf st))(G:∀i,i<lo->K xs i=K (arrOf st) i):SB a₀ pd lo f (setArr st xs):=⟨hp.trans h.perm,h.kd,h.fl,h.pd,λi D=>(G i D).trans (h.pre i D)⟩
theorem SB.item(h:SB a₀ pd lo f st)(J:IntKeys a₀){i:Nat}(O:i<a₀.size):∃p,(arrOf st)[i]?=Ya p/\xA.G p/\num p=K (arrOf st) i:=by
 have D:i<(arrOf st).size:=h.sz.symm▸O;have e:(arrOf st)[i]?=Ya (arrOf st)[i]:=getElem?_pos _ i D;exact⟨(arrOf st)[i],e,J _ ((RX.mp h.perm).mem_iff.mp (Array.getElem_mem_toList D)),(Dz e).symm⟩
end
def jH(lo:Nat)(xs:Array U3)(n:Nat):Prop:=∀i j,i<=j->j<n->K xs (lo+i)<=K xs (lo+j)
def mK(lo:Nat)(xs:Array U3)(n:Nat):Prop:=∀i j,i<=j->j<n->K xs (lo+j)<=K xs (lo+i)
theorem jH.more{lo n:Nat}{xs:Array U3}(h:jH lo xs n)(G:1<=n)(k:K xs (lo+n-1)<=K xs (lo+n)):jH lo xs (n+1):=λi j D J=>by
 by_cases c:j<n
 .exact h i j D c
 obtain rfl:j=n:=by omega
 by_cases d:i=j
 .rw[d];exact RC _
 have z:=h i (j-1) (by omega) (by omega);rw[show lo+(j-1)=lo+j-1 by omega]at z;exact Tg z k
theorem mK.more{lo n:Nat}{xs:Array U3}(h:mK lo xs n)(G:1<=n)(k:K xs (lo+n)<=K xs (lo+n-1)):mK lo xs (n+1):=λi j D J=>by
 by_cases c:j<n
 .exact h i j D c
 obtain rfl:j=n:=by omega
 by_cases d:i=j
 .rw[d];exact RC _
 have z:=h i (j-1) (by omega) (by omega);rw[show lo+(j-1)=lo+j-1 by omega]at z;exact Tg k z
theorem jH.one{lo:Nat}{xs:Array U3}:jH lo xs 1:=λi j D G=>by
 obtain rfl:i=j:=by omega
 exact RC _
theorem mK.one{lo:Nat}{xs:Array U3}:mK lo xs 1:=λi j D G=>by
 obtain rfl:i=j:=by omega
 exact RC _
theorem mK.congr{lo n:Nat}{xs G:Array U3}(h:mK lo xs n)(e:∀k,K G k=K xs k):mK lo G n:=λi j D J=>by rw[e,e];exact h i j D J
noncomputable def LQ(lo a m:Nat):StateT UZ X0 AscSt :=
 forIn [a:m] ((none,a):AscSt) λ_ c=>do
  let x <-ltAt' (lo+c.2) (lo+c.2-1)
  match x with
  |some b=>if b=true then pure (ForInStep.done (none,c.2))else pure (ForInStep.yield (none,c.2+1))
  |_=>pure (ForInStep.done (Ya none,c.2))
noncomputable def DA(lo n m:Nat):StateT UZ X0 (Option Nat):=do
 Wd lo (lo+n)
 let c <-LQ lo n m
 match c.1 with
 |some r=>pure r
 |none=>pure (Ya c.2)
noncomputable def Az(lo n m:Nat):StateT UZ X0 DescSt :=
 forIn [n:m] ((none,n,0):DescSt) λ_ c=>do
  let x <-ltAt' (lo+c.2.1) (lo+c.2.1-1)
  match x with
  |some b =>
   if b=true then
    if c.2.2>0 then do
     Wd (lo+c.2.1-(c.2.2+1)) (lo+c.2.1)
     pure (ForInStep.yield (none,c.2.1+1,0))
    else pure (ForInStep.yield (none,c.2.1+1,0))
   else do
    let y <-ltAt' (lo+c.2.1-1) (lo+c.2.1)
    match y with
    |some g=>if g=true then pure (ForInStep.done (none,c.2.1,c.2.2))else pure (ForInStep.yield (none,c.2.1+1,c.2.2+1))
    |_=>pure (ForInStep.done (Ya none,c.2.1,c.2.2))
  |_=>pure (ForInStep.done (Ya none,c.2.1,c.2.2))
noncomputable def xC(lo n m:Nat):StateT UZ X0 (Option Nat):=do
 liftM (rule "list.sort.descending-run")
 let c <-Az lo (n+1) m
 match c.1 with
 |some r=>pure r
 |none =>
  if c.2.2>0 then do
   Wd (lo+c.2.1-(c.2.2+1)) (lo+c.2.1)
   DA lo c.2.1 m
  else DA lo c.2.1 m
theorem BF(lo m:Nat):countRun' lo m=(do
  let c <-LQ lo 1 m
  match c.1 with
  |some r=>pure r
  |none =>
   if(c.2==m)=true then pure (Ya c.2)
   else if c.2>1 then do
    let x <-ltAt' lo (lo+c.2-1)
    match x with
    |some b=>if b=true then pure (Ya c.2)else do
      Wd lo (lo+c.2)
      xC lo c.2 m
    |_=>pure none
   else xC lo c.2 m):=by
 rw[countRun'_eq];dsimp only;unfold xC DA Az LQ;congr 1;funext c;obtain⟨r,n⟩:=c;cases r with
 |some r=>rfl
 |none =>
  dsimp only
  split
  .rfl
  split
  .congr 1;funext x;cases x with
   |none=>rfl
   |some b =>
    dsimp only
    split
    .rfl
    congr 1;funext _r;congr 1;funext Z;congr 1;congr 1;funext O;obtain⟨J,n2,q2⟩:=O;cases J with
    |some J=>rfl
    |none =>
     dsimp only
     split
     .congr 1;funext _v;congr 1;funext U;congr 1;funext D;obtain⟨G,V⟩:=D;cases G <;> rfl
     congr 1;funext U;congr 1;funext D;obtain⟨G,V⟩:=D;cases G <;> rfl
  congr 1;funext Z;congr 1;congr 1;funext O;obtain⟨J,n2,q2⟩:=O;cases J with
  |some J=>rfl
  |none =>
   dsimp only
   split
   .congr 1;funext _v;congr 1;funext U;congr 1;funext D;obtain⟨G,V⟩:=D;cases G <;> rfl
   congr 1;funext U;congr 1;funext D;obtain⟨G,V⟩:=D;cases G <;> rfl
theorem Ji{f:Nat->Int}{lo l k i:Nat}(D:i<=k):(if lo+i=lo+l then f (lo+k)else if lo+l<lo+i/\lo+i<=lo+k then f (lo+i-1)else f (lo+i))=if i=l then f (lo+k)else if i<l then f (lo+i)else f (lo+(i-1)):=by
 by_cases c:i=l
 .rw[Uo (congrArg _ c),Uo c]
 rw[Uk (λz=>c (Nat.add_left_cancel z)),Uk c];by_cases d:i<l
 .rw[Uk (λz=>Nat.lt_asymm d (Nat.lt_of_add_lt_add_left z.1)),Uo d]
 rw[Uo ⟨Nat.add_lt_add_left (S6 (QO d) (Ne.symm c)) lo,RU D lo⟩,Uk d,Nat.add_sub_assoc (by omega)]
theorem Gv{X Y:Nat->Int}{l k:Nat}(V:∀i,i<=k->Y i=if i=l then X k else if i<l then X i else X (i-1))(up:∀i j,i<=j->j<k->X i<=X j)(Z:∀i,i<l->X i<=X k)(p5:∀i,l<=i->i<k->X k<X i)(i j:Nat)(D:i<=j)(U:j<=k):Y i<=Y j:=by
 rw[V i (PD D U),V j U];by_cases ci:i=l
 .rw[Uo ci];by_cases O:j=l
  .rw[Uo O];exact RC _
  rw[Uk O,Uk (by omega)];exact Ti (p5 _ (by omega) (by omega))
 rw[Uk ci];by_cases G:i<l
 .rw[Uo G];by_cases O:j=l
  .rw[Uo O];exact Z i G
  rw[Uk O];by_cases J:j<l
  .rw[Uo J];by_cases cl:l<=k
   .exact up i j D (Pt J cl)
   by_cases ck:j=k
   .rw[ck];exact Z i G
   exact up i j D (S6 U ck)
  rw[Uk J];exact up i (j-1) (by omega) (by omega)
 rw[Uk G,Uk (by omega),Uk (by omega)];exact up _ _ (Nat.sub_le_sub_right D 1) (by omega)
section
variable {prog:Ux}{w:UA}{A:UG}{E:Uj->Uq->Prop}{s:Uq}{a₀:Array U3}{pd:Array (Nat×Nat×Nat)}{lo:Nat}{f:Nat->Int}
theorem kO{st:UZ}{i j:Nat}{Q:Option Bool->UZ->Prop}(D:SB a₀ pd lo f st)(G:Fi prog w A s a₀)(J:i<a₀.size)(O:j<a₀.size)(h:Q (Ya (decide (K (arrOf st) i<K (arrOf st) j))) st):wpS (model prog w) A E s (ltAt' i j) Q st:=by
 obtain⟨p,e1,U⟩:=D.item G.ik J;obtain⟨q,e2,V⟩:=D.item G.ik O;rw[ltAt'_eq];refine UO (Xg ?_);refine UO (xB e1 (UO (xB e2 ?_)));exact Jh G.as D.kd U V h
theorem SB.turn{st:UZ}(D:SB a₀ pd lo f st){i j:Nat}(J:lo<=i)(G:j<=a₀.size):SB a₀ pd lo f (setArr st (mirror (arrOf st) i j ((j-i)/2))):=
 D.put (mirror_perm _ _ _ _) λk O=>by rw[K_mirror (by rw[D.sz];exact G),Uk (by omega)]
theorem AA{st:UZ}{a m:Nat}{Q:AscSt->UZ->Prop}(O:Fi prog w A s a₀)(Z:lo+m<=a₀.size)(ha:1<=a)(G:a<=m)(U:SB a₀ pd lo f st)(hs:jH lo (arrOf st) a)
  (h:∀n,a<=n->n<=m->jH lo (arrOf st) n->(n=m\/K (arrOf st) (lo+n)<K (arrOf st) (lo+n-1))->Q (none,n) st):wpS (model prog w) A E s (LQ lo a m) Q st:=by
 unfold LQ;refine VG (I:=λx c D=>D=st/\c=(none,x)/\jH lo (arrOf st) x) ?step ?fin ⟨rfl,rfl,hs⟩
 case fin =>
  rintro c D ⟨e1,e2,g⟩;subst e1 e2;have e:max a m=m:=QQ G;rw[e]at g⊢;exact h m G (ON _) g (.inl rfl)
 case step =>
  rintro x c D J V ⟨e1,e2,g⟩;subst e1 e2;dsimp only;refine UO (kO U O (by omega) (by omega) ?_);dsimp only;refine dQ (λz=>?_) (λz=>?_)
  .exact U2 (h x J (by omega) g (.inr (Uw z)))
  exact U2 ⟨rfl,rfl,g.more (by omega) (SJ.mp λy=>z (Ul y))⟩
theorem xD{st:UZ}{n m:Nat}{Q:Option Nat->UZ->Prop}(Z:Fi prog w A s a₀)(O:lo+m<=a₀.size)(U:1<=n)(D:n<=m)(V:SB a₀ pd lo f st)(hs:mK lo (arrOf st) n)
  (h:∀k J,SB a₀ pd lo f J->1<=k->k<=m->jH lo (arrOf J) k->Q (Ya k) J):wpS (model prog w) A E s (DA lo n m) Q st:=by
 unfold DA;have hz:lo+n<=(arrOf st).size:=by rw[V.sz];omega
 have G:=V.turn (i:=lo) (j:=lo+n) (ON _) (by omega);refine UO (WK (UO (AA Z O U D G (λi j y4 hj=>?_) λk k1 k2 g _=>U2 (h k _ G (by omega) k2 g))));show K (mirror (arrOf st) lo (lo+n) _) (lo+i)<=K (mirror (arrOf st) lo (lo+n) _) (lo+j);rw[K_mirror hz,K_mirror hz,Uo (by omega),Uo (by omega)];have z:=hs (n-1-j) (n-1-i) (by clear U D hz G;lia) (by clear O D hz;omega (config:={}));rw[show lo+(n-1-j)=lo+(lo+n)-1-(lo+j) by omega,show lo+(n-1-i)=lo+(lo+n)-1-(lo+i) by clear O U D hz G;lia]at z;exact z
theorem BG{st:UZ}{n m:Nat}{Q:DescSt->UZ->Prop}(h0:Fi prog w A s a₀)(hn:lo+m<=a₀.size)(h1:1<=n)(U:n<=m)(hB:SB a₀ pd lo f st)(hs:mK lo (arrOf st) n)
  (h:∀k q D,SB a₀ pd lo f D->n<=k->k<=m->mK lo (arrOf D) k->q+1<=k->(∀i,lo+k-(q+1)<=i->i<lo+k->K (arrOf D) i=K (arrOf D) (lo+k-1))->Q (none,k,q) D):wpS (model prog w) A E s (Az lo n m) Q st:=by
 unfold Az;refine VG (I:=λx c D=>∃q,c=(none,x,q)/\SB a₀ pd lo f D/\mK lo (arrOf D) x/\q+1<=x/\(∀i,lo+x-(q+1)<=i->i<lo+x->K (arrOf D) i=K (arrOf D) (lo+x-1))) ?step ?fin
  ⟨0,rfl,hB,hs,by omega,λi Z z2=>congrArg _ (by omega)⟩
 case fin =>
  rintro c D ⟨q,e,G,J,V,O⟩;subst e;have e:max n m=m:=QQ U;rw[e]at J V O⊢;exact h m q D G U (ON _) J V O
 case step =>
  rintro x c D hax LR ⟨q,e,G,J,V,O⟩;subst e;dsimp only;refine UO (kO G h0 (by omega) (by omega) ?_);dsimp only;refine dQ (λz=>?_) (λz=>?_)
  .have z:=Ti (Uw z);refine dQ (λy=>?_) (λy=>?_)
   .have hz:lo+x<=(arrOf D).size:=by rw[G.sz];omega
    have ke:=K_mirror_equal (i:=lo+x-(q+1)) hz O;refine UO (WK (U2 ⟨0,rfl,G.turn (by omega) (by omega),(J.congr ke).more (by omega) ?_,by omega,λi Z z2=>congrArg _ (by omega)⟩));show K (mirror (arrOf D) _ _ _) _<=K (mirror (arrOf D) _ _ _) _;rw[ke,ke];exact z
   exact U2 ⟨0,rfl,G,J.more (by omega) z,by omega,λi Z z2=>congrArg _ (by omega)⟩
  have z:K (arrOf D) (lo+x-1)<=K (arrOf D) (lo+x):=SJ.mp λy=>z (Ul y);refine UO (kO G h0 (by omega) (by omega) ?_);dsimp only;refine dQ (λy=>?_) (λy=>?_)
  .exact U2 (h x q D G hax (by omega) J V O)
  have y:K (arrOf D) (lo+x)<=K (arrOf D) (lo+x-1):=SJ.mp λu=>y (Ul u);have ee:K (arrOf D) (lo+x)=K (arrOf D) (lo+x-1):=Int.le_antisymm y z;refine U2 ⟨q+1,rfl,G,J.more (by omega) y,by omega,λi Z z2=>?_⟩;rw[show lo+(x+1)-1=lo+x by omega];by_cases c:i=lo+x
  .rw[c]
  rw[ee];exact O i (by omega) (by omega)
theorem uf{st:UZ}{n m:Nat}{Q:Option Nat->UZ->Prop}(G:Fi prog w A s a₀)(J:lo+m<=a₀.size)(O:n+1<=m)(Z:SB a₀ pd lo f st)(hs:mK lo (arrOf st) (n+1))
  (h:∀k D,SB a₀ pd lo f D->1<=k->k<=m->jH lo (arrOf D) k->Q (Ya k) D):wpS (model prog w) A E s (xC lo n m) Q st:=by
 unfold xC;refine UO (wpS_lift (Vq ⟨rfl,UO (BG G J (by omega) O Z hs λk q D U k1 k2 V g3 g4=>?_)⟩));dsimp only;have hz:lo+k<=(arrOf D).size:=by rw[U.sz];omega
 refine dQ (λy=>?_) (λy=>?_)
 .exact UO (WK (xD G J (by omega) k2 (U.turn (by omega) (by omega)) (V.congr (K_mirror_equal (i:=lo+k-(q+1)) hz g4)) h))
 exact xD G J (by omega) k2 U V h
theorem y6{st:UZ}{m:Nat}{Q:Option Nat->UZ->Prop}(O:Fi prog w A s a₀)(U:lo+m<=a₀.size)(h1:1<=m)(D:SB a₀ pd lo f st)
  (h:∀k G,SB a₀ pd lo f G->1<=k->k<=m->jH lo (arrOf G) k->Q (Ya k) G):wpS (model prog w) A E s (countRun' lo m) Q st:=by
 rw[BF];refine UO (AA O U (ON 1) h1 D jH.one λn Z n2 g V=>?_);dsimp only;refine dQ (λc=>?_) (λc=>?_)
 .exact U2 (h n st D Z n2 g)
 have c:n≠m:=λz=>c (by rw[z];exact US _);have J:=Ti (V.resolve_left c);refine dQ (λd=>?_) (λd=>?_)
 .refine UO (kO D O (by omega) (by omega) ?_);dsimp only;refine dQ (λy=>?_) (λy=>?_)
  .exact U2 (h n st D Z n2 g)
  have y:K (arrOf st) (lo+n-1)<=K (arrOf st) lo:=SJ.mp λu=>y (Ul u);have hz:lo+n<=(arrOf st).size:=by rw[D.sz];omega
  have all:∀k,lo<=k->k<lo+n->K (arrOf st) k=K (arrOf st) (lo+n-1):=λk z1 z2=>by
   have a1:=g 0 (k-lo) (by omega) (by omega);have a2:=g (k-lo) (n-1) (by omega) (by omega);rw[show lo+(k-lo)=k by omega]at a1 a2;rw[show lo+(n-1)=lo+n-1 by omega]at a2;rw[Sy]at a1;omega
  have ke:=K_mirror_equal (i:=lo) hz all;have dn:mK lo (arrOf st) n:=λi j y4 hj=>by rw[all (lo+i) (by omega) (by omega),all (lo+j) (by omega) (by omega)];exact RC _
  exact UO (WK (uf O U (by omega) (D.turn (ON _) (by omega)) ((dn.more (by omega) J).congr ke) h))
 obtain rfl:n=1:=by omega
 exact uf O U (by omega) D (mK.one.more (ON _) J) h
theorem DC{st:UZ}{n ok:Nat}{Q:Bool->UZ->Prop}(h0:Fi prog w A s a₀)(hn:lo+n<=a₀.size)(J:1<=ok)(bM:ok<=n)(hB:SB a₀ pd lo f st)(hs:jH lo (arrOf st) ok)
  (h:∀D,SB a₀ pd lo f D->jH lo (arrOf D) n->Q true D):wpS (model prog w) A E s (binarySort' lo n ok) Q st:=by
 rw[binarySort'_eq];have em:max ok 1=ok:=Sz J;rw[em];refine UO (XE (VG (I:=λk c D=>c=(none,())/\SB a₀ pd lo f D/\jH lo (arrOf D) k) (Q:=λc D=>c=(none,())/\SB a₀ pd lo f D/\jH lo (arrOf D) n) ?step ?fin ⟨rfl,hB,hs⟩) ?post)
 case post =>
  rintro c D ⟨e,U,O⟩;subst e;exact U2 (h D U O)
 case fin =>
  rintro c D ⟨e,U,O⟩;have e2:max ok n=n:=QQ bM;rw[e2]at O;exact⟨e,U,O⟩
 case step =>
  rintro k c D hak LS ⟨e,U,O⟩;subst e;have hk:lo+k<a₀.size:=by omega
  refine UO (XE (VG (I:=λx c G=>G=D/\∃l r,c=(none,l,r)/\l<=r/\r<=k/\r-l<=k-x/\(∀i,i<l->K (arrOf D) (lo+i)<=K (arrOf D) (lo+k))/\(∀i,r<=i->i<k->K (arrOf D) (lo+k)<K (arrOf D) (lo+i)))
   (Q:=λc G=>G=D/\∃l r,c=(none,l,r)/\l<=k/\(∀i,i<l->K (arrOf D) (lo+i)<=K (arrOf D) (lo+k))/\(∀i,l<=i->i<k->K (arrOf D) (lo+k)<K (arrOf D) (lo+i))) ?istep ?ifin
   ⟨rfl,0,k,rfl,PH _,ON _,ON _,λi z=>Us z (Rx _),λi z1 z2=>Us z1 (by omega)⟩) ?ipost)
  case ifin =>
   rintro c G ⟨e1,l,r,e2,p1,p2,p3,V,Z⟩;obtain rfl:l=r:=by omega
   exact⟨e1,l,l,e2,p2,V,Z⟩
  case istep =>
   rintro x c G _ hxk ⟨e1,l,r,e2,p1,p2,p3,V,Z⟩;subst e1 e2;dsimp only;refine dQ (λy=>?_) (λy=>?_)
   .obtain rfl:l=r:=by omega
    exact U2 ⟨rfl,l,l,rfl,p2,V,Z⟩
   refine UO (kO U h0 hk (by omega) ?_);dsimp only;refine dQ (λz=>?_) (λz=>?_)
   .have z:=Uw z;exact U2 ⟨rfl,l,(l+r)/2,rfl,by omega,by omega,by clear hn J bM em hak LS hk p1 p2 z;omega (config:={}),V,λi z1 z2=>Int.lt_of_lt_of_le z (O _ _ z1 z2)⟩
   have z:=SJ.mp λu=>z (Ul u);exact U2 ⟨rfl,(l+r)/2+1,r,rfl,by omega,by omega,by clear hn J bM em hak LS hk z;omega (config:={}),λi z1=>Tg (O i ((l+r)/2) (by omega) (by omega)) z,Z⟩
  case ipost =>
   rintro c G ⟨e1,l,r,e2,p2,V,Z⟩;subst e1 e2;show wpS _ _ _ _ (do moveDown' (lo+k) (lo+l);pure (ForInStep.yield (none,()))) _ _;rw[moveDown'_eq];have hz:lo+k<(arrOf G).size:=by rw[U.sz];exact hk
   have dl:lo+k-(lo+l)=k-l:=Nat.add_sub_add_left lo k l;rw[dl];have pk:lo+k-(k-l)=lo+l:=by omega (config:={})
   have kb:=λi=>K_bubble (d:=k-l) hz (PD (Nat.sub_le k l) (Tz k lo)) i;rw[pk]at kb;refine UO (XF (U2 ⟨rfl,U.put (bubble_perm _ _ _) λi hi=>?_,λi j y4 hj=>?_⟩))
   .rw[kb,Uk (by omega),Uk (by omega)]
   refine Gv (X:=λi=>K (arrOf G) (lo+i)) (Y:=λi=>K (bubble (arrOf G) (lo+k) (k-l)) (lo+i)) (l:=l) (k:=k) (λi hi=>?_) (λa b=>O a b) V Z i j y4 (Nat.le_of_lt_succ hj);show K (bubble (arrOf G) (lo+k) (k-l)) (lo+i)=_;rw[kb];exact Ji (f:=λi=>K (arrOf G) i) hi
end
section
variable {prog:Ux}{w:UA}{A:UG}{E:Uj->Uq->Prop}{s:Uq}{a₀:Array U3}
theorem vo{xs:Array U3}{n:Nat}(h:jH 0 xs n):SortedTo xs n:=λi j D G=>by
 have z:=h i j D G;rw[Qh,Qh]at z;exact z
end
end nF
set_option maxHeartbeats 4000000
namespace L2
open PySem PySem.Spec PyProof.Rows
section
variable {X:Cx}
theorem Inv.adopt{pins:List (Um×U6)}{σ:L2.St}{H:Hp}{s:Uq}{D:Um}{o:HO}(I:Inv X pins σ H s)(f:iS X pins H D)(U:cQ X.prog X.w (upd H D o) s.heap D o):Inv X pins σ (upd H D o) s:=by
 obtain⟨J,V,f2,Z,f4,f5⟩:=f;have z:=I.step (h':=s.heap) (H':=upd H D o) (g':=s.gens) (t':=s.toks) (d':=s.drawn) (ch:=[D]) (λb O=>?_) (λb G _ _ _ q _=>q) (λb G _ _ _ q _=>⟨G.slots,q⟩) (λb G hc q n=>by rw[aG (λz=>hc (by simp[z]))];exact n) (λb G _ q=>⟨G,q⟩)
  (λb ys q=>by rw[aG (aW q J)];exact q) (λb G u q=>by rw[aG (aW q J)];exact q) (λb ps q=>⟨#[],by rw[aG (aW q J),q];simp⟩) (λm hm=>hm) (λb v q=>?_) I.bare
 .exact z
 .rw[OS.mp O];exact⟨Z,V,f4,f5⟩
 by_cases O:b=D
 .subst O;rw[ag]at q;cases q;exact U
 rw[aG O]at q;exact(I.bM b v q).sR (λc G _ z=>z) (λc z=>by rw[aG (aW z J)];exact z) λc ys z=>by rw[aG (aW z J)];exact z
end
inductive cq:List (Int×Uj)->List (Int×V)->Prop
 |nil:cq [] []
 |cons {k:Int}{u:Uj}{v:V}{a:List (Int×Uj)}{b:List (Int×V)}:RelV v u->cq a b->cq ((k,u)::a) ((k,v)::b)
theorem DD{a b:List (Int×Uj)}(h:a.Perm b):∀{c:List (Int×V)},cq b c->∃d,d.Perm c/\cq a d:=by
 induction h with
 |nil=>intro c t;exact⟨c,List.Perm.refl _,t⟩
 |cons x _ O =>
  intro c t;cases t with
  |cons r t =>
   obtain⟨d,hd,D⟩:=O t;exact⟨_,hd.cons _,.cons r D⟩
 |swap x y l =>
  intro c t;cases t with
  |cons r t =>
   cases t with
   |cons U t=>exact⟨_,List.Perm.swap _ _ _,.cons U (.cons r t)⟩
 |trans _ _ G J =>
  intro c t;obtain⟨d,hd,D⟩:=J t;obtain⟨e,Z,te⟩:=G D;exact⟨e,Z.trans hd,te⟩
theorem AB:∀{xs:List V}{its:List Uj},Vals xs its->∀kz:List Int,cq (kz.zip its) (kz.zip xs)
 |_,_,.nil,kz=>by simp;exact .nil
 |_,_,.cons r v,[]=>by simp;exact .nil
 |_,_,.cons r v,k::kz=>.cons r (AB v kz)
theorem AD:∀{a:List (Int×Uj)}{b:List (Int×V)},cq a b->a.map (·.1)=b.map (·.1)
 |_,_,.nil=>rfl
 |_,_,.cons r t=>by rw[Po,Po,AD t]
theorem xE:∀{a:List (Int×Uj)}{b:List (Int×V)},cq a b->Vals (b.map (·.2)) (a.map (·.2))
 |_,_,.nil=>.nil
 |_,_,.cons r t=>.cons r (xE t)
end L2
namespace aI
open PySem L2 Ch
noncomputable def cE(M:Nat->Nat)(p q e:Nat):Nat :=
 if p=q then(if e=p\/e=M p then e else M e)
 else if e=p then q else if e=q then p
 else if e=M p then(if M q≠q then M q else e)
 else if e=M q then(if M p≠p then M p else e)else M e
noncomputable def bN(ms:List Nat)(p q:Nat):List Nat:=(OV ms.length).map (cE (ar ms) p q)
theorem dR(ms:List Nat)(p q:Nat):(bN ms p q).length=ms.length:=by unfold bN;rw[OH,OW]
theorem dw{ms:List Nat}{p q e:Nat}(h:e<ms.length):ar (bN ms p q) e=cE (ar ms) p q e:=by
 unfold bN ar;simp[QK,OR,Qv h]
theorem jI{a b:List Nat}(h:a.length=b.length)(k:∀e,e<a.length->ar a e=ar b e):a=b:=by
 refine QY λi=>?_;by_cases D:i<a.length
 .rw[ie D,ie (h▸D),k i D]
 rw[PU (by omega),PU (by omega)]
theorem nG(ms:List Nat)(i j v:Nat):ar (ms.set i v) j=if j=i/\i<ms.length then v else ar ms j:=by
 by_cases h:i<ms.length
 .rw[nE h];simp[h]
 rw[Uk (by omega),List.set_eq_of_length_le (by omega)]
def Fits(n:Nat)(ms:List Nat)(p q:Int):Prop:=0<=p/\p<=q/\q<2*n/\((ar ms p.toNat:Nat):Int)≠q
noncomputable instance {n:Nat}{ms:List Nat}{p q:Int}:Decidable (Fits n ms p q):=by unfold Fits;infer_instance
theorem Fits.nat{n:Nat}{ms:List Nat}{p q:Int}(h:Fits n ms p q):∃x y:Nat,p=x/\q=y/\x<=y/\y<2*n/\ar ms x≠y:=by
 obtain⟨D,G,J,O⟩:=h;exact⟨p.toNat,q.toNat,by omega,by omega,by omega,by omega,by omega⟩
theorem rN{n:Nat}{ms:List Nat}{x y:Nat}(D:x<=y)(G:y<2*n)(J:ar ms x≠y):Fits n ms x y:=by
 refine⟨by omega,by omega,by omega,?_⟩;rw[Pq];omega
theorem dy{n:Nat}{ms:List Nat}(W:ak n ms){p q:Nat}(hp:p<2*n)(G:q<2*n)(U:ar ms p≠q):ak n (bN ms p q):=by
 have J:=W.len;have V:=W.wk.inv p hp;have Z:=W.wk.inv q G;have lp:=W.wk.lt p hp;have lq:=W.wk.lt q G;refine⟨W.small,by rw[dR];exact J,λx D=>?_,λx D=>?_⟩
 .rw[dw (by omega)];have O:=W.wk.lt x D;unfold cE;grind
 have O:=W.wk.lt x D;have ix:=W.wk.inv x D;have b:cE (ar ms) p q x<ms.length:=by unfold cE;grind
 rw[dw (e:=x) (by omega),dw b];unfold cE;grind
noncomputable def vp(ms:List Nat)(p q:Nat):List Nat:=([p,q].filter λe=>!decide (ar ms e=e)).map (ar ms)
noncomputable def nH(ms:List Nat)(p q:Nat):List Nat :=
 let fr:=vp ms p q
 hH (if 0<fr.length then hH ms (fr.getD 0 0) (fr.getD (fr.length-1) 0)else ms) p q
theorem oJ(ms:List Nat)(p q:Nat):(hH ms p q).length=ms.length:=by unfold hH;simp only[PR]
theorem Gw(ms:List Nat)(p q:Nat):(vp ms p q).length<=2:=by
 unfold vp;rw[OH];exact Pm _ _
theorem oK(ms:List Nat)(p q:Nat):vp ms p q=if ar ms p=p then(if ar ms q=q then[]else[ar ms q])else(if ar ms q=q then[ar ms p]else[ar ms p,ar ms q]):=by
 unfold vp;by_cases a:ar ms p=p <;> by_cases b:ar ms q=q <;> simp[a,b]
theorem y7{n:Nat}{ms:List Nat}(W:ak n ms){p q:Nat}(hp:p<2*n)(D:q<2*n)(O:ar ms p≠q):nH ms p q=bN ms p q:=by
 have U:=W.len;have V:=W.wk.inv p hp;have Z:=W.wk.inv q D;have lp:=W.wk.lt p hp;have lq:=W.wk.lt q D;have G:(nH ms p q).length=ms.length:=by unfold nH;simp only;rw[oJ];split <;> first|rw[oJ]|rfl
 refine jI (by rw[G,dR]) λe J=>?_;rw[G]at J;rw[dw J];unfold nH cE;simp only;rw[oK];by_cases a:ar ms p=p <;> by_cases b:ar ms q=q
 .simp[a,b];unfold hH;simp only[nG,PR];grind
 .simp[a,b];unfold hH;simp only[nG,PR];grind
 .simp[a,b];unfold hH;simp only[nG,PR];grind
 simp[a,b];unfold hH;simp only[nG,PR];grind
section
variable (K:OJ)
def vq:Sp:=λD H Q _=>∃(a d:Um) (n:Nat) (ms:List Nat) (p q:Int),D=[.ref a,.ref d]/\br K H a (nV ms)/\ak n ms/\br K H d [.int p,.int q]/\Q (.bl (decide (Fits n ms p q))) H
def xF(C:Um):Sp:=λD H Q E=>∃(a d:Um) (n:Nat) (ms:List Nat) (p q:Int),D=[.ref a,.ref d]/\br K H a (nV ms)/\ak n ms/\H d=Ya (.tup [.int p,.int q])/\Sm p/\Sm q/\(Fits n ms p q->Q .g6 H)/\(¬Fits n ms p q->E (.ref C) none H)
def nI:Sp:=λD H Q _=>∃(a d:Um) (n:Nat) (ms:List Nat) (p q:Nat),D=[.ref a,.ref d]/\br K H a (nV ms)/\ak n ms/\br K H d [.int p,.int q]/\p<2*n/\q<2*n /\
 ∀(l:Um) (H':Hp),H l=none->aE H H'->H' l=Ya (.lst (nV (vp ms p q)))->Q (.ref l) H'
def nJ:Sp:=λD H Q _=>∃(l:Um) (ms:List Nat) (p q:Nat),D=[.ref l,.int p,.int q]/\H l=Ya (.lst (nV ms))/\p<ms.length/\q<ms.length /\
 ∀H':Hp,H' l=Ya (.lst (nV (hH ms p q)))->(∀b,b≠l->H' b=H b)->Q .g6 H'
def oM(C:Um):Sp:=λD H Q E=>∃(a d:Um) (n:Nat) (ms:List Nat) (p q:Int),D=[.ref a,.ref d]/\br K H a (nV ms)/\ak n ms/\H d=Ya (.tup [.int p,.int q])/\Sm p/\Sm q /\
 (Fits n ms p q->∀(l:Um) (H':Hp),H l=none->aE H H'->H' l=Ya (.tup (nV (bN ms p.toNat q.toNat)))->Q (.ref l) H')/\(¬Fits n ms p q->E (.ref C) none H)
end
def kP(n:Nat)(ms os:List Nat)(p q:Nat):Prop:=p<=q/\q<2*n/\ar ms p≠q/\bN ms p q=os
def qz(n:Nat)(ms os:List Nat)(p q:Nat):Prop:=kP n ms os p q/\∀D G,kP n ms os D G->p<D\/(p=D/\q<=G)
section
variable {n:Nat}{ms os:List Nat}
theorem y8(W:ak n ms){p q:Nat}(h:kP n ms os p q)(c:p≠q):p<ar os p/\ar os p=q/\ar ms p≠ar os p:=by
 obtain⟨D,G,J,rfl⟩:=h;have O:=W.len;rw[dw (by omega)];unfold cE;grind
theorem y9(W:ak n ms){p:Nat}(h:kP n ms os p p):∀e,e<2*n->¬(e<ar os e/\ar ms e≠ar os e):=λe D=>by
 obtain⟨G,J,O,rfl⟩:=h;have U:=W.len;rw[dw (by omega)];unfold cE;grind
theorem qz.uniq{p q D G:Nat}(h:qz n ms os p q)(h':qz n ms os D G):p=D/\q=G:=by
 have a:=h.2 D G h'.1;have b:=h'.2 p q h.1;omega
end
section
variable (K:OJ)
def xG(D:Um):Sp:=λG H Q E=>∃(a b:Um) (n m:Nat) (ms os:List Nat),G=[.ref a,.ref b]/\br K H a (nV ms)/\ak n ms/\br K H b (nV os)/\os.length=2*m/\(n=m->Q .g6 H)/\(n≠m->E (.ref D) none H)
end
theorem bJ{n:Nat}{ms os:List Nat}(W:ak n ms)(D:ak n os):Th.cq (2*n) (ar ms) (ar os):=⟨W.wk.lt,D.wk.lt,W.wk.inv,D.wk.inv⟩
theorem xH(n:Nat)(M:Nat->Nat):Ch.Dx n M=Th.lH (2*n) M:=rfl
noncomputable def ks:Th.Kd->UI
 |.ring=>"ring"
 |.odd=>"odd"
 |.bare=>"bare"
 |.tied=>"tied"
noncomputable abbrev Ent:=Th.Kd×Um×List Nat
noncomputable def tf(x:Ent):List V:=[.str (ks x.1),.ref x.2.1]
noncomputable def en(x:Ent):Th.Kd×List Nat:=(x.1,x.2.2)
def nK(H:Hp)(l:Um)(D:List (Th.Kd×List Nat)):Prop:=∃xs:List Ent,ft tf H l xs/\(∀x∈xs,H x.2.1=Ya (.tup (nV x.2.2)))/\xs.map en=D
section
variable {H H':Hp}{l:Um}{Z:List (Th.Kd×List Nat)}
theorem nK.same(h:nK H l Z)(s:aE H H'):nK H' l Z:=by
 obtain⟨xs,D,G,J⟩:=h;exact⟨xs,D.same s,λx O=>s _ _ (G x O),J⟩
theorem nK.nil(h:H l=Ya (.lst [])):nK H l []:=⟨[],ft.nil h,λx D=>Us D Qp,rfl⟩
theorem nK.len(h:nK H l Z):∃D,H l=Ya (.lst D)/\D.length=Z.length:=by
 obtain⟨xs,G,J,rfl⟩:=h;obtain⟨D,e1,e2⟩:=G.len;exact⟨D,e1,by rw[e2,OH]⟩
theorem nK.snoc{t e:Um}{k:Th.Kd}{L:List Nat}(h:nK H l Z)(G:H t=Ya (.tup [.str (ks k),.ref e]))(J:H e=Ya (.tup (nV L))) :
  ∃D,H l=Ya (.lst D)/\D.length=Z.length/\nK (upd H l (.lst (D++[.ref t]))) l (Z++[(k,L)]):=by
 obtain⟨xs,O,U,rfl⟩:=h;obtain⟨D,e1,e2,e3⟩:=O.snoc (t:=t) (x:=(k,e,L)) G;refine⟨D,e1,by rw[e2,OH],xs++[(k,e,L)],e3,λx V=>?_,by rw[O5];rfl⟩;have key:H x.2.1=Ya (.tup (nV x.2.2)):=by
  rcases OY.mp V with z|z
  .exact U x z
  rw[OS.mp z];exact J
 rw[aG (λz=>by rw[z,e1]at key;cases key)];exact key
end
theorem nK.keep{H H':Hp}{l d:Um}{D:List (Th.Kd×List Nat)}{J:List (Key×V)}(h:nK H l D)(hd:H d=Ya (.dK J))(s:∀c o,c≠d->H c=Ya o->H' c=Ya o):nK H' l D:=by
 obtain⟨xs,⟨O,G,U,Z⟩,h4,h5⟩:=h;refine⟨xs,⟨O,s _ _ (λz=>by rw[z,hd]at G;cases G) G,U,λi t x e1 e2=>?_⟩,λx hx=>?_,h5⟩
 .have key:=Z i t x e1 e2;exact s _ _ (λz=>by rw[z,hd]at key;cases key) key
 have key:=h4 x hx;exact s _ _ (λz=>by rw[z,hd]at key;cases key) key
theorem AE:∀D:List V,(∀i,i<D.length->∃t,D[i]?=Ya (.ref t))->∃G:List Um,D=G.map V.ref/\G.length=D.length
 |[],_=>⟨[],rfl,rfl⟩
 |q::r,h=>by
  obtain⟨t,e⟩:=h 0 (by simp);obtain⟨G,J,O⟩:=AE r λi U=>h (i+1) (by simpa using U);obtain rfl:q=.ref t:=Option.some.inj e;exact⟨t::G,by rw[Po,<-J],by rw[Ph,Ph,O]⟩
inductive xI {α β:Type} (R:α->β->Prop):List α->List β->Prop
 |nil:xI R [] []
 |cons {a:α}{b:β}{l:List α}{m:List β}:R a b->xI R l m->xI R (a::l) (b::m)
theorem xI.perm{α β:Type}{R:α->β->Prop}{a b:List α}(h:a.Perm b):∀{c:List β},xI R b c->∃d,d.Perm c/\xI R a d:=by
 induction h with
 |nil=>intro c t;exact⟨c,List.Perm.refl _,t⟩
 |cons x _ O =>
  intro c t;cases t with
  |cons r t =>
   obtain⟨d,hd,D⟩:=O t;exact⟨_,hd.cons _,.cons r D⟩
 |swap x y l =>
  intro c t;cases t with
  |cons r t =>
   cases t with
   |cons U t=>exact⟨_,List.Perm.swap _ _ _,.cons U (.cons r t)⟩
 |trans _ _ G J =>
  intro c t;obtain⟨d,hd,D⟩:=J t;obtain⟨e,V,Z⟩:=G D;exact⟨e,V.trans hd,Z⟩
theorem xI.of{α β:Type}{R:α->β->Prop}:∀{l:List α}{m:List β},l.length=m.length->(∀(i:Nat) (a:α) (b:β),l[i]?=Ya a->m[i]?=Ya b->R a b)->xI R l m
 |[],[],_,_=>.nil
 |[],_::_,h,_=>by cases h
 |_::_,[],h,_=>by cases h
 |a::l,b::m,h,k=>.cons (k 0 a b rfl rfl) (xI.of (by simpa using h) λi x y e1 e2=>k (i+1) x y e1 e2)
theorem xI.len{α β:Type}{R:α->β->Prop}:∀{l:List α}{m:List β},xI R l m->l.length=m.length
 |_,_,.nil=>rfl
 |_,_,.cons _ t=>by rw[Ph,Ph,t.len]
theorem xI.get{α β:Type}{R:α->β->Prop}:∀{l:List α}{m:List β},xI R l m->∀(i:Nat) (a:α) (b:β),l[i]?=Ya a->m[i]?=Ya b->R a b
 |_,_,.nil,i,a,b,e,_=>by simp at e
 |_,_,.cons r t,0,a,b,e1,e2=>by cases e1;cases e2;exact r
 |_,_,.cons r t,i+1,a,b,e1,e2=>t.get i a b e1 e2
variable (K:OJ)
def qA:Sp:=λD H Q _=>∃(a b:Um) (n:Nat) (ms os:List Nat) (s:Nat),D=[.int s,.ref a,.ref b]/\br K H a (nV ms)/\ak n ms/\br K H b (nV os)/\ak n os/\s<2*n/\(ar os s=s\/Th.bq (ar ms) (ar os) s) /\
 ∀(l:Um) (H':Hp),aE H H'->H' l=Ya (.tup (nV (Th.cN (ar ms) (ar os) s)))->Q (.ref l) H'
def AF:Sp:=λJ H Q _=>∃(d e:Um) (G:List (Key×V)) (L:List Nat),J=[.ref d,.ref e]/\H d=Ya (.dK G)/\H e=Ya (.tup (nV L))/\G.length+L.length<=100000 /\
 ∀(D:List (Key×V)) (H':Hp),H' d=Ya (.dK D)->(∀b o,b≠d->H b=Ya o->H' b=Ya o)->D.length<=G.length+L.length->(∀j:Nat,(bX D (Sum.inl (j:Int):Key)).isSome=true↔(bX G (Sum.inl (j:Int):Key)).isSome=true\/j∈L)->Q .g6 H'
def zd:Sp:=λD H Q _=>∃(a b:Um) (n:Nat) (ms os:List Nat),D=[.ref a,.ref b]/\br K H a (nV ms)/\ak n ms/\br K H b (nV os)/\ak n os /\
 ∀(l:Um) (H':Hp),H l=none->aE H H'->nK H' l (Th.hG (2*n) (ar ms) (ar os))->Q (.ref l) H'
def rO:Sp:=λD H Q _=>∃(t e:Um) (k:Th.Kd) (L:List Nat),D=[.ref t]/\H t=Ya (.tup [.str (ks k),.ref e])/\H e=Ya (.tup (nV L))/\0<L.length/\Q (.int (Th.mn L:Nat)) H
def bW(n:Nat)(ms os:List Nat)(D:List (Th.Kd×List Nat)):Prop:=D.Perm (Th.pW (2*n) (ar ms) (ar os))/\D.Pairwise λp q=>Th.mn p.2<Th.mn q.2
noncomputable def aC(n:Nat)(ms os:List Nat):Nat:=n-Th.score (ar ms) (ar os) (2*n)/2
end aI
namespace Th
open Classical
variable {N:Nat}{a b:Nat->Nat}
noncomputable def cut(a:Nat->Nat)(p x:Nat):Nat:=if x=p\/x=a p then x else a x
theorem vt(T:cq N a b){p:Nat}(hp:p<N):cq N (cut a p) b:=by
 refine⟨λx h=>?_,T.gl,λx h=>?_,T.gg⟩
 .have:=T.fl x h;unfold cut
  split <;> assumption
 have:=T.ff x h;have:=T.ff p hp;unfold cut;grind
end Th
namespace L2
open PySem PySem.Spec PyProof.Rows
section
variable {X:Cx}
noncomputable def isS(z:UI):Uj->Bool
 |.str i _=>i==z
 |_=>false
theorem xJ:∀{G:List UI}{its:List Uj},Vals (G.map V.str) its->∀z:UI,its.countP (isS z)=G.countP (· == z)/\∀y∈its,∃x t,y=.str x t
 |[],_,.nil,z=>⟨rfl,λy D=>Us D Qp⟩
 |x::G,_,.cons r v,z=>by
  obtain⟨t,rfl⟩:=r;obtain⟨J,O⟩:=xJ v z;refine⟨?_,λy D=>?_⟩
  .rw[RK,RK,J]
   rfl
  rcases Pa.mp D with rfl|D
  .exact⟨x,t,rfl⟩
  exact O y D
def Jj:V->List V->Hp->VK->Prop:=λx G H Q=>∃(l:Um) (D:List UI) (z:UI),x=.ref l/\G=[.str z]/\H l=Ya (.lst (D.map V.str))/\Q (.int ((D.countP (· == z):Nat):Int)) H
theorem xK:Ls X "list.count" Jj:=by
 intro pins s σ H x Z v us Q I D G h;obtain⟨l,J,z,rfl,rfl,O,q⟩:=h;cases D;obtain⟨u,rfl,U⟩:=G.one;obtain⟨t,rfl⟩:=U;obtain⟨hz,its,k,r,hl,e⟩:=I.yO O;obtain⟨c1,c2⟩:=xJ r z;refine W5 F.slot_list_count ⟨_,e,rfl⟩ F.entry_list_count (F.args_list_count_2 _ _) (SeqAt.list_countAt l its.toArray k none #[] (.str z t) (isS z)) ⟨e,λy V=>?_,?_⟩
 .obtain⟨x,t',rfl⟩:=c2 y (by simpa using V);exact SeqAt.EqAt.str_str (A:=X.A.in1) (s:=s) x t' z t
 refine⟨.int ((J.countP (· == z):Nat):Int),H,I.tok _,⟨s.toks,?_⟩,q⟩;have e2:its.toArray.toList=its:=by simp
 rw[e2,c1]
end
end L2
namespace aI
open PySem L2
theorem oN:∀a b:Th.Kd,ks a=ks b->a=b:=by
 intro a b h;cases a <;> cases b <;> first|rfl|exact Us h (by decide)
theorem pE(D:List (Th.Kd×List Nat))(k:Th.Kd):(D.map λth=>ks th.1).countP (· == ks k)=(D.filter λth=>th.1=k).length:=by
 rw[List.countP_map,List.countP_eq_length_filter];congr 1;refine QH λth _=>?_;by_cases c:th.1=k
 .rw[Ul c];show(ks th.1==ks k)=true;rw[c];exact US _
 rw[Up c];exact beq_eq_false_iff_ne.mpr λz=>c (oN _ _ z)
theorem bW.counts{n:Nat}{ms os:List Nat}{D:List (Th.Kd×List Nat)}(W:ak n ms)(G:ak n os)(h:bW n ms os D) :
  2*(D.map λth=>ks th.1).countP (· == ks .ring)+(D.map λth=>ks th.1).countP (· == ks .odd)=Th.score (ar ms) (ar os) (2*n):=by
 rw[pE,pE,(h.1.filter _).length_eq,(h.1.filter _).length_eq,Th.Gm,Th.IU (bJ W G)]
 rfl
end aI
namespace L2
open PySem PySem.Spec
theorem qB{X:Cx}{scope:VU}{pre:List UI}{y z:UI}{c e:Um}{j k:Nat}(D:scope.kind=.function)(h:∀w∈scope.names,w.2≠.cell/\(w.2=.free->w.1=y\/w.1=z))(hn:∀w∈scope.names,w.2=.local->scope.names.lookup w.1=Ya .local)
  (O:W6 scope X.env=pure [(y,c),(z,e)]) (hc:X.env.cells.lookup y=Ya c) (he:X.env.cells.lookup z=Ya e) (hN:X.N[j]?=Ya y) (hM:X.N[k]?=Ya z) (G:X.env.kindOf y=Ya .cell) (U:X.env.kindOf z=Ya .cell) (hr:(VO scope X.env).names.lookup y=Ya .cell) (V:(VO scope X.env).names.lookup z=Ya .cell) :
  kF X scope [(y,c),(z,e)] (pre++[y,z]) (R7 pre.length none++[Ya j,Ya k]) where
 Gi:=O
 cell:=λw hw=>(h w hw).1
 kind:=D
 names:=hn
 cls:=λx c' q=>by
  rw[Q5]at q
  split at q
  .rename_i Z;rw[eq_of_beq Z,<-q];exact hc
  rw[Q5]at q
  split at q
  .rename_i Z;rw[eq_of_beq Z,<-q];exact he
  cases q
 has:=λx q=>by
  have key:∀k,(VO scope X.env).names.lookup x=Ya k->k=.cell\/k=.free->x=y\/x=z:=λk q G=>by
   have hm:=PySem.mem_of_lookup q;obtain⟨⟨n,k'⟩,hy,J⟩:=OO.mp hm;have h1:=h _ hy;by_cases hf:k'=.free
   .have w:=h1.2 hf;dsimp only at J
    split at J
    .cases J;exact w
    cases J;exact w
   have hb:(k'==NameKind.free)=false:=by simpa using hf
   simp only[hb,Qw,PF,U1,Prod.mk.injEq]at J;obtain⟨_,rfl⟩:=J;rcases G with G|G
   .exact Us G h1.1
   exact Us G hf
  have LU:x=y\/x=z:=by
   rcases q with q|q
   .exact key _ q (.inl rfl)
   exact key _ q (.inr rfl)
  rw[Q5];by_cases e1:x==y
  .rw[e1];exact⟨c,rfl⟩
  have e1:(x==y)=false:=by simpa using e1
  rw[e1];rcases LU with w|w
  .rw[w,US]at e1;cases e1
  rw[Q5,w,US];exact⟨e,rfl⟩
 len:=by simp
 src:=λi q x e1 e2=>by
  by_cases hi:i<pre.length
  .rw[Pg (by simpa using hi),Q1,Uo hi]at e1;cases e1
  rw[Pk (by simp;omega),Su]at e1;rw[Pk (by omega)]at e2
  match hd:i-pre.length,e1,e2 with
  |0,e1,e2 =>
   simp at e1 e2;subst e1 e2;exact⟨hN,.inl G,.inl hr⟩
  |1,e1,e2 =>
   simp at e1 e2;subst e1 e2;exact⟨hM,.inl U,.inl V⟩
  |d+2,e1,e2 =>
   simp at e1
end L2
namespace aI
open PySem L2
variable (K:OJ)
def DE:Sp:=λJ H Q _=>∃(a:Um) (ns:List Int) (most:Nat),J=[.ref a,.int most]/\aZ K H a (ns.map V.int)/\ns.length<=63/\most<=40 /\
 ∀(n:Nat) (t D G:Um) (ms os:List Nat) (H':Hp),n<=most->aE H H'->H' t=Ya (.tup [.ref D,.ref G])->H' D=Ya (.lst (nV ms))->ak n ms->H' G=Ya (.lst (nV os))->ak n os->H D=none->H G=none->D≠G->Q (.ref t) H'
def vv(n:Nat)(ms os:List Nat)(S:Nat->Prop):Prop:=∀j,j<2*n->S j->S (ar ms j)/\S (ar os j)
def lL:Sp:=λJ H Q _=>∃(a b d:Um) (n e:Nat) (ms os:List Nat) (G:List (Key×V)),J=[.ref a,.ref b,.int e,.ref d]/\H a=Ya (.lst (nV ms))/\ak n ms/\H b=Ya (.lst (nV os))/\ak n os/\e<2*n/\H d=Ya (.dK G)/\G.length<=10000 /\
 vv n ms os (λj=>(bX G (Sum.inl (j:Int):Key)).isSome=true)/\¬(bX G (Sum.inl (e:Int):Key)).isSome=true /\
 ∀(l:Um) (L:List Nat) (D:List (Key×V)) (H':Hp),H l=none->(∀c o,c≠d->H c=Ya o->H' c=Ya o)->H' l=Ya (.lst (nV L))->Th.bU (ar ms) (ar os) e L->H' d=Ya (.dK D)->D.length<=G.length+L.length ->
  (∀j:Nat,j<2*n->((bX D (Sum.inl (j:Int):Key)).isSome=true↔(bX G (Sum.inl (j:Int):Key)).isSome=true\/Th.aB (ar ms) (ar os) e j))->Q (.ref l) H'
def rP:Sp:=λD H Q _=>∃(a b:Um) (n:Nat) (ms os:List Nat),D=[.ref a,.ref b]/\H a=Ya (.lst (nV ms))/\ak n ms/\H b=Ya (.lst (nV os))/\ak n os/\∀H':Hp,aE H H'->Q (.int (Th.score (ar ms) (ar os) (2*n):Nat)) H'
def ze:Sp:=λD H Q _=>∃(a b:Um) (n:Nat) (ms os:List Nat),D=[.ref a,.ref b]/\H a=Ya (.lst (nV ms))/\ak n ms/\H b=Ya (.lst (nV os))/\ak n os/\∀H':Hp,aE H H'->Q (.int (aC n ms os:Nat)) H'
end aI
namespace L2
theorem dH{b:Bool}{A B:Prop}(D:b=true)(h:A):if b=true then A else B:=by rw[Uo D];exact h
theorem cY{b:Bool}{A B:Prop}(D:b=false)(h:B):if b=true then A else B:=by rw[Uk (by rw[D];decide)];exact h
theorem LV{i j:Int}(h:i≠j):decide (V.int i=V.int j)=false:=Up (λz=>h (by injection z))
end L2
namespace Th
open Classical
variable {N:Nat}{a b:Nat->Nat}
noncomputable def turn:Kd->Nat
 |.ring=>0
 |.odd=>1
 |.bare=>1
 |.tied=>0
noncomputable def hd(L:List Nat):Nat:=L.headD 0
noncomputable def aaq(a b:Nat->Nat)(L:List Nat):Kd->Prop
 |.ring=>b (bE L)=hd L/\bE L≠hd L/\hd L=mn L
 |.odd=>a (hd L)=hd L/\b (bE L)=bE L
 |.bare=>a (hd L)=hd L/\a (bE L)=bE L/\hd L<bE L
 |.tied=>b (hd L)=hd L/\b (bE L)=bE L/\hd L<bE L
structure cj(N:Nat) (a b:Nat->Nat) (k:Kd) (L:List Nat):Prop where
 ne:0<L.length
 nd:L.Nodup
 lt:∀x∈L,x<N
 par:L.length%2=1↔k=.odd
 lk:∀i x y,L[i]?=Ya x->L[i+1]?=Ya y->(if(turn k+i)%2=0 then a x else b x)=y/\x≠y
 fin:aaq a b L k
theorem oO{f g:Nat->Nat}{s:Nat}(T:cq N f g)(hs:s<N)(h:g s=s\/bq f g s):hd (cN f g s)=s/\∀i x y,(cN f g s)[i]?=Ya x->(cN f g s)[i+1]?=Ya y->km f g i x=y/\x≠y:=by
 obtain⟨K,E⟩:=gH T hs h;rw[jC T hs E];constructor
 .unfold hd eY;rw[Sq]
  rfl
 intro i x y G D;have J:i+1<K+1:=by
  have:=OI.mp D;obtain⟨q,_⟩:=this;rwa[cR]at q
 rw[Dd (by omega)]at G D;obtain rfl:=Option.some.inj G;obtain rfl:=Option.some.inj D;exact⟨rfl,(E.oA.mv i (by omega)).symm⟩
theorem xM{f g:Nat->Nat}{s K:Nat}(T:cq N f g)(hs:s<N)(E:Ends f g s K):bE (cN f g s)=dG f g s K:=by
 rw[jC T hs E,lG];unfold bE;rw[SM]
theorem xN(f g:Nat->Nat)(i x:Nat):km f g i x=if i%2=0 then f x else g x:=rfl
theorem vx(T:cq N a b){th:Kd×List Nat}(h:th∈pW N a b):cj N a b th.1 th.2:=by
 rcases OY.mp h with h|h
 .rcases OY.mp h with h|h
  ·-- from an end loose in a
   obtain⟨u,hu,rfl⟩:=OO.mp h;obtain⟨hu,pu⟩:=OZ.mp hu;obtain⟨G,J⟩:=dv.mp hu;have pu:pA a b u:=Uw pu;obtain⟨l1,l2⟩:=nu T.swap G (.inl J);obtain⟨Z,O⟩:=oO T.swap G (.inl J);have C:=bH T.swap G (.inl J);have U:∀x∈cN b a u,x<N:=λx V=>((C.mem x).mp V).lt T.swap G;obtain⟨K,E⟩:=gH T.swap G (.inl J);have hl:(cN b a u).length=K+1:=by rw[jC T.swap G E,cR]
   have D:=xM T.swap G E;have ld:=E.loose T.swap G J (i:=K) (ON _);by_cases o:(cN b a u).length%2=1
   .have e:eA a b u=(.odd,cN b a u):=by unfold eA;rw[Uo o]
    rw[e];show cj N a b .odd (cN b a u);refine⟨l1,C.nd,U,⟨λ_=>rfl,λ_=>o⟩,λi x y V hy=>?_,?_,?_⟩
    .have:=O i x y V hy;show(if(1+i)%2=0 then a x else b x)=y/\x≠y;rw[xN]at this;refine⟨?_,this.2⟩;rw[<-this.1];by_cases c:i%2=0
     .rw[Uk (by omega),Uo c]
     rw[Uo (by omega),Uk c]
    .show a (hd (cN b a u))=hd (cN b a u);rw[Z];exact J
    show b (bE (cN b a u))=bE (cN b a u);rw[D];exact ld.1.mpr ⟨rfl,by omega⟩
   have e:eA a b u=(.bare,cN b a u):=by unfold eA;rw[Uk o]
   rw[e];show cj N a b .bare (cN b a u);have aar:u<bE (cN b a u):=pu.resolve_left o;refine⟨l1,C.nd,U,⟨λz=>Us z o,λz=>by cases z⟩,λi x y V hy=>?_,?_,?_,?_⟩
   .have:=O i x y V hy;show(if(1+i)%2=0 then a x else b x)=y/\x≠y;rw[xN]at this;refine⟨?_,this.2⟩;rw[<-this.1];by_cases c:i%2=0
    .rw[Uk (by omega),Uo c]
    rw[Uo (by omega),Uk c]
   .show a (hd (cN b a u))=hd (cN b a u);rw[Z];exact J
   .show a (bE (cN b a u))=bE (cN b a u);rw[D];exact ld.2.mpr (.inr ⟨rfl,by omega⟩)
   rw[Z];exact aar
  obtain⟨u,hu,rfl⟩:=OO.mp h;obtain⟨hu,pu⟩:=OZ.mp hu;obtain⟨G,J⟩:=dv.mp hu;obtain⟨ev,lt2⟩:pB a b u:=Uw pu;obtain⟨l1,l2⟩:=nu T G (.inl J);obtain⟨Z,O⟩:=oO T G (.inl J);have C:=bH T G (.inl J);have U:∀x∈cN a b u,x<N:=λx V=>((C.mem x).mp V).lt T G;obtain⟨_,_,q,_,_⟩:=fx T G J ev;show cj N a b .tied (cN a b u);refine⟨l1,C.nd,U,⟨λz=>by omega,λz=>by cases z⟩,λi x y V hy=>?_,?_,q,?_⟩
  .have:=O i x y V hy;unfold turn;rw[Qh];exact this
  .show b (hd (cN a b u))=hd (cN a b u);rw[Z];exact J
  rw[Z];exact lt2
 obtain⟨m,hm,rfl⟩:=OO.mp h;obtain⟨ml,lm,wm⟩:=bI.mp hm;obtain⟨l1,l2⟩:=nu T ml (.inr wm);obtain⟨Z,O⟩:=oO T ml (.inr wm);have C:=bH T ml (.inr wm);have U:∀x∈cN a b m,x<N:=λx V=>((C.mem x).mp V).lt T ml;obtain⟨K,E⟩:=gH T ml (.inr wm);have hl:(cN a b m).length=K+1:=by rw[jC T ml E,cR]
 have D:=xM T ml E;have gm:=(wm m (aB.refl m)).2;obtain⟨r1,r2,r3⟩:=E.ring T ml gm;show cj N a b .ring (cN a b m);refine⟨l1,C.nd,U,⟨λz=>by omega,λz=>by cases z⟩,λi x y V hy=>?_,?_,?_,?_⟩
 .have:=O i x y V hy;unfold turn;rw[Qh];exact this
 .rw[D,Z,<-r3];exact T.gg m ml
 .rw[D,Z,<-r3];exact gm
 rw[Z];obtain⟨q1,q2⟩:=gI C;have:=lm _ q1;have:=q2 m (aB.refl m);omega
theorem AG(T:cq N a b){J:List (Kd×List Nat)}(hp:J.Perm (pW N a b)):(J.map (·.2)).flatten.Perm (OV N):=by
 have p1:(J.map (·.2)).flatten.Perm ((pW N a b).map (·.2)).flatten:=(hp.map _).flatten;refine p1.trans ?_;have nd:((pW N a b).map (·.2)).flatten.Nodup:=by
  rw[Pb,SA];constructor
  .intro l O;obtain⟨th,h,rfl⟩:=OO.mp O;obtain⟨u,Z,C⟩:=lI T h;exact C.nd
  rw[Px];have kn:=keys_nodup T;rw[Pb,Px]at kn;refine kn.imp_of_mem λ{p q} hp hq U=>?_;intro x G y hy V;subst V;obtain⟨u,Z,C⟩:=lI T hp;obtain⟨v,hv,D⟩:=lI T hq;refine U ?_;have c1:=(C.mem x).mp G;have c2:=(D.mem x).mp hy;have uv:aB a b u v:=c1.trans (c2.symm T hv);obtain⟨m1,m2⟩:=gI C;obtain⟨m3,m4⟩:=gI D;have:=m2 _ (uv.trans m3);have:=m4 _ ((uv.symm T Z).trans m1);omega
 refine(P0 nd PL).mpr λx=>?_;rw[Sn,OX];constructor
 .rintro⟨l,O,G⟩;obtain⟨th,h,rfl⟩:=OO.mp O;exact(vx T h).lt x G
 intro G;by_cases w:bq a b x
 .obtain⟨m,m1,m2,m3⟩:=kJ T G;have wm:=w.of T G m1;have hm:m∈RL a b N:=bI.mpr ⟨m2,m3,wm⟩;refine⟨cN a b m,OO.mpr ⟨(.ring,cN a b m),OY.mpr (.inr (OO.mpr ⟨m,hm,rfl⟩)),rfl⟩,?_⟩;exact((bH T m2 (.inr wm)).mem x).mpr (m1.symm T G)
 obtain⟨th,h1,h2⟩:=(oD T G).mpr w;exact⟨th.2,OO.mpr ⟨th,OY.mpr (.inl h1),rfl⟩,h2⟩
theorem DF{P X Q Y:Option Nat}{p x q y:Nat}(n1:p≠x)(n2:p≠q)(n3:p≠y)(n4:x≠q)(n5:x≠y)(n6:q≠y)
  (p1:P≠Ya p) (p2:X≠Ya x) (p3:Q≠Ya q) (p4:Y≠Ya y)
  (s1:P=Ya x↔X=Ya p) (s2:P=Ya q↔Q=Ya p) (s3:P=Ya y↔Y=Ya p) (s4:X=Ya q↔Q=Ya x) (s5:X=Ya y↔Y=Ya x) (s6:Q=Ya y↔Y=Ya q)
  {d1 d2 d3 d4:Int}{D J G O:Option Nat}
  (U:D=if X=Ya p then Q else if X=Ya q then P else X) (V:J=if Y=Ya p then Q else if Y=Ya q then P else Y)
  (Z:G=if Q=Ya p then X else if Q=Ya x then P else Q) (hY2:O=if Y=Ya p then X else if Y=Ya x then P else Y)
  (h1:d1=if P=Ya q then 2 else if P=none/\Q=none then -2 else 0)
  (h2:d2=if D=Ya y then 2 else if D=none/\J=none then -2 else 0)
  (h3:d3=if P=Ya x then 2 else if P=none/\X=none then -2 else 0)
  (h4:d4=if G=Ya y then 2 else if G=none/\O=none then -2 else 0) :
  d1+d2-d3-d4=2↔(P=Ya q\/X=Ya y\/(Q=none/\Y=none/\P≠none/\X≠none/\P≠Ya x)\/(P=none/\X=none/\Q≠none/\Y≠none/\Q≠Ya y)):=by
 by_cases a1:P=Ya x
 .grind
 by_cases a2:P=Ya q
 .grind
 by_cases a3:P=Ya y
 .grind
 by_cases a4:X=Ya q
 .grind
 by_cases a5:X=Ya y
 .grind
 by_cases a6:Q=Ya y
 .grind
 by_cases b1:P=none <;> by_cases b2:X=none <;> by_cases b3:Q=none <;> by_cases b4:Y=none <;> grind
variable {N:Nat}{a b:Nat->Nat}
noncomputable def c4(a:Nat->Nat)(p q x:Nat):Nat:=if x=p\/x=a p\/x=q\/x=a q then x else a x
theorem vy(T:cq N a b){p q:Nat}(hp:p<N)(D:q<N):cq N (c4 a p q) b:=by
 refine⟨λx h=>?_,T.gl,λx h=>?_,T.gg⟩
 .have:=T.fl x h;unfold c4
  split <;> assumption
 have:=T.ff x h;have:=T.ff p hp;have:=T.ff q D;unfold c4;grind
theorem jn(p q:Nat):c4 a p q p=p/\c4 a p q (a p)=a p/\c4 a p q q=q/\c4 a p q (a q)=a q:=by
 refine⟨Uo (.inl rfl),Uo (.inr (.inl rfl)),Uo (.inr (.inr (.inl rfl))),Uo (.inr (.inr (.inr rfl)))⟩
theorem BH(T:cq N a b){p:Nat}(hp:p<N)(G:a p≠p){a2:Nat->Nat}(J:∀x,x<N->a2 x=aI.cE a p p x) :
  (score a2 b N:Int)-score a b N=2↔(pt (c4 a p p) b p=none/\pt (c4 a p p) b (a p)=none):=by
 have O:=T.fl p hp;have V:=T.ff p hp;have ec:c4 a p p=cut a p:=funext λx=>by unfold c4 cut;grind
 rw[ec];have T0:=vt T hp;have c1:cut a p p=p:=by unfold cut;rw[Uo (.inl rfl)]
 have c2:cut a p (a p)=a p:=by unfold cut;rw[Uo (.inr rfl)]
 have e1:=dm T0 hp O c1 c2 (λz=>G z.symm);have e2:score (link (cut a p) p (a p)) b N=score a b N:=dh T (λx D=>by have:=T.ff x D;unfold link cut;grind) (λ_ _=>rfl);have e3:score a2 b N=score (cut a p) b N:=dh T0 (λx D=>by rw[J x D];unfold aI.cE cut;grind) (λ_ _=>rfl);rw[e2]at e1;rw[e3];have U:dl (cut a p) b p (a p)=-2↔(pt (cut a p) b p=none/\pt (cut a p) b (a p)=none):=by
  unfold dl;by_cases c:pt (cut a p) b p=Ya (a p)
  .rw[Uo c,c];constructor
   .intro z;cases z
   rintro⟨z,_⟩;cases z
  rw[Uk c];by_cases d:pt (cut a p) b p=none/\pt (cut a p) b (a p)=none
  .rw[Uo d];exact⟨λ_=>d,λ_=>rfl⟩
  rw[Uk d];exact⟨λz=>Us z (by decide),λz=>Us z d⟩
 rw[<-U];omega
theorem xO(T:cq N a b){p q:Nat}(hp:p<N)(J:q<N)(D:p≠q)(hf:a p≠q){a2:Nat->Nat}(h2:∀x,x<N->a2 x=aI.cE a p q x) :
  (score a2 b N:Int)-score a b N=2↔(pt (c4 a p q) b p=Ya q\/(a p≠p/\a q≠q/\pt (c4 a p q) b (a p)=Ya (a q)) \/
   (a q≠q/\pt (c4 a p q) b q=none/\pt (c4 a p q) b (a q)=none/\pt (c4 a p q) b p≠none/\pt (c4 a p q) b (a p)≠none/\(a p≠p->pt (c4 a p q) b p≠Ya (a p))) \/
   (a p≠p/\pt (c4 a p q) b p=none/\pt (c4 a p q) b (a p)=none/\pt (c4 a p q) b q≠none/\pt (c4 a p q) b (a q)≠none/\(a q≠q->pt (c4 a p q) b q≠Ya (a q)))):=by
 have ip:=T.ff p hp;have iq:=T.ff q J;have lp:=T.fl p hp;have lq:=T.fl q J;by_cases ap:a p=p
 .by_cases aq:a q=q
  .have ec:c4 a p q=a:=funext λx=>by unfold c4;grind
   rw[ec];have e1:=dm T hp J ap aq D;have T1:=gM T hp J ap aq;have e3:score a2 b N=score (link a p q) b N:=dh T1 (λx V=>by rw[h2 x V];unfold aI.cE link;grind) (λ_ _=>rfl);rw[e3,e1];unfold dl;grind
  have ec:c4 a p q=cut a q:=funext λx=>by unfold c4 cut;grind
  rw[ec];have T0:=vt T J;have c1:cut a q q=q:=by unfold cut;rw[Uo (.inl rfl)]
  have c2:cut a q (a q)=a q:=by unfold cut;rw[Uo (.inr rfl)]
  have Z:p≠a q:=λz=>hf (by rw[z];exact iq);have U:cut a q p=p:=by unfold cut;rw[Uk (by rintro(z|z);exact D z;exact Z z)];exact ap
  have e1:=dm T0 J lq c1 c2 (λz=>aq z.symm);have e2:score (link (cut a q) q (a q)) b N=score a b N:=dh T (λx V=>by have:=T.ff x V;unfold link cut;grind) (λ_ _=>rfl);have e4:=dm T0 hp J U c1 D;have T1:=gM T0 hp J U c1;have e3:score a2 b N=score (link (cut a q) p q) b N:=dh T1 (λx V=>by rw[h2 x V];have:=T.ff x V;unfold aI.cE link cut;grind) (λ_ _=>rfl);have sy:pt (cut a q) b p=Ya q↔pt (cut a q) b q=Ya p:=⟨λh=>(gi T0 hp U h).2.2.2,λh=>(gi T0 J c1 h).2.2.2⟩
  rw[e2]at e1;rw[e3,e4,e1];unfold dl;grind
 by_cases aq:a q=q
 .have ec:c4 a p q=cut a p:=funext λx=>by unfold c4 cut;grind
  rw[ec];have T0:=vt T hp;have c1:cut a p p=p:=by unfold cut;rw[Uo (.inl rfl)]
  have c2:cut a p (a p)=a p:=by unfold cut;rw[Uo (.inr rfl)]
  have U:cut a p q=q:=by unfold cut;rw[Uk (by rintro(z|z);exact D z.symm;exact hf z.symm)];exact aq
  have e1:=dm T0 hp lp c1 c2 (λz=>ap z.symm);have e2:score (link (cut a p) p (a p)) b N=score a b N:=dh T (λx V=>by have:=T.ff x V;unfold link cut;grind) (λ_ _=>rfl);have e4:=dm T0 hp J c1 U D;have T1:=gM T0 hp J c1 U;have e3:score a2 b N=score (link (cut a p) p q) b N:=dh T1 (λx V=>by rw[h2 x V];have:=T.ff x V;unfold aI.cE link cut;grind) (λ_ _=>rfl);rw[e2]at e1;rw[e3,e4,e1];unfold dl;grind
 have Z:p≠a q:=λz=>hf (by rw[z];exact iq);have HD:a p≠a q:=λz=>D (by rw[<-ip,z,iq]);have T0:=vy T hp J;obtain⟨c1,c2,U,O⟩:=jn (a:=a) p q;generalize ea:c4 a p q=G at T0 c1 c2 U O;have v0:∀x,G x=if x=p\/x=a p\/x=q\/x=a q then x else a x:=λx=>by rw[<-ea];rfl
 have lk:∀{u v w:Nat},G w=w->w≠u->w≠v->link G u v w=w:=λ{u v w} h1 h2 h3=>by unfold link;rw[Uk h2,Uk h3];exact h1
 have e1:=dm T0 hp lp c1 c2 (λz=>ap z.symm);have T1:=gM T0 hp lp c1 c2;have d3:=lk U (u:=p) (v:=a p) (λz=>D z.symm) hf.symm;have d4:=lk O (u:=p) (v:=a p) Z.symm HD.symm;have e2:=dm T1 J lq d3 d4 (λz=>aq z.symm);have e3:score (link (link G p (a p)) q (a q)) b N=score a b N:=dh T (λx V=>by have:=T.ff x V;unfold link;rw[v0];grind) (λ_ _=>rfl);have f1:=dm T0 hp J c1 U D;have T2:=gM T0 hp J c1 U;have g3:=lk c2 (u:=p) (v:=q) ap hf;have g4:=lk O (u:=p) (v:=q) Z.symm aq;have f2:=dm T2 lp lq g3 g4 HD;have T3:=gM T2 lp lq g3 g4;have f3:score a2 b N=score (link (link G p q) (a p) (a q)) b N:=dh T3 (λx V=>by rw[h2 x V];have:=T.ff x V;unfold aI.cE link;rw[v0];grind) (λ_ _=>rfl);have sm:∀{u v:Nat},u<N->v<N->G u=u->G v=v->(pt G b u=Ya v↔pt G b v=Ya u):=λhu hv au av=>⟨λh=>(gi T0 hu au h).2.2.2,λh=>(gi T0 hv av h).2.2.2⟩
 have ns:∀{u:Nat},u<N->G u=u->pt G b u≠Ya u:=λhu au h=>(gi T0 hu au h).2.2.1 rfl;have key:=DF (P:=pt G b p) (X:=pt G b (a p)) (Q:=pt G b q) (Y:=pt G b (a q)) (p:=p) (x:=a p) (q:=q) (y:=a q) (λz=>ap z.symm) D Z hf HD (λz=>aq z.symm)
  (ns hp c1) (ns lp c2) (ns J U) (ns lq O) (sm hp lp c1 c2) (sm hp J c1 U) (sm hp lq c1 O) (sm lp J c2 U) (sm lp lq c2 O) (sm J lq U O)
  (lK T0 hp J c1 U D lp c2 ap hf) (lK T0 hp J c1 U D lq O Z.symm aq)
  (lK T0 hp lp c1 c2 (λz=>ap z.symm) J U (λz=>D z.symm) hf.symm) (lK T0 hp lp c1 c2 (λz=>ap z.symm) lq O Z.symm HD.symm)
  (d1:=dl G b p q) (d2:=dl (link G p q) b (a p) (a q)) (d3:=dl G b p (a p)) (d4:=dl (link G p (a p)) b q (a q)) rfl rfl rfl rfl
 rw[e3]at e2;have ed:(score a2 b N:Int)-score a b N=dl G b p q+dl (link G p q) b (a p) (a q)-dl G b p (a p)-dl (link G p (a p)) b q (a q):=by rw[f3];omega
 rw[ed,key];constructor
 .rintro(h|h|⟨h1,h2,h3,h4,h5⟩|⟨h1,h2,h3,h4,h5⟩)
  .exact .inl h
  .exact .inr (.inl ⟨ap,aq,h⟩)
  .exact .inr (.inr (.inl ⟨aq,h1,h2,h3,h4,λ_=>h5⟩))
  exact .inr (.inr (.inr ⟨ap,h1,h2,h3,h4,λ_=>h5⟩))
 rintro(h|⟨_,_,h⟩|⟨_,h1,h2,h3,h4,h5⟩|⟨_,h1,h2,h3,h4,h5⟩)
 .exact .inl h
 .exact .inr (.inl h)
 .exact .inr (.inr (.inl ⟨h1,h2,h3,h4,h5 ap⟩))
 exact .inr (.inr (.inr ⟨h1,h2,h3,h4,h5 aq⟩))
variable {k:Kd}{L:List Nat}
theorem cj.aR(G:cj N a b k L){i x y:Nat}(D:L[i]?=Ya x)(J:L[i+1]?=Ya y)(o:(turn k+i)%2=0):a x=y:=by
 have z:=(G.lk i x y D J).1;rwa[Uo o]at z
theorem cj.bR(G:cj N a b k L){i x y:Nat}(D:L[i]?=Ya x)(J:L[i+1]?=Ya y)(o:(turn k+i)%2=1):b x=y:=by
 have z:=(G.lk i x y D J).1;rwa[Uk (by omega)]at z
theorem cj.one(G:cj N a b k L){i j x:Nat}(D:L[i]?=Ya x)(J:L[j]?=Ya x):i=j:=by
 obtain⟨O,e1⟩:=OI.mp D;obtain⟨U,e2⟩:=OI.mp J;exact(Sk G.nd).mp (e1.trans e2.symm)
theorem cj.DG(G:cj N a b k L){i x:Nat}(h:L[i]?=Ya x):x<N:=G.lt x (OP h)
theorem DH{i x:Nat}(h:L[i]?=Ya x):L[0]?=Ya (hd L):=by
 cases L with
 |nil=>simp at h
 |cons y r=>rfl
theorem vz{i x:Nat}(h:L[i]?=Ya x):L[L.length-1]?=Ya (bE L):=by
 have D:0<L.length:=Qs (PH _) (OI.mp h).1;rw[<-rp D,R8]
theorem cj.mate(G:cj N a b k L)(T:cq N a b){i x:Nat}(h:L[i]?=Ya x) :
  ((turn k+i)%2=0/\(L[i+1]?=Ya (a x)\/(i+1=L.length/\a x=x/\k=.bare)))\/((turn k+i)%2=1/\((1<=i/\L[i-1]?=Ya (a x))\/(i=0/\a x=x/\(k=.bare\/k=.odd)))):=by
 have O:=(OI.mp h).1;by_cases o:(turn k+i)%2=0
 .refine .inl ⟨o,?_⟩;by_cases c:i+1<L.length
  .obtain⟨y,J⟩:∃y,L[i+1]?=Ya y:=⟨_,OG c⟩
   rw[G.aR h J o];exact .inl J
  refine .inr ⟨by omega,?_⟩;have e:i=L.length-1:=by omega
  have D:=vz h;rw[<-e,h]at D;have D:=Option.some.inj D;have par:=G.par;have F:=G.fin;cases k with
  |ring=>exact Us o (by show¬(0+i)%2=0;have:¬L.length%2=1:=(λz=>by cases par.mp z);omega)
  |odd=>exact Us o (by show¬(1+i)%2=0;have:=par.mpr rfl;omega)
  |bare=>exact⟨by rw[D];exact F.2.1,rfl⟩
  |tied=>exact Us o (by show¬(0+i)%2=0;have:¬L.length%2=1:=(λz=>by cases par.mp z);omega)
 have o:(turn k+i)%2=1:=by omega
 refine .inr ⟨o,?_⟩;by_cases c:i=0
 .refine .inr ⟨c,?_⟩;subst c;have D:=DH h;rw[h]at D;have D:=Option.some.inj D;have F:=G.fin;cases k with
  |ring=>exact Us o (by decide)
  |odd=>exact⟨by rw[D];exact F.1,.inr rfl⟩
  |bare=>exact⟨by rw[D];exact F.1,.inl rfl⟩
  |tied=>exact Us o (by decide)
 obtain⟨y,J⟩:∃y,L[i-1]?=Ya y:=⟨_,OG (by omega)⟩
 have h':L[i-1+1]?=Ya x:=by rw[show i-1+1=i by omega];exact h
 have e:=G.aR J h' (by omega);refine .inl ⟨by omega,?_⟩;rw[<-e,T.ff y (G.DG J)];exact J
theorem cj.gone(G:cj N a b k L)(T:cq N a b){i m p x:Nat}(hp:L[i]?=Ya p)(D:L[m]?=Ya x)(o:(turn k+m)%2=0)(h:x=p\/x=a p):((turn k+i)%2=0/\m=i)\/((turn k+i)%2=1/\m+1=i):=by
 rcases h with rfl|rfl
 .have:=G.one D hp;subst this;exact .inl ⟨o,rfl⟩
 rcases G.mate T hp with⟨O,J|⟨_,J,_⟩⟩|⟨O,⟨U,J⟩|⟨_,J,_⟩⟩
 .have:=G.one D J;omega
 .rw[J]at D;exact .inl ⟨O,G.one D hp⟩
 .have:=G.one D J;exact .inr ⟨O,by omega (config:={})⟩
 rw[J]at D;have:=G.one D hp;omega
theorem cj.seg(G:cj N a b k L){O:Nat->Nat}{i x:Nat}(U:L[i]?=Ya x):∀(d y:Nat),L[i+d]?=Ya y->(∀m u,i<=m->m<i+d->L[m]?=Ya u->(turn k+m)%2=0->O u=a u)->aB O b x y
 |0,y,D,_=>by
  rw[Sy,U]at D;rw[Option.some.inj D];exact aB.refl _
 |d+1,y,D,V=>by
  obtain⟨l1,_⟩:=OI.mp D;obtain⟨u,J⟩:∃u,L[i+d]?=Ya u:=⟨_,OG (by omega)⟩
  have c:=cj.seg G U d u J λm u Z h2 h3 h4=>V m u Z (by omega) h3 h4;by_cases o:(turn k+(i+d))%2=0
  .have e:=G.aR J D o;rw[<-e,<-V (i+d) u (by omega) (by omega) J o];exact c.sf
  have e:=G.bR J D (by omega);rw[<-e];exact c.sg
theorem lM{p q:Nat}(h:p≠q)(x:Nat):aI.cE a p q x=aI.cE a q p x:=by
 unfold aI.cE;grind
theorem cj.kept(G:cj N a b k L)(T:cq N a b){i j m p q u:Nat}(hp:L[i]?=Ya p)(J:L[j]?=Ya q)(D:L[m]?=Ya u)(o:(turn k+m)%2=0)
  (O:¬(((turn k+i)%2=0/\m=i)\/((turn k+i)%2=1/\m+1=i))) (U:¬(((turn k+j)%2=0/\m=j)\/((turn k+j)%2=1/\m+1=j))):c4 a p q u=a u:=by
 unfold c4;rw[Uk];rintro(h|h|h|h)
 .exact O (G.gone T hp D o (.inl h))
 .exact O (G.gone T hp D o (.inr h))
 .exact U (G.gone T J D o (.inl h))
 exact U (G.gone T J D o (.inr h))
theorem xP(T:cq N a b)(G:cj N a b k L){i j p q:Nat}(hp:L[i]?=Ya p)(hq:L[j]?=Ya q)(y4:i<j)(hf:a p≠q){a2:Nat->Nat}(h2:∀x,x<N->a2 x=aI.cE a p q x) :
  (score a2 b N:Int)-score a b N=2↔(turn k+i)%2≠(turn k+j)%2:=by
 have lp:=G.DG hp;have lq:=G.DG hq;have O:p≠q:=λz=>by rw[z]at hp;have:=G.one hp hq;omega
 have T0:=vy T lp lq;obtain⟨c1,c2,c3,U⟩:=jn (a:=a) p q;have V:=(OI.mp hq).1;have D:=T.fl p lp;have Z:=T.fl q lq;rw[xO T lp lq O hf h2];have kp:=λ{m u:Nat}=>G.kept T (m:=m) (u:=u) hp hq;have J:∀{s e x y:Nat},s<=e->L[s]?=Ya x->L[e]?=Ya y->(∀m,s<=m->m<e->(turn k+m)%2=0->¬(((turn k+i)%2=0/\m=i)\/((turn k+i)%2=1/\m+1=i))/\¬(((turn k+j)%2=0/\m=j)\/((turn k+j)%2=1/\m+1=j)))->aB (c4 a p q) b x y:=λ{s e x y} hse hx hy hm =>
  G.seg hx (e-s) y (by rw[show s+(e-s)=e by omega];exact hy) λm u h1 h2 h3 h4=>by
   have z:=hm m h1 (by clear hp hq y4 hf lp lq O c1 c2 c3 U V D Z kp hx hy hm h1 h3;lia) h4;exact kp h3 h4 z.1 z.2
 have sy:∀{u v:Nat},u<N->c4 a p q u=u->pt (c4 a p q) b u=Ya v->pt (c4 a p q) b v=Ya u:=λhu au h=>(gi T0 hu au h).2.2.2;rcases G.mate T hp with⟨o1,m1⟩|⟨o1,m1⟩
 ·-- p's mate is behind it
  have hx:L[i+1]?=Ya (a p):=m1.resolve_right λz=>by omega
  have HE:a p≠p:=λz=>by rw[z]at hx;have:=G.one hx hp;omega
  rcases G.mate T hq with⟨o2,m2⟩|⟨o2,m2⟩
  ·-- Cc same
   have ne:a p≠q:=hf;have pk:pt (c4 a p q) b (a p)=Ya q:=(cv T0 D c2).mpr ⟨ne.symm,J (by omega) hx hq λm z1 z2 z3=>⟨by omega,by clear hp hq y4 hf h2 lp lq O c1 c2 c3 U V D Z kp J sy o1 m1 hx HE m2 ne z1;omega (config:={})⟩,c3⟩;have qk:=sy D c2 pk;constructor
   .rintro(h|⟨_,h0,h⟩|⟨_,h,_⟩|⟨_,_,h,_⟩)
    .have:=sy lp c1 h;rw[qk]at this;exact Us (Option.some.inj this) HE
    .rw[pk]at h;exact Us (Option.some.inj h).symm h0
    .rw[qk]at h;cases h
    rw[pk]at h;cases h
   intro h;exact Us (by omega) h
  have hj1:1<=j:=by omega
  have hy:L[j-1]?=Ya (a q):=(m2.resolve_right λz=>by clear hp hq y4 hf h2 lp lq O c1 c2 c3 U V D Z kp J sy o1 m1 hx HE m2;omega (config:={})).2;have Gx:a q≠q:=λz=>by rw[z]at hy;have:=G.one hy hq;clear hp hq y4 hf h2 lp lq O c1 c2 c3 U V D Z kp J sy o1 m1 hx HE m2 hy z;omega (config:={})
  have nj:j≠i+1:=λz=>by
   rw[z,hx]at hq;exact hf (Option.some.inj hq)
  have HD:a q≠a p:=λz=>by rw[z]at hy;have:=G.one hy hx;clear hp hq y4 hf h2 lp lq O c1 c2 c3 U V D Z kp J sy m1 hx HE m2 hy Gx nj z;omega (config:={})
  refine⟨λ_=>by omega,λ_=>.inr (.inl ⟨HE,Gx,(cv T0 D c2).mpr ⟨HD,J (by clear hp hq hf h2 lp lq O c1 c2 c3 U V D Z kp J sy m1 hx HE m2 hy Gx HD;lia) hx hy λm z1 z2 z3=>⟨by omega,by clear hp hq y4 hf h2 lp lq O c1 c2 c3 U V D Z kp J sy o1 m1 hx HE m2 hy Gx nj HD z1;omega (config:={})⟩,U⟩⟩)⟩
 rcases G.mate T hq with⟨o2,m2⟩|⟨o2,m2⟩
 .refine⟨λ_=>by omega,λ_=>.inl ((cv T0 lp c1).mpr ⟨O.symm,J (by omega) hp hq λm z1 z2 z3=>⟨by omega,by clear hp hq y4 hf h2 lp lq O c1 c2 c3 U V D Z kp J sy o1 m1 m2 z1;omega (config:={})⟩,c3⟩)⟩
 have hy:L[j-1]?=Ya (a q):=(m2.resolve_right λz=>by omega).2;have Gx:a q≠q:=λz=>by rw[z]at hy;have:=G.one hy hq;clear hp hq hf h2 lp lq O c1 c2 c3 U V D Z kp J sy m1 m2 hy z;omega (config:={})
 have npy:a q≠p:=λz=>by rw[z]at hy;have:=G.one hy hp;clear hp hq hf h2 lp lq O c1 c2 c3 U V D Z kp J sy m1 m2 hy Gx z;omega (config:={})
 have pk:pt (c4 a p q) b p=Ya (a q):=(cv T0 lp c1).mpr ⟨npy,J (by clear hp hq hf h2 lp lq O c1 c2 c3 U V D Z kp J sy m1 m2 hy Gx npy;omega (config:={})) hp hy λm z1 z2 z3=>⟨by omega,by clear hp hq y4 hf h2 lp lq O c1 c2 c3 U V D Z kp J sy o1 m1 m2 hy Gx npy z1;omega (config:={})⟩,U⟩;have qk:=sy lp c1 pk;constructor
 .rintro(h|⟨h0,_,h⟩|⟨_,_,h,_⟩|⟨_,h,_⟩)
  .rw[pk]at h;exact Us (Option.some.inj h) Gx
  .have:=sy D c2 h;rw[qk]at this;exact Us (Option.some.inj this).symm h0
  .rw[qk]at h;cases h
  rw[pk]at h;cases h
 intro h;exact Us (by omega) h
structure Gy(a b a0:Nat->Nat) (k:Kd) (L:List Nat) (i p:Nat):Prop where
 c1:a0 p=p
 c2:a0 (a p)=a p
 lo:∀x,a x=x->a0 x=x
 kp:∀m u,L[m]?=Ya u->(turn k+m)%2=0->¬(((turn k+i)%2=0/\m=i)\/((turn k+i)%2=1/\m+1=i))->a0 u=a u
theorem rQ(T:cq N a b){D:Nat->Nat}(T0:cq N D b)(G:cj N a b k L){i p:Nat}(hp:L[i]?=Ya p)(C:Gy a b D k L i p) :
  match k with
  |.tied=>a p≠p/\pt D b p=none/\pt D b (a p)=none
  |.bare=>pt D b p≠none/\pt D b (a p)≠none/\(a p≠p->pt D b p≠Ya (a p))
  |.odd=>(a p=p/\pt D b p=none)\/(a p≠p/\((pt D b p=none/\pt D b (a p)≠none)\/(pt D b p≠none/\pt D b (a p)=none)))
  |.ring=>a p≠p/\pt D b p=Ya (a p):=by
 have O:=G.DG hp;have J:=T.fl p O;have h0:=DH hp;have hl:=vz hp;have il:=(OI.mp hp).1;have l0:=G.DG h0;have ll:=G.DG hl;have par:=G.par;have F:=G.fin;have sg:∀{s e x y:Nat},s<=e->L[s]?=Ya x->L[e]?=Ya y->(∀m,s<=m->m<e->(turn k+m)%2=0->¬(((turn k+i)%2=0/\m=i)\/((turn k+i)%2=1/\m+1=i)))->aB D b x y:=λ{s e x y} hse hx hy hm =>
  G.seg hx (e-s) y (by rw[show s+(e-s)=e by omega];exact hy) λm u h1 h2 h3 h4=>C.kp m u h3 h4 (hm m h1 (by omega) h4)
 have Nv:∀{s x:Nat},L[s]?=Ya x->(∀m,m<s->(turn k+m)%2=0->¬(((turn k+i)%2=0/\m=i)\/((turn k+i)%2=1/\m+1=i)))->aB D b x (hd L):=λ{s x} hx hm=>(sg (PH s) h0 hx λm _ z=>hm m z).symm T0 l0;have Nw:∀{s x:Nat},L[s]?=Ya x->(∀m,s<=m->(turn k+m)%2=0->¬(((turn k+i)%2=0/\m=i)\/((turn k+i)%2=1/\m+1=i)))->aB D b x (bE L):=λ{s x} hx hm=>sg (by have:=(OI.mp hx).1;clear hl;lia) hx hl λm z _=>hm m z;have no:∀{u z:Nat},u<N->D u=u->aB D b u z->b z=z->pt D b u=none:=λhu au c bz=>(dk T0 hu au).mpr ⟨_,c,bz⟩;have Z:∀{u z:Nat},u<N->D u=u->aB D b u z->D z=z->z≠u->pt D b u=Ya z:=λhu au c az ne=>(cv T0 hu au).mpr ⟨ne,c,az⟩;have ns:∀{u z:Nat},pt D b u=Ya z->pt D b u≠none:=λh e=>by rw[h]at e;cases e
 rcases G.mate T hp with⟨o,m|⟨e1,e2,e3⟩⟩|⟨o,⟨e1,m⟩|⟨e1,e2,e3⟩⟩
 ·-- its mate is behind it
  have U:a p≠p:=λz=>by rw[z]at m;have:=G.one m hp;omega
  have V:aB D b p (hd L):=Nv hp λm z1 z2=>by omega
  have cx:aB D b (a p) (bE L):=Nw m λm z1 z2=>by omega
  have nh:k=.odd\/k=.bare->hd L≠p:=λhk z=>by
   rw[z]at h0;have e:=G.one h0 hp;subst e;rcases hk with rfl|rfl <;> exact Us o (by decide)
  cases k with
  |tied=>exact⟨U,no O C.c1 V F.1,no J C.c2 cx F.2.1⟩
  |odd=>exact .inr ⟨U,.inr ⟨ns (Z O C.c1 V (C.lo _ F.1) (nh (.inl rfl))),no J C.c2 cx F.2⟩⟩
  |bare =>
   have nl:bE L≠a p:=λz=>by
    have y:=F.2.1;rw[z,T.ff p O]at y;exact U y.symm
   have s1:=Z O C.c1 V (C.lo _ F.1) (nh (.inr rfl));refine⟨ns s1,ns (Z J C.c2 cx (C.lo _ F.2.1) nl),λ_ z=>?_⟩;rw[s1]at z;have z:=Option.some.inj z;have y:=F.1;rw[z,T.ff p O]at y;exact U y.symm
  |ring =>
   have hb:b (hd L)=bE L:=by rw[<-F.1];exact T.gg _ ll
   have c:aB D b p (bE L):=by rw[<-hb];exact V.sg
   exact⟨U,Z O C.c1 (c.trans (cx.symm T0 J)) C.c2 U⟩
 ·-- Cc last end,loose
  subst e3;have V:aB D b p (hd L):=Nv hp λm z1 z2=>by clear hp O J h0 hl il l0 ll no Z ns e1 e2 par sg Nv Nw;omega (config:={})
  have ep:bE L=p:=by rw[show L.length-1=i by omega,hp]at hl;exact(Option.some.inj hl).symm
  have nh:hd L≠p:=λz=>by have:=F.2.2;omega
  have s1:=Z O C.c1 V (C.lo _ F.1) nh;exact⟨ns s1,by rw[e2];exact ns s1,λz=>Us e2 z⟩
 .have U:a p≠p:=λz=>by rw[z]at m;have:=G.one m hp;omega
  have V:aB D b p (bE L):=Nw hp λm z1 z2=>by omega
  have cx:aB D b (a p) (hd L):=Nv m λm z1 z2=>by omega
  cases k with
  |tied=>exact⟨U,no O C.c1 V F.2.1,no J C.c2 cx F.1⟩
  |odd =>
   have nh:hd L≠a p:=λz=>by
    have y:=F.1;rw[z,T.ff p O]at y;exact U y.symm
   exact .inr ⟨U,.inl ⟨no O C.c1 V F.2,ns (Z J C.c2 cx (C.lo _ F.1) nh)⟩⟩
  |bare =>
   have nh:hd L≠a p:=λz=>by
    have y:=F.1;rw[z,T.ff p O]at y;exact U y.symm
   have nl:bE L≠p:=λz=>by
    have y:=F.2.1;rw[z]at y;exact U y
   have s1:=Z O C.c1 V (C.lo _ F.2.1) nl;refine⟨ns s1,ns (Z J C.c2 cx (C.lo _ F.1) nh),λ_ z=>?_⟩;rw[s1]at z;have z:=Option.some.inj z;have y:=F.2.1;rw[z,T.ff p O]at y;exact U y.symm
  |ring =>
   have c:aB D b p (hd L):=by rw[<-F.1];exact V.sg
   exact⟨U,Z O C.c1 (c.trans (cx.symm T0 J)) C.c2 U⟩
 -- Cc first end,loose
 have V:aB D b p (bE L):=Nw hp λm z1 z2=>by omega
 have ep:hd L=p:=by rw[e1]at hp;rw[hp]at h0;exact(Option.some.inj h0).symm
 rcases e3 with rfl|rfl
 .have nl:bE L≠p:=λz=>by have:=F.2.2;omega
  have s1:=Z O C.c1 V (C.lo _ F.2.1) nl;exact⟨ns s1,by rw[e2];exact ns s1,λz=>Us e2 z⟩
 exact .inl ⟨e2,no O C.c1 V F.2⟩
theorem ug(T:cq N a b)(G:cj N a b k L){i p q:Nat}(hp:L[i]?=Ya p)(h:∀x∈L,x≠q/\x≠a q):Gy a b (c4 a p q) k L i p/\Gy a b (c4 a q p) k L i p:=by
 have base:∀m u,L[m]?=Ya u->(turn k+m)%2=0->¬(((turn k+i)%2=0/\m=i)\/((turn k+i)%2=1/\m+1=i))->u≠p/\u≠a p/\u≠q/\u≠a q:=λm u D o n=>by
  have hm:=h u (OP D);exact⟨λz=>n (G.gone T hp D o (.inl z)),λz=>n (G.gone T hp D o (.inr z)),hm.1,hm.2⟩
 obtain⟨d1,d2,d3,d4⟩:=jn (a:=a) p q;obtain⟨e1,e2,e3,e4⟩:=jn (a:=a) q p;refine⟨⟨d1,d2,λx J=>by unfold c4;split;rfl;exact J,λm u D o n=>?_⟩,e3,e4,λx J=>by unfold c4;split;rfl;exact J,λm u D o n=>?_⟩
 .obtain⟨O,U,V,Z⟩:=base m u D o n;unfold c4;rw[Uk (by rintro(z|z|z|z);exact O z;exact U z;exact V z;exact Z z)]
 obtain⟨O,U,V,Z⟩:=base m u D o n;unfold c4;rw[Uk (by rintro(z|z|z|z);exact V z;exact Z z;exact O z;exact U z)]
theorem DI(T:cq N a b)(G:cj N a b k L){i p:Nat}(hp:L[i]?=Ya p):Gy a b (c4 a p p) k L i p:=by
 obtain⟨d1,d2,_,_⟩:=jn (a:=a) p p;refine⟨d1,d2,λx J=>by unfold c4;split;rfl;exact J,λm u D o n=>?_⟩;unfold c4;rw[Uk];rintro(z|z|z|z)
 .exact n (G.gone T hp D o (.inl z))
 .exact n (G.gone T hp D o (.inr z))
 .exact n (G.gone T hp D o (.inl z))
 exact n (G.gone T hp D o (.inr z))
theorem DJ(T:cq N a b)(G:cj N a b k L){i p:Nat}(hp:L[i]?=Ya p)(J:a p≠p){a2:Nat->Nat}(O:∀x,x<N->a2 x=aI.cE a p p x):(score a2 b N:Int)-score a b N=2↔k=.tied:=by
 have D:=G.DG hp;rw[BH T D J O];have K:=rQ T (vy T D D) G hp (DI T G hp);cases k with
 |tied=>exact⟨λ_=>rfl,λ_=>K.2⟩
 |odd =>
  refine⟨λh=>?_,λh=>by cases h⟩;rcases K with⟨K,_⟩|⟨_,⟨_,K⟩|⟨K,_⟩⟩
  .exact Us K J
  .exact Us h.2 K
  exact Us h.1 K
 |bare=>exact⟨λh=>Us h.1 K.1,λh=>by cases h⟩
 |ring=>exact⟨λh=>Us h.1 (by rw[K.2];exactλz=>nomatch z),λh=>nomatch h⟩
theorem AH{p q u v:Nat}(h:aB (c4 a p q) b u v):aB a b u v:=h (λz=>aB a b u z) (aB.refl u) λz hz=>by
 refine⟨?_,hz.sg⟩;unfold c4
 split
 .exact hz
 exact hz.sf
theorem BI(T:cq N a b){k2:Kd}{L2:List Nat}(G:cj N a b k L)(O:cj N a b k2 L2){i j p q:Nat}(hp:L[i]?=Ya p)(U:L2[j]?=Ya q)(D:¬aB a b p q)(d1:∀x∈L,x≠q/\x≠a q)(d2:∀x∈L2,x≠p/\x≠a p)
  {a2:Nat->Nat} (h2:∀x,x<N->a2 x=aI.cE a p q x):(score a2 b N:Int)-score a b N=2↔((k=.bare/\k2=.tied)\/(k=.tied/\k2=.bare)):=by
 have J:=G.DG hp;have V:=O.DG U;have Z:p≠q:=λz=>D (by rw[z];exact aB.refl _);have hf:a p≠q:=λz=>D (by rw[<-z];exact(aB.refl p).sf);have T0:=vy T J V;obtain⟨c1,c2,c3,c4'⟩:=jn (a:=a) p q;rw[xO T J V Z hf h2];have n1:pt (c4 a p q) b p≠Ya q:=λz=>D (AH ((cv T0 J c1).mp z).2.1);have n2:pt (c4 a p q) b (a p)≠Ya (a q):=λz=>by
  have c:=AH ((cv T0 (T.fl p J) c2).mp z).2.1;have:=((aB.refl (f:=a) (g:=b) p).sf.trans c).sf;rw[T.ff q V]at this;exact D this
 have K:=rQ T T0 G hp (ug T G hp d1).1;have K2:=rQ T T0 O U (ug T O U d2).2;cases k <;> cases k2 <;> grind
end Th
namespace aI
open PySem L2 Ch
noncomputable def bQ(ms:List Nat)(p q:Nat):Nat×Nat:=(min (ar ms p) (ar ms q),max (ar ms p) (ar ms q))
noncomputable def eu(ms:List Nat)(p q:Nat):Nat×Nat :=
 if ar ms p≠p/\ar ms q≠q then(if(bQ ms p q).1<p\/((bQ ms p q).1=p/\(bQ ms p q).2<q)then bQ ms p q else(p,q))else(p,q)
section
variable {n:Nat}{ms:List Nat}
theorem xQ(W:ak n ms){p q:Nat}(U:p<=q)(O:q<2*n)(V:ar ms p≠q)(c:ar ms p≠p/\ar ms q≠q):kP n ms (bN ms p q) (bQ ms p q).1 (bQ ms p q).2:=by
 have Z:=W.wk.lt p (by omega);have lq:=W.wk.lt q O;have D:=W.wk.inv p (by omega);have G:=W.wk.inv q O;unfold bQ;refine⟨by simp only;omega,by simp only;omega,?_,?_⟩
 .simp only;by_cases d:ar ms p<=ar ms q
  .rw[SD d,QQ d,D];grind
  rw[To (by omega),Sz (by omega),G];grind
 simp only;refine jI (by rw[dR,dR]) λe J=>?_;rw[dR]at J;rw[dw J,dw J];unfold cE;by_cases d:ar ms p<=ar ms q
 .rw[SD d,QQ d,D,G];grind
 rw[To (by omega),Sz (by omega),D,G];grind
theorem BJ(W:ak n ms){p q x y:Nat}(h1:p<=q)(h2:q<2*n)(Z:ar ms p≠q)(L:kP n ms (bN ms p q) x y):(x=p/\y=q)\/((ar ms p≠p/\ar ms q≠q)/\x=(bQ ms p q).1/\y=(bQ ms p q).2):=by
 have hl:=W.len;have ip:=W.wk.inv p (by omega);have iq:=W.wk.inv q h2;have vb:∀e,e<2*n->ar (bN ms p q) e=cE (ar ms) p q e:=λe he=>dw (by omega);have lx:x<2*n:=by have:=L.1;have:=L.2.1;omega
 unfold bQ;simp only;by_cases c:x=y
 .subst c;have hx:=L.2.2.1;have ix:=W.wk.inv x lx;have no:=y9 W L;have O:p=q:=OU λz=>no p (by omega) (by
   rw[vb p (by omega)];unfold cE;rw[Uk z,Uo rfl];exact⟨by omega,Z⟩)
  subst O;have V:ar (bN ms x x) p=ar (bN ms p p) p:=by rw[L.2.2.2]
  rw[dw (by omega),dw (by omega)]at V;unfold cE at V;have r1:(if p=p\/p=ar ms p then p else ar ms p)=p:=Uo (.inl rfl);rw[Uo rfl,Uo rfl,r1]at V;by_cases e1:p=x
  .exact .inl ⟨e1.symm,e1.symm⟩
  have e2:p=ar ms x:=OU λz=>by
   rw[Uk (by rintro(y|y);exact e1 y;exact z y)]at V;exact Z V
  have e3:ar ms p=x:=by rw[e2];exact ix
  exact .inr ⟨⟨Z,Z⟩,by omega,by omega⟩
 obtain⟨J,D,G⟩:=y8 W L c;rw[vb x lx]at J D G;unfold cE at J D G;by_cases O:p=q
 .exfalso;rw[Uo O]at D G J;by_cases e1:x=p\/x=ar ms p
  .rw[Uo e1]at D;exact c D
  rw[Uk e1]at G;exact G rfl
 rw[Uk O]at J D G;by_cases e1:x=p
 .rw[Uo e1]at D;exact .inl ⟨e1,D.symm⟩
 rw[Uk e1]at J D G;by_cases e2:x=q
 .rw[Uo e2]at J;clear e1;lia
 rw[Uk e2]at J D G;by_cases e3:x=ar ms p
 .rw[Uo e3]at J D G;by_cases U:ar ms q≠q
  .rw[Uo U]at J D;exact .inr ⟨⟨λz=>e1 (by rw[e3];exact z),U⟩,by omega,by omega⟩
  rw[Uk U]at D;exact Us D c
 rw[Uk e3]at J D G;by_cases U:x=ar ms q
 .rw[Uo U]at J D G;by_cases e5:ar ms p≠p
  .rw[Uo e5]at J D;exact .inr ⟨⟨e5,λz=>e2 (by rw[U];exact z)⟩,by omega,by omega⟩
  rw[Uk e5]at D;exact Us D c
 rw[Uk U]at G;exact Us rfl G
theorem ig(W:ak n ms){p q:Nat}(O:p<=q)(U:q<2*n)(V:ar ms p≠q):qz n ms (bN ms p q) (eu ms p q).1 (eu ms p q).2:=by
 have Z:kP n ms (bN ms p q) p q:=⟨O,U,V,rfl⟩
 have one:∀D G,kP n ms (bN ms p q) D G->(D=p/\G=q)\/((ar ms p≠p/\ar ms q≠q)/\D=(bQ ms p q).1/\G=(bQ ms p q).2):=λD G L=>BJ W O U V L;unfold eu;by_cases c:ar ms p≠p/\ar ms q≠q
 .rw[Uo c];have L1:=xQ W O U V c;generalize bQ ms p q=o at L1 one;obtain⟨J,o2⟩:=o;by_cases d:J<p\/(J=p/\o2<q)
  .rw[Uo d];refine⟨L1,λD G L=>?_⟩;rcases one D G L with⟨e1,e2⟩|⟨_,e1,e2⟩
   .show J<D\/(J=D/\o2<=G)
    omega
   exact .inr ⟨e1.symm,R0 e2.symm⟩
  rw[Uk d];refine⟨Z,λD G L=>?_⟩;rcases one D G L with⟨e1,e2⟩|⟨_,e1,e2⟩
  .exact .inr ⟨e1.symm,R0 e2.symm⟩
  show p<D\/(p=D/\q<=G)
  simp only at e1 e2;omega
 rw[Uk c];refine⟨Z,λD G L=>?_⟩;rcases one D G L with⟨e1,e2⟩|⟨z,_⟩
 .exact .inr ⟨e1.symm,R0 e2.symm⟩
 exact Us z c
end
end aI
noncomputable def jg{α:Type}:List α->List α
 |[]=>[]
 |[x]=>[x]
 |x::_::r=>x::jg r
theorem lN{α:Type}:∀l:List α,(jg l).length=(l.length+1)/2
 |[]=>by simp[jg]
 |[x]=>by simp[jg]
 |x::y::r=>by
  show(jg r).length+1=(r.length+1+1+1)/2;rw[lN r];omega
theorem nM{α:Type}:∀(l:List α) (k:Nat),(jg l)[k]?=l[2*k]?
 |[],k=>by simp[jg]
 |[x],0=>rfl
 |[x],k+1=>by simp[jg]
 |x::y::r,0=>rfl
 |x::y::r,k+1=>by
  show(jg r)[k]?=_;rw[nM r k,show 2*(k+1)=2*k+1+1 by omega]
  rfl
theorem AI{α β:Type}(f:α->β):∀l:List α,jg (l.map f)=(jg l).map f
 |[]=>rfl
 |[x]=>rfl
 |x::y::r=>by
  show f x::jg (r.map f)=f x::(jg r).map f;rw[AI f r]
theorem DK{α:Type}(l:List α)(i:Nat):(OV ((l.drop i).length+1-(l.drop i).length/2-1)).filterMap (λk=>l[i+2*k]?)=jg (l.drop i):=by
 have G:(l.drop i).length+1-(l.drop i).length/2-1=(jg (l.drop i)).length:=by rw[lN];omega (config:={})
 rw[G];have e:∀k,k<(jg (l.drop i)).length->l[i+2*k]?=(jg (l.drop i))[k]?:=λk _=>by rw[nM,Rz]
 generalize jg (l.drop i)=m at e;refine QY λj=>?_;have gen:∀n,n<=m.length->(OV n).filterMap (λk=>l[i+2*k]?)=m.take n:=λn O=>by
  induction n with
  |zero=>rfl
  |succ n J =>
   rw[Qg,List.filterMap_append,J (by omega),Sd];congr 1;have z:=e n (by omega);have D:m[n]?=Ya m[n]:=OG (by omega);rw[D];show List.filterMap _ [n]=[m[n]]
   rw[Qu,z,D]
   rfl
 rw[gen m.length (ON _),Pc]
namespace HT
open PySem PySem.Spec PyProof.Rows L2
section
variable {prog:Ux}{w:UA}{A:UG}{E:Uj->Uq->Prop}{s:Uq}
theorem xR{O:Um}{i:Int}{U V:XJ}{n:Nat}{Q:Int×Int×Nat->Uq->Prop}(Z:0<=i)(hs:s.heap.IsSliceOf O (.int i U) .none (.int 2 V))
  (h:Q (min i n,2,n+1-i.toNat-(n-i.toNat)/2-1) s):wpAny (model prog w) A (Builtin.Slice.sliceApplied (.ref O) (pure (n:Int))) Q E s:=by
 obtain⟨os,D,hcs,G⟩:=id hs;unfold Builtin.Slice.sliceApplied Builtin.Slice.sliceFields;refine Uh (Uh (UW D G (x:=.int i U) rfl (Uh (UW D G (x:=.none) rfl (Uh (UW D G (x:=.int 2 V) rfl (Ur ?_)))))));refine Uh (slicePart_int ?_);show wpAny _ _ (if((2:Int)==0)=true then _ else _) _ _ s;rw[Uk (by decide)];refine Uh (slicePart_int (Uh (slicePart_none (Uh (Ur ?_)))));show wpAny _ _ (match Builtin.Slice.sliceAdjust (Ya i) none 2 (n:Int)with|(lo,Z)=>pure (lo,(2:Int),Builtin.Slice.slicePlaces lo Z 2)) _ _ s;have e:Builtin.Slice.sliceAdjust (Ya i) none 2 (n:Int)=(min i n,(n:Int)):=by
  have J:¬((2:Int)<0):=by omega
  unfold Builtin.Slice.sliceAdjust;simp only[J,U1];refine R4 ?_ rfl;show(if i<0 then _ else _)=_;rw[Uk (by omega)]
 rw[e];have e2:Builtin.Slice.slicePlaces (min i n) (n:Int) 2=n+1-i.toNat-(n-i.toNat)/2-1:=by
  unfold Builtin.Slice.slicePlaces;have J:(2:Int)>0:=by omega
  simp only[J,VY]
  split <;> omega
 show wpAny _ _ (pure (min i n,(2:Int),Builtin.Slice.slicePlaces (min i n) (n:Int) 2)) _ _ s;rw[e2];exact Ur h
theorem nN{t J:Um}{its:List Uj}{i:Int}{t1 t2:XJ}{Q:Uj->Uq->Prop}(G:XM s.heap t its.toArray)(hi:0<=i)(hs:s.heap.IsSliceOf J (.int i t1) .none (.int 2 t2))
  (h:Q (.ref s.heap.objs.size) { s with heap:=s.heap.push { cls:=.type "tuple",data:=.seq (jg (its.drop i.toNat)).toArray } }) (hsz:its.length<=Uu):wpAny (model prog w) A (Wi (.ref t) (.ref J)) Q E s:=by
 have D:sizeOk (.seq (jg (its.drop i.toNat)).toArray):=by
  show(jg (its.drop i.toNat)).toArray.size<=Uu;rw[OT,lN,Q4];omega
 obtain⟨os,O,U,hds⟩:=id hs;have V:s.TypeIs (.ref J) "slice":=⟨os,O,U⟩
 unfold Wi
 try with_reducible refine UD ?_
 first|refine Uh (Ur ?_)|skip
 refine Uh (wpAny_sequenceKey G.typeIs (by decide) (Uh (wpAny_callSpecial?_slot (name:=Str.ofString "__getitem__") G.typeIs QZ (UM QZ G.typeIs entry_tuple_getitem ?_ (args_tuple_getitem _ _)))));show wpAny _ _ (Builtin.Tuple.tupleItemsOf (.ref t) >>= _) _ _ s;refine Uh (tupleItemsOf_ G (Uh (wpAny_typeOf V ?_)));rw[Uo (by decide)];refine Uh (xR (n:=its.toArray.size) hi hs ?_);have Z:¬((min i (its.toArray.size:Int)==0&&(2:Int)==1&&(its.toArray.size+1-i.toNat-(its.toArray.size-i.toNat)/2-1)==its.toArray.size)=true):=by
  rw[show((2:Int)==1)=false from rfl,RG,Qw];exact O2
 show wpAny _ _ (if(min i (its.toArray.size:Int)==0&&(2:Int)==1&&(its.toArray.size+1-i.toNat-(its.toArray.size-i.toNat)/2-1)==its.toArray.size)=true then _ else _) _ _ s;rw[Uk Z];have pk:((OV (its.toArray.size+1-i.toNat-(its.toArray.size-i.toNat)/2-1)).filterMap λ(k:Nat)=>its.toArray[(min i (its.toArray.size:Int)+(k:Int)*2).toNat]?)=jg (its.drop i.toNat):=by
  rw[OT];by_cases c:i.toNat<=its.length
  .have em:min i (its.length:Int)=i:=by omega
   rw[<-DK its i.toNat,Q4,show its.length-i.toNat+1-(its.length-i.toNat)/2-1=its.length+1-i.toNat-(its.length-i.toNat)/2-1 by omega];congr 1;funext k;rw[em,show(i+(k:Int)*2).toNat=i.toNat+2*k by omega];simp
  rw[show its.length+1-i.toNat-(its.length-i.toNat)/2-1=0 by omega,List.drop_of_length_le (by omega)]
  rfl
 rw[pk]
 first
  |exact Uh (m:=Builtin.Tuple.tupleExact _) (UN (Ur ⟨_,rfl,Ur h⟩) D)
  |exact Uh (m:=Builtin.Tuple.tupleExact _) (UN (Uh (Ur (Ur ⟨_,rfl,Ur h⟩))) D)
  |exact Uh (Uh (m:=Builtin.Tuple.tupleExact _) (UN (Ur (Ur ⟨_,rfl,Ur h⟩)) D))
  |exact Uh (Uh (m:=Builtin.Tuple.tupleExact _) (UN (Ur ⟨_,rfl,Ur h⟩) D))
end
end HT
namespace L2
open PySem PySem.Spec PyProof.Rows
theorem xS:∀{xs:List V}{D:List Uj},Vals xs D->Vals (jg xs) (jg D)
 |_,_,.nil=>.nil
 |_,_,.cons r .nil=>.cons r .nil
 |_,_,.cons r (.cons _ G)=>.cons r (xS G)
section
variable {X:Cx}{e lo st:UL}{te tl ts:TE}{pos p2:VL}
def Jk(K:OJ)(te tl ts:TE):TE:=λσ H Q=>te σ H λx G=>tl σ G λv J=>ts σ J λu D=>∃(a:Um) (xs:List V) (i:Int),x=.ref a/\v=.int i/\u=.int 2/\br K D a xs/\0<=i/\∀p,D p=none->Q (.ref p) (upd D p (.tup (jg (xs.drop i.toNat))))
theorem DL(Z:PE X e te)(hl:PE X lo tl)(hs:PE X st ts):PE X (.Subscript e (.Slice (Ya lo) none (Ya st) p2) pos) (Jk X.K te tl ts):=by
 intro pins s σ H Q I h;refine W0 (cL (Z pins s σ H _ I h) λv s1 G=>?_);obtain⟨x,H1,I1,r1,q1⟩:=G;refine wpAny_Slice ?_;rw[WX,WW,WX];refine cL (hl pins s1 σ H1 _ I1 q1) λvl s2 ⟨l,H2,I2,pl,q2⟩=>Ur (cL (hs pins s2 σ H2 _ I2 q2) λvu D G=>?_);obtain⟨u,H3,I3,pu,q3⟩:=G;obtain⟨a,xs,i,rfl,rfl,rfl,hq,hi,q⟩:=q3;cases r1;obtain⟨O,rfl⟩:=pl;obtain⟨U,rfl⟩:=pu;have J:Inv X pins σ H3 { D with heap:=D.heap.push { cls:=.type "slice",data:=.fields #[.int i O,.none,.int 2 U] } }:=I3.kept (t':=D.toks) λb ob q=>OM _ q;obtain⟨its,r,V,hz⟩:=J.tuple hq;have hlen:=r.length;show wpAny (model X.prog X.w) X.A (Wa e (.Slice (Ya lo) none (Ya st) p2) (.ref a) (.ref D.heap.objs.size)) (EP X pins σ Q) X.xe { D with heap:=D.heap.push { cls:=.type "slice",data:=.fields #[.int i O,.none,.int 2 U] } };refine tail_any (ops:=[.ref a,.ref D.heap.objs.size]) V.typeIs QZ.lookup ?_ (by with_unfolding_all rfl);refine HT.nN V hi (Heap.IsSliceOf.new ..) ?_ (by rw[<- hlen];exact hz);refine⟨.ref _,_,J.laid (t':=D.toks) (o:=.tup (jg (xs.drop i.toNat))) (λb ob q=>OM _ q) (ON _) ?_,rfl,q _ (J.bM.fresh (ON _))⟩;refine⟨?_,_,xS (r.drop i.toNat),IsTup.new _ _⟩;rw[lN,Q4];omega
end
end L2
namespace Th
noncomputable def ch:Nat->Nat->Nat
 |_,0=>1
 |0,_+1=>0
 |n+1,k+1=>ch n k+ch n (k+1)
theorem qC(n:Nat):ch n 0=1:=by cases n <;> rfl
theorem rR:∀n k,(k+1)*ch (n+1) (k+1)=(n+1)*ch n k
 |0,0=>rfl
 |0,k+1=>by show(k+2)*(0+0)=1*0;omega
 |n+1,0=>by
  have h:1*ch (n+1) 1=(n+1)*ch n 0:=rR n 0;show 1*(ch (n+1) 0+ch (n+1) 1)=(n+1+1)*ch (n+1) 0;rw[qC]at h⊢;omega
 |n+1,k+1=>by
  have D:=rR n k;have G:=rR n (k+1);show(k+1+1)*(ch (n+1) (k+1)+ch (n+1) (k+1+1))=(n+1+1)*ch (n+1) (k+1);have e:ch (n+1) (k+1)=ch n k+ch n (k+1):=rfl;rw[TB,G,SU (k+1) 1,D,SU (n+1) 1];rw[Nat.add_right_comm,<-TB,<-e]
theorem DM:∀n k,ch n k<=2 ^ n
 |n,0=>by rw[qC];exact Nat.one_le_two_pow
 |0,k+1=>PH _
 |n+1,k+1=>by
  have D:=DM n k;have G:=DM n (k+1);show ch n k+ch n (k+1)<=2 ^ (n+1);rw[TZ];omega
theorem Gz(s j m:Nat):m*ch (s+j) j*(s+j+1)/(j+1)=m*ch (s+(j+1)) (j+1):=by
 have h:=rR (s+j) j;rw[RA,SE (ch (s+j) j),<-h];show m*((j+1)*ch (s+(j+1)) (j+1))/(j+1)=_;rw[Rk];exact Nat.mul_div_cancel_left _ (Tj j)
noncomputable def jJ:Nat->Nat->List Nat->Nat
 |m,_,[]=>m
 |m,s,l::r=>jJ (m*(ch (s+l) l*(l+1) ^ (l-1))) (s+l) r
theorem oP:∀(D:List Nat) (m s l:Nat),jJ m s (D++[l])=jJ m s D*(ch (s+D.sum+l) l*(l+1) ^ (l-1))
 |[],m,s,l=>rfl
 |x::r,m,s,l=>by
  show jJ _ (s+x) (r++[l])=jJ _ (s+x) r*_;rw[oP,Qe,RR s x]
section
open Classical
variable {N:Nat}{a b:Nat->Nat}
noncomputable def LL(a b:Nat->Nat)(i:Nat):List Nat:=(OV i).filter λm=>decide (bB a b m)
theorem GA(i:Nat):LL a b (i+1)=LL a b i++(if bB a b i then[i]else[]):=by
 unfold LL;rw[Qg,O9];congr 1;by_cases c:bB a b i
 .rw[Uo c,Pe (by simpa using c)];rfl
 rw[Uk c,Pf (by simpa using c)];rfl
theorem Jl(i:Nat):(LL a b i).length<=i:=by
 unfold LL;have z:=Pm (λm=>decide (bB a b m)) (OV i);rwa[OW]at z
theorem Jm{i u:Nat}:u∈LL a b i↔u<i/\bB a b u:=by unfold LL;rw[OZ,OX,Uy]
def cH(a b:Nat->Nat)(x:Nat):Prop:=∃u,aB a b x u/\a u=u
def cZ(a b:Nat->Nat)(x:Nat):Prop:=∃u,aB a b x u/\b u=u
noncomputable def kd(a b:Nat->Nat)(x:Nat):Kd:=if gf a b x then .odd else if cH a b x then .bare else if cZ a b x then .tied else .ring
noncomputable def eG(N:Nat)(a b:Nat->Nat)(x:Nat):List Nat:=(OV N).filter λy=>decide (aB a b x y)
theorem kQ(T:cq N a b){x:Nat}(D:x<N):bU a b x (eG N a b x):=
 ⟨PL.filter _,λy=>by unfold eG;rw[OZ,OX,Uy];exact⟨λh=>h.2,λh=>⟨h.lt T D,h⟩⟩⟩
noncomputable def lack(N:Nat)(a b:Nat->Nat)(x:Nat):Nat:=if kd a b x=.ring then(eG N a b x).length/2-1 else(eG N a b x).length/2
noncomputable def cT(th:Kd×List Nat):Nat:=if th.1=.ring then th.2.length/2-1 else th.2.length/2
theorem xT(T:cq N a b){x y:Nat}(D:x<N)(c:aB a b x y)(z:Nat):aB a b x z↔aB a b y z:=⟨λh=>(c.symm T D).trans h,λh=>c.trans h⟩
theorem AJ(T:cq N a b){x y:Nat}(D:x<N)(c:aB a b x y):kd a b x=kd a b y:=by
 have e:=xT T D c;have e1:gf a b x=gf a b y:=by unfold gf;simp only[e]
 have e2:cH a b x=cH a b y:=by unfold cH;simp only[e]
 have e3:cZ a b x=cZ a b y:=by unfold cZ;simp only[e]
 unfold kd;simp only[e1,e2,e3]
theorem bU.to(T:cq N a b){x y:Nat}{L:List Nat}(D:x<N)(C:bU a b x L)(c:aB a b x y):bU a b y L:=⟨C.nd,λz=>by rw[C.mem,xT T D c]⟩
theorem AK(T:cq N a b){th:Kd×List Nat}(h:th∈pW N a b):∃u,u<N/\bU a b u th.2/\th.1=kd a b u:=by
 rcases OY.mp h with h|h
 .rcases OY.mp h with h|h
  .obtain⟨u,G,rfl⟩:=OO.mp h;obtain⟨G,O⟩:=OZ.mp G;obtain⟨J,au⟩:=dv.mp G;have C0:=bH T.swap J (.inl au);have C:bU a b u (cN b a u):=⟨C0.nd,λy=>by rw[<-ji];exact C0.mem y⟩
   have U:=kK T J C;refine⟨u,J,C,?_⟩;unfold eA kd;by_cases o:(cN b a u).length%2=1
   .simp only[Uo o,Uo (U.mp o)]
   simp only[Uk o,Uk (λz=>o (U.mpr z)),Uo (show cH a b u from⟨u,aB.refl u,au⟩)]
  obtain⟨u,G,rfl⟩:=OO.mp h;obtain⟨G,O⟩:=OZ.mp G;obtain⟨J,Z⟩:=dv.mp G;have O:pB a b u:=Uw O;have C:=bH T J (.inl Z);have U:=kK T J C;refine⟨u,J,C,?_⟩;have V:¬gf a b u:=λz=>by have:=U.mpr z;have:=O.1;omega
  have D:¬cH a b u:=λz=>V ⟨z,u,aB.refl u,Z⟩;unfold eB kd;simp only[Uk V,Uk D,Uo (show cZ a b u from⟨u,aB.refl u,Z⟩)]
 obtain⟨m,hm,rfl⟩:=OO.mp h;obtain⟨m1,m2,m3⟩:=bI.mp hm;refine⟨m,m1,bH T m1 (.inr m3),?_⟩;have D:¬cH a b m:=λ⟨u,h1,h2⟩=>(m3 u h1).1 h2;have noB:¬cZ a b m:=λ⟨u,h1,h2⟩=>(m3 u h1).2 h2;have V:¬gf a b m:=λz=>D z.1;unfold kd;simp only[Uk V,Uk D,Uk noB]
theorem HF(T:cq N a b){th:Kd×List Nat}(h:th∈pW N a b):mn th.2<N/\bB a b (mn th.2)/\th.1=kd a b (mn th.2)/\cT th=lack N a b (mn th.2):=by
 obtain⟨u,D,C,e⟩:=AK T h;obtain⟨c,le⟩:=gI C;have lt:=c.lt T D;have e2:=e.trans (AJ T D c);refine⟨lt,λy G=>le y (c.trans G),e2,?_⟩;unfold cT lack;rw[<-e2,jk (C.to T D c) (kQ T lt)]
theorem Jn(T:cq N a b){m:Nat}(D:m<N)(J:bB a b m):∃th∈pW N a b,mn th.2=m:=by
 have fin:∀th∈pW N a b,m∈th.2->∃th∈pW N a b,mn th.2=m:=λth h G=>by
  obtain⟨u,V,C,e⟩:=AK T h;have c:=(C.mem m).mp G;obtain⟨c2,le⟩:=gI C;have O:=le m c;have U:=J _ ((c.symm T V).trans c2);exact⟨th,h,by omega⟩
 by_cases w:bq a b m
 .exact fin (.ring,cN a b m) (O4 _ (OO.mpr ⟨m,bI.mpr ⟨D,J,w⟩,rfl⟩)) (((bH T D (.inr w)).mem m).mpr (aB.refl m))
 obtain⟨th,O,U⟩:=(oD T D).mpr w;exact fin th (Pn _ O) U
theorem Jo:∀{l m:List Nat},l.Pairwise (· < ·)->m.Pairwise (· < ·)->(∀x,x∈l↔x∈m)->l=m:=λ{l m} h k e =>
 List.Perm.eq_of_pairwise (le:=(· < ·)) (λx y _ _ D G=>Us D (by omega)) h k ((P0 (h.imp (λz=>Pd z)) (k.imp (λz=>Pd z))).mpr e)
theorem BK(T:cq N a b){D:List (Kd×List Nat)}(hp:D.Perm (pW N a b))(hs:D.Pairwise λp q=>mn p.2<mn q.2) :
  D.map (λth=>mn th.2)=LL a b N:=by
 refine Jo (Px.mpr hs) ((QN).filter _) λx=>?_;rw[OO,Jm];constructor
 .rintro⟨th,h,rfl⟩;obtain⟨G,J,_⟩:=HF T (hp.mem_iff.mp h);exact⟨G,J⟩
 rintro⟨G,J⟩;obtain⟨th,O,U⟩:=Jn T G J;exact⟨th,hp.mem_iff.mpr O,U⟩
theorem BL(T:cq N a b){D:List (Kd×List Nat)}(hp:D.Perm (pW N a b))(hs:D.Pairwise λp q=>mn p.2<mn q.2) :
  D.map (λth=>(th.1,cT th))=(LL a b N).map λm=>(kd a b m,lack N a b m):=by
 rw[<-BK T hp hs,Pp];refine PB λth h=>?_;obtain⟨_,_,G,J⟩:=HF T (hp.mem_iff.mp h);show(th.1,cT th)=(kd a b (mn th.2),lack N a b (mn th.2))
 rw[G,J]
theorem uh(T:cq N a b){x:Nat}(V:x<N){L:List Nat}(C:bU a b x L)(Z:¬gf a b x):(L.filter λy=>decide (a y=y)).length=2↔cH a b x:=by
 constructor
 .intro h;cases e:L.filter λy=>decide (a y=y)with
  |nil=>rw[e]at h;cases h
  |cons y r =>
   have hy:y∈L.filter λy=>decide (a y=y):=by rw[e];exact O1
   obtain⟨G,J⟩:=OZ.mp hy;exact⟨y,(C.mem y).mp G,Uw J⟩
 rintro⟨u,D,O⟩;have U:=D.lt T V;obtain⟨v,v1,v2,v3,v4⟩:=nr T U O (λ⟨z,z1,z2⟩=>Z ⟨⟨u,D,O⟩,z,D.trans z1,z2⟩);have nd:(L.filter λy=>decide (a y=y)).Nodup:=C.nd.filter _;have me:∀y,y∈(L.filter λy=>decide (a y=y))↔y∈[u,v]:=λy=>by
  rw[OZ,C.mem,Uy,Pa,OS];constructor
  .rintro⟨G,J⟩;exact v4 y ((D.symm T V).trans G) J
  rintro(rfl|rfl)
  .exact⟨D,O⟩
  exact⟨D.trans v2,v3⟩
 have z:=((P0 nd (by simp[v1.symm])).mpr me).length_eq;exact z
theorem gf.swap{x:Nat}(h:gf a b x):gf b a x:=let⟨⟨u,D,G⟩,z,J,O⟩:=h;⟨⟨z,J.swap,O⟩,u,D.swap,G⟩
theorem zf(T:cq N a b){x:Nat}(J:x<N){L:List Nat}(C:bU a b x L)(O:¬gf a b x):(L.filter λy=>decide (b y=y)).length=2↔cZ a b x:=by
 have z:=uh T.swap J (L:=L) ⟨C.nd,λy=>by rw[C.mem,ji]⟩ (λz=>O z.swap);rw[z];exact⟨λ⟨u,D,G⟩=>⟨u,D.swap,G⟩,λ⟨u,D,G⟩=>⟨u,D.swap,G⟩⟩
end
open Classical
noncomputable def ord(x y:Nat):Nat×Nat:=(min x y,max x y)
theorem gk{x y u v:Nat}(h:ord x y=ord u v):(x=u/\y=v)\/(x=v/\y=u):=by
 unfold ord at h;injection h with D G;omega
theorem Jp(x y:Nat):(ord x y).1<=(ord x y).2:=by unfold ord;simp only;omega
theorem eC{p q:Nat}(h:p<=q):ord p q=(p,q):=by unfold ord;rw[SD h,QQ h]
theorem gn(x y:Nat):ord x y=ord y x:=by unfold ord;rw[Nat.min_comm,Nat.max_comm]
noncomputable def ij(L:List Nat)(i:Nat):List (Nat×Nat):=(OV i).flatMap λm=>(jg (L.drop (m+1))).map (ord (L.getD m 0))
noncomputable def bZ(L:List Nat):List (Nat×Nat):=ij L L.length
noncomputable def aV(D:List (Kd×List Nat))(k:Kd):List Nat:=(D.filter λth=>th.1=k).flatMap (·.2)
noncomputable def c6(B S:List Nat):List (Nat×Nat):=B.flatMap λe=>S.map (ord e)
noncomputable def cU(D:List (Kd×List Nat)):List (Nat×Nat):=c6 (aV D .bare) (aV D .tied)++D.flatMap (λth=>bZ th.2)++(aV D .tied).map λe=>(e,e)
theorem kR{α β:Type}(f:α->List β)(c:Nat):∀l:List α,(∀x∈l,(f x).length<=c)->(l.flatMap f).length<=l.length*c
 |[],_=>PH _
 |x::r,h=>by
  rw[QI,OQ,Ph,SU,TC];have G:=h x O1;have J:=kR f c r λy D=>h y (O0 _ D);omega
theorem xU(L:List Nat)(i:Nat):(ij L i).length<=i*L.length:=by
 unfold ij;have z:=kR (λm=>(jg (L.drop (m+1))).map (ord (L.getD m 0))) L.length (OV i) λm _=>by
  rw[OH,lN,Q4];omega (config:={})
 rwa[OW]at z
theorem ui(B S:List Nat):(c6 B S).length<=B.length*S.length:=kR _ _ _ λx _=>by rw[OH];exact ON _
theorem zg{B S:List Nat}{x:Nat}:c6 (B++[x]) S=c6 B S++S.map (ord x):=by
 unfold c6;rw[Q3,QI,RM,Pj]
theorem vA{L:List Nat}{i x:Nat}(h:L[i]?=Ya x):ij L (i+1)=ij L i++(jg (L.drop (i+1))).map (ord x):=by
 unfold ij;rw[Qg,Q3];congr 1;rw[QI,RM,Pj];have e:L.getD i 0=x:=by rw[Ql,h];rfl
 rw[e]
theorem rS{L:List Nat}{i y:Nat}:y∈jg (L.drop (i+1))↔∃j,i<j/\(j-i)%2=1/\L[j]?=Ya y:=by
 rw[Qq];constructor
 .rintro⟨k,D⟩;rw[nM,Rz]at D;exact⟨i+1+2*k,by omega,by omega,D⟩
 rintro⟨j,J,O,G⟩;refine⟨(j-i-1)/2,?_⟩;rw[nM,Rz,show i+1+2*((j-i-1)/2)=j by omega];exact G
theorem dz{L:List Nat}{c:Nat×Nat}:c∈bZ L↔∃i j x y,i<j/\(j-i)%2=1/\L[i]?=Ya x/\L[j]?=Ya y/\c=ord x y:=by
 unfold bZ ij;rw[QR];constructor
 .rintro⟨i,D,U⟩;obtain⟨y,V,rfl⟩:=OO.mp U;obtain⟨j,J,O,G⟩:=rS.mp V;have D:=OX.mp D;exact⟨i,j,L.getD i 0,y,J,O,by rw[Ql,OG D];rfl,G,rfl⟩
 rintro⟨i,j,x,y,J,O,G,Z,rfl⟩;have D:=(OI.mp G).1;refine⟨i,OX.mpr D,OO.mpr ⟨y,rS.mpr ⟨j,J,O,Z⟩,?_⟩⟩;rw[Ql,G];rfl
theorem bj{D:List (Kd×List Nat)}{k:Kd}{x:Nat}:x∈aV D k↔∃th∈D,th.1=k/\x∈th.2:=by
 unfold aV;rw[QR];constructor
 .rintro⟨th,G,J⟩;obtain⟨O,U⟩:=OZ.mp G;exact⟨th,O,Uw U,J⟩
 rintro⟨th,G,J,O⟩;exact⟨th,OZ.mpr ⟨G,Ul J⟩,O⟩
theorem iy{B S:List Nat}{c:Nat×Nat}:c∈c6 B S↔∃x∈B,∃y∈S,c=ord x y:=by
 unfold c6;rw[QR];constructor
 .rintro⟨x,D,J⟩;obtain⟨y,G,rfl⟩:=OO.mp J;exact⟨x,D,y,G,rfl⟩
 rintro⟨x,D,y,G,rfl⟩;exact⟨x,D,OO.mpr ⟨y,G,rfl⟩⟩
theorem gD{D:List (Kd×List Nat)}{c:Nat×Nat}:c∈cU D↔(∃x∈aV D .bare,∃y∈aV D .tied,c=ord x y)\/(∃th∈D,c∈bZ th.2)\/∃x∈aV D .tied,c=(x,x):=by
 unfold cU;rw[OY,OY,iy,QR,OO];constructor
 .rintro((h|h)|⟨x,G,J⟩)
  .exact .inl h
  .exact .inr (.inl h)
  exact .inr (.inr ⟨x,G,J.symm⟩)
 rintro(h|h|⟨x,G,J⟩)
 .exact .inl (.inl h)
 .exact .inl (.inr h)
 exact .inr ⟨x,G,J.symm⟩
section
variable {N:Nat}{a b:Nat->Nat}{bf:List (Kd×List Nat)}
structure fK(N:Nat) (a b:Nat->Nat) (bf:List (Kd×List Nat)):Prop where
 T:cq N a b
 hp:bf.Perm (pW N a b)
 hs:bf.Pairwise λp q=>mn p.2<mn q.2
theorem fK.good(A:fK N a b bf){th:Kd×List Nat}(h:th∈bf):cj N a b th.1 th.2:=vx A.T (A.hp.mem_iff.mp h)
theorem fK.comp(A:fK N a b bf){th:Kd×List Nat}(h:th∈bf):∃u,u<N/\bU a b u th.2:=lI A.T (A.hp.mem_iff.mp h)
theorem fK.mem(A:fK N a b bf){p:Nat}(hp:p<N):∃th∈bf,p∈th.2:=by
 have z:=(AG A.T A.hp).mem_iff.mpr (OX.mpr hp);obtain⟨L,D,G⟩:=Sn.mp z;obtain⟨th,J,rfl⟩:=OO.mp D;exact⟨th,J,G⟩
theorem fK.conn(A:fK N a b bf){s t:Kd×List Nat}(hs:s∈bf)(J:t∈bf){p q:Nat}(h1:p∈s.2)(h2:q∈t.2)(c:aB a b p q):s=t:=by
 obtain⟨u,O,C⟩:=A.comp hs;obtain⟨v,vl,D⟩:=A.comp J;have G:=(C.mem p).mp h1;have U:=(D.mem q).mp h2;have e:mn s.2=mn t.2:=by
  obtain⟨m1,m2⟩:=gI C;obtain⟨m3,m4⟩:=gI D;have x1:=m2 _ (G.trans (c.trans ((U.symm A.T vl).trans m3)));have x2:=m4 _ (U.trans ((c.symm A.T (G.lt A.T O)).trans ((G.symm A.T O).trans m1)));omega
 obtain⟨i,V,rfl⟩:=Rr hs;obtain⟨j,Z,rfl⟩:=Rr J;have pw:=Qx.mp A.hs;rcases Nat.lt_trichotomy i j with h|h|h
 .have:=pw i j V Z h;omega
 .subst h;rfl
 have:=pw j i Z V h;omega
theorem fK.same(A:fK N a b bf){s t:Kd×List Nat}(hs:s∈bf)(D:t∈bf){p:Nat}(G:p∈s.2)(J:p∈t.2):s=t:=A.conn hs D G J (aB.refl p)
theorem fK.LW(A:fK N a b bf){s:Kd×List Nat}(hs:s∈bf){p:Nat}(D:p∈s.2):a p∈s.2:=by
 obtain⟨u,G,C⟩:=A.comp hs;exact(C.mem _).mpr ((C.mem p).mp D).sf
theorem fK.lt(A:fK N a b bf){s:Kd×List Nat}(hs:s∈bf){p:Nat}(D:p∈s.2):p<N:=(A.good hs).lt p D
theorem fK.near(A:fK N a b bf){p q:Nat}(h1:p<=q)(h2:q<N)(hf:a p≠q){a2:Nat->Nat}(hb:∀x,x<N->a2 x=aI.cE a p q x):(p,q)∈cU bf↔(score a2 b N:Int)-score a b N=2:=by
 obtain⟨s,hs,ps⟩:=A.mem (show p<N by omega);obtain⟨t,ht,qt⟩:=A.mem h2;obtain⟨i,hi⟩:=Qq.mp ps;obtain⟨j,hj⟩:=Qq.mp qt;rw[gD];by_cases e:p=q
 .subst e;rw[DJ A.T (A.good hs) hi hf hb];constructor
  .rintro(⟨x,U,y,hy,h⟩|⟨th,D,h⟩|⟨x,U,h⟩)
   .exfalso;rw[<-eC (ON p)]at h;have Nx:x=p/\y=p:=by rcases gk h with⟨J,O⟩|⟨J,O⟩ <;> exact⟨by omega,by omega⟩
    obtain⟨th,t1,t2,t3⟩:=bj.mp U;obtain⟨Ny,Jq,V,Z⟩:=bj.mp hy;rw[Nx.1]at t3;rw[Nx.2]at Z;have:=A.same t1 Jq t3 Z;subst this;rw[t2]at V;cases V
   .exfalso;obtain⟨m,n,x,y,g1,g2,g3,g4,g5⟩:=dz.mp h;rw[<-eC (ON p)]at g5;have Nx:x=y:=by rcases gk g5 with⟨J,O⟩|⟨J,O⟩ <;> omega
    rw[Nx]at g3;have:=(A.good D).one g3 g4;omega
   have ex:p=x:=congrArg TX h;obtain⟨th,t1,t2,t3⟩:=bj.mp U;rw[<-ex]at t3;have:=A.same hs t1 ps t3;rw[this];exact t2
  intro k;exact .inr (.inr ⟨p,bj.mpr ⟨s,hs,k,ps⟩,rfl⟩)
 have ho:=eC h1;by_cases st:s=t
 .subst st;have G:=A.good hs;have nij:i≠j:=λz=>by rw[z,hj]at hi;exact e (Option.some.inj hi).symm
  have key:(score a2 b N:Int)-score a b N=2↔(turn s.1+i)%2≠(turn s.1+j)%2:=by
   rcases S7 nij with h|h
   .exact xP A.T G hi hj h hf hb
   have hf':a q≠p:=λz=>hf (by rw[<-z];exact A.T.ff q h2);have z:=xP A.T G hj hi h hf' (a2:=a2) (λx U=>by rw[hb x U];exact lM e x);rw[z];exact⟨λy w=>y w.symm,λy w=>y w.symm⟩
  rw[key];constructor
  .rintro(⟨x,U,y,hy,h⟩|⟨th,D,h⟩|⟨x,U,h⟩)
   .exfalso;rw[<-ho]at h;obtain⟨th,t1,t2,t3⟩:=bj.mp U;obtain⟨Ny,Jq,V,Z⟩:=bj.mp hy;have:th=s/\Ny=s:=by
     rcases gk h with⟨J,O⟩|⟨J,O⟩
     .exact⟨A.same t1 hs t3 (J▸ps),A.same Jq hs Z (O▸qt)⟩
     exact⟨A.same t1 hs t3 (O▸qt),A.same Jq hs Z (J▸ps)⟩
    rw[this.1]at t2;rw[this.2,t2]at V;cases V
   .obtain⟨m,n,x,y,g1,g2,g3,g4,g5⟩:=dz.mp h;rw[<-ho]at g5;rcases gk g5 with⟨J,O⟩|⟨J,O⟩
    .subst J O;have:=A.same D hs (OP g3) ps;subst this;have:=G.one g3 hi;have:=G.one g4 hj;omega
    subst J O;have:=A.same D hs (OP g4) ps;subst this;have:=G.one g4 hi;have:=G.one g3 hj;omega
   exfalso;have e1:p=x:=congrArg TX h;have e2:q=x:=congrArg Prod.snd h;omega
  intro h;refine .inr (.inl ⟨s,hs,dz.mpr ?_⟩);rcases S7 nij with g|g
  .exact⟨i,j,p,q,g,by omega,hi,hj,ho.symm⟩
  exact⟨j,i,q,p,g,by omega,hj,hi,by rw[gn];exact ho.symm⟩
 have nc:¬aB a b p q:=λc=>st (A.conn hs ht ps qt c);have d1:∀x∈s.2,x≠q/\x≠a q:=λx U=>⟨λz=>st (A.same hs ht U (by rw[z];exact qt)),λz=>st (A.same hs ht U (by rw[z];exact A.LW ht qt))⟩
 have d2:∀x∈t.2,x≠p/\x≠a p:=λx U=>⟨λz=>st (A.same (p:=p) hs ht ps (z▸U)),λz=>st (A.same hs ht (by rw[z];exact A.LW hs ps) U)⟩
 rw[BI A.T (A.good hs) (A.good ht) hi hj nc d1 d2 hb];constructor
 .rintro(⟨x,U,y,hy,h⟩|⟨th,D,h⟩|⟨x,U,h⟩)
  .rw[<-ho]at h;obtain⟨th,t1,t2,t3⟩:=bj.mp U;obtain⟨Ny,Jq,V,Z⟩:=bj.mp hy;rcases gk h with⟨J,O⟩|⟨J,O⟩
   .have w1:=A.same t1 hs t3 (J▸ps);have w2:=A.same Jq ht Z (O▸qt);exact .inl ⟨by rw[<-w1];exact t2,by rw[<-w2];exact V⟩
   have w1:=A.same t1 ht t3 (O▸qt);have w2:=A.same Jq hs Z (J▸ps);exact .inr ⟨by rw[<-w2];exact V,by rw[<-w1];exact t2⟩
  .exfalso;obtain⟨m,n,x,y,g1,g2,g3,g4,g5⟩:=dz.mp h;rw[<-ho]at g5;have m1:=OP g3;have m2:=OP g4;rcases gk g5 with⟨J,O⟩|⟨J,O⟩
   .subst J O;exact st ((A.same D hs m1 ps).symm.trans (A.same D ht m2 qt))
   subst J O;exact st ((A.same D hs m2 ps).symm.trans (A.same D ht m1 qt))
  exfalso;have e1:p=x:=congrArg TX h;have e2:q=x:=congrArg Prod.snd h;omega
 rintro(⟨k1,k2⟩|⟨k1,k2⟩)
 .exact .inl ⟨p,bj.mpr ⟨s,hs,k1,ps⟩,q,bj.mpr ⟨t,ht,k2,qt⟩,ho.symm⟩
 exact .inl ⟨q,bj.mpr ⟨t,ht,k2,qt⟩,p,bj.mpr ⟨s,hs,k1,ps⟩,by rw[gn];exact ho.symm⟩
theorem fK.apart(A:fK N a b bf)(f:Kd×List Nat->Bool):(bf.filter f).Pairwise λs t=>∀x∈s.2,∀y∈t.2,x≠y:=by
 refine List.Pairwise.imp_of_mem (λ{s t} hs D h x G y J e=>?_) (A.hs.filter f);have:=A.same (OZ.mp hs).1 (OZ.mp D).1 G (e▸J);subst this;omega
theorem fK.lO(A:fK N a b bf)(k:Kd):(aV bf k).Nodup:=by
 unfold aV;rw[Pb,QC];exact⟨λth D=>Pb.mp (A.good (OZ.mp D).1).nd,A.apart _⟩
theorem fK.DN(A:fK N a b bf){x y:Nat}(O:x∈aV bf .bare)(U:y∈aV bf .tied):x≠y:=λe=>by
 obtain⟨th,V,Z,t3⟩:=bj.mp O;obtain⟨Ny,G,D,J⟩:=bj.mp U;have:=A.same V G t3 (e▸J);subst this;rw[Z]at D;cases D
theorem DO{L:List Nat}(nd:L.Nodup):(bZ L).Nodup:=by
 have one:∀{i j x:Nat},L[i]?=Ya x->L[j]?=Ya x->i=j:=λ{i j x} h1 h2=>by
  obtain⟨l1,e1⟩:=OI.mp h1;obtain⟨l2,e2⟩:=OI.mp h2;exact(Sk nd).mp (e1.trans e2.symm)
 have gd:∀{m:Nat},m<L.length->L[m]?=Ya (L.getD m 0):=λ{m} h=>by rw[Ql,OG h];rfl
 unfold bZ ij;rw[Pb,QC];constructor
 .intro m D;have D:=OX.mp D;rw[Px];have ne:(jg (L.drop (m+1))).Nodup:=by
   rw[Pb];refine Qx.mpr λi j hi hj y4 e=>?_;have J:(jg (L.drop (m+1)))[i]?=Ya (jg (L.drop (m+1)))[i]:=OG hi;have V:(jg (L.drop (m+1)))[j]?=Ya (jg (L.drop (m+1)))[j]:=OG hj;rw[nM,Rz]at J V;rw[e]at J;have:=one J V;omega
  refine List.Pairwise.imp_of_mem (λ{x y} O Z h e=>?_) (Pb.mp ne);obtain⟨j,j1,_,G⟩:=rS.mp O;rcases gk e with⟨_,z⟩|⟨z1,z2⟩
  .exact h z
  rw[z2]at G;have:=one G (gd D);omega
 refine List.Pairwise.imp_of_mem (λ{m n} D U h c hc d hd e=>?_) (QN (n:=L.length));have D:=OX.mp D;have U:=OX.mp U;obtain⟨x,O,rfl⟩:=OO.mp hc;obtain⟨y,Z,rfl⟩:=OO.mp hd;obtain⟨i,i1,_,i3⟩:=rS.mp O;obtain⟨j,j1,_,G⟩:=rS.mp Z;rcases gk e with⟨z,_⟩|⟨z1,z2⟩
 .have g:=gd D;rw[z]at g;have:=one g (gd U);omega
 have g:=gd D;rw[z1]at g;have:=one g G;omega
theorem fK.nodup(A:fK N a b bf):(cU bf).Nodup:=by
 unfold cU;refine PY.mpr ⟨PY.mpr ⟨?_,?_,?_⟩,?_,?_⟩
 .unfold c6;rw[Pb,QC];constructor
  .intro x J;rw[Px];refine List.Pairwise.imp_of_mem (λ{y z} Z hz h e=>?_) (Pb.mp (A.lO .tied));rcases gk e with⟨_,w⟩|⟨w,_⟩
   .exact h w
   exact A.DN J hz w
  refine List.Pairwise.imp_of_mem (λ{x y} J Z h c G d hd e=>?_) (Pb.mp (A.lO .bare));obtain⟨u,hu,rfl⟩:=OO.mp G;obtain⟨v,hv,rfl⟩:=OO.mp hd;rcases gk e with⟨w,_⟩|⟨w,_⟩
  .exact h w
  exact A.DN J hv w
 .rw[Pb,QC];refine⟨λth D=>Pb.mp (DO (A.good D).nd),?_⟩;refine List.Pairwise.imp_of_mem (λ{s t} hs ht h c G d hd e=>?_) A.hs;obtain⟨i,j,x,y,_,_,V,g4,rfl⟩:=dz.mp G;obtain⟨i',j',x',y',_,_,g3',g4',rfl⟩:=dz.mp hd;have m1:=OP V;have eq:s=t:=by
   rcases gk e with⟨w,_⟩|⟨w,_⟩
   .exact A.same hs ht m1 (w▸OP g3')
   exact A.same hs ht m1 (w▸OP g4')
  subst eq;omega
 .intro c G d hd e;subst e;obtain⟨x,J,y,Z,h⟩:=iy.mp G;obtain⟨th,D,hs⟩:=QR.mp hd;obtain⟨i,j,u,v,_,_,V,g4,rfl⟩:=dz.mp hs;obtain⟨t1,a1,a2,a3⟩:=bj.mp J;obtain⟨t2,b1,b2,b3⟩:=bj.mp Z;have mu:=OP V;have mv:=OP g4;have w:t1=th/\t2=th:=by
   rcases gk h with⟨O,U⟩|⟨O,U⟩
   .exact⟨A.same a1 D a3 (O▸mu),A.same b1 D b3 (U▸mv)⟩
   exact⟨A.same a1 D a3 (U▸mv),A.same b1 D b3 (O▸mu)⟩
  rw[w.1]at a2;rw[w.2,a2]at b2;cases b2
 .rw[Pb,Px];exact(Pb.mp (A.lO .tied)).imp λh e=>h (congrArg TX e)
 intro c G d hd e;subst e;obtain⟨z,hz,rfl⟩:=OO.mp hd;rcases OY.mp G with G|G
 .obtain⟨x,J,y,Z,h⟩:=iy.mp G;have ho:=eC (ON z);rw[<-ho]at h;refine A.DN J Z ?_;rcases gk h with⟨O,U⟩|⟨O,U⟩ <;> omega
 obtain⟨th,D,hs⟩:=QR.mp G;obtain⟨i,j,u,v,h1,_,V,g4,h⟩:=dz.mp hs;have ho:=eC (ON z);rw[<-ho]at h;have euv:u=v:=by rcases gk h with⟨O,U⟩|⟨O,U⟩ <;> omega
 rw[euv]at V;have:=(A.good D).one V g4;omega
theorem fK.bound(A:fK N a b bf){c:Nat×Nat}(h:c∈cU bf):c.1<=c.2/\c.2<N:=by
 have U:∀{x y:Nat},x<N->y<N->(ord x y).1<=(ord x y).2/\(ord x y).2<N:=λ{x y} G V=>⟨Jp x y,by unfold ord;simp only;omega⟩
 rcases gD.mp h with⟨x,G,y,V,rfl⟩|⟨th,D,h⟩|⟨x,G,rfl⟩
 .obtain⟨t1,Z,a2,a3⟩:=bj.mp G;obtain⟨t2,J,b2,O⟩:=bj.mp V;exact U (A.lt Z a3) (A.lt J O)
 .obtain⟨i,j,u,v,_,_,g3,g4,rfl⟩:=dz.mp h;exact U (A.lt D (OP g3)) (A.lt D (OP g4))
 obtain⟨t2,J,b2,O⟩:=bj.mp G;exact⟨ON _,A.lt J O⟩
end
end Th
namespace aI
open PySem L2
variable (K:OJ)
theorem bW.flat{n:Nat}{ms os:List Nat}{D:List (Th.Kd×List Nat)}(W:ak n ms)(G:ak n os)(h:bW n ms os D):(D.map (·.2)).flatten.Perm (OV (2*n)):=Th.AG (bJ W G) h.1
theorem bW.good{n:Nat}{ms os:List Nat}{D:List (Th.Kd×List Nat)}(W:ak n ms)(G:ak n os)(h:bW n ms os D){th:Th.Kd×List Nat}(J:th∈D):Th.cj (2*n) (ar ms) (ar os) th.1 th.2:=Th.vx (bJ W G) (h.1.mem_iff.mp J)
theorem nK.at{H:Hp}{l:Um}{D:List (Th.Kd×List Nat)}(h:nK H l D):∃G:List Um,H l=Ya (.lst (G.map V.ref))/\G.length=D.length/\∀(i:Nat) (th:Th.Kd×List Nat),D[i]?=Ya th->∃t e:Um,G[i]?=Ya t/\H t=Ya (.tup [.str (ks th.1),.ref e])/\H e=Ya (.tup (nV th.2)):=by
 obtain⟨xs,⟨G,h1,U,h3⟩,h4,rfl⟩:=h;refine⟨G,h1,by rw[OH];exact U,λi th J=>?_⟩;rw[OR]at J;cases O:xs[i]? with
 |none=>rw[O]at J;cases J
 |some x =>
  rw[O]at J;obtain rfl:=Option.some.inj J;have Z:i<G.length:=by rw[U];exact(OI.mp O).1
  exact⟨G[i],x.2.1,OG Z,h3 i _ x (OG Z) O,h4 x (OP O)⟩
end aI
set_option maxHeartbeats 1000000
namespace PySem.SeqAt
open AutoSeq1 (wpAny_loadPart')
open MeetsSeq MeetsSeq2 MeetsSeq3 SeqRoads2
theorem BM(l m:Um)(a b c d:Int)(t1 t2 t3 t4:XJ)(n n2:Nat)(dd G:Option Um)(sl J:Array (Option Uj)) :
  Meets (Builtin.«tuple.__lt__» ⟨[.ref l,.ref m],[]⟩)
   (λA R s=>s.heap.get? l=Ya { cls:=.type "tuple",dict:=dd,data:=.seq #[.int a t1,.int b t2] n,slots:=sl }/\s.heap.get? m=Ya { cls:=.type "tuple",dict:=G,data:=.seq #[.int c t3,.int d t4] n2,slots:=J } /\
    R (.ok (.ret (.bool (decide (a<c\/a=c/\b<d))))) s):=
 .of_wp λprog w A R s h=>by
  obtain⟨hp,g,dr,tk,os⟩:=s;obtain⟨O,U,h⟩:=h;have f2:=AutoSeq1.sub_tuple_tuple;have Z:∀(x y:Int) (u v:XJ) (V:Uj->Uq->Prop) (E':Uj->Uq->Prop) (s':Uq),V (.bool (decide (x<y))) s'->wpAny (model prog w) A.in1 (VQ .Lt (.int x u) (.int y v)) V E' s':=λx y u v V E' s' q=>wpAny_lt_int q;by_cases e1:a=c
  .have g1:(a==c)=true:=beq_iff_eq.mpr e1;by_cases e2:b=d
   .have g2:(b==d)=true:=beq_iff_eq.mpr e2;have D:decide (a<c\/a=c/\b<d)=false:=Up (by omega);rw[D]at h
    wp_walk using UK O,UK U,U7
    exact⟨_,rfl,h⟩
   have g2:(b==d)=false:=beq_eq_false_iff_ne.mpr e2;have D:decide (a<c\/a=c/\b<d)=decide (b<d):=decide_eq_decide.mpr (by omega);rw[D]at h
   wp_walk using UK O,UK U,U7,Z
   exact⟨_,rfl,h⟩
  have g1:(a==c)=false:=beq_eq_false_iff_ne.mpr e1;have D:decide (a<c\/a=c/\b<d)=decide (a<c):=decide_eq_decide.mpr (by omega);rw[D]at h
  wp_walk using UK O,UK U,U7,Z
  exact⟨_,rfl,h⟩
theorem Jr{prog:Ux}{w:UA}{A:UG}{s:Uq}{E:Uj->Uq->Prop}{Q:Uj->Uq->Prop}{l m:Um}{a b c d:Int}{J O U V:XJ}(hl:s.heap.IsTuple l #[.int a J,.int b O])(hb:s.heap.IsTuple m #[.int c U,.int d V])(hu:A.units<cLine)
  (h:Q (.bool (decide (a<c\/a=c/\b<d))) s):wpAny (model prog w) A (VQ .Lt (.ref l) (.ref m)) Q E s:=by
 obtain⟨⟨cl,d1,da,sl⟩,Z,rfl,n,rfl⟩:=id hl;obtain⟨⟨cl2,d2,da2,G⟩,D,rfl,n2,rfl⟩:=id hb;exact Wk (op:=.Lt) ⟨_,Z,rfl⟩ ⟨_,D,rfl⟩ F.slot_tuple_lt F.entry_tuple_lt (F.args_tuple_lt_2 _ _) (BM l m a b c d J O U V n n2 d1 d2 sl G)
  ⟨Z,D,show Value.bool (decide (a<c\/a=c/\b<d))≠Value.notImplemented/\Q (.bool (decide (a<c\/a=c/\b<d))) s from⟨(λx=>nomatch x),h⟩⟩ hu
end PySem.SeqAt
set_option maxHeartbeats 1000000
namespace PySem
section
variable {prog:Ux}{w:UA}{A:UG}{E:Uj->Uq->Prop}{s:Uq}
theorem BN{I L:Um}{fp O:List Um}{St:Nat->UH->Prop}{x y:Uj}{r:Bool}{R:Result->Uq->Prop}{z:Uq}{c:Nat}(W:Walks prog w A.in1 I fp O 2 (λi v=>(#[x,y]:Array Uj)[i]?=Ya v) St)(nL:L∉fp)(st:St 0 z.heap)
  (hL:z.heap.get? L=Ya { cls:=.type "list",dict:=none,data:=.seq #[] c,slots:=#[] })
  (Z:∀(h':UH) (tk:Nat) (E':Uj->Uq->Prop) (Q':Uj->Uq->Prop),(∀q o,q∉O->q≠L->z.heap.get? q=Ya o->h'.get? q=Ya o)->Q' (.bool r) { z with heap:=h',toks:=tk }->wpAny (model prog w) A.in1 (VQ .Lt y x) Q' E' { z with heap:=h',toks:=tk })
  (hR:∀h' tk,(∀q o,q∉O->q≠L->z.heap.get? q=Ya o->h'.get? q=Ya o)->R (.ok (.ret (if r=true then y else x))) { z with heap:=h',toks:=tk }) :
  VX (model prog w) A (.builtin "min.loop" ⟨[.ref I,.none,.ref L],[]⟩) R z:=by
 have nm:(toString "min" ++ toString ".loop":String) = "min.loop":=by decide
 have nw:L∉O:=λq=>nL (W.sub _ q);have fin:∀(v:Uj) (D:UH) (k1 c1:Nat),St 2 D->D.get? L=Ya { cls:=.type "list",dict:=none,data:=.seq #[v,v] c1,slots:=#[] }->(∀q o,q∉O->q≠L->z.heap.get? q=Ya o->D.get? q=Ya o)->v=(if r=true then y else x) ->
   VX (model prog w) A (.builtin "min.loop" ⟨[.ref I,.none,.ref L],[]⟩) R { z with heap:=D,toks:=k1 }:=λv D k1 c1 s1 l1 kp ev=>by
  refine Vm F.entry_min_loop ?_;rw[Around.under_plainId F.plain_min_loop _];show wpAny _ A.in1 (seqItems? (.ref L) >>= _) _ _ { z with heap:=D,toks:=k1 };refine Uh (Vg l1 rfl ?_);show wpAny _ A.in1 (tryCatch (pyNext (.ref I)) _ >>= _) _ _ { z with heap:=D,toks:=k1 };refine Uh (V5 (W.done _ _ _ s1 λh2 k2 kq=>?_));have l2:=kq L _ nw l1;show wpAny _ A.in1 (updateSeq L (λ_=>#[]) >>= _) _ _ _;refine Uh (VT l2 rfl (Uh (VR (Ur ?_))));rw[ev];exact hR _ k2 λq o G J e=>(Qc _ _ (Ne.symm J)).trans (kq q o G (kp q o G J e))
 refine Vm F.entry_min_loop ?_;rw[Around.under_plainId F.plain_min_loop _];show wpAny _ A.in1 (seqItems? (.ref L) >>= _) _ _ z;refine Uh (Vg hL rfl ?_);show wpAny _ A.in1 (tryCatch (pyNext (.ref I)) _ >>= _) _ _ z;refine Uh (V5 (W.item 0 z _ _ (by decide) st λv D k1 pv s1 kq=>?_));obtain rfl:v=x:=(Option.some.inj pv).symm;have l1:=kq L _ nw hL;show wpAny _ A.in1 (updateSeq L (λ_=>#[v,v]) >>= _) _ _ _;refine Uh (VT l1 rfl ?_);rw[nm];refine Ur ⟨VP F.plain_min_loop _,Vm F.entry_min_loop ?_⟩;rw[Around.under_plainId F.plain_min_loop _];obtain⟨c2,l2⟩:∃c2,(D.update L (Obj.mapSeq λ_=>#[v,v])).get? L=Ya { cls:=.type "list",dict:=none,data:=.seq #[v,v] c2,slots:=#[] }:=⟨_,RS l1 λ_=>#[v,v]⟩
 have s2:St 1 _:=W.frame 1 D (D.update L (Obj.mapSeq λ_=>#[v,v])) s1 λq hq o e=>(Qc _ _ (λu:L=q=>nL (by rw[u];exact hq))).trans e;have kp2:∀q o,q∉O->q≠L->z.heap.get? q=Ya o->(D.update L (Obj.mapSeq λ_=>#[v,v])).get? q=Ya o:=λq o G J e=>(Qc _ _ (Ne.symm J)).trans (kq q o G e);show wpAny (model prog w) A.in1 _ _ _ { z with heap:=D.update L (Obj.mapSeq λ_=>#[v,v]),toks:=k1 };generalize D.update L (Obj.mapSeq λ_=>#[v,v])=h2 at l2 s2 kp2;show wpAny _ A.in1 (seqItems? (.ref L) >>= _) _ _ { z with heap:=h2,toks:=k1 };refine Uh (Vg l2 rfl ?_);show wpAny _ A.in1 (tryCatch (pyNext (.ref I)) _ >>= _) _ _ { z with heap:=h2,toks:=k1 };refine Uh (V5 (W.item 1 _ _ _ (by decide) s2 λu V k3 pu s3 kr=>?_));obtain rfl:u=y:=(Option.some.inj pu).symm;have l3:=kr L _ nw l2;have U:∀q o,q∉O->q≠L->z.heap.get? q=Ya o->V.get? q=Ya o:=λq o G J e=>kr q o G (kp2 q o G J e);show wpAny _ A.in1 (tryCatch (Xu [u,u] (VQ .Lt u v >>= _)) _ >>= _) _ _ { z with heap:=V,toks:=k3 };refine Uh (V5 (UD (Uh (Z V k3 _ _ U ?_))));refine Uh (UD (UP (Uh (VR (Ur ?_)))));cases r with
 |true =>
  simp only[VY];refine Uh (VT l3 rfl (Uh (VR ?_)));rw[nm];obtain⟨c4,l4⟩:∃c4,(V.update L (Obj.mapSeq λ_=>#[u,u])).get? L=Ya { cls:=.type "list",dict:=none,data:=.seq #[u,u] c4,slots:=#[] }:=⟨_,RS l3 λ_=>#[u,u]⟩
  refine Ur ⟨VP F.plain_min_loop _,fin u _ k3 c4 (W.frame 2 V _ s3 λq hq o e=>(Qc _ _ (λg:L=q=>nL (by rw[g];exact hq))).trans e) l4 (λq o G J e=>(Qc _ _ (Ne.symm J)).trans (U q o G J e)) rfl⟩
 |false =>
  simp only[PF,U1];refine Uh (VR ?_);rw[nm];exact Ur ⟨VP F.plain_min_loop _,fin v V k3 c2 s3 l3 U rfl⟩
theorem zh{a b:Uj}{r:Bool}{Q:Uj->Uq->Prop}(Z:A.handled=none)
  (D:∀(h':UH) (tk:Nat) (J:Uj->Uq->Prop) (G:Uj->Uq->Prop),(∀c o,s.heap.get? c=Ya o->h'.get? c=Ya o)->G (.bool r) { s with heap:=h',toks:=tk }->wpAny (model prog w) A.in1 (VQ .Lt b a) G J { s with heap:=h',toks:=tk })
  (h:∀h' tk,(∀c o,s.heap.get? c=Ya o->h'.get? c=Ya o)->Q (if r=true then b else a) { s with heap:=h',toks:=tk }) :
  wpAny (model prog w) A (call (.builtin "min") [a,b]) Q E s:=by
 have nm:(toString "min" ++ toString ".loop":String) = "min.loop":=by decide
 have U:(s.heap.push { cls:=.type "tuple",data:=.seq #[a,b] }).IsTuple s.heap.objs.size #[a,b]:=⟨_,O6 _ rfl,rfl,0,rfl⟩
 have O:(s.heap.push { cls:=.type "tuple",data:=.seq #[a,b] }).objs.size=s.heap.objs.size+1:=QG ..;refine call_function_tree F.kind_min F.plain_min F.entry_min (F.args_min2 _ _) ?_;refine Uh (m:=Builtin.Builtins.bindParams "min" ["key","default"] 0 ⟨[],[]⟩) (WG (show Builtin.Builtins.bindParams "min" ["key","default"] 0 ⟨[],[]⟩=pure [none,none]from rfl) (Uh (m:=XB [a,b]) (UN (Uh (U8 U ?_)))));have W:=Walks.tuple (prog:=prog) (w:=w) (A:=A.in1) Z (s.heap.objs.size+1) s.heap.objs.size (Pd (QP _)) #[a,b];show wpAny (model prog w) A.in1 _ _ _ { s with heap:=(s.heap.push { cls:=.type "tuple",data:=.seq #[a,b] }).push { cls:=.type "tuple_iterator",data:=.fields #[.ref s.heap.objs.size,.int 0 0] } };rw[O];refine Uh (UN ?_);rw[nm];have V:((s.heap.push { cls:=.type "tuple",data:=.seq #[a,b] }).push { cls:=.type "tuple_iterator",data:=.fields #[.ref s.heap.objs.size,.int 0 0] }).objs.size=s.heap.objs.size+2:=by rw[QG,O]
 have g1:((s.heap.push { cls:=.type "tuple",data:=.seq #[a,b] }).push { cls:=.type "tuple_iterator",data:=.fields #[.ref s.heap.objs.size,.int 0 0] }).get? (s.heap.objs.size+1)=Ya { cls:=.type "tuple_iterator",data:=.fields #[.ref s.heap.objs.size,.int 0 0] }:=O▸O6 _ rfl;have up:∀q o,s.heap.get? q=Ya o->(((s.heap.push { cls:=.type "tuple",data:=.seq #[a,b] }).push { cls:=.type "tuple_iterator",data:=.fields #[.ref s.heap.objs.size,.int 0 0] }).push { cls:=.type "list",data:=.seq #[] }).get? q=Ya o/\q∉ [s.heap.objs.size+1]/\q≠s.heap.objs.size+2:=λq o e=>by
  have lt:q<s.heap.objs.size:=O3 e;refine⟨OM _ (OM _ (OM _ e)),λy=>?_,Pd (Qa (Qa lt))⟩;exact Us (OS.mp y) (Pd (Qa lt))
 refine Ur ⟨VP F.plain_min_loop _,?_⟩;show VX (model prog w) A (.builtin "min.loop" ⟨[.ref (s.heap.objs.size+1),.none,.ref ((s.heap.push { cls:=.type "tuple",data:=.seq #[a,b] }).push { cls:=.type "tuple_iterator",data:=.fields #[.ref s.heap.objs.size,.int 0 0] }).objs.size],[]⟩) _ { s with heap:=(((s.heap.push { cls:=.type "tuple",data:=.seq #[a,b] }).push { cls:=.type "tuple_iterator",data:=.fields #[.ref s.heap.objs.size,.int 0 0] }).push { cls:=.type "list",data:=.seq #[] }) };rw[V];refine BN (r:=r) W (λy=>?_) ⟨⟨_,OM _ g1,rfl,rfl⟩,(U.push _).push _⟩ (c:=0) (V▸O6 _ rfl) (λh' tk J G kp q=>?_) λh' tk kp=>?_
 .rcases Pa.mp y with y|y
  .exact Us y (QS (QP _))
  exact Us (OS.mp y) (QS (Qa (QP _)))
 .exact D h' tk J G (λq o e=>kp q o (up q o e).2.1 (up q o e).2.2 (up q o e).1) q
 exact h h' tk λq o e=>kp q o (up q o e).2.1 (up q o e).2.2 (up q o e).1
end
end PySem
namespace L2
open PySem PySem.Spec PyProof.Rows
section
variable {X:Cx}
theorem zi(G:X.calm=true)(J:X.A.units+1<cLine):fX X (.builtin "min") (λxs H Q=>∃(p q:Um) (a b c d:Int),xs=[.ref p,.ref q]/\br X.K H p [.int a,.int b]/\br X.K H q [.int c,.int d]/\Q (.ref (if c<a\/c=a/\d<b then q else p)) H):=by
 intro pins s σ H xs us Q I r h;obtain⟨p,q,a,b,c,d,rfl,hp,O,k⟩:=h;obtain⟨u,w',rfl,U,D⟩:=vals2 r;cases U;cases D;obtain⟨i1,V,Z,_⟩:=I.tuple hp;obtain⟨i2,v2,p2,_⟩:=I.tuple O;obtain⟨x1,x2,rfl,⟨t1,rfl⟩,⟨t2,rfl⟩⟩:=vals2 V;obtain⟨y1,y2,rfl,⟨t3,rfl⟩,⟨t4,rfl⟩⟩:=vals2 v2;have g1:s.heap.IsTuple p #[.int a t1,.int b t2]:=Z;have g2:s.heap.IsTuple q #[.int c t3,.int d t4]:=p2;refine zh (r:=decide (c<a\/c=a/\d<b)) (I.ok.hd G) (λh' tk E' Q' kp y=>?_) λh' tk kp=>?_
 .exact SeqAt.Jr (s:={ s with heap:=h',toks:=tk }) (g2.at λo e=>kp _ _ e) (g1.at λo e=>kp _ _ e) (by show X.A.in1.units<cLine;exact J) y
 refine⟨.ref (if c<a\/c=a/\d<b then q else p),H,I.kept kp,?_,k⟩;by_cases e:c<a\/c=a/\d<b
 .rw[Uo e,Uo (Ul e)];rfl
 rw[Uk e,Uk (by rw[Up e];decide)];rfl
theorem LX{its:List Uj}{x y:Int}(r:Vals [.int x,.int y] its):∃t u,its=[.int x t,.int y u]:=by
 obtain⟨a,b,rfl,⟨t,rfl⟩,⟨u,rfl⟩⟩:=vals2 r;exact⟨t,u,rfl⟩
theorem zj(Z:X.calm=true):fX X (.builtin "min") (λxs H Q=>∃(p:Um) (x y:Int),xs=[.ref p]/\aZ X.K H p [.int x,.int y]/\Q (.int (min x y)) H):=by
 intro pins s σ H xs us Q I r h;obtain⟨p,x,y,rfl,hq,q⟩:=h;obtain⟨u,rfl,ru⟩:=r.one;cases ru;obtain⟨its,rv,pl,hz⟩:=I.list hq;obtain⟨J,O,rfl⟩:=LX rv;have V:=pl.isList;have U:p<s.heap.objs.size:=let⟨_,e,_⟩:=V;O3 e
 refine call_min_walk (VC V ?_);refine⟨_,_,_,_,_,_,_,rfl,Walks.list (A:=X.A.in1) (I.ok.hd Z) s.heap.objs.size p (Pd U) #[.int x J,.int y O],⟨⟨_,O6 _ rfl,rfl,rfl⟩,V.push _⟩,λb hb=>?_,(by show 0<2;decide),
  CmpOf.ints_lt (λi=>if i=0 then x else y) (λi v D=>?_),λv h' tk G hk=>?_⟩
 .rw[QG];rcases Pa.mp hb with e|e
  .rw[e];exact QP _
  rw[OS.mp e];exact Qa U
 .match i,D with
  |0,D=>exact⟨J,(Option.some.inj D).symm⟩
  |1,D=>exact⟨O,(Option.some.inj D).symm⟩
  |i+2,D=>exact Us D (by simp)
 have hold:∀c o,s.heap.get? c=Ya o->h'.get? c=Ya o:=λc o e=>hk c o (λz=>Us (OS.mp z) (Pd (O3 e))) (OM _ e);refine⟨.int (min x y),H,I.kept hold,?_,q⟩;by_cases g:y<x
 .have e:Vs (λi j=>decide ((if i=0 then x else y)<(if j=0 then x else y))) 1=1:=by simp[Vs,g]
  have G:(#[.int x J,.int y O]:Array Uj)[Vs (λi j=>decide ((if i=0 then x else y)<(if j=0 then x else y))) 1]?=Ya v:=G;rw[e]at G;have D:v=.int y O:=(Option.some.inj G).symm;exact⟨O,by rw[D,Int.min_eq_right (by omega)]⟩
 have e:Vs (λi j=>decide ((if i=0 then x else y)<(if j=0 then x else y))) 1=0:=by simp[Vs,g]
 have G:(#[.int x J,.int y O]:Array Uj)[Vs (λi j=>decide ((if i=0 then x else y)<(if j=0 then x else y))) 1]?=Ya v:=G;rw[e]at G;have D:v=.int x J:=(Option.some.inj G).symm;exact⟨J,by rw[D,Int.min_eq_left (by omega)]⟩
theorem zk(Z:X.calm=true):fX X (.builtin "max") (λxs H Q=>∃(p:Um) (x y:Int),xs=[.ref p]/\aZ X.K H p [.int x,.int y]/\Q (.int (max x y)) H):=by
 intro pins s σ H xs us Q I r h;obtain⟨p,x,y,rfl,hq,q⟩:=h;obtain⟨u,rfl,ru⟩:=r.one;cases ru;obtain⟨its,rv,pl,hz⟩:=I.list hq;obtain⟨J,O,rfl⟩:=LX rv;have V:=pl.isList;have U:p<s.heap.objs.size:=let⟨_,e,_⟩:=V;O3 e
 refine call_max_walk (VC V ?_);refine⟨_,_,_,_,_,_,_,rfl,Walks.list (A:=X.A.in1) (I.ok.hd Z) s.heap.objs.size p (Pd U) #[.int x J,.int y O],⟨⟨_,O6 _ rfl,rfl,rfl⟩,V.push _⟩,λb hb=>?_,(by show 0<2;decide),
  CmpOf.ints_gt (λi=>if i=0 then x else y) (λi v D=>?_),λv h' tk G hk=>?_⟩
 .rw[QG];rcases Pa.mp hb with e|e
  .rw[e];exact QP _
  rw[OS.mp e];exact Qa U
 .match i,D with
  |0,D=>exact⟨J,(Option.some.inj D).symm⟩
  |1,D=>exact⟨O,(Option.some.inj D).symm⟩
  |i+2,D=>exact Us D (by simp)
 have hold:∀c o,s.heap.get? c=Ya o->h'.get? c=Ya o:=λc o e=>hk c o (λz=>Us (OS.mp z) (Pd (O3 e))) (OM _ e);refine⟨.int (max x y),H,I.kept hold,?_,q⟩;by_cases g:y>x
 .have e:Vs (λi j=>decide ((if i=0 then x else y)>(if j=0 then x else y))) 1=1:=by simp[Vs,g]
  have G:(#[.int x J,.int y O]:Array Uj)[Vs (λi j=>decide ((if i=0 then x else y)>(if j=0 then x else y))) 1]?=Ya v:=G;rw[e]at G;have D:v=.int y O:=(Option.some.inj G).symm;exact⟨O,by rw[D,Int.max_eq_right (by omega)]⟩
 have e:Vs (λi j=>decide ((if i=0 then x else y)>(if j=0 then x else y))) 1=0:=by simp[Vs,g]
 have G:(#[.int x J,.int y O]:Array Uj)[Vs (λi j=>decide ((if i=0 then x else y)>(if j=0 then x else y))) 1]?=Ya v:=G;rw[e]at G;have D:v=.int x J:=(Option.some.inj G).symm;exact⟨J,by rw[D,Int.max_eq_left (by omega)]⟩
end
end L2
namespace nF
open PySem PyProof.Rows PySem.W
section
variable {prog:Ux}{w:UA}{A:UG}{E:Uj->Uq->Prop}{s:Uq}
theorem xV [xA]{D:List Uj}{rk:Uj->Int}(V:∀p:U3,num p=rk p.1){xs:Array U3}(hp:xs.Perm (Vt D))(hs:SortedTo xs (Vt D).size):(xs.map (·.2)).toList.Perm D/\(xs.map (·.2)).toList.Pairwise λu v=>rk u<=rk v:=by
 have Z:=RX.mp hp;have ez:(Vt D).toList=D.zip D:=by unfold Vt;simp
 have same:∀p∈xs.toList,p.1=p.2:=λp G=>by
  have z:=Z.mem_iff.mp G;rw[ez]at z;obtain⟨i,J,e⟩:=Rr z;rw[List.getElem_zip]at e;rw[<-e]
 rw[Array.toList_map];constructor
 .have z:=Z.map (·.2);rw[ez]at z;have e2:(D.zip D).map (·.2)=D:=by rw[Tp];exact ON _
  rw[e2]at z;exact z
 rw[Px];refine Qx.mpr λi j J hj y4=>?_;have hsz:xs.size=(Vt D).size:=hp.size_eq;have O:i<xs.size:=by simpa using J
 have U:j<xs.size:=by simpa using hj
 have z:=hs i j (by omega) (by omega);rw[Dz (getElem?_pos xs i O),Dz (getElem?_pos xs j U),V,V]at z;have e1:=same _ (Rp J);have e2:=same _ (Rp hj);rw[<-e1,<-e2];simpa using z
theorem xW{a:Um}{D:List Uj}{n:Nat}{P:PySem.Fin->Uq->Prop}(J:s.heap.get? a=Ya (seqObj "list" D.toArray n))(h2:D.length<2)
  (h:P (.done (.ret .none)) { s with heap:=XG s.heap a D D.toArray }):wpAny (model prog w) A (Builtin.«list.sort» ⟨[.ref a],[]⟩) P E s:=by
 rw[list_sort_plain];obtain⟨k,V⟩:∃k,(s.heap.update a (Obj.mapSeq λ_=>#[])).get? a=Ya (seqObj "list" #[] k):=⟨_,get?_update_seq J (λ_=>#[])⟩
 have G:(((s.heap.update a (Obj.mapSeq λ_=>#[])).push (seqObj "tuple" D.toArray 0)).push (seqObj "list" #[] 0)).get? a=Ya (seqObj "list" #[] k):=
  OM _ (OM _ V)
 have O:D.toArray.size<=sizeLine:=by rw[OT,UJ];omega
 have U:D.toArray.toList.length<=sizeLine:=by rw[UJ];simp;omega
 refine Uh (Wq J rfl (Uh (Vd J rfl (Uh (VS V rfl ?_)) O (PH _))));refine Uh (V3 (Uh (Vo (UD ?_) (PH _))) U);show wpAny (model prog w) A _ P E { s with heap:=((s.heap.update a (Obj.mapSeq λ_=>#[])).push (seqObj "tuple" D.toArray 0)).push (seqObj "list" #[] 0) };dsimp only;have Z:D.toArray.size<2:=by rw[OT];omega
 rw[Uo Z,Uo Z];refine Uh (Ur (Uh (Ur ?_)));dsimp only;have e:(arrOf (SortSt.mk' general' (D.toArray.zip D.toArray) #[] 7 none)).map (·.2)=D.toArray:=by
  apply Array.toList_inj.mp;show((D.toArray.zip D.toArray).map (·.2)).toList=D;have e2:(D.zip D).map (·.2)=D:=by rw[Tp];exact ON _
  simpa using e2
 rw[e];refine Uh (VS G rfl (Uh (Vd G rfl ?_ (hsz2:=by rw[OT,UJ];omega))));dsimp only;rw[bne_self_eq_false];exact Ur h
theorem zl{l:Um}{D:List Uj}{Q:Uj->Uq->Prop}(J:s.heap.IsList l D.toArray)(O:D.length<2)
  (h:Q (.ref (s.heap.objs.size+1)) { s with heap:=sortedAll s.heap D D.toArray }):wpAny (model prog w) A (call (.builtin "sorted") [.ref l]) Q E s:=by
 have z:((s.heap.push (seqObj "list" #[] 0)).update s.heap.objs.size (Obj.mapSeq (· ++ D.toArray))).objs.size=s.heap.objs.size+1:=(RN _ _ _).trans (W8 _ _);have G:(((s.heap.push (seqObj "list" #[] 0)).update s.heap.objs.size (Obj.mapSeq (· ++ D.toArray))).push (seqObj "list" D.toArray 0)).get? (s.heap.objs.size+1)=Ya (seqObj "list" D.toArray 0):=z▸O6 _ rfl;refine Calls.call_function_entry WL Wr Ws (Xh _) ?_;unfold Builtin.«sorted»;refine Uh (m:=W9 "sorted" 1 1 _) (Ur (Uh (Xi J (Uh (Vo ?_ (by rw[UJ];omega))) (hsz:=by rw[UJ];omega))));show wpAny _ _ _ _ _ { s with heap:=((s.heap.push (seqObj "list" #[] 0)).update s.heap.objs.size (Obj.mapSeq (· ++ D.toArray))).push (seqObj "list" D.toArray 0) };rw[z];exact Uh (UD (UM slot_list_sort ⟨_,G,rfl⟩ entry_list_sort (xW G O ⟨_,rfl,Ur ⟨_,rfl,h⟩⟩) (V6 _)))
end
open PySem.Spec L2
noncomputable def kx:Th.Kd->Int
 |.bare=>0
 |.odd=>1
 |.ring=>2
 |.tied=>3
theorem Js:∀a b:Th.Kd,kx a=kx b->a=b:=by intro a b h;cases a <;> cases b <;> first|rfl|exact Us h (by decide)
theorem LY:∀a b:Th.Kd,decide ((aI.ks a).cps.toList<(aI.ks b).cps.toList)=decide (kx a<kx b):=by intro a b;cases a <;> cases b <;> decide +kernel
def Pr(h:UH)(str:Bool)(v:Uj)(r:Int):Prop:=∃(t:Um) (o:U6) (n:Nat) (x:Uj) (y a:Int) (D G:XJ),v=.ref t/\h.get? t=Ya o/\o.cls=.type "tuple"/\o.data=.seq #[x,.int y G] n/\0<=y/\y<1000/\r=1000*a+y /\
 ((str=false/\x=.int a D)\/(str=true/\∃k:Th.Kd,x=.str (aI.ks k) D/\a=kx k))
theorem Pr.uniq{h:UH}{str:Bool}{v:Uj}{r r':Int}(p:Pr h str v r)(q:Pr h str v r'):r=r':=by
 obtain⟨t,o,n,x,y,a,u1,u2,rfl,e1,e2,e3,e4,e5,e6,O⟩:=p;obtain⟨t',o',n',x',y',a',u1',u2',Z,f1,f2,J,f4,f5,f6,G⟩:=q;injection Z with Z;subst Z;rw[e1]at f1;obtain rfl:=Option.some.inj f1;rw[e3]at J;injection J with J _;have J:=congrArg Ss J;injection J with D U;injection U with U _;injection U with U _;subst U;rcases O with⟨s1,O⟩|⟨e8,k,O,e9⟩
 .rcases G with⟨_,G⟩|⟨V,_⟩
  .rw[O,G]at D;injection D with D _;rw[e6,f6,D]
  rw[s1]at V;cases V
 rcases G with⟨V,G⟩|⟨_,k',G,f9⟩
 .rw[e8]at V;cases V
 rw[O,G]at D;injection D with D _;have:=aI.oN _ _ D;rw[e6,f6,e9,f9,this]
open Classical in
noncomputable def Jt(h:UH)(str:Bool)(v:Uj):Int:=if e:∃r,Pr h str v r then choose e else 0
theorem DQ{h:UH}{str:Bool}{v:Uj}{r:Int}(p:Pr h str v r):Jt h str v=r:=by
 unfold Jt;have e:∃r,Pr h str v r:=⟨r,p⟩
 rw[Wn e];exact(QB e).uniq p
@[reducible] noncomputable def Ju(h:UH)(str:Bool):xA:=⟨λp=>∃r,Pr h str p.1 r,λp=>Jt h str p.1,WQ true⟩
noncomputable def tyP(str:Bool):Value:=if str=true then .type "str" else .type "int"
theorem GB{prog:Ux}{w:UA}{A:UG}{s:Uq}{h:UH}{str:Bool}(k:∀b o,h.get? b=Ya o->s.heap.get? b=Ya o):@Asks (Ju h str) prog w A s:=by
 letI:=Ju h str
 intro x y ⟨r,px⟩ ⟨G,py⟩ E Q V;have q:Q (decide (r<G)) s:=by
  have e1:num x=r:=DQ px;have e2:num y=G:=DQ py;rw[e1,e2]at V;exact V
 clear V;obtain⟨x1,x2⟩:=x;obtain⟨y1,y2⟩:=y;obtain⟨t,o,n,x,y,a,u1,u2,rfl,e1,e2,e3,e4,e5,e6,e7⟩:=px;obtain⟨t',o',n',x',J,D,u1',O,rfl,f1,f2,f3,f4,f5,f6,f7⟩:=py;show wpAny _ _ (keyLt' (WQ true) (.ref t) (.ref t')) _ _ _;refine kat_lt (k _ _ e1) e3 (k _ _ f1) f3 ?_;show KatLex prog w A true (decide (2<2)) _ [(x,x'),(.int y u2,.int J O)] 0 s;have second:a=D->KatLex prog w A true (decide (2<2)) Q [(.int y u2,.int J O)] 1 s:=λea=>by
  refine XH (U7 ?_);by_cases c:y=J
  .rw[show(y==J)=true from beq_iff_eq.mpr c];refine XY (kat_nil ?_);rw[show decide (2<2)=decide (r<G)from decide_eq_decide.mpr (by omega)];exact q
  rw[show(y==J)=false from beq_eq_false_iff_ne.mpr c];refine kat_no (kat_one _ _ (lt_int ?_));show Q _ s;rw[show decide (y<J)=decide (r<G)from decide_eq_decide.mpr (by omega)];exact q
 rcases e7 with⟨Z,rfl⟩|⟨Z,k1,rfl,ek⟩
 .rcases f7 with⟨_,rfl⟩|⟨U,_⟩
  .refine XH (U7 ?_);by_cases c:a=D
   .rw[show(a==D)=true from beq_iff_eq.mpr c];exact XY (second c)
   rw[show(a==D)=false from beq_eq_false_iff_ne.mpr c];refine kat_no (oneLt_int ?_);rw[show decide (a<D)=decide (r<G)from decide_eq_decide.mpr (by omega)];exact q
  rw[Z]at U;cases U
 rcases f7 with⟨U,_⟩|⟨_,k2,rfl,fk⟩
 .rw[Z]at U;cases U
 refine XH (eqBool_str ?_);by_cases c:k1=k2
 .subst c;rw[US];exact XY (second (by rw[ek,fk]))
 rw[show(aI.ks k1==aI.ks k2)=false from beq_eq_false_iff_ne.mpr λz=>c (aI.oN _ _ z)];refine kat_no (oneLt_str ?_);have ne:a≠D:=λz=>c (Js _ _ (by rw[<-ek,<-fk,z]));rw[LY,<-ek,<-fk,show decide (a<D)=decide (r<G)from decide_eq_decide.mpr (by omega)];exact q
end nF
namespace L2
open PySem PySem.Spec PyProof.Rows nF
section
variable {X:Cx}
def Nz(str:Bool)(D:List V)(r:Int):Prop:=∃(x:V) (y a:Int),D=[x,.int y]/\0<=y/\y<1000/\r=1000*a+y/\((str=false/\x=.int a)\/(str=true/\∃k:Th.Kd,x=.str (aI.ks k)/\a=kx k))
theorem LZ{pins:List (Um×U6)}{s:Uq}{σ:L2.St}{H:Hp}{t:Um}{O:List V}{r:Int}{str:Bool}(I:Inv X pins σ H s)(h:H t=Ya (.tup O))(p:Nz str O r):Pr s.heap str (.ref t) r:=by
 obtain⟨x,y,a,rfl,U,Z,h3,h4⟩:=p;obtain⟨its,rv,⟨o,e1,e2,n,e3⟩,_⟩:=I.tuple (br.of h);cases rv with
 |cons r1 D =>
  cases D with
  |cons r2 D =>
   cases D;obtain⟨u2,rfl⟩:=r2;rcases h4 with⟨G,rfl⟩|⟨G,k,rfl,ek⟩
   .obtain⟨J,rfl⟩:=r1;exact⟨t,o,n,_,y,a,J,u2,rfl,e1,e2,e3,U,Z,h3,.inl ⟨G,rfl⟩⟩
   obtain⟨J,rfl⟩:=r1;exact⟨t,o,n,_,y,a,J,u2,rfl,e1,e2,e3,U,Z,h3,.inr ⟨G,k,rfl,ek⟩⟩
theorem rT{h h':UH}(k:∀b o,h.get? b=Ya o->h'.get? b=Ya o):∀{D fs:List Uj},QM h D fs->QM h' D fs
 |[],[],_=>trivial
 |[],_::_,z=>z.elim
 |_::_,[],z=>z.elim
 |_::_,_::_,⟨⟨a,o,xs,n,G,e1,e2⟩,r⟩=>⟨⟨a,o,xs,n,G,k _ _ e1,e2⟩,rT k r⟩
theorem kat_tups{h:UH}{str:Bool}:∀J:List Um,(∀t∈J,∃r,Pr h str (.ref t) r)->∃fs:List Uj,QM h (J.map Value.ref) fs/\∀v∈fs,(str=false/\∃i u,v=.int i u)\/(str=true/\∃z u,v=.str z u)
 |[],_=>⟨[],QM.nil,λv D=>Us D Qp⟩
 |t::J,hp=>by
  obtain⟨fs,V,Z⟩:=kat_tups J λt ht=>hp t (O0 _ ht);obtain⟨r,t',o,n,x,y,a,u1,u2,O,e1,e2,e3,e4,e5,e6,G⟩:=hp t O1;injection O with O;subst O;refine⟨x::fs,QM.cons e1 e2 e3 rfl V,λv D=>?_⟩;rcases Pa.mp D with rfl|D
  .rcases G with⟨U,G⟩|⟨U,k,G,_⟩
   .exact .inl ⟨U,_,_,G⟩
   exact .inr ⟨U,_,_,G⟩
  exact Z v D
theorem uj:∀{D:List Um}{its:List Uj},Vals (D.map V.ref) its->its=D.map Value.ref
 |[],_,.nil=>rfl
 |t::D,_,.cons r G=>by cases r;rw[uj G];rfl
theorem mL:∀D:List Um,Vals (D.map V.ref) (D.map Value.ref)
 |[]=>.nil
 |t::D=>.cons rfl (mL D)
theorem uk{D:List Uj}{G:List Um}(h:D.Perm (G.map Value.ref)):∃O:List Um,D=O.map Value.ref/\O.Perm G:=by
 let g:Uj->Addr:=λv=>match v with
  |.ref a=>a
  |_=>0
 have e:∀v∈D,Value.ref (g v)=v:=λv J=>by
  obtain⟨t,_,rfl⟩:=OO.mp (h.mem_iff.mp J)
  rfl
 refine⟨D.map g,?_,?_⟩
 .rw[Pp];exact(T4 D).symm.trans (PB λv J=>(e v J).symm)
 have z:=h.map g;rw[Pp]at z;have e2:G.map (g ∘ Value.ref)=G:=T4 G;rw[e2]at z;exact z
end
theorem pF{X:Cx}{K:OJ}(D:X.K=K)(G:X.A.units<cLine):kl X (UQ .Eq) (Du K false):=D▸yW G
end L2
namespace aI
open PySem L2
noncomputable def pf(c:Nat×Nat):List V:=[.int (c.1:Nat),.int (c.2:Nat)]
theorem ft.ext{α:Type}{f:α->List V}{H:Hp}{l r:Um}{xs D:List α}(h:ft f H l xs)(k:ft f H r D):∃G J,H l=Ya (.lst G)/\H r=Ya (.lst J)/\G.length=xs.length/\J.length=D.length/\ft f (L2.upd H l (.lst (G++J))) l (xs++D):=by
 obtain⟨O,h1,U,h3⟩:=h;obtain⟨us,k1,k2,k3⟩:=k;refine⟨_,_,h1,k1,by rw[OH];exact U,by rw[OH];exact k2,O++us,by rw[ag,O5],by rw[OQ,OQ,U,k2],λi t x e1 e2=>?_⟩;have ne:∀{c:Um}{Z:List V},H c=Ya (.tup Z)->L2.upd H l (.lst (O.map V.ref++us.map V.ref)) c=Ya (.tup Z):=λ{c Z} e=>by
  rw[aG (λz=>by rw[z,h1]at e;cases e)];exact e
 by_cases c:i<O.length
 .rw[Pg c]at e1;rw[Pg (by omega)]at e2;exact ne (h3 i t x e1 e2)
 rw[Pk (by omega)]at e1;rw[Pk (by omega),<-U]at e2;exact ne (k3 _ t x e1 e2)
noncomputable def bA(n:Nat)(ms:List Nat)(c:Nat×Nat):Bool:=decide (Fits n ms c.1 c.2)&&decide (eu ms c.1 c.2=c)
noncomputable def um(c:Nat×Nat):Int:=1000*c.1+c.2
noncomputable def L0(H:Hp)(t:Um):Int:=match H t with
 |some (.tup [.int x,.int y])=>1000*x+y
 |_=>0
theorem zm{H:Hp}{t:Um}{c:Nat×Nat}(h:H t=Ya (.tup (pf c))):L0 H t=um c:=by
 unfold L0;rw[h]
 rfl
theorem Jv{c:Nat×Nat}(h:c.2<1000):Nz false (pf c) (um c):=⟨_,c.2,c.1,rfl,by omega,by omega,rfl,.inl ⟨rfl,rfl⟩⟩
theorem GD{H:Hp}{l:Um}{O G:List Um}{xs:List (Nat×Nat)}(Z:O.length=xs.length)(h3:∀(i:Nat) (t:Um) (x:Nat×Nat),O[i]?=Ya t->xs[i]?=Ya x->H t=Ya (.tup (pf x)))(hp:G.Perm O)(hs:G.Pairwise λt u=>L0 H t<=L0 H u)(hn:H l=none) :
  ∃D:List (Nat×Nat),D.Perm xs/\(D.Pairwise λp q=>um p<=um q)/\ft pf (L2.upd H l (.lst (G.map V.ref))) l D:=by
 obtain⟨D,y1,J⟩:=xI.perm hp (xI.of (R:=λ(t:Um) (x:Nat×Nat)=>H t=Ya (.tup (pf x))) Z λi t x e1 e2=>h3 i t x e1 e2);have len:=J.len;refine⟨D,y1,Qx.mpr λi j hi hj U=>?_,G,ag,len,λi t x e1 e2=>?_⟩
 .have z:=Qx.mp hs i j (by omega) (by omega) U;rw[zm (J.get i _ _ (OG (by omega)) (OG hi)),zm (J.get j _ _ (OG (by omega)) (OG hj))]at z;exact z
 exact(ai hn) _ _ (J.get i t x e1 e2)
variable (K:OJ)
def vB:Sp:=λD H Q _=>∃(x y:Nat),D=[.int (x:Nat),.int (y:Nat)]/\∀(l:Um) (H':Hp),H l=none->aE H H'->H' l=Ya (.tup (pf (Th.ord x y)))->Q (.ref l) H'
def xX:Sp:=λJ H Q _=>∃(l:Um) (k:Th.Kd) (G:List (Th.Kd×List Nat)),J=[.ref l,.str (ks k)]/\nK H l G/\((G.map (·.2)).flatten.length<=100)/\∀(D:Um) (H':Hp),H D=none->aE H H'->H' D=Ya (.lst (nV (Th.aV G k)))->Q (.ref D) H'
def AL:Sp:=λG H Q _=>∃(e:Um) (L:List Nat),G=[.ref e]/\H e=Ya (.tup (nV L))/\L.length<=80/\∀(D:Um) (H':Hp),H D=none->aE H H'->ft pf H' D (Th.bZ L)->Q (.ref D) H'
def AM:Sp:=λG H Q _=>∃(a b:Um) (B S:List Nat),G=[.ref a,.ref b]/\H a=Ya (.lst (nV B))/\H b=Ya (.lst (nV S))/\B.length<=80/\S.length<=80/\∀(D:Um) (H':Hp),H D=none->aE H H'->ft pf H' D (Th.c6 B S)->Q (.ref D) H'
def pG:Sp:=λD H Q _=>∃(a d:Um) (n p q:Nat) (ms:List Nat),D=[.ref a,.ref d]/\br K H a (nV ms)/\ak n ms/\br K H d [.int (p:Nat),.int (q:Nat)]/\p<2*n/\q<2*n /\
 ∀(l:Um) (H':Hp),H l=none->aE H H'->H' l=Ya (.tup (pf (eu ms p q)))->Q (.ref l) H'
open Classical
noncomputable def DR(p m:Nat):List (Nat×Nat):=(OV m).map λd=>(p,p+d)
noncomputable def kT(N i:Nat):List (Nat×Nat):=(OV i).flatMap λp=>DR p (N-p)
theorem jo{p m:Nat}{c:Nat×Nat}:c∈DR p m↔c.1=p/\p<=c.2/\c.2<p+m:=by
 unfold DR;rw[OO];constructor
 .rintro⟨d,hd,rfl⟩;have:=OX.mp hd;exact⟨rfl,by simp only;omega,by simp only;omega⟩
 rintro⟨D,G,J⟩;exact⟨c.2-p,OX.mpr (by omega),R4 D.symm (by simp only;omega)⟩
theorem jq{N i:Nat}{c:Nat×Nat}:c∈kT N i↔c.1<i/\c.1<=c.2/\c.2<N:=by
 unfold kT;rw[QR];constructor
 .rintro⟨p,hp,D⟩;obtain⟨G,J,O⟩:=jo.mp D;have:=OX.mp hp;clear D;lia
 rintro⟨G,J,O⟩;exact⟨c.1,OX.mpr G,jo.mpr ⟨rfl,J,by omega⟩⟩
theorem oQ{N:Nat}(h:N<=1000)(i:Nat):(kT N i).Pairwise λc d=>um c<um d:=by
 unfold kT;rw[QC];constructor
 .intro p _;unfold DR;rw[Px];refine(QN (n:=N-p)).imp λD=>?_;unfold um;simp only;omega
 refine(QN (n:=i)).imp λ{p q} G c J d hd=>?_;obtain⟨O,U,V⟩:=jo.mp J;obtain⟨Z,g2,g3⟩:=jo.mp hd;unfold um;omega
def okD(n:Nat)(ms os:List Nat)(c:Nat×Nat):Prop:=ar ms c.1≠c.2/\eu ms c.1 c.2=c/\aC n (bN ms c.1 c.2) os+1=aC n ms os
noncomputable def rV(n:Nat)(ms os:List Nat)(l:List (Nat×Nat)):List (Nat×Nat):=l.filter λc=>decide (okD n ms os c)
section
variable {n:Nat}{ms os:List Nat}
theorem zo(W:ak n ms)(D:ak n os){p q:Nat}(hp:p<2*n)(J:q<2*n)(O:ar ms p≠q):aC n (bN ms p q) os+1=aC n ms os↔(Th.score (ar (bN ms p q)) (ar os) (2*n):Int)-Th.score (ar ms) (ar os) (2*n)=2:=by
 have G:=dy W hp J O;have U:=Th.jj (bJ W D);have V:=Th.jj (bJ G D);have Z:=Th.mH (bJ W D) (by omega);have v2:=Th.mH (bJ G D) (by omega);unfold aC;omega
theorem rW{p q:Nat}(D:p<=q)(G:q<2*n):Fits n ms (p:Nat) (q:Nat)↔ar ms p≠q:=by
 constructor
 .intro h z;exact h.2.2.2 (by rw[Pq,z])
 intro h;exact rN D G h
end
end aI
namespace nF
open PySem PySem.Spec PyProof.Rows PySem.W
section
variable [xA]{prog:Ux}{w:UA}{A:UG}{E:Uj->Uq->Prop}{s:Uq}{a₀:Array U3}
def DU(a₀:Array U3)(st:UZ):Prop:=(arrOf st).Perm a₀/\V4 st=none/\∃p,VZ st = #[p]/\jH 0 (arrOf st) a₀.size
theorem zp{st:UZ}{Q:Unit->UZ->Prop}(h0:Fi prog w A s a₀)(hp:(arrOf st).Perm a₀)(hk:kindOf st=oneType')(hf:V4 st=none)(hd:VZ st = #[])(h2:2<=a₀.size)(h64:a₀.size<64)
  (h:∀D,(arrOf D).Perm a₀->V4 D=none->SortedTo (arrOf D) a₀.size->Q () D):wpS (model prog w) A E s sortRuns' Q st:=by
 rw[sortRuns'_eq];refine UO (Xg ?_);dsimp only;have hsz:(arrOf st).size=a₀.size:=hp.size_eq;rw[hsz];have em:minRun' a₀.size a₀.size 0=a₀.size:=by
  obtain⟨g,e⟩:∃g,a₀.size=g+1:=⟨a₀.size-1,by omega⟩
  rw[e,minRun'_succ,Uo (by omega)]
 rw[em];refine UO (XE (VG
  (I:=λx c D=>(x=0/\c=(none,0)/\SB a₀ #[] 0 (λ_=>0) D)\/(1<=x/\c=(none,a₀.size)/\DU a₀ D))
  (Q:=λc D=>c=(none,a₀.size)/\DU a₀ D) ?step ?fin (.inl ⟨rfl,rfl,⟨hp,hk,hf,hd,λi hi=>Us hi (Rx _)⟩⟩)) ?post)
 case fin =>
  rintro c D (⟨hx,_⟩|⟨_,e,L⟩)
  .have:max 0 a₀.size=a₀.size:=QQ (PH _);omega
  exact⟨e,L⟩
 case step =>
  rintro x c D _ hx (⟨rfl,rfl,hB⟩|⟨hx2,rfl,L⟩)
  .dsimp only;refine dQ (λz=>Us z (by omega)) (λ_=>?_);refine UO (y6 h0 (by omega) (by omega) hB λk U O k1 k2 Z=>?_);dsimp only;rw[T5]at k2;have push:∀(J:UZ),SB a₀ #[] 0 (λ_=>0) J->jH 0 (arrOf J) a₀.size->DU a₀ (setPending J ((VZ J).push (0,a₀.size,0))):=λJ b g =>
    ⟨b.perm,b.fl,⟨_,by show(VZ J).push _=_;rw[b.pd];rfl,g⟩⟩
   refine dQ (λz=>?_) (λz=>?_)
   .have ef:min (a₀.size-0) a₀.size=a₀.size:=by omega
    rw[ef];refine UO (wpS_lift (Vq ⟨rfl,UO (DC h0 (by omega) k1 (by omega) O Z λJ V g3=>?_)⟩));refine dQ (λz=>Us z (by simp)) (λ_=>?_);refine UO (Xg ?_);have hb:(VZ J).back?=none:=by rw[V.pd];rfl
    rw[hb];dsimp only;refine UO (XF (U2 (.inr ⟨ON _,by rw[Qh],push J V g3⟩)))
   have hka:k=a₀.size:=by omega
   rw[hka]at Z⊢;refine UO (Xg ?_);have hb:(VZ U).back?=none:=by rw[O.pd];rfl
   rw[hb];dsimp only;refine UO (XF (U2 (.inr ⟨ON _,by rw[Qh],push U O Z⟩)))
  dsimp only;refine dQ (λ_=>U2 ⟨rfl,L⟩) (λz=>Us (ON _) z)
 case post =>
  rintro c D ⟨rfl,L⟩;dsimp only;obtain⟨lp,lf,p,e1,asc⟩:=L;refine UO (XE (VG (I:=λx c G=>c=(none,())/\G=D) (Q:=λc G=>c=(none,())/\G=D) ?fs ?ff ⟨rfl,rfl⟩) ?fp)
  case ff =>
   rintro c G ⟨e,e2⟩;exact⟨e,e2⟩
  case fp =>
   rintro c G ⟨e,e2⟩;subst e e2;exact U2 (h _ lp lf (vo asc))
  case fs =>
   rintro x c G _ _ ⟨e,e2⟩;subst e e2;refine UO (Xg ?_);exact dQ (λ_=>U2 ⟨rfl,rfl⟩) (λz=>Us (by rw[e1];exact ON 1) z)
end
section
variable {prog:Ux}{w:UA}{A:UG}{E:Uj->Uq->Prop}{s:Uq}
theorem pH [xA]{a:Um}{D fs:List Uj}{rk:Uj->Int}{T:Uj}{n:Nat}{P:PySem.Fin->Uq->Prop}(hr:∀p:U3,num p=rk p.1)(U:xA.kd=WQ (T != Value.type "tuple"))(V:(T==T)=true)(O:s.heap.get? a=Ya (seqObj "list" D.toArray n))(h2:2<=D.length)(G:D.length<64)
  (hT:∀h':UH,(∀b o,b≠a->s.heap.get? b=Ya o->h'.get? b=Ya o)->KatTups h' D fs/\(∀v∈fs,XO (model prog w) h' (typeOf v) T)/\Fi prog w A { s with heap:=h' } (Vt D))
  (h:∀out:Array Uj,out.toList.Perm D->(out.toList.Pairwise λu v=>rk u<=rk v)->P (.done (.ret .none)) { s with heap:=XG s.heap a D out }):wpAny (model prog w) A (Builtin.«list.sort» ⟨[.ref a],[]⟩) P E s:=by
 rw[list_sort_plain];have la:a<s.heap.objs.size:=O3 O;obtain⟨k,hk⟩:∃k,(s.heap.update a (Obj.mapSeq λ_=>#[])).get? a=Ya (seqObj "list" #[] k):=⟨_,get?_update_seq O (λ_=>#[])⟩
 have J:(((s.heap.update a (Obj.mapSeq λ_=>#[])).push (seqObj "tuple" D.toArray 0)).push (seqObj "list" #[] 0)).get? a=Ya (seqObj "list" #[] k):=
  OM _ (OM _ hk)
 have keep:∀b o,b≠a->s.heap.get? b=Ya o->(((s.heap.update a (Obj.mapSeq λ_=>#[])).push (seqObj "tuple" D.toArray 0)).push (seqObj "list" #[] 0)).get? b=Ya o:=λb o hb e =>
  OM _ (OM _ (by rw[RW _ _ _ _ hb];exact e))
 obtain⟨t1,t2,t3⟩:=hT _ keep;have Z:D.toArray.size<=sizeLine:=by rw[OT,UJ];omega
 have hz2:D.toArray.toList.length<=sizeLine:=by rw[UJ];simp;omega
 refine Uh (Wq O rfl (Uh (Vd O rfl (Uh (VS hk rfl ?_)) Z (PH _))));refine Uh (V3 (Uh (Vo (UD ?_) (PH _))) hz2);show wpAny (model prog w) A _ P E { s with heap:=((s.heap.update a (Obj.mapSeq λ_=>#[])).push (seqObj "tuple" D.toArray 0)).push (seqObj "list" #[] 0) };dsimp only;have z2:¬D.toArray.size<2:=by rw[OT];omega
 rw[Uk z2,Uk z2];have jf:0<fs.length:=by
  cases fs with
  |nil=>cases D with
   |nil=>exact Us h2 (by decide)
   |cons v r=>exact t1.elim
  |cons f r=>exact Tj _
 refine Uh (kat_kind t1 jf t2 V ?_);refine Uh (UX (zp (a₀:=Vt D) (st:=SortSt.mk' (WQ (T != Value.type "tuple")) (D.toArray.zip D.toArray) #[] 7 none) (Q:=λ_ z=>(arrOf z).Perm (Vt D)/\V4 z=none/\SortedTo (arrOf z) (Vt D).size)
  t3 (Array.Perm.refl _) U.symm rfl rfl (by rw[Xj];exact h2) (by rw[Xj];exact G) λz a1 a2 a3=>⟨a1,a2,a3⟩) ?_ λ_ _ e=>e)
 rintro⟨⟨⟩,z⟩ s2 ⟨rfl,hp,hf,hs⟩;dsimp only;have zs:((arrOf z).map (·.2)).size<=Uu+1:=by
  rw[TL,hp.size_eq,Xj,UJ];omega
 refine Uh (VS J rfl (Uh (Vd J rfl ?_ (hsz2:=zs))));rw[hf];dsimp only;rw[bne_self_eq_false];obtain⟨b1,b2⟩:=xV hr hp hs;exact Ur (h _ b1 b2)
theorem tu [xA]{l:Um}{D fs:List Uj}{rk:Uj->Int}{T:Uj}{Q:Uj->Uq->Prop}(hr:∀p:U3,num p=rk p.1)(V:xA.kd=WQ (T != Value.type "tuple"))(Z:(T==T)=true)(hl:s.heap.IsList l D.toArray)(h2:2<=D.length)(J:D.length<64)
  (hT:∀(A':UG) (h':UH),(∀b o,s.heap.get? b=Ya o->h'.get? b=Ya o)->KatTups h' D fs/\(∀v∈fs,XO (model prog w) h' (typeOf v) T)/\Fi prog w A' { s with heap:=h' } (Vt D))
  (h:∀out:Array Uj,out.toList.Perm D->(out.toList.Pairwise λu v=>rk u<=rk v)->Q (.ref (s.heap.objs.size+1)) { s with heap:=sortedAll s.heap D out }):wpAny (model prog w) A (call (.builtin "sorted") [.ref l]) Q E s:=by
 have z:((s.heap.push (seqObj "list" #[] 0)).update s.heap.objs.size (Obj.mapSeq (· ++ D.toArray))).objs.size=s.heap.objs.size+1:=(RN _ _ _).trans (W8 _ _);have hL:(((s.heap.push (seqObj "list" #[] 0)).update s.heap.objs.size (Obj.mapSeq (· ++ D.toArray))).push (seqObj "list" D.toArray 0)).get? (s.heap.objs.size+1)=Ya (seqObj "list" D.toArray 0):=z▸O6 _ rfl;have keep:∀b o,s.heap.get? b=Ya o->b≠s.heap.objs.size+1/\(((s.heap.push (seqObj "list" #[] 0)).update s.heap.objs.size (Obj.mapSeq (· ++ D.toArray))).push (seqObj "list" D.toArray 0)).get? b=Ya o:=λb o q=>by
  have O:b<s.heap.objs.size:=O3 q;have U:b≠s.heap.objs.size:=Pd O;have G:b≠s.heap.objs.size+1:=Pd (Qa O);refine⟨G,?_⟩;rw[RD _ _ _ (by rw[z];exact G),RW _ _ _ _ U,RD _ _ _ U];exact q
 refine Calls.call_function_entry WL Wr Ws (Xh _) ?_;unfold Builtin.«sorted»;refine Uh (m:=W9 "sorted" 1 1 _) (Ur (Uh (Xi hl (Uh (Vo ?_ (by rw[UJ];omega))) (hsz:=by rw[UJ];omega))));show wpAny _ _ _ _ _ { s with heap:=((s.heap.push (seqObj "list" #[] 0)).update s.heap.objs.size (Obj.mapSeq (· ++ D.toArray))).push (seqObj "list" D.toArray 0) };rw[z];refine Uh (UD (UM slot_list_sort ⟨_,hL,rfl⟩ entry_list_sort (pH (fs:=fs) hr V Z hL h2 J (λh' hk=>?_) λout a1 a2=>⟨_,rfl,Ur ⟨_,rfl,h out a1 a2⟩⟩) (V6 _)));exact hT _ h' λb o q=>hk b o (keep b o q).1 (keep b o q).2
end
end nF
namespace L2
open PySem PySem.Spec PyProof.Rows nF
section
variable {X:Cx}
theorem kU(str:Bool):fX X (.builtin "sorted") (λxs H Q=>∃(p:Um) (D:List Um) (g:Um->Int),xs=[.ref p]/\aZ X.K H p (D.map V.ref)/\D.length<64/\(∀t∈D,∃vs,H t=Ya (.tup vs)/\Nz str vs (g t)) /\
  ∀(Z:List Um) (l:Um),Z.Perm D->(Z.Pairwise λt u=>g t<=g u)->H l=none->Q (.ref l) (upd H l (.lst (Z.map V.ref)))):=by
 intro pins s σ H xs Z Q I r h;obtain⟨p,D,g,rfl,hq,O,ht,q⟩:=h;obtain⟨u,rfl,ru⟩:=r.one;cases ru;obtain⟨its,rv,pl,hz⟩:=I.list hq;obtain rfl:=uj rv;have G:∀t∈D,Pr s.heap str (.ref t) (g t):=λt J=>by
  obtain⟨vs,e1,e2⟩:=ht t J;exact LZ I e1 e2
 have Cf:H (s.heap.objs.size+1)=none:=I.bM.fresh (Q2 _);have fin:∀(out:Array Uj),out.toList.Perm (D.map Value.ref)->(out.toList.Pairwise λu v=>Jt s.heap str u<=Jt s.heap str v)->EP X pins σ Q (.ref (s.heap.objs.size+1)) { s with heap:=sortedAll s.heap (D.map Value.ref) out }:=λout a1 a2=>by
  obtain⟨U,e,hw⟩:=uk a1;obtain⟨c,he⟩:=sortedAll_at s.heap (D.map Value.ref) out;have hg:∀t∈U,Jt s.heap str (.ref t)=g t:=λt J=>DQ (G t (hw.mem_iff.mp J));have a3:U.Pairwise λt u=>g t<=g u:=by
   rw[e,Px]at a2;refine List.Pairwise.imp_of_mem (λ{x y} hx hy z=>?_) a2;rw[hg x hx,hg y hy]at z;exact z
  refine⟨.ref (s.heap.objs.size+1),_,I.laid (a:=s.heap.objs.size+1) (o:=.lst (U.map V.ref)) (t':=s.toks) (λb o=>sortedAll_old) (Q2 _) ⟨?_,out.toList,c,by rw[e];exact mL U,by simpa[seqObj]using he⟩,rfl,q U _ hw a3 Cf⟩;rw[OH,hw.length_eq];have:=UJ;omega
 by_cases c:2<=D.length
 .letI:=Ju s.heap str
  obtain⟨fs,k1,k2⟩:=kat_tups (h:=s.heap) (str:=str) D λt J=>⟨_,G t J⟩
  refine tu (fs:=fs) (rk:=Jt s.heap str) (T:=tyP str) (λp=>rfl) (by cases str <;> rfl) (by cases str <;> rfl) pl.isList (by rw[OH];exact c) (by rw[OH];exact O) (λA' h' hk=>?_) λout a1 a2=>fin out a1 a2;refine⟨rT hk k1,λv hv=>?_,λp hp=>?_,GB hk⟩
  .rcases k2 v hv with⟨s1,i,u,rfl⟩|⟨s1,z,u,rfl⟩
   .subst s1;exact .now
   subst s1;exact .now
  have ez:(Vt (D.map Value.ref)).toList=(D.map Value.ref).zip (D.map Value.ref):=by unfold Vt;simp
  rw[ez]at hp;obtain⟨t,J,e⟩:=OO.mp (Ru hp).1;exact⟨g t,by rw[<-e];exact G t J⟩
 refine zl pl.isList (by rw[OH];omega) (fin _ (by simp) ?_)
 match D,c with
 |[],_=>exact List.Pairwise.nil
 |[t],_=>exact Sh _ _
 |_::_::_,c=>exact Us (by simp) c
end
end L2
set_option maxHeartbeats 4000000
namespace L2T
open PySem PySem.Spec PyProof.Rows L2
section
variable {X:Cx}{pins:List (Um×U6)}{σ:L2.St}{H:Hp}{A:UG}{E:Uj->Uq->Prop}{s:Uq}{a kS:Um}{vs:List Uj}{kz:List Int}{keys:Array Uj}{e e1:Nat}{P:PySem.Fin->Uq->Prop}
theorem xY{st:UZ}(I:Inv X pins σ H s)(na:s.heap.get? a=Ya (seqObj "list" #[] e1))(nk:s.heap.get? kS=Ya (seqObj "list" keys e))(G:kS≠a)(fa:iS X pins H a)(fk:iS X pins H kS)
  (V:Vb keys.toList kz) (hlen:kz.length=vs.length) (Z:vs.length<64) (hp:(arrOf st).Perm (keys.zip vs.toArray)) (hs:SortedTo (arrOf st) (arrOf st).size) (J:V4 st=none)
  (h:∀s' out c,Inv X pins σ H s'->s'.heap.get? a=Ya (seqObj "list" out c)->XZ false kz vs out.toList->P (.done (.ret .none)) s') :
  wpAny (model X.prog X.w) A (ksk_tail a false e1 (.ref kS) st) P E s:=by
 have hsz:keys.size=vs.length:=by
  have h1:=V.length;rw[Qf]at h1;omega
 have hsz2:(arrOf st).size=vs.length:=by rw[hp.size_eq,TM,hsz,OT,R5]
 have s1:=Heap.SameBut.update s.heap kS (Obj.mapSeq λ_=>(#[]:Array Uj));have D:(s.heap.update kS (Obj.mapSeq λ_=>(#[]:Array Uj))).get? a=Ya (seqObj "list" #[] e1):=(s1.2 a G.symm).trans na;have s2:=Heap.SameBut.update (s.heap.update kS (Obj.mapSeq λ_=>(#[]:Array Uj))) a (Obj.mapSeq λ_=>(arrOf st).map (·.2));obtain⟨c2,O⟩:∃c2,((s.heap.update kS (Obj.mapSeq λ_=>(#[]:Array Uj))).update a (Obj.mapSeq λ_=>(arrOf st).map (·.2))).get? a=Ya (seqObj "list" ((arrOf st).map (·.2)) c2):=
  ⟨_,get?_update_seq D λ_=>(arrOf st).map (·.2)⟩
 unfold ksk_tail
 try dsimp only
 refine Uh (Vd nk rfl ?_ (by rw[hsz,UJ];omega) (PH _));refine Uh (VR ?_);refine Uh (VS D rfl ?_);refine Uh (Vd D rfl ?_ (PH _) (by show((arrOf st).map (·.2)).size<=_;rw[TL,hsz2,UJ];omega));rw[J];simp only[bne_self_eq_false,PF,U1];obtain⟨f0,f1,f2,f3,f4,f5⟩:=fk;obtain⟨g0,g1,g2,g3,g4,g5⟩:=fa;have I1:Inv X pins σ H { s with heap:=s.heap.update kS (Obj.mapSeq λ_=>(#[]:Array Uj)),toks:=s.toks }:=I.turned (t':=s.toks) (λb o U q=>(s1.2 b U).trans q) f0 f1 f3 f4 f5;have I2:=I1.turned (h':=(s.heap.update kS (Obj.mapSeq λ_=>(#[]:Array Uj))).update a (Obj.mapSeq λ_=>(arrOf st).map (·.2))) (t':=s.toks) (λb o U q=>(s2.2 b U).trans q) g0 g1 g3 g4 g5;refine Ur (h _ _ c2 I2 O ?_);have z:=ksk_out (b:=false) V hp hs;simpa using z
theorem GG(I:Inv X pins σ H s)(na:s.heap.get? a=Ya (seqObj "list" #[] e1))(nk:s.heap.get? kS=Ya (seqObj "list" keys e))(U:kS≠a)(fa:iS X pins H a)(fk:iS X pins H kS)
  (V:Vb keys.toList kz) (hlen:kz.length=vs.length) (G:vs.length<64)
  (h:∀s' out c,Inv X pins σ H s'->s'.heap.get? a=Ya (seqObj "list" out c)->XZ false kz vs out.toList->P (.done (.ret .none)) s') :
  wpAny (model X.prog X.w) A (ksk_end a false vs.toArray e1 (.ref kS) keys) P E s:=by
 have hsz:keys.size=vs.length:=by
  have h1:=V.length;rw[Qf]at h1;omega
 have J:(keys.zip vs.toArray).size=vs.length:=by rw[TM,hsz,OT,R5]
 unfold ksk_end
 try dsimp only
 simp only[PF,U1];by_cases O:vs.toArray.size<2
 .rw[Uo O,Uo O];refine Uh (Ur ?_);rw[StateT.run_pure];refine Uh (Ur ?_)
  try dsimp only
  refine xY (st:=SortSt.mk' general' (keys.zip vs.toArray) #[] 7 none) I na nk U fa fk V hlen G (Array.Perm.refl _) ?_ rfl h;intro i j y4 hj;have Z:j<(keys.zip vs.toArray).size:=hj;rw[J]at Z;rw[OT]at O;have:i=j:=by omega
  subst this;exact RC _
 rw[Uk O,Uk O];rw[OT]at O;rw[ksk_kind V (by rw[hsz];omega)];refine Uh (Ur ?_);have fin:∀D,(arrOf D).Perm (keys.zip vs.toArray)->V4 D=none->SortedTo (arrOf D) (keys.zip vs.toArray).size->wpAny (model X.prog X.w) A (ksk_tail a false e1 (.ref kS) D) P E s:=λD hp hf hs =>
  xY I na nk U fa fk V hlen G hp (by rw[hp.size_eq];exact hs) hf h
 refine Uh (UX (wpS_sortRuns (a₀:=keys.zip vs.toArray) (st:=SortSt.mk' oneType' (keys.zip vs.toArray) #[] 7 none)
  (Q:=λ_ D=>(arrOf D).Perm (keys.zip vs.toArray)/\V4 D=none/\SortedTo (arrOf D) (keys.zip vs.toArray).size)
  (ksk_intKeys V) ⟨Array.Perm.refl _,rfl,rfl,rfl⟩ (by rw[J];omega) (by rw[J];exact G) λD a1 a2 a3=>⟨a1,a2,a3⟩) ?_ λ_ _ e=>e)
 rintro⟨⟨⟩,D⟩ s' ⟨rfl,hp,hf,hs⟩;exact fin D hp hf hs
def vC(X:Cx)(σ:L2.St)(H:Hp)(A:UG)(f v:Uj)(k:Int):Prop:=∀(pins:List (Um×U6)) (s:Uq),Inv X pins σ H s ->
 wpAny (model X.prog X.w) A (call f [v]) (λu s'=>(∃t,u=.int k t)/\Inv X pins σ H s') (λ_ _=>False) s
theorem DV{f:Uj}(I:Inv X pins σ H s)(na:s.heap.get? a=Ya (seqObj "list" #[] e1))(nk:s.heap.get? kS=Ya (seqObj "list" #[] 0))(Z:kS≠a)(fa:iS X pins H a)(fk:iS X pins H kS)
  (hlen:kz.length=vs.length) (Jw:vs.length<64) (turn:∀(i:Nat) (v:Uj) (k:Int),vs[i]?=Ya v->kz[i]?=Ya k->vC X σ H A f v k)
  (h:∀s' out c,Inv X pins σ H s'->s'.heap.get? a=Ya (seqObj "list" out c)->XZ false kz vs out.toList->P (.done (.ret .none)) s') :
  wpAny (model X.prog X.w) A (ksk_rest a f false vs.toArray e1 (.ref kS)) P E s:=by
 unfold ksk_rest;refine Uh (Vq ?_)
 first
  |rw[List.forIn_toArray]
  |(rw[<-Rc];simp only[List.toList_toArray])
  |rw[<-Rc]
 refine Uh (ksk_fold (λi s'=>∃D e,Inv X pins σ H s'/\s'.heap.get? a=Ya (seqObj "list" #[] e1)/\s'.heap.get? kS=Ya (seqObj "list" D e)/\Vb D.toList (kz.take i)) vs 0 s
  ⟨#[],0,I,na,nk,by simpa using IntsAre.nil⟩ ?step ?done)
 case step =>
  rintro j x s' hx ⟨D,e,I',J,G,V⟩;simp only[Qh]at V⊢;have hj:j<vs.length:=(OI.mp hx).1;obtain⟨k,hkj⟩:∃k,kz[j]?=Ya k:=⟨_,OG (by omega)⟩
  have hz:D.size<=vs.length:=by
   have h1:=V.length;rw[Qf,Pu]at h1;omega
  have I2:Inv X (pins++[(a,seqObj "list" #[] e1),(kS,seqObj "list" D e)]) σ H s':=I'.uO λp hp=>by
   rcases OY.mp hp with hp|hp
   .exact I'.pin p (O4 _ hp)
   rcases Pa.mp hp with rfl|hp
   .exact⟨J,fa.1,fa.2.1,fa.2.2.1,λv z=>by cases z⟩
   rw[OS.mp hp];exact⟨G,fk.1,fk.2.1,fk.2.2.1,λv z=>by cases z⟩
  refine Uh (Vc (UX (turn j x k hx hkj _ s' I2) (λv O he=>?_) λ_ _ hF=>hF.elim));obtain⟨⟨U,rfl⟩,I3⟩:=he
  try dsimp only
  have na3:=(I3.pin (a,seqObj "list" #[] e1) (O4 _ (O4 _ (.head _)))).1;have nk3:=(I3.pin (kS,seqObj "list" D e) (O4 _ (O4 _ (.tail _ (.head _))))).1;have I4:=I3.kB;have s1:=Heap.SameBut.update O.heap kS (Obj.mapSeq (·.push (.int k U)));obtain⟨c2,hc2⟩:∃c2,(O.heap.update kS (Obj.mapSeq (·.push (.int k U)))).get? kS=Ya (seqObj "list" (D.push (.int k U)) c2):=⟨_,get?_update_seq nk3 (·.push (.int k U))⟩
  have ek:kz.take (j+1)=kz.take j++[k]:=by rw[Sd,hkj];simp
  have ea:(D.push (Value.int k U)).toList=D.toList++[Value.int k U]:=by simp
  refine Uh (Vd nk3 rfl ?_ (by rw[UJ];omega) (PD (R0 (Array.size_push ..)) (by rw[UJ];omega)));obtain⟨f0,f1,f2,f3,f4,f5⟩:=fk;refine Ur ⟨rfl,D.push (.int k U),c2,I4.turned (t':=O.toks) (λb o hb q=>(s1.2 b hb).trans q) f0 f1 f3 f4 f5,(s1.2 a Z.symm).trans na3,hc2,by rw[ea,ek];exact ksk_snoc V⟩
 case done =>
  rintro s' ⟨D,e,I',J,G,V⟩;have hk':Vb D.toList kz:=by
   have e3:kz.take (0+vs.length)=kz:=List.take_of_length_le (by omega);rw[e3]at V;exact V
  try dsimp only
  refine Uh (Wq G rfl ?_);exact GG I' J G Z fa fk hk' hlen Jw h
theorem DW{f:Uj}{n:Nat}(I:Inv X pins σ H s)(O:s.heap.get? a=Ya (seqObj "list" vs.toArray n))(fa:iS X pins H a)
  (hlen:kz.length=vs.length) (D:vs.length<64) (turn:∀(i:Nat) (v:Uj) (k:Int),vs[i]?=Ya v->kz[i]?=Ya k->vC X σ H A f v k)
  (h:∀s' out c,Inv X pins σ H s'->s'.heap.get? a=Ya (seqObj "list" out c)->XZ false kz vs out.toList->P (.done (.ret .none)) s') :
  wpAny (model X.prog X.w) A (ksk_tree a f false) P E s:=by
 have U:a<s.heap.objs.size:=O3 O;have V:=Heap.SameBut.update s.heap a (Obj.mapSeq λ_=>(#[]:Array Uj));obtain⟨e1,G⟩:∃e1,(s.heap.update a (Obj.mapSeq λ_=>(#[]:Array Uj))).get? a=Ya (seqObj "list" #[] e1):=⟨_,get?_update_seq O λ_=>#[]⟩
 have J:((s.heap.update a (Obj.mapSeq λ_=>(#[]:Array Uj))).push (seqObj "tuple" vs.toArray 0)).objs.size=s.heap.objs.size+1:=by rw[W8,RN]
 obtain⟨Z,g1,g2,g3,g4,g5⟩:=id fa;have I1:Inv X pins σ H { s with heap:=s.heap.update a (Obj.mapSeq λ_=>(#[]:Array Uj)),toks:=s.toks }:=I.turned (t':=s.toks) (λb o hb q=>(V.2 b hb).trans q) Z g1 g3 g4 g5;have I2:Inv X pins σ H { s with heap:=((s.heap.update a (Obj.mapSeq λ_=>(#[]:Array Uj))).push (seqObj "tuple" vs.toArray 0)).push (seqObj "list" #[] 0),toks:=s.toks }:=I1.kept (t':=s.toks) λb o q=>OM _ (OM _ q);unfold ksk_tree;refine Uh (Wq O rfl ?_);refine Uh (Vd O rfl ?_ (by rw[OT,UJ];omega) (PH _));refine Uh (VS G rfl ?_);refine Uh (V3 ?_ (by show vs.length<=_;rw[UJ];omega));refine Uh (Vo ?_ (PH _));refine UD ?_;have fk:iS X pins H ((s.heap.update a (Obj.mapSeq λ_=>(#[]:Array Uj))).push (seqObj "tuple" vs.toArray 0)).objs.size:=by
  rw[J];exact I.uQ (Q2 _) (I.bM.fresh (Q2 _))
 refine DV (s:={ s with heap:=((s.heap.update a (Obj.mapSeq λ_=>(#[]:Array Uj))).push (seqObj "tuple" vs.toArray 0)).push (seqObj "list" #[] 0) }) (kS:=((s.heap.update a (Obj.mapSeq λ_=>(#[]:Array Uj))).push (seqObj "tuple" vs.toArray 0)).objs.size)
  I2 (OM _ (OM _ G)) (O6 _ rfl) (by rw[J];exact QS (Qa U)) fa fk hlen D turn h
end
section
variable {X:Cx}{pins:List (Um×U6)}{σ:L2.St}{H:Hp}{E:Uj->Uq->Prop}{s:Uq}{A:UG}{l:Um}{vs:List Uj}{kz:List Int}{Q:Uj->Uq->Prop}
theorem zr{q:Um}(I:Inv X pins σ H s)(U:s.heap.IsList l vs.toArray)(hlen:kz.length=vs.length)(J:vs.length<64)
  (turn:∀(i:Nat) (v:Uj) (k:Int),vs[i]?=Ya v->kz[i]?=Ya k->vC X σ H A.in1.in1 (.ref q) v k)
  (h:∀D s' out c,Inv X pins σ H s'->s'.heap.get? D=Ya (seqObj "list" out c)->iS X pins H D->XZ false kz vs out.toList->Q (.ref D) s') :
  wpAny (model X.prog X.w) A (call (.builtin "sorted") [.ref l] [(Str.ofString "key",.ref q)]) Q E s:=by
 refine call_function_entry_kw WL Wr Ws (ksk_s1 _ _) ?_;unfold Builtin.«sorted»;refine Uh (m:=W9 "sorted" 1 1 _) (Ur ?_);refine Uh (Xi U ?_ (by rw[UJ];omega));refine Uh (Vo ?_ (by rw[UJ];omega));have hsz:((s.heap.push (seqObj "list" #[] 0)).update s.heap.objs.size (Obj.mapSeq (· ++ vs.toArray))).objs.size=s.heap.objs.size+1:=by
  rw[RN,W8]
 have O:(((s.heap.push (seqObj "list" #[] 0)).update s.heap.objs.size (Obj.mapSeq (· ++ vs.toArray))).push (seqObj "list" vs.toArray 0)).get? (s.heap.objs.size+1)=Ya (seqObj "list" vs.toArray 0):=by
  rw[<-hsz];exact O6 _ rfl
 have keep:∀b o,s.heap.get? b=Ya o->(((s.heap.push (seqObj "list" #[] 0)).update s.heap.objs.size (Obj.mapSeq (· ++ vs.toArray))).push (seqObj "list" vs.toArray 0)).get? b=Ya o:=λb o q=>by
  have G:b<s.heap.objs.size:=O3 q;rw[RD _ _ _ (by rw[hsz];exact Pd (Qa G)),RW _ _ _ _ (Pd G),RD _ _ _ (Pd G)];exact q
 show wpAny _ _ _ _ _ { s with heap:=((s.heap.push (seqObj "list" #[] 0)).update s.heap.objs.size (Obj.mapSeq (· ++ vs.toArray))).push (seqObj "list" vs.toArray 0) };rw[hsz];refine Uh (UD (wpAny_call_entry_kw slot_list_sort ⟨_,O,rfl⟩ entry_list_sort ?body (ksk_l1 _ _)))
 case body =>
  show wpAny (model X.prog X.w) A.in1.in1 (Builtin.«list.sort» ⟨[.ref (s.heap.objs.size+1)],[(Str.ofString "key",.ref q)]⟩) _ _ _;rw[ksk_t1];refine DW (s:={ s with heap:=((s.heap.push (seqObj "list" #[] 0)).update s.heap.objs.size (Obj.mapSeq (· ++ vs.toArray))).push (seqObj "list" vs.toArray 0) }) (I.kept (t':=s.toks) keep) O (I.uQ (Q2 _) (I.bM.fresh (Q2 _))) hlen J turn λV out c Z n3 k3=>⟨_,rfl,?_⟩
  exact Ur ⟨_,rfl,h _ V out c Z n3 (I.uQ (Q2 _) (I.bM.fresh (Q2 _))) k3⟩
end
end L2T
namespace L2
open PySem PySem.Spec PyProof.Rows
section
variable {X:Cx}
def GH(K:OJ)(sp:Sp)(O:TA):TE:=λσ H Q=>O σ H λU D=>∃(l:Um) (xs:List V) (kz:List Int),U=[.ref l]/\aZ K D l xs/\kz.length=xs.length/\xs.length<64 /\
 (∀(i:Nat) (v:V) (k:Int),xs[i]?=Ya v->kz[i]?=Ya k->∀J:VK,J (.int k) D->sp [v] D J (λ_ _ _=>False)) /\
 ∀(l':Um) (G:List (Int×V)),G.Perm (kz.zip xs)->G.Pairwise (λp q=>p.1<=q.1)->D l'=none->Q (.ref l') (upd D l' (.lst (G.map (·.2))))
theorem BO{x:UI}{st:Vp}{p1:UI}{f:Um}{fd:Uz}{k:Nat}{sp:Sp}{e:UL}{t:TA}{p pos kp np:VL}(hg:Gl X "sorted")(hm:X.mg "sorted" = none)(G:aO X.prog X.w X.K X.mg X.base dq k f fd [p1] sp)(F:Fn X.K X.mg x st [p1] f fd)(hr:eJ (k+2) X.A)(ha:PA X [e] t)
  (hgx:Gl X x:=by rfl) (I0:(x==("__debug__":UI))=false:=by decide) (hs:UC [e] X.env=[(false,eval e X.env)]:=by rfl) :
  PE X (.Call (.Name "sorted" p) [e] [⟨Ya "key",.Name x np,kp⟩] pos) (GH X.K sp t):=by
 intro pins s σ H Q I h;refine Vi (mB I hg hm lF ?_);refine TN (rest:=[]) (cL (ha pos pins s σ H _ I h) λus s1 ⟨vs,H1,I1,r1,q1⟩=>?_) (by rw[hs];rfl) (by rw[hs];rfl) rfl rfl;refine cL (FN (nm:=Ya "key") (kpos:=kp) (iW (v:=.ref f) hgx F.g rfl I0) IA pos pins s1 σ H1 _ I1 (show tV (tC (.ref f)) FL σ H1 (λzs V=>zs=[.ref f]/\V=H1)from⟨rfl,rfl⟩)) λks s2 zq=>?_;obtain⟨zs,V,I2,rz,q2⟩:=zq;obtain⟨rfl,e2⟩:=q2;subst e2;obtain⟨ku,rfl,rk⟩:=rz.one;cases rk;obtain⟨l,xs,kz,rfl,hq,hlen,Jw,hk,q⟩:=q1;obtain⟨lu,rfl,rl⟩:=r1.one;cases rl;show wpAny _ _ (call (.builtin "sorted") [.ref l] [(Str.ofString "key",.ref f)]) _ _ _;obtain⟨its,rv,pl,hz⟩:=I2.list hq;have hli:=rv.length;refine L2T.zr (kz:=kz) I2 pl.isList (by omega) (by omega) (λi v kk hv hki=>?_) λD s3 out c I3 hD fD ho=>?_
 .intro ac1 s' I';obtain⟨hi,ei⟩:=OI.mp hv;obtain⟨y,hy,ry⟩:=ic rv (show i<its.toArray.size by rw[OT];exact hi);have ry:RelV y v:=by
   have z:its.toArray[i]'(by rw[OT];exact hi)=its[i]:=by simp
   rw[z,ei]at ry;exact ry
  have Fh:=hk i y kk hy hki (λv' H'=>v'=.int kk/\H'=V) ⟨rfl,rfl⟩;refine Wh (VE (G.run X.A.in1.in1 X.stack s' V ⟨[v],[]⟩ [v] [y] _ _ hr.in1.in1 I'.Iy.in1.in1 (F.b s' [v] I'.Be rfl) (.cons ry .nil) Fh) λr s'' J=>?_);cases r with
  |error e=>exact J.elim
  |ok fl =>
   cases fl with
   |ret u =>
    obtain⟨y',H',I'',ry',rfl,rfl⟩:=I'.after J;exact⟨ry',I''⟩
   |next=>exact False.elim J
   |brk=>exact False.elim J
   |cont=>exact False.elim J
 obtain⟨ps,hp,ho2,hpw⟩:=ho;obtain⟨U,Z,hqa⟩:=DD hp (AB rv kz);have aau:=AD hqa;have O:Vals (U.map (·.2)) out.toList:=by rw[ho2];exact xE hqa
 have aav:U.Pairwise λp q=>p.1<=q.1:=by
  have z:(ps.map (·.1)).Pairwise (·<=·):=by rw[Px];exact hpw.imp λh=>by simpa using h
  rw[aau,Px]at z;exact z
 have HG:(U.map (·.2)).length<=sizeLine:=by
  rw[OH,Z.length_eq,TF];have:=UJ;omega
 exact⟨.ref D,_,I3.adopt fD (show cQ X.prog X.w (upd V D (.lst (U.map (·.2)))) s3.heap D (.lst (U.map (·.2)))from⟨HG,out.toList,c,O,by simpa[seqObj]using hD⟩),rfl,q D U Z aav fD.1⟩
end
end L2
namespace aI
open PySem L2
noncomputable def lf(x:Th.Kd×Nat):List V:=[.str (ks x.1),.int (x.2:Nat)]
noncomputable def both(l:List Th.Kd):Bool:=decide (Th.Kd.bare∈l)&&decide (Th.Kd.tied∈l)
theorem iz(k:Th.Kd):∀l:List Th.Kd,Hv (.str (ks k)) (l.map λx=>V.str (ks x))=decide (k∈l)
 |[]=>rfl
 |y::r=>by
  have D:=iz k r;unfold Hv at D⊢;rw[Po,Rv,D];show((ks y==ks k)||decide (k∈r))=decide (k∈y::r);by_cases c:k=y
  .subst c;rw[Ul (O1 (a:=k) (l:=r)),US,TY]
  have G:(ks y==ks k)=false:=by
   rw[beq_eq_false_iff_ne];exactλz=>c (oN _ _ z).symm
  rw[G,TQ];exact decide_eq_decide.mpr ⟨λz=>O0 _ z,λz=>(Pa.mp z).resolve_left c⟩
theorem iJ(l:List Th.Kd):(l.map λx=>V.str (ks x)).all jX=true:=by
 rw[Rq];intro v D;obtain⟨x,_,rfl⟩:=OO.mp D
 rfl
theorem ft.L3{α:Type}{f:α->List V}{H H':Hp}{l d:Um}{xs:List α}{J:List (Key×V)}(h:ft f H l xs)(hd:H d=Ya (.dK J))(s:∀c o,c≠d->H c=Ya o->H' c=Ya o):ft f H' l xs:=by
 obtain⟨O,D,U,G⟩:=h;exact⟨O,s _ _ (λz=>by rw[z,hd]at D;cases D) D,U,λi t x e1 e2=>s _ _ (λz=>by have q:=G i t x e1 e2;rw[z,hd]at q;cases q) (G i t x e1 e2)⟩
noncomputable def cy(n:Nat)(ms os:List Nat)(i:Nat):List (Th.Kd×Nat):=(Th.LL (ar ms) (ar os) i).map λm=>(Th.kd (ar ms) (ar os) m,Th.lack (2*n) (ar ms) (ar os) m)
open Classical in
theorem rX(n:Nat)(ms os:List Nat)(i:Nat):cy n ms os (i+1)=cy n ms os i++(if Th.bB (ar ms) (ar os) i then[(Th.kd (ar ms) (ar os) i,Th.lack (2*n) (ar ms) (ar os) i)]else[]):=by
 unfold cy;rw[Th.GA,O5];congr 1
 split <;> rfl
theorem uo(n:Nat)(ms os:List Nat)(i:Nat):(cy n ms os i).length<=i:=by unfold cy;rw[OH];exact Th.Jl i
theorem bW.lacks{n:Nat}{ms os:List Nat}{D:List (Th.Kd×List Nat)}(W:ak n ms)(G:ak n os)(h:bW n ms os D):D.map (λth=>(th.1,Th.cT th))=cy n ms os (2*n):=Th.BL (bJ W G) h.1 h.2
variable (K:OJ)
def fL(C:Um):Sp:=λG H Q E=>∃(a b:Um) (n m:Nat) (ms os:List Nat),G=[.ref a,.ref b]/\n<=31/\br K H a (nV ms)/\ak n ms/\br K H b (nV os)/\os.length=2*m /\
 (n=m->ak n os/\∀(l:Um) (H':Hp) (D:List (Th.Kd×List Nat)),aE H H'->bW n ms os D->nK H' l D->H l=none->Q (.ref l) H')/\(n≠m->E (.ref C) none H)
def xZ(C:Um):Sp:=λD H Q E=>∃(a b:Um) (n m:Nat) (ms os:List Nat),D=[.ref a,.ref b]/\n<=31/\br K H a (nV ms)/\ak n ms/\br K H b (nV os)/\os.length=2*m /\
 (n=m->ak n os/\∀H':Hp,aE H H'->Q (.int (Th.score (ar ms) (ar os) (2*n):Nat)) H')/\(n≠m->E (.ref C) none H)
def x8(C:Um):Sp:=λD H Q E=>∃(a b:Um) (n m:Nat) (ms os:List Nat),D=[.ref a,.ref b]/\n<=31/\br K H a (nV ms)/\ak n ms/\br K H b (nV os)/\os.length=2*m /\
 (n=m->ak n os/\∀H':Hp,aE H H'->Q (.int (aC n ms os:Nat)) H')/\(n≠m->E (.ref C) none H)
def GI:Sp:=λD H Q _=>∃(a b:Um) (n:Nat) (ms os:List Nat),D=[.ref a,.ref b]/\H a=Ya (.lst (nV ms))/\ak n ms/\H b=Ya (.lst (nV os))/\ak n os /\
 ∀(l:Um) (H':Hp),aE H H'->ft lf H' l (cy n ms os (2*n))->Q (.ref l) H'
def GJ:Sp:=λD H Q _=>∃(l:Um) (xs:List (Th.Kd×Nat)),D=[.ref l]/\ft lf H l xs/\xs.length<=100/\∀H':Hp,aE H H'->Q (.bl (both (xs.map (·.1)))) H'
def vD:Sp:=λG H Q _=>∃(l:Um) (D:List (Th.Kd×List Nat)),G=[.ref l]/\nK H l D/\D.length<=100/\∀H':Hp,aE H H'->Q (.bl (both (D.map (·.1)))) H'
def x9:Sp:=λD H Q _=>∃(t e:Um) (k:Th.Kd) (L:List Nat),D=[.ref t]/\H t=Ya (.tup [.str (ks k),.ref e])/\H e=Ya (.tup (nV L))/\(k=.ring->2<=L.length)/\Q (.int (Th.cT (k,L):Nat)) H
def zt:Sp:=λG H Q _=>∃(l:Um) (D:List Nat),G=[.ref l]/\H l=Ya (.lst (nV D))/\D.sum<=12/\Q (.int (Th.jJ 1 0 D:Nat)) H
def uq:Sp:=λD H Q _=>∃(s c:Nat),D=[.int ((s+c:Nat):Int),.int (c:Nat)]/\s+c<=12/\Q (.int (Th.ch (s+c) c:Nat)) H
def DX:Sp:=λD H Q _=>∃(c:Nat),D=[.int (c:Nat)]/\c<=12/\Q (.int ((c+1) ^ (c-1):Nat)) H
def aP(n:Nat)(ms os:List Nat):Prop:=both ((cy n ms os (2*n)).map (·.1))=false
noncomputable def mj(n:Nat)(ms os:List Nat):Nat:=Th.jJ 1 0 ((cy n ms os (2*n)).map (·.2))
end aI
namespace L2
open PySem PySem.Spec PyProof.Rows
theorem BP{X:Cx}{K:OJ}(O:X.K=K)(D:X.A.units<cLine):kl X (UQ .Eq) (λx y H Q=>∃(a b:Um) (xs:List V),x=.ref a/\y=.ref b/\aZ K H a xs/\aZ K H b []/\Q (.bl (decide (xs.length=0))) H):=by
 subst O;intro pins s σ H x y v u Q I U Z h;obtain⟨a,b,xs,rfl,rfl,ha,hb,q⟩:=h;cases U;cases Z;obtain⟨i1,r1,G,z1⟩:=I.list ha;obtain⟨i2,r2,J,z2⟩:=I.list hb;have l1:xs.length=i1.length:=r1.length;have l2:0=i2.length:=r2.length;by_cases c:xs.length=0
 .refine SeqAt.eq_listAt (e:=λj=>true) G.isList J.isList (by simp only[OT];omega) D (λj h1 h2=>?_) ⟨.bl (decide (xs.length=0)),H,I,?_,q⟩
  .exfalso;simp only[OT]at h1;omega
  show Value.bool _=Value.bool _;congr 1;rw[Ul c];exact Rq.mpr λ_ _=>rfl
 refine SeqAt.eq_list_lengthsAt G.isList J.isList (by simp only[OT,bne_iff_ne];omega) D ⟨.bl (decide (xs.length=0)),H,I,?_,q⟩;show Value.bool _=Value.bool _;rw[Up c]
end L2
namespace aI
open PySem L2
open Classical
section
variable {n:Nat}{ms os:List Nat}{l:List (Nat×Nat)}{G:List (List Key×V)}
theorem Jx(D:n<=5):(kT (2*n) (2*n)).length<=55:=by
 have h:n=0\/n=1\/n=2\/n=3\/n=4\/n=5:=by omega
 rcases h with rfl|rfl|rfl|rfl|rfl|rfl <;> decide
end
variable (K:OJ)
noncomputable def dF(n:Nat)(os ms:List Nat):List (Nat×Nat):=rV n ms os (kT (2*n) (2*n))
section
variable {n:Nat}{ms os:List Nat}
theorem cO{c:Nat×Nat}(h:c∈dF n os ms):c.1<=c.2/\c.2<2*n/\ar ms c.1≠c.2/\aC n (bN ms c.1 c.2) os+1=aC n ms os:=by
 unfold dF rV at h;rw[OZ,jq,Uy]at h;exact⟨h.1.2.1,h.1.2.2,h.2.1,h.2.2.2⟩
end
variable (K:OJ)
end aI
namespace gB
open Th Classical
structure dI(N:Nat) (a b a' b' φ ψ:Nat->Nat):Prop where
 T:cq N a b
 T':cq N a' b'
 pl:∀x,x<N->φ x<N
 ql:∀x,x<N->ψ x<N
 qp:∀x,x<N->ψ (φ x)=x
 pq:∀x,x<N->φ (ψ x)=x
 fa:∀x,x<N->φ (a x)=a' (φ x)
 fb:∀x,x<N->φ (b x)=b' (φ x)
noncomputable def kc:Kd->Nat
 |.ring=>0
 |.odd=>1
 |.bare=>2
 |.tied=>3
section
variable {N:Nat}{a b a' b' φ ψ:Nat->Nat}
theorem dI.symm(I:dI N a b a' b' φ ψ):dI N a' b' a b ψ φ where
 T:=I.T'
 T':=I.T
 pl:=I.ql
 ql:=I.pl
 qp:=I.pq
 pq:=I.qp
 fa:=λy D=>by
  have G:=I.ql y D;have J:=I.fa _ G;rw[I.pq y D]at J;rw[<-J,I.qp _ (I.T.fl _ G)]
 fb:=λy D=>by
  have G:=I.ql y D;have J:=I.fb _ G;rw[I.pq y D]at J;rw[<-J,I.qp _ (I.T.gl _ G)]
theorem dI.inj(I:dI N a b a' b' φ ψ){x y:Nat}(D:x<N)(G:y<N):φ x=φ y↔x=y :=
 ⟨λh=>by rw[<-I.qp x D,h,I.qp y G],λh=>by rw[h]⟩
theorem dI.to(I:dI N a b a' b' φ ψ){x y:Nat}(D:x<N)(c:aB a b x y):aB a' b' (φ x) (φ y):=
 (c (λz=>z<N/\aB a' b' (φ x) (φ z)) ⟨D,aB.refl _⟩ λz ⟨hz,q⟩=>⟨⟨I.T.fl z hz,by rw[I.fa z hz];exact q.sf⟩,⟨I.T.gl z hz,by rw[I.fb z hz];exact q.sg⟩⟩).2
theorem dI.conn(I:dI N a b a' b' φ ψ){x y:Nat}(D:x<N)(G:y<N):aB a b x y↔aB a' b' (φ x) (φ y):=
 ⟨I.to D,λc=>by have z:=I.symm.to (I.pl x D) c;rwa[I.qp x D,I.qp y G]at z⟩
theorem dI.la(I:dI N a b a' b' φ ψ){x:Nat}(D:x<N):a x=x↔a' (φ x)=φ x:=by rw[<-I.fa x D,I.inj (I.T.fl x D) D]
theorem dI.lb(I:dI N a b a' b' φ ψ){x:Nat}(D:x<N):b x=x↔b' (φ x)=φ x:=by rw[<-I.fb x D,I.inj (I.T.gl x D) D]
theorem dI.DY(I:dI N a b a' b' φ ψ){x:Nat}(D:x<N)(h:cH a b x):cH a' b' (φ x):=by
 obtain⟨u,c,e⟩:=h;exact⟨φ u,I.to D c,(I.la (c.lt I.T D)).mp e⟩
theorem dI.DZ(I:dI N a b a' b' φ ψ){x:Nat}(D:x<N)(h:cZ a b x):cZ a' b' (φ x):=by
 obtain⟨u,c,e⟩:=h;exact⟨φ u,I.to D c,(I.lb (c.lt I.T D)).mp e⟩
theorem dI.GK(I:dI N a b a' b' φ ψ){x:Nat}(D:x<N):cH a b x↔cH a' b' (φ x):=⟨I.DY D,λh=>by have z:=I.symm.DY (I.pl x D) h;rwa[I.qp x D]at z⟩
theorem dI.GL(I:dI N a b a' b' φ ψ){x:Nat}(D:x<N):cZ a b x↔cZ a' b' (φ x):=⟨I.DZ D,λh=>by have z:=I.symm.DZ (I.pl x D) h;rwa[I.qp x D]at z⟩
theorem AN{x:Nat}:gf a b x↔cH a b x/\cZ a b x:=Iff.rfl
theorem dI.kd(I:dI N a b a' b' φ ψ){x:Nat}(D:x<N):kd a b x=kd a' b' (φ x):=by
 have e2:cH a b x=cH a' b' (φ x):=propext (I.GK D);have e3:cZ a b x=cZ a' b' (φ x):=propext (I.GL D);have e1:gf a b x=gf a' b' (φ x):=propext (by rw[AN,AN,e2,e3]);unfold Th.kd;simp only[e1,e2,e3]
theorem dI.D0(I:dI N a b a' b' φ ψ){x:Nat}(D:x<N):(eG N a b x).length<=(eG N a' b' (φ x)).length:=by
 have C:=kQ I.T D;have J:=kQ I.T' (I.pl x D);refine m9 φ C.nd (λu G v O e=>?_) λu G=>?_
 .exact(I.inj (((C.mem u).mp G).lt I.T D) (((C.mem v).mp O).lt I.T D)).mp e
 exact(J.mem _).mpr (I.to D ((C.mem u).mp G))
theorem dI.len(I:dI N a b a' b' φ ψ){x:Nat}(D:x<N):(eG N a b x).length=(eG N a' b' (φ x)).length:=by
 have J:=I.D0 D;have G:=I.symm.D0 (I.pl x D);rw[I.qp x D]at G;omega
theorem dI.perm(I:dI N a b a' b' φ ψ):((OV N).map φ).Perm (OV N):=by
 refine(P0 (eZ PL λx G y D e=>(I.inj (OX.mp G) (OX.mp D)).mp e) PL).mpr λy=>?_;rw[OO,OX];constructor
 .rintro⟨x,G,rfl⟩;exact I.pl x (OX.mp G)
 intro D;exact⟨ψ y,OX.mpr (I.ql y D),I.pq y D⟩
theorem nO{l m:List Nat}(h:l.Perm m):l.sum=m.sum:=h.sum_nat
theorem dI.whole(I:dI N a b a' b' φ ψ){x:Nat}(D:x<N)(h:bq a b x):bq a' b' (φ x):=λy c=>by
 have G:=c.lt I.T' (I.pl x D);have z:=I.symm.to (I.pl x D) c;rw[I.qp x D]at z;obtain⟨J,O⟩:=h _ z;exact⟨λe=>J ((I.symm.la G).mp e),λe=>O ((I.symm.lb G).mp e)⟩
theorem dI.HH(I:dI N a b a' b' φ ψ):(OL a b N).length<=(OL a' b' N).length:=by
 refine m9 φ Df (λu G v J e=>(I.inj (fJ.mp G).1 (fJ.mp J).1).mp e) λu G=>?_;obtain⟨D,O,z,c,U⟩:=fJ.mp G;exact fJ.mpr ⟨I.pl u D,(I.la D).mp O,φ z,I.to D c,(I.lb (c.lt I.T D)).mp U⟩
noncomputable def lst(N:Nat)(a b:Nat->Nat)(x:Nat):Nat:=if h:∃m,aB a b x m/\m<N/\bB a b m then Sl h else 0
theorem lst_is(T:cq N a b){x:Nat}(D:x<N):aB a b x (lst N a b x)/\lst N a b x<N/\bB a b (lst N a b x):=by
 have h:=kJ T D;unfold lst;rw[Wn h];exact QB h
theorem dI.HI(I:dI N a b a' b' φ ψ):(RL a b N).length<=(RL a' b' N).length:=by
 refine m9 (λu=>lst N a' b' (φ u)) Ao (λu G v U e=>?_) λu G=>?_
 .obtain⟨D,J,O⟩:=bI.mp G;obtain⟨k1,k2,k3⟩:=bI.mp U;have c1:=(lst_is I.T' (I.pl u D)).1;have c2:=(lst_is I.T' (I.pl v k1)).1;have c:aB a b u v:=(I.conn D k1).mpr (c1.trans (by rw[e];exact c2.symm I.T' (I.pl v k1)));have z1:=J v c;have z2:=k2 u (c.symm I.T D);omega
 obtain⟨D,J,O⟩:=bI.mp G;obtain⟨c,V,Z⟩:=lst_is I.T' (I.pl u D);exact bI.mpr ⟨V,Z,(I.whole D O).of I.T' (I.pl u D) c⟩
theorem dI.score(I:dI N a b a' b' φ ψ):score a b N=score a' b' N:=by
 have D:=I.HH;have G:=I.symm.HH;have J:=I.HI;have O:=I.symm.HI;unfold Th.score;omega
theorem dI.bN(I:dI N a b a' b' φ ψ){p q x:Nat}(hp:p<N)(D:q<N)(G:x<N):φ (aI.cE a p q x)=aI.cE a' (φ p) (φ q) (φ x):=by
 have J:=I.T.fl p hp;have O:=I.T.fl q D;have e1:=I.inj hp D;have e2:=I.inj G hp;have e3:=I.inj G D;have e4:=I.inj G J;have e5:=I.inj G O;have e6:=I.inj O D;have e7:=I.inj J hp;have U:=I.fa p hp;have V:=I.fa q D;have Z:=I.fa x G;unfold aI.cE;rw[<-U,<-V,<-Z];simp only[e1,e2,e3,e4,e5,e6,e7,ne_eq]
 repeat' split
 all_goals first|rfl|exact U|exact V|exact Z
end
open aI
noncomputable def iK(n:Nat)(os ms:List Nat):List (List Nat):=(dF n os ms).map λc=>bN ms c.1 c.2
section
variable {n:Nat}{ms os:List Nat}
theorem qD(W:ak n ms){w:List Nat}:w∈iK n os ms↔(∃p q,kP n ms w p q)/\aC n w os+1=aC n ms os:=by
 unfold iK;rw[OO];constructor
 .rintro⟨c,hc,rfl⟩;obtain⟨G,J,O,U⟩:=cO hc;exact⟨⟨c.1,c.2,G,J,O,rfl⟩,U⟩
 rintro⟨⟨p,q,G,J,O,rfl⟩,U⟩;have L:=ig W G J O;obtain⟨⟨V,Z,l3,D⟩,hm⟩:=L;refine⟨eu ms p q,?_,D⟩;unfold dF rV;rw[OZ,jq,Uy];refine⟨⟨by omega,V,Z⟩,l3,?_,by rw[D];exact U⟩;have L2:=ig W V Z l3;rw[D]at L2;obtain⟨z1,z2⟩:=L2.uniq ⟨⟨V,Z,l3,D⟩,hm⟩;exact R4 z1 z2
theorem Ea:(dF n os ms).Nodup:=by
 unfold dF rV;refine List.Pairwise.filter _ ?_;by_cases h:2*n<=1000
 .exact(oQ h (2*n)).imp λz e=>by rw[e]at z;omega
 unfold kT;rw[QC];refine⟨λp _=>?_,?_⟩
 .unfold DR;exact eZ PL λx _ y _ e=>by have:=(Prod.mk.inj e).2;omega
 refine PL.imp λ{x y} e c D d hd z=>?_;have G:=(jo.mp D).1;have J:=(jo.mp hd).1;exact e (by rw[<-G,<-J,z])
theorem Eb(W:ak n ms):(iK n os ms).Nodup:=by
 unfold iK;refine eZ Ea λc O d hd e=>?_;have D:=O;have G:=hd;unfold dF rV at D G;rw[OZ,jq,Uy]at D G;obtain⟨⟨_,c1,c2⟩,U,c4,_⟩:=D;obtain⟨⟨_,d1,d2⟩,d3,d4,_⟩:=G;have J:=ig W c1 c2 U;have L2:=ig W d1 d2 d3;rw[c4]at J;rw[d4,<-e]at L2;obtain⟨V,Z⟩:=J.uniq L2;exact R4 V Z
end
noncomputable def nP(φ ψ:Nat->Nat)(w:List Nat):List Nat:=(OV w.length).map λy=>φ (ar w (ψ y))
theorem iL(φ ψ:Nat->Nat)(w:List Nat):(nP φ ψ w).length=w.length:=by unfold nP;rw[OH,OW]
theorem nQ(φ ψ:Nat->Nat){w:List Nat}{y:Nat}(h:y<w.length):ar (nP φ ψ w) y=φ (ar w (ψ y)):=by
 unfold nP ar;simp[QK,OR,Qv h]
section
variable {n:Nat}{ms os fZ gN:List Nat}{φ ψ:Nat->Nat}
theorem qE{n:Nat}{ms:List Nat}(D:n<=40)(G:ms.length=2*n)(J:∀x,x<2*n->ar ms x<2*n)(O:∀x,x<2*n->ar ms (ar ms x)=x):ak n ms:=⟨D,G,⟨J,O⟩⟩
abbrev pY(n:Nat)(ms os fZ gN:List Nat)(φ ψ:Nat->Nat):Prop:=dI (2*n) (ar ms) (ar os) (ar fZ) (ar gN) φ ψ
theorem oR(I:pY n ms os fZ gN φ ψ){w:List Nat}(W:ak n w):ak n (nP φ ψ w):=by
 have L:=iL φ ψ w;have A:=λy (h:y<2*n)=>nQ φ ψ (w:=w) (y:=y) (by rw[W.len];exact h);refine qE W.small (by rw[L,W.len]) (λx D=>?_) λx D=>?_
 .rw[A x D];exact I.pl _ (W.wk.lt _ (I.ql x D))
 have z:=W.wk.lt _ (I.ql x D);rw[A x D,A _ (I.pl _ z),I.qp _ z,W.wk.inv _ (I.ql x D),I.pq x D]
theorem ya(I:pY n ms os fZ gN φ ψ){w:List Nat}(W:ak n w):pY n w os (nP φ ψ w) gN φ ψ where
 T:=⟨W.wk.lt,I.T.gl,W.wk.inv,I.T.gg⟩
 T':=⟨(oR I W).wk.lt,I.T'.gl,(oR I W).wk.inv,I.T'.gg⟩
 pl:=I.pl
 ql:=I.ql
 qp:=I.qp
 pq:=I.pq
 fa:=λx D=>by rw[nQ φ ψ (by rw[W.len];exact I.pl x D),I.qp x D]
 fb:=I.fb
theorem oS(I:pY n ms os fZ gN φ ψ){w:List Nat}(W:ak n w):nP ψ φ (nP φ ψ w)=w:=by
 refine jI (by rw[iL,iL]) λe G=>?_;rw[iL,iL]at G;have D:e<2*n:=by rw[<-W.len];exact G
 rw[nQ ψ φ (by rw[iL];exact G),nQ φ ψ (by rw[W.len];exact I.pl e D),I.qp e D,I.qp _ (W.wk.lt e D)]
theorem zu(I:pY n ms os fZ gN φ ψ)(W:ak n ms)(G:ak n fZ){w:List Nat}(h:∃p q,kP n ms w p q):∃p q,kP n fZ (nP φ ψ w) p q:=by
 obtain⟨p,q,h1,J,Z,rfl⟩:=h;have hp:p<2*n:=by omega
 have key:∀e,e<2*n->ar (nP φ ψ (bN ms p q)) e=cE (ar fZ) (φ p) (φ q) e:=λe D=>by
  have O:=I.ql e D;rw[nQ φ ψ (by rw[dR,W.len];exact D),dw (by rw[W.len];exact O),I.bN hp J O,I.pq e D]
 have U:ar fZ (φ p)≠φ q:=λz=>Z ((I.inj (W.wk.lt p hp) J).mp (by rw[I.fa p hp];exact z));have V:(nP φ ψ (bN ms p q)).length=2*n:=by rw[iL,dR,W.len]
 by_cases c:φ p<=φ q
 .refine⟨φ p,φ q,c,I.pl q J,U,jI (by rw[dR,G.len,V]) λe D=>?_⟩;rw[dR]at D;rw[dw D,key e (by rw[<-G.len];exact D)]
 have ne:φ q≠φ p:=by omega
 refine⟨φ q,φ p,by omega,I.pl p hp,λz=>U (by rw[<-z,G.wk.inv _ (I.pl q J)]),jI (by rw[dR,G.len,V]) λe D=>?_⟩;rw[dR]at D;rw[dw D,key e (by rw[<-G.len];exact D),lM ne]
theorem cI{ms os:List Nat}(W:ak n ms)(D:ak n os):aC n ms os=0↔ms=os:=by
 have T:=bJ W D;have le:=jj T;constructor
 .intro h;unfold aC at h;exact jI (by rw[W.len,D.len]) λe G=>(rj T).mp (by omega) e (by rw[<-W.len];exact G)
 intro h;subst h;have:=(rj T).mpr λ_ _=>rfl;unfold aC;omega
theorem lP(I:pY n ms os fZ gN φ ψ):aC n ms os=aC n fZ gN:=by unfold aC;rw[I.score]
theorem yb(I:pY n ms os fZ gN φ ψ)(W:ak n ms)(D:ak n fZ){w:List Nat}(h:w∈iK n os ms):nP φ ψ w∈iK n gN fZ:=by
 obtain⟨G,J⟩:=(qD W).mp h;obtain⟨p,q,Z,O,U,rfl⟩:=id G;have V:=dy W (by omega) O U;exact(qD D).mpr ⟨zu I W D G,by rw[<-lP (ya I V),<-lP I];exact J⟩
theorem kX(W:ak n ms){w:List Nat}(h:w∈iK n os ms):ak n w:=by
 obtain⟨⟨p,q,J,D,G,rfl⟩,_⟩:=(qD W).mp h;exact dy W (by omega) D G
theorem Ec(I:pY n ms os fZ gN φ ψ)(W:ak n ms)(D:ak n fZ):((iK n os ms).map (nP φ ψ)).Perm (iK n gN fZ):=by
 refine(P0 (eZ (Eb W) λx G y J e=>?_) (Eb D)).mpr λw=>?_
 .rw[<-oS I (kX W G),e,oS I (kX W J)]
 rw[OO];constructor
 .rintro⟨x,G,rfl⟩;exact yb I W D G
 intro hw;exact⟨nP ψ φ w,yb I.symm D W hw,oS I.symm (kX D hw)⟩
end
noncomputable def mt(t:Nat)(k:Nat)(l i:Nat):Nat:=bif Td ((t+i)%2) 0 then(bif Nat.blt (i+1) l then i+1 else bif Td k 0 then 0 else i)else(bif Td i 0 then(bif Td k 0 then l-1 else 0)else i-1)
noncomputable def tn(k:Nat):Nat:=bif Td k 1||Td k 2 then 1 else 0
noncomputable def wM(u:Nat)(D:Nat):List Nat->List Nat
 |[]=>[]
 |e::S=>(OV (e/4)).map (λi=>D+mt (u+tn (e%4)) (e%4) (e/4) i)++wM u (D+e/4) S
theorem HJ(t k l i:Nat):mt t k l i=if(t+i)%2=0 then(if i+1<l then i+1 else if k=0 then 0 else i)else(if i=0 then(if k=0 then l-1 else 0)else i-1):=by
 unfold mt;have G:Nat.blt (i+1) l=decide (i+1<l):=by
  by_cases h:i+1<l
  .rw[Ul h];exact Nat.ble_eq_true_of_le h
  rw[Up h];exact Qj.mpr λz=>h (Nat.le_of_ble_eq_true z)
 have D:∀x y:Nat,Td x y=decide (x=y):=λx y=>by
  by_cases h:x=y
  .rw[Ul h,h];exact Nat.beq_refl y
  rw[Up h];exact Qj.mpr λz=>h (Nat.eq_of_beq_eq_true z)
 rw[G,D,D,D];simp only[cond_eq_ite,decide_eq_true_eq]
theorem HK(k:Kd):tn (kc k)=turn k:=by cases k <;> rfl
theorem HL(k:Kd):kc k<4:=by cases k <;> decide
theorem AO(k:Kd):kc k=0↔k=.ring:=by cases k <;> decide
section
variable {N:Nat}{a b:Nat->Nat}{k:Kd}{L:List Nat}
theorem aaw(G:cj N a b k L)(T:cq N a b){i x:Nat}(h:L[i]?=Ya x):L[mt (0+tn (kc k)) (kc k) L.length i]?=Ya (a x):=by
 have U:=(OI.mp h).1;rw[HJ,HK,Qh];rcases G.mate T h with⟨o,q|⟨O,J,D⟩⟩|⟨o,⟨O,J⟩|⟨O,J,D⟩⟩
 .have:=(OI.mp q).1;rw[Uo o,Uo this];exact q
 .rw[Uo o,Uk (by omega),Uk (by rw[AO,D];exact(λz=>nomatch z)),J];exact h
 .rw[Uk (by omega),Uk (by omega)];exact J
 rw[Uk (by omega),Uo O,Uk (by rw[AO];rcases D with D|D <;> rw[D] <;> exact(λz=>nomatch z)),J,<-O];exact h
theorem aax(G:cj N a b k L)(T:cq N a b){i x:Nat}(h:L[i]?=Ya x):L[mt (1+tn (kc k)) (kc k) L.length i]?=Ya (b x):=by
 have V:=(OI.mp h).1;have par:=G.par;have F:=G.fin;have J:=DH h;have D:=vz h;rw[HJ,HK];by_cases o:(turn k+i)%2=1
 .rw[Uo (by omega)];by_cases c:i+1<L.length
  .rw[Uo c];have O:=OG c;rw[G.bR h O o];exact O
  rw[Uk c];have e:i=L.length-1:=by omega
  rw[<-e,h]at D;have D:=Option.some.inj D;cases k with
  |ring=>rw[Uo (show kc Kd.ring=0 from rfl),D,F.1];exact J
  |odd=>rw[Uk (by decide),D,F.2,<-D];exact h
  |bare=>exact Us o (by show¬(1+i)%2=1;have:¬L.length%2=1:=(λz=>by cases par.mp z);omega)
  |tied=>rw[Uk (by decide),D,F.2.1,<-D];exact h
 rw[Uk (by omega)];by_cases c:i=0
 .rw[Uo c];subst c;rw[h]at J;have J:=Option.some.inj J;cases k with
  |ring =>
   have U:=G.DG D;rw[Uo (show kc Kd.ring=0 from rfl),D,J,<-F.1,T.gg _ U]
  |odd=>exact Us (by show(1+0)%2=1;decide) o
  |bare=>exact Us (by show(1+0)%2=1;decide) o
  |tied=>rw[Uk (by decide),J,F.1,<-J];exact h
 rw[Uk c];obtain⟨y,O⟩:∃y,L[i-1]?=Ya y:=⟨_,OG (by omega)⟩
 have h':L[i-1+1]?=Ya x:=by rw[show i-1+1=i by omega];exact h
 have e:=G.bR O h' (by omega);rw[<-e,T.gg y (G.DG O)];exact O
end
noncomputable def ec(th:Kd×List Nat):Nat:=4*th.2.length+kc th.1
theorem Ed(th:Kd×List Nat):ec th/4=th.2.length:=by unfold ec;have:=HL th.1;omega
theorem Jy(th:Kd×List Nat):ec th%4=kc th.1:=by unfold ec;have:=HL th.1;omega
noncomputable def iT(D:List (Kd×List Nat)):List Nat:=(D.map (·.2)).flatten
theorem vE(u:Nat):∀(G:List (Kd×List Nat)) (D:Nat),(wM u D (G.map ec)).length=(iT G).length
 |[],_=>rfl
 |th::r,D=>by
  show((OV (ec th/4)).map _++wM u (D+ec th/4) (r.map ec)).length=(th.2++iT r).length;rw[OQ,OQ,OH,OW,vE u r,Ed]
theorem AQ(u:Nat)(f:Nat->Nat):∀(D:List (Kd×List Nat)) (pre:List Nat),(∀th∈D,∀(i x:Nat),th.2[i]?=Ya x->th.2[mt (u+tn (kc th.1)) (kc th.1) th.2.length i]?=Ya (f x)) ->
  ∀(j x:Nat),(iT D)[j]?=Ya x->∃m:Nat,(wM u pre.length (D.map ec))[j]?=Ya m/\(pre++iT D)[m]?=Ya (f x)
 |[],pre,_,j,x,h=>by simp[iT]at h
 |th::r,pre,g,j,x,h=>by
  have G:iT (th::r)=th.2++iT r:=rfl;have J:wM u pre.length ((th::r).map ec)=(OV (ec th/4)).map (λi=>pre.length+mt (u+tn (ec th%4)) (ec th%4) (ec th/4) i)++wM u (pre.length+ec th/4) (r.map ec):=rfl;rw[Ed,Jy]at J;rw[G]at h;by_cases c:j<th.2.length
  .rw[Pg c]at h;have z:=g th O1 j x h;have U:=(OI.mp z).1;refine⟨pre.length+mt (u+tn (kc th.1)) (kc th.1) th.2.length j,?_,?_⟩
   .rw[J,Pg (by rw[OH,OW];exact c),OR,Qv c];rfl
   rw[G,Pk (by omega),Nat.add_sub_cancel_left,Pg U];exact z
  rw[Pk (by omega)]at h;obtain⟨m,O,V⟩:=AQ u f r (pre++th.2) (λt Z=>g t (O0 _ Z)) _ x h;refine⟨m,?_,?_⟩
  .rw[J,Pk (by rw[OH,OW];omega),OH,OW];rw[OQ]at O;exact O
  rw[G,<-PM];exact V
structure Lay(n:Nat) (ms os:List Nat) (bf:List (Kd×List Nat)):Prop where
 good:∀th∈bf,cj (2*n) (ar ms) (ar os) th.1 th.2
 nd:(iT bf).Nodup
 mem:∀x,x∈iT bf↔x<2*n
section
variable {n:Nat}{ms os:List Nat}{bf:List (Kd×List Nat)}
theorem Lay.perm(l:Lay n ms os bf):(iT bf).Perm (OV (2*n)):=(P0 l.nd PL).mpr λx=>by rw[l.mem,OX]
theorem Lay.len(l:Lay n ms os bf):(iT bf).length=2*n:=by rw[l.perm.length_eq,OW]
theorem Lay.iso(l:Lay n ms os bf)(W:ak n ms)(WO:ak n os):ak n (wM 0 0 (bf.map ec))/\ak n (wM 1 0 (bf.map ec))/\pY n ms os (wM 0 0 (bf.map ec)) (wM 1 0 (bf.map ec)) (λx=>(iT bf).idxOf x) (ar (iT bf)):=by
 have T:=bJ W WO;have len:=l.len;have getL:∀j,j<2*n->(iT bf)[j]?=Ya (ar (iT bf) j):=λj U=>ie (by rw[len];exact U);have one:∀i j x,(iT bf)[i]?=Ya x->(iT bf)[j]?=Ya x->i=j:=λi j x G O=>(List.getElem?_inj (OI.mp G).1 l.nd).mp (G.trans O.symm);have step:∀(u:Nat) (f:Nat->Nat),(∀th∈bf,∀(i x:Nat),th.2[i]?=Ya x->th.2[mt (u+tn (kc th.1)) (kc th.1) th.2.length i]?=Ya (f x))->∀j,j<2*n->ar (wM u 0 (bf.map ec)) j<2*n/\ar (iT bf) (ar (wM u 0 (bf.map ec)) j)=f (ar (iT bf) j):=λu f g j U=>by
  obtain⟨m,G,O⟩:=AQ u f bf [] g j _ (getL j U);have Z:(wM u 0 (bf.map ec))[j]?=Ya m:=G;have e:ar (wM u 0 (bf.map ec)) j=m:=by unfold ar;rw[QK,Z];rfl
  have V:=(OI.mp O).1;rw[List.nil_append]at V O;rw[len]at V;rw[e];refine⟨V,?_⟩;have z:=getL m V;rw[O]at z;exact(Option.some.inj z).symm
 have A:=step 0 (ar ms) λth ht i x h=>aaw (l.good th ht) T h;have B:=step 1 (ar os) λth ht i x h=>aax (l.good th ht) T h;have lt:∀j,j<2*n->ar (iT bf) j<2*n:=λj U=>(l.mem _).mp (OP (getL j U));have inj:∀i j,i<2*n->j<2*n->ar (iT bf) i=ar (iT bf) j->i=j:=λi j hi U e=>one i j _ (getL i hi) (by rw[e];exact getL j U);have WA:ak n (wM 0 0 (bf.map ec)):=qE W.small (by rw[vE,len]) (λx D=>(A x D).1) λx D=>by
  have G:=A x D;have O:=A _ G.1;exact inj _ _ O.1 D (by rw[O.2,G.2,W.wk.inv _ (lt x D)])
 have WB:ak n (wM 1 0 (bf.map ec)):=qE W.small (by rw[vE,len]) (λx D=>(B x D).1) λx D=>by
  have G:=B x D;have O:=B _ G.1;exact inj _ _ O.1 D (by rw[O.2,G.2,WO.wk.inv _ (lt x D)])
 have ix:∀x,x<2*n->(iT bf).idxOf x<2*n/\ar (iT bf) ((iT bf).idxOf x)=x:=λx D=>by
  have G:=List.idxOf_lt_length_of_mem ((l.mem x).mpr D);have O:=getL _ (by rw[<-len];exact G);rw[OG G,List.getElem_idxOf G]at O;exact⟨by rw[<-len];exact G,(Option.some.inj O).symm⟩
 have J:pY n (wM 0 0 (bf.map ec)) (wM 1 0 (bf.map ec)) ms os (ar (iT bf)) (λx=>(iT bf).idxOf x):=
  { T:=bJ WA WB,T':=T,pl:=lt,ql:=λx D=>(ix x D).1,qp:=λx D=>inj _ _ (ix _ (lt x D)).1 D (ix _ (lt x D)).2,pq:=λx D=>(ix x D).2,fa:=λx D=>(A x D).2,fb:=λx D=>(B x D).2 }
 exact⟨WA,WB,J.symm⟩
end
end gB
set_option maxHeartbeats 4000000
namespace gB
open Th aI
theorem yc{l m:List (Kd×List Nat)}(h:l.Perm m):(iT l).Perm (iT m):=(h.map _).flatten
section
variable {n:Nat}{ms os:List Nat}{Z:List (Kd×List Nat)}
theorem Lay.L4{D:List (Kd×List Nat)}(l:Lay n ms os Z)(h:D.Perm Z):Lay n ms os D :=
 ⟨λth G=>l.good th (h.mem_iff.mp G),(yc h).symm.nodup l.nd,λx=>by rw[(yc h).mem_iff];exact l.mem x⟩
theorem jr(W:ak n ms)(O:ak n os)(h:bW n ms os Z):Lay n ms os Z:=by
 have A:fK (2*n) (ar ms) (ar os) Z:=⟨bJ W O,h.1,h.2⟩
 refine⟨λth D=>A.good D,?_,λx=>?_⟩
 .unfold iT;show List.Pairwise (·≠·) _;rw[SA];refine⟨λl J=>?_,?_⟩
  .obtain⟨th,D,rfl⟩:=OO.mp J;exact(A.good D).nd
  rw[Px];have z:=A.apart (λ_=>true);rw[RV.mpr (λ_ _=>rfl)]at z;exact z.imp λ{s t} q x G y U=>q x G y U
 unfold iT;rw[Sn];constructor
 .rintro⟨l,J,G⟩;obtain⟨th,D,rfl⟩:=OO.mp J;exact A.lt D G
 intro G;obtain⟨th,D,V⟩:=A.mem G;exact⟨th.2,List.mem_map_of_mem D,V⟩
theorem eD(W:ak n ms)(O:ak n os):∃Z,bW n ms os Z:=by
 have T:=bJ W O;have U:=keys_nodup T;refine⟨(pW (2*n) (ar ms) (ar os)).mergeSort λp q=>decide (mn p.2<=mn q.2),SV _ _,?_⟩;have D:=List.pairwise_mergeSort (le:=λ(p q:Kd×List Nat)=>decide (mn p.2<=mn q.2)) (λp q r J V=>by rw[decide_eq_true_eq]at *;omega) (λp q=>by rw[Bool.or_eq_true,decide_eq_true_eq,decide_eq_true_eq];omega) (pW (2*n) (ar ms) (ar os));have nd:=(((SV (pW (2*n) (ar ms) (ar os)) λp q=>decide (mn p.2<=mn q.2)).map λth=>mn th.2).symm).nodup U;have G:=Px.mp nd;exact(D.and G).imp λ{p q} ⟨J,V⟩=>by rw[decide_eq_true_eq]at J;omega
theorem iM(W:ak n ms)(J:ak n os)(h:bW n ms os Z){th:Kd×List Nat}(O:th∈Z){x:Nat}(U:x∈th.2):kd (ar ms) (ar os) x=th.1/\(eG (2*n) (ar ms) (ar os) x).length=th.2.length:=by
 have T:=bJ W J;obtain⟨u,D,C,e⟩:=AK T (h.1.mem_iff.mp O);have c:=(C.mem x).mp U;have G:=c.lt T D;exact⟨by rw[e,AJ T D c],jk (kQ T G) (C.to T D c)⟩
theorem yd(f:Nat->Nat)(g:Kd×List Nat->Nat):∀Z:List (Kd×List Nat),(∀th∈Z,∀x∈th.2,f x=g th)->((iT Z).map f).sum=(Z.map λth=>th.2.length*g th).sum
 |[],_=>rfl
 |th::r,h=>by
  show((th.2++iT r).map f).sum=th.2.length*g th+(r.map λth=>th.2.length*g th).sum;rw[O5,Rh,yd f g r λt D=>h t (O0 _ D)];congr 1;have k:=h th O1;generalize th.2=L at k⊢;generalize g th=c at k⊢
  induction L with
  |nil=>simp
  |cons y L G =>
   rw[Po,Qe,G (λx J=>k x (O0 _ J)),k y O1,Ph,SU];omega
theorem Ee(W:ak n ms)(D:ak n os)(h:bW n ms os Z):both (Z.map (·.1))=both ((cy n ms os (2*n)).map (·.1)):=by
 rw[<-h.lacks W D,Pp];rfl
end
end gB
namespace L2
open PySem PySem.Spec PyProof.Rows
section
variable {X:Cx}
theorem mM{α β:Type}{F:α->β->Prop}:∀{l:List α}{m:List β}{i:Nat}{a:α}{b:β},Paired F l m->l[i]?=Ya a->m[i]?=Ya b->F a b
 |_,_,0,_,_,.cons h _,e1,e2=>by cases e1;cases e2;exact h
 |_,_,i+1,_,_,.cons _ r,e1,e2=>mM r (i:=i) (by simpa using e1) (by simpa using e2)
end
end L2
namespace NK
open PySem PySem.Spec PyProof.Rows L2
noncomputable abbrev Itm:=Sum Key (List Key)
section
variable {P:Ux}{w:UA}
noncomputable def zx(P:Ux)(w:UA)(h:UH):Itm->Uj->Prop
 |.inl k,v=>(bG P w).is k v=true
 |.inr ks,v=>∃b,v=.ref b/\XI (bG P w) h ks b
inductive Cg (P:Ux) (w:UA) (h:UH):List Itm->List Uj->Prop
 |nil:Cg P w h [] []
 |cons {k:Itm}{v:Uj}{ks:List Itm}{vs:List Uj}:zx P w h k v->Cg P w h ks vs->Cg P w h (k::ks) (v::vs)
def ye(P:Ux)(w:UA)(h:UH)(ks:List Itm)(a:Um):Prop:=∃o items n,h.get? a=Ya o/\o.cls=.type "tuple"/\o.data=.seq items n/\Cg P w h ks items.toList
theorem AR{k:Key}{b:Um}:(bG P w).is k (.ref b)=true->False:=λh=>by
 rcases bV h with⟨_,_,_,e⟩|⟨_,_,_,e⟩ <;> exact nomatch e
theorem zx.inj{h:UH}{x y:Itm}{v:Uj}(D:zx P w h x v)(G:zx P w h y v):x=y:=by
 cases x with
 |inl k=>cases y with
  |inl l=>exact congrArg Sum.inl ((bG P w).inj _ _ _ D G)
  |inr l=>obtain⟨b,e,_⟩:=G;subst e;exact(AR D).elim
 |inr k=>cases y with
  |inl l=>obtain⟨b,e,_⟩:=D;subst e;exact(AR G).elim
  |inr l=>obtain⟨b,e,q⟩:=D;obtain⟨U,J,O⟩:=G;subst e;cases J;exact congrArg Sum.inr (q.inj O)
theorem Cg.inj{h:UH}{x y:List Itm}{D:List Uj}(J:Cg P w h x D)(G:Cg P w h y D):x=y:=by
 induction J generalizing y with
 |nil=>cases G;rfl
 |cons O _ U =>
  cases G with
  |cons V Z=>rw[O.inj V,U Z]
theorem ye.typeIs{s:Uq}{ks:List Itm}{a:Um}(x:ye P w s.heap ks a):s.TypeIs (.ref a) "tuple":=let⟨o,_,_,D,G,_⟩:=x;⟨o,D,G⟩
theorem ye.inj{h:UH}{a:Um}{x y:List Itm}(U:ye P w h x a)(V:ye P w h y a):x=y:=by
 obtain⟨o,items,n,Z,_,hd,hi⟩:=U;obtain⟨o',G,n',J,_,D,O⟩:=V;obtain rfl:o=o':=Option.some.inj (Z.symm.trans J);rw[hd]at D;injection D with h1 _;subst h1;exact hi.inj O
theorem ye.keeps{h h':UH}{ks:List Itm}{a d:Um}{o:U6}{es ep}(x:ye P w h ks a)(O:h.get? d=Ya o)(hd:o.data=.dict es ep)(hs:Heap.SameBut d h h'):ye P w h' ks a:=by
 obtain⟨U,items,n,G,V,D,Z⟩:=x;have J:a≠d:=by
  rintro rfl;obtain rfl:U=o:=Option.some.inj (G.symm.trans O);rw[hd]at D;exact nomatch D
 refine⟨U,items,n,(hs.2 a J).trans G,V,D,?_⟩;clear D G V;generalize items.toList=vs at Z
 induction Z with
 |nil=>exact .nil
 | @cons k v ks vs h1 _ ih =>
  refine .cons ?_ ih;cases k with
  |inl k=>exact h1
  |inr k=>obtain⟨b,e,q⟩:=h1;exact⟨b,e,q.keeps O hd hs⟩
noncomputable def Jz(P:Ux)(w:UA):Itm->Int
 |.inl k=>(bG P w).hash k
 |.inr ks=>tupleKeyHash (bG P w) ks
noncomputable def itD:Itm->Nat
 |.inl _=>1
 |.inr ks=>ks.length+1
noncomputable def Ef(P:Ux)(w:UA)(ks:List Itm):Int:=reduceHash (Builtin.Tuple.tupleHashOf (ks.map (Jz P w)))
noncomputable def zy(ks:List Itm):Nat:=(ks.map itD).sum+1
variable {A:UG}{E:Uj->Uq->Prop}{s:Uq}
theorem GN{k:Itm}{v:Uj}{Q:Int->Uq->Prop}(G:A.units<cLine)(D:zx P w s.heap k v)(h:Q (Jz P w k) { s with toks:=s.toks+itD k }):wpAny (model P w) A (pyHash v) Q E s:=by
 cases k with
 |inl k=>exact(bG P w).pyHash D h
 |inr k=>obtain⟨b,e,q⟩:=D;subst e;exact wpAny_pyHash_tuple G q h
theorem Eg{ks:List Itm}{a:Um}{Q:Int->Uq->Prop}(hu:A.units+1<cLine)(Z:ye P w s.heap ks a)(h:Q (Ef P w ks) { s with toks:=s.toks+zy ks }) :
  wpAny (model P w) A (pyHash (.ref a)) Q E s:=by
 have J:=Z.typeIs;obtain⟨o,items,n,ho,_,hd,hi⟩:=Z;unfold pyHash
 first|unfold pyHashByItsType|skip
 first|refine Uh (wpAny_cRoomFor_or (.inr (by omega)) ?_)|skip
 refine Uh (Vl J F.slot_tuple_hash.lookup ?_);show wpAny _ _ (if(Ya (Value.builtin "tuple.__hash__")==some Value.none)=true then _ else _) Q E s;rw[Uk (by rw[beq_builtin_none];exact O2)];refine Uh (Vl J F.slot_tuple_hash.lookup ?_);show wpAny _ _ (callSpecialIfBoundUnlessNone? (.ref a) "__hash__" _ >>= _) Q E s;refine Uh (wpAny_callSpecialIfBoundUnlessNone?_slot J F.slot_tuple_hash (UM F.slot_tuple_hash J F.entry_tuple_hash ?_ (F.args_tuple_hash_1 _)));show wpAny _ _ (Builtin.Tuple.tupleItemsOf (.ref a) >>= _) _ _ s;refine Uh (V7 ho hd ?_);refine Uh ?_;rw[<- Rc];refine Vf _
  (λrest (b:Array Int) s'=>∃done left,ks=done++left/\Cg P w s.heap left rest/\b.toList=done.map (Jz P w)/\s'={ s with toks:=s.toks+(done.map itD).sum })
  _ ?_ ?_ _ _ ⟨[],ks,rfl,hi,rfl,rfl⟩
 .rintro x rest b s' ⟨done,left,rfl,V,O,rfl⟩;cases V with
  | @cons k _ D _ h1 G =>
   refine Uh (GN (k:=k) (by first|exact hu|(simp only[Around.in1];omega)|(show A.units+1<cLine;omega)) h1 ?_)
   first
    |exact Ur ⟨done++[k],D,by simp,G,by simp[O],by simp[RR]⟩
    |exact Uh (Ur (Ur ⟨done++[k],D,by simp,G,by simp[O],by simp[RR]⟩))
 rintro b s' ⟨done,left,rfl,V,O,rfl⟩;cases V;rw[Pj]at h;show wpAny _ _ (retInt (Builtin.Tuple.tupleHashOf b.toList)) _ _ _;rw[O];refine wpAny_ret_mkInt ?_;show wpAny _ _ (if(decide (-(2:Int) ^ 63<=Builtin.Tuple.tupleHashOf (done.map (Jz P w)))&&decide (Builtin.Tuple.tupleHashOf (done.map (Jz P w))<2 ^ 63))=true then _ else _) Q E _;unfold Ef reduceHash zy at h;by_cases U:(decide (-(2:Int) ^ 63<=Builtin.Tuple.tupleHashOf (done.map (Jz P w)))&&decide (Builtin.Tuple.tupleHashOf (done.map (Jz P w))<2 ^ 63))=true
 .rw[Uo U];rw[Uo U]at h;exact Ur (by simpa[RR]using h)
 rw[Uk U];rw[Uk U]at h;exact Uh (Vq (Ur (by simpa[RR]using h)))
theorem rY{s:Uq}{ks:List Key}{b:Um}(q:XI (bG P w) s.heap ks b):∃items,s.heap.IsTuple b items:=by
 obtain⟨o,items,n,D,G,hd,_⟩:=q;exact⟨items,o,D,G,n,hd⟩
theorem L5{x y:Itm}{u v:Uj}{Q:Bool->Uq->Prop}(D:A.units<cLine)(J:zx P w s.heap x u)(O:zx P w s.heap y v)(h:Q (decide (x=y)) s):wpAny (model P w) A (eqBool u v) Q E s:=by
 cases x with
 |inl k=>cases y with
  |inl l =>
   refine(bG P w).eqBool (a:=k) (b:=l) J O ?_;by_cases e:k=l
   .subst e;simpa using h
   rw[Up e];rwa[Up (λz=>e (Sum.inl.inj z))]at h
  |inr l =>
   obtain⟨b,e,q⟩:=O;subst e;obtain⟨items,G⟩:=rY q;rw[Up (λz=>nomatch z)]at h;rcases bV J with⟨i,t,_,e⟩|⟨i,t,_,e⟩ <;> subst e
   .exact PySem.SeqAt.EqAt.int_tuple i t G D P w E Q h
   exact PySem.SeqAt.EqAt.str_tuple i t G D P w E Q h
 |inr k=>cases y with
  |inl l =>
   obtain⟨b,e,q⟩:=J;subst e;obtain⟨items,G⟩:=rY q;rw[Up (λz=>nomatch z)]at h;rcases bV O with⟨i,t,_,e⟩|⟨i,t,_,e⟩ <;> subst e
   .exact PySem.SeqAt.EqAt.tuple_int i t G D P w E Q h
   exact PySem.SeqAt.EqAt.tuple_str i t G D P w E Q h
  |inr l =>
   obtain⟨b,e,q⟩:=J;subst e;obtain⟨Z,U,V⟩:=O;subst U;refine wpAny_eqBool_tuple D q V ?_;by_cases e:k=l
   .subst e;simpa using h
   rw[Up e];rwa[Up (λz=>e (Sum.inr.inj z))]at h
theorem Eh{x y:List Itm}{a b:Um}{R:Fin->Uq->Prop}(hu:A.units<cLine)(hx:ye P w s.heap x a)(hy:ye P w s.heap y b)(h:R (.done (.ret (.bool (decide (x=y))))) s) :
  wpAny (model P w) A (Builtin.«tuple.__eq__» ⟨[.ref a,.ref b],[]⟩) R E s:=by
 have hTb:=hy.typeIs;obtain⟨oa,xs,na,hoa,_,hda,hia⟩:=hx;obtain⟨ob,ys,nb,hob,_,I0,hib⟩:=hy;show wpAny _ _ (Wo (.ref b) (.type "tuple") >>= _) _ _ s;refine Uh (Vh hTb VH ?_);simp only[Rl,PF,U1];refine Uh (V7 hoa hda ?_);refine Uh (V7 hob I0 ?_);refine Uh ?_;refine Vf _
  (λrest r s'=>r.1=none/\s'=s/\∃x' y' G J,rest=R6 G J/\Cg P w s.heap x' G/\Cg P w s.heap y' J/\decide (x'=y')=decide (x=y)/\(G.length==J.length)=(xs.size==ys.size))
  _ ?_ ?_ _ _ ⟨rfl,rfl,x,y,xs.toList,ys.toList,rfl,hia,hib,rfl,by simp⟩
 .rintro⟨u,v⟩ rest r s' ⟨hr,rfl,x',y',G,J,hz,U,O,D,hlen⟩;cases U with
  |nil=>simp at hz
  | @cons k1 u' V Z h1 aaz =>
   cases O with
   |nil=>simp at hz
   | @cons k2 v' y'' aaA h2 aaB =>
    simp only[RZ,List.cons.injEq,Prod.mk.injEq]at hz;obtain⟨⟨rfl,rfl⟩,rfl⟩:=hz;refine Uh (L5 (x:=k1) (y:=k2) hu h1 h2 ?_);by_cases hk:k1=k2
    .subst hk;rw[Ul rfl];simp only[Rl,PF,U1];refine Ur ⟨rfl,rfl,V,y'',Z,aaA,rfl,aaz,aaB,?_,by simpa using hlen⟩;rw[<-D];by_cases LU:V=y''
     .simp[LU]
     simp[LU]
    rw[Up hk];simp only[Bool.not_false,VY];have hf:decide (x=y)=false:=by rw[<-D];simp[hk]
    rw[hf]at h;exact Uh (Ur (Ur (Ur h)))
 rintro⟨r1,r2⟩ s' ⟨hr,rfl,x',y',G,J,hz,U,O,D,hlen⟩;simp only at hr;subst hr;refine Ur ?_;have aaC:(xs.size==ys.size)=decide (x=y):=by
  rw[<-D,<-hlen];cases U with
  |nil =>
   cases O with
   |nil=>simp
   |cons _ _=>simp
  |cons _ _ =>
   cases O with
   |nil=>simp
   |cons _ _=>simp at hz
 show R (.done (.ret (.bool (xs.size==ys.size)))) s';rw[aaC];exact h
theorem JA{x y:List Itm}{a b:Um}{Q:Bool->Uq->Prop}(O:A.units+1<cLine)(G:ye P w s.heap x a)(J:ye P w s.heap y b)(h:Q (decide (x=y)) s) :
  wpAny (model P w) A (eqBool (.ref a) (.ref b)) Q E s:=by
 unfold eqBool
 try with_reducible refine UD ?_
 show wpAny _ _ (if(Value.ref a==Value.ref b)=true then _ else _) Q E s;by_cases D:(Value.ref a==Value.ref b)=true
 .rw[Uo D];have e:a=b:=by have:=eq_of_beq D;injection this
  subst e;obtain rfl:=G.inj J;exact Uh (Vq (Ur (by simpa using h)))
 rw[Uk D];exact Uh (wpAny_richCompare_same_room (op:=.Eq) G.typeIs J.typeIs F.slot_tuple_eq
  (UM F.slot_tuple_eq G.typeIs F.entry_tuple_eq (Eh (by first|exact O|(show A.units+1<cLine;omega)) G J ⟨_,rfl,(λe=>nomatch e),UP h⟩) (F.args_tuple_eq_2 _ _)) (by omega))
theorem GO(n:Nat){ks:List Key}{a:Um}{Q:Bool->Uq->Prop}(O:XI (bG P w) s.heap ks a)(h:Q true s):wpAny (model P w) A (WR (n+1) (.ref a)) Q E s:=by
 have U:=O.typeIs;obtain⟨o,items,n,V,_,hd,Z⟩:=O;unfold WR;refine Uh (Vl U F.slot_tuple_eq.lookup ?_);show wpAny _ _ (Wo (.ref a) (.type "tuple") >>= _) _ _ s;refine Uh (Vh U VH ?_);simp only[Rl,PF,U1];refine Uh (Vg V hd ?_);refine Uh ?_;show wpAny _ _ (forIn items _ _) _ _ s;rw[<- Rc];refine Vf _ (λrest r s'=>r.1=none/\s'=s/\∀v∈rest,carriedByValue v=true) _ ?_ ?_ _ _ ⟨rfl,rfl,Z.byValue⟩
 .rintro v rest r s' ⟨G,rfl,D⟩;rw[Xk _ (D v O1)];refine Uh (Ur ?_);simp only[Rl,PF,U1];exact Ur ⟨rfl,rfl,λu J=>D u (O0 _ J)⟩
 rintro⟨r1,r2⟩ s' ⟨G,rfl,_⟩;simp only at G;subst G;exact Ur h
theorem BQ{ks:List Itm}{a:Um}{Q:Bool->Uq->Prop}(U:ye P w s.heap ks a)(h:Q true s):wpAny (model P w) A (WR 8 (.ref a)) Q E s:=by
 have V:=U.typeIs;obtain⟨o,items,n,ho,_,hd,hi⟩:=U;unfold WR;refine Uh (Vl V F.slot_tuple_eq.lookup ?_);show wpAny _ _ (Wo (.ref a) (.type "tuple") >>= _) _ _ s;refine Uh (Vh V VH ?_);simp only[Rl,PF,U1];refine Uh (Vg ho hd ?_);refine Uh ?_;show wpAny _ _ (forIn items _ _) _ _ s;rw[<- Rc];refine Vf _ (λrest r s'=>r.1=none/\s'=s/\∃ks,Cg P w s.heap ks rest) _ ?_ ?_ _ _ ⟨rfl,rfl,ks,hi⟩
 .rintro v rest r s' ⟨J,rfl,ks',D⟩;cases D with
  | @cons k _ G _ Z O =>
   have go:wpAny (model P w) A (WR 7 v) (λb s2=>b=true/\s2=s') E s':=by
    cases k with
    |inl k=>rw[Xk _ ((bG P w).byValue _ _ Z)];exact Ur ⟨rfl,rfl⟩
    |inr k=>obtain⟨b,e,q⟩:=Z;subst e;exact GO 6 q ⟨rfl,rfl⟩
   refine Uh (cL go λb s2 ⟨eb,es⟩=>?_);subst eb es;simp only[Rl,PF,U1];exact Ur ⟨rfl,rfl,G,O⟩
 rintro⟨r1,r2⟩ s' ⟨J,rfl,_⟩;simp only at J;subst J;exact Ur h
end
noncomputable def oU(P:Ux)(w:UA):HeapKind P w (List Itm) where
 is:=ye P w
 hash:=Ef P w
 draws:=zy
 room:=λA=>A.units+1<cLine
 inj:=λD G=>D.inj G
 keeps:=λx U hd hs=>x.keeps U hd hs
 pyHash:=λJ O h=>Eg J O h
 eqBool:=λJ D G h=>JA J D G h
 quiet:=λO h=>BQ O h
noncomputable abbrev Ent:=List Itm×Um×V
noncomputable def nR(D:List Ent)(k:List Itm):Option V:=(D.find? λx=>decide (x.1=k)).map (·.2.2)
noncomputable def put2(D:List Ent)(k:List Itm)(b:Um)(v:V):List Ent:=if(nR D k).isSome then D.map (λx=>if x.1=k then(x.1,x.2.1,v)else x)else D++[(k,b,v)]
def RE:Ent->List Itm×Um×Uj->Prop:=λp q=>p.1=q.1/\p.2.1=q.2.1/\RelV p.2.2 q.2.2
theorem zA{D:List Ent}{xs:List (List Itm×Um×Uj)}(r:Paired RE D xs)(k:List Itm):sQ (nR D k) ((atKey xs k).map (·.2)):=by
 induction r with
 |nil=>exact True.intro
 | @cons p q J O h t G =>
  unfold nR atKey;rw[Qr,Qr,<-h.1];by_cases e:p.1=k
  .rw[Ul e];exact h.2.2
  rw[Up e];exact G
theorem JB{D:List Ent}{xs:List (List Itm×Um×Uj)}(r:Paired RE D xs)(k:List Itm)(b:Um){v:V}{u:Uj}(J:RelV v u):Paired RE (put2 D k b v) (VN xs k b u):=by
 have q:=(zA r k).jh;rw[QW]at q;unfold put2 VN;rw[q];by_cases e:(atKey xs k).isSome=true
 .rw[Uo e,Uo e];clear q e
  induction r with
  |nil=>exact .nil
  | @cons p q O U h t G =>
   refine .cons ?_ G;unfold putAt;dsimp only;by_cases e:p.1=k
   .rw[Uo e,Uo (h.1▸e)];exact⟨h.1,h.2.1,J⟩
   rw[Uk e,Uk (h.1▸e)];exact h
 rw[Uk e,Uk e];clear q e
 induction r with
 |nil=>exact .cons ⟨rfl,rfl,J⟩ .nil
 |cons h t G=>exact .cons h G
theorem yf(D:List Ent)(k:List Itm)(b:Um)(v:V):(put2 D k b v).length<=D.length+1:=by
 unfold put2;split <;> simp
def L6(P:Ux)(w:UA)(a:Um)(D:List Ent):UH->Prop:=λh=>D.length<=Uu/\(a==U0)=false/\∃xs,Paired RE D xs /\
 ∃o es ep,h.get? a=Ya o/\o.ExactDict/\o.data=.dict es ep/\es.toList=xs.map (VI (oU P w))/\(xs.map (·.1)).Nodup
noncomputable def AS(P:Ux)(w:UA)(a:Um)(D:List Ent):HO:=.ext (L6 P w a D)
theorem L6.ok{P:Ux}{w:UA}{a:Um}{D:List Ent}{H:Hp}{h:UH}(q:L6 P w a D h):cQ P w H h a (AS P w a D):=by
 refine⟨q,?_,λO U J g=>?_⟩
 .obtain⟨_,_,_,_,o,_,_,G,_⟩:=q;exact⟨o,G⟩
 obtain⟨z,y,xs,r,o,es,ep,G,t⟩:=J;exact⟨z,y,xs,r,o,es,ep,g o G,t⟩
noncomputable def IV(H:Hp):Itm->V->Prop
 |.inl k,v=>v=kV k
 |.inr l,v=>∃c,v=.ref c/\H c=Ya (.tup (l.map kV))
def K2(H:Hp)(k:List Itm)(b:Um):Prop:=∃D,H b=Ya (.tup D)/\Paired (IV H) k D
def D2(P:Ux)(w:UA)(H:Hp)(a:Um)(D:List Ent):Prop:=H a=Ya (AS P w a D)/\∀p∈D,K2 H p.1 p.2.1
theorem K2.keep{H H':Hp}{k:List Itm}{b:Um}(q:K2 H k b)(g:∀c D,H c=Ya (.tup D)->H' c=Ya (.tup D)):K2 H' k b:=by
 obtain⟨G,e,r⟩:=q;refine⟨G,g _ _ e,Paired.Fw r λk v=>?_⟩;cases k with
 |inl k=>exact id
 |inr l=>exactλ⟨c,e,q⟩=>⟨c,e,g _ _ q⟩
theorem D2.keep{P:Ux}{w:UA}{H H':Hp}{a:Um}{D:List Ent}(d:D2 P w H a D)(e:H' a=H a)(g:∀c G,H c=Ya (.tup G)->H' c=Ya (.tup G)):D2 P w H' a D :=
 ⟨e.trans d.1,λp hp=>(d.2 p hp).keep g⟩
section
variable {P:Ux}{w:UA}{H:Hp}{h:UH}{a b:Um}
theorem AU{k:List Itm}(ok:md P w H h)(q:K2 H k b):ye P w h k b:=by
 obtain⟨D,e,r⟩:=q;obtain⟨hL,its,G,o,J,O,n,U⟩:=(show cQ P w H h b (.tup D)from ok b _ e)
 refine⟨o,its.toArray,n,J,O,U,?_⟩;clear hL;show Cg P w h k its;clear U J O e
 induction r generalizing its with
 |nil=>cases G;exact .nil
 | @cons k v ks D V t ih =>
  cases G with
  |cons Z tv =>
   refine .cons ?_ (ih _ tv);cases k with
   |inl k=>cases(show v=kV k from V);exact Ag Z
   |inr l=>obtain⟨c,e,q⟩:=V;subst e;exact⟨c,Z,qV ok q⟩
theorem AV{D:List Ent}(ok:md P w H h)(d:D2 P w H a D):D.length<=Uu/\(a==U0)=false/\∃xs,Paired RE D xs/\h.DictOfH (oU P w) a xs:=by
 obtain⟨⟨z,y,xs,r,o,es,ep,O,U,V,Z,h5⟩,_⟩:=(show cQ P w H h a (AS P w a D)from ok a _ d.1)
 refine⟨z,y,xs,r,o,es,ep,O,U,V,Z,?_,h5⟩;have all:∀{l:List Ent}{m:List (List Itm×Um×Uj)},Paired RE l m->(∀p∈l,K2 H p.1 p.2.1)->∀x∈m,ye P w h x.1 x.2.1:=by
  intro l m q
  induction q with
  |nil=>intro _ x G;exact nomatch G
  | @cons p q ps qs J t ih =>
   intro g x G;rcases Pa.mp G with e|G
   .subst e;rw[<-J.1,<-J.2.1];exact AU ok (g p O1)
   exact ih (λp hp=>g p (O0 _ hp)) x G
 exact all r d.2
end
section
variable {X:Cx}{pins:List (Um×U6)}{σ:L2.St}{H:Hp}{s:Uq}{a b:Um}{lV:List Ent}{k:List Itm}{v:V}{u r:Uj}{A:UG}{E:Uj->Uq->Prop}
theorem rZ(D:A.units+2<cLine):(oU X.prog X.w).room A.in1:=show A.in1.units+1<cLine from by show A.units+1+1<cLine;omega
theorem zB{Q:Uj->Uq->Prop}(U:A.units+2<cLine)(I:Inv X pins σ H s)(d:D2 X.prog X.w H a lV)(V:K2 H k b)(l:nR lV k=Ya v)(h:∀D s',Inv X pins σ H s'->RelV v D->Q D s') :
  wpAny (model X.prog X.w) A (Wi (.ref a) (.ref b)) Q E s:=by
 obtain⟨z,hd,xs,G,dd⟩:=AV I.bM d;obtain⟨D,hw,J⟩:=sQ.some_of (v:=v) (o:=(atKey xs k).map (·.2)) (by rw[<-l];exact zA G k);obtain⟨p,hp,O⟩:=Qd.mp hw;refine wpAny_getItem_heap (knd:=oU X.prog X.w) (rZ U) (AU I.bM V) dd hp ?_;rw[O];exact h D _ (I.tok _) J
theorem Ei{Q:Uj->Uq->Prop}(G:A.units+2<cLine)(I:Inv X pins σ H s)(d:D2 X.prog X.w H a lV)(J:K2 H k b)(h:∀s',Inv X pins σ H s'->Q (.bool (!(nR lV k).isSome)) s') :
  wpAny (model X.prog X.w) A (UQ .NotIn (.ref b) (.ref a)) Q E s:=by
 obtain⟨z,hd,xs,D,dd⟩:=AV I.bM d;refine wpAny_notIn_heap (knd:=oU X.prog X.w) (rZ G) (AU I.bM J) hd dd ?_;have q:=(zA D k).jh;rw[QW]at q;rw[<-q];exact h _ (I.tok _)
theorem zC{Q:Unit->Uq->Prop}(U:A.units+2<cLine)(I:Inv X pins σ H s)(d:D2 X.prog X.w H a lV)(V:K2 H k b)(hl:lV.length<Uu)(Z:RelV v r)
  (h:∀s',Inv X pins σ (upd H a (AS X.prog X.w a (put2 lV k b v))) s'->Q () s'):wpAny (model X.prog X.w) A (XR (.ref a) (.ref b) r) Q E s:=by
 obtain⟨z,hd,xs,D,dd⟩:=AV I.bM d;have hz:xs.length<=sizeLine:=by rw[<-Paired.length D];exact z
 have G:(put2 lV k b v).length<=sizeLine:=by have:=yf lV k b v;omega
 refine WZ (knd:=oU X.prog X.w) (hsz:=hz) (rZ U) (AU I.bM V) dd λh' J hs=>h _ ?_;obtain⟨q,es,ep,O,h2,h3,h4,_,h5⟩:=J;exact m7 I (by rw[d.1];exact True.intro) hs ⟨q,O⟩ (L6.ok ⟨G,hd,_,JB D k b Z,q,es,ep,O,h2,h3,h4,h5⟩)
theorem D2.put{P:Ux}{w:UA}{H:Hp}{a b:Um}{lV:List Ent}{k:List Itm}{v:V}(d:D2 P w H a lV)(J:K2 H k b):D2 P w (upd H a (AS P w a (put2 lV k b v))) a (put2 lV k b v):=by
 have g:∀c D,H c=Ya (.tup D)->upd H a (AS P w a (put2 lV k b v)) c=Ya (.tup D):=λc D e=>by
  rw[aG (λz=>by rw[z,d.1]at e;cases e)];exact e
 refine⟨ag,λp hp=>?_⟩;unfold put2 at hp
 split at hp
 .obtain⟨q,O,e⟩:=OO.mp hp;have G:=(d.2 q O).keep g;by_cases z:q.1=k
  .rw[Uo z]at e;subst e;exact G
  rw[Uk z]at e;subst e;exact G
 rcases OY.mp hp with hp|hp
 .exact(d.2 p hp).keep g
 rw[OS.mp hp];exact J.keep g
end
theorem GP{X:Cx}{pins:List (Um×U6)}{σ:L2.St}{H:Hp}{s:Uq}{a:Um}{D:List Ent}(I:Inv X pins σ H s)(d:D2 X.prog X.w H a D):s.TypeIs (.ref a) "dict":=by
 obtain⟨_,_,xs,_,dd⟩:=AV I.bM d;exact dd.typeIs
def L7(P:Ux)(w:UA):TE:=λ_ H Q=>∀p,H p=none->Q (.ref p) (upd H p (AS P w p []))
def L8(P:Ux)(w:UA)(J ty:TE):TE:=λσ H Q=>J σ H λx O=>ty σ O λy G=>∃a b D k v,x=.ref a/\y=.ref b/\D2 P w G a D/\K2 G k b/\nR D k=Ya v/\Q v G
def GQ(P:Ux)(w:UA)(ty J:TE):TE:=λσ H Q=>ty σ H λy O=>J σ O λx G=>∃a b D k,x=.ref a/\y=.ref b/\D2 P w G a D/\K2 G k b/\Q (.bl (!(nR D k).isSome)) G
def L9(P:Ux)(w:UA)(O ty U:TE):TS:=λD σ H=>U σ H λv V=>O σ V λx Z=>ty σ Z λy J=>∃a b G k,x=.ref a/\y=.ref b/\D2 P w J a G/\K2 J k b/\G.length<Uu/\D.nx σ (upd J a (AS P w a (put2 G k b v)))
section
variable {X:Cx}{o i e value:UL}{pos pos' Ov:VL}{td ty tv:TE}
theorem vF:PE X (.Dict [] [] pos) (L7 X.prog X.w):=λpins s σ H Q I h =>
 Wf ⟨.ref s.heap.objs.size,_,I.laid (a:=s.heap.objs.size) (o:=AS X.prog X.w s.heap.objs.size []) (t':=s.toks) (λ_ _ q=>OM _ q) (ON _)
  (L6.ok ⟨PH _,beq_eq_false_iff_ne.mpr (Ne.symm (Pd I.big)),[],.nil,_,#[],0,O6 _ rfl,⟨rfl,rfl,rfl⟩,rfl,rfl,RF⟩),rfl,h _ (I.bM.fresh (ON _))⟩
theorem GS(J:X.A.units+2<cLine)(O:PE X o td)(U:PE X i ty)(hs:Li i):PE X (.Subscript o i pos) (L8 X.prog X.w td ty):=by
 intro pins s σ H Q I h;refine FQ PySem.F.slot_dict_getitem.lookup hs (cL (O pins s σ H _ I h) λu V ⟨x,Z,I1,rx,q1⟩=>cL (U pins V σ Z _ I1 q1) λiv s2 zq=>?_);obtain⟨y,H2,G,ry,a,b,lV,k,v,ex,ey,d,hk,l,q2⟩:=zq;subst ex ey;obtain rfl:u=Value.ref a:=rx;obtain rfl:iv=Value.ref b:=ry;exact⟨GP G d,zB J G d hk l λw' s3 I3 D=>⟨v,H2,I3,D,q2⟩⟩
theorem BR(G:X.A.units+2<cLine)(J:PE X i ty)(O:PE X o td):PC X .NotIn i o (GQ X.prog X.w ty td):=by
 intro pins s σ H Q I h;refine cL (J pins s σ H _ I h) λU V ⟨y,Z,I1,ry,q1⟩=>cL (O pins V σ Z _ I1 q1) λu s2 zq=>?_;obtain⟨x,H2,I2,rx,a,b,D,k,ex,ey,d,hk,q2⟩:=zq;subst ex ey;obtain rfl:u=Value.ref a:=rx;obtain rfl:U=Value.ref b:=ry;exact Ei G I2 d hk λs3 I3=>⟨.bl (!(nR D k).isSome),H2,I3,rfl,q2⟩
theorem GU(G:X.A.units+2<cLine)(J:PE X o td)(O:PE X i ty)(U:PE X value tv)(hs:We value (Ya (.Subscript o i pos')) pos.line X.env=pure false) :
  PS X (.Assign [.Subscript o i pos'] value pos) (L9 X.prog X.w td ty tv):=by
 intro pins s σ H D I h;refine Wj (cL (U pins s σ H _ I h) λr V ⟨v,Z,I1,rv,q1⟩=>cL (J pins V σ Z _ I1 q1) λu s2 ⟨x,H2,I2,rx,q2⟩=>cL (O pins s2 σ H2 _ I2 q2) λiv s3 zq=>?_) hs;obtain⟨y,H3,I3,ry,a,b,lV,k,ex,ey,d,hk,l,q3⟩:=zq;subst ex ey;obtain rfl:u=Value.ref a:=rx;obtain rfl:iv=Value.ref b:=ry;exact zC G I3 d hk l rv λs4 I4=>⟨σ,_,I4,q3⟩
end
end NK
namespace aI
open PySem L2 gB
theorem ksi{a b:Th.Kd}(h:ks a=ks b):a=b:=oN a b h
noncomputable def tx(q:Th.Kd×Nat):NK.Itm:=.inr [.inr (ks q.1),.inl (q.2:Nat)]
theorem Ej{p q:Th.Kd×Nat}(h:tx p=tx q):p=q:=by
 have h:=List.cons.inj (Sum.inr.inj h);have D:=(List.cons.inj h.2).1;exact R4 (ksi (Sum.inr.inj h.1)) (by have:=Sum.inl.inj D;omega)
noncomputable def ky(D:List (Th.Kd×List Nat)):List (Th.Kd×Nat):=D.map λth=>(th.1,th.2.length)
def AW(D:List (Th.Kd×List Nat))(k:List NK.Itm):Prop:=∃G:List (Th.Kd×Nat),G.Perm (ky D)/\k=G.map tx
theorem map_inj{α β:Type}{f:α->β}(D:∀x y,f x=f y->x=y):∀{l m:List α},l.map f=m.map f->l=m
 |[],[],_=>rfl
 |[],_::_,h=>nomatch h
 |_::_,[],h=>nomatch h
 |x::l,y::m,h=>by rw[D x y (List.cons.inj h).1,map_inj D (List.cons.inj h).2]
theorem GV(D:List NK.Ent)(k:List NK.Itm)(b:Um)(v:V):NK.nR (NK.put2 D k b v) k=Ya v:=by
 unfold NK.put2;by_cases c:(NK.nR D k).isSome=true
 .rw[Uo c];unfold NK.nR at c⊢;rw[QW]at c
  induction D with
  |nil=>cases c
  |cons x r G =>
   rw[Po,Qr];by_cases e:x.1=k
   .rw[Uo e];simp[e]
   rw[Uk e,Up e];rw[Qr,Up e]at c;exact G c
 rw[Uk c];unfold NK.nR at c⊢;rw[QW]at c;rw[List.find?_append];cases h:D.find? λx=>decide (x.1=k)with
 |none=>simp
 |some x=>rw[h]at c;exact Us rfl c
noncomputable def yE(H:Hp)(d:Um):Hp:=λb=>if b=d then none else H b
theorem mO{H:Hp}{d b:Um}(h:b≠d):yE H d b=H b:=Uk h
theorem oV{H:Hp}{d:Um}:yE H d d=none:=Uo rfl
theorem kY{H:Hp}{d:Um}:aE (yE H d) H:=λb o e=>by
 by_cases c:b=d
 .rw[c,oV]at e;cases e
 rw[mO c]at e;exact e
theorem Ek{H H':Hp}{d:Um}(s:aE H H'):aE (yE H d) (yE H' d):=λb o e=>by
 by_cases c:b=d
 .rw[c,oV]at e;cases e
 rw[mO c]at e⊢;exact s _ _ e
theorem GW{H H':Hp}{d:Um}(s:aE (yE H d) H'):aE (yE H d) (yE H' d):=λb o e=>by
 by_cases c:b=d
 .rw[c,oV]at e;cases e
 rw[mO c];exact s _ _ e
variable (P:Ux)(w:UA)(K:OJ)
variable {P w K}
section
variable {H H':Hp}{d:Um}{J:List NK.Ent}
theorem D2.same(D:NK.D2 P w H d J)(s:aE H H'):NK.D2 P w H' d J:=D.keep (by rw[D.1];exact s _ _ D.1) λc G e=>s _ _ e
theorem JC{a:Um}{xs:List V}(h:br K H a xs)(D:NK.D2 P w H d J):br K (yE H d) a xs:=by
 have D:=D.1;rcases h with(h|⟨o,h⟩)|h
 .exact .inl (.inl (by rw[mO (λz=>by rw[z,D]at h;cases h)];exact h))
 .exact .inl (.inr ⟨o,by rw[mO (λz=>by rw[z,D]at h;cases h)];exact h⟩)
 exact .inr h
theorem eM{a:Um}{o:HO}(h:H a=Ya o)(ne:a≠d):yE H d a=Ya o:=by rw[mO ne];exact h
theorem D2.ne{a:Um}{G:List V}(D:NK.D2 P w H d J)(h:H a=Ya (.lst G)):a≠d:=λz=>by rw[z,D.1]at h;cases h
theorem D2.neT{a:Um}{G:List V}(D:NK.D2 P w H d J)(h:H a=Ya (.tup G)):a≠d:=λz=>by rw[z,D.1]at h;cases h
end
open Classical in
noncomputable def BS(H:Hp)(t:Um):Th.Kd×Nat:=if h:∃q:Th.Kd×Nat,H t=Ya (.tup (lf q))then Sl h else(.ring,0)
theorem JD{p q:Th.Kd×Nat}(h:lf p=lf q):p=q:=by
 have h:=List.cons.inj h;have D:=ksi (V.str.inj h.1);have G:=V.int.inj (List.cons.inj h.2).1;exact R4 D (by omega)
theorem vG{H:Hp}{t:Um}{q:Th.Kd×Nat}(h:H t=Ya (.tup (lf q))):BS H t=q:=by
 have e:∃q:Th.Kd×Nat,H t=Ya (.tup (lf q)):=⟨q,h⟩
 unfold BS;rw[Wn e];have z:=h.symm.trans (QB e);injection z with z;injection z with z;exact(JD z).symm
noncomputable def gK(H:Hp)(t:Um):Int:=1000*nF.kx (BS H t).1+(BS H t).2
theorem JE{H:Hp}{t:Um}{q:Th.Kd×Nat}(h:H t=Ya (.tup (lf q)))(D:q.2<1000):Nz true (lf q) (gK H t):=by
 unfold gK;rw[vG h];exact⟨_,q.2,nF.kx q.1,rfl,by omega,by omega,rfl,.inr ⟨rfl,q.1,rfl,rfl⟩⟩
theorem El{H:Hp}{l t:Um}{G J:List Um}{O:List (Th.Kd×Nat)}(h2:G.length=O.length)(h3:∀(i:Nat) (t:Um) (x:Th.Kd×Nat),G[i]?=Ya t->O[i]?=Ya x->H t=Ya (.tup (lf x)))(hp:J.Perm G)(ht:H t=Ya (.tup (J.map V.ref))) :
  ∃U:List (Th.Kd×Nat),U.Perm O/\NK.K2 H (U.map tx) t:=by
 have all:∀t∈G,∃q:Th.Kd×Nat,H t=Ya (.tup (lf q)):=λt ht=>by
  obtain⟨i,hi⟩:=SN ht;have hl:=(OI.mp hi).1;exact⟨_,h3 i t _ hi (OG (by omega))⟩
 have e:G.map (BS H)=O:=by
  refine QY λi=>?_;rw[OR];by_cases c:i<G.length
  .have h1:=OG c;have Z:=OG (l:=O) (i:=i) (by omega);rw[h1,Z];exact congrArg some (vG (h3 i _ _ h1 Z))
  rw[PU (by omega),PU (by omega)];rfl
 refine⟨J.map (BS H),by rw[<-e];exact hp.map _,J.map V.ref,ht,?_⟩;have D:∀u∈J,∃q:Th.Kd×Nat,H u=Ya (.tup (lf q)):=λu hu=>all u (hp.mem_iff.mp hu);clear ht hp
 induction J with
 |nil=>exact .nil
 |cons u r ih =>
  obtain⟨q,hq⟩:=D u O1;refine .cons ⟨u,rfl,?_⟩ (ih λx hx=>D x (O0 _ hx));rw[vG hq];exact hq
theorem GX{a:Nat->Nat}{x:Nat}:Th.kd a a x≠.bare:=by
 have e:Th.gf a a x=Th.cH a a x:=propext ⟨λh=>h.1,λh=>⟨h,h⟩⟩;unfold Th.kd;rw[e];by_cases c:Th.cH a a x
 .rw[Uo c];exactλz=>nomatch z
 rw[Uk c,Uk c]
 split <;> exactλz=>nomatch z
theorem AX{n:Nat}{ms os:List Nat}{D:List (Th.Kd×List Nat)}(W:ak n ms)(O:ak n os)(h:bW n ms os D)(G:both (D.map (·.1))=true):ms≠os:=λe=>by
 subst e;unfold both at G;rw[PX,Uy]at G;obtain⟨th,J,e1⟩:=OO.mp G.1;obtain⟨u,_,_,e2⟩:=Th.AK (bJ W W) (h.1.mem_iff.mp J);exact GX (e2.symm.trans e1)
theorem jK(xs:List Nat):nV xs=(xs.map λ(x:Nat)=>(x:Int)).map V.int:=by unfold nV;rw[Pp];rfl
theorem r9:∀xs:List Nat,(xs.map λ(x:Nat)=>(x:Int)).sum=((xs.sum:Nat):Int)
 |[]=>rfl
 |x::r=>by rw[Po,Qe,Qe,r9 r];omega
theorem K2.Ma{P:Ux}{w:UA}{H H':Hp}{d t:Um}{G:List NK.Ent}{k:List NK.Itm}(h:NK.K2 H k t)(D:NK.D2 P w H d G)(s:aE (yE H d) H'):NK.K2 H' k t :=
 h.keep λc J e=>s _ _ (eM e (D2.neT D e))
variable (K:OJ)
theorem iN{n:Nat}{ms os:List Nat}:aC n ms os<=n:=by unfold aC;omega
theorem zD{H D H':Hp}{d:Um}{o:HO}(s:aE H D)(hd:D d=none)(s':aE (yE (upd D d o) d) H'):aE H H':=λc x e=>by
 have e1:=s _ _ e;have G:c≠d:=λz=>by rw[z,hd]at e1;cases e1
 exact s' _ _ (by rw[mO G,aG G];exact e1)
end aI
namespace gB
open Th aI
noncomputable def lZ:Nat->Nat
 |0=>1
 |k+1=>(k+1)*lZ k
theorem vH:∀k,0<lZ k
 |0=>Ub
 |k+1=>Uc (Tj k) (vH k)
theorem Em(s:Nat):∀l,ch (s+l) l*(lZ s*lZ l)=lZ (s+l)
 |0=>by rw[qC,Sy];show 1*(lZ s*1)=lZ s;omega
 |l+1=>by
  have e:=rR (s+l) l;have D:=Em s l;show ch (s+l+1) (l+1)*(lZ s*((l+1)*lZ l))=(s+l+1)*lZ (s+l);rw[<-D,<-RA (s+l+1),<-e];simp only[RA,SE,Rk]
noncomputable def oW(D:List Nat):Nat:=(D.map lZ).foldr (· * ·) 1
noncomputable def tD(D:List Nat):Nat:=(D.map λl=>(l+1) ^ (l-1)).foldr (· * ·) 1
theorem sa:∀(xs:List Nat) (y:Nat),(xs++[y]).foldr (· * ·) 1=xs.foldr (· * ·) 1*y
 |[],y=>by simp
 |x::r,y=>by show x*(r++[y]).foldr (· * ·) 1=x*r.foldr (· * ·) 1*y;rw[sa r y,RA]
theorem ur{xs D:List Nat}(p:xs.Perm D):xs.foldr (· * ·) 1=D.foldr (· * ·) 1:=by
 induction p with
 |nil=>rfl
 |cons x _ G=>show x*_=x*_;rw[G]
 |swap x y l=>show y*(x*_)=x*(y*_);rw[Rk]
 |trans _ _ J O=>exact J.trans O
theorem snoc_ind{α:Type}{M:List α->Prop}(D:M [])(G:∀l x,M l->M (l++[x]))(l:List α):M l:=by
 have:∀r:List α,M r.reverse:=λr=>by
  induction r with
  |nil=>exact D
  |cons x r J=>rw[List.reverse_cons];exact G _ _ J
 have z:=this l.reverse;rwa[List.reverse_reverse]at z
theorem sd(D:List Nat):jJ 1 0 D*oW D=lZ D.sum*tD D:=by
 refine snoc_ind (M:=λD=>jJ 1 0 D*oW D=lZ D.sum*tD D) rfl (λD l G=>?_) D;have e:=Em D.sum l;have e1:oW (D++[l])=oW D*lZ l:=by unfold oW;rw[O5];exact sa _ _
 have e2:tD (D++[l])=tD D*(l+1) ^ (l-1):=by unfold tD;rw[O5];exact sa _ _
 rw[oP,Qh,e1,e2,Rh,S8,<-e];generalize(l+1) ^ (l-1)=o
 calc jJ 1 0 D*(ch (D.sum+l) l*o)*(oW D*lZ l)=(jJ 1 0 D*oW D)*(ch (D.sum+l) l*o*lZ l):=by simp only[RA,SE,Rk]
  _=lZ D.sum*tD D*(ch (D.sum+l) l*o*lZ l):=by rw[G]
  _=_:=by simp only[RA,SE,Rk]
theorem En(D:List Nat):0<oW D:=by
 unfold oW
 induction D with
 |nil=>exact Ub
 |cons x r G=>exact Uc (vH x) G
theorem BU{xs D:List Nat}(p:xs.Perm D):jJ 1 0 xs=jJ 1 0 D:=by
 have G:=sd xs;have J:=sd D;have e1:oW xs=oW D:=ur (p.map _);have e2:tD xs=tD D:=ur (p.map _);rw[e1,e2,p.sum_nat,<-J]at G;exact Nat.eq_of_mul_eq_mul_right (En D) G
theorem BV{xs:List Nat}(h:∀x∈xs,x<=1):jJ 1 0 xs=lZ xs.sum:=by
 have e:=sd xs;have o:∀D:List Nat,(∀x∈D,x<=1)->oW D=1/\tD D=1:=λD=>by
  induction D with
  |nil=>intro _;exact⟨rfl,rfl⟩
  |cons x r G =>
   intro h;obtain⟨J,O⟩:=G λy U=>h y (O0 _ U);have V:=h x O1;have Z:lZ x*oW r=1/\(x+1) ^ (x-1)*tD r=1:=by
    rw[J,O]
    match x,V with
    |0,_=>exact⟨rfl,rfl⟩
    |1,_=>exact⟨rfl,rfl⟩
   exact Z
 rw[(o xs h).1,(o xs h).2,Ud,Ud]at e;exact e
theorem BW{α β:Type}{f:α->β}{A C:List β}(p:A.Perm C):∀B:List α,B.map f=C->∃D:List α,D.Perm B/\D.map f=A:=by
 induction p with
 |nil=>intro B h;exact⟨B,.refl _,h⟩
 |cons x _ U =>
  intro B h;obtain⟨b,O,rfl,rfl,G⟩:=RQ.mp h;obtain⟨D,V,Z⟩:=U O G;exact⟨b::D,V.cons b,by rw[Po,Z]⟩
 |swap x y l =>
  intro B h;obtain⟨b,O,rfl,rfl,G⟩:=RQ.mp h;obtain⟨c,J,rfl,rfl,rfl⟩:=RQ.mp G;exact⟨c::b::J,.swap _ _ _,rfl⟩
 |trans _ _ h1 G =>
  intro B h;obtain⟨J,q1,q2⟩:=G B h;obtain⟨D,q3,q4⟩:=h1 J q2;exact⟨D,q3.trans q1,q4⟩
section
variable {n:Nat}{ms os fZ gN:List Nat}{bf mP:List (Kd×List Nat)}{φ ψ:Nat->Nat}
theorem uu(I:pY n ms os fZ gN φ ψ)(W:ak n ms)(D:ak n os)(U:ak n fZ)(J:ak n gN)(h:bW n ms os bf)(h':bW n fZ gN mP):(ky bf).Perm (ky mP):=by
 classical
 refine List.perm_iff_count.mpr λq=>?_;obtain⟨k,m⟩:=q;have cnt:∀{ms os:List Nat}{bf:List (Kd×List Nat)} (W:ak n ms) (D:ak n os) (h:bW n ms os bf),m*(ky bf).count (k,m)=((OV (2*n)).map λx=>if kd (ar ms) (ar os) x=k/\(eG (2*n) (ar ms) (ar os) x).length=m then 1 else 0).sum:=λ{ms os bf} W D h=>by
  have L:=jr W D h;rw[<-nO (L.perm.map _),yd _ (λth=>if th.1=k/\th.2.length=m then 1 else 0) bf λth O x G=>by
   obtain⟨e1,e2⟩:=iM W D h O G;rw[e1,e2]]
  clear h L
  induction bf with
  |nil=>show m*0=0;omega
  |cons th r V =>
   show m*((th.1,th.2.length)::ky r).count (k,m)=_;rw[Po,Qe,<-V,List.count_cons];by_cases c:th.1=k/\th.2.length=m
   .rw[Uo c,Uo (by rw[c.1,c.2];exact US _),c.2,TB];omega
   rw[Uk c,Uk (λz=>c (by have e:=eq_of_beq z;injection e with e1 e2;exact⟨e1,e2⟩)),Sy,Nat.mul_zero,Qh]
 by_cases Z:m=0
 .have z:∀{ms os:List Nat}{bf:List (Kd×List Nat)} (W:ak n ms) (D:ak n os) (h:bW n ms os bf),(ky bf).count (k,m)=0:=λ{ms os bf} W D h=>by
   refine List.count_eq_zero.mpr λz=>?_;unfold ky at z;obtain⟨th,O,e⟩:=OO.mp z;injection e with e1 e2;have:=(h.good W D O).ne;omega
  rw[z W D h,z U J h']
 have e:((OV (2*n)).map λx=>if kd (ar ms) (ar os) x=k/\(eG (2*n) (ar ms) (ar os) x).length=m then 1 else 0).sum=((OV (2*n)).map λx=>if kd (ar fZ) (ar gN) x=k/\(eG (2*n) (ar fZ) (ar gN) x).length=m then 1 else 0).sum:=by
  rw[<-nO (I.perm.map λx=>if kd (ar fZ) (ar gN) x=k/\(eG (2*n) (ar fZ) (ar gN) x).length=m then 1 else 0),Pp];congr 1;refine PB λx G=>?_;have G:=OX.mp G;show(if kd (ar ms) (ar os) x=k/\(eG (2*n) (ar ms) (ar os) x).length=m then 1 else 0)=if kd (ar fZ) (ar gN) (φ x)=k/\(eG (2*n) (ar fZ) (ar gN) (φ x)).length=m then 1 else 0;rw[I.kd G,I.len G]
 have c1:=cnt W D h;have c2:=cnt U J h';rw[e,<-c2]at c1;exact Nat.eq_of_mul_eq_mul_left (by omega) c1
theorem oX(W:ak n ms)(D:ak n os)(h:bW n ms os bf):mj n ms os=jJ 1 0 (bf.map cT):=by
 unfold mj;rw[<-h.lacks W D,Pp];rfl
noncomputable def Mb(q:Kd×Nat):Nat:=if q.1=.ring then q.2/2-1 else q.2/2
theorem uw(bf:List (Kd×List Nat)):bf.map cT=(ky bf).map Mb:=by unfold ky;rw[Pp];rfl
theorem ux{D:Nat}(W:ak n ms)(J:ak n os)(O:ak D fZ)(G:ak D gN)(h:bW n ms os bf)(h':bW D fZ gN mP)(p:(ky bf).Perm (ky mP)):mj n ms os=mj D fZ gN:=by
 rw[oX W J h,oX O G h',uw,uw];exact BU (p.map _)
theorem cV(W:ak n ms)(D:ak n os)(h:bW n ms os bf):aP n ms os↔both (bf.map (·.1))=false:=by
 unfold aP;rw[Ee W D h]
theorem uz(bf:List (Kd×List Nat)):bf.map (·.1)=(ky bf).map (·.1):=by unfold ky;rw[Pp];rfl
theorem zE{D:Nat}(W:ak n ms)(J:ak n os)(O:ak D fZ)(G:ak D gN)(h:bW n ms os bf)(h':bW D fZ gN mP)(p:(ky bf).Perm (ky mP)):aP n ms os↔aP D fZ gN:=by
 rw[cV W J h,cV O G h',uz,uz];have e:∀k:Kd,k∈(ky bf).map (·.1)↔k∈(ky mP).map (·.1):=λk=>(p.map _).mem_iff;unfold both;simp only[e]
noncomputable def vN(n:Nat)(os:List Nat):Nat->List Nat->Nat
 |0,ms=>mj n ms os
 |j+1,ms=>if both ((cy n ms os (2*n)).map (·.1))=false then mj n ms os else((iK n os ms).map (vN n os j)).sum
noncomputable def vR(n:Nat)(ms os:List Nat):Nat:=vN n os (aC n ms os) ms
theorem uA(h:aP n ms os):vR n ms os=mj n ms os:=by
 unfold vR;cases aC n ms os with
 |zero=>rfl
 |succ j=>exact Uo h
theorem pI(W:ak n ms):aP n ms ms:=by
 obtain⟨bf,h⟩:=eD W W;rw[cV W W h];exact Qj.mpr λz=>AX W W h z rfl
theorem Eo(W:ak n ms)(D:ak n os)(h:¬aP n ms os):vR n ms os=((dF n os ms).map λc=>vR n (bN ms c.1 c.2) os).sum:=by
 have ne:ms≠os:=λe=>h (by subst e;exact pI W);unfold vR;cases e:aC n ms os with
 |zero=>exact Us ((cI W D).mp e) ne
 |succ j =>
  show(if both ((cy n ms os (2*n)).map (·.1))=false then mj n ms os else((iK n os ms).map (vN n os j)).sum)=_;unfold aP at h;rw[Uk h];unfold iK;rw[Pp];congr 1;refine PB λc G=>?_;have c4:=(cO G).2.2.2;show vN n os j (bN ms c.1 c.2)=vN n os (aC n (bN ms c.1 c.2) os) (bN ms c.1 c.2);rw[show aC n (bN ms c.1 c.2) os=j by omega]
theorem Ep:∀(j:Nat) {ms fZ:List Nat},pY n ms os fZ gN φ ψ->ak n ms->ak n os->ak n fZ->ak n gN->vN n os j ms=vN n gN j fZ:=by
 intro j
 induction j with
 |zero =>
  intro ms fZ I W G J D;obtain⟨bf,h⟩:=eD W G;obtain⟨mP,h'⟩:=eD J D;exact ux W G J D h h' (uu I W G J D h h')
 |succ j V =>
  intro ms fZ I W G J D;obtain⟨bf,h⟩:=eD W G;obtain⟨mP,h'⟩:=eD J D;have p:=uu I W G J D h h';have O:=zE W G J D h h' p;show(if both ((cy n ms os (2*n)).map (·.1))=false then mj n ms os else((iK n os ms).map (vN n os j)).sum)=(if both ((cy n fZ gN (2*n)).map (·.1))=false then mj n fZ gN else((iK n gN fZ).map (vN n gN j)).sum)
  unfold aP at O;by_cases c:both ((cy n ms os (2*n)).map (·.1))=false
  .rw[Uo c,Uo (O.mp c)];exact ux W G J D h h' p
  rw[Uk c,Uk (λz=>c (O.mpr z)),<-nO ((Ec I W J).map _),Pp];congr 1;refine PB λw hw=>?_;have U:=kX W hw;exact V (ya I U) U G (oR I U) D
theorem JF{G:Nat}(W:ak n ms)(O:ak n os)(U:ak G fZ)(D:ak G gN)(h:bW n ms os bf)(h':bW G fZ gN mP)(p:(ky bf).Perm (ky mP)):vR n ms os=vR G fZ gN:=by
 have L:=jr W O h;have L':=jr U D h';have en:n=G:=by
  have e:∀l:List (Kd×List Nat),(iT l).length=((ky l).map (·.2)).sum:=λl=>by
   unfold iT ky;rw[SW,Pp,Pp];rfl
  have l1:=L.len;have l2:=L'.len;rw[e]at l1 l2;have:=nO (p.map (·.2));omega
 subst en;obtain⟨J,q1,q2⟩:=BW p mP rfl;have L2:=L'.L4 q1;obtain⟨WA,WB,I⟩:=L.iso W O;obtain⟨V,Z,I'⟩:=L2.iso U D;have ee:∀l:List (Kd×List Nat),l.map ec=(ky l).map λq=>4*q.2+kc q.1:=λl=>by unfold ky;rw[Pp];rfl
 have q3:ky J=ky bf:=q2;have e:J.map ec=bf.map ec:=by rw[ee,ee,q3]
 rw[e]at V Z I';unfold vR;rw[lP I,lP I',Ep _ I W O WA WB,Ep _ I' U D WA WB]
end
section
variable {n:Nat}{ms os:List Nat}{bf:List (Kd×List Nat)}
theorem tE(W:ak n ms)(D:ak n os)(h:bW n ms os bf):fK (2*n) (ar ms) (ar os) bf:=⟨bJ W D,h.1,h.2⟩
theorem oY(W:ak n ms)(U:ak n os)(Z:bW n ms os bf)(c:Nat×Nat):c∈(cU bf).filter (bA n ms)↔c∈dF n os ms:=by
 have A:=tE W U Z;unfold dF rV;rw[OZ,OZ,jq,@decide_eq_true_iff _ (Classical.propDecidable _)];have key:c.1<=c.2->c.2<2*n->ar ms c.1≠c.2->(c∈cU bf↔aC n (bN ms c.1 c.2) os+1=aC n ms os):=λG D V=>by
  rw[zo W U (by omega) D V];exact A.near G D V λx hx=>dw (by rw[W.len];exact hx)
 constructor
 .rintro⟨O,J⟩;obtain⟨G,D⟩:=A.bound O;unfold bA at J;rw[PX,Uy,Uy,rW G D]at J;exact⟨⟨by omega,G,D⟩,J.1,J.2,(key G D J.1).mp O⟩
 rintro⟨⟨_,G,D⟩,O,J,h3⟩;refine⟨(key G D O).mpr h3,?_⟩;unfold bA;rw[PX,Uy,Uy,rW G D];exact⟨O,J⟩
theorem vI(W:ak n ms)(D:ak n os)(G:bW n ms os bf):((cU bf).filter (bA n ms)).Perm (dF n os ms):=
 (P0 ((tE W D G).nodup.filter _) Ea).mpr (oY W D G)
theorem BX(W:ak n ms)(O:ak n os)(U:bW n ms os bf){D:List (Nat×Nat)}(hp:D.Perm ((cU bf).filter (bA n ms)))(hs:D.Pairwise λc d=>um c<=um d):D=dF n os ms:=by
 have hn:=W.small;have ad:(dF n os ms).Pairwise λc d=>um c<um d:=(oQ (N:=2*n) (by omega) (2*n)).filter _;have J:=vI W O U;have bd:∀c∈dF n os ms,c.2<2*n:=λc G=>(cO G).2.1;refine List.Perm.eq_of_pairwise (le:=λc d=>um c<=um d) (λc d G hd V Z=>?_) hs (ad.imp λh=>by omega) (hp.trans J);have b1:=bd c ((hp.trans J).mem_iff.mp G);have b2:=bd d hd;unfold um at V Z;exact R4 (by omega) (by omega)
theorem gO(W:ak n ms)(D:ak n os)(h:bW n ms os bf):(bf.map cT).sum=aC n ms os:=by
 have c:=h.counts W D;have L:=(jr W D h).len;have g:∀th∈bf,cj (2*n) (ar ms) (ar os) th.1 th.2:=λth J=>h.good W D J;have key:2*(bf.map cT).sum+(2*(bf.map λth=>ks th.1).countP (· == ks .ring)+(bf.map λth=>ks th.1).countP (· == ks .odd))=(iT bf).length:=by
  clear c L h
  induction bf with
  |nil=>rfl
  |cons th r U =>
   have U:=U λt J=>g t (O0 _ J);have G:=g th O1;have par:=G.par;have ne:=G.ne;have e:iT (th::r)=th.2++iT r:=rfl;rw[e,OQ,Po,Po,Qe,RK,RK];have V:cT th=if th.1=.ring then th.2.length/2-1 else th.2.length/2:=rfl;rw[V];have F:=G.fin;cases k:th.1 with
   |ring =>
    rw[k]at par F;have Z:2<=th.2.length:=by
     refine OU λz=>F.2.1 ?_
     match th.2,z,ne with
     |[x],_,_=>rfl
     |_::_::_,z,_=>exact Us (by simp) z
    have O:¬th.2.length%2=1:=λz=>by cases par.mp z
    rw[Uo rfl,Uo (by decide),Uk (by decide)];omega
   |odd =>
    rw[k]at par;have O:=par.mpr rfl;rw[Uk (by decide),Uk (by decide),Uo (by decide)];omega
   |bare =>
    rw[k]at par;have O:¬th.2.length%2=1:=λz=>by cases par.mp z
    rw[Uk (by decide),Uk (by decide),Uk (by decide)];omega
   |tied =>
    rw[k]at par;have O:¬th.2.length%2=1:=λz=>by cases par.mp z
    rw[Uk (by decide),Uk (by decide),Uk (by decide)];omega
 unfold aC;omega
def tF(n:Nat)(ms os:List Nat):Prop:=∀x,x<2*n->(eG (2*n) (ar ms) (ar os) x).length<=3
theorem tF.cN(S:tF n ms os)(W:ak n ms)(D:ak n os)(h:bW n ms os bf){th:Kd×List Nat}(J:th∈bf):th.2.length<=3:=by
 have G:=h.good W D J;obtain⟨x,O⟩:∃x,x∈th.2:=Q6 G.ne;rw[<-(iM W D h J O).2];exact S x (G.lt x O)
inductive JG (a b:Nat->Nat):Kd->List Nat->Prop
 |ring {x y:Nat}:a x=y->JG a b .ring [x,y]
 |one {x:Nat}:JG a b .odd [x]
 |odd {x y z:Nat}:a x=x->b x=y->a y=z->b z=z->JG a b .odd [x,y,z]
 |bare {x y:Nat}:a x=x->a y=y->b x=y->JG a b .bare [x,y]
 |tied {x y:Nat}:a x=y->b x=x->b y=y->x<y->JG a b .tied [x,y]
theorem Kr{N:Nat}{a b:Nat->Nat}{k:Kd}{L:List Nat}(G:cj N a b k L)(h:L.length<=3):JG a b k L:=by
 have ne:=G.ne;have par:=G.par;have lk:=G.lk;have F:=G.fin
 match L,h,ne with
 |[x],_,_ =>
  have k1:k=.odd:=par.mp rfl;subst k1;exact .one
 |[x,y],_,_ =>
  have D:=(lk 0 x y rfl rfl).1;cases k with
  |ring=>exact .ring D
  |odd=>exact Us (par.mpr rfl) (by simp)
  |bare=>exact .bare F.1 F.2.1 D
  |tied=>exact .tied D F.1 F.2.1 F.2.2
 |[x,y,z],_,_ =>
  have k1:k=.odd:=par.mp (by simp);subst k1;exact .odd F.1 (lk 0 x y rfl rfl).1 (lk 1 y z rfl rfl).1 F.2
theorem vJ{p q:Nat}(D:p<=q)(G:q<2*n):decide (Fits n ms (p:Nat) (q:Nat))=decide (ar ms p≠q):=decide_eq_decide.mpr (rW D G)
theorem se{c:Nat×Nat}(D:c.1<=c.2)(G:c.2<2*n)(h:ar ms c.1=c.2):bA n ms c=false:=by
 unfold bA;rw[vJ D G,Up (λz=>z h),Qw]
theorem sh(W:ak n ms){x y:Nat}(J:x<2*n)(G:y<2*n)(ne:x≠y)(D:ar ms x=x):bA n ms (ord x y)=true:=by
 have key:∀p q:Nat,p<=q->q<2*n->ar ms p≠q->¬(ar ms p≠p/\ar ms q≠q)->bA n ms (p,q)=true:=λp q O U V Z=>by
  unfold bA eu;rw[vJ O U,Ul V,Uk Z,Ul rfl];rfl
 by_cases c:x<=y
 .rw[eC c];exact key x y c G (by rw[D];exact ne) λz=>z.1 D
 rw[gn,eC (by omega)];refine key y x (by omega) J (λz=>ne ?_) λz=>z.2 D;have:=W.wk.inv y G;rw[z,D]at this;exact this
theorem iA(W:ak n ms){x y:Nat}(D:x<2*n)(J:y<2*n)(G:ar ms x=y):bA n ms (ord x y)=false:=by
 have e:=W.wk.inv x D;rw[G]at e;by_cases c:x<=y
 .rw[eC c];exact se c J G
 rw[gn,eC (by omega)];exact se (show y<=x by omega) D e
theorem uB(W:ak n ms){x y:Nat}(G:x<2*n)(U:y<2*n)(D:ar ms x=y)(lt:x<y):bA n ms (x,x)=true/\bA n ms (y,y)=false:=by
 have e:=W.wk.inv x G;rw[D]at e;have J:bQ ms x x=(y,y):=by unfold bQ;rw[D,R5,T6]
 have O:bQ ms y y=(x,x):=by unfold bQ;rw[e,R5,T6]
 constructor
 .unfold bA eu;rw[vJ (ON x) G,Ul (by rw[D];omega),Uo ⟨by rw[D];omega,by rw[D];omega⟩,J,Uk (by simp only;omega),Ul rfl];rfl
 unfold bA eu;have ne:((x,x):Nat×Nat)≠(y,y):=λz=>by injection z with V Z;omega
 rw[Uo ⟨by rw[e];omega,by rw[e];omega⟩,O,Uo (.inl lt),Up ne,RG]
noncomputable def vK(n:Nat)(ms:List Nat)(th:Kd×List Nat):Nat:=((bZ th.2).filter (bA n ms)).length+(if th.1=.tied then((th.2.map λe=>(e,e)).filter (bA n ms)).length else 0)
theorem Er(W:ak n ms){k:Kd}{L:List Nat}(h:JG (ar ms) (ar os) k L)(lt:∀x∈L,x<2*n)(nd:L.Nodup):vK n ms (k,L)=cT (k,L):=by
 cases h with
 | @ring x y V =>
  have e:bZ [x,y]=[ord x y]:=rfl;have D:=iA W (lt x (by simp)) (lt y (by simp)) V;simp[vK,cT,e,D]
 | @one x =>
  have e:bZ [x]=[]:=rfl;simp[vK,cT,e]
 | @odd x y z G O J U =>
  have e:bZ [x,y,z]=[ord x y,ord y z]:=rfl;have ne:x≠y:=λz=>by subst z;simp at nd
  have D:=sh W (lt x (by simp)) (lt y (by simp)) ne G;have Z:=iA W (lt y (by simp)) (lt z (by simp)) J;simp[vK,cT,e,D,Z]
 | @bare x y G O J =>
  have e:bZ [x,y]=[ord x y]:=rfl;have ne:x≠y:=λz=>by subst z;simp at nd
  have D:=sh W (lt x (by simp)) (lt y (by simp)) ne G;simp[vK,cT,e,D]
 | @tied x y G O J U =>
  have e:bZ [x,y]=[ord x y]:=rfl;obtain⟨o1,o2⟩:=uB W (lt x (by simp)) (lt y (by simp)) G U;have D:=iA W (lt x (by simp)) (lt y (by simp)) G;simp[vK,cT,e,D,o1,o2]
theorem AY(n:Nat)(ms:List Nat):∀bf:List (Kd×List Nat),((bf.flatMap λth=>bZ th.2).filter (bA n ms)).length+(((aV bf .tied).map λe=>(e,e)).filter (bA n ms)).length=(bf.map (vK n ms)).sum
 |[]=>rfl
 |th::r=>by
  have D:=AY n ms r;rw[QI,O9,OQ,Po,Qe,<-D];unfold vK;by_cases c:th.1=.tied
  .have e:aV (th::r) .tied=th.2++aV r .tied:=by
    unfold aV;rw[Pe (by exact Ul c),QI]
   rw[Uo c,e,O5,O9,OQ];omega
  have e:aV (th::r) .tied=aV r .tied:=by
   unfold aV;rw[Pf (by rw[Up c];decide)]
  rw[Uk c,e];omega
theorem vL(S:tF n ms os)(W:ak n ms)(D:ak n os)(h:bW n ms os bf):(dF n os ms).length=((c6 (aV bf .bare) (aV bf .tied)).filter (bA n ms)).length+aC n ms os:=by
 rw[<-(vI W D h).length_eq,<-gO W D h];unfold cU;rw[O9,O9,OQ,OQ];have e:=AY n ms bf;have e2:bf.map (vK n ms)=bf.map cT:=PB λth J=>by
  have G:=h.good W D J;exact Er (os:=os) W (Kr G (S.cN W D h J)) G.lt G.nd
 rw[e2]at e;omega
theorem nS(D:both (bf.map (·.1))=false):c6 (aV bf .bare) (aV bf .tied)=[]:=by
 refine List.eq_nil_iff_forall_not_mem.mpr λc G=>?_;obtain⟨x,J,y,O,_⟩:=iy.mp G;obtain⟨U,V,Z,_⟩:=bj.mp J;obtain⟨t2,h3,h4,_⟩:=bj.mp O;unfold both at D;rw[Ul (OO.mpr ⟨U,V,Z⟩),Ul (OO.mpr ⟨t2,h3,h4⟩)]at D;cases D
theorem JH(S:tF n ms os)(W:ak n ms)(G:ak n os)(hn:n<=6):(dF n os ms).length<=42:=by
 obtain⟨bf,h⟩:=eD W G;rw[vL S W G h];have A:=tE W G h;have c1:=Pm (bA n ms) (c6 (aV bf .bare) (aV bf .tied));have c2:=ui (aV bf .bare) (aV bf .tied);have U:(aV bf .bare++aV bf .tied).length<=2*n:=by
  have z:=sub_len (l:=aV bf .bare++aV bf .tied) (m:=OV (2*n)) (PY.mpr ⟨A.lO _,A.lO _,λx D y V=>A.DN D V⟩) λx D=>by
   rcases OY.mp D with D|D
   .obtain⟨th,J,_,O⟩:=bj.mp D;exact OX.mpr (A.lt J O)
   obtain⟨th,J,_,O⟩:=bj.mp D;exact OX.mpr (A.lt J O)
  rw[OW]at z;exact z
 rw[OQ]at U;have ap:aC n ms os<=n:=iN;generalize(aV bf .bare).length=u at *;generalize(aV bf .tied).length=v at *;have:u*v<=36:=by
  have Z:u<=12:=by omega
  have hv:v<=12-u:=by omega
  refine PD (Nat.mul_le_mul_left u hv) ?_;have:∀u,u<=12->u*(12-u)<=36:=by decide
  exact this u Z
 omega
end
section
open Classical
variable {N:Nat}{a b a2:Nat->Nat}{v:Nat}
theorem gE{x y:Nat}:y∈eG N a b x↔y<N/\aB a b x y:=by unfold eG;rw[OZ,OX,Uy]
theorem kZ{x:Nat}:(eG N a b x).Nodup:=by unfold eG;exact PL.filter _
theorem Es(T:cq N a b)(h:∀z,z<N->aB a b z (a2 z)){x y:Nat}(G:x<N)(c:aB a2 b x y):aB a b x y :=
 (c (λz=>z<N/\aB a b x z) ⟨G,aB.refl x⟩ λz ⟨hz,D⟩=>⟨⟨(h z hz).lt T hz,D.trans (h z hz)⟩,⟨T.gl z hz,D.sg⟩⟩).2
theorem Et(T:cq N a b)(h:∀z,z<N->aB a b z (a2 z)){x:Nat}(D:x<N):(eG N a2 b x).length<=(eG N a b x).length :=
 sub_len kZ λy G=>by
  obtain⟨J,O⟩:=gE.mp G;exact gE.mpr ⟨J,Es T h D O⟩
theorem pJ{S:List Nat}{x:Nat}(D:x∈S)(cl:∀z∈S,a2 z∈S/\b z∈S):(eG N a2 b x).length<=S.length :=
 sub_len kZ λy G=>(gE.mp G).2 (·∈S) D cl
theorem iB(h:∀z,aB a b v z->a2 z=a z)(w:Nat):aB a2 b v w↔aB a b v w:=by
 constructor
 .intro c;exact c (λz=>aB a b v z) (aB.refl v) λz D=>⟨by rw[h z D];exact D.sf,D.sg⟩
 intro c;exact(c (λz=>aB a2 b v z/\aB a b v z) ⟨aB.refl v,aB.refl v⟩ λz ⟨c1,c2⟩=>⟨⟨by rw[<-h z c2];exact c1.sf,c2.sf⟩,c1.sg,c2.sg⟩).1
theorem GY(h:∀z,aB a b v z->a2 z=a z):kd a2 b v=kd a b v:=by
 have A:cH a2 b v↔cH a b v:=⟨λ⟨u,c,e⟩=>⟨u,(iB h u).mp c,by rw[<-h u ((iB h u).mp c)];exact e⟩,λ⟨u,c,e⟩=>⟨u,(iB h u).mpr c,by rw[h u c];exact e⟩⟩
 have B:cZ a2 b v↔cZ a b v:=⟨λ⟨u,c,e⟩=>⟨u,(iB h u).mp c,e⟩,λ⟨u,c,e⟩=>⟨u,(iB h u).mpr c,e⟩⟩
 have O:gf a2 b v↔gf a b v:=and_congr A B;unfold kd;rw[propext A,propext B,propext O]
theorem yg(T:cq N a b){p q:Nat}(hp:p<N)(G:q<N)(c:aB a b p q)(z:Nat):aB a b z (cE a p q z):=by
 have D:=c.symm T hp;have r:∀x,aB a b x (a x):=λx=>(aB.refl x).sf;have s:∀x,x<N->aB a b (a x) x:=λx J=>(r x).symm T J;unfold cE
 split
 .split
  .exact aB.refl z
  exact r z
 split
 .rename_i e;rw[e];exact c
 split
 .rename_i e;rw[e];exact D
 split
 .split
  .rename_i e _;rw[e];exact(s p hp).trans (c.trans (r q))
  exact aB.refl z
 split
 .split
  .rename_i e _;rw[e];exact(s q G).trans (D.trans (r p))
  exact aB.refl z
 exact r z
theorem AZ(cl:∃S:Nat->Prop,S v/\∀z,S z->a z≠z/\b z≠z/\S (a z)/\S (b z)):kd a b v=.ring:=by
 obtain⟨S,J,D⟩:=cl;have G:∀u,aB a b v u->S u:=λu c=>c S J λz hz=>⟨(D z hz).2.2.1,(D z hz).2.2.2⟩
 unfold kd;have A:¬cH a b v:=λ⟨u,c,e⟩=>(D u (G u c)).1 e;have B:¬cZ a b v:=λ⟨u,c,e⟩=>(D u (G u c)).2.1 e;rw[Uk (λz=>A z.1),Uk A,Uk B]
theorem zF(D:a v=v)(G:b v=v):kd a b v=.odd:=by
 unfold kd;rw[Uo ⟨⟨v,aB.refl v,D⟩,v,aB.refl v,G⟩]
end
section
variable {n:Nat}{ms os:List Nat}{bf:List (Kd×List Nat)}
theorem closed{N:Nat}{a b:Nat->Nat}(A:fK N a b bf){s:Kd×List Nat}(hs:s∈bf){x y:Nat}(D:x∈s.2)(c:aB a b x y):y∈s.2:=by
 obtain⟨t,J,G⟩:=A.mem (c.lt A.T (A.lt hs D));rw[A.conn hs J D G c];exact G
theorem vM{N:Nat}{a b:Nat->Nat}(A:fK N a b bf){s:Kd×List Nat}(hs:s∈bf){x y:Nat}(D:x∈s.2)(G:y∈s.2):aB a b x y:=by
 obtain⟨u,J,C⟩:=A.comp hs;exact(((C.mem x).mp D).symm A.T J).trans ((C.mem y).mp G)
theorem tF.bN(S:tF n ms os)(W:ak n ms)(Z:ak n os){c:Nat×Nat}(hc:c∈dF n os ms):tF n (aI.bN ms c.1 c.2) os:=by
 obtain⟨bf,h⟩:=eD W Z;have A:=tE W Z h;have T:=bJ W Z;obtain⟨c1,c2,c3,c4⟩:=cO hc;have hp:=(OZ.mp ((oY W Z h c).mpr hc)).1;have ba:∀z,z<2*n->ar (aI.bN ms c.1 c.2) z=cE (ar ms) c.1 c.2 z:=λz hz=>dw (by rw[W.len];exact hz);have sub:aB (ar ms) (ar os) c.1 c.2->tF n (aI.bN ms c.1 c.2) os:=λcn x hx=>PD (Et T (λz hz=>by rw[ba z hz];exact yg T (by omega) c2 cn z) hx) (S x hx);rcases gD.mp hp with⟨x,hx,y,hy,e⟩|⟨th,ht,hs⟩|⟨x,hx,e⟩
 .obtain⟨t1,O,k1,m1⟩:=bj.mp hx;obtain⟨t2,U,k2,m2⟩:=bj.mp hy;have xy:=A.DN hx hy;have lx:=A.lt O m1;have ly:=A.lt U m2;have f1:=Kr (h.good W Z O) (S.cN W Z h O);have f2:=Kr (h.good W Z U) (S.cN W Z h U);have n1:=(h.good W Z O).nd;have n2:=(h.good W Z U).nd;obtain⟨G,ax,ax',bx,bx',all1,GZ⟩:∃G,ar ms x=x/\ar ms G=G/\ar os x=G/\ar os G=x/\(∀z∈t1.2,z=x\/z=G)/\G∈t1.2:=by
   obtain⟨k,L⟩:=t1;simp only at k1 m1 f1 n1⊢;subst k1;cases f1 with
   | @bare u w e1 e2 e3 =>
    have g:=T.gg u (A.lt O (by simp));rw[e3]at g;rcases Pa.mp m1 with rfl|m
    .exact⟨w,e1,e2,e3,g,by simp,by simp⟩
    obtain rfl:=OS.mp m;exact⟨u,e2,e1,g,e3,by simp[or_comm],by simp⟩
  obtain⟨D,ay,ay',bY,bY',all2,V,nyy⟩:∃D,ar ms y=D/\ar ms D=y/\ar os y=y/\ar os D=D/\(∀z∈t2.2,z=y\/z=D)/\D∈t2.2/\y≠D:=by
   obtain⟨k,L⟩:=t2;simp only at k2 m2 f2 n2⊢;subst k2;cases f2 with
   | @tied u w e1 e2 e3 e4 =>
    have g:=T.ff u (A.lt U (by simp));rw[e1]at g;rcases Pa.mp m2 with rfl|m
    .exact⟨w,e1,g,e2,e3,by simp,by simp,by omega⟩
    obtain rfl:=OS.mp m;exact⟨u,g,e1,e3,e2,by simp[or_comm],by simp,by omega⟩
  have NA:∀u∈t1.2,∀z∈t2.2,u≠z:=λu hu z hz e=>by
   subst e;have:=A.same O U hu hz;rw[this,k2]at k1;cases k1
  have NB:∀z,z<2*n->ar (aI.bN ms c.1 c.2) z=cE (ar ms) x y z:=λz hz=>by
   rw[ba z hz];by_cases le:x<=y
   .rw[eC le]at e;rw[e]
   rw[gn,eC (by omega)]at e;rw[e];exact lM (λq=>xy q.symm) z
  have e1:ar (aI.bN ms c.1 c.2) x=y:=by rw[NB x lx];unfold cE;rw[Uk xy,Uo rfl]
  have e2:ar (aI.bN ms c.1 c.2) y=x:=by rw[NB y ly];unfold cE;rw[Uk xy,Uk (λq=>xy q.symm),Uo rfl]
  have ly':D<2*n:=A.lt U V;have e3:ar (aI.bN ms c.1 c.2) D=D:=by
   rw[NB D ly'];unfold cE;rw[Uk xy,Uk (λq=>NA x m1 D V q.symm),Uk (λq=>nyy q.symm),ax,Uk (λq=>NA x m1 D V q.symm),ay,Uo rfl,Uk (λq=>q rfl)]
  have e4:∀z,z<2*n->z≠x->z≠y->z≠D->ar (aI.bN ms c.1 c.2) z=ar ms z:=λz hz z1 z2 z3=>by
   rw[NB z hz];unfold cE;rw[Uk xy,Uk z1,Uk z2,ax,Uk z1,ay,Uk z3]
  intro v hv;by_cases v1:v∈t1.2\/v=y
  .refine pJ (S:=[x,G,y]) ?_ λz hz=>?_
   .rcases v1 with v1|v1
    .rcases all1 v v1 with q|q <;> rw[q] <;> simp
    rw[v1];simp
   rcases Pa.mp hz with q|hz
   .rw[q,e1,bx];simp
   rcases Pa.mp hz with q|hz
   .by_cases xx:G=x
    .have e5:ar (aI.bN ms c.1 c.2) G=y:=by rw[xx];exact e1
     rw[q,e5,bx'];simp
    rw[q,e4 G (A.lt O GZ) xx (NA G GZ y m2) (NA G GZ D V),ax',bx'];simp
   obtain q:=OS.mp hz;rw[q,e2,bY];simp
  by_cases v2:v=D
  .refine PD (pJ (S:=[D]) (by rw[v2];simp) λz hz=>?_) (by simp);rw[OS.mp hz,e3,bY'];simp
  have key:∀z,aB (ar ms) (ar os) v z->ar (aI.bN ms c.1 c.2) z=ar ms z:=λz cz=>by
   have J:=cz.symm T hv;refine e4 z (cz.lt T hv) (λq=>v1 (.inl ?_)) (λq=>?_) λq=>?_
   .rw[q]at J;exact closed A O m1 J
   .rw[q]at J;rcases all2 v (closed A U m2 J)with w|w
    .exact v1 (.inr w)
    exact v2 w
   rw[q]at J;rcases all2 v (closed A U V J)with w|w
   .exact v1 (.inr w)
   exact v2 w
  refine PD (sub_len kZ λy hy=>?_) (S v hv);obtain⟨q1,q2⟩:=gE.mp hy;exact gE.mpr ⟨q1,(iB key y).mp q2⟩
 .obtain⟨i,j,x,y,_,_,O,U,e⟩:=dz.mp hs;have cn:=vM A ht (OP O) (OP U);refine sub ?_;by_cases le:x<=y
  .rw[eC le]at e;rw[e];exact cn
  rw[gn,eC (by omega)]at e;rw[e];exact cn.symm T (A.lt ht (OP O))
 exact sub (by rw[e];exact aB.refl x)
theorem eN(S:tF n ms os)(W:ak n ms)(D:ak n os)(nb:aP n ms os){c:Nat×Nat}(hc:c∈dF n os ms):aP n (bN ms c.1 c.2) os:=by
 obtain⟨bf,h⟩:=eD W D;have A:=tE W D h;have T:=bJ W D;obtain⟨c1,c2,c3,c4⟩:=cO hc;have W2:=dy W (by omega) c2 c3;obtain⟨hp,bM⟩:=OZ.mp ((oY W D h c).mpr hc);have ba:∀z,z<2*n->ar (bN ms c.1 c.2) z=cE (ar ms) c.1 c.2 z:=λz hz=>dw (by rw[W.len];exact hz);have Z:=(cV W D h).mp nb;have key:∃th∈bf,(∀z,z<2*n->z∉th.2->ar (bN ms c.1 c.2) z=ar ms z)/\∀v∈th.2,kd (ar (bN ms c.1 c.2)) (ar os) v=.ring\/kd (ar (bN ms c.1 c.2)) (ar os) v=.odd:=by
  have two:∀x y,x<2*n->x≠y->c=ord x y->∀z,z<2*n->ar (bN ms c.1 c.2) z=cE (ar ms) x y z:=λx y _ xy e z hz=>by
   rw[ba z hz];by_cases le:x<=y
   .rw[eC le]at e;rw[e]
   rw[gn,eC (by omega)]at e;rw[e];exact lM (λq=>xy q.symm) z
  rcases gD.mp hp with⟨x,hx,y,hy,e⟩|⟨th,ht,hs⟩|⟨x,hx,e⟩
  .exfalso;have z:=nS Z;have m:c∈c6 (aV bf .bare) (aV bf .tied):=iy.mpr ⟨x,hx,y,hy,e⟩;rw[z]at m;cases m
  .refine⟨th,ht,?_⟩;have G:=h.good W D ht;have f:=Kr G (S.cN W D h ht);have nd:=G.nd;have lt:=G.lt;obtain⟨k,L⟩:=th;simp only at f nd lt hs⊢;cases f with
   | @ring x y ha =>
    have es:bZ [x,y]=[ord x y]:=rfl;rw[es]at hs;rw[OS.mp hs,iA W (lt x (by simp)) (lt y (by simp)) ha]at bM;cases bM
   | @one x=>cases(show c∈([]:List (Nat×Nat))from hs)
   | @odd x y z J h2 h3 h4 =>
    have es:bZ [x,y,z]=[ord x y,ord y z]:=rfl;rw[es]at hs;have ne:x≠y:=λq=>by subst q;simp at nd
    have ne2:x≠z:=λq=>by subst q;simp at nd
    have ne3:y≠z:=λq=>by subst q;simp at nd
    have O:=lt x (by simp);have ly:=lt y (by simp);have lz:=lt z (by simp);have bY:=T.gg x O;rw[h2]at bY;rcases Pa.mp hs with e|hs
    .have B:=two x y O ne e;have e1:ar (bN ms c.1 c.2) x=y:=by rw[B x O];unfold cE;rw[Uk ne,Uo rfl]
     have e2:ar (bN ms c.1 c.2) y=x:=by rw[B y ly];unfold cE;rw[Uk ne,Uk (λq=>ne q.symm),Uo rfl]
     have e3:ar (bN ms c.1 c.2) z=z:=by rw[B z lz];unfold cE;rw[Uk ne,Uk (λq=>ne2 q.symm),Uk (λq=>ne3 q.symm),J,Uk (λq=>ne2 q.symm),h3,Uo rfl,Uk (λq=>q rfl)]
     refine⟨λu hu U=>?_,λv V=>?_⟩
     .rw[B u hu];unfold cE;simp only[Pa,Qp,or_false,not_or]at U;rw[Uk ne,Uk U.1,Uk U.2.1,J,Uk U.1,h3,Uk U.2.2]
     have ring:∀v,v=x\/v=y->kd (ar (bN ms c.1 c.2)) (ar os) v=.ring:=λv V=>AZ ⟨λu=>u=x\/u=y,V,λu hu=>by
      rcases hu with rfl|rfl
      .rw[e1,h2];exact⟨λq=>ne q.symm,λq=>ne q.symm,.inr rfl,.inr rfl⟩
      rw[e2,bY];exact⟨ne,ne,.inl rfl,.inl rfl⟩⟩
     rcases Pa.mp V with q|V
     .exact .inl (ring v (.inl q))
     rcases Pa.mp V with q|V
     .exact .inl (ring v (.inr q))
     rw[OS.mp V];exact .inr (zF e3 h4)
    rw[OS.mp hs,iA W ly lz h3]at bM;cases bM
   | @bare x y J h2 h3 =>
    have es:bZ [x,y]=[ord x y]:=rfl;rw[es]at hs;have e:=OS.mp hs;have ne:x≠y:=λq=>by subst q;simp at nd
    have O:=lt x (by simp);have ly:=lt y (by simp);have bY:=T.gg x O;rw[h3]at bY;have B:=two x y O ne e;have e1:ar (bN ms c.1 c.2) x=y:=by rw[B x O];unfold cE;rw[Uk ne,Uo rfl]
    have e2:ar (bN ms c.1 c.2) y=x:=by rw[B y ly];unfold cE;rw[Uk ne,Uk (λq=>ne q.symm),Uo rfl]
    refine⟨λu hu U=>?_,λv V=>.inl (AZ ⟨λu=>u=x\/u=y,by simpa using V,λu hu=>?_⟩)⟩
    .rw[B u hu];unfold cE;simp only[Pa,Qp,or_false,not_or]at U;rw[Uk ne,Uk U.1,Uk U.2,J,Uk U.1,h2,Uk U.2]
    rcases hu with rfl|rfl
    .rw[e1,h3];exact⟨λq=>ne q.symm,λq=>ne q.symm,.inr rfl,.inr rfl⟩
    rw[e2,bY];exact⟨ne,ne,.inl rfl,.inl rfl⟩
   | @tied x y J h2 h3 h4 =>
    have es:bZ [x,y]=[ord x y]:=rfl;rw[es]at hs;rw[OS.mp hs,iA W (lt x (by simp)) (lt y (by simp)) J]at bM;cases bM
  obtain⟨th,ht,k1,m1⟩:=bj.mp hx;refine⟨th,ht,?_⟩;have G:=h.good W D ht;have f:=Kr G (S.cN W D h ht);have lt:=G.lt;obtain⟨k,L⟩:=th;simp only at f lt m1 k1⊢;subst k1;cases f with
  | @tied u w J h2 h3 h4 =>
   have lu:=lt u (by simp);have lw:=lt w (by simp);have g:=T.ff u lu;rw[J]at g;have both:∀z,ar (bN ms c.1 c.2) z=ar (bN ms x x) z:=λz=>by rw[e]
   have B:∀z,z<2*n->ar (bN ms c.1 c.2) z=if z=u\/z=w then z else ar ms z:=λz hz=>by
    rw[ba z hz,e];unfold cE;rw[Uo rfl];rcases Pa.mp m1 with q|m
    .rw[q,J]
    rw[OS.mp m,g];have:(z=w\/z=u)=(z=u\/z=w):=propext or_comm;simp only[this]
   refine⟨λz hz nz=>?_,λv V=>.inr ?_⟩
   .rw[B z hz,Uk (λq=>nz (by rcases q with q|q <;> rw[q] <;> simp))]
   rcases Pa.mp V with q|m
   .rw[q];exact zF (by rw[B u lu,Uo (.inl rfl)]) h2
   rw[OS.mp m];exact zF (by rw[B w lw,Uo (.inr rfl)]) h3
 obtain⟨th,ht,k1,k2⟩:=key;obtain⟨mP,h'⟩:=eD W2 D;have A':=tE W2 D h';rw[cV W2 D h'];have back:∀k:Kd,k≠.ring->k≠.odd->k∈mP.map (·.1)->k∈bf.map (·.1):=λk kr ko hk=>by
  obtain⟨t',Mc,e⟩:=OO.mp hk;obtain⟨x,hx⟩:∃x,x∈t'.2:=Q6 (h'.good W2 D Mc).ne;have O:=A'.lt Mc hx;have kx:=(iM W2 D h' Mc hx).1;have nx:x∉th.2:=λz=>by
   rcases k2 x z with q|q
   .exact kr (by rw[<-e,<-kx,q])
   exact ko (by rw[<-e,<-kx,q])
  have ks:=GY (a:=ar ms) (b:=ar os) (a2:=ar (bN ms c.1 c.2)) (v:=x) λz cz=>k1 z (cz.lt T O) λm=>nx (closed A ht m (cz.symm T O));obtain⟨t,J,h2⟩:=A.mem O;refine OO.mpr ⟨t,J,?_⟩;rw[<-(iM W D h J h2).1,<-ks,kx,e]
 unfold both at Z⊢;rw[SF]at Z⊢;rcases Z with q|q
 .exact .inl (Up λz=>of_decide_eq_false q (back .bare (by decide) (by decide) z))
 exact .inr (Up λz=>of_decide_eq_false q (back .tied (by decide) (by decide) z))
theorem vO(S:tF n ms os)(W:ak n ms)(D:ak n os)(G:aP n ms os):vR n ms os=lZ (aC n ms os):=by
 obtain⟨bf,h⟩:=eD W D;rw[uA G,oX W D h,BV (λx J=>?_),gO W D h];obtain⟨th,O,rfl⟩:=OO.mp J;have U:=S.cN W D h O;unfold cT
 split <;> omega
theorem Eu(W:ak n ms)(S:tF n ms ms):vR n ms ms=1:=by rw[vO S W W (pI W),(cI W W).mpr rfl];rfl
theorem lQ{α:Type}{f:α->Nat}{k:Nat}:∀l:List α,(∀x∈l,f x=k)->(l.map f).sum=l.length*k
 |[],_=>by simp
 |x::r,h=>by rw[Po,Qe,h x O1,lQ r λy D=>h y (O0 _ D),Ph,SG];omega
theorem Ew{α:Type}{f:α->Nat}{k:Nat}:∀l:List α,(∀x∈l,k<=f x)->l.length*k<=(l.map f).sum
 |[],_=>by simp
 |x::r,h=>by
  have G:=h x O1;have J:=Ew r λy D=>h y (O0 _ D);rw[Po,Qe,Ph,SG];omega
theorem v_sum(S:tF n ms os)(W:ak n ms)(D:ak n os)(ne:ms≠os):vR n ms os=((dF n os ms).map λc=>vR n (bN ms c.1 c.2) os).sum:=by
 by_cases G:aP n ms os
 .obtain⟨bf,h⟩:=eD W D;have dl:=vL S W D h;rw[nS ((cV W D h).mp G)]at dl;have dl:(dF n os ms).length=aC n ms os:=by rw[dl];exact Qh _
  cases e:aC n ms os with
  |zero=>exact Us ((cI W D).mp e) ne
  |succ j =>
   rw[vO S W D G,e,lQ (k:=lZ j) _ λc J=>?_,dl,e]
   .rfl
   obtain⟨c1,c2,O,c4⟩:=cO J;rw[vO (S.bN W D J) (dy W (by omega) c2 O) D (eN S W D G J),show aC n (bN ms c.1 c.2) os=j by omega]
 exact Eo W D G
theorem Md:∀(j:Nat) {ms:List Nat},tF n ms os->ak n ms->ak n os->aC n ms os=j->lZ j<=vR n ms os
 |0,ms,S,W,D,e=>by
  have q:=(cI W D).mp e;subst q;rw[Eu W S];exact ON _
 |j+1,ms,S,W,D,e=>by
  have ne:ms≠os:=λz=>by rw[(cI W D).mpr z]at e;cases e
  obtain⟨bf,h⟩:=eD W D;have dl:=vL S W D h;rw[v_sum S W D ne];have z:=Ew (f:=λc=>vR n (bN ms c.1 c.2) os) (k:=lZ j) (dF n os ms) λc G=>by
   obtain⟨c1,c2,J,c4⟩:=cO G;exact Md j (S.bN W D G) (dy W (by omega) c2 J) D (by omega)
  refine PD ?_ z;show(j+1)*lZ j<=_;exact QU _ (by omega)
end
end gB
namespace aI
open PySem L2 gB
noncomputable def pick(f:Nat×Nat->Nat):List (Nat×Nat)->Nat->Option ((Nat×Nat)×Nat)
 |[],_=>none
 |c::r,x=>if x<f c then some (c,x)else pick f r (x-f c)
theorem uC{f:Nat×Nat->Nat}:∀{l:List (Nat×Nat)}{x:Nat},x<(l.map f).sum->∃c y D G,pick f l x=Ya (c,y)/\l=D++c::G/\y<f c/\x=(D.map f).sum+y
 |[],x,h=>by simp at h
 |c::r,x,h=>by
  unfold pick;by_cases e:x<f c
  .rw[Uo e];exact⟨c,x,[],r,rfl,rfl,e,by simp⟩
  rw[Uk e];rw[Po,Qe]at h;obtain⟨d,y,D,G,J,O,U,V⟩:=uC (f:=f) (l:=r) (x:=x-f c) (by omega);exact⟨d,y,c::D,G,J,by rw[O];rfl,U,by rw[Po,Qe];omega⟩
noncomputable def vP(c d:Nat×Nat):Bool:=decide (c.1<d.1\/c.1=d.1/\c.2<d.2)
inductive gp (n:Nat) (os:List Nat):List Nat->List (Nat×Nat)->Prop
 |nil:gp n os os []
 |cons {ms:List Nat}{c:Nat×Nat}{r:List (Nat×Nat)}:c∈dF n os ms->gp n os (bN ms c.1 c.2) r->gp n os ms (c::r)
section
variable {n:Nat}{os:List Nat}
theorem Ex{c d:Nat×Nat}(D:c.2<1000)(hd:d.2<1000):vP c d=true↔um c<um d:=by
 unfold vP um;rw[Uy];omega
end
def Me(d l:Um)(H H':Hp):Prop:=∀c o,c≠d->c≠l->H c=Ya o->H' c=Ya o
variable (P:Ux)(w:UA)(K:OJ)
end aI
namespace L2
open PySem
theorem G4{X:Cx}{K:OJ}(D:X.K=K)(G:X.A.units<cLine):kl X (UQ .Lt) (Lm K):=D▸IH G
end L2
namespace aI
open PySem L2 gB
theorem zG(c d:Nat×Nat):HT.lexLt [(c.1:Int),(c.2:Int)] [(d.1:Int),(d.2:Int)]=vP c d:=by
 rw[HT.mE,HT.mE,HT.mf];unfold vP;rw[QV,Uy];by_cases h:(c.1:Int)=d.1
 .rw[Uo h];by_cases D:(c.2:Int)=d.2
  .rw[Uo D];constructor
   .intro z;cases z
   omega
  rw[Uk D,Uy];omega
 rw[Uk h,Uy];omega
theorem gp.ne{n:Nat}{os ms:List Nat}{c:Nat×Nat}{r:List (Nat×Nat)}(h:gp n os ms (c::r)):c∈dF n os ms/\gp n os (bN ms c.1 c.2) r:=by
 cases h with
 |cons D G=>exact⟨D,G⟩
theorem gp.end_{n:Nat}{os ms:List Nat}(h:gp n os ms []):ms=os:=by cases h;rfl
end aI
namespace gB
open Th aI
section
variable {n:Nat}{ms os:List Nat}{bf:List (Kd×List Nat)}
theorem uD{f:Kd×List Nat->Nat}{s t:Kd×List Nat}(ne:s≠t):∀l:List (Kd×List Nat),s∈l->t∈l->f s+f t<=(l.map f).sum
 |[],h,_=>by cases h
 |x::r,D,G=>by
  have one:∀u:Kd×List Nat,∀l:List (Kd×List Nat),u∈l->f u<=(l.map f).sum:=λu l=>by
   induction l with
   |nil=>intro h;cases h
   |cons y l J =>
    intro h;rw[Po,Qe];rcases Pa.mp h with h|h
    .rw[h];omega
    have:=J h;omega
  rw[Po,Qe];rcases Pa.mp D with e1|e1 <;> rcases Pa.mp G with e2|e2
  .exact Us (e1.trans e2.symm) ne
  .rw[e1];have:=one t r e2;omega
  .rw[e2];have:=one s r e1;omega
  have:=uD (f:=f) ne r e1 e2;omega
theorem uE(W:ak n ms)(J:ak n os)(D:¬aP n ms os):2<=aC n ms os:=by
 obtain⟨bf,h⟩:=eD W J;rw[cV W J h,Bool.not_eq_false]at D;unfold both at D;rw[PX,Uy,Uy]at D;obtain⟨s,O,e1⟩:=OO.mp D.1;obtain⟨t,U,e2⟩:=OO.mp D.2;have z:=uD (f:=cT) (λe=>by rw[e,e2]at e1;cases e1) bf O U;rw[gO W J h]at z;have p:∀u∈bf,u.1=.bare\/u.1=.tied->1<=cT u:=λu V k=>by
  have G:=h.good W J V;have par:=G.par;have ne:=G.ne;have:¬u.2.length%2=1:=λq=>by
   have:=par.mp q;rcases k with k|k <;> rw[k]at this <;> cases this
  unfold cT;rw[Uk (λq=>by rcases k with k|k <;> rw[k]at q <;> cases q)];omega
 have:=p s O (.inl e1);have:=p t U (.inr e2);omega
def Mf(n:Nat)(ms os:List Nat):Prop:=∀bf,bW n ms os bf->(cU bf).length<=900/\((cU bf).filter (bA n ms)).length<=63
theorem G5(D:n<=8):(kT (2*n) (2*n)).length<=136:=by
 have:∀n,n<=8->(kT (2*n) (2*n)).length<=136:=by decide
 exact this n D
theorem JI(W:ak n ms)(D:ak n os)(G:n<=8)(hd:(dF n os ms).length<=63):Mf n ms os:=λbf h=>by
 refine⟨?_,by rw[(vI W D h).length_eq];exact hd⟩;have A:=tE W D h;have z:=sub_len A.nodup (m:=kT (2*n) (2*n)) λc J=>by
  obtain⟨O,U⟩:=A.bound J;exact jq.mpr ⟨by omega,O,U⟩
 have:=G5 G;omega
def Gd(B n:Nat)(os ms:List Nat):Prop:=(B=55/\n<=5)\/(B=42/\n<=8/\tF n ms os/\(¬aP n ms os->n<=6))
theorem Gd.bN{B:Nat}(g:Gd B n os ms)(W:ak n ms)(D:ak n os){c:Nat×Nat}(G:c∈dF n os ms):Gd B n os (aI.bN ms c.1 c.2):=by
 rcases g with g|⟨O,U,J,V⟩
 .exact .inl g
 exact .inr ⟨O,U,J.bN W D G,λz=>V λZ=>z (eN J W D Z G)⟩
theorem Mg{n:Nat}{ms os:List Nat}:(dF n os ms).length<=(kT (2*n) (2*n)).length:=Pm _ _
theorem Gd.Fj{B:Nat}(g:Gd B n os ms)(W:ak n ms)(D:ak n os):(dF n os ms).length<=B:=by
 rcases g with⟨rfl,g⟩|⟨rfl,U,G,O⟩
 .have:=Jx (n:=n) g;have:=Mg (n:=n) (ms:=ms) (os:=os);omega
 by_cases J:aP n ms os
 .obtain⟨bf,h⟩:=eD W D;have dl:=vL G W D h;rw[nS ((cV W D h).mp J)]at dl;have V:aC n ms os<=n:=iN;have:([]:List (Nat×Nat)).filter (bA n ms)=[]:=rfl;rw[this]at dl;simp only[Qn]at dl;omega
 exact JH G W D (O J)
theorem Gd.Ks{B:Nat}(g:Gd B n os ms):n<=8/\B<=55:=by
 rcases g with⟨rfl,g⟩|⟨rfl,D,G,J⟩
 .omega
 omega
theorem Gd.lim{B:Nat}(g:Gd B n os ms)(W:ak n ms)(D:ak n os):Mf n ms os:=JI W D g.Ks.1 (by have:=g.Fj W D;have:=g.Ks;omega)
noncomputable def wN(B:Nat):Nat->Nat
 |0=>0
 |1=>0
 |j+2=>1+B*wN B (j+1)
noncomputable def Fm(B:Nat):Nat->Nat
 |0=>0
 |j+1=>Fm B j+wN B (j+1)
noncomputable def gr(B n:Nat)(os ms:List Nat):Nat:=if both ((cy n ms os (2*n)).map (·.1))=false then 0 else wN B (aC n ms os)
noncomputable def BY(B n:Nat)(os ms:List Nat):Nat:=if both ((cy n ms os (2*n)).map (·.1))=false then 0 else Fm B (aC n ms os)
theorem A0{B:Nat}(h:aP n ms os):gr B n os ms=0:=Uo h
theorem oZ{B:Nat}(h:¬aP n ms os):gr B n os ms=wN B (aC n ms os):=Uk h
theorem zH{B:Nat}(h:aP n ms os):BY B n os ms=0:=Uo h
theorem vQ{B:Nat}(h:¬aP n ms os):BY B n os ms=Fm B (aC n ms os):=Uk h
theorem HM{B:Nat}:gr B n os ms<=wN B (aC n ms os):=by unfold gr;split <;> omega
theorem JJ{B:Nat}:BY B n os ms<=Fm B (aC n ms os):=by unfold BY;split <;> omega
theorem qF(S:tF n ms os)(W:ak n ms)(G:ak n os){c:Nat×Nat}(D:c∈dF n os ms):(aP n ms os->gr 42 n os (aI.bN ms c.1 c.2)=0/\BY 42 n os (aI.bN ms c.1 c.2)=0)/\gr 42 n os (aI.bN ms c.1 c.2)<=wN 42 (aC n ms os-1)/\BY 42 n os (aI.bN ms c.1 c.2)<=Fm 42 (aC n ms os-1):=by
 have c4:=(cO D).2.2.2;have e:aC n (aI.bN ms c.1 c.2) os=aC n ms os-1:=by omega
 refine⟨λJ=>?_,by rw[<-e];exact HM,by rw[<-e];exact JJ⟩;have z:=eN S W G J D;exact⟨A0 z,zH z⟩
end
end gB
namespace aI
open PySem L2 gB
def js(G:List NK.Ent):Prop:=∀p∈G,∃(n:Nat) (ms os:List Nat) (D:List (Th.Kd×List Nat)),ak n ms/\ak n os/\bW n ms os D/\AW D p.1/\p.2.2=.int (vR n ms os:Nat)
theorem lR:js []:=λp hp=>nomatch hp
theorem BZ{D:List NK.Ent}(M:js D){n:Nat}{ms os:List Nat}{G:List (Th.Kd×List Nat)}(W:ak n ms)(WO:ak n os)(h:bW n ms os G){k:List NK.Itm}(hk:AW G k){v:V}(hv:NK.nR D k=Ya v):v=.int (vR n ms os:Nat):=by
 obtain⟨p,hp,rfl⟩:=Qd.mp hv;have e:=List.find?_some hp;have e:p.1=k:=Uw e;obtain⟨n',fZ,gN,mP,W',O,h',U,e2⟩:=M p (List.mem_of_find?_eq_some hp);obtain⟨qs,q1,q2⟩:=hk;obtain⟨JK,Z,J⟩:=U;rw[e,q2]at J;have eq:=map_inj (λx y=>Ej) J;subst eq;rw[e2,JF W WO W' O h h' (q1.symm.trans Z)]
theorem B0{G:List NK.Ent}(M:js G){n:Nat}{ms os:List Nat}{D:List (Th.Kd×List Nat)}(W:ak n ms)(J:ak n os)(h:bW n ms os D){k:List NK.Itm}(O:AW D k)(b:Um):js (NK.put2 G k b (.int (vR n ms os:Nat))):=by
 intro p hp;unfold NK.put2 at hp
 split at hp
 .obtain⟨q,U,e⟩:=OO.mp hp;by_cases z:q.1=k
  .rw[Uo z]at e;subst e;exact⟨n,ms,os,D,W,J,h,by rw[z];exact O,rfl⟩
  rw[Uk z]at e;subst e;exact M q U
 rcases OY.mp hp with hp|hp
 .exact M p hp
 rw[OS.mp hp];exact⟨n,ms,os,D,W,J,h,O,rfl⟩
variable (P:Ux)(w:UA)(K:OJ)
def iC(C:Um):Sp:=λD H Q E=>∃(a b:Um) (n m:Nat) (ms os:List Nat),D=[.ref a,.ref b]/\n<=31/\br K H a (nV ms)/\ak n ms/\br K H b (nV os)/\os.length=2*m /\
 (n=m->ak n os/\Mf n ms os/\∀(l:Um) (H':Hp),H l=none->aE H H'->ft pf H' l (dF n os ms)->Q (.ref l) H')/\(n≠m->E (.ref C) none H)
def jL(j:Nat):Sp:=λJ H Q _=>∃(a b d:Um) (n:Nat) (ms os:List Nat) (G:List NK.Ent) (B:Nat),J=[.ref a,.ref b,.ref d]/\br K H a (nV ms)/\ak n ms/\br K H b (nV os)/\ak n os/\n<=20/\aC n ms os<=12/\(aP n ms os\/aC n ms os<=j/\Gd B n os ms) /\
 NK.D2 P w H d G/\js G/\G.length+gr B n os ms<=16000000/\∀(H':Hp) (D:List NK.Ent),aE (yE H d) H'->NK.D2 P w H' d D->js D->D.length<=G.length+gr B n os ms->Q (.int (vR n ms os:Nat)) H'
noncomputable def A1:Nat->Sp
 |0=>λ_ _ _ _=>False
 |j+1=>jL P w K j
variable {P w K}
theorem zI{mg:UI->Option Uj}{base:UH}{k:Nat}{f:Um}{D:Uz}{G:List UI}:aO P w K mg base dq k f D G (A1 P w K 0):=
 ⟨λJ H Q E h=>h.elim,λA outer s H args O J Q E _ _ _ _ h=>h.elim⟩
noncomputable def gq(n:Nat)(os ms:List Nat)(c:Nat×Nat):Nat:=vR n (bN ms c.1 c.2) os
noncomputable def jb(n:Nat)(os:List Nat):Nat->List Nat->Nat->List (Nat×Nat)
 |0,_,_=>[]
 |k+1,ms,x=>match pick (gq n os ms) (dF n os ms) x with
  |none=>[]
  |some (c,y)=>c::jb n os k (bN ms c.1 c.2) y
noncomputable def gP(n:Nat)(os:List Nat):List Nat->List (Nat×Nat)->Nat
 |_,[]=>0
 |ms,c::r=>(((dF n os ms).filter λd=>vP d c).map (gq n os ms)).sum+gP n os (bN ms c.1 c.2) r
section
variable {n:Nat}{os:List Nat}
theorem Ey(D:n<=40)(ms:List Nat):(dF n os ms).Pairwise λc d=>um c<um d:=by
 unfold dF rV;exact(oQ (N:=2*n) (by omega) (2*n)).filter _
theorem yh(U:n<=40){ms:List Nat}{c:Nat×Nat}{G J:List (Nat×Nat)}(e:dF n os ms=G++c::J):(dF n os ms).filter (λd=>vP d c)=G:=by
 have D:=Ey (os:=os) U ms;have bd:∀d∈dF n os ms,d.2<1000:=λd hd=>by have:=(cO hd).2.1;omega
 rw[e]at D bd⊢;have O:=bd c (by simp);rw[List.pairwise_append,List.pairwise_cons]at D;obtain⟨_,⟨a2,_⟩,V⟩:=D;rw[O9,RO];have e1:G.filter (λd=>vP d c)=G:=RV.mpr λd hd=>(Ex (bd d (by simp[hd])) O).mpr (V d hd c O1);have e2:J.filter (λd=>vP d c)=[]:=Qt.mpr λd hd z=>by
  have:=(Ex (bd d (by simp[hd])) O).mp z;have:=a2 d hd;omega
 have e3:vP c c=false:=by unfold vP;exact Up (by omega)
 rw[e1,e2,e3];simp
theorem Ez(G:ak n os){ms:List Nat}{r:List (Nat×Nat)}(h:gp n os ms r):tF n ms os->ak n ms->gP n os ms r<vR n ms os/\r.length=aC n ms os/\jb n os r.length ms (gP n os ms r)=r:=by
 induction h with
 |nil=>intro S W;rw[Eu W S];exact⟨by show 0<1;decide,by rw[(cI W W).mpr rfl];rfl,rfl⟩
 | @cons ms c r J hr O =>
  intro S W;obtain⟨c1,c2,V,c4⟩:=cO J;have Z:=dy W (by omega) c2 V;obtain⟨g1,g2,g3⟩:=O (S.bN W G J) Z;have ne:ms≠os:=λz=>by rw[(cI W G).mpr z]at c4;omega
  obtain⟨D,l2,e⟩:=List.append_of_mem J;have eb:=yh W.small e;have en:gP n os ms (c::r)=(D.map (gq n os ms)).sum+gP n os (bN ms c.1 c.2) r:=by
   show(((dF n os ms).filter λd=>vP d c).map (gq n os ms)).sum+_=_;rw[eb]
  have U:gP n os (bN ms c.1 c.2) r<gq n os ms c:=g1;have pk:∀(l:List (Nat×Nat)) (x:Nat),pick (gq n os ms) (l++c::l2) ((l.map (gq n os ms)).sum+gP n os (bN ms c.1 c.2) r)=Ya (c,gP n os (bN ms c.1 c.2) r):=λl _=>by
   induction l with
   |nil =>
    show(if _ then _ else _)=_;rw[Sv,List.sum_nil,Qh,Uo U]
   |cons d l O =>
    show(if _ then _ else _)=_;rw[Po,Qe,Uk (by omega)];rw[show gq n os ms d+(l.map (gq n os ms)).sum+gP n os (bN ms c.1 c.2) r-gq n os ms d=(l.map (gq n os ms)).sum+gP n os (bN ms c.1 c.2) r by omega];exact O
  refine⟨?_,by rw[Ph,g2];omega,?_⟩
  .rw[en,v_sum S W G ne,e,O5,Rh,Po,Qe];have:gq n os ms c=vR n (bN ms c.1 c.2) os:=rfl;have:(D.map λc=>vR n (bN ms c.1 c.2) os).sum=(D.map (gq n os ms)).sum:=rfl;omega
  rw[en,Ph];show(match pick (gq n os ms) (dF n os ms) _ with|none=>[]|some (c,y)=>c::jb n os r.length (bN ms c.1 c.2) y)=_;rw[e,pk D 0];show c::jb n os r.length (bN ms c.1 c.2) _=_;rw[g3]
end
def A2(H:Hp)(l:Um)(n:Nat)(os ms:List Nat)(G:List (Nat×Nat)):Prop:=∃D:List Um,H l=Ya (.lst (D.map V.ref))/\D.length=G.length /\
 ∀(i:Nat) (t:Um) (c:Nat×Nat),D[i]?=Ya t->G[i]?=Ya c->∃p q:Um,H t=Ya (.tup [.ref p,.ref q,.int (gq n os ms c:Nat)])/\H p=Ya (.tup (pf c))/\H q=Ya (.tup (nV (bN ms c.1 c.2)))
section
variable {P:Ux}{w:UA}{H H':Hp}{l d:Um}{n:Nat}{os ms:List Nat}{cs:List (Nat×Nat)}{lV:List NK.Ent}
theorem A2.nil(h:H l=Ya (.lst [])):A2 H l n os ms []:=⟨[],h,rfl,λi t c e=>by simp at e⟩
theorem A2.keep(h:A2 H l n os ms cs)(D:NK.D2 P w H d lV)(s:aE (yE H d) H'):A2 H' l n os ms cs:=by
 obtain⟨V,G,Z,h3⟩:=h;refine⟨V,s _ _ (eM G (D2.ne D G)),Z,λi t c e1 e2=>?_⟩;obtain⟨p,q,J,O,U⟩:=h3 i t c e1 e2;exact⟨p,q,s _ _ (eM J (D2.neT D J)),s _ _ (eM O (D2.neT D O)),s _ _ (eM U (D2.neT D U))⟩
theorem A2.same(h:A2 H l n os ms cs)(s:aE H H'):A2 H' l n os ms cs:=by
 obtain⟨D,G,J,O⟩:=h;refine⟨D,s _ _ G,J,λi t c e1 e2=>?_⟩;obtain⟨p,q,U,V,Z⟩:=O i t c e1 e2;exact⟨p,q,s _ _ U,s _ _ V,s _ _ Z⟩
theorem A2.snoc{c:Nat×Nat}{t p q:Um}(h:A2 H l n os ms cs)(g1:H t=Ya (.tup [.ref p,.ref q,.int (gq n os ms c:Nat)]))(g2:H p=Ya (.tup (pf c)))(g3:H q=Ya (.tup (nV (bN ms c.1 c.2)))) :
  ∃J,H l=Ya (.lst J)/\J.length=cs.length/\A2 (upd H l (.lst (J++[.ref t]))) l n os ms (cs++[c]):=by
 obtain⟨G,U,Z,h3⟩:=h;have D:∀{x:Um}{O:List V},H x=Ya (.tup O)->upd H l (.lst (G.map V.ref++[.ref t])) x=Ya (.tup O):=λ{x O} e=>by rw[aG (λz=>by rw[z,U]at e;cases e)];exact e
 refine⟨_,U,by rw[OH];exact Z,G++[t],by rw[ag,O5];rfl,by rw[OQ,OQ,Z];rfl,λi u x e1 e2=>?_⟩;by_cases hi:i<G.length
 .rw[Pg hi]at e1;rw[Pg (by omega)]at e2;obtain⟨p',q',k1,k2,k3⟩:=h3 i u x e1 e2;exact⟨p',q',D k1,D k2,D k3⟩
 rw[Pk (by omega)]at e1 e2;have hz:i-G.length=0:=by
  have:=(OI.mp e1).1;rw[QA]at this;omega
 rw[hz]at e1;rw[show i-cs.length=0 by omega]at e2;cases e1;cases e2;exact⟨p,q,D g1,D g2,D g3⟩
end
section
variable {n:Nat}{ms os:List Nat}
theorem JL(S:tF n ms os)(W:ak n ms)(D:ak n os)(Fj:(dF n os ms).length<=42):∃g,(∀c∈dF n os ms,gr 42 n os (bN ms c.1 c.2)<=g)/\(dF n os ms).length*g<=gr 42 n os ms:=by
 by_cases G:aP n ms os
 .exact⟨0,λc J=>by rw[((qF S W D J).1 G).1];exact ON _,by omega⟩
 refine⟨wN 42 (aC n ms os-1),λc J=>(qF S W D J).2.1,?_⟩;rw[oZ G];have a2:=uE W D G;obtain⟨q,O⟩:∃q,aC n ms os=q+2:=⟨aC n ms os-2,by omega⟩
 rw[O];show(dF n os ms).length*wN 42 (q+1)<=1+42*wN 42 (q+1);have:=QU (wN 42 (q+1)) Fj;omega
theorem zJ(S:tF n ms os)(W:ak n ms)(J:ak n os){c:Nat×Nat}(G:c∈dF n os ms):gr 42 n os ms+BY 42 n os (bN ms c.1 c.2)<=BY 42 n os ms:=by
 by_cases D:aP n ms os
 .rw[A0 D,zH D,((qF S W J G).1 D).2];exact ON _
 rw[oZ D,vQ D];have z:=(qF S W J G).2.2;have c4:=(cO G).2.2.2;obtain⟨q,O⟩:∃q,aC n ms os=q+1:=⟨_,c4.symm⟩
 rw[O]at z⊢;show wN 42 (q+1)+_<=Fm 42 q+wN 42 (q+1);rw[S9]at z;omega
theorem yj(B:Nat):∀{i j:Nat},i<=j->Fm B i<=Fm B j
 |i,0,h=>by rw[Nat.le_zero.mp h];exact ON _
 |i,j+1,h=>by
  by_cases e:i=j+1
  .rw[e];exact ON _
  have:=yj B (i:=i) (j:=j) (by omega);show Fm B i<=Fm B j+wN B (j+1);omega
theorem lS:gr 42 n os ms<=BY 42 n os ms:=by
 by_cases D:aP n ms os
 .rw[A0 D];omega
 rw[oZ D,vQ D];cases aC n ms os with
 |zero=>exact ON _
 |succ q=>exact Tz _ _
theorem uF(h:¬aP n ms os->aC n ms os<=6):BY 42 n os ms<=3300000:=by
 by_cases D:aP n ms os
 .rw[zH D];omega
 rw[vQ D];exact PD (yj 42 (h D)) (by decide)
end
variable (P:Ux)(w:UA)(K:OJ)
def qG:Sp:=λJ H Q _=>∃(a b d:Um) (n:Nat) (ms os:List Nat) (G:List NK.Ent),J=[.ref a,.ref b,.ref d]/\br K H a (nV ms)/\ak n ms/\br K H b (nV os)/\ak n os/\Gd 42 n os ms/\(aP n ms os\/aC n ms os<=6) /\
 NK.D2 P w H d G/\js G/\G.length+gr 42 n os ms<=16000000/\∀(l:Um) (H':Hp) (D:List NK.Ent),H l=none->aE (yE H d) H'->NK.D2 P w H' d D->js D->D.length<=G.length+gr 42 n os ms->A2 H' l n os ms (dF n os ms)->Q (.ref l) H'
def sP(n:Nat)(ms os:List Nat):Prop:=12<aC n ms os\/(¬aP n ms os/\6<aC n ms os)
theorem qH{n:Nat}{ms os:List Nat}(h:¬sP n ms os):aC n ms os<=12/\(¬aP n ms os->aC n ms os<=6):=
 ⟨QO λz=>h (.inl z),λD=>QO λz=>h (.inr ⟨D,z⟩)⟩
theorem G6.ND{n:Nat}{ms os:List Nat}(g:Gd 42 n os ms):tF n ms os:=by
 rcases g with⟨g,_⟩|⟨_,_,g,_⟩
 .cases g
 exact g
variable (P:Ux)(w:UA)(K:OJ)
def lT(D G:Um):Sp:=λJ H Q E=>∃(a b:Um) (x n m:Nat) (ms os:List Nat),J=[.int (x:Nat),.ref a,.ref b]/\x<=12/\n<=31/\br K H a (nV ms)/\ak n ms/\br K H b (nV os)/\os.length=2*m /\
 (n=m->ak n os/\(aC n ms os<=x->∀H':Hp,aE H H'->Q .g6 H')/\(x<aC n ms os->∀H':Hp,aE H H'->E (.ref G) none H'))/\(n≠m->E (.ref D) none H)
def si(D G:Um):Sp:=λJ H Q E=>∃(a b:Um) (n m:Nat) (ms os:List Nat),J=[.ref a,.ref b]/\n<=31/\br K H a (nV ms)/\ak n ms/\br K H b (nV os)/\os.length=2*m /\
 (n=m->ak n os/\(¬sP n ms os->∀H':Hp,aE H H'->Q .g6 H')/\(sP n ms os->∀H':Hp,aE H H'->E (.ref G) none H'))/\(n≠m->E (.ref D) none H)
def qI(D G:Um):Sp:=λJ H Q E=>∃(a b:Um) (n m:Nat) (ms os:List Nat),J=[.ref a,.ref b]/\n<=20/\br K H a (nV ms)/\ak n ms/\br K H b (nV os)/\os.length=2*m /\
 (n=m->ak n os/\(¬sP n ms os->(aP n ms os\/∃B,Gd B n os ms)/\∀H':Hp,aE H H'->Q (.int (vR n ms os:Nat)) H')/\(sP n ms os->∀H':Hp,aE H H'->E (.ref G) none H'))/\(n≠m->E (.ref D) none H)
def nT(D G:Um):Sp:=λJ H Q E=>∃(a b:Um) (n m:Nat) (x:Int) (ms os:List Nat),J=[.ref a,.ref b,.int x]/\n<=20/\br K H a (nV ms)/\ak n ms/\br K H b (nV os)/\os.length=2*m /\
 (n=m->ak n os/\(¬sP n ms os->∃y:Nat,x=(y:Nat)/\Gd 42 n os ms/\y<vR n ms os/\∀(l:Um) (H':Hp) (r:List (Nat×Nat)),H l=none->aE H H'->ft pf H' l r->r.length=aC n ms os->Q (.ref l) H')/\(sP n ms os->∀H':Hp,aE H H'->E (.ref G) none H'))/\(n≠m->E (.ref D) none H)
def qJ(D G:Um):Sp:=λJ H Q E=>∃(a b:Um) (n m:Nat) (v:V) (ms os:List Nat),J=[.ref a,.ref b,v]/\n<=20/\br K H a (nV ms)/\ak n ms/\br K H b (nV os)/\os.length=2*m /\
 (n=m->ak n os/\(¬sP n ms os->∃(l:Um) (r:List (Nat×Nat)),v=.ref l/\Gd 42 n os ms/\ft pf H l r/\gp n os ms r/\∀H':Hp,aE H H'->Q (.int (gP n os ms r:Nat)) H')/\(sP n ms os->∀H':Hp,aE H H'->E (.ref G) none H'))/\(n≠m->E (.ref D) none H)
end aI
namespace gB
open Th aI Classical
inductive vS (n:Nat) (os ms:List Nat):List Nat->Prop
 |refl:vS n os ms ms
 |step {w v:List Nat}:vS n os ms w->v∈iK n os w->vS n os ms v
section
variable {n:Nat}{ms os J O:List Nat}{φ ψ:Nat->Nat}
theorem vS.work(W:ak n ms){w:List Nat}(h:vS n os ms w):ak n w:=by
 induction h with
 |refl=>exact W
 |step _ D G=>exact kX G D
end
end gB
namespace nF
open PySem PySem.Spec PyProof.Rows PySem.W L2
noncomputable def qK:Int->List Int->Int
 |c,[]=>c
 |c,x::xs=>qK (c*100+x) xs
def Ci(xs:List Int):Prop:=∀x∈xs,0<=x/\x<100
theorem zK:∀{xs D:List Int}{c c':Int},xs.length=D.length->Ci xs->Ci D->c<c'->qK c xs<qK c' D
 |[],[],_,_,_,_,_,h=>h
 |[],_::_,_,_,e,_,_,_=>by simp at e
 |_::_,[],_,_,e,_,_,_=>by simp at e
 |x::xs,y::D,c,c',e,G,J,h=>by
  have V:=G x O1;have a2:=J y O1;have O:Ci xs:=λz hz=>G z (O0 _ hz);have U:Ci D:=λz hz=>J z (O0 _ hz);show qK (c*100+x) xs<qK (c'*100+y) D;exact zK (by simpa using e) O U (by omega)
theorem EA{prog:Ux}{w:UA}{A:UG}{s:Uq}{Q:Bool->Uq->Prop}{fin:Bool}:∀{xs D:List Int}{its G:List Uj}{c:Int}{i:Nat},Vals (xs.map V.int) its->Vals (D.map V.int) G->xs.length=D.length->Ci xs->Ci D->fin=false->Q (decide (qK c xs<qK c D)) s->KatLex prog w A true fin Q (its.zip G) i s
 |[],[],_,_,c,i,.nil,.nil,_,_,_,J,q=>by
  refine kat_nil ?_;rw[J];have e:decide (qK c []<qK c [])=false:=Up (Int.lt_irrefl _);rw[e]at q;exact q
 |[],_::_,_,_,_,_,_,_,e,_,_,_,_=>by simp at e
 |_::_,[],_,_,_,_,_,_,e,_,_,_,_=>by simp at e
 |x::xs,y::D,_,_,c,i,.cons r1 t1,.cons r2 t2,e,hx,hy,J,q=>by
  obtain⟨u1,rfl⟩:=r1;obtain⟨u2,rfl⟩:=r2;have O:xs.length=D.length:=by simpa using e
  have U:Ci xs:=λz hz=>hx z (O0 _ hz);have Z:Ci D:=λz hz=>hy z (O0 _ hz);refine XH (U7 ?_);by_cases cc:x=y
  .subst cc;rw[show(x==x)=true from beq_iff_eq.mpr rfl];exact XY (EA t1 t2 O U Z J q)
  rw[show(x==y)=false from beq_eq_false_iff_ne.mpr cc];have ed:decide (qK c (x::xs)<qK c (y::D))=decide (x<y):=by
   refine decide_eq_decide.mpr ⟨λh=>?_,λh=>(show qK (c*100+x) xs<qK (c*100+y) D from zK O U Z (by omega))⟩;rcases Int.lt_trichotomy x y with z|z|z
   .exact z
   .exact Us z cc
   have:=zK (c:=c*100+y) (c':=c*100+x) O.symm Z U (by omega);unfold qK at h;omega
  rw[ed]at q;refine kat_no ?_;cases i with
  |zero=>exact oneLt_int q
  |succ i=>exact kat_one _ _ (lt_int q)
def Pl(h:UH)(m:Nat)(v:Uj)(xs:List Int):Prop:=∃(t:Um) (o:U6) (n:Nat) (its:List Uj),v=.ref t/\h.get? t=Ya o/\o.cls=.type "tuple"/\o.data=.seq its.toArray n/\Vals (xs.map V.int) its/\xs.length=m/\Ci xs
theorem k8:∀{xs D:List Int}{its:List Uj},Vals (xs.map V.int) its->Vals (D.map V.int) its->xs=D
 |[],[],_,_,_=>rfl
 |[],_::_,_,.nil,h=>nomatch h
 |_::_,[],_,.cons _ _,h=>nomatch h
 |x::xs,y::D,_,.cons G J,.cons O U=>by
  obtain⟨Z,rfl⟩:=G;obtain⟨u2,e⟩:=O;injection e with e _;rw[e,k8 J U]
theorem Pl.uniq{h:UH}{m:Nat}{v:Uj}{xs J:List Int}(p:Pl h m v xs)(q:Pl h m v J):xs=J:=by
 obtain⟨t,o,n,its,rfl,e1,e2,e3,U,Z,e6⟩:=p;obtain⟨t',o',n',its',G,O,f2,D,V,f5,f6⟩:=q;injection G with G;subst G;rw[e1]at O;obtain rfl:=Option.some.inj O;rw[e3]at D;injection D with D _;have D:its=its':=by simpa using congrArg Ss D
 subst D;exact k8 U V
open Classical in
noncomputable def Kt(h:UH)(m:Nat)(v:Uj):Int:=if e:∃xs,Pl h m v xs then qK 0 (choose e)else 0
theorem vT{h:UH}{m:Nat}{v:Uj}{xs:List Int}(p:Pl h m v xs):Kt h m v=qK 0 xs:=by
 unfold Kt;have e:∃xs,Pl h m v xs:=⟨xs,p⟩
 rw[Wn e,(QB e).uniq p]
@[reducible] noncomputable def JM(h:UH)(m:Nat):xA:=⟨λp=>∃xs,Pl h m p.1 xs,λp=>Kt h m p.1,WQ true⟩
theorem G7{prog:Ux}{w:UA}{A:UG}{s:Uq}{h:UH}{m:Nat}(k:∀b o,h.get? b=Ya o->s.heap.get? b=Ya o):@Asks (JM h m) prog w A s:=by
 letI:=JM h m
 intro x y ⟨xs,G⟩ ⟨J,O⟩ E Q D;have q:Q (decide (qK 0 xs<qK 0 J)) s:=by
  have e1:num x=qK 0 xs:=vT G;have e2:num y=qK 0 J:=vT O;rw[e1,e2]at D;exact D
 clear D;obtain⟨x1,x2⟩:=x;obtain⟨y1,y2⟩:=y;obtain⟨t,o,n,its,rfl,e1,e2,e3,U,e5,Z⟩:=G;obtain⟨t',o',n',its',rfl,f1,f2,f3,V,f5,f6⟩:=O;show wpAny _ _ (keyLt' (WQ true) (.ref t) (.ref t')) _ _ _;refine kat_lt (k _ _ e1) e3 (k _ _ f1) f3 ?_;have l1:its.length=m:=by have:=U.length;rw[OH]at this;omega
 have l2:its'.length=m:=by have:=V.length;rw[OH]at this;omega
 exact EA U V (by omega) Z f6 (Up (by rw[OT,OT];omega)) q
end nF
namespace NF
open PySem PySem.Spec PyProof.Rows PySem.W
def JN(h:UH)(d:Um)(es:Array Vz)(ep:Nat):Prop:=∃o,h.get? d=Ya o/\o.cls=.type "dict"/\o.data=.dict es ep
section
variable {prog:Ux}{w:UA}{A:UG}{E:Uj->Uq->Prop}{s:Uq}
theorem JN.typeIs{d:Um}{es:Array Vz}{ep:Nat}(x:JN s.heap d es ep):s.TypeIs (.ref d) "dict":=let⟨o,D,G,_⟩:=x;⟨o,D,G⟩
theorem B1{d:Um}{es:Array Vz}{ep:Nat}{Q:Uj->Uq->Prop}(hd:(d==U0)=false)(J:JN s.heap d es ep)
  (U:Q (.ref s.heap.objs.size) { s with heap:=s.heap.push { cls:=.type "dict_keyiterator",data:=.fields #[.ref d,.int 0 0,.int es.size 0,.int ep 0] } }):wpAny (model prog w) A (pyIter (.ref d)) Q E s:=by
 obtain⟨o,O,V,D⟩:=id J;have G:=J.typeIs;refine wpAny_pyIter_slot G F.slot_dict_iter (UM F.slot_dict_iter G F.entry_dict_iter ?_ (F.args_dict_iter_1 _));unfold Builtin.«dict.__iter__»;refine Uh ?_;unfold Builtin.Dict.dictSlotNone;refine Uh (Wy G ?_);show wpAny _ _ (pure (Value.ref d)) _ _ s;refine Ur ?_;show wpAny _ _ (Builtin.Dict.showsAll d >>= _) _ _ s;unfold Builtin.Dict.showsAll;rw[Uk (by rw[hd];exact O2)];refine Uh (Ur (Uh (U5 O D (Uh (Vw O D ?_)))));refine Uh (UN (Ur ⟨_,rfl,"dict_keyiterator",_,⟨_,O6 _ rfl,rfl⟩,F.slot_dict_keyiterator_next.lookup,?_⟩));simpa[rawInt]using U
theorem B2{G d:Um}{i ep:Nat}{es:Array Vz}{Q:Option Uj->Uq->Prop}(D:s.heap.IsKeyIter G d i es.size ep)(hm:JN s.heap d es ep)(Z:i<es.size)
  (hQ:∀h',h'.IsKeyIter G d (i+1) es.size ep->Heap.SameBut G s.heap h'->Q (Ya es[i].key) { s with heap:=h' }):wpAny (model prog w) A (pyNext (.ref G)) Q E s:=by
 obtain⟨o,ho,hc,hd⟩:=id D;obtain⟨od,O,FO,U⟩:=id hm;unfold pyNext;refine Uh (Vc (wpAny_callSpecial?_slot (name:=Str.ofString "__next__") D.typeIs F.slot_dict_keyiterator_next (UM F.slot_dict_keyiterator_next D.typeIs F.entry_dict_keyiterator_next ?_ (F.args_dict_keyiterator_next_1 _))));refine Uh (Ur (Uh (Uh ?_)))
 (first|refine Uh (U4 D.typeIs (Ur ?_))|refine Uh (Ve D.typeIs (Ur ?_)));refine Uh (wpAny_fieldsOf ho hd ?_)
 have V:Builtin.Dict_items.ownsTuple "dict_keyiterator" = false:=by decide
 simp only[V,PF,U1];show wpAny _ _ (if(Value.ref d==Value.none)=true then _ else _) _ _ s;rw[Uk (show¬((Value.ref d==Value.none)=true)from O2)];refine Uh (Ur (Uh (U5 O U ?_)));rw[Uk (by simp)];refine Uh (Ur (Uh (Vw O U ?_)));rw[Uk (by simp)];refine Ur ?_;simp only[show¬((i:Int)<0)from by omega,U1,Pq,Qb Z];refine Uh ?_
 (first|refine Uh (U4 D.typeIs (Ur ?_))|refine Uh (Ve D.typeIs (Ur ?_)));refine Uh (Wz D.typeIs ?_)
 show wpAny _ _ (XC (.ref G) 1 (rawInt ((i:Int)+1)) >>= _) _ _ s;refine Uh (VF ho hd (by simp) ?_);have J:(s.heap.update G (Obj.mapFields (·.setIfInBounds 1 (rawInt ((i:Int)+1))))).IsKeyIter G d (i+1) es.size ep:=⟨_,Qz _ ho (Obj.isFreed_of_fields (Obj.data_mapFields hd _)),(Obj.cls_mapFields ..).trans hc,by rw[Obj.data_mapFields hd];simp[rawInt]⟩
 refine Uh (UD ?_);refine Uh (Wz (s:={ s with heap:=s.heap.update G (Obj.mapFields (·.setIfInBounds 1 (rawInt ((i:Int)+1)))) }) J.typeIs ?_);show wpAny _ _ (pure es[i].key) _ _ _;exact Ur (Ur ⟨_,rfl,Ur (hQ _ J (Heap.SameBut.update ..))⟩)
theorem EB{U d:Um}{ep:Nat}{es:Array Vz}{Q:Option Uj->Uq->Prop}(Z:A.handled=none)(D:s.heap.IsKeyIter U d es.size es.size ep)(hm:JN s.heap d es ep)
  (hQ:∀h',Heap.ExtBut U s.heap h'->Q none { s with heap:=h' }):wpAny (model prog w) A (pyNext (.ref U)) Q E s:=by
 obtain⟨o,V,hc,hd⟩:=id D;obtain⟨od,G,FO,J⟩:=id hm;unfold pyNext;refine Uh (Vc (wpAny_callSpecial?_slot (name:=Str.ofString "__next__") D.typeIs F.slot_dict_keyiterator_next (UM F.slot_dict_keyiterator_next D.typeIs F.entry_dict_keyiterator_next ?_ (F.args_dict_keyiterator_next_1 _))));refine Uh (Ur (Uh (Uh ?_)))
 (first|refine Uh (U4 D.typeIs (Ur ?_))|refine Uh (Ve D.typeIs (Ur ?_)));refine Uh (wpAny_fieldsOf V hd ?_)
 have O:Builtin.Dict_items.ownsTuple "dict_keyiterator" = false:=by decide
 simp only[O,PF,U1];show wpAny _ _ (if(Value.ref d==Value.none)=true then _ else _) _ _ s;rw[Uk (show¬((Value.ref d==Value.none)=true)from O2)];refine Uh (Ur (Uh (U5 G J ?_)));rw[Uk (by simp)];refine Uh (Ur (Uh (Vw G J ?_)));rw[Uk (by simp)];refine Ur ?_;simp only[show¬((es.size:Int)<0)from by omega,U1,Pq,Array.getElem?_eq_none (ON es.size)];refine Uh ?_
 (first|refine Uh (U4 D.typeIs (Ur ?_))|refine Uh (Ve D.typeIs (Ur ?_)));show wpAny _ _ (XC (.ref U) 0 .none >>= _) _ _ s
 refine Uh (VF V hd (by simp) ?_);show wpAny _ _ (newExc (.type "StopIteration") [] >>= _) _ _ _;refine Uh ?_;simp only[newExc,XB];refine Uh (UN ?_ (by size_fits));refine Uh (m:=V2 _ _) (WG (a:=Value.none) (by first|rfl|(simp only[V2];rfl)) ?_);refine UN ?_ (by size_fits);simp only[raiseNew];refine Uh (wpAny_handled ?_);rw[show A.in1.handled=none from Z];refine Uh (Ur (wpAny_throw ?_));refine Uh (Vh (T:="StopIteration") (b:=true) ⟨_,O6 _ rfl,rfl⟩ isSubtype_stop ?_);exact Ur (hQ _ (((Heap.SameBut.update ..).extBut.push _).push _))
end
theorem zL{prog:Ux}{w:UA}{A:UG}(hh:A.handled=none)(I d:Um)(U:d≠I)(es:Array Vz)(ep:Nat) :
  Walks prog w A I [I,d] [I] es.size (λi v=>∃h:i<es.size,v=es[i].key) (λi h=>h.IsKeyIter I d i es.size ep/\JN h d es ep) where
 sub:=λb D=>by simp at D;simp[D]
 frame:=λ_ _ _ st hk=>⟨st.1.at λo e=>hk I (by simp) o e,let⟨o,V,r⟩:=st.2;⟨o,hk d (by simp) o V,r⟩⟩
 item:=λi s Q E hi st G=>by
  refine B2 st.1 st.2 hi λh' J O=>?_;exact G _ h' s.toks ⟨hi,rfl⟩ ⟨J,let⟨o,V,r⟩:=st.2;⟨o,O.extBut d o U V,r⟩⟩ λb o D e=>O.extBut b o (λh=>D (by simp[h])) e
 done:=λs Q E st G=>EB hh st.1 st.2 λh' Z=>G h' s.toks λb o D e=>Z b o (λh=>D (by simp[h])) e
 self:=λ_ _ _ _ st G=>wpAny_pyIter_keyiter st.1 G
theorem yk{prog:Ux}{w:UA}{d:Um}{es:Array Vz}{ep:Nat}(lo:(d==U0)=false):KdlSrc prog w "dict" d d es.size (λi v=>∃h:i<es.size,v=es[i].key) (λh=>JN h d es ep) where
 type:=λ_ G=>G.typeIs
 there:=λ_ ⟨_,D,_⟩=>⟨O3 D,O3 D⟩
 keep:=λ_ _ ⟨o,D,r⟩ O=>⟨o,O d (.inl rfl) o D,r⟩
 notList:=by decide
 notTuple:=by decide
 hint:=λ_ _ _ _ G J=>kdl_hint_dict G.typeIs J
 iter:=λ_ _ U G=>⟨_,_,(λ_ _ J=>B1 lo G J),zL U _ d (let⟨_,D,_⟩:=G;Pd (O3 D)) es ep,⟨⟨_,O6 _ rfl,rfl,rfl⟩,let⟨o,D,r⟩:=G;⟨o,OM _ D,r⟩⟩⟩
end NF
namespace L2
open PySem PySem.Spec PyProof.Rows NF PySem.W
variable {X:Cx}
theorem vU(hc:X.calm=true):fX X (.type "list") (λxs H Q=>∃(d:Um) (D:List (List Key×V)),xs=[.ref d]/\H d=Ya (.dT D)/\∀(l:Um) (bs:List Um),H l=none->bs.length=D.length->(∀(i:Nat) (b:Um) (k:List Key) (v:V),bs[i]?=Ya b->D[i]?=Ya (k,v)->H b=Ya (.tup (k.map kV)))->Q (.ref l) (upd H l (.lst (bs.map V.ref)))):=by
 intro pins s σ H xs us Q I r h;obtain⟨d,D,rfl,hd,q⟩:=h;obtain⟨u,rfl,ru⟩:=r.one;cases ru;obtain⟨z,lo,xs,J,o,es,ep,h1,h2,h3,h4,h5⟩:=(show cQ X.prog X.w H s.heap d (.dT D)from I.bM d _ hd)
 have hsz:es.size=D.length:=by
  rw[Paired.length J];have:=congrArg Sf h4;rwa[Qf,OH]at this
 refine kdl_call (yk (prog:=X.prog) (w:=X.w) (es:=es) (ep:=ep) lo) (I.ok.hd hc) ⟨o,h1,h2.1,h3⟩ (by rw[hsz];exact z) λh' tk Z c' hk hS' G=>?_;have hx:xs.length=D.length:=(Paired.length J).symm;refine⟨.ref _,_,I.laid (a:=s.heap.objs.size) (o:=.lst ((xs.map (·.2.1)).map V.ref)) (t':=tk) hk (ON _) ⟨by rw[OH,OH,hx];exact z,Z.toList,c',?_,by simpa using hS'⟩,rfl,q _ (xs.map (·.2.1)) (I.bM.fresh (ON _)) (by rw[OH];exact hx) λi b k v e1 e2=>?_⟩
 .refine kE (by rw[OH,OH,hx,<-hsz];exact(by simpa using G.1.symm)) λi x v e6 e7=>?_;obtain⟨hi,ev⟩:=G.2 i v (by simpa using e7);rw[OR,OR]at e6;obtain⟨y,e8,e9⟩:=Qd.mp e6;obtain⟨p,O,U⟩:=Qd.mp e8;have Mh:es.toList[i]?=Ya (VI (VJ (bG X.prog X.w)) p):=by rw[h4,OR,O];rfl
  have Mi:es.toList[i]?=Ya es[i]:=by rw[RI];exact Qb hi
  rw[Mi]at Mh;have e14:=Option.some.inj Mh;rw[ev,e14,<-e9,<-U];exact rfl
 rw[OR]at e1;obtain⟨p,O,U⟩:=Qd.mp e1;have z:=mM J e2 O;rw[<-U];exact z.2.1
end L2
set_option maxHeartbeats 1000000
set_option maxHeartbeats 4000000
namespace xh
open PySem PySem.Spec PyProof.Rows
section
variable {prog:Ux}{w:UA}{K:Type}[DecidableEq K]{knd:HeapKind prog w K}{A:UG}{E:Uj->Uq->Prop}{s:Uq}
theorem zM{d a:Um}{xs:List (K×Um×Uj)}{k:K}{v:Uj}{Q:Unit->Uq->Prop}(hu:knd.room A)(D:knd.is s.heap k a)(hm:s.heap.DictOfH knd d xs)(hz:xs.length<=Uu)
  (hQ:∀h',h'.DictOfH knd d (VN xs k a v)->Heap.SameBut d s.heap h'->Q () { s with heap:=h' }):wpAny (model prog w) A (dictSetHashed d (.ref a) (knd.hash k) v) Q E s:=by
 obtain⟨o,es,ep,G,hc,hd,V,J,O⟩:=hm;have esz:=Wv V;unfold dictSetHashed
 try with_reducible refine UD ?_
 refine Uh (wpAny_dictFind_heap hu D G hd V J O (λU=>?_) λj p hj=>?_)
 .have en:=atKey_none_of_get U;refine Uh (Vq (wpAny_updateDictKeys (hz:=by omega) G hd (hQ _ ⟨_,_,ep+1,Qz _ G (Obj.isFreed_of_dict (Obj.data_mapDictKeys hd _)),hc.mapDictKeys _,Obj.data_mapDictKeys hd _,?_,?_,?_⟩ (Heap.SameBut.update ..))))
  all_goals rw[storedH_new en]
  .simp[V,VI]
  .intro b Z;rcases OY.mp Z with q|q
   .exact knd.keeps (J b q) G hd (Heap.SameBut.update ..)
   rw[OS.mp q];exact knd.keeps D G hd (Heap.SameBut.update ..)
  rw[O5,PY];refine⟨O,by simp,λx hx y hy e=>not_mem_keys_of_get U ?_⟩;have:y=k:=by simpa using hy
  rw[<-this,<-e];exact hx
 have ea:=atKey_of_get O hj;refine Uh (Vq (Uh (wpAny_updateDict G hd (wpAny_point (hQ _ ⟨_,_,ep,Qz _ G (Obj.isFreed_of_dict (Obj.data_mapDict hd _)),hc.mapDict _,Obj.data_mapDict hd _,?_,?_,?_⟩ (Heap.SameBut.update ..))))))
 all_goals rw[storedH_old ea]
 .have z:=modify_map_putAt (VI knd) (λe:Vz=>{ e with val:=v }) k v (λ_ _=>rfl) O hj;rw[<-V]at z;obtain⟨l⟩:=es;simpa using z
 .intro b Z;obtain⟨y,hy,rfl⟩:=OO.mp Z;unfold putAt
  split <;> exact knd.keeps (J y hy) G hd (Heap.SameBut.update ..)
 rw[keys_map_putAt];exact O
noncomputable def gu(xs G:List (K×Um×Uj)):List (K×Um×Uj):=G.foldl (λD e=>VN D e.1 e.2.1 e.2.2) xs
theorem vV{xs D:List (K×Um×Uj)}{i:Nat}{e:K×Um×Uj}(h:D[i]?=Ya e):gu xs (D.take (i+1))=VN (gu xs (D.take i)) e.1 e.2.1 e.2.2:=by
 unfold gu;rw[TK,h,List.foldl_append]
 rfl
theorem zN(xs:List (K×Um×Uj))(k:K)(a:Um)(v:Uj):(VN xs k a v).length<=xs.length+1:=by
 unfold VN
 split
 .rw[OH];omega
 rw[OQ];exact ON _
theorem sj:∀(D xs:List (K×Um×Uj)),(gu xs D).length<=xs.length+D.length
 |[],xs=>ON _
 |e::D,xs=>by
  have G:=sj D (VN xs e.1 e.2.1 e.2.2);have J:=zN xs e.1 e.2.1 e.2.2;show(gu (VN xs e.1 e.2.1 e.2.2) D).length<=_;rw[Ph];omega
theorem JO{nm:String}{d o:Um}{xs U:List (K×Um×Uj)}{Q:Unit->Uq->Prop}(hu:knd.room A)(hdo:d≠o)(hoS:(o==U0)=false)(hd:s.heap.DictOfH knd d xs)(ho:s.heap.DictOfH knd o U)(jf:xs≠[])(hz:xs.length+U.length<=Uu)
  (hQ:∀h',h'.DictOfH knd d (gu xs U)->Heap.SameBut d s.heap h'->Q () { s with heap:=h' }):wpAny (model prog w) A (Builtin.Dict.mergeDict nm d o) Q E s:=by
 obtain⟨od,esd,epd,hod,FO,hdd,hed,hid,hnd⟩:=id hd;obtain⟨oo,D,epo,V,hco,G,heo,hio,HN⟩:=id ho;have ld:=Wv hed;have lo:=Wv heo;have aaD:¬(esd.isEmpty=true):=λz=>by
  rw[Array.isEmpty_iff.mp z]at ld;exact jf (Qk.mp (by simpa using ld.symm))
 unfold Builtin.Dict.mergeDict;rw[Uk (by simpa using hdo)];unfold Builtin.Dict.showsAll;rw[Uk (by rw[hoS];exact O2)];refine Uh (Ur ?_);refine Uh (U5 V G ?_);dsimp only
 split
 all_goals try (refine Uh (U5 hod hdd ?_);rw[Uk aaD])
 all_goals
  refine Uh (Vw V G ?_);refine Uh (U5 V G ?_);refine Uh ?_;rw[Std.Legacy.Range.forIn_eq_forIn_range'];simp only[Std.Legacy.Range.size,T5,S9,Nat.div_one];refine Vf _ (λrest _ s'=>∃h' i,s'={ s with heap:=h' }/\rest=List.range' i (D.size-i)/\i<=D.size/\h'.DictOfH knd d (gu xs (U.take i))/\h'.get? o=Ya oo/\Heap.SameBut d s.heap h') _ ?_ ?_ _ _ ⟨s.heap,0,rfl,by simp,PH _,hd,V,Heap.SameBut.refl _ _⟩
  .rintro x rest b s' ⟨h',i,rfl,hr,hi,Z,J,Hw⟩;by_cases sO:i<D.size
   .obtain⟨m,hm⟩:∃m,D.size-i=m+1:=⟨D.size-i-1,by omega⟩
    rw[hm,Tq]at hr;obtain⟨rfl,CW⟩:=List.cons.inj hr;refine Uh (U5 J G ?_);rw[Qb sO];have hy:U[x]?=Ya (U[x]'(by omega)):=OG _;generalize U[x]'(by omega)=e at hy;obtain⟨k,a,v⟩:=e;have ee:D[x]=VI knd (k,a,v):=by
     have z:=entry_at heo x;rw[hy,Qb sO]at z;exact Option.some.inj z
    rw[ee];have G8:knd.is h' k a:=knd.keeps (hio _ (OP hy)) hod hdd Hw;have vW:(gu xs (U.take x)).length<=sizeLine:=by
     have e1:=sj (U.take x) xs;rw[Pu]at e1;omega
    refine Uh (UD (zM (s:={ s with heap:=h' }) hu G8 Z vW λHz aaE Mj=>?_));have O:Hz.get? o=Ya oo:=(Mj.2 o (Ne.symm hdo)).trans J;refine Uh (Vw O G ?_);rw[Uk (by simp)];exact Ur ⟨Hz,x+1,rfl,by rw[CW];congr 1;omega,sO,by rw[vV hy];exact aaE,O,Hw.trans Mj⟩
   rw[Nat.sub_eq_zero_of_le (by omega)]at hr;simp at hr
  rintro b s' ⟨h',i,rfl,hr,hi,Z,J,Hw⟩;have hin:i=D.size:=by
   by_cases sO:i<D.size
   .obtain⟨m,hm⟩:∃m,D.size-i=m+1:=⟨D.size-i-1,by omega⟩
    rw[hm,Tq]at hr;exact nomatch hr
   omega
  refine Ur (hQ h' ?_ Hw);rw[hin,lo,Pc]at Z;exact Z
theorem zO(d o:Um)(J:d≠o)(O:(o==U0)=false):MeetsIn prog w (Builtin.«dict.update» ⟨[.ref d,.ref o],[]⟩) (λA R s=>knd.room A.in1/\∃xs D,s.heap.DictOfH knd d xs/\s.heap.DictOfH knd o D/\xs≠[]/\xs.length+D.length<=Uu /\
  ∀h',h'.DictOfH knd d (gu xs D)->Heap.SameBut d s.heap h'->R (.ok (.ret .none)) { s with heap:=h' }):=
 .of_wp λA R s zq=>by
  obtain⟨hu,xs,D,hd,G,U,hz,h⟩:=zq;unfold Builtin.«dict.update»;refine Uh ?_;unfold Builtin.Dict.selfAndRest;refine Uh (Wy hd.typeIs (Ur ?_));show wpAny _ _ (Builtin.Dict.updateFrom "dict.update" d (.ref o) [] .none) _ _ s;unfold Builtin.Dict.updateFrom Builtin.Dict.merge Builtin.Dict.readDirectly;refine Uh (wpAny_typeOf G.typeIs ?_);rw[Uk (by decide)];refine Uh (Uh (Uh (Vh G.typeIs isSubtype_dict_dict ?_)));simp only[Rl,PF,U1];refine Uh (Vl G.typeIs F.slot_dict_iter.lookup (Ur ?_));simp only[US,VY];refine Uh (Ur ?_);refine JO hu J O hd G U hz λh' V Z=>?_;show wpAny _ _ (Builtin.Dict.addKeywords d [] >>= _) _ _ _;exact Uh (Ur (Ur ⟨.none,rfl,h h' V Z⟩))
end
end xh
namespace L2
open PySem PySem.Spec PyProof.Rows xh
section
variable {X:Cx}
noncomputable def jM(D more:List (List Key×V)):List (List Key×V):=more.foldl (λG e=>putK G e.1 e.2) D
theorem KT.merge{H:Hp}:∀{more:List (List Key×V)}{J:List (List Key×Um×Uj)}{D:List (List Key×V)}{xs:List (List Key×Um×Uj)},KT H more J->KT H D xs->KT H (jM D more) (gu xs J)
 |_,_,_,_,.nil,r=>r
 |_,_,_,_,.cons (a:=p) (b:=q) h t,r=>by
  have z:=KT.put r p.1 (b:=q.2.1) h.2.1 h.2.2;have G:=KT.merge t z;rw[h.1]at G;unfold jM gu at G⊢;rw[Sx,Sx,h.1];exact G
theorem uG:∀(more D:List (List Key×V)),(jM D more).length<=D.length+more.length
 |[],D=>ON _
 |e::more,D=>by
  have G:=uG more (putK D e.1 e.2);have J:=fY D e.1 e.2;show(jM (putK D e.1 e.2) more).length<=_;rw[Ph];omega
def JP:V->List V->Hp->VK->Prop:=λx G H Q=>∃a b D more,x=.ref a/\G=[.ref b]/\a≠b/\H a=Ya (.dT D)/\H b=Ya (.dT more)/\D≠[]/\D.length+more.length<=5000/\Q .g6 (upd H a (.dT (jM D more)))
theorem EC(hu:X.A.units+1<cLine):Ls X "dict.update" JP:=by
 intro pins s σ H x vs v us Q I rx rv h;obtain⟨a,b,D,more,rfl,rfl,ne,G,hb,J,hz,q⟩:=h;cases rx;obtain⟨u,rfl,ru⟩:=Vals.one rv;cases ru;obtain⟨za,O,va,Z,da⟩:=Ah I.bM G;obtain⟨zb,U,vb,rb,db⟩:=Ah I.bM hb;have l1:=Paired.length Z;have l2:=Paired.length rb;have hl:=uG more D;have big:(5000:Nat)<=sizeLine:=by decide
 refine call_meetsIn Se da.typeIs PySem.F.entry_dict_update (PySem.F.args_dict_update_2 _ _) (zO (knd:=VJ (bG X.prog X.w)) a b ne U) ⟨V0 hu,va,vb,da,db,λz=>J (Qk.mp (by rw[l1,z];rfl)),by omega,λh' V hs=>?_⟩;obtain⟨q',es,ep,hq,h2,h3,h4,_,h5⟩:=V;refine⟨.g6,_,m7 (ob:=.dT (jM D more)) (t':=s.toks) I (by rw[G];exact True.intro) hs ⟨q',hq⟩ ⟨by omega,O,_,(KT.merge rb Z).keeps λc ys ec=>?_,q',es,ep,hq,h2,h3,h4,h5⟩,rfl,q⟩;rw[aG (Cu ec G (λz=>nomatch z))];exact ec
end
end L2
namespace xh
open PySem PySem.Spec PyProof.Rows PySem.W
section
variable {prog:Ux}{w:UA}{A:UG}{E:Uj->Uq->Prop}{s:Uq}{T:String}{r d:Um}{n:Nat}{P:Nat->Uj->Prop}{OK:UH->Prop}
theorem ED{Q:List Uj->Uq->Prop}(K:KdlSrc prog w T r d n P OK)(hh:A.handled=none)(bM:OK s.heap)(hn:n<=Uu)
  (hQ:∀h' tk D,(∀b o,s.heap.get? b=Ya o->h'.get? b=Ya o)->s.heap.objs.size<h'.objs.size->ItemsOf P D n->Q D.toList { s with heap:=h',toks:=tk }):wpAny (model prog w) A (collect (.ref r)) Q E s:=by
 have U:=K.there _ bM;unfold collect;refine Uh (wpAny_runValue (Vm entry_proto_collect' ?_));rw[Around.under_plainId F.plain_proto_collect _];show wpAny _ A.in1 (newList [] >>= λl=>again (.builtin "list.__iadd__" ⟨[l,.ref r],[]⟩)) _ _ s;refine Uh (UN ?_);refine Ur ⟨VP F.plain_list_iadd _,Vm entry_list_iadd' ?_⟩;rw[Around.under_plainId F.plain_list_iadd _];show wpAny _ A.in1 (Builtin.List.listExtendWith (.ref s.heap.objs.size) (.ref r) (.ref s.heap.objs.size)) _ _ _;have hS:(s.heap.push { cls:=.type "list",data:=.seq ([]:List Uj).toArray }).get? s.heap.objs.size=Ya { cls:=.type "list",data:=.seq #[] 0 }:=O6 _ rfl;have O:∀h' tk D c',(∀b o,s.heap.get? b=Ya o->h'.get? b=Ya o)->h'.get? s.heap.objs.size=Ya { cls:=.type "list",dict:=none,data:=.seq D c',slots:=#[] }->ItemsOf P D n ->
   wpAny (model prog w) A (match Value.ref s.heap.objs.size with
   |Value.ref a=>do
    match (<-load a).data with
     |Data.seq xs _=>pure xs.toList
     |_=>unsupported "internal:collect"
   |_=>unsupported "internal:collect") Q E { s with heap:=h',toks:=tk }:=by
  intro h' tk D c' V J G;show wpAny _ A (load s.heap.objs.size >>= _) _ _ _;exact Uh (wpAny_load J (Ur (hQ h' tk D V (O3 J) G)))
 refine UX (kdl_extend (A:=A) (R:=λr' s'=>r'=.ok (.ret (.ref s.heap.objs.size))/\∃h' tk D c',s'={ s with heap:=h',toks:=tk }/\(∀b o,s.heap.get? b=Ya o->h'.get? b=Ya o) /\
   h'.get? s.heap.objs.size=Ya { cls:=.type "list",dict:=none,data:=.seq D c',slots:=#[] }/\ItemsOf P D n)
  (s:={ s with heap:=s.heap.push { cls:=.type "list",data:=.seq ([]:List Uj).toArray } }) K hh (K.keep _ _ bM λb _ o e=>OM _ e) s.heap.objs.size (QS U.1) (QS U.2) (.ref s.heap.objs.size) 0 hS
  (λh' tk D c' V J G=>⟨rfl,h',tk,D,c',rfl,λb o e=>V b o (Pd (O3 e)) (OM _ e),J,G⟩) hn) (λfin s' h=>?_) (λe s' h=>?_)
 .cases fin with
  |done f =>
   obtain⟨e,h',tk,D,c',rfl,Z,h2,h3⟩:=h;cases e;exact O h' tk D c' Z h2 h3
  |again c'=>exact⟨h.1,VE h.2 λr s'' hr=>by obtain⟨rfl,h',tk,D,c',rfl,Z,h2,h3⟩:=hr;exact O h' tk D c' Z h2 h3⟩
 exact Us h.1 (by simp)
end
end xh
namespace L2
open PySem PySem.Spec PyProof.Rows NF xh PySem.W nF Calls
section
variable {X:Cx}
noncomputable def JQ(i:Int):Key:=.inl i
theorem uH{h:UH}{m:Nat}(O:0<m):∀G:List Um,(∀t∈G,∃xs,Pl h m (.ref t) xs)->∃fs:List Uj,QM h (G.map Value.ref) fs/\∀v∈fs,∃i u,v=.int i u
 |[],_=>⟨[],QM.nil,λv D=>Us D Qp⟩
 |t::G,hp=>by
  obtain⟨fs,U,V⟩:=uH O G λt Z=>hp t (O0 _ Z);obtain⟨xs,t',o,n,its,J,e1,e2,e3,e4,e5,e6⟩:=hp t O1;injection J with J;subst J;cases xs with
  |nil=>rw[Qn]at e5;omega
  |cons x xs =>
   cases e4 with
   | @cons _ v _ vs r1 t1 =>
    obtain⟨u,rfl⟩:=r1;refine⟨.int x u::fs,QM.cons e1 e2 e3 rfl U,λv D=>?_⟩;rcases Pa.mp D with rfl|D
    .exact⟨_,_,rfl⟩
    exact V v D
theorem yl:∀{xs D:List Int},xs.map V.int=D.map V.int->xs=D
 |[],[],_=>rfl
 |[],_::_,h=>by simp at h
 |_::_,[],h=>by simp at h
 |x::xs,y::D,h=>by
  rw[Po,Po]at h;injection h with G J;injection G with G;rw[G,yl J]
open Classical in
noncomputable def zP(H:Hp)(t:Um):List Int:=if e:∃r:List Int,H t=Ya (.tup (r.map V.int))then choose e else[]
theorem B3{H:Hp}{t:Um}{r:List Int}(e:H t=Ya (.tup (r.map V.int))):zP H t=r:=by
 have ex:∃r:List Int,H t=Ya (.tup (r.map V.int)):=⟨r,e⟩
 unfold zP;rw[Wn ex];have e2:=e.symm.trans (QB ex);injection e2 with e2;injection e2 with e2;exact(yl e2).symm
def JR(tk G:TE):TE:=λσ H Q=>∀p,H p=none->tk σ (upd H p (.dT [])) λx J=>G σ J λy D=>D p=Ya (.dT [])/\∃(b:Um) (k:List Key),x=.ref b/\D b=Ya (.tup (k.map kV))/\Q (.ref p) (upd D p (.dT [(k,y)]))
theorem EE{k v:UL}{pos:VL}{tk tv:TE}(hu:X.A.units+1<cLine)(hk:PE X k tk)(hv:PE X v tv):PE X (.Dict [Ya k] [v] pos) (JR tk tv):=by
 intro pins s σ H Q I q;have hn:=I.bM.fresh (ON s.heap.objs.size);have I1:=I.laid (a:=s.heap.objs.size) (o:=.dT []) (h':=s.heap.push { cls:=.type "dict",data:=.dict #[] }) (t':=s.toks) (λ_ _ q=>OM _ q) (ON _) (wZ s.heap I.big);have hp:=(CQ (pos:=pos) hk hv FU) pins _ σ _ (λG J=>match G with|[(x,y)]=>J s.heap.objs.size=Ya (.dT [])/\∃(b:Um) (k:List Key),x=.ref b/\J b=Ya (.tup (k.map kV))/\Q (.ref s.heap.objs.size) (upd J s.heap.objs.size (.dT [(k,y)]))|_=>False) I1 (q _ hn);rw[arm_eval_Dict,zip_pairTrees [Ya k] [v] X.env pos rfl rfl,dictDisplay_pairs (pairTrees [Ya k] [v] X.env pos) (Tr _ _) (by show 1<17;decide)];refine Uh (Vn (Uh ?_));unfold subDict;refine Uh (wpAny_alloc ?_);refine Uh (UD ?_);rw[Uo (show(pairTrees [Ya k] [v] X.env pos).length<=15 by show 1<=15;decide)];refine Uh (cL hp λws s2 zq=>?_);obtain⟨G,J,O,U,q1⟩:=zq;obtain⟨x,y,rfl⟩:∃x y,G=[(x,y)]:=by
  match G,q1 with
  |[(x,y)],_=>exact⟨x,y,rfl⟩
  |[],z=>exact z.elim
  |_::_::_,z=>exact z.elim
 obtain⟨e,b,key,ex,eb,q2⟩:=q1;cases U with
 | @cons a c as bs h t =>
  cases t;subst ex;obtain⟨c1,c2⟩:=c;obtain rfl:c1=Value.ref b:=h.1;obtain⟨z,hd,xs,D,dd⟩:=Ah O.bM e;have hz:xs.length<=sizeLine:=by rw[<-Paired.length D];exact z
  refine UD ?_;rw[List.forIn_cons];refine Uh (Uh (Uh (wpAny_dictSet_heap (hsz:=hz) (show X.A.units<cLine by omega) (qV O.bM eb) dd λh' Z hs=>Ur ?_)));dsimp only;rw[List.forIn_nil];refine Ur (Ur (Ur (Ur ⟨.ref s.heap.objs.size,_,?_,rfl,q2⟩)));have hl:(putK ([]:List (List Key×V)) key y).length<=sizeLine:=by show 1<=Uu;decide
  obtain⟨q',es,ep,hq,h2,h3,h4,_,h5⟩:=Z;refine m7 O (by rw[e];exact True.intro) hs ⟨q',hq⟩ ⟨hl,hd,_,(D.put key eb h.2).keeps λc ys ec=>?_,q',es,ep,hq,h2,h3,h4,h5⟩;rw[aG (Cu ec e (λz=>nomatch z))];exact ec
end
end L2
namespace gB
open PySem L2 Th aI
noncomputable def kW(w:List Nat):List Key:=w.map λ(x:Nat)=>(Sum.inl (x:Int):Key)
noncomputable def dS(F:List (List Nat)):List (List Key×V):=F.map λw=>(kW w,V.bl true)
theorem EF:∀{v w:List Nat},kW v=kW w->v=w
 |[],[],_=>rfl
 |[],_::_,h=>by simp[kW]at h
 |_::_,[],h=>by simp[kW]at h
 |x::v,y::w,h=>by
  have h:(Sum.inl (x:Int):Key)::kW v=Sum.inl (y:Int)::kW w:=h;injection h with D G;injection D with D;rw[EF G,show x=y by omega]
theorem HP(w:List Nat):nV w=(kW w).map kV:=by
 unfold nV kW;rw[Pp]
 rfl
theorem zQ{H:Hp}{t:Um}{w:List Nat}(h:H t=Ya (.tup (nV w))):H t=Ya (.tup ((kW w).map kV)):=by rw[h,HP]
theorem uI{w:List Nat}:∀{F:List (List Nat)},w∉F->bX (dS F) (kW w)=none
 |[],_=>rfl
 |v::F,h=>(dZ (λz=>h (by rw[EF z];exact O1))).trans (uI λz=>h (O0 _ z))
open Classical in
noncomputable def addW(F:List (List Nat))(w:List Nat):List (List Nat):=if w∈F then F else F++[w]
theorem Mk(F:List (List Nat))(w:List Nat):putK (dS F) (kW w) (.bl true)=dS (addW F w):=by
 unfold addW;by_cases c:w∈F
 .rw[Uo c];have e:((dS F).any λD=>decide (D.1=kW w))=true:=List.any_eq_true.mpr ⟨(kW w,.bl true),OO.mpr ⟨w,c,rfl⟩,Ul rfl⟩;unfold putK;rw[Uo e];unfold dS;rw[Pp];refine PB λv _=>?_;show(if(kW v,V.bl true).1=kW w then((kW v,V.bl true).1,V.bl true)else(kW v,V.bl true))=_
  split <;> rfl
 rw[Uk c,CL _ (uI c)];unfold dS;rw[O5]
 rfl
theorem EG{F:List (List Nat)}{w v:List Nat}:v∈addW F w↔v∈F\/v=w:=by
 unfold addW
 split
 .rename_i h;exact⟨.inl,λz=>z.elim id λe=>e▸h⟩
 rw[OY,OS]
theorem G9{F:List (List Nat)}{w:List Nat}(h:F.Nodup):(addW F w).Nodup:=by
 unfold addW
 split
 .exact h
 rename_i c;rw[PY];exact⟨h,by simp,λa D b G e=>c (by rw[<-OS.mp G,<-e];exact D)⟩
theorem EH:∀{O F:List (List Nat)},(F++O).Nodup->jM (dS F) (dS O)=dS (F++O)
 |[],F,_=>by rw[Pj];rfl
 |w::O,F,h=>by
  have hw:w∉F:=λz=>(PY.mp h).2.2 w z w O1 rfl;show jM (putK (dS F) (kW w) (.bl true)) (dS O)=_;rw[Mk];have e:addW F w=F++[w]:=by unfold addW;rw[Uk hw]
  rw[e,EH (by rw[PM];exact h),PM]
  rfl
structure Lv(n:Nat) (os ms:List Nat) (F R:List (List Nat)) (c:Nat):Prop where
 nd:F.Nodup
 one:ms∈F
 EI:∀w∈F,vS n os ms w
 sub:∀w∈R,w∈F
 far:∀w∈F,c<=aC n w os
 now:∀w∈R,aC n w os=c
 don:∀w∈F,w∉R->∀v∈iK n os w,v∈F
theorem Lv.start{n:Nat}{os ms:List Nat}:Lv n os ms [ms] [ms] (aC n ms os):=
 ⟨by simp,O1,λw hw=>by rw[OS.mp hw];exact .refl,λw h=>h,λw hw=>by rw[OS.mp hw];exact ON _,λw hw=>by rw[OS.mp hw],λw hw z=>Us hw z⟩
theorem Lv.next{n:Nat}{os ms:List Nat}{F R O:List (List Nat)}{c:Nat}(W:ak n ms)(L:Lv n os ms F R c)(nd:O.Nodup)(J:∀v,v∈O↔∃w∈R,v∈iK n os w)(ne:O≠[]):∃c',c=c'+1/\Lv n os ms (F++O) O c':=by
 have D:∀v∈O,aC n v os+1=c:=λv G=>by
  obtain⟨w,hw,h⟩:=(J v).mp G;have:=((qD ((L.EI w (L.sub w hw)).work W)).mp h).2;rw[L.now w hw]at this;exact this
 obtain⟨V,U⟩:∃v,v∈O:=by cases O with
  |nil=>exact Us rfl ne
  |cons v _=>exact⟨v,O1⟩
 have Z:=D V U;refine⟨aC n V os,Z.symm,?_,Pn _ L.one,λw hw=>?_,λw hw=>O4 _ hw,λw hw=>?_,λw hw=>?_,λw hw hn v G=>?_⟩
 .rw[PY];refine⟨L.nd,nd,λa ha b hb e=>?_⟩;have a1:=L.far a ha;have a2:=D b hb;rw[e]at a1;omega
 .rcases OY.mp hw with q|q
  .exact L.EI w q
  obtain⟨u,hu,h⟩:=(J w).mp q;exact(L.EI u (L.sub u hu)).step h
 .rcases OY.mp hw with q|q
  .have:=L.far w q;omega
  have:=D w q;omega
 .have:=D w hw;omega
 rcases OY.mp hw with q|q
 .by_cases c2:w∈R
  .exact O4 _ ((J v).mpr ⟨w,c2,G⟩)
  exact Pn _ (L.don w q c2 v G)
 exact Us q hn
theorem Lv.all{n:Nat}{os ms:List Nat}{F:List (List Nat)}{c:Nat}(L:Lv n os ms F [] c){w:List Nat}(h:vS n os ms w):w∈F:=by
 induction h with
 |refl=>exact L.one
 |step _ D G=>exact L.don _ G (by simp) _ D
theorem Lv.stop{n:Nat}{os ms:List Nat}{F R:List (List Nat)}{c:Nat}(L:Lv n os ms F R c)(h:∀w∈R,∀v,v∉iK n os w):Lv n os ms F [] c :=
 ⟨L.nd,L.one,L.EI,λw hw=>by simp at hw,L.far,λw hw=>by simp at hw,λw hw _ v D=>by
  by_cases c2:w∈R
  .exact Us D (h w c2 v)
  exact L.don w hw c2 v D⟩
variable (K:OJ)
end gB
namespace L2
open PySem PySem.Spec PyProof.Rows NF xh PySem.W nF Calls
section
variable {X:Cx}
theorem sk(hc:X.calm=true):fX X (.builtin "sorted") (λxs H Q=>∃(d:Um) (m:Nat) (D:List (List Key×V)) (L:List (List Int)),xs=[.ref d]/\H d=Ya (.dT D)/\D.map (·.1)=L.map (λr=>r.map JQ)/\L.length<64/\(2<=L.length->0<m)/\(∀r∈L,r.length=m/\Ci r) /\
  ∀(us:List Um) (g:Um->List Int) (l:Um),(us.map g).Perm L->((us.map g).Pairwise λr q=>qK 0 r<=qK 0 q)->(∀t∈us,H t=Ya (.tup ((g t).map V.int)))->H l=none->Q (.ref l) (upd H l (.lst (us.map V.ref)))):=by
 intro pins s σ H xs us Q I r h;obtain⟨d,m,D,L,rfl,hd,hk,Jw,hm,hL,q⟩:=h;obtain⟨u,rfl,ru⟩:=r.one;cases ru;obtain⟨z,lo,xs,rel,o,es,ep,h1,h2,h3,h4,h5⟩:=(show cQ X.prog X.w H s.heap d (.dT D)from I.bM d _ hd)
 have hsz:es.size=D.length:=by
  rw[Paired.length rel];have:=congrArg Sf h4;rwa[Qf,OH]at this
 have hx:xs.length=D.length:=(Paired.length rel).symm;have A3:D.length=L.length:=by have:=congrArg Sf hk;rwa[OH,OH]at this
 let G:=xs.map (·.2.1)
 have tl:G.length=L.length:=by show(xs.map _).length=_;rw[OH,hx,A3]
 have G8:∀(i:Nat) (t:Um) (r:List Int),G[i]?=Ya t->L[i]?=Ya r->H t=Ya (.tup (r.map V.int)):=λi t r e1 e2=>by
  rw[OR]at e1;obtain⟨p,e3,rfl⟩:=Qd.mp e1;have hi:=(OI.mp e3).1;have e4:=OG (l:=D) (i:=i) (by omega);have zz:=mM rel e4 e3;have e5:(D.map (·.1))[i]?=Ya D[i].1:=by rw[OR,e4];rfl
  rw[hk,OR,e2]at e5;have e6:D[i].1=r.map JQ:=(Option.some.inj e5).symm;rw[zz.2.1,e6,Pp]
  rfl
 have hpl:∀t∈G,∃r∈L,Pl s.heap m (.ref t) r/\H t=Ya (.tup (r.map V.int)):=λt O=>by
  obtain⟨i,hi⟩:=Qq.mp O;have sO:=(OI.mp hi).1;have el:=OG (l:=L) (i:=i) (by omega);have LC:=OP el;have e:=G8 i t _ hi el;obtain⟨its,rv,⟨o',f1,f2,n,f3⟩,_⟩:=I.tuple (br.of e);exact⟨_,LC,⟨t,o',n,its,rfl,f1,f2,f3,rv,(hL _ LC).1,(hL _ LC).2⟩,e⟩
 refine call_function_entry WL Wr Ws (Xh _) ?_;unfold Builtin.«sorted»;refine Uh (m:=W9 "sorted" 1 1 _) (Ur ?_);refine Uh (ED (A:=X.A.in1) (yk (prog:=X.prog) (w:=X.w) (es:=es) (ep:=ep) lo) (I.ok.hd hc) ⟨o,h1,h2.1,h3⟩ (by rw[hsz];exact z) λh' tk U hkp Ml Z=>?_);have aaG:U.toList=G.map Value.ref:=by
  refine QY λi=>?_;by_cases hi:i<es.size
  .have Cj:i<U.size:=by rw[Z.1];exact hi
   have e7:U.toList[i]?=Ya U[i]:=by rw[RI];exact Qb Cj
   obtain⟨JS,ev⟩:=Z.2 i U[i] (Qb Cj);have e10:=OG (l:=xs) (i:=i) (by omega);have Mh:es.toList[i]?=Ya (VI (VJ (bG X.prog X.w)) xs[i]):=by rw[h4,OR,e10];rfl
   have Mi:es.toList[i]?=Ya es[i]:=by rw[RI];exact Qb hi
   rw[Mi]at Mh;rw[e7,OR,OR,e10,ev,Option.some.inj Mh]
   rfl
  rw[PU (by rw[Qf,Z.1];omega),PU (by rw[OH,tl];omega)]
 rw[aaG];refine Uh (Vo ?_ (by rw[OH,tl,UJ];omega));have J:(h'.push (seqObj "list" (G.map Value.ref).toArray 0)).get? h'.objs.size=Ya (seqObj "list" (G.map Value.ref).toArray 0):=O6 _ rfl;have old:∀b o,s.heap.get? b=Ya o->b≠h'.objs.size/\(h'.push (seqObj "list" (G.map Value.ref).toArray 0)).get? b=Ya o:=λb o e=>⟨Pd (O3 (hkp b o e)),OM _ (hkp b o e)⟩
 have gsz:s.heap.objs.size<=h'.objs.size:=Sr Ml
 let g:Um->List Int:=zP H
 have gof:∀{t:Um}{r:List Int},H t=Ya (.tup (r.map V.int))->g t=r:=B3;have tsg:G.map g=L:=by
  refine QY λi=>?_;by_cases hi:i<G.length
  .have e1:=OG hi;have e2:=OG (l:=L) (i:=i) (by omega);rw[OR,e1,e2];exact congrArg some (gof (G8 i _ _ e1 e2))
  rw[PU (by rw[OH];omega),PU (by omega)]
 have Mm:∀t∈G,Pl s.heap m (.ref t) (g t)/\H t=Ya (.tup ((g t).map V.int)):=λt O=>by
  obtain⟨r,_,p1,p2⟩:=hpl t O;rw[gof p2];exact⟨p1,p2⟩
 have fin:∀(out:Array Uj),out.toList.Perm (G.map Value.ref)->(out.toList.Pairwise λu v=>Kt s.heap m u<=Kt s.heap m v)->EP X pins σ Q (.ref h'.objs.size) { s with heap:=XG (h'.push (seqObj "list" (G.map Value.ref).toArray 0)) h'.objs.size (G.map Value.ref) out,toks:=tk }:=λout a1 a2=>by
  obtain⟨ws,e,hw⟩:=uk a1;obtain⟨c,he⟩:=sortedHeap_at (out:=out) J;have wm:∀t∈ws,t∈G:=λt O=>hw.mem_iff.mp O;have a3:(ws.map g).Pairwise λr q=>qK 0 r<=qK 0 q:=by
   rw[e,Px]at a2;rw[Px];refine List.Pairwise.imp_of_mem (λ{x y} hx hy z=>?_) a2;rw[vT (Mm x (wm x hx)).1,vT (Mm y (wm y hy)).1]at z;exact z
  refine⟨.ref h'.objs.size,_,I.laid (a:=h'.objs.size) (o:=.lst (ws.map V.ref)) (t':=tk) (λb o eb=>?_) gsz ⟨?_,out.toList,c,by rw[e];exact mL ws,by simpa[seqObj]using he⟩,rfl,q ws g _ (by have:=hw.map g;rw[tsg]at this;exact this) a3 (λt O=>(Mm t (wm t O)).2) (I.bM.fresh gsz)⟩
  .obtain⟨n1,n2⟩:=old b o eb;rw[sortedHeap_old n1 (O3 n2)];exact n2
  rw[OH,hw.length_eq,tl,UJ];omega
 by_cases c:2<=G.length
 .letI:=JM s.heap m
  obtain⟨fs,k1,k2⟩:=uH (h:=s.heap) (hm (by omega)) G λt O=>⟨_,(Mm t O).1⟩
  refine Uh (UD (UM slot_list_sort ⟨_,J,rfl⟩ entry_list_sort (pH (fs:=fs) (rk:=Kt s.heap m) (T:=.type "int") (λp=>rfl) rfl rfl J (by rw[OH];exact c) (by rw[OH];omega) (λHz aaH=>?_) λout a1 a2=>⟨_,rfl,Ur ⟨_,rfl,fin out a1 a2⟩⟩) (V6 _)));have kk:∀b o,s.heap.get? b=Ya o->Hz.get? b=Ya o:=λb o e=>aaH b o (old b o e).1 (old b o e).2;refine⟨rT kk k1,λv hv=>?_,λp hp=>?_,G7 kk⟩
  .obtain⟨i,u,rfl⟩:=k2 v hv;exact .now
  have ez:(Vt (G.map Value.ref)).toList=(G.map Value.ref).zip (G.map Value.ref):=by unfold Vt;simp
  rw[ez]at hp;obtain⟨t,O,e⟩:=OO.mp (Ru hp).1;exact⟨g t,by rw[<-e];exact(Mm t O).1⟩
 refine Uh (UD (UM slot_list_sort ⟨_,J,rfl⟩ entry_list_sort (xW J (by rw[OH];omega) ⟨_,rfl,Ur ⟨_,rfl,fin _ (by simp) ?_⟩⟩) (V6 _)));have:(G.map Value.ref).length<2:=by rw[OH];omega
 generalize G.map Value.ref=vs at this
 match vs,this with
 |[],_=>exact List.Pairwise.nil
 |[t],_=>exact Sh _ _
 |_::_::_,z=>exact Us z (by simp)
end
end L2
namespace aI
open PySem L2 gB
variable (K:OJ)
def nU(D G:Um):Sp:=λJ H Q E=>∃(a b:Um) (n m:Nat) (ms os:List Nat),J=[.ref a,.ref b]/\n<=20/\H a=Ya (.tup (nV ms))/\ak n ms/\H b=Ya (.tup (nV os))/\os.length=2*m /\
 (n=m->ak n os/\(aC n ms os<=5->(∀w,vS n os ms w->Mf n w os)/\(∀L:List (List Nat),L.Nodup->(∀w∈L,vS n os ms w)->L.length<64) /\
  ∀(l:Um) (L:List (List Nat)) (H':Hp),H l=none->aE H H'->ft nV H' l L->L.Nodup->(∀w,w∈L↔vS n os ms w)->Q (.ref l) H')/\(5<aC n ms os->∀H':Hp,aE H H'->E (.ref G) none H'))/\(n≠m->E (.ref D) none H)
end aI
namespace gB
open Th aI
noncomputable def fl(x:Nat):Nat:=if x%2=0 then x+1 else x-1
theorem HQ(x:Nat):fl (fl x)=x:=by unfold fl;split <;> split <;> omega
theorem HR(x:Nat):fl x≠x:=by unfold fl;split <;> omega
theorem A4(x:Nat):fl x/2=x/2:=by unfold fl;split <;> omega
theorem A5{n x:Nat}(h:x<2*n):fl x<2*n:=by unfold fl;split <;> omega
noncomputable def sg(n:Nat)(f:Nat->Bool):List Nat:=(OV (2*n)).map λx=>if f (x/2)=true then fl x else x
section
variable {n:Nat}{f g:Nat->Bool}
theorem iO:(sg n f).length=2*n:=by unfold sg;rw[OH,OW]
theorem fo{x:Nat}(h:x<2*n):ar (sg n f) x=if f (x/2)=true then fl x else x:=by
 unfold ar sg;rw[QK,OR,Qv h]
 rfl
theorem fG(J:n<=40):ak n (sg n f):=by
 refine qE J iO (λx D=>?_) λx D=>?_
 .rw[fo D];split
  .exact A5 D
  exact D
 have G:ar (sg n f) x<2*n:=by
  rw[fo D];split
  .exact A5 D
  exact D
 rw[fo D]at G⊢;by_cases c:f (x/2)=true
 .rw[Uo c]at G⊢;rw[fo G,A4,Uo c,HQ]
 rw[Uk c]at G⊢;rw[fo D,Uk c]
theorem mm{x:Nat}(h:x<2*n):ar (sg n f) x=x\/ar (sg n f) x=fl x:=by
 rw[fo h];split
 .exact .inr rfl
 exact .inl rfl
def Sg(n:Nat)(w:List Nat):Prop:=∀x,x<2*n->ar w x=x\/ar w x=fl x
theorem jN{ms os:List Nat}(G:Sg n ms)(J:Sg n os){x y:Nat}(O:x<2*n)(c:aB (ar ms) (ar os) x y):y=x\/y=fl x:=by
 have:=c (λz=>z<2*n/\(z=x\/z=fl x)) ⟨O,.inl rfl⟩ λz ⟨hz,e⟩=>by
  have key:∀u,u=z\/u=fl z->u<2*n/\(u=x\/u=fl x):=λu D=>by
   refine⟨by rcases D with rfl|rfl;exact hz;exact A5 hz,?_⟩;rcases D with rfl|rfl
   .exact e
   rcases e with rfl|rfl
   .exact .inr rfl
   exact .inl (HQ x)
  exact⟨key _ (G z hz),key _ (J z hz)⟩
 exact this.2
theorem zR{ms os:List Nat}(D:Sg n ms)(G:Sg n os):tF n ms os:=λx J=>by
 refine PD (sub_len kZ (m:=[x,fl x]) λy O=>?_) (by simp);rcases jN D G J (gE.mp O).2 with e|e <;> rw[e] <;> simp
theorem HS(h:∀s,s<n->(f s=true↔¬g s=true)){x:Nat}(D:x<2*n):kd (ar (sg n f)) (ar (sg n g)) x=if f (x/2)=true then .tied else .bare:=by
 have hs:x/2<n:=by omega
 have O:Sg n (sg n f):=λx D=>mm D;have U:Sg n (sg n g):=λx D=>mm D;have J:∀y,aB (ar (sg n f)) (ar (sg n g)) x y->y<2*n/\y/2=x/2:=λy c=>by
  rcases jN O U D c with e|e
  .rw[e];exact⟨D,rfl⟩
  rw[e];exact⟨A5 D,A4 x⟩
 unfold kd;by_cases c:f (x/2)=true
 .have V:=(h _ hs).mp c;have A:¬cH (ar (sg n f)) (ar (sg n g)) x:=λ⟨u,G,e⟩=>by
   obtain⟨l,q⟩:=J u G;rw[fo l,q,Uo c]at e;exact HR u e
  have B:cZ (ar (sg n f)) (ar (sg n g)) x:=⟨x,aB.refl x,by rw[fo D,Uk V]⟩
  rw[Uk (λz=>A z.1),Uk A,Uo B,Uo c]
 have Z:g (x/2)=true:=OU λz=>c ((h _ hs).mpr z);have B:¬cZ (ar (sg n f)) (ar (sg n g)) x:=λ⟨u,G,e⟩=>by
  obtain⟨l,q⟩:=J u G;rw[fo l,q,Uo Z]at e;exact HR u e
 have A:cH (ar (sg n f)) (ar (sg n g)) x:=⟨x,aB.refl x,by rw[fo D,Uk c]⟩
 rw[Uk (λz=>B z.2),Uo A,Uk c]
theorem EJ(U:n<=40)(h:∀s,s<n->(f s=true↔¬g s=true)){J:List (Kd×List Nat)}(V:bW n (sg n f) (sg n g) J){th:Kd×List Nat}(Z:th∈J):th.2.length=2/\∃s,s<n/\th.1=if f s=true then .tied else .bare:=by
 have W:=fG (f:=f) U;have WO:=fG (f:=g) U;have G:=V.good W WO Z;obtain⟨x,D⟩:∃x,x∈th.2:=Q6 G.ne;have lx:=G.lt x D;have O:=iM W WO V Z D;rw[HS h lx]at O;refine⟨?_,x/2,by omega,O.1.symm⟩;have par:=G.par;have l3:(eG (2*n) (ar (sg n f)) (ar (sg n g)) x).length<=[x,fl x].length:=sub_len kZ λy hy=>by
  rcases jN (ms:=sg n f) (os:=sg n g) (λx D=>mm D) (λx D=>mm D) lx (gE.mp hy).2 with e|e <;> rw[e] <;> simp
 rw[O.2]at l3;have ne:=G.ne;have np:¬th.2.length%2=1:=λz=>by
  have:=par.mp z;rw[<-O.1]at this
  split at this <;> cases this
 simp at l3;omega
theorem EK(J:n<=40)(h:∀s,s<n->(f s=true↔¬g s=true)):aC n (sg n f) (sg n g)=n:=by
 have W:=fG (f:=f) J;have O:=fG (f:=g) J;obtain⟨D,U⟩:=eD W O;rw[<-gO W O U];have L:=(jr W O U).len;have two:∀th∈D,cT th=1/\th.2.length=2:=λth G=>by
  obtain⟨V,s,_,k⟩:=EJ J h U G;refine⟨?_,V⟩;unfold cT;rw[Uk (λz=>by rw[k]at z;split at z <;> cases z),V]
 rw[lQ D (k:=1) λth G=>(two th G).1];have e:(iT D).length=D.length*2:=by
  unfold iT;rw[SW,Pp];exact lQ D λth G=>(two th G).2
 omega
theorem B4(O:n<=40)(h:∀s,s<n->(f s=true↔¬g s=true)):aP n (sg n f) (sg n g)↔(∀s,s<n->f s=true)\/(∀s,s<n->¬f s=true):=by
 have W:=fG (f:=f) O;have D:=fG (f:=g) O;obtain⟨U,G⟩:=eD W D;have A:=tE W D G;rw[cV W D G];unfold both;rw[SF,VA,VA];have mem:∀k:Kd,k∈U.map (·.1)↔∃s,s<n/\k=if f s=true then .tied else .bare:=λk=>by
  constructor
  .intro V;obtain⟨th,J,e⟩:=OO.mp V;obtain⟨_,s,hs,q⟩:=EJ O h G J;exact⟨s,hs,by rw[<-e,q]⟩
  rintro⟨s,hs,e⟩;obtain⟨th,J,m⟩:=A.mem (p:=2*s) (by omega);refine OO.mpr ⟨th,J,?_⟩;rw[<-(iM W D G J m).1,HS h (by omega),e,show 2*s/2=s by omega]
 rw[mem,mem];constructor
 .rintro(z|z)
  .exact .inl λs hs=>OU λq=>z ⟨s,hs,by rw[Uk q]⟩
  exact .inr λs hs q=>z ⟨s,hs,by rw[Uo q]⟩
 rintro(z|z)
 .exact .inl λ⟨s,hs,e⟩=>by rw[Uo (z s hs)]at e;cases e
 exact .inr λ⟨s,hs,e⟩=>by rw[Uk (z s hs)]at e;cases e
noncomputable def cS(f:Nat->Bool)(s:Nat):Nat×Nat:=if f s=true then(2*s,2*s)else(2*s,2*s+1)
noncomputable def put(f:Nat->Bool)(s:Nat)(v:Bool):Nat->Bool:=λk=>if k=s then v else f k
theorem k9{f g:Nat->Bool}(h:∀s,s<n->f s=g s):sg n f=sg n g:=by
 unfold sg;refine PB λx D=>?_;rw[h (x/2) (by have:=OX.mp D;omega)]
theorem A6(hn:n<=40){s:Nat}(hs:s<n)(ne:f s≠g s):cS f s∈dF n (sg n g) (sg n f)/\bN (sg n f) (cS f s).1 (cS f s).2=sg n (put f s (g s)):=by
 have W:=fG (f:=f) hn;have V:=fG (f:=g) hn;have S1:Sg n (sg n f):=λx D=>mm D;have S2:Sg n (sg n g):=λx D=>mm D;obtain⟨bf,hI⟩:=eD W V;have A:=tE W V hI;have J:2*s<2*n:=by omega
 have l1:2*s+1<2*n:=by omega
 have f0:fl (2*s)=2*s+1:=by unfold fl;rw[Uo (by omega)]
 have f1:fl (2*s+1)=2*s:=by unfold fl;rw[Uk (by omega)];omega
 have d0:2*s/2=s:=by omega
 have d1:(2*s+1)/2=s:=by omega
 obtain⟨th,ht,hm⟩:=A.mem J;have G:=hI.good W V ht;have f3:=Kr G ((zR S1 S2).cN W V hI ht);have Z:∀y∈th.2,y=2*s\/y=2*s+1:=λy hy=>by
  have:=jN S1 S2 J (vM A ht hm hy);rwa[f0]at this
 have nd:=G.nd;have kq:=(iM W V hI ht hm).1;cases c:f s with
 |true =>
  have gs:g s=false:=by cases q:g s with
   |true=>exact Us (c.trans q.symm) ne
   |false=>rfl
  have e:cS f s=(2*s,2*s):=by unfold cS;rw[Uo c]
  have aF:ar (sg n f) (2*s)=2*s+1:=by rw[fo J,d0,Uo c,f0]
  have bF:ar (sg n g) (2*s)=2*s:=by rw[fo J,d0,Uk (by rw[gs];decide)]
  rw[e];constructor
  .rw[<-oY W V hI,OZ];have k1:th.1=.tied:=by
    rw[<-kq];unfold kd;have Al:¬cH (ar (sg n f)) (ar (sg n g)) (2*s):=λ⟨u,cu,q⟩=>by
     rcases jN S1 S2 J cu with z|z
     .rw[z,aF]at q;omega
     rw[z,f0,fo l1,d1,Uo c,f1]at q;omega
    rw[Uk (λz=>Al z.1),Uk Al,Uo ⟨_,aB.refl _,bF⟩]
   exact⟨gD.mpr (.inr (.inr ⟨2*s,bj.mpr ⟨th,ht,k1,hm⟩,rfl⟩)),(uB W J l1 aF (by omega)).1⟩
  refine jI (by rw[dR,iO,iO]) λx D=>?_;rw[dR,iO]at D;rw[dw (by rw[iO];exact D),fo D];unfold cE;rw[Uo rfl,aF];unfold put;by_cases q:x/2=s
  .rw[Uo (by omega),q,Uo rfl,gs,Uk (by decide)]
  rw[Uk (by omega),Uk q,fo D]
 |false =>
  have gs:g s=true:=by cases q:g s with
   |false=>exact Us (c.trans q.symm) ne
   |true=>rfl
  have nc:¬f s=true:=by rw[c];decide
  have e:cS f s=(2*s,2*s+1):=by unfold cS;rw[Uk nc]
  have aF:ar (sg n f) (2*s)=2*s:=by rw[fo J,d0,Uk nc]
  have aF1:ar (sg n f) (2*s+1)=2*s+1:=by rw[fo l1,d1,Uk nc]
  have bF:ar (sg n g) (2*s)=2*s+1:=by rw[fo J,d0,Uo gs,f0]
  have bF1:ar (sg n g) (2*s+1)=2*s:=by rw[fo l1,d1,Uo gs,f1]
  rw[e];constructor
  .rw[<-oY W V hI,OZ];have k1:th.1=.bare:=by
    rw[<-kq];unfold kd;have Bl:¬cZ (ar (sg n f)) (ar (sg n g)) (2*s):=λ⟨u,cu,q⟩=>by
     rcases jN S1 S2 J cu with z|z
     .rw[z,bF]at q;omega
     rw[z,f0,bF1]at q;omega
    rw[Uk (λz=>Bl z.2),Uo ⟨_,aB.refl _,aF⟩]
   have o:ord (2*s) (2*s+1)=(2*s,2*s+1):=eC (by omega);refine⟨gD.mpr (.inr (.inl ⟨th,ht,?_⟩)),by rw[<-o];exact sh W J l1 (by omega) aF⟩;obtain⟨k,L⟩:=th;simp only at k1 f3 Z nd⊢;subst k1;cases f3 with
   | @bare u v h1 h2 h3 =>
    have es:bZ [u,v]=[ord u v]:=rfl;rw[es,OS];have uv:u≠v:=λz=>by subst z;simp at nd
    rcases Z u (by simp)with O|O <;> rcases Z v (by simp)with U|U
    .exact Us (O.trans U.symm) uv
    .rw[O,U,o]
    .rw[O,U,gn,o]
    exact Us (O.trans U.symm) uv
  refine jI (by rw[dR,iO,iO]) λx D=>?_;rw[dR,iO]at D;rw[dw (by rw[iO];exact D),fo D];unfold cE put;rw[Uk (by omega)];by_cases O:x=2*s
  .rw[Uo O,O,d0,Uo rfl,gs,Uo rfl,f0]
  rw[Uk O];by_cases U:x=2*s+1
  .rw[Uo U,U,d1,Uo rfl,gs,Uo rfl,f1]
  rw[Uk U,aF,Uk O,aF1,Uk U,Uk (show¬x/2=s by omega),fo D]
noncomputable def gQ(f g:Nat->Bool)(k:Nat):Nat->Bool:=λs=>if s<k then g s else f s
theorem EL(D:n<=40)(h:∀s,s<n->f s≠g s):∀(m k:Nat),k+m=n->gp n (sg n g) (sg n (gQ f g k)) ((OV m).map λi=>cS f (k+i))
 |0,k,e=>by
  have:sg n (gQ f g k)=sg n g:=k9 λs hs=>by unfold gQ;rw[Uo (by omega)]
  rw[this];exact .nil
 |m+1,k,e=>by
  have G:k<n:=by omega
  have m0:gQ f g k k=f k:=by unfold gQ;rw[Uk (by omega)]
  obtain⟨J,O⟩:=A6 (f:=gQ f g k) (g:=g) D G (by rw[m0];exact h k G);have ec:cS (gQ f g k) k=cS f k:=by unfold cS;rw[m0]
  rw[ec]at J O;have V:=EL D h m (k+1) (by omega);rw[Sq,Po,Pp];refine .cons J ?_;rw[show cS f (k+0)=cS f k from rfl,O];have e1:sg n (put (gQ f g k) k (g k))=sg n (gQ f g (k+1)):=k9 λs hs=>by
   unfold put gQ;by_cases q:s=k
   .rw[Uo q,Uo (by omega),q]
   rw[Uk q];by_cases U:s<k
   .rw[Uo U,Uo (by omega)]
   rw[Uk U,Uk (by omega)]
  rw[e1];have e2:((OV m).map ((λi=>cS f (k+i)) ∘ Nat.succ))=(OV m).map λi=>cS f (k+1+i):=PB λi _=>by
   show cS f (k+(i+1))=cS f (k+1+i);rw[show k+(i+1)=k+1+i by omega]
  rw[e2];exact V
theorem JT(D:n<=40)(h:∀s,s<n->f s≠g s):gp n (sg n g) (sg n f) ((OV n).map (cS f)):=by
 have z:=EL D h n 0 (by omega);have e:sg n (gQ f g 0)=sg n f:=k9 λs hs=>by unfold gQ;rw[Uk (by omega)]
 rw[e]at z;have e2:((OV n).map λi=>cS f (0+i))=(OV n).map (cS f):=PB λi _=>by rw[Qh]
 rw[e2]at z;exact z
theorem EM(J:n<=40)(h:∀s,s<n->f s≠g s)(k:Nat->Bool):vS n (sg n g) (sg n f) (sg n k):=by
 have key:∀m,m<=n->vS n (sg n g) (sg n f) (sg n (gQ f k m)):=λm=>by
  induction m with
  |zero =>
   intro _;have e:sg n (gQ f k 0)=sg n f:=k9 λs hs=>by unfold gQ;rw[Uk (by omega)]
   rw[e];exact .refl
  |succ m G =>
   intro hm;have G:=G (by omega);by_cases c:k m=f m
   .have e:sg n (gQ f k (m+1))=sg n (gQ f k m):=k9 λs hs=>by
     unfold gQ;by_cases q:s=m
     .rw[Uo (by omega),Uk (by omega),q,c]
     by_cases D:s<m
     .rw[Uo (by omega),Uo D]
     rw[Uk (by omega),Uk D]
    rw[e];exact G
   have m0:gQ f k m m=f m:=by unfold gQ;rw[Uk (by omega)]
   obtain⟨O,U⟩:=A6 (f:=gQ f k m) (g:=g) J (show m<n by omega) (by rw[m0];exact h m (by omega));have V:k m=g m:=by
    have:=h m (by omega);cases Z:k m <;> cases D:f m <;> cases q3:g m <;> rw[Z,D]at c <;> rw[D,q3]at this <;> first|rfl|exact Us rfl c|exact Us rfl this
   have e:sg n (gQ f k (m+1))=sg n (put (gQ f k m) m (g m)):=k9 λs hs=>by
    unfold put gQ;by_cases q:s=m
    .rw[Uo (by omega),Uo q,q,V]
    rw[Uk q];by_cases D:s<m
    .rw[Uo (by omega),Uo D]
    rw[Uk (by omega),Uk D]
   rw[e,<-U];exact G.step (OO.mpr ⟨_,O,rfl⟩)
 have e:sg n (gQ f k n)=sg n k:=k9 λs hs=>by unfold gQ;rw[Uo hs]
 rw[<-e];exact key n (ON _)
theorem Ha(hn:n<=40)(O:aP n (sg n f) (sg n g)){w:List Nat}(h:vS n (sg n g) (sg n f) w):ak n w/\Sg n w/\aP n w (sg n g):=by
 have G:=fG (f:=g) hn;have S2:Sg n (sg n g):=λx D=>mm D
 induction h with
 |refl=>exact⟨fG hn,λx D=>mm D,O⟩
 | @step w v hw hv ih =>
  obtain⟨W,S1,O⟩:=ih;obtain⟨c,V,rfl⟩:=OO.mp hv;obtain⟨c1,c2,c3,c4⟩:=cO V;refine⟨dy W (by omega) c2 c3,λx D=>?_,eN (zR S1 S2) W G O V⟩;obtain⟨J,Z⟩:=eD W G;have A:=tE W G Z;have T:=bJ W G;have U:aB (ar w) (ar (sg n g)) c.1 c.2:=by
   rcases gD.mp (OZ.mp ((oY W G Z c).mpr V)).1 with⟨x,D,y,hy,e⟩|⟨th,ht,hs⟩|⟨x,D,e⟩
   .have m:c∈c6 (aV J .bare) (aV J .tied):=iy.mpr ⟨x,D,y,hy,e⟩;rw[nS ((cV W G Z).mp O)]at m;cases m
   .obtain⟨i,j,x,y,_,_,h1,h2,e⟩:=dz.mp hs;have U:=vM A ht (OP h1) (OP h2);by_cases le:x<=y
    .rw[eC le]at e;rw[e];exact U
    rw[gn,eC (by omega)]at e;rw[e];exact U.symm T (A.lt ht (OP h1))
   rw[e];exact aB.refl x
  rw[dw (by rw[W.len];exact D)];exact jN S1 S2 D (yg T (by omega) c2 U x)
theorem Sg.is{w:List Nat}(S:Sg n w)(W:ak n w):w=sg n λs=>decide (ar w (2*s)=2*s+1):=by
 refine jI (by rw[W.len,iO]) λx D=>?_;rw[W.len]at D;rw[fo D];have G:2*(x/2)<2*n:=by omega
 have U:fl (2*(x/2))=2*(x/2)+1:=by unfold fl;rw[Uo (by omega)]
 have J:=S _ G;rw[U]at J;have V:=W.wk.inv _ G;have O:=S x D;have ix:=W.wk.inv x D;by_cases c:ar w (2*(x/2))=2*(x/2)+1
 .rw[Uo (Ul c)];rcases O with q|q
  .exfalso;by_cases p:x%2=0
   .rw[show 2*(x/2)=x by omega]at c;omega
   rw[c,show 2*(x/2)+1=x by omega,q]at V;omega
  exact q
 rw[Uk (by rw[Up c];decide)];rcases O with q|q
 .exact q
 exfalso;have z:=J.resolve_right c;unfold fl at q;by_cases p:x%2=0
 .rw[Uo p]at q;rw[show 2*(x/2)=x by omega]at z;omega
 rw[Uk p]at q;rw[q,show x-1=2*(x/2) by omega,z]at ix;omega
end
theorem Mn:∀a b c d e:Bool,∃k∈OV 32,k.testBit 0=a/\k.testBit 1=b/\k.testBit 2=c/\k.testBit 3=d/\k.testBit 4=e:=by decide
noncomputable def ym:List (List Nat):=(OV 32).map λk=>sg 5 λs=>k.testBit s
theorem EN:ym.Nodup:=by decide +kernel
theorem Hb(f:Nat->Bool):sg 5 f∈ym:=by
 obtain⟨k,D,G,J,O,U,V⟩:=Mn (f 0) (f 1) (f 2) (f 3) (f 4);refine OO.mpr ⟨k,D,k9 λs hs=>?_⟩
 match s,hs with
 |0,_=>exact G
 |1,_=>exact J
 |2,_=>exact O
 |3,_=>exact U
 |4,_=>exact V
theorem yn{f g:Nat->Bool}(D:aP 5 (sg 5 f) (sg 5 g)){L:List (List Nat)}(nd:L.Nodup)(h:∀w∈L,vS 5 (sg 5 g) (sg 5 f) w):L.length<=32:=by
 have z:=sub_len nd (m:=ym) λw hw=>by
  obtain⟨W,S,_⟩:=Ha (by decide) D (h w hw);rw[S.is W];exact Hb _
 have:ym.length=32:=rfl;omega
theorem JU{f g:Nat->Bool}(ne:∀s,s<5->f s≠g s)(D:aP 5 (sg 5 f) (sg 5 g)){L:List (List Nat)}(nd:L.Nodup)(h:∀w,w∈L↔vS 5 (sg 5 g) (sg 5 f) w):L.length=32:=by
 have G:=yn D nd λw hw=>(h w).mp hw;have J:=sub_len EN (m:=L) λw hw=>by
  obtain⟨k,O,rfl⟩:=OO.mp hw;exact(h _).mpr (EM (by decide) ne _)
 have:ym.length=32:=rfl;omega
end gB
namespace L2
open PySem PySem.Spec PyProof.Rows
def Mo(K:OJ)(t:XK->TS)(c:Uj)(i:Nat)(tb tr:Uj->Um->TS)(tn:TS):TS:=λD σ H=>∃E:XK,t E { nx:=λG H'=>tn D G H',rt:=D.rt } σ H/\∀cls H',E cls none H'->RH K cls c=Ya true /\
 ∀a,H' a=none->tb cls a { nx:=λG J=>tr cls a D (G.set i none) J,rt:=D.rt } (σ.set i (Ya (.ref a))) H'
theorem EO{X:Cx}{body rest:List Vp}{Mp pos np:VL}{x n:UI}{b₀:Vp}{suite:List Vp}{t:XK->TS}{C:Um}{i:Nat}{tb tr:Uj->Um->TS}{tn:TS}(O:Own X)(hN:X.N.Nodup)(hi:X.N[i]?=Ya n)(JV:X.env.scope.names.lookup n=Ya .local)
  (hm:X.mg x=Ya (.ref C)) (hc:Kq X body t) (J:∀cls a U,U.cls=cls->mX (i0 X a U) (b₀::suite) (tb cls a)) (hR:∀cls a U,U.cls=cls->mX (qy X a U) rest (tr cls a)) (hn:mX X rest tn) (hg:Gl X x:=by rfl) (I0:(x==("__debug__":UI))=false:=by decide) :
  mX X (.Try body [.ExceptHandler (Ya (.Name x np)) (Ya n) (b₀::suite) Mp] [] [] pos::rest) (Mo X.K t (.ref C) i tb tr tn):=by
 intro pins s σ H D I h;obtain⟨E,Mq,JW⟩:=h;have Ik:(X.env.scope.kind == .class||(X.env.scope.kind == .module&&X.env.locals != X.env.globals))=false:=by rw[I.ok.kind];rfl
 have Cf:X.A.frames=Ya (X.env::X.outer):=by rw[<-O.top];exact O.ok.frames
 refine Vr (wpAny_Try_except (UX (hc E pins s σ H _ I Mq) (λf s1 q=>?_) λe s' hx=>?_))
 .cases f with
  |next=>obtain⟨σ1,H1,I1,z⟩:=q;exact U9 (hn pins s1 σ1 H1 D I1 z)
  |brk=>obtain⟨_,_,_,z⟩:=q;exact z.elim
  |cont=>obtain⟨_,_,_,z⟩:=q;exact z.elim
  |ret v=>exact q
 obtain⟨H1,s1,I1,a,cls,H',B,rfl,x0,hE⟩:=hx;obtain⟨aaI,JX⟩:=JW cls H' hE;have st:=x0.Kp;rw[O.top]at st;have qM:∀b∈lX X.stack,b∉([]:List Um):=λb _=>by simp
 refine rE Cf O.fr st λh4 a0 k4 u4=>?_;have x4:=x0.move (l':=X.stack) u4 (by rw[O.top];exact⟨a0,.inr (.inr ⟨_,_,_,rfl,O.fr,k4⟩)⟩) (λb J=>J) (λb o _ J=>J) qM;refine wpAny_landsW (s:={ s' with heap:=h4 }) k4 λh5 k5 u5=>?_;have x5:=x4.move (l':=X.stack) u5 (by rw[O.top];exact⟨a0,.inr (.inl k5)⟩) (λb J=>J) (λb o _ J=>J) qM;have I5:Inv X pins σ H' { s' with heap:=h5 }:=I1.Cz (ch:=[]) x5.os x5.un x5.bM x5.bare λb J=>Us J (by simp);have mk:∀{h6:UH},Heap.FlyingW B (X.env::X.outer) a cls a0 h6->IY X.prog X.w X.stack [] H1 s1 B a cls H' { s' with heap:=h6 }->∃U,h6.get? a=Ya U/\U.cls=cls/\Inv (i0 X a U) pins σ H' { s' with heap:=h6 }:=λ{h6} k6 x6=>by
  obtain⟨U,vs,e1,e2,e3,_⟩:=k6.first
  have I6:Inv X pins σ H' { s' with heap:=h6 }:=I1.Cz (ch:=[]) x6.os x6.un x6.bM x6.bare λb J=>Us J (by simp);refine⟨U,e1,e2,I6.suite e1 x6.na (λz=>?_) (λz=>?_) λv z=>by rw[e3]at z;cases z⟩
  .obtain⟨m,⟨o',es,ep,G,LJ,_⟩,_⟩:=I6.loc;rw[<-z]at G;have G:h6.get? a=Ya o':=G;rw[e1]at G;cases G;rw[e3]at LJ;cases LJ
  obtain⟨_,o',G,LJ⟩:=I6.mA.mem z;have G:h6.get? a=Ya o':=G;rw[e1]at G;cases G;exact LJ _ e3
 obtain⟨oe5,e51,e52,J5⟩:=mk k5 x5;refine wpAny_handleBy_cons (codeAny_handlers_test (mY (X:=i0 X a oe5) J5 hg hm ?_ I0)) (by intro q;cases q);have LT:Ta (model X.prog X.w) h5 (typeOf (.ref a)) cls:=by
  have z:Ta (model X.prog X.w) h5 (typeOf (.ref a)) oe5.cls:=(Ta.ld (M:=model X.prog X.w) e51).andThen .now;rw[e52]at z;exact z
 refine(PySem.W.exm_one (M:=model X.prog X.w) (h:=h5) I5.Be LT aaI).at ?_;show VX _ _ _ _ _;refine codeAny_handlers_suite_as ?_;refine lands_againW (s:={ s' with heap:=h5 }) k5 λh6 k6 u6=>?_;have x6:=x5.move (l':=X.stack) u6 (by rw[O.top];exact⟨a0,.inr (.inl k6)⟩) (λb J=>J) (λb o _ J=>J) qM;obtain⟨U,e61,e62,J6⟩:=mk k6 x6;refine mW (X:=i0 X a U) (i:=i) (v:=.ref a) J6 hN hi (.inl JV) rfl (λs7 J7=>?_) (.inr JV);refine mF (J cls a U e62 pins s7 _ H' _ J7 (JX a x6.na)) λf s8 q8=>?_;have go:∀{V:St} {H8:Hp} {Q8:Unit->Uq->Prop},Inv (i0 X a U) pins V H8 s8->(∀s9,Inv (qy X a U) pins (V.set i none) H8 s9->Q8 () s9)->wpAny (model X.prog X.w) X.A (do bindName X.env n .none;unbindBehindTheSuite X.env n Mp) Q8 X.xe s8:=λ{V H8 Q8} J8 hq=>by
  have I8:=J8.Jd O.ok;obtain⟨m,hn,_⟩:=id I8.loc;refine wpAny_nameGoes_keeps JV hn Ik λh9 v hn9 hs9=>?_;refine hq _ (I8.Jb (h':=h9) (m':=m) (t':=s8.toks+1) hN hi (λm2 hn2=>?_) hs9);have em:m2=m:=by
   obtain⟨o1,es1,ep1,g1,g2,g3,g4⟩:=hn;obtain⟨o2,es2,ep2,j1,j2,j3,j4⟩:=hn2;rw[g1]at j1;cases j1;rw[g2]at j2;cases j2;funext y;rw[<-g4 y,<-j4 y]
  subst em;exact⟨v,hn9⟩
 cases f with
 |next =>
  obtain⟨V,H8,J8,q8⟩:=q8;refine go J8 λs9 I9=>?_;refine UX (hR cls a U e62 pins s9 _ H8 D I9 q8) (λf' s' q'=>?_) λ_ _ x=>x;cases f' with
  |next=>obtain⟨Z,H',I',q⟩:=q';exact⟨Z,H',I'.nD O.ok,q⟩
  |brk=>obtain⟨Z,H',I',q⟩:=q';exact⟨Z,H',I'.nD O.ok,q⟩
  |cont=>obtain⟨Z,H',I',q⟩:=q';exact⟨Z,H',I'.nD O.ok,q⟩
  |ret u=>obtain⟨v,Z,H',I',r,q⟩:=q';exact⟨v,Z,H',I'.nD O.ok,r,q⟩
 |brk=>obtain⟨V,H8,J8,q8⟩:=q8;exact q8.elim
 |cont=>obtain⟨V,H8,J8,q8⟩:=q8;exact q8.elim
 |ret u =>
  obtain⟨v8,V,H8,J8,r8,q8⟩:=q8;exact go J8 λs9 I9=>⟨v8,_,H8,I9.nD O.ok,r8,q8⟩
end L2
namespace aI
open PySem L2 gB
def Rf(way n:Nat)(ms os:List Nat):Prop:=(way<3->sP n ms os)/\(way=3->5<aC n ms os)
def pK:Sp:=λD H Q _=>∃(a b:Um) (way n m:Nat) (x:Int) (ms os:List Nat),D=[.int (way:Nat),.ref a,.ref b,.int x]/\way<=3/\n<=20/\H a=Ya (.tup (nV ms))/\ak n ms/\H b=Ya (.tup (nV os))/\os.length=2*m /\
  ((n≠m/\∀(l:Um) (H':Hp),aE H H'->H' l=Ya (.lst [.bl false,.bl true,.bl true,.bl false])->Q (.ref l) H') \/
   (n=m/\ak n os/\Rf way n ms os/\∀(l:Um) (H':Hp),aE H H'->H' l=Ya (.lst [.bl true,.bl false,.bl true,.bl false])->Q (.ref l) H') \/
   (n=m/\ak n os/\way=0/\¬sP n ms os/\(aP n ms os \/ ∃B,Gd B n os ms)/\∀(l:Um) (H':Hp),aE H H'->H' l=Ya (.lst [])->Q (.ref l) H'))
end aI
namespace gB
open Th aI
theorem nW(f:Nat->Bool)(i:Nat):sg (i+1) f=sg i f++(if f i=true then[2*i+1,2*i]else[2*i,2*i+1]):=by
 unfold sg;rw[show 2*(i+1)=2*i+1+1 by omega,Qg,Qg,PM,O5];congr 1;show[if f (2*i/2)=true then fl (2*i)else 2*i,if f ((2*i+1)/2)=true then fl (2*i+1)else 2*i+1]=_;rw[show 2*i/2=i by omega,show(2*i+1)/2=i by omega];by_cases c:f i=true
 .rw[Uo c,Uo c,Uo c];unfold fl;rw[Uo (by omega),Uk (by omega)]
  rfl
 rw[Uk c,Uk c,Uk c]
end gB
namespace aI
open PySem L2 gB
noncomputable def pZ(t:Nat):Nat->Bool:=λs=>decide (s<t)
noncomputable def uJ(t:Nat):Nat->Bool:=λs=>!decide (s<t)
theorem HU(t:Nat):∀s,pZ t s≠uJ t s:=λs=>by unfold pZ uJ;cases decide (s<t) <;> decide
theorem ER(t:Nat):∀s,(pZ t s=true↔¬uJ t s=true):=λs=>by unfold pZ uJ;cases decide (s<t) <;> decide
def A7:Sp:=λD H Q _=>∃(t b:Nat),D=[.int (t:Nat),.int (b:Nat)]/\t+b<=20/\∀(r p q:Um) (H':Hp),aE H H'->H' r=Ya (.tup [.ref p,.ref q])->H' p=Ya (.tup (nV (sg (t+b) (pZ t))))->H' q=Ya (.tup (nV (sg (t+b) (uJ t))))->Q (.ref r) H'
def nX:Sp:=λG H Q _=>∃(a b l:Um) (D:List Nat) (n:Nat) (x:Int) (ms os:List Nat),G=[.ref a,.ref b,.ref l,.int x]/\n<=20/\H a=Ya (.tup (nV ms))/\ak n ms/\H b=Ya (.tup (nV os))/\ak n os/\H l=Ya (.lst (nV D))/\D.length<=4/\(∀w∈D,w<=3/\Rf w n ms os)/\∀H':Hp,aE H H'->Q (.bl true) H'
end aI
namespace L2
open PySem
theorem ES{K:OJ}{H:Hp}{p q:Um}{G J O U:Bool}(e1:H p=Ya (.lst [.bl G,.bl J,.bl O,.bl U]))(e2:H q=Ya (.lst [.bl G,.bl J,.bl O,.bl U])):HC K H 0 p q:=⟨_,_,aZ.of e1,aZ.of e2,rfl,λi u v D V=>by
 rw[D]at V;obtain rfl:=Option.some.inj V;refine⟨rfl,?_⟩
 match i,D with
 |0,D=>obtain rfl:=Option.some.inj D;rfl
 |1,D=>obtain rfl:=Option.some.inj D;rfl
 |2,D=>obtain rfl:=Option.some.inj D;rfl
 |3,D=>obtain rfl:=Option.some.inj D;rfl
 |i+4,D=>cases D⟩
end L2
namespace aI
open PySem L2 gB
theorem yo{t b:Nat}(h:t+b<=20):aP (t+b) (sg (t+b) (pZ t)) (sg (t+b) (uJ t))↔(t=0\/b=0):=by
 rw[B4 (by omega) (λs _=>ER t s)];unfold pZ;constructor
 .rintro(z|z)
  .by_cases c:b=0
   .exact .inr c
   have:=Uw (z t (by omega));omega
  by_cases c:t=0
  .exact .inl c
  exact Us (Ul (show 0<t by omega)) (z 0 (by omega))
 rintro(z|z)
 .exact .inr λs _ q=>by have:=Uw q;omega
 exact .inl λs hs=>Ul (by omega)
theorem ET(n:Nat)(f g:Nat->Bool):tF n (sg n f) (sg n g):=zR (λ_ D=>mm D) (λ_ D=>mm D)
theorem zS{t b:Nat}(h:t+b<=20):aC (t+b) (sg (t+b) (pZ t)) (sg (t+b) (uJ t))=t+b:=EK (by omega) λs _=>ER t s
theorem EU{t b:Nat}(h:t+b<=20):gp (t+b) (sg (t+b) (uJ t)) (sg (t+b) (pZ t)) (((OV t).map λs=>(2*s,2*s))++(OV b).map λs=>(2*(t+s),2*(t+s)+1)):=by
 have z:=JT (n:=t+b) (f:=pZ t) (g:=uJ t) (by omega) λs _=>HU t s;rw[List.range_add,O5,Pp]at z;have e1:(OV t).map (cS (pZ t))=(OV t).map λs=>(2*s,2*s):=PB λs hs=>by
  have:=OX.mp hs;unfold cS pZ;rw[Uo (Ul this)]
 have e2:(OV b).map (cS (pZ t) ∘ λx=>t+x)=(OV b).map λs=>(2*(t+s),2*(t+s)+1):=PB λs hs=>by
  show cS (pZ t) (t+s)=_;unfold cS pZ;rw[Uk (by rw[Up (by omega)];decide)]
 rw[e1,e2]at z;exact z
def EV(t b:Nat):Prop:=t+b<=13/\(¬(0<t/\0<b)->t+b<=5->t+b=5)
def EW:Sp:=λD H Q _=>∃(t b:Nat) (c:Int),D=[.int (t:Nat),.int (b:Nat),.int c]/\EV t b/\0<=c/\c<10 ^ 30/\∀H':Hp,aE H H'->Q (.bl true) H'
end aI
theorem aI.so{N G:Prop}(m:N->G)(x:N):G:=m x
theorem aI.zT{N:L2.Hp->Prop}{G:Prop}(D:L2.Hp)(m:(∀H',L2.aE D H'->N H')->G)(x:∀H',L2.aE D H'->N H'):G:=m x
set_option maxHeartbeats 2000000
open aI (nV aS ar cX ie gj vq nI nJ mJ qA bJ jm zd ks fL tf aC vB pf bQ eu vp oM hH bN vn iC bA vD iJ iz DX zt jL cy aP ky gK tx dF cO js eM dy jK oV lT iN si qI qH lR zD qG nT lS ak jb gq zJ qJ gP vP zG nU oI lL Rf pZ uJ nX sP so zT)
open gB (oZ wN vR gr eN BY cI kW zQ dS iK sg nW vS lZ)
open Th (dG eY cR km lH iG cN pA eA mn hG bU bq bB rA aV c6 bZ cU cT jJ cM gf lack)
open NK (AS)
open nF (Ci)
namespace Law
open PySem L2
noncomputable def top(i:Nat):Stmt:=PySem.Challenge.pw_claspwork_k30_too_far_apart.main.body.getD i (.Pass ⟨0,0,0,0⟩)
noncomputable abbrev gR:Stmt:=top 8
noncomputable abbrev d6:Stmt:=top 9
noncomputable abbrev fc:Stmt:=top 10
noncomputable abbrev eO:Stmt:=top 12
noncomputable abbrev d7:Stmt:=top 13
noncomputable abbrev dJ:Stmt:=top 14
noncomputable abbrev dU:Stmt:=top 15
noncomputable abbrev gv:Stmt:=top 16
noncomputable abbrev gx:Stmt:=top 17
noncomputable abbrev fe:Stmt:=top 19
noncomputable abbrev eP:Stmt:=top 20
noncomputable abbrev c7:Stmt:=top 21
noncomputable abbrev gS:Stmt:=top 22
noncomputable abbrev gT:Stmt:=top 23
noncomputable abbrev eQ:Stmt:=top 24
noncomputable abbrev iP:Stmt:=top 25
noncomputable abbrev cC:Stmt:=top 27
noncomputable abbrev jt:Stmt:=top 28
noncomputable abbrev di:Stmt:=top 29
noncomputable abbrev dA:Stmt:=top 30
noncomputable abbrev cW:Stmt:=top 31
noncomputable abbrev d9:Stmt:=top 36
noncomputable abbrev bL:Stmt:=top 37
noncomputable abbrev c8:Stmt:=top 38
noncomputable abbrev fN:Stmt:=top 39
noncomputable abbrev cD:Stmt:=top 40
noncomputable abbrev dB:Stmt:=top 41
noncomputable abbrev c9:Stmt:=top 42
noncomputable abbrev gF:Stmt:=top 43
noncomputable abbrev fO:Stmt:=top 44
noncomputable abbrev dC:Stmt:=top 45
noncomputable abbrev dD:Stmt:=top 47
noncomputable abbrev iD:Stmt:=top 48
noncomputable abbrev de:Stmt:=top 49
noncomputable abbrev fy:Stmt:=top 51
noncomputable abbrev gU:Stmt:=top 52
noncomputable abbrev ir:Stmt:=top 53
noncomputable abbrev fP:Stmt:=top 54
noncomputable abbrev gW:Stmt:=top 55
noncomputable abbrev i4:Stmt:=top 56
noncomputable abbrev i5:Stmt:=top 57
noncomputable abbrev i6:Stmt:=top 58
noncomputable abbrev fz:Stmt:=top 59
noncomputable abbrev gX:Stmt:=top 60
noncomputable abbrev dj:Stmt:=top 61
noncomputable abbrev fH:Stmt:=top 62
noncomputable abbrev EX:Stmt:=top 63
theorem vX:aN ["work"] ["work"] (aD gR):=⟨rfl,rfl,rfl,by decide +kernel,rfl,by decide +kernel,by decide +kernel⟩
theorem o5:aN ["one","other"] ["one","other"] (aD d6):=⟨rfl,rfl,rfl,by decide +kernel,rfl,by decide +kernel,by decide +kernel⟩
theorem tG:aN ["work"] ["work"] (aD fc):=⟨rfl,rfl,rfl,by decide +kernel,rfl,by decide +kernel,by decide +kernel⟩
theorem jO:aN ["work","deed","low","high"] ["work","deed"] (aD eO):=⟨rfl,rfl,rfl,by decide +kernel,rfl,by decide +kernel,by decide +kernel⟩
theorem o6:aN ["work","deed"] ["work","deed"] (aD d7):=⟨rfl,rfl,rfl,by decide +kernel,rfl,by decide +kernel,by decide +kernel⟩
theorem jP:aN ["work","deed","mates","freed"] ["work","deed"] (aD dJ):=⟨rfl,rfl,rfl,by decide +kernel,rfl,by decide +kernel,by decide +kernel⟩
theorem tH:aN ["work","deed"] ["work","deed"] (aD dU):=⟨rfl,rfl,rfl,by decide +kernel,rfl,by decide +kernel,by decide +kernel⟩
theorem tI:aN ["mates","one","other"] ["mates","one","other"] (aD gv):=⟨rfl,rfl,rfl,by decide +kernel,rfl,by decide +kernel,by decide +kernel⟩
theorem jc:aN ["work","deed","pair","freed"] ["work","deed"] (aD gx):=⟨rfl,rfl,rfl,by decide +kernel,rfl,by decide +kernel,by decide +kernel⟩
theorem fQ:aN ["one","other","found","seen","kind","ends","end","ring"] ["one","other"] (aD fe):=⟨rfl,rfl,rfl,by decide +kernel,rfl,by decide +kernel,by decide +kernel⟩
theorem df:aN ["one","other","found","end","ends"] ["one","other"] (aD eP):=⟨rfl,rfl,rfl,by decide +kernel,rfl,by decide +kernel,by decide +kernel⟩
theorem fg:aN ["start","first","second","ends","onward"] ["start","first","second"] (aD c7):=⟨rfl,rfl,rfl,by decide +kernel,rfl,by decide +kernel,by decide +kernel⟩
theorem nY:aN ["seen","ends","end"] ["seen","ends"] (aD gS):=⟨rfl,rfl,rfl,by decide +kernel,rfl,by decide +kernel,by decide +kernel⟩
theorem vY:aN ["thread"] ["thread"] (aD gT):=⟨rfl,rfl,rfl,by decide +kernel,rfl,by decide +kernel,by decide +kernel⟩
theorem j5:aN ["one","other","kinds"] ["one","other"] (aD eQ):=⟨rfl,rfl,rfl,by decide +kernel,rfl,by decide +kernel,by decide +kernel⟩
theorem yp:aN ["one","other"] ["one","other"] (aD iP):=⟨rfl,rfl,rfl,by decide +kernel,rfl,by decide +kernel,by decide +kernel⟩
theorem cJ:aN ["one","other","laid","bare","tied","pairs","kind","ends"] ["one","other"] (aD cC):=⟨rfl,rfl,rfl,by decide +kernel,rfl,by decide +kernel,by decide +kernel⟩
theorem jQ:aN ["laid","kind","found","told","ends"] ["laid","kind"] (aD jt):=⟨rfl,rfl,rfl,by decide +kernel,rfl,by decide +kernel,by decide +kernel⟩
theorem dW:aN ["ends","pairs","place","end"] ["ends"] (aD di):=⟨rfl,rfl,rfl,by decide +kernel,rfl,by decide +kernel,by decide +kernel⟩
theorem gy:aN ["bare","tied","pairs","end"] ["bare","tied"] (aD dA):=⟨rfl,rfl,rfl,by decide +kernel,rfl,by decide +kernel,by decide +kernel⟩
theorem p0:aN ["end","mate"] ["end","mate"] (aD cW):=⟨rfl,rfl,rfl,by decide +kernel,rfl,by decide +kernel,by decide +kernel⟩
theorem sr:aN ["one","other"] ["one","other"] (aD d9):=⟨rfl,rfl,rfl,by decide +kernel,rfl,by decide +kernel,by decide +kernel⟩
theorem hJ:aN ["one","other","crossing"] ["one","other"] (aD bL):=⟨rfl,rfl,rfl,by decide +kernel,rfl,by decide +kernel,by decide +kernel⟩
theorem ju:aN ["most","one","other","apart"] ["most","one","other"] (aD c8):=⟨rfl,rfl,rfl,by decide +kernel,rfl,by decide +kernel,by decide +kernel⟩
theorem pM:aN ["laid","kinds"] ["laid"] (aD fN):=⟨rfl,rfl,rfl,by decide +kernel,rfl,by decide +kernel,by decide +kernel⟩
theorem fI:aN ["one","other","counts","laid","shape","behind"] ["one","other","counts"] (aD cD):=⟨rfl,rfl,rfl,by decide +kernel,rfl,by decide +kernel,by decide +kernel⟩
theorem j6:aN ["thread","half"] ["thread"] (aD dB):=⟨rfl,rfl,rfl,by decide +kernel,rfl,by decide +kernel,by decide +kernel⟩
theorem cP:aN ["lacks","rows","shuffled","lack"] ["lacks"] (aD c9):=⟨rfl,rfl,rfl,by decide +kernel,rfl,by decide +kernel,by decide +kernel⟩
theorem jR:aN ["many","chosen","found","step"] ["many","chosen"] (aD gF):=⟨rfl,rfl,rfl,by decide +kernel,rfl,by decide +kernel,by decide +kernel⟩
theorem i7:aN ["lack","rows","step"] ["lack"] (aD fO):=⟨rfl,rfl,rfl,by decide +kernel,rfl,by decide +kernel,by decide +kernel⟩
theorem cK:aN ["one","other","found","fresh","onward","work","deed"] ["one","other"] (aD dC):=⟨rfl,rfl,rfl,by decide +kernel,rfl,by decide +kernel,by decide +kernel⟩
theorem bt:aN ["one","other","number","counts","many","row","now","left","deed","behind","rows"] ["one","other","number"] (aD dD):=⟨rfl,rfl,rfl,by decide +kernel,rfl,by decide +kernel,by decide +kernel⟩
theorem jS:aN ["now","other","counts","ways","deed","behind"] ["now","other","counts"] (aD iD):=⟨rfl,rfl,rfl,by decide +kernel,rfl,by decide +kernel,by decide +kernel⟩
theorem bw:aN ["one","other","deeds","counts","number","now","low","high","ways","taken"] ["one","other","deeds"] (aD de):=⟨rfl,rfl,rfl,by decide +kernel,rfl,by decide +kernel,by decide +kernel⟩
theorem su:aN ["script","k"] ["script","k"] (aD fy):=⟨rfl,rfl,rfl,by decide +kernel,rfl,by decide +kernel,by decide +kernel⟩
theorem fh:aN ["flow","staves","mates","cell","one","other","end"] ["flow","staves"] (aD gU):=⟨rfl,rfl,rfl,by decide +kernel,rfl,by decide +kernel,by decide +kernel⟩
theorem jd:aN ["script","most","cut","staves"] ["script","most"] (aD ir):=⟨rfl,rfl,rfl,by decide +kernel,rfl,by decide +kernel,by decide +kernel⟩
theorem gY:aN ["one","other","end","known","ends","at","onward"] ["one","other","end","known"] (aD fP):=⟨rfl,rfl,rfl,by decide +kernel,rfl,by decide +kernel,by decide +kernel⟩
theorem dX:aN ["one","other","known","score","end","ends"] ["one","other"] (aD gW):=⟨rfl,rfl,rfl,by decide +kernel,rfl,by decide +kernel,by decide +kernel⟩
theorem vZ:aN ["one","other"] ["one","other"] (aD i4):=⟨rfl,rfl,rfl,by decide +kernel,rfl,by decide +kernel,by decide +kernel⟩
theorem fi:aN ["one","other","known","found","end","ends","sides"] ["one","other"] (aD i5):=⟨rfl,rfl,rfl,by decide +kernel,rfl,by decide +kernel,by decide +kernel⟩
theorem nZ:aN ["lacks","kinds"] ["lacks"] (aD i6):=⟨rfl,rfl,rfl,by decide +kernel,rfl,by decide +kernel,by decide +kernel⟩
theorem gz:aN ["way","one","other","number","signs","e"] ["way","one","other","number"] (aD fz):=⟨rfl,rfl,rfl,by decide +kernel,rfl,by decide +kernel,by decide +kernel⟩
theorem fj:aN ["tied","bare","one","other","stave","ring","alone"] ["tied","bare"] (aD gX):=⟨rfl,rfl,rfl,by decide +kernel,rfl,by decide +kernel,by decide +kernel⟩
theorem iQ:aN ["one","other","ways","number","way"] ["one","other","ways","number"] (aD dj):=⟨rfl,rfl,rfl,by decide +kernel,rfl,by decide +kernel,by decide +kernel⟩
theorem bc:aN ["tied","bare","cell","one","other","apart","mixed","many","due","size","deeds","found"] ["tied","bare","cell"] (aD fH):=⟨rfl,rfl,rfl,by decide +kernel,rfl,by decide +kernel,by decide +kernel⟩
theorem fS:aN ["script","edges","cell","edge","one","other","number","mixed","apart","far","more","way","refused"] ["script"] (aD EX):=⟨rfl,rfl,rfl,by decide +kernel,rfl,by decide +kernel,by decide +kernel⟩
structure Bl(mg:UI->Option Uj):Prop where
 «ValueError»:mg "ValueError" = none
 «enumerate»:mg "enumerate" = none
 «isinstance»:mg "isinstance" = none
 «len»:mg "len" = none
 «list»:mg "list" = none
 «max»:mg "max" = none
 «min»:mg "min" = none
 «range»:mg "range" = none
 «sorted»:mg "sorted" = none
 «sum»:mg "sum" = none
 «tuple»:mg "tuple" = none
section
variable {P:Ux}{w:UA}{K:OJ}{mg:UI->Option Uj}{base:UH}
theorem wa{f:Um}{D:Uz}(B:Bl mg)(F:Fn K mg "staves_in" gR ["work"] f D):aO P w K mg base dq 1 f D ["work"] (aI.xt K):=by
 refine F.fn.ok vX (λG H Q E h=>?_) (λJ A outer s H G Q E U h=>?_)
 .obtain⟨a,n,ms,rfl,_⟩:=h
  rfl
 obtain⟨a,n,ms,rfl,O,W,q⟩:=h;refine⟨_,aA (aU (aT dO (aL aH rfl B.len bD (ae (pv 0) af)) ao)),?_⟩;refine⟨_,rfl,a,_,rfl,.inr O,_,_,rfl,rfl,⟨by decide,by decide⟩,?_⟩;have e:(((nV ms).length:Nat):Int)/2=n:=by rw[aS,W.len];omega
 show Q (.int ((((nV ms).length:Nat):Int)/2)) H;rw[e];exact q
theorem o7{f D:Um}{G:Uz}(B:Bl mg)(Z:vi K mg "Unlike" D)(F:Fn K mg "refuse_unlike" d6 ["one","other"] f G):aO P w K mg base (gh P w) 1 f G ["one","other"] (aI.xG K D):=by
 refine F.fn.oF o5 (λJ H Q E h=>?_) (λO A outer s H J Q E hr h own=>?_)
 .obtain⟨a,b,n,m,ms,os,rfl,_⟩:=h
  rfl
 obtain⟨a,b,n,m,ms,os,rfl,U,W,V,hm,kg,kb⟩:=h;refine⟨_,aA (bS (aM qT (aL aH rfl B.len bD (ae (pv 0) af)) (aL aH rfl B.len bD (ae (pv 1) af)) (aQ _)) (aA (rF rfl Z (ae eg af))) bg),?_⟩;refine⟨_,rfl,a,_,rfl,.inr U,_,rfl,b,_,rfl,.inr V,rfl,_,rfl,?_⟩;rw[aS,aS,W.len,hm];by_cases c:n=m
 .subst c;exact Ly rfl (kg rfl)
 refine fu (λ_=>⟨by show 1<=Uu;decide,kb c⟩) (λz=>Us ?_ z);simp;omega
theorem tJ{f:Um}{fd:Uz}(B:Bl mg)(F:Fn K mg "loose_ends" fc ["work"] f fd):aO P w K mg base dq 1 f fd ["work"] (aI.Ax K):=by
 refine F.fn.ok tG (λvs H Q E h=>?_) (λje A outer s H vs Q E hr h=>?_)
 .obtain⟨a,n,ms,rfl,_⟩:=h
  rfl
 obtain⟨a,n,ms,rfl,hS,W,k⟩:=h;have Z:(["end","mate"]:List UI).Nodup:=by decide +kernel
 refine⟨_,aA (aU (eX (NC:=["end","mate"]) rfl (hV rfl (by decide +kernel) (by decide +kernel)) (xl rfl B.enumerate (ae (pv 0) af))
  (λ_ _ _ _=>jE (K:=K) (n:=2) rfl rfl (aX (aK (i:=0) Z rfl (Or.inl rfl)) (aX (aK (i:=1) Z rfl (Or.inl rfl)) dN))) (λ_ _ _ _=>iZ (aM fm (pv 0) (pv 1) (aQ _))) (λ_ _ _ _=>pv 0))),?_⟩
 refine⟨_,rfl,a,rfl,⟨_,hS⟩,λD hD=>?_⟩;refine Bv (K:=K) (a:=a) (xs:=nV ms) (λi σ O=>∃v0 v1:Option V,σ=[v0,v1]/\aE H O/\O D=Ya (.lst (nV ((OV i).filter λe=>e==ar ms e))))
  ⟨none,none,rfl,ai hD,ag⟩ (λi σ O _ ⟨_,_,_,J,_⟩=>J.tup hS) ?_ ?_
 .rintro i x t σ O hx ⟨v0,v1,rfl,J,G⟩ ht;obtain⟨m,hm,rfl⟩:=cX hx;have hi:i<2*n:=by have z:=(OI.mp hm).1;rw[W.len]at z;exact z
  have em:m=ar ms i:=by have z:=ie (ms:=ms) (e:=i) (by rw[W.len];exact hi);rw[hm]at z;exact Option.some.inj z
  have nDt:D≠t:=aW G ht;refine⟨t,_,rfl,br.of ag,rfl,_,_,rfl,_,_,rfl,rfl,?_⟩;refine⟨_,rfl,_,rfl,rfl,_,rfl,?_⟩;refine fu (λU=>?_) (λU=>?_)
  .have U:=Uw U;injection U with U;refine⟨_,rfl,_,by rw[aG nDt];exact G,aY ?_,_,_,rfl,(J.upd (J.free ht)).upd hD,?_⟩
   .rw[aS];have z:=Pm (λe=>e==ar ms e) (OV i);rw[OW]at z;have:=W.small;omega
   have e:(i==ar ms i)=true:=by rw[beq_iff_eq,<-em];omega
   rw[ag,Qg,O9,Pe (by exact e),Qo,gj]
  refine⟨_,_,rfl,J.upd (J.free ht),?_⟩;have e:¬(i==ar ms i)=true:=λz=>U (Ul (by rw[beq_iff_eq,<-em]at z;rw[z]));rw[aG nDt,G,Qg,O9,Pf (by exact e),Qo,Pj]
 rintro σ O ⟨v0,v1,rfl,J,G⟩;rw[aS,W.len]at G;exact k D O hD J G
theorem n0{f:Um}{Z:Uz}(B:Bl mg)(F:Fn K mg "fits_work" eO ["work","deed"] f Z):aO P w K mg base dq 1 f Z ["work","deed"] (vq K):=by
 refine F.fn.ok jO (λvs H Q E h=>?_) (λje A outer s H vs Q E hr h=>?_)
 .obtain⟨a,d,n,ms,p,q,rfl,_⟩:=h
  rfl
 obtain⟨a,d,n,ms,p,q,rfl,hS,W,hD,k⟩:=h;refine⟨_,ah (aJ (i:=2) jO.nd rfl (Or.inl rfl) (cg eo (pv 1) ao (λ_ _=>rfl)))
  (ah (aJ (i:=3) jO.nd rfl (Or.inl rfl) (cg eo (pv 1) ao (λ_ _=>rfl)))
  (ah (bS (mC (BC Af Af jW ao (pv 2) (pv 3) (aL aH rfl B.len bD (ae (pv 0) af)))) (aA (aU du)) bg)
  (aA (aU (eV qT (cg eo (pv 0) (pv 2) (λ_ _=>rfl)) (pv 3) (aQ _)))))),?_⟩
 refine⟨_,rfl,d,_,_,_,rfl,rfl,hD,rfl,?_⟩;refine⟨_,rfl,d,_,_,_,rfl,rfl,hD,rfl,?_⟩;have U:¬aI.Fits n ms p q->Q (.bl false) H:=λz=>by rw[Up z]at k;exact k
 refine⟨_,rfl,_,_,rfl,rfl,_,rfl,fu (λG=>?_) (λG=>?_)⟩
 .have G:0<=p:=Uw G;refine⟨_,rfl,_,_,rfl,rfl,_,rfl,fu (λJ=>?_) (λJ=>?_)⟩
  .have J:p<=q:=Uw J;refine⟨_,rfl,a,_,rfl,.inr hS,_,_,rfl,rfl,_,rfl,fu (λD=>?_) (λD=>?_)⟩
   .have D:¬q<((nV ms).length:Nat):=by simpa using D
    rw[aS,W.len]at D;exact U λz=>D (by have:=z.2.2.1;omega)
   have D:q<((nV ms).length:Nat):=by simpa using D
   rw[aS,W.len]at D;have hx:p=((p.toNat:Nat):Int):=by omega
   have O:=W.ix (e:=p.toNat) (by omega);rw[<-hx]at O;refine⟨_,rfl,_,rfl,a,_,_,_,rfl,rfl,hS,O,_,rfl,rfl,?_⟩;have e:decide (aI.Fits n ms p q)=!decide (V.int ((ar ms p.toNat:Nat):Int)=V.int q):=by
    by_cases c:((ar ms p.toNat:Nat):Int)=q
    .rw[Up (λz:aI.Fits n ms p q=>z.2.2.2 c),Ul (congrArg V.int c)];rfl
    rw[Ul (show aI.Fits n ms p q from⟨G,J,by omega,c⟩),Up (λz=>c (by injection z))];rfl
   rw[e]at k;exact k
  have J:¬p<=q:=λz=>J (Ul z);exact⟨_,rfl,Br (U λz=>J z.2.1)⟩
 have G:¬ 0<=p:=λz=>G (Ul z);exact⟨_,rfl,Br (U λz=>G z.1)⟩
theorem o8{f O C:Um}{U D:Uz}(B:Bl mg)(Z:vi K mg "BadDeed" C)(F:Fn K mg "refuse_misfit" d7 ["work","deed"] f U)(V:Fn K mg "fits_work" eO ["work","deed"] O D):aO P w K mg base (gh P w) 2 f U ["work","deed"] (aI.xF K C):=by
 have GF:aO P w K mg base dq 1 O D ["work","deed"] (vq K):=n0 B V;refine F.fn.oF o6 (λvs H Q E h=>?_) (λje A outer s H vs Q E G h own=>?_)
 .obtain⟨a,d,n,ms,p,q,rfl,_⟩:=h
  rfl
 obtain⟨a,d,n,ms,p,q,rfl,hS,W,hD,sp,sq,kg,kb⟩:=h;refine⟨_,aA (bS (mC (iE (bo GF V G (ae (pv 0) (ae (pv 1) af))))) (aA (rF rfl Z (ae (HB (vk (Je G.gd (G.lt 2 (by decide)) (pv 1) (vk Dq))) (by decide)) af))) bg),?_⟩;refine⟨_,rfl,_,rfl,a,d,n,ms,p,q,rfl,hS,W,br.of hD,_,rfl,?_⟩;by_cases c:aI.Fits n ms p q
 .rw[Ul c];exact m8 (kg c)
 rw[Up c];refine Br ⟨⟨_,rfl,rfl,⟨d,[p,q],rfl,hD,by show 2<=100;decide,λm J=>?_⟩,trivial⟩,λx=>⟨by show 1<=Uu;decide,kb c⟩⟩;rcases Pa.mp J with rfl|J
 .exact sp.log
 rw[OS.mp J];exact sq.log
theorem mq{f:Um}{fd:Uz}(F:Fn K mg "freed_ends" dU ["work","deed"] f fd):aO P w K mg base dq 1 f fd ["work","deed"] (nI K):=by
 refine F.fn.ok tH (λvs H Q E h=>?_) (λje A outer s H vs Q E hr h=>?_)
 .obtain⟨a,d,n,ms,p,q,rfl,_⟩:=h
  rfl
 obtain⟨a,d,n,ms,p,q,rfl,hS,W,hD,hp,hq,k⟩:=h;have nd2:(["end","work"]:List UI).Nodup:=by decide +kernel
 refine⟨_,aA (aU (eX (NC:=["end","work"]) rfl (jF (c:=s.heap.objs.size+1) (j:=0) rfl (by decide +kernel) (by decide +kernel) rfl rfl rfl rfl rfl) (yH (pv 1))
  (λ_ _ _ _=>aK (i:=0) nd2 rfl (Or.inl rfl)) (λ_ _ _ _=>iZ (aM qT (cg (Aw (K:=K) rfl) (pv 1) (pv 0) (λ_ _=>rfl)) (pv 0) (aQ _))) (λ_ _ _ _=>cg (Aw (K:=K) rfl) (pv 1) (pv 0) (λ_ _=>rfl)))),?_⟩
 refine⟨_,rfl,d,rfl,⟨_,hD⟩,λD O=>?_⟩;refine xm (K:=K) (a:=d) (xs:=nV [p,q]) (λi σ U=>∃v0:Option V,σ=[v0,Ya (.ref a)]/\aE H U/\U D=Ya (.lst (nV ((([p,q].take i).filter λe=>!decide (ar ms e=e)).map (ar ms)))))
  ⟨none,rfl,ai O,ag⟩ (λi σ U _ ⟨_,_,G,_⟩=>G.tup hD) ?_ ?_
 .rintro i x σ U hx ⟨v0,rfl,G,h2⟩;obtain⟨e,he,rfl⟩:=cX hx;have hi:i<2:=(OI.mp he).1;have Z:e<2*n:=by
   rcases Pa.mp (OP he)with rfl|z
   .exact hp
   rw[OS.mp z];exact hq
  have hlen:((([p,q].take i).filter λe=>!decide (ar ms e=e)).map (ar ms)).length<=2:=by
   rw[OH];refine PD (Pm _ _) ?_;rw[Pu];exact Nat.min_le_right _ _
  refine⟨_,rfl,_,rfl,a,_,_,_,rfl,rfl,G.tup hS,W.ix Z,_,rfl,rfl,_,rfl,?_⟩;rw[aI.take_snoc he,O9,O5];refine fu (λJ=>?_) (λJ=>?_)
  .have J:ar ms e≠e:=λz=>by rw[z]at J;simp at J
   refine⟨_,rfl,_,rfl,a,_,_,_,rfl,rfl,G.tup hS,W.ix Z,_,h2,aY (by rw[aS];omega),_,rfl,G.upd O,?_⟩;rw[ag];simp[J,nV]
  have J:ar ms e=e:=by
   by_cases z:ar ms e=e
   .exact z
   exact Us (by simp;omega) J
  refine⟨_,rfl,G,?_⟩;rw[h2];simp[J]
 rintro σ U ⟨v0,rfl,G,h2⟩;exact k D U O G h2
theorem tK{f:Um}{D:Uz}(F:Fn K mg "clasp_ends" gv ["mates","one","other"] f D):aO P w K mg base dq 1 f D ["mates","one","other"] nJ:=by
 refine F.fn.ok tI (λJ H Q E h=>?_) (λO A outer s H J Q E V h=>?_)
 .obtain⟨l,ms,p,q,rfl,_⟩:=h
  rfl
 obtain⟨l,ms,p,q,rfl,U,hp,Z,k⟩:=h;refine⟨_,ah (kA (pv 2) (oy (pv 0) (pv 1) set_list)) (aA (kA (pv 1) (oy (pv 0) (pv 2) set_list))),?_⟩;refine⟨_,rfl,_,rfl,_,rfl,l,_,_,_,rfl,rfl,U,oz (QT _) (by rw[aS];omega),?_⟩;rw[Pq,mJ];refine⟨_,rfl,_,rfl,_,rfl,l,_,_,_,rfl,rfl,ag,oz (QT _) (by rw[aS,PR];omega),?_⟩;rw[Pq,mJ];exact k _ ag λb G=>by rw[aG G,aG G]
theorem jv{f:Um}{fd:Uz}(B:Bl mg)(F:Fn K mg "walked_thread" c7 ["start","first","second"] f fd):aO P w K mg base dq 1 f fd ["start","first","second"] (qA K):=by
 refine F.fn.ok fg (λvs H Q E h=>?_) (λje A outer s H vs Q E hr h=>?_)
 .obtain⟨a,b,n,ms,os,st,rfl,_⟩:=h
  rfl
 obtain⟨a,b,n,ms,os,st,rfl,hS,W,hO,WO,D,bM,k⟩:=h;have T:=bJ W WO;have Ck:=W.small;refine⟨_,(ah (aJ (i:=3) fg.nd rfl (Or.inl rfl) (bP (ae (pv 0) af)))
  (ah (aJ (i:=4) fg.nd rfl (Or.inl rfl) (cg eo (pv 1) (pv 0) (λ_ _=>rfl)))
  (ah (m6 PassesOwn.never (Dy (R:=λσ H Q=>∃(l:Um) (ys:List V) (x y s:Nat),σ[4]?=Ya (Ya (.int x))/\σ[3]?=Ya (Ya (.ref l))/\H l=Ya (.lst ys)/\uV ys (-1)=Ya (.int y)/\σ[0]?=Ya (Ya (.int s))/\Q (decide (x≠y/\x≠s)) H) λσ H Q hR=>?tst) (ah (bh (d5 O7 Py Pz cF (pv 3) (ae (pv 4) af)))
  (aA (aJ (i:=4) fg.nd rfl (Or.inl rfl) (mZ (aM fm (aT eI (aL aH rfl B.len bD (ae (pv 3) af)) ao) ao (aQ _)) (cg eo (pv 2) (pv 4) (λ_ _=>rfl)) (cg eo (pv 1) (pv 4) (λ_ _=>rfl)))))))
  (aA (aU (b7 bK rfl B.tuple eL (ae (pv 3) af))))))),?_⟩
 case tst =>
  obtain⟨l,ys,x,y,st,e4,e3,hl,hy,e0,q⟩:=hR;refine⟨_,PW.pt (jz (aM qT (pv 4) (cg eE (pv 3) (z9 uR ao) (λ_ _=>rfl)) (aQ _)) (iX (aM qT (pv 4) (pv 0) (aQ _)))),?_⟩;refine⟨_,e4,_,e3,_,rfl,l,_,_,_,rfl,rfl,aZ.of hl,hy,rfl,_,rfl,?_⟩;by_cases c1:x=y
  .rw[Up (λz=>z.1 c1)]at q;have e:(!decide (V.int (x:Nat)=V.int (y:Nat)))=false:=by rw[Ul (by rw[c1])];rfl
   rw[e];exact q
  have e:(!decide (V.int (x:Nat)=V.int (y:Nat)))=true:=by rw[Up (λz=>c1 (by injection z with z;omega))];rfl
  rw[e];refine⟨_,e4,_,e0,rfl,_,rfl,?_⟩;by_cases c2:x=st
  .rw[Up (λz=>z.2 c2)]at q;have e:(!decide (V.int (x:Nat)=V.int (st:Nat)))=false:=by rw[Ul (by rw[c2])];rfl
   exact(congrArg (λb=>Q b H) e).mpr q
  rw[Ul ⟨c1,c2⟩]at q;have e:(!decide (V.int (x:Nat)=V.int (st:Nat)))=true:=by rw[Up (λz=>c2 (by injection z with z;omega))];rfl
  exact(congrArg (λb=>Q b H) e).mpr q
 refine⟨_,rfl,by show 1<=Uu;decide,λl hl=>?_⟩;have s0:aE H (upd H l (.lst [.int st])):=ai hl;refine⟨_,rfl,_,rfl,a,_,_,_,rfl,rfl,s0.tup hS,W.ix D,?_⟩;dsimp only[wU];unfold FE;dsimp only;refine qS (λσ H2=>∃m:Nat,σ=[Ya (.int st),Ya (.ref a),Ya (.ref b),Ya (.ref l),Ya (.int (dG (ar ms) (ar os) st (m+1):Nat))]/\aE H H2/\H2 l=Ya (.lst (nV (eY (ar ms) (ar os) st (m+1))))/\Th.Goes (ar ms) (ar os) st m)
  (λσ H2=>match H2 l with|some (.lst ys)=>2*n+1-ys.length|_=>0)
  ⟨0,rfl,s0,ag,⟨λi hi=>Us hi (Rx _),by rcases bM with z|z;exact .inl z;exact .inr λj h1 h2=>by omega⟩⟩ ?_ ?_
 .rintro σ H2 ⟨m,rfl,s2,J,G⟩;have hm:=Th.qx T D G;have sO:=Th.kG T D (m+1);have O:uV (nV (eY (ar ms) (ar os) st (m+1))) (-1)=Ya (.int (dG (ar ms) (ar os) st m:Nat)):=jm (by rw[Th.lG,List.getLast?_append];rfl);refine⟨l,_,_,_,st,rfl,rfl,J,O,rfl,?_⟩;refine fu (λh1=>?_) (λh1=>?_)
  .obtain⟨c1,c2⟩:=Uw h1;have G2:Th.Goes (ar ms) (ar os) st (m+1):=⟨λi hi=>by
    by_cases c:i=m
    .subst c;exact c1
    .exact G.mv i (by omega),by
    rcases G.rt with z|z
    .exact .inl z
    refine .inr λj h2 h3=>?_;by_cases c:j=m+1
    .subst c;exact c2
    exact z j h2 (by omega)⟩
   have hm2:=Th.qx T D G2;have wb:(nV (eY (ar ms) (ar os) st (m+1))).length=m+1:=by rw[aS,cR]
   refine⟨_,rfl,.inl ⟨rfl,_,aZ.of J⟩,_,rfl,l,_,_,rfl,rfl,J,aY (by rw[wb];omega),?_⟩;have s3:aE H (upd H2 l (.lst (nV (eY (ar ms) (ar os) st (m+1))++[.int (dG (ar ms) (ar os) st (m+1):Nat)]))):=s2.upd hl;have U:upd H2 l (.lst (nV (eY (ar ms) (ar os) st (m+1))++[.int (dG (ar ms) (ar os) st (m+1):Nat)])) l=Ya (.lst (nV (eY (ar ms) (ar os) st (m+2)))):=by rw[ag,Th.lG (m+1),gj]
   generalize upd H2 l (.lst (nV (eY (ar ms) (ar os) st (m+1))++[.int (dG (ar ms) (ar os) st (m+1):Nat)]))=H3 at s3 U⊢;have Z:(match H3 l with|some (.lst ys)=>2*n+1-ys.length|_=>0)<(match H2 l with|some (.lst ys)=>2*n+1-ys.length|_=>0):=by
    rw[U,J];show 2*n+1-(nV (eY (ar ms) (ar os) st (m+2))).length<2*n+1-(nV (eY (ar ms) (ar os) st (m+1))).length;rw[aS,aS,cR,cR];omega
   have Mr:((nV (eY (ar ms) (ar os) st (m+2))).length:Int)=m+2:=by rw[aS,cR];omega
   refine⟨_,rfl,l,_,rfl,.inl (aZ.of U),_,_,rfl,rfl,(by show(0:Int)<2;decide),rfl,_,rfl,?_⟩;refine fu (λh2=>?_) (λh2=>?_)
   .have p:m%2=0:=by
     have z:=Uw h2;injection z with z;rw[Mr]at z;omega
    have e:ar os (dG (ar ms) (ar os) st (m+1))=dG (ar ms) (ar os) st (m+2):=by
     show _=km _ _ (m+1) _;unfold km;rw[Uk (by omega)]
    refine⟨_,rfl,_,rfl,b,_,_,_,rfl,rfl,s3.tup hO,WO.ix sO,?_⟩;exact⟨⟨m+1,(by show _=[_,_,_,_,Ya (V.int (dG (ar ms) (ar os) st (m+2):Nat))];rw[<-e];rfl),s3,U,G2⟩,Z⟩
   have p:m%2=1:=by
    refine OU λz=>h2 (Ul ?_);show V.int (((nV (eY (ar ms) (ar os) st (m+2))).length:Int)%2)=V.int 0;rw[Mr];have z2:((m:Int)+2)%2=0:=by clear hr D bM T Ck s0 J hm sO O h1 c1 c2 G2 hm2 wb U Z h2;lia
    rw[z2]
   have e:ar ms (dG (ar ms) (ar os) st (m+1))=dG (ar ms) (ar os) st (m+2):=by
    show _=km _ _ (m+1) _;unfold km;rw[Uo (by clear hr D bM T Ck s0 J hm sO O h1 c1 c2 G2 hm2 wb U Z h2;lia)]
   refine⟨_,rfl,_,rfl,a,_,_,_,rfl,rfl,s3.tup hS,W.ix sO,?_⟩;exact⟨⟨m+1,(by show _=[_,_,_,_,Ya (V.int (dG (ar ms) (ar os) st (m+2):Nat))];rw[<-e];rfl),s3,U,G2⟩,Z⟩
  have hc:dG (ar ms) (ar os) st (m+1)=dG (ar ms) (ar os) st m\/dG (ar ms) (ar os) st (m+1)=st:=by
   refine OU λz=>h1 (Ul ⟨λe=>z (.inl e),λe=>z (.inr e)⟩)
  have ht:=Th.jC T D ⟨G,hc,bM⟩;exact⟨_,rfl,l,_,rfl,.inl J,λt H3 s3 h3=>k t H3 (s2.trans s3) (by rw[h3,ht])⟩
 rintro σ H2 R R' hR ⟨l,ys,x,y,s,e1,e2,e3,e4,e5,q⟩;exact⟨l,ys,x,y,s,e1,e2,e3,e4,e5,hR _ _ q⟩
theorem qb{f f1 f2:Um}{fd iu jw:Uz}(B:Bl mg)(F:Fn K mg "open_threads" eP ["one","other"] f fd)(J:Fn K mg "loose_ends" fc ["work"] f1 iu)(G:Fn K mg "walked_thread" c7 ["start","first","second"] f2 jw):aO P w K mg base dq 2 f fd ["one","other"] (zd K):=by
 have U:aO P w K mg base dq 1 f1 iu ["work"] (aI.Ax K):=tJ B J;have O:aO P w K mg base dq 1 f2 jw ["start","first","second"] (qA K):=jv B G;refine F.fn.ok df (λvs H Q E h=>?_) (λje A outer s H vs Q E hr h=>?_)
 .obtain⟨a,b,n,ms,os,rfl,_⟩:=h
  rfl
 obtain⟨a,b,n,ms,os,rfl,hS,W,hO,WO,k⟩:=h;have T:=bJ W WO;have Ck:=W.small;refine⟨_,(ah (aJ (i:=2) df.nd rfl (Or.inl rfl) (bP af))
  (ah (b6 PassesOwn.never rfl (bp (bo U J (hr.mono (by decide)) (ae (pv 0) af))) (aK (i:=3) df.nd rfl (Or.inl rfl)) (ah (aJ (i:=4) df.nd rfl (Or.inl rfl) (bo O G (hr.mono (by decide)) (ae (pv 3) (ae (pv 1) (ae (pv 0) af)))))
  (aA (bS (aM fm (aT eI (aL aH rfl B.len bD (ae (pv 4) af)) ao) ao (aQ _)) (aA (bh (d5 O7 Py Pz cF (pv 2) (ae (bC (ae eg (ae (pv 4) af))) af)))) (aA (bS (aM jW (pv 3) (cg eo (pv 4) (z9 uR ao) (λ_ _=>rfl)) (aQ _)) (aA (bh (d5 O7 Py Pz cF (pv 2) (ae (bC (ae eg (ae (pv 4) af))) af)))) bg))))))
  (ah (b6 PassesOwn.never rfl (bp (bo U J (hr.mono (by decide)) (ae (pv 1) af))) (aK (i:=3) df.nd rfl (Or.inl rfl)) (ah (aJ (i:=4) df.nd rfl (Or.inl rfl) (bo O G (hr.mono (by decide)) (ae (pv 3) (ae (pv 0) (ae (pv 1) af)))))
  (aA (bS (PW.pt (jz (aM fm (aT eI (aL aH rfl B.len bD (ae (pv 4) af)) ao) ao (aQ _)) (iX (aM jW (pv 3) (cg eo (pv 4) (z9 uR ao) (λ_ _=>rfl)) (aQ _))))) (aA (bh (d5 O7 Py Pz cF (pv 2) (ae (bC (ae eg (ae (pv 4) af))) af)))) bg))))
  (aA (aU (pv 2)))))),?_⟩
 refine⟨by show 0<=Uu;decide,λl hl=>?_⟩;have s0:aE H (upd H l (.lst [])):=ai hl;refine⟨_,rfl,a,n,ms,rfl,s0.tup hS,W,λla H1 hla s1 JY=>?_⟩;have Ms:=s0.trans s1;have Hc:H1 l=Ya (.lst []):=s1 _ _ ag;rw[aI.xH]at JY;have EY:∀M:Nat->Nat,(lH (2*n) M).length<=80:=λM=>by
  unfold lH;have z:=Pm (λe=>e==M e) (OV (2*n));rw[OW]at z;omega
 have nla:l≠la:=aW ag hla;have Ku:∀xs:List Nat,(nV xs).length=xs.length:=aS;refine⟨la,rfl,⟨_,aZ.of JY⟩,cw (K:=K) (a:=la) (xs:=nV (lH (2*n) (ar ms))) (λi σ H2=>∃v3 v4:Option V,σ=[Ya (.ref a),Ya (.ref b),Ya (.ref l),v3,v4]/\aE H H2/\H2 la=Ya (.lst (nV (lH (2*n) (ar ms))))/\aI.nK H2 l (iG (2*n) (ar ms) (ar os) ((lH (2*n) (ar ms)).take i)))
  ⟨none,none,rfl,Ms,JY,aI.nK.nil Hc⟩ (λi σ H2 _ ⟨_,_,_,_,h2,_⟩=>aZ.of h2) ?_ ?_⟩
 .rintro i y σ H2 hy ⟨v3,v4,rfl,s2,Mu,hT⟩;obtain⟨u,hu,rfl⟩:=cX hy;have hil:=(OI.mp hu).1;obtain⟨ul,au⟩:=Th.dv.mp (OP hu);refine⟨_,rfl,_,rfl,_,rfl,b,a,n,os,ms,u,rfl,s2.tup hO,WO,s2.tup hS,W,ul,.inl au,λe H3 s3 he=>?_⟩;have Mv:=s2.trans s3;have hTL:=Th.nu T.swap ul (.inl au);have B5:=hT.same s3;have Mw:=s3 _ _ Mu;have wb:((nV (cN (ar os) (ar ms) u)).length:Int)=(cN (ar os) (ar ms) u).length:=by rw[Ku]
  have hoA:=Th.oB (N:=2*n) (a:=ar ms) (b:=ar os) ((lH (2*n) (ar ms)).take i);rw[Pu]at hoA;have l80:=EY (ar ms);have add:∀(kd:Th.Kd) (D:Hp->Prop),pA (ar ms) (ar os) u->eA (ar ms) (ar os) u=(kd,cN (ar os) (ar ms) u)->∀Z,H3 Z=none ->
    (∃xs,upd H3 Z (.tup [.str (ks kd),.ref e]) l=Ya (.lst xs)/\xs.length<Uu/\aI.nK (upd (upd H3 Z (.tup [.str (ks kd),.ref e])) l (.lst (xs++[.ref Z]))) l (iG (2*n) (ar ms) (ar os) ((lH (2*n) (ar ms)).take (i+1))) /\
     aE H (upd (upd H3 Z (.tup [.str (ks kd),.ref e])) l (.lst (xs++[.ref Z])))/\upd (upd H3 Z (.tup [.str (ks kd),.ref e])) l (.lst (xs++[.ref Z])) la=Ya (.lst (nV (lH (2*n) (ar ms))))):=λkd D hp hE Z lh=>by
   have s4:aE H3 (upd H3 Z (.tup [.str (ks kd),.ref e])):=ai lh;obtain⟨xs,x1,x2,x3⟩:=(B5.same s4).snoc (t:=Z) (e:=e) (k:=kd) ag (s4 _ _ he);refine⟨xs,x1,aY (by rw[x2];omega),?_,(Mv.trans s4).upd hl,?_⟩
   .rw[aI.take_snoc hu,Th.rm,Uo hp,hE];exact x3
   rw[aG (Ne.symm nla)];exact s4 _ _ Mw
  refine⟨_,rfl,e,_,rfl,.inr (br.of he),_,_,rfl,rfl,(by show(0:Int)<2;decide),rfl,_,rfl,?_⟩;refine fu (λh1=>?_) (λh1=>?_)
  .have o:(cN (ar os) (ar ms) u).length%2=1:=by
    have z:=Uw h1;injection z with z;rw[wb]at z;omega
   obtain⟨vs,w1,_⟩:=B5.len;refine⟨_,rfl,.inl ⟨rfl,_,aZ.of w1⟩,_,rfl,by show 2<=Uu;decide,λZ lh=>?_⟩;obtain⟨xs,x1,x2,x3,x4,x5⟩:=add .odd (λ_=>True) (.inl o) (by unfold eA;rw[Uo o]) Z lh;exact⟨l,_,_,rfl,rfl,x1,x2,_,_,rfl,x4,x5,x3⟩
  have o:¬(cN (ar os) (ar ms) u).length%2=1:=λz=>h1 (Ul (by
   show V.int (((nV (cN (ar os) (ar ms) u)).length:Int)%2)=V.int 1;rw[wb];have z2:((cN (ar os) (ar ms) u).length:Int)%2=1:=by omega
   rw[z2]))
  have EZ:uV (nV (cN (ar os) (ar ms) u)) (-1)=Ya (.int (Th.bE (cN (ar os) (ar ms) u):Nat)):=jm (Th.rp hTL.1);refine⟨_,rfl,_,rfl,_,rfl,e,_,_,_,rfl,rfl,br.of he,EZ,_,_,rfl,rfl,_,rfl,?_⟩;refine fu (λh2=>?_) (λh2=>?_)
  .have h2:=Uw h2;obtain⟨vs,w1,_⟩:=B5.len;refine⟨_,rfl,.inl ⟨rfl,_,aZ.of w1⟩,_,rfl,by show 2<=Uu;decide,λZ lh=>?_⟩;obtain⟨xs,x1,x2,x3,x4,x5⟩:=add .bare (λ_=>True) (.inr (by omega)) (by unfold eA;rw[Uk o]) Z lh;exact⟨l,_,_,rfl,rfl,x1,x2,_,_,rfl,x4,x5,x3⟩
  have h2:¬pA (ar ms) (ar os) u:=λz=>by
   rcases z with z|z
   .exact o z
   exact h2 (Ul (by omega))
  refine⟨_,_,rfl,Mv,Mw,?_⟩;rw[aI.take_snoc hu,Th.rm,Uk h2,Pj];exact B5
 rintro σ H2 ⟨v3,v4,rfl,s2,Mu,hT⟩;rw[Ku,Pc]at hT;refine⟨_,rfl,b,n,os,rfl,s2.tup hO,WO,λlb H3 hlb s3 JZ=>?_⟩;rw[aI.xH]at JZ;have sv:=s2.trans s3;have B5:=hT.same s3;obtain⟨Kv,w0,_⟩:=hT.len;have nlb:l≠lb:=aW w0 hlb;refine⟨lb,rfl,⟨_,aZ.of JZ⟩,cw (K:=K) (a:=lb) (xs:=nV (lH (2*n) (ar os))) (λi σ H4=>∃v3 v4:Option V,σ=[Ya (.ref a),Ya (.ref b),Ya (.ref l),v3,v4]/\aE H H4/\H4 lb=Ya (.lst (nV (lH (2*n) (ar os))))/\aI.nK H4 l (iG (2*n) (ar ms) (ar os) (lH (2*n) (ar ms))++Th.jZ (2*n) (ar ms) (ar os) ((lH (2*n) (ar os)).take i)))
  ⟨_,_,rfl,sv,JZ,by show aI.nK H3 l (_++[]);rw[Pj];exact B5⟩ (λi σ H4 _ ⟨_,_,_,_,h2,_⟩=>aZ.of h2) ?_ ?_⟩
 .rintro i y σ H4 hy ⟨v3,v4,rfl,s4,Mx,wO⟩;obtain⟨u,hu,rfl⟩:=cX hy;have hil:=(OI.mp hu).1;obtain⟨ul,au⟩:=Th.dv.mp (OP hu);refine⟨_,rfl,_,rfl,_,rfl,a,b,n,ms,os,u,rfl,s4.tup hS,W,s4.tup hO,WO,ul,.inl au,λe H5 s5 he=>?_⟩;have Kw:=s4.trans s5;have hTL:=Th.nu T ul (.inl au);have hT5:=wO.same s5;have J0:=s5 _ _ Mx;have wb:((nV (cN (ar ms) (ar os) u)).length:Int)=(cN (ar ms) (ar os) u).length:=by rw[Ku]
  have hoA:=Th.oB (N:=2*n) (a:=ar ms) (b:=ar os) (lH (2*n) (ar ms));have hoB:=Th.ua (N:=2*n) (a:=ar ms) (b:=ar os) ((lH (2*n) (ar os)).take i);rw[Pu]at hoB;have l80:=EY (ar ms);have afY:=EY (ar os);have skip:¬Th.pB (ar ms) (ar os) u->aI.nK H5 l (iG (2*n) (ar ms) (ar os) (lH (2*n) (ar ms))++Th.jZ (2*n) (ar ms) (ar os) ((lH (2*n) (ar os)).take (i+1))):=λh2=>by
   rw[aI.take_snoc hu,Th.rn,Uk h2,Pj];exact hT5
  refine⟨_,rfl,e,_,rfl,.inr (br.of he),_,_,rfl,rfl,(by show(0:Int)<2;decide),rfl,_,rfl,?_⟩;refine fu (λh1=>?_) (λh1=>?_)
  .have o:(cN (ar ms) (ar os) u).length%2=0:=by
    have z:=Uw h1;injection z with z;rw[wb]at z;omega
   have EZ:uV (nV (cN (ar ms) (ar os) u)) (-1)=Ya (.int (Th.bE (cN (ar ms) (ar os) u):Nat)):=jm (Th.rp hTL.1);refine⟨_,rfl,_,rfl,_,rfl,e,_,_,_,rfl,rfl,br.of he,EZ,_,_,rfl,rfl,_,rfl,?_⟩;refine fu (λh2=>?_) (λh2=>?_)
   .have h2:=Uw h2;obtain⟨vs,w1,_⟩:=hT5.len;refine⟨_,rfl,.inl ⟨rfl,_,aZ.of w1⟩,_,rfl,by show 2<=Uu;decide,λZ lh=>?_⟩;have s6:aE H5 (upd H5 Z (.tup [.str (ks .tied),.ref e])):=ai lh;obtain⟨xs,x1,x2,x3⟩:=(hT5.same s6).snoc (t:=Z) (e:=e) (k:=.tied) ag (s6 _ _ he);refine⟨l,_,_,rfl,rfl,x1,aY (by rw[x2,OQ];omega),_,_,rfl,(Kw.trans s6).upd hl,?_,?_⟩
    .rw[aG (Ne.symm nlb)];exact s6 _ _ J0
    rw[aI.take_snoc hu,Th.rn,Uo ⟨o,by omega⟩,<-PM];exact x3
   exact⟨_,_,rfl,Kw,J0,skip λz=>h2 (Ul (by have:=z.2;omega))⟩
  refine m8 ⟨_,_,rfl,Kw,J0,skip λz=>h1 (Ul ?_)⟩;show V.int (((nV (cN (ar ms) (ar os) u)).length:Int)%2)=V.int 0;rw[wb];have z2:((cN (ar ms) (ar os) u).length:Int)%2=0:=by have:=z.1;omega
  rw[z2]
 rintro σ H4 ⟨v3,v4,rfl,s4,Mx,wO⟩;rw[Ku,Pc]at wO;exact⟨_,rfl,k l H4 hl s4 wO⟩
theorem wc{f:Um}{fd:Uz}(F:Fn K mg "mark_ends" gS ["seen","ends"] f fd):aO P w K mg base dq 1 f fd ["seen","ends"] aI.AF:=by
 refine F.fn.ok nY (λvs H Q E h=>?_) (λje A outer s H vs Q E hr h=>?_)
 .obtain⟨d,e,kv,L,rfl,_⟩:=h
  rfl
 obtain⟨d,c,kv,L,rfl,hd,he,hlen,k⟩:=h;have hu:=jY hr;have ne:c≠d:=λz=>by rw[z,hd]at he;cases he
 refine⟨_,(aA (b6 PassesOwn.never rfl (yH (pv 1)) (aK (i:=2) nY.nd rfl (Or.inl rfl)) (aA (qv hu (pv 0) (pv 2) du rfl)))),?_⟩;refine⟨_,rfl,c,rfl,⟨_,br.of he⟩,FH (K:=K) (a:=c) (xs:=nV L) (λi σ U=>∃(v:Option V) (D:List (Key×V)),σ=[Ya (.ref d),Ya (.ref c),v]/\(∀b o,b≠d->H b=Ya o->U b=Ya o)/\U d=Ya (.dK D) /\
   D.length<=kv.length+i/\∀j:Nat,(bX D (Sum.inl (j:Int):Key)).isSome=true↔(bX kv (Sum.inl (j:Int):Key)).isSome=true\/j∈L.take i)
  ⟨none,kv,rfl,λb o _ e=>e,hd,ON _,λj=>by simp⟩ (λi σ U _ ⟨_,_,_,Z,_⟩=>br.of (Z _ _ ne he)) ?_ ?_⟩
 .rintro i y σ U hy ⟨v,D,rfl,Z,J,O,G⟩;obtain⟨x,hx,rfl⟩:=cX hy;have hil:i<L.length:=(OI.mp hx).1;refine⟨_,rfl,_,rfl,d,_,rfl,sS.k (k:=Sum.inl (x:Int)) J (Qs (show D.length<=200000 by omega) (by decide)),?_⟩;refine⟨_,_,rfl,λb o hb e=>by rw[aG hb];exact Z b o hb e,ag,?_,λj=>?_⟩
  .have z:=fY D (Sum.inl (x:Int):Key) (V.bl true);omega
  rw[qU,aI.take_snoc hx,OY];by_cases e:(Sum.inl (j:Int):Key)=Sum.inl (x:Int)
  .rw[Uo e];have e2:j=x:=by injection e with e;omega
   exact⟨λ_=>.inr (.inr (by simp[e2])),λ_=>rfl⟩
  rw[Uk e,G j];have e2:j≠x:=λz=>e (by rw[z]);constructor
  .rintro(h|h)
   .exact .inl h
   exact .inr (.inl h)
  rintro(h|h|h)
  .exact .inl h
  .exact .inr h
  exact Us (OS.mp h) e2
 rintro σ U ⟨v,D,rfl,Z,J,O,G⟩;rw[aS]at O G;rw[Pc]at G;exact k D U J Z O G
theorem wd{f:Um}{G:Uz}(B:Bl mg)(F:Fn K mg "least_end" gT ["thread"] f G):aO P w K mg base dq 1 f G ["thread"] aI.rO:=by
 refine F.fn.ok vY (λU H Q E h=>?_) (λZ A outer s H U Q E hr h=>?_)
 .obtain⟨t,e,kd,L,rfl,_⟩:=h
  rfl
 obtain⟨t,e,kd,L,rfl,ht,he,J,k⟩:=h;refine⟨_,(aA (aU (aL (vh rfl) rfl B.min vd (ae (cg eo (pv 0) ao (λ_ _=>rfl)) af)))),?_⟩;have e1:uV [V.str (ks kd),V.ref e] 1=Ya (.ref e):=rfl;refine⟨_,rfl,t,_,_,_,rfl,rfl,br.of ht,e1,e,Mt.up L,rfl,br.of (by rw[he,aI.LP];rfl),?_,λM O D=>?_⟩
 .rw[Mt.Jg];exact J
 obtain⟨q1,q2,q3⟩:=Th.Dg L (L.headD 0);have hd:L.headD 0∈L:=by
  cases L with
  |nil=>exact Us J (QF _)
  |cons z r=>exact O1
 have hm:mn L∈L:=by
  rcases q3 with z|z
  .unfold mn;rw[z];exact hd
  exact z
 unfold Mt.up at O D;obtain⟨x,hx,rfl⟩:=OO.mp O;have z1:=q2 x hx;have z2:=D _ (OO.mpr ⟨_,hm,rfl⟩);have z3:x=mn L:=by unfold mn at z2⊢;omega
 rw[z3];exact k
theorem zU{f f1 f2 f3 f4 f5 f6 C:Um}{fd iu jw mV zV B6 E1:Uz}(B:Bl mg)(Z:vi K mg "Unlike" C)(F:Fn K mg "threads" fe ["one","other"] f fd)(G:Fn K mg "refuse_unlike" d6 ["one","other"] f1 iu)(jT:Fn K mg "loose_ends" fc ["work"] f2 jw)
  (O:Fn K mg "open_threads" eP ["one","other"] f3 mV) (D:Fn K mg "walked_thread" c7 ["start","first","second"] f4 zV) (J:Fn K mg "mark_ends" gS ["seen","ends"] f5 B6) (U:Fn K mg "least_end" gT ["thread"] f6 E1) :
  aO P w K mg base (gh P w) 4 f fd ["one","other"] (fL K C):=by
 have qc:aO P w K mg base (gh P w) 1 f1 iu ["one","other"] (aI.xG K C):=o7 B Z G;have sx:aO P w K mg base dq 2 f3 mV ["one","other"] (zd K):=qb B O jT D;have qd:aO P w K mg base dq 1 f4 zV ["start","first","second"] (qA K):=jv B D;have pN:aO P w K mg base dq 1 f5 B6 ["seen","ends"] aI.AF:=wc J;have yq:aO P w K mg base dq 1 f6 E1 ["thread"] aI.rO:=wd B U;refine F.fn.oF fQ (λvs H Q E h=>?_) (λje A outer s H vs Q E hr h own=>?_)
 .obtain⟨a,b,n,m,ms,os,rfl,_,_⟩:=h
  rfl
 obtain⟨a,b,n,m,ms,os,rfl,Hd,hS,W,hO,hm,kg,kb⟩:=h;have op:=iH (E:=E) own;have hu:=jY hr;refine⟨_,(ah (bh (g8 qc G (hr.mono (by decide)) (ae (pv 0) (ae (pv 1) af))))
  (ah (aJ (i:=2) fQ.nd rfl (Or.inl rfl) (bo sx O (hr.mono (by decide)) (ae (pv 0) (ae (pv 1) af))))
  (ah (aJ (i:=3) fQ.nd rfl (Or.inl rfl) qW)
  (ah (b6 op rfl (bp (pv 2)) (jA rfl (aX (aK (i:=4) fQ.nd rfl (Or.inl rfl)) (aX (aK (i:=5) fQ.nd rfl (Or.inl rfl)) dN))) (aA (bh (bo pN J (hr.mono (by decide)) (ae (pv 3) (ae (pv 5) af))))))
  (ah (b6 op rfl (fV rfl B.range (ae (aL aH rfl B.len bD (ae (pv 0) af)) af)) (aK (i:=6) fQ.nd rfl (Or.inl rfl)) (aA (bS (qO (lD hu (pv 6) (pv 3))) (ah (aJ (i:=7) fQ.nd rfl (Or.inl rfl) (bo qd D (hr.mono (by decide)) (ae (pv 6) (ae (pv 0) (ae (pv 1) af)))))
  (ah (bh (bo pN J (hr.mono (by decide)) (ae (pv 3) (ae (pv 7) af))))
  (aA (bh (d5 O7 Py Pz cF (pv 2) (ae (bC (ae eg (ae (pv 7) af))) af)))))) bg)))
  (aA (aU (BO (by rfl) B.sorted yq U (hr.mono (by decide)) (ae (pv 2) af))))))))),?_⟩
 refine⟨_,rfl,_,rfl,a,b,n,m,ms,os,rfl,hS,W,hO,hm,λwe=>?_,λjf=>kb jf⟩;obtain⟨WO,kg⟩:=kg we;have T:=bJ W WO;have Ck:=W.small;refine⟨_,rfl,_,rfl,a,b,n,ms,os,rfl,hS,W,hO,WO,λl H1 hl s1 hT=>?_⟩;intro d hd;have s2:aE H1 (upd H1 d (.dK [])):=ai hd;have xk:=hT.same s2;have hd2:upd H1 d (.dK []) d=Ya (.dK []):=ag;obtain⟨Kv,w0,w00⟩:=hT.len;have HV:l≠d:=aW w0 hd;have hd0:H d=none:=s1.free hd;generalize upd H1 d (.dK [])=H2 at s2 xk hd2⊢;obtain⟨xs,⟨ts,t1,t2,t3⟩,x2,x3⟩:=id xk;have hol:(hG (2*n) (ar ms) (ar os)).length<=160:=by
  unfold hG;rw[OQ];have q1:=Th.oB (N:=2*n) (a:=ar ms) (b:=ar os) (lH (2*n) (ar ms));have q2:=Th.ua (N:=2*n) (a:=ar ms) (b:=ar os) (lH (2*n) (ar os));have q3:∀M:Nat->Nat,(lH (2*n) M).length<=80:=λM=>by
   unfold lH;have z:=Pm (λe=>e==M e) (OV (2*n));rw[OW]at z;omega
  have:=q3 (ar ms);have:=q3 (ar os);omega
 have A8:xs.length<=160:=by rw[<-x3,OH]at hol;exact hol
 have Mz:∀{x:Nat}{L:List Nat},x<2*n->bU (ar ms) (ar os) x L->L.length<=80:=λ{x L} hx C=>by
  have z:=Th.sub_len C.nd (m:=OV (2*n)) λy hy=>OX.mpr (((C.mem y).mp hy).lt T hx);rw[OW]at z;omega
 refine⟨_,rfl,l,rfl,⟨_,aZ.of t1⟩,cw (K:=K) (a:=l) (xs:=ts.map V.ref) (λi σ H3=>∃(v4 v5:Option V) (kv:List (Key×V)),σ=[Ya (.ref a),Ya (.ref b),Ya (.ref l),Ya (.ref d),v4,v5,none,none]/\(∀c o,c≠d->H2 c=Ya o->H3 c=Ya o)/\H3 d=Ya (.dK kv)/\kv.length<=80*i /\
   ∀j:Nat,(bX kv (Sum.inl (j:Int):Key)).isSome=true↔∃x∈xs.take i,j∈x.2.2)
  ⟨none,none,[],rfl,λc o _ e=>e,hd2,ON _,λj=>by simp[bX]⟩ (λi σ H3 _ zq=>by obtain⟨_,_,_,_,s3,_⟩:=zq;exact aZ.of (s3 _ _ HV t1)) ?_ ?_⟩
 .rintro i y σ H3 hy ⟨v4,v5,kv,rfl,s3,Av,A3,hk⟩;have hi:i<ts.length:=by have z:=(OI.mp hy).1;rw[OH]at z;exact z
  rw[OR,OG hi]at hy;obtain rfl:=Option.some.inj hy;have Cm:i<xs.length:=by rw[<-t2];exact hi
  have ex:=OG Cm;generalize xs[i]=x at ex;have J1:=t3 i _ x (OG hi) ex;have LR:=OP ex;have hxe:=x2 x LR;have nt:ts[i]≠d:=λz=>by rw[z,hd2]at J1;cases J1
  have ne:x.2.1≠d:=λz=>by rw[z,hd2]at hxe;cases hxe
  obtain⟨u,hul,_,C⟩:=Th.oC T (th:=aI.en x) (by rw[<-x3];exact OO.mpr ⟨x,LR,rfl⟩);have MA:=Mz hul C;have MA:x.2.2.length<=80:=MA;refine⟨_,_,rfl,br.of (s3 _ _ nt J1),rfl,_,_,rfl,_,_,rfl,rfl,?_⟩;refine⟨_,rfl,_,rfl,d,x.2.1,kv,x.2.2,rfl,Av,s3 _ _ ne hxe,by omega,λkv2 H4 tL s4 Cn E2=>?_⟩;refine⟨_,_,kv2,rfl,λc o hc e=>s4 c o hc (s3 c o hc e),tL,by omega,λj=>?_⟩;rw[E2,hk,aI.take_snoc ex];constructor
  .rintro(⟨x',h1,h2⟩|h)
   .exact⟨x',Pn _ h1,h2⟩
   exact⟨x,O4 _ (OS.mpr rfl),h⟩
  rintro⟨x',h1,h2⟩;rcases OY.mp h1 with h1|h1
  .exact .inl ⟨x',h1,h2⟩
  rw[OS.mp h1]at h2;exact .inr h2
 rintro σ H3 ⟨v4,v5,kv,rfl,s3,Av,A3,hk⟩;rw[OH,t2]at A3 hk;rw[Pc]at hk;have sv:aE H H3:=λc o e=>s3 c o (λz=>by rw[z,hd0]at e;cases e) (s2 _ _ (s1 _ _ e));have B5:aI.nK H3 l (hG (2*n) (ar ms) (ar os)):=xk.keep hd2 s3;have hk3:∀j:Nat,j<2*n->((bX kv (Sum.inl (j:Int):Key)).isSome=true↔¬bq (ar ms) (ar os) j):=λj hj=>by
  rw[hk,<-Th.oD T hj,<-x3];constructor
  .rintro⟨x,h1,h2⟩;exact⟨aI.en x,OO.mpr ⟨x,h1,rfl⟩,h2⟩
  rintro⟨th,h1,h2⟩;obtain⟨x,h3,rfl⟩:=OO.mp h1;exact⟨x,h3,h2⟩
 have E3:((nV ms).length:Int)=2*n:=by rw[aS,W.len];omega
 have hld:H l=none:=hl;refine⟨_,rfl,a,_,rfl,.inr (sv.tup hS),_,rfl,by rw[E3];omega,by rw[E3];omega,fW (lo:=0) (n:=((nV ms).length:Int).toNat) (λi σ H4=>∃(v4 v5 v6 v7:Option V) (kv:List (Key×V)),σ=[Ya (.ref a),Ya (.ref b),Ya (.ref l),Ya (.ref d),v4,v5,v6,v7]/\aE H H4/\H4 d=Ya (.dK kv)/\kv.length<=13000+80*i /\
   aI.nK H4 l (hG (2*n) (ar ms) (ar os)++Th.eF (ar ms) (ar os) i)/\∀j:Nat,j<2*n->((bX kv (Sum.inl (j:Int):Key)).isSome=true↔(¬bq (ar ms) (ar os) j\/∃th∈Th.eF (ar ms) (ar os) i,j∈th.2)))
  ⟨_,_,_,_,kv,rfl,sv,Av,by omega,by show aI.nK H3 l (_++[]);rw[Pj];exact B5,λj hj=>?_⟩ ?_ ?_⟩
 .rw[hk3 j hj];constructor
  .exact .inl
  rintro(h|⟨th,h,_⟩)
  .exact h
  exact Us h Qp
 .rintro i σ H4 hi ⟨v4,v5,v6,v7,MB,rfl,s4,tL,aaN,wO,E2⟩;have JS:i<2*n:=by rw[E3]at hi;omega
  have hir:=Th.xf (a:=ar ms) (b:=ar os) i;rw[Ri];have nx:=Th.Bu T JS;refine⟨_,rfl,_,rfl,d,_,rfl,wY.k (k:=Sum.inl (i:Int)) tL,_,rfl,?_⟩;refine fu (λh1=>?_) (λh1=>?_)
  .have wL:¬(bX MB (Sum.inl (i:Int):Key)).isSome=true:=λz=>by rw[z]at h1;cases h1
   rw[E2 i JS]at wL;have NG:=nx.mpr wL;have C:=Th.bH T JS (.inr NG.2);have MA:=Mz JS C;refine⟨_,rfl,_,rfl,_,rfl,a,b,n,ms,os,i,rfl,s4.tup hS,W,s4.tup hO,WO,JS,.inr NG.2,λe H5 s5 he=>?_⟩;refine⟨_,rfl,_,rfl,d,e,MB,_,rfl,s5 _ _ tL,he,by omega,λkv6 H6 J2 s6 NH hk6=>?_⟩;have hd5:=s5 _ _ tL;have hT6:=(wO.same s5).keep hd5 s6;have s46:aE H H6:=λc o q=>s6 c o (λz=>by rw[z,hd0]at q;cases q) (s5 _ _ (s4 _ _ q));have he6:H6 e=Ya (.tup (nV (cN (ar ms) (ar os) i))):=s6 _ _ (λz=>by rw[z,hd5]at he;cases he) he;obtain⟨vs,w1,_⟩:=hT6.len;refine⟨_,rfl,.inl ⟨rfl,_,aZ.of w1⟩,_,rfl,by show 2<=Uu;decide,λtp lh=>?_⟩;have s7:aE H6 (upd H6 tp (.tup [.str (ks .ring),.ref e])):=ai lh;obtain⟨ys,y1,y2,y3⟩:=(hT6.same s7).snoc (t:=tp) (e:=e) (k:=.ring) ag (s7 _ _ he6);refine⟨l,_,_,rfl,rfl,y1,aY (by rw[y2,OQ];omega),?_⟩;refine⟨_,_,_,_,kv6,rfl,(s46.trans s7).upd hld,?_,by omega,?_,λj hj=>?_⟩
   .rw[aG (Ne.symm HV)];exact s7 _ _ J2
   .rw[Th.ia,Uo NG,<-PM];exact y3
   rw[hk6,E2 j hj,Th.ia,Uo NG];constructor
   .rintro((h|⟨th,h2,h3⟩)|h)
    .exact .inl h
    .exact .inr ⟨th,Pn _ h2,h3⟩
    exact .inr ⟨_,O4 _ (OS.mpr rfl),h⟩
   rintro(h|⟨th,h2,h3⟩)
   .exact .inl (.inl h)
   rcases OY.mp h2 with h2|h2
   .exact .inl (.inr ⟨th,h2,h3⟩)
   rw[OS.mp h2]at h3;exact .inr h3
  have hs:(bX MB (Sum.inl (i:Int):Key)).isSome=true:=OU λz=>h1 (by rw[RP]at z;rw[z];rfl);rw[E2 i JS]at hs;have HN:¬(bB (ar ms) (ar os) i/\bq (ar ms) (ar os) i):=λz=>nx.mp z hs;refine⟨_,_,_,_,MB,rfl,s4,tL,by omega,?_,λj hj=>?_⟩
  .rw[Th.ia,Uk HN,Pj];exact wO
  rw[Th.ia,Uk HN,Pj];exact E2 j hj
 rintro σ H4 ⟨v4,v5,v6,v7,MB,rfl,s4,tL,aaN,wO,E2⟩;have MC:((nV ms).length:Int).toNat=2*n:=by rw[E3];omega
 rw[MC]at wO;have wO:aI.nK H4 l (Th.pW (2*n) (ar ms) (ar os)):=wO;obtain⟨zs,⟨us,u1,u2,u3⟩,z2,z3⟩:=id wO;have hzl:zs.length<=62:=by
  have z:=rA T;rw[<-z3,OH]at z;omega
 have zc:∀x∈zs,∃u,u<2*n/\bU (ar ms) (ar os) u x.2.2:=λx hx=>Th.lI T (th:=aI.en x) (by rw[<-z3];exact OO.mpr ⟨x,hx,rfl⟩);refine⟨_,rfl,l,us.map V.ref,zs.map (λx=>((mn x.2.2:Nat):Int)),rfl,aZ.of u1,by rw[OH,OH,u2],by rw[OH,u2];omega,λi v kk hv hkk Q' hQ'=>?_,λl' ps hp hpw Kx=>?_⟩
 .have hi:i<us.length:=by have z:=(OI.mp hv).1;rw[OH]at z;exact z
  have Cm:i<zs.length:=by rw[<-u2];exact hi
  rw[OR,OG hi]at hv;rw[OR,OG Cm]at hkk;obtain rfl:=Option.some.inj hv;obtain rfl:=Option.some.inj hkk;have hm:=Rp Cm;obtain⟨u,hul,C⟩:=zc _ hm;have pos:0<(zs[i]).2.2.length:=Rb ((C.mem u).mpr (Th.aB.refl u));exact⟨us[i],(zs[i]).2.1,(zs[i]).1,(zs[i]).2.2,rfl,u3 i _ _ (OG hi) (OG Cm),z2 _ hm,pos,hQ'⟩
 have fa:aI.xI (λ(p:Int×V) (x:aI.Ent)=>p.1=((mn x.2.2:Nat):Int)/\∃t,p.2=.ref t/\H4 t=Ya (.tup (tf x))) ((zs.map (λx=>((mn x.2.2:Nat):Int))).zip (us.map V.ref)) zs:=by
  refine aI.xI.of (by rw[TF,OH,OH,u2,R5]) λi p x e1 e2=>?_;have Cm:=(OI.mp e2).1;have hi:i<us.length:=by rw[u2];exact Cm
  rw[List.getElem?_zip_eq_some]at e1;obtain⟨q1,q2⟩:=e1;rw[OR,e2]at q1;rw[OR,OG hi]at q2;exact⟨(Option.some.inj q1).symm,us[i],(Option.some.inj q2).symm,u3 i _ x (OG hi) e2⟩
 obtain⟨ws,hw1,hw2⟩:=fa.perm hp;have s5:aE H4 (upd H4 l' (.lst (ps.map (·.2)))):=ai Kx;have af6:=hw2.len;have MD:ps.map (·.1)=ws.map (λx=>((mn x.2.2:Nat):Int)):=by
  refine QY λi=>?_;rw[OR,OR];by_cases hi:i<ps.length
  .rw[OG hi,OG (by omega)];exact congrArg some (hw2.get i _ _ (OG hi) (OG (by omega))).1
  rw[PU (by omega),PU (by omega)]
  rfl
 have nd:(ws.map (λx=>mn x.2.2)).Nodup:=by
  have z:=Th.keys_nodup T;rw[<-z3,Pp]at z;exact((hw1.map (λx:aI.Ent=>mn x.2.2)).nodup_iff).mpr z
 have pw:(ws.map aI.en).Pairwise λp q=>mn p.2<mn q.2:=by
  rw[Px];have q1:(ws.map (λx=>((mn x.2.2:Nat):Int))).Pairwise (·<=·):=by rw[<-MD,Px];exact hpw
  rw[Px]at q1;rw[Pb,Px]at nd;exact(q1.and nd).imp λ⟨h1,h2⟩=>by show mn _<mn _;have:=h2;simp only[aI.en];omega
 refine kg l' _ (ws.map aI.en) (s4.trans s5) ⟨by rw[<-z3];exact hw1.map _,pw⟩ ?_ (s4.free Kx);have ch:∀i,i<ps.length->∃t,(ps.map (·.2))[i]?=Ya (.ref t)/\∀x,ws[i]?=Ya x->H4 t=Ya (.tup (tf x)):=λi hi=>by
  obtain⟨_,t,q1,q2⟩:=hw2.get i _ _ (OG hi) (OG (by omega));exact⟨t,by rw[OR,OG hi];exact congrArg some q1,λx hx=>by rw[OG (by omega)]at hx;rw[<-Option.some.inj hx];exact q2⟩
 obtain⟨vs',hv1,hv2⟩:=aI.AE (ps.map (·.2)) λi hi=>let⟨t,q,_⟩:=ch i (by rw[OH]at hi;exact hi);⟨t,q⟩
 rw[OH]at hv2;refine⟨ws,⟨vs',by rw[ag,hv1],by omega,λi t x e1 e2=>?_⟩,λx hx=>s5 _ _ (z2 x (hw1.mem_iff.mp hx)),rfl⟩;have hi:i<ps.length:=by have z:=(OI.mp e1).1;omega
 obtain⟨t',q1,q2⟩:=ch i hi;rw[hv1,OR,e1]at q1;obtain rfl:t=t':=by have z:=Option.some.inj q1;injection z
 exact s5 _ _ (q2 x e2)
theorem qe{f f1 C:Um}{fd iu:Uz}(B:Bl mg)(F:Fn K mg "thread_score" eQ ["one","other"] f fd)(G:Fn K mg "threads" fe ["one","other"] f1 iu)(J:aO P w K mg base (gh P w) 4 f1 iu ["one","other"] (fL K C)) :
  aO P w K mg base (gh P w) 5 f fd ["one","other"] (aI.xZ K C):=by
 refine F.fn.oF j5 (λvs H Q E h=>?_) (λje A outer s H vs Q E hr h own=>?_)
 .obtain⟨a,b,n,m,ms,os,rfl,_⟩:=h
  rfl
 obtain⟨a,b,n,m,ms,os,rfl,Hd,hS,W,hO,hm,kg,kb⟩:=h;refine⟨_,(ah (jG (ix:=2) (NC:=["kind","ends"]) j5.nd rfl (Or.inl rfl) rfl (hV rfl (by decide +kernel) (by decide +kernel)) (bp (g8 J G (hr.mono (by decide)) (ae (pv 0) (ae (pv 1) af)))) (λ_ _ _ _=>(jE (K:=K) (n:=2) rfl rfl (aX (aK (i:=0) (show(["kind","ends"]:List UI).Nodup by decide +kernel) rfl (Or.inl rfl)) (aX (aK (i:=1) (show(["kind","ends"]:List UI).Nodup by decide +kernel) rfl (Or.inl rfl)) dN)))) (λ_ _ _ _=>fE) (λ_ _ _ _=>(pv 0)))
  (aA (aU (aT eH (aT fq ao (d5 O7 Si Sj xK (pv 2) (ae eg af))) (d5 O7 Si Sj xK (pv 2) (ae eg af)))))),?_⟩
 refine⟨_,rfl,_,rfl,a,b,n,m,ms,os,rfl,Hd,hS,W,hO,hm,λwe=>?_,λjf=>kb jf⟩;obtain⟨WO,kg⟩:=kg we;refine⟨WO,λl H1 O s1 hI hT hl=>?_⟩;have Ck:=W.small;have hlen:O.length<=80:=by rw[hI.1.length_eq];have:=rA (bJ W WO);omega
 obtain⟨xs,⟨ts,t1,t2,t3⟩,x2,x3⟩:=id hT;have A8:xs.length<=80:=by rw[<-x3,OH]at hlen;exact hlen
 refine⟨l,rfl,⟨_,aZ.of t1⟩,λD hD=>b8 (K:=K) (a:=l) (xs:=ts.map V.ref) (λi σ Z=>∃v0 v1:Option V,σ=[v0,v1]/\aE H1 Z/\Z D=Ya (.lst (((xs.take i).map λx=>ks x.1).map V.str))) ⟨none,none,rfl,ai hD,ag⟩ (λi σ Z _ zq=>by obtain⟨_,_,_,s2,_⟩:=zq;exact aZ.of (s2 _ _ t1)) ?_ ?_⟩
 .rintro i y σ Z hy ⟨v0,v1,rfl,s2,U⟩;have hi:i<ts.length:=by have z:=(OI.mp hy).1;rw[OH]at z;exact z
  rw[OR,OG hi]at hy;obtain rfl:=Option.some.inj hy;have Cm:i<xs.length:=by rw[<-t2];exact hi
  have ex:=OG Cm;generalize xs[i]=x at ex;have J1:=t3 i _ x (OG hi) ex;refine⟨_,_,rfl,br.of (s2 _ _ J1),rfl,_,_,rfl,_,_,rfl,rfl,?_⟩;refine⟨_,rfl,_,U,aY (by rw[OH,OH,Pu];omega),_,_,rfl,s2.upd hD,?_⟩;rw[ag,aI.take_snoc ex,O5,O5]
  rfl
 rintro σ Z ⟨v0,v1,rfl,s2,U⟩;rw[OH,t2,Pc]at U;have ek:(xs.map λx=>ks x.1)=O.map λth=>ks th.1:=by rw[<-x3,Pp];rfl
 rw[ek]at U;refine⟨_,rfl,.inl ⟨rfl,_,aZ.of U⟩,D,_,_,rfl,rfl,U,?_⟩;refine⟨_,_,rfl,rfl,.inl ⟨by decide,by decide⟩,?_⟩;refine⟨_,rfl,.inl ⟨rfl,_,aZ.of U⟩,D,_,_,rfl,rfl,U,_,_,rfl,rfl,?_⟩;have e:=hI.counts W WO;have e2:(2:Int)*(((O.map λth=>ks th.1).countP (· == ks .ring):Nat):Int)+(((O.map λth=>ks th.1).countP (· == ks .odd):Nat):Int)=((Th.score (ar ms) (ar os) (2*n):Nat):Int):=by omega
 have z:=kg Z (s1.trans s2);rw[<-e2]at z;exact z
theorem yr{f f1 f2 C:Um}{fd U V:Uz}(B:Bl mg)(F:Fn K mg "apart_by" iP ["one","other"] f fd)(D:Fn K mg "staves_in" gR ["work"] f1 U)(G:Fn K mg "thread_score" eQ ["one","other"] f2 V)(J:aO P w K mg base (gh P w) 5 f2 V ["one","other"] (aI.xZ K C)) :
  aO P w K mg base (gh P w) 6 f fd ["one","other"] (aI.x8 K C):=by
 have O:aO P w K mg base dq 1 f1 U ["work"] (aI.xt K):=wa B D;refine F.fn.oF yp (λvs H Q E h=>?_) (λje A outer s H vs Q E hr h own=>?_)
 .obtain⟨a,b,n,m,ms,os,rfl,_⟩:=h
  rfl
 obtain⟨a,b,n,m,ms,os,rfl,Z,hS,W,hO,hm,kg,kb⟩:=h;refine⟨_,(aA (aU (aT kC (bo O D (hr.mono (by decide)) (ae (pv 0) af)) (aT dO (g8 J G (hr.mono (by decide)) (ae (pv 0) (ae (pv 1) af))) ao)))),?_⟩;refine⟨_,rfl,a,n,ms,rfl,hS,W,?_⟩;refine⟨_,rfl,_,rfl,a,b,n,m,ms,os,rfl,Z,hS,W,hO,hm,λwe=>?_,λjf=>kb jf⟩;obtain⟨WO,kg⟩:=kg we;refine⟨WO,λH1 s1=>?_⟩;have hle:=Th.jj (bJ W WO);refine⟨_,_,rfl,rfl,⟨by decide,by decide⟩,_,_,rfl,rfl,?_⟩;have e:(n:Int)-((Th.score (ar ms) (ar os) (2*n):Nat):Int)/2=(aC n ms os:Nat):=by unfold aC;omega
 dsimp only;rw[e];exact kg H1 s1
end
section
seal L2.mX L2.PS L2.PE L2.PT
variable {P:Ux}{w:UA}{K:OJ}{mg:UI->Option Uj}{base:UH}
theorem j7{f:Um}{D:Uz}(B:Bl mg)(F:Fn K mg "ordered_pair" cW ["end","mate"] f D):aO P w K mg base dq 1 f D ["end","mate"] vB:=by
 refine F.fn.ok p0 (λJ H Q E h=>?_) (λO A outer s H J Q E U h=>?_)
 .obtain⟨x,y,rfl,_⟩:=h
  rfl
 obtain⟨x,y,rfl,k⟩:=h;refine⟨_,(aA (aU (bC (ae (aL (Bi rfl) rfl B.min vd (ae (pv 0) (ae (pv 1) af))) (ae (aL (tU rfl) rfl B.max yU (ae (pv 0) (ae (pv 1) af))) af))))),?_⟩;refine⟨_,rfl,_,rfl,_,_,rfl,_,rfl,_,rfl,_,_,rfl,(by show 2<=Uu;decide),λl G=>?_⟩;refine k l _ G (ai G) ?_;have e1:(if(y:Int)<(x:Int)then(y:Int)else(x:Int))=((min x y:Nat):Int):=by split <;> omega
 have e2:(if(y:Int)>(x:Int)then(y:Int)else(x:Int))=((max x y:Nat):Int):=by split <;> omega
 rw[ag,e1,e2]
 rfl
theorem zW{f:Um}{fd:Uz}(B:Bl mg)(F:Fn K mg "ends_in" jt ["laid","kind"] f fd):aO P w K mg base dq 1 f fd ["laid","kind"] aI.xX:=by
 refine F.fn.ok jQ (λvs H Q E h=>?_) (λje A outer s H vs Q E hr h=>?_)
 .obtain⟨l,J,G,rfl,_⟩:=h
  rfl
 obtain⟨l,J,G,rfl,hT,hlen,k⟩:=h;refine⟨_,(ah (aJ (i:=2) jQ.nd rfl (Or.inl rfl) (bP af))
  (ah (b6 PassesOwn.never rfl (bp (pv 0)) (jA rfl (aX (aK (i:=3) jQ.nd rfl (Or.inl rfl)) (aX (aK (i:=4) jQ.nd rfl (Or.inl rfl)) dN))) (aA (bS (aM fm (pv 3) (pv 1) (aQ _)) (aA (bh (d5 O7 PN PQ yX (pv 2) (ae (pv 4) af)))) bg)))
  (aA (aU (pv 2))))),?_⟩
 obtain⟨ts,t1,t2,t3⟩:=hT.at;have fle:∀i,(aV (G.take i) J).length<=100:=λi=>by
  refine PD ?_ hlen;unfold aV;have g:∀(l:List (Th.Kd×List Nat)),((l.filter λth=>th.1=J).flatMap (·.2)).length<=(l.map (·.2)).flatten.length:=λl=>by
   induction l with
   |nil=>exact ON _
   |cons th r ih =>
    rw[RO]
    split
    .rw[QI,Po,Te,OQ,OQ];omega
    rw[Po,Te,OQ];omega
  refine PD (g _) ?_;have e:G=G.take i++G.drop i:=(RJ i G).symm;have e2:(G.map (·.2)).flatten.length=((G.take i).map (·.2)).flatten.length+((G.drop i).map (·.2)).flatten.length:=by
   rw[<-OQ,<-List.flatten_append,<-O5,<-e]
  omega
 refine⟨(by show 0<=Uu;decide),λD hD=>?_⟩;refine⟨_,rfl,l,rfl,⟨_,aZ.of ((ai hD) _ _ t1)⟩,cw (K:=K) (a:=l) (xs:=ts.map V.ref) (λi σ U=>∃v3 v4:Option V,σ=[Ya (.ref l),Ya (.str (ks J)),Ya (.ref D),v3,v4]/\aE H U/\U D=Ya (.lst (nV (aV (G.take i) J)))) ⟨none,none,rfl,ai hD,ag⟩ (λi σ U _ zq=>by obtain⟨_,_,_,O,_⟩:=zq;exact aZ.of (O _ _ t1)) ?_ ?_⟩
 .rintro i y σ U hy ⟨v3,v4,rfl,O,Z⟩;have hi:i<ts.length:=by have z:=(OI.mp hy).1;rw[OH]at z;exact z
  obtain⟨th,B7⟩:∃th,G[i]?=Ya th:=⟨_,OG (by omega)⟩
  obtain⟨tt,te,e1,e2,e3⟩:=t3 i th B7;rw[OR,e1]at hy;obtain rfl:=Option.some.inj hy;refine⟨_,_,rfl,br.of (O _ _ e2),rfl,_,_,rfl,_,_,rfl,rfl,?_⟩;have es:aV (G.take (i+1)) J=aV (G.take i) J++(if th.1=J then th.2 else[]):=by
   unfold aV;rw[aI.take_snoc B7,O9,Q3];congr 1;by_cases c:th.1=J
   .rw[Uo c,Pe (by simpa using c)];simp
   rw[Uk c,Pf (by simpa using c)];rfl
  refine⟨_,rfl,_,rfl,rfl,_,rfl,?_⟩;refine fu (λh=>?_) (λh=>?_)
  .have hk:th.1=J:=aI.oN _ _ (by have z:=Uw h;injection z);rw[Uo hk]at es;have b1:=fle (i+1);rw[es,OQ]at b1;refine⟨_,rfl,.inl ⟨rfl,_,aZ.of Z⟩,_,rfl,D,te,_,nV th.2,rfl,rfl,Z,.inr (O _ _ e3),?_,Ya (.str (ks th.1)),Ya (.ref te),rfl,O.upd hD,?_⟩
   .rw[aS,aS];have:1000<=sizeLine:=by decide
    omega
   rw[ag,es,aI.BE]
  have hk:¬th.1=J:=λz=>h (Ul (by rw[z]));rw[Uk hk,Pj]at es;exact⟨Ya (.str (ks th.1)),Ya (.ref te),rfl,O,by rw[es];exact Z⟩
 rintro σ U ⟨v3,v4,rfl,O,Z⟩;rw[OH,t2,Pc]at Z;exact⟨_,rfl,k D U hD O Z⟩
theorem mQ{f f1:Um}{fd Z:Uz}(B:Bl mg)(F:Fn K mg "splitting_pairs" di ["ends"] f fd)(G:Fn K mg "ordered_pair" cW ["end","mate"] f1 Z):aO P w K mg base dq 2 f fd ["ends"] aI.AL:=by
 have J:aO P w K mg base dq 1 f1 Z ["end","mate"] vB:=j7 B G;refine F.fn.ok dW (λvs H Q E h=>?_) (λje A outer s H vs Q E hr h=>?_)
 .obtain⟨e,L,rfl,_⟩:=h
  rfl
 obtain⟨e,L,rfl,he,hlen,k⟩:=h;refine⟨_,(ah (aJ (i:=1) dW.nd rfl (Or.inl rfl) (bP af))
  (ah (b6 PassesOwn.never rfl (xl rfl B.enumerate (ae (pv 0) af)) (jA rfl (aX (aK (i:=2) dW.nd rfl (Or.inl rfl)) (aX (aK (i:=3) dW.nd rfl (Or.inr rfl)) dN))) (aA (bh (d5 O7 PN PQ eW (pv 1) (ae (eX (NC:=["behind","end"]) rfl (jF (c:=s.heap.objs.size+1) (j:=3) rfl (by decide +kernel) (by decide +kernel) rfl rfl rfl rfl rfl) (yH (DL (pv 0) (aT eH (pv 2) ao) ao)) (λ_ _ _ _=>(aK (i:=0) (show(["behind","end"]:List UI).Nodup by decide +kernel) rfl (Or.inl rfl))) (λ_ _ _ _=>fE) (λ_ _ _ _=>(bo J G (hr.mono (by decide)) (ae (pv 1) (ae (pv 0) af))))) af)))))
  (aA (aU (pv 1))))),?_⟩
 refine⟨(by show 0<=Uu;decide),λD hD=>?_⟩;have s0:aE H (upd H D (.lst [])):=ai hD;refine⟨_,rfl,e,rfl,⟨_,br.of (s0 _ _ he)⟩,Dl (K:=K) (a:=e) (xs:=nV L) (λi σ O=>∃v2 v3:Option V,σ=[Ya (.ref e),Ya (.ref D),v2,v3]/\aE H O/\aI.ft pf O D (Th.ij L i)) ⟨none,none,rfl,s0,aI.ft.nil ag⟩ (λi σ O _ ⟨_,_,_,U,_⟩=>br.of (U _ _ he)) ?_ ?_⟩
 .rintro i x t σ O hx ⟨v2,v3,rfl,U,h2⟩ ht;obtain⟨u,hu,rfl⟩:=cX hx;have hil:=(OI.mp hu).1;have st:aE O (upd O t (.tup [.int (i:Nat),.int (u:Nat)])):=ai ht;have e3:upd O t (.tup [.int (i:Nat),.int (u:Nat)]) t=Ya (.tup [.int (i:Nat),.int (u:Nat)]):=ag;generalize upd O t (.tup [.int (i:Nat),.int (u:Nat)])=H3 at st e3;have h3:=h2.same st;obtain⟨Kv,w0,_⟩:=h3.len;refine⟨t,_,rfl,br.of e3,rfl,_,_,rfl,_,_,rfl,rfl,?_⟩;refine⟨_,rfl,.inl ⟨rfl,_,aZ.of w0⟩,?_⟩;have he3:=st _ _ (U _ _ he);refine⟨_,rfl,_,rfl,_,_,rfl,rfl,e,_,_,rfl,rfl,rfl,br.of he3,(by omega),λp hp=>?_⟩;have ep:jg ((nV L).drop ((i:Int)+1).toNat)=nV (jg (L.drop (i+1))):=by
   rw[show((i:Int)+1).toNat=i+1 by omega];unfold nV;rw[<-TV,AI]
  rw[ep];have s4:aE H3 (upd H3 p (.tup (nV (jg (L.drop (i+1)))))):=ai hp;have e4:upd H3 p (.tup (nV (jg (L.drop (i+1))))) p=Ya (.tup (nV (jg (L.drop (i+1))))):=ag;have hml:(jg (L.drop (i+1))).length<=80:=by rw[lN,Q4];omega
  have es:=Th.vA hu;have bl:=Th.xU L (i+1);have bl2:(i+1)*L.length<=80*80:=SR (by omega) hlen;generalize jg (L.drop (i+1))=M at e4 s4 hml es;generalize upd H3 p (.tup (nV M))=H4 at s4 e4;refine⟨p,rfl,⟨_,br.of e4⟩,λD2 Co=>xm (K:=K) (a:=p) (xs:=nV M) (λj σ H5=>∃v:Option V,σ=[v,Ya (.int (u:Nat))]/\aE H4 H5/\aI.ft pf H5 D2 ((M.take j).map (Th.ord u))) ⟨none,rfl,ai Co,aI.ft.nil ag⟩ (λj σ H5 _ ⟨_,_,s5,_⟩=>br.of (s5 _ _ e4)) ?_ ?_⟩
  .rintro j y σ H5 hy ⟨v,rfl,s5,h5⟩;obtain⟨z,hz,rfl⟩:=cX hy;refine⟨_,rfl,_,rfl,u,z,rfl,λl H6 hl s6 NH=>?_⟩;obtain⟨ws,y1,y2,y3⟩:=(h5.same s6).snoc (t:=l) (x:=Th.ord u z) NH;refine⟨ws,y1,aY (by rw[y2,OH,Pu];omega),Ya (.int (z:Nat)),rfl,(s5.trans s6).upd Co,?_⟩;rw[aI.take_snoc hz,O5];exact y3
  rintro σ H5 ⟨v,rfl,s5,h5⟩;rw[aS,Pc]at h5;have Fo:=s4.trans s5;obtain⟨as,bs,g1,g2,g3,g4,g5⟩:=(h3.same Fo).ext h5;refine⟨D,D2,as,bs,rfl,rfl,g1,g2,?_,Ya (.int (i:Nat)),Ya (.int (u:Nat)),rfl,(U.trans (st.trans Fo)).upd hD,?_⟩
  .rw[g3,g4,<-OQ,<-es];have:6400<=sizeLine:=by decide
   omega
  rw[es];exact g5
 rintro σ O ⟨v2,v3,rfl,U,h2⟩;rw[aS]at h2;exact⟨_,rfl,k D O hD U h2⟩
theorem og{f f1:Um}{fd iu:Uz}(B:Bl mg)(F:Fn K mg "crossing_pairs" dA ["bare","tied"] f fd)(G:Fn K mg "ordered_pair" cW ["end","mate"] f1 iu):aO P w K mg base dq 2 f fd ["bare","tied"] aI.AM:=by
 have J:aO P w K mg base dq 1 f1 iu ["end","mate"] vB:=j7 B G;refine F.fn.ok gy (λvs H Q E h=>?_) (λje A outer s H vs Q E hr h=>?_)
 .obtain⟨a,b,O,S,rfl,_⟩:=h
  rfl
 obtain⟨a,b,O,S,rfl,ha,hb,hB,hS,k⟩:=h;refine⟨_,(ah (aJ (i:=2) gy.nd rfl (Or.inl rfl) (bP af))
  (ah (b6 PassesOwn.never rfl (bp (pv 0)) (aK (i:=3) gy.nd rfl (Or.inr rfl)) (aA (bh (d5 O7 PN PQ eW (pv 2) (ae (eX (NC:=["crossed","end"]) rfl (jF (c:=s.heap.objs.size+1) (j:=3) rfl (by decide +kernel) (by decide +kernel) rfl rfl rfl rfl rfl) (bp (pv 1)) (λ_ _ _ _=>(aK (i:=0) (show(["crossed","end"]:List UI).Nodup by decide +kernel) rfl (Or.inl rfl))) (λ_ _ _ _=>fE) (λ_ _ _ _=>(bo J G (hr.mono (by decide)) (ae (pv 1) (ae (pv 0) af))))) af)))))
  (aA (aU (pv 2))))),?_⟩
 refine⟨(by show 0<=Uu;decide),λD hD=>?_⟩;have s0:aE H (upd H D (.lst [])):=ai hD;refine⟨_,rfl,a,rfl,⟨_,aZ.of (s0 _ _ ha)⟩,cw (K:=K) (a:=a) (xs:=nV O) (λi σ U=>∃v3:Option V,σ=[Ya (.ref a),Ya (.ref b),Ya (.ref D),v3]/\aE H U/\aI.ft pf U D (c6 (O.take i) S)) ⟨none,rfl,s0,aI.ft.nil ag⟩ (λi σ U _ zq=>by obtain⟨_,_,Z,_⟩:=zq;exact aZ.of (Z _ _ ha)) ?_ ?_⟩
 .rintro i x σ U hx ⟨v3,rfl,Z,h2⟩;obtain⟨u,hu,rfl⟩:=cX hx;obtain⟨Kv,w0,_⟩:=h2.len;have es:c6 (O.take (i+1)) S=c6 (O.take i) S++S.map (Th.ord u):=by rw[aI.take_snoc hu];exact Th.zg
  have bl:=Th.ui (O.take (i+1)) S;have bl2:(O.take (i+1)).length*S.length<=80*80:=SR (by rw[Pu];omega) hS;refine⟨_,rfl,.inl ⟨rfl,_,aZ.of w0⟩,?_⟩;have Ky:=Z _ _ hb;refine⟨_,rfl,b,rfl,⟨_,aZ.of Ky⟩,λD2 Co=>b8 (K:=K) (a:=b) (xs:=nV S) (λj σ H5=>∃v:Option V,σ=[v,Ya (.int (u:Nat))]/\aE U H5/\aI.ft pf H5 D2 ((S.take j).map (Th.ord u))) ⟨none,rfl,ai Co,aI.ft.nil ag⟩ (λj σ H5 _ zq=>by obtain⟨_,_,s5,_⟩:=zq;exact aZ.of (s5 _ _ Ky)) ?_ ?_⟩
  .rintro j y σ H5 hy ⟨v,rfl,s5,h5⟩;obtain⟨z,hz,rfl⟩:=cX hy;refine⟨_,rfl,_,rfl,u,z,rfl,λl H6 hl s6 NH=>?_⟩;obtain⟨ws,y1,y2,y3⟩:=(h5.same s6).snoc (t:=l) (x:=Th.ord u z) NH;refine⟨ws,y1,aY (by rw[y2,OH,Pu];omega),Ya (.int (z:Nat)),rfl,(s5.trans s6).upd Co,?_⟩;rw[aI.take_snoc hz,O5];exact y3
  rintro σ H5 ⟨v,rfl,s5,h5⟩;rw[aS,Pc]at h5;obtain⟨as,bs,g1,g2,g3,g4,g5⟩:=(h2.same s5).ext h5;refine⟨D,D2,as,bs,rfl,rfl,g1,g2,?_,Ya (.int (u:Nat)),rfl,(Z.trans s5).upd hD,?_⟩
  .rw[g3,g4,<-OQ,<-es];have:6400<=sizeLine:=by decide
   omega
  rw[es];exact g5
 rintro σ U ⟨v3,rfl,Z,h2⟩;rw[aS,Pc]at h2;exact⟨_,rfl,k D U hD Z h2⟩
theorem tM{f f1:Um}{fd iu:Uz}(B:Bl mg)(F:Fn K mg "least_pair" gx ["work","deed"] f fd)(D:Fn K mg "freed_ends" dU ["work","deed"] f1 iu):aO P w K mg base dq 2 f fd ["work","deed"] (aI.pG K):=by
 have G:aO P w K mg base dq 1 f1 iu ["work","deed"] (nI K):=mq D;refine F.fn.ok jc (λvs H Q E h=>?_) (λje A outer s H vs Q E hr h=>?_)
 .obtain⟨a,d,n,p,q,ms,rfl,_⟩:=h
  rfl
 obtain⟨a,d,n,p,q,ms,rfl,hS,W,hD,hp,hq,k⟩:=h;have hu:=jY hr;refine⟨_,(ah (aJ (i:=2) jc.nd rfl (Or.inl rfl) (bC (ae (cg eo (pv 1) ao (λ_ _=>rfl)) (ae (cg eo (pv 1) ao (λ_ _=>rfl)) af))))
  (ah (aJ (i:=3) jc.nd rfl (Or.inl rfl) (bo G D (hr.mono (by decide)) (ae (pv 0) (ae (pv 1) af))))
  (ah (bS (aM jW (aL aH rfl B.len bD (ae (pv 3) af)) ao (aQ _)) (aA (aU (pv 2))) bg)
  (aA (aU (aL (zi rfl hu) rfl B.min vd (ae (pv 2) (ae (bC (ae (aL (zj rfl) rfl B.min vd (ae (pv 3) af)) (ae (aL (zk rfl) rfl B.max yU (ae (pv 3) af)) af))) af)))))))),?_⟩
 refine⟨_,rfl,d,_,_,_,rfl,rfl,hD,rfl,_,rfl,d,_,_,_,rfl,rfl,hD,rfl,(by show 2<=Uu;decide),λJ O=>?_⟩;have s1:aE H (upd H J (.tup [.int (p:Nat),.int (q:Nat)])):=ai O;have e1:upd H J (.tup [.int (p:Nat),.int (q:Nat)]) J=Ya (.tup [.int (p:Nat),.int (q:Nat)]):=ag;generalize upd H J (.tup [.int (p:Nat),.int (q:Nat)])=H1 at s1 e1;refine⟨_,rfl,_,rfl,a,d,n,ms,p,q,rfl,s1.tup hS,W,s1.tup hD,hp,hq,λfr H2 Cf s2 V=>?_⟩;have U:=s1.trans s2;have ec:=aI.oK ms p q;refine⟨_,rfl,fr,_,rfl,.inl (aZ.of V),_,_,rfl,rfl,_,rfl,?_⟩;by_cases c:ar ms p≠p/\ar ms q≠q
 .rw[Uk c.1,Uk c.2]at ec;rw[ec]at V;have V:H2 fr=Ya (.lst [.int (ar ms p:Nat),.int (ar ms q:Nat)]):=V;refine cY (Up (by rw[aS,ec];show¬((2:Nat):Int)<2;decide)) ?_;refine⟨_,rfl,_,rfl,fr,_,_,rfl,aZ.of V,_,rfl,fr,_,_,rfl,aZ.of V,(by show 2<=Uu;decide),λpp hpp=>?_⟩;have s3:=ai (o:=.tup [.int (min ((ar ms p:Nat):Int) (ar ms q:Nat)),.int (max ((ar ms p:Nat):Int) (ar ms q:Nat))]) hpp;have e3:upd H2 pp (.tup [.int (min ((ar ms p:Nat):Int) (ar ms q:Nat)),.int (max ((ar ms p:Nat):Int) (ar ms q:Nat))]) pp=Ya (.tup (pf (bQ ms p q))):=by
   rw[ag];unfold pf bQ;simp only;rw[show min ((ar ms p:Nat):Int) (ar ms q:Nat)=((min (ar ms p) (ar ms q):Nat):Int) by omega (config:={}),show max ((ar ms p:Nat):Int) (ar ms q:Nat)=((max (ar ms p) (ar ms q):Nat):Int) by omega (config:={})]
  generalize upd H2 pp (.tup [.int (min ((ar ms p:Nat):Int) (ar ms q:Nat)),.int (max ((ar ms p:Nat):Int) (ar ms q:Nat))])=H3 at s3 e3;have qf:=U.trans s3;have e1':=s3 _ _ (s2 _ _ e1);refine⟨J,pp,_,_,_,_,rfl,br.of e1',br.of e3,?_⟩;have Z:eu ms p q=if((bQ ms p q).1:Int)<(p:Nat)\/((bQ ms p q).1:Int)=(p:Nat)/\((bQ ms p q).2:Int)<(q:Nat)then bQ ms p q else(p,q):=by
   unfold eu;rw[Uo c];by_cases d:(bQ ms p q).1<p\/((bQ ms p q).1=p/\(bQ ms p q).2<q)
   .rw[Uo d,Uo (by omega)]
   rw[Uk d,Uk (by omega)]
  by_cases d:((bQ ms p q).1:Int)<(p:Nat)\/((bQ ms p q).1:Int)=(p:Nat)/\((bQ ms p q).2:Int)<(q:Nat)
  .rw[Uo d]at Z⊢;exact k pp H3 (U.free hpp) qf (by rw[Z];exact e3)
  rw[Uk d]at Z⊢;exact k J H3 O qf (by rw[Z];exact e1')
 have Z:eu ms p q=(p,q):=by unfold eu;rw[Uk c]
 have hlen:(vp ms p q).length<2:=by
  rw[ec];by_cases c1:ar ms p=p
  .rw[Uo c1];split <;> simp
  rw[Uk c1];have c2:ar ms q=q:=OU λz=>c ⟨c1,z⟩;rw[Uo c2];simp
 refine dH (Ul (by rw[aS];omega)) ?_;exact⟨_,rfl,k J H2 O U (by rw[Z];exact s2 _ _ e1)⟩
end
section
variable {P:Ux}{w:UA}{K:OJ}{mg:UI->Option Uj}{base:UH}
theorem wg{f fM fR fC C fF:Um}{fd U fdR fdC fdF:Uz}(B:Bl mg)(Z:vi K mg "BadDeed" C)(F:Fn K mg "reclasped" dJ ["work","deed"] f fd)(FF:Fn K mg "fits_work" eO ["work","deed"] fF fdF)(FM:Fn K mg "refuse_misfit" d7 ["work","deed"] fM U)
  (FR:Fn K mg "freed_ends" dU ["work","deed"] fR fdR) (FC:Fn K mg "clasp_ends" gv ["mates","one","other"] fC fdC):aO P w K mg base (gh P w) 3 f fd ["work","deed"] (oM K C):=by
 have GM:aO P w K mg base (gh P w) 2 fM U ["work","deed"] (aI.xF K C):=o8 B Z FM FF;have GR:aO P w K mg base dq 1 fR fdR ["work","deed"] (nI K):=mq FR;have GC:aO P w K mg base dq 1 fC fdC ["mates","one","other"] nJ:=tK FC;refine F.fn.oF jP (λvs H Q E h=>?_) (λje A outer s H vs Q E hr h own=>?_)
 .obtain⟨a,d,n,ms,p,q,rfl,_⟩:=h
  rfl
 obtain⟨a,d,n,ms,p,q,rfl,hS,W,hD,sp,sq,kg,kb⟩:=h;have J:eJ 1 _:=hr.mono (by decide);refine⟨_,ah (bh (g8 GM FM hr (ae (pv 0) (ae (pv 1) af))))
  (ah (aJ (i:=2) jP.nd rfl (Or.inl rfl) (b7 uY rfl B.list vc (ae (pv 0) af)))
  (ah (aJ (i:=3) jP.nd rfl (Or.inl rfl) (bo GR FR J (ae (pv 0) (ae (pv 1) af))))
  (ah (bS (aM iY (aL aH rfl B.len bD (ae (pv 3) af)) ao (aQ _)) (aA (bh (bo GC FC J (ae (pv 2) (ae (cg eE (pv 3) ao (λ_ _=>rfl)) (ae (cg eE (pv 3) (z9 uR ao) (λ_ _=>rfl)) af)))))) bg)
  (ah (bh (bo GC FC J (ae (pv 2) (ae (cg eo (pv 1) ao (λ_ _=>rfl)) (ae (cg eo (pv 1) ao (λ_ _=>rfl)) af)))))
  (aA (aU (b7 mh rfl B.tuple eL (ae (pv 2) af)))))))),?_⟩
 refine⟨_,rfl,_,rfl,a,d,n,ms,p,q,rfl,hS,W,hD,sp,sq,λhf=>?_,kb⟩;obtain⟨x,y,rfl,rfl,LU,hy,jf⟩:=hf.nat;have k:=kg hf;rw[Pq,Pq]at k;have hx:x<2*n:=by omega
 refine⟨_,rfl,a,_,rfl,.inr hS,λl hl=>?_⟩;have s1:aE H (upd H l (.lst (nV ms))):=ai hl;refine⟨_,rfl,_,rfl,a,d,n,ms,x,y,rfl,s1.tup hS,W,br.of (s1 _ _ hD),hx,hy,λlf H2 hlf s2 h2=>?_⟩;have uZ:=s2 _ _ (show upd H l (.lst (nV ms)) l=Ya (.lst (nV ms))from ag);have nll:l≠lf:=aW ag hlf;have wj:=s1.trans s2;have fin:∀(O:Hp) (m1:List Nat),aE H O->O l=Ya (.lst (nV m1))->m1.length=2*n->hH m1 x y=bN ms x y ->
   ((FE (Hn (tW nJ [] E0 (tV (CA 2) (tV (Kk (Ga K) (CA 1) (tC (.int 0))) (tV (Kk (Ga K) (CA 1) (tC (.int 1))) FL))))) (KZ (λσ H Q=>∃v,σ[2]?=Ya (Ya v)/\∃p ys,[v]=[V.ref p]/\((aZ K H p ys/\∀l,H l=none->Q (.ref l) (upd H l (.tup ys)))\/(br K H p ys/\Q (.ref p) H)))))
    { nx:=λ_ H'=>Q .g6 H',rt:=Q } [Ya (.ref a),Ya (.ref d),Ya (.ref l),Ya (.ref lf)] O):=λO m1 s3 h3 hlen Gp=>by
  refine⟨_,rfl,_,rfl,d,_,_,_,rfl,rfl,br.of (s3 _ _ hD),rfl,_,rfl,d,_,_,_,rfl,rfl,br.of (s3 _ _ hD),rfl,l,m1,x,y,rfl,h3,by omega,by omega,λH4 h4 o4=>?_⟩;rw[Gp]at h4;refine⟨_,rfl,l,_,rfl,.inl ⟨aZ.of h4,λr Kz=>?_⟩⟩;have s4:aE H H4:=λb o e=>by
   rw[o4 b (aW e hl)];exact s3 b o e
  exact k r _ (s4.free Kz) (s4.upd (s4.free Kz)) ag
 have D:=aI.y7 W hx hy jf;have hfl:=aI.Gw ms x y;unfold aI.nH at D;refine⟨_,rfl,lf,_,rfl,.inl (aZ.of h2),_,_,rfl,rfl,_,rfl,?_⟩;rw[aS];refine fu (λG=>?_) (λG=>?_)
 .have G:0<(vp ms x y).length:=by have z:=Uw G;omega
  simp only[G,VY]at D;have mem:∀e∈vp ms x y,e<2*n:=λe he=>by
   have lx:=W.wk.lt x hx;have ly:=W.wk.lt y hy;rw[aI.oK]at he
   split at he <;> split at he <;> simp at he <;> omega
  have hg:∀i,i<(vp ms x y).length->(vp ms x y).getD i 0<2*n:=λi hi=>mem _ (OP (ie hi));have a0:uV (nV (vp ms x y)) 0=Ya (.int ((vp ms x y).getD 0 0:Nat)):=hU (j:=0) (vn (ie G));have a1:uV (nV (vp ms x y)) (-1)=Ya (.int ((vp ms x y).getD ((vp ms x y).length-1) 0:Nat)):=jm (by rw[R8];exact ie (by omega));refine⟨_,rfl,_,rfl,lf,_,_,_,rfl,rfl,aZ.of h2,a0,_,rfl,_,rfl,lf,_,_,_,rfl,rfl,aZ.of h2,a1,l,ms,_,_,rfl,uZ,by have:=hg 0 G;rw[W.len];exact this,by have:=hg ((vp ms x y).length-1) (by omega);rw[W.len];exact this,λO h3 o3=>?_⟩;refine fin O _ (λb o e=>?_) h3 (by rw[aI.oJ,W.len]) D;rw[o3 b (aW e hl)];exact wj b o e
 have G:¬ 0<(vp ms x y).length:=λz=>G (Ul (by omega));simp only[G,U1]at D;exact fin H2 ms wj uZ W.len D
end
section
seal L2.mX L2.PS L2.PE L2.PT
variable {P:Ux}{w:UA}{K:OJ}{mg:UI->Option Uj}{base:UH}
theorem oh{f f1 f2 f3 f4 f5 f6 f7 f8 C:Um}{fd iu jw mV zV B6 E1 B8 Cp:Uz}(B:Bl mg)(F:Fn K mg "nearer_deeds" cC ["one","other"] f fd)(b9:Fn K mg "threads" fe ["one","other"] f1 iu)(cG:aO P w K mg base (gh P w) 4 f1 iu ["one","other"] (fL K C))(jx:Fn K mg "ends_in" jt ["laid","kind"] f2 jw)(O:Fn K mg "crossing_pairs" dA ["bare","tied"] f3 mV)(J:Fn K mg "splitting_pairs" di ["ends"] f4 zV)(U:Fn K mg "ordered_pair" cW ["end","mate"] f5 B6)(gZ:Fn K mg "fits_work" eO ["work","deed"] f6 E1)(Z:Fn K mg "least_pair" gx ["work","deed"] f7 B8)(iw:Fn K mg "freed_ends" dU ["work","deed"] f8 Cp) :
  aO P w K mg base (gh P w) 5 f fd ["one","other"] (iC K C):=by
 have uK:aO P w K mg base dq 1 f2 jw ["laid","kind"] aI.xX:=zW B jx;have o9:aO P w K mg base dq 2 f3 mV ["bare","tied"] aI.AM:=og B O U;have oi:aO P w K mg base dq 2 f4 zV ["ends"] aI.AL:=mQ B J U;have yt:aO P w K mg base dq 1 f6 E1 ["work","deed"] (vq K):=n0 B gZ;have wo:aO P w K mg base dq 2 f7 B8 ["work","deed"] (aI.pG K):=tM B Z iw;refine F.fn.oF cJ (λvs H Q E h=>?_) (λje A outer s H vs Q E hr h own=>?_)
 .obtain⟨a,b,n,m,ms,os,rfl,_⟩:=h
  rfl
 obtain⟨a,b,n,m,ms,os,rfl,Hd,hS,W,hO,hm,kg,kb⟩:=h;have op:=iH (E:=E) own;have hu:=jY hr;refine⟨_,(ah (aJ (i:=2) cJ.nd rfl (Or.inl rfl) (g8 cG b9 (hr.mono (by decide)) (ae (pv 0) (ae (pv 1) af))))
  (ah (aJ (i:=3) cJ.nd rfl (Or.inl rfl) (bo uK jx (hr.mono (by decide)) (ae (pv 2) (ae eg af))))
  (ah (aJ (i:=4) cJ.nd rfl (Or.inl rfl) (bo uK jx (hr.mono (by decide)) (ae (pv 2) (ae eg af))))
  (ah (aJ (i:=5) cJ.nd rfl (Or.inl rfl) (bo o9 O (hr.mono (by decide)) (ae (pv 3) (ae (pv 4) af))))
  (ah (b6 op rfl (bp (pv 2)) (jA rfl (aX (aK (i:=6) cJ.nd rfl (Or.inl rfl)) (aX (aK (i:=7) cJ.nd rfl (Or.inl rfl)) dN))) (aA (bh (d5 O7 PN PQ eW (pv 5) (ae (bo oi J (hr.mono (by decide)) (ae (pv 7) af)) af)))))
  (ah (bh (d5 O7 PN PQ eW (pv 5) (ae (eX (NC:=["end"]) rfl (hV rfl (by decide +kernel) (by decide +kernel)) (bp (pv 4)) (λ_ _ _ _=>(aK (i:=0) (show(["end"]:List UI).Nodup by decide +kernel) rfl (Or.inl rfl))) (λ_ _ _ _=>fE) (λ_ _ _ _=>(bC (ae (pv 0) (ae (pv 0) af))))) af)))
  (aA (aU (aL (kU false) rfl B.sorted lF (ae (eX (NC:=["pair","one"]) rfl (jF (c:=s.heap.objs.size+1) (j:=0) rfl (by decide +kernel) (by decide +kernel) rfl rfl rfl rfl rfl) (bp (pv 5)) (λ_ _ _ _=>(aK (i:=0) (show(["pair","one"]:List UI).Nodup by decide +kernel) rfl (Or.inl rfl))) (λ_ _ _ _=>(iZ (PW.pt (jz (iE (bo yt gZ (hr.mono (by decide)) (ae (pv 1) (ae (pv 0) af)))) (iX (aM (pF (K:=K) rfl (Q0 hu)) (bo wo Z (hr.mono (by decide)) (ae (pv 1) (ae (pv 0) af))) (pv 0) (aQ _))))))) (λ_ _ _ _=>(pv 0))) af)))))))))),?_⟩
 refine⟨_,rfl,_,rfl,a,b,n,m,ms,os,rfl,Hd,hS,W,hO,hm,λwe=>?_,λjf=>kb jf⟩;obtain⟨WO,MF,kg⟩:=kg we;refine⟨WO,λl H1 D s1 hI hT hl=>?_⟩;have AT:Th.fK (2*n) (ar ms) (ar os) D:=⟨bJ W WO,hI.1,hI.2⟩
 have fl:=(hI.flat W WO).length_eq;rw[OW]at fl;have el:∀kk,(aV D kk).length<=80:=λkk=>by
  have z:=Th.sub_len (AT.lO kk) (m:=OV (2*n)) λx hx=>by
   obtain⟨th,t1,t2,t3⟩:=Th.bj.mp hx;exact OX.mpr (AT.lt t1 t3)
  rw[OW]at z;omega
 have pl:=(MF D hI).1;refine⟨_,rfl,l,.bare,D,rfl,hT,by omega,λD1 H2 hD1 s2 h2=>?_⟩;refine⟨_,rfl,l,.tied,D,rfl,hT.same s2,by omega,λD2 H3 Co s3 h3=>?_⟩;have h2:=s3 _ _ h2;have Mv:=s2.trans s3;have qf:=s1.trans Mv;refine⟨_,rfl,_,rfl,D1,D2,_,_,rfl,h2,h3,el _,el _,λPP H4 hPP s4 h4=>?_⟩;obtain⟨ts,t1,t2,t3⟩:=(hT.same Mv).at;have pre:∀i,(c6 (aV D .bare) (aV D .tied)++(D.take i).flatMap λth=>bZ th.2).length<=900:=λi=>by
  have e:D.flatMap (λth=>bZ th.2)=(D.take i).flatMap (λth=>bZ th.2)++(D.drop i).flatMap (λth=>bZ th.2):=by rw[<-Q3,RJ]
  have e2:=congrArg Sf e;unfold cU at pl;rw[OQ,OQ]at pl;rw[OQ]at e2⊢;omega
 refine⟨_,rfl,l,rfl,⟨_,aZ.of (s4 _ _ t1)⟩,cw (K:=K) (a:=l) (xs:=ts.map V.ref) (λi σ H5=>∃v6 v7:Option V,σ=[Ya (.ref a),Ya (.ref b),Ya (.ref l),Ya (.ref D1),Ya (.ref D2),Ya (.ref PP),v6,v7]/\aE H3 H5/\aI.ft pf H5 PP (c6 (aV D .bare) (aV D .tied)++(D.take i).flatMap λth=>bZ th.2))
  ⟨none,none,rfl,s4,by rw[List.take_zero,RM,Pj];exact h4⟩ (λi σ H5 _ zq=>by obtain⟨_,_,_,s5,_⟩:=zq;exact aZ.of (s5 _ _ t1)) ?_ ?_⟩
 .rintro i y σ H5 hy ⟨v6,v7,rfl,s5,h5⟩;have hi:i<ts.length:=by have z:=(OI.mp hy).1;rw[OH]at z;exact z
  obtain⟨th,B7⟩:∃th,D[i]?=Ya th:=⟨_,OG (by omega)⟩
  obtain⟨tt,te,e1,e2,e3⟩:=t3 i th B7;rw[OR,e1]at hy;obtain rfl:=Option.some.inj hy;obtain⟨Kv,w0,_⟩:=h5.len;have G:=hI.good W WO (OP B7);have thl:th.2.length<=80:=by
   have z:=Th.sub_len G.nd (m:=OV (2*n)) λx hx=>OX.mpr (G.lt x hx);rw[OW]at z;omega
  refine⟨_,_,rfl,br.of (s5 _ _ e2),rfl,_,_,rfl,_,_,rfl,rfl,?_⟩;refine⟨_,rfl,.inl ⟨rfl,_,aZ.of w0⟩,_,rfl,te,th.2,rfl,s5 _ _ e3,thl,λD3 H6 hD3 s6 h6=>?_⟩;obtain⟨as,bs,g1,g2,g3,g4,g5⟩:=(h5.same s6).ext h6;have es:c6 (aV D .bare) (aV D .tied)++(D.take (i+1)).flatMap (λth=>bZ th.2)=(c6 (aV D .bare) (aV D .tied)++(D.take i).flatMap λth=>bZ th.2)++bZ th.2:=by
   rw[aI.take_snoc B7,Q3,PM,QI,RM,Pj]
  refine⟨PP,D3,as,bs,rfl,rfl,g1,g2,?_,Ya (.str (ks th.1)),Ya (.ref te),rfl,(s5.trans s6).upd hPP,?_⟩
  .have z:=pre (i+1);rw[es,OQ]at z;rw[g3,g4];have:1000<=sizeLine:=by decide
   omega
  rw[es];exact g5
 rintro σ H5 ⟨v6,v7,rfl,s5,h5⟩;rw[OH,t2,Pc]at h5;obtain⟨Kv,w0,_⟩:=h5.len;have h35:=s5 _ _ h3;refine⟨_,rfl,.inl ⟨rfl,_,aZ.of w0⟩,_,rfl,D2,rfl,⟨_,aZ.of h35⟩,λD4 hD4=>b8 (K:=K) (a:=D2) (xs:=nV (aV D .tied)) (λj σ H6=>∃v:Option V,σ=[v]/\aE H5 H6/\aI.ft pf H6 D4 (((aV D .tied).take j).map λe=>(e,e))) ⟨none,rfl,ai hD4,aI.ft.nil ag⟩ (λj σ H6 _ zq=>by obtain⟨_,_,s6,_⟩:=zq;exact aZ.of (s6 _ _ h35)) ?_ ?_⟩
 .rintro j y σ H6 hy ⟨v,rfl,s6,h6⟩;obtain⟨z,hz,rfl⟩:=cX hy;refine⟨_,rfl,_,rfl,(by show 2<=Uu;decide),λtp lh=>?_⟩;have s7:aE H6 (upd H6 tp (.tup [.int (z:Nat),.int (z:Nat)])):=ai lh;obtain⟨ws,y1,y2,y3⟩:=(h6.same s7).snoc (t:=tp) (x:=(z,z)) ag;have ez:=el .tied;refine⟨ws,y1,aY (by rw[y2,OH,Pu];omega),Ya (.int (z:Nat)),rfl,(s6.trans s7).upd hD4,?_⟩;rw[aI.take_snoc hz,O5];exact y3
 rintro σ H6 ⟨v,rfl,s6,h6⟩;rw[aS,Pc]at h6;obtain⟨as,bs,g1,g2,g3,g4,g5⟩:=(h5.same s6).ext h6;have s36:=s5.trans s6;refine⟨PP,D4,as,bs,rfl,rfl,g1,g2,?_,?_⟩
 .unfold cU at pl;rw[OQ]at pl;rw[g3,g4];have:1000<=sizeLine:=by decide
  omega
 have s7:aE H3 (upd H6 PP (.lst (as++bs))):=s36.upd hPP;have h7:aI.ft pf (upd H6 PP (.lst (as++bs))) PP (cU D):=g5;generalize upd H6 PP (.lst (as++bs))=H7 at s7 h7;have s17:=qf.trans s7;obtain⟨ps,p1,p2,p3⟩:=h7;have hS7:=s17.tup hS;refine⟨_,rfl,PP,rfl,⟨_,aZ.of p1⟩,λD5 hD5=>b8 (K:=K) (a:=PP) (xs:=ps.map V.ref) (λj σ H8=>∃v:Option V,σ=[v,Ya (.ref a)]/\aE H7 H8/\aI.ft pf H8 D5 (((cU D).take j).filter (bA n ms))) ⟨none,rfl,ai hD5,aI.ft.nil ag⟩ (λj σ H8 _ zq=>by obtain⟨_,_,s8,_⟩:=zq;exact aZ.of (s8 _ _ p1)) ?_ ?_⟩
 .rintro j y σ H8 hy ⟨v,rfl,s8,h8⟩;have hj:j<ps.length:=by have z:=(OI.mp hy).1;rw[OH]at z;exact z
  obtain⟨c,hc⟩:∃c,(cU D)[j]?=Ya c:=⟨_,OG (by omega)⟩
  have e2:=p3 j _ c (OG hj) hc;rw[OR,OG hj]at hy;obtain rfl:=Option.some.inj hy;obtain⟨b1,b2⟩:=AT.bound (OP hc);have e8:=s8 _ _ e2;have hS8:=s8.tup hS7;have no:bA n ms c=false->((cU D).take (j+1)).filter (bA n ms)=((cU D).take j).filter (bA n ms):=λh=>by
   rw[aI.take_snoc hc,O9,Pf (by rw[h];decide),Qo,Pj]
  refine⟨_,rfl,_,rfl,a,_,n,ms,(c.1:Nat),(c.2:Nat),rfl,hS8,W,br.of e8,?_⟩;refine⟨_,rfl,?_⟩;by_cases hf:aI.Fits n ms (c.1:Nat) (c.2:Nat)
  .refine dH (Ul hf) ?_;refine⟨_,rfl,_,rfl,a,_,n,c.1,c.2,ms,rfl,hS8,W,br.of e8,by omega,by omega,λlq H9 HG s9 hl9=>?_⟩;refine⟨_,rfl,lq,_,[((eu ms c.1 c.2).1:Int),((eu ms c.1 c.2).2:Int)],[(c.1:Int),(c.2:Int)],rfl,rfl,br.of hl9,br.of (s9 _ _ e8),_,rfl,?_⟩;by_cases hq:eu ms c.1 c.2=c
   .have ok:bA n ms c=true:=by unfold bA;rw[Ul hf,Ul hq];rfl
    refine dH (by show decide _=true;exact Ul (by rw[hq])) ?_;obtain⟨ws,y1,y2,y3⟩:=(h8.same s9).snoc (t:=ps[j]) (x:=c) (s9 _ _ e8);have hfl:=Pm (bA n ms) ((cU D).take j);rw[Pu]at hfl;refine⟨_,rfl,ws,y1,aY (by rw[y2];omega),Ya (.ref ps[j]),rfl,(s8.trans s9).upd hD5,?_⟩;rw[aI.take_snoc hc,O9,Pe ok,Qo];exact y3
   have ok:bA n ms c=false:=by unfold bA;rw[Up hq,RG]
   refine cY (by show decide _=false;exact Up (λz=>hq (by
    injection z with z1 z2;injection z2 with z2 _;exact R4 (by omega) (by omega)))) ?_
   exact⟨Ya (.ref ps[j]),rfl,s8.trans s9,by rw[no ok];exact h8.same s9⟩
  have ok:bA n ms c=false:=by unfold bA;rw[Up hf,Qw]
  refine cY (Up hf) ?_;exact cY rfl ⟨Ya (.ref ps[j]),rfl,s8,by rw[no ok];exact h8⟩
 rintro σ H8 ⟨v,rfl,s8,h8⟩;rw[OH,p2,Pc]at h8;obtain⟨us,u1,u2,u3⟩:=h8;have hfl:=(MF D hI).2;refine⟨D5,us,aI.L0 H8,rfl,aZ.of u1,by omega,λt ht=>?_,λws l' hp hs Kx=>?_⟩
 .obtain⟨i,hi,rfl⟩:=Rr ht;have Cj:i<((cU D).filter (bA n ms)).length:=by omega
  have e:=u3 i _ _ (OG hi) (OG Cj);have bd:=AT.bound (OZ.mp (Rp Cj)).1;exact⟨_,e,by rw[aI.zm e];exact aI.Jv (by omega)⟩
 obtain⟨ys,y1,y2,y3⟩:=aI.GD u2 u3 hp hs Kx;have s18:=s17.trans s8;exact kg l' _ (s18.free Kx) (s18.upd (s18.free Kx)) (by rw[<-gB.BX W WO hI y1 y2];exact y3)
theorem pO{f:Um}{fd:Uz}(B:Bl mg)(F:Fn K mg "has_both" fN ["laid"] f fd):aO P w K mg base dq 1 f fd ["laid"] vD:=by
 refine F.fn.ok pM (λvs H Q E h=>?_) (λje A outer s H vs Q E hr h=>?_)
 .obtain⟨l,G,rfl,_⟩:=h
  rfl
 obtain⟨l,G,rfl,hT,hlen,k⟩:=h;refine⟨_,(ah (jG (ix:=1) (NC:=["kind","ends"]) pM.nd rfl (Or.inl rfl) rfl (hV rfl (by decide +kernel) (by decide +kernel)) (bp (pv 0)) (λ_ _ _ _=>(jE (K:=K) (n:=2) rfl rfl (aX (aK (i:=0) (show(["kind","ends"]:List UI).Nodup by decide +kernel) rfl (Or.inl rfl)) (aX (aK (i:=1) (show(["kind","ends"]:List UI).Nodup by decide +kernel) rfl (Or.inl rfl)) dN)))) (λ_ _ _ _=>fE) (λ_ _ _ _=>(pv 0)))
  (aA (aU (qP (eV lE eg (pv 1) (by with_unfolding_all rfl)) (mD (eV lE eg (pv 1) (by with_unfolding_all rfl))))))),?_⟩
 obtain⟨ts,t1,t2,t3⟩:=hT.at;refine⟨_,rfl,l,rfl,⟨_,aZ.of t1⟩,λD hD=>b8 (K:=K) (a:=l) (xs:=ts.map V.ref) (λi σ J=>∃v0 v1:Option V,σ=[v0,v1]/\aE H J/\J D=Ya (.lst ((G.take i).map λth=>V.str (ks th.1)))) ⟨none,none,rfl,ai hD,ag⟩ (λi σ J _ zq=>by obtain⟨_,_,_,O,_⟩:=zq;exact aZ.of (O _ _ t1)) ?_ ?_⟩
 .rintro i y σ J hy ⟨v0,v1,rfl,O,U⟩;have hi:i<ts.length:=by have z:=(OI.mp hy).1;rw[OH]at z;exact z
  obtain⟨th,Z⟩:∃th,G[i]?=Ya th:=⟨_,OG (by omega)⟩
  obtain⟨tt,te,e1,e2,e3⟩:=t3 i th Z;rw[OR,e1]at hy;obtain rfl:=Option.some.inj hy;refine⟨_,_,rfl,br.of (O _ _ e2),rfl,_,_,rfl,_,_,rfl,rfl,?_⟩;refine⟨_,rfl,_,U,aY (by rw[OH,Pu];omega),_,_,rfl,O.upd hD,?_⟩;rw[ag,aI.take_snoc Z,O5]
  rfl
 rintro σ J ⟨v0,v1,rfl,O,U⟩;rw[OH,t2,Pc]at U;have e:(G.map λth=>V.str (ks th.1))=(G.map (·.1)).map λx=>V.str (ks x):=by rw[Pp];rfl
 rw[e]at U;refine⟨_,rfl,D,_,rfl,.inl (aZ.of U),rfl,iJ _,?_⟩;have i1:=iz .bare (G.map (·.1));have i2:=iz .tied (G.map (·.1));refine⟨_,rfl,?_⟩;show(if Hv (V.str (ks .bare)) _=true then _ else _);rw[i1];by_cases hb:Th.Kd.bare∈G.map (·.1)
 .have e0:aI.both (G.map (·.1))=decide (Th.Kd.tied∈G.map (·.1)):=by unfold aI.both;rw[Ul hb,Tb]
  rw[Ul hb];refine dH rfl ?_;refine⟨_,rfl,D,_,rfl,.inl (aZ.of U),rfl,iJ _,?_⟩;show Q (V.bl (Hv (V.str (ks .tied)) _)) J;rw[i2,<-e0];exact k J O
 have e0:aI.both (G.map (·.1))=false:=by unfold aI.both;rw[Up hb,Qw]
 rw[Up hb];refine cY rfl ?_;show Q (V.bl false) J;rw[<-e0];exact k J O
theorem qg{f:Um}{G:Uz}(B:Bl mg)(F:Fn K mg "lacked_deeds" dB ["thread"] f G):aO P w K mg base dq 1 f G ["thread"] aI.x9:=by
 refine F.fn.ok j6 (λO H Q E h=>?_) (λU A outer s H O Q E hr h=>?_)
 .obtain⟨t,e,kd,L,rfl,_⟩:=h
  rfl
 obtain⟨t,e,kd,L,rfl,J,V,Z,k⟩:=h;have D:((nV L).length:Int)=L.length:=by rw[aS]
 refine⟨_,(ah (aJ (i:=1) j6.nd rfl (Or.inl rfl) (aT dO (aL aH rfl B.len bD (ae (cg eo (pv 0) ao (λ_ _=>rfl)) af)) ao))
  (aA (aU (mZ (aM fm (cg eo (pv 0) ao (λ_ _=>rfl)) eg (aQ _)) (aT kC (pv 1) ao) (pv 1))))),?_⟩
 refine⟨_,rfl,t,_,_,_,rfl,rfl,br.of J,rfl,e,_,rfl,.inr (br.of V),_,_,rfl,rfl,(by show(0:Int)<2/\(2:Int)<1073741824;decide),?_⟩;refine⟨_,rfl,t,_,_,_,rfl,rfl,br.of J,rfl,rfl,?_⟩;by_cases c:kd=.ring
 .subst c;refine⟨_,rfl,dH (by decide) ?_⟩;refine⟨_,rfl,_,_,rfl,rfl,?_⟩;dsimp only;have h2:=Z rfl;rw[D,show(L.length:Int)/2-1=((cT (.ring,L):Nat):Int) by unfold cT;rw[Uo rfl];simp only;omega];exact k
 refine⟨_,rfl,cY ?_ ?_⟩
 .cases kd
  .exact Us rfl c
  .decide
  .decide
  decide
 refine⟨_,rfl,?_⟩;dsimp only;rw[D,show(L.length:Int)/2=((cT (kd,L):Nat):Int) by unfold cT;rw[Uk c];simp only;omega];exact k
theorem zX{f:Um}{J:Uz}(B:Bl mg)(F:Fn K mg "choices" gF ["many","chosen"] f J):aO P w K mg base dq 1 f J ["many","chosen"] aI.uq:=by
 refine F.fn.ok jR (λO H Q E h=>?_) (λU A outer s H O Q E hr h=>?_)
 .obtain⟨x,c,rfl,_⟩:=h
  rfl
 obtain⟨x,c,rfl,hc,k⟩:=h;refine⟨_,(ah (aJ (i:=2) jR.nd rfl (Or.inl rfl) ao)
  (ah (b6 PassesOwn.never rfl (tT rfl B.range (ae ao (ae (aT eH (pv 1) ao) af))) (aK (i:=3) jR.nd rfl (Or.inl rfl)) (aA (aJ (i:=2) jR.nd rfl (Or.inl rfl) (aT dO (aT fq (pv 2) (aT eH (aT kC (pv 0) (pv 1)) (pv 3))) (pv 3)))))
  (aA (aU (pv 2))))),?_⟩
 refine⟨_,rfl,_,_,rfl,rfl,_,_,rfl,⟨by omega,by omega,by omega,by omega⟩,fW (lo:=1) (n:=(((c:Int)+1)-1).toNat) (λi σ D=>∃G:Option V,σ=[Ya (.int ((x+c:Nat):Int)),Ya (.int (c:Nat)),Ya (.int (Th.ch (x+i) i:Nat)),G]/\D=H) ⟨none,by rw[Th.qC];rfl,rfl⟩ ?_ ?_⟩
 .rintro i σ D hi ⟨G,rfl,rfl⟩;have Z:i<c:=by omega
  refine⟨_,rfl,_,rfl,_,rfl,_,_,rfl,rfl,_,rfl,_,_,rfl,rfl,_,_,rfl,rfl,.inr ⟨by omega,by omega⟩,_,rfl,_,_,rfl,rfl,⟨by omega,by omega⟩,Ya (.int (1+(i:Int))),?_,rfl⟩;dsimp only;have e:=Th.Gz x i 1;rw[TC,TC]at e;rw[show((Th.ch (x+i) i:Nat):Int)*(((x+c:Nat):Int)-(c:Nat)+(1+(i:Nat)))/(1+(i:Nat))=((Th.ch (x+(i+1)) (i+1):Nat):Int) by
   rw[<-e,show(((x+c:Nat):Int)-(c:Nat)+(1+(i:Nat)))=((x+i+1:Nat):Int) by omega,show(1+(i:Nat):Int)=((i+1:Nat):Int) by omega,<-Rj,<-Int.natCast_ediv]]
  rfl
 rintro σ D ⟨G,rfl,rfl⟩;rw[show(((c:Int)+1)-1).toNat=c by omega];exact⟨_,rfl,k⟩
theorem yu{f:Um}{J:Uz}(B:Bl mg)(F:Fn K mg "own_rows" fO ["lack"] f J):aO P w K mg base dq 1 f J ["lack"] DX:=by
 refine F.fn.ok i7 (λO H Q E h=>?_) (λU A outer s H O Q E Z h=>?_)
 .obtain⟨c,rfl,_⟩:=h
  rfl
 obtain⟨c,rfl,hc,k⟩:=h;refine⟨_,(ah (aJ (i:=1) i7.nd rfl (Or.inl rfl) ao)
  (ah (b6 PassesOwn.never rfl (fV rfl B.range (ae (aT kC (pv 0) ao) af)) (aK (i:=2) i7.nd rfl (Or.inl rfl)) (aA (qQ (i:=1) i7.nd rfl (Or.inl rfl) (aT eH (pv 0) ao) Ab)))
  (aA (aU (pv 1))))),?_⟩
 refine⟨_,rfl,_,_,rfl,rfl,_,rfl,by omega,by omega,fW (lo:=0) (n:=((c:Int)-1).toNat) (λi σ D=>∃G:Option V,σ=[Ya (.int (c:Nat)),Ya (.int (((c+1) ^ i:Nat):Int)),G]/\D=H) ⟨none,rfl,rfl⟩ ?_ ?_⟩
 .rintro i σ D hi ⟨G,rfl,rfl⟩;refine⟨_,rfl,_,rfl,_,_,rfl,rfl,_,_,rfl,rfl,.inr ⟨by omega,by omega⟩,Ya (.int (0+(i:Int))),?_,rfl⟩;dsimp only;rw[show(((c+1) ^ i:Nat):Int)*((c:Int)+1)=(((c+1) ^ (i+1):Nat):Int) by rw[TZ,Rj];rfl]
  rfl
 rintro σ D ⟨G,rfl,rfl⟩;rw[show((c:Int)-1).toNat=c-1 by omega];exact⟨_,rfl,k⟩
theorem pb{f f1 f2:Um}{fd Z jw:Uz}(B:Bl mg)(F:Fn K mg "shuffled_rows" c9 ["lacks"] f fd)(G:Fn K mg "choices" gF ["many","chosen"] f1 Z)(D:Fn K mg "own_rows" fO ["lack"] f2 jw):aO P w K mg base dq 2 f fd ["lacks"] zt:=by
 have O:aO P w K mg base dq 1 f1 Z ["many","chosen"] aI.uq:=zX B G;have J:aO P w K mg base dq 1 f2 jw ["lack"] DX:=yu B D;refine F.fn.ok cP (λvs H Q E h=>?_) (λje A outer s H vs Q E hr h=>?_)
 .obtain⟨l,U,rfl,_⟩:=h
  rfl
 obtain⟨l,U,rfl,hl,hs,k⟩:=h;refine⟨_,(ah (aJ (i:=1) cP.nd rfl (Or.inl rfl) ao)
  (ah (aJ (i:=2) cP.nd rfl (Or.inl rfl) ao)
  (ah (b6 PassesOwn.never rfl (bp (pv 0)) (aK (i:=3) cP.nd rfl (Or.inl rfl)) (ah (qQ (i:=2) cP.nd rfl (Or.inl rfl) (pv 3) Aa)
  (aA (qQ (i:=1) cP.nd rfl (Or.inl rfl) (aT fq (bo O G (hr.mono (by decide)) (ae (pv 2) (ae (pv 3) af))) (bo J D (hr.mono (by decide)) (ae (pv 3) af))) Ab))))
  (aA (aU (pv 1)))))),?_⟩
 refine⟨_,rfl,l,rfl,⟨_,aZ.of hl⟩,cw (K:=K) (a:=l) (xs:=nV U) (λi σ H3=>∃v3:Option V,σ=[Ya (.ref l),Ya (.int (jJ 1 0 (U.take i):Nat)),Ya (.int ((U.take i).sum:Nat)),v3]/\H3=H) ⟨none,rfl,rfl⟩ (λi σ H3 _ ⟨_,_,z⟩=>by rw[z];exact aZ.of hl) ?_ ?_⟩
 .rintro i y σ H3 hy ⟨v3,rfl,rfl⟩;obtain⟨x,hx,rfl⟩:=cX hy;have e1:(U.take (i+1)).sum=(U.take i).sum+x:=by rw[aI.take_snoc hx,Rh,S8]
  have e2:jJ 1 0 (U.take (i+1))=jJ 1 0 (U.take i)*(Th.ch ((U.take i).sum+x) x*(x+1) ^ (x-1)):=by rw[aI.take_snoc hx,Th.oP,Qh]
  have hle:(U.take (i+1)).sum<=12:=by
   have z:=congrArg List.sum (RJ (i+1) U);rw[Rh]at z;omega
  have aaT:x<=12:=by omega
  have b1:Th.ch ((U.take i).sum+x) x<=2 ^ 12:=PD (Th.DM _ _) (SO (by decide) (by omega));have b2:(x+1) ^ (x-1)<=13 ^ 11:=PD (Nat.pow_le_pow_left (by omega) _) (SO (by decide) (by clear hs e1 e2 hle b1;omega (config:={})));have b3:Th.ch ((U.take i).sum+x) x*(x+1) ^ (x-1)<=2 ^ 12*13 ^ 11:=SR b1 b2;have b4:(2:Nat) ^ 12*13 ^ 11<2 ^ 64:=by decide
  have b5:(2:Nat) ^ 12<2 ^ 64:=by decide
  refine⟨_,rfl,_,rfl,_,_,rfl,rfl,?_⟩;refine⟨_,rfl,_,rfl,_,rfl,(U.take i).sum,x,?_,by omega,?_⟩
  .dsimp only;rw[TH]
   rfl
  refine⟨_,rfl,x,rfl,aaT,_,_,rfl,rfl,.inl ⟨by omega,by omega⟩,_,_,rfl,rfl,.inr ⟨?_,?_⟩,Ya (.int (x:Nat)),?_,rfl⟩
  .rw[<-Rj];omega
  .rw[<-Rj];omega
  dsimp only;rw[e1,e2];simp only[Rj,TH]
  rfl
 rintro σ H3 ⟨v3,rfl,rfl⟩;rw[aS,Pc];exact⟨_,rfl,k⟩
end
section
seal L2.mX L2.PS L2.PE L2.PT L2.PA
open NK
variable {P:Ux}{w:UA}{K:OJ}{mg:UI->Option Uj}{base:UH}
theorem iR{f f1 f2 f3 f4 f5 f6 f7 f8 C CB:Um}{fd iu jw mV zV B6 E1 B8 Cp:Uz}(B:Bl mg)(O:Fn K mg "rows_between" cD ["one","other","counts"] f fd)(b9:Fn K mg "threads" fe ["one","other"] f1 iu)(cG:aO P w K mg base (gh P w) 4 f1 iu ["one","other"] (fL K C))(dY:Fn K mg "has_both" fN ["laid"] f2 jw)(U:Fn K mg "lacked_deeds" dB ["thread"] f3 mV)(J:Fn K mg "shuffled_rows" c9 ["lacks"] f4 zV)(gG:Fn K mg "choices" gF ["many","chosen"] f5 B6)(fT:Fn K mg "own_rows" fO ["lack"] f6 E1)(dE:Fn K mg "nearer_deeds" cC ["one","other"] f7 B8)(eR:aO P w K mg base (gh P w) 5 f7 B8 ["one","other"] (iC K C))(dM:Fn K mg "reclasped" dJ ["work","deed"] f8 Cp)(eS:aO P w K mg base (gh P w) 3 f8 Cp ["work","deed"] (oM K CB))(j:Nat)(sA:aO P w K mg base dq (5+j) f fd ["one","other","counts"] (aI.A1 P w K j)):aO P w K mg base dq (5+j+1) f fd ["one","other","counts"] (jL P w K j):=by
 have zY:aO P w K mg base dq 1 f2 jw ["laid"] vD:=pO B dY;have sC:aO P w K mg base dq 1 f3 mV ["thread"] aI.x9:=qg B U;have qh:aO P w K mg base dq 2 f4 zV ["lacks"] zt:=pb B J gG fT;refine O.fn.ok fI (λvs H Q E h=>?_) (λje A outer s H vs Q E hr h=>?_)
 .obtain⟨a,b,d,n,ms,os,lV,BB,rfl,_⟩:=h
  rfl
 obtain⟨a,b,d,n,ms,os,lV,BB,rfl,hS,W,hO,WO,hn,h12,hg,hD,hM,hL,k⟩:=h;have hu2:=Qs (RU (by decide:2<=64) _) hr.units;refine⟨_,(ah (aJ (i:=3) fI.nd rfl (Or.inl rfl) (iI cG b9 (hr.mono (by omega)) (ae (pv 0) (ae (pv 1) af))))
  (ah (bS (mC (iE (bo zY dY (hr.mono (by omega)) (ae (pv 3) af)))) (aA (aU (bo qh J (hr.mono (by omega)) (ae (eX (NC:=["thread"]) rfl (hV rfl (by decide +kernel) (by decide +kernel)) (bp (pv 3)) (λ_ _ _ _=>(aK (i:=0) (show(["thread"]:List UI).Nodup by decide +kernel) rfl (Or.inl rfl))) (λ_ _ _ _=>fE) (λ_ _ _ _=>(bo sC U (hr.mono (by omega)) (ae (pv 0) af)))) af)))) bg)
  (ah (aJ (i:=4) fI.nd rfl (Or.inl rfl) (b7 bK rfl B.tuple eL (ae (aL (kU true) rfl B.sorted lF (ae (eX (NC:=["kind","ends"]) rfl (hV rfl (by decide +kernel) (by decide +kernel)) (bp (pv 3)) (λ_ _ _ _=>(jE (K:=K) (n:=2) rfl rfl (aX (aK (i:=0) (show(["kind","ends"]:List UI).Nodup by decide +kernel) rfl (Or.inl rfl)) (aX (aK (i:=1) (show(["kind","ends"]:List UI).Nodup by decide +kernel) rfl (Or.inl rfl)) dN)))) (λ_ _ _ _=>fE) (λ_ _ _ _=>(bC (ae (pv 0) (ae (aL (tq (K:=K) rfl) rfl B.len bD (ae (pv 1) af)) af))))) af)) af)))
  (ah (bS (qO (BR hu2 (pv 4) (pv 2))) (ah (jG (ix:=5) (NC:=["deed","one"]) fI.nd rfl (Or.inl rfl) rfl (jF (c:=s.heap.objs.size+1) (j:=0) rfl (by decide +kernel) (by decide +kernel) rfl rfl rfl rfl rfl) (bp (iI eR dE (hr.mono (by omega)) (ae (pv 0) (ae (pv 1) af)))) (λ_ _ _ _=>(aK (i:=0) (show(["deed","one"]:List UI).Nodup by decide +kernel) rfl (Or.inl rfl))) (λ_ _ _ _=>fE) (λ_ _ _ _=>(iI eS dM (hr.mono (by omega)) (ae (pv 1) (ae (pv 0) af)))))
  (aA (GU hu2 (pv 2) (pv 4) (aL (xr rfl) rfl B.sum Dt (ae (eX (NC:=["work","other","counts"]) rfl (qB (pre:=["work"]) (c:=s.heap.objs.size+2) (e:=s.heap.objs.size+3) (j:=1) (k:=2) rfl (by decide +kernel) (by decide +kernel) rfl rfl rfl rfl rfl rfl rfl rfl rfl) (bp (pv 5)) (λ_ _ _ _=>(aK (i:=0) (show(["work","other","counts"]:List UI).Nodup by decide +kernel) rfl (Or.inl rfl))) (λ_ _ _ _=>fE) (λ_ _ _ _=>(bo sA O (hr.mono (by omega)) (ae (pv 0) (ae (pv 1) (ae (pv 2) af)))))) af)) rfl))) bg)
  (aA (aU (GS hu2 (pv 2) (pv 4) (λ_ _=>rfl)))))))),?_⟩
 refine⟨_,rfl,_,rfl,a,b,n,n,ms,os,rfl,by omega,hS,W,hO,WO.len,λ_=>⟨WO,λl H1 Z s1 hI hT hl=>?_⟩,λz=>Us rfl z⟩;have ek:Z.map (·.1)=(cy n ms os (2*n)).map (·.1):=by rw[<-hI.lacks W WO,Pp];rfl
 have el:Z.map cT=(cy n ms os (2*n)).map (·.2):=by rw[<-hI.lacks W WO,Pp];rfl
 have hlen:Z.length<=40:=by rw[hI.1.length_eq];have:=rA (bJ W WO);omega
 have agj:((cy n ms os (2*n)).map (·.2)).sum=aC n ms os:=by rw[<-el];exact gB.gO W WO hI
 refine⟨_,rfl,l,Z,rfl,hT,by omega,λH2 s2=>?_⟩;have wj:=s1.trans s2;have xk:=hT.same s2;refine⟨_,rfl,?_⟩;dsimp only;cases e0:aI.both (Z.map (·.1))with
 |false =>
  refine dH rfl ?_;obtain⟨ts,t1,t2,t3⟩:=xk.at;refine⟨_,rfl,l,rfl,⟨_,aZ.of t1⟩,λD MG=>b8 (K:=K) (a:=l) (xs:=ts.map V.ref) (λi σ H3=>∃v0:Option V,σ=[v0]/\aE H2 H3/\H3 D=Ya (.lst (nV ((Z.take i).map cT)))) ⟨none,rfl,ai MG,ag⟩ (λi σ H3 _ zq=>by obtain⟨_,_,s3,_⟩:=zq;exact aZ.of (s3 _ _ t1)) ?_ ?_⟩
  .rintro i y σ H3 hy ⟨v0,rfl,s3,h3⟩;have hi:i<ts.length:=by have z:=(OI.mp hy).1;rw[OH]at z;exact z
   obtain⟨th,B7⟩:∃th,Z[i]?=Ya th:=⟨_,OG (by omega)⟩
   obtain⟨tt,te,e1,e2,e3⟩:=t3 i th B7;rw[OR,e1]at hy;obtain rfl:=Option.some.inj hy;have G:=hI.good W WO (OP B7);have h2:th.1=.ring->2<=th.2.length:=λer=>by
    have F:=G.fin;rw[er]at F;obtain⟨_,F2,_⟩:=F;refine OU λz=>F2 ?_
    match th.2,z,G.ne with
    |[x],_,_=>rfl
    |_::_::_,z,_=>exact Us (by simp) z
   refine⟨_,rfl,tt,te,th.1,th.2,rfl,s3 _ _ e2,s3 _ _ e3,h2,_,h3,aY (by rw[aS,OH,Pu];omega),Ya (.ref tt),rfl,s3.upd MG,?_⟩;rw[ag,aI.take_snoc B7,O5];exact congrArg (λz=>Ya (HO.lst z)) (gj _ _).symm
  rintro σ H3 ⟨v0,rfl,s3,h3⟩;rw[OH,t2,Pc,el]at h3;refine⟨D,_,rfl,h3,by omega,?_⟩;have qf:=wj.trans s3;have z:=k H3 lV (aI.kY.trans qf) (aI.D2.same hD qf) hM (Ts _ _);rw[gB.uA (by unfold aP;rw[<-ek];exact e0)]at z;exact z
 |true =>
  have jf:=aI.AX W WO hI e0;have nb:¬aP n ms os:=λz=>by unfold aP at z;rw[<-ek,e0]at z;cases z
  obtain⟨hap,gd⟩:=hg.resolve_left nb;have a2:=gB.uE W WO nb;rw[oZ nb]at hL k;refine cY rfl ?_;obtain⟨ts,t1,t2,t3⟩:=xk.at;refine⟨_,rfl,l,rfl,⟨_,aZ.of t1⟩,λD MG=>b8 (K:=K) (a:=l) (xs:=ts.map V.ref) (λi σ H3=>∃v0 v1:Option V,σ=[v0,v1]/\aE H2 H3/\aI.ft aI.lf H3 D ((ky Z).take i)) ⟨none,none,rfl,ai MG,aI.ft.nil ag⟩ (λi σ H3 _ zq=>by obtain⟨_,_,_,s3,_⟩:=zq;exact aZ.of (s3 _ _ t1)) ?_ ?_⟩
  .rintro i y σ H3 hy ⟨v0,v1,rfl,s3,h3⟩;have hi:i<ts.length:=by have z:=(OI.mp hy).1;rw[OH]at z;exact z
   obtain⟨th,B7⟩:∃th,Z[i]?=Ya th:=⟨_,OG (by omega)⟩
   obtain⟨tt,te,e1,e2,e3⟩:=t3 i th B7;rw[OR,e1]at hy;obtain rfl:=Option.some.inj hy;refine⟨_,_,rfl,br.of (s3 _ _ e2),rfl,_,_,rfl,_,_,rfl,rfl,?_⟩;refine⟨_,rfl,_,rfl,te,_,rfl,.inr (br.of (s3 _ _ e3)),by show 2<=Uu;decide,λtp lh=>?_⟩;have s4:aE H3 (upd H3 tp (.tup [.str (ks th.1),.int ((nV th.2).length:Nat)])):=ai lh;have e5:upd H3 tp (.tup [.str (ks th.1),.int ((nV th.2).length:Nat)]) tp=Ya (.tup (aI.lf (th.1,th.2.length))):=by rw[ag,aS];rfl
   obtain⟨ws,y1,y2,y3⟩:=(h3.same s4).snoc (t:=tp) (x:=(th.1,th.2.length)) e5;refine⟨ws,y1,aY (by rw[y2,Pu];unfold ky;rw[OH];omega),_,_,rfl,(s3.trans s4).upd MG,?_⟩;have hs:(ky Z)[i]?=Ya (th.1,th.2.length):=by unfold ky;rw[OR,B7];rfl
   rw[aI.take_snoc hs];exact y3
  rintro σ H3 ⟨v0,v1,rfl,s3,h3⟩;rw[OH,t2,show Z.length=(ky Z).length by unfold ky;rw[OH],Pc]at h3;obtain⟨qs,q1,q2,q3⟩:=h3;have ql:qs.length=Z.length:=by rw[q2];unfold ky;rw[OH]
  refine⟨D,qs,gK H3,rfl,aZ.of q1,by omega,λt ht=>?_,λus l2 hp hsr uZ=>?_⟩
  .obtain⟨i,hi⟩:=SN ht;have hl:=(OI.mp hi).1;have hq:=OG (l:=ky Z) (i:=i) (by omega);generalize(ky Z)[i]=qq at hq;have hh:=q3 i t _ hi hq;refine⟨_,hh,aI.JE hh ?_⟩;have hm:=OP hq;unfold ky at hm;obtain⟨th,ht,e⟩:=OO.mp hm;have G:=hI.good W WO ht;have z:=Th.sub_len G.nd (m:=OV (2*n)) λx hx=>OX.mpr (G.lt x hx);rw[OW]at z;rw[<-e];show th.2.length<1000;omega
  have s4:aE H3 (upd H3 l2 (.lst (us.map V.ref))):=ai uZ;refine⟨l2,_,rfl,.inl ag,λt H5 s5 ht=>?_⟩;have Fo:=s4.trans s5;obtain⟨JK,p1,K5⟩:=aI.El (l:=D) q2 (λi t x e1 e2=>Fo _ _ (q3 i t x e1 e2)) hp ht;have hk:aI.AW Z (JK.map tx):=⟨JK,p1,rfl⟩
  have MH:=wj.trans (s3.trans Fo);have D5:=aI.D2.same hD MH;clear q1 q2 q3 hsr hp Fo s4;refine⟨_,rfl,_,rfl,d,t,lV,_,rfl,rfl,D5,K5,?_⟩;dsimp only;cases e1:NK.nR lV (JK.map tx)with
  |some v =>
   refine⟨_,rfl,cY rfl ?_⟩;refine⟨_,rfl,_,rfl,d,t,lV,_,v,rfl,rfl,D5,K5,e1,?_⟩;rw[aI.BZ hM W WO hI hk e1];exact k H5 lV (aI.kY.trans MH) D5 hM (Ts _ _)
  |none =>
   refine⟨_,rfl,dH rfl ?_⟩;cases j with
   |zero=>exact Us hap (by omega)
   |succ j =>
    refine⟨_,rfl,_,rfl,a,b,n,n,ms,os,rfl,by omega,MH.tup hS,W,MH.tup hO,WO.len,λ_=>⟨WO,gd.lim W WO,λlr H6 flr s6 tN=>?_⟩,λz=>Us rfl z⟩;have dl:=gd.Fj W WO;have b55:=gd.Ks.2;obtain⟨g,hg⟩:∃g,g=wN BB (aC n ms os-1):=⟨_,rfl⟩
    have gg:wN BB (aC n ms os)=1+BB*g:=by
     rw[hg];obtain⟨q,hq⟩:∃q,aC n ms os=q+2:=⟨aC n ms os-2,by omega⟩
     rw[hq];rfl
    obtain⟨rs,r1,r2,r3⟩:=tN;have D6:=aI.D2.same D5 s6;have s06:=MH.trans s6;refine⟨lr,rfl,⟨_,aZ.of r1⟩,λDB hDB=>b8 (K:=K) (a:=lr) (xs:=rs.map V.ref) (λi σ H7=>∃v0:Option V,σ=[v0,Ya (.ref a)]/\aE H6 H7/\aI.ft nV H7 DB (((dF n os ms).take i).map λc=>bN ms c.1 c.2)) ⟨none,rfl,ai hDB,aI.ft.nil ag⟩ (λi σ H7 _ zq=>by obtain⟨_,_,s7,_⟩:=zq;exact aZ.of (s7 _ _ r1)) ?_ ?_⟩
    .rintro i y σ H7 hy ⟨v0,rfl,s7,h7⟩;have hi:i<rs.length:=by have z:=(OI.mp hy).1;rw[OH]at z;exact z
     have hc:=OG (l:=dF n os ms) (i:=i) (by omega);have ht:=OG hi;generalize(dF n os ms)[i]=c at hc;generalize rs[i]=rt at ht;rw[OR,ht]at hy;obtain rfl:=Option.some.inj hy;have He:=r3 i rt c ht hc;obtain⟨b1,b2,b3,b4⟩:=cO (OP hc);have fit:aI.Fits n ms (c.1:Nat) (c.2:Nat):=aI.rN b1 b2 b3;have sm:∀k:Nat,k<2*n->aI.Sm (k:Int):=λk hk=>aI.Sm.of (by omega) (by omega);refine⟨_,rfl,_,rfl,a,rt,n,ms,(c.1:Nat),(c.2:Nat),rfl,(s06.trans s7).tup hS,W,s7 _ _ He,sm _ (by omega),sm _ b2,λ_ r H8 hr8 s8 h8=>?_,λz=>Us fit z⟩;rw[Pq,Pq]at h8;obtain⟨ws,y1,y2,y3⟩:=(h7.same s8).snoc (t:=r) (x:=bN ms c.1 c.2) h8;refine⟨ws,y1,aY (by rw[y2,OH,Pu];omega),_,rfl,(s7.trans s8).upd hDB,?_⟩;rw[aI.take_snoc hc,O5];exact y3
    rintro σ H7 ⟨v0,rfl,s7,h7⟩;rw[OH,r2,Pc]at h7;have D7:=aI.D2.same D6 s7;have s07:=s06.trans s7;have K7:=K5.keep λc ys e=>(s6.trans s7) _ _ e;obtain⟨bs,b1,b2,b3⟩:=h7;rw[OH]at b2;have nDB:DB≠d:=aI.D2.ne D7 b1;refine⟨_,rfl,DB,rfl,⟨_,aZ.of b1⟩,λDS KA=>b8 (K:=K) (a:=DB) (xs:=bs.map V.ref) (λi σ H8=>∃(v0:Option V) (Fp:List NK.Ent),σ=[v0,Ya (.ref b),Ya (.ref d)]/\aE (aI.yE H7 d) H8/\NK.D2 P w H8 d Fp/\js Fp/\Fp.length<=lV.length+i*g/\H8 DS=Ya (.lst (nV (((dF n os ms).take i).map λc=>vR n (bN ms c.1 c.2) os)))) ⟨none,lV,rfl,aI.kY.trans (ai KA),aI.D2.same D7 (ai KA),hM,by omega,ag⟩ (λi σ H8 _ ⟨_,_,_,s8,_⟩=>aZ.of (s8 _ _ (eM b1 nDB))) ?_ ?_⟩
    .rintro i y σ H8 hy ⟨v0,Fp,rfl,s8,D8,M8,l8,h8⟩;have hi:i<bs.length:=by have z:=(OI.mp hy).1;rw[OH]at z;exact z
     have hc:=OG (l:=dF n os ms) (i:=i) (by omega);have ht:=OG hi;generalize(dF n os ms)[i]=c at hc;generalize bs[i]=rt at ht;rw[OR,ht]at hy;obtain rfl:=Option.some.inj hy;have He:=b3 i rt (bN ms c.1 c.2) ht (by rw[OR,hc];rfl);obtain⟨c1,c2,c3,c4⟩:=cO (OP hc);have WB:=dy W (by omega) c2 c3;have nrt:=aI.D2.neT D7 He;have ib:(i+1)*g<=BB*g:=QU _ (by omega);have ib2:(i+1)*g=i*g+g:=SG _ _;have ga:gr BB n os (bN ms c.1 c.2)<=g:=by
      have:=gB.HM (B:=BB) (n:=n) (os:=os) (ms:=bN ms c.1 c.2);rw[hg,show aC n ms os-1=aC n (bN ms c.1 c.2) os by omega];exact this
     have gc:=gd.bN W WO (OP hc);have nDS:DS≠d:=aI.D2.ne D8 h8;refine⟨_,rfl,_,rfl,_,rfl,rt,b,d,n,bN ms c.1 c.2,os,Fp,BB,rfl,br.of (s8 _ _ (eM He nrt)),WB,s8.tup (aI.JC (s07.tup hO) D7),WO,hn,by omega,.inr ⟨by omega,gc⟩,D8,M8,by omega,λH9 kv9 s9 D9 M9 l9=>?_⟩;refine⟨_,s9 _ _ (eM h8 nDS),aY (by rw[aS,OH,Pu];omega),_,kv9,rfl,?_,?_,M9,by omega,?_⟩
     .intro x o e;have e1:=aI.GW s8 x o e;have e2:=s9 _ _ e1;rw[aG (λz=>?_)]
      .exact e2
      rw[z]at e;have:=aI.kY (H:=H7) (d:=d) _ _ e;rw[KA]at this;cases this
     .refine D9.keep (aG (λz=>nDS z.symm)) λx ys e=>?_;rw[aG (λz=>?_)]
      .exact e
      have q:=s9 _ _ (eM h8 nDS);rw[z,q]at e;cases e
     rw[ag,aI.take_snoc hc,O5];exact congrArg (λz=>Ya (HO.lst z)) (gj _ _).symm
    rintro σ H8 ⟨v0,Fp,rfl,s8,D8,M8,l8,h8⟩;rw[OH,b2,Pc,jK]at h8;rw[OH,b2]at l8;have ib:(dF n os ms).length*g<=BB*g:=QU _ dl;have K8:=aI.K2.Ma K7 D7 s8;have l9:Fp.length<sizeLine:=by
     have:(16000001:Nat)<sizeLine:=by decide
     omega
    have er:(((dF n os ms).map λc=>vR n (bN ms c.1 c.2) os).map λ(x:Nat)=>(x:Int)).sum=((vR n ms os:Nat):Int):=by rw[aI.r9,gB.Eo W WO nb]
    refine⟨DS,_,rfl,aZ.of h8,?_⟩;rw[er];refine⟨_,rfl,_,rfl,d,t,Fp,_,rfl,rfl,D8,K8,l9,?_⟩;have DP:=D2.put (v:=.int (vR n ms os:Nat)) D8 K8;have KP:NK.K2 (upd H8 d (AS P w d (NK.put2 Fp (JK.map tx) t (.int (vR n ms os:Nat))))) (JK.map tx) t:=K8.keep λc ys e=>by rw[aG (aI.D2.neT D8 e)];exact e
    refine⟨_,rfl,_,rfl,d,t,_,_,_,rfl,rfl,DP,KP,aI.GV _ _ _ _,?_⟩;refine k _ _ (λx o e=>?_) DP (aI.B0 M8 W WO hI hk t) ?_
    .have nx:x≠d:=λz=>by rw[z,oV]at e;cases e
     rw[aG nx];exact s8 _ _ (aI.Ek s07 _ _ e)
    have:=NK.yf Fp (JK.map tx) t (.int (vR n ms os:Nat));omega
theorem i8{f f1 f2 f3 f4 f5 f6 f7 f8 C CB:Um}{fd iu jw mV zV B6 E1 B8 Cp:Uz}(B:Bl mg)(G:Fn K mg "rows_between" cD ["one","other","counts"] f fd)(b9:Fn K mg "threads" fe ["one","other"] f1 iu)(cG:aO P w K mg base (gh P w) 4 f1 iu ["one","other"] (fL K C))(dY:Fn K mg "has_both" fN ["laid"] f2 jw)(J:Fn K mg "lacked_deeds" dB ["thread"] f3 mV)(D:Fn K mg "shuffled_rows" c9 ["lacks"] f4 zV)(gG:Fn K mg "choices" gF ["many","chosen"] f5 B6)(fT:Fn K mg "own_rows" fO ["lack"] f6 E1)(O:Fn K mg "nearer_deeds" cC ["one","other"] f7 B8)(U:aO P w K mg base (gh P w) 5 f7 B8 ["one","other"] (iC K C))(V:Fn K mg "reclasped" dJ ["work","deed"] f8 Cp)(Z:aO P w K mg base (gh P w) 3 f8 Cp ["work","deed"] (oM K CB)):∀j,aO P w K mg base dq (5+j+1) f fd ["one","other","counts"] (jL P w K j)
 |0=>iR B G b9 cG dY J D gG fT O U V Z 0 aI.zI
 |j+1=>iR B G b9 cG dY J D gG fT O U V Z (j+1) (i8 B G b9 cG dY J D gG fT O U V Z j)
theorem mR{f f1 CU CT:Um}{fd O:Uz}(J:vi K mg "TooMany" CT)(F:Fn K mg "refuse_beyond" c8 ["most","one","other"] f fd)(D:Fn K mg "apart_by" iP ["one","other"] f1 O)(G:aO P w K mg base (gh P w) 6 f1 O ["one","other"] (aI.x8 K CU)):aO P w K mg base (gh P w) 7 f fd ["most","one","other"] (lT K CU CT):=by
 refine F.fn.oF ju (λvs H Q E h=>?_) (λje A outer s H vs Q E hr h own=>?_)
 .obtain⟨a,b,x,n,m,ms,os,rfl,_⟩:=h
  rfl
 obtain⟨a,b,x,n,m,ms,os,rfl,hx,hn,hS,W,hO,hm,kg,kb⟩:=h;refine⟨_,(ah (aJ (i:=3) ju.nd rfl (Or.inl rfl) (g8 G D (hr.mono (by decide)) (ae (pv 1) (ae (pv 2) af))))
  (aA (bS (aM iY (pv 3) (pv 0) (aQ _)) (aA (rF rfl J (ae (HB (vk (Dr (pv 3) (vk (Dr (pv 0) Dq)))) (by decide)) af))) bg))),?_⟩
 refine⟨_,rfl,_,rfl,a,b,n,m,ms,os,rfl,hn,hS,W,hO,hm,λU=>?_,λV=>kb V⟩;obtain⟨WO,kn,kf⟩:=kg U;refine⟨WO,λH1 s1=>?_⟩;have hap:aC n ms os<=n:=iN;refine⟨_,rfl,_,rfl,_,_,rfl,rfl,_,rfl,?_⟩;by_cases c:x<aC n ms os
 .refine dH (Ul (by omega)) ?_;have Z:aI.Sm ((aC n ms os:Nat):Int):=aI.Sm.of (by omega) (by omega);have s2':aI.Sm ((x:Nat):Int):=aI.Sm.of (by omega) (by omega);exact⟨⟨_,rfl,rfl,⟨_,rfl,Z.log⟩,_,rfl,rfl,⟨_,rfl,s2'.log⟩,trivial⟩,λx=>⟨by show 1<=Uu;decide,kf c _ s1⟩⟩
 exact cY (Up (by omega)) (kn (by omega) H1 s1)
theorem kh{f f1 f2 f3 CU CT:Um}{fd iu jw mV:Uz}{t0 t1:XJ}(B:Bl mg)(U:mg "MOST_APART" = some (.int 12 t0))(D:mg "MOST_APART_CROSSING" = some (.int 6 t1))(F:Fn K mg "refuse_uncounted" bL ["one","other"] f fd)(b9:Fn K mg "threads" fe ["one","other"] f1 iu)(cG:aO P w K mg base (gh P w) 4 f1 iu ["one","other"] (fL K CU))(O:Fn K mg "has_both" fN ["laid"] f2 jw)(G:Fn K mg "refuse_beyond" c8 ["most","one","other"] f3 mV)(J:aO P w K mg base (gh P w) 7 f3 mV ["most","one","other"] (lT K CU CT)):aO P w K mg base (gh P w) 8 f fd ["one","other"] (si K CU CT):=by
 have V:aO P w K mg base dq 1 f2 jw ["laid"] vD:=pO B O;refine F.fn.oF hJ (λvs H Q E h=>?_) (λje A outer s H vs Q E hr h own=>?_)
 .obtain⟨a,b,n,m,ms,os,rfl,_⟩:=h
  rfl
 obtain⟨a,b,n,m,ms,os,rfl,hn,hS,W,hO,hm,kg,kb⟩:=h;refine⟨_,(ah (aJ (i:=2) hJ.nd rfl (Or.inl rfl) (bo V O (hr.mono (by decide)) (ae (g8 cG b9 (hr.mono (by decide)) (ae (pv 0) (ae (pv 1) af))) af)))
  (aA (bh (g8 J G (hr.mono (by decide)) (ae (mZ (iE (pv 2)) (iW (v:=.int 6) rfl D ⟨_,rfl⟩) (iW (v:=.int 12) rfl U ⟨_,rfl⟩)) (ae (pv 0) (ae (pv 1) af))))))),?_⟩
 refine⟨_,rfl,_,rfl,a,b,n,m,ms,os,rfl,hn,hS,W,hO,hm,λwe=>?_,λjf=>kb jf⟩;obtain⟨WO,kn,kf⟩:=kg we;refine⟨WO,λl H1 bf s1 hI hT hl=>?_⟩;have hlen:bf.length<=100:=by rw[hI.1.length_eq];have:=rA (bJ W WO);omega
 refine⟨l,bf,rfl,hT,hlen,λH2 s2=>?_⟩;have Z:=s1.trans s2;have nb:=gB.cV W WO hI;refine⟨_,rfl,_,rfl,fu (λe=>?_) (λe=>?_)⟩
 .have E4:¬aP n ms os:=λz=>by rw[nb.mp z]at e;cases e
  refine⟨_,rfl,_,rfl,a,b,6,n,n,ms,os,rfl,by decide,hn,Z.tup hS,W,Z.tup hO,by rw[hm,we],λ_=>⟨WO,λle H3 s3=>?_,λlt H3 s3=>kf (.inr ⟨E4,lt⟩) H3 (Z.trans s3)⟩,λz=>Us rfl z⟩;exact kn (λz=>by rcases z with z|⟨_,z⟩ <;> omega) H3 (Z.trans s3)
 have E4:aP n ms os:=nb.mpr (Qj.mpr e);refine⟨_,rfl,_,rfl,a,b,12,n,n,ms,os,rfl,by decide,hn,Z.tup hS,W,Z.tup hO,by rw[hm,we],λ_=>⟨WO,λle H3 s3=>?_,λlt H3 s3=>kf (.inl lt) H3 (Z.trans s3)⟩,λz=>Us rfl z⟩;exact kn (λz=>by
  rcases z with z|⟨z,_⟩
  .omega
  exact z E4) H3 (Z.trans s3)
theorem pe{f f1 f2 CU CT:Um}{fd Z jw:Uz}(F:Fn K mg "fewest_many" d9 ["one","other"] f fd)(D:Fn K mg "refuse_uncounted" bL ["one","other"] f1 Z)(G:aO P w K mg base (gh P w) 8 f1 Z ["one","other"] (si K CU CT))(J:Fn K mg "rows_between" cD ["one","other","counts"] f2 jw)(O:aO P w K mg base dq 12 f2 jw ["one","other","counts"] (jL P w K 6)):aO P w K mg base (gh P w) 13 f fd ["one","other"] (qI K CU CT):=by
 refine F.fn.oF sr (λvs H Q E h=>?_) (λje A outer s H vs Q E hr h own=>?_)
 .obtain⟨a,b,n,m,ms,os,rfl,_⟩:=h
  rfl
 obtain⟨a,b,n,m,ms,os,rfl,hn,hS,W,hO,hm,kg,kb⟩:=h;refine⟨_,(ah (bh (g8 G D (hr.mono (by decide)) (ae (pv 0) (ae (pv 1) af))))
  (aA (aU (bo O J (hr.mono (by decide)) (ae (pv 0) (ae (pv 1) (ae vF af))))))),?_⟩
 refine⟨_,rfl,_,rfl,a,b,n,m,ms,os,rfl,by omega,hS,W,hO,hm,λwe=>?_,λjf=>kb jf⟩;obtain⟨WO,kn,kf⟩:=kg we;refine⟨WO,λnf H1 s1=>?_,kf⟩;obtain⟨gd,k⟩:=kn nf;obtain⟨Fq,n6⟩:=qH nf;refine⟨_,rfl,_,rfl,λd hd=>?_⟩;have s2:=s1.trans (ai (o:=AS P w d []) hd);obtain⟨U,g1,g2⟩:∃U,(aP n ms os\/aC n ms os<=6/\gB.Gd U n os ms)/\gr U n os ms<=16000000:=by
  by_cases V:aP n ms os
  .exact⟨55,.inl V,by rw[gB.A0 V];omega⟩
  obtain⟨U,g⟩:=gd.resolve_left V;refine⟨U,.inr ⟨n6 V,g⟩,?_⟩;rw[oZ V];have a6:=n6 V;have ap:aC n ms os<=n:=iN;rcases g with⟨rfl,g⟩|⟨rfl,_⟩
  .have:∀q,q<=5->wN 55 q<=16000000:=by decide
   exact this _ (by omega)
  have:∀q,q<=6->wN 42 q<=16000000:=by decide
  exact this _ a6
 exact⟨a,b,d,n,ms,os,[],U,rfl,s2.tup hS,W,s2.tup hO,WO,hn,Fq,g1,⟨ag,λp hp=>nomatch hp⟩,lR,by rw[Qn];omega,λH3 E5 s3 _ _ _=>k H3 (zD s1 hd s3)⟩
theorem wq{f f2 f7 f8 C CB:Um}{fd jw B8 Cp:Uz}(F:Fn K mg "ways_on" iD ["now","other","counts"] f fd)(D:Fn K mg "rows_between" cD ["one","other","counts"] f2 jw)(G:aO P w K mg base dq 12 f2 jw ["one","other","counts"] (jL P w K 6))(J:Fn K mg "nearer_deeds" cC ["one","other"] f7 B8)(O:aO P w K mg base (gh P w) 5 f7 B8 ["one","other"] (iC K C))(U:Fn K mg "reclasped" dJ ["work","deed"] f8 Cp)(Z:aO P w K mg base (gh P w) 3 f8 Cp ["work","deed"] (oM K CB)):aO P w K mg base dq 13 f fd ["now","other","counts"] (qG P w K):=by
 refine F.fn.ok jS (λvs H Q E h=>?_) (λje A outer s H vs Q E hr h=>?_)
 .obtain⟨a,b,d,n,ms,os,lV,rfl,_⟩:=h
  rfl
 obtain⟨a,b,d,n,ms,os,lV,rfl,hS,W,hO,WO,gd,aaY,hD,hM,hL,k⟩:=h;have hn8:=gd.Ks.1;have S3:=aI.G6.ND gd;refine⟨_,(ah (aJ (i:=3) jS.nd rfl (Or.inl rfl) (bP af))
  (ah (b6 PassesOwn.never rfl (bp (iI O J (hr.mono (by decide)) (ae (pv 0) (ae (pv 1) af)))) (aK (i:=4) jS.nd rfl (Or.inl rfl)) (ah (aJ (i:=5) jS.nd rfl (Or.inl rfl) (iI Z U (hr.mono (by decide)) (ae (pv 0) (ae (pv 4) af))))
  (aA (bh (d5 O7 Py Pz cF (pv 3) (ae (bC (ae (pv 4) (ae (pv 5) (ae (bo G D (hr.mono (by decide)) (ae (pv 5) (ae (pv 1) (ae (pv 2) af)))) af)))) af))))))
  (aA (aU (pv 3))))),?_⟩
 refine⟨by show 0<=Uu;decide,λL hLn=>?_⟩;have s0:aE H (upd H L (.lst [])):=ai hLn;have nHL:∀{c:Um}{o:HO},H c=Ya o->c≠L:=λ{c o} e z=>by rw[z,hLn]at e;cases e
 refine⟨_,rfl,_,rfl,a,b,n,n,ms,os,rfl,by omega,s0.tup hS,W,s0.tup hO,WO.len,λ_=>⟨WO,gd.lim W WO,λlr H2 flr s2 tN=>?_⟩,λz=>Us rfl z⟩;have dl:=gd.Fj W WO;obtain⟨g,gg1,gg2⟩:=aI.JL S3 W WO dl;obtain⟨rs,r1,r2,r3⟩:=tN;have HW:=s0.trans s2;have NI:=aI.D2.same hD HW;have L2':=s2 _ _ (ag (H:=H) (a:=L) (o:=.lst []));have nlr:lr≠L:=λz=>by rw[z,ag]at flr;cases flr
 have nd:lr≠d:=aI.D2.ne NI r1;have nLd:L≠d:=aI.D2.ne NI L2';refine⟨lr,rfl,⟨_,aZ.of r1⟩,cw (K:=K) (a:=lr) (xs:=rs.map V.ref) (λi σ H3=>∃(v4 v5:Option V) (kv:List NK.Ent),σ=[Ya (.ref a),Ya (.ref b),Ya (.ref d),Ya (.ref L),v4,v5]/\aI.Me d L H2 H3/\NK.D2 P w H3 d kv/\js kv/\kv.length<=lV.length+i*g/\aI.A2 H3 L n os ms ((dF n os ms).take i))
  ⟨none,none,lV,rfl,λc o _ _ e=>e,NI,hM,by omega,aI.A2.nil L2'⟩ (λi σ H3 _ zq=>by obtain⟨_,_,_,_,s3,_⟩:=zq;exact aZ.of (s3 _ _ nd nlr r1)) ?_ ?_⟩
 .rintro i y σ H3 hy ⟨v4,v5,kv,rfl,s3,D3,M3,l3,w3⟩;have hi:i<rs.length:=by have z:=(OI.mp hy).1;rw[OH]at z;exact z
  have hc:=OG (l:=dF n os ms) (i:=i) (by omega);have ht:=OG hi;generalize(dF n os ms)[i]=c at hc;generalize rs[i]=rt at ht;rw[OR,ht]at hy;obtain rfl:=Option.some.inj hy;have He:=r3 i rt c ht hc;have nrd:=aI.D2.neT NI He;have nrL:rt≠L:=λz=>by rw[z,L2']at He;cases He
  have MI:=s3 _ _ nrd nrL He;have up:∀{x:Um}{xs:List V},br K H x xs->br K H3 x xs:=λ{x xs} h=>by
   rcases h with(h|⟨o,h⟩)|h
   .exact .inl (.inl (s3 _ _ (aI.D2.neT hD h) (nHL h) (HW _ _ h)))
   .exact .inl (.inr ⟨o,s3 _ _ (λz=>by rw[z,hD.1]at h;cases h) (nHL h) (HW _ _ h)⟩)
   exact .inr h
  obtain⟨b1,b2,b3,b4⟩:=cO (OP hc);have WB:=dy W (by omega) b2 b3;have ap:aC n ms os<=n:=iN;have fit:aI.Fits n ms (c.1:Nat) (c.2:Nat):=aI.rN b1 b2 b3;have sm:∀k:Nat,k<2*n->aI.Sm (k:Int):=λk hk=>aI.Sm.of (by omega) (by omega);refine⟨_,rfl,_,rfl,a,rt,n,ms,(c.1:Nat),(c.2:Nat),rfl,up hS,W,MI,sm _ (by omega),sm _ b2,λ_ r H4 hr4 s4 h4=>?_,λz=>Us fit z⟩;rw[Pq,Pq]at h4;have D4:=aI.D2.same D3 s4;have w4:=w3.same s4;obtain⟨ts4,y1,y2,y3⟩:=id w4;have ib:(i+1)*g<=(dF n os ms).length*g:=QU _ (by omega);have ib2:(i+1)*g=i*g+g:=SG _ _;have gc:=gg1 c (OP hc);have gb:=gd.bN W WO (OP hc);have HX:aP n (bN ms c.1 c.2) os\/aC n (bN ms c.1 c.2) os<=6/\gB.Gd 42 n os (bN ms c.1 c.2):=by
   rcases aaY with q|q
   .exact .inl (eN S3 W WO q (OP hc))
   exact .inr ⟨by omega,gb⟩
  refine⟨_,rfl,.inl ⟨rfl,_,aZ.of y1⟩,_,rfl,_,rfl,_,rfl,_,rfl,_,rfl,r,b,d,n,bN ms c.1 c.2,os,kv,42,rfl,br.of h4,WB,s4.tup (up hO),WO,by omega,by omega,HX,D4,M3,by omega,λH5 MJ s5 D5 M5 l5=>?_⟩;have w5:=w4.keep D4 s5;have hp5:H5 rt=Ya (.tup (pf c)):=s5 _ _ (eM (s4 _ _ MI) (aI.D2.neT D4 (s4 _ _ MI)));have hq5:H5 r=Ya (.tup (nV (bN ms c.1 c.2))):=s5 _ _ (eM h4 (aI.D2.neT D4 h4));refine⟨by show 3<=Uu;decide,λtp lh=>?_⟩;have s6:aE H5 (upd H5 tp (.tup [.ref rt,.ref r,.int (vR n (bN ms c.1 c.2) os:Nat)])):=ai lh;obtain⟨ws,z1,z2,z3⟩:=(w5.same s6).snoc (t:=tp) (p:=rt) (q:=r) (c:=c) ag (s6 _ _ hp5) (s6 _ _ hq5);have D6:=aI.D2.same D5 s6;have nL6:L≠d:=nLd;refine⟨L,_,_,rfl,rfl,z1,aY (by rw[z2,Pu];omega),_,_,MJ,rfl,?_,?_,M5,by omega,?_⟩
  .intro x o n1 n2 e;rw[aG n2];exact s6 _ _ (s5 _ _ (eM (s4 _ _ (s3 _ _ n1 n2 e)) n1))
  .refine D6.keep (aG (λz=>nL6 z.symm)) λx ys e=>?_;rw[aG (λz=>by rw[z,z1]at e;cases e)];exact e
  rw[aI.take_snoc hc];exact z3
 rintro σ H3 ⟨v4,v5,kv,rfl,s3,D3,M3,l3,w3⟩;rw[OH,r2]at l3;rw[OH,r2,Pc]at w3;refine⟨_,rfl,?_⟩;refine k L H3 kv hLn (λx o e=>?_) D3 M3 (by omega) w3;have nx:x≠d:=λz=>by rw[z,oV]at e;cases e
 have e':=aI.kY _ _ e;exact s3 _ _ nx (nHL e') (HW _ _ e')
theorem om{f f1 f2 f3 CU CT:Um}{fd iu jw mV:Uz}(F:Fn K mg "row_numbered" dD ["one","other","number"] f fd)(G:Fn K mg "refuse_uncounted" bL ["one","other"] f1 iu)(J:aO P w K mg base (gh P w) 8 f1 iu ["one","other"] (si K CU CT))(O:Fn K mg "rows_between" cD ["one","other","counts"] f2 jw)(U:aO P w K mg base dq 12 f2 jw ["one","other","counts"] (jL P w K 6))(jy:Fn K mg "ways_on" iD ["now","other","counts"] f3 mV)(lU:aO P w K mg base dq 13 f3 mV ["now","other","counts"] (qG P w K)):aO P w K mg base (gh P w) 14 f fd ["one","other","number"] (nT K CU CT):=by
 refine F.fn.oF bt (λvs H Q E h=>?_) (λje A outer s H vs Q E hr h own=>?_)
 .obtain⟨a,b,n,m,x,ms,os,rfl,_⟩:=h
  rfl
 obtain⟨a,b,n,m,xi,ms,os,rfl,hn,hS,W,hO,hm,kg,kb⟩:=h;have op:=iH (E:=E) own;have hu:=jY hr;refine⟨_,(ah (bh (g8 J G (hr.mono (by decide)) (ae (pv 0) (ae (pv 1) af))))
  (ah (aJ (i:=3) bt.nd rfl (Or.inl rfl) vF)
  (ah (aJ (i:=4) bt.nd rfl (Or.inl rfl) (bo U O (hr.mono (by decide)) (ae (pv 0) (ae (pv 1) (ae (pv 3) af)))))
  (ah (bS (mC (CK Af jW ao (pv 2) (pv 4))) ox bg)
  (ah (aJ (i:=5) bt.nd rfl (Or.inl rfl) (bP af))
  (ah (aJ (i:=6) bt.nd rfl (Or.inl rfl) (pv 0))
  (ah (aJ (i:=7) bt.nd rfl (Or.inl rfl) (pv 2))
  (ah (m6 op (aM (rM (Q0 hu)) (pv 6) (pv 1) (aQ _)) (aA (b6 op rfl (bp (bo lU jy (hr.mono (by decide)) (ae (pv 6) (ae (pv 1) (ae (pv 3) af))))) (jA rfl (aX (aK (i:=8) bt.nd rfl (Or.inl rfl)) (aX (aK (i:=9) bt.nd rfl (Or.inl rfl)) (aX (aK (i:=10) bt.nd rfl (Or.inl rfl)) dN)))) (ah (bS (aM jW (pv 7) (pv 10) (aQ _)) (ah (bh (d5 O7 Py Pz cF (pv 5) (ae (pv 8) af)))
  (ah (aJ (i:=6) bt.nd rfl (Or.inl rfl) (pv 9))
  (aA CD))) bg)
  (aA (qQ (i:=7) bt.nd rfl (Or.inl rfl) (pv 10) FK))))))
  (aA (aU (pv 5))))))))))),?_⟩
 refine⟨_,rfl,_,rfl,a,b,n,m,ms,os,rfl,by omega,hS,W,hO,hm,λwe=>?_,λjf=>kb jf⟩;obtain⟨WO,kn,kf⟩:=kg we;refine⟨WO,λnf H1 s1=>?_,kf⟩;obtain⟨x,rfl,gd,hx,k⟩:=kn nf;obtain⟨Fq,n6⟩:=qH nf;have hn8:=gd.Ks.1;have S0:=aI.G6.ND gd;have pt0:=aI.uF (n:=n) (ms:=ms) (os:=os) n6;have gp0:=lS (n:=n) (ms:=ms) (os:=os);have NJ:aP n ms os\/aC n ms os<=6/\gB.Gd 42 n os ms:=(T7 _).imp id λz=>⟨n6 z,gd⟩
 refineλd hd=>?_;have s2:=s1.trans (ai (o:=AS P w d []) hd);have ap:aC n ms os<=n:=iN;refine⟨_,rfl,_,rfl,_,rfl,a,b,d,n,ms,os,[],42,rfl,s2.tup hS,W,s2.tup hO,WO,hn,Fq,NJ,⟨ag,λp hp=>nomatch hp⟩,lR,by rw[Qn];omega,λH3 E5 s3 D3 M3 l3=>?_⟩;have sv:aE H H3:=zD s1 hd s3;have nHd:∀{c:Um}{o:HO},H c=Ya o->c≠d:=λ{c o} e z=>by have:=s1 _ _ e;rw[z,hd]at this;cases this
 refine⟨_,rfl,_,_,rfl,rfl,_,rfl,dH (Ul (by omega)) ⟨_,rfl,_,_,rfl,rfl,_,rfl,?_⟩⟩;refine cY (by rw[Ul (by omega)];rfl) ?_;refine⟨by show 0<=Uu;decide,λR hR=>?_⟩;have s4:aE H3 (upd H3 R (.lst [])):=ai hR;have nHR:∀{c:Um}{o:HO},H c=Ya o->c≠R:=λ{c o} e z=>by have:=sv _ _ e;rw[z,hR]at this;cases this
 have tR:aI.ft pf (upd H3 R (.lst [])) R []:=aI.ft.nil ag;refine⟨_,rfl,_,rfl,?_⟩;refine qS (λσ H4=>∃(nw:Um) (D:List Nat) (y:Nat) (v8 v9 v10:Option V) (done:List (Nat×Nat)) (kv:List NK.Ent),σ=[Ya (.ref a),Ya (.ref b),Ya (.int (x:Nat)),Ya (.ref d),Ya (.int (vR n ms os:Nat)),Ya (.ref R),Ya (.ref nw),Ya (.int (y:Nat)),v8,v9,v10]/\aE H H4/\br K H4 nw (nV D)/\ak n D/\NK.D2 P w H4 d kv/\js kv/\gB.Gd 42 n os D/\(aP n D os\/aC n D os<=6)/\kv.length+BY 42 n os D<=16000000/\aI.ft pf H4 R done/\y<vR n D os/\jb n os (aC n ms os) ms x=done++jb n os (aC n D os) D y/\done.length+aC n D os=aC n ms os)
  (λσ H4=>match H4 R with|some (.lst ys)=>10-ys.length|_=>0)
  ⟨a,ms,x,none,none,none,[],E5,rfl,sv.trans s4,(sv.trans s4).tup hS,W,aI.D2.same D3 s4,M3,gd,NJ.imp id And.left,by rw[Qn]at l3;omega,tR,hx,rfl,by rw[Qn,Qh]⟩ ?_ ?_
 .clear tR s4 l3 M3 D3 sv s3 E5;rintro σ H4 ⟨nw,D,y,v8,v9,v10,done,kv,rfl,s4,KC,Wc,D4,M4,Fs,HX,l4,tR,hy,MK,hap⟩;have hb4:=s4.tup hO;refine⟨_,rfl,_,rfl,nw,b,D.map (λ(z:Nat)=>(z:Int)),os.map (λ(z:Nat)=>(z:Int)),rfl,rfl,by rw[<-jK];exact KC,by rw[<-jK];exact hb4,_,rfl,?_⟩;by_cases e:D=os
  .refine cY (by rw[e];simp) ?_;subst e;rw[(cI Wc Wc).mpr rfl]at MK;refine⟨_,rfl,k R H4 done (by cases q:H R with|none=>rfl|some o=>exact Us rfl (nHR q)) s4 tR ?_⟩;have:=(cI Wc Wc).mpr rfl;omega
  have nei:¬(D.map (λ(z:Nat)=>(z:Int))=os.map (λ(z:Nat)=>(z:Int))):=λz=>e (aI.map_inj (λx y h=>by omega) z);refine dH (by simp[nei]) ?_;have ap1:0<aC n D os:=by
   rcases Nat.eq_zero_or_pos (aC n D os)with z|z
   .exact Us ((cI Wc WO).mp z) e
   exact z
  obtain⟨j,hj⟩:∃j,aC n D os=j+1:=⟨_,(Nat.succ_pred_eq_of_pos ap1).symm⟩
  have dn:done.length<=8:=by omega
  have Sc:=aI.G6.ND Fs;have gpc:=lS (n:=n) (ms:=D) (os:=os);refine⟨_,rfl,_,rfl,_,rfl,nw,b,d,n,D,os,kv,rfl,KC,Wc,hb4,WO,Fs,HX,D4,M4,by omega,λwl H5 MJ OC s5 D5 M5 l5 w5=>?_⟩;obtain⟨ts,t1,t2,t3⟩:=w5;have tR5:aI.ft pf H5 R done:=by
   obtain⟨us,u1,u2,u3⟩:=tR;exact⟨us,s5 _ _ (eM u1 (aI.D2.ne D4 u1)),u2,λi t c e1 e2=>s5 _ _ (eM (u3 i t c e1 e2) (aI.D2.neT D4 (u3 i t c e1 e2)))⟩
  have sH5:aE H H5:=λc o q=>s5 _ _ (eM (s4 _ _ q) (nHd q));have rs:=gB.v_sum Sc Wc WO e;have hy':y<((dF n os D).map (gq n os D)).sum:=by
   rw[rs]at hy;exact hy
  obtain⟨c,z,l1,l2,p1,p2,p3,p4⟩:=aI.uC hy';have e1:jb n os (j+1) D y=c::jb n os j (bN D c.1 c.2) z:=by
   show(match aI.pick (gq n os D) (dF n os D) y with|none=>[]|some (c,y)=>c::jb n os j (bN D c.1 c.2) y)=_;rw[p1]
  have Cq:c∈dF n os D:=by rw[p2];simp
  obtain⟨c1,c2,c3,c4⟩:=cO Cq;have gpb:=zJ Sc Wc WO Cq;have agE:=Fs.Fj Wc WO;obtain⟨rv,KD,rv2⟩:=tR5.len;refine⟨wl,rfl,⟨_,aZ.of t1⟩,cw (K:=K) (a:=wl) (xs:=ts.map V.ref) (λi σ H6=>∃(yi:Nat) (v8 v9 v10:Option V),H6=H5/\σ=[Ya (.ref a),Ya (.ref b),Ya (.int (x:Nat)),Ya (.ref d),Ya (.int (vR n ms os:Nat)),Ya (.ref R),Ya (.ref nw),Ya (.int (yi:Nat)),v8,v9,v10]/\aI.pick (gq n os D) ((dF n os D).drop i) yi=Ya (c,z))
   ⟨y,v8,v9,v10,rfl,rfl,p1⟩ (λi σ H6 _ ⟨_,_,_,_,q,_⟩=>by rw[q];exact aZ.of t1) ?_ ?_⟩
  .rintro i v σ H6 hv ⟨yi,v8,v9,v10,rfl,rfl,Z⟩;have hi:i<ts.length:=by have z:=(OI.mp hv).1;rw[OH]at z;exact z
   have hc:=OG (l:=dF n os D) (i:=i) (by omega);have ht:=OG hi;have MM:(dF n os D).drop i=(dF n os D)[i]::(dF n os D).drop (i+1):=R9 (by omega);generalize(dF n os D)[i]=ci at hc MM;generalize ts[i]=rt at ht;rw[OR,ht]at hv;obtain rfl:=Option.some.inj hv;obtain⟨pp,qq,g1,g2,g3⟩:=t3 i rt ci ht hc;rw[MM]at Z;unfold aI.pick at Z;refine⟨rt,_,rfl,br.of g1,rfl,_,_,rfl,_,_,rfl,_,_,rfl,rfl,?_⟩;refine⟨_,rfl,_,rfl,_,_,rfl,rfl,_,rfl,?_⟩;by_cases lt:yi<gq n os D ci
   .rw[Uo lt]at Z;obtain⟨rfl,rfl⟩:=Prod.mk.inj (Option.some.inj Z);refine dH (Ul (by omega)) ?_;refine⟨_,rfl,.inl ⟨rfl,_,aZ.of KD⟩,_,rfl,R,_,_,rfl,rfl,KD,aY (by omega),?_⟩;obtain⟨ws,y1,y2,y3⟩:=tR5.snoc (t:=pp) (x:=ci) g2;rw[KD]at y1;obtain rfl:rv=ws:=by injection y1 with y1;injection y1
    refine⟨_,rfl,?_⟩;have nRd:R≠d:=aI.D2.ne D5 KD;have nq:qq≠R:=λz=>by rw[z,KD]at g3;cases g3
    have nbb:aP n (bN D ci.1 ci.2) os\/aC n (bN D ci.1 ci.2) os<=6:=HX.imp (λq=>eN Sc Wc WO q Cq) (λq=>by omega);refine⟨⟨qq,_,yi,_,_,_,done++[ci],MJ,rfl,?_,br.of (by rw[aG nq];exact g3),dy Wc (by omega) c2 c3,?_,M5,Fs.bN Wc WO Cq,nbb,?_,y3,p3,?_,?_⟩,?_⟩
    .intro q o hq;rw[aG (nHR hq)];exact sH5 _ _ hq
    .refine D5.keep (aG (λz=>nRd z.symm)) λq ys hq=>?_;rw[aG (λz=>by rw[z,KD]at hq;cases hq)];exact hq
    .omega
    .rw[MK,hj,e1,show aC n (bN D ci.1 ci.2) os=j by omega,PM]
     rfl
    .rw[OQ,QA];omega
    obtain⟨us,u1,u2,_⟩:=tR;rw[ag,u1];show 10-(rv++[V.ref pp]).length<10-(us.map V.ref).length;rw[OQ,OH,rv2,u2,QA];omega
   rw[Uk lt]at Z;refine cY (Up (by omega)) ?_;refine⟨_,rfl,_,rfl,_,_,rfl,rfl,?_⟩;have ey:((yi:Nat):Int)-((gq n os D ci:Nat):Int)=((yi-gq n os D ci:Nat):Int):=by omega
   exact⟨yi-gq n os D ci,_,_,_,rfl,by rw[<-ey];rfl,Z⟩
  rintro σ H6 ⟨yi,v8,v9,v10,rfl,rfl,Z⟩;rw[OH,t2,Tt]at Z;cases Z
 rintro σ H2 R1 R2 hR ⟨v,e1,u,e2,p,q,ns,fZ,e3,e4,e5,e6,bb,e7,z⟩;exact⟨v,e1,u,e2,p,q,ns,fZ,e3,e4,e5,e6,bb,e7,hR _ _ z⟩
theorem mS{f f1 f3 CU CT:Um}{fd iu mV:Uz}(B:Bl mg)(F:Fn K mg "number_of_row" de ["one","other","deeds"] f fd)(G:Fn K mg "refuse_uncounted" bL ["one","other"] f1 iu)(J:aO P w K mg base (gh P w) 8 f1 iu ["one","other"] (si K CU CT))(U:Fn K mg "ways_on" iD ["now","other","counts"] f3 mV)(Z:aO P w K mg base dq 13 f3 mV ["now","other","counts"] (qG P w K)):aO P w K mg base (gh P w) 14 f fd ["one","other","deeds"] (qJ K CU CT):=by
 refine F.fn.oF bw (λvs H Q E h=>?_) (λje A outer s H vs Q E hr h own=>?_)
 .obtain⟨a,b,n,m,v,ms,os,rfl,_⟩:=h
  rfl
 obtain⟨a,b,n,m,vl,ms,os,rfl,hn,hS,W,hO,hm,kg,kb⟩:=h;have op:=iH (E:=E) own;have hu:=jY hr;refine⟨_,(ah (bh (g8 J G (hr.mono (by decide)) (ae (pv 0) (ae (pv 1) af))))
  (ah (aJ (i:=3) bw.nd rfl (Or.inl rfl) vF)
  (ah (aJ (i:=4) bw.nd rfl (Or.inl rfl) ao)
  (ah (aJ (i:=5) bw.nd rfl (Or.inl rfl) (pv 0))
  (ah (b6 op rfl (bp (pv 2)) (jA rfl (aX (aK (i:=6) bw.nd rfl (Or.inr rfl)) (aX (aK (i:=7) bw.nd rfl (Or.inr rfl)) dN))) (ah (aJ (i:=8) bw.nd rfl (Or.inl rfl) (bo Z U (hr.mono (by decide)) (ae (pv 5) (ae (pv 1) (ae (pv 3) af)))))
  (ah (jG (ix:=9) (NC:=["deed","behind","rows","low","high"]) bw.nd rfl (Or.inl rfl) rfl (qB (pre:=["deed","behind","rows"]) (c:=s.heap.objs.size+1) (e:=s.heap.objs.size+2) (j:=6) (k:=7) rfl (by decide +kernel) (by decide +kernel) rfl rfl rfl rfl rfl rfl rfl rfl rfl) (bp (pv 8)) (λ_ _ _ _=>(jE (K:=K) (n:=3) rfl rfl (aX (aK (i:=0) (show(["deed","behind","rows","low","high"]:List UI).Nodup by decide +kernel) rfl (Or.inl rfl)) (aX (aK (i:=1) (show(["deed","behind","rows","low","high"]:List UI).Nodup by decide +kernel) rfl (Or.inl rfl)) (aX (aK (i:=2) (show(["deed","behind","rows","low","high"]:List UI).Nodup by decide +kernel) rfl (Or.inl rfl)) dN))))) (λ_ _ _ _=>(iZ (aM (pF (K:=K) rfl (Q0 hu)) (pv 0) (bC (ae (pv 3) (ae (pv 4) af))) (aQ _)))) (λ_ _ _ _=>(pv 1)))
  (ah (bS (aM fm (aL aH rfl B.len bD (ae (pv 9) af)) ao (aQ _)) ox bg)
  (ah (qQ (i:=4) bw.nd rfl (Or.inl rfl) (aL (xr rfl) rfl B.sum Dt (ae (eX (NC:=["deed","behind","rows","low","high"]) rfl (qB (pre:=["deed","behind","rows"]) (c:=s.heap.objs.size+1) (e:=s.heap.objs.size+2) (j:=6) (k:=7) rfl (by decide +kernel) (by decide +kernel) rfl rfl rfl rfl rfl rfl rfl rfl rfl) (bp (pv 8)) (λ_ _ _ _=>(jE (K:=K) (n:=3) rfl rfl (aX (aK (i:=0) (show(["deed","behind","rows","low","high"]:List UI).Nodup by decide +kernel) rfl (Or.inl rfl)) (aX (aK (i:=1) (show(["deed","behind","rows","low","high"]:List UI).Nodup by decide +kernel) rfl (Or.inl rfl)) (aX (aK (i:=2) (show(["deed","behind","rows","low","high"]:List UI).Nodup by decide +kernel) rfl (Or.inl rfl)) dN))))) (λ_ _ _ _=>(iZ (aM (G4 (K:=K) rfl (Q0 hu)) (pv 0) (bC (ae (pv 3) (ae (pv 4) af))) (aQ _)))) (λ_ _ _ _=>(pv 2))) af)) Aa)
  (aA (aJ (i:=5) bw.nd rfl (Or.inl rfl) (cg eE (pv 9) ao (λ_ _=>rfl)))))))))
  (ah (bS (aM (rM (Q0 hu)) (pv 5) (pv 1) (aQ _)) ox bg)
  (aA (aU (pv 4))))))))),?_⟩
 refine⟨_,rfl,_,rfl,a,b,n,m,ms,os,rfl,by omega,hS,W,hO,hm,λwe=>?_,λjf=>kb jf⟩;obtain⟨WO,kn,kf⟩:=kg we;refine⟨WO,λnf H1 s1=>?_,kf⟩;obtain⟨l,r,rfl,gd,hr0,hF,k⟩:=kn nf;obtain⟨Fq,n6⟩:=qH nf;have hn8:=gd.Ks.1;have pt0:=aI.uF (n:=n) (ms:=ms) (os:=os) n6;have NJ:aP n ms os\/aC n ms os<=6:=(T7 _).imp id λz=>n6 z;refineλd hd=>?_;have s2:=s1.trans (ai (o:=AS P w d []) hd);have nHd:∀{c:Um}{o:HO},H c=Ya o->c≠d:=λ{c o} e z=>by have:=s1 _ _ e;rw[z,hd]at this;cases this
 obtain⟨rs,r1,r2,r3⟩:=hr0;refine⟨_,rfl,_,rfl,l,rfl,⟨_,aZ.of (s2 _ _ r1)⟩,cw (K:=K) (a:=l) (xs:=rs.map V.ref) (λi σ H4=>∃(num:Nat) (nw:Um) (D:List Nat) (v6 v7 v8 v9:Option V) (kv:List NK.Ent),σ=[Ya (.ref a),Ya (.ref b),Ya (.ref l),Ya (.ref d),Ya (.int (num:Nat)),Ya (.ref nw),v6,v7,v8,v9]/\aE H H4/\br K H4 nw (nV D)/\ak n D/\NK.D2 P w H4 d kv/\js kv/\gB.Gd 42 n os D/\(aP n D os\/aC n D os<=6)/\kv.length+BY 42 n os D<=16000000/\aI.gp n os D (r.drop i)/\num+gP n os D (r.drop i)=gP n os ms r)
  ⟨0,a,ms,none,none,none,none,[],rfl,s2,s2.tup hS,W,⟨ag,λp hp=>nomatch hp⟩,lR,gd,NJ,by rw[Qn];omega,hF,Qh _⟩ (λi σ H4 _ zq=>by obtain⟨_,_,_,_,_,_,_,_,_,s4,_⟩:=zq;exact aZ.of (s4 _ _ r1)) ?_ ?_⟩
 .rintro i v σ H4 hv ⟨num,nw,D,v6,v7,v8,v9,kv,rfl,s4,KC,Wc,D4,M4,Fs,HX,l4,F4,HN⟩;have hi:i<rs.length:=by have z:=(OI.mp hv).1;rw[OH]at z;exact z
  have hc:=OG (l:=r) (i:=i) (by omega);have ht:=OG hi;have MM:r.drop i=r[i]::r.drop (i+1):=R9 (by omega);generalize r[i]=c at hc MM;generalize rs[i]=rt at ht;rw[OR,ht]at hv;obtain rfl:=Option.some.inj hv;have MI:=s4 _ _ (r3 i rt c ht hc);rw[MM]at F4 HN;obtain⟨Cq,F5⟩:=F4.ne;obtain⟨c1,c2,c3,c4⟩:=cO Cq;have ne:D≠os:=λz=>by rw[(cI Wc WO).mpr z]at c4;omega
  have dl:=Fs.Fj Wc WO;have Sc:=aI.G6.ND Fs;have gpc:=lS (n:=n) (ms:=D) (os:=os);have gpb:=zJ Sc Wc WO Cq;have nbb:aP n (bN D c.1 c.2) os\/aC n (bN D c.1 c.2) os<=6:=HX.imp (λq=>eN Sc Wc WO q Cq) (λq=>by omega);refine⟨rt,_,rfl,br.of MI,rfl,_,_,rfl,_,_,rfl,rfl,?_⟩;refine⟨_,rfl,_,rfl,_,rfl,nw,b,d,n,D,os,kv,rfl,KC,Wc,s4.tup hO,WO,Fs,HX,D4,M4,by omega,λwl H5 MJ OC s5 D5 M5 l5 w5=>?_⟩;obtain⟨ts,t1,t2,t3⟩:=w5;have sH5:aE H H5:=λc o q=>s5 _ _ (eM (s4 _ _ q) (nHd q));refine⟨_,rfl,wl,rfl,⟨_,aZ.of t1⟩,λDT hDT=>b8 (K:=K) (a:=wl) (xs:=ts.map V.ref) (λi σ H6=>∃(v0 v1 v2:Option V) (qs:List Um),σ=[v0,v1,v2,Ya (.int (c.1:Nat)),Ya (.int (c.2:Nat))]/\aE H5 H6/\H6 DT=Ya (.lst (qs.map V.ref))/\qs.length<=i/\(∀q∈qs,H5 q=Ya (.tup (nV (bN D c.1 c.2))))/\(c∈(dF n os D).take i->qs≠[])) ⟨none,none,none,[],rfl,ai hDT,ag,ON _,λq hq=>(by cases hq),λz=>(by cases z)⟩ (λi σ H6 _ zq=>by obtain⟨_,_,_,_,_,s6,_⟩:=zq;exact aZ.of (s6 _ _ t1)) ?_ ?_⟩
  .rintro i2 v σ H6 hv ⟨v0,v1,v2,qs,rfl,s6,h6,ql,qa,qn⟩;have Cj:i2<ts.length:=by have z:=(OI.mp hv).1;rw[OH]at z;exact z
   have O:=OG (l:=dF n os D) (i:=i2) (by omega);have yD:=OG Cj;generalize(dF n os D)[i2]=ci at O;generalize ts[i2]=MO at yD;rw[OR,yD]at hv;obtain rfl:=Option.some.inj hv;obtain⟨pp,qq,g1,g2,g3⟩:=t3 i2 MO ci yD O;refine⟨MO,_,rfl,br.of (s6 _ _ g1),rfl,_,_,rfl,_,_,rfl,_,_,rfl,rfl,?_⟩;refine⟨_,rfl,_,rfl,_,rfl,by show 2<=Uu;decide,λtp lh=>?_⟩;have s7:aE H6 (upd H6 tp (.tup [.int (c.1:Nat),.int (c.2:Nat)])):=ai lh;refine⟨pp,tp,[(ci.1:Int),(ci.2:Int)],[(c.1:Int),(c.2:Int)],rfl,rfl,br.of (s7 _ _ (s6 _ _ g2)),br.of ag,_,rfl,?_⟩;have s67:=s6.trans s7;have h7:=s7 _ _ h6;generalize upd H6 tp (.tup [.int (c.1:Nat),.int (c.2:Nat)])=H7 at s67 h7;by_cases e:ci=c
   .refine dH (by rw[e];exact Ul rfl) ?_;refine⟨_,rfl,_,h7,aY (by rw[OH];omega),_,_,_,qs++[qq],rfl,s67.upd hDT,by rw[ag,O5];rfl,by rw[OQ,QA];omega,λq hq=>?_,λ_ z=>by simp at z⟩;rcases OY.mp hq with hq|hq
    .exact qa q hq
    rw[OS.mp hq,<-e];exact g3
   refine cY (Up (λz=>e (R4 (by have:=(List.cons.inj z).1;omega) (by have:=(List.cons.inj (List.cons.inj z).2).1;omega)))) ?_;refine⟨_,_,_,qs,rfl,s67,h7,by omega,qa,λz=>qn ?_⟩;rw[aI.take_snoc O]at z;rcases OY.mp z with z|z
   .exact z
   exact Us (OS.mp z).symm e
  rintro σ H6 ⟨v0,v1,v2,qs,rfl,s6,h6,ql,qa,qn⟩;rw[OH,t2,Pc]at qn;have qne:=qn Cq;obtain⟨q0,qr,rfl⟩:∃q0 qr,qs=q0::qr:=by
   cases qs with
   |nil=>exact Us rfl qne
   |cons q0 qr=>exact⟨q0,qr,rfl⟩
  refine⟨_,rfl,DT,_,rfl,.inl (aZ.of h6),rfl,_,rfl,cY (LV (by rw[OH,Ph];omega)) ?_⟩;refine⟨_,rfl,_,rfl,wl,rfl,⟨_,aZ.of (s6 _ _ t1)⟩,λDS KA=>b8 (K:=K) (a:=wl) (xs:=ts.map V.ref) (λi σ H8=>∃(v0 v1 v2:Option V),σ=[v0,v1,v2,Ya (.int (c.1:Nat)),Ya (.int (c.2:Nat))]/\aE H6 H8/\H8 DS=Ya (.lst (nV ((((dF n os D).take i).filter λx=>vP x c).map (gq n os D))))) ⟨none,none,none,rfl,ai KA,ag⟩ (λi σ H8 _ ⟨_,_,_,_,s8,_⟩=>aZ.of (s8 _ _ (s6 _ _ t1))) ?_ ?_⟩
  .rintro i2 v σ H8 hv ⟨v0,v1,v2,rfl,s8,h8⟩;have Cj:i2<ts.length:=by have z:=(OI.mp hv).1;rw[OH]at z;exact z
   have O:=OG (l:=dF n os D) (i:=i2) (by omega);have yD:=OG Cj;generalize(dF n os D)[i2]=ci at O;generalize ts[i2]=MO at yD;rw[OR,yD]at hv;obtain rfl:=Option.some.inj hv;obtain⟨pp,qq,g1,g2,g3⟩:=t3 i2 MO ci yD O;have s68:=s6.trans s8;refine⟨MO,_,rfl,br.of (s68 _ _ g1),rfl,_,_,rfl,_,_,rfl,_,_,rfl,rfl,?_⟩;refine⟨_,rfl,_,rfl,_,rfl,by show 2<=Uu;decide,λtp lh=>?_⟩;have s9:aE H8 (upd H8 tp (.tup [.int (c.1:Nat),.int (c.2:Nat)])):=ai lh;refine⟨pp,tp,[(ci.1:Int),(ci.2:Int)],[(c.1:Int),(c.2:Int)],rfl,rfl,br.of (s9 _ _ (s68 _ _ g2)),br.of ag,_,rfl,?_⟩;have h9:=s9 _ _ h8;have s89:=s8.trans s9;generalize upd H8 tp (.tup [.int (c.1:Nat),.int (c.2:Nat)])=H9 at s89 h9;have ll:(((dF n os D).take i2).filter λx=>vP x c).length<=64:=PD (Pm _ _) (by rw[Pu];omega);by_cases e:vP ci c=true
   .refine dH (by rw[zG];exact e) ?_;refine⟨_,rfl,_,h9,aY (by rw[aS,OH];omega),_,_,_,rfl,s89.upd KA,?_⟩;rw[ag,aI.take_snoc O,O9,O5,RO,Uo e];exact congrArg (λz=>Ya (HO.lst z)) (gj _ _).symm
   refine cY (by rw[zG];exact Qj.mpr e) ?_;refine⟨_,_,_,rfl,s89,?_⟩;rw[aI.take_snoc O,O9,RO,Uk e,Qo,Pj];exact h9
  rintro σ H8 ⟨v0,v1,v2,rfl,s8,h8⟩;rw[OH,t2,Pc,jK]at h8;refine⟨DS,_,rfl,aZ.of h8,_,_,rfl,rfl,?_⟩;rw[aI.r9];have h68:=s8 _ _ h6;refine⟨_,rfl,DT,_,_,_,rfl,rfl,aZ.of h68,hU (j:=0) rfl,?_⟩;have HY:=s6.trans s8;have en:gP n os D (c::r.drop (i+1))=(((dF n os D).filter λd=>vP d c).map (gq n os D)).sum+gP n os (bN D c.1 c.2) (r.drop (i+1)):=rfl;have e1:((num:Nat):Int)+(((((dF n os D).filter λx=>vP x c).map (gq n os D)).sum:Nat):Int)=((num+(((dF n os D).filter λx=>vP x c).map (gq n os D)).sum:Nat):Int):=by omega
  refine⟨num+(((dF n os D).filter λx=>vP x c).map (gq n os D)).sum,q0,_,_,_,_,_,MJ,by rw[<-e1];rfl,sH5.trans HY,br.of (HY _ _ (qa q0 O1)),dy Wc (by omega) c2 c3,aI.D2.same D5 HY,M5,Fs.bN Wc WO Cq,nbb,by omega,F5,by omega⟩
 rintro σ H4 ⟨num,nw,D,v6,v7,v8,v9,kv,rfl,s4,KC,Wc,D4,M4,Fs,HX,l4,F4,HN⟩;rw[OH,r2,Tt]at F4 HN;have e:=F4.end_;subst e;refine⟨_,rfl,_,rfl,nw,b,D.map (λ(z:Nat)=>(z:Int)),D.map (λ(z:Nat)=>(z:Int)),rfl,rfl,by rw[<-jK];exact KC,by rw[<-jK];exact s4.tup hO,_,rfl,?_⟩;refine cY (by simp) ?_;have e2:num=gP n D ms r:=HN;rw[e2];exact⟨_,rfl,k H4 s4⟩
end
section
seal L2.mX L2.PS L2.PE L2.PT L2.PA
variable {P:Ux}{w:UA}{K:OJ}{mg:UI->Option Uj}{base:UH}
theorem oq{f f1 f2 f3 CU CT CB:Um}{fd iu jw mV:Uz}{t0:XJ}(B:Bl mg)(D:mg "MOST_APART_LISTED" = some (.int 5 t0))(F:Fn K mg "works_on_way" dC ["one","other"] f fd)(G:Fn K mg "refuse_beyond" c8 ["most","one","other"] f1 iu)(J:aO P w K mg base (gh P w) 7 f1 iu ["most","one","other"] (lT K CU CT))
  (U:Fn K mg "nearer_deeds" cC ["one","other"] f2 jw) (Z:aO P w K mg base (gh P w) 5 f2 jw ["one","other"] (iC K CU)) (dM:Fn K mg "reclasped" dJ ["work","deed"] f3 mV) (eS:aO P w K mg base (gh P w) 3 f3 mV ["work","deed"] (oM K CB)):aO P w K mg base (gh P w) 8 f fd ["one","other"] (nU CU CT):=by
 refine F.fn.oF cK (λvs H Q E h=>?_) (λje A outer s H vs Q E hr h own=>?_)
 .obtain⟨a,b,n,m0,ms,os,rfl,_⟩:=h
  rfl
 obtain⟨a,b,n,m0,ms,os,rfl,hn,ha,Wm,hb,hm0,kg,kb⟩:=h;have op:=iH (E:=E) own;have hu:=hr.lt 0 (by decide);refine⟨_,(ah (bh (g8 J G (hr.mono (by decide)) (ae (iW (v:=.int 5) rfl D ⟨_,rfl⟩) (ae (pv 0) (ae (pv 1) af)))))
  (ah (aJ (i:=2) cK.nd rfl (Or.inl rfl) (EE (hr.lt 0 (by decide)) (pv 0) du))
  (ah (aJ (i:=3) cK.nd rfl (Or.inl rfl) (bP (ae (pv 0) af)))
  (ah (m6 op (aM iY (aL aH rfl B.len bD (ae (pv 3) af)) ao (aQ _)) (ah (aJ (i:=4) cK.nd rfl (Or.inl rfl) CO)
  (ah (b6 op rfl (bp (pv 3)) (aK (i:=5) cK.nd rfl (Or.inl rfl)) (aA (b6 op rfl (bp (iI Z U (hr.mono (by decide)) (ae (pv 5) (ae (pv 1) af)))) (aK (i:=6) cK.nd rfl (Or.inl rfl)) (aA (qv hu (pv 4) (iI eS dM (hr.mono (by decide)) (ae (pv 5) (ae (pv 6) af))) du rfl)))))
  (ah (bh (d5 PySem.F.plainAttrs_dict Se PySem.F.type_dict_update (EC hu) (pv 2) (ae (pv 4) af)))
  (aA (aJ (i:=3) cK.nd rfl (Or.inl rfl) (b7 (vU rfl) rfl B.list vc (ae (pv 4) af))))))))
  (aA (aU (aL (sk rfl) rfl B.sorted lF (ae (pv 2) af)))))))),?_⟩
 refine⟨_,rfl,_,rfl,a,b,5,n,m0,ms,os,rfl,by decide,by omega,br.of ha,Wm,br.of hb,hm0,λwe=>?_,λjf=>kb jf⟩;obtain⟨WO,kn,kf⟩:=kg we;refine⟨WO,λle5 H1 s1=>?_,kf⟩;obtain⟨lim,Fj,k⟩:=kn le5;have big:∀x:Nat,x<=5000->x<sizeLine:=λx hx=>Qs hx (by decide);have ha1:=s1 _ _ ha;intro d hd;have hdH:H d=none:=s1.free hd;refine⟨_,rfl,ag,a,kW ms,rfl,zQ (by rw[aG (λz=>by rw[z,hd]at ha1;cases ha1)];exact ha1),?_⟩;have s2:aE H1 (upd (upd H1 d (.dT [])) d (.dT [(kW ms,.bl true)])):=(ai hd).upd hd;have u2:upd (upd H1 d (.dT [])) d (.dT [(kW ms,.bl true)]) d=Ya (.dT (dS [ms])):=ag;generalize upd (upd H1 d (.dT [])) d (.dT [(kW ms,.bl true)])=H2 at s2 u2;have HW:=s1.trans s2;refine⟨_,rfl,by show 1<=Uu;decide,λKG aa8=>?_⟩;have s3:aE H2 (upd H2 KG (.lst [.ref a])):=ai aa8;have u3:upd H2 KG (.lst [.ref a]) KG=Ya (.lst [.ref a]):=ag;generalize upd H2 KG (.lst [.ref a])=H3 at s3 u3;have sv:=HW.trans s3;have T0:aI.ft nV H3 KG [ms]:=⟨[a],u3,rfl,λi t x e1 e2=>by
  cases i with
  |zero=>cases e1;cases e2;exact sv _ _ ha
  |succ i=>simp at e1⟩
 obtain⟨W,hW⟩:∃W:Nat->L2.St->Hp->Prop,W=λm σ H4=>∃(F R:List (List Nat)) (c:Nat) (lf:Um) (v4 v5 v6:Option V),σ=[Ya (.ref a),Ya (.ref b),Ya (.ref d),Ya (.ref lf),v4,v5,v6]/\aE H H4/\H4 d=Ya (.dT (dS F))/\aI.ft nV H4 lf R/\gB.Lv n os ms F R c/\((R=[]/\m=0)\/(R≠[]/\m=c+1)):=⟨_,rfl⟩
 refine⟨W,⟨aC n ms os+1,by rw[hW];exact⟨[ms],[ms],_,KG,_,_,_,rfl,sv,s3 _ _ u2,T0,gB.Lv.start,.inr ⟨Tr _ _,rfl⟩⟩⟩,?_⟩;intro m σ H4 h;have h':=h;rw[hW]at h';obtain⟨F,R,c,lf,v4,v5,v6,rfl,s4,tL,wO,lv,hm⟩:=h';obtain⟨rv,r1,r2⟩:=wO.len;refine⟨_,rfl,lf,_,rfl,.inl (aZ.of r1),_,_,rfl,rfl,_,rfl,?_⟩;have Fl:=Fj F lv.nd lv.EI;by_cases c0:0<R.length
 .refine dH (Ul (by omega)) ?_;have rne:R≠[]:=λz=>by rw[z]at c0;exact Us c0 (QF _)
  have hm:m=c+1:=by
   rcases hm with⟨z,_⟩|⟨_,z⟩
   .exact Us z rne
   exact z
  subst hm;refine⟨λσ' H'=>∃m',m'<c+1/\W m' σ' H',λσ' H' h=>h,?_⟩;intro dn MP;have agN:H dn=none:=s4.free MP;have ndn:d≠dn:=λz=>by rw[<-z,tL]at MP;cases MP
  have u5:upd H4 dn (.dT []) dn=Ya (.dT (dS [])):=ag;have s5:aE H4 (upd H4 dn (.dT [])):=ai MP;generalize upd H4 dn (.dT [])=H5 at s5 u5;obtain⟨us,a1,a2,a3⟩:=id wO;refine⟨_,rfl,lf,rfl,⟨_,aZ.of (s5 _ _ a1)⟩,?_⟩;have mono:∀(O:List (List Nat)),O.Nodup->(∀v∈O,∃w∈R,v∈iK n os w)->O.length<64:=λO nd hO=>Fj O nd λv hv=>by
   obtain⟨w,hw,q⟩:=hO v hv;exact(lv.EI w (lv.sub w hw)).step q
  refine cw (K:=K) (a:=lf) (xs:=us.map V.ref) (λi σ H6=>∃(O:List (List Nat)) (v5 v6:Option V),σ=[Ya (.ref a),Ya (.ref b),Ya (.ref d),Ya (.ref lf),Ya (.ref dn),v5,v6]/\aE H4 H6/\H6 dn=Ya (.dT (dS O))/\O.Nodup/\∀v,v∈O↔∃w∈R.take i,v∈iK n os w) ⟨[],_,_,rfl,s5,u5,RF,λv=>by simp⟩ (λi σ H6 _ zq=>by obtain⟨_,_,_,_,s6,_⟩:=zq;exact aZ.of (s6 _ _ a1)) ?_ ?_
  .rintro i x σ H6 hx ⟨O,v5,v6,rfl,s6,J2,NL,KH⟩;rw[OR]at hx;obtain⟨tw,et,rfl⟩:=Qd.mp hx;have hi:i<R.length:=by rw[<-a2];exact(OI.mp et).1
   have ew:=OG hi;generalize R[i]=wk at ew;have hwR:=OP ew;have htw:=s6 _ _ (a3 i tw wk et ew);have Ww:=(lv.EI wk (lv.sub wk hwR)).work Wm;refine⟨_,rfl,_,rfl,tw,b,n,n,wk,os,rfl,by omega,br.of htw,Ww,br.of ((s4.trans s6) _ _ hb),WO.len,λ_=>⟨WO,lim wk (lv.EI wk (lv.sub wk hwR)),λld H7 hld s7 hT7=>?_⟩,λz=>Us rfl z⟩;obtain⟨ds,b1,b2,b3⟩:=id hT7;refine⟨ld,rfl,⟨_,aZ.of b1⟩,?_⟩;refine cw (K:=K) (a:=ld) (xs:=ds.map V.ref) (λj σ H8=>∃(O:List (List Nat)) (v6:Option V),σ=[Ya (.ref a),Ya (.ref b),Ya (.ref d),Ya (.ref lf),Ya (.ref dn),Ya (.ref tw),v6]/\aE H4 H8/\H8 tw=Ya (.tup (nV wk))/\H8 ld=Ya (.lst (ds.map V.ref))/\(∀(i:Nat) (t:Um) (x:Nat×Nat),ds[i]?=Ya t->(dF n os wk)[i]?=Ya x->H8 t=Ya (.tup (pf x)))/\H8 dn=Ya (.dT (dS O))/\O.Nodup/\∀v,v∈O↔(∃w∈R.take i,v∈iK n os w)\/∃c∈(dF n os wk).take j,v=bN wk c.1 c.2) ⟨O,_,rfl,s6.trans s7,s7 _ _ htw,b1,b3,s7 _ _ J2,NL,λv=>by rw[KH];simp⟩ (λi σ H8 _ ⟨_,_,_,_,_,q,_⟩=>aZ.of q) ?_ ?_
   .rintro j y σ H8 hy ⟨O8,v6,rfl,s8,NM,hl8,J3,hd8,NN,NO⟩;rw[OR]at hy;obtain⟨td,ed,rfl⟩:=Qd.mp hy;have hj:j<(dF n os wk).length:=by rw[<-b2];exact(OI.mp ed).1
    have ec:=OG hj;generalize(dF n os wk)[j]=cc at ec;have Cq:=OP ec;obtain⟨q1,q2,q3,q4⟩:=cO Cq;have J1:=J3 j td cc ed ec;refine⟨_,rfl,_,rfl,_,rfl,tw,td,n,wk,_,_,rfl,br.of NM,Ww,J1,aI.Sm.of (by omega) (by omega),aI.Sm.of (by omega) (by omega),λ_ tv H9 htv s9 hv9=>?_,λz=>Us ⟨by omega,by omega,by omega,by rw[Pq];omega⟩ z⟩;rw[Pq,Pq]at hv9;have NP:=s9 _ _ hd8;have ex8:∀v∈O8,∃w∈R,v∈iK n os w:=λv hv=>by
     rcases(NO v).mp hv with⟨w,hw,q⟩|⟨e,he,rfl⟩
     .exact⟨w,SQ hw,q⟩
     exact⟨wk,hwR,OO.mpr ⟨e,SQ he,rfl⟩⟩
    have Ol:=mono O8 NN ex8;refine⟨dn,_,rfl,sS.t NP (zQ hv9) (big _ (by unfold dS;rw[OH];omega)),?_⟩;rw[gB.Mk];have MQ:∀t vs,H9 t=Ya (.tup vs)->t≠dn:=λt vs e z=>by rw[z,NP]at e;cases e
    have HV:ld≠dn:=λz=>by rw[<-z,s9 _ _ hl8]at NP;cases NP
    refine⟨gB.addW O8 (bN wk cc.1 cc.2),_,rfl,(s8.trans s9).upd MP,?_,?_,λi' t' x' e1 e2=>?_,ag,gB.G9 NN,λv=>?_⟩
    .rw[aG (MQ _ _ (s9 _ _ NM))];exact s9 _ _ NM
    .rw[aG HV];exact s9 _ _ hl8
    .have q:=s9 _ _ (J3 i' t' x' e1 e2);rw[aG (MQ _ _ q)];exact q
    rw[gB.EG,NO,aI.take_snoc ec];constructor
    .rintro((q|⟨e,he,q⟩)|q)
     .exact .inl q
     .exact .inr ⟨e,Pn _ he,q⟩
     exact .inr ⟨cc,O4 _ O1,q⟩
    rintro(q|⟨e,he,q⟩)
    .exact .inl (.inl q)
    rcases OY.mp he with z|z
    .exact .inl (.inr ⟨e,z,q⟩)
    rw[OS.mp z]at q;exact .inr q
   rintro σ H8 ⟨O8,v6,rfl,s8,NM,hl8,J3,hd8,NN,NO⟩;refine⟨O8,_,_,rfl,s8,hd8,NN,λv=>?_⟩;rw[NO,OH,b2,Pc,aI.take_snoc ew];constructor
   .rintro(⟨w,hw,q⟩|⟨e,he,q⟩)
    .exact⟨w,Pn _ hw,q⟩
    exact⟨wk,O4 _ O1,OO.mpr ⟨e,he,q.symm⟩⟩
   rintro⟨w,hw,q⟩;rcases OY.mp hw with z|z
   .exact .inl ⟨w,z,q⟩
   rw[OS.mp z]at q;obtain⟨e,he,q⟩:=OO.mp q;exact .inr ⟨e,he,q.symm⟩
  rintro σ H6 ⟨O,v5,v6,rfl,s6,J2,NL,KH⟩;rw[OH,a2,Pc]at KH;have Ol:=mono O NL λv hv=>(KH v).mp hv;have fne:dS F≠[]:=λz=>by
   have q:(kW ms,V.bl true)∈dS F:=OO.mpr ⟨ms,lv.one,rfl⟩;rw[z]at q;cases q
  refine⟨_,rfl,.inr (.inr (.inl ⟨rfl,.inr ⟨_,s6 _ _ tL⟩⟩)),_,rfl,d,dn,_,_,rfl,rfl,ndn,s6 _ _ tL,J2,fne,?_,?_⟩
  .unfold dS;rw[OH,OH];omega
  by_cases oe:O=[]
  .subst oe;have e9:jM (dS F) (dS [])=dS F:=rfl;rw[e9];have s9:aE H (upd H6 d (.dT (dS F))):=(s4.trans s6).upd hdH;have u9:upd H6 d (.dT (dS F)) d=Ya (.dT (dS F)):=ag;have n9:upd H6 d (.dT (dS F)) dn=Ya (.dT (dS [])):=by rw[aG (Ne.symm ndn)];exact J2
   generalize upd H6 d (.dT (dS F))=H9 at s9 u9 n9;refine⟨_,rfl,dn,_,rfl,n9,λl2 bs uZ KI _=>?_⟩;have hbs:bs=[]:=Qk.mp KI;subst hbs;refine⟨0,by omega,?_⟩;rw[hW];exact⟨F,[],c,l2,_,_,_,rfl,s9.trans (ai uZ),ai uZ _ _ u9,aI.ft.nil ag,lv.stop λw hw v hv=>by have:=(KH v).mpr ⟨w,hw,hv⟩;simp at this,.inl ⟨rfl,rfl⟩⟩
  obtain⟨c',ec,lv'⟩:=lv.next Wm NL KH oe
  rw[gB.EH lv'.nd];have s9:aE H (upd H6 d (.dT (dS (F++O)))):=(s4.trans s6).upd hdH;have u9:upd H6 d (.dT (dS (F++O))) d=Ya (.dT (dS (F++O))):=ag;have n9:upd H6 d (.dT (dS (F++O))) dn=Ya (.dT (dS O)):=by rw[aG (Ne.symm ndn)];exact J2
  generalize upd H6 d (.dT (dS (F++O)))=H9 at s9 u9 n9;refine⟨_,rfl,dn,_,rfl,n9,λl2 bs uZ KI hbs=>?_⟩;refine⟨c,by omega,?_⟩;rw[hW];have T9:aI.ft nV (upd H9 l2 (.lst (bs.map V.ref))) l2 O:=by
   refine⟨bs,ag,by rw[KI];unfold dS;rw[OH],λi t v e1 e2=>?_⟩;have q:=hbs i t (kW v) (.bl true) e1 (by unfold dS;rw[OR,e2];rfl);rw[<-gB.HP]at q;rw[aG (λz=>by rw[z,uZ]at q;cases q)];exact q
  exact⟨F++O,O,c',l2,_,_,_,rfl,s9.trans (ai uZ),ai uZ _ _ u9,T9,lv',.inr ⟨oe,ec⟩⟩
 refine cY (Up (by omega)) ?_;have r0:R=[]:=Qk.mp (by omega);subst r0;have inR:∀w:List Nat,ak n w->Ci (oI w):=λw Ww x hx=>by
  obtain⟨y,hy,rfl⟩:=OO.mp hx;obtain⟨i,hi⟩:=Qq.mp hy;have sO:=(OI.mp hi).1;rw[Ww.len]at sO;have q:=Ww.wk.lt i sO;have e:ar w i=y:=by unfold ar;rw[Ql,hi];rfl
  rw[e]at q;omega
 refine⟨_,rfl,d,2*n,_,F.map oI,rfl,tL,?_,by rw[OH];exact Fl,λz=>?_,λr hr=>?_,λus g l hp hs ht hl=>?_⟩
 .unfold dS;rw[Pp,Pp];refine PB λw _=>?_;show kW w=(oI w).map JQ;unfold oI;rw[Pp]
  rfl
 .refine Nat.pos_of_ne_zero λz0=>?_;have abe:∀w∈F,w=[]:=λw hw=>Qk.mp (by rw[((lv.EI w hw).work Wm).len,z0]);rw[OH]at z;have:=Th.sub_len lv.nd (m:=[[]]) λw hw=>by rw[abe w hw];exact O1
  simp at this;omega
 .obtain⟨w,hw,rfl⟩:=OO.mp hr;have Ww:=(lv.EI w hw).work Wm;exact⟨by unfold oI;rw[OH,Ww.len],inR w Ww⟩
 have unr:∀w:List Nat,(oI w).map SH=w:=λw=>by
  unfold oI;rw[Pp];exact(PB λx _=>Pq x).trans (Ue w)
 have gw:∀t∈us,∃w∈F,g t=oI w:=λt Mc=>by
  obtain⟨w,hw,e⟩:=OO.mp (hp.mem_iff.mp (OO.mpr ⟨t,Mc,rfl⟩));exact⟨w,hw,e.symm⟩
 have pm:((us.map g).map λr=>r.map SH).Perm F:=by
  have q:=hp.map λr=>r.map SH;rw[Pp (l:=F)]at q;have e:F.map ((λr:List Int=>r.map SH) ∘ oI)=F:=(PB λw _=>unr w).trans (Ue F);rw[e]at q;exact q
 refine k l ((us.map g).map λr=>r.map SH) _ (s4.free hl) (s4.trans (ai hl)) ⟨us,ag,by rw[OH,OH],λi t x e1 e2=>?_⟩ (pm.nodup_iff.mpr lv.nd) (λw=>?_)
 .rw[OR,OR,e1]at e2;obtain rfl:=Option.some.inj e2;have htm:=OP e1;obtain⟨w,_,e⟩:=gw t htm;have q:=ht t htm;rw[aG (λz=>by rw[z,hl]at q;cases q),q];rw[e];show some (HO.tup ((oI w).map V.int))=Ya (HO.tup (nV ((oI w).map SH)));rw[unr];unfold oI nV;rw[Pp]
  rfl
 rw[pm.mem_iff];exact⟨λq=>lv.EI w q,λq=>lv.all q⟩
end
section
variable {P:Ux}{w:UA}{K:OJ}{mg:UI->Option Uj}{base:UH}
theorem lj{f:Um}{G:Uz}(B:Bl mg)(F:Fn K mg "_law_cell_at" fy ["script","k"] f G):aO P w K mg base dq 1 f G ["script","k"] (aI.xu K):=by
 refine F.fn.ok su (λO H Q E h=>?_) (λU A outer s H O Q E hr h=>?_)
 .obtain⟨a,ns,k,rfl,_⟩:=h
  rfl
 obtain⟨a,ns,k,rfl,J,q⟩:=h;refine⟨_,ah (bS (aM jW (pv 1) (aL aH rfl B.len bD (ae (pv 0) af)) (aQ _)) (aA (aU (cg eE (pv 0) (pv 1) (λ_ _=>rfl)))) bg) (aA (aU ao)),?_⟩;refine⟨_,rfl,_,rfl,a,_,rfl,.inl J,_,_,rfl,rfl,_,rfl,?_⟩;refine fu (λD=>?_) (λD=>?_)
 .have D:=Uw D;rw[OH]at D;have Z:k<ns.length:=by omega
  have e:(ns.map V.int)[k]?=Ya (.int ns[k]):=by rw[OR,OG Z];rfl
  exact⟨_,rfl,_,rfl,a,_,_,_,rfl,rfl,J,hU e,q _⟩
 exact q 0
theorem wt{f:Um}{fd:Uz}(B:Bl mg)(F:Fn K mg "_law_mates" gU ["flow","staves"] f fd):aO P w K mg base dq 1 f fd ["flow","staves"] (aI.Ay K):=by
 refine F.fn.ok fh (λvs H Q E h=>?_) (λje A outer s H vs Q E hr h=>?_)
 .obtain⟨a,cs,n,rfl,_⟩:=h
  rfl
 obtain⟨a,cs,n,rfl,hS,hn,k⟩:=h;refine⟨_,ah (aJ (i:=2) fh.nd rfl (Or.inl rfl) (b7 (sV rfl) rfl B.list vc (ae (b7 Bs rfl B.range Dc (ae (aT fq ao (pv 1)) af)) af)))
  (ah (b6 PassesOwn.never rfl (bp (pv 0)) (aK (i:=3) fh.nd rfl (Or.inl rfl))
   (aA (bS (aM iY (pv 1) ao (aQ _))
    (ah (aJ (i:=4) fh.nd rfl (Or.inl rfl) (aT eI (pv 3) (aT fq ao (pv 1))))
    (ah (aJ (i:=5) fh.nd rfl (Or.inl rfl) (aT eI (aT dO (aT eI (aT fq (aT eI (pv 3) ao) ao) ao) ao) (aT fq ao (pv 1))))
    (ah (b6 PassesOwn.never rfl (bp (bP (ae (pv 4) (ae (pv 5) af)))) (aK (i:=6) fh.nd rfl (Or.inl rfl))
     (ah (kA (cg eE (pv 2) (pv 6) (λ_ _=>rfl)) (oy (pv 2) (cg eE (pv 2) (pv 6) (λ_ _=>rfl)) set_list))
     (aA (kA (pv 6) (oy (pv 2) (pv 6) set_list)))))
    (ah (kA (pv 5) (oy (pv 2) (pv 4) set_list))
    (aA (kA (pv 4) (oy (pv 2) (pv 5) set_list))))))) bg)))
  (aA (aU (pv 2)))),?_⟩
 refine⟨_,rfl,_,_,rfl,rfl,.inl ⟨by decide,by decide⟩,_,rfl,λp hp=>⟨p,0,_,rfl,ag,⟨by omega,by omega,by omega,by omega⟩,by omega,λl hl=>?_⟩⟩;obtain⟨nlp,nl⟩:=C9 hl;have e0:u7 0 (2*(n:Int)-0).toNat=nV (OV (2*n)):=by
  rw[show(2*(n:Int)-0).toNat=2*n by omega];exact aI.Gu _
 rw[e0];have S1:aE H (upd (upd H p (.Hj 0 (2*(n:Int)))) l (.lst (nV (OV (2*n))))):=(ai hp).upd nl;refine⟨_,rfl,a,rfl,⟨_,S1.seq hS⟩,cw (K:=K) (a:=a) (xs:=cs.map V.int) (λi σ H2=>∃(v3 v4 v5 v6:Option V) (ms:List Nat),σ=[Ya (.ref a),Ya (.int n),Ya (.ref l),v3,v4,v5,v6]/\aE H H2/\H2 l=Ya (.lst (nV ms))/\ak n ms)
  ⟨none,none,none,none,_,rfl,S1,ag,aI.y0 hn⟩ (λi σ H2 _ ⟨_,_,_,_,_,_,s2,_⟩=>s2.seq hS) ?_ ?_⟩
 .rintro i x σ H2 hx ⟨v3,v4,v5,v6,ms,rfl,s2,J,W⟩;obtain⟨z,rfl⟩:∃z,x=V.int z:=by
   obtain⟨z,_,e⟩:=OO.mp (OP hx);exact⟨z,e.symm⟩
  refine⟨_,rfl,_,_,rfl,rfl,_,rfl,?_⟩;refine fu (λh1=>?_) (λh1=>?_)
  .have hn0:0<(n:Int):=Uw h1;have G:0<2*(n:Int):=by omega
   refine⟨_,rfl,_,rfl,_,_,rfl,rfl,.inl ⟨by decide,by decide⟩,_,_,rfl,rfl,G,?_⟩;have b0:=QD z (show(1000000007:Int)≠0 by decide);have b1:=QE z (show(0:Int)<1000000007 by decide);refine⟨_,rfl,_,_,rfl,rfl,(by show(0:Int)<1000000007;decide),_,_,rfl,rfl,.inl ⟨by omega,by omega⟩,_,_,rfl,rfl,(by show(0:Int)<2147483647;decide),_,_,rfl,rfl,⟨by decide,by decide⟩,_,rfl,_,_,rfl,rfl,.inl ⟨by decide,by decide⟩,_,_,rfl,rfl,G,?_⟩;generalize z%1000000007*48271%2147483647/89=y;obtain⟨O,hpe,KJ⟩:∃O:Nat,z%(2*(n:Int))=O/\O<2*n:=⟨(z%(2*(n:Int))).toNat,by have:=QD z (show 2*(n:Int)≠0 by omega);omega,by have:=QE z G;have:=QD z (show 2*(n:Int)≠0 by omega);omega⟩
   obtain⟨U,hqe,KL⟩:∃U:Nat,y%(2*(n:Int))=U/\U<2*n:=⟨(y%(2*(n:Int))).toNat,by have:=QD y (show 2*(n:Int)≠0 by omega);omega,by have:=QE y G;have:=QD y (show 2*(n:Int)≠0 by omega);omega⟩
   dsimp only;rw[hpe,hqe];refine⟨_,rfl,_,rfl,by show 2<=Uu;decide,λle hle=>⟨le,rfl,⟨_,aZ.of ag⟩,cw (K:=K) (a:=le) (xs:=[.int O,.int U])
    (λj σ H3=>∃(v:Option V) (D:List Nat),σ=[Ya (.ref a),Ya (.int n),Ya (.ref l),Ya (.int z),Ya (.int O),Ya (.int U),v]/\aE H H3/\H3 le=Ya (.lst [.int O,.int U])/\H3 l=Ya (.lst (nV D))/\ak n D /\
     (1<=j->ar D O=O)/\(2<=j->ar D U=U))
    ⟨v6,ms,rfl,s2.upd (s2.free hle),ag,by rw[aG (aW J hle)];exact J,W,λh=>by omega,λh=>by omega⟩ (λj σ H3 _ ⟨_,_,_,_,e,_⟩=>aZ.of e) ?_ ?_⟩⟩
   .rintro j y' σ H3 hj ⟨v,D,rfl,s3,MS,Z,W3,h1',NQ⟩;obtain⟨e,rfl,he,HZ⟩:∃e:Nat,y'=V.int e/\e<2*n/\((j=0/\e=O)\/(j=1/\e=U)):=by
     match j,hj with
     |0,hj=>exact⟨O,(Option.some.inj hj).symm,KJ,.inl ⟨rfl,rfl⟩⟩
     |1,hj=>exact⟨U,(Option.some.inj hj).symm,KL,.inr ⟨rfl,rfl⟩⟩
     |_+2,hj=>cases hj
    have nll:l≠le:=aW J hle;have Cm:=W3.ix he;have hlen:(nV D).length=2*n:=by rw[aS,W3.len]
    have hm:=W3.wk.lt e he;refine⟨_,rfl,_,rfl,l,_,_,_,rfl,rfl,aZ.of Z,Cm,_,rfl,_,rfl,_,rfl,l,_,_,_,rfl,rfl,aZ.of Z,Cm,l,_,_,_,rfl,rfl,Z,oz (QT _) (by rw[hlen];omega),?_⟩;rw[Pq,mJ];refine⟨_,rfl,_,rfl,_,rfl,l,_,_,_,rfl,rfl,ag,oz (QT _) (by rw[aS,PR,W3.len];omega),?_⟩;rw[Pq,mJ];obtain⟨W4,l4⟩:=aI.yY W3 he;refine⟨_,aI.freed D e,rfl,(s3.upd nl).upd nl,by rw[aG nll.symm,aG nll.symm];exact MS,ag,W4,λ_=>?_,λh=>?_⟩
    .rcases HZ with⟨rfl,rfl⟩|⟨rfl,rfl⟩
     .exact l4
     exact aI.xw W3 he (h1' (ON _))
    rcases HZ with⟨rfl,rfl⟩|⟨rfl,rfl⟩
    .omega
    exact l4
   rintro σ H3 ⟨v,D,rfl,s3,MS,Z,W3,h1',NQ⟩;have hlen:(nV D).length=2*n:=by rw[aS,W3.len]
   refine⟨_,rfl,_,rfl,_,rfl,l,_,_,_,rfl,rfl,Z,oz (QT _) (by rw[hlen];omega),?_⟩;rw[Pq,mJ];refine⟨_,rfl,_,rfl,_,rfl,l,_,_,_,rfl,rfl,ag,oz (QT _) (by rw[aS,PR,W3.len];omega),?_⟩;rw[Pq,mJ];exact⟨_,_,_,_,hH D O U,rfl,(s3.upd nl).upd nl,ag,aI.yZ W3 KJ KL (h1' (by simp)) (NQ (by simp))⟩
  exact⟨_,_,_,_,ms,rfl,s2,J,W⟩
 rintro σ H2 ⟨v3,v4,v5,v6,ms,rfl,s2,J,W⟩;exact⟨_,rfl,k l H2 ms nl s2 W J⟩
theorem tO{f f1 f2:Um}{fd Z jw:Uz}(B:Bl mg)(F:Fn K mg "_law_halves" ir ["script","most"] f fd)(D:Fn K mg "_law_cell_at" fy ["script","k"] f1 Z)(G:Fn K mg "_law_mates" gU ["flow","staves"] f2 jw):aO P w K mg base dq 2 f fd ["script","most"] (aI.DE K):=by
 have J:aO P w K mg base dq 1 f1 Z ["script","k"] (aI.xu K):=lj B D;have O:aO P w K mg base dq 1 f2 jw ["flow","staves"] (aI.Ay K):=wt B G;refine F.fn.ok jd (λvs H Q E h=>?_) (λje A outer s H vs Q E hr h=>?_)
 .obtain⟨a,ns,most,rfl,_⟩:=h
  rfl
 obtain⟨a,ns,most,rfl,hS,hlen,adU,k⟩:=h;refine⟨_,(ah (aJ (i:=2) jd.nd rfl (Or.inl rfl) (aT eH ao (aT eI (bo J D (hr.mono (by decide)) (ae (pv 0) (ae ao af))) (aL (tU rfl) rfl B.max yU (ae ao (ae (aT kC (aL aH rfl B.len bD (ae (pv 0) af)) ao) af))))))
  (ah (aJ (i:=3) jd.nd rfl (Or.inl rfl) (aT eI (bo J D (hr.mono (by decide)) (ae (pv 0) (ae ao af))) (aT eH (pv 1) ao)))
  (aA (aU (bC (ae (bo O G (hr.mono (by decide)) (ae (w6 Ak (pv 0) (uU ao) (uU (pv 2))) (ae (pv 3) af))) (ae (bo O G (hr.mono (by decide)) (ae (w6 Ak (pv 0) (uU (pv 2)) FX) (ae (pv 3) af))) af))))))),?_⟩
 refine⟨_,rfl,a,ns,1,rfl,hS,λc1=>?_⟩;refine⟨_,rfl,a,_,rfl,.inl hS,_,_,rfl,rfl,_,_,rfl,?_⟩;have vW:(1:Int)<=(if((ns.map V.int).length:Int)-1>1 then((ns.map V.int).length:Int)-1 else 1):=by split <;> omega
 refine⟨_,_,rfl,rfl,(by show(0:Int)<(if((ns.map V.int).length:Int)-1>1 then((ns.map V.int).length:Int)-1 else 1);omega (config:={})),_,_,rfl,rfl,?_⟩;dsimp only;generalize(2:Int)+c1%(if((ns.map V.int).length:Int)-1>1 then((ns.map V.int).length:Int)-1 else 1)=cut;refine⟨_,rfl,a,ns,0,rfl,hS,λc0=>?_⟩;refine⟨_,rfl,_,_,rfl,rfl,_,_,rfl,rfl,(by show(0:Int)<(most:Int)+1;omega),?_⟩;dsimp only;have g0:0<=c0%((most:Int)+1):=QD _ (by omega);have g1:c0%((most:Int)+1)<(most:Int)+1:=QE _ (by omega);obtain⟨n,hn⟩:∃n:Nat,c0%((most:Int)+1)=n:=⟨(c0%((most:Int)+1)).toNat,by omega⟩
 rw[hn];obtain⟨x1,ex1,_⟩:=aI.ue ns (Ya 2) (Ya cut);obtain⟨x2,ex2,_⟩:=aI.ue ns (Ya cut) none;refine⟨_,rfl,_,rfl,_,rfl,_,rfl,a,_,rfl,hS,λb1 hb1=>?_⟩;rw[ex1];have s1:aE H (upd H b1 (.lst (x1.map V.int))):=ai hb1;refine⟨_,rfl,b1,x1,n,rfl,aZ.of ag,by omega,λl1 H1 ms Hc s2 W h1=>?_⟩;have U:=s1.trans s2;refine⟨_,rfl,_,rfl,_,rfl,a,_,rfl,U.seq hS,λb2 Ky=>?_⟩;rw[ex2];have s3:aE H1 (upd H1 b2 (.lst (x2.map V.int))):=ai Ky;refine⟨_,rfl,b2,x2,n,rfl,aZ.of ag,by omega,λl2 H2 os uZ s4 WO h2=>?_⟩;have s34:=s3.trans s4;refine⟨by show 2<=Uu;decide,λt ht=>?_⟩;have s5:aE H2 (upd H2 t (.tup [.ref l1,.ref l2])):=ai ht;have Fq:l1≠l2:=aW (s3 _ _ h1) uZ;exact k n t l1 l2 ms os _ (by omega) ((U.trans s34).trans s5) ag (s5 _ _ (s34 _ _ h1)) W (s5 _ _ h2) WO (s1.free Hc) ((U.trans s3).free uZ) Fq
theorem pP{f:Um}{fd:Uz}(B:Bl mg)(F:Fn K mg "_law_walk" fP ["one","other","end","known"] f fd):aO P w K mg base dq 1 f fd ["one","other","end","known"] lL:=by
 refine F.fn.ok gY (λvs H Q E h=>?_) (λje A outer s H vs Q E hr h=>?_)
 .obtain⟨a,b,d,n,e,ms,os,kv,rfl,_⟩:=h
  rfl
 obtain⟨a,b,d,n,e,ms,os,kv,rfl,ha,W,hb,WO,he,hd,hkv,Ft,jf,k⟩:=h;have T:=bJ W WO;have Ck:=W.small;have hu:=jY hr;have nad:a≠d:=λz=>by rw[z,hd]at ha;cases ha
 have nbd:b≠d:=λz=>by rw[z,hd]at hb;cases hb
 refine⟨_,(ah (aJ (i:=4) gY.nd rfl (Or.inl rfl) (bP (ae (pv 2) af)))
  (ah (qv hu (pv 3) (pv 2) du rfl)
  (ah (aJ (i:=5) gY.nd rfl (Or.inl rfl) ao)
  (ah (m6 PassesOwn.never (Dy (R:=λσ H Q=>∃(l:Um) (ys:List V) (x:Nat),σ[5]?=Ya (Ya (.int x))/\σ[4]?=Ya (Ya (.ref l))/\H l=Ya (.lst ys)/\Q (decide (x<ys.length)) H) λσ H Q hR=>?tst) (ah (b6 PassesOwn.never rfl (bp (bP (ae (cg eE (pv 0) (cg eE (pv 4) (pv 5) (λ_ _=>rfl)) (λ_ _=>rfl)) (ae (cg eE (pv 1) (cg eE (pv 4) (pv 5) (λ_ _=>rfl)) (λ_ _=>rfl)) af)))) (aK (i:=6) gY.nd rfl (Or.inl rfl)) (aA (bS (qO (lD hu (pv 6) (pv 3))) (ah (qv hu (pv 3) (pv 6) du rfl)
  (aA (bh (d5 O7 Py Pz cF (pv 4) (ae (pv 6) af))))) bg)))
  (aA (aJ (i:=5) gY.nd rfl (Or.inl rfl) (aT eH (pv 5) ao)))))
  (aA (aU (pv 4))))))),?_⟩
 case tst =>
  obtain⟨l,ys,x,e5,e4,hl,q⟩:=hR;refine⟨_,aM jW (pv 5) (aL aH rfl B.len bD (ae (pv 4) af)) (aQ _),?_⟩;refine⟨_,e5,_,e4,l,_,rfl,.inl (aZ.of hl),_,_,rfl,rfl,_,rfl,?_⟩;have ee:decide ((x:Int)<(ys.length:Int))=decide (x<ys.length):=by
   by_cases c:x<ys.length
   .rw[Ul c,Ul (by omega)]
   rw[Up c,Up (by omega)]
  exact(congrArg (λb=>Q b H) ee).mpr q
 have dis:∀y,Th.aB (ar ms) (ar os) e y->¬(bX kv (Sum.inl (y:Int):Key)).isSome=true:=λy hy z=>by
  have back:=hy.symm T he;have NR:=hy.lt T he;have q:=back (λj=>j<2*n/\(bX kv (Sum.inl (j:Int):Key)).isSome=true) ⟨NR,z⟩ λj ⟨hj,hs⟩=>⟨⟨T.fl j hj,(Ft j hj hs).1⟩,T.gl j hj,(Ft j hj hs).2⟩
  exact jf q.2
 refine⟨_,rfl,by show 1<=Uu;decide,λl hl=>?_⟩;have s0:aE H (upd H l (.lst [.int e])):=ai hl;have HV:l≠d:=λz=>by rw[z,hd]at hl;cases hl
 have MV:upd H l (.lst [.int e]) d=Ya (.dK kv):=s0 _ _ hd;have Hc:upd H l (.lst [.int e]) l=Ya (.lst (nV [e])):=ag;generalize upd H l (.lst [.int e])=H1 at s0 MV Hc⊢;refine⟨_,rfl,_,rfl,d,_,rfl,sS.k (k:=Sum.inl (e:Int)) MV (Qs (show kv.length<=10000 from hkv) (by decide)),?_⟩;unfold FE;dsimp only[wU,FG,tC];have MW:∀L:List Nat,L.Nodup->(∀y∈L,Th.aB (ar ms) (ar os) e y)->L.length<=2*n:=λL nd hc=>by
  have z:=Th.sub_len nd (m:=OV (2*n)) λy hy=>OX.mpr ((hc y hy).lt T he);rwa[OW]at z
 refine qS (λσ Z=>∃(L:List Nat) (D:Nat) (J:List (Key×V)) (v6:Option V),σ=[Ya (.ref a),Ya (.ref b),Ya (.int e),Ya (.ref d),Ya (.ref l),Ya (.int D),v6]/\(∀c o,c≠d->H c=Ya o->Z c=Ya o)/\Z l=Ya (.lst (nV L))/\Z d=Ya (.dK J)/\J.length<=kv.length+L.length /\
   L.Nodup/\(∀y∈L,Th.aB (ar ms) (ar os) e y)/\e∈L/\D<=L.length/\(∀j:Nat,j<2*n->((bX J (Sum.inl (j:Int):Key)).isSome=true↔(bX kv (Sum.inl (j:Int):Key)).isSome=true\/j∈L))/\∀i y,i<D->L[i]?=Ya y->ar ms y∈L/\ar os y∈L)
  (λ(σ:L2.St) (Z:Hp)=>match σ[5]? with|some (Ya (V.int k))=>2*n+1-k.toNat|_=>0)
  ⟨[e],0,_,_,rfl,λc o hc q=>by rw[aG hc];exact s0 _ _ q,by rw[aG HV];exact Hc,ag,?_,Qy.mpr ⟨Qp,RF⟩,λy hy=>by rw[OS.mp hy];exact Th.aB.refl e,OS.mpr rfl,by simp,λj hj=>?_,λi y hi=>Us hi (Rx _)⟩ ?_ ?_
 .have z:=fY kv (Sum.inl (e:Int):Key) (V.bl true);exact z
 .rw[qU];by_cases q:(Sum.inl (j:Int):Key)=Sum.inl (e:Int)
  .rw[Uo q];have e2:j=e:=by injection q with q;omega
   exact⟨λ_=>.inr (OS.mpr e2),λ_=>rfl⟩
  rw[Uk q];have e2:j≠e:=λz=>q (by rw[z]);exact⟨.inl,λz=>z.resolve_right λw=>e2 (OS.mp w)⟩
 .rintro σ Z ⟨L,D,J,v6,rfl,s2,O,hd2,A3,nd,NS,heL,hat,LS,Ia⟩;have hL:=MW L nd NS;have Ku:(nV L).length=L.length:=aS L;refine⟨l,_,D,rfl,rfl,O,?_⟩;rw[Ku];refine fu (λh1=>?_) (λh1=>?_)
  .have h1:D<L.length:=Uw h1;have ey:=OG h1;generalize L[D]=y at ey;have hyc:=NS y (OP ey);have NR:=hyc.lt T he;have ha2:=s2 _ _ nad ha;have Ky:=s2 _ _ nbd hb;have MX:uV (nV L) (D:Int)=Ya (.int (y:Nat)):=hU (vn ey);refine⟨_,rfl,_,rfl,_,rfl,l,_,_,_,rfl,rfl,aZ.of O,MX,a,_,_,_,rfl,rfl,aZ.of ha2,W.ix NR,?_⟩;refine⟨_,rfl,_,rfl,_,rfl,l,_,_,_,rfl,rfl,aZ.of O,MX,b,_,_,_,rfl,rfl,aZ.of Ky,WO.ix NR,?_⟩;refine⟨by show 2<=Uu;decide,λlq HG=>?_⟩;have s3:aE Z (upd Z lq (.lst [.int (ar ms y:Nat),.int (ar os y:Nat)])):=ai HG;have J4:upd Z lq (.lst [.int (ar ms y:Nat),.int (ar os y:Nat)]) lq=Ya (.lst (nV [ar ms y,ar os y])):=ag;have nql:lq≠l:=λz=>by rw[z,O]at HG;cases HG
   have nqd:lq≠d:=λz=>by rw[z,hd2]at HG;cases HG
   have Fu:=s3 _ _ O;have Av:=s3 _ _ hd2;have Ib:∀c o,c≠d->H c=Ya o->upd Z lq (.lst [.int (ar ms y:Nat),.int (ar os y:Nat)]) c=Ya o:=λc o hc q=>s3 _ _ (s2 c o hc q);generalize upd Z lq (.lst [.int (ar ms y:Nat),.int (ar os y:Nat)])=H3 at s3 J4 Fu Av Ib⊢;refine⟨lq,rfl,⟨_,aZ.of J4⟩,cw (K:=K) (a:=lq) (xs:=nV [ar ms y,ar os y]) (λi σ H4=>∃(r:List Nat) (G:List (Key×V)) (v6:Option V),σ=[Ya (.ref a),Ya (.ref b),Ya (.int e),Ya (.ref d),Ya (.ref l),Ya (.int D),v6]/\(∀c o,c≠d->H c=Ya o->H4 c=Ya o) /\
     H4 lq=Ya (.lst (nV [ar ms y,ar os y]))/\H4 l=Ya (.lst (nV (L++r)))/\H4 d=Ya (.dK G)/\G.length<=kv.length+(L++r).length/\(L++r).Nodup/\(∀y∈L++r,Th.aB (ar ms) (ar os) e y) /\
     (∀j:Nat,j<2*n->((bX G (Sum.inl (j:Int):Key)).isSome=true↔(bX kv (Sum.inl (j:Int):Key)).isSome=true\/j∈L++r))/\(0<i->ar ms y∈L++r)/\(1<i->ar os y∈L++r))
    ⟨[],J,v6,rfl,Ib,J4,by rw[Pj];exact Fu,Av,by rw[Pj];exact A3,by rw[Pj];exact nd,by rw[Pj];exact NS,by rw[Pj];exact LS,λz=>Us z (by omega),λz=>Us z (by omega)⟩
    (λi σ H4 _ ⟨_,_,_,_,_,q,_⟩=>aZ.of q) ?_ ?_⟩
   .rintro i z σ H4 hz ⟨r,G,v6',rfl,s4,KN,Cn,tL,E2,MY,MZ,U,b1,b2⟩;obtain⟨x,hx,rfl⟩:=cX hz;have Cj:i<2:=by have:=(OI.mp hx).1;simpa using this
    have hxc:Th.aB (ar ms) (ar os) e x:=by
     match i,Cj,hx with
     |0,_,hx=>obtain rfl:=Option.some.inj hx;exact hyc.sf
     |1,_,hx=>obtain rfl:=Option.some.inj hx;exact hyc.sg
    have A8:=hxc.lt T he;have got:∀M:List Nat,x∈M->(∀w,w∈L++r->w∈M)->(0<i+1->ar ms y∈M)/\(1<i+1->ar os y∈M):=λM hM sub=>by
     match i,Cj,hx,b1 with
     |0,_,hx,_=>obtain rfl:=Option.some.inj hx;exact⟨λ_=>hM,λz=>Us z (by omega)⟩
     |1,_,hx,b1=>obtain rfl:=Option.some.inj hx;exact⟨λ_=>sub _ (b1 (by omega)),λ_=>hM⟩
    have hL4:=MW _ MY MZ;refine⟨_,rfl,_,rfl,d,_,rfl,wY.k (k:=Sum.inl (x:Int)) tL,_,rfl,?_⟩;refine fu (λh2=>?_) (λh2=>?_)
    .have wL:¬(bX G (Sum.inl (x:Int):Key)).isSome=true:=λz=>by rw[z]at h2;cases h2
     rw[U x A8]at wL;have hxn:x∉L++r:=λz=>wL (.inr z);refine⟨_,rfl,_,rfl,d,_,rfl,sS.k (k:=Sum.inl (x:Int)) tL (Qs (show G.length<=200000 by omega) (by decide)),?_⟩;have M0:upd H4 d (.dK (putK G (Sum.inl (x:Int):Key) (.bl true))) l=Ya (.lst (nV (L++r))):=by rw[aG HV];exact Cn
     refine⟨_,rfl,.inl ⟨rfl,_,aZ.of M0⟩,_,rfl,l,_,_,rfl,rfl,M0,aY (by rw[aS];omega),?_⟩;obtain⟨g1,g2⟩:=got (L++(r++[x])) (by simp) (λw hw=>by rw[<-PM];exact Pn _ hw);refine⟨r++[x],_,_,rfl,λc o hc q=>?_,?_,by rw[ag,<-PM,gj],by rw[aG (Ne.symm HV)];exact ag,?_,?_,λw hw=>?_,λj hj=>?_,g1,g2⟩
     .rw[aG (λz=>by rw[z,hl]at q;cases q),aG hc];exact s4 c o hc q
     .rw[aG nql,aG nqd];exact KN
     .have z:=fY G (Sum.inl (x:Int):Key) (V.bl true);rw[<-PM,OQ];show _<=_+(_+1)
      omega
     .rw[<-PM];exact PY.mpr ⟨MY,Qy.mpr ⟨Qp,RF⟩,λp hp q hq z=>hxn (by rw[<-OS.mp hq,<-z];exact hp)⟩
     .rw[<-PM]at hw;rcases OY.mp hw with hw|hw
      .exact MZ w hw
      rw[OS.mp hw];exact hxc
     rw[qU,<-PM,OY];by_cases q:(Sum.inl (j:Int):Key)=Sum.inl (x:Int)
     .rw[Uo q];have e2:j=x:=by injection q with q;omega
      exact⟨λ_=>.inr (.inr (OS.mpr e2)),λ_=>rfl⟩
     rw[Uk q,U j hj];have e2:j≠x:=λz=>q (by rw[z]);constructor
     .rintro(h|h)
      .exact .inl h
      exact .inr (.inl h)
     rintro(h|h|h)
     .exact .inl h
     .exact .inr h
     exact Us (OS.mp h) e2
    have hs:(bX G (Sum.inl (x:Int):Key)).isSome=true:=OU λz=>h2 (by rw[RP]at z;rw[z];rfl);rw[U x A8]at hs;have LR:x∈L++r:=hs.resolve_left (dis x hxc);obtain⟨g1,g2⟩:=got (L++r) LR (λw hw=>hw);exact⟨r,G,_,rfl,s4,KN,Cn,tL,E2,MY,MZ,U,g1,g2⟩
   rintro σ H4 ⟨r,G,v6',rfl,s4,KN,Cn,tL,E2,MY,MZ,U,b1,b2⟩;have c1:ar ms y∈L++r:=b1 (by rw[aS];simp);have c2:ar os y∈L++r:=b2 (by rw[aS];simp);refine⟨_,rfl,_,_,rfl,rfl,⟨L++r,D+1,G,_,rfl,s4,Cn,tL,E2,MY,MZ,Pn _ heL,by rw[OQ];omega,U,λi w hi hw=>?_⟩,?_⟩
   .by_cases c:i<D
    .rw[Pg (by omega)]at hw;obtain⟨q1,q2⟩:=Ia i w c hw;exact⟨Pn _ q1,Pn _ q2⟩
    have c:i=D:=by omega
    subst c;rw[Pg h1,ey]at hw;obtain rfl:=Option.some.inj hw;exact⟨c1,c2⟩
   show 2*n+1-((D:Int)+1).toNat<2*n+1-((D:Int)).toNat;omega
  have h1:D=L.length:=by
   have z:¬D<L.length:=λz=>h1 (Ul z);omega
  have C:bU (ar ms) (ar os) e L:=⟨nd,λw=>⟨NS w,λhw=>hw (·∈L) heL λz hz=>by
   obtain⟨i,hi⟩:=Qq.mp hz;exact Ia i z (by rw[h1];exact(OI.mp hi).1) hi⟩⟩
  refine⟨_,rfl,k l L J Z hl s2 O C hd2 A3 λj hj=>?_⟩;rw[LS j hj,C.mem]
 rintro σ Z R R' hR ⟨l,ys,x,e1,e2,e3,q⟩;exact⟨l,ys,x,e1,e2,e3,hR _ _ q⟩
theorem wx{f f1:Um}{fd iu:Uz}(B:Bl mg)(F:Fn K mg "_law_score" gW ["one","other"] f fd)(J:Fn K mg "_law_walk" fP ["one","other","end","known"] f1 iu):aO P w K mg base dq 2 f fd ["one","other"] aI.rP:=by
 have G:aO P w K mg base dq 1 f1 iu ["one","other","end","known"] lL:=pP B J;refine F.fn.ok dX (λvs H Q E h=>?_) (λje A outer s H vs Q E hr h=>?_)
 .obtain⟨a,b,n,ms,os,rfl,_⟩:=h
  rfl
 obtain⟨a,b,n,ms,os,rfl,ha,W,hb,WO,k⟩:=h;have T:=bJ W WO;have Ck:=W.small;have hu:=jY hr;refine⟨_,(ah (aJ (i:=2) dX.nd rfl (Or.inl rfl) qW)
  (ah (aJ (i:=3) dX.nd rfl (Or.inl rfl) ao)
  (ah (b6 PassesOwn.never rfl (fV rfl B.range (ae (aL aH rfl B.len bD (ae (pv 0) af)) af)) (aK (i:=4) dX.nd rfl (Or.inl rfl)) (aA (bS (qO (lD hu (pv 4) (pv 2))) (ah (aJ (i:=5) dX.nd rfl (Or.inl rfl) (bo G J (hr.mono (by decide)) (ae (pv 0) (ae (pv 1) (ae (pv 4) (ae (pv 2) af))))))
  (aA (bS (aM fm (aT eI (aL aH rfl B.len bD (ae (pv 5) af)) ao) ao (aQ _)) (aA (aJ (i:=3) dX.nd rfl (Or.inl rfl) (aT eH (pv 3) ao))) (aA (bS (aM fm (aL aH rfl B.len bD (ae (eX (NC:=["at","other","one"]) rfl (qB (pre:=["at"]) (c:=s.heap.objs.size+2) (e:=s.heap.objs.size+1) (j:=1) (k:=0) rfl (by decide +kernel) (by decide +kernel) rfl rfl rfl rfl rfl rfl rfl rfl rfl) (bp (pv 5)) (λ_ _ _ _=>(aK (i:=0) (show(["at","other","one"]:List UI).Nodup by decide +kernel) rfl (Or.inl rfl))) (λ_ _ _ _=>(iZ (PW.pt (z8 (aM fm (cg (nB (K:=K) rfl) (pv 2) (pv 0) (λ_ _=>rfl)) (pv 0) (aQ _)) (uP (aM fm (cg (nB (K:=K) rfl) (pv 1) (pv 0) (λ_ _=>rfl)) (pv 0) (aQ _))))))) (λ_ _ _ _=>(pv 0))) af)) ao (aQ _)) (aA (aJ (i:=3) dX.nd rfl (Or.inl rfl) (aT eH (pv 3) ao))) bg))))) bg)))
  (aA (aU (pv 3)))))),?_⟩
 intro d hd;have s0:aE H (upd H d (.dK [])):=ai hd;have Z:((nV ms).length:Int)=2*n:=by rw[aS,W.len];omega
 refine⟨_,rfl,a,_,rfl,.inl (aZ.of (s0 _ _ ha)),_,rfl,by rw[Z];omega,by rw[Z];omega,fW (lo:=0) (n:=((nV ms).length:Int).toNat) (λi σ H2=>∃(v4 v5:Option V) (kv:List (Key×V)),σ=[Ya (.ref a),Ya (.ref b),Ya (.ref d),Ya (.int (cM (ar ms) (ar os) i:Nat)),v4,v5]/\aE H H2/\H2 d=Ya (.dK kv)/\kv.length<=80*i /\
   ∀j:Nat,j<2*n->((bX kv (Sum.inl (j:Int):Key)).isSome=true↔∃y,y<i/\Th.aB (ar ms) (ar os) y j))
  ⟨none,none,[],rfl,s0,ag,ON _,λj hj=>?_⟩ ?_ ?_⟩
 .constructor
  .intro z;cases z
  rintro⟨y,hy,_⟩;omega
 .rintro i σ H2 hi ⟨v4,v5,kv,rfl,s2,hd2,A3,O⟩;have U:i<2*n:=by rw[Z]at hi;omega
  rw[Ri];have Hf:(bX kv (Sum.inl (i:Int):Key)).isSome=true↔¬bB (ar ms) (ar os) i:=by
   rw[O i U];constructor
   .rintro⟨y,h1,h2⟩ hL;have:=hL y (h2.symm T (by omega));omega
   intro hn;refine OU λno=>hn λy hy=>OU λz=>no ⟨y,by omega,hy.symm T U⟩
  refine⟨_,rfl,_,rfl,d,_,rfl,wY.k (k:=Sum.inl (i:Int)) hd2,_,rfl,?_⟩;refine fu (λh1=>?_) (λh1=>?_)
  .have wL:¬(bX kv (Sum.inl (i:Int):Key)).isSome=true:=λz=>by rw[z]at h1;cases h1
   have hL:bB (ar ms) (ar os) i:=OU λz=>wL (Hf.mpr z);have Ft:aI.vv n ms os (λj=>(bX kv (Sum.inl (j:Int):Key)).isSome=true):=λj hj hs=>by
    obtain⟨y,y1,y2⟩:=(O j hj).mp hs;exact⟨(O _ (T.fl j hj)).mpr ⟨y,y1,y2.sf⟩,(O _ (T.gl j hj)).mpr ⟨y,y1,y2.sg⟩⟩
   refine⟨_,rfl,_,rfl,_,rfl,_,rfl,a,b,d,n,i,ms,os,kv,rfl,s2 _ _ ha,W,s2 _ _ hb,WO,U,hd2,by omega,Ft,wL,λl L E5 H3 hl s3 Fu C Av Hg zZ=>?_⟩;have sv:aE H H3:=λc o q=>s3 c o (λz=>by rw[z,hd]at q;cases q) (s2 _ _ q);have MA:L.length<=80:=by
    have z:=Th.sub_len C.nd (m:=OV (2*n)) λy hy=>OX.mpr (((C.mem y).mp hy).lt T U);rw[OW]at z;omega
   have Hh:∀j:Nat,j<2*n->((bX E5 (Sum.inl (j:Int):Key)).isSome=true↔∃y,y<i+1/\Th.aB (ar ms) (ar os) y j):=λj hj=>by
    rw[zZ j hj,O j hj];constructor
    .rintro(⟨y,h2,h3⟩|h)
     .exact⟨y,by omega,h3⟩
     exact⟨i,by omega,h⟩
    rintro⟨y,h2,h3⟩;by_cases c:y=i
    .subst c;exact .inr h3
    exact .inl ⟨y,by omega,h3⟩
   have wb:((nV L).length:Int)=L.length:=by rw[aS]
   have od:=Th.kK T U C;refine⟨_,rfl,l,_,rfl,.inl (aZ.of Fu),_,_,rfl,rfl,(by show(0:Int)<2;decide),rfl,_,rfl,?_⟩;refine fu (λh2=>?_) (λh2=>?_)
   .have o:L.length%2=1:=by
     have z:=Uw h2;injection z with z;rw[wb]at z;omega
    have e:=Th.xg hL (od.mp o);have e2:((cM (ar ms) (ar os) i:Nat):Int)+1=((cM (ar ms) (ar os) (i+1):Nat):Int):=by rw[e];omega
    refine⟨_,rfl,_,_,rfl,rfl,Ya (.int (i:Nat)),Ya (.ref l),E5,?_,sv,Av,by clear G hr k T Ck hu Z hi O U Hf h1 wL Ft zZ Hh od o e e2;lia,Hh⟩;rw[<-e2]
    rfl
   have o:¬L.length%2=1:=λz=>h2 (Ul (by
    show V.int (((nV L).length:Int)%2)=V.int 1;rw[wb];have z2:(L.length:Int)%2=1:=by omega
    rw[z2]))
   have no:¬gf (ar ms) (ar os) i:=λz=>o (od.mpr z);have ha3:=sv _ _ ha;have hb3:=sv _ _ hb
   let lo:Nat->Bool:=λy=>decide (ar ms y=y\/ar os y=y)
   refine⟨_,rfl,l,rfl,⟨_,aZ.of Fu⟩,λD hD=>b8 (K:=K) (a:=l) (xs:=nV L) (λj σ H4=>∃v:Option V,σ=[v,Ya (.ref b),Ya (.ref a)]/\aE H3 H4/\H4 D=Ya (.lst (nV ((L.take j).filter lo)))) ⟨none,rfl,ai hD,ag⟩ (λj σ H4 _ zq=>by obtain⟨_,_,s4,_⟩:=zq;exact aZ.of (s4 _ _ Fu)) ?_ ?_⟩
   .rintro j z σ H4 hz ⟨v,rfl,s4,h4⟩;obtain⟨x,hx,rfl⟩:=cX hz;have A8:=((C.mem x).mp (OP hx)).lt T U;have yes:lo x=true->upd H4 D (.lst (nV ((L.take j).filter lo)++[.int (x:Nat)])) D=Ya (.lst (nV ((L.take (j+1)).filter lo))):=λhlo=>by
     rw[ag,aI.take_snoc hx,O9,Pe (by exact hlo),Qo,gj]
    have small:(nV ((L.take j).filter lo)).length<sizeLine:=aY (by
     rw[aS];have z:=Pm lo (L.take j);rw[Pu]at z;clear G hr k T Ck hu Z hi A3 O U Hf h1 wL Ft Hg zZ Hh od h2 o h4 hx hz A8 yes;omega (config:={}))
    refine⟨_,rfl,_,rfl,a,_,_,_,rfl,rfl,aZ.of (s4 _ _ ha3),W.ix A8,_,rfl,rfl,_,rfl,?_⟩;refine fu (λq1=>?_) (λq1=>?_)
    .have q1:ar ms x=x:=by have z:=Uw q1;injection z with z;omega
     exact Br ⟨_,rfl,_,h4,small,_,rfl,s4.upd hD,yes (Ul (.inl q1))⟩
    have q1:¬ar ms x=x:=λz=>q1 (Ul (by rw[z]));refine⟨_,rfl,_,rfl,b,_,_,_,rfl,rfl,aZ.of (s4 _ _ hb3),WO.ix A8,_,rfl,rfl,_,rfl,?_⟩;refine fu (λq2=>?_) (λq2=>?_)
    .have q2:ar os x=x:=by have z:=Uw q2;injection z with z;omega
     exact⟨_,rfl,_,h4,small,_,rfl,s4.upd hD,yes (Ul (.inr q2))⟩
    have q2:¬ar os x=x:=λz=>q2 (Ul (by rw[z]));refine⟨_,rfl,s4,?_⟩;rw[h4,aI.take_snoc hx,O9,Pf (by show¬lo x=true;simp[lo,q1,q2]),Qo,Pj]
   rintro σ H4 ⟨v,rfl,s4,h4⟩;rw[aS,Pc]at h4;have KO:=sv.trans s4;have tL:=s4 _ _ Av;refine⟨D,_,rfl,.inl (aZ.of h4),rfl,_,rfl,?_⟩;have hw:(L.filter lo).length=0↔bq (ar ms) (ar os) i:=by
    rw[Qk,Qt];constructor
    .intro hz y hy;have:=hz y ((C.mem y).mpr hy);simp only[lo,decide_eq_true_eq,not_or]at this;exact this
    intro wh y hy;have:=wh y ((C.mem y).mp hy);simp only[lo,decide_eq_true_eq,not_or];exact this
   refine fu (λq=>?_) (λq=>?_)
   .have q:(L.filter lo).length=0:=by have z:=Uw q;injection z with z;rw[aS]at z;omega
    have e:=Th.vf hL (hw.mp q);have e2:((cM (ar ms) (ar os) i:Nat):Int)+2=((cM (ar ms) (ar os) (i+1):Nat):Int):=by rw[e];omega
    refine⟨_,rfl,_,_,rfl,rfl,Ya (.int (i:Nat)),Ya (.ref l),E5,?_,KO,tL,by omega,Hh⟩;rw[<-e2]
    rfl
   have q:¬(L.filter lo).length=0:=λz=>q (Ul (by rw[aS,z];rfl));have e:=Th.vg (λz=>q (hw.mpr z)) no;exact⟨Ya (.int (i:Nat)),Ya (.ref l),E5,by rw[e];rfl,KO,tL,by omega,Hh⟩
  have hs:(bX kv (Sum.inl (i:Int):Key)).isSome=true:=OU λz=>h1 (by rw[RP]at z;rw[z];rfl);have e:=Th.sW (Hf.mp hs);refine⟨Ya (.int (i:Nat)),v5,kv,by rw[e];rfl,s2,hd2,by omega,λj hj=>?_⟩;rw[O j hj];constructor
  .rintro⟨y,h2,h3⟩;exact⟨y,by omega,h3⟩
  rintro⟨y,h2,h3⟩;by_cases c:y=i
  .subst c;obtain⟨x,x1,x2⟩:=(O y U).mp hs;exact⟨x,x1,x2.trans h3⟩
  exact⟨y,by omega,h3⟩
 rintro σ H2 ⟨v4,v5,kv,rfl,s2,hd2,A3,O⟩;have MC:((nV ms).length:Int).toNat=2*n:=by rw[Z];omega
 have z:=k H2 s2;rw[<-Th.xc T]at z;refine⟨_,rfl,?_⟩;rw[MC];exact z
theorem wz{f Z f2:Um}{fd O U:Uz}(B:Bl mg)(F:Fn K mg "_law_apart" i4 ["one","other"] f fd)(D:Fn K mg "_law_score" gW ["one","other"] Z O)(J:Fn K mg "_law_walk" fP ["one","other","end","known"] f2 U):aO P w K mg base dq 3 f fd ["one","other"] aI.ze:=by
 have G:aO P w K mg base dq 2 Z O ["one","other"] aI.rP:=wx B D J;refine F.fn.ok vZ (λvs H Q E h=>?_) (λje A outer s H vs Q E hr h=>?_)
 .obtain⟨a,b,n,ms,os,rfl,_⟩:=h
  rfl
 obtain⟨a,b,n,ms,os,rfl,ha,W,hb,V,k⟩:=h;refine⟨_,(aA (aU (aT dO (aT kC (aL aH rfl B.len bD (ae (pv 0) af)) (bo G D (hr.mono (by decide)) (ae (pv 0) (ae (pv 1) af)))) ao))),?_⟩;refine⟨_,rfl,a,_,rfl,.inl (aZ.of ha),_,rfl,_,rfl,a,b,n,ms,os,rfl,ha,W,hb,V,λH1 s1=>?_⟩;refine⟨_,_,rfl,rfl,_,_,rfl,rfl,⟨by decide,by decide⟩,?_⟩;have hle:=Th.jj (bJ W V);have e:(((nV ms).length:Int)-((Th.score (ar ms) (ar os) (2*n):Nat):Int))/2=(aC n ms os:Nat):=by
  rw[aS,W.len];have ev:=Th.mH (bJ W V) (by omega);unfold aC;omega
 dsimp only;rw[e];exact k H1 s1
end
section
seal L2.mX L2.PS L2.PE L2.PT
variable {P:Ux}{w:UA}{K:OJ}{mg:UI->Option Uj}{base:UH}
theorem wA{f f1:Um}{fd iu:Uz}(B:Bl mg)(F:Fn K mg "_law_lacks" i5 ["one","other"] f fd)(O:Fn K mg "_law_walk" fP ["one","other","end","known"] f1 iu):aO P w K mg base dq 2 f fd ["one","other"] aI.GI:=by
 have G:aO P w K mg base dq 1 f1 iu ["one","other","end","known"] lL:=pP B O;refine F.fn.ok fi (λvs H Q E h=>?_) (λje A outer s H vs Q E hr h=>?_)
 .obtain⟨a,b,n,ms,os,rfl,_⟩:=h
  rfl
 obtain⟨a,b,n,ms,os,rfl,ha,W,hb,WO,k⟩:=h;have T:=bJ W WO;have Ck:=W.small;have hu:=jY hr;refine⟨_,(ah (aJ (i:=2) fi.nd rfl (Or.inl rfl) qW)
  (ah (aJ (i:=3) fi.nd rfl (Or.inl rfl) (bP af))
  (ah (b6 PassesOwn.never rfl (fV rfl B.range (ae (aL aH rfl B.len bD (ae (pv 0) af)) af)) (aK (i:=4) fi.nd rfl (Or.inl rfl)) (aA (bS (qO (lD hu (pv 4) (pv 2))) (ah (aJ (i:=5) fi.nd rfl (Or.inl rfl) (bo G O (hr.mono (by decide)) (ae (pv 0) (ae (pv 1) (ae (pv 4) (ae (pv 2) af))))))
  (ah (jG (ix:=6) (NC:=["at","one"]) fi.nd rfl (Or.inl rfl) rfl (jF (c:=s.heap.objs.size+1) (j:=0) rfl (by decide +kernel) (by decide +kernel) rfl rfl rfl rfl rfl) (bp (pv 5)) (λ_ _ _ _=>(aK (i:=0) (show(["at","one"]:List UI).Nodup by decide +kernel) rfl (Or.inl rfl))) (λ_ _ _ _=>(iZ (aM fm (cg (nB (K:=K) rfl) (pv 1) (pv 0) (λ_ _=>rfl)) (pv 0) (aQ _)))) (λ_ _ _ _=>(pv 0)))
  (aA (bS (aM fm (aT eI (aL aH rfl B.len bD (ae (pv 5) af)) ao) ao (aQ _)) (aA (bh (d5 O7 Py Pz cF (pv 3) (ae (bC (ae eg (ae (aT dO (aL aH rfl B.len bD (ae (pv 5) af)) ao) af))) af)))) (aA (bS (aM fm (aL aH rfl B.len bD (ae (pv 6) af)) ao (aQ _)) (aA (bh (d5 O7 Py Pz cF (pv 3) (ae (bC (ae eg (ae (aT dO (aL aH rfl B.len bD (ae (pv 5) af)) ao) af))) af)))) (aA (bS (aM fm (aL aH rfl B.len bD (ae (eX (NC:=["at","other"]) rfl (jF (c:=s.heap.objs.size+2) (j:=1) rfl (by decide +kernel) (by decide +kernel) rfl rfl rfl rfl rfl) (bp (pv 5)) (λ_ _ _ _=>(aK (i:=0) (show(["at","other"]:List UI).Nodup by decide +kernel) rfl (Or.inl rfl))) (λ_ _ _ _=>(iZ (aM fm (cg (nB (K:=K) rfl) (pv 1) (pv 0) (λ_ _=>rfl)) (pv 0) (aQ _)))) (λ_ _ _ _=>(pv 0))) af)) ao (aQ _)) (aA (bh (d5 O7 Py Pz cF (pv 3) (ae (bC (ae eg (ae (aT dO (aL aH rfl B.len bD (ae (pv 5) af)) ao) af))) af)))) (aA (bh (d5 O7 Py Pz cF (pv 3) (ae (bC (ae eg (ae (aT kC (aT dO (aL aH rfl B.len bD (ae (pv 5) af)) ao) ao) af))) af)))))))))))) bg)))
  (aA (aU (pv 3)))))),?_⟩
 intro d hd;have s0:aE H (upd H d (.dK [])):=ai hd;refine⟨(by show 0<=Uu;decide),λl hl=>?_⟩;have s1:aE (upd H d (.dK [])) (upd (upd H d (.dK [])) l (.lst [])):=ai hl;have MV:=s1 _ _ (ag (H:=H) (a:=d) (o:=.dK []));have Hc:upd (upd H d (.dK [])) l (.lst []) l=Ya (.lst []):=ag;have hlH:H l=none:=s0.free hl;have Ms:=s0.trans s1;generalize upd (upd H d (.dK [])) l (.lst [])=H1 at s1 MV Hc Ms;have E3:((nV ms).length:Int)=2*n:=by rw[aS,W.len];omega
 refine⟨_,rfl,a,_,rfl,.inl (aZ.of (Ms _ _ ha)),_,rfl,by rw[E3];omega,by rw[E3];omega,fW (lo:=0) (n:=((nV ms).length:Int).toNat) (λi σ H2=>∃(v4 v5 v6:Option V) (kv:List (Key×V)),σ=[Ya (.ref a),Ya (.ref b),Ya (.ref d),Ya (.ref l),v4,v5,v6]/\aE H H2/\H2 d=Ya (.dK kv)/\kv.length<=80*i/\aI.ft aI.lf H2 l (cy n ms os i) /\
   ∀j:Nat,j<2*n->((bX kv (Sum.inl (j:Int):Key)).isSome=true↔∃y,y<i/\Th.aB (ar ms) (ar os) y j))
  ⟨none,none,none,[],rfl,Ms,MV,ON _,aI.ft.nil Hc,λj hj=>?_⟩ ?_ ?_⟩
 .constructor
  .intro z;cases z
  rintro⟨y,hy,_⟩;omega
 .rintro i σ H2 hi ⟨v4,v5,v6,kv,rfl,s2,hd2,A3,xk,U⟩;have J:i<2*n:=by rw[E3]at hi;omega
  rw[Ri];have Hf:(bX kv (Sum.inl (i:Int):Key)).isSome=true↔¬bB (ar ms) (ar os) i:=by
   rw[U i J];constructor
   .rintro⟨y,h1,h2⟩ hL;have:=hL y (h2.symm T (by omega));omega
   intro hn;refine OU λno=>hn λy hy=>OU λz=>no ⟨y,by omega,hy.symm T J⟩
  refine⟨_,rfl,_,rfl,d,_,rfl,wY.k (k:=Sum.inl (i:Int)) hd2,_,rfl,?_⟩;refine fu (λh1=>?_) (λh1=>?_)
  .have wL:¬(bX kv (Sum.inl (i:Int):Key)).isSome=true:=λz=>by rw[z]at h1;cases h1
   have hL:bB (ar ms) (ar os) i:=OU λz=>wL (Hf.mpr z);have Ft:aI.vv n ms os (λj=>(bX kv (Sum.inl (j:Int):Key)).isSome=true):=λj hj hs=>by
    obtain⟨y,y1,y2⟩:=(U j hj).mp hs;exact⟨(U _ (T.fl j hj)).mpr ⟨y,y1,y2.sf⟩,(U _ (T.gl j hj)).mpr ⟨y,y1,y2.sg⟩⟩
   refine⟨_,rfl,_,rfl,_,rfl,_,rfl,a,b,d,n,i,ms,os,kv,rfl,s2 _ _ ha,W,s2 _ _ hb,WO,J,hd2,by omega,Ft,wL,λle L E5 H3 hle s3 Fu C Av Hg zZ=>?_⟩;have sv:aE H H3:=λc o q=>s3 c o (λz=>by rw[z,hd]at q;cases q) (s2 _ _ q);have MA:L.length<=80:=by
    have z:=Th.sub_len C.nd (m:=OV (2*n)) λy hy=>OX.mpr (((C.mem y).mp hy).lt T J);rw[OW]at z;omega
   have Hh:∀j:Nat,j<2*n->((bX E5 (Sum.inl (j:Int):Key)).isSome=true↔∃y,y<i+1/\Th.aB (ar ms) (ar os) y j):=λj hj=>by
    rw[zZ j hj,U j hj];constructor
    .rintro(⟨y,h2,h3⟩|h)
     .exact⟨y,by omega,h3⟩
     exact⟨i,by omega,h⟩
    rintro⟨y,h2,h3⟩;by_cases c:y=i
    .subst c;exact .inr h3
    exact .inl ⟨y,by omega,h3⟩
   have B5:=aI.ft.L3 xk hd2 s3;have wb:((nV L).length:Int)=L.length:=by rw[aS]
   have od:=Th.kK T J C;have NT:=Th.jk C (Th.kQ T J);have ha3:=sv _ _ ha;have hb3:=sv _ _ hb;have KI:=aI.uo n ms os i;have ndl:d≠l:=λz=>by obtain⟨vs,w1,_⟩:=xk.len;rw[<-z,hd2]at w1;cases w1
   have fin:∀(kk:Th.Kd) (q:Nat) (v6:Option V) (H4:Hp) (Z:Um),Th.kd (ar ms) (ar os) i=kk->lack (2*n) (ar ms) (ar os) i=q->aE H3 H4->H4 Z=none->∃vs,upd H4 Z (.tup [.str (ks kk),.int (q:Nat)]) l=Ya (.lst vs)/\vs.length<Uu /\
     ∃(v4 v5 v7:Option V) (kv:List (Key×V)),[Ya (.ref a),Ya (.ref b),Ya (.ref d),Ya (.ref l),Ya (.int (i:Nat)),Ya (.ref le),v6]=[Ya (.ref a),Ya (.ref b),Ya (.ref d),Ya (.ref l),v4,v5,v7]/\aE H (upd (upd H4 Z (.tup [.str (ks kk),.int (q:Nat)])) l (.lst (vs++[.ref Z])))/\upd (upd H4 Z (.tup [.str (ks kk),.int (q:Nat)])) l (.lst (vs++[.ref Z])) d=Ya (.dK kv)/\kv.length<=80*(i+1) /\
      aI.ft aI.lf (upd (upd H4 Z (.tup [.str (ks kk),.int (q:Nat)])) l (.lst (vs++[.ref Z]))) l (cy n ms os (i+1))/\∀j:Nat,j<2*n->((bX kv (Sum.inl (j:Int):Key)).isSome=true↔∃y,y<i+1/\Th.aB (ar ms) (ar os) y j):=λkk q v6 H4 Z e1 e2 s4 lh=>by
    have s5:aE H4 (upd H4 Z (.tup [.str (ks kk),.int (q:Nat)])):=ai lh;obtain⟨vs,y1,y2,y3⟩:=(B5.same (s4.trans s5)).snoc (t:=Z) (x:=(kk,q)) ag;refine⟨vs,y1,aY (by omega),Ya (.int (i:Nat)),Ya (.ref le),v6,E5,rfl,(sv.trans (s4.trans s5)).upd hlH,?_,by omega,?_,Hh⟩
    .rw[aG ndl];exact s5 _ _ (s4 _ _ Av)
    rw[aI.rX,Uo hL,e1,e2];exact y3
   have lo1:=Th.uh T J C;have NU:=Th.zf T J C
   let fa:Nat->Bool:=λy=>decide (ar ms y=y)
   let fb:Nat->Bool:=λy=>decide (ar os y=y)
   refine⟨_,rfl,le,rfl,⟨_,aZ.of Fu⟩,λD hD=>b8 (K:=K) (a:=le) (xs:=nV L) (λj σ H4=>∃v:Option V,σ=[v,Ya (.ref a)]/\aE H3 H4/\H4 D=Ya (.lst (nV ((L.take j).filter fa)))) ⟨none,rfl,ai hD,ag⟩ (λj σ H4 _ zq=>by obtain⟨_,_,s4,_⟩:=zq;exact aZ.of (s4 _ _ Fu)) ?_ ?_⟩
   .rintro j z σ H4 hz ⟨v,rfl,s4,h4⟩;obtain⟨x,hx,rfl⟩:=cX hz;have A8:=((C.mem x).mp (OP hx)).lt T J;refine⟨_,rfl,_,rfl,a,_,_,_,rfl,rfl,aZ.of (s4 _ _ ha3),W.ix A8,_,rfl,rfl,_,rfl,?_⟩;refine fu (λq1=>?_) (λq1=>?_)
    .have q1:ar ms x=x:=by have z:=Uw q1;injection z with z;omega
     refine⟨_,rfl,_,h4,aY ?_,Ya (.int (x:Nat)),rfl,s4.upd hD,?_⟩
     .rw[aS];have z:=Pm fa (L.take j);rw[Pu]at z;clear G hr k T Ck hu E3 hi A3 xk U J Hf h1 wL Ft Hg zZ Hh B5 od KI fin lo1 NU h4 hx hz A8 q1;omega (config:={})
     rw[ag,aI.take_snoc hx,O9,Pe (by exact Ul q1),Qo,gj]
    have q1:¬ar ms x=x:=λz=>q1 (Ul (by rw[z]));refine⟨Ya (.int (x:Nat)),rfl,s4,?_⟩;rw[h4,aI.take_snoc hx,O9,Pf (by show¬fa x=true;simp only[fa,decide_eq_true_eq];exact q1),Qo,Pj]
   rintro σ H4 ⟨v,rfl,s4,h4⟩;rw[aS,Pc]at h4;have Cn:=s4 _ _ Fu;have wO:=B5.same s4;obtain⟨Kv,w0,_⟩:=wO.len;have eh:(L.length:Int)/2=((L.length/2:Nat):Int):=by omega
   refine⟨_,rfl,le,_,rfl,.inl (aZ.of Cn),_,_,rfl,rfl,(by show(0:Int)<2;decide),rfl,_,rfl,?_⟩;refine fu (λh2=>?_) (λh2=>?_)
   .have o:L.length%2=1:=by
     have z:=Uw h2;injection z with z;rw[wb]at z;omega
    refine⟨_,rfl,.inl ⟨rfl,_,aZ.of w0⟩,_,rfl,le,_,rfl,.inl (aZ.of Cn),_,_,rfl,rfl,⟨by decide,by decide⟩,(by show 2<=Uu;decide),λZ lh=>?_⟩;dsimp only;rw[wb,eh];have ek:Th.kd (ar ms) (ar os) i=.odd:=by unfold Th.kd;rw[Uo (od.mp o)]
    obtain⟨vs,y1,y2,y3⟩:=fin .odd (L.length/2) (Ya (.ref D)) H4 Z ek (by unfold lack;rw[ek,Uk (by decide),<-NT]) s4 lh;exact⟨l,vs,_,rfl,rfl,y1,y2,y3⟩
   have o:¬L.length%2=1:=λz=>h2 (Ul (by
    show V.int (((nV L).length:Int)%2)=V.int 1;rw[wb];have z2:(L.length:Int)%2=1:=by omega
    rw[z2]))
   have no:¬gf (ar ms) (ar os) i:=λz=>o (od.mpr z);refine⟨_,rfl,D,_,rfl,.inl (aZ.of h4),rfl,_,rfl,?_⟩;refine fu (λh3=>?_) (λh3=>?_)
   .have la:Th.cH (ar ms) (ar os) i:=(lo1 no).mp (by
     have z:=Uw h3;injection z with z;rw[aS]at z;show(L.filter fa).length=2;omega)
    refine⟨_,rfl,.inl ⟨rfl,_,aZ.of w0⟩,_,rfl,le,_,rfl,.inl (aZ.of Cn),_,_,rfl,rfl,⟨by decide,by decide⟩,(by show 2<=Uu;decide),λZ lh=>?_⟩;dsimp only;rw[wb,eh];have ek:Th.kd (ar ms) (ar os) i=.bare:=by unfold Th.kd;rw[Uk no,Uo la]
    obtain⟨vs,y1,y2,y3⟩:=fin .bare (L.length/2) (Ya (.ref D)) H4 Z ek (by unfold lack;rw[ek,Uk (by decide),<-NT]) s4 lh;exact⟨l,vs,_,rfl,rfl,y1,y2,y3⟩
   have la:¬Th.cH (ar ms) (ar os) i:=λz=>h3 (Ul (by
    have z:=(lo1 no).mpr z;have z:(L.filter fa).length=2:=z;rw[aS,z]
    rfl))
   refine⟨_,rfl,le,rfl,⟨_,aZ.of Cn⟩,λD2 Co=>b8 (K:=K) (a:=le) (xs:=nV L) (λj σ H5=>∃v:Option V,σ=[v,Ya (.ref b)]/\aE H4 H5/\H5 D2=Ya (.lst (nV ((L.take j).filter fb)))) ⟨none,rfl,ai Co,ag⟩ (λj σ H5 _ zq=>by obtain⟨_,_,s5,_⟩:=zq;exact aZ.of (s5 _ _ Cn)) ?_ ?_⟩
   .rintro j z σ H5 hz ⟨v,rfl,s5,h5⟩;obtain⟨x,hx,rfl⟩:=cX hz;have A8:=((C.mem x).mp (OP hx)).lt T J;refine⟨_,rfl,_,rfl,b,_,_,_,rfl,rfl,aZ.of (s5 _ _ (s4 _ _ hb3)),WO.ix A8,_,rfl,rfl,_,rfl,?_⟩;refine fu (λq1=>?_) (λq1=>?_)
    .have q1:ar os x=x:=by have z:=Uw q1;injection z with z;omega
     refine⟨_,rfl,_,h5,aY ?_,Ya (.int (x:Nat)),rfl,s5.upd Co,?_⟩
     .rw[aS];have z:=Pm fb (L.take j);rw[Pu]at z;clear G hr k T Ck hu E3 hi A3 xk U J Hf h1 wL Ft Hg zZ Hh B5 od KI fin lo1 NU h4 wO eh h2 o h3 h5 hx hz A8 q1;omega (config:={})
     rw[ag,aI.take_snoc hx,O9,Pe (by exact Ul q1),Qo,gj]
    have q1:¬ar os x=x:=λz=>q1 (Ul (by rw[z]));refine⟨Ya (.int (x:Nat)),rfl,s5,?_⟩;rw[h5,aI.take_snoc hx,O9,Pf (by show¬fb x=true;simp only[fb,decide_eq_true_eq];exact q1),Qo,Pj]
   rintro σ H5 ⟨v,rfl,s5,h5⟩;rw[aS,Pc]at h5;have M0:=s5 _ _ Cn;have Kw:=s4.trans s5;have w5:=s5 _ _ w0;refine⟨D2,_,rfl,.inl (aZ.of h5),rfl,_,rfl,?_⟩;refine fu (λh6=>?_) (λh6=>?_)
   .have lb:Th.cZ (ar ms) (ar os) i:=(NU no).mp (by
     have z:=Uw h6;injection z with z;rw[aS]at z;show(L.filter fb).length=2;omega)
    refine⟨_,rfl,.inl ⟨rfl,_,aZ.of w5⟩,_,rfl,le,_,rfl,.inl (aZ.of M0),_,_,rfl,rfl,⟨by decide,by decide⟩,(by show 2<=Uu;decide),λZ lh=>?_⟩;dsimp only;rw[wb,eh];have ek:Th.kd (ar ms) (ar os) i=.tied:=by unfold Th.kd;rw[Uk no,Uk la,Uo lb]
    obtain⟨vs,y1,y2,y3⟩:=fin .tied (L.length/2) (Ya (.ref D)) H5 Z ek (by unfold lack;rw[ek,Uk (by decide),<-NT]) Kw lh;exact⟨l,vs,_,rfl,rfl,y1,y2,y3⟩
   have lb:¬Th.cZ (ar ms) (ar os) i:=λz=>h6 (Ul (by
    have z:=(NU no).mpr z;have z:(L.filter fb).length=2:=z;rw[aS,z]
    rfl))
   refine⟨_,rfl,.inl ⟨rfl,_,aZ.of w5⟩,_,rfl,le,_,rfl,.inl (aZ.of M0),_,_,rfl,rfl,⟨by decide,by decide⟩,_,_,rfl,rfl,(by show 2<=Uu;decide),λZ lh=>?_⟩;dsimp only;have pos:0<L.length:=Rb ((C.mem i).mpr (Th.aB.refl i));rw[wb,show(L.length:Int)/2-1=((L.length/2-1:Nat):Int) by omega];have ek:Th.kd (ar ms) (ar os) i=.ring:=by unfold Th.kd;rw[Uk no,Uk la,Uk lb]
   obtain⟨vs,y1,y2,y3⟩:=fin .ring (L.length/2-1) (Ya (.ref D)) H5 Z ek (by unfold lack;rw[ek,Uo rfl,<-NT]) Kw lh;exact⟨l,vs,_,rfl,rfl,y1,y2,y3⟩
  have hs:(bX kv (Sum.inl (i:Int):Key)).isSome=true:=OU λz=>h1 (by rw[RP]at z;rw[z];rfl);refine⟨Ya (.int (i:Nat)),v5,v6,kv,rfl,s2,hd2,by omega,by rw[aI.rX,Uk (Hf.mp hs),Pj];exact xk,λj hj=>?_⟩;rw[U j hj];constructor
  .rintro⟨y,h2,h3⟩;exact⟨y,by omega,h3⟩
  rintro⟨y,h2,h3⟩;by_cases c:y=i
  .subst c;obtain⟨x,x1,x2⟩:=(U y J).mp hs;exact⟨x,x1,x2.trans h3⟩
  exact⟨y,by omega,h3⟩
 rintro σ H2 ⟨v4,v5,v6,kv,rfl,s2,hd2,A3,xk,U⟩;have MC:((nV ms).length:Int).toNat=2*n:=by rw[E3];omega
 rw[MC]at xk;exact⟨_,rfl,k l H2 s2 xk⟩
theorem wB{f:Um}{fd:Uz}(B:Bl mg)(F:Fn K mg "_law_mixed" i6 ["lacks"] f fd):aO P w K mg base dq 1 f fd ["lacks"] aI.GJ:=by
 refine F.fn.ok nZ (λvs H Q E h=>?_) (λje A outer s H vs Q E hr h=>?_)
 .obtain⟨l,xs,rfl,_⟩:=h
  rfl
 obtain⟨l,xs,rfl,hT,hlen,k⟩:=h;refine⟨_,(ah (jG (ix:=1) (NC:=["kind","lack"]) nZ.nd rfl (Or.inl rfl) rfl (hV rfl (by decide +kernel) (by decide +kernel)) (bp (pv 0)) (λ_ _ _ _=>(jE (K:=K) (n:=2) rfl rfl (aX (aK (i:=0) (show(["kind","lack"]:List UI).Nodup by decide +kernel) rfl (Or.inl rfl)) (aX (aK (i:=1) (show(["kind","lack"]:List UI).Nodup by decide +kernel) rfl (Or.inl rfl)) dN)))) (λ_ _ _ _=>fE) (λ_ _ _ _=>(pv 0)))
  (aA (aU (qP (eV lE eg (pv 1) (by with_unfolding_all rfl)) (mD (eV lE eg (pv 1) (by with_unfolding_all rfl))))))),?_⟩
 obtain⟨ts,t1,t2,t3⟩:=hT;refine⟨_,rfl,l,rfl,⟨_,aZ.of t1⟩,λD hD=>b8 (K:=K) (a:=l) (xs:=ts.map V.ref) (λi σ G=>∃Z v1:Option V,σ=[Z,v1]/\aE H G/\G D=Ya (.lst ((xs.take i).map λx=>V.str (ks x.1)))) ⟨none,none,rfl,ai hD,ag⟩ (λi σ G _ zq=>by obtain⟨_,_,_,J,_⟩:=zq;exact aZ.of (J _ _ t1)) ?_ ?_⟩
 .rintro i y σ G hy ⟨Z,v1,rfl,J,O⟩;have hi:i<ts.length:=by have z:=(OI.mp hy).1;rw[OH]at z;exact z
  obtain⟨x,hx⟩:∃x,xs[i]?=Ya x:=⟨_,OG (by omega)⟩
  have e2:=t3 i _ x (OG hi) hx;rw[OR,OG hi]at hy;obtain rfl:=Option.some.inj hy;refine⟨_,_,rfl,br.of (J _ _ e2),rfl,_,_,rfl,_,_,rfl,rfl,?_⟩;refine⟨_,rfl,_,O,aY (by rw[OH,Pu];omega),_,_,rfl,J.upd hD,?_⟩;rw[ag,aI.take_snoc hx,O5]
  rfl
 rintro σ G ⟨Z,v1,rfl,J,O⟩;rw[OH,t2,Pc]at O;have e:(xs.map λx=>V.str (ks x.1))=(xs.map (·.1)).map λx=>V.str (ks x):=by rw[Pp];rfl
 rw[e]at O;refine⟨_,rfl,D,_,rfl,.inl (aZ.of O),rfl,iJ _,?_⟩;have i1:=iz .bare (xs.map (·.1));have i2:=iz .tied (xs.map (·.1));refine⟨_,rfl,?_⟩;show(if Hv (V.str (ks .bare)) _=true then _ else _);rw[i1];by_cases U:Th.Kd.bare∈xs.map (·.1)
 .have e0:aI.both (xs.map (·.1))=decide (Th.Kd.tied∈xs.map (·.1)):=by unfold aI.both;rw[Ul U,Tb]
  rw[Ul U];refine dH rfl ?_;refine⟨_,rfl,D,_,rfl,.inl (aZ.of O),rfl,iJ _,?_⟩;show Q (V.bl (Hv (V.str (ks .tied)) _)) G;rw[i2,<-e0];exact k G J
 have e0:aI.both (xs.map (·.1))=false:=by unfold aI.both;rw[Up U,Qw]
 rw[Up U];refine cY rfl ?_;show Q (V.bl false) G;rw[<-e0];exact k G J
end
section
variable {P:Ux}{w:UA}{K:OJ}{mg:UI->Option Uj}{base:UH}
theorem pg{f f0 f1 f2 f3 CE CN CR J O:Um}{fd J9 iu jw mV:Uz}(B:Bl mg)(ME:mg "ClaspError" = some (.ref CE))(MN:mg "NoSuch" = some (.ref CN))(MR:mg "BadRow" = some (.ref CR))(MU:mg "Unlike" = some (.ref J))(MT:mg "TooMany" = some (.ref O))(XT:Ds K O)(XU:Ds K J)
  (pe1:RH K (.ref O) (.ref CE)=Ya true) (pe2:RH K (.ref J) (.ref CE)=Ya true)
  (n1:Pw K (.ref O) (.ref O)=Ya true) (n2:Pw K (.ref O) (.ref J)=Ya false) (n3:Pw K (.ref O) (.type "ValueError")=Ya true) (n4:Pw K (.ref O) (.ref CN)=Ya false) (n5:Pw K (.ref O) (.ref CR)=Ya false)
  (r1:Pw K (.ref J) (.ref O)=Ya false) (r2:Pw K (.ref J) (.ref J)=Ya true) (r3:Pw K (.ref J) (.type "ValueError")=Ya true) (r4:Pw K (.ref J) (.ref CN)=Ya false) (r5:Pw K (.ref J) (.ref CR)=Ya false)
  (F:Fn K mg "_law_refusal" fz ["way","one","other","number"] f fd) (F0:Fn K mg "fewest_many" d9 ["one","other"] f0 J9) (G0:aO P w K mg base (gh P w) 13 f0 J9 ["one","other"] (qI K J O)) (F1:Fn K mg "row_numbered" dD ["one","other","number"] f1 iu) (G1:aO P w K mg base (gh P w) 14 f1 iu ["one","other","number"] (nT K J O)) (F2:Fn K mg "number_of_row" de ["one","other","deeds"] f2 jw) (G2:aO P w K mg base (gh P w) 14 f2 jw ["one","other","deeds"] (qJ K J O)) (F3:Fn K mg "works_on_way" dC ["one","other"] f3 mV) (G3:aO P w K mg base (gh P w) 8 f3 mV ["one","other"] (nU J O)):aO P w K mg base dq 15 f fd ["way","one","other","number"] aI.pK:=by
 refine F.fn.okO gz (λvs H Q E h=>?_) (λje A outer s H vs Q E hr h own=>?_)
 .obtain⟨a,b,way,n,m,x,ms,os,rfl,_⟩:=h
  rfl
 obtain⟨a,b,way,n,m,x,ms,os,rfl,hw3,hn,ha,W,hb,hm,U⟩:=h;have M1:eJ 14 _:=hr.mono (by decide);have abm:eJ 13 _:=hr.mono (by decide);have hr8:eJ 8 _:=hr.mono (by decide);refine⟨_,ah (aJ (i:=4) gz.nd rfl (Or.inl rfl) (bP af))
  (EO own gz.nd (i:=5) rfl rfl ME
   (yV (aM fm (pv 0) ao (aQ _)) (nC (vj G0 F0 abm (ae (pv 1) (ae (pv 2) af))))
    (yV (aM fm (pv 0) ao (aQ _)) (nC (vj G1 F1 M1 (ae (pv 1) (ae (pv 2) (ae (pv 3) af)))))
     (yV (aM fm (pv 0) ao (aQ _)) (nC (vj G2 F2 M1 (ae (pv 1) (ae (pv 2) (ae (bP (ae (bC (ae (pv 3) (ae (pv 3) af))) af)) af)))))
      (nC (vj G3 F3 hr8 (ae (pv 1) (ae (pv 2) af)))))))
   (tb:=λcls e D σ H'=>∃(k:Bool) (v0 v1 v2 v3 v4:Option V),cls=.ref (if k then O else J)/\σ=[v0,v1,v2,v3,v4,Ya (.ref e)]/\∀(l:Um) (H2:Hp),H' l=none->aE H' H2->H2 l=Ya (.lst [.bl k,.bl (!k),.bl true,.bl false])->D.nx [v0,v1,v2,v3,Ya (.ref l),Ya (.ref e)] H2)
   (tr:=λcls e D σ H'=>∃(l:Um) (v0 v1 v2 v3 v5:Option V),σ=[v0,v1,v2,v3,Ya (.ref l),v5]/\D.rt (.ref l) H')
   (λcls e oe he=>rG λD σ H' hR=>?suite) (λcls e oe he=>rG λD σ H' hR=>?after) (aA (aU (pv 4)))),?_⟩
 case suite =>
  obtain⟨Z,v0,v1,v2,v3,v4,rfl,rfl,q⟩:=hR;have X:Ds K (if Z=true then O else J):=by cases Z;exact XU;exact XT
  have p1:Pw K (.ref (if Z=true then O else J)) (.ref O)=Ya Z:=by cases Z;exact r1;exact n1
  have p2:Pw K (.ref (if Z=true then O else J)) (.ref J)=Ya (!Z):=by cases Z;exact r2;exact n2
  have p3:Pw K (.ref (if Z=true then O else J)) (.type "ValueError")=Ya true:=by cases Z;exact r3;exact n3
  have p4:Pw K (.ref (if Z=true then O else J)) (.ref CN)=Ya false:=by cases Z;exact r4;exact n4
  have p5:Pw K (.ref (if Z=true then O else J)) (.ref CR)=Ya false:=by cases Z;exact r5;exact n5
  generalize(if Z=true then O else J)=C at he X p1 p2 p3 p4 p5;refine⟨_,ah (aJ (i:=4) gz.nd rfl (Or.inl rfl) (bP (ae (aL (kN he X) rfl B.isinstance fv (ae (pv 5) (ae (iW (v:=.ref O) rfl MT rfl) af))) (ae (aL (kN he X) rfl B.isinstance fv (ae (pv 5) (ae (iW (v:=.ref J) rfl MU rfl) af))) (ae (aL (kN he X) rfl B.isinstance fv (ae (pv 5) (ae (FA (v:=.ty "ValueError") rfl B.ValueError tm rfl) af))) af)))))
   (aA (bh (d5 O7 Py Pz cF (pv 4) (ae (Hm (aL (kN he X) rfl B.isinstance fv (ae (pv 5) (ae (iW (v:=.ref CN) rfl MN rfl) af))) (mD (aL (kN he X) rfl B.isinstance fv (ae (pv 5) (ae (iW (v:=.ref CR) rfl MR rfl) af))))) af)))),?_⟩
  refine⟨_,rfl,_,_,.inl ⟨_,rfl,p1⟩,rfl,_,rfl,_,_,.inl ⟨_,rfl,p2⟩,rfl,_,rfl,_,_,.inr ⟨_,rfl,p3⟩,rfl,by show 3<=Uu;decide,λl hl=>?_⟩;have uZ:upd H' l (.lst [.bl Z,.bl (!Z),.bl true]) l=Ya (.lst [.bl Z,.bl (!Z),.bl true]):=ag;refine⟨_,rfl,.inl ⟨rfl,_,aZ.of uZ⟩,_,rfl,_,_,.inl ⟨_,rfl,p4⟩,rfl,_,rfl,m8 ⟨_,rfl,_,_,.inl ⟨_,rfl,p5⟩,rfl,l,_,_,rfl,rfl,uZ,by show 3<Uu;decide,?_⟩⟩;exact q l _ hl ((ai hl).upd hl) ag
 case after =>
  obtain⟨l,v0,v1,v2,v3,v5,rfl,q⟩:=hR;exact⟨_,aA (aU (pv 4)),_,rfl,q⟩
 refine⟨by show 0<=Uu;decide,λl0 hl0=>?_⟩;have s0:aE H (upd H l0 (.lst [])):=ai hl0;have e0:upd H l0 (.lst []) l0=Ya (.lst []):=ag;generalize upd H l0 (.lst [])=H1 at s0 e0;have ha:=s0 _ _ ha;have hb:=s0 _ _ hb;refine⟨λcls _ H'=>aE H H'/\((cls=.ref J/\n≠m)\/(cls=.ref O/\n=m/\Rf way n ms os)),?_,?_⟩
 .have un:n≠m->(∀H',aE H1 H'->aE H H'/\(((.ref J:Uj)=.ref J/\n≠m)\/((.ref J:Uj)=.ref O/\n=m/\Rf way n ms os))):=λz H' s'=>⟨s0.trans s',.inl ⟨rfl,z⟩⟩
  have far:n=m->Rf way n ms os->(∀H',aE H1 H'->aE H H'/\(((.ref O:Uj)=.ref J/\n≠m)\/((.ref O:Uj)=.ref O/\n=m/\Rf way n ms os))):=λz r H' s'=>⟨s0.trans s',.inr ⟨rfl,z,r⟩⟩
  have wk:n=m->ak n os:=λz=>by
   rcases U with⟨q,_⟩|⟨_,q,_⟩|⟨_,q,_⟩
   .exact Us z q
   .exact q
   exact q
  have rf:n=m->way≠0->Rf way n ms os:=λz zw=>by
   rcases U with⟨q,_⟩|⟨_,_,q,_⟩|⟨_,_,q,_⟩
   .exact Us z q
   .exact q
   exact Us q zw
  refine⟨_,rfl,rfl,_,rfl,?_⟩;by_cases w0:way=0
  .subst w0;refine dH (Ul rfl) ?_;refine⟨_,rfl,_,rfl,a,b,n,m,ms,os,rfl,hn,br.of ha,W,br.of hb,hm,λG=>⟨wk G,λnf=>?_,λfr H' s'=>?_⟩,λjf=>un jf _ λ_ _ e=>e⟩
   .rcases U with⟨q,_⟩|⟨_,_,q,_⟩|⟨_,_,_,_,g,k⟩
    .exact Us G q
    .exact Us (q.1 (by decide)) nf
    exact⟨g,λH' s'=>⟨_,rfl,k l0 H' (s0.trans s') (s' _ _ e0)⟩⟩
   rcases U with⟨q,_⟩|⟨_,_,q,_⟩|⟨_,_,_,nf,_⟩
   .exact Us G q
   .exact far G q H' s'
   exact Us fr nf
  have wi:∀j:Nat,way≠j->¬V.int ((way:Nat):Int)=V.int ((j:Nat):Int):=λj z q=>z (by injection q with q;omega);refine cY (Up (wi 0 w0)) ?_;refine⟨_,rfl,rfl,_,rfl,?_⟩;by_cases w1:way=1
  .subst w1;refine dH (Ul rfl) ?_;exact⟨_,rfl,_,rfl,_,rfl,a,b,n,m,x,ms,os,rfl,hn,br.of ha,W,br.of hb,hm,λG=>⟨wk G,λnf=>Us ((rf G (by decide)).1 (by decide)) nf,λfr H' s'=>far G (rf G (by decide)) H' s'⟩,λjf=>un jf _ λ_ _ e=>e⟩
  refine cY (Up (wi 1 w1)) ?_;refine⟨_,rfl,rfl,_,rfl,?_⟩;by_cases w2:way=2
  .subst w2;refine dH (Ul rfl) ?_;refine⟨_,rfl,_,rfl,_,rfl,_,rfl,by show 2<=Uu;decide,λt ht=>⟨by show 1<=Uu;decide,λl hl=>?_⟩⟩;have s2:aE H1 (upd (upd H1 t (.tup [.int x,.int x])) l (.lst [.ref t])):=(ai ht).trans (ai hl);exact⟨a,b,n,m,_,ms,os,rfl,hn,br.of (s2 _ _ ha),W,br.of (s2 _ _ hb),hm,λG=>⟨wk G,λnf=>Us ((rf G (by decide)).1 (by decide)) nf,λfr H' s'=>far G (rf G (by decide)) H' (s2.trans s')⟩,λjf=>un jf _ s2⟩
  refine cY (Up (wi 2 w2)) ?_;have w3:way=3:=by omega
  subst w3;exact⟨_,rfl,_,rfl,a,b,n,m,ms,os,rfl,hn,ha,W,hb,hm,λG=>⟨wk G,λle=>Us ((rf G (by decide)).2 rfl) (by omega),λfr H' s'=>far G (rf G (by decide)) H' s'⟩,λjf=>un jf _ λ_ _ e=>e⟩
 rintro cls H' ⟨sH,⟨rfl,z⟩|⟨rfl,z,r⟩⟩
 .refine⟨pe2,λe he=>⟨false,_,_,_,_,_,rfl,rfl,λl H2 hl s2 h2=>⟨l,_,_,_,_,_,rfl,?_⟩⟩⟩;rcases U with⟨_,k⟩|⟨q,_⟩|⟨q,_⟩
  .exact k l H2 (sH.trans s2) h2
  .exact Us q z
  exact Us q z
 refine⟨pe1,λe he=>⟨true,_,_,_,_,_,rfl,rfl,λl H2 hl s2 h2=>⟨l,_,_,_,_,_,rfl,?_⟩⟩⟩;rcases U with⟨q,_⟩|⟨_,_,_,k⟩|⟨_,_,w0,nf,_⟩
 .exact Us z q
 .exact k l H2 (sH.trans s2) h2
 exact Us (r.1 (by omega)) nf
end
section
seal L2.mX L2.PS L2.PE L2.PT L2.PA
variable {P:Ux}{w:UA}{K:OJ}{mg:UI->Option Uj}{base:UH}
theorem wC{f:Um}{fd:Uz}(B:Bl mg)(F:Fn K mg "_law_sides" gX ["tied","bare"] f fd):aO P w K mg base dq 1 f fd ["tied","bare"] aI.A7:=by
 refine F.fn.ok fj (λvs H Q E h=>?_) (λje A outer s H vs Q E hr h=>?_)
 .obtain⟨t,b,rfl,_⟩:=h
  rfl
 obtain⟨t,b,rfl,ht,k⟩:=h;refine⟨_,(ah (aJ (i:=2) fj.nd rfl (Or.inl rfl) (bP af))
  (ah (aJ (i:=3) fj.nd rfl (Or.inl rfl) (bP af))
  (ah (b6 PassesOwn.never rfl (fV rfl B.range (ae (aT eH (pv 0) (pv 1)) af)) (aK (i:=4) fj.nd rfl (Or.inl rfl)) (ah (aJ (i:=5) fj.nd rfl (Or.inl rfl) (bP (ae (aT eH (aT fq ao (pv 4)) ao) (ae (aT fq ao (pv 4)) af))))
  (ah (aJ (i:=6) fj.nd rfl (Or.inl rfl) (bP (ae (aT fq ao (pv 4)) (ae (aT eH (aT fq ao (pv 4)) ao) af))))
  (aA (bS (aM jW (pv 4) (pv 0) (aQ _)) (ah (bh (d5 O7 PN PQ eW (pv 2) (ae (pv 5) af)))
  (aA (bh (d5 O7 PN PQ eW (pv 3) (ae (pv 6) af))))) (ah (bh (d5 O7 PN PQ eW (pv 2) (ae (pv 6) af)))
  (aA (bh (d5 O7 PN PQ eW (pv 3) (ae (pv 5) af))))))))))
  (aA (aU (bC (ae (b7 bK rfl B.tuple eL (ae (pv 2) af)) (ae (b7 bK rfl B.tuple eL (ae (pv 3) af)) af)))))))),?_⟩
 refine⟨by show 0<=Uu;decide,λD h1=>⟨by show 0<=Uu;decide,λL2 h2=>?_⟩⟩;have s1:aE H (upd (upd H D (.lst [])) L2 (.lst [])):=(ai h1).trans (ai h2);have q1:upd (upd H D (.lst [])) L2 (.lst []) D=Ya (.lst []):=(ai h2) _ _ ag;have q2:upd (upd H D (.lst [])) L2 (.lst []) L2=Ya (.lst []):=ag;have ne:D≠L2:=λz=>by rw[z]at q1;rw[<-z,ag]at h2;cases h2
 have NQ:H L2=none:=by rw[aG (λz=>ne z.symm)]at h2;exact h2
 generalize upd (upd H D (.lst [])) L2 (.lst [])=H0 at s1 q1 q2;refine⟨_,rfl,_,rfl,_,_,rfl,rfl,_,rfl,by omega,by omega,fW (lo:=0) (n:=(((t:Nat):Int)+(b:Nat)).toNat) (λi σ G=>∃(v4 v5 v6:Option V),σ=[Ya (.int (t:Nat)),Ya (.int (b:Nat)),Ya (.ref D),Ya (.ref L2),v4,v5,v6]/\aE H G/\G D=Ya (.lst (nV (sg i (pZ t))))/\G L2=Ya (.lst (nV (sg i (uJ t)))))
  ⟨none,none,none,rfl,s1,q1,q2⟩ ?_ ?_⟩
 .rintro i σ G hi ⟨v4,v5,v6,rfl,s3,e1,e2⟩;have ag8:i<20:=by omega
  rw[Ri];have cm:Bh 2 ((i:Nat):Int):=.inl ⟨by decide,by decide⟩;refine⟨_,rfl,_,_,rfl,rfl,cm,_,_,rfl,rfl,_,rfl,_,_,rfl,rfl,cm,by show 2<=Uu;decide,λR1 Z=>?_⟩;have sR1:aE G (upd G R1 (.lst [.int (2*((i:Nat):Int)+1),.int (2*((i:Nat):Int))])):=ai Z;have J:upd G R1 (.lst [.int (2*((i:Nat):Int)+1),.int (2*((i:Nat):Int))]) R1=Ya (.lst [.int (2*((i:Nat):Int)+1),.int (2*((i:Nat):Int))]):=ag;generalize upd G R1 (.lst [.int (2*((i:Nat):Int)+1),.int (2*((i:Nat):Int))])=H4 at sR1 J;refine⟨_,rfl,_,_,rfl,rfl,cm,_,rfl,_,_,rfl,rfl,cm,_,_,rfl,rfl,by show 2<=Uu;decide,λR2 hR2=>?_⟩;have sR2:aE H4 (upd H4 R2 (.lst [.int (2*((i:Nat):Int)),.int (2*((i:Nat):Int)+1)])):=ai hR2;have O:upd H4 R2 (.lst [.int (2*((i:Nat):Int)),.int (2*((i:Nat):Int)+1)]) R2=Ya (.lst [.int (2*((i:Nat):Int)),.int (2*((i:Nat):Int)+1)]):=ag;generalize upd H4 R2 (.lst [.int (2*((i:Nat):Int)),.int (2*((i:Nat):Int)+1)])=H5 at sR2 O;have Fo:=sR1.trans sR2;have nL1:∀{r:Um}{o:HO},G r=none->G D=Ya o->r≠D:=λh h' z=>by rw[z,h']at h;cases h
  have nL2:∀{r:Um}{o:HO},G r=none->G L2=Ya o->r≠L2:=λh h' z=>by rw[z,h']at h;cases h
  have U:G R2=none:=sR1.free hR2;have a1:=nL1 Z e1;have a2:=nL2 Z e2;have a3:=nL1 U e1;have a4:=nL2 U e2;have e1:=Fo _ _ e1;have e2:=Fo _ _ e2;have J:=sR2 _ _ J;have c1:V.int (2*((i:Nat):Int))=V.int ((2*i:Nat):Int):=congrArg V.int (by omega);have c2:V.int (2*((i:Nat):Int)+1)=V.int ((2*i+1:Nat):Int):=congrArg V.int (by omega);rw[c1,c2]at J O;have lg:∀g:Nat->Bool,(nV (sg i g)).length<=40:=λg=>by rw[aS,gB.iO];omega
  have up:∀(H6:Hp) (X Y:List V),H5 D=Ya (.lst X)->H5 L2=Ya (.lst Y)->∀X' Y',aE H (upd (upd H5 D (.lst X')) L2 (.lst Y')):=λ_ _ _ _ _ X' Y'=>((s3.trans Fo).upd h1).upd NQ;have app:∀(g:Nat->Bool) (u v:Nat),nV (sg i g)++[V.int (u:Nat),V.int (v:Nat)]=nV (sg i g++[u,v]):=λg u v=>by unfold nV;rw[O5];rfl
  have s40:40+2<=sizeLine:=by decide
  refine⟨_,rfl,_,rfl,_,_,rfl,rfl,_,rfl,?_⟩;by_cases c:i<t
  .refine dH (Ul (by omega)) ?_;refine⟨_,rfl,.inl ⟨rfl,_,aZ.of e1⟩,_,rfl,D,R1,_,_,rfl,rfl,e1,J,by have:=lg (pZ t);show _+2<=_;omega,?_⟩;refine⟨_,rfl,.inl ⟨rfl,_,aZ.of (by rw[aG (λz=>ne z.symm)];exact e2)⟩,_,rfl,L2,R2,_,_,rfl,rfl,by rw[aG (λz=>ne z.symm)];exact e2,by rw[aG a3];exact O,by have:=lg (uJ t);show _+2<=_;omega,?_⟩;refine⟨_,_,_,rfl,up H5 _ _ e1 e2 _ _,?_,?_⟩
   .rw[aG ne,ag,nW,Uo (show pZ t i=true from Ul c),app]
   rw[ag,nW,Uk (show¬uJ t i=true by unfold uJ;rw[Ul c];decide),app]
  refine cY (Up (by omega)) ?_;refine⟨_,rfl,.inl ⟨rfl,_,aZ.of e1⟩,_,rfl,D,R2,_,_,rfl,rfl,e1,O,by have:=lg (pZ t);show _+2<=_;omega,?_⟩;refine⟨_,rfl,.inl ⟨rfl,_,aZ.of (by rw[aG (λz=>ne z.symm)];exact e2)⟩,_,rfl,L2,R1,_,_,rfl,rfl,by rw[aG (λz=>ne z.symm)];exact e2,by rw[aG a1];exact J,by have:=lg (uJ t);show _+2<=_;omega,?_⟩;refine⟨_,_,_,rfl,up H5 _ _ e1 e2 _ _,?_,?_⟩
  .rw[aG ne,ag,nW,Uk (show¬pZ t i=true by unfold pZ;rw[Up c];decide),app]
  rw[ag,nW,Uo (show uJ t i=true by unfold uJ;rw[Up c];rfl),app]
 rintro σ G ⟨v4,v5,v6,rfl,s3,e1,e2⟩;have en:(((t:Nat):Int)+(b:Nat)).toNat=t+b:=by omega
 rw[en]at e1 e2;refine⟨_,rfl,D,_,rfl,.inl e1,λt1 H4 s4 Gq=>?_⟩;refine⟨_,rfl,L2,_,rfl,.inl (s4 _ _ e2),λt2 H5 s5 yD=>?_⟩;refine⟨by show 2<=Uu;decide,λr Kz=>?_⟩;exact k r t1 t2 _ (s3.trans (s4.trans (s5.trans (ai Kz)))) ag (ai Kz _ _ (s5 _ _ Gq)) (ai Kz _ _ yD)
theorem mT{f f1:Um}{fd O:Uz}(F:Fn K mg "_law_refuses_all" dj ["one","other","ways","number"] f fd)(D:Fn K mg "_law_refusal" fz ["way","one","other","number"] f1 O)(G:aO P w K mg base dq 15 f1 O ["way","one","other","number"] aI.pK):aO P w K mg base dq 16 f fd ["one","other","ways","number"] nX:=by
 refine F.fn.ok iQ (λvs H Q E h=>?_) (λje A outer s H vs Q E hr h=>?_)
 .obtain⟨a,b,l,ws,n,x,ms,os,rfl,_⟩:=h
  rfl
 obtain⟨a,b,l,ws,n,x,ms,os,rfl,hn,ha,W,hb,WO,hl,wl,hw,k⟩:=h;have hu:=jY hr;refine⟨_,(ah (b6 PassesOwn.never rfl (bp (pv 2)) (aK (i:=4) iQ.nd rfl (Or.inl rfl)) (aA (bS (aM (mI 0 hu) (bo G D (hr.mono (by decide)) (ae (pv 4) (ae (pv 0) (ae (pv 1) (ae (pv 3) af))))) (bP (ae du (ae du (ae du (ae du af))))) (aQ _)) (aA (aU du)) bg)))
  (aA (aU du))),?_⟩
 refine⟨_,rfl,l,rfl,⟨_,aZ.of hl⟩,cw (K:=K) (a:=l) (xs:=nV ws) (λi σ U=>∃v4:Option V,σ=[Ya (.ref a),Ya (.ref b),Ya (.ref l),Ya (.int x),v4]/\aE H U) ⟨none,rfl,λ_ _ e=>e⟩ (λi σ U _ zq=>by obtain⟨_,_,J⟩:=zq;exact aZ.of (J _ _ hl)) ?_ ?_⟩
 .rintro i y σ U hy ⟨v4,rfl,J⟩;obtain⟨wy,hz,rfl⟩:=cX hy;obtain⟨w3,rf⟩:=hw wy (OP hz);refine⟨_,rfl,_,rfl,_,rfl,_,rfl,a,b,wy,n,n,x,ms,os,rfl,w3,hn,J _ _ ha,W,J _ _ hb,WO.len,.inr (.inl ⟨rfl,WO,rf,λlg H4 s4 Ka=>?_⟩)⟩;refine⟨by show 4<=Uu;decide,λlt Z=>?_⟩;refine⟨lg,lt,rfl,rfl,ES (ai Z _ _ Ka) ag,_,rfl,m8 ?_⟩;exact⟨_,rfl,J.trans (s4.trans (ai Z))⟩
 rintro σ U ⟨v4,rfl,J⟩;exact k U J
theorem ph{f f0 f1 f2 f3 f4 f5 CU CT:Um}{fd J9 iu jw mV zV B6:Uz}(B:Bl mg)(F:Fn K mg "_law_edge_good" fH ["tied","bare","cell"] f fd)(fA:Fn K mg "fewest_many" d9 ["one","other"] f0 J9)(fB:aO P w K mg base (gh P w) 13 f0 J9 ["one","other"] (qI K CU CT))(eT:Fn K mg "row_numbered" dD ["one","other","number"] f1 iu)(U:aO P w K mg base (gh P w) 14 f1 iu ["one","other","number"] (nT K CU CT))(d8:Fn K mg "number_of_row" de ["one","other","deeds"] f2 jw)(O:aO P w K mg base (gh P w) 14 f2 jw ["one","other","deeds"] (qJ K CU CT))(eU:Fn K mg "works_on_way" dC ["one","other"] f3 mV)(Z:aO P w K mg base (gh P w) 8 f3 mV ["one","other"] (nU CU CT))(i9:Fn K mg "_law_sides" gX ["tied","bare"] f4 zV)(J:Fn K mg "_law_refuses_all" dj ["one","other","ways","number"] f5 B6)(G:aO P w K mg base dq 16 f5 B6 ["one","other","ways","number"] nX):aO P w K mg base dq 17 f fd ["tied","bare","cell"] aI.EW:=by
 have pQ:aO P w K mg base dq 1 f4 zV ["tied","bare"] aI.A7:=wC B i9;refine F.fn.ok bc (λvs H Q E h=>?_) (λje A outer s H vs Q E hr h=>?_)
 .obtain⟨t,b,c,rfl,_⟩:=h
  rfl
 obtain⟨t,b,c,rfl,⟨Mi,e5⟩,c0,c1,k⟩:=h;have hu:=jY hr;refine⟨_,(ah (kA (bo pQ i9 (hr.mono (by decide)) (ae (pv 0) (ae (pv 1) af))) (jA rfl (aX (aK (i:=3) bc.nd rfl (Or.inl rfl)) (aX (aK (i:=4) bc.nd rfl (Or.inl rfl)) dN))))
  (ah (aJ (i:=5) bc.nd rfl (Or.inl rfl) (aT eH (pv 0) (pv 1)))
  (ah (aJ (i:=6) bc.nd rfl (Or.inl rfl) (qP (eV iY (pv 0) ao (aQ _)) (mD (eV iY (pv 1) ao (aQ _)))))
  (ah (bS (PW.pt (z8 (aM iY (pv 5) ao (aQ _)) (uP (PW.pt (jz (iE (pv 6)) (iX (aM iY (pv 5) ao (aQ _)))))))) (aA (aU (bo G J (hr.mono (by decide)) (ae (pv 3) (ae (pv 4) (ae (bP (ae ao (ae ao (ae ao (ae ao af))))) (ae (pv 2) af))))))) bg)
  (ah (bS (PW.pt (jz (aM iY (pv 5) ao (aQ _)) (iX (mC (iE (bo G J (hr.mono (by decide)) (ae (pv 3) (ae (pv 4) (ae (bP (ae ao af)) (ae (pv 2) af)))))))))) (aA (aU du)) bg)
  (ah (bS (PW.pt (jz (aM jW (pv 5) ao (aQ _)) (jz (mC (iE (pv 6))) (iX (aM qT (aL aH rfl B.len bD (ae (iI Z eU (hr.mono (by decide)) (ae (pv 3) (ae (pv 4) af))) af)) (cg eE (bP (ae ao (ae ao (ae ao (ae ao (ae ao (ae ao af))))))) (pv 5) (λ_ _=>rfl)) (aQ _)))))) (aA (aU du)) bg)
  (ah (aJ (i:=7) bc.nd rfl (Or.inl rfl) (iI fB fA (hr.mono (by decide)) (ae (pv 3) (ae (pv 4) af))))
  (ah (aJ (i:=8) bc.nd rfl (Or.inl rfl) ao)
  (ah (b6 PassesOwn.never rfl (fV rfl B.range (ae (pv 5) af)) (aK (i:=9) bc.nd rfl (Or.inl rfl)) (aA (aJ (i:=8) bc.nd rfl (Or.inl rfl) (aT fq (pv 8) (aT eH (pv 9) ao)))))
  (ah (bS (PW.pt (z8 (PW.pt (jz (mC (iE (pv 6))) (iX (aM qT (pv 7) (pv 8) (aQ _))))) (uP (aM jW (pv 7) (pv 8) (aQ _))))) (aA (aU du)) bg)
  (ah (bS (aM iY (pv 5) ao (aQ _)) (aA (aU du)) bg)
  (ah (bS (aM fm (aT eI (pv 2) ao) ao (aQ _)) (aA (aU (eV fm (aL aH rfl B.len bD (ae (iI U eT (hr.mono (by decide)) (ae (pv 3) (ae (pv 4) (ae (aT eI (aT dO (pv 2) ao) (pv 7)) af)))) af)) (pv 5) (aQ _)))) bg)
  (ah (jG (ix:=10) (NC:=["stave"]) bc.nd rfl (Or.inl rfl) rfl (hV rfl (by decide +kernel) (by decide +kernel)) (fV rfl B.range (ae (pv 0) af)) (λ_ _ _ _=>(aK (i:=0) (show(["stave"]:List UI).Nodup by decide +kernel) rfl (Or.inl rfl))) (λ_ _ _ _=>fE) (λ_ _ _ _=>(bC (ae (aT fq ao (pv 0)) (ae (aT fq ao (pv 0)) af)))))
  (ah (aJ (i:=10) bc.nd rfl (Or.inl rfl) (aT C2 (pv 10) (eX (NC:=["stave"]) rfl (hV rfl (by decide +kernel) (by decide +kernel)) (tT rfl B.range (ae (pv 0) (ae (pv 5) af))) (λ_ _ _ _=>(aK (i:=0) (show(["stave"]:List UI).Nodup by decide +kernel) rfl (Or.inl rfl))) (λ_ _ _ _=>fE) (λ_ _ _ _=>(bC (ae (aT fq ao (pv 0)) (ae (aT eH (aT fq ao (pv 0)) ao) af)))))))
  (ah (aJ (i:=11) bc.nd rfl (Or.inl rfl) (iI O d8 (hr.mono (by decide)) (ae (pv 3) (ae (pv 4) (ae (pv 10) af)))))
  (aA (aU (qP (eV Af ao (pv 11) (aQ _)) (mD (eV jW (pv 11) (pv 7) (aQ _))))))))))))))))))))),?_⟩
 refine⟨_,rfl,_,rfl,t,b,rfl,by omega,λr p q H1 s1 hr1 KJ KL=>?_⟩;have W:=gB.fG (n:=t+b) (f:=pZ t) (by omega);have WO:=gB.fG (n:=t+b) (f:=uJ t) (by omega);have S3:=aI.ET (t+b) (pZ t) (uJ t);have ap:=aI.zS (t:=t) (b:=b) (by omega);have nb:=aI.yo (t:=t) (b:=b) (by omega);have fw:=aI.EU (t:=t) (b:=b) (by omega);generalize hms:sg (t+b) (pZ t)=ms at *;generalize hos:sg (t+b) (uJ t)=os at *;refine⟨r,_,rfl,br.of hr1,rfl,_,_,rfl,_,_,rfl,rfl,?_⟩;refine⟨_,rfl,_,rfl,_,_,rfl,rfl,?_⟩;obtain⟨mx,vW⟩:∃mx:Bool,mx=(decide (0<t)&&decide (0<b)):=⟨_,rfl⟩
 have KQ:mx=true↔¬aP (t+b) ms os:=by
  rw[nb,vW,PX,Uy,Uy];omega
 have ct1:0<t->decide ((0:Int)<((t:Nat):Int))=true:=λh=>Ul (by omega);have ct0:¬ 0<t->decide ((0:Int)<((t:Nat):Int))=false:=λh=>Up (by omega);have cb:0<t->decide ((0:Int)<((b:Nat):Int))=mx:=λh=>by rw[vW,Ul h,Tb];exact decide_eq_decide.mpr (by omega)
 have cf:¬ 0<t->mx=false:=λh=>by rw[vW,Up h,Qw]
 have fr:sP (t+b) ms os↔(12<t+b\/(mx=true/\6<t+b)):=by unfold sP;rw[ap,KQ]
 refine' so ?m0 ?x0
 case m0 =>
  intro hN;refine⟨_,rfl,_,_,rfl,rfl,_,rfl,?_⟩;by_cases t0:0<t
  .refine dH (ct1 t0) ⟨_,rfl,_,_,rfl,rfl,?_⟩;dsimp only;rw[cb t0];exact hN
  refine cY (ct0 t0) ?_;rw[cf t0]at hN;exact hN
 have Kb:∀(H':Hp) (ws:List Nat) (l:Um),aE H1 H'->H' l=Ya (.lst (nV ws))->ws.length<=4->(∀w∈ws,w<=3/\Rf w (t+b) ms os)->∀Q':VK,(∀H2,aE H' H2->Q' (.bl true) H2)->nX [.ref p,.ref q,.ref l,.int c] H' Q' E0:=λH' ws l sH hl wl hw Q' kq=>⟨p,q,l,ws,t+b,c,ms,os,rfl,by omega,sH _ _ KJ,W,sH _ _ KL,WO,hl,wl,hw,kq⟩
 by_cases far:12<t+b\/(mx=true/\6<t+b)
 .have rfw:∀w∈[0,1,2,3],w<=3/\Rf w (t+b) ms os:=λw hw=>by
   have w3:w<=3:=by simp at hw;omega
   exact⟨w3,λ_=>fr.mpr far,λ_=>by rw[ap];omega⟩
  by_cases Fq:12<t+b
  .refine⟨_,rfl,_,_,rfl,rfl,_,rfl,dH (Ul (by omega)) (Br ?_)⟩;refine⟨_,rfl,_,rfl,by show 4<=Uu;decide,λl hl=>⟨_,rfl,?_⟩⟩;exact Kb _ [0,1,2,3] l (ai hl) ag (by decide) rfw _ λH2 s2=>k H2 (s1.trans ((ai hl).trans s2))
  obtain⟨f1,f2⟩:=far.resolve_left Fq;refine⟨_,rfl,_,_,rfl,rfl,_,rfl,cY (Up (by omega)) ⟨_,rfl,mx,rfl,dH f1 ⟨_,rfl,_,_,rfl,rfl,_,rfl,dH (Ul (by omega)) ?_⟩⟩⟩;refine⟨_,rfl,_,rfl,by show 4<=Uu;decide,λl hl=>⟨_,rfl,?_⟩⟩;exact Kb _ [0,1,2,3] l (ai hl) ag (by decide) rfw _ λH2 s2=>k H2 (s1.trans ((ai hl).trans s2))
 have Fq:t+b<=12:=QO λz=>far (.inl z);have n6:mx=true->t+b<=6:=λh=>QO λz=>far (.inr ⟨h,z⟩);have M6:decide ((12:Int)<((t:Nat):Int)+((b:Nat):Int))=false:=Up (by omega);have c6f:mx=true->decide ((6:Int)<((t:Nat):Int)+((b:Nat):Int))=false:=λh=>Up (by have:=n6 h;clear fB U O Z G pQ hr Mi e5 c0 c1 hu hms W hos WO S3 ap nb fw KQ ct0 cb cf fr Kb Fq n6 M6 this;lia);refine' so ?m1 ?x1
 case m1 =>
  intro hN;exact⟨_,rfl,_,_,rfl,rfl,_,rfl,cY M6 ⟨_,rfl,mx,rfl,fu (λh=>⟨_,rfl,_,_,rfl,rfl,_,rfl,cY (c6f h) hN⟩) (λ_=>m8 hN)⟩⟩
 have c5t:5<t+b->decide ((5:Int)<((t:Nat):Int)+((b:Nat):Int))=true:=λh=>Ul (by omega);have c5f:¬ 5<t+b->decide ((5:Int)<((t:Nat):Int)+((b:Nat):Int))=false:=λh=>Up (by omega);have M7:t+b<=20:=by omega
 have w3:5<t+b->∀w∈[3],w<=3/\Rf w (t+b) ms os:=λn5 w hw=>by
  rw[OS.mp hw];exact⟨ON _,λz=>Us z (by decide),λ_=>by rw[ap];exact n5⟩
 refine' zT H1 ?m2 ?x2
 case m2 =>
  intro hN;by_cases n5:5<t+b
  .refine⟨_,rfl,_,_,rfl,rfl,_,rfl,dH (c5t n5) ⟨_,rfl,_,rfl,by show 1<=Uu;decide,λl hl=>⟨_,rfl,?_⟩⟩⟩;exact⟨p,q,l,[3],t+b,c,ms,os,rfl,M7,ai hl _ _ KJ,W,ai hl _ _ KL,WO,ag,by decide,w3 n5,λH2 s2=>⟨true,rfl,m8 (hN H2 ((ai hl).trans s2))⟩⟩
  exact⟨_,rfl,_,_,rfl,rfl,_,rfl,cY (c5f n5) (m8 (hN H1 λ_ _ e=>e))⟩
 case x2 =>
 intro H2 s2;have hp2:=s2 _ _ KJ;have hq2:=s2 _ _ KL;have HW:=s1.trans s2;have c6t:t+b<6->decide (((t:Nat):Int)+((b:Nat):Int)<(6:Int))=true:=λh=>Ul (by omega);have c6n:¬t+b<6->decide (((t:Nat):Int)+((b:Nat):Int)<(6:Int))=false:=λh=>Up (by omega);have un:mx=false->¬(0<t/\0<b):=λh z=>by rw[vW,Ul z.1,Ul z.2]at h;cases h
 have Kc:t+b<6->mx=false->t+b=5:=λh1 h2=>e5 (un h2) (by omega);have nbm:mx=false->aP (t+b) ms os:=λh2=>OU λz=>by rw[KQ.mpr z]at h2;cases h2
 have Na:t+b<6->∀w,vS (t+b) os ms w->gB.Mf (t+b) w os:=λh1 w hw=>gB.Gd.lim (B:=55) (.inl ⟨rfl,by omega⟩) (hw.work W) WO;have Nb:t+b<6->mx=false->∀L:List (List Nat),L.Nodup->(∀w∈L,vS (t+b) os ms w)->L.length<64:=λh1 h2 L nd hL=>by
  have E4:=nbm h2;have n5:=Kc h1 h2;rw[<-hms,<-hos,n5]at hL E4;have:=gB.yn E4 nd hL;omega
 have Nc:t+b<6->mx=false->∀L:List (List Nat),L.Nodup->(∀w,w∈L↔vS (t+b) os ms w)->L.length=32:=λh1 h2 L nd hL=>by
  have E4:=nbm h2;have n5:=Kc h1 h2;rw[<-hms,<-hos,n5]at hL E4;exact gB.JU (λs _=>aI.HU t s) E4 nd hL
 have on5:t+b<6->¬ 5<aC (t+b) ms os:=λh1=>by rw[ap];omega
 have ix5:t+b<6->mx=false->uV [V.int 1,.int 2,.int 4,.int 8,.int 16,.int 32] (((t:Nat):Int)+((b:Nat):Int))=Ya (.int 32):=λh1 h2=>by
  have:=Kc h1 h2;rw[show((t:Nat):Int)+((b:Nat):Int)=((5:Nat):Int) by omega];exact hU (j:=5) rfl
 refine' zT H2 ?m3 ?x3
 case m3 =>
  intro hN;by_cases l6:t+b<6
  .refine⟨_,rfl,_,_,rfl,rfl,_,rfl,dH (c6t l6) ⟨_,rfl,mx,rfl,?_⟩⟩;by_cases m0:mx=false
   .refine dH (by rw[m0];rfl) ⟨_,rfl,_,rfl,p,q,t+b,t+b,ms,os,rfl,M7,hp2,W,hq2,WO.len,λ_=>⟨WO,λ_=>⟨Na l6,Nb l6 m0,λl L H3 _ s3 tl nd hL=>?_⟩,λz=>Us z (on5 l6)⟩,λz=>Us rfl z⟩;obtain⟨ts,hl,z2,_⟩:=tl;have hv:(ts.map V.ref).length=32:=by rw[OH,z2,Nc l6 m0 L nd hL]
    refine⟨l,_,rfl,.inl (aZ.of hl),by show 6<=Uu;decide,λlx hlx=>⟨_,rfl,lx,_,_,_,rfl,rfl,aZ.of ag,ix5 l6 m0,?_⟩⟩;rw[hv];exact⟨rfl,_,rfl,cY rfl (hN _ (s3.trans (ai hlx)))⟩
   have m1:mx=true:=by cases mx with
    |true=>rfl
    |false=>exact Us rfl m0
   exact cY (by rw[m1];rfl) (m8 (hN H2 λ_ _ e=>e))
  exact⟨_,rfl,_,_,rfl,rfl,_,rfl,cY (c6n l6) (m8 (hN H2 λ_ _ e=>e))⟩
 case x3 =>
 intro H3 s3;have hp3:=s3 _ _ hp2;have hq3:=s3 _ _ hq2;have sv:=HW.trans s3;have E6:¬sP (t+b) ms os:=λz=>far (fr.mp z);have gd:t+b<=8->gB.Gd 42 (t+b) os ms:=λh8=>.inr ⟨rfl,h8,S3,λz=>n6 (KQ.mpr z)⟩;have vge:lZ (t+b)<=vR (t+b) ms os:=gB.Md (t+b) S3 W WO ap;have vun:mx=false->vR (t+b) ms os=lZ (t+b):=λh=>by
  have E4:aP (t+b) ms os:=OU λz=>by rw[KQ.mpr z]at h;cases h
  rw[gB.vO S3 W WO E4,ap]
 refine⟨_,rfl,_,rfl,p,q,t+b,t+b,ms,os,rfl,M7,br.of hp3,W,br.of hq3,WO.len,λ_=>⟨WO,λ_=>⟨?_,λH4 s4=>?_⟩,λz=>Us z E6⟩,λz=>Us rfl z⟩
 .by_cases m0:mx=true
  .exact .inr ⟨42,gd (by have:=n6 m0;omega)⟩
  exact .inl (OU λz=>m0 (KQ.mpr z))
 generalize hv:vR (t+b) ms os=many at *;have hp4:=s4 _ _ hp3;have KN:=s4 _ _ hq3;have KO:=sv.trans s4;refine⟨_,rfl,_,rfl,by omega,by omega,fW (lo:=0) (n:=(((t:Nat):Int)+(b:Nat)).toNat) (λi σ H5=>∃v9:Option V,σ=[Ya (.int (t:Nat)),Ya (.int (b:Nat)),Ya (.int c),Ya (.ref p),Ya (.ref q),Ya (.int (((t:Nat):Int)+(b:Nat))),Ya (.bl mx),Ya (.int (many:Nat)),Ya (.int (lZ i:Nat)),v9,none,none]/\H5=H4) ⟨none,rfl,rfl⟩ ?_ ?_⟩
 .rintro i σ H5 hi ⟨v9,rfl,rfl⟩;rw[Ri];refine⟨_,rfl,_,rfl,_,_,rfl,rfl,_,_,rfl,rfl,.inr ⟨by omega,by omega⟩,?_⟩;refine⟨Ya (.int (i:Nat)),?_,rfl⟩;have e:((lZ i:Nat):Int)*(((i:Nat):Int)+1)=((lZ (i+1):Nat):Int):=by
   show _=(((i+1)*lZ i:Nat):Int)
   rw[Rj,Int.mul_comm];rfl
  rw[<-e]
  rfl
 rintro σ H5 ⟨v9,rfl,rfl⟩;have en:(((t:Nat):Int)+(b:Nat)).toNat=t+b:=by omega
 rw[en];generalize abr:lZ (t+b)=due at *;have dne:mx=false->decide (V.int ((many:Nat):Int)=V.int ((due:Nat):Int))=true:=λh=>Ul (by rw[vun h]);have dlt:decide (((many:Nat):Int)<((due:Nat):Int))=false:=Up (by omega);refine' so ?m4 ?x4
 case m4 =>
  intro hN;by_cases m0:mx=false
  .refine⟨_,rfl,mx,rfl,dH (by rw[m0];rfl) ⟨_,rfl,_,rfl,rfl,_,rfl,?_⟩⟩;exact cY (by rw[vun m0];simp) ⟨_,rfl,_,rfl,_,_,rfl,rfl,_,rfl,cY dlt hN⟩
  have m1:mx=true:=by cases mx with
   |true=>rfl
   |false=>exact Us rfl m0
  exact⟨_,rfl,mx,rfl,cY (by rw[m1];rfl) (m8 ⟨_,rfl,_,rfl,_,_,rfl,rfl,_,rfl,cY dlt hN⟩)⟩
 case x4 =>
 by_cases n8:8<t+b
 .exact⟨_,rfl,_,_,rfl,rfl,_,rfl,dH (Ul (by omega)) (k _ KO)⟩
 refine⟨_,rfl,_,_,rfl,rfl,_,rfl,cY (Up (by omega)) ?_⟩;have gd8:=gd (by omega);have ahj:0<due:=by
  rw[<-abr];exact gB.vH _
 have many1:0<many:=by omega
 by_cases odd:c%2=1
 .refine⟨_,rfl,_,_,rfl,rfl,(by show(0:Int)<2;decide),rfl,_,rfl,dH (Ul (congrArg V.int odd)) ?_⟩;refine⟨_,rfl,_,rfl,_,rfl,_,_,rfl,rfl,⟨by decide,by decide⟩,_,rfl,_,_,rfl,rfl,(by show(0:Int)<((many:Nat):Int);omega),?_⟩;have e0:=QD (c/2) (show((many:Nat):Int)≠0 by omega);have e1:=QE (c/2) (show(0:Int)<((many:Nat):Int) by omega);obtain⟨y,hy⟩:∃y:Nat,c/2%((many:Nat):Int)=(y:Nat):=⟨(c/2%((many:Nat):Int)).toNat,by omega⟩
  refine⟨p,q,t+b,t+b,_,ms,os,rfl,M7,br.of hp4,W,br.of KN,WO.len,λ_=>⟨WO,λ_=>⟨y,hy,gd8,by rw[hv];omega,λl H6 r hl s6 tl lr=>?_⟩,λz=>Us z E6⟩,λz=>Us rfl z⟩;obtain⟨ts,z1,z2,_⟩:=tl;refine⟨l,_,rfl,.inl (aZ.of z1),_,rfl,rfl,?_⟩;have e:decide (V.int (((ts.map V.ref).length:Nat):Int)=V.int (((t:Nat):Int)+((b:Nat):Int)))=true:=Ul (congrArg V.int (by rw[OH,z2,lr,ap];omega));rw[e];exact k _ (KO.trans s6)
 refine⟨_,rfl,_,_,rfl,rfl,(by show(0:Int)<2;decide),rfl,_,rfl,cY (Up (λz=>odd (by injection z))) ?_⟩;have cm:∀i:Nat,Bh 2 ((i:Nat):Int):=λi=>.inl ⟨by decide,by decide⟩;refine⟨_,rfl,_,rfl,by omega,by omega,λD hD=>ra (lo:=0) (n:=((t:Nat):Int).toNat) (λi σ H6=>∃v0:Option V,σ=[v0]/\aE H5 H6/\aI.ft pf H6 D ((OV i).map λs=>(2*s,2*s))) ⟨none,rfl,ai hD,aI.ft.nil ag⟩ ?_ ?_⟩
 .rintro i σ H6 hi ⟨v0,rfl,s6,h6⟩;rw[Ri];refine⟨_,rfl,_,_,rfl,rfl,cm i,_,rfl,_,_,rfl,rfl,cm i,by show 2<=Uu;decide,λtp lh=>?_⟩;obtain⟨ws,y1,y2,y3⟩:=(h6.same (ai lh)).snoc (t:=tp) (x:=(2*i,2*i)) ag;refine⟨ws,y1,aY (by rw[y2,OH,OW];omega),Ya (.int (i:Nat)),rfl,(s6.trans (ai lh)).upd hD,?_⟩;rw[Qg,O5];exact y3
 rintro σ H6 ⟨v0,rfl,s6,h6⟩;rw[Pq]at h6;obtain⟨ds,d1,d2,d3⟩:=id h6;rw[OH,OW]at d2;refine⟨_,rfl,_,rfl,_,rfl,_,_,rfl,⟨by omega,by omega,by omega,by omega⟩,λD2 Co=>ra (lo:=((t:Nat):Int)) (n:=(((t:Nat):Int)+((b:Nat):Int)-((t:Nat):Int)).toNat) (λi σ H7=>∃v0:Option V,σ=[v0]/\aE H6 H7/\aI.ft pf H7 D2 ((OV i).map λs=>(2*(t+s),2*(t+s)+1))) ⟨none,rfl,ai Co,aI.ft.nil ag⟩ ?_ ?_⟩
 .rintro i σ H7 hi ⟨v0,rfl,s7,h7⟩;have ei:((t:Nat):Int)+((i:Nat):Int)=((t+i:Nat):Int):=by omega
  rw[ei];refine⟨_,rfl,_,_,rfl,rfl,cm (t+i),_,rfl,_,_,rfl,rfl,cm (t+i),_,_,rfl,rfl,by show 2<=Uu;decide,λtp lh=>?_⟩;obtain⟨ws,y1,y2,y3⟩:=(h7.same (ai lh)).snoc (t:=tp) (x:=(2*(t+i),2*(t+i)+1)) ag;refine⟨ws,y1,aY (by rw[y2,OH,OW];omega),Ya (.int ((t+i:Nat):Int)),rfl,(s7.trans (ai lh)).upd Co,?_⟩;rw[Qg,O5];exact y3
 rintro σ H7 ⟨v0,rfl,s7,h7⟩;rw[show(((t:Nat):Int)+((b:Nat):Int)-((t:Nat):Int)).toNat=b by omega]at h7;obtain⟨es,g1,g2,g3⟩:=h7;rw[OH,OW]at g2;have ahk:100<=sizeLine:=by decide
 refine⟨D,D2,_,_,rfl,rfl,s7 _ _ d1,g1,by rw[OH,OH,d2,g2];omega,λL hL=>?_⟩;have s8:aE H7 (upd H7 L (.lst (ds.map V.ref++es.map V.ref))):=ai hL;have T:aI.ft pf (upd H7 L (.lst (ds.map V.ref++es.map V.ref))) L (((OV t).map λs=>(2*s,2*s))++(OV b).map λs=>(2*(t+s),2*(t+s)+1)):=by
  refine⟨ds++es,by rw[ag,O5],by rw[OQ,OQ,OH,OH,OW,OW,d2,g2],λi u x e1 e2=>?_⟩;by_cases hi:i<ds.length
  .rw[Pg hi]at e1;rw[Pg (by rw[OH,OW];omega)]at e2;exact s8 _ _ (s7 _ _ (d3 i u x e1 e2))
  rw[Pk (by omega)]at e1;rw[Pk (by rw[OH,OW];omega)]at e2;rw[OH,OW]at e2;rw[d2]at e1;exact s8 _ _ (g3 _ u x e1 e2)
 have HY:aE H5 (upd H7 L (.lst (ds.map V.ref++es.map V.ref))):=s6.trans (s7.trans s8);generalize upd H7 L (.lst (ds.map V.ref++es.map V.ref))=H8 at s8 T HY;have nl:=aI.Ez WO fw S3 W;refine⟨_,rfl,_,rfl,_,rfl,p,q,t+b,t+b,_,ms,os,rfl,M7,br.of (HY _ _ hp4),W,br.of (HY _ _ KN),WO.len,λ_=>⟨WO,λ_=>⟨L,_,rfl,gd8,T,fw,λH9 s9=>?_⟩,λz=>Us z E6⟩,λz=>Us rfl z⟩;rw[hv]at nl;refine⟨_,rfl,_,_,rfl,rfl,_,rfl,dH (Ul (by omega)) ⟨_,rfl,_,rfl,_,_,rfl,rfl,?_⟩⟩;dsimp only;rw[Ul (by omega)];exact k _ (KO.trans (HY.trans s9))
theorem Ke{B9 O G jU sD sE:Um}{t0 t1 t2:XJ}(B:Bl mg)(ZD:vi K mg "BadDeed" B9)(Z:vi K mg "Unlike" O)(ZT:vi K mg "TooMany" G)(ME:mg "ClaspError" = some (.ref jU))(MN:mg "NoSuch" = some (.ref sD))(MR:mg "BadRow" = some (.ref sE))(wD:mg "MOST_APART" = some (.int 12 t0))(ki:mg "MOST_APART_CROSSING" = some (.int 6 t1))(l7:mg "MOST_APART_LISTED" = some (.int 5 t2))(XT:Ds K G)(XU:Ds K O)
  (pe1:RH K (.ref G) (.ref jU)=Ya true) (pe2:RH K (.ref O) (.ref jU)=Ya true) (n1:Pw K (.ref G) (.ref G)=Ya true) (n2:Pw K (.ref G) (.ref O)=Ya false) (n3:Pw K (.ref G) (.type "ValueError")=Ya true) (n4:Pw K (.ref G) (.ref sD)=Ya false) (n5:Pw K (.ref G) (.ref sE)=Ya false) (r1:Pw K (.ref O) (.ref G)=Ya false) (r2:Pw K (.ref O) (.ref O)=Ya true) (r3:Pw K (.ref O) (.type "ValueError")=Ya true) (r4:Pw K (.ref O) (.ref sD)=Ya false) (r5:Pw K (.ref O) (.ref sE)=Ya false)
  {f0 f1 f2 f3 f4 f5 f6 f7 f8 f9 f10 f11 f12 f13 f14 f15 f16 f17 f18 f19 f20 f21 f22 f23 f24 f25 f26 f27 f28 f29 f30 f31 f32 f33 f34 f35 f36 f37 f38 f39 f40 f41 f42 f43 f44 f45 f46:Um} {J9 iu jw mV zV B6 E1 B8 Cp fd9 abt abu abv abw abx aby abz abA abB abC abD abE abF abG abH abI abJ abK abL abM abN abO abP abQ abR abS abT abU abV abW abX abY abZ ab0 ab1 ab2 Nd:Uz} (yv:Fn K mg "staves_in" gR ["work"] f0 J9) (qi:Fn K mg "refuse_unlike" d6 ["one","other"] f1 iu) (jT:Fn K mg "loose_ends" fc ["work"] f2 jw) (gZ:Fn K mg "fits_work" eO ["work","deed"] f3 mV) (qj:Fn K mg "refuse_misfit" d7 ["work","deed"] f4 zV) (dM:Fn K mg "reclasped" dJ ["work","deed"] f5 B6) (iw:Fn K mg "freed_ends" dU ["work","deed"] f6 E1) (wF:Fn K mg "clasp_ends" gv ["mates","one","other"] f7 B8) (wG:Fn K mg "least_pair" gx ["work","deed"] f8 Cp) (b9:Fn K mg "threads" fe ["one","other"] f9 fd9) (sF:Fn K mg "open_threads" eP ["one","other"] f10 abt) (qm:Fn K mg "walked_thread" c7 ["start","first","second"] f11 abu) (yw:Fn K mg "mark_ends" gS ["seen","ends"] f12 abv) (yx:Fn K mg "least_end" gT ["thread"] f13 abw) (lA:Fn K mg "thread_score" eQ ["one","other"] f14 abx) (sG:Fn K mg "apart_by" iP ["one","other"] f15 aby) (dE:Fn K mg "nearer_deeds" cC ["one","other"] f16 abz) (jx:Fn K mg "ends_in" jt ["laid","kind"] f17 abA) (ot:Fn K mg "splitting_pairs" di ["ends"] f18 abB) (pj:Fn K mg "crossing_pairs" dA ["bare","tied"] f19 abC) (sI:Fn K mg "ordered_pair" cW ["end","mate"] f20 abD) (fA:Fn K mg "fewest_many" d9 ["one","other"] f21 abE) (J:Fn K mg "refuse_uncounted" bL ["one","other"] f22 abF) (g9:Fn K mg "refuse_beyond" c8 ["most","one","other"] f23 abG) (dY:Fn K mg "has_both" fN ["laid"] f24 abH) (gA:Fn K mg "rows_between" cD ["one","other","counts"] f25 abI) (sJ:Fn K mg "lacked_deeds" dB ["thread"] f26 abJ) (qo:Fn K mg "shuffled_rows" c9 ["lacks"] f27 abK) (gG:Fn K mg "choices" gF ["many","chosen"] f28 abL) (fT:Fn K mg "own_rows" fO ["lack"] f29 abM) (eU:Fn K mg "works_on_way" dC ["one","other"] f30 abN) (eT:Fn K mg "row_numbered" dD ["one","other","number"] f31 abO) (jy:Fn K mg "ways_on" iD ["now","other","counts"] f32 abP) (d8:Fn K mg "number_of_row" de ["one","other","deeds"] f33 abQ) (gJ:Fn K mg "_law_cell_at" fy ["script","k"] f34 abR) (yy:Fn K mg "_law_mates" gU ["flow","staves"] f35 abS) (ou:Fn K mg "_law_halves" ir ["script","most"] f36 abT) (sM:Fn K mg "_law_walk" fP ["one","other","end","known"] f37 abU) (yz:Fn K mg "_law_score" gW ["one","other"] f38 abV) (pR:Fn K mg "_law_apart" i4 ["one","other"] f39 abW) (pS:Fn K mg "_law_lacks" i5 ["one","other"] f40 abX) (pT:Fn K mg "_law_mixed" i6 ["lacks"] f41 abY) (U:Fn K mg "_law_refusal" fz ["way","one","other","number"] f42 abZ) (i9:Fn K mg "_law_sides" gX ["tied","bare"] f43 ab0) (ja:Fn K mg "_law_refuses_all" dj ["one","other","ways","number"] f44 ab1) (j8:Fn K mg "_law_edge_good" fH ["tied","bare","cell"] f45 ab2) (Nf:Fn K mg "law" EX ["script"] f46 Nd):aO P w K mg base dq 18 f46 Nd ["script"] (C8 K):=by
 have cG:=zU (P:=P) (w:=w) (base:=base) B Z b9 qi jT sF qm yw yx;have sN:=qe B lA b9 cG;have z4:=yr B sG yv lA sN;have eR:=oh B dE b9 cG jx pj ot sI gZ wG iw;have eS:=wg (P:=P) (w:=w) (base:=base) B ZD dM gZ qj iw wF;have j9:=mR ZT g9 sG z4;have fU:=kh B wD ki J b9 cG dY g9 j9;have Kf:=i8 B gA b9 cG dY sJ qo gG fT dE eR dM eS 6;have fB:=pe fA J fU gA Kf;have lU:=wq jy gA Kf dE eR dM eS;have lB:=om eT J fU gA Kf jy lU;have ka:=mS B d8 J fU jy lU;have lC:=oq B l7 eU g9 j9 dE eR dM eS;have mr:=lj (P:=P) (w:=w) (base:=base) B gJ;have wH:=tO (P:=P) (w:=w) (base:=base) B ou gJ yy;have yA:=wz (P:=P) (w:=w) (base:=base) B pR yz sM;have yB:=wA (P:=P) (w:=w) (base:=base) B pS sM;have yC:=wB (P:=P) (w:=w) (base:=base) B pT;have gL:=pg B ME MN MR Z.g ZT.g XT XU pe1 pe2 n1 n2 n3 n4 n5 r1 r2 r3 r4 r5 U fA fB eT lB d8 ka eU lC;have ow:=mT ja U gL;have qu:=ph B j8 fA fB eT lB d8 ka eU lC i9 ja ow;refine Nf.fn.ok fS (λvs H Q E h=>?_) (λje A outer s H vs Q E hr h=>?_)
 .obtain⟨a,ns,rfl,_⟩:=h
  rfl
 obtain⟨a,ns,rfl,hS,hlen,k⟩:=h;have hu:=jY hr;refine⟨_,(ah (aJ (i:=1) fS.nd rfl (Or.inl rfl) (bP (ae (bC (ae ao (ae ao af))) (ae (bC (ae ao (ae ao af))) (ae (bC (ae ao (ae ao af))) (ae (bC (ae ao (ae ao af))) (ae (bC (ae ao (ae ao af))) (ae (bC (ae ao (ae ao af))) (ae (bC (ae ao (ae ao af))) (ae (bC (ae ao (ae ao af))) (ae (bC (ae ao (ae ao af))) (ae (bC (ae ao (ae ao af))) (ae (bC (ae ao (ae ao af))) (ae (bC (ae ao (ae ao af))) (ae (bC (ae ao (ae ao af))) af)))))))))))))))
  (ah (aJ (i:=2) fS.nd rfl (Or.inl rfl) (aT dO (bo mr gJ (hr.mono (by decide)) (ae (pv 0) (ae ao af))) ao))
  (ah (bS (aM fm (aT eI (pv 2) ao) ao (aQ _)) (ah (aJ (i:=3) fS.nd rfl (Or.inl rfl) (cg eE (pv 1) (aT eI (aT dO (pv 2) ao) (aL aH rfl B.len bD (ae (pv 1) af))) (λ_ _=>rfl)))
  (aA (aU (bo qu j8 (hr.mono (by decide)) (ae (cg eo (pv 3) ao (λ_ _=>rfl)) (ae (cg eo (pv 3) ao (λ_ _=>rfl)) (ae (aT eI (aT dO (pv 2) ao) (aT CH ao ao)) af))))))) bg)
  (ah (kA (bo wH ou (hr.mono (by decide)) (ae (pv 0) (ae ao af))) (jA rfl (aX (aK (i:=4) fS.nd rfl (Or.inl rfl)) (aX (aK (i:=5) fS.nd rfl (Or.inl rfl)) dN))))
  (ah (aJ (i:=6) fS.nd rfl (Or.inl rfl) (aT kC (aT eI (aT dO (bo mr gJ (hr.mono (by decide)) (ae (pv 0) (ae ao af))) ao) (aT CH ao ao)) ao))
  (ah (aJ (i:=7) fS.nd rfl (Or.inl rfl) (bo yC pT (hr.mono (by decide)) (ae (bo yB pS (hr.mono (by decide)) (ae (pv 4) (ae (pv 5) af))) af)))
  (ah (aJ (i:=8) fS.nd rfl (Or.inl rfl) (bo yA pR (hr.mono (by decide)) (ae (pv 4) (ae (pv 5) af))))
  (ah (aJ (i:=9) fS.nd rfl (Or.inl rfl) (Hm (eV iY (pv 8) ao (aQ _)) (mD (qP (eV iY (pv 8) ao (aQ _)) (mD (pv 7))))))
  (rG (R:=λD σ H2=>∃(L l1 l2:Um) (n:Nat) (ms os:List Nat) (cell number:Int) (mx fr:Bool),σ=[Ya (.ref a),Ya (.ref L),Ya (.int cell),none,Ya (.ref l1),Ya (.ref l2),Ya (.int number),Ya (.bl mx),Ya (.int (aC n ms os:Nat)),Ya (.bl fr),none,none,none]/\H2 l1=Ya (.lst (nV ms))/\ak n ms/\H2 l2=Ya (.lst (nV os))/\ak n os/\n<=20/\(mx=true↔¬aP n ms os)/\(fr=true↔sP n ms os)/\D.rt=Q) λD σ H2 hR=>?rest1))))))))),?_⟩
 case rest1 =>
  obtain⟨L,l1,l2,n,ms,os,cell,number,mx,fr,rfl,h1,W,h2,WO,hn,vW,Cf,hD⟩:=hR;refine⟨_,(ah (aJ (i:=10) fS.nd rfl (Or.inl rfl) (aT Dv (b7 bK rfl B.tuple eL (ae (pv 5) af)) (bC (ae (aL aH rfl B.len bD (ae (pv 5) af)) (ae (aT eH (aL aH rfl B.len bD (ae (pv 5) af)) ao) af)))))
  (rG (R:=λD σ H2=>∃(L l1 l2:Um) (n:Nat) (ms os:List Nat) (cell number:Int) (mx fr:Bool) (m:Um),σ=[Ya (.ref a),Ya (.ref L),Ya (.int cell),none,Ya (.ref l1),Ya (.ref l2),Ya (.int number),Ya (.bl mx),Ya (.int (aC n ms os:Nat)),Ya (.bl fr),Ya (.ref m),none,none]/\H2 m=Ya (.tup (nV (os++[2*n,2*n+1])))/\H2 l1=Ya (.lst (nV ms))/\ak n ms/\H2 l2=Ya (.lst (nV os))/\ak n os/\n<=20/\(mx=true↔¬aP n ms os)/\(fr=true↔sP n ms os)/\D.rt=Q) λD σ H2 hR=>?rest2)),?_⟩
  case rest2 =>
   obtain⟨L,l1,l2,n,ms,os,cell,number,mx,fr,m,rfl,hm,h1,W,h2,WO,hn,vW,Cf,hD⟩:=hR;refine⟨_,(ah (b6 PassesOwn.never rfl (fV rfl B.range (ae ao af)) (aK (i:=11) fS.nd rfl (Or.inl rfl)) (aA (bS (aM (mI 0 hu) (bo gL U (hr.mono (by decide)) (ae (pv 11) (ae (b7 bK rfl B.tuple eL (ae (pv 4) af)) (ae (pv 10) (ae (pv 6) af))))) (bP (ae du (ae du (ae du (ae du af))))) (aQ _)) (aA (aU du)) bg)))
  (ah (aJ (i:=12) fS.nd rfl (Or.inl rfl) (mZ (iE (pv 9)) (bP (ae ao (ae ao (ae ao af)))) (bP af)))
  (ah (bS (aM iY (pv 8) ao (aQ _)) (aA (aJ (i:=12) fS.nd rfl (Or.inl rfl) (aT C2 (pv 12) (bP (ae ao af))))) bg)
  (rG (R:=λD σ H2=>∃(L l1 l2:Um) (n:Nat) (ms os:List Nat) (cell number:Int) (mx fr:Bool) (lr:Um) (ws:List Nat) (vm vw:Option V),σ=[Ya (.ref a),Ya (.ref L),Ya (.int cell),none,Ya (.ref l1),Ya (.ref l2),Ya (.int number),Ya (.bl mx),Ya (.int (aC n ms os:Nat)),Ya (.bl fr),vm,vw,Ya (.ref lr)]/\H2 lr=Ya (.lst (nV ws))/\ws.length<=4/\(∀w∈ws,w<=3/\Rf w n ms os)/\H2 l1=Ya (.lst (nV ms))/\ak n ms/\H2 l2=Ya (.lst (nV os))/\ak n os/\n<=20/\(mx=true↔¬aP n ms os)/\(fr=true↔sP n ms os)/\D.rt=Q) λD σ H2 hR=>?rest3)))),?_⟩
   case rest3 =>
    obtain⟨L,l1,l2,n,ms,os,cell,number,mx,fr,lr,ws,vm,vw,rfl,hl,wl,hw,h1,W,h2,WO,hn,vW,Cf,hD⟩:=hR;refine⟨_,(ah (b6 PassesOwn.never rfl (bp (pv 12)) (aK (i:=11) fS.nd rfl (Or.inl rfl)) (aA (bS (aM (mI 0 hu) (bo gL U (hr.mono (by decide)) (ae (pv 11) (ae (b7 bK rfl B.tuple eL (ae (pv 4) af)) (ae (b7 bK rfl B.tuple eL (ae (pv 5) af)) (ae (pv 6) af))))) (bP (ae du (ae du (ae du (ae du af))))) (aQ _)) (aA (aU du)) bg)))
  (ah (bS (PW.pt (z8 (iE (pv 9)) (uP (PW.pt (jz (iE (pv 7)) (iX (aM iY (aL aH rfl B.len bD (ae (pv 4) af)) ao (aQ _)))))))) (aA (aU du)) bg)
  (aA (aU (eV (BP (K:=K) rfl (Q0 hu)) (bo gL U (hr.mono (by decide)) (ae ao (ae (b7 bK rfl B.tuple eL (ae (pv 4) af)) (ae (b7 bK rfl B.tuple eL (ae (pv 5) af)) (ae (pv 6) af))))) (bP af) (aQ _)))))),?_⟩
    refine⟨_,rfl,lr,rfl,⟨_,aZ.of hl⟩,cw (K:=K) (a:=lr) (xs:=nV ws) (λi σ H3=>∃vw:Option V,σ=[Ya (.ref a),Ya (.ref L),Ya (.int cell),none,Ya (.ref l1),Ya (.ref l2),Ya (.int number),Ya (.bl mx),Ya (.int (aC n ms os:Nat)),Ya (.bl fr),vm,vw,Ya (.ref lr)]/\aE H2 H3) ⟨_,rfl,λ_ _ e=>e⟩ (λi σ H3 _ zq=>by obtain⟨_,_,s3⟩:=zq;exact aZ.of (s3 _ _ hl)) ?_ ?_⟩
    .rintro i y σ H3 hy ⟨vw,rfl,s3⟩;obtain⟨wy,hz,rfl⟩:=cX hy;obtain⟨w3,rf⟩:=hw wy (OP hz);refine⟨_,rfl,_,rfl,l1,_,rfl,.inl (s3 _ _ h1),λt1 H4 s4 Gq=>?_⟩;refine⟨_,rfl,l2,_,rfl,.inl (s4 _ _ (s3 _ _ h2)),λt2 H5 s5 yD=>?_⟩;refine⟨_,rfl,t1,t2,wy,n,n,number,ms,os,rfl,w3,hn,s5 _ _ Gq,W,yD,WO.len,.inr (.inl ⟨rfl,WO,rf,λlg H6 s6 Ka=>?_⟩)⟩;refine⟨by show 4<=Uu;decide,λlt sO=>?_⟩;refine⟨lg,lt,rfl,rfl,ES (ai sO _ _ Ka) ag,_,rfl,m8 ?_⟩;exact⟨_,rfl,s3.trans (s4.trans (s5.trans (s6.trans (ai sO))))⟩
    rintro σ H3 ⟨vw,rfl,s3⟩;have h1:=s3 _ _ h1;have h2:=s3 _ _ h2;have ret:∀H':Hp,D.rt (.bl true) H':=λH'=>by rw[hD];exact k _
    have ln:(nV ms).length=2*n:=by rw[aS,W.len]
    by_cases f0:fr=true
    .exact⟨_,rfl,fr,rfl,dH f0 (Br (ret _))⟩
    refine⟨_,rfl,fr,rfl,cY (Qj.mpr f0) ?_⟩;by_cases big:mx=true/\10<2*n
    .exact⟨_,rfl,mx,rfl,dH big.1 ⟨_,rfl,l1,_,rfl,.inl (aZ.of h1),_,_,rfl,rfl,_,rfl,dH (Ul (by rw[ln];omega)) (ret _)⟩⟩
    have E6:¬sP n ms os:=λz=>f0 (Cf.mpr z);have gdf:aP n ms os\/∃BB,gB.Gd BB n os ms:=by
     by_cases m0:mx=true
     .exact .inr ⟨55,.inl ⟨rfl,by have b10:¬ 10<2*n:=λz=>big ⟨m0,z⟩;omega⟩⟩
     exact .inl (OU λz=>m0 (vW.mpr z))
    have c10:mx=true->decide ((10:Int)<(((nV ms).length:Nat):Int))=false:=λm0=>Up (by have b10:¬ 10<2*n:=λz=>big ⟨m0,z⟩;rw[ln];omega);refine' so ?m5 ?x5
    case m5 =>
     intro hN;by_cases m0:mx=true
     .exact⟨_,rfl,mx,rfl,dH m0 ⟨_,rfl,l1,_,rfl,.inl (aZ.of h1),_,_,rfl,rfl,_,rfl,cY (c10 m0) hN⟩⟩
     exact⟨_,rfl,mx,rfl,cY (Qj.mpr m0) (m8 hN)⟩
    case x5 =>
    refine⟨_,rfl,l1,_,rfl,.inl h1,λt1 H4 s4 Gq=>?_⟩;refine⟨_,rfl,l2,_,rfl,.inl (s4 _ _ h2),λt2 H5 s5 yD=>?_⟩;refine⟨_,rfl,t1,t2,0,n,n,number,ms,os,rfl,by decide,hn,s5 _ _ Gq,W,yD,WO.len,.inr (.inr ⟨rfl,WO,rfl,E6,gdf,λlg H6 s6 Ka=>?_⟩)⟩;refine⟨by show 0<=Uu;decide,λlz hlz=>?_⟩;exact⟨lg,lz,[],rfl,rfl,aZ.of (ai hlz _ _ Ka),aZ.of ag,ret _⟩
   refine⟨_,rfl,by decide,by decide,fW (lo:=0) (n:=((4:Int)).toNat) (λi σ H3=>∃vw:Option V,σ=[Ya (.ref a),Ya (.ref L),Ya (.int cell),none,Ya (.ref l1),Ya (.ref l2),Ya (.int number),Ya (.bl mx),Ya (.int (aC n ms os:Nat)),Ya (.bl fr),Ya (.ref m),vw,none]/\aE H2 H3) ⟨none,rfl,λ_ _ e=>e⟩ ?_ ?_⟩
   .rintro i σ H3 hi ⟨vw,rfl,s3⟩;rw[Ri];have hi4:i<4:=hi;refine⟨_,rfl,_,rfl,l1,_,rfl,.inl (s3 _ _ h1),λt1 H4 s4 Gq=>?_⟩;refine⟨_,rfl,_,rfl,t1,m,i,n,n+1,number,ms,os++[2*n,2*n+1],rfl,by omega,hn,Gq,W,s4 _ _ (s3 _ _ hm),by rw[OQ,WO.len];show 2*n+2=_;omega,.inl ⟨by omega,λlg H5 s5 Ka=>?_⟩⟩;refine⟨by show 4<=Uu;decide,λlt sO=>?_⟩;refine⟨lg,lt,rfl,rfl,ES (ai sO _ _ Ka) ag,_,rfl,m8 ?_⟩;exact⟨_,rfl,s3.trans (s4.trans (s5.trans (ai sO)))⟩
   rintro σ H3 ⟨vw,rfl,s3⟩;have h1:=s3 _ _ h1;have h2:=s3 _ _ h2;have fin:∀(H4:Hp) (lr:Um) (ws:List Nat),aE H3 H4->H4 lr=Ya (.lst (nV ws))->ws.length<=4->(∀w∈ws,w<=3/\Rf w n ms os)->∃(L' Ng Nh:Um) (n':Nat) (fZ gN:List Nat) (E7 wI:Int) (GZ Ni:Bool) (lr':Um) (ws':List Nat) (vm' vw':Option V),([Ya (.ref a),Ya (.ref L),Ya (.int cell),none,Ya (.ref l1),Ya (.ref l2),Ya (.int number),Ya (.bl mx),Ya (.int (aC n ms os:Nat)),Ya (.bl fr),Ya (.ref m),vw,Ya (.ref lr)]:L2.St)=[Ya (.ref a),Ya (.ref L'),Ya (.int E7),none,Ya (.ref Ng),Ya (.ref Nh),Ya (.int wI),Ya (.bl GZ),Ya (.int (aC n' fZ gN:Nat)),Ya (.bl Ni),vm',vw',Ya (.ref lr')]/\H4 lr'=Ya (.lst (nV ws'))/\ws'.length<=4/\(∀w∈ws',w<=3/\Rf w n' fZ gN)/\H4 Ng=Ya (.lst (nV fZ))/\ak n' fZ/\H4 Nh=Ya (.lst (nV gN))/\ak n' gN/\n'<=20/\(GZ=true↔¬aP n' fZ gN)/\(Ni=true↔sP n' fZ gN)/\D.rt=Q:=λH4 lr ws s4 hl wl hw=>⟨L,l1,l2,n,ms,os,cell,number,mx,fr,lr,ws,Ya (.ref m),vw,rfl,hl,wl,hw,s4 _ _ h1,W,s4 _ _ h2,WO,hn,vW,Cf,hD⟩
   have f3:fr=true->∀w∈[0,1,2],w<=3/\Rf w n ms os:=λf0 w hw=>by
    have w3:w<3:=by simp at hw;omega
    exact⟨by omega,λ_=>Cf.mp f0,λz=>by omega⟩
   have t3:5<aC n ms os->3<=3/\Rf 3 n ms os:=λa5=>⟨ON _,λz=>by omega,λ_=>a5⟩
   refine⟨_,rfl,fr,rfl,?_⟩;by_cases f0:fr=true
   .refine dH f0 ⟨by show 3<=Uu;decide,λlr Nj=>?_⟩;refine⟨_,rfl,_,_,rfl,rfl,_,rfl,?_⟩;by_cases a5:5<aC n ms os
    .refine dH (Ul (by omega)) ⟨_,rfl,by show 1<=Uu;decide,λl3 h3=>?_⟩;refine⟨lr,l3,_,_,rfl,rfl,ai h3 _ _ ag,ag,by show 3+1<=Uu;decide,λlp hlp=>?_⟩;refine fin _ lp [0,1,2,3] ((ai Nj).trans ((ai h3).trans (ai hlp))) ag (by decide) λw hw=>?_;rcases OY.mp (show w∈[0,1,2]++[3]from hw)with q|q
     .exact f3 f0 w q
     rw[OS.mp q];exact t3 a5
    exact cY (Up (by omega)) (fin _ lr [0,1,2] (ai Nj) ag (by decide) (f3 f0))
   refine cY (Qj.mpr f0) ⟨by show 0<=Uu;decide,λlr Nj=>?_⟩;refine⟨_,rfl,_,_,rfl,rfl,_,rfl,?_⟩;by_cases a5:5<aC n ms os
   .refine dH (Ul (by omega)) ⟨_,rfl,by show 1<=Uu;decide,λl3 h3=>?_⟩;refine⟨lr,l3,_,_,rfl,rfl,ai h3 _ _ ag,ag,by show 0+1<=Uu;decide,λlp hlp=>?_⟩;refine fin _ lp [3] ((ai Nj).trans ((ai h3).trans (ai hlp))) ag (by decide) λw hw=>?_;rw[OS.mp hw];exact t3 a5
   exact cY (Up (by omega)) (fin _ lr [] (ai Nj) ag (by decide) λw hw=>by cases hw)
  refine⟨_,rfl,l2,_,rfl,.inl h2,λt2 H3 s3 yD=>?_⟩;have h1:=s3 _ _ h1;have h2:=s3 _ _ h2;have ln:(nV os).length=2*n:=by rw[aS,WO.len]
  refine⟨_,rfl,l2,_,rfl,.inl (aZ.of h2),_,rfl,l2,_,rfl,.inl (aZ.of h2),_,_,rfl,rfl,by show 2<=Uu;decide,λtd hd=>?_⟩;have e2:V.int (((nV os).length:Nat):Int)=V.int ((2*n:Nat):Int):=by rw[ln]
  have e3:V.int ((((nV os).length:Nat):Int)+1)=V.int ((2*n+1:Nat):Int):=by rw[ln];rfl
  dsimp only;rw[e2,e3];have app:nV os++[V.int ((2*n:Nat):Int),V.int ((2*n+1:Nat):Int)]=nV (os++[2*n,2*n+1]):=by unfold nV;rw[O5];rfl
  have big:1000<=sizeLine:=by decide
  refine⟨t2,td,nV os,[.int ((2*n:Nat):Int),.int ((2*n+1:Nat):Int)],rfl,rfl,br.of (ai hd _ _ yD),br.of ag,by simp,by rw[ln];show 2*n+2<=Uu;omega,λe=>?_,λne p hp=>?_⟩
  .exact⟨L,l1,l2,n,ms,os,cell,number,mx,fr,td,rfl,by rw[<-app,e];exact ag,ai hd _ _ h1,W,ai hd _ _ h2,WO,hn,vW,Cf,hD⟩
  exact⟨L,l1,l2,n,ms,os,cell,number,mx,fr,p,rfl,by rw[ag,app],ai hp _ _ (ai hd _ _ h1),W,ai hp _ _ (ai hd _ _ h2),WO,hn,vW,Cf,hD⟩
 have z2:2<=sizeLine:=by decide
 refine⟨z2,λa1 p1=>?_⟩;have s1:aE H (upd H a1 (.tup [.int 12,.int 0])):=ai p1;have q1:upd H a1 (.tup [.int 12,.int 0]) a1=Ya (.tup [.int 12,.int 0]):=ag;generalize upd H a1 (.tup [.int 12,.int 0])=X1 at s1 q1;refine⟨z2,λa2 p2=>?_⟩;have s2:aE X1 (upd X1 a2 (.tup [.int 13,.int 0])):=ai p2;have q2:upd X1 a2 (.tup [.int 13,.int 0]) a2=Ya (.tup [.int 13,.int 0]):=ag;generalize upd X1 a2 (.tup [.int 13,.int 0])=X2 at s2 q2;have q1:=s2 _ _ q1;refine⟨z2,λa3 p3=>?_⟩;have s3:aE X2 (upd X2 a3 (.tup [.int 0,.int 13])):=ai p3;have q3:upd X2 a3 (.tup [.int 0,.int 13]) a3=Ya (.tup [.int 0,.int 13]):=ag;generalize upd X2 a3 (.tup [.int 0,.int 13])=X3 at s3 q3;have q1:=s3 _ _ q1;have q2:=s3 _ _ q2;refine⟨z2,λa4 p4=>?_⟩;have s4:aE X3 (upd X3 a4 (.tup [.int 3,.int 3])):=ai p4;have q4:upd X3 a4 (.tup [.int 3,.int 3]) a4=Ya (.tup [.int 3,.int 3]):=ag;generalize upd X3 a4 (.tup [.int 3,.int 3])=X4 at s4 q4;have q1:=s4 _ _ q1;have q2:=s4 _ _ q2;have q3:=s4 _ _ q3;refine⟨z2,λa5 p5=>?_⟩;have s5:aE X4 (upd X4 a5 (.tup [.int 4,.int 3])):=ai p5;have q5:upd X4 a5 (.tup [.int 4,.int 3]) a5=Ya (.tup [.int 4,.int 3]):=ag;generalize upd X4 a5 (.tup [.int 4,.int 3])=X5 at s5 q5;have q1:=s5 _ _ q1;have q2:=s5 _ _ q2;have q3:=s5 _ _ q3;have q4:=s5 _ _ q4;refine⟨z2,λa6 p6=>?_⟩;have s6:aE X5 (upd X5 a6 (.tup [.int 3,.int 4])):=ai p6;have q6:upd X5 a6 (.tup [.int 3,.int 4]) a6=Ya (.tup [.int 3,.int 4]):=ag;generalize upd X5 a6 (.tup [.int 3,.int 4])=X6 at s6 q6;have q1:=s6 _ _ q1;have q2:=s6 _ _ q2;have q3:=s6 _ _ q3;have q4:=s6 _ _ q4;have q5:=s6 _ _ q5;refine⟨z2,λa7 p7=>?_⟩;have s7:aE X6 (upd X6 a7 (.tup [.int 5,.int 0])):=ai p7;have q7:upd X6 a7 (.tup [.int 5,.int 0]) a7=Ya (.tup [.int 5,.int 0]):=ag;generalize upd X6 a7 (.tup [.int 5,.int 0])=X7 at s7 q7;have q1:=s7 _ _ q1;have q2:=s7 _ _ q2;have q3:=s7 _ _ q3;have q4:=s7 _ _ q4;have q5:=s7 _ _ q5;have q6:=s7 _ _ q6;refine⟨z2,λa8 p8=>?_⟩;have s8:aE X7 (upd X7 a8 (.tup [.int 0,.int 5])):=ai p8;have q8:upd X7 a8 (.tup [.int 0,.int 5]) a8=Ya (.tup [.int 0,.int 5]):=ag;generalize upd X7 a8 (.tup [.int 0,.int 5])=X8 at s8 q8;have q1:=s8 _ _ q1;have q2:=s8 _ _ q2;have q3:=s8 _ _ q3;have q4:=s8 _ _ q4;have q5:=s8 _ _ q5;have q6:=s8 _ _ q6;have q7:=s8 _ _ q7;refine⟨z2,λa9 p9=>?_⟩;have s9:aE X8 (upd X8 a9 (.tup [.int 6,.int 0])):=ai p9;have q9:upd X8 a9 (.tup [.int 6,.int 0]) a9=Ya (.tup [.int 6,.int 0]):=ag;generalize upd X8 a9 (.tup [.int 6,.int 0])=X9 at s9 q9;have q1:=s9 _ _ q1;have q2:=s9 _ _ q2;have q3:=s9 _ _ q3;have q4:=s9 _ _ q4;have q5:=s9 _ _ q5;have q6:=s9 _ _ q6;have q7:=s9 _ _ q7;have q8:=s9 _ _ q8;refine⟨z2,λE8 p10=>?_⟩;have E9:aE X9 (upd X9 E8 (.tup [.int 0,.int 7])):=ai p10;have Fb:upd X9 E8 (.tup [.int 0,.int 7]) E8=Ya (.tup [.int 0,.int 7]):=ag;generalize upd X9 E8 (.tup [.int 0,.int 7])=NV at E9 Fb;have q1:=E9 _ _ q1;have q2:=E9 _ _ q2;have q3:=E9 _ _ q3;have q4:=E9 _ _ q4;have q5:=E9 _ _ q5;have q6:=E9 _ _ q6;have q7:=E9 _ _ q7;have q8:=E9 _ _ q8;have q9:=E9 _ _ q9;refine⟨z2,λFc p11=>?_⟩;have Cr:aE NV (upd NV Fc (.tup [.int 1,.int 4])):=ai p11;have Hi:upd NV Fc (.tup [.int 1,.int 4]) Fc=Ya (.tup [.int 1,.int 4]):=ag;generalize upd NV Fc (.tup [.int 1,.int 4])=NW at Cr Hi;have q1:=Cr _ _ q1;have q2:=Cr _ _ q2;have q3:=Cr _ _ q3;have q4:=Cr _ _ q4;have q5:=Cr _ _ q5;have q6:=Cr _ _ q6;have q7:=Cr _ _ q7;have q8:=Cr _ _ q8;have q9:=Cr _ _ q9;have Fb:=Cr _ _ Fb;refine⟨z2,λz6 p12=>?_⟩;have wj:aE NW (upd NW z6 (.tup [.int 5,.int 1])):=ai p12;have Kg:upd NW z6 (.tup [.int 5,.int 1]) z6=Ya (.tup [.int 5,.int 1]):=ag;generalize upd NW z6 (.tup [.int 5,.int 1])=NX at wj Kg;have q1:=wj _ _ q1;have q2:=wj _ _ q2;have q3:=wj _ _ q3;have q4:=wj _ _ q4;have q5:=wj _ _ q5;have q6:=wj _ _ q6;have q7:=wj _ _ q7;have q8:=wj _ _ q8;have q9:=wj _ _ q9;have Fb:=wj _ _ Fb;have Hi:=wj _ _ Hi;refine⟨z2,λFd p13=>?_⟩;have qf:aE NX (upd NX Fd (.tup [.int 8,.int 0])):=ai p13;have Nk:upd NX Fd (.tup [.int 8,.int 0]) Fd=Ya (.tup [.int 8,.int 0]):=ag;generalize upd NX Fd (.tup [.int 8,.int 0])=NY at qf Nk;have q1:=qf _ _ q1;have q2:=qf _ _ q2;have q3:=qf _ _ q3;have q4:=qf _ _ q4;have q5:=qf _ _ q5;have q6:=qf _ _ q6;have q7:=qf _ _ q7;have q8:=qf _ _ q8;have q9:=qf _ _ q9;have Fb:=qf _ _ Fb;have Hi:=qf _ _ Hi;have Kg:=qf _ _ Kg;refine⟨by show 13<=Uu;decide,λL pL=>?_⟩;have sL:aE NY (upd NY L (.lst [.ref a1,.ref a2,.ref a3,.ref a4,.ref a5,.ref a6,.ref a7,.ref a8,.ref a9,.ref E8,.ref Fc,.ref z6,.ref Fd])):=ai pL;have qL:upd NY L (.lst [.ref a1,.ref a2,.ref a3,.ref a4,.ref a5,.ref a6,.ref a7,.ref a8,.ref a9,.ref E8,.ref Fc,.ref z6,.ref Fd]) L=Ya (.lst [.ref a1,.ref a2,.ref a3,.ref a4,.ref a5,.ref a6,.ref a7,.ref a8,.ref a9,.ref E8,.ref Fc,.ref z6,.ref Fd]):=ag;generalize upd NY L (.lst [.ref a1,.ref a2,.ref a3,.ref a4,.ref a5,.ref a6,.ref a7,.ref a8,.ref a9,.ref E8,.ref Fc,.ref z6,.ref Fd])=X at sL qL;have q1:=sL _ _ q1;have q2:=sL _ _ q2;have q3:=sL _ _ q3;have q4:=sL _ _ q4;have q5:=sL _ _ q5;have q6:=sL _ _ q6;have q7:=sL _ _ q7;have q8:=sL _ _ q8;have q9:=sL _ _ q9;have Fb:=sL _ _ Fb;have Hi:=sL _ _ Hi;have Kg:=sL _ _ Kg;have Nk:=sL _ _ Nk;have sX:aE H X:=s1.trans (s2.trans (s3.trans (s4.trans (s5.trans (s6.trans (s7.trans (s8.trans (s9.trans (E9.trans (Cr.trans (wj.trans (qf.trans (sL)))))))))))));have edge:∀j,j<13->∃(aj:Um) (t b:Nat),[V.ref a1,.ref a2,.ref a3,.ref a4,.ref a5,.ref a6,.ref a7,.ref a8,.ref a9,.ref E8,.ref Fc,.ref z6,.ref Fd][j]?=Ya (.ref aj)/\X aj=Ya (.tup [.int (t:Nat),.int (b:Nat)])/\aI.EV t b:=λj hj=>by
  match j,hj with
  |0,_=>exact⟨a1,12,0,rfl,q1,by decide,by decide⟩
  |1,_=>exact⟨a2,13,0,rfl,q2,by decide,by decide⟩
  |2,_=>exact⟨a3,0,13,rfl,q3,by decide,by decide⟩
  |3,_=>exact⟨a4,3,3,rfl,q4,by decide,by decide⟩
  |4,_=>exact⟨a5,4,3,rfl,q5,by decide,by decide⟩
  |5,_=>exact⟨a6,3,4,rfl,q6,by decide,by decide⟩
  |6,_=>exact⟨a7,5,0,rfl,q7,by decide,by decide⟩
  |7,_=>exact⟨a8,0,5,rfl,q8,by decide,by decide⟩
  |8,_=>exact⟨a9,6,0,rfl,q9,by decide,by decide⟩
  |9,_=>exact⟨E8,0,7,rfl,Fb,by decide,by decide⟩
  |10,_=>exact⟨Fc,1,4,rfl,Hi,by decide,by decide⟩
  |11,_=>exact⟨z6,5,1,rfl,Kg,by decide,by decide⟩
  |12,_=>exact⟨Fd,8,0,rfl,Nk,by decide,by decide⟩
 clear q1 q2 q3 q4 q5 q6 q7 q8 q9 Fb Hi Kg Nk;refine⟨_,rfl,a,ns,0,rfl,sX.seq hS,λc0=>?_⟩;refine⟨_,_,rfl,rfl,⟨by decide,by decide⟩,?_⟩;dsimp only;generalize c0/21=cell;by_cases hc:cell%8=3
 .refine⟨_,rfl,_,_,rfl,rfl,(by show(0:Int)<8;decide),rfl,_,rfl,dH (Ul (congrArg V.int hc)) ?_⟩;have e0:=QD (cell/8) (show(13:Int)≠0 by decide);have e1:=QE (cell/8) (show(0:Int)<13 by decide);obtain⟨j,hj⟩:∃j:Nat,cell/8%13=(j:Nat):=⟨(cell/8%13).toNat,by omega⟩
  obtain⟨aj,t,b,ex,hX,ok⟩:=edge j (by omega);refine⟨_,rfl,_,rfl,_,_,rfl,rfl,⟨by decide,by decide⟩,_,rfl,L,_,rfl,.inl (aZ.of qL),_,_,rfl,rfl,(by show(0:Int)<13;decide),?_⟩;refine⟨L,_,_,_,rfl,rfl,aZ.of qL,(by rw[show cell/8%(([V.ref a1,.ref a2,.ref a3,.ref a4,.ref a5,.ref a6,.ref a7,.ref a8,.ref a9,.ref E8,.ref Fc,.ref z6,.ref Fd].length:Nat):Int)=(j:Nat)from hj];exact hU (j:=j) ex),?_⟩;refine⟨_,rfl,aj,_,_,_,rfl,rfl,br.of hX,hU (j:=0) rfl,_,rfl,aj,_,_,_,rfl,rfl,br.of hX,hU (j:=1) rfl,?_⟩;refine⟨_,rfl,_,_,rfl,rfl,⟨by decide,by decide⟩,_,_,rfl,rfl,⟨by decide,by decide,by decide⟩,_,_,rfl,rfl,(by show(0:Int)<10 ^ 30;decide),?_⟩;exact⟨t,b,_,rfl,ok,QD _ (by decide),QE _ (by decide),λH' s'=>k _⟩
 refine⟨_,rfl,_,_,rfl,rfl,(by show(0:Int)<8;decide),rfl,_,rfl,cY (Up (λz=>hc (by injection z))) ?_⟩;refine⟨_,rfl,a,ns,20,rfl,sX.seq hS,hlen,by decide,λn t l1 l2 ms os H1 hn sH ht h1 W h2 WO _ _ _=>?_⟩;refine⟨t,_,rfl,br.of ht,rfl,_,_,rfl,_,_,rfl,rfl,?_⟩;have sX1:=sX.trans sH;refine⟨_,rfl,a,ns,0,rfl,sX1.seq hS,λc1=>?_⟩;refine⟨_,_,rfl,rfl,⟨by decide,by decide⟩,_,_,rfl,rfl,⟨by decide,by decide,by decide⟩,_,_,rfl,rfl,(by show(0:Int)<10 ^ 30;decide),_,_,rfl,rfl,?_⟩;dsimp only;generalize c1/21%(10 ^ (30:Int).toNat:Int)-2=number;refine⟨_,rfl,_,rfl,l1,l2,n,ms,os,rfl,h1,W,h2,WO,λlk H2 s2 tk=>⟨lk,_,rfl,tk,by have:=aI.uo n ms os (2*n);omega,λH3 s3=>?_⟩⟩;have qf:=s2.trans s3;have h1:=qf _ _ h1;have h2:=qf _ _ h2;refine⟨_,rfl,_,rfl,l1,l2,n,ms,os,rfl,h1,W,h2,WO,λH4 s4=>?_⟩;have h1:=s4 _ _ h1;have h2:=s4 _ _ h2;have vW:aI.both ((cy n ms os (2*n)).map (·.1))=true↔¬aP n ms os:=by unfold aP;cases aI.both ((cy n ms os (2*n)).map (·.1)) <;> decide
 generalize aI.both ((cy n ms os (2*n)).map (·.1))=mx at vW;have base:∀fr:Bool,(fr=true↔sP n ms os)->∃(L' Ng Nh:Um) (n':Nat) (fZ gN:List Nat) (E7 wI:Int) (GZ Ni:Bool),([Ya (.ref a),Ya (.ref L),Ya (.int cell),none,Ya (.ref l1),Ya (.ref l2),Ya (.int number),Ya (.bl mx),Ya (.int (aC n ms os:Nat)),Ya (.bl fr),none,none,none]:L2.St)=[Ya (.ref a),Ya (.ref L'),Ya (.int E7),none,Ya (.ref Ng),Ya (.ref Nh),Ya (.int wI),Ya (.bl GZ),Ya (.int (aC n' fZ gN:Nat)),Ya (.bl Ni),none,none,none]/\H4 Ng=Ya (.lst (nV fZ))/\ak n' fZ/\H4 Nh=Ya (.lst (nV gN))/\ak n' gN/\n'<=20/\(GZ=true↔¬aP n' fZ gN)/\(Ni=true↔sP n' fZ gN)/\Q=Q:=λfr hf=>⟨L,l1,l2,n,ms,os,cell,number,mx,fr,rfl,h1,W,h2,WO,hn,vW,hf,rfl⟩
 refine⟨_,rfl,_,_,rfl,rfl,_,rfl,?_⟩;by_cases z6:12<aC n ms os
 .refine dH (Ul (by omega)) ?_;exact base true ⟨λ_=>.inl z6,λ_=>rfl⟩
 refine cY (Up (by omega)) ⟨_,rfl,_,_,rfl,rfl,_,rfl,?_⟩;by_cases a6:6<aC n ms os
 .refine dH (Ul (by omega)) ⟨_,rfl,?_⟩;exact base mx ⟨λz=>.inr ⟨vW.mp z,a6⟩,λz=>vW.mpr (z.resolve_left z6).1⟩
 refine cY (Up (by omega)) ?_;exact base false ⟨λz=>(by cases z),λz=>Us (z.resolve_left z6).2 a6⟩
end
theorem us0{R:List Uj->Prop}(h:∀_:Unit,R [])(D:List Uj)(e:D.length=0):R D:=(Qk.mp e)▸h ()
theorem us1{R:List Uj->Prop}(h:∀x0:Uj,R [x0])(D:List Uj)(e:D.length=1):R D:=by
 obtain⟨a,r,rfl⟩:=Qm e;exact us0 (R:=λr=>R (a::r)) (λ_=>h a) r (Nat.succ.inj e)
theorem us2{R:List Uj->Prop}(h:∀x0 x1:Uj,R [x0,x1])(D:List Uj)(e:D.length=2):R D:=by
 obtain⟨a,r,rfl⟩:=Qm e;exact us1 (R:=λr=>R (a::r)) (h a) r (Nat.succ.inj e)
theorem us3{R:List Uj->Prop}(h:∀x0 x1 x2:Uj,R [x0,x1,x2])(D:List Uj)(e:D.length=3):R D:=by
 obtain⟨a,r,rfl⟩:=Qm e;exact us2 (R:=λr=>R (a::r)) (h a) r (Nat.succ.inj e)
theorem us4{R:List Uj->Prop}(h:∀x0 x1 x2 x3:Uj,R [x0,x1,x2,x3])(D:List Uj)(e:D.length=4):R D:=by
 obtain⟨a,r,rfl⟩:=Qm e;exact us3 (R:=λr=>R (a::r)) (h a) r (Nat.succ.inj e)
theorem Fv(x:UI)(st:Vp)(V:UI){K:OJ}{h:UH}{mg:UI->Option Uj}{f:Um}{od an:Option Um}{sl:Array (Option Uj)}{oc kV Z J U ct:Uj}(X:K.In h)(G:h.Ns UT mg)(a:SI K UT x=Ya (Ya (.ref f)):=by k_is)(l:K.lookup f=Ya ⟨oc,od,.func (PV x x (dg st) (cp st) (aD st) .none kV Z J an U ct),sl⟩:=by k_is)(c:Q9 K U x=true:=by k_is)(k:Q7 K (.ref f)=true:=by k_is)(hb:∀(kV doc J:Uj) (an:Option Um) (D ct:Uj) (x0:Uj),Vv (PV x x (dg st) (cp st) (aD st) .none kV doc J an D ct) ⟨[x0],[]⟩=pure (R6 [V] [x0]):=by intros;rfl):Fn K mg x st [V] f (PV x x (dg st) (cp st) (aD st) .none kV Z J an U ct):=
 Fn.mk' (u0 (st:=st) l c k) (λkV doc J an D ct O hl=>us1 (R:=λO=>Vv _ ⟨O,[]⟩=pure (R6 _ O)) (hb kV doc J an D ct) O hl) (Qi X G a)
theorem pU(x:UI)(st:Vp)(V Z:UI){K:OJ}{h:UH}{mg:UI->Option Uj}{f:Um}{od an:Option Um}{sl:Array (Option Uj)}{oc kV dc J U ct:Uj}(X:K.In h)(G:h.Ns UT mg)(a:SI K UT x=Ya (Ya (.ref f)):=by k_is)(l:K.lookup f=Ya ⟨oc,od,.func (PV x x (dg st) (cp st) (aD st) .none kV dc J an U ct),sl⟩:=by k_is)(c:Q9 K U x=true:=by k_is)(k:Q7 K (.ref f)=true:=by k_is)(hb:∀(kV doc J:Uj) (an:Option Um) (D ct:Uj) (x0 x1:Uj),Vv (PV x x (dg st) (cp st) (aD st) .none kV doc J an D ct) ⟨[x0,x1],[]⟩=pure (R6 [V,Z] [x0,x1]):=by intros;rfl):Fn K mg x st [V,Z] f (PV x x (dg st) (cp st) (aD st) .none kV dc J an U ct):=
 Fn.mk' (u0 (st:=st) l c k) (λkV doc J an D ct O hl=>us2 (R:=λO=>Vv _ ⟨O,[]⟩=pure (R6 _ O)) (hb kV doc J an D ct) O hl) (Qi X G a)
theorem Ic(x:UI)(st:Vp)(V Z p2:UI){K:OJ}{h:UH}{mg:UI->Option Uj}{f:Um}{od an:Option Um}{sl:Array (Option Uj)}{oc kV dc J U ct:Uj}(X:K.In h)(G:h.Ns UT mg)(a:SI K UT x=Ya (Ya (.ref f)):=by k_is)(l:K.lookup f=Ya ⟨oc,od,.func (PV x x (dg st) (cp st) (aD st) .none kV dc J an U ct),sl⟩:=by k_is)(c:Q9 K U x=true:=by k_is)(k:Q7 K (.ref f)=true:=by k_is)(hb:∀(kV doc J:Uj) (an:Option Um) (D ct:Uj) (x0 x1 x2:Uj),Vv (PV x x (dg st) (cp st) (aD st) .none kV doc J an D ct) ⟨[x0,x1,x2],[]⟩=pure (R6 [V,Z,p2] [x0,x1,x2]):=by intros;rfl):Fn K mg x st [V,Z,p2] f (PV x x (dg st) (cp st) (aD st) .none kV dc J an U ct):=
 Fn.mk' (u0 (st:=st) l c k) (λkV doc J an D ct O hl=>us3 (R:=λO=>Vv _ ⟨O,[]⟩=pure (R6 _ O)) (hb kV doc J an D ct) O hl) (Qi X G a)
theorem fn4(x:UI)(st:Vp)(V Z p2 p3:UI){K:OJ}{h:UH}{mg:UI->Option Uj}{f:Um}{od an:Option Um}{sl:Array (Option Uj)}{oc kV dc J U ct:Uj}(X:K.In h)(G:h.Ns UT mg)(a:SI K UT x=Ya (Ya (.ref f)):=by k_is)(l:K.lookup f=Ya ⟨oc,od,.func (PV x x (dg st) (cp st) (aD st) .none kV dc J an U ct),sl⟩:=by k_is)(c:Q9 K U x=true:=by k_is)(k:Q7 K (.ref f)=true:=by k_is)(hb:∀(kV doc J:Uj) (an:Option Um) (D ct:Uj) (x0 x1 x2 x3:Uj),Vv (PV x x (dg st) (cp st) (aD st) .none kV doc J an D ct) ⟨[x0,x1,x2,x3],[]⟩=pure (R6 [V,Z,p2,p3] [x0,x1,x2,x3]):=by intros;rfl):Fn K mg x st [V,Z,p2,p3] f (PV x x (dg st) (cp st) (aD st) .none kV dc J an U ct):=
 Fn.mk' (u0 (st:=st) l c k) (λkV doc J an D ct O hl=>us4 (R:=λO=>Vv _ ⟨O,[]⟩=pure (R6 _ O)) (hb kV doc J an D ct) O hl) (Qi X G a)
theorem walk{l:Tv}{q:Ux}{loose:List UI}{O:(UI->Option Uj)->UH->Prop}{G:UA->UH->Prop}{d:DefRec}{K:Params->OJ}(U:l.most=Ya 63)(D:d.params.defaults=[])
  (V:∀(w:UA) (h:UH),G w h->(K w.params).In h)
  (F:∀(w:UA) (mg:UI->Option Uj) (fa:Um) (h:UH),(K w.params).In h->h.Ns UT mg->mg d.name=Ya (.ref fa) ->
   ∃J:Uz,(∀(s:Uq) (u:Uj),Xv s J ⟨[u],[]⟩ [("script",u)])/\∀base:UH,(K w.params).In base->base.Ns UT mg->aO l.prog w (K w.params) mg base dq 18 fa J ["script"] (C8 (K w.params))) :
  TU q loose O G l.row.toRowW d [] (λf Z=>PySem.call f Z):=
 L2.Am (n:=63) (k:=18) (x:="script") (CX:=λ_=>dq) (sp:=λw=>C8 (K w.params)) U (by decide) D ⟨rfl,by decide,by decide,rfl⟩ V F (λ_ _ a ns hl _ hS=>⟨a,ns,rfl,hS,hl,λ_=>rfl⟩) λ_ _ _ _ _ z=>z
end Law
namespace PySem.W.Fast
def tw9142436765139408109:=0
def tw1703542987359354925:=0
def tw4322856206173874985:=0
def tw15671723665604410840:=0
def tw10341599479477764520:=0
def tw18421579146752509071:=0
def tw10153403769515388212:=0
def tw8154990046387317674:=0
def tw12754587506670985164:=0
def tw14357421831083511335:=0
def tw13527911823522950072:=0
def tw5113435187556129626:=0
def tw18344958282987521074:=0
def tw1875342772217290119:=0
def tw13613573562943160605:=0
def tw17156089528957217715:=0
def tw17636032207667491917:=0
def tw4292650712625650134:=0
def tw16561460126151809897:=0
def tw6930071017483413988:=0
def tw7589191520322718513:=0
def tw1713201773695872421:=0
def tw11862975327696545630:=0
def tw1337145381922206256:=0
def tw3524289300983002968:=0
def tw7440923232269898933:=0
def tw4767973362969266869:=0
def tw11208445329222268419:=0
def tw14763211329217490637:=0
def tw12036418240637209687:=0
def tw10834579700628110160:=0
def tw6347356008503835753:=0
def tw2008252636392166627:=0
def tw1879902262025793304:=0
def tw4773309167417640743:=0
def tw1003886188915182001:=0
def tw12910616882437460931:=0
def tw16195149150491768090:=0
def tw5196936697566823078:=0
def tw7086333297717781721:=0
def tw10768015739143356358:=0
def tw11349201810702596474:=0
def tw16555067683045791899:=0
def tw5657051759309232044:=0
def tw1001238154846767501:=0
def tw8728110557641949088:=0
def tw343861576800085421:=0
def tw7360471377210317031:=0
def tw4359747289729454628:=0
def tw1995546054561557093:=0
def tw14960115329705059455:=0
def tw7282215313509512179:=0
def tw6637578197905127704:=0
def tw14466732563870914892:=0
def tw219058302016402054:=0
def tw2680148997907309736:=0
def tw4245500815340577080:=0
def tw10239697577947277834:=0
def tw6283175620533967916:=0
def tw2490677673427291134:=0
def tw7731121664882780215:=0
def tw5381378008035334169:=0
def tw12139379187234167905:=0
def tw5082216412723184933:=0
def tw15617168880723006876:=0
def tw11132434179840725864:=0
def tw17404953266323489861:=0
def tw6004598650891139786:=0
def tw13422621377884623511:=0
def tw1295990235159757492:=0
def tw12702523789555817095:=0
def tw9353613480020737392:=0
def tw18110750993677806005:=0
def tw4212453890294295384:=0
def tw13232791705261504254:=0
def tw17686360519409726364:=0
def tw12071814736554170886:=0
def tw12294448447390237228:=0
def tw10319894126940234061:=0
def tw16090120282789628422:=0
def tw587538877479809926:=0
def tw6008351717666811542:=0
def tw8400088312362083563:=0
def tw17839911606446975492:=0
def tw10153739404925975347:=0
def tw4163220453548832672:=0
def tw273898502968522514:=0
def tw14175749765035212100:=0
def tw10179222879610448049:=0
def tw12117847513059443398:=0
def tw12318286370666313057:=0
def tw18413115477202968821:=0
def tw1636593404400888809:=0
def tw6663289178901459018:=0
def tw3188838032704001176:=0
def tw13423501273690267071:=0
def tw11209320762769218678:=0
def tw14136653911958810923:=0
def tw13595403096819501812:=0
def tw17660109908719716255:=0
def tw8627092123539827488:=0
def tw9301405750672199673:=0
def tw11199588975438608493:=0
def tw15533372173052636017:=0
def tw9793970894032860920:=0
def tw18361740200000649980:=0
def tw17515510690378103608:=0
def tw5879568767413836162:=0
def tw17757851764785381545:=0
def tw2020033481027277470:=0
def tw17677381562807633674:=0
def tw11525359234677367659:=0
def tw7811309066773333601:=0
def tw16744188670862093228:=0
def tw17275071958731196474:=0
def tw6088322465508036751:=0
def tw7310854572879168306:=0
def tw10256440291513078457:=0
def tw8597646730365287616:=0
def tw12945956689423472291:=0
def tw11518721254106061501:=0
def tw2467683795507184066:=0
def tw2269813332187666608:=0
def tw15288501310659190785:=0
def tw10469492599445918865:=0
def tw17741399062329123179:=0
def tw11189987605497948659:=0
def tw6803915002941145157:=0
def tw10889613595894920829:=0
def tw5701457115538865975:=0
def tw11329941827173854220:=0
def tw13142945586316197894:=0
def tw18063069381387485067:=0
def tw9582322731793214726:=0
def tw4973803502390098237:=0
def tw1936299551861818969:=0
def tw15255580654962675782:=0
def tw11915572950361626009:=0
def tw2528182037245783748:=0
def tw17914932814992559361:=0
def tw6912479173254571828:=0
def tw13000366196544791785:=0
def tw11218382169387027784:=0
def tw33203960225844947:=0
def tw901106422802222166:=0
def tw7335974736743439638:=0
def tw14376948255000427000:=0
def tw17067446921980685368:=0
def tw6833695586572044185:=0
def tw14433806229984055901:=0
def tw10259744904127326876:=0
def tw17961813210659132818:=0
def tw2641673378116242097:=0
def tw13362699515278223088:=0
def tw18043967855504217273:=0
def tw16907380154986817004:=0
def tw1667658697959992599:=0
def tw4380116749057015023:=0
def tw5327936315009768934:=0
def tw17501820084083260849:=0
def tw5452166012911720251:=0
def tw11608722149107935489:=0
def tw11512123657526834548:=0
def tw3403243343460423832:=0
def tw12401972730942769279:=0
def tw3158265582485939624:=0
def tw754642379475153862:=0
def tw12288455047736495776:=0
def tw14792779806327950742:=0
def tw2577321545751200044:=0
def tw17157766052932980949:=0
def tw11800467687141970374:=0
def tw18069994573641011386:=0
def tw6769766151891404600:=0
def tw1153088777133066374:=0
def tw17424332176827228955:=0
def tw14286934797076825279:=0
def tw6433350518877030740:=0
def tw7507804893919125594:=0
def tw9293204030372357400:=0
def tw12577039759276161185:=0
def tw9187850025952838985:=0
def tw17845337602815722602:=0
def tw2309884395464751410:=0
def tw10870261250513978985:=0
def tw1458269263810314567:=0
def tw6756414919240619372:=0
def tw14881621637834075678:=0
def tw8680338146271464938:=0
def tw16033175033903181310:=0
def tw7822386561696644627:=0
def tw4228817034371511115:=0
def tw12142717187518313679:=0
def tw16400074544405936107:=0
def tw3118617549823419212:=0
def tw7397182771926550570:=0
def tw10312519810686387712:=0
def tw691364349229348430:=0
def tw3198268672839324970:=0
def tw12177971982353698816:=0
def tw3293490839855075093:=0
def tw1589327268913632958:=0
def tw7290271531322615928:=0
def tw5016983423621417161:=0
def tw3887102069144990973:=0
def tw11608712898251736032:=0
def tw5456209125949235362:=0
def tw3038923945132270091:=0
def tw8657769087476137551:=0
def tw8611972979604413354:=0
def tw2230178528487629570:=0
def tw10390569771439763370:=0
def tw11907691667702659968:=0
def tw43052509248949306:=0
def tw10184158745304136668:=0
def tw5003882363596523997:=0
def tw16388183043223136035:=0
def tw16195336763401023929:=0
def tw7384528419718968120:=0
def tw12402923614392180069:=0
def tw84161866962869586:=0
def tw1854898082374704620:=0
def tw8468838358710609323:=0
def tw10920855196371216757:=0
def tw11575435569240748345:=0
def tw5740948410769665031:=0
def tw4434972041562734048:=0
def tw7702971366645898676:=0
def tw835891880296727342:=0
def tw8022557446563982589:=0
def tw16334942620613148909:=0
def tw12733952924581099224:=0
def tw12336867050339866720:=0
def tw13572485750435347459:=0
def tw2924147260077044677:=0
def tw8995409862639192303:=0
def tw12041213558247362590:=0
def tw11266159239591904434:=0
def tw10097987791803994888:=0
def tw14011308818510458762:=0
def tw10059855926791337609:=0
def tw15009299011298481070:=0
def tw15038839317014395737:=0
def tw7398383939784510317:=0
def tw1603399248848926457:=0
def tw7815163466525231661:=0
def tw5978996712126557303:=0
def tw8754665223845074621:=0
def tw15005423004890398791:=0
def tw17733668979144062834:=0
def tw7553005453437748579:=0
def tw8661682729213055105:=0
def tw7853974281088391291:=0
def tw13565494233064046625:=0
def tw7062535961440426883:=0
def tw2019340664144046024:=0
def tw2674994797852875343:=0
def tw7094699322630765511:=0
def tw7292902777865130422:=0
def tw15890389899492497185:=0
def tw12932411235245122680:=0
def tw3736778936084367423:=0
def tw17105079597303885997:=0
def tw11201621858558224101:=0
def tw694933701795128878:=0
def tw4032406399499836384:=0
def tw6482012684588615728:=0
def tw15798555060305764470:=0
def tw7244290022607677601:=0
def tw906582120049786473:=0
def tw7080314456524030843:=0
def tw2570965164328641259:=0
def tw17081227078760269504:=0
def tw7436893012452131275:=0
def tw5573526881862875471:=0
def tw8165268215798287625:=0
def tw392354852430243596:=0
def tw4687047463203495456:=0
def tw517038386632541096:=0
def tw15818435941303888659:=0
def tw11638220139758077887:=0
def tw6372723268090297693:=0
def tw15609159854722354897:=0
def tw3265859834853277062:=0
def tw15945523213630976417:=0
def tw15010891641484129781:=0
def tw12684148860434011409:=0
def tw18111403350794928618:=0
def tw2260764355384056330:=0
def tw12712289487898250838:=0
def tw16710515075737637218:=0
def tw15486956722485094631:=0
def tw18230581477915667446:=0
def tw5785267715390926930:=0
def tw17125791777407261428:=0
def tw9595044928408111280:=0
def tw7770699769244050049:=0
def tw6470687753311370157:=0
def tw11897162228323634588:=0
def tw17917470952807691076:=0
def tw14469639673393899147:=0
def tw3156867719093631311:=0
def tw842957092334494027:=0
def tw539616613920710736:=0
def tw15012008699024007807:=0
def tw17178966126182211395:=0
def tw8485440125516082933:=0
def tw804031341190531000:=0
def tw14953036119488410673:=0
def tw6884906991885289193:=0
def tw14863964700165072684:=0
def tw10559970648632424675:=0
def tw849134589247015598:=0
def tw15766517822158110801:=0
def tw11830450944383114759:=0
def tw4875393824467367959:=0
def tw16272417739369739493:=0
def tw9007156039591336474:=0
def tw14353877927571767655:=0
def tw5065279958140144472:=0
def tw689843862029474970:=0
def tw10997840806801478838:=0
def tw7724793199738241088:=0
def tw6622701718607351619:=0
def tw1321918425636058797:=0
def tw1592159210831223109:=0
def tw14621661303379183880:=0
def tw419556229398893087:=0
def tw1172285747688012989:=0
def tw7643338128888716049:=0
def tw9256669396808344202:=0
def tw1902717630019971027:=0
def tw16103580408610123160:=0
def tw4307838496965671774:=0
def tw10187756769292235118:=0
def tw5802343454874744694:=0
def tw4078767956333235154:=0
def tw3001760246824738437:=0
def tw7296629576925077517:=0
def tw2888421874767664482:=0
def tw7943358238767930556:=0
def tw11161382537915094257:=0
def tw14800466307782642814:=0
def tw11706803723765691742:=0
def tw7710228645522738475:=0
def tw785535049020073292:=0
def tw13117794477171463643:=0
def tw16245165404651384615:=0
def tw2144896296613848689:=0
def tw16649586121704034150:=0
def tw937260907702641135:=0
def tw17863448988233097484:=0
def tw8172076465822697189:=0
def tw15651792911876167826:=0
def tw4253492004326809922:=0
def tw7537700484898240120:=0
def tw3245504813695938704:=0
def tw17804685541665770173:=0
def tw6819134435781108894:=0
def tw15820556846066471359:=0
def tw8832630725288175465:=0
def tw3434385075376056626:=0
def tw5739452223026222027:=0
def tw14768162796769360240:=0
def tw11248664396109070468:=0
def tw1891254518095827609:=0
def tw13102103437808402441:=0
def tw13710668311866228038:=0
def tw1261104268922879758:=0
end PySem.W.Fast
open PySem PySem.W PyProof.Rows
set_option maxRecDepth 100000 in
set_option maxHeartbeats 0 in
theorem PySem.Challenge.cw_claspwork_k30_too_far_apart_holds : PySem.Challenge.rw_claspwork_k30_too_far_apart.Holds := by
 w_on;o_law;k_head;(case hw=>w_witness2)
 k_fill
 refine Law.walk (l:=PySem.Challenge.rw_claspwork_k30_too_far_apart) rfl rfl (fun w h Y=>TJ Y) ?F
 case F =>
  intro w mg fa h X G Lw
  have F0:=Law.Fv "staves_in" Law.gR "work" X G
  have F1:=Law.pU "refuse_unlike" Law.d6 "one" "other" X G
  have F2:=Law.Fv "loose_ends" Law.fc "work" X G
  have F3:=Law.pU "fits_work" Law.eO "work" "deed" X G
  have F4:=Law.pU "refuse_misfit" Law.d7 "work" "deed" X G
  have F5:=Law.pU "reclasped" Law.dJ "work" "deed" X G
  have F6:=Law.pU "freed_ends" Law.dU "work" "deed" X G
  have F7:=Law.Ic "clasp_ends" Law.gv "mates" "one" "other" X G
  have F8:=Law.pU "least_pair" Law.gx "work" "deed" X G
  have F9:=Law.pU "threads" Law.fe "one" "other" X G
  have F10:=Law.pU "open_threads" Law.eP "one" "other" X G
  have F11:=Law.Ic "walked_thread" Law.c7 "start" "first" "second" X G
  have F12:=Law.pU "mark_ends" Law.gS "seen" "ends" X G
  have F13:=Law.Fv "least_end" Law.gT "thread" X G
  have F14:=Law.pU "thread_score" Law.eQ "one" "other" X G
  have F15:=Law.pU "apart_by" Law.iP "one" "other" X G
  have F16:=Law.pU "nearer_deeds" Law.cC "one" "other" X G
  have F17:=Law.pU "ends_in" Law.jt "laid" "kind" X G
  have F18:=Law.Fv "splitting_pairs" Law.di "ends" X G
  have F19:=Law.pU "crossing_pairs" Law.dA "bare" "tied" X G
  have F20:=Law.pU "ordered_pair" Law.cW "end" "mate" X G
  have F21:=Law.pU "fewest_many" Law.d9 "one" "other" X G
  have F22:=Law.pU "refuse_uncounted" Law.bL "one" "other" X G
  have F23:=Law.Ic "refuse_beyond" Law.c8 "most" "one" "other" X G
  have F24:=Law.Fv "has_both" Law.fN "laid" X G
  have F25:=Law.Ic "rows_between" Law.cD "one" "other" "counts" X G
  have F26:=Law.Fv "lacked_deeds" Law.dB "thread" X G
  have F27:=Law.Fv "shuffled_rows" Law.c9 "lacks" X G
  have F28:=Law.pU "choices" Law.gF "many" "chosen" X G
  have F29:=Law.Fv "own_rows" Law.fO "lack" X G
  have F30:=Law.pU "works_on_way" Law.dC "one" "other" X G
  have F31:=Law.Ic "row_numbered" Law.dD "one" "other" "number" X G
  have F32:=Law.Ic "ways_on" Law.iD "now" "other" "counts" X G
  have F33:=Law.Ic "number_of_row" Law.de "one" "other" "deeds" X G
  have F34:=Law.pU "_law_cell_at" Law.fy "script" "k" X G
  have F35:=Law.pU "_law_mates" Law.gU "flow" "staves" X G
  have F36:=Law.pU "_law_halves" Law.ir "script" "most" X G
  have F37:=Law.fn4 "_law_walk" Law.fP "one" "other" "end" "known" X G
  have F38:=Law.pU "_law_score" Law.gW "one" "other" X G
  have F39:=Law.pU "_law_apart" Law.i4 "one" "other" X G
  have F40:=Law.pU "_law_lacks" Law.i5 "one" "other" X G
  have F41:=Law.Fv "_law_mixed" Law.i6 "lacks" X G
  have F42:=Law.fn4 "_law_refusal" Law.fz "way" "one" "other" "number" X G
  have F43:=Law.pU "_law_sides" Law.gX "tied" "bare" X G
  have F44:=Law.fn4 "_law_refuses_all" Law.dj "one" "other" "ways" "number" X G
  have F45:=Law.Ic "_law_edge_good" Law.fH "tied" "bare" "cell" X G
  have F46:=Law.Fv "law" Law.EX "script" X G
  cases Lw.symm.trans F46.g
  have Ca:=Qi (n:="BadDeed") X G (by k_is)
  have Fe:=Qi (n:="Unlike") X G (by k_is)
  have Cb:=Qi (n:="TooMany") X G (by k_is)
  have wJ:=Qi (n:="ClaspError") X G (by k_is)
  have Ff:=Qi (n:="NoSuch") X G (by k_is)
  have Fg:=Qi (n:="BadRow") X G (by k_is)
  have wK:=Qi (n:="MOST_APART") X G (by k_is)
  have kj:=Qi (n:="MOST_APART_CROSSING") X G (by k_is)
  have ma:=Qi (n:="MOST_APART_LISTED") X G (by k_is)
  refine'⟨_,fun s v=>.of_eq rfl,fun base _ _=>Law.Ke ⟨PZ X G (by k_is),PZ X G (by k_is),PZ X G (by k_is),PZ X G (by k_is),PZ X G (by k_is),PZ X G (by k_is),PZ X G (by k_is),PZ X G (by k_is),PZ X G (by k_is),PZ X G (by k_is),PZ X G (by k_is)⟩ ⟨Ca,⟨_,_,_,_,(by kernel_rfl),Rn⟩⟩ ⟨Fe,⟨_,_,_,_,(by kernel_rfl),Rn⟩⟩ ⟨Cb,⟨_,_,_,_,(by kernel_rfl),Rn⟩⟩ wJ Ff Fg wK kj ma ⟨(by k_is),(by k_is),(by k_is),(by k_is),(by k_is),(by k_is),(by k_is),(by kernel_rfl)⟩ ⟨(by k_is),(by k_is),(by k_is),(by k_is),(by k_is),(by k_is),(by k_is),(by kernel_rfl)⟩ (by kernel_rfl) (by kernel_rfl) (by kernel_rfl) (by kernel_rfl) (by kernel_rfl) (by kernel_rfl) (by kernel_rfl) (by kernel_rfl) (by kernel_rfl) (by kernel_rfl) (by kernel_rfl) (by kernel_rfl) F0 F1 F2 F3 F4 F5 F6 F7 F8 F9 F10 F11 F12 F13 F14 F15 F16 F17 F18 F19 F20 F21 F22 F23 F24 F25 F26 F27 F28 F29 F30 F31 F32 F33 F34 F35 F36 F37 F38 F39 F40 F41 F42 F43 F44 F45 F46⟩

