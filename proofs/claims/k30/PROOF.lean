import PyProof.Rows.All
import Wide.All
import OpenK.AllK
import Wide.FinOn
import Lean
import PyProof.EqAt
import PyProof.EqKinds
import PyProof.TupleCall
import PyProof.SumWalkG
import KE.KTryMore
import PyProof.NeKinds
import PyProof.ExcAttrAll.ValueError
import KE.KRevIter
import PyProof.ReprRoads
import PyProof.ReprLen
import PyProof.TupleOfSeq
import KE.BitLaws
import PyProof.Rows.SortRuns
import PyProof.Rows.SortShell
import KE.KSortKey
import PyProof.WalkInts
import KE.KSortTup
import PyProof.DictValues
import PyProof.DictItems
import KE.KDictList
import KE.KDictSum
import KE.KIntText
import PyProof.StrLoop
import PyProof.StrWalks
import PyProof.StrCalls2
import PyProof.ConsumeWalk
import PyProof.StrLawsRepr
import PySem.Challenge.RW_claspwork_k30_too_far_apart
set_option genSizeOf false
set_option Elab.async false
set_option linter.all false
set_option maxRecDepth 100000
local macro_rules
 | `(tactic| omega)=>`(tactic| first | lia | omega (config:={}))
open List renaming getElem?_eq_getElem→OG,length_map→OH,getElem?_eq_some_iff→OI,mem_map→OO,mem_of_getElem?→OP,length_append→OQ,getElem?_map→OR,mem_singleton→OS,size_toArray→OT,range→OV,length_range→OW,mem_range→OX,mem_append→OY,mem_append_right→OZ,mem_filter→O0,mem_cons_of_mem→O1,mem_cons_self→O2,map_append→O5,mem_cons→O9,filter_append→Pa,nodup_iff_pairwise_ne→Pc,take_length→Pd,filter_cons_of_pos→Pe,filter_cons_of_neg→Pf,getElem?_append_left→Pg,length_cons→Ph,append_nil→Pj,getElem?_append_right→Pk,length_filter_le→Pm,mem_append_left→Pn,map_cons→Po,map_map→Pp,length_take→Pu,pairwise_map→Px,map_congr_left→PB,nodup_range→PL,append_assoc→PM,length_set→PR,getElem?_eq_none→PU,nodup_append→PY,perm_ext_iff_of_nodup→P0,sum_cons→Qe,range_succ→Qg,length_eq_zero_iff→Qk,getD_eq_getElem?_getD→Ql,exists_cons_of_length_eq_add_one→Qm,length_nil→Qn,filter_nil→Qo,not_mem_nil→Qp,mem_iff_getElem?→Qq,find?_cons→Qr,filter_eq_nil_iff→Qt,filterMap_cons→Qu,getElem?_range→Qv,pairwise_iff_getElem→Qx,nodup_cons→Qy,length_singleton→QA,pairwise_flatMap→QC,filter_congr→QH,flatMap_cons→QI,getD→QK,pairwise_lt_range→QN,mem_flatMap→QR,length_erase_of_mem→QX,ext_getElem?→QY,getElem?_replicate→Q1,flatMap_append→Q3,length_drop→Q4,lookup_cons→Q5,exists_mem_of_length_pos→Q6,getElem?_set_self→Ra,length_pos_of_mem→Rb,filter_map→Rg,sum_append→Rh,getElem?_set_ne→Ro,getElem_mem→Rp,all_eq_true→Rq,getElem_of_mem→Rr,of_mem_zip→Ru,any_cons→Rv,getElem?_drop→Rz,nodup_nil→RF,take_append_drop→RJ,countP_cons→RK,flatMap_nil→RM,filter_cons→RO,map_eq_cons_iff→RQ,filter_eq_self→RV,mem_filterMap→RY,zip_cons_cons→RZ,filter_filter→R3,zip→R6,replicate→R7,getLast?_eq_getElem?→R8,drop_eq_getElem_cons→R9,take_add_one→Sd,length→Sf,pairwise_singleton→Sh,getElem_inj→Sk,mem_flatten→Sn,range_succ_eq_map→Sq,length_replicate→Su,map_nil→Sv,foldl_cons→Sx,pairwise_flatten→SA,mem_erase_of_ne→SK,getLastD_concat→SM,getElem?_of_mem→SN,mem_of_mem_take→SQ,mergeSort_perm→SV,length_flatten→SW,sum_singleton→S8,flatten_cons→Te,map_snd_zip→Tp,range'_succ→Tq,cons_ne_nil→Tr,drop_length→Tt,length_zip→TF,take_succ→TK,all_cons→TR,map_drop→TV,map_id'→T4,map_id→Ue
open PySem.Heap renaming get?_push_of_some→OJ,lt_size→O3,get?_push_size→O6,get?_update_other→Qc,get?_update_self→Qz,size_push→QG,get?_push_ne→RD,size_update→RN,get?_update_ne→RW
open PySem.W renaming Frag→OM,kitOne→Pw,fnOf→PV,mg_none_of→PZ,mg_of→Qi,KatTups→QM,keepIn→Q7,codeIn→Q9,exmOne→RH,methodObj→Sa,cellsFrom_some→So,nsIn→SI,hideAll_get→SS,of_hideAll→SY,callWith_K→S4,excIn→S5,Looks→Ta,hideAll→Tu,OpenLaw→Tv,kia_one→Tx,kIn_of→TJ,WalkO→TU
open Nat renaming le_refl→ON,ne_of_lt→Pb,lt_of_lt_of_le→Pt,le_trans→PD,zero_le→PH,lt_succ_of_lt→Qa,zero_add→Qh,lt_of_le_of_lt→Qs,lt_irrefl→QF,le_of_not_lt→QO,lt_succ_self→QP,max_eq_right→QQ,ne_of_gt→QS,mul_le_mul_right→QU,lt_of_succ_lt→Q0,le_succ→Q2,mul_left_comm→Rk,not_lt_zero→Rx,mul_assoc→RA,add_assoc→RR,add_le_add_left→RU,le_of_eq→R0,min_self→R5,le_of_lt→Sr,le_antisymm→Sw,add_zero→Sy,max_eq_left→Sz,min_eq_left→SD,mul_comm→SE,succ_mul→SG,pow_le_pow_right→SO,mul_le_mul→SR,add_mul→SU,lt_of_le_of_ne→S6,lt_or_gt_of_ne→S7,add_sub_cancel→S9,beq→Td,succ_pos→Tj,min_eq_right→To,le_add_right→Ts,strongRecOn→Tw,le_add_left→Tz,mul_add→TB,one_mul→TC,pow_succ→TZ,sub_zero→T5,max_self→T6,one_pos→Ub,mul_pos→Uc,mul_one→Ud
open Classical renaming byContradiction→OU,choose_spec→QB,axiomOfChoice→Ry,choose→Sl,em→T7
open Bool renaming false_ne_true→O4,false_eq_true→PF,and_eq_true→PX,eq_false_iff→Qj,false_and→Qw,eq_iff_iff→QV,not_true→Rl,and_false→RG,not_eq_true→RP,and_eq_false_iff→SF,true_and→Tb,not_eq_true'→Tc,false_or→TQ,true_or→TY
open PySem.F renaming plainAttrs_list→O7,slot_list_append→Py,type_list_append→Pz,slot_list_extend→PN,type_list_extend→PQ,excBase_ValueError→Rn,args_tuple_add_2→Rt,entry_tuple_add→Rw,slot_tuple_add→RB,slot_dict_update→Se,slot_list_count→Si,type_list_count→Sj
open Int renaming toNat_natCast→Pq,emod_nonneg→QD,emod_lt_of_pos→QE,natCast_nonneg→QT,zero_add→Ri,natCast_mul→Rj,le_refl→RC,toNat→SH,not_lt→SJ,le_trans→Tg,le_of_lt→Ti,natCast_add→TH,mul_one→T8
open Array renaming getElem?_eq_getElem→Qb,length_toList→Qf,forIn_toList→Rc,getElem?_eq_some_iff→Rm,getElem?_toList→RI,perm_iff_toList_perm→RX,toList→Ss,append_assoc→SX,size_map→TL,size_zip→TM
open Option renaming map_eq_some_iff→Qd,isSome_map→QW,map_some→RT,isSome_iff_exists→Sb,getD_none→Tn
open PyProof.Rows renaming callWith_type1→QJ,slot_tuple_getitem→QZ,get?_update_seq→RS,callWith_builtin1→Tf,callWith_kw→TN,lt_int→Ua
open Prod renaming ext→R4,fst→TX
open PySem renaming wpAny_bind→Uh,Value→Uj,Addr→Um,Shared→Uq,wpAny_pure→Ur,sizeLine→Uu,Program→Ux,FuncData→Uz,World→UA,starEach→UC,wpAny_holding→UD,Around→UG,Heap→UH,Str→UI,sizeLine_eq→UJ,wpAny_newObj_type→UK,wpAny_loadPart'→UL,Expr→UM,wpAny_call_entry→UN,wpAny_truthy_bool→UP,compareOp→UQ,bootBuiltins→UR,mainGlobals→UT,wpAny_field→UW,wpAny_mono→UX,sysModules→U0,wpAny_typeNameOfWhole_keyiter→U4,wpAny_dictEntries→U5,Obj→U6,wpAny_standAt→U7,wpAny_eqBool_int→U8,wpAny_pyIter_tuple→U9,wpAny_execs_nil→Va,wpAny_passesOwn→Vb,wpAny_attempt→Vd,wpAny_typeNameOf_keyiter→Vf,wpAny_forIn_list→Vg,wpAny_seqItems→Vh,wpAny_isInstance→Vi,wpAny_Call_Name_kw→Vj,wpAny_setField_rec→Vk,wpAny_specialOf→Vm,codeAny_builtin→Vn,wpAny_newList→Vo,Stmt→Vp,wpAny_rule→Vq,wpAny_execs_cons→Vr,argBest→Vs,binaryOp→Vu,bindArgs→Vv,wpAny_dictEpoch→Vw,assignEach→Vx,sliceBounds→Vy,DictEntry→Vz,wpAny_pyIter_list→VC,codeAny_mono→VD,wpAny_setField→VE,isSubtype_tuple_tuple→VG,entryOfKey→VH,tupleKind→VI,Pos→VJ,behindInMarks→VL,codeAny→VM,storedH→VN,relabel→VO,plainId_quiet→VP,richCompare→VQ,wpAny_letGo→VR,wpAny_updateSeq→VT,Scope→VY,tupleKind_room_in1→VZ,firstArgMember→V1,wpAny_newTuple→V2,wpAny_tryCatch→V4,wpAny_tupleItemsOf→V6,foldedSetIterable→V8,wpAny_comprehension_free→Wb,IsEnum→Wd,swapsWith→Wf,wpAny_Dict_empty→Wg,noFill_tuple_add→Wh,compEnvC→Wi,wpAny_call→Wj,getItem→Wk,wpAny_Assign_Subscript→Wl,richCompare_meets_room→Wn,codeAny_compStart_list→Wq,isInstance→Ws,letOwnedTupleGo→Wy,size_of_entries→Wz,wpAny_isTrue_Compare1→WC,wpAny_notOrdered_dict→WD,wpAny_isOneOf_keyiter→WE,wpAny_loadName_local→WH,subscripted→WI,wpAny_newFunctionEnv→WJ,wpAny_of_eq→WK,codeAny_call_builtin→WN,inplaceOp→WS,callerA→WT,noteFrame→WU,eqIsQuiet→WW,wpAny_loadName_cell→WX,Env→WY,Model→WZ,seq_tuple_add→W0,evalPart_none→W5,evalPart_some→W6,strLen_append→W7,wpAny_setItem_heap→W8,call_meets→Xa,closureFor→Xb,int_text_length_le→Xc,checkCount→Xe,valueAt→Xg,concat_meets→Xh,seqIndex_neg→Xi,wpAny_pyIter_enum→Xj,eqIsQuiet_byValue→Xp,storeName→Xq,IsEnumOut→Xs,joinParts→Xt,keywordEach→Xu,seqIndex_of→Xv,holding→Xy,BindsTo→Xz,builtinsNs→XA,wpAny_Name→XB,NameKind→XC,typeLookup→XD,newTuple→XE,setField→XF,evalEach→XG,IsTupleKey→XN,Tok→XO,CmpOp→XR,standAt→XW,setItem→XX,Keyword→XY,leaving→XZ
open PyProof.Rows renaming wpS_bind→UO,SortSt→UZ,wpS_pure→U2,Keyed→U3,IntsAre→Vc,listUpdate_at→Ve,pairsOf→Vt,wpS_forRange→VF,seqEpoch_at→VS,AllBare→VU,pendingOf→VX,failedOf→V3,args_list_sort→V5,subscriptTail→Wa,reverseSlice'→We,subscriptTail_builtinR→Wo,listItems_at→Wt,plain_sorted→Wu,entry_sorted→Wv,joinParts_cons→WL,FormattedValue_plain→WM,wpS_reverse→WQ,kind_sorted→WR,tuples'→WV,Subscript_→W9,size_push'→Xd,wpS_get→Xl,args_sorted1→Xm,collect_list→Xn,pairsOf_size→Xo,wpS_mono→XH,wpS_modify→XI,sortedHeap→XJ,IsTup→XQ,KskOut→Yb
open PySem.W renaming looks_findIn→Xk,kat_cons→XM,Looks→XS,kat_yes→Ya
open Option renaming some→Yc
def Uk:=@if_neg
def Ul:=@decide_eq_true
def Uo:=@if_pos
def Up:=@decide_eq_false
def Us:=@absurd
def Uw:=@of_decide_eq_true
def Uy:=@decide_eq_true_iff
def US:=@beq_self_eq_true
def U1:=@if_false
def VA:=@decide_eq_false_iff_not
def VW:=@if_true
def Wr:=@dif_pos
namespace L2
open PySem PySem.Spec PyProof.Rows
noncomputable abbrev Key:=Sum Int UI
noncomputable def tP:Key->Uj->Bool
 |.inl k,v=>Value.isInt k v
 |.inr x,v=>Value.isStrOf x v
noncomputable def N3(w:UA):Key->Int
 |.inl k=>hashInt k
 |.inr x=>hashStr w x
theorem bV:∀{k:Key}{v:Uj},tP k v=true->(∃i t,k=Sum.inl i/\v=Value.int i t)\/(∃x t,k=Sum.inr x/\v=Value.str x t)
 |.inl i,v,h=>by
  obtain⟨t,e⟩:=Value.isInt_shape (k:=i) (v:=v) h;exact .inl ⟨i,t,rfl,e⟩
 |.inr x,v,h=>by
  obtain⟨t,e⟩:=Value.isStrOf_shape (x:=x) (v:=v) h;exact .inr ⟨x,t,rfl,e⟩
theorem Bd(i:Int)(t:XO):tP (.inl i) (.int i t)=true:=by simp[tP,Value.isInt]
theorem Be(x:UI)(t:XO):tP (.inr x) (.str x t)=true:=by simp[tP,Value.isStrOf]
theorem HZ(a b:Int):decide ((Sum.inl a:Key)=Sum.inl b)=(a==b):=by
 by_cases e:a=b
 .subst e;simp
 have h:¬(Sum.inl a:Key)=Sum.inl b:=λq=>e (Sum.inl.inj q);rw[Up h];exact(beq_eq_false_iff_ne.mpr e).symm
theorem Ia(a b:UI):decide ((Sum.inr a:Key)=Sum.inr b)=decide (a=b):=by
 by_cases e:a=b
 .subst e;simp
 have h:¬(Sum.inr a:Key)=Sum.inr b:=λq=>e (Sum.inr.inj q);rw[Up h,Up e]
theorem Ib(a:Int)(b:UI):decide ((Sum.inl a:Key)=Sum.inr b)=false:=Up (λq=>nomatch q)
theorem Ic(a:UI)(b:Int):decide ((Sum.inr a:Key)=Sum.inl b)=false:=Up (λq=>nomatch q)
noncomputable def bG(prog:Ux)(w:UA):PySem.KeyKind prog w Key where
 is:=tP
 hash:=N3 w
 inj:=λv a b J G=>by
  rcases bV J with⟨i,t,rfl,rfl⟩|⟨x,t,rfl,rfl⟩
  .rcases bV G with⟨j,u,rfl,e⟩|⟨y,u,rfl,e⟩
   .injection e with e1 _;rw[e1]
   exact nomatch e
  rcases bV G with⟨j,u,rfl,e⟩|⟨y,u,rfl,e⟩
  .exact nomatch e
  injection e with e1 _;rw[e1]
 byValue:=λk v h=>by
  rcases bV h with⟨i,t,rfl,rfl⟩|⟨x,t,rfl,rfl⟩ <;> rfl
 pyHash:=λD h=>by
  rcases bV D with⟨i,t,rfl,rfl⟩|⟨x,t,rfl,rfl⟩
  .exact wpAny_pyHash_int h
  exact wpAny_pyHash_str h
 eqBool:=λO D h=>by
  rcases bV O with⟨i,t,rfl,rfl⟩|⟨x,t,rfl,rfl⟩
  .rcases bV D with⟨j,u,rfl,rfl⟩|⟨y,u,rfl,rfl⟩
   .rw[HZ]at h;exact U8 h
   rw[Ib]at h;exact SeqAt.EqAt.int_str i t y u _ _ _ _ h
  rcases bV D with⟨j,u,rfl,rfl⟩|⟨y,u,rfl,rfl⟩
  .rw[Ic]at h;exact SeqAt.EqAt.str_int x t j u _ _ _ _ h
  rw[Ia]at h;exact wpAny_eqBool_str h
 «strs»:=λk x t v h=>by
  rcases bV h with⟨i,u,rfl,e⟩|⟨y,u,rfl,e⟩
  .exact nomatch e
  injection e with e1 _;subst e1;cases v <;> rfl
theorem wL(prog:Ux)(w:UA)(i:Int)(t:XO):(bG prog w).is (.inl i) (.int i t)=true:=Bd i t
theorem wM(prog:Ux)(w:UA)(x:UI)(t:XO):(bG prog w).is (.inr x) (.str x t)=true:=Be x t
inductive V where
 |g9|bl (b:Bool)|int (i:Int)|str (x:UI)|Ct (b:Array UInt8)|iZ (b:UInt64)|ref (a:Um)|ty (n:String)
 deriving DecidableEq
noncomputable def RelV:V->Uj->Prop
 |.g9,u=>u=Value.none
 |.bl b,u=>u=Value.bool b
 |.int i,u=>∃t,u=Value.int i t
 |.str x,u=>∃t,u=Value.str x t
 |.Ct b,u=>∃t,u=Value.bytes b t
 |.iZ b,u=>∃t,u=Value.float b t
 |.ref a,u=>u=Value.ref a
 |.ty n,u=>u=Value.type n
abbrev Vals:List V->List Uj->Prop:=Paired RelV
theorem Vals.length{xs:List V}{D:List Uj}(r:Vals xs D):xs.length=D.length:=Paired.length r
theorem Vals.get:∀{xs:List V}{D:List Uj}{i:Nat}{x:V},Vals xs D->xs[i]?=Yc x->∃u,D[i]?=Yc u/\RelV x u
 |_,_,_,_,.nil,e=>by simp at e
 |_,_,0,_,.cons r _,e=>by simp at e;subst e;exact⟨_,rfl,r⟩
 |_,_,i+1,x,.cons _ t,e=>by
  obtain⟨u,G,J⟩:=Vals.get (i:=i) (x:=x) t (by simpa using e);exact⟨u,by simpa using G,J⟩
theorem Vals.set{x:V}{u:Uj}(r:RelV x u):∀{xs:List V}{D:List Uj} (i:Nat),Vals xs D->Vals (xs.set i x) (D.set i u)
 |_,_,_,.nil=>.nil
 |_,_,0,.cons _ t=>.cons r t
 |_,_,i+1,.cons q t=>.cons q (Vals.set r i t)
theorem Vals.append:∀{xs D:List V}{G J:List Uj},Vals xs G->Vals D J->Vals (xs++D) (G++J)
 |_,_,_,_,.nil,s=>s
 |_,_,_,_,.cons r t,s=>.cons r (Vals.append t s)
theorem Vals.take:∀{xs:List V}{D:List Uj} (n:Nat),Vals xs D->Vals (xs.take n) (D.take n)
 |_,_,0,_=>.nil
 |_,_,_+1,.nil=>.nil
 |_,_,n+1,.cons r t=>.cons r (Vals.take n t)
theorem Vals.drop:∀{xs:List V}{D:List Uj} (n:Nat),Vals xs D->Vals (xs.drop n) (D.drop n)
 |_,_,0,r=>r
 |_,_,_+1,.nil=>.nil
 |_,_,n+1,.cons _ t=>Vals.drop n t
noncomputable def sQ:Option V->Option Uj->Prop
 |some v,Yc u=>RelV v u
 |none,none=>True
 |_,_=>False
def KV{κ:Type}:List (κ×V)->List (κ×Uj)->Prop:=Paired λ(p:κ×V) (q:κ×Uj)=>p.1=q.1/\RelV p.2 q.2
noncomputable def kV:Key->V
 |.inl i=>.int i
 |.inr x=>.str x
inductive HO where
 |lst (xs:List V)
 |tup (xs:List V)
 |dK (lT:List (Key×V))|dT (lT:List (List Key×V))
 |set (S:Int->Bool) (n:Nat)
 |ins (C dx:Um) (fs:List (UI×V))
 |own (x:Um)
 |xd (fs:List (UI×V))
 |met (f x:Um)
 |He (lo hi:Int)
 |Cu (o:U6) (u:HO)
 |Hf (ps:Array Uj)
 |ext (φ:UH->Prop)
noncomputable abbrev Hp:=Um->Option HO
noncomputable def upd(H:Hp)(a:Um)(o:HO):Hp:=λb=>if b=a then some o else H b
theorem ag{H:Hp}{a:Um}{o:HO}:upd H a o a=Yc o:=by unfold upd;rw[Uo rfl]
theorem aG{H:Hp}{a b:Um}{o:HO}(h:b≠a):upd H a o b=H b:=by unfold upd;rw[Uk h]
theorem Cv{H:Hp}{a b:Um}{o u:HO}(h:H a=Yc o)(h':H b=Yc u)(d:o≠u):a≠b:=by
 intro e;subst e;rw[h]at h';exact d (Option.some.inj h')
theorem aW{H:Hp}{a b:Um}{o:HO}(h:H a=Yc o)(h':H b=none):a≠b:=by
 intro e;subst e;rw[h]at h';cases h'
section
variable (P:Ux)(w:UA)
noncomputable def cQ(H:Hp)(h:UH)(a:Um): HO->Prop
  |.lst xs=>xs.length<=Uu/\∃(its:List Uj) (n:Nat),Vals xs its/\h.get? a=Yc { cls := .type "list", data := .seq its.toArray n }
  |.tup xs=>xs.length<=Uu/\∃its:List Uj,Vals xs its/\XQ h a its.toArray
  |.dK D=>D.length<=Uu/\(a==U0)=false/\∃O,KV D O/\h.DictOf (bG P w) a O
  | .dT D => D.length <= Uu /\ (a == U0)=false /\ ∃ xs : List (List Key × Um × Uj),
      Paired (λ(p:List Key×V) (q:List Key×Um×Uj)=>p.1=q.1/\H q.2.1=Yc (.tup (p.1.map kV))/\RelV p.2 q.2.2) D xs /\
      ∃o es ep,h.get? a=Yc o/\o.ExactDict/\o.data=.dict es ep/\es.toList=xs.map (VH (VI (bG P w)))/\(xs.map (·.1)).Nodup
  |.set S n=>h.SetOf (intKind P w) a S n
  | .ins C J fs => H J=Yc (.own a) /\ fs.length <= 1000 /\ J ≠ a /\ h.get? a=Yc (PySem.W.instObj C J) /\
      ∃G,h.Ns1 J G/\(∀f,sQ (fs.lookup f) (G f))/\PySem.Within G (fs.map (·.1))
  |.own _=>∃o,h.get? a=Yc o
  |.xd fs=>∃G,h.Ns1 a G/\∀f,sQ (fs.lookup f) (G f)
  |.He lo hi=>∃t u v,h.get? a=Yc { cls := .type "range", data := .fields #[.int lo t,.int hi u,.int 1 v] }
  |.Cu o u=>h.get? a=Yc o/\cQ H h a u
  |.Hf ps=>h.get? a=Yc { cls := .none,data := .fields ps }
  |.met f x=>h.get? a=Yc (Sa (.ref f) (.ref x))
  |.ext φ=>φ h/\(∃o,h.get? a=Yc o)/\∀U Z:UH,φ U->(∀o,U.get? a=Yc o->Z.get? a=Yc o)->φ Z
def l7(H:Hp)(h:UH):Prop:=∀a o,H a=Yc o->cQ P w H h a o
end
section
variable {P:Ux}{w:UA}{H H':Hp}{h h':UH}{a:Um}{o:HO}
theorem cQ.lt(x:cQ P w H h a o):a<h.objs.size:=by
 cases o with
 |lst xs=>obtain⟨_,_,_,_,e⟩:=x;exact O3 e
 |tup xs=>obtain⟨_,_,_,p⟩:=x;exact p.lt
 |dK D=>obtain⟨_,_,_,_,o,_,_,e,_⟩:=x;exact O3 e
 |dT D=>obtain⟨_,_,_,_,o,_,_,e,_⟩:=x;exact O3 e
 |set S n=>obtain⟨o,_,_,_,e,_⟩:=x;exact O3 e
 |ins C G fs=>obtain⟨_,_,_,e,_⟩:=x;exact O3 e
 |own y=>obtain⟨_,e⟩:=x;exact O3 e
 |xd fs=>obtain⟨_,⟨_,_,_,e,_⟩,_⟩:=x;exact O3 e
 |He lo J=>obtain⟨_,_,_,e⟩:=x;exact O3 e
 |Cu ob u=>obtain⟨e,_⟩:=x;exact O3 e
 |Hf O=>exact O3 (show h.get? a=Yc _ from x)
 |met f y=>exact O3 (show h.get? a=Yc _ from x)
 |ext φ=>obtain⟨_,⟨_,e⟩,_⟩:=x;exact O3 e
theorem Paired.Fv{α β:Type}{F G:α->β->Prop}:∀{D:List α}{J:List β},Paired F D J->(∀a b,F a b->G a b)->Paired G D J
 |_,_,.nil,_=>.nil
 |_,_,.cons r t,f=>.cons (f _ _ r) (Paired.Fv t f)
theorem cQ.sR(x:cQ P w H h a o)(k:∀b u,(b=a\/H b=Yc (.own a))->h.get? b=Yc u->h'.get? b=Yc u)
  (U:∀b,H b=Yc (.own a)->H' b=Yc (.own a)) (V:∀b xs,H b=Yc (.tup xs)->H' b=Yc (.tup xs)):cQ P w H' h' a o:=by
 induction o with
 |lst xs=>obtain⟨z,its,n,r,e⟩:=x;exact⟨z,its,n,r,k _ _ (.inl rfl) e⟩
 |tup xs=>obtain⟨z,its,r,ob,e,c⟩:=x;exact⟨z,its,r,ob,k _ _ (.inl rfl) e,c⟩
 |dK D=>obtain⟨z,y,Z,r,ob,es,ep,e,c⟩:=x;exact⟨z,y,Z,r,ob,es,ep,k _ _ (.inl rfl) e,c⟩
 |dT D =>
  obtain⟨z,y,xs,r,ob,es,ep,e,c⟩:=x;exact⟨z,y,xs,Paired.Fv r λp q z=>⟨z.1,V _ _ z.2.1,z.2.2⟩,ob,es,ep,k _ _ (.inl rfl) e,c⟩
 |set S n=>obtain⟨ob,es,ep,t,e,c⟩:=x;exact⟨ob,es,ep,t,k _ _ (.inl rfl) e,c⟩
 |ins C dx fs =>
  obtain⟨d,z,ne,e,G,⟨J,es,ep,e2,c⟩,r⟩:=x;exact⟨U _ d,z,ne,k _ _ (.inl rfl) e,G,⟨J,es,ep,k _ _ (.inr d) e2,c⟩,r⟩
 |own y=>obtain⟨ob,e⟩:=x;exact⟨ob,k _ _ (.inl rfl) e⟩
 |xd fs=>obtain⟨G,⟨J,es,ep,e,c⟩,r⟩:=x;exact⟨G,⟨J,es,ep,k _ _ (.inl rfl) e,c⟩,r⟩
 |He lo hi=>obtain⟨t,u,v,e⟩:=x;exact⟨t,u,v,k _ _ (.inl rfl) e⟩
 |Cu ob u ih=>obtain⟨e,q⟩:=x;exact⟨k _ _ (.inl rfl) e,ih q⟩
 |Hf O =>
  have e:h.get? a=Yc { cls:=.none,data:=.fields O }:=x;show h'.get? a=Yc { cls:=.none,data:=.fields O };exact k a _ (.inl rfl) e
 |met f y =>
  have e:h.get? a=Yc (Sa (.ref f) (.ref y)):=x;show h'.get? a=Yc (Sa (.ref f) (.ref y));exact k a _ (.inl rfl) e
 |ext φ=>obtain⟨p,⟨o,e⟩,st⟩:=x;exact⟨st _ _ p λo q=>k _ _ (.inl rfl) q,⟨o,k _ _ (.inl rfl) e⟩,st⟩
theorem l7.lt(x:l7 P w H h)(e:H a=Yc o):a<h.objs.size:=(x a o e).lt
theorem l7.fresh(x:l7 P w H h)(e:h.objs.size<=a):H a=none:=by
 cases q:H a with
 |none=>rfl
 |some u=>exact Us (Pt (x.lt q) e) (QF _)
theorem l7.kept(x:l7 P w H h)(k:∀b u,h.get? b=Yc u->h'.get? b=Yc u):l7 P w H h':=λa o e =>
 (x a o e).sR (λb u _ q=>k b u q) (λ_ q=>q) λ_ _ q=>q
theorem l7.laid(x:l7 P w H h)(k:∀b u,h.get? b=Yc u->h'.get? b=Yc u)(hp:h.objs.size<=a)(D:cQ P w (upd H a o) h' a o):l7 P w (upd H a o) h':=λb u e=>by
 have G:=x.fresh hp;by_cases J:b=a
 .subst J;rw[ag]at e;cases e;exact D
 rw[aG J]at e;exact(x b u e).sR (λc v _ q=>k c v q) (λc q=>by rw[aG (aW q G)];exact q) λc xs q=>by rw[aG (aW q G)];exact q
end
def Rd(H:Hp)(a:Um)(u:HO):Prop:=H a=Yc u\/∃o,H a=Yc (.Cu o u)
theorem Rd.ok{P:Ux}{w:UA}{H:Hp}{h:UH}{a:Um}{u:HO}(r:Rd H a u)(x:l7 P w H h):cQ P w H h a u:=by
 rcases r with r|⟨o,r⟩
 .exact x a u r
 obtain⟨_,q⟩:=x a _ r;exact q
noncomputable def KQ:Option HO->Prop
 |some (.lst _)=>True
 |some (.dK _)=>True
 |some (.dT _)=>True
 |some (.set _ _)=>True
 |some (.ins _ _ _)=>True
 |some (.ext _)=>True
 |_=>False
section
variable {P:Ux}{w:UA}{H:Hp}{h h':UH}{x e:Um}{o':HO}
theorem l7.write(ok:l7 P w H h)(O:KQ (H x))(he:e=x\/H e=Yc (.own x))(k:∀b u,b≠e->h.get? b=Yc u->h'.get? b=Yc u)(Z:∃u,h'.get? e=Yc u)
  (new:cQ P w (upd H x o') h' x o'):l7 P w (upd H x o') h':=λb u q=>by
 have G:∀c y,H c=Yc (.own y)->c≠x:=λc y r z=>by subst z;rw[r]at O;exact O
 have J:∀c xs,H c=Yc (.tup xs)->c≠x:=λc xs r z=>by subst z;rw[r]at O;exact O
 by_cases U:b=x
 .subst U;rw[ag]at q;cases q;exact new
 rw[aG U]at q;by_cases D:b=e
 .have q':H b=Yc (.own x):=by
   rcases he with z|z
   .exact Us (D.trans z) U
   rw[D];exact z
  rw[q]at q';cases q';obtain⟨v,hv⟩:=Z;exact⟨v,by rw[D];exact hv⟩
 refine(ok b u q).sR (λc v V r=>k c v ?_ r) (λc r=>by rw[aG (G c b r)];exact r) λc xs r=>by rw[aG (J c xs r)];exact r
 rcases V with rfl|V
 .exact D
 rintro rfl;rcases he with z|z
 .exact G c b V z
 rw[V]at z;cases z;exact U rfl
end
structure Un(fs ex:List Um) (H H':Hp) (h h':UH):Prop where
 keep:∀b o,h.get? b=Yc o->H b=none->b∉fs->b∉ex->h'.get? b=Yc o
 slot:∀b o,h.get? b=Yc o->H b=none->b∈fs->b∉ex->∃sl,h'.get? b=Yc { o with slots:=sl }
 free:∀b o,h.get? b=Yc o->H b=none->b∉ex->H' b=none
 there:∀b o,h.get? b=Yc o->b∉ex->∃o',h'.get? b=Yc o'
 mq:∀b xs,H b=Yc (.tup xs)->H' b=Yc (.tup xs)
 lU:∀b o u,H b=Yc (.Cu o u)->H' b=Yc (.Cu o u)
 mr:∀b ps,H b=Yc (.Hf ps)->∃more,H' b=Yc (.Hf (ps++more))
section
variable {fs fs' ex ex':List Um}{H H1 H2:Hp}{h h1 h2 h':UH}{a x e:Um}{o:HO}
theorem Un.any(u:Un fs ex H H1 h h1){b:Um}{ob:U6}(q:h.get? b=Yc ob)(n:H b=none)(D:b∉ex):∃J,h1.get? b=Yc { ob with slots:=J }:=by
 by_cases G:b∈fs
 .exact u.slot b ob q n G D
 exact⟨ob.slots,u.keep b ob q n G D⟩
theorem Un.trans(a:Un fs ex H H1 h h1)(b:Un fs ex H1 H2 h1 h2):Un fs ex H H2 h h2 where
 keep:=λc ob q n G D=>b.keep c ob (a.keep c ob q n G D) (a.free c ob q n D) G D
 slot:=λc ob q n G D=>by
  obtain⟨V,e1⟩:=a.slot c ob q n G D;obtain⟨J,e2⟩:=b.slot c _ e1 (a.free c ob q n D) G D;exact⟨J,e2⟩
 free:=λc ob q n D=>by
  obtain⟨O,e1⟩:=a.there c ob q D;exact b.free c O e1 (a.free c ob q n D) D
 there:=λc ob q D=>by
  obtain⟨O,e1⟩:=a.there c ob q D;exact b.there c O e1 D
 mq:=λc xs q=>b.mq c xs (a.mq c xs q)
 lU:=λc ob xs q=>b.lU c ob xs (a.lU c ob xs q)
 mr:=λc U q=>by
  obtain⟨m1,e1⟩:=a.mr c U q;obtain⟨m2,e2⟩:=b.mr c _ e1;exact⟨m1++m2,by rw[e2,SX]⟩
theorem Un.kept(k:∀b u,h.get? b=Yc u->h'.get? b=Yc u):Un fs ex H H h h' :=
 ⟨λb ob q _ _ _=>k b ob q,λb ob q _ _ _=>⟨ob.slots,k b ob q⟩,λ_ _ _ n _=>n,λb ob q _=>⟨ob,k b ob q⟩,λ_ _ q=>q,λ_ _ _ q=>q,λ_ D q=>⟨#[],by rw[q];simp⟩⟩
theorem Un.refl:Un fs ex H H h h:=Un.kept λ_ _ q=>q
theorem Un.laid(k:∀b u,h.get? b=Yc u->h'.get? b=Yc u)(hp:h.objs.size<=a)(D:H a=none):Un fs ex H (upd H a o) h h' where
 keep:=λb u q _ _ _=>k b u q
 slot:=λb u q _ _ _=>⟨u.slots,k b u q⟩
 free:=λb u q n _=>by rw[aG (Pb (Pt (O3 q) hp))];exact n
 there:=λb u q _=>⟨u,k b u q⟩
 mq:=λb xs q=>by rw[aG (aW q D)];exact q
 lU:=λb u xs q=>by rw[aG (aW q D)];exact q
 mr:=λb G q=>⟨#[],by rw[aG (aW q D),q];simp⟩
theorem Un.write(G:KQ (H x))(Z:e=x\/H e=Yc (.own x))(k:∀b u,b≠e->h.get? b=Yc u->h'.get? b=Yc u)(J:∃u,h'.get? e=Yc u):Un fs ex H (upd H x o) h h':=by
 have U:∀b,H b=none->b≠x:=λb n z=>by subst z;rw[n]at G;exact G
 have V:∀b,H b=none->b≠e:=λb n z=>by
  subst z;rcases Z with r|r
  .exact U b n r
  rw[n]at r;cases r
 have O:∀b u,H b=Yc u->¬KQ (Yc u)->b≠x:=λb u q nm z=>by subst z;rw[q]at G;exact nm G
 refine⟨λb u q n _ _=>k b u (V b n) q,λb u q n _ _=>⟨u.slots,k b u (V b n) q⟩,λb u q n _=>by rw[aG (U b n)];exact n,λb u q _=>?_,
  λb xs q=>by rw[aG (O b _ q λz=>z)];exact q,λb u xs q=>by rw[aG (O b _ q λz=>z)];exact q,λb ps q=>⟨#[],by rw[aG (O b _ q λz=>z),q];simp⟩⟩
 by_cases D:b=e
 .subst D;exact J
 exact⟨u,k b u D q⟩
theorem Un.mono(u:Un fs ex H H1 h h1)(hs:∀b∈fs,b∈fs')(G:∀b∈ex,b∈ex'):Un fs' ex' H H1 h h1 :=
 ⟨λb ob q n J D=>u.keep b ob q n (λz=>J (hs b z)) λz=>D (G b z),λ_ _ q n _ D=>u.any q n λz=>D (G _ z),λb ob q n D=>u.free b ob q n λz=>D (G b z),λb ob q D=>u.there b ob q λz=>D (G b z),u.mq,u.lU,u.mr⟩
end
noncomputable def Bf(h:UH)(H:Hp):List Addr:=(OV h.objs.size).filter λa=>(H a).isSome
noncomputable def uL(h:UH)(H:Hp):Heap:=Tu h (Bf h H)
theorem Bg(h:UH)(H:Hp):(uL h H).objs.size=h.objs.size:=PySem.W.hideAll_size _ _
theorem Cw{h:UH}{H:Hp}{b:Um}{o:U6}(e:h.get? b=Yc o)(n:H b=none):(uL h H).get? b=Yc o :=
 SS _ e λD=>by
  have q:(H b).isSome=true:=(O0.mp D).2;rw[n]at q;simp at q
theorem Fw{h:UH}{H:Hp}{b:Um}{o:U6}(e:(uL h H).get? b=Yc o):h.get? b=Yc o/\H b=none:=by
 have D:h.get? b=Yc o:=SY (Bf h H) e;refine⟨D,?_⟩;cases q:H b with
 |none=>rfl
 |some x =>
  have G:b∈Bf h H:=O0.mpr ⟨OX.mpr (O3 D),by simp[q]⟩;have z:(uL h H).get? b=none:=PySem.W.hideAll_none (Bf h H) G;rw[z]at e;cases e
structure Mod(K:OM) (mg:UI->Option Uj) (base:UH):Prop where
 mS:K.In base
 glob:base.Ns UT mg
 blt:∃mb,base.Ns XA mb/\∀x:UI,x≠"__name__"->mb x=UR x
 nolimit:base.NoLimit
/-- Cf context: a KR body (or a jZ block) running. base: fixed through Cf whole law; s₀, H₀: Cf entry; outer: Cf frames KS slots others may change (a KR Nr); stack: all frames Fx run;
   ex: Kf Fx N4 made ahead of Cf entry and are walked here (a jZ); fn: Cf names KS cells N4 made at Cf entry (a def: all; a jZ block: its own); calm: not within an except suite; pn: pins Fx ace state bears; xe: aej is wanted of an exception Fx N5 Cf code -/
structure Cx where
 prog:Ux
 w:UA
 K:OM
 mg:UI->Option Uj
 base:UH
 A:UG
 N:List UI
 s₀:Uq
 H₀:Hp
 env:WY
 outer:List WY
 stack:List WY
 ex:List Um
 fn:UI->Bool
 calm:Bool
 pn:List (Um×U6)
 xe:Uj->Uq->Prop
noncomputable def lV(l:List WY):List Addr:=l.filterMap (·.frame)
noncomputable abbrev Cx.fs(X:Cx):List Addr:=lV X.outer
def Nt(D:VY)(x:UI):Prop:=D.names.lookup x=Yc .local\/D.names.lookup x=Yc .cell\/D.names.lookup x=Yc .free
def Loc(D:VY)(x:UI):Prop:=D.names.lookup x=Yc .local\/D.names.lookup x=Yc .cell
def Look(env:WY)(h:UH)(m:UI->Option Uj)(x:UI)(u:Uj):Prop :=
 (env.kindOf x=Yc .local/\m x=Yc u)\/((env.kindOf x=Yc .cell\/env.kindOf x=Yc .free)/\∃c,env.cells.lookup x=Yc c/\h.IsCell c (Yc u))
structure Cx.Ok(X:Cx):Prop where
 mod:Mod X.K X.mg X.base
 kind:X.env.scope.kind=.function
 glob:X.env.globals=UT
 blt:X.env.builtins=XA
 above:X.s₀.heap.objs.size<=X.env.locals
 inj:∀x y c,X.env.cells.lookup x=Yc c->X.env.cells.lookup y=Yc c->x=y
 has:∀x,(X.env.kindOf x=Yc .cell\/X.env.kindOf x=Yc .free)->∃c,X.env.cells.lookup x=Yc c
 Ie:∀x c,X.fn x=true->X.env.cells.lookup x=Yc c->X.s₀.heap.objs.size<=c
 hd:X.calm=true->X.A.handled=none
 frames:X.A.frames=Yc X.stack
 Hg:X.stack=X.outer\/(X.stack=X.env::X.outer/\X.env.frame=Yc X.env.locals)
 Nu:∀b∈X.ex,b≠X.env.locals/\∀x c,X.env.cells.lookup x=Yc c->c≠b
 bs:∀b o,X.base.get? b=Yc o->X.s₀.heap.get? b=Yc o/\X.H₀ b=none
 Cy:X.base.objs.size<=X.s₀.heap.objs.size
 qK:∀b o,X.base.get? b=Yc o->b∉X.ex
 Bh:∀b∈X.ex,b∉X.fs
 mw:X.s₀.heap.FunFrames X.base X.outer
 Fy:∀b∈X.fs,X.H₀ b=none
structure Inv(X:Cx) (pins:List (Um×U6)) (σ:List (Option V)) (H:Hp) (s:Uq):Prop where
 ok:X.Ok
 os:s.os=X.s₀.os
 bare:VU s.gens
 base:Un X.fs X.ex X.H₀ H X.s₀.heap s.heap
 loc:∃m,s.heap.Ns X.env.locals m/\∀(i:Nat) (x:UI) (v:V),X.N[i]?=Yc x->σ[i]?=Yc (Yc v)->Nt X.env.scope x->∃u,RelV v u/\Look X.env s.heap m x u
 cell:∀x c,X.env.cells.lookup x=Yc c->∃v,s.heap.IsCell c v
 free:H X.env.locals=none
 i0:∀x c,X.env.cells.lookup x=Yc c->H c=none
 pin:∀p∈X.pn++pins,s.heap.get? p.1=Yc p.2/\H p.1=none/\p.1≠X.env.locals/\p.1∉X.fs/\∀v,p.2.data≠.cell v
 bN:l7 X.prog X.w H s.heap
 len:σ.length=X.N.length
section
variable {X:Cx}{pins:List (Um×U6)}{σ:List (Option V)}{H H':Hp}{s:Uq}{h':UH}
theorem Cx.Ok.N6(ok:X.Ok){b:Um}{o:U6}(e:X.base.get? b=Yc o):b∉X.fs:=λD=>by
 have:=(ok.mw.mem D).1;rw[e]at this;cases this
theorem Inv.bs(I:Inv X pins σ H s):∀b o,X.base.get? b=Yc o->s.heap.get? b=Yc o/\H b=none:=λb o e =>
 ⟨I.base.keep b o (I.ok.bs b o e).1 (I.ok.bs b o e).2 (I.ok.N6 e) (I.ok.qK b o e),I.base.free b o (I.ok.bs b o e).1 (I.ok.bs b o e).2 (I.ok.qK b o e)⟩
theorem Inv.bk(I:Inv X pins σ H s):∀b o,X.base.get? b=Yc o->s.heap.get? b=Yc o:=λb o e=>(I.bs b o e).1
theorem Inv.mod(I:Inv X pins σ H s):Mod X.K X.mg X.base:=I.ok.mod
theorem Inv.Bi(I:Inv X pins σ H s):X.K.In s.heap:=I.ok.mod.mS.keeps I.bk
theorem Inv.lt(I:Inv X pins σ H s):X.env.locals<s.heap.objs.size:=let⟨_,D,_⟩:=I.loc;D.lt
theorem Inv.sz(I:Inv X pins σ H s):X.s₀.heap.objs.size<=s.heap.objs.size:=PD I.ok.above (Sr I.lt)
theorem Inv.N7(I:Inv X pins σ H s){a:Um}(h:s.heap.objs.size<=a):a∉X.fs:=λD=>by
 obtain⟨_,o,G,_⟩:=I.ok.mw.mem D;exact Us (Pt (O3 G) (PD I.sz h)) (QF _)
theorem Inv.Cz(I:Inv X pins σ H s):∀x c,X.env.cells.lookup x=Yc c->c≠X.env.locals:=λx c e z=>by
 obtain⟨v,o,J,hd⟩:=I.cell x c e;obtain⟨m,⟨O,es,ep,D,G,_⟩,_⟩:=I.loc;rw[z,D]at J;cases J;rw[G]at hd;cases hd
theorem Inv.mw(I:Inv X pins σ H s):s.heap.FunFrames X.base X.outer:=by
 have all:∀(l:List WY),(∀b∈lV l,b∈X.fs)->X.s₀.heap.FunFrames X.base l->s.heap.FunFrames X.base l:=by
  intro l
  induction l with
  |nil=>intro _ _;trivial
  |cons env r O =>
   intro hs U;obtain⟨V,⟨L,o,D,Z,ho,hd⟩,hr⟩:=U;have G:L∈X.fs:=hs L (by unfold lV;rw[Qu,D];exact O2);obtain⟨sl,e⟩:=I.base.slot L o ho (I.ok.Fy L G) G λz=>I.ok.Bh L z G;exact⟨V,⟨L,_,D,Z,e,hd⟩,O (λb J=>hs b (by unfold lV;rw[Qu,D];exact O1 _ J)) hr⟩
 exact all X.outer (λ_ J=>J) I.ok.mw
theorem Inv.stack(I:Inv X pins σ H s):s.heap.FunFrames X.base X.stack:=by
 rcases I.ok.Hg with e|⟨e,D⟩
 .rw[e];exact I.mw
 rw[e];obtain⟨m,G,_⟩:=I.loc;refine .cons (by rw[I.ok.kind];decide) D G ?_ I.mw;exact Heap.get?_none_of_le (PD I.ok.Cy I.ok.above)
theorem Inv.qM(I:Inv X pins σ H s):∀b∈lV X.stack,b∈X.env.locals::X.fs:=λb D=>by
 rcases I.ok.Hg with e|⟨e,G⟩
 .rw[e]at D;exact O1 _ D
 rw[e]at D;unfold lV at D;rw[Qu,G]at D;exact D
theorem Inv.uM(I:Inv X pins σ H s):∀b∈lV X.stack,H b=none:=λb D=>by
 rcases O9.mp (I.qM b D)with e|D
 .rw[e];exact I.free
 obtain⟨_,o,G,_⟩:=I.ok.mw.mem D;exact I.base.free b o G (I.ok.Fy b D) λz=>I.ok.Bh b z D
theorem Inv.step{g':Array GenState}{t':Nat}{d':Drawn}{ch:List Um}(I:Inv X pins σ H s)
  (G:∀b∈ch,(b∈X.ex\/X.s₀.heap.objs.size<=b)/\b≠X.env.locals/\(∀x c,X.env.cells.lookup x=Yc c->c≠b)/\∀p∈X.pn++pins,p.1≠b)
  (keep:∀b o,b≠X.env.locals->b∉X.fs->b∉ch->s.heap.get? b=Yc o->H b=none->h'.get? b=Yc o)
  (slot:∀b o,b≠X.env.locals->b∈X.fs->b∉ch->s.heap.get? b=Yc o->H b=none->∃sl,h'.get? b=Yc { o with slots:=sl }) (free:∀b o,b∉ch->s.heap.get? b=Yc o->H b=none->H' b=none)
  (there:∀b o,b∉ch->s.heap.get? b=Yc o->∃Z,h'.get? b=Yc Z)
  (mq:∀b xs,H b=Yc (.tup xs)->H' b=Yc (.tup xs)) (lU:∀b o u,H b=Yc (.Cu o u)->H' b=Yc (.Cu o u)) (mr:∀b ps,H b=Yc (.Hf ps)->∃more,H' b=Yc (.Hf (ps++more)))
  (ns:∀m,s.heap.Ns X.env.locals m->h'.Ns X.env.locals m) (bN:l7 X.prog X.w H' h') (hg:VU g') :
  Inv X pins σ H' { s with heap:=h',gens:=g',drawn:=d',toks:=t' }:=by
 have neL:∀b o,X.s₀.heap.get? b=Yc o->b≠X.env.locals:=λb o e=>Pb (Pt (O3 e) I.ok.above);have O:∀b o,X.s₀.heap.get? b=Yc o->b∉X.ex->b∉ch:=λb o e D U=>by
  rcases(G b U).1 with z|z
  .exact D z
  exact Us (Pt (O3 e) z) (QF _)
 have cellK:∀x c,X.env.cells.lookup x=Yc c->∀v,s.heap.IsCell c v->h'.IsCell c v:=λx c e v ⟨o,V,hd⟩=>by
  have J:c∉ch:=λz=>(G c z).2.2.1 x c e rfl;by_cases hc:c∈X.fs
  .obtain⟨sl,q⟩:=slot c o (I.Cz x c e) hc J V (I.i0 x c e);exact⟨_,q,hd⟩
  exact⟨o,keep c o (I.Cz x c e) hc J V (I.i0 x c e),hd⟩
 refine⟨I.ok,I.os,hg,⟨λb o e n U D=>?_,λb o e n U D=>?_,λb o e n D=>?_,λb o e D=>?_,λb xs e=>mq b xs (I.base.mq b xs e),λb o xs e=>lU b o xs (I.base.lU b o xs e),λb ps e=>?_⟩,?_,λx c e=>?_,?_,λx c e=>?_,λp hp=>?_,bN,I.len⟩
 .exact keep b o (neL b o e) U (O b o e D) (I.base.keep b o e n U D) (I.base.free b o e n D)
 .obtain⟨sl,e1⟩:=I.base.slot b o e n U D;obtain⟨sl',e2⟩:=slot b _ (neL b o e) U (O b o e D) e1 (I.base.free b o e n D);exact⟨sl',e2⟩
 .obtain⟨Z,e1⟩:=I.base.there b o e D;exact free b Z (O b o e D) e1 (I.base.free b o e n D)
 .obtain⟨Z,e1⟩:=I.base.there b o e D;exact there b Z (O b o e D) e1
 .obtain⟨m1,e1⟩:=I.base.mr b ps e;obtain⟨m2,e2⟩:=mr b _ e1;exact⟨m1++m2,by rw[e2,SX]⟩
 .obtain⟨m,hn,hl⟩:=I.loc;refine⟨m,ns m hn,λi x v e1 e2 e3=>?_⟩;obtain⟨u,r,l⟩:=hl i x v e1 e2 e3;refine⟨u,r,?_⟩;rcases l with l|⟨k,c,e,z⟩
  .exact .inl l
  exact .inr ⟨k,c,e,cellK x c e _ z⟩
 .obtain⟨v,z⟩:=I.cell x c e;exact⟨v,cellK x c e v z⟩
 .obtain⟨m,⟨o,_,_,V,_⟩,_⟩:=I.loc;exact free _ o (λz=>(G _ z).2.1 rfl) V I.free
 .obtain⟨v,o,V,hd⟩:=I.cell x c e;exact free c o (λz=>(G c z).2.2.1 x c e rfl) V (I.i0 x c e)
 obtain⟨e,n,ne,nf,d⟩:=I.pin p hp;have J:p.1∉ch:=λz=>(G p.1 z).2.2.2 p hp rfl;exact⟨keep p.1 p.2 ne nf J e n,free p.1 p.2 J e n,ne,nf,d⟩
theorem Inv.un{t':Nat}(I:Inv X pins σ H s)(u:Un X.fs [] H H' s.heap h')(bN:l7 X.prog X.w H' h'):Inv X pins σ H' { s with heap:=h',toks:=t' }:=by
 obtain⟨m,⟨o,es,ep,U,r⟩,_⟩:=id I.loc;obtain⟨sl,V⟩:=u.any U I.free (by simp);exact I.step (g':=s.gens) (d':=s.drawn) (ch:=[]) (λ_ z=>nomatch z) (λb o _ G _ e n=>u.keep b o e n G (by simp)) (λb o _ G _ e n=>u.slot b o e n G (by simp)) (λb o _ e n=>u.free b o e n (by simp)) (λb o _ e=>u.there b o e (by simp)) u.mq u.lU u.mr (λm' Z=>by
  obtain⟨o',J,O,D,r'⟩:=Z;rw[U]at D;cases D;exact⟨_,J,O,V,r'⟩) bN I.bare
theorem Inv.call{g':Array GenState}{t':Nat}{d':Drawn}{ch:List Um}(I:Inv X pins σ H s)(u:Un (lV X.stack) ch H H' s.heap h')(bN:l7 X.prog X.w H' h')(hg:VU g')
  (G:∀b∈ch,(b∈X.ex\/X.s₀.heap.objs.size<=b)/\b≠X.env.locals/\(∀x c,X.env.cells.lookup x=Yc c->c≠b)/\∀p∈X.pn++pins,p.1≠b) :
  Inv X pins σ H' { s with heap:=h',gens:=g',drawn:=d',toks:=t' }:=by
 obtain⟨m,⟨o,es,ep,Z,r⟩,_⟩:=id I.loc;obtain⟨sl,O⟩:=u.any Z I.free λz=>(G _ z).2.1 rfl;exact I.step (ch:=ch) G (λb o O hb D e n=>u.keep b o e n (λz=>(O9.mp (I.qM b z)).elim O hb) D) (λb o _ _ D e n=>u.any e n D) (λb o D e n=>u.free b o e n D) (λb o D e=>u.there b o e D) u.mq u.lU u.mr (λm' hm=>by
  obtain⟨o',U,V,J,r'⟩:=hm;rw[Z]at J;cases J;exact⟨_,U,V,O,r'⟩) bN hg
theorem Inv.turned{t':Nat}{D:Um}(I:Inv X pins σ H s)(k:∀b o,b≠D->s.heap.get? b=Yc o->h'.get? b=Yc o)(U:H D=none)(O:D≠X.env.locals)
  (V:D∈X.ex\/X.s₀.heap.objs.size<=D) (Z:∀x c,X.env.cells.lookup x=Yc c->c≠D) (h3:∀p∈X.pn++pins,p.1≠D):Inv X pins σ H { s with heap:=h',toks:=t' }:=by
 have J:∀b u,H b=Yc u->b≠D:=λb u e z=>by rw[z,U]at e;cases e
 refine I.step (g':=s.gens) (d':=s.drawn) (ch:=[D]) (λb hb=>?_) (λb o _ _ G e _=>k b o (λz=>G (by simp[z])) e) (λb o _ _ G e _=>⟨o.slots,k b o (λz=>G (by simp[z])) e⟩) (λ_ _ _ _ n=>n)
  (λb o G e=>⟨o,k b o (λz=>G (by simp[z])) e⟩) (λ_ _ e=>e) (λ_ _ _ e=>e) (λb ps e=>⟨#[],by rw[e];simp⟩) (λm hm=>?_) (λb u e=>?_) I.bare
 .have e:b=D:=by simpa using hb
  subst e;exact⟨V,O,Z,h3⟩
 .obtain⟨o,es,ep,ho,r⟩:=hm;exact⟨o,es,ep,k _ o (Ne.symm O) ho,r⟩
 refine(I.bN b u e).sR (λc v G q=>k c v ?_ q) (λ_ q=>q) λ_ _ q=>q;rcases G with z|z
 .rw[z];exact J b u e
 exact J c _ z
theorem Inv.tok(I:Inv X pins σ H s)(t:Nat):Inv X pins σ H { s with toks:=t }:=I.un (h':=s.heap) (t':=t) Un.refl I.bN
theorem Inv.kept{t':Nat}(I:Inv X pins σ H s)(k:∀b u,s.heap.get? b=Yc u->h'.get? b=Yc u):Inv X pins σ H { s with heap:=h',toks:=t' }:=I.un (Un.kept k) (I.bN.kept k)
theorem Inv.laid {a : Um}{o : HO}{t' : Nat}(I : Inv X pins σ H s)(k : ∀ b u, s.heap.get? b=Yc u -> h'.get? b=Yc u)(hp : s.heap.objs.size <= a)(D : cQ X.prog X.w (upd H a o) h' a o) :
    Inv X pins σ (upd H a o) { s with heap:=h',toks:=t' }:= I.un (Un.laid k hp (I.bN.fresh hp)) (I.bN.laid k hp D)
theorem Inv.write {x e : Um}{o : HO}{t' : Nat}(I : Inv X pins σ H s)(J : KQ (H x))(O : e=x \/ H e=Yc (.own x))(k : ∀ b u, b ≠ e -> s.heap.get? b=Yc u -> h'.get? b=Yc u)(D : ∃ u, h'.get? e=Yc u)
    (G:cQ X.prog X.w (upd H x o) h' x o): Inv X pins σ (upd H x o) { s with heap:=h',toks:=t' }:= I.un (Un.write J O k D) (I.bN.write J O k D G)
theorem Inv.uN{D:List (Um×U6)}(I:Inv X pins σ H s)(h:∀p∈D,s.heap.get? p.1=Yc p.2/\H p.1=none/\p.1≠X.env.locals/\p.1∉X.fs/\∀v,p.2.data≠.cell v):Inv X D σ H s :=
 ⟨I.ok,I.os,I.bare,I.base,I.loc,I.cell,I.free,I.i0,λp hp=>(OY.mp hp).elim (λz=>I.pin p (Pn _ z)) (h p),I.bN,I.len⟩
theorem qN{N:List UI}(D:N.Nodup){i j:Nat}{x:UI}(a:N[i]?=Yc x)(b:N[j]?=Yc x):i=j:=by
 obtain⟨G,e1⟩:=OI.mp a;obtain⟨J,e2⟩:=OI.mp b;exact(Sk D).mp (e1.trans e2.symm)
theorem tQ{M:WZ}{A:UG}{E:Uj->Uq->Prop}{i:Nat}{x:UI}{v:V}{u:Uj}{Q:Unit->Uq->Prop}(I:Inv X pins σ H s)(hN:X.N.Nodup)(hi:X.N[i]?=Yc x)(G:Loc X.env.scope x)(r:RelV v u)
  (h:∀s',Inv X pins (σ.set i (Yc v)) H s'->(∃a,Heap.SameBut a s.heap s'.heap/\(a=X.env.locals\/X.env.cells.lookup x=Yc a))->Q () s') (hf:X.fn x=true\/X.env.scope.names.lookup x=Yc .local:=by first|exact .inl rfl|exact .inr rfl|assumption):wpAny M A (Xq X.env x u) Q E s:=by
 obtain⟨m,hn,hl⟩:=id I.loc;have Ig:(X.env.scope.kind == .class||(X.env.scope.kind == .module&&X.env.locals != X.env.globals))=false:=by rw[I.ok.kind];rfl
 have O:i<σ.length:=by rw[I.len];exact(OI.mp hi).1
 have Cz:=I.Cz;have tracked:∀{a:Um}{h':UH},(∃o,s.heap.get? a=Yc o/\H a=none)->Heap.SameBut a s.heap h'->l7 X.prog X.w H h':=λ{a h'} ha hs b ob e=>by
  obtain⟨_,_,J⟩:=ha;refine(I.bN b ob e).sR (λc w' D q=>(hs.2 c ?_).trans q) (λ_ q=>q) λ_ _ q=>q;rintro rfl;rcases D with rfl|D
  .rw[J]at e;cases e
  rw[J]at D;cases D
 rcases G with U|U
 .refine wpAny_storeName_local U hn (λh' KU hs=>?_) Ig;obtain⟨oL,_,_,hoL,_⟩:=id hn;refine h _ ⟨I.ok,I.os,I.bare,⟨λb o e n Z G=>?_,λb o e n Z G=>?_,I.base.free,λb o e G=>?_,I.base.mq,I.base.lU,I.base.mr⟩,⟨_,KU,λj y v' e1 e2 e3=>?_⟩,λy c e=>?_,I.free,I.i0,λp hp=>?_,tracked ⟨oL,hoL,I.free⟩ hs,by simpa using I.len⟩ ⟨_,hs,.inl rfl⟩
  .exact(hs.2 b (Pb (Pt (O3 e) I.ok.above))).trans (I.base.keep b o e n Z G)
  .obtain⟨sl,e1⟩:=I.base.slot b o e n Z G;exact⟨sl,(hs.2 b (Pb (Pt (O3 e) I.ok.above))).trans e1⟩
  .obtain⟨o',e1⟩:=I.base.there b o e G;exact⟨o',(hs.2 b (Pb (Pt (O3 e) I.ok.above))).trans e1⟩
  .by_cases hj:j=i
   .subst hj;rw[hi]at e1;cases e1;rw[Ra O]at e2;cases e2;exact⟨u,r,.inl ⟨U,by simp⟩⟩
   rw[Ro (Ne.symm hj)]at e2;obtain⟨u',r',q⟩:=hl j y v' e1 e2 e3;refine⟨u',r',?_⟩;rcases q with⟨k,e⟩|⟨k,c,e,z⟩
   .refine .inl ⟨k,?_⟩;have:y≠x:=λe=>hj (qN hN e1 (e▸hi));simp[this,e]
   exact .inr ⟨k,c,e,z.sameBut hs (Cz y c e)⟩
  .obtain⟨w',z⟩:=I.cell y c e;exact⟨w',z.sameBut hs (Cz y c e)⟩
  obtain⟨e,n,ne,nf,d⟩:=I.pin p hp;exact⟨(hs.2 p.1 ne).trans e,n,ne,nf,d⟩
 have N8:X.fn x=true:=by
  rcases hf with z|z
  .exact z
  rw[z]at U;cases U
 obtain⟨c,D⟩:=I.ok.has x (.inl U);obtain⟨w',z⟩:=I.cell x c D;refine wpAny_storeName_cell I.ok.kind U D z (λh' hc' hs=>?_);obtain⟨oc,hoc,N9⟩:=id z;refine h { s with heap:=h' } ⟨I.ok,I.os,I.bare,⟨λb o e n Z G=>?_,λb o e n Z G=>?_,I.base.free,λb o e G=>?_,I.base.mq,I.base.lU,I.base.mr⟩,⟨m,hn.sameBut hs (Ne.symm (Cz x c D)),λj y v' e1 e2 e3=>?_⟩,λy c' e=>?_,I.free,I.i0,λp hp=>?_,tracked ⟨oc,hoc,I.i0 x c D⟩ hs,by simpa using I.len⟩ ⟨c,hs,.inr D⟩
 .exact(hs.2 b (Pb (Pt (O3 e) (I.ok.Ie x c N8 D)))).trans (I.base.keep b o e n Z G)
 .obtain⟨sl,e1⟩:=I.base.slot b o e n Z G;exact⟨sl,(hs.2 b (Pb (Pt (O3 e) (I.ok.Ie x c N8 D)))).trans e1⟩
 .obtain⟨o',e1⟩:=I.base.there b o e G;exact⟨o',(hs.2 b (Pb (Pt (O3 e) (I.ok.Ie x c N8 D)))).trans e1⟩
 .by_cases hj:j=i
  .subst hj;rw[hi]at e1;cases e1;rw[Ra O]at e2;cases e2;exact⟨u,r,.inr ⟨.inl U,c,D,hc'⟩⟩
  rw[Ro (Ne.symm hj)]at e2;obtain⟨u',r',q⟩:=hl j y v' e1 e2 e3;refine⟨u',r',?_⟩;rcases q with q|⟨k,c',e,z'⟩
  .exact .inl q
  refine .inr ⟨k,c',e,z'.sameBut hs ?_⟩;rintro rfl;exact hj (qN hN e1 (I.ok.inj _ _ _ e D▸hi))
 .by_cases hcc:c'=c
  .subst hcc;exact⟨_,hc'⟩
  obtain⟨w2,z2⟩:=I.cell y c' e;exact⟨w2,z2.sameBut hs hcc⟩
 obtain⟨e,n,ne,nf,d⟩:=I.pin p hp;refine⟨(hs.2 p.1 ?_).trans e,n,ne,nf,d⟩;intro q;rw[q,hoc]at e;have q':oc=p.2:=Option.some.inj e;exact d w' (by rw[<-q'];exact N9)
theorem mU{M:WZ}{A:UG}{E:Uj->Uq->Prop}{i:Nat}{x:UI}{v:V}{u:Uj}{Q:Unit->Uq->Prop}(I:Inv X pins σ H s)(D:X.N.Nodup)(G:X.N[i]?=Yc x)(J:Loc X.env.scope x)(r:RelV v u)
  (h:∀s',Inv X pins (σ.set i (Yc v)) H s'->Q () s') (O:X.fn x=true\/X.env.scope.names.lookup x=Yc .local:=by first|exact .inl rfl|exact .inr rfl|assumption):wpAny M A (Xq X.env x u) Q E s :=
 tQ I D G J r (λs' U _=>h s' U) O
theorem Inv.CA{s':Uq}{ch:List Um}(I:Inv X pins σ H s)(G:s'.os=s.os)(u:Un (lV X.stack) ch H H' s.heap s'.heap)(bN:l7 X.prog X.w H' s'.heap)(J:VU s'.gens)
  (D:∀b∈ch,(b∈X.ex\/X.s₀.heap.objs.size<=b)/\b≠X.env.locals/\(∀x c,X.env.cells.lookup x=Yc c->c≠b)/\∀p∈X.pn++pins,p.1≠b):Inv X pins σ H' s':=by
 obtain⟨h',g',d',t',O⟩:=s';have e:O=s.os:=G;subst e;exact I.call (g':=g') (t':=t') (d':=d') u bN J D
end
noncomputable abbrev XK:=Uj->Option Um->Hp->Prop
noncomputable abbrev St:=List (Option V)
noncomputable abbrev VK:=V->Hp->Prop
noncomputable abbrev TE:=St->Hp->VK->Prop
noncomputable abbrev TT:=St->Hp->(Bool->Hp->Prop)->Prop
noncomputable abbrev TA:=St->Hp->(List V->Hp->Prop)->Prop
structure Ends where
 nx:St->Hp->Prop
 rt:VK
 bk:St->Hp->Prop:=λ_ _=>False
 ct:St->Hp->Prop:=λ_ _=>False
noncomputable abbrev TS:=Ends->St->Hp->Prop
def EP(X:Cx)(pins:List (Um×U6))(σ:St)(Q:VK)(u:Uj)(s':Uq):Prop:=∃v H',Inv X pins σ H' s'/\RelV v u/\Q v H'
def TP(X:Cx)(pins:List (Um×U6))(σ:St)(Q:Bool->Hp->Prop)(b:Bool)(s':Uq):Prop:=∃H',Inv X pins σ H' s'/\Q b H'
def AP(X:Cx)(pins:List (Um×U6))(σ:St)(Q:List V->Hp->Prop)(G:List Uj)(s':Uq):Prop:=∃D H',Inv X pins σ H' s'/\Vals D G/\Q D H'
def SP(X:Cx)(pins:List (Um×U6))(D:Ends)(f:Flow)(s':Uq):Prop :=
 match f with
 |.next=>∃G H',Inv X pins G H' s'/\D.nx G H'
 |.brk=>∃G H',Inv X pins G H' s'/\D.bk G H'
 |.cont=>∃G H',Inv X pins G H' s'/\D.ct G H'
 |.ret u=>∃v G H',Inv X pins G H' s'/\RelV v u/\D.rt v H'
def PE(X:Cx)(e:UM)(t:TE):Prop :=
 ∀(pins:List (Um×U6)) (s:Uq) (σ:St) (H:Hp) (Q:VK),Inv X pins σ H s->t σ H Q->wpAny (model X.prog X.w) X.A (eval e X.env) (EP X pins σ Q) X.xe s
def PT(X:Cx)(e:UM)(t:TT):Prop :=
 ∀(pins:List (Um×U6)) (s:Uq) (σ:St) (H:Hp) (Q:Bool->Hp->Prop),Inv X pins σ H s->t σ H Q->wpAny (model X.prog X.w) X.A (isTrue e X.env (eval e X.env)) (TP X pins σ Q) X.xe s
def PW(X:Cx)(e:UM)(t:TT):Prop :=
 ∀(whole:Sem Uj) (pins:List (Um×U6)) (s:Uq) (σ:St) (H:Hp) (Q:Bool->Hp->Prop),Inv X pins σ H s->t σ H Q->wpAny (model X.prog X.w) X.A (isTrue e X.env whole) (TP X pins σ Q) X.xe s
theorem PW.pt{X:Cx}{e:UM}{t:TT}(h:PW X e t):PT X e t:=h _
def PA(X:Cx)(es:List UM)(t:TA):Prop :=
 ∀(pos:VJ) (pins:List (Um×U6)) (s:Uq) (σ:St) (H:Hp) (Q:List V->Hp->Prop),Inv X pins σ H s->t σ H Q->wpAny (model X.prog X.w) X.A (spliced (backTo pos (UC es X.env))) (AP X pins σ Q) X.xe s
def PS(X:Cx)(st:Vp)(t:TS):Prop :=
 ∀(pins:List (Um×U6)) (s:Uq) (σ:St) (H:Hp) (D:Ends),Inv X pins σ H s->t D σ H->wpAny (model X.prog X.w) X.A (exec st X.env) (SP X pins D) X.xe s
def mV(X:Cx)(st:List Vp)(t:TS):Prop :=
 ∀(pins:List (Um×U6)) (s:Uq) (σ:St) (H:Hp) (D:Ends),Inv X pins σ H s->t D σ H->wpAny (model X.prog X.w) X.A (execs st X.env) (SP X pins D) X.xe s
theorem cF{α:Type}{t:Sem α}{Q D:α->Uq->Prop}{M:WZ}{A:UG}{E:Uj->Uq->Prop}{s:Uq}(h:wpAny M A t Q E s)(G:∀a s,Q a s->D a s):wpAny M A t D E s:=UX h G λ_ _ x=>x
section
variable {X:Cx}
def CC(i:Nat):TE:=λσ H Q=>∃v,σ[i]?=Yc (Yc v)/\Q v H
def tC(v:V):TE:=λ_ H Q=>Q v H
theorem Ih{i:Nat}{x:UI}{pos:VJ}(U:X.N[i]?=Yc x)(V:Nt X.env.scope x)(hd:(x==("__debug__":UI))=false:=by decide)(J:(x==("__classdict__":UI))=false:=by decide):PE X (.Name x pos) (CC i):=by
 intro pins s σ H Q I h;obtain⟨v,e,h⟩:=h;obtain⟨m,Z,hl⟩:=I.loc;obtain⟨u,r,l⟩:=hl i x v U e V;have fin:EP X pins σ Q u s:=⟨v,H,I,r,h⟩
 rcases l with⟨G,hm⟩|⟨G,c,O,D⟩
 .exact XB (WH I.ok.kind G Z hm fin) hd
 rcases G with G|G
 .exact XB (WX I.ok.kind G O D fin) hd
 exact XB (wpAny_loadName_free I.ok.kind G O D fin J) hd
theorem ao{i j pos}:PE X (.Constant (.int i) j pos) (tC (.int i)):=λ_ _ _ H _ I h=>wpAny_Constant_int ⟨.int i,H,I.tok _,⟨_,rfl⟩,h⟩
theorem dv{b j pos}:PE X (.Constant (.bool b) j pos) (tC (.bl b)):=λ_ _ _ H _ I h=>Constant_bool ⟨.bl b,H,I,rfl,h⟩
theorem d9{x j pos}:PE X (.Constant (.str x) j pos) (tC (.str x)):=λ_ _ _ H _ I h=>Calls.Constant_str ⟨.str x,H,I.tok _,⟨_,rfl⟩,h⟩
def Gl(X:Cx)(x:UI):Prop:=X.env.kindOf x=Yc .globalImplicit
theorem mW{E:Uj->Uq->Prop}{pins:List (Um×U6)}{s:Uq}{σ:St}{H:Hp}{x:UI}{u:Uj}{pos:VJ}{Q:Uj->Uq->Prop}(I:Inv X pins σ H s)(D:Gl X x)(G:X.mg x=Yc u)(h:Q u s)
  (hd:(x==("__debug__":UI))=false:=by decide):wpAny (model X.prog X.w) X.A (eval (.Name x pos) X.env) Q E s :=
 Calls.Name_function_global I.ok.kind D (Calls.loadGlobal_global (by rw[I.ok.glob];exact I.mod.glob.keeps I.bk) G h) hd
theorem my{E:Uj->Uq->Prop}{pins:List (Um×U6)}{s:Uq}{σ:St}{H:Hp}{x:UI}{u:Uj}{pos:VJ}{Q:Uj->Uq->Prop}(I:Inv X pins σ H s)(D:Gl X x)(G:X.mg x=none)(J:UR x=Yc u)(h:Q u s)
  (O:x≠"__name__":=by decide) (hd:(x==("__debug__":UI))=false:=by decide):wpAny (model X.prog X.w) X.A (eval (.Name x pos) X.env) Q E s:=by
 obtain⟨mb,U,V⟩:=I.mod.blt;exact Calls.Name_function_global I.ok.kind D (Calls.loadGlobal_builtin (by rw[I.ok.glob];exact I.mod.glob.keeps I.bk) G (by rw[I.ok.blt];exact U.keeps I.bk) ((V x O).trans J) h) hd
theorem i4{x:UI}{v:V}{u:Uj}{pos:VJ}(D:Gl X x)(G:X.mg x=Yc u)(r:RelV v u)(hd:(x==("__debug__":UI))=false:=by decide):PE X (.Name x pos) (tC v):=
 λ_ _ _ H _ I h=>mW I D G ⟨v,H,I,r,h⟩ hd
theorem Fz{x:UI}{v:V}{u:Uj}{pos:VJ}(D:Gl X x)(G:X.mg x=none)(J:UR x=Yc u)(r:RelV v u)(O:x≠"__name__":=by decide)(hd:(x==("__debug__":UI))=false:=by decide):PE X (.Name x pos) (tC v):=
 λ_ _ _ H _ I h=>my I D G J ⟨v,H,I,r,h⟩ O hd
variable {a b:UM}{ta tb:TE}{pos:VJ}
def PC(X:Cx)(op:XR)(a b:UM)(t:TE):Prop :=
 ∀(pins:List (Um×U6)) (s:Uq) (σ:St) (H:Hp) (Q:VK),Inv X pins σ H s->t σ H Q ->
  wpAny (model X.prog X.w) X.A (eval a X.env) (λv D=>wpAny (model X.prog X.w) X.A (eval b X.env) (λu G=>wpAny (model X.prog X.w) X.A (UQ op v u) (EP X pins σ Q) X.xe G) X.xe D) X.xe s
def tB(t:TE):TT:=λσ H Q=>t σ H λx D=>∃c,x=.bl c/\Q c D
theorem qO{op:XR}{t:TE}(h:PC X op a b t)(G:VL op b=false:=by first|exact D _ (by decide) (by decide)|rfl):PT X (.Compare a [op] [b] pos) (tB t):=by
 intro pins s σ H Q I hw;refine WC (cF (h pins s σ H _ I hw) λv s1 G=>cF G λu s2 J=>cF J λc s3 ⟨x,O,U,V,Z⟩=>?_) G;obtain⟨d,rfl,q⟩:=Z;cases V;exact UP ⟨O,U,q⟩
theorem iI{e:UM}{t:TE}(h:PE X e t)(D:∀whole,isTrue e X.env whole=(do let v <- whole;XW e.pos;Xy [v] (truthy v)):=by intro _;rfl):PT X e (tB t):=by
 intro pins s σ H Q I hw;refine isTrue_plain (cF (h pins s σ H _ I hw) λv V ⟨x,G,J,O,U⟩=>?_) (D _);obtain⟨d,rfl,q⟩:=U;cases O;exact UP ⟨G,J,q⟩
variable {tA Nv:TT}{rest:List UM}
def Oa(t u:TT):TT:=λσ H Q=>t σ H λc D=>if c=true then u σ D Q else Q false D
def tOr(t u:TT):TT:=λσ H Q=>t σ H λc D=>if c=true then Q true D else u σ D Q
def Ob(t:TT):TT:=λσ H Q=>t σ H λc D=>Q (!c) D
theorem i5(D:PT X a tA):PW X (.BoolOp .And [a] pos) tA:=by
 intro G pins s σ H Q I h;refine isTrue_and (cF (D pins s σ H Q I h) λc J e=>?_);cases c with
 |true=>exact isTrue_and_nil e
 |false=>exact e
theorem uO(D:PT X a tA):PW X (.BoolOp .Or [a] pos) tA:=by
 intro G pins s σ H Q I h;refine isTrue_or (cF (D pins s σ H Q I h) λc J e=>?_);cases c with
 |false=>exact isTrue_or_nil e
 |true=>exact e
theorem jE(O:PT X a tA)(U:PW X (.BoolOp .And (b::rest) pos) Nv):PW X (.BoolOp .And (a::b::rest) pos) (Oa tA Nv):=by
 intro V pins s σ H Q I h;refine isTrue_and (cF (O pins s σ H _ I h) λc Z ⟨D,G,J⟩=>?_);cases c with
 |true=>exact U V pins Z σ D Q G J
 |false=>exact⟨D,G,J⟩
theorem Aa(O:PT X a tA)(U:PW X (.BoolOp .Or (b::rest) pos) Nv):PW X (.BoolOp .Or (a::b::rest) pos) (tOr tA Nv):=by
 intro V pins s σ H Q I h;refine isTrue_or (cF (O pins s σ H _ I h) λc Z ⟨D,G,J⟩=>?_);cases c with
 |true=>exact⟨D,G,J⟩
 |false=>exact U V pins Z σ D Q G J
theorem mA(D:PT X a tA):PT X (.UnaryOp .Not a pos) (Ob tA):=by
 intro pins s σ H Q I h;exact isTrue_not (D pins s σ H (λc G=>Q (!c) G) I h)
def KW(ta tb:TE):TE:=λσ H Q=>ta σ H λx D=>∃c,x=.bl c/\if c=true then tb σ D Q else Q (.bl false) D
def Oc(ta tb:TE):TE:=λσ H Q=>ta σ H λx D=>∃c,x=.bl c/\if c=true then Q (.bl true) D else tb σ D Q
theorem mB{op}{t:TE}(h:PE X a t):PE X (.BoolOp op [a] pos) t:=λpins s σ H Q I hw=>BoolOp_one (h pins s σ H Q I hw)
theorem qP(O:PE X a ta)(U:PE X (.BoolOp .And (b::rest) pos) tb):PE X (.BoolOp .And (a::b::rest) pos) (KW ta tb):=by
 intro pins s σ H Q I h;refine BoolOp_and (cF (O pins s σ H _ I h) λv V Z=>?_);obtain⟨x,G,J,r1,D⟩:=Z;obtain⟨c,rfl,D⟩:=D;cases r1;refine UP ?_;cases c with
 |true=>exact U pins V σ G Q J D
 |false=>exact⟨.bl false,G,J,rfl,D⟩
theorem Hh(O:PE X a ta)(U:PE X (.BoolOp .Or (b::rest) pos) tb):PE X (.BoolOp .Or (a::b::rest) pos) (Oc ta tb):=by
 intro pins s σ H Q I h;refine BoolOp_or (cF (O pins s σ H _ I h) λv V Z=>?_);obtain⟨x,G,J,r1,D⟩:=Z;obtain⟨c,rfl,D⟩:=D;cases r1;refine UP ?_;cases c with
 |false=>exact U pins V σ G Q J D
 |true=>exact⟨.bl true,G,J,rfl,D⟩
def tIf(t:TT)(ta tb:TE):TE:=λσ H Q=>t σ H λc D=>if c=true then ta σ D Q else tb σ D Q
theorem mX{c:UM}(U:PT X c tA)(V:PE X a ta)(Z:PE X b tb):PE X (.IfExp c a b pos) (tIf tA ta tb):=by
 intro pins s σ H Q I h;refine wpAny_IfExp (cF (U pins s σ H _ I h) λd D ⟨G,J,O⟩=>?_);cases d with
 |true=>exact V pins D σ G Q J O
 |false=>exact Z pins D σ G Q J O
end
def aZ(K:OM)(H:Hp)(a:Um)(xs:List V):Prop :=
 Rd H a (.lst xs) \/
  ∃(o:U6) (its:Array Uj) (n:Nat),K.lookup a=Yc o/\o.cls=.type "list"/\o.dict=none/\o.data=.seq its n/\its.size<=Uu/\Vals xs its.toList
def br(K:OM)(H:Hp)(a:Um)(xs:List V):Prop :=
 Rd H a (.tup xs) \/
  ∃(o:U6) (its:Array Uj) (n:Nat),K.lookup a=Yc o/\o.cls=.type "tuple"/\o.data=.seq its n/\its.size<=Uu/\Vals xs its.toList
noncomputable def Od:Uj->Option V
 |.none=>Yc .g9
 |.bool b=>Yc (.bl b)
 |.int i _=>Yc (.int i)
 |.str x _=>Yc (.str x)
 |.bytes b _=>Yc (.Ct b)
 |.float b _=>Yc (.iZ b)
 |.ref a=>Yc (.ref a)
 |.type n=>Yc (.ty n)
 |_=>none
theorem RelV.abs{x:V}{u:Uj}(r:RelV x u):Od u=Yc x:=by
 cases x with
 |g9=>cases r;rfl
 |bl _=>cases r;rfl
 |int _=>obtain⟨t,rfl⟩:=r;rfl
 |str _=>obtain⟨t,rfl⟩:=r;rfl
 |Ct _=>obtain⟨t,rfl⟩:=r;rfl
 |iZ _=>obtain⟨t,rfl⟩:=r;rfl
 |ref _=>cases r;rfl
 |ty _=>cases r;rfl
theorem RelV.inj{x y:V}{u:Uj}(r:RelV x u)(q:RelV y u):x=y:=Option.some.inj (r.abs.symm.trans q.abs)
theorem Vals.inj:∀{xs D:List V}{G:List Uj},Vals xs G->Vals D G->xs=D
 |_,_,_,.nil,.nil=>rfl
 |_,_,_,.cons r t,.cons J t'=>by rw[r.inj J,Vals.inj t t']
section
variable {X:Cx}{pins:List (Um×U6)}{σ:St}{H:Hp}{s:Uq}{a:Um}{xs U:List V}
theorem aZ.of{K:OM}(h:H a=Yc (.lst xs)):aZ K H a xs:=.inl (.inl h)
theorem br.of{K:OM}(h:H a=Yc (.tup xs)):br K H a xs:=.inl (.inl h)
theorem Inv.list(I:Inv X pins σ H s)(h:aZ X.K H a xs):∃its:List Uj,Vals xs its/\PlainL s.heap a its.toArray/\xs.length<=sizeLine:=by
 rcases h with h|⟨o,its,n,D,G,hd,hs,hz,r⟩
 .obtain⟨z,its,n,r,e⟩:=h.ok I.bN;exact⟨its,r,⟨_,n,e,rfl,rfl,rfl⟩,z⟩
 refine⟨its.toList,r,⟨o,n,I.Bi a o D,G,hd,by simpa using hs⟩,?_⟩;have e:=r.length;simp only[Qf]at e;omega
theorem Inv.tuple(I:Inv X pins σ H s)(h:br X.K H a xs):∃its:List Uj,Vals xs its/\XQ s.heap a its.toArray/\xs.length<=sizeLine:=by
 rcases h with h|⟨o,its,n,D,G,hs,hz,r⟩
 .obtain⟨z,its,r,p⟩:=h.ok I.bN;exact⟨its,r,p,z⟩
 refine⟨its.toList,r,⟨o,I.Bi a o D,G,n,by simpa using hs⟩,?_⟩;have e:=r.length;simp only[Qf]at e;omega
theorem Inv.CD(I:Inv X pins σ H s)(h:aZ X.K H a xs)(h':aZ X.K H a U):xs=U:=by
 obtain⟨its,r,⟨o,n,e,_,_,d⟩,_⟩:=I.list h;obtain⟨its',G,⟨J,O,D,_,_,d'⟩,_⟩:=I.list h';rw[e]at D;cases D;rw[d]at d';injection d' with d1 _;have:its=its':=by simpa using congrArg Ss d1
 subst this;exact r.inj G
theorem Inv.tS(I:Inv X pins σ H s)(h:br X.K H a xs)(h':br X.K H a U):xs=U:=by
 obtain⟨its,r,⟨o,e,_,n,d⟩,_⟩:=I.tuple h;obtain⟨its',G,⟨J,D,_,O,d'⟩,_⟩:=I.tuple h';rw[e]at D;cases D;rw[d]at d';injection d' with d1 _;have:its=its':=by simpa using congrArg Ss d1
 subst this;exact r.inj G
end
noncomputable abbrev Cx.iJ(X:Cx)(E:Uj->Uq->Prop):Cx:={ X with xe:=E }
noncomputable abbrev Cx.FA(X:Cx):Cx:=X.iJ λ_ _=>False
theorem Cx.Ok.iJ{X:Cx}(ok:X.Ok)(E:Uj->Uq->Prop):(X.iJ E).Ok :=
 ⟨ok.mod,ok.kind,ok.glob,ok.blt,ok.above,ok.inj,ok.has,ok.Ie,ok.hd,ok.frames,ok.Hg,ok.Nu,ok.bs,ok.Cy,ok.qK,ok.Bh,ok.mw,ok.Fy⟩
theorem Cx.Ok.eg{X:Cx}{E:Uj->Uq->Prop}(ok:(X.iJ E).Ok):X.Ok :=
 ⟨ok.mod,ok.kind,ok.glob,ok.blt,ok.above,ok.inj,ok.has,ok.Ie,ok.hd,ok.frames,ok.Hg,ok.Nu,ok.bs,ok.Cy,ok.qK,ok.Bh,ok.mw,ok.Fy⟩
section
variable {X:Cx}{pins:List (Um×U6)}{σ:St}{H:Hp}{s:Uq}{E:Uj->Uq->Prop}
theorem Inv.iJ(I:Inv X pins σ H s)(E:Uj->Uq->Prop):Inv (X.iJ E) pins σ H s:=⟨I.ok.iJ E,I.os,I.bare,I.base,I.loc,I.cell,I.free,I.i0,I.pin,I.bN,I.len⟩
theorem Inv.eg(I:Inv (X.iJ E) pins σ H s):Inv X pins σ H s:=⟨I.ok.eg,I.os,I.bare,I.base,I.loc,I.cell,I.free,I.i0,I.pin,I.bN,I.len⟩
theorem SP.eg{D:Ends}{f:Flow}{s':Uq}(h:SP (X.iJ E) pins D f s'):SP X pins D f s':=by
 cases f with
 |next=>obtain⟨G,H',I,q⟩:=h;exact⟨G,H',I.eg,q⟩
 |brk=>obtain⟨G,H',I,q⟩:=h;exact⟨G,H',I.eg,q⟩
 |cont=>obtain⟨G,H',I,q⟩:=h;exact⟨G,H',I.eg,q⟩
 |ret u=>obtain⟨v,G,H',I,r,q⟩:=h;exact⟨v,G,H',I.eg,r,q⟩
theorem mV.FA{st:List Vp}{t:TS}(h:mV X.FA st t):mV X st t:=λpins s σ H D I hw =>
 UX (h pins s σ H D (I.iJ _) hw) (λ_ _ q=>q.eg) λ_ _ z=>False.elim z
end
section
variable {X:Cx}{st:Vp}{rest:List Vp}{t u:TS}{e:UM}{te:TE}{pos:VJ}
def KY:TS:=λD σ H=>D.nx σ H
def FD(t u:TS):TS:=λD σ H=>t { D with nx:=u D } σ H
theorem bg:mV X [] KY:=λ_ _ σ H _ I h=>Va ⟨σ,H,I,h⟩
theorem ah(J:PS X st t)(O:mV X rest u):mV X (st::rest) (FD t u):=by
 intro pins s σ H D I h;refine Vr (cF (J pins s σ H { D with nx:=u D } I h) λf U q=>?_);cases f with
 |next =>
  obtain⟨G,H',V,q⟩:=q;exact O pins U G H' D V q
 |ret v=>exact q
 |brk=>exact q
 |cont=>exact q
theorem aA(G:PS X st t):mV X [st] t:=by
 intro pins s σ H D I h;refine Vr (cF (G pins s σ H D I h) λf J q=>?_);cases f with
 |next=>exact Va q
 |ret v=>exact q
 |brk=>exact q
 |cont=>exact q
def Ii:TS:=λD σ H=>D.bk σ H
theorem CF:PS X (.Break pos) Ii:=λ_ _ σ H _ I h=>wpAny_Break ⟨σ,H,I,h⟩
theorem Inv.quiet{pins:List (Um×U6)}{σ:St}{H:Hp}{s:Uq}(I:Inv X pins σ H s):interactive X.env=false:=by simp[interactive,I.ok.kind]
def Hi(te:TE):TS:=λD σ H=>te σ H λ_ G=>D.nx σ G
theorem bh(G:PE X e te)(hs:Wf e none pos.line X.env=pure false:=by rfl):PS X (.Expr e pos) (Hi te):=by
 intro pins s σ H D I h;exact wpAny_Expr_any (cF (G pins s σ H _ I h) λv V ⟨x,J,O,Z,U⟩=>⟨σ,J,O,U⟩) I.quiet hs
def KZ(te:TE):TS:=λD σ H=>te σ H D.rt
theorem aU(G:PE X e te):PS X (.Return (Yc e) pos) (KZ te):=by
 intro pins s σ H D I h;exact wpAny_Return_some (cF (G pins s σ H _ I h) λv Z ⟨x,J,O,U,V⟩=>⟨x,σ,J,O,U,V⟩)
def K0(c:TT)(t u:TS):TS:=λD σ H=>c σ H λb G=>if b=true then t D σ G else u D σ G
theorem bS{c:UM}{a b:List Vp}{G:TT}(Z:PT X c G)(ha:mV X a t)(hb:mV X b u):PS X (.If c a b pos) (K0 G t u):=by
 intro pins s σ H D I h;refine wpAny_If (cF (Z pins s σ H _ I h) λd J ⟨O,U,V⟩=>?_);cases d with
 |true=>exact ha pins J σ O D U V
 |false=>exact hb pins J σ O D U V
def Ij:TS:=λ_ _ _=>False
theorem ou{D:List Vp}:mV X D Ij:=λ_ _ _ _ _ _ h=>h.elim
end
noncomputable abbrev TG:=V->St->Hp->(St->Hp->Prop)->Prop
noncomputable abbrev Hj:=List V->St->Hp->(St->Hp->Prop)->Prop
def PG(X:Cx)(target:UM)(t:TG):Prop :=
 ∀(pins:List (Um×U6)) (s:Uq) (σ:St) (H:Hp) (v:V) (u:Uj) (Q:St->Hp->Prop),Inv X pins σ H s->RelV v u->t v σ H Q ->
  wpAny (model X.prog X.w) X.A (assign target X.env u) (λ_ s'=>∃D H',Inv X pins D H' s'/\Q D H') X.xe s
def K1(X:Cx)(O:List UM)(t:Hj):Prop :=
 ∀(pins:List (Um×U6)) (s:Uq) (σ:St) (H:Hp) (G:List V) (J:List Uj) (Q:St->Hp->Prop),Inv X pins σ H s->Vals G J->t G σ H Q ->
  wpAny (model X.prog X.w) X.A (assignInOrder ((Vx O X.env).map (·.2)) J) (λ_ s'=>∃D H',Inv X pins D H' s'/\Q D H') X.xe s
noncomputable abbrev Ik:=V->V->V->Hp->(Hp->Prop)->Prop
def K3(X:Cx)(t:Ik):Prop :=
 ∀(pins:List (Um×U6)) (s:Uq) (σ:St) (H:Hp) (o i v:V) (D G u:Uj) (Q:Hp->Prop),Inv X pins σ H s->RelV o D->RelV i G->RelV v u->t o i v H Q ->
  wpAny (model X.prog X.w) X.A (XX D G u) (λ_ s'=>∃H',Inv X pins σ H' s'/\Q H') X.xe s
noncomputable abbrev Oe:=V->V->Hp->VK->Prop
def PIp(X:Cx)(op:Operator)(t:Oe):Prop :=
 ∀(pins:List (Um×U6)) (s:Uq) (σ:St) (H:Hp) (x y:V) (v u:Uj) (Q:VK),Inv X pins σ H s->RelV x v->RelV y u->t x y H Q ->
  wpAny (model X.prog X.w) X.A (WS op v u) (EP X pins σ Q) X.xe s
section
variable {X:Cx}{pos:VJ}
def wN(i:Nat):TG:=λv σ H Q=>Q (σ.set i (Yc v)) H
theorem aK{i:Nat}{x:UI}(D:X.N.Nodup)(G:X.N[i]?=Yc x)(J:Loc X.env.scope x)(O:X.fn x=true\/X.env.scope.names.lookup x=Yc .local:=by first|exact .inl rfl|exact .inr rfl|assumption):PG X (.Name x pos) (wN i):=by
 intro pins s σ H v u Q I r h;exact wpAny_assign_Name (mU I D G J r (λs' U=>⟨_,H,U,h⟩) O)
noncomputable def Of:Hj:=λD σ H Q=>D=[]/\Q σ H
noncomputable def K4(t:TG)(u:Hj):Hj:=λG σ H Q=>∃v r,G=v::r/\t v σ H λD H'=>u r D H' Q
theorem dO:K1 X [] Of:=by
 intro pins s σ H D G Q I r h;obtain⟨e,h⟩:=h;subst e;cases r;exact assignInOrder_nil ⟨σ,H,I,h⟩
theorem aX{e:UM}{es:List UM}{t:TG}{u:Hj}(G:PG X e t)(J:K1 X es u)
  (hs:(Vx (e::es) X.env).map (·.2)=assign e X.env::(Vx es X.env).map (·.2):=by rfl):K1 X (e::es) (K4 t u):=by
 intro pins s σ H vs us Q I r h;obtain⟨v,vr,e1,h⟩:=h;subst e1;cases r with
 |cons r O =>
  rw[hs];refine assignInOrder_cons (cF (G pins s σ H _ _ _ I r h) λ_ U ⟨D,V,Z,q1⟩=>?_);exact J pins U D V _ _ Q Z O q1
def K6(K:OM)(n:Nat)(t:Hj):TG:=λv σ H Q=>∃a xs,v=.ref a/\br K H a xs/\xs.length=n/\t xs σ H Q
theorem jF{es:List UM}{k:Nat}{t:Hj}{n:Nat}(J:X.calm=true)(h:K1 X es t)
  (O:(Vx es X.env).length=n:=by rfl) (D:(Vx es X.env).findIdx? (·.1)=none:=by rfl):PG X (.Tuple es k pos) (K6 X.K n t):=by
 intro pins s σ H v u Q I r hw;obtain⟨a,xs,e1,U,V,hw⟩:=hw;subst e1;cases r;obtain⟨its,G,Z,hz⟩:=I.tuple U;refine assign_Tuple_tuple (I.ok.hd J) Z (by simp[O,<-V,G.length]) D λh' hx=>?_;have I1:Inv X pins σ H { s with heap:=h' }:=I.kept (t':=s.toks) λb o e=>hx b o (Pb (O3 e)) e;exact h pins _ σ H xs _ Q I1 (by simpa using G) hw
def Og(to D:TE)(t:Ik):TG:=λv σ H Q=>to σ H λo G=>D σ G λi J=>t o i v J λO=>Q σ O
theorem ow{o i:UM}{to O:TE}{t:Ik}(U:PE X o to)(V:PE X i O)(hs:K3 X t)
  (Z:∀v,assign (.Subscript o i pos) X.env v=(do
   let D <-Xy [v] (eval o X.env)
   let G <-Xy [v,D] (eval i X.env)
   XW pos
   Xy [v,D,G] (XX D G v)
   release [v,D,G] []):=by intro _;rfl):PG X (.Subscript o i pos) (Og to O t):=by
 intro pins s σ H v u Q I r h;rw[Z];refine Uh (UD (cF (U pins s σ H _ I h) λD s1 J=>?_));obtain⟨x,H1,I1,r1,q1⟩:=J;refine Uh (UD (cF (V pins s1 σ H1 _ I1 q1) λG s2 J=>?_));obtain⟨y,H2,I2,r2,q2⟩:=J;refine Uh (U7 (Uh (UD (cF (hs pins s2 σ H2 x y v D G u _ I2 r1 r2 r q2) λ_ s3 ⟨H3,I3,q3⟩=>?_))));exact wpAny_release ⟨σ,H3,I3,q3⟩
def FE(G:TE)(g:TG):TS:=λD σ H=>G σ H λx J=>g x σ J D.nx
theorem kD{G e:UM}{J:TE}{g:TG}(O:PE X e J)(U:PG X G g)(hs:swapsWithSole [G] e pos.line X.env=pure false:=by rfl)(hw:swappedStores [G] e X.env=pure none:=by rfl)
  (V:(Vx [G] X.env).map (·.2)=[assign G X.env]:=by rfl):PS X (.Assign [G] e pos) (FE J g):=by
 intro pins s σ H D I h;refine wpAny_Assign_stores (cF (O pins s σ H _ I h) λv Z ⟨x,H1,I1,r1,q1⟩=>?_) hs hw;rw[V];exact cF (U pins Z σ H1 x v _ I1 r1 q1) λ_ s2 q=>q
theorem aJ{i:Nat}{x:UI}{e:UM}{G:TE}{pos':VJ}(J:X.N.Nodup)(O:X.N[i]?=Yc x)(U:Loc X.env.scope x)(V:PE X e G)(hs:Wf e (Yc (.Name x pos')) pos.line X.env=pure false:=by rfl)(Z:X.fn x=true\/X.env.scope.names.lookup x=Yc .local:=by first|exact .inl rfl|exact .inr rfl|assumption) :
  PS X (.Assign [.Name x pos'] e pos) (FE G (wN i)):=by
 intro pins s σ H D I h;refine wpAny_Assign_Name (cF (V pins s σ H _ I h) λv s1 ⟨y,H1,I1,r1,q1⟩=>?_) hs;exact mU I1 J O U r1 (λs2 I2=>⟨_,H1,I2,q1⟩) Z
def Oh(i:Nat)(G:TE)(J:Oe):TS:=λD σ H=>∃x,σ[i]?=Yc (Yc x)/\G σ H λy O=>J x y O λz U=>D.nx (σ.set i (Yc z)) U
theorem qQ{i:Nat}{x:UI}{e:UM}{te:TE}{op:Operator}{ti:Oe}{pos':VJ}(hN:X.N.Nodup)(hi:X.N[i]?=Yc x)(V:Loc X.env.scope x)(he:PE X e te)(ho:PIp X op ti)(hf:X.fn x=true\/X.env.scope.names.lookup x=Yc .local:=by first|exact .inl rfl|exact .inr rfl|assumption) :
  PS X (.AugAssign (.Name x pos') op e pos) (Oh i te ti):=by
 intro pins s σ H D I h;obtain⟨v,e1,h⟩:=h;obtain⟨m,hn,hl⟩:=I.loc;have Z:Nt X.env.scope x:=by rcases V with k|k;exact .inl k;exact .inr (.inl k)
 obtain⟨u,r,l⟩:=hl i x v hi e1 Z;refine wpAny_AugAssign_Name ?_;have go:wpAny (model X.prog X.w) X.A (eval e X.env) (λw O=>wpAny (model X.prog X.w) X.A (WS op u w) (λr U=>wpAny (model X.prog X.w) X.A (Xq X.env x r) (λ_=>SP X pins D .next) X.xe U) X.xe O) X.xe s:=by
  refine cF (he pins s σ H _ I h) λw s1 zq=>?_;obtain⟨y,H1,I1,r1,q1⟩:=zq;refine cF (ho pins s1 σ H1 v y u w _ I1 r r1 q1) λz s2 zq=>?_;obtain⟨zv,H2,I2,r2,q2⟩:=zq;exact mU I2 hN hi V r2 (λs3 I3=>⟨_,H2,I3,q2⟩) hf
 rcases l with⟨G,hm⟩|⟨G,c,hc,J⟩
 .exact WH I.ok.kind G hn hm go
 rcases G with G|G
 .exact WX I.ok.kind G hc J go
 rcases V with k|k
 .have:X.env.scope.names.lookup x=Yc .free:=G;rw[k]at this;cases this
 have:X.env.scope.names.lookup x=Yc .free:=G;rw[k]at this;cases this
end
section
variable {X:Cx}{pos:VJ}
def CG(c:TT)(tb:TS):TS:=λD σ H=>∃W:Nat->St->Hp->Prop,(∃m,W m σ H)/\∀m σ H,W m σ H ->
 c σ H λb J=>if b=true then∃N:St->Hp->Prop,(∀G H',N G H'->∃m',m'<m/\W m' G H')/\tb { D with nx:=N,ct:=N,bk:=D.nx } σ J else D.nx σ J
theorem mY{c:UM}{body:List Vp}{tc:TT}{tb:TS}(hp:PassesOwn (model X.prog X.w) X.A X.env X.xe)(hc:PT X c tc)(hb:mV X body tb):PS X (.While c body [] pos) (CG tc tb):=by
 intro pins s σ H D I h;obtain⟨W,⟨m0,w0⟩,turn⟩:=h;refine wpAny_While (codeAny_whileLoop (λn s'=>∃O H',Inv X pins O H' s'/\W n O H') ?_ m0 ⟨σ,H,I,w0⟩);rintro n s1 ⟨J,H1,I1,w1⟩;refine Vb hp (cF (hc pins s1 J H1 _ I1 (turn n J H1 w1)) λb s2 ⟨H2,I2,V⟩=>?_);cases b with
 |true =>
  obtain⟨N,hN,V⟩:=V;rw[Uo rfl];refine Vb hp (cF (hb pins s2 J H2 _ I2 V) λf s3 Z=>?_);cases f with
  |next =>
   obtain⟨G,U,I3,n3⟩:=Z;obtain⟨m',hm,w3⟩:=hN G U n3;exact⟨m',hm,G,U,I3,w3⟩
  |cont =>
   obtain⟨G,U,I3,n3⟩:=Z;obtain⟨m',hm,w3⟩:=hN G U n3;exact⟨m',hm,G,U,I3,w3⟩
  |brk=>exact Z
  |ret v=>exact Z
 |false =>
  rw[Uk O4];exact Va ⟨J,H2,I2,V⟩
end
structure It where
 go:Nat->Hp->Prop
 Il:Nat->Hp->V->Hp->Prop
 stop:Nat->Hp->Prop
def iK(X:Cx)(pins:List (Um×U6))(H:Hp)(b:Um):Prop :=
 H b=none/\b≠X.env.locals/\b∉X.fs/\(b∈X.ex\/X.s₀.heap.objs.size<=b)/\(∀x c,X.env.cells.lookup x=Yc c->c≠b)/\∀p∈X.pn++pins,p.1≠b
theorem Inv.uP{X:Cx}{pins:List (Um×U6)}{σ:St}{H H':Hp}{s:Uq}{b:Um}(I:Inv X pins σ H s)(D:s.heap.objs.size<=b)(G:H' b=none):iK X pins H' b:=by
 refine⟨G,QS (Pt I.lt D),I.N7 D,.inr (PD I.sz D),λx c e z=>?_,λp hp z=>?_⟩
 .obtain⟨v,q⟩:=I.cell x c e;exact Us (Pt q.lt (by rw[z];exact D)) (QF _)
 exact Us (Pt (O3 (I.pin p hp).1) (by rw[z];exact D)) (QF _)
structure Turn(P:Ux) (w:UA) (K:OM) (tg:UM) (J:It) (fp:List Um) (it:Um) (tn:Nat->UH->Prop):Prop where
 mem:it∈fp
 obj:∀i h,tn i h->∀b∈fp,∃o,h.get? b=Yc o/\∀v,o.data≠.cell v
 keep:∀i h h',tn i h->(∀b∈fp,∀o,h.get? b=Yc o->h'.get? b=Yc o)->tn i h'
 item:∀(X:Cx),X.prog=P->X.w=w->X.K=K->X.calm=true->∀(i:Nat) (pins:List (Um×U6)) (s:Uq) (σ:St) (H:Hp) (E:Uj->Uq->Prop),Inv X pins σ H s->(∀b∈fp,iK X pins H b)->tn i s.heap->J.go i H ->
  wpAny (model P w) X.A (pyNext (.ref it)) (λr s1=>∃u,r=Yc u /\
   wpAny (model P w) X.A (Wy tg (.ref it) u) (λ_ s2=>∃x H',Inv X pins σ H' s2/\RelV x u/\J.Il i H x H'/\tn (i+1) s2.heap/\∀b∈fp,H' b=none) E s1) E s
 done:∀(X:Cx),X.prog=P->X.w=w->X.K=K->X.calm=true->∀(i:Nat) (pins:List (Um×U6)) (s:Uq) (σ:St) (H:Hp) (E:Uj->Uq->Prop),Inv X pins σ H s->(∀b∈fp,iK X pins H b)->tn i s.heap->J.stop i H ->
  wpAny (model P w) X.A (pyNext (.ref it)) (λr s1=>r=none/\Inv X pins σ H s1) E s
 self:∀(A:UG) (i:Nat) (s:Uq) (Q:Uj->Uq->Prop) (E:Uj->Uq->Prop),tn i s.heap->Q (.ref it) s->wpAny (model P w) A (pyIter (.ref it)) Q E s
noncomputable abbrev TI:=St->Hp->(It->Hp->Prop)->Prop
def PIE(X:Cx)(pins:List (Um×U6))(σ:St)(U:UM)(R:It->Hp->Prop)(D:Uj)(G:Uq):Prop :=
 ∃(O:Um) (fp:List Um) (tn:Nat->UH->Prop) (J:It) (H':Hp),D=.ref O/\Inv X pins σ H' G/\Turn X.prog X.w X.K U J fp O tn/\tn 0 G.heap/\(∀b∈fp,iK X pins H' b)/\R J H'
def PI(X:Cx)(D iter:UM)(G:TI):Prop :=
 ∀(pins:List (Um×U6)) (s:Uq) (σ:St) (H:Hp) (R:It->Hp->Prop),Inv X pins σ H s->G σ H R ->
  wpAny (model X.prog X.w) X.A (eval iter X.env) (λv J=>wpAny (model X.prog X.w) X.A (pyIter v) (PIE X pins σ D R) X.xe J) X.xe s
theorem CH {M : WZ}{A : UG}{E : Uj -> Uq -> Prop}{s : Uq}{G : UM}{J : Um}{u : Uj}{o : U6}{n : String}{O : Array Uj}{Q : Unit -> Uq -> Prop}(U : s.heap.get? J=Yc o)(V : o.cls=.type n)(hd : o.data=.fields O)
    (Z:["enumerate", "zip", "dict_itemiterator", "dict_reverseitemiterator", "odict_iterator", "itertools.zip_longest", "itertools.pairwise"].contains n=false) (D:Q () s): wpAny M A (Wy G (.ref J) u) Q E s:=by
  unfold Wy;cases G <;> first
    |exact Ur D
    | (cases u <;> first
        |exact Ur D
        | (refine Uh (wpAny_load U ?_)
           rw[V,hd];show wpAny M A (if(["enumerate", "zip", "dict_itemiterator", "dict_reverseitemiterator", "odict_iterator", "itertools.zip_longest", "itertools.pairwise"].contains n&&O[0]? == some (rawInt _))=true then _ else _) Q E s;rw[Uk (by intro h; rw[Z,Qw]at h; cases h)];exact Ur D))
noncomputable def Kg(K:OM)(a:Um):It :=
 ⟨λi H=>∃xs x,aZ K H a xs/\xs[i]?=Yc x,λi H x H'=>H'=H/\∀xs,aZ K H a xs->xs[i]?=Yc x,λi H=>∃xs,aZ K H a xs/\xs.length<=i⟩
noncomputable def Kh(K:OM)(a:Um):It :=
 ⟨λi H=>∃xs x,br K H a xs/\xs[i]?=Yc x,λi H x H'=>H'=H/\∀xs,br K H a xs->xs[i]?=Yc x,λi H=>∃xs,br K H a xs/\xs.length<=i⟩
noncomputable def Hk(lo:Int)(n:Nat):It:=⟨λi _=>i<n,λi H x H'=>H'=H/\x=.int (lo+i),λi _=>n<=i⟩
theorem Bj{P:Ux}{w:UA}{K:OM}{tg:UM}(a D:Um):Turn P w K tg (Kg K a) [D] D (λi h=>h.IsListIter D a i) where
 mem:=by simp
 obj:=λi h st b G=>by
  have e:b=D:=by simpa using G
  subst e;obtain⟨o,e,c,d⟩:=st;exact⟨o,e,λv z=>by rw[d]at z;cases z⟩
 keep:=λi h h' st k=>st.at λo e=>k D (by simp) o e
 item:=by
  intro X V hw Z hc i pins s σ H E I O st hg;subst V hw Z;obtain⟨xs,x,U,hx⟩:=hg;obtain⟨its,rv,p,hz⟩:=I.list U;obtain⟨u,hu,ru⟩:=rv.get hx;obtain⟨f0,f1,f2,f3,f4,f5⟩:=O D (by simp);refine wpAny_pyNext_list_item st p.isList (x:=u) (by simpa using hu) λh' J sb=>?_;have I1:Inv X pins σ H { s with heap:=h' }:=I.turned (t':=s.toks) (λb o G e=>(sb.2 b G).trans e) f0 f1 f3 f4 f5;obtain⟨o,e,c,d⟩:=id J;exact⟨u,rfl,CH (s:={ s with heap:=h' }) e c d (by decide) ⟨x,H,I1,ru,⟨rfl,λys hy=>by rw[I.CD hy U];exact hx⟩,J,λb G=>(O b G).1⟩⟩
 done:=by
  intro X V hw Z hc i pins s σ H E I O st hg;subst V hw Z;obtain⟨xs,U,hx⟩:=hg;obtain⟨its,rv,p,hz⟩:=I.list U;obtain⟨f0,f1,f2,f3,f4,f5⟩:=O D (by simp);have hl:=rv.length;exact wpAny_pyNext_list_end (I.ok.hd hc) st p.isList (by simp;omega) λh' eb=>⟨rfl,I.turned (t':=s.toks) (λb o G e=>eb b o G e) f0 f1 f3 f4 f5⟩
 self:=λ_ _ _ _ _ st h=>wpAny_pyIter_listiter st h
theorem yH{P:Ux}{w:UA}{K:OM}{tg:UM}(a D:Um):Turn P w K tg (Kh K a) [D] D (λi h=>h.IsTupleIter D a i) where
 mem:=by simp
 obj:=λi h st b G=>by
  have e:b=D:=by simpa using G
  subst e;obtain⟨o,e,c,d⟩:=st;exact⟨o,e,λv z=>by rw[d]at z;cases z⟩
 keep:=λi h h' st k=>st.at λo e=>k D (by simp) o e
 item:=by
  intro X V hw Z hc i pins s σ H E I O st hg;subst V hw Z;obtain⟨xs,x,U,hx⟩:=hg;obtain⟨its,rv,p,hz⟩:=I.tuple U;obtain⟨u,hu,ru⟩:=rv.get hx;obtain⟨f0,f1,f2,f3,f4,f5⟩:=O D (by simp);refine wpAny_pyNext_tuple_item st (show s.heap.IsTuple a its.toArray from p) (x:=u) (by simpa using hu) λh' J sb=>?_;have I1:Inv X pins σ H { s with heap:=h' }:=I.turned (t':=s.toks) (λb o G e=>(sb.2 b G).trans e) f0 f1 f3 f4 f5;obtain⟨o,e,c,d⟩:=id J;exact⟨u,rfl,CH (s:={ s with heap:=h' }) e c d (by decide) ⟨x,H,I1,ru,⟨rfl,λys hy=>by rw[I.tS hy U];exact hx⟩,J,λb G=>(O b G).1⟩⟩
 done:=by
  intro X V hw Z hc i pins s σ H E I O st hg;subst V hw Z;obtain⟨xs,U,hx⟩:=hg;obtain⟨its,rv,p,hz⟩:=I.tuple U;obtain⟨f0,f1,f2,f3,f4,f5⟩:=O D (by simp);have hl:=rv.length;exact wpAny_pyNext_tuple_end (I.ok.hd hc) st (show s.heap.IsTuple a its.toArray from p) (by simp;omega) λh' eb=>⟨rfl,I.turned (t':=s.toks) (λb o G e=>eb b o G e) f0 f1 f3 f4 f5⟩
 self:=λ_ _ _ _ _ st h=>wpAny_pyIter_tupleiter st h
theorem yI{P:Ux}{w:UA}{K:OM}{tg:UM}(D:Um)(lo:Int)(n:Nat):Turn P w K tg (Hk lo n) [D] D (λi h=>IsRangeIter h D (lo+(i:Nat)*1) ((n:Int)-(i:Nat)) 1) where
 mem:=by simp
 obj:=λi h st b G=>by
  have e:b=D:=by simpa using G
  subst e;exact⟨_,st,λv z=>by
   have z':Data.fields _=Data.cell v:=z;cases z'⟩
 keep:=λi h h' st k=>k D (by simp) _ st
 item:=by
  intro X U hw V Z i pins s σ H E I O st hg;subst U hw V;obtain⟨f0,f1,f2,f3,f4,f5⟩:=O D (by simp);have W:=Walks.range (prog:=X.prog) (w:=X.w) (I.ok.hd Z) D lo 1 n;refine W.item i s _ _ hg st λv h' tk hv J kk=>?_;obtain⟨t,rfl⟩:=hv;have I1:Inv X pins σ H { s with heap:=h',toks:=tk }:=I.turned (λb o G e=>kk b o (by simpa using G) e) f0 f1 f3 f4 f5;refine⟨_,rfl,CH (s:={ s with heap:=h',toks:=tk }) (n:="range_iterator") J rfl rfl (by decide) ⟨.int (lo+i),H,I1,⟨t,?_⟩,⟨rfl,rfl⟩,J,λb G=>(O b G).1⟩⟩;rw[T8]
 done:=by
  intro X U hw V Z i pins s σ H E I O st hg;subst U hw V;obtain⟨f0,f1,f2,f3,f4,f5⟩:=O D (by simp);exact wpAny_pyNext_range_end (I.ok.hd Z) st (by have:n<=i:=hg;omega) λh' eb=>⟨rfl,I.turned (t':=s.toks) (λb o G e=>eb b o G e) f0 f1 f3 f4 f5⟩
 self:=λ_ _ _ _ _ st h=>wpAny_pyIter_rangeiter st h
section
variable {X:Cx}{tg:UM}
noncomputable def K9(K:OM)(G:TE):TI:=λσ H R=>G σ H λx D=>∃a,x=.ref a/\(∃xs,aZ K D a xs)/\R (Kg K a) D
noncomputable def Oi(K:OM)(G:TE):TI:=λσ H R=>G σ H λx D=>∃a,x=.ref a/\(∃xs,br K D a xs)/\R (Kh K a) D
theorem bp{l:UM}{J:TE}(O:PE X l J):PI X tg l (K9 X.K J):=by
 intro pins s σ H R I h;refine cF (O pins s σ H _ I h) λv D U=>?_;obtain⟨x,V,G,Z,q1⟩:=U;obtain⟨a,e,⟨xs,hq⟩,q⟩:=q1;subst e;cases Z;obtain⟨its,rv,p,hz⟩:=G.list hq;refine VC p.isList ?_;refine⟨D.heap.objs.size,[D.heap.objs.size],_,_,V,rfl,G.kept (t':=D.toks) λb o e=>OJ _ e,Bj a _,⟨_,O6 _ rfl,rfl,rfl⟩,λb hb=>?_,q⟩;have e:b=D.heap.objs.size:=by simpa using hb
 subst e;exact G.uP (ON _) (G.bN.fresh (ON _))
theorem yJ{l:UM}{J:TE}(O:PE X l J):PI X tg l (Oi X.K J):=by
 intro pins s σ H R I h;refine cF (O pins s σ H _ I h) λv D U=>?_;obtain⟨x,V,G,Z,q1⟩:=U;obtain⟨a,e,⟨xs,hq⟩,q⟩:=q1;subst e;cases Z;obtain⟨its,rv,p,hz⟩:=G.tuple hq;refine U9 (show D.heap.IsTuple a its.toArray from p) ?_;refine⟨D.heap.objs.size,[D.heap.objs.size],_,_,V,rfl,G.kept (t':=D.toks) λb o e=>OJ _ e,yH a _,⟨_,O6 _ rfl,rfl,rfl⟩,λb hb=>?_,q⟩;have e:b=D.heap.objs.size:=by simpa using hb
 subst e;exact G.uP (ON _) (G.bN.fresh (ON _))
theorem wO{pins:List (Um×U6)}{σ:St}{H:Hp}{s:Uq}{R:It->Hp->Prop}{E:Uj->Uq->Prop}{lo D:Int}{t u v:XO}{tk:Nat}(I:Inv X pins σ H s)(J:-(2 ^ 62)<=lo)(O:lo<2 ^ 62)(U:-(2 ^ 62)<=D)(V:D<2 ^ 62)
  (q:R (Hk lo (D-lo).toNat) H):wpAny (model X.prog X.w) X.A (pyIter (.ref s.heap.objs.size)) (PIE X pins σ tg R) E { s with heap:=s.heap.push { cls:=.type "range",data:=.fields #[.int lo t,.int D u,.int 1 v] },toks:=tk }:=by
 refine wpAny_pyIter_range (IsRange.new ..) (small_one J O U V) ?_;have G:Inv X pins σ H { s with heap:=s.heap.push { cls:=.type "range",data:=.fields #[.int lo t,.int D u,.int 1 v] },toks:=tk }:=I.kept λb o e=>OJ _ e;refine⟨(s.heap.push { cls:=.type "range",data:=.fields #[.int lo t,.int D u,.int 1 v] }).objs.size,[(s.heap.push { cls:=.type "range",data:=.fields #[.int lo t,.int D u,.int 1 v] }).objs.size],_,_,H,rfl,
  G.kept (t':=tk) λb o e=>OJ _ e,yI _ lo (D-lo).toNat,?_,λb Z=>?_,q⟩
 .have e1:lo+((0:Nat):Int)*1=lo:=by simp
  have e2:(((D-lo).toNat:Nat):Int)-((0:Nat):Int)=Builtin.Range.rangeSize lo D 1:=by rw[rangeSize_one];split <;> omega
  show IsRangeIter _ _ (lo+((0:Nat):Int)*1) ((((D-lo).toNat:Nat):Int)-((0:Nat):Int)) 1;rw[e1,e2];exact O6 _ rfl
 have e:b=(s.heap.push { cls:=.type "range",data:=.fields #[.int lo t,.int D u,.int 1 v] }).objs.size:=by simpa using Z
 subst e;exact G.uP (ON _) (G.bN.fresh (ON _))
noncomputable def La(D:TA):TI:=λσ H R=>D σ H λG J=>∃j:Int,G=[.int j]/\-(2 ^ 62)<=j/\j<2 ^ 62/\R (Hk 0 j.toNat) J
noncomputable def Lb(D:TA):TI:=λσ H R=>D σ H λG J=>∃i j:Int,G=[.int i,.int j]/\(-(2 ^ 62)<=i/\i<2 ^ 62/\-(2 ^ 62)<=j/\j<2 ^ 62)/\R (Hk i (j-i).toNat) J
theorem fU{a:UM}{G:TA}{p pos:VJ}(J:Gl X "range")(O:X.mg "range" = none)(U:PA X [a] G)(hs:UC [a] X.env=[(false,eval a X.env)]:=by rfl):PI X tg (.Call (.Name "range" p) [a] [] pos) (La G):=by
 intro pins s σ H R I h;refine Call_ (my I J O boot_range (QJ (cF (U pos pins s σ H _ I h) λus s1 ⟨vs,H1,V,Z,D⟩=>?_) hs rfl));obtain⟨j,e,D,q2,q⟩:=D;subst e;cases Z with
 |cons r rr =>
  cases rr;obtain⟨t,rfl⟩:=r;exact call_range_1 (wO V (by omega) (by omega) D q2 (by simpa using q))
theorem tT{a b:UM}{O:TA}{p pos:VJ}(U:Gl X "range")(V:X.mg "range" = none)(Z:PA X [a,b] O)(hs:UC [a,b] X.env=[(false,eval a X.env),(false,eval b X.env)]:=by rfl)(D:UC [b] X.env=[(false,eval b X.env)]:=by rfl) :
  PI X tg (.Call (.Name "range" p) [a,b] [] pos) (Lb O):=by
 intro pins s σ H R I h;refine Call_ (my I U V boot_range (QJ (cF (Z pos pins s σ H _ I h) λus s1 ⟨vs,H1,I1,r1,G⟩=>?_) (by rw[hs,D]) (by rw[D];rfl)));obtain⟨i,j,e,⟨G,q2,q3,q4⟩,q⟩:=G;subst e;cases r1 with
 |cons r J =>
  cases J with
  |cons r' J =>
   cases J;obtain⟨t,rfl⟩:=r;obtain⟨t',rfl⟩:=r';exact call_range_2 (wO I1 G q2 q3 q4 q)
def Oj(U:TI)(g:TG)(tb:TS):TS:=λD σ H=>U σ H λJ V=>∃W:Nat->Nat->St->Hp->Prop,(∃m,W 0 m σ V)/\∀i m σ H,W i m σ H ->
 (J.stop i H/\D.nx σ H)\/(J.go i H/\∃N:St->Hp->Prop,(∀G H',N G H'->∃m',m'<m/\W (i+1) m' G H')/\∀x H',J.Il i H x H'->g x σ H' λO Z=>tb { D with nx:=N,ct:=N,bk:=D.nx } O Z)
noncomputable def ox(fp:List Um)(h:UH):List (Um×U6):=fp.filterMap λb=>(h.get? b).map λo=>(b,o)
theorem gD{fp:List Um}{h:UH}{b:Um}{o:U6}(D:b∈fp)(e:h.get? b=Yc o):(b,o)∈ox fp h:=RY.mpr ⟨b,D,by rw[e];rfl⟩
theorem Bk{fp:List Um}{h:UH}{p:Um×U6}(hp:p∈ox fp h):p.1∈fp/\h.get? p.1=Yc p.2:=by
 obtain⟨b,D,e⟩:=RY.mp hp;cases q:h.get? b with
 |none=>rw[q]at e;cases e
 |some o =>
  rw[q]at e;have G:(b,o)=p:=Option.some.inj e;subst G;exact⟨D,q⟩
theorem Inv.pinned{pins:List (Um×U6)}{σ:St}{H:Hp}{s:Uq}{fp:List Um}(I:Inv X pins σ H s)(J:∀b∈fp,iK X pins H b)(O:∀b∈fp,∃o,s.heap.get? b=Yc o/\∀v,o.data≠.cell v):Inv X (pins++ox fp s.heap) σ H s :=
 I.uN λp hp=>(OY.mp hp).elim (λz=>I.pin p (OZ _ z)) λz=>by
  obtain⟨D,e⟩:=Bk z;obtain⟨U,V,Z,_⟩:=J p.1 D;obtain⟨o,G,d⟩:=O p.1 D;rw[e]at G;cases G;exact⟨e,U,V,Z,d⟩
theorem Inv.jl{pins pl:List (Um×U6)}{σ:St}{H:Hp}{s:Uq}(I:Inv X (pins++pl) σ H s):Inv X pins σ H s:=I.uN λp hp=>I.pin p (OZ _ (Pn _ hp))
theorem b6{iter:UM}{body:List Vp}{wi:TI}{g:TG}{tb:TS}{pos:VJ}(hp:PassesOwn (model X.prog X.w) X.A X.env X.xe)(hc:X.calm=true)(hi:PI X tg iter wi)(hg:PG X tg g)(O:mV X body tb)
  (hs:∀x,V8 iter X.env x=pure x:=by intro _;rfl):PS X (.For tg iter body [] pos) (Oj wi g tb):=by
 intro pins s σ H D I h;refine wpAny_For (cF (hi pins s σ H _ I h) λv s1 h1=>cF h1 λitv s2 h2=>?_) hs;obtain⟨it,fp,tn,J,H2,e,I2,T,Im,f2,W,⟨m0,w0⟩,turn⟩:=h2;subst e;have U:∀{H':Hp},(∀b∈fp,H' b=none)->∀b∈fp,iK X pins H' b:=λhn b O=>⟨hn b O,(f2 b O).2⟩
 refine codeAny_forLoop_any (λn s'=>∃i V H',Inv X pins V H' s'/\tn i s'.heap/\(∀b∈fp,H' b=none)/\W i n V H') ?_ m0 ⟨0,σ,H2,I2,Im,λb O=>(f2 b O).1,w0⟩;rintro n s3 ⟨i,Z,H3,I3,Hl,Hm,w3⟩;rcases turn i n Z H3 w3 with⟨stop,qn⟩|⟨go,N,hN,step⟩
 .refine Vb hp (cF (T.done X rfl rfl rfl hc i pins s3 Z H3 X.xe I3 (U Hm) Hl stop) λr s4 ⟨hr,I4⟩=>?_);subst hr;exact Va ⟨Z,H3,I4,qn⟩
 refine Vb hp (cF (T.item X rfl rfl rfl hc i pins s3 Z H3 X.xe I3 (U Hm) Hl go) λr s4 ⟨u,hr,h4⟩=>?_);subst hr;refine Vb hp (cF h4 λ_ s5 zq=>?_);obtain⟨x,H5,I5,r5,y5,CI,Lc⟩:=zq;have Ld:=I5.pinned (U Lc) (T.obj _ _ CI);refine Vb hp (cF (hg _ s5 Z H5 x u _ Ld r5 (step x H5 y5)) λ_ s6 ⟨σ6,H6,I6,q6⟩=>?_);refine Vb hp (cF (O _ s6 σ6 H6 _ I6 q6) λf s7 q7=>?_);have again:∀{G:St}{H7:Hp},Inv X (pins++ox fp s5.heap) G H7 s7->N G H7->∃m,m<n/\∃i V H',Inv X pins V H' s7/\tn i s7.heap/\(∀b∈fp,H' b=none)/\W i m V H':=λ{G H7} I7 n7=>by
  obtain⟨m',hm,w7⟩:=hN G H7 n7;refine⟨m',hm,i+1,G,H7,I7.jl,T.keep _ _ _ CI λb O o e=>(I7.pin (b,o) (OZ _ (OZ _ (gD O e)))).1,λb O=>?_,w7⟩;obtain⟨o,e,d⟩:=T.obj _ _ CI b O;exact(I7.pin (b,o) (OZ _ (OZ _ (gD O e)))).2.1
 cases f with
 |next=>obtain⟨G,H7,I7,n7⟩:=q7;exact again I7 n7
 |cont=>obtain⟨G,H7,I7,n7⟩:=q7;exact again I7 n7
 |brk=>obtain⟨G,H7,I7,q7⟩:=q7;exact⟨G,H7,I7.jl,q7⟩
 |ret v=>obtain⟨x7,G,H7,I7,r7,q7⟩:=q7;exact⟨x7,G,H7,I7.jl,r7,q7⟩
end
theorem cy{K:OM}{a:Um}{xs:List V}{g:TG}{tb:TS}{D:Ends}{σ:St}{H:Hp}(Pv:Nat->St->Hp->Prop)(Z:Pv 0 σ H)(hl:∀i σ H,i<=xs.length->Pv i σ H->aZ K H a xs)
  (hs:∀i x σ H,xs[i]?=Yc x->Pv i σ H->g x σ H λG U=>tb { D with nx:=Pv (i+1),ct:=Pv (i+1),bk:=D.nx } G U) (hd:∀σ H,Pv xs.length σ H->D.nx σ H) :
  ∃W:Nat->Nat->St->Hp->Prop,(∃m,W 0 m σ H)/\∀i m σ H,W i m σ H ->
   ((Kg K a).stop i H/\D.nx σ H)\/((Kg K a).go i H/\∃N:St->Hp->Prop,(∀J H',N J H'->∃m',m'<m/\W (i+1) m' J H')/\∀x H',(Kg K a).Il i H x H'->g x σ H' λG U=>tb { D with nx:=N,ct:=N,bk:=D.nx } G U):=by
 refine⟨λi m σ H=>m=xs.length-i/\i<=xs.length/\Pv i σ H,⟨xs.length,by simp,PH _,Z⟩,?_⟩;rintro i m σ H ⟨rfl,hi,p⟩;have q:=hl i σ H hi p;by_cases O:i<xs.length
 .refine .inr ⟨⟨xs,xs[i],q,by simp[O]⟩,Pv (i+1),λJ H' p'=>⟨xs.length-(i+1),by omega,rfl,O,p'⟩,λx H' y=>?_⟩;obtain⟨e,y⟩:=y;subst e;exact hs i x σ _ (y xs q) p
 have e:i=xs.length:=by omega
 subst e;exact .inl ⟨⟨xs,q,ON _⟩,hd σ H p⟩
theorem FG{K:OM}{a:Um}{xs:List V}{g:TG}{tb:TS}{D:Ends}{σ:St}{H:Hp}(Pv:Nat->St->Hp->Prop)(Z:Pv 0 σ H)(hl:∀i σ H,i<=xs.length->Pv i σ H->br K H a xs)
  (hs:∀i x σ H,xs[i]?=Yc x->Pv i σ H->g x σ H λG U=>tb { D with nx:=Pv (i+1),ct:=Pv (i+1),bk:=D.nx } G U) (hd:∀σ H,Pv xs.length σ H->D.nx σ H) :
  ∃W:Nat->Nat->St->Hp->Prop,(∃m,W 0 m σ H)/\∀i m σ H,W i m σ H ->
   ((Kh K a).stop i H/\D.nx σ H)\/((Kh K a).go i H/\∃N:St->Hp->Prop,(∀J H',N J H'->∃m',m'<m/\W (i+1) m' J H')/\∀x H',(Kh K a).Il i H x H'->g x σ H' λG U=>tb { D with nx:=N,ct:=N,bk:=D.nx } G U):=by
 refine⟨λi m σ H=>m=xs.length-i/\i<=xs.length/\Pv i σ H,⟨xs.length,by simp,PH _,Z⟩,?_⟩;rintro i m σ H ⟨rfl,hi,p⟩;have q:=hl i σ H hi p;by_cases O:i<xs.length
 .refine .inr ⟨⟨xs,xs[i],q,by simp[O]⟩,Pv (i+1),λJ H' p'=>⟨xs.length-(i+1),by omega,rfl,O,p'⟩,λx H' y=>?_⟩;obtain⟨e,y⟩:=y;subst e;exact hs i x σ _ (y xs q) p
 have e:i=xs.length:=by omega
 subst e;exact .inl ⟨⟨xs,q,ON _⟩,hd σ H p⟩
theorem fV{lo:Int}{n:Nat}{g:TG}{tb:TS}{D:Ends}{σ:St}{H:Hp}(Pv:Nat->St->Hp->Prop)(V:Pv 0 σ H)
  (hs:∀i σ H,i<n->Pv i σ H->g (.int (lo+i)) σ H λG U=>tb { D with nx:=Pv (i+1),ct:=Pv (i+1),bk:=D.nx } G U) (hd:∀σ H,Pv n σ H->D.nx σ H) :
  ∃W:Nat->Nat->St->Hp->Prop,(∃m,W 0 m σ H)/\∀i m σ H,W i m σ H ->
   ((Hk lo n).stop i H/\D.nx σ H)\/((Hk lo n).go i H/\∃N:St->Hp->Prop,(∀J H',N J H'->∃m',m'<m/\W (i+1) m' J H')/\∀x H',(Hk lo n).Il i H x H'->g x σ H' λG U=>tb { D with nx:=N,ct:=N,bk:=D.nx } G U):=by
 refine⟨λi m σ H=>m=n-i/\i<=n/\Pv i σ H,⟨n,by simp,PH _,V⟩,?_⟩;rintro i m σ H ⟨rfl,hi,p⟩;by_cases O:i<n
 .refine .inr ⟨O,Pv (i+1),λJ H' Z=>⟨n-(i+1),by omega,rfl,O,Z⟩,λx H' y=>?_⟩;obtain⟨e,y⟩:=y;subst e y;exact hs i σ _ O p
 have e:i=n:=by omega
 subst e;exact .inl ⟨ON _,hd σ H p⟩
theorem qR{c:TT}{tb:TS}{D:Ends}{σ:St}{H:Hp}(Pv:St->Hp->Prop)(μ:St->Hp->Nat)(U:Pv σ H)
  (hs:∀σ H,Pv σ H->c σ H λb J=>if b=true then tb { D with nx:=λG H'=>Pv G H'/\μ G H'<μ σ H,ct:=λG H'=>Pv G H'/\μ G H'<μ σ H,bk:=D.nx } σ J else D.nx σ J)
  (mono:∀σ H Q O,(∀b J,Q b J->O b J)->c σ H Q->c σ H O):CG c tb D σ H:=by
 refine⟨λm σ H=>m=μ σ H/\Pv σ H,⟨_,rfl,U⟩,?_⟩;rintro m σ H ⟨rfl,p⟩;refine mono σ H _ _ (λb J q=>?_) (hs σ H p);cases b with
 |true=>exact⟨_,λG H' ⟨V,l⟩=>⟨_,l,rfl,V⟩,q⟩
 |false=>exact q
noncomputable abbrev R2:=V->V->Hp->VK->Prop
def kA(X:Cx)(f:Uj->Uj->Sem Uj)(r:R2):Prop :=
 ∀(pins:List (Um×U6)) (s:Uq) (σ:St) (H:Hp) (x y:V) (v u:Uj) (Q:VK),Inv X pins σ H s->RelV x v->RelV y u->r x y H Q ->
  wpAny (model X.prog X.w) X.A (f v u) (EP X pins σ Q) X.xe s
def Om(X:Cx)(f:Uj->Sem Uj)(r:V->Hp->VK->Prop):Prop :=
 ∀(pins:List (Um×U6)) (s:Uq) (σ:St) (H:Hp) (x:V) (v:Uj) (Q:VK),Inv X pins σ H s->RelV x v->r x H Q ->
  wpAny (model X.prog X.w) X.A (f v) (EP X pins σ Q) X.xe s
def fW(X:Cx)(f:Uj)(r:List V->Hp->VK->Prop):Prop :=
 ∀(pins:List (Um×U6)) (s:Uq) (σ:St) (H:Hp) (xs:List V) (D:List Uj) (Q:VK),Inv X pins σ H s->Vals xs D->r xs H Q ->
  wpAny (model X.prog X.w) X.A (call f D) (EP X pins σ Q) X.xe s
def Ki(r:R2)(D tb:TE):TE:=λσ H Q=>D σ H λx G=>tb σ G λy J=>r x y J Q
def tUn(r:V->Hp->VK->Prop)(D:TE):TE:=λσ H Q=>D σ H λx G=>r x G Q
def rI(C:Int->Int->Prop)(g:Int->Int->V):R2:=λx y H Q=>∃i j,x=.int i/\y=.int j/\C i j/\Q (g i j) H
def FH(g:Int->Int->V):R2:=λx y H Q=>∃i j,x=.int i/\y=.int j/\Q (g i j) H
def rU(g:Int->V):V->Hp->VK->Prop:=λx H Q=>∃i,x=.int i/\Q (g i) H
section
variable {X:Cx}{a b c:UM}{ta tb tc:TE}{pos:VJ}
theorem Io(ha:PE X a ta)(hb:PE X b tb){pins:List (Um×U6)}{s:Uq}{σ:St}{H:Hp}{R:V->V->Hp->Prop}(I:Inv X pins σ H s)
  (h:ta σ H λx U=>tb σ U λy D=>R x y D) {Q:Uj->Uq->Prop}{f:Uj->Uj->Sem Uj}
  (hf:∀v u O x y D,Inv X pins σ D O->RelV x v->RelV y u->R x y D->wpAny (model X.prog X.w) X.A (f v u) Q X.xe O) :
  wpAny (model X.prog X.w) X.A (eval a X.env) (λv G=>wpAny (model X.prog X.w) X.A (eval b X.env) (λu J=>wpAny (model X.prog X.w) X.A (f v u) Q X.xe J) X.xe G) X.xe s:=by
 refine cF (ha pins s σ H _ I h) λv s1 Z=>?_;obtain⟨x,U,I1,r1,q1⟩:=Z;refine cF (hb pins s1 σ U _ I1 q1) λu O Z=>?_;obtain⟨y,D,I2,r2,q2⟩:=Z;exact hf v u O x y D I2 r1 r2 q2
theorem aT{op:Operator}{r:R2}(D:kA X (Vu op) r)(G:PE X a ta)(J:PE X b tb):PE X (.BinOp a op b pos) (Ki r ta tb):=by
 intro pins s σ H Q I h;exact wpAny_BinOp (Io G J I h λv u O x y U V Z ry q=>D pins O σ U x y v u Q V Z ry q)
theorem Ab{op:UnaryOp}{r:V->Hp->VK->Prop}(D:Om X (unaryOp op) r)(G:PE X a ta):PE X (.UnaryOp op a pos) (tUn r ta):=by
 intro pins s σ H Q I h;exact UnaryOp_ (cF (G pins s σ H _ I h) λv J ⟨x,O,U,Z,q1⟩=>D pins J σ O x v Q U Z q1)
theorem Le{f:Uj->Uj->Sem Uj}{C:Int->Int->Prop}{g:Int->Int->Int}
  (rule:∀(i j:Int) (t u:XO) (s:Uq) (Q:Uj->Uq->Prop) (E:Uj->Uq->Prop),C i j->Q (.int (g i j) s.toks) { s with toks:=s.toks+1 }->wpAny (model X.prog X.w) X.A (f (.int i t) (.int j u)) Q E s) :
  kA X f (rI C λi j=>.int (g i j)):=by
 intro pins s σ H x y v u Q I D G h;obtain⟨i,j,rfl,rfl,J,q⟩:=h;obtain⟨t,rfl⟩:=D;obtain⟨t',rfl⟩:=G;exact rule i j t t' s _ _ J ⟨.int (g i j),H,I.tok _,⟨_,rfl⟩,q⟩
theorem FI{f:Uj->Uj->Sem Uj}{g:Int->Int->Int}
  (rule:∀(i j:Int) (t u:XO) (s:Uq) (Q:Uj->Uq->Prop) (E:Uj->Uq->Prop),Q (.int (g i j) s.toks) { s with toks:=s.toks+1 }->wpAny (model X.prog X.w) X.A (f (.int i t) (.int j u)) Q E s) :
  kA X f (FH λi j=>.int (g i j)):=by
 intro pins s σ H x y v u Q I D G h;obtain⟨i,j,rfl,rfl,q⟩:=h;obtain⟨t,rfl⟩:=D;obtain⟨t',rfl⟩:=G;exact rule i j t t' s _ _ ⟨.int (g i j),H,I.tok _,⟨_,rfl⟩,q⟩
theorem Ip{f:Uj->Uj->Sem Uj}{g:Int->Int->Bool}
  (rule:∀(i j:Int) (t u:XO) (s:Uq) (Q:Uj->Uq->Prop) (E:Uj->Uq->Prop),Q (.bool (g i j)) s->wpAny (model X.prog X.w) X.A (f (.int i t) (.int j u)) Q E s) :
  kA X f (FH λi j=>.bl (g i j)):=by
 intro pins s σ H x y v u Q I D G h;obtain⟨i,j,rfl,rfl,q⟩:=h;obtain⟨t,rfl⟩:=D;obtain⟨t',rfl⟩:=G;exact rule i j t t' s _ _ ⟨.bl (g i j),H,I,rfl,q⟩
def Oo(i j:Int):Prop:=0<j/\j<1073741824
def Oq(i j:Int):Prop:=0<=j/\j<=1000000/\i.natAbs<2 ^ 64
def Bm(i j:Int):Prop:=(-(2 ^ 64)<i/\i<2 ^ 64)\/(-(2 ^ 64)<j/\j<2 ^ 64)
theorem Bm.ok{i j:Int}(h:Bm i j):IntMulOk i j:=by
 rcases h with⟨D,G⟩|⟨D,G⟩
 .exact .of_left (intBits_le_64 D G)
 exact .of_right (intBits_le_64 D G)
theorem eG:kA X (Vu .Add) (FH λi j=>.int (i+j)):=FI λ_ _ _ _ _ _ _ q=>add_int q
theorem kE:kA X (Vu .Sub) (FH λi j=>.int (i-j)):=FI λ_ _ _ _ _ _ _ q=>sub_int q
theorem fo:kA X (Vu .Mult) (rI Bm λi j=>.int (i*j)):=Le λ_ _ _ _ _ _ _ D q=>mul_int q D.ok
theorem dP:kA X (Vu .FloorDiv) (rI Oo λi j=>.int (i/j)):=Le λi j _ _ _ _ _ D q=>by
 have G:(0:Int)<j:=D.1;have J:j<1073741824:=D.2;exact floordiv_int (by omega) (by rw[Int.fdiv_eq_ediv_of_nonneg i (by omega)];exact q) (.inl (PyProof.noPylong_small (by omega)))
theorem eH:kA X (Vu .Mod) (rI (λ_ j=>0<j) λi j=>.int (i%j)):=Le λi j _ _ _ _ _ D q=>by
 have G:(0:Int)<j:=D;exact mod_int' (by omega) (by rw[Int.fmod_eq_emod_of_nonneg i (by omega)];exact q)
theorem CJ:kA X (Vu .Pow) (rI Oq λi j=>.int (i ^ j.toNat)):=Le λ_ _ _ _ _ _ _ D q=>pow_int_small D.1 D.2.1 D.2.2 q
theorem Ac:kA X (WS .Add) (FH λi j=>.int (i+j)):=FI λ_ _ _ _ _ _ _ q=>iadd_int q
theorem FJ:kA X (WS .Sub) (FH λi j=>.int (i-j)):=FI λ_ _ _ _ _ _ _ q=>isub_int q
theorem Ad:kA X (WS .Mult) (rI Bm λi j=>.int (i*j)):=Le λ_ _ _ _ _ _ _ D q=>imul_int q D.ok
theorem unI{f:Uj->Sem Uj}{g:Int->Int}
  (rule:∀(i:Int) (t:XO) (s:Uq) (Q:Uj->Uq->Prop) (E:Uj->Uq->Prop),Q (.int (g i) s.toks) { s with toks:=s.toks+1 }->wpAny (model X.prog X.w) X.A (f (.int i t)) Q E s) :
  Om X f (rU λi=>.int (g i)):=by
 intro pins s σ H x v Q I D h;obtain⟨i,rfl,q⟩:=h;obtain⟨t,rfl⟩:=D;exact rule i t s _ _ ⟨.int (g i),H,I.tok _,⟨_,rfl⟩,q⟩
theorem uQ:Om X (unaryOp .USub) (rU λi=>.int (-i)):=unI λ_ _ _ _ _ q=>neg_int q
end
noncomputable def Lf:V->V->Bool
 |.g9,.g9=>true|.g9,.int _=>true|.int _,.g9=>true|.g9,.bl _=>true|.bl _,.g9=>true|.g9,.str _=>true|.str _,.g9=>true
 |.int _,.int _=>true|.bl _,.bl _=>true|.str _,.str _=>true|.Ct _,.Ct _=>true
 |.int _,.str _=>true|.str _,.int _=>true|.bl _,.str _=>true|.str _,.bl _=>true
 |_,_=>false
def rEq:R2:=λx y H Q=>Lf x y=true/\Q (.bl (decide (x=y))) H
def rNe:R2:=λx y H Q=>Lf x y=true/\Q (.bl (!decide (x=y))) H
theorem Ae{i j:Int}:decide (V.int i=V.int j)=(i==j):=by
 rw[QV];simp
theorem CK{i j:Bool}:decide (V.bl i=V.bl j)=(i==j):=by
 rw[QV];simp
theorem Af{i j:UI}:decide (V.str i=V.str j)=(i==j):=by
 rw[QV];simp
theorem Ag{i j:Array UInt8}:decide (V.Ct i=V.Ct j)=(i.toList==j.toList):=by
 rw[QV];cases i;cases j;simp
section
variable {X:Cx}{a b c:UM}{ta tb tc:TE}{pos:VJ}
theorem bO{pins:List (Um×U6)}{σ:St}{H:Hp}{s:Uq}{Q:VK}{k D:Bool}(I:Inv X pins σ H s)(q:Q (.bl k) H)(e:k=D):EP X pins σ Q (.bool D) s:=by
 subst e;exact⟨.bl k,H,I,rfl,q⟩
theorem fj:kA X (UQ .Eq) rEq:=by
 intro pins s σ H x y v u Q I G D h;obtain⟨hs,q⟩:=h;cases x with
 |g9 =>
  cases G;cases y with
  |g9=>cases D;exact PySem.EqNone.eq_none_none (bO I q (by simp))
  |bl j=>cases D;exact PySem.EqNone.eq_none_bool (bO I q (by simp))
  |int j=>obtain⟨t',rfl⟩:=D;exact PySem.EqNone.eq_none_int (bO I q (by simp))
  |str j=>obtain⟨t',rfl⟩:=D;exact PySem.EqNone.eq_none_str (bO I q (by simp))
  |_=>exact Us (show false=true from hs) O4
 |bl i =>
  cases G;cases y with
  |g9=>cases D;exact PySem.EqNone.eq_bool_none (bO I q (by simp))
  |bl j=>cases D;exact eq_bool (bO I q CK)
  |str j=>obtain⟨t',rfl⟩:=D;exact PySem.EqMixed.eq_bool_str (bO I q (by simp))
  |_=>exact Us (show false=true from hs) O4
 |int i =>
  obtain⟨t,rfl⟩:=G;cases y with
  |g9=>cases D;exact PySem.EqNone.eq_int_none (bO I q (by simp))
  |int j=>obtain⟨t',rfl⟩:=D;exact eq_int (bO I q Ae)
  |str j=>obtain⟨t',rfl⟩:=D;exact PySem.EqMixed.eq_int_str (bO I q (by simp))
  |_=>exact Us (show false=true from hs) O4
 |str i =>
  obtain⟨t,rfl⟩:=G;cases y with
  |g9=>cases D;exact PySem.EqNone.eq_str_none (bO I q (by simp))
  |bl j=>cases D;exact PySem.EqMixed.eq_str_bool (bO I q (by simp))
  |int j=>obtain⟨t',rfl⟩:=D;exact PySem.EqMixed.eq_str_int (bO I q (by simp))
  |str j=>obtain⟨t',rfl⟩:=D;exact eq_str (bO I q Af)
  |_=>exact Us (show false=true from hs) O4
 |Ct i =>
  obtain⟨t,rfl⟩:=G;cases y with
  |Ct j=>obtain⟨t',rfl⟩:=D;exact PySem.W.eq_bytes (bO I q Ag)
  |_=>exact Us (show false=true from hs) O4
 |_=>cases y <;> exact Us (show false=true from hs) O4
theorem qS:kA X (UQ .NotEq) rNe:=by
 intro pins s σ H x y v u Q I G D h;obtain⟨hs,q⟩:=h;cases x with
 |g9 =>
  cases G;cases y with
  |g9=>cases D;exact PySem.EqNone.ne_none_none (bO I q (by simp))
  |bl j=>cases D;exact PySem.EqNone.ne_none_bool (bO I q (by simp))
  |int j=>obtain⟨t',rfl⟩:=D;exact PySem.EqNone.ne_none_int (bO I q (by simp))
  |str j=>obtain⟨t',rfl⟩:=D;exact PySem.EqNone.ne_none_str (bO I q (by simp))
  |_=>exact Us (show false=true from hs) O4
 |bl i =>
  cases G;cases y with
  |g9=>cases D;exact PySem.EqNone.ne_bool_none (bO I q (by simp))
  |bl j=>cases D;exact ne_bool (bO I q (congrArg not CK))
  |str j=>obtain⟨t',rfl⟩:=D;exact PySem.EqMixed.ne_bool_str (bO I q (by simp))
  |_=>exact Us (show false=true from hs) O4
 |int i =>
  obtain⟨t,rfl⟩:=G;cases y with
  |g9=>cases D;exact PySem.EqNone.ne_int_none (bO I q (by simp))
  |int j=>obtain⟨t',rfl⟩:=D;exact ne_int (bO I q (congrArg not Ae))
  |str j=>obtain⟨t',rfl⟩:=D;exact PySem.EqMixed.ne_int_str (bO I q (by simp))
  |_=>exact Us (show false=true from hs) O4
 |str i =>
  obtain⟨t,rfl⟩:=G;cases y with
  |g9=>cases D;exact PySem.EqNone.ne_str_none (bO I q (by simp))
  |bl j=>cases D;exact PySem.EqMixed.ne_str_bool (bO I q (by simp))
  |int j=>obtain⟨t',rfl⟩:=D;exact PySem.EqMixed.ne_str_int (bO I q (by simp))
  |str j=>obtain⟨t',rfl⟩:=D;exact ne_str (bO I q (congrArg not Af))
  |_=>exact Us (show false=true from hs) O4
 |Ct i =>
  obtain⟨t,rfl⟩:=G;cases y with
  |Ct j=>obtain⟨t',rfl⟩:=D;exact PySem.W.ne_bytes (bO I q (congrArg not Ag))
  |_=>exact Us (show false=true from hs) O4
 |_=>cases y <;> exact Us (show false=true from hs) O4
theorem j5:kA X (UQ .Lt) (FH λi j=>.bl (decide (i<j))):=Ip λ_ _ _ _ _ _ _ q=>lt_int q
theorem Ah:kA X (UQ .LtE) (FH λi j=>.bl (decide (i<=j))):=Ip λ_ _ _ _ _ _ _ q=>le_int q
theorem i6:kA X (UQ .Gt) (FH λi j=>.bl (decide (j<i))):=Ip λ_ _ _ _ _ _ _ q=>gt_int q
theorem aQ(b:UM){op:XR}(h:op≠.In:=by decide)(D:op≠.NotIn:=by decide):VL op b=false:=by
 have e1:(op==CmpOp.In)=false:=by cases op <;> first|rfl|exact Us rfl h
 have e2:(op==CmpOp.NotIn)=false:=by cases op <;> first|rfl|exact Us rfl D
 cases b <;> simp[VL,e1,e2]
theorem eU{op:XR}{r:R2}(D:kA X (UQ op) r)(G:PE X a ta)(J:PE X b tb)(O:VL op b=false):PE X (.Compare a [op] [b] pos) (Ki r ta tb):=by
 intro pins s σ H Q I h;exact wpAny_Compare1 (Io G J I h λv u U x y V Z rx ry q=>D pins U σ V x y v u Q Z rx ry q) O
def CL(t:TE):TT:=λσ H Q=>t σ H λx H'=>∃k,x=.bl k/\Q k H'
theorem aM{op:XR}{r:R2}(D:kA X (UQ op) r)(G:PE X a ta)(J:PE X b tb)(O:VL op b=false):PT X (.Compare a [op] [b] pos) (CL (Ki r ta tb)):=by
 intro pins s σ H Q I h;refine WC (cF (G pins s σ H _ I h) λv U ⟨x,V,Z,r1,q1⟩=>cF (J pins U σ V _ Z q1) λu s2 ⟨y,H2,I2,r2,q2⟩ =>
  cF (D pins s2 σ H2 x y v u _ I2 r1 r2 q2) λc s3 ⟨z,H3,I3,r3,k,e,q3⟩=>?_) O
 subst e;cases r3;exact UP ⟨H3,I3,q3⟩
def Iq(r G:R2)(ta tb tc:TE):TE:=λσ H Q=>ta σ H λx J=>tb σ J λy O=>r x y O λz D=>∃k,z=.bl k /\
 (if k=true then tc σ D λU V=>G y U V Q else Q (.bl false) D)
theorem CM{op D:XR}{r J:R2}(ho:kA X (UQ op) r)(G:kA X (UQ D) J)(ha:PE X a ta)(hb:PE X b tb)(hc:PE X c tc)
  (hm:lastMarks [op,D] [b,c]=false:=by with_unfolding_all rfl):PT X (.Compare a [op,D] [b,c] pos) (CL (Iq r J ta tb tc)):=by
 intro pins s σ H Q I h;refine isTrue_chain (cF (ha pins s σ H _ I h) λv s1 ⟨x,H1,I1,r1,q1⟩=>test_link (cF (hb pins s1 σ H1 _ I1 q1) λu s2 ⟨y,H2,I2,O,q2⟩ =>
  cF (ho pins s2 σ H2 x y v u _ I2 r1 O q2) λd s3 ⟨z,U,V,r3,k,e,Z⟩=>?_)) hm
 subst e;cases r3;refine UP ?_;cases k with
 |false =>
  obtain⟨k',e',q'⟩:=Z;cases e';exact ite_ff ⟨U,V,q'⟩
 |true =>
  refine ite_tt (test_last (cF (hc pins s3 σ U _ V Z) λw' s4 ⟨z',H4,I4,r4,q4⟩=>cF (G pins s4 σ H4 y z' u w' _ I4 O r4 q4) λd' s5 zq=>?_));obtain⟨z2,H5,I5,r5,k2,e2,q5⟩:=zq;subst e2;cases r5;exact UP ⟨H5,I5,q5⟩
theorem uR:(Uu:Nat)<2 ^ 63:=by rw[UJ];decide
theorem vals1{x:V}{D:List Uj}(r:Vals [x] D):∃u,D=[u]/\RelV x u:=by
 cases r with
 |cons G J=>cases J;exact⟨_,rfl,G⟩
theorem vals2{x y:V}{D:List Uj}(r:Vals [x,y] D):∃u G,D=[u,G]/\RelV x u/\RelV y G:=by
 cases r with
 |cons J O =>
  cases O with
  |cons U Z=>cases Z;exact⟨_,_,rfl,J,U⟩
theorem tU(G:X.calm=true):fW X (.builtin "max") (λxs H Q=>∃i j,xs=[.int i,.int j]/\Q (.int (if j>i then j else i)) H):=by
 intro pins s σ H xs J Q I r h;obtain⟨i,j,rfl,q⟩:=h;obtain⟨u,O,rfl,⟨t,rfl⟩,⟨t',rfl⟩⟩:=vals2 r;refine max_two_ints (I.ok.hd G) λh' tk k=>⟨_,H,I.kept k,?_,q⟩
 by_cases D:j>i
 .rw[Uo D,Uo D];exact⟨_,rfl⟩
 rw[Uk D,Uk D];exact⟨_,rfl⟩
theorem Bo(G:X.calm=true):fW X (.builtin "min") (λxs H Q=>∃i j,xs=[.int i,.int j]/\Q (.int (if j<i then j else i)) H):=by
 intro pins s σ H xs J Q I r h;obtain⟨i,j,rfl,q⟩:=h;obtain⟨u,O,rfl,⟨t,rfl⟩,⟨t',rfl⟩⟩:=vals2 r;refine min_two_ints (I.ok.hd G) λh' tk k=>⟨_,H,I.kept k,?_,q⟩
 by_cases D:j<i
 .rw[Uo D,Uo D];exact⟨_,rfl⟩
 rw[Uk D,Uk D];exact⟨_,rfl⟩
end
theorem sQ.some_of{v:V}{o:Option Uj}(r:sQ (Yc v) o):∃u,o=Yc u/\RelV v u:=by
 cases o with
 |none=>exact(show False from r).elim
 |some u=>exact⟨u,rfl,r⟩
structure eI(k:Nat) (A:UG):Prop where
 hd:A.handled=none
 dp:A.depth+3*k+5<recursionLimit
 un:A.units+16*k+200<cLine
 gd:A.guards=Yc []
theorem eI.mono{j k:Nat}{A:UG}(r:eI k A)(h:j<=k):eI j A:=⟨r.hd,by have:=r.dp;omega,by have:=r.un;omega,r.gd⟩
theorem eI.deeper{k:Nat}{A:UG}(r:eI (k+1) A)(env:WY):eI k (A.deeper env):=
 ⟨r.hd,by have:=r.dp;show A.depth+1+3*k+5<_;omega,by have:=r.un;show A.units+3+16*k+200<_;omega,r.gd⟩
theorem eI.in1{k:Nat}{A:UG}(r:eI (k+1) A):eI k A.in1 :=
 ⟨r.hd,by have:=r.dp;show A.depth+3*k+5<_;omega,by have:=r.un;show A.units+1+16*k+200<_;omega,r.gd⟩
theorem eI.depth{k:Nat}{A:UG}(r:eI k A):A.depth<recursionLimit:=by have:=r.dp;omega
theorem eI.units{k:Nat}{A:UG}(r:eI k A):A.units+64<cLine:=by have:=r.un;omega
def FK:TA:=λ_ H Q=>Q [] H
def tV(D:TE)(tr:TA):TA:=λσ H Q=>D σ H λx G=>tr σ G λxs J=>Q (x::xs) J
section
variable {X:Cx}{e:UM}{es:List UM}{te:TE}{t:TA}{pos:VJ}
theorem af:PA X [] FK:=λ_ _ _ _ H Q I h=>Calls.spliced_nil ⟨[],H,I,.nil,h⟩
theorem ae(D:PE X e te)(G:PA X es t)(hs:UC (e::es) X.env=(false,eval e X.env)::UC es X.env:=by rfl):PA X (e::es) (tV te t):=by
 intro pos pins s σ H Q I h;rw[hs];show wpAny _ _ (spliced ((false,eval e X.env)::backTo pos (UC es X.env))) _ _ s;refine Calls.spliced_cons (cF (D pins s σ H _ I h) λu J O=>?_);obtain⟨x,U,V,Z,q1⟩:=O;exact cF (G pos pins J σ U _ V q1) λus s2 ⟨xs,H2,I2,r2,q2⟩=>⟨x::xs,H2,I2,.cons Z r2,q2⟩
def Ot(t:TA):TE:=λσ H Q=>t σ H λxs D=>xs.length<=Uu/\∀p,D p=none->Q (.ref p) (upd D p (.tup xs))
def Ou(t:TA):TE:=λσ H Q=>t σ H λxs D=>xs.length<=Uu/\∀p,D p=none->Q (.ref p) (upd D p (.lst xs))
theorem bC{x1}(h:PA X es t):PE X (.Tuple es x1 pos) (Ot t):=by
 intro pins s σ H Q I O;refine wpAny_Tuple_spliced (cF (h pos pins s σ H _ I O) λU D ⟨xs,G,J,r,z,q⟩=>⟨by rw[<-r.length];exact z,?_⟩);have V:G D.heap.objs.size=none:=J.bN.fresh (ON _);refine⟨.ref D.heap.objs.size,upd G D.heap.objs.size (.tup xs),J.laid (t':=D.toks) (λb u e=>OJ _ e) (ON _) ?_,rfl,q _ V⟩;exact⟨z,U,r,⟨_,O6 _ rfl,rfl,_,rfl⟩⟩
theorem bP(h:PA X es t):PE X (.List es pos) (Ou t):=by
 intro pins s σ H Q I O;refine wpAny_List_spliced (cF (h pos pins s σ H _ I O) λU D ⟨xs,G,J,r,z,q⟩=>⟨by rw[<-r.length];exact z,?_⟩);have V:G D.heap.objs.size=none:=J.bN.fresh (ON _);refine⟨.ref D.heap.objs.size,upd G D.heap.objs.size (.lst xs),J.laid (t':=D.toks) (λb u e=>OJ _ e) (ON _) ?_,rfl,q _ V⟩;exact⟨z,U,0,r,O6 _ rfl⟩
end
noncomputable abbrev Sp:=List V->Hp->VK->XK->Prop
noncomputable abbrev Cg:=List WY->Hp->Uq->XK->Uj->Uq->Prop
structure yK(P:Ux) (w:UA) (K:OM) (mg:UI->Option Uj) (base:UH) (A:UG) (outer:List WY) (s:Uq) (H:Hp):Prop where
 frames:A.frames=Yc outer
 mod:Mod K mg base
 bs:∀b o,base.get? b=Yc o->s.heap.get? b=Yc o/\H b=none
 Cy:base.objs.size<=s.heap.objs.size
 mw:s.heap.FunFrames base outer
 Fy:∀b∈lV outer,H b=none
 bN:l7 P w H s.heap
 bare:VU s.gens
def CE(outer:List WY)(P:Ux)(w:UA)(H:Hp)(s:Uq)(Q:VK)(u:Uj)(s':Uq):Prop :=
 ∃v H',s'.os=s.os/\VU s'.gens/\Un (lV outer) [] H H' s.heap s'.heap/\l7 P w H' s'.heap/\RelV v u/\Q v H'
def CR(CX:Cg)(outer:List WY)(P:Ux)(w:UA)(H:Hp)(s:Uq)(Q:VK)(E:XK)(r:Result)(s':Uq):Prop :=
 match r with
 |.ok (.ret u)=>CE outer P w H s Q u s'
 |.ok _=>False
 |.error e=>CX outer H s E e s'
structure aO(P:Ux) (w:UA) (K:OM) (mg:UI->Option Uj) (base:UH) (CX:Cg) (k:Nat) (f:Um) (fd:Uz) (ps:List UI) (sp:Sp):Prop where
 len:∀vs H Q E,sp vs H Q E->vs.length=ps.length
 run:∀(A:UG) (outer:List WY) (s:Uq) (H:Hp) (args:Args) (us:List Uj) (vs:List V) (Q:VK) (E:XK),eI k A->yK P w K mg base A outer s H->Xz s fd args (ps.zip us)->Vals vs us->sp vs H Q E ->
  VM (model P w) A (.call (.ref f) args) (CR CX outer P w H s Q E) s
theorem yK.in1 {P : Ux}{w : UA}{K : OM}{mg : UI -> Option Uj}{base : UH}{A : UG}{outer : List WY}{s : Uq}{H : Hp}(e : yK P w K mg base A outer s H) :
    yK P w K mg base A.in1 outer s H:=⟨e.frames,e.mod,e.bs,e.Cy,e.mw,e.Fy,e.bN,e.bare⟩
section
variable {X:Cx}{pins:List (Um×U6)}{σ:St}{H:Hp}{s s':Uq}
theorem Inv.Ir(I:Inv X pins σ H s):yK X.prog X.w X.K X.mg X.base X.A X.stack s H :=
 ⟨I.ok.frames,I.ok.mod,I.bs,PD I.ok.Cy I.sz,I.stack,I.uM,I.bN,I.bare⟩
theorem Inv.after{Q:VK}{u:Uj}(I:Inv X pins σ H s)(h:CE X.stack X.prog X.w H s Q u s'):EP X pins σ Q u s':=by
 obtain⟨v,H',os,bare,un,bN,r,q⟩:=h;obtain⟨G,g,d,t,D⟩:=s';obtain rfl:D=s.os:=os;exact⟨v,H',I.call (h':=G) (g':=g) (d':=d) (t':=t) (ch:=[]) un bN bare (λb z=>Us z (by simp)),r,q⟩
end
def tW(sp:Sp)(D:List V)(E:XK)(t:TA):TE:=λσ H Q=>t σ H λG J=>sp (G++D) J Q E
def Binds(K:OM)(O:Uz)(G:List UI)(J:List Uj):Prop :=
 ∀(s:Uq) (D:List Uj),K.In s.heap->(D++J).length=G.length->Xz s O ⟨D,[]⟩ (G.zip (D++J))
theorem Binds.all{K:OM}{J:Uz}{G:List UI}(h:∀D:List Uj,D.length=G.length->Vv J ⟨D,[]⟩=pure (G.zip D)):Binds K J G []:=λs D _ O=>by
 rw[Pj]at O⊢;exact .of_eq (h D O)
def Passes(CX:Cg)(X:Cx)(E:XK):Prop:=∀(pins:List (Um×U6)) (σ:St) (H:Hp) (s:Uq) (e:Uj) (s':Uq),Inv X pins σ H s->CX X.stack H s E e s'->X.xe e s'
section
variable {X:Cx}{CX:Cg}{k:Nat}{f C:Um}{fd:Uz}{ps:List UI}{sp:Sp}{Kj:List V}{ds:List Uj}{E:XK}{x m:UI}{p pos apos:VJ}{e o:UM}{es:List UM}{ta:TE}{t:TA}
theorem Iu{pins:List (Um×U6)}{σ:St}{H:Hp}{s:Uq}{Q:VK}{D:List Uj}{J:List V}(F:aO X.prog X.w X.K X.mg X.base CX k f fd ps sp)(U:eI k X.A)(Z:Binds X.K fd ps ds)(hd:Vals Kj ds)(hx:Passes CX X E)
  (I:Inv X pins σ H s) (r:Vals J D) (h:sp (J++Kj) H Q E):wpAny (model X.prog X.w) X.A (call (.ref f) D) (EP X pins σ Q) X.xe s:=by
 have O:Vals (J++Kj) (D++ds):=r.append hd;have hl:(D++ds).length=ps.length:=by rw[<-O.length];exact F.len _ _ _ _ h
 refine Wj (VD (F.run X.A X.stack s H ⟨D,[]⟩ (D++ds) (J++Kj) Q E U I.Ir (Z s D I.Bi hl) O h) λr s' G=>?_);cases r with
 |error e=>exact hx pins σ H s e s' I G
 |ok fl =>
  cases fl with
  |ret u=>exact I.after G
  |next=>exact False.elim G
  |brk=>exact False.elim G
  |cont=>exact False.elim G
theorem uS(F:aO X.prog X.w X.K X.mg X.base CX k f fd ps sp)(O:eI k X.A)(U:Gl X x)(V:X.mg x=Yc (.ref f))(Z:Q7 X.K (.ref f)=true)(hb:Binds X.K fd ps ds)(hd:Vals Kj ds)(hx:Passes CX X E)
  (ha:PA X (e::es) t) (D:(x==("__debug__":UI))=false:=by decide) (he:UC (e::es) X.env=(false,eval e X.env)::UC es X.env:=by rfl) (G:(backTo pos (UC es X.env)).any (·.1)=false:=by rfl) :
  PE X (.Call (.Name x p) (e::es) [] pos) (tW sp Kj E t):=by
 intro pins s σ H Q I h;refine Vj (mW I U V ?_ D);refine S4 (h₀:=X.base) I.ok.mod.mS Z (cF (ha pos pins s σ H _ I h) λus s1 ⟨vs,H1,J,r,q⟩=>⟨J.Bi,?_⟩) he G;exact Iu F O hb hd hx J r q
end
def PK(X:Cx)(D:List XY)(t:TA):Prop :=
 ∀(pos:VJ) (pins:List (Um×U6)) (s:Uq) (σ:St) (H:Hp) (Q:List V->Hp->Prop),Inv X pins σ H s->t σ H Q->wpAny (model X.prog X.w) X.A (evalAll ((backToKw pos (Xu D X.env)).map (·.2))) (AP X pins σ Q) X.xe s
section
variable {X:Cx}{CX:Cg}{k:Nat}{f C:Um}{fd:Uz}{ps ks:List UI}{sp:Sp}{E:XK}{x m:UI}{p pos apos kpos:VJ}{e o:UM}{es:List UM}{Ov:List XY}{te ta:TE}{t tk:TA}{nm:Option UI}
theorem Iv:PK X [] FK:=λ_ _ _ _ H Q I h=>wpAny_evalAll_nil ⟨[],H,I,.nil,h⟩
theorem FL(D:PE X e te)(G:PK X Ov t):PK X (⟨nm,e,kpos⟩::Ov) (tV te t):=by
 intro pos pins s σ H Q I h;show wpAny _ _ (evalAll ((do let v <- eval e X.env;XW pos;pure v)::(backToKw pos (Xu Ov X.env)).map (·.2))) _ _ s;refine wpAny_evalAll_cons (Uh (cF (D pins s σ H _ I h) λu J ⟨x,O,U,V,Z⟩=>Uh (U7 (Ur ?_))));exact cF (G pos pins J σ O _ U Z) λus s2 ⟨xs,H2,I2,r2,q2⟩=>⟨x::xs,H2,I2,.cons V r2,q2⟩
variable {g:List Uj->List Uj->List Uj}{gV:List V->List V->List V}
end
structure aN(N P:List UI) (sc:VY):Prop where
 kind:sc.kind=.function
 co:sc.isCoroutine=false
 gen:sc.isGenerator=false
 nd:N.Nodup
 pre:N.take P.length=P
 par:∀x∈P,sc.names.lookup x=Yc .local\/sc.names.lookup x=Yc .cell
 Iw:∀y∈sc.names,y.2≠.free
theorem tX{kindOf:UI->Option XC}{x:UI}:∀{binds:List (UI×Uj)}{m:UI->Option Uj},(∀v,(x,v)∉binds)->bindL kindOf binds m x=m x
 |[],_,_=>rfl
 |(n,v)::r,m,h=>by
  unfold bindL;rw[tX λw hw=>h w (O1 _ hw)]
  split
  .have:x≠n:=by rintro rfl;exact h v O2
   simp[this]
  rfl
theorem tY{kindOf:UI->Option XC}{x:UI}:∀{binds:List (UI×Uj)}{m:UI->Option Uj},(∀v,(x,v)∉binds)->bindC kindOf binds m x=m x
 |[],_,_=>rfl
 |(n,v)::r,m,h=>by
  unfold bindC;rw[tY λw hw=>h w (O1 _ hw)]
  split
  .rfl
  have:x≠n:=by rintro rfl;exact h v O2
  simp[this]
theorem tZ{kindOf:UI->Option XC}{x:UI}{v:Uj}:∀{P:List UI}{D:List Uj}{i:Nat}{m:UI->Option Uj},P.Nodup->P[i]?=Yc x->D[i]?=Yc v->kindOf x=Yc .local ->
  bindL kindOf (P.zip D) m x=Yc v
 |[],_,_,_,_,h,_,_=>by simp at h
 |_::_,[],_,_,_,_,h,_=>by simp at h
 |p::P,w::D,0,m,nd,G,J,O=>by
  simp at G J;subst G;subst J;show bindL kindOf ((p,w)::P.zip D) m p=_;unfold bindL;rw[tX λv U=>(Qy.mp nd).1 (Ru U).1,Uo O];simp
 |p::P,w::D,i+1,m,nd,G,J,O=>by
  show bindL kindOf ((p,w)::P.zip D) m x=_;unfold bindL;exact tZ (i:=i) (Qy.mp nd).2 (by simpa using G) (by simpa using J) O
theorem t5{kindOf:UI->Option XC}{x:UI}{v:Uj}:∀{P:List UI}{D:List Uj}{i:Nat}{m:UI->Option Uj},P.Nodup->P[i]?=Yc x->D[i]?=Yc v->kindOf x≠Yc .local ->
  bindC kindOf (P.zip D) m x=Yc v
 |[],_,_,_,_,h,_,_=>by simp at h
 |_::_,[],_,_,_,_,h,_=>by simp at h
 |p::P,w::D,0,m,nd,G,J,O=>by
  simp at G J;subst G;subst J;show bindC kindOf ((p,w)::P.zip D) m p=_;unfold bindC;rw[tY λv U=>(Qy.mp nd).1 (Ru U).1,Uk O];simp
 |p::P,w::D,i+1,m,nd,G,J,O=>by
  show bindC kindOf ((p,w)::P.zip D) m x=_;unfold bindC;exact t5 (i:=i) (Qy.mp nd).2 (by simpa using G) (by simpa using J) O
noncomputable def start(N:List UI)(D:List V):St:=D.map some++R7 (N.length-D.length) none
noncomputable def lW(CX:Cg)(P:Ux)(w:UA)(K:OM)(mg:UI->Option Uj)(base:UH)(N:List UI)(qual:UI)(scope:VY)(f:Um)(G:Uj)(A:UG)(outer:List WY)(s:Uq)(H:Hp)(E:XK):Cx where
 prog:=P
 w:=w
 K:=K
 mg:=mg
 base:=base
 A:=A.deeper (envOfC qual scope s.heap.objs.size f G)
 N:=N
 s₀:=s
 H₀:=H
 env:=envOfC qual scope s.heap.objs.size f G
 outer:=outer
 stack:=envOfC qual scope s.heap.objs.size f G::outer
 ex:=[]
 calm:=true
 fn:=λ_=>true
 pn:=[]
 xe:=λe s'=>wpAny (model P w) (A.deeper (envOfC qual scope s.heap.objs.size f G)) (XZ (envOfC qual scope s.heap.objs.size f G) e) (λ_ D=>CX outer H s E e D) (λJ D=>CX outer H s E J D) s'
theorem wQ{D:VY}{n:Nat}{x:UI}(h:D.names.lookup x=Yc .cell):∃c,(cellsFrom n D.names []).lookup x=Yc c:=by
 have q:=So D.names n [] (.inl h);exact Sb.mp q
theorem Bp{CX:Cg}{P:Ux}{w:UA}{K:OM}{mg:UI->Option Uj}{base:UH}{N J:List UI}{qual:UI}{scope:VY}{f:Um}{cd:Uj}{A:UG}{outer:List WY}{s s1:Uq}{H:Hp}{E:XK}{us:List Uj}{O:List V}
  (S:aN N J scope) (hd:A.handled=none) (G:yK P w K mg base A outer s H) (hl:O.length=J.length) (r:Vals O us)
  (x:InCallC s s.heap.objs.size (bindL (envOfC qual scope s.heap.objs.size f cd).kindOf (J.zip us) λ_=>none) (cellsFrom (s.heap.objs.size+1) scope.names []) (bindC (envOfC qual scope s.heap.objs.size f cd).kindOf (J.zip us) λ_=>none) s1) :
  Inv (lW CX P w K mg base N qual scope f cd A outer s H E) [] (start N O) H s1:=by
 have hpl:J.length<=N.length:=by have:=congrArg Sf S.pre;rw[Pu]at this;omega
 obtain⟨h1,tk,rfl,hk⟩:=x.done;have U:∀b:Um,b∉(lW CX P w K mg base N qual scope f cd A outer s H E).ex:=λb z=>Us (show b∈([]:List Um)from z) (by simp);refine⟨⟨G.mod,S.kind,rfl,rfl,ON _,λy z c h1 D=>?_,λy Z=>?_,λy c _ h=>?_,λ_=>hd,Around.frames_deeper G.frames,.inr ⟨rfl,rfl⟩,λb z=>Us z (U b),G.bs,G.Cy,λb _ _=>U b,λb z=>Us z (U b),G.mw,G.Fy⟩,
  rfl,G.bare,Un.kept hk,⟨_,x.toInCall.ns,λi y v h1 D h3=>?_⟩,λy c h=>⟨_,x.cell y c h⟩,G.bN.fresh (ON _),λy c h=>?_,λp hp=>Us (show p∈([]:List (Um×U6))from hp) (by simp),G.bN.kept hk,?_⟩
 .exact name_of_addr x.apart (PySem.mem_of_lookup h1) (PySem.mem_of_lookup D)
 .have Z:scope.names.lookup y=Yc .cell\/scope.names.lookup y=Yc .free:=Z;rcases Z with Z|Z
  .exact wQ Z
  exact Us rfl (S.Iw _ (PySem.mem_of_lookup Z))
 .exact Sr (x.above y c (PySem.mem_of_lookup h))
 .have hi:i<O.length:=by
   unfold start at D;by_cases hi:i<O.length
   .exact hi
   rw[Pk (by simpa using hi)]at D;rw[Q1]at D
   split at D <;> cases D
  have ha:O[i]?=Yc v:=by
   unfold start at D;rw[Pg (by simpa using hi),OR]at D;cases e:O[i]? with
   |none=>rw[e]at D;cases D
   |some a=>rw[e]at D;cases D;rfl
  obtain⟨u,hu,rv⟩:=r.get ha;have hp:J[i]?=Yc y:=by
   rw[<-S.pre,List.getElem?_take_of_lt (by omega)];exact h1
  have ndP:J.Nodup:=by rw[<-S.pre];exact S.nd.sublist (List.take_sublist _ _)
  refine⟨u,rv,?_⟩;rcases S.par y (OP hp)with k|k
  .exact .inl ⟨k,tZ ndP hp hu k⟩
  obtain⟨c,e⟩:=wQ (n:=s.heap.objs.size+1) k;refine .inr ⟨.inl k,c,e,?_⟩;have q:=x.cell y c e;rw[t5 ndP hp hu (by show scope.names.lookup y≠_;rw[k];decide)]at q;exact q
 .exact G.bN.fresh (Sr (x.above y c (PySem.mem_of_lookup h)))
 unfold start;show _=N.length;rw[OQ,OH,Su];omega
theorem Hn{CX:Cg}{P:Ux}{w:UA}{K:OM}{mg:UI->Option Uj}{base:UH}{k:Nat}{f:Um}{name qual:UI}{params:Arguments}{body:List Vp}{scope:VY}{dV kV doc pm D ct oc:Uj}{an od:Option Um}
  {Lg:Array (Option Uj)}{N ps:List UI}{sp:Sp} (lk:K.lookup f=Yc ⟨oc,od,.func (PV name qual params body scope dV kV doc pm an D ct),Lg⟩) (FN:Q9 K D qual=true) (S:aN N ps scope)
  (len:∀G H Q E,sp G H Q E->G.length=ps.length)
  (U:∀(A:UG) (outer:List WY) (s:Uq) (H:Hp) (G:List V) (Q:VK) (E:XK),eI k (A.deeper (envOfC qual scope s.heap.objs.size f D))->sp G H Q E ->
   ∃t,mV (lW CX P w K mg base N qual scope f D A outer s H E) body t/\t { nx:=λ_ H'=>Q .g9 H',rt:=Q } (start N G) H) :
  aO P w K mg base CX (k+1) f (PV name qual params body scope dV kV doc pm an D ct) ps sp:=by
 refine⟨len,λA outer s H args us G Q E hr e0 hb r Fi=>?_⟩;have hl:=len _ _ _ _ Fi;have KX:K.In s.heap:=e0.mod.mS.keeps λb o e=>(e0.bs b o e).1;have lim:s.heap.NoLimit:=e0.mod.nolimit.keeps λb o e=>(e0.bs b o e).1;have Z:∀y∈ps.zip us,scope.names.lookup y.1=Yc .local\/(scope.names.lookup y.1=Yc .cell/\((cellsFrom (s.heap.objs.size+1) scope.names []).lookup y.1).isSome=true):=λ⟨n,v⟩ hy=>by
  rcases S.par n (Ru hy).1 with q|q
  .exact .inl q
  exact .inr ⟨q,So _ _ _ (.inl q)⟩
 refine codeAny_call_function hr.depth (KX _ _ lk) rfl S.co S.gen rfl (PySem.W.codeRec_of KX FN) (hb _ _ _ _ ?_);refine wpAny_newFunctionEnv_cells S.kind Z λenv he s1 x=>?_;subst he;refine⟨lim.keeps x.toInCall.keep,codeAny_func ?_⟩;obtain⟨t,ht,hq⟩:=U A outer s H G Q E (hr.deeper _) Fi;have I:Inv (lW CX P w K mg base N qual scope f D A outer s H E) [] (start N G) H s1:=Bp S hr.hd e0 hl r x;refine UX (ht [] s1 (start N G) H _ I hq) (λfl s' hs=>?_) λe s' hs=>hs;have fin:∀{O:St}{H':Hp}{v:V}{u:Uj},Inv (lW CX P w K mg base N qual scope f D A outer s H E) [] O H' s'->RelV v u->Q v H'->CE outer P w H s Q u s' :=
  λ{O H' v u} J rv q=>⟨v,H',J.os,J.bare,J.base,J.bN,rv,q⟩
 cases fl with
 |ret u =>
  obtain⟨v,O,H',J,rv,q⟩:=hs;exact fin J rv q
 |next =>
  obtain⟨O,H',J,q⟩:=hs;exact fin (v:=V.g9) (u:=Value.none) J rfl q
 |brk =>
  obtain⟨_,_,_,q⟩:=hs;exact False.elim q
 |cont =>
  obtain⟨_,_,_,q⟩:=hs;exact False.elim q
section
variable {X:Cx}{x:UI}{p pos:VJ}{e:UM}{es:List UM}{t:TA}{id T:String}{r:List V->Hp->VK->Prop}
def tCB(r:List V->Hp->VK->Prop)(t:TA):TE:=λσ H Q=>t σ H λD G=>r D G Q
theorem aL(J:fW X (.builtin id) r)(O:Gl X x)(U:X.mg x=none)(V:UR x=Yc (.builtin id))(Z:PA X (e::es) t)(hn:x≠"__name__":=by decide)(D:(x==("__debug__":UI))=false:=by decide)
  (he:UC (e::es) X.env=(false,eval e X.env)::UC es X.env:=by rfl) (G:(backTo pos (UC es X.env)).any (·.1)=false:=by rfl):PE X (.Call (.Name x p) (e::es) [] pos) (tCB r t):=by
 intro pins s σ H Q I h;refine Vj (my I O U V ?_ hn D);exact Tf (cF (Z pos pins s σ H _ I h) λus s1 ⟨vs,H1,I1,r1,q1⟩=>J pins s1 σ H1 vs us Q I1 r1 q1) he G
theorem b7(J:fW X (.type T) r)(O:Gl X x)(U:X.mg x=none)(V:UR x=Yc (.type T))(Z:PA X (e::es) t)(hn:x≠"__name__":=by decide)(D:(x==("__debug__":UI))=false:=by decide)
  (he:UC (e::es) X.env=(false,eval e X.env)::UC es X.env:=by rfl) (G:(backTo pos (UC es X.env)).any (·.1)=false:=by rfl):PE X (.Call (.Name x p) (e::es) [] pos) (tCB r t):=by
 intro pins s σ H Q I h;refine Vj (my I O U V ?_ hn D);exact QJ (cF (Z pos pins s σ H _ I h) λus s1 ⟨vs,H1,I1,r1,q1⟩=>J pins s1 σ H1 vs us Q I1 r1 q1) he G
end
section
variable {κ:Type}[DecidableEq κ]
noncomputable def bX(D:List (κ×V))(k:κ):Option V:=(D.find? λG=>decide (G.1=k)).map (·.2)
noncomputable def putK(D:List (κ×V))(k:κ)(v:V):List (κ×V):=
 if(D.any λG=>decide (G.1=k))=true then D.map (λG=>if G.1=k then(G.1,v)else G)else D++[(k,v)]
theorem eJ{p:κ×V}{r:List (κ×V)}{k:κ}(e:p.1=k):bX (p::r) k=Yc p.2:=by simp[bX,Qr,e]
theorem dZ{p:κ×V}{r:List (κ×V)}{k:κ}(e:¬p.1=k):bX (p::r) k=bX r k:=by simp[bX,Qr,e]
theorem kF(k:κ):∀D:List (κ×V),(D.any λG=>decide (G.1=k))=(bX D k).isSome
 |[]=>rfl
 |p::r=>by
  rw[Rv];by_cases e:p.1=k
  .simp only[eJ e,Ul e,TY,Option.isSome_some]
  rw[dZ e,Up e,TQ];exact kF k r
theorem wR(k j:κ)(y:V):∀D:List (κ×V),bX (D.map λG=>if G.1=k then(G.1,y)else G) j=(bX D j).map λx=>if j=k then y else x
 |[]=>rfl
 |p::r=>by
  have J:=wR k j y r;rw[Po];by_cases h:p.1=k
  .rw[Uo h];by_cases e:p.1=j
   .rw[eJ (p:=(p.1,y)) e,eJ e,RT,Uo (e.symm.trans h)]
   rw[dZ (p:=(p.1,y)) e,dZ e,J]
  rw[Uk h];by_cases e:p.1=j
  .rw[eJ (p:=p) e,eJ e,RT,Uk (λz=>h (e.trans z))]
  rw[dZ (p:=p) e,dZ e,J]
theorem t6(k j:κ)(y:V):∀D:List (κ×V),bX D k=none->bX (D++[(k,y)]) j=if j=k then some y else bX D j
 |[],_=>by
  by_cases e:k=j
  .rw[Uo e.symm];exact eJ (p:=(k,y)) e
  rw[Uk (λz=>e z.symm)];exact dZ (p:=(k,y)) e
 |p::r,G=>by
  rw[List.cons_append];have J:¬p.1=k:=λz=>by rw[eJ z]at G;cases G
  rw[dZ J]at G;have O:=t6 k j y r G;by_cases e:p.1=j
  .rw[eJ e,eJ e,Uk (λz=>J (e.trans z))]
  rw[dZ e,dZ e,O]
theorem qT(D:List (κ×V))(k j:κ)(y:V):bX (putK D k y) j=if j=k then some y else bX D j:=by
 unfold putK;by_cases a:(D.any λG=>decide (G.1=k))=true
 .rw[Uo a,wR];rw[kF]at a;by_cases e:j=k
  .obtain⟨x,J⟩:=Sb.mp a;rw[Uo e,e,J,RT,Uo rfl]
  rw[Uk e];cases bX D j with
  |none=>rfl
  |some x=>rw[RT,Uk e]
 rw[Uk a];refine t6 k j y D ?_;rw[kF]at a;cases q:bX D k with
 |none=>rfl
 |some x=>rw[q]at a;exact(a rfl).elim
theorem fX(D:List (κ×V))(k:κ)(v:V):(putK D k v).length<=D.length+1:=by
 unfold putK
 split
 .rw[OH];omega
 rw[OQ,Ph,Qn];omega
theorem CO{D:List (κ×V)}{k:κ}(v:V)(h:bX D k=none):putK D k v=D++[(k,v)]:=by
 unfold putK;rw[kF,h];exact Uk (by decide)
theorem sQ.jm{o:Option V}{u:Option Uj}(r:sQ o u):o.isSome=u.isSome:=by
 cases o with
 |none=>cases u with
  |none=>rfl
  |some _=>exact(show False from r).elim
 |some _=>cases u with
  |none=>exact(show False from r).elim
  |some _=>rfl
theorem KV.val{D:List (κ×V)}{O:List (κ×Uj)}(r:KV D O)(k:κ):sQ (bX D k) (Xg O k):=by
 unfold KV at r
 induction r with
 |nil=>exact True.intro
 | @cons p q ps G h t Z =>
  obtain⟨U,h2⟩:=h;by_cases e:p.1=k
  .have J:q.1=k:=U.symm.trans e;have b:Xg (q::G) k=Yc q.2:=by simp[Xg,Qr,J]
   rw[eJ e,b];exact h2
  have J:¬q.1=k:=λz=>e (U.trans z);have b:Xg (q::G) k=Xg G k:=by simp[Xg,Qr,J]
  rw[dZ e,b];exact Z
theorem KV.any{D:List (κ×V)}{J:List (κ×Uj)}(r:KV D J)(k:κ):(D.any λG=>decide (G.1=k))=J.any λG=>decide (G.1=k):=by
 unfold KV at r
 induction r with
 |nil=>rfl
 |cons h t O=>rw[Rv,Rv,O,h.1]
theorem KV.Iy{G:List (κ×V)}{O:List (κ×Uj)}(r:KV G O)(k:κ){y:V}{u:Uj}(U:RelV y u) :
  KV (G.map λD=>if D.1=k then(D.1,y)else D) (O.map λD=>if D.1=k then(D.1,u)else D):=by
 unfold KV at r⊢
 induction r with
 |nil=>exact .nil
 | @cons p q ps qs h t Z =>
  rw[Po,Po];refine .cons ?_ Z;obtain⟨J,h2⟩:=h;by_cases e:p.1=k
  .rw[Uo e,Uo (J.symm.trans e)];exact⟨J,U⟩
  rw[Uk e,Uk (λz=>e (J.trans z))];exact⟨J,h2⟩
theorem KV.put{D:List (κ×V)}{G:List (κ×Uj)}(r:KV D G)(k:κ){y:V}{u:Uj}(J:RelV y u):KV (putK D k y) (stored G k u):=by
 unfold putK stored;rw[r.any k];by_cases e:(G.any λO=>decide (O.1=k))=true
 .rw[Uo e,Uo e];exact r.Iy k J
 rw[Uk e,Uk e];exact Paired.snoc r ⟨rfl,J⟩
theorem KV.length{D:List (κ×V)}{G:List (κ×Uj)}(r:KV D G):D.length=G.length:=Paired.length r
end
theorem Ai{P:Ux}{w:UA}{k:Key}{u:Uj}(r:RelV (kV k) u):(bG P w).is k u=true:=by
 cases k with
 |inl i=>obtain⟨t,e⟩:=(show∃t,u=Value.int i t from r);subst e;exact wL P w i t
 |inr x=>obtain⟨t,e⟩:=(show∃t,u=Value.str x t from r);subst e;exact wM P w x t
theorem t7{P:Ux}{w:UA}:∀{ks:List Key}{D:List Uj},Vals (ks.map kV) D->ItemsAre (bG P w) ks D
 |[],_,r=>by rw[Sv]at r;cases r;exact .nil
 |k::ks,_,r=>by
  rw[Po]at r;cases r with
  |cons h t=>exact .cons (Ai h) (t7 t)
abbrev KT(H:Hp):List (List Key×V)->List (List Key×Um×Uj)->Prop:=Paired λp q=>p.1=q.1/\H q.2.1=Yc (.tup (p.1.map kV))/\RelV p.2 q.2.2
theorem KT.val{H:Hp}{D:List (List Key×V)}{xs:List (List Key×Um×Uj)}(r:KT H D xs)(k:List Key):sQ (bX D k) ((atKey xs k).map (·.2)):=by
 induction r with
 |nil=>exact True.intro
 | @cons p q ps G h t U =>
  obtain⟨O,_,Z⟩:=h;by_cases e:p.1=k
  .have J:q.1=k:=O.symm.trans e;have b:atKey (q::G) k=Yc q.2:=by simp[atKey,Qr,J]
   rw[eJ e,b];exact Z
  have J:¬q.1=k:=λz=>e (O.trans z);have b:atKey (q::G) k=atKey G k:=by simp[atKey,Qr,J]
  rw[dZ e,b];exact U
theorem KT.Iy{H:Hp}{D:List (List Key×V)}{xs:List (List Key×Um×Uj)}(r:KT H D xs)(k:List Key){y:V}{u:Uj}(U:RelV y u) :
  KT H (D.map λJ=>if J.1=k then(J.1,y)else J) (xs.map (putAt k u)):=by
 induction r with
 |nil=>exact .nil
 | @cons p q ps qs h t Z =>
  rw[Po,Po];refine .cons ?_ Z;obtain⟨G,O,h3⟩:=h;unfold putAt;by_cases e:p.1=k
  .rw[Uo e,Uo (G.symm.trans e)];exact⟨G,O,U⟩
  rw[Uk e,Uk (λz=>e (G.trans z))];exact⟨G,O,h3⟩
theorem KT.put{H:Hp}{D:List (List Key×V)}{xs:List (List Key×Um×Uj)}(r:KT H D xs)(k:List Key){b:Um}{y:V}{u:Uj}(J:H b=Yc (.tup (k.map kV)))(G:RelV y u) :
  KT H (putK D k y) (VN xs k b u):=by
 have e:(D.any λO=>decide (O.1=k))=(atKey xs k).isSome:=by
  rw[kF,(r.val k).jm,QW]
 unfold putK VN;rw[e];by_cases q:(atKey xs k).isSome=true
 .rw[Uo q,Uo q];exact r.Iy k G
 rw[Uk q,Uk q];exact Paired.snoc r ⟨rfl,J,G⟩
theorem KT.keeps{H H':Hp}{D:List (List Key×V)}{xs:List (List Key×Um×Uj)}(r:KT H D xs)(J:∀b G,H b=Yc (.tup G)->H' b=Yc (.tup G)):KT H' D xs :=
 Paired.Fv r λ_ _ z=>⟨z.1,J _ _ z.2.1,z.2.2⟩
section
variable {P:Ux}{w:UA}{H:Hp}{h:UH}{a:Um}
theorem Ho{u:HO}(ok:l7 P w H h)(e:Rd H a u):cQ P w H h a u:=e.ok ok
theorem Hq{D:List (Key×V)}(ok:l7 P w H h)(e:Rd H a (.dK D)):D.length<=Uu/\(a==U0)=false/\∃G,KV D G/\h.DictOf (bG P w) a G :=
 show cQ P w H h a (.dK D)from Ho ok e
theorem Lh{D:List (Key×V)}(ok:l7 P w H h)(e:H a=Yc (.dK D)):D.length<=Uu/\(a==U0)=false/\∃G,KV D G/\h.DictOf (bG P w) a G:=Hq ok (.inl e)
theorem qU{ks:List Key}(ok:l7 P w H h)(e:H a=Yc (.tup (ks.map kV))):(VI (bG P w)).is h ks a:=by
 obtain⟨_,its,r,o,D,G,n,J⟩:=(show cQ P w H h a (.tup (ks.map kV))from ok a _ e)
 exact⟨o,its.toArray,n,D,G,J,by simpa using t7 r⟩
theorem Hr{D:List (List Key×V)}(ok:l7 P w H h)(e:Rd H a (.dT D)):D.length<=Uu/\(a==U0)=false /\
  ∃xs,KT H D xs/\h.DictOfH (VI (bG P w)) a xs:=by
 obtain⟨z,y,xs,r,o,es,ep,O,U,Z,h4,h5⟩:=(show cQ P w H h a (.dT D)from Ho ok e)
 refine⟨z,y,xs,r,o,es,ep,O,U,Z,h4,λx G=>?_,h5⟩;have all:∀{l:List (List Key×V)}{m:List (List Key×Um×Uj)},KT H l m->∀x∈m,(VI (bG P w)).is h x.1 x.2.1:=by
  intro l m q
  induction q with
  |nil=>intro x G;exact nomatch G
  | @cons p q ps qs J t ih =>
   intro x G;rcases O9.mp G with e|G
   .subst e;exact qU ok (by rw[<-J.1];exact J.2.1)
   exact ih x G
 exact all r x G
theorem Aj {D : List (List Key × V)}(ok : l7 P w H h)(e : H a=Yc (.dT D)) : D.length <= Uu /\ (a == U0)=false /\
    ∃xs,KT H D xs/\h.DictOfH (VI (bG P w)) a xs:=Hr ok (.inl e)
end
def wU(H:Hp)(a:Um)(y:V)(r:Option V):Prop :=
 (∃D k,Rd H a (.dK D)/\y=kV k/\r=bX D k)\/∃D k b,Rd H a (.dT D)/\y=.ref b/\H b=Yc (.tup (k.map kV))/\r=bX D k
def sS(H:Hp)(a:Um)(y v:V)(H':Hp):Prop :=
 (∃D k,H a=Yc (.dK D)/\y=kV k/\D.length<Uu/\H'=upd H a (.dK (putK D k v))) \/
 ∃D k b,H a=Yc (.dT D)/\y=.ref b/\H b=Yc (.tup (k.map kV))/\D.length<Uu/\H'=upd H a (.dT (putK D k v))
theorem wU.k{H:Hp}{a:Um}{D:List (Key×V)}{k:Key}(e:H a=Yc (.dK D)):wU H a (kV k) (bX D k):=.inl ⟨D,k,.inl e,rfl,rfl⟩
theorem sS.k{H:Hp}{a:Um}{D:List (Key×V)}{k:Key}{v:V}(e:H a=Yc (.dK D))(G:D.length<Uu):sS H a (kV k) v (upd H a (.dK (putK D k v))):=.inl ⟨D,k,e,rfl,G,rfl⟩
theorem sS.t {H : Hp}{a b : Um}{D : List (List Key × V)}{k : List Key}{v : V}(e : H a=Yc (.dT D))(G : H b=Yc (.tup (k.map kV)))(J : D.length<Uu) :
    sS H a (.ref b) v (upd H a (.dT (putK D k v))):= .inr ⟨D,k,b,e,rfl,G,J,rfl⟩
section
variable {X:Cx}{pins:List (Um×U6)}{σ:St}{H:Hp}{s:Uq}{a:Um}{y v:V}{u r:Uj}{o:Option V}{A:UG}{E:Uj->Uq->Prop}
theorem Inv.big(I:Inv X pins σ H s):U0<s.heap.objs.size:=by
 have h:UT<s.heap.objs.size:=(I.mod.glob.keeps I.bk).lt;exact Nat.lt_trans (by decide) h
theorem FO{Q:Uj->Uq->Prop}(U:A.units+1<cLine)(I:Inv X pins σ H s)(g:wU H a y o)(O:RelV y u)(h:∀s',Inv X pins σ H s'->Q (.bool (!o.isSome)) s') :
  wpAny (model X.prog X.w) A (UQ .NotIn u (.ref a)) Q E s:=by
 rcases g with⟨G,k,e,J,l⟩|⟨G,k,b,e,J,V,l⟩
 .subst J;obtain⟨z,hd,Z,D,dd⟩:=Hq I.bN e;refine wpAny_notIn_of (Ai O) hd dd.mapOf ?_;rw[<-(D.val k).jm,<-l];exact h _ (I.tok _)
 subst J;cases(show u=Value.ref b from O);obtain⟨z,hd,xs,D,dd⟩:=Hr I.bN e;refine wpAny_notIn_heap (VZ U) (qU I.bN V) hd dd ?_;have q:=(D.val k).jm;rw[QW]at q;rw[<-q,<-l];exact h _ (I.tok _)
theorem mZ{h':UH}{t':Nat}{ob:HO}(I:Inv X pins σ H s)(G:KQ (H a))(hs:Heap.SameBut a s.heap h')(J:∃q,h'.get? a=Yc q)(D:cQ X.prog X.w (upd H a ob) h' a ob) :
  Inv X pins σ (upd H a ob) { s with heap:=h',toks:=t' }:=
 I.write (x:=a) (e:=a) G (.inl rfl) (λb q O z=>(hs.2 b O).trans z) J D
theorem Iz {P : Ux}{w : UA}{H' : Hp}{h' : UH}{D : List (Key × V)}{G : List (Key × Uj)}(z : D.length <= Uu)(hd : (a == U0)=false)(J : KV D G)(dd : h'.DictOf (bG P w) a G) :
    cQ P w H' h' a (.dK D):= ⟨z,hd,G,J,dd⟩
theorem Bq{H':Hp}{Q:Unit->Uq->Prop}(hu:A.units+1<cLine)(I:Inv X pins σ H s)(g:sS H a y v H')(ry:RelV y u)(rv:RelV v r)(h:∀s',Inv X pins σ H' s'->Q () s') :
  wpAny (model X.prog X.w) A (XX (.ref a) u r) Q E s:=by
 rcases g with⟨D,k,e,U,l,V⟩|⟨D,k,b,e,U,eb,l,V⟩
 .subst U V;obtain⟨z,hd,vs,G,dd⟩:=Lh I.bN e;have hz:vs.length<=sizeLine:=by rw[<-G.length];exact z
  have Z:(putK D k v).length<=sizeLine:=by have:=fX D k v;omega
  refine wpAny_setItem_pairs (hsz:=hz) (Ai ry) dd λh' J hs=>h _ ?_;have he:∃q,h'.get? a=Yc q:=let⟨q,_,_,O,_⟩:=J;⟨q,O⟩
  exact mZ I (by rw[e];exact True.intro) hs he (Iz Z hd (G.put k rv) J)
 subst U V;cases(show u=Value.ref b from ry);obtain⟨z,hd,xs,G,dd⟩:=Aj I.bN e;have hz:xs.length<=sizeLine:=by rw[<-Paired.length G];exact z
 have Z:(putK D k v).length<=sizeLine:=by have:=fX D k v;omega
 refine W8 (hsz:=hz) (VZ hu) (qU I.bN eb) dd λh' J hs=>h _ ?_;obtain⟨q,es,ep,O,h2,h3,h4,_,h5⟩:=J;refine mZ I (by rw[e];exact True.intro) hs ⟨q,O⟩ ⟨Z,hd,_,(G.put k eb rv).keeps λc ys ec=>?_,q,es,ep,O,h2,h3,h4,h5⟩;rw[aG (Cv ec e (λz=>nomatch z))];exact ec
end
def Li(i:UM):Prop:=∀D G,WI i false D G=operate [D,G] (Wk D G)
theorem FP{prog:Ux}{w:UA}{A:UG}{E:Uj->Uq->Prop}{s:Uq}{env:WY}{value slice:UM}{pos:VJ}{T id:String}{Q:Uj->Uq->Prop}
  (hl:XD (.type T) "__getitem__" = pure (Yc (.builtin id))) (hs:Li slice)
  (h:wpAny (model prog w) A (eval value env) (λo J=>wpAny (model prog w) A (eval slice env) (λi D=>D.TypeIs o T/\wpAny (model prog w) A (Wk o i) Q E D) E J) E s) :
  wpAny (model prog w) A (eval (.Subscript value slice pos) env) Q E s:=by
 refine W9 (UX h (λo J U=>UX U (λi D G=>?_) λ_ _ x=>x) λ_ _ x=>x);obtain⟨Z,G⟩:=G;unfold Wa;refine Uh ?_;rw[getitemInPython_of_ne Z.not_modules];refine Uh (Vm Z hl ?_);have fin:wpAny (model prog w) A (WI slice false o i) (λr O=>wpAny (model prog w) A (letTemporaryGo value o r >>= λ_=>pure r) Q E O) E D:=by
  rw[hs o i];exact wpAny_operating (UX G (λr O V=>Uh (wpAny_letTemporaryGo (Ur V))) λ_ _ x=>x)
 first
  |exact Ur (Uh fin)
  |exact Uh (Ur (Uh fin))
  |exact Uh fin
def FQ(ty G:TE):TE:=λσ H Q=>ty σ H λy J=>G σ J λx D=>∃a o,x=.ref a/\wU D a y o/\Q (.bl (!o.isSome)) D
def Lj(J ty O:TE):TS:=λD σ H=>O σ H λv U=>J σ U λx V=>ty σ V λy Z=>∃a G,x=.ref a/\sS Z a y v G/\D.nx σ G
section
variable {X:Cx}{o i e value:UM}{pos pos' Ow:VJ}{td ty tv:TE}
theorem lB(D:X.A.units+1<cLine)(G:PE X i ty)(J:PE X o td):PC X .NotIn i o (FQ ty td):=by
 intro pins s σ H Q I h;refine cF (G pins s σ H _ I h) λiv O ⟨y,U,V,Z,q1⟩=>cF (J pins O σ U _ V q1) λu s2 zq=>?_;obtain⟨x,H2,I2,rx,a,ov,ex,g,q2⟩:=zq;subst ex;obtain rfl:u=Value.ref a:=rx;exact FO D I2 g Z λs3 I3=>⟨.bl (!ov.isSome),H2,I3,rfl,q2⟩
theorem qu(G:X.A.units+1<cLine)(J:PE X o td)(O:PE X i ty)(U:PE X value tv)(hs:Wf value (Yc (.Subscript o i pos')) pos.line X.env=pure false) :
  PS X (.Assign [.Subscript o i pos'] value pos) (Lj td ty tv):=by
 intro pins s σ H D I h;refine Wl (cF (U pins s σ H _ I h) λr V ⟨v,Z,I1,rv,q1⟩=>cF (J pins V σ Z _ I1 q1) λu s2 ⟨x,H2,I2,rx,q2⟩=>cF (O pins s2 σ H2 _ I2 q2) λiv s3 ⟨y,H3,I3,ry,a,H4,ex,g,q3⟩=>?_) hs;subst ex;obtain rfl:u=Value.ref a:=rx;exact Bq G I3 g ry rv λs4 I4=>⟨σ,H4,I4,q3⟩
end
theorem CP{P:Ux}{w:UA}{H:Hp}(h:UH)(D:U0<h.objs.size):cQ P w H (h.push { cls:=.type "dict",data:=.dict #[] }) h.objs.size (.dK []):=
 ⟨PH _,beq_eq_false_iff_ne.mpr (Ne.symm (Pb D)),[],.nil,Heap.DictOf.new h⟩
theorem wV{P:Ux}{w:UA}{H:Hp}(h:UH)(D:U0<h.objs.size):cQ P w H (h.push { cls:=.type "dict",data:=.dict #[] }) h.objs.size (.dT []):=
 ⟨PH _,beq_eq_false_iff_ne.mpr (Ne.symm (Pb D)),[],.nil,_,#[],0,O6 _ rfl,⟨rfl,rfl,rfl⟩,rfl,rfl,RF⟩
def IA:TE:=λ_ H Q=>∀p,H p=none->Q (.ref p) (upd H p (.dK []))
def IB:TE:=λ_ H Q=>∀p,H p=none->Q (.ref p) (upd H p (.dT []))
section
variable {X:Cx}{pos:VJ}
theorem qV:PE X (.Dict [] [] pos) IA:=λpins s σ H Q I h =>
 Wg ⟨.ref s.heap.objs.size,_,I.laid (a:=s.heap.objs.size) (o:=.dK []) (t':=s.toks) (λ_ _ q=>OJ _ q) (ON _) (CP s.heap I.big),rfl,h _ (I.bN.fresh (ON _))⟩
theorem CQ:PE X (.Dict [] [] pos) IB:=λpins s σ H Q I h =>
 Wg ⟨.ref s.heap.objs.size,_,I.laid (a:=s.heap.objs.size) (o:=.dT []) (t':=s.toks) (λ_ _ q=>OJ _ q) (ON _) (wV s.heap I.big),rfl,h _ (I.bN.fresh (ON _))⟩
end
noncomputable def CS:List (TE×TE)->St->Hp->(List (V×V)->Hp->Prop)->Prop
 |[],_,H,Q=>Q [] H
 |(tk,D)::r,σ,H,Q=>tk σ H λx G=>D σ G λy J=>CS r σ J λO U=>Q ((x,y)::O) U
abbrev VV:List (V×V)->List (Uj×Uj)->Prop:=Paired λp q=>RelV p.1 q.1/\RelV p.2 q.2
def Ox(X:Cx)(pos:VJ)(keys:List (Option UM))(values:List UM)(D:List (TE×TE)):Prop :=
 ∀(pins:List (Um×U6)) (s:Uq) (σ:St) (H:Hp) (Q:List (V×V)->Hp->Prop),Inv X pins σ H s->CS D σ H Q ->
  wpAny (model X.prog X.w) X.A (evalPairs (pairTrees keys values X.env pos)) (λJ s'=>∃G H',Inv X pins σ H' s'/\VV G J/\Q G H') X.xe s
theorem FT{X:Cx}{pos:VJ}:Ox X pos [] [] []:=λpins s σ H Q I h=>pairTrees_nil_walk ⟨[],H,I,.nil,h⟩
theorem CV{X:Cx}{pos:VJ}{k v:UM}{ks:List (Option UM)}{J:List UM}{tk O:TE}{D:List (TE×TE)}(U:PE X k tk)(V:PE X v O)(Z:Ox X pos ks J D) :
  Ox X pos (Yc k::ks) (v::J) ((tk,O)::D):=λpins s σ H Q I h =>
 pairTrees_cons_walk (cF (U pins s σ H _ I h) λu s1 ⟨x,H1,I1,rx,q1⟩=>cF (V pins s1 σ H1 _ I1 q1) λw2 s2 ⟨y,H2,I2,ry,q2⟩ =>
  cF (Z pins s2 σ H2 _ I2 q2) λws s3 ⟨ps,H3,I3,G,q3⟩=>⟨(x,y)::ps,H3,I3,.cons ⟨rx,ry⟩ G,q3⟩)
end L2
namespace HT
open PySem PyProof.Rows
noncomputable def lexLt:List Int->List Int->Bool
 |[],[]=>false
 |[],_::_=>true
 |_::_,[]=>false
 |x::xs,y::D=>if x=y then lexLt xs D else decide (x<y)
theorem mC(x y:Int)(xs D:List Int):lexLt (x::xs) (y::D)=if x=y then lexLt xs D else decide (x<y):=rfl
theorem ma:lexLt [] []=false:=rfl
theorem qW(y:Int)(D:List Int):lexLt [] (y::D)=true:=rfl
theorem qX(x:Int)(xs:List Int):lexLt (x::xs) []=false:=rfl
theorem CW(A:UG)(s:Uq)(a:Int)(t:XO)(c:Int)(u:XO):∃e,SeqAt.EqAt A s (.int a t) (.int c u) e/\(e=true↔a=c):=
 ⟨(a==c),SeqAt.EqAt.int_int a t c u,by simp⟩
theorem CY(A:UG)(s:Uq)(a:Int)(t:XO)(c:Int)(u:XO)(prog:Ux)(w:UA)(E:Uj->Uq->Prop)(Q:Uj->Uq->Prop)(h:Q (.bool (decide (a<c))) s) :
  wpAny (model prog w) A (VQ .Lt (.int a t) (.int c u)) Q E s :=
 (Ua h:wpAny (model prog w) A (UQ .Lt (.int a t) (.int c u)) Q E s)
section
open PySem.SeqAt
open PySem.AutoSeq1 (wpAny_loadPart')
open PySem.MeetsSeq PySem.MeetsSeq2 PySem.MeetsSeq3
theorem sT(l b:Um)(items D:Array Uj)(n n2:Nat)(dd dd2:Option Um)(sl sl2:Array (Option Uj))(ns ms:List Int)(hi:Vc items.toList ns)(hj:Vc D.toList ms) :
  Meets (Builtin.«tuple.__lt__» ⟨[.ref l,.ref b],[]⟩)
   (λ_ R s=>s.heap.get? l=Yc { cls:=.type "tuple",dict:=dd,data:=.seq items n,slots:=sl }/\s.heap.get? b=Yc { cls:=.type "tuple",dict:=dd2,data:=.seq D n2,slots:=sl2 } /\
    R (.ok (.ret (.bool (lexLt ns ms)))) s):=
 .of_wp λprog w A R s h=>by
  obtain⟨hp,g,d,tk,os⟩:=s;obtain⟨hl,hb,h⟩:=h;have f2:=AutoSeq1.sub_tuple_tuple;have z1:items.size=ns.length:=by rw[<-hi.length];simp
  have z2:D.size=ms.length:=by rw[<-hj.length];simp
  wp_walk using UL hl,UL hb,Vg _ (λrest b s'=>b.1=none/\s'=⟨hp,g,d,tk,os⟩/\∃(vs ws:List Uj) (G J:List Int),rest=vs.zip ws /\
   Vc vs G/\Vc ws J/\G.length+D.size=J.length+items.size/\R (.ok (.ret (.bool (lexLt G J)))) ⟨hp,g,d,tk,os⟩) _
  case turn =>
   rintro⟨y,x⟩ rest b s' ⟨Z,rfl,vs,ws,G,J,hz,Oy,O,hlen,U⟩;cases Oy with
   |nil=>rw[List.zip_nil_left]at hz;cases hz
   |cons a t Oz =>
    cases O with
    |nil=>rw[List.zip_nil_right]at hz;cases hz
    |cons c u OA =>
     rw[RZ]at hz;injection hz with hyx CZ;injection hyx with hy hx;subst hy hx;rw[mC]at U;simp only[Ph]at hlen;obtain⟨e,he,V⟩:=CW A.in1 ⟨hp,g,d,tk,os⟩ a t c u;refine Uh (he prog w _ _ ?_);cases e with
     |true =>
      rw[Uo (V.mp rfl)]at U
      wp_walk
      exact⟨rfl,rfl,_,_,_,_,CZ,Oz,OA,by omega,U⟩
     |false =>
      rw[Uk (λq=>Us (V.mpr q) O4)]at U;have hri:=CY A.in1 ⟨hp,g,d,tk,os⟩ a t c u prog w
      wp_walk using hri
      exact⟨_,rfl,by simpa using U⟩
  case fin =>
   rintro⟨b1,b2⟩ s' ⟨Z,rfl,vs,ws,G,J,hz,Oy,O,hlen,U⟩;simp only at Z;subst Z;have hv:lexLt G J=decide (items.size<D.size):=by
    cases Oy with
    |nil =>
     cases O with
     |nil =>
      simp only[Qn]at hlen;rw[ma];exact(Up (by omega)).symm
     |cons c u hw =>
      simp only[Qn,Ph]at hlen;rw[qW];exact(Ul (by omega)).symm
    |cons a t hv =>
     cases O with
     |nil =>
      simp only[Qn,Ph]at hlen;rw[qX];exact(Up (by omega)).symm
     |cons c u hw =>
      rw[RZ]at hz;cases hz
   rw[hv]at U
   wp_walk
   exact⟨_,rfl,by simpa[Builtin.Tuple.tupleCompareSizes]using U⟩
  case h =>
   exact⟨rfl,rfl,items.toList,D.toList,ns,ms,rfl,hi,hj,by omega,h⟩
end
section
variable {prog:Ux}{w:UA}{A:UG}{E:Uj->Uq->Prop}{s:Uq}
theorem yL{l b:Um}{items D:Array Uj}{ns ms:List Int}{Q:Uj->Uq->Prop}(hl:XQ s.heap l items)(hb:XQ s.heap b D)(hi:Vc items.toList ns)(hj:Vc D.toList ms)
  (hu:A.units<cLine) (h:Q (.bool (lexLt ns ms)) s):wpAny (model prog w) A (UQ .Lt (.ref l) (.ref b)) Q E s:=by
 obtain⟨⟨cls,dd,data,sl⟩,Z,hc,n,hd⟩:=id hl;obtain⟨⟨Lk,U,data2,V⟩,G,J,n2,O⟩:=id hb;simp only at hc hd J O;subst hc hd J O;exact Wn (op:=.Lt) ⟨_,Z,rfl⟩ ⟨_,G,rfl⟩ PySem.F.slot_tuple_lt PySem.F.entry_tuple_lt (PySem.F.args_tuple_lt_2 _ _) (sT l b items D n n2 dd U sl V ns ms hi hj)
  ⟨Z,G,show Value.bool (lexLt ns ms)≠Value.notImplemented/\Q (.bool (lexLt ns ms)) s from⟨(λx=>nomatch x),h⟩⟩ hu
theorem FU{t b:Um}{J D:List Uj}{Q:Uj->Uq->Prop}(ht:XQ s.heap t J.toArray)(hb:XQ s.heap b D.toArray)(hv:J≠[])
  (h1:D=[]->Q (.ref t) s) (h2:D≠[]->Q (.ref s.heap.objs.size) { s with heap:=s.heap.push { cls:=.type "tuple",data:=.seq (J++D).toArray } })
  (hsz:J.length+D.length<=Uu):wpAny (model prog w) A (Vu .Add (.ref t) (.ref b)) Q E s:=by
 obtain⟨⟨cls,dd,data,sl⟩,ho,hc,n,hd⟩:=id ht;obtain⟨⟨Lk,O,data2,U⟩,G,V,n2,Z⟩:=id hb;simp only at hc hd V Z;subst hc hd V Z;have e:J.toArray++D.toArray=(J++D).toArray:=by simp
 by_cases hw:D=[]
 .exact Xh ⟨_,ho,rfl⟩ ⟨_,G,rfl⟩ Wh W0 RB Rw (Rt _ _)
   (tuple_addW1 t b J.toArray D.toArray n n2 dd O sl U (by simpa using hv) (by simp[hw])) ⟨ho,G,h1 hw⟩
 refine Xh ⟨_,ho,rfl⟩ ⟨_,G,rfl⟩ Wh W0 RB Rw (Rt _ _)
  (tuple_addW2 t b J.toArray D.toArray n n2 dd O sl U (by simpa using hv) (by simpa using hw) (by rw[OT,OT];exact hsz)) ⟨ho,G,?_⟩
 rw[e];exact h2 hw
noncomputable def yM(n d:Nat):Option Int->Nat
 |none=>d
 |some v=>if v<0 then(v+(n:Int)).toNat else min v.toNat n
end
end HT
namespace L2
open PySem PySem.Spec PyProof.Rows
noncomputable abbrev TO:=St->Hp->(Option Int->Hp->Prop)->Prop
def PO(X:Cx)(e:Option UM)(t:TO):Prop :=
 ∀(pins:List (Um×U6)) (s:Uq) (σ:St) (H:Hp) (Q:Option Int->Hp->Prop),Inv X pins σ H s->t σ H Q ->
  wpAny (model X.prog X.w) X.A (evalPart e X.env) (λu s'=>∃o H',Inv X pins σ H' s'/\IsPart u o/\Q o H') X.xe s
noncomputable def FV:TO:=λ_ H Q=>Q none H
noncomputable def Ll(t:TE):TO:=λσ H Q=>t σ H λx D=>∃i,x=.int i/\Q (Yc i) D
theorem intsAre_of{ns:List Int}:∀{D:List Uj},Vals (ns.map V.int) D->Vc D ns:=by
 induction ns with
 |nil=>intro D r;rw[Sv]at r;cases r;exact .nil
 |cons n ns G =>
  intro D r;rw[Po]at r;cases r with
  |cons J O =>
   obtain⟨t,e⟩:=J;subst e;exact .cons n t (G O)
section
variable {X:Cx}{e:UM}{te:TE}{lo hi:Option UM}{tl th:TO}{pos p2:VJ}
theorem FW:PO X none FV:=by
 intro pins s σ H Q I h;rw[W5];exact Ur ⟨none,H,I,.none,h⟩
theorem uT(h:PE X e te):PO X (Yc e) (Ll te):=by
 intro pins s σ H Q I hw;rw[W6];refine cF (h pins s σ H _ I hw) λu V D=>?_;obtain⟨x,G,J,O,U⟩:=D;obtain⟨i,rfl,q⟩:=U;obtain⟨t,rfl⟩:=O;exact⟨Yc i,G,J,.int i t,q⟩
def SlR(X:Cx)(r:V->Option Int->Option Int->Hp->VK->Prop):Prop :=
 ∀(pins:List (Um×U6)) (s:Uq) (σ:St) (H:Hp) (x:V) (v D G:Uj) (lo hi:Option Int) (J:Um) (Q:VK),Inv X pins σ H s->RelV x v->s.heap.IsSliceOf J D G .none->IsPart D lo->IsPart G hi->r x lo hi H Q ->
  ∃T id,XD (.type T) "__getitem__" = pure (Yc (.builtin id))/\s.TypeIs v T/\wpAny (model X.prog X.w) X.A (Wk v (.ref J)) (EP X pins σ Q) X.xe s
def tSl(r:V->Option Int->Option Int->Hp->VK->Prop)(te:TE)(tl th:TO):TE:=λσ H Q=>te σ H λx D=>tl σ D λl G=>th σ G λu J=>r x l u J Q
theorem wW{r:V->Option Int->Option Int->Hp->VK->Prop}(Z:SlR X r)(he:PE X e te)(hl:PO X lo tl)(hu:PO X hi th):PE X (.Subscript e (.Slice lo hi none p2) pos) (tSl r te tl th):=by
 intro pins s σ H Q I h;refine W9 (cF (he pins s σ H _ I h) λv s1 O=>?_);obtain⟨x,H1,I1,r1,q1⟩:=O;refine wpAny_Slice (cF (hl pins s1 σ H1 _ I1 q1) λG s2 ⟨l,H2,I2,pl,q2⟩=>cF (hu pins s2 σ H2 _ I2 q2) λJ D O=>?_);obtain⟨u,U,I3,pu,q3⟩:=O;rw[W5];refine Ur ?_;have I4:Inv X pins σ U { D with heap:=D.heap.push { cls:=.type "slice",data:=.fields #[G,J,.none] } }:=I3.kept (t':=D.toks) λb ob q=>OJ _ q;obtain⟨T,id,hT,ht,hg⟩:=Z pins { D with heap:=D.heap.push { cls:=.type "slice",data:=.fields #[G,J,.none] } } σ U x v G J l u D.heap.objs.size Q I4 r1 (Heap.IsSliceOf.new ..) pl pu q3;show wpAny (model X.prog X.w) X.A (Wa e (.Slice lo hi none p2) v (.ref D.heap.objs.size)) (EP X pins σ Q) X.xe { D with heap:=D.heap.push { cls:=.type "slice",data:=.fields #[G,J,.none] } };exact tail_any (ops:=[.ref D.heap.objs.size,v]) ht hT hg (by with_unfolding_all rfl)
noncomputable def Br(xs:List V)(lo hi:Option Int):List V:=(xs.drop (HT.yM xs.length 0 lo)).take (HT.yM xs.length xs.length hi-HT.yM xs.length 0 lo)
theorem pj(xs:List V)(lo hi:Option Int):(Br xs lo hi).length<=xs.length:=by
 unfold Br;rw[Pu,Q4];omega
def Lm(K:OM):R2:=λx y H Q=>∃a b ns ms,x=.ref a/\y=.ref b/\br K H a (ns.map V.int)/\br K H b (ms.map V.int)/\Q (.bl (HT.lexLt ns ms)) H
theorem ID(G:X.A.units<cLine):kA X (UQ .Lt) (Lm X.K):=by
 intro pins s σ H x y v u Q I J O h;obtain⟨a,b,ns,ms,rfl,rfl,U,V,q⟩:=h;cases J;cases O;obtain⟨its,Z,p1,_⟩:=I.tuple U;obtain⟨D,r2,p2,_⟩:=I.tuple V;have i1:Vc its.toArray.toList ns:=intsAre_of Z;have i2:Vc D.toArray.toList ms:=intsAre_of r2;exact HT.yL p1 p2 i1 i2 G ⟨.bl (HT.lexLt ns ms),H,I,rfl,q⟩
def Ln(K:OM):R2:=λx y H Q=>∃a b xs D,x=.ref a/\y=.ref b/\br K H a xs/\br K H b D/\xs≠[]/\xs.length+D.length<=Uu /\
 (D=[]->Q (.ref a) H)/\(D≠[]->∀p,H p=none->Q (.ref p) (upd H p (.tup (xs++D))))
theorem Vals.qv{xs:List V}{D:List Uj}(r:Vals xs D):D=[]↔xs=[]:=by
 cases r with
 |nil=>simp
 |cons _ _=>simp
theorem FX:kA X (Vu .Add) (Ln X.K):=by
 intro pins s σ H x y v u Q I O U h;obtain⟨a,b,xs,V,rfl,rfl,Z,hb,hx,hz,q1,q2⟩:=h;cases O;cases U;obtain⟨its,G,p1,_⟩:=I.tuple Z;obtain⟨J,D,p2,_⟩:=I.tuple hb;refine HT.FU p1 p2 (λz=>hx (G.qv.mp z)) (λz=>⟨.ref a,H,I,rfl,q1 (D.qv.mp z)⟩) (λz=>?_) (by rw[<-G.length,<-D.length];exact hz);refine⟨.ref s.heap.objs.size,_,I.laid (t':=s.toks) (o:=.tup (xs++V)) (λb ob q=>OJ _ q) (ON _) ?_,rfl,q2 (λw=>z (D.qv.mpr w)) _ (I.bN.fresh (ON _))⟩;exact⟨by rw[OQ];exact hz,_,G.append D,IsTup.new _ _⟩
end
noncomputable def C1(n:Nat)(i:Int):Option Nat:=if 0<=i then(if i<n then some i.toNat else none)else if -(n:Int)<=i then some (i+n).toNat else none
noncomputable def uU{α:Type}(xs:List α)(i:Int):Option α:=(C1 xs.length i).bind λj=>xs[j]?
theorem Ak{n:Nat}{i:Int}{j:Nat}(h:C1 n i=Yc j):seqIndex? i n=Yc j/\j<n/\-(n:Int)<=i/\i<n:=by
 unfold C1 at h;by_cases G:0<=i
 .rw[Uo G]at h;by_cases D:i<n
  .rw[Uo D]at h;have e:i.toNat=j:=Option.some.inj h;exact⟨by rw[Xv G D,e],by omega,by omega,D⟩
  rw[Uk D]at h;cases h
 rw[Uk G]at h;by_cases D:-(n:Int)<=i
 .rw[Uo D]at h;have e:(i+n).toNat=j:=Option.some.inj h;exact⟨by rw[Xi (by omega) D,e],by omega,D,by omega⟩
 rw[Uk D]at h;cases h
theorem Am{α:Type}{xs:List α}{i:Int}{v:α}(h:uU xs i=Yc v):∃j,seqIndex? i xs.length=Yc j/\xs[j]?=Yc v/\j<xs.length/\-(xs.length:Int)<=i/\i<xs.length:=by
 unfold uU at h;cases e:C1 xs.length i with
 |none=>rw[e]at h;cases h
 |some j =>
  rw[e]at h;obtain⟨D,G,J,O⟩:=Ak e;exact⟨j,D,h,G,J,O⟩
theorem ic{α:Type}{xs:List α}{j:Nat}{v:α}(h:xs[j]?=Yc v):uU xs (j:Int)=Yc v:=by
 have D:j<xs.length:=(OI.mp h).1;have e:C1 xs.length (j:Int)=Yc j:=by
  unfold C1;rw[Uo (by omega),Uo (by omega)];simp
 unfold uU;rw[e];exact h
theorem C2{α:Type}(xs:List α)(v:α):uU (xs++[v]) (-1)=Yc v:=by
 have D:(xs++[v]).length=xs.length+1:=by simp
 have e:C1 (xs++[v]).length (-1)=Yc xs.length:=by
  unfold C1;rw[D,Uk (by decide),Uo (by omega)];congr 1;omega
 unfold uU;rw[e];show(xs++[v])[xs.length]?=Yc v;simp
def FY(b:UM):Prop:=∀o i,WI b false o i=operate [o,i] (Wk o i)
def Lo(X:Cx)(r:R2):Prop :=
 ∀(value slice:UM) (pins:List (Um×U6)) (s:Uq) (σ:St) (H:Hp) (x y:V) (v u:Uj) (Q:VK),Inv X pins σ H s->RelV x v->RelV y u->r x y H Q ->
  WI slice false v u=operate [v,u] (Wk v u)->wpAny (model X.prog X.w) X.A (Wa value slice v u) (EP X pins σ Q) X.xe s
def MtR(X:Cx)(id:String)(r:V->List V->Hp->VK->Prop):Prop :=
 ∀(pins:List (Um×U6)) (s:Uq) (σ:St) (H:Hp) (x:V) (xs:List V) (v:Uj) (D:List Uj) (Q:VK),Inv X pins σ H s->RelV x v->Vals xs D->r x xs H Q ->
  wpAny (model X.prog X.w) X.A (call (.builtin id) (v::D)) (EP X pins σ Q) X.xe s
section
variable {X:Cx}{a b:UM}{ta tb:TE}{pos:VJ}
theorem cj{r:R2}(D:Lo X r)(G:PE X a ta)(J:PE X b tb)(hs:FY b):PE X (.Subscript a b pos) (Ki r ta tb):=by
 intro pins s σ H Q I h;exact W9 (Io G J I h λv u O x y U V Z ry q=>D a b pins O σ U x y v u Q V Z ry q (hs _ _))
def Lp(K:OM):R2:=λx y H Q=>∃p xs i v,x=.ref p/\y=.int i/\aZ K H p xs/\uU xs i=Yc v/\Q v H
def FZ(K:OM):R2:=λx y H Q=>∃p xs i v,x=.ref p/\y=.int i/\br K H p xs/\uU xs i=Yc v/\Q v H
theorem eD:Lo X (Lp X.K):=by
 intro value slice pins s σ H x y v u Q I V Z h hs;obtain⟨p,xs,i,z,rfl,rfl,hq,he,q⟩:=h;cases V;obtain⟨t,rfl⟩:=Z;obtain⟨its,r,pl,hz⟩:=I.list hq;obtain⟨j,D,h2,h3,h4,h5⟩:=Am he;obtain⟨w,O,G⟩:=r.get h2;have hl:=r.length;have hn:=uR;have fin:EP X pins σ Q w s:=⟨z,H,I,G,q⟩
 by_cases U:0<=i
 .have J:i.toNat=j:=by
   rw[Xv U h5]at D;exact Option.some.inj D
  exact item_listR pl.isList U (by omega) (by rw[J];simpa using O) fin hs
 have J:(i+(its.toArray.size:Int)).toNat=j:=by
  rw[Xi (by omega) h4]at D;rw[OT,<-hl];exact Option.some.inj D
 exact Wo (x:=w) pl.isList.typeIs slot_list_getitem.lookup
  (wpAny_getItem_list_neg (Q:=λr s'=>r=w/\EP X pins σ Q r s') pl.isList (by omega) (by rw[OT] <;> omega) (by omega) (by rw[J];simpa using O) ⟨rfl,fin⟩) hs
theorem ej:Lo X (FZ X.K):=by
 intro value slice pins s σ H x y v u Q I G J h hs;obtain⟨p,xs,i,z,rfl,rfl,O,U,q⟩:=h;cases G;obtain⟨t,rfl⟩:=J;obtain⟨its,r,pl,hz⟩:=I.tuple O;obtain⟨j,V,Z,h3,h4,h5⟩:=Am U;obtain⟨w,ew,D⟩:=r.get Z;have hl:=r.length;have hn:=uR;have fin:EP X pins σ Q w s:=⟨z,H,I,D,q⟩
 exact Wo (x:=w) pl.typeIs slot_tuple_getitem.lookup
  (getItem_tuple (j:=j) (Q:=λr s'=>r=w/\EP X pins σ Q r s') pl (by omega) (by omega) (by rw[OT,<-hl];exact V) (by simpa using ew) ⟨rfl,fin⟩) hs
theorem yN(its:List Uj)(n j:Nat)(u:Uj):Obj.mapSeq (·.setIfInBounds j u) { cls:=.type "list",data:=.seq its.toArray n }={ cls:=.type "list",data:=.seq (its.set j u).toArray n }:=by
 simp[Obj.mapSeq]
theorem Inv.lst{pins:List (Um×U6)}{σ:St}{H:Hp}{s:Uq}{p:Um}{xs:List V}(I:Inv X pins σ H s)(h:H p=Yc (.lst xs)) :
  ∃(its:List Uj) (n:Nat),Vals xs its/\s.heap.get? p=Yc { cls:=.type "list",data:=.seq its.toArray n }/\xs.length<=sizeLine:=by
 obtain⟨z,its,n,r,e⟩:=I.bN p _ h;exact⟨its,n,r,e,z⟩
theorem Inv.IE{pins:List (Um×U6)}{σ:St}{H:Hp}{s:Uq}{p:Um}{xs D:List V}{its its':List Uj}{n G:Nat}{f:U6->U6}(I:Inv X pins σ H s)(h:H p=Yc (.lst xs))
  (O:s.heap.get? p=Yc { cls:=.type "list",data:=.seq its.toArray n }) (J:f { cls:=.type "list",data:=.seq its.toArray n }={ cls:=.type "list",data:=.seq its'.toArray G }) (r:Vals D its') (hz:D.length<=Uu) (t:Nat) :
  Inv X pins σ (upd H p (.lst D)) { s with heap:=s.heap.update p f,toks:=t }:=by
 have e:(s.heap.update p f).get? p=Yc { cls:=.type "list",data:=.seq its'.toArray G }:=by
  rw[Qz f O (by rw[J] <;> rfl),J]
 refine I.write (x:=p) (e:=p) (by rw[h];trivial) (.inl rfl) (λb u U q=>(Qc _ _ (Ne.symm U)).trans q) ⟨_,e⟩ ?_;exact⟨hz,its',G,r,e⟩
def Lq:V->V->V->Hp->(Hp->Prop)->Prop:=λo i v H Q=>∃p xs k j,o=.ref p/\i=.int k/\H p=Yc (.lst xs)/\C1 xs.length k=Yc j/\Q (upd H p (.lst (xs.set j v)))
theorem set_list:K3 X Lq:=by
 intro pins s σ H o i v ov iv u Q I ro ri rv h;obtain⟨p,xs,k,j,rfl,rfl,hp,hj,q⟩:=h;cases ro;obtain⟨t,rfl⟩:=ri;obtain⟨its,n,r,G,hz⟩:=I.lst hp;obtain⟨D,h2,U,V⟩:=Ak hj;have J:=r.length;have hn:=uR;have Z:Inv X pins σ (upd H p (.lst (xs.set j v))) { s with heap:=s.heap.update p (Obj.mapSeq (·.setIfInBounds j u)) }:=
  I.IE hp G (yN its n j u) (r.set rv j) (by rw[PR];exact hz) s.toks
 by_cases h0:0<=k
 .have O:k.toNat=j:=by
   rw[Xv h0 V]at D;exact Option.some.inj D
  exact PySem.W.ki_setAt G h0 (by omega) (by rw[OT,<-J];exact V) (by rw[O];exact⟨_,Z,q⟩)
 have O:(k+(its.toArray.size:Int)).toNat=j:=by
  rw[Xi (by omega) U]at D;rw[OT,<-J];exact Option.some.inj D
 exact PySem.W.ki_setBack G (by omega) (by rw[OT,<-J];exact U) (by omega) (by rw[O];exact⟨_,Z,q⟩)
theorem uV(lo D:Option Int)(n:Nat):(Vy lo D none n).1=((HT.yM n 0 lo:Nat):Int)/\(Vy lo D none n).2.1=((HT.yM n n D:Nat):Int)/\(Vy lo D none n).2.2=1:=by
 refine⟨?_,?_,rfl⟩
 .cases lo with
  |none=>simp[Vy,HT.yM]
  |some i =>
   simp only[Vy,HT.yM,Tn,show(1:Int)>0 by decide,VW];by_cases h:i<0
   .simp only[h,VW] <;> omega
   simp only[h,U1] <;> omega
 cases D with
 |none=>simp[Vy,HT.yM]
 |some i =>
  simp only[Vy,HT.yM,Tn,show(1:Int)>0 by decide,VW];by_cases h:i<0
  .simp only[h,VW] <;> omega
  simp only[h,U1] <;> omega
theorem sU(its:List Uj)(lo D:Option Int):slicePick its.toArray lo D none=((its.drop (HT.yM its.length 0 lo)).take (HT.yM its.length its.length D-HT.yM its.length 0 lo)).toArray:=by
 obtain⟨G,J,O⟩:=uV lo D its.toArray.size;unfold slicePick;rw[G,J,O];simp only[sliceRange_one,pick_run,OT] <;> rfl
def OB(K:OM):V->Option Int->Option Int->Hp->VK->Prop:=λx lo D H Q=>∃a xs,x=.ref a/\aZ K H a xs/\∀p,H p=none->Q (.ref p) (upd H p (.lst (Br xs lo D)))
theorem An:SlR X (OB X.K):=by
 intro pins s σ H x v V Z lo D sl Q I J hs pl O h;obtain⟨a,xs,rfl,U,q⟩:=h;cases J;obtain⟨its,r,G,hz⟩:=I.list U;have hlen:=r.length;refine⟨"list",_,slot_list_getitem.lookup,G.isList.typeIs,?_⟩;refine wpAny_getItem_list_slice G.isList hs pl O .none (by simp) ?_ (by rw[OT] <;> omega);rw[sU,<- hlen];refine⟨.ref s.heap.objs.size,_,I.laid (t':=s.toks) (o:=.lst (Br xs lo D)) (λb ob q=>OJ _ q) (ON _) ?_,rfl,q _ (I.bN.fresh (ON _))⟩;exact⟨PD (pj xs lo D) hz,_,0,(r.drop (HT.yM xs.length 0 lo)).take (HT.yM xs.length xs.length D-HT.yM xs.length 0 lo),O6 _ rfl⟩
noncomputable def j6:V->Bool
 |.g9=>true
 |.bl _=>true
 |.int _=>true
 |.str _=>true
 |_=>false
noncomputable def Ga:V->V->Bool
 |.g9,.g9=>true
 |.bl a,.bl b=>a==b
 |.bl a,.int b=>(if a then 1 else 0)==b
 |.int a,.bl b=>a==(if b then 1 else 0)
 |.int a,.int b=>a==b
 |.str a,.str b=>a==b
 |_,_=>false
theorem yO{A:UG}{s:Uq}{y x:V}{u v:Uj}(G:RelV y u)(D:RelV x v)(O:j6 y=true)(J:j6 x=true):SeqAt.EqAt A s u v (Ga y x):=by
 cases y with
 |g9 =>
  cases G;cases x with
  |g9=>cases D;exact SeqAt.EqAt.same _
  |bl b=>cases D;exact SeqAt.EqAt.none_bool b
  |int b=>obtain⟨t,rfl⟩:=D;exact SeqAt.EqAt.none_int b t
  |str b=>obtain⟨t,rfl⟩:=D;exact SeqAt.EqAt.none_str b t
  |_=>exact Us (show false=true from J) O4
 |bl a =>
  cases G;cases x with
  |g9=>cases D;exact SeqAt.EqAt.bool_none a
  |bl b=>cases D;exact SeqAt.EqAt.bool_bool a b
  |int b=>obtain⟨t,rfl⟩:=D;exact SeqAt.EqAt.bool_int a b t
  |str b=>obtain⟨t,rfl⟩:=D;exact SeqAt.EqAt.bool_str a b t
  |_=>exact Us (show false=true from J) O4
 |int a =>
  obtain⟨t',rfl⟩:=G;cases x with
  |g9=>cases D;exact SeqAt.EqAt.int_none a t'
  |bl b=>cases D;exact SeqAt.EqAt.int_bool a t' b
  |int b=>obtain⟨t,rfl⟩:=D;exact SeqAt.EqAt.int_int a t' b t
  |str b=>obtain⟨t,rfl⟩:=D;exact SeqAt.EqAt.int_str a t' b t
  |_=>exact Us (show false=true from J) O4
 |str a =>
  obtain⟨t',rfl⟩:=G;cases x with
  |g9=>cases D;exact SeqAt.EqAt.str_none a t'
  |bl b=>cases D;exact SeqAt.EqAt.str_bool a t' b
  |int b=>obtain⟨t,rfl⟩:=D;exact SeqAt.EqAt.str_int a t' b t
  |str b=>obtain⟨t,rfl⟩:=D;exact SeqAt.EqAt.str_str a t' b t
  |_=>exact Us (show false=true from J) O4
 |_=>exact Us (show false=true from O) O4
noncomputable def Gb(x:V)(u:Uj):Bool:=match u with
 |.none=>Ga .g9 x
 |.bool b=>Ga (.bl b) x
 |.int i _=>Ga (.int i) x
 |.str z _=>Ga (.str z) x
 |_=>false
theorem C3{x y:V}{u:Uj}(r:RelV y u)(f:j6 y=true):Gb x u=Ga y x:=by
 cases y with
 |g9=>cases r;rfl
 |bl b=>cases r;rfl
 |int i=>obtain⟨t,rfl⟩:=r;rfl
 |str z=>obtain⟨t,rfl⟩:=r;rfl
 |_=>exact Us (show false=true from f) O4
theorem uW{x:V}:∀{xs:List V}{D:List Uj},Vals xs D->xs.all j6=true->D.any (Gb x)=xs.any λy=>Ga y x
 |_,_,.nil,_=>rfl
 |y::xs,u::D,.cons r t,f=>by
  rw[TR,PX]at f;rw[Rv,Rv,C3 r f.1,uW t f.2]
theorem qY{A:UG}{s:Uq}{x:V}{v:Uj}(J:RelV x v)(O:j6 x=true):∀{xs:List V}{G:List Uj},Vals xs G->xs.all j6=true->∀u∈G,SeqAt.EqAt A s u v (Gb x u)
 |_,_,.nil,_=>λu D=>by cases D
 |y::xs,u::G,.cons r t,f=>λU D=>by
  rw[TR,PX]at f;rcases O9.mp D with rfl|D
  .rw[C3 r f.1];exact yO r J f.1 O
  exact qY J O t f.2 U D
noncomputable def Hs(x:V)(xs:List V):Bool:=xs.any λy=>Ga y x
def rIn(K:OM)(neg:Bool):R2:=λx y H Q=>∃p xs,y=.ref p/\(aZ K H p xs\/br K H p xs)/\j6 x=true/\xs.all j6=true/\Q (.bl (if neg then !Hs x xs else Hs x xs)) H
theorem lC:kA X (UQ .In) (rIn X.K false):=by
 intro pins s σ H x y v u Q I G O h;obtain⟨p,xs,rfl,D,J,fs,q⟩:=h;cases O;rcases D with D|D
 .obtain⟨its,r,pl,hz⟩:=I.list D;refine SeqAt.in_listAt (Gb x) pl.isList (λw hw=>qY G J r fs w (by simpa using hw)) ⟨.bl _,H,I,rfl,?_⟩;rw[show its.toArray.any (Gb x)=its.any (Gb x) by simp,uW r fs];exact q
 obtain⟨its,r,pl,hz⟩:=I.tuple D;refine SeqAt.in_tupleAt (Gb x) pl (λw hw=>qY G J r fs w (by simpa using hw)) ⟨.bl _,H,I,rfl,?_⟩;rw[show its.toArray.any (Gb x)=its.any (Gb x) by simp,uW r fs];exact q
theorem aH:fW X (.builtin "len") (λxs H Q=>∃p D,xs=[.ref p]/\(aZ X.K H p D\/br X.K H p D)/\Q (.int D.length) H):=by
 intro pins s σ H xs U Q I r h;obtain⟨p,D,rfl,G,q⟩:=h;obtain⟨u,rfl,O⟩:=vals1 r;cases O;have V:=uR;rcases G with G|G
 .obtain⟨its,J,pl,hz⟩:=I.list G;have hlen:=J.length;exact Calls.call_len_list pl.isList (by simp only[OT] <;> omega) ⟨.int D.length,H,I.tok _,⟨s.toks+1,by rw[OT,hlen]⟩,q⟩
 obtain⟨its,J,pl,hz⟩:=I.tuple G;have hlen:=J.length;exact len_tuple pl (by simp only[OT] <;> omega) ⟨.int D.length,H,I.tok _,⟨s.toks+1,by rw[OT,hlen]⟩,q⟩
theorem uX:fW X (.type "list") (λxs H Q=>∃p D,xs=[.ref p]/\(aZ X.K H p D\/br X.K H p D)/\∀l,H l=none->Q (.ref l) (upd H l (.lst D))):=by
 intro pins s σ H xs us Q I r h;obtain⟨p,D,rfl,J,q⟩:=h;obtain⟨u,rfl,Z⟩:=vals1 r;cases Z;have fin:∀(its:List Uj),Vals D its->D.length<=Uu->∀(h':UH) (c':Nat),(∀b V,s.heap.get? b=Yc V->h'.get? b=Yc V) ->
   h'.get? s.heap.objs.size=Yc { cls:=.type "list",dict:=none,data:=.seq its.toArray c',slots:=#[] }->EP X pins σ Q (.ref s.heap.objs.size) { s with heap:=h' }:=λits G hz h' c' kp e =>
  ⟨.ref s.heap.objs.size,_,I.laid (t':=s.toks) kp (ON _) (show cQ X.prog X.w _ h' _ (.lst D)from⟨hz,its,c',G,e⟩),rfl,q _ (I.bN.fresh (ON _))⟩
 rcases J with J|J
 .obtain⟨its,G,pl,hz⟩:=I.list J;have hlen:=G.length;obtain⟨o,O,U,n,hd⟩:=pl.isList;exact call_list_seq p (.inl rfl) O U hd (λh' c' kp e=>fin its G hz h' c' kp e) (by simp only[OT] <;> omega)
 obtain⟨its,G,pl,hz⟩:=I.tuple J;have hlen:=G.length;obtain⟨o,O,U,n,hd⟩:=pl;exact call_list_seq p (.inr rfl) O U hd (λh' c' kp e=>fin its G hz h' c' kp e) (by simp only[OT] <;> omega)
theorem md:fW X (.type "tuple") (λxs H Q=>∃p D,xs=[.ref p]/\((aZ X.K H p D/\∀l,H l=none->Q (.ref l) (upd H l (.tup D)))\/(br X.K H p D/\Q (.ref p) H))):=by
 intro pins s σ H xs Z Q I r h;obtain⟨p,D,rfl,h⟩:=h;obtain⟨u,rfl,U⟩:=vals1 r;cases U;rcases h with⟨G,q⟩|⟨G,q⟩
 .obtain⟨its,J,pl,hz⟩:=I.list G;have hlen:=J.length;refine call_tuple_list pl.isList (λh' kp=>?_) (by simp only[OT] <;> omega);have O:Inv X pins σ H { s with heap:=h' }:=I.kept (t':=s.toks) kp;have V:Inv X pins σ (upd H h'.objs.size (.tup D)) { s with heap:=h'.push { cls:=.type "tuple",data:=.seq its.toArray } }:=
   O.laid (t':=s.toks) (λb o e=>OJ _ e) (ON _) (show cQ X.prog X.w _ _ _ (.tup D)from⟨hz,its,J,IsTup.new _ _⟩)
  exact⟨.ref h'.objs.size,_,V,rfl,q _ (O.bN.fresh (ON _))⟩
 obtain⟨its,J,pl,hz⟩:=I.tuple G;exact call_tuple_same pl ⟨.ref p,H,I,rfl,q⟩
def tyV(K:OM)(T:String)(x:V)(H:Hp): Prop:=match x with
  |.str _=>T = "str"
  |.int _=>T = "int"
  | .ref p => (T = "list" /\ ∃ xs, aZ K H p xs) \/ (T = "tuple" /\ ∃ o, K.lookup p=Yc o /\ o.cls=.type "tuple" /\ o.dict=none) \/
      (T = "dict" /\ ((∃D,H p=Yc (.dK D)) \/ ∃D,H p=Yc (.dT D))) \/ (T = "set" /\ ∃S n,H p=Yc (.set S n))
  |_=>False
theorem IF{pins:List (Um×U6)}{σ:St}{H:Hp}{s:Uq}{T:String}{x:V}{v:Uj}(I:Inv X pins σ H s)(r:RelV x v)(ty:tyV X.K T x H) :
  s.TypeIs v T/\∀a,v=.ref a->∃ob,s.heap.get? a=Yc ob/\ob.dict=none:=by
 cases x with
 |str z =>
  obtain⟨t,rfl⟩:=r;cases(show T = "str" from ty);exact⟨typeIs_str s z t,λ_ e=>nomatch e⟩
 |int i =>
  obtain⟨t,rfl⟩:=r;cases(show T = "int" from ty);exact⟨typeIs_int s i t,λ_ e=>nomatch e⟩
 |ref p =>
  cases r;rcases ty with⟨rfl,xs,J⟩|⟨rfl,o,D,O,hd⟩|⟨rfl,D⟩|⟨rfl,S,n,D⟩
  .obtain⟨its,_,pl,_⟩:=I.list J;refine⟨pl.isList.typeIs,λa e=>?_⟩;cases e;obtain⟨o,n,e,c,hd,_⟩:=pl;exact⟨o,e,hd⟩
  .refine⟨⟨o,I.Bi p o D,O⟩,λa e=>?_⟩;cases e;exact⟨o,I.Bi _ o D,hd⟩
  .have z:∃o,s.heap.get? p=Yc o/\o.ExactDict:=by
    rcases D with⟨G,D⟩|⟨G,D⟩
    .obtain⟨_,_,_,_,o,_,_,e,ex,_⟩:=I.bN p _ D;exact⟨o,e,ex⟩
    obtain⟨_,_,_,_,o,_,_,e,ex,_⟩:=I.bN p _ D;exact⟨o,e,ex⟩
   obtain⟨o,e,ex⟩:=z;refine⟨⟨o,e,ex.1⟩,λa e2=>?_⟩;cases e2;exact⟨o,e,ex.2.1⟩
  obtain⟨o,_,_,_,e,ex,_⟩:=I.bN p _ D;refine⟨⟨o,e,ex.1⟩,λa e2=>?_⟩;cases e2;exact⟨o,e,ex.2.1⟩
 |_=>exact False.elim ty
def tBM(K:OM)(T:String)(r:V->List V->Hp->VK->Prop)(to:TE)(t:TA):TE:=λσ H Q=>to σ H λx D=>tyV K T x D/\t σ D λxs G=>r x xs G Q
variable {o e:UM}{es:List UM}{to:TE}{t:TA}{name:UI}{apos yP:VJ}{T id:String}{r:V->List V->Hp->VK->Prop}
theorem d5(pa:PlainAttrs T)(slot:Slot T name id)(U:typeOf (.builtin id)=pure (.type "method_descriptor"))(hm:MtR X id r)(ho:PE X o to)(ha:PA X (e::es) t)
  (G:attributeBase o name X.env (eval o X.env)=eval o X.env:=by rfl)
  (O:((backTo yP (UC (e::es) X.env)).all (λx=>!x.1)&&(backToKw yP (Xu [] X.env)).all (λx=>x.1.isSome)
   && decide ((e::es).length+([]:List XY).length+(if([]:List XY).isEmpty then 0 else 1)<30))=true:=by rfl)
  (J:(apos.endLine==yP.line)=true:=by rfl) (hs:UC (e::es) X.env=(false,eval e X.env)::UC es X.env:=by rfl) (D:(backTo yP (UC es X.env)).any (·.1)=false:=by rfl) :
  PE X (.Call (.Attribute o name apos) (e::es) [] yP) (tBM X.K T r to t):=by
 intro pins s σ H Q I h;refine wpAny_Call_method_late G O J rfl (cF (ho pins s σ H _ I h) λv s1 zq=>?_);obtain⟨x,H1,V,Z,ty,q1⟩:=zq;obtain⟨h1,h2⟩:=IF V Z ty;refine⟨T,id,pa,slot,U,h1,h2,?_⟩;have hA:=ha yP pins s1 σ H1 _ V q1;rw[hs]at hA⊢;refine Calls.callWith_builtin (by show(false||(backTo yP (UC es X.env)).any (·.1))=false;rw[D] <;> rfl) (Calls.evalArgs_plain ?_);exact cF hA λus s2 ⟨vs,H2,I2,r2,q2⟩=>hm pins s2 σ H2 x vs v us Q I2 Z r2 q2
/- xs.append(e),list.index on a Lr tuple .. are MtR facts of 06m -/
end
def Ls(X:Cx)(id:String)(r:V->List V->Hp->VK->Prop):Prop :=
 ∀(pins:List (Um×U6)) (s:Uq) (σ:St) (H:Hp) (x:V) (xs:List V) (v:Uj) (D:List Uj) (Q:VK),Inv X pins σ H s->RelV x v->Vals xs D->r x xs H Q ->
  wpAny (model X.prog X.w) X.A (call (.builtin id) (v::D)) (EP X pins σ Q) X.xe s
theorem Vals.one{x:V}{D:List Uj}(h:Vals [x] D):∃u,D=[u]/\RelV x u:=by
 cases h with
 |cons r h=>cases h;exact⟨_,rfl,r⟩
theorem Vals.two{x y:V}{D:List Uj}(h:Vals [x,y] D):∃u v,D=[u,v]/\RelV x u/\RelV y v:=by
 cases h with
 |cons r h=>obtain⟨u,rfl,q⟩:=h.one;exact⟨_,_,rfl,r,q⟩
section
variable {X:Cx}{pins:List (Um×U6)}{σ:St}{H:Hp}{s:Uq}{l b:Um}{xs Z zs:List V}
theorem Inv.IG{its its':List Uj}{n:Nat}{f:Array Uj->Array Uj}{t':Nat}(I:Inv X pins σ H s)(D:H l=Yc (.lst xs))
  (e:s.heap.get? l=Yc { cls:=.type "list",data:=.seq its.toArray n }) (G:f its.toArray=its'.toArray) (J:Vals Z its') (hz:Z.length<=Uu) :
  Inv X pins σ (upd H l (.lst Z)) { s with heap:=s.heap.update l (Obj.mapSeq f),toks:=t' }:=by
 have q:=PySem.IsL.update e f;rw[G]at q;refine I.write (x:=l) (e:=l) (by rw[D];exact trivial) (.inl rfl) (λV u O U=>(Qc s.heap (Obj.mapSeq f) (Ne.symm O)).trans U) ⟨_,q⟩ ?_;exact⟨hz,its',_,J,q⟩
theorem Inv.IH{its:List Uj}{t':Nat}(I:Inv X pins σ H s)(D:Vals Z its)(hz:Z.length<=Uu) :
  Inv X pins σ (upd H s.heap.objs.size (.lst Z)) { s with heap:=s.heap.push { cls:=.type "list",data:=.seq its.toArray },toks:=t' }:=
 I.laid (λ_ _ q=>OJ _ q) (ON _) ⟨hz,its,0,D,O6 _ rfl⟩
theorem Inv.fresh(I:Inv X pins σ H s):H s.heap.objs.size=none:=I.bN.fresh (ON _)
theorem Inv.yQ(I:Inv X pins σ H s)(D:H l=Yc (.lst xs)):xs.length<=Uu/\∃(its:List Uj) (n:Nat),Vals xs its/\xs.length=its.length/\s.heap.get? l=Yc { cls:=.type "list",data:=.seq its.toArray n }:=by
 obtain⟨z,its,n,r,e⟩:=I.bN l _ D;exact⟨z,its,n,r,r.length,e⟩
theorem wX{n:Nat}(h:n<=Uu):Builtin.List.listTooLong n=false:=by
 unfold Builtin.List.listTooLong;exact Up (by omega)
end
section
variable {X:Cx}
def Ge:V->List V->Hp->VK->Prop:=λx D H Q=>∃l xs y,x=.ref l/\D=[y]/\H l=Yc (.lst xs)/\xs.length<Uu/\Q .g9 (upd H l (.lst (xs++[y])))
theorem b8:Ls X "list.append" Ge:=by
 intro pins s σ H x U v V Q I G J h;obtain⟨l,xs,y,rfl,rfl,D,hz,q⟩:=h;cases G;obtain⟨u,rfl,O⟩:=J.one;obtain⟨z,its,n,r,Z,e⟩:=I.yQ D;refine Xa F.slot_list_append ⟨_,e,rfl⟩ F.entry_list_append (F.args_list_append_2 _ _) (PySem.list_append l its.toArray n u (by rw[OT];omega)) ⟨e,?_⟩;refine⟨.g9,_,I.IG (its':=its++[u]) D e (by simp) (r.append (.cons O .nil)) ?_,rfl,q⟩;rw[OQ,QA];omega
def Gf:V->List V->Hp->VK->Prop:=λx G H Q=>∃l b xs D,x=.ref l/\G=[.ref b]/\H l=Yc (.lst xs)/\H b=Yc (.lst D)/\xs.length+D.length<=Uu/\Q .g9 (upd H l (.lst (xs++D)))
theorem eV:Ls X "list.extend" Gf:=by
 intro pins s σ H x vs v us Q I O U h;obtain⟨l,b,xs,zs,rfl,rfl,J,V,hz,q⟩:=h;cases O;obtain⟨u,rfl,Z⟩:=U.one;cases Z;obtain⟨z,its,n,r,hl,e⟩:=I.yQ J;obtain⟨z2,D,n2,r2,uY,e2⟩:=I.yQ V;have hsz:its.toArray.size+D.toArray.size<=sizeLine:=by rw[OT,OT];omega
 have G:¬(!its.toArray.isEmpty&&Builtin.List.listTooLong (its.toArray.size+D.toArray.size))=true:=by
  rw[wX hsz,RG];exact O4
 refine Xa F.slot_list_extend ⟨_,e,rfl⟩ F.entry_list_extend (F.args_list_extend_2 _ _)
  (AutoSeq1.list_extend_list_list_0 l its.toArray n b D.toArray n2 G (by rw[OT];omega) (by omega)) ⟨e,e2,?_⟩
 refine⟨.g9,_,I.IG (its':=its++D) J e (by simp) (r.append r2) ?_,rfl,q⟩;rw[OQ];omega
def OC:R2:=λx y H Q=>∃l b xs D,x=.ref l/\y=.ref b/\H l=Yc (.lst xs)/\H b=Yc (.lst D)/\xs.length+D.length<=Uu/\∀p,H p=none->Q (.ref p) (upd H p (.lst (xs++D)))
theorem C4:kA X (Vu .Add) OC:=by
 intro pins s σ H x y v u Q I G J h;obtain⟨l,b,xs,zs,rfl,rfl,O,U,hz,q⟩:=h;cases G;cases J;obtain⟨z,its,n,r,hl,e⟩:=I.yQ O;obtain⟨z2,D,n2,V,Z,e2⟩:=I.yQ U;refine PySem.P.add_list e e2 ?_ (by rw[OT,OT];omega);have ea:its.toArray++D.toArray=(its++D).toArray:=by simp
 rw[ea];exact⟨.ref _,_,I.IH (t':=s.toks) (r.append V) (by rw[OQ];omega),rfl,q _ I.fresh⟩
end
end L2
namespace Att
open PySem PySem.W PySem.Calls PyProof.Rows
theorem pT{P:Params}{h:UH}:∀(ns:List Int) (D:List Uj),WellAll P h D (ns.map WData.int)->Vc D ns:=by
 intro ns
 induction ns with
 |nil =>
  intro D w;rw[Sv]at w;cases w;exact .nil
 |cons n ns G =>
  intro D w;rw[Po]at w;cases w with
  |cons a b =>
   cases a;exact .cons _ _ (G _ b)
theorem Bs{l:OpenLaw}{n:Nat}(hn:l.most=Yc n){P:Params}{h:UH}{args:List WData}{vals:List Uj}
  (D:l.row.toRowW.claim.pre args=true) (U:WellAll P h vals args) :
  ∃a Z ns,vals=[Value.ref a]/\args=[WData.list (ns.map WData.int)]/\h.get? a=Yc { cls:=.type "list",data:=.seq Z.toArray }/\Vc Z ns/\ns.length<=n:=by
 have V:WShape.hasAll [] args [.list .int]=true:=(pre_splitW D).1;have hc:l.pre.holds [] { args:=args }=true:=(pre_splitW D).2;obtain⟨d,r,rfl,h1,h2⟩:=hasAllW_cons V;obtain rfl:=hasAllW_nil h2;obtain⟨xs,rfl,h3⟩:=hasW_list h1;obtain⟨ns,rfl⟩:=items_int h3;have hlen:ns.length<=n:=by
  unfold OpenLaw.pre at hc;have J:(WTm.not (.lt (.lit (.int (n:Int))) (.len (.arg 0)))).holds [] { args:=[.list (ns.map .int)] }=true:=by
   have J:=(holds_andW hc).1;rw[hn]at J;exact J
  have O:=condW_of J (w_not (w_lt w_lit (w_len_list (w_arg rfl))));rw[OH]at O;refine QO λq=>?_;have q':(n:Int)<((ns.length:Nat):Int):=by omega
  first
   |(rw[Ul q']at O;exact Us O (by decide))
   |(simp at O;omega)
 cases U with
 |cons w1 w2 =>
  cases w2;cases w1 with
  |list ho G=>exact⟨_,_,ns,rfl,rfl,ho,pT ns _ G,hlen⟩
theorem Bt(l:OpenLaw)(args:List WData):l.row.toRowW.claim.post args (.bool true) args=true :=
 postW_of (r:=l.row.toRowW) (X:=(true==true))
  (show WShape.has [] (.bool true) .bool=true by first|rfl|decide|simp[WShape.has,WShape.arms,WShape.armsAll])
  (show(WTm.eq .res (.lit (.bool true))).value [] { args:=args,res:=Yc (.bool true),after:=args }=Yc (.bool (true==true))from w_eq_bool (w_res rfl) w_lit) rfl
theorem wY{l:OpenLaw}{n:Nat}{q:Ux}{loose:List UI}{XP:(UI->Option Uj)->UH->Prop}{YP:UA->UH->Prop}{d:DefRec}
  (hn:l.most=Yc n) (Z:d.params.defaults=[])
  (call:∀(w:UA) (s₀ D:Uq) (mg mb:UI->Option Uj) (fa:Um) (o:U6) (pm V doc:Uj) (a:Um) (J:List Uj) (ns:List Int),
   Ground q loose [] XP w s₀ mg mb D.heap->YP w D.heap ->
   D.heap.get? fa=Yc o->o.data=.func (docDef d.name d.params d.body d.scope pm V doc)->D.heap.CodeRec V d.name->mg d.name=Yc (.ref fa) ->
   D.heap.get? a=Yc { cls:=.type "list",data:=.seq J.toArray }->Vc J ns->ns.length<=n->D.gens = #[] ->
   VM (model l.prog w) WT (.call (.ref fa) ⟨[.ref a],[]⟩) (λr s'=>r=.ok (.ret (.bool true))/\OldK D.heap s'.heap/\s'.os=D.os/\VU s'.gens) D) :
  WalkO q loose XP YP l.row.toRowW d [] (λf J=>PySem.call f J):=by
 intro w s₀ D mg mb G Y fa o pm V doc dV kV ho hd FN hD Lu hg args vals as O aeA hrd OD hlo;obtain rfl:dV=.none:=Dflts.none hD Z;obtain rfl:kV=.none:=Dflts.noKw hD;obtain⟨a,J,ns,rfl,rfl,U,hints,hlen⟩:=Bs hn O OD;refine enter_call (VD (call w s₀ D mg mb fa o pm V doc a J ns G Y ho (fd_plain hd) FN Lu U hints hlen hg) λr s' hq=>?_);obtain⟨rfl,h2,h3,h4⟩:=hq;exact⟨.inl ⟨.bool true,.bool true,[],rfl,λ_=>rfl,.bool true,Bt l _,λ_=>⟨List.Pairwise.nil,λ_ hm=>(nomatch hm)⟩⟩,h2,h3,h4⟩
end Att
namespace L2
open PySem PySem.Spec PyProof.Rows
theorem t8:∀{D:List Uj}{ns:List Int},Vc D ns->Vals (ns.map V.int) D
 |_,_,.nil=>.nil
 |_,_,.cons n t h=>.cons ⟨t,rfl⟩ (t8 h)
def II(H:Hp):Prop:=∀b,H b=none\/∃o xs,H b=Yc (.Cu o (.lst xs))
theorem C5{P:Ux}{w:UA}{K:OM}{mg mb:UI->Option Uj}{CX:Cg}{k:Nat}{fa a:Um}{fd:Uz}{x:UI}{sp:Sp}{D:Uq}{U:List Uj}{ns:List Int}
  (KX:K.In D.heap) (Ao:D.heap.Ns UT mg) (J:D.heap.Ns XA mb) (hbb:∀x:UI,x≠"__name__"->mb x=UR x) (OE:D.heap.NoLimit) (hg:D.gens = #[])
  (ha:D.heap.get? a=Yc { cls:=.type "list",data:=.seq U.toArray }) (hi:Vc U ns) (hl:ns.length<=Uu) (hr:eI k WT)
  (F:∀base:UH,K.In base->base.Ns UT mg->aO P w K mg base CX k fa fd [x] sp) (Z:∀(s:Uq) (u:Uj),Xz s fd ⟨[u],[]⟩ [(x,u)])
  (Fi:∀H:Hp,II H->aZ K H a (ns.map V.int)->sp [.ref a] H (λv _=>v=.bl true) λ_ _ _=>False)
  (OF:∀H e s',CX [] H D (λ_ _ _=>False) e s'->False) :
  VM (model P w) WT (.call (.ref fa) ⟨[.ref a],[]⟩) (λr s'=>r=.ok (.ret (.bool true))/\OldK D.heap s'.heap/\s'.os=D.os/\VU s'.gens) D:=by
 have rv:=t8 hi;have aaa:=hi.length;have core:∀H:Hp,II H->aZ K H a (ns.map V.int)->l7 P w H D.heap->(∀b,H b≠none->b=a)->(H a≠none->K.lookup a=none) ->
   VM (model P w) WT (.call (.ref fa) ⟨[.ref a],[]⟩) (λr s'=>r=.ok (.ret (.bool true))/\OldK D.heap s'.heap/\s'.os=D.os/\VU s'.gens) D:=by
  intro H hO hS bN hA hK;have G:∀{b:Um}{o:U6},D.heap.get? b=Yc o->H b=none->(uL D.heap H).get? b=Yc o:=λe n=>Cw e n;have noA:∀{b:Um}{o:U6}{es:Array Vz}{ep:Nat},D.heap.get? b=Yc o->o.data=.dict es ep->H b=none:=λ{b o es ep} e d=>by
   cases q:H b with
   |none=>rfl
   |some u =>
    have e':b=a:=hA b (by rw[q];simp);subst e';rw[ha]at e;cases e;have d':Data.seq U.toArray _=Data.dict es ep:=d;cases d'
  have O:∀{b:Um}{m:UI->Option Uj},D.heap.Ns b m->(uL D.heap H).Ns b m:=λ{b m} ⟨o,es,ep,e,d,r⟩=>⟨o,es,ep,G e (noA e d),d,r⟩
  have hKb:K.In (uL D.heap H):=λb o e=>G (KX b o e) (by
   cases q:H b with
   |none=>rfl
   |some u =>
    have e':b=a:=hA b (by rw[q];simp);subst e';rw[hK (by rw[q];simp)]at e;cases e)
  have hM:Mod K mg (uL D.heap H):=⟨hKb,O Ao,⟨mb,O J,hbb⟩,let⟨mc,h1,h2⟩:=OE;⟨mc,O h1,h2⟩⟩
  have e0:yK P w K mg (uL D.heap H) WT [] D H:=⟨rfl,hM,λb o e=>Fw e,R0 (Bg _ _),trivial,λb J=>Us (show b∈([]:List Um)from J) (by simp),bN,.of_eq hg⟩
  refine VD ((F _ hKb (O Ao)).run WT [] D H ⟨[.ref a],[]⟩ [.ref a] [.ref a] _ _ hr e0 (Z D (.ref a)) (.cons rfl .nil) (Fi H hO hS)) λr s' h=>?_;cases r with
  |error e=>exact(OF H e s' h).elim
  |ok fl =>
   cases fl with
   |next=>exact False.elim h
   |brk=>exact False.elim h
   |cont=>exact False.elim h
   |ret u =>
    obtain⟨v,H',os,bare,un,aab,r',q⟩:=h;have q':v=.bl true:=q;subst q';obtain rfl:u=Value.bool true:=r';refine⟨rfl,OldK.of_keep λb o e=>?_,os,bare⟩;cases q:H b with
    |none=>exact un.keep b o e q (by intro z;exact Us (show b∈([]:List Um)from z) (by simp)) (by simp)
    |some u =>
     rcases hO b with z|⟨ob,xs,z⟩
     .rw[q]at z;cases z
     have z2:=un.lU b ob _ z;obtain⟨e1,_⟩:=bN b _ z;obtain⟨e2,_⟩:=aab b _ z2;rw[e]at e1;cases e1;exact e2
 cases hk:K.lookup a with
 |some o =>
  have e:=KX a o hk;rw[ha]at e;cases e;refine core (λ_=>none) (λ_=>.inl rfl) (.inr ⟨_,U.toArray,_,hk,rfl,rfl,rfl,by rw[OT,aaa];exact hl,by simpa using rv⟩) (λb u z=>by have z':(none:Option HO)=Yc u:=z;cases z') (λb z=>Us rfl z) λz=>Us rfl z
 |none =>
  refine core (λb=>if b=a then some (.Cu { cls:=.type "list",data:=.seq U.toArray } (.lst (ns.map V.int)))else none) (λb=>?_) (.inl (.inr ⟨{ cls:=.type "list",data:=.seq U.toArray },Uo rfl⟩)) (λb u z=>?_) (λb z=>?_) λ_=>hk
  .by_cases J:b=a
   .exact .inr ⟨_,_,Uo J⟩
   exact .inl (Uk J)
  .by_cases J:b=a
   .have z':=(Uo J).symm.trans z;cases z';subst J;exact⟨ha,by rw[OH];exact hl,U,_,rv,ha⟩
   have z':=(Uk J).symm.trans z;cases z'
  by_cases J:b=a
  .exact J
  exact Us (Uk J) z
theorem Ap{l:Tv}{n k:Nat}{q:Ux}{loose:List UI}{XP:(UI->Option Uj)->UH->Prop}{YP:UA->UH->Prop}{d:DefRec}{K:Params->OM}{CX:UA->Cg}{sp:UA->Sp}{x:UI}
  (hn:l.most=Yc n) (O:n<=Uu) (U:d.params.defaults=[]) (hr:eI k WT)
  (hY:∀(w:UA) (h:UH),YP w h->(K w.params).In h)
  (F:∀(w:UA) (mg:UI->Option Uj) (fa:Um) (h:UH),(K w.params).In h->h.Ns UT mg->mg d.name=Yc (.ref fa) ->
   ∃Z:Uz,(∀(s:Uq) (u:Uj),Xz s Z ⟨[u],[]⟩ [(x,u)]) /\
    ∀base:UH,(K w.params).In base->base.Ns UT mg->aO l.prog w (K w.params) mg base (CX w) k fa Z [x] (sp w))
  (Fi:∀(w:UA) (H:Hp) (a:Um) (ns:List Int),ns.length<=n->II H->aZ (K w.params) H a (ns.map V.int)->sp w [.ref a] H (λv _=>v=.bl true) λ_ _ _=>False)
  (OF:∀(w:UA) (H:Hp) (s:Uq) (e:Uj) (s':Uq),CX w [] H s (λ_ _ _=>False) e s'->False) :
  TU q loose XP YP l.row.toRowW d [] (λf vs=>PySem.call f vs):=by
 refine Att.wY hn U λw s₀ D mg mb fa o pm cd doc a vs ns G Y ho hd FN Lu J hints hlen hg=>?_;have KX:=hY w _ Y;obtain⟨Z,hb,hF⟩:=F w mg fa _ KX G.T.g Lu;exact C5 KX G.T.g G.T.b G.T.builtins G.T.nolimit hg J hints (PD hlen O) hr hF hb (λH hO hS=>Fi w H a ns hlen hO hS) λH e s'=>OF w H D e s'
end L2
/- THE aeD Nw (shape; LID, My.* are acw):
   My.Adr: a structure of Cf addresses Fx aeE acx names (classes,Kk); My.Txt K t: a structure (Prop) of Cf equations over K;
   My.IJ:{K} {implicit addresses ..} (e1:nsIn K UT "law" = some (Yc (.ref f))) (e2:K.lookup f=some ⟨oc,od,.func (fnOf "law" "law" params body scope dV kV doc pm an ji ct),sl⟩) (e3:codeIn K ji "law" = true) .. : ∃t,My.Txt K t
set_option maxRecDepth 100000 in
set_option maxHeartbeats 0 in
theorem PySem.Challenge.Gg:PySem.Challenge.IK.Holds:=by
 w_on;o_law;k_head;(case hw=>w_witness2)
 k_fill
 refine L2.Ap (l:=PySem.Challenge.IK) (n:=63) (k:=40) (x:="script") (CX:=λw=>..) (sp:=λ_=>J.aac) rfl (by decide) rfl ⟨rfl,by decide,by decide⟩ (λw h Y=>TJ Y) ?F ?S ?C
 case F =>
  intro w mg fa h KX G O;have T:∃t,J.Txt (L2.KOf KX) t:=by
   dsimp only [L2.KOf]                          -- K aeF U as «<heap const> w.params» for k_is;refine' J.IJ ?e1 ?e2 ?e3 ..
   (case e1=>PySem.W.k_is)                    -- in D order: a name->its address->its object->its parts
   (case e2=>PySem.W.k_is)
   ..
  obtain⟨t,T⟩:=T;have e0:=O.symm.trans (Qi KX G T.law);cases e0                                       -- fa is D V own address;exact⟨_,λs u => .of_eq rfl,λbase Z nb=>J.IL T Z nb⟩     -- if «.of_eq rfl» comes too early: refine' ⟨_, ?b,λbase Z nb=>J.IL T Z nb⟩; exactλs u => .of_eq rfl
 case S=>exactλw H a ns hl hO hS=>..
 case C=>exact ..
(D tactic k_is has no namespace: write k_is) -/
namespace L2
open PySem PySem.Spec PyProof.Rows
noncomputable def dh(s:Vp):Arguments:=match s with
 |.FunctionDef _ a _ _ _ _ _ _ _ _=>a
 |_=>{ posonlyargs:=[],args:=[],vararg:=none,kwonlyargs:=[],kw_defaults:=[],kwarg:=none,defaults:=[] }
noncomputable def cq(s:Vp):List Stmt:=match s with
 |.FunctionDef _ _ b _ _ _ _ _ _ _=>b
 |_=>[]
noncomputable def aD(s:Vp):Scope:=match s with
 |.FunctionDef _ _ _ _ _ _ D _ _ _=>D
 |_=>{ kind:=.function,names:=[],isGenerator:=false,isCoroutine:=false }
noncomputable abbrev du:Cg:=λ_ _ _ _ _ _=>False
noncomputable abbrev E0:XK:=λ_ _ _=>False
theorem Lw{X:Cx}:Passes du X E0:=λ_ _ _ _ _ _ _ h=>h.elim
structure Bu(K:OM) (x qual:UI) (st:Vp) (f:Um) (fd:Uz):Prop where
 ex:∃(oc:Uj) (od:Option Um) (kV doc pm:Uj) (an:Option Um) (ji ct:Uj) (Lg:Array (Option Uj)),
  fd=PV x qual (dh st) (cq st) (aD st) .none kV doc pm an ji ct/\K.lookup f=Yc ⟨oc,od,.func fd,Lg⟩/\Q9 K ji qual=true
 kp:Q7 K (.ref f)=true
section
variable {P:Ux}{w:UA}{K:OM}{mg:UI->Option Uj}{base:UH}
theorem Bu.ok{x qual:UI}{st:Vp}{f:Um}{fd:Uz}{N O:List UI}{k:Nat}{sp:Sp}(F:Bu K x qual st f fd)(S:aN N O (aD st))(len:∀G H Q E,sp G H Q E->G.length=O.length)
  (J:∀(D:Uj) (A:UG) (outer:List WY) (s:Uq) (H:Hp) (G:List V) (Q:VK) (E:XK),eI k (A.deeper (envOfC qual (aD st) s.heap.objs.size f D))->sp G H Q E ->
   ∃t,mV (lW du P w K mg base N qual (aD st) f D A outer s H E).FA (cq st) t/\t { nx:=λ_ H'=>Q .g9 H',rt:=Q } (start N G) H):aO P w K mg base du (k+1) f fd O sp:=by
 obtain⟨oc,od,kV,doc,pm,an,D,ct,Lg,rfl,lk,U⟩:=F.ex;refine Hn lk U S len λA outer s H G Q E hr Z=>?_;obtain⟨t,h,q⟩:=J D A outer s H G Q E hr Z;exact⟨t,h.FA,q⟩
theorem Bu.binds{x qual:UI}{st:Vp}{f:Um}{U:Uz}{G:List UI}(F:Bu K x qual st f U)
  (h:∀(kV doc J:Uj) (an:Option Um) (D ct:Uj) (O:List Uj),O.length=G.length->Vv (PV x qual (dh st) (cq st) (aD st) .none kV doc J an D ct) ⟨O,[]⟩=pure (G.zip O)):Binds K U G []:=by
 obtain⟨oc,od,kV,doc,J,an,D,ct,V,rfl,lk,Z⟩:=F.ex;exact .all (h kV doc J an D ct)
theorem uZ {x qual : UI}{st : Vp}{f : Um}{O : Uj}{U an : Option Um}{G : Array (Option Uj)}{kV doc J D ct : Uj}(l : K.lookup f=Yc ⟨O, U, .func (PV x qual (dh st) (cq st) (aD st) .none kV doc J an D ct), G⟩)
    (c:Q9 K D qual=true) (k:Q7 K (.ref f)=true): Bu K x qual st f (PV x qual (dh st) (cq st) (aD st) .none kV doc J an D ct):= ⟨⟨O,U,kV,doc,J,an,D,ct,G,rfl,l,c⟩,k⟩
end
theorem j7{A:UG}{k:Nat}(D:eI k A):A.units+1<cLine:=Qs (RU (by decide:1<=64) _) D.units
theorem aY{n:Nat}(h:n<=1000):n<sizeLine:=Qs h (by decide)
section
variable {X:Cx}
theorem pv (i : Nat){x : UI}{pos : VJ}(G : X.N[i]?=Yc x := by rfl)(J : Nt X.env.scope x := by first | exact Or.inl rfl | exact Or.inr (Or.inl rfl) | exact Or.inr (Or.inr rfl))(hd : (x == ("__debug__" : UI))=false := by decide)
    (D:(x==("__classdict__" : UI))=false:=by decide): PE X (.Name x pos) (CC i):= Ih G J hd D
end
theorem m6{A B:Prop}(h:B):if false=true then A else B:=by
 rw[Uk O4];exact h
theorem Bv{A B:Prop}(h:A):if true=true then A else B:=by
 rw[Uo rfl];exact h
theorem ft{c A B:Prop}[Decidable c](D:c->A)(G:¬c->B):if c then A else B:=by
 by_cases h:c
 .rw[Uo h];exact D h
 rw[Uk h];exact G h
theorem Lx{c A B:Prop}[Decidable c](D:c)(h:B):if(!decide c)=true then A else B:=by
 rw[Ul D];exact m6 h
def aE(H H':Hp):Prop:=∀b o,H b=Yc o->H' b=Yc o
theorem aE.refl(H:Hp):aE H H:=λ_ _ h=>h
theorem aE.trans{H D G:Hp}(a:aE H D)(b:aE D G):aE H G:=λc o h=>b c o (a c o h)
theorem aE.free{H H':Hp}(e:aE H H'){l:Um}(h:H' l=Option.none):H l=Option.none:=by
 cases q:H l with
 |none=>rfl
 |some o =>
  rw[e l o q]at h;cases h
theorem aE.seq{K:OM}{H H':Hp}{a:Um}{xs:List V}(e:aE H H')(h:aZ K H a xs):aZ K H' a xs:=by
 rcases h with(h|⟨o,h⟩)|h
 .exact .inl (.inl (e _ _ h))
 .exact .inl (.inr ⟨o,e _ _ h⟩)
 exact .inr h
theorem iL{α:Type}{t:Sem α}{Q D:α->Uq->Prop}{M:WZ}{A:UG}{E:Uj->Uq->Prop}{s:Uq}(h:wpAny M A t Q (λ_ _=>False) s)(G:∀a s,Q a s->D a s):wpAny M A t D E s :=
 UX h G λ_ _ z=>z.elim
theorem kG:∀{xs:List V}{D:List Uj},xs.length=D.length->(∀(i:Nat) (x:V) (u:Uj),xs[i]?=Yc x->D[i]?=Yc u->RelV x u)->Vals xs D
 |[],[],_,_=>.nil
 |[],_::_,h,_=>by simp at h
 |_::_,[],h,_=>by simp at h
 |x::xs,u::D,h,f=>.cons (f 0 x u rfl rfl) (kG (by simpa using h) λi y w e1 e2=>f (i+1) y w (by simpa using e1) (by simpa using e2))
noncomputable def cY(X:Cx)(scope:VY)(cl:List (UI×Um))(NC:List UI)(fp:List Um)(C:Um)(s₀:Uq)(H₀:Hp):Cx where
 prog:=X.prog
 w:=X.w
 K:=X.K
 mg:=X.mg
 base:=X.base
 A:=X.A
 N:=NC
 s₀:=s₀
 H₀:=H₀
 env:=Wi scope cl C X.env
 outer:=X.stack
 stack:=X.stack
 ex:=fp
 fn:=λ_=>false
 calm:=X.calm
 pn:=[]
 xe:=λ_ _=>False
structure mD(X:Cx) (scope:VY) (cl:List (UI×Um)) (NC:List UI) (yE:List (Option Nat)):Prop where
 C6:Xb scope X.env=pure cl
 cell:∀y∈scope.names,y.2≠.cell
 kind:scope.kind=.function
 names:∀y∈scope.names,y.2=.local->scope.names.lookup y.1=Yc .local
 cls:∀x c,cl.lookup x=Yc c->X.env.cells.lookup x=Yc c
 has:∀x,((VO scope X.env).names.lookup x=Yc .cell\/(VO scope X.env).names.lookup x=Yc .free)->∃c,cl.lookup x=Yc c
 len:yE.length=NC.length
 src:∀(i j:Nat) (x:UI),yE[i]?=Yc (Yc j)->NC[i]?=Yc x->X.N[j]?=Yc x/\(X.env.kindOf x=Yc .cell\/X.env.kindOf x=Yc .free) /\
  ((VO scope X.env).names.lookup x=Yc .cell\/(VO scope X.env).names.lookup x=Yc .free)
noncomputable def Aq(D:List (Option Nat))(σ:St):St:=D.map λo=>o.bind λj=>(σ[j]?).join
section
variable {X:Cx}{scope:VY}{cl:List (UI×Um)}{NC:List UI}{yE:List (Option Nat)}{pins:List (Um×U6)}{σ:St}{H:Hp}{s:Uq}{fp:List Um}
theorem wZ{D:UH}{tk:Nat}{m:UI->Option Uj}(O:mD X scope cl NC yE)(I:Inv X pins σ H s)(Z:∀b∈fp,iK X pins H b)(ho:∀b∈fp,∃o,s.heap.get? b=Yc o)
  (hn:D.Ns s.heap.objs.size m) (hk:∀b o,s.heap.get? b=Yc o->D.get? b=Yc o) :
  Inv (cY X scope cl NC fp s.heap.objs.size s H) [] (Aq yE σ) H { s with heap:=D,toks:=tk }:=by
 have lt:∀b∈fp,b<s.heap.objs.size:=λb G=>let⟨o,e⟩:=ho b G;O3 e
 refine⟨⟨I.ok.mod,O.kind,I.ok.glob,I.ok.blt,ON _,λx y c U V=>I.ok.inj x y c (O.cls x c U) (O.cls y c V),O.has,λx c h=>(O4 h).elim,I.ok.hd,I.ok.frames,.inl rfl,
   λb G=>⟨Pb (lt b G),λx c h=>(Z b G).2.2.2.2.1 x c (O.cls x c h)⟩,I.bs,PD I.ok.Cy I.sz,λb o e G=>?_,λb G hs=>?_,I.stack,I.uM⟩,
  rfl,I.bare,Un.kept hk,⟨m,hn,λi x v e1 e2 e3=>?_⟩,λx c h=>?_,I.bN.fresh (ON _),λx c h=>I.i0 x c (O.cls x c h),λp hp=>Us (show p∈([]:List (Um×U6))from hp) (by simp),I.bN.kept hk,?_⟩
 .rcases(Z b G).2.2.2.1 with z|z
  .exact I.ok.qK b o e z
  exact Us (Pt (O3 e) (PD I.ok.Cy z)) (QF _)
 .rcases O9.mp (I.qM b hs)with e|e
  .exact(Z b G).2.1 e
  exact(Z b G).2.2.1 e
 .have e2:(yE.map λo=>o.bind λj=>(σ[j]?).join)[i]?=Yc (Yc v):=e2;rw[OR]at e2;cases q:yE[i]? with
  |none=>rw[q]at e2;cases e2
  |some oj =>
   rw[q]at e2;cases oj with
   |none=>cases e2
   |some j =>
    have J:(σ[j]?).join=Yc v:=Option.some.inj e2;have e5:σ[j]?=Yc (Yc v):=by
     cases z:σ[j]? with
     |none=>rw[z]at J;cases J
     |some y =>
      rw[z]at J;have J:y=Yc v:=J;rw[J]
    obtain⟨a1,a2,a3⟩:=O.src i j x q e1;obtain⟨m0,hn0,hl⟩:=I.loc;obtain⟨u,r,l⟩:=hl j x v a1 e5 (.inr a2);refine⟨u,r,?_⟩;rcases l with⟨k,_⟩|⟨_,c,e,z⟩
    .rcases a2 with a2|a2
     .rw[k]at a2;cases a2
     rw[k]at a2;cases a2
    obtain⟨c',e'⟩:=O.has x a3;have e6:=O.cls x c' e';rw[e]at e6;cases e6;obtain⟨oc,U,V⟩:=z;exact .inr ⟨a3,c,e',oc,hk _ _ U,V⟩
 .obtain⟨v,oc,U,V⟩:=I.cell x c (O.cls x c h);exact⟨v,oc,hk _ _ U,V⟩
 show(yE.map _).length=NC.length;rw[OH];exact O.len
theorem comp_back{O:List (Um×U6)}{σ':St}{H':Hp}{s':Uq}{h':UH}(I:Inv X pins σ H s)(Z:∀b∈fp,iK X pins H b)(J:Inv (cY X scope cl NC fp s.heap.objs.size s H) O σ' H' s')
  (hs:Heap.SameBut s.heap.objs.size s'.heap h'):Inv X pins σ H' { s' with heap:=h' }:=by
 have ne:∀{b:Um}{o:U6},s.heap.get? b=Yc o->b≠s.heap.objs.size:=λe=>Pb (O3 e);have D:H' s.heap.objs.size=none:=J.free;have B:Un (lV X.stack) fp H H' s.heap s'.heap:=J.base;refine I.CA (s':={ s' with heap:=h' }) (ch:=fp) J.os ⟨λb o q n G V=>(hs.2 b (ne q)).trans (B.keep b o q n G V),λb o q n G V=>?_,B.free,λb o q V=>?_,B.mq,B.lU,B.mr⟩ (λb u e=>?_) J.bare
  λb G=>⟨(Z b G).2.2.2.1,(Z b G).2.1,(Z b G).2.2.2.2.1,(Z b G).2.2.2.2.2⟩
 .obtain⟨sl,e⟩:=B.slot b o q n G V;exact⟨sl,(hs.2 b (ne q)).trans e⟩
 .obtain⟨o',e⟩:=B.there b o q V;exact⟨o',(hs.2 b (ne q)).trans e⟩
 refine(J.bN b u e).sR (λc v U q=>(hs.2 c ?_).trans q) (λ_ q=>q) λ_ _ q=>q;rintro rfl;rcases U with U|U
 .rw[<-U,D]at e;cases e
 rw[D]at U;cases U
end
def Nx(X:Cx)(D:List UM)(t:TT):Prop :=
 ∀(pins:List (Um×U6)) (s:Uq) (σ:St) (H:Hp) (Q:Bool->Hp->Prop),Inv X pins σ H s->t σ H Q ->
  wpAny (model X.prog X.w) X.A (forIn D true λc r=>if r=true then do let ok <- isTrue c X.env (eval c X.env);pure (ForInStep.yield ok)else pure (ForInStep.yield r)) (TP X pins σ Q) X.xe s
def aad:TT:=λ_ H Q=>Q true H
theorem fA{X:Cx}:Nx X [] aad:=λ_ _ _ H _ I h=>wpAny_tests_nil ⟨H,I,h⟩
theorem i7{X:Cx}{c:UM}{t:TT}(h:PT X c t):Nx X [c] t:=λpins s σ H Q I hw=>wpAny_tests_one (h pins s σ H Q I hw)
def w6(J:It)(g:TG)(tt:TT)(te:TE)(D:Um)(Q:VK)(O:St)(H₀:Hp):Prop :=
 ∃W:Nat->Nat->St->Hp->Prop,(∃m,W 0 m O H₀)/\∀i m U H',W i m U H' ->
  (J.stop i H'/\Q (.ref D) H')\/(J.go i H'/\∃N:St->Hp->Prop,(∀V Z,N V Z->∃m',m'<m/\W (i+1) m' V Z) /\
   ∀x Z,J.Il i H' x Z->g x U Z λG H3=>tt G H3 λb H4=>if b=true then te G H4 λv H5=>∃ys,H5 D=Yc (.lst ys)/\ys.length<Uu/\N G (upd H5 D (.lst (ys++[v])))else N G H4)
def Ht(U:TI)(g:TG)(V:TT)(Z:TE)(G:List (Option Nat)):TE:=λσ H Q=>U σ H λJ O=>∀D,O D=none->w6 J g V Z D Q (Aq G σ) (upd O D (.lst []))
theorem eW{X:Cx}{elt iter tg:UM}{ifs:List UM}{scope:VY}{pos:VJ}{cl:List (UI×Um)}{NC:List UI}{yE:List (Option Nat)}{wi:TI}{g:TG}{tt:TT}{te:TE}
  (hc:X.calm=true) (O:mD X scope cl NC yE) (hi:PI X tg iter wi)
  (hg:∀fp C s₀ H₀,PG (cY X scope cl NC fp C s₀ H₀) tg g) (ht:∀fp C s₀ H₀,Nx (cY X scope cl NC fp C s₀ H₀) ifs tt) (he:∀fp C s₀ H₀,PE (cY X scope cl NC fp C s₀ H₀) elt te)
  (hs:∀x,V8 iter X.env x=pure x:=by intro _;rfl):PE X (.ListComp elt [⟨tg,iter,ifs,0⟩] scope pos) (Ht wi g tt te yE):=by
 intro pins s σ H Q I h;rw[eval_ListComp];refine Wb (use:=none) rfl hs O.C6 O.kind O.names (cF (hi pins s σ H _ I h) λv s1 h1=>cF h1 λitv D h2=>?_);obtain⟨it,fp,tn,J,H2,e,I2,T,Im,f2,h2⟩:=h2;subst e;have hD:H2 D.heap.objs.size=none:=I2.bN.fresh (ON _);obtain⟨W,⟨m0,w0⟩,turn⟩:=h2 _ hD;refine UK (WJ O.cell (by intro y hy;simp at hy) (λh₁ V Z=>?_) O.kind);dsimp only at V Z⊢;have I3:Inv X pins σ (upd H2 D.heap.objs.size (.lst [])) { D with heap:=D.heap.push { cls:=.type "list",dict:=none,data:=.seq ([]:List Uj).toArray } }:=I2.IH (its:=[]) (t':=D.toks) .nil (by decide);have Ly:∀b∈fp,∃o,D.heap.get? b=Yc o:=λb U=>let⟨o,e,_⟩:=T.obj 0 _ Im b U;⟨o,e⟩
 have neD:∀b∈fp,b≠D.heap.objs.size:=λb U=>let⟨o,e⟩:=Ly b U;Pb (O3 e)
 have f3:∀b∈fp,iK X pins (upd H2 D.heap.objs.size (.lst [])) b:=λb U=>⟨by rw[aG (neD b U)];exact(f2 b U).1,(f2 b U).2⟩
 generalize Lz:({ D with heap:=D.heap.push { cls:=.type "list",dict:=none,data:=.seq ([]:List Uj).toArray } }:Uq)=G at I3;have IM:D.heap.push { cls:=.type "list",dict:=none,data:=.seq ([]:List Uj).toArray }=G.heap:=by rw[<- Lz]
 have LA:∀b∈fp,∃o,G.heap.get? b=Yc o:=λb U=>let⟨o,e⟩:=Ly b U;⟨o,by rw[<-IM];exact OJ _ e⟩
 rw[IM]at V Z⊢;have old:∀b o,G.heap.get? b=Yc o->h₁.get? b=Yc o:=λb o e=>Z.extBut b o (Pb (O3 e)) (OJ _ e);have LB:tn 0 h₁:=T.keep 0 _ _ Im λb U o e=>old b o (by rw[<-IM];exact OJ _ e);have IC:∀tk,Inv (cY X scope cl NC fp G.heap.objs.size G (upd H2 D.heap.objs.size (.lst []))) [] (Aq yE σ) (upd H2 D.heap.objs.size (.lst [])) { G with heap:=h₁,toks:=tk }:=λtk=>wZ O I3 f3 LA V old;have yR:∀{H':Hp},(∀b∈fp,H' b=none)->∀b∈fp,iK (cY X scope cl NC fp G.heap.objs.size G (upd H2 D.heap.objs.size (.lst []))) [] H' b:=λ{H'} hn b U=>by
  obtain⟨o,e⟩:=LA b U;refine⟨hn b U,Pb (O3 e),λz=>?_,.inl U,λx c hx=>(f3 b U).2.2.2.2.1 x c (O.cls x c hx),λp hp=>Us (show p∈([]:List (Um×U6))from hp) (by simp)⟩;rcases O9.mp (I3.qM b z)with q|q
  .exact(f3 b U).2.1 q
  exact(f3 b U).2.2.1 q
 have loop:∀s₃:Uq,s₃={ D with heap:=h₁,toks:=D.toks+([]:List (UI×Uj)).length } ->
   VM (model X.prog X.w) X.A (.compLoop (.ListComp elt [⟨tg,iter,ifs,0⟩] scope pos) 0 (.ref it) (.ref D.heap.objs.size) (Wi scope cl G.heap.objs.size X.env))
    (compPost (model X.prog X.w) X.A X.xe none (EP X pins σ Q) (.ref D.heap.objs.size) G.heap.objs.size) s₃:=by
  rintro s₃ rfl;refine codeAny_loop rfl (λn s'=>∃i σ' H',Inv (cY X scope cl NC fp G.heap.objs.size G (upd H2 D.heap.objs.size (.lst []))) [] σ' H' s'/\tn i s'.heap/\(∀b∈fp,H' b=none)/\W i n σ' H') (λn s' hI=>?_) m0
   ⟨0,_,_,by have z:=IC (D.toks+([]:List (UI×Uj)).length);rw[<-Lz]at z⊢;exact z,LB,λb U=>(f3 b U).1,w0⟩
  show wpAny _ X.A ((compTurn (.ListComp elt [⟨tg,iter,ifs,0⟩] scope pos) 0 (.ref it) (.ref D.heap.objs.size) (Wi scope cl G.heap.objs.size X.env)).onRaise (λx=>do WU x (Wi scope cl G.heap.objs.size X.env);theTreesLotGoes x)) _ _ s';refine wpAny_noted ?_;rw[compTurn_list];obtain⟨i,σ3,H3,LC,Hl,Hm,w3⟩:=hI;rcases turn i n σ3 H3 w3 with⟨stop,qn⟩|⟨go,N,hN,step⟩
  .refine Uh (U7 (Uh (cF (T.done (cY X scope cl NC fp G.heap.objs.size G (upd H2 D.heap.objs.size (.lst []))) rfl rfl rfl hc i [] s' σ3 H3 _ LC (yR Hm) Hl stop) λr s4 ⟨hr,I4⟩=>?_)));subst hr;obtain⟨m',KU,_⟩:=I4.loc;exact Ur ⟨m',KU,λh' Hu=>⟨.ref D.heap.objs.size,H3,comp_back I3 f3 I4 Hu,rfl,qn⟩⟩
  refine Uh (U7 (Uh (cF (T.item (cY X scope cl NC fp G.heap.objs.size G (upd H2 D.heap.objs.size (.lst []))) rfl rfl rfl hc i [] s' σ3 H3 _ LC (yR Hm) Hl go) λr s4 ⟨u,hr,h4⟩=>?_)));subst hr;refine Uh (cF h4 λ_ s5 zq=>?_);obtain⟨x,H5,I5,r5,y5,CI,Lc⟩:=zq;have Ld:=I5.pinned (yR Lc) (T.obj _ _ CI);refine Uh (iL (hg fp _ G _ _ s5 σ3 H5 x u _ Ld r5 (step x H5 y5)) λ_ s6 ⟨σ6,H6,I6,q6⟩=>?_);have again:∀{s7:Uq}{H7:Hp},Inv (cY X scope cl NC fp G.heap.objs.size G (upd H2 D.heap.objs.size (.lst []))) ([]++ox fp s5.heap) σ6 H7 s7->N σ6 H7 ->
    ∃m,m<n/\∃i σ' H',Inv (cY X scope cl NC fp G.heap.objs.size G (upd H2 D.heap.objs.size (.lst []))) [] σ' H' s7/\tn i s7.heap/\(∀b∈fp,H' b=none)/\W i m σ' H':=λ{s7 H7} I7 n7=>by
   obtain⟨m',hm,w7⟩:=hN σ6 H7 n7;refine⟨m',hm,i+1,σ6,H7,I7.jl,T.keep _ _ _ CI λb U o e=>(I7.pin (b,o) (OZ _ (OZ _ (gD U e)))).1,λb U=>?_,w7⟩;obtain⟨o,e,d⟩:=T.obj _ _ CI b U;exact(I7.pin (b,o) (OZ _ (OZ _ (gD U e)))).2.1
  refine Uh (iL (ht fp _ G _ _ s6 σ6 H6 _ I6 q6) λok s7 ⟨H7,I7,q7⟩=>?_);cases ok with
  |false=>exact Ur ⟨rfl,again I7 q7⟩
  |true =>
   refine Uh (Uh (iL (he fp _ G _ _ s7 σ6 H7 _ I7 q7) λu8 s8 zq=>?_));obtain⟨v8,H8,I8,r8,ys,hy,hz,n8⟩:=zq;refine Uh (iL (b8 _ s8 σ6 H8 (.ref D.heap.objs.size) [v8] (.ref D.heap.objs.size) [u8] (λ_ H9=>N σ6 H9) I8 rfl (.cons r8 .nil) ⟨_,ys,v8,rfl,rfl,hy,hz,n8⟩) λ_ s9 zq=>?_);obtain⟨_,H9,I9,_,n9⟩:=zq;exact Ur (Ur ⟨rfl,again I9 n9⟩)
 exact Wq (loop _ rfl) (T.self _ 0 _ _ _ LB (loop _ rfl))
theorem qZ{lo:Int}{n:Nat}{g:TG}{V:TT}{Z:TE}{D:Um}{Q:VK}{G:St}{H₀:Hp}(Pv:Nat->St->Hp->Prop)(h0:Pv 0 G H₀)
  (hs:∀i σ H,i<n->Pv i σ H->g (.int (lo+i)) σ H λJ H3=>V J H3 λb H4=>if b=true then Z J H4 λv H5=>∃U,H5 D=Yc (.lst U)/\U.length<Uu/\Pv (i+1) J (upd H5 D (.lst (U++[v])))else Pv (i+1) J H4)
  (hd:∀σ H,Pv n σ H->Q (.ref D) H):w6 (Hk lo n) g V Z D Q G H₀:=by
 refine⟨λi m σ H=>m=n-i/\i<=n/\Pv i σ H,⟨n,by simp,PH _,h0⟩,?_⟩;rintro i m σ H ⟨rfl,hi,p⟩;by_cases O:i<n
 .refine .inr ⟨O,Pv (i+1),λσ' H' p'=>⟨n-(i+1),by omega,rfl,O,p'⟩,λx H' y=>?_⟩;obtain⟨e,y⟩:=y;subst e y;exact hs i σ _ O p
 have e:i=n:=by omega
 subst e;exact .inl ⟨ON _,hd σ H p⟩
theorem b9{K:OM}{a:Um}{xs:List V}{g:TG}{Z:TT}{te:TE}{D:Um}{Q:VK}{G:St}{H₀:Hp}(Pv:Nat->St->Hp->Prop)(h0:Pv 0 G H₀)(hl:∀i σ H,i<=xs.length->Pv i σ H->aZ K H a xs)
  (hs:∀i x σ H,xs[i]?=Yc x->Pv i σ H->g x σ H λJ H3=>Z J H3 λb H4=>if b=true then te J H4 λv H5=>∃U,H5 D=Yc (.lst U)/\U.length<Uu/\Pv (i+1) J (upd H5 D (.lst (U++[v])))else Pv (i+1) J H4)
  (hd:∀σ H,Pv xs.length σ H->Q (.ref D) H):w6 (Kg K a) g Z te D Q G H₀:=by
 refine⟨λi m σ H=>m=xs.length-i/\i<=xs.length/\Pv i σ H,⟨xs.length,by simp,PH _,h0⟩,?_⟩;rintro i m σ H ⟨rfl,hi,p⟩;have q:=hl i σ H hi p;by_cases O:i<xs.length
 .refine .inr ⟨⟨xs,xs[i],q,by simp[O]⟩,Pv (i+1),λσ' H' p'=>⟨xs.length-(i+1),by omega,rfl,O,p'⟩,λx H' y=>?_⟩;obtain⟨e,y⟩:=y;subst e;exact hs i x σ _ (y xs q) p
 have e:i=xs.length:=by omega
 subst e;exact .inl ⟨⟨xs,q,ON _⟩,hd σ H p⟩
theorem ie{X:Cx}{scope:VY}{NC:List UI}(D:scope.kind=.function)(h:∀y∈scope.names,y.2≠.cell/\y.2≠.free)(V:∀y∈scope.names,y.2=.local->scope.names.lookup y.1=Yc .local) :
  mD X scope [] NC (R7 NC.length none) where
 C6:=closureFor_none λx Z=>(h x Z).2
 cell:=λy J=>(h y J).1
 kind:=D
 names:=V
 cls:=λx c e=>by cases e
 has:=λx e=>by
  exfalso;have key:∀k,(VO scope X.env).names.lookup x=Yc k->k=.cell\/k=.free->False:=λk e G=>by
   have hm:=PySem.mem_of_lookup e;obtain⟨⟨n,k'⟩,J,U⟩:=OO.mp hm;have O:=h _ J;have hb:(k'==NameKind.free)=false:=by simpa using O.2
   simp only[hb,Qw,PF,U1,Prod.mk.injEq]at U;obtain⟨_,rfl⟩:=U;rcases G with G|G
   .exact O.1 G
   exact O.2 G
  rcases e with e|e
  .exact key _ e (.inl rfl)
  exact key _ e (.inr rfl)
 len:=by simp
 src:=λi j x e _=>by
  rw[Q1]at e
  split at e <;> cases e
section
variable {X:Cx}
theorem Bw:fW X (.type "range") (λxs H Q=>∃j,xs=[.int j]/\∀p,H p=none->Q (.ref p) (upd H p (.He 0 j))):=by
 intro pins s σ H xs G Q I r h;obtain⟨j,rfl,q⟩:=h;obtain⟨u,rfl,D⟩:=r.one;obtain⟨t,rfl⟩:=D;refine call_range_1 ⟨.ref s.heap.objs.size,_,I.laid (o:=.He 0 j) (λb u e=>OJ _ e) (ON _) ?_,rfl,q _ (I.bN.fresh (ON _))⟩;exact⟨_,_,_,O6 _ rfl⟩
noncomputable def u0(lo:Int)(n:Nat):List V:=(OV n).map λ(i:Nat)=>V.int (lo+i)
theorem ra(lo:Int)(n:Nat):(u0 lo n).length=n:=by unfold u0;rw[OH,OW]
theorem C7{lo:Int}{n i:Nat}(h:i<n):(u0 lo n)[i]?=Yc (.int (lo+i)):=by
 unfold u0;rw[OR,Qv h]
 rfl
theorem sV(V:X.calm=true):fW X (.type "list") (λxs H Q=>∃p lo D,xs=[.ref p]/\H p=Yc (.He lo D)/\(-(2 ^ 62)<=lo/\lo<2 ^ 62/\-(2 ^ 62)<=D/\D<2 ^ 62)/\(D-lo).toNat<=2 ^ 20 /\
  ∀l,H l=none->Q (.ref l) (upd H l (.lst (u0 lo (D-lo).toNat)))):=by
 intro pins s σ H xs us Q I r h;obtain⟨p,lo,D,rfl,hp,⟨Z,b2,b3,b4⟩,hz,q⟩:=h;obtain⟨u,rfl,ru⟩:=r.one;cases ru;obtain⟨t,u',v',e⟩:=I.bN p _ hp;have hsz:(D-lo).toNat<=sizeLine:=PD hz (by decide);refine call_list_range (n:=(D-lo).toNat) (I.ok.hd V) (show IsRange s.heap p lo D 1 t u' v' from e) (small_one Z b2 b3 b4) (by rw[rangeSize_one];split <;> omega) (PD hz (by decide)) λh' tk J c' hk O G=>?_;refine⟨.ref s.heap.objs.size,_,I.laid (o:=.lst (u0 lo (D-lo).toNat)) (t':=tk) hk (ON _) ⟨by rw[ra];exact hsz,J.toList,c',?_,by simpa using O⟩,rfl,q _ (I.bN.fresh (ON _))⟩;refine kG (by rw[ra,Qf,G.1]) λi x w e1 e2=>?_;have U:i<(D-lo).toNat:=by
  have z:=(OI.mp e1).1;rw[ra]at z;exact z
 rw[C7 U]at e1;cases e1;obtain⟨t,rfl⟩:=G.2 i w (by simpa using e2);exact⟨t,by rw[T8]⟩
end
structure Fn(K:OM) (mg:UI->Option Uj) (x:UI) (st:Vp) (ps:List UI) (f:Um) (fd:Uz):Prop where
 fn:Bu K x x st f fd
 b:Binds K fd ps []
 g:mg x=Yc (.ref f)
theorem Fn.mk' {K : OM}{mg : UI -> Option Uj}{x : UI}{st : Vp}{D : List UI}{f : Um}{O : Uz}(F : Bu K x x st f O)
    (h:∀(kV doc U:Uj) (an:Option Um) (G ct:Uj) (J:List Uj),J.length=D.length->Vv (PV x x (dh st) (cq st) (aD st) .none kV doc U an G ct) ⟨J,[]⟩=pure (D.zip J))
    (g:mg x=Yc (.ref f)): Fn K mg x st D f O:=⟨F,F.binds h,g⟩
theorem bo {X : Cx}{x : UI}{st : Vp}{O : List UI}{f : Um}{U : Uz}{k : Nat}{sp : Sp}{e : UM}{es : List UM}{t : TA}{p pos : VJ}(G : aO X.prog X.w X.K X.mg X.base du k f U O sp)(F : Fn X.K X.mg x st O f U)(V : eI k X.A)(Z : PA X (e::es) t)
    (hg:Gl X x:=by rfl) (D:(x==("__debug__" : UI))=false:=by decide) (he:UC (e::es) X.env=(false,eval e X.env)::UC es X.env:=by rfl) (J:(backTo pos (UC es X.env)).any (·.1)=false:=by rfl) :
    PE X (.Call (.Name x p) (e::es) [] pos) (tW sp [] E0 t):= uS G V hg F.g F.fn.kp F.b .nil Lw Z D he J
def C8(K:OM):Sp:=λD H Q _=>∃(a:Um) (ns:List Int),D=[.ref a]/\aZ K H a (ns.map V.int)/\ns.length<=63/\∀H',Q (.bl true) H'
theorem ai{H:Hp}{p:Um}{o:HO}(h:H p=none):aE H (upd H p o):=λb u e=>by rw[aG (aW e h)];exact e
theorem aE.upd{H H':Hp}{p:Um}{o:HO}(s:aE H H')(h:H p=none):aE H (upd H' p o):=λb u e=>by rw[aG (aW e h)];exact s b u e
theorem aE.tup{K:OM}{H H':Hp}{a:Um}{xs:List V}(e:aE H H')(h:br K H a xs):br K H' a xs:=by
 rcases h with(h|⟨o,h⟩)|h
 .exact .inl (.inl (e _ _ h))
 .exact .inl (.inr ⟨o,e _ _ h⟩)
 exact .inr h
theorem C9{H:Hp}{p l:Um}{o:HO}(h:upd H p o l=none):l≠p/\H l=none:=by
 by_cases e:l=p
 .rw[e,ag]at h;cases h
 rw[aG e]at h;exact⟨e,h⟩
theorem oy{n:Nat}{k:Int}(D:0<=k)(G:k<n):C1 n k=Yc k.toNat:=by unfold C1;rw[Uo D,Uo G]
theorem bD:UR "len" = some (.builtin "len"):=by decide +kernel
theorem fu:UR "isinstance" = some (.builtin "isinstance"):=by decide +kernel
theorem lD:UR "sorted" = some (.builtin "sorted"):=by decide +kernel
theorem u7:UR "list" = some (.type "list"):=by decide +kernel
theorem eK:UR "tuple" = some (.type "tuple"):=by decide +kernel
theorem Dc:UR "range" = some (.type "range"):=by decide +kernel
theorem vc:UR "min" = some (.builtin "min"):=by decide +kernel
theorem vd:UR "enumerate" = some (.type "enumerate"):=by decide +kernel
end L2
namespace Th
open Classical
theorem sub_len{α:Type}:∀{l m:List α},l.Nodup->(∀x∈l,x∈m)->l.length<=m.length
 |[],m,_,_=>PH _
 |a::l,m,nd,h=>by
  obtain⟨O,U⟩:=Qy.mp nd;have G:=h a O2;have z:=sub_len (l:=l) (m:=m.erase a) U λx J=>by
   have D:x≠a:=λe=>O (e▸J);exact(SK D).mpr (h x (O1 _ J))
  rw[QX G]at z;have:0<m.length:=Rb G;rw[Ph];omega
structure cv(N:Nat) (f g:Nat->Nat):Prop where
 fl:∀x,x<N->f x<N
 gl:∀x,x<N->g x<N
 ff:∀x,x<N->f (f x)=x
 gg:∀x,x<N->g (g x)=x
theorem cv.swap{N:Nat}{f g:Nat->Nat}(h:cv N f g):cv N g f:=⟨h.gl,h.fl,h.gg,h.ff⟩
noncomputable def kB(f g:Nat->Nat)(i x:Nat):Nat:=if i%2=0 then f x else g x
noncomputable def dH(f g:Nat->Nat)(s:Nat):Nat->Nat
 |0=>s
 |i+1=>kB f g i (dH f g s i)
section
variable {N:Nat}{f g:Nat->Nat}{s:Nat}
theorem IP(T:cv N f g)(i:Nat){x:Nat}(h:x<N):kB f g i x<N:=by
 unfold kB;split
 .exact T.fl x h
 exact T.gl x h
theorem Gh(T:cv N f g)(i:Nat){x:Nat}(h:x<N):kB f g i (kB f g i x)=x:=by
 unfold kB;split
 .exact T.ff x h
 exact T.gg x h
theorem Ar{i j:Nat}(h:i%2=j%2)(x:Nat):kB f g i x=kB f g j x:=by unfold kB;rw[h]
theorem kH(T:cv N f g)(hs:s<N):∀i,dH f g s i<N
 |0=>hs
 |i+1=>IP T i (kH T hs i)
theorem kI(T:cv N f g)(hs:s<N)(i:Nat):kB f g i (dH f g s (i+1))=dH f g s i:=Gh T i (kH T hs i)
structure Goes(f g:Nat->Nat) (s k:Nat):Prop where
 mv:∀i,i<k->dH f g s (i+1)≠dH f g s i
 rt:g s=s\/∀j,0<j->j<=k->dH f g s j≠s
theorem apart(T:cv N f g)(hs:s<N){k:Nat}(G:Goes f g s k):∀j,j<=k->∀i,i<j->dH f g s i≠dH f g s j:=by
 intro j
 induction j using Tw with
 |_ j D =>
  intro O i hi e;obtain⟨j',rfl⟩:∃j',j=j'+1:=⟨j-1,by omega⟩
  by_cases U:i=0
  .subst U;rcases G.rt with V|Z
   .have e:s=kB f g j' (dH f g s j'):=e;by_cases p:j'%2=0
    .have e1:dH f g s j'=f s:=by
      have J:f (dH f g s j')=s:=by unfold kB at e;rw[Uo p]at e;exact e.symm
      have z:=T.ff _ (kH T hs j');rw[J]at z;exact z.symm
     have e2:dH f g s 1=f s:=rfl;by_cases j0:j'=0
     .subst j0;exact G.mv 0 (by omega) (by rw[e2,<-e1])
     exact D j' (by omega) (by omega) 1 (by omega) (by rw[e2,e1])
    have e1:dH f g s j'=s:=by
     have J:g (dH f g s j')=s:=by unfold kB at e;rw[Uk p]at e;exact e.symm
     have z:=T.gg _ (kH T hs j');rw[J,V]at z;exact z.symm
    exact D j' (by omega) (by omega) 0 (by omega) e1.symm
   exact Z (j'+1) (by omega) O e.symm
  obtain⟨i',rfl⟩:∃i',i=i'+1:=⟨i-1,by omega⟩
  by_cases p:i'%2=j'%2
  .have e1:dH f g s i'=dH f g s j':=by
    rw[<-kI T hs i',<-kI T hs j',e];exact Ar p _
   exact D j' (by omega) (by omega) i' (by omega) e1
  have e1:dH f g s (i'+2)=dH f g s j':=by
   rw[<-kI T hs j',<-e];exact Ar (by omega) _
  by_cases c:i'+2<j'
  .exact D j' (by omega) (by omega) (i'+2) c e1
  have c2:j'=i'+1:=by omega
  subst c2;exact G.mv (i'+1) (by omega) e.symm
def aB(f g:Nat->Nat)(x y:Nat):Prop:=∀S:Nat->Prop,S x->(∀z,S z->S (f z)/\S (g z))->S y
theorem aB.refl(x:Nat):aB f g x x:=λS h _=>h
theorem aB.trans{x y z:Nat}(h:aB f g x y)(k:aB f g y z):aB f g x z:=λS G D=>k S (h S G D) D
theorem aB.sf{x y:Nat}(h:aB f g x y):aB f g x (f y):=λS G D=>(D y (h S G D)).1
theorem aB.sg{x y:Nat}(h:aB f g x y):aB f g x (g y):=λS G D=>(D y (h S G D)).2
theorem aB.lt(T:cv N f g){x y:Nat}(D:x<N)(h:aB f g x y):y<N:=h (· < N) D λz hz=>⟨T.fl z hz,T.gl z hz⟩
theorem aB.symm(T:cv N f g){x y:Nat}(G:x<N)(h:aB f g x y):aB f g y x:=by
 have z:=h (λz=>z<N/\aB f g z x) ⟨G,aB.refl x⟩ λz ⟨hz,D⟩=>⟨⟨T.fl z hz,λS a b=>D S (by have:=(b _ a).1;rwa[T.ff z hz]at this) b⟩,T.gl z hz,λS a b=>D S (by have:=(b _ a).2;rwa[T.gg z hz]at this) b⟩
 exact z.2
theorem aB.swap{x y:Nat}(h:aB f g x y):aB g f x y:=λS G D=>h S G λz hz=>⟨(D z hz).2,(D z hz).1⟩
theorem jn{x y:Nat}:aB g f x y↔aB f g x y:=⟨aB.swap,aB.swap⟩
theorem kJ:∀i,aB f g s (dH f g s i)
 |0=>aB.refl s
 |i+1=>by
  show aB f g s (kB f g i (dH f g s i));unfold kB;split
  .exact(kJ i).sf
  exact(kJ i).sg
def bq(f g:Nat->Nat)(x:Nat):Prop:=∀y,aB f g x y->f y≠y/\g y≠y
theorem bq.of(T:cv N f g){x y:Nat}(D:x<N)(h:bq f g x)(c:aB f g x y):bq f g y:=λz hz=>h z (c.trans hz)
noncomputable def eX(f g:Nat->Nat)(s K:Nat):List Nat:=(OV K).map (dH f g s)
theorem cR(K:Nat):(eX f g s K).length=K:=by unfold eX;rw[OH,OW]
theorem Dd{K i:Nat}(h:i<K):(eX f g s K)[i]?=Yc (dH f g s i):=by
 unfold eX;rw[OR,Qv h]
 rfl
theorem bT{K y:Nat}:y∈eX f g s K↔∃i,i<K/\dH f g s i=y:=by
 unfold eX;rw[OO];exact⟨λ⟨i,h,e⟩=>⟨i,OX.mp h,e⟩,λ⟨i,h,e⟩=>⟨i,OX.mpr h,e⟩⟩
theorem lE(K:Nat):eX f g s (K+1)=eX f g s K++[dH f g s K]:=by
 unfold eX;rw[Qg,O5]
 rfl
structure Ends(f g:Nat->Nat) (s K:Nat):Prop where
 oz:Goes f g s K
 stop:dH f g s (K+1)=dH f g s K\/dH f g s (K+1)=s
 ok:g s=s\/bq f g s
theorem gE(T:cv N f g)(hs:s<N){K:Nat}(G:Goes f g s K):(eX f g s (K+1)).Nodup:=by
 unfold eX;rw[Pc,Px];refine QN.imp_of_mem λ{i j} _ J D=>?_;exact apart T hs G j (by have:=OX.mp J;omega) i D
theorem qw(T:cv N f g)(hs:s<N){K:Nat}(G:Goes f g s K):K<N:=by
 have nd:=gE T hs G;have sub:∀y∈eX f g s (K+1),y∈OV N:=λy D=>by
  obtain⟨i,_,rfl⟩:=bT.mp D;exact OX.mpr (kH T hs i)
 have z:=sub_len nd sub;rw[cR,OW]at z;omega
theorem Ends.ring(T:cv N f g)(hs:s<N){K:Nat}(E:Ends f g s K)(h:g s≠s):dH f g s (K+1)=s/\K%2=1/\g s=dH f g s K:=by
 have W:bq f g s:=E.ok.resolve_left h;have ns:dH f g s (K+1)≠dH f g s K:=λz=>by
  have z:kB f g K (dH f g s K)=dH f g s K:=z;have w:=W _ (kJ (s:=s) K);unfold kB at z
  split at z
  .exact w.1 z
  exact w.2 z
 have rt:dH f g s (K+1)=s:=E.stop.resolve_left ns;have D:K%2=1:=by
  refine OU λp=>?_;have p:K%2=0:=by omega
  have e:f (dH f g s K)=s:=by have z:kB f g K (dH f g s K)=s:=rt;unfold kB at z;rw[Uo p]at z;exact z
  have e1:dH f g s K=f s:=by have z:=T.ff _ (kH T hs K);rw[e]at z;exact z.symm
  by_cases k0:K=0
  .subst k0;exact ns (by rw[rt];rfl)
  exact apart T hs E.oz K (ON _) 1 (by omega) (by rw[e1];rfl)
 refine⟨rt,D,?_⟩;have e:g (dH f g s K)=s:=by have z:kB f g K (dH f g s K)=s:=rt;unfold kB at z;rw[Uk (by omega)]at z;exact z
 have z:=T.gg _ (kH T hs K);rw[e]at z;exact z
theorem Ends.stuck(T:cv N f g)(hs:s<N){K:Nat}(E:Ends f g s K)(h:g s=s):dH f g s (K+1)=dH f g s K:=by
 rcases E.stop with z|z
 .exact z
 refine OU λq=>?_;have G:Goes f g s (K+1):=⟨λi D=>by
  by_cases c:i=K
  .subst c;exact q
  exact E.oz.mv i (by omega),.inl h⟩
 exact apart T hs G (K+1) (ON _) 0 (by omega) z.symm
theorem Ends.mem(T:cv N f g)(hs:s<N){K:Nat}(E:Ends f g s K){y:Nat}:y∈eX f g s (K+1)↔aB f g s y:=by
 constructor
 .intro h;obtain⟨i,_,rfl⟩:=bT.mp h;exact kJ i
 intro h;refine h (·∈eX f g s (K+1)) (bT.mpr ⟨0,by omega,rfl⟩) λz hz=>?_;obtain⟨i,O,rfl⟩:=bT.mp hz;have D:kB f g i (dH f g s i)∈eX f g s (K+1):=by
  by_cases c:i<K
  .exact bT.mpr ⟨i+1,by omega,rfl⟩
  have c:i=K:=by omega
  subst c;rcases E.stop with z|z
  .exact bT.mpr ⟨i,by omega,z.symm⟩
  exact bT.mpr ⟨0,by omega,z.symm⟩
 have G:(if i%2=0 then g (dH f g s i)else f (dH f g s i))∈eX f g s (K+1):=by
  by_cases J:i=0
  .subst J;show g s∈_;by_cases h:g s=s
   .exact bT.mpr ⟨0,by omega,h.symm⟩
   exact bT.mpr ⟨K,by omega,(E.ring T hs h).2.2.symm⟩
  obtain⟨i',rfl⟩:∃i',i=i'+1:=⟨i-1,by omega⟩
  refine bT.mpr ⟨i',by omega,?_⟩;rw[<-kI T hs i'];unfold kB;by_cases p:i'%2=0
  .rw[Uo p,Uk (by omega)]
  rw[Uk p,Uo (by omega)]
 by_cases p:i%2=0
 .unfold kB at D;rw[Uo p]at D G;exact⟨D,G⟩
 unfold kB at D;rw[Uk p]at D G;exact⟨G,D⟩
theorem Ends.loose(T:cv N f g)(hs:s<N){K:Nat}(E:Ends f g s K)(h:g s=s){i:Nat}(V:i<=K) :
  (f (dH f g s i)=dH f g s i↔i=K/\K%2=0)/\(g (dH f g s i)=dH f g s i↔i=0\/(i=K/\K%2=1)):=by
 have st:=E.stuck T hs h;have D:kB f g i (dH f g s i)=dH f g s i↔i=K:=by
  constructor
  .intro z;refine OU λc=>E.oz.mv i (by omega) z
  rintro rfl;exact st
 have G:0<i->(if i%2=0 then g (dH f g s i)else f (dH f g s i))≠dH f g s i:=λZ z=>by
  obtain⟨i',rfl⟩:∃i',i=i'+1:=⟨i-1,by omega⟩
  have J:kB f g i' (dH f g s (i'+1))=dH f g s (i'+1):=by
   unfold kB;by_cases p:i'%2=0
   .rw[Uk (by omega)]at z;rw[Uo p];exact z
   rw[Uo (by omega)]at z;rw[Uk p];exact z
  rw[kI T hs i']at J;exact E.oz.mv i' (by omega) J.symm
 unfold kB at D;by_cases p:i%2=0
 .rw[Uo p]at D G;refine⟨⟨λz=>⟨D.mp z,by have:=D.mp z;omega⟩,λz=>D.mpr z.1⟩,⟨λz=>?_,λz=>?_⟩⟩
  .by_cases U:i=0
   .exact .inl U
   exact Us z (G (by omega))
  rcases z with rfl|⟨O,J⟩
  .exact h
  omega
 rw[Uk p]at D G;refine⟨⟨λz=>Us z (G (by omega)),λz=>by omega⟩,⟨λz=>.inr ⟨D.mp z,by have:=D.mp z;omega⟩,λz=>?_⟩⟩;rcases z with rfl|⟨O,J⟩
 .omega
 exact D.mpr O
theorem gJ(T:cv N f g)(hs:s<N)(h:g s=s\/bq f g s):∃K,Ends f g s K:=by
 refine OU λO=>?_;have all:∀k,Goes f g s k:=λk=>by
  induction k with
  |zero=>exact⟨λi G=>Us G (Rx _),by rcases h with h|h;exact .inl h;exact .inr λj J U=>by omega⟩
  |succ k D =>
   have q:¬(dH f g s (k+1)=dH f g s k\/dH f g s (k+1)=s):=λz=>O ⟨k,D,z,h⟩;refine⟨λi G=>?_,?_⟩
   .by_cases c:i=k
    .subst c;exactλz=>q (.inl z)
    exact D.mv i (by omega)
   rcases D.rt with z|z
   .exact .inl z
   refine .inr λj J U=>?_;by_cases c:j=k+1
   .subst c;exactλz=>q (.inr z)
   exact z j J (by omega)
 have:=qw T hs (all N);omega
end
theorem De{P:Nat->Prop}:∀n,P n->∃m,P m/\∀k,P k->m<=k:=λn=>by
 induction n using Tw with
 |_ n G =>
  intro h;by_cases c:∃k,k<n/\P k
  .obtain⟨k,D,hp⟩:=c;exact G k D hp
  exact⟨n,h,λk D=>QO λz=>c ⟨k,z,D⟩⟩
theorem eY{α β:Type}{l:List α}{φ:α->β}(nd:l.Nodup)(h:∀x∈l,∀y∈l,φ x=φ y->x=y):(l.map φ).Nodup:=by
 rw[Pc,Px];exact(Pc.mp nd).imp_of_mem λ{x y} G J D e=>D (h x G y J e)
theorem m7{α β:Type}{l:List α}{m:List β}(φ:α->β)(nd:l.Nodup)(h:∀x∈l,∀y∈l,φ x=φ y->x=y)(D:∀x∈l,φ x∈m):l.length<=m.length:=by
 have z:=sub_len (eY nd h) (m:=m) λy G=>by
  obtain⟨x,J,rfl⟩:=OO.mp G;exact D x J
 rwa[OH]at z
theorem m8:∀(k:Nat) (l:List Nat) (φ:Nat->Nat),l.length<=k->l.Nodup->(∀x∈l,φ x∈l/\φ (φ x)=x/\φ x≠x)->l.length%2=0
 |0,l,φ,D,_,_=>by omega
 |k+1,[],φ,D,_,_=>rfl
 |k+1,x::r,φ,D,nd,h=>by
  obtain⟨V,G⟩:=Qy.mp nd;obtain⟨Z,a2,a3⟩:=h x O2;have J:φ x∈r:=by
   rcases O9.mp Z with z|z
   .exact Us z a3
   exact z
  have z:=m8 k (r.erase (φ x)) φ (by rw[QX J];rw[Ph]at D;omega) (G.erase _) λw hw=>by
   obtain⟨w1,U⟩:=(List.Nodup.mem_erase_iff G).mp hw;obtain⟨b1,O,b3⟩:=h w (O1 _ U);refine⟨(List.Nodup.mem_erase_iff G).mpr ⟨λe=>?_,?_⟩,O,b3⟩
   .have:w=x:=by rw[<-O,e,a2]
    exact V (this▸U)
   rcases O9.mp b1 with e|e
   .exact Us (by rw[<-O,e]) w1
   exact e
  rw[QX J]at z;have:0<r.length:=Rb J;rw[Ph];omega
theorem mE{α:Type}(p:α->Bool):∀l:List α,(l.filter p).length+(l.filter λx=>!p x).length=l.length
 |[]=>rfl
 |a::l=>by
  have D:=mE p l;by_cases c:p a=true
  .rw[Pe c,Pf (by simp[c]),Ph,Ph];omega
  rw[Pf c,Pe (by simpa using c),Ph,Ph];omega
section
variable {N:Nat}{a b:Nat->Nat}
def bB(a b:Nat->Nat)(m:Nat):Prop:=∀y,aB a b m y->m<=y
def fZ(a b:Nat->Nat)(m:Nat):Prop:=(∃u,aB a b m u/\a u=u)/\∃z,aB a b m z/\b z=z
noncomputable def OL(a b:Nat->Nat)(i:Nat):List Nat:=(OV i).filter λu=>decide (a u=u/\∃z,aB a b u z/\b z=z)
noncomputable def RL(a b:Nat->Nat)(i:Nat):List Nat:=(OV i).filter λm=>decide (bB a b m/\bq a b m)
noncomputable def QL(a b:Nat->Nat)(i:Nat):List Nat:=(OV i).filter λm=>decide (bB a b m/\fZ a b m)
noncomputable def score(a b:Nat->Nat)(N:Nat):Nat:=2*(RL a b N).length+(OL a b N).length
theorem fI{i u:Nat}:u∈OL a b i↔u<i/\a u=u/\∃z,aB a b u z/\b z=z:=by unfold OL;rw[O0,OX,Uy]
theorem bI{i u:Nat}:u∈RL a b i↔u<i/\bB a b u/\bq a b u:=by unfold RL;rw[O0,OX,Uy]
theorem rg{i u:Nat}:u∈QL a b i↔u<i/\bB a b u/\fZ a b u:=by unfold QL;rw[O0,OX,Uy]
theorem Df{i:Nat}:(OL a b i).Nodup:=PL.filter _
theorem As{i:Nat}:(RL a b i).Nodup:=PL.filter _
theorem LD{i:Nat}:(QL a b i).Nodup:=PL.filter _
theorem m9(T:cv N a b){u v z:Nat}(D:u<N)(G:a u=u)(J:aB a b u v)(O:a v=v)(hz:aB a b u z)(U:b z=z):v=u:=by
 obtain⟨K,E⟩:=gJ T.swap D (.inl G);obtain⟨i,V,rfl⟩:=bT.mp ((E.mem T.swap D).mpr hz.swap);obtain⟨j,Z,rfl⟩:=bT.mp ((E.mem T.swap D).mpr J.swap);have q1:=(E.loose T.swap D G (i:=i) (by omega)).1.mp U;rcases(E.loose T.swap D G (i:=j) (by omega)).2.mp O with e|e
 .subst e;rfl
 omega
theorem kK(T:cv N a b){x:Nat}(G:x<N):∃m,aB a b x m/\m<N/\bB a b m:=by
 obtain⟨m,D,J⟩:=De (P:=λy=>aB a b x y) x (aB.refl x);exact⟨m,D,D.lt T G,λy O=>J y (D.trans O)⟩
theorem LF(T:cv N a b):(OL a b N).length=(QL a b N).length:=by
 refine Sw ?_ ?_
 .have ch:∀x,∃m,x<N->aB a b x m/\m<N/\bB a b m:=λx=>by
   by_cases c:x<N
   .obtain⟨m,h⟩:=kK T c;exact⟨m,λ_=>h⟩
   exact⟨0,λz=>Us z c⟩
  obtain⟨φ,D⟩:=Ry ch;refine m7 φ Df (λx G y J e=>?_) λx G=>?_
  .obtain⟨x1,x2,z,x3,x4⟩:=fI.mp G;obtain⟨O,U,_⟩:=fI.mp J;have c1:=(D x x1).1;have c2:=(D y O).1;rw[<-e]at c2;exact(m9 T x1 x2 (c1.trans (c2.symm T O)) U x3 x4).symm
  obtain⟨x1,x2,z,x3,x4⟩:=fI.mp G;obtain⟨c1,c2,V⟩:=D x x1;have c4:=c1.symm T x1;exact rg.mpr ⟨c2,V,⟨x,c4,x2⟩,z,c4.trans x3,x4⟩
 have ch:∀m,∃u,m∈QL a b N->aB a b m u/\a u=u:=λm=>by
  by_cases c:m∈QL a b N
  .obtain⟨_,_,⟨u,Z,h2⟩,_⟩:=rg.mp c;exact⟨u,λ_=>⟨Z,h2⟩⟩
  exact⟨0,λz=>Us z c⟩
 obtain⟨φ,D⟩:=Ry ch;refine m7 φ LD (λx G y J e=>?_) λx G=>?_
 .obtain⟨x1,x2,_⟩:=rg.mp G;obtain⟨O,U,_⟩:=rg.mp J;have c1:=(D x G).1;have c2:=(D y J).1;rw[<-e]at c2;have c:=c1.trans (c2.symm T O);have:=x2 y c;have:=U x (c.symm T x1);omega
 obtain⟨x1,x2,_,z,x3,x4⟩:=rg.mp G;obtain⟨c1,c2⟩:=D x G;exact fI.mpr ⟨c1.lt T x1,c2,z,(c1.symm T x1).trans x3,x4⟩
theorem ng(T:cv N a b){u:Nat}(D:u<N)(G:a u=u)(J:¬ ∃z,aB a b u z/\b z=z):∃v,v≠u/\aB a b u v/\a v=v/\∀w,aB a b u w->a w=w->w=u\/w=v:=by
 obtain⟨K,E⟩:=gJ T.swap D (.inl G);have last:dH b a u K∈eX b a u (K+1):=bT.mpr ⟨K,by omega,rfl⟩;have O:K%2=1:=by
  refine OU λp=>J ⟨dH b a u K,((E.mem T.swap D).mp last).swap,(E.loose T.swap D G (ON _)).1.mpr ⟨rfl,by omega⟩⟩
 refine⟨dH b a u K,λe=>?_,((E.mem T.swap D).mp last).swap,(E.loose T.swap D G (ON _)).2.mpr (.inr ⟨rfl,O⟩),λw hw U=>?_⟩
 .exact apart T.swap D E.oz K (ON _) 0 (by omega) e.symm
 obtain⟨i,V,rfl⟩:=bT.mp ((E.mem T.swap D).mpr hw.swap);rcases(E.loose T.swap D G (i:=i) (by omega)).2.mp U with e|e
 .subst e;exact .inl rfl
 rw[e.1];exact .inr rfl
theorem Gi(T:cv N a b)(hN:N%2=0):(OL a b N).length%2=0:=by
 have e1:((OV N).filter λx=>!decide (a x=x)).length%2=0:=by
  refine m8 N _ a (by have:=Pm (λx=>!decide (a x=x)) (OV N);rwa[OW]at this) (PL.filter _) λx D=>?_;rw[O0,OX]at D;have ne:a x≠x:=by simpa using D.2
  have J:a (a x)≠a x:=λz=>ne (by rw[T.ff x D.1]at z;exact z.symm);exact⟨O0.mpr ⟨OX.mpr (T.fl x D.1),by simpa using J⟩,T.ff x D.1,ne⟩
 have e2:=mE (λx=>decide (a x=x)) (OV N);rw[OW]at e2;have e3:=mE (λu=>decide (∃z,aB a b u z/\b z=z)) ((OV N).filter λx=>decide (a x=x));have e4:((OV N).filter λx=>decide (a x=x)).filter (λu=>decide (∃z,aB a b u z/\b z=z))=OL a b N:=by
  unfold OL;rw[R3];refine QH λx _=>?_;rw[QV,PX,Uy,Uy,Uy];exact⟨λh=>⟨h.2,h.1⟩,λh=>⟨h.2,h.1⟩⟩
 have e5:(((OV N).filter λx=>decide (a x=x)).filter (λu=>!decide (∃z,aB a b u z/\b z=z))).length%2=0:=by
  have ch:∀u,∃v,u<N->a u=u->(¬ ∃z,aB a b u z/\b z=z)->v≠u/\aB a b u v/\a v=v/\∀w,aB a b u w->a w=w->w=u\/w=v:=λu=>by
   by_cases c:u<N/\a u=u/\¬ ∃z,aB a b u z/\b z=z
   .obtain⟨v,h⟩:=ng T c.1 c.2.1 c.2.2;exact⟨v,λ_ _ _=>h⟩
   exact⟨0,λh1 h2 h3=>Us ⟨h1,h2,h3⟩ c⟩
  obtain⟨φ,G⟩:=Ry ch;have mem:∀x,x∈((OV N).filter λx=>decide (a x=x)).filter (λu=>!decide (∃z,aB a b u z/\b z=z))↔x<N/\a x=x/\¬ ∃z,aB a b x z/\b z=z:=λx=>by
   rw[O0,O0,OX,Uy,Tc,VA,and_assoc]
  refine m8 N _ φ ?_ ((PL.filter _).filter _) λx D=>?_
  .have V:=Pm (λu=>!decide (∃z,aB a b u z/\b z=z)) ((OV N).filter λx=>decide (a x=x));have O:=Pm (λx=>decide (a x=x)) (OV N);rw[OW]at O;omega
  obtain⟨x1,x2,x3⟩:=(mem x).mp D;obtain⟨q1,U,Z,q4⟩:=G x x1 x2 x3;have hv:=U.lt T x1;have no:¬ ∃z,aB a b (φ x) z/\b z=z:=λ⟨z,V,O⟩=>x3 ⟨z,U.trans V,O⟩;refine⟨(mem _).mpr ⟨hv,Z,no⟩,?_,q1⟩;obtain⟨r1,r2,r3,r4⟩:=G (φ x) hv Z no;rcases q4 _ (U.trans r2) r3 with e|e
  .exact e
  exact Us e r1
 rw[e4]at e3;omega
theorem mF(T:cv N a b)(D:N%2=0):score a b N%2=0:=by
 have:=Gi T D;unfold score;omega
noncomputable def ML(a b:Nat->Nat)(N:Nat):List Nat:=OL a b N++(RL a b N++(RL a b N).map a)
theorem yS:(ML a b N).length=score a b N:=by unfold ML score;rw[OQ,OQ,OH];omega
theorem w8(T:cv N a b):(ML a b N).Nodup:=by
 unfold ML;refine PY.mpr ⟨Df,PY.mpr ⟨As,eY As λx D y G e=>?_,λx D y G e=>?_⟩,λx D y G e=>?_⟩
 .have x1:=(bI.mp D).1;have O:=(bI.mp G).1;rw[<-T.ff x x1,e,T.ff y O]
 .subst e;obtain⟨x1,x2,x3⟩:=bI.mp D;obtain⟨m,J,rfl⟩:=OO.mp G;obtain⟨m1,m2,m3⟩:=bI.mp J;have c:aB a b m (a m):=(aB.refl m).sf;have:=m2 _ c;have:=x2 m (c.symm T m1);exact(m3 m (aB.refl m)).1 (by omega)
 subst e;obtain⟨x1,x2,_⟩:=fI.mp D;rcases OY.mp G with h|h
 .exact((bI.mp h).2.2 x (aB.refl x)).1 x2
 obtain⟨m,J,rfl⟩:=OO.mp h;exact((bI.mp J).2.2 (a m) (aB.refl m).sf).1 x2
theorem Hv(T:cv N a b):∀x∈ML a b N,x∈OV N:=λx D=>by
 rw[OX];rcases OY.mp D with h|h
 .exact(fI.mp h).1
 rcases OY.mp h with h|h
 .exact(bI.mp h).1
 obtain⟨m,G,rfl⟩:=OO.mp h;exact T.fl m (bI.mp G).1
theorem jo(T:cv N a b):score a b N<=N:=by
 have z:=sub_len (w8 T) (Hv T);rwa[yS,OW]at z
theorem rh(T:cv N a b):score a b N=N↔∀x,x<N->a x=b x:=by
 constructor
 .intro h;have all:∀x,x<N->x∈ML a b N:=λx D=>OU λno=>by
   have z:=sub_len (w8 T) (m:=(OV N).erase x) λy G=>(SK (λe=>no (by rw[<-e];exact G))).mpr (Hv T y G);rw[yS,h,QX (OX.mpr D),OW]at z;omega
  have loose:∀x,x<N->a x=x->b x=x:=λx D J=>by
   have hO:∀y,y<N->a y=y->y∈OL a b N:=λy G ay=>by
    rcases OY.mp (all y G)with h|h
    .exact h
    rcases OY.mp h with h|h
    .exact Us ay ((bI.mp h).2.2 y (aB.refl y)).1
    obtain⟨m,O,rfl⟩:=OO.mp h;exact Us ay ((bI.mp O).2.2 (a m) (aB.refl m).sf).1
   obtain⟨_,_,z,z1,Z⟩:=fI.mp (hO x D J);have hb:=T.gl x D;have U:aB a b x (b x):=(aB.refl x).sg;rcases OY.mp (all (b x) hb)with h|h
   .exact m9 T D J U (fI.mp h).2.1 z1 Z
   exfalso;have V:bq a b (b x):=by
    rcases OY.mp h with h|h
    .exact(bI.mp h).2.2
    obtain⟨m,O,e⟩:=OO.mp h;rw[<-e];exact(bI.mp O).2.2.of T (bI.mp O).1 (aB.refl m).sf
   exact(V x (U.symm T D)).1 J
  intro x D;by_cases J:a x=x
  .rw[J,loose x D J]
  have pair:∀m,m∈RL a b N->b m=a m:=λm O=>by
   obtain⟨m1,m2,m3⟩:=bI.mp O;have U:aB a b m (b m):=(aB.refl m).sg;rcases OY.mp (all (b m) (T.gl m m1))with h|h
   .exact Us (fI.mp h).2.1 (m3 _ U).1
   rcases OY.mp h with h|h
   .obtain⟨q1,q2,_⟩:=bI.mp h;have:=m2 _ U;have:=q2 m (U.symm T m1);exact Us (show b m=m by omega) (m3 m (aB.refl m)).2
   obtain⟨m',LG,e⟩:=OO.mp h;obtain⟨q1,q2,_⟩:=bI.mp LG;have c:aB a b m m':=by
    have z:aB a b m (a m'):=e▸U;have Z:=z.sf;rwa[T.ff m' q1]at Z
   have:=m2 _ c;have:=q2 m (c.symm T m1);have e2:m'=m:=by omega
   rw[<-e,e2]
  rcases OY.mp (all x D)with h|h
  .exact Us (fI.mp h).2.1 J
  rcases OY.mp h with h|h
  .exact(pair x h).symm
  obtain⟨m,O,rfl⟩:=OO.mp h;have m1:=(bI.mp O).1;have e:=pair m O;rw[T.ff m m1,<-e,T.gg m m1]
 intro h;refine Sw (jo T) ?_;have z:=sub_len (l:=OV N) (m:=ML a b N) PL λx D=>?_
 .rwa[yS,OW]at z
 have D:=OX.mp D;by_cases J:a x=x
 .exact Pn _ (fI.mpr ⟨D,J,x,aB.refl x,by rw[<-h x D];exact J⟩)
 have cl:∀y,y<N->∀z,aB a b y z->z=y\/z=a y:=λy G z hc=>hc (λz=>z=y\/z=a y) (.inl rfl) λw hw=>by
  rcases hw with rfl|rfl
  .exact⟨.inr rfl,.inr (h w G).symm⟩
  refine⟨.inl (T.ff y G),.inl ?_⟩;rw[<-h _ (T.fl y G),T.ff y G]
 have V:∀y,y<N->a y≠y->bq a b y:=λy G ne z hc=>by
  rcases cl y G z hc with rfl|rfl
  .exact⟨ne,by rw[<-h z G];exact ne⟩
  have n2:a (a y)≠a y:=by rw[T.ff y G];exact Ne.symm ne
  exact⟨n2,by rw[<-h _ (T.fl y G)];exact n2⟩
 have al:=T.fl x D;have ne2:a (a x)≠a x:=by rw[T.ff x D];exact Ne.symm J
 refine OZ _ ?_;by_cases c:x<a x
 .refine Pn _ (bI.mpr ⟨D,λy G=>?_,V x D J⟩);rcases cl x D y G with rfl|rfl <;> omega
 refine OZ _ (OO.mpr ⟨a x,bI.mpr ⟨al,λy G=>?_,V _ al ne2⟩,T.ff x D⟩);rcases cl _ al y G with rfl|rfl
 .omega
 rw[T.ff x D];omega
structure bU(a b:Nat->Nat) (x:Nat) (L:List Nat):Prop where
 nd:L.Nodup
 mem:∀y,y∈L↔aB a b x y
theorem jq{x:Nat}{L M:List Nat}(h:bU a b x L)(k:bU a b x M):L.length=M.length :=
 Sw (sub_len h.nd λy D=>(k.mem y).mpr ((h.mem y).mp D)) (sub_len k.nd λy D=>(h.mem y).mpr ((k.mem y).mp D))
theorem yT(T:cv N a b){x:Nat}(G:x<N){L:List Nat}(h:bU a b x L)(w:bq a b x):L.length%2=0:=by
 refine m8 L.length L a (ON _) h.nd λy J=>?_;have D:=(h.mem y).mp J;exact⟨(h.mem _).mpr D.sf,T.ff y (D.lt T G),(w y D).1⟩
theorem kL(T:cv N a b){x:Nat}(U:x<N){L:List Nat}(h:bU a b x L):L.length%2=1↔fZ a b x:=by
 have J:∀u,aB a b x u->a u=u->(L.length%2=1↔∃z,aB a b x z/\b z=z):=λu G O=>by
  have D:=G.lt T U;obtain⟨K,E⟩:=gJ T.swap D (.inl O);have C:bU a b x (eX b a u (K+1)):=⟨gE T.swap D E.oz,λy=>by
   rw[E.mem T.swap D,jn];exact⟨λz=>G.trans z,λz=>(G.symm T U).trans z⟩⟩
  rw[jq h C,cR];constructor
  .intro p;exact⟨dH b a u K,(C.mem _).mp (bT.mpr ⟨K,by omega,rfl⟩),(E.loose T.swap D O (ON _)).1.mpr ⟨rfl,by omega⟩⟩
  rintro⟨z,z1,z2⟩;obtain⟨i,hi,rfl⟩:=bT.mp ((C.mem z).mpr z1);have:=(E.loose T.swap D O (i:=i) (by omega)).1.mp z2;omega
 constructor
 .intro p;by_cases V:∃u,aB a b x u/\a u=u
  .obtain⟨u,G,O⟩:=V;exact⟨⟨u,G,O⟩,(J u G O).mp p⟩
  exfalso;by_cases Z:∃z,aB a b x z/\b z=z
  .obtain⟨u,G,bu⟩:=Z;have D:=G.lt T U;obtain⟨K,E⟩:=gJ T D (.inl bu);have C:bU a b x (eX a b u (K+1)):=⟨gE T D E.oz,λy=>by
    rw[E.mem T D];exact⟨λz=>G.trans z,λz=>(G.symm T U).trans z⟩⟩
   rw[jq h C,cR]at p;exact V ⟨dH a b u K,(C.mem _).mp (bT.mpr ⟨K,by omega,rfl⟩),(E.loose T D bu (ON _)).1.mpr ⟨rfl,by omega⟩⟩
  have w:bq a b x:=λy hy=>⟨λz=>V ⟨y,hy,z⟩,λz=>Z ⟨y,hy,z⟩⟩
  have:=yT T U h w;omega
 rintro⟨⟨u,G,O⟩,hz⟩;exact(J u G O).mpr hz
noncomputable def cM(a b:Nat->Nat)(i:Nat):Nat:=2*(RL a b i).length+(QL a b i).length
theorem w9(T:cv N a b):cM a b N=score a b N:=by unfold cM score;rw[LF T]
theorem ig(i:Nat):cM a b (i+1)=cM a b i+(if bB a b i/\bq a b i then 2 else 0)+(if bB a b i/\fZ a b i then 1 else 0):=by
 unfold cM RL QL;rw[Qg,Pa,Pa,OQ,OQ];have e1:([i].filter λm=>decide (bB a b m/\bq a b m)).length=if bB a b i/\bq a b i then 1 else 0:=by
  by_cases c:bB a b i/\bq a b i
  .rw[Uo c,Pe (by simpa using c)];rfl
  rw[Uk c,Pf (by simpa using c)];rfl
 have e2:([i].filter λm=>decide (bB a b m/\fZ a b m)).length=if bB a b i/\fZ a b i then 1 else 0:=by
  by_cases c:bB a b i/\fZ a b i
  .rw[Uo c,Pe (by simpa using c)];rfl
  rw[Uk c,Pf (by simpa using c)];rfl
 rw[e1,e2];by_cases c:bB a b i/\bq a b i
 .rw[Uo c,Uo c];omega
 rw[Uk c,Uk c];omega
end
section
variable {N:Nat}{f g:Nat->Nat}{s:Nat}
theorem Bx(T:cv N f g)(hs:s<N){K D:Nat}(E:Ends f g s K)(G:Ends f g s D):K=D:=by
 have z:=jq (a:=f) (b:=g) (x:=s) ⟨gE T hs E.oz,λy=>E.mem T hs⟩ ⟨gE T hs G.oz,λy=>G.mem T hs⟩;rw[cR,cR]at z;omega
noncomputable def cN(f g:Nat->Nat)(s:Nat):List Nat:=if h:∃K,Ends f g s K then eX f g s (Sl h+1)else[]
theorem jG(T:cv N f g)(hs:s<N){K:Nat}(E:Ends f g s K):cN f g s=eX f g s (K+1):=by
 have h:∃K,Ends f g s K:=⟨K,E⟩
 unfold cN;rw[Wr h,Bx T hs (QB h) E]
theorem bH(T:cv N f g)(hs:s<N)(h:g s=s\/bq f g s):bU f g s (cN f g s):=by
 obtain⟨K,E⟩:=gJ T hs h;rw[jG T hs E];exact⟨gE T hs E.oz,λy=>E.mem T hs⟩
theorem ni(T:cv N f g)(hs:s<N)(h:g s=s\/bq f g s):0<(cN f g s).length/\(cN f g s).length<=N:=by
 obtain⟨K,E⟩:=gJ T hs h;rw[jG T hs E,cR];have:=qw T hs E.oz;omega
end
section
variable {N:Nat}{a b:Nat->Nat}
inductive Kd|ring|odd|bare|tied
deriving DecidableEq
noncomputable def bE(L:List Nat):Nat:=L.getLastD 0
theorem fv{f g:Nat->Nat}{s:Nat}(T:cv N f g)(hs:s<N)(G:g s=s)(J:(cN f g s).length%2=0) :
  bE (cN f g s)≠s/\aB f g s (bE (cN f g s))/\g (bE (cN f g s))=bE (cN f g s)/\(∀w,aB f g s w->g w=w->w=s\/w=bE (cN f g s))/\∀w,aB f g s w->f w≠w:=by
 obtain⟨K,E⟩:=gJ T hs (.inl G);rw[jG T hs E,cR]at J;have O:bE (cN f g s)=dH f g s K:=by
  rw[jG T hs E,lE];unfold bE;rw[SM]
 rw[O];have ld:=λi (D:i<=K)=>E.loose T hs G D;refine⟨λe=>?_,kJ K,(ld K (ON _)).2.mpr (.inr ⟨rfl,by omega⟩),λw hw U=>?_,λw hw V=>?_⟩
 .exact apart T hs E.oz K (ON _) 0 (by omega) e.symm
 .obtain⟨i,D,rfl⟩:=bT.mp ((E.mem T hs).mpr hw);rcases(ld i (by omega)).2.mp U with e|e
  .subst e;exact .inl rfl
  rw[e.1];exact .inr rfl
 obtain⟨i,D,rfl⟩:=bT.mp ((E.mem T hs).mpr hw);have:=(ld i (by omega)).1.mp V;omega
theorem nr{f g:Nat->Nat}{s:Nat}(T:cv N f g)(hs:s<N)(D:g s=s):(cN f g s).length%2=1↔∃z,aB f g s z/\f z=z:=by
 have z:=kL T hs (bH T hs (.inl D));rw[z];exact⟨λh=>h.1,λh=>⟨h,s,aB.refl s,D⟩⟩
def pA(a b:Nat->Nat)(u:Nat):Prop:=(cN b a u).length%2=1\/u<bE (cN b a u)
noncomputable def eA(a b:Nat->Nat)(u:Nat):Kd×List Nat:=(if(cN b a u).length%2=1 then .odd else .bare,cN b a u)
def pB(a b:Nat->Nat)(z:Nat):Prop:=(cN a b z).length%2=0/\z<bE (cN a b z)
noncomputable def eB(a b:Nat->Nat)(z:Nat):Kd×List Nat:=(.tied,cN a b z)
noncomputable def lF(N:Nat)(a:Nat->Nat):List Nat:=(OV N).filter λe=>e==a e
theorem dw{u:Nat}:u∈lF N a↔u<N/\a u=u:=by
 unfold lF;rw[O0,OX,beq_iff_eq];exact⟨λh=>⟨h.1,h.2.symm⟩,λh=>⟨h.1,h.2.symm⟩⟩
theorem Hw:(lF N a).Nodup:=PL.filter _
noncomputable def iM(N:Nat)(a b:Nat->Nat)(D:List Nat):List (Kd×List Nat):=(D.filter λu=>decide (pA a b u)).map (eA a b)
noncomputable def j8(N:Nat)(a b:Nat->Nat)(D:List Nat):List (Kd×List Nat):=(D.filter λz=>decide (pB a b z)).map (eB a b)
noncomputable def hV(N:Nat)(a b:Nat->Nat):List (Kd×List Nat):=iM N a b (lF N a)++j8 N a b (lF N b)
noncomputable def eE(a b:Nat->Nat)(i:Nat):List (Kd×List Nat):=(RL a b i).map λm=>(Kd.ring,cN a b m)
noncomputable def pU(N:Nat)(a b:Nat->Nat):List (Kd×List Nat):=hV N a b++eE a b N
theorem rj(D:List Nat)(u:Nat):iM N a b (D++[u])=iM N a b D++(if pA a b u then[eA a b u]else[]):=by
 unfold iM;rw[Pa,O5];congr 1;by_cases c:pA a b u
 .rw[Uo c,Pe (by simpa using c)];rfl
 rw[Uk c,Pf (by simpa using c)];rfl
theorem rm(D:List Nat)(u:Nat):j8 N a b (D++[u])=j8 N a b D++(if pB a b u then[eB a b u]else[]):=by
 unfold j8;rw[Pa,O5];congr 1;by_cases c:pB a b u
 .rw[Uo c,Pe (by simpa using c)];rfl
 rw[Uk c,Pf (by simpa using c)];rfl
theorem oA(D:List Nat):(iM N a b D).length<=D.length:=by unfold iM;rw[OH];exact Pm _ _
theorem t9(D:List Nat):(j8 N a b D).length<=D.length:=by unfold j8;rw[OH];exact Pm _ _
theorem rn{L:List Nat}(h:0<L.length):L.getLast?=Yc (bE L):=by
 unfold bE;cases L with
 |nil=>exact Us h (QF _)
 |cons x r=>rw[List.getLastD_eq_getLast?,List.getLast?_cons];rfl
theorem oB(T:cv N a b){th:Kd×List Nat}(h:th∈hV N a b):∃u,u<N/\¬bq a b u/\bU a b u th.2:=by
 unfold hV iM j8 at h;rcases OY.mp h with h|h
 .obtain⟨u,J,rfl⟩:=OO.mp h;obtain⟨D,G⟩:=dw.mp (O0.mp J).1;have C:=bH T.swap D (.inl G);exact⟨u,D,λw=>(w u (aB.refl u)).1 G,C.nd,λy=>by rw[<-jn];exact C.mem y⟩
 obtain⟨u,J,rfl⟩:=OO.mp h;obtain⟨D,G⟩:=dw.mp (O0.mp J).1;exact⟨u,D,λw=>(w u (aB.refl u)).2 G,bH T D (.inl G)⟩
theorem oC(T:cv N a b){x:Nat}(V:x<N):(∃th∈hV N a b,x∈th.2)↔¬bq a b x:=by
 constructor
 .rintro⟨th,h1,h2⟩ w;obtain⟨u,u1,u2,C⟩:=oB T h1;exact u2 (w.of T V (((C.mem x).mp h2).symm T u1))
 intro nw;have side:∀u,u<N->a u=u->aB a b u x->∃th∈hV N a b,x∈th.2:=λu J au hc=>by
  have inA:∀v,v<N->a v=v->pA a b v->aB a b v x->∃th∈hV N a b,x∈th.2:=λv O av pv U=>by
   refine⟨eA a b v,Pn _ (OO.mpr ⟨v,O0.mpr ⟨dw.mpr ⟨O,av⟩,Ul pv⟩,rfl⟩),?_⟩;exact((bH T.swap O (.inl av)).mem x).mpr U.swap
  by_cases p:pA a b u
  .exact inA u J au p hc
  have p1:¬(cN b a u).length%2=1:=λz=>p (.inl z);have p2:¬u<bE (cN b a u):=λz=>p (.inr z);obtain⟨l1,G,Z,l4,l5⟩:=fv T.swap J au (by omega);have lv:=G.swap.lt T J;refine inA _ lv Z ?_ ((G.swap.symm T J).trans hc);by_cases q:(cN b a (bE (cN b a u))).length%2=1
  .exact .inl q
  refine .inr ?_;obtain⟨m1,m2,m3,m4,m5⟩:=fv T.swap lv Z (by omega);rcases l4 _ (G.trans m2) m3 with e|e
  .rw[e];omega
  exact Us e m1
 by_cases cA:∃u,aB a b x u/\a u=u
 .obtain⟨u,J,au⟩:=cA;exact side u (J.lt T V) au (J.symm T V)
 have cB:∃z,aB a b x z/\b z=z:=OU λno=>nw λy hy=>⟨λe=>cA ⟨y,hy,e⟩,λe=>no ⟨y,hy,e⟩⟩
 obtain⟨z,hz,bz⟩:=cB;have D:=hz.lt T V;have ev:∀v,v<N->aB a b x v->b v=v->(cN a b v).length%2=0:=λv O hc bv=>by
  have:=(nr T O bv)
  by_cases q:(cN a b v).length%2=1
  .obtain⟨w,w1,w2⟩:=this.mp q;exact Us ⟨w,hc.trans w1,w2⟩ cA
  omega
 have inB:∀v,v<N->b v=v->pB a b v->aB a b v x->∃th∈hV N a b,x∈th.2:=λv O bv pv U=>by
  refine⟨eB a b v,OZ _ (OO.mpr ⟨v,O0.mpr ⟨dw.mpr ⟨O,bv⟩,Ul pv⟩,rfl⟩),?_⟩;exact((bH T O (.inl bv)).mem x).mpr U
 have e1:=ev z D hz bz;obtain⟨l1,G,Z,l4,l5⟩:=fv T D bz e1;have lv:=G.lt T D;by_cases p:z<bE (cN a b z)
 .exact inB z D bz ⟨e1,p⟩ (hz.symm T V)
 have e2:=ev _ lv (hz.trans G) Z;obtain⟨m1,m2,m3,m4,m5⟩:=fv T lv Z e2;refine inB _ lv Z ⟨e2,?_⟩ ((hz.trans G).symm T V);rcases l4 _ (G.trans m2) m3 with e|e
 .rw[e];omega
 exact Us e m1
theorem By(T:cv N a b){i:Nat}(D:i<N):(bB a b i/\bq a b i)↔¬(¬bq a b i\/∃th∈eE a b i,i∈th.2):=by
 have U:(∃th∈eE a b i,i∈th.2)↔∃m,m<i/\bB a b m/\bq a b m/\aB a b m i:=by
  unfold eE;constructor
  .rintro⟨th,G,J⟩;obtain⟨m,V,rfl⟩:=OO.mp G;obtain⟨m1,m2,m3⟩:=bI.mp V;exact⟨m,m1,m2,m3,((bH T (by omega) (.inr m3)).mem i).mp J⟩
  rintro⟨m,m1,m2,m3,m4⟩;exact⟨_,OO.mpr ⟨m,bI.mpr ⟨m1,m2,m3⟩,rfl⟩,((bH T (by omega) (.inr m3)).mem i).mpr m4⟩
 rw[U];constructor
 .rintro⟨G,J⟩ h;rcases h with h|⟨m,m1,m2,m3,m4⟩
  .exact h J
  have:=G m (m4.symm T (by omega));omega
 intro h;have w:bq a b i:=OU λz=>h (.inl z);refine⟨λy Z=>OU λz=>?_,w⟩;obtain⟨m,c1,c2,O⟩:=kK T D;have:=O y ((c1.symm T D).trans Z);exact h (.inr ⟨m,by omega,O,w.of T D c1,c1.symm T D⟩)
theorem ij(i:Nat):eE a b (i+1)=eE a b i++(if bB a b i/\bq a b i then[(Kd.ring,cN a b i)]else[]):=by
 unfold eE RL;rw[Qg,Pa,O5];congr 1;by_cases c:bB a b i/\bq a b i
 .rw[Uo c,Pe (by simpa using c)];rfl
 rw[Uk c,Pf (by simpa using c)];rfl
theorem xa(i:Nat):(eE a b i).length<=i:=by
 unfold eE RL;rw[OH];have z:=Pm (λm=>decide (bB a b m/\bq a b m)) (OV i);rwa[OW]at z
theorem sW{i:Nat}(h:¬bB a b i):cM a b (i+1)=cM a b i:=by rw[ig,Uk (λz=>h z.1),Uk (λz=>h z.1)];omega
theorem ua{i:Nat}(h:fZ a b i):¬bq a b i:=λw=>let⟨⟨u,D,G⟩,_⟩:=h;(w u D).1 G
theorem xb{i:Nat}(h:bB a b i)(o:fZ a b i):cM a b (i+1)=cM a b i+1:=by rw[ig,Uk (λz=>ua o z.2),Uo ⟨h,o⟩]
theorem ve{i:Nat}(h:bB a b i)(w:bq a b i):cM a b (i+1)=cM a b i+2:=by rw[ig,Uo ⟨h,w⟩,Uk (λz=>ua z.2 w)]
theorem vf{i:Nat}(w:¬bq a b i)(o:¬fZ a b i):cM a b (i+1)=cM a b i:=by rw[ig,Uk (λz=>w z.2),Uk (λz=>o z.2)];omega
noncomputable def mn(L:List Nat):Nat:=L.foldl min (L.headD 0)
theorem Dg:∀(L:List Nat) (k:Nat),L.foldl min k<=k/\(∀x∈L,L.foldl min k<=x)/\(L.foldl min k=k\/L.foldl min k∈L)
 |[],k=>⟨ON _,λx D=>Us D Qp,.inl rfl⟩
 |y::r,k=>by
  obtain⟨O,G,J⟩:=Dg r (min k y);rw[Sx];refine⟨by omega,λx D=>?_,?_⟩
  .rcases O9.mp D with rfl|D
   .omega
   exact G x D
  rcases J with e|e
  .by_cases c:k<=y
   .exact .inl (by rw[e];omega)
   have:min k y=y:=by omega
   exact .inr (by rw[e,this];exact O2)
  exact .inr (O1 _ e)
theorem gL{x:Nat}{L:List Nat}(C:bU a b x L):aB a b x (mn L)/\∀y,aB a b x y->mn L<=y:=by
 obtain⟨U,D,G⟩:=Dg L (L.headD 0);have J:=(C.mem x).mpr (aB.refl x);have hd:L.headD 0∈L:=by
  cases L with
  |nil=>cases J
  |cons z r=>exact O2
 refine⟨(C.mem _).mp ?_,λy O=>D y ((C.mem y).mpr O)⟩;rcases G with e|e
 .unfold mn;rw[e];exact hd
 exact e
theorem rp(T:cv N a b){x y:Nat}{L M:List Nat}(O:x<N)(J:y<N)(C:bU a b x L)(D:bU a b y M)(e:mn L=mn M):aB a b x y:=by
 have G:=(gL C).1;rw[e]at G;exact G.trans ((gL D).1.symm T J)
theorem keys_nodup(T:cv N a b):((pU N a b).map λth=>mn th.2).Nodup:=by
 have cA:∀u,u∈lF N a->bU a b u (cN b a u):=λu hu=>by
  obtain⟨u1,u2⟩:=dw.mp hu;have C:=bH T.swap u1 (.inl u2);exact⟨C.nd,λy=>by rw[<-jn];exact C.mem y⟩
 have cB:∀u,u∈lF N b->bU a b u (cN a b u):=λu hu=>by
  obtain⟨u1,u2⟩:=dw.mp hu;exact bH T u1 (.inl u2)
 unfold pU hV iM j8 eE;rw[O5,O5,Pp,Pp,Pp];refine PY.mpr ⟨PY.mpr ⟨eY (Hw.filter _) λx J y U e=>?_,eY (Hw.filter _) λx J y U e=>?_,?_⟩,eY As λx J y U e=>?_,?_⟩
 .obtain⟨x1,x2⟩:=O0.mp J;obtain⟨G,y2⟩:=O0.mp U;obtain⟨D,O⟩:=dw.mp x1;obtain⟨V,Z⟩:=dw.mp G;have c:=rp T D V (cA x x1) (cA y G) e;have px:pA a b x:=Uw x2;have py:pA a b y:=Uw y2;by_cases o:(cN b a x).length%2=1
  .obtain⟨z,z1,z2⟩:=(nr T.swap D O).mp o;exact(m9 T D O c Z z1.swap z2).symm
  obtain⟨l1,l2,l3,l4,l5⟩:=fv T.swap D O (by omega);rcases l4 y c.swap Z with e|e
  .exact e.symm
  exfalso;have o2:¬(cN b a y).length%2=1:=λo2=>by
   obtain⟨z,z1,z2⟩:=(nr T.swap V Z).mp o2;exact l5 z (c.swap.trans z1) z2
  obtain⟨m1,m2,m3,m4,m5⟩:=fv T.swap V Z (by omega);have q1:x<bE (cN b a x):=px.resolve_left o;have q2:y<bE (cN b a y):=py.resolve_left o2;rcases l4 _ (c.swap.trans m2) m3 with w|w
  .omega
  exact m1 (by omega)
 .obtain⟨x1,x2⟩:=O0.mp J;obtain⟨G,y2⟩:=O0.mp U;obtain⟨D,O⟩:=dw.mp x1;obtain⟨V,Z⟩:=dw.mp G;have c:=rp T D V (cB x x1) (cB y G) e;obtain⟨px1,px2⟩:pB a b x:=Uw x2;obtain⟨py1,py2⟩:pB a b y:=Uw y2;obtain⟨l1,l2,l3,l4,l5⟩:=fv T D O px1;obtain⟨m1,m2,m3,m4,m5⟩:=fv T V Z py1;rcases l4 y c Z with e|e
  .exact e.symm
  rcases l4 _ (c.trans m2) m3 with w|w
  .omega
  exact Us (show bE (cN a b y)=y by omega) m1
 .intro p hp q hq e;obtain⟨x,J,rfl⟩:=OO.mp hp;obtain⟨y,U,rfl⟩:=OO.mp hq;obtain⟨x1,x2⟩:=O0.mp J;obtain⟨G,y2⟩:=O0.mp U;obtain⟨D,O⟩:=dw.mp x1;obtain⟨V,Z⟩:=dw.mp G;have c:=rp T D V (cA x x1) (cB y G) e;obtain⟨py1,py2⟩:pB a b y:=Uw y2;obtain⟨m1,m2,m3,m4,m5⟩:=fv T V Z py1;exact m5 x (c.symm T D) O
 .obtain⟨x1,x2,x3⟩:=bI.mp J;obtain⟨G,y2,y3⟩:=bI.mp U;have c:=rp T x1 G (bH T x1 (.inr x3)) (bH T G (.inr y3)) e;have:=x2 y c;have:=y2 x (c.symm T x1);omega
 intro p hp q hq e;obtain⟨y,U,rfl⟩:=OO.mp hq;obtain⟨G,y2,y3⟩:=bI.mp U;have key:∃x,x<N/\¬bq a b x/\∃L,bU a b x L/\p=mn L:=by
  rcases OY.mp hp with h|h
  .obtain⟨x,J,rfl⟩:=OO.mp h;have x1:=(O0.mp J).1;obtain⟨D,O⟩:=dw.mp x1;exact⟨x,D,λw=>(w x (aB.refl x)).1 O,_,cA x x1,rfl⟩
  obtain⟨x,J,rfl⟩:=OO.mp h;have x1:=(O0.mp J).1;obtain⟨D,O⟩:=dw.mp x1;exact⟨x,D,λw=>(w x (aB.refl x)).2 O,_,cB x x1,rfl⟩
 obtain⟨x,D,nw,L,C,rfl⟩:=key;exact nw (y3.of T G ((rp T D G C (bH T G (.inr y3)) e).symm T D))
theorem lG(T:cv N a b){th:Kd×List Nat}(h:th∈pU N a b):∃u,u<N/\bU a b u th.2:=by
 rcases OY.mp h with h|h
 .obtain⟨u,D,_,G⟩:=oB T h;exact⟨u,D,G⟩
 obtain⟨m,J,rfl⟩:=OO.mp h;obtain⟨m1,m2,m3⟩:=bI.mp J;exact⟨m,m1,bH T m1 (.inr m3)⟩
theorem rq(T:cv N a b):(pU N a b).length<=N:=by
 have z:=sub_len (keys_nodup T) (m:=OV N) λx D=>by
  obtain⟨th,h,rfl⟩:=OO.mp D;obtain⟨u,G,C⟩:=lG T h;exact OX.mpr ((gL C).1.lt T G)
 rwa[OH,OW]at z
theorem IQ(T:cv N a b):((pU N a b).filter λth=>th.1=.odd).length=(OL a b N).length:=by
 unfold pU hV iM j8 eE;rw[Pa,Pa,Rg,Rg,Rg,OQ,OQ,OH,OH,OH];have e1:(((lF N b).filter λz=>decide (pB a b z)).filter ((λth:Kd×List Nat=>decide (th.1=.odd)) ∘ eB a b))=[]:=Qt.mpr λx _=>by simp[eB]
 have e2:((RL a b N).filter ((λth:Kd×List Nat=>decide (th.1=.odd)) ∘ λm=>(Kd.ring,cN a b m)))=[]:=Qt.mpr λx _=>by simp
 rw[e1,e2];have e3:(((lF N a).filter λu=>decide (pA a b u)).filter ((λth:Kd×List Nat=>decide (th.1=.odd)) ∘ eA a b))=OL a b N:=by
  unfold OL lF;rw[R3,R3];refine QH λx V=>?_;have O:=OX.mp V;rw[QV,PX,PX,beq_iff_eq,Uy,Uy];show(decide ((if(cN b a x).length%2=1 then Kd.odd else Kd.bare)=Kd.odd)=true/\_)/\_↔_;rw[Uy];constructor
  .rintro⟨⟨U,h2⟩,Z⟩;have D:=Z.symm;have o:(cN b a x).length%2=1:=by
    refine OU λz=>?_;rw[Uk z]at U;cases U
   obtain⟨z,G,J⟩:=(nr T.swap O D).mp o;exact⟨D,z,G.swap,J⟩
  rintro⟨D,z,G,J⟩;have o:=(nr T.swap O D).mpr ⟨z,G.swap,J⟩;exact⟨⟨by rw[Uo o],.inl o⟩,D.symm⟩
 rw[e3]
 rfl
theorem Gj:((pU N a b).filter λth=>th.1=.ring).length=(RL a b N).length:=by
 unfold pU hV iM j8 eE;rw[Pa,Pa,Rg,Rg,Rg,OQ,OQ,OH,OH,OH];have e1:(((lF N b).filter λz=>decide (pB a b z)).filter ((λth:Kd×List Nat=>decide (th.1=.ring)) ∘ eB a b))=[]:=Qt.mpr λx _=>by simp[eB]
 have e3:(((lF N a).filter λu=>decide (pA a b u)).filter ((λth:Kd×List Nat=>decide (th.1=.ring)) ∘ eA a b))=[]:=Qt.mpr λx _=>by
  simp only[Function.comp,eA]
  split <;> simp
 have e2:((RL a b N).filter ((λth:Kd×List Nat=>decide (th.1=.ring)) ∘ λm=>(Kd.ring,cN a b m)))=RL a b N:=RV.mpr λx _=>by simp
 rw[e1,e2,e3];simp
end
noncomputable def cnt(N:Nat)(P:Nat->Prop):Nat:=((OV N).filter λx=>decide (P x)).length
theorem jr{N:Nat}{P Q:Nat->Prop}(h:∀x,x<N->(P x↔Q x)):cnt N P=cnt N Q:=by
 unfold cnt;congr 1;refine QH λx D=>?_;have:=h x (OX.mp D);simp[this]
theorem jH{N m:Nat}{P Q:Nat->Prop}(U:m<N)(V:¬P m)(h:∀x,x<N->(Q x↔P x\/x=m)):cnt N Q=cnt N P+1:=by
 unfold cnt;have nd:(OV N).Nodup:=PL;have mem:m∈OV N:=OX.mpr U;have lt:∀x∈OV N,x<N:=λx D=>OX.mp D;generalize OV N=l at nd mem lt
 induction l with
 |nil=>cases mem
 |cons y l G =>
  rw[Qy]at nd;have J:=h y (lt y (O2 ..));by_cases e:y=m
  .subst e;have O:Q y:=J.mpr (.inr rfl);rw[Pe (by simpa using O),Pf (by simpa using V),Ph];congr 2;refine QH λx D=>?_;have Z:=h x (lt x (O1 _ D));have h2:x≠y:=λz=>nd.1 (z▸D);simp[Z,h2]
  have mem:m∈l:=by
   rcases O9.mp mem with z|z
   .exact Us z.symm e
   exact z
  have G:=G nd.2 mem (λx D=>lt x (O1 _ D));by_cases hp:P y
  .rw[Pe (by simpa using J.mpr (.inl hp)),Pe (by simpa using hp),Ph,Ph,G]
  have O:¬Q y:=λz=>by
   rcases J.mp z with z|z
   .exact hp z
   exact e z
  rw[Pf (by simpa using O),Pf (by simpa using hp),G]
variable {N:Nat}{a b:Nat->Nat}
def hG(a b:Nat->Nat)(u:Nat):Prop:=∃z,aB a b u z/\b z=z
theorem lH:score a b N=2*cnt N (λm=>bB a b m/\bq a b m)+cnt N (λu=>a u=u/\hG a b u):=by
 unfold score cnt RL OL hG;congr 1
 .congr 2;refine QH λx _=>?_;simp
 congr 1;refine QH λx _=>?_;simp
theorem rA{a2 G:Nat->Nat}(T:cv N a b)(U:∀x,x<N->a2 x=a x)(V:∀x,x<N->G x=b x){x y:Nat}(Z:x<N)(h:aB a b x y):aB a2 G x y:=λS h1 J =>
 (h (λz=>z<N/\S z) ⟨Z,h1⟩ λz ⟨D,O⟩=>⟨⟨T.fl z D,U z D▸(J z O).1⟩,⟨T.gl z D,V z D▸(J z O).2⟩⟩).2
theorem cv.congr{a2 J:Nat->Nat}(T:cv N a b)(D:∀x,x<N->a2 x=a x)(G:∀x,x<N->J x=b x):cv N a2 J :=
 ⟨λx h=>by rw[D x h];exact T.fl x h,λx h=>by rw[G x h];exact T.gl x h,λx h=>by rw[D x h,D _ (T.fl x h)];exact T.ff x h,λx h=>by rw[G x h,G _ (T.gl x h)];exact T.gg x h⟩
theorem di{a2 b2:Nat->Nat}(T:cv N a b)(V:∀x,x<N->a2 x=a x)(O:∀x,x<N->b2 x=b x):score a2 b2 N=score a b N:=by
 have T2:=T.congr V O;have Z:∀x y,x<N->(aB a2 b2 x y↔aB a b x y):=λx y hx=>⟨λh=>rA T2 (λz hz=>(V z hz).symm) (λz hz=>(O z hz).symm) hx h,λh=>rA T V O hx h⟩
 rw[lH,lH];congr 1
 .congr 1;refine jr λm hm=>?_;unfold bB bq;constructor
  .rintro⟨U,D⟩;refine⟨λy G=>U y ((Z m y hm).mpr G),λy G=>?_⟩;have J:=G.lt T hm;have:=D y ((Z m y hm).mpr G);rwa[V y J,O y J]at this
  rintro⟨U,D⟩;refine⟨λy G=>U y ((Z m y hm).mp G),λy G=>?_⟩;have G:=(Z m y hm).mp G;have J:=G.lt T hm;rw[V y J,O y J];exact D y G
 refine jr λu hu=>?_;unfold hG;rw[V u hu];constructor
 .rintro⟨U,z,D,h3⟩;have D:=(Z u z hu).mp D;exact⟨U,z,D,by rwa[O z (D.lt T hu)]at h3⟩
 rintro⟨U,z,D,h3⟩;exact⟨U,z,(Z u z hu).mpr D,by rw[O z (D.lt T hu)];exact h3⟩
noncomputable def link(a:Nat->Nat)(u v x:Nat):Nat:=if x=u then v else if x=v then u else a x
section
variable {u v:Nat}
theorem gP(T:cv N a b)(G:u<N)(D:v<N)(J:a u=u)(O:a v=v):cv N (link a u v) b:=by
 refine⟨λx h=>?_,T.gl,λx h=>?_,T.gg⟩
 .have:=T.fl x h;unfold link
  split
  .exact D
  split <;> assumption
 have:=T.ff x h;have:=T.fl x h;unfold link;grind
theorem ub(T:cv N a b)(Z:u<N)(hv:v<N)(J:a u=u)(O:a v=v)(x y:Nat):aB (link a u v) b x y↔aB a b x y\/(aB a b x u/\aB a b v y)\/(aB a b x v/\aB a b u y):=by
 have up:∀{x y},aB a b x y->aB (link a u v) b x y:=λ{x y} h S D G=>h S D λz hz=>by
  have:=G z hz;unfold link at this;refine⟨?_,this.2⟩;by_cases e1:z=u
  .rw[e1,J];rwa[e1]at hz
  by_cases e2:z=v
  .rw[e2,O];rwa[e2]at hz
  simpa[e1,e2]using this.1
 have U:aB (link a u v) b u v:=by
  have:=(aB.refl (f:=link a u v) (g:=b) u).sf;rwa[show link a u v u=v by unfold link;rw[Uo rfl]]at this
 have V:aB (link a u v) b v u:=by
  have:=(aB.refl (f:=link a u v) (g:=b) v).sf;by_cases e:v=u
  .subst e;exact aB.refl _
  rwa[show link a u v v=u by unfold link;rw[Uk e,Uo rfl]]at this
 constructor
 .intro h;refine h (λy=>aB a b x y\/(aB a b x u/\aB a b v y)\/(aB a b x v/\aB a b u y)) (.inl (aB.refl _)) λz hz=>⟨?_,?_⟩
  .show aB a b x (link a u v z)\/(aB a b x u/\aB a b v (link a u v z))\/(aB a b x v/\aB a b u (link a u v z))
   unfold link;by_cases e1:z=u
   .subst e1;rw[Uo rfl];rcases hz with D|⟨D,G⟩|⟨D,G⟩
    .exact .inr (.inl ⟨D,aB.refl _⟩)
    .exact .inr (.inl ⟨D,aB.refl _⟩)
    exact .inl D
   rw[Uk e1];by_cases e2:z=v
   .subst e2;rw[Uo rfl];rcases hz with D|⟨D,G⟩|⟨D,G⟩
    .exact .inr (.inr ⟨D,aB.refl _⟩)
    .exact .inl D
    exact .inr (.inr ⟨D,aB.refl _⟩)
   rw[Uk e2];rcases hz with D|⟨D,G⟩|⟨D,G⟩
   .exact .inl D.sf
   .exact .inr (.inl ⟨D,G.sf⟩)
   exact .inr (.inr ⟨D,G.sf⟩)
  rcases hz with D|⟨D,G⟩|⟨D,G⟩
  .exact .inl D.sg
  .exact .inr (.inl ⟨D,G.sg⟩)
  exact .inr (.inr ⟨D,G.sg⟩)
 rintro(h|⟨D,G⟩|⟨D,G⟩)
 .exact up h
 .exact((up D).trans U).trans (up G)
 exact((up D).trans V).trans (up G)
noncomputable def pt(a b:Nat->Nat)(u:Nat):Option Nat:=if h:∃v,v≠u/\aB a b u v/\a v=v then some (choose h)else none
theorem dm(T:cv N a b)(O:u<N)(U:a u=u):pt a b u=none↔hG a b u:=by
 unfold pt;constructor
 .intro h;by_cases c:hG a b u
  .exact c
  obtain⟨v,D,G,J,_⟩:=ng T O U c;rw[Wr ⟨v,D,G,J⟩]at h;cases h
 rintro⟨z,V,Z⟩;rw[dif_neg];rintro⟨v,D,G,J⟩;exact D (m9 T O U G J V Z)
theorem cw(T:cv N a b)(U:u<N)(V:a u=u):pt a b u=Yc v↔v≠u/\aB a b u v/\a v=v:=by
 constructor
 .intro h;unfold pt at h
  split at h
  .rename_i D;have:=choose_spec D;rw[Option.some.inj h]at this;exact this
  cases h
 rintro⟨G,J,O⟩;have no:¬hG a b u:=λ⟨z,z1,z2⟩=>G (m9 T U V J O z1 z2);obtain⟨w,w1,w2,w3,Z⟩:=ng T U V no;have D:∃v,v≠u/\aB a b u v/\a v=v:=⟨v,G,J,O⟩
 unfold pt;rw[Wr D];obtain⟨q1,q2,q3⟩:=choose_spec D;have e1:=(Z v J O).resolve_left G;have e2:=(Z _ q2 q3).resolve_left q1;rw[e2,e1]
theorem gh(T:cv N a b)(D:u<N)(G:a u=u)(h:pt a b u=Yc v):v<N/\a v=v/\v≠u/\pt a b v=Yc u:=by
 obtain⟨J,O,U⟩:=(cw T D G).mp h;have V:=O.lt T D;exact⟨V,U,J,(cw T V U).mpr ⟨J.symm,O.symm T D,G⟩⟩
theorem Gk(T:cv N a b)(D:u<N)(G:a u=u)(J:a v=v)(h:aB a b u v):v=u\/pt a b u=Yc v:=by
 by_cases e:v=u
 .exact .inl e
 exact .inr ((cw T D G).mpr ⟨e,h,J⟩)
noncomputable def dl(a b:Nat->Nat)(u v:Nat):Int:=if pt a b u=Yc v then 2 else if pt a b u=none/\pt a b v=none then -2 else 0
theorem lI(T:cv N a b)(U:u<N)(V:v<N)(Z:a u=u)(av:a v=v)(G:u≠v){w:Nat}(hw:w<N)(J:a w=w)(wu:w≠u)(wv:w≠v) :
  pt (link a u v) b w=if pt a b w=Yc u then pt a b v else if pt a b w=Yc v then pt a b u else pt a b w:=by
 have O:=gP T U V Z av;have lw:∀{x},x≠u->x≠v->link a u v x=a x:=λ{x} h1 h2=>by unfold link;rw[Uk h1,Uk h2]
 have lu:link a u v u=v:=by unfold link;rw[Uo rfl]
 have lv:link a u v v=u:=by unfold link;rw[Uk G.symm,Uo rfl]
 have law:link a u v w=w:=by rw[lw wu wv];exact J
 have cl:=ub T U V Z av;by_cases c1:pt a b w=Yc u
 .rw[Uo c1];obtain⟨_,_,_,Ny⟩:=gh T hw J c1;obtain⟨d1,d2,d3⟩:=(cw T hw J).mp c1;cases hp:pt a b v with
  |none =>
   obtain⟨z,z1,z2⟩:=(dm T V av).mp hp;exact(dm O hw law).mpr ⟨z,(cl w z).mpr (.inr (.inl ⟨d2,z1⟩)),z2⟩
  |some v' =>
   obtain⟨e1,e2,e3⟩:=(cw T V av).mp hp;obtain⟨_,_,_,D⟩:=gh T V av hp;have n1:v'≠w:=λz=>by rw[z,c1]at D;exact G (Option.some.inj D)
   have n2:v'≠u:=λz=>by rw[z,Ny]at D;exact wv (Option.some.inj D)
   exact(cw O hw law).mpr ⟨n1,(cl w v').mpr (.inr (.inl ⟨d2,e2⟩)),by rw[lw n2 e1];exact e3⟩
 rw[Uk c1];by_cases c2:pt a b w=Yc v
 .rw[Uo c2];obtain⟨_,_,_,c2s⟩:=gh T hw J c2;obtain⟨d1,d2,d3⟩:=(cw T hw J).mp c2;cases hp:pt a b u with
  |none =>
   obtain⟨z,z1,z2⟩:=(dm T U Z).mp hp;exact(dm O hw law).mpr ⟨z,(cl w z).mpr (.inr (.inr ⟨d2,z1⟩)),z2⟩
  |some u' =>
   obtain⟨e1,e2,e3⟩:=(cw T U Z).mp hp;obtain⟨_,_,_,D⟩:=gh T U Z hp;have n1:u'≠w:=λz=>by rw[z,c2]at D;exact G (Option.some.inj D).symm
   have n2:u'≠v:=λz=>by rw[z,c2s]at D;exact wu (Option.some.inj D)
   exact(cw O hw law).mpr ⟨n1,(cl w u').mpr (.inr (.inr ⟨d2,e2⟩)),by rw[lw e1 n2];exact e3⟩
 rw[Uk c2];cases hp:pt a b w with
 |none =>
  obtain⟨z,z1,z2⟩:=(dm T hw J).mp hp;exact(dm O hw law).mpr ⟨z,(cl w z).mpr (.inl z1),z2⟩
 |some w' =>
  obtain⟨e1,e2,e3⟩:=(cw T hw J).mp hp;have n1:w'≠u:=λz=>c1 (by rw[hp,z]);have n2:w'≠v:=λz=>c2 (by rw[hp,z]);exact(cw O hw law).mpr ⟨e1,(cl w w').mpr (.inl e2),by rw[lw n1 n2];exact e3⟩
theorem dq(T:cv N a b)(hu:u<N)(hv:v<N)(au:a u=u)(av:a v=v)(Kl:u≠v):(score (link a u v) b N:Int)=score a b N+dl a b u v:=by
 have T2:=gP T hu hv au av;have lw:∀{x},x≠u->x≠v->link a u v x=a x:=λ{x} D G=>by unfold link;rw[Uk D,Uk G]
 have lu:link a u v u=v:=by unfold link;rw[Uo rfl]
 have lv:link a u v v=u:=by unfold link;rw[Uk Kl.symm,Uo rfl]
 have cl:=ub T hu hv au av;have lo:∀x,link a u v x=x↔a x=x/\x≠u/\x≠v:=λx=>by
  unfold link;constructor
  .intro h
   split at h
   .rename_i e;exact Us (h.trans e).symm Kl
   split at h
   .rename_i e;exact Us (h.trans e) Kl
   exact⟨h,by assumption,by assumption⟩
  rintro⟨D,G,h3⟩;rw[Uk G,Uk h3];exact D
 have od:∀w,w<N->((link a u v w=w/\hG (link a u v) b w)↔(a w=w/\w≠u/\w≠v/\(if pt a b w=Yc u then pt a b v else if pt a b w=Yc v then pt a b u else pt a b w)=none)):=λw hw=>by
  constructor
  .rintro⟨D,G⟩;obtain⟨h3,J,h5⟩:=(lo w).mp D;refine⟨h3,J,h5,?_⟩;rw[<-lI T hu hv au av Kl hw h3 J h5];exact(dm T2 hw D).mpr G
  rintro⟨h3,J,h5,h6⟩;have D:=(lo w).mpr ⟨h3,J,h5⟩;rw[<-lI T hu hv au av Kl hw h3 J h5]at h6;exact⟨D,(dm T2 hw D).mp h6⟩
 have od0:∀w,w<N->((a w=w/\hG a b w)↔(a w=w/\pt a b w=none)):=λw hw=>by
  constructor
  .rintro⟨D,G⟩;exact⟨D,(dm T hw D).mpr G⟩
  rintro⟨D,G⟩;exact⟨D,(dm T hw D).mp G⟩
 have sy:∀{x y},x<N->a x=x->pt a b x=Yc y->pt a b y=Yc x:=λhx ax h=>(gh T hx ax h).2.2.2;rw[lH,lH];have far:∀m,m<N->¬aB a b m u->¬aB a b m v->((bB (link a u v) b m/\bq (link a u v) b m)↔(bB a b m/\bq a b m)):=λm hm V n2=>by
  have cc:∀y,aB (link a u v) b m y↔aB a b m y:=λy=>by
   rw[cl m y];constructor
   .rintro(h|⟨h,_⟩|⟨h,_⟩)
    .exact h
    .exact Us h V
    exact Us h n2
   exact .inl
  unfold bB bq;constructor
  .rintro⟨D,G⟩;refine⟨λy Z=>D y ((cc y).mpr Z),λy Z=>?_⟩;have:=G y ((cc y).mpr Z);rwa[lw (λz=>V (z▸Z)) (λz=>n2 (z▸Z))]at this
  rintro⟨D,G⟩;refine⟨λy Z=>D y ((cc y).mp Z),λy Z=>?_⟩;have Z:=(cc y).mp Z;rw[lw (λz=>V (z▸Z)) (λz=>n2 (z▸Z))];exact G y Z
 have near:∀m,aB a b m u\/aB a b m v->¬bq a b m:=λm h w=>by
  rcases h with h|h
  .exact(w u h).1 au
  exact(w v h).1 av
 have rs:(∃z,(aB (link a u v) b u z/\(link a u v z=z\/b z=z)))->cnt N (λm=>bB (link a u v) b m/\bq (link a u v) b m)=cnt N (λm=>bB a b m/\bq a b m):=λ⟨z,z1,z2⟩=>jr λm hm=>by
  by_cases V:aB a b m u\/aB a b m v
  .constructor
   .rintro⟨_,G⟩;have mz:aB (link a u v) b m z:=by
     rcases V with V|V
     .exact aB.trans ((cl m u).mpr (.inl V)) z1
     exact aB.trans ((cl m u).mpr (.inr (.inr ⟨V,aB.refl _⟩))) z1
    have:=G z mz;rcases z2 with z2|z2
    .exact Us z2 this.1
    exact Us z2 this.2
   rintro⟨_,G⟩;exact Us G (near m V)
  exact far m hm (λz=>V (.inl z)) (λz=>V (.inr z))
 unfold dl;by_cases c1:pt a b u=Yc v
 .have Ny:=sy hu au c1;rw[Uo c1];obtain⟨_,cuv,_⟩:=(cw T hu au).mp c1;have nou:¬hG a b u:=λh=>by rw[(dm T hu au).mpr h]at c1;cases c1
  have e1:cnt N (λw=>link a u v w=w/\hG (link a u v) b w)=cnt N (λw=>a w=w/\hG a b w):=jr λw hw=>by
   rw[od w hw,od0 w hw];constructor
   .rintro⟨D,G,h3,J⟩;refine⟨D,?_⟩
    split at J
    .rename_i e;have:=sy hw D e;rw[c1]at this;exact Us (Option.some.inj this).symm h3
    split at J
    .rename_i e;have:=sy hw D e;rw[Ny]at this;exact Us (Option.some.inj this).symm G
    exact J
   rintro⟨D,G⟩;refine⟨D,λz=>(by rw[z,c1]at G;cases G),λz=>(by rw[z,Ny]at G;cases G),?_⟩;rw[G];rfl
  obtain⟨m0,m1,m2,m3⟩:=kK T hu;have e2:cnt N (λm=>bB (link a u v) b m/\bq (link a u v) b m)=cnt N (λm=>bB a b m/\bq a b m)+1:=by
   have m0u:=m1.symm T hu;refine jH m2 (λz=>near m0 (.inl m0u) z.2) λm hm=>?_;by_cases V:aB a b m u
   .have cc:∀y,aB (link a u v) b m y↔aB a b m y:=λy=>by
     rw[cl m y];constructor
     .rintro(h|⟨h,h'⟩|⟨h,h'⟩)
      .exact h
      .exact(V.trans cuv).trans h'
      exact V.trans h'
     exact .inl
    have wh:bq (link a u v) b m:=λy Z=>by
     have Z:=(cc y).mp Z;have uy:aB a b u y:=(V.symm T hm).trans Z;refine⟨λz=>?_,λz=>nou ⟨y,uy,z⟩⟩;obtain⟨z1,z2,z3⟩:=(lo y).mp z;rcases Gk T hu au z1 uy with e|e
     .exact z2 e
     rw[c1]at e;exact z3 (Option.some.inj e).symm
    constructor
    .rintro⟨D,_⟩;have q1:=D m0 ((cc m0).mpr (V.trans m1));have q2:=m3 m (m0u.trans (V.symm T hm));exact .inr (by omega)
    rintro(h|h)
    .exact Us h.2 (near m (.inl V))
    subst h;exact⟨λy Z=>m3 y ((cc y).mp Z),wh⟩
   have n2:¬aB a b m v:=λz=>V (z.trans (cuv.symm T hu));rw[far m hm V n2];constructor
   .exact .inl
   rintro(h|h)
   .exact h
   subst h;exact Us m0u V
  rw[e1,e2];omega
 rw[Uk c1];have c1v:pt a b v≠Yc u:=λz=>c1 (sy hv av z);by_cases c2:pt a b u=none/\pt a b v=none
 .obtain⟨c2,c3⟩:=c2;rw[Uo ⟨c2,c3⟩];have nw:∀w,w<N->a w=w->pt a b w≠Yc u/\pt a b w≠Yc v:=λw hw aw=>⟨λz=>(by have:=sy hw aw z;rw[c2]at this;cases this),λz=>(by have:=sy hw aw z;rw[c3]at this;cases this)⟩
  have e1:cnt N (λw=>a w=w/\hG a b w)=cnt N (λw=>(link a u v w=w/\hG (link a u v) b w)\/w=u)+1:=by
   refine jH hv ?_ λw hw=>?_
   .rintro(h|h)
    .exact((lo v).mp h.1).2.2 rfl
    exact Kl h.symm
   rw[od w hw,od0 w hw];constructor
   .rintro⟨D,G⟩;by_cases q1:w=u
    .exact .inl (.inr q1)
    by_cases q2:w=v
    .exact .inr q2
    refine .inl (.inl ⟨D,q1,q2,?_⟩);rw[G];rfl
   rintro((⟨D,G,h3,J⟩|h)|h)
   .rw[Uk (nw w hw D).1,Uk (nw w hw D).2]at J;exact⟨D,J⟩
   .subst h;exact⟨au,c2⟩
   subst h;exact⟨av,c3⟩
  have e2:cnt N (λw=>(link a u v w=w/\hG (link a u v) b w)\/w=u)=cnt N (λw=>link a u v w=w/\hG (link a u v) b w)+1 :=
   jH hu (λz=>((lo u).mp z.1).2.1 rfl) λw hw=>Iff.rfl
  have e3:=rs (by
   obtain⟨z,z1,z2⟩:=(dm T hu au).mp c2;exact⟨z,(cl u z).mpr (.inl z1),.inr z2⟩)
  rw[e1,e2,e3];omega
 rw[Uk c2];cases U:pt a b u with
 |some u' =>
  obtain⟨u1,u2,u3,u4⟩:=gh T hu au U;have nuv:u'≠v:=λz=>c1 (by rw[U,z]);have e3:=rs ⟨u',(cl u u').mpr (.inl ((cw T hu au).mp U).2.1),.inl ((lo u').mpr ⟨u2,u3,nuv⟩)⟩;rw[e3];cases O:pt a b v with
  |some v' =>
   obtain⟨v1,v2,v3,v4⟩:=gh T hv av O;have e1:cnt N (λw=>link a u v w=w/\hG (link a u v) b w)=cnt N (λw=>a w=w/\hG a b w):=jr λw hw=>by
    rw[od w hw,od0 w hw];constructor
    .rintro⟨D,G,h3,J⟩;refine⟨D,?_⟩
     split at J
     .rw[O]at J;cases J
     split at J
     .rw[U]at J;cases J
     exact J
    rintro⟨D,G⟩;refine⟨D,λz=>(by rw[z,U]at G;cases G),λz=>(by rw[z,O]at G;cases G),?_⟩;rw[G];rfl
   rw[e1];omega
  |none =>
   have nw:∀w,w<N->a w=w->pt a b w≠Yc v:=λw hw aw z=>by have:=sy hw aw z;rw[O]at this;cases this
   have e1:cnt N (λw=>a w=w/\hG a b w)=cnt N (λw=>a w=w/\hG a b w/\w≠v)+1:=by
    refine jH hv (λz=>z.2.2 rfl) λw hw=>?_;constructor
    .rintro⟨D,G⟩;by_cases q:w=v
     .exact .inr q
     exact .inl ⟨D,G,q⟩
    rintro(⟨D,G,_⟩|h)
    .exact⟨D,G⟩
    subst h;exact⟨av,(dm T hw av).mp O⟩
   have e2:cnt N (λw=>link a u v w=w/\hG (link a u v) b w)=cnt N (λw=>a w=w/\hG a b w/\w≠v)+1:=by
    refine jH u1 (λz=>by have:=(dm T u1 u2).mpr z.2.1;rw[u4]at this;cases this) λw hw=>?_;rw[od w hw];constructor
    .rintro⟨D,G,h3,J⟩
     split at J
     .rename_i e;have:=sy hw D e;rw[U]at this;exact .inr (Option.some.inj this).symm
     rw[Uk (nw w hw D)]at J;exact .inl ⟨D,(dm T hw D).mp J,h3⟩
    rintro(⟨D,G,h3⟩|h)
    .have J:=(dm T hw D).mpr G;refine⟨D,λz=>(by rw[z,U]at J;cases J),h3,?_⟩;rw[J];rfl
    subst h;refine⟨u2,u3,nuv,?_⟩;rw[Uo u4];exact O
   rw[e1,e2];omega
 |none =>
  cases O:pt a b v with
  |none=>exact Us ⟨U,O⟩ c2
  |some v' =>
   obtain⟨v1,v2,v3,v4⟩:=gh T hv av O;have nvu:v'≠u:=λz=>c1v (by rw[O,z]);have e3:=rs ⟨v',(cl u v').mpr (.inr (.inl ⟨aB.refl _,((cw T hv av).mp O).2.1⟩)),.inl ((lo v').mpr ⟨v2,nvu,v3⟩)⟩;rw[e3];have nw:∀w,w<N->a w=w->pt a b w≠Yc u:=λw hw aw z=>by have:=sy hw aw z;rw[U]at this;cases this
   have e1:cnt N (λw=>a w=w/\hG a b w)=cnt N (λw=>a w=w/\hG a b w/\w≠u)+1:=by
    refine jH hu (λz=>z.2.2 rfl) λw hw=>?_;constructor
    .rintro⟨D,G⟩;by_cases q:w=u
     .exact .inr q
     exact .inl ⟨D,G,q⟩
    rintro(⟨D,G,_⟩|h)
    .exact⟨D,G⟩
    subst h;exact⟨au,(dm T hw au).mp U⟩
   have e2:cnt N (λw=>link a u v w=w/\hG (link a u v) b w)=cnt N (λw=>a w=w/\hG a b w/\w≠u)+1:=by
    refine jH v1 (λz=>by have:=(dm T v1 v2).mpr z.2.1;rw[v4]at this;cases this) λw hw=>?_;rw[od w hw];constructor
    .rintro⟨D,G,h3,J⟩;rw[Uk (nw w hw D)]at J
     split at J
     .rename_i e;have:=sy hw D e;rw[O]at this;exact .inr (Option.some.inj this).symm
     exact .inl ⟨D,(dm T hw D).mp J,G⟩
    rintro(⟨D,G,h3⟩|h)
    .have J:=(dm T hw D).mpr G;refine⟨D,h3,λz=>(by rw[z,O]at J;cases J),?_⟩;rw[J];rfl
    subst h;refine⟨v2,nvu,v3,?_⟩;rw[Uk (nw _ v1 v2),Uo v4];exact U
   rw[e1,e2];omega
end
end Th
namespace xc
open PySem PySem.Spec PyProof.Rows
open Sem (wp)
open AutoSeq1 (wpAny_loadPart')
section
variable {prog:Ux}{w:UA}{A:UG}{E:Uj->Uq->Prop}{s:Uq}
theorem pV{G t:Um}{i:Nat}{items:Array Uj}{x:Uj}{Q:Uj->Uq->Prop}(D:s.heap.IsTupleIter G t i)(V:s.heap.IsTuple t items)(Z:items[i]?=Yc x)
  (hQ:∀h',h'.IsTupleIter G t (i+1)->Heap.SameBut G s.heap h'->Q x { s with heap:=h' }):wpAny (model prog w) A (Builtin.SmallTypes.nextOf (.ref G)) Q E s:=by
 obtain⟨o,J,hc,hd⟩:=id D;obtain⟨ol,O,_,nl,U⟩:=V;unfold Builtin.SmallTypes.nextOf;refine Uh (wpAny_callSpecial?_slot (name:=Str.ofString "__next__") D.typeIs F.slot_tuple_iterator_next (UN F.slot_tuple_iterator_next D.typeIs F.entry_tuple_iterator_next ?_ (F.args_tuple_iterator_next_1 _)));show wpAny _ _ (field (.ref G) 0 >>= _) _ _ s;refine Uh (UW J hd (x:=.ref t) rfl ?_);show wpAny _ _ (if(Value.ref t==Value.none)=true then _ else _) _ _ s;rw[Uk (show¬((Value.ref t==Value.none)=true)from O4)];show wpAny _ _ (field (.ref G) 1 >>= _) _ _ s;refine Uh (UW J hd (x:=.int i 0) rfl ?_);show wpAny _ _ (seqItems? (.ref t) >>= _) _ _ s;refine Uh (Vh O U ?_);simp only[Pq,Z];refine Uh (VE J hd (by simp) (Ur ⟨x,rfl,Ur (hQ _ ?_ (Heap.SameBut.update ..))⟩));exact⟨_,Qz _ J (Obj.isFreed_of_fields (Obj.data_mapFields hd _)),(Obj.cls_mapFields ..).trans hc,by
  rw[Obj.data_mapFields hd];simp[rawInt]⟩
theorem rB{G t:Um}{i:Nat}{items:Array Uj}{Q:Uj->Uq->Prop}(V:A.handled=none)(D:s.heap.IsTupleIter G t i)(Z:s.heap.IsTuple t items)(hx:items[i]?=none)
  (hE:∀h' e,Heap.ExtBut G s.heap h'->(∃o,h'.get? e=Yc o/\o.cls=.type "StopIteration")->E (.ref e) { s with heap:=h' }):wpAny (model prog w) A (Builtin.SmallTypes.nextOf (.ref G)) Q E s:=by
 obtain⟨o,J,hc,hd⟩:=id D;obtain⟨ol,O,_,nl,U⟩:=Z;unfold Builtin.SmallTypes.nextOf;refine Uh (wpAny_callSpecial?_slot (name:=Str.ofString "__next__") D.typeIs F.slot_tuple_iterator_next (UN F.slot_tuple_iterator_next D.typeIs F.entry_tuple_iterator_next ?_ (F.args_tuple_iterator_next_1 _)));show wpAny _ _ (field (.ref G) 0 >>= _) _ _ s;refine Uh (UW J hd (x:=.ref t) rfl ?_);show wpAny _ _ (if(Value.ref t==Value.none)=true then _ else _) _ _ s;rw[Uk (show¬((Value.ref t==Value.none)=true)from O4)];show wpAny _ _ (field (.ref G) 1 >>= _) _ _ s;refine Uh (UW J hd (x:=.int i 0) rfl ?_);show wpAny _ _ (seqItems? (.ref t) >>= _) _ _ s;refine Uh (Vh O U ?_);simp only[Pq,hx];refine Uh (Vq (Uh (VE J hd (by simp) ?_)));show wpAny _ _ (newExc (.type "StopIteration") [] >>= _) _ _ _;refine Uh ?_;simp only[newExc,XE];refine Uh (UK ?_ (by size_fits));refine Uh (m:=V1 _ _) (WK (a:=Value.none) (by first|rfl|(simp only[V1];rfl)) ?_);refine UK ?_ (by size_fits);simp only[raiseNew];refine Uh (wpAny_handled ?_)
 first|rw[show A.in1.handled=none from V]|rw[V]
 refine Uh (Ur (wpAny_throw ?_));exact hE _ _ (((Heap.SameBut.update ..).extBut.push _).push _) ⟨_,O6 _ rfl,rfl⟩
theorem sY{e it l:Um}{i:Nat}{items:Array Uj}{x old:Uj}{Q:Uj->Uq->Prop}
  (he:Wd s.heap e it i old) (hit:s.heap.IsTupleIter it l i) (hl:s.heap.IsTuple l items) (hx:items[i]?=Yc x) (jj:e≠it)
  (hQ:∀h',Xs h' e it ((i:Int)+1) x s.heap.objs.size->h'.IsTupleIter it l (i+1)->h'.get? s.heap.objs.size=Yc { cls:=.type "tuple",data:=.seq #[.int i s.toks,x] }->h'.objs.size=s.heap.objs.size+1 ->
   (∀b o,b≠e->b≠it->s.heap.get? b=Yc o->h'.get? b=Yc o)->Q (.ref s.heap.objs.size) { s with heap:=h',toks:=s.toks+1 }) :
  wpAny (model prog w) A (Builtin.«enumerate.__next__» ⟨[.ref e],[]⟩) (λfin s'=>∃v,fin=.done (.ret v)/\Q v s') E s:=by
 obtain⟨hp,g,d,tk,os⟩:=s;show wpAny _ _ (field (.ref e) 2 >>= _) _ _ _;refine Uh (UW he rfl (x:=.ref it) rfl ?_);refine Uh (pV hit hl hx λZ Dh D=>?_)
 replace D:Heap.SameBut it hp Z:=D
 have Au:Wd Z e it i old:=(D.2 e jj).trans he;show wpAny _ _ (field (.ref e) 3 >>= _) _ _ ⟨Z,g,d,tk,os⟩;refine Uh (UW Au rfl (x:=rawInt i) rfl ?_);show wpAny _ _ (field (.ref e) 4 >>= _) _ _ ⟨Z,g,d,tk,os⟩;refine Uh (UW Au rfl (x:=.none) rfl ?_);show wpAny _ _ (mkInt i >>= _) _ _ ⟨Z,g,d,tk,os⟩;refine Uh (wpAny_mkInt ?_);show wpAny _ _ (XF (.ref e) 3 (rawInt ((i:Int)+1)) >>= _) _ _ ⟨Z,g,d,tk+1,os⟩;refine Uh (Vk Au (by simp) λh₂ Av G=>?_)
 replace G:Heap.SameBut e Z h₂:=G
 replace Av:Wd h₂ e it ((i:Int)+1) old:=Av
 show wpAny _ _ (XF (.ref e) 4 .none >>= _) _ _ ⟨h₂,g,d,tk+1,os⟩;refine Uh (Vk Av (by simp) λh₃ Aw J=>?_)
 replace J:Heap.SameBut e h₂ h₃:=J
 replace Aw:Wd h₃ e it ((i:Int)+1) old:=Aw
 show wpAny _ _ (XE [.int i tk,x] >>= _) _ _ ⟨h₃,g,d,tk+1,os⟩;refine Uh (V2 ?_);have Ax:Wd (h₃.push { cls:=.type "tuple",data:=.seq #[.int i tk,x] }) e it ((i:Int)+1) old:=OJ _ Aw;generalize xf:h₃.push { cls:=.type "tuple",data:=.seq #[.int i tk,x] }=h₄ at Ax;have hsz:h₃.objs.size=hp.objs.size:=by rw[J.1,G.1,D.1]
 have hel:e<hp.objs.size:=O3 he;have LH:h₄.get? hp.objs.size=Yc { cls:=.type "tuple",data:=.seq #[.int i tk,x] }:=by rw[<- xf,<- hsz];exact O6 _ rfl
 have LI:h₄.objs.size=hp.objs.size+1:=by rw[<-xf,QG,hsz]
 have LJ:∀b o,b≠e->b≠it->hp.get? b=Yc o->h₄.get? b=Yc o:=λb o Gm hbi hb=>by
  rw[<-xf];exact OJ _ (J.extBut b o Gm (G.extBut b o Gm (D.extBut b o hbi hb)))
 have IS:h₄.IsTupleIter it l (i+1):=by
  rw[<-xf];obtain⟨o,ho,r⟩:=(Dh.extBut G.extBut (Ne.symm jj)).extBut J.extBut (Ne.symm jj);exact⟨o,OJ _ ho,r⟩
 show wpAny _ _ (Builtin.SmallTypes.ownedTupleIsFree (.ref e) >>= _) _ _ ⟨h₄,g,d,tk+1,os⟩;rw[hsz];clear xf Aw J Av G Au D Dh hsz h₃ h₂ Z;refine Uh ?_;unfold Builtin.SmallTypes.ownedTupleIsFree;refine Uh (UW Ax rfl (x:=.none) rfl (Ur ?_));simp only[VW];refine Uh (Vq ?_);refine Uh (UW Ax rfl (x:=old) rfl ?_);refine Uh (Vk Ax (by simp) λh₅ Di O=>?_)
 replace O:Heap.SameBut e h₄ h₅:=O
 replace Di:Wd h₅ e it ((i:Int)+1) x:=Di
 show wpAny _ _ (Builtin.SmallTypes.ownedTupleHandOut (.ref e) (.ref hp.objs.size) >>= _) _ _ ⟨h₅,g,d,tk+1,os⟩;refine Uh ?_;unfold Builtin.SmallTypes.ownedTupleHandOut;refine Uh (Vk Di (by simp) λh₆ Dj U=>?_)
 replace U:Heap.SameBut e h₅ h₆:=U
 replace Dj:Xs h₆ e it ((i:Int)+1) x hp.objs.size:=Dj
 refine Vk Dj (by simp) λh₇ Dk V=>?_
 replace V:Heap.SameBut e h₆ h₇:=V
 replace Dk:Xs h₇ e it ((i:Int)+1) x hp.objs.size:=Dk
 refine Uh (VR (Ur ⟨_,rfl,hQ h₇ Dk ?_ ?_ ?_ ?_⟩))
 .exact((IS.extBut O.extBut (Ne.symm jj)).extBut U.extBut (Ne.symm jj)).extBut V.extBut (Ne.symm jj)
 .exact V.extBut _ _ (QS hel) (U.extBut _ _ (QS hel) (O.extBut _ _ (QS hel) LH))
 .rw[V.1,U.1,O.1,LI]
 exactλb o Gm hbi hb=>V.extBut b o Gm (U.extBut b o Gm (O.extBut b o Gm (LJ b o Gm hbi hb)))
theorem nu{e D l:Um}{i:Nat}{items:Array Uj}{x old:Uj}{Q:Option Uj->Uq->Prop}
  (O:Wd s.heap e D i old) (G:s.heap.IsTupleIter D l i) (V:s.heap.IsTuple l items) (Z:items[i]?=Yc x) (J:e≠D)
  (hQ:∀h',Xs h' e D ((i:Int)+1) x s.heap.objs.size->h'.IsTupleIter D l (i+1)->h'.get? s.heap.objs.size=Yc { cls:=.type "tuple",data:=.seq #[.int i s.toks,x] }->h'.objs.size=s.heap.objs.size+1 ->
   (∀b o,b≠e->b≠D->s.heap.get? b=Yc o->h'.get? b=Yc o)->Q (Yc (.ref s.heap.objs.size)) { s with heap:=h',toks:=s.toks+1 }) :
  wpAny (model prog w) A (pyNext (.ref e)) Q E s:=by
 have U:s.TypeIs (.ref e) "enumerate":=⟨_,O,rfl⟩
 unfold pyNext;exact Uh (Vd (wpAny_callSpecial?_slot (name:=Str.ofString "__next__") U F.slot_enumerate_next
  (UN F.slot_enumerate_next U F.entry_enumerate_next (sY O G V Z J λh' a b c d k=>Ur (hQ h' a b c d k)) (F.args_enumerate_next_1 _))))
theorem oD{e D l:Um}{i:Nat}{items:Array Uj}{old:Uj}{Q:Option Uj->Uq->Prop}(Z:A.handled=none)
  (U:Wd s.heap e D i old) (G:s.heap.IsTupleIter D l i) (hl:s.heap.IsTuple l items) (hx:items[i]?=none)
  (hQ:∀h',Heap.ExtBut D s.heap h'->Q none { s with heap:=h' }):wpAny (model prog w) A (pyNext (.ref e)) Q E s:=by
 have V:s.TypeIs (.ref e) "enumerate":=⟨_,U,rfl⟩
 unfold pyNext;refine Uh (Vd (wpAny_callSpecial?_slot (name:=Str.ofString "__next__") V F.slot_enumerate_next (UN F.slot_enumerate_next V F.entry_enumerate_next ?_ (F.args_enumerate_next_1 _))));show wpAny _ _ (field (.ref e) 2 >>= _) _ _ _;refine Uh (UW U rfl (x:=.ref D) rfl ?_);refine Uh (rB Z G hl hx λh' x J O=>?_);obtain⟨o,ho,hc⟩:=O;refine Uh (Vi (T:="StopIteration") (b:=true) ⟨o,ho,hc⟩ isSubtype_stop ?_);exact Ur (hQ _ J)
theorem rC(l:Um)(items:Array Uj)(n:Nat)(G:Option Um)(U:Array (Option Uj)) :
  Meets (Builtin.«enumerate.__new__» ⟨[.type "enumerate",.ref l],[]⟩) (λ_ R s=>s.heap.get? l=Yc { cls:=.type "tuple",dict:=G,data:=.seq items n,slots:=U } /\
   R (.ok (.ret (.ref (s.heap.push { cls:=.type "tuple_iterator",data:=.fields #[.ref l,.int 0 0] }).objs.size)))
    { s with heap:=(s.heap.push { cls:=.type "tuple_iterator",data:=.fields #[.ref l,.int 0 0] }).push { cls:=.type "enumerate",data:=.fields #[.none,.bool false,.ref s.heap.objs.size,rawInt 0,.none,.none] } }):=
 .of_wp λprog w A R s h=>by
  obtain⟨hp,g,d,tk,os⟩:=s;obtain⟨D,h⟩:=h;have O:=sub_enumerate;have J:Heap.IsTuple (Shared.heap ⟨hp,g,d,tk,os⟩) l items:=⟨_,D,rfl,n,rfl⟩
  wp_walk using UL D
  refine wpAny_stack_any λst=>Ur ?_
  split
  .rename_i c _ _ _ _ _;cases(c==Value.type "enumerate")
   .wp_walk using UL D,U9 J
    exact⟨_,rfl,h⟩
   wp_walk using UL D,U9 J
   exact⟨_,rfl,h⟩
  wp_walk using UL D,U9 J
  exact⟨_,rfl,h⟩
theorem sZ{l:Um}{items:Array Uj}{Q:Uj->Uq->Prop}(O:s.heap.IsTuple l items)
  (h:∀h',Wd h' (s.heap.objs.size+1) s.heap.objs.size 0 .none->h'.IsTupleIter s.heap.objs.size l 0->h'.objs.size=s.heap.objs.size+2 ->
   (∀b o,s.heap.get? b=Yc o->h'.get? b=Yc o)->Q (.ref (s.heap.objs.size+1)) { s with heap:=h' }) :
  wpAny (model prog w) A (call (.type "enumerate") [.ref l]) Q E s:=by
 obtain⟨⟨c,D,U,V⟩,Z,G,n,hd⟩:=O
 replace G:c=.type "tuple":=G
 replace hd:U=.seq items n:=hd
 subst G hd;refine callType_new F.called_enumerate (by decide) (F.typeCall_enumerate_1 _) (F.newCall_enumerate_1 _) (λobj=>F.args_object_init_2 obj _) F.entry_enumerate_new
  (rC l items n D V) ⟨Z,?_⟩
 have hz:(s.heap.push { cls:=.type "tuple_iterator",data:=.fields #[.ref l,.int 0 0] }).objs.size=s.heap.objs.size+1:=QG ..;show _/\_;rw[hz];have J:Wd ((s.heap.push { cls:=.type "tuple_iterator",data:=.fields #[.ref l,.int 0 0] }).push
   { cls:=.type "enumerate",data:=.fields #[.none,.bool false,.ref s.heap.objs.size,rawInt 0,.none,.none] }) (s.heap.objs.size+1) s.heap.objs.size 0 .none:=by
  have:=O6 (s.heap.push { cls:=.type "tuple_iterator",data:=.fields #[.ref l,.int 0 0] })
   (o:={ cls:=.type "enumerate",data:=.fields #[.none,.bool false,.ref s.heap.objs.size,rawInt 0,.none,.none] }) rfl
  rw[hz]at this;exact this
 refine⟨⟨_,J,rfl⟩,h _ J ⟨_,OJ _ (O6 _ rfl),rfl,rfl⟩ (by rw[QG,hz]) λb o x=>OJ _ (OJ _ x)⟩
end
end xc
namespace L2
open PySem PySem.Spec PyProof.Rows
noncomputable def Km(K:OM)(a:Um):It :=
 ⟨λi H=>∃xs x,br K H a xs/\xs[i]?=Yc x,λi H y H'=>∃t x,y=.ref t/\H t=none/\H'=upd H t (.tup [.int i,x])/\∀xs,br K H a xs->xs[i]?=Yc x,λi H=>∃xs,br K H a xs/\xs.length<=i⟩
theorem yU{P:Ux}{w:UA}{K:OM}{elts:List UM}{x1:Nat}{tp:VJ}(a e J:Um)(hei:e≠J) :
  Turn P w K (.Tuple elts x1 tp) (Km K a) [e,J] e (λi h=>(∃old,Wd h e J i old)/\h.IsTupleIter J a i) where
 mem:=by simp
 obj:=λi h st b G=>by
  obtain⟨⟨old,Z⟩,O⟩:=st;rcases O9.mp G with rfl|G
  .exact⟨_,Z,λv z=>by
    have z':Data.fields _=Data.cell v:=z;cases z'⟩
  have e1:b=J:=by simpa using G
  subst e1;obtain⟨o,e,c,d⟩:=O;exact⟨o,e,λv z=>by rw[d]at z;cases z⟩
 keep:=λi h h' st k=>⟨let⟨old,Z⟩:=st.1;⟨old,k e (by simp) _ Z⟩,let⟨o,ho,r⟩:=st.2;⟨o,k J (by simp) o ho,r⟩⟩
 item:=by
  intro X hP hw hK hc i pins s σ H E I hf st hg;subst hP hw hK;obtain⟨⟨old,Z⟩,O⟩:=st;obtain⟨xs,x,hq,hx⟩:=hg;obtain⟨its,rv,p,hz⟩:=I.tuple hq;obtain⟨u,hu,ru⟩:=rv.get hx;obtain⟨f0,f1,f2,f3,f4,f5⟩:=hf e (by simp);obtain⟨g0,g1,g2,g3,g4,g5⟩:=hf J (by simp);refine xc.nu Z O (show s.heap.IsTuple a its.toArray from p) (x:=u) (by simpa using hu) hei λh' ho' aak hT hsz hk=>?_;refine⟨_,rfl,wpAny_letOwnedTupleGo_enum ho' λHx aal V=>?_⟩;have uc:e<s.heap.objs.size:=O3 Z;have k2:∀b o,b≠e->b≠J->s.heap.get? b=Yc o->Hx.get? b=Yc o:=λb o h1 h2 q=>(V.2 b h1).trans (hk b o h1 h2 q);have yV:Hx.get? s.heap.objs.size=Yc { cls:=.type "tuple",data:=.seq #[.int i s.toks,u] }:=(V.2 _ (QS uc)).trans hT;have U:H s.heap.objs.size=none:=I.bN.fresh (ON _);have neT:∀{b:Um} {o:U6},s.heap.get? b=Yc o->b≠s.heap.objs.size:=λq=>Pb (O3 q);have Bf:∀{b:Um} {o:HO},H b=Yc o->b≠e/\b≠J:=λq=>⟨λz=>(by rw[z,f0]at q;cases q),λz=>(by rw[z,g0]at q;cases q)⟩
  have I2:Inv X pins σ (upd H s.heap.objs.size (.tup [.int i,x])) { s with heap:=Hx,toks:=s.toks+1 }:=by
   refine I.step (g':=s.gens) (d':=s.drawn) (ch:=[e,J]) (λb G=>?_) (λb o _ _ D q _=>k2 b o (λz=>D (by simp[z])) (λz=>D (by simp[z])) q) (λb o _ _ D q _=>⟨o.slots,k2 b o (λz=>D (by simp[z])) (λz=>D (by simp[z])) q⟩)
    (λb o _ q n=>by rw[aG (neT q)];exact n) (λb o D q=>⟨o,k2 b o (λz=>D (by simp[z])) (λz=>D (by simp[z])) q⟩) (λb ys q=>by rw[aG (aW q U)];exact q) (λb o ys q=>by rw[aG (aW q U)];exact q)
    (λb ps q=>⟨#[],by rw[aG (aW q U),q];simp⟩) (λm hm=>?_) (λb v q=>?_) I.bare
   .rcases O9.mp G with rfl|G
    .exact⟨f3,f1,f4,f5⟩
    have e1:b=J:=by simpa using G
    subst e1;exact⟨g3,g1,g4,g5⟩
   .obtain⟨o,es,ep,ho,r⟩:=hm;exact⟨o,es,ep,k2 _ o (Ne.symm f1) (Ne.symm g1) ho,r⟩
   by_cases G:b=s.heap.objs.size
   .subst G;rw[ag]at q;cases q;exact⟨by show 2<=Uu;decide,[.int i s.toks,u],.cons ⟨_,rfl⟩ (.cons ru .nil),_,yV,rfl,_,rfl⟩
   rw[aG G]at q;refine(I.bN b v q).sR (λc o hc z=>?_) (λc z=>by rw[aG (aW z U)];exact z) λc ys z=>by rw[aG (aW z U)];exact z
   rcases hc with rfl|hc
   .exact k2 c o (Bf q).1 (Bf q).2 z
   exact k2 c o (Bf hc).1 (Bf hc).2 z
  refine⟨.ref s.heap.objs.size,_,I2,rfl,⟨_,x,rfl,U,rfl,λys hy=>by rw[I.tS hy hq];exact hx⟩,⟨⟨u,by simpa using aal⟩,?_⟩,λb G=>?_⟩
  .obtain⟨o,q,r⟩:=aak;exact⟨o,(V.2 J (Ne.symm hei)).trans q,r⟩
  rcases O9.mp G with rfl|G
  .rw[aG (Pb uc)];exact f0
  have e1:b=J:=by simpa using G
  subst e1;obtain⟨o,q,_⟩:=O;rw[aG (neT q)];exact g0
 done:=by
  intro X hP hw hK hc i pins s σ H E I hf st hg;subst hP hw hK;obtain⟨⟨old,Z⟩,O⟩:=st;obtain⟨xs,hq,hx⟩:=hg;obtain⟨its,rv,p,hz⟩:=I.tuple hq;obtain⟨g0,g1,g2,g3,g4,g5⟩:=hf J (by simp);have hl:=rv.length;exact xc.oD (I.ok.hd hc) Z O (show s.heap.IsTuple a its.toArray from p) (by simp;omega) λh' eb=>⟨rfl,I.turned (t':=s.toks) (λb o G q=>eb b o G q) g0 g1 g3 g4 g5⟩
 self:=λ_ _ _ _ _ st h=>let⟨_,Z⟩:=st.1;Xj Z h
section
variable {X:Cx}
noncomputable def LK(K:OM)(G:TA):TI:=λσ H R=>G σ H λJ D=>∃a,J=[.ref a]/\(∃xs,br K D a xs)/\R (Km K a) D
theorem jI {K : OM}{es : List UM}{k : Nat}{t : Hj}{n : Nat}{pos : VJ}(G : X.K=K)(J : X.calm=true)(h : K1 X es t)
    (O:(Vx es X.env).length=n:=by rfl) (D:(Vx es X.env).findIdx? (·.1)=none:=by rfl): PG X (.Tuple es k pos) (K6 K n t):= G▸jF J h O D
theorem xg{a:UM}{U:TA}{p pos:VJ}{elts:List UM}{x1:Nat}{tp:VJ}(hg:Gl X "enumerate")(hm:X.mg "enumerate" = none)(ha:PA X [a] U)(hs:UC [a] X.env=[(false,eval a X.env)]:=by rfl) :
  PI X (.Tuple elts x1 tp) (.Call (.Name "enumerate" p) [a] [] pos) (LK X.K U):=by
 intro pins s σ H R I h;refine Call_ (my I hg hm vd (QJ (cF (ha pos pins s σ H _ I h) λus D ⟨vs,V,G,r1,q1⟩=>?_) hs rfl));obtain⟨l,e,⟨xs,hq⟩,q⟩:=q1;subst e;cases r1 with
 |cons r rr =>
  cases rr;cases r;obtain⟨its,rv,ht,hz⟩:=G.tuple hq;refine xc.sZ (show D.heap.IsTuple l its.toArray from ht) λh' Z J hsz hk=>?_;have I2:Inv X pins σ V { D with heap:=h' }:=G.kept (t':=D.toks) hk;refine Xj Z ?_;refine⟨D.heap.objs.size+1,[D.heap.objs.size+1,D.heap.objs.size],_,_,V,rfl,I2,yU l _ _ (Nat.succ_ne_self _),⟨⟨_,Z⟩,J⟩,λb O=>?_,q⟩;rcases O9.mp O with rfl|O
  .exact(G.uP (Q2 _) (G.bN.fresh (Q2 _)))
  have e:b=D.heap.objs.size:=by simpa using O
  subst e;exact G.uP (ON _) (G.bN.fresh (ON _))
theorem Dl{K:OM}{a:Um}{xs:List V}{g:TG}{tb:TS}{D:Ends}{σ:St}{H:Hp}(Pv:Nat->St->Hp->Prop)(Z:Pv 0 σ H)(hl:∀i σ H,i<=xs.length->Pv i σ H->br K H a xs)
  (hs:∀i x t σ H,xs[i]?=Yc x->Pv i σ H->H t=none->g (.ref t) σ (upd H t (.tup [.int i,x])) λG U=>tb { D with nx:=Pv (i+1),ct:=Pv (i+1),bk:=D.nx } G U) (hd:∀σ H,Pv xs.length σ H->D.nx σ H) :
  ∃W:Nat->Nat->St->Hp->Prop,(∃m,W 0 m σ H)/\∀i m σ H,W i m σ H ->
   ((Km K a).stop i H/\D.nx σ H)\/((Km K a).go i H/\∃N:St->Hp->Prop,(∀J H',N J H'->∃m',m'<m/\W (i+1) m' J H')/\∀x H',(Km K a).Il i H x H'->g x σ H' λG U=>tb { D with nx:=N,ct:=N,bk:=D.nx } G U):=by
 refine⟨λi m σ H=>m=xs.length-i/\i<=xs.length/\Pv i σ H,⟨xs.length,by simp,PH _,Z⟩,?_⟩;rintro i m σ H ⟨rfl,hi,p⟩;have q:=hl i σ H hi p;by_cases O:i<xs.length
 .refine .inr ⟨⟨xs,xs[i],q,by simp[O]⟩,Pv (i+1),λJ H' p'=>⟨xs.length-(i+1),by omega,rfl,O,p'⟩,λx H' y=>?_⟩;obtain⟨t,z,e,hn,e2,y⟩:=y;subst e e2;exact hs i z t σ _ (y xs q) p hn
 have e:i=xs.length:=by omega
 subst e;exact .inl ⟨⟨xs,q,ON _⟩,hd σ H p⟩
theorem Bz{K:OM}{a:Um}{xs:List V}{g:TG}{Z:TT}{te:TE}{D:Um}{Q:VK}{G:St}{H₀:Hp}(Pv:Nat->St->Hp->Prop)(h0:Pv 0 G H₀)(hl:∀i σ H,i<=xs.length->Pv i σ H->br K H a xs)
  (hs:∀i x t σ H,xs[i]?=Yc x->Pv i σ H->H t=none->g (.ref t) σ (upd H t (.tup [.int i,x])) λJ H3=>Z J H3 λb H4=>if b=true then te J H4 λv H5=>∃U,H5 D=Yc (.lst U)/\U.length<Uu/\Pv (i+1) J (upd H5 D (.lst (U++[v])))else Pv (i+1) J H4)
  (hd:∀σ H,Pv xs.length σ H->Q (.ref D) H):w6 (Km K a) g Z te D Q G H₀:=by
 refine⟨λi m σ H=>m=xs.length-i/\i<=xs.length/\Pv i σ H,⟨xs.length,by simp,PH _,h0⟩,?_⟩;rintro i m σ H ⟨rfl,hi,p⟩;have q:=hl i σ H hi p;by_cases O:i<xs.length
 .refine .inr ⟨⟨xs,xs[i],q,by simp[O]⟩,Pv (i+1),λσ' H' p'=>⟨xs.length-(i+1),by omega,rfl,O,p'⟩,λx H' y=>?_⟩;obtain⟨t,z,e,hn,e2,y⟩:=y;subst e e2;exact hs i z t σ _ (y xs q) p hn
 have e:i=xs.length:=by omega
 subst e;exact .inl ⟨⟨xs,q,ON _⟩,hd σ H p⟩
theorem xh{K:OM}{a:Um}{xs:List V}{g:TG}{Z:TT}{te:TE}{D:Um}{Q:VK}{G:St}{H₀:Hp}(Pv:Nat->St->Hp->Prop)(h0:Pv 0 G H₀)(hl:∀i σ H,i<=xs.length->Pv i σ H->br K H a xs)
  (hs:∀i x σ H,xs[i]?=Yc x->Pv i σ H->g x σ H λJ H3=>Z J H3 λb H4=>if b=true then te J H4 λv H5=>∃U,H5 D=Yc (.lst U)/\U.length<Uu/\Pv (i+1) J (upd H5 D (.lst (U++[v])))else Pv (i+1) J H4)
  (hd:∀σ H,Pv xs.length σ H->Q (.ref D) H):w6 (Kh K a) g Z te D Q G H₀:=by
 refine⟨λi m σ H=>m=xs.length-i/\i<=xs.length/\Pv i σ H,⟨xs.length,by simp,PH _,h0⟩,?_⟩;rintro i m σ H ⟨rfl,hi,p⟩;have q:=hl i σ H hi p;by_cases O:i<xs.length
 .refine .inr ⟨⟨xs,xs[i],q,by simp[O]⟩,Pv (i+1),λσ' H' p'=>⟨xs.length-(i+1),by omega,rfl,O,p'⟩,λx H' y=>?_⟩;obtain⟨e,y⟩:=y;subst e;exact hs i x σ _ (y xs q) p
 have e:i=xs.length:=by omega
 subst e;exact .inl ⟨⟨xs,q,ON _⟩,hd σ H p⟩
theorem vg(hc:X.calm=true):fW X (.builtin "min") (λxs H Q=>∃(p:Um) (ns:List Int),xs=[.ref p]/\br X.K H p (ns.map V.int)/\0<ns.length/\∀M:Int,M∈ns->(∀a∈ns,M<=a)->Q (.int M) H):=by
 intro pins s σ H xs us Q I r h;obtain⟨p,ns,rfl,hq,jj,q⟩:=h;obtain⟨u,rfl,ru⟩:=r.one;cases ru;obtain⟨its,U,Z,hz⟩:=I.tuple hq;have J:s.heap.IsTuple p its.toArray:=Z;have hlen:ns.length=its.length:=by have z:=U.length;rwa[OH]at z
 have O:p<s.heap.objs.size:=let⟨_,e,_⟩:=Z;O3 e
 have val:∀(i:Nat) (v:Uj),its.toArray[i]?=Yc v->i<ns.length/\∃t,v=.int (ns.getD i 0) t:=λi v G=>by
  have G:its[i]?=Yc v:=by simpa using G
  have hi:i<its.length:=(OI.mp G).1;have D:i<ns.length:=by omega
  have e1:(ns.map V.int)[i]?=Yc (.int ns[i]):=by rw[OR,OG D];rfl
  obtain⟨u,hu,t,e⟩:=U.get e1;rw[G]at hu;cases hu;exact⟨D,t,by rw[e];simp[QK,OG D]⟩
 refine call_min_walk (U9 J ?_);refine⟨_,_,_,_,_,_,_,rfl,Walks.tuple (A:=X.A.in1) (I.ok.hd hc) s.heap.objs.size p (Pb O) its.toArray,⟨⟨_,O6 _ rfl,rfl,rfl⟩,J.push _⟩,λb hb=>?_,by rw[OT];omega,
  CmpOf.ints_lt (λi=>ns.getD i 0) (λi v G=>(val i v G).2),λv h' tk hP hk=>?_⟩
 .rw[QG];rcases O9.mp hb with e|e
  .rw[e];exact QP _
  have e:b=p:=by simpa using e
  rw[e];exact Qa O
 obtain⟨h1,t,rfl⟩:=val _ v hP;obtain⟨h2,h3⟩:=argBest_lt (λi=>ns.getD i 0) (its.toArray.size-1);have I':Inv X pins σ H { s with heap:=h',toks:=tk }:=I.kept λb o e=>hk b o (λz=>Us (OS.mp z) (Pb (O3 e))) (OJ _ e);refine⟨.int _,H,I',⟨t,rfl⟩,q _ ?_ λa ha=>?_⟩
 .have e:ns.getD (Vs (λi j=>decide (ns.getD i 0<ns.getD j 0)) (its.toArray.size-1)) 0=ns[Vs (λi j=>decide (ns.getD i 0<ns.getD j 0)) (its.toArray.size-1)]'h1:=by rw[Ql,OG h1];rfl
  rw[e];exact Rp _
 obtain⟨j,hj⟩:=Qq.mp ha;have hjl:j<ns.length:=(OI.mp hj).1;have z:=h3 j (by rw[OT];omega);have e:ns.getD j 0=a:=by simp[QK,hj]
 rw[e]at z;exact z
end
theorem cQ.obj{P:Ux}{w:UA}{H:Hp}{h:UH}{a:Um}:∀{o:HO},cQ P w H h a o->∃u,h.get? a=Yc u:=λ{o} x=>by
 cases o with
 |lst xs=>obtain⟨_,_,_,_,e⟩:=x;exact⟨_,e⟩
 |tup xs=>obtain⟨_,_,_,o,e,_⟩:=x;exact⟨_,e⟩
 |dK D=>obtain⟨_,_,_,_,o,_,_,e,_⟩:=x;exact⟨_,e⟩
 |dT D=>obtain⟨_,_,_,_,o,_,_,e,_⟩:=x;exact⟨_,e⟩
 |set S n=>obtain⟨o,_,_,_,e,_⟩:=x;exact⟨_,e⟩
 |ins C G fs=>obtain⟨_,_,_,e,_⟩:=x;exact⟨_,e⟩
 |own y=>exact x
 |xd fs=>obtain⟨_,⟨_,_,_,e,_⟩,_⟩:=x;exact⟨_,e⟩
 |He lo J=>obtain⟨_,_,_,e⟩:=x;exact⟨_,e⟩
 |Cu ob u=>obtain⟨e,_⟩:=x;exact⟨_,e⟩
 |Hf O=>exact⟨_,(show h.get? a=Yc _ from x)⟩
 |met f y=>exact⟨_,(show h.get? a=Yc _ from x)⟩
 |ext φ=>obtain⟨_,e,_⟩:=x;exact e
noncomputable def Dm(h:UH)(l:List WY):Heap:=Tu h (lV l)
theorem xj{h:UH}{l:List WY}{b:Um}{o:U6}(e:h.get? b=Yc o)(n:b∉lV l):(Dm h l).get? b=Yc o:=SS _ e n
theorem Ay{h:UH}{l:List WY}{b:Um}{o:U6}(e:(Dm h l).get? b=Yc o):h.get? b=Yc o:=SY _ e
theorem xk{h base:UH}{l:List WY}(x:h.FunFrames base l):h.FunFrames (Dm h l) l:=PySem.W.funFrames_hide x λenv D a G=>RY.mpr ⟨env,D,G⟩
def Hy(B:UH)(l:List WY)(a:Um)(cls:Uj)(h:UH):Prop:=∃D,
 (B.StaysIn h/\B.get? a=none/\h.FunFrames B l/\∃G J,h.get? a=Yc G/\G.cls=cls/\G.data=.fields J/\J[1]?=Yc .none/\J[0]?=Yc D) \/
 Heap.FlyingW B l a cls D h\/∃L env outer,l=env::outer/\env.frame=Yc L/\Heap.HeldW B l a cls D L h
theorem Hy.stays{B h:UH}{l:List WY}{a:Um}{cls:Uj}(x:Hy B l a cls h):B.StaysIn h:=by
 obtain⟨D,x|x|⟨_,_,_,_,_,x⟩⟩:=x
 .exact x.1
 .exact x.1
 exact x.1
theorem Hy.frames{B h:UH}{l:List WY}{a:Um}{cls:Uj}(x:Hy B l a cls h):h.FunFrames B l:=by
 obtain⟨D,x|x|⟨_,_,_,_,_,x⟩⟩:=x
 .exact x.2.2.1
 .exact x.2.2.1
 exact x.2.2.1
section
variable {M:WZ}{A:UG}{E:Uj->Uq->Prop}{s:Uq}{B:UH}{env:WY}{outer:List WY}{L a:Um}{cls:Uj}
theorem rD{Q:Unit->Uq->Prop}(D:A.frames=Yc (env::outer))(G:env.frame=Yc L)(x:Hy B (env::outer) a cls s.heap)
  (U:∀h' J,Heap.HeldW B (env::outer) a cls J L h'->s.heap.UpToSlots h'->Q () { s with heap:=h' }):wpAny M A (WU (.ref a) env) Q E s:=by
 obtain⟨J,⟨x1,x2,x3,oe,vs,V,hc,hd,Z,h0⟩|x|⟨L',aeO,O,e1,e2,x⟩⟩:=x
 .unfold WU;simp only[G];refine Uh (UW V hd Z ?_);rw[Uk (by decide)];refine wpAny_entryW D x3 G V x1 x2 hd (Rm.mp Z).1 h0 λh' hN=>?_;obtain⟨k1,k2,k3,k4⟩:=hN;rw[hc]at k3;exact U h' J ⟨k1,x2,k2,k3⟩ k4
 .exact wpAny_looks_onW D G x λh' k1 k2=>U h' J k1 k2
 cases e1;rw[G]at e2;cases e2;exact wpAny_noteFrame_againW G x.2.2.2 (U s.heap J x (Heap.UpToSlots.refl _))
theorem BA{Q:Unit->Uq->Prop}(D:A.frames=Yc (env::outer))(J:env.frame=Yc L)(x:Hy B (env::outer) a cls s.heap)
  (O:∀h' G,Heap.FlyingW B outer a cls G h'->s.heap.UpToSlots h'->Q () { s with heap:=h' }):wpAny M A (XZ env (.ref a)) Q E s:=by
 unfold XZ;refine Uh (rD D J x λh1 G k1 k2=>?_);refine wpAny_landsW k1 λU k3 V=>?_;obtain⟨c1,c2,⟨_,_,Z⟩,c4⟩:=k3;exact O U G ⟨c1,c2,Z,c4⟩ (k2.trans V)
theorem BC{F:Uj->Uq->Prop}{a0:Uj}(hf:env.frame=Yc L)(x:Heap.HeldW B (env::outer) a cls a0 L s.heap)
  (hQ:∀h',Heap.HeldW B (env::outer) a cls a0 L h'->s.heap.UpToSlots h'->F (.ref a) { s with heap:=h' }):cameBackBy M A env F (.ref a) s:=by
 obtain⟨hkb,hen,hl,oe,vs,T,oT,ts,he,Z,hd,h1,hnT,hTe,hT,O,h3⟩:=x;unfold cameBackBy;refine Uh (UW he hd h1 ?_);rw[Uk (show¬((Value.ref T==Value.none)=true)from O4)];rw[hf];have U:3<ts.size:=(Rm.mp h3).1;have other:∀b,b≠T->(s.heap.update T (Obj.mapFields (·.setIfInBounds 3 ((Yc L).elim Value.none λf=>rawInt f)))).get? b=s.heap.get? b:=λb G=>Qc _ _ (Ne.symm G);have D:∀b o,s.heap.get? b=Yc o->(∀vs,o.data≠.fields vs)->b≠T:=λb o G J q=>by
  rw[q,hT]at G;injection G with G;subst G;exact J ts O
 unfold setFlight;refine Uh (UW he hd h1 ?_);rw[Uo (show(Value.ref T != Value.none)=true from by simp)];refine VE hT O U (hQ _ ⟨λb o V=>(other b λq=>by rw[q,hnT]at V;cases V).trans (hkb b o V),hen,
  hl.of_keeps λb o G J=>⟨o,(other b (D b o G J)).trans G,rfl⟩,?_⟩ λb o G J=>⟨o.slots,(other b (D b o G J)).trans G⟩)
 exact⟨oe,vs,T,_,_,(other a (Ne.symm hTe)).trans he,Z,hd,h1,hnT,hTe,Qz _ hT (Obj.isFreed_of_fields (Obj.data_mapFields O _)),Obj.data_mapFields O _,by simp[U]⟩
end
structure IT(P:Ux) (w:UA) (l:List WY) (ex:List Um) (H:Hp) (s:Uq) (B:UH) (a:Um) (cls:Uj) (H':Hp) (s':Uq):Prop where
 os:s'.os=s.os
 bare:VU s'.gens
 un:Un (lV l) ex H H' s.heap s'.heap
 bN:l7 P w H' s'.heap
 na:H' a=none
 Kn:Hy B l a cls s'.heap
 old:∀b o,s.heap.get? b=Yc o->b∉lV l->b∉ex->∃o',s'.heap.get? b=Yc o'/\B.get? b=Yc o'
 Bf:∀b,H' b≠none->∃o,s'.heap.get? b=Yc o/\B.get? b=Yc o
theorem IT.move{P:Ux}{w:UA}{l l':List WY}{ex:List Um}{H H':Hp}{s s':Uq}{B h':UH}{a:Um}{cls:Uj}(x:IT P w l ex H s B a cls H' s')(k:s'.heap.UpToSlots h')(st:Hy B l' a cls h')
  (O:∀b∈lV l',b∈lV l) (U:∀b o,s.heap.get? b=Yc o->b∈lV l->b∈lV l') (hx:∀b∈lV l,b∉ex):IT P w l' ex H s B a cls H' { s' with heap:=h' }:=by
 have V:=st.stays;have nf:∀b∈lV l,∀o,s'.heap.get? b=Yc o->∀vs,o.data≠.fields vs:=λb D o e=>by
  obtain⟨_,G,e',d⟩:=x.Kn.frames.mem D;rw[e]at e';cases e';exact d
 have oldK:∀b o,s.heap.get? b=Yc o->b∉lV l'->b∉ex->∃G,s'.heap.get? b=Yc G/\B.get? b=Yc G:=λb o e D J=>x.old b o e (λz=>D (U b o e z)) J;refine⟨x.os,x.bare,⟨λb o e n D J=>?_,λb o e n D J=>?_,x.un.free,λb o e J=>?_,x.un.mq,x.un.lU,x.un.mr⟩,λb u e=>?_,x.na,st,λb o e D J=>?_,λb D=>?_⟩
 .have e1:=x.un.keep b o e n (λz=>D (U b o e z)) J;obtain⟨G,e2,e3⟩:=oldK b o e D J;rw[e1]at e2;cases e2;exact V b _ e3
 .obtain⟨sl,e1⟩:=x.un.slot b o e n (O b D) J;obtain⟨Z,e2⟩:=k b _ e1 (nf b (O b D) _ e1);exact⟨Z,e2⟩
 .by_cases D:b∈lV l
  .obtain⟨_,G,e',d⟩:=x.Kn.frames.mem D;obtain⟨Z,e2⟩:=k b _ e' d;exact⟨_,e2⟩
  obtain⟨G,_,e3⟩:=x.old b o e D J;exact⟨G,V b _ e3⟩
 .refine(x.bN b u e).sR (λc v hc q=>?_) (λ_ q=>q) λ_ _ q=>q;have hn:H' c≠none:=by
   rcases hc with rfl|hc
   .rw[e];exactλz=>nomatch z
   rw[hc];exactλz=>nomatch z
  obtain⟨G,e1,e2⟩:=x.Bf c hn;rw[q]at e1;cases e1;exact V c _ e2
 .obtain⟨G,_,e3⟩:=oldK b o e D J;exact⟨G,V b _ e3,e3⟩
 obtain⟨G,_,e3⟩:=x.Bf b D;exact⟨G,V b _ e3,e3⟩
noncomputable def gf(P:Ux)(w:UA):Cg:=λouter H s E e s'=>∃a cls H' B,e=.ref a/\IT P w outer [] H s B a cls H' s'/\E cls none H'
def kM(X:Cx)(E:XK)(e:Uj)(s':Uq):Prop:=∃a cls H' B,e=.ref a/\IT X.prog X.w X.stack X.ex X.H₀ X.s₀ B a cls H' s'/\E cls none H'
section
variable {X:Cx}{E:XK}
theorem LM{F:Uj->Uq->Prop}:Passes (gf X.prog X.w) (X.iJ (kM X E)) E:=λpins σ H s e s' I h=>by
 have I:=I.eg;obtain⟨a,cls,H',B,rfl,x,G⟩:=h;have U:Un (lV X.stack) X.ex X.H₀ H X.s₀.heap s.heap:=I.base.mono (λb D=>by
  rcases I.ok.Hg with z|⟨z,_⟩
  .rw[z];exact D
  rw[z];unfold lV;rw[Qu];split
  .exact D
  exact O1 _ D) λb D=>D
 have J:Un (lV X.stack) X.ex H H' s.heap s'.heap:=x.un.mono (λb D=>D) λb D=>Us D (by simp);refine⟨a,cls,H',B,rfl,⟨x.os.trans I.os,x.bare,U.trans J,x.bN,x.na,x.Kn,λb o q D O=>?_,x.Bf⟩,G⟩;obtain⟨V,e1⟩:=U.there b o q O;exact x.old b V e1 D (by simp)
end
structure Own(X:Cx):Prop where
 ok:X.Ok
 top:X.stack=X.env::X.outer
 fr:X.env.frame=Yc X.env.locals
 ex:X.ex=[]
theorem Own.loc{X:Cx}(o:Own X):∀b G,X.s₀.heap.get? b=Yc G->b∈lV X.stack->b∈lV X.outer:=λb G e D=>by
 rw[o.top]at D;unfold lV at D;rw[Qu,o.fr]at D;rcases O9.mp D with z|z
 .subst z;exact Us (Pt (O3 e) o.ok.above) (QF _)
 exact z
theorem iN{X:Cx}{E:XK}(O:Own X):PassesOwn (model X.prog X.w) X.A X.env (kM X E):=λe s' h=>by
 obtain⟨a,cls,H',B,rfl,x,V⟩:=h;have G:X.A.frames=Yc (X.env::X.outer):=by rw[<-O.top];exact O.ok.frames
 have x':=x;have st:=x.Kn;rw[O.top]at st;show wpAny _ _ (WU (.ref a) X.env) _ _ s';refine rD G O.fr st λJ U k1 k2=>?_;have x1:IT X.prog X.w X.stack X.ex X.H₀ X.s₀ B a cls H' { s' with heap:=J }:=x.move k2 (by rw[O.top];exact⟨U,.inr (.inr ⟨_,_,_,rfl,O.fr,k1⟩)⟩) (λb D=>D) (λb o _ D=>D) λb _=>by rw[O.ex];simp
 refine BC (s:={ s' with heap:=J }) O.fr k1 λh2 k3 Z=>?_;exact⟨a,cls,H',B,rfl,x1.move Z (by rw[O.top];exact⟨U,.inr (.inr ⟨_,_,_,rfl,O.fr,k3⟩)⟩) (λb D=>D) (λb o _ D=>D) λb _=>by rw[O.ex];simp,V⟩
structure vh(K:OM) (mg:UI->Option Uj) (x:UI) (C:Um):Prop where
 g:mg x=Yc (.ref C)
 ex:∃bm newId B Dp,S5 K C bm newId=true/\ExcBaseFacts B newId Dp bm
def IU(C:Um)(t:TA)(E:XK):TS:=λ_ σ H=>t σ H λD G=>D.length<=Uu/\E (.ref C) none G
theorem kN{K:OM}{C:Um}{G:List Uj}{newId:String}{h:UH}(X:K.In h)(q:S5 K C G newId=true) :
  ∃bm ns nm O bs hd sn sub ab col dd k0 k1 k2 k3 k5 mN,h.get? C=Yc (excClassObj nm O C ns bs bm hd sn sub ab col dd k0 k1 k2 k3 k5 newId)/\h.Ns ns mN/\mN "__init__" = none/\OwnTail h G bm:=by
 unfold S5 at q
 split at q
 .rename_i dd cd V ho
  split at q
  .rename_i C' bm k0 k1 k2 k3 n k5 Z hs;simp only[PX,beq_iff_eq,Tc]at q;obtain⟨⟨⟨⟨⟨rfl,rfl⟩,D⟩,ht⟩,bN⟩,J⟩:=q;obtain⟨nm,bs,mro,ns,O,hd,sn,sub,ab,col,del⟩:=cd;dsimp only at Z D bN J;subst Z D;have U:V = #[k0,k1,k2,k3,Yc (.builtin n),k5]:=by
    obtain⟨l⟩:=V;simp only at hs;rw[hs]
   subst U;exact⟨bm,ns,nm,O,bs,hd,sn,sub,ab,col,dd,k0,k1,k2,k3,k5,_,X _ _ ho,.of_isNs (PySem.W.isNs_of_in X bN),PySem.W.nsMap_none_of_in X bN J,PySem.W.tail_of_in X ht⟩
  cases q
 cases q
theorem rE{X:Cx}{E:XK}{x:UI}{C:Um}{np O pos:VJ}{G:UM}{rest:List UM}{t:TA}(hc:X.calm=true)(Z:vh X.K X.mg x C)(ha:PA (X.iJ (kM X E)) (G::rest) t)
  (hg:Gl X x:=by rfl) (IW:(x==("__debug__":UI))=false:=by decide) (he:UC (G::rest) X.env=(false,eval G X.env)::UC rest X.env:=by rfl) (IY:(backTo O (UC rest X.env)).any (·.1)=false:=by rfl) :
  PS (X.iJ (kM X E)) (.Raise (Yc (.Call (.Name x np) (G::rest) [] O)) none pos) (IU C t E):=by
 intro pins s σ H D I h;obtain⟨bmB,newId,Bn,Dp,q,FB⟩:=Z.ex;obtain⟨bm,ns,nm,qn,bs,hd,sn,sub,ab,col,dd,k0,k1,k2,k3,k5,mN,hC,hN,hni,T⟩:=kN I.Bi q;have hA:=ha O pins s σ H _ I h;rw[show UC (G::rest) (X.iJ (kM X E)).env=(false,eval G X.env)::UC rest X.env from he]at hA;refine wpAny_Raise_call_subT (C:=C) (nm:=nm) (q:=qn) (N:=ns) (bs:=bs) (bm:=bm) (hdct:=hd) (sn:=sn) (sub:=sub) (ab:=ab) (col:=col) (dd:=dd) (k0:=k0) (k1:=k1) (k2:=k2) (k3:=k3) (k5:=k5)
  FB (mN:=mN) (T.hasType FB.hasBase) (I.ok.hd hc) (by show(backTo O (UC (G::rest) X.env)).any (·.1)=false;rw[he];show(false||(backTo O (UC rest X.env)).any (·.1))=false;rw[IY];rfl) hni (mW I hg Z.g ⟨rfl,?_⟩ IW)
 show wpAny _ _ (evalArgs (.ref C) true (backTo O (UC (G::rest) X.env)) []) _ _ s;rw[he];refine Calls.evalArgs_plain (UX hA (λus s2 h2=>?_) λ_ _ y=>y);obtain⟨vs,H2,I2,r2,hz,hE⟩:=h2;obtain⟨bm',ns',nm',qn',bs',LN,sn',aeT,ab',aeU,dd',k0',k1',k2',k3',k5',mN',hC2,hN2,aeV,T2⟩:=kN I2.Bi q;have J:=I2.eg;have st:∀b o,X.base.get? b=Yc o->s2.heap.get? b=Yc o:=J.bk;have hC':s2.heap.get? C=Yc (excClassObj nm qn C ns bs bm hd sn sub ab col dd k0 k1 k2 k3 k5 newId):=by
  obtain⟨bm3,ns3,nm3,qn3,bs3,Az,sn3,LO,ab3,LP,dd3,k03,k13,k23,k33,k53,mN3,V,Nz,LQ,T3⟩:=kN J.ok.mod.mS q;have e1:=(I.eg.bk _ _ V).symm.trans hC;cases e1;exact st _ _ V
 have hN':s2.heap.Ns ns mN:=by
  obtain⟨bm3,ns3,nm3,qn3,bs3,Az,sn3,LO,ab3,LP,dd3,k03,k13,k23,k33,k53,mN3,V,Nz,LQ,T3⟩:=kN J.ok.mod.mS q;have e1:=(I.eg.bk _ _ V).symm.trans hC;injection e1 with e1;injection e1 with _ _ e1 _;injection e1 with e1;injection e1 with _ _ _ e1 _ _ _ _ _ _ _;subst e1;have f1:=Nz.keeps I.eg.bk;have f2:=Nz.keeps st;obtain⟨o1,es1,ep1,g1,g2,g3,g4⟩:=f1;obtain⟨o2,es2,ep2,j1,j2,j3,j4⟩:=hN;rw[g1]at j1;cases j1;rw[g2]at j2;cases j2;have em:mN3=mN:=by funext y;rw[<-g4 y,<-j4 y]
  rw[<-em];exact f2
 have T':OwnTail s2.heap bmB bm:=by
  obtain⟨bm3,ns3,nm3,qn3,bs3,Az,sn3,LO,ab3,LP,dd3,k03,k13,k23,k33,k53,mN3,V,Nz,LQ,T3⟩:=kN J.ok.mod.mS q;have e1:=(I.eg.bk _ _ V).symm.trans hC;injection e1 with e1;injection e1 with _ _ e1 _;injection e1 with e1;injection e1 with _ _ e1 _ _ _ _ _ _ _ _;injection e1 with _ e1;rw[<-e1];exact T3.keeps st
 refine⟨rfl,by show us.length<=Uu;rw[<-r2.length];exact hz,hC',hN',T',λh' a hx=>?_⟩;have U:Un (lV X.stack) X.ex X.H₀ H2 X.s₀.heap s2.heap:=J.base.mono (λb hb=>by
  rcases J.ok.Hg with z|⟨z,_⟩
  .rw[z];exact hb
  rw[z];unfold lV;rw[Qu];split
  .exact hb
  exact O1 _ hb) λb hb=>hb
 obtain⟨t0,Gn,yF,ht3⟩:=hx.there;refine⟨a,.ref C,H2,Dm s2.heap X.stack,rfl,⟨J.os,J.bare,U.trans (Un.kept hx.keeps),J.bN.kept hx.keeps,?_,⟨_,.inl ⟨λb o e=>hx.keeps b o (Ay e),?_,?_,_,_,Gn,rfl,rfl,rfl,rfl⟩⟩,λb o e hb he=>?_,λb hb=>?_⟩,hE⟩
 .cases z:H2 a with
  |none=>rfl
  |some u =>
   obtain⟨o,e⟩:=(J.bN a u z).obj;rw[hx.new]at e;cases e
 .cases z:(Dm s2.heap X.stack).get? a with
  |none=>rfl
  |some o=>have:=Ay z;rw[hx.new]at this;cases this
 .exact(xk J.stack).of_keeps λb o e _=>⟨o,hx.keeps b o e,rfl⟩
 .obtain⟨o1,e1⟩:=U.there b o e he;exact⟨o1,hx.keeps b o1 e1,xj e1 hb⟩
 obtain⟨u,hu⟩:=Option.ne_none_iff_exists'.mp hb;obtain⟨o,e⟩:=(J.bN b u hu).obj;exact⟨o,hx.keeps b o e,xj e λz=>hb (J.uM b z)⟩
theorem Bu.okX{P:Ux}{w:UA}{K:OM}{mg:UI->Option Uj}{base:UH}{x qual:UI}{st:Vp}{f:Um}{fd:Uz}{N Z:List UI}{k:Nat}{sp:Sp}(F:Bu K x qual st f fd)(S:aN N Z (aD st))(len:∀J H Q E,sp J H Q E->J.length=Z.length)
  (U:∀(G:Uj) (A:UG) (outer:List WY) (s:Uq) (H:Hp) (J:List V) (Q:VK) (E:XK),eI k (A.deeper (envOfC qual (aD st) s.heap.objs.size f G))->sp J H Q E->∀X:Cx,X=lW (gf P w) P w K mg base N qual (aD st) f G A outer s H E ->
   ∃t,mV (X.iJ (kM X E)) (cq st) t/\t { nx:=λ_ H'=>Q .g9 H',rt:=Q } (start N J) H):aO P w K mg base (gf P w) (k+1) f fd Z sp:=by
 obtain⟨oc,od,kV,doc,pm,an,G,ct,Lg,rfl,lk,FN⟩:=F.ex;refine Hn lk FN S len λA outer s H J Q E hr Fi=>?_;obtain⟨t,h,q⟩:=U G A outer s H J Q E hr Fi _ rfl;refine⟨t,λpins s1 σ H1 D I hw=>?_,q⟩;refine UX (h pins s1 σ H1 D (I.iJ _) hw) (λ_ _ q=>q.eg) λe s' hx=>?_;obtain⟨a,cls,H',B,rfl,x,hE⟩:=hx;have O:Own (lW (gf P w) P w K mg base N qual (aD st) f G A outer s H E):=⟨I.ok,rfl,rfl,rfl⟩
 show wpAny (model P w) _ (XZ _ (.ref a)) _ _ s';refine BA (outer:=outer) I.ok.frames rfl x.Kn λh' a0 k1 k2=>?_;refine⟨a,cls,H',B,rfl,x.move k2 ⟨a0,.inr (.inl k1)⟩ (λb hb=>O1 _ hb) O.loc λb _=>by simp[lW],hE⟩
section
variable {X:Cx}{pins:List (Um×U6)}{σ:St}{H:Hp}{s:Uq}
theorem Inv.IZ{i:Nat}{x:UI}{h':UH}{m':UI->Option Uj}{t':Nat}(I:Inv X pins σ H s)(hN:X.N.Nodup)(Z:X.N[i]?=Yc x)(hm:∀m,s.heap.Ns X.env.locals m->∃v,h'.Ns X.env.locals (λy=>if y=x then v else m y))
  (hs:Heap.SameBut X.env.locals s.heap h'):Inv X pins (σ.set i none) H { s with heap:=h',toks:=t' }:=by
 obtain⟨m,hn,hl⟩:=id I.loc;obtain⟨v0,O⟩:=hm m hn;have Cz:=I.Cz;have D:i<σ.length:=by rw[I.len];exact(OI.mp Z).1
 refine⟨I.ok,I.os,I.bare,⟨λb o e n U G=>?_,λb o e n U G=>?_,I.base.free,λb o e G=>?_,I.base.mq,I.base.lU,I.base.mr⟩,⟨_,O,λj y v' e1 e2 e3=>?_⟩,λy c e=>?_,I.free,I.i0,λp hp=>?_,λb ob e=>?_,by simpa using I.len⟩
 .exact(hs.2 b (Pb (Pt (O3 e) I.ok.above))).trans (I.base.keep b o e n U G)
 .obtain⟨sl,e1⟩:=I.base.slot b o e n U G;exact⟨sl,(hs.2 b (Pb (Pt (O3 e) I.ok.above))).trans e1⟩
 .obtain⟨o',e1⟩:=I.base.there b o e G;exact⟨o',(hs.2 b (Pb (Pt (O3 e) I.ok.above))).trans e1⟩
 .by_cases V:j=i
  .subst V;rw[Ra D]at e2;cases e2
  rw[Ro (Ne.symm V)]at e2;obtain⟨u',r',q⟩:=hl j y v' e1 e2 e3;refine⟨u',r',?_⟩;rcases q with⟨k,e⟩|⟨k,c,e,z⟩
  .refine .inl ⟨k,?_⟩;have:y≠x:=λe=>V (qN hN e1 (e▸Z));simp[this,e]
  exact .inr ⟨k,c,e,z.sameBut hs (Cz y c e)⟩
 .obtain⟨w',z⟩:=I.cell y c e;exact⟨w',z.sameBut hs (Cz y c e)⟩
 .obtain⟨e,n,ne,nf,d⟩:=I.pin p hp;exact⟨(hs.2 p.1 ne).trans e,n,ne,nf,d⟩
 refine(I.bN b ob e).sR (λc w' J q=>(hs.2 c ?_).trans q) (λ_ q=>q) λ_ _ q=>q;rintro rfl;rcases J with rfl|J
 .rw[I.free]at e;cases e
 rw[I.free]at J;cases J
end
noncomputable def i8(X:Cx)(a:Um)(D:U6):Cx:={ X with A:=X.A.mark (Yc (.ref a)),calm:=false,pn:=X.pn++[(a,D)],xe:=λ_ _=>False }
section
variable {X:Cx}{pins:List (Um×U6)}{σ:St}{H:Hp}{s:Uq}{a:Um}{O:U6}
theorem Inv.suite(I:Inv X pins σ H s)(e:s.heap.get? a=Yc O)(D:H a=none)(G:a≠X.env.locals)(J:a∉X.fs)(hd:∀v,O.data≠.cell v):Inv (i8 X a O) pins σ H s:=by
 refine⟨⟨I.ok.mod,I.ok.kind,I.ok.glob,I.ok.blt,I.ok.above,I.ok.inj,I.ok.has,I.ok.Ie,λz=>(O4 z).elim,I.ok.frames,I.ok.Hg,I.ok.Nu,I.ok.bs,I.ok.Cy,I.ok.qK,I.ok.Bh,I.ok.mw,I.ok.Fy⟩,I.os,I.bare,I.base,I.loc,I.cell,I.free,I.i0,λp hp=>?_,I.bN,I.len⟩;have hp:p∈(X.pn++[(a,O)])++pins:=hp;rcases OY.mp hp with z|z
 .rcases OY.mp z with z|z
  .exact I.pin p (Pn _ z)
  have z:p=(a,O):=by simpa using z
  subst z;exact⟨e,D,G,J,hd⟩
 exact I.pin p (OZ _ z)
end
def PEX(X:Cx)(e:UM)(t:XK->TE):Prop :=
 ∀(E:XK) (pins:List (Um×U6)) (s:Uq) (σ:St) (H:Hp) (Q:VK),Inv X pins σ H s->t E σ H Q ->
  wpAny (model X.prog X.w) X.A (eval e X.env) (EP X pins σ Q) (λe s'=>∃D G,Inv X pins σ D G/\gf X.prog X.w X.stack D G E e s') s
theorem vi{X:Cx}{x:UI}{st:Vp}{U:List UI}{f:Um}{fd:Uz}{k:Nat}{sp:Sp}{e:UM}{es:List UM}{t:TA}{p pos:VJ}(G:aO X.prog X.w X.K X.mg X.base (gf X.prog X.w) k f fd U sp)(F:Fn X.K X.mg x st U f fd)(hr:eI k X.A)(ha:PA X.FA (e::es) t)
  (hg:Gl X x:=by rfl) (V:(x==("__debug__":UI))=false:=by decide) (he:UC (e::es) X.env=(false,eval e X.env)::UC es X.env:=by rfl) (Z:(backTo pos (UC es X.env)).any (·.1)=false:=by rfl) :
  PEX X (.Call (.Name x p) (e::es) [] pos) (λE=>tW sp [] E t):=by
 intro E pins s σ H Q I h;refine Vj (mW I hg F.g ?_ V);refine S4 (h₀:=X.base) I.ok.mod.mS F.fn.kp (iL (ha pos pins s σ H _ (I.iJ _) h) λO s1 ⟨vs,H1,D,r,q⟩=>⟨D.Bi,?_⟩) he Z;have D:=D.eg;have q':sp (vs++[]) H1 Q E:=q;rw[Pj]at q';have hl:O.length=U.length:=by rw[<-r.length];exact G.len _ _ _ _ q'
 have hb:=F.b s1 O D.Bi (by rw[Pj];exact hl);rw[Pj]at hb;refine Wj (VD (G.run X.A X.stack s1 H1 ⟨O,[]⟩ O vs Q E hr D.Ir hb r q') λr s' J=>?_);cases r with
 |error e=>exact⟨H1,s1,D,J⟩
 |ok fl =>
  cases fl with
  |ret u=>exact D.after J
  |next=>exact False.elim J
  |brk=>exact False.elim J
  |cont=>exact False.elim J
section
variable {X:Cx}
theorem rF{b:List Vp}{R:TS}(h:∀D σ H,R D σ H->∃t,mV X b t/\t D σ H):mV X b R:=λpins s σ H D I hw=>by
 obtain⟨t,G,J⟩:=h D σ H hw;exact G pins s σ H D I J
theorem bK:fW X (.type "tuple") (λxs H Q=>∃p D,xs=[.ref p]/\(H p=Yc (.lst D)\/H p=Yc (.tup D))/\∀t G,aE H G->G t=Yc (.tup D)->Q (.ref t) G):=by
 intro pins s σ H xs J Q I r h;obtain⟨p,D,rfl,hp,q⟩:=h;refine md pins s σ H [.ref p] J Q I r ⟨p,D,rfl,?_⟩;rcases hp with hp|hp
 .exact .inl ⟨aZ.of hp,λl O=>q l _ (ai O) ag⟩
 exact .inr ⟨br.of hp,q p H (aE.refl H) hp⟩
theorem LR:Passes (gf X.prog X.w) X E0:=λ_ _ _ _ _ _ _ h=>by
 obtain⟨_,_,_,_,_,_,z⟩:=h;exact z.elim
theorem iO {x : UI}{st : Vp}{O : List UI}{f : Um}{U : Uz}{k : Nat}{sp : Sp}{e : UM}{es : List UM}{t : TA}{p pos : VJ}(G : aO X.prog X.w X.K X.mg X.base (gf X.prog X.w) k f U O sp)(F : Fn X.K X.mg x st O f U)(V : eI k X.A)(Z : PA X (e::es) t)
    (hg:Gl X x:=by rfl) (D:(x==("__debug__" : UI))=false:=by decide) (he:UC (e::es) X.env=(false,eval e X.env)::UC es X.env:=by rfl) (J:(backTo pos (UC es X.env)).any (·.1)=false:=by rfl) :
    PE X (.Call (.Name x p) (e::es) [] pos) (tW sp [] E0 t):= uS G V hg F.g F.fn.kp F.b .nil LR Z D he J
theorem hH {E : XK}{x : UI}{st : Vp}{O : List UI}{f : Um}{U : Uz}{k : Nat}{sp : Sp}{e : UM}{es : List UM}{t : TA}{p pos : VJ}(G : aO X.prog X.w X.K X.mg X.base (gf X.prog X.w) k f U O sp)(F : Fn X.K X.mg x st O f U)(V : eI k X.A)(Z : PA (X.iJ (kM X E)) (e::es) t)
    (hg:Gl (X.iJ (kM X E)) x:=by rfl) (D:(x==("__debug__" : UI))=false:=by decide) (he:UC (e::es) X.env=(false,eval e X.env)::UC es X.env:=by rfl) (J:(backTo pos (UC es X.env)).any (·.1)=false:=by rfl) :
    PE (X.iJ (kM X E)) (.Call (.Name x p) (e::es) [] pos) (tW sp [] E t):= uS (X:=X.iJ (kM X E)) G V hg F.g F.fn.kp F.b .nil (LM (F:=λ_ _=>True)) Z D he J
theorem Bu.oE{P:Ux}{w:UA}{K:OM}{mg:UI->Option Uj}{base:UH}{x qual:UI}{st:Vp}{f:Um}{Z:Uz}{N U:List UI}{k:Nat}{sp:Sp}(F:Bu K x qual st f Z)(S:aN N U (aD st))(len:∀J H Q E,sp J H Q E->J.length=U.length)
  (O:∀(G:Uj) (A:UG) (outer:List WY) (s:Uq) (H:Hp) (J:List V) (Q:VK) (E:XK),eI k (A.deeper (envOfC qual (aD st) s.heap.objs.size f G))->sp J H Q E->Own (lW (gf P w) P w K mg base N qual (aD st) f G A outer s H E) ->
   ∃t,mV ((lW (gf P w) P w K mg base N qual (aD st) f G A outer s H E).iJ (kM (lW (gf P w) P w K mg base N qual (aD st) f G A outer s H E) E)) (cq st) t/\t { nx:=λ_ H'=>Q .g9 H',rt:=Q } (start N J) H):aO P w K mg base (gf P w) (k+1) f Z U sp:=by
 refine F.okX S len λG A outer s H J Q E hr h X hX=>?_;subst hX;by_cases ok:(lW (gf P w) P w K mg base N qual (aD st) f G A outer s H E).Ok
 .exact O G A outer s H J Q E hr h ⟨ok,rfl,rfl,rfl⟩
 exact⟨λ_ _ _=>True,λpins s σ H D I _=>Us I.ok.eg ok,trivial⟩
theorem Bu.okO{P:Ux}{w:UA}{K:OM}{mg:UI->Option Uj}{base:UH}{x qual:UI}{st:Vp}{f:Um}{Z:Uz}{N U:List UI}{k:Nat}{sp:Sp}(F:Bu K x qual st f Z)(S:aN N U (aD st))(len:∀J H Q E,sp J H Q E->J.length=U.length)
  (O:∀(G:Uj) (A:UG) (outer:List WY) (s:Uq) (H:Hp) (J:List V) (Q:VK) (E:XK),eI k (A.deeper (envOfC qual (aD st) s.heap.objs.size f G))->sp J H Q E->Own (lW du P w K mg base N qual (aD st) f G A outer s H E).FA ->
   ∃t,mV (lW du P w K mg base N qual (aD st) f G A outer s H E).FA (cq st) t/\t { nx:=λ_ H'=>Q .g9 H',rt:=Q } (start N J) H):aO P w K mg base du (k+1) f Z U sp:=by
 refine F.ok S len λG A outer s H J Q E hr h=>?_;by_cases ok:(lW du P w K mg base N qual (aD st) f G A outer s H E).FA.Ok
 .exact O G A outer s H J Q E hr h ⟨ok,rfl,rfl,rfl⟩
 exact⟨λ_ _ _=>True,λpins s σ H D I _=>Us I.ok ok,trivial⟩
theorem eI.lt{k:Nat}{A:UG}(r:eI k A)(n:Nat)(h:n<=62):A.units+n+1<cLine:=by have:=r.units;omega
def PJ(X:Cx)(es:List UM)(m:Nat)(t:St->Hp->Prop):Prop :=
 ∀(pins:List (Um×U6)) (s:Uq) (σ:St) (H:Hp) (out:UI) (Q:Uj->Uq->Prop),Inv X pins σ H s->t σ H->out.length+m<=Uu->(∀x tk s',Inv X pins σ H s'->Q (.str x tk) s') ->
  wpAny (model X.prog X.w) X.A (Xt out (XG es X.env)) Q X.xe s
def aan:St->Hp->Prop:=λ_ _=>True
def aao(D:TE)(t:St->Hp->Prop):St->Hp->Prop:=λσ H=>D σ H λv H'=>H'=H/\(∃i:Int,v=.int i/\i.natAbs.log2<1920)/\t σ H
theorem Dq:PJ X [] 0 aan:=λpins s σ H out Q I _ hz q=>joinParts_nil (q _ _ _ (I.tok _)) (by omega)
theorem vj{x:UI}{j}{pos:VJ}{es:List UM}{m:Nat}{t:St->Hp->Prop}(h:PJ X es m t):PJ X (.Constant (.str x) j pos::es) (x.length+m) t:=λpins s σ H out Q I D hz q=>by
 show wpAny _ _ (Xt out (eval (.Constant (.str x) j pos) X.env::XG es X.env)) Q _ s;have e:(out++x).length=out.length+x.length:=W7 _ _;refine WL (Calls.Constant_str ?_);exact⟨by rw[e];omega,h pins _ σ H (out++x) Q (I.tok _) D (by rw[e];omega) q⟩
theorem Dr{a:UM}{pos:VJ}{es:List UM}{m:Nat}{t:St->Hp->Prop}{G:TE}(O:PE X a G)(h:PJ X es m t):PJ X (.FormattedValue a (-1) none pos::es) (1921+m) (aao G t):=λpins s σ H out Q I U hz q=>by
 show wpAny _ _ (Xt out (eval (.FormattedValue a (-1) none pos) X.env::XG es X.env)) Q _ s;refine WL (WM (cF (O pins s σ H _ I U) λu s1 V=>?_));obtain⟨v,Z,I1,r,rfl,⟨i,rfl,J⟩,D⟩:=V;obtain⟨tk,rfl⟩:=r;have l1:=Xc (k:=1920) (by decide) J;have e:(out++Str.ofString (toString i)).length=out.length+(toString i).length:=by rw[W7,PySem.ofString_length]
 refine formatField_int_small J ?_;exact⟨by rw[e];omega,h pins _ σ Z (out++Str.ofString (toString i)) Q (I1.tok _) D (by rw[e];omega) q⟩
def tFs(t:St->Hp->Prop):TE:=λσ H Q=>t σ H/\∀x,Q (.str x) H
theorem Hz{a b:UM}{es:List UM}{pos:VJ}{m:Nat}{t:St->Hp->Prop}(h:PJ X (a::b::es) m t)(G:m<=1000000):PE X (.JoinedStr (a::b::es) pos) (tFs t):=λpins s σ H Q I hw=>by
 have e:Str.empty.length=0:=rfl;have z:Uu=16777216:=UJ;exact JoinedStr_many (h pins s σ H Str.empty _ I hw.1 (by rw[e,z];omega) λx tk s' D=>⟨.str x,H,D,⟨_,rfl⟩,hw.2 x⟩)
end
open PySem.W in
structure Ds(K:Frag) (D:Um):Prop where
 ga:findIn K (.ref D) "__getattribute__" = some (Yc (.builtin "BaseException.__getattribute__"))
 gt:findIn K (.ref D) "__getattr__" = some none
 cl:findIn K (.ref D) "__class__" = some (Yc (.builtin "object.__class__"))
 sp:specialIn K (.builtin "object.__class__") "__get__" = some (Yc (.builtin "getset_descriptor.__get__"))
 tk:takesIn K (.builtin "object.__class__")=Yc true
 mo:mroIn K D (.type "object")=Yc true
 mb:mroIn K D (.type "BaseException")=Yc true
 hd:(clsIn K D).isSome=true
section
open PySem.W PySem.Calls Builtin Builtin.ObjectAttr Builtin.Getset_descriptor
variable {prog:Ux}{w:UA}{A:UG}{E:Uj->Uq->Prop}{K:Frag}{x D:Um}{hp:UH}{gs:Array GenState}{dr:Drawn}{tn:Nat}{os:OsState}
theorem yW(mS:K.In hp)(Z:Ds K D)(M:WZ):XS M hp (Builtin.ObjectAttr.find (.ref x) (.ref D) "__class__") (.bind (.builtin "getset_descriptor.__get__") (.builtin "object.__class__")):=by
 refine(Xk (M:=M) mS Z.cl).andThen ?_;refine(looks_specialIn (M:=M) mS Z.sp).andThen ?_;refine Looks.andThen (a:=Yc (.builtin "getset_descriptor.__get__",.builtin "object.__class__")) ?_ (Looks.tag .now);refine(looks_takesIn (M:=M) mS Z.tk).andThen ?_;exact .now
theorem tj{R:Result->Uq->Prop}{G:Uj}(mS:K.In hp)(LT:∀M:WZ,XS M hp (typeOf (.ref x)) (.ref D))(Z:Ds K D)(h:R (.ok (.ret (.ref D))) ⟨hp,gs,dr,tn,os⟩) :
  VM (model prog w) A (.call (.builtin "getset_descriptor.__get__") ⟨[.builtin "object.__class__",.ref x,G],[]⟩) R ⟨hp,gs,dr,tn,os⟩:=by
 have la:=LT (model prog w);have lb:=looks_mroIn (M:=model prog w) mS Z.mo;refine WN KF.slot_gs.plain KF.entry_gs (KF.slot_gs.check _ _ _ _ _ _ _ _ KF.type_class (KF.args_gs _ _ _) ?_);unfold Builtin.«getset_descriptor.__get__» descrGet;rw[dga_obj];refine Uh (Ur ?_);unfold descrGetter descrCheckInstance descrNameAndClass Ws;simp only[KF.owner_class]
 repeat lk
 refine⟨Code.quiet_builtin _ (by decide +kernel),Vn KF.entry_class ?_⟩;unfold Builtin.«object.__class__» shownTypeOf;repeat lk
 exact h
theorem BD{Q:Fin->Uq->Prop}{tk:XO}(mS:K.In hp)(LT:∀M:WZ,XS M hp (typeOf (.ref x)) (.ref D))(Z:Ds K D)(h:Q (.done (.ret (.ref D))) ⟨hp,gs,dr,tn,os⟩) :
  wpAny (model prog w) A (Builtin.«object.__getattribute__» ⟨[.ref x,.str "__class__" tk],[]⟩) Q E ⟨hp,gs,dr,tn,os⟩:=by
 have la:=LT (model prog w);have lb:=yW (x:=x) mS Z (model prog w);unfold Builtin.«object.__getattribute__»;refine Uh (m:=slotArgs "__getattribute__" 1 ⟨[.ref x,.str "__class__" tk],[]⟩) (Ur ?_);show wpAny _ _ (attrName (.str "__class__" tk) >>= _) _ _ _;refine Uh (m:=attrName (.str "__class__" tk)) (Ur ?_);refine Uh (la.at ?_);refine Uh (lb.at ?_);show wpAny _ _ (bindTo (.builtin "getset_descriptor.__get__") (.builtin "object.__class__") (.ref x) (.ref D)) _ _ _;unfold bindTo;refine Uh (UD (Wj (tj mS LT Z ?_)));exact Ur h
theorem BE{Q:Option Uj->Uq->Prop}(mS:K.In hp)(LT:∀M:WZ,XS M hp (typeOf (.ref x)) (.ref D))(Z:Ds K D)(h:Q (Yc (.ref D)) ⟨hp,gs,dr,tn+1,os⟩) :
  wpAny (model prog w) A (getAttr? (.ref x) "__class__") Q E ⟨hp,gs,dr,tn,os⟩:=by
 have la:=LT (model prog w);have lb:=Xk (M:=model prog w) mS Z.ga;have O:=Xk (M:=model prog w) mS Z.gt;have ld:=looks_mroIn (M:=model prog w) mS Z.mb;have U:XS (model prog w) hp (Ws (.ref x) (.type "BaseException")) true:=la.andThen ld;have J:=PySem.F.attr_ValueError.ga;have G:(onTheHeap (Value.ref D)&&Value.builtin "BaseException.__getattribute__" == Value.builtin "object.__getattribute__")=false:=by
  rw[show(Value.builtin "BaseException.__getattribute__" == Value.builtin "object.__getattribute__")=false from by decide +kernel]
  rfl
 unfold getAttr? getAttrBy? getAttrBy;refine Uh (wpAny_mkText (Uh (Vd (UD (Uh (la.at (Uh (lb.at ?_))))))));show wpAny _ _ (if(onTheHeap (Value.ref D)&&Value.builtin "BaseException.__getattribute__" == Value.builtin "object.__getattribute__")=true then _ else getAttrByItsOwn _ _ _ _ _ _) _ _ _;rw[G,Uk O4];unfold getAttrByItsOwn;show wpAny _ _ (XD (.ref D) "__getattr__" >>= _) _ _ _;refine Uh (O.at ?_);refine Uh (Vd (UD ?_));show wpAny _ _ (boundAndCalled _ _ _) _ _ _;unfold boundAndCalled;refine Uh (WK (J.bind (.ref x)) ?_);show wpAny _ _ (call (.builtin "BaseException.__getattribute__") [.ref x,.str "__class__" tn]) _ _ _;have V:builtinKind "BaseException.__getattribute__" = some .slot:=by decide +kernel
 have hs:splitId "BaseException.__getattribute__" = some ("BaseException","__getattribute__"):=by decide +kernel
 have hg:=PySem.F.args_bexc_ga (.ref x) (.str "__class__" tn);refine Wj (WN J.plain PySem.F.entry_bexc_ga ?_);simp only[checkBuiltinCall,V,hs];refine Uh (U.at ?_)
 repeat (first|assumption|with_reducible refine BD mS LT Z ?_|wp_step)
theorem xl(Z:Ds K D):KitX K (.ref x) (.ref D) (λh=>∃G,h.get? x=Yc G/\G.cls=.ref D) where
 ty:=λM h _ q=>by
  obtain⟨G,e,c⟩:=q;rw[<-c];exact(Looks.ld e).andThen .now
 it:=λ_ _ mS _=>by
  have hd:=Z.hd;unfold clsIn at hd
  split at hd
  .rename_i J;intro A' Q' E' s' U V;unfold isType loadHead;exact Uh (wpAny_loadPart (U _ _ (mS _ _ J)) (Ur V))
  cases hd
 ne:=λh tp dd its n sl mS O=>by
  have hd:=Z.hd;refine Qj.mpr λq=>?_;have e:D=tp:=Value.ref.inj (beq_iff_eq.mp q);rw[e]at hd;unfold clsIn at hd
  split at hd
  .rename_i J;have z:=(mS _ _ J).symm.trans O;cases z
  cases hd
 ca:=λ{_ _ _ _ _ s} mS q k=>by
  obtain⟨hp,gs,dr,tn,os⟩:=s;obtain⟨G,e,c⟩:=q;exact BE mS (λM=>by rw[<-c];exact(Looks.ld e).andThen .now) Z k
end
theorem tm:UR "ValueError" = some (.type "ValueError"):=by decide +kernel
theorem kO{X:Cx}{a D:Um}{G:U6}(J:G.cls=.ref D)(Z:Ds X.K D):fW (i8 X a G) (.builtin "isinstance") (λxs H Q=>∃c b,((∃c',c=V.ref c'/\Pw X.K (.ref D) (.ref c')=Yc b)\/(∃n,c=V.ty n/\Pw X.K (.ref D) (.type n)=Yc b))/\xs=[.ref a,c]/\Q (.bl b) H):=by
 intro pins s σ H xs us Q I r h;obtain⟨c,b,U,rfl,q⟩:=h;obtain⟨u,v,rfl,ru,O⟩:=r.two;cases ru;have hp:=(I.pin (a,G) (Pn _ (OZ _ (OS.mpr rfl)))).1;have mS:X.K.In s.heap:=I.Bi;rcases U with⟨c',rfl,e⟩|⟨n,rfl,e⟩
 .cases O;exact Tx (xl Z) mS ⟨G,hp,J⟩ e (λz=>nomatch z) λtk=>⟨.bl b,H,I.tok tk,rfl,q⟩
 cases O;exact Tx (xl Z) mS ⟨G,hp,J⟩ e (λz=>nomatch z) λtk=>⟨.bl b,H,I.tok tk,rfl,q⟩
section
variable {X:Cx}
noncomputable def I0(K:OM)(H:Hp):Nat->V->V->Prop
 |0,x,y=>x=y/\j6 x=true
 |n+1,x,y=>(x=y/\j6 x=true)\/∃(a b:Um) (xs D:List V),x=.ref a/\y=.ref b/\((aZ K H a xs/\aZ K H b D)\/(br K H a xs/\br K H b D))/\xs.length=D.length/\∀(i:Nat) (u v:V),xs[i]?=Yc u->D[i]?=Yc v->I0 K H n u v
theorem xm{x:V}(h:j6 x=true):Ga x x=true:=by
 cases x <;> first|rfl|(exact Us h O4)|(show(_==_)=true;exact US _)
theorem ir{xs:List V}{its:List Uj}{j:Nat}(r:Vals xs its)(G:j<its.toArray.size):∃x,xs[j]?=Yc x/\RelV x its.toArray[j]:=by
 have U:=r.length;have D:j<xs.length:=by rw[OT]at G;omega
 obtain⟨u,J,O⟩:=r.get (OG D);refine⟨_,OG D,?_⟩;have z:its.toArray[j]?=Yc u:=by simpa using J
 rw[(Rm.mp z).2];exact O
theorem all_true(n:Nat):(OV n).all (λ_=>true)=true:=Rq.mpr λ_ _=>rfl
section
variable {pins:List (Um×U6)}{σ:St}{H:Hp}{s:Uq}
theorem oF(I:Inv X pins σ H s):∀(n:Nat) {A:UG}{x y:V}{u v:Uj},A.units+n<cLine->I0 X.K H n x y->RelV x u->RelV y v->SeqAt.EqAt A s u v true
 |0,A,x,y,u,v,hu,h,O,U=>by
  obtain⟨rfl,f⟩:=h;have z:=yO (A:=A) (s:=s) O U f f;rw[xm f]at z;exact z
 |n+1,A,x,y,u,v,hu,h,O,U=>by
  rcases h with⟨rfl,f⟩|⟨a,b,xs,ys,rfl,rfl,hs,hl,hd⟩
  .have z:=yO (A:=A) (s:=s) O U f f;rw[xm f]at z;exact z
  cases O;cases U;by_cases e:a=b
  .subst e;exact SeqAt.EqAt.same _
  refine SeqAt.EqAt.of_refs e ?_;have D:A.in1.units+n<cLine:=by show A.units+1+n<cLine;omega
  rcases hs with⟨Z,h2⟩|⟨Z,h2⟩
  .obtain⟨i1,G,p1,z1⟩:=I.list Z;obtain⟨i2,J,p2,z2⟩:=I.list h2;have l1:=G.length;have l2:=J.length;have z:=SeqAt.RcAt.lists (A:=A) (e:=λ_=>true) p1.isList p2.isList (by simp only[OT];omega) (by omega) λj q1 q2=>by
    obtain⟨x1,e1,t1⟩:=ir G q1;obtain⟨x2,e2,t2⟩:=ir J q2;exact oF I n D (hd j x1 x2 e1 e2) t1 t2
   rw[all_true]at z;exact z
  obtain⟨i1,G,p1,z1⟩:=I.tuple Z;obtain⟨i2,J,p2,z2⟩:=I.tuple h2;have l1:=G.length;have l2:=J.length;have z:=SeqAt.RcAt.tuples (A:=A) (e:=λ_=>true) (show s.heap.IsTuple a i1.toArray from p1) (show s.heap.IsTuple b i2.toArray from p2) (by omega) λj q1 q2=>by
   obtain⟨x1,e1,t1⟩:=ir G q1;obtain⟨x2,e2,t2⟩:=ir J q2;exact oF I n D (hd j x1 x2 e1 e2) t1 t2
  have e3:(i1.toArray.size==i2.toArray.size)=true:=by simp only[OT,beq_iff_eq];omega
  rw[all_true,e3]at z;exact z
end
def HA(K:OM)(H:Hp)(n:Nat)(a b:Um):Prop:=∃xs D:List V,aZ K H a xs/\aZ K H b D/\xs.length=D.length/\∀(i:Nat) (u v:V),xs[i]?=Yc u->D[i]?=Yc v->I0 K H n u v
theorem mG(n:Nat)(hu:X.A.units+n+1<cLine):kA X (UQ .NotEq) (λx y H Q=>∃a b:Um,x=.ref a/\y=.ref b/\HA X.K H n a b/\Q (.bl false) H):=by
 intro pins s σ H x y v u Q I J O h;obtain⟨a,b,rfl,rfl,⟨xs,ys,U,V,hl,hd⟩,q⟩:=h;cases J;cases O;obtain⟨i1,D,Z,z1⟩:=I.list U;obtain⟨i2,G,p2,z2⟩:=I.list V;have l1:=D.length;have l2:=G.length;refine SeqAt.RcNeAt.lists (A:=X.A) (e:=λ_=>true) Z.isList p2.isList (by simp only[OT];omega) (by omega) (λj q1 q2=>?_) X.prog X.w X.xe _ ⟨.bl false,H,I,?_,q⟩
 .obtain⟨x1,e1,t1⟩:=ir D q1;obtain⟨x2,e2,t2⟩:=ir G q2;exact oF I n (by show X.A.units+1+n<cLine;omega) (hd j x1 x2 e1 e2) t1 t2
 show Value.bool _=Value.bool false;rw[all_true]
 rfl
end
theorem Gp{X:Cx}{scope:VY}{pre:List UI}{y:UI}{c:Um}{j:Nat}(D:scope.kind=.function)(h:∀z∈scope.names,z.2≠.cell/\(z.2=.free->z.1=y))(hn:∀z∈scope.names,z.2=.local->scope.names.lookup z.1=Yc .local)
  (O:Xb scope X.env=pure [(y,c)]) (hc:X.env.cells.lookup y=Yc c) (hN:X.N[j]?=Yc y) (G:X.env.kindOf y=Yc .cell) (hr:(VO scope X.env).names.lookup y=Yc .cell) :
  mD X scope [(y,c)] (pre++[y]) (R7 pre.length none++[Yc j]) where
 C6:=O
 cell:=λz hz=>(h z hz).1
 kind:=D
 names:=hn
 cls:=λx c' e=>by
  rw[Q5]at e
  split at e
  .rename_i hx;rw[eq_of_beq hx,<-e];exact hc
  cases e
 has:=λx e=>by
  have key:∀k,(VO scope X.env).names.lookup x=Yc k->k=.cell\/k=.free->x=y:=λk e G=>by
   have hm:=PySem.mem_of_lookup e;obtain⟨⟨n,Z⟩,hy,J⟩:=OO.mp hm;have h1:=h _ hy;by_cases U:Z=.free
   .have z:=h1.2 U;dsimp only at J
    split at J
    .cases J;exact z
    cases J;exact z
   have hb:(Z==NameKind.free)=false:=by simpa using U
   simp only[hb,Qw,PF,U1,Prod.mk.injEq]at J;obtain⟨_,rfl⟩:=J;rcases G with G|G
   .exact Us G h1.1
   exact Us G U
  have V:x=y:=by
   rcases e with e|e
   .exact key _ e (.inl rfl)
   exact key _ e (.inr rfl)
  exact⟨c,by rw[V,Q5,US]⟩
 len:=by simp
 src:=λi k x e1 e2=>by
  by_cases hi:i<pre.length
  .rw[Pg (by simpa using hi),Q1,Uo hi]at e1;cases e1
  have hl:=(OI.mp e2).1;rw[OQ,QA]at hl;have e:i=pre.length:=by omega
  subst e;rw[Pk (by simp)]at e1;rw[Pk (ON _)]at e2;simp at e1 e2;subst e1 e2;exact⟨hN,.inl G,.inl hr⟩
theorem jJ {X : Cx}{scope : VY}{x y : UI}{c : Um}{j : Nat}(D : scope.kind=.function)(h : ∀ z ∈ scope.names, z.2 ≠ .cell /\ (z.2=.free -> z.1=y))(J : ∀ z ∈ scope.names, z.2=.local -> scope.names.lookup z.1=Yc .local)
    (G:Xb scope X.env=pure [(y,c)]) (O:X.env.cells.lookup y=Yc c) (U:X.N[j]?=Yc y) (V:X.env.kindOf y=Yc .cell) (Z:(VO scope X.env).names.lookup y=Yc .cell) :
    mD X scope [(y,c)] [x,y] [none,some j]:= Gp (pre:=[x]) D h J G O U V Z
theorem BF{M:WZ}{A:UG}{E:Uj->Uq->Prop}{s:Uq}{env:WY}{x:UI}{v:Uj}{Q:Unit->Uq->Prop}(h:wpAny M A (Xq env x v) Q E s):wpAny M A (bindName env x v) Q E s:=fun Γ p hΓ=>by
 rw[Sem.wp_bindName];exact h Γ _ hΓ
theorem jK{X:Cx}{elt iter tg:UM}{ifs:List UM}{scope:VY}{pos pos' ps:VJ}{x:UI}{ix:Nat}{cl:List (UI×Um)}{NC:List UI}{yE:List (Option Nat)}{wi:TI}{g:TG}{tt:TT}{te:TE}
  (hN:X.N.Nodup) (AA:X.N[ix]?=Yc x) (hx:Loc X.env.scope x) (hc:X.calm=true) (O:mD X scope cl NC yE) (hi:PI X tg iter wi)
  (hg:∀fp C s₀ H₀,PG (cY X scope cl NC fp C s₀ H₀) tg g) (ht:∀fp C s₀ H₀,Nx (cY X scope cl NC fp C s₀ H₀) ifs tt) (he:∀fp C s₀ H₀,PE (cY X scope cl NC fp C s₀ H₀) elt te)
  (hs:∀x,V8 iter X.env x=pure x:=by intro _;rfl) (hsw:Wf (.ListComp elt [⟨tg,iter,ifs,0⟩] scope pos) (Yc (.Name x pos')) ps.line X.env=pure true:=by rfl)
  (hf:X.fn x=true\/X.env.scope.names.lookup x=Yc .local:=by first|exact .inl rfl|exact .inr rfl|assumption):PS X (.Assign [.Name x pos'] (.ListComp elt [⟨tg,iter,ifs,0⟩] scope pos) ps) (FE (Ht wi g tt te yE) (wN ix)):=by
 intro pins s σ H Dn I h;rw[exec_Assign_Name_used _ _ _ _ hsw];refine Uh (U7 (Uh ?_));show wpAny _ _ (comprehension (.ListComp elt [⟨tg,iter,ifs,0⟩] scope pos) scope X.env _ (newList []) false (eval iter X.env) (Yc (assign (.Name x pos') X.env)) >>= λ_=>pure ()) _ _ s;refine Uh ?_;refine Wb (use:=Yc (assign (.Name x pos') X.env)) rfl hs O.C6 O.kind O.names (cF (hi pins s σ H _ I h) λv s1 h1=>cF h1 λitv D h2=>?_);obtain⟨it,fp,tn,J,H2,e,I2,T,Im,f2,h2⟩:=h2;subst e;have hD:H2 D.heap.objs.size=none:=I2.bN.fresh (ON _);obtain⟨W,⟨m0,w0⟩,turn⟩:=h2 _ hD;refine UK (WJ O.cell (by intro y hy;simp at hy) (λh₁ V Z=>?_) O.kind);dsimp only at V Z⊢;have I3:Inv X pins σ (upd H2 D.heap.objs.size (.lst [])) { D with heap:=D.heap.push { cls:=.type "list",dict:=none,data:=.seq ([]:List Uj).toArray } }:=I2.IH (its:=[]) (t':=D.toks) .nil (by decide);have Ly:∀b∈fp,∃o,D.heap.get? b=Yc o:=λb U=>let⟨o,e,_⟩:=T.obj 0 _ Im b U;⟨o,e⟩
 have neD:∀b∈fp,b≠D.heap.objs.size:=λb U=>let⟨o,e⟩:=Ly b U;Pb (O3 e)
 have f3:∀b∈fp,iK X pins (upd H2 D.heap.objs.size (.lst [])) b:=λb U=>⟨by rw[aG (neD b U)];exact(f2 b U).1,(f2 b U).2⟩
 generalize Lz:({ D with heap:=D.heap.push { cls:=.type "list",dict:=none,data:=.seq ([]:List Uj).toArray } }:Uq)=G at I3;have IM:D.heap.push { cls:=.type "list",dict:=none,data:=.seq ([]:List Uj).toArray }=G.heap:=by rw[<- Lz]
 have LA:∀b∈fp,∃o,G.heap.get? b=Yc o:=λb U=>let⟨o,e⟩:=Ly b U;⟨o,by rw[<-IM];exact OJ _ e⟩
 rw[IM]at V Z⊢;have old:∀b o,G.heap.get? b=Yc o->h₁.get? b=Yc o:=λb o e=>Z.extBut b o (Pb (O3 e)) (OJ _ e);have LB:tn 0 h₁:=T.keep 0 _ _ Im λb U o e=>old b o (by rw[<-IM];exact OJ _ e);have IC:∀tk,Inv (cY X scope cl NC fp G.heap.objs.size G (upd H2 D.heap.objs.size (.lst []))) [] (Aq yE σ) (upd H2 D.heap.objs.size (.lst [])) { G with heap:=h₁,toks:=tk }:=λtk=>wZ O I3 f3 LA V old;have yR:∀{H':Hp},(∀b∈fp,H' b=none)->∀b∈fp,iK (cY X scope cl NC fp G.heap.objs.size G (upd H2 D.heap.objs.size (.lst []))) [] H' b:=λ{H'} hn b U=>by
  obtain⟨o,e⟩:=LA b U;refine⟨hn b U,Pb (O3 e),λz=>?_,.inl U,λx c hx=>(f3 b U).2.2.2.2.1 x c (O.cls x c hx),λp hp=>Us (show p∈([]:List (Um×U6))from hp) (by simp)⟩;rcases O9.mp (I3.qM b z)with q|q
  .exact(f3 b U).2.1 q
  exact(f3 b U).2.2.1 q
 have loop:∀s₃:Uq,s₃={ D with heap:=h₁,toks:=D.toks+([]:List (UI×Uj)).length } ->
   VM (model X.prog X.w) X.A (.compLoop (.ListComp elt [⟨tg,iter,ifs,0⟩] scope pos) 0 (.ref it) (.ref D.heap.objs.size) (Wi scope cl G.heap.objs.size X.env))
    (compPost (model X.prog X.w) X.A X.xe (Yc (assign (.Name x pos') X.env)) (λ_ sE=>wpAny (model X.prog X.w) X.A (pure ()) (λ_ s₁=>wpAny (model X.prog X.w) X.A (pure Flow.next) (SP X pins Dn) X.xe s₁) X.xe sE) (.ref D.heap.objs.size) G.heap.objs.size) s₃:=by
  rintro s₃ rfl;refine codeAny_loop rfl (λn s'=>∃i σ' H',Inv (cY X scope cl NC fp G.heap.objs.size G (upd H2 D.heap.objs.size (.lst []))) [] σ' H' s'/\tn i s'.heap/\(∀b∈fp,H' b=none)/\W i n σ' H') (λn s' hI=>?_) m0
   ⟨0,_,_,by have z:=IC (D.toks+([]:List (UI×Uj)).length);rw[<-Lz]at z⊢;exact z,LB,λb U=>(f3 b U).1,w0⟩
  show wpAny _ X.A ((compTurn (.ListComp elt [⟨tg,iter,ifs,0⟩] scope pos) 0 (.ref it) (.ref D.heap.objs.size) (Wi scope cl G.heap.objs.size X.env)).onRaise (λx=>do WU x (Wi scope cl G.heap.objs.size X.env);theTreesLotGoes x)) _ _ s';refine wpAny_noted ?_;rw[compTurn_list];obtain⟨i,σ3,H3,LC,Hl,Hm,w3⟩:=hI;rcases turn i n σ3 H3 w3 with⟨stop,qn⟩|⟨go,N,hN,step⟩
  .refine Uh (U7 (Uh (cF (T.done (cY X scope cl NC fp G.heap.objs.size G (upd H2 D.heap.objs.size (.lst []))) rfl rfl rfl hc i [] s' σ3 H3 _ LC (yR Hm) Hl stop) λr s4 ⟨hr,I4⟩=>?_)));subst hr;obtain⟨m',KU,_⟩:=I4.loc;refine Ur ?_;show wpAny _ _ (do XW pos';bindName X.env x (.ref D.heap.objs.size)) _ _ s4;refine Uh (U7 ?_);have IX:Inv X pins σ H3 s4:=comp_back I3 f3 I4 (Heap.SameBut.refl _ _);have fC:iK X pins H3 G.heap.objs.size:=I3.uP (ON _) I4.free;obtain⟨c0,c1,c2,c3,c4,c5⟩:=fC;refine BF (tQ IX hN AA hx (v:=.ref D.heap.objs.size) rfl (λs5 I5 sb=>?_) hf);obtain⟨aa,sb1,sb2⟩:=sb;have nA:G.heap.objs.size≠aa:=by
    rcases sb2 with z|z
    .rw[z];exact c1
    exact Ne.symm (c4 x aa z)
   obtain⟨oo,es,ep,g1,g2⟩:=KU;refine⟨m',⟨oo,es,ep,(sb1.2 _ nA).trans g1,g2⟩,λh' Hu=>Ur (Ur ⟨_,H3,I5.turned (t':=s5.toks) (λb o U e=>(Hu.2 b U).trans e) c0 c1 c3 c4 c5,qn⟩)⟩
  refine Uh (U7 (Uh (cF (T.item (cY X scope cl NC fp G.heap.objs.size G (upd H2 D.heap.objs.size (.lst []))) rfl rfl rfl hc i [] s' σ3 H3 _ LC (yR Hm) Hl go) λr s4 ⟨u,hr,h4⟩=>?_)));subst hr;refine Uh (cF h4 λ_ s5 zq=>?_);obtain⟨x,H5,I5,r5,y5,CI,Lc⟩:=zq;have Ld:=I5.pinned (yR Lc) (T.obj _ _ CI);refine Uh (iL (hg fp _ G _ _ s5 σ3 H5 x u _ Ld r5 (step x H5 y5)) λ_ s6 ⟨σ6,H6,I6,q6⟩=>?_);have again:∀{s7:Uq}{H7:Hp},Inv (cY X scope cl NC fp G.heap.objs.size G (upd H2 D.heap.objs.size (.lst []))) ([]++ox fp s5.heap) σ6 H7 s7->N σ6 H7 ->
    ∃m,m<n/\∃i σ' H',Inv (cY X scope cl NC fp G.heap.objs.size G (upd H2 D.heap.objs.size (.lst []))) [] σ' H' s7/\tn i s7.heap/\(∀b∈fp,H' b=none)/\W i m σ' H':=λ{s7 H7} I7 n7=>by
   obtain⟨m',hm,w7⟩:=hN σ6 H7 n7;refine⟨m',hm,i+1,σ6,H7,I7.jl,T.keep _ _ _ CI λb U o e=>(I7.pin (b,o) (OZ _ (OZ _ (gD U e)))).1,λb U=>?_,w7⟩;obtain⟨o,e,d⟩:=T.obj _ _ CI b U;exact(I7.pin (b,o) (OZ _ (OZ _ (gD U e)))).2.1
  refine Uh (iL (ht fp _ G _ _ s6 σ6 H6 _ I6 q6) λok s7 ⟨H7,I7,q7⟩=>?_);cases ok with
  |false=>exact Ur ⟨rfl,again I7 q7⟩
  |true =>
   refine Uh (Uh (iL (he fp _ G _ _ s7 σ6 H7 _ I7 q7) λu8 s8 zq=>?_));obtain⟨v8,H8,I8,r8,ys,hy,hz,n8⟩:=zq;refine Uh (iL (b8 _ s8 σ6 H8 (.ref D.heap.objs.size) [v8] (.ref D.heap.objs.size) [u8] (λ_ H9=>N σ6 H9) I8 rfl (.cons r8 .nil) ⟨_,ys,v8,rfl,rfl,hy,hz,n8⟩) λ_ s9 zq=>?_);obtain⟨_,H9,I9,_,n9⟩:=zq;exact Ur (Ur ⟨rfl,again I9 n9⟩)
 exact Wq (loop _ rfl) (T.self _ 0 _ _ _ LB (loop _ rfl))
theorem nv{X:Cx}{K:OM}(D:X.K=K):Lo X (Lp K):=D▸eD
theorem AB{X:Cx}{K:OM}(D:X.K=K):Lo X (FZ K):=D▸ej
section
variable {X:Cx}
theorem Dt:UR "sum" = some (.builtin "sum"):=by decide +kernel
end
theorem rG{h:UH}:∀{ns:List Int}{its:List Uj},Vals (ns.map V.int) its->ReadsAll h its (ns.map PyData.int) []
 |[],_,.nil=>.nil
 |n::ns,_::_,.cons r t=>by
  obtain⟨tk,rfl⟩:=r;exact ReadsAll.cons (as:=[]) (bs:=[]) (.int n tk) (rG t)
theorem mf:∀{ns:List Int},(∀n∈ns,n.natAbs.log2<1920)->PyData.showableAll (ns.map PyData.int)=true
 |[],_=>rfl
 |n::ns,h=>by
  show(decide (n.natAbs.log2<1920)&&PyData.showableAll (ns.map PyData.int))=true;rw[Ul (h n O2),mf λm D=>h m (O1 _ D)]
  rfl
theorem pz:∀ns:List Int,PyData.hasDictAll (ns.map PyData.int)=false
 |[]=>rfl
 |n::ns=>by show(false||PyData.hasDictAll (ns.map PyData.int))=false;rw[pz ns];rfl
theorem rH:∀ns:List Int,PyData.depthAll (ns.map PyData.int)=0
 |[]=>rfl
 |n::ns=>by show max 0 (PyData.depthAll (ns.map PyData.int))=0;rw[rH ns];rfl
theorem rJ:∀{ns:List Int},(∀n∈ns,n.natAbs.log2<1920)->(PyData.shownAll (ns.map PyData.int)).length=ns.length/\((PyData.shownAll (ns.map PyData.int)).map (·.length)).sum<=1921*ns.length
 |[],_=>⟨rfl,ON _⟩
 |n::ns,h=>by
  obtain⟨e1,e2⟩:=rJ (ns:=ns) λm D=>h m (O1 _ D);have G:=Xc (k:=1920) (by decide) (h n O2);refine⟨by show(PyData.shownAll (ns.map PyData.int)).length+1=ns.length+1;rw[e1],?_⟩;show(Str.ofString (toString n)).length+((PyData.shownAll (ns.map PyData.int)).map (·.length)).sum<=1921*(ns.length+1);rw[PySem.ofString_length];omega
theorem yX:UR "max" = some (.builtin "max"):=by decide +kernel
def Ko(X:Cx)(b:List Vp)(t:XK->TS):Prop :=
 ∀(E:XK) (pins:List (Um×U6)) (s:Uq) (σ:St) (H:Hp) (D:Ends),Inv X pins σ H s->t E D σ H ->
  wpAny (model X.prog X.w) X.A (execs b X.env) (SP X pins D) (λe s'=>∃G J,Inv X pins σ G J/\gf X.prog X.w X.stack G J E e s') s
theorem ny{X:Cx}{J:UM}{G:VJ}{t:XK->TE}(V:PEX X J t)(O:Wf J none G.line X.env=pure false:=by rfl):Ko X [.Expr J G] (λE D σ H=>t E σ H λ_ U=>D.nx σ U):=λE pins s σ H D I h=>by
 refine Vr (wpAny_Expr_any (UX (V E pins s σ H _ I h) (λv Z ⟨y,U,I1,r1,q1⟩=>?_) λe s' hx=>hx) I.quiet O);exact Va (show SP X pins D .next Z from⟨σ,U,I1,q1⟩)
theorem yY{X:Cx}{c:UM}{a b:List Vp}{pos:VJ}{V:TT}{Z tb:XK->TS}(hc:PT X.FA c V)(ha:Ko X a Z)(hb:Ko X b tb):Ko X [.If c a b pos] (λE=>K0 V (Z E) (tb E)):=λE pins s σ H D I h=>by
 refine Vr (wpAny_If (iL (hc pins s σ H _ (I.iJ _) h) λd G ⟨J,I1,q1⟩=>?_));have go:∀{O:List Vp}{t':XK->TS},Ko X O t'->t' E D σ J->wpAny (model X.prog X.w) X.A (execs O X.env) (λf G=>match f with|.next=>wpAny (model X.prog X.w) X.A (execs [] X.env) (SP X pins D) (λe s'=>∃J G,Inv X pins σ J G/\gf X.prog X.w X.stack J G E e s') G|f=>SP X pins D f G) (λe s'=>∃J G,Inv X pins σ J G/\gf X.prog X.w X.stack J G E e s') G:=λ{O t'} U ht=>by
  refine UX (U E pins G σ J D I1.eg ht) (λf s2 q=>?_) λ_ _ x=>x;cases f with
  |next=>exact Va q
  |ret v=>exact q
  |brk=>exact q
  |cont=>exact q
 cases d with
 |true=>exact go ha q1
 |false=>exact go hb q1
noncomputable def qx(X:Cx)(a:Um)(D:U6):Cx:={ X with pn:=X.pn++[(a,D)] }
theorem Inv.Ja{X:Cx}{pins:List (Um×U6)}{σ:St}{H:Hp}{s:Uq}{a:Um}{D:U6}(ok:X.Ok)(I:Inv (i8 X a D) pins σ H s):Inv (qx X a D) pins σ H s :=
 ⟨⟨ok.mod,ok.kind,ok.glob,ok.blt,ok.above,ok.inj,ok.has,ok.Ie,ok.hd,ok.frames,ok.Hg,ok.Nu,ok.bs,ok.Cy,ok.qK,ok.Bh,ok.mw,ok.Fy⟩,I.os,I.bare,I.base,I.loc,I.cell,I.free,I.i0,I.pin,I.bN,I.len⟩
theorem Inv.nB{X:Cx}{pins:List (Um×U6)}{σ:St}{H:Hp}{s:Uq}{a:Um}{D:U6}(ok:X.Ok)(I:Inv (qx X a D) pins σ H s):Inv X pins σ H s :=
 ⟨ok,I.os,I.bare,I.base,I.loc,I.cell,I.free,I.i0,λp hp=>I.pin p (by
  show p∈(X.pn++[(a,D)])++pins;rcases OY.mp hp with z|z
  .exact Pn _ (Pn _ z)
  exact OZ _ z),I.bN,I.len⟩
section
variable {X:Cx}
def aap(D:TE)(t:St->Hp->Prop):St->Hp->Prop:=λσ H=>D σ H λv H'=>H'=H/\(∃(l:Um) (ns:List Int),v=.ref l/\H l=Yc (.tup (ns.map V.int))/\ns.length<=100/\∀n∈ns,n.natAbs.log2<1920)/\t σ H
theorem Jb{a:UM}{pos:VJ}{es:List UM}{m:Nat}{t:St->Hp->Prop}{O:TE}(V:X.A.guards=Yc [])(Z:X.A.units+3<cLine)(ha:PE X a O)(h:PJ X es m t):PJ X (.FormattedValue a (-1) none pos::es) (200000+m) (aap O t):=λpins s σ H out Q I ht hz q=>by
 show wpAny _ _ (Xt out (eval (.FormattedValue a (-1) none pos) X.env::XG es X.env)) Q _ s;refine WL (WM (cF (ha pins s σ H _ I ht) λu s1 h1=>?_));obtain⟨v,H1,U,r,rfl,⟨l,ns,rfl,hl,hn,D⟩,G⟩:=h1;cases r;obtain⟨z2,its,rv,⟨o,e,hc,n,hd⟩⟩:=U.bN l _ hl;have rd:Reads s1.heap (.ref l) (.tuple (ns.map PyData.int)) []:=Reads.tuple (as:=[]) e hc hd (rG rv);obtain⟨e1,e2⟩:=rJ D;have l1:=tupleText_len_le (PyData.shownAll (ns.map PyData.int));have l2:(PyData.shown (.tuple (ns.map PyData.int))).length<=200000:=by
  show(tupleText (PyData.shownAll (ns.map PyData.int))).length<=200000;omega
 have sz:=UJ;have J:(PyData.tuple (ns.map PyData.int)).depth=1:=by
  show PyData.depthAll (ns.map PyData.int)+1=1;rw[rH]
 refine formatField_of_reads rd (mf D) (PyData.noDict_hsm (pz ns)) V (by rw[J];exact Z) (λ_ _ e=>e) (λh' u tk hk=>?_) (by rw[sz];omega);have e3:(out++PyData.shown (.tuple (ns.map PyData.int))).length=out.length+(PyData.shown (.tuple (ns.map PyData.int))).length:=W7 _ _;exact⟨by rw[e3];omega,h pins _ σ H1 _ Q (U.kept (t':=tk) hk) G (by rw[e3];omega) q⟩
end
section
variable {X:Cx}{a b c d:UM}{ta tb tc td:TE}{pos:VJ}
def Gq(r U V:R2)(ta tb tc td:TE):TE:=λσ H Q=>ta σ H λx Z=>tb σ Z λy H2=>r x y H2 λz D=>∃k,z=.bl k /\
 (if k=true then tc σ D λG H4=>U y G H4 λz' J=>∃O,z'=.bl O/\(if O=true then td σ J λx' H6=>V G x' H6 Q else Q (.bl false) J)else Q (.bl false) D)
theorem BG{op D G:XR}{r r' J:R2}(ho:kA X (UQ op) r)(O:kA X (UQ D) r')(U:kA X (UQ G) J)(ha:PE X a ta)(hb:PE X b tb)(hc:PE X c tc)(hd:PE X d td)
  (hm:lastMarks [op,D,G] [b,c,d]=false:=by with_unfolding_all rfl):PT X (.Compare a [op,D,G] [b,c,d] pos) (CL (Gq r r' J ta tb tc td)):=by
 intro pins s σ H Q I h;refine isTrue_chain (cF (ha pins s σ H _ I h) λv s1 ⟨x,H1,I1,r1,q1⟩=>test_link (cF (hb pins s1 σ H1 _ I1 q1) λu s2 ⟨y,H2,I2,r2,q2⟩ =>
  cF (ho pins s2 σ H2 x y v u _ I2 r1 r2 q2) λd s3 ⟨z,H3,I3,J,k,e,q3⟩=>?_)) hm
 subst e;cases J;refine UP ?_;cases k with
 |false =>
  obtain⟨k',V,Z⟩:=q3;cases V;exact ite_ff ⟨H3,I3,Z⟩
 |true =>
  refine ite_tt (test_link (cF (hc pins s3 σ H3 _ I3 q3) λw' s4 ⟨z',H4,I4,r4,q4⟩=>cF (O pins s4 σ H4 y z' u w' _ I4 r2 r4 q4) λd' s5 zq=>?_));obtain⟨z2,H5,I5,r5,k2,e2,q5⟩:=zq;subst e2;cases r5;refine UP ?_;cases k2 with
  |false =>
   obtain⟨k',V,Z⟩:=q5;cases V;exact ite_ff ⟨H5,I5,Z⟩
  |true =>
   refine ite_tt (test_last (cF (hd pins s5 σ H5 _ I5 q5) λx5 s6 ⟨z5,H6,I6,r6,q6⟩=>cF (U pins s6 σ H6 z' z5 w' x5 _ I6 r4 r6 q6) λd3 s7 zq=>?_));obtain⟨z7,H7,I7,r7,k7,e7,q7⟩:=zq;subst e7;cases r7;exact UP ⟨H7,I7,q7⟩
end
section
variable {X:Cx}
theorem ud{s:Uq}{A:UG}{ns ms:List Int}{G J:List Uj}(O:Vals (ns.map V.int) G)(U:Vals (ms.map V.int) J)(j:Nat)(Z:j<G.toArray.size)(h2:j<J.toArray.size) :
  SeqAt.EqAt A.in1 s G.toArray[j] J.toArray[j] (ns.getD j 0==ms.getD j 0):=by
 have l1:ns.length=G.length:=by have z:=O.length;rwa[OH]at z
 have l2:ms.length=J.length:=by have z:=U.length;rwa[OH]at z
 have hj:j<ns.length:=by simp only[OT]at Z;omega
 have D:j<ms.length:=by simp only[OT]at h2;omega
 obtain⟨x1,e1,t1⟩:=ir O Z;obtain⟨x2,e2,t2⟩:=ir U h2;rw[OR,OG hj]at e1;rw[OR,OG D]at e2;obtain rfl:=Option.some.inj e1;obtain rfl:=Option.some.inj e2;obtain⟨k1,q1⟩:=t1;obtain⟨k2,q2⟩:=t2;rw[q1,q2];have g1:ns.getD j 0=ns[j]:=by simp[QK,OG hj]
 have g2:ms.getD j 0=ms[j]:=by simp[QK,OG D]
 rw[g1,g2];exact SeqAt.EqAt.int_int (A:=A.in1) (s:=s) ns[j] k1 ms[j] k2
theorem rK{ns ms:List Int}{D G:List Uj}(O:Vals (ns.map V.int) D)(U:Vals (ms.map V.int) G) :
  ((OV (min D.toArray.size G.toArray.size)).all (λj=>ns.getD j 0==ms.getD j 0)&&D.toArray.size==G.toArray.size)=decide (ns=ms):=by
 have Z:ns.length=D.length:=by have z:=O.length;rwa[OH]at z
 have l2:ms.length=G.length:=by have z:=U.length;rwa[OH]at z
 by_cases c:ns=ms
 .subst c;rw[Ul rfl,PX];exact⟨Rq.mpr λ_ _=>US _,by simp only[OT,<-Z,<-l2];exact US _⟩
 rw[Up c];refine Qj.mpr λz=>c ?_;rw[PX]at z;have hl:ns.length=ms.length:=by have J:=eq_of_beq z.2;simp only[OT]at J;omega
 refine List.ext_getElem hl λj q1 q2=>?_;have J:=Rq.mp z.1 j (OX.mpr (by simp only[OT];omega));have g1:ns.getD j 0=ns[j]:=by simp[QK,OG q1]
 have g2:ms.getD j 0=ms[j]:=by simp[QK,OG q2]
 rw[<-g1,<-g2];exact eq_of_beq J
def Du(K:OM)(neg:Bool):R2:=λx y H Q=>∃(a b:Um) (ns ms:List Int),x=.ref a/\y=.ref b/\br K H a (ns.map V.int)/\br K H b (ms.map V.int)/\Q (.bl (if neg then !decide (ns=ms)else decide (ns=ms))) H
theorem yZ(J:X.A.units<cLine):kA X (UQ .Eq) (Du X.K false):=by
 intro pins s σ H x y v u Q I O U h;obtain⟨a,b,ns,ms,rfl,rfl,V,Z,q⟩:=h;cases O;cases U;obtain⟨i1,D,p1,z1⟩:=I.tuple V;obtain⟨i2,G,p2,z2⟩:=I.tuple Z;refine SeqAt.eq_tupleAt (e:=λj=>ns.getD j 0==ms.getD j 0) (show s.heap.IsTuple a i1.toArray from p1) (show s.heap.IsTuple b i2.toArray from p2) J (λj h1 h2=>ud D G j h1 h2) ⟨.bl (decide (ns=ms)),H,I,?_,q⟩;show Value.bool _=Value.bool _;congr 1;exact rK D G
theorem rL(J:X.A.units<cLine):kA X (UQ .NotEq) (Du X.K true):=by
 intro pins s σ H x y v u Q I O U h;obtain⟨a,b,ns,ms,rfl,rfl,V,Z,q⟩:=h;cases O;cases U;obtain⟨i1,D,p1,z1⟩:=I.tuple V;obtain⟨i2,G,p2,z2⟩:=I.tuple Z;refine SeqAt.RcNeAt.tuples (A:=X.A) (e:=λj=>ns.getD j 0==ms.getD j 0) (show s.heap.IsTuple a i1.toArray from p1) (show s.heap.IsTuple b i2.toArray from p2) J (λj h1 h2=>ud D G j h1 h2) X.prog X.w X.xe _ ⟨.bl (!decide (ns=ms)),H,I,?_,q⟩;show Value.bool _=Value.bool _;congr 1;rw[rK D G]
end
end L2
namespace xc
open PySem AutoSeq1 MeetsSeq
theorem tuple_addW0(l b:Um)(items D:Array Uj)(n O:Nat)(dd G:Option Um)(U J:Array (Option Uj))(V:items.isEmpty=true) :
  Meets (Builtin.«tuple.__add__» ⟨[.ref l,.ref b],[]⟩) (λ_ R s=>s.heap.get? l=Yc { cls:=.type "tuple",dict:=dd,data:=.seq items n,slots:=U }/\s.heap.get? b=Yc { cls:=.type "tuple",dict:=G,data:=.seq D O,slots:=J }/\R (.ok (.ret (Value.ref b))) s):=
 .of_wp λprog w A R s h=>by obtain⟨hp,g,d,tk,os⟩:=s;obtain⟨Z,hb,h⟩:=h;have f1:=idx_int;have f2:=sub_tuple_tuple;have f3:=sub_list_list;have f4:=sub_tuple_list;have f5:=sub_list_tuple;wp_walk using UL Z,UL hb;exact⟨_,rfl,h⟩
end xc
namespace L2
open PySem PySem.Spec PyProof.Rows
section
variable {X:Cx}
def Jc(K:OM):R2:=λx y H Q=>∃a b xs D,x=.ref a/\y=.ref b/\br K H a xs/\br K H b D/\D≠[]/\xs.length+D.length<=Uu /\
 (xs=[]->Q (.ref b) H)/\(xs≠[]->∀p,H p=none->Q (.ref p) (upd H p (.tup (xs++D))))
theorem Dv:kA X (Vu .Add) (Jc X.K):=by
 intro pins s σ H x y v u Q I rx ry h;obtain⟨a,b,xs,ys,ex,ey,ha,hb,hy,hz,q1,q2⟩:=h;by_cases U:xs=[]
 .subst ex ey;cases rx;cases ry;obtain⟨its,r1,p1,_⟩:=I.tuple ha;obtain⟨D,r2,p2,_⟩:=I.tuple hb;obtain⟨⟨cls,dd,data,sl⟩,ho,hc,n,hd⟩:=id p1;obtain⟨⟨Lk,V,data2,Z⟩,G,J,n2,O⟩:=id p2;simp only at hc hd J O;subst hc hd J O;have e:its=[]:=r1.qv.mpr U;exact Xh ⟨_,ho,rfl⟩ ⟨_,G,rfl⟩ Wh W0 RB Rw (Rt _ _)
   (xc.tuple_addW0 a b its.toArray D.toArray n n2 dd V sl Z (by rw[e];rfl)) ⟨ho,G,⟨.ref b,H,I,rfl,q1 U⟩⟩
 exact FX pins s σ H x y v u Q I rx ry ⟨a,b,xs,ys,ex,ey,ha,hb,U,hz,λz=>Us z hy,λ_=>q2 U⟩
end
end L2
namespace xc
open PySem PySem.Spec PyProof.Rows
open Sem (wp)
open AutoSeq1 (wpAny_loadPart')
theorem oG(l:Um)(items:Array Uj)(n:Nat)(b:Um)(D:Array Uj)(Z:Nat)(G:Option Um)(sl:Array (Option Uj))(hs0:¬(!items.isEmpty&&Builtin.List.listTooLong (items.size+D.size))=true)(J:items.size<=Uu)(O:items.size+D.size<=Uu+1) :
  Meets (Builtin.«list.extend» ⟨[.ref l,.ref b],[]⟩) (λ_ R s=>s.heap.get? l=Yc { cls:=.type "list",dict:=none,data:=.seq items n,slots:=#[] }/\s.heap.get? b=Yc { cls:=.type "tuple",dict:=G,data:=.seq D Z,slots:=sl }/\R (.ok (.ret Value.none)) { s with heap:=s.heap.update l (Obj.mapSeq λx=>x++D),toks:=s.toks }):=
 .of_wp λprog w A R s h=>by
  obtain⟨hp,g,d,tk,os⟩:=s;obtain⟨V,hb,h⟩:=h;have f1:=AutoSeq1.idx_int;have f2:=AutoSeq1.sub_tuple_tuple;have f3:=AutoSeq1.sub_list_list;have f4:=AutoSeq1.sub_tuple_list;have f5:=AutoSeq1.sub_list_tuple;have U:(items++D).size<=Uu+1:=by rw[Array.size_append];exact O
  wp_walk using(VT V rfl (hz:=J) (_hz':=U)),UL V,UL hb;exact⟨_,rfl,h⟩
end xc
namespace L2
open PySem PySem.Spec PyProof.Rows
section
variable {X:Cx}
def LT(H:Hp)(a:Um)(xs:List V):Prop:=H a=Yc (.lst xs)\/H a=Yc (.tup xs)
def Dw:V->List V->Hp->VK->Prop:=λx G H Q=>∃l b xs D,x=.ref l/\G=[.ref b]/\H l=Yc (.lst xs)/\LT H b D/\xs.length+D.length<=Uu/\Q .g9 (upd H l (.lst (xs++D)))
theorem y0:Ls X "list.extend" Dw:=by
 intro pins s σ H x vs v us Q I Z rv h;obtain⟨l,b,xs,zs,ex,ev,O,J,hz,q⟩:=h;rcases J with J|J
 .exact eV pins s σ H x vs v us Q I Z rv ⟨l,b,xs,zs,ex,ev,O,J,hz,q⟩
 subst ex ev;cases Z;obtain⟨u,rfl,ru⟩:=rv.one;cases ru;obtain⟨z,its,n,r,hl,e⟩:=I.yQ O;obtain⟨z2,D,r2,⟨⟨c,U,dt,sl⟩,e2,V,n2,hd⟩⟩:=I.bN b _ J;have V:c=.type "tuple":=V;have hd:dt=.seq D.toArray n2:=hd;subst V hd;have uY:=r2.length;have hsz:its.toArray.size+D.toArray.size<=sizeLine:=by rw[OT,OT];omega
 have G:¬(!its.toArray.isEmpty&&Builtin.List.listTooLong (its.toArray.size+D.toArray.size))=true:=by
  rw[wX hsz,RG];exact O4
 refine Xa F.slot_list_extend ⟨_,e,rfl⟩ F.entry_list_extend (F.args_list_extend_2 _ _)
  (xc.oG l its.toArray n b D.toArray n2 U sl G (by rw[OT];omega) (by omega)) ⟨e,e2,?_⟩
 refine⟨.g9,_,I.IG (its':=its++D) O e (by simp) (r.append r2) ?_,rfl,q⟩;rw[OQ];omega
theorem tq{K:OM}(G:X.K=K):fW X (.builtin "len") (λxs H Q=>∃p D,xs=[.ref p]/\(aZ K H p D\/br K H p D)/\Q (.int (D.length:Nat)) H):=G▸aH
theorem pC(ns:List Int):∀k,k<=ns.length->preSum (λi=>ns.getD i 0) k=(ns.take k).sum
 |0,_=>by simp[preSum]
 |k+1,h=>by
  have D:k<ns.length:=h;have e:ns.getD k 0=ns[k]:=by simp[QK,OG D]
  show preSum (λi=>ns.getD i 0) k+ns.getD k 0=_;rw[pC ns k (by omega),TK,OG D,Rh,e];simp
theorem xn(hc:X.calm=true):fW X (.builtin "sum") (λxs H Q=>∃(p:Um) (ns:List Int),xs=[.ref p]/\aZ X.K H p (ns.map V.int)/\Q (.int ns.sum) H):=by
 intro pins s σ H xs us Q I r h;obtain⟨p,ns,rfl,hq,q⟩:=h;obtain⟨u,rfl,ru⟩:=r.one;cases ru;obtain⟨its,U,ht,hz⟩:=I.list hq;have D:s.heap.IsList p its.toArray:=ht.isList;have hlen:ns.length=its.length:=by have z:=U.length;rwa[OH]at z
 have G:p<s.heap.objs.size:=let⟨_,e,_⟩:=D;O3 e
 have val:∀(i:Nat) (v:Uj),its.toArray[i]?=Yc v->∃t,v=.int (ns.getD i 0) t:=λi v O=>by
  have O:its[i]?=Yc v:=by simpa using O
  have hi:i<its.length:=(OI.mp O).1;have J:i<ns.length:=by omega
  have e1:(ns.map V.int)[i]?=Yc (.int ns[i]):=by rw[OR,OG J];rfl
  obtain⟨u,Z,t,e⟩:=U.get e1;rw[O]at Z;cases Z;exact⟨t,by rw[e];simp[QK,OG J]⟩
 refine call_sum_walkG (VC D ?_);refine⟨_,_,_,_,_,_,λi=>ns.getD i 0,rfl,Walks.list (A:=X.A.in1) (I.ok.hd hc) s.heap.objs.size p (Pb G) its.toArray,⟨⟨_,O6 _ rfl,rfl,rfl⟩,D.push _⟩,λb hb=>?_,val,λh' tk t' hk=>?_⟩
 .rw[QG];rcases O9.mp hb with e|e
  .rw[e];exact QP _
  have e:b=p:=by simpa using e
  rw[e];exact Qa G
 have I':Inv X pins σ H { s with heap:=h',toks:=tk }:=I.kept λb o e=>hk b o (λz=>Us (OS.mp z) (Pb (O3 e))) (OJ _ e);refine⟨.int ns.sum,H,I',⟨t',?_⟩,q⟩;have z:=pC ns ns.length (ON _);rw[Pd]at z;rw[OT,<-hlen,z]
end
end L2
namespace aI
open PySem L2
theorem take_snoc{α:Type}{l:List α}{i:Nat}{x:α}(h:l[i]?=Yc x):l.take (i+1)=l.take i++[x]:=by
 rw[Sd,h];rfl
end aI
namespace Ch
structure aaq(n:Nat) (M:Nat->Nat):Prop where
 lt:∀x,x<2*n->M x<2*n
 inv:∀x,x<2*n->M (M x)=x
section
variable {n:Nat}{M:Nat->Nat}
noncomputable def Dx(n:Nat)(M:Nat->Nat):List Nat:=(OV (2*n)).filter λe=>e==M e
end
end Ch
namespace aI
open PySem L2 Ch
noncomputable def nV(ms:List Nat):List V:=ms.map λ(m:Nat)=>V.int m
noncomputable def oH(xs:List Nat):List Int:=xs.map λ(x:Nat)=>(x:Int)
theorem aS(ms:List Nat):(nV ms).length=ms.length:=by unfold nV;rw[OH]
theorem vk{ms:List Nat}{i m:Nat}(h:ms[i]?=Yc m):(nV ms)[i]?=Yc (.int m):=by unfold nV;rw[OR,h];rfl
theorem cX{ms:List Nat}{i:Nat}{x:V}(h:(nV ms)[i]?=Yc x):∃m,ms[i]?=Yc m/\x=.int m:=by
 unfold nV at h;rw[OR]at h;cases e:ms[i]? with
 |none=>rw[e]at h;cases h
 |some m=>rw[e]at h;exact⟨m,rfl,(Option.some.inj h).symm⟩
theorem gi(xs:List Nat)(x:Nat):nV (xs++[x])=nV xs++[.int x]:=by unfold nV;rw[O5];rfl
noncomputable def ar(ms:List Nat)(e:Nat):Nat:=ms.getD e 0
theorem iu{ms:List Nat}{e:Nat}(h:e<ms.length):ms[e]?=Yc (ar ms e):=by unfold ar;simp[QK,OG h]
structure ak(n:Nat) (ms:List Nat):Prop where
 small:n<=40
 len:ms.length=2*n
 wk:aaq n (ar ms)
theorem ak.get{n:Nat}{ms:List Nat}(W:ak n ms){e:Nat}(h:e<2*n):(nV ms)[e]?=Yc (.int (ar ms e)):=vk (iu (by rw[W.len];exact h))
theorem ak.ix{n:Nat}{ms:List Nat}(W:ak n ms){e:Nat}(h:e<2*n):uU (nV ms) (e:Int)=Yc (.int (ar ms e)):=ic (W.get h)
theorem js{xs:List Nat}{x:Nat}(h:xs.getLast?=Yc x):uU (nV xs) (-1)=Yc (.int x):=by
 obtain⟨D,rfl⟩:=List.getLast?_eq_some_iff.mp h;rw[gi];exact C2 _ _
section
variable (K:OM)
def xo:Sp:=λD H Q _=>∃(a:Um) (n:Nat) (ms:List Nat),D=[.ref a]/\br K H a (nV ms)/\ak n ms/\Q (.int n) H
def AD:Sp:=λD H Q _=>∃(a:Um) (n:Nat) (ms:List Nat),D=[.ref a]/\br K H a (nV ms)/\ak n ms/\∀(l:Um) (H':Hp),H l=none->aE H H'->H' l=Yc (.lst (nV (Dx n (ar ms))))->Q (.ref l) H'
end
def xp(K:OM):Sp:=λD H Q _=>∃(a:Um) (ns:List Int) (k:Nat),D=[.ref a,.int k]/\aZ K H a (ns.map V.int)/\∀i:Int,Q (.int i) H
def AE(K:OM):Sp:=λD H Q _=>∃(a:Um) (G:List Int) (n:Nat),D=[.ref a,.int n]/\aZ K H a (G.map V.int)/\n<=40 /\
 ∀(l:Um) (H':Hp) (ms:List Nat),H l=none->aE H H'->ak n ms->H' l=Yc (.lst (nV ms))->Q (.ref l) H'
noncomputable def freed(ms:List Nat)(e:Nat):List Nat:=(ms.set (ar ms e) (ar ms e)).set e e
noncomputable def hZ(ms:List Nat)(p q:Nat):List Nat:=(ms.set p q).set q p
theorem nC{ms:List Nat}{i j v:Nat}(D:i<ms.length):ar (ms.set i v) j=if j=i then v else ar ms j:=by
 unfold ar;by_cases e:j=i
 .subst e;rw[Uo rfl];simp[QK,Ra D]
 rw[Uk e];simp[QK,Ro (Ne.symm e)]
theorem BH(ms:List Nat)(e:Nat):(freed ms e).length=ms.length:=by unfold freed;rw[PR,PR]
theorem xq{n:Nat}{ms:List Nat}(W:ak n ms){e:Nat}(D:e<2*n)(j:Nat):ar (freed ms e) j=if j=e then e else if j=ar ms e then ar ms e else ar ms j:=by
 unfold freed;rw[nC (by rw[PR,W.len];exact D),nC (by rw[W.len];exact W.wk.lt e D)]
theorem y4{n:Nat}{ms:List Nat}(W:ak n ms){e:Nat}(D:e<2*n):ak n (freed ms e)/\ar (freed ms e) e=e:=by
 have m:=W.wk.lt e D;have key:=xq W D;refine⟨⟨W.small,by rw[BH];exact W.len,λx J=>?_,λx J=>?_⟩,by rw[key,Uo rfl]⟩
 .rw[key]
  split
  .exact D
  split
  .exact m
  exact W.wk.lt x J
 rw[key x];by_cases c1:x=e
 .rw[Uo c1,key,Uo rfl,c1]
 rw[Uk c1];by_cases c2:x=ar ms e
 .rw[Uo c2,key];by_cases G:ar ms e=e
  .exact Us (c2.trans G) c1
  rw[Uk G,Uo rfl,c2]
 rw[Uk c2,key];have O:=W.wk.inv x J;have G:ar ms x≠e:=λz=>c2 (by rw[<-z,O]);have c4:ar ms x≠ar ms e:=λz=>c1 (by rw[<-O,z,W.wk.inv e D]);rw[Uk G,Uk c4,O]
theorem y6{n:Nat}{ms:List Nat}(W:ak n ms){p q:Nat}(hp:p<2*n)(J:q<2*n)(O:ar ms p=p)(U:ar ms q=q):ak n (hZ ms p q):=by
 have key:∀j,ar (hZ ms p q) j=if j=q then p else if j=p then q else ar ms j:=λj=>by
  unfold hZ;rw[nC (by rw[PR,W.len];exact J),nC (by rw[W.len];exact hp)]
 refine⟨W.small,by unfold hZ;rw[PR,PR];exact W.len,λx D=>?_,λx D=>?_⟩
 .rw[key]
  split
  .exact hp
  split
  .exact J
  exact W.wk.lt x D
 rw[key x];by_cases c1:x=q
 .rw[Uo c1,key];by_cases c2:p=q
  .rw[Uo c2,c1,c2]
  rw[Uk c2,Uo rfl,c1]
 rw[Uk c1];by_cases c2:x=p
 .rw[Uo c2,key,Uo rfl,c2]
 rw[Uk c2,key];have G:=W.wk.inv x D;have V:ar ms x≠q:=λz=>c1 (by rw[<-G,z,U]);have c4:ar ms x≠p:=λz=>c2 (by rw[<-G,z,O]);rw[Uk V,Uk c4,G]
theorem xr{n:Nat}{ms:List Nat}(W:ak n ms){e:Nat}(D:e<2*n){j:Nat}(G:ar ms j=j):ar (freed ms e) j=j:=by
 rw[xq W D]
 split
 .rename_i h;exact h.symm
 split
 .rename_i h;exact h.symm
 exact G
theorem y7{n:Nat}(h:n<=40):ak n (OV (2*n)):=by
 have key:∀x,x<2*n->ar (OV (2*n)) x=x:=λx D=>by unfold ar;simp[QK,Qv D]
 exact⟨h,OW,λx D=>by rw[key x D];exact D,λx D=>by rw[key x D,key x D]⟩
theorem Gr(n:Nat):u0 0 n=nV (OV n):=by
 unfold u0 nV;refine PB λa _=>?_;rw[Ri]
theorem mH(ms:List Nat)(i v:Nat):(nV ms).set i (.int v)=nV (ms.set i v):=by unfold nV;rw[List.map_set]
theorem ue(ns:List Int)(lo D:Option Int):∃G:List Int,Br (ns.map V.int) lo D=G.map V.int/\G.length<=ns.length:=by
 have h:=pj (ns.map V.int) lo D;rw[OH]at h;unfold Br at h⊢;rw[<-TV,<-List.map_take]at h⊢;exact⟨_,rfl,by rw[OH]at h;exact h⟩
theorem BI(xs D:List Nat):nV (xs++D)=nV xs++nV D:=by unfold nV;rw[O5]
end aI
namespace Mt
open Ch
noncomputable def up(xs:List Nat):List Int:=xs.map λ(x:Nat)=>(x:Int)
theorem Jd(xs:List Nat):(up xs).length=xs.length:=by unfold up;rw[OH]
end Mt
namespace aI
open PySem L2 Ch
noncomputable def iV(ns:List Int):List V:=ns.map V.int
theorem LS(ms:List Nat):nV ms=iV (Mt.up ms):=by unfold nV iV Mt.up;rw[Pp];rfl
def Sm(i:Int):Prop:=i.natAbs<10 ^ 40
theorem Sm.log{i:Int}(h:Sm i):i.natAbs.log2<1920:=by
 unfold Sm at h;by_cases z:i.natAbs=0
 .rw[z];decide
 exact(Nat.log2_lt z).mpr (Pt h (by decide +kernel))
theorem Sm.of{i:Int}(D:-(10 ^ 32:Int)<i)(G:i<(10 ^ 32:Int)):Sm i:=by
 unfold Sm;have e:(10:Nat) ^ 40=100000000*10 ^ 32:=by decide +kernel
 rw[e];omega
end aI
namespace L2
open PySem PySem.Spec
theorem Dy{X:Cx}{c:UM}{R:TT}(h:∀σ H Q,R σ H Q->∃t,PT X c t/\t σ H Q):PT X c R:=λpins s σ H Q I hw=>by
 obtain⟨t,D,G⟩:=h σ H Q hw;exact D pins s σ H Q I G
end L2
namespace aI
open PySem L2
def fq{α:Type}(f:α->List V)(H:Hp)(l:Um)(xs:List α):Prop :=
 ∃D:List Um,H l=Yc (.lst (D.map V.ref))/\D.length=xs.length/\∀(i:Nat) (t:Um) (x:α),D[i]?=Yc t->xs[i]?=Yc x->H t=Yc (.tup (f x))
section
variable {α:Type}{f:α->List V}{H H':Hp}{l r b t d:Um}{xs Z:List α}{x:α}
theorem fq.same(h:fq f H l xs)(s:aE H H'):fq f H' l xs:=by
 obtain⟨D,G,J,O⟩:=h;exact⟨D,s _ _ G,J,λi t p e1 e2=>s _ _ (O i t p e1 e2)⟩
theorem fq.nil(h:H l=Yc (.lst [])):fq f H l ([]:List α):=⟨[],h,rfl,λi t r e=>by simp at e⟩
theorem fq.len(h:fq f H l xs):∃D,H l=Yc (.lst D)/\D.length=xs.length:=by
 obtain⟨O,G,J,_⟩:=h;exact⟨_,G,by rw[OH];exact J⟩
def Tup(f:α->List V)(H:Hp)(D:List Um)(xs:List α):Prop:=D.length=xs.length/\∀(i:Nat) (t:Um) (x:α),D[i]?=Yc t->xs[i]?=Yc x->H t=Yc (.tup (f x))
theorem fq.tup(h:fq f H l xs):∃D,H l=Yc (.lst (D.map V.ref))/\Tup f H D xs:=by
 obtain⟨D,G,J,O⟩:=h;exact⟨D,G,J,O⟩
theorem Tup.tst{D:List Um}(h:Tup f H D xs)(G:H l=Yc (.lst (D.map V.ref))):fq f H l xs:=⟨D,G,h.1,h.2⟩
theorem Tup.upd{D:List Um}{o:HO}{G:List V}(h:Tup f H D xs)(J:H l=Yc (.lst G)):Tup f (upd H l o) D xs:=⟨h.1,λi t p e1 e2=>by
 have key:=h.2 i t p e1 e2;rw[aG (λe=>by rw[e,J]at key;cases key)];exact key⟩
theorem Tup.app{D G:List Um}(h:Tup f H D xs)(k:Tup f H G Z):Tup f H (D++G) (xs++Z):=⟨by rw[OQ,OQ,h.1,k.1],λi t p e1 e2=>by
 by_cases J:i<D.length
 .rw[Pg J]at e1;rw[Pg (by have:=h.1;omega)]at e2;exact h.2 i t p e1 e2
 rw[Pk (by omega)]at e1;rw[Pk (by have:=h.1;omega),<-h.1]at e2;exact k.2 _ t p e1 e2⟩
theorem Tup.one(h:H t=Yc (.tup (f x))):Tup f H [t] [x]:=⟨rfl,λi u p e1 e2=>by
 cases i with
 |zero=>cases e1;cases e2;exact h
 |succ i=>cases e1⟩
theorem fq.snoc(h:fq f H l xs)(O:H t=Yc (.tup (f x))):∃D,H l=Yc (.lst D)/\D.length=xs.length/\fq f (L2.upd H l (.lst (D++[.ref t]))) l (xs++[x]):=by
 obtain⟨U,G,J⟩:=h.tup;refine⟨_,G,by rw[OH];exact J.1,?_⟩;exact((J.app (Tup.one O)).upd G).tst (by rw[ag,O5];rfl)
end
end aI
set_option maxHeartbeats 2000000
set_option maxHeartbeats 2000000
namespace nD
open PySem PyProof.Rows
class xt where
 G:U3->Prop
 nm:U3->Int
 kd:SortKind
variable [xt]
noncomputable def num(p:U3):Int:=xt.nm p
noncomputable def K(xs:Array U3)(i:Nat):Int:=match xs[i]? with
 |some p=>num p
 |none=>0
def IntKeys(xs:Array U3):Prop:=∀p∈xs.toList,xt.G p
def SortedTo(xs:Array U3)(k:Nat):Prop:=∀i j,i<=j->j<k->K xs i<=K xs j
noncomputable abbrev oneType':SortKind:=xt.kd
def Asks(prog:Ux)(w:UA)(A:UG)(s:Uq):Prop:=∀x y:U3,xt.G x->xt.G y->∀(E:Uj->Uq->Prop) (Q:Bool->Uq->Prop),Q (decide (num x<num y)) s->wpAny (model prog w) A (keyLt' oneType' x.1 y.1) Q E s
structure Fj(prog:Ux) (w:UA) (A:UG) (s:Uq) (xs:Array U3):Prop where
 ik:IntKeys xs
 as:Asks prog w A s
theorem K_congr{xs D:Array U3}{i j:Nat}(h:xs[i]?=D[j]?):K xs i=K D j:=by unfold K;rw[h]
theorem K_bubble{xs:Array U3}{src d:Nat}(hs:src<xs.size)(hd:d<=src)(k:Nat):K (bubble xs src d) k=if k=src-d then K xs src else if src-d<k/\k<=src then K xs (k-1)else K xs k:=by
 have e:=getElem?_bubble hs d hd k
 split at e
 .rw[Uo (by assumption)];exact K_congr e
 rw[Uk (by assumption)]
 split at e
 .rw[Uo (by assumption)];exact K_congr e
 rw[Uk (by assumption)];exact K_congr e
theorem K_mirror{xs:Array U3}{i j:Nat}(D:j<=xs.size)(k:Nat):K (mirror xs i j ((j-i)/2)) k=if i<=k/\k<j then K xs (i+j-1-k)else K xs k:=by
 have e:=getElem?_mirror_all (i:=i) D k
 split at e
 .rw[Uo (by assumption)];exact K_congr e
 rw[Uk (by assumption)];exact K_congr e
theorem K_mirror_equal{xs:Array U3}{i j:Nat}(G:j<=xs.size)(D:∀k,i<=k->k<j->K xs k=K xs (j-1))(k:Nat):K (mirror xs i j ((j-i)/2)) k=K xs k:=by
 rw[K_mirror G];by_cases c:i<=k/\k<j
 .rw[Uo c,D k c.1 c.2];exact D _ (by omega) (by omega)
 rw[Uk c]
section
variable {prog:Ux}{w:UA}{A:UG}{E:Uj->Uq->Prop}{s:Uq}
theorem Je{st:UZ}{x y:U3}{i j:Int}{Q:Option Bool->UZ->Prop}(as:Asks prog w A s)(O:kindOf st=oneType')(D:xt.G x/\num x=i)(J:xt.G y/\num y=j)(h:Q (Yc (decide (i<j))) st):wpS (model prog w) A E s (lt' x y) Q st:=by
 rw[lt'_eq];refine UO (Xl ?_);rw[O];refine UO (wpS_lift (Vd (as x y D.1 J.1 _ _ ⟨rfl,?_⟩)));rw[D.2,J.2];exact U2 h
theorem xu{st:UZ}{D:Array U3}{i:Nat}{Q:U3->UZ->Prop}{p:U3}(hp:D[i]?=Yc p)(h:Q p st):wpS (model prog w) A E s (elem' D i) Q st:=by
 rw[elem'_eq,hp];exact U2 h
theorem dQ{α:Type}{c:Prop}[Decidable c]{m m':StateT UZ Sem α}{Q:α->UZ->Prop}{st:UZ}(D:c->wpS (model prog w) A E s m Q st)(G:¬c->wpS (model prog w) A E s m' Q st):wpS (model prog w) A E s (if c then m else m') Q st:=by
 by_cases h:c
 .rw[Uo h];exact D h
 rw[Uk h];exact G h
end
section
variable {a b out:Array U3}{D G k:Nat}
theorem Dz{xs:Array U3}{i:Nat}{p:U3}(h:xs[i]?=Yc p):K xs i=num p:=by unfold K;rw[h]
end
structure SB(a₀:Array U3) (pd:Array (Nat×Nat×Nat)) (lo:Nat) (f:Nat->Int) (st:UZ):Prop where
 perm:(arrOf st).Perm a₀
 kd:kindOf st=oneType'
 fl:V3 st=none
 pd:VX st=pd
 pre:∀i,i<lo->K (arrOf st) i=f i
section
variable {a₀:Array U3}{pd:Array (Nat×Nat×Nat)}{lo:Nat}{f:Nat->Int}{st:UZ}
theorem SB.sz(h:SB a₀ pd lo f st):(arrOf st).size=a₀.size:=h.perm.size_eq
theorem SB.put(h:SB a₀ pd lo f st){xs:Array U3}(hp:xs.Perm (arrOf st))(G:∀i,i<lo->K xs i=K (arrOf st) i):SB a₀ pd lo f (setArr st xs):=⟨hp.trans h.perm,h.kd,h.fl,h.pd,λi D=>(G i D).trans (h.pre i D)⟩
theorem SB.item(h:SB a₀ pd lo f st)(J:IntKeys a₀){i:Nat}(O:i<a₀.size):∃p,(arrOf st)[i]?=Yc p/\xt.G p/\num p=K (arrOf st) i:=by
 have D:i<(arrOf st).size:=h.sz.symm▸O;have e:(arrOf st)[i]?=Yc (arrOf st)[i]:=getElem?_pos _ i D;exact⟨(arrOf st)[i],e,J _ ((RX.mp h.perm).mem_iff.mp (Array.getElem_mem_toList D)),(Dz e).symm⟩
end
def jL(lo:Nat)(xs:Array U3)(n:Nat):Prop:=∀i j,i<=j->j<n->K xs (lo+i)<=K xs (lo+j)
def mI(lo:Nat)(xs:Array U3)(n:Nat):Prop:=∀i j,i<=j->j<n->K xs (lo+j)<=K xs (lo+i)
theorem jL.more{lo n:Nat}{xs:Array U3}(h:jL lo xs n)(G:1<=n)(k:K xs (lo+n-1)<=K xs (lo+n)):jL lo xs (n+1):=λi j D J=>by
 by_cases c:j<n
 .exact h i j D c
 obtain rfl:j=n:=by omega
 by_cases d:i=j
 .rw[d];exact RC _
 have z:=h i (j-1) (by omega) (by omega);rw[show lo+(j-1)=lo+j-1 by omega]at z;exact Tg z k
theorem mI.more{lo n:Nat}{xs:Array U3}(h:mI lo xs n)(G:1<=n)(k:K xs (lo+n)<=K xs (lo+n-1)):mI lo xs (n+1):=λi j D J=>by
 by_cases c:j<n
 .exact h i j D c
 obtain rfl:j=n:=by omega
 by_cases d:i=j
 .rw[d];exact RC _
 have z:=h i (j-1) (by omega) (by omega);rw[show lo+(j-1)=lo+j-1 by omega]at z;exact Tg k z
theorem jL.one{lo:Nat}{xs:Array U3}:jL lo xs 1:=λi j D G=>by
 obtain rfl:i=j:=by omega
 exact RC _
theorem mI.one{lo:Nat}{xs:Array U3}:mI lo xs 1:=λi j D G=>by
 obtain rfl:i=j:=by omega
 exact RC _
theorem mI.congr{lo n:Nat}{xs G:Array U3}(h:mI lo xs n)(e:∀k,K G k=K xs k):mI lo G n:=λi j D J=>by rw[e,e];exact h i j D J
noncomputable def LU(lo a m:Nat):StateT UZ Sem AscSt :=
 forIn [a:m] ((none,a):AscSt) λ_ c=>do
  let x <-ltAt' (lo+c.2) (lo+c.2-1)
  match x with
  |some b=>if b=true then pure (ForInStep.done (none,c.2))else pure (ForInStep.yield (none,c.2+1))
  |_=>pure (ForInStep.done (Yc none,c.2))
noncomputable def DA(lo n m:Nat):StateT UZ Sem (Option Nat):=do
 We lo (lo+n)
 let c <-LU lo n m
 match c.1 with
 |some r=>pure r
 |none=>pure (Yc c.2)
noncomputable def AF(lo n m:Nat):StateT UZ Sem DescSt :=
 forIn [n:m] ((none,n,0):DescSt) λ_ c=>do
  let x <-ltAt' (lo+c.2.1) (lo+c.2.1-1)
  match x with
  |some b =>
   if b=true then
    if c.2.2>0 then do
     We (lo+c.2.1-(c.2.2+1)) (lo+c.2.1)
     pure (ForInStep.yield (none,c.2.1+1,0))
    else pure (ForInStep.yield (none,c.2.1+1,0))
   else do
    let y <-ltAt' (lo+c.2.1-1) (lo+c.2.1)
    match y with
    |some g=>if g=true then pure (ForInStep.done (none,c.2.1,c.2.2))else pure (ForInStep.yield (none,c.2.1+1,c.2.2+1))
    |_=>pure (ForInStep.done (Yc none,c.2.1,c.2.2))
  |_=>pure (ForInStep.done (Yc none,c.2.1,c.2.2))
noncomputable def xv(lo n m:Nat):StateT UZ Sem (Option Nat):=do
 liftM (rule "list.sort.descending-run")
 let c <-AF lo (n+1) m
 match c.1 with
 |some r=>pure r
 |none =>
  if c.2.2>0 then do
   We (lo+c.2.1-(c.2.2+1)) (lo+c.2.1)
   DA lo c.2.1 m
  else DA lo c.2.1 m
theorem BJ(lo m:Nat):countRun' lo m=(do
  let c <-LU lo 1 m
  match c.1 with
  |some r=>pure r
  |none =>
   if(c.2==m)=true then pure (Yc c.2)
   else if c.2>1 then do
    let x <-ltAt' lo (lo+c.2-1)
    match x with
    |some b=>if b=true then pure (Yc c.2)else do
      We lo (lo+c.2)
      xv lo c.2 m
    |_=>pure none
   else xv lo c.2 m):=by
 rw[countRun'_eq];dsimp only;unfold xv DA AF LU;congr 1;funext c;obtain⟨r,n⟩:=c;cases r with
 |some r=>rfl
 |none =>
  dsimp only
  split
  .rfl
  split
  .congr 1;funext x;cases x with
   |none=>rfl
   |some b =>
    dsimp only
    split
    .rfl
    congr 1;funext _r;congr 1;funext Z;congr 1;congr 1;funext O;obtain⟨J,n2,q2⟩:=O;cases J with
    |some J=>rfl
    |none =>
     dsimp only
     split
     .congr 1;funext _v;congr 1;funext U;congr 1;funext D;obtain⟨G,V⟩:=D;cases G <;> rfl
     congr 1;funext U;congr 1;funext D;obtain⟨G,V⟩:=D;cases G <;> rfl
  congr 1;funext Z;congr 1;congr 1;funext O;obtain⟨J,n2,q2⟩:=O;cases J with
  |some J=>rfl
  |none =>
   dsimp only
   split
   .congr 1;funext _v;congr 1;funext U;congr 1;funext D;obtain⟨G,V⟩:=D;cases G <;> rfl
   congr 1;funext U;congr 1;funext D;obtain⟨G,V⟩:=D;cases G <;> rfl
theorem Jf{f:Nat->Int}{lo l k i:Nat}(D:i<=k):(if lo+i=lo+l then f (lo+k)else if lo+l<lo+i/\lo+i<=lo+k then f (lo+i-1)else f (lo+i))=if i=l then f (lo+k)else if i<l then f (lo+i)else f (lo+(i-1)):=by
 by_cases c:i=l
 .rw[Uo (congrArg _ c),Uo c]
 rw[Uk (λz=>c (Nat.add_left_cancel z)),Uk c];by_cases d:i<l
 .rw[Uk (λz=>Nat.lt_asymm d (Nat.lt_of_add_lt_add_left z.1)),Uo d]
 rw[Uo ⟨Nat.add_lt_add_left (S6 (QO d) (Ne.symm c)) lo,RU D lo⟩,Uk d,Nat.add_sub_assoc (by omega)]
theorem Gs{X Y:Nat->Int}{l k:Nat}(V:∀i,i<=k->Y i=if i=l then X k else if i<l then X i else X (i-1))(up:∀i j,i<=j->j<k->X i<=X j)(Z:∀i,i<l->X i<=X k)(p5:∀i,l<=i->i<k->X k<X i)(i j:Nat)(D:i<=j)(U:j<=k):Y i<=Y j:=by
 rw[V i (PD D U),V j U];by_cases ci:i=l
 .rw[Uo ci];by_cases O:j=l
  .rw[Uo O];exact RC _
  rw[Uk O,Uk (by omega)];exact Ti (p5 _ (by omega) (by omega))
 rw[Uk ci];by_cases G:i<l
 .rw[Uo G];by_cases O:j=l
  .rw[Uo O];exact Z i G
  rw[Uk O];by_cases J:j<l
  .rw[Uo J];by_cases cl:l<=k
   .exact up i j D (Pt J cl)
   by_cases ck:j=k
   .rw[ck];exact Z i G
   exact up i j D (S6 U ck)
  rw[Uk J];exact up i (j-1) (by omega) (by omega)
 rw[Uk G,Uk (by omega),Uk (by omega)];exact up _ _ (Nat.sub_le_sub_right D 1) (by omega)
section
variable {prog:Ux}{w:UA}{A:UG}{E:Uj->Uq->Prop}{s:Uq}{a₀:Array U3}{pd:Array (Nat×Nat×Nat)}{lo:Nat}{f:Nat->Int}
theorem kP{st:UZ}{i j:Nat}{Q:Option Bool->UZ->Prop}(D:SB a₀ pd lo f st)(G:Fj prog w A s a₀)(J:i<a₀.size)(O:j<a₀.size)(h:Q (Yc (decide (K (arrOf st) i<K (arrOf st) j))) st):wpS (model prog w) A E s (ltAt' i j) Q st:=by
 obtain⟨p,e1,U⟩:=D.item G.ik J;obtain⟨q,e2,V⟩:=D.item G.ik O;rw[ltAt'_eq];refine UO (Xl ?_);refine UO (xu e1 (UO (xu e2 ?_)));exact Je G.as D.kd U V h
theorem SB.turn{st:UZ}(D:SB a₀ pd lo f st){i j:Nat}(J:lo<=i)(G:j<=a₀.size):SB a₀ pd lo f (setArr st (mirror (arrOf st) i j ((j-i)/2))):=
 D.put (mirror_perm _ _ _ _) λk O=>by rw[K_mirror (by rw[D.sz];exact G),Uk (by omega)]
theorem AG{st:UZ}{a m:Nat}{Q:AscSt->UZ->Prop}(O:Fj prog w A s a₀)(Z:lo+m<=a₀.size)(ha:1<=a)(G:a<=m)(U:SB a₀ pd lo f st)(hs:jL lo (arrOf st) a)
  (h:∀n,a<=n->n<=m->jL lo (arrOf st) n->(n=m\/K (arrOf st) (lo+n)<K (arrOf st) (lo+n-1))->Q (none,n) st):wpS (model prog w) A E s (LU lo a m) Q st:=by
 unfold LU;refine VF (I:=λx c D=>D=st/\c=(none,x)/\jL lo (arrOf st) x) ?step ?fin ⟨rfl,rfl,hs⟩
 case fin =>
  rintro c D ⟨e1,e2,g⟩;subst e1 e2;have e:max a m=m:=QQ G;rw[e]at g⊢;exact h m G (ON _) g (.inl rfl)
 case step =>
  rintro x c D J V ⟨e1,e2,g⟩;subst e1 e2;dsimp only;refine UO (kP U O (by omega) (by omega) ?_);dsimp only;refine dQ (λz=>?_) (λz=>?_)
  .exact U2 (h x J (by omega) g (.inr (Uw z)))
  exact U2 ⟨rfl,rfl,g.more (by omega) (SJ.mp λy=>z (Ul y))⟩
theorem xw{st:UZ}{n m:Nat}{Q:Option Nat->UZ->Prop}(U:Fj prog w A s a₀)(V:lo+m<=a₀.size)(Z:1<=n)(J:n<=m)(O:SB a₀ pd lo f st)(hs:mI lo (arrOf st) n)
  (h:∀k D,SB a₀ pd lo f D->1<=k->k<=m->jL lo (arrOf D) k->Q (Yc k) D):wpS (model prog w) A E s (DA lo n m) Q st:=by
 unfold DA;have hz:lo+n<=(arrOf st).size:=by rw[O.sz];omega
 have G:=O.turn (i:=lo) (j:=lo+n) (ON _) (by omega);refine UO (WQ (UO (AG U V Z J G (λi j Jg hj=>?_) λk k1 k2 g _=>U2 (h k _ G (by omega) k2 g))));show K (mirror (arrOf st) lo (lo+n) _) (lo+i)<=K (mirror (arrOf st) lo (lo+n) _) (lo+j);rw[K_mirror hz,K_mirror hz,Uo (by omega),Uo (by omega)];have z:=hs (n-1-j) (n-1-i) (by omega) (by omega);rw[show lo+(n-1-j)=lo+(lo+n)-1-(lo+j) by omega,show lo+(n-1-i)=lo+(lo+n)-1-(lo+i) by omega]at z;exact z
theorem BK{st:UZ}{n m:Nat}{Q:DescSt->UZ->Prop}(h0:Fj prog w A s a₀)(hn:lo+m<=a₀.size)(h1:1<=n)(U:n<=m)(hB:SB a₀ pd lo f st)(hs:mI lo (arrOf st) n)
  (h:∀k q D,SB a₀ pd lo f D->n<=k->k<=m->mI lo (arrOf D) k->q+1<=k->(∀i,lo+k-(q+1)<=i->i<lo+k->K (arrOf D) i=K (arrOf D) (lo+k-1))->Q (none,k,q) D):wpS (model prog w) A E s (AF lo n m) Q st:=by
 unfold AF;refine VF (I:=λx c D=>∃q,c=(none,x,q)/\SB a₀ pd lo f D/\mI lo (arrOf D) x/\q+1<=x/\(∀i,lo+x-(q+1)<=i->i<lo+x->K (arrOf D) i=K (arrOf D) (lo+x-1))) ?step ?fin
  ⟨0,rfl,hB,hs,by omega,λi Z z2=>congrArg _ (by omega)⟩
 case fin =>
  rintro c D ⟨q,e,G,J,V,O⟩;subst e;have e:max n m=m:=QQ U;rw[e]at J V O⊢;exact h m q D G U (ON _) J V O
 case step =>
  rintro x c D hax LV ⟨q,e,G,J,V,O⟩;subst e;dsimp only;refine UO (kP G h0 (by omega) (by omega) ?_);dsimp only;refine dQ (λz=>?_) (λz=>?_)
  .have z:=Ti (Uw z);refine dQ (λy=>?_) (λy=>?_)
   .have hz:lo+x<=(arrOf D).size:=by rw[G.sz];omega
    have ke:=K_mirror_equal (i:=lo+x-(q+1)) hz O;refine UO (WQ (U2 ⟨0,rfl,G.turn (by omega) (by omega),(J.congr ke).more (by omega) ?_,by omega,λi Z z2=>congrArg _ (by omega)⟩));show K (mirror (arrOf D) _ _ _) _<=K (mirror (arrOf D) _ _ _) _;rw[ke,ke];exact z
   exact U2 ⟨0,rfl,G,J.more (by omega) z,by omega,λi Z z2=>congrArg _ (by omega)⟩
  have z:K (arrOf D) (lo+x-1)<=K (arrOf D) (lo+x):=SJ.mp λy=>z (Ul y);refine UO (kP G h0 (by omega) (by omega) ?_);dsimp only;refine dQ (λy=>?_) (λy=>?_)
  .exact U2 (h x q D G hax (by omega) J V O)
  have y:K (arrOf D) (lo+x)<=K (arrOf D) (lo+x-1):=SJ.mp λu=>y (Ul u);have ee:K (arrOf D) (lo+x)=K (arrOf D) (lo+x-1):=Int.le_antisymm y z;refine U2 ⟨q+1,rfl,G,J.more (by omega) y,by omega,λi Z z2=>?_⟩;rw[show lo+(x+1)-1=lo+x by omega];by_cases c:i=lo+x
  .rw[c]
  rw[ee];exact O i (by omega) (by omega)
theorem uf{st:UZ}{n m:Nat}{Q:Option Nat->UZ->Prop}(G:Fj prog w A s a₀)(J:lo+m<=a₀.size)(O:n+1<=m)(Z:SB a₀ pd lo f st)(hs:mI lo (arrOf st) (n+1))
  (h:∀k D,SB a₀ pd lo f D->1<=k->k<=m->jL lo (arrOf D) k->Q (Yc k) D):wpS (model prog w) A E s (xv lo n m) Q st:=by
 unfold xv;refine UO (wpS_lift (Vq ⟨rfl,UO (BK G J (by omega) O Z hs λk q D U k1 k2 V g3 g4=>?_)⟩));dsimp only;have hz:lo+k<=(arrOf D).size:=by rw[U.sz];omega
 refine dQ (λy=>?_) (λy=>?_)
 .exact UO (WQ (xw G J (by omega) k2 (U.turn (by omega) (by omega)) (V.congr (K_mirror_equal (i:=lo+k-(q+1)) hz g4)) h))
 exact xw G J (by omega) k2 U V h
theorem y8{st:UZ}{m:Nat}{Q:Option Nat->UZ->Prop}(O:Fj prog w A s a₀)(U:lo+m<=a₀.size)(h1:1<=m)(D:SB a₀ pd lo f st)
  (h:∀k G,SB a₀ pd lo f G->1<=k->k<=m->jL lo (arrOf G) k->Q (Yc k) G):wpS (model prog w) A E s (countRun' lo m) Q st:=by
 rw[BJ];refine UO (AG O U (ON 1) h1 D jL.one λn Z n2 g V=>?_);dsimp only;refine dQ (λc=>?_) (λc=>?_)
 .exact U2 (h n st D Z n2 g)
 have c:n≠m:=λz=>c (by rw[z];exact US _);have J:=Ti (V.resolve_left c);refine dQ (λd=>?_) (λd=>?_)
 .refine UO (kP D O (by omega) (by omega) ?_);dsimp only;refine dQ (λy=>?_) (λy=>?_)
  .exact U2 (h n st D Z n2 g)
  have y:K (arrOf st) (lo+n-1)<=K (arrOf st) lo:=SJ.mp λu=>y (Ul u);have hz:lo+n<=(arrOf st).size:=by rw[D.sz];omega
  have all:∀k,lo<=k->k<lo+n->K (arrOf st) k=K (arrOf st) (lo+n-1):=λk z1 z2=>by
   have a1:=g 0 (k-lo) (by omega) (by omega);have a2:=g (k-lo) (n-1) (by omega) (by omega);rw[show lo+(k-lo)=k by omega]at a1 a2;rw[show lo+(n-1)=lo+n-1 by omega]at a2;rw[Sy]at a1;omega
  have ke:=K_mirror_equal (i:=lo) hz all;have dn:mI lo (arrOf st) n:=λi j Jg hj=>by rw[all (lo+i) (by omega) (by omega),all (lo+j) (by omega) (by omega)];exact RC _
  exact UO (WQ (uf O U (by omega) (D.turn (ON _) (by omega)) ((dn.more (by omega) J).congr ke) h))
 obtain rfl:n=1:=by omega
 exact uf O U (by omega) D (mI.one.more (ON _) J) h
theorem DC{st:UZ}{n ok:Nat}{Q:Bool->UZ->Prop}(h0:Fj prog w A s a₀)(hn:lo+n<=a₀.size)(Z:1<=ok)(bN:ok<=n)(hB:SB a₀ pd lo f st)(hs:jL lo (arrOf st) ok)
  (h:∀D,SB a₀ pd lo f D->jL lo (arrOf D) n->Q true D):wpS (model prog w) A E s (binarySort' lo n ok) Q st:=by
 rw[binarySort'_eq];have em:max ok 1=ok:=Sz Z;rw[em];refine UO (XH (VF (I:=λk c D=>c=(none,())/\SB a₀ pd lo f D/\jL lo (arrOf D) k) (Q:=λc D=>c=(none,())/\SB a₀ pd lo f D/\jL lo (arrOf D) n) ?step ?fin ⟨rfl,hB,hs⟩) ?post)
 case post =>
  rintro c D ⟨e,O,J⟩;subst e;exact U2 (h D O J)
 case fin =>
  rintro c D ⟨e,O,J⟩;have e2:max ok n=n:=QQ bN;rw[e2]at J;exact⟨e,O,J⟩
 case step =>
  rintro k c D hak Ci ⟨e,O,J⟩;subst e;have hk:lo+k<a₀.size:=by omega
  refine UO (XH (VF (I:=λx c G=>G=D/\∃l r,c=(none,l,r)/\l<=r/\r<=k/\r-l<=k-x/\(∀i,i<l->K (arrOf D) (lo+i)<=K (arrOf D) (lo+k))/\(∀i,r<=i->i<k->K (arrOf D) (lo+k)<K (arrOf D) (lo+i)))
   (Q:=λc G=>G=D/\∃l r,c=(none,l,r)/\l<=k/\(∀i,i<l->K (arrOf D) (lo+i)<=K (arrOf D) (lo+k))/\(∀i,l<=i->i<k->K (arrOf D) (lo+k)<K (arrOf D) (lo+i))) ?istep ?ifin
   ⟨rfl,0,k,rfl,PH _,ON _,ON _,λi z=>Us z (Rx _),λi z1 z2=>Us z1 (by omega)⟩) ?ipost)
  case ifin =>
   rintro c G ⟨e1,l,r,e2,p1,p2,p3,U,V⟩;obtain rfl:l=r:=by omega
   exact⟨e1,l,l,e2,p2,U,V⟩
  case istep =>
   rintro x c G _ hxk ⟨e1,l,r,e2,p1,p2,p3,U,V⟩;subst e1 e2;dsimp only;refine dQ (λy=>?_) (λy=>?_)
   .obtain rfl:l=r:=by omega
    exact U2 ⟨rfl,l,l,rfl,p2,U,V⟩
   refine UO (kP O h0 hk (by omega) ?_);dsimp only;refine dQ (λz=>?_) (λz=>?_)
   .have z:=Uw z;exact U2 ⟨rfl,l,(l+r)/2,rfl,by omega,by omega,by omega,U,λi z1 z2=>Int.lt_of_lt_of_le z (J _ _ z1 z2)⟩
   have z:=SJ.mp λu=>z (Ul u);exact U2 ⟨rfl,(l+r)/2+1,r,rfl,by omega,by omega,by omega,λi z1=>Tg (J i ((l+r)/2) (by omega) (by omega)) z,V⟩
  case ipost =>
   rintro c G ⟨e1,l,r,e2,p2,U,V⟩;subst e1 e2;show wpS _ _ _ _ (do moveDown' (lo+k) (lo+l);pure (ForInStep.yield (none,()))) _ _;rw[moveDown'_eq];have hz:lo+k<(arrOf G).size:=by rw[O.sz];exact hk
   have dl:lo+k-(lo+l)=k-l:=Nat.add_sub_add_left lo k l;rw[dl];have pk:lo+k-(k-l)=lo+l:=by omega
   have kb:=λi=>K_bubble (d:=k-l) hz (PD (Nat.sub_le k l) (Tz k lo)) i;rw[pk]at kb;refine UO (XI (U2 ⟨rfl,O.put (bubble_perm _ _ _) λi hi=>?_,λi j Jg hj=>?_⟩))
   .rw[kb,Uk (by omega),Uk (by omega)]
   refine Gs (X:=λi=>K (arrOf G) (lo+i)) (Y:=λi=>K (bubble (arrOf G) (lo+k) (k-l)) (lo+i)) (l:=l) (k:=k) (λi hi=>?_) (λa b=>J a b) U V i j Jg (Nat.le_of_lt_succ hj);show K (bubble (arrOf G) (lo+k) (k-l)) (lo+i)=_;rw[kb];exact Jf (f:=λi=>K (arrOf G) i) hi
end
section
variable {prog:Ux}{w:UA}{A:UG}{E:Uj->Uq->Prop}{s:Uq}{a₀:Array U3}
theorem vn{xs:Array U3}{n:Nat}(h:jL 0 xs n):SortedTo xs n:=λi j D G=>by
 have z:=h i j D G;rw[Qh,Qh]at z;exact z
end
end nD
set_option maxHeartbeats 4000000
namespace L2
open PySem PySem.Spec PyProof.Rows
section
variable {X:Cx}
theorem Inv.adopt{pins:List (Um×U6)}{σ:L2.St}{H:Hp}{s:Uq}{D:Um}{o:HO}(I:Inv X pins σ H s)(f:iK X pins H D)(U:cQ X.prog X.w (upd H D o) s.heap D o):Inv X pins σ (upd H D o) s:=by
 obtain⟨J,V,f2,Z,f4,f5⟩:=f;have z:=I.step (h':=s.heap) (H':=upd H D o) (g':=s.gens) (t':=s.toks) (d':=s.drawn) (ch:=[D]) (λb O=>?_) (λb G _ _ _ q _=>q) (λb G _ _ _ q _=>⟨G.slots,q⟩) (λb G hc q n=>by rw[aG (λz=>hc (by simp[z]))];exact n) (λb G _ q=>⟨G,q⟩)
  (λb ys q=>by rw[aG (aW q J)];exact q) (λb G u q=>by rw[aG (aW q J)];exact q) (λb ps q=>⟨#[],by rw[aG (aW q J),q];simp⟩) (λm hm=>hm) (λb v q=>?_) I.bare
 .exact z
 .rw[OS.mp O];exact⟨Z,V,f4,f5⟩
 by_cases O:b=D
 .subst O;rw[ag]at q;cases q;exact U
 rw[aG O]at q;exact(I.bN b v q).sR (λc G _ z=>z) (λc z=>by rw[aG (aW z J)];exact z) λc ys z=>by rw[aG (aW z J)];exact z
end
inductive cv:List (Int×Uj)->List (Int×V)->Prop
 |nil:cv [] []
 |cons {k:Int}{u:Uj}{v:V}{a:List (Int×Uj)}{b:List (Int×V)}:RelV v u->cv a b->cv ((k,u)::a) ((k,v)::b)
theorem DD{a b:List (Int×Uj)}(h:a.Perm b):∀{c:List (Int×V)},cv b c->∃d,d.Perm c/\cv a d:=by
 induction h with
 |nil=>intro c t;exact⟨c,List.Perm.refl _,t⟩
 |cons x _ O =>
  intro c t;cases t with
  |cons r t =>
   obtain⟨d,hd,D⟩:=O t;exact⟨_,hd.cons _,.cons r D⟩
 |swap x y l =>
  intro c t;cases t with
  |cons r t =>
   cases t with
   |cons U t=>exact⟨_,List.Perm.swap _ _ _,.cons U (.cons r t)⟩
 |trans _ _ G J =>
  intro c t;obtain⟨d,hd,D⟩:=J t;obtain⟨e,Z,te⟩:=G D;exact⟨e,Z.trans hd,te⟩
theorem AH:∀{xs:List V}{its:List Uj},Vals xs its->∀kz:List Int,cv (kz.zip its) (kz.zip xs)
 |_,_,.nil,kz=>by simp;exact .nil
 |_,_,.cons r v,[]=>by simp;exact .nil
 |_,_,.cons r v,k::kz=>.cons r (AH v kz)
theorem AI:∀{a:List (Int×Uj)}{b:List (Int×V)},cv a b->a.map (·.1)=b.map (·.1)
 |_,_,.nil=>rfl
 |_,_,.cons r t=>by rw[Po,Po,AI t]
theorem xA:∀{a:List (Int×Uj)}{b:List (Int×V)},cv a b->Vals (b.map (·.2)) (a.map (·.2))
 |_,_,.nil=>.nil
 |_,_,.cons r t=>.cons r (xA t)
end L2
namespace aI
open PySem L2 Ch
noncomputable def cG(M:Nat->Nat)(p q e:Nat):Nat :=
 if p=q then(if e=p\/e=M p then e else M e)
 else if e=p then q else if e=q then p
 else if e=M p then(if M q≠q then M q else e)
 else if e=M q then(if M p≠p then M p else e)else M e
noncomputable def bM(ms:List Nat)(p q:Nat):List Nat:=(OV ms.length).map (cG (ar ms) p q)
theorem dR(ms:List Nat)(p q:Nat):(bM ms p q).length=ms.length:=by unfold bM;rw[OH,OW]
theorem dy{ms:List Nat}{p q e:Nat}(h:e<ms.length):ar (bM ms p q) e=cG (ar ms) p q e:=by
 unfold bM ar;simp[QK,OR,Qv h]
theorem jM{a b:List Nat}(h:a.length=b.length)(k:∀e,e<a.length->ar a e=ar b e):a=b:=by
 refine QY λi=>?_;by_cases D:i<a.length
 .rw[iu D,iu (h▸D),k i D]
 rw[PU (by omega),PU (by omega)]
theorem nE(ms:List Nat)(i j v:Nat):ar (ms.set i v) j=if j=i/\i<ms.length then v else ar ms j:=by
 by_cases h:i<ms.length
 .rw[nC h];simp[h]
 rw[Uk (by omega),List.set_eq_of_length_le (by omega)]
def Fits(n:Nat)(ms:List Nat)(p q:Int):Prop:=0<=p/\p<=q/\q<2*n/\((ar ms p.toNat:Nat):Int)≠q
noncomputable instance {n:Nat}{ms:List Nat}{p q:Int}:Decidable (Fits n ms p q):=by unfold Fits;infer_instance
theorem Fits.nat{n:Nat}{ms:List Nat}{p q:Int}(h:Fits n ms p q):∃x y:Nat,p=x/\q=y/\x<=y/\y<2*n/\ar ms x≠y:=by
 obtain⟨D,G,J,O⟩:=h;exact⟨p.toNat,q.toNat,by omega,by omega,by omega,by omega,by omega⟩
theorem rM{n:Nat}{ms:List Nat}{x y:Nat}(D:x<=y)(G:y<2*n)(J:ar ms x≠y):Fits n ms x y:=by
 refine⟨by omega,by omega,by omega,?_⟩;rw[Pq];omega
theorem dz{n:Nat}{ms:List Nat}(W:ak n ms){p q:Nat}(hp:p<2*n)(G:q<2*n)(U:ar ms p≠q):ak n (bM ms p q):=by
 have J:=W.len;have V:=W.wk.inv p hp;have Z:=W.wk.inv q G;have lp:=W.wk.lt p hp;have lq:=W.wk.lt q G;refine⟨W.small,by rw[dR];exact J,λx D=>?_,λx D=>?_⟩
 .rw[dy (by omega)];have O:=W.wk.lt x D;unfold cG;grind
 have O:=W.wk.lt x D;have ix:=W.wk.inv x D;have b:cG (ar ms) p q x<ms.length:=by unfold cG;grind
 rw[dy (e:=x) (by omega),dy b];unfold cG;grind
noncomputable def vo(ms:List Nat)(p q:Nat):List Nat:=([p,q].filter λe=>!decide (ar ms e=e)).map (ar ms)
noncomputable def nF(ms:List Nat)(p q:Nat):List Nat :=
 let fr:=vo ms p q
 hZ (if 0<fr.length then hZ ms (fr.getD 0 0) (fr.getD (fr.length-1) 0)else ms) p q
theorem oI(ms:List Nat)(p q:Nat):(hZ ms p q).length=ms.length:=by unfold hZ;simp only[PR]
theorem Gu(ms:List Nat)(p q:Nat):(vo ms p q).length<=2:=by
 unfold vo;rw[OH];exact Pm _ _
theorem oJ(ms:List Nat)(p q:Nat):vo ms p q=if ar ms p=p then(if ar ms q=q then[]else[ar ms q])else(if ar ms q=q then[ar ms p]else[ar ms p,ar ms q]):=by
 unfold vo;by_cases a:ar ms p=p <;> by_cases b:ar ms q=q <;> simp[a,b]
theorem y9{n:Nat}{ms:List Nat}(W:ak n ms){p q:Nat}(hp:p<2*n)(D:q<2*n)(O:ar ms p≠q):nF ms p q=bM ms p q:=by
 have U:=W.len;have V:=W.wk.inv p hp;have Z:=W.wk.inv q D;have lp:=W.wk.lt p hp;have lq:=W.wk.lt q D;have G:(nF ms p q).length=ms.length:=by unfold nF;simp only;rw[oI];split <;> first|rw[oI]|rfl
 refine jM (by rw[G,dR]) λe J=>?_;rw[G]at J;rw[dy J];unfold nF cG;simp only;rw[oJ];by_cases a:ar ms p=p <;> by_cases b:ar ms q=q
 .simp[a,b];unfold hZ;simp only[nE,PR];grind
 .simp[a,b];unfold hZ;simp only[nE,PR];grind
 .simp[a,b];unfold hZ;simp only[nE,PR];grind
 simp[a,b];unfold hZ;simp only[nE,PR];grind
section
variable (K:OM)
def vp:Sp:=λD H Q _=>∃(a d:Um) (n:Nat) (ms:List Nat) (p q:Int),D=[.ref a,.ref d]/\br K H a (nV ms)/\ak n ms/\br K H d [.int p,.int q]/\Q (.bl (decide (Fits n ms p q))) H
def xB(C:Um):Sp:=λD H Q E=>∃(a d:Um) (n:Nat) (ms:List Nat) (p q:Int),D=[.ref a,.ref d]/\br K H a (nV ms)/\ak n ms/\H d=Yc (.tup [.int p,.int q])/\Sm p/\Sm q/\(Fits n ms p q->Q .g9 H)/\(¬Fits n ms p q->E (.ref C) none H)
def nG:Sp:=λD H Q _=>∃(a d:Um) (n:Nat) (ms:List Nat) (p q:Nat),D=[.ref a,.ref d]/\br K H a (nV ms)/\ak n ms/\br K H d [.int p,.int q]/\p<2*n/\q<2*n /\
 ∀(l:Um) (H':Hp),H l=none->aE H H'->H' l=Yc (.lst (nV (vo ms p q)))->Q (.ref l) H'
def nH:Sp:=λD H Q _=>∃(l:Um) (ms:List Nat) (p q:Nat),D=[.ref l,.int p,.int q]/\H l=Yc (.lst (nV ms))/\p<ms.length/\q<ms.length /\
 ∀H':Hp,H' l=Yc (.lst (nV (hZ ms p q)))->(∀b,b≠l->H' b=H b)->Q .g9 H'
def oK(C:Um):Sp:=λD H Q E=>∃(a d:Um) (n:Nat) (ms:List Nat) (p q:Int),D=[.ref a,.ref d]/\br K H a (nV ms)/\ak n ms/\H d=Yc (.tup [.int p,.int q])/\Sm p/\Sm q /\
 (Fits n ms p q->∀(l:Um) (H':Hp),H l=none->aE H H'->H' l=Yc (.tup (nV (bM ms p.toNat q.toNat)))->Q (.ref l) H')/\(¬Fits n ms p q->E (.ref C) none H)
end
def kQ(n:Nat)(ms os:List Nat)(p q:Nat):Prop:=p<=q/\q<2*n/\ar ms p≠q/\bM ms p q=os
def qy(n:Nat)(ms os:List Nat)(p q:Nat):Prop:=kQ n ms os p q/\∀D G,kQ n ms os D G->p<D\/(p=D/\q<=G)
section
variable {n:Nat}{ms os:List Nat}
theorem zd(W:ak n ms){p q:Nat}(h:kQ n ms os p q)(c:p≠q):p<ar os p/\ar os p=q/\ar ms p≠ar os p:=by
 obtain⟨D,G,J,rfl⟩:=h;have O:=W.len;rw[dy (by omega)];unfold cG;grind
theorem ze(W:ak n ms){p:Nat}(h:kQ n ms os p p):∀e,e<2*n->¬(e<ar os e/\ar ms e≠ar os e):=λe D=>by
 obtain⟨G,J,O,rfl⟩:=h;have U:=W.len;rw[dy (by omega)];unfold cG;grind
theorem qy.uniq{p q D G:Nat}(h:qy n ms os p q)(h':qy n ms os D G):p=D/\q=G:=by
 have a:=h.2 D G h'.1;have b:=h'.2 p q h.1;omega
end
section
variable (K:OM)
def xC(D:Um):Sp:=λG H Q E=>∃(a b:Um) (n m:Nat) (ms os:List Nat),G=[.ref a,.ref b]/\br K H a (nV ms)/\ak n ms/\br K H b (nV os)/\os.length=2*m/\(n=m->Q .g9 H)/\(n≠m->E (.ref D) none H)
end
theorem bJ{n:Nat}{ms os:List Nat}(W:ak n ms)(D:ak n os):Th.cv (2*n) (ar ms) (ar os):=⟨W.wk.lt,D.wk.lt,W.wk.inv,D.wk.inv⟩
theorem xD(n:Nat)(M:Nat->Nat):Ch.Dx n M=Th.lF (2*n) M:=rfl
noncomputable def ks:Th.Kd->UI
 |.ring=>"ring"
 |.odd=>"odd"
 |.bare=>"bare"
 |.tied=>"tied"
noncomputable abbrev Ent:=Th.Kd×Um×List Nat
noncomputable def tf(x:Ent):List V:=[.str (ks x.1),.ref x.2.1]
noncomputable def en(x:Ent):Th.Kd×List Nat:=(x.1,x.2.2)
def nI(H:Hp)(l:Um)(D:List (Th.Kd×List Nat)):Prop:=∃xs:List Ent,fq tf H l xs/\(∀x∈xs,H x.2.1=Yc (.tup (nV x.2.2)))/\xs.map en=D
section
variable {H H':Hp}{l:Um}{Z:List (Th.Kd×List Nat)}
theorem nI.same(h:nI H l Z)(s:aE H H'):nI H' l Z:=by
 obtain⟨xs,D,G,J⟩:=h;exact⟨xs,D.same s,λx O=>s _ _ (G x O),J⟩
theorem nI.nil(h:H l=Yc (.lst [])):nI H l []:=⟨[],fq.nil h,λx D=>Us D Qp,rfl⟩
theorem nI.len(h:nI H l Z):∃D,H l=Yc (.lst D)/\D.length=Z.length:=by
 obtain⟨xs,G,J,rfl⟩:=h;obtain⟨D,e1,e2⟩:=G.len;exact⟨D,e1,by rw[e2,OH]⟩
theorem nI.snoc{t e:Um}{k:Th.Kd}{L:List Nat}(h:nI H l Z)(G:H t=Yc (.tup [.str (ks k),.ref e]))(J:H e=Yc (.tup (nV L))) :
  ∃D,H l=Yc (.lst D)/\D.length=Z.length/\nI (upd H l (.lst (D++[.ref t]))) l (Z++[(k,L)]):=by
 obtain⟨xs,O,U,rfl⟩:=h;obtain⟨D,e1,e2,e3⟩:=O.snoc (t:=t) (x:=(k,e,L)) G;refine⟨D,e1,by rw[e2,OH],xs++[(k,e,L)],e3,λx V=>?_,by rw[O5];rfl⟩;have key:H x.2.1=Yc (.tup (nV x.2.2)):=by
  rcases OY.mp V with z|z
  .exact U x z
  rw[OS.mp z];exact J
 rw[aG (λz=>by rw[z,e1]at key;cases key)];exact key
end
theorem nI.keep{H H':Hp}{l d:Um}{D:List (Th.Kd×List Nat)}{J:List (Key×V)}(h:nI H l D)(hd:H d=Yc (.dK J))(s:∀c o,c≠d->H c=Yc o->H' c=Yc o):nI H' l D:=by
 obtain⟨xs,⟨O,G,U,Z⟩,h4,h5⟩:=h;refine⟨xs,⟨O,s _ _ (λz=>by rw[z,hd]at G;cases G) G,U,λi t x e1 e2=>?_⟩,λx hx=>?_,h5⟩
 .have key:=Z i t x e1 e2;exact s _ _ (λz=>by rw[z,hd]at key;cases key) key
 have key:=h4 x hx;exact s _ _ (λz=>by rw[z,hd]at key;cases key) key
theorem AJ:∀D:List V,(∀i,i<D.length->∃t,D[i]?=Yc (.ref t))->∃G:List Um,D=G.map V.ref/\G.length=D.length
 |[],_=>⟨[],rfl,rfl⟩
 |q::r,h=>by
  obtain⟨t,e⟩:=h 0 (by simp);obtain⟨G,J,O⟩:=AJ r λi U=>h (i+1) (by simpa using U);obtain rfl:q=.ref t:=Option.some.inj e;exact⟨t::G,by rw[Po,<-J],by rw[Ph,Ph,O]⟩
inductive xE {α β:Type} (R:α->β->Prop):List α->List β->Prop
 |nil:xE R [] []
 |cons {a:α}{b:β}{l:List α}{m:List β}:R a b->xE R l m->xE R (a::l) (b::m)
theorem xE.perm{α β:Type}{R:α->β->Prop}{a b:List α}(h:a.Perm b):∀{c:List β},xE R b c->∃d,d.Perm c/\xE R a d:=by
 induction h with
 |nil=>intro c t;exact⟨c,List.Perm.refl _,t⟩
 |cons x _ O =>
  intro c t;cases t with
  |cons r t =>
   obtain⟨d,hd,D⟩:=O t;exact⟨_,hd.cons _,.cons r D⟩
 |swap x y l =>
  intro c t;cases t with
  |cons r t =>
   cases t with
   |cons U t=>exact⟨_,List.Perm.swap _ _ _,.cons U (.cons r t)⟩
 |trans _ _ G J =>
  intro c t;obtain⟨d,hd,D⟩:=J t;obtain⟨e,V,Z⟩:=G D;exact⟨e,V.trans hd,Z⟩
theorem xE.of{α β:Type}{R:α->β->Prop}:∀{l:List α}{m:List β},l.length=m.length->(∀(i:Nat) (a:α) (b:β),l[i]?=Yc a->m[i]?=Yc b->R a b)->xE R l m
 |[],[],_,_=>.nil
 |[],_::_,h,_=>by cases h
 |_::_,[],h,_=>by cases h
 |a::l,b::m,h,k=>.cons (k 0 a b rfl rfl) (xE.of (by simpa using h) λi x y e1 e2=>k (i+1) x y e1 e2)
theorem xE.len{α β:Type}{R:α->β->Prop}:∀{l:List α}{m:List β},xE R l m->l.length=m.length
 |_,_,.nil=>rfl
 |_,_,.cons _ t=>by rw[Ph,Ph,t.len]
theorem xE.get{α β:Type}{R:α->β->Prop}:∀{l:List α}{m:List β},xE R l m->∀(i:Nat) (a:α) (b:β),l[i]?=Yc a->m[i]?=Yc b->R a b
 |_,_,.nil,i,a,b,e,_=>by simp at e
 |_,_,.cons r t,0,a,b,e1,e2=>by cases e1;cases e2;exact r
 |_,_,.cons r t,i+1,a,b,e1,e2=>t.get i a b e1 e2
variable (K:OM)
def qz:Sp:=λD H Q _=>∃(a b:Um) (n:Nat) (ms os:List Nat) (s:Nat),D=[.int s,.ref a,.ref b]/\br K H a (nV ms)/\ak n ms/\br K H b (nV os)/\ak n os/\s<2*n/\(ar os s=s\/Th.bq (ar ms) (ar os) s) /\
 ∀(l:Um) (H':Hp),aE H H'->H' l=Yc (.tup (nV (Th.cN (ar ms) (ar os) s)))->Q (.ref l) H'
def AK:Sp:=λJ H Q _=>∃(d e:Um) (G:List (Key×V)) (L:List Nat),J=[.ref d,.ref e]/\H d=Yc (.dK G)/\H e=Yc (.tup (nV L))/\G.length+L.length<=100000 /\
 ∀(D:List (Key×V)) (H':Hp),H' d=Yc (.dK D)->(∀b o,b≠d->H b=Yc o->H' b=Yc o)->D.length<=G.length+L.length->(∀j:Nat,(bX D (Sum.inl (j:Int):Key)).isSome=true↔(bX G (Sum.inl (j:Int):Key)).isSome=true\/j∈L)->Q .g9 H'
def zf:Sp:=λD H Q _=>∃(a b:Um) (n:Nat) (ms os:List Nat),D=[.ref a,.ref b]/\br K H a (nV ms)/\ak n ms/\br K H b (nV os)/\ak n os /\
 ∀(l:Um) (H':Hp),H l=none->aE H H'->nI H' l (Th.hV (2*n) (ar ms) (ar os))->Q (.ref l) H'
def rN:Sp:=λD H Q _=>∃(t e:Um) (k:Th.Kd) (L:List Nat),D=[.ref t]/\H t=Yc (.tup [.str (ks k),.ref e])/\H e=Yc (.tup (nV L))/\0<L.length/\Q (.int (Th.mn L:Nat)) H
def bW(n:Nat)(ms os:List Nat)(D:List (Th.Kd×List Nat)):Prop:=D.Perm (Th.pU (2*n) (ar ms) (ar os))/\D.Pairwise λp q=>Th.mn p.2<Th.mn q.2
noncomputable def aC(n:Nat)(ms os:List Nat):Nat:=n-Th.score (ar ms) (ar os) (2*n)/2
end aI
namespace Th
open Classical
variable {N:Nat}{a b:Nat->Nat}
noncomputable def cut(a:Nat->Nat)(p x:Nat):Nat:=if x=p\/x=a p then x else a x
theorem vq(T:cv N a b){p:Nat}(hp:p<N):cv N (cut a p) b:=by
 refine⟨λx h=>?_,T.gl,λx h=>?_,T.gg⟩
 .have:=T.fl x h;unfold cut
  split <;> assumption
 have:=T.ff x h;have:=T.ff p hp;unfold cut;grind
end Th
namespace L2
open PySem PySem.Spec PyProof.Rows
section
variable {X:Cx}
noncomputable def isS(z:UI):Uj->Bool
 |.str i _=>i==z
 |_=>false
theorem xF:∀{G:List UI}{its:List Uj},Vals (G.map V.str) its->∀z:UI,its.countP (isS z)=G.countP (· == z)/\∀y∈its,∃x t,y=.str x t
 |[],_,.nil,z=>⟨rfl,λy D=>Us D Qp⟩
 |x::G,_,.cons r v,z=>by
  obtain⟨t,rfl⟩:=r;obtain⟨J,O⟩:=xF v z;refine⟨?_,λy D=>?_⟩
  .rw[RK,RK,J]
   rfl
  rcases O9.mp D with rfl|D
  .exact⟨x,t,rfl⟩
  exact O y D
def Jh:V->List V->Hp->VK->Prop:=λx G H Q=>∃(l:Um) (D:List UI) (z:UI),x=.ref l/\G=[.str z]/\H l=Yc (.lst (D.map V.str))/\Q (.int ((D.countP (· == z):Nat):Int)) H
theorem xG:Ls X "list.count" Jh:=by
 intro pins s σ H x Z v us Q I D G h;obtain⟨l,J,z,rfl,rfl,O,q⟩:=h;cases D;obtain⟨u,rfl,U⟩:=G.one;obtain⟨t,rfl⟩:=U;obtain⟨hz,its,k,r,hl,e⟩:=I.yQ O;obtain⟨c1,c2⟩:=xF r z;refine Xa F.slot_list_count ⟨_,e,rfl⟩ F.entry_list_count (F.args_list_count_2 _ _) (SeqAt.list_countAt l its.toArray k none #[] (.str z t) (isS z)) ⟨e,λy V=>?_,?_⟩
 .obtain⟨x,t',rfl⟩:=c2 y (by simpa using V);exact SeqAt.EqAt.str_str (A:=X.A.in1) (s:=s) x t' z t
 refine⟨.int ((J.countP (· == z):Nat):Int),H,I.tok _,⟨s.toks,?_⟩,q⟩;have e2:its.toArray.toList=its:=by simp
 rw[e2,c1]
end
end L2
namespace aI
open PySem L2
theorem oM:∀a b:Th.Kd,ks a=ks b->a=b:=by
 intro a b h;cases a <;> cases b <;> first|rfl|exact Us h (by decide)
theorem pD(D:List (Th.Kd×List Nat))(k:Th.Kd):(D.map λth=>ks th.1).countP (· == ks k)=(D.filter λth=>th.1=k).length:=by
 rw[List.countP_map,List.countP_eq_length_filter];congr 1;refine QH λth _=>?_;by_cases c:th.1=k
 .rw[Ul c];show(ks th.1==ks k)=true;rw[c];exact US _
 rw[Up c];exact beq_eq_false_iff_ne.mpr λz=>c (oM _ _ z)
theorem bW.counts{n:Nat}{ms os:List Nat}{D:List (Th.Kd×List Nat)}(W:ak n ms)(G:ak n os)(h:bW n ms os D) :
  2*(D.map λth=>ks th.1).countP (· == ks .ring)+(D.map λth=>ks th.1).countP (· == ks .odd)=Th.score (ar ms) (ar os) (2*n):=by
 rw[pD,pD,(h.1.filter _).length_eq,(h.1.filter _).length_eq,Th.Gj,Th.IQ (bJ W G)]
 rfl
end aI
namespace L2
open PySem PySem.Spec
theorem qA{X:Cx}{scope:VY}{pre:List UI}{y z:UI}{c e:Um}{j k:Nat}(D:scope.kind=.function)(h:∀w∈scope.names,w.2≠.cell/\(w.2=.free->w.1=y\/w.1=z))(hn:∀w∈scope.names,w.2=.local->scope.names.lookup w.1=Yc .local)
  (O:Xb scope X.env=pure [(y,c),(z,e)]) (hc:X.env.cells.lookup y=Yc c) (he:X.env.cells.lookup z=Yc e) (hN:X.N[j]?=Yc y) (hM:X.N[k]?=Yc z) (G:X.env.kindOf y=Yc .cell) (U:X.env.kindOf z=Yc .cell) (hr:(VO scope X.env).names.lookup y=Yc .cell) (V:(VO scope X.env).names.lookup z=Yc .cell) :
  mD X scope [(y,c),(z,e)] (pre++[y,z]) (R7 pre.length none++[Yc j,Yc k]) where
 C6:=O
 cell:=λw hw=>(h w hw).1
 kind:=D
 names:=hn
 cls:=λx c' q=>by
  rw[Q5]at q
  split at q
  .rename_i Z;rw[eq_of_beq Z,<-q];exact hc
  rw[Q5]at q
  split at q
  .rename_i Z;rw[eq_of_beq Z,<-q];exact he
  cases q
 has:=λx q=>by
  have key:∀k,(VO scope X.env).names.lookup x=Yc k->k=.cell\/k=.free->x=y\/x=z:=λk q G=>by
   have hm:=PySem.mem_of_lookup q;obtain⟨⟨n,k'⟩,hy,J⟩:=OO.mp hm;have h1:=h _ hy;by_cases hf:k'=.free
   .have w:=h1.2 hf;dsimp only at J
    split at J
    .cases J;exact w
    cases J;exact w
   have hb:(k'==NameKind.free)=false:=by simpa using hf
   simp only[hb,Qw,PF,U1,Prod.mk.injEq]at J;obtain⟨_,rfl⟩:=J;rcases G with G|G
   .exact Us G h1.1
   exact Us G hf
  have LW:x=y\/x=z:=by
   rcases q with q|q
   .exact key _ q (.inl rfl)
   exact key _ q (.inr rfl)
  rw[Q5];by_cases e1:x==y
  .rw[e1];exact⟨c,rfl⟩
  have e1:(x==y)=false:=by simpa using e1
  rw[e1];rcases LW with w|w
  .rw[w,US]at e1;cases e1
  rw[Q5,w,US];exact⟨e,rfl⟩
 len:=by simp
 src:=λi q x e1 e2=>by
  by_cases hi:i<pre.length
  .rw[Pg (by simpa using hi),Q1,Uo hi]at e1;cases e1
  rw[Pk (by simp;omega),Su]at e1;rw[Pk (by omega)]at e2
  match hd:i-pre.length,e1,e2 with
  |0,e1,e2 =>
   simp at e1 e2;subst e1 e2;exact⟨hN,.inl G,.inl hr⟩
  |1,e1,e2 =>
   simp at e1 e2;subst e1 e2;exact⟨hM,.inl U,.inl V⟩
  |d+2,e1,e2 =>
   simp at e1
end L2
namespace aI
open PySem L2
variable (K:OM)
def DE:Sp:=λJ H Q _=>∃(a:Um) (ns:List Int) (most:Nat),J=[.ref a,.int most]/\aZ K H a (ns.map V.int)/\ns.length<=63/\most<=40 /\
 ∀(n:Nat) (t D G:Um) (ms os:List Nat) (H':Hp),n<=most->aE H H'->H' t=Yc (.tup [.ref D,.ref G])->H' D=Yc (.lst (nV ms))->ak n ms->H' G=Yc (.lst (nV os))->ak n os->H D=none->H G=none->D≠G->Q (.ref t) H'
def vt(n:Nat)(ms os:List Nat)(S:Nat->Prop):Prop:=∀j,j<2*n->S j->S (ar ms j)/\S (ar os j)
def lJ:Sp:=λJ H Q _=>∃(a b d:Um) (n e:Nat) (ms os:List Nat) (G:List (Key×V)),J=[.ref a,.ref b,.int e,.ref d]/\H a=Yc (.lst (nV ms))/\ak n ms/\H b=Yc (.lst (nV os))/\ak n os/\e<2*n/\H d=Yc (.dK G)/\G.length<=10000 /\
 vt n ms os (λj=>(bX G (Sum.inl (j:Int):Key)).isSome=true)/\¬(bX G (Sum.inl (e:Int):Key)).isSome=true /\
 ∀(l:Um) (L:List Nat) (D:List (Key×V)) (H':Hp),H l=none->(∀c o,c≠d->H c=Yc o->H' c=Yc o)->H' l=Yc (.lst (nV L))->Th.bU (ar ms) (ar os) e L->H' d=Yc (.dK D)->D.length<=G.length+L.length ->
  (∀j:Nat,j<2*n->((bX D (Sum.inl (j:Int):Key)).isSome=true↔(bX G (Sum.inl (j:Int):Key)).isSome=true\/Th.aB (ar ms) (ar os) e j))->Q (.ref l) H'
def rO:Sp:=λD H Q _=>∃(a b:Um) (n:Nat) (ms os:List Nat),D=[.ref a,.ref b]/\H a=Yc (.lst (nV ms))/\ak n ms/\H b=Yc (.lst (nV os))/\ak n os/\∀H':Hp,aE H H'->Q (.int (Th.score (ar ms) (ar os) (2*n):Nat)) H'
def zg:Sp:=λD H Q _=>∃(a b:Um) (n:Nat) (ms os:List Nat),D=[.ref a,.ref b]/\H a=Yc (.lst (nV ms))/\ak n ms/\H b=Yc (.lst (nV os))/\ak n os/\∀H':Hp,aE H H'->Q (.int (aC n ms os:Nat)) H'
end aI
namespace L2
theorem dI{b:Bool}{A B:Prop}(D:b=true)(h:A):if b=true then A else B:=by rw[Uo D];exact h
theorem cZ{b:Bool}{A B:Prop}(D:b=false)(h:B):if b=true then A else B:=by rw[Uk (by rw[D];decide)];exact h
theorem LX{i j:Int}(h:i≠j):decide (V.int i=V.int j)=false:=Up (λz=>h (by injection z))
end L2
namespace Th
open Classical
variable {N:Nat}{a b:Nat->Nat}
noncomputable def turn:Kd->Nat
 |.ring=>0
 |.odd=>1
 |.bare=>1
 |.tied=>0
noncomputable def hd(L:List Nat):Nat:=L.headD 0
noncomputable def aar(a b:Nat->Nat)(L:List Nat):Kd->Prop
 |.ring=>b (bE L)=hd L/\bE L≠hd L/\hd L=mn L
 |.odd=>a (hd L)=hd L/\b (bE L)=bE L
 |.bare=>a (hd L)=hd L/\a (bE L)=bE L/\hd L<bE L
 |.tied=>b (hd L)=hd L/\b (bE L)=bE L/\hd L<bE L
structure cp(N:Nat) (a b:Nat->Nat) (k:Kd) (L:List Nat):Prop where
 ne:0<L.length
 nd:L.Nodup
 lt:∀x∈L,x<N
 par:L.length%2=1↔k=.odd
 lk:∀i x y,L[i]?=Yc x->L[i+1]?=Yc y->(if(turn k+i)%2=0 then a x else b x)=y/\x≠y
 fin:aar a b L k
theorem oN{f g:Nat->Nat}{s:Nat}(T:cv N f g)(hs:s<N)(h:g s=s\/bq f g s):hd (cN f g s)=s/\∀i x y,(cN f g s)[i]?=Yc x->(cN f g s)[i+1]?=Yc y->kB f g i x=y/\x≠y:=by
 obtain⟨K,E⟩:=gJ T hs h;rw[jG T hs E];constructor
 .unfold hd eX;rw[Sq]
  rfl
 intro i x y G D;have J:i+1<K+1:=by
  have:=OI.mp D;obtain⟨q,_⟩:=this;rwa[cR]at q
 rw[Dd (by omega)]at G D;obtain rfl:=Option.some.inj G;obtain rfl:=Option.some.inj D;exact⟨rfl,(E.oz.mv i (by omega)).symm⟩
theorem xH{f g:Nat->Nat}{s K:Nat}(T:cv N f g)(hs:s<N)(E:Ends f g s K):bE (cN f g s)=dH f g s K:=by
 rw[jG T hs E,lE];unfold bE;rw[SM]
theorem xI(f g:Nat->Nat)(i x:Nat):kB f g i x=if i%2=0 then f x else g x:=rfl
theorem vv(T:cv N a b){th:Kd×List Nat}(h:th∈pU N a b):cp N a b th.1 th.2:=by
 rcases OY.mp h with h|h
 .rcases OY.mp h with h|h
  ·-- from an end loose in a
   obtain⟨u,hu,rfl⟩:=OO.mp h;obtain⟨hu,pu⟩:=O0.mp hu;obtain⟨G,J⟩:=dw.mp hu;have pu:pA a b u:=Uw pu;obtain⟨l1,l2⟩:=ni T.swap G (.inl J);obtain⟨Z,O⟩:=oN T.swap G (.inl J);have C:=bH T.swap G (.inl J);have U:∀x∈cN b a u,x<N:=λx V=>((C.mem x).mp V).lt T.swap G;obtain⟨K,E⟩:=gJ T.swap G (.inl J);have hl:(cN b a u).length=K+1:=by rw[jG T.swap G E,cR]
   have D:=xH T.swap G E;have ld:=E.loose T.swap G J (i:=K) (ON _);by_cases o:(cN b a u).length%2=1
   .have e:eA a b u=(.odd,cN b a u):=by unfold eA;rw[Uo o]
    rw[e];show cp N a b .odd (cN b a u);refine⟨l1,C.nd,U,⟨λ_=>rfl,λ_=>o⟩,λi x y V hy=>?_,?_,?_⟩
    .have:=O i x y V hy;show(if(1+i)%2=0 then a x else b x)=y/\x≠y;rw[xI]at this;refine⟨?_,this.2⟩;rw[<-this.1];by_cases c:i%2=0
     .rw[Uk (by omega),Uo c]
     rw[Uo (by omega),Uk c]
    .show a (hd (cN b a u))=hd (cN b a u);rw[Z];exact J
    show b (bE (cN b a u))=bE (cN b a u);rw[D];exact ld.1.mpr ⟨rfl,by omega⟩
   have e:eA a b u=(.bare,cN b a u):=by unfold eA;rw[Uk o]
   rw[e];show cp N a b .bare (cN b a u);have aas:u<bE (cN b a u):=pu.resolve_left o;refine⟨l1,C.nd,U,⟨λz=>Us z o,λz=>by cases z⟩,λi x y V hy=>?_,?_,?_,?_⟩
   .have:=O i x y V hy;show(if(1+i)%2=0 then a x else b x)=y/\x≠y;rw[xI]at this;refine⟨?_,this.2⟩;rw[<-this.1];by_cases c:i%2=0
    .rw[Uk (by omega),Uo c]
    rw[Uo (by omega),Uk c]
   .show a (hd (cN b a u))=hd (cN b a u);rw[Z];exact J
   .show a (bE (cN b a u))=bE (cN b a u);rw[D];exact ld.2.mpr (.inr ⟨rfl,by omega⟩)
   rw[Z];exact aas
  obtain⟨u,hu,rfl⟩:=OO.mp h;obtain⟨hu,pu⟩:=O0.mp hu;obtain⟨G,J⟩:=dw.mp hu;obtain⟨ev,lt2⟩:pB a b u:=Uw pu;obtain⟨l1,l2⟩:=ni T G (.inl J);obtain⟨Z,O⟩:=oN T G (.inl J);have C:=bH T G (.inl J);have U:∀x∈cN a b u,x<N:=λx V=>((C.mem x).mp V).lt T G;obtain⟨_,_,q,_,_⟩:=fv T G J ev;show cp N a b .tied (cN a b u);refine⟨l1,C.nd,U,⟨λz=>by omega,λz=>by cases z⟩,λi x y V hy=>?_,?_,q,?_⟩
  .have:=O i x y V hy;unfold turn;rw[Qh];exact this
  .show b (hd (cN a b u))=hd (cN a b u);rw[Z];exact J
  rw[Z];exact lt2
 obtain⟨m,hm,rfl⟩:=OO.mp h;obtain⟨ml,lm,wm⟩:=bI.mp hm;obtain⟨l1,l2⟩:=ni T ml (.inr wm);obtain⟨Z,O⟩:=oN T ml (.inr wm);have C:=bH T ml (.inr wm);have U:∀x∈cN a b m,x<N:=λx V=>((C.mem x).mp V).lt T ml;obtain⟨K,E⟩:=gJ T ml (.inr wm);have hl:(cN a b m).length=K+1:=by rw[jG T ml E,cR]
 have D:=xH T ml E;have gm:=(wm m (aB.refl m)).2;obtain⟨r1,r2,r3⟩:=E.ring T ml gm;show cp N a b .ring (cN a b m);refine⟨l1,C.nd,U,⟨λz=>by omega,λz=>by cases z⟩,λi x y V hy=>?_,?_,?_,?_⟩
 .have:=O i x y V hy;unfold turn;rw[Qh];exact this
 .rw[D,Z,<-r3];exact T.gg m ml
 .rw[D,Z,<-r3];exact gm
 rw[Z];obtain⟨q1,q2⟩:=gL C;have:=lm _ q1;have:=q2 m (aB.refl m);omega
theorem AL(T:cv N a b){J:List (Kd×List Nat)}(hp:J.Perm (pU N a b)):(J.map (·.2)).flatten.Perm (OV N):=by
 have p1:(J.map (·.2)).flatten.Perm ((pU N a b).map (·.2)).flatten:=(hp.map _).flatten;refine p1.trans ?_;have nd:((pU N a b).map (·.2)).flatten.Nodup:=by
  rw[Pc,SA];constructor
  .intro l O;obtain⟨th,h,rfl⟩:=OO.mp O;obtain⟨u,Z,C⟩:=lG T h;exact C.nd
  rw[Px];have kn:=keys_nodup T;rw[Pc,Px]at kn;refine kn.imp_of_mem λ{p q} hp hq U=>?_;intro x G y hy V;subst V;obtain⟨u,Z,C⟩:=lG T hp;obtain⟨v,hv,D⟩:=lG T hq;refine U ?_;have c1:=(C.mem x).mp G;have c2:=(D.mem x).mp hy;have uv:aB a b u v:=c1.trans (c2.symm T hv);obtain⟨m1,m2⟩:=gL C;obtain⟨m3,m4⟩:=gL D;have:=m2 _ (uv.trans m3);have:=m4 _ ((uv.symm T Z).trans m1);omega
 refine(P0 nd PL).mpr λx=>?_;rw[Sn,OX];constructor
 .rintro⟨l,O,G⟩;obtain⟨th,h,rfl⟩:=OO.mp O;exact(vv T h).lt x G
 intro G;by_cases w:bq a b x
 .obtain⟨m,m1,m2,m3⟩:=kK T G;have wm:=w.of T G m1;have hm:m∈RL a b N:=bI.mpr ⟨m2,m3,wm⟩;refine⟨cN a b m,OO.mpr ⟨(.ring,cN a b m),OY.mpr (.inr (OO.mpr ⟨m,hm,rfl⟩)),rfl⟩,?_⟩;exact((bH T m2 (.inr wm)).mem x).mpr (m1.symm T G)
 obtain⟨th,h1,h2⟩:=(oC T G).mpr w;exact⟨th.2,OO.mpr ⟨th,OY.mpr (.inl h1),rfl⟩,h2⟩
theorem DF{P X Q Y:Option Nat}{p x q y:Nat}(n1:p≠x)(n2:p≠q)(n3:p≠y)(n4:x≠q)(n5:x≠y)(n6:q≠y)
  (p1:P≠Yc p) (p2:X≠Yc x) (p3:Q≠Yc q) (p4:Y≠Yc y)
  (s1:P=Yc x↔X=Yc p) (s2:P=Yc q↔Q=Yc p) (s3:P=Yc y↔Y=Yc p) (s4:X=Yc q↔Q=Yc x) (s5:X=Yc y↔Y=Yc x) (s6:Q=Yc y↔Y=Yc q)
  {d1 d2 d3 d4:Int}{D J G O:Option Nat}
  (U:D=if X=Yc p then Q else if X=Yc q then P else X) (V:J=if Y=Yc p then Q else if Y=Yc q then P else Y)
  (Z:G=if Q=Yc p then X else if Q=Yc x then P else Q) (hY2:O=if Y=Yc p then X else if Y=Yc x then P else Y)
  (h1:d1=if P=Yc q then 2 else if P=none/\Q=none then -2 else 0)
  (h2:d2=if D=Yc y then 2 else if D=none/\J=none then -2 else 0)
  (h3:d3=if P=Yc x then 2 else if P=none/\X=none then -2 else 0)
  (h4:d4=if G=Yc y then 2 else if G=none/\O=none then -2 else 0) :
  d1+d2-d3-d4=2↔(P=Yc q\/X=Yc y\/(Q=none/\Y=none/\P≠none/\X≠none/\P≠Yc x)\/(P=none/\X=none/\Q≠none/\Y≠none/\Q≠Yc y)):=by
 by_cases a1:P=Yc x
 .grind
 by_cases a2:P=Yc q
 .grind
 by_cases a3:P=Yc y
 .grind
 by_cases a4:X=Yc q
 .grind
 by_cases a5:X=Yc y
 .grind
 by_cases a6:Q=Yc y
 .grind
 by_cases b1:P=none <;> by_cases b2:X=none <;> by_cases b3:Q=none <;> by_cases b4:Y=none <;> grind
variable {N:Nat}{a b:Nat->Nat}
noncomputable def c4(a:Nat->Nat)(p q x:Nat):Nat:=if x=p\/x=a p\/x=q\/x=a q then x else a x
theorem vx(T:cv N a b){p q:Nat}(hp:p<N)(D:q<N):cv N (c4 a p q) b:=by
 refine⟨λx h=>?_,T.gl,λx h=>?_,T.gg⟩
 .have:=T.fl x h;unfold c4
  split <;> assumption
 have:=T.ff x h;have:=T.ff p hp;have:=T.ff q D;unfold c4;grind
theorem jt(p q:Nat):c4 a p q p=p/\c4 a p q (a p)=a p/\c4 a p q q=q/\c4 a p q (a q)=a q:=by
 refine⟨Uo (.inl rfl),Uo (.inr (.inl rfl)),Uo (.inr (.inr (.inl rfl))),Uo (.inr (.inr (.inr rfl)))⟩
theorem BL(T:cv N a b){p:Nat}(hp:p<N)(G:a p≠p){a2:Nat->Nat}(J:∀x,x<N->a2 x=aI.cG a p p x) :
  (score a2 b N:Int)-score a b N=2↔(pt (c4 a p p) b p=none/\pt (c4 a p p) b (a p)=none):=by
 have O:=T.fl p hp;have V:=T.ff p hp;have ec:c4 a p p=cut a p:=funext λx=>by unfold c4 cut;grind
 rw[ec];have T0:=vq T hp;have c1:cut a p p=p:=by unfold cut;rw[Uo (.inl rfl)]
 have c2:cut a p (a p)=a p:=by unfold cut;rw[Uo (.inr rfl)]
 have e1:=dq T0 hp O c1 c2 (λz=>G z.symm);have e2:score (link (cut a p) p (a p)) b N=score a b N:=di T (λx D=>by have:=T.ff x D;unfold link cut;grind) (λ_ _=>rfl);have e3:score a2 b N=score (cut a p) b N:=di T0 (λx D=>by rw[J x D];unfold aI.cG cut;grind) (λ_ _=>rfl);rw[e2]at e1;rw[e3];have U:dl (cut a p) b p (a p)=-2↔(pt (cut a p) b p=none/\pt (cut a p) b (a p)=none):=by
  unfold dl;by_cases c:pt (cut a p) b p=Yc (a p)
  .rw[Uo c,c];constructor
   .intro z;cases z
   rintro⟨z,_⟩;cases z
  rw[Uk c];by_cases d:pt (cut a p) b p=none/\pt (cut a p) b (a p)=none
  .rw[Uo d];exact⟨λ_=>d,λ_=>rfl⟩
  rw[Uk d];exact⟨λz=>Us z (by decide),λz=>Us z d⟩
 rw[<-U];omega
theorem xJ(T:cv N a b){p q:Nat}(hp:p<N)(J:q<N)(D:p≠q)(hf:a p≠q){a2:Nat->Nat}(h2:∀x,x<N->a2 x=aI.cG a p q x) :
  (score a2 b N:Int)-score a b N=2↔(pt (c4 a p q) b p=Yc q\/(a p≠p/\a q≠q/\pt (c4 a p q) b (a p)=Yc (a q)) \/
   (a q≠q/\pt (c4 a p q) b q=none/\pt (c4 a p q) b (a q)=none/\pt (c4 a p q) b p≠none/\pt (c4 a p q) b (a p)≠none/\(a p≠p->pt (c4 a p q) b p≠Yc (a p))) \/
   (a p≠p/\pt (c4 a p q) b p=none/\pt (c4 a p q) b (a p)=none/\pt (c4 a p q) b q≠none/\pt (c4 a p q) b (a q)≠none/\(a q≠q->pt (c4 a p q) b q≠Yc (a q)))):=by
 have ip:=T.ff p hp;have iq:=T.ff q J;have lp:=T.fl p hp;have lq:=T.fl q J;by_cases ap:a p=p
 .by_cases aq:a q=q
  .have ec:c4 a p q=a:=funext λx=>by unfold c4;grind
   rw[ec];have e1:=dq T hp J ap aq D;have T1:=gP T hp J ap aq;have e3:score a2 b N=score (link a p q) b N:=di T1 (λx V=>by rw[h2 x V];unfold aI.cG link;grind) (λ_ _=>rfl);rw[e3,e1];unfold dl;grind
  have ec:c4 a p q=cut a q:=funext λx=>by unfold c4 cut;grind
  rw[ec];have T0:=vq T J;have c1:cut a q q=q:=by unfold cut;rw[Uo (.inl rfl)]
  have c2:cut a q (a q)=a q:=by unfold cut;rw[Uo (.inr rfl)]
  have Z:p≠a q:=λz=>hf (by rw[z];exact iq);have U:cut a q p=p:=by unfold cut;rw[Uk (by rintro(z|z);exact D z;exact Z z)];exact ap
  have e1:=dq T0 J lq c1 c2 (λz=>aq z.symm);have e2:score (link (cut a q) q (a q)) b N=score a b N:=di T (λx V=>by have:=T.ff x V;unfold link cut;grind) (λ_ _=>rfl);have e4:=dq T0 hp J U c1 D;have T1:=gP T0 hp J U c1;have e3:score a2 b N=score (link (cut a q) p q) b N:=di T1 (λx V=>by rw[h2 x V];have:=T.ff x V;unfold aI.cG link cut;grind) (λ_ _=>rfl);have sy:pt (cut a q) b p=Yc q↔pt (cut a q) b q=Yc p:=⟨λh=>(gh T0 hp U h).2.2.2,λh=>(gh T0 J c1 h).2.2.2⟩
  rw[e2]at e1;rw[e3,e4,e1];unfold dl;grind
 by_cases aq:a q=q
 .have ec:c4 a p q=cut a p:=funext λx=>by unfold c4 cut;grind
  rw[ec];have T0:=vq T hp;have c1:cut a p p=p:=by unfold cut;rw[Uo (.inl rfl)]
  have c2:cut a p (a p)=a p:=by unfold cut;rw[Uo (.inr rfl)]
  have U:cut a p q=q:=by unfold cut;rw[Uk (by rintro(z|z);exact D z.symm;exact hf z.symm)];exact aq
  have e1:=dq T0 hp lp c1 c2 (λz=>ap z.symm);have e2:score (link (cut a p) p (a p)) b N=score a b N:=di T (λx V=>by have:=T.ff x V;unfold link cut;grind) (λ_ _=>rfl);have e4:=dq T0 hp J c1 U D;have T1:=gP T0 hp J c1 U;have e3:score a2 b N=score (link (cut a p) p q) b N:=di T1 (λx V=>by rw[h2 x V];have:=T.ff x V;unfold aI.cG link cut;grind) (λ_ _=>rfl);rw[e2]at e1;rw[e3,e4,e1];unfold dl;grind
 have Z:p≠a q:=λz=>hf (by rw[z];exact iq);have Kp:a p≠a q:=λz=>D (by rw[<-ip,z,iq]);have T0:=vx T hp J;obtain⟨c1,c2,U,O⟩:=jt (a:=a) p q;generalize ea:c4 a p q=G at T0 c1 c2 U O;have v0:∀x,G x=if x=p\/x=a p\/x=q\/x=a q then x else a x:=λx=>by rw[<-ea];rfl
 have lk:∀{u v w:Nat},G w=w->w≠u->w≠v->link G u v w=w:=λ{u v w} h1 h2 h3=>by unfold link;rw[Uk h2,Uk h3];exact h1
 have e1:=dq T0 hp lp c1 c2 (λz=>ap z.symm);have T1:=gP T0 hp lp c1 c2;have d3:=lk U (u:=p) (v:=a p) (λz=>D z.symm) hf.symm;have d4:=lk O (u:=p) (v:=a p) Z.symm Kp.symm;have e2:=dq T1 J lq d3 d4 (λz=>aq z.symm);have e3:score (link (link G p (a p)) q (a q)) b N=score a b N:=di T (λx V=>by have:=T.ff x V;unfold link;rw[v0];grind) (λ_ _=>rfl);have f1:=dq T0 hp J c1 U D;have T2:=gP T0 hp J c1 U;have g3:=lk c2 (u:=p) (v:=q) ap hf;have g4:=lk O (u:=p) (v:=q) Z.symm aq;have f2:=dq T2 lp lq g3 g4 Kp;have T3:=gP T2 lp lq g3 g4;have f3:score a2 b N=score (link (link G p q) (a p) (a q)) b N:=di T3 (λx V=>by rw[h2 x V];have:=T.ff x V;unfold aI.cG link;rw[v0];grind) (λ_ _=>rfl);have sm:∀{u v:Nat},u<N->v<N->G u=u->G v=v->(pt G b u=Yc v↔pt G b v=Yc u):=λhu hv au av=>⟨λh=>(gh T0 hu au h).2.2.2,λh=>(gh T0 hv av h).2.2.2⟩
 have ns:∀{u:Nat},u<N->G u=u->pt G b u≠Yc u:=λhu au h=>(gh T0 hu au h).2.2.1 rfl;have key:=DF (P:=pt G b p) (X:=pt G b (a p)) (Q:=pt G b q) (Y:=pt G b (a q)) (p:=p) (x:=a p) (q:=q) (y:=a q) (λz=>ap z.symm) D Z hf Kp (λz=>aq z.symm)
  (ns hp c1) (ns lp c2) (ns J U) (ns lq O) (sm hp lp c1 c2) (sm hp J c1 U) (sm hp lq c1 O) (sm lp J c2 U) (sm lp lq c2 O) (sm J lq U O)
  (lI T0 hp J c1 U D lp c2 ap hf) (lI T0 hp J c1 U D lq O Z.symm aq)
  (lI T0 hp lp c1 c2 (λz=>ap z.symm) J U (λz=>D z.symm) hf.symm) (lI T0 hp lp c1 c2 (λz=>ap z.symm) lq O Z.symm Kp.symm)
  (d1:=dl G b p q) (d2:=dl (link G p q) b (a p) (a q)) (d3:=dl G b p (a p)) (d4:=dl (link G p (a p)) b q (a q)) rfl rfl rfl rfl
 rw[e3]at e2;have ed:(score a2 b N:Int)-score a b N=dl G b p q+dl (link G p q) b (a p) (a q)-dl G b p (a p)-dl (link G p (a p)) b q (a q):=by rw[f3];omega
 rw[ed,key];constructor
 .rintro(h|h|⟨h1,h2,h3,h4,h5⟩|⟨h1,h2,h3,h4,h5⟩)
  .exact .inl h
  .exact .inr (.inl ⟨ap,aq,h⟩)
  .exact .inr (.inr (.inl ⟨aq,h1,h2,h3,h4,λ_=>h5⟩))
  exact .inr (.inr (.inr ⟨ap,h1,h2,h3,h4,λ_=>h5⟩))
 rintro(h|⟨_,_,h⟩|⟨_,h1,h2,h3,h4,h5⟩|⟨_,h1,h2,h3,h4,h5⟩)
 .exact .inl h
 .exact .inr (.inl h)
 .exact .inr (.inr (.inl ⟨h1,h2,h3,h4,h5 ap⟩))
 exact .inr (.inr (.inr ⟨h1,h2,h3,h4,h5 aq⟩))
variable {k:Kd}{L:List Nat}
theorem cp.aR(G:cp N a b k L){i x y:Nat}(D:L[i]?=Yc x)(J:L[i+1]?=Yc y)(o:(turn k+i)%2=0):a x=y:=by
 have z:=(G.lk i x y D J).1;rwa[Uo o]at z
theorem cp.bR(G:cp N a b k L){i x y:Nat}(D:L[i]?=Yc x)(J:L[i+1]?=Yc y)(o:(turn k+i)%2=1):b x=y:=by
 have z:=(G.lk i x y D J).1;rwa[Uk (by omega)]at z
theorem cp.one(G:cp N a b k L){i j x:Nat}(D:L[i]?=Yc x)(J:L[j]?=Yc x):i=j:=by
 obtain⟨O,e1⟩:=OI.mp D;obtain⟨U,e2⟩:=OI.mp J;exact(Sk G.nd).mp (e1.trans e2.symm)
theorem cp.DG(G:cp N a b k L){i x:Nat}(h:L[i]?=Yc x):x<N:=G.lt x (OP h)
theorem DH{i x:Nat}(h:L[i]?=Yc x):L[0]?=Yc (hd L):=by
 cases L with
 |nil=>simp at h
 |cons y r=>rfl
theorem vy{i x:Nat}(h:L[i]?=Yc x):L[L.length-1]?=Yc (bE L):=by
 have D:0<L.length:=Qs (PH _) (OI.mp h).1;rw[<-rn D,R8]
theorem cp.mate(G:cp N a b k L)(T:cv N a b){i x:Nat}(h:L[i]?=Yc x) :
  ((turn k+i)%2=0/\(L[i+1]?=Yc (a x)\/(i+1=L.length/\a x=x/\k=.bare)))\/((turn k+i)%2=1/\((1<=i/\L[i-1]?=Yc (a x))\/(i=0/\a x=x/\(k=.bare\/k=.odd)))):=by
 have O:=(OI.mp h).1;by_cases o:(turn k+i)%2=0
 .refine .inl ⟨o,?_⟩;by_cases c:i+1<L.length
  .obtain⟨y,J⟩:∃y,L[i+1]?=Yc y:=⟨_,OG c⟩
   rw[G.aR h J o];exact .inl J
  refine .inr ⟨by omega,?_⟩;have e:i=L.length-1:=by omega
  have D:=vy h;rw[<-e,h]at D;have D:=Option.some.inj D;have par:=G.par;have F:=G.fin;cases k with
  |ring=>exact Us o (by show¬(0+i)%2=0;have:¬L.length%2=1:=(λz=>by cases par.mp z);omega)
  |odd=>exact Us o (by show¬(1+i)%2=0;have:=par.mpr rfl;omega)
  |bare=>exact⟨by rw[D];exact F.2.1,rfl⟩
  |tied=>exact Us o (by show¬(0+i)%2=0;have:¬L.length%2=1:=(λz=>by cases par.mp z);omega)
 have o:(turn k+i)%2=1:=by omega
 refine .inr ⟨o,?_⟩;by_cases c:i=0
 .refine .inr ⟨c,?_⟩;subst c;have D:=DH h;rw[h]at D;have D:=Option.some.inj D;have F:=G.fin;cases k with
  |ring=>exact Us o (by decide)
  |odd=>exact⟨by rw[D];exact F.1,.inr rfl⟩
  |bare=>exact⟨by rw[D];exact F.1,.inl rfl⟩
  |tied=>exact Us o (by decide)
 obtain⟨y,J⟩:∃y,L[i-1]?=Yc y:=⟨_,OG (by omega)⟩
 have h':L[i-1+1]?=Yc x:=by rw[show i-1+1=i by omega];exact h
 have e:=G.aR J h' (by omega);refine .inl ⟨by omega,?_⟩;rw[<-e,T.ff y (G.DG J)];exact J
theorem cp.gone(G:cp N a b k L)(T:cv N a b){i m p x:Nat}(hp:L[i]?=Yc p)(D:L[m]?=Yc x)(o:(turn k+m)%2=0)(h:x=p\/x=a p):((turn k+i)%2=0/\m=i)\/((turn k+i)%2=1/\m+1=i):=by
 rcases h with rfl|rfl
 .have:=G.one D hp;subst this;exact .inl ⟨o,rfl⟩
 rcases G.mate T hp with⟨O,J|⟨_,J,_⟩⟩|⟨O,⟨U,J⟩|⟨_,J,_⟩⟩
 .have:=G.one D J;omega
 .rw[J]at D;exact .inl ⟨O,G.one D hp⟩
 .have:=G.one D J;exact .inr ⟨O,by omega⟩
 rw[J]at D;have:=G.one D hp;omega
theorem cp.seg(G:cp N a b k L){O:Nat->Nat}{i x:Nat}(U:L[i]?=Yc x):∀(d y:Nat),L[i+d]?=Yc y->(∀m u,i<=m->m<i+d->L[m]?=Yc u->(turn k+m)%2=0->O u=a u)->aB O b x y
 |0,y,D,_=>by
  rw[Sy,U]at D;rw[Option.some.inj D];exact aB.refl _
 |d+1,y,D,V=>by
  obtain⟨l1,_⟩:=OI.mp D;obtain⟨u,J⟩:∃u,L[i+d]?=Yc u:=⟨_,OG (by omega)⟩
  have c:=cp.seg G U d u J λm u Z h2 h3 h4=>V m u Z (by omega) h3 h4;by_cases o:(turn k+(i+d))%2=0
  .have e:=G.aR J D o;rw[<-e,<-V (i+d) u (by omega) (by omega) J o];exact c.sf
  have e:=G.bR J D (by omega);rw[<-e];exact c.sg
theorem lK{p q:Nat}(h:p≠q)(x:Nat):aI.cG a p q x=aI.cG a q p x:=by
 unfold aI.cG;grind
theorem cp.kept(G:cp N a b k L)(T:cv N a b){i j m p q u:Nat}(hp:L[i]?=Yc p)(J:L[j]?=Yc q)(D:L[m]?=Yc u)(o:(turn k+m)%2=0)
  (O:¬(((turn k+i)%2=0/\m=i)\/((turn k+i)%2=1/\m+1=i))) (U:¬(((turn k+j)%2=0/\m=j)\/((turn k+j)%2=1/\m+1=j))):c4 a p q u=a u:=by
 unfold c4;rw[Uk];rintro(h|h|h|h)
 .exact O (G.gone T hp D o (.inl h))
 .exact O (G.gone T hp D o (.inr h))
 .exact U (G.gone T J D o (.inl h))
 exact U (G.gone T J D o (.inr h))
theorem xK(T:cv N a b)(G:cp N a b k L){i j p q:Nat}(hp:L[i]?=Yc p)(J:L[j]?=Yc q)(Jg:i<j)(hf:a p≠q){a2:Nat->Nat}(h2:∀x,x<N->a2 x=aI.cG a p q x) :
  (score a2 b N:Int)-score a b N=2↔(turn k+i)%2≠(turn k+j)%2:=by
 have Z:=G.DG hp;have lq:=G.DG J;have hpq:p≠q:=λz=>by rw[z]at hp;have:=G.one hp J;omega
 have T0:=vx T Z lq;obtain⟨c1,c2,c3,c4'⟩:=jt (a:=a) p q;have hjl:=(OI.mp J).1;have O:=T.fl p Z;have laq:=T.fl q lq;rw[xJ T Z lq hpq hf h2];have kp:=λ{m u:Nat}=>G.kept T (m:=m) (u:=u) hp J;have U:∀{s e x y:Nat},s<=e->L[s]?=Yc x->L[e]?=Yc y->(∀m,s<=m->m<e->(turn k+m)%2=0->¬(((turn k+i)%2=0/\m=i)\/((turn k+i)%2=1/\m+1=i))/\¬(((turn k+j)%2=0/\m=j)\/((turn k+j)%2=1/\m+1=j)))->aB (c4 a p q) b x y:=λ{s e x y} hse V D hm =>
  G.seg V (e-s) y (by rw[show s+(e-s)=e by omega];exact D) λm u h1 h2 h3 h4=>by
   have z:=hm m h1 (by omega) h4;exact kp h3 h4 z.1 z.2
 have sy:∀{u v:Nat},u<N->c4 a p q u=u->pt (c4 a p q) b u=Yc v->pt (c4 a p q) b v=Yc u:=λhu au h=>(gh T0 hu au h).2.2.2;rcases G.mate T hp with⟨o1,m1⟩|⟨o1,m1⟩
 ·-- p's mate is behind it
  have V:L[i+1]?=Yc (a p):=m1.resolve_right λz=>by omega
  have apn:a p≠p:=λz=>by rw[z]at V;have:=G.one V hp;omega
  rcases G.mate T J with⟨o2,m2⟩|⟨o2,m2⟩
  ·-- Cf same
   have ne:a p≠q:=hf;have pk:pt (c4 a p q) b (a p)=Yc q:=(cw T0 O c2).mpr ⟨ne.symm,U (by omega) V J λm z1 z2 z3=>⟨by omega,by omega⟩,c3⟩;have qk:=sy O c2 pk;constructor
   .rintro(h|⟨_,h0,h⟩|⟨_,h,_⟩|⟨_,_,h,_⟩)
    .have:=sy Z c1 h;rw[qk]at this;exact Us (Option.some.inj this) apn
    .rw[pk]at h;exact Us (Option.some.inj h).symm h0
    .rw[qk]at h;cases h
    rw[pk]at h;cases h
   intro h;exact Us (by omega) h
  have hj1:1<=j:=by omega
  have D:L[j-1]?=Yc (a q):=(m2.resolve_right λz=>by omega).2;have aqn:a q≠q:=λz=>by rw[z]at D;have:=G.one D J;omega
  have nj:j≠i+1:=λz=>by
   rw[z,V]at J;exact hf (Option.some.inj J)
  have Kp:a q≠a p:=λz=>by rw[z]at D;have:=G.one D V;omega
  refine⟨λ_=>by omega,λ_=>.inr (.inl ⟨apn,aqn,(cw T0 O c2).mpr ⟨Kp,U (by omega) V D λm z1 z2 z3=>⟨by omega,by omega⟩,c4'⟩⟩)⟩
 rcases G.mate T J with⟨o2,m2⟩|⟨o2,m2⟩
 .refine⟨λ_=>by omega,λ_=>.inl ((cw T0 Z c1).mpr ⟨hpq.symm,U (by omega) hp J λm z1 z2 z3=>⟨by omega,by omega⟩,c3⟩)⟩
 have D:L[j-1]?=Yc (a q):=(m2.resolve_right λz=>by omega).2;have aqn:a q≠q:=λz=>by rw[z]at D;have:=G.one D J;omega
 have npy:a q≠p:=λz=>by rw[z]at D;have:=G.one D hp;omega
 have pk:pt (c4 a p q) b p=Yc (a q):=(cw T0 Z c1).mpr ⟨npy,U (by omega) hp D λm z1 z2 z3=>⟨by omega,by omega⟩,c4'⟩;have qk:=sy Z c1 pk;constructor
 .rintro(h|⟨h0,_,h⟩|⟨_,_,h,_⟩|⟨_,h,_⟩)
  .rw[pk]at h;exact Us (Option.some.inj h) aqn
  .have:=sy O c2 h;rw[qk]at this;exact Us (Option.some.inj this).symm h0
  .rw[qk]at h;cases h
  rw[pk]at h;cases h
 intro h;exact Us (by omega) h
structure Gv(a b a0:Nat->Nat) (k:Kd) (L:List Nat) (i p:Nat):Prop where
 c1:a0 p=p
 c2:a0 (a p)=a p
 lo:∀x,a x=x->a0 x=x
 kp:∀m u,L[m]?=Yc u->(turn k+m)%2=0->¬(((turn k+i)%2=0/\m=i)\/((turn k+i)%2=1/\m+1=i))->a0 u=a u
theorem rP(T:cv N a b){D:Nat->Nat}(T0:cv N D b)(G:cp N a b k L){i p:Nat}(hp:L[i]?=Yc p)(C:Gv a b D k L i p) :
  match k with
  |.tied=>a p≠p/\pt D b p=none/\pt D b (a p)=none
  |.bare=>pt D b p≠none/\pt D b (a p)≠none/\(a p≠p->pt D b p≠Yc (a p))
  |.odd=>(a p=p/\pt D b p=none)\/(a p≠p/\((pt D b p=none/\pt D b (a p)≠none)\/(pt D b p≠none/\pt D b (a p)=none)))
  |.ring=>a p≠p/\pt D b p=Yc (a p):=by
 have J:=G.DG hp;have O:=T.fl p J;have h0:=DH hp;have hl:=vy hp;have il:=(OI.mp hp).1;have l0:=G.DG h0;have ll:=G.DG hl;have par:=G.par;have F:=G.fin;have sg:∀{s e x y:Nat},s<=e->L[s]?=Yc x->L[e]?=Yc y->(∀m,s<=m->m<e->(turn k+m)%2=0->¬(((turn k+i)%2=0/\m=i)\/((turn k+i)%2=1/\m+1=i)))->aB D b x y:=λ{s e x y} hse hx hy hm =>
  G.seg hx (e-s) y (by rw[show s+(e-s)=e by omega];exact hy) λm u h1 h2 h3 h4=>C.kp m u h3 h4 (hm m h1 (by omega) h4)
 have to0:∀{s x:Nat},L[s]?=Yc x->(∀m,m<s->(turn k+m)%2=0->¬(((turn k+i)%2=0/\m=i)\/((turn k+i)%2=1/\m+1=i)))->aB D b x (hd L):=λ{s x} hx hm=>(sg (PH s) h0 hx λm _ z=>hm m z).symm T0 l0;have toL:∀{s x:Nat},L[s]?=Yc x->(∀m,s<=m->(turn k+m)%2=0->¬(((turn k+i)%2=0/\m=i)\/((turn k+i)%2=1/\m+1=i)))->aB D b x (bE L):=λ{s x} hx hm=>sg (by have:=(OI.mp hx).1;omega) hx hl λm z _=>hm m z;have no:∀{u z:Nat},u<N->D u=u->aB D b u z->b z=z->pt D b u=none:=λhu au c bz=>(dm T0 hu au).mpr ⟨_,c,bz⟩;have so:∀{u z:Nat},u<N->D u=u->aB D b u z->D z=z->z≠u->pt D b u=Yc z:=λhu au c az ne=>(cw T0 hu au).mpr ⟨ne,c,az⟩;have ns:∀{u z:Nat},pt D b u=Yc z->pt D b u≠none:=λh e=>by rw[h]at e;cases e
 rcases G.mate T hp with⟨o,m|⟨e1,e2,e3⟩⟩|⟨o,⟨e1,m⟩|⟨e1,e2,e3⟩⟩
 ·-- its mate is behind it
  have U:a p≠p:=λz=>by rw[z]at m;have:=G.one m hp;omega
  have V:aB D b p (hd L):=to0 hp λm z1 z2=>by omega
  have cx:aB D b (a p) (bE L):=toL m λm z1 z2=>by omega
  have nh:k=.odd\/k=.bare->hd L≠p:=λhk z=>by
   rw[z]at h0;have e:=G.one h0 hp;subst e;rcases hk with rfl|rfl <;> exact Us o (by decide)
  cases k with
  |tied=>exact⟨U,no J C.c1 V F.1,no O C.c2 cx F.2.1⟩
  |odd=>exact .inr ⟨U,.inr ⟨ns (so J C.c1 V (C.lo _ F.1) (nh (.inl rfl))),no O C.c2 cx F.2⟩⟩
  |bare =>
   have nl:bE L≠a p:=λz=>by
    have y:=F.2.1;rw[z,T.ff p J]at y;exact U y.symm
   have Z:=so J C.c1 V (C.lo _ F.1) (nh (.inr rfl));refine⟨ns Z,ns (so O C.c2 cx (C.lo _ F.2.1) nl),λ_ z=>?_⟩;rw[Z]at z;have z:=Option.some.inj z;have y:=F.1;rw[z,T.ff p J]at y;exact U y.symm
  |ring =>
   have hb:b (hd L)=bE L:=by rw[<-F.1];exact T.gg _ ll
   have c:aB D b p (bE L):=by rw[<-hb];exact V.sg
   exact⟨U,so J C.c1 (c.trans (cx.symm T0 O)) C.c2 U⟩
 ·-- Cf last end,loose
  subst e3;have V:aB D b p (hd L):=to0 hp λm z1 z2=>by omega
  have ep:bE L=p:=by rw[show L.length-1=i by omega,hp]at hl;exact(Option.some.inj hl).symm
  have nh:hd L≠p:=λz=>by have:=F.2.2;omega
  have Z:=so J C.c1 V (C.lo _ F.1) nh;exact⟨ns Z,by rw[e2];exact ns Z,λz=>Us e2 z⟩
 .have U:a p≠p:=λz=>by rw[z]at m;have:=G.one m hp;omega
  have V:aB D b p (bE L):=toL hp λm z1 z2=>by omega
  have cx:aB D b (a p) (hd L):=to0 m λm z1 z2=>by omega
  cases k with
  |tied=>exact⟨U,no J C.c1 V F.2.1,no O C.c2 cx F.1⟩
  |odd =>
   have nh:hd L≠a p:=λz=>by
    have y:=F.1;rw[z,T.ff p J]at y;exact U y.symm
   exact .inr ⟨U,.inl ⟨no J C.c1 V F.2,ns (so O C.c2 cx (C.lo _ F.1) nh)⟩⟩
  |bare =>
   have nh:hd L≠a p:=λz=>by
    have y:=F.1;rw[z,T.ff p J]at y;exact U y.symm
   have nl:bE L≠p:=λz=>by
    have y:=F.2.1;rw[z]at y;exact U y
   have Z:=so J C.c1 V (C.lo _ F.2.1) nl;refine⟨ns Z,ns (so O C.c2 cx (C.lo _ F.1) nh),λ_ z=>?_⟩;rw[Z]at z;have z:=Option.some.inj z;have y:=F.2.1;rw[z,T.ff p J]at y;exact U y.symm
  |ring =>
   have c:aB D b p (hd L):=by rw[<-F.1];exact V.sg
   exact⟨U,so J C.c1 (c.trans (cx.symm T0 O)) C.c2 U⟩
 -- Cf first end,loose
 have V:aB D b p (bE L):=toL hp λm z1 z2=>by omega
 have ep:hd L=p:=by rw[e1]at hp;rw[hp]at h0;exact(Option.some.inj h0).symm
 rcases e3 with rfl|rfl
 .have nl:bE L≠p:=λz=>by have:=F.2.2;omega
  have Z:=so J C.c1 V (C.lo _ F.2.1) nl;exact⟨ns Z,by rw[e2];exact ns Z,λz=>Us e2 z⟩
 exact .inl ⟨e2,no J C.c1 V F.2⟩
theorem ug(T:cv N a b)(G:cp N a b k L){i p q:Nat}(hp:L[i]?=Yc p)(h:∀x∈L,x≠q/\x≠a q):Gv a b (c4 a p q) k L i p/\Gv a b (c4 a q p) k L i p:=by
 have base:∀m u,L[m]?=Yc u->(turn k+m)%2=0->¬(((turn k+i)%2=0/\m=i)\/((turn k+i)%2=1/\m+1=i))->u≠p/\u≠a p/\u≠q/\u≠a q:=λm u D o n=>by
  have hm:=h u (OP D);exact⟨λz=>n (G.gone T hp D o (.inl z)),λz=>n (G.gone T hp D o (.inr z)),hm.1,hm.2⟩
 obtain⟨d1,d2,d3,d4⟩:=jt (a:=a) p q;obtain⟨e1,e2,e3,e4⟩:=jt (a:=a) q p;refine⟨⟨d1,d2,λx J=>by unfold c4;split;rfl;exact J,λm u D o n=>?_⟩,e3,e4,λx J=>by unfold c4;split;rfl;exact J,λm u D o n=>?_⟩
 .obtain⟨O,U,V,Z⟩:=base m u D o n;unfold c4;rw[Uk (by rintro(z|z|z|z);exact O z;exact U z;exact V z;exact Z z)]
 obtain⟨O,U,V,Z⟩:=base m u D o n;unfold c4;rw[Uk (by rintro(z|z|z|z);exact V z;exact Z z;exact O z;exact U z)]
theorem DI(T:cv N a b)(G:cp N a b k L){i p:Nat}(hp:L[i]?=Yc p):Gv a b (c4 a p p) k L i p:=by
 obtain⟨d1,d2,_,_⟩:=jt (a:=a) p p;refine⟨d1,d2,λx J=>by unfold c4;split;rfl;exact J,λm u D o n=>?_⟩;unfold c4;rw[Uk];rintro(z|z|z|z)
 .exact n (G.gone T hp D o (.inl z))
 .exact n (G.gone T hp D o (.inr z))
 .exact n (G.gone T hp D o (.inl z))
 exact n (G.gone T hp D o (.inr z))
theorem DJ(T:cv N a b)(G:cp N a b k L){i p:Nat}(hp:L[i]?=Yc p)(J:a p≠p){a2:Nat->Nat}(O:∀x,x<N->a2 x=aI.cG a p p x):(score a2 b N:Int)-score a b N=2↔k=.tied:=by
 have D:=G.DG hp;rw[BL T D J O];have K:=rP T (vx T D D) G hp (DI T G hp);cases k with
 |tied=>exact⟨λ_=>rfl,λ_=>K.2⟩
 |odd =>
  refine⟨λh=>?_,λh=>by cases h⟩;rcases K with⟨K,_⟩|⟨_,⟨_,K⟩|⟨K,_⟩⟩
  .exact Us K J
  .exact Us h.2 K
  exact Us h.1 K
 |bare=>exact⟨λh=>Us h.1 K.1,λh=>by cases h⟩
 |ring=>exact⟨λh=>Us h.1 (by rw[K.2];exactλz=>nomatch z),λh=>nomatch h⟩
theorem AM{p q u v:Nat}(h:aB (c4 a p q) b u v):aB a b u v:=h (λz=>aB a b u z) (aB.refl u) λz hz=>by
 refine⟨?_,hz.sg⟩;unfold c4
 split
 .exact hz
 exact hz.sf
theorem BM(T:cv N a b){k2:Kd}{L2:List Nat}(G:cp N a b k L)(O:cp N a b k2 L2){i j p q:Nat}(hp:L[i]?=Yc p)(U:L2[j]?=Yc q)(D:¬aB a b p q)(d1:∀x∈L,x≠q/\x≠a q)(d2:∀x∈L2,x≠p/\x≠a p)
  {a2:Nat->Nat} (h2:∀x,x<N->a2 x=aI.cG a p q x):(score a2 b N:Int)-score a b N=2↔((k=.bare/\k2=.tied)\/(k=.tied/\k2=.bare)):=by
 have J:=G.DG hp;have V:=O.DG U;have Z:p≠q:=λz=>D (by rw[z];exact aB.refl _);have hf:a p≠q:=λz=>D (by rw[<-z];exact(aB.refl p).sf);have T0:=vx T J V;obtain⟨c1,c2,c3,c4'⟩:=jt (a:=a) p q;rw[xJ T J V Z hf h2];have n1:pt (c4 a p q) b p≠Yc q:=λz=>D (AM ((cw T0 J c1).mp z).2.1);have n2:pt (c4 a p q) b (a p)≠Yc (a q):=λz=>by
  have c:=AM ((cw T0 (T.fl p J) c2).mp z).2.1;have:=((aB.refl (f:=a) (g:=b) p).sf.trans c).sf;rw[T.ff q V]at this;exact D this
 have K:=rP T T0 G hp (ug T G hp d1).1;have K2:=rP T T0 O U (ug T O U d2).2;cases k <;> cases k2 <;> grind
end Th
namespace aI
open PySem L2 Ch
noncomputable def bQ(ms:List Nat)(p q:Nat):Nat×Nat:=(min (ar ms p) (ar ms q),max (ar ms p) (ar ms q))
noncomputable def eo(ms:List Nat)(p q:Nat):Nat×Nat :=
 if ar ms p≠p/\ar ms q≠q then(if(bQ ms p q).1<p\/((bQ ms p q).1=p/\(bQ ms p q).2<q)then bQ ms p q else(p,q))else(p,q)
section
variable {n:Nat}{ms:List Nat}
theorem xM(W:ak n ms){p q:Nat}(U:p<=q)(O:q<2*n)(V:ar ms p≠q)(c:ar ms p≠p/\ar ms q≠q):kQ n ms (bM ms p q) (bQ ms p q).1 (bQ ms p q).2:=by
 have Z:=W.wk.lt p (by omega);have lq:=W.wk.lt q O;have D:=W.wk.inv p (by omega);have G:=W.wk.inv q O;unfold bQ;refine⟨by simp only;omega,by simp only;omega,?_,?_⟩
 .simp only;by_cases d:ar ms p<=ar ms q
  .rw[SD d,QQ d,D];grind
  rw[To (by omega),Sz (by omega),G];grind
 simp only;refine jM (by rw[dR,dR]) λe J=>?_;rw[dR]at J;rw[dy J,dy J];unfold cG;by_cases d:ar ms p<=ar ms q
 .rw[SD d,QQ d,D,G];grind
 rw[To (by omega),Sz (by omega),D,G];grind
theorem BN(W:ak n ms){p q x y:Nat}(h1:p<=q)(h2:q<2*n)(Z:ar ms p≠q)(L:kQ n ms (bM ms p q) x y):(x=p/\y=q)\/((ar ms p≠p/\ar ms q≠q)/\x=(bQ ms p q).1/\y=(bQ ms p q).2):=by
 have hl:=W.len;have ip:=W.wk.inv p (by omega);have iq:=W.wk.inv q h2;have vb:∀e,e<2*n->ar (bM ms p q) e=cG (ar ms) p q e:=λe he=>dy (by omega);have lx:x<2*n:=by have:=L.1;have:=L.2.1;omega
 unfold bQ;simp only;by_cases c:x=y
 .subst c;have hx:=L.2.2.1;have ix:=W.wk.inv x lx;have no:=ze W L;have O:p=q:=OU λz=>no p (by omega) (by
   rw[vb p (by omega)];unfold cG;rw[Uk z,Uo rfl];exact⟨by omega,Z⟩)
  subst O;have V:ar (bM ms x x) p=ar (bM ms p p) p:=by rw[L.2.2.2]
  rw[dy (by omega),dy (by omega)]at V;unfold cG at V;have r1:(if p=p\/p=ar ms p then p else ar ms p)=p:=Uo (.inl rfl);rw[Uo rfl,Uo rfl,r1]at V;by_cases e1:p=x
  .exact .inl ⟨e1.symm,e1.symm⟩
  have e2:p=ar ms x:=OU λz=>by
   rw[Uk (by rintro(y|y);exact e1 y;exact z y)]at V;exact Z V
  have e3:ar ms p=x:=by rw[e2];exact ix
  exact .inr ⟨⟨Z,Z⟩,by omega,by omega⟩
 obtain⟨J,D,G⟩:=zd W L c;rw[vb x lx]at J D G;unfold cG at J D G;by_cases O:p=q
 .exfalso;rw[Uo O]at D G J;by_cases e1:x=p\/x=ar ms p
  .rw[Uo e1]at D;exact c D
  rw[Uk e1]at G;exact G rfl
 rw[Uk O]at J D G;by_cases e1:x=p
 .rw[Uo e1]at D;exact .inl ⟨e1,D.symm⟩
 rw[Uk e1]at J D G;by_cases e2:x=q
 .rw[Uo e2]at J;omega
 rw[Uk e2]at J D G;by_cases e3:x=ar ms p
 .rw[Uo e3]at J D G;by_cases U:ar ms q≠q
  .rw[Uo U]at J D;exact .inr ⟨⟨λz=>e1 (by rw[e3];exact z),U⟩,by omega,by omega⟩
  rw[Uk U]at D;exact Us D c
 rw[Uk e3]at J D G;by_cases U:x=ar ms q
 .rw[Uo U]at J D G;by_cases e5:ar ms p≠p
  .rw[Uo e5]at J D;exact .inr ⟨⟨e5,λz=>e2 (by rw[U];exact z)⟩,by omega,by omega⟩
  rw[Uk e5]at D;exact Us D c
 rw[Uk U]at G;exact Us rfl G
theorem iw(W:ak n ms){p q:Nat}(O:p<=q)(U:q<2*n)(V:ar ms p≠q):qy n ms (bM ms p q) (eo ms p q).1 (eo ms p q).2:=by
 have Z:kQ n ms (bM ms p q) p q:=⟨O,U,V,rfl⟩
 have one:∀D G,kQ n ms (bM ms p q) D G->(D=p/\G=q)\/((ar ms p≠p/\ar ms q≠q)/\D=(bQ ms p q).1/\G=(bQ ms p q).2):=λD G L=>BN W O U V L;unfold eo;by_cases c:ar ms p≠p/\ar ms q≠q
 .rw[Uo c];have L1:=xM W O U V c;generalize bQ ms p q=o at L1 one;obtain⟨J,o2⟩:=o;by_cases d:J<p\/(J=p/\o2<q)
  .rw[Uo d];refine⟨L1,λD G L=>?_⟩;rcases one D G L with⟨e1,e2⟩|⟨_,e1,e2⟩
   .show J<D\/(J=D/\o2<=G)
    omega
   exact .inr ⟨e1.symm,R0 e2.symm⟩
  rw[Uk d];refine⟨Z,λD G L=>?_⟩;rcases one D G L with⟨e1,e2⟩|⟨_,e1,e2⟩
  .exact .inr ⟨e1.symm,R0 e2.symm⟩
  show p<D\/(p=D/\q<=G)
  simp only at e1 e2;omega
 rw[Uk c];refine⟨Z,λD G L=>?_⟩;rcases one D G L with⟨e1,e2⟩|⟨z,_⟩
 .exact .inr ⟨e1.symm,R0 e2.symm⟩
 exact Us z c
end
end aI
noncomputable def jk{α:Type}:List α->List α
 |[]=>[]
 |[x]=>[x]
 |x::_::r=>x::jk r
theorem lL{α:Type}:∀l:List α,(jk l).length=(l.length+1)/2
 |[]=>by simp[jk]
 |[x]=>by simp[jk]
 |x::y::r=>by
  show(jk r).length+1=(r.length+1+1+1)/2;rw[lL r];omega
theorem nJ{α:Type}:∀(l:List α) (k:Nat),(jk l)[k]?=l[2*k]?
 |[],k=>by simp[jk]
 |[x],0=>rfl
 |[x],k+1=>by simp[jk]
 |x::y::r,0=>rfl
 |x::y::r,k+1=>by
  show(jk r)[k]?=_;rw[nJ r k,show 2*(k+1)=2*k+1+1 by omega]
  rfl
theorem AN{α β:Type}(f:α->β):∀l:List α,jk (l.map f)=(jk l).map f
 |[]=>rfl
 |[x]=>rfl
 |x::y::r=>by
  show f x::jk (r.map f)=f x::(jk r).map f;rw[AN f r]
theorem DK{α:Type}(l:List α)(i:Nat):(OV ((l.drop i).length+1-(l.drop i).length/2-1)).filterMap (λk=>l[i+2*k]?)=jk (l.drop i):=by
 have G:(l.drop i).length+1-(l.drop i).length/2-1=(jk (l.drop i)).length:=by rw[lL];omega
 rw[G];have e:∀k,k<(jk (l.drop i)).length->l[i+2*k]?=(jk (l.drop i))[k]?:=λk _=>by rw[nJ,Rz]
 generalize jk (l.drop i)=m at e;refine QY λj=>?_;have gen:∀n,n<=m.length->(OV n).filterMap (λk=>l[i+2*k]?)=m.take n:=λn O=>by
  induction n with
  |zero=>rfl
  |succ n J =>
   rw[Qg,List.filterMap_append,J (by omega),Sd];congr 1;have z:=e n (by omega);have D:m[n]?=Yc m[n]:=OG (by omega);rw[D];show List.filterMap _ [n]=[m[n]]
   rw[Qu,z,D]
   rfl
 rw[gen m.length (ON _),Pd]
namespace HT
open PySem PySem.Spec PyProof.Rows L2
section
variable {prog:Ux}{w:UA}{A:UG}{E:Uj->Uq->Prop}{s:Uq}
theorem xN{O:Um}{i:Int}{U V:XO}{n:Nat}{Q:Int×Int×Nat->Uq->Prop}(Z:0<=i)(hs:s.heap.IsSliceOf O (.int i U) .none (.int 2 V))
  (h:Q (min i n,2,n+1-i.toNat-(n-i.toNat)/2-1) s):wpAny (model prog w) A (Builtin.Slice.sliceApplied (.ref O) (pure (n:Int))) Q E s:=by
 obtain⟨os,D,hcs,G⟩:=id hs;unfold Builtin.Slice.sliceApplied Builtin.Slice.sliceFields;refine Uh (Uh (UW D G (x:=.int i U) rfl (Uh (UW D G (x:=.none) rfl (Uh (UW D G (x:=.int 2 V) rfl (Ur ?_)))))));refine Uh (slicePart_int ?_);show wpAny _ _ (if((2:Int)==0)=true then _ else _) _ _ s;rw[Uk (by decide)];refine Uh (slicePart_int (Uh (slicePart_none (Uh (Ur ?_)))));show wpAny _ _ (match Builtin.Slice.sliceAdjust (Yc i) none 2 (n:Int)with|(lo,Z)=>pure (lo,(2:Int),Builtin.Slice.slicePlaces lo Z 2)) _ _ s;have e:Builtin.Slice.sliceAdjust (Yc i) none 2 (n:Int)=(min i n,(n:Int)):=by
  have J:¬((2:Int)<0):=by omega
  unfold Builtin.Slice.sliceAdjust;simp only[J,U1];refine R4 ?_ rfl;show(if i<0 then _ else _)=_;rw[Uk (by omega)]
 rw[e];have e2:Builtin.Slice.slicePlaces (min i n) (n:Int) 2=n+1-i.toNat-(n-i.toNat)/2-1:=by
  unfold Builtin.Slice.slicePlaces;have J:(2:Int)>0:=by omega
  simp only[J,VW]
  split <;> omega
 show wpAny _ _ (pure (min i n,(2:Int),Builtin.Slice.slicePlaces (min i n) (n:Int) 2)) _ _ s;rw[e2];exact Ur h
theorem nK{t J:Um}{its:List Uj}{i:Int}{t1 t2:XO}{Q:Uj->Uq->Prop}(G:XQ s.heap t its.toArray)(hi:0<=i)(hs:s.heap.IsSliceOf J (.int i t1) .none (.int 2 t2))
  (h:Q (.ref s.heap.objs.size) { s with heap:=s.heap.push { cls:=.type "tuple",data:=.seq (jk (its.drop i.toNat)).toArray } }) (hsz:its.length<=Uu):wpAny (model prog w) A (Wk (.ref t) (.ref J)) Q E s:=by
 have D:sizeOk (.seq (jk (its.drop i.toNat)).toArray):=by
  show(jk (its.drop i.toNat)).toArray.size<=Uu;rw[OT,lL,Q4];omega
 obtain⟨os,O,U,hds⟩:=id hs;have V:s.TypeIs (.ref J) "slice":=⟨os,O,U⟩
 unfold Wk
 try with_reducible refine UD ?_
 first|refine Uh (Ur ?_)|skip
 refine Uh (wpAny_sequenceKey G.typeIs (by decide) (Uh (wpAny_callSpecial?_slot (name:=Str.ofString "__getitem__") G.typeIs QZ (UN QZ G.typeIs entry_tuple_getitem ?_ (args_tuple_getitem _ _)))));show wpAny _ _ (Builtin.Tuple.tupleItemsOf (.ref t) >>= _) _ _ s;refine Uh (tupleItemsOf_ G (Uh (wpAny_typeOf V ?_)));rw[Uo (by decide)];refine Uh (xN (n:=its.toArray.size) hi hs ?_);have Z:¬((min i (its.toArray.size:Int)==0&&(2:Int)==1&&(its.toArray.size+1-i.toNat-(its.toArray.size-i.toNat)/2-1)==its.toArray.size)=true):=by
  rw[show((2:Int)==1)=false from rfl,RG,Qw];exact O4
 show wpAny _ _ (if(min i (its.toArray.size:Int)==0&&(2:Int)==1&&(its.toArray.size+1-i.toNat-(its.toArray.size-i.toNat)/2-1)==its.toArray.size)=true then _ else _) _ _ s;rw[Uk Z];have pk:((OV (its.toArray.size+1-i.toNat-(its.toArray.size-i.toNat)/2-1)).filterMap λ(k:Nat)=>its.toArray[(min i (its.toArray.size:Int)+(k:Int)*2).toNat]?)=jk (its.drop i.toNat):=by
  rw[OT];by_cases c:i.toNat<=its.length
  .have em:min i (its.length:Int)=i:=by omega
   rw[<-DK its i.toNat,Q4,show its.length-i.toNat+1-(its.length-i.toNat)/2-1=its.length+1-i.toNat-(its.length-i.toNat)/2-1 by omega];congr 1;funext k;rw[em,show(i+(k:Int)*2).toNat=i.toNat+2*k by omega];simp
  rw[show its.length+1-i.toNat-(its.length-i.toNat)/2-1=0 by omega,List.drop_of_length_le (by omega)]
  rfl
 rw[pk]
 first
  |exact Uh (m:=Builtin.Tuple.tupleExact _) (UK (Ur ⟨_,rfl,Ur h⟩) D)
  |exact Uh (m:=Builtin.Tuple.tupleExact _) (UK (Uh (Ur (Ur ⟨_,rfl,Ur h⟩))) D)
  |exact Uh (Uh (m:=Builtin.Tuple.tupleExact _) (UK (Ur (Ur ⟨_,rfl,Ur h⟩)) D))
  |exact Uh (Uh (m:=Builtin.Tuple.tupleExact _) (UK (Ur ⟨_,rfl,Ur h⟩) D))
end
end HT
namespace L2
open PySem PySem.Spec PyProof.Rows
theorem xO:∀{xs:List V}{D:List Uj},Vals xs D->Vals (jk xs) (jk D)
 |_,_,.nil=>.nil
 |_,_,.cons r .nil=>.cons r .nil
 |_,_,.cons r (.cons _ G)=>.cons r (xO G)
section
variable {X:Cx}{e lo st:UM}{te tl ts:TE}{pos p2:VJ}
def Ji(K:OM)(te tl ts:TE):TE:=λσ H Q=>te σ H λx G=>tl σ G λv J=>ts σ J λu D=>∃(a:Um) (xs:List V) (i:Int),x=.ref a/\v=.int i/\u=.int 2/\br K D a xs/\0<=i/\∀p,D p=none->Q (.ref p) (upd D p (.tup (jk (xs.drop i.toNat))))
theorem DL(Z:PE X e te)(hl:PE X lo tl)(hs:PE X st ts):PE X (.Subscript e (.Slice (Yc lo) none (Yc st) p2) pos) (Ji X.K te tl ts):=by
 intro pins s σ H Q I h;refine W9 (cF (Z pins s σ H _ I h) λv s1 G=>?_);obtain⟨x,H1,I1,r1,q1⟩:=G;refine wpAny_Slice ?_;rw[W6,W5,W6];refine cF (hl pins s1 σ H1 _ I1 q1) λvl s2 ⟨l,H2,I2,pl,q2⟩=>Ur (cF (hs pins s2 σ H2 _ I2 q2) λvu D G=>?_);obtain⟨u,H3,I3,pu,q3⟩:=G;obtain⟨a,xs,i,rfl,rfl,rfl,hq,hi,q⟩:=q3;cases r1;obtain⟨O,rfl⟩:=pl;obtain⟨U,rfl⟩:=pu;have J:Inv X pins σ H3 { D with heap:=D.heap.push { cls:=.type "slice",data:=.fields #[.int i O,.none,.int 2 U] } }:=I3.kept (t':=D.toks) λb ob q=>OJ _ q;obtain⟨its,r,V,hz⟩:=J.tuple hq;have hlen:=r.length;show wpAny (model X.prog X.w) X.A (Wa e (.Slice (Yc lo) none (Yc st) p2) (.ref a) (.ref D.heap.objs.size)) (EP X pins σ Q) X.xe { D with heap:=D.heap.push { cls:=.type "slice",data:=.fields #[.int i O,.none,.int 2 U] } };refine tail_any (ops:=[.ref a,.ref D.heap.objs.size]) V.typeIs QZ.lookup ?_ (by with_unfolding_all rfl);refine HT.nK V hi (Heap.IsSliceOf.new ..) ?_ (by rw[<- hlen];exact hz);refine⟨.ref _,_,J.laid (t':=D.toks) (o:=.tup (jk (xs.drop i.toNat))) (λb ob q=>OJ _ q) (ON _) ?_,rfl,q _ (J.bN.fresh (ON _))⟩;refine⟨?_,_,xO (r.drop i.toNat),IsTup.new _ _⟩;rw[lL,Q4];omega
end
end L2
namespace Th
noncomputable def ch:Nat->Nat->Nat
 |_,0=>1
 |0,_+1=>0
 |n+1,k+1=>ch n k+ch n (k+1)
theorem qB(n:Nat):ch n 0=1:=by cases n <;> rfl
theorem rQ:∀n k,(k+1)*ch (n+1) (k+1)=(n+1)*ch n k
 |0,0=>rfl
 |0,k+1=>by show(k+2)*(0+0)=1*0;omega
 |n+1,0=>by
  have h:1*ch (n+1) 1=(n+1)*ch n 0:=rQ n 0;show 1*(ch (n+1) 0+ch (n+1) 1)=(n+1+1)*ch (n+1) 0;rw[qB]at h⊢;omega
 |n+1,k+1=>by
  have D:=rQ n k;have G:=rQ n (k+1);show(k+1+1)*(ch (n+1) (k+1)+ch (n+1) (k+1+1))=(n+1+1)*ch (n+1) (k+1);have e:ch (n+1) (k+1)=ch n k+ch n (k+1):=rfl;rw[TB,G,SU (k+1) 1,D,SU (n+1) 1];rw[Nat.add_right_comm,<-TB,<-e]
theorem DM:∀n k,ch n k<=2 ^ n
 |n,0=>by rw[qB];exact Nat.one_le_two_pow
 |0,k+1=>PH _
 |n+1,k+1=>by
  have D:=DM n k;have G:=DM n (k+1);show ch n k+ch n (k+1)<=2 ^ (n+1);rw[TZ];omega
theorem Gw(s j m:Nat):m*ch (s+j) j*(s+j+1)/(j+1)=m*ch (s+(j+1)) (j+1):=by
 have h:=rQ (s+j) j;rw[RA,SE (ch (s+j) j),<-h];show m*((j+1)*ch (s+(j+1)) (j+1))/(j+1)=_;rw[Rk];exact Nat.mul_div_cancel_left _ (Tj j)
noncomputable def jN:Nat->Nat->List Nat->Nat
 |m,_,[]=>m
 |m,s,l::r=>jN (m*(ch (s+l) l*(l+1) ^ (l-1))) (s+l) r
theorem oO:∀(D:List Nat) (m s l:Nat),jN m s (D++[l])=jN m s D*(ch (s+D.sum+l) l*(l+1) ^ (l-1))
 |[],m,s,l=>rfl
 |x::r,m,s,l=>by
  show jN _ (s+x) (r++[l])=jN _ (s+x) r*_;rw[oO,Qe,RR s x]
section
open Classical
variable {N:Nat}{a b:Nat->Nat}
noncomputable def LL(a b:Nat->Nat)(i:Nat):List Nat:=(OV i).filter λm=>decide (bB a b m)
theorem Gx(i:Nat):LL a b (i+1)=LL a b i++(if bB a b i then[i]else[]):=by
 unfold LL;rw[Qg,Pa];congr 1;by_cases c:bB a b i
 .rw[Uo c,Pe (by simpa using c)];rfl
 rw[Uk c,Pf (by simpa using c)];rfl
theorem Jj(i:Nat):(LL a b i).length<=i:=by
 unfold LL;have z:=Pm (λm=>decide (bB a b m)) (OV i);rwa[OW]at z
theorem Jk{i u:Nat}:u∈LL a b i↔u<i/\bB a b u:=by unfold LL;rw[O0,OX,Uy]
def cI(a b:Nat->Nat)(x:Nat):Prop:=∃u,aB a b x u/\a u=u
def c6(a b:Nat->Nat)(x:Nat):Prop:=∃u,aB a b x u/\b u=u
noncomputable def kd(a b:Nat->Nat)(x:Nat):Kd:=if fZ a b x then .odd else if cI a b x then .bare else if c6 a b x then .tied else .ring
noncomputable def eF(N:Nat)(a b:Nat->Nat)(x:Nat):List Nat:=(OV N).filter λy=>decide (aB a b x y)
theorem kR(T:cv N a b){x:Nat}(D:x<N):bU a b x (eF N a b x):=
 ⟨PL.filter _,λy=>by unfold eF;rw[O0,OX,Uy];exact⟨λh=>h.2,λh=>⟨h.lt T D,h⟩⟩⟩
noncomputable def lack(N:Nat)(a b:Nat->Nat)(x:Nat):Nat:=if kd a b x=.ring then(eF N a b x).length/2-1 else(eF N a b x).length/2
noncomputable def cT(th:Kd×List Nat):Nat:=if th.1=.ring then th.2.length/2-1 else th.2.length/2
theorem xP(T:cv N a b){x y:Nat}(D:x<N)(c:aB a b x y)(z:Nat):aB a b x z↔aB a b y z:=⟨λh=>(c.symm T D).trans h,λh=>c.trans h⟩
theorem AO(T:cv N a b){x y:Nat}(D:x<N)(c:aB a b x y):kd a b x=kd a b y:=by
 have e:=xP T D c;have e1:fZ a b x=fZ a b y:=by unfold fZ;simp only[e]
 have e2:cI a b x=cI a b y:=by unfold cI;simp only[e]
 have e3:c6 a b x=c6 a b y:=by unfold c6;simp only[e]
 unfold kd;simp only[e1,e2,e3]
theorem bU.to(T:cv N a b){x y:Nat}{L:List Nat}(D:x<N)(C:bU a b x L)(c:aB a b x y):bU a b y L:=⟨C.nd,λz=>by rw[C.mem,xP T D c]⟩
theorem AQ(T:cv N a b){th:Kd×List Nat}(h:th∈pU N a b):∃u,u<N/\bU a b u th.2/\th.1=kd a b u:=by
 rcases OY.mp h with h|h
 .rcases OY.mp h with h|h
  .obtain⟨u,G,rfl⟩:=OO.mp h;obtain⟨G,O⟩:=O0.mp G;obtain⟨J,au⟩:=dw.mp G;have C0:=bH T.swap J (.inl au);have C:bU a b u (cN b a u):=⟨C0.nd,λy=>by rw[<-jn];exact C0.mem y⟩
   have U:=kL T J C;refine⟨u,J,C,?_⟩;unfold eA kd;by_cases o:(cN b a u).length%2=1
   .simp only[Uo o,Uo (U.mp o)]
   simp only[Uk o,Uk (λz=>o (U.mpr z)),Uo (show cI a b u from⟨u,aB.refl u,au⟩)]
  obtain⟨u,G,rfl⟩:=OO.mp h;obtain⟨G,O⟩:=O0.mp G;obtain⟨J,Z⟩:=dw.mp G;have O:pB a b u:=Uw O;have C:=bH T J (.inl Z);have U:=kL T J C;refine⟨u,J,C,?_⟩;have V:¬fZ a b u:=λz=>by have:=U.mpr z;have:=O.1;omega
  have D:¬cI a b u:=λz=>V ⟨z,u,aB.refl u,Z⟩;unfold eB kd;simp only[Uk V,Uk D,Uo (show c6 a b u from⟨u,aB.refl u,Z⟩)]
 obtain⟨m,hm,rfl⟩:=OO.mp h;obtain⟨m1,m2,m3⟩:=bI.mp hm;refine⟨m,m1,bH T m1 (.inr m3),?_⟩;have D:¬cI a b m:=λ⟨u,h1,h2⟩=>(m3 u h1).1 h2;have noB:¬c6 a b m:=λ⟨u,h1,h2⟩=>(m3 u h1).2 h2;have V:¬fZ a b m:=λz=>D z.1;unfold kd;simp only[Uk V,Uk D,Uk noB]
theorem HB(T:cv N a b){th:Kd×List Nat}(h:th∈pU N a b):mn th.2<N/\bB a b (mn th.2)/\th.1=kd a b (mn th.2)/\cT th=lack N a b (mn th.2):=by
 obtain⟨u,D,C,e⟩:=AQ T h;obtain⟨c,le⟩:=gL C;have lt:=c.lt T D;have e2:=e.trans (AO T D c);refine⟨lt,λy G=>le y (c.trans G),e2,?_⟩;unfold cT lack;rw[<-e2,jq (C.to T D c) (kR T lt)]
theorem Jl(T:cv N a b){m:Nat}(D:m<N)(J:bB a b m):∃th∈pU N a b,mn th.2=m:=by
 have fin:∀th∈pU N a b,m∈th.2->∃th∈pU N a b,mn th.2=m:=λth h G=>by
  obtain⟨u,V,C,e⟩:=AQ T h;have c:=(C.mem m).mp G;obtain⟨c2,le⟩:=gL C;have O:=le m c;have U:=J _ ((c.symm T V).trans c2);exact⟨th,h,by omega⟩
 by_cases w:bq a b m
 .exact fin (.ring,cN a b m) (OZ _ (OO.mpr ⟨m,bI.mpr ⟨D,J,w⟩,rfl⟩)) (((bH T D (.inr w)).mem m).mpr (aB.refl m))
 obtain⟨th,O,U⟩:=(oC T D).mpr w;exact fin th (Pn _ O) U
theorem Jm:∀{l m:List Nat},l.Pairwise (· < ·)->m.Pairwise (· < ·)->(∀x,x∈l↔x∈m)->l=m:=λ{l m} h k e =>
 List.Perm.eq_of_pairwise (le:=(· < ·)) (λx y _ _ D G=>Us D (by omega)) h k ((P0 (h.imp (λz=>Pb z)) (k.imp (λz=>Pb z))).mpr e)
theorem BO(T:cv N a b){D:List (Kd×List Nat)}(hp:D.Perm (pU N a b))(hs:D.Pairwise λp q=>mn p.2<mn q.2) :
  D.map (λth=>mn th.2)=LL a b N:=by
 refine Jm (Px.mpr hs) ((QN).filter _) λx=>?_;rw[OO,Jk];constructor
 .rintro⟨th,h,rfl⟩;obtain⟨G,J,_⟩:=HB T (hp.mem_iff.mp h);exact⟨G,J⟩
 rintro⟨G,J⟩;obtain⟨th,O,U⟩:=Jl T G J;exact⟨th,hp.mem_iff.mpr O,U⟩
theorem BP(T:cv N a b){D:List (Kd×List Nat)}(hp:D.Perm (pU N a b))(hs:D.Pairwise λp q=>mn p.2<mn q.2) :
  D.map (λth=>(th.1,cT th))=(LL a b N).map λm=>(kd a b m,lack N a b m):=by
 rw[<-BO T hp hs,Pp];refine PB λth h=>?_;obtain⟨_,_,G,J⟩:=HB T (hp.mem_iff.mp h);show(th.1,cT th)=(kd a b (mn th.2),lack N a b (mn th.2))
 rw[G,J]
theorem uh(T:cv N a b){x:Nat}(V:x<N){L:List Nat}(C:bU a b x L)(Z:¬fZ a b x):(L.filter λy=>decide (a y=y)).length=2↔cI a b x:=by
 constructor
 .intro h;cases e:L.filter λy=>decide (a y=y)with
  |nil=>rw[e]at h;cases h
  |cons y r =>
   have hy:y∈L.filter λy=>decide (a y=y):=by rw[e];exact O2
   obtain⟨G,J⟩:=O0.mp hy;exact⟨y,(C.mem y).mp G,Uw J⟩
 rintro⟨u,D,O⟩;have U:=D.lt T V;obtain⟨v,v1,v2,v3,v4⟩:=ng T U O (λ⟨z,z1,z2⟩=>Z ⟨⟨u,D,O⟩,z,D.trans z1,z2⟩);have nd:(L.filter λy=>decide (a y=y)).Nodup:=C.nd.filter _;have me:∀y,y∈(L.filter λy=>decide (a y=y))↔y∈[u,v]:=λy=>by
  rw[O0,C.mem,Uy,O9,OS];constructor
  .rintro⟨G,J⟩;exact v4 y ((D.symm T V).trans G) J
  rintro(rfl|rfl)
  .exact⟨D,O⟩
  exact⟨D.trans v2,v3⟩
 have z:=((P0 nd (by simp[v1.symm])).mpr me).length_eq;exact z
theorem fZ.swap{x:Nat}(h:fZ a b x):fZ b a x:=let⟨⟨u,D,G⟩,z,J,O⟩:=h;⟨⟨z,J.swap,O⟩,u,D.swap,G⟩
theorem zh(T:cv N a b){x:Nat}(J:x<N){L:List Nat}(C:bU a b x L)(O:¬fZ a b x):(L.filter λy=>decide (b y=y)).length=2↔c6 a b x:=by
 have z:=uh T.swap J (L:=L) ⟨C.nd,λy=>by rw[C.mem,jn]⟩ (λz=>O z.swap);rw[z];exact⟨λ⟨u,D,G⟩=>⟨u,D.swap,G⟩,λ⟨u,D,G⟩=>⟨u,D.swap,G⟩⟩
end
open Classical
noncomputable def ord(x y:Nat):Nat×Nat:=(min x y,max x y)
theorem gj{x y u v:Nat}(h:ord x y=ord u v):(x=u/\y=v)\/(x=v/\y=u):=by
 unfold ord at h;injection h with D G;omega
theorem Jn(x y:Nat):(ord x y).1<=(ord x y).2:=by unfold ord;simp only;omega
theorem eu{p q:Nat}(h:p<=q):ord p q=(p,q):=by unfold ord;rw[SD h,QQ h]
theorem gk(x y:Nat):ord x y=ord y x:=by unfold ord;rw[Nat.min_comm,Nat.max_comm]
noncomputable def iy(L:List Nat)(i:Nat):List (Nat×Nat):=(OV i).flatMap λm=>(jk (L.drop (m+1))).map (ord (L.getD m 0))
noncomputable def bZ(L:List Nat):List (Nat×Nat):=iy L L.length
noncomputable def aV(D:List (Kd×List Nat))(k:Kd):List Nat:=(D.filter λth=>th.1=k).flatMap (·.2)
noncomputable def c7(B S:List Nat):List (Nat×Nat):=B.flatMap λe=>S.map (ord e)
noncomputable def cU(D:List (Kd×List Nat)):List (Nat×Nat):=c7 (aV D .bare) (aV D .tied)++D.flatMap (λth=>bZ th.2)++(aV D .tied).map λe=>(e,e)
theorem kT{α β:Type}(f:α->List β)(c:Nat):∀l:List α,(∀x∈l,(f x).length<=c)->(l.flatMap f).length<=l.length*c
 |[],_=>PH _
 |x::r,h=>by
  rw[QI,OQ,Ph,SU,TC];have G:=h x O2;have J:=kT f c r λy D=>h y (O1 _ D);omega
theorem xQ(L:List Nat)(i:Nat):(iy L i).length<=i*L.length:=by
 unfold iy;have z:=kT (λm=>(jk (L.drop (m+1))).map (ord (L.getD m 0))) L.length (OV i) λm _=>by
  rw[OH,lL,Q4];omega
 rwa[OW]at z
theorem ui(B S:List Nat):(c7 B S).length<=B.length*S.length:=kT _ _ _ λx _=>by rw[OH];exact ON _
theorem zi{B S:List Nat}{x:Nat}:c7 (B++[x]) S=c7 B S++S.map (ord x):=by
 unfold c7;rw[Q3,QI,RM,Pj]
theorem vz{L:List Nat}{i x:Nat}(h:L[i]?=Yc x):iy L (i+1)=iy L i++(jk (L.drop (i+1))).map (ord x):=by
 unfold iy;rw[Qg,Q3];congr 1;rw[QI,RM,Pj];have e:L.getD i 0=x:=by rw[Ql,h];rfl
 rw[e]
theorem rR{L:List Nat}{i y:Nat}:y∈jk (L.drop (i+1))↔∃j,i<j/\(j-i)%2=1/\L[j]?=Yc y:=by
 rw[Qq];constructor
 .rintro⟨k,D⟩;rw[nJ,Rz]at D;exact⟨i+1+2*k,by omega,by omega,D⟩
 rintro⟨j,J,O,G⟩;refine⟨(j-i-1)/2,?_⟩;rw[nJ,Rz,show i+1+2*((j-i-1)/2)=j by omega];exact G
theorem dA{L:List Nat}{c:Nat×Nat}:c∈bZ L↔∃i j x y,i<j/\(j-i)%2=1/\L[i]?=Yc x/\L[j]?=Yc y/\c=ord x y:=by
 unfold bZ iy;rw[QR];constructor
 .rintro⟨i,D,U⟩;obtain⟨y,V,rfl⟩:=OO.mp U;obtain⟨j,J,O,G⟩:=rR.mp V;have D:=OX.mp D;exact⟨i,j,L.getD i 0,y,J,O,by rw[Ql,OG D];rfl,G,rfl⟩
 rintro⟨i,j,x,y,J,O,G,Z,rfl⟩;have D:=(OI.mp G).1;refine⟨i,OX.mpr D,OO.mpr ⟨y,rR.mpr ⟨j,J,O,Z⟩,?_⟩⟩;rw[Ql,G];rfl
theorem bj{D:List (Kd×List Nat)}{k:Kd}{x:Nat}:x∈aV D k↔∃th∈D,th.1=k/\x∈th.2:=by
 unfold aV;rw[QR];constructor
 .rintro⟨th,G,J⟩;obtain⟨O,U⟩:=O0.mp G;exact⟨th,O,Uw U,J⟩
 rintro⟨th,G,J,O⟩;exact⟨th,O0.mpr ⟨G,Ul J⟩,O⟩
theorem iC{B S:List Nat}{c:Nat×Nat}:c∈c7 B S↔∃x∈B,∃y∈S,c=ord x y:=by
 unfold c7;rw[QR];constructor
 .rintro⟨x,D,J⟩;obtain⟨y,G,rfl⟩:=OO.mp J;exact⟨x,D,y,G,rfl⟩
 rintro⟨x,D,y,G,rfl⟩;exact⟨x,D,OO.mpr ⟨y,G,rfl⟩⟩
theorem gF{D:List (Kd×List Nat)}{c:Nat×Nat}:c∈cU D↔(∃x∈aV D .bare,∃y∈aV D .tied,c=ord x y)\/(∃th∈D,c∈bZ th.2)\/∃x∈aV D .tied,c=(x,x):=by
 unfold cU;rw[OY,OY,iC,QR,OO];constructor
 .rintro((h|h)|⟨x,G,J⟩)
  .exact .inl h
  .exact .inr (.inl h)
  exact .inr (.inr ⟨x,G,J.symm⟩)
 rintro(h|h|⟨x,G,J⟩)
 .exact .inl (.inl h)
 .exact .inl (.inr h)
 exact .inr ⟨x,G,J.symm⟩
section
variable {N:Nat}{a b:Nat->Nat}{bf:List (Kd×List Nat)}
structure fJ(N:Nat) (a b:Nat->Nat) (bf:List (Kd×List Nat)):Prop where
 T:cv N a b
 hp:bf.Perm (pU N a b)
 hs:bf.Pairwise λp q=>mn p.2<mn q.2
theorem fJ.good(A:fJ N a b bf){th:Kd×List Nat}(h:th∈bf):cp N a b th.1 th.2:=vv A.T (A.hp.mem_iff.mp h)
theorem fJ.comp(A:fJ N a b bf){th:Kd×List Nat}(h:th∈bf):∃u,u<N/\bU a b u th.2:=lG A.T (A.hp.mem_iff.mp h)
theorem fJ.mem(A:fJ N a b bf){p:Nat}(hp:p<N):∃th∈bf,p∈th.2:=by
 have z:=(AL A.T A.hp).mem_iff.mpr (OX.mpr hp);obtain⟨L,D,G⟩:=Sn.mp z;obtain⟨th,J,rfl⟩:=OO.mp D;exact⟨th,J,G⟩
theorem fJ.conn(A:fJ N a b bf){s t:Kd×List Nat}(hs:s∈bf)(J:t∈bf){p q:Nat}(h1:p∈s.2)(h2:q∈t.2)(c:aB a b p q):s=t:=by
 obtain⟨u,O,C⟩:=A.comp hs;obtain⟨v,vl,D⟩:=A.comp J;have G:=(C.mem p).mp h1;have U:=(D.mem q).mp h2;have e:mn s.2=mn t.2:=by
  obtain⟨m1,m2⟩:=gL C;obtain⟨m3,m4⟩:=gL D;have x1:=m2 _ (G.trans (c.trans ((U.symm A.T vl).trans m3)));have x2:=m4 _ (U.trans ((c.symm A.T (G.lt A.T O)).trans ((G.symm A.T O).trans m1)));omega
 obtain⟨i,V,rfl⟩:=Rr hs;obtain⟨j,Z,rfl⟩:=Rr J;have pw:=Qx.mp A.hs;rcases Nat.lt_trichotomy i j with h|h|h
 .have:=pw i j V Z h;omega
 .subst h;rfl
 have:=pw j i Z V h;omega
theorem fJ.same(A:fJ N a b bf){s t:Kd×List Nat}(hs:s∈bf)(D:t∈bf){p:Nat}(G:p∈s.2)(J:p∈t.2):s=t:=A.conn hs D G J (aB.refl p)
theorem fJ.LY(A:fJ N a b bf){s:Kd×List Nat}(hs:s∈bf){p:Nat}(D:p∈s.2):a p∈s.2:=by
 obtain⟨u,G,C⟩:=A.comp hs;exact(C.mem _).mpr ((C.mem p).mp D).sf
theorem fJ.lt(A:fJ N a b bf){s:Kd×List Nat}(hs:s∈bf){p:Nat}(D:p∈s.2):p<N:=(A.good hs).lt p D
theorem fJ.near(A:fJ N a b bf){p q:Nat}(h1:p<=q)(h2:q<N)(hf:a p≠q){a2:Nat->Nat}(hb:∀x,x<N->a2 x=aI.cG a p q x):(p,q)∈cU bf↔(score a2 b N:Int)-score a b N=2:=by
 obtain⟨s,hs,ps⟩:=A.mem (show p<N by omega);obtain⟨t,ht,qt⟩:=A.mem h2;obtain⟨i,hi⟩:=Qq.mp ps;obtain⟨j,hj⟩:=Qq.mp qt;rw[gF];by_cases e:p=q
 .subst e;rw[DJ A.T (A.good hs) hi hf hb];constructor
  .rintro(⟨x,U,y,hy,h⟩|⟨th,D,h⟩|⟨x,U,h⟩)
   .exfalso;rw[<-eu (ON p)]at h;have NA:x=p/\y=p:=by rcases gj h with⟨J,O⟩|⟨J,O⟩ <;> exact⟨by omega,by omega⟩
    obtain⟨th,t1,t2,t3⟩:=bj.mp U;obtain⟨NB,Jo,V,Z⟩:=bj.mp hy;rw[NA.1]at t3;rw[NA.2]at Z;have:=A.same t1 Jo t3 Z;subst this;rw[t2]at V;cases V
   .exfalso;obtain⟨m,n,x,y,g1,g2,g3,g4,g5⟩:=dA.mp h;rw[<-eu (ON p)]at g5;have NA:x=y:=by rcases gj g5 with⟨J,O⟩|⟨J,O⟩ <;> omega
    rw[NA]at g3;have:=(A.good D).one g3 g4;omega
   have ex:p=x:=congrArg TX h;obtain⟨th,t1,t2,t3⟩:=bj.mp U;rw[<-ex]at t3;have:=A.same hs t1 ps t3;rw[this];exact t2
  intro k;exact .inr (.inr ⟨p,bj.mpr ⟨s,hs,k,ps⟩,rfl⟩)
 have ho:=eu h1;by_cases st:s=t
 .subst st;have G:=A.good hs;have nij:i≠j:=λz=>by rw[z,hj]at hi;exact e (Option.some.inj hi).symm
  have key:(score a2 b N:Int)-score a b N=2↔(turn s.1+i)%2≠(turn s.1+j)%2:=by
   rcases S7 nij with h|h
   .exact xK A.T G hi hj h hf hb
   have hf':a q≠p:=λz=>hf (by rw[<-z];exact A.T.ff q h2);have z:=xK A.T G hj hi h hf' (a2:=a2) (λx U=>by rw[hb x U];exact lK e x);rw[z];exact⟨λy w=>y w.symm,λy w=>y w.symm⟩
  rw[key];constructor
  .rintro(⟨x,U,y,hy,h⟩|⟨th,D,h⟩|⟨x,U,h⟩)
   .exfalso;rw[<-ho]at h;obtain⟨th,t1,t2,t3⟩:=bj.mp U;obtain⟨NB,Jo,V,Z⟩:=bj.mp hy;have:th=s/\NB=s:=by
     rcases gj h with⟨J,O⟩|⟨J,O⟩
     .exact⟨A.same t1 hs t3 (J▸ps),A.same Jo hs Z (O▸qt)⟩
     exact⟨A.same t1 hs t3 (O▸qt),A.same Jo hs Z (J▸ps)⟩
    rw[this.1]at t2;rw[this.2,t2]at V;cases V
   .obtain⟨m,n,x,y,g1,g2,g3,g4,g5⟩:=dA.mp h;rw[<-ho]at g5;rcases gj g5 with⟨J,O⟩|⟨J,O⟩
    .subst J O;have:=A.same D hs (OP g3) ps;subst this;have:=G.one g3 hi;have:=G.one g4 hj;omega
    subst J O;have:=A.same D hs (OP g4) ps;subst this;have:=G.one g4 hi;have:=G.one g3 hj;omega
   exfalso;have e1:p=x:=congrArg TX h;have e2:q=x:=congrArg Prod.snd h;omega
  intro h;refine .inr (.inl ⟨s,hs,dA.mpr ?_⟩);rcases S7 nij with g|g
  .exact⟨i,j,p,q,g,by omega,hi,hj,ho.symm⟩
  exact⟨j,i,q,p,g,by omega,hj,hi,by rw[gk];exact ho.symm⟩
 have nc:¬aB a b p q:=λc=>st (A.conn hs ht ps qt c);have d1:∀x∈s.2,x≠q/\x≠a q:=λx U=>⟨λz=>st (A.same hs ht U (by rw[z];exact qt)),λz=>st (A.same hs ht U (by rw[z];exact A.LY ht qt))⟩
 have d2:∀x∈t.2,x≠p/\x≠a p:=λx U=>⟨λz=>st (A.same (p:=p) hs ht ps (z▸U)),λz=>st (A.same hs ht (by rw[z];exact A.LY hs ps) U)⟩
 rw[BM A.T (A.good hs) (A.good ht) hi hj nc d1 d2 hb];constructor
 .rintro(⟨x,U,y,hy,h⟩|⟨th,D,h⟩|⟨x,U,h⟩)
  .rw[<-ho]at h;obtain⟨th,t1,t2,t3⟩:=bj.mp U;obtain⟨NB,Jo,V,Z⟩:=bj.mp hy;rcases gj h with⟨J,O⟩|⟨J,O⟩
   .have w1:=A.same t1 hs t3 (J▸ps);have w2:=A.same Jo ht Z (O▸qt);exact .inl ⟨by rw[<-w1];exact t2,by rw[<-w2];exact V⟩
   have w1:=A.same t1 ht t3 (O▸qt);have w2:=A.same Jo hs Z (J▸ps);exact .inr ⟨by rw[<-w2];exact V,by rw[<-w1];exact t2⟩
  .exfalso;obtain⟨m,n,x,y,g1,g2,g3,g4,g5⟩:=dA.mp h;rw[<-ho]at g5;have m1:=OP g3;have m2:=OP g4;rcases gj g5 with⟨J,O⟩|⟨J,O⟩
   .subst J O;exact st ((A.same D hs m1 ps).symm.trans (A.same D ht m2 qt))
   subst J O;exact st ((A.same D hs m2 ps).symm.trans (A.same D ht m1 qt))
  exfalso;have e1:p=x:=congrArg TX h;have e2:q=x:=congrArg Prod.snd h;omega
 rintro(⟨k1,k2⟩|⟨k1,k2⟩)
 .exact .inl ⟨p,bj.mpr ⟨s,hs,k1,ps⟩,q,bj.mpr ⟨t,ht,k2,qt⟩,ho.symm⟩
 exact .inl ⟨q,bj.mpr ⟨t,ht,k2,qt⟩,p,bj.mpr ⟨s,hs,k1,ps⟩,by rw[gk];exact ho.symm⟩
theorem fJ.apart(A:fJ N a b bf)(f:Kd×List Nat->Bool):(bf.filter f).Pairwise λs t=>∀x∈s.2,∀y∈t.2,x≠y:=by
 refine List.Pairwise.imp_of_mem (λ{s t} hs D h x G y J e=>?_) (A.hs.filter f);have:=A.same (O0.mp hs).1 (O0.mp D).1 G (e▸J);subst this;omega
theorem fJ.lM(A:fJ N a b bf)(k:Kd):(aV bf k).Nodup:=by
 unfold aV;rw[Pc,QC];exact⟨λth D=>Pc.mp (A.good (O0.mp D).1).nd,A.apart _⟩
theorem fJ.DN(A:fJ N a b bf){x y:Nat}(O:x∈aV bf .bare)(U:y∈aV bf .tied):x≠y:=λe=>by
 obtain⟨th,V,Z,t3⟩:=bj.mp O;obtain⟨NB,G,D,J⟩:=bj.mp U;have:=A.same V G t3 (e▸J);subst this;rw[Z]at D;cases D
theorem DO{L:List Nat}(nd:L.Nodup):(bZ L).Nodup:=by
 have one:∀{i j x:Nat},L[i]?=Yc x->L[j]?=Yc x->i=j:=λ{i j x} h1 h2=>by
  obtain⟨l1,e1⟩:=OI.mp h1;obtain⟨l2,e2⟩:=OI.mp h2;exact(Sk nd).mp (e1.trans e2.symm)
 have gd:∀{m:Nat},m<L.length->L[m]?=Yc (L.getD m 0):=λ{m} h=>by rw[Ql,OG h];rfl
 unfold bZ iy;rw[Pc,QC];constructor
 .intro m D;have D:=OX.mp D;rw[Px];have ne:(jk (L.drop (m+1))).Nodup:=by
   rw[Pc];refine Qx.mpr λi j hi hj Jg e=>?_;have J:(jk (L.drop (m+1)))[i]?=Yc (jk (L.drop (m+1)))[i]:=OG hi;have V:(jk (L.drop (m+1)))[j]?=Yc (jk (L.drop (m+1)))[j]:=OG hj;rw[nJ,Rz]at J V;rw[e]at J;have:=one J V;omega
  refine List.Pairwise.imp_of_mem (λ{x y} O Z h e=>?_) (Pc.mp ne);obtain⟨j,j1,_,G⟩:=rR.mp O;rcases gj e with⟨_,z⟩|⟨z1,z2⟩
  .exact h z
  rw[z2]at G;have:=one G (gd D);omega
 refine List.Pairwise.imp_of_mem (λ{m n} D U h c hc d hd e=>?_) (QN (n:=L.length));have D:=OX.mp D;have U:=OX.mp U;obtain⟨x,O,rfl⟩:=OO.mp hc;obtain⟨y,Z,rfl⟩:=OO.mp hd;obtain⟨i,i1,_,i3⟩:=rR.mp O;obtain⟨j,j1,_,G⟩:=rR.mp Z;rcases gj e with⟨z,_⟩|⟨z1,z2⟩
 .have g:=gd D;rw[z]at g;have:=one g (gd U);omega
 have g:=gd D;rw[z1]at g;have:=one g G;omega
theorem fJ.nodup(A:fJ N a b bf):(cU bf).Nodup:=by
 unfold cU;refine PY.mpr ⟨PY.mpr ⟨?_,?_,?_⟩,?_,?_⟩
 .unfold c7;rw[Pc,QC];constructor
  .intro x J;rw[Px];refine List.Pairwise.imp_of_mem (λ{y z} Z hz h e=>?_) (Pc.mp (A.lM .tied));rcases gj e with⟨_,w⟩|⟨w,_⟩
   .exact h w
   exact A.DN J hz w
  refine List.Pairwise.imp_of_mem (λ{x y} J Z h c G d hd e=>?_) (Pc.mp (A.lM .bare));obtain⟨u,hu,rfl⟩:=OO.mp G;obtain⟨v,hv,rfl⟩:=OO.mp hd;rcases gj e with⟨w,_⟩|⟨w,_⟩
  .exact h w
  exact A.DN J hv w
 .rw[Pc,QC];refine⟨λth D=>Pc.mp (DO (A.good D).nd),?_⟩;refine List.Pairwise.imp_of_mem (λ{s t} hs ht h c G d hd e=>?_) A.hs;obtain⟨i,j,x,y,_,_,V,g4,rfl⟩:=dA.mp G;obtain⟨i',j',x',y',_,_,g3',g4',rfl⟩:=dA.mp hd;have m1:=OP V;have eq:s=t:=by
   rcases gj e with⟨w,_⟩|⟨w,_⟩
   .exact A.same hs ht m1 (w▸OP g3')
   exact A.same hs ht m1 (w▸OP g4')
  subst eq;omega
 .intro c G d hd e;subst e;obtain⟨x,J,y,Z,h⟩:=iC.mp G;obtain⟨th,D,hs⟩:=QR.mp hd;obtain⟨i,j,u,v,_,_,V,g4,rfl⟩:=dA.mp hs;obtain⟨t1,a1,a2,a3⟩:=bj.mp J;obtain⟨t2,b1,b2,b3⟩:=bj.mp Z;have mu:=OP V;have mv:=OP g4;have w:t1=th/\t2=th:=by
   rcases gj h with⟨O,U⟩|⟨O,U⟩
   .exact⟨A.same a1 D a3 (O▸mu),A.same b1 D b3 (U▸mv)⟩
   exact⟨A.same a1 D a3 (U▸mv),A.same b1 D b3 (O▸mu)⟩
  rw[w.1]at a2;rw[w.2,a2]at b2;cases b2
 .rw[Pc,Px];exact(Pc.mp (A.lM .tied)).imp λh e=>h (congrArg TX e)
 intro c G d hd e;subst e;obtain⟨z,hz,rfl⟩:=OO.mp hd;rcases OY.mp G with G|G
 .obtain⟨x,J,y,Z,h⟩:=iC.mp G;have ho:=eu (ON z);rw[<-ho]at h;refine A.DN J Z ?_;rcases gj h with⟨O,U⟩|⟨O,U⟩ <;> omega
 obtain⟨th,D,hs⟩:=QR.mp G;obtain⟨i,j,u,v,h1,_,V,g4,h⟩:=dA.mp hs;have ho:=eu (ON z);rw[<-ho]at h;have euv:u=v:=by rcases gj h with⟨O,U⟩|⟨O,U⟩ <;> omega
 rw[euv]at V;have:=(A.good D).one V g4;omega
theorem fJ.bound(A:fJ N a b bf){c:Nat×Nat}(h:c∈cU bf):c.1<=c.2/\c.2<N:=by
 have U:∀{x y:Nat},x<N->y<N->(ord x y).1<=(ord x y).2/\(ord x y).2<N:=λ{x y} G V=>⟨Jn x y,by unfold ord;simp only;omega⟩
 rcases gF.mp h with⟨x,G,y,V,rfl⟩|⟨th,D,h⟩|⟨x,G,rfl⟩
 .obtain⟨t1,Z,a2,a3⟩:=bj.mp G;obtain⟨t2,J,b2,O⟩:=bj.mp V;exact U (A.lt Z a3) (A.lt J O)
 .obtain⟨i,j,u,v,_,_,g3,g4,rfl⟩:=dA.mp h;exact U (A.lt D (OP g3)) (A.lt D (OP g4))
 obtain⟨t2,J,b2,O⟩:=bj.mp G;exact⟨ON _,A.lt J O⟩
end
end Th
namespace aI
open PySem L2
variable (K:OM)
theorem bW.flat{n:Nat}{ms os:List Nat}{D:List (Th.Kd×List Nat)}(W:ak n ms)(G:ak n os)(h:bW n ms os D):(D.map (·.2)).flatten.Perm (OV (2*n)):=Th.AL (bJ W G) h.1
theorem bW.good{n:Nat}{ms os:List Nat}{D:List (Th.Kd×List Nat)}(W:ak n ms)(G:ak n os)(h:bW n ms os D){th:Th.Kd×List Nat}(J:th∈D):Th.cp (2*n) (ar ms) (ar os) th.1 th.2:=Th.vv (bJ W G) (h.1.mem_iff.mp J)
theorem nI.at{H:Hp}{l:Um}{D:List (Th.Kd×List Nat)}(h:nI H l D):∃G:List Um,H l=Yc (.lst (G.map V.ref))/\G.length=D.length/\∀(i:Nat) (th:Th.Kd×List Nat),D[i]?=Yc th->∃t e:Um,G[i]?=Yc t/\H t=Yc (.tup [.str (ks th.1),.ref e])/\H e=Yc (.tup (nV th.2)):=by
 obtain⟨xs,⟨G,h1,U,h3⟩,h4,rfl⟩:=h;refine⟨G,h1,by rw[OH];exact U,λi th J=>?_⟩;rw[OR]at J;cases O:xs[i]? with
 |none=>rw[O]at J;cases J
 |some x =>
  rw[O]at J;obtain rfl:=Option.some.inj J;have Z:i<G.length:=by rw[U];exact(OI.mp O).1
  exact⟨G[i],x.2.1,OG Z,h3 i _ x (OG Z) O,h4 x (OP O)⟩
end aI
set_option maxHeartbeats 1000000
namespace PySem.SeqAt
open AutoSeq1 (wpAny_loadPart')
open MeetsSeq MeetsSeq2 MeetsSeq3 SeqRoads2
theorem BQ(l m:Um)(a b c d:Int)(t1 t2 t3 t4:XO)(n n2:Nat)(dd G:Option Um)(sl J:Array (Option Uj)) :
  Meets (Builtin.«tuple.__lt__» ⟨[.ref l,.ref m],[]⟩)
   (λA R s=>s.heap.get? l=Yc { cls:=.type "tuple",dict:=dd,data:=.seq #[.int a t1,.int b t2] n,slots:=sl }/\s.heap.get? m=Yc { cls:=.type "tuple",dict:=G,data:=.seq #[.int c t3,.int d t4] n2,slots:=J } /\
    R (.ok (.ret (.bool (decide (a<c\/a=c/\b<d))))) s):=
 .of_wp λprog w A R s h=>by
  obtain⟨hp,g,dr,tk,os⟩:=s;obtain⟨O,U,h⟩:=h;have f2:=AutoSeq1.sub_tuple_tuple;have Z:∀(x y:Int) (u v:XO) (V:Uj->Uq->Prop) (E':Uj->Uq->Prop) (s':Uq),V (.bool (decide (x<y))) s'->wpAny (model prog w) A.in1 (VQ .Lt (.int x u) (.int y v)) V E' s':=λx y u v V E' s' q=>wpAny_lt_int q;by_cases e1:a=c
  .have g1:(a==c)=true:=beq_iff_eq.mpr e1;by_cases e2:b=d
   .have g2:(b==d)=true:=beq_iff_eq.mpr e2;have D:decide (a<c\/a=c/\b<d)=false:=Up (by omega);rw[D]at h
    wp_walk using UL O,UL U,U8
    exact⟨_,rfl,h⟩
   have g2:(b==d)=false:=beq_eq_false_iff_ne.mpr e2;have D:decide (a<c\/a=c/\b<d)=decide (b<d):=decide_eq_decide.mpr (by omega);rw[D]at h
   wp_walk using UL O,UL U,U8,Z
   exact⟨_,rfl,h⟩
  have g1:(a==c)=false:=beq_eq_false_iff_ne.mpr e1;have D:decide (a<c\/a=c/\b<d)=decide (a<c):=decide_eq_decide.mpr (by omega);rw[D]at h
  wp_walk using UL O,UL U,U8,Z
  exact⟨_,rfl,h⟩
theorem Jp{prog:Ux}{w:UA}{A:UG}{s:Uq}{E:Uj->Uq->Prop}{Q:Uj->Uq->Prop}{l m:Um}{a b c d:Int}{J O U V:XO}(hl:s.heap.IsTuple l #[.int a J,.int b O])(hb:s.heap.IsTuple m #[.int c U,.int d V])(hu:A.units<cLine)
  (h:Q (.bool (decide (a<c\/a=c/\b<d))) s):wpAny (model prog w) A (VQ .Lt (.ref l) (.ref m)) Q E s:=by
 obtain⟨⟨cl,d1,da,sl⟩,Z,rfl,n,rfl⟩:=id hl;obtain⟨⟨cl2,d2,da2,G⟩,D,rfl,n2,rfl⟩:=id hb;exact Wn (op:=.Lt) ⟨_,Z,rfl⟩ ⟨_,D,rfl⟩ F.slot_tuple_lt F.entry_tuple_lt (F.args_tuple_lt_2 _ _) (BQ l m a b c d J O U V n n2 d1 d2 sl G)
  ⟨Z,D,show Value.bool (decide (a<c\/a=c/\b<d))≠Value.notImplemented/\Q (.bool (decide (a<c\/a=c/\b<d))) s from⟨(λx=>nomatch x),h⟩⟩ hu
end PySem.SeqAt
set_option maxHeartbeats 1000000
namespace PySem
section
variable {prog:Ux}{w:UA}{A:UG}{E:Uj->Uq->Prop}{s:Uq}
theorem BR{I L:Um}{fp O:List Um}{St:Nat->UH->Prop}{x y:Uj}{r:Bool}{R:Result->Uq->Prop}{z:Uq}{c:Nat}(W:Walks prog w A.in1 I fp O 2 (λi v=>(#[x,y]:Array Uj)[i]?=Yc v) St)(nL:L∉fp)(st:St 0 z.heap)
  (hL:z.heap.get? L=Yc { cls:=.type "list",dict:=none,data:=.seq #[] c,slots:=#[] })
  (Z:∀(h':UH) (tk:Nat) (E':Uj->Uq->Prop) (Q':Uj->Uq->Prop),(∀q o,q∉O->q≠L->z.heap.get? q=Yc o->h'.get? q=Yc o)->Q' (.bool r) { z with heap:=h',toks:=tk }->wpAny (model prog w) A.in1 (VQ .Lt y x) Q' E' { z with heap:=h',toks:=tk })
  (hR:∀h' tk,(∀q o,q∉O->q≠L->z.heap.get? q=Yc o->h'.get? q=Yc o)->R (.ok (.ret (if r=true then y else x))) { z with heap:=h',toks:=tk }) :
  VM (model prog w) A (.builtin "min.loop" ⟨[.ref I,.none,.ref L],[]⟩) R z:=by
 have nm:(toString "min" ++ toString ".loop":String) = "min.loop":=by decide
 have nw:L∉O:=λq=>nL (W.sub _ q);have fin:∀(v:Uj) (D:UH) (k1 c1:Nat),St 2 D->D.get? L=Yc { cls:=.type "list",dict:=none,data:=.seq #[v,v] c1,slots:=#[] }->(∀q o,q∉O->q≠L->z.heap.get? q=Yc o->D.get? q=Yc o)->v=(if r=true then y else x) ->
   VM (model prog w) A (.builtin "min.loop" ⟨[.ref I,.none,.ref L],[]⟩) R { z with heap:=D,toks:=k1 }:=λv D k1 c1 s1 l1 kp ev=>by
  refine Vn F.entry_min_loop ?_;rw[Around.under_plainId F.plain_min_loop _];show wpAny _ A.in1 (seqItems? (.ref L) >>= _) _ _ { z with heap:=D,toks:=k1 };refine Uh (Vh l1 rfl ?_);show wpAny _ A.in1 (tryCatch (pyNext (.ref I)) _ >>= _) _ _ { z with heap:=D,toks:=k1 };refine Uh (V4 (W.done _ _ _ s1 λh2 k2 kq=>?_));have l2:=kq L _ nw l1;show wpAny _ A.in1 (updateSeq L (λ_=>#[]) >>= _) _ _ _;refine Uh (VT l2 rfl (Uh (VR (Ur ?_))));rw[ev];exact hR _ k2 λq o G J e=>(Qc _ _ (Ne.symm J)).trans (kq q o G (kp q o G J e))
 refine Vn F.entry_min_loop ?_;rw[Around.under_plainId F.plain_min_loop _];show wpAny _ A.in1 (seqItems? (.ref L) >>= _) _ _ z;refine Uh (Vh hL rfl ?_);show wpAny _ A.in1 (tryCatch (pyNext (.ref I)) _ >>= _) _ _ z;refine Uh (V4 (W.item 0 z _ _ (by decide) st λv D k1 pv s1 kq=>?_));obtain rfl:v=x:=(Option.some.inj pv).symm;have l1:=kq L _ nw hL;show wpAny _ A.in1 (updateSeq L (λ_=>#[v,v]) >>= _) _ _ _;refine Uh (VT l1 rfl ?_);rw[nm];refine Ur ⟨VP F.plain_min_loop _,Vn F.entry_min_loop ?_⟩;rw[Around.under_plainId F.plain_min_loop _];obtain⟨c2,l2⟩:∃c2,(D.update L (Obj.mapSeq λ_=>#[v,v])).get? L=Yc { cls:=.type "list",dict:=none,data:=.seq #[v,v] c2,slots:=#[] }:=⟨_,RS l1 λ_=>#[v,v]⟩
 have s2:St 1 _:=W.frame 1 D (D.update L (Obj.mapSeq λ_=>#[v,v])) s1 λq hq o e=>(Qc _ _ (λu:L=q=>nL (by rw[u];exact hq))).trans e;have kp2:∀q o,q∉O->q≠L->z.heap.get? q=Yc o->(D.update L (Obj.mapSeq λ_=>#[v,v])).get? q=Yc o:=λq o G J e=>(Qc _ _ (Ne.symm J)).trans (kq q o G e);show wpAny (model prog w) A.in1 _ _ _ { z with heap:=D.update L (Obj.mapSeq λ_=>#[v,v]),toks:=k1 };generalize D.update L (Obj.mapSeq λ_=>#[v,v])=h2 at l2 s2 kp2;show wpAny _ A.in1 (seqItems? (.ref L) >>= _) _ _ { z with heap:=h2,toks:=k1 };refine Uh (Vh l2 rfl ?_);show wpAny _ A.in1 (tryCatch (pyNext (.ref I)) _ >>= _) _ _ { z with heap:=h2,toks:=k1 };refine Uh (V4 (W.item 1 _ _ _ (by decide) s2 λu V k3 pu s3 kr=>?_));obtain rfl:u=y:=(Option.some.inj pu).symm;have l3:=kr L _ nw l2;have U:∀q o,q∉O->q≠L->z.heap.get? q=Yc o->V.get? q=Yc o:=λq o G J e=>kr q o G (kp2 q o G J e);show wpAny _ A.in1 (tryCatch (Xy [u,u] (VQ .Lt u v >>= _)) _ >>= _) _ _ { z with heap:=V,toks:=k3 };refine Uh (V4 (UD (Uh (Z V k3 _ _ U ?_))));refine Uh (UD (UP (Uh (VR (Ur ?_)))));cases r with
 |true =>
  simp only[VW];refine Uh (VT l3 rfl (Uh (VR ?_)));rw[nm];obtain⟨c4,l4⟩:∃c4,(V.update L (Obj.mapSeq λ_=>#[u,u])).get? L=Yc { cls:=.type "list",dict:=none,data:=.seq #[u,u] c4,slots:=#[] }:=⟨_,RS l3 λ_=>#[u,u]⟩
  refine Ur ⟨VP F.plain_min_loop _,fin u _ k3 c4 (W.frame 2 V _ s3 λq hq o e=>(Qc _ _ (λg:L=q=>nL (by rw[g];exact hq))).trans e) l4 (λq o G J e=>(Qc _ _ (Ne.symm J)).trans (U q o G J e)) rfl⟩
 |false =>
  simp only[PF,U1];refine Uh (VR ?_);rw[nm];exact Ur ⟨VP F.plain_min_loop _,fin v V k3 c2 s3 l3 U rfl⟩
theorem zj{a b:Uj}{r:Bool}{Q:Uj->Uq->Prop}(Z:A.handled=none)
  (D:∀(h':UH) (tk:Nat) (J:Uj->Uq->Prop) (G:Uj->Uq->Prop),(∀c o,s.heap.get? c=Yc o->h'.get? c=Yc o)->G (.bool r) { s with heap:=h',toks:=tk }->wpAny (model prog w) A.in1 (VQ .Lt b a) G J { s with heap:=h',toks:=tk })
  (h:∀h' tk,(∀c o,s.heap.get? c=Yc o->h'.get? c=Yc o)->Q (if r=true then b else a) { s with heap:=h',toks:=tk }) :
  wpAny (model prog w) A (call (.builtin "min") [a,b]) Q E s:=by
 have nm:(toString "min" ++ toString ".loop":String) = "min.loop":=by decide
 have U:(s.heap.push { cls:=.type "tuple",data:=.seq #[a,b] }).IsTuple s.heap.objs.size #[a,b]:=⟨_,O6 _ rfl,rfl,0,rfl⟩
 have O:(s.heap.push { cls:=.type "tuple",data:=.seq #[a,b] }).objs.size=s.heap.objs.size+1:=QG ..;refine call_function_tree F.kind_min F.plain_min F.entry_min (F.args_min2 _ _) ?_;refine Uh (m:=Builtin.Builtins.bindParams "min" ["key","default"] 0 ⟨[],[]⟩) (WK (show Builtin.Builtins.bindParams "min" ["key","default"] 0 ⟨[],[]⟩=pure [none,none]from rfl) (Uh (m:=XE [a,b]) (UK (Uh (U9 U ?_)))));have W:=Walks.tuple (prog:=prog) (w:=w) (A:=A.in1) Z (s.heap.objs.size+1) s.heap.objs.size (Pb (QP _)) #[a,b];show wpAny (model prog w) A.in1 _ _ _ { s with heap:=(s.heap.push { cls:=.type "tuple",data:=.seq #[a,b] }).push { cls:=.type "tuple_iterator",data:=.fields #[.ref s.heap.objs.size,.int 0 0] } };rw[O];refine Uh (UK ?_);rw[nm];have V:((s.heap.push { cls:=.type "tuple",data:=.seq #[a,b] }).push { cls:=.type "tuple_iterator",data:=.fields #[.ref s.heap.objs.size,.int 0 0] }).objs.size=s.heap.objs.size+2:=by rw[QG,O]
 have g1:((s.heap.push { cls:=.type "tuple",data:=.seq #[a,b] }).push { cls:=.type "tuple_iterator",data:=.fields #[.ref s.heap.objs.size,.int 0 0] }).get? (s.heap.objs.size+1)=Yc { cls:=.type "tuple_iterator",data:=.fields #[.ref s.heap.objs.size,.int 0 0] }:=O▸O6 _ rfl;have up:∀q o,s.heap.get? q=Yc o->(((s.heap.push { cls:=.type "tuple",data:=.seq #[a,b] }).push { cls:=.type "tuple_iterator",data:=.fields #[.ref s.heap.objs.size,.int 0 0] }).push { cls:=.type "list",data:=.seq #[] }).get? q=Yc o/\q∉ [s.heap.objs.size+1]/\q≠s.heap.objs.size+2:=λq o e=>by
  have lt:q<s.heap.objs.size:=O3 e;refine⟨OJ _ (OJ _ (OJ _ e)),λy=>?_,Pb (Qa (Qa lt))⟩;exact Us (OS.mp y) (Pb (Qa lt))
 refine Ur ⟨VP F.plain_min_loop _,?_⟩;show VM (model prog w) A (.builtin "min.loop" ⟨[.ref (s.heap.objs.size+1),.none,.ref ((s.heap.push { cls:=.type "tuple",data:=.seq #[a,b] }).push { cls:=.type "tuple_iterator",data:=.fields #[.ref s.heap.objs.size,.int 0 0] }).objs.size],[]⟩) _ { s with heap:=(((s.heap.push { cls:=.type "tuple",data:=.seq #[a,b] }).push { cls:=.type "tuple_iterator",data:=.fields #[.ref s.heap.objs.size,.int 0 0] }).push { cls:=.type "list",data:=.seq #[] }) };rw[V];refine BR (r:=r) W (λy=>?_) ⟨⟨_,OJ _ g1,rfl,rfl⟩,(U.push _).push _⟩ (c:=0) (V▸O6 _ rfl) (λh' tk J G kp q=>?_) λh' tk kp=>?_
 .rcases O9.mp y with y|y
  .exact Us y (QS (QP _))
  exact Us (OS.mp y) (QS (Qa (QP _)))
 .exact D h' tk J G (λq o e=>kp q o (up q o e).2.1 (up q o e).2.2 (up q o e).1) q
 exact h h' tk λq o e=>kp q o (up q o e).2.1 (up q o e).2.2 (up q o e).1
end
end PySem
namespace L2
open PySem PySem.Spec PyProof.Rows
section
variable {X:Cx}
theorem zk(G:X.calm=true)(J:X.A.units+1<cLine):fW X (.builtin "min") (λxs H Q=>∃(p q:Um) (a b c d:Int),xs=[.ref p,.ref q]/\br X.K H p [.int a,.int b]/\br X.K H q [.int c,.int d]/\Q (.ref (if c<a\/c=a/\d<b then q else p)) H):=by
 intro pins s σ H xs us Q I r h;obtain⟨p,q,a,b,c,d,rfl,hp,O,k⟩:=h;obtain⟨u,w',rfl,U,D⟩:=vals2 r;cases U;cases D;obtain⟨i1,V,Z,_⟩:=I.tuple hp;obtain⟨i2,v2,p2,_⟩:=I.tuple O;obtain⟨x1,x2,rfl,⟨t1,rfl⟩,⟨t2,rfl⟩⟩:=vals2 V;obtain⟨y1,y2,rfl,⟨t3,rfl⟩,⟨t4,rfl⟩⟩:=vals2 v2;have g1:s.heap.IsTuple p #[.int a t1,.int b t2]:=Z;have g2:s.heap.IsTuple q #[.int c t3,.int d t4]:=p2;refine zj (r:=decide (c<a\/c=a/\d<b)) (I.ok.hd G) (λh' tk E' Q' kp y=>?_) λh' tk kp=>?_
 .exact SeqAt.Jp (s:={ s with heap:=h',toks:=tk }) (g2.at λo e=>kp _ _ e) (g1.at λo e=>kp _ _ e) (by show X.A.in1.units<cLine;exact J) y
 refine⟨.ref (if c<a\/c=a/\d<b then q else p),H,I.kept kp,?_,k⟩;by_cases e:c<a\/c=a/\d<b
 .rw[Uo e,Uo (Ul e)];rfl
 rw[Uk e,Uk (by rw[Up e];decide)];rfl
theorem LZ{its:List Uj}{x y:Int}(r:Vals [.int x,.int y] its):∃t u,its=[.int x t,.int y u]:=by
 obtain⟨a,b,rfl,⟨t,rfl⟩,⟨u,rfl⟩⟩:=vals2 r;exact⟨t,u,rfl⟩
theorem zl(Z:X.calm=true):fW X (.builtin "min") (λxs H Q=>∃(p:Um) (x y:Int),xs=[.ref p]/\aZ X.K H p [.int x,.int y]/\Q (.int (min x y)) H):=by
 intro pins s σ H xs us Q I r h;obtain⟨p,x,y,rfl,hq,q⟩:=h;obtain⟨u,rfl,ru⟩:=r.one;cases ru;obtain⟨its,rv,pl,hz⟩:=I.list hq;obtain⟨J,O,rfl⟩:=LZ rv;have V:=pl.isList;have U:p<s.heap.objs.size:=let⟨_,e,_⟩:=V;O3 e
 refine call_min_walk (VC V ?_);refine⟨_,_,_,_,_,_,_,rfl,Walks.list (A:=X.A.in1) (I.ok.hd Z) s.heap.objs.size p (Pb U) #[.int x J,.int y O],⟨⟨_,O6 _ rfl,rfl,rfl⟩,V.push _⟩,λb hb=>?_,(by show 0<2;decide),
  CmpOf.ints_lt (λi=>if i=0 then x else y) (λi v D=>?_),λv h' tk G hk=>?_⟩
 .rw[QG];rcases O9.mp hb with e|e
  .rw[e];exact QP _
  rw[OS.mp e];exact Qa U
 .match i,D with
  |0,D=>exact⟨J,(Option.some.inj D).symm⟩
  |1,D=>exact⟨O,(Option.some.inj D).symm⟩
  |i+2,D=>exact Us D (by simp)
 have hold:∀c o,s.heap.get? c=Yc o->h'.get? c=Yc o:=λc o e=>hk c o (λz=>Us (OS.mp z) (Pb (O3 e))) (OJ _ e);refine⟨.int (min x y),H,I.kept hold,?_,q⟩;by_cases g:y<x
 .have e:Vs (λi j=>decide ((if i=0 then x else y)<(if j=0 then x else y))) 1=1:=by simp[Vs,g]
  have G:(#[.int x J,.int y O]:Array Uj)[Vs (λi j=>decide ((if i=0 then x else y)<(if j=0 then x else y))) 1]?=Yc v:=G;rw[e]at G;have D:v=.int y O:=(Option.some.inj G).symm;exact⟨O,by rw[D,Int.min_eq_right (by omega)]⟩
 have e:Vs (λi j=>decide ((if i=0 then x else y)<(if j=0 then x else y))) 1=0:=by simp[Vs,g]
 have G:(#[.int x J,.int y O]:Array Uj)[Vs (λi j=>decide ((if i=0 then x else y)<(if j=0 then x else y))) 1]?=Yc v:=G;rw[e]at G;have D:v=.int x J:=(Option.some.inj G).symm;exact⟨J,by rw[D,Int.min_eq_left (by omega)]⟩
theorem zm(Z:X.calm=true):fW X (.builtin "max") (λxs H Q=>∃(p:Um) (x y:Int),xs=[.ref p]/\aZ X.K H p [.int x,.int y]/\Q (.int (max x y)) H):=by
 intro pins s σ H xs us Q I r h;obtain⟨p,x,y,rfl,hq,q⟩:=h;obtain⟨u,rfl,ru⟩:=r.one;cases ru;obtain⟨its,rv,pl,hz⟩:=I.list hq;obtain⟨J,O,rfl⟩:=LZ rv;have V:=pl.isList;have U:p<s.heap.objs.size:=let⟨_,e,_⟩:=V;O3 e
 refine call_max_walk (VC V ?_);refine⟨_,_,_,_,_,_,_,rfl,Walks.list (A:=X.A.in1) (I.ok.hd Z) s.heap.objs.size p (Pb U) #[.int x J,.int y O],⟨⟨_,O6 _ rfl,rfl,rfl⟩,V.push _⟩,λb hb=>?_,(by show 0<2;decide),
  CmpOf.ints_gt (λi=>if i=0 then x else y) (λi v D=>?_),λv h' tk G hk=>?_⟩
 .rw[QG];rcases O9.mp hb with e|e
  .rw[e];exact QP _
  rw[OS.mp e];exact Qa U
 .match i,D with
  |0,D=>exact⟨J,(Option.some.inj D).symm⟩
  |1,D=>exact⟨O,(Option.some.inj D).symm⟩
  |i+2,D=>exact Us D (by simp)
 have hold:∀c o,s.heap.get? c=Yc o->h'.get? c=Yc o:=λc o e=>hk c o (λz=>Us (OS.mp z) (Pb (O3 e))) (OJ _ e);refine⟨.int (max x y),H,I.kept hold,?_,q⟩;by_cases g:y>x
 .have e:Vs (λi j=>decide ((if i=0 then x else y)>(if j=0 then x else y))) 1=1:=by simp[Vs,g]
  have G:(#[.int x J,.int y O]:Array Uj)[Vs (λi j=>decide ((if i=0 then x else y)>(if j=0 then x else y))) 1]?=Yc v:=G;rw[e]at G;have D:v=.int y O:=(Option.some.inj G).symm;exact⟨O,by rw[D,Int.max_eq_right (by omega)]⟩
 have e:Vs (λi j=>decide ((if i=0 then x else y)>(if j=0 then x else y))) 1=0:=by simp[Vs,g]
 have G:(#[.int x J,.int y O]:Array Uj)[Vs (λi j=>decide ((if i=0 then x else y)>(if j=0 then x else y))) 1]?=Yc v:=G;rw[e]at G;have D:v=.int x J:=(Option.some.inj G).symm;exact⟨J,by rw[D,Int.max_eq_left (by omega)]⟩
end
end L2
namespace nD
open PySem PyProof.Rows PySem.W
section
variable {prog:Ux}{w:UA}{A:UG}{E:Uj->Uq->Prop}{s:Uq}
theorem xR [xt]{D:List Uj}{rk:Uj->Int}(V:∀p:U3,num p=rk p.1){xs:Array U3}(hp:xs.Perm (Vt D))(hs:SortedTo xs (Vt D).size):(xs.map (·.2)).toList.Perm D/\(xs.map (·.2)).toList.Pairwise λu v=>rk u<=rk v:=by
 have Z:=RX.mp hp;have ez:(Vt D).toList=D.zip D:=by unfold Vt;simp
 have same:∀p∈xs.toList,p.1=p.2:=λp G=>by
  have z:=Z.mem_iff.mp G;rw[ez]at z;obtain⟨i,J,e⟩:=Rr z;rw[List.getElem_zip]at e;rw[<-e]
 rw[Array.toList_map];constructor
 .have z:=Z.map (·.2);rw[ez]at z;have e2:(D.zip D).map (·.2)=D:=by rw[Tp];exact ON _
  rw[e2]at z;exact z
 rw[Px];refine Qx.mpr λi j J hj Jg=>?_;have hsz:xs.size=(Vt D).size:=hp.size_eq;have O:i<xs.size:=by simpa using J
 have U:j<xs.size:=by simpa using hj
 have z:=hs i j (by omega) (by omega);rw[Dz (getElem?_pos xs i O),Dz (getElem?_pos xs j U),V,V]at z;have e1:=same _ (Rp J);have e2:=same _ (Rp hj);rw[<-e1,<-e2];simpa using z
theorem xS{a:Um}{D:List Uj}{n:Nat}{P:PySem.Fin->Uq->Prop}(J:s.heap.get? a=Yc (seqObj "list" D.toArray n))(h2:D.length<2)
  (h:P (.done (.ret .none)) { s with heap:=XJ s.heap a D D.toArray }):wpAny (model prog w) A (Builtin.«list.sort» ⟨[.ref a],[]⟩) P E s:=by
 rw[list_sort_plain];obtain⟨k,V⟩:∃k,(s.heap.update a (Obj.mapSeq λ_=>#[])).get? a=Yc (seqObj "list" #[] k):=⟨_,get?_update_seq J (λ_=>#[])⟩
 have G:(((s.heap.update a (Obj.mapSeq λ_=>#[])).push (seqObj "tuple" D.toArray 0)).push (seqObj "list" #[] 0)).get? a=Yc (seqObj "list" #[] k):=
  OJ _ (OJ _ V)
 have O:D.toArray.size<=sizeLine:=by rw[OT,UJ];omega
 have U:D.toArray.toList.length<=sizeLine:=by rw[UJ];simp;omega
 refine Uh (Wt J rfl (Uh (Ve J rfl (Uh (VS V rfl ?_)) O (PH _))));refine Uh (V2 (Uh (Vo (UD ?_) (PH _))) U);show wpAny (model prog w) A _ P E { s with heap:=((s.heap.update a (Obj.mapSeq λ_=>#[])).push (seqObj "tuple" D.toArray 0)).push (seqObj "list" #[] 0) };dsimp only;have Z:D.toArray.size<2:=by rw[OT];omega
 rw[Uo Z,Uo Z];refine Uh (Ur (Uh (Ur ?_)));dsimp only;have e:(arrOf (SortSt.mk' general' (D.toArray.zip D.toArray) #[] 7 none)).map (·.2)=D.toArray:=by
  apply Array.toList_inj.mp;show((D.toArray.zip D.toArray).map (·.2)).toList=D;have e2:(D.zip D).map (·.2)=D:=by rw[Tp];exact ON _
  simpa using e2
 rw[e];refine Uh (VS G rfl (Uh (Ve G rfl ?_ (hsz2:=by rw[OT,UJ];omega))));dsimp only;rw[bne_self_eq_false];exact Ur h
theorem zo{l:Um}{D:List Uj}{Q:Uj->Uq->Prop}(J:s.heap.IsList l D.toArray)(O:D.length<2)
  (h:Q (.ref (s.heap.objs.size+1)) { s with heap:=sortedAll s.heap D D.toArray }):wpAny (model prog w) A (call (.builtin "sorted") [.ref l]) Q E s:=by
 have z:((s.heap.push (seqObj "list" #[] 0)).update s.heap.objs.size (Obj.mapSeq (· ++ D.toArray))).objs.size=s.heap.objs.size+1:=(RN _ _ _).trans (Xd _ _);have G:(((s.heap.push (seqObj "list" #[] 0)).update s.heap.objs.size (Obj.mapSeq (· ++ D.toArray))).push (seqObj "list" D.toArray 0)).get? (s.heap.objs.size+1)=Yc (seqObj "list" D.toArray 0):=z▸O6 _ rfl;refine Calls.call_function_entry WR Wu Wv (Xm _) ?_;unfold Builtin.«sorted»;refine Uh (m:=Xe "sorted" 1 1 _) (Ur (Uh (Xn J (Uh (Vo ?_ (by rw[UJ];omega))) (hsz:=by rw[UJ];omega))));show wpAny _ _ _ _ _ { s with heap:=((s.heap.push (seqObj "list" #[] 0)).update s.heap.objs.size (Obj.mapSeq (· ++ D.toArray))).push (seqObj "list" D.toArray 0) };rw[z];exact Uh (UD (UN slot_list_sort ⟨_,G,rfl⟩ entry_list_sort (xS G O ⟨_,rfl,Ur ⟨_,rfl,h⟩⟩) (V5 _)))
end
open PySem.Spec L2
noncomputable def kx:Th.Kd->Int
 |.bare=>0
 |.odd=>1
 |.ring=>2
 |.tied=>3
theorem Jq:∀a b:Th.Kd,kx a=kx b->a=b:=by intro a b h;cases a <;> cases b <;> first|rfl|exact Us h (by decide)
theorem L0:∀a b:Th.Kd,decide ((aI.ks a).cps.toList<(aI.ks b).cps.toList)=decide (kx a<kx b):=by intro a b;cases a <;> cases b <;> decide +kernel
def Pr(h:UH)(str:Bool)(v:Uj)(r:Int):Prop:=∃(t:Um) (o:U6) (n:Nat) (x:Uj) (y a:Int) (D G:XO),v=.ref t/\h.get? t=Yc o/\o.cls=.type "tuple"/\o.data=.seq #[x,.int y G] n/\0<=y/\y<1000/\r=1000*a+y /\
 ((str=false/\x=.int a D)\/(str=true/\∃k:Th.Kd,x=.str (aI.ks k) D/\a=kx k))
theorem Pr.uniq{h:UH}{str:Bool}{v:Uj}{r r':Int}(p:Pr h str v r)(q:Pr h str v r'):r=r':=by
 obtain⟨t,o,n,x,y,a,u1,u2,rfl,e1,e2,e3,e4,e5,e6,O⟩:=p;obtain⟨t',o',n',x',y',a',u1',u2',Z,f1,f2,J,f4,f5,f6,G⟩:=q;injection Z with Z;subst Z;rw[e1]at f1;obtain rfl:=Option.some.inj f1;rw[e3]at J;injection J with J _;have J:=congrArg Ss J;injection J with D U;injection U with U _;injection U with U _;subst U;rcases O with⟨s1,O⟩|⟨e8,k,O,e9⟩
 .rcases G with⟨_,G⟩|⟨V,_⟩
  .rw[O,G]at D;injection D with D _;rw[e6,f6,D]
  rw[s1]at V;cases V
 rcases G with⟨V,G⟩|⟨_,k',G,f9⟩
 .rw[e8]at V;cases V
 rw[O,G]at D;injection D with D _;have:=aI.oM _ _ D;rw[e6,f6,e9,f9,this]
open Classical in
noncomputable def Jr(h:UH)(str:Bool)(v:Uj):Int:=if e:∃r,Pr h str v r then choose e else 0
theorem DQ{h:UH}{str:Bool}{v:Uj}{r:Int}(p:Pr h str v r):Jr h str v=r:=by
 unfold Jr;have e:∃r,Pr h str v r:=⟨r,p⟩
 rw[Wr e];exact(QB e).uniq p
@[reducible] noncomputable def Js(h:UH)(str:Bool):xt:=⟨λp=>∃r,Pr h str p.1 r,λp=>Jr h str p.1,WV true⟩
noncomputable def tyP(str:Bool):Value:=if str=true then .type "str" else .type "int"
theorem Gy{prog:Ux}{w:UA}{A:UG}{s:Uq}{h:UH}{str:Bool}(k:∀b o,h.get? b=Yc o->s.heap.get? b=Yc o):@Asks (Js h str) prog w A s:=by
 letI:=Js h str
 intro x y ⟨r,px⟩ ⟨G,py⟩ E Q V;have q:Q (decide (r<G)) s:=by
  have e1:num x=r:=DQ px;have e2:num y=G:=DQ py;rw[e1,e2]at V;exact V
 clear V;obtain⟨x1,x2⟩:=x;obtain⟨y1,y2⟩:=y;obtain⟨t,o,n,x,y,a,u1,u2,rfl,e1,e2,e3,e4,e5,e6,e7⟩:=px;obtain⟨t',o',n',x',J,D,u1',O,rfl,f1,f2,f3,f4,f5,f6,f7⟩:=py;show wpAny _ _ (keyLt' (WV true) (.ref t) (.ref t')) _ _ _;refine kat_lt (k _ _ e1) e3 (k _ _ f1) f3 ?_;show KatLex prog w A true (decide (2<2)) _ [(x,x'),(.int y u2,.int J O)] 0 s;have second:a=D->KatLex prog w A true (decide (2<2)) Q [(.int y u2,.int J O)] 1 s:=λea=>by
  refine XM (U8 ?_);by_cases c:y=J
  .rw[show(y==J)=true from beq_iff_eq.mpr c];refine Ya (kat_nil ?_);rw[show decide (2<2)=decide (r<G)from decide_eq_decide.mpr (by omega)];exact q
  rw[show(y==J)=false from beq_eq_false_iff_ne.mpr c];refine kat_no (kat_one _ _ (lt_int ?_));show Q _ s;rw[show decide (y<J)=decide (r<G)from decide_eq_decide.mpr (by omega)];exact q
 rcases e7 with⟨Z,rfl⟩|⟨Z,k1,rfl,ek⟩
 .rcases f7 with⟨_,rfl⟩|⟨U,_⟩
  .refine XM (U8 ?_);by_cases c:a=D
   .rw[show(a==D)=true from beq_iff_eq.mpr c];exact Ya (second c)
   rw[show(a==D)=false from beq_eq_false_iff_ne.mpr c];refine kat_no (oneLt_int ?_);rw[show decide (a<D)=decide (r<G)from decide_eq_decide.mpr (by omega)];exact q
  rw[Z]at U;cases U
 rcases f7 with⟨U,_⟩|⟨_,k2,rfl,fk⟩
 .rw[Z]at U;cases U
 refine XM (eqBool_str ?_);by_cases c:k1=k2
 .subst c;rw[US];exact Ya (second (by rw[ek,fk]))
 rw[show(aI.ks k1==aI.ks k2)=false from beq_eq_false_iff_ne.mpr λz=>c (aI.oM _ _ z)];refine kat_no (oneLt_str ?_);have ne:a≠D:=λz=>c (Jq _ _ (by rw[<-ek,<-fk,z]));rw[L0,<-ek,<-fk,show decide (a<D)=decide (r<G)from decide_eq_decide.mpr (by omega)];exact q
end nD
namespace L2
open PySem PySem.Spec PyProof.Rows nD
section
variable {X:Cx}
def ND(str:Bool)(D:List V)(r:Int):Prop:=∃(x:V) (y a:Int),D=[x,.int y]/\0<=y/\y<1000/\r=1000*a+y/\((str=false/\x=.int a)\/(str=true/\∃k:Th.Kd,x=.str (aI.ks k)/\a=kx k))
theorem L3{pins:List (Um×U6)}{s:Uq}{σ:L2.St}{H:Hp}{t:Um}{O:List V}{r:Int}{str:Bool}(I:Inv X pins σ H s)(h:H t=Yc (.tup O))(p:ND str O r):Pr s.heap str (.ref t) r:=by
 obtain⟨x,y,a,rfl,U,Z,h3,h4⟩:=p;obtain⟨its,rv,⟨o,e1,e2,n,e3⟩,_⟩:=I.tuple (br.of h);cases rv with
 |cons r1 D =>
  cases D with
  |cons r2 D =>
   cases D;obtain⟨u2,rfl⟩:=r2;rcases h4 with⟨G,rfl⟩|⟨G,k,rfl,ek⟩
   .obtain⟨J,rfl⟩:=r1;exact⟨t,o,n,_,y,a,J,u2,rfl,e1,e2,e3,U,Z,h3,.inl ⟨G,rfl⟩⟩
   obtain⟨J,rfl⟩:=r1;exact⟨t,o,n,_,y,a,J,u2,rfl,e1,e2,e3,U,Z,h3,.inr ⟨G,k,rfl,ek⟩⟩
theorem rS{h h':UH}(k:∀b o,h.get? b=Yc o->h'.get? b=Yc o):∀{D fs:List Uj},QM h D fs->QM h' D fs
 |[],[],_=>trivial
 |[],_::_,z=>z.elim
 |_::_,[],z=>z.elim
 |_::_,_::_,⟨⟨a,o,xs,n,G,e1,e2⟩,r⟩=>⟨⟨a,o,xs,n,G,k _ _ e1,e2⟩,rS k r⟩
theorem kat_tups{h:UH}{str:Bool}:∀J:List Um,(∀t∈J,∃r,Pr h str (.ref t) r)->∃fs:List Uj,QM h (J.map Value.ref) fs/\∀v∈fs,(str=false/\∃i u,v=.int i u)\/(str=true/\∃z u,v=.str z u)
 |[],_=>⟨[],QM.nil,λv D=>Us D Qp⟩
 |t::J,hp=>by
  obtain⟨fs,V,Z⟩:=kat_tups J λt ht=>hp t (O1 _ ht);obtain⟨r,t',o,n,x,y,a,u1,u2,O,e1,e2,e3,e4,e5,e6,G⟩:=hp t O2;injection O with O;subst O;refine⟨x::fs,QM.cons e1 e2 e3 rfl V,λv D=>?_⟩;rcases O9.mp D with rfl|D
  .rcases G with⟨U,G⟩|⟨U,k,G,_⟩
   .exact .inl ⟨U,_,_,G⟩
   exact .inr ⟨U,_,_,G⟩
  exact Z v D
theorem uj:∀{D:List Um}{its:List Uj},Vals (D.map V.ref) its->its=D.map Value.ref
 |[],_,.nil=>rfl
 |t::D,_,.cons r G=>by cases r;rw[uj G];rfl
theorem mJ:∀D:List Um,Vals (D.map V.ref) (D.map Value.ref)
 |[]=>.nil
 |t::D=>.cons rfl (mJ D)
theorem uk{D:List Uj}{G:List Um}(h:D.Perm (G.map Value.ref)):∃O:List Um,D=O.map Value.ref/\O.Perm G:=by
 let g:Uj->Addr:=λv=>match v with
  |.ref a=>a
  |_=>0
 have e:∀v∈D,Value.ref (g v)=v:=λv J=>by
  obtain⟨t,_,rfl⟩:=OO.mp (h.mem_iff.mp J)
  rfl
 refine⟨D.map g,?_,?_⟩
 .rw[Pp];exact(T4 D).symm.trans (PB λv J=>(e v J).symm)
 have z:=h.map g;rw[Pp]at z;have e2:G.map (g ∘ Value.ref)=G:=T4 G;rw[e2]at z;exact z
end
theorem pE{X:Cx}{K:OM}(D:X.K=K)(G:X.A.units<cLine):kA X (UQ .Eq) (Du K false):=D▸yZ G
end L2
namespace aI
open PySem L2
noncomputable def pf(c:Nat×Nat):List V:=[.int (c.1:Nat),.int (c.2:Nat)]
theorem fq.ext{α:Type}{f:α->List V}{H:Hp}{l r:Um}{xs D:List α}(h:fq f H l xs)(k:fq f H r D):∃G J,H l=Yc (.lst G)/\H r=Yc (.lst J)/\G.length=xs.length/\J.length=D.length/\fq f (L2.upd H l (.lst (G++J))) l (xs++D):=by
 obtain⟨O,h1,U,h3⟩:=h;obtain⟨us,k1,k2,k3⟩:=k;refine⟨_,_,h1,k1,by rw[OH];exact U,by rw[OH];exact k2,O++us,by rw[ag,O5],by rw[OQ,OQ,U,k2],λi t x e1 e2=>?_⟩;have ne:∀{c:Um}{Z:List V},H c=Yc (.tup Z)->L2.upd H l (.lst (O.map V.ref++us.map V.ref)) c=Yc (.tup Z):=λ{c Z} e=>by
  rw[aG (λz=>by rw[z,h1]at e;cases e)];exact e
 by_cases c:i<O.length
 .rw[Pg c]at e1;rw[Pg (by omega)]at e2;exact ne (h3 i t x e1 e2)
 rw[Pk (by omega)]at e1;rw[Pk (by omega),<-U]at e2;exact ne (k3 _ t x e1 e2)
noncomputable def bA(n:Nat)(ms:List Nat)(c:Nat×Nat):Bool:=decide (Fits n ms c.1 c.2)&&decide (eo ms c.1 c.2=c)
noncomputable def um(c:Nat×Nat):Int:=1000*c.1+c.2
noncomputable def L4(H:Hp)(t:Um):Int:=match H t with
 |some (.tup [.int x,.int y])=>1000*x+y
 |_=>0
theorem zp{H:Hp}{t:Um}{c:Nat×Nat}(h:H t=Yc (.tup (pf c))):L4 H t=um c:=by
 unfold L4;rw[h]
 rfl
theorem Jt{c:Nat×Nat}(h:c.2<1000):ND false (pf c) (um c):=⟨_,c.2,c.1,rfl,by omega,by omega,rfl,.inl ⟨rfl,rfl⟩⟩
theorem Gz{H:Hp}{l:Um}{O G:List Um}{xs:List (Nat×Nat)}(Z:O.length=xs.length)(h3:∀(i:Nat) (t:Um) (x:Nat×Nat),O[i]?=Yc t->xs[i]?=Yc x->H t=Yc (.tup (pf x)))(hp:G.Perm O)(hs:G.Pairwise λt u=>L4 H t<=L4 H u)(hn:H l=none) :
  ∃D:List (Nat×Nat),D.Perm xs/\(D.Pairwise λp q=>um p<=um q)/\fq pf (L2.upd H l (.lst (G.map V.ref))) l D:=by
 obtain⟨D,y1,J⟩:=xE.perm hp (xE.of (R:=λ(t:Um) (x:Nat×Nat)=>H t=Yc (.tup (pf x))) Z λi t x e1 e2=>h3 i t x e1 e2);have len:=J.len;refine⟨D,y1,Qx.mpr λi j hi hj U=>?_,G,ag,len,λi t x e1 e2=>?_⟩
 .have z:=Qx.mp hs i j (by omega) (by omega) U;rw[zp (J.get i _ _ (OG (by omega)) (OG hi)),zp (J.get j _ _ (OG (by omega)) (OG hj))]at z;exact z
 exact(ai hn) _ _ (J.get i t x e1 e2)
variable (K:OM)
def vA:Sp:=λD H Q _=>∃(x y:Nat),D=[.int (x:Nat),.int (y:Nat)]/\∀(l:Um) (H':Hp),H l=none->aE H H'->H' l=Yc (.tup (pf (Th.ord x y)))->Q (.ref l) H'
def xT:Sp:=λJ H Q _=>∃(l:Um) (k:Th.Kd) (G:List (Th.Kd×List Nat)),J=[.ref l,.str (ks k)]/\nI H l G/\((G.map (·.2)).flatten.length<=100)/\∀(D:Um) (H':Hp),H D=none->aE H H'->H' D=Yc (.lst (nV (Th.aV G k)))->Q (.ref D) H'
def AR:Sp:=λG H Q _=>∃(e:Um) (L:List Nat),G=[.ref e]/\H e=Yc (.tup (nV L))/\L.length<=80/\∀(D:Um) (H':Hp),H D=none->aE H H'->fq pf H' D (Th.bZ L)->Q (.ref D) H'
def AS:Sp:=λG H Q _=>∃(a b:Um) (B S:List Nat),G=[.ref a,.ref b]/\H a=Yc (.lst (nV B))/\H b=Yc (.lst (nV S))/\B.length<=80/\S.length<=80/\∀(D:Um) (H':Hp),H D=none->aE H H'->fq pf H' D (Th.c7 B S)->Q (.ref D) H'
def pF:Sp:=λD H Q _=>∃(a d:Um) (n p q:Nat) (ms:List Nat),D=[.ref a,.ref d]/\br K H a (nV ms)/\ak n ms/\br K H d [.int (p:Nat),.int (q:Nat)]/\p<2*n/\q<2*n /\
 ∀(l:Um) (H':Hp),H l=none->aE H H'->H' l=Yc (.tup (pf (eo ms p q)))->Q (.ref l) H'
open Classical
noncomputable def DR(p m:Nat):List (Nat×Nat):=(OV m).map λd=>(p,p+d)
noncomputable def kU(N i:Nat):List (Nat×Nat):=(OV i).flatMap λp=>DR p (N-p)
theorem ju{p m:Nat}{c:Nat×Nat}:c∈DR p m↔c.1=p/\p<=c.2/\c.2<p+m:=by
 unfold DR;rw[OO];constructor
 .rintro⟨d,hd,rfl⟩;have:=OX.mp hd;exact⟨rfl,by simp only;omega,by simp only;omega⟩
 rintro⟨D,G,J⟩;exact⟨c.2-p,OX.mpr (by omega),R4 D.symm (by simp only;omega)⟩
theorem jv{N i:Nat}{c:Nat×Nat}:c∈kU N i↔c.1<i/\c.1<=c.2/\c.2<N:=by
 unfold kU;rw[QR];constructor
 .rintro⟨p,hp,J⟩;obtain⟨D,G,O⟩:=ju.mp J;have:=OX.mp hp;omega
 rintro⟨D,G,O⟩;exact⟨c.1,OX.mpr D,ju.mpr ⟨rfl,G,by omega⟩⟩
theorem oP{N:Nat}(h:N<=1000)(i:Nat):(kU N i).Pairwise λc d=>um c<um d:=by
 unfold kU;rw[QC];constructor
 .intro p _;unfold DR;rw[Px];refine(QN (n:=N-p)).imp λD=>?_;unfold um;simp only;omega
 refine(QN (n:=i)).imp λ{p q} G c J d hd=>?_;obtain⟨O,U,V⟩:=ju.mp J;obtain⟨Z,g2,g3⟩:=ju.mp hd;unfold um;omega
def okD(n:Nat)(ms os:List Nat)(c:Nat×Nat):Prop:=ar ms c.1≠c.2/\eo ms c.1 c.2=c/\aC n (bM ms c.1 c.2) os+1=aC n ms os
noncomputable def rT(n:Nat)(ms os:List Nat)(l:List (Nat×Nat)):List (Nat×Nat):=l.filter λc=>decide (okD n ms os c)
section
variable {n:Nat}{ms os:List Nat}
theorem zr(W:ak n ms)(D:ak n os){p q:Nat}(hp:p<2*n)(J:q<2*n)(O:ar ms p≠q):aC n (bM ms p q) os+1=aC n ms os↔(Th.score (ar (bM ms p q)) (ar os) (2*n):Int)-Th.score (ar ms) (ar os) (2*n)=2:=by
 have G:=dz W hp J O;have U:=Th.jo (bJ W D);have V:=Th.jo (bJ G D);have Z:=Th.mF (bJ W D) (by omega);have v2:=Th.mF (bJ G D) (by omega);unfold aC;omega
theorem rV{p q:Nat}(D:p<=q)(G:q<2*n):Fits n ms (p:Nat) (q:Nat)↔ar ms p≠q:=by
 constructor
 .intro h z;exact h.2.2.2 (by rw[Pq,z])
 intro h;exact rM D G h
end
end aI
namespace nD
open PySem PySem.Spec PyProof.Rows PySem.W
section
variable [xt]{prog:Ux}{w:UA}{A:UG}{E:Uj->Uq->Prop}{s:Uq}{a₀:Array U3}
def DU(a₀:Array U3)(st:UZ):Prop:=(arrOf st).Perm a₀/\V3 st=none/\∃p,VX st = #[p]/\jL 0 (arrOf st) a₀.size
theorem zt{st:UZ}{Q:Unit->UZ->Prop}(h0:Fj prog w A s a₀)(hp:(arrOf st).Perm a₀)(hk:kindOf st=oneType')(hf:V3 st=none)(hd:VX st = #[])(h2:2<=a₀.size)(h64:a₀.size<64)
  (h:∀D,(arrOf D).Perm a₀->V3 D=none->SortedTo (arrOf D) a₀.size->Q () D):wpS (model prog w) A E s sortRuns' Q st:=by
 rw[sortRuns'_eq];refine UO (Xl ?_);dsimp only;have hsz:(arrOf st).size=a₀.size:=hp.size_eq;rw[hsz];have em:minRun' a₀.size a₀.size 0=a₀.size:=by
  obtain⟨g,e⟩:∃g,a₀.size=g+1:=⟨a₀.size-1,by omega⟩
  rw[e,minRun'_succ,Uo (by omega)]
 rw[em];refine UO (XH (VF
  (I:=λx c D=>(x=0/\c=(none,0)/\SB a₀ #[] 0 (λ_=>0) D)\/(1<=x/\c=(none,a₀.size)/\DU a₀ D))
  (Q:=λc D=>c=(none,a₀.size)/\DU a₀ D) ?step ?fin (.inl ⟨rfl,rfl,⟨hp,hk,hf,hd,λi hi=>Us hi (Rx _)⟩⟩)) ?post)
 case fin =>
  rintro c D (⟨hx,_⟩|⟨_,e,L⟩)
  .have:max 0 a₀.size=a₀.size:=QQ (PH _);omega
  exact⟨e,L⟩
 case step =>
  rintro x c D _ hx (⟨rfl,rfl,hB⟩|⟨hx2,rfl,L⟩)
  .dsimp only;refine dQ (λz=>Us z (by omega)) (λ_=>?_);refine UO (y8 h0 (by omega) (by omega) hB λk U O k1 k2 Z=>?_);dsimp only;rw[T5]at k2;have push:∀(J:UZ),SB a₀ #[] 0 (λ_=>0) J->jL 0 (arrOf J) a₀.size->DU a₀ (setPending J ((VX J).push (0,a₀.size,0))):=λJ b g =>
    ⟨b.perm,b.fl,⟨_,by show(VX J).push _=_;rw[b.pd];rfl,g⟩⟩
   refine dQ (λz=>?_) (λz=>?_)
   .have ef:min (a₀.size-0) a₀.size=a₀.size:=by omega
    rw[ef];refine UO (wpS_lift (Vq ⟨rfl,UO (DC h0 (by omega) k1 (by omega) O Z λJ V g3=>?_)⟩));refine dQ (λz=>Us z (by simp)) (λ_=>?_);refine UO (Xl ?_);have hb:(VX J).back?=none:=by rw[V.pd];rfl
    rw[hb];dsimp only;refine UO (XI (U2 (.inr ⟨ON _,by rw[Qh],push J V g3⟩)))
   have hka:k=a₀.size:=by omega
   rw[hka]at Z⊢;refine UO (Xl ?_);have hb:(VX U).back?=none:=by rw[O.pd];rfl
   rw[hb];dsimp only;refine UO (XI (U2 (.inr ⟨ON _,by rw[Qh],push U O Z⟩)))
  dsimp only;refine dQ (λ_=>U2 ⟨rfl,L⟩) (λz=>Us (ON _) z)
 case post =>
  rintro c D ⟨rfl,L⟩;dsimp only;obtain⟨lp,lf,p,e1,asc⟩:=L;refine UO (XH (VF (I:=λx c G=>c=(none,())/\G=D) (Q:=λc G=>c=(none,())/\G=D) ?fs ?ff ⟨rfl,rfl⟩) ?fp)
  case ff =>
   rintro c G ⟨e,e2⟩;exact⟨e,e2⟩
  case fp =>
   rintro c G ⟨e,e2⟩;subst e e2;exact U2 (h _ lp lf (vn asc))
  case fs =>
   rintro x c G _ _ ⟨e,e2⟩;subst e e2;refine UO (Xl ?_);exact dQ (λ_=>U2 ⟨rfl,rfl⟩) (λz=>Us (by rw[e1];exact ON 1) z)
end
section
variable {prog:Ux}{w:UA}{A:UG}{E:Uj->Uq->Prop}{s:Uq}
theorem pG [xt]{a:Um}{D fs:List Uj}{rk:Uj->Int}{T:Uj}{n:Nat}{P:PySem.Fin->Uq->Prop}(hr:∀p:U3,num p=rk p.1)(U:xt.kd=WV (T != Value.type "tuple"))(V:(T==T)=true)(O:s.heap.get? a=Yc (seqObj "list" D.toArray n))(h2:2<=D.length)(G:D.length<64)
  (hT:∀h':UH,(∀b o,b≠a->s.heap.get? b=Yc o->h'.get? b=Yc o)->KatTups h' D fs/\(∀v∈fs,XS (model prog w) h' (typeOf v) T)/\Fj prog w A { s with heap:=h' } (Vt D))
  (h:∀out:Array Uj,out.toList.Perm D->(out.toList.Pairwise λu v=>rk u<=rk v)->P (.done (.ret .none)) { s with heap:=XJ s.heap a D out }):wpAny (model prog w) A (Builtin.«list.sort» ⟨[.ref a],[]⟩) P E s:=by
 rw[list_sort_plain];have la:a<s.heap.objs.size:=O3 O;obtain⟨k,hk⟩:∃k,(s.heap.update a (Obj.mapSeq λ_=>#[])).get? a=Yc (seqObj "list" #[] k):=⟨_,get?_update_seq O (λ_=>#[])⟩
 have J:(((s.heap.update a (Obj.mapSeq λ_=>#[])).push (seqObj "tuple" D.toArray 0)).push (seqObj "list" #[] 0)).get? a=Yc (seqObj "list" #[] k):=
  OJ _ (OJ _ hk)
 have keep:∀b o,b≠a->s.heap.get? b=Yc o->(((s.heap.update a (Obj.mapSeq λ_=>#[])).push (seqObj "tuple" D.toArray 0)).push (seqObj "list" #[] 0)).get? b=Yc o:=λb o hb e =>
  OJ _ (OJ _ (by rw[RW _ _ _ _ hb];exact e))
 obtain⟨t1,t2,t3⟩:=hT _ keep;have Z:D.toArray.size<=sizeLine:=by rw[OT,UJ];omega
 have hz2:D.toArray.toList.length<=sizeLine:=by rw[UJ];simp;omega
 refine Uh (Wt O rfl (Uh (Ve O rfl (Uh (VS hk rfl ?_)) Z (PH _))));refine Uh (V2 (Uh (Vo (UD ?_) (PH _))) hz2);show wpAny (model prog w) A _ P E { s with heap:=((s.heap.update a (Obj.mapSeq λ_=>#[])).push (seqObj "tuple" D.toArray 0)).push (seqObj "list" #[] 0) };dsimp only;have z2:¬D.toArray.size<2:=by rw[OT];omega
 rw[Uk z2,Uk z2];have jj:0<fs.length:=by
  cases fs with
  |nil=>cases D with
   |nil=>exact Us h2 (by decide)
   |cons v r=>exact t1.elim
  |cons f r=>exact Tj _
 refine Uh (kat_kind t1 jj t2 V ?_);refine Uh (UX (zt (a₀:=Vt D) (st:=SortSt.mk' (WV (T != Value.type "tuple")) (D.toArray.zip D.toArray) #[] 7 none) (Q:=λ_ z=>(arrOf z).Perm (Vt D)/\V3 z=none/\SortedTo (arrOf z) (Vt D).size)
  t3 (Array.Perm.refl _) U.symm rfl rfl (by rw[Xo];exact h2) (by rw[Xo];exact G) λz a1 a2 a3=>⟨a1,a2,a3⟩) ?_ λ_ _ e=>e)
 rintro⟨⟨⟩,z⟩ s2 ⟨rfl,hp,hf,hs⟩;dsimp only;have zs:((arrOf z).map (·.2)).size<=Uu+1:=by
  rw[TL,hp.size_eq,Xo,UJ];omega
 refine Uh (VS J rfl (Uh (Ve J rfl ?_ (hsz2:=zs))));rw[hf];dsimp only;rw[bne_self_eq_false];obtain⟨b1,b2⟩:=xR hr hp hs;exact Ur (h _ b1 b2)
theorem tu [xt]{l:Um}{D fs:List Uj}{rk:Uj->Int}{T:Uj}{Q:Uj->Uq->Prop}(hr:∀p:U3,num p=rk p.1)(V:xt.kd=WV (T != Value.type "tuple"))(Z:(T==T)=true)(hl:s.heap.IsList l D.toArray)(h2:2<=D.length)(J:D.length<64)
  (hT:∀(A':UG) (h':UH),(∀b o,s.heap.get? b=Yc o->h'.get? b=Yc o)->KatTups h' D fs/\(∀v∈fs,XS (model prog w) h' (typeOf v) T)/\Fj prog w A' { s with heap:=h' } (Vt D))
  (h:∀out:Array Uj,out.toList.Perm D->(out.toList.Pairwise λu v=>rk u<=rk v)->Q (.ref (s.heap.objs.size+1)) { s with heap:=sortedAll s.heap D out }):wpAny (model prog w) A (call (.builtin "sorted") [.ref l]) Q E s:=by
 have z:((s.heap.push (seqObj "list" #[] 0)).update s.heap.objs.size (Obj.mapSeq (· ++ D.toArray))).objs.size=s.heap.objs.size+1:=(RN _ _ _).trans (Xd _ _);have hL:(((s.heap.push (seqObj "list" #[] 0)).update s.heap.objs.size (Obj.mapSeq (· ++ D.toArray))).push (seqObj "list" D.toArray 0)).get? (s.heap.objs.size+1)=Yc (seqObj "list" D.toArray 0):=z▸O6 _ rfl;have keep:∀b o,s.heap.get? b=Yc o->b≠s.heap.objs.size+1/\(((s.heap.push (seqObj "list" #[] 0)).update s.heap.objs.size (Obj.mapSeq (· ++ D.toArray))).push (seqObj "list" D.toArray 0)).get? b=Yc o:=λb o q=>by
  have O:b<s.heap.objs.size:=O3 q;have U:b≠s.heap.objs.size:=Pb O;have G:b≠s.heap.objs.size+1:=Pb (Qa O);refine⟨G,?_⟩;rw[RD _ _ _ (by rw[z];exact G),RW _ _ _ _ U,RD _ _ _ U];exact q
 refine Calls.call_function_entry WR Wu Wv (Xm _) ?_;unfold Builtin.«sorted»;refine Uh (m:=Xe "sorted" 1 1 _) (Ur (Uh (Xn hl (Uh (Vo ?_ (by rw[UJ];omega))) (hsz:=by rw[UJ];omega))));show wpAny _ _ _ _ _ { s with heap:=((s.heap.push (seqObj "list" #[] 0)).update s.heap.objs.size (Obj.mapSeq (· ++ D.toArray))).push (seqObj "list" D.toArray 0) };rw[z];refine Uh (UD (UN slot_list_sort ⟨_,hL,rfl⟩ entry_list_sort (pG (fs:=fs) hr V Z hL h2 J (λh' hk=>?_) λout a1 a2=>⟨_,rfl,Ur ⟨_,rfl,h out a1 a2⟩⟩) (V5 _)));exact hT _ h' λb o q=>hk b o (keep b o q).1 (keep b o q).2
end
end nD
namespace L2
open PySem PySem.Spec PyProof.Rows nD
section
variable {X:Cx}
theorem kX(str:Bool):fW X (.builtin "sorted") (λxs H Q=>∃(p:Um) (D:List Um) (g:Um->Int),xs=[.ref p]/\aZ X.K H p (D.map V.ref)/\D.length<64/\(∀t∈D,∃vs,H t=Yc (.tup vs)/\ND str vs (g t)) /\
  ∀(Z:List Um) (l:Um),Z.Perm D->(Z.Pairwise λt u=>g t<=g u)->H l=none->Q (.ref l) (upd H l (.lst (Z.map V.ref)))):=by
 intro pins s σ H xs Z Q I r h;obtain⟨p,D,g,rfl,hq,O,ht,q⟩:=h;obtain⟨u,rfl,ru⟩:=r.one;cases ru;obtain⟨its,rv,pl,hz⟩:=I.list hq;obtain rfl:=uj rv;have G:∀t∈D,Pr s.heap str (.ref t) (g t):=λt J=>by
  obtain⟨vs,e1,e2⟩:=ht t J;exact L3 I e1 e2
 have Cj:H (s.heap.objs.size+1)=none:=I.bN.fresh (Q2 _);have fin:∀(out:Array Uj),out.toList.Perm (D.map Value.ref)->(out.toList.Pairwise λu v=>Jr s.heap str u<=Jr s.heap str v)->EP X pins σ Q (.ref (s.heap.objs.size+1)) { s with heap:=sortedAll s.heap (D.map Value.ref) out }:=λout a1 a2=>by
  obtain⟨U,e,hw⟩:=uk a1;obtain⟨c,he⟩:=sortedAll_at s.heap (D.map Value.ref) out;have hg:∀t∈U,Jr s.heap str (.ref t)=g t:=λt J=>DQ (G t (hw.mem_iff.mp J));have a3:U.Pairwise λt u=>g t<=g u:=by
   rw[e,Px]at a2;refine List.Pairwise.imp_of_mem (λ{x y} hx hy z=>?_) a2;rw[hg x hx,hg y hy]at z;exact z
  refine⟨.ref (s.heap.objs.size+1),_,I.laid (a:=s.heap.objs.size+1) (o:=.lst (U.map V.ref)) (t':=s.toks) (λb o=>sortedAll_old) (Q2 _) ⟨?_,out.toList,c,by rw[e];exact mJ U,by simpa[seqObj]using he⟩,rfl,q U _ hw a3 Cj⟩;rw[OH,hw.length_eq];have:=UJ;omega
 by_cases c:2<=D.length
 .letI:=Js s.heap str
  obtain⟨fs,k1,k2⟩:=kat_tups (h:=s.heap) (str:=str) D λt J=>⟨_,G t J⟩
  refine tu (fs:=fs) (rk:=Jr s.heap str) (T:=tyP str) (λp=>rfl) (by cases str <;> rfl) (by cases str <;> rfl) pl.isList (by rw[OH];exact c) (by rw[OH];exact O) (λA' h' hk=>?_) λout a1 a2=>fin out a1 a2;refine⟨rS hk k1,λv hv=>?_,λp hp=>?_,Gy hk⟩
  .rcases k2 v hv with⟨s1,i,u,rfl⟩|⟨s1,z,u,rfl⟩
   .subst s1;exact .now
   subst s1;exact .now
  have ez:(Vt (D.map Value.ref)).toList=(D.map Value.ref).zip (D.map Value.ref):=by unfold Vt;simp
  rw[ez]at hp;obtain⟨t,J,e⟩:=OO.mp (Ru hp).1;exact⟨g t,by rw[<-e];exact G t J⟩
 refine zo pl.isList (by rw[OH];omega) (fin _ (by simp) ?_)
 match D,c with
 |[],_=>exact List.Pairwise.nil
 |[t],_=>exact Sh _ _
 |_::_::_,c=>exact Us (by simp) c
end
end L2
set_option maxHeartbeats 4000000
namespace L2T
open PySem PySem.Spec PyProof.Rows L2
section
variable {X:Cx}{pins:List (Um×U6)}{σ:L2.St}{H:Hp}{A:UG}{E:Uj->Uq->Prop}{s:Uq}{a kS:Um}{vs:List Uj}{kz:List Int}{keys:Array Uj}{e e1:Nat}{P:PySem.Fin->Uq->Prop}
theorem xU{st:UZ}(I:Inv X pins σ H s)(na:s.heap.get? a=Yc (seqObj "list" #[] e1))(nk:s.heap.get? kS=Yc (seqObj "list" keys e))(G:kS≠a)(fa:iK X pins H a)(fk:iK X pins H kS)
  (V:Vc keys.toList kz) (hlen:kz.length=vs.length) (Z:vs.length<64) (hp:(arrOf st).Perm (keys.zip vs.toArray)) (hs:SortedTo (arrOf st) (arrOf st).size) (J:V3 st=none)
  (h:∀s' out c,Inv X pins σ H s'->s'.heap.get? a=Yc (seqObj "list" out c)->Yb false kz vs out.toList->P (.done (.ret .none)) s') :
  wpAny (model X.prog X.w) A (ksk_tail a false e1 (.ref kS) st) P E s:=by
 have hsz:keys.size=vs.length:=by
  have h1:=V.length;rw[Qf]at h1;omega
 have hsz2:(arrOf st).size=vs.length:=by rw[hp.size_eq,TM,hsz,OT,R5]
 have s1:=Heap.SameBut.update s.heap kS (Obj.mapSeq λ_=>(#[]:Array Uj));have D:(s.heap.update kS (Obj.mapSeq λ_=>(#[]:Array Uj))).get? a=Yc (seqObj "list" #[] e1):=(s1.2 a G.symm).trans na;have s2:=Heap.SameBut.update (s.heap.update kS (Obj.mapSeq λ_=>(#[]:Array Uj))) a (Obj.mapSeq λ_=>(arrOf st).map (·.2));obtain⟨c2,O⟩:∃c2,((s.heap.update kS (Obj.mapSeq λ_=>(#[]:Array Uj))).update a (Obj.mapSeq λ_=>(arrOf st).map (·.2))).get? a=Yc (seqObj "list" ((arrOf st).map (·.2)) c2):=
  ⟨_,get?_update_seq D λ_=>(arrOf st).map (·.2)⟩
 unfold ksk_tail
 try dsimp only
 refine Uh (Ve nk rfl ?_ (by rw[hsz,UJ];omega) (PH _));refine Uh (VR ?_);refine Uh (VS D rfl ?_);refine Uh (Ve D rfl ?_ (PH _) (by show((arrOf st).map (·.2)).size<=_;rw[TL,hsz2,UJ];omega));rw[J];simp only[bne_self_eq_false,PF,U1];obtain⟨f0,f1,f2,f3,f4,f5⟩:=fk;obtain⟨g0,g1,g2,g3,g4,g5⟩:=fa;have I1:Inv X pins σ H { s with heap:=s.heap.update kS (Obj.mapSeq λ_=>(#[]:Array Uj)),toks:=s.toks }:=I.turned (t':=s.toks) (λb o U q=>(s1.2 b U).trans q) f0 f1 f3 f4 f5;have I2:=I1.turned (h':=(s.heap.update kS (Obj.mapSeq λ_=>(#[]:Array Uj))).update a (Obj.mapSeq λ_=>(arrOf st).map (·.2))) (t':=s.toks) (λb o U q=>(s2.2 b U).trans q) g0 g1 g3 g4 g5;refine Ur (h _ _ c2 I2 O ?_);have z:=ksk_out (b:=false) V hp hs;simpa using z
theorem GA(I:Inv X pins σ H s)(na:s.heap.get? a=Yc (seqObj "list" #[] e1))(nk:s.heap.get? kS=Yc (seqObj "list" keys e))(U:kS≠a)(fa:iK X pins H a)(fk:iK X pins H kS)
  (V:Vc keys.toList kz) (hlen:kz.length=vs.length) (G:vs.length<64)
  (h:∀s' out c,Inv X pins σ H s'->s'.heap.get? a=Yc (seqObj "list" out c)->Yb false kz vs out.toList->P (.done (.ret .none)) s') :
  wpAny (model X.prog X.w) A (ksk_end a false vs.toArray e1 (.ref kS) keys) P E s:=by
 have hsz:keys.size=vs.length:=by
  have h1:=V.length;rw[Qf]at h1;omega
 have J:(keys.zip vs.toArray).size=vs.length:=by rw[TM,hsz,OT,R5]
 unfold ksk_end
 try dsimp only
 simp only[PF,U1];by_cases O:vs.toArray.size<2
 .rw[Uo O,Uo O];refine Uh (Ur ?_);rw[StateT.run_pure];refine Uh (Ur ?_)
  try dsimp only
  refine xU (st:=SortSt.mk' general' (keys.zip vs.toArray) #[] 7 none) I na nk U fa fk V hlen G (Array.Perm.refl _) ?_ rfl h;intro i j Jg hj;have Z:j<(keys.zip vs.toArray).size:=hj;rw[J]at Z;rw[OT]at O;have:i=j:=by omega
  subst this;exact RC _
 rw[Uk O,Uk O];rw[OT]at O;rw[ksk_kind V (by rw[hsz];omega)];refine Uh (Ur ?_);have fin:∀D,(arrOf D).Perm (keys.zip vs.toArray)->V3 D=none->SortedTo (arrOf D) (keys.zip vs.toArray).size->wpAny (model X.prog X.w) A (ksk_tail a false e1 (.ref kS) D) P E s:=λD hp hf hs =>
  xU I na nk U fa fk V hlen G hp (by rw[hp.size_eq];exact hs) hf h
 refine Uh (UX (wpS_sortRuns (a₀:=keys.zip vs.toArray) (st:=SortSt.mk' oneType' (keys.zip vs.toArray) #[] 7 none)
  (Q:=λ_ D=>(arrOf D).Perm (keys.zip vs.toArray)/\V3 D=none/\SortedTo (arrOf D) (keys.zip vs.toArray).size)
  (ksk_intKeys V) ⟨Array.Perm.refl _,rfl,rfl,rfl⟩ (by rw[J];omega) (by rw[J];exact G) λD a1 a2 a3=>⟨a1,a2,a3⟩) ?_ λ_ _ e=>e)
 rintro⟨⟨⟩,D⟩ s' ⟨rfl,hp,hf,hs⟩;exact fin D hp hf hs
def vB(X:Cx)(σ:L2.St)(H:Hp)(A:UG)(f v:Uj)(k:Int):Prop:=∀(pins:List (Um×U6)) (s:Uq),Inv X pins σ H s ->
 wpAny (model X.prog X.w) A (call f [v]) (λu s'=>(∃t,u=.int k t)/\Inv X pins σ H s') (λ_ _=>False) s
theorem DV{f:Uj}(I:Inv X pins σ H s)(na:s.heap.get? a=Yc (seqObj "list" #[] e1))(nk:s.heap.get? kS=Yc (seqObj "list" #[] 0))(Z:kS≠a)(fa:iK X pins H a)(fk:iK X pins H kS)
  (hlen:kz.length=vs.length) (Ju:vs.length<64) (turn:∀(i:Nat) (v:Uj) (k:Int),vs[i]?=Yc v->kz[i]?=Yc k->vB X σ H A f v k)
  (h:∀s' out c,Inv X pins σ H s'->s'.heap.get? a=Yc (seqObj "list" out c)->Yb false kz vs out.toList->P (.done (.ret .none)) s') :
  wpAny (model X.prog X.w) A (ksk_rest a f false vs.toArray e1 (.ref kS)) P E s:=by
 unfold ksk_rest;refine Uh (Vq ?_)
 first
  |rw[List.forIn_toArray]
  |(rw[<-Rc];simp only[List.toList_toArray])
  |rw[<-Rc]
 refine Uh (ksk_fold (λi s'=>∃D e,Inv X pins σ H s'/\s'.heap.get? a=Yc (seqObj "list" #[] e1)/\s'.heap.get? kS=Yc (seqObj "list" D e)/\Vc D.toList (kz.take i)) vs 0 s
  ⟨#[],0,I,na,nk,by simpa using IntsAre.nil⟩ ?step ?done)
 case step =>
  rintro j x s' hx ⟨D,e,I',J,G,V⟩;simp only[Qh]at V⊢;have hj:j<vs.length:=(OI.mp hx).1;obtain⟨k,hkj⟩:∃k,kz[j]?=Yc k:=⟨_,OG (by omega)⟩
  have hz:D.size<=vs.length:=by
   have h1:=V.length;rw[Qf,Pu]at h1;omega
  have I2:Inv X (pins++[(a,seqObj "list" #[] e1),(kS,seqObj "list" D e)]) σ H s':=I'.uN λp hp=>by
   rcases OY.mp hp with hp|hp
   .exact I'.pin p (OZ _ hp)
   rcases O9.mp hp with rfl|hp
   .exact⟨J,fa.1,fa.2.1,fa.2.2.1,λv z=>by cases z⟩
   rw[OS.mp hp];exact⟨G,fk.1,fk.2.1,fk.2.2.1,λv z=>by cases z⟩
  refine Uh (Vd (UX (turn j x k hx hkj _ s' I2) (λv O he=>?_) λ_ _ hF=>hF.elim));obtain⟨⟨U,rfl⟩,I3⟩:=he
  try dsimp only
  have na3:=(I3.pin (a,seqObj "list" #[] e1) (OZ _ (OZ _ (.head _)))).1;have nk3:=(I3.pin (kS,seqObj "list" D e) (OZ _ (OZ _ (.tail _ (.head _))))).1;have I4:=I3.jl;have s1:=Heap.SameBut.update O.heap kS (Obj.mapSeq (·.push (.int k U)));obtain⟨c2,hc2⟩:∃c2,(O.heap.update kS (Obj.mapSeq (·.push (.int k U)))).get? kS=Yc (seqObj "list" (D.push (.int k U)) c2):=⟨_,get?_update_seq nk3 (·.push (.int k U))⟩
  have ek:kz.take (j+1)=kz.take j++[k]:=by rw[Sd,hkj];simp
  have ea:(D.push (Value.int k U)).toList=D.toList++[Value.int k U]:=by simp
  refine Uh (Ve nk3 rfl ?_ (by rw[UJ];omega) (PD (R0 (Array.size_push ..)) (by rw[UJ];omega)));obtain⟨f0,f1,f2,f3,f4,f5⟩:=fk;refine Ur ⟨rfl,D.push (.int k U),c2,I4.turned (t':=O.toks) (λb o hb q=>(s1.2 b hb).trans q) f0 f1 f3 f4 f5,(s1.2 a Z.symm).trans na3,hc2,by rw[ea,ek];exact ksk_snoc V⟩
 case done =>
  rintro s' ⟨D,e,I',J,G,V⟩;have hk':Vc D.toList kz:=by
   have e3:kz.take (0+vs.length)=kz:=List.take_of_length_le (by omega);rw[e3]at V;exact V
  try dsimp only
  refine Uh (Wt G rfl ?_);exact GA I' J G Z fa fk hk' hlen Ju h
theorem DW{f:Uj}{n:Nat}(I:Inv X pins σ H s)(O:s.heap.get? a=Yc (seqObj "list" vs.toArray n))(fa:iK X pins H a)
  (hlen:kz.length=vs.length) (D:vs.length<64) (turn:∀(i:Nat) (v:Uj) (k:Int),vs[i]?=Yc v->kz[i]?=Yc k->vB X σ H A f v k)
  (h:∀s' out c,Inv X pins σ H s'->s'.heap.get? a=Yc (seqObj "list" out c)->Yb false kz vs out.toList->P (.done (.ret .none)) s') :
  wpAny (model X.prog X.w) A (ksk_tree a f false) P E s:=by
 have U:a<s.heap.objs.size:=O3 O;have V:=Heap.SameBut.update s.heap a (Obj.mapSeq λ_=>(#[]:Array Uj));obtain⟨e1,G⟩:∃e1,(s.heap.update a (Obj.mapSeq λ_=>(#[]:Array Uj))).get? a=Yc (seqObj "list" #[] e1):=⟨_,get?_update_seq O λ_=>#[]⟩
 have J:((s.heap.update a (Obj.mapSeq λ_=>(#[]:Array Uj))).push (seqObj "tuple" vs.toArray 0)).objs.size=s.heap.objs.size+1:=by rw[Xd,RN]
 obtain⟨Z,g1,g2,g3,g4,g5⟩:=id fa;have I1:Inv X pins σ H { s with heap:=s.heap.update a (Obj.mapSeq λ_=>(#[]:Array Uj)),toks:=s.toks }:=I.turned (t':=s.toks) (λb o hb q=>(V.2 b hb).trans q) Z g1 g3 g4 g5;have I2:Inv X pins σ H { s with heap:=((s.heap.update a (Obj.mapSeq λ_=>(#[]:Array Uj))).push (seqObj "tuple" vs.toArray 0)).push (seqObj "list" #[] 0),toks:=s.toks }:=I1.kept (t':=s.toks) λb o q=>OJ _ (OJ _ q);unfold ksk_tree;refine Uh (Wt O rfl ?_);refine Uh (Ve O rfl ?_ (by rw[OT,UJ];omega) (PH _));refine Uh (VS G rfl ?_);refine Uh (V2 ?_ (by show vs.length<=_;rw[UJ];omega));refine Uh (Vo ?_ (PH _));refine UD ?_;have fk:iK X pins H ((s.heap.update a (Obj.mapSeq λ_=>(#[]:Array Uj))).push (seqObj "tuple" vs.toArray 0)).objs.size:=by
  rw[J];exact I.uP (Q2 _) (I.bN.fresh (Q2 _))
 refine DV (s:={ s with heap:=((s.heap.update a (Obj.mapSeq λ_=>(#[]:Array Uj))).push (seqObj "tuple" vs.toArray 0)).push (seqObj "list" #[] 0) }) (kS:=((s.heap.update a (Obj.mapSeq λ_=>(#[]:Array Uj))).push (seqObj "tuple" vs.toArray 0)).objs.size)
  I2 (OJ _ (OJ _ G)) (O6 _ rfl) (by rw[J];exact QS (Qa U)) fa fk hlen D turn h
end
section
variable {X:Cx}{pins:List (Um×U6)}{σ:L2.St}{H:Hp}{E:Uj->Uq->Prop}{s:Uq}{A:UG}{l:Um}{vs:List Uj}{kz:List Int}{Q:Uj->Uq->Prop}
theorem zu{q:Um}(I:Inv X pins σ H s)(U:s.heap.IsList l vs.toArray)(hlen:kz.length=vs.length)(J:vs.length<64)
  (turn:∀(i:Nat) (v:Uj) (k:Int),vs[i]?=Yc v->kz[i]?=Yc k->vB X σ H A.in1.in1 (.ref q) v k)
  (h:∀D s' out c,Inv X pins σ H s'->s'.heap.get? D=Yc (seqObj "list" out c)->iK X pins H D->Yb false kz vs out.toList->Q (.ref D) s') :
  wpAny (model X.prog X.w) A (call (.builtin "sorted") [.ref l] [(Str.ofString "key",.ref q)]) Q E s:=by
 refine call_function_entry_kw WR Wu Wv (ksk_s1 _ _) ?_;unfold Builtin.«sorted»;refine Uh (m:=Xe "sorted" 1 1 _) (Ur ?_);refine Uh (Xn U ?_ (by rw[UJ];omega));refine Uh (Vo ?_ (by rw[UJ];omega));have hsz:((s.heap.push (seqObj "list" #[] 0)).update s.heap.objs.size (Obj.mapSeq (· ++ vs.toArray))).objs.size=s.heap.objs.size+1:=by
  rw[RN,Xd]
 have O:(((s.heap.push (seqObj "list" #[] 0)).update s.heap.objs.size (Obj.mapSeq (· ++ vs.toArray))).push (seqObj "list" vs.toArray 0)).get? (s.heap.objs.size+1)=Yc (seqObj "list" vs.toArray 0):=by
  rw[<-hsz];exact O6 _ rfl
 have keep:∀b o,s.heap.get? b=Yc o->(((s.heap.push (seqObj "list" #[] 0)).update s.heap.objs.size (Obj.mapSeq (· ++ vs.toArray))).push (seqObj "list" vs.toArray 0)).get? b=Yc o:=λb o q=>by
  have G:b<s.heap.objs.size:=O3 q;rw[RD _ _ _ (by rw[hsz];exact Pb (Qa G)),RW _ _ _ _ (Pb G),RD _ _ _ (Pb G)];exact q
 show wpAny _ _ _ _ _ { s with heap:=((s.heap.push (seqObj "list" #[] 0)).update s.heap.objs.size (Obj.mapSeq (· ++ vs.toArray))).push (seqObj "list" vs.toArray 0) };rw[hsz];refine Uh (UD (wpAny_call_entry_kw slot_list_sort ⟨_,O,rfl⟩ entry_list_sort ?body (ksk_l1 _ _)))
 case body =>
  show wpAny (model X.prog X.w) A.in1.in1 (Builtin.«list.sort» ⟨[.ref (s.heap.objs.size+1)],[(Str.ofString "key",.ref q)]⟩) _ _ _;rw[ksk_t1];refine DW (s:={ s with heap:=((s.heap.push (seqObj "list" #[] 0)).update s.heap.objs.size (Obj.mapSeq (· ++ vs.toArray))).push (seqObj "list" vs.toArray 0) }) (I.kept (t':=s.toks) keep) O (I.uP (Q2 _) (I.bN.fresh (Q2 _))) hlen J turn λV out c Z n3 k3=>⟨_,rfl,?_⟩
  exact Ur ⟨_,rfl,h _ V out c Z n3 (I.uP (Q2 _) (I.bN.fresh (Q2 _))) k3⟩
end
end L2T
namespace L2
open PySem PySem.Spec PyProof.Rows
section
variable {X:Cx}
def GB(K:OM)(sp:Sp)(O:TA):TE:=λσ H Q=>O σ H λU D=>∃(l:Um) (xs:List V) (kz:List Int),U=[.ref l]/\aZ K D l xs/\kz.length=xs.length/\xs.length<64 /\
 (∀(i:Nat) (v:V) (k:Int),xs[i]?=Yc v->kz[i]?=Yc k->∀J:VK,J (.int k) D->sp [v] D J (λ_ _ _=>False)) /\
 ∀(l':Um) (G:List (Int×V)),G.Perm (kz.zip xs)->G.Pairwise (λp q=>p.1<=q.1)->D l'=none->Q (.ref l') (upd D l' (.lst (G.map (·.2))))
theorem BS{x:UI}{st:Vp}{p1:UI}{f:Um}{fd:Uz}{k:Nat}{sp:Sp}{e:UM}{t:TA}{p pos kp np:VJ}(hg:Gl X "sorted")(hm:X.mg "sorted" = none)(G:aO X.prog X.w X.K X.mg X.base du k f fd [p1] sp)(F:Fn X.K X.mg x st [p1] f fd)(hr:eI (k+2) X.A)(ha:PA X [e] t)
  (hgx:Gl X x:=by rfl) (IW:(x==("__debug__":UI))=false:=by decide) (hs:UC [e] X.env=[(false,eval e X.env)]:=by rfl) :
  PE X (.Call (.Name "sorted" p) [e] [⟨Yc "key",.Name x np,kp⟩] pos) (GB X.K sp t):=by
 intro pins s σ H Q I h;refine Vj (my I hg hm lD ?_);refine TN (rest:=[]) (cF (ha pos pins s σ H _ I h) λus s1 ⟨vs,H1,I1,r1,q1⟩=>?_) (by rw[hs];rfl) (by rw[hs];rfl) rfl rfl;refine cF (FL (nm:=Yc "key") (kpos:=kp) (i4 (v:=.ref f) hgx F.g rfl IW) Iv pos pins s1 σ H1 _ I1 (show tV (tC (.ref f)) FK σ H1 (λzs V=>zs=[.ref f]/\V=H1)from⟨rfl,rfl⟩)) λks s2 zq=>?_;obtain⟨zs,V,I2,rz,q2⟩:=zq;obtain⟨rfl,e2⟩:=q2;subst e2;obtain⟨ku,rfl,rk⟩:=rz.one;cases rk;obtain⟨l,xs,kz,rfl,hq,hlen,Ju,hk,q⟩:=q1;obtain⟨lu,rfl,rl⟩:=r1.one;cases rl;show wpAny _ _ (call (.builtin "sorted") [.ref l] [(Str.ofString "key",.ref f)]) _ _ _;obtain⟨its,rv,pl,hz⟩:=I2.list hq;have hli:=rv.length;refine L2T.zu (kz:=kz) I2 pl.isList (by omega) (by omega) (λi v kk hv hki=>?_) λD s3 out c I3 hD fD ho=>?_
 .intro ac2 s' I';obtain⟨hi,ei⟩:=OI.mp hv;obtain⟨y,hy,ry⟩:=ir rv (show i<its.toArray.size by rw[OT];exact hi);have ry:RelV y v:=by
   have z:its.toArray[i]'(by rw[OT];exact hi)=its[i]:=by simp
   rw[z,ei]at ry;exact ry
  have Fi:=hk i y kk hy hki (λv' H'=>v'=.int kk/\H'=V) ⟨rfl,rfl⟩;refine Wj (VD (G.run X.A.in1.in1 X.stack s' V ⟨[v],[]⟩ [v] [y] _ _ hr.in1.in1 I'.Ir.in1.in1 (F.b s' [v] I'.Bi rfl) (.cons ry .nil) Fi) λr s'' J=>?_);cases r with
  |error e=>exact J.elim
  |ok fl =>
   cases fl with
   |ret u =>
    obtain⟨y',H',I'',ry',rfl,rfl⟩:=I'.after J;exact⟨ry',I''⟩
   |next=>exact False.elim J
   |brk=>exact False.elim J
   |cont=>exact False.elim J
 obtain⟨ps,hp,ho2,hpw⟩:=ho;obtain⟨U,Z,hqa⟩:=DD hp (AH rv kz);have aay:=AI hqa;have O:Vals (U.map (·.2)) out.toList:=by rw[ho2];exact xA hqa
 have aaz:U.Pairwise λp q=>p.1<=q.1:=by
  have z:(ps.map (·.1)).Pairwise (·<=·):=by rw[Px];exact hpw.imp λh=>by simpa using h
  rw[aay,Px]at z;exact z
 have HC:(U.map (·.2)).length<=sizeLine:=by
  rw[OH,Z.length_eq,TF];have:=UJ;omega
 exact⟨.ref D,_,I3.adopt fD (show cQ X.prog X.w (upd V D (.lst (U.map (·.2)))) s3.heap D (.lst (U.map (·.2)))from⟨HC,out.toList,c,O,by simpa[seqObj]using hD⟩),rfl,q D U Z aaz fD.1⟩
end
end L2
namespace aI
open PySem L2
noncomputable def lf(x:Th.Kd×Nat):List V:=[.str (ks x.1),.int (x.2:Nat)]
noncomputable def both(l:List Th.Kd):Bool:=decide (Th.Kd.bare∈l)&&decide (Th.Kd.tied∈l)
theorem iD(k:Th.Kd):∀l:List Th.Kd,Hs (.str (ks k)) (l.map λx=>V.str (ks x))=decide (k∈l)
 |[]=>rfl
 |y::r=>by
  have D:=iD k r;unfold Hs at D⊢;rw[Po,Rv,D];show((ks y==ks k)||decide (k∈r))=decide (k∈y::r);by_cases c:k=y
  .subst c;rw[Ul (O2 (a:=k) (l:=r)),US,TY]
  have G:(ks y==ks k)=false:=by
   rw[beq_eq_false_iff_ne];exactλz=>c (oM _ _ z).symm
  rw[G,TQ];exact decide_eq_decide.mpr ⟨λz=>O1 _ z,λz=>(O9.mp z).resolve_left c⟩
theorem iP(l:List Th.Kd):(l.map λx=>V.str (ks x)).all j6=true:=by
 rw[Rq];intro v D;obtain⟨x,_,rfl⟩:=OO.mp D
 rfl
theorem fq.L5{α:Type}{f:α->List V}{H H':Hp}{l d:Um}{xs:List α}{J:List (Key×V)}(h:fq f H l xs)(hd:H d=Yc (.dK J))(s:∀c o,c≠d->H c=Yc o->H' c=Yc o):fq f H' l xs:=by
 obtain⟨O,D,U,G⟩:=h;exact⟨O,s _ _ (λz=>by rw[z,hd]at D;cases D) D,U,λi t x e1 e2=>s _ _ (λz=>by have q:=G i t x e1 e2;rw[z,hd]at q;cases q) (G i t x e1 e2)⟩
noncomputable def cC(n:Nat)(ms os:List Nat)(i:Nat):List (Th.Kd×Nat):=(Th.LL (ar ms) (ar os) i).map λm=>(Th.kd (ar ms) (ar os) m,Th.lack (2*n) (ar ms) (ar os) m)
open Classical in
theorem rW(n:Nat)(ms os:List Nat)(i:Nat):cC n ms os (i+1)=cC n ms os i++(if Th.bB (ar ms) (ar os) i then[(Th.kd (ar ms) (ar os) i,Th.lack (2*n) (ar ms) (ar os) i)]else[]):=by
 unfold cC;rw[Th.Gx,O5];congr 1
 split <;> rfl
theorem uo(n:Nat)(ms os:List Nat)(i:Nat):(cC n ms os i).length<=i:=by unfold cC;rw[OH];exact Th.Jj i
theorem bW.lacks{n:Nat}{ms os:List Nat}{D:List (Th.Kd×List Nat)}(W:ak n ms)(G:ak n os)(h:bW n ms os D):D.map (λth=>(th.1,Th.cT th))=cC n ms os (2*n):=Th.BP (bJ W G) h.1 h.2
variable (K:OM)
def fK(C:Um):Sp:=λG H Q E=>∃(a b:Um) (n m:Nat) (ms os:List Nat),G=[.ref a,.ref b]/\n<=31/\br K H a (nV ms)/\ak n ms/\br K H b (nV os)/\os.length=2*m /\
 (n=m->ak n os/\∀(l:Um) (H':Hp) (D:List (Th.Kd×List Nat)),aE H H'->bW n ms os D->nI H' l D->H l=none->Q (.ref l) H')/\(n≠m->E (.ref C) none H)
def xV(C:Um):Sp:=λD H Q E=>∃(a b:Um) (n m:Nat) (ms os:List Nat),D=[.ref a,.ref b]/\n<=31/\br K H a (nV ms)/\ak n ms/\br K H b (nV os)/\os.length=2*m /\
 (n=m->ak n os/\∀H':Hp,aE H H'->Q (.int (Th.score (ar ms) (ar os) (2*n):Nat)) H')/\(n≠m->E (.ref C) none H)
def xW(C:Um):Sp:=λD H Q E=>∃(a b:Um) (n m:Nat) (ms os:List Nat),D=[.ref a,.ref b]/\n<=31/\br K H a (nV ms)/\ak n ms/\br K H b (nV os)/\os.length=2*m /\
 (n=m->ak n os/\∀H':Hp,aE H H'->Q (.int (aC n ms os:Nat)) H')/\(n≠m->E (.ref C) none H)
def GD:Sp:=λD H Q _=>∃(a b:Um) (n:Nat) (ms os:List Nat),D=[.ref a,.ref b]/\H a=Yc (.lst (nV ms))/\ak n ms/\H b=Yc (.lst (nV os))/\ak n os /\
 ∀(l:Um) (H':Hp),aE H H'->fq lf H' l (cC n ms os (2*n))->Q (.ref l) H'
def GG:Sp:=λD H Q _=>∃(l:Um) (xs:List (Th.Kd×Nat)),D=[.ref l]/\fq lf H l xs/\xs.length<=100/\∀H':Hp,aE H H'->Q (.bl (both (xs.map (·.1)))) H'
def vC:Sp:=λG H Q _=>∃(l:Um) (D:List (Th.Kd×List Nat)),G=[.ref l]/\nI H l D/\D.length<=100/\∀H':Hp,aE H H'->Q (.bl (both (D.map (·.1)))) H'
def xX:Sp:=λD H Q _=>∃(t e:Um) (k:Th.Kd) (L:List Nat),D=[.ref t]/\H t=Yc (.tup [.str (ks k),.ref e])/\H e=Yc (.tup (nV L))/\(k=.ring->2<=L.length)/\Q (.int (Th.cT (k,L):Nat)) H
def zx:Sp:=λG H Q _=>∃(l:Um) (D:List Nat),G=[.ref l]/\H l=Yc (.lst (nV D))/\D.sum<=12/\Q (.int (Th.jN 1 0 D:Nat)) H
def uq:Sp:=λD H Q _=>∃(s c:Nat),D=[.int ((s+c:Nat):Int),.int (c:Nat)]/\s+c<=12/\Q (.int (Th.ch (s+c) c:Nat)) H
def DX:Sp:=λD H Q _=>∃(c:Nat),D=[.int (c:Nat)]/\c<=12/\Q (.int ((c+1) ^ (c-1):Nat)) H
def aP(n:Nat)(ms os:List Nat):Prop:=both ((cC n ms os (2*n)).map (·.1))=false
noncomputable def mh(n:Nat)(ms os:List Nat):Nat:=Th.jN 1 0 ((cC n ms os (2*n)).map (·.2))
end aI
namespace L2
open PySem PySem.Spec PyProof.Rows
theorem BU{X:Cx}{K:OM}(O:X.K=K)(D:X.A.units<cLine):kA X (UQ .Eq) (λx y H Q=>∃(a b:Um) (xs:List V),x=.ref a/\y=.ref b/\aZ K H a xs/\aZ K H b []/\Q (.bl (decide (xs.length=0))) H):=by
 subst O;intro pins s σ H x y v u Q I U Z h;obtain⟨a,b,xs,rfl,rfl,ha,hb,q⟩:=h;cases U;cases Z;obtain⟨i1,r1,G,z1⟩:=I.list ha;obtain⟨i2,r2,J,z2⟩:=I.list hb;have l1:xs.length=i1.length:=r1.length;have l2:0=i2.length:=r2.length;by_cases c:xs.length=0
 .refine SeqAt.eq_listAt (e:=λj=>true) G.isList J.isList (by simp only[OT];omega) D (λj h1 h2=>?_) ⟨.bl (decide (xs.length=0)),H,I,?_,q⟩
  .exfalso;simp only[OT]at h1;omega
  show Value.bool _=Value.bool _;congr 1;rw[Ul c];exact Rq.mpr λ_ _=>rfl
 refine SeqAt.eq_list_lengthsAt G.isList J.isList (by simp only[OT,bne_iff_ne];omega) D ⟨.bl (decide (xs.length=0)),H,I,?_,q⟩;show Value.bool _=Value.bool _;rw[Up c]
end L2
namespace aI
open PySem L2
open Classical
section
variable {n:Nat}{ms os:List Nat}{l:List (Nat×Nat)}{G:List (List Key×V)}
theorem Jv(D:n<=5):(kU (2*n) (2*n)).length<=55:=by
 have h:n=0\/n=1\/n=2\/n=3\/n=4\/n=5:=by omega
 rcases h with rfl|rfl|rfl|rfl|rfl|rfl <;> decide
end
variable (K:OM)
noncomputable def dG(n:Nat)(os ms:List Nat):List (Nat×Nat):=rT n ms os (kU (2*n) (2*n))
section
variable {n:Nat}{ms os:List Nat}
theorem cO{c:Nat×Nat}(h:c∈dG n os ms):c.1<=c.2/\c.2<2*n/\ar ms c.1≠c.2/\aC n (bM ms c.1 c.2) os+1=aC n ms os:=by
 unfold dG rT at h;rw[O0,jv,Uy]at h;exact⟨h.1.2.1,h.1.2.2,h.2.1,h.2.2.2⟩
end
variable (K:OM)
end aI
namespace gC
open Th Classical
structure dJ(N:Nat) (a b a' b' φ ψ:Nat->Nat):Prop where
 T:cv N a b
 T':cv N a' b'
 pl:∀x,x<N->φ x<N
 ql:∀x,x<N->ψ x<N
 qp:∀x,x<N->ψ (φ x)=x
 pq:∀x,x<N->φ (ψ x)=x
 fa:∀x,x<N->φ (a x)=a' (φ x)
 fb:∀x,x<N->φ (b x)=b' (φ x)
noncomputable def kc:Kd->Nat
 |.ring=>0
 |.odd=>1
 |.bare=>2
 |.tied=>3
section
variable {N:Nat}{a b a' b' φ ψ:Nat->Nat}
theorem dJ.symm(I:dJ N a b a' b' φ ψ):dJ N a' b' a b ψ φ where
 T:=I.T'
 T':=I.T
 pl:=I.ql
 ql:=I.pl
 qp:=I.pq
 pq:=I.qp
 fa:=λy D=>by
  have G:=I.ql y D;have J:=I.fa _ G;rw[I.pq y D]at J;rw[<-J,I.qp _ (I.T.fl _ G)]
 fb:=λy D=>by
  have G:=I.ql y D;have J:=I.fb _ G;rw[I.pq y D]at J;rw[<-J,I.qp _ (I.T.gl _ G)]
theorem dJ.inj(I:dJ N a b a' b' φ ψ){x y:Nat}(D:x<N)(G:y<N):φ x=φ y↔x=y :=
 ⟨λh=>by rw[<-I.qp x D,h,I.qp y G],λh=>by rw[h]⟩
theorem dJ.to(I:dJ N a b a' b' φ ψ){x y:Nat}(D:x<N)(c:aB a b x y):aB a' b' (φ x) (φ y):=
 (c (λz=>z<N/\aB a' b' (φ x) (φ z)) ⟨D,aB.refl _⟩ λz ⟨hz,q⟩=>⟨⟨I.T.fl z hz,by rw[I.fa z hz];exact q.sf⟩,⟨I.T.gl z hz,by rw[I.fb z hz];exact q.sg⟩⟩).2
theorem dJ.conn(I:dJ N a b a' b' φ ψ){x y:Nat}(D:x<N)(G:y<N):aB a b x y↔aB a' b' (φ x) (φ y):=
 ⟨I.to D,λc=>by have z:=I.symm.to (I.pl x D) c;rwa[I.qp x D,I.qp y G]at z⟩
theorem dJ.la(I:dJ N a b a' b' φ ψ){x:Nat}(D:x<N):a x=x↔a' (φ x)=φ x:=by rw[<-I.fa x D,I.inj (I.T.fl x D) D]
theorem dJ.lb(I:dJ N a b a' b' φ ψ){x:Nat}(D:x<N):b x=x↔b' (φ x)=φ x:=by rw[<-I.fb x D,I.inj (I.T.gl x D) D]
theorem dJ.DY(I:dJ N a b a' b' φ ψ){x:Nat}(D:x<N)(h:cI a b x):cI a' b' (φ x):=by
 obtain⟨u,c,e⟩:=h;exact⟨φ u,I.to D c,(I.la (c.lt I.T D)).mp e⟩
theorem dJ.DZ(I:dJ N a b a' b' φ ψ){x:Nat}(D:x<N)(h:c6 a b x):c6 a' b' (φ x):=by
 obtain⟨u,c,e⟩:=h;exact⟨φ u,I.to D c,(I.lb (c.lt I.T D)).mp e⟩
theorem dJ.GH(I:dJ N a b a' b' φ ψ){x:Nat}(D:x<N):cI a b x↔cI a' b' (φ x):=⟨I.DY D,λh=>by have z:=I.symm.DY (I.pl x D) h;rwa[I.qp x D]at z⟩
theorem dJ.GI(I:dJ N a b a' b' φ ψ){x:Nat}(D:x<N):c6 a b x↔c6 a' b' (φ x):=⟨I.DZ D,λh=>by have z:=I.symm.DZ (I.pl x D) h;rwa[I.qp x D]at z⟩
theorem AU{x:Nat}:fZ a b x↔cI a b x/\c6 a b x:=Iff.rfl
theorem dJ.kd(I:dJ N a b a' b' φ ψ){x:Nat}(D:x<N):kd a b x=kd a' b' (φ x):=by
 have e2:cI a b x=cI a' b' (φ x):=propext (I.GH D);have e3:c6 a b x=c6 a' b' (φ x):=propext (I.GI D);have e1:fZ a b x=fZ a' b' (φ x):=propext (by rw[AU,AU,e2,e3]);unfold Th.kd;simp only[e1,e2,e3]
theorem dJ.D0(I:dJ N a b a' b' φ ψ){x:Nat}(D:x<N):(eF N a b x).length<=(eF N a' b' (φ x)).length:=by
 have C:=kR I.T D;have J:=kR I.T' (I.pl x D);refine m7 φ C.nd (λu G v O e=>?_) λu G=>?_
 .exact(I.inj (((C.mem u).mp G).lt I.T D) (((C.mem v).mp O).lt I.T D)).mp e
 exact(J.mem _).mpr (I.to D ((C.mem u).mp G))
theorem dJ.len(I:dJ N a b a' b' φ ψ){x:Nat}(D:x<N):(eF N a b x).length=(eF N a' b' (φ x)).length:=by
 have J:=I.D0 D;have G:=I.symm.D0 (I.pl x D);rw[I.qp x D]at G;omega
theorem dJ.perm(I:dJ N a b a' b' φ ψ):((OV N).map φ).Perm (OV N):=by
 refine(P0 (eY PL λx G y D e=>(I.inj (OX.mp G) (OX.mp D)).mp e) PL).mpr λy=>?_;rw[OO,OX];constructor
 .rintro⟨x,G,rfl⟩;exact I.pl x (OX.mp G)
 intro D;exact⟨ψ y,OX.mpr (I.ql y D),I.pq y D⟩
theorem nM{l m:List Nat}(h:l.Perm m):l.sum=m.sum:=h.sum_nat
theorem dJ.whole(I:dJ N a b a' b' φ ψ){x:Nat}(D:x<N)(h:bq a b x):bq a' b' (φ x):=λy c=>by
 have G:=c.lt I.T' (I.pl x D);have z:=I.symm.to (I.pl x D) c;rw[I.qp x D]at z;obtain⟨J,O⟩:=h _ z;exact⟨λe=>J ((I.symm.la G).mp e),λe=>O ((I.symm.lb G).mp e)⟩
theorem dJ.HD(I:dJ N a b a' b' φ ψ):(OL a b N).length<=(OL a' b' N).length:=by
 refine m7 φ Df (λu G v J e=>(I.inj (fI.mp G).1 (fI.mp J).1).mp e) λu G=>?_;obtain⟨D,O,z,c,U⟩:=fI.mp G;exact fI.mpr ⟨I.pl u D,(I.la D).mp O,φ z,I.to D c,(I.lb (c.lt I.T D)).mp U⟩
noncomputable def lst(N:Nat)(a b:Nat->Nat)(x:Nat):Nat:=if h:∃m,aB a b x m/\m<N/\bB a b m then Sl h else 0
theorem lst_is(T:cv N a b){x:Nat}(D:x<N):aB a b x (lst N a b x)/\lst N a b x<N/\bB a b (lst N a b x):=by
 have h:=kK T D;unfold lst;rw[Wr h];exact QB h
theorem dJ.HE(I:dJ N a b a' b' φ ψ):(RL a b N).length<=(RL a' b' N).length:=by
 refine m7 (λu=>lst N a' b' (φ u)) As (λu G v U e=>?_) λu G=>?_
 .obtain⟨D,J,O⟩:=bI.mp G;obtain⟨k1,k2,k3⟩:=bI.mp U;have c1:=(lst_is I.T' (I.pl u D)).1;have c2:=(lst_is I.T' (I.pl v k1)).1;have c:aB a b u v:=(I.conn D k1).mpr (c1.trans (by rw[e];exact c2.symm I.T' (I.pl v k1)));have z1:=J v c;have z2:=k2 u (c.symm I.T D);omega
 obtain⟨D,J,O⟩:=bI.mp G;obtain⟨c,V,Z⟩:=lst_is I.T' (I.pl u D);exact bI.mpr ⟨V,Z,(I.whole D O).of I.T' (I.pl u D) c⟩
theorem dJ.score(I:dJ N a b a' b' φ ψ):score a b N=score a' b' N:=by
 have D:=I.HD;have G:=I.symm.HD;have J:=I.HE;have O:=I.symm.HE;unfold Th.score;omega
theorem dJ.bM(I:dJ N a b a' b' φ ψ){p q x:Nat}(hp:p<N)(D:q<N)(G:x<N):φ (aI.cG a p q x)=aI.cG a' (φ p) (φ q) (φ x):=by
 have J:=I.T.fl p hp;have O:=I.T.fl q D;have e1:=I.inj hp D;have e2:=I.inj G hp;have e3:=I.inj G D;have e4:=I.inj G J;have e5:=I.inj G O;have e6:=I.inj O D;have e7:=I.inj J hp;have U:=I.fa p hp;have V:=I.fa q D;have Z:=I.fa x G;unfold aI.cG;rw[<-U,<-V,<-Z];simp only[e1,e2,e3,e4,e5,e6,e7,ne_eq]
 repeat' split
 all_goals first|rfl|exact U|exact V|exact Z
end
open aI
noncomputable def iQ(n:Nat)(os ms:List Nat):List (List Nat):=(dG n os ms).map λc=>bM ms c.1 c.2
section
variable {n:Nat}{ms os:List Nat}
theorem qC(W:ak n ms){w:List Nat}:w∈iQ n os ms↔(∃p q,kQ n ms w p q)/\aC n w os+1=aC n ms os:=by
 unfold iQ;rw[OO];constructor
 .rintro⟨c,hc,rfl⟩;obtain⟨G,J,O,U⟩:=cO hc;exact⟨⟨c.1,c.2,G,J,O,rfl⟩,U⟩
 rintro⟨⟨p,q,G,J,O,rfl⟩,U⟩;have L:=iw W G J O;obtain⟨⟨V,Z,l3,D⟩,hm⟩:=L;refine⟨eo ms p q,?_,D⟩;unfold dG rT;rw[O0,jv,Uy];refine⟨⟨by omega,V,Z⟩,l3,?_,by rw[D];exact U⟩;have L2:=iw W V Z l3;rw[D]at L2;obtain⟨z1,z2⟩:=L2.uniq ⟨⟨V,Z,l3,D⟩,hm⟩;exact R4 z1 z2
theorem Ea:(dG n os ms).Nodup:=by
 unfold dG rT;refine List.Pairwise.filter _ ?_;by_cases h:2*n<=1000
 .exact(oP h (2*n)).imp λz e=>by rw[e]at z;omega
 unfold kU;rw[QC];refine⟨λp _=>?_,?_⟩
 .unfold DR;exact eY PL λx _ y _ e=>by have:=(Prod.mk.inj e).2;omega
 refine PL.imp λ{x y} e c D d hd z=>?_;have G:=(ju.mp D).1;have J:=(ju.mp hd).1;exact e (by rw[<-G,<-J,z])
theorem Eb(W:ak n ms):(iQ n os ms).Nodup:=by
 unfold iQ;refine eY Ea λc O d hd e=>?_;have D:=O;have G:=hd;unfold dG rT at D G;rw[O0,jv,Uy]at D G;obtain⟨⟨_,c1,c2⟩,U,c4,_⟩:=D;obtain⟨⟨_,d1,d2⟩,d3,d4,_⟩:=G;have J:=iw W c1 c2 U;have L2:=iw W d1 d2 d3;rw[c4]at J;rw[d4,<-e]at L2;obtain⟨V,Z⟩:=J.uniq L2;exact R4 V Z
end
noncomputable def nN(φ ψ:Nat->Nat)(w:List Nat):List Nat:=(OV w.length).map λy=>φ (ar w (ψ y))
theorem iR(φ ψ:Nat->Nat)(w:List Nat):(nN φ ψ w).length=w.length:=by unfold nN;rw[OH,OW]
theorem nO(φ ψ:Nat->Nat){w:List Nat}{y:Nat}(h:y<w.length):ar (nN φ ψ w) y=φ (ar w (ψ y)):=by
 unfold nN ar;simp[QK,OR,Qv h]
section
variable {n:Nat}{ms os fY gQ:List Nat}{φ ψ:Nat->Nat}
theorem qD{n:Nat}{ms:List Nat}(D:n<=40)(G:ms.length=2*n)(J:∀x,x<2*n->ar ms x<2*n)(O:∀x,x<2*n->ar ms (ar ms x)=x):ak n ms:=⟨D,G,⟨J,O⟩⟩
abbrev pW(n:Nat)(ms os fY gQ:List Nat)(φ ψ:Nat->Nat):Prop:=dJ (2*n) (ar ms) (ar os) (ar fY) (ar gQ) φ ψ
theorem oQ(I:pW n ms os fY gQ φ ψ){w:List Nat}(W:ak n w):ak n (nN φ ψ w):=by
 have L:=iR φ ψ w;have A:=λy (h:y<2*n)=>nO φ ψ (w:=w) (y:=y) (by rw[W.len];exact h);refine qD W.small (by rw[L,W.len]) (λx D=>?_) λx D=>?_
 .rw[A x D];exact I.pl _ (W.wk.lt _ (I.ql x D))
 have z:=W.wk.lt _ (I.ql x D);rw[A x D,A _ (I.pl _ z),I.qp _ z,W.wk.inv _ (I.ql x D),I.pq x D]
theorem xY(I:pW n ms os fY gQ φ ψ){w:List Nat}(W:ak n w):pW n w os (nN φ ψ w) gQ φ ψ where
 T:=⟨W.wk.lt,I.T.gl,W.wk.inv,I.T.gg⟩
 T':=⟨(oQ I W).wk.lt,I.T'.gl,(oQ I W).wk.inv,I.T'.gg⟩
 pl:=I.pl
 ql:=I.ql
 qp:=I.qp
 pq:=I.pq
 fa:=λx D=>by rw[nO φ ψ (by rw[W.len];exact I.pl x D),I.qp x D]
 fb:=I.fb
theorem oR(I:pW n ms os fY gQ φ ψ){w:List Nat}(W:ak n w):nN ψ φ (nN φ ψ w)=w:=by
 refine jM (by rw[iR,iR]) λe G=>?_;rw[iR,iR]at G;have D:e<2*n:=by rw[<-W.len];exact G
 rw[nO ψ φ (by rw[iR];exact G),nO φ ψ (by rw[W.len];exact I.pl e D),I.qp e D,I.qp _ (W.wk.lt e D)]
theorem zy(I:pW n ms os fY gQ φ ψ)(W:ak n ms)(G:ak n fY){w:List Nat}(h:∃p q,kQ n ms w p q):∃p q,kQ n fY (nN φ ψ w) p q:=by
 obtain⟨p,q,h1,J,Z,rfl⟩:=h;have hp:p<2*n:=by omega
 have key:∀e,e<2*n->ar (nN φ ψ (bM ms p q)) e=cG (ar fY) (φ p) (φ q) e:=λe D=>by
  have O:=I.ql e D;rw[nO φ ψ (by rw[dR,W.len];exact D),dy (by rw[W.len];exact O),I.bM hp J O,I.pq e D]
 have U:ar fY (φ p)≠φ q:=λz=>Z ((I.inj (W.wk.lt p hp) J).mp (by rw[I.fa p hp];exact z));have V:(nN φ ψ (bM ms p q)).length=2*n:=by rw[iR,dR,W.len]
 by_cases c:φ p<=φ q
 .refine⟨φ p,φ q,c,I.pl q J,U,jM (by rw[dR,G.len,V]) λe D=>?_⟩;rw[dR]at D;rw[dy D,key e (by rw[<-G.len];exact D)]
 have ne:φ q≠φ p:=by omega
 refine⟨φ q,φ p,by omega,I.pl p hp,λz=>U (by rw[<-z,G.wk.inv _ (I.pl q J)]),jM (by rw[dR,G.len,V]) λe D=>?_⟩;rw[dR]at D;rw[dy D,key e (by rw[<-G.len];exact D),lK ne]
theorem cJ{ms os:List Nat}(W:ak n ms)(D:ak n os):aC n ms os=0↔ms=os:=by
 have T:=bJ W D;have le:=jo T;constructor
 .intro h;unfold aC at h;exact jM (by rw[W.len,D.len]) λe G=>(rh T).mp (by omega) e (by rw[<-W.len];exact G)
 intro h;subst h;have:=(rh T).mpr λ_ _=>rfl;unfold aC;omega
theorem lN(I:pW n ms os fY gQ φ ψ):aC n ms os=aC n fY gQ:=by unfold aC;rw[I.score]
theorem xZ(I:pW n ms os fY gQ φ ψ)(W:ak n ms)(D:ak n fY){w:List Nat}(h:w∈iQ n os ms):nN φ ψ w∈iQ n gQ fY:=by
 obtain⟨G,J⟩:=(qC W).mp h;obtain⟨p,q,Z,O,U,rfl⟩:=id G;have V:=dz W (by omega) O U;exact(qC D).mpr ⟨zy I W D G,by rw[<-lN (xY I V),<-lN I];exact J⟩
theorem kY(W:ak n ms){w:List Nat}(h:w∈iQ n os ms):ak n w:=by
 obtain⟨⟨p,q,J,D,G,rfl⟩,_⟩:=(qC W).mp h;exact dz W (by omega) D G
theorem Ec(I:pW n ms os fY gQ φ ψ)(W:ak n ms)(D:ak n fY):((iQ n os ms).map (nN φ ψ)).Perm (iQ n gQ fY):=by
 refine(P0 (eY (Eb W) λx G y J e=>?_) (Eb D)).mpr λw=>?_
 .rw[<-oR I (kY W G),e,oR I (kY W J)]
 rw[OO];constructor
 .rintro⟨x,G,rfl⟩;exact xZ I W D G
 intro hw;exact⟨nN ψ φ w,xZ I.symm D W hw,oR I.symm (kY D hw)⟩
end
noncomputable def mt(t:Nat)(k:Nat)(l i:Nat):Nat:=bif Td ((t+i)%2) 0 then(bif Nat.blt (i+1) l then i+1 else bif Td k 0 then 0 else i)else(bif Td i 0 then(bif Td k 0 then l-1 else 0)else i-1)
noncomputable def tn(k:Nat):Nat:=bif Td k 1||Td k 2 then 1 else 0
noncomputable def wJ(u:Nat)(D:Nat):List Nat->List Nat
 |[]=>[]
 |e::S=>(OV (e/4)).map (λi=>D+mt (u+tn (e%4)) (e%4) (e/4) i)++wJ u (D+e/4) S
theorem HF(t k l i:Nat):mt t k l i=if(t+i)%2=0 then(if i+1<l then i+1 else if k=0 then 0 else i)else(if i=0 then(if k=0 then l-1 else 0)else i-1):=by
 unfold mt;have G:Nat.blt (i+1) l=decide (i+1<l):=by
  by_cases h:i+1<l
  .rw[Ul h];exact Nat.ble_eq_true_of_le h
  rw[Up h];exact Qj.mpr λz=>h (Nat.le_of_ble_eq_true z)
 have D:∀x y:Nat,Td x y=decide (x=y):=λx y=>by
  by_cases h:x=y
  .rw[Ul h,h];exact Nat.beq_refl y
  rw[Up h];exact Qj.mpr λz=>h (Nat.eq_of_beq_eq_true z)
 rw[G,D,D,D];simp only[cond_eq_ite,decide_eq_true_eq]
theorem HG(k:Kd):tn (kc k)=turn k:=by cases k <;> rfl
theorem HH(k:Kd):kc k<4:=by cases k <;> decide
theorem AV(k:Kd):kc k=0↔k=.ring:=by cases k <;> decide
section
variable {N:Nat}{a b:Nat->Nat}{k:Kd}{L:List Nat}
theorem aaA(G:cp N a b k L)(T:cv N a b){i x:Nat}(h:L[i]?=Yc x):L[mt (0+tn (kc k)) (kc k) L.length i]?=Yc (a x):=by
 have U:=(OI.mp h).1;rw[HF,HG,Qh];rcases G.mate T h with⟨o,q|⟨O,J,D⟩⟩|⟨o,⟨O,J⟩|⟨O,J,D⟩⟩
 .have:=(OI.mp q).1;rw[Uo o,Uo this];exact q
 .rw[Uo o,Uk (by omega),Uk (by rw[AV,D];exact(λz=>nomatch z)),J];exact h
 .rw[Uk (by omega),Uk (by omega)];exact J
 rw[Uk (by omega),Uo O,Uk (by rw[AV];rcases D with D|D <;> rw[D] <;> exact(λz=>nomatch z)),J,<-O];exact h
theorem aaB(G:cp N a b k L)(T:cv N a b){i x:Nat}(h:L[i]?=Yc x):L[mt (1+tn (kc k)) (kc k) L.length i]?=Yc (b x):=by
 have V:=(OI.mp h).1;have par:=G.par;have F:=G.fin;have J:=DH h;have D:=vy h;rw[HF,HG];by_cases o:(turn k+i)%2=1
 .rw[Uo (by omega)];by_cases c:i+1<L.length
  .rw[Uo c];have O:=OG c;rw[G.bR h O o];exact O
  rw[Uk c];have e:i=L.length-1:=by omega
  rw[<-e,h]at D;have D:=Option.some.inj D;cases k with
  |ring=>rw[Uo (show kc Kd.ring=0 from rfl),D,F.1];exact J
  |odd=>rw[Uk (by decide),D,F.2,<-D];exact h
  |bare=>exact Us o (by show¬(1+i)%2=1;have:¬L.length%2=1:=(λz=>by cases par.mp z);omega)
  |tied=>rw[Uk (by decide),D,F.2.1,<-D];exact h
 rw[Uk (by omega)];by_cases c:i=0
 .rw[Uo c];subst c;rw[h]at J;have J:=Option.some.inj J;cases k with
  |ring =>
   have U:=G.DG D;rw[Uo (show kc Kd.ring=0 from rfl),D,J,<-F.1,T.gg _ U]
  |odd=>exact Us (by show(1+0)%2=1;decide) o
  |bare=>exact Us (by show(1+0)%2=1;decide) o
  |tied=>rw[Uk (by decide),J,F.1,<-J];exact h
 rw[Uk c];obtain⟨y,O⟩:∃y,L[i-1]?=Yc y:=⟨_,OG (by omega)⟩
 have h':L[i-1+1]?=Yc x:=by rw[show i-1+1=i by omega];exact h
 have e:=G.bR O h' (by omega);rw[<-e,T.gg y (G.DG O)];exact O
end
noncomputable def ec(th:Kd×List Nat):Nat:=4*th.2.length+kc th.1
theorem Ed(th:Kd×List Nat):ec th/4=th.2.length:=by unfold ec;have:=HH th.1;omega
theorem Jw(th:Kd×List Nat):ec th%4=kc th.1:=by unfold ec;have:=HH th.1;omega
noncomputable def iZ(D:List (Kd×List Nat)):List Nat:=(D.map (·.2)).flatten
theorem vD(u:Nat):∀(G:List (Kd×List Nat)) (D:Nat),(wJ u D (G.map ec)).length=(iZ G).length
 |[],_=>rfl
 |th::r,D=>by
  show((OV (ec th/4)).map _++wJ u (D+ec th/4) (r.map ec)).length=(th.2++iZ r).length;rw[OQ,OQ,OH,OW,vD u r,Ed]
theorem AW(u:Nat)(f:Nat->Nat):∀(D:List (Kd×List Nat)) (pre:List Nat),(∀th∈D,∀(i x:Nat),th.2[i]?=Yc x->th.2[mt (u+tn (kc th.1)) (kc th.1) th.2.length i]?=Yc (f x)) ->
  ∀(j x:Nat),(iZ D)[j]?=Yc x->∃m:Nat,(wJ u pre.length (D.map ec))[j]?=Yc m/\(pre++iZ D)[m]?=Yc (f x)
 |[],pre,_,j,x,h=>by simp[iZ]at h
 |th::r,pre,g,j,x,h=>by
  have G:iZ (th::r)=th.2++iZ r:=rfl;have J:wJ u pre.length ((th::r).map ec)=(OV (ec th/4)).map (λi=>pre.length+mt (u+tn (ec th%4)) (ec th%4) (ec th/4) i)++wJ u (pre.length+ec th/4) (r.map ec):=rfl;rw[Ed,Jw]at J;rw[G]at h;by_cases c:j<th.2.length
  .rw[Pg c]at h;have z:=g th O2 j x h;have U:=(OI.mp z).1;refine⟨pre.length+mt (u+tn (kc th.1)) (kc th.1) th.2.length j,?_,?_⟩
   .rw[J,Pg (by rw[OH,OW];exact c),OR,Qv c];rfl
   rw[G,Pk (by omega),Nat.add_sub_cancel_left,Pg U];exact z
  rw[Pk (by omega)]at h;obtain⟨m,O,V⟩:=AW u f r (pre++th.2) (λt Z=>g t (O1 _ Z)) _ x h;refine⟨m,?_,?_⟩
  .rw[J,Pk (by rw[OH,OW];omega),OH,OW];rw[OQ]at O;exact O
  rw[G,<-PM];exact V
structure Lay(n:Nat) (ms os:List Nat) (bf:List (Kd×List Nat)):Prop where
 good:∀th∈bf,cp (2*n) (ar ms) (ar os) th.1 th.2
 nd:(iZ bf).Nodup
 mem:∀x,x∈iZ bf↔x<2*n
section
variable {n:Nat}{ms os:List Nat}{bf:List (Kd×List Nat)}
theorem Lay.perm(l:Lay n ms os bf):(iZ bf).Perm (OV (2*n)):=(P0 l.nd PL).mpr λx=>by rw[l.mem,OX]
theorem Lay.len(l:Lay n ms os bf):(iZ bf).length=2*n:=by rw[l.perm.length_eq,OW]
theorem Lay.iso(l:Lay n ms os bf)(W:ak n ms)(WO:ak n os):ak n (wJ 0 0 (bf.map ec))/\ak n (wJ 1 0 (bf.map ec))/\pW n ms os (wJ 0 0 (bf.map ec)) (wJ 1 0 (bf.map ec)) (λx=>(iZ bf).idxOf x) (ar (iZ bf)):=by
 have T:=bJ W WO;have len:=l.len;have getL:∀j,j<2*n->(iZ bf)[j]?=Yc (ar (iZ bf) j):=λj U=>iu (by rw[len];exact U);have one:∀i j x,(iZ bf)[i]?=Yc x->(iZ bf)[j]?=Yc x->i=j:=λi j x G O=>(List.getElem?_inj (OI.mp G).1 l.nd).mp (G.trans O.symm);have step:∀(u:Nat) (f:Nat->Nat),(∀th∈bf,∀(i x:Nat),th.2[i]?=Yc x->th.2[mt (u+tn (kc th.1)) (kc th.1) th.2.length i]?=Yc (f x))->∀j,j<2*n->ar (wJ u 0 (bf.map ec)) j<2*n/\ar (iZ bf) (ar (wJ u 0 (bf.map ec)) j)=f (ar (iZ bf) j):=λu f g j U=>by
  obtain⟨m,G,O⟩:=AW u f bf [] g j _ (getL j U);have Z:(wJ u 0 (bf.map ec))[j]?=Yc m:=G;have e:ar (wJ u 0 (bf.map ec)) j=m:=by unfold ar;rw[QK,Z];rfl
  have V:=(OI.mp O).1;rw[List.nil_append]at V O;rw[len]at V;rw[e];refine⟨V,?_⟩;have z:=getL m V;rw[O]at z;exact(Option.some.inj z).symm
 have A:=step 0 (ar ms) λth ht i x h=>aaA (l.good th ht) T h;have B:=step 1 (ar os) λth ht i x h=>aaB (l.good th ht) T h;have lt:∀j,j<2*n->ar (iZ bf) j<2*n:=λj U=>(l.mem _).mp (OP (getL j U));have inj:∀i j,i<2*n->j<2*n->ar (iZ bf) i=ar (iZ bf) j->i=j:=λi j hi U e=>one i j _ (getL i hi) (by rw[e];exact getL j U);have WA:ak n (wJ 0 0 (bf.map ec)):=qD W.small (by rw[vD,len]) (λx D=>(A x D).1) λx D=>by
  have G:=A x D;have O:=A _ G.1;exact inj _ _ O.1 D (by rw[O.2,G.2,W.wk.inv _ (lt x D)])
 have WB:ak n (wJ 1 0 (bf.map ec)):=qD W.small (by rw[vD,len]) (λx D=>(B x D).1) λx D=>by
  have G:=B x D;have O:=B _ G.1;exact inj _ _ O.1 D (by rw[O.2,G.2,WO.wk.inv _ (lt x D)])
 have ix:∀x,x<2*n->(iZ bf).idxOf x<2*n/\ar (iZ bf) ((iZ bf).idxOf x)=x:=λx D=>by
  have G:=List.idxOf_lt_length_of_mem ((l.mem x).mpr D);have O:=getL _ (by rw[<-len];exact G);rw[OG G,List.getElem_idxOf G]at O;exact⟨by rw[<-len];exact G,(Option.some.inj O).symm⟩
 have J:pW n (wJ 0 0 (bf.map ec)) (wJ 1 0 (bf.map ec)) ms os (ar (iZ bf)) (λx=>(iZ bf).idxOf x):=
  { T:=bJ WA WB,T':=T,pl:=lt,ql:=λx D=>(ix x D).1,qp:=λx D=>inj _ _ (ix _ (lt x D)).1 D (ix _ (lt x D)).2,pq:=λx D=>(ix x D).2,fa:=λx D=>(A x D).2,fb:=λx D=>(B x D).2 }
 exact⟨WA,WB,J.symm⟩
end
end gC
set_option maxHeartbeats 4000000
namespace gC
open Th aI
theorem x8{l m:List (Kd×List Nat)}(h:l.Perm m):(iZ l).Perm (iZ m):=(h.map _).flatten
section
variable {n:Nat}{ms os:List Nat}{Z:List (Kd×List Nat)}
theorem Lay.L6{D:List (Kd×List Nat)}(l:Lay n ms os Z)(h:D.Perm Z):Lay n ms os D :=
 ⟨λth G=>l.good th (h.mem_iff.mp G),(x8 h).symm.nodup l.nd,λx=>by rw[(x8 h).mem_iff];exact l.mem x⟩
theorem jw(W:ak n ms)(O:ak n os)(h:bW n ms os Z):Lay n ms os Z:=by
 have A:fJ (2*n) (ar ms) (ar os) Z:=⟨bJ W O,h.1,h.2⟩
 refine⟨λth D=>A.good D,?_,λx=>?_⟩
 .unfold iZ;show List.Pairwise (·≠·) _;rw[SA];refine⟨λl J=>?_,?_⟩
  .obtain⟨th,D,rfl⟩:=OO.mp J;exact(A.good D).nd
  rw[Px];have z:=A.apart (λ_=>true);rw[RV.mpr (λ_ _=>rfl)]at z;exact z.imp λ{s t} q x G y U=>q x G y U
 unfold iZ;rw[Sn];constructor
 .rintro⟨l,J,G⟩;obtain⟨th,D,rfl⟩:=OO.mp J;exact A.lt D G
 intro G;obtain⟨th,D,V⟩:=A.mem G;exact⟨th.2,List.mem_map_of_mem D,V⟩
theorem eC(W:ak n ms)(O:ak n os):∃Z,bW n ms os Z:=by
 have T:=bJ W O;have U:=keys_nodup T;refine⟨(pU (2*n) (ar ms) (ar os)).mergeSort λp q=>decide (mn p.2<=mn q.2),SV _ _,?_⟩;have D:=List.pairwise_mergeSort (le:=λ(p q:Kd×List Nat)=>decide (mn p.2<=mn q.2)) (λp q r J V=>by rw[decide_eq_true_eq]at *;omega) (λp q=>by rw[Bool.or_eq_true,decide_eq_true_eq,decide_eq_true_eq];omega) (pU (2*n) (ar ms) (ar os));have nd:=(((SV (pU (2*n) (ar ms) (ar os)) λp q=>decide (mn p.2<=mn q.2)).map λth=>mn th.2).symm).nodup U;have G:=Px.mp nd;exact(D.and G).imp λ{p q} ⟨J,V⟩=>by rw[decide_eq_true_eq]at J;omega
theorem iS(W:ak n ms)(J:ak n os)(h:bW n ms os Z){th:Kd×List Nat}(O:th∈Z){x:Nat}(U:x∈th.2):kd (ar ms) (ar os) x=th.1/\(eF (2*n) (ar ms) (ar os) x).length=th.2.length:=by
 have T:=bJ W J;obtain⟨u,D,C,e⟩:=AQ T (h.1.mem_iff.mp O);have c:=(C.mem x).mp U;have G:=c.lt T D;exact⟨by rw[e,AO T D c],jq (kR T G) (C.to T D c)⟩
theorem x9(f:Nat->Nat)(g:Kd×List Nat->Nat):∀Z:List (Kd×List Nat),(∀th∈Z,∀x∈th.2,f x=g th)->((iZ Z).map f).sum=(Z.map λth=>th.2.length*g th).sum
 |[],_=>rfl
 |th::r,h=>by
  show((th.2++iZ r).map f).sum=th.2.length*g th+(r.map λth=>th.2.length*g th).sum;rw[O5,Rh,x9 f g r λt D=>h t (O1 _ D)];congr 1;have k:=h th O2;generalize th.2=L at k⊢;generalize g th=c at k⊢
  induction L with
  |nil=>simp
  |cons y L G =>
   rw[Po,Qe,G (λx J=>k x (O1 _ J)),k y O2,Ph,SU];omega
theorem Ee(W:ak n ms)(D:ak n os)(h:bW n ms os Z):both (Z.map (·.1))=both ((cC n ms os (2*n)).map (·.1)):=by
 rw[<-h.lacks W D,Pp];rfl
end
end gC
namespace L2
open PySem PySem.Spec PyProof.Rows
section
variable {X:Cx}
theorem mK{α β:Type}{F:α->β->Prop}:∀{l:List α}{m:List β}{i:Nat}{a:α}{b:β},Paired F l m->l[i]?=Yc a->m[i]?=Yc b->F a b
 |_,_,0,_,_,.cons h _,e1,e2=>by cases e1;cases e2;exact h
 |_,_,i+1,_,_,.cons _ r,e1,e2=>mK r (i:=i) (by simpa using e1) (by simpa using e2)
end
end L2
namespace NK
open PySem PySem.Spec PyProof.Rows L2
noncomputable abbrev Itm:=Sum Key (List Key)
section
variable {P:Ux}{w:UA}
noncomputable def zA(P:Ux)(w:UA)(h:UH):Itm->Uj->Prop
 |.inl k,v=>(bG P w).is k v=true
 |.inr ks,v=>∃b,v=.ref b/\XN (bG P w) h ks b
inductive Ck (P:Ux) (w:UA) (h:UH):List Itm->List Uj->Prop
 |nil:Ck P w h [] []
 |cons {k:Itm}{v:Uj}{ks:List Itm}{vs:List Uj}:zA P w h k v->Ck P w h ks vs->Ck P w h (k::ks) (v::vs)
def ya(P:Ux)(w:UA)(h:UH)(ks:List Itm)(a:Um):Prop:=∃o items n,h.get? a=Yc o/\o.cls=.type "tuple"/\o.data=.seq items n/\Ck P w h ks items.toList
theorem AX{k:Key}{b:Um}:(bG P w).is k (.ref b)=true->False:=λh=>by
 rcases bV h with⟨_,_,_,e⟩|⟨_,_,_,e⟩ <;> exact nomatch e
theorem zA.inj{h:UH}{x y:Itm}{v:Uj}(D:zA P w h x v)(G:zA P w h y v):x=y:=by
 cases x with
 |inl k=>cases y with
  |inl l=>exact congrArg Sum.inl ((bG P w).inj _ _ _ D G)
  |inr l=>obtain⟨b,e,_⟩:=G;subst e;exact(AX D).elim
 |inr k=>cases y with
  |inl l=>obtain⟨b,e,_⟩:=D;subst e;exact(AX G).elim
  |inr l=>obtain⟨b,e,q⟩:=D;obtain⟨U,J,O⟩:=G;subst e;cases J;exact congrArg Sum.inr (q.inj O)
theorem Ck.inj{h:UH}{x y:List Itm}{D:List Uj}(J:Ck P w h x D)(G:Ck P w h y D):x=y:=by
 induction J generalizing y with
 |nil=>cases G;rfl
 |cons O _ U =>
  cases G with
  |cons V Z=>rw[O.inj V,U Z]
theorem ya.typeIs{s:Uq}{ks:List Itm}{a:Um}(x:ya P w s.heap ks a):s.TypeIs (.ref a) "tuple":=let⟨o,_,_,D,G,_⟩:=x;⟨o,D,G⟩
theorem ya.inj{h:UH}{a:Um}{x y:List Itm}(U:ya P w h x a)(V:ya P w h y a):x=y:=by
 obtain⟨o,items,n,Z,_,hd,hi⟩:=U;obtain⟨o',G,n',J,_,D,O⟩:=V;obtain rfl:o=o':=Option.some.inj (Z.symm.trans J);rw[hd]at D;injection D with h1 _;subst h1;exact hi.inj O
theorem ya.keeps{h h':UH}{ks:List Itm}{a d:Um}{o:U6}{es ep}(x:ya P w h ks a)(O:h.get? d=Yc o)(hd:o.data=.dict es ep)(hs:Heap.SameBut d h h'):ya P w h' ks a:=by
 obtain⟨U,items,n,G,V,D,Z⟩:=x;have J:a≠d:=by
  rintro rfl;obtain rfl:U=o:=Option.some.inj (G.symm.trans O);rw[hd]at D;exact nomatch D
 refine⟨U,items,n,(hs.2 a J).trans G,V,D,?_⟩;clear D G V;generalize items.toList=vs at Z
 induction Z with
 |nil=>exact .nil
 | @cons k v ks vs h1 _ ih =>
  refine .cons ?_ ih;cases k with
  |inl k=>exact h1
  |inr k=>obtain⟨b,e,q⟩:=h1;exact⟨b,e,q.keeps O hd hs⟩
noncomputable def Jx(P:Ux)(w:UA):Itm->Int
 |.inl k=>(bG P w).hash k
 |.inr ks=>tupleKeyHash (bG P w) ks
noncomputable def itD:Itm->Nat
 |.inl _=>1
 |.inr ks=>ks.length+1
noncomputable def Ef(P:Ux)(w:UA)(ks:List Itm):Int:=reduceHash (Builtin.Tuple.tupleHashOf (ks.map (Jx P w)))
noncomputable def zB(ks:List Itm):Nat:=(ks.map itD).sum+1
variable {A:UG}{E:Uj->Uq->Prop}{s:Uq}
theorem GJ{k:Itm}{v:Uj}{Q:Int->Uq->Prop}(G:A.units<cLine)(D:zA P w s.heap k v)(h:Q (Jx P w k) { s with toks:=s.toks+itD k }):wpAny (model P w) A (pyHash v) Q E s:=by
 cases k with
 |inl k=>exact(bG P w).pyHash D h
 |inr k=>obtain⟨b,e,q⟩:=D;subst e;exact wpAny_pyHash_tuple G q h
theorem Eg{ks:List Itm}{a:Um}{Q:Int->Uq->Prop}(hu:A.units+1<cLine)(Z:ya P w s.heap ks a)(h:Q (Ef P w ks) { s with toks:=s.toks+zB ks }) :
  wpAny (model P w) A (pyHash (.ref a)) Q E s:=by
 have J:=Z.typeIs;obtain⟨o,items,n,ho,_,hd,hi⟩:=Z;unfold pyHash
 first|unfold pyHashByItsType|skip
 first|refine Uh (wpAny_cRoomFor_or (.inr (by omega)) ?_)|skip
 refine Uh (Vm J F.slot_tuple_hash.lookup ?_);show wpAny _ _ (if(Yc (Value.builtin "tuple.__hash__")==some Value.none)=true then _ else _) Q E s;rw[Uk (by rw[beq_builtin_none];exact O4)];refine Uh (Vm J F.slot_tuple_hash.lookup ?_);show wpAny _ _ (callSpecialIfBoundUnlessNone? (.ref a) "__hash__" _ >>= _) Q E s;refine Uh (wpAny_callSpecialIfBoundUnlessNone?_slot J F.slot_tuple_hash (UN F.slot_tuple_hash J F.entry_tuple_hash ?_ (F.args_tuple_hash_1 _)));show wpAny _ _ (Builtin.Tuple.tupleItemsOf (.ref a) >>= _) _ _ s;refine Uh (V6 ho hd ?_);refine Uh ?_;rw[<- Rc];refine Vg _
  (λrest (b:Array Int) s'=>∃done left,ks=done++left/\Ck P w s.heap left rest/\b.toList=done.map (Jx P w)/\s'={ s with toks:=s.toks+(done.map itD).sum })
  _ ?_ ?_ _ _ ⟨[],ks,rfl,hi,rfl,rfl⟩
 .rintro x rest b s' ⟨done,left,rfl,V,O,rfl⟩;cases V with
  | @cons k _ D _ h1 G =>
   refine Uh (GJ (k:=k) (by first|exact hu|(simp only[Around.in1];omega)|(show A.units+1<cLine;omega)) h1 ?_)
   first
    |exact Ur ⟨done++[k],D,by simp,G,by simp[O],by simp[RR]⟩
    |exact Uh (Ur (Ur ⟨done++[k],D,by simp,G,by simp[O],by simp[RR]⟩))
 rintro b s' ⟨done,left,rfl,V,O,rfl⟩;cases V;rw[Pj]at h;show wpAny _ _ (retInt (Builtin.Tuple.tupleHashOf b.toList)) _ _ _;rw[O];refine wpAny_ret_mkInt ?_;show wpAny _ _ (if(decide (-(2:Int) ^ 63<=Builtin.Tuple.tupleHashOf (done.map (Jx P w)))&&decide (Builtin.Tuple.tupleHashOf (done.map (Jx P w))<2 ^ 63))=true then _ else _) Q E _;unfold Ef reduceHash zB at h;by_cases U:(decide (-(2:Int) ^ 63<=Builtin.Tuple.tupleHashOf (done.map (Jx P w)))&&decide (Builtin.Tuple.tupleHashOf (done.map (Jx P w))<2 ^ 63))=true
 .rw[Uo U];rw[Uo U]at h;exact Ur (by simpa[RR]using h)
 rw[Uk U];rw[Uk U]at h;exact Uh (Vq (Ur (by simpa[RR]using h)))
theorem rX{s:Uq}{ks:List Key}{b:Um}(q:XN (bG P w) s.heap ks b):∃items,s.heap.IsTuple b items:=by
 obtain⟨o,items,n,D,G,hd,_⟩:=q;exact⟨items,o,D,G,n,hd⟩
theorem L7{x y:Itm}{u v:Uj}{Q:Bool->Uq->Prop}(D:A.units<cLine)(J:zA P w s.heap x u)(O:zA P w s.heap y v)(h:Q (decide (x=y)) s):wpAny (model P w) A (eqBool u v) Q E s:=by
 cases x with
 |inl k=>cases y with
  |inl l =>
   refine(bG P w).eqBool (a:=k) (b:=l) J O ?_;by_cases e:k=l
   .subst e;simpa using h
   rw[Up e];rwa[Up (λz=>e (Sum.inl.inj z))]at h
  |inr l =>
   obtain⟨b,e,q⟩:=O;subst e;obtain⟨items,G⟩:=rX q;rw[Up (λz=>nomatch z)]at h;rcases bV J with⟨i,t,_,e⟩|⟨i,t,_,e⟩ <;> subst e
   .exact PySem.SeqAt.EqAt.int_tuple i t G D P w E Q h
   exact PySem.SeqAt.EqAt.str_tuple i t G D P w E Q h
 |inr k=>cases y with
  |inl l =>
   obtain⟨b,e,q⟩:=J;subst e;obtain⟨items,G⟩:=rX q;rw[Up (λz=>nomatch z)]at h;rcases bV O with⟨i,t,_,e⟩|⟨i,t,_,e⟩ <;> subst e
   .exact PySem.SeqAt.EqAt.tuple_int i t G D P w E Q h
   exact PySem.SeqAt.EqAt.tuple_str i t G D P w E Q h
  |inr l =>
   obtain⟨b,e,q⟩:=J;subst e;obtain⟨Z,U,V⟩:=O;subst U;refine wpAny_eqBool_tuple D q V ?_;by_cases e:k=l
   .subst e;simpa using h
   rw[Up e];rwa[Up (λz=>e (Sum.inr.inj z))]at h
theorem Eh{x y:List Itm}{a b:Um}{R:Fin->Uq->Prop}(hu:A.units<cLine)(hx:ya P w s.heap x a)(hy:ya P w s.heap y b)(h:R (.done (.ret (.bool (decide (x=y))))) s) :
  wpAny (model P w) A (Builtin.«tuple.__eq__» ⟨[.ref a,.ref b],[]⟩) R E s:=by
 have hTb:=hy.typeIs;obtain⟨oa,xs,na,hoa,_,hda,hia⟩:=hx;obtain⟨ob,ys,nb,hob,_,IW,hib⟩:=hy;show wpAny _ _ (Ws (.ref b) (.type "tuple") >>= _) _ _ s;refine Uh (Vi hTb VG ?_);simp only[Rl,PF,U1];refine Uh (V6 hoa hda ?_);refine Uh (V6 hob IW ?_);refine Uh ?_;refine Vg _
  (λrest r s'=>r.1=none/\s'=s/\∃x' y' G J,rest=R6 G J/\Ck P w s.heap x' G/\Ck P w s.heap y' J/\decide (x'=y')=decide (x=y)/\(G.length==J.length)=(xs.size==ys.size))
  _ ?_ ?_ _ _ ⟨rfl,rfl,x,y,xs.toList,ys.toList,rfl,hia,hib,rfl,by simp⟩
 .rintro⟨u,v⟩ rest r s' ⟨hr,rfl,x',y',G,J,hz,U,O,D,hlen⟩;cases U with
  |nil=>simp at hz
  | @cons k1 u' V Z h1 aaD =>
   cases O with
   |nil=>simp at hz
   | @cons k2 v' y'' aaE h2 aaF =>
    simp only[RZ,List.cons.injEq,Prod.mk.injEq]at hz;obtain⟨⟨rfl,rfl⟩,rfl⟩:=hz;refine Uh (L7 (x:=k1) (y:=k2) hu h1 h2 ?_);by_cases hk:k1=k2
    .subst hk;rw[Ul rfl];simp only[Rl,PF,U1];refine Ur ⟨rfl,rfl,V,y'',Z,aaE,rfl,aaD,aaF,?_,by simpa using hlen⟩;rw[<-D];by_cases LW:V=y''
     .simp[LW]
     simp[LW]
    rw[Up hk];simp only[Bool.not_false,VW];have hf:decide (x=y)=false:=by rw[<-D];simp[hk]
    rw[hf]at h;exact Uh (Ur (Ur (Ur h)))
 rintro⟨r1,r2⟩ s' ⟨hr,rfl,x',y',G,J,hz,U,O,D,hlen⟩;simp only at hr;subst hr;refine Ur ?_;have aaG:(xs.size==ys.size)=decide (x=y):=by
  rw[<-D,<-hlen];cases U with
  |nil =>
   cases O with
   |nil=>simp
   |cons _ _=>simp
  |cons _ _ =>
   cases O with
   |nil=>simp
   |cons _ _=>simp at hz
 show R (.done (.ret (.bool (xs.size==ys.size)))) s';rw[aaG];exact h
theorem Jy{x y:List Itm}{a b:Um}{Q:Bool->Uq->Prop}(O:A.units+1<cLine)(G:ya P w s.heap x a)(J:ya P w s.heap y b)(h:Q (decide (x=y)) s) :
  wpAny (model P w) A (eqBool (.ref a) (.ref b)) Q E s:=by
 unfold eqBool
 try with_reducible refine UD ?_
 show wpAny _ _ (if(Value.ref a==Value.ref b)=true then _ else _) Q E s;by_cases D:(Value.ref a==Value.ref b)=true
 .rw[Uo D];have e:a=b:=by have:=eq_of_beq D;injection this
  subst e;obtain rfl:=G.inj J;exact Uh (Vq (Ur (by simpa using h)))
 rw[Uk D];exact Uh (wpAny_richCompare_same_room (op:=.Eq) G.typeIs J.typeIs F.slot_tuple_eq
  (UN F.slot_tuple_eq G.typeIs F.entry_tuple_eq (Eh (by first|exact O|(show A.units+1<cLine;omega)) G J ⟨_,rfl,(λe=>nomatch e),UP h⟩) (F.args_tuple_eq_2 _ _)) (by omega))
theorem GK(n:Nat){ks:List Key}{a:Um}{Q:Bool->Uq->Prop}(O:XN (bG P w) s.heap ks a)(h:Q true s):wpAny (model P w) A (WW (n+1) (.ref a)) Q E s:=by
 have U:=O.typeIs;obtain⟨o,items,n,V,_,hd,Z⟩:=O;unfold WW;refine Uh (Vm U F.slot_tuple_eq.lookup ?_);show wpAny _ _ (Ws (.ref a) (.type "tuple") >>= _) _ _ s;refine Uh (Vi U VG ?_);simp only[Rl,PF,U1];refine Uh (Vh V hd ?_);refine Uh ?_;show wpAny _ _ (forIn items _ _) _ _ s;rw[<- Rc];refine Vg _ (λrest r s'=>r.1=none/\s'=s/\∀v∈rest,carriedByValue v=true) _ ?_ ?_ _ _ ⟨rfl,rfl,Z.byValue⟩
 .rintro v rest r s' ⟨G,rfl,D⟩;rw[Xp _ (D v O2)];refine Uh (Ur ?_);simp only[Rl,PF,U1];exact Ur ⟨rfl,rfl,λu J=>D u (O1 _ J)⟩
 rintro⟨r1,r2⟩ s' ⟨G,rfl,_⟩;simp only at G;subst G;exact Ur h
theorem BV{ks:List Itm}{a:Um}{Q:Bool->Uq->Prop}(U:ya P w s.heap ks a)(h:Q true s):wpAny (model P w) A (WW 8 (.ref a)) Q E s:=by
 have V:=U.typeIs;obtain⟨o,items,n,ho,_,hd,hi⟩:=U;unfold WW;refine Uh (Vm V F.slot_tuple_eq.lookup ?_);show wpAny _ _ (Ws (.ref a) (.type "tuple") >>= _) _ _ s;refine Uh (Vi V VG ?_);simp only[Rl,PF,U1];refine Uh (Vh ho hd ?_);refine Uh ?_;show wpAny _ _ (forIn items _ _) _ _ s;rw[<- Rc];refine Vg _ (λrest r s'=>r.1=none/\s'=s/\∃ks,Ck P w s.heap ks rest) _ ?_ ?_ _ _ ⟨rfl,rfl,ks,hi⟩
 .rintro v rest r s' ⟨J,rfl,ks',D⟩;cases D with
  | @cons k _ G _ Z O =>
   have go:wpAny (model P w) A (WW 7 v) (λb s2=>b=true/\s2=s') E s':=by
    cases k with
    |inl k=>rw[Xp _ ((bG P w).byValue _ _ Z)];exact Ur ⟨rfl,rfl⟩
    |inr k=>obtain⟨b,e,q⟩:=Z;subst e;exact GK 6 q ⟨rfl,rfl⟩
   refine Uh (cF go λb s2 ⟨eb,es⟩=>?_);subst eb es;simp only[Rl,PF,U1];exact Ur ⟨rfl,rfl,G,O⟩
 rintro⟨r1,r2⟩ s' ⟨J,rfl,_⟩;simp only at J;subst J;exact Ur h
end
noncomputable def oS(P:Ux)(w:UA):HeapKind P w (List Itm) where
 is:=ya P w
 hash:=Ef P w
 draws:=zB
 room:=λA=>A.units+1<cLine
 inj:=λD G=>D.inj G
 keeps:=λx U hd hs=>x.keeps U hd hs
 pyHash:=λJ O h=>Eg J O h
 eqBool:=λJ D G h=>Jy J D G h
 quiet:=λO h=>BV O h
noncomputable abbrev Ent:=List Itm×Um×V
noncomputable def nP(D:List Ent)(k:List Itm):Option V:=(D.find? λx=>decide (x.1=k)).map (·.2.2)
noncomputable def put2(D:List Ent)(k:List Itm)(b:Um)(v:V):List Ent:=if(nP D k).isSome then D.map (λx=>if x.1=k then(x.1,x.2.1,v)else x)else D++[(k,b,v)]
def RE:Ent->List Itm×Um×Uj->Prop:=λp q=>p.1=q.1/\p.2.1=q.2.1/\RelV p.2.2 q.2.2
theorem zC{D:List Ent}{xs:List (List Itm×Um×Uj)}(r:Paired RE D xs)(k:List Itm):sQ (nP D k) ((atKey xs k).map (·.2)):=by
 induction r with
 |nil=>exact True.intro
 | @cons p q J O h t G =>
  unfold nP atKey;rw[Qr,Qr,<-h.1];by_cases e:p.1=k
  .rw[Ul e];exact h.2.2
  rw[Up e];exact G
theorem Jz{D:List Ent}{xs:List (List Itm×Um×Uj)}(r:Paired RE D xs)(k:List Itm)(b:Um){v:V}{u:Uj}(J:RelV v u):Paired RE (put2 D k b v) (VN xs k b u):=by
 have q:=(zC r k).jm;rw[QW]at q;unfold put2 VN;rw[q];by_cases e:(atKey xs k).isSome=true
 .rw[Uo e,Uo e];clear q e
  induction r with
  |nil=>exact .nil
  | @cons p q O U h t G =>
   refine .cons ?_ G;unfold putAt;dsimp only;by_cases e:p.1=k
   .rw[Uo e,Uo (h.1▸e)];exact⟨h.1,h.2.1,J⟩
   rw[Uk e,Uk (h.1▸e)];exact h
 rw[Uk e,Uk e];clear q e
 induction r with
 |nil=>exact .cons ⟨rfl,rfl,J⟩ .nil
 |cons h t G=>exact .cons h G
theorem yb(D:List Ent)(k:List Itm)(b:Um)(v:V):(put2 D k b v).length<=D.length+1:=by
 unfold put2;split <;> simp
def L8(P:Ux)(w:UA)(a:Um)(D:List Ent):UH->Prop:=λh=>D.length<=Uu/\(a==U0)=false/\∃xs,Paired RE D xs /\
 ∃o es ep,h.get? a=Yc o/\o.ExactDict/\o.data=.dict es ep/\es.toList=xs.map (VH (oS P w))/\(xs.map (·.1)).Nodup
noncomputable def AY(P:Ux)(w:UA)(a:Um)(D:List Ent):HO:=.ext (L8 P w a D)
theorem L8.ok{P:Ux}{w:UA}{a:Um}{D:List Ent}{H:Hp}{h:UH}(q:L8 P w a D h):cQ P w H h a (AY P w a D):=by
 refine⟨q,?_,λO U J g=>?_⟩
 .obtain⟨_,_,_,_,o,_,_,G,_⟩:=q;exact⟨o,G⟩
 obtain⟨z,y,xs,r,o,es,ep,G,t⟩:=J;exact⟨z,y,xs,r,o,es,ep,g o G,t⟩
noncomputable def IV(H:Hp):Itm->V->Prop
 |.inl k,v=>v=kV k
 |.inr l,v=>∃c,v=.ref c/\H c=Yc (.tup (l.map kV))
def K2(H:Hp)(k:List Itm)(b:Um):Prop:=∃D,H b=Yc (.tup D)/\Paired (IV H) k D
def D2(P:Ux)(w:UA)(H:Hp)(a:Um)(D:List Ent):Prop:=H a=Yc (AY P w a D)/\∀p∈D,K2 H p.1 p.2.1
theorem K2.keep{H H':Hp}{k:List Itm}{b:Um}(q:K2 H k b)(g:∀c D,H c=Yc (.tup D)->H' c=Yc (.tup D)):K2 H' k b:=by
 obtain⟨G,e,r⟩:=q;refine⟨G,g _ _ e,Paired.Fv r λk v=>?_⟩;cases k with
 |inl k=>exact id
 |inr l=>exactλ⟨c,e,q⟩=>⟨c,e,g _ _ q⟩
theorem D2.keep{P:Ux}{w:UA}{H H':Hp}{a:Um}{D:List Ent}(d:D2 P w H a D)(e:H' a=H a)(g:∀c G,H c=Yc (.tup G)->H' c=Yc (.tup G)):D2 P w H' a D :=
 ⟨e.trans d.1,λp hp=>(d.2 p hp).keep g⟩
section
variable {P:Ux}{w:UA}{H:Hp}{h:UH}{a b:Um}
theorem AZ{k:List Itm}(ok:l7 P w H h)(q:K2 H k b):ya P w h k b:=by
 obtain⟨D,e,r⟩:=q;obtain⟨hL,its,G,o,J,O,n,U⟩:=(show cQ P w H h b (.tup D)from ok b _ e)
 refine⟨o,its.toArray,n,J,O,U,?_⟩;clear hL;show Ck P w h k its;clear U J O e
 induction r generalizing its with
 |nil=>cases G;exact .nil
 | @cons k v ks D V t ih =>
  cases G with
  |cons Z tv =>
   refine .cons ?_ (ih _ tv);cases k with
   |inl k=>cases(show v=kV k from V);exact Ai Z
   |inr l=>obtain⟨c,e,q⟩:=V;subst e;exact⟨c,Z,qU ok q⟩
theorem A0{D:List Ent}(ok:l7 P w H h)(d:D2 P w H a D):D.length<=Uu/\(a==U0)=false/\∃xs,Paired RE D xs/\h.DictOfH (oS P w) a xs:=by
 obtain⟨⟨z,y,xs,r,o,es,ep,O,U,V,Z,h5⟩,_⟩:=(show cQ P w H h a (AY P w a D)from ok a _ d.1)
 refine⟨z,y,xs,r,o,es,ep,O,U,V,Z,?_,h5⟩;have all:∀{l:List Ent}{m:List (List Itm×Um×Uj)},Paired RE l m->(∀p∈l,K2 H p.1 p.2.1)->∀x∈m,ya P w h x.1 x.2.1:=by
  intro l m q
  induction q with
  |nil=>intro _ x G;exact nomatch G
  | @cons p q ps qs J t ih =>
   intro g x G;rcases O9.mp G with e|G
   .subst e;rw[<-J.1,<-J.2.1];exact AZ ok (g p O2)
   exact ih (λp hp=>g p (O1 _ hp)) x G
 exact all r d.2
end
section
variable {X:Cx}{pins:List (Um×U6)}{σ:L2.St}{H:Hp}{s:Uq}{a b:Um}{lT:List Ent}{k:List Itm}{v:V}{u r:Uj}{A:UG}{E:Uj->Uq->Prop}
theorem rY(D:A.units+2<cLine):(oS X.prog X.w).room A.in1:=show A.in1.units+1<cLine from by show A.units+1+1<cLine;omega
theorem zD{Q:Uj->Uq->Prop}(U:A.units+2<cLine)(I:Inv X pins σ H s)(d:D2 X.prog X.w H a lT)(V:K2 H k b)(l:nP lT k=Yc v)(h:∀D s',Inv X pins σ H s'->RelV v D->Q D s') :
  wpAny (model X.prog X.w) A (Wk (.ref a) (.ref b)) Q E s:=by
 obtain⟨z,hd,xs,G,dd⟩:=A0 I.bN d;obtain⟨D,hw,J⟩:=sQ.some_of (v:=v) (o:=(atKey xs k).map (·.2)) (by rw[<-l];exact zC G k);obtain⟨p,hp,O⟩:=Qd.mp hw;refine wpAny_getItem_heap (knd:=oS X.prog X.w) (rY U) (AZ I.bN V) dd hp ?_;rw[O];exact h D _ (I.tok _) J
theorem Ei{Q:Uj->Uq->Prop}(G:A.units+2<cLine)(I:Inv X pins σ H s)(d:D2 X.prog X.w H a lT)(J:K2 H k b)(h:∀s',Inv X pins σ H s'->Q (.bool (!(nP lT k).isSome)) s') :
  wpAny (model X.prog X.w) A (UQ .NotIn (.ref b) (.ref a)) Q E s:=by
 obtain⟨z,hd,xs,D,dd⟩:=A0 I.bN d;refine wpAny_notIn_heap (knd:=oS X.prog X.w) (rY G) (AZ I.bN J) hd dd ?_;have q:=(zC D k).jm;rw[QW]at q;rw[<-q];exact h _ (I.tok _)
theorem zE{Q:Unit->Uq->Prop}(U:A.units+2<cLine)(I:Inv X pins σ H s)(d:D2 X.prog X.w H a lT)(V:K2 H k b)(hl:lT.length<Uu)(Z:RelV v r)
  (h:∀s',Inv X pins σ (upd H a (AY X.prog X.w a (put2 lT k b v))) s'->Q () s'):wpAny (model X.prog X.w) A (XX (.ref a) (.ref b) r) Q E s:=by
 obtain⟨z,hd,xs,D,dd⟩:=A0 I.bN d;have hz:xs.length<=sizeLine:=by rw[<-Paired.length D];exact z
 have G:(put2 lT k b v).length<=sizeLine:=by have:=yb lT k b v;omega
 refine W8 (knd:=oS X.prog X.w) (hsz:=hz) (rY U) (AZ I.bN V) dd λh' J hs=>h _ ?_;obtain⟨q,es,ep,O,h2,h3,h4,_,h5⟩:=J;exact mZ I (by rw[d.1];exact True.intro) hs ⟨q,O⟩ (L8.ok ⟨G,hd,_,Jz D k b Z,q,es,ep,O,h2,h3,h4,h5⟩)
theorem D2.put{P:Ux}{w:UA}{H:Hp}{a b:Um}{lT:List Ent}{k:List Itm}{v:V}(d:D2 P w H a lT)(J:K2 H k b):D2 P w (upd H a (AY P w a (put2 lT k b v))) a (put2 lT k b v):=by
 have g:∀c D,H c=Yc (.tup D)->upd H a (AY P w a (put2 lT k b v)) c=Yc (.tup D):=λc D e=>by
  rw[aG (λz=>by rw[z,d.1]at e;cases e)];exact e
 refine⟨ag,λp hp=>?_⟩;unfold put2 at hp
 split at hp
 .obtain⟨q,O,e⟩:=OO.mp hp;have G:=(d.2 q O).keep g;by_cases z:q.1=k
  .rw[Uo z]at e;subst e;exact G
  rw[Uk z]at e;subst e;exact G
 rcases OY.mp hp with hp|hp
 .exact(d.2 p hp).keep g
 rw[OS.mp hp];exact J.keep g
end
theorem GL{X:Cx}{pins:List (Um×U6)}{σ:L2.St}{H:Hp}{s:Uq}{a:Um}{D:List Ent}(I:Inv X pins σ H s)(d:D2 X.prog X.w H a D):s.TypeIs (.ref a) "dict":=by
 obtain⟨_,_,xs,_,dd⟩:=A0 I.bN d;exact dd.typeIs
def L9(P:Ux)(w:UA):TE:=λ_ H Q=>∀p,H p=none->Q (.ref p) (upd H p (AY P w p []))
def Ma(P:Ux)(w:UA)(J ty:TE):TE:=λσ H Q=>J σ H λx O=>ty σ O λy G=>∃a b D k v,x=.ref a/\y=.ref b/\D2 P w G a D/\K2 G k b/\nP D k=Yc v/\Q v G
def GN(P:Ux)(w:UA)(ty J:TE):TE:=λσ H Q=>ty σ H λy O=>J σ O λx G=>∃a b D k,x=.ref a/\y=.ref b/\D2 P w G a D/\K2 G k b/\Q (.bl (!(nP D k).isSome)) G
def Mb(P:Ux)(w:UA)(O ty U:TE):TS:=λD σ H=>U σ H λv V=>O σ V λx Z=>ty σ Z λy J=>∃a b G k,x=.ref a/\y=.ref b/\D2 P w J a G/\K2 J k b/\G.length<Uu/\D.nx σ (upd J a (AY P w a (put2 G k b v)))
section
variable {X:Cx}{o i e value:UM}{pos pos' Ow:VJ}{td ty tv:TE}
theorem vE:PE X (.Dict [] [] pos) (L9 X.prog X.w):=λpins s σ H Q I h =>
 Wg ⟨.ref s.heap.objs.size,_,I.laid (a:=s.heap.objs.size) (o:=AY X.prog X.w s.heap.objs.size []) (t':=s.toks) (λ_ _ q=>OJ _ q) (ON _)
  (L8.ok ⟨PH _,beq_eq_false_iff_ne.mpr (Ne.symm (Pb I.big)),[],.nil,_,#[],0,O6 _ rfl,⟨rfl,rfl,rfl⟩,rfl,rfl,RF⟩),rfl,h _ (I.bN.fresh (ON _))⟩
theorem GO(J:X.A.units+2<cLine)(O:PE X o td)(U:PE X i ty)(hs:Li i):PE X (.Subscript o i pos) (Ma X.prog X.w td ty):=by
 intro pins s σ H Q I h;refine FP PySem.F.slot_dict_getitem.lookup hs (cF (O pins s σ H _ I h) λu V ⟨x,Z,I1,rx,q1⟩=>cF (U pins V σ Z _ I1 q1) λiv s2 zq=>?_);obtain⟨y,H2,G,ry,a,b,lT,k,v,ex,ey,d,hk,l,q2⟩:=zq;subst ex ey;obtain rfl:u=Value.ref a:=rx;obtain rfl:iv=Value.ref b:=ry;exact⟨GL G d,zD J G d hk l λw' s3 I3 D=>⟨v,H2,I3,D,q2⟩⟩
theorem BW(G:X.A.units+2<cLine)(J:PE X i ty)(O:PE X o td):PC X .NotIn i o (GN X.prog X.w ty td):=by
 intro pins s σ H Q I h;refine cF (J pins s σ H _ I h) λU V ⟨y,Z,I1,ry,q1⟩=>cF (O pins V σ Z _ I1 q1) λu s2 zq=>?_;obtain⟨x,H2,I2,rx,a,b,D,k,ex,ey,d,hk,q2⟩:=zq;subst ex ey;obtain rfl:u=Value.ref a:=rx;obtain rfl:U=Value.ref b:=ry;exact Ei G I2 d hk λs3 I3=>⟨.bl (!(nP D k).isSome),H2,I3,rfl,q2⟩
theorem GP(G:X.A.units+2<cLine)(J:PE X o td)(O:PE X i ty)(U:PE X value tv)(hs:Wf value (Yc (.Subscript o i pos')) pos.line X.env=pure false) :
  PS X (.Assign [.Subscript o i pos'] value pos) (Mb X.prog X.w td ty tv):=by
 intro pins s σ H D I h;refine Wl (cF (U pins s σ H _ I h) λr V ⟨v,Z,I1,rv,q1⟩=>cF (J pins V σ Z _ I1 q1) λu s2 ⟨x,H2,I2,rx,q2⟩=>cF (O pins s2 σ H2 _ I2 q2) λiv s3 ⟨y,H3,I3,ry,a,b,lT,k,ex,ey,d,hk,l,q3⟩=>?_) hs;subst ex ey;obtain rfl:u=Value.ref a:=rx;obtain rfl:iv=Value.ref b:=ry;exact zE G I3 d hk l rv λs4 I4=>⟨σ,_,I4,q3⟩
end
end NK
namespace aI
open PySem L2 gC
theorem ksi{a b:Th.Kd}(h:ks a=ks b):a=b:=oM a b h
noncomputable def tx(q:Th.Kd×Nat):NK.Itm:=.inr [.inr (ks q.1),.inl (q.2:Nat)]
theorem Ej{p q:Th.Kd×Nat}(h:tx p=tx q):p=q:=by
 have h:=List.cons.inj (Sum.inr.inj h);have D:=(List.cons.inj h.2).1;exact R4 (ksi (Sum.inr.inj h.1)) (by have:=Sum.inl.inj D;omega)
noncomputable def kC(D:List (Th.Kd×List Nat)):List (Th.Kd×Nat):=D.map λth=>(th.1,th.2.length)
def A1(D:List (Th.Kd×List Nat))(k:List NK.Itm):Prop:=∃G:List (Th.Kd×Nat),G.Perm (kC D)/\k=G.map tx
theorem map_inj{α β:Type}{f:α->β}(D:∀x y,f x=f y->x=y):∀{l m:List α},l.map f=m.map f->l=m
 |[],[],_=>rfl
 |[],_::_,h=>nomatch h
 |_::_,[],h=>nomatch h
 |x::l,y::m,h=>by rw[D x y (List.cons.inj h).1,map_inj D (List.cons.inj h).2]
theorem GQ(D:List NK.Ent)(k:List NK.Itm)(b:Um)(v:V):NK.nP (NK.put2 D k b v) k=Yc v:=by
 unfold NK.put2;by_cases c:(NK.nP D k).isSome=true
 .rw[Uo c];unfold NK.nP at c⊢;rw[QW]at c
  induction D with
  |nil=>cases c
  |cons x r G =>
   rw[Po,Qr];by_cases e:x.1=k
   .rw[Uo e];simp[e]
   rw[Uk e,Up e];rw[Qr,Up e]at c;exact G c
 rw[Uk c];unfold NK.nP at c⊢;rw[QW]at c;rw[List.find?_append];cases h:D.find? λx=>decide (x.1=k)with
 |none=>simp
 |some x=>rw[h]at c;exact Us rfl c
noncomputable def yG(H:Hp)(d:Um):Hp:=λb=>if b=d then none else H b
theorem mL{H:Hp}{d b:Um}(h:b≠d):yG H d b=H b:=Uk h
theorem oU{H:Hp}{d:Um}:yG H d d=none:=Uo rfl
theorem kZ{H:Hp}{d:Um}:aE (yG H d) H:=λb o e=>by
 by_cases c:b=d
 .rw[c,oU]at e;cases e
 rw[mL c]at e;exact e
theorem Ek{H H':Hp}{d:Um}(s:aE H H'):aE (yG H d) (yG H' d):=λb o e=>by
 by_cases c:b=d
 .rw[c,oU]at e;cases e
 rw[mL c]at e⊢;exact s _ _ e
theorem GS{H H':Hp}{d:Um}(s:aE (yG H d) H'):aE (yG H d) (yG H' d):=λb o e=>by
 by_cases c:b=d
 .rw[c,oU]at e;cases e
 rw[mL c];exact s _ _ e
variable (P:Ux)(w:UA)(K:OM)
variable {P w K}
section
variable {H H':Hp}{d:Um}{J:List NK.Ent}
theorem D2.same(D:NK.D2 P w H d J)(s:aE H H'):NK.D2 P w H' d J:=D.keep (by rw[D.1];exact s _ _ D.1) λc G e=>s _ _ e
theorem JA{a:Um}{xs:List V}(h:br K H a xs)(D:NK.D2 P w H d J):br K (yG H d) a xs:=by
 have D:=D.1;rcases h with(h|⟨o,h⟩)|h
 .exact .inl (.inl (by rw[mL (λz=>by rw[z,D]at h;cases h)];exact h))
 .exact .inl (.inr ⟨o,by rw[mL (λz=>by rw[z,D]at h;cases h)];exact h⟩)
 exact .inr h
theorem eL{a:Um}{o:HO}(h:H a=Yc o)(ne:a≠d):yG H d a=Yc o:=by rw[mL ne];exact h
theorem D2.ne{a:Um}{G:List V}(D:NK.D2 P w H d J)(h:H a=Yc (.lst G)):a≠d:=λz=>by rw[z,D.1]at h;cases h
theorem D2.neT{a:Um}{G:List V}(D:NK.D2 P w H d J)(h:H a=Yc (.tup G)):a≠d:=λz=>by rw[z,D.1]at h;cases h
end
open Classical in
noncomputable def BX(H:Hp)(t:Um):Th.Kd×Nat:=if h:∃q:Th.Kd×Nat,H t=Yc (.tup (lf q))then Sl h else(.ring,0)
theorem JB{p q:Th.Kd×Nat}(h:lf p=lf q):p=q:=by
 have h:=List.cons.inj h;have D:=ksi (V.str.inj h.1);have G:=V.int.inj (List.cons.inj h.2).1;exact R4 D (by omega)
theorem vF{H:Hp}{t:Um}{q:Th.Kd×Nat}(h:H t=Yc (.tup (lf q))):BX H t=q:=by
 have e:∃q:Th.Kd×Nat,H t=Yc (.tup (lf q)):=⟨q,h⟩
 unfold BX;rw[Wr e];have z:=h.symm.trans (QB e);injection z with z;injection z with z;exact(JB z).symm
noncomputable def gK(H:Hp)(t:Um):Int:=1000*nD.kx (BX H t).1+(BX H t).2
theorem JC{H:Hp}{t:Um}{q:Th.Kd×Nat}(h:H t=Yc (.tup (lf q)))(D:q.2<1000):ND true (lf q) (gK H t):=by
 unfold gK;rw[vF h];exact⟨_,q.2,nD.kx q.1,rfl,by omega,by omega,rfl,.inr ⟨rfl,q.1,rfl,rfl⟩⟩
theorem El{H:Hp}{l t:Um}{G J:List Um}{O:List (Th.Kd×Nat)}(h2:G.length=O.length)(h3:∀(i:Nat) (t:Um) (x:Th.Kd×Nat),G[i]?=Yc t->O[i]?=Yc x->H t=Yc (.tup (lf x)))(hp:J.Perm G)(ht:H t=Yc (.tup (J.map V.ref))) :
  ∃U:List (Th.Kd×Nat),U.Perm O/\NK.K2 H (U.map tx) t:=by
 have all:∀t∈G,∃q:Th.Kd×Nat,H t=Yc (.tup (lf q)):=λt ht=>by
  obtain⟨i,hi⟩:=SN ht;have hl:=(OI.mp hi).1;exact⟨_,h3 i t _ hi (OG (by omega))⟩
 have e:G.map (BX H)=O:=by
  refine QY λi=>?_;rw[OR];by_cases c:i<G.length
  .have h1:=OG c;have Z:=OG (l:=O) (i:=i) (by omega);rw[h1,Z];exact congrArg some (vF (h3 i _ _ h1 Z))
  rw[PU (by omega),PU (by omega)];rfl
 refine⟨J.map (BX H),by rw[<-e];exact hp.map _,J.map V.ref,ht,?_⟩;have D:∀u∈J,∃q:Th.Kd×Nat,H u=Yc (.tup (lf q)):=λu hu=>all u (hp.mem_iff.mp hu);clear ht hp
 induction J with
 |nil=>exact .nil
 |cons u r ih =>
  obtain⟨q,hq⟩:=D u O2;refine .cons ⟨u,rfl,?_⟩ (ih λx hx=>D x (O1 _ hx));rw[vF hq];exact hq
theorem GU{a:Nat->Nat}{x:Nat}:Th.kd a a x≠.bare:=by
 have e:Th.fZ a a x=Th.cI a a x:=propext ⟨λh=>h.1,λh=>⟨h,h⟩⟩;unfold Th.kd;rw[e];by_cases c:Th.cI a a x
 .rw[Uo c];exactλz=>nomatch z
 rw[Uk c,Uk c]
 split <;> exactλz=>nomatch z
theorem A2{n:Nat}{ms os:List Nat}{D:List (Th.Kd×List Nat)}(W:ak n ms)(O:ak n os)(h:bW n ms os D)(G:both (D.map (·.1))=true):ms≠os:=λe=>by
 subst e;unfold both at G;rw[PX,Uy]at G;obtain⟨th,J,e1⟩:=OO.mp G.1;obtain⟨u,_,_,e2⟩:=Th.AQ (bJ W W) (h.1.mem_iff.mp J);exact GU (e2.symm.trans e1)
theorem jO(xs:List Nat):nV xs=(xs.map λ(x:Nat)=>(x:Int)).map V.int:=by unfold nV;rw[Pp];rfl
theorem rZ:∀xs:List Nat,(xs.map λ(x:Nat)=>(x:Int)).sum=((xs.sum:Nat):Int)
 |[]=>rfl
 |x::r=>by rw[Po,Qe,Qe,rZ r];omega
theorem K2.Mc{P:Ux}{w:UA}{H H':Hp}{d t:Um}{G:List NK.Ent}{k:List NK.Itm}(h:NK.K2 H k t)(D:NK.D2 P w H d G)(s:aE (yG H d) H'):NK.K2 H' k t :=
 h.keep λc J e=>s _ _ (eL e (D2.neT D e))
variable (K:OM)
theorem iT{n:Nat}{ms os:List Nat}:aC n ms os<=n:=by unfold aC;omega
theorem zF{H D H':Hp}{d:Um}{o:HO}(s:aE H D)(hd:D d=none)(s':aE (yG (upd D d o) d) H'):aE H H':=λc x e=>by
 have e1:=s _ _ e;have G:c≠d:=λz=>by rw[z,hd]at e1;cases e1
 exact s' _ _ (by rw[mL G,aG G];exact e1)
end aI
namespace gC
open Th aI
noncomputable def lX:Nat->Nat
 |0=>1
 |k+1=>(k+1)*lX k
theorem vG:∀k,0<lX k
 |0=>Ub
 |k+1=>Uc (Tj k) (vG k)
theorem Em(s:Nat):∀l,ch (s+l) l*(lX s*lX l)=lX (s+l)
 |0=>by rw[qB,Sy];show 1*(lX s*1)=lX s;omega
 |l+1=>by
  have e:=rQ (s+l) l;have D:=Em s l;show ch (s+l+1) (l+1)*(lX s*((l+1)*lX l))=(s+l+1)*lX (s+l);rw[<-D,<-RA (s+l+1),<-e];simp only[RA,SE,Rk]
noncomputable def oV(D:List Nat):Nat:=(D.map lX).foldr (· * ·) 1
noncomputable def tD(D:List Nat):Nat:=(D.map λl=>(l+1) ^ (l-1)).foldr (· * ·) 1
theorem r9:∀(xs:List Nat) (y:Nat),(xs++[y]).foldr (· * ·) 1=xs.foldr (· * ·) 1*y
 |[],y=>by simp
 |x::r,y=>by show x*(r++[y]).foldr (· * ·) 1=x*r.foldr (· * ·) 1*y;rw[r9 r y,RA]
theorem ur{xs D:List Nat}(p:xs.Perm D):xs.foldr (· * ·) 1=D.foldr (· * ·) 1:=by
 induction p with
 |nil=>rfl
 |cons x _ G=>show x*_=x*_;rw[G]
 |swap x y l=>show y*(x*_)=x*(y*_);rw[Rk]
 |trans _ _ J O=>exact J.trans O
theorem snoc_ind{α:Type}{M:List α->Prop}(D:M [])(G:∀l x,M l->M (l++[x]))(l:List α):M l:=by
 have:∀r:List α,M r.reverse:=λr=>by
  induction r with
  |nil=>exact D
  |cons x r J=>rw[List.reverse_cons];exact G _ _ J
 have z:=this l.reverse;rwa[List.reverse_reverse]at z
theorem sa(D:List Nat):jN 1 0 D*oV D=lX D.sum*tD D:=by
 refine snoc_ind (M:=λD=>jN 1 0 D*oV D=lX D.sum*tD D) rfl (λD l G=>?_) D;have e:=Em D.sum l;have e1:oV (D++[l])=oV D*lX l:=by unfold oV;rw[O5];exact r9 _ _
 have e2:tD (D++[l])=tD D*(l+1) ^ (l-1):=by unfold tD;rw[O5];exact r9 _ _
 rw[oO,Qh,e1,e2,Rh,S8,<-e];generalize(l+1) ^ (l-1)=o
 calc jN 1 0 D*(ch (D.sum+l) l*o)*(oV D*lX l)=(jN 1 0 D*oV D)*(ch (D.sum+l) l*o*lX l):=by simp only[RA,SE,Rk]
  _=lX D.sum*tD D*(ch (D.sum+l) l*o*lX l):=by rw[G]
  _=_:=by simp only[RA,SE,Rk]
theorem En(D:List Nat):0<oV D:=by
 unfold oV
 induction D with
 |nil=>exact Ub
 |cons x r G=>exact Uc (vG x) G
theorem BY{xs D:List Nat}(p:xs.Perm D):jN 1 0 xs=jN 1 0 D:=by
 have G:=sa xs;have J:=sa D;have e1:oV xs=oV D:=ur (p.map _);have e2:tD xs=tD D:=ur (p.map _);rw[e1,e2,p.sum_nat,<-J]at G;exact Nat.eq_of_mul_eq_mul_right (En D) G
theorem BZ{xs:List Nat}(h:∀x∈xs,x<=1):jN 1 0 xs=lX xs.sum:=by
 have e:=sa xs;have o:∀D:List Nat,(∀x∈D,x<=1)->oV D=1/\tD D=1:=λD=>by
  induction D with
  |nil=>intro _;exact⟨rfl,rfl⟩
  |cons x r G =>
   intro h;obtain⟨J,O⟩:=G λy U=>h y (O1 _ U);have V:=h x O2;have Z:lX x*oV r=1/\(x+1) ^ (x-1)*tD r=1:=by
    rw[J,O]
    match x,V with
    |0,_=>exact⟨rfl,rfl⟩
    |1,_=>exact⟨rfl,rfl⟩
   exact Z
 rw[(o xs h).1,(o xs h).2,Ud,Ud]at e;exact e
theorem B0{α β:Type}{f:α->β}{A C:List β}(p:A.Perm C):∀B:List α,B.map f=C->∃D:List α,D.Perm B/\D.map f=A:=by
 induction p with
 |nil=>intro B h;exact⟨B,.refl _,h⟩
 |cons x _ U =>
  intro B h;obtain⟨b,O,rfl,rfl,G⟩:=RQ.mp h;obtain⟨D,V,Z⟩:=U O G;exact⟨b::D,V.cons b,by rw[Po,Z]⟩
 |swap x y l =>
  intro B h;obtain⟨b,O,rfl,rfl,G⟩:=RQ.mp h;obtain⟨c,J,rfl,rfl,rfl⟩:=RQ.mp G;exact⟨c::b::J,.swap _ _ _,rfl⟩
 |trans _ _ h1 G =>
  intro B h;obtain⟨J,q1,q2⟩:=G B h;obtain⟨D,q3,q4⟩:=h1 J q2;exact⟨D,q3.trans q1,q4⟩
section
variable {n:Nat}{ms os fY gQ:List Nat}{bf mM:List (Kd×List Nat)}{φ ψ:Nat->Nat}
theorem uu(I:pW n ms os fY gQ φ ψ)(W:ak n ms)(D:ak n os)(U:ak n fY)(J:ak n gQ)(h:bW n ms os bf)(h':bW n fY gQ mM):(kC bf).Perm (kC mM):=by
 classical
 refine List.perm_iff_count.mpr λq=>?_;obtain⟨k,m⟩:=q;have cnt:∀{ms os:List Nat}{bf:List (Kd×List Nat)} (W:ak n ms) (D:ak n os) (h:bW n ms os bf),m*(kC bf).count (k,m)=((OV (2*n)).map λx=>if kd (ar ms) (ar os) x=k/\(eF (2*n) (ar ms) (ar os) x).length=m then 1 else 0).sum:=λ{ms os bf} W D h=>by
  have L:=jw W D h;rw[<-nM (L.perm.map _),x9 _ (λth=>if th.1=k/\th.2.length=m then 1 else 0) bf λth O x G=>by
   obtain⟨e1,e2⟩:=iS W D h O G;rw[e1,e2]]
  clear h L
  induction bf with
  |nil=>show m*0=0;omega
  |cons th r V =>
   show m*((th.1,th.2.length)::kC r).count (k,m)=_;rw[Po,Qe,<-V,List.count_cons];by_cases c:th.1=k/\th.2.length=m
   .rw[Uo c,Uo (by rw[c.1,c.2];exact US _),c.2,TB];omega
   rw[Uk c,Uk (λz=>c (by have e:=eq_of_beq z;injection e with e1 e2;exact⟨e1,e2⟩)),Sy,Nat.mul_zero,Qh]
 by_cases Z:m=0
 .have z:∀{ms os:List Nat}{bf:List (Kd×List Nat)} (W:ak n ms) (D:ak n os) (h:bW n ms os bf),(kC bf).count (k,m)=0:=λ{ms os bf} W D h=>by
   refine List.count_eq_zero.mpr λz=>?_;unfold kC at z;obtain⟨th,O,e⟩:=OO.mp z;injection e with e1 e2;have:=(h.good W D O).ne;omega
  rw[z W D h,z U J h']
 have e:((OV (2*n)).map λx=>if kd (ar ms) (ar os) x=k/\(eF (2*n) (ar ms) (ar os) x).length=m then 1 else 0).sum=((OV (2*n)).map λx=>if kd (ar fY) (ar gQ) x=k/\(eF (2*n) (ar fY) (ar gQ) x).length=m then 1 else 0).sum:=by
  rw[<-nM (I.perm.map λx=>if kd (ar fY) (ar gQ) x=k/\(eF (2*n) (ar fY) (ar gQ) x).length=m then 1 else 0),Pp];congr 1;refine PB λx G=>?_;have G:=OX.mp G;show(if kd (ar ms) (ar os) x=k/\(eF (2*n) (ar ms) (ar os) x).length=m then 1 else 0)=if kd (ar fY) (ar gQ) (φ x)=k/\(eF (2*n) (ar fY) (ar gQ) (φ x)).length=m then 1 else 0;rw[I.kd G,I.len G]
 have c1:=cnt W D h;have c2:=cnt U J h';rw[e,<-c2]at c1;exact Nat.eq_of_mul_eq_mul_left (by omega) c1
theorem oW(W:ak n ms)(D:ak n os)(h:bW n ms os bf):mh n ms os=jN 1 0 (bf.map cT):=by
 unfold mh;rw[<-h.lacks W D,Pp];rfl
noncomputable def Md(q:Kd×Nat):Nat:=if q.1=.ring then q.2/2-1 else q.2/2
theorem uw(bf:List (Kd×List Nat)):bf.map cT=(kC bf).map Md:=by unfold kC;rw[Pp];rfl
theorem ux{D:Nat}(W:ak n ms)(J:ak n os)(O:ak D fY)(G:ak D gQ)(h:bW n ms os bf)(h':bW D fY gQ mM)(p:(kC bf).Perm (kC mM)):mh n ms os=mh D fY gQ:=by
 rw[oW W J h,oW O G h',uw,uw];exact BY (p.map _)
theorem cV(W:ak n ms)(D:ak n os)(h:bW n ms os bf):aP n ms os↔both (bf.map (·.1))=false:=by
 unfold aP;rw[Ee W D h]
theorem uz(bf:List (Kd×List Nat)):bf.map (·.1)=(kC bf).map (·.1):=by unfold kC;rw[Pp];rfl
theorem zG{D:Nat}(W:ak n ms)(J:ak n os)(O:ak D fY)(G:ak D gQ)(h:bW n ms os bf)(h':bW D fY gQ mM)(p:(kC bf).Perm (kC mM)):aP n ms os↔aP D fY gQ:=by
 rw[cV W J h,cV O G h',uz,uz];have e:∀k:Kd,k∈(kC bf).map (·.1)↔k∈(kC mM).map (·.1):=λk=>(p.map _).mem_iff;unfold both;simp only[e]
noncomputable def vN(n:Nat)(os:List Nat):Nat->List Nat->Nat
 |0,ms=>mh n ms os
 |j+1,ms=>if both ((cC n ms os (2*n)).map (·.1))=false then mh n ms os else((iQ n os ms).map (vN n os j)).sum
noncomputable def vR(n:Nat)(ms os:List Nat):Nat:=vN n os (aC n ms os) ms
theorem uA(h:aP n ms os):vR n ms os=mh n ms os:=by
 unfold vR;cases aC n ms os with
 |zero=>rfl
 |succ j=>exact Uo h
theorem pH(W:ak n ms):aP n ms ms:=by
 obtain⟨bf,h⟩:=eC W W;rw[cV W W h];exact Qj.mpr λz=>A2 W W h z rfl
theorem Eo(W:ak n ms)(D:ak n os)(h:¬aP n ms os):vR n ms os=((dG n os ms).map λc=>vR n (bM ms c.1 c.2) os).sum:=by
 have ne:ms≠os:=λe=>h (by subst e;exact pH W);unfold vR;cases e:aC n ms os with
 |zero=>exact Us ((cJ W D).mp e) ne
 |succ j =>
  show(if both ((cC n ms os (2*n)).map (·.1))=false then mh n ms os else((iQ n os ms).map (vN n os j)).sum)=_;unfold aP at h;rw[Uk h];unfold iQ;rw[Pp];congr 1;refine PB λc G=>?_;have c4:=(cO G).2.2.2;show vN n os j (bM ms c.1 c.2)=vN n os (aC n (bM ms c.1 c.2) os) (bM ms c.1 c.2);rw[show aC n (bM ms c.1 c.2) os=j by omega]
theorem Ep:∀(j:Nat) {ms fY:List Nat},pW n ms os fY gQ φ ψ->ak n ms->ak n os->ak n fY->ak n gQ->vN n os j ms=vN n gQ j fY:=by
 intro j
 induction j with
 |zero =>
  intro ms fY I W G J D;obtain⟨bf,h⟩:=eC W G;obtain⟨mM,h'⟩:=eC J D;exact ux W G J D h h' (uu I W G J D h h')
 |succ j V =>
  intro ms fY I W G J D;obtain⟨bf,h⟩:=eC W G;obtain⟨mM,h'⟩:=eC J D;have p:=uu I W G J D h h';have O:=zG W G J D h h' p;show(if both ((cC n ms os (2*n)).map (·.1))=false then mh n ms os else((iQ n os ms).map (vN n os j)).sum)=(if both ((cC n fY gQ (2*n)).map (·.1))=false then mh n fY gQ else((iQ n gQ fY).map (vN n gQ j)).sum)
  unfold aP at O;by_cases c:both ((cC n ms os (2*n)).map (·.1))=false
  .rw[Uo c,Uo (O.mp c)];exact ux W G J D h h' p
  rw[Uk c,Uk (λz=>c (O.mpr z)),<-nM ((Ec I W J).map _),Pp];congr 1;refine PB λw hw=>?_;have U:=kY W hw;exact V (xY I U) U G (oQ I U) D
theorem JD{G:Nat}(W:ak n ms)(O:ak n os)(U:ak G fY)(D:ak G gQ)(h:bW n ms os bf)(h':bW G fY gQ mM)(p:(kC bf).Perm (kC mM)):vR n ms os=vR G fY gQ:=by
 have L:=jw W O h;have L':=jw U D h';have en:n=G:=by
  have e:∀l:List (Kd×List Nat),(iZ l).length=((kC l).map (·.2)).sum:=λl=>by
   unfold iZ kC;rw[SW,Pp,Pp];rfl
  have l1:=L.len;have l2:=L'.len;rw[e]at l1 l2;have:=nM (p.map (·.2));omega
 subst en;obtain⟨J,q1,q2⟩:=B0 p mM rfl;have L2:=L'.L6 q1;obtain⟨WA,WB,I⟩:=L.iso W O;obtain⟨V,Z,I'⟩:=L2.iso U D;have ee:∀l:List (Kd×List Nat),l.map ec=(kC l).map λq=>4*q.2+kc q.1:=λl=>by unfold kC;rw[Pp];rfl
 have q3:kC J=kC bf:=q2;have e:J.map ec=bf.map ec:=by rw[ee,ee,q3]
 rw[e]at V Z I';unfold vR;rw[lN I,lN I',Ep _ I W O WA WB,Ep _ I' U D WA WB]
end
section
variable {n:Nat}{ms os:List Nat}{bf:List (Kd×List Nat)}
theorem tE(W:ak n ms)(D:ak n os)(h:bW n ms os bf):fJ (2*n) (ar ms) (ar os) bf:=⟨bJ W D,h.1,h.2⟩
theorem oX(W:ak n ms)(U:ak n os)(Z:bW n ms os bf)(c:Nat×Nat):c∈(cU bf).filter (bA n ms)↔c∈dG n os ms:=by
 have A:=tE W U Z;unfold dG rT;rw[O0,O0,jv,@decide_eq_true_iff _ (Classical.propDecidable _)];have key:c.1<=c.2->c.2<2*n->ar ms c.1≠c.2->(c∈cU bf↔aC n (bM ms c.1 c.2) os+1=aC n ms os):=λG D V=>by
  rw[zr W U (by omega) D V];exact A.near G D V λx hx=>dy (by rw[W.len];exact hx)
 constructor
 .rintro⟨O,J⟩;obtain⟨G,D⟩:=A.bound O;unfold bA at J;rw[PX,Uy,Uy,rV G D]at J;exact⟨⟨by omega,G,D⟩,J.1,J.2,(key G D J.1).mp O⟩
 rintro⟨⟨_,G,D⟩,O,J,h3⟩;refine⟨(key G D O).mpr h3,?_⟩;unfold bA;rw[PX,Uy,Uy,rV G D];exact⟨O,J⟩
theorem vH(W:ak n ms)(D:ak n os)(G:bW n ms os bf):((cU bf).filter (bA n ms)).Perm (dG n os ms):=
 (P0 ((tE W D G).nodup.filter _) Ea).mpr (oX W D G)
theorem B1(W:ak n ms)(O:ak n os)(U:bW n ms os bf){D:List (Nat×Nat)}(hp:D.Perm ((cU bf).filter (bA n ms)))(hs:D.Pairwise λc d=>um c<=um d):D=dG n os ms:=by
 have hn:=W.small;have ad:(dG n os ms).Pairwise λc d=>um c<um d:=(oP (N:=2*n) (by omega) (2*n)).filter _;have J:=vH W O U;have bd:∀c∈dG n os ms,c.2<2*n:=λc G=>(cO G).2.1;refine List.Perm.eq_of_pairwise (le:=λc d=>um c<=um d) (λc d G hd V Z=>?_) hs (ad.imp λh=>by omega) (hp.trans J);have b1:=bd c ((hp.trans J).mem_iff.mp G);have b2:=bd d hd;unfold um at V Z;exact R4 (by omega) (by omega)
theorem gR(W:ak n ms)(D:ak n os)(h:bW n ms os bf):(bf.map cT).sum=aC n ms os:=by
 have c:=h.counts W D;have L:=(jw W D h).len;have g:∀th∈bf,cp (2*n) (ar ms) (ar os) th.1 th.2:=λth J=>h.good W D J;have key:2*(bf.map cT).sum+(2*(bf.map λth=>ks th.1).countP (· == ks .ring)+(bf.map λth=>ks th.1).countP (· == ks .odd))=(iZ bf).length:=by
  clear c L h
  induction bf with
  |nil=>rfl
  |cons th r U =>
   have U:=U λt J=>g t (O1 _ J);have G:=g th O2;have par:=G.par;have ne:=G.ne;have e:iZ (th::r)=th.2++iZ r:=rfl;rw[e,OQ,Po,Po,Qe,RK,RK];have V:cT th=if th.1=.ring then th.2.length/2-1 else th.2.length/2:=rfl;rw[V];have F:=G.fin;cases k:th.1 with
   |ring =>
    rw[k]at par F;have Z:2<=th.2.length:=by
     refine OU λz=>F.2.1 ?_
     match th.2,z,ne with
     |[x],_,_=>rfl
     |_::_::_,z,_=>exact Us (by simp) z
    have O:¬th.2.length%2=1:=λz=>by cases par.mp z
    rw[Uo rfl,Uo (by decide),Uk (by decide)];omega
   |odd =>
    rw[k]at par;have O:=par.mpr rfl;rw[Uk (by decide),Uk (by decide),Uo (by decide)];omega
   |bare =>
    rw[k]at par;have O:¬th.2.length%2=1:=λz=>by cases par.mp z
    rw[Uk (by decide),Uk (by decide),Uk (by decide)];omega
   |tied =>
    rw[k]at par;have O:¬th.2.length%2=1:=λz=>by cases par.mp z
    rw[Uk (by decide),Uk (by decide),Uk (by decide)];omega
 unfold aC;omega
def tF(n:Nat)(ms os:List Nat):Prop:=∀x,x<2*n->(eF (2*n) (ar ms) (ar os) x).length<=3
theorem tF.cN(S:tF n ms os)(W:ak n ms)(D:ak n os)(h:bW n ms os bf){th:Kd×List Nat}(J:th∈bf):th.2.length<=3:=by
 have G:=h.good W D J;obtain⟨x,O⟩:∃x,x∈th.2:=Q6 G.ne;rw[<-(iS W D h J O).2];exact S x (G.lt x O)
inductive JE (a b:Nat->Nat):Kd->List Nat->Prop
 |ring {x y:Nat}:a x=y->JE a b .ring [x,y]
 |one {x:Nat}:JE a b .odd [x]
 |odd {x y z:Nat}:a x=x->b x=y->a y=z->b z=z->JE a b .odd [x,y,z]
 |bare {x y:Nat}:a x=x->a y=y->b x=y->JE a b .bare [x,y]
 |tied {x y:Nat}:a x=y->b x=x->b y=y->x<y->JE a b .tied [x,y]
theorem Kq{N:Nat}{a b:Nat->Nat}{k:Kd}{L:List Nat}(G:cp N a b k L)(h:L.length<=3):JE a b k L:=by
 have ne:=G.ne;have par:=G.par;have lk:=G.lk;have F:=G.fin
 match L,h,ne with
 |[x],_,_ =>
  have k1:k=.odd:=par.mp rfl;subst k1;exact .one
 |[x,y],_,_ =>
  have D:=(lk 0 x y rfl rfl).1;cases k with
  |ring=>exact .ring D
  |odd=>exact Us (par.mpr rfl) (by simp)
  |bare=>exact .bare F.1 F.2.1 D
  |tied=>exact .tied D F.1 F.2.1 F.2.2
 |[x,y,z],_,_ =>
  have k1:k=.odd:=par.mp (by simp);subst k1;exact .odd F.1 (lk 0 x y rfl rfl).1 (lk 1 y z rfl rfl).1 F.2
theorem vI{p q:Nat}(D:p<=q)(G:q<2*n):decide (Fits n ms (p:Nat) (q:Nat))=decide (ar ms p≠q):=decide_eq_decide.mpr (rV D G)
theorem sd{c:Nat×Nat}(D:c.1<=c.2)(G:c.2<2*n)(h:ar ms c.1=c.2):bA n ms c=false:=by
 unfold bA;rw[vI D G,Up (λz=>z h),Qw]
theorem se(W:ak n ms){x y:Nat}(J:x<2*n)(G:y<2*n)(ne:x≠y)(D:ar ms x=x):bA n ms (ord x y)=true:=by
 have key:∀p q:Nat,p<=q->q<2*n->ar ms p≠q->¬(ar ms p≠p/\ar ms q≠q)->bA n ms (p,q)=true:=λp q O U V Z=>by
  unfold bA eo;rw[vI O U,Ul V,Uk Z,Ul rfl];rfl
 by_cases c:x<=y
 .rw[eu c];exact key x y c G (by rw[D];exact ne) λz=>z.1 D
 rw[gk,eu (by omega)];refine key y x (by omega) J (λz=>ne ?_) λz=>z.2 D;have:=W.wk.inv y G;rw[z,D]at this;exact this
theorem iE(W:ak n ms){x y:Nat}(D:x<2*n)(J:y<2*n)(G:ar ms x=y):bA n ms (ord x y)=false:=by
 have e:=W.wk.inv x D;rw[G]at e;by_cases c:x<=y
 .rw[eu c];exact sd c J G
 rw[gk,eu (by omega)];exact sd (show y<=x by omega) D e
theorem uB(W:ak n ms){x y:Nat}(G:x<2*n)(U:y<2*n)(D:ar ms x=y)(lt:x<y):bA n ms (x,x)=true/\bA n ms (y,y)=false:=by
 have e:=W.wk.inv x G;rw[D]at e;have J:bQ ms x x=(y,y):=by unfold bQ;rw[D,R5,T6]
 have O:bQ ms y y=(x,x):=by unfold bQ;rw[e,R5,T6]
 constructor
 .unfold bA eo;rw[vI (ON x) G,Ul (by rw[D];omega),Uo ⟨by rw[D];omega,by rw[D];omega⟩,J,Uk (by simp only;omega),Ul rfl];rfl
 unfold bA eo;have ne:((x,x):Nat×Nat)≠(y,y):=λz=>by injection z with V Z;omega
 rw[Uo ⟨by rw[e];omega,by rw[e];omega⟩,O,Uo (.inl lt),Up ne,RG]
noncomputable def vJ(n:Nat)(ms:List Nat)(th:Kd×List Nat):Nat:=((bZ th.2).filter (bA n ms)).length+(if th.1=.tied then((th.2.map λe=>(e,e)).filter (bA n ms)).length else 0)
theorem Er(W:ak n ms){k:Kd}{L:List Nat}(h:JE (ar ms) (ar os) k L)(lt:∀x∈L,x<2*n)(nd:L.Nodup):vJ n ms (k,L)=cT (k,L):=by
 cases h with
 | @ring x y V =>
  have e:bZ [x,y]=[ord x y]:=rfl;have D:=iE W (lt x (by simp)) (lt y (by simp)) V;simp[vJ,cT,e,D]
 | @one x =>
  have e:bZ [x]=[]:=rfl;simp[vJ,cT,e]
 | @odd x y z G O J U =>
  have e:bZ [x,y,z]=[ord x y,ord y z]:=rfl;have ne:x≠y:=λz=>by subst z;simp at nd
  have D:=se W (lt x (by simp)) (lt y (by simp)) ne G;have Z:=iE W (lt y (by simp)) (lt z (by simp)) J;simp[vJ,cT,e,D,Z]
 | @bare x y G O J =>
  have e:bZ [x,y]=[ord x y]:=rfl;have ne:x≠y:=λz=>by subst z;simp at nd
  have D:=se W (lt x (by simp)) (lt y (by simp)) ne G;simp[vJ,cT,e,D]
 | @tied x y G O J U =>
  have e:bZ [x,y]=[ord x y]:=rfl;obtain⟨o1,o2⟩:=uB W (lt x (by simp)) (lt y (by simp)) G U;have D:=iE W (lt x (by simp)) (lt y (by simp)) G;simp[vJ,cT,e,D,o1,o2]
theorem A3(n:Nat)(ms:List Nat):∀bf:List (Kd×List Nat),((bf.flatMap λth=>bZ th.2).filter (bA n ms)).length+(((aV bf .tied).map λe=>(e,e)).filter (bA n ms)).length=(bf.map (vJ n ms)).sum
 |[]=>rfl
 |th::r=>by
  have D:=A3 n ms r;rw[QI,Pa,OQ,Po,Qe,<-D];unfold vJ;by_cases c:th.1=.tied
  .have e:aV (th::r) .tied=th.2++aV r .tied:=by
    unfold aV;rw[Pe (by exact Ul c),QI]
   rw[Uo c,e,O5,Pa,OQ];omega
  have e:aV (th::r) .tied=aV r .tied:=by
   unfold aV;rw[Pf (by rw[Up c];decide)]
  rw[Uk c,e];omega
theorem vK(S:tF n ms os)(W:ak n ms)(D:ak n os)(h:bW n ms os bf):(dG n os ms).length=((c7 (aV bf .bare) (aV bf .tied)).filter (bA n ms)).length+aC n ms os:=by
 rw[<-(vH W D h).length_eq,<-gR W D h];unfold cU;rw[Pa,Pa,OQ,OQ];have e:=A3 n ms bf;have e2:bf.map (vJ n ms)=bf.map cT:=PB λth J=>by
  have G:=h.good W D J;exact Er (os:=os) W (Kq G (S.cN W D h J)) G.lt G.nd
 rw[e2]at e;omega
theorem nQ(D:both (bf.map (·.1))=false):c7 (aV bf .bare) (aV bf .tied)=[]:=by
 refine List.eq_nil_iff_forall_not_mem.mpr λc G=>?_;obtain⟨x,J,y,O,_⟩:=iC.mp G;obtain⟨U,V,Z,_⟩:=bj.mp J;obtain⟨t2,h3,h4,_⟩:=bj.mp O;unfold both at D;rw[Ul (OO.mpr ⟨U,V,Z⟩),Ul (OO.mpr ⟨t2,h3,h4⟩)]at D;cases D
theorem JF(S:tF n ms os)(W:ak n ms)(G:ak n os)(hn:n<=6):(dG n os ms).length<=42:=by
 obtain⟨bf,h⟩:=eC W G;rw[vK S W G h];have A:=tE W G h;have c1:=Pm (bA n ms) (c7 (aV bf .bare) (aV bf .tied));have c2:=ui (aV bf .bare) (aV bf .tied);have U:(aV bf .bare++aV bf .tied).length<=2*n:=by
  have z:=sub_len (l:=aV bf .bare++aV bf .tied) (m:=OV (2*n)) (PY.mpr ⟨A.lM _,A.lM _,λx D y V=>A.DN D V⟩) λx D=>by
   rcases OY.mp D with D|D
   .obtain⟨th,J,_,O⟩:=bj.mp D;exact OX.mpr (A.lt J O)
   obtain⟨th,J,_,O⟩:=bj.mp D;exact OX.mpr (A.lt J O)
  rw[OW]at z;exact z
 rw[OQ]at U;have ap:aC n ms os<=n:=iT;generalize(aV bf .bare).length=u at *;generalize(aV bf .tied).length=v at *;have:u*v<=36:=by
  have Z:u<=12:=by omega
  have hv:v<=12-u:=by omega
  refine PD (Nat.mul_le_mul_left u hv) ?_;have:∀u,u<=12->u*(12-u)<=36:=by decide
  exact this u Z
 omega
end
section
open Classical
variable {N:Nat}{a b a2:Nat->Nat}{v:Nat}
theorem gG{x y:Nat}:y∈eF N a b x↔y<N/\aB a b x y:=by unfold eF;rw[O0,OX,Uy]
theorem k8{x:Nat}:(eF N a b x).Nodup:=by unfold eF;exact PL.filter _
theorem Es(T:cv N a b)(h:∀z,z<N->aB a b z (a2 z)){x y:Nat}(G:x<N)(c:aB a2 b x y):aB a b x y :=
 (c (λz=>z<N/\aB a b x z) ⟨G,aB.refl x⟩ λz ⟨hz,D⟩=>⟨⟨(h z hz).lt T hz,D.trans (h z hz)⟩,⟨T.gl z hz,D.sg⟩⟩).2
theorem Et(T:cv N a b)(h:∀z,z<N->aB a b z (a2 z)){x:Nat}(D:x<N):(eF N a2 b x).length<=(eF N a b x).length :=
 sub_len k8 λy G=>by
  obtain⟨J,O⟩:=gG.mp G;exact gG.mpr ⟨J,Es T h D O⟩
theorem pI{S:List Nat}{x:Nat}(D:x∈S)(cl:∀z∈S,a2 z∈S/\b z∈S):(eF N a2 b x).length<=S.length :=
 sub_len k8 λy G=>(gG.mp G).2 (·∈S) D cl
theorem iF(h:∀z,aB a b v z->a2 z=a z)(w:Nat):aB a2 b v w↔aB a b v w:=by
 constructor
 .intro c;exact c (λz=>aB a b v z) (aB.refl v) λz D=>⟨by rw[h z D];exact D.sf,D.sg⟩
 intro c;exact(c (λz=>aB a2 b v z/\aB a b v z) ⟨aB.refl v,aB.refl v⟩ λz ⟨c1,c2⟩=>⟨⟨by rw[<-h z c2];exact c1.sf,c2.sf⟩,c1.sg,c2.sg⟩).1
theorem GV(h:∀z,aB a b v z->a2 z=a z):kd a2 b v=kd a b v:=by
 have A:cI a2 b v↔cI a b v:=⟨λ⟨u,c,e⟩=>⟨u,(iF h u).mp c,by rw[<-h u ((iF h u).mp c)];exact e⟩,λ⟨u,c,e⟩=>⟨u,(iF h u).mpr c,by rw[h u c];exact e⟩⟩
 have B:c6 a2 b v↔c6 a b v:=⟨λ⟨u,c,e⟩=>⟨u,(iF h u).mp c,e⟩,λ⟨u,c,e⟩=>⟨u,(iF h u).mpr c,e⟩⟩
 have O:fZ a2 b v↔fZ a b v:=and_congr A B;unfold kd;rw[propext A,propext B,propext O]
theorem yc(T:cv N a b){p q:Nat}(hp:p<N)(G:q<N)(c:aB a b p q)(z:Nat):aB a b z (cG a p q z):=by
 have D:=c.symm T hp;have r:∀x,aB a b x (a x):=λx=>(aB.refl x).sf;have s:∀x,x<N->aB a b (a x) x:=λx J=>(r x).symm T J;unfold cG
 split
 .split
  .exact aB.refl z
  exact r z
 split
 .rename_i e;rw[e];exact c
 split
 .rename_i e;rw[e];exact D
 split
 .split
  .rename_i e _;rw[e];exact(s p hp).trans (c.trans (r q))
  exact aB.refl z
 split
 .split
  .rename_i e _;rw[e];exact(s q G).trans (D.trans (r p))
  exact aB.refl z
 exact r z
theorem A4(cl:∃S:Nat->Prop,S v/\∀z,S z->a z≠z/\b z≠z/\S (a z)/\S (b z)):kd a b v=.ring:=by
 obtain⟨S,J,D⟩:=cl;have G:∀u,aB a b v u->S u:=λu c=>c S J λz hz=>⟨(D z hz).2.2.1,(D z hz).2.2.2⟩
 unfold kd;have A:¬cI a b v:=λ⟨u,c,e⟩=>(D u (G u c)).1 e;have B:¬c6 a b v:=λ⟨u,c,e⟩=>(D u (G u c)).2.1 e;rw[Uk (λz=>A z.1),Uk A,Uk B]
theorem zH(D:a v=v)(G:b v=v):kd a b v=.odd:=by
 unfold kd;rw[Uo ⟨⟨v,aB.refl v,D⟩,v,aB.refl v,G⟩]
end
section
variable {n:Nat}{ms os:List Nat}{bf:List (Kd×List Nat)}
theorem closed{N:Nat}{a b:Nat->Nat}(A:fJ N a b bf){s:Kd×List Nat}(hs:s∈bf){x y:Nat}(D:x∈s.2)(c:aB a b x y):y∈s.2:=by
 obtain⟨t,J,G⟩:=A.mem (c.lt A.T (A.lt hs D));rw[A.conn hs J D G c];exact G
theorem vL{N:Nat}{a b:Nat->Nat}(A:fJ N a b bf){s:Kd×List Nat}(hs:s∈bf){x y:Nat}(D:x∈s.2)(G:y∈s.2):aB a b x y:=by
 obtain⟨u,J,C⟩:=A.comp hs;exact(((C.mem x).mp D).symm A.T J).trans ((C.mem y).mp G)
theorem tF.bM(S:tF n ms os)(W:ak n ms)(Z:ak n os){c:Nat×Nat}(hc:c∈dG n os ms):tF n (aI.bM ms c.1 c.2) os:=by
 obtain⟨bf,h⟩:=eC W Z;have A:=tE W Z h;have T:=bJ W Z;obtain⟨c1,c2,c3,c4⟩:=cO hc;have hp:=(O0.mp ((oX W Z h c).mpr hc)).1;have ba:∀z,z<2*n->ar (aI.bM ms c.1 c.2) z=cG (ar ms) c.1 c.2 z:=λz hz=>dy (by rw[W.len];exact hz);have sub:aB (ar ms) (ar os) c.1 c.2->tF n (aI.bM ms c.1 c.2) os:=λcn x hx=>PD (Et T (λz hz=>by rw[ba z hz];exact yc T (by omega) c2 cn z) hx) (S x hx);rcases gF.mp hp with⟨x,hx,y,hy,e⟩|⟨th,ht,hs⟩|⟨x,hx,e⟩
 .obtain⟨t1,O,k1,m1⟩:=bj.mp hx;obtain⟨t2,U,k2,m2⟩:=bj.mp hy;have xy:=A.DN hx hy;have lx:=A.lt O m1;have ly:=A.lt U m2;have f1:=Kq (h.good W Z O) (S.cN W Z h O);have f2:=Kq (h.good W Z U) (S.cN W Z h U);have n1:=(h.good W Z O).nd;have n2:=(h.good W Z U).nd;obtain⟨G,ax,ax',bx,bx',all1,GW⟩:∃G,ar ms x=x/\ar ms G=G/\ar os x=G/\ar os G=x/\(∀z∈t1.2,z=x\/z=G)/\G∈t1.2:=by
   obtain⟨k,L⟩:=t1;simp only at k1 m1 f1 n1⊢;subst k1;cases f1 with
   | @bare u w e1 e2 e3 =>
    have g:=T.gg u (A.lt O (by simp));rw[e3]at g;rcases O9.mp m1 with rfl|m
    .exact⟨w,e1,e2,e3,g,by simp,by simp⟩
    obtain rfl:=OS.mp m;exact⟨u,e2,e1,g,e3,by simp[or_comm],by simp⟩
  obtain⟨D,ay,ay',bY,bY',all2,V,nyy⟩:∃D,ar ms y=D/\ar ms D=y/\ar os y=y/\ar os D=D/\(∀z∈t2.2,z=y\/z=D)/\D∈t2.2/\y≠D:=by
   obtain⟨k,L⟩:=t2;simp only at k2 m2 f2 n2⊢;subst k2;cases f2 with
   | @tied u w e1 e2 e3 e4 =>
    have g:=T.ff u (A.lt U (by simp));rw[e1]at g;rcases O9.mp m2 with rfl|m
    .exact⟨w,e1,g,e2,e3,by simp,by simp,by omega⟩
    obtain rfl:=OS.mp m;exact⟨u,g,e1,e3,e2,by simp[or_comm],by simp,by omega⟩
  have NF:∀u∈t1.2,∀z∈t2.2,u≠z:=λu hu z hz e=>by
   subst e;have:=A.same O U hu hz;rw[this,k2]at k1;cases k1
  have NG:∀z,z<2*n->ar (aI.bM ms c.1 c.2) z=cG (ar ms) x y z:=λz hz=>by
   rw[ba z hz];by_cases le:x<=y
   .rw[eu le]at e;rw[e]
   rw[gk,eu (by omega)]at e;rw[e];exact lK (λq=>xy q.symm) z
  have e1:ar (aI.bM ms c.1 c.2) x=y:=by rw[NG x lx];unfold cG;rw[Uk xy,Uo rfl]
  have e2:ar (aI.bM ms c.1 c.2) y=x:=by rw[NG y ly];unfold cG;rw[Uk xy,Uk (λq=>xy q.symm),Uo rfl]
  have ly':D<2*n:=A.lt U V;have e3:ar (aI.bM ms c.1 c.2) D=D:=by
   rw[NG D ly'];unfold cG;rw[Uk xy,Uk (λq=>NF x m1 D V q.symm),Uk (λq=>nyy q.symm),ax,Uk (λq=>NF x m1 D V q.symm),ay,Uo rfl,Uk (λq=>q rfl)]
  have e4:∀z,z<2*n->z≠x->z≠y->z≠D->ar (aI.bM ms c.1 c.2) z=ar ms z:=λz hz z1 z2 z3=>by
   rw[NG z hz];unfold cG;rw[Uk xy,Uk z1,Uk z2,ax,Uk z1,ay,Uk z3]
  intro v hv;by_cases v1:v∈t1.2\/v=y
  .refine pI (S:=[x,G,y]) ?_ λz hz=>?_
   .rcases v1 with v1|v1
    .rcases all1 v v1 with q|q <;> rw[q] <;> simp
    rw[v1];simp
   rcases O9.mp hz with q|hz
   .rw[q,e1,bx];simp
   rcases O9.mp hz with q|hz
   .by_cases xx:G=x
    .have e5:ar (aI.bM ms c.1 c.2) G=y:=by rw[xx];exact e1
     rw[q,e5,bx'];simp
    rw[q,e4 G (A.lt O GW) xx (NF G GW y m2) (NF G GW D V),ax',bx'];simp
   obtain q:=OS.mp hz;rw[q,e2,bY];simp
  by_cases v2:v=D
  .refine PD (pI (S:=[D]) (by rw[v2];simp) λz hz=>?_) (by simp);rw[OS.mp hz,e3,bY'];simp
  have key:∀z,aB (ar ms) (ar os) v z->ar (aI.bM ms c.1 c.2) z=ar ms z:=λz cz=>by
   have J:=cz.symm T hv;refine e4 z (cz.lt T hv) (λq=>v1 (.inl ?_)) (λq=>?_) λq=>?_
   .rw[q]at J;exact closed A O m1 J
   .rw[q]at J;rcases all2 v (closed A U m2 J)with w|w
    .exact v1 (.inr w)
    exact v2 w
   rw[q]at J;rcases all2 v (closed A U V J)with w|w
   .exact v1 (.inr w)
   exact v2 w
  refine PD (sub_len k8 λy hy=>?_) (S v hv);obtain⟨q1,q2⟩:=gG.mp hy;exact gG.mpr ⟨q1,(iF key y).mp q2⟩
 .obtain⟨i,j,x,y,_,_,O,U,e⟩:=dA.mp hs;have cn:=vL A ht (OP O) (OP U);refine sub ?_;by_cases le:x<=y
  .rw[eu le]at e;rw[e];exact cn
  rw[gk,eu (by omega)]at e;rw[e];exact cn.symm T (A.lt ht (OP O))
 exact sub (by rw[e];exact aB.refl x)
theorem eM(S:tF n ms os)(W:ak n ms)(D:ak n os)(nb:aP n ms os){c:Nat×Nat}(hc:c∈dG n os ms):aP n (bM ms c.1 c.2) os:=by
 obtain⟨bf,h⟩:=eC W D;have A:=tE W D h;have T:=bJ W D;obtain⟨c1,c2,c3,c4⟩:=cO hc;have W2:=dz W (by omega) c2 c3;obtain⟨hp,bN⟩:=O0.mp ((oX W D h c).mpr hc);have ba:∀z,z<2*n->ar (bM ms c.1 c.2) z=cG (ar ms) c.1 c.2 z:=λz hz=>dy (by rw[W.len];exact hz);have Z:=(cV W D h).mp nb;have key:∃th∈bf,(∀z,z<2*n->z∉th.2->ar (bM ms c.1 c.2) z=ar ms z)/\∀v∈th.2,kd (ar (bM ms c.1 c.2)) (ar os) v=.ring\/kd (ar (bM ms c.1 c.2)) (ar os) v=.odd:=by
  have two:∀x y,x<2*n->x≠y->c=ord x y->∀z,z<2*n->ar (bM ms c.1 c.2) z=cG (ar ms) x y z:=λx y _ xy e z hz=>by
   rw[ba z hz];by_cases le:x<=y
   .rw[eu le]at e;rw[e]
   rw[gk,eu (by omega)]at e;rw[e];exact lK (λq=>xy q.symm) z
  rcases gF.mp hp with⟨x,hx,y,hy,e⟩|⟨th,ht,hs⟩|⟨x,hx,e⟩
  .exfalso;have z:=nQ Z;have m:c∈c7 (aV bf .bare) (aV bf .tied):=iC.mpr ⟨x,hx,y,hy,e⟩;rw[z]at m;cases m
  .refine⟨th,ht,?_⟩;have G:=h.good W D ht;have f:=Kq G (S.cN W D h ht);have nd:=G.nd;have lt:=G.lt;obtain⟨k,L⟩:=th;simp only at f nd lt hs⊢;cases f with
   | @ring x y ha =>
    have es:bZ [x,y]=[ord x y]:=rfl;rw[es]at hs;rw[OS.mp hs,iE W (lt x (by simp)) (lt y (by simp)) ha]at bN;cases bN
   | @one x=>cases(show c∈([]:List (Nat×Nat))from hs)
   | @odd x y z J h2 h3 h4 =>
    have es:bZ [x,y,z]=[ord x y,ord y z]:=rfl;rw[es]at hs;have ne:x≠y:=λq=>by subst q;simp at nd
    have ne2:x≠z:=λq=>by subst q;simp at nd
    have ne3:y≠z:=λq=>by subst q;simp at nd
    have O:=lt x (by simp);have ly:=lt y (by simp);have lz:=lt z (by simp);have bY:=T.gg x O;rw[h2]at bY;rcases O9.mp hs with e|hs
    .have B:=two x y O ne e;have e1:ar (bM ms c.1 c.2) x=y:=by rw[B x O];unfold cG;rw[Uk ne,Uo rfl]
     have e2:ar (bM ms c.1 c.2) y=x:=by rw[B y ly];unfold cG;rw[Uk ne,Uk (λq=>ne q.symm),Uo rfl]
     have e3:ar (bM ms c.1 c.2) z=z:=by rw[B z lz];unfold cG;rw[Uk ne,Uk (λq=>ne2 q.symm),Uk (λq=>ne3 q.symm),J,Uk (λq=>ne2 q.symm),h3,Uo rfl,Uk (λq=>q rfl)]
     refine⟨λu hu U=>?_,λv V=>?_⟩
     .rw[B u hu];unfold cG;simp only[O9,Qp,or_false,not_or]at U;rw[Uk ne,Uk U.1,Uk U.2.1,J,Uk U.1,h3,Uk U.2.2]
     have ring:∀v,v=x\/v=y->kd (ar (bM ms c.1 c.2)) (ar os) v=.ring:=λv V=>A4 ⟨λu=>u=x\/u=y,V,λu hu=>by
      rcases hu with rfl|rfl
      .rw[e1,h2];exact⟨λq=>ne q.symm,λq=>ne q.symm,.inr rfl,.inr rfl⟩
      rw[e2,bY];exact⟨ne,ne,.inl rfl,.inl rfl⟩⟩
     rcases O9.mp V with q|V
     .exact .inl (ring v (.inl q))
     rcases O9.mp V with q|V
     .exact .inl (ring v (.inr q))
     rw[OS.mp V];exact .inr (zH e3 h4)
    rw[OS.mp hs,iE W ly lz h3]at bN;cases bN
   | @bare x y J h2 h3 =>
    have es:bZ [x,y]=[ord x y]:=rfl;rw[es]at hs;have e:=OS.mp hs;have ne:x≠y:=λq=>by subst q;simp at nd
    have O:=lt x (by simp);have ly:=lt y (by simp);have bY:=T.gg x O;rw[h3]at bY;have B:=two x y O ne e;have e1:ar (bM ms c.1 c.2) x=y:=by rw[B x O];unfold cG;rw[Uk ne,Uo rfl]
    have e2:ar (bM ms c.1 c.2) y=x:=by rw[B y ly];unfold cG;rw[Uk ne,Uk (λq=>ne q.symm),Uo rfl]
    refine⟨λu hu U=>?_,λv V=>.inl (A4 ⟨λu=>u=x\/u=y,by simpa using V,λu hu=>?_⟩)⟩
    .rw[B u hu];unfold cG;simp only[O9,Qp,or_false,not_or]at U;rw[Uk ne,Uk U.1,Uk U.2,J,Uk U.1,h2,Uk U.2]
    rcases hu with rfl|rfl
    .rw[e1,h3];exact⟨λq=>ne q.symm,λq=>ne q.symm,.inr rfl,.inr rfl⟩
    rw[e2,bY];exact⟨ne,ne,.inl rfl,.inl rfl⟩
   | @tied x y J h2 h3 h4 =>
    have es:bZ [x,y]=[ord x y]:=rfl;rw[es]at hs;rw[OS.mp hs,iE W (lt x (by simp)) (lt y (by simp)) J]at bN;cases bN
  obtain⟨th,ht,k1,m1⟩:=bj.mp hx;refine⟨th,ht,?_⟩;have G:=h.good W D ht;have f:=Kq G (S.cN W D h ht);have lt:=G.lt;obtain⟨k,L⟩:=th;simp only at f lt m1 k1⊢;subst k1;cases f with
  | @tied u w J h2 h3 h4 =>
   have lu:=lt u (by simp);have lw:=lt w (by simp);have g:=T.ff u lu;rw[J]at g;have both:∀z,ar (bM ms c.1 c.2) z=ar (bM ms x x) z:=λz=>by rw[e]
   have B:∀z,z<2*n->ar (bM ms c.1 c.2) z=if z=u\/z=w then z else ar ms z:=λz hz=>by
    rw[ba z hz,e];unfold cG;rw[Uo rfl];rcases O9.mp m1 with q|m
    .rw[q,J]
    rw[OS.mp m,g];have:(z=w\/z=u)=(z=u\/z=w):=propext or_comm;simp only[this]
   refine⟨λz hz nz=>?_,λv V=>.inr ?_⟩
   .rw[B z hz,Uk (λq=>nz (by rcases q with q|q <;> rw[q] <;> simp))]
   rcases O9.mp V with q|m
   .rw[q];exact zH (by rw[B u lu,Uo (.inl rfl)]) h2
   rw[OS.mp m];exact zH (by rw[B w lw,Uo (.inr rfl)]) h3
 obtain⟨th,ht,k1,k2⟩:=key;obtain⟨mM,h'⟩:=eC W2 D;have A':=tE W2 D h';rw[cV W2 D h'];have back:∀k:Kd,k≠.ring->k≠.odd->k∈mM.map (·.1)->k∈bf.map (·.1):=λk kr ko hk=>by
  obtain⟨t',Me,e⟩:=OO.mp hk;obtain⟨x,hx⟩:∃x,x∈t'.2:=Q6 (h'.good W2 D Me).ne;have O:=A'.lt Me hx;have kx:=(iS W2 D h' Me hx).1;have nx:x∉th.2:=λz=>by
   rcases k2 x z with q|q
   .exact kr (by rw[<-e,<-kx,q])
   exact ko (by rw[<-e,<-kx,q])
  have ks:=GV (a:=ar ms) (b:=ar os) (a2:=ar (bM ms c.1 c.2)) (v:=x) λz cz=>k1 z (cz.lt T O) λm=>nx (closed A ht m (cz.symm T O));obtain⟨t,J,h2⟩:=A.mem O;refine OO.mpr ⟨t,J,?_⟩;rw[<-(iS W D h J h2).1,<-ks,kx,e]
 unfold both at Z⊢;rw[SF]at Z⊢;rcases Z with q|q
 .exact .inl (Up λz=>of_decide_eq_false q (back .bare (by decide) (by decide) z))
 exact .inr (Up λz=>of_decide_eq_false q (back .tied (by decide) (by decide) z))
theorem vM(S:tF n ms os)(W:ak n ms)(D:ak n os)(G:aP n ms os):vR n ms os=lX (aC n ms os):=by
 obtain⟨bf,h⟩:=eC W D;rw[uA G,oW W D h,BZ (λx J=>?_),gR W D h];obtain⟨th,O,rfl⟩:=OO.mp J;have U:=S.cN W D h O;unfold cT
 split <;> omega
theorem Eu(W:ak n ms)(S:tF n ms ms):vR n ms ms=1:=by rw[vM S W W (pH W),(cJ W W).mpr rfl];rfl
theorem lO{α:Type}{f:α->Nat}{k:Nat}:∀l:List α,(∀x∈l,f x=k)->(l.map f).sum=l.length*k
 |[],_=>by simp
 |x::r,h=>by rw[Po,Qe,h x O2,lO r λy D=>h y (O1 _ D),Ph,SG];omega
theorem Ew{α:Type}{f:α->Nat}{k:Nat}:∀l:List α,(∀x∈l,k<=f x)->l.length*k<=(l.map f).sum
 |[],_=>by simp
 |x::r,h=>by
  have G:=h x O2;have J:=Ew r λy D=>h y (O1 _ D);rw[Po,Qe,Ph,SG];omega
theorem v_sum(S:tF n ms os)(W:ak n ms)(D:ak n os)(ne:ms≠os):vR n ms os=((dG n os ms).map λc=>vR n (bM ms c.1 c.2) os).sum:=by
 by_cases G:aP n ms os
 .obtain⟨bf,h⟩:=eC W D;have dl:=vK S W D h;rw[nQ ((cV W D h).mp G)]at dl;have dl:(dG n os ms).length=aC n ms os:=by rw[dl];exact Qh _
  cases e:aC n ms os with
  |zero=>exact Us ((cJ W D).mp e) ne
  |succ j =>
   rw[vM S W D G,e,lO (k:=lX j) _ λc J=>?_,dl,e]
   .rfl
   obtain⟨c1,c2,O,c4⟩:=cO J;rw[vM (S.bM W D J) (dz W (by omega) c2 O) D (eM S W D G J),show aC n (bM ms c.1 c.2) os=j by omega]
 exact Eo W D G
theorem Mf:∀(j:Nat) {ms:List Nat},tF n ms os->ak n ms->ak n os->aC n ms os=j->lX j<=vR n ms os
 |0,ms,S,W,D,e=>by
  have q:=(cJ W D).mp e;subst q;rw[Eu W S];exact ON _
 |j+1,ms,S,W,D,e=>by
  have ne:ms≠os:=λz=>by rw[(cJ W D).mpr z]at e;cases e
  obtain⟨bf,h⟩:=eC W D;have dl:=vK S W D h;rw[v_sum S W D ne];have z:=Ew (f:=λc=>vR n (bM ms c.1 c.2) os) (k:=lX j) (dG n os ms) λc G=>by
   obtain⟨c1,c2,J,c4⟩:=cO G;exact Mf j (S.bM W D G) (dz W (by omega) c2 J) D (by omega)
  refine PD ?_ z;show(j+1)*lX j<=_;exact QU _ (by omega)
end
end gC
namespace aI
open PySem L2 gC
noncomputable def pick(f:Nat×Nat->Nat):List (Nat×Nat)->Nat->Option ((Nat×Nat)×Nat)
 |[],_=>none
 |c::r,x=>if x<f c then some (c,x)else pick f r (x-f c)
theorem uC{f:Nat×Nat->Nat}:∀{l:List (Nat×Nat)}{x:Nat},x<(l.map f).sum->∃c y D G,pick f l x=Yc (c,y)/\l=D++c::G/\y<f c/\x=(D.map f).sum+y
 |[],x,h=>by simp at h
 |c::r,x,h=>by
  unfold pick;by_cases e:x<f c
  .rw[Uo e];exact⟨c,x,[],r,rfl,rfl,e,by simp⟩
  rw[Uk e];rw[Po,Qe]at h;obtain⟨d,y,D,G,J,O,U,V⟩:=uC (f:=f) (l:=r) (x:=x-f c) (by omega);exact⟨d,y,c::D,G,J,by rw[O];rfl,U,by rw[Po,Qe];omega⟩
noncomputable def vO(c d:Nat×Nat):Bool:=decide (c.1<d.1\/c.1=d.1/\c.2<d.2)
inductive gn (n:Nat) (os:List Nat):List Nat->List (Nat×Nat)->Prop
 |nil:gn n os os []
 |cons {ms:List Nat}{c:Nat×Nat}{r:List (Nat×Nat)}:c∈dG n os ms->gn n os (bM ms c.1 c.2) r->gn n os ms (c::r)
section
variable {n:Nat}{os:List Nat}
theorem Ex{c d:Nat×Nat}(D:c.2<1000)(hd:d.2<1000):vO c d=true↔um c<um d:=by
 unfold vO um;rw[Uy];omega
end
def Mg(d l:Um)(H H':Hp):Prop:=∀c o,c≠d->c≠l->H c=Yc o->H' c=Yc o
variable (P:Ux)(w:UA)(K:OM)
end aI
namespace L2
open PySem
theorem GX{X:Cx}{K:OM}(D:X.K=K)(G:X.A.units<cLine):kA X (UQ .Lt) (Lm K):=D▸ID G
end L2
namespace aI
open PySem L2 gC
theorem zI(c d:Nat×Nat):HT.lexLt [(c.1:Int),(c.2:Int)] [(d.1:Int),(d.2:Int)]=vO c d:=by
 rw[HT.mC,HT.mC,HT.ma];unfold vO;rw[QV,Uy];by_cases h:(c.1:Int)=d.1
 .rw[Uo h];by_cases D:(c.2:Int)=d.2
  .rw[Uo D];constructor
   .intro z;cases z
   omega
  rw[Uk D,Uy];omega
 rw[Uk h,Uy];omega
theorem gn.ne{n:Nat}{os ms:List Nat}{c:Nat×Nat}{r:List (Nat×Nat)}(h:gn n os ms (c::r)):c∈dG n os ms/\gn n os (bM ms c.1 c.2) r:=by
 cases h with
 |cons D G=>exact⟨D,G⟩
theorem gn.end_{n:Nat}{os ms:List Nat}(h:gn n os ms []):ms=os:=by cases h;rfl
end aI
namespace gC
open Th aI
section
variable {n:Nat}{ms os:List Nat}{bf:List (Kd×List Nat)}
theorem uD{f:Kd×List Nat->Nat}{s t:Kd×List Nat}(ne:s≠t):∀l:List (Kd×List Nat),s∈l->t∈l->f s+f t<=(l.map f).sum
 |[],h,_=>by cases h
 |x::r,D,G=>by
  have one:∀u:Kd×List Nat,∀l:List (Kd×List Nat),u∈l->f u<=(l.map f).sum:=λu l=>by
   induction l with
   |nil=>intro h;cases h
   |cons y l J =>
    intro h;rw[Po,Qe];rcases O9.mp h with h|h
    .rw[h];omega
    have:=J h;omega
  rw[Po,Qe];rcases O9.mp D with e1|e1 <;> rcases O9.mp G with e2|e2
  .exact Us (e1.trans e2.symm) ne
  .rw[e1];have:=one t r e2;omega
  .rw[e2];have:=one s r e1;omega
  have:=uD (f:=f) ne r e1 e2;omega
theorem uE(W:ak n ms)(J:ak n os)(D:¬aP n ms os):2<=aC n ms os:=by
 obtain⟨bf,h⟩:=eC W J;rw[cV W J h,Bool.not_eq_false]at D;unfold both at D;rw[PX,Uy,Uy]at D;obtain⟨s,O,e1⟩:=OO.mp D.1;obtain⟨t,U,e2⟩:=OO.mp D.2;have z:=uD (f:=cT) (λe=>by rw[e,e2]at e1;cases e1) bf O U;rw[gR W J h]at z;have p:∀u∈bf,u.1=.bare\/u.1=.tied->1<=cT u:=λu V k=>by
  have G:=h.good W J V;have par:=G.par;have ne:=G.ne;have:¬u.2.length%2=1:=λq=>by
   have:=par.mp q;rcases k with k|k <;> rw[k]at this <;> cases this
  unfold cT;rw[Uk (λq=>by rcases k with k|k <;> rw[k]at q <;> cases q)];omega
 have:=p s O (.inl e1);have:=p t U (.inr e2);omega
def Mh(n:Nat)(ms os:List Nat):Prop:=∀bf,bW n ms os bf->(cU bf).length<=900/\((cU bf).filter (bA n ms)).length<=63
theorem GY(D:n<=8):(kU (2*n) (2*n)).length<=136:=by
 have:∀n,n<=8->(kU (2*n) (2*n)).length<=136:=by decide
 exact this n D
theorem JG(W:ak n ms)(D:ak n os)(G:n<=8)(hd:(dG n os ms).length<=63):Mh n ms os:=λbf h=>by
 refine⟨?_,by rw[(vH W D h).length_eq];exact hd⟩;have A:=tE W D h;have z:=sub_len A.nodup (m:=kU (2*n) (2*n)) λc J=>by
  obtain⟨O,U⟩:=A.bound J;exact jv.mpr ⟨by omega,O,U⟩
 have:=GY G;omega
def Gd(B n:Nat)(os ms:List Nat):Prop:=(B=55/\n<=5)\/(B=42/\n<=8/\tF n ms os/\(¬aP n ms os->n<=6))
theorem Gd.bM{B:Nat}(g:Gd B n os ms)(W:ak n ms)(D:ak n os){c:Nat×Nat}(G:c∈dG n os ms):Gd B n os (aI.bM ms c.1 c.2):=by
 rcases g with g|⟨O,U,J,V⟩
 .exact .inl g
 exact .inr ⟨O,U,J.bM W D G,λz=>V λZ=>z (eM J W D Z G)⟩
theorem Mi{n:Nat}{ms os:List Nat}:(dG n os ms).length<=(kU (2*n) (2*n)).length:=Pm _ _
theorem Gd.Fm{B:Nat}(g:Gd B n os ms)(W:ak n ms)(D:ak n os):(dG n os ms).length<=B:=by
 rcases g with⟨rfl,g⟩|⟨rfl,U,G,O⟩
 .have:=Jv (n:=n) g;have:=Mi (n:=n) (ms:=ms) (os:=os);omega
 by_cases J:aP n ms os
 .obtain⟨bf,h⟩:=eC W D;have dl:=vK G W D h;rw[nQ ((cV W D h).mp J)]at dl;have V:aC n ms os<=n:=iT;have:([]:List (Nat×Nat)).filter (bA n ms)=[]:=rfl;rw[this]at dl;simp only[Qn]at dl;omega
 exact JF G W D (O J)
theorem Gd.Kr{B:Nat}(g:Gd B n os ms):n<=8/\B<=55:=by
 rcases g with⟨rfl,g⟩|⟨rfl,D,G,J⟩
 .omega
 omega
theorem Gd.lim{B:Nat}(g:Gd B n os ms)(W:ak n ms)(D:ak n os):Mh n ms os:=JG W D g.Kr.1 (by have:=g.Fm W D;have:=g.Kr;omega)
noncomputable def wK(B:Nat):Nat->Nat
 |0=>0
 |1=>0
 |j+2=>1+B*wK B (j+1)
noncomputable def Fo(B:Nat):Nat->Nat
 |0=>0
 |j+1=>Fo B j+wK B (j+1)
noncomputable def gr(B n:Nat)(os ms:List Nat):Nat:=if both ((cC n ms os (2*n)).map (·.1))=false then 0 else wK B (aC n ms os)
noncomputable def B2(B n:Nat)(os ms:List Nat):Nat:=if both ((cC n ms os (2*n)).map (·.1))=false then 0 else Fo B (aC n ms os)
theorem A5{B:Nat}(h:aP n ms os):gr B n os ms=0:=Uo h
theorem oY{B:Nat}(h:¬aP n ms os):gr B n os ms=wK B (aC n ms os):=Uk h
theorem zJ{B:Nat}(h:aP n ms os):B2 B n os ms=0:=Uo h
theorem vP{B:Nat}(h:¬aP n ms os):B2 B n os ms=Fo B (aC n ms os):=Uk h
theorem HI{B:Nat}:gr B n os ms<=wK B (aC n ms os):=by unfold gr;split <;> omega
theorem JH{B:Nat}:B2 B n os ms<=Fo B (aC n ms os):=by unfold B2;split <;> omega
theorem qE(S:tF n ms os)(W:ak n ms)(G:ak n os){c:Nat×Nat}(D:c∈dG n os ms):(aP n ms os->gr 42 n os (aI.bM ms c.1 c.2)=0/\B2 42 n os (aI.bM ms c.1 c.2)=0)/\gr 42 n os (aI.bM ms c.1 c.2)<=wK 42 (aC n ms os-1)/\B2 42 n os (aI.bM ms c.1 c.2)<=Fo 42 (aC n ms os-1):=by
 have c4:=(cO D).2.2.2;have e:aC n (aI.bM ms c.1 c.2) os=aC n ms os-1:=by omega
 refine⟨λJ=>?_,by rw[<-e];exact HI,by rw[<-e];exact JH⟩;have z:=eM S W G J D;exact⟨A5 z,zJ z⟩
end
end gC
namespace aI
open PySem L2 gC
def jx(G:List NK.Ent):Prop:=∀p∈G,∃(n:Nat) (ms os:List Nat) (D:List (Th.Kd×List Nat)),ak n ms/\ak n os/\bW n ms os D/\A1 D p.1/\p.2.2=.int (vR n ms os:Nat)
theorem lP:jx []:=λp hp=>nomatch hp
theorem B3{D:List NK.Ent}(M:jx D){n:Nat}{ms os:List Nat}{G:List (Th.Kd×List Nat)}(W:ak n ms)(WO:ak n os)(h:bW n ms os G){k:List NK.Itm}(hk:A1 G k){v:V}(hv:NK.nP D k=Yc v):v=.int (vR n ms os:Nat):=by
 obtain⟨p,hp,rfl⟩:=Qd.mp hv;have e:=List.find?_some hp;have e:p.1=k:=Uw e;obtain⟨n',fY,gQ,mM,W',O,h',U,e2⟩:=M p (List.mem_of_find?_eq_some hp);obtain⟨qs,q1,q2⟩:=hk;obtain⟨JI,Z,J⟩:=U;rw[e,q2]at J;have eq:=map_inj (λx y=>Ej) J;subst eq;rw[e2,JD W WO W' O h h' (q1.symm.trans Z)]
theorem B4{G:List NK.Ent}(M:jx G){n:Nat}{ms os:List Nat}{D:List (Th.Kd×List Nat)}(W:ak n ms)(J:ak n os)(h:bW n ms os D){k:List NK.Itm}(O:A1 D k)(b:Um):jx (NK.put2 G k b (.int (vR n ms os:Nat))):=by
 intro p hp;unfold NK.put2 at hp
 split at hp
 .obtain⟨q,U,e⟩:=OO.mp hp;by_cases z:q.1=k
  .rw[Uo z]at e;subst e;exact⟨n,ms,os,D,W,J,h,by rw[z];exact O,rfl⟩
  rw[Uk z]at e;subst e;exact M q U
 rcases OY.mp hp with hp|hp
 .exact M p hp
 rw[OS.mp hp];exact⟨n,ms,os,D,W,J,h,O,rfl⟩
variable (P:Ux)(w:UA)(K:OM)
def iG(C:Um):Sp:=λD H Q E=>∃(a b:Um) (n m:Nat) (ms os:List Nat),D=[.ref a,.ref b]/\n<=31/\br K H a (nV ms)/\ak n ms/\br K H b (nV os)/\os.length=2*m /\
 (n=m->ak n os/\Mh n ms os/\∀(l:Um) (H':Hp),H l=none->aE H H'->fq pf H' l (dG n os ms)->Q (.ref l) H')/\(n≠m->E (.ref C) none H)
def jP(j:Nat):Sp:=λJ H Q _=>∃(a b d:Um) (n:Nat) (ms os:List Nat) (G:List NK.Ent) (B:Nat),J=[.ref a,.ref b,.ref d]/\br K H a (nV ms)/\ak n ms/\br K H b (nV os)/\ak n os/\n<=20/\aC n ms os<=12/\(aP n ms os\/aC n ms os<=j/\Gd B n os ms) /\
 NK.D2 P w H d G/\jx G/\G.length+gr B n os ms<=16000000/\∀(H':Hp) (D:List NK.Ent),aE (yG H d) H'->NK.D2 P w H' d D->jx D->D.length<=G.length+gr B n os ms->Q (.int (vR n ms os:Nat)) H'
noncomputable def A6:Nat->Sp
 |0=>λ_ _ _ _=>False
 |j+1=>jP P w K j
variable {P w K}
theorem zK{mg:UI->Option Uj}{base:UH}{k:Nat}{f:Um}{D:Uz}{G:List UI}:aO P w K mg base du k f D G (A6 P w K 0):=
 ⟨λJ H Q E h=>h.elim,λA outer s H args O J Q E _ _ _ _ h=>h.elim⟩
noncomputable def gp(n:Nat)(os ms:List Nat)(c:Nat×Nat):Nat:=vR n (bM ms c.1 c.2) os
noncomputable def jf(n:Nat)(os:List Nat):Nat->List Nat->Nat->List (Nat×Nat)
 |0,_,_=>[]
 |k+1,ms,x=>match pick (gp n os ms) (dG n os ms) x with
  |none=>[]
  |some (c,y)=>c::jf n os k (bM ms c.1 c.2) y
noncomputable def gS(n:Nat)(os:List Nat):List Nat->List (Nat×Nat)->Nat
 |_,[]=>0
 |ms,c::r=>(((dG n os ms).filter λd=>vO d c).map (gp n os ms)).sum+gS n os (bM ms c.1 c.2) r
section
variable {n:Nat}{os:List Nat}
theorem Ey(D:n<=40)(ms:List Nat):(dG n os ms).Pairwise λc d=>um c<um d:=by
 unfold dG rT;exact(oP (N:=2*n) (by omega) (2*n)).filter _
theorem yd(U:n<=40){ms:List Nat}{c:Nat×Nat}{G J:List (Nat×Nat)}(e:dG n os ms=G++c::J):(dG n os ms).filter (λd=>vO d c)=G:=by
 have D:=Ey (os:=os) U ms;have bd:∀d∈dG n os ms,d.2<1000:=λd hd=>by have:=(cO hd).2.1;omega
 rw[e]at D bd⊢;have O:=bd c (by simp);rw[List.pairwise_append,List.pairwise_cons]at D;obtain⟨_,⟨a2,_⟩,V⟩:=D;rw[Pa,RO];have e1:G.filter (λd=>vO d c)=G:=RV.mpr λd hd=>(Ex (bd d (by simp[hd])) O).mpr (V d hd c O2);have e2:J.filter (λd=>vO d c)=[]:=Qt.mpr λd hd z=>by
  have:=(Ex (bd d (by simp[hd])) O).mp z;have:=a2 d hd;omega
 have e3:vO c c=false:=by unfold vO;exact Up (by omega)
 rw[e1,e2,e3];simp
theorem Ez(G:ak n os){ms:List Nat}{r:List (Nat×Nat)}(h:gn n os ms r):tF n ms os->ak n ms->gS n os ms r<vR n ms os/\r.length=aC n ms os/\jf n os r.length ms (gS n os ms r)=r:=by
 induction h with
 |nil=>intro S W;rw[Eu W S];exact⟨by show 0<1;decide,by rw[(cJ W W).mpr rfl];rfl,rfl⟩
 | @cons ms c r J hr O =>
  intro S W;obtain⟨c1,c2,V,c4⟩:=cO J;have Z:=dz W (by omega) c2 V;obtain⟨g1,g2,g3⟩:=O (S.bM W G J) Z;have ne:ms≠os:=λz=>by rw[(cJ W G).mpr z]at c4;omega
  obtain⟨D,l2,e⟩:=List.append_of_mem J;have eb:=yd W.small e;have en:gS n os ms (c::r)=(D.map (gp n os ms)).sum+gS n os (bM ms c.1 c.2) r:=by
   show(((dG n os ms).filter λd=>vO d c).map (gp n os ms)).sum+_=_;rw[eb]
  have U:gS n os (bM ms c.1 c.2) r<gp n os ms c:=g1;have pk:∀(l:List (Nat×Nat)) (x:Nat),pick (gp n os ms) (l++c::l2) ((l.map (gp n os ms)).sum+gS n os (bM ms c.1 c.2) r)=Yc (c,gS n os (bM ms c.1 c.2) r):=λl _=>by
   induction l with
   |nil =>
    show(if _ then _ else _)=_;rw[Sv,List.sum_nil,Qh,Uo U]
   |cons d l O =>
    show(if _ then _ else _)=_;rw[Po,Qe,Uk (by omega)];rw[show gp n os ms d+(l.map (gp n os ms)).sum+gS n os (bM ms c.1 c.2) r-gp n os ms d=(l.map (gp n os ms)).sum+gS n os (bM ms c.1 c.2) r by omega];exact O
  refine⟨?_,by rw[Ph,g2];omega,?_⟩
  .rw[en,v_sum S W G ne,e,O5,Rh,Po,Qe];have:gp n os ms c=vR n (bM ms c.1 c.2) os:=rfl;have:(D.map λc=>vR n (bM ms c.1 c.2) os).sum=(D.map (gp n os ms)).sum:=rfl;omega
  rw[en,Ph];show(match pick (gp n os ms) (dG n os ms) _ with|none=>[]|some (c,y)=>c::jf n os r.length (bM ms c.1 c.2) y)=_;rw[e,pk D 0];show c::jf n os r.length (bM ms c.1 c.2) _=_;rw[g3]
end
def A7(H:Hp)(l:Um)(n:Nat)(os ms:List Nat)(G:List (Nat×Nat)):Prop:=∃D:List Um,H l=Yc (.lst (D.map V.ref))/\D.length=G.length /\
 ∀(i:Nat) (t:Um) (c:Nat×Nat),D[i]?=Yc t->G[i]?=Yc c->∃p q:Um,H t=Yc (.tup [.ref p,.ref q,.int (gp n os ms c:Nat)])/\H p=Yc (.tup (pf c))/\H q=Yc (.tup (nV (bM ms c.1 c.2)))
section
variable {P:Ux}{w:UA}{H H':Hp}{l d:Um}{n:Nat}{os ms:List Nat}{cs:List (Nat×Nat)}{lT:List NK.Ent}
theorem A7.nil(h:H l=Yc (.lst [])):A7 H l n os ms []:=⟨[],h,rfl,λi t c e=>by simp at e⟩
theorem A7.keep(h:A7 H l n os ms cs)(D:NK.D2 P w H d lT)(s:aE (yG H d) H'):A7 H' l n os ms cs:=by
 obtain⟨V,G,Z,h3⟩:=h;refine⟨V,s _ _ (eL G (D2.ne D G)),Z,λi t c e1 e2=>?_⟩;obtain⟨p,q,J,O,U⟩:=h3 i t c e1 e2;exact⟨p,q,s _ _ (eL J (D2.neT D J)),s _ _ (eL O (D2.neT D O)),s _ _ (eL U (D2.neT D U))⟩
theorem A7.same(h:A7 H l n os ms cs)(s:aE H H'):A7 H' l n os ms cs:=by
 obtain⟨D,G,J,O⟩:=h;refine⟨D,s _ _ G,J,λi t c e1 e2=>?_⟩;obtain⟨p,q,U,V,Z⟩:=O i t c e1 e2;exact⟨p,q,s _ _ U,s _ _ V,s _ _ Z⟩
theorem A7.snoc{c:Nat×Nat}{t p q:Um}(h:A7 H l n os ms cs)(g1:H t=Yc (.tup [.ref p,.ref q,.int (gp n os ms c:Nat)]))(g2:H p=Yc (.tup (pf c)))(g3:H q=Yc (.tup (nV (bM ms c.1 c.2)))) :
  ∃J,H l=Yc (.lst J)/\J.length=cs.length/\A7 (upd H l (.lst (J++[.ref t]))) l n os ms (cs++[c]):=by
 obtain⟨G,U,Z,h3⟩:=h;have D:∀{x:Um}{O:List V},H x=Yc (.tup O)->upd H l (.lst (G.map V.ref++[.ref t])) x=Yc (.tup O):=λ{x O} e=>by rw[aG (λz=>by rw[z,U]at e;cases e)];exact e
 refine⟨_,U,by rw[OH];exact Z,G++[t],by rw[ag,O5];rfl,by rw[OQ,OQ,Z];rfl,λi u x e1 e2=>?_⟩;by_cases hi:i<G.length
 .rw[Pg hi]at e1;rw[Pg (by omega)]at e2;obtain⟨p',q',k1,k2,k3⟩:=h3 i u x e1 e2;exact⟨p',q',D k1,D k2,D k3⟩
 rw[Pk (by omega)]at e1 e2;have hz:i-G.length=0:=by
  have:=(OI.mp e1).1;rw[QA]at this;omega
 rw[hz]at e1;rw[show i-cs.length=0 by omega]at e2;cases e1;cases e2;exact⟨p,q,D g1,D g2,D g3⟩
end
section
variable {n:Nat}{ms os:List Nat}
theorem JJ(S:tF n ms os)(W:ak n ms)(D:ak n os)(Fm:(dG n os ms).length<=42):∃g,(∀c∈dG n os ms,gr 42 n os (bM ms c.1 c.2)<=g)/\(dG n os ms).length*g<=gr 42 n os ms:=by
 by_cases G:aP n ms os
 .exact⟨0,λc J=>by rw[((qE S W D J).1 G).1];exact ON _,by omega⟩
 refine⟨wK 42 (aC n ms os-1),λc J=>(qE S W D J).2.1,?_⟩;rw[oY G];have a2:=uE W D G;obtain⟨q,O⟩:∃q,aC n ms os=q+2:=⟨aC n ms os-2,by omega⟩
 rw[O];show(dG n os ms).length*wK 42 (q+1)<=1+42*wK 42 (q+1);have:=QU (wK 42 (q+1)) Fm;omega
theorem zL(S:tF n ms os)(W:ak n ms)(J:ak n os){c:Nat×Nat}(G:c∈dG n os ms):gr 42 n os ms+B2 42 n os (bM ms c.1 c.2)<=B2 42 n os ms:=by
 by_cases D:aP n ms os
 .rw[A5 D,zJ D,((qE S W J G).1 D).2];exact ON _
 rw[oY D,vP D];have z:=(qE S W J G).2.2;have c4:=(cO G).2.2.2;obtain⟨q,O⟩:∃q,aC n ms os=q+1:=⟨_,c4.symm⟩
 rw[O]at z⊢;show wK 42 (q+1)+_<=Fo 42 q+wK 42 (q+1);rw[S9]at z;omega
theorem ye(B:Nat):∀{i j:Nat},i<=j->Fo B i<=Fo B j
 |i,0,h=>by rw[Nat.le_zero.mp h];exact ON _
 |i,j+1,h=>by
  by_cases e:i=j+1
  .rw[e];exact ON _
  have:=ye B (i:=i) (j:=j) (by omega);show Fo B i<=Fo B j+wK B (j+1);omega
theorem lQ:gr 42 n os ms<=B2 42 n os ms:=by
 by_cases D:aP n ms os
 .rw[A5 D];omega
 rw[oY D,vP D];cases aC n ms os with
 |zero=>exact ON _
 |succ q=>exact Tz _ _
theorem uF(h:¬aP n ms os->aC n ms os<=6):B2 42 n os ms<=3300000:=by
 by_cases D:aP n ms os
 .rw[zJ D];omega
 rw[vP D];exact PD (ye 42 (h D)) (by decide)
end
variable (P:Ux)(w:UA)(K:OM)
def qF:Sp:=λJ H Q _=>∃(a b d:Um) (n:Nat) (ms os:List Nat) (G:List NK.Ent),J=[.ref a,.ref b,.ref d]/\br K H a (nV ms)/\ak n ms/\br K H b (nV os)/\ak n os/\Gd 42 n os ms/\(aP n ms os\/aC n ms os<=6) /\
 NK.D2 P w H d G/\jx G/\G.length+gr 42 n os ms<=16000000/\∀(l:Um) (H':Hp) (D:List NK.Ent),H l=none->aE (yG H d) H'->NK.D2 P w H' d D->jx D->D.length<=G.length+gr 42 n os ms->A7 H' l n os ms (dG n os ms)->Q (.ref l) H'
def sP(n:Nat)(ms os:List Nat):Prop:=12<aC n ms os\/(¬aP n ms os/\6<aC n ms os)
theorem qG{n:Nat}{ms os:List Nat}(h:¬sP n ms os):aC n ms os<=12/\(¬aP n ms os->aC n ms os<=6):=
 ⟨QO λz=>h (.inl z),λD=>QO λz=>h (.inr ⟨D,z⟩)⟩
theorem GZ.NH{n:Nat}{ms os:List Nat}(g:Gd 42 n os ms):tF n ms os:=by
 rcases g with⟨g,_⟩|⟨_,_,g,_⟩
 .cases g
 exact g
variable (P:Ux)(w:UA)(K:OM)
def lR(D G:Um):Sp:=λJ H Q E=>∃(a b:Um) (x n m:Nat) (ms os:List Nat),J=[.int (x:Nat),.ref a,.ref b]/\x<=12/\n<=31/\br K H a (nV ms)/\ak n ms/\br K H b (nV os)/\os.length=2*m /\
 (n=m->ak n os/\(aC n ms os<=x->∀H':Hp,aE H H'->Q .g9 H')/\(x<aC n ms os->∀H':Hp,aE H H'->E (.ref G) none H'))/\(n≠m->E (.ref D) none H)
def sh(D G:Um):Sp:=λJ H Q E=>∃(a b:Um) (n m:Nat) (ms os:List Nat),J=[.ref a,.ref b]/\n<=31/\br K H a (nV ms)/\ak n ms/\br K H b (nV os)/\os.length=2*m /\
 (n=m->ak n os/\(¬sP n ms os->∀H':Hp,aE H H'->Q .g9 H')/\(sP n ms os->∀H':Hp,aE H H'->E (.ref G) none H'))/\(n≠m->E (.ref D) none H)
def qH(D G:Um):Sp:=λJ H Q E=>∃(a b:Um) (n m:Nat) (ms os:List Nat),J=[.ref a,.ref b]/\n<=20/\br K H a (nV ms)/\ak n ms/\br K H b (nV os)/\os.length=2*m /\
 (n=m->ak n os/\(¬sP n ms os->(aP n ms os\/∃B,Gd B n os ms)/\∀H':Hp,aE H H'->Q (.int (vR n ms os:Nat)) H')/\(sP n ms os->∀H':Hp,aE H H'->E (.ref G) none H'))/\(n≠m->E (.ref D) none H)
def nR(D G:Um):Sp:=λJ H Q E=>∃(a b:Um) (n m:Nat) (x:Int) (ms os:List Nat),J=[.ref a,.ref b,.int x]/\n<=20/\br K H a (nV ms)/\ak n ms/\br K H b (nV os)/\os.length=2*m /\
 (n=m->ak n os/\(¬sP n ms os->∃y:Nat,x=(y:Nat)/\Gd 42 n os ms/\y<vR n ms os/\∀(l:Um) (H':Hp) (r:List (Nat×Nat)),H l=none->aE H H'->fq pf H' l r->r.length=aC n ms os->Q (.ref l) H')/\(sP n ms os->∀H':Hp,aE H H'->E (.ref G) none H'))/\(n≠m->E (.ref D) none H)
def qI(D G:Um):Sp:=λJ H Q E=>∃(a b:Um) (n m:Nat) (v:V) (ms os:List Nat),J=[.ref a,.ref b,v]/\n<=20/\br K H a (nV ms)/\ak n ms/\br K H b (nV os)/\os.length=2*m /\
 (n=m->ak n os/\(¬sP n ms os->∃(l:Um) (r:List (Nat×Nat)),v=.ref l/\Gd 42 n os ms/\fq pf H l r/\gn n os ms r/\∀H':Hp,aE H H'->Q (.int (gS n os ms r:Nat)) H')/\(sP n ms os->∀H':Hp,aE H H'->E (.ref G) none H'))/\(n≠m->E (.ref D) none H)
end aI
namespace gC
open Th aI Classical
inductive vQ (n:Nat) (os ms:List Nat):List Nat->Prop
 |refl:vQ n os ms ms
 |step {w v:List Nat}:vQ n os ms w->v∈iQ n os w->vQ n os ms v
section
variable {n:Nat}{ms os O J:List Nat}{φ ψ:Nat->Nat}
theorem vQ.work(W:ak n ms){w:List Nat}(h:vQ n os ms w):ak n w:=by
 induction h with
 |refl=>exact W
 |step _ D G=>exact kY G D
end
end gC
namespace nD
open PySem PySem.Spec PyProof.Rows PySem.W L2
noncomputable def qJ:Int->List Int->Int
 |c,[]=>c
 |c,x::xs=>qJ (c*100+x) xs
def Cm(xs:List Int):Prop:=∀x∈xs,0<=x/\x<100
theorem zM:∀{xs D:List Int}{c c':Int},xs.length=D.length->Cm xs->Cm D->c<c'->qJ c xs<qJ c' D
 |[],[],_,_,_,_,_,h=>h
 |[],_::_,_,_,e,_,_,_=>by simp at e
 |_::_,[],_,_,e,_,_,_=>by simp at e
 |x::xs,y::D,c,c',e,G,J,h=>by
  have V:=G x O2;have a2:=J y O2;have O:Cm xs:=λz hz=>G z (O1 _ hz);have U:Cm D:=λz hz=>J z (O1 _ hz);show qJ (c*100+x) xs<qJ (c'*100+y) D;exact zM (by simpa using e) O U (by omega)
theorem EA{prog:Ux}{w:UA}{A:UG}{s:Uq}{Q:Bool->Uq->Prop}{fin:Bool}:∀{xs D:List Int}{its G:List Uj}{c:Int}{i:Nat},Vals (xs.map V.int) its->Vals (D.map V.int) G->xs.length=D.length->Cm xs->Cm D->fin=false->Q (decide (qJ c xs<qJ c D)) s->KatLex prog w A true fin Q (its.zip G) i s
 |[],[],_,_,c,i,.nil,.nil,_,_,_,J,q=>by
  refine kat_nil ?_;rw[J];have e:decide (qJ c []<qJ c [])=false:=Up (Int.lt_irrefl _);rw[e]at q;exact q
 |[],_::_,_,_,_,_,_,_,e,_,_,_,_=>by simp at e
 |_::_,[],_,_,_,_,_,_,e,_,_,_,_=>by simp at e
 |x::xs,y::D,_,_,c,i,.cons r1 t1,.cons r2 t2,e,hx,hy,J,q=>by
  obtain⟨u1,rfl⟩:=r1;obtain⟨u2,rfl⟩:=r2;have O:xs.length=D.length:=by simpa using e
  have U:Cm xs:=λz hz=>hx z (O1 _ hz);have Z:Cm D:=λz hz=>hy z (O1 _ hz);refine XM (U8 ?_);by_cases cc:x=y
  .subst cc;rw[show(x==x)=true from beq_iff_eq.mpr rfl];exact Ya (EA t1 t2 O U Z J q)
  rw[show(x==y)=false from beq_eq_false_iff_ne.mpr cc];have ed:decide (qJ c (x::xs)<qJ c (y::D))=decide (x<y):=by
   refine decide_eq_decide.mpr ⟨λh=>?_,λh=>(show qJ (c*100+x) xs<qJ (c*100+y) D from zM O U Z (by omega))⟩;rcases Int.lt_trichotomy x y with z|z|z
   .exact z
   .exact Us z cc
   have:=zM (c:=c*100+y) (c':=c*100+x) O.symm Z U (by omega);unfold qJ at h;omega
  rw[ed]at q;refine kat_no ?_;cases i with
  |zero=>exact oneLt_int q
  |succ i=>exact kat_one _ _ (lt_int q)
def Pl(h:UH)(m:Nat)(v:Uj)(xs:List Int):Prop:=∃(t:Um) (o:U6) (n:Nat) (its:List Uj),v=.ref t/\h.get? t=Yc o/\o.cls=.type "tuple"/\o.data=.seq its.toArray n/\Vals (xs.map V.int) its/\xs.length=m/\Cm xs
theorem k9:∀{xs D:List Int}{its:List Uj},Vals (xs.map V.int) its->Vals (D.map V.int) its->xs=D
 |[],[],_,_,_=>rfl
 |[],_::_,_,.nil,h=>nomatch h
 |_::_,[],_,.cons _ _,h=>nomatch h
 |x::xs,y::D,_,.cons G J,.cons O U=>by
  obtain⟨Z,rfl⟩:=G;obtain⟨u2,e⟩:=O;injection e with e _;rw[e,k9 J U]
theorem Pl.uniq{h:UH}{m:Nat}{v:Uj}{xs J:List Int}(p:Pl h m v xs)(q:Pl h m v J):xs=J:=by
 obtain⟨t,o,n,its,rfl,e1,e2,e3,U,Z,e6⟩:=p;obtain⟨t',o',n',its',G,O,f2,D,V,f5,f6⟩:=q;injection G with G;subst G;rw[e1]at O;obtain rfl:=Option.some.inj O;rw[e3]at D;injection D with D _;have D:its=its':=by simpa using congrArg Ss D
 subst D;exact k9 U V
open Classical in
noncomputable def Ks(h:UH)(m:Nat)(v:Uj):Int:=if e:∃xs,Pl h m v xs then qJ 0 (choose e)else 0
theorem vS{h:UH}{m:Nat}{v:Uj}{xs:List Int}(p:Pl h m v xs):Ks h m v=qJ 0 xs:=by
 unfold Ks;have e:∃xs,Pl h m v xs:=⟨xs,p⟩
 rw[Wr e,(QB e).uniq p]
@[reducible] noncomputable def JK(h:UH)(m:Nat):xt:=⟨λp=>∃xs,Pl h m p.1 xs,λp=>Ks h m p.1,WV true⟩
theorem G4{prog:Ux}{w:UA}{A:UG}{s:Uq}{h:UH}{m:Nat}(k:∀b o,h.get? b=Yc o->s.heap.get? b=Yc o):@Asks (JK h m) prog w A s:=by
 letI:=JK h m
 intro x y ⟨xs,G⟩ ⟨J,O⟩ E Q D;have q:Q (decide (qJ 0 xs<qJ 0 J)) s:=by
  have e1:num x=qJ 0 xs:=vS G;have e2:num y=qJ 0 J:=vS O;rw[e1,e2]at D;exact D
 clear D;obtain⟨x1,x2⟩:=x;obtain⟨y1,y2⟩:=y;obtain⟨t,o,n,its,rfl,e1,e2,e3,U,e5,Z⟩:=G;obtain⟨t',o',n',its',rfl,f1,f2,f3,V,f5,f6⟩:=O;show wpAny _ _ (keyLt' (WV true) (.ref t) (.ref t')) _ _ _;refine kat_lt (k _ _ e1) e3 (k _ _ f1) f3 ?_;have l1:its.length=m:=by have:=U.length;rw[OH]at this;omega
 have l2:its'.length=m:=by have:=V.length;rw[OH]at this;omega
 exact EA U V (by omega) Z f6 (Up (by rw[OT,OT];omega)) q
end nD
namespace NI
open PySem PySem.Spec PyProof.Rows PySem.W
def JL(h:UH)(d:Um)(es:Array Vz)(ep:Nat):Prop:=∃o,h.get? d=Yc o/\o.cls=.type "dict"/\o.data=.dict es ep
section
variable {prog:Ux}{w:UA}{A:UG}{E:Uj->Uq->Prop}{s:Uq}
theorem JL.typeIs{d:Um}{es:Array Vz}{ep:Nat}(x:JL s.heap d es ep):s.TypeIs (.ref d) "dict":=let⟨o,D,G,_⟩:=x;⟨o,D,G⟩
theorem B5{d:Um}{es:Array Vz}{ep:Nat}{Q:Uj->Uq->Prop}(hd:(d==U0)=false)(J:JL s.heap d es ep)
  (U:Q (.ref s.heap.objs.size) { s with heap:=s.heap.push { cls:=.type "dict_keyiterator",data:=.fields #[.ref d,.int 0 0,.int es.size 0,.int ep 0] } }):wpAny (model prog w) A (pyIter (.ref d)) Q E s:=by
 obtain⟨o,O,V,D⟩:=id J;have G:=J.typeIs;refine wpAny_pyIter_slot G F.slot_dict_iter (UN F.slot_dict_iter G F.entry_dict_iter ?_ (F.args_dict_iter_1 _));unfold Builtin.«dict.__iter__»;refine Uh ?_;unfold Builtin.Dict.dictSlotNone;refine Uh (WD G ?_);show wpAny _ _ (pure (Value.ref d)) _ _ s;refine Ur ?_;show wpAny _ _ (Builtin.Dict.showsAll d >>= _) _ _ s;unfold Builtin.Dict.showsAll;rw[Uk (by rw[hd];exact O4)];refine Uh (Ur (Uh (U5 O D (Uh (Vw O D ?_)))));refine Uh (UK (Ur ⟨_,rfl,"dict_keyiterator",_,⟨_,O6 _ rfl,rfl⟩,F.slot_dict_keyiterator_next.lookup,?_⟩));simpa[rawInt]using U
theorem B6{G d:Um}{i ep:Nat}{es:Array Vz}{Q:Option Uj->Uq->Prop}(D:s.heap.IsKeyIter G d i es.size ep)(hm:JL s.heap d es ep)(Z:i<es.size)
  (hQ:∀h',h'.IsKeyIter G d (i+1) es.size ep->Heap.SameBut G s.heap h'->Q (Yc es[i].key) { s with heap:=h' }):wpAny (model prog w) A (pyNext (.ref G)) Q E s:=by
 obtain⟨o,ho,hc,hd⟩:=id D;obtain⟨od,O,FN,U⟩:=id hm;unfold pyNext;refine Uh (Vd (wpAny_callSpecial?_slot (name:=Str.ofString "__next__") D.typeIs F.slot_dict_keyiterator_next (UN F.slot_dict_keyiterator_next D.typeIs F.entry_dict_keyiterator_next ?_ (F.args_dict_keyiterator_next_1 _))));refine Uh (Ur (Uh (Uh ?_)))
 (first|refine Uh (U4 D.typeIs (Ur ?_))|refine Uh (Vf D.typeIs (Ur ?_)));refine Uh (wpAny_fieldsOf ho hd ?_)
 have V:Builtin.Dict_items.ownsTuple "dict_keyiterator" = false:=by decide
 simp only[V,PF,U1];show wpAny _ _ (if(Value.ref d==Value.none)=true then _ else _) _ _ s;rw[Uk (show¬((Value.ref d==Value.none)=true)from O4)];refine Uh (Ur (Uh (U5 O U ?_)));rw[Uk (by simp)];refine Uh (Ur (Uh (Vw O U ?_)));rw[Uk (by simp)];refine Ur ?_;simp only[show¬((i:Int)<0)from by omega,U1,Pq,Qb Z];refine Uh ?_
 (first|refine Uh (U4 D.typeIs (Ur ?_))|refine Uh (Vf D.typeIs (Ur ?_)));refine Uh (WE D.typeIs ?_)
 show wpAny _ _ (XF (.ref G) 1 (rawInt ((i:Int)+1)) >>= _) _ _ s;refine Uh (VE ho hd (by simp) ?_);have J:(s.heap.update G (Obj.mapFields (·.setIfInBounds 1 (rawInt ((i:Int)+1))))).IsKeyIter G d (i+1) es.size ep:=⟨_,Qz _ ho (Obj.isFreed_of_fields (Obj.data_mapFields hd _)),(Obj.cls_mapFields ..).trans hc,by rw[Obj.data_mapFields hd];simp[rawInt]⟩
 refine Uh (UD ?_);refine Uh (WE (s:={ s with heap:=s.heap.update G (Obj.mapFields (·.setIfInBounds 1 (rawInt ((i:Int)+1)))) }) J.typeIs ?_);show wpAny _ _ (pure es[i].key) _ _ _;exact Ur (Ur ⟨_,rfl,Ur (hQ _ J (Heap.SameBut.update ..))⟩)
theorem EB{U d:Um}{ep:Nat}{es:Array Vz}{Q:Option Uj->Uq->Prop}(Z:A.handled=none)(D:s.heap.IsKeyIter U d es.size es.size ep)(hm:JL s.heap d es ep)
  (hQ:∀h',Heap.ExtBut U s.heap h'->Q none { s with heap:=h' }):wpAny (model prog w) A (pyNext (.ref U)) Q E s:=by
 obtain⟨o,V,hc,hd⟩:=id D;obtain⟨od,G,FN,J⟩:=id hm;unfold pyNext;refine Uh (Vd (wpAny_callSpecial?_slot (name:=Str.ofString "__next__") D.typeIs F.slot_dict_keyiterator_next (UN F.slot_dict_keyiterator_next D.typeIs F.entry_dict_keyiterator_next ?_ (F.args_dict_keyiterator_next_1 _))));refine Uh (Ur (Uh (Uh ?_)))
 (first|refine Uh (U4 D.typeIs (Ur ?_))|refine Uh (Vf D.typeIs (Ur ?_)));refine Uh (wpAny_fieldsOf V hd ?_)
 have O:Builtin.Dict_items.ownsTuple "dict_keyiterator" = false:=by decide
 simp only[O,PF,U1];show wpAny _ _ (if(Value.ref d==Value.none)=true then _ else _) _ _ s;rw[Uk (show¬((Value.ref d==Value.none)=true)from O4)];refine Uh (Ur (Uh (U5 G J ?_)));rw[Uk (by simp)];refine Uh (Ur (Uh (Vw G J ?_)));rw[Uk (by simp)];refine Ur ?_;simp only[show¬((es.size:Int)<0)from by omega,U1,Pq,Array.getElem?_eq_none (ON es.size)];refine Uh ?_
 (first|refine Uh (U4 D.typeIs (Ur ?_))|refine Uh (Vf D.typeIs (Ur ?_)));show wpAny _ _ (XF (.ref U) 0 .none >>= _) _ _ s
 refine Uh (VE V hd (by simp) ?_);show wpAny _ _ (newExc (.type "StopIteration") [] >>= _) _ _ _;refine Uh ?_;simp only[newExc,XE];refine Uh (UK ?_ (by size_fits));refine Uh (m:=V1 _ _) (WK (a:=Value.none) (by first|rfl|(simp only[V1];rfl)) ?_);refine UK ?_ (by size_fits);simp only[raiseNew];refine Uh (wpAny_handled ?_);rw[show A.in1.handled=none from Z];refine Uh (Ur (wpAny_throw ?_));refine Uh (Vi (T:="StopIteration") (b:=true) ⟨_,O6 _ rfl,rfl⟩ isSubtype_stop ?_);exact Ur (hQ _ (((Heap.SameBut.update ..).extBut.push _).push _))
end
theorem zN{prog:Ux}{w:UA}{A:UG}(hh:A.handled=none)(I d:Um)(U:d≠I)(es:Array Vz)(ep:Nat) :
  Walks prog w A I [I,d] [I] es.size (λi v=>∃h:i<es.size,v=es[i].key) (λi h=>h.IsKeyIter I d i es.size ep/\JL h d es ep) where
 sub:=λb D=>by simp at D;simp[D]
 frame:=λ_ _ _ st hk=>⟨st.1.at λo e=>hk I (by simp) o e,let⟨o,V,r⟩:=st.2;⟨o,hk d (by simp) o V,r⟩⟩
 item:=λi s Q E hi st G=>by
  refine B6 st.1 st.2 hi λh' J O=>?_;exact G _ h' s.toks ⟨hi,rfl⟩ ⟨J,let⟨o,V,r⟩:=st.2;⟨o,O.extBut d o U V,r⟩⟩ λb o D e=>O.extBut b o (λh=>D (by simp[h])) e
 done:=λs Q E st G=>EB hh st.1 st.2 λh' Z=>G h' s.toks λb o D e=>Z b o (λh=>D (by simp[h])) e
 self:=λ_ _ _ _ st G=>wpAny_pyIter_keyiter st.1 G
theorem yf{prog:Ux}{w:UA}{d:Um}{es:Array Vz}{ep:Nat}(lo:(d==U0)=false):KdlSrc prog w "dict" d d es.size (λi v=>∃h:i<es.size,v=es[i].key) (λh=>JL h d es ep) where
 type:=λ_ G=>G.typeIs
 there:=λ_ ⟨_,D,_⟩=>⟨O3 D,O3 D⟩
 keep:=λ_ _ ⟨o,D,r⟩ O=>⟨o,O d (.inl rfl) o D,r⟩
 notList:=by decide
 notTuple:=by decide
 hint:=λ_ _ _ _ G J=>kdl_hint_dict G.typeIs J
 iter:=λ_ _ U G=>⟨_,_,(λ_ _ J=>B5 lo G J),zN U _ d (let⟨_,D,_⟩:=G;Pb (O3 D)) es ep,⟨⟨_,O6 _ rfl,rfl,rfl⟩,let⟨o,D,r⟩:=G;⟨o,OJ _ D,r⟩⟩⟩
end NI
namespace L2
open PySem PySem.Spec PyProof.Rows NI PySem.W
variable {X:Cx}
theorem vT(hc:X.calm=true):fW X (.type "list") (λxs H Q=>∃(d:Um) (D:List (List Key×V)),xs=[.ref d]/\H d=Yc (.dT D)/\∀(l:Um) (bs:List Um),H l=none->bs.length=D.length->(∀(i:Nat) (b:Um) (k:List Key) (v:V),bs[i]?=Yc b->D[i]?=Yc (k,v)->H b=Yc (.tup (k.map kV)))->Q (.ref l) (upd H l (.lst (bs.map V.ref)))):=by
 intro pins s σ H xs us Q I r h;obtain⟨d,D,rfl,hd,q⟩:=h;obtain⟨u,rfl,ru⟩:=r.one;cases ru;obtain⟨z,lo,xs,J,o,es,ep,h1,h2,h3,h4,h5⟩:=(show cQ X.prog X.w H s.heap d (.dT D)from I.bN d _ hd)
 have hsz:es.size=D.length:=by
  rw[Paired.length J];have:=congrArg Sf h4;rwa[Qf,OH]at this
 refine kdl_call (yf (prog:=X.prog) (w:=X.w) (es:=es) (ep:=ep) lo) (I.ok.hd hc) ⟨o,h1,h2.1,h3⟩ (by rw[hsz];exact z) λh' tk Z c' hk hS' G=>?_;have hx:xs.length=D.length:=(Paired.length J).symm;refine⟨.ref _,_,I.laid (a:=s.heap.objs.size) (o:=.lst ((xs.map (·.2.1)).map V.ref)) (t':=tk) hk (ON _) ⟨by rw[OH,OH,hx];exact z,Z.toList,c',?_,by simpa using hS'⟩,rfl,q _ (xs.map (·.2.1)) (I.bN.fresh (ON _)) (by rw[OH];exact hx) λi b k v e1 e2=>?_⟩
 .refine kG (by rw[OH,OH,hx,<-hsz];exact(by simpa using G.1.symm)) λi x v e6 e7=>?_;obtain⟨hi,ev⟩:=G.2 i v (by simpa using e7);rw[OR,OR]at e6;obtain⟨y,e8,e9⟩:=Qd.mp e6;obtain⟨p,O,U⟩:=Qd.mp e8;have Mj:es.toList[i]?=Yc (VH (VI (bG X.prog X.w)) p):=by rw[h4,OR,O];rfl
  have NJ:es.toList[i]?=Yc es[i]:=by rw[RI];exact Qb hi
  rw[NJ]at Mj;have e14:=Option.some.inj Mj;rw[ev,e14,<-e9,<-U];exact rfl
 rw[OR]at e1;obtain⟨p,O,U⟩:=Qd.mp e1;have z:=mK J e2 O;rw[<-U];exact z.2.1
end L2
set_option maxHeartbeats 1000000
set_option maxHeartbeats 4000000
namespace xc
open PySem PySem.Spec PyProof.Rows
section
variable {prog:Ux}{w:UA}{K:Type}[DecidableEq K]{knd:HeapKind prog w K}{A:UG}{E:Uj->Uq->Prop}{s:Uq}
theorem zO{d a:Um}{xs:List (K×Um×Uj)}{k:K}{v:Uj}{Q:Unit->Uq->Prop}(hu:knd.room A)(D:knd.is s.heap k a)(hm:s.heap.DictOfH knd d xs)(hz:xs.length<=Uu)
  (hQ:∀h',h'.DictOfH knd d (VN xs k a v)->Heap.SameBut d s.heap h'->Q () { s with heap:=h' }):wpAny (model prog w) A (dictSetHashed d (.ref a) (knd.hash k) v) Q E s:=by
 obtain⟨o,es,ep,G,hc,hd,V,J,O⟩:=hm;have esz:=Wz V;unfold dictSetHashed
 try with_reducible refine UD ?_
 refine Uh (wpAny_dictFind_heap hu D G hd V J O (λU=>?_) λj p hj=>?_)
 .have en:=atKey_none_of_get U;refine Uh (Vq (wpAny_updateDictKeys (hz:=by omega) G hd (hQ _ ⟨_,_,ep+1,Qz _ G (Obj.isFreed_of_dict (Obj.data_mapDictKeys hd _)),hc.mapDictKeys _,Obj.data_mapDictKeys hd _,?_,?_,?_⟩ (Heap.SameBut.update ..))))
  all_goals rw[storedH_new en]
  .simp[V,VH]
  .intro b Z;rcases OY.mp Z with q|q
   .exact knd.keeps (J b q) G hd (Heap.SameBut.update ..)
   rw[OS.mp q];exact knd.keeps D G hd (Heap.SameBut.update ..)
  rw[O5,PY];refine⟨O,by simp,λx hx y hy e=>not_mem_keys_of_get U ?_⟩;have:y=k:=by simpa using hy
  rw[<-this,<-e];exact hx
 have ea:=atKey_of_get O hj;refine Uh (Vq (Uh (wpAny_updateDict G hd (wpAny_point (hQ _ ⟨_,_,ep,Qz _ G (Obj.isFreed_of_dict (Obj.data_mapDict hd _)),hc.mapDict _,Obj.data_mapDict hd _,?_,?_,?_⟩ (Heap.SameBut.update ..))))))
 all_goals rw[storedH_old ea]
 .have z:=modify_map_putAt (VH knd) (λe:Vz=>{ e with val:=v }) k v (λ_ _=>rfl) O hj;rw[<-V]at z;obtain⟨l⟩:=es;simpa using z
 .intro b Z;obtain⟨y,hy,rfl⟩:=OO.mp Z;unfold putAt
  split <;> exact knd.keeps (J y hy) G hd (Heap.SameBut.update ..)
 rw[keys_map_putAt];exact O
noncomputable def gq(xs G:List (K×Um×Uj)):List (K×Um×Uj):=G.foldl (λD e=>VN D e.1 e.2.1 e.2.2) xs
theorem vU{xs D:List (K×Um×Uj)}{i:Nat}{e:K×Um×Uj}(h:D[i]?=Yc e):gq xs (D.take (i+1))=VN (gq xs (D.take i)) e.1 e.2.1 e.2.2:=by
 unfold gq;rw[TK,h,List.foldl_append]
 rfl
theorem zP(xs:List (K×Um×Uj))(k:K)(a:Um)(v:Uj):(VN xs k a v).length<=xs.length+1:=by
 unfold VN
 split
 .rw[OH];omega
 rw[OQ];exact ON _
theorem si:∀(D xs:List (K×Um×Uj)),(gq xs D).length<=xs.length+D.length
 |[],xs=>ON _
 |e::D,xs=>by
  have G:=si D (VN xs e.1 e.2.1 e.2.2);have J:=zP xs e.1 e.2.1 e.2.2;show(gq (VN xs e.1 e.2.1 e.2.2) D).length<=_;rw[Ph];omega
theorem JM{nm:String}{d o:Um}{xs U:List (K×Um×Uj)}{Q:Unit->Uq->Prop}(hu:knd.room A)(hdo:d≠o)(hoS:(o==U0)=false)(hd:s.heap.DictOfH knd d xs)(ho:s.heap.DictOfH knd o U)(jj:xs≠[])(hz:xs.length+U.length<=Uu)
  (hQ:∀h',h'.DictOfH knd d (gq xs U)->Heap.SameBut d s.heap h'->Q () { s with heap:=h' }):wpAny (model prog w) A (Builtin.Dict.mergeDict nm d o) Q E s:=by
 obtain⟨od,esd,epd,hod,FN,hdd,hed,hid,hnd⟩:=id hd;obtain⟨oo,D,epo,V,hco,G,heo,hio,HJ⟩:=id ho;have ld:=Wz hed;have lo:=Wz heo;have aaH:¬(esd.isEmpty=true):=λz=>by
  rw[Array.isEmpty_iff.mp z]at ld;exact jj (Qk.mp (by simpa using ld.symm))
 unfold Builtin.Dict.mergeDict;rw[Uk (by simpa using hdo)];unfold Builtin.Dict.showsAll;rw[Uk (by rw[hoS];exact O4)];refine Uh (Ur ?_);refine Uh (U5 V G ?_);dsimp only
 split
 all_goals try (refine Uh (U5 hod hdd ?_);rw[Uk aaH])
 all_goals
  refine Uh (Vw V G ?_);refine Uh (U5 V G ?_);refine Uh ?_;rw[Std.Legacy.Range.forIn_eq_forIn_range'];simp only[Std.Legacy.Range.size,T5,S9,Nat.div_one];refine Vg _ (λrest _ s'=>∃h' i,s'={ s with heap:=h' }/\rest=List.range' i (D.size-i)/\i<=D.size/\h'.DictOfH knd d (gq xs (U.take i))/\h'.get? o=Yc oo/\Heap.SameBut d s.heap h') _ ?_ ?_ _ _ ⟨s.heap,0,rfl,by simp,PH _,hd,V,Heap.SameBut.refl _ _⟩
  .rintro x rest b s' ⟨h',i,rfl,hr,hi,Z,J,Hu⟩;by_cases uc:i<D.size
   .obtain⟨m,hm⟩:∃m,D.size-i=m+1:=⟨D.size-i-1,by omega⟩
    rw[hm,Tq]at hr;obtain⟨rfl,CZ⟩:=List.cons.inj hr;refine Uh (U5 J G ?_);rw[Qb uc];have hy:U[x]?=Yc (U[x]'(by omega)):=OG _;generalize U[x]'(by omega)=e at hy;obtain⟨k,a,v⟩:=e;have ee:D[x]=VH knd (k,a,v):=by
     have z:=entry_at heo x;rw[hy,Qb uc]at z;exact Option.some.inj z
    rw[ee];have G5:knd.is h' k a:=knd.keeps (hio _ (OP hy)) hod hdd Hu;have vV:(gq xs (U.take x)).length<=sizeLine:=by
     have e1:=si (U.take x) xs;rw[Pu]at e1;omega
    refine Uh (UD (zO (s:={ s with heap:=h' }) hu G5 Z vV λHx aaI Mk=>?_));have O:Hx.get? o=Yc oo:=(Mk.2 o (Ne.symm hdo)).trans J;refine Uh (Vw O G ?_);rw[Uk (by simp)];exact Ur ⟨Hx,x+1,rfl,by rw[CZ];congr 1;omega,uc,by rw[vU hy];exact aaI,O,Hu.trans Mk⟩
   rw[Nat.sub_eq_zero_of_le (by omega)]at hr;simp at hr
  rintro b s' ⟨h',i,rfl,hr,hi,Z,J,Hu⟩;have hin:i=D.size:=by
   by_cases uc:i<D.size
   .obtain⟨m,hm⟩:∃m,D.size-i=m+1:=⟨D.size-i-1,by omega⟩
    rw[hm,Tq]at hr;exact nomatch hr
   omega
  refine Ur (hQ h' ?_ Hu);rw[hin,lo,Pd]at Z;exact Z
theorem zQ(d o:Um)(J:d≠o)(O:(o==U0)=false):MeetsIn prog w (Builtin.«dict.update» ⟨[.ref d,.ref o],[]⟩) (λA R s=>knd.room A.in1/\∃xs D,s.heap.DictOfH knd d xs/\s.heap.DictOfH knd o D/\xs≠[]/\xs.length+D.length<=Uu /\
  ∀h',h'.DictOfH knd d (gq xs D)->Heap.SameBut d s.heap h'->R (.ok (.ret .none)) { s with heap:=h' }):=
 .of_wp λA R s ⟨hu,xs,D,hd,G,U,hz,h⟩=>by
  unfold Builtin.«dict.update»;refine Uh ?_;unfold Builtin.Dict.selfAndRest;refine Uh (WD hd.typeIs (Ur ?_));show wpAny _ _ (Builtin.Dict.updateFrom "dict.update" d (.ref o) [] .none) _ _ s;unfold Builtin.Dict.updateFrom Builtin.Dict.merge Builtin.Dict.readDirectly;refine Uh (wpAny_typeOf G.typeIs ?_);rw[Uk (by decide)];refine Uh (Uh (Uh (Vi G.typeIs isSubtype_dict_dict ?_)));simp only[Rl,PF,U1];refine Uh (Vm G.typeIs F.slot_dict_iter.lookup (Ur ?_));simp only[US,VW];refine Uh (Ur ?_);refine JM hu J O hd G U hz λh' V Z=>?_;show wpAny _ _ (Builtin.Dict.addKeywords d [] >>= _) _ _ _;exact Uh (Ur (Ur ⟨.none,rfl,h h' V Z⟩))
end
end xc
namespace L2
open PySem PySem.Spec PyProof.Rows xc
section
variable {X:Cx}
noncomputable def jQ(D more:List (List Key×V)):List (List Key×V):=more.foldl (λG e=>putK G e.1 e.2) D
theorem KT.merge{H:Hp}:∀{more:List (List Key×V)}{J:List (List Key×Um×Uj)}{D:List (List Key×V)}{xs:List (List Key×Um×Uj)},KT H more J->KT H D xs->KT H (jQ D more) (gq xs J)
 |_,_,_,_,.nil,r=>r
 |_,_,_,_,.cons (a:=p) (b:=q) h t,r=>by
  have z:=KT.put r p.1 (b:=q.2.1) h.2.1 h.2.2;have G:=KT.merge t z;rw[h.1]at G;unfold jQ gq at G⊢;rw[Sx,Sx,h.1];exact G
theorem uG:∀(more D:List (List Key×V)),(jQ D more).length<=D.length+more.length
 |[],D=>ON _
 |e::more,D=>by
  have G:=uG more (putK D e.1 e.2);have J:=fX D e.1 e.2;show(jQ (putK D e.1 e.2) more).length<=_;rw[Ph];omega
def JN:V->List V->Hp->VK->Prop:=λx G H Q=>∃a b D more,x=.ref a/\G=[.ref b]/\a≠b/\H a=Yc (.dT D)/\H b=Yc (.dT more)/\D≠[]/\D.length+more.length<=5000/\Q .g9 (upd H a (.dT (jQ D more)))
theorem EC(hu:X.A.units+1<cLine):Ls X "dict.update" JN:=by
 intro pins s σ H x vs v us Q I rx rv h;obtain⟨a,b,D,more,rfl,rfl,ne,G,hb,J,hz,q⟩:=h;cases rx;obtain⟨u,rfl,ru⟩:=Vals.one rv;cases ru;obtain⟨za,O,va,Z,da⟩:=Aj I.bN G;obtain⟨zb,U,vb,rb,db⟩:=Aj I.bN hb;have l1:=Paired.length Z;have l2:=Paired.length rb;have hl:=uG more D;have big:(5000:Nat)<=sizeLine:=by decide
 refine call_meetsIn Se da.typeIs PySem.F.entry_dict_update (PySem.F.args_dict_update_2 _ _) (zQ (knd:=VI (bG X.prog X.w)) a b ne U) ⟨VZ hu,va,vb,da,db,λz=>J (Qk.mp (by rw[l1,z];rfl)),by omega,λh' V hs=>?_⟩;obtain⟨q',es,ep,hq,h2,h3,h4,_,h5⟩:=V;refine⟨.g9,_,mZ (ob:=.dT (jQ D more)) (t':=s.toks) I (by rw[G];exact True.intro) hs ⟨q',hq⟩ ⟨by omega,O,_,(KT.merge rb Z).keeps λc ys ec=>?_,q',es,ep,hq,h2,h3,h4,h5⟩,rfl,q⟩;rw[aG (Cv ec G (λz=>nomatch z))];exact ec
end
end L2
namespace xc
open PySem PySem.Spec PyProof.Rows PySem.W
section
variable {prog:Ux}{w:UA}{A:UG}{E:Uj->Uq->Prop}{s:Uq}{T:String}{r d:Um}{n:Nat}{P:Nat->Uj->Prop}{OK:UH->Prop}
theorem ED{Q:List Uj->Uq->Prop}(K:KdlSrc prog w T r d n P OK)(hh:A.handled=none)(bN:OK s.heap)(hn:n<=Uu)
  (hQ:∀h' tk D,(∀b o,s.heap.get? b=Yc o->h'.get? b=Yc o)->s.heap.objs.size<h'.objs.size->ItemsOf P D n->Q D.toList { s with heap:=h',toks:=tk }):wpAny (model prog w) A (collect (.ref r)) Q E s:=by
 have U:=K.there _ bN;unfold collect;refine Uh (wpAny_runValue (Vn entry_proto_collect' ?_));rw[Around.under_plainId F.plain_proto_collect _];show wpAny _ A.in1 (newList [] >>= λl=>again (.builtin "list.__iadd__" ⟨[l,.ref r],[]⟩)) _ _ s;refine Uh (UK ?_);refine Ur ⟨VP F.plain_list_iadd _,Vn entry_list_iadd' ?_⟩;rw[Around.under_plainId F.plain_list_iadd _];show wpAny _ A.in1 (Builtin.List.listExtendWith (.ref s.heap.objs.size) (.ref r) (.ref s.heap.objs.size)) _ _ _;have hS:(s.heap.push { cls:=.type "list",data:=.seq ([]:List Uj).toArray }).get? s.heap.objs.size=Yc { cls:=.type "list",data:=.seq #[] 0 }:=O6 _ rfl;have O:∀h' tk D c',(∀b o,s.heap.get? b=Yc o->h'.get? b=Yc o)->h'.get? s.heap.objs.size=Yc { cls:=.type "list",dict:=none,data:=.seq D c',slots:=#[] }->ItemsOf P D n ->
   wpAny (model prog w) A (match Value.ref s.heap.objs.size with
   |Value.ref a=>do
    match (<-load a).data with
     |Data.seq xs _=>pure xs.toList
     |_=>unsupported "internal:collect"
   |_=>unsupported "internal:collect") Q E { s with heap:=h',toks:=tk }:=by
  intro h' tk D c' V J G;show wpAny _ A (load s.heap.objs.size >>= _) _ _ _;exact Uh (wpAny_load J (Ur (hQ h' tk D V (O3 J) G)))
 refine UX (kdl_extend (A:=A) (R:=λr' s'=>r'=.ok (.ret (.ref s.heap.objs.size))/\∃h' tk D c',s'={ s with heap:=h',toks:=tk }/\(∀b o,s.heap.get? b=Yc o->h'.get? b=Yc o) /\
   h'.get? s.heap.objs.size=Yc { cls:=.type "list",dict:=none,data:=.seq D c',slots:=#[] }/\ItemsOf P D n)
  (s:={ s with heap:=s.heap.push { cls:=.type "list",data:=.seq ([]:List Uj).toArray } }) K hh (K.keep _ _ bN λb _ o e=>OJ _ e) s.heap.objs.size (QS U.1) (QS U.2) (.ref s.heap.objs.size) 0 hS
  (λh' tk D c' V J G=>⟨rfl,h',tk,D,c',rfl,λb o e=>V b o (Pb (O3 e)) (OJ _ e),J,G⟩) hn) (λfin s' h=>?_) (λe s' h=>?_)
 .cases fin with
  |done f =>
   obtain⟨e,h',tk,D,c',rfl,Z,h2,h3⟩:=h;cases e;exact O h' tk D c' Z h2 h3
  |again c'=>exact⟨h.1,VD h.2 λr s'' hr=>by obtain⟨rfl,h',tk,D,c',rfl,Z,h2,h3⟩:=hr;exact O h' tk D c' Z h2 h3⟩
 exact Us h.1 (by simp)
end
end xc
namespace L2
open PySem PySem.Spec PyProof.Rows NI xc PySem.W nD Calls
section
variable {X:Cx}
noncomputable def JO(i:Int):Key:=.inl i
theorem uH{h:UH}{m:Nat}(O:0<m):∀G:List Um,(∀t∈G,∃xs,Pl h m (.ref t) xs)->∃fs:List Uj,QM h (G.map Value.ref) fs/\∀v∈fs,∃i u,v=.int i u
 |[],_=>⟨[],QM.nil,λv D=>Us D Qp⟩
 |t::G,hp=>by
  obtain⟨fs,U,V⟩:=uH O G λt Z=>hp t (O1 _ Z);obtain⟨xs,t',o,n,its,J,e1,e2,e3,e4,e5,e6⟩:=hp t O2;injection J with J;subst J;cases xs with
  |nil=>rw[Qn]at e5;omega
  |cons x xs =>
   cases e4 with
   | @cons _ v _ vs r1 t1 =>
    obtain⟨u,rfl⟩:=r1;refine⟨.int x u::fs,QM.cons e1 e2 e3 rfl U,λv D=>?_⟩;rcases O9.mp D with rfl|D
    .exact⟨_,_,rfl⟩
    exact V v D
theorem yg:∀{xs D:List Int},xs.map V.int=D.map V.int->xs=D
 |[],[],_=>rfl
 |[],_::_,h=>by simp at h
 |_::_,[],h=>by simp at h
 |x::xs,y::D,h=>by
  rw[Po,Po]at h;injection h with G J;injection G with G;rw[G,yg J]
open Classical in
noncomputable def zR(H:Hp)(t:Um):List Int:=if e:∃r:List Int,H t=Yc (.tup (r.map V.int))then choose e else[]
theorem B7{H:Hp}{t:Um}{r:List Int}(e:H t=Yc (.tup (r.map V.int))):zR H t=r:=by
 have ex:∃r:List Int,H t=Yc (.tup (r.map V.int)):=⟨r,e⟩
 unfold zR;rw[Wr ex];have e2:=e.symm.trans (QB ex);injection e2 with e2;injection e2 with e2;exact(yg e2).symm
def JP(tk G:TE):TE:=λσ H Q=>∀p,H p=none->tk σ (upd H p (.dT [])) λx J=>G σ J λy D=>D p=Yc (.dT [])/\∃(b:Um) (k:List Key),x=.ref b/\D b=Yc (.tup (k.map kV))/\Q (.ref p) (upd D p (.dT [(k,y)]))
theorem EE{k v:UM}{pos:VJ}{tk tv:TE}(hu:X.A.units+1<cLine)(hk:PE X k tk)(hv:PE X v tv):PE X (.Dict [Yc k] [v] pos) (JP tk tv):=by
 intro pins s σ H Q I q;have hn:=I.bN.fresh (ON s.heap.objs.size);have I1:=I.laid (a:=s.heap.objs.size) (o:=.dT []) (h':=s.heap.push { cls:=.type "dict",data:=.dict #[] }) (t':=s.toks) (λ_ _ q=>OJ _ q) (ON _) (wV s.heap I.big);have hp:=(CV (pos:=pos) hk hv FT) pins _ σ _ (λG J=>match G with|[(x,y)]=>J s.heap.objs.size=Yc (.dT [])/\∃(b:Um) (k:List Key),x=.ref b/\J b=Yc (.tup (k.map kV))/\Q (.ref s.heap.objs.size) (upd J s.heap.objs.size (.dT [(k,y)]))|_=>False) I1 (q _ hn);rw[arm_eval_Dict,zip_pairTrees [Yc k] [v] X.env pos rfl rfl,dictDisplay_pairs (pairTrees [Yc k] [v] X.env pos) (Tr _ _) (by show 1<17;decide)];refine Uh (U7 (Uh ?_));unfold subDict;refine Uh (wpAny_alloc ?_);refine Uh (UD ?_);rw[Uo (show(pairTrees [Yc k] [v] X.env pos).length<=15 by show 1<=15;decide)];refine Uh (cF hp λws s2 zq=>?_);obtain⟨G,J,O,U,q1⟩:=zq;obtain⟨x,y,rfl⟩:∃x y,G=[(x,y)]:=by
  match G,q1 with
  |[(x,y)],_=>exact⟨x,y,rfl⟩
  |[],z=>exact z.elim
  |_::_::_,z=>exact z.elim
 obtain⟨e,b,key,ex,eb,q2⟩:=q1;cases U with
 | @cons a c as bs h t =>
  cases t;subst ex;obtain⟨c1,c2⟩:=c;obtain rfl:c1=Value.ref b:=h.1;obtain⟨z,hd,xs,D,dd⟩:=Aj O.bN e;have hz:xs.length<=sizeLine:=by rw[<-Paired.length D];exact z
  refine UD ?_;rw[List.forIn_cons];refine Uh (Uh (Uh (wpAny_dictSet_heap (hsz:=hz) (show X.A.units<cLine by omega) (qU O.bN eb) dd λh' Z hs=>Ur ?_)));dsimp only;rw[List.forIn_nil];refine Ur (Ur (Ur (Ur ⟨.ref s.heap.objs.size,_,?_,rfl,q2⟩)));have hl:(putK ([]:List (List Key×V)) key y).length<=sizeLine:=by show 1<=Uu;decide
  obtain⟨q',es,ep,hq,h2,h3,h4,_,h5⟩:=Z;refine mZ O (by rw[e];exact True.intro) hs ⟨q',hq⟩ ⟨hl,hd,_,(D.put key eb h.2).keeps λc ys ec=>?_,q',es,ep,hq,h2,h3,h4,h5⟩;rw[aG (Cv ec e (λz=>nomatch z))];exact ec
end
end L2
namespace gC
open PySem L2 Th aI
noncomputable def kW(w:List Nat):List Key:=w.map λ(x:Nat)=>(Sum.inl (x:Int):Key)
noncomputable def dS(F:List (List Nat)):List (List Key×V):=F.map λw=>(kW w,V.bl true)
theorem EF:∀{v w:List Nat},kW v=kW w->v=w
 |[],[],_=>rfl
 |[],_::_,h=>by simp[kW]at h
 |_::_,[],h=>by simp[kW]at h
 |x::v,y::w,h=>by
  have h:(Sum.inl (x:Int):Key)::kW v=Sum.inl (y:Int)::kW w:=h;injection h with D G;injection D with D;rw[EF G,show x=y by omega]
theorem HK(w:List Nat):nV w=(kW w).map kV:=by
 unfold nV kW;rw[Pp]
 rfl
theorem zS{H:Hp}{t:Um}{w:List Nat}(h:H t=Yc (.tup (nV w))):H t=Yc (.tup ((kW w).map kV)):=by rw[h,HK]
theorem uI{w:List Nat}:∀{F:List (List Nat)},w∉F->bX (dS F) (kW w)=none
 |[],_=>rfl
 |v::F,h=>(dZ (λz=>h (by rw[EF z];exact O2))).trans (uI λz=>h (O1 _ z))
open Classical in
noncomputable def addW(F:List (List Nat))(w:List Nat):List (List Nat):=if w∈F then F else F++[w]
theorem Ml(F:List (List Nat))(w:List Nat):putK (dS F) (kW w) (.bl true)=dS (addW F w):=by
 unfold addW;by_cases c:w∈F
 .rw[Uo c];have e:((dS F).any λD=>decide (D.1=kW w))=true:=List.any_eq_true.mpr ⟨(kW w,.bl true),OO.mpr ⟨w,c,rfl⟩,Ul rfl⟩;unfold putK;rw[Uo e];unfold dS;rw[Pp];refine PB λv _=>?_;show(if(kW v,V.bl true).1=kW w then((kW v,V.bl true).1,V.bl true)else(kW v,V.bl true))=_
  split <;> rfl
 rw[Uk c,CO _ (uI c)];unfold dS;rw[O5]
 rfl
theorem EG{F:List (List Nat)}{w v:List Nat}:v∈addW F w↔v∈F\/v=w:=by
 unfold addW
 split
 .rename_i h;exact⟨.inl,λz=>z.elim id λe=>e▸h⟩
 rw[OY,OS]
theorem G6{F:List (List Nat)}{w:List Nat}(h:F.Nodup):(addW F w).Nodup:=by
 unfold addW
 split
 .exact h
 rename_i c;rw[PY];exact⟨h,by simp,λa D b G e=>c (by rw[<-OS.mp G,<-e];exact D)⟩
theorem EH:∀{O F:List (List Nat)},(F++O).Nodup->jQ (dS F) (dS O)=dS (F++O)
 |[],F,_=>by rw[Pj];rfl
 |w::O,F,h=>by
  have hw:w∉F:=λz=>(PY.mp h).2.2 w z w O2 rfl;show jQ (putK (dS F) (kW w) (.bl true)) (dS O)=_;rw[Ml];have e:addW F w=F++[w]:=by unfold addW;rw[Uk hw]
  rw[e,EH (by rw[PM];exact h),PM]
  rfl
structure Lv(n:Nat) (os ms:List Nat) (F R:List (List Nat)) (c:Nat):Prop where
 nd:F.Nodup
 one:ms∈F
 EI:∀w∈F,vQ n os ms w
 sub:∀w∈R,w∈F
 far:∀w∈F,c<=aC n w os
 now:∀w∈R,aC n w os=c
 don:∀w∈F,w∉R->∀v∈iQ n os w,v∈F
theorem Lv.start{n:Nat}{os ms:List Nat}:Lv n os ms [ms] [ms] (aC n ms os):=
 ⟨by simp,O2,λw hw=>by rw[OS.mp hw];exact .refl,λw h=>h,λw hw=>by rw[OS.mp hw];exact ON _,λw hw=>by rw[OS.mp hw],λw hw z=>Us hw z⟩
theorem Lv.next{n:Nat}{os ms:List Nat}{F R O:List (List Nat)}{c:Nat}(W:ak n ms)(L:Lv n os ms F R c)(nd:O.Nodup)(J:∀v,v∈O↔∃w∈R,v∈iQ n os w)(ne:O≠[]):∃c',c=c'+1/\Lv n os ms (F++O) O c':=by
 have D:∀v∈O,aC n v os+1=c:=λv G=>by
  obtain⟨w,hw,h⟩:=(J v).mp G;have:=((qC ((L.EI w (L.sub w hw)).work W)).mp h).2;rw[L.now w hw]at this;exact this
 obtain⟨V,U⟩:∃v,v∈O:=by cases O with
  |nil=>exact Us rfl ne
  |cons v _=>exact⟨v,O2⟩
 have Z:=D V U;refine⟨aC n V os,Z.symm,?_,Pn _ L.one,λw hw=>?_,λw hw=>OZ _ hw,λw hw=>?_,λw hw=>?_,λw hw hn v G=>?_⟩
 .rw[PY];refine⟨L.nd,nd,λa ha b hb e=>?_⟩;have a1:=L.far a ha;have a2:=D b hb;rw[e]at a1;omega
 .rcases OY.mp hw with q|q
  .exact L.EI w q
  obtain⟨u,hu,h⟩:=(J w).mp q;exact(L.EI u (L.sub u hu)).step h
 .rcases OY.mp hw with q|q
  .have:=L.far w q;omega
  have:=D w q;omega
 .have:=D w hw;omega
 rcases OY.mp hw with q|q
 .by_cases c2:w∈R
  .exact OZ _ ((J v).mpr ⟨w,c2,G⟩)
  exact Pn _ (L.don w q c2 v G)
 exact Us q hn
theorem Lv.all{n:Nat}{os ms:List Nat}{F:List (List Nat)}{c:Nat}(L:Lv n os ms F [] c){w:List Nat}(h:vQ n os ms w):w∈F:=by
 induction h with
 |refl=>exact L.one
 |step _ D G=>exact L.don _ G (by simp) _ D
theorem Lv.stop{n:Nat}{os ms:List Nat}{F R:List (List Nat)}{c:Nat}(L:Lv n os ms F R c)(h:∀w∈R,∀v,v∉iQ n os w):Lv n os ms F [] c :=
 ⟨L.nd,L.one,L.EI,λw hw=>by simp at hw,L.far,λw hw=>by simp at hw,λw hw _ v D=>by
  by_cases c2:w∈R
  .exact Us D (h w c2 v)
  exact L.don w hw c2 v D⟩
variable (K:OM)
end gC
namespace L2
open PySem PySem.Spec PyProof.Rows NI xc PySem.W nD Calls
section
variable {X:Cx}
theorem sj(hc:X.calm=true):fW X (.builtin "sorted") (λxs H Q=>∃(d:Um) (m:Nat) (D:List (List Key×V)) (L:List (List Int)),xs=[.ref d]/\H d=Yc (.dT D)/\D.map (·.1)=L.map (λr=>r.map JO)/\L.length<64/\(2<=L.length->0<m)/\(∀r∈L,r.length=m/\Cm r) /\
  ∀(us:List Um) (g:Um->List Int) (l:Um),(us.map g).Perm L->((us.map g).Pairwise λr q=>qJ 0 r<=qJ 0 q)->(∀t∈us,H t=Yc (.tup ((g t).map V.int)))->H l=none->Q (.ref l) (upd H l (.lst (us.map V.ref)))):=by
 intro pins s σ H xs us Q I r h;obtain⟨d,m,D,L,rfl,hd,hk,Ju,hm,hL,q⟩:=h;obtain⟨u,rfl,ru⟩:=r.one;cases ru;obtain⟨z,lo,xs,rel,o,es,ep,h1,h2,h3,h4,h5⟩:=(show cQ X.prog X.w H s.heap d (.dT D)from I.bN d _ hd)
 have hsz:es.size=D.length:=by
  rw[Paired.length rel];have:=congrArg Sf h4;rwa[Qf,OH]at this
 have hx:xs.length=D.length:=(Paired.length rel).symm;have EJ:D.length=L.length:=by have:=congrArg Sf hk;rwa[OH,OH]at this
 let G:=xs.map (·.2.1)
 have tl:G.length=L.length:=by show(xs.map _).length=_;rw[OH,hx,EJ]
 have G5:∀(i:Nat) (t:Um) (r:List Int),G[i]?=Yc t->L[i]?=Yc r->H t=Yc (.tup (r.map V.int)):=λi t r e1 e2=>by
  rw[OR]at e1;obtain⟨p,e3,rfl⟩:=Qd.mp e1;have hi:=(OI.mp e3).1;have e4:=OG (l:=D) (i:=i) (by omega);have zz:=mK rel e4 e3;have e5:(D.map (·.1))[i]?=Yc D[i].1:=by rw[OR,e4];rfl
  rw[hk,OR,e2]at e5;have e6:D[i].1=r.map JO:=(Option.some.inj e5).symm;rw[zz.2.1,e6,Pp]
  rfl
 have hpl:∀t∈G,∃r∈L,Pl s.heap m (.ref t) r/\H t=Yc (.tup (r.map V.int)):=λt O=>by
  obtain⟨i,hi⟩:=Qq.mp O;have uc:=(OI.mp hi).1;have el:=OG (l:=L) (i:=i) (by omega);have LG:=OP el;have e:=G5 i t _ hi el;obtain⟨its,rv,⟨o',f1,f2,n,f3⟩,_⟩:=I.tuple (br.of e);exact⟨_,LG,⟨t,o',n,its,rfl,f1,f2,f3,rv,(hL _ LG).1,(hL _ LG).2⟩,e⟩
 refine call_function_entry WR Wu Wv (Xm _) ?_;unfold Builtin.«sorted»;refine Uh (m:=Xe "sorted" 1 1 _) (Ur ?_);refine Uh (ED (A:=X.A.in1) (yf (prog:=X.prog) (w:=X.w) (es:=es) (ep:=ep) lo) (I.ok.hd hc) ⟨o,h1,h2.1,h3⟩ (by rw[hsz];exact z) λh' tk U hkp Mm Z=>?_);have aaK:U.toList=G.map Value.ref:=by
  refine QY λi=>?_;by_cases hi:i<es.size
  .have Cn:i<U.size:=by rw[Z.1];exact hi
   have e7:U.toList[i]?=Yc U[i]:=by rw[RI];exact Qb Cn
   obtain⟨JQ,ev⟩:=Z.2 i U[i] (Qb Cn);have e10:=OG (l:=xs) (i:=i) (by omega);have Mj:es.toList[i]?=Yc (VH (VI (bG X.prog X.w)) xs[i]):=by rw[h4,OR,e10];rfl
   have NJ:es.toList[i]?=Yc es[i]:=by rw[RI];exact Qb hi
   rw[NJ]at Mj;rw[e7,OR,OR,e10,ev,Option.some.inj Mj]
   rfl
  rw[PU (by rw[Qf,Z.1];omega),PU (by rw[OH,tl];omega)]
 rw[aaK];refine Uh (Vo ?_ (by rw[OH,tl,UJ];omega));have J:(h'.push (seqObj "list" (G.map Value.ref).toArray 0)).get? h'.objs.size=Yc (seqObj "list" (G.map Value.ref).toArray 0):=O6 _ rfl;have old:∀b o,s.heap.get? b=Yc o->b≠h'.objs.size/\(h'.push (seqObj "list" (G.map Value.ref).toArray 0)).get? b=Yc o:=λb o e=>⟨Pb (O3 (hkp b o e)),OJ _ (hkp b o e)⟩
 have gsz:s.heap.objs.size<=h'.objs.size:=Sr Mm
 let g:Um->List Int:=zR H
 have gof:∀{t:Um}{r:List Int},H t=Yc (.tup (r.map V.int))->g t=r:=B7;have tsg:G.map g=L:=by
  refine QY λi=>?_;by_cases hi:i<G.length
  .have e1:=OG hi;have e2:=OG (l:=L) (i:=i) (by omega);rw[OR,e1,e2];exact congrArg some (gof (G5 i _ _ e1 e2))
  rw[PU (by rw[OH];omega),PU (by omega)]
 have Mn:∀t∈G,Pl s.heap m (.ref t) (g t)/\H t=Yc (.tup ((g t).map V.int)):=λt O=>by
  obtain⟨r,_,p1,p2⟩:=hpl t O;rw[gof p2];exact⟨p1,p2⟩
 have fin:∀(out:Array Uj),out.toList.Perm (G.map Value.ref)->(out.toList.Pairwise λu v=>Ks s.heap m u<=Ks s.heap m v)->EP X pins σ Q (.ref h'.objs.size) { s with heap:=XJ (h'.push (seqObj "list" (G.map Value.ref).toArray 0)) h'.objs.size (G.map Value.ref) out,toks:=tk }:=λout a1 a2=>by
  obtain⟨ws,e,hw⟩:=uk a1;obtain⟨c,he⟩:=sortedHeap_at (out:=out) J;have wm:∀t∈ws,t∈G:=λt O=>hw.mem_iff.mp O;have a3:(ws.map g).Pairwise λr q=>qJ 0 r<=qJ 0 q:=by
   rw[e,Px]at a2;rw[Px];refine List.Pairwise.imp_of_mem (λ{x y} hx hy z=>?_) a2;rw[vS (Mn x (wm x hx)).1,vS (Mn y (wm y hy)).1]at z;exact z
  refine⟨.ref h'.objs.size,_,I.laid (a:=h'.objs.size) (o:=.lst (ws.map V.ref)) (t':=tk) (λb o eb=>?_) gsz ⟨?_,out.toList,c,by rw[e];exact mJ ws,by simpa[seqObj]using he⟩,rfl,q ws g _ (by have:=hw.map g;rw[tsg]at this;exact this) a3 (λt O=>(Mn t (wm t O)).2) (I.bN.fresh gsz)⟩
  .obtain⟨n1,n2⟩:=old b o eb;rw[sortedHeap_old n1 (O3 n2)];exact n2
  rw[OH,hw.length_eq,tl,UJ];omega
 by_cases c:2<=G.length
 .letI:=JK s.heap m
  obtain⟨fs,k1,k2⟩:=uH (h:=s.heap) (hm (by omega)) G λt O=>⟨_,(Mn t O).1⟩
  refine Uh (UD (UN slot_list_sort ⟨_,J,rfl⟩ entry_list_sort (pG (fs:=fs) (rk:=Ks s.heap m) (T:=.type "int") (λp=>rfl) rfl rfl J (by rw[OH];exact c) (by rw[OH];omega) (λHx aaL=>?_) λout a1 a2=>⟨_,rfl,Ur ⟨_,rfl,fin out a1 a2⟩⟩) (V5 _)));have kk:∀b o,s.heap.get? b=Yc o->Hx.get? b=Yc o:=λb o e=>aaL b o (old b o e).1 (old b o e).2;refine⟨rS kk k1,λv hv=>?_,λp hp=>?_,G4 kk⟩
  .obtain⟨i,u,rfl⟩:=k2 v hv;exact .now
  have ez:(Vt (G.map Value.ref)).toList=(G.map Value.ref).zip (G.map Value.ref):=by unfold Vt;simp
  rw[ez]at hp;obtain⟨t,O,e⟩:=OO.mp (Ru hp).1;exact⟨g t,by rw[<-e];exact(Mn t O).1⟩
 refine Uh (UD (UN slot_list_sort ⟨_,J,rfl⟩ entry_list_sort (xS J (by rw[OH];omega) ⟨_,rfl,Ur ⟨_,rfl,fin _ (by simp) ?_⟩⟩) (V5 _)));have:(G.map Value.ref).length<2:=by rw[OH];omega
 generalize G.map Value.ref=vs at this
 match vs,this with
 |[],_=>exact List.Pairwise.nil
 |[t],_=>exact Sh _ _
 |_::_::_,z=>exact Us z (by simp)
end
end L2
namespace aI
open PySem L2 gC
variable (K:OM)
def nS(D G:Um):Sp:=λJ H Q E=>∃(a b:Um) (n m:Nat) (ms os:List Nat),J=[.ref a,.ref b]/\n<=20/\H a=Yc (.tup (nV ms))/\ak n ms/\H b=Yc (.tup (nV os))/\os.length=2*m /\
 (n=m->ak n os/\(aC n ms os<=5->(∀w,vQ n os ms w->Mh n w os)/\(∀L:List (List Nat),L.Nodup->(∀w∈L,vQ n os ms w)->L.length<64) /\
  ∀(l:Um) (L:List (List Nat)) (H':Hp),H l=none->aE H H'->fq nV H' l L->L.Nodup->(∀w,w∈L↔vQ n os ms w)->Q (.ref l) H')/\(5<aC n ms os->∀H':Hp,aE H H'->E (.ref G) none H'))/\(n≠m->E (.ref D) none H)
end aI
namespace gC
open Th aI
noncomputable def fl(x:Nat):Nat:=if x%2=0 then x+1 else x-1
theorem HL(x:Nat):fl (fl x)=x:=by unfold fl;split <;> split <;> omega
theorem HM(x:Nat):fl x≠x:=by unfold fl;split <;> omega
theorem A8(x:Nat):fl x/2=x/2:=by unfold fl;split <;> omega
theorem A9{n x:Nat}(h:x<2*n):fl x<2*n:=by unfold fl;split <;> omega
noncomputable def sg(n:Nat)(f:Nat->Bool):List Nat:=(OV (2*n)).map λx=>if f (x/2)=true then fl x else x
section
variable {n:Nat}{f g:Nat->Bool}
theorem iU:(sg n f).length=2*n:=by unfold sg;rw[OH,OW]
theorem fm{x:Nat}(h:x<2*n):ar (sg n f) x=if f (x/2)=true then fl x else x:=by
 unfold ar sg;rw[QK,OR,Qv h]
 rfl
theorem fB(J:n<=40):ak n (sg n f):=by
 refine qD J iU (λx D=>?_) λx D=>?_
 .rw[fm D];split
  .exact A9 D
  exact D
 have G:ar (sg n f) x<2*n:=by
  rw[fm D];split
  .exact A9 D
  exact D
 rw[fm D]at G⊢;by_cases c:f (x/2)=true
 .rw[Uo c]at G⊢;rw[fm G,A8,Uo c,HL]
 rw[Uk c]at G⊢;rw[fm D,Uk c]
theorem mi{x:Nat}(h:x<2*n):ar (sg n f) x=x\/ar (sg n f) x=fl x:=by
 rw[fm h];split
 .exact .inr rfl
 exact .inl rfl
def Sg(n:Nat)(w:List Nat):Prop:=∀x,x<2*n->ar w x=x\/ar w x=fl x
theorem jR{ms os:List Nat}(G:Sg n ms)(J:Sg n os){x y:Nat}(O:x<2*n)(c:aB (ar ms) (ar os) x y):y=x\/y=fl x:=by
 have:=c (λz=>z<2*n/\(z=x\/z=fl x)) ⟨O,.inl rfl⟩ λz ⟨hz,e⟩=>by
  have key:∀u,u=z\/u=fl z->u<2*n/\(u=x\/u=fl x):=λu D=>by
   refine⟨by rcases D with rfl|rfl;exact hz;exact A9 hz,?_⟩;rcases D with rfl|rfl
   .exact e
   rcases e with rfl|rfl
   .exact .inr rfl
   exact .inl (HL x)
  exact⟨key _ (G z hz),key _ (J z hz)⟩
 exact this.2
theorem zT{ms os:List Nat}(D:Sg n ms)(G:Sg n os):tF n ms os:=λx J=>by
 refine PD (sub_len k8 (m:=[x,fl x]) λy O=>?_) (by simp);rcases jR D G J (gG.mp O).2 with e|e <;> rw[e] <;> simp
theorem HN(h:∀s,s<n->(f s=true↔¬g s=true)){x:Nat}(D:x<2*n):kd (ar (sg n f)) (ar (sg n g)) x=if f (x/2)=true then .tied else .bare:=by
 have hs:x/2<n:=by omega
 have O:Sg n (sg n f):=λx D=>mi D;have U:Sg n (sg n g):=λx D=>mi D;have J:∀y,aB (ar (sg n f)) (ar (sg n g)) x y->y<2*n/\y/2=x/2:=λy c=>by
  rcases jR O U D c with e|e
  .rw[e];exact⟨D,rfl⟩
  rw[e];exact⟨A9 D,A8 x⟩
 unfold kd;by_cases c:f (x/2)=true
 .have V:=(h _ hs).mp c;have A:¬cI (ar (sg n f)) (ar (sg n g)) x:=λ⟨u,G,e⟩=>by
   obtain⟨l,q⟩:=J u G;rw[fm l,q,Uo c]at e;exact HM u e
  have B:c6 (ar (sg n f)) (ar (sg n g)) x:=⟨x,aB.refl x,by rw[fm D,Uk V]⟩
  rw[Uk (λz=>A z.1),Uk A,Uo B,Uo c]
 have Z:g (x/2)=true:=OU λz=>c ((h _ hs).mpr z);have B:¬c6 (ar (sg n f)) (ar (sg n g)) x:=λ⟨u,G,e⟩=>by
  obtain⟨l,q⟩:=J u G;rw[fm l,q,Uo Z]at e;exact HM u e
 have A:cI (ar (sg n f)) (ar (sg n g)) x:=⟨x,aB.refl x,by rw[fm D,Uk c]⟩
 rw[Uk (λz=>B z.2),Uo A,Uk c]
theorem EK(U:n<=40)(h:∀s,s<n->(f s=true↔¬g s=true)){J:List (Kd×List Nat)}(V:bW n (sg n f) (sg n g) J){th:Kd×List Nat}(Z:th∈J):th.2.length=2/\∃s,s<n/\th.1=if f s=true then .tied else .bare:=by
 have W:=fB (f:=f) U;have WO:=fB (f:=g) U;have G:=V.good W WO Z;obtain⟨x,D⟩:∃x,x∈th.2:=Q6 G.ne;have lx:=G.lt x D;have O:=iS W WO V Z D;rw[HN h lx]at O;refine⟨?_,x/2,by omega,O.1.symm⟩;have par:=G.par;have l3:(eF (2*n) (ar (sg n f)) (ar (sg n g)) x).length<=[x,fl x].length:=sub_len k8 λy hy=>by
  rcases jR (ms:=sg n f) (os:=sg n g) (λx D=>mi D) (λx D=>mi D) lx (gG.mp hy).2 with e|e <;> rw[e] <;> simp
 rw[O.2]at l3;have ne:=G.ne;have np:¬th.2.length%2=1:=λz=>by
  have:=par.mp z;rw[<-O.1]at this
  split at this <;> cases this
 simp at l3;omega
theorem EL(J:n<=40)(h:∀s,s<n->(f s=true↔¬g s=true)):aC n (sg n f) (sg n g)=n:=by
 have W:=fB (f:=f) J;have O:=fB (f:=g) J;obtain⟨D,U⟩:=eC W O;rw[<-gR W O U];have L:=(jw W O U).len;have two:∀th∈D,cT th=1/\th.2.length=2:=λth G=>by
  obtain⟨V,s,_,k⟩:=EK J h U G;refine⟨?_,V⟩;unfold cT;rw[Uk (λz=>by rw[k]at z;split at z <;> cases z),V]
 rw[lO D (k:=1) λth G=>(two th G).1];have e:(iZ D).length=D.length*2:=by
  unfold iZ;rw[SW,Pp];exact lO D λth G=>(two th G).2
 omega
theorem B8(O:n<=40)(h:∀s,s<n->(f s=true↔¬g s=true)):aP n (sg n f) (sg n g)↔(∀s,s<n->f s=true)\/(∀s,s<n->¬f s=true):=by
 have W:=fB (f:=f) O;have D:=fB (f:=g) O;obtain⟨U,G⟩:=eC W D;have A:=tE W D G;rw[cV W D G];unfold both;rw[SF,VA,VA];have mem:∀k:Kd,k∈U.map (·.1)↔∃s,s<n/\k=if f s=true then .tied else .bare:=λk=>by
  constructor
  .intro V;obtain⟨th,J,e⟩:=OO.mp V;obtain⟨_,s,hs,q⟩:=EK O h G J;exact⟨s,hs,by rw[<-e,q]⟩
  rintro⟨s,hs,e⟩;obtain⟨th,J,m⟩:=A.mem (p:=2*s) (by omega);refine OO.mpr ⟨th,J,?_⟩;rw[<-(iS W D G J m).1,HN h (by omega),e,show 2*s/2=s by omega]
 rw[mem,mem];constructor
 .rintro(z|z)
  .exact .inl λs hs=>OU λq=>z ⟨s,hs,by rw[Uk q]⟩
  exact .inr λs hs q=>z ⟨s,hs,by rw[Uo q]⟩
 rintro(z|z)
 .exact .inl λ⟨s,hs,e⟩=>by rw[Uo (z s hs)]at e;cases e
 exact .inr λ⟨s,hs,e⟩=>by rw[Uk (z s hs)]at e;cases e
noncomputable def cS(f:Nat->Bool)(s:Nat):Nat×Nat:=if f s=true then(2*s,2*s)else(2*s,2*s+1)
noncomputable def put(f:Nat->Bool)(s:Nat)(v:Bool):Nat->Bool:=λk=>if k=s then v else f k
theorem lh{f g:Nat->Bool}(h:∀s,s<n->f s=g s):sg n f=sg n g:=by
 unfold sg;refine PB λx D=>?_;rw[h (x/2) (by have:=OX.mp D;omega)]
theorem Ba(hn:n<=40){s:Nat}(hs:s<n)(ne:f s≠g s):cS f s∈dG n (sg n g) (sg n f)/\bM (sg n f) (cS f s).1 (cS f s).2=sg n (put f s (g s)):=by
 have W:=fB (f:=f) hn;have V:=fB (f:=g) hn;have S1:Sg n (sg n f):=λx D=>mi D;have S2:Sg n (sg n g):=λx D=>mi D;obtain⟨bf,hI⟩:=eC W V;have A:=tE W V hI;have J:2*s<2*n:=by omega
 have l1:2*s+1<2*n:=by omega
 have f0:fl (2*s)=2*s+1:=by unfold fl;rw[Uo (by omega)]
 have f1:fl (2*s+1)=2*s:=by unfold fl;rw[Uk (by omega)];omega
 have d0:2*s/2=s:=by omega
 have d1:(2*s+1)/2=s:=by omega
 obtain⟨th,ht,hm⟩:=A.mem J;have G:=hI.good W V ht;have f3:=Kq G ((zT S1 S2).cN W V hI ht);have Z:∀y∈th.2,y=2*s\/y=2*s+1:=λy hy=>by
  have:=jR S1 S2 J (vL A ht hm hy);rwa[f0]at this
 have nd:=G.nd;have kq:=(iS W V hI ht hm).1;cases c:f s with
 |true =>
  have gs:g s=false:=by cases q:g s with
   |true=>exact Us (c.trans q.symm) ne
   |false=>rfl
  have e:cS f s=(2*s,2*s):=by unfold cS;rw[Uo c]
  have aF:ar (sg n f) (2*s)=2*s+1:=by rw[fm J,d0,Uo c,f0]
  have bF:ar (sg n g) (2*s)=2*s:=by rw[fm J,d0,Uk (by rw[gs];decide)]
  rw[e];constructor
  .rw[<-oX W V hI,O0];have k1:th.1=.tied:=by
    rw[<-kq];unfold kd;have Al:¬cI (ar (sg n f)) (ar (sg n g)) (2*s):=λ⟨u,cu,q⟩=>by
     rcases jR S1 S2 J cu with z|z
     .rw[z,aF]at q;omega
     rw[z,f0,fm l1,d1,Uo c,f1]at q;omega
    rw[Uk (λz=>Al z.1),Uk Al,Uo ⟨_,aB.refl _,bF⟩]
   exact⟨gF.mpr (.inr (.inr ⟨2*s,bj.mpr ⟨th,ht,k1,hm⟩,rfl⟩)),(uB W J l1 aF (by omega)).1⟩
  refine jM (by rw[dR,iU,iU]) λx D=>?_;rw[dR,iU]at D;rw[dy (by rw[iU];exact D),fm D];unfold cG;rw[Uo rfl,aF];unfold put;by_cases q:x/2=s
  .rw[Uo (by omega),q,Uo rfl,gs,Uk (by decide)]
  rw[Uk (by omega),Uk q,fm D]
 |false =>
  have gs:g s=true:=by cases q:g s with
   |false=>exact Us (c.trans q.symm) ne
   |true=>rfl
  have nc:¬f s=true:=by rw[c];decide
  have e:cS f s=(2*s,2*s+1):=by unfold cS;rw[Uk nc]
  have aF:ar (sg n f) (2*s)=2*s:=by rw[fm J,d0,Uk nc]
  have aF1:ar (sg n f) (2*s+1)=2*s+1:=by rw[fm l1,d1,Uk nc]
  have bF:ar (sg n g) (2*s)=2*s+1:=by rw[fm J,d0,Uo gs,f0]
  have bF1:ar (sg n g) (2*s+1)=2*s:=by rw[fm l1,d1,Uo gs,f1]
  rw[e];constructor
  .rw[<-oX W V hI,O0];have k1:th.1=.bare:=by
    rw[<-kq];unfold kd;have Bl:¬c6 (ar (sg n f)) (ar (sg n g)) (2*s):=λ⟨u,cu,q⟩=>by
     rcases jR S1 S2 J cu with z|z
     .rw[z,bF]at q;omega
     rw[z,f0,bF1]at q;omega
    rw[Uk (λz=>Bl z.2),Uo ⟨_,aB.refl _,aF⟩]
   have o:ord (2*s) (2*s+1)=(2*s,2*s+1):=eu (by omega);refine⟨gF.mpr (.inr (.inl ⟨th,ht,?_⟩)),by rw[<-o];exact se W J l1 (by omega) aF⟩;obtain⟨k,L⟩:=th;simp only at k1 f3 Z nd⊢;subst k1;cases f3 with
   | @bare u v h1 h2 h3 =>
    have es:bZ [u,v]=[ord u v]:=rfl;rw[es,OS];have uv:u≠v:=λz=>by subst z;simp at nd
    rcases Z u (by simp)with O|O <;> rcases Z v (by simp)with U|U
    .exact Us (O.trans U.symm) uv
    .rw[O,U,o]
    .rw[O,U,gk,o]
    exact Us (O.trans U.symm) uv
  refine jM (by rw[dR,iU,iU]) λx D=>?_;rw[dR,iU]at D;rw[dy (by rw[iU];exact D),fm D];unfold cG put;rw[Uk (by omega)];by_cases O:x=2*s
  .rw[Uo O,O,d0,Uo rfl,gs,Uo rfl,f0]
  rw[Uk O];by_cases U:x=2*s+1
  .rw[Uo U,U,d1,Uo rfl,gs,Uo rfl,f1]
  rw[Uk U,aF,Uk O,aF1,Uk U,Uk (show¬x/2=s by omega),fm D]
noncomputable def gT(f g:Nat->Bool)(k:Nat):Nat->Bool:=λs=>if s<k then g s else f s
theorem EM(D:n<=40)(h:∀s,s<n->f s≠g s):∀(m k:Nat),k+m=n->gn n (sg n g) (sg n (gT f g k)) ((OV m).map λi=>cS f (k+i))
 |0,k,e=>by
  have:sg n (gT f g k)=sg n g:=lh λs hs=>by unfold gT;rw[Uo (by omega)]
  rw[this];exact .nil
 |m+1,k,e=>by
  have G:k<n:=by omega
  have m0:gT f g k k=f k:=by unfold gT;rw[Uk (by omega)]
  obtain⟨J,O⟩:=Ba (f:=gT f g k) (g:=g) D G (by rw[m0];exact h k G);have ec:cS (gT f g k) k=cS f k:=by unfold cS;rw[m0]
  rw[ec]at J O;have V:=EM D h m (k+1) (by omega);rw[Sq,Po,Pp];refine .cons J ?_;rw[show cS f (k+0)=cS f k from rfl,O];have e1:sg n (put (gT f g k) k (g k))=sg n (gT f g (k+1)):=lh λs hs=>by
   unfold put gT;by_cases q:s=k
   .rw[Uo q,Uo (by omega),q]
   rw[Uk q];by_cases U:s<k
   .rw[Uo U,Uo (by omega)]
   rw[Uk U,Uk (by omega)]
  rw[e1];have e2:((OV m).map ((λi=>cS f (k+i)) ∘ Nat.succ))=(OV m).map λi=>cS f (k+1+i):=PB λi _=>by
   show cS f (k+(i+1))=cS f (k+1+i);rw[show k+(i+1)=k+1+i by omega]
  rw[e2];exact V
theorem JR(D:n<=40)(h:∀s,s<n->f s≠g s):gn n (sg n g) (sg n f) ((OV n).map (cS f)):=by
 have z:=EM D h n 0 (by omega);have e:sg n (gT f g 0)=sg n f:=lh λs hs=>by unfold gT;rw[Uk (by omega)]
 rw[e]at z;have e2:((OV n).map λi=>cS f (0+i))=(OV n).map (cS f):=PB λi _=>by rw[Qh]
 rw[e2]at z;exact z
theorem EN(J:n<=40)(h:∀s,s<n->f s≠g s)(k:Nat->Bool):vQ n (sg n g) (sg n f) (sg n k):=by
 have key:∀m,m<=n->vQ n (sg n g) (sg n f) (sg n (gT f k m)):=λm=>by
  induction m with
  |zero =>
   intro _;have e:sg n (gT f k 0)=sg n f:=lh λs hs=>by unfold gT;rw[Uk (by omega)]
   rw[e];exact .refl
  |succ m G =>
   intro hm;have G:=G (by omega);by_cases c:k m=f m
   .have e:sg n (gT f k (m+1))=sg n (gT f k m):=lh λs hs=>by
     unfold gT;by_cases q:s=m
     .rw[Uo (by omega),Uk (by omega),q,c]
     by_cases D:s<m
     .rw[Uo (by omega),Uo D]
     rw[Uk (by omega),Uk D]
    rw[e];exact G
   have m0:gT f k m m=f m:=by unfold gT;rw[Uk (by omega)]
   obtain⟨O,U⟩:=Ba (f:=gT f k m) (g:=g) J (show m<n by omega) (by rw[m0];exact h m (by omega));have V:k m=g m:=by
    have:=h m (by omega);cases Z:k m <;> cases D:f m <;> cases q3:g m <;> rw[Z,D]at c <;> rw[D,q3]at this <;> first|rfl|exact Us rfl c|exact Us rfl this
   have e:sg n (gT f k (m+1))=sg n (put (gT f k m) m (g m)):=lh λs hs=>by
    unfold put gT;by_cases q:s=m
    .rw[Uo (by omega),Uo q,q,V]
    rw[Uk q];by_cases D:s<m
    .rw[Uo (by omega),Uo D]
    rw[Uk (by omega),Uk D]
   rw[e,<-U];exact G.step (OO.mpr ⟨_,O,rfl⟩)
 have e:sg n (gT f k n)=sg n k:=lh λs hs=>by unfold gT;rw[Uo hs]
 rw[<-e];exact key n (ON _)
theorem G7(hn:n<=40)(O:aP n (sg n f) (sg n g)){w:List Nat}(h:vQ n (sg n g) (sg n f) w):ak n w/\Sg n w/\aP n w (sg n g):=by
 have G:=fB (f:=g) hn;have S2:Sg n (sg n g):=λx D=>mi D
 induction h with
 |refl=>exact⟨fB hn,λx D=>mi D,O⟩
 | @step w v hw hv ih =>
  obtain⟨W,S1,O⟩:=ih;obtain⟨c,V,rfl⟩:=OO.mp hv;obtain⟨c1,c2,c3,c4⟩:=cO V;refine⟨dz W (by omega) c2 c3,λx D=>?_,eM (zT S1 S2) W G O V⟩;obtain⟨J,Z⟩:=eC W G;have A:=tE W G Z;have T:=bJ W G;have U:aB (ar w) (ar (sg n g)) c.1 c.2:=by
   rcases gF.mp (O0.mp ((oX W G Z c).mpr V)).1 with⟨x,D,y,hy,e⟩|⟨th,ht,hs⟩|⟨x,D,e⟩
   .have m:c∈c7 (aV J .bare) (aV J .tied):=iC.mpr ⟨x,D,y,hy,e⟩;rw[nQ ((cV W G Z).mp O)]at m;cases m
   .obtain⟨i,j,x,y,_,_,h1,h2,e⟩:=dA.mp hs;have U:=vL A ht (OP h1) (OP h2);by_cases le:x<=y
    .rw[eu le]at e;rw[e];exact U
    rw[gk,eu (by omega)]at e;rw[e];exact U.symm T (A.lt ht (OP h1))
   rw[e];exact aB.refl x
  rw[dy (by rw[W.len];exact D)];exact jR S1 S2 D (yc T (by omega) c2 U x)
theorem Sg.is{w:List Nat}(S:Sg n w)(W:ak n w):w=sg n λs=>decide (ar w (2*s)=2*s+1):=by
 refine jM (by rw[W.len,iU]) λx D=>?_;rw[W.len]at D;rw[fm D];have G:2*(x/2)<2*n:=by omega
 have U:fl (2*(x/2))=2*(x/2)+1:=by unfold fl;rw[Uo (by omega)]
 have J:=S _ G;rw[U]at J;have V:=W.wk.inv _ G;have O:=S x D;have ix:=W.wk.inv x D;by_cases c:ar w (2*(x/2))=2*(x/2)+1
 .rw[Uo (Ul c)];rcases O with q|q
  .exfalso;by_cases p:x%2=0
   .rw[show 2*(x/2)=x by omega]at c;omega
   rw[c,show 2*(x/2)+1=x by omega,q]at V;omega
  exact q
 rw[Uk (by rw[Up c];decide)];rcases O with q|q
 .exact q
 exfalso;have z:=J.resolve_right c;unfold fl at q;by_cases p:x%2=0
 .rw[Uo p]at q;rw[show 2*(x/2)=x by omega]at z;omega
 rw[Uk p]at q;rw[q,show x-1=2*(x/2) by omega,z]at ix;omega
end
theorem Mo:∀a b c d e:Bool,∃k∈OV 32,k.testBit 0=a/\k.testBit 1=b/\k.testBit 2=c/\k.testBit 3=d/\k.testBit 4=e:=by decide
noncomputable def yh:List (List Nat):=(OV 32).map λk=>sg 5 λs=>k.testBit s
theorem EO:yh.Nodup:=by decide +kernel
theorem G8(f:Nat->Bool):sg 5 f∈yh:=by
 obtain⟨k,D,G,J,O,U,V⟩:=Mo (f 0) (f 1) (f 2) (f 3) (f 4);refine OO.mpr ⟨k,D,lh λs hs=>?_⟩
 match s,hs with
 |0,_=>exact G
 |1,_=>exact J
 |2,_=>exact O
 |3,_=>exact U
 |4,_=>exact V
theorem yj{f g:Nat->Bool}(D:aP 5 (sg 5 f) (sg 5 g)){L:List (List Nat)}(nd:L.Nodup)(h:∀w∈L,vQ 5 (sg 5 g) (sg 5 f) w):L.length<=32:=by
 have z:=sub_len nd (m:=yh) λw hw=>by
  obtain⟨W,S,_⟩:=G7 (by decide) D (h w hw);rw[S.is W];exact G8 _
 have:yh.length=32:=rfl;omega
theorem JS{f g:Nat->Bool}(ne:∀s,s<5->f s≠g s)(D:aP 5 (sg 5 f) (sg 5 g)){L:List (List Nat)}(nd:L.Nodup)(h:∀w,w∈L↔vQ 5 (sg 5 g) (sg 5 f) w):L.length=32:=by
 have G:=yj D nd λw hw=>(h w).mp hw;have J:=sub_len EO (m:=L) λw hw=>by
  obtain⟨k,O,rfl⟩:=OO.mp hw;exact(h _).mpr (EN (by decide) ne _)
 have:yh.length=32:=rfl;omega
end gC
namespace L2
open PySem PySem.Spec PyProof.Rows
def Mp(K:OM)(t:XK->TS)(c:Uj)(i:Nat)(tb tr:Uj->Um->TS)(tn:TS):TS:=λD σ H=>∃E:XK,t E { nx:=λG H'=>tn D G H',rt:=D.rt } σ H/\∀cls H',E cls none H'->RH K cls c=Yc true /\
 ∀a,H' a=none->tb cls a { nx:=λG J=>tr cls a D (G.set i none) J,rt:=D.rt } (σ.set i (Yc (.ref a))) H'
theorem ER{X:Cx}{body rest:List Vp}{Mq pos np:VJ}{x n:UI}{b₀:Vp}{suite:List Vp}{t:XK->TS}{C:Um}{i:Nat}{tb tr:Uj->Um->TS}{tn:TS}(O:Own X)(hN:X.N.Nodup)(hi:X.N[i]?=Yc n)(JT:X.env.scope.names.lookup n=Yc .local)
  (hm:X.mg x=Yc (.ref C)) (hc:Ko X body t) (J:∀cls a U,U.cls=cls->mV (i8 X a U) (b₀::suite) (tb cls a)) (hR:∀cls a U,U.cls=cls->mV (qx X a U) rest (tr cls a)) (hn:mV X rest tn) (hg:Gl X x:=by rfl) (IW:(x==("__debug__":UI))=false:=by decide) :
  mV X (.Try body [.ExceptHandler (Yc (.Name x np)) (Yc n) (b₀::suite) Mq] [] [] pos::rest) (Mp X.K t (.ref C) i tb tr tn):=by
 intro pins s σ H D I h;obtain⟨E,Mr,JU⟩:=h;have Ig:(X.env.scope.kind == .class||(X.env.scope.kind == .module&&X.env.locals != X.env.globals))=false:=by rw[I.ok.kind];rfl
 have Cj:X.A.frames=Yc (X.env::X.outer):=by rw[<-O.top];exact O.ok.frames
 refine Vr (wpAny_Try_except (UX (hc E pins s σ H _ I Mr) (λf s1 q=>?_) λe s' hx=>?_))
 .cases f with
  |next=>obtain⟨σ1,H1,I1,z⟩:=q;exact Va (hn pins s1 σ1 H1 D I1 z)
  |brk=>obtain⟨_,_,_,z⟩:=q;exact z.elim
  |cont=>obtain⟨_,_,_,z⟩:=q;exact z.elim
  |ret v=>exact q
 obtain⟨H1,s1,I1,a,cls,H',B,rfl,x0,hE⟩:=hx;obtain⟨aaM,JV⟩:=JU cls H' hE;have st:=x0.Kn;rw[O.top]at st;have qK:∀b∈lV X.stack,b∉([]:List Um):=λb _=>by simp
 refine rD Cj O.fr st λh4 a0 k4 u4=>?_;have x4:=x0.move (l':=X.stack) u4 (by rw[O.top];exact⟨a0,.inr (.inr ⟨_,_,_,rfl,O.fr,k4⟩)⟩) (λb J=>J) (λb o _ J=>J) qK;refine wpAny_landsW (s:={ s' with heap:=h4 }) k4 λh5 k5 u5=>?_;have x5:=x4.move (l':=X.stack) u5 (by rw[O.top];exact⟨a0,.inr (.inl k5)⟩) (λb J=>J) (λb o _ J=>J) qK;have I5:Inv X pins σ H' { s' with heap:=h5 }:=I1.CA (ch:=[]) x5.os x5.un x5.bN x5.bare λb J=>Us J (by simp);have mk:∀{h6:UH},Heap.FlyingW B (X.env::X.outer) a cls a0 h6->IT X.prog X.w X.stack [] H1 s1 B a cls H' { s' with heap:=h6 }->∃U,h6.get? a=Yc U/\U.cls=cls/\Inv (i8 X a U) pins σ H' { s' with heap:=h6 }:=λ{h6} k6 x6=>by
  obtain⟨U,vs,e1,e2,e3,_⟩:=k6.first
  have I6:Inv X pins σ H' { s' with heap:=h6 }:=I1.CA (ch:=[]) x6.os x6.un x6.bN x6.bare λb J=>Us J (by simp);refine⟨U,e1,e2,I6.suite e1 x6.na (λz=>?_) (λz=>?_) λv z=>by rw[e3]at z;cases z⟩
  .obtain⟨m,⟨o',es,ep,G,LN,_⟩,_⟩:=I6.loc;rw[<-z]at G;have G:h6.get? a=Yc o':=G;rw[e1]at G;cases G;rw[e3]at LN;cases LN
  obtain⟨_,o',G,LN⟩:=I6.mw.mem z;have G:h6.get? a=Yc o':=G;rw[e1]at G;cases G;exact LN _ e3
 obtain⟨oe5,e51,e52,J5⟩:=mk k5 x5;refine wpAny_handleBy_cons (codeAny_handlers_test (mW (X:=i8 X a oe5) J5 hg hm ?_ IW)) (by intro q;cases q);have LT:Ta (model X.prog X.w) h5 (typeOf (.ref a)) cls:=by
  have z:Ta (model X.prog X.w) h5 (typeOf (.ref a)) oe5.cls:=(Ta.ld (M:=model X.prog X.w) e51).andThen .now;rw[e52]at z;exact z
 refine(PySem.W.exm_one (M:=model X.prog X.w) (h:=h5) I5.Bi LT aaM).at ?_;show VM _ _ _ _ _;refine codeAny_handlers_suite_as ?_;refine lands_againW (s:={ s' with heap:=h5 }) k5 λh6 k6 u6=>?_;have x6:=x5.move (l':=X.stack) u6 (by rw[O.top];exact⟨a0,.inr (.inl k6)⟩) (λb J=>J) (λb o _ J=>J) qK;obtain⟨U,e61,e62,J6⟩:=mk k6 x6;refine mU (X:=i8 X a U) (i:=i) (v:=.ref a) J6 hN hi (.inl JT) rfl (λs7 J7=>?_) (.inr JT);refine iL (J cls a U e62 pins s7 _ H' _ J7 (JV a x6.na)) λf s8 q8=>?_;have go:∀{V:St} {H8:Hp} {Q8:Unit->Uq->Prop},Inv (i8 X a U) pins V H8 s8->(∀s9,Inv (qx X a U) pins (V.set i none) H8 s9->Q8 () s9)->wpAny (model X.prog X.w) X.A (do bindName X.env n .none;unbindBehindTheSuite X.env n Mq) Q8 X.xe s8:=λ{V H8 Q8} J8 hq=>by
  have I8:=J8.Ja O.ok;obtain⟨m,hn,_⟩:=id I8.loc;refine wpAny_nameGoes_keeps JT hn Ig λh9 v hn9 hs9=>?_;refine hq _ (I8.IZ (h':=h9) (m':=m) (t':=s8.toks+1) hN hi (λm2 hn2=>?_) hs9);have em:m2=m:=by
   obtain⟨o1,es1,ep1,g1,g2,g3,g4⟩:=hn;obtain⟨o2,es2,ep2,j1,j2,j3,j4⟩:=hn2;rw[g1]at j1;cases j1;rw[g2]at j2;cases j2;funext y;rw[<-g4 y,<-j4 y]
  subst em;exact⟨v,hn9⟩
 cases f with
 |next =>
  obtain⟨V,H8,J8,q8⟩:=q8;refine go J8 λs9 I9=>?_;refine UX (hR cls a U e62 pins s9 _ H8 D I9 q8) (λf' s' q'=>?_) λ_ _ x=>x;cases f' with
  |next=>obtain⟨Z,H',I',q⟩:=q';exact⟨Z,H',I'.nB O.ok,q⟩
  |brk=>obtain⟨Z,H',I',q⟩:=q';exact⟨Z,H',I'.nB O.ok,q⟩
  |cont=>obtain⟨Z,H',I',q⟩:=q';exact⟨Z,H',I'.nB O.ok,q⟩
  |ret u=>obtain⟨v,Z,H',I',r,q⟩:=q';exact⟨v,Z,H',I'.nB O.ok,r,q⟩
 |brk=>obtain⟨V,H8,J8,q8⟩:=q8;exact q8.elim
 |cont=>obtain⟨V,H8,J8,q8⟩:=q8;exact q8.elim
 |ret u =>
  obtain⟨v8,V,H8,J8,r8,q8⟩:=q8;exact go J8 λs9 I9=>⟨v8,_,H8,I9.nB O.ok,r8,q8⟩
end L2
namespace aI
open PySem L2 gC
def Rf(way n:Nat)(ms os:List Nat):Prop:=(way<3->sP n ms os)/\(way=3->5<aC n ms os)
def pJ:Sp:=λD H Q _=>∃(a b:Um) (way n m:Nat) (x:Int) (ms os:List Nat),D=[.int (way:Nat),.ref a,.ref b,.int x]/\way<=3/\n<=20/\H a=Yc (.tup (nV ms))/\ak n ms/\H b=Yc (.tup (nV os))/\os.length=2*m /\
  ((n≠m/\∀(l:Um) (H':Hp),aE H H'->H' l=Yc (.lst [.bl false,.bl true,.bl true,.bl false])->Q (.ref l) H') \/
   (n=m/\ak n os/\Rf way n ms os/\∀(l:Um) (H':Hp),aE H H'->H' l=Yc (.lst [.bl true,.bl false,.bl true,.bl false])->Q (.ref l) H') \/
   (n=m/\ak n os/\way=0/\¬sP n ms os/\(aP n ms os \/ ∃B,Gd B n os ms)/\∀(l:Um) (H':Hp),aE H H'->H' l=Yc (.lst [])->Q (.ref l) H'))
end aI
namespace gC
open Th aI
theorem nT(f:Nat->Bool)(i:Nat):sg (i+1) f=sg i f++(if f i=true then[2*i+1,2*i]else[2*i,2*i+1]):=by
 unfold sg;rw[show 2*(i+1)=2*i+1+1 by omega,Qg,Qg,PM,O5];congr 1;show[if f (2*i/2)=true then fl (2*i)else 2*i,if f ((2*i+1)/2)=true then fl (2*i+1)else 2*i+1]=_;rw[show 2*i/2=i by omega,show(2*i+1)/2=i by omega];by_cases c:f i=true
 .rw[Uo c,Uo c,Uo c];unfold fl;rw[Uo (by omega),Uk (by omega)]
  rfl
 rw[Uk c,Uk c,Uk c]
end gC
namespace aI
open PySem L2 gC
noncomputable def pX(t:Nat):Nat->Bool:=λs=>decide (s<t)
noncomputable def uJ(t:Nat):Nat->Bool:=λs=>!decide (s<t)
theorem HP(t:Nat):∀s,pX t s≠uJ t s:=λs=>by unfold pX uJ;cases decide (s<t) <;> decide
theorem ES(t:Nat):∀s,(pX t s=true↔¬uJ t s=true):=λs=>by unfold pX uJ;cases decide (s<t) <;> decide
def Bb:Sp:=λD H Q _=>∃(t b:Nat),D=[.int (t:Nat),.int (b:Nat)]/\t+b<=20/\∀(r p q:Um) (H':Hp),aE H H'->H' r=Yc (.tup [.ref p,.ref q])->H' p=Yc (.tup (nV (sg (t+b) (pX t))))->H' q=Yc (.tup (nV (sg (t+b) (uJ t))))->Q (.ref r) H'
def nU:Sp:=λG H Q _=>∃(a b l:Um) (D:List Nat) (n:Nat) (x:Int) (ms os:List Nat),G=[.ref a,.ref b,.ref l,.int x]/\n<=20/\H a=Yc (.tup (nV ms))/\ak n ms/\H b=Yc (.tup (nV os))/\ak n os/\H l=Yc (.lst (nV D))/\D.length<=4/\(∀w∈D,w<=3/\Rf w n ms os)/\∀H':Hp,aE H H'->Q (.bl true) H'
end aI
namespace L2
open PySem
theorem ET{K:OM}{H:Hp}{p q:Um}{G J O U:Bool}(e1:H p=Yc (.lst [.bl G,.bl J,.bl O,.bl U]))(e2:H q=Yc (.lst [.bl G,.bl J,.bl O,.bl U])):HA K H 0 p q:=⟨_,_,aZ.of e1,aZ.of e2,rfl,λi u v D V=>by
 rw[D]at V;obtain rfl:=Option.some.inj V;refine⟨rfl,?_⟩
 match i,D with
 |0,D=>obtain rfl:=Option.some.inj D;rfl
 |1,D=>obtain rfl:=Option.some.inj D;rfl
 |2,D=>obtain rfl:=Option.some.inj D;rfl
 |3,D=>obtain rfl:=Option.some.inj D;rfl
 |i+4,D=>cases D⟩
end L2
namespace aI
open PySem L2 gC
theorem yk{t b:Nat}(h:t+b<=20):aP (t+b) (sg (t+b) (pX t)) (sg (t+b) (uJ t))↔(t=0\/b=0):=by
 rw[B8 (by omega) (λs _=>ES t s)];unfold pX;constructor
 .rintro(z|z)
  .by_cases c:b=0
   .exact .inr c
   have:=Uw (z t (by omega));omega
  by_cases c:t=0
  .exact .inl c
  exact Us (Ul (show 0<t by omega)) (z 0 (by omega))
 rintro(z|z)
 .exact .inr λs _ q=>by have:=Uw q;omega
 exact .inl λs hs=>Ul (by omega)
theorem EU(n:Nat)(f g:Nat->Bool):tF n (sg n f) (sg n g):=zT (λ_ D=>mi D) (λ_ D=>mi D)
theorem zU{t b:Nat}(h:t+b<=20):aC (t+b) (sg (t+b) (pX t)) (sg (t+b) (uJ t))=t+b:=EL (by omega) λs _=>ES t s
theorem EV{t b:Nat}(h:t+b<=20):gn (t+b) (sg (t+b) (uJ t)) (sg (t+b) (pX t)) (((OV t).map λs=>(2*s,2*s))++(OV b).map λs=>(2*(t+s),2*(t+s)+1)):=by
 have z:=JR (n:=t+b) (f:=pX t) (g:=uJ t) (by omega) λs _=>HP t s;rw[List.range_add,O5,Pp]at z;have e1:(OV t).map (cS (pX t))=(OV t).map λs=>(2*s,2*s):=PB λs hs=>by
  have:=OX.mp hs;unfold cS pX;rw[Uo (Ul this)]
 have e2:(OV b).map (cS (pX t) ∘ λx=>t+x)=(OV b).map λs=>(2*(t+s),2*(t+s)+1):=PB λs hs=>by
  show cS (pX t) (t+s)=_;unfold cS pX;rw[Uk (by rw[Up (by omega)];decide)]
 rw[e1,e2]at z;exact z
def EW(t b:Nat):Prop:=t+b<=13/\(¬(0<t/\0<b)->t+b<=5->t+b=5)
def EX:Sp:=λD H Q _=>∃(t b:Nat) (c:Int),D=[.int (t:Nat),.int (b:Nat),.int c]/\EW t b/\0<=c/\c<10 ^ 30/\∀H':Hp,aE H H'->Q (.bl true) H'
end aI
theorem aI.sk{N G:Prop}(m:N->G)(x:N):G:=m x
theorem aI.zV{N:L2.Hp->Prop}{G:Prop}(D:L2.Hp)(m:(∀H',L2.aE D H'->N H')->G)(x:∀H',L2.aE D H'->N H'):G:=m x
set_option maxHeartbeats 2000000
open aI (nV aS ar cX iu gi vp nG nH mH qz bJ js zf ks fK tf aC vA pf bQ eo vo oK hZ bM vk iG bA vC iP iD DX zx jP cC aP kC gK tx dG cO jx eL dz jO oU lR iT sh qH qG lP zF qF nR lQ ak jf gp zL qI gS vO zI nS oH lJ Rf pX uJ nU sP sk zV)
open gC (oY wK vR gr eM B2 cJ kW zS dS iQ sg nT vQ lX)
open Th (dH eX cR kB lF iM cN pA eA mn hV bU bq bB rq aV c7 bZ cU cT jN cM fZ lack)
open NK (AY)
open nD (Cm)
namespace Law
open PySem L2
noncomputable def top(i:Nat):Stmt:=PySem.Challenge.pw_claspwork_k30_too_far_apart.main.body.getD i (.Pass ⟨0,0,0,0⟩)
noncomputable abbrev gU:Stmt:=top 8
noncomputable abbrev d6:Stmt:=top 9
noncomputable abbrev eZ:Stmt:=top 10
noncomputable abbrev eN:Stmt:=top 12
noncomputable abbrev d7:Stmt:=top 13
noncomputable abbrev dM:Stmt:=top 14
noncomputable abbrev dU:Stmt:=top 15
noncomputable abbrev gu:Stmt:=top 16
noncomputable abbrev gv:Stmt:=top 17
noncomputable abbrev fc:Stmt:=top 19
noncomputable abbrev eO:Stmt:=top 20
noncomputable abbrev c8:Stmt:=top 21
noncomputable abbrev gW:Stmt:=top 22
noncomputable abbrev gX:Stmt:=top 23
noncomputable abbrev eP:Stmt:=top 24
noncomputable abbrev iW:Stmt:=top 25
noncomputable abbrev cD:Stmt:=top 27
noncomputable abbrev jy:Stmt:=top 28
noncomputable abbrev dj:Stmt:=top 29
noncomputable abbrev dB:Stmt:=top 30
noncomputable abbrev cW:Stmt:=top 31
noncomputable abbrev d8:Stmt:=top 36
noncomputable abbrev bL:Stmt:=top 37
noncomputable abbrev c9:Stmt:=top 38
noncomputable abbrev fL:Stmt:=top 39
noncomputable abbrev cE:Stmt:=top 40
noncomputable abbrev dC:Stmt:=top 41
noncomputable abbrev de:Stmt:=top 42
noncomputable abbrev gH:Stmt:=top 43
noncomputable abbrev fN:Stmt:=top 44
noncomputable abbrev dD:Stmt:=top 45
noncomputable abbrev dE:Stmt:=top 47
noncomputable abbrev iH:Stmt:=top 48
noncomputable abbrev df:Stmt:=top 49
noncomputable abbrev fx:Stmt:=top 51
noncomputable abbrev gY:Stmt:=top 52
noncomputable abbrev iz:Stmt:=top 53
noncomputable abbrev fO:Stmt:=top 54
noncomputable abbrev gZ:Stmt:=top 55
noncomputable abbrev i9:Stmt:=top 56
noncomputable abbrev ja:Stmt:=top 57
noncomputable abbrev jb:Stmt:=top 58
noncomputable abbrev fy:Stmt:=top 59
noncomputable abbrev g6:Stmt:=top 60
noncomputable abbrev dk:Stmt:=top 61
noncomputable abbrev fE:Stmt:=top 62
noncomputable abbrev EY:Stmt:=top 63
theorem vW:aN ["work"] ["work"] (aD gU):=⟨rfl,rfl,rfl,by decide +kernel,rfl,by decide +kernel,by decide +kernel⟩
theorem oZ:aN ["one","other"] ["one","other"] (aD d6):=⟨rfl,rfl,rfl,by decide +kernel,rfl,by decide +kernel,by decide +kernel⟩
theorem tG:aN ["work"] ["work"] (aD eZ):=⟨rfl,rfl,rfl,by decide +kernel,rfl,by decide +kernel,by decide +kernel⟩
theorem jS:aN ["work","deed","low","high"] ["work","deed"] (aD eN):=⟨rfl,rfl,rfl,by decide +kernel,rfl,by decide +kernel,by decide +kernel⟩
theorem o5:aN ["work","deed"] ["work","deed"] (aD d7):=⟨rfl,rfl,rfl,by decide +kernel,rfl,by decide +kernel,by decide +kernel⟩
theorem jT:aN ["work","deed","mates","freed"] ["work","deed"] (aD dM):=⟨rfl,rfl,rfl,by decide +kernel,rfl,by decide +kernel,by decide +kernel⟩
theorem tH:aN ["work","deed"] ["work","deed"] (aD dU):=⟨rfl,rfl,rfl,by decide +kernel,rfl,by decide +kernel,by decide +kernel⟩
theorem tI:aN ["mates","one","other"] ["mates","one","other"] (aD gu):=⟨rfl,rfl,rfl,by decide +kernel,rfl,by decide +kernel,by decide +kernel⟩
theorem jg:aN ["work","deed","pair","freed"] ["work","deed"] (aD gv):=⟨rfl,rfl,rfl,by decide +kernel,rfl,by decide +kernel,by decide +kernel⟩
theorem fP:aN ["one","other","found","seen","kind","ends","end","ring"] ["one","other"] (aD fc):=⟨rfl,rfl,rfl,by decide +kernel,rfl,by decide +kernel,by decide +kernel⟩
theorem dg:aN ["one","other","found","end","ends"] ["one","other"] (aD eO):=⟨rfl,rfl,rfl,by decide +kernel,rfl,by decide +kernel,by decide +kernel⟩
theorem fe:aN ["start","first","second","ends","onward"] ["start","first","second"] (aD c8):=⟨rfl,rfl,rfl,by decide +kernel,rfl,by decide +kernel,by decide +kernel⟩
theorem nW:aN ["seen","ends","end"] ["seen","ends"] (aD gW):=⟨rfl,rfl,rfl,by decide +kernel,rfl,by decide +kernel,by decide +kernel⟩
theorem vX:aN ["thread"] ["thread"] (aD gX):=⟨rfl,rfl,rfl,by decide +kernel,rfl,by decide +kernel,by decide +kernel⟩
theorem j9:aN ["one","other","kinds"] ["one","other"] (aD eP):=⟨rfl,rfl,rfl,by decide +kernel,rfl,by decide +kernel,by decide +kernel⟩
theorem yl:aN ["one","other"] ["one","other"] (aD iW):=⟨rfl,rfl,rfl,by decide +kernel,rfl,by decide +kernel,by decide +kernel⟩
theorem cK:aN ["one","other","laid","bare","tied","pairs","kind","ends"] ["one","other"] (aD cD):=⟨rfl,rfl,rfl,by decide +kernel,rfl,by decide +kernel,by decide +kernel⟩
theorem jU:aN ["laid","kind","found","told","ends"] ["laid","kind"] (aD jy):=⟨rfl,rfl,rfl,by decide +kernel,rfl,by decide +kernel,by decide +kernel⟩
theorem dW:aN ["ends","pairs","place","end"] ["ends"] (aD dj):=⟨rfl,rfl,rfl,by decide +kernel,rfl,by decide +kernel,by decide +kernel⟩
theorem gx:aN ["bare","tied","pairs","end"] ["bare","tied"] (aD dB):=⟨rfl,rfl,rfl,by decide +kernel,rfl,by decide +kernel,by decide +kernel⟩
theorem pY:aN ["end","mate"] ["end","mate"] (aD cW):=⟨rfl,rfl,rfl,by decide +kernel,rfl,by decide +kernel,by decide +kernel⟩
theorem sr:aN ["one","other"] ["one","other"] (aD d8):=⟨rfl,rfl,rfl,by decide +kernel,rfl,by decide +kernel,by decide +kernel⟩
theorem ia:aN ["one","other","crossing"] ["one","other"] (aD bL):=⟨rfl,rfl,rfl,by decide +kernel,rfl,by decide +kernel,by decide +kernel⟩
theorem jz:aN ["most","one","other","apart"] ["most","one","other"] (aD c9):=⟨rfl,rfl,rfl,by decide +kernel,rfl,by decide +kernel,by decide +kernel⟩
theorem pK:aN ["laid","kinds"] ["laid"] (aD fL):=⟨rfl,rfl,rfl,by decide +kernel,rfl,by decide +kernel,by decide +kernel⟩
theorem fG:aN ["one","other","counts","laid","shape","behind"] ["one","other","counts"] (aD cE):=⟨rfl,rfl,rfl,by decide +kernel,rfl,by decide +kernel,by decide +kernel⟩
theorem ka:aN ["thread","half"] ["thread"] (aD dC):=⟨rfl,rfl,rfl,by decide +kernel,rfl,by decide +kernel,by decide +kernel⟩
theorem cP:aN ["lacks","rows","shuffled","lack"] ["lacks"] (aD de):=⟨rfl,rfl,rfl,by decide +kernel,rfl,by decide +kernel,by decide +kernel⟩
theorem jV:aN ["many","chosen","found","step"] ["many","chosen"] (aD gH):=⟨rfl,rfl,rfl,by decide +kernel,rfl,by decide +kernel,by decide +kernel⟩
theorem jc:aN ["lack","rows","step"] ["lack"] (aD fN):=⟨rfl,rfl,rfl,by decide +kernel,rfl,by decide +kernel,by decide +kernel⟩
theorem cL:aN ["one","other","found","fresh","onward","work","deed"] ["one","other"] (aD dD):=⟨rfl,rfl,rfl,by decide +kernel,rfl,by decide +kernel,by decide +kernel⟩
theorem bt:aN ["one","other","number","counts","many","row","now","left","deed","behind","rows"] ["one","other","number"] (aD dE):=⟨rfl,rfl,rfl,by decide +kernel,rfl,by decide +kernel,by decide +kernel⟩
theorem jW:aN ["now","other","counts","ways","deed","behind"] ["now","other","counts"] (aD iH):=⟨rfl,rfl,rfl,by decide +kernel,rfl,by decide +kernel,by decide +kernel⟩
theorem bw:aN ["one","other","deeds","counts","number","now","low","high","ways","taken"] ["one","other","deeds"] (aD df):=⟨rfl,rfl,rfl,by decide +kernel,rfl,by decide +kernel,by decide +kernel⟩
theorem su:aN ["script","k"] ["script","k"] (aD fx):=⟨rfl,rfl,rfl,by decide +kernel,rfl,by decide +kernel,by decide +kernel⟩
theorem fg:aN ["flow","staves","mates","cell","one","other","end"] ["flow","staves"] (aD gY):=⟨rfl,rfl,rfl,by decide +kernel,rfl,by decide +kernel,by decide +kernel⟩
theorem jh:aN ["script","most","cut","staves"] ["script","most"] (aD iz):=⟨rfl,rfl,rfl,by decide +kernel,rfl,by decide +kernel,by decide +kernel⟩
theorem g7:aN ["one","other","end","known","ends","at","onward"] ["one","other","end","known"] (aD fO):=⟨rfl,rfl,rfl,by decide +kernel,rfl,by decide +kernel,by decide +kernel⟩
theorem dX:aN ["one","other","known","score","end","ends"] ["one","other"] (aD gZ):=⟨rfl,rfl,rfl,by decide +kernel,rfl,by decide +kernel,by decide +kernel⟩
theorem vY:aN ["one","other"] ["one","other"] (aD i9):=⟨rfl,rfl,rfl,by decide +kernel,rfl,by decide +kernel,by decide +kernel⟩
theorem fh:aN ["one","other","known","found","end","ends","sides"] ["one","other"] (aD ja):=⟨rfl,rfl,rfl,by decide +kernel,rfl,by decide +kernel,by decide +kernel⟩
theorem nX:aN ["lacks","kinds"] ["lacks"] (aD jb):=⟨rfl,rfl,rfl,by decide +kernel,rfl,by decide +kernel,by decide +kernel⟩
theorem gy:aN ["way","one","other","number","signs","e"] ["way","one","other","number"] (aD fy):=⟨rfl,rfl,rfl,by decide +kernel,rfl,by decide +kernel,by decide +kernel⟩
theorem fi:aN ["tied","bare","one","other","stave","ring","alone"] ["tied","bare"] (aD g6):=⟨rfl,rfl,rfl,by decide +kernel,rfl,by decide +kernel,by decide +kernel⟩
theorem iX:aN ["one","other","ways","number","way"] ["one","other","ways","number"] (aD dk):=⟨rfl,rfl,rfl,by decide +kernel,rfl,by decide +kernel,by decide +kernel⟩
theorem bc:aN ["tied","bare","cell","one","other","apart","mixed","many","due","size","deeds","found"] ["tied","bare","cell"] (aD fE):=⟨rfl,rfl,rfl,by decide +kernel,rfl,by decide +kernel,by decide +kernel⟩
theorem fQ:aN ["script","edges","cell","edge","one","other","number","mixed","apart","far","more","way","refused"] ["script"] (aD EY):=⟨rfl,rfl,rfl,by decide +kernel,rfl,by decide +kernel,by decide +kernel⟩
structure Bl(mg:UI->Option Uj):Prop where
 «ValueError»:mg "ValueError" = none
 «enumerate»:mg "enumerate" = none
 «isinstance»:mg "isinstance" = none
 «len»:mg "len" = none
 «list»:mg "list" = none
 «max»:mg "max" = none
 «min»:mg "min" = none
 «range»:mg "range" = none
 «sorted»:mg "sorted" = none
 «sum»:mg "sum" = none
 «tuple»:mg "tuple" = none
section
variable {P:Ux}{w:UA}{K:OM}{mg:UI->Option Uj}{base:UH}
theorem vZ{f:Um}{D:Uz}(B:Bl mg)(F:Fn K mg "staves_in" gU ["work"] f D):aO P w K mg base du 1 f D ["work"] (aI.xo K):=by
 refine F.fn.ok vW (λG H Q E h=>?_) (λJ A outer s H G Q E U h=>?_)
 .obtain⟨a,n,ms,rfl,_⟩:=h
  rfl
 obtain⟨a,n,ms,rfl,O,W,q⟩:=h;refine⟨_,aA (aU (aT dP (aL aH rfl B.len bD (ae (pv 0) af)) ao)),?_⟩;refine⟨_,rfl,a,_,rfl,.inr O,_,_,rfl,rfl,⟨by decide,by decide⟩,?_⟩;have e:(((nV ms).length:Nat):Int)/2=n:=by rw[aS,W.len];omega
 show Q (.int ((((nV ms).length:Nat):Int)/2)) H;rw[e];exact q
theorem o6{f D:Um}{G:Uz}(B:Bl mg)(Z:vh K mg "Unlike" D)(F:Fn K mg "refuse_unlike" d6 ["one","other"] f G):aO P w K mg base (gf P w) 1 f G ["one","other"] (aI.xC K D):=by
 refine F.fn.oE oZ (λJ H Q E h=>?_) (λO A outer s H J Q E hr h own=>?_)
 .obtain⟨a,b,n,m,ms,os,rfl,_⟩:=h
  rfl
 obtain⟨a,b,n,m,ms,os,rfl,U,W,V,hm,kg,kb⟩:=h;refine⟨_,aA (bS (aM qS (aL aH rfl B.len bD (ae (pv 0) af)) (aL aH rfl B.len bD (ae (pv 1) af)) (aQ _)) (aA (rE rfl Z (ae d9 af))) bg),?_⟩;refine⟨_,rfl,a,_,rfl,.inr U,_,rfl,b,_,rfl,.inr V,rfl,_,rfl,?_⟩;rw[aS,aS,W.len,hm];by_cases c:n=m
 .subst c;exact Lx rfl (kg rfl)
 refine ft (λ_=>⟨by show 1<=Uu;decide,kb c⟩) (λz=>Us ?_ z);simp;omega
theorem tJ{f:Um}{fd:Uz}(B:Bl mg)(F:Fn K mg "loose_ends" eZ ["work"] f fd):aO P w K mg base du 1 f fd ["work"] (aI.AD K):=by
 refine F.fn.ok tG (λvs H Q E h=>?_) (λji A outer s H vs Q E hr h=>?_)
 .obtain⟨a,n,ms,rfl,_⟩:=h
  rfl
 obtain⟨a,n,ms,rfl,hS,W,k⟩:=h;have Z:(["end","mate"]:List UI).Nodup:=by decide +kernel
 refine⟨_,aA (aU (eW (NC:=["end","mate"]) rfl (ie rfl (by decide +kernel) (by decide +kernel)) (xg rfl B.enumerate (ae (pv 0) af))
  (λ_ _ _ _=>jI (K:=K) (n:=2) rfl rfl (aX (aK (i:=0) Z rfl (Or.inl rfl)) (aX (aK (i:=1) Z rfl (Or.inl rfl)) dO))) (λ_ _ _ _=>i7 (aM fj (pv 0) (pv 1) (aQ _))) (λ_ _ _ _=>pv 0))),?_⟩
 refine⟨_,rfl,a,rfl,⟨_,hS⟩,λD hD=>?_⟩;refine Bz (K:=K) (a:=a) (xs:=nV ms) (λi σ O=>∃v0 v1:Option V,σ=[v0,v1]/\aE H O/\O D=Yc (.lst (nV ((OV i).filter λe=>e==ar ms e))))
  ⟨none,none,rfl,ai hD,ag⟩ (λi σ O _ ⟨_,_,_,J,_⟩=>J.tup hS) ?_ ?_
 .rintro i x t σ O hx ⟨v0,v1,rfl,J,G⟩ ht;obtain⟨m,hm,rfl⟩:=cX hx;have hi:i<2*n:=by have z:=(OI.mp hm).1;rw[W.len]at z;exact z
  have em:m=ar ms i:=by have z:=iu (ms:=ms) (e:=i) (by rw[W.len];exact hi);rw[hm]at z;exact Option.some.inj z
  have nDt:D≠t:=aW G ht;refine⟨t,_,rfl,br.of ag,rfl,_,_,rfl,_,_,rfl,rfl,?_⟩;refine⟨_,rfl,_,rfl,rfl,_,rfl,?_⟩;refine ft (λU=>?_) (λU=>?_)
  .have U:=Uw U;injection U with U;refine⟨_,rfl,_,by rw[aG nDt];exact G,aY ?_,_,_,rfl,(J.upd (J.free ht)).upd hD,?_⟩
   .rw[aS];have z:=Pm (λe=>e==ar ms e) (OV i);rw[OW]at z;have:=W.small;omega
   have e:(i==ar ms i)=true:=by rw[beq_iff_eq,<-em];omega
   rw[ag,Qg,Pa,Pe (by exact e),Qo,gi]
  refine⟨_,_,rfl,J.upd (J.free ht),?_⟩;have e:¬(i==ar ms i)=true:=λz=>U (Ul (by rw[beq_iff_eq,<-em]at z;rw[z]));rw[aG nDt,G,Qg,Pa,Pf (by exact e),Qo,Pj]
 rintro σ O ⟨v0,v1,rfl,J,G⟩;rw[aS,W.len]at G;exact k D O hD J G
theorem nY{f:Um}{Z:Uz}(B:Bl mg)(F:Fn K mg "fits_work" eN ["work","deed"] f Z):aO P w K mg base du 1 f Z ["work","deed"] (vp K):=by
 refine F.fn.ok jS (λvs H Q E h=>?_) (λji A outer s H vs Q E hr h=>?_)
 .obtain⟨a,d,n,ms,p,q,rfl,_⟩:=h
  rfl
 obtain⟨a,d,n,ms,p,q,rfl,hS,W,hD,k⟩:=h;refine⟨_,ah (aJ (i:=2) jS.nd rfl (Or.inl rfl) (cj ej (pv 1) ao (λ_ _=>rfl)))
  (ah (aJ (i:=3) jS.nd rfl (Or.inl rfl) (cj ej (pv 1) ao (λ_ _=>rfl)))
  (ah (bS (mA (BG Ah Ah j5 ao (pv 2) (pv 3) (aL aH rfl B.len bD (ae (pv 0) af)))) (aA (aU dv)) bg)
  (aA (aU (eU qS (cj ej (pv 0) (pv 2) (λ_ _=>rfl)) (pv 3) (aQ _)))))),?_⟩
 refine⟨_,rfl,d,_,_,_,rfl,rfl,hD,rfl,?_⟩;refine⟨_,rfl,d,_,_,_,rfl,rfl,hD,rfl,?_⟩;have U:¬aI.Fits n ms p q->Q (.bl false) H:=λz=>by rw[Up z]at k;exact k
 refine⟨_,rfl,_,_,rfl,rfl,_,rfl,ft (λG=>?_) (λG=>?_)⟩
 .have G:0<=p:=Uw G;refine⟨_,rfl,_,_,rfl,rfl,_,rfl,ft (λJ=>?_) (λJ=>?_)⟩
  .have J:p<=q:=Uw J;refine⟨_,rfl,a,_,rfl,.inr hS,_,_,rfl,rfl,_,rfl,ft (λD=>?_) (λD=>?_)⟩
   .have D:¬q<((nV ms).length:Nat):=by simpa using D
    rw[aS,W.len]at D;exact U λz=>D (by have:=z.2.2.1;omega)
   have D:q<((nV ms).length:Nat):=by simpa using D
   rw[aS,W.len]at D;have hx:p=((p.toNat:Nat):Int):=by omega
   have O:=W.ix (e:=p.toNat) (by omega);rw[<-hx]at O;refine⟨_,rfl,_,rfl,a,_,_,_,rfl,rfl,hS,O,_,rfl,rfl,?_⟩;have e:decide (aI.Fits n ms p q)=!decide (V.int ((ar ms p.toNat:Nat):Int)=V.int q):=by
    by_cases c:((ar ms p.toNat:Nat):Int)=q
    .rw[Up (λz:aI.Fits n ms p q=>z.2.2.2 c),Ul (congrArg V.int c)];rfl
    rw[Ul (show aI.Fits n ms p q from⟨G,J,by omega,c⟩),Up (λz=>c (by injection z))];rfl
   rw[e]at k;exact k
  have J:¬p<=q:=λz=>J (Ul z);exact⟨_,rfl,Bv (U λz=>J z.2.1)⟩
 have G:¬ 0<=p:=λz=>G (Ul z);exact⟨_,rfl,Bv (U λz=>G z.1)⟩
theorem o7{f O C:Um}{U D:Uz}(B:Bl mg)(Z:vh K mg "BadDeed" C)(F:Fn K mg "refuse_misfit" d7 ["work","deed"] f U)(V:Fn K mg "fits_work" eN ["work","deed"] O D):aO P w K mg base (gf P w) 2 f U ["work","deed"] (aI.xB K C):=by
 have GF:aO P w K mg base du 1 O D ["work","deed"] (vp K):=nY B V;refine F.fn.oE o5 (λvs H Q E h=>?_) (λji A outer s H vs Q E G h own=>?_)
 .obtain⟨a,d,n,ms,p,q,rfl,_⟩:=h
  rfl
 obtain⟨a,d,n,ms,p,q,rfl,hS,W,hD,sp,sq,kg,kb⟩:=h;refine⟨_,aA (bS (mA (iI (bo GF V G (ae (pv 0) (ae (pv 1) af))))) (aA (rE rfl Z (ae (Hz (vj (Jb G.gd (G.lt 2 (by decide)) (pv 1) (vj Dq))) (by decide)) af))) bg),?_⟩;refine⟨_,rfl,_,rfl,a,d,n,ms,p,q,rfl,hS,W,br.of hD,_,rfl,?_⟩;by_cases c:aI.Fits n ms p q
 .rw[Ul c];exact m6 (kg c)
 rw[Up c];refine Bv ⟨⟨_,rfl,rfl,⟨d,[p,q],rfl,hD,by show 2<=100;decide,λm J=>?_⟩,trivial⟩,λx=>⟨by show 1<=Uu;decide,kb c⟩⟩;rcases O9.mp J with rfl|J
 .exact sp.log
 rw[OS.mp J];exact sq.log
theorem mj{f:Um}{fd:Uz}(F:Fn K mg "freed_ends" dU ["work","deed"] f fd):aO P w K mg base du 1 f fd ["work","deed"] (nG K):=by
 refine F.fn.ok tH (λvs H Q E h=>?_) (λji A outer s H vs Q E hr h=>?_)
 .obtain⟨a,d,n,ms,p,q,rfl,_⟩:=h
  rfl
 obtain⟨a,d,n,ms,p,q,rfl,hS,W,hD,hp,hq,k⟩:=h;have nd2:(["end","work"]:List UI).Nodup:=by decide +kernel
 refine⟨_,aA (aU (eW (NC:=["end","work"]) rfl (jJ (c:=s.heap.objs.size+1) (j:=0) rfl (by decide +kernel) (by decide +kernel) rfl rfl rfl rfl rfl) (yJ (pv 1))
  (λ_ _ _ _=>aK (i:=0) nd2 rfl (Or.inl rfl)) (λ_ _ _ _=>i7 (aM qS (cj (AB (K:=K) rfl) (pv 1) (pv 0) (λ_ _=>rfl)) (pv 0) (aQ _))) (λ_ _ _ _=>cj (AB (K:=K) rfl) (pv 1) (pv 0) (λ_ _=>rfl)))),?_⟩
 refine⟨_,rfl,d,rfl,⟨_,hD⟩,λD O=>?_⟩;refine xh (K:=K) (a:=d) (xs:=nV [p,q]) (λi σ U=>∃v0:Option V,σ=[v0,Yc (.ref a)]/\aE H U/\U D=Yc (.lst (nV ((([p,q].take i).filter λe=>!decide (ar ms e=e)).map (ar ms)))))
  ⟨none,rfl,ai O,ag⟩ (λi σ U _ ⟨_,_,G,_⟩=>G.tup hD) ?_ ?_
 .rintro i x σ U hx ⟨v0,rfl,G,h2⟩;obtain⟨e,he,rfl⟩:=cX hx;have hi:i<2:=(OI.mp he).1;have Z:e<2*n:=by
   rcases O9.mp (OP he)with rfl|z
   .exact hp
   rw[OS.mp z];exact hq
  have hlen:((([p,q].take i).filter λe=>!decide (ar ms e=e)).map (ar ms)).length<=2:=by
   rw[OH];refine PD (Pm _ _) ?_;rw[Pu];exact Nat.min_le_right _ _
  refine⟨_,rfl,_,rfl,a,_,_,_,rfl,rfl,G.tup hS,W.ix Z,_,rfl,rfl,_,rfl,?_⟩;rw[aI.take_snoc he,Pa,O5];refine ft (λJ=>?_) (λJ=>?_)
  .have J:ar ms e≠e:=λz=>by rw[z]at J;simp at J
   refine⟨_,rfl,_,rfl,a,_,_,_,rfl,rfl,G.tup hS,W.ix Z,_,h2,aY (by rw[aS];omega),_,rfl,G.upd O,?_⟩;rw[ag];simp[J,nV]
  have J:ar ms e=e:=by
   by_cases z:ar ms e=e
   .exact z
   exact Us (by simp;omega) J
  refine⟨_,rfl,G,?_⟩;rw[h2];simp[J]
 rintro σ U ⟨v0,rfl,G,h2⟩;exact k D U O G h2
theorem tK{f:Um}{D:Uz}(F:Fn K mg "clasp_ends" gu ["mates","one","other"] f D):aO P w K mg base du 1 f D ["mates","one","other"] nH:=by
 refine F.fn.ok tI (λJ H Q E h=>?_) (λO A outer s H J Q E V h=>?_)
 .obtain⟨l,ms,p,q,rfl,_⟩:=h
  rfl
 obtain⟨l,ms,p,q,rfl,U,hp,Z,k⟩:=h;refine⟨_,ah (kD (pv 2) (ow (pv 0) (pv 1) set_list)) (aA (kD (pv 1) (ow (pv 0) (pv 2) set_list))),?_⟩;refine⟨_,rfl,_,rfl,_,rfl,l,_,_,_,rfl,rfl,U,oy (QT _) (by rw[aS];omega),?_⟩;rw[Pq,mH];refine⟨_,rfl,_,rfl,_,rfl,l,_,_,_,rfl,rfl,ag,oy (QT _) (by rw[aS,PR];omega),?_⟩;rw[Pq,mH];exact k _ ag λb G=>by rw[aG G,aG G]
theorem jA{f:Um}{fd:Uz}(B:Bl mg)(F:Fn K mg "walked_thread" c8 ["start","first","second"] f fd):aO P w K mg base du 1 f fd ["start","first","second"] (qz K):=by
 refine F.fn.ok fe (λvs H Q E h=>?_) (λji A outer s H vs Q E hr h=>?_)
 .obtain⟨a,b,n,ms,os,st,rfl,_⟩:=h
  rfl
 obtain⟨a,b,n,ms,os,st,rfl,hS,W,hO,WO,D,bN,k⟩:=h;have T:=bJ W WO;have Kt:=W.small;refine⟨_,(ah (aJ (i:=3) fe.nd rfl (Or.inl rfl) (bP (ae (pv 0) af)))
  (ah (aJ (i:=4) fe.nd rfl (Or.inl rfl) (cj ej (pv 1) (pv 0) (λ_ _=>rfl)))
  (ah (mY PassesOwn.never (Dy (R:=λσ H Q=>∃(l:Um) (J:List V) (x y s:Nat),σ[4]?=Yc (Yc (.int x))/\σ[3]?=Yc (Yc (.ref l))/\H l=Yc (.lst J)/\uU J (-1)=Yc (.int y)/\σ[0]?=Yc (Yc (.int s))/\Q (decide (x≠y/\x≠s)) H) λσ H Q hR=>?tst) (ah (bh (d5 O7 Py Pz b8 (pv 3) (ae (pv 4) af)))
  (aA (aJ (i:=4) fe.nd rfl (Or.inl rfl) (mX (aM fj (aT eH (aL aH rfl B.len bD (ae (pv 3) af)) ao) ao (aQ _)) (cj ej (pv 2) (pv 4) (λ_ _=>rfl)) (cj ej (pv 1) (pv 4) (λ_ _=>rfl)))))))
  (aA (aU (b7 bK rfl B.tuple eK (ae (pv 3) af))))))),?_⟩
 case tst =>
  obtain⟨l,J,x,y,st,e4,e3,hl,hy,e0,q⟩:=hR;refine⟨_,PW.pt (jE (aM qS (pv 4) (cj eD (pv 3) (Ab uQ ao) (λ_ _=>rfl)) (aQ _)) (i5 (aM qS (pv 4) (pv 0) (aQ _)))),?_⟩;refine⟨_,e4,_,e3,_,rfl,l,_,_,_,rfl,rfl,aZ.of hl,hy,rfl,_,rfl,?_⟩;by_cases c1:x=y
  .rw[Up (λz=>z.1 c1)]at q;have e:(!decide (V.int (x:Nat)=V.int (y:Nat)))=false:=by rw[Ul (by rw[c1])];rfl
   rw[e];exact q
  have e:(!decide (V.int (x:Nat)=V.int (y:Nat)))=true:=by rw[Up (λz=>c1 (by injection z with z;omega))];rfl
  rw[e];refine⟨_,e4,_,e0,rfl,_,rfl,?_⟩;by_cases c2:x=st
  .rw[Up (λz=>z.2 c2)]at q;have e:(!decide (V.int (x:Nat)=V.int (st:Nat)))=false:=by rw[Ul (by rw[c2])];rfl
   exact(congrArg (λb=>Q b H) e).mpr q
  rw[Ul ⟨c1,c2⟩]at q;have e:(!decide (V.int (x:Nat)=V.int (st:Nat)))=true:=by rw[Up (λz=>c2 (by injection z with z;omega))];rfl
  exact(congrArg (λb=>Q b H) e).mpr q
 refine⟨_,rfl,by show 1<=Uu;decide,λl hl=>?_⟩;have s0:aE H (upd H l (.lst [.int st])):=ai hl;refine⟨_,rfl,_,rfl,a,_,_,_,rfl,rfl,s0.tup hS,W.ix D,?_⟩;dsimp only[wN];unfold FD;dsimp only;refine qR (λσ Z=>∃m:Nat,σ=[Yc (.int st),Yc (.ref a),Yc (.ref b),Yc (.ref l),Yc (.int (dH (ar ms) (ar os) st (m+1):Nat))]/\aE H Z/\Z l=Yc (.lst (nV (eX (ar ms) (ar os) st (m+1))))/\Th.Goes (ar ms) (ar os) st m)
  (λσ Z=>match Z l with|some (.lst J)=>2*n+1-J.length|_=>0)
  ⟨0,rfl,s0,ag,⟨λi hi=>Us hi (Rx _),by rcases bN with z|z;exact .inl z;exact .inr λj h1 h2=>by omega⟩⟩ ?_ ?_
 .rintro σ Z ⟨m,rfl,s2,O,G⟩;have hm:=Th.qw T D G;have uc:=Th.kH T D (m+1);have ym:uU (nV (eX (ar ms) (ar os) st (m+1))) (-1)=Yc (.int (dH (ar ms) (ar os) st m:Nat)):=js (by rw[Th.lE,List.getLast?_append];rfl);refine⟨l,_,_,_,st,rfl,rfl,O,ym,rfl,?_⟩;refine ft (λh1=>?_) (λh1=>?_)
  .obtain⟨c1,c2⟩:=Uw h1;have G2:Th.Goes (ar ms) (ar os) st (m+1):=⟨λi hi=>by
    by_cases c:i=m
    .subst c;exact c1
    .exact G.mv i (by omega),by
    rcases G.rt with z|z
    .exact .inl z
    refine .inr λj h2 h3=>?_;by_cases c:j=m+1
    .subst c;exact c2
    exact z j h2 (by omega)⟩
   have hm2:=Th.qw T D G2;have yn:(nV (eX (ar ms) (ar os) st (m+1))).length=m+1:=by rw[aS,cR]
   refine⟨_,rfl,.inl ⟨rfl,_,aZ.of O⟩,_,rfl,l,_,_,rfl,rfl,O,aY (by rw[yn];omega),?_⟩;have s3:aE H (upd Z l (.lst (nV (eX (ar ms) (ar os) st (m+1))++[.int (dH (ar ms) (ar os) st (m+1):Nat)]))):=s2.upd hl;have U:upd Z l (.lst (nV (eX (ar ms) (ar os) st (m+1))++[.int (dH (ar ms) (ar os) st (m+1):Nat)])) l=Yc (.lst (nV (eX (ar ms) (ar os) st (m+2)))):=by rw[ag,Th.lE (m+1),gi]
   generalize upd Z l (.lst (nV (eX (ar ms) (ar os) st (m+1))++[.int (dH (ar ms) (ar os) st (m+1):Nat)]))=H3 at s3 U⊢;have Ms:(match H3 l with|some (.lst J)=>2*n+1-J.length|_=>0)<(match Z l with|some (.lst J)=>2*n+1-J.length|_=>0):=by
    rw[U,O];show 2*n+1-(nV (eX (ar ms) (ar os) st (m+2))).length<2*n+1-(nV (eX (ar ms) (ar os) st (m+1))).length;rw[aS,aS,cR,cR];omega
   have Mu:((nV (eX (ar ms) (ar os) st (m+2))).length:Int)=m+2:=by rw[aS,cR];omega
   refine⟨_,rfl,l,_,rfl,.inl (aZ.of U),_,_,rfl,rfl,(by show(0:Int)<2;decide),rfl,_,rfl,?_⟩;refine ft (λh2=>?_) (λh2=>?_)
   .have p:m%2=0:=by
     have z:=Uw h2;injection z with z;rw[Mu]at z;omega
    have e:ar os (dH (ar ms) (ar os) st (m+1))=dH (ar ms) (ar os) st (m+2):=by
     show _=kB _ _ (m+1) _;unfold kB;rw[Uk (by omega)]
    refine⟨_,rfl,_,rfl,b,_,_,_,rfl,rfl,s3.tup hO,WO.ix uc,?_⟩;exact⟨⟨m+1,(by show _=[_,_,_,_,Yc (V.int (dH (ar ms) (ar os) st (m+2):Nat))];rw[<-e];rfl),s3,U,G2⟩,Ms⟩
   have p:m%2=1:=by
    refine OU λz=>h2 (Ul ?_);show V.int (((nV (eX (ar ms) (ar os) st (m+2))).length:Int)%2)=V.int 0;rw[Mu];have z2:((m:Int)+2)%2=0:=by omega
    rw[z2]
   have e:ar ms (dH (ar ms) (ar os) st (m+1))=dH (ar ms) (ar os) st (m+2):=by
    show _=kB _ _ (m+1) _;unfold kB;rw[Uo (by omega)]
   refine⟨_,rfl,_,rfl,a,_,_,_,rfl,rfl,s3.tup hS,W.ix uc,?_⟩;exact⟨⟨m+1,(by show _=[_,_,_,_,Yc (V.int (dH (ar ms) (ar os) st (m+2):Nat))];rw[<-e];rfl),s3,U,G2⟩,Ms⟩
  have hc:dH (ar ms) (ar os) st (m+1)=dH (ar ms) (ar os) st m\/dH (ar ms) (ar os) st (m+1)=st:=by
   refine OU λz=>h1 (Ul ⟨λe=>z (.inl e),λe=>z (.inr e)⟩)
  have ht:=Th.jG T D ⟨G,hc,bN⟩;exact⟨_,rfl,l,_,rfl,.inl O,λt H3 s3 h3=>k t H3 (s2.trans s3) (by rw[h3,ht])⟩
 rintro σ Z R R' hR ⟨l,J,x,y,s,e1,e2,e3,e4,e5,q⟩;exact⟨l,J,x,y,s,e1,e2,e3,e4,e5,hR _ _ q⟩
theorem pZ{f f1 f2:Um}{fd iA jB:Uz}(B:Bl mg)(F:Fn K mg "open_threads" eO ["one","other"] f fd)(J:Fn K mg "loose_ends" eZ ["work"] f1 iA)(G:Fn K mg "walked_thread" c8 ["start","first","second"] f2 jB):aO P w K mg base du 2 f fd ["one","other"] (zf K):=by
 have U:aO P w K mg base du 1 f1 iA ["work"] (aI.AD K):=tJ B J;have O:aO P w K mg base du 1 f2 jB ["start","first","second"] (qz K):=jA B G;refine F.fn.ok dg (λvs H Q E h=>?_) (λji A outer s H vs Q E hr h=>?_)
 .obtain⟨a,b,n,ms,os,rfl,_⟩:=h
  rfl
 obtain⟨a,b,n,ms,os,rfl,hS,W,hO,WO,k⟩:=h;have T:=bJ W WO;have Kt:=W.small;refine⟨_,(ah (aJ (i:=2) dg.nd rfl (Or.inl rfl) (bP af))
  (ah (b6 PassesOwn.never rfl (bp (bo U J (hr.mono (by decide)) (ae (pv 0) af))) (aK (i:=3) dg.nd rfl (Or.inl rfl)) (ah (aJ (i:=4) dg.nd rfl (Or.inl rfl) (bo O G (hr.mono (by decide)) (ae (pv 3) (ae (pv 1) (ae (pv 0) af)))))
  (aA (bS (aM fj (aT eH (aL aH rfl B.len bD (ae (pv 4) af)) ao) ao (aQ _)) (aA (bh (d5 O7 Py Pz b8 (pv 2) (ae (bC (ae d9 (ae (pv 4) af))) af)))) (aA (bS (aM j5 (pv 3) (cj ej (pv 4) (Ab uQ ao) (λ_ _=>rfl)) (aQ _)) (aA (bh (d5 O7 Py Pz b8 (pv 2) (ae (bC (ae d9 (ae (pv 4) af))) af)))) bg))))))
  (ah (b6 PassesOwn.never rfl (bp (bo U J (hr.mono (by decide)) (ae (pv 1) af))) (aK (i:=3) dg.nd rfl (Or.inl rfl)) (ah (aJ (i:=4) dg.nd rfl (Or.inl rfl) (bo O G (hr.mono (by decide)) (ae (pv 3) (ae (pv 0) (ae (pv 1) af)))))
  (aA (bS (PW.pt (jE (aM fj (aT eH (aL aH rfl B.len bD (ae (pv 4) af)) ao) ao (aQ _)) (i5 (aM j5 (pv 3) (cj ej (pv 4) (Ab uQ ao) (λ_ _=>rfl)) (aQ _))))) (aA (bh (d5 O7 Py Pz b8 (pv 2) (ae (bC (ae d9 (ae (pv 4) af))) af)))) bg))))
  (aA (aU (pv 2)))))),?_⟩
 refine⟨by show 0<=Uu;decide,λl hl=>?_⟩;have s0:aE H (upd H l (.lst [])):=ai hl;refine⟨_,rfl,a,n,ms,rfl,s0.tup hS,W,λla H1 hla s1 JW=>?_⟩;have Mv:=s0.trans s1;have G9:H1 l=Yc (.lst []):=s1 _ _ ag;rw[aI.xD]at JW;have EZ:∀M:Nat->Nat,(lF (2*n) M).length<=80:=λM=>by
  unfold lF;have z:=Pm (λe=>e==M e) (OV (2*n));rw[OW]at z;omega
 have nla:l≠la:=aW ag hla;have Ku:∀xs:List Nat,(nV xs).length=xs.length:=aS;refine⟨la,rfl,⟨_,aZ.of JW⟩,cy (K:=K) (a:=la) (xs:=nV (lF (2*n) (ar ms))) (λi σ H2=>∃v3 v4:Option V,σ=[Yc (.ref a),Yc (.ref b),Yc (.ref l),v3,v4]/\aE H H2/\H2 la=Yc (.lst (nV (lF (2*n) (ar ms))))/\aI.nI H2 l (iM (2*n) (ar ms) (ar os) ((lF (2*n) (ar ms)).take i)))
  ⟨none,none,rfl,Mv,JW,aI.nI.nil G9⟩ (λi σ H2 _ ⟨_,_,_,_,h2,_⟩=>aZ.of h2) ?_ ?_⟩
 .rintro i y σ H2 hy ⟨v3,v4,rfl,s2,Mw,hT⟩;obtain⟨u,hu,rfl⟩:=cX hy;have hil:=(OI.mp hu).1;obtain⟨ul,au⟩:=Th.dw.mp (OP hu);refine⟨_,rfl,_,rfl,_,rfl,b,a,n,os,ms,u,rfl,s2.tup hO,WO,s2.tup hS,W,ul,.inl au,λe H3 s3 he=>?_⟩;have Mx:=s2.trans s3;have hTL:=Th.ni T.swap ul (.inl au);have E1:=hT.same s3;have Mz:=s3 _ _ Mw;have yn:((nV (cN (ar os) (ar ms) u)).length:Int)=(cN (ar os) (ar ms) u).length:=by rw[Ku]
  have hoA:=Th.oA (N:=2*n) (a:=ar ms) (b:=ar os) ((lF (2*n) (ar ms)).take i);rw[Pu]at hoA;have l80:=EZ (ar ms);have add:∀(kd:Th.Kd) (D:Hp->Prop),pA (ar ms) (ar os) u->eA (ar ms) (ar os) u=(kd,cN (ar os) (ar ms) u)->∀Z,H3 Z=none ->
    (∃xs,upd H3 Z (.tup [.str (ks kd),.ref e]) l=Yc (.lst xs)/\xs.length<Uu/\aI.nI (upd (upd H3 Z (.tup [.str (ks kd),.ref e])) l (.lst (xs++[.ref Z]))) l (iM (2*n) (ar ms) (ar os) ((lF (2*n) (ar ms)).take (i+1))) /\
     aE H (upd (upd H3 Z (.tup [.str (ks kd),.ref e])) l (.lst (xs++[.ref Z])))/\upd (upd H3 Z (.tup [.str (ks kd),.ref e])) l (.lst (xs++[.ref Z])) la=Yc (.lst (nV (lF (2*n) (ar ms))))):=λkd D hp hE Z p0=>by
   have s4:aE H3 (upd H3 Z (.tup [.str (ks kd),.ref e])):=ai p0;obtain⟨xs,x1,x2,x3⟩:=(E1.same s4).snoc (t:=Z) (e:=e) (k:=kd) ag (s4 _ _ he);refine⟨xs,x1,aY (by rw[x2];omega),?_,(Mx.trans s4).upd hl,?_⟩
   .rw[aI.take_snoc hu,Th.rj,Uo hp,hE];exact x3
   rw[aG (Ne.symm nla)];exact s4 _ _ Mz
  refine⟨_,rfl,e,_,rfl,.inr (br.of he),_,_,rfl,rfl,(by show(0:Int)<2;decide),rfl,_,rfl,?_⟩;refine ft (λh1=>?_) (λh1=>?_)
  .have o:(cN (ar os) (ar ms) u).length%2=1:=by
    have z:=Uw h1;injection z with z;rw[yn]at z;omega
   obtain⟨vs,w1,_⟩:=E1.len;refine⟨_,rfl,.inl ⟨rfl,_,aZ.of w1⟩,_,rfl,by show 2<=Uu;decide,λZ p0=>?_⟩;obtain⟨xs,x1,x2,x3,x4,x5⟩:=add .odd (λ_=>True) (.inl o) (by unfold eA;rw[Uo o]) Z p0;exact⟨l,_,_,rfl,rfl,x1,x2,_,_,rfl,x4,x5,x3⟩
  have o:¬(cN (ar os) (ar ms) u).length%2=1:=λz=>h1 (Ul (by
   show V.int (((nV (cN (ar os) (ar ms) u)).length:Int)%2)=V.int 1;rw[yn];have z2:((cN (ar os) (ar ms) u).length:Int)%2=1:=by omega
   rw[z2]))
  have ym:uU (nV (cN (ar os) (ar ms) u)) (-1)=Yc (.int (Th.bE (cN (ar os) (ar ms) u):Nat)):=js (Th.rn hTL.1);refine⟨_,rfl,_,rfl,_,rfl,e,_,_,_,rfl,rfl,br.of he,ym,_,_,rfl,rfl,_,rfl,?_⟩;refine ft (λh2=>?_) (λh2=>?_)
  .have h2:=Uw h2;obtain⟨vs,w1,_⟩:=E1.len;refine⟨_,rfl,.inl ⟨rfl,_,aZ.of w1⟩,_,rfl,by show 2<=Uu;decide,λZ p0=>?_⟩;obtain⟨xs,x1,x2,x3,x4,x5⟩:=add .bare (λ_=>True) (.inr (by omega)) (by unfold eA;rw[Uk o]) Z p0;exact⟨l,_,_,rfl,rfl,x1,x2,_,_,rfl,x4,x5,x3⟩
  have h2:¬pA (ar ms) (ar os) u:=λz=>by
   rcases z with z|z
   .exact o z
   exact h2 (Ul (by omega))
  refine⟨_,_,rfl,Mx,Mz,?_⟩;rw[aI.take_snoc hu,Th.rj,Uk h2,Pj];exact E1
 rintro σ H2 ⟨v3,v4,rfl,s2,Mw,hT⟩;rw[Ku,Pd]at hT;refine⟨_,rfl,b,n,os,rfl,s2.tup hO,WO,λlb H3 hlb s3 JX=>?_⟩;rw[aI.xD]at JX;have sv:=s2.trans s3;have E1:=hT.same s3;obtain⟨Kv,w0,_⟩:=hT.len;have nlb:l≠lb:=aW w0 hlb;refine⟨lb,rfl,⟨_,aZ.of JX⟩,cy (K:=K) (a:=lb) (xs:=nV (lF (2*n) (ar os))) (λi σ H4=>∃v3 v4:Option V,σ=[Yc (.ref a),Yc (.ref b),Yc (.ref l),v3,v4]/\aE H H4/\H4 lb=Yc (.lst (nV (lF (2*n) (ar os))))/\aI.nI H4 l (iM (2*n) (ar ms) (ar os) (lF (2*n) (ar ms))++Th.j8 (2*n) (ar ms) (ar os) ((lF (2*n) (ar os)).take i)))
  ⟨_,_,rfl,sv,JX,by show aI.nI H3 l (_++[]);rw[Pj];exact E1⟩ (λi σ H4 _ ⟨_,_,_,_,h2,_⟩=>aZ.of h2) ?_ ?_⟩
 .rintro i y σ H4 hy ⟨v3,v4,rfl,s4,MA,yo⟩;obtain⟨u,hu,rfl⟩:=cX hy;have hil:=(OI.mp hu).1;obtain⟨ul,au⟩:=Th.dw.mp (OP hu);refine⟨_,rfl,_,rfl,_,rfl,a,b,n,ms,os,u,rfl,s4.tup hS,W,s4.tup hO,WO,ul,.inl au,λe H5 s5 he=>?_⟩;have Kw:=s4.trans s5;have hTL:=Th.ni T ul (.inl au);have hT5:=yo.same s5;have JY:=s5 _ _ MA;have yn:((nV (cN (ar ms) (ar os) u)).length:Int)=(cN (ar ms) (ar os) u).length:=by rw[Ku]
  have hoA:=Th.oA (N:=2*n) (a:=ar ms) (b:=ar os) (lF (2*n) (ar ms));have hoB:=Th.t9 (N:=2*n) (a:=ar ms) (b:=ar os) ((lF (2*n) (ar os)).take i);rw[Pu]at hoB;have l80:=EZ (ar ms);have af0:=EZ (ar os);have skip:¬Th.pB (ar ms) (ar os) u->aI.nI H5 l (iM (2*n) (ar ms) (ar os) (lF (2*n) (ar ms))++Th.j8 (2*n) (ar ms) (ar os) ((lF (2*n) (ar os)).take (i+1))):=λh2=>by
   rw[aI.take_snoc hu,Th.rm,Uk h2,Pj];exact hT5
  refine⟨_,rfl,e,_,rfl,.inr (br.of he),_,_,rfl,rfl,(by show(0:Int)<2;decide),rfl,_,rfl,?_⟩;refine ft (λh1=>?_) (λh1=>?_)
  .have o:(cN (ar ms) (ar os) u).length%2=0:=by
    have z:=Uw h1;injection z with z;rw[yn]at z;omega
   have ym:uU (nV (cN (ar ms) (ar os) u)) (-1)=Yc (.int (Th.bE (cN (ar ms) (ar os) u):Nat)):=js (Th.rn hTL.1);refine⟨_,rfl,_,rfl,_,rfl,e,_,_,_,rfl,rfl,br.of he,ym,_,_,rfl,rfl,_,rfl,?_⟩;refine ft (λh2=>?_) (λh2=>?_)
   .have h2:=Uw h2;obtain⟨vs,w1,_⟩:=hT5.len;refine⟨_,rfl,.inl ⟨rfl,_,aZ.of w1⟩,_,rfl,by show 2<=Uu;decide,λZ p0=>?_⟩;have s6:aE H5 (upd H5 Z (.tup [.str (ks .tied),.ref e])):=ai p0;obtain⟨xs,x1,x2,x3⟩:=(hT5.same s6).snoc (t:=Z) (e:=e) (k:=.tied) ag (s6 _ _ he);refine⟨l,_,_,rfl,rfl,x1,aY (by rw[x2,OQ];omega),_,_,rfl,(Kw.trans s6).upd hl,?_,?_⟩
    .rw[aG (Ne.symm nlb)];exact s6 _ _ JY
    rw[aI.take_snoc hu,Th.rm,Uo ⟨o,by omega⟩,<-PM];exact x3
   exact⟨_,_,rfl,Kw,JY,skip λz=>h2 (Ul (by have:=z.2;omega))⟩
  refine m6 ⟨_,_,rfl,Kw,JY,skip λz=>h1 (Ul ?_)⟩;show V.int (((nV (cN (ar ms) (ar os) u)).length:Int)%2)=V.int 0;rw[yn];have z2:((cN (ar ms) (ar os) u).length:Int)%2=0:=by have:=z.1;omega
  rw[z2]
 rintro σ H4 ⟨v3,v4,rfl,s4,MA,yo⟩;rw[Ku,Pd]at yo;exact⟨_,rfl,k l H4 hl s4 yo⟩
theorem wa{f:Um}{fd:Uz}(F:Fn K mg "mark_ends" gW ["seen","ends"] f fd):aO P w K mg base du 1 f fd ["seen","ends"] aI.AK:=by
 refine F.fn.ok nW (λvs H Q E h=>?_) (λji A outer s H vs Q E hr h=>?_)
 .obtain⟨d,e,kv,L,rfl,_⟩:=h
  rfl
 obtain⟨d,c,kv,L,rfl,hd,he,hlen,k⟩:=h;have hu:=j7 hr;have ne:c≠d:=λz=>by rw[z,hd]at he;cases he
 refine⟨_,(aA (b6 PassesOwn.never rfl (yJ (pv 1)) (aK (i:=2) nW.nd rfl (Or.inl rfl)) (aA (qu hu (pv 0) (pv 2) dv rfl)))),?_⟩;refine⟨_,rfl,c,rfl,⟨_,br.of he⟩,FG (K:=K) (a:=c) (xs:=nV L) (λi σ U=>∃(v:Option V) (D:List (Key×V)),σ=[Yc (.ref d),Yc (.ref c),v]/\(∀b o,b≠d->H b=Yc o->U b=Yc o)/\U d=Yc (.dK D) /\
   D.length<=kv.length+i/\∀j:Nat,(bX D (Sum.inl (j:Int):Key)).isSome=true↔(bX kv (Sum.inl (j:Int):Key)).isSome=true\/j∈L.take i)
  ⟨none,kv,rfl,λb o _ e=>e,hd,ON _,λj=>by simp⟩ (λi σ U _ ⟨_,_,_,Z,_⟩=>br.of (Z _ _ ne he)) ?_ ?_⟩
 .rintro i y σ U hy ⟨v,D,rfl,Z,J,O,G⟩;obtain⟨x,hx,rfl⟩:=cX hy;have hil:i<L.length:=(OI.mp hx).1;refine⟨_,rfl,_,rfl,d,_,rfl,sS.k (k:=Sum.inl (x:Int)) J (Qs (show D.length<=200000 by omega) (by decide)),?_⟩;refine⟨_,_,rfl,λb o hb e=>by rw[aG hb];exact Z b o hb e,ag,?_,λj=>?_⟩
  .have z:=fX D (Sum.inl (x:Int):Key) (V.bl true);omega
  rw[qT,aI.take_snoc hx,OY];by_cases e:(Sum.inl (j:Int):Key)=Sum.inl (x:Int)
  .rw[Uo e];have e2:j=x:=by injection e with e;omega
   exact⟨λ_=>.inr (.inr (by simp[e2])),λ_=>rfl⟩
  rw[Uk e,G j];have e2:j≠x:=λz=>e (by rw[z]);constructor
  .rintro(h|h)
   .exact .inl h
   exact .inr (.inl h)
  rintro(h|h|h)
  .exact .inl h
  .exact .inr h
  exact Us (OS.mp h) e2
 rintro σ U ⟨v,D,rfl,Z,J,O,G⟩;rw[aS]at O G;rw[Pd]at G;exact k D U J Z O G
theorem wb{f:Um}{G:Uz}(B:Bl mg)(F:Fn K mg "least_end" gX ["thread"] f G):aO P w K mg base du 1 f G ["thread"] aI.rN:=by
 refine F.fn.ok vX (λU H Q E h=>?_) (λZ A outer s H U Q E hr h=>?_)
 .obtain⟨t,e,kd,L,rfl,_⟩:=h
  rfl
 obtain⟨t,e,kd,L,rfl,ht,he,J,k⟩:=h;refine⟨_,(aA (aU (aL (vg rfl) rfl B.min vc (ae (cj ej (pv 0) ao (λ_ _=>rfl)) af)))),?_⟩;have e1:uU [V.str (ks kd),V.ref e] 1=Yc (.ref e):=rfl;refine⟨_,rfl,t,_,_,_,rfl,rfl,br.of ht,e1,e,Mt.up L,rfl,br.of (by rw[he,aI.LS];rfl),?_,λM O D=>?_⟩
 .rw[Mt.Jd];exact J
 obtain⟨q1,q2,q3⟩:=Th.Dg L (L.headD 0);have hd:L.headD 0∈L:=by
  cases L with
  |nil=>exact Us J (QF _)
  |cons z r=>exact O2
 have hm:mn L∈L:=by
  rcases q3 with z|z
  .unfold mn;rw[z];exact hd
  exact z
 unfold Mt.up at O D;obtain⟨x,hx,rfl⟩:=OO.mp O;have z1:=q2 x hx;have z2:=D _ (OO.mpr ⟨_,hm,rfl⟩);have z3:x=mn L:=by unfold mn at z2⊢;omega
 rw[z3];exact k
theorem zW{f f1 f2 f3 f4 f5 f6 C:Um}{fd iA jB mT zX B9 E2:Uz}(B:Bl mg)(Z:vh K mg "Unlike" C)(F:Fn K mg "threads" fc ["one","other"] f fd)(G:Fn K mg "refuse_unlike" d6 ["one","other"] f1 iA)(jX:Fn K mg "loose_ends" eZ ["work"] f2 jB)
  (O:Fn K mg "open_threads" eO ["one","other"] f3 mT) (D:Fn K mg "walked_thread" c8 ["start","first","second"] f4 zX) (J:Fn K mg "mark_ends" gW ["seen","ends"] f5 B9) (U:Fn K mg "least_end" gX ["thread"] f6 E2) :
  aO P w K mg base (gf P w) 4 f fd ["one","other"] (fK K C):=by
 have qb:aO P w K mg base (gf P w) 1 f1 iA ["one","other"] (aI.xC K C):=o6 B Z G;have sx:aO P w K mg base du 2 f3 mT ["one","other"] (zf K):=pZ B O jX D;have qc:aO P w K mg base du 1 f4 zX ["start","first","second"] (qz K):=jA B D;have pM:aO P w K mg base du 1 f5 B9 ["seen","ends"] aI.AK:=wa J;have yp:aO P w K mg base du 1 f6 E2 ["thread"] aI.rN:=wb B U;refine F.fn.oE fP (λvs H Q E h=>?_) (λji A outer s H vs Q E hr h own=>?_)
 .obtain⟨a,b,n,m,ms,os,rfl,_,_⟩:=h
  rfl
 obtain⟨a,b,n,m,ms,os,rfl,Ha,hS,W,hO,hm,kg,kb⟩:=h;have op:=iN (E:=E) own;have hu:=j7 hr;refine⟨_,(ah (bh (hH qb G (hr.mono (by decide)) (ae (pv 0) (ae (pv 1) af))))
  (ah (aJ (i:=2) fP.nd rfl (Or.inl rfl) (bo sx O (hr.mono (by decide)) (ae (pv 0) (ae (pv 1) af))))
  (ah (aJ (i:=3) fP.nd rfl (Or.inl rfl) qV)
  (ah (b6 op rfl (bp (pv 2)) (jF rfl (aX (aK (i:=4) fP.nd rfl (Or.inl rfl)) (aX (aK (i:=5) fP.nd rfl (Or.inl rfl)) dO))) (aA (bh (bo pM J (hr.mono (by decide)) (ae (pv 3) (ae (pv 5) af))))))
  (ah (b6 op rfl (fU rfl B.range (ae (aL aH rfl B.len bD (ae (pv 0) af)) af)) (aK (i:=6) fP.nd rfl (Or.inl rfl)) (aA (bS (qO (lB hu (pv 6) (pv 3))) (ah (aJ (i:=7) fP.nd rfl (Or.inl rfl) (bo qc D (hr.mono (by decide)) (ae (pv 6) (ae (pv 0) (ae (pv 1) af)))))
  (ah (bh (bo pM J (hr.mono (by decide)) (ae (pv 3) (ae (pv 7) af))))
  (aA (bh (d5 O7 Py Pz b8 (pv 2) (ae (bC (ae d9 (ae (pv 7) af))) af)))))) bg)))
  (aA (aU (BS (by rfl) B.sorted yp U (hr.mono (by decide)) (ae (pv 2) af))))))))),?_⟩
 refine⟨_,rfl,_,rfl,a,b,n,m,ms,os,rfl,hS,W,hO,hm,λwc=>?_,λjj=>kb jj⟩;obtain⟨WO,kg⟩:=kg wc;have T:=bJ W WO;have Kt:=W.small;refine⟨_,rfl,_,rfl,a,b,n,ms,os,rfl,hS,W,hO,WO,λl H1 hl s1 hT=>?_⟩;intro d hd;have s2:aE H1 (upd H1 d (.dK [])):=ai hd;have yV:=hT.same s2;have hd2:upd H1 d (.dK []) d=Yc (.dK []):=ag;obtain⟨Kv,w0,w00⟩:=hT.len;have HQ:l≠d:=aW w0 hd;have hd0:H d=none:=s1.free hd;generalize upd H1 d (.dK [])=H2 at s2 yV hd2⊢;obtain⟨xs,⟨ts,t1,t2,t3⟩,x2,x3⟩:=id yV;have hol:(hV (2*n) (ar ms) (ar os)).length<=160:=by
  unfold hV;rw[OQ];have q1:=Th.oA (N:=2*n) (a:=ar ms) (b:=ar os) (lF (2*n) (ar ms));have q2:=Th.t9 (N:=2*n) (a:=ar ms) (b:=ar os) (lF (2*n) (ar os));have q3:∀M:Nat->Nat,(lF (2*n) M).length<=80:=λM=>by
   unfold lF;have z:=Pm (λe=>e==M e) (OV (2*n));rw[OW]at z;omega
  have:=q3 (ar ms);have:=q3 (ar os);omega
 have E3:xs.length<=160:=by rw[<-x3,OH]at hol;exact hol
 have MB:∀{x:Nat}{L:List Nat},x<2*n->bU (ar ms) (ar os) x L->L.length<=80:=λ{x L} hx C=>by
  have z:=Th.sub_len C.nd (m:=OV (2*n)) λy hy=>OX.mpr (((C.mem y).mp hy).lt T hx);rw[OW]at z;omega
 refine⟨_,rfl,l,rfl,⟨_,aZ.of t1⟩,cy (K:=K) (a:=l) (xs:=ts.map V.ref) (λi σ H3=>∃(v4 v5:Option V) (kv:List (Key×V)),σ=[Yc (.ref a),Yc (.ref b),Yc (.ref l),Yc (.ref d),v4,v5,none,none]/\(∀c o,c≠d->H2 c=Yc o->H3 c=Yc o)/\H3 d=Yc (.dK kv)/\kv.length<=80*i /\
   ∀j:Nat,(bX kv (Sum.inl (j:Int):Key)).isSome=true↔∃x∈xs.take i,j∈x.2.2)
  ⟨none,none,[],rfl,λc o _ e=>e,hd2,ON _,λj=>by simp[bX]⟩ (λi σ H3 _ zq=>by obtain⟨_,_,_,_,s3,_⟩:=zq;exact aZ.of (s3 _ _ HQ t1)) ?_ ?_⟩
 .rintro i y σ H3 hy ⟨v4,v5,kv,rfl,s3,Az,EJ,hk⟩;have hi:i<ts.length:=by have z:=(OI.mp hy).1;rw[OH]at z;exact z
  rw[OR,OG hi]at hy;obtain rfl:=Option.some.inj hy;have AA:i<xs.length:=by rw[<-t2];exact hi
  have ex:=OG AA;generalize xs[i]=x at ex;have JZ:=t3 i _ x (OG hi) ex;have LV:=OP ex;have hxe:=x2 x LV;have nt:ts[i]≠d:=λz=>by rw[z,hd2]at JZ;cases JZ
  have ne:x.2.1≠d:=λz=>by rw[z,hd2]at hxe;cases hxe
  obtain⟨u,hul,_,C⟩:=Th.oB T (th:=aI.en x) (by rw[<-x3];exact OO.mpr ⟨x,LV,rfl⟩);have MC:=MB hul C;have MC:x.2.2.length<=80:=MC;refine⟨_,_,rfl,br.of (s3 _ _ nt JZ),rfl,_,_,rfl,_,_,rfl,rfl,?_⟩;refine⟨_,rfl,_,rfl,d,x.2.1,kv,x.2.2,rfl,Az,s3 _ _ ne hxe,by omega,λkv2 H4 tL s4 Co E4=>?_⟩;refine⟨_,_,kv2,rfl,λc o hc e=>s4 c o hc (s3 c o hc e),tL,by omega,λj=>?_⟩;rw[E4,hk,aI.take_snoc ex];constructor
  .rintro(⟨x',h1,h2⟩|h)
   .exact⟨x',Pn _ h1,h2⟩
   exact⟨x,OZ _ (OS.mpr rfl),h⟩
  rintro⟨x',h1,h2⟩;rcases OY.mp h1 with h1|h1
  .exact .inl ⟨x',h1,h2⟩
  rw[OS.mp h1]at h2;exact .inr h2
 rintro σ H3 ⟨v4,v5,kv,rfl,s3,Az,EJ,hk⟩;rw[OH,t2]at EJ hk;rw[Pd]at hk;have sv:aE H H3:=λc o e=>s3 c o (λz=>by rw[z,hd0]at e;cases e) (s2 _ _ (s1 _ _ e));have E1:aI.nI H3 l (hV (2*n) (ar ms) (ar os)):=yV.keep hd2 s3;have hk3:∀j:Nat,j<2*n->((bX kv (Sum.inl (j:Int):Key)).isSome=true↔¬bq (ar ms) (ar os) j):=λj hj=>by
  rw[hk,<-Th.oC T hj,<-x3];constructor
  .rintro⟨x,h1,h2⟩;exact⟨aI.en x,OO.mpr ⟨x,h1,rfl⟩,h2⟩
  rintro⟨th,h1,h2⟩;obtain⟨x,h3,rfl⟩:=OO.mp h1;exact⟨x,h3,h2⟩
 have Bc:((nV ms).length:Int)=2*n:=by rw[aS,W.len];omega
 have hld:H l=none:=hl;refine⟨_,rfl,a,_,rfl,.inr (sv.tup hS),_,rfl,by rw[Bc];omega,by rw[Bc];omega,fV (lo:=0) (n:=((nV ms).length:Int).toNat) (λi σ H4=>∃(v4 v5 v6 v7:Option V) (kv:List (Key×V)),σ=[Yc (.ref a),Yc (.ref b),Yc (.ref l),Yc (.ref d),v4,v5,v6,v7]/\aE H H4/\H4 d=Yc (.dK kv)/\kv.length<=13000+80*i /\
   aI.nI H4 l (hV (2*n) (ar ms) (ar os)++Th.eE (ar ms) (ar os) i)/\∀j:Nat,j<2*n->((bX kv (Sum.inl (j:Int):Key)).isSome=true↔(¬bq (ar ms) (ar os) j\/∃th∈Th.eE (ar ms) (ar os) i,j∈th.2)))
  ⟨_,_,_,_,kv,rfl,sv,Az,by omega,by show aI.nI H3 l (_++[]);rw[Pj];exact E1,λj hj=>?_⟩ ?_ ?_⟩
 .rw[hk3 j hj];constructor
  .exact .inl
  rintro(h|⟨th,h,_⟩)
  .exact h
  exact Us h Qp
 .rintro i σ H4 hi ⟨v4,v5,v6,v7,MD,rfl,s4,tL,aaR,yo,E4⟩;have JQ:i<2*n:=by rw[Bc]at hi;omega
  have hir:=Th.xa (a:=ar ms) (b:=ar os) i;rw[Ri];have nx:=Th.By T JQ;refine⟨_,rfl,_,rfl,d,_,rfl,wU.k (k:=Sum.inl (i:Int)) tL,_,rfl,?_⟩;refine ft (λh1=>?_) (λh1=>?_)
  .have Ao:¬(bX MD (Sum.inl (i:Int):Key)).isSome=true:=λz=>by rw[z]at h1;cases h1
   rw[E4 i JQ]at Ao;have NL:=nx.mpr Ao;have C:=Th.bH T JQ (.inr NL.2);have MC:=MB JQ C;refine⟨_,rfl,_,rfl,_,rfl,a,b,n,ms,os,i,rfl,s4.tup hS,W,s4.tup hO,WO,JQ,.inr NL.2,λe H5 s5 he=>?_⟩;refine⟨_,rfl,_,rfl,d,e,MD,_,rfl,s5 _ _ tL,he,by omega,λkv6 H6 J0 s6 NM hk6=>?_⟩;have hd5:=s5 _ _ tL;have hT6:=(yo.same s5).keep hd5 s6;have s46:aE H H6:=λc o q=>s6 c o (λz=>by rw[z,hd0]at q;cases q) (s5 _ _ (s4 _ _ q));have he6:H6 e=Yc (.tup (nV (cN (ar ms) (ar os) i))):=s6 _ _ (λz=>by rw[z,hd5]at he;cases he) he;obtain⟨vs,w1,_⟩:=hT6.len;refine⟨_,rfl,.inl ⟨rfl,_,aZ.of w1⟩,_,rfl,by show 2<=Uu;decide,λtp p0=>?_⟩;have s7:aE H6 (upd H6 tp (.tup [.str (ks .ring),.ref e])):=ai p0;obtain⟨ys,y1,y2,y3⟩:=(hT6.same s7).snoc (t:=tp) (e:=e) (k:=.ring) ag (s7 _ _ he6);refine⟨l,_,_,rfl,rfl,y1,aY (by rw[y2,OQ];omega),?_⟩;refine⟨_,_,_,_,kv6,rfl,(s46.trans s7).upd hld,?_,by omega,?_,λj hj=>?_⟩
   .rw[aG (Ne.symm HQ)];exact s7 _ _ J0
   .rw[Th.ij,Uo NL,<-PM];exact y3
   rw[hk6,E4 j hj,Th.ij,Uo NL];constructor
   .rintro((h|⟨th,h2,h3⟩)|h)
    .exact .inl h
    .exact .inr ⟨th,Pn _ h2,h3⟩
    exact .inr ⟨_,OZ _ (OS.mpr rfl),h⟩
   rintro(h|⟨th,h2,h3⟩)
   .exact .inl (.inl h)
   rcases OY.mp h2 with h2|h2
   .exact .inl (.inr ⟨th,h2,h3⟩)
   rw[OS.mp h2]at h3;exact .inr h3
  have hs:(bX MD (Sum.inl (i:Int):Key)).isSome=true:=OU λz=>h1 (by rw[RP]at z;rw[z];rfl);rw[E4 i JQ]at hs;have HJ:¬(bB (ar ms) (ar os) i/\bq (ar ms) (ar os) i):=λz=>nx.mp z hs;refine⟨_,_,_,_,MD,rfl,s4,tL,by omega,?_,λj hj=>?_⟩
  .rw[Th.ij,Uk HJ,Pj];exact yo
  rw[Th.ij,Uk HJ,Pj];exact E4 j hj
 rintro σ H4 ⟨v4,v5,v6,v7,MD,rfl,s4,tL,aaR,yo,E4⟩;have MF:((nV ms).length:Int).toNat=2*n:=by rw[Bc];omega
 rw[MF]at yo;have yo:aI.nI H4 l (Th.pU (2*n) (ar ms) (ar os)):=yo;obtain⟨zs,⟨us,u1,u2,u3⟩,z2,z3⟩:=id yo;have hzl:zs.length<=62:=by
  have z:=rq T;rw[<-z3,OH]at z;omega
 have zc:∀x∈zs,∃u,u<2*n/\bU (ar ms) (ar os) u x.2.2:=λx hx=>Th.lG T (th:=aI.en x) (by rw[<-z3];exact OO.mpr ⟨x,hx,rfl⟩);refine⟨_,rfl,l,us.map V.ref,zs.map (λx=>((mn x.2.2:Nat):Int)),rfl,aZ.of u1,by rw[OH,OH,u2],by rw[OH,u2];omega,λi v kk hv hkk Q' hQ'=>?_,λl' ps hp hpw Kx=>?_⟩
 .have hi:i<us.length:=by have z:=(OI.mp hv).1;rw[OH]at z;exact z
  have AA:i<zs.length:=by rw[<-u2];exact hi
  rw[OR,OG hi]at hv;rw[OR,OG AA]at hkk;obtain rfl:=Option.some.inj hv;obtain rfl:=Option.some.inj hkk;have hm:=Rp AA;obtain⟨u,hul,C⟩:=zc _ hm;have pos:0<(zs[i]).2.2.length:=Rb ((C.mem u).mpr (Th.aB.refl u));exact⟨us[i],(zs[i]).2.1,(zs[i]).1,(zs[i]).2.2,rfl,u3 i _ _ (OG hi) (OG AA),z2 _ hm,pos,hQ'⟩
 have fa:aI.xE (λ(p:Int×V) (x:aI.Ent)=>p.1=((mn x.2.2:Nat):Int)/\∃t,p.2=.ref t/\H4 t=Yc (.tup (tf x))) ((zs.map (λx=>((mn x.2.2:Nat):Int))).zip (us.map V.ref)) zs:=by
  refine aI.xE.of (by rw[TF,OH,OH,u2,R5]) λi p x e1 e2=>?_;have AA:=(OI.mp e2).1;have hi:i<us.length:=by rw[u2];exact AA
  rw[List.getElem?_zip_eq_some]at e1;obtain⟨q1,q2⟩:=e1;rw[OR,e2]at q1;rw[OR,OG hi]at q2;exact⟨(Option.some.inj q1).symm,us[i],(Option.some.inj q2).symm,u3 i _ x (OG hi) e2⟩
 obtain⟨ws,hw1,hw2⟩:=fa.perm hp;have s5:aE H4 (upd H4 l' (.lst (ps.map (·.2)))):=ai Kx;have af8:=hw2.len;have MG:ps.map (·.1)=ws.map (λx=>((mn x.2.2:Nat):Int)):=by
  refine QY λi=>?_;rw[OR,OR];by_cases hi:i<ps.length
  .rw[OG hi,OG (by omega)];exact congrArg some (hw2.get i _ _ (OG hi) (OG (by omega))).1
  rw[PU (by omega),PU (by omega)]
  rfl
 have nd:(ws.map (λx=>mn x.2.2)).Nodup:=by
  have z:=Th.keys_nodup T;rw[<-z3,Pp]at z;exact((hw1.map (λx:aI.Ent=>mn x.2.2)).nodup_iff).mpr z
 have pw:(ws.map aI.en).Pairwise λp q=>mn p.2<mn q.2:=by
  rw[Px];have q1:(ws.map (λx=>((mn x.2.2:Nat):Int))).Pairwise (·<=·):=by rw[<-MG,Px];exact hpw
  rw[Px]at q1;rw[Pc,Px]at nd;exact(q1.and nd).imp λ⟨h1,h2⟩=>by show mn _<mn _;have:=h2;simp only[aI.en];omega
 refine kg l' _ (ws.map aI.en) (s4.trans s5) ⟨by rw[<-z3];exact hw1.map _,pw⟩ ?_ (s4.free Kx);have ch:∀i,i<ps.length->∃t,(ps.map (·.2))[i]?=Yc (.ref t)/\∀x,ws[i]?=Yc x->H4 t=Yc (.tup (tf x)):=λi hi=>by
  obtain⟨_,t,q1,q2⟩:=hw2.get i _ _ (OG hi) (OG (by omega));exact⟨t,by rw[OR,OG hi];exact congrArg some q1,λx hx=>by rw[OG (by omega)]at hx;rw[<-Option.some.inj hx];exact q2⟩
 obtain⟨vs',hv1,hv2⟩:=aI.AJ (ps.map (·.2)) λi hi=>let⟨t,q,_⟩:=ch i (by rw[OH]at hi;exact hi);⟨t,q⟩
 rw[OH]at hv2;refine⟨ws,⟨vs',by rw[ag,hv1],by omega,λi t x e1 e2=>?_⟩,λx hx=>s5 _ _ (z2 x (hw1.mem_iff.mp hx)),rfl⟩;have hi:i<ps.length:=by have z:=(OI.mp e1).1;omega
 obtain⟨t',q1,q2⟩:=ch i hi;rw[hv1,OR,e1]at q1;obtain rfl:t=t':=by have z:=Option.some.inj q1;injection z
 exact s5 _ _ (q2 x e2)
theorem qd{f f1 C:Um}{fd iA:Uz}(B:Bl mg)(F:Fn K mg "thread_score" eP ["one","other"] f fd)(G:Fn K mg "threads" fc ["one","other"] f1 iA)(J:aO P w K mg base (gf P w) 4 f1 iA ["one","other"] (fK K C)) :
  aO P w K mg base (gf P w) 5 f fd ["one","other"] (aI.xV K C):=by
 refine F.fn.oE j9 (λvs H Q E h=>?_) (λji A outer s H vs Q E hr h own=>?_)
 .obtain⟨a,b,n,m,ms,os,rfl,_⟩:=h
  rfl
 obtain⟨a,b,n,m,ms,os,rfl,Ha,hS,W,hO,hm,kg,kb⟩:=h;refine⟨_,(ah (jK (ix:=2) (NC:=["kind","ends"]) j9.nd rfl (Or.inl rfl) rfl (ie rfl (by decide +kernel) (by decide +kernel)) (bp (hH J G (hr.mono (by decide)) (ae (pv 0) (ae (pv 1) af)))) (λ_ _ _ _=>(jI (K:=K) (n:=2) rfl rfl (aX (aK (i:=0) (show(["kind","ends"]:List UI).Nodup by decide +kernel) rfl (Or.inl rfl)) (aX (aK (i:=1) (show(["kind","ends"]:List UI).Nodup by decide +kernel) rfl (Or.inl rfl)) dO)))) (λ_ _ _ _=>fA) (λ_ _ _ _=>(pv 0)))
  (aA (aU (aT eG (aT fo ao (d5 O7 Si Sj xG (pv 2) (ae d9 af))) (d5 O7 Si Sj xG (pv 2) (ae d9 af)))))),?_⟩
 refine⟨_,rfl,_,rfl,a,b,n,m,ms,os,rfl,Ha,hS,W,hO,hm,λwc=>?_,λjj=>kb jj⟩;obtain⟨WO,kg⟩:=kg wc;refine⟨WO,λl H1 O s1 hI hT hl=>?_⟩;have Kt:=W.small;have hlen:O.length<=80:=by rw[hI.1.length_eq];have:=rq (bJ W WO);omega
 obtain⟨xs,⟨ts,t1,t2,t3⟩,x2,x3⟩:=id hT;have E3:xs.length<=80:=by rw[<-x3,OH]at hlen;exact hlen
 refine⟨l,rfl,⟨_,aZ.of t1⟩,λD hD=>b9 (K:=K) (a:=l) (xs:=ts.map V.ref) (λi σ Z=>∃v0 v1:Option V,σ=[v0,v1]/\aE H1 Z/\Z D=Yc (.lst (((xs.take i).map λx=>ks x.1).map V.str))) ⟨none,none,rfl,ai hD,ag⟩ (λi σ Z _ zq=>by obtain⟨_,_,_,s2,_⟩:=zq;exact aZ.of (s2 _ _ t1)) ?_ ?_⟩
 .rintro i y σ Z hy ⟨v0,v1,rfl,s2,U⟩;have hi:i<ts.length:=by have z:=(OI.mp hy).1;rw[OH]at z;exact z
  rw[OR,OG hi]at hy;obtain rfl:=Option.some.inj hy;have AA:i<xs.length:=by rw[<-t2];exact hi
  have ex:=OG AA;generalize xs[i]=x at ex;have JZ:=t3 i _ x (OG hi) ex;refine⟨_,_,rfl,br.of (s2 _ _ JZ),rfl,_,_,rfl,_,_,rfl,rfl,?_⟩;refine⟨_,rfl,_,U,aY (by rw[OH,OH,Pu];omega),_,_,rfl,s2.upd hD,?_⟩;rw[ag,aI.take_snoc ex,O5,O5]
  rfl
 rintro σ Z ⟨v0,v1,rfl,s2,U⟩;rw[OH,t2,Pd]at U;have ek:(xs.map λx=>ks x.1)=O.map λth=>ks th.1:=by rw[<-x3,Pp];rfl
 rw[ek]at U;refine⟨_,rfl,.inl ⟨rfl,_,aZ.of U⟩,D,_,_,rfl,rfl,U,?_⟩;refine⟨_,_,rfl,rfl,.inl ⟨by decide,by decide⟩,?_⟩;refine⟨_,rfl,.inl ⟨rfl,_,aZ.of U⟩,D,_,_,rfl,rfl,U,_,_,rfl,rfl,?_⟩;have e:=hI.counts W WO;have e2:(2:Int)*(((O.map λth=>ks th.1).countP (· == ks .ring):Nat):Int)+(((O.map λth=>ks th.1).countP (· == ks .odd):Nat):Int)=((Th.score (ar ms) (ar os) (2*n):Nat):Int):=by omega
 have z:=kg Z (s1.trans s2);rw[<-e2]at z;exact z
theorem yq{f f1 f2 C:Um}{fd U V:Uz}(B:Bl mg)(F:Fn K mg "apart_by" iW ["one","other"] f fd)(D:Fn K mg "staves_in" gU ["work"] f1 U)(G:Fn K mg "thread_score" eP ["one","other"] f2 V)(J:aO P w K mg base (gf P w) 5 f2 V ["one","other"] (aI.xV K C)) :
  aO P w K mg base (gf P w) 6 f fd ["one","other"] (aI.xW K C):=by
 have O:aO P w K mg base du 1 f1 U ["work"] (aI.xo K):=vZ B D;refine F.fn.oE yl (λvs H Q E h=>?_) (λji A outer s H vs Q E hr h own=>?_)
 .obtain⟨a,b,n,m,ms,os,rfl,_⟩:=h
  rfl
 obtain⟨a,b,n,m,ms,os,rfl,Z,hS,W,hO,hm,kg,kb⟩:=h;refine⟨_,(aA (aU (aT kE (bo O D (hr.mono (by decide)) (ae (pv 0) af)) (aT dP (hH J G (hr.mono (by decide)) (ae (pv 0) (ae (pv 1) af))) ao)))),?_⟩;refine⟨_,rfl,a,n,ms,rfl,hS,W,?_⟩;refine⟨_,rfl,_,rfl,a,b,n,m,ms,os,rfl,Z,hS,W,hO,hm,λwc=>?_,λjj=>kb jj⟩;obtain⟨WO,kg⟩:=kg wc;refine⟨WO,λH1 s1=>?_⟩;have hle:=Th.jo (bJ W WO);refine⟨_,_,rfl,rfl,⟨by decide,by decide⟩,_,_,rfl,rfl,?_⟩;have e:(n:Int)-((Th.score (ar ms) (ar os) (2*n):Nat):Int)/2=(aC n ms os:Nat):=by unfold aC;omega
 dsimp only;rw[e];exact kg H1 s1
end
section
seal L2.mV L2.PS L2.PE L2.PT
variable {P:Ux}{w:UA}{K:OM}{mg:UI->Option Uj}{base:UH}
theorem kh{f:Um}{D:Uz}(B:Bl mg)(F:Fn K mg "ordered_pair" cW ["end","mate"] f D):aO P w K mg base du 1 f D ["end","mate"] vA:=by
 refine F.fn.ok pY (λJ H Q E h=>?_) (λO A outer s H J Q E U h=>?_)
 .obtain⟨x,y,rfl,_⟩:=h
  rfl
 obtain⟨x,y,rfl,k⟩:=h;refine⟨_,(aA (aU (bC (ae (aL (Bo rfl) rfl B.min vc (ae (pv 0) (ae (pv 1) af))) (ae (aL (tU rfl) rfl B.max yX (ae (pv 0) (ae (pv 1) af))) af))))),?_⟩;refine⟨_,rfl,_,rfl,_,_,rfl,_,rfl,_,rfl,_,_,rfl,(by show 2<=Uu;decide),λl G=>?_⟩;refine k l _ G (ai G) ?_;have e1:(if(y:Int)<(x:Int)then(y:Int)else(x:Int))=((min x y:Nat):Int):=by split <;> omega
 have e2:(if(y:Int)>(x:Int)then(y:Int)else(x:Int))=((max x y:Nat):Int):=by split <;> omega
 rw[ag,e1,e2]
 rfl
theorem zY{f:Um}{fd:Uz}(B:Bl mg)(F:Fn K mg "ends_in" jy ["laid","kind"] f fd):aO P w K mg base du 1 f fd ["laid","kind"] aI.xT:=by
 refine F.fn.ok jU (λvs H Q E h=>?_) (λji A outer s H vs Q E hr h=>?_)
 .obtain⟨l,J,G,rfl,_⟩:=h
  rfl
 obtain⟨l,J,G,rfl,hT,hlen,k⟩:=h;refine⟨_,(ah (aJ (i:=2) jU.nd rfl (Or.inl rfl) (bP af))
  (ah (b6 PassesOwn.never rfl (bp (pv 0)) (jF rfl (aX (aK (i:=3) jU.nd rfl (Or.inl rfl)) (aX (aK (i:=4) jU.nd rfl (Or.inl rfl)) dO))) (aA (bS (aM fj (pv 3) (pv 1) (aQ _)) (aA (bh (d5 O7 PN PQ y0 (pv 2) (ae (pv 4) af)))) bg)))
  (aA (aU (pv 2))))),?_⟩
 obtain⟨ts,t1,t2,t3⟩:=hT.at;have fle:∀i,(aV (G.take i) J).length<=100:=λi=>by
  refine PD ?_ hlen;unfold aV;have g:∀(l:List (Th.Kd×List Nat)),((l.filter λth=>th.1=J).flatMap (·.2)).length<=(l.map (·.2)).flatten.length:=λl=>by
   induction l with
   |nil=>exact ON _
   |cons th r ih =>
    rw[RO]
    split
    .rw[QI,Po,Te,OQ,OQ];omega
    rw[Po,Te,OQ];omega
  refine PD (g _) ?_;have e:G=G.take i++G.drop i:=(RJ i G).symm;have e2:(G.map (·.2)).flatten.length=((G.take i).map (·.2)).flatten.length+((G.drop i).map (·.2)).flatten.length:=by
   rw[<-OQ,<-List.flatten_append,<-O5,<-e]
  omega
 refine⟨(by show 0<=Uu;decide),λD hD=>?_⟩;refine⟨_,rfl,l,rfl,⟨_,aZ.of ((ai hD) _ _ t1)⟩,cy (K:=K) (a:=l) (xs:=ts.map V.ref) (λi σ U=>∃v3 v4:Option V,σ=[Yc (.ref l),Yc (.str (ks J)),Yc (.ref D),v3,v4]/\aE H U/\U D=Yc (.lst (nV (aV (G.take i) J)))) ⟨none,none,rfl,ai hD,ag⟩ (λi σ U _ zq=>by obtain⟨_,_,_,O,_⟩:=zq;exact aZ.of (O _ _ t1)) ?_ ?_⟩
 .rintro i y σ U hy ⟨v3,v4,rfl,O,Z⟩;have hi:i<ts.length:=by have z:=(OI.mp hy).1;rw[OH]at z;exact z
  obtain⟨th,Ca⟩:∃th,G[i]?=Yc th:=⟨_,OG (by omega)⟩
  obtain⟨tt,te,e1,e2,e3⟩:=t3 i th Ca;rw[OR,e1]at hy;obtain rfl:=Option.some.inj hy;refine⟨_,_,rfl,br.of (O _ _ e2),rfl,_,_,rfl,_,_,rfl,rfl,?_⟩;have es:aV (G.take (i+1)) J=aV (G.take i) J++(if th.1=J then th.2 else[]):=by
   unfold aV;rw[aI.take_snoc Ca,Pa,Q3];congr 1;by_cases c:th.1=J
   .rw[Uo c,Pe (by simpa using c)];simp
   rw[Uk c,Pf (by simpa using c)];rfl
  refine⟨_,rfl,_,rfl,rfl,_,rfl,?_⟩;refine ft (λh=>?_) (λh=>?_)
  .have hk:th.1=J:=aI.oM _ _ (by have z:=Uw h;injection z);rw[Uo hk]at es;have b1:=fle (i+1);rw[es,OQ]at b1;refine⟨_,rfl,.inl ⟨rfl,_,aZ.of Z⟩,_,rfl,D,te,_,nV th.2,rfl,rfl,Z,.inr (O _ _ e3),?_,Yc (.str (ks th.1)),Yc (.ref te),rfl,O.upd hD,?_⟩
   .rw[aS,aS];have:1000<=sizeLine:=by decide
    omega
   rw[ag,es,aI.BI]
  have hk:¬th.1=J:=λz=>h (Ul (by rw[z]));rw[Uk hk,Pj]at es;exact⟨Yc (.str (ks th.1)),Yc (.ref te),rfl,O,by rw[es];exact Z⟩
 rintro σ U ⟨v3,v4,rfl,O,Z⟩;rw[OH,t2,Pd]at Z;exact⟨_,rfl,k D U hD O Z⟩
theorem mO{f f1:Um}{fd Z:Uz}(B:Bl mg)(F:Fn K mg "splitting_pairs" dj ["ends"] f fd)(G:Fn K mg "ordered_pair" cW ["end","mate"] f1 Z):aO P w K mg base du 2 f fd ["ends"] aI.AR:=by
 have J:aO P w K mg base du 1 f1 Z ["end","mate"] vA:=kh B G;refine F.fn.ok dW (λvs H Q E h=>?_) (λji A outer s H vs Q E hr h=>?_)
 .obtain⟨e,L,rfl,_⟩:=h
  rfl
 obtain⟨e,L,rfl,he,hlen,k⟩:=h;refine⟨_,(ah (aJ (i:=1) dW.nd rfl (Or.inl rfl) (bP af))
  (ah (b6 PassesOwn.never rfl (xg rfl B.enumerate (ae (pv 0) af)) (jF rfl (aX (aK (i:=2) dW.nd rfl (Or.inl rfl)) (aX (aK (i:=3) dW.nd rfl (Or.inr rfl)) dO))) (aA (bh (d5 O7 PN PQ eV (pv 1) (ae (eW (NC:=["behind","end"]) rfl (jJ (c:=s.heap.objs.size+1) (j:=3) rfl (by decide +kernel) (by decide +kernel) rfl rfl rfl rfl rfl) (yJ (DL (pv 0) (aT eG (pv 2) ao) ao)) (λ_ _ _ _=>(aK (i:=0) (show(["behind","end"]:List UI).Nodup by decide +kernel) rfl (Or.inl rfl))) (λ_ _ _ _=>fA) (λ_ _ _ _=>(bo J G (hr.mono (by decide)) (ae (pv 1) (ae (pv 0) af))))) af)))))
  (aA (aU (pv 1))))),?_⟩
 refine⟨(by show 0<=Uu;decide),λD hD=>?_⟩;have s0:aE H (upd H D (.lst [])):=ai hD;refine⟨_,rfl,e,rfl,⟨_,br.of (s0 _ _ he)⟩,Dl (K:=K) (a:=e) (xs:=nV L) (λi σ O=>∃v2 v3:Option V,σ=[Yc (.ref e),Yc (.ref D),v2,v3]/\aE H O/\aI.fq pf O D (Th.iy L i)) ⟨none,none,rfl,s0,aI.fq.nil ag⟩ (λi σ O _ ⟨_,_,_,U,_⟩=>br.of (U _ _ he)) ?_ ?_⟩
 .rintro i x t σ O hx ⟨v2,v3,rfl,U,h2⟩ ht;obtain⟨u,hu,rfl⟩:=cX hx;have hil:=(OI.mp hu).1;have st:aE O (upd O t (.tup [.int (i:Nat),.int (u:Nat)])):=ai ht;have e3:upd O t (.tup [.int (i:Nat),.int (u:Nat)]) t=Yc (.tup [.int (i:Nat),.int (u:Nat)]):=ag;generalize upd O t (.tup [.int (i:Nat),.int (u:Nat)])=H3 at st e3;have h3:=h2.same st;obtain⟨Kv,w0,_⟩:=h3.len;refine⟨t,_,rfl,br.of e3,rfl,_,_,rfl,_,_,rfl,rfl,?_⟩;refine⟨_,rfl,.inl ⟨rfl,_,aZ.of w0⟩,?_⟩;have he3:=st _ _ (U _ _ he);refine⟨_,rfl,_,rfl,_,_,rfl,rfl,e,_,_,rfl,rfl,rfl,br.of he3,(by omega),λp hp=>?_⟩;have ep:jk ((nV L).drop ((i:Int)+1).toNat)=nV (jk (L.drop (i+1))):=by
   rw[show((i:Int)+1).toNat=i+1 by omega];unfold nV;rw[<-TV,AN]
  rw[ep];have s4:aE H3 (upd H3 p (.tup (nV (jk (L.drop (i+1)))))):=ai hp;have e4:upd H3 p (.tup (nV (jk (L.drop (i+1))))) p=Yc (.tup (nV (jk (L.drop (i+1))))):=ag;have hml:(jk (L.drop (i+1))).length<=80:=by rw[lL,Q4];omega
  have es:=Th.vz hu;have bl:=Th.xQ L (i+1);have bl2:(i+1)*L.length<=80*80:=SR (by omega) hlen;generalize jk (L.drop (i+1))=M at e4 s4 hml es;generalize upd H3 p (.tup (nV M))=H4 at s4 e4;refine⟨p,rfl,⟨_,br.of e4⟩,λD2 Cp=>xh (K:=K) (a:=p) (xs:=nV M) (λj σ H5=>∃v:Option V,σ=[v,Yc (.int (u:Nat))]/\aE H4 H5/\aI.fq pf H5 D2 ((M.take j).map (Th.ord u))) ⟨none,rfl,ai Cp,aI.fq.nil ag⟩ (λj σ H5 _ ⟨_,_,s5,_⟩=>br.of (s5 _ _ e4)) ?_ ?_⟩
  .rintro j y σ H5 hy ⟨v,rfl,s5,h5⟩;obtain⟨z,hz,rfl⟩:=cX hy;refine⟨_,rfl,_,rfl,u,z,rfl,λl H6 hl s6 NM=>?_⟩;obtain⟨ws,y1,y2,y3⟩:=(h5.same s6).snoc (t:=l) (x:=Th.ord u z) NM;refine⟨ws,y1,aY (by rw[y2,OH,Pu];omega),Yc (.int (z:Nat)),rfl,(s5.trans s6).upd Cp,?_⟩;rw[aI.take_snoc hz,O5];exact y3
  rintro σ H5 ⟨v,rfl,s5,h5⟩;rw[aS,Pd]at h5;have Fp:=s4.trans s5;obtain⟨as,bs,g1,g2,g3,g4,g5⟩:=(h3.same Fp).ext h5;refine⟨D,D2,as,bs,rfl,rfl,g1,g2,?_,Yc (.int (i:Nat)),Yc (.int (u:Nat)),rfl,(U.trans (st.trans Fp)).upd hD,?_⟩
  .rw[g3,g4,<-OQ,<-es];have:6400<=sizeLine:=by decide
   omega
  rw[es];exact g5
 rintro σ O ⟨v2,v3,rfl,U,h2⟩;rw[aS]at h2;exact⟨_,rfl,k D O hD U h2⟩
theorem nZ{f f1:Um}{fd iA:Uz}(B:Bl mg)(F:Fn K mg "crossing_pairs" dB ["bare","tied"] f fd)(G:Fn K mg "ordered_pair" cW ["end","mate"] f1 iA):aO P w K mg base du 2 f fd ["bare","tied"] aI.AS:=by
 have J:aO P w K mg base du 1 f1 iA ["end","mate"] vA:=kh B G;refine F.fn.ok gx (λvs H Q E h=>?_) (λji A outer s H vs Q E hr h=>?_)
 .obtain⟨a,b,O,S,rfl,_⟩:=h
  rfl
 obtain⟨a,b,O,S,rfl,ha,hb,hB,hS,k⟩:=h;refine⟨_,(ah (aJ (i:=2) gx.nd rfl (Or.inl rfl) (bP af))
  (ah (b6 PassesOwn.never rfl (bp (pv 0)) (aK (i:=3) gx.nd rfl (Or.inr rfl)) (aA (bh (d5 O7 PN PQ eV (pv 2) (ae (eW (NC:=["crossed","end"]) rfl (jJ (c:=s.heap.objs.size+1) (j:=3) rfl (by decide +kernel) (by decide +kernel) rfl rfl rfl rfl rfl) (bp (pv 1)) (λ_ _ _ _=>(aK (i:=0) (show(["crossed","end"]:List UI).Nodup by decide +kernel) rfl (Or.inl rfl))) (λ_ _ _ _=>fA) (λ_ _ _ _=>(bo J G (hr.mono (by decide)) (ae (pv 1) (ae (pv 0) af))))) af)))))
  (aA (aU (pv 2))))),?_⟩
 refine⟨(by show 0<=Uu;decide),λD hD=>?_⟩;have s0:aE H (upd H D (.lst [])):=ai hD;refine⟨_,rfl,a,rfl,⟨_,aZ.of (s0 _ _ ha)⟩,cy (K:=K) (a:=a) (xs:=nV O) (λi σ U=>∃v3:Option V,σ=[Yc (.ref a),Yc (.ref b),Yc (.ref D),v3]/\aE H U/\aI.fq pf U D (c7 (O.take i) S)) ⟨none,rfl,s0,aI.fq.nil ag⟩ (λi σ U _ zq=>by obtain⟨_,_,Z,_⟩:=zq;exact aZ.of (Z _ _ ha)) ?_ ?_⟩
 .rintro i x σ U hx ⟨v3,rfl,Z,h2⟩;obtain⟨u,hu,rfl⟩:=cX hx;obtain⟨Kv,w0,_⟩:=h2.len;have es:c7 (O.take (i+1)) S=c7 (O.take i) S++S.map (Th.ord u):=by rw[aI.take_snoc hu];exact Th.zi
  have bl:=Th.ui (O.take (i+1)) S;have bl2:(O.take (i+1)).length*S.length<=80*80:=SR (by rw[Pu];omega) hS;refine⟨_,rfl,.inl ⟨rfl,_,aZ.of w0⟩,?_⟩;have Ky:=Z _ _ hb;refine⟨_,rfl,b,rfl,⟨_,aZ.of Ky⟩,λD2 Cp=>b9 (K:=K) (a:=b) (xs:=nV S) (λj σ H5=>∃v:Option V,σ=[v,Yc (.int (u:Nat))]/\aE U H5/\aI.fq pf H5 D2 ((S.take j).map (Th.ord u))) ⟨none,rfl,ai Cp,aI.fq.nil ag⟩ (λj σ H5 _ zq=>by obtain⟨_,_,s5,_⟩:=zq;exact aZ.of (s5 _ _ Ky)) ?_ ?_⟩
  .rintro j y σ H5 hy ⟨v,rfl,s5,h5⟩;obtain⟨z,hz,rfl⟩:=cX hy;refine⟨_,rfl,_,rfl,u,z,rfl,λl H6 hl s6 NM=>?_⟩;obtain⟨ws,y1,y2,y3⟩:=(h5.same s6).snoc (t:=l) (x:=Th.ord u z) NM;refine⟨ws,y1,aY (by rw[y2,OH,Pu];omega),Yc (.int (z:Nat)),rfl,(s5.trans s6).upd Cp,?_⟩;rw[aI.take_snoc hz,O5];exact y3
  rintro σ H5 ⟨v,rfl,s5,h5⟩;rw[aS,Pd]at h5;obtain⟨as,bs,g1,g2,g3,g4,g5⟩:=(h2.same s5).ext h5;refine⟨D,D2,as,bs,rfl,rfl,g1,g2,?_,Yc (.int (u:Nat)),rfl,(Z.trans s5).upd hD,?_⟩
  .rw[g3,g4,<-OQ,<-es];have:6400<=sizeLine:=by decide
   omega
  rw[es];exact g5
 rintro σ U ⟨v3,rfl,Z,h2⟩;rw[aS,Pd]at h2;exact⟨_,rfl,k D U hD Z h2⟩
theorem tM{f f1:Um}{fd iA:Uz}(B:Bl mg)(F:Fn K mg "least_pair" gv ["work","deed"] f fd)(D:Fn K mg "freed_ends" dU ["work","deed"] f1 iA):aO P w K mg base du 2 f fd ["work","deed"] (aI.pF K):=by
 have G:aO P w K mg base du 1 f1 iA ["work","deed"] (nG K):=mj D;refine F.fn.ok jg (λvs H Q E h=>?_) (λji A outer s H vs Q E hr h=>?_)
 .obtain⟨a,d,n,p,q,ms,rfl,_⟩:=h
  rfl
 obtain⟨a,d,n,p,q,ms,rfl,hS,W,hD,hp,hq,k⟩:=h;have hu:=j7 hr;refine⟨_,(ah (aJ (i:=2) jg.nd rfl (Or.inl rfl) (bC (ae (cj ej (pv 1) ao (λ_ _=>rfl)) (ae (cj ej (pv 1) ao (λ_ _=>rfl)) af))))
  (ah (aJ (i:=3) jg.nd rfl (Or.inl rfl) (bo G D (hr.mono (by decide)) (ae (pv 0) (ae (pv 1) af))))
  (ah (bS (aM j5 (aL aH rfl B.len bD (ae (pv 3) af)) ao (aQ _)) (aA (aU (pv 2))) bg)
  (aA (aU (aL (zk rfl hu) rfl B.min vc (ae (pv 2) (ae (bC (ae (aL (zl rfl) rfl B.min vc (ae (pv 3) af)) (ae (aL (zm rfl) rfl B.max yX (ae (pv 3) af)) af))) af)))))))),?_⟩
 refine⟨_,rfl,d,_,_,_,rfl,rfl,hD,rfl,_,rfl,d,_,_,_,rfl,rfl,hD,rfl,(by show 2<=Uu;decide),λJ O=>?_⟩;have s1:aE H (upd H J (.tup [.int (p:Nat),.int (q:Nat)])):=ai O;have e1:upd H J (.tup [.int (p:Nat),.int (q:Nat)]) J=Yc (.tup [.int (p:Nat),.int (q:Nat)]):=ag;generalize upd H J (.tup [.int (p:Nat),.int (q:Nat)])=H1 at s1 e1;refine⟨_,rfl,_,rfl,a,d,n,ms,p,q,rfl,s1.tup hS,W,s1.tup hD,hp,hq,λfr H2 Cj s2 V=>?_⟩;have U:=s1.trans s2;have ec:=aI.oJ ms p q;refine⟨_,rfl,fr,_,rfl,.inl (aZ.of V),_,_,rfl,rfl,_,rfl,?_⟩;by_cases c:ar ms p≠p/\ar ms q≠q
 .rw[Uk c.1,Uk c.2]at ec;rw[ec]at V;have V:H2 fr=Yc (.lst [.int (ar ms p:Nat),.int (ar ms q:Nat)]):=V;refine cZ (Up (by rw[aS,ec];show¬((2:Nat):Int)<2;decide)) ?_;refine⟨_,rfl,_,rfl,fr,_,_,rfl,aZ.of V,_,rfl,fr,_,_,rfl,aZ.of V,(by show 2<=Uu;decide),λpp hpp=>?_⟩;have s3:=ai (o:=.tup [.int (min ((ar ms p:Nat):Int) (ar ms q:Nat)),.int (max ((ar ms p:Nat):Int) (ar ms q:Nat))]) hpp;have e3:upd H2 pp (.tup [.int (min ((ar ms p:Nat):Int) (ar ms q:Nat)),.int (max ((ar ms p:Nat):Int) (ar ms q:Nat))]) pp=Yc (.tup (pf (bQ ms p q))):=by
   rw[ag];unfold pf bQ;simp only;rw[show min ((ar ms p:Nat):Int) (ar ms q:Nat)=((min (ar ms p) (ar ms q):Nat):Int) by omega,show max ((ar ms p:Nat):Int) (ar ms q:Nat)=((max (ar ms p) (ar ms q):Nat):Int) by omega]
  generalize upd H2 pp (.tup [.int (min ((ar ms p:Nat):Int) (ar ms q:Nat)),.int (max ((ar ms p:Nat):Int) (ar ms q:Nat))])=H3 at s3 e3;have qe:=U.trans s3;have e1':=s3 _ _ (s2 _ _ e1);refine⟨J,pp,_,_,_,_,rfl,br.of e1',br.of e3,?_⟩;have Z:eo ms p q=if((bQ ms p q).1:Int)<(p:Nat)\/((bQ ms p q).1:Int)=(p:Nat)/\((bQ ms p q).2:Int)<(q:Nat)then bQ ms p q else(p,q):=by
   unfold eo;rw[Uo c];by_cases d:(bQ ms p q).1<p\/((bQ ms p q).1=p/\(bQ ms p q).2<q)
   .rw[Uo d,Uo (by omega)]
   rw[Uk d,Uk (by omega)]
  by_cases d:((bQ ms p q).1:Int)<(p:Nat)\/((bQ ms p q).1:Int)=(p:Nat)/\((bQ ms p q).2:Int)<(q:Nat)
  .rw[Uo d]at Z⊢;exact k pp H3 (U.free hpp) qe (by rw[Z];exact e3)
  rw[Uk d]at Z⊢;exact k J H3 O qe (by rw[Z];exact e1')
 have Z:eo ms p q=(p,q):=by unfold eo;rw[Uk c]
 have hlen:(vo ms p q).length<2:=by
  rw[ec];by_cases c1:ar ms p=p
  .rw[Uo c1];split <;> simp
  rw[Uk c1];have c2:ar ms q=q:=OU λz=>c ⟨c1,z⟩;rw[Uo c2];simp
 refine dI (Ul (by rw[aS];omega)) ?_;exact⟨_,rfl,k J H2 O U (by rw[Z];exact s2 _ _ e1)⟩
end
section
variable {P:Ux}{w:UA}{K:OM}{mg:UI->Option Uj}{base:UH}
theorem wd{f fM fR fC C fF:Um}{fd U fdR fdC fdF:Uz}(B:Bl mg)(Z:vh K mg "BadDeed" C)(F:Fn K mg "reclasped" dM ["work","deed"] f fd)(FF:Fn K mg "fits_work" eN ["work","deed"] fF fdF)(FM:Fn K mg "refuse_misfit" d7 ["work","deed"] fM U)
  (FR:Fn K mg "freed_ends" dU ["work","deed"] fR fdR) (FC:Fn K mg "clasp_ends" gu ["mates","one","other"] fC fdC):aO P w K mg base (gf P w) 3 f fd ["work","deed"] (oK K C):=by
 have GM:aO P w K mg base (gf P w) 2 fM U ["work","deed"] (aI.xB K C):=o7 B Z FM FF;have GR:aO P w K mg base du 1 fR fdR ["work","deed"] (nG K):=mj FR;have GC:aO P w K mg base du 1 fC fdC ["mates","one","other"] nH:=tK FC;refine F.fn.oE jT (λvs H Q E h=>?_) (λji A outer s H vs Q E hr h own=>?_)
 .obtain⟨a,d,n,ms,p,q,rfl,_⟩:=h
  rfl
 obtain⟨a,d,n,ms,p,q,rfl,hS,W,hD,sp,sq,kg,kb⟩:=h;have J:eI 1 _:=hr.mono (by decide);refine⟨_,ah (bh (hH GM FM hr (ae (pv 0) (ae (pv 1) af))))
  (ah (aJ (i:=2) jT.nd rfl (Or.inl rfl) (b7 uX rfl B.list u7 (ae (pv 0) af)))
  (ah (aJ (i:=3) jT.nd rfl (Or.inl rfl) (bo GR FR J (ae (pv 0) (ae (pv 1) af))))
  (ah (bS (aM i6 (aL aH rfl B.len bD (ae (pv 3) af)) ao (aQ _)) (aA (bh (bo GC FC J (ae (pv 2) (ae (cj eD (pv 3) ao (λ_ _=>rfl)) (ae (cj eD (pv 3) (Ab uQ ao) (λ_ _=>rfl)) af)))))) bg)
  (ah (bh (bo GC FC J (ae (pv 2) (ae (cj ej (pv 1) ao (λ_ _=>rfl)) (ae (cj ej (pv 1) ao (λ_ _=>rfl)) af)))))
  (aA (aU (b7 md rfl B.tuple eK (ae (pv 2) af)))))))),?_⟩
 refine⟨_,rfl,_,rfl,a,d,n,ms,p,q,rfl,hS,W,hD,sp,sq,λhf=>?_,kb⟩;obtain⟨x,y,rfl,rfl,LW,hy,jj⟩:=hf.nat;have k:=kg hf;rw[Pq,Pq]at k;have hx:x<2*n:=by omega
 refine⟨_,rfl,a,_,rfl,.inr hS,λl hl=>?_⟩;have s1:aE H (upd H l (.lst (nV ms))):=ai hl;refine⟨_,rfl,_,rfl,a,d,n,ms,x,y,rfl,s1.tup hS,W,br.of (s1 _ _ hD),hx,hy,λlf H2 hlf s2 h2=>?_⟩;have uY:=s2 _ _ (show upd H l (.lst (nV ms)) l=Yc (.lst (nV ms))from ag);have nll:l≠lf:=aW ag hlf;have we:=s1.trans s2;have fin:∀(O:Hp) (m1:List Nat),aE H O->O l=Yc (.lst (nV m1))->m1.length=2*n->hZ m1 x y=bM ms x y ->
   ((FD (Hi (tW nH [] E0 (tV (CC 2) (tV (Ki (FZ K) (CC 1) (tC (.int 0))) (tV (Ki (FZ K) (CC 1) (tC (.int 1))) FK))))) (KZ (λσ H Q=>∃v,σ[2]?=Yc (Yc v)/\∃p ys,[v]=[V.ref p]/\((aZ K H p ys/\∀l,H l=none->Q (.ref l) (upd H l (.tup ys)))\/(br K H p ys/\Q (.ref p) H)))))
    { nx:=λ_ H'=>Q .g9 H',rt:=Q } [Yc (.ref a),Yc (.ref d),Yc (.ref l),Yc (.ref lf)] O):=λO m1 s3 h3 hlen Gm=>by
  refine⟨_,rfl,_,rfl,d,_,_,_,rfl,rfl,br.of (s3 _ _ hD),rfl,_,rfl,d,_,_,_,rfl,rfl,br.of (s3 _ _ hD),rfl,l,m1,x,y,rfl,h3,by omega,by omega,λH4 h4 o4=>?_⟩;rw[Gm]at h4;refine⟨_,rfl,l,_,rfl,.inl ⟨aZ.of h4,λr Kz=>?_⟩⟩;have s4:aE H H4:=λb o e=>by
   rw[o4 b (aW e hl)];exact s3 b o e
  exact k r _ (s4.free Kz) (s4.upd (s4.free Kz)) ag
 have D:=aI.y9 W hx hy jj;have hfl:=aI.Gu ms x y;unfold aI.nF at D;refine⟨_,rfl,lf,_,rfl,.inl (aZ.of h2),_,_,rfl,rfl,_,rfl,?_⟩;rw[aS];refine ft (λG=>?_) (λG=>?_)
 .have G:0<(vo ms x y).length:=by have z:=Uw G;omega
  simp only[G,VW]at D;have mem:∀e∈vo ms x y,e<2*n:=λe he=>by
   have lx:=W.wk.lt x hx;have ly:=W.wk.lt y hy;rw[aI.oJ]at he
   split at he <;> split at he <;> simp at he <;> omega
  have hg:∀i,i<(vo ms x y).length->(vo ms x y).getD i 0<2*n:=λi hi=>mem _ (OP (iu hi));have a0:uU (nV (vo ms x y)) 0=Yc (.int ((vo ms x y).getD 0 0:Nat)):=ic (j:=0) (vk (iu G));have a1:uU (nV (vo ms x y)) (-1)=Yc (.int ((vo ms x y).getD ((vo ms x y).length-1) 0:Nat)):=js (by rw[R8];exact iu (by omega));refine⟨_,rfl,_,rfl,lf,_,_,_,rfl,rfl,aZ.of h2,a0,_,rfl,_,rfl,lf,_,_,_,rfl,rfl,aZ.of h2,a1,l,ms,_,_,rfl,uY,by have:=hg 0 G;rw[W.len];exact this,by have:=hg ((vo ms x y).length-1) (by omega);rw[W.len];exact this,λO h3 o3=>?_⟩;refine fin O _ (λb o e=>?_) h3 (by rw[aI.oI,W.len]) D;rw[o3 b (aW e hl)];exact we b o e
 have G:¬ 0<(vo ms x y).length:=λz=>G (Ul (by omega));simp only[G,U1]at D;exact fin H2 ms we uY W.len D
end
section
seal L2.mV L2.PS L2.PE L2.PT
variable {P:Ux}{w:UA}{K:OM}{mg:UI->Option Uj}{base:UH}
theorem n0{f f1 f2 f3 f4 f5 f6 f7 f8 C:Um}{fd iA jB mT zX B9 E2 Cb Cq:Uz}(B:Bl mg)(F:Fn K mg "nearer_deeds" cD ["one","other"] f fd)(cg:Fn K mg "threads" fc ["one","other"] f1 iA)(cH:aO P w K mg base (gf P w) 4 f1 iA ["one","other"] (fK K C))(jC:Fn K mg "ends_in" jy ["laid","kind"] f2 jB)(O:Fn K mg "crossing_pairs" dB ["bare","tied"] f3 mT)(J:Fn K mg "splitting_pairs" dj ["ends"] f4 zX)(U:Fn K mg "ordered_pair" cW ["end","mate"] f5 B9)(g8:Fn K mg "fits_work" eN ["work","deed"] f6 E2)(Z:Fn K mg "least_pair" gv ["work","deed"] f7 Cb)(iB:Fn K mg "freed_ends" dU ["work","deed"] f8 Cq) :
  aO P w K mg base (gf P w) 5 f fd ["one","other"] (iG K C):=by
 have uK:aO P w K mg base du 1 f2 jB ["laid","kind"] aI.xT:=zY B jC;have o8:aO P w K mg base du 2 f3 mT ["bare","tied"] aI.AS:=nZ B O U;have og:aO P w K mg base du 2 f4 zX ["ends"] aI.AR:=mO B J U;have yr:aO P w K mg base du 1 f6 E2 ["work","deed"] (vp K):=nY B g8;have wg:aO P w K mg base du 2 f7 Cb ["work","deed"] (aI.pF K):=tM B Z iB;refine F.fn.oE cK (λvs H Q E h=>?_) (λji A outer s H vs Q E hr h own=>?_)
 .obtain⟨a,b,n,m,ms,os,rfl,_⟩:=h
  rfl
 obtain⟨a,b,n,m,ms,os,rfl,Ha,hS,W,hO,hm,kg,kb⟩:=h;have op:=iN (E:=E) own;have hu:=j7 hr;refine⟨_,(ah (aJ (i:=2) cK.nd rfl (Or.inl rfl) (hH cH cg (hr.mono (by decide)) (ae (pv 0) (ae (pv 1) af))))
  (ah (aJ (i:=3) cK.nd rfl (Or.inl rfl) (bo uK jC (hr.mono (by decide)) (ae (pv 2) (ae d9 af))))
  (ah (aJ (i:=4) cK.nd rfl (Or.inl rfl) (bo uK jC (hr.mono (by decide)) (ae (pv 2) (ae d9 af))))
  (ah (aJ (i:=5) cK.nd rfl (Or.inl rfl) (bo o8 O (hr.mono (by decide)) (ae (pv 3) (ae (pv 4) af))))
  (ah (b6 op rfl (bp (pv 2)) (jF rfl (aX (aK (i:=6) cK.nd rfl (Or.inl rfl)) (aX (aK (i:=7) cK.nd rfl (Or.inl rfl)) dO))) (aA (bh (d5 O7 PN PQ eV (pv 5) (ae (bo og J (hr.mono (by decide)) (ae (pv 7) af)) af)))))
  (ah (bh (d5 O7 PN PQ eV (pv 5) (ae (eW (NC:=["end"]) rfl (ie rfl (by decide +kernel) (by decide +kernel)) (bp (pv 4)) (λ_ _ _ _=>(aK (i:=0) (show(["end"]:List UI).Nodup by decide +kernel) rfl (Or.inl rfl))) (λ_ _ _ _=>fA) (λ_ _ _ _=>(bC (ae (pv 0) (ae (pv 0) af))))) af)))
  (aA (aU (aL (kX false) rfl B.sorted lD (ae (eW (NC:=["pair","one"]) rfl (jJ (c:=s.heap.objs.size+1) (j:=0) rfl (by decide +kernel) (by decide +kernel) rfl rfl rfl rfl rfl) (bp (pv 5)) (λ_ _ _ _=>(aK (i:=0) (show(["pair","one"]:List UI).Nodup by decide +kernel) rfl (Or.inl rfl))) (λ_ _ _ _=>(i7 (PW.pt (jE (iI (bo yr g8 (hr.mono (by decide)) (ae (pv 1) (ae (pv 0) af)))) (i5 (aM (pE (K:=K) rfl (Q0 hu)) (bo wg Z (hr.mono (by decide)) (ae (pv 1) (ae (pv 0) af))) (pv 0) (aQ _))))))) (λ_ _ _ _=>(pv 0))) af)))))))))),?_⟩
 refine⟨_,rfl,_,rfl,a,b,n,m,ms,os,rfl,Ha,hS,W,hO,hm,λwc=>?_,λjj=>kb jj⟩;obtain⟨WO,MH,kg⟩:=kg wc;refine⟨WO,λl H1 D s1 hI hT hl=>?_⟩;have AT:Th.fJ (2*n) (ar ms) (ar os) D:=⟨bJ W WO,hI.1,hI.2⟩
 have fl:=(hI.flat W WO).length_eq;rw[OW]at fl;have el:∀kk,(aV D kk).length<=80:=λkk=>by
  have z:=Th.sub_len (AT.lM kk) (m:=OV (2*n)) λx hx=>by
   obtain⟨th,t1,t2,t3⟩:=Th.bj.mp hx;exact OX.mpr (AT.lt t1 t3)
  rw[OW]at z;omega
 have pl:=(MH D hI).1;refine⟨_,rfl,l,.bare,D,rfl,hT,by omega,λD1 H2 hD1 s2 h2=>?_⟩;refine⟨_,rfl,l,.tied,D,rfl,hT.same s2,by omega,λD2 H3 Cp s3 h3=>?_⟩;have h2:=s3 _ _ h2;have Mx:=s2.trans s3;have qe:=s1.trans Mx;refine⟨_,rfl,_,rfl,D1,D2,_,_,rfl,h2,h3,el _,el _,λPP H4 hPP s4 h4=>?_⟩;obtain⟨ts,t1,t2,t3⟩:=(hT.same Mx).at;have pre:∀i,(c7 (aV D .bare) (aV D .tied)++(D.take i).flatMap λth=>bZ th.2).length<=900:=λi=>by
  have e:D.flatMap (λth=>bZ th.2)=(D.take i).flatMap (λth=>bZ th.2)++(D.drop i).flatMap (λth=>bZ th.2):=by rw[<-Q3,RJ]
  have e2:=congrArg Sf e;unfold cU at pl;rw[OQ,OQ]at pl;rw[OQ]at e2⊢;omega
 refine⟨_,rfl,l,rfl,⟨_,aZ.of (s4 _ _ t1)⟩,cy (K:=K) (a:=l) (xs:=ts.map V.ref) (λi σ H5=>∃v6 v7:Option V,σ=[Yc (.ref a),Yc (.ref b),Yc (.ref l),Yc (.ref D1),Yc (.ref D2),Yc (.ref PP),v6,v7]/\aE H3 H5/\aI.fq pf H5 PP (c7 (aV D .bare) (aV D .tied)++(D.take i).flatMap λth=>bZ th.2))
  ⟨none,none,rfl,s4,by rw[List.take_zero,RM,Pj];exact h4⟩ (λi σ H5 _ zq=>by obtain⟨_,_,_,s5,_⟩:=zq;exact aZ.of (s5 _ _ t1)) ?_ ?_⟩
 .rintro i y σ H5 hy ⟨v6,v7,rfl,s5,h5⟩;have hi:i<ts.length:=by have z:=(OI.mp hy).1;rw[OH]at z;exact z
  obtain⟨th,Ca⟩:∃th,D[i]?=Yc th:=⟨_,OG (by omega)⟩
  obtain⟨tt,te,e1,e2,e3⟩:=t3 i th Ca;rw[OR,e1]at hy;obtain rfl:=Option.some.inj hy;obtain⟨Kv,w0,_⟩:=h5.len;have G:=hI.good W WO (OP Ca);have thl:th.2.length<=80:=by
   have z:=Th.sub_len G.nd (m:=OV (2*n)) λx hx=>OX.mpr (G.lt x hx);rw[OW]at z;omega
  refine⟨_,_,rfl,br.of (s5 _ _ e2),rfl,_,_,rfl,_,_,rfl,rfl,?_⟩;refine⟨_,rfl,.inl ⟨rfl,_,aZ.of w0⟩,_,rfl,te,th.2,rfl,s5 _ _ e3,thl,λD3 H6 hD3 s6 h6=>?_⟩;obtain⟨as,bs,g1,g2,g3,g4,g5⟩:=(h5.same s6).ext h6;have es:c7 (aV D .bare) (aV D .tied)++(D.take (i+1)).flatMap (λth=>bZ th.2)=(c7 (aV D .bare) (aV D .tied)++(D.take i).flatMap λth=>bZ th.2)++bZ th.2:=by
   rw[aI.take_snoc Ca,Q3,PM,QI,RM,Pj]
  refine⟨PP,D3,as,bs,rfl,rfl,g1,g2,?_,Yc (.str (ks th.1)),Yc (.ref te),rfl,(s5.trans s6).upd hPP,?_⟩
  .have z:=pre (i+1);rw[es,OQ]at z;rw[g3,g4];have:1000<=sizeLine:=by decide
   omega
  rw[es];exact g5
 rintro σ H5 ⟨v6,v7,rfl,s5,h5⟩;rw[OH,t2,Pd]at h5;obtain⟨Kv,w0,_⟩:=h5.len;have h35:=s5 _ _ h3;refine⟨_,rfl,.inl ⟨rfl,_,aZ.of w0⟩,_,rfl,D2,rfl,⟨_,aZ.of h35⟩,λD4 hD4=>b9 (K:=K) (a:=D2) (xs:=nV (aV D .tied)) (λj σ H6=>∃v:Option V,σ=[v]/\aE H5 H6/\aI.fq pf H6 D4 (((aV D .tied).take j).map λe=>(e,e))) ⟨none,rfl,ai hD4,aI.fq.nil ag⟩ (λj σ H6 _ zq=>by obtain⟨_,_,s6,_⟩:=zq;exact aZ.of (s6 _ _ h35)) ?_ ?_⟩
 .rintro j y σ H6 hy ⟨v,rfl,s6,h6⟩;obtain⟨z,hz,rfl⟩:=cX hy;refine⟨_,rfl,_,rfl,(by show 2<=Uu;decide),λtp p0=>?_⟩;have s7:aE H6 (upd H6 tp (.tup [.int (z:Nat),.int (z:Nat)])):=ai p0;obtain⟨ws,y1,y2,y3⟩:=(h6.same s7).snoc (t:=tp) (x:=(z,z)) ag;have ez:=el .tied;refine⟨ws,y1,aY (by rw[y2,OH,Pu];omega),Yc (.int (z:Nat)),rfl,(s6.trans s7).upd hD4,?_⟩;rw[aI.take_snoc hz,O5];exact y3
 rintro σ H6 ⟨v,rfl,s6,h6⟩;rw[aS,Pd]at h6;obtain⟨as,bs,g1,g2,g3,g4,g5⟩:=(h5.same s6).ext h6;have s36:=s5.trans s6;refine⟨PP,D4,as,bs,rfl,rfl,g1,g2,?_,?_⟩
 .unfold cU at pl;rw[OQ]at pl;rw[g3,g4];have:1000<=sizeLine:=by decide
  omega
 have s7:aE H3 (upd H6 PP (.lst (as++bs))):=s36.upd hPP;have h7:aI.fq pf (upd H6 PP (.lst (as++bs))) PP (cU D):=g5;generalize upd H6 PP (.lst (as++bs))=H7 at s7 h7;have s17:=qe.trans s7;obtain⟨ps,p1,p2,p3⟩:=h7;have hS7:=s17.tup hS;refine⟨_,rfl,PP,rfl,⟨_,aZ.of p1⟩,λD5 hD5=>b9 (K:=K) (a:=PP) (xs:=ps.map V.ref) (λj σ H8=>∃v:Option V,σ=[v,Yc (.ref a)]/\aE H7 H8/\aI.fq pf H8 D5 (((cU D).take j).filter (bA n ms))) ⟨none,rfl,ai hD5,aI.fq.nil ag⟩ (λj σ H8 _ zq=>by obtain⟨_,_,s8,_⟩:=zq;exact aZ.of (s8 _ _ p1)) ?_ ?_⟩
 .rintro j y σ H8 hy ⟨v,rfl,s8,h8⟩;have hj:j<ps.length:=by have z:=(OI.mp hy).1;rw[OH]at z;exact z
  obtain⟨c,hc⟩:∃c,(cU D)[j]?=Yc c:=⟨_,OG (by omega)⟩
  have e2:=p3 j _ c (OG hj) hc;rw[OR,OG hj]at hy;obtain rfl:=Option.some.inj hy;obtain⟨b1,b2⟩:=AT.bound (OP hc);have e8:=s8 _ _ e2;have hS8:=s8.tup hS7;have no:bA n ms c=false->((cU D).take (j+1)).filter (bA n ms)=((cU D).take j).filter (bA n ms):=λh=>by
   rw[aI.take_snoc hc,Pa,Pf (by rw[h];decide),Qo,Pj]
  refine⟨_,rfl,_,rfl,a,_,n,ms,(c.1:Nat),(c.2:Nat),rfl,hS8,W,br.of e8,?_⟩;refine⟨_,rfl,?_⟩;by_cases hf:aI.Fits n ms (c.1:Nat) (c.2:Nat)
  .refine dI (Ul hf) ?_;refine⟨_,rfl,_,rfl,a,_,n,c.1,c.2,ms,rfl,hS8,W,br.of e8,by omega,by omega,λlq H9 HC s9 hl9=>?_⟩;refine⟨_,rfl,lq,_,[((eo ms c.1 c.2).1:Int),((eo ms c.1 c.2).2:Int)],[(c.1:Int),(c.2:Int)],rfl,rfl,br.of hl9,br.of (s9 _ _ e8),_,rfl,?_⟩;by_cases hq:eo ms c.1 c.2=c
   .have ok:bA n ms c=true:=by unfold bA;rw[Ul hf,Ul hq];rfl
    refine dI (by show decide _=true;exact Ul (by rw[hq])) ?_;obtain⟨ws,y1,y2,y3⟩:=(h8.same s9).snoc (t:=ps[j]) (x:=c) (s9 _ _ e8);have hfl:=Pm (bA n ms) ((cU D).take j);rw[Pu]at hfl;refine⟨_,rfl,ws,y1,aY (by rw[y2];omega),Yc (.ref ps[j]),rfl,(s8.trans s9).upd hD5,?_⟩;rw[aI.take_snoc hc,Pa,Pe ok,Qo];exact y3
   have ok:bA n ms c=false:=by unfold bA;rw[Up hq,RG]
   refine cZ (by show decide _=false;exact Up (λz=>hq (by
    injection z with z1 z2;injection z2 with z2 _;exact R4 (by omega) (by omega)))) ?_
   exact⟨Yc (.ref ps[j]),rfl,s8.trans s9,by rw[no ok];exact h8.same s9⟩
  have ok:bA n ms c=false:=by unfold bA;rw[Up hf,Qw]
  refine cZ (Up hf) ?_;exact cZ rfl ⟨Yc (.ref ps[j]),rfl,s8,by rw[no ok];exact h8⟩
 rintro σ H8 ⟨v,rfl,s8,h8⟩;rw[OH,p2,Pd]at h8;obtain⟨us,u1,u2,u3⟩:=h8;have hfl:=(MH D hI).2;refine⟨D5,us,aI.L4 H8,rfl,aZ.of u1,by omega,λt ht=>?_,λws l' hp hs Kx=>?_⟩
 .obtain⟨i,hi,rfl⟩:=Rr ht;have Cn:i<((cU D).filter (bA n ms)).length:=by omega
  have e:=u3 i _ _ (OG hi) (OG Cn);have bd:=AT.bound (O0.mp (Rp Cn)).1;exact⟨_,e,by rw[aI.zp e];exact aI.Jt (by omega)⟩
 obtain⟨ys,y1,y2,y3⟩:=aI.Gz u2 u3 hp hs Kx;have s18:=s17.trans s8;exact kg l' _ (s18.free Kx) (s18.upd (s18.free Kx)) (by rw[<-gC.B1 W WO hI y1 y2];exact y3)
theorem pN{f:Um}{fd:Uz}(B:Bl mg)(F:Fn K mg "has_both" fL ["laid"] f fd):aO P w K mg base du 1 f fd ["laid"] vC:=by
 refine F.fn.ok pK (λvs H Q E h=>?_) (λji A outer s H vs Q E hr h=>?_)
 .obtain⟨l,G,rfl,_⟩:=h
  rfl
 obtain⟨l,G,rfl,hT,hlen,k⟩:=h;refine⟨_,(ah (jK (ix:=1) (NC:=["kind","ends"]) pK.nd rfl (Or.inl rfl) rfl (ie rfl (by decide +kernel) (by decide +kernel)) (bp (pv 0)) (λ_ _ _ _=>(jI (K:=K) (n:=2) rfl rfl (aX (aK (i:=0) (show(["kind","ends"]:List UI).Nodup by decide +kernel) rfl (Or.inl rfl)) (aX (aK (i:=1) (show(["kind","ends"]:List UI).Nodup by decide +kernel) rfl (Or.inl rfl)) dO)))) (λ_ _ _ _=>fA) (λ_ _ _ _=>(pv 0)))
  (aA (aU (qP (eU lC d9 (pv 1) (by with_unfolding_all rfl)) (mB (eU lC d9 (pv 1) (by with_unfolding_all rfl))))))),?_⟩
 obtain⟨ts,t1,t2,t3⟩:=hT.at;refine⟨_,rfl,l,rfl,⟨_,aZ.of t1⟩,λD hD=>b9 (K:=K) (a:=l) (xs:=ts.map V.ref) (λi σ J=>∃v0 v1:Option V,σ=[v0,v1]/\aE H J/\J D=Yc (.lst ((G.take i).map λth=>V.str (ks th.1)))) ⟨none,none,rfl,ai hD,ag⟩ (λi σ J _ zq=>by obtain⟨_,_,_,O,_⟩:=zq;exact aZ.of (O _ _ t1)) ?_ ?_⟩
 .rintro i y σ J hy ⟨v0,v1,rfl,O,U⟩;have hi:i<ts.length:=by have z:=(OI.mp hy).1;rw[OH]at z;exact z
  obtain⟨th,Z⟩:∃th,G[i]?=Yc th:=⟨_,OG (by omega)⟩
  obtain⟨tt,te,e1,e2,e3⟩:=t3 i th Z;rw[OR,e1]at hy;obtain rfl:=Option.some.inj hy;refine⟨_,_,rfl,br.of (O _ _ e2),rfl,_,_,rfl,_,_,rfl,rfl,?_⟩;refine⟨_,rfl,_,U,aY (by rw[OH,Pu];omega),_,_,rfl,O.upd hD,?_⟩;rw[ag,aI.take_snoc Z,O5]
  rfl
 rintro σ J ⟨v0,v1,rfl,O,U⟩;rw[OH,t2,Pd]at U;have e:(G.map λth=>V.str (ks th.1))=(G.map (·.1)).map λx=>V.str (ks x):=by rw[Pp];rfl
 rw[e]at U;refine⟨_,rfl,D,_,rfl,.inl (aZ.of U),rfl,iP _,?_⟩;have i1:=iD .bare (G.map (·.1));have i2:=iD .tied (G.map (·.1));refine⟨_,rfl,?_⟩;show(if Hs (V.str (ks .bare)) _=true then _ else _);rw[i1];by_cases hb:Th.Kd.bare∈G.map (·.1)
 .have e0:aI.both (G.map (·.1))=decide (Th.Kd.tied∈G.map (·.1)):=by unfold aI.both;rw[Ul hb,Tb]
  rw[Ul hb];refine dI rfl ?_;refine⟨_,rfl,D,_,rfl,.inl (aZ.of U),rfl,iP _,?_⟩;show Q (V.bl (Hs (V.str (ks .tied)) _)) J;rw[i2,<-e0];exact k J O
 have e0:aI.both (G.map (·.1))=false:=by unfold aI.both;rw[Up hb,Qw]
 rw[Up hb];refine cZ rfl ?_;show Q (V.bl false) J;rw[<-e0];exact k J O
theorem qf{f:Um}{G:Uz}(B:Bl mg)(F:Fn K mg "lacked_deeds" dC ["thread"] f G):aO P w K mg base du 1 f G ["thread"] aI.xX:=by
 refine F.fn.ok ka (λO H Q E h=>?_) (λU A outer s H O Q E hr h=>?_)
 .obtain⟨t,e,kd,L,rfl,_⟩:=h
  rfl
 obtain⟨t,e,kd,L,rfl,J,V,Z,k⟩:=h;have D:((nV L).length:Int)=L.length:=by rw[aS]
 refine⟨_,(ah (aJ (i:=1) ka.nd rfl (Or.inl rfl) (aT dP (aL aH rfl B.len bD (ae (cj ej (pv 0) ao (λ_ _=>rfl)) af)) ao))
  (aA (aU (mX (aM fj (cj ej (pv 0) ao (λ_ _=>rfl)) d9 (aQ _)) (aT kE (pv 1) ao) (pv 1))))),?_⟩
 refine⟨_,rfl,t,_,_,_,rfl,rfl,br.of J,rfl,e,_,rfl,.inr (br.of V),_,_,rfl,rfl,(by show(0:Int)<2/\(2:Int)<1073741824;decide),?_⟩;refine⟨_,rfl,t,_,_,_,rfl,rfl,br.of J,rfl,rfl,?_⟩;by_cases c:kd=.ring
 .subst c;refine⟨_,rfl,dI (by decide) ?_⟩;refine⟨_,rfl,_,_,rfl,rfl,?_⟩;dsimp only;have h2:=Z rfl;rw[D,show(L.length:Int)/2-1=((cT (.ring,L):Nat):Int) by unfold cT;rw[Uo rfl];simp only;omega];exact k
 refine⟨_,rfl,cZ ?_ ?_⟩
 .cases kd
  .exact Us rfl c
  .decide
  .decide
  decide
 refine⟨_,rfl,?_⟩;dsimp only;rw[D,show(L.length:Int)/2=((cT (kd,L):Nat):Int) by unfold cT;rw[Uk c];simp only;omega];exact k
theorem zZ{f:Um}{J:Uz}(B:Bl mg)(F:Fn K mg "choices" gH ["many","chosen"] f J):aO P w K mg base du 1 f J ["many","chosen"] aI.uq:=by
 refine F.fn.ok jV (λO H Q E h=>?_) (λU A outer s H O Q E hr h=>?_)
 .obtain⟨x,c,rfl,_⟩:=h
  rfl
 obtain⟨x,c,rfl,hc,k⟩:=h;refine⟨_,(ah (aJ (i:=2) jV.nd rfl (Or.inl rfl) ao)
  (ah (b6 PassesOwn.never rfl (tT rfl B.range (ae ao (ae (aT eG (pv 1) ao) af))) (aK (i:=3) jV.nd rfl (Or.inl rfl)) (aA (aJ (i:=2) jV.nd rfl (Or.inl rfl) (aT dP (aT fo (pv 2) (aT eG (aT kE (pv 0) (pv 1)) (pv 3))) (pv 3)))))
  (aA (aU (pv 2))))),?_⟩
 refine⟨_,rfl,_,_,rfl,rfl,_,_,rfl,⟨by omega,by omega,by omega,by omega⟩,fV (lo:=1) (n:=(((c:Int)+1)-1).toNat) (λi σ D=>∃G:Option V,σ=[Yc (.int ((x+c:Nat):Int)),Yc (.int (c:Nat)),Yc (.int (Th.ch (x+i) i:Nat)),G]/\D=H) ⟨none,by rw[Th.qB];rfl,rfl⟩ ?_ ?_⟩
 .rintro i σ D hi ⟨G,rfl,rfl⟩;have Z:i<c:=by omega
  refine⟨_,rfl,_,rfl,_,rfl,_,_,rfl,rfl,_,rfl,_,_,rfl,rfl,_,_,rfl,rfl,.inr ⟨by omega,by omega⟩,_,rfl,_,_,rfl,rfl,⟨by omega,by omega⟩,Yc (.int (1+(i:Int))),?_,rfl⟩;dsimp only;have e:=Th.Gw x i 1;rw[TC,TC]at e;rw[show((Th.ch (x+i) i:Nat):Int)*(((x+c:Nat):Int)-(c:Nat)+(1+(i:Nat)))/(1+(i:Nat))=((Th.ch (x+(i+1)) (i+1):Nat):Int) by
   rw[<-e,show(((x+c:Nat):Int)-(c:Nat)+(1+(i:Nat)))=((x+i+1:Nat):Int) by omega,show(1+(i:Nat):Int)=((i+1:Nat):Int) by omega,<-Rj,<-Int.natCast_ediv]]
  rfl
 rintro σ D ⟨G,rfl,rfl⟩;rw[show(((c:Int)+1)-1).toNat=c by omega];exact⟨_,rfl,k⟩
theorem yt{f:Um}{J:Uz}(B:Bl mg)(F:Fn K mg "own_rows" fN ["lack"] f J):aO P w K mg base du 1 f J ["lack"] DX:=by
 refine F.fn.ok jc (λO H Q E h=>?_) (λU A outer s H O Q E Z h=>?_)
 .obtain⟨c,rfl,_⟩:=h
  rfl
 obtain⟨c,rfl,hc,k⟩:=h;refine⟨_,(ah (aJ (i:=1) jc.nd rfl (Or.inl rfl) ao)
  (ah (b6 PassesOwn.never rfl (fU rfl B.range (ae (aT kE (pv 0) ao) af)) (aK (i:=2) jc.nd rfl (Or.inl rfl)) (aA (qQ (i:=1) jc.nd rfl (Or.inl rfl) (aT eG (pv 0) ao) Ad)))
  (aA (aU (pv 1))))),?_⟩
 refine⟨_,rfl,_,_,rfl,rfl,_,rfl,by omega,by omega,fV (lo:=0) (n:=((c:Int)-1).toNat) (λi σ D=>∃G:Option V,σ=[Yc (.int (c:Nat)),Yc (.int (((c+1) ^ i:Nat):Int)),G]/\D=H) ⟨none,rfl,rfl⟩ ?_ ?_⟩
 .rintro i σ D hi ⟨G,rfl,rfl⟩;refine⟨_,rfl,_,rfl,_,_,rfl,rfl,_,_,rfl,rfl,.inr ⟨by omega,by omega⟩,Yc (.int (0+(i:Int))),?_,rfl⟩;dsimp only;rw[show(((c+1) ^ i:Nat):Int)*((c:Int)+1)=(((c+1) ^ (i+1):Nat):Int) by rw[TZ,Rj];rfl]
  rfl
 rintro σ D ⟨G,rfl,rfl⟩;rw[show((c:Int)-1).toNat=c-1 by omega];exact⟨_,rfl,k⟩
theorem o9{f f1 f2:Um}{fd Z jB:Uz}(B:Bl mg)(F:Fn K mg "shuffled_rows" de ["lacks"] f fd)(G:Fn K mg "choices" gH ["many","chosen"] f1 Z)(D:Fn K mg "own_rows" fN ["lack"] f2 jB):aO P w K mg base du 2 f fd ["lacks"] zx:=by
 have O:aO P w K mg base du 1 f1 Z ["many","chosen"] aI.uq:=zZ B G;have J:aO P w K mg base du 1 f2 jB ["lack"] DX:=yt B D;refine F.fn.ok cP (λvs H Q E h=>?_) (λji A outer s H vs Q E hr h=>?_)
 .obtain⟨l,U,rfl,_⟩:=h
  rfl
 obtain⟨l,U,rfl,hl,hs,k⟩:=h;refine⟨_,(ah (aJ (i:=1) cP.nd rfl (Or.inl rfl) ao)
  (ah (aJ (i:=2) cP.nd rfl (Or.inl rfl) ao)
  (ah (b6 PassesOwn.never rfl (bp (pv 0)) (aK (i:=3) cP.nd rfl (Or.inl rfl)) (ah (qQ (i:=2) cP.nd rfl (Or.inl rfl) (pv 3) Ac)
  (aA (qQ (i:=1) cP.nd rfl (Or.inl rfl) (aT fo (bo O G (hr.mono (by decide)) (ae (pv 2) (ae (pv 3) af))) (bo J D (hr.mono (by decide)) (ae (pv 3) af))) Ad))))
  (aA (aU (pv 1)))))),?_⟩
 refine⟨_,rfl,l,rfl,⟨_,aZ.of hl⟩,cy (K:=K) (a:=l) (xs:=nV U) (λi σ H3=>∃v3:Option V,σ=[Yc (.ref l),Yc (.int (jN 1 0 (U.take i):Nat)),Yc (.int ((U.take i).sum:Nat)),v3]/\H3=H) ⟨none,rfl,rfl⟩ (λi σ H3 _ ⟨_,_,z⟩=>by rw[z];exact aZ.of hl) ?_ ?_⟩
 .rintro i y σ H3 hy ⟨v3,rfl,rfl⟩;obtain⟨x,hx,rfl⟩:=cX hy;have e1:(U.take (i+1)).sum=(U.take i).sum+x:=by rw[aI.take_snoc hx,Rh,S8]
  have e2:jN 1 0 (U.take (i+1))=jN 1 0 (U.take i)*(Th.ch ((U.take i).sum+x) x*(x+1) ^ (x-1)):=by rw[aI.take_snoc hx,Th.oO,Qh]
  have hle:(U.take (i+1)).sum<=12:=by
   have z:=congrArg List.sum (RJ (i+1) U);rw[Rh]at z;omega
  have aaX:x<=12:=by omega
  have b1:Th.ch ((U.take i).sum+x) x<=2 ^ 12:=PD (Th.DM _ _) (SO (by decide) (by omega));have b2:(x+1) ^ (x-1)<=13 ^ 11:=PD (Nat.pow_le_pow_left (by omega) _) (SO (by decide) (by omega));have b3:Th.ch ((U.take i).sum+x) x*(x+1) ^ (x-1)<=2 ^ 12*13 ^ 11:=SR b1 b2;have b4:(2:Nat) ^ 12*13 ^ 11<2 ^ 64:=by decide
  have b5:(2:Nat) ^ 12<2 ^ 64:=by decide
  refine⟨_,rfl,_,rfl,_,_,rfl,rfl,?_⟩;refine⟨_,rfl,_,rfl,_,rfl,(U.take i).sum,x,?_,by omega,?_⟩
  .dsimp only;rw[TH]
   rfl
  refine⟨_,rfl,x,rfl,aaX,_,_,rfl,rfl,.inl ⟨by omega,by omega⟩,_,_,rfl,rfl,.inr ⟨?_,?_⟩,Yc (.int (x:Nat)),?_,rfl⟩
  .rw[<-Rj];omega
  .rw[<-Rj];omega
  dsimp only;rw[e1,e2];simp only[Rj,TH]
  rfl
 rintro σ H3 ⟨v3,rfl,rfl⟩;rw[aS,Pd];exact⟨_,rfl,k⟩
end
section
seal L2.mV L2.PS L2.PE L2.PT L2.PA
open NK
variable {P:Ux}{w:UA}{K:OM}{mg:UI->Option Uj}{base:UH}
theorem iY{f f1 f2 f3 f4 f5 f6 f7 f8 C CB:Um}{fd iA jB mT zX B9 E2 Cb Cq:Uz}(B:Bl mg)(O:Fn K mg "rows_between" cE ["one","other","counts"] f fd)(cg:Fn K mg "threads" fc ["one","other"] f1 iA)(cH:aO P w K mg base (gf P w) 4 f1 iA ["one","other"] (fK K C))(dY:Fn K mg "has_both" fL ["laid"] f2 jB)(U:Fn K mg "lacked_deeds" dC ["thread"] f3 mT)(J:Fn K mg "shuffled_rows" de ["lacks"] f4 zX)(gI:Fn K mg "choices" gH ["many","chosen"] f5 B9)(fS:Fn K mg "own_rows" fN ["lack"] f6 E2)(dF:Fn K mg "nearer_deeds" cD ["one","other"] f7 Cb)(eQ:aO P w K mg base (gf P w) 5 f7 Cb ["one","other"] (iG K C))(dN:Fn K mg "reclasped" dM ["work","deed"] f8 Cq)(eR:aO P w K mg base (gf P w) 3 f8 Cq ["work","deed"] (oK K CB))(j:Nat)(sA:aO P w K mg base du (5+j) f fd ["one","other","counts"] (aI.A6 P w K j)):aO P w K mg base du (5+j+1) f fd ["one","other","counts"] (jP P w K j):=by
 have z4:aO P w K mg base du 1 f2 jB ["laid"] vC:=pN B dY;have sC:aO P w K mg base du 1 f3 mT ["thread"] aI.xX:=qf B U;have qg:aO P w K mg base du 2 f4 zX ["lacks"] zx:=o9 B J gI fS;refine O.fn.ok fG (λvs H Q E h=>?_) (λji A outer s H vs Q E hr h=>?_)
 .obtain⟨a,b,d,n,ms,os,lT,BB,rfl,_⟩:=h
  rfl
 obtain⟨a,b,d,n,ms,os,lT,BB,rfl,hS,W,hO,WO,hn,h12,hg,hD,hM,hL,k⟩:=h;have hu2:=Qs (RU (by decide:2<=64) _) hr.units;refine⟨_,(ah (aJ (i:=3) fG.nd rfl (Or.inl rfl) (iO cH cg (hr.mono (by omega)) (ae (pv 0) (ae (pv 1) af))))
  (ah (bS (mA (iI (bo z4 dY (hr.mono (by omega)) (ae (pv 3) af)))) (aA (aU (bo qg J (hr.mono (by omega)) (ae (eW (NC:=["thread"]) rfl (ie rfl (by decide +kernel) (by decide +kernel)) (bp (pv 3)) (λ_ _ _ _=>(aK (i:=0) (show(["thread"]:List UI).Nodup by decide +kernel) rfl (Or.inl rfl))) (λ_ _ _ _=>fA) (λ_ _ _ _=>(bo sC U (hr.mono (by omega)) (ae (pv 0) af)))) af)))) bg)
  (ah (aJ (i:=4) fG.nd rfl (Or.inl rfl) (b7 bK rfl B.tuple eK (ae (aL (kX true) rfl B.sorted lD (ae (eW (NC:=["kind","ends"]) rfl (ie rfl (by decide +kernel) (by decide +kernel)) (bp (pv 3)) (λ_ _ _ _=>(jI (K:=K) (n:=2) rfl rfl (aX (aK (i:=0) (show(["kind","ends"]:List UI).Nodup by decide +kernel) rfl (Or.inl rfl)) (aX (aK (i:=1) (show(["kind","ends"]:List UI).Nodup by decide +kernel) rfl (Or.inl rfl)) dO)))) (λ_ _ _ _=>fA) (λ_ _ _ _=>(bC (ae (pv 0) (ae (aL (tq (K:=K) rfl) rfl B.len bD (ae (pv 1) af)) af))))) af)) af)))
  (ah (bS (qO (BW hu2 (pv 4) (pv 2))) (ah (jK (ix:=5) (NC:=["deed","one"]) fG.nd rfl (Or.inl rfl) rfl (jJ (c:=s.heap.objs.size+1) (j:=0) rfl (by decide +kernel) (by decide +kernel) rfl rfl rfl rfl rfl) (bp (iO eQ dF (hr.mono (by omega)) (ae (pv 0) (ae (pv 1) af)))) (λ_ _ _ _=>(aK (i:=0) (show(["deed","one"]:List UI).Nodup by decide +kernel) rfl (Or.inl rfl))) (λ_ _ _ _=>fA) (λ_ _ _ _=>(iO eR dN (hr.mono (by omega)) (ae (pv 1) (ae (pv 0) af)))))
  (aA (GP hu2 (pv 2) (pv 4) (aL (xn rfl) rfl B.sum Dt (ae (eW (NC:=["work","other","counts"]) rfl (qA (pre:=["work"]) (c:=s.heap.objs.size+2) (e:=s.heap.objs.size+3) (j:=1) (k:=2) rfl (by decide +kernel) (by decide +kernel) rfl rfl rfl rfl rfl rfl rfl rfl rfl) (bp (pv 5)) (λ_ _ _ _=>(aK (i:=0) (show(["work","other","counts"]:List UI).Nodup by decide +kernel) rfl (Or.inl rfl))) (λ_ _ _ _=>fA) (λ_ _ _ _=>(bo sA O (hr.mono (by omega)) (ae (pv 0) (ae (pv 1) (ae (pv 2) af)))))) af)) rfl))) bg)
  (aA (aU (GO hu2 (pv 2) (pv 4) (λ_ _=>rfl)))))))),?_⟩
 refine⟨_,rfl,_,rfl,a,b,n,n,ms,os,rfl,by omega,hS,W,hO,WO.len,λ_=>⟨WO,λl H1 Z s1 hI hT hl=>?_⟩,λz=>Us rfl z⟩;have ek:Z.map (·.1)=(cC n ms os (2*n)).map (·.1):=by rw[<-hI.lacks W WO,Pp];rfl
 have el:Z.map cT=(cC n ms os (2*n)).map (·.2):=by rw[<-hI.lacks W WO,Pp];rfl
 have hlen:Z.length<=40:=by rw[hI.1.length_eq];have:=rq (bJ W WO);omega
 have agl:((cC n ms os (2*n)).map (·.2)).sum=aC n ms os:=by rw[<-el];exact gC.gR W WO hI
 refine⟨_,rfl,l,Z,rfl,hT,by omega,λH2 s2=>?_⟩;have we:=s1.trans s2;have yV:=hT.same s2;refine⟨_,rfl,?_⟩;dsimp only;cases e0:aI.both (Z.map (·.1))with
 |false =>
  refine dI rfl ?_;obtain⟨ts,t1,t2,t3⟩:=yV.at;refine⟨_,rfl,l,rfl,⟨_,aZ.of t1⟩,λD MI=>b9 (K:=K) (a:=l) (xs:=ts.map V.ref) (λi σ H3=>∃v0:Option V,σ=[v0]/\aE H2 H3/\H3 D=Yc (.lst (nV ((Z.take i).map cT)))) ⟨none,rfl,ai MI,ag⟩ (λi σ H3 _ zq=>by obtain⟨_,_,s3,_⟩:=zq;exact aZ.of (s3 _ _ t1)) ?_ ?_⟩
  .rintro i y σ H3 hy ⟨v0,rfl,s3,h3⟩;have hi:i<ts.length:=by have z:=(OI.mp hy).1;rw[OH]at z;exact z
   obtain⟨th,Ca⟩:∃th,Z[i]?=Yc th:=⟨_,OG (by omega)⟩
   obtain⟨tt,te,e1,e2,e3⟩:=t3 i th Ca;rw[OR,e1]at hy;obtain rfl:=Option.some.inj hy;have G:=hI.good W WO (OP Ca);have h2:th.1=.ring->2<=th.2.length:=λer=>by
    have F:=G.fin;rw[er]at F;obtain⟨_,F2,_⟩:=F;refine OU λz=>F2 ?_
    match th.2,z,G.ne with
    |[x],_,_=>rfl
    |_::_::_,z,_=>exact Us (by simp) z
   refine⟨_,rfl,tt,te,th.1,th.2,rfl,s3 _ _ e2,s3 _ _ e3,h2,_,h3,aY (by rw[aS,OH,Pu];omega),Yc (.ref tt),rfl,s3.upd MI,?_⟩;rw[ag,aI.take_snoc Ca,O5];exact congrArg (λz=>Yc (HO.lst z)) (gi _ _).symm
  rintro σ H3 ⟨v0,rfl,s3,h3⟩;rw[OH,t2,Pd,el]at h3;refine⟨D,_,rfl,h3,by omega,?_⟩;have qe:=we.trans s3;have z:=k H3 lT (aI.kZ.trans qe) (aI.D2.same hD qe) hM (Ts _ _);rw[gC.uA (by unfold aP;rw[<-ek];exact e0)]at z;exact z
 |true =>
  have jj:=aI.A2 W WO hI e0;have nb:¬aP n ms os:=λz=>by unfold aP at z;rw[<-ek,e0]at z;cases z
  obtain⟨hap,gd⟩:=hg.resolve_left nb;have a2:=gC.uE W WO nb;rw[oY nb]at hL k;refine cZ rfl ?_;obtain⟨ts,t1,t2,t3⟩:=yV.at;refine⟨_,rfl,l,rfl,⟨_,aZ.of t1⟩,λD MI=>b9 (K:=K) (a:=l) (xs:=ts.map V.ref) (λi σ H3=>∃v0 v1:Option V,σ=[v0,v1]/\aE H2 H3/\aI.fq aI.lf H3 D ((kC Z).take i)) ⟨none,none,rfl,ai MI,aI.fq.nil ag⟩ (λi σ H3 _ zq=>by obtain⟨_,_,_,s3,_⟩:=zq;exact aZ.of (s3 _ _ t1)) ?_ ?_⟩
  .rintro i y σ H3 hy ⟨v0,v1,rfl,s3,h3⟩;have hi:i<ts.length:=by have z:=(OI.mp hy).1;rw[OH]at z;exact z
   obtain⟨th,Ca⟩:∃th,Z[i]?=Yc th:=⟨_,OG (by omega)⟩
   obtain⟨tt,te,e1,e2,e3⟩:=t3 i th Ca;rw[OR,e1]at hy;obtain rfl:=Option.some.inj hy;refine⟨_,_,rfl,br.of (s3 _ _ e2),rfl,_,_,rfl,_,_,rfl,rfl,?_⟩;refine⟨_,rfl,_,rfl,te,_,rfl,.inr (br.of (s3 _ _ e3)),by show 2<=Uu;decide,λtp p0=>?_⟩;have s4:aE H3 (upd H3 tp (.tup [.str (ks th.1),.int ((nV th.2).length:Nat)])):=ai p0;have e5:upd H3 tp (.tup [.str (ks th.1),.int ((nV th.2).length:Nat)]) tp=Yc (.tup (aI.lf (th.1,th.2.length))):=by rw[ag,aS];rfl
   obtain⟨ws,y1,y2,y3⟩:=(h3.same s4).snoc (t:=tp) (x:=(th.1,th.2.length)) e5;refine⟨ws,y1,aY (by rw[y2,Pu];unfold kC;rw[OH];omega),_,_,rfl,(s3.trans s4).upd MI,?_⟩;have hs:(kC Z)[i]?=Yc (th.1,th.2.length):=by unfold kC;rw[OR,Ca];rfl
   rw[aI.take_snoc hs];exact y3
  rintro σ H3 ⟨v0,v1,rfl,s3,h3⟩;rw[OH,t2,show Z.length=(kC Z).length by unfold kC;rw[OH],Pd]at h3;obtain⟨qs,q1,q2,q3⟩:=h3;have ql:qs.length=Z.length:=by rw[q2];unfold kC;rw[OH]
  refine⟨D,qs,gK H3,rfl,aZ.of q1,by omega,λt ht=>?_,λus l2 hp hsr uY=>?_⟩
  .obtain⟨i,hi⟩:=SN ht;have hl:=(OI.mp hi).1;have hq:=OG (l:=kC Z) (i:=i) (by omega);generalize(kC Z)[i]=qq at hq;have hh:=q3 i t _ hi hq;refine⟨_,hh,aI.JC hh ?_⟩;have hm:=OP hq;unfold kC at hm;obtain⟨th,ht,e⟩:=OO.mp hm;have G:=hI.good W WO ht;have z:=Th.sub_len G.nd (m:=OV (2*n)) λx hx=>OX.mpr (G.lt x hx);rw[OW]at z;rw[<-e];show th.2.length<1000;omega
  have s4:aE H3 (upd H3 l2 (.lst (us.map V.ref))):=ai uY;refine⟨l2,_,rfl,.inl ag,λt H5 s5 ht=>?_⟩;have Fp:=s4.trans s5;obtain⟨JI,p1,K5⟩:=aI.El (l:=D) q2 (λi t x e1 e2=>Fp _ _ (q3 i t x e1 e2)) hp ht;have hk:aI.A1 Z (JI.map tx):=⟨JI,p1,rfl⟩
  have MJ:=we.trans (s3.trans Fp);have D5:=aI.D2.same hD MJ;clear q1 q2 q3 hsr hp Fp s4;refine⟨_,rfl,_,rfl,d,t,lT,_,rfl,rfl,D5,K5,?_⟩;dsimp only;cases e1:NK.nP lT (JI.map tx)with
  |some v =>
   refine⟨_,rfl,cZ rfl ?_⟩;refine⟨_,rfl,_,rfl,d,t,lT,_,v,rfl,rfl,D5,K5,e1,?_⟩;rw[aI.B3 hM W WO hI hk e1];exact k H5 lT (aI.kZ.trans MJ) D5 hM (Ts _ _)
  |none =>
   refine⟨_,rfl,dI rfl ?_⟩;cases j with
   |zero=>exact Us hap (by omega)
   |succ j =>
    refine⟨_,rfl,_,rfl,a,b,n,n,ms,os,rfl,by omega,MJ.tup hS,W,MJ.tup hO,WO.len,λ_=>⟨WO,gd.lim W WO,λlr H6 flr s6 tN=>?_⟩,λz=>Us rfl z⟩;have dl:=gd.Fm W WO;have b55:=gd.Kr.2;obtain⟨g,hg⟩:∃g,g=wK BB (aC n ms os-1):=⟨_,rfl⟩
    have gg:wK BB (aC n ms os)=1+BB*g:=by
     rw[hg];obtain⟨q,hq⟩:∃q,aC n ms os=q+2:=⟨aC n ms os-2,by omega⟩
     rw[hq];rfl
    obtain⟨rs,r1,r2,r3⟩:=tN;have D6:=aI.D2.same D5 s6;have s06:=MJ.trans s6;refine⟨lr,rfl,⟨_,aZ.of r1⟩,λDB hDB=>b9 (K:=K) (a:=lr) (xs:=rs.map V.ref) (λi σ H7=>∃v0:Option V,σ=[v0,Yc (.ref a)]/\aE H6 H7/\aI.fq nV H7 DB (((dG n os ms).take i).map λc=>bM ms c.1 c.2)) ⟨none,rfl,ai hDB,aI.fq.nil ag⟩ (λi σ H7 _ zq=>by obtain⟨_,_,s7,_⟩:=zq;exact aZ.of (s7 _ _ r1)) ?_ ?_⟩
    .rintro i y σ H7 hy ⟨v0,rfl,s7,h7⟩;have hi:i<rs.length:=by have z:=(OI.mp hy).1;rw[OH]at z;exact z
     have hc:=OG (l:=dG n os ms) (i:=i) (by omega);have ht:=OG hi;generalize(dG n os ms)[i]=c at hc;generalize rs[i]=rt at ht;rw[OR,ht]at hy;obtain rfl:=Option.some.inj hy;have Hb:=r3 i rt c ht hc;obtain⟨b1,b2,b3,b4⟩:=cO (OP hc);have fit:aI.Fits n ms (c.1:Nat) (c.2:Nat):=aI.rM b1 b2 b3;have sm:∀k:Nat,k<2*n->aI.Sm (k:Int):=λk hk=>aI.Sm.of (by omega) (by omega);refine⟨_,rfl,_,rfl,a,rt,n,ms,(c.1:Nat),(c.2:Nat),rfl,(s06.trans s7).tup hS,W,s7 _ _ Hb,sm _ (by omega),sm _ b2,λ_ r H8 hr8 s8 h8=>?_,λz=>Us fit z⟩;rw[Pq,Pq]at h8;obtain⟨ws,y1,y2,y3⟩:=(h7.same s8).snoc (t:=r) (x:=bM ms c.1 c.2) h8;refine⟨ws,y1,aY (by rw[y2,OH,Pu];omega),_,rfl,(s7.trans s8).upd hDB,?_⟩;rw[aI.take_snoc hc,O5];exact y3
    rintro σ H7 ⟨v0,rfl,s7,h7⟩;rw[OH,r2,Pd]at h7;have D7:=aI.D2.same D6 s7;have s07:=s06.trans s7;have K7:=K5.keep λc ys e=>(s6.trans s7) _ _ e;obtain⟨bs,b1,b2,b3⟩:=h7;rw[OH]at b2;have nDB:DB≠d:=aI.D2.ne D7 b1;refine⟨_,rfl,DB,rfl,⟨_,aZ.of b1⟩,λDS KA=>b9 (K:=K) (a:=DB) (xs:=bs.map V.ref) (λi σ H8=>∃(v0:Option V) (Fq:List NK.Ent),σ=[v0,Yc (.ref b),Yc (.ref d)]/\aE (aI.yG H7 d) H8/\NK.D2 P w H8 d Fq/\jx Fq/\Fq.length<=lT.length+i*g/\H8 DS=Yc (.lst (nV (((dG n os ms).take i).map λc=>vR n (bM ms c.1 c.2) os)))) ⟨none,lT,rfl,aI.kZ.trans (ai KA),aI.D2.same D7 (ai KA),hM,by omega,ag⟩ (λi σ H8 _ ⟨_,_,_,s8,_⟩=>aZ.of (s8 _ _ (eL b1 nDB))) ?_ ?_⟩
    .rintro i y σ H8 hy ⟨v0,Fq,rfl,s8,D8,M8,l8,h8⟩;have hi:i<bs.length:=by have z:=(OI.mp hy).1;rw[OH]at z;exact z
     have hc:=OG (l:=dG n os ms) (i:=i) (by omega);have ht:=OG hi;generalize(dG n os ms)[i]=c at hc;generalize bs[i]=rt at ht;rw[OR,ht]at hy;obtain rfl:=Option.some.inj hy;have Hb:=b3 i rt (bM ms c.1 c.2) ht (by rw[OR,hc];rfl);obtain⟨c1,c2,c3,c4⟩:=cO (OP hc);have WB:=dz W (by omega) c2 c3;have nrt:=aI.D2.neT D7 Hb;have ib:(i+1)*g<=BB*g:=QU _ (by omega);have ib2:(i+1)*g=i*g+g:=SG _ _;have ga:gr BB n os (bM ms c.1 c.2)<=g:=by
      have:=gC.HI (B:=BB) (n:=n) (os:=os) (ms:=bM ms c.1 c.2);rw[hg,show aC n ms os-1=aC n (bM ms c.1 c.2) os by omega];exact this
     have gc:=gd.bM W WO (OP hc);have nDS:DS≠d:=aI.D2.ne D8 h8;refine⟨_,rfl,_,rfl,_,rfl,rt,b,d,n,bM ms c.1 c.2,os,Fq,BB,rfl,br.of (s8 _ _ (eL Hb nrt)),WB,s8.tup (aI.JA (s07.tup hO) D7),WO,hn,by omega,.inr ⟨by omega,gc⟩,D8,M8,by omega,λH9 kv9 s9 D9 M9 l9=>?_⟩;refine⟨_,s9 _ _ (eL h8 nDS),aY (by rw[aS,OH,Pu];omega),_,kv9,rfl,?_,?_,M9,by omega,?_⟩
     .intro x o e;have e1:=aI.GS s8 x o e;have e2:=s9 _ _ e1;rw[aG (λz=>?_)]
      .exact e2
      rw[z]at e;have:=aI.kZ (H:=H7) (d:=d) _ _ e;rw[KA]at this;cases this
     .refine D9.keep (aG (λz=>nDS z.symm)) λx ys e=>?_;rw[aG (λz=>?_)]
      .exact e
      have q:=s9 _ _ (eL h8 nDS);rw[z,q]at e;cases e
     rw[ag,aI.take_snoc hc,O5];exact congrArg (λz=>Yc (HO.lst z)) (gi _ _).symm
    rintro σ H8 ⟨v0,Fq,rfl,s8,D8,M8,l8,h8⟩;rw[OH,b2,Pd,jO]at h8;rw[OH,b2]at l8;have ib:(dG n os ms).length*g<=BB*g:=QU _ dl;have K8:=aI.K2.Mc K7 D7 s8;have l9:Fq.length<sizeLine:=by
     have:(16000001:Nat)<sizeLine:=by decide
     omega
    have er:(((dG n os ms).map λc=>vR n (bM ms c.1 c.2) os).map λ(x:Nat)=>(x:Int)).sum=((vR n ms os:Nat):Int):=by rw[aI.rZ,gC.Eo W WO nb]
    refine⟨DS,_,rfl,aZ.of h8,?_⟩;rw[er];refine⟨_,rfl,_,rfl,d,t,Fq,_,rfl,rfl,D8,K8,l9,?_⟩;have DP:=D2.put (v:=.int (vR n ms os:Nat)) D8 K8;have KP:NK.K2 (upd H8 d (AY P w d (NK.put2 Fq (JI.map tx) t (.int (vR n ms os:Nat))))) (JI.map tx) t:=K8.keep λc ys e=>by rw[aG (aI.D2.neT D8 e)];exact e
    refine⟨_,rfl,_,rfl,d,t,_,_,_,rfl,rfl,DP,KP,aI.GQ _ _ _ _,?_⟩;refine k _ _ (λx o e=>?_) DP (aI.B4 M8 W WO hI hk t) ?_
    .have nx:x≠d:=λz=>by rw[z,oU]at e;cases e
     rw[aG nx];exact s8 _ _ (aI.Ek s07 _ _ e)
    have:=NK.yb Fq (JI.map tx) t (.int (vR n ms os:Nat));omega
theorem jd{f f1 f2 f3 f4 f5 f6 f7 f8 C CB:Um}{fd iA jB mT zX B9 E2 Cb Cq:Uz}(B:Bl mg)(G:Fn K mg "rows_between" cE ["one","other","counts"] f fd)(cg:Fn K mg "threads" fc ["one","other"] f1 iA)(cH:aO P w K mg base (gf P w) 4 f1 iA ["one","other"] (fK K C))(dY:Fn K mg "has_both" fL ["laid"] f2 jB)(J:Fn K mg "lacked_deeds" dC ["thread"] f3 mT)(D:Fn K mg "shuffled_rows" de ["lacks"] f4 zX)(gI:Fn K mg "choices" gH ["many","chosen"] f5 B9)(fS:Fn K mg "own_rows" fN ["lack"] f6 E2)(O:Fn K mg "nearer_deeds" cD ["one","other"] f7 Cb)(U:aO P w K mg base (gf P w) 5 f7 Cb ["one","other"] (iG K C))(V:Fn K mg "reclasped" dM ["work","deed"] f8 Cq)(Z:aO P w K mg base (gf P w) 3 f8 Cq ["work","deed"] (oK K CB)):∀j,aO P w K mg base du (5+j+1) f fd ["one","other","counts"] (jP P w K j)
 |0=>iY B G cg cH dY J D gI fS O U V Z 0 aI.zK
 |j+1=>iY B G cg cH dY J D gI fS O U V Z (j+1) (jd B G cg cH dY J D gI fS O U V Z j)
theorem mP{f f1 CU CT:Um}{fd O:Uz}(J:vh K mg "TooMany" CT)(F:Fn K mg "refuse_beyond" c9 ["most","one","other"] f fd)(D:Fn K mg "apart_by" iW ["one","other"] f1 O)(G:aO P w K mg base (gf P w) 6 f1 O ["one","other"] (aI.xW K CU)):aO P w K mg base (gf P w) 7 f fd ["most","one","other"] (lR K CU CT):=by
 refine F.fn.oE jz (λvs H Q E h=>?_) (λji A outer s H vs Q E hr h own=>?_)
 .obtain⟨a,b,x,n,m,ms,os,rfl,_⟩:=h
  rfl
 obtain⟨a,b,x,n,m,ms,os,rfl,hx,hn,hS,W,hO,hm,kg,kb⟩:=h;refine⟨_,(ah (aJ (i:=3) jz.nd rfl (Or.inl rfl) (hH G D (hr.mono (by decide)) (ae (pv 1) (ae (pv 2) af))))
  (aA (bS (aM i6 (pv 3) (pv 0) (aQ _)) (aA (rE rfl J (ae (Hz (vj (Dr (pv 3) (vj (Dr (pv 0) Dq)))) (by decide)) af))) bg))),?_⟩
 refine⟨_,rfl,_,rfl,a,b,n,m,ms,os,rfl,hn,hS,W,hO,hm,λU=>?_,λV=>kb V⟩;obtain⟨WO,kn,kf⟩:=kg U;refine⟨WO,λH1 s1=>?_⟩;have hap:aC n ms os<=n:=iT;refine⟨_,rfl,_,rfl,_,_,rfl,rfl,_,rfl,?_⟩;by_cases c:x<aC n ms os
 .refine dI (Ul (by omega)) ?_;have Z:aI.Sm ((aC n ms os:Nat):Int):=aI.Sm.of (by omega) (by omega);have s2':aI.Sm ((x:Nat):Int):=aI.Sm.of (by omega) (by omega);exact⟨⟨_,rfl,rfl,⟨_,rfl,Z.log⟩,_,rfl,rfl,⟨_,rfl,s2'.log⟩,trivial⟩,λx=>⟨by show 1<=Uu;decide,kf c _ s1⟩⟩
 exact cZ (Up (by omega)) (kn (by omega) H1 s1)
theorem kl{f f1 f2 f3 CU CT:Um}{fd iA jB mT:Uz}{t0 t1:XO}(B:Bl mg)(U:mg "MOST_APART" = some (.int 12 t0))(D:mg "MOST_APART_CROSSING" = some (.int 6 t1))(F:Fn K mg "refuse_uncounted" bL ["one","other"] f fd)(cg:Fn K mg "threads" fc ["one","other"] f1 iA)(cH:aO P w K mg base (gf P w) 4 f1 iA ["one","other"] (fK K CU))(O:Fn K mg "has_both" fL ["laid"] f2 jB)(G:Fn K mg "refuse_beyond" c9 ["most","one","other"] f3 mT)(J:aO P w K mg base (gf P w) 7 f3 mT ["most","one","other"] (lR K CU CT)):aO P w K mg base (gf P w) 8 f fd ["one","other"] (sh K CU CT):=by
 have V:aO P w K mg base du 1 f2 jB ["laid"] vC:=pN B O;refine F.fn.oE ia (λvs H Q E h=>?_) (λji A outer s H vs Q E hr h own=>?_)
 .obtain⟨a,b,n,m,ms,os,rfl,_⟩:=h
  rfl
 obtain⟨a,b,n,m,ms,os,rfl,hn,hS,W,hO,hm,kg,kb⟩:=h;refine⟨_,(ah (aJ (i:=2) ia.nd rfl (Or.inl rfl) (bo V O (hr.mono (by decide)) (ae (hH cH cg (hr.mono (by decide)) (ae (pv 0) (ae (pv 1) af))) af)))
  (aA (bh (hH J G (hr.mono (by decide)) (ae (mX (iI (pv 2)) (i4 (v:=.int 6) rfl D ⟨_,rfl⟩) (i4 (v:=.int 12) rfl U ⟨_,rfl⟩)) (ae (pv 0) (ae (pv 1) af))))))),?_⟩
 refine⟨_,rfl,_,rfl,a,b,n,m,ms,os,rfl,hn,hS,W,hO,hm,λwc=>?_,λjj=>kb jj⟩;obtain⟨WO,kn,kf⟩:=kg wc;refine⟨WO,λl H1 bf s1 hI hT hl=>?_⟩;have hlen:bf.length<=100:=by rw[hI.1.length_eq];have:=rq (bJ W WO);omega
 refine⟨l,bf,rfl,hT,hlen,λH2 s2=>?_⟩;have Z:=s1.trans s2;have nb:=gC.cV W WO hI;refine⟨_,rfl,_,rfl,ft (λe=>?_) (λe=>?_)⟩
 .have E5:¬aP n ms os:=λz=>by rw[nb.mp z]at e;cases e
  refine⟨_,rfl,_,rfl,a,b,6,n,n,ms,os,rfl,by decide,hn,Z.tup hS,W,Z.tup hO,by rw[hm,wc],λ_=>⟨WO,λle H3 s3=>?_,λlt H3 s3=>kf (.inr ⟨E5,lt⟩) H3 (Z.trans s3)⟩,λz=>Us rfl z⟩;exact kn (λz=>by rcases z with z|⟨_,z⟩ <;> omega) H3 (Z.trans s3)
 have E5:aP n ms os:=nb.mpr (Qj.mpr e);refine⟨_,rfl,_,rfl,a,b,12,n,n,ms,os,rfl,by decide,hn,Z.tup hS,W,Z.tup hO,by rw[hm,wc],λ_=>⟨WO,λle H3 s3=>?_,λlt H3 s3=>kf (.inl lt) H3 (Z.trans s3)⟩,λz=>Us rfl z⟩;exact kn (λz=>by
  rcases z with z|⟨z,_⟩
  .omega
  exact z E5) H3 (Z.trans s3)
theorem pb{f f1 f2 CU CT:Um}{fd Z jB:Uz}(F:Fn K mg "fewest_many" d8 ["one","other"] f fd)(D:Fn K mg "refuse_uncounted" bL ["one","other"] f1 Z)(G:aO P w K mg base (gf P w) 8 f1 Z ["one","other"] (sh K CU CT))(J:Fn K mg "rows_between" cE ["one","other","counts"] f2 jB)(O:aO P w K mg base du 12 f2 jB ["one","other","counts"] (jP P w K 6)):aO P w K mg base (gf P w) 13 f fd ["one","other"] (qH K CU CT):=by
 refine F.fn.oE sr (λvs H Q E h=>?_) (λji A outer s H vs Q E hr h own=>?_)
 .obtain⟨a,b,n,m,ms,os,rfl,_⟩:=h
  rfl
 obtain⟨a,b,n,m,ms,os,rfl,hn,hS,W,hO,hm,kg,kb⟩:=h;refine⟨_,(ah (bh (hH G D (hr.mono (by decide)) (ae (pv 0) (ae (pv 1) af))))
  (aA (aU (bo O J (hr.mono (by decide)) (ae (pv 0) (ae (pv 1) (ae vE af))))))),?_⟩
 refine⟨_,rfl,_,rfl,a,b,n,m,ms,os,rfl,by omega,hS,W,hO,hm,λwc=>?_,λjj=>kb jj⟩;obtain⟨WO,kn,kf⟩:=kg wc;refine⟨WO,λnf H1 s1=>?_,kf⟩;obtain⟨gd,k⟩:=kn nf;obtain⟨Hc,n6⟩:=qG nf;refine⟨_,rfl,_,rfl,λd hd=>?_⟩;have s2:=s1.trans (ai (o:=AY P w d []) hd);obtain⟨U,g1,g2⟩:∃U,(aP n ms os\/aC n ms os<=6/\gC.Gd U n os ms)/\gr U n os ms<=16000000:=by
  by_cases V:aP n ms os
  .exact⟨55,.inl V,by rw[gC.A5 V];omega⟩
  obtain⟨U,g⟩:=gd.resolve_left V;refine⟨U,.inr ⟨n6 V,g⟩,?_⟩;rw[oY V];have a6:=n6 V;have ap:aC n ms os<=n:=iT;rcases g with⟨rfl,g⟩|⟨rfl,_⟩
  .have:∀q,q<=5->wK 55 q<=16000000:=by decide
   exact this _ (by omega)
  have:∀q,q<=6->wK 42 q<=16000000:=by decide
  exact this _ a6
 exact⟨a,b,d,n,ms,os,[],U,rfl,s2.tup hS,W,s2.tup hO,WO,hn,Hc,g1,⟨ag,λp hp=>nomatch hp⟩,lP,by rw[Qn];omega,λH3 E6 s3 _ _ _=>k H3 (zF s1 hd s3)⟩
theorem wj{f f2 f7 f8 C CB:Um}{fd jB Cb Cq:Uz}(F:Fn K mg "ways_on" iH ["now","other","counts"] f fd)(D:Fn K mg "rows_between" cE ["one","other","counts"] f2 jB)(G:aO P w K mg base du 12 f2 jB ["one","other","counts"] (jP P w K 6))(J:Fn K mg "nearer_deeds" cD ["one","other"] f7 Cb)(O:aO P w K mg base (gf P w) 5 f7 Cb ["one","other"] (iG K C))(U:Fn K mg "reclasped" dM ["work","deed"] f8 Cq)(Z:aO P w K mg base (gf P w) 3 f8 Cq ["work","deed"] (oK K CB)):aO P w K mg base du 13 f fd ["now","other","counts"] (qF P w K):=by
 refine F.fn.ok jW (λvs H Q E h=>?_) (λji A outer s H vs Q E hr h=>?_)
 .obtain⟨a,b,d,n,ms,os,lT,rfl,_⟩:=h
  rfl
 obtain⟨a,b,d,n,ms,os,lT,rfl,hS,W,hO,WO,gd,aa2,hD,hM,hL,k⟩:=h;have hn8:=gd.Kr.1;have S3:=aI.GZ.NH gd;refine⟨_,(ah (aJ (i:=3) jW.nd rfl (Or.inl rfl) (bP af))
  (ah (b6 PassesOwn.never rfl (bp (iO O J (hr.mono (by decide)) (ae (pv 0) (ae (pv 1) af)))) (aK (i:=4) jW.nd rfl (Or.inl rfl)) (ah (aJ (i:=5) jW.nd rfl (Or.inl rfl) (iO Z U (hr.mono (by decide)) (ae (pv 0) (ae (pv 4) af))))
  (aA (bh (d5 O7 Py Pz b8 (pv 3) (ae (bC (ae (pv 4) (ae (pv 5) (ae (bo G D (hr.mono (by decide)) (ae (pv 5) (ae (pv 1) (ae (pv 2) af)))) af)))) af))))))
  (aA (aU (pv 3))))),?_⟩
 refine⟨by show 0<=Uu;decide,λL hLn=>?_⟩;have s0:aE H (upd H L (.lst [])):=ai hLn;have nHL:∀{c:Um}{o:HO},H c=Yc o->c≠L:=λ{c o} e z=>by rw[z,hLn]at e;cases e
 refine⟨_,rfl,_,rfl,a,b,n,n,ms,os,rfl,by omega,s0.tup hS,W,s0.tup hO,WO.len,λ_=>⟨WO,gd.lim W WO,λlr H2 flr s2 tN=>?_⟩,λz=>Us rfl z⟩;have dl:=gd.Fm W WO;obtain⟨g,gg1,gg2⟩:=aI.JJ S3 W WO dl;obtain⟨rs,r1,r2,r3⟩:=tN;have HR:=s0.trans s2;have NN:=aI.D2.same hD HR;have L2':=s2 _ _ (ag (H:=H) (a:=L) (o:=.lst []));have nlr:lr≠L:=λz=>by rw[z,ag]at flr;cases flr
 have nd:lr≠d:=aI.D2.ne NN r1;have nLd:L≠d:=aI.D2.ne NN L2';refine⟨lr,rfl,⟨_,aZ.of r1⟩,cy (K:=K) (a:=lr) (xs:=rs.map V.ref) (λi σ H3=>∃(v4 v5:Option V) (kv:List NK.Ent),σ=[Yc (.ref a),Yc (.ref b),Yc (.ref d),Yc (.ref L),v4,v5]/\aI.Mg d L H2 H3/\NK.D2 P w H3 d kv/\jx kv/\kv.length<=lT.length+i*g/\aI.A7 H3 L n os ms ((dG n os ms).take i))
  ⟨none,none,lT,rfl,λc o _ _ e=>e,NN,hM,by omega,aI.A7.nil L2'⟩ (λi σ H3 _ zq=>by obtain⟨_,_,_,_,s3,_⟩:=zq;exact aZ.of (s3 _ _ nd nlr r1)) ?_ ?_⟩
 .rintro i y σ H3 hy ⟨v4,v5,kv,rfl,s3,D3,M3,l3,w3⟩;have hi:i<rs.length:=by have z:=(OI.mp hy).1;rw[OH]at z;exact z
  have hc:=OG (l:=dG n os ms) (i:=i) (by omega);have ht:=OG hi;generalize(dG n os ms)[i]=c at hc;generalize rs[i]=rt at ht;rw[OR,ht]at hy;obtain rfl:=Option.some.inj hy;have Hb:=r3 i rt c ht hc;have nrd:=aI.D2.neT NN Hb;have nrL:rt≠L:=λz=>by rw[z,L2']at Hb;cases Hb
  have MK:=s3 _ _ nrd nrL Hb;have up:∀{x:Um}{xs:List V},br K H x xs->br K H3 x xs:=λ{x xs} h=>by
   rcases h with(h|⟨o,h⟩)|h
   .exact .inl (.inl (s3 _ _ (aI.D2.neT hD h) (nHL h) (HR _ _ h)))
   .exact .inl (.inr ⟨o,s3 _ _ (λz=>by rw[z,hD.1]at h;cases h) (nHL h) (HR _ _ h)⟩)
   exact .inr h
  obtain⟨b1,b2,b3,b4⟩:=cO (OP hc);have WB:=dz W (by omega) b2 b3;have ap:aC n ms os<=n:=iT;have fit:aI.Fits n ms (c.1:Nat) (c.2:Nat):=aI.rM b1 b2 b3;have sm:∀k:Nat,k<2*n->aI.Sm (k:Int):=λk hk=>aI.Sm.of (by omega) (by omega);refine⟨_,rfl,_,rfl,a,rt,n,ms,(c.1:Nat),(c.2:Nat),rfl,up hS,W,MK,sm _ (by omega),sm _ b2,λ_ r H4 hr4 s4 h4=>?_,λz=>Us fit z⟩;rw[Pq,Pq]at h4;have D4:=aI.D2.same D3 s4;have w4:=w3.same s4;obtain⟨ts4,y1,y2,y3⟩:=id w4;have ib:(i+1)*g<=(dG n os ms).length*g:=QU _ (by omega);have ib2:(i+1)*g=i*g+g:=SG _ _;have gc:=gg1 c (OP hc);have gb:=gd.bM W WO (OP hc);have HS:aP n (bM ms c.1 c.2) os\/aC n (bM ms c.1 c.2) os<=6/\gC.Gd 42 n os (bM ms c.1 c.2):=by
   rcases aa2 with q|q
   .exact .inl (eM S3 W WO q (OP hc))
   exact .inr ⟨by omega,gb⟩
  refine⟨_,rfl,.inl ⟨rfl,_,aZ.of y1⟩,_,rfl,_,rfl,_,rfl,_,rfl,_,rfl,r,b,d,n,bM ms c.1 c.2,os,kv,42,rfl,br.of h4,WB,s4.tup (up hO),WO,by omega,by omega,HS,D4,M3,by omega,λH5 MM s5 D5 M5 l5=>?_⟩;have w5:=w4.keep D4 s5;have hp5:H5 rt=Yc (.tup (pf c)):=s5 _ _ (eL (s4 _ _ MK) (aI.D2.neT D4 (s4 _ _ MK)));have hq5:H5 r=Yc (.tup (nV (bM ms c.1 c.2))):=s5 _ _ (eL h4 (aI.D2.neT D4 h4));refine⟨by show 3<=Uu;decide,λtp p0=>?_⟩;have s6:aE H5 (upd H5 tp (.tup [.ref rt,.ref r,.int (vR n (bM ms c.1 c.2) os:Nat)])):=ai p0;obtain⟨ws,z1,z2,z3⟩:=(w5.same s6).snoc (t:=tp) (p:=rt) (q:=r) (c:=c) ag (s6 _ _ hp5) (s6 _ _ hq5);have D6:=aI.D2.same D5 s6;have nL6:L≠d:=nLd;refine⟨L,_,_,rfl,rfl,z1,aY (by rw[z2,Pu];omega),_,_,MM,rfl,?_,?_,M5,by omega,?_⟩
  .intro x o n1 n2 e;rw[aG n2];exact s6 _ _ (s5 _ _ (eL (s4 _ _ (s3 _ _ n1 n2 e)) n1))
  .refine D6.keep (aG (λz=>nL6 z.symm)) λx ys e=>?_;rw[aG (λz=>by rw[z,z1]at e;cases e)];exact e
  rw[aI.take_snoc hc];exact z3
 rintro σ H3 ⟨v4,v5,kv,rfl,s3,D3,M3,l3,w3⟩;rw[OH,r2]at l3;rw[OH,r2,Pd]at w3;refine⟨_,rfl,?_⟩;refine k L H3 kv hLn (λx o e=>?_) D3 M3 (by omega) w3;have nx:x≠d:=λz=>by rw[z,oU]at e;cases e
 have e':=aI.kZ _ _ e;exact s3 _ _ nx (nHL e') (HR _ _ e')
theorem oh{f f1 f2 f3 CU CT:Um}{fd iA jB mT:Uz}(F:Fn K mg "row_numbered" dE ["one","other","number"] f fd)(G:Fn K mg "refuse_uncounted" bL ["one","other"] f1 iA)(J:aO P w K mg base (gf P w) 8 f1 iA ["one","other"] (sh K CU CT))(O:Fn K mg "rows_between" cE ["one","other","counts"] f2 jB)(U:aO P w K mg base du 12 f2 jB ["one","other","counts"] (jP P w K 6))(jD:Fn K mg "ways_on" iH ["now","other","counts"] f3 mT)(lS:aO P w K mg base du 13 f3 mT ["now","other","counts"] (qF P w K)):aO P w K mg base (gf P w) 14 f fd ["one","other","number"] (nR K CU CT):=by
 refine F.fn.oE bt (λvs H Q E h=>?_) (λji A outer s H vs Q E hr h own=>?_)
 .obtain⟨a,b,n,m,x,ms,os,rfl,_⟩:=h
  rfl
 obtain⟨a,b,n,m,xi,ms,os,rfl,hn,hS,W,hO,hm,kg,kb⟩:=h;have op:=iN (E:=E) own;have hu:=j7 hr;refine⟨_,(ah (bh (hH J G (hr.mono (by decide)) (ae (pv 0) (ae (pv 1) af))))
  (ah (aJ (i:=3) bt.nd rfl (Or.inl rfl) vE)
  (ah (aJ (i:=4) bt.nd rfl (Or.inl rfl) (bo U O (hr.mono (by decide)) (ae (pv 0) (ae (pv 1) (ae (pv 3) af)))))
  (ah (bS (mA (CM Ah j5 ao (pv 2) (pv 4))) ou bg)
  (ah (aJ (i:=5) bt.nd rfl (Or.inl rfl) (bP af))
  (ah (aJ (i:=6) bt.nd rfl (Or.inl rfl) (pv 0))
  (ah (aJ (i:=7) bt.nd rfl (Or.inl rfl) (pv 2))
  (ah (mY op (aM (rL (Q0 hu)) (pv 6) (pv 1) (aQ _)) (aA (b6 op rfl (bp (bo lS jD (hr.mono (by decide)) (ae (pv 6) (ae (pv 1) (ae (pv 3) af))))) (jF rfl (aX (aK (i:=8) bt.nd rfl (Or.inl rfl)) (aX (aK (i:=9) bt.nd rfl (Or.inl rfl)) (aX (aK (i:=10) bt.nd rfl (Or.inl rfl)) dO)))) (ah (bS (aM j5 (pv 7) (pv 10) (aQ _)) (ah (bh (d5 O7 Py Pz b8 (pv 5) (ae (pv 8) af)))
  (ah (aJ (i:=6) bt.nd rfl (Or.inl rfl) (pv 9))
  (aA CF))) bg)
  (aA (qQ (i:=7) bt.nd rfl (Or.inl rfl) (pv 10) FJ))))))
  (aA (aU (pv 5))))))))))),?_⟩
 refine⟨_,rfl,_,rfl,a,b,n,m,ms,os,rfl,by omega,hS,W,hO,hm,λwc=>?_,λjj=>kb jj⟩;obtain⟨WO,kn,kf⟩:=kg wc;refine⟨WO,λnf H1 s1=>?_,kf⟩;obtain⟨x,rfl,gd,hx,k⟩:=kn nf;obtain⟨Hc,n6⟩:=qG nf;have hn8:=gd.Kr.1;have S0:=aI.GZ.NH gd;have pt0:=aI.uF (n:=n) (ms:=ms) (os:=os) n6;have gp0:=lQ (n:=n) (ms:=ms) (os:=os);have NO:aP n ms os\/aC n ms os<=6/\gC.Gd 42 n os ms:=(T7 _).imp id λz=>⟨n6 z,gd⟩
 refineλd hd=>?_;have s2:=s1.trans (ai (o:=AY P w d []) hd);have ap:aC n ms os<=n:=iT;refine⟨_,rfl,_,rfl,_,rfl,a,b,d,n,ms,os,[],42,rfl,s2.tup hS,W,s2.tup hO,WO,hn,Hc,NO,⟨ag,λp hp=>nomatch hp⟩,lP,by rw[Qn];omega,λH3 E6 s3 D3 M3 l3=>?_⟩;have sv:aE H H3:=zF s1 hd s3;have nHd:∀{c:Um}{o:HO},H c=Yc o->c≠d:=λ{c o} e z=>by have:=s1 _ _ e;rw[z,hd]at this;cases this
 refine⟨_,rfl,_,_,rfl,rfl,_,rfl,dI (Ul (by omega)) ⟨_,rfl,_,_,rfl,rfl,_,rfl,?_⟩⟩;refine cZ (by rw[Ul (by omega)];rfl) ?_;refine⟨by show 0<=Uu;decide,λR hR=>?_⟩;have s4:aE H3 (upd H3 R (.lst [])):=ai hR;have nHR:∀{c:Um}{o:HO},H c=Yc o->c≠R:=λ{c o} e z=>by have:=sv _ _ e;rw[z,hR]at this;cases this
 have tR:aI.fq pf (upd H3 R (.lst [])) R []:=aI.fq.nil ag;refine⟨_,rfl,_,rfl,?_⟩;refine qR (λσ H4=>∃(nw:Um) (D:List Nat) (y:Nat) (v8 v9 v10:Option V) (done:List (Nat×Nat)) (kv:List NK.Ent),σ=[Yc (.ref a),Yc (.ref b),Yc (.int (x:Nat)),Yc (.ref d),Yc (.int (vR n ms os:Nat)),Yc (.ref R),Yc (.ref nw),Yc (.int (y:Nat)),v8,v9,v10]/\aE H H4/\br K H4 nw (nV D)/\ak n D/\NK.D2 P w H4 d kv/\jx kv/\gC.Gd 42 n os D/\(aP n D os\/aC n D os<=6)/\kv.length+B2 42 n os D<=16000000/\aI.fq pf H4 R done/\y<vR n D os/\jf n os (aC n ms os) ms x=done++jf n os (aC n D os) D y/\done.length+aC n D os=aC n ms os)
  (λσ H4=>match H4 R with|some (.lst ys)=>10-ys.length|_=>0)
  ⟨a,ms,x,none,none,none,[],E6,rfl,sv.trans s4,(sv.trans s4).tup hS,W,aI.D2.same D3 s4,M3,gd,NO.imp id And.left,by rw[Qn]at l3;omega,tR,hx,rfl,by rw[Qn,Qh]⟩ ?_ ?_
 .clear tR s4 l3 M3 D3 sv s3 E6;rintro σ H4 ⟨nw,D,y,v8,v9,v10,done,kv,rfl,s4,KC,Wc,D4,M4,Fs,HS,l4,tR,hy,MO,hap⟩;have hb4:=s4.tup hO;refine⟨_,rfl,_,rfl,nw,b,D.map (λ(z:Nat)=>(z:Int)),os.map (λ(z:Nat)=>(z:Int)),rfl,rfl,by rw[<-jO];exact KC,by rw[<-jO];exact hb4,_,rfl,?_⟩;by_cases e:D=os
  .refine cZ (by rw[e];simp) ?_;subst e;rw[(cJ Wc Wc).mpr rfl]at MO;refine⟨_,rfl,k R H4 done (by cases q:H R with|none=>rfl|some o=>exact Us rfl (nHR q)) s4 tR ?_⟩;have:=(cJ Wc Wc).mpr rfl;omega
  have nei:¬(D.map (λ(z:Nat)=>(z:Int))=os.map (λ(z:Nat)=>(z:Int))):=λz=>e (aI.map_inj (λx y h=>by omega) z);refine dI (by simp[nei]) ?_;have ap1:0<aC n D os:=by
   rcases Nat.eq_zero_or_pos (aC n D os)with z|z
   .exact Us ((cJ Wc WO).mp z) e
   exact z
  obtain⟨j,hj⟩:∃j,aC n D os=j+1:=⟨_,(Nat.succ_pred_eq_of_pos ap1).symm⟩
  have dn:done.length<=8:=by omega
  have Sc:=aI.GZ.NH Fs;have gpc:=lQ (n:=n) (ms:=D) (os:=os);refine⟨_,rfl,_,rfl,_,rfl,nw,b,d,n,D,os,kv,rfl,KC,Wc,hb4,WO,Fs,HS,D4,M4,by omega,λwl H5 MM OD s5 D5 M5 l5 w5=>?_⟩;obtain⟨ts,t1,t2,t3⟩:=w5;have tR5:aI.fq pf H5 R done:=by
   obtain⟨us,u1,u2,u3⟩:=tR;exact⟨us,s5 _ _ (eL u1 (aI.D2.ne D4 u1)),u2,λi t c e1 e2=>s5 _ _ (eL (u3 i t c e1 e2) (aI.D2.neT D4 (u3 i t c e1 e2)))⟩
  have sH5:aE H H5:=λc o q=>s5 _ _ (eL (s4 _ _ q) (nHd q));have rs:=gC.v_sum Sc Wc WO e;have hy':y<((dG n os D).map (gp n os D)).sum:=by
   rw[rs]at hy;exact hy
  obtain⟨c,z,l1,l2,p1,p2,p3,p4⟩:=aI.uC hy';have e1:jf n os (j+1) D y=c::jf n os j (bM D c.1 c.2) z:=by
   show(match aI.pick (gp n os D) (dG n os D) y with|none=>[]|some (c,y)=>c::jf n os j (bM D c.1 c.2) y)=_;rw[p1]
  have Cr:c∈dG n os D:=by rw[p2];simp
  obtain⟨c1,c2,c3,c4⟩:=cO Cr;have gpb:=zL Sc Wc WO Cr;have agG:=Fs.Fm Wc WO;obtain⟨rv,KD,rv2⟩:=tR5.len;refine⟨wl,rfl,⟨_,aZ.of t1⟩,cy (K:=K) (a:=wl) (xs:=ts.map V.ref) (λi σ H6=>∃(yi:Nat) (v8 v9 v10:Option V),H6=H5/\σ=[Yc (.ref a),Yc (.ref b),Yc (.int (x:Nat)),Yc (.ref d),Yc (.int (vR n ms os:Nat)),Yc (.ref R),Yc (.ref nw),Yc (.int (yi:Nat)),v8,v9,v10]/\aI.pick (gp n os D) ((dG n os D).drop i) yi=Yc (c,z))
   ⟨y,v8,v9,v10,rfl,rfl,p1⟩ (λi σ H6 _ ⟨_,_,_,_,q,_⟩=>by rw[q];exact aZ.of t1) ?_ ?_⟩
  .rintro i v σ H6 hv ⟨yi,v8,v9,v10,rfl,rfl,Z⟩;have hi:i<ts.length:=by have z:=(OI.mp hv).1;rw[OH]at z;exact z
   have hc:=OG (l:=dG n os D) (i:=i) (by omega);have ht:=OG hi;have MP:(dG n os D).drop i=(dG n os D)[i]::(dG n os D).drop (i+1):=R9 (by omega);generalize(dG n os D)[i]=ci at hc MP;generalize ts[i]=rt at ht;rw[OR,ht]at hv;obtain rfl:=Option.some.inj hv;obtain⟨pp,qq,g1,g2,g3⟩:=t3 i rt ci ht hc;rw[MP]at Z;unfold aI.pick at Z;refine⟨rt,_,rfl,br.of g1,rfl,_,_,rfl,_,_,rfl,_,_,rfl,rfl,?_⟩;refine⟨_,rfl,_,rfl,_,_,rfl,rfl,_,rfl,?_⟩;by_cases lt:yi<gp n os D ci
   .rw[Uo lt]at Z;obtain⟨rfl,rfl⟩:=Prod.mk.inj (Option.some.inj Z);refine dI (Ul (by omega)) ?_;refine⟨_,rfl,.inl ⟨rfl,_,aZ.of KD⟩,_,rfl,R,_,_,rfl,rfl,KD,aY (by omega),?_⟩;obtain⟨ws,y1,y2,y3⟩:=tR5.snoc (t:=pp) (x:=ci) g2;rw[KD]at y1;obtain rfl:rv=ws:=by injection y1 with y1;injection y1
    refine⟨_,rfl,?_⟩;have nRd:R≠d:=aI.D2.ne D5 KD;have nq:qq≠R:=λz=>by rw[z,KD]at g3;cases g3
    have nbb:aP n (bM D ci.1 ci.2) os\/aC n (bM D ci.1 ci.2) os<=6:=HS.imp (λq=>eM Sc Wc WO q Cr) (λq=>by omega);refine⟨⟨qq,_,yi,_,_,_,done++[ci],MM,rfl,?_,br.of (by rw[aG nq];exact g3),dz Wc (by omega) c2 c3,?_,M5,Fs.bM Wc WO Cr,nbb,?_,y3,p3,?_,?_⟩,?_⟩
    .intro q o hq;rw[aG (nHR hq)];exact sH5 _ _ hq
    .refine D5.keep (aG (λz=>nRd z.symm)) λq ys hq=>?_;rw[aG (λz=>by rw[z,KD]at hq;cases hq)];exact hq
    .omega
    .rw[MO,hj,e1,show aC n (bM D ci.1 ci.2) os=j by omega,PM]
     rfl
    .rw[OQ,QA];omega
    obtain⟨us,u1,u2,_⟩:=tR;rw[ag,u1];show 10-(rv++[V.ref pp]).length<10-(us.map V.ref).length;rw[OQ,OH,rv2,u2,QA];omega
   rw[Uk lt]at Z;refine cZ (Up (by omega)) ?_;refine⟨_,rfl,_,rfl,_,_,rfl,rfl,?_⟩;have ey:((yi:Nat):Int)-((gp n os D ci:Nat):Int)=((yi-gp n os D ci:Nat):Int):=by omega
   exact⟨yi-gp n os D ci,_,_,_,rfl,by rw[<-ey];rfl,Z⟩
  rintro σ H6 ⟨yi,v8,v9,v10,rfl,rfl,Z⟩;rw[OH,t2,Tt]at Z;cases Z
 rintro σ H2 R1 R2 hR ⟨v,e1,u,e2,p,q,ns,fY,e3,e4,e5,e6,bb,e7,z⟩;exact⟨v,e1,u,e2,p,q,ns,fY,e3,e4,e5,e6,bb,e7,hR _ _ z⟩
theorem mQ{f f1 f3 CU CT:Um}{fd iA mT:Uz}(B:Bl mg)(F:Fn K mg "number_of_row" df ["one","other","deeds"] f fd)(G:Fn K mg "refuse_uncounted" bL ["one","other"] f1 iA)(J:aO P w K mg base (gf P w) 8 f1 iA ["one","other"] (sh K CU CT))(U:Fn K mg "ways_on" iH ["now","other","counts"] f3 mT)(Z:aO P w K mg base du 13 f3 mT ["now","other","counts"] (qF P w K)):aO P w K mg base (gf P w) 14 f fd ["one","other","deeds"] (qI K CU CT):=by
 refine F.fn.oE bw (λvs H Q E h=>?_) (λji A outer s H vs Q E hr h own=>?_)
 .obtain⟨a,b,n,m,v,ms,os,rfl,_⟩:=h
  rfl
 obtain⟨a,b,n,m,vl,ms,os,rfl,hn,hS,W,hO,hm,kg,kb⟩:=h;have op:=iN (E:=E) own;have hu:=j7 hr;refine⟨_,(ah (bh (hH J G (hr.mono (by decide)) (ae (pv 0) (ae (pv 1) af))))
  (ah (aJ (i:=3) bw.nd rfl (Or.inl rfl) vE)
  (ah (aJ (i:=4) bw.nd rfl (Or.inl rfl) ao)
  (ah (aJ (i:=5) bw.nd rfl (Or.inl rfl) (pv 0))
  (ah (b6 op rfl (bp (pv 2)) (jF rfl (aX (aK (i:=6) bw.nd rfl (Or.inr rfl)) (aX (aK (i:=7) bw.nd rfl (Or.inr rfl)) dO))) (ah (aJ (i:=8) bw.nd rfl (Or.inl rfl) (bo Z U (hr.mono (by decide)) (ae (pv 5) (ae (pv 1) (ae (pv 3) af)))))
  (ah (jK (ix:=9) (NC:=["deed","behind","rows","low","high"]) bw.nd rfl (Or.inl rfl) rfl (qA (pre:=["deed","behind","rows"]) (c:=s.heap.objs.size+1) (e:=s.heap.objs.size+2) (j:=6) (k:=7) rfl (by decide +kernel) (by decide +kernel) rfl rfl rfl rfl rfl rfl rfl rfl rfl) (bp (pv 8)) (λ_ _ _ _=>(jI (K:=K) (n:=3) rfl rfl (aX (aK (i:=0) (show(["deed","behind","rows","low","high"]:List UI).Nodup by decide +kernel) rfl (Or.inl rfl)) (aX (aK (i:=1) (show(["deed","behind","rows","low","high"]:List UI).Nodup by decide +kernel) rfl (Or.inl rfl)) (aX (aK (i:=2) (show(["deed","behind","rows","low","high"]:List UI).Nodup by decide +kernel) rfl (Or.inl rfl)) dO))))) (λ_ _ _ _=>(i7 (aM (pE (K:=K) rfl (Q0 hu)) (pv 0) (bC (ae (pv 3) (ae (pv 4) af))) (aQ _)))) (λ_ _ _ _=>(pv 1)))
  (ah (bS (aM fj (aL aH rfl B.len bD (ae (pv 9) af)) ao (aQ _)) ou bg)
  (ah (qQ (i:=4) bw.nd rfl (Or.inl rfl) (aL (xn rfl) rfl B.sum Dt (ae (eW (NC:=["deed","behind","rows","low","high"]) rfl (qA (pre:=["deed","behind","rows"]) (c:=s.heap.objs.size+1) (e:=s.heap.objs.size+2) (j:=6) (k:=7) rfl (by decide +kernel) (by decide +kernel) rfl rfl rfl rfl rfl rfl rfl rfl rfl) (bp (pv 8)) (λ_ _ _ _=>(jI (K:=K) (n:=3) rfl rfl (aX (aK (i:=0) (show(["deed","behind","rows","low","high"]:List UI).Nodup by decide +kernel) rfl (Or.inl rfl)) (aX (aK (i:=1) (show(["deed","behind","rows","low","high"]:List UI).Nodup by decide +kernel) rfl (Or.inl rfl)) (aX (aK (i:=2) (show(["deed","behind","rows","low","high"]:List UI).Nodup by decide +kernel) rfl (Or.inl rfl)) dO))))) (λ_ _ _ _=>(i7 (aM (GX (K:=K) rfl (Q0 hu)) (pv 0) (bC (ae (pv 3) (ae (pv 4) af))) (aQ _)))) (λ_ _ _ _=>(pv 2))) af)) Ac)
  (aA (aJ (i:=5) bw.nd rfl (Or.inl rfl) (cj eD (pv 9) ao (λ_ _=>rfl)))))))))
  (ah (bS (aM (rL (Q0 hu)) (pv 5) (pv 1) (aQ _)) ou bg)
  (aA (aU (pv 4))))))))),?_⟩
 refine⟨_,rfl,_,rfl,a,b,n,m,ms,os,rfl,by omega,hS,W,hO,hm,λwc=>?_,λjj=>kb jj⟩;obtain⟨WO,kn,kf⟩:=kg wc;refine⟨WO,λnf H1 s1=>?_,kf⟩;obtain⟨l,r,rfl,gd,hr0,hF,k⟩:=kn nf;obtain⟨Hc,n6⟩:=qG nf;have hn8:=gd.Kr.1;have pt0:=aI.uF (n:=n) (ms:=ms) (os:=os) n6;have NO:aP n ms os\/aC n ms os<=6:=(T7 _).imp id λz=>n6 z;refineλd hd=>?_;have s2:=s1.trans (ai (o:=AY P w d []) hd);have nHd:∀{c:Um}{o:HO},H c=Yc o->c≠d:=λ{c o} e z=>by have:=s1 _ _ e;rw[z,hd]at this;cases this
 obtain⟨rs,r1,r2,r3⟩:=hr0;refine⟨_,rfl,_,rfl,l,rfl,⟨_,aZ.of (s2 _ _ r1)⟩,cy (K:=K) (a:=l) (xs:=rs.map V.ref) (λi σ H4=>∃(num:Nat) (nw:Um) (D:List Nat) (v6 v7 v8 v9:Option V) (kv:List NK.Ent),σ=[Yc (.ref a),Yc (.ref b),Yc (.ref l),Yc (.ref d),Yc (.int (num:Nat)),Yc (.ref nw),v6,v7,v8,v9]/\aE H H4/\br K H4 nw (nV D)/\ak n D/\NK.D2 P w H4 d kv/\jx kv/\gC.Gd 42 n os D/\(aP n D os\/aC n D os<=6)/\kv.length+B2 42 n os D<=16000000/\aI.gn n os D (r.drop i)/\num+gS n os D (r.drop i)=gS n os ms r)
  ⟨0,a,ms,none,none,none,none,[],rfl,s2,s2.tup hS,W,⟨ag,λp hp=>nomatch hp⟩,lP,gd,NO,by rw[Qn];omega,hF,Qh _⟩ (λi σ H4 _ zq=>by obtain⟨_,_,_,_,_,_,_,_,_,s4,_⟩:=zq;exact aZ.of (s4 _ _ r1)) ?_ ?_⟩
 .rintro i v σ H4 hv ⟨num,nw,D,v6,v7,v8,v9,kv,rfl,s4,KC,Wc,D4,M4,Fs,HS,l4,F4,HJ⟩;have hi:i<rs.length:=by have z:=(OI.mp hv).1;rw[OH]at z;exact z
  have hc:=OG (l:=r) (i:=i) (by omega);have ht:=OG hi;have MP:r.drop i=r[i]::r.drop (i+1):=R9 (by omega);generalize r[i]=c at hc MP;generalize rs[i]=rt at ht;rw[OR,ht]at hv;obtain rfl:=Option.some.inj hv;have MK:=s4 _ _ (r3 i rt c ht hc);rw[MP]at F4 HJ;obtain⟨Cr,F5⟩:=F4.ne;obtain⟨c1,c2,c3,c4⟩:=cO Cr;have ne:D≠os:=λz=>by rw[(cJ Wc WO).mpr z]at c4;omega
  have dl:=Fs.Fm Wc WO;have Sc:=aI.GZ.NH Fs;have gpc:=lQ (n:=n) (ms:=D) (os:=os);have gpb:=zL Sc Wc WO Cr;have nbb:aP n (bM D c.1 c.2) os\/aC n (bM D c.1 c.2) os<=6:=HS.imp (λq=>eM Sc Wc WO q Cr) (λq=>by omega);refine⟨rt,_,rfl,br.of MK,rfl,_,_,rfl,_,_,rfl,rfl,?_⟩;refine⟨_,rfl,_,rfl,_,rfl,nw,b,d,n,D,os,kv,rfl,KC,Wc,s4.tup hO,WO,Fs,HS,D4,M4,by omega,λwl H5 MM OD s5 D5 M5 l5 w5=>?_⟩;obtain⟨ts,t1,t2,t3⟩:=w5;have sH5:aE H H5:=λc o q=>s5 _ _ (eL (s4 _ _ q) (nHd q));refine⟨_,rfl,wl,rfl,⟨_,aZ.of t1⟩,λDT hDT=>b9 (K:=K) (a:=wl) (xs:=ts.map V.ref) (λi σ H6=>∃(v0 v1 v2:Option V) (qs:List Um),σ=[v0,v1,v2,Yc (.int (c.1:Nat)),Yc (.int (c.2:Nat))]/\aE H5 H6/\H6 DT=Yc (.lst (qs.map V.ref))/\qs.length<=i/\(∀q∈qs,H5 q=Yc (.tup (nV (bM D c.1 c.2))))/\(c∈(dG n os D).take i->qs≠[])) ⟨none,none,none,[],rfl,ai hDT,ag,ON _,λq hq=>(by cases hq),λz=>(by cases z)⟩ (λi σ H6 _ zq=>by obtain⟨_,_,_,_,_,s6,_⟩:=zq;exact aZ.of (s6 _ _ t1)) ?_ ?_⟩
  .rintro i2 v σ H6 hv ⟨v0,v1,v2,qs,rfl,s6,h6,ql,qa,qn⟩;have Cn:i2<ts.length:=by have z:=(OI.mp hv).1;rw[OH]at z;exact z
   have O:=OG (l:=dG n os D) (i:=i2) (by omega);have yF:=OG Cn;generalize(dG n os D)[i2]=ci at O;generalize ts[i2]=MQ at yF;rw[OR,yF]at hv;obtain rfl:=Option.some.inj hv;obtain⟨pp,qq,g1,g2,g3⟩:=t3 i2 MQ ci yF O;refine⟨MQ,_,rfl,br.of (s6 _ _ g1),rfl,_,_,rfl,_,_,rfl,_,_,rfl,rfl,?_⟩;refine⟨_,rfl,_,rfl,_,rfl,by show 2<=Uu;decide,λtp p0=>?_⟩;have s7:aE H6 (upd H6 tp (.tup [.int (c.1:Nat),.int (c.2:Nat)])):=ai p0;refine⟨pp,tp,[(ci.1:Int),(ci.2:Int)],[(c.1:Int),(c.2:Int)],rfl,rfl,br.of (s7 _ _ (s6 _ _ g2)),br.of ag,_,rfl,?_⟩;have s67:=s6.trans s7;have h7:=s7 _ _ h6;generalize upd H6 tp (.tup [.int (c.1:Nat),.int (c.2:Nat)])=H7 at s67 h7;by_cases e:ci=c
   .refine dI (by rw[e];exact Ul rfl) ?_;refine⟨_,rfl,_,h7,aY (by rw[OH];omega),_,_,_,qs++[qq],rfl,s67.upd hDT,by rw[ag,O5];rfl,by rw[OQ,QA];omega,λq hq=>?_,λ_ z=>by simp at z⟩;rcases OY.mp hq with hq|hq
    .exact qa q hq
    rw[OS.mp hq,<-e];exact g3
   refine cZ (Up (λz=>e (R4 (by have:=(List.cons.inj z).1;omega) (by have:=(List.cons.inj (List.cons.inj z).2).1;omega)))) ?_;refine⟨_,_,_,qs,rfl,s67,h7,by omega,qa,λz=>qn ?_⟩;rw[aI.take_snoc O]at z;rcases OY.mp z with z|z
   .exact z
   exact Us (OS.mp z).symm e
  rintro σ H6 ⟨v0,v1,v2,qs,rfl,s6,h6,ql,qa,qn⟩;rw[OH,t2,Pd]at qn;have qne:=qn Cr;obtain⟨q0,qr,rfl⟩:∃q0 qr,qs=q0::qr:=by
   cases qs with
   |nil=>exact Us rfl qne
   |cons q0 qr=>exact⟨q0,qr,rfl⟩
  refine⟨_,rfl,DT,_,rfl,.inl (aZ.of h6),rfl,_,rfl,cZ (LX (by rw[OH,Ph];omega)) ?_⟩;refine⟨_,rfl,_,rfl,wl,rfl,⟨_,aZ.of (s6 _ _ t1)⟩,λDS KA=>b9 (K:=K) (a:=wl) (xs:=ts.map V.ref) (λi σ H8=>∃(v0 v1 v2:Option V),σ=[v0,v1,v2,Yc (.int (c.1:Nat)),Yc (.int (c.2:Nat))]/\aE H6 H8/\H8 DS=Yc (.lst (nV ((((dG n os D).take i).filter λx=>vO x c).map (gp n os D))))) ⟨none,none,none,rfl,ai KA,ag⟩ (λi σ H8 _ ⟨_,_,_,_,s8,_⟩=>aZ.of (s8 _ _ (s6 _ _ t1))) ?_ ?_⟩
  .rintro i2 v σ H8 hv ⟨v0,v1,v2,rfl,s8,h8⟩;have Cn:i2<ts.length:=by have z:=(OI.mp hv).1;rw[OH]at z;exact z
   have O:=OG (l:=dG n os D) (i:=i2) (by omega);have yF:=OG Cn;generalize(dG n os D)[i2]=ci at O;generalize ts[i2]=MQ at yF;rw[OR,yF]at hv;obtain rfl:=Option.some.inj hv;obtain⟨pp,qq,g1,g2,g3⟩:=t3 i2 MQ ci yF O;have s68:=s6.trans s8;refine⟨MQ,_,rfl,br.of (s68 _ _ g1),rfl,_,_,rfl,_,_,rfl,_,_,rfl,rfl,?_⟩;refine⟨_,rfl,_,rfl,_,rfl,by show 2<=Uu;decide,λtp p0=>?_⟩;have s9:aE H8 (upd H8 tp (.tup [.int (c.1:Nat),.int (c.2:Nat)])):=ai p0;refine⟨pp,tp,[(ci.1:Int),(ci.2:Int)],[(c.1:Int),(c.2:Int)],rfl,rfl,br.of (s9 _ _ (s68 _ _ g2)),br.of ag,_,rfl,?_⟩;have h9:=s9 _ _ h8;have s89:=s8.trans s9;generalize upd H8 tp (.tup [.int (c.1:Nat),.int (c.2:Nat)])=H9 at s89 h9;have ll:(((dG n os D).take i2).filter λx=>vO x c).length<=64:=PD (Pm _ _) (by rw[Pu];omega);by_cases e:vO ci c=true
   .refine dI (by rw[zI];exact e) ?_;refine⟨_,rfl,_,h9,aY (by rw[aS,OH];omega),_,_,_,rfl,s89.upd KA,?_⟩;rw[ag,aI.take_snoc O,Pa,O5,RO,Uo e];exact congrArg (λz=>Yc (HO.lst z)) (gi _ _).symm
   refine cZ (by rw[zI];exact Qj.mpr e) ?_;refine⟨_,_,_,rfl,s89,?_⟩;rw[aI.take_snoc O,Pa,RO,Uk e,Qo,Pj];exact h9
  rintro σ H8 ⟨v0,v1,v2,rfl,s8,h8⟩;rw[OH,t2,Pd,jO]at h8;refine⟨DS,_,rfl,aZ.of h8,_,_,rfl,rfl,?_⟩;rw[aI.rZ];have h68:=s8 _ _ h6;refine⟨_,rfl,DT,_,_,_,rfl,rfl,aZ.of h68,ic (j:=0) rfl,?_⟩;have HU:=s6.trans s8;have en:gS n os D (c::r.drop (i+1))=(((dG n os D).filter λd=>vO d c).map (gp n os D)).sum+gS n os (bM D c.1 c.2) (r.drop (i+1)):=rfl;have e1:((num:Nat):Int)+(((((dG n os D).filter λx=>vO x c).map (gp n os D)).sum:Nat):Int)=((num+(((dG n os D).filter λx=>vO x c).map (gp n os D)).sum:Nat):Int):=by omega
  refine⟨num+(((dG n os D).filter λx=>vO x c).map (gp n os D)).sum,q0,_,_,_,_,_,MM,by rw[<-e1];rfl,sH5.trans HU,br.of (HU _ _ (qa q0 O2)),dz Wc (by omega) c2 c3,aI.D2.same D5 HU,M5,Fs.bM Wc WO Cr,nbb,by omega,F5,by omega⟩
 rintro σ H4 ⟨num,nw,D,v6,v7,v8,v9,kv,rfl,s4,KC,Wc,D4,M4,Fs,HS,l4,F4,HJ⟩;rw[OH,r2,Tt]at F4 HJ;have e:=F4.end_;subst e;refine⟨_,rfl,_,rfl,nw,b,D.map (λ(z:Nat)=>(z:Int)),D.map (λ(z:Nat)=>(z:Int)),rfl,rfl,by rw[<-jO];exact KC,by rw[<-jO];exact s4.tup hO,_,rfl,?_⟩;refine cZ (by simp) ?_;have e2:num=gS n D ms r:=HJ;rw[e2];exact⟨_,rfl,k H4 s4⟩
end
section
seal L2.mV L2.PS L2.PE L2.PT L2.PA
variable {P:Ux}{w:UA}{K:OM}{mg:UI->Option Uj}{base:UH}
theorem oi{f f1 f2 f3 CU CT CB:Um}{fd iA jB mT:Uz}{t0:XO}(B:Bl mg)(D:mg "MOST_APART_LISTED" = some (.int 5 t0))(F:Fn K mg "works_on_way" dD ["one","other"] f fd)(G:Fn K mg "refuse_beyond" c9 ["most","one","other"] f1 iA)(J:aO P w K mg base (gf P w) 7 f1 iA ["most","one","other"] (lR K CU CT))
  (U:Fn K mg "nearer_deeds" cD ["one","other"] f2 jB) (Z:aO P w K mg base (gf P w) 5 f2 jB ["one","other"] (iG K CU)) (dN:Fn K mg "reclasped" dM ["work","deed"] f3 mT) (eR:aO P w K mg base (gf P w) 3 f3 mT ["work","deed"] (oK K CB)):aO P w K mg base (gf P w) 8 f fd ["one","other"] (nS CU CT):=by
 refine F.fn.oE cL (λvs H Q E h=>?_) (λji A outer s H vs Q E hr h own=>?_)
 .obtain⟨a,b,n,m0,ms,os,rfl,_⟩:=h
  rfl
 obtain⟨a,b,n,m0,ms,os,rfl,hn,ha,Wm,hb,hm0,kg,kb⟩:=h;have op:=iN (E:=E) own;have hu:=hr.lt 0 (by decide);refine⟨_,(ah (bh (hH J G (hr.mono (by decide)) (ae (i4 (v:=.int 5) rfl D ⟨_,rfl⟩) (ae (pv 0) (ae (pv 1) af)))))
  (ah (aJ (i:=2) cL.nd rfl (Or.inl rfl) (EE (hr.lt 0 (by decide)) (pv 0) dv))
  (ah (aJ (i:=3) cL.nd rfl (Or.inl rfl) (bP (ae (pv 0) af)))
  (ah (mY op (aM i6 (aL aH rfl B.len bD (ae (pv 3) af)) ao (aQ _)) (ah (aJ (i:=4) cL.nd rfl (Or.inl rfl) CQ)
  (ah (b6 op rfl (bp (pv 3)) (aK (i:=5) cL.nd rfl (Or.inl rfl)) (aA (b6 op rfl (bp (iO Z U (hr.mono (by decide)) (ae (pv 5) (ae (pv 1) af)))) (aK (i:=6) cL.nd rfl (Or.inl rfl)) (aA (qu hu (pv 4) (iO eR dN (hr.mono (by decide)) (ae (pv 5) (ae (pv 6) af))) dv rfl)))))
  (ah (bh (d5 PySem.F.plainAttrs_dict Se PySem.F.type_dict_update (EC hu) (pv 2) (ae (pv 4) af)))
  (aA (aJ (i:=3) cL.nd rfl (Or.inl rfl) (b7 (vT rfl) rfl B.list u7 (ae (pv 4) af))))))))
  (aA (aU (aL (sj rfl) rfl B.sorted lD (ae (pv 2) af)))))))),?_⟩
 refine⟨_,rfl,_,rfl,a,b,5,n,m0,ms,os,rfl,by decide,by omega,br.of ha,Wm,br.of hb,hm0,λwc=>?_,λjj=>kb jj⟩;obtain⟨WO,kn,kf⟩:=kg wc;refine⟨WO,λle5 H1 s1=>?_,kf⟩;obtain⟨lim,Fm,k⟩:=kn le5;have big:∀x:Nat,x<=5000->x<sizeLine:=λx hx=>Qs hx (by decide);have ha1:=s1 _ _ ha;intro d hd;have hdH:H d=none:=s1.free hd;refine⟨_,rfl,ag,a,kW ms,rfl,zS (by rw[aG (λz=>by rw[z,hd]at ha1;cases ha1)];exact ha1),?_⟩;have s2:aE H1 (upd (upd H1 d (.dT [])) d (.dT [(kW ms,.bl true)])):=(ai hd).upd hd;have u2:upd (upd H1 d (.dT [])) d (.dT [(kW ms,.bl true)]) d=Yc (.dT (dS [ms])):=ag;generalize upd (upd H1 d (.dT [])) d (.dT [(kW ms,.bl true)])=H2 at s2 u2;have HR:=s1.trans s2;refine⟨_,rfl,by show 1<=Uu;decide,λKG abc=>?_⟩;have s3:aE H2 (upd H2 KG (.lst [.ref a])):=ai abc;have u3:upd H2 KG (.lst [.ref a]) KG=Yc (.lst [.ref a]):=ag;generalize upd H2 KG (.lst [.ref a])=H3 at s3 u3;have sv:=HR.trans s3;have T0:aI.fq nV H3 KG [ms]:=⟨[a],u3,rfl,λi t x e1 e2=>by
  cases i with
  |zero=>cases e1;cases e2;exact sv _ _ ha
  |succ i=>simp at e1⟩
 obtain⟨W,hW⟩:∃W:Nat->L2.St->Hp->Prop,W=λm σ H4=>∃(F R:List (List Nat)) (c:Nat) (lf:Um) (v4 v5 v6:Option V),σ=[Yc (.ref a),Yc (.ref b),Yc (.ref d),Yc (.ref lf),v4,v5,v6]/\aE H H4/\H4 d=Yc (.dT (dS F))/\aI.fq nV H4 lf R/\gC.Lv n os ms F R c/\((R=[]/\m=0)\/(R≠[]/\m=c+1)):=⟨_,rfl⟩
 refine⟨W,⟨aC n ms os+1,by rw[hW];exact⟨[ms],[ms],_,KG,_,_,_,rfl,sv,s3 _ _ u2,T0,gC.Lv.start,.inr ⟨Tr _ _,rfl⟩⟩⟩,?_⟩;intro m σ H4 h;have h':=h;rw[hW]at h';obtain⟨F,R,c,lf,v4,v5,v6,rfl,s4,tL,yo,lv,hm⟩:=h';obtain⟨rv,r1,r2⟩:=yo.len;refine⟨_,rfl,lf,_,rfl,.inl (aZ.of r1),_,_,rfl,rfl,_,rfl,?_⟩;have Fl:=Fm F lv.nd lv.EI;by_cases c0:0<R.length
 .refine dI (Ul (by omega)) ?_;have rne:R≠[]:=λz=>by rw[z]at c0;exact Us c0 (QF _)
  have hm:m=c+1:=by
   rcases hm with⟨z,_⟩|⟨_,z⟩
   .exact Us z rne
   exact z
  subst hm;refine⟨λσ' H'=>∃m',m'<c+1/\W m' σ' H',λσ' H' h=>h,?_⟩;intro dn MS;have agP:H dn=none:=s4.free MS;have ndn:d≠dn:=λz=>by rw[<-z,tL]at MS;cases MS
  have u5:upd H4 dn (.dT []) dn=Yc (.dT (dS [])):=ag;have s5:aE H4 (upd H4 dn (.dT [])):=ai MS;generalize upd H4 dn (.dT [])=H5 at s5 u5;obtain⟨us,a1,a2,a3⟩:=id yo;refine⟨_,rfl,lf,rfl,⟨_,aZ.of (s5 _ _ a1)⟩,?_⟩;have mono:∀(O:List (List Nat)),O.Nodup->(∀v∈O,∃w∈R,v∈iQ n os w)->O.length<64:=λO nd hO=>Fm O nd λv hv=>by
   obtain⟨w,hw,q⟩:=hO v hv;exact(lv.EI w (lv.sub w hw)).step q
  refine cy (K:=K) (a:=lf) (xs:=us.map V.ref) (λi σ H6=>∃(O:List (List Nat)) (v5 v6:Option V),σ=[Yc (.ref a),Yc (.ref b),Yc (.ref d),Yc (.ref lf),Yc (.ref dn),v5,v6]/\aE H4 H6/\H6 dn=Yc (.dT (dS O))/\O.Nodup/\∀v,v∈O↔∃w∈R.take i,v∈iQ n os w) ⟨[],_,_,rfl,s5,u5,RF,λv=>by simp⟩ (λi σ H6 _ zq=>by obtain⟨_,_,_,_,s6,_⟩:=zq;exact aZ.of (s6 _ _ a1)) ?_ ?_
  .rintro i x σ H6 hx ⟨O,v5,v6,rfl,s6,J0,NP,KH⟩;rw[OR]at hx;obtain⟨tw,et,rfl⟩:=Qd.mp hx;have hi:i<R.length:=by rw[<-a2];exact(OI.mp et).1
   have ew:=OG hi;generalize R[i]=wk at ew;have hwR:=OP ew;have htw:=s6 _ _ (a3 i tw wk et ew);have Ww:=(lv.EI wk (lv.sub wk hwR)).work Wm;refine⟨_,rfl,_,rfl,tw,b,n,n,wk,os,rfl,by omega,br.of htw,Ww,br.of ((s4.trans s6) _ _ hb),WO.len,λ_=>⟨WO,lim wk (lv.EI wk (lv.sub wk hwR)),λld H7 hld s7 hT7=>?_⟩,λz=>Us rfl z⟩;obtain⟨ds,b1,b2,b3⟩:=id hT7;refine⟨ld,rfl,⟨_,aZ.of b1⟩,?_⟩;refine cy (K:=K) (a:=ld) (xs:=ds.map V.ref) (λj σ H8=>∃(O:List (List Nat)) (v6:Option V),σ=[Yc (.ref a),Yc (.ref b),Yc (.ref d),Yc (.ref lf),Yc (.ref dn),Yc (.ref tw),v6]/\aE H4 H8/\H8 tw=Yc (.tup (nV wk))/\H8 ld=Yc (.lst (ds.map V.ref))/\(∀(i:Nat) (t:Um) (x:Nat×Nat),ds[i]?=Yc t->(dG n os wk)[i]?=Yc x->H8 t=Yc (.tup (pf x)))/\H8 dn=Yc (.dT (dS O))/\O.Nodup/\∀v,v∈O↔(∃w∈R.take i,v∈iQ n os w)\/∃c∈(dG n os wk).take j,v=bM wk c.1 c.2) ⟨O,_,rfl,s6.trans s7,s7 _ _ htw,b1,b3,s7 _ _ J0,NP,λv=>by rw[KH];simp⟩ (λi σ H8 _ ⟨_,_,_,_,_,q,_⟩=>aZ.of q) ?_ ?_
   .rintro j y σ H8 hy ⟨O8,v6,rfl,s8,NQ,hl8,J1,hd8,NR,NS⟩;rw[OR]at hy;obtain⟨td,ed,rfl⟩:=Qd.mp hy;have hj:j<(dG n os wk).length:=by rw[<-b2];exact(OI.mp ed).1
    have ec:=OG hj;generalize(dG n os wk)[j]=cc at ec;have Cr:=OP ec;obtain⟨q1,q2,q3,q4⟩:=cO Cr;have JZ:=J1 j td cc ed ec;refine⟨_,rfl,_,rfl,_,rfl,tw,td,n,wk,_,_,rfl,br.of NQ,Ww,JZ,aI.Sm.of (by omega) (by omega),aI.Sm.of (by omega) (by omega),λ_ tv H9 htv s9 hv9=>?_,λz=>Us ⟨by omega,by omega,by omega,by rw[Pq];omega⟩ z⟩;rw[Pq,Pq]at hv9;have NT:=s9 _ _ hd8;have ex8:∀v∈O8,∃w∈R,v∈iQ n os w:=λv hv=>by
     rcases(NS v).mp hv with⟨w,hw,q⟩|⟨e,he,rfl⟩
     .exact⟨w,SQ hw,q⟩
     exact⟨wk,hwR,OO.mpr ⟨e,SQ he,rfl⟩⟩
    have Ol:=mono O8 NR ex8;refine⟨dn,_,rfl,sS.t NT (zS hv9) (big _ (by unfold dS;rw[OH];omega)),?_⟩;rw[gC.Ml];have MV:∀t vs,H9 t=Yc (.tup vs)->t≠dn:=λt vs e z=>by rw[z,NT]at e;cases e
    have HQ:ld≠dn:=λz=>by rw[<-z,s9 _ _ hl8]at NT;cases NT
    refine⟨gC.addW O8 (bM wk cc.1 cc.2),_,rfl,(s8.trans s9).upd MS,?_,?_,λi' t' x' e1 e2=>?_,ag,gC.G6 NR,λv=>?_⟩
    .rw[aG (MV _ _ (s9 _ _ NQ))];exact s9 _ _ NQ
    .rw[aG HQ];exact s9 _ _ hl8
    .have q:=s9 _ _ (J1 i' t' x' e1 e2);rw[aG (MV _ _ q)];exact q
    rw[gC.EG,NS,aI.take_snoc ec];constructor
    .rintro((q|⟨e,he,q⟩)|q)
     .exact .inl q
     .exact .inr ⟨e,Pn _ he,q⟩
     exact .inr ⟨cc,OZ _ O2,q⟩
    rintro(q|⟨e,he,q⟩)
    .exact .inl (.inl q)
    rcases OY.mp he with z|z
    .exact .inl (.inr ⟨e,z,q⟩)
    rw[OS.mp z]at q;exact .inr q
   rintro σ H8 ⟨O8,v6,rfl,s8,NQ,hl8,J1,hd8,NR,NS⟩;refine⟨O8,_,_,rfl,s8,hd8,NR,λv=>?_⟩;rw[NS,OH,b2,Pd,aI.take_snoc ew];constructor
   .rintro(⟨w,hw,q⟩|⟨e,he,q⟩)
    .exact⟨w,Pn _ hw,q⟩
    exact⟨wk,OZ _ O2,OO.mpr ⟨e,he,q.symm⟩⟩
   rintro⟨w,hw,q⟩;rcases OY.mp hw with z|z
   .exact .inl ⟨w,z,q⟩
   rw[OS.mp z]at q;obtain⟨e,he,q⟩:=OO.mp q;exact .inr ⟨e,he,q.symm⟩
  rintro σ H6 ⟨O,v5,v6,rfl,s6,J0,NP,KH⟩;rw[OH,a2,Pd]at KH;have Ol:=mono O NP λv hv=>(KH v).mp hv;have fne:dS F≠[]:=λz=>by
   have q:(kW ms,V.bl true)∈dS F:=OO.mpr ⟨ms,lv.one,rfl⟩;rw[z]at q;cases q
  refine⟨_,rfl,.inr (.inr (.inl ⟨rfl,.inr ⟨_,s6 _ _ tL⟩⟩)),_,rfl,d,dn,_,_,rfl,rfl,ndn,s6 _ _ tL,J0,fne,?_,?_⟩
  .unfold dS;rw[OH,OH];omega
  by_cases oe:O=[]
  .subst oe;have e9:jQ (dS F) (dS [])=dS F:=rfl;rw[e9];have s9:aE H (upd H6 d (.dT (dS F))):=(s4.trans s6).upd hdH;have u9:upd H6 d (.dT (dS F)) d=Yc (.dT (dS F)):=ag;have n9:upd H6 d (.dT (dS F)) dn=Yc (.dT (dS [])):=by rw[aG (Ne.symm ndn)];exact J0
   generalize upd H6 d (.dT (dS F))=H9 at s9 u9 n9;refine⟨_,rfl,dn,_,rfl,n9,λl2 bs uY NU _=>?_⟩;have hbs:bs=[]:=Qk.mp NU;subst hbs;refine⟨0,by omega,?_⟩;rw[hW];exact⟨F,[],c,l2,_,_,_,rfl,s9.trans (ai uY),ai uY _ _ u9,aI.fq.nil ag,lv.stop λw hw v hv=>by have:=(KH v).mpr ⟨w,hw,hv⟩;simp at this,.inl ⟨rfl,rfl⟩⟩
  obtain⟨c',ec,lv'⟩:=lv.next Wm NP KH oe
  rw[gC.EH lv'.nd];have s9:aE H (upd H6 d (.dT (dS (F++O)))):=(s4.trans s6).upd hdH;have u9:upd H6 d (.dT (dS (F++O))) d=Yc (.dT (dS (F++O))):=ag;have n9:upd H6 d (.dT (dS (F++O))) dn=Yc (.dT (dS O)):=by rw[aG (Ne.symm ndn)];exact J0
  generalize upd H6 d (.dT (dS (F++O)))=H9 at s9 u9 n9;refine⟨_,rfl,dn,_,rfl,n9,λl2 bs uY NU hbs=>?_⟩;refine⟨c,by omega,?_⟩;rw[hW];have T9:aI.fq nV (upd H9 l2 (.lst (bs.map V.ref))) l2 O:=by
   refine⟨bs,ag,by rw[NU];unfold dS;rw[OH],λi t v e1 e2=>?_⟩;have q:=hbs i t (kW v) (.bl true) e1 (by unfold dS;rw[OR,e2];rfl);rw[<-gC.HK]at q;rw[aG (λz=>by rw[z,uY]at q;cases q)];exact q
  exact⟨F++O,O,c',l2,_,_,_,rfl,s9.trans (ai uY),ai uY _ _ u9,T9,lv',.inr ⟨oe,ec⟩⟩
 refine cZ (Up (by omega)) ?_;have r0:R=[]:=Qk.mp (by omega);subst r0;have inR:∀w:List Nat,ak n w->Cm (oH w):=λw Ww x hx=>by
  obtain⟨y,hy,rfl⟩:=OO.mp hx;obtain⟨i,hi⟩:=Qq.mp hy;have uc:=(OI.mp hi).1;rw[Ww.len]at uc;have q:=Ww.wk.lt i uc;have e:ar w i=y:=by unfold ar;rw[Ql,hi];rfl
  rw[e]at q;omega
 refine⟨_,rfl,d,2*n,_,F.map oH,rfl,tL,?_,by rw[OH];exact Fl,λz=>?_,λr hr=>?_,λus g l hp hs ht hl=>?_⟩
 .unfold dS;rw[Pp,Pp];refine PB λw _=>?_;show kW w=(oH w).map JO;unfold oH;rw[Pp]
  rfl
 .refine Nat.pos_of_ne_zero λz0=>?_;have abi:∀w∈F,w=[]:=λw hw=>Qk.mp (by rw[((lv.EI w hw).work Wm).len,z0]);rw[OH]at z;have:=Th.sub_len lv.nd (m:=[[]]) λw hw=>by rw[abi w hw];exact O2
  simp at this;omega
 .obtain⟨w,hw,rfl⟩:=OO.mp hr;have Ww:=(lv.EI w hw).work Wm;exact⟨by unfold oH;rw[OH,Ww.len],inR w Ww⟩
 have unr:∀w:List Nat,(oH w).map SH=w:=λw=>by
  unfold oH;rw[Pp];exact(PB λx _=>Pq x).trans (Ue w)
 have gw:∀t∈us,∃w∈F,g t=oH w:=λt Me=>by
  obtain⟨w,hw,e⟩:=OO.mp (hp.mem_iff.mp (OO.mpr ⟨t,Me,rfl⟩));exact⟨w,hw,e.symm⟩
 have pm:((us.map g).map λr=>r.map SH).Perm F:=by
  have q:=hp.map λr=>r.map SH;rw[Pp (l:=F)]at q;have e:F.map ((λr:List Int=>r.map SH) ∘ oH)=F:=(PB λw _=>unr w).trans (Ue F);rw[e]at q;exact q
 refine k l ((us.map g).map λr=>r.map SH) _ (s4.free hl) (s4.trans (ai hl)) ⟨us,ag,by rw[OH,OH],λi t x e1 e2=>?_⟩ (pm.nodup_iff.mpr lv.nd) (λw=>?_)
 .rw[OR,OR,e1]at e2;obtain rfl:=Option.some.inj e2;have htm:=OP e1;obtain⟨w,_,e⟩:=gw t htm;have q:=ht t htm;rw[aG (λz=>by rw[z,hl]at q;cases q),q];rw[e];show some (HO.tup ((oH w).map V.int))=Yc (HO.tup (nV ((oH w).map SH)));rw[unr];unfold oH nV;rw[Pp]
  rfl
 rw[pm.mem_iff];exact⟨λq=>lv.EI w q,λq=>lv.all q⟩
end
section
variable {P:Ux}{w:UA}{K:OM}{mg:UI->Option Uj}{base:UH}
theorem lj{f:Um}{G:Uz}(B:Bl mg)(F:Fn K mg "_law_cell_at" fx ["script","k"] f G):aO P w K mg base du 1 f G ["script","k"] (aI.xp K):=by
 refine F.fn.ok su (λO H Q E h=>?_) (λU A outer s H O Q E hr h=>?_)
 .obtain⟨a,ns,k,rfl,_⟩:=h
  rfl
 obtain⟨a,ns,k,rfl,J,q⟩:=h;refine⟨_,ah (bS (aM j5 (pv 1) (aL aH rfl B.len bD (ae (pv 0) af)) (aQ _)) (aA (aU (cj eD (pv 0) (pv 1) (λ_ _=>rfl)))) bg) (aA (aU ao)),?_⟩;refine⟨_,rfl,_,rfl,a,_,rfl,.inl J,_,_,rfl,rfl,_,rfl,?_⟩;refine ft (λD=>?_) (λD=>?_)
 .have D:=Uw D;rw[OH]at D;have Z:k<ns.length:=by omega
  have e:(ns.map V.int)[k]?=Yc (.int ns[k]):=by rw[OR,OG Z];rfl
  exact⟨_,rfl,_,rfl,a,_,_,_,rfl,rfl,J,ic e,q _⟩
 exact q 0
theorem wo{f:Um}{fd:Uz}(B:Bl mg)(F:Fn K mg "_law_mates" gY ["flow","staves"] f fd):aO P w K mg base du 1 f fd ["flow","staves"] (aI.AE K):=by
 refine F.fn.ok fg (λvs H Q E h=>?_) (λji A outer s H vs Q E hr h=>?_)
 .obtain⟨a,cs,n,rfl,_⟩:=h
  rfl
 obtain⟨a,cs,n,rfl,hS,hn,k⟩:=h;refine⟨_,ah (aJ (i:=2) fg.nd rfl (Or.inl rfl) (b7 (sV rfl) rfl B.list u7 (ae (b7 Bw rfl B.range Dc (ae (aT fo ao (pv 1)) af)) af)))
  (ah (b6 PassesOwn.never rfl (bp (pv 0)) (aK (i:=3) fg.nd rfl (Or.inl rfl))
   (aA (bS (aM i6 (pv 1) ao (aQ _))
    (ah (aJ (i:=4) fg.nd rfl (Or.inl rfl) (aT eH (pv 3) (aT fo ao (pv 1))))
    (ah (aJ (i:=5) fg.nd rfl (Or.inl rfl) (aT eH (aT dP (aT eH (aT fo (aT eH (pv 3) ao) ao) ao) ao) (aT fo ao (pv 1))))
    (ah (b6 PassesOwn.never rfl (bp (bP (ae (pv 4) (ae (pv 5) af)))) (aK (i:=6) fg.nd rfl (Or.inl rfl))
     (ah (kD (cj eD (pv 2) (pv 6) (λ_ _=>rfl)) (ow (pv 2) (cj eD (pv 2) (pv 6) (λ_ _=>rfl)) set_list))
     (aA (kD (pv 6) (ow (pv 2) (pv 6) set_list)))))
    (ah (kD (pv 5) (ow (pv 2) (pv 4) set_list))
    (aA (kD (pv 4) (ow (pv 2) (pv 5) set_list))))))) bg)))
  (aA (aU (pv 2)))),?_⟩
 refine⟨_,rfl,_,_,rfl,rfl,.inl ⟨by decide,by decide⟩,_,rfl,λp hp=>⟨p,0,_,rfl,ag,⟨by omega,by omega,by omega,by omega⟩,by omega,λl hl=>?_⟩⟩;obtain⟨nlp,nl⟩:=C9 hl;have e0:u0 0 (2*(n:Int)-0).toNat=nV (OV (2*n)):=by
  rw[show(2*(n:Int)-0).toNat=2*n by omega];exact aI.Gr _
 rw[e0];have S1:aE H (upd (upd H p (.He 0 (2*(n:Int)))) l (.lst (nV (OV (2*n))))):=(ai hp).upd nl;refine⟨_,rfl,a,rfl,⟨_,S1.seq hS⟩,cy (K:=K) (a:=a) (xs:=cs.map V.int) (λi σ H2=>∃(v3 v4 v5 v6:Option V) (ms:List Nat),σ=[Yc (.ref a),Yc (.int n),Yc (.ref l),v3,v4,v5,v6]/\aE H H2/\H2 l=Yc (.lst (nV ms))/\ak n ms)
  ⟨none,none,none,none,_,rfl,S1,ag,aI.y7 hn⟩ (λi σ H2 _ ⟨_,_,_,_,_,_,s2,_⟩=>s2.seq hS) ?_ ?_⟩
 .rintro i x σ H2 hx ⟨v3,v4,v5,v6,ms,rfl,s2,J,W⟩;obtain⟨z,rfl⟩:∃z,x=V.int z:=by
   obtain⟨z,_,e⟩:=OO.mp (OP hx);exact⟨z,e.symm⟩
  refine⟨_,rfl,_,_,rfl,rfl,_,rfl,?_⟩;refine ft (λh1=>?_) (λh1=>?_)
  .have hn0:0<(n:Int):=Uw h1;have G:0<2*(n:Int):=by omega
   refine⟨_,rfl,_,rfl,_,_,rfl,rfl,.inl ⟨by decide,by decide⟩,_,_,rfl,rfl,G,?_⟩;have b0:=QD z (show(1000000007:Int)≠0 by decide);have b1:=QE z (show(0:Int)<1000000007 by decide);refine⟨_,rfl,_,_,rfl,rfl,(by show(0:Int)<1000000007;decide),_,_,rfl,rfl,.inl ⟨by omega,by omega⟩,_,_,rfl,rfl,(by show(0:Int)<2147483647;decide),_,_,rfl,rfl,⟨by decide,by decide⟩,_,rfl,_,_,rfl,rfl,.inl ⟨by decide,by decide⟩,_,_,rfl,rfl,G,?_⟩;generalize z%1000000007*48271%2147483647/89=y;obtain⟨O,hpe,KI⟩:∃O:Nat,z%(2*(n:Int))=O/\O<2*n:=⟨(z%(2*(n:Int))).toNat,by have:=QD z (show 2*(n:Int)≠0 by omega);omega,by have:=QE z G;have:=QD z (show 2*(n:Int)≠0 by omega);omega⟩
   obtain⟨U,hqe,KJ⟩:∃U:Nat,y%(2*(n:Int))=U/\U<2*n:=⟨(y%(2*(n:Int))).toNat,by have:=QD y (show 2*(n:Int)≠0 by omega);omega,by have:=QE y G;have:=QD y (show 2*(n:Int)≠0 by omega);omega⟩
   dsimp only;rw[hpe,hqe];refine⟨_,rfl,_,rfl,by show 2<=Uu;decide,λle hle=>⟨le,rfl,⟨_,aZ.of ag⟩,cy (K:=K) (a:=le) (xs:=[.int O,.int U])
    (λj σ H3=>∃(v:Option V) (D:List Nat),σ=[Yc (.ref a),Yc (.int n),Yc (.ref l),Yc (.int z),Yc (.int O),Yc (.int U),v]/\aE H H3/\H3 le=Yc (.lst [.int O,.int U])/\H3 l=Yc (.lst (nV D))/\ak n D /\
     (1<=j->ar D O=O)/\(2<=j->ar D U=U))
    ⟨v6,ms,rfl,s2.upd (s2.free hle),ag,by rw[aG (aW J hle)];exact J,W,λh=>by omega,λh=>by omega⟩ (λj σ H3 _ ⟨_,_,_,_,e,_⟩=>aZ.of e) ?_ ?_⟩⟩
   .rintro j y' σ H3 hj ⟨v,D,rfl,s3,MW,Z,W3,h1',NV⟩;obtain⟨e,rfl,he,HV⟩:∃e:Nat,y'=V.int e/\e<2*n/\((j=0/\e=O)\/(j=1/\e=U)):=by
     match j,hj with
     |0,hj=>exact⟨O,(Option.some.inj hj).symm,KI,.inl ⟨rfl,rfl⟩⟩
     |1,hj=>exact⟨U,(Option.some.inj hj).symm,KJ,.inr ⟨rfl,rfl⟩⟩
     |_+2,hj=>cases hj
    have nll:l≠le:=aW J hle;have AA:=W3.ix he;have hlen:(nV D).length=2*n:=by rw[aS,W3.len]
    have hm:=W3.wk.lt e he;refine⟨_,rfl,_,rfl,l,_,_,_,rfl,rfl,aZ.of Z,AA,_,rfl,_,rfl,_,rfl,l,_,_,_,rfl,rfl,aZ.of Z,AA,l,_,_,_,rfl,rfl,Z,oy (QT _) (by rw[hlen];omega),?_⟩;rw[Pq,mH];refine⟨_,rfl,_,rfl,_,rfl,l,_,_,_,rfl,rfl,ag,oy (QT _) (by rw[aS,PR,W3.len];omega),?_⟩;rw[Pq,mH];obtain⟨W4,l4⟩:=aI.y4 W3 he;refine⟨_,aI.freed D e,rfl,(s3.upd nl).upd nl,by rw[aG nll.symm,aG nll.symm];exact MW,ag,W4,λ_=>?_,λh=>?_⟩
    .rcases HV with⟨rfl,rfl⟩|⟨rfl,rfl⟩
     .exact l4
     exact aI.xr W3 he (h1' (ON _))
    rcases HV with⟨rfl,rfl⟩|⟨rfl,rfl⟩
    .omega
    exact l4
   rintro σ H3 ⟨v,D,rfl,s3,MW,Z,W3,h1',NV⟩;have hlen:(nV D).length=2*n:=by rw[aS,W3.len]
   refine⟨_,rfl,_,rfl,_,rfl,l,_,_,_,rfl,rfl,Z,oy (QT _) (by rw[hlen];omega),?_⟩;rw[Pq,mH];refine⟨_,rfl,_,rfl,_,rfl,l,_,_,_,rfl,rfl,ag,oy (QT _) (by rw[aS,PR,W3.len];omega),?_⟩;rw[Pq,mH];exact⟨_,_,_,_,hZ D O U,rfl,(s3.upd nl).upd nl,ag,aI.y6 W3 KI KJ (h1' (by simp)) (NV (by simp))⟩
  exact⟨_,_,_,_,ms,rfl,s2,J,W⟩
 rintro σ H2 ⟨v3,v4,v5,v6,ms,rfl,s2,J,W⟩;exact⟨_,rfl,k l H2 ms nl s2 W J⟩
theorem tO{f f1 f2:Um}{fd Z jB:Uz}(B:Bl mg)(F:Fn K mg "_law_halves" iz ["script","most"] f fd)(D:Fn K mg "_law_cell_at" fx ["script","k"] f1 Z)(G:Fn K mg "_law_mates" gY ["flow","staves"] f2 jB):aO P w K mg base du 2 f fd ["script","most"] (aI.DE K):=by
 have J:aO P w K mg base du 1 f1 Z ["script","k"] (aI.xp K):=lj B D;have O:aO P w K mg base du 1 f2 jB ["flow","staves"] (aI.AE K):=wo B G;refine F.fn.ok jh (λvs H Q E h=>?_) (λji A outer s H vs Q E hr h=>?_)
 .obtain⟨a,ns,most,rfl,_⟩:=h
  rfl
 obtain⟨a,ns,most,rfl,hS,hlen,adU,k⟩:=h;refine⟨_,(ah (aJ (i:=2) jh.nd rfl (Or.inl rfl) (aT eG ao (aT eH (bo J D (hr.mono (by decide)) (ae (pv 0) (ae ao af))) (aL (tU rfl) rfl B.max yX (ae ao (ae (aT kE (aL aH rfl B.len bD (ae (pv 0) af)) ao) af))))))
  (ah (aJ (i:=3) jh.nd rfl (Or.inl rfl) (aT eH (bo J D (hr.mono (by decide)) (ae (pv 0) (ae ao af))) (aT eG (pv 1) ao)))
  (aA (aU (bC (ae (bo O G (hr.mono (by decide)) (ae (wW An (pv 0) (uT ao) (uT (pv 2))) (ae (pv 3) af))) (ae (bo O G (hr.mono (by decide)) (ae (wW An (pv 0) (uT (pv 2)) FW) (ae (pv 3) af))) af))))))),?_⟩
 refine⟨_,rfl,a,ns,1,rfl,hS,λc1=>?_⟩;refine⟨_,rfl,a,_,rfl,.inl hS,_,_,rfl,rfl,_,_,rfl,?_⟩;have vV:(1:Int)<=(if((ns.map V.int).length:Int)-1>1 then((ns.map V.int).length:Int)-1 else 1):=by split <;> omega
 refine⟨_,_,rfl,rfl,(by show(0:Int)<(if((ns.map V.int).length:Int)-1>1 then((ns.map V.int).length:Int)-1 else 1);omega),_,_,rfl,rfl,?_⟩;dsimp only;generalize(2:Int)+c1%(if((ns.map V.int).length:Int)-1>1 then((ns.map V.int).length:Int)-1 else 1)=cut;refine⟨_,rfl,a,ns,0,rfl,hS,λc0=>?_⟩;refine⟨_,rfl,_,_,rfl,rfl,_,_,rfl,rfl,(by show(0:Int)<(most:Int)+1;omega),?_⟩;dsimp only;have g0:0<=c0%((most:Int)+1):=QD _ (by omega);have g1:c0%((most:Int)+1)<(most:Int)+1:=QE _ (by omega);obtain⟨n,hn⟩:∃n:Nat,c0%((most:Int)+1)=n:=⟨(c0%((most:Int)+1)).toNat,by omega⟩
 rw[hn];obtain⟨x1,ex1,_⟩:=aI.ue ns (Yc 2) (Yc cut);obtain⟨x2,ex2,_⟩:=aI.ue ns (Yc cut) none;refine⟨_,rfl,_,rfl,_,rfl,_,rfl,a,_,rfl,hS,λb1 hb1=>?_⟩;rw[ex1];have s1:aE H (upd H b1 (.lst (x1.map V.int))):=ai hb1;refine⟨_,rfl,b1,x1,n,rfl,aZ.of ag,by omega,λl1 H1 ms G9 s2 W h1=>?_⟩;have U:=s1.trans s2;refine⟨_,rfl,_,rfl,_,rfl,a,_,rfl,U.seq hS,λb2 Ky=>?_⟩;rw[ex2];have s3:aE H1 (upd H1 b2 (.lst (x2.map V.int))):=ai Ky;refine⟨_,rfl,b2,x2,n,rfl,aZ.of ag,by omega,λl2 H2 os uY s4 WO h2=>?_⟩;have s34:=s3.trans s4;refine⟨by show 2<=Uu;decide,λt ht=>?_⟩;have s5:aE H2 (upd H2 t (.tup [.ref l1,.ref l2])):=ai ht;have Hc:l1≠l2:=aW (s3 _ _ h1) uY;exact k n t l1 l2 ms os _ (by omega) ((U.trans s34).trans s5) ag (s5 _ _ (s34 _ _ h1)) W (s5 _ _ h2) WO (s1.free G9) ((U.trans s3).free uY) Hc
theorem pO{f:Um}{fd:Uz}(B:Bl mg)(F:Fn K mg "_law_walk" fO ["one","other","end","known"] f fd):aO P w K mg base du 1 f fd ["one","other","end","known"] lJ:=by
 refine F.fn.ok g7 (λvs H Q E h=>?_) (λji A outer s H vs Q E hr h=>?_)
 .obtain⟨a,b,d,n,e,ms,os,kv,rfl,_⟩:=h
  rfl
 obtain⟨a,b,d,n,e,ms,os,kv,rfl,ha,W,hb,WO,he,hd,hkv,KL,jj,k⟩:=h;have T:=bJ W WO;have Kt:=W.small;have hu:=j7 hr;have nad:a≠d:=λz=>by rw[z,hd]at ha;cases ha
 have nbd:b≠d:=λz=>by rw[z,hd]at hb;cases hb
 refine⟨_,(ah (aJ (i:=4) g7.nd rfl (Or.inl rfl) (bP (ae (pv 2) af)))
  (ah (qu hu (pv 3) (pv 2) dv rfl)
  (ah (aJ (i:=5) g7.nd rfl (Or.inl rfl) ao)
  (ah (mY PassesOwn.never (Dy (R:=λσ H Q=>∃(l:Um) (ys:List V) (x:Nat),σ[5]?=Yc (Yc (.int x))/\σ[4]?=Yc (Yc (.ref l))/\H l=Yc (.lst ys)/\Q (decide (x<ys.length)) H) λσ H Q hR=>?tst) (ah (b6 PassesOwn.never rfl (bp (bP (ae (cj eD (pv 0) (cj eD (pv 4) (pv 5) (λ_ _=>rfl)) (λ_ _=>rfl)) (ae (cj eD (pv 1) (cj eD (pv 4) (pv 5) (λ_ _=>rfl)) (λ_ _=>rfl)) af)))) (aK (i:=6) g7.nd rfl (Or.inl rfl)) (aA (bS (qO (lB hu (pv 6) (pv 3))) (ah (qu hu (pv 3) (pv 6) dv rfl)
  (aA (bh (d5 O7 Py Pz b8 (pv 4) (ae (pv 6) af))))) bg)))
  (aA (aJ (i:=5) g7.nd rfl (Or.inl rfl) (aT eG (pv 5) ao)))))
  (aA (aU (pv 4))))))),?_⟩
 case tst =>
  obtain⟨l,ys,x,e5,e4,hl,q⟩:=hR;refine⟨_,aM j5 (pv 5) (aL aH rfl B.len bD (ae (pv 4) af)) (aQ _),?_⟩;refine⟨_,e5,_,e4,l,_,rfl,.inl (aZ.of hl),_,_,rfl,rfl,_,rfl,?_⟩;have ee:decide ((x:Int)<(ys.length:Int))=decide (x<ys.length):=by
   by_cases c:x<ys.length
   .rw[Ul c,Ul (by omega)]
   rw[Up c,Up (by omega)]
  exact(congrArg (λb=>Q b H) ee).mpr q
 have dis:∀y,Th.aB (ar ms) (ar os) e y->¬(bX kv (Sum.inl (y:Int):Key)).isSome=true:=λy hy z=>by
  have back:=hy.symm T he;have NW:=hy.lt T he;have q:=back (λj=>j<2*n/\(bX kv (Sum.inl (j:Int):Key)).isSome=true) ⟨NW,z⟩ λj ⟨hj,hs⟩=>⟨⟨T.fl j hj,(KL j hj hs).1⟩,T.gl j hj,(KL j hj hs).2⟩
  exact jj q.2
 refine⟨_,rfl,by show 1<=Uu;decide,λl hl=>?_⟩;have s0:aE H (upd H l (.lst [.int e])):=ai hl;have HQ:l≠d:=λz=>by rw[z,hd]at hl;cases hl
 have MX:upd H l (.lst [.int e]) d=Yc (.dK kv):=s0 _ _ hd;have G9:upd H l (.lst [.int e]) l=Yc (.lst (nV [e])):=ag;generalize upd H l (.lst [.int e])=H1 at s0 MX G9⊢;refine⟨_,rfl,_,rfl,d,_,rfl,sS.k (k:=Sum.inl (e:Int)) MX (Qs (show kv.length<=10000 from hkv) (by decide)),?_⟩;unfold FD;dsimp only[wN,FE,tC];have MY:∀L:List Nat,L.Nodup->(∀y∈L,Th.aB (ar ms) (ar os) e y)->L.length<=2*n:=λL nd hc=>by
  have z:=Th.sub_len nd (m:=OV (2*n)) λy hy=>OX.mpr ((hc y hy).lt T he);rwa[OW]at z
 refine qR (λσ Z=>∃(L:List Nat) (D:Nat) (J:List (Key×V)) (v6:Option V),σ=[Yc (.ref a),Yc (.ref b),Yc (.int e),Yc (.ref d),Yc (.ref l),Yc (.int D),v6]/\(∀c o,c≠d->H c=Yc o->Z c=Yc o)/\Z l=Yc (.lst (nV L))/\Z d=Yc (.dK J)/\J.length<=kv.length+L.length /\
   L.Nodup/\(∀y∈L,Th.aB (ar ms) (ar os) e y)/\e∈L/\D<=L.length/\(∀j:Nat,j<2*n->((bX J (Sum.inl (j:Int):Key)).isSome=true↔(bX kv (Sum.inl (j:Int):Key)).isSome=true\/j∈L))/\∀i y,i<D->L[i]?=Yc y->ar ms y∈L/\ar os y∈L)
  (λ(σ:L2.St) (Z:Hp)=>match σ[5]? with|some (Yc (V.int k))=>2*n+1-k.toNat|_=>0)
  ⟨[e],0,_,_,rfl,λc o hc q=>by rw[aG hc];exact s0 _ _ q,by rw[aG HQ];exact G9,ag,?_,Qy.mpr ⟨Qp,RF⟩,λy hy=>by rw[OS.mp hy];exact Th.aB.refl e,OS.mpr rfl,by simp,λj hj=>?_,λi y hi=>Us hi (Rx _)⟩ ?_ ?_
 .have z:=fX kv (Sum.inl (e:Int):Key) (V.bl true);exact z
 .rw[qT];by_cases q:(Sum.inl (j:Int):Key)=Sum.inl (e:Int)
  .rw[Uo q];have e2:j=e:=by injection q with q;omega
   exact⟨λ_=>.inr (OS.mpr e2),λ_=>rfl⟩
  rw[Uk q];have e2:j≠e:=λz=>q (by rw[z]);exact⟨.inl,λz=>z.resolve_right λw=>e2 (OS.mp w)⟩
 .rintro σ Z ⟨L,D,J,v6,rfl,s2,O,hd2,EJ,nd,NX,heL,hat,Ci,HW⟩;have hL:=MY L nd NX;have Ku:(nV L).length=L.length:=aS L;refine⟨l,_,D,rfl,rfl,O,?_⟩;rw[Ku];refine ft (λh1=>?_) (λh1=>?_)
  .have h1:D<L.length:=Uw h1;have ey:=OG h1;generalize L[D]=y at ey;have hyc:=NX y (OP ey);have NW:=hyc.lt T he;have ha2:=s2 _ _ nad ha;have Ky:=s2 _ _ nbd hb;have MZ:uU (nV L) (D:Int)=Yc (.int (y:Nat)):=ic (vk ey);refine⟨_,rfl,_,rfl,_,rfl,l,_,_,_,rfl,rfl,aZ.of O,MZ,a,_,_,_,rfl,rfl,aZ.of ha2,W.ix NW,?_⟩;refine⟨_,rfl,_,rfl,_,rfl,l,_,_,_,rfl,rfl,aZ.of O,MZ,b,_,_,_,rfl,rfl,aZ.of Ky,WO.ix NW,?_⟩;refine⟨by show 2<=Uu;decide,λlq HC=>?_⟩;have s3:aE Z (upd Z lq (.lst [.int (ar ms y:Nat),.int (ar os y:Nat)])):=ai HC;have J2:upd Z lq (.lst [.int (ar ms y:Nat),.int (ar os y:Nat)]) lq=Yc (.lst (nV [ar ms y,ar os y])):=ag;have nql:lq≠l:=λz=>by rw[z,O]at HC;cases HC
   have nqd:lq≠d:=λz=>by rw[z,hd2]at HC;cases HC
   have Ft:=s3 _ _ O;have Az:=s3 _ _ hd2;have HX:∀c o,c≠d->H c=Yc o->upd Z lq (.lst [.int (ar ms y:Nat),.int (ar os y:Nat)]) c=Yc o:=λc o hc q=>s3 _ _ (s2 c o hc q);generalize upd Z lq (.lst [.int (ar ms y:Nat),.int (ar os y:Nat)])=H3 at s3 J2 Ft Az HX⊢;refine⟨lq,rfl,⟨_,aZ.of J2⟩,cy (K:=K) (a:=lq) (xs:=nV [ar ms y,ar os y]) (λi σ H4=>∃(r:List Nat) (G:List (Key×V)) (v6:Option V),σ=[Yc (.ref a),Yc (.ref b),Yc (.int e),Yc (.ref d),Yc (.ref l),Yc (.int D),v6]/\(∀c o,c≠d->H c=Yc o->H4 c=Yc o) /\
     H4 lq=Yc (.lst (nV [ar ms y,ar os y]))/\H4 l=Yc (.lst (nV (L++r)))/\H4 d=Yc (.dK G)/\G.length<=kv.length+(L++r).length/\(L++r).Nodup/\(∀y∈L++r,Th.aB (ar ms) (ar os) e y) /\
     (∀j:Nat,j<2*n->((bX G (Sum.inl (j:Int):Key)).isSome=true↔(bX kv (Sum.inl (j:Int):Key)).isSome=true\/j∈L++r))/\(0<i->ar ms y∈L++r)/\(1<i->ar os y∈L++r))
    ⟨[],J,v6,rfl,HX,J2,by rw[Pj];exact Ft,Az,by rw[Pj];exact EJ,by rw[Pj];exact nd,by rw[Pj];exact NX,by rw[Pj];exact Ci,λz=>Us z (by omega),λz=>Us z (by omega)⟩
    (λi σ H4 _ ⟨_,_,_,_,_,q,_⟩=>aZ.of q) ?_ ?_⟩
   .rintro i z σ H4 hz ⟨r,G,v6',rfl,s4,KN,Co,tL,E4,M0,M1,U,b1,b2⟩;obtain⟨x,hx,rfl⟩:=cX hz;have Cn:i<2:=by have:=(OI.mp hx).1;simpa using this
    have hxc:Th.aB (ar ms) (ar os) e x:=by
     match i,Cn,hx with
     |0,_,hx=>obtain rfl:=Option.some.inj hx;exact hyc.sf
     |1,_,hx=>obtain rfl:=Option.some.inj hx;exact hyc.sg
    have E3:=hxc.lt T he;have got:∀M:List Nat,x∈M->(∀w,w∈L++r->w∈M)->(0<i+1->ar ms y∈M)/\(1<i+1->ar os y∈M):=λM hM sub=>by
     match i,Cn,hx,b1 with
     |0,_,hx,_=>obtain rfl:=Option.some.inj hx;exact⟨λ_=>hM,λz=>Us z (by omega)⟩
     |1,_,hx,b1=>obtain rfl:=Option.some.inj hx;exact⟨λ_=>sub _ (b1 (by omega)),λ_=>hM⟩
    have hL4:=MY _ M0 M1;refine⟨_,rfl,_,rfl,d,_,rfl,wU.k (k:=Sum.inl (x:Int)) tL,_,rfl,?_⟩;refine ft (λh2=>?_) (λh2=>?_)
    .have Ao:¬(bX G (Sum.inl (x:Int):Key)).isSome=true:=λz=>by rw[z]at h2;cases h2
     rw[U x E3]at Ao;have hxn:x∉L++r:=λz=>Ao (.inr z);refine⟨_,rfl,_,rfl,d,_,rfl,sS.k (k:=Sum.inl (x:Int)) tL (Qs (show G.length<=200000 by omega) (by decide)),?_⟩;have M6:upd H4 d (.dK (putK G (Sum.inl (x:Int):Key) (.bl true))) l=Yc (.lst (nV (L++r))):=by rw[aG HQ];exact Co
     refine⟨_,rfl,.inl ⟨rfl,_,aZ.of M6⟩,_,rfl,l,_,_,rfl,rfl,M6,aY (by rw[aS];omega),?_⟩;obtain⟨g1,g2⟩:=got (L++(r++[x])) (by simp) (λw hw=>by rw[<-PM];exact Pn _ hw);refine⟨r++[x],_,_,rfl,λc o hc q=>?_,?_,by rw[ag,<-PM,gi],by rw[aG (Ne.symm HQ)];exact ag,?_,?_,λw hw=>?_,λj hj=>?_,g1,g2⟩
     .rw[aG (λz=>by rw[z,hl]at q;cases q),aG hc];exact s4 c o hc q
     .rw[aG nql,aG nqd];exact KN
     .have z:=fX G (Sum.inl (x:Int):Key) (V.bl true);rw[<-PM,OQ];show _<=_+(_+1)
      omega
     .rw[<-PM];exact PY.mpr ⟨M0,Qy.mpr ⟨Qp,RF⟩,λp hp q hq z=>hxn (by rw[<-OS.mp hq,<-z];exact hp)⟩
     .rw[<-PM]at hw;rcases OY.mp hw with hw|hw
      .exact M1 w hw
      rw[OS.mp hw];exact hxc
     rw[qT,<-PM,OY];by_cases q:(Sum.inl (j:Int):Key)=Sum.inl (x:Int)
     .rw[Uo q];have e2:j=x:=by injection q with q;omega
      exact⟨λ_=>.inr (.inr (OS.mpr e2)),λ_=>rfl⟩
     rw[Uk q,U j hj];have e2:j≠x:=λz=>q (by rw[z]);constructor
     .rintro(h|h)
      .exact .inl h
      exact .inr (.inl h)
     rintro(h|h|h)
     .exact .inl h
     .exact .inr h
     exact Us (OS.mp h) e2
    have hs:(bX G (Sum.inl (x:Int):Key)).isSome=true:=OU λz=>h2 (by rw[RP]at z;rw[z];rfl);rw[U x E3]at hs;have LV:x∈L++r:=hs.resolve_left (dis x hxc);obtain⟨g1,g2⟩:=got (L++r) LV (λw hw=>hw);exact⟨r,G,_,rfl,s4,KN,Co,tL,E4,M0,M1,U,g1,g2⟩
   rintro σ H4 ⟨r,G,v6',rfl,s4,KN,Co,tL,E4,M0,M1,U,b1,b2⟩;have c1:ar ms y∈L++r:=b1 (by rw[aS];simp);have c2:ar os y∈L++r:=b2 (by rw[aS];simp);refine⟨_,rfl,_,_,rfl,rfl,⟨L++r,D+1,G,_,rfl,s4,Co,tL,E4,M0,M1,Pn _ heL,by rw[OQ];omega,U,λi w hi hw=>?_⟩,?_⟩
   .by_cases c:i<D
    .rw[Pg (by omega)]at hw;obtain⟨q1,q2⟩:=HW i w c hw;exact⟨Pn _ q1,Pn _ q2⟩
    have c:i=D:=by omega
    subst c;rw[Pg h1,ey]at hw;obtain rfl:=Option.some.inj hw;exact⟨c1,c2⟩
   show 2*n+1-((D:Int)+1).toNat<2*n+1-((D:Int)).toNat;omega
  have h1:D=L.length:=by
   have z:¬D<L.length:=λz=>h1 (Ul z);omega
  have C:bU (ar ms) (ar os) e L:=⟨nd,λw=>⟨NX w,λhw=>hw (·∈L) heL λz hz=>by
   obtain⟨i,hi⟩:=Qq.mp hz;exact HW i z (by rw[h1];exact(OI.mp hi).1) hi⟩⟩
  refine⟨_,rfl,k l L J Z hl s2 O C hd2 EJ λj hj=>?_⟩;rw[Ci j hj,C.mem]
 rintro σ Z R R' hR ⟨l,ys,x,e1,e2,e3,q⟩;exact⟨l,ys,x,e1,e2,e3,hR _ _ q⟩
theorem wq{f f1:Um}{fd iA:Uz}(B:Bl mg)(F:Fn K mg "_law_score" gZ ["one","other"] f fd)(G:Fn K mg "_law_walk" fO ["one","other","end","known"] f1 iA):aO P w K mg base du 2 f fd ["one","other"] aI.rO:=by
 have J:aO P w K mg base du 1 f1 iA ["one","other","end","known"] lJ:=pO B G;refine F.fn.ok dX (λvs H Q E h=>?_) (λji A outer s H vs Q E hr h=>?_)
 .obtain⟨a,b,n,ms,os,rfl,_⟩:=h
  rfl
 obtain⟨a,b,n,ms,os,rfl,ha,W,hb,WO,k⟩:=h;have T:=bJ W WO;have Kt:=W.small;have hu:=j7 hr;refine⟨_,(ah (aJ (i:=2) dX.nd rfl (Or.inl rfl) qV)
  (ah (aJ (i:=3) dX.nd rfl (Or.inl rfl) ao)
  (ah (b6 PassesOwn.never rfl (fU rfl B.range (ae (aL aH rfl B.len bD (ae (pv 0) af)) af)) (aK (i:=4) dX.nd rfl (Or.inl rfl)) (aA (bS (qO (lB hu (pv 4) (pv 2))) (ah (aJ (i:=5) dX.nd rfl (Or.inl rfl) (bo J G (hr.mono (by decide)) (ae (pv 0) (ae (pv 1) (ae (pv 4) (ae (pv 2) af))))))
  (aA (bS (aM fj (aT eH (aL aH rfl B.len bD (ae (pv 5) af)) ao) ao (aQ _)) (aA (aJ (i:=3) dX.nd rfl (Or.inl rfl) (aT eG (pv 3) ao))) (aA (bS (aM fj (aL aH rfl B.len bD (ae (eW (NC:=["at","other","one"]) rfl (qA (pre:=["at"]) (c:=s.heap.objs.size+2) (e:=s.heap.objs.size+1) (j:=1) (k:=0) rfl (by decide +kernel) (by decide +kernel) rfl rfl rfl rfl rfl rfl rfl rfl rfl) (bp (pv 5)) (λ_ _ _ _=>(aK (i:=0) (show(["at","other","one"]:List UI).Nodup by decide +kernel) rfl (Or.inl rfl))) (λ_ _ _ _=>(i7 (PW.pt (Aa (aM fj (cj (nv (K:=K) rfl) (pv 2) (pv 0) (λ_ _=>rfl)) (pv 0) (aQ _)) (uO (aM fj (cj (nv (K:=K) rfl) (pv 1) (pv 0) (λ_ _=>rfl)) (pv 0) (aQ _))))))) (λ_ _ _ _=>(pv 0))) af)) ao (aQ _)) (aA (aJ (i:=3) dX.nd rfl (Or.inl rfl) (aT eG (pv 3) ao))) bg))))) bg)))
  (aA (aU (pv 3)))))),?_⟩
 intro d hd;have s0:aE H (upd H d (.dK [])):=ai hd;have Bc:((nV ms).length:Int)=2*n:=by rw[aS,W.len];omega
 refine⟨_,rfl,a,_,rfl,.inl (aZ.of (s0 _ _ ha)),_,rfl,by rw[Bc];omega,by rw[Bc];omega,fV (lo:=0) (n:=((nV ms).length:Int).toNat) (λi σ H2=>∃(v4 v5:Option V) (Z:List (Key×V)),σ=[Yc (.ref a),Yc (.ref b),Yc (.ref d),Yc (.int (cM (ar ms) (ar os) i:Nat)),v4,v5]/\aE H H2/\H2 d=Yc (.dK Z)/\Z.length<=80*i /\
   ∀j:Nat,j<2*n->((bX Z (Sum.inl (j:Int):Key)).isSome=true↔∃y,y<i/\Th.aB (ar ms) (ar os) y j))
  ⟨none,none,[],rfl,s0,ag,ON _,λj hj=>?_⟩ ?_ ?_⟩
 .constructor
  .intro z;cases z
  rintro⟨y,hy,_⟩;omega
 .rintro i σ H2 hi ⟨v4,v5,Z,rfl,s2,hd2,EJ,O⟩;have U:i<2*n:=by rw[Bc]at hi;omega
  rw[Ri];have M7:(bX Z (Sum.inl (i:Int):Key)).isSome=true↔¬bB (ar ms) (ar os) i:=by
   rw[O i U];constructor
   .rintro⟨y,h1,h2⟩ hL;have:=hL y (h2.symm T (by omega));omega
   intro hn;refine OU λno=>hn λy hy=>OU λz=>no ⟨y,by omega,hy.symm T U⟩
  refine⟨_,rfl,_,rfl,d,_,rfl,wU.k (k:=Sum.inl (i:Int)) hd2,_,rfl,?_⟩;refine ft (λh1=>?_) (λh1=>?_)
  .have Ao:¬(bX Z (Sum.inl (i:Int):Key)).isSome=true:=λz=>by rw[z]at h1;cases h1
   have hL:bB (ar ms) (ar os) i:=OU λz=>Ao (M7.mpr z);have KL:aI.vt n ms os (λj=>(bX Z (Sum.inl (j:Int):Key)).isSome=true):=λj hj hs=>by
    obtain⟨y,y1,y2⟩:=(O j hj).mp hs;exact⟨(O _ (T.fl j hj)).mpr ⟨y,y1,y2.sf⟩,(O _ (T.gl j hj)).mpr ⟨y,y1,y2.sg⟩⟩
   refine⟨_,rfl,_,rfl,_,rfl,_,rfl,a,b,d,n,i,ms,os,Z,rfl,s2 _ _ ha,W,s2 _ _ hb,WO,U,hd2,by omega,KL,Ao,λl L E6 H3 hl s3 Ft C Az abm J3=>?_⟩;have sv:aE H H3:=λc o q=>s3 c o (λz=>by rw[z,hd]at q;cases q) (s2 _ _ q);have MC:L.length<=80:=by
    have z:=Th.sub_len C.nd (m:=OV (2*n)) λy hy=>OX.mpr (((C.mem y).mp hy).lt T U);rw[OW]at z;omega
   have Na:∀j:Nat,j<2*n->((bX E6 (Sum.inl (j:Int):Key)).isSome=true↔∃y,y<i+1/\Th.aB (ar ms) (ar os) y j):=λj hj=>by
    rw[J3 j hj,O j hj];constructor
    .rintro(⟨y,h2,h3⟩|h)
     .exact⟨y,by omega,h3⟩
     exact⟨i,by omega,h⟩
    rintro⟨y,h2,h3⟩;by_cases c:y=i
    .subst c;exact .inr h3
    exact .inl ⟨y,by omega,h3⟩
   have yn:((nV L).length:Int)=L.length:=by rw[aS]
   have od:=Th.kL T U C;refine⟨_,rfl,l,_,rfl,.inl (aZ.of Ft),_,_,rfl,rfl,(by show(0:Int)<2;decide),rfl,_,rfl,?_⟩;refine ft (λh2=>?_) (λh2=>?_)
   .have o:L.length%2=1:=by
     have z:=Uw h2;injection z with z;rw[yn]at z;omega
    have e:=Th.xb hL (od.mp o);have e2:((cM (ar ms) (ar os) i:Nat):Int)+1=((cM (ar ms) (ar os) (i+1):Nat):Int):=by rw[e];omega
    refine⟨_,rfl,_,_,rfl,rfl,Yc (.int (i:Nat)),Yc (.ref l),E6,?_,sv,Az,by omega,Na⟩;rw[<-e2]
    rfl
   have o:¬L.length%2=1:=λz=>h2 (Ul (by
    show V.int (((nV L).length:Int)%2)=V.int 1;rw[yn];have z2:(L.length:Int)%2=1:=by omega
    rw[z2]))
   have no:¬fZ (ar ms) (ar os) i:=λz=>o (od.mpr z);have ha3:=sv _ _ ha;have hb3:=sv _ _ hb
   let lo:Nat->Bool:=λy=>decide (ar ms y=y\/ar os y=y)
   refine⟨_,rfl,l,rfl,⟨_,aZ.of Ft⟩,λD hD=>b9 (K:=K) (a:=l) (xs:=nV L) (λj σ H4=>∃v:Option V,σ=[v,Yc (.ref b),Yc (.ref a)]/\aE H3 H4/\H4 D=Yc (.lst (nV ((L.take j).filter lo)))) ⟨none,rfl,ai hD,ag⟩ (λj σ H4 _ zq=>by obtain⟨_,_,s4,_⟩:=zq;exact aZ.of (s4 _ _ Ft)) ?_ ?_⟩
   .rintro j z σ H4 hz ⟨v,rfl,s4,h4⟩;obtain⟨x,hx,rfl⟩:=cX hz;have E3:=((C.mem x).mp (OP hx)).lt T U;have yes:lo x=true->upd H4 D (.lst (nV ((L.take j).filter lo)++[.int (x:Nat)])) D=Yc (.lst (nV ((L.take (j+1)).filter lo))):=λhlo=>by
     rw[ag,aI.take_snoc hx,Pa,Pe (by exact hlo),Qo,gi]
    have small:(nV ((L.take j).filter lo)).length<sizeLine:=aY (by
     rw[aS];have z:=Pm lo (L.take j);rw[Pu]at z;omega)
    refine⟨_,rfl,_,rfl,a,_,_,_,rfl,rfl,aZ.of (s4 _ _ ha3),W.ix E3,_,rfl,rfl,_,rfl,?_⟩;refine ft (λq1=>?_) (λq1=>?_)
    .have q1:ar ms x=x:=by have z:=Uw q1;injection z with z;omega
     exact Bv ⟨_,rfl,_,h4,small,_,rfl,s4.upd hD,yes (Ul (.inl q1))⟩
    have q1:¬ar ms x=x:=λz=>q1 (Ul (by rw[z]));refine⟨_,rfl,_,rfl,b,_,_,_,rfl,rfl,aZ.of (s4 _ _ hb3),WO.ix E3,_,rfl,rfl,_,rfl,?_⟩;refine ft (λq2=>?_) (λq2=>?_)
    .have q2:ar os x=x:=by have z:=Uw q2;injection z with z;omega
     exact⟨_,rfl,_,h4,small,_,rfl,s4.upd hD,yes (Ul (.inr q2))⟩
    have q2:¬ar os x=x:=λz=>q2 (Ul (by rw[z]));refine⟨_,rfl,s4,?_⟩;rw[h4,aI.take_snoc hx,Pa,Pf (by show¬lo x=true;simp[lo,q1,q2]),Qo,Pj]
   rintro σ H4 ⟨v,rfl,s4,h4⟩;rw[aS,Pd]at h4;have KO:=sv.trans s4;have tL:=s4 _ _ Az;refine⟨D,_,rfl,.inl (aZ.of h4),rfl,_,rfl,?_⟩;have hw:(L.filter lo).length=0↔bq (ar ms) (ar os) i:=by
    rw[Qk,Qt];constructor
    .intro hz y hy;have:=hz y ((C.mem y).mpr hy);simp only[lo,decide_eq_true_eq,not_or]at this;exact this
    intro wh y hy;have:=wh y ((C.mem y).mp hy);simp only[lo,decide_eq_true_eq,not_or];exact this
   refine ft (λq=>?_) (λq=>?_)
   .have q:(L.filter lo).length=0:=by have z:=Uw q;injection z with z;rw[aS]at z;omega
    have e:=Th.ve hL (hw.mp q);have e2:((cM (ar ms) (ar os) i:Nat):Int)+2=((cM (ar ms) (ar os) (i+1):Nat):Int):=by rw[e];omega
    refine⟨_,rfl,_,_,rfl,rfl,Yc (.int (i:Nat)),Yc (.ref l),E6,?_,KO,tL,by omega,Na⟩;rw[<-e2]
    rfl
   have q:¬(L.filter lo).length=0:=λz=>q (Ul (by rw[aS,z];rfl));have e:=Th.vf (λz=>q (hw.mpr z)) no;exact⟨Yc (.int (i:Nat)),Yc (.ref l),E6,by rw[e];rfl,KO,tL,by omega,Na⟩
  have hs:(bX Z (Sum.inl (i:Int):Key)).isSome=true:=OU λz=>h1 (by rw[RP]at z;rw[z];rfl);have e:=Th.sW (M7.mp hs);refine⟨Yc (.int (i:Nat)),v5,Z,by rw[e];rfl,s2,hd2,by omega,λj hj=>?_⟩;rw[O j hj];constructor
  .rintro⟨y,h2,h3⟩;exact⟨y,by omega,h3⟩
  rintro⟨y,h2,h3⟩;by_cases c:y=i
  .subst c;obtain⟨x,x1,x2⟩:=(O y U).mp hs;exact⟨x,x1,x2.trans h3⟩
  exact⟨y,by omega,h3⟩
 rintro σ H2 ⟨v4,v5,Z,rfl,s2,hd2,EJ,O⟩;have MF:((nV ms).length:Int).toNat=2*n:=by rw[Bc];omega
 have z:=k H2 s2;rw[<-Th.w9 T]at z;refine⟨_,rfl,?_⟩;rw[MF];exact z
theorem wt{f Z f2:Um}{fd O U:Uz}(B:Bl mg)(F:Fn K mg "_law_apart" i9 ["one","other"] f fd)(D:Fn K mg "_law_score" gZ ["one","other"] Z O)(J:Fn K mg "_law_walk" fO ["one","other","end","known"] f2 U):aO P w K mg base du 3 f fd ["one","other"] aI.zg:=by
 have G:aO P w K mg base du 2 Z O ["one","other"] aI.rO:=wq B D J;refine F.fn.ok vY (λvs H Q E h=>?_) (λji A outer s H vs Q E hr h=>?_)
 .obtain⟨a,b,n,ms,os,rfl,_⟩:=h
  rfl
 obtain⟨a,b,n,ms,os,rfl,ha,W,hb,V,k⟩:=h;refine⟨_,(aA (aU (aT dP (aT kE (aL aH rfl B.len bD (ae (pv 0) af)) (bo G D (hr.mono (by decide)) (ae (pv 0) (ae (pv 1) af)))) ao))),?_⟩;refine⟨_,rfl,a,_,rfl,.inl (aZ.of ha),_,rfl,_,rfl,a,b,n,ms,os,rfl,ha,W,hb,V,λH1 s1=>?_⟩;refine⟨_,_,rfl,rfl,_,_,rfl,rfl,⟨by decide,by decide⟩,?_⟩;have hle:=Th.jo (bJ W V);have e:(((nV ms).length:Int)-((Th.score (ar ms) (ar os) (2*n):Nat):Int))/2=(aC n ms os:Nat):=by
  rw[aS,W.len];have ev:=Th.mF (bJ W V) (by omega);unfold aC;omega
 dsimp only;rw[e];exact k H1 s1
end
section
seal L2.mV L2.PS L2.PE L2.PT
variable {P:Ux}{w:UA}{K:OM}{mg:UI->Option Uj}{base:UH}
theorem wx{f f1:Um}{fd iA:Uz}(B:Bl mg)(F:Fn K mg "_law_lacks" ja ["one","other"] f fd)(G:Fn K mg "_law_walk" fO ["one","other","end","known"] f1 iA):aO P w K mg base du 2 f fd ["one","other"] aI.GD:=by
 have z6:aO P w K mg base du 1 f1 iA ["one","other","end","known"] lJ:=pO B G;refine F.fn.ok fh (λZ H Q E h=>?_) (λji A outer s H Z Q E hr h=>?_)
 .obtain⟨a,b,n,ms,os,rfl,_⟩:=h
  rfl
 obtain⟨a,b,n,ms,os,rfl,ha,W,hb,WO,k⟩:=h;have T:=bJ W WO;have Kt:=W.small;have hu:=j7 hr;refine⟨_,(ah (aJ (i:=2) fh.nd rfl (Or.inl rfl) qV)
  (ah (aJ (i:=3) fh.nd rfl (Or.inl rfl) (bP af))
  (ah (b6 PassesOwn.never rfl (fU rfl B.range (ae (aL aH rfl B.len bD (ae (pv 0) af)) af)) (aK (i:=4) fh.nd rfl (Or.inl rfl)) (aA (bS (qO (lB hu (pv 4) (pv 2))) (ah (aJ (i:=5) fh.nd rfl (Or.inl rfl) (bo z6 G (hr.mono (by decide)) (ae (pv 0) (ae (pv 1) (ae (pv 4) (ae (pv 2) af))))))
  (ah (jK (ix:=6) (NC:=["at","one"]) fh.nd rfl (Or.inl rfl) rfl (jJ (c:=s.heap.objs.size+1) (j:=0) rfl (by decide +kernel) (by decide +kernel) rfl rfl rfl rfl rfl) (bp (pv 5)) (λ_ _ _ _=>(aK (i:=0) (show(["at","one"]:List UI).Nodup by decide +kernel) rfl (Or.inl rfl))) (λ_ _ _ _=>(i7 (aM fj (cj (nv (K:=K) rfl) (pv 1) (pv 0) (λ_ _=>rfl)) (pv 0) (aQ _)))) (λ_ _ _ _=>(pv 0)))
  (aA (bS (aM fj (aT eH (aL aH rfl B.len bD (ae (pv 5) af)) ao) ao (aQ _)) (aA (bh (d5 O7 Py Pz b8 (pv 3) (ae (bC (ae d9 (ae (aT dP (aL aH rfl B.len bD (ae (pv 5) af)) ao) af))) af)))) (aA (bS (aM fj (aL aH rfl B.len bD (ae (pv 6) af)) ao (aQ _)) (aA (bh (d5 O7 Py Pz b8 (pv 3) (ae (bC (ae d9 (ae (aT dP (aL aH rfl B.len bD (ae (pv 5) af)) ao) af))) af)))) (aA (bS (aM fj (aL aH rfl B.len bD (ae (eW (NC:=["at","other"]) rfl (jJ (c:=s.heap.objs.size+2) (j:=1) rfl (by decide +kernel) (by decide +kernel) rfl rfl rfl rfl rfl) (bp (pv 5)) (λ_ _ _ _=>(aK (i:=0) (show(["at","other"]:List UI).Nodup by decide +kernel) rfl (Or.inl rfl))) (λ_ _ _ _=>(i7 (aM fj (cj (nv (K:=K) rfl) (pv 1) (pv 0) (λ_ _=>rfl)) (pv 0) (aQ _)))) (λ_ _ _ _=>(pv 0))) af)) ao (aQ _)) (aA (bh (d5 O7 Py Pz b8 (pv 3) (ae (bC (ae d9 (ae (aT dP (aL aH rfl B.len bD (ae (pv 5) af)) ao) af))) af)))) (aA (bh (d5 O7 Py Pz b8 (pv 3) (ae (bC (ae d9 (ae (aT kE (aT dP (aL aH rfl B.len bD (ae (pv 5) af)) ao) ao) af))) af)))))))))))) bg)))
  (aA (aU (pv 3)))))),?_⟩
 intro d hd;have s0:aE H (upd H d (.dK [])):=ai hd;refine⟨(by show 0<=Uu;decide),λl hl=>?_⟩;have s1:aE (upd H d (.dK [])) (upd (upd H d (.dK [])) l (.lst [])):=ai hl;have MX:=s1 _ _ (ag (H:=H) (a:=d) (o:=.dK []));have G9:upd (upd H d (.dK [])) l (.lst []) l=Yc (.lst []):=ag;have hlH:H l=none:=s0.free hl;have Mv:=s0.trans s1;generalize upd (upd H d (.dK [])) l (.lst [])=H1 at s1 MX G9 Mv;have Bc:((nV ms).length:Int)=2*n:=by rw[aS,W.len];omega
 refine⟨_,rfl,a,_,rfl,.inl (aZ.of (Mv _ _ ha)),_,rfl,by rw[Bc];omega,by rw[Bc];omega,fV (lo:=0) (n:=((nV ms).length:Int).toNat) (λi σ H2=>∃(v4 v5 v6:Option V) (kv:List (Key×V)),σ=[Yc (.ref a),Yc (.ref b),Yc (.ref d),Yc (.ref l),v4,v5,v6]/\aE H H2/\H2 d=Yc (.dK kv)/\kv.length<=80*i/\aI.fq aI.lf H2 l (cC n ms os i) /\
   ∀j:Nat,j<2*n->((bX kv (Sum.inl (j:Int):Key)).isSome=true↔∃y,y<i/\Th.aB (ar ms) (ar os) y j))
  ⟨none,none,none,[],rfl,Mv,MX,ON _,aI.fq.nil G9,λj hj=>?_⟩ ?_ ?_⟩
 .constructor
  .intro z;cases z
  rintro⟨y,hy,_⟩;omega
 .rintro i σ H2 hi ⟨v4,v5,v6,kv,rfl,s2,hd2,EJ,yV,Ci⟩;have J:i<2*n:=by rw[Bc]at hi;omega
  rw[Ri];have M7:(bX kv (Sum.inl (i:Int):Key)).isSome=true↔¬bB (ar ms) (ar os) i:=by
   rw[Ci i J];constructor
   .rintro⟨y,h1,h2⟩ hL;have:=hL y (h2.symm T (by omega));omega
   intro hn;refine OU λno=>hn λy hy=>OU λz=>no ⟨y,by omega,hy.symm T J⟩
  refine⟨_,rfl,_,rfl,d,_,rfl,wU.k (k:=Sum.inl (i:Int)) hd2,_,rfl,?_⟩;refine ft (λh1=>?_) (λh1=>?_)
  .have Ao:¬(bX kv (Sum.inl (i:Int):Key)).isSome=true:=λz=>by rw[z]at h1;cases h1
   have hL:bB (ar ms) (ar os) i:=OU λz=>Ao (M7.mpr z);have KL:aI.vt n ms os (λj=>(bX kv (Sum.inl (j:Int):Key)).isSome=true):=λj hj hs=>by
    obtain⟨y,y1,y2⟩:=(Ci j hj).mp hs;exact⟨(Ci _ (T.fl j hj)).mpr ⟨y,y1,y2.sf⟩,(Ci _ (T.gl j hj)).mpr ⟨y,y1,y2.sg⟩⟩
   refine⟨_,rfl,_,rfl,_,rfl,_,rfl,a,b,d,n,i,ms,os,kv,rfl,s2 _ _ ha,W,s2 _ _ hb,WO,J,hd2,by omega,KL,Ao,λle L E6 H3 hle s3 Ft C Az abm J3=>?_⟩;have sv:aE H H3:=λc o q=>s3 c o (λz=>by rw[z,hd]at q;cases q) (s2 _ _ q);have MC:L.length<=80:=by
    have z:=Th.sub_len C.nd (m:=OV (2*n)) λy hy=>OX.mpr (((C.mem y).mp hy).lt T J);rw[OW]at z;omega
   have Na:∀j:Nat,j<2*n->((bX E6 (Sum.inl (j:Int):Key)).isSome=true↔∃y,y<i+1/\Th.aB (ar ms) (ar os) y j):=λj hj=>by
    rw[J3 j hj,Ci j hj];constructor
    .rintro(⟨y,h2,h3⟩|h)
     .exact⟨y,by omega,h3⟩
     exact⟨i,by omega,h⟩
    rintro⟨y,h2,h3⟩;by_cases c:y=i
    .subst c;exact .inr h3
    exact .inl ⟨y,by omega,h3⟩
   have E1:=aI.fq.L5 yV hd2 s3;have yn:((nV L).length:Int)=L.length:=by rw[aS]
   have od:=Th.kL T J C;have NY:=Th.jq C (Th.kR T J);have ha3:=sv _ _ ha;have hb3:=sv _ _ hb;have NU:=aI.uo n ms os i;have ndl:d≠l:=λz=>by obtain⟨Z,w1,_⟩:=yV.len;rw[<-z,hd2]at w1;cases w1
   have fin:∀(kk:Th.Kd) (q:Nat) (v6:Option V) (H4:Hp) (O:Um),Th.kd (ar ms) (ar os) i=kk->lack (2*n) (ar ms) (ar os) i=q->aE H3 H4->H4 O=none->∃Z,upd H4 O (.tup [.str (ks kk),.int (q:Nat)]) l=Yc (.lst Z)/\Z.length<Uu /\
     ∃(v4 v5 v7:Option V) (kv:List (Key×V)),[Yc (.ref a),Yc (.ref b),Yc (.ref d),Yc (.ref l),Yc (.int (i:Nat)),Yc (.ref le),v6]=[Yc (.ref a),Yc (.ref b),Yc (.ref d),Yc (.ref l),v4,v5,v7]/\aE H (upd (upd H4 O (.tup [.str (ks kk),.int (q:Nat)])) l (.lst (Z++[.ref O])))/\upd (upd H4 O (.tup [.str (ks kk),.int (q:Nat)])) l (.lst (Z++[.ref O])) d=Yc (.dK kv)/\kv.length<=80*(i+1) /\
      aI.fq aI.lf (upd (upd H4 O (.tup [.str (ks kk),.int (q:Nat)])) l (.lst (Z++[.ref O]))) l (cC n ms os (i+1))/\∀j:Nat,j<2*n->((bX kv (Sum.inl (j:Int):Key)).isSome=true↔∃y,y<i+1/\Th.aB (ar ms) (ar os) y j):=λkk q v6 H4 O e1 e2 s4 U=>by
    have s5:aE H4 (upd H4 O (.tup [.str (ks kk),.int (q:Nat)])):=ai U;obtain⟨Z,y1,y2,y3⟩:=(E1.same (s4.trans s5)).snoc (t:=O) (x:=(kk,q)) ag;refine⟨Z,y1,aY (by omega),Yc (.int (i:Nat)),Yc (.ref le),v6,E6,rfl,(sv.trans (s4.trans s5)).upd hlH,?_,by omega,?_,Na⟩
    .rw[aG ndl];exact s5 _ _ (s4 _ _ Az)
    rw[aI.rW,Uo hL,e1,e2];exact y3
   have lo1:=Th.uh T J C;have lo2:=Th.zh T J C
   let fa:Nat->Bool:=λy=>decide (ar ms y=y)
   let fb:Nat->Bool:=λy=>decide (ar os y=y)
   refine⟨_,rfl,le,rfl,⟨_,aZ.of Ft⟩,λD hD=>b9 (K:=K) (a:=le) (xs:=nV L) (λj σ H4=>∃v:Option V,σ=[v,Yc (.ref a)]/\aE H3 H4/\H4 D=Yc (.lst (nV ((L.take j).filter fa)))) ⟨none,rfl,ai hD,ag⟩ (λj σ H4 _ zq=>by obtain⟨_,_,s4,_⟩:=zq;exact aZ.of (s4 _ _ Ft)) ?_ ?_⟩
   .rintro j z σ H4 hz ⟨v,rfl,s4,h4⟩;obtain⟨x,hx,rfl⟩:=cX hz;have E3:=((C.mem x).mp (OP hx)).lt T J;refine⟨_,rfl,_,rfl,a,_,_,_,rfl,rfl,aZ.of (s4 _ _ ha3),W.ix E3,_,rfl,rfl,_,rfl,?_⟩;refine ft (λq1=>?_) (λq1=>?_)
    .have q1:ar ms x=x:=by have z:=Uw q1;injection z with z;omega
     refine⟨_,rfl,_,h4,aY ?_,Yc (.int (x:Nat)),rfl,s4.upd hD,?_⟩
     .rw[aS];have z:=Pm fa (L.take j);rw[Pu]at z;omega
     rw[ag,aI.take_snoc hx,Pa,Pe (by exact Ul q1),Qo,gi]
    have q1:¬ar ms x=x:=λz=>q1 (Ul (by rw[z]));refine⟨Yc (.int (x:Nat)),rfl,s4,?_⟩;rw[h4,aI.take_snoc hx,Pa,Pf (by show¬fa x=true;simp only[fa,decide_eq_true_eq];exact q1),Qo,Pj]
   rintro σ H4 ⟨v,rfl,s4,h4⟩;rw[aS,Pd]at h4;have Co:=s4 _ _ Ft;have yo:=E1.same s4;obtain⟨Kv,w0,_⟩:=yo.len;have eh:(L.length:Int)/2=((L.length/2:Nat):Int):=by omega
   refine⟨_,rfl,le,_,rfl,.inl (aZ.of Co),_,_,rfl,rfl,(by show(0:Int)<2;decide),rfl,_,rfl,?_⟩;refine ft (λh2=>?_) (λh2=>?_)
   .have o:L.length%2=1:=by
     have z:=Uw h2;injection z with z;rw[yn]at z;omega
    refine⟨_,rfl,.inl ⟨rfl,_,aZ.of w0⟩,_,rfl,le,_,rfl,.inl (aZ.of Co),_,_,rfl,rfl,⟨by decide,by decide⟩,(by show 2<=Uu;decide),λO U=>?_⟩;dsimp only;rw[yn,eh];have ek:Th.kd (ar ms) (ar os) i=.odd:=by unfold Th.kd;rw[Uo (od.mp o)]
    obtain⟨Z,y1,y2,y3⟩:=fin .odd (L.length/2) (Yc (.ref D)) H4 O ek (by unfold lack;rw[ek,Uk (by decide),<-NY]) s4 U;exact⟨l,Z,_,rfl,rfl,y1,y2,y3⟩
   have o:¬L.length%2=1:=λz=>h2 (Ul (by
    show V.int (((nV L).length:Int)%2)=V.int 1;rw[yn];have z2:(L.length:Int)%2=1:=by omega
    rw[z2]))
   have no:¬fZ (ar ms) (ar os) i:=λz=>o (od.mpr z);refine⟨_,rfl,D,_,rfl,.inl (aZ.of h4),rfl,_,rfl,?_⟩;refine ft (λh3=>?_) (λh3=>?_)
   .have la:Th.cI (ar ms) (ar os) i:=(lo1 no).mp (by
     have z:=Uw h3;injection z with z;rw[aS]at z;show(L.filter fa).length=2;omega)
    refine⟨_,rfl,.inl ⟨rfl,_,aZ.of w0⟩,_,rfl,le,_,rfl,.inl (aZ.of Co),_,_,rfl,rfl,⟨by decide,by decide⟩,(by show 2<=Uu;decide),λO U=>?_⟩;dsimp only;rw[yn,eh];have ek:Th.kd (ar ms) (ar os) i=.bare:=by unfold Th.kd;rw[Uk no,Uo la]
    obtain⟨Z,y1,y2,y3⟩:=fin .bare (L.length/2) (Yc (.ref D)) H4 O ek (by unfold lack;rw[ek,Uk (by decide),<-NY]) s4 U;exact⟨l,Z,_,rfl,rfl,y1,y2,y3⟩
   have la:¬Th.cI (ar ms) (ar os) i:=λz=>h3 (Ul (by
    have z:=(lo1 no).mpr z;have z:(L.filter fa).length=2:=z;rw[aS,z]
    rfl))
   refine⟨_,rfl,le,rfl,⟨_,aZ.of Co⟩,λD2 Cp=>b9 (K:=K) (a:=le) (xs:=nV L) (λj σ H5=>∃v:Option V,σ=[v,Yc (.ref b)]/\aE H4 H5/\H5 D2=Yc (.lst (nV ((L.take j).filter fb)))) ⟨none,rfl,ai Cp,ag⟩ (λj σ H5 _ zq=>by obtain⟨_,_,s5,_⟩:=zq;exact aZ.of (s5 _ _ Co)) ?_ ?_⟩
   .rintro j z σ H5 hz ⟨v,rfl,s5,h5⟩;obtain⟨x,hx,rfl⟩:=cX hz;have E3:=((C.mem x).mp (OP hx)).lt T J;refine⟨_,rfl,_,rfl,b,_,_,_,rfl,rfl,aZ.of (s5 _ _ (s4 _ _ hb3)),WO.ix E3,_,rfl,rfl,_,rfl,?_⟩;refine ft (λq1=>?_) (λq1=>?_)
    .have q1:ar os x=x:=by have z:=Uw q1;injection z with z;omega
     refine⟨_,rfl,_,h5,aY ?_,Yc (.int (x:Nat)),rfl,s5.upd Cp,?_⟩
     .rw[aS];have z:=Pm fb (L.take j);rw[Pu]at z;omega
     rw[ag,aI.take_snoc hx,Pa,Pe (by exact Ul q1),Qo,gi]
    have q1:¬ar os x=x:=λz=>q1 (Ul (by rw[z]));refine⟨Yc (.int (x:Nat)),rfl,s5,?_⟩;rw[h5,aI.take_snoc hx,Pa,Pf (by show¬fb x=true;simp only[fb,decide_eq_true_eq];exact q1),Qo,Pj]
   rintro σ H5 ⟨v,rfl,s5,h5⟩;rw[aS,Pd]at h5;have M6:=s5 _ _ Co;have Kw:=s4.trans s5;have w5:=s5 _ _ w0;refine⟨D2,_,rfl,.inl (aZ.of h5),rfl,_,rfl,?_⟩;refine ft (λh6=>?_) (λh6=>?_)
   .have lb:Th.c6 (ar ms) (ar os) i:=(lo2 no).mp (by
     have z:=Uw h6;injection z with z;rw[aS]at z;show(L.filter fb).length=2;omega)
    refine⟨_,rfl,.inl ⟨rfl,_,aZ.of w5⟩,_,rfl,le,_,rfl,.inl (aZ.of M6),_,_,rfl,rfl,⟨by decide,by decide⟩,(by show 2<=Uu;decide),λO U=>?_⟩;dsimp only;rw[yn,eh];have ek:Th.kd (ar ms) (ar os) i=.tied:=by unfold Th.kd;rw[Uk no,Uk la,Uo lb]
    obtain⟨Z,y1,y2,y3⟩:=fin .tied (L.length/2) (Yc (.ref D)) H5 O ek (by unfold lack;rw[ek,Uk (by decide),<-NY]) Kw U;exact⟨l,Z,_,rfl,rfl,y1,y2,y3⟩
   have lb:¬Th.c6 (ar ms) (ar os) i:=λz=>h6 (Ul (by
    have z:=(lo2 no).mpr z;have z:(L.filter fb).length=2:=z;rw[aS,z]
    rfl))
   refine⟨_,rfl,.inl ⟨rfl,_,aZ.of w5⟩,_,rfl,le,_,rfl,.inl (aZ.of M6),_,_,rfl,rfl,⟨by decide,by decide⟩,_,_,rfl,rfl,(by show 2<=Uu;decide),λO U=>?_⟩;dsimp only;have pos:0<L.length:=Rb ((C.mem i).mpr (Th.aB.refl i));rw[yn,show(L.length:Int)/2-1=((L.length/2-1:Nat):Int) by omega];have ek:Th.kd (ar ms) (ar os) i=.ring:=by unfold Th.kd;rw[Uk no,Uk la,Uk lb]
   obtain⟨Z,y1,y2,y3⟩:=fin .ring (L.length/2-1) (Yc (.ref D)) H5 O ek (by unfold lack;rw[ek,Uo rfl,<-NY]) Kw U;exact⟨l,Z,_,rfl,rfl,y1,y2,y3⟩
  have hs:(bX kv (Sum.inl (i:Int):Key)).isSome=true:=OU λz=>h1 (by rw[RP]at z;rw[z];rfl);refine⟨Yc (.int (i:Nat)),v5,v6,kv,rfl,s2,hd2,by omega,by rw[aI.rW,Uk (M7.mp hs),Pj];exact yV,λj hj=>?_⟩;rw[Ci j hj];constructor
  .rintro⟨y,h2,h3⟩;exact⟨y,by omega,h3⟩
  rintro⟨y,h2,h3⟩;by_cases c:y=i
  .subst c;obtain⟨x,x1,x2⟩:=(Ci y J).mp hs;exact⟨x,x1,x2.trans h3⟩
  exact⟨y,by omega,h3⟩
 rintro σ H2 ⟨v4,v5,v6,kv,rfl,s2,hd2,EJ,yV,Ci⟩;have MF:((nV ms).length:Int).toNat=2*n:=by rw[Bc];omega
 rw[MF]at yV;exact⟨_,rfl,k l H2 s2 yV⟩
theorem wz{f:Um}{fd:Uz}(B:Bl mg)(F:Fn K mg "_law_mixed" jb ["lacks"] f fd):aO P w K mg base du 1 f fd ["lacks"] aI.GG:=by
 refine F.fn.ok nX (λvs H Q E h=>?_) (λji A outer s H vs Q E hr h=>?_)
 .obtain⟨l,xs,rfl,_⟩:=h
  rfl
 obtain⟨l,xs,rfl,hT,hlen,k⟩:=h;refine⟨_,(ah (jK (ix:=1) (NC:=["kind","lack"]) nX.nd rfl (Or.inl rfl) rfl (ie rfl (by decide +kernel) (by decide +kernel)) (bp (pv 0)) (λ_ _ _ _=>(jI (K:=K) (n:=2) rfl rfl (aX (aK (i:=0) (show(["kind","lack"]:List UI).Nodup by decide +kernel) rfl (Or.inl rfl)) (aX (aK (i:=1) (show(["kind","lack"]:List UI).Nodup by decide +kernel) rfl (Or.inl rfl)) dO)))) (λ_ _ _ _=>fA) (λ_ _ _ _=>(pv 0)))
  (aA (aU (qP (eU lC d9 (pv 1) (by with_unfolding_all rfl)) (mB (eU lC d9 (pv 1) (by with_unfolding_all rfl))))))),?_⟩
 obtain⟨ts,t1,t2,t3⟩:=hT;refine⟨_,rfl,l,rfl,⟨_,aZ.of t1⟩,λD hD=>b9 (K:=K) (a:=l) (xs:=ts.map V.ref) (λi σ G=>∃Z v1:Option V,σ=[Z,v1]/\aE H G/\G D=Yc (.lst ((xs.take i).map λx=>V.str (ks x.1)))) ⟨none,none,rfl,ai hD,ag⟩ (λi σ G _ zq=>by obtain⟨_,_,_,J,_⟩:=zq;exact aZ.of (J _ _ t1)) ?_ ?_⟩
 .rintro i y σ G hy ⟨Z,v1,rfl,J,O⟩;have hi:i<ts.length:=by have z:=(OI.mp hy).1;rw[OH]at z;exact z
  obtain⟨x,hx⟩:∃x,xs[i]?=Yc x:=⟨_,OG (by omega)⟩
  have e2:=t3 i _ x (OG hi) hx;rw[OR,OG hi]at hy;obtain rfl:=Option.some.inj hy;refine⟨_,_,rfl,br.of (J _ _ e2),rfl,_,_,rfl,_,_,rfl,rfl,?_⟩;refine⟨_,rfl,_,O,aY (by rw[OH,Pu];omega),_,_,rfl,J.upd hD,?_⟩;rw[ag,aI.take_snoc hx,O5]
  rfl
 rintro σ G ⟨Z,v1,rfl,J,O⟩;rw[OH,t2,Pd]at O;have e:(xs.map λx=>V.str (ks x.1))=(xs.map (·.1)).map λx=>V.str (ks x):=by rw[Pp];rfl
 rw[e]at O;refine⟨_,rfl,D,_,rfl,.inl (aZ.of O),rfl,iP _,?_⟩;have i1:=iD .bare (xs.map (·.1));have i2:=iD .tied (xs.map (·.1));refine⟨_,rfl,?_⟩;show(if Hs (V.str (ks .bare)) _=true then _ else _);rw[i1];by_cases U:Th.Kd.bare∈xs.map (·.1)
 .have e0:aI.both (xs.map (·.1))=decide (Th.Kd.tied∈xs.map (·.1)):=by unfold aI.both;rw[Ul U,Tb]
  rw[Ul U];refine dI rfl ?_;refine⟨_,rfl,D,_,rfl,.inl (aZ.of O),rfl,iP _,?_⟩;show Q (V.bl (Hs (V.str (ks .tied)) _)) G;rw[i2,<-e0];exact k G J
 have e0:aI.both (xs.map (·.1))=false:=by unfold aI.both;rw[Up U,Qw]
 rw[Up U];refine cZ rfl ?_;show Q (V.bl false) G;rw[<-e0];exact k G J
end
section
variable {P:Ux}{w:UA}{K:OM}{mg:UI->Option Uj}{base:UH}
theorem pe{f f0 f1 f2 f3 CE CN CR J O:Um}{fd J4 iA jB mT:Uz}(B:Bl mg)(ME:mg "ClaspError" = some (.ref CE))(MN:mg "NoSuch" = some (.ref CN))(MR:mg "BadRow" = some (.ref CR))(MU:mg "Unlike" = some (.ref J))(MT:mg "TooMany" = some (.ref O))(XT:Ds K O)(XU:Ds K J)
  (pe1:RH K (.ref O) (.ref CE)=Yc true) (pe2:RH K (.ref J) (.ref CE)=Yc true)
  (n1:Pw K (.ref O) (.ref O)=Yc true) (n2:Pw K (.ref O) (.ref J)=Yc false) (n3:Pw K (.ref O) (.type "ValueError")=Yc true) (n4:Pw K (.ref O) (.ref CN)=Yc false) (n5:Pw K (.ref O) (.ref CR)=Yc false)
  (r1:Pw K (.ref J) (.ref O)=Yc false) (r2:Pw K (.ref J) (.ref J)=Yc true) (r3:Pw K (.ref J) (.type "ValueError")=Yc true) (r4:Pw K (.ref J) (.ref CN)=Yc false) (r5:Pw K (.ref J) (.ref CR)=Yc false)
  (F:Fn K mg "_law_refusal" fy ["way","one","other","number"] f fd) (F0:Fn K mg "fewest_many" d8 ["one","other"] f0 J4) (G0:aO P w K mg base (gf P w) 13 f0 J4 ["one","other"] (qH K J O)) (F1:Fn K mg "row_numbered" dE ["one","other","number"] f1 iA) (G1:aO P w K mg base (gf P w) 14 f1 iA ["one","other","number"] (nR K J O)) (F2:Fn K mg "number_of_row" df ["one","other","deeds"] f2 jB) (G2:aO P w K mg base (gf P w) 14 f2 jB ["one","other","deeds"] (qI K J O)) (F3:Fn K mg "works_on_way" dD ["one","other"] f3 mT) (G3:aO P w K mg base (gf P w) 8 f3 mT ["one","other"] (nS J O)):aO P w K mg base du 15 f fd ["way","one","other","number"] aI.pJ:=by
 refine F.fn.okO gy (λvs H Q E h=>?_) (λji A outer s H vs Q E hr h own=>?_)
 .obtain⟨a,b,way,n,m,x,ms,os,rfl,_⟩:=h
  rfl
 obtain⟨a,b,way,n,m,x,ms,os,rfl,hw3,hn,ha,W,hb,hm,U⟩:=h;have Nb:eI 14 _:=hr.mono (by decide);have abr:eI 13 _:=hr.mono (by decide);have hr8:eI 8 _:=hr.mono (by decide);refine⟨_,ah (aJ (i:=4) gy.nd rfl (Or.inl rfl) (bP af))
  (ER own gy.nd (i:=5) rfl rfl ME
   (yY (aM fj (pv 0) ao (aQ _)) (ny (vi G0 F0 abr (ae (pv 1) (ae (pv 2) af))))
    (yY (aM fj (pv 0) ao (aQ _)) (ny (vi G1 F1 Nb (ae (pv 1) (ae (pv 2) (ae (pv 3) af)))))
     (yY (aM fj (pv 0) ao (aQ _)) (ny (vi G2 F2 Nb (ae (pv 1) (ae (pv 2) (ae (bP (ae (bC (ae (pv 3) (ae (pv 3) af))) af)) af)))))
      (ny (vi G3 F3 hr8 (ae (pv 1) (ae (pv 2) af)))))))
   (tb:=λcls e D σ H'=>∃(k:Bool) (v0 v1 v2 v3 v4:Option V),cls=.ref (if k then O else J)/\σ=[v0,v1,v2,v3,v4,Yc (.ref e)]/\∀(l:Um) (H2:Hp),H' l=none->aE H' H2->H2 l=Yc (.lst [.bl k,.bl (!k),.bl true,.bl false])->D.nx [v0,v1,v2,v3,Yc (.ref l),Yc (.ref e)] H2)
   (tr:=λcls e D σ H'=>∃(l:Um) (v0 v1 v2 v3 v5:Option V),σ=[v0,v1,v2,v3,Yc (.ref l),v5]/\D.rt (.ref l) H')
   (λcls e oe he=>rF λD σ H' hR=>?suite) (λcls e oe he=>rF λD σ H' hR=>?after) (aA (aU (pv 4)))),?_⟩
 case suite =>
  obtain⟨Z,v0,v1,v2,v3,v4,rfl,rfl,q⟩:=hR;have X:Ds K (if Z=true then O else J):=by cases Z;exact XU;exact XT
  have p1:Pw K (.ref (if Z=true then O else J)) (.ref O)=Yc Z:=by cases Z;exact r1;exact n1
  have p2:Pw K (.ref (if Z=true then O else J)) (.ref J)=Yc (!Z):=by cases Z;exact r2;exact n2
  have p3:Pw K (.ref (if Z=true then O else J)) (.type "ValueError")=Yc true:=by cases Z;exact r3;exact n3
  have p4:Pw K (.ref (if Z=true then O else J)) (.ref CN)=Yc false:=by cases Z;exact r4;exact n4
  have p5:Pw K (.ref (if Z=true then O else J)) (.ref CR)=Yc false:=by cases Z;exact r5;exact n5
  generalize(if Z=true then O else J)=C at he X p1 p2 p3 p4 p5;refine⟨_,ah (aJ (i:=4) gy.nd rfl (Or.inl rfl) (bP (ae (aL (kO he X) rfl B.isinstance fu (ae (pv 5) (ae (i4 (v:=.ref O) rfl MT rfl) af))) (ae (aL (kO he X) rfl B.isinstance fu (ae (pv 5) (ae (i4 (v:=.ref J) rfl MU rfl) af))) (ae (aL (kO he X) rfl B.isinstance fu (ae (pv 5) (ae (Fz (v:=.ty "ValueError") rfl B.ValueError tm rfl) af))) af)))))
   (aA (bh (d5 O7 Py Pz b8 (pv 4) (ae (Hh (aL (kO he X) rfl B.isinstance fu (ae (pv 5) (ae (i4 (v:=.ref CN) rfl MN rfl) af))) (mB (aL (kO he X) rfl B.isinstance fu (ae (pv 5) (ae (i4 (v:=.ref CR) rfl MR rfl) af))))) af)))),?_⟩
  refine⟨_,rfl,_,_,.inl ⟨_,rfl,p1⟩,rfl,_,rfl,_,_,.inl ⟨_,rfl,p2⟩,rfl,_,rfl,_,_,.inr ⟨_,rfl,p3⟩,rfl,by show 3<=Uu;decide,λl hl=>?_⟩;have uY:upd H' l (.lst [.bl Z,.bl (!Z),.bl true]) l=Yc (.lst [.bl Z,.bl (!Z),.bl true]):=ag;refine⟨_,rfl,.inl ⟨rfl,_,aZ.of uY⟩,_,rfl,_,_,.inl ⟨_,rfl,p4⟩,rfl,_,rfl,m6 ⟨_,rfl,_,_,.inl ⟨_,rfl,p5⟩,rfl,l,_,_,rfl,rfl,uY,by show 3<Uu;decide,?_⟩⟩;exact q l _ hl ((ai hl).upd hl) ag
 case after =>
  obtain⟨l,v0,v1,v2,v3,v5,rfl,q⟩:=hR;exact⟨_,aA (aU (pv 4)),_,rfl,q⟩
 refine⟨by show 0<=Uu;decide,λl0 hl0=>?_⟩;have s0:aE H (upd H l0 (.lst [])):=ai hl0;have e0:upd H l0 (.lst []) l0=Yc (.lst []):=ag;generalize upd H l0 (.lst [])=H1 at s0 e0;have ha:=s0 _ _ ha;have hb:=s0 _ _ hb;refine⟨λcls _ H'=>aE H H'/\((cls=.ref J/\n≠m)\/(cls=.ref O/\n=m/\Rf way n ms os)),?_,?_⟩
 .have un:n≠m->(∀H',aE H1 H'->aE H H'/\(((.ref J:Uj)=.ref J/\n≠m)\/((.ref J:Uj)=.ref O/\n=m/\Rf way n ms os))):=λz H' s'=>⟨s0.trans s',.inl ⟨rfl,z⟩⟩
  have far:n=m->Rf way n ms os->(∀H',aE H1 H'->aE H H'/\(((.ref O:Uj)=.ref J/\n≠m)\/((.ref O:Uj)=.ref O/\n=m/\Rf way n ms os))):=λz r H' s'=>⟨s0.trans s',.inr ⟨rfl,z,r⟩⟩
  have wk:n=m->ak n os:=λz=>by
   rcases U with⟨q,_⟩|⟨_,q,_⟩|⟨_,q,_⟩
   .exact Us z q
   .exact q
   exact q
  have rf:n=m->way≠0->Rf way n ms os:=λz zw=>by
   rcases U with⟨q,_⟩|⟨_,_,q,_⟩|⟨_,_,q,_⟩
   .exact Us z q
   .exact q
   exact Us q zw
  refine⟨_,rfl,rfl,_,rfl,?_⟩;by_cases w0:way=0
  .subst w0;refine dI (Ul rfl) ?_;refine⟨_,rfl,_,rfl,a,b,n,m,ms,os,rfl,hn,br.of ha,W,br.of hb,hm,λG=>⟨wk G,λnf=>?_,λfr H' s'=>?_⟩,λjj=>un jj _ λ_ _ e=>e⟩
   .rcases U with⟨q,_⟩|⟨_,_,q,_⟩|⟨_,_,_,_,g,k⟩
    .exact Us G q
    .exact Us (q.1 (by decide)) nf
    exact⟨g,λH' s'=>⟨_,rfl,k l0 H' (s0.trans s') (s' _ _ e0)⟩⟩
   rcases U with⟨q,_⟩|⟨_,_,q,_⟩|⟨_,_,_,nf,_⟩
   .exact Us G q
   .exact far G q H' s'
   exact Us fr nf
  have wi:∀j:Nat,way≠j->¬V.int ((way:Nat):Int)=V.int ((j:Nat):Int):=λj z q=>z (by injection q with q;omega);refine cZ (Up (wi 0 w0)) ?_;refine⟨_,rfl,rfl,_,rfl,?_⟩;by_cases w1:way=1
  .subst w1;refine dI (Ul rfl) ?_;exact⟨_,rfl,_,rfl,_,rfl,a,b,n,m,x,ms,os,rfl,hn,br.of ha,W,br.of hb,hm,λG=>⟨wk G,λnf=>Us ((rf G (by decide)).1 (by decide)) nf,λfr H' s'=>far G (rf G (by decide)) H' s'⟩,λjj=>un jj _ λ_ _ e=>e⟩
  refine cZ (Up (wi 1 w1)) ?_;refine⟨_,rfl,rfl,_,rfl,?_⟩;by_cases w2:way=2
  .subst w2;refine dI (Ul rfl) ?_;refine⟨_,rfl,_,rfl,_,rfl,_,rfl,by show 2<=Uu;decide,λt ht=>⟨by show 1<=Uu;decide,λl hl=>?_⟩⟩;have s2:aE H1 (upd (upd H1 t (.tup [.int x,.int x])) l (.lst [.ref t])):=(ai ht).trans (ai hl);exact⟨a,b,n,m,_,ms,os,rfl,hn,br.of (s2 _ _ ha),W,br.of (s2 _ _ hb),hm,λG=>⟨wk G,λnf=>Us ((rf G (by decide)).1 (by decide)) nf,λfr H' s'=>far G (rf G (by decide)) H' (s2.trans s')⟩,λjj=>un jj _ s2⟩
  refine cZ (Up (wi 2 w2)) ?_;have w3:way=3:=by omega
  subst w3;exact⟨_,rfl,_,rfl,a,b,n,m,ms,os,rfl,hn,ha,W,hb,hm,λG=>⟨wk G,λle=>Us ((rf G (by decide)).2 rfl) (by omega),λfr H' s'=>far G (rf G (by decide)) H' s'⟩,λjj=>un jj _ λ_ _ e=>e⟩
 rintro cls H' ⟨sH,⟨rfl,z⟩|⟨rfl,z,r⟩⟩
 .refine⟨pe2,λe he=>⟨false,_,_,_,_,_,rfl,rfl,λl H2 hl s2 h2=>⟨l,_,_,_,_,_,rfl,?_⟩⟩⟩;rcases U with⟨_,k⟩|⟨q,_⟩|⟨q,_⟩
  .exact k l H2 (sH.trans s2) h2
  .exact Us q z
  exact Us q z
 refine⟨pe1,λe he=>⟨true,_,_,_,_,_,rfl,rfl,λl H2 hl s2 h2=>⟨l,_,_,_,_,_,rfl,?_⟩⟩⟩;rcases U with⟨q,_⟩|⟨_,_,_,k⟩|⟨_,_,w0,nf,_⟩
 .exact Us z q
 .exact k l H2 (sH.trans s2) h2
 exact Us (r.1 (by omega)) nf
end
section
seal L2.mV L2.PS L2.PE L2.PT L2.PA
variable {P:Ux}{w:UA}{K:OM}{mg:UI->Option Uj}{base:UH}
theorem wA{f:Um}{fd:Uz}(B:Bl mg)(F:Fn K mg "_law_sides" g6 ["tied","bare"] f fd):aO P w K mg base du 1 f fd ["tied","bare"] aI.Bb:=by
 refine F.fn.ok fi (λvs H Q E h=>?_) (λji A outer s H vs Q E hr h=>?_)
 .obtain⟨t,b,rfl,_⟩:=h
  rfl
 obtain⟨t,b,rfl,ht,k⟩:=h;refine⟨_,(ah (aJ (i:=2) fi.nd rfl (Or.inl rfl) (bP af))
  (ah (aJ (i:=3) fi.nd rfl (Or.inl rfl) (bP af))
  (ah (b6 PassesOwn.never rfl (fU rfl B.range (ae (aT eG (pv 0) (pv 1)) af)) (aK (i:=4) fi.nd rfl (Or.inl rfl)) (ah (aJ (i:=5) fi.nd rfl (Or.inl rfl) (bP (ae (aT eG (aT fo ao (pv 4)) ao) (ae (aT fo ao (pv 4)) af))))
  (ah (aJ (i:=6) fi.nd rfl (Or.inl rfl) (bP (ae (aT fo ao (pv 4)) (ae (aT eG (aT fo ao (pv 4)) ao) af))))
  (aA (bS (aM j5 (pv 4) (pv 0) (aQ _)) (ah (bh (d5 O7 PN PQ eV (pv 2) (ae (pv 5) af)))
  (aA (bh (d5 O7 PN PQ eV (pv 3) (ae (pv 6) af))))) (ah (bh (d5 O7 PN PQ eV (pv 2) (ae (pv 6) af)))
  (aA (bh (d5 O7 PN PQ eV (pv 3) (ae (pv 5) af))))))))))
  (aA (aU (bC (ae (b7 bK rfl B.tuple eK (ae (pv 2) af)) (ae (b7 bK rfl B.tuple eK (ae (pv 3) af)) af)))))))),?_⟩
 refine⟨by show 0<=Uu;decide,λD h1=>⟨by show 0<=Uu;decide,λL2 h2=>?_⟩⟩;have s1:aE H (upd (upd H D (.lst [])) L2 (.lst [])):=(ai h1).trans (ai h2);have q1:upd (upd H D (.lst [])) L2 (.lst []) D=Yc (.lst []):=(ai h2) _ _ ag;have q2:upd (upd H D (.lst [])) L2 (.lst []) L2=Yc (.lst []):=ag;have ne:D≠L2:=λz=>by rw[z]at q1;rw[<-z,ag]at h2;cases h2
 have NV:H L2=none:=by rw[aG (λz=>ne z.symm)]at h2;exact h2
 generalize upd (upd H D (.lst [])) L2 (.lst [])=H0 at s1 q1 q2;refine⟨_,rfl,_,rfl,_,_,rfl,rfl,_,rfl,by omega,by omega,fV (lo:=0) (n:=(((t:Nat):Int)+(b:Nat)).toNat) (λi σ G=>∃(v4 v5 v6:Option V),σ=[Yc (.int (t:Nat)),Yc (.int (b:Nat)),Yc (.ref D),Yc (.ref L2),v4,v5,v6]/\aE H G/\G D=Yc (.lst (nV (sg i (pX t))))/\G L2=Yc (.lst (nV (sg i (uJ t)))))
  ⟨none,none,none,rfl,s1,q1,q2⟩ ?_ ?_⟩
 .rintro i σ G hi ⟨v4,v5,v6,rfl,s3,e1,e2⟩;have aha:i<20:=by omega
  rw[Ri];have cm:Bm 2 ((i:Nat):Int):=.inl ⟨by decide,by decide⟩;refine⟨_,rfl,_,_,rfl,rfl,cm,_,_,rfl,rfl,_,rfl,_,_,rfl,rfl,cm,by show 2<=Uu;decide,λR1 Z=>?_⟩;have sR1:aE G (upd G R1 (.lst [.int (2*((i:Nat):Int)+1),.int (2*((i:Nat):Int))])):=ai Z;have J:upd G R1 (.lst [.int (2*((i:Nat):Int)+1),.int (2*((i:Nat):Int))]) R1=Yc (.lst [.int (2*((i:Nat):Int)+1),.int (2*((i:Nat):Int))]):=ag;generalize upd G R1 (.lst [.int (2*((i:Nat):Int)+1),.int (2*((i:Nat):Int))])=H4 at sR1 J;refine⟨_,rfl,_,_,rfl,rfl,cm,_,rfl,_,_,rfl,rfl,cm,_,_,rfl,rfl,by show 2<=Uu;decide,λR2 hR2=>?_⟩;have sR2:aE H4 (upd H4 R2 (.lst [.int (2*((i:Nat):Int)),.int (2*((i:Nat):Int)+1)])):=ai hR2;have O:upd H4 R2 (.lst [.int (2*((i:Nat):Int)),.int (2*((i:Nat):Int)+1)]) R2=Yc (.lst [.int (2*((i:Nat):Int)),.int (2*((i:Nat):Int)+1)]):=ag;generalize upd H4 R2 (.lst [.int (2*((i:Nat):Int)),.int (2*((i:Nat):Int)+1)])=H5 at sR2 O;have Fp:=sR1.trans sR2;have nL1:∀{r:Um}{o:HO},G r=none->G D=Yc o->r≠D:=λh h' z=>by rw[z,h']at h;cases h
  have nL2:∀{r:Um}{o:HO},G r=none->G L2=Yc o->r≠L2:=λh h' z=>by rw[z,h']at h;cases h
  have U:G R2=none:=sR1.free hR2;have a1:=nL1 Z e1;have a2:=nL2 Z e2;have a3:=nL1 U e1;have a4:=nL2 U e2;have e1:=Fp _ _ e1;have e2:=Fp _ _ e2;have J:=sR2 _ _ J;have c1:V.int (2*((i:Nat):Int))=V.int ((2*i:Nat):Int):=congrArg V.int (by omega);have c2:V.int (2*((i:Nat):Int)+1)=V.int ((2*i+1:Nat):Int):=congrArg V.int (by omega);rw[c1,c2]at J O;have lg:∀g:Nat->Bool,(nV (sg i g)).length<=40:=λg=>by rw[aS,gC.iU];omega
  have up:∀(H6:Hp) (X Y:List V),H5 D=Yc (.lst X)->H5 L2=Yc (.lst Y)->∀X' Y',aE H (upd (upd H5 D (.lst X')) L2 (.lst Y')):=λ_ _ _ _ _ X' Y'=>((s3.trans Fp).upd h1).upd NV;have app:∀(g:Nat->Bool) (u v:Nat),nV (sg i g)++[V.int (u:Nat),V.int (v:Nat)]=nV (sg i g++[u,v]):=λg u v=>by unfold nV;rw[O5];rfl
  have s40:40+2<=sizeLine:=by decide
  refine⟨_,rfl,_,rfl,_,_,rfl,rfl,_,rfl,?_⟩;by_cases c:i<t
  .refine dI (Ul (by omega)) ?_;refine⟨_,rfl,.inl ⟨rfl,_,aZ.of e1⟩,_,rfl,D,R1,_,_,rfl,rfl,e1,J,by have:=lg (pX t);show _+2<=_;omega,?_⟩;refine⟨_,rfl,.inl ⟨rfl,_,aZ.of (by rw[aG (λz=>ne z.symm)];exact e2)⟩,_,rfl,L2,R2,_,_,rfl,rfl,by rw[aG (λz=>ne z.symm)];exact e2,by rw[aG a3];exact O,by have:=lg (uJ t);show _+2<=_;omega,?_⟩;refine⟨_,_,_,rfl,up H5 _ _ e1 e2 _ _,?_,?_⟩
   .rw[aG ne,ag,nT,Uo (show pX t i=true from Ul c),app]
   rw[ag,nT,Uk (show¬uJ t i=true by unfold uJ;rw[Ul c];decide),app]
  refine cZ (Up (by omega)) ?_;refine⟨_,rfl,.inl ⟨rfl,_,aZ.of e1⟩,_,rfl,D,R2,_,_,rfl,rfl,e1,O,by have:=lg (pX t);show _+2<=_;omega,?_⟩;refine⟨_,rfl,.inl ⟨rfl,_,aZ.of (by rw[aG (λz=>ne z.symm)];exact e2)⟩,_,rfl,L2,R1,_,_,rfl,rfl,by rw[aG (λz=>ne z.symm)];exact e2,by rw[aG a1];exact J,by have:=lg (uJ t);show _+2<=_;omega,?_⟩;refine⟨_,_,_,rfl,up H5 _ _ e1 e2 _ _,?_,?_⟩
  .rw[aG ne,ag,nT,Uk (show¬pX t i=true by unfold pX;rw[Up c];decide),app]
  rw[ag,nT,Uo (show uJ t i=true by unfold uJ;rw[Up c];rfl),app]
 rintro σ G ⟨v4,v5,v6,rfl,s3,e1,e2⟩;have en:(((t:Nat):Int)+(b:Nat)).toNat=t+b:=by omega
 rw[en]at e1 e2;refine⟨_,rfl,D,_,rfl,.inl e1,λt1 H4 s4 Gn=>?_⟩;refine⟨_,rfl,L2,_,rfl,.inl (s4 _ _ e2),λt2 H5 s5 yF=>?_⟩;refine⟨by show 2<=Uu;decide,λr Kz=>?_⟩;exact k r t1 t2 _ (s3.trans (s4.trans (s5.trans (ai Kz)))) ag (ai Kz _ _ (s5 _ _ Gn)) (ai Kz _ _ yF)
theorem mR{f f1:Um}{fd O:Uz}(F:Fn K mg "_law_refuses_all" dk ["one","other","ways","number"] f fd)(D:Fn K mg "_law_refusal" fy ["way","one","other","number"] f1 O)(G:aO P w K mg base du 15 f1 O ["way","one","other","number"] aI.pJ):aO P w K mg base du 16 f fd ["one","other","ways","number"] nU:=by
 refine F.fn.ok iX (λvs H Q E h=>?_) (λji A outer s H vs Q E hr h=>?_)
 .obtain⟨a,b,l,ws,n,x,ms,os,rfl,_⟩:=h
  rfl
 obtain⟨a,b,l,ws,n,x,ms,os,rfl,hn,ha,W,hb,WO,hl,wl,hw,k⟩:=h;have hu:=j7 hr;refine⟨_,(ah (b6 PassesOwn.never rfl (bp (pv 2)) (aK (i:=4) iX.nd rfl (Or.inl rfl)) (aA (bS (aM (mG 0 hu) (bo G D (hr.mono (by decide)) (ae (pv 4) (ae (pv 0) (ae (pv 1) (ae (pv 3) af))))) (bP (ae dv (ae dv (ae dv (ae dv af))))) (aQ _)) (aA (aU dv)) bg)))
  (aA (aU dv))),?_⟩
 refine⟨_,rfl,l,rfl,⟨_,aZ.of hl⟩,cy (K:=K) (a:=l) (xs:=nV ws) (λi σ U=>∃v4:Option V,σ=[Yc (.ref a),Yc (.ref b),Yc (.ref l),Yc (.int x),v4]/\aE H U) ⟨none,rfl,λ_ _ e=>e⟩ (λi σ U _ zq=>by obtain⟨_,_,J⟩:=zq;exact aZ.of (J _ _ hl)) ?_ ?_⟩
 .rintro i y σ U hy ⟨v4,rfl,J⟩;obtain⟨wy,hz,rfl⟩:=cX hy;obtain⟨w3,rf⟩:=hw wy (OP hz);refine⟨_,rfl,_,rfl,_,rfl,_,rfl,a,b,wy,n,n,x,ms,os,rfl,w3,hn,J _ _ ha,W,J _ _ hb,WO.len,.inr (.inl ⟨rfl,WO,rf,λlg H4 s4 J9=>?_⟩)⟩;refine⟨by show 4<=Uu;decide,λlt Z=>?_⟩;refine⟨lg,lt,rfl,rfl,ET (ai Z _ _ J9) ag,_,rfl,m6 ?_⟩;exact⟨_,rfl,J.trans (s4.trans (ai Z))⟩
 rintro σ U ⟨v4,rfl,J⟩;exact k U J
theorem pg{f f0 f1 f2 f3 f4 f5 CU CT:Um}{fd J4 iA jB mT zX B9:Uz}(B:Bl mg)(F:Fn K mg "_law_edge_good" fE ["tied","bare","cell"] f fd)(fz:Fn K mg "fewest_many" d8 ["one","other"] f0 J4)(gM:aO P w K mg base (gf P w) 13 f0 J4 ["one","other"] (qH K CU CT))(eS:Fn K mg "row_numbered" dE ["one","other","number"] f1 iA)(gz:aO P w K mg base (gf P w) 14 f1 iA ["one","other","number"] (nR K CU CT))(Z:Fn K mg "number_of_row" df ["one","other","deeds"] f2 jB)(fH:aO P w K mg base (gf P w) 14 f2 jB ["one","other","deeds"] (qI K CU CT))(eT:Fn K mg "works_on_way" dD ["one","other"] f3 mT)(gA:aO P w K mg base (gf P w) 8 f3 mT ["one","other"] (nS CU CT))(U:Fn K mg "_law_sides" g6 ["tied","bare"] f4 zX)(G:Fn K mg "_law_refuses_all" dk ["one","other","ways","number"] f5 B9)(J:aO P w K mg base du 16 f5 B9 ["one","other","ways","number"] nU):aO P w K mg base du 17 f fd ["tied","bare","cell"] aI.EX:=by
 have yu:aO P w K mg base du 1 f4 zX ["tied","bare"] aI.Bb:=wA B U;refine F.fn.ok bc (λvs H Q E h=>?_) (λji A outer s H vs Q E hr h=>?_)
 .obtain⟨t,b,c,rfl,_⟩:=h
  rfl
 obtain⟨t,b,c,rfl,⟨NJ,e5⟩,c0,c1,k⟩:=h;have hu:=j7 hr;refine⟨_,(ah (kD (bo yu U (hr.mono (by decide)) (ae (pv 0) (ae (pv 1) af))) (jF rfl (aX (aK (i:=3) bc.nd rfl (Or.inl rfl)) (aX (aK (i:=4) bc.nd rfl (Or.inl rfl)) dO))))
  (ah (aJ (i:=5) bc.nd rfl (Or.inl rfl) (aT eG (pv 0) (pv 1)))
  (ah (aJ (i:=6) bc.nd rfl (Or.inl rfl) (qP (eU i6 (pv 0) ao (aQ _)) (mB (eU i6 (pv 1) ao (aQ _)))))
  (ah (bS (PW.pt (Aa (aM i6 (pv 5) ao (aQ _)) (uO (PW.pt (jE (iI (pv 6)) (i5 (aM i6 (pv 5) ao (aQ _)))))))) (aA (aU (bo J G (hr.mono (by decide)) (ae (pv 3) (ae (pv 4) (ae (bP (ae ao (ae ao (ae ao (ae ao af))))) (ae (pv 2) af))))))) bg)
  (ah (bS (PW.pt (jE (aM i6 (pv 5) ao (aQ _)) (i5 (mA (iI (bo J G (hr.mono (by decide)) (ae (pv 3) (ae (pv 4) (ae (bP (ae ao af)) (ae (pv 2) af)))))))))) (aA (aU dv)) bg)
  (ah (bS (PW.pt (jE (aM j5 (pv 5) ao (aQ _)) (jE (mA (iI (pv 6))) (i5 (aM qS (aL aH rfl B.len bD (ae (iO gA eT (hr.mono (by decide)) (ae (pv 3) (ae (pv 4) af))) af)) (cj eD (bP (ae ao (ae ao (ae ao (ae ao (ae ao (ae ao af))))))) (pv 5) (λ_ _=>rfl)) (aQ _)))))) (aA (aU dv)) bg)
  (ah (aJ (i:=7) bc.nd rfl (Or.inl rfl) (iO gM fz (hr.mono (by decide)) (ae (pv 3) (ae (pv 4) af))))
  (ah (aJ (i:=8) bc.nd rfl (Or.inl rfl) ao)
  (ah (b6 PassesOwn.never rfl (fU rfl B.range (ae (pv 5) af)) (aK (i:=9) bc.nd rfl (Or.inl rfl)) (aA (aJ (i:=8) bc.nd rfl (Or.inl rfl) (aT fo (pv 8) (aT eG (pv 9) ao)))))
  (ah (bS (PW.pt (Aa (PW.pt (jE (mA (iI (pv 6))) (i5 (aM qS (pv 7) (pv 8) (aQ _))))) (uO (aM j5 (pv 7) (pv 8) (aQ _))))) (aA (aU dv)) bg)
  (ah (bS (aM i6 (pv 5) ao (aQ _)) (aA (aU dv)) bg)
  (ah (bS (aM fj (aT eH (pv 2) ao) ao (aQ _)) (aA (aU (eU fj (aL aH rfl B.len bD (ae (iO gz eS (hr.mono (by decide)) (ae (pv 3) (ae (pv 4) (ae (aT eH (aT dP (pv 2) ao) (pv 7)) af)))) af)) (pv 5) (aQ _)))) bg)
  (ah (jK (ix:=10) (NC:=["stave"]) bc.nd rfl (Or.inl rfl) rfl (ie rfl (by decide +kernel) (by decide +kernel)) (fU rfl B.range (ae (pv 0) af)) (λ_ _ _ _=>(aK (i:=0) (show(["stave"]:List UI).Nodup by decide +kernel) rfl (Or.inl rfl))) (λ_ _ _ _=>fA) (λ_ _ _ _=>(bC (ae (aT fo ao (pv 0)) (ae (aT fo ao (pv 0)) af)))))
  (ah (aJ (i:=10) bc.nd rfl (Or.inl rfl) (aT C4 (pv 10) (eW (NC:=["stave"]) rfl (ie rfl (by decide +kernel) (by decide +kernel)) (tT rfl B.range (ae (pv 0) (ae (pv 5) af))) (λ_ _ _ _=>(aK (i:=0) (show(["stave"]:List UI).Nodup by decide +kernel) rfl (Or.inl rfl))) (λ_ _ _ _=>fA) (λ_ _ _ _=>(bC (ae (aT fo ao (pv 0)) (ae (aT eG (aT fo ao (pv 0)) ao) af)))))))
  (ah (aJ (i:=11) bc.nd rfl (Or.inl rfl) (iO fH Z (hr.mono (by decide)) (ae (pv 3) (ae (pv 4) (ae (pv 10) af)))))
  (aA (aU (qP (eU Ah ao (pv 11) (aQ _)) (mB (eU j5 (pv 11) (pv 7) (aQ _))))))))))))))))))))),?_⟩
 refine⟨_,rfl,_,rfl,t,b,rfl,by omega,λr p q H1 s1 hr1 KI KJ=>?_⟩;have W:=gC.fB (n:=t+b) (f:=pX t) (by omega);have WO:=gC.fB (n:=t+b) (f:=uJ t) (by omega);have S3:=aI.EU (t+b) (pX t) (uJ t);have ap:=aI.zU (t:=t) (b:=b) (by omega);have nb:=aI.yk (t:=t) (b:=b) (by omega);have fw:=aI.EV (t:=t) (b:=b) (by omega);generalize hms:sg (t+b) (pX t)=ms at *;generalize hos:sg (t+b) (uJ t)=os at *;refine⟨r,_,rfl,br.of hr1,rfl,_,_,rfl,_,_,rfl,rfl,?_⟩;refine⟨_,rfl,_,rfl,_,_,rfl,rfl,?_⟩;obtain⟨O,vV⟩:∃O:Bool,O=(decide (0<t)&&decide (0<b)):=⟨_,rfl⟩
 have Nc:O=true↔¬aP (t+b) ms os:=by
  rw[nb,vV,PX,Uy,Uy];omega
 have ct1:0<t->decide ((0:Int)<((t:Nat):Int))=true:=λh=>Ul (by omega);have ct0:¬ 0<t->decide ((0:Int)<((t:Nat):Int))=false:=λh=>Up (by omega);have cb:0<t->decide ((0:Int)<((b:Nat):Int))=O:=λh=>by rw[vV,Ul h,Tb];exact decide_eq_decide.mpr (by omega)
 have cf:¬ 0<t->O=false:=λh=>by rw[vV,Up h,Qw]
 have fr:sP (t+b) ms os↔(12<t+b\/(O=true/\6<t+b)):=by unfold sP;rw[ap,Nc]
 refine' sk ?m0 ?x0
 case m0 =>
  intro hN;refine⟨_,rfl,_,_,rfl,rfl,_,rfl,?_⟩;by_cases t0:0<t
  .refine dI (ct1 t0) ⟨_,rfl,_,_,rfl,rfl,?_⟩;dsimp only;rw[cb t0];exact hN
  refine cZ (ct0 t0) ?_;rw[cf t0]at hN;exact hN
 have Nd:∀(H':Hp) (ws:List Nat) (l:Um),aE H1 H'->H' l=Yc (.lst (nV ws))->ws.length<=4->(∀w∈ws,w<=3/\Rf w (t+b) ms os)->∀Q':VK,(∀H2,aE H' H2->Q' (.bl true) H2)->nU [.ref p,.ref q,.ref l,.int c] H' Q' E0:=λH' ws l sH hl wl hw Q' kq=>⟨p,q,l,ws,t+b,c,ms,os,rfl,by omega,sH _ _ KI,W,sH _ _ KJ,WO,hl,wl,hw,kq⟩
 by_cases far:12<t+b\/(O=true/\6<t+b)
 .have rfw:∀w∈[0,1,2,3],w<=3/\Rf w (t+b) ms os:=λw hw=>by
   have w3:w<=3:=by simp at hw;omega
   exact⟨w3,λ_=>fr.mpr far,λ_=>by rw[ap];omega⟩
  by_cases Hc:12<t+b
  .refine⟨_,rfl,_,_,rfl,rfl,_,rfl,dI (Ul (by omega)) (Bv ?_)⟩;refine⟨_,rfl,_,rfl,by show 4<=Uu;decide,λl hl=>⟨_,rfl,?_⟩⟩;exact Nd _ [0,1,2,3] l (ai hl) ag (by decide) rfw _ λH2 s2=>k H2 (s1.trans ((ai hl).trans s2))
  obtain⟨f1,f2⟩:=far.resolve_left Hc;refine⟨_,rfl,_,_,rfl,rfl,_,rfl,cZ (Up (by omega)) ⟨_,rfl,O,rfl,dI f1 ⟨_,rfl,_,_,rfl,rfl,_,rfl,dI (Ul (by omega)) ?_⟩⟩⟩;refine⟨_,rfl,_,rfl,by show 4<=Uu;decide,λl hl=>⟨_,rfl,?_⟩⟩;exact Nd _ [0,1,2,3] l (ai hl) ag (by decide) rfw _ λH2 s2=>k H2 (s1.trans ((ai hl).trans s2))
 have Hc:t+b<=12:=QO λz=>far (.inl z);have n6:O=true->t+b<=6:=λh=>QO λz=>far (.inr ⟨h,z⟩);have abv:decide ((12:Int)<((t:Nat):Int)+((b:Nat):Int))=false:=Up (by omega);have c6f:O=true->decide ((6:Int)<((t:Nat):Int)+((b:Nat):Int))=false:=λh=>Up (by have:=n6 h;omega);refine' sk ?m1 ?x1
 case m1 =>
  intro hN;exact⟨_,rfl,_,_,rfl,rfl,_,rfl,cZ abv ⟨_,rfl,O,rfl,ft (λh=>⟨_,rfl,_,_,rfl,rfl,_,rfl,cZ (c6f h) hN⟩) (λ_=>m6 hN)⟩⟩
 have c5t:5<t+b->decide ((5:Int)<((t:Nat):Int)+((b:Nat):Int))=true:=λh=>Ul (by omega);have c5f:¬ 5<t+b->decide ((5:Int)<((t:Nat):Int)+((b:Nat):Int))=false:=λh=>Up (by omega);have Nf:t+b<=20:=by omega
 have w3:5<t+b->∀w∈[3],w<=3/\Rf w (t+b) ms os:=λn5 w hw=>by
  rw[OS.mp hw];exact⟨ON _,λz=>Us z (by decide),λ_=>by rw[ap];exact n5⟩
 refine' zV H1 ?m2 ?x2
 case m2 =>
  intro hN;by_cases n5:5<t+b
  .refine⟨_,rfl,_,_,rfl,rfl,_,rfl,dI (c5t n5) ⟨_,rfl,_,rfl,by show 1<=Uu;decide,λl hl=>⟨_,rfl,?_⟩⟩⟩;exact⟨p,q,l,[3],t+b,c,ms,os,rfl,Nf,ai hl _ _ KI,W,ai hl _ _ KJ,WO,ag,by decide,w3 n5,λH2 s2=>⟨true,rfl,m6 (hN H2 ((ai hl).trans s2))⟩⟩
  exact⟨_,rfl,_,_,rfl,rfl,_,rfl,cZ (c5f n5) (m6 (hN H1 λ_ _ e=>e))⟩
 case x2 =>
 intro H2 s2;have hp2:=s2 _ _ KI;have hq2:=s2 _ _ KJ;have HR:=s1.trans s2;have c6t:t+b<6->decide (((t:Nat):Int)+((b:Nat):Int)<(6:Int))=true:=λh=>Ul (by omega);have c6n:¬t+b<6->decide (((t:Nat):Int)+((b:Nat):Int)<(6:Int))=false:=λh=>Up (by omega);have un:O=false->¬(0<t/\0<b):=λh z=>by rw[vV,Ul z.1,Ul z.2]at h;cases h
 have Ka:t+b<6->O=false->t+b=5:=λh1 h2=>e5 (un h2) (by omega);have nbm:O=false->aP (t+b) ms os:=λh2=>OU λz=>by rw[Nc.mpr z]at h2;cases h2
 have Ng:t+b<6->∀w,vQ (t+b) os ms w->gC.Mh (t+b) w os:=λh1 w hw=>gC.Gd.lim (B:=55) (.inl ⟨rfl,by omega⟩) (hw.work W) WO;have Nh:t+b<6->O=false->∀L:List (List Nat),L.Nodup->(∀w∈L,vQ (t+b) os ms w)->L.length<64:=λh1 h2 L nd hL=>by
  have E5:=nbm h2;have n5:=Ka h1 h2;rw[<-hms,<-hos,n5]at hL E5;have:=gC.yj E5 nd hL;omega
 have Ni:t+b<6->O=false->∀L:List (List Nat),L.Nodup->(∀w,w∈L↔vQ (t+b) os ms w)->L.length=32:=λh1 h2 L nd hL=>by
  have E5:=nbm h2;have n5:=Ka h1 h2;rw[<-hms,<-hos,n5]at hL E5;exact gC.JS (λs _=>aI.HP t s) E5 nd hL
 have on5:t+b<6->¬ 5<aC (t+b) ms os:=λh1=>by rw[ap];omega
 have ix5:t+b<6->O=false->uU [V.int 1,.int 2,.int 4,.int 8,.int 16,.int 32] (((t:Nat):Int)+((b:Nat):Int))=Yc (.int 32):=λh1 h2=>by
  have:=Ka h1 h2;rw[show((t:Nat):Int)+((b:Nat):Int)=((5:Nat):Int) by omega];exact ic (j:=5) rfl
 refine' zV H2 ?m3 ?x3
 case m3 =>
  intro hN;by_cases l6:t+b<6
  .refine⟨_,rfl,_,_,rfl,rfl,_,rfl,dI (c6t l6) ⟨_,rfl,O,rfl,?_⟩⟩;by_cases m0:O=false
   .refine dI (by rw[m0];rfl) ⟨_,rfl,_,rfl,p,q,t+b,t+b,ms,os,rfl,Nf,hp2,W,hq2,WO.len,λ_=>⟨WO,λ_=>⟨Ng l6,Nh l6 m0,λl L H3 _ s3 tl nd hL=>?_⟩,λz=>Us z (on5 l6)⟩,λz=>Us rfl z⟩;obtain⟨ts,hl,z2,_⟩:=tl;have hv:(ts.map V.ref).length=32:=by rw[OH,z2,Ni l6 m0 L nd hL]
    refine⟨l,_,rfl,.inl (aZ.of hl),by show 6<=Uu;decide,λlx hlx=>⟨_,rfl,lx,_,_,_,rfl,rfl,aZ.of ag,ix5 l6 m0,?_⟩⟩;rw[hv];exact⟨rfl,_,rfl,cZ rfl (hN _ (s3.trans (ai hlx)))⟩
   have m1:O=true:=by cases O with
    |true=>rfl
    |false=>exact Us rfl m0
   exact cZ (by rw[m1];rfl) (m6 (hN H2 λ_ _ e=>e))
  exact⟨_,rfl,_,_,rfl,rfl,_,rfl,cZ (c6n l6) (m6 (hN H2 λ_ _ e=>e))⟩
 case x3 =>
 intro H3 s3;have hp3:=s3 _ _ hp2;have hq3:=s3 _ _ hq2;have sv:=HR.trans s3;have E7:¬sP (t+b) ms os:=λz=>far (fr.mp z);have gd:t+b<=8->gC.Gd 42 (t+b) os ms:=λh8=>.inr ⟨rfl,h8,S3,λz=>n6 (Nc.mpr z)⟩;have vge:lX (t+b)<=vR (t+b) ms os:=gC.Mf (t+b) S3 W WO ap;have vun:O=false->vR (t+b) ms os=lX (t+b):=λh=>by
  have E5:aP (t+b) ms os:=OU λz=>by rw[Nc.mpr z]at h;cases h
  rw[gC.vM S3 W WO E5,ap]
 refine⟨_,rfl,_,rfl,p,q,t+b,t+b,ms,os,rfl,Nf,br.of hp3,W,br.of hq3,WO.len,λ_=>⟨WO,λ_=>⟨?_,λH4 s4=>?_⟩,λz=>Us z E7⟩,λz=>Us rfl z⟩
 .by_cases m0:O=true
  .exact .inr ⟨42,gd (by have:=n6 m0;omega)⟩
  exact .inl (OU λz=>m0 (Nc.mpr z))
 generalize hv:vR (t+b) ms os=many at *;have hp4:=s4 _ _ hp3;have KN:=s4 _ _ hq3;have KO:=sv.trans s4;refine⟨_,rfl,_,rfl,by omega,by omega,fV (lo:=0) (n:=(((t:Nat):Int)+(b:Nat)).toNat) (λi σ H5=>∃v9:Option V,σ=[Yc (.int (t:Nat)),Yc (.int (b:Nat)),Yc (.int c),Yc (.ref p),Yc (.ref q),Yc (.int (((t:Nat):Int)+(b:Nat))),Yc (.bl O),Yc (.int (many:Nat)),Yc (.int (lX i:Nat)),v9,none,none]/\H5=H4) ⟨none,rfl,rfl⟩ ?_ ?_⟩
 .rintro i σ H5 hi ⟨v9,rfl,rfl⟩;rw[Ri];refine⟨_,rfl,_,rfl,_,_,rfl,rfl,_,_,rfl,rfl,.inr ⟨by omega,by omega⟩,?_⟩;refine⟨Yc (.int (i:Nat)),?_,rfl⟩;have e:((lX i:Nat):Int)*(((i:Nat):Int)+1)=((lX (i+1):Nat):Int):=by
   show _=(((i+1)*lX i:Nat):Int)
   rw[Rj,Int.mul_comm];rfl
  rw[<-e]
  rfl
 rintro σ H5 ⟨v9,rfl,rfl⟩;have en:(((t:Nat):Int)+(b:Nat)).toNat=t+b:=by omega
 rw[en];generalize abw:lX (t+b)=due at *;have dne:O=false->decide (V.int ((many:Nat):Int)=V.int ((due:Nat):Int))=true:=λh=>Ul (by rw[vun h]);have dlt:decide (((many:Nat):Int)<((due:Nat):Int))=false:=Up (by omega);refine' sk ?m4 ?x4
 case m4 =>
  intro hN;by_cases m0:O=false
  .refine⟨_,rfl,O,rfl,dI (by rw[m0];rfl) ⟨_,rfl,_,rfl,rfl,_,rfl,?_⟩⟩;exact cZ (by rw[vun m0];simp) ⟨_,rfl,_,rfl,_,_,rfl,rfl,_,rfl,cZ dlt hN⟩
  have m1:O=true:=by cases O with
   |true=>rfl
   |false=>exact Us rfl m0
  exact⟨_,rfl,O,rfl,cZ (by rw[m1];rfl) (m6 ⟨_,rfl,_,rfl,_,_,rfl,rfl,_,rfl,cZ dlt hN⟩)⟩
 case x4 =>
 by_cases n8:8<t+b
 .exact⟨_,rfl,_,_,rfl,rfl,_,rfl,dI (Ul (by omega)) (k _ KO)⟩
 refine⟨_,rfl,_,_,rfl,rfl,_,rfl,cZ (Up (by omega)) ?_⟩;have gd8:=gd (by omega);have ahm:0<due:=by
  rw[<-abw];exact gC.vG _
 have many1:0<many:=by omega
 by_cases odd:c%2=1
 .refine⟨_,rfl,_,_,rfl,rfl,(by show(0:Int)<2;decide),rfl,_,rfl,dI (Ul (congrArg V.int odd)) ?_⟩;refine⟨_,rfl,_,rfl,_,rfl,_,_,rfl,rfl,⟨by decide,by decide⟩,_,rfl,_,_,rfl,rfl,(by show(0:Int)<((many:Nat):Int);omega),?_⟩;have e0:=QD (c/2) (show((many:Nat):Int)≠0 by omega);have e1:=QE (c/2) (show(0:Int)<((many:Nat):Int) by omega);obtain⟨y,hy⟩:∃y:Nat,c/2%((many:Nat):Int)=(y:Nat):=⟨(c/2%((many:Nat):Int)).toNat,by omega⟩
  refine⟨p,q,t+b,t+b,_,ms,os,rfl,Nf,br.of hp4,W,br.of KN,WO.len,λ_=>⟨WO,λ_=>⟨y,hy,gd8,by rw[hv];omega,λl H6 r hl s6 tl lr=>?_⟩,λz=>Us z E7⟩,λz=>Us rfl z⟩;obtain⟨ts,z1,z2,_⟩:=tl;refine⟨l,_,rfl,.inl (aZ.of z1),_,rfl,rfl,?_⟩;have e:decide (V.int (((ts.map V.ref).length:Nat):Int)=V.int (((t:Nat):Int)+((b:Nat):Int)))=true:=Ul (congrArg V.int (by rw[OH,z2,lr,ap];omega));rw[e];exact k _ (KO.trans s6)
 refine⟨_,rfl,_,_,rfl,rfl,(by show(0:Int)<2;decide),rfl,_,rfl,cZ (Up (λz=>odd (by injection z))) ?_⟩;have cm:∀i:Nat,Bm 2 ((i:Nat):Int):=λi=>.inl ⟨by decide,by decide⟩;refine⟨_,rfl,_,rfl,by omega,by omega,λD hD=>qZ (lo:=0) (n:=((t:Nat):Int).toNat) (λi σ H6=>∃v0:Option V,σ=[v0]/\aE H5 H6/\aI.fq pf H6 D ((OV i).map λs=>(2*s,2*s))) ⟨none,rfl,ai hD,aI.fq.nil ag⟩ ?_ ?_⟩
 .rintro i σ H6 hi ⟨v0,rfl,s6,h6⟩;rw[Ri];refine⟨_,rfl,_,_,rfl,rfl,cm i,_,rfl,_,_,rfl,rfl,cm i,by show 2<=Uu;decide,λtp p0=>?_⟩;obtain⟨ws,y1,y2,y3⟩:=(h6.same (ai p0)).snoc (t:=tp) (x:=(2*i,2*i)) ag;refine⟨ws,y1,aY (by rw[y2,OH,OW];omega),Yc (.int (i:Nat)),rfl,(s6.trans (ai p0)).upd hD,?_⟩;rw[Qg,O5];exact y3
 rintro σ H6 ⟨v0,rfl,s6,h6⟩;rw[Pq]at h6;obtain⟨ds,d1,d2,d3⟩:=id h6;rw[OH,OW]at d2;refine⟨_,rfl,_,rfl,_,rfl,_,_,rfl,⟨by omega,by omega,by omega,by omega⟩,λD2 Cp=>qZ (lo:=((t:Nat):Int)) (n:=(((t:Nat):Int)+((b:Nat):Int)-((t:Nat):Int)).toNat) (λi σ H7=>∃v0:Option V,σ=[v0]/\aE H6 H7/\aI.fq pf H7 D2 ((OV i).map λs=>(2*(t+s),2*(t+s)+1))) ⟨none,rfl,ai Cp,aI.fq.nil ag⟩ ?_ ?_⟩
 .rintro i σ H7 hi ⟨v0,rfl,s7,h7⟩;have ei:((t:Nat):Int)+((i:Nat):Int)=((t+i:Nat):Int):=by omega
  rw[ei];refine⟨_,rfl,_,_,rfl,rfl,cm (t+i),_,rfl,_,_,rfl,rfl,cm (t+i),_,_,rfl,rfl,by show 2<=Uu;decide,λtp p0=>?_⟩;obtain⟨ws,y1,y2,y3⟩:=(h7.same (ai p0)).snoc (t:=tp) (x:=(2*(t+i),2*(t+i)+1)) ag;refine⟨ws,y1,aY (by rw[y2,OH,OW];omega),Yc (.int ((t+i:Nat):Int)),rfl,(s7.trans (ai p0)).upd Cp,?_⟩;rw[Qg,O5];exact y3
 rintro σ H7 ⟨v0,rfl,s7,h7⟩;rw[show(((t:Nat):Int)+((b:Nat):Int)-((t:Nat):Int)).toNat=b by omega]at h7;obtain⟨es,g1,g2,g3⟩:=h7;rw[OH,OW]at g2;have ahn:100<=sizeLine:=by decide
 refine⟨D,D2,_,_,rfl,rfl,s7 _ _ d1,g1,by rw[OH,OH,d2,g2];omega,λL hL=>?_⟩;have s8:aE H7 (upd H7 L (.lst (ds.map V.ref++es.map V.ref))):=ai hL;have T:aI.fq pf (upd H7 L (.lst (ds.map V.ref++es.map V.ref))) L (((OV t).map λs=>(2*s,2*s))++(OV b).map λs=>(2*(t+s),2*(t+s)+1)):=by
  refine⟨ds++es,by rw[ag,O5],by rw[OQ,OQ,OH,OH,OW,OW,d2,g2],λi u x e1 e2=>?_⟩;by_cases hi:i<ds.length
  .rw[Pg hi]at e1;rw[Pg (by rw[OH,OW];omega)]at e2;exact s8 _ _ (s7 _ _ (d3 i u x e1 e2))
  rw[Pk (by omega)]at e1;rw[Pk (by rw[OH,OW];omega)]at e2;rw[OH,OW]at e2;rw[d2]at e1;exact s8 _ _ (g3 _ u x e1 e2)
 have HU:aE H5 (upd H7 L (.lst (ds.map V.ref++es.map V.ref))):=s6.trans (s7.trans s8);generalize upd H7 L (.lst (ds.map V.ref++es.map V.ref))=H8 at s8 T HU;have nl:=aI.Ez WO fw S3 W;refine⟨_,rfl,_,rfl,_,rfl,p,q,t+b,t+b,_,ms,os,rfl,Nf,br.of (HU _ _ hp4),W,br.of (HU _ _ KN),WO.len,λ_=>⟨WO,λ_=>⟨L,_,rfl,gd8,T,fw,λH9 s9=>?_⟩,λz=>Us z E7⟩,λz=>Us rfl z⟩;rw[hv]at nl;refine⟨_,rfl,_,_,rfl,rfl,_,rfl,dI (Ul (by omega)) ⟨_,rfl,_,rfl,_,_,rfl,rfl,?_⟩⟩;dsimp only;rw[Ul (by omega)];exact k _ (KO.trans (HU.trans s9))
theorem Kb{Cc O G jY sD sF:Um}{t0 t1 t2:XO}(B:Bl mg)(ZD:vh K mg "BadDeed" Cc)(Z:vh K mg "Unlike" O)(ZT:vh K mg "TooMany" G)(ME:mg "ClaspError" = some (.ref jY))(MN:mg "NoSuch" = some (.ref sD))(MR:mg "BadRow" = some (.ref sF))(wB:mg "MOST_APART" = some (.int 12 t0))(km:mg "MOST_APART_CROSSING" = some (.int 6 t1))(lY:mg "MOST_APART_LISTED" = some (.int 5 t2))(XT:Ds K G)(XU:Ds K O)
  (pe1:RH K (.ref G) (.ref jY)=Yc true) (pe2:RH K (.ref O) (.ref jY)=Yc true) (n1:Pw K (.ref G) (.ref G)=Yc true) (n2:Pw K (.ref G) (.ref O)=Yc false) (n3:Pw K (.ref G) (.type "ValueError")=Yc true) (n4:Pw K (.ref G) (.ref sD)=Yc false) (n5:Pw K (.ref G) (.ref sF)=Yc false) (r1:Pw K (.ref O) (.ref G)=Yc false) (r2:Pw K (.ref O) (.ref O)=Yc true) (r3:Pw K (.ref O) (.type "ValueError")=Yc true) (r4:Pw K (.ref O) (.ref sD)=Yc false) (r5:Pw K (.ref O) (.ref sF)=Yc false)
  {f0 f1 f2 f3 f4 f5 f6 f7 f8 f9 f10 f11 f12 f13 f14 f15 f16 f17 f18 f19 f20 f21 f22 f23 f24 f25 f26 f27 f28 f29 f30 f31 f32 f33 f34 f35 f36 f37 f38 f39 f40 f41 f42 f43 f44 f45 f46:Um} {J4 iA jB mT zX B9 E2 Cb Cq fd9 abx aby abz abA abB abC abD abE abF abG abH abI abJ abK abL abM abN abO abP abQ abR abS abT abU abV abW abX abY abZ ab0 ab1 ab2 ab4 ab5 ab6 ab7 Nj:Uz} (yv:Fn K mg "staves_in" gU ["work"] f0 J4) (qh:Fn K mg "refuse_unlike" d6 ["one","other"] f1 iA) (jX:Fn K mg "loose_ends" eZ ["work"] f2 jB) (g8:Fn K mg "fits_work" eN ["work","deed"] f3 mT) (qi:Fn K mg "refuse_misfit" d7 ["work","deed"] f4 zX) (dN:Fn K mg "reclasped" dM ["work","deed"] f5 B9) (iB:Fn K mg "freed_ends" dU ["work","deed"] f6 E2) (wC:Fn K mg "clasp_ends" gu ["mates","one","other"] f7 Cb) (wD:Fn K mg "least_pair" gv ["work","deed"] f8 Cq) (cg:Fn K mg "threads" fc ["one","other"] f9 fd9) (sG:Fn K mg "open_threads" eO ["one","other"] f10 abx) (qj:Fn K mg "walked_thread" c8 ["start","first","second"] f11 aby) (yw:Fn K mg "mark_ends" gW ["seen","ends"] f12 abz) (yx:Fn K mg "least_end" gX ["thread"] f13 abA) (lA:Fn K mg "thread_score" eP ["one","other"] f14 abB) (sI:Fn K mg "apart_by" iW ["one","other"] f15 abC) (dF:Fn K mg "nearer_deeds" cD ["one","other"] f16 abD) (jC:Fn K mg "ends_in" jy ["laid","kind"] f17 abE) (om:Fn K mg "splitting_pairs" dj ["ends"] f18 abF) (ph:Fn K mg "crossing_pairs" dB ["bare","tied"] f19 abG) (sJ:Fn K mg "ordered_pair" cW ["end","mate"] f20 abH) (fz:Fn K mg "fewest_many" d8 ["one","other"] f21 abI) (J:Fn K mg "refuse_uncounted" bL ["one","other"] f22 abJ) (hJ:Fn K mg "refuse_beyond" c9 ["most","one","other"] f23 abK) (dY:Fn K mg "has_both" fL ["laid"] f24 abL) (gB:Fn K mg "rows_between" cE ["one","other","counts"] f25 abM) (sM:Fn K mg "lacked_deeds" dC ["thread"] f26 abN) (qm:Fn K mg "shuffled_rows" de ["lacks"] f27 abO) (gI:Fn K mg "choices" gH ["many","chosen"] f28 abP) (fS:Fn K mg "own_rows" fN ["lack"] f29 abQ) (eT:Fn K mg "works_on_way" dD ["one","other"] f30 abR) (eS:Fn K mg "row_numbered" dE ["one","other","number"] f31 abS) (jD:Fn K mg "ways_on" iH ["now","other","counts"] f32 abT) (hU:Fn K mg "number_of_row" df ["one","other","deeds"] f33 abU) (gN:Fn K mg "_law_cell_at" fx ["script","k"] f34 abV) (yy:Fn K mg "_law_mates" gY ["flow","staves"] f35 abW) (oq:Fn K mg "_law_halves" iz ["script","most"] f36 abX) (sN:Fn K mg "_law_walk" fO ["one","other","end","known"] f37 abY) (yz:Fn K mg "_law_score" gZ ["one","other"] f38 abZ) (pP:Fn K mg "_law_apart" i9 ["one","other"] f39 ab0) (pQ:Fn K mg "_law_lacks" ja ["one","other"] f40 ab1) (pR:Fn K mg "_law_mixed" jb ["lacks"] f41 ab2) (U:Fn K mg "_law_refusal" fy ["way","one","other","number"] f42 ab4) (yA:Fn K mg "_law_sides" g6 ["tied","bare"] f43 ab5) (je:Fn K mg "_law_refuses_all" dk ["one","other","ways","number"] f44 ab6) (ki:Fn K mg "_law_edge_good" fE ["tied","bare","cell"] f45 ab7) (Nk:Fn K mg "law" EY ["script"] f46 Nj):aO P w K mg base du 18 f46 Nj ["script"] (C8 K):=by
 have cH:=zW (P:=P) (w:=w) (base:=base) B Z cg qh jX sG qj yw yx;have sO:=qd B lA cg cH;have z8:=yq B sI yv lA sO;have eQ:=n0 B dF cg cH jC ph om sJ g8 wD iB;have eR:=wd (P:=P) (w:=w) (base:=base) B ZD dN g8 qi iB wC;have kj:=mP ZT hJ sI z8;have fT:=kl B wB km J cg cH dY hJ kj;have Kc:=jd B gB cg cH dY sM qm gI fS dF eQ dN eR 6;have gM:=pb fz J fT gB Kc;have lS:=wj jD gB Kc dF eQ dN eR;have gz:=oh eS J fT gB Kc jD lS;have fH:=mQ B hU J fT jD lS;have gA:=oi B lY eT hJ kj dF eQ dN eR;have mm:=lj (P:=P) (w:=w) (base:=base) B gN;have wF:=tO (P:=P) (w:=w) (base:=base) B oq gN yy;have yB:=wt (P:=P) (w:=w) (base:=base) B pP yz sN;have yC:=wx (P:=P) (w:=w) (base:=base) B pQ sN;have yD:=wz (P:=P) (w:=w) (base:=base) B pR;have gO:=pe B ME MN MR Z.g ZT.g XT XU pe1 pe2 n1 n2 n3 n4 n5 r1 r2 r3 r4 r5 U fz gM eS gz hU fH eT gA;have ot:=mR je U gO;have qo:=pg B ki fz gM eS gz hU fH eT gA yA je ot;refine Nk.fn.ok fQ (λvs H Q E h=>?_) (λji A outer s H vs Q E hr h=>?_)
 .obtain⟨a,ns,rfl,_⟩:=h
  rfl
 obtain⟨a,ns,rfl,hS,hlen,k⟩:=h;have hu:=j7 hr;refine⟨_,(ah (aJ (i:=1) fQ.nd rfl (Or.inl rfl) (bP (ae (bC (ae ao (ae ao af))) (ae (bC (ae ao (ae ao af))) (ae (bC (ae ao (ae ao af))) (ae (bC (ae ao (ae ao af))) (ae (bC (ae ao (ae ao af))) (ae (bC (ae ao (ae ao af))) (ae (bC (ae ao (ae ao af))) (ae (bC (ae ao (ae ao af))) (ae (bC (ae ao (ae ao af))) (ae (bC (ae ao (ae ao af))) (ae (bC (ae ao (ae ao af))) (ae (bC (ae ao (ae ao af))) (ae (bC (ae ao (ae ao af))) af)))))))))))))))
  (ah (aJ (i:=2) fQ.nd rfl (Or.inl rfl) (aT dP (bo mm gN (hr.mono (by decide)) (ae (pv 0) (ae ao af))) ao))
  (ah (bS (aM fj (aT eH (pv 2) ao) ao (aQ _)) (ah (aJ (i:=3) fQ.nd rfl (Or.inl rfl) (cj eD (pv 1) (aT eH (aT dP (pv 2) ao) (aL aH rfl B.len bD (ae (pv 1) af))) (λ_ _=>rfl)))
  (aA (aU (bo qo ki (hr.mono (by decide)) (ae (cj ej (pv 3) ao (λ_ _=>rfl)) (ae (cj ej (pv 3) ao (λ_ _=>rfl)) (ae (aT eH (aT dP (pv 2) ao) (aT CJ ao ao)) af))))))) bg)
  (ah (kD (bo wF oq (hr.mono (by decide)) (ae (pv 0) (ae ao af))) (jF rfl (aX (aK (i:=4) fQ.nd rfl (Or.inl rfl)) (aX (aK (i:=5) fQ.nd rfl (Or.inl rfl)) dO))))
  (ah (aJ (i:=6) fQ.nd rfl (Or.inl rfl) (aT kE (aT eH (aT dP (bo mm gN (hr.mono (by decide)) (ae (pv 0) (ae ao af))) ao) (aT CJ ao ao)) ao))
  (ah (aJ (i:=7) fQ.nd rfl (Or.inl rfl) (bo yD pR (hr.mono (by decide)) (ae (bo yC pQ (hr.mono (by decide)) (ae (pv 4) (ae (pv 5) af))) af)))
  (ah (aJ (i:=8) fQ.nd rfl (Or.inl rfl) (bo yB pP (hr.mono (by decide)) (ae (pv 4) (ae (pv 5) af))))
  (ah (aJ (i:=9) fQ.nd rfl (Or.inl rfl) (Hh (eU i6 (pv 8) ao (aQ _)) (mB (qP (eU i6 (pv 8) ao (aQ _)) (mB (pv 7))))))
  (rF (R:=λD σ H2=>∃(L l1 l2:Um) (n:Nat) (ms os:List Nat) (cell number:Int) (mx fr:Bool),σ=[Yc (.ref a),Yc (.ref L),Yc (.int cell),none,Yc (.ref l1),Yc (.ref l2),Yc (.int number),Yc (.bl mx),Yc (.int (aC n ms os:Nat)),Yc (.bl fr),none,none,none]/\H2 l1=Yc (.lst (nV ms))/\ak n ms/\H2 l2=Yc (.lst (nV os))/\ak n os/\n<=20/\(mx=true↔¬aP n ms os)/\(fr=true↔sP n ms os)/\D.rt=Q) λD σ H2 hR=>?rest1))))))))),?_⟩
 case rest1 =>
  obtain⟨L,l1,l2,n,ms,os,cell,number,mx,fr,rfl,h1,W,h2,WO,hn,vV,Cj,hD⟩:=hR;refine⟨_,(ah (aJ (i:=10) fQ.nd rfl (Or.inl rfl) (aT Dv (b7 bK rfl B.tuple eK (ae (pv 5) af)) (bC (ae (aL aH rfl B.len bD (ae (pv 5) af)) (ae (aT eG (aL aH rfl B.len bD (ae (pv 5) af)) ao) af)))))
  (rF (R:=λD σ H2=>∃(L l1 l2:Um) (n:Nat) (ms os:List Nat) (cell number:Int) (mx fr:Bool) (m:Um),σ=[Yc (.ref a),Yc (.ref L),Yc (.int cell),none,Yc (.ref l1),Yc (.ref l2),Yc (.int number),Yc (.bl mx),Yc (.int (aC n ms os:Nat)),Yc (.bl fr),Yc (.ref m),none,none]/\H2 m=Yc (.tup (nV (os++[2*n,2*n+1])))/\H2 l1=Yc (.lst (nV ms))/\ak n ms/\H2 l2=Yc (.lst (nV os))/\ak n os/\n<=20/\(mx=true↔¬aP n ms os)/\(fr=true↔sP n ms os)/\D.rt=Q) λD σ H2 hR=>?rest2)),?_⟩
  case rest2 =>
   obtain⟨L,l1,l2,n,ms,os,cell,number,mx,fr,m,rfl,hm,h1,W,h2,WO,hn,vV,Cj,hD⟩:=hR;refine⟨_,(ah (b6 PassesOwn.never rfl (fU rfl B.range (ae ao af)) (aK (i:=11) fQ.nd rfl (Or.inl rfl)) (aA (bS (aM (mG 0 hu) (bo gO U (hr.mono (by decide)) (ae (pv 11) (ae (b7 bK rfl B.tuple eK (ae (pv 4) af)) (ae (pv 10) (ae (pv 6) af))))) (bP (ae dv (ae dv (ae dv (ae dv af))))) (aQ _)) (aA (aU dv)) bg)))
  (ah (aJ (i:=12) fQ.nd rfl (Or.inl rfl) (mX (iI (pv 9)) (bP (ae ao (ae ao (ae ao af)))) (bP af)))
  (ah (bS (aM i6 (pv 8) ao (aQ _)) (aA (aJ (i:=12) fQ.nd rfl (Or.inl rfl) (aT C4 (pv 12) (bP (ae ao af))))) bg)
  (rF (R:=λD σ H2=>∃(L l1 l2:Um) (n:Nat) (ms os:List Nat) (cell number:Int) (mx fr:Bool) (lr:Um) (ws:List Nat) (vm vw:Option V),σ=[Yc (.ref a),Yc (.ref L),Yc (.int cell),none,Yc (.ref l1),Yc (.ref l2),Yc (.int number),Yc (.bl mx),Yc (.int (aC n ms os:Nat)),Yc (.bl fr),vm,vw,Yc (.ref lr)]/\H2 lr=Yc (.lst (nV ws))/\ws.length<=4/\(∀w∈ws,w<=3/\Rf w n ms os)/\H2 l1=Yc (.lst (nV ms))/\ak n ms/\H2 l2=Yc (.lst (nV os))/\ak n os/\n<=20/\(mx=true↔¬aP n ms os)/\(fr=true↔sP n ms os)/\D.rt=Q) λD σ H2 hR=>?rest3)))),?_⟩
   case rest3 =>
    obtain⟨L,l1,l2,n,ms,os,cell,number,mx,fr,lr,ws,vm,vw,rfl,hl,wl,hw,h1,W,h2,WO,hn,vV,Cj,hD⟩:=hR;refine⟨_,(ah (b6 PassesOwn.never rfl (bp (pv 12)) (aK (i:=11) fQ.nd rfl (Or.inl rfl)) (aA (bS (aM (mG 0 hu) (bo gO U (hr.mono (by decide)) (ae (pv 11) (ae (b7 bK rfl B.tuple eK (ae (pv 4) af)) (ae (b7 bK rfl B.tuple eK (ae (pv 5) af)) (ae (pv 6) af))))) (bP (ae dv (ae dv (ae dv (ae dv af))))) (aQ _)) (aA (aU dv)) bg)))
  (ah (bS (PW.pt (Aa (iI (pv 9)) (uO (PW.pt (jE (iI (pv 7)) (i5 (aM i6 (aL aH rfl B.len bD (ae (pv 4) af)) ao (aQ _)))))))) (aA (aU dv)) bg)
  (aA (aU (eU (BU (K:=K) rfl (Q0 hu)) (bo gO U (hr.mono (by decide)) (ae ao (ae (b7 bK rfl B.tuple eK (ae (pv 4) af)) (ae (b7 bK rfl B.tuple eK (ae (pv 5) af)) (ae (pv 6) af))))) (bP af) (aQ _)))))),?_⟩
    refine⟨_,rfl,lr,rfl,⟨_,aZ.of hl⟩,cy (K:=K) (a:=lr) (xs:=nV ws) (λi σ H3=>∃vw:Option V,σ=[Yc (.ref a),Yc (.ref L),Yc (.int cell),none,Yc (.ref l1),Yc (.ref l2),Yc (.int number),Yc (.bl mx),Yc (.int (aC n ms os:Nat)),Yc (.bl fr),vm,vw,Yc (.ref lr)]/\aE H2 H3) ⟨_,rfl,λ_ _ e=>e⟩ (λi σ H3 _ zq=>by obtain⟨_,_,s3⟩:=zq;exact aZ.of (s3 _ _ hl)) ?_ ?_⟩
    .rintro i y σ H3 hy ⟨vw,rfl,s3⟩;obtain⟨wy,hz,rfl⟩:=cX hy;obtain⟨w3,rf⟩:=hw wy (OP hz);refine⟨_,rfl,_,rfl,l1,_,rfl,.inl (s3 _ _ h1),λt1 H4 s4 Gn=>?_⟩;refine⟨_,rfl,l2,_,rfl,.inl (s4 _ _ (s3 _ _ h2)),λt2 H5 s5 yF=>?_⟩;refine⟨_,rfl,t1,t2,wy,n,n,number,ms,os,rfl,w3,hn,s5 _ _ Gn,W,yF,WO.len,.inr (.inl ⟨rfl,WO,rf,λlg H6 s6 J9=>?_⟩)⟩;refine⟨by show 4<=Uu;decide,λlt uc=>?_⟩;refine⟨lg,lt,rfl,rfl,ET (ai uc _ _ J9) ag,_,rfl,m6 ?_⟩;exact⟨_,rfl,s3.trans (s4.trans (s5.trans (s6.trans (ai uc))))⟩
    rintro σ H3 ⟨vw,rfl,s3⟩;have h1:=s3 _ _ h1;have h2:=s3 _ _ h2;have ret:∀H':Hp,D.rt (.bl true) H':=λH'=>by rw[hD];exact k _
    have ln:(nV ms).length=2*n:=by rw[aS,W.len]
    by_cases f0:fr=true
    .exact⟨_,rfl,fr,rfl,dI f0 (Bv (ret _))⟩
    refine⟨_,rfl,fr,rfl,cZ (Qj.mpr f0) ?_⟩;by_cases big:mx=true/\10<2*n
    .exact⟨_,rfl,mx,rfl,dI big.1 ⟨_,rfl,l1,_,rfl,.inl (aZ.of h1),_,_,rfl,rfl,_,rfl,dI (Ul (by rw[ln];omega)) (ret _)⟩⟩
    have E7:¬sP n ms os:=λz=>f0 (Cj.mpr z);have gdf:aP n ms os\/∃BB,gC.Gd BB n os ms:=by
     by_cases m0:mx=true
     .exact .inr ⟨55,.inl ⟨rfl,by have b10:¬ 10<2*n:=λz=>big ⟨m0,z⟩;omega⟩⟩
     exact .inl (OU λz=>m0 (vV.mpr z))
    have c10:mx=true->decide ((10:Int)<(((nV ms).length:Nat):Int))=false:=λm0=>Up (by have b10:¬ 10<2*n:=λz=>big ⟨m0,z⟩;rw[ln];omega);refine' sk ?m5 ?x5
    case m5 =>
     intro hN;by_cases m0:mx=true
     .exact⟨_,rfl,mx,rfl,dI m0 ⟨_,rfl,l1,_,rfl,.inl (aZ.of h1),_,_,rfl,rfl,_,rfl,cZ (c10 m0) hN⟩⟩
     exact⟨_,rfl,mx,rfl,cZ (Qj.mpr m0) (m6 hN)⟩
    case x5 =>
    refine⟨_,rfl,l1,_,rfl,.inl h1,λt1 H4 s4 Gn=>?_⟩;refine⟨_,rfl,l2,_,rfl,.inl (s4 _ _ h2),λt2 H5 s5 yF=>?_⟩;refine⟨_,rfl,t1,t2,0,n,n,number,ms,os,rfl,by decide,hn,s5 _ _ Gn,W,yF,WO.len,.inr (.inr ⟨rfl,WO,rfl,E7,gdf,λlg H6 s6 J9=>?_⟩)⟩;refine⟨by show 0<=Uu;decide,λlz hlz=>?_⟩;exact⟨lg,lz,[],rfl,rfl,aZ.of (ai hlz _ _ J9),aZ.of ag,ret _⟩
   refine⟨_,rfl,by decide,by decide,fV (lo:=0) (n:=((4:Int)).toNat) (λi σ H3=>∃vw:Option V,σ=[Yc (.ref a),Yc (.ref L),Yc (.int cell),none,Yc (.ref l1),Yc (.ref l2),Yc (.int number),Yc (.bl mx),Yc (.int (aC n ms os:Nat)),Yc (.bl fr),Yc (.ref m),vw,none]/\aE H2 H3) ⟨none,rfl,λ_ _ e=>e⟩ ?_ ?_⟩
   .rintro i σ H3 hi ⟨vw,rfl,s3⟩;rw[Ri];have hi4:i<4:=hi;refine⟨_,rfl,_,rfl,l1,_,rfl,.inl (s3 _ _ h1),λt1 H4 s4 Gn=>?_⟩;refine⟨_,rfl,_,rfl,t1,m,i,n,n+1,number,ms,os++[2*n,2*n+1],rfl,by omega,hn,Gn,W,s4 _ _ (s3 _ _ hm),by rw[OQ,WO.len];show 2*n+2=_;omega,.inl ⟨by omega,λlg H5 s5 J9=>?_⟩⟩;refine⟨by show 4<=Uu;decide,λlt uc=>?_⟩;refine⟨lg,lt,rfl,rfl,ET (ai uc _ _ J9) ag,_,rfl,m6 ?_⟩;exact⟨_,rfl,s3.trans (s4.trans (s5.trans (ai uc)))⟩
   rintro σ H3 ⟨vw,rfl,s3⟩;have h1:=s3 _ _ h1;have h2:=s3 _ _ h2;have fin:∀(H4:Hp) (lr:Um) (ws:List Nat),aE H3 H4->H4 lr=Yc (.lst (nV ws))->ws.length<=4->(∀w∈ws,w<=3/\Rf w n ms os)->∃(L' Nl Nm:Um) (n':Nat) (fY gQ:List Nat) (E8 wG:Int) (GW Nn:Bool) (lr':Um) (ws':List Nat) (vm' vw':Option V),([Yc (.ref a),Yc (.ref L),Yc (.int cell),none,Yc (.ref l1),Yc (.ref l2),Yc (.int number),Yc (.bl mx),Yc (.int (aC n ms os:Nat)),Yc (.bl fr),Yc (.ref m),vw,Yc (.ref lr)]:L2.St)=[Yc (.ref a),Yc (.ref L'),Yc (.int E8),none,Yc (.ref Nl),Yc (.ref Nm),Yc (.int wG),Yc (.bl GW),Yc (.int (aC n' fY gQ:Nat)),Yc (.bl Nn),vm',vw',Yc (.ref lr')]/\H4 lr'=Yc (.lst (nV ws'))/\ws'.length<=4/\(∀w∈ws',w<=3/\Rf w n' fY gQ)/\H4 Nl=Yc (.lst (nV fY))/\ak n' fY/\H4 Nm=Yc (.lst (nV gQ))/\ak n' gQ/\n'<=20/\(GW=true↔¬aP n' fY gQ)/\(Nn=true↔sP n' fY gQ)/\D.rt=Q:=λH4 lr ws s4 hl wl hw=>⟨L,l1,l2,n,ms,os,cell,number,mx,fr,lr,ws,Yc (.ref m),vw,rfl,hl,wl,hw,s4 _ _ h1,W,s4 _ _ h2,WO,hn,vV,Cj,hD⟩
   have f3:fr=true->∀w∈[0,1,2],w<=3/\Rf w n ms os:=λf0 w hw=>by
    have w3:w<3:=by simp at hw;omega
    exact⟨by omega,λ_=>Cj.mp f0,λz=>by omega⟩
   have t3:5<aC n ms os->3<=3/\Rf 3 n ms os:=λa5=>⟨ON _,λz=>by omega,λ_=>a5⟩
   refine⟨_,rfl,fr,rfl,?_⟩;by_cases f0:fr=true
   .refine dI f0 ⟨by show 3<=Uu;decide,λlr Np=>?_⟩;refine⟨_,rfl,_,_,rfl,rfl,_,rfl,?_⟩;by_cases a5:5<aC n ms os
    .refine dI (Ul (by omega)) ⟨_,rfl,by show 1<=Uu;decide,λl3 h3=>?_⟩;refine⟨lr,l3,_,_,rfl,rfl,ai h3 _ _ ag,ag,by show 3+1<=Uu;decide,λlp hlp=>?_⟩;refine fin _ lp [0,1,2,3] ((ai Np).trans ((ai h3).trans (ai hlp))) ag (by decide) λw hw=>?_;rcases OY.mp (show w∈[0,1,2]++[3]from hw)with q|q
     .exact f3 f0 w q
     rw[OS.mp q];exact t3 a5
    exact cZ (Up (by omega)) (fin _ lr [0,1,2] (ai Np) ag (by decide) (f3 f0))
   refine cZ (Qj.mpr f0) ⟨by show 0<=Uu;decide,λlr Np=>?_⟩;refine⟨_,rfl,_,_,rfl,rfl,_,rfl,?_⟩;by_cases a5:5<aC n ms os
   .refine dI (Ul (by omega)) ⟨_,rfl,by show 1<=Uu;decide,λl3 h3=>?_⟩;refine⟨lr,l3,_,_,rfl,rfl,ai h3 _ _ ag,ag,by show 0+1<=Uu;decide,λlp hlp=>?_⟩;refine fin _ lp [3] ((ai Np).trans ((ai h3).trans (ai hlp))) ag (by decide) λw hw=>?_;rw[OS.mp hw];exact t3 a5
   exact cZ (Up (by omega)) (fin _ lr [] (ai Np) ag (by decide) λw hw=>by cases hw)
  refine⟨_,rfl,l2,_,rfl,.inl h2,λt2 H3 s3 yF=>?_⟩;have h1:=s3 _ _ h1;have h2:=s3 _ _ h2;have ln:(nV os).length=2*n:=by rw[aS,WO.len]
  refine⟨_,rfl,l2,_,rfl,.inl (aZ.of h2),_,rfl,l2,_,rfl,.inl (aZ.of h2),_,_,rfl,rfl,by show 2<=Uu;decide,λtd hd=>?_⟩;have e2:V.int (((nV os).length:Nat):Int)=V.int ((2*n:Nat):Int):=by rw[ln]
  have e3:V.int ((((nV os).length:Nat):Int)+1)=V.int ((2*n+1:Nat):Int):=by rw[ln];rfl
  dsimp only;rw[e2,e3];have app:nV os++[V.int ((2*n:Nat):Int),V.int ((2*n+1:Nat):Int)]=nV (os++[2*n,2*n+1]):=by unfold nV;rw[O5];rfl
  have big:1000<=sizeLine:=by decide
  refine⟨t2,td,nV os,[.int ((2*n:Nat):Int),.int ((2*n+1:Nat):Int)],rfl,rfl,br.of (ai hd _ _ yF),br.of ag,by simp,by rw[ln];show 2*n+2<=Uu;omega,λe=>?_,λne p hp=>?_⟩
  .exact⟨L,l1,l2,n,ms,os,cell,number,mx,fr,td,rfl,by rw[<-app,e];exact ag,ai hd _ _ h1,W,ai hd _ _ h2,WO,hn,vV,Cj,hD⟩
  exact⟨L,l1,l2,n,ms,os,cell,number,mx,fr,p,rfl,by rw[ag,app],ai hp _ _ (ai hd _ _ h1),W,ai hp _ _ (ai hd _ _ h2),WO,hn,vV,Cj,hD⟩
 have z2:2<=sizeLine:=by decide
 refine⟨z2,λa1 p1=>?_⟩;have s1:aE H (upd H a1 (.tup [.int 12,.int 0])):=ai p1;have q1:upd H a1 (.tup [.int 12,.int 0]) a1=Yc (.tup [.int 12,.int 0]):=ag;generalize upd H a1 (.tup [.int 12,.int 0])=X1 at s1 q1;refine⟨z2,λa2 p2=>?_⟩;have s2:aE X1 (upd X1 a2 (.tup [.int 13,.int 0])):=ai p2;have q2:upd X1 a2 (.tup [.int 13,.int 0]) a2=Yc (.tup [.int 13,.int 0]):=ag;generalize upd X1 a2 (.tup [.int 13,.int 0])=X2 at s2 q2;have q1:=s2 _ _ q1;refine⟨z2,λa3 p3=>?_⟩;have s3:aE X2 (upd X2 a3 (.tup [.int 0,.int 13])):=ai p3;have q3:upd X2 a3 (.tup [.int 0,.int 13]) a3=Yc (.tup [.int 0,.int 13]):=ag;generalize upd X2 a3 (.tup [.int 0,.int 13])=X3 at s3 q3;have q1:=s3 _ _ q1;have q2:=s3 _ _ q2;refine⟨z2,λa4 p4=>?_⟩;have s4:aE X3 (upd X3 a4 (.tup [.int 3,.int 3])):=ai p4;have q4:upd X3 a4 (.tup [.int 3,.int 3]) a4=Yc (.tup [.int 3,.int 3]):=ag;generalize upd X3 a4 (.tup [.int 3,.int 3])=X4 at s4 q4;have q1:=s4 _ _ q1;have q2:=s4 _ _ q2;have q3:=s4 _ _ q3;refine⟨z2,λa5 p5=>?_⟩;have s5:aE X4 (upd X4 a5 (.tup [.int 4,.int 3])):=ai p5;have q5:upd X4 a5 (.tup [.int 4,.int 3]) a5=Yc (.tup [.int 4,.int 3]):=ag;generalize upd X4 a5 (.tup [.int 4,.int 3])=X5 at s5 q5;have q1:=s5 _ _ q1;have q2:=s5 _ _ q2;have q3:=s5 _ _ q3;have q4:=s5 _ _ q4;refine⟨z2,λa6 p6=>?_⟩;have s6:aE X5 (upd X5 a6 (.tup [.int 3,.int 4])):=ai p6;have q6:upd X5 a6 (.tup [.int 3,.int 4]) a6=Yc (.tup [.int 3,.int 4]):=ag;generalize upd X5 a6 (.tup [.int 3,.int 4])=X6 at s6 q6;have q1:=s6 _ _ q1;have q2:=s6 _ _ q2;have q3:=s6 _ _ q3;have q4:=s6 _ _ q4;have q5:=s6 _ _ q5;refine⟨z2,λa7 p7=>?_⟩;have s7:aE X6 (upd X6 a7 (.tup [.int 5,.int 0])):=ai p7;have q7:upd X6 a7 (.tup [.int 5,.int 0]) a7=Yc (.tup [.int 5,.int 0]):=ag;generalize upd X6 a7 (.tup [.int 5,.int 0])=X7 at s7 q7;have q1:=s7 _ _ q1;have q2:=s7 _ _ q2;have q3:=s7 _ _ q3;have q4:=s7 _ _ q4;have q5:=s7 _ _ q5;have q6:=s7 _ _ q6;refine⟨z2,λa8 p8=>?_⟩;have s8:aE X7 (upd X7 a8 (.tup [.int 0,.int 5])):=ai p8;have q8:upd X7 a8 (.tup [.int 0,.int 5]) a8=Yc (.tup [.int 0,.int 5]):=ag;generalize upd X7 a8 (.tup [.int 0,.int 5])=X8 at s8 q8;have q1:=s8 _ _ q1;have q2:=s8 _ _ q2;have q3:=s8 _ _ q3;have q4:=s8 _ _ q4;have q5:=s8 _ _ q5;have q6:=s8 _ _ q6;have q7:=s8 _ _ q7;refine⟨z2,λa9 p9=>?_⟩;have s9:aE X8 (upd X8 a9 (.tup [.int 6,.int 0])):=ai p9;have q9:upd X8 a9 (.tup [.int 6,.int 0]) a9=Yc (.tup [.int 6,.int 0]):=ag;generalize upd X8 a9 (.tup [.int 6,.int 0])=X9 at s9 q9;have q1:=s9 _ _ q1;have q2:=s9 _ _ q2;have q3:=s9 _ _ q3;have q4:=s9 _ _ q4;have q5:=s9 _ _ q5;have q6:=s9 _ _ q6;have q7:=s9 _ _ q7;have q8:=s9 _ _ q8;refine⟨z2,λE9 p10=>?_⟩;have Fb:aE X9 (upd X9 E9 (.tup [.int 0,.int 7])):=ai p10;have Fc:upd X9 E9 (.tup [.int 0,.int 7]) E9=Yc (.tup [.int 0,.int 7]):=ag;generalize upd X9 E9 (.tup [.int 0,.int 7])=NZ at Fb Fc;have q1:=Fb _ _ q1;have q2:=Fb _ _ q2;have q3:=Fb _ _ q3;have q4:=Fb _ _ q4;have q5:=Fb _ _ q5;have q6:=Fb _ _ q6;have q7:=Fb _ _ q7;have q8:=Fb _ _ q8;have q9:=Fb _ _ q9;refine⟨z2,λFd p11=>?_⟩;have Cs:aE NZ (upd NZ Fd (.tup [.int 1,.int 4])):=ai p11;have Hd:upd NZ Fd (.tup [.int 1,.int 4]) Fd=Yc (.tup [.int 1,.int 4]):=ag;generalize upd NZ Fd (.tup [.int 1,.int 4])=N0 at Cs Hd;have q1:=Cs _ _ q1;have q2:=Cs _ _ q2;have q3:=Cs _ _ q3;have q4:=Cs _ _ q4;have q5:=Cs _ _ q5;have q6:=Cs _ _ q6;have q7:=Cs _ _ q7;have q8:=Cs _ _ q8;have q9:=Cs _ _ q9;have Fc:=Cs _ _ Fc;refine⟨z2,λz9 p12=>?_⟩;have we:aE N0 (upd N0 z9 (.tup [.int 5,.int 1])):=ai p12;have Ke:upd N0 z9 (.tup [.int 5,.int 1]) z9=Yc (.tup [.int 5,.int 1]):=ag;generalize upd N0 z9 (.tup [.int 5,.int 1])=N1 at we Ke;have q1:=we _ _ q1;have q2:=we _ _ q2;have q3:=we _ _ q3;have q4:=we _ _ q4;have q5:=we _ _ q5;have q6:=we _ _ q6;have q7:=we _ _ q7;have q8:=we _ _ q8;have q9:=we _ _ q9;have Fc:=we _ _ Fc;have Hd:=we _ _ Hd;refine⟨z2,λFe p13=>?_⟩;have qe:aE N1 (upd N1 Fe (.tup [.int 8,.int 0])):=ai p13;have Nq:upd N1 Fe (.tup [.int 8,.int 0]) Fe=Yc (.tup [.int 8,.int 0]):=ag;generalize upd N1 Fe (.tup [.int 8,.int 0])=N2 at qe Nq;have q1:=qe _ _ q1;have q2:=qe _ _ q2;have q3:=qe _ _ q3;have q4:=qe _ _ q4;have q5:=qe _ _ q5;have q6:=qe _ _ q6;have q7:=qe _ _ q7;have q8:=qe _ _ q8;have q9:=qe _ _ q9;have Fc:=qe _ _ Fc;have Hd:=qe _ _ Hd;have Ke:=qe _ _ Ke;refine⟨by show 13<=Uu;decide,λL pL=>?_⟩;have sL:aE N2 (upd N2 L (.lst [.ref a1,.ref a2,.ref a3,.ref a4,.ref a5,.ref a6,.ref a7,.ref a8,.ref a9,.ref E9,.ref Fd,.ref z9,.ref Fe])):=ai pL;have qL:upd N2 L (.lst [.ref a1,.ref a2,.ref a3,.ref a4,.ref a5,.ref a6,.ref a7,.ref a8,.ref a9,.ref E9,.ref Fd,.ref z9,.ref Fe]) L=Yc (.lst [.ref a1,.ref a2,.ref a3,.ref a4,.ref a5,.ref a6,.ref a7,.ref a8,.ref a9,.ref E9,.ref Fd,.ref z9,.ref Fe]):=ag;generalize upd N2 L (.lst [.ref a1,.ref a2,.ref a3,.ref a4,.ref a5,.ref a6,.ref a7,.ref a8,.ref a9,.ref E9,.ref Fd,.ref z9,.ref Fe])=X at sL qL;have q1:=sL _ _ q1;have q2:=sL _ _ q2;have q3:=sL _ _ q3;have q4:=sL _ _ q4;have q5:=sL _ _ q5;have q6:=sL _ _ q6;have q7:=sL _ _ q7;have q8:=sL _ _ q8;have q9:=sL _ _ q9;have Fc:=sL _ _ Fc;have Hd:=sL _ _ Hd;have Ke:=sL _ _ Ke;have Nq:=sL _ _ Nq;have sX:aE H X:=s1.trans (s2.trans (s3.trans (s4.trans (s5.trans (s6.trans (s7.trans (s8.trans (s9.trans (Fb.trans (Cs.trans (we.trans (qe.trans (sL)))))))))))));have edge:∀j,j<13->∃(aj:Um) (t b:Nat),[V.ref a1,.ref a2,.ref a3,.ref a4,.ref a5,.ref a6,.ref a7,.ref a8,.ref a9,.ref E9,.ref Fd,.ref z9,.ref Fe][j]?=Yc (.ref aj)/\X aj=Yc (.tup [.int (t:Nat),.int (b:Nat)])/\aI.EW t b:=λj hj=>by
  match j,hj with
  |0,_=>exact⟨a1,12,0,rfl,q1,by decide,by decide⟩
  |1,_=>exact⟨a2,13,0,rfl,q2,by decide,by decide⟩
  |2,_=>exact⟨a3,0,13,rfl,q3,by decide,by decide⟩
  |3,_=>exact⟨a4,3,3,rfl,q4,by decide,by decide⟩
  |4,_=>exact⟨a5,4,3,rfl,q5,by decide,by decide⟩
  |5,_=>exact⟨a6,3,4,rfl,q6,by decide,by decide⟩
  |6,_=>exact⟨a7,5,0,rfl,q7,by decide,by decide⟩
  |7,_=>exact⟨a8,0,5,rfl,q8,by decide,by decide⟩
  |8,_=>exact⟨a9,6,0,rfl,q9,by decide,by decide⟩
  |9,_=>exact⟨E9,0,7,rfl,Fc,by decide,by decide⟩
  |10,_=>exact⟨Fd,1,4,rfl,Hd,by decide,by decide⟩
  |11,_=>exact⟨z9,5,1,rfl,Ke,by decide,by decide⟩
  |12,_=>exact⟨Fe,8,0,rfl,Nq,by decide,by decide⟩
 clear q1 q2 q3 q4 q5 q6 q7 q8 q9 Fc Hd Ke Nq;refine⟨_,rfl,a,ns,0,rfl,sX.seq hS,λc0=>?_⟩;refine⟨_,_,rfl,rfl,⟨by decide,by decide⟩,?_⟩;dsimp only;generalize c0/21=cell;by_cases hc:cell%8=3
 .refine⟨_,rfl,_,_,rfl,rfl,(by show(0:Int)<8;decide),rfl,_,rfl,dI (Ul (congrArg V.int hc)) ?_⟩;have e0:=QD (cell/8) (show(13:Int)≠0 by decide);have e1:=QE (cell/8) (show(0:Int)<13 by decide);obtain⟨j,hj⟩:∃j:Nat,cell/8%13=(j:Nat):=⟨(cell/8%13).toNat,by omega⟩
  obtain⟨aj,t,b,ex,hX,ok⟩:=edge j (by omega);refine⟨_,rfl,_,rfl,_,_,rfl,rfl,⟨by decide,by decide⟩,_,rfl,L,_,rfl,.inl (aZ.of qL),_,_,rfl,rfl,(by show(0:Int)<13;decide),?_⟩;refine⟨L,_,_,_,rfl,rfl,aZ.of qL,(by rw[show cell/8%(([V.ref a1,.ref a2,.ref a3,.ref a4,.ref a5,.ref a6,.ref a7,.ref a8,.ref a9,.ref E9,.ref Fd,.ref z9,.ref Fe].length:Nat):Int)=(j:Nat)from hj];exact ic (j:=j) ex),?_⟩;refine⟨_,rfl,aj,_,_,_,rfl,rfl,br.of hX,ic (j:=0) rfl,_,rfl,aj,_,_,_,rfl,rfl,br.of hX,ic (j:=1) rfl,?_⟩;refine⟨_,rfl,_,_,rfl,rfl,⟨by decide,by decide⟩,_,_,rfl,rfl,⟨by decide,by decide,by decide⟩,_,_,rfl,rfl,(by show(0:Int)<10 ^ 30;decide),?_⟩;exact⟨t,b,_,rfl,ok,QD _ (by decide),QE _ (by decide),λH' s'=>k _⟩
 refine⟨_,rfl,_,_,rfl,rfl,(by show(0:Int)<8;decide),rfl,_,rfl,cZ (Up (λz=>hc (by injection z))) ?_⟩;refine⟨_,rfl,a,ns,20,rfl,sX.seq hS,hlen,by decide,λn t l1 l2 ms os H1 hn sH ht h1 W h2 WO _ _ _=>?_⟩;refine⟨t,_,rfl,br.of ht,rfl,_,_,rfl,_,_,rfl,rfl,?_⟩;have sX1:=sX.trans sH;refine⟨_,rfl,a,ns,0,rfl,sX1.seq hS,λc1=>?_⟩;refine⟨_,_,rfl,rfl,⟨by decide,by decide⟩,_,_,rfl,rfl,⟨by decide,by decide,by decide⟩,_,_,rfl,rfl,(by show(0:Int)<10 ^ 30;decide),_,_,rfl,rfl,?_⟩;dsimp only;generalize c1/21%(10 ^ (30:Int).toNat:Int)-2=number;refine⟨_,rfl,_,rfl,l1,l2,n,ms,os,rfl,h1,W,h2,WO,λlk H2 s2 tk=>⟨lk,_,rfl,tk,by have:=aI.uo n ms os (2*n);omega,λH3 s3=>?_⟩⟩;have qe:=s2.trans s3;have h1:=qe _ _ h1;have h2:=qe _ _ h2;refine⟨_,rfl,_,rfl,l1,l2,n,ms,os,rfl,h1,W,h2,WO,λH4 s4=>?_⟩;have h1:=s4 _ _ h1;have h2:=s4 _ _ h2;have vV:aI.both ((cC n ms os (2*n)).map (·.1))=true↔¬aP n ms os:=by unfold aP;cases aI.both ((cC n ms os (2*n)).map (·.1)) <;> decide
 generalize aI.both ((cC n ms os (2*n)).map (·.1))=mx at vV;have base:∀fr:Bool,(fr=true↔sP n ms os)->∃(L' Nl Nm:Um) (n':Nat) (fY gQ:List Nat) (E8 wG:Int) (GW Nn:Bool),([Yc (.ref a),Yc (.ref L),Yc (.int cell),none,Yc (.ref l1),Yc (.ref l2),Yc (.int number),Yc (.bl mx),Yc (.int (aC n ms os:Nat)),Yc (.bl fr),none,none,none]:L2.St)=[Yc (.ref a),Yc (.ref L'),Yc (.int E8),none,Yc (.ref Nl),Yc (.ref Nm),Yc (.int wG),Yc (.bl GW),Yc (.int (aC n' fY gQ:Nat)),Yc (.bl Nn),none,none,none]/\H4 Nl=Yc (.lst (nV fY))/\ak n' fY/\H4 Nm=Yc (.lst (nV gQ))/\ak n' gQ/\n'<=20/\(GW=true↔¬aP n' fY gQ)/\(Nn=true↔sP n' fY gQ)/\Q=Q:=λfr hf=>⟨L,l1,l2,n,ms,os,cell,number,mx,fr,rfl,h1,W,h2,WO,hn,vV,hf,rfl⟩
 refine⟨_,rfl,_,_,rfl,rfl,_,rfl,?_⟩;by_cases z9:12<aC n ms os
 .refine dI (Ul (by omega)) ?_;exact base true ⟨λ_=>.inl z9,λ_=>rfl⟩
 refine cZ (Up (by omega)) ⟨_,rfl,_,_,rfl,rfl,_,rfl,?_⟩;by_cases a6:6<aC n ms os
 .refine dI (Ul (by omega)) ⟨_,rfl,?_⟩;exact base mx ⟨λz=>.inr ⟨vV.mp z,a6⟩,λz=>vV.mpr (z.resolve_left z9).1⟩
 refine cZ (Up (by omega)) ?_;exact base false ⟨λz=>(by cases z),λz=>Us (z.resolve_left z9).2 a6⟩
end
theorem us0{R:List Uj->Prop}(h:∀_:Unit,R [])(D:List Uj)(e:D.length=0):R D:=(Qk.mp e)▸h ()
theorem us1{R:List Uj->Prop}(h:∀x0:Uj,R [x0])(D:List Uj)(e:D.length=1):R D:=by
 obtain⟨a,r,rfl⟩:=Qm e;exact us0 (R:=λr=>R (a::r)) (λ_=>h a) r (Nat.succ.inj e)
theorem us2{R:List Uj->Prop}(h:∀x0 x1:Uj,R [x0,x1])(D:List Uj)(e:D.length=2):R D:=by
 obtain⟨a,r,rfl⟩:=Qm e;exact us1 (R:=λr=>R (a::r)) (h a) r (Nat.succ.inj e)
theorem us3{R:List Uj->Prop}(h:∀x0 x1 x2:Uj,R [x0,x1,x2])(D:List Uj)(e:D.length=3):R D:=by
 obtain⟨a,r,rfl⟩:=Qm e;exact us2 (R:=λr=>R (a::r)) (h a) r (Nat.succ.inj e)
theorem us4{R:List Uj->Prop}(h:∀x0 x1 x2 x3:Uj,R [x0,x1,x2,x3])(D:List Uj)(e:D.length=4):R D:=by
 obtain⟨a,r,rfl⟩:=Qm e;exact us3 (R:=λr=>R (a::r)) (h a) r (Nat.succ.inj e)
theorem Fu(x:UI)(st:Vp)(V:UI){K:OM}{h:UH}{mg:UI->Option Uj}{f:Um}{od an:Option Um}{sl:Array (Option Uj)}{oc kV Z J U ct:Uj}(X:K.In h)(G:h.Ns UT mg)(a:SI K UT x=Yc (Yc (.ref f)):=by k_is)(l:K.lookup f=Yc ⟨oc,od,.func (PV x x (dh st) (cq st) (aD st) .none kV Z J an U ct),sl⟩:=by k_is)(c:Q9 K U x=true:=by k_is)(k:Q7 K (.ref f)=true:=by k_is)(hb:∀(kV doc J:Uj) (an:Option Um) (D ct:Uj) (x0:Uj),Vv (PV x x (dh st) (cq st) (aD st) .none kV doc J an D ct) ⟨[x0],[]⟩=pure (R6 [V] [x0]):=by intros;rfl):Fn K mg x st [V] f (PV x x (dh st) (cq st) (aD st) .none kV Z J an U ct):=
 Fn.mk' (uZ (st:=st) l c k) (λkV doc J an D ct O hl=>us1 (R:=λO=>Vv _ ⟨O,[]⟩=pure (R6 _ O)) (hb kV doc J an D ct) O hl) (Qi X G a)
theorem pS(x:UI)(st:Vp)(V Z:UI){K:OM}{h:UH}{mg:UI->Option Uj}{f:Um}{od an:Option Um}{sl:Array (Option Uj)}{oc kV dc J U ct:Uj}(X:K.In h)(G:h.Ns UT mg)(a:SI K UT x=Yc (Yc (.ref f)):=by k_is)(l:K.lookup f=Yc ⟨oc,od,.func (PV x x (dh st) (cq st) (aD st) .none kV dc J an U ct),sl⟩:=by k_is)(c:Q9 K U x=true:=by k_is)(k:Q7 K (.ref f)=true:=by k_is)(hb:∀(kV doc J:Uj) (an:Option Um) (D ct:Uj) (x0 x1:Uj),Vv (PV x x (dh st) (cq st) (aD st) .none kV doc J an D ct) ⟨[x0,x1],[]⟩=pure (R6 [V,Z] [x0,x1]):=by intros;rfl):Fn K mg x st [V,Z] f (PV x x (dh st) (cq st) (aD st) .none kV dc J an U ct):=
 Fn.mk' (uZ (st:=st) l c k) (λkV doc J an D ct O hl=>us2 (R:=λO=>Vv _ ⟨O,[]⟩=pure (R6 _ O)) (hb kV doc J an D ct) O hl) (Qi X G a)
theorem HY(x:UI)(st:Vp)(V Z p2:UI){K:OM}{h:UH}{mg:UI->Option Uj}{f:Um}{od an:Option Um}{sl:Array (Option Uj)}{oc kV dc J U ct:Uj}(X:K.In h)(G:h.Ns UT mg)(a:SI K UT x=Yc (Yc (.ref f)):=by k_is)(l:K.lookup f=Yc ⟨oc,od,.func (PV x x (dh st) (cq st) (aD st) .none kV dc J an U ct),sl⟩:=by k_is)(c:Q9 K U x=true:=by k_is)(k:Q7 K (.ref f)=true:=by k_is)(hb:∀(kV doc J:Uj) (an:Option Um) (D ct:Uj) (x0 x1 x2:Uj),Vv (PV x x (dh st) (cq st) (aD st) .none kV doc J an D ct) ⟨[x0,x1,x2],[]⟩=pure (R6 [V,Z,p2] [x0,x1,x2]):=by intros;rfl):Fn K mg x st [V,Z,p2] f (PV x x (dh st) (cq st) (aD st) .none kV dc J an U ct):=
 Fn.mk' (uZ (st:=st) l c k) (λkV doc J an D ct O hl=>us3 (R:=λO=>Vv _ ⟨O,[]⟩=pure (R6 _ O)) (hb kV doc J an D ct) O hl) (Qi X G a)
theorem fn4(x:UI)(st:Vp)(V Z p2 p3:UI){K:OM}{h:UH}{mg:UI->Option Uj}{f:Um}{od an:Option Um}{sl:Array (Option Uj)}{oc kV dc J U ct:Uj}(X:K.In h)(G:h.Ns UT mg)(a:SI K UT x=Yc (Yc (.ref f)):=by k_is)(l:K.lookup f=Yc ⟨oc,od,.func (PV x x (dh st) (cq st) (aD st) .none kV dc J an U ct),sl⟩:=by k_is)(c:Q9 K U x=true:=by k_is)(k:Q7 K (.ref f)=true:=by k_is)(hb:∀(kV doc J:Uj) (an:Option Um) (D ct:Uj) (x0 x1 x2 x3:Uj),Vv (PV x x (dh st) (cq st) (aD st) .none kV doc J an D ct) ⟨[x0,x1,x2,x3],[]⟩=pure (R6 [V,Z,p2,p3] [x0,x1,x2,x3]):=by intros;rfl):Fn K mg x st [V,Z,p2,p3] f (PV x x (dh st) (cq st) (aD st) .none kV dc J an U ct):=
 Fn.mk' (uZ (st:=st) l c k) (λkV doc J an D ct O hl=>us4 (R:=λO=>Vv _ ⟨O,[]⟩=pure (R6 _ O)) (hb kV doc J an D ct) O hl) (Qi X G a)
theorem walk{l:Tv}{q:Ux}{loose:List UI}{O:(UI->Option Uj)->UH->Prop}{G:UA->UH->Prop}{d:DefRec}{K:Params->OM}(U:l.most=Yc 63)(D:d.params.defaults=[])
  (V:∀(w:UA) (h:UH),G w h->(K w.params).In h)
  (F:∀(w:UA) (mg:UI->Option Uj) (fa:Um) (h:UH),(K w.params).In h->h.Ns UT mg->mg d.name=Yc (.ref fa) ->
   ∃J:Uz,(∀(s:Uq) (u:Uj),Xz s J ⟨[u],[]⟩ [("script",u)])/\∀base:UH,(K w.params).In base->base.Ns UT mg->aO l.prog w (K w.params) mg base du 18 fa J ["script"] (C8 (K w.params))) :
  TU q loose O G l.row.toRowW d [] (λf Z=>PySem.call f Z):=
 L2.Ap (n:=63) (k:=18) (x:="script") (CX:=λ_=>du) (sp:=λw=>C8 (K w.params)) U (by decide) D ⟨rfl,by decide,by decide,rfl⟩ V F (λ_ _ a ns hl _ hS=>⟨a,ns,rfl,hS,hl,λ_=>rfl⟩) λ_ _ _ _ _ z=>z
end Law
namespace PySem.W.Fast
def tw9142436765139408109:=0
def tw1703542987359354925:=0
def tw4322856206173874985:=0
def tw15671723665604410840:=0
def tw10341599479477764520:=0
def tw18421579146752509071:=0
def tw10153403769515388212:=0
def tw8154990046387317674:=0
def tw12754587506670985164:=0
def tw14357421831083511335:=0
def tw13527911823522950072:=0
def tw5113435187556129626:=0
def tw18344958282987521074:=0
def tw1875342772217290119:=0
def tw13613573562943160605:=0
def tw17156089528957217715:=0
def tw17636032207667491917:=0
def tw4292650712625650134:=0
def tw16561460126151809897:=0
def tw6930071017483413988:=0
def tw7589191520322718513:=0
def tw1713201773695872421:=0
def tw11862975327696545630:=0
def tw1337145381922206256:=0
def tw3524289300983002968:=0
def tw7440923232269898933:=0
def tw4767973362969266869:=0
def tw11208445329222268419:=0
def tw14763211329217490637:=0
def tw12036418240637209687:=0
def tw10834579700628110160:=0
def tw6347356008503835753:=0
def tw2008252636392166627:=0
def tw1879902262025793304:=0
def tw4773309167417640743:=0
def tw1003886188915182001:=0
def tw12910616882437460931:=0
def tw16195149150491768090:=0
def tw5196936697566823078:=0
def tw7086333297717781721:=0
def tw10768015739143356358:=0
def tw11349201810702596474:=0
def tw16555067683045791899:=0
def tw5657051759309232044:=0
def tw1001238154846767501:=0
def tw8728110557641949088:=0
def tw343861576800085421:=0
def tw7360471377210317031:=0
def tw4359747289729454628:=0
def tw1995546054561557093:=0
def tw14960115329705059455:=0
def tw7282215313509512179:=0
def tw6637578197905127704:=0
def tw14466732563870914892:=0
def tw219058302016402054:=0
def tw2680148997907309736:=0
def tw4245500815340577080:=0
def tw10239697577947277834:=0
def tw6283175620533967916:=0
def tw2490677673427291134:=0
def tw7731121664882780215:=0
def tw5381378008035334169:=0
def tw12139379187234167905:=0
def tw5082216412723184933:=0
def tw15617168880723006876:=0
def tw11132434179840725864:=0
def tw17404953266323489861:=0
def tw6004598650891139786:=0
def tw13422621377884623511:=0
def tw1295990235159757492:=0
def tw12702523789555817095:=0
def tw9353613480020737392:=0
def tw18110750993677806005:=0
def tw4212453890294295384:=0
def tw13232791705261504254:=0
def tw17686360519409726364:=0
def tw12071814736554170886:=0
def tw12294448447390237228:=0
def tw10319894126940234061:=0
end PySem.W.Fast
open PySem PySem.W PyProof.Rows
set_option maxRecDepth 100000 in
set_option maxHeartbeats 0 in
theorem PySem.Challenge.cw_claspwork_k30_too_far_apart_holds : PySem.Challenge.rw_claspwork_k30_too_far_apart.Holds := by
 w_on;o_law;k_head;(case hw=>w_witness2)
 k_fill
 refine Law.walk (l:=PySem.Challenge.rw_claspwork_k30_too_far_apart) rfl rfl (fun w h Y=>TJ Y) ?F
 case F =>
  intro w mg fa h X G Lu
  have F0:=Law.Fu "staves_in" Law.gU "work" X G
  have F1:=Law.pS "refuse_unlike" Law.d6 "one" "other" X G
  have F2:=Law.Fu "loose_ends" Law.eZ "work" X G
  have F3:=Law.pS "fits_work" Law.eN "work" "deed" X G
  have F4:=Law.pS "refuse_misfit" Law.d7 "work" "deed" X G
  have F5:=Law.pS "reclasped" Law.dM "work" "deed" X G
  have F6:=Law.pS "freed_ends" Law.dU "work" "deed" X G
  have F7:=Law.HY "clasp_ends" Law.gu "mates" "one" "other" X G
  have F8:=Law.pS "least_pair" Law.gv "work" "deed" X G
  have F9:=Law.pS "threads" Law.fc "one" "other" X G
  have F10:=Law.pS "open_threads" Law.eO "one" "other" X G
  have F11:=Law.HY "walked_thread" Law.c8 "start" "first" "second" X G
  have F12:=Law.pS "mark_ends" Law.gW "seen" "ends" X G
  have F13:=Law.Fu "least_end" Law.gX "thread" X G
  have F14:=Law.pS "thread_score" Law.eP "one" "other" X G
  have F15:=Law.pS "apart_by" Law.iW "one" "other" X G
  have F16:=Law.pS "nearer_deeds" Law.cD "one" "other" X G
  have F17:=Law.pS "ends_in" Law.jy "laid" "kind" X G
  have F18:=Law.Fu "splitting_pairs" Law.dj "ends" X G
  have F19:=Law.pS "crossing_pairs" Law.dB "bare" "tied" X G
  have F20:=Law.pS "ordered_pair" Law.cW "end" "mate" X G
  have F21:=Law.pS "fewest_many" Law.d8 "one" "other" X G
  have F22:=Law.pS "refuse_uncounted" Law.bL "one" "other" X G
  have F23:=Law.HY "refuse_beyond" Law.c9 "most" "one" "other" X G
  have F24:=Law.Fu "has_both" Law.fL "laid" X G
  have F25:=Law.HY "rows_between" Law.cE "one" "other" "counts" X G
  have F26:=Law.Fu "lacked_deeds" Law.dC "thread" X G
  have F27:=Law.Fu "shuffled_rows" Law.de "lacks" X G
  have F28:=Law.pS "choices" Law.gH "many" "chosen" X G
  have F29:=Law.Fu "own_rows" Law.fN "lack" X G
  have F30:=Law.pS "works_on_way" Law.dD "one" "other" X G
  have F31:=Law.HY "row_numbered" Law.dE "one" "other" "number" X G
  have F32:=Law.HY "ways_on" Law.iH "now" "other" "counts" X G
  have F33:=Law.HY "number_of_row" Law.df "one" "other" "deeds" X G
  have F34:=Law.pS "_law_cell_at" Law.fx "script" "k" X G
  have F35:=Law.pS "_law_mates" Law.gY "flow" "staves" X G
  have F36:=Law.pS "_law_halves" Law.iz "script" "most" X G
  have F37:=Law.fn4 "_law_walk" Law.fO "one" "other" "end" "known" X G
  have F38:=Law.pS "_law_score" Law.gZ "one" "other" X G
  have F39:=Law.pS "_law_apart" Law.i9 "one" "other" X G
  have F40:=Law.pS "_law_lacks" Law.ja "one" "other" X G
  have F41:=Law.Fu "_law_mixed" Law.jb "lacks" X G
  have F42:=Law.fn4 "_law_refusal" Law.fy "way" "one" "other" "number" X G
  have F43:=Law.pS "_law_sides" Law.g6 "tied" "bare" X G
  have F44:=Law.fn4 "_law_refuses_all" Law.dk "one" "other" "ways" "number" X G
  have F45:=Law.HY "_law_edge_good" Law.fE "tied" "bare" "cell" X G
  have F46:=Law.Fu "law" Law.EY "script" X G
  cases Lu.symm.trans F46.g
  have Cd:=Qi (n:="BadDeed") X G (by k_is)
  have Ff:=Qi (n:="Unlike") X G (by k_is)
  have Ce:=Qi (n:="TooMany") X G (by k_is)
  have wH:=Qi (n:="ClaspError") X G (by k_is)
  have Fg:=Qi (n:="NoSuch") X G (by k_is)
  have Fh:=Qi (n:="BadRow") X G (by k_is)
  have wI:=Qi (n:="MOST_APART") X G (by k_is)
  have ky:=Qi (n:="MOST_APART_CROSSING") X G (by k_is)
  have lZ:=Qi (n:="MOST_APART_LISTED") X G (by k_is)
  refine'⟨_,fun s v=>.of_eq rfl,fun base _ _=>Law.Kb ⟨PZ X G (by k_is),PZ X G (by k_is),PZ X G (by k_is),PZ X G (by k_is),PZ X G (by k_is),PZ X G (by k_is),PZ X G (by k_is),PZ X G (by k_is),PZ X G (by k_is),PZ X G (by k_is),PZ X G (by k_is)⟩ ⟨Cd,⟨_,_,_,_,(by kernel_rfl),Rn⟩⟩ ⟨Ff,⟨_,_,_,_,(by kernel_rfl),Rn⟩⟩ ⟨Ce,⟨_,_,_,_,(by kernel_rfl),Rn⟩⟩ wH Fg Fh wI ky lZ ⟨(by k_is),(by k_is),(by k_is),(by k_is),(by k_is),(by k_is),(by k_is),(by kernel_rfl)⟩ ⟨(by k_is),(by k_is),(by k_is),(by k_is),(by k_is),(by k_is),(by k_is),(by kernel_rfl)⟩ (by kernel_rfl) (by kernel_rfl) (by kernel_rfl) (by kernel_rfl) (by kernel_rfl) (by kernel_rfl) (by kernel_rfl) (by kernel_rfl) (by kernel_rfl) (by kernel_rfl) (by kernel_rfl) (by kernel_rfl) F0 F1 F2 F3 F4 F5 F6 F7 F8 F9 F10 F11 F12 F13 F14 F15 F16 F17 F18 F19 F20 F21 F22 F23 F24 F25 F26 F27 F28 F29 F30 F31 F32 F33 F34 F35 F36 F37 F38 F39 F40 F41 F42 F43 F44 F45 F46⟩

