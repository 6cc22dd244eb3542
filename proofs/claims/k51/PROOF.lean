import PyProof.Rows.All
import Wide.All
import OpenK.AllK
import Wide.FinOn
import Lean
import PyProof.EqAt
import PyProof.EqKinds
import PyProof.TupleCall
import PyProof.SumWalkG
import KE.KTryMore
import PyProof.NeKinds
import PyProof.ExcAttrAll.ValueError
import KE.KRevIter
import PyProof.ReprRoads
import PyProof.ReprLen
import PyProof.TupleOfSeq
import KE.BitLaws
import PyProof.Rows.SortRuns
import PyProof.Rows.SortShell
import PyProof.DictValues
import PyProof.DictItems
import KE.KDictList
import KE.KSortTup
import KE.KSortKey
import PyProof.Rows.SetFrom
import PyProof.WalkInts
import KE.KIntText
import PyProof.StrLoop
import PyProof.StrWalks
import PyProof.StrCalls2
import PyProof.ConsumeWalk
import PyProof.StrLawsRepr
import PySem.Challenge.RW_claspwork_k51_whole_no_turn_saves_two
set_option genSizeOf false
set_option Elab.async false
set_option linter.all false
set_option maxRecDepth 100000
local macro_rules
 | `(tactic| omega)=>`(tactic| first | lia | omega (config:={}))
open List renaming getElem?_eq_getElem→OZ,length_map→O0,getElem?_eq_some_iff→O1,mem_singleton→O3,mem_map→O4,getElem?_map→O6,length_append→O7,mem_filter→O9,map_append→Pb,mem_cons_self→Pc,getElem?_append_right→Pd,size_toArray→Pe,not_mem_nil→Pf,getElem?_append_left→Pg,mem_cons_of_mem→Pj,mem_of_getElem?→Pk,mem_append→Pl,mem_range→Pm,mem_append_right→Pp,mem_cons→Pq,range→Pu,map_congr_left→Pw,mem_append_left→Px,getD_eq_getElem?_getD→Py,length_take→Pz,getElem_of_mem→PB,pairwise_iff_getElem→PC,pairwise_map→PD,getElem?_of_mem→PF,map_map→PK,length_range→PL,length_singleton→PM,length_filter_le→PN,length_drop→PU,getElem_mem→PV,nodup_cons→PX,filter_sublist→PY,getElem?_inj→Qa,getElem?_eq_none→Qc,take_length→Qe,filter_append→Qf,append_nil→Qj,map_cons→Qk,length_pos_of_mem→Qm,nodup_iff_pairwise_ne→Qp,any_eq_true→Qq,length_reverse→Qr,length_erase_of_mem→Qs,filter_cons→Qu,filter_nil→Qv,getElem_map→Qw,mem_of_find?_eq_some→Qx,getLastD_eq_getLast?→Qy,getLast?_eq_getElem?→Qz,pairwise_lt_range→QA,range_succ→QD,nodup_append→QF,pairwise_singleton→QG,length_eq_zero_iff→QH,nodup_nil→QJ,length_cons→QK,all_eq_true→QL,getElem?_range→QM,getElem?_take→QQ,perm_ext_iff_of_nodup→QS,take_of_length_le→QT,ext_getElem?→QV,find?_cons→QX,length_filter_lt_length_iff_exists→QZ,lookup_cons→Q2,mem_flatMap→Q3,pairwise_append→Q4,exists_cons_of_length_eq_add_one→Q5,getElem?_replicate→Q6,filter_cons_of_neg→Q8,filter_cons_of_pos→Q9,map_reverse→Rb,getElem?_reverse→Rh,map_inj_right→Ri,filterMap_cons→Ro,length→Rx,take_append_drop→Rz,mem_of_mem_erase→RB,find?_some→RC,append_assoc→RD,map_drop→RF,mem_erase_of_ne→RH,getD→RM,getLast?_eq_some_iff→RN,getElem_inj→RO,flatMap_append→RQ,any_cons→RR,length_nil→RS,getElem?_drop→RU,getElem?_cons_succ→RV,getElem_range→RX,find?_eq_none→R0,getLast?_map→R5,replicate→R7,length_replicate→R9,eq_nil_iff_forall_not_mem→Sa,mem_eraseIdx_iff_getElem→Sg,getLast?_eq_some_getLast→Si,length_eraseIdx→Sj,mem_of_mem_take→Sk,map_take→Sm,of_mem_zip→Sq,filter_map→Ss,mem_filterMap→Sw,drop_eq_getElem_cons→SA,idxOf_lt_length_iff→SG,foldl_append→SH,getLast?_cons_cons→SO,mem_reverse→SQ,getElem?_set_self→SR,range_succ_eq_map→SU,length_eq_one_iff→SX,perm_append_comm→S1,pairwise_flatMap→S5,zip→S7,getElem?_set_ne→S8,reverse_reverse→S9,mem_iff_getElem→Tb,mem_of_mem_drop→Td,mem_of_getLast?→Te,take_zero→Tg,perm_iff_count→Tn,filter_eq_self→To,mem_map_of_mem→Tp,map_eq_nil_iff→Ts,length_pos_iff→Tt,getElem_idxOf→Tz,take_sublist→TH,filter_congr→TK,reverse_perm→TL,count_append→TN,flatMap_cons→TQ,map_nil→T6,map_id'→Ub,cons_append→Ue,nodup_range→Uj,map_snd_zip→Uk,length_set→Ut,map_id→Uv,count_cons→Uw,all_cons→UD,map_set→UI
open Classical renaming byContradiction→O2,choose_spec→Sb,not_forall→Ta,not_imp→TR
open Nat renaming le_refl→O5,le_trans→PH,zero_le→PQ,ne_of_lt→PR,lt_of_lt_of_le→PZ,le_of_lt→Qo,sub_self→QE,lt_of_le_of_lt→QO,lt_or_gt_of_ne→QP,lt_irrefl→Rc,ne_of_gt→Rf,le_succ→Rj,not_lt_zero→Rn,max_eq_right→Ru,strongRecOn→RA,lt_of_not_le→RP,lt_of_le_of_ne→RT,lt_trichotomy→R4,le_antisymm→Sr,zero_add→Sx,add_assoc→SN,lt_trans→S0,max_eq_left→S3,succ_pos→S4,add_le_add_left→Tj,lt_succ_of_lt→TV,sub_zero→T7,le_of_not_lt→Uh,succ_ne_self→Ui,min_eq_right→Uq,min_eq_left→Uy,mul_le_mul→UC
open PySem.Heap renaming get?_push_of_some→O8,get?_push_size→Pn,lt_size→Pt,get?_update_self→QC,get?_update_other→Ra,size_push→R8,get?_update_ne→Tq,get?_push_ne→TX,size_update→Ul
open PySem.W renaming Frag→Pa,mg_none_of→Ql,fnOf→QB,kia_one→QI,kitOne→RI,keepIn→RJ,codeIn→RK,KatTups→RZ,mg_of→Sl,methodObj→SD,cellsFrom_some→SS,instObj→SY,lookIn→Tf,hideAll_get→Ti,of_hideAll→Tv,excIn→Tx,kitx_list→TC,kitx_dict→TF,nsIn→Uc,plainGet→Ud,hideAll→Us,OpenLaw→Uu,findIn→UA,kIn_of→UB,WalkO→UE
open Option renaming map_eq_some_iff→Ph,map_some→Ry,ne_none_iff_exists'→Su,isSome_iff_exists→SE,map_eq_none_iff→SW,isSome_map→TJ,getD_none→Ug
open Bool renaming false_ne_true→Po,false_eq_true→Qg,and_eq_true→Qn,eq_iff_iff→QW,not_eq_true'→Rm,not_true→RY,false_and→R6,eq_false_iff→SF,false_or→Tw,true_or→T5,not_eq_true→Um,or_eq_true→Ux
open Int renaming toNat_natCast→Qb,le_refl→QN,le_of_lt→QY,emod_nonneg→R3,zero_add→Sf,emod_lt_of_pos→Sz,not_lt→S6,lt_or_eq_of_le→TB,lt_trichotomy→TY,le_trans→Ua,lt_of_not_ge→Uo,le_of_not_gt→Up,zero_sub→UH,ofNat_le→UJ,mul_one→UK
open Prod renaming fst→Qd,snd→Rr,ext→Ur
open PyProof.Rows renaming slot_tuple_getitem→Qh,callWith_type1→Qi,callWith_builtin1→T1,getItem_tuple→Uz
open PySem.F renaming plainAttrs_list→Qt,slot_list_append→Q0,type_list_append→Q1,slot_dict_setdefault→Q7,args_tuple_add_2→Rl,entry_tuple_add→Rq,plainAttrs_dict→Rt,slot_tuple_add→Rv,slot_dict_getitem→RL,args_dict_setdefault_3→Se,entry_dict_setdefault→Sh,type_dict_setdefault→So,slot_dict_values→SI,slot_list_extend→SJ,type_list_extend→SK,slot_dict_items→SM
open Array renaming length_toList→QU,getElem?_eq_getElem→Rk,getElem?_eq_some_iff→RG,perm_iff_toList_perm→Sv,forIn_toList→Sy,getElem?_eq_none→SV,append_assoc→Tu,getElem_mem→TU,toList→TZ
open Iff renaming rfl→UG
open PySem renaming wpAny_bind→UM,Value→UP,Addr→UR,wpAny_pure→US,Shared→UW,sizeLine→U2,Program→U3,World→U4,starEach→U6,wpAny_call_entry→U8,wpAny_newObj_type→U9,FuncData→Va,Expr→Vc,Heap→Vd,Around→Ve,wpAny_field→Vf,Str→Vg,bootBuiltins→Vi,wpAny_truthy_bool→Vj,wpAny_holding→Vk,wpAny_setField_rec→Vl,sysModules→Vm,mainGlobals→Vn,sizeLine_eq→Vo,wpAny_dictEntries→Vp,wpAny_specialOf→Vr,wpAny_loadPart'→Vs,compareOp→Vu,wpAny_isInstance→Vv,builtinLookup_eq_fast→Vz,wpAny_typeNameOfWhole_itemiter→VB,wpAny_attempt→VC,wpAny_typeNameOfWhole_keyiter→VD,Obj→VE,wpAny_setField→VG,firstArgMember→VH,wpAny_notOrdered_dict→VI,wpAny_typeNameOf_itemiter→VJ,wpAny_passesOwn→VL,wpAny_of_eq→VN,wpAny_typeNameOf_keyiter→VO,DictEntry→VP,wpAny_mono→VQ,wpAny_rule→VR,typeLookup_type→VS,wpAny_dictEpoch→VU,binaryOp→VV,isSubtype_type→VW,IsItemIter→VX,attributeBase→VY,relabel→VZ,wpAny_ite_split→V0,assignEach→V1,wpAny_pyIter_tuple→V2,Scope→V3,sliceBounds→V4,Pos→V6,foldedSetIterable→V7,wpAny_seqItems→V8,wpAny_pyIter_enum→V9,wpAny_pyIter_slot→Wa,wpAny_isOneOf_itemiter→Wc,isSubtype_tuple_tuple→We,noFill_tuple_add→Wf,wpAny_forIn_list→Wg,wpAny_standAt→Wj,getItem→Wk,bindArgs→Wn,wpAny_pyIter_revIter→Wo,Stmt→Wq,wpAny_execs_nil→Wr,call_meetsIn→Wu,tupleKind→Wv,wpAny_Call_Name_kw→Wy,wpAny_getItem_heap→Wz,tupleKind_room_in1→WA,IsEnum→WB,wpAny_newTuple→WC,isSubtype_stop→WD,wpAny_letOwnedTupleGo_enum→WE,wpAny_fieldsOf→WG,wpAny_tupleItemsOf→WH,wpAny_pyIter_list→WJ,behindInMarks→WL,seq_tuple_add→WM,wpAny_handled→WN,plainId_quiet→WO,wpAny_newList→WS,wpAny_eqBool_int→WT,swapsWith→WU,wpAny_Dict_empty→WV,setField→WW,wpAny_Call_method0_late→WX,entryOfKey→WY,typeLookup→WZ,wpAny_Assign_Subscript→W2,Keyword→W3,concat_meets→W4,IsPart→W5,wpAny_typeOf→W6,wpAny_Call_method_late→W8,closureFor→W9,letOwnedTupleGo→Xa,codeAny_builtin→Xb,size_of_entries→Xc,wpAny_isOneOf_keyiter→Xd,subscripted→Xe,keywordEach→Xf,wpAny_throw→Xg,wpAny_letGo→Xh,dictSetDefault→Xj,wpAny_updateDictKeys→Xl,codeAny→Xn,valueAt→Xo,callerA→Xp,eqIsQuiet→Xq,wpAny_dictFind_heap→Xr,IsItemIterOut→Xt,wpAny_setItem_heap→Xu,call_reversed_list→Xw,Env→Xx,codeAny_mono→Xy,storedH→Xz,wpAny_sequenceKey→XA,seqIndex_neg→XB,newTuple→XC,wpAny_Call_method→XF,eqIsQuiet_byValue→XG,IsEnumOut→XN,seqIndex_of→XQ,storedH_new→XR,BindsTo→XS,builtinsNs→XX,Model→XY,wpAny_Name→XZ,NameKind→X1,backToKw→X3,call_meets→X4,compEnvC→X5,raiseNew→X6,entry_at→Ya,IsTupleKey→Yb,isInstance→Yc,holding→Ye,setItem→Yf,leaving→Yg,MeetsIn→Yi,Sem→Yk
open PyProof.Rows renaming wpS_bind→Vh,SortSt→Vt,wpS_pure→Vw,Keyed→VA,wpS_forRange→Wb,pairsOf→Wd,AllBare→Wt,pendingOf→Ww,reverseSlice'→WQ,listUpdate_at→WR,subscriptTail_builtinR→W7,wpS_reverse→Xi,seqEpoch_at→Xm,subscriptTail→Xs,args_tuple_getitem→Xv,wpS_get→XD,failedOf→XE,pairsOf_size→XI,IsTup→XO,IntsAre→XT,tuples'→XW,Call_→X0,Subscript_→X2,wpS_mono→X8,wpS_modify→X9
open Option renaming some→Yl
def UO:=@if_neg
def UQ:=@if_pos
def UU:=@absurd
def UX:=@decide_eq_true
def U0:=@of_decide_eq_true
def U1:=@decide_eq_false
def U5:=@decide_eq_true_iff
def Vq:=@if_false
def Vx:=@decide_eq_false_iff_not
def VF:=@beq_self_eq_true
def Wm:=@if_true
def XU:=@dif_pos
noncomputable section
namespace L2
open PySem PySem.Spec PyProof.Rows
noncomputable abbrev Key:=Sum Int Vg
noncomputable def qj:Key->UP->Bool
 |.inl k,v=>Value.isInt k v
 |.inr x,v=>Value.isStrOf x v
noncomputable def L6(w:U4):Key->Int
 |.inl k=>hashInt k
 |.inr x=>hashStr w x
theorem br:∀{k:Key}{v:UP},qj k v=true->(∃i t,k=Sum.inl i/\v=Value.int i t)\/(∃x t,k=Sum.inr x/\v=Value.str x t)
 |.inl i,v,h=>by
  obtain⟨t,e⟩:=Value.isInt_shape (k:=i) (v:=v) h;exact .inl ⟨i,t,rfl,e⟩
 |.inr x,v,h=>by
  obtain⟨t,e⟩:=Value.isStrOf_shape (x:=x) (v:=v) h;exact .inr ⟨x,t,rfl,e⟩
theorem yH(i:Int)(t:Tok):qj (.inl i) (.int i t)=true:=by simp[qj,Value.isInt]
theorem yI(x:Vg)(t:Tok):qj (.inr x) (.str x t)=true:=by simp[qj,Value.isStrOf]
theorem FW(a b:Int):decide ((Sum.inl a:Key)=Sum.inl b)=(a==b):=by
 by_cases e:a=b
 .subst e;simp
 have h:¬(Sum.inl a:Key)=Sum.inl b:=λq=>e (Sum.inl.inj q);rw[U1 h];exact(beq_eq_false_iff_ne.mpr e).symm
theorem FX(a b:Vg):decide ((Sum.inr a:Key)=Sum.inr b)=decide (a=b):=by
 by_cases e:a=b
 .subst e;simp
 have h:¬(Sum.inr a:Key)=Sum.inr b:=λq=>e (Sum.inr.inj q);rw[U1 h,U1 e]
theorem FY(a:Int)(b:Vg):decide ((Sum.inl a:Key)=Sum.inr b)=false:=U1 (λq=>nomatch q)
theorem FZ(a:Vg)(b:Int):decide ((Sum.inr a:Key)=Sum.inl b)=false:=U1 (λq=>nomatch q)
noncomputable def aX(prog:U3)(w:U4):PySem.KeyKind prog w Key where
 is:=qj
 hash:=L6 w
 inj:=λv a b D B=>by
  rcases br D with⟨i,t,rfl,rfl⟩|⟨x,t,rfl,rfl⟩
  .rcases br B with⟨j,u,rfl,e⟩|⟨y,u,rfl,e⟩
   .injection e with e1 _;rw[e1]
   exact nomatch e
  rcases br B with⟨j,u,rfl,e⟩|⟨y,u,rfl,e⟩
  .exact nomatch e
  injection e with e1 _;rw[e1]
 byValue:=λk v h=>by
  rcases br h with⟨i,t,rfl,rfl⟩|⟨x,t,rfl,rfl⟩ <;> rfl
 pyHash:=λz h=>by
  rcases br z with⟨i,t,rfl,rfl⟩|⟨x,t,rfl,rfl⟩
  .exact wpAny_pyHash_int h
  exact wpAny_pyHash_str h
 eqBool:=λE z h=>by
  rcases br E with⟨i,t,rfl,rfl⟩|⟨x,t,rfl,rfl⟩
  .rcases br z with⟨j,u,rfl,rfl⟩|⟨y,u,rfl,rfl⟩
   .rw[FW]at h;exact WT h
   rw[FY]at h;exact SeqAt.EqAt.int_str i t y u _ _ _ _ h
  rcases br z with⟨j,u,rfl,rfl⟩|⟨y,u,rfl,rfl⟩
  .rw[FZ]at h;exact SeqAt.EqAt.str_int x t j u _ _ _ _ h
  rw[FX]at h;exact wpAny_eqBool_str h
 «strs»:=λk x t v h=>by
  rcases br h with⟨i,u,rfl,e⟩|⟨y,u,rfl,e⟩
  .exact nomatch e
  injection e with e1 _;subst e1;cases v <;> rfl
theorem tD(prog:U3)(w:U4)(i:Int)(t:Tok):(aX prog w).is (.inl i) (.int i t)=true:=yH i t
theorem tF(prog:U3)(w:U4)(x:Vg)(t:Tok):(aX prog w).is (.inr x) (.str x t)=true:=yI x t
inductive V where
 |eE|bl (b:Bool)|int (i:Int)|str (x:Vg)|Aj (b:Array UInt8)|Ik (b:UInt64)|ref (a:UR)|ty (n:String)
 deriving DecidableEq
noncomputable def RelV:V->UP->Prop
 |.eE,u=>u=Value.none
 |.bl b,u=>u=Value.bool b
 |.int i,u=>∃t,u=Value.int i t
 |.str x,u=>∃t,u=Value.str x t
 |.Aj b,u=>∃t,u=Value.bytes b t
 |.Ik b,u=>∃t,u=Value.float b t
 |.ref a,u=>u=Value.ref a
 |.ty n,u=>u=Value.type n
abbrev Vals:List V->List UP->Prop:=Paired RelV
theorem Vals.length{xs:List V}{z:List UP}(r:Vals xs z):xs.length=z.length:=Paired.length r
theorem Vals.get:∀{xs:List V}{z:List UP}{i:Nat}{x:V},Vals xs z->xs[i]?=Yl x->∃u,z[i]?=Yl u/\RelV x u
 |_,_,_,_,.nil,e=>by simp at e
 |_,_,0,_,.cons r _,e=>by simp at e;subst e;exact⟨_,rfl,r⟩
 |_,_,i+1,x,.cons _ t,e=>by
  obtain⟨u,B,D⟩:=Vals.get (i:=i) (x:=x) t (by simpa using e);exact⟨u,by simpa using B,D⟩
theorem Vals.set{x:V}{u:UP}(r:RelV x u):∀{xs:List V}{z:List UP} (i:Nat),Vals xs z->Vals (xs.set i x) (z.set i u)
 |_,_,_,.nil=>.nil
 |_,_,0,.cons _ t=>.cons r t
 |_,_,i+1,.cons q t=>.cons q (Vals.set r i t)
theorem Vals.append:∀{xs ys:List V}{z B:List UP},Vals xs z->Vals ys B->Vals (xs++ys) (z++B)
 |_,_,_,_,.nil,s=>s
 |_,_,_,_,.cons r t,s=>.cons r (Vals.append t s)
theorem Vals.take:∀{xs:List V}{z:List UP} (n:Nat),Vals xs z->Vals (xs.take n) (z.take n)
 |_,_,0,_=>.nil
 |_,_,_+1,.nil=>.nil
 |_,_,n+1,.cons r t=>.cons r (Vals.take n t)
theorem Vals.drop:∀{xs:List V}{z:List UP} (n:Nat),Vals xs z->Vals (xs.drop n) (z.drop n)
 |_,_,0,r=>r
 |_,_,_+1,.nil=>.nil
 |_,_,n+1,.cons _ t=>Vals.drop n t
noncomputable def j9:Option V->Option UP->Prop
 |some v,Yl u=>RelV v u
 |none,none=>True
 |_,_=>False
def KV{κ:Type}:List (κ×V)->List (κ×UP)->Prop:=Paired λ(p:κ×V) (q:κ×UP)=>p.1=q.1/\RelV p.2 q.2
noncomputable def kV:Key->V
 |.inl i=>.int i
 |.inr x=>.str x
inductive HO where
 |lst (xs:List V)
 |tup (xs:List V)
 |dK (kvs:List (Key×V))|dT (kvs:List (List Key×V))
 |set (S:Int->Bool) (n:Nat)
 |ins (C dx:UR) (fs:List (Vg×V))
 |own (x:UR)
 |xd (fs:List (Vg×V))
 |met (f x:UR)
 |ql (lo hi:Int)
 |gv (o:VE) (u:HO)
 |E9 (ps:Array UP)
 |ext (φ:Vd->Prop)
noncomputable abbrev Hp:=UR->Option HO
noncomputable def upd(H:Hp)(a:UR)(o:HO):Hp:=λb=>if b=a then some o else H b
theorem ag{H:Hp}{a:UR}{o:HO}:upd H a o a=Yl o:=by unfold upd;rw[UQ rfl]
theorem ao{H:Hp}{a b:UR}{o:HO}(h:b≠a):upd H a o b=H b:=by unfold upd;rw[UO h]
theorem Al{H:Hp}{a b:UR}{o u:HO}(h:H a=Yl o)(h':H b=Yl u)(d:o≠u):a≠b:=by
 intro e;subst e;rw[h]at h';exact d (Option.some.inj h')
theorem aQ{H:Hp}{a b:UR}{o:HO}(h:H a=Yl o)(h':H b=none):a≠b:=by
 intro e;subst e;rw[h]at h';cases h'
section
variable (P:U3)(w:U4)
noncomputable def bh(H:Hp)(h:Vd)(a:UR): HO->Prop
  |.lst xs=>xs.length<=U2/\∃(its:List UP) (n:Nat),Vals xs its/\h.get? a=Yl { cls := .type "list", data := .seq its.toArray n }
  |.tup xs=>xs.length<=U2/\∃its:List UP,Vals xs its/\XO h a its.toArray
  |.dK kvs=>kvs.length<=U2/\(a==Vm)=false/\∃vs,KV kvs vs/\h.DictOf (aX P w) a vs
  | .dT kvs => kvs.length <= U2 /\ (a == Vm)=false /\ ∃ xs : List (List Key × UR × UP),
      Paired (λ(p:List Key×V) (q:List Key×UR×UP)=>p.1=q.1/\H q.2.1=Yl (.tup (p.1.map kV))/\RelV p.2 q.2.2) kvs xs /\
      ∃o D ep,h.get? a=Yl o/\o.ExactDict/\o.data=.dict D ep/\D.toList=xs.map (WY (Wv (aX P w)))/\(xs.map (·.1)).Nodup
  |.set S n=>h.SetOf (intKind P w) a S n
  | .ins C B fs => H B=Yl (.own a) /\ fs.length <= 1000 /\ B ≠ a /\ h.get? a=Yl (SY C B) /\
      ∃z,h.Ns1 B z/\(∀f,j9 (fs.lookup f) (z f))/\PySem.Within z (fs.map (·.1))
  |.own _=>∃o,h.get? a=Yl o
  |.xd fs=>∃z,h.Ns1 a z/\∀f,j9 (fs.lookup f) (z f)
  |.ql lo hi=>∃t u v,h.get? a=Yl { cls := .type "range", data := .fields #[.int lo t,.int hi u,.int 1 v] }
  |.gv o u=>h.get? a=Yl o/\bh H h a u
  |.E9 ps=>h.get? a=Yl { cls := .none,data := .fields ps }
  |.met f x=>h.get? a=Yl (SD (.ref f) (.ref x))
  |.ext φ=>φ h/\(∃o,h.get? a=Yl o)/\∀E J:Vd,φ E->(∀o,E.get? a=Yl o->J.get? a=Yl o)->φ J
def gY(H:Hp)(h:Vd):Prop:=∀a o,H a=Yl o->bh P w H h a o
end
section
variable {P:U3}{w:U4}{H Z:Hp}{h h':Vd}{a:UR}{o:HO}
theorem bh.lt(x:bh P w H h a o):a<h.objs.size:=by
 cases o with
 |lst xs=>obtain⟨_,_,_,_,e⟩:=x;exact Pt e
 |tup xs=>obtain⟨_,_,_,p⟩:=x;exact p.lt
 |dK kvs=>obtain⟨_,_,_,_,o,_,_,e,_⟩:=x;exact Pt e
 |dT kvs=>obtain⟨_,_,_,_,o,_,_,e,_⟩:=x;exact Pt e
 |set S n=>obtain⟨o,_,_,_,e,_⟩:=x;exact Pt e
 |ins C z fs=>obtain⟨_,_,_,e,_⟩:=x;exact Pt e
 |own y=>obtain⟨_,e⟩:=x;exact Pt e
 |xd fs=>obtain⟨_,⟨_,_,_,e,_⟩,_⟩:=x;exact Pt e
 |ql lo hi=>obtain⟨_,_,_,e⟩:=x;exact Pt e
 |gv B u=>obtain⟨e,_⟩:=x;exact Pt e
 |E9 ps=>exact Pt (show h.get? a=Yl _ from x)
 |met f y=>exact Pt (show h.get? a=Yl _ from x)
 |ext φ=>obtain⟨_,⟨_,e⟩,_⟩:=x;exact Pt e
theorem Paired.rq{α β:Type}{F G:α->β->Prop}:∀{l₁:List α}{l₂:List β},Paired F l₁ l₂->(∀a b,F a b->G a b)->Paired G l₁ l₂
 |_,_,.nil,_=>.nil
 |_,_,.cons r t,f=>.cons (f _ _ r) (Paired.rq t f)
theorem bh.pL(x:bh P w H h a o)(k:∀b u,(b=a\/H b=Yl (.own a))->h.get? b=Yl u->h'.get? b=Yl u)
  (M:∀b,H b=Yl (.own a)->Z b=Yl (.own a)) (O:∀b xs,H b=Yl (.tup xs)->Z b=Yl (.tup xs)):bh P w Z h' a o:=by
 induction o with
 |lst xs=>obtain⟨z,its,n,r,e⟩:=x;exact⟨z,its,n,r,k _ _ (.inl rfl) e⟩
 |tup xs=>obtain⟨z,its,r,B,e,c⟩:=x;exact⟨z,its,r,B,k _ _ (.inl rfl) e,c⟩
 |dK kvs=>obtain⟨z,y,vs,r,B,D,ep,e,c⟩:=x;exact⟨z,y,vs,r,B,D,ep,k _ _ (.inl rfl) e,c⟩
 |dT kvs =>
  obtain⟨z,y,xs,r,B,D,ep,e,c⟩:=x;exact⟨z,y,xs,Paired.rq r λp q z=>⟨z.1,O _ _ z.2.1,z.2.2⟩,B,D,ep,k _ _ (.inl rfl) e,c⟩
 |set S n=>obtain⟨B,D,ep,t,e,c⟩:=x;exact⟨B,D,ep,t,k _ _ (.inl rfl) e,c⟩
 |ins C V fs =>
  obtain⟨d,z,ne,e,E,⟨J,D,ep,e2,c⟩,r⟩:=x;exact⟨M _ d,z,ne,k _ _ (.inl rfl) e,E,⟨J,D,ep,k _ _ (.inr d) e2,c⟩,r⟩
 |own y=>obtain⟨B,e⟩:=x;exact⟨B,k _ _ (.inl rfl) e⟩
 |xd fs=>obtain⟨E,⟨J,D,ep,e,c⟩,r⟩:=x;exact⟨E,⟨J,D,ep,k _ _ (.inl rfl) e,c⟩,r⟩
 |ql lo hi=>obtain⟨t,u,v,e⟩:=x;exact⟨t,u,v,k _ _ (.inl rfl) e⟩
 |gv B u U=>obtain⟨e,q⟩:=x;exact⟨k _ _ (.inl rfl) e,U q⟩
 |E9 ps =>
  have e:h.get? a=Yl { cls:=.none,data:=.fields ps }:=x;show h'.get? a=Yl { cls:=.none,data:=.fields ps };exact k a _ (.inl rfl) e
 |met f y =>
  have e:h.get? a=Yl (SD (.ref f) (.ref y)):=x;show h'.get? a=Yl (SD (.ref f) (.ref y));exact k a _ (.inl rfl) e
 |ext φ=>obtain⟨p,⟨o,e⟩,st⟩:=x;exact⟨st _ _ p λo q=>k _ _ (.inl rfl) q,⟨o,k _ _ (.inl rfl) e⟩,st⟩
theorem gY.lt(x:gY P w H h)(e:H a=Yl o):a<h.objs.size:=(x a o e).lt
theorem gY.fresh(x:gY P w H h)(e:h.objs.size<=a):H a=none:=by
 cases q:H a with
 |none=>rfl
 |some u=>exact UU (PZ (x.lt q) e) (Rc _)
theorem gY.kept(x:gY P w H h)(k:∀b u,h.get? b=Yl u->h'.get? b=Yl u):gY P w H h':=λa o e =>
 (x a o e).pL (λb u _ q=>k b u q) (λ_ q=>q) λ_ _ q=>q
theorem gY.laid(x:gY P w H h)(k:∀b u,h.get? b=Yl u->h'.get? b=Yl u)(D:h.objs.size<=a)(new:bh P w (upd H a o) h' a o):gY P w (upd H a o) h':=λb u e=>by
 have z:=x.fresh D;by_cases B:b=a
 .subst B;rw[ag]at e;cases e;exact new
 rw[ao B]at e;exact(x b u e).pL (λc v _ q=>k c v q) (λc q=>by rw[ao (aQ q z)];exact q) λc xs q=>by rw[ao (aQ q z)];exact q
end
def Rd(H:Hp)(a:UR)(u:HO):Prop:=H a=Yl u\/∃o,H a=Yl (.gv o u)
theorem Rd.ok{P:U3}{w:U4}{H:Hp}{h:Vd}{a:UR}{u:HO}(r:Rd H a u)(x:gY P w H h):bh P w H h a u:=by
 rcases r with r|⟨o,r⟩
 .exact x a u r
 obtain⟨_,q⟩:=x a _ r;exact q
noncomputable def Ga:Option HO->Prop
 |some (.lst _)=>True
 |some (.dK _)=>True
 |some (.dT _)=>True
 |some (.set _ _)=>True
 |some (.ins _ _ _)=>True
 |some (.ext _)=>True
 |_=>False
section
variable {P:U3}{w:U4}{H:Hp}{h h':Vd}{x e:UR}{o':HO}
theorem gY.write(ok:gY P w H h)(J:Ga (H x))(V:e=x\/H e=Yl (.own x))(k:∀b u,b≠e->h.get? b=Yl u->h'.get? b=Yl u)(U:∃u,h'.get? e=Yl u)
  (new:bh P w (upd H x o') h' x o'):gY P w (upd H x o') h':=λb u q=>by
 have D:∀c y,H c=Yl (.own y)->c≠x:=λc y r z=>by subst z;rw[r]at J;exact J
 have E:∀c xs,H c=Yl (.tup xs)->c≠x:=λc xs r z=>by subst z;rw[r]at J;exact J
 by_cases M:b=x
 .subst M;rw[ag]at q;cases q;exact new
 rw[ao M]at q;by_cases B:b=e
 .have Z:H b=Yl (.own x):=by
   rcases V with z|z
   .exact UU (B.trans z) M
   rw[B];exact z
  rw[q]at Z;cases Z;obtain⟨v,hv⟩:=U;exact⟨v,by rw[B];exact hv⟩
 refine(ok b u q).pL (λc v O r=>k c v ?_ r) (λc r=>by rw[ao (D c b r)];exact r) λc xs r=>by rw[ao (E c xs r)];exact r
 rcases O with rfl|O
 .exact B
 rintro rfl;rcases V with z|z
 .exact D c b O z
 rw[O]at z;cases z;exact M rfl
end
structure Un(fs ex:List UR) (H H':Hp) (h h':Vd):Prop where
 keep:∀b o,h.get? b=Yl o->H b=none->b∉fs->b∉ex->h'.get? b=Yl o
 slot:∀b o,h.get? b=Yl o->H b=none->b∈fs->b∉ex->∃sl,h'.get? b=Yl { o with slots:=sl }
 free:∀b o,h.get? b=Yl o->H b=none->b∉ex->H' b=none
 there:∀b o,h.get? b=Yl o->b∉ex->∃o',h'.get? b=Yl o'
 kg:∀b xs,H b=Yl (.tup xs)->H' b=Yl (.tup xs)
 jM:∀b o u,H b=Yl (.gv o u)->H' b=Yl (.gv o u)
 kh:∀b ps,H b=Yl (.E9 ps)->∃more,H' b=Yl (.E9 (ps++more))
section
variable {fs OO ex OP:List UR}{H Z H2:Hp}{h V h2 h':Vd}{a x e:UR}{o:HO}
theorem Un.any(u:Un fs ex H Z h V){b:UR}{z:VE}(q:h.get? b=Yl z)(n:H b=none)(B:b∉ex):∃E,V.get? b=Yl { z with slots:=E }:=by
 by_cases D:b∈fs
 .exact u.slot b z q n D B
 exact⟨z.slots,u.keep b z q n D B⟩
theorem Un.trans(a:Un fs ex H Z h V)(b:Un fs ex Z H2 V h2):Un fs ex H H2 h h2 where
 keep:=λc z q n D B=>b.keep c z (a.keep c z q n D B) (a.free c z q n B) D B
 slot:=λc z q n D B=>by
  obtain⟨U,e1⟩:=a.slot c z q n D B;obtain⟨E,e2⟩:=b.slot c _ e1 (a.free c z q n B) D B;exact⟨E,e2⟩
 free:=λc z q n B=>by
  obtain⟨J,e1⟩:=a.there c z q B;exact b.free c J e1 (a.free c z q n B) B
 there:=λc z q B=>by
  obtain⟨J,e1⟩:=a.there c z q B;exact b.there c J e1 B
 kg:=λc xs q=>b.kg c xs (a.kg c xs q)
 jM:=λc z xs q=>b.jM c z xs (a.jM c z xs q)
 kh:=λc ps q=>by
  obtain⟨M,e1⟩:=a.kh c ps q;obtain⟨O,e2⟩:=b.kh c _ e1;exact⟨M++O,by rw[e2,Tu]⟩
theorem Un.kept(k:∀b u,h.get? b=Yl u->h'.get? b=Yl u):Un fs ex H H h h' :=
 ⟨λb z q _ _ _=>k b z q,λb z q _ _ _=>⟨z.slots,k b z q⟩,λ_ _ _ n _=>n,λb z q _=>⟨z,k b z q⟩,λ_ _ q=>q,λ_ _ _ q=>q,λ_ ps q=>⟨#[],by rw[q];simp⟩⟩
theorem Un.refl:Un fs ex H H h h:=Un.kept λ_ _ q=>q
theorem Un.laid(k:∀b u,h.get? b=Yl u->h'.get? b=Yl u)(B:h.objs.size<=a)(z:H a=none):Un fs ex H (upd H a o) h h' where
 keep:=λb u q _ _ _=>k b u q
 slot:=λb u q _ _ _=>⟨u.slots,k b u q⟩
 free:=λb u q n _=>by rw[ao (PR (PZ (Pt q) B))];exact n
 there:=λb u q _=>⟨u,k b u q⟩
 kg:=λb xs q=>by rw[ao (aQ q z)];exact q
 jM:=λb u xs q=>by rw[ao (aQ q z)];exact q
 kh:=λb ps q=>⟨#[],by rw[ao (aQ q z),q];simp⟩
theorem Un.write(D:Ga (H x))(U:e=x\/H e=Yl (.own x))(k:∀b u,b≠e->h.get? b=Yl u->h'.get? b=Yl u)(E:∃u,h'.get? e=Yl u):Un fs ex H (upd H x o) h h':=by
 have M:∀b,H b=none->b≠x:=λb n z=>by subst z;rw[n]at D;exact D
 have O:∀b,H b=none->b≠e:=λb n z=>by
  subst z;rcases U with r|r
  .exact M b n r
  rw[n]at r;cases r
 have J:∀b u,H b=Yl u->¬Ga (Yl u)->b≠x:=λb u q nm z=>by subst z;rw[q]at D;exact nm D
 refine⟨λb u q n _ _=>k b u (O b n) q,λb u q n _ _=>⟨u.slots,k b u (O b n) q⟩,λb u q n _=>by rw[ao (M b n)];exact n,λb u q _=>?_,
  λb xs q=>by rw[ao (J b _ q λz=>z)];exact q,λb u xs q=>by rw[ao (J b _ q λz=>z)];exact q,λb ps q=>⟨#[],by rw[ao (J b _ q λz=>z),q];simp⟩⟩
 by_cases B:b=e
 .subst B;exact E
 exact⟨u,k b u B q⟩
theorem Un.mono(u:Un fs ex H Z h V)(hs:∀b∈fs,b∈OO)(E:∀b∈ex,b∈OP):Un OO OP H Z h V :=
 ⟨λb D q n J B=>u.keep b D q n (λz=>J (hs b z)) λz=>B (E b z),λ_ _ q n _ B=>u.any q n λz=>B (E _ z),λb D q n B=>u.free b D q n λz=>B (E b z),λb D q B=>u.there b D q λz=>B (E b z),u.kg,u.jM,u.kh⟩
end
noncomputable def qm(h:Vd)(H:Hp):List Addr:=(Pu h.objs.size).filter λa=>(H a).isSome
noncomputable def rz(h:Vd)(H:Hp):Heap:=Us h (qm h H)
theorem yJ(h:Vd)(H:Hp):(rz h H).objs.size=h.objs.size:=PySem.W.hideAll_size _ _
theorem Am{h:Vd}{H:Hp}{b:UR}{o:VE}(e:h.get? b=Yl o)(n:H b=none):(rz h H).get? b=Yl o :=
 Ti _ e λz=>by
  have q:(H b).isSome=true:=(O9.mp z).2;rw[n]at q;simp at q
theorem Dr{h:Vd}{H:Hp}{b:UR}{o:VE}(e:(rz h H).get? b=Yl o):h.get? b=Yl o/\H b=none:=by
 have B:h.get? b=Yl o:=Tv (qm h H) e;refine⟨B,?_⟩;cases q:H b with
 |none=>rfl
 |some x =>
  have D:b∈qm h H:=O9.mpr ⟨Pm.mpr (Pt B),by simp[q]⟩;have z:(rz h H).get? b=none:=PySem.W.hideAll_none (qm h H) D;rw[z]at e;cases e
structure Mod(K:Pa) (mg:Vg->Option UP) (base:Vd):Prop where
 kin:K.In base
 glob:base.Ns Vn mg
 blt:∃mb,base.Ns XX mb/\∀x:Vg,x≠"__name__"->mb x=Vi x
 nolimit:base.NoLimit
/-- Dg context: a IT body (or a ij block) running. base: fixed through Dg whole law; s₀, H₀: Dg entry; outer: Dg frames IU slots others may change (a IT Lk); stack: all frames Ds run;
   ex: Il Ds L7 made ahead of Dg entry and are walked here (a ij); fn: Dg names IU cells L7 made at Dg entry (a def: all; a ij block: its own); calm: not within an except OQ; pn: pins Ds OR state bears; xe: ab4 is wanted of an exception Ds L8 Dg code -/
structure Cx where
 prog:U3
 w:U4
 K:Pa
 mg:Vg->Option UP
 base:Vd
 A:Ve
 N:List Vg
 s₀:UW
 H₀:Hp
 env:Xx
 outer:List Xx
 stack:List Xx
 ex:List UR
 fn:Vg->Bool
 calm:Bool
 pn:List (UR×VE)
 xe:UP->UW->Prop
noncomputable def ki(l:List Xx):List Addr:=l.filterMap (·.frame)
noncomputable abbrev Cx.fs(X:Cx):List Addr:=ki X.outer
def Ma(z:V3)(x:Vg):Prop:=z.names.lookup x=Yl .local\/z.names.lookup x=Yl .cell\/z.names.lookup x=Yl .free
def Loc(z:V3)(x:Vg):Prop:=z.names.lookup x=Yl .local\/z.names.lookup x=Yl .cell
def Look(env:Xx)(h:Vd)(m:Vg->Option UP)(x:Vg)(u:UP):Prop :=
 (env.kindOf x=Yl .local/\m x=Yl u)\/((env.kindOf x=Yl .cell\/env.kindOf x=Yl .free)/\∃c,env.cells.lookup x=Yl c/\h.IsCell c (Yl u))
structure Cx.Ok(X:Cx):Prop where
 mod:Mod X.K X.mg X.base
 kind:X.env.scope.kind=.function
 glob:X.env.globals=Vn
 blt:X.env.builtins=XX
 above:X.s₀.heap.objs.size<=X.env.locals
 inj:∀x y c,X.env.cells.lookup x=Yl c->X.env.cells.lookup y=Yl c->x=y
 has:∀x,(X.env.kindOf x=Yl .cell\/X.env.kindOf x=Yl .free)->∃c,X.env.cells.lookup x=Yl c
 IW:∀x c,X.fn x=true->X.env.cells.lookup x=Yl c->X.s₀.heap.objs.size<=c
 hd:X.calm=true->X.A.handled=none
 frames:X.A.frames=Yl X.stack
 IY:X.stack=X.outer\/(X.stack=X.env::X.outer/\X.env.frame=Yl X.env.locals)
 OS:∀b∈X.ex,b≠X.env.locals/\∀x c,X.env.cells.lookup x=Yl c->c≠b
 bs:∀b o,X.base.get? b=Yl o->X.s₀.heap.get? b=Yl o/\X.H₀ b=none
 Fb:X.base.objs.size<=X.s₀.heap.objs.size
 An:∀b o,X.base.get? b=Yl o->b∉X.ex
 Dt:∀b∈X.ex,b∉X.fs
 n5:X.s₀.heap.FunFrames X.base X.outer
 Im:∀b∈X.fs,X.H₀ b=none
structure Inv(X:Cx) (pins:List (UR×VE)) (σ:List (Option V)) (H:Hp) (s:UW):Prop where
 ok:X.Ok
 os:s.os=X.s₀.os
 bare:Wt s.gens
 base:Un X.fs X.ex X.H₀ H X.s₀.heap s.heap
 loc:∃m,s.heap.Ns X.env.locals m/\∀(i:Nat) (x:Vg) (v:V),X.N[i]?=Yl x->σ[i]?=Yl (Yl v)->Ma X.env.scope x->∃u,RelV v u/\Look X.env s.heap m x u
 cell:∀x c,X.env.cells.lookup x=Yl c->∃v,s.heap.IsCell c v
 free:H X.env.locals=none
 jE:∀x c,X.env.cells.lookup x=Yl c->H c=none
 pin:∀p∈X.pn++pins,s.heap.get? p.1=Yl p.2/\H p.1=none/\p.1≠X.env.locals/\p.1∉X.fs/\∀v,p.2.data≠.cell v
 ba:gY X.prog X.w H s.heap
 len:σ.length=X.N.length
section
variable {X:Cx}{pins:List (UR×VE)}{σ:List (Option V)}{H H':Hp}{s:UW}{h':Vd}
theorem Cx.Ok.Mb(ok:X.Ok){b:UR}{o:VE}(e:X.base.get? b=Yl o):b∉X.fs:=λz=>by
 have:=(ok.n5.mem z).1;rw[e]at this;cases this
theorem Inv.bs(I:Inv X pins σ H s):∀b o,X.base.get? b=Yl o->s.heap.get? b=Yl o/\H b=none:=λb o e =>
 ⟨I.base.keep b o (I.ok.bs b o e).1 (I.ok.bs b o e).2 (I.ok.Mb e) (I.ok.An b o e),I.base.free b o (I.ok.bs b o e).1 (I.ok.bs b o e).2 (I.ok.An b o e)⟩
theorem Inv.bk(I:Inv X pins σ H s):∀b o,X.base.get? b=Yl o->s.heap.get? b=Yl o:=λb o e=>(I.bs b o e).1
theorem Inv.mod(I:Inv X pins σ H s):Mod X.K X.mg X.base:=I.ok.mod
theorem Inv.rA(I:Inv X pins σ H s):X.K.In s.heap:=I.ok.mod.kin.keeps I.bk
theorem Inv.lt(I:Inv X pins σ H s):X.env.locals<s.heap.objs.size:=let⟨_,z,_⟩:=I.loc;z.lt
theorem Inv.sz(I:Inv X pins σ H s):X.s₀.heap.objs.size<=s.heap.objs.size:=PH I.ok.above (Qo I.lt)
theorem Inv.Mc(I:Inv X pins σ H s){a:UR}(h:s.heap.objs.size<=a):a∉X.fs:=λz=>by
 obtain⟨_,o,B,_⟩:=I.ok.n5.mem z;exact UU (PZ (Pt B) (PH I.sz h)) (Rc _)
theorem Inv.Ao(I:Inv X pins σ H s):∀x c,X.env.cells.lookup x=Yl c->c≠X.env.locals:=λx c e z=>by
 obtain⟨v,o,E,hd⟩:=I.cell x c e;obtain⟨m,⟨J,M,ep,B,D,_⟩,_⟩:=I.loc;rw[z,B]at E;cases E;rw[D]at hd;cases hd
theorem Inv.n5(I:Inv X pins σ H s):s.heap.FunFrames X.base X.outer:=by
 have all:∀(l:List Xx),(∀b∈ki l,b∈X.fs)->X.s₀.heap.FunFrames X.base l->s.heap.FunFrames X.base l:=by
  intro l
  induction l with
  |nil=>intro _ _;trivial
  |cons env r J =>
   intro hs M;obtain⟨O,⟨L,o,B,U,V,hd⟩,Z⟩:=M;have D:L∈X.fs:=hs L (by unfold ki;rw[Ro,B];exact Pc);obtain⟨sl,e⟩:=I.base.slot L o V (I.ok.Im L D) D λz=>I.ok.Dt L z D;exact⟨O,⟨L,_,B,U,e,hd⟩,J (λb E=>hs b (by unfold ki;rw[Ro,B];exact Pj _ E)) Z⟩
 exact all X.outer (λ_ E=>E) I.ok.n5
theorem Inv.stack(I:Inv X pins σ H s):s.heap.FunFrames X.base X.stack:=by
 rcases I.ok.IY with e|⟨e,z⟩
 .rw[e];exact I.n5
 rw[e];obtain⟨m,B,_⟩:=I.loc;refine .cons (by rw[I.ok.kind];decide) z B ?_ I.n5;exact Heap.get?_none_of_le (PH I.ok.Fb I.ok.above)
theorem Inv.rB(I:Inv X pins σ H s):∀b∈ki X.stack,b∈X.env.locals::X.fs:=λb z=>by
 rcases I.ok.IY with e|⟨e,B⟩
 .rw[e]at z;exact Pj _ z
 rw[e]at z;unfold ki at z;rw[Ro,B]at z;exact z
theorem Inv.rC(I:Inv X pins σ H s):∀b∈ki X.stack,H b=none:=λb B=>by
 rcases Pq.mp (I.rB b B)with e|B
 .rw[e];exact I.free
 obtain⟨_,o,D,_⟩:=I.ok.n5.mem B;exact I.base.free b o D (I.ok.Im b B) λz=>I.ok.Dt b z B
theorem Inv.step{g':Array GenState}{t':Nat}{d':Drawn}{ch:List UR}(I:Inv X pins σ H s)
  (D:∀b∈ch,(b∈X.ex\/X.s₀.heap.objs.size<=b)/\b≠X.env.locals/\(∀x c,X.env.cells.lookup x=Yl c->c≠b)/\∀p∈X.pn++pins,p.1≠b)
  (keep:∀b o,b≠X.env.locals->b∉X.fs->b∉ch->s.heap.get? b=Yl o->H b=none->h'.get? b=Yl o)
  (slot:∀b o,b≠X.env.locals->b∈X.fs->b∉ch->s.heap.get? b=Yl o->H b=none->∃Z,h'.get? b=Yl { o with slots:=Z }) (free:∀b o,b∉ch->s.heap.get? b=Yl o->H b=none->H' b=none)
  (there:∀b o,b∉ch->s.heap.get? b=Yl o->∃U,h'.get? b=Yl U)
  (kg:∀b xs,H b=Yl (.tup xs)->H' b=Yl (.tup xs)) (jM:∀b o u,H b=Yl (.gv o u)->H' b=Yl (.gv o u)) (kh:∀b ps,H b=Yl (.E9 ps)->∃more,H' b=Yl (.E9 (ps++more)))
  (ns:∀m,s.heap.Ns X.env.locals m->h'.Ns X.env.locals m) (ba:gY X.prog X.w H' h') (hg:Wt g') :
  Inv X pins σ H' { s with heap:=h',gens:=g',drawn:=d',toks:=t' }:=by
 have V:∀b o,X.s₀.heap.get? b=Yl o->b≠X.env.locals:=λb o e=>PR (PZ (Pt e) I.ok.above);have J:∀b o,X.s₀.heap.get? b=Yl o->b∉X.ex->b∉ch:=λb o e B M=>by
  rcases(D b M).1 with z|z
  .exact B z
  exact UU (PZ (Pt e) z) (Rc _)
 have cellK:∀x c,X.env.cells.lookup x=Yl c->∀v,s.heap.IsCell c v->h'.IsCell c v:=λx c e v ⟨o,O,hd⟩=>by
  have E:c∉ch:=λz=>(D c z).2.2.1 x c e rfl;by_cases hc:c∈X.fs
  .obtain⟨Z,q⟩:=slot c o (I.Ao x c e) hc E O (I.jE x c e);exact⟨_,q,hd⟩
  exact⟨o,keep c o (I.Ao x c e) hc E O (I.jE x c e),hd⟩
 refine⟨I.ok,I.os,hg,⟨λb o e n M B=>?_,λb o e n M B=>?_,λb o e n B=>?_,λb o e B=>?_,λb xs e=>kg b xs (I.base.kg b xs e),λb o xs e=>jM b o xs (I.base.jM b o xs e),λb ps e=>?_⟩,?_,λx c e=>?_,?_,λx c e=>?_,λp hp=>?_,ba,I.len⟩
 .exact keep b o (V b o e) M (J b o e B) (I.base.keep b o e n M B) (I.base.free b o e n B)
 .obtain⟨Z,e1⟩:=I.base.slot b o e n M B;obtain⟨sl',e2⟩:=slot b _ (V b o e) M (J b o e B) e1 (I.base.free b o e n B);exact⟨sl',e2⟩
 .obtain⟨U,e1⟩:=I.base.there b o e B;exact free b U (J b o e B) e1 (I.base.free b o e n B)
 .obtain⟨U,e1⟩:=I.base.there b o e B;exact there b U (J b o e B) e1
 .obtain⟨m1,e1⟩:=I.base.kh b ps e;obtain⟨m2,e2⟩:=kh b _ e1;exact⟨m1++m2,by rw[e2,Tu]⟩
 .obtain⟨m,hn,hl⟩:=I.loc;refine⟨m,ns m hn,λi x v e1 e2 e3=>?_⟩;obtain⟨u,r,l⟩:=hl i x v e1 e2 e3;refine⟨u,r,?_⟩;rcases l with l|⟨k,c,e,z⟩
  .exact .inl l
  exact .inr ⟨k,c,e,cellK x c e _ z⟩
 .obtain⟨v,z⟩:=I.cell x c e;exact⟨v,cellK x c e v z⟩
 .obtain⟨m,⟨o,_,_,O,_⟩,_⟩:=I.loc;exact free _ o (λz=>(D _ z).2.1 rfl) O I.free
 .obtain⟨v,o,O,hd⟩:=I.cell x c e;exact free c o (λz=>(D c z).2.2.1 x c e rfl) O (I.jE x c e)
 obtain⟨e,n,ne,nf,d⟩:=I.pin p hp;have E:p.1∉ch:=λz=>(D p.1 z).2.2.2 p hp rfl;exact⟨keep p.1 p.2 ne nf E e n,free p.1 p.2 E e n,ne,nf,d⟩
theorem Inv.un{t':Nat}(I:Inv X pins σ H s)(u:Un X.fs [] H H' s.heap h')(ba:gY X.prog X.w H' h'):Inv X pins σ H' { s with heap:=h',toks:=t' }:=by
 obtain⟨m,⟨o,Z,ep,M,r⟩,_⟩:=id I.loc;obtain⟨sl,O⟩:=u.any M I.free (by simp);exact I.step (g':=s.gens) (d':=s.drawn) (ch:=[]) (λ_ z=>nomatch z) (λb o _ D _ e n=>u.keep b o e n D (by simp)) (λb o _ D _ e n=>u.slot b o e n D (by simp)) (λb o _ e n=>u.free b o e n (by simp)) (λb o _ e=>u.there b o e (by simp)) u.kg u.jM u.kh (λm' U=>by
  obtain⟨o',E,J,B,V⟩:=U;rw[M]at B;cases B;exact⟨_,E,J,O,V⟩) ba I.bare
theorem Inv.call{g':Array GenState}{t':Nat}{d':Drawn}{ch:List UR}(I:Inv X pins σ H s)(u:Un (ki X.stack) ch H H' s.heap h')(ba:gY X.prog X.w H' h')(V:Wt g')
  (D:∀b∈ch,(b∈X.ex\/X.s₀.heap.objs.size<=b)/\b≠X.env.locals/\(∀x c,X.env.cells.lookup x=Yl c->c≠b)/\∀p∈X.pn++pins,p.1≠b) :
  Inv X pins σ H' { s with heap:=h',gens:=g',drawn:=d',toks:=t' }:=by
 obtain⟨m,⟨o,es,ep,U,r⟩,_⟩:=id I.loc;obtain⟨sl,J⟩:=u.any U I.free λz=>(D _ z).2.1 rfl;exact I.step (ch:=ch) D (λb o J Z B e n=>u.keep b o e n (λz=>(Pq.mp (I.rB b z)).elim J Z) B) (λb o _ _ B e n=>u.any e n B) (λb o B e n=>u.free b o e n B) (λb o B e=>u.there b o e B) u.kg u.jM u.kh (λm' hm=>by
  obtain⟨o',M,O,E,r'⟩:=hm;rw[U]at E;cases E;exact⟨_,M,O,J,r'⟩) ba V
theorem Inv.turned{t':Nat}{B:UR}(I:Inv X pins σ H s)(k:∀b o,b≠B->s.heap.get? b=Yl o->h'.get? b=Yl o)(M:H B=none)(J:B≠X.env.locals)
  (O:B∈X.ex\/X.s₀.heap.objs.size<=B) (U:∀x c,X.env.cells.lookup x=Yl c->c≠B) (V:∀p∈X.pn++pins,p.1≠B):Inv X pins σ H { s with heap:=h',toks:=t' }:=by
 have E:∀b u,H b=Yl u->b≠B:=λb u e z=>by rw[z,M]at e;cases e
 refine I.step (g':=s.gens) (d':=s.drawn) (ch:=[B]) (λb Z=>?_) (λb o _ _ D e _=>k b o (λz=>D (by simp[z])) e) (λb o _ _ D e _=>⟨o.slots,k b o (λz=>D (by simp[z])) e⟩) (λ_ _ _ _ n=>n)
  (λb o D e=>⟨o,k b o (λz=>D (by simp[z])) e⟩) (λ_ _ e=>e) (λ_ _ _ e=>e) (λb ps e=>⟨#[],by rw[e];simp⟩) (λm hm=>?_) (λb u e=>?_) I.bare
 .have e:b=B:=by simpa using Z
  subst e;exact⟨O,J,U,V⟩
 .obtain⟨o,es,ep,ho,r⟩:=hm;exact⟨o,es,ep,k _ o (Ne.symm J) ho,r⟩
 refine(I.ba b u e).pL (λc v D q=>k c v ?_ q) (λ_ q=>q) λ_ _ q=>q;rcases D with z|z
 .rw[z];exact E b u e
 exact E c _ z
theorem Inv.tok(I:Inv X pins σ H s)(t:Nat):Inv X pins σ H { s with toks:=t }:=I.un (h':=s.heap) (t':=t) Un.refl I.ba
theorem Inv.kept{t':Nat}(I:Inv X pins σ H s)(k:∀b u,s.heap.get? b=Yl u->h'.get? b=Yl u):Inv X pins σ H { s with heap:=h',toks:=t' }:=I.un (Un.kept k) (I.ba.kept k)
theorem Inv.laid {a : UR}{o : HO}{t' : Nat}(I : Inv X pins σ H s)(k : ∀ b u, s.heap.get? b=Yl u -> h'.get? b=Yl u)(z : s.heap.objs.size <= a)(new : bh X.prog X.w (upd H a o) h' a o) :
    Inv X pins σ (upd H a o) { s with heap:=h',toks:=t' }:= I.un (Un.laid k z (I.ba.fresh z)) (I.ba.laid k z new)
theorem Inv.write {x e : UR}{o : HO}{t' : Nat}(I : Inv X pins σ H s)(B : Ga (H x))(D : e=x \/ H e=Yl (.own x))(k : ∀ b u, b ≠ e -> s.heap.get? b=Yl u -> h'.get? b=Yl u)(z : ∃ u, h'.get? e=Yl u)
    (new:bh X.prog X.w (upd H x o) h' x o): Inv X pins σ (upd H x o) { s with heap:=h',toks:=t' }:= I.un (Un.write B D k z) (I.ba.write B D k z new)
theorem Inv.wV{B:List (UR×VE)}(I:Inv X pins σ H s)(h:∀p∈B,s.heap.get? p.1=Yl p.2/\H p.1=none/\p.1≠X.env.locals/\p.1∉X.fs/\∀v,p.2.data≠.cell v):Inv X B σ H s :=
 ⟨I.ok,I.os,I.bare,I.base,I.loc,I.cell,I.free,I.jE,λp D=>(Pl.mp D).elim (λz=>I.pin p (Px _ z)) (h p),I.ba,I.len⟩
theorem tG{N:List Vg}(z:N.Nodup){i j:Nat}{x:Vg}(a:N[i]?=Yl x)(b:N[j]?=Yl x):i=j:=by
 obtain⟨B,e1⟩:=O1.mp a;obtain⟨D,e2⟩:=O1.mp b;exact(RO z).mp (e1.trans e2.symm)
theorem qo{M:XY}{A:Ve}{E:UP->UW->Prop}{i:Nat}{x:Vg}{v:V}{u:UP}{Q:Unit->UW->Prop}(I:Inv X pins σ H s)(hN:X.N.Nodup)(hi:X.N[i]?=Yl x)(D:Loc X.env.scope x)(r:RelV v u)
  (h:∀s',Inv X pins (σ.set i (Yl v)) H s'->(∃a,Heap.SameBut a s.heap s'.heap/\(a=X.env.locals\/X.env.cells.lookup x=Yl a))->Q () s') (hf:X.fn x=true\/X.env.scope.names.lookup x=Yl .local:=by first|exact .inl rfl|exact .inr rfl|assumption):wpAny M A (storeName X.env x u) Q E s:=by
 obtain⟨m,hn,hl⟩:=id I.loc;have Md:(X.env.scope.kind == .class||(X.env.scope.kind == .module&&X.env.locals != X.env.globals))=false:=by rw[I.ok.kind];rfl
 have O:i<σ.length:=by rw[I.len];exact(O1.mp hi).1
 have Ao:=I.Ao;have tracked:∀{a:UR}{h':Vd},(∃o,s.heap.get? a=Yl o/\H a=none)->Heap.SameBut a s.heap h'->gY X.prog X.w H h':=λ{a h'} ha hs b ob e=>by
  obtain⟨_,_,J⟩:=ha;refine(I.ba b ob e).pL (λc w' B q=>(hs.2 c ?_).trans q) (λ_ q=>q) λ_ _ q=>q;rintro rfl;rcases B with rfl|B
  .rw[J]at e;cases e
  rw[J]at B;cases B
 rcases D with U|U
 .refine wpAny_storeName_local U hn (λh' Me hs=>?_) Md;obtain⟨oL,_,_,hoL,_⟩:=id hn;refine h _ ⟨I.ok,I.os,I.bare,⟨λb o e n Z D=>?_,λb o e n Z D=>?_,I.base.free,λb o e D=>?_,I.base.kg,I.base.jM,I.base.kh⟩,⟨_,Me,λj y v' e1 e2 e3=>?_⟩,λy c e=>?_,I.free,I.jE,λp hp=>?_,tracked ⟨oL,hoL,I.free⟩ hs,by simpa using I.len⟩ ⟨_,hs,.inl rfl⟩
  .exact(hs.2 b (PR (PZ (Pt e) I.ok.above))).trans (I.base.keep b o e n Z D)
  .obtain⟨sl,e1⟩:=I.base.slot b o e n Z D;exact⟨sl,(hs.2 b (PR (PZ (Pt e) I.ok.above))).trans e1⟩
  .obtain⟨o',e1⟩:=I.base.there b o e D;exact⟨o',(hs.2 b (PR (PZ (Pt e) I.ok.above))).trans e1⟩
  .by_cases hj:j=i
   .subst hj;rw[hi]at e1;cases e1;rw[SR O]at e2;cases e2;exact⟨u,r,.inl ⟨U,by simp⟩⟩
   rw[S8 (Ne.symm hj)]at e2;obtain⟨u',r',q⟩:=hl j y v' e1 e2 e3;refine⟨u',r',?_⟩;rcases q with⟨k,e⟩|⟨k,c,e,z⟩
   .refine .inl ⟨k,?_⟩;have:y≠x:=λe=>hj (tG hN e1 (e▸hi));simp[this,e]
   exact .inr ⟨k,c,e,z.sameBut hs (Ao y c e)⟩
  .obtain⟨w',z⟩:=I.cell y c e;exact⟨w',z.sameBut hs (Ao y c e)⟩
  obtain⟨e,n,ne,nf,d⟩:=I.pin p hp;exact⟨(hs.2 p.1 ne).trans e,n,ne,nf,d⟩
 have Mf:X.fn x=true:=by
  rcases hf with z|z
  .exact z
  rw[z]at U;cases U
 obtain⟨c,B⟩:=I.ok.has x (.inl U);obtain⟨w',z⟩:=I.cell x c B;refine wpAny_storeName_cell I.ok.kind U B z (λh' OT hs=>?_);obtain⟨oc,OU,Mg⟩:=id z;refine h { s with heap:=h' } ⟨I.ok,I.os,I.bare,⟨λb o e n Z D=>?_,λb o e n Z D=>?_,I.base.free,λb o e D=>?_,I.base.kg,I.base.jM,I.base.kh⟩,⟨m,hn.sameBut hs (Ne.symm (Ao x c B)),λj y v' e1 e2 e3=>?_⟩,λy c' e=>?_,I.free,I.jE,λp hp=>?_,tracked ⟨oc,OU,I.jE x c B⟩ hs,by simpa using I.len⟩ ⟨c,hs,.inr B⟩
 .exact(hs.2 b (PR (PZ (Pt e) (I.ok.IW x c Mf B)))).trans (I.base.keep b o e n Z D)
 .obtain⟨sl,e1⟩:=I.base.slot b o e n Z D;exact⟨sl,(hs.2 b (PR (PZ (Pt e) (I.ok.IW x c Mf B)))).trans e1⟩
 .obtain⟨o',e1⟩:=I.base.there b o e D;exact⟨o',(hs.2 b (PR (PZ (Pt e) (I.ok.IW x c Mf B)))).trans e1⟩
 .by_cases hj:j=i
  .subst hj;rw[hi]at e1;cases e1;rw[SR O]at e2;cases e2;exact⟨u,r,.inr ⟨.inl U,c,B,OT⟩⟩
  rw[S8 (Ne.symm hj)]at e2;obtain⟨u',r',q⟩:=hl j y v' e1 e2 e3;refine⟨u',r',?_⟩;rcases q with q|⟨k,c',e,z'⟩
  .exact .inl q
  refine .inr ⟨k,c',e,z'.sameBut hs ?_⟩;rintro rfl;exact hj (tG hN e1 (I.ok.inj _ _ _ e B▸hi))
 .by_cases IZ:c'=c
  .subst IZ;exact⟨_,OT⟩
  obtain⟨w2,z2⟩:=I.cell y c' e;exact⟨w2,z2.sameBut hs IZ⟩
 obtain⟨e,n,ne,nf,d⟩:=I.pin p hp;refine⟨(hs.2 p.1 ?_).trans e,n,ne,nf,d⟩;intro q;rw[q,OU]at e;have q':oc=p.2:=Option.some.inj e;exact d w' (by rw[<-q'];exact Mg)
theorem tH{M:XY}{A:Ve}{E:UP->UW->Prop}{i:Nat}{x:Vg}{v:V}{u:UP}{Q:Unit->UW->Prop}(I:Inv X pins σ H s)(z:X.N.Nodup)(hi:X.N[i]?=Yl x)(B:Loc X.env.scope x)(r:RelV v u)
  (h:∀s',Inv X pins (σ.set i (Yl v)) H s'->Q () s') (D:X.fn x=true\/X.env.scope.names.lookup x=Yl .local:=by first|exact .inl rfl|exact .inr rfl|assumption):wpAny M A (storeName X.env x u) Q E s :=
 qo I z hi B r (λs' J _=>h s' J) D
theorem Inv.I0{s':UW}{ch:List UR}(I:Inv X pins σ H s)(B:s'.os=s.os)(u:Un (ki X.stack) ch H H' s.heap s'.heap)(ba:gY X.prog X.w H' s'.heap)(D:Wt s'.gens)
  (z:∀b∈ch,(b∈X.ex\/X.s₀.heap.objs.size<=b)/\b≠X.env.locals/\(∀x c,X.env.cells.lookup x=Yl c->c≠b)/\∀p∈X.pn++pins,p.1≠b):Inv X pins σ H' s':=by
 obtain⟨h',g',d',t',E⟩:=s';have e:E=s.os:=B;subst e;exact I.call (g':=g') (t':=t') (d':=d') u ba D z
end
noncomputable abbrev XK:=UP->Option UR->Hp->Prop
noncomputable abbrev St:=List (Option V)
noncomputable abbrev VK:=V->Hp->Prop
noncomputable abbrev TE:=St->Hp->VK->Prop
noncomputable abbrev TT:=St->Hp->(Bool->Hp->Prop)->Prop
noncomputable abbrev TA:=St->Hp->(List V->Hp->Prop)->Prop
structure Ends where
 nx:St->Hp->Prop
 rt:VK
 bk:St->Hp->Prop:=λ_ _=>False
 ct:St->Hp->Prop:=λ_ _=>False
noncomputable abbrev TS:=Ends->St->Hp->Prop
def EP(X:Cx)(pins:List (UR×VE))(σ:St)(Q:VK)(u:UP)(s':UW):Prop:=∃v z,Inv X pins σ z s'/\RelV v u/\Q v z
def TP(X:Cx)(pins:List (UR×VE))(σ:St)(Q:Bool->Hp->Prop)(b:Bool)(s':UW):Prop:=∃z,Inv X pins σ z s'/\Q b z
def AP(X:Cx)(pins:List (UR×VE))(σ:St)(Q:List V->Hp->Prop)(B:List UP)(s':UW):Prop:=∃vs z,Inv X pins σ z s'/\Vals vs B/\Q vs z
def SP(X:Cx)(pins:List (UR×VE))(D:Ends)(f:Flow)(s':UW):Prop :=
 match f with
 |.next=>∃z B,Inv X pins z B s'/\D.nx z B
 |.brk=>∃z B,Inv X pins z B s'/\D.bk z B
 |.cont=>∃z B,Inv X pins z B s'/\D.ct z B
 |.ret u=>∃v z B,Inv X pins z B s'/\RelV v u/\D.rt v B
def PE(X:Cx)(e:Vc)(t:TE):Prop :=
 ∀(pins:List (UR×VE)) (s:UW) (σ:St) (H:Hp) (Q:VK),Inv X pins σ H s->t σ H Q->wpAny (model X.prog X.w) X.A (eval e X.env) (EP X pins σ Q) X.xe s
def PT(X:Cx)(e:Vc)(t:TT):Prop :=
 ∀(pins:List (UR×VE)) (s:UW) (σ:St) (H:Hp) (Q:Bool->Hp->Prop),Inv X pins σ H s->t σ H Q->wpAny (model X.prog X.w) X.A (isTrue e X.env (eval e X.env)) (TP X pins σ Q) X.xe s
def PW(X:Cx)(e:Vc)(t:TT):Prop :=
 ∀(whole:Yk UP) (pins:List (UR×VE)) (s:UW) (σ:St) (H:Hp) (Q:Bool->Hp->Prop),Inv X pins σ H s->t σ H Q->wpAny (model X.prog X.w) X.A (isTrue e X.env whole) (TP X pins σ Q) X.xe s
theorem PW.pt{X:Cx}{e:Vc}{t:TT}(h:PW X e t):PT X e t:=h _
def PA(X:Cx)(z:List Vc)(t:TA):Prop :=
 ∀(pos:V6) (pins:List (UR×VE)) (s:UW) (σ:St) (H:Hp) (Q:List V->Hp->Prop),Inv X pins σ H s->t σ H Q->wpAny (model X.prog X.w) X.A (spliced (backTo pos (U6 z X.env))) (AP X pins σ Q) X.xe s
def PS(X:Cx)(st:Wq)(t:TS):Prop :=
 ∀(pins:List (UR×VE)) (s:UW) (σ:St) (H:Hp) (D:Ends),Inv X pins σ H s->t D σ H->wpAny (model X.prog X.w) X.A (exec st X.env) (SP X pins D) X.xe s
def qp(X:Cx)(st:List Wq)(t:TS):Prop :=
 ∀(pins:List (UR×VE)) (s:UW) (σ:St) (H:Hp) (D:Ends),Inv X pins σ H s->t D σ H->wpAny (model X.prog X.w) X.A (execs st X.env) (SP X pins D) X.xe s
theorem bI{α:Type}{t:Yk α}{Q z:α->UW->Prop}{M:XY}{A:Ve}{E:UP->UW->Prop}{s:UW}(h:wpAny M A t Q E s)(B:∀a s,Q a s->z a s):wpAny M A t z E s:=VQ h B λ_ _ x=>x
section
variable {X:Cx}
def Ja(i:Nat):TE:=λσ H Q=>∃v,σ[i]?=Yl (Yl v)/\Q v H
def tC(v:V):TE:=λ_ H Q=>Q v H
theorem Gb{i:Nat}{x:Vg}{pos:V6}(J:X.N[i]?=Yl x)(M:Ma X.env.scope x)(hd:(x==("__debug__":Vg))=false:=by decide)(D:(x==("__classdict__":Vg))=false:=by decide):PE X (.Name x pos) (Ja i):=by
 intro pins s σ H Q I h;obtain⟨v,e,h⟩:=h;obtain⟨m,O,U⟩:=I.loc;obtain⟨u,r,l⟩:=U i x v J e M;have fin:EP X pins σ Q u s:=⟨v,H,I,r,h⟩
 rcases l with⟨B,V⟩|⟨B,c,E,z⟩
 .exact XZ (wpAny_loadName_local I.ok.kind B O V fin) hd
 rcases B with B|B
 .exact XZ (wpAny_loadName_cell I.ok.kind B E z fin) hd
 exact XZ (wpAny_loadName_free I.ok.kind B E z fin D) hd
theorem av{i j pos}:PE X (.Constant (.int i) j pos) (tC (.int i)):=λ_ _ _ H _ I h=>wpAny_Constant_int ⟨.int i,H,I.tok _,⟨_,rfl⟩,h⟩
theorem wW{b j pos}:PE X (.Constant (.bool b) j pos) (tC (.bl b)):=λ_ _ _ H _ I h=>Constant_bool ⟨.bl b,H,I,rfl,h⟩
theorem vu{j pos}:PE X (.Constant .none j pos) (tC .eE):=λ_ _ _ H _ I h=>Constant_none ⟨.eE,H,I,rfl,h⟩
def Gl(X:Cx)(x:Vg):Prop:=X.env.kindOf x=Yl .globalImplicit
theorem wX{E:UP->UW->Prop}{pins:List (UR×VE)}{s:UW}{σ:St}{H:Hp}{x:Vg}{u:UP}{pos:V6}{Q:UP->UW->Prop}(I:Inv X pins σ H s)(z:Gl X x)(B:X.mg x=Yl u)(h:Q u s)
  (hd:(x==("__debug__":Vg))=false:=by decide):wpAny (model X.prog X.w) X.A (eval (.Name x pos) X.env) Q E s :=
 Calls.Name_function_global I.ok.kind z (Calls.loadGlobal_global (by rw[I.ok.glob];exact I.mod.glob.keeps I.bk) B h) hd
theorem fG{E:UP->UW->Prop}{pins:List (UR×VE)}{s:UW}{σ:St}{H:Hp}{x:Vg}{u:UP}{pos:V6}{Q:UP->UW->Prop}(I:Inv X pins σ H s)(z:Gl X x)(B:X.mg x=none)(D:Vi x=Yl u)(h:Q u s)
  (J:x≠"__name__":=by decide) (hd:(x==("__debug__":Vg))=false:=by decide):wpAny (model X.prog X.w) X.A (eval (.Name x pos) X.env) Q E s:=by
 obtain⟨U,M,O⟩:=I.mod.blt;exact Calls.Name_function_global I.ok.kind z (Calls.loadGlobal_builtin (by rw[I.ok.glob];exact I.mod.glob.keeps I.bk) B (by rw[I.ok.blt];exact M.keeps I.bk) ((O x J).trans D) h) hd
theorem wY{x:Vg}{v:V}{u:UP}{pos:V6}(z:Gl X x)(B:X.mg x=none)(D:Vi x=Yl u)(r:RelV v u)(E:x≠"__name__":=by decide)(hd:(x==("__debug__":Vg))=false:=by decide):PE X (.Name x pos) (tC v):=
 λ_ _ _ H _ I h=>fG I z B D ⟨v,H,I,r,h⟩ E hd
variable {a b:Vc}{ta tb:TE}{pos:V6}
def tB(t:TE):TT:=λσ H Q=>t σ H λx z=>∃c,x=.bl c/\Q c z
theorem jN{e:Vc}{t:TE}(h:PE X e t)(z:∀whole,isTrue e X.env whole=(do let v <- whole;standAt e.pos;Ye [v] (truthy v)):=by intro _;rfl):PT X e (tB t):=by
 intro pins s σ H Q I hw;refine isTrue_plain (bI (h pins s σ H _ I hw) λv M ⟨x,B,D,E,J⟩=>?_) (z _);obtain⟨d,rfl,q⟩:=J;cases E;exact Vj ⟨B,D,q⟩
variable {Z Ll:TT}{rest:List Vc}
def Mh(t u:TT):TT:=λσ H Q=>t σ H λc z=>if c=true then u σ z Q else Q false z
def tOr(t u:TT):TT:=λσ H Q=>t σ H λc z=>if c=true then Q true z else u σ z Q
def Mi(t:TT):TT:=λσ H Q=>t σ H λc z=>Q (!c) z
theorem jd(z:PT X a Z):PW X (.BoolOp .And [a] pos) Z:=by
 intro wh pins s σ H Q I h;refine isTrue_and (bI (z pins s σ H Q I h) λc B e=>?_);cases c with
 |true=>exact isTrue_and_nil e
 |false=>exact e
theorem vw(z:PT X a Z):PW X (.BoolOp .Or [a] pos) Z:=by
 intro wh pins s σ H Q I h;refine isTrue_or (bI (z pins s σ H Q I h) λc B e=>?_);cases c with
 |false=>exact isTrue_or_nil e
 |true=>exact e
theorem jO(E:PT X a Z)(J:PW X (.BoolOp .And (b::rest) pos) Ll):PW X (.BoolOp .And (a::b::rest) pos) (Mh Z Ll):=by
 intro wh pins s σ H Q I h;refine isTrue_and (bI (E pins s σ H _ I h) λc M ⟨z,B,D⟩=>?_);cases c with
 |true=>exact J wh pins M σ z Q B D
 |false=>exact⟨z,B,D⟩
theorem wZ(E:PT X a Z)(J:PW X (.BoolOp .Or (b::rest) pos) Ll):PW X (.BoolOp .Or (a::b::rest) pos) (tOr Z Ll):=by
 intro wh pins s σ H Q I h;refine isTrue_or (bI (E pins s σ H _ I h) λc M ⟨z,B,D⟩=>?_);cases c with
 |true=>exact⟨z,B,D⟩
 |false=>exact J wh pins M σ z Q B D
theorem n6(z:PT X a Z):PT X (.UnaryOp .Not a pos) (Mi Z):=by
 intro pins s σ H Q I h;exact isTrue_not (z pins s σ H (λc B=>Q (!c) B) I h)
def Mj(ta tb:TE):TE:=λσ H Q=>ta σ H λx z=>∃c,x=.bl c/\if c=true then Q (.bl true) z else tb σ z Q
theorem Gd{op}{t:TE}(h:PE X a t):PE X (.BoolOp op [a] pos) t:=λpins s σ H Q I hw=>BoolOp_one (h pins s σ H Q I hw)
theorem Jb(E:PE X a ta)(J:PE X (.BoolOp .Or (b::rest) pos) tb):PE X (.BoolOp .Or (a::b::rest) pos) (Mj ta tb):=by
 intro pins s σ H Q I h;refine BoolOp_or (bI (E pins s σ H _ I h) λv M O=>?_);obtain⟨x,B,D,U,z⟩:=O;obtain⟨c,rfl,z⟩:=z;cases U;refine Vj ?_;cases c with
 |false=>exact J pins M σ B Q D z
 |true=>exact⟨.bl true,B,D,rfl,z⟩
def tIf(t:TT)(ta tb:TE):TE:=λσ H Q=>t σ H λc z=>if c=true then ta σ z Q else tb σ z Q
theorem om{c:Vc}(J:PT X c Z)(M:PE X a ta)(O:PE X b tb):PE X (.IfExp c a b pos) (tIf Z ta tb):=by
 intro pins s σ H Q I h;refine wpAny_IfExp (bI (J pins s σ H _ I h) λd z ⟨B,D,E⟩=>?_);cases d with
 |true=>exact M pins z σ B Q D E
 |false=>exact O pins z σ B Q D E
end
def bc(K:Pa)(H:Hp)(a:UR)(xs:List V):Prop :=
 Rd H a (.lst xs) \/
  ∃(o:VE) (its:Array UP) (n:Nat),K.lookup a=Yl o/\o.cls=.type "list"/\o.dict=none/\o.data=.seq its n/\its.size<=U2/\Vals xs its.toList
def bZ(K:Pa)(H:Hp)(a:UR)(xs:List V):Prop :=
 Rd H a (.tup xs) \/
  ∃(o:VE) (its:Array UP) (n:Nat),K.lookup a=Yl o/\o.cls=.type "tuple"/\o.data=.seq its n/\its.size<=U2/\Vals xs its.toList
noncomputable def Mk:UP->Option V
 |.none=>Yl .eE
 |.bool b=>Yl (.bl b)
 |.int i _=>Yl (.int i)
 |.str x _=>Yl (.str x)
 |.bytes b _=>Yl (.Aj b)
 |.float b _=>Yl (.Ik b)
 |.ref a=>Yl (.ref a)
 |.type n=>Yl (.ty n)
 |_=>none
theorem RelV.abs{x:V}{u:UP}(r:RelV x u):Mk u=Yl x:=by
 cases x with
 |eE=>cases r;rfl
 |bl _=>cases r;rfl
 |int _=>obtain⟨t,rfl⟩:=r;rfl
 |str _=>obtain⟨t,rfl⟩:=r;rfl
 |Aj _=>obtain⟨t,rfl⟩:=r;rfl
 |Ik _=>obtain⟨t,rfl⟩:=r;rfl
 |ref _=>cases r;rfl
 |ty _=>cases r;rfl
theorem RelV.inj{x y:V}{u:UP}(r:RelV x u)(q:RelV y u):x=y:=Option.some.inj (r.abs.symm.trans q.abs)
theorem Vals.inj{xs ys:List V}{z:List UP}(h:Vals xs z)(k:Vals ys z):xs=ys:=by
 induction h generalizing ys with
 |nil=>cases k;rfl
 |cons r t B =>
  cases k with
  |cons D t'=>rw[r.inj D,B t']
section
variable {X:Cx}{pins:List (UR×VE)}{σ:St}{H:Hp}{s:UW}{a:UR}{xs ys:List V}
theorem bc.of{K:Pa}(h:H a=Yl (.lst xs)):bc K H a xs:=.inl (.inl h)
theorem bZ.of{K:Pa}(h:H a=Yl (.tup xs)):bZ K H a xs:=.inl (.inl h)
theorem Inv.list(I:Inv X pins σ H s)(h:bc X.K H a xs):∃its:List UP,Vals xs its/\PlainL s.heap a its.toArray/\xs.length<=sizeLine:=by
 rcases h with h|⟨o,its,n,B,D,hd,hs,hz,r⟩
 .obtain⟨z,its,n,r,e⟩:=h.ok I.ba;exact⟨its,r,⟨_,n,e,rfl,rfl,rfl⟩,z⟩
 refine⟨its.toList,r,⟨o,n,I.rA a o B,D,hd,by simpa using hs⟩,?_⟩;have e:=r.length;simp only[QU]at e;omega
theorem Inv.tuple(I:Inv X pins σ H s)(h:bZ X.K H a xs):∃its:List UP,Vals xs its/\XO s.heap a its.toArray/\xs.length<=sizeLine:=by
 rcases h with h|⟨o,its,n,B,D,hs,hz,r⟩
 .obtain⟨z,its,r,p⟩:=h.ok I.ba;exact⟨its,r,p,z⟩
 refine⟨its.toList,r,⟨o,I.rA a o B,D,n,by simpa using hs⟩,?_⟩;have e:=r.length;simp only[QU]at e;omega
theorem Inv.tI(I:Inv X pins σ H s)(h:bc X.K H a xs)(h':bc X.K H a ys):xs=ys:=by
 obtain⟨its,r,⟨o,n,e,_,_,d⟩,_⟩:=I.list h;obtain⟨its',B,⟨E,J,z,_,_,d'⟩,_⟩:=I.list h';rw[e]at z;cases z;rw[d]at d';injection d' with D _;have:its=its':=by simpa using congrArg TZ D
 subst this;exact r.inj B
theorem Inv.qq(I:Inv X pins σ H s)(h:bZ X.K H a xs)(h':bZ X.K H a ys):xs=ys:=by
 obtain⟨its,r,⟨o,e,_,n,d⟩,_⟩:=I.tuple h;obtain⟨its',B,⟨E,z,_,J,d'⟩,_⟩:=I.tuple h';rw[e]at z;cases z;rw[d]at d';injection d' with D _;have:its=its':=by simpa using congrArg TZ D
 subst this;exact r.inj B
end
noncomputable abbrev Cx.jA(X:Cx)(E:UP->UW->Prop):Cx:={ X with xe:=E }
noncomputable abbrev Cx.Ln(X:Cx):Cx:=X.jA λ_ _=>False
theorem Cx.Ok.jA{X:Cx}(ok:X.Ok)(E:UP->UW->Prop):(X.jA E).Ok :=
 ⟨ok.mod,ok.kind,ok.glob,ok.blt,ok.above,ok.inj,ok.has,ok.IW,ok.hd,ok.frames,ok.IY,ok.OS,ok.bs,ok.Fb,ok.An,ok.Dt,ok.n5,ok.Im⟩
theorem Cx.Ok.dy{X:Cx}{E:UP->UW->Prop}(ok:(X.jA E).Ok):X.Ok :=
 ⟨ok.mod,ok.kind,ok.glob,ok.blt,ok.above,ok.inj,ok.has,ok.IW,ok.hd,ok.frames,ok.IY,ok.OS,ok.bs,ok.Fb,ok.An,ok.Dt,ok.n5,ok.Im⟩
section
variable {X:Cx}{pins:List (UR×VE)}{σ:St}{H:Hp}{s:UW}{E:UP->UW->Prop}
theorem Inv.jA(I:Inv X pins σ H s)(E:UP->UW->Prop):Inv (X.jA E) pins σ H s:=⟨I.ok.jA E,I.os,I.bare,I.base,I.loc,I.cell,I.free,I.jE,I.pin,I.ba,I.len⟩
theorem Inv.dy(I:Inv (X.jA E) pins σ H s):Inv X pins σ H s:=⟨I.ok.dy,I.os,I.bare,I.base,I.loc,I.cell,I.free,I.jE,I.pin,I.ba,I.len⟩
theorem SP.dy{D:Ends}{f:Flow}{s':UW}(h:SP (X.jA E) pins D f s'):SP X pins D f s':=by
 cases f with
 |next=>obtain⟨z,B,I,q⟩:=h;exact⟨z,B,I.dy,q⟩
 |brk=>obtain⟨z,B,I,q⟩:=h;exact⟨z,B,I.dy,q⟩
 |cont=>obtain⟨z,B,I,q⟩:=h;exact⟨z,B,I.dy,q⟩
 |ret u=>obtain⟨v,z,B,I,r,q⟩:=h;exact⟨v,z,B,I.dy,r,q⟩
theorem qp.Ln{st:List Wq}{t:TS}(h:qp X.Ln st t):qp X st t:=λpins s σ H D I hw =>
 VQ (h pins s σ H D (I.jA _) hw) (λ_ _ q=>q.dy) λ_ _ z=>False.elim z
end
section
variable {X:Cx}{st:Wq}{rest:List Wq}{t u:TS}{e:Vc}{V:TE}{pos:V6}
def Jc:TS:=λD σ H=>D.nx σ H
def Ml(t u:TS):TS:=λD σ H=>t { D with nx:=u D } σ H
theorem bJ:qp X [] Jc:=λ_ _ σ H _ I h=>Wr ⟨σ,H,I,h⟩
theorem ah(B:PS X st t)(E:qp X rest u):qp X (st::rest) (Ml t u):=by
 intro pins s σ H D I h;refine wpAny_execs_cons (bI (B pins s σ H { D with nx:=u D } I h) λf J q=>?_);cases f with
 |next =>
  obtain⟨z,M,O,q⟩:=q;exact E pins J z M D O q
 |ret v=>exact q
 |brk=>exact q
 |cont=>exact q
theorem aA(z:PS X st t):qp X [st] t:=by
 intro pins s σ H D I h;refine wpAny_execs_cons (bI (z pins s σ H D I h) λf B q=>?_);cases f with
 |next=>exact Wr q
 |ret v=>exact q
 |brk=>exact q
 |cont=>exact q
theorem Inv.quiet{pins:List (UR×VE)}{σ:St}{H:Hp}{s:UW}(I:Inv X pins σ H s):interactive X.env=false:=by simp[interactive,I.ok.kind]
def Jd(V:TE):TS:=λD σ H=>V σ H λ_ z=>D.nx σ z
theorem fk(z:PE X e V)(hs:WU e none pos.line X.env=pure false:=by rfl):PS X (.Expr e pos) (Jd V):=by
 intro pins s σ H D I h;exact wpAny_Expr_any (bI (z pins s σ H _ I h) λv M ⟨x,B,E,O,J⟩=>⟨σ,B,E,J⟩) I.quiet hs
def Mm(V:TE):TS:=λD σ H=>V σ H D.rt
theorem a9(z:PE X e V):PS X (.Return (Yl e) pos) (Mm V):=by
 intro pins s σ H D I h;exact wpAny_Return_some (bI (z pins s σ H _ I h) λv O ⟨x,B,E,J,M⟩=>⟨x,σ,B,E,J,M⟩)
def Mn(c:TT)(t u:TS):TS:=λD σ H=>c σ H λb z=>if b=true then t D σ z else u D σ z
theorem dN{c:Vc}{a b:List Wq}{tc:TT}(M:PT X c tc)(O:qp X a t)(U:qp X b u):PS X (.If c a b pos) (Mn tc t u):=by
 intro pins s σ H D I h;refine wpAny_If (bI (M pins s σ H _ I h) λd z ⟨B,E,J⟩=>?_);cases d with
 |true=>exact O pins z σ B D E J
 |false=>exact U pins z σ B D E J
end
noncomputable abbrev TG:=V->St->Hp->(St->Hp->Prop)->Prop
noncomputable abbrev Fc:=List V->St->Hp->(St->Hp->Prop)->Prop
def PG(X:Cx)(target:Vc)(t:TG):Prop :=
 ∀(pins:List (UR×VE)) (s:UW) (σ:St) (H:Hp) (v:V) (u:UP) (Q:St->Hp->Prop),Inv X pins σ H s->RelV v u->t v σ H Q ->
  wpAny (model X.prog X.w) X.A (assign target X.env u) (λ_ s'=>∃z B,Inv X pins z B s'/\Q z B) X.xe s
def Je(X:Cx)(E:List Vc)(t:Fc):Prop :=
 ∀(pins:List (UR×VE)) (s:UW) (σ:St) (H:Hp) (vs:List V) (B:List UP) (Q:St->Hp->Prop),Inv X pins σ H s->Vals vs B->t vs σ H Q ->
  wpAny (model X.prog X.w) X.A (assignInOrder ((V1 E X.env).map (·.2)) B) (λ_ s'=>∃z D,Inv X pins z D s'/\Q z D) X.xe s
noncomputable abbrev Ge:=V->V->V->Hp->(Hp->Prop)->Prop
def Jf(X:Cx)(t:Ge):Prop :=
 ∀(pins:List (UR×VE)) (s:UW) (σ:St) (H:Hp) (o i v:V) (z B u:UP) (Q:Hp->Prop),Inv X pins σ H s->RelV o z->RelV i B->RelV v u->t o i v H Q ->
  wpAny (model X.prog X.w) X.A (Yf z B u) (λ_ s'=>∃D,Inv X pins σ D s'/\Q D) X.xe s
section
variable {X:Cx}{pos:V6}
def w5(i:Nat):TG:=λv σ H Q=>Q (σ.set i (Yl v)) H
theorem aL{i:Nat}{x:Vg}(z:X.N.Nodup)(hi:X.N[i]?=Yl x)(B:Loc X.env.scope x)(D:X.fn x=true\/X.env.scope.names.lookup x=Yl .local:=by first|exact .inl rfl|exact .inr rfl|assumption):PG X (.Name x pos) (w5 i):=by
 intro pins s σ H v u Q I r h;exact wpAny_assign_Name (tH I z hi B r (λs' E=>⟨_,H,E,h⟩) D)
noncomputable def Mo:Fc:=λvs σ H Q=>vs=[]/\Q σ H
noncomputable def Jg(t:TG)(u:Fc):Fc:=λvs σ H Q=>∃v r,vs=v::r/\t v σ H λz B=>u r z B Q
theorem jf:Je X [] Mo:=by
 intro pins s σ H vs z Q I r h;obtain⟨e,h⟩:=h;subst e;cases r;exact assignInOrder_nil ⟨σ,H,I,h⟩
theorem cv{e:Vc}{z:List Vc}{t:TG}{u:Fc}(D:PG X e t)(E:Je X z u)
  (hs:(V1 (e::z) X.env).map (·.2)=assign e X.env::(V1 z X.env).map (·.2):=by rfl):Je X (e::z) (Jg t u):=by
 intro pins s σ H vs Z Q I r h;obtain⟨v,vr,e1,h⟩:=h;subst e1;cases r with
 |cons r J =>
  rw[hs];refine assignInOrder_cons (bI (D pins s σ H _ _ _ I r h) λ_ M ⟨B,O,U,V⟩=>?_);exact E pins M B O _ _ Q U J V
def Jh(K:Pa)(n:Nat)(t:Fc):TG:=λv σ H Q=>∃a xs,v=.ref a/\bZ K H a xs/\xs.length=n/\t xs σ H Q
theorem l8{z:List Vc}{k:Nat}{t:Fc}{n:Nat}(E:X.calm=true)(h:Je X z t)
  (J:(V1 z X.env).length=n:=by rfl) (B:(V1 z X.env).findIdx? (·.1)=none:=by rfl):PG X (.Tuple z k pos) (Jh X.K n t):=by
 intro pins s σ H v u Q I r hw;obtain⟨a,xs,e1,M,O,hw⟩:=hw;subst e1;cases r;obtain⟨its,D,U,hz⟩:=I.tuple M;refine assign_Tuple_tuple (I.ok.hd E) U (by simp[J,<-O,D.length]) B λh' V=>?_;have Z:Inv X pins σ H { s with heap:=h' }:=I.kept (t':=s.toks) λb o e=>V b o (PR (Pt e)) e;exact h pins _ σ H xs _ Q Z (by simpa using D) hw
def Mp(to z:TE)(t:Ge):TG:=λv σ H Q=>to σ H λo B=>z σ B λi D=>t o i v D λE=>Q σ E
theorem Gf{o i:Vc}{to E:TE}{t:Ge}(J:PE X o to)(hi:PE X i E)(hs:Jf X t)
  (M:∀v,assign (.Subscript o i pos) X.env v=(do
   let z <-Ye [v] (eval o X.env)
   let B <-Ye [v,z] (eval i X.env)
   standAt pos
   Ye [v,z,B] (Yf z B v)
   release [v,z,B] []):=by intro _;rfl):PG X (.Subscript o i pos) (Mp to E t):=by
 intro pins s σ H v u Q I r h;rw[M];refine UM (Vk (bI (J pins s σ H _ I h) λz O D=>?_));obtain⟨x,U,V,Z,q1⟩:=D;refine UM (Vk (bI (hi pins O σ U _ V q1) λB s2 D=>?_));obtain⟨y,H2,I2,r2,q2⟩:=D;refine UM (Wj (UM (Vk (bI (hs pins s2 σ H2 x y v z B u _ I2 Z r2 r q2) λ_ s3 ⟨H3,I3,q3⟩=>?_))));exact wpAny_release ⟨σ,H3,I3,q3⟩
def Gg(z:TE)(g:TG):TS:=λD σ H=>z σ H λx B=>g x σ B D.nx
theorem Gh{z e:Vc}{B:TE}{g:TG}(E:PE X e B)(J:PG X z g)(hs:swapsWithSole [z] e pos.line X.env=pure false:=by rfl)(hw:swappedStores [z] e X.env=pure none:=by rfl)
  (M:(V1 [z] X.env).map (·.2)=[assign z X.env]:=by rfl):PS X (.Assign [z] e pos) (Gg B g):=by
 intro pins s σ H D I h;refine wpAny_Assign_stores (bI (E pins s σ H _ I h) λv O ⟨x,U,V,Z,q1⟩=>?_) hs hw;rw[M];exact bI (J pins O σ U x v _ V Z q1) λ_ s2 q=>q
theorem aH{i:Nat}{x:Vg}{e:Vc}{z:TE}{pos':V6}(B:X.N.Nodup)(hi:X.N[i]?=Yl x)(E:Loc X.env.scope x)(J:PE X e z)(hs:WU e (Yl (.Name x pos')) pos.line X.env=pure false:=by rfl)(M:X.fn x=true\/X.env.scope.names.lookup x=Yl .local:=by first|exact .inl rfl|exact .inr rfl|assumption) :
  PS X (.Assign [.Name x pos'] e pos) (Gg z (w5 i)):=by
 intro pins s σ H D I h;refine wpAny_Assign_Name (bI (J pins s σ H _ I h) λv s1 ⟨y,O,U,V,Z⟩=>?_) hs;exact tH U B hi E V (λs2 I2=>⟨_,O,I2,Z⟩) M
end
section
variable {X:Cx}{pos:V6}
def Gi(c:TT)(M:TS):TS:=λD σ H=>∃W:Nat->St->Hp->Prop,(∃m,W m σ H)/\∀m σ H,W m σ H ->
 c σ H λb B=>if b=true then∃N:St->Hp->Prop,(∀z E,N z E->∃J,J<m/\W J z E)/\M { D with nx:=N,ct:=N,bk:=D.nx } σ B else D.nx σ B
theorem tJ{c:Vc}{body:List Wq}{tc:TT}{tb:TS}(hp:PassesOwn (model X.prog X.w) X.A X.env X.xe)(hc:PT X c tc)(hb:qp X body tb):PS X (.While c body [] pos) (Gi tc tb):=by
 intro pins s σ H D I h;obtain⟨W,⟨m0,w0⟩,turn⟩:=h;refine wpAny_While (codeAny_whileLoop (λn s'=>∃E H',Inv X pins E H' s'/\W n E H') ?_ m0 ⟨σ,H,I,w0⟩);rintro n s1 ⟨B,H1,I1,w1⟩;refine VL hp (bI (hc pins s1 B H1 _ I1 (turn n B H1 w1)) λb s2 ⟨H2,I2,M⟩=>?_);cases b with
 |true =>
  obtain⟨N,hN,M⟩:=M;rw[UQ rfl];refine VL hp (bI (hb pins s2 B H2 _ I2 M) λf s3 O=>?_);cases f with
  |next =>
   obtain⟨z,J,U,V⟩:=O;obtain⟨Z,hm,w3⟩:=hN z J V;exact⟨Z,hm,z,J,U,w3⟩
  |cont =>
   obtain⟨z,J,U,V⟩:=O;obtain⟨Z,hm,w3⟩:=hN z J V;exact⟨Z,hm,z,J,U,w3⟩
  |brk=>exact O
  |ret v=>exact O
 |false =>
  rw[UO Po];exact Wr ⟨B,H2,I2,M⟩
end
structure It where
 go:Nat->Hp->Prop
 Gj:Nat->Hp->V->Hp->Prop
 stop:Nat->Hp->Prop
def ng(X:Cx)(pins:List (UR×VE))(H:Hp)(b:UR):Prop :=
 H b=none/\b≠X.env.locals/\b∉X.fs/\(b∈X.ex\/X.s₀.heap.objs.size<=b)/\(∀x c,X.env.cells.lookup x=Yl c->c≠b)/\∀p∈X.pn++pins,p.1≠b
theorem Inv.l9{X:Cx}{pins:List (UR×VE)}{σ:St}{H D:Hp}{s:UW}{b:UR}(I:Inv X pins σ H s)(B:s.heap.objs.size<=b)(E:D b=none):ng X pins D b:=by
 refine⟨E,Rf (PZ I.lt B),I.Mc B,.inr (PH I.sz B),λx c e z=>?_,λp J z=>?_⟩
 .obtain⟨v,q⟩:=I.cell x c e;exact UU (PZ q.lt (by rw[z];exact B)) (Rc _)
 exact UU (PZ (Pt (I.pin p J).1) (by rw[z];exact B)) (Rc _)
structure Turn(P:U3) (w:U4) (K:Pa) (tg:Vc) (J:It) (fp:List UR) (it:UR) (tn:Nat->Vd->Prop):Prop where
 mem:it∈fp
 obj:∀i h,tn i h->∀b∈fp,∃o,h.get? b=Yl o/\∀v,o.data≠.cell v
 keep:∀i h h',tn i h->(∀b∈fp,∀o,h.get? b=Yl o->h'.get? b=Yl o)->tn i h'
 item:∀(X:Cx),X.prog=P->X.w=w->X.K=K->X.calm=true->∀(i:Nat) (pins:List (UR×VE)) (s:UW) (σ:St) (H:Hp) (E:UP->UW->Prop),Inv X pins σ H s->(∀b∈fp,ng X pins H b)->tn i s.heap->J.go i H ->
  wpAny (model P w) X.A (pyNext (.ref it)) (λr s1=>∃u,r=Yl u /\
   wpAny (model P w) X.A (Xa tg (.ref it) u) (λ_ s2=>∃x H',Inv X pins σ H' s2/\RelV x u/\J.Gj i H x H'/\tn (i+1) s2.heap/\∀b∈fp,H' b=none) E s1) E s
 done:∀(X:Cx),X.prog=P->X.w=w->X.K=K->X.calm=true->∀(i:Nat) (pins:List (UR×VE)) (s:UW) (σ:St) (H:Hp) (E:UP->UW->Prop),Inv X pins σ H s->(∀b∈fp,ng X pins H b)->tn i s.heap->J.stop i H ->
  wpAny (model P w) X.A (pyNext (.ref it)) (λr s1=>r=none/\Inv X pins σ H s1) E s
 self:∀(A:Ve) (i:Nat) (s:UW) (Q:UP->UW->Prop) (E:UP->UW->Prop),tn i s.heap->Q (.ref it) s->wpAny (model P w) A (pyIter (.ref it)) Q E s
noncomputable abbrev TI:=St->Hp->(It->Hp->Prop)->Prop
def OV(X:Cx)(pins:List (UR×VE))(σ:St)(M:Vc)(R:It->Hp->Prop)(z:UP)(D:UW):Prop :=
 ∃(E:UR) (fp:List UR) (H:Nat->Vd->Prop) (J:It) (B:Hp),z=.ref E/\Inv X pins σ B D/\Turn X.prog X.w X.K M J fp E H/\H 0 D.heap/\(∀b∈fp,ng X pins B b)/\R J B
def PI(X:Cx)(z iter:Vc)(B:TI):Prop :=
 ∀(pins:List (UR×VE)) (s:UW) (σ:St) (H:Hp) (R:It->Hp->Prop),Inv X pins σ H s->B σ H R ->
  wpAny (model X.prog X.w) X.A (eval iter X.env) (λv D=>wpAny (model X.prog X.w) X.A (pyIter v) (OV X pins σ z R) X.xe D) X.xe s
theorem oq {M : XY}{A : Ve}{E : UP -> UW -> Prop}{s : UW}{B : Vc}{D : UR}{u : UP}{o : VE}{n : String}{vs : Array UP}{Q : Unit -> UW -> Prop}(H : s.heap.get? D=Yl o)(J : o.cls=.type n)(hd : o.data=.fields vs)
    (O:["enumerate", "zip", "dict_itemiterator", "dict_reverseitemiterator", "odict_iterator", "itertools.zip_longest", "itertools.pairwise"].contains n=false) (z:Q () s): wpAny M A (Xa B (.ref D) u) Q E s:=by
  unfold Xa;cases B <;> first
    |exact US z
    | (cases u <;> first
        |exact US z
        | (refine UM (wpAny_load H ?_)
           rw[J,hd];show wpAny M A (if(["enumerate", "zip", "dict_itemiterator", "dict_reverseitemiterator", "odict_iterator", "itertools.zip_longest", "itertools.pairwise"].contains n&&vs[0]? == some (rawInt _))=true then _ else _) Q E s;rw[UO (by intro h; rw[O,R6]at h; cases h)];exact US z))
noncomputable def Io(K:Pa)(a:UR):It :=
 ⟨λi H=>∃xs x,bc K H a xs/\xs[i]?=Yl x,λi H x z=>z=H/\∀xs,bc K H a xs->xs[i]?=Yl x,λi H=>∃xs,bc K H a xs/\xs.length<=i⟩
noncomputable def Mq(K:Pa)(a:UR):It :=
 ⟨λi H=>∃xs x,bZ K H a xs/\xs[i]?=Yl x,λi H x z=>z=H/\∀xs,bZ K H a xs->xs[i]?=Yl x,λi H=>∃xs,bZ K H a xs/\xs.length<=i⟩
noncomputable def Fd(lo:Int)(n:Nat):It:=⟨λi _=>i<n,λi H x z=>z=H/\x=.int (lo+i),λi _=>n<=i⟩
theorem yK{P:U3}{w:U4}{K:Pa}{tg:Vc}(a B:UR):Turn P w K tg (Io K a) [B] B (λi h=>h.IsListIter B a i) where
 mem:=by simp
 obj:=λi h st b D=>by
  have e:b=B:=by simpa using D
  subst e;obtain⟨o,e,c,d⟩:=st;exact⟨o,e,λv z=>by rw[d]at z;cases z⟩
 keep:=λi h h' st k=>st.at λo e=>k B (by simp) o e
 item:=by
  intro X U hw V hc i pins s σ H E I M st Z;subst U hw V;obtain⟨xs,x,O,hx⟩:=Z;obtain⟨its,rv,p,hz⟩:=I.list O;obtain⟨u,hu,ru⟩:=rv.get hx;obtain⟨f0,f1,f2,f3,f4,f5⟩:=M B (by simp);refine wpAny_pyNext_list_item st p.isList (x:=u) (by simpa using hu) λh' J sb=>?_;have I1:Inv X pins σ H { s with heap:=h' }:=I.turned (t':=s.toks) (λb o D e=>(sb.2 b D).trans e) f0 f1 f3 f4 f5;obtain⟨o,e,c,d⟩:=id J;exact⟨u,rfl,oq (s:={ s with heap:=h' }) e c d (by decide) ⟨x,H,I1,ru,⟨rfl,λys hy=>by rw[I.tI hy O];exact hx⟩,J,λb D=>(M b D).1⟩⟩
 done:=by
  intro X U hw V hc i pins s σ H E I M st Z;subst U hw V;obtain⟨xs,O,hx⟩:=Z;obtain⟨its,rv,p,hz⟩:=I.list O;obtain⟨f0,f1,f2,f3,f4,f5⟩:=M B (by simp);have hl:=rv.length;exact wpAny_pyNext_list_end (I.ok.hd hc) st p.isList (by simp;omega) λh' eb=>⟨rfl,I.turned (t':=s.toks) (λb o D e=>eb b o D e) f0 f1 f3 f4 f5⟩
 self:=λ_ _ _ _ _ st h=>wpAny_pyIter_listiter st h
theorem vy{P:U3}{w:U4}{K:Pa}{tg:Vc}(a B:UR):Turn P w K tg (Mq K a) [B] B (λi h=>h.IsTupleIter B a i) where
 mem:=by simp
 obj:=λi h st b D=>by
  have e:b=B:=by simpa using D
  subst e;obtain⟨o,e,c,d⟩:=st;exact⟨o,e,λv z=>by rw[d]at z;cases z⟩
 keep:=λi h h' st k=>st.at λo e=>k B (by simp) o e
 item:=by
  intro X U hw V hc i pins s σ H E I M st Z;subst U hw V;obtain⟨xs,x,O,hx⟩:=Z;obtain⟨its,rv,p,hz⟩:=I.tuple O;obtain⟨u,hu,ru⟩:=rv.get hx;obtain⟨f0,f1,f2,f3,f4,f5⟩:=M B (by simp);refine wpAny_pyNext_tuple_item st (show s.heap.IsTuple a its.toArray from p) (x:=u) (by simpa using hu) λh' J sb=>?_;have I1:Inv X pins σ H { s with heap:=h' }:=I.turned (t':=s.toks) (λb o D e=>(sb.2 b D).trans e) f0 f1 f3 f4 f5;obtain⟨o,e,c,d⟩:=id J;exact⟨u,rfl,oq (s:={ s with heap:=h' }) e c d (by decide) ⟨x,H,I1,ru,⟨rfl,λys hy=>by rw[I.qq hy O];exact hx⟩,J,λb D=>(M b D).1⟩⟩
 done:=by
  intro X U hw V hc i pins s σ H E I M st Z;subst U hw V;obtain⟨xs,O,hx⟩:=Z;obtain⟨its,rv,p,hz⟩:=I.tuple O;obtain⟨f0,f1,f2,f3,f4,f5⟩:=M B (by simp);have hl:=rv.length;exact wpAny_pyNext_tuple_end (I.ok.hd hc) st (show s.heap.IsTuple a its.toArray from p) (by simp;omega) λh' eb=>⟨rfl,I.turned (t':=s.toks) (λb o D e=>eb b o D e) f0 f1 f3 f4 f5⟩
 self:=λ_ _ _ _ _ st h=>wpAny_pyIter_tupleiter st h
theorem vz{P:U3}{w:U4}{K:Pa}{tg:Vc}(B:UR)(lo:Int)(n:Nat):Turn P w K tg (Fd lo n) [B] B (λi h=>IsRangeIter h B (lo+(i:Nat)*1) ((n:Int)-(i:Nat)) 1) where
 mem:=by simp
 obj:=λi h st b D=>by
  have e:b=B:=by simpa using D
  subst e;exact⟨_,st,λv z=>by
   have z':Data.fields _=Data.cell v:=z;cases z'⟩
 keep:=λi h h' st k=>k B (by simp) _ st
 item:=by
  intro X O hw U V i pins s σ H E I M st Z;subst O hw U;obtain⟨f0,f1,f2,f3,f4,f5⟩:=M B (by simp);have W:=Walks.range (prog:=X.prog) (w:=X.w) (I.ok.hd V) B lo 1 n;refine W.item i s _ _ Z st λv h' tk hv J kk=>?_;obtain⟨t,rfl⟩:=hv;have I1:Inv X pins σ H { s with heap:=h',toks:=tk }:=I.turned (λb o D e=>kk b o (by simpa using D) e) f0 f1 f3 f4 f5;refine⟨_,rfl,oq (s:={ s with heap:=h',toks:=tk }) (n:="range_iterator") J rfl rfl (by decide) ⟨.int (lo+i),H,I1,⟨t,?_⟩,⟨rfl,rfl⟩,J,λb D=>(M b D).1⟩⟩;rw[UK]
 done:=by
  intro X O hw U V i pins s σ H E I M st Z;subst O hw U;obtain⟨f0,f1,f2,f3,f4,f5⟩:=M B (by simp);exact wpAny_pyNext_range_end (I.ok.hd V) st (by have:n<=i:=Z;omega) λh' eb=>⟨rfl,I.turned (t':=s.toks) (λb o D e=>eb b o D e) f0 f1 f3 f4 f5⟩
 self:=λ_ _ _ _ _ st h=>wpAny_pyIter_rangeiter st h
section
variable {X:Cx}{tg:Vc}
noncomputable def Fe(K:Pa)(B:TE):TI:=λσ H R=>B σ H λx z=>∃a,x=.ref a/\(∃xs,bc K z a xs)/\R (Io K a) z
noncomputable def Mr(K:Pa)(B:TE):TI:=λσ H R=>B σ H λx z=>∃a,x=.ref a/\(∃xs,bZ K z a xs)/\R (Mq K a) z
theorem bK{l:Vc}{D:TE}(E:PE X l D):PI X tg l (Fe X.K D):=by
 intro pins s σ H R I h;refine bI (E pins s σ H _ I h) λv z J=>?_;obtain⟨x,M,B,O,U⟩:=J;obtain⟨a,e,⟨xs,V⟩,q⟩:=U;subst e;cases O;obtain⟨its,rv,p,hz⟩:=B.list V;refine WJ p.isList ?_;refine⟨z.heap.objs.size,[z.heap.objs.size],_,_,M,rfl,B.kept (t':=z.toks) λb o e=>O8 _ e,yK a _,⟨_,Pn _ rfl,rfl,rfl⟩,λb Z=>?_,q⟩;have e:b=z.heap.objs.size:=by simpa using Z
 subst e;exact B.l9 (O5 _) (B.ba.fresh (O5 _))
theorem Gk{l:Vc}{D:TE}(E:PE X l D):PI X tg l (Mr X.K D):=by
 intro pins s σ H R I h;refine bI (E pins s σ H _ I h) λv z J=>?_;obtain⟨x,M,B,O,U⟩:=J;obtain⟨a,e,⟨xs,V⟩,q⟩:=U;subst e;cases O;obtain⟨its,rv,p,hz⟩:=B.tuple V;refine V2 (show z.heap.IsTuple a its.toArray from p) ?_;refine⟨z.heap.objs.size,[z.heap.objs.size],_,_,M,rfl,B.kept (t':=z.toks) λb o e=>O8 _ e,vy a _,⟨_,Pn _ rfl,rfl,rfl⟩,λb Z=>?_,q⟩;have e:b=z.heap.objs.size:=by simpa using Z
 subst e;exact B.l9 (O5 _) (B.ba.fresh (O5 _))
theorem tK{pins:List (UR×VE)}{σ:St}{H:Hp}{s:UW}{R:It->Hp->Prop}{E:UP->UW->Prop}{lo hi:Int}{t u v:Tok}{z:Nat}(I:Inv X pins σ H s)(D:-(2 ^ 62)<=lo)(J:lo<2 ^ 62)(M:-(2 ^ 62)<=hi)(O:hi<2 ^ 62)
  (q:R (Fd lo (hi-lo).toNat) H):wpAny (model X.prog X.w) X.A (pyIter (.ref s.heap.objs.size)) (OV X pins σ tg R) E { s with heap:=s.heap.push { cls:=.type "range",data:=.fields #[.int lo t,.int hi u,.int 1 v] },toks:=z }:=by
 refine wpAny_pyIter_range (IsRange.new ..) (small_one D J M O) ?_;have B:Inv X pins σ H { s with heap:=s.heap.push { cls:=.type "range",data:=.fields #[.int lo t,.int hi u,.int 1 v] },toks:=z }:=I.kept λb o e=>O8 _ e;refine⟨(s.heap.push { cls:=.type "range",data:=.fields #[.int lo t,.int hi u,.int 1 v] }).objs.size,[(s.heap.push { cls:=.type "range",data:=.fields #[.int lo t,.int hi u,.int 1 v] }).objs.size],_,_,H,rfl,
  B.kept (t':=z) λb o e=>O8 _ e,vz _ lo (hi-lo).toNat,?_,λb U=>?_,q⟩
 .have e1:lo+((0:Nat):Int)*1=lo:=by simp
  have e2:(((hi-lo).toNat:Nat):Int)-((0:Nat):Int)=Builtin.Range.rangeSize lo hi 1:=by rw[rangeSize_one];split <;> omega
  show IsRangeIter _ _ (lo+((0:Nat):Int)*1) ((((hi-lo).toNat:Nat):Int)-((0:Nat):Int)) 1;rw[e1,e2];exact Pn _ rfl
 have e:b=(s.heap.push { cls:=.type "range",data:=.fields #[.int lo t,.int hi u,.int 1 v] }).objs.size:=by simpa using U
 subst e;exact B.l9 (O5 _) (B.ba.fresh (O5 _))
noncomputable def Ji(z:TA):TI:=λσ H R=>z σ H λvs B=>∃j:Int,vs=[.int j]/\-(2 ^ 62)<=j/\j<2 ^ 62/\R (Fd 0 j.toNat) B
noncomputable def Jj(z:TA):TI:=λσ H R=>z σ H λvs B=>∃i j:Int,vs=[.int i,.int j]/\(-(2 ^ 62)<=i/\i<2 ^ 62/\-(2 ^ 62)<=j/\j<2 ^ 62)/\R (Fd i (j-i).toNat) B
theorem fD{a:Vc}{B:TA}{p pos:V6}(D:Gl X "range")(E:X.mg "range" = none)(J:PA X [a] B)(hs:U6 [a] X.env=[(false,eval a X.env)]:=by rfl):PI X tg (.Call (.Name "range" p) [a] [] pos) (Ji B):=by
 intro pins s σ H R I h;refine X0 (fG I D E boot_range (Qi (bI (J pos pins s σ H _ I h) λZ s1 ⟨vs,H1,M,O,z⟩=>?_) hs rfl));obtain⟨j,e,z,U,q⟩:=z;subst e;cases O with
 |cons r V =>
  cases V;obtain⟨t,rfl⟩:=r;exact call_range_1 (tK M (by omega) (by omega) z U (by simpa using q))
theorem gw{a b:Vc}{E:TA}{p pos:V6}(J:Gl X "range")(M:X.mg "range" = none)(O:PA X [a,b] E)(hs:U6 [a,b] X.env=[(false,eval a X.env),(false,eval b X.env)]:=by rfl)(z:U6 [b] X.env=[(false,eval b X.env)]:=by rfl) :
  PI X tg (.Call (.Name "range" p) [a,b] [] pos) (Jj E):=by
 intro pins s σ H R I h;refine X0 (fG I J M boot_range (Qi (bI (O pos pins s σ H _ I h) λus s1 ⟨vs,H1,U,V,B⟩=>?_) (by rw[hs,z]) (by rw[z];rfl)));obtain⟨i,j,e,⟨B,Z,q3,q4⟩,q⟩:=B;subst e;cases V with
 |cons r D =>
  cases D with
  |cons r' D =>
   cases D;obtain⟨t,rfl⟩:=r;obtain⟨t',rfl⟩:=r';exact call_range_2 (tK U B Z q3 q4 q)
def Ms(O:TI)(g:TG)(U:TS):TS:=λD σ H=>O σ H λJ V=>∃W:Nat->Nat->St->Hp->Prop,(∃m,W 0 m σ V)/\∀i m σ H,W i m σ H ->
 (J.stop i H/\D.nx σ H)\/(J.go i H/\∃N:St->Hp->Prop,(∀z B,N z B->∃M,M<m/\W (i+1) M z B)/\∀x B,J.Gj i H x B->g x σ B λE Z=>U { D with nx:=N,ct:=N,bk:=D.nx } E Z)
noncomputable def ot(fp:List UR)(h:Vd):List (UR×VE):=fp.filterMap λb=>(h.get? b).map λo=>(b,o)
theorem gZ{fp:List UR}{h:Vd}{b:UR}{o:VE}(z:b∈fp)(e:h.get? b=Yl o):(b,o)∈ot fp h:=Sw.mpr ⟨b,z,by rw[e];rfl⟩
theorem yL{fp:List UR}{h:Vd}{p:UR×VE}(z:p∈ot fp h):p.1∈fp/\h.get? p.1=Yl p.2:=by
 obtain⟨b,B,e⟩:=Sw.mp z;cases q:h.get? b with
 |none=>rw[q]at e;cases e
 |some o =>
  rw[q]at e;have D:(b,o)=p:=Option.some.inj e;subst D;exact⟨B,q⟩
theorem Inv.pinned{pins:List (UR×VE)}{σ:St}{H:Hp}{s:UW}{fp:List UR}(I:Inv X pins σ H s)(E:∀b∈fp,ng X pins H b)(J:∀b∈fp,∃o,s.heap.get? b=Yl o/\∀v,o.data≠.cell v):Inv X (pins++ot fp s.heap) σ H s :=
 I.wV λp M=>(Pl.mp M).elim (λz=>I.pin p (Pp _ z)) λz=>by
  obtain⟨B,e⟩:=yL z;obtain⟨O,U,V,_⟩:=E p.1 B;obtain⟨o,D,d⟩:=J p.1 B;rw[e]at D;cases D;exact⟨e,O,U,V,d⟩
theorem Inv.kj{pins z:List (UR×VE)}{σ:St}{H:Hp}{s:UW}(I:Inv X (pins++z) σ H s):Inv X pins σ H s:=I.wV λp B=>I.pin p (Pp _ (Px _ B))
theorem b9{iter:Vc}{body:List Wq}{wi:TI}{g:TG}{tb:TS}{pos:V6}(hp:PassesOwn (model X.prog X.w) X.A X.env X.xe)(hc:X.calm=true)(hi:PI X tg iter wi)(hg:PG X tg g)(B:qp X body tb)
  (hs:∀x,V7 iter X.env x=pure x:=by intro _;rfl):PS X (.For tg iter body [] pos) (Ms wi g tb):=by
 intro pins s σ H D I h;refine wpAny_For (bI (hi pins s σ H _ I h) λv s1 h1=>bI h1 λitv s2 h2=>?_) hs;obtain⟨it,fp,tn,J,H2,e,I2,T,Lo,f2,W,⟨m0,w0⟩,turn⟩:=h2;subst e;have E:∀{Z:Hp},(∀b∈fp,Z b=none)->∀b∈fp,ng X pins Z b:=λhn b B=>⟨hn b B,(f2 b B).2⟩
 refine codeAny_forLoop_any (λn s'=>∃i M Z,Inv X pins M Z s'/\tn i s'.heap/\(∀b∈fp,Z b=none)/\W i n M Z) ?_ m0 ⟨0,σ,H2,I2,Lo,λb B=>(f2 b B).1,w0⟩;rintro n s3 ⟨i,O,H3,I3,Jk,Jl,w3⟩;rcases turn i n O H3 w3 with⟨stop,qn⟩|⟨go,N,hN,step⟩
 .refine VL hp (bI (T.done X rfl rfl rfl hc i pins s3 O H3 X.xe I3 (E Jl) Jk stop) λr s4 ⟨hr,I4⟩=>?_);subst hr;exact Wr ⟨O,H3,I4,qn⟩
 refine VL hp (bI (T.item X rfl rfl rfl hc i pins s3 O H3 X.xe I3 (E Jl) Jk go) λr s4 ⟨u,hr,h4⟩=>?_);subst hr;refine VL hp (bI h4 λ_ s5 zq=>?_);obtain⟨x,H5,I5,r5,y5,Gm,Mt⟩:=zq;have Mu:=I5.pinned (E Mt) (T.obj _ _ Gm);refine VL hp (bI (hg _ s5 O H5 x u _ Mu r5 (step x H5 y5)) λ_ s6 ⟨σ6,H6,I6,q6⟩=>?_);refine VL hp (bI (B _ s6 σ6 H6 _ I6 q6) λf s7 q7=>?_);have again:∀{z:St}{U:Hp},Inv X (pins++ot fp s5.heap) z U s7->N z U->∃m,m<n/\∃i M Z,Inv X pins M Z s7/\tn i s7.heap/\(∀b∈fp,Z b=none)/\W i m M Z:=λ{z U} V n7=>by
  obtain⟨m',hm,w7⟩:=hN z U n7;refine⟨m',hm,i+1,z,U,V.kj,T.keep _ _ _ Gm λb B o e=>(V.pin (b,o) (Pp _ (Pp _ (gZ B e)))).1,λb B=>?_,w7⟩;obtain⟨o,e,d⟩:=T.obj _ _ Gm b B;exact(V.pin (b,o) (Pp _ (Pp _ (gZ B e)))).2.1
 cases f with
 |next=>obtain⟨z,U,V,n7⟩:=q7;exact again V n7
 |cont=>obtain⟨z,U,V,n7⟩:=q7;exact again V n7
 |brk=>obtain⟨z,U,V,q7⟩:=q7;exact⟨z,U,V.kj,q7⟩
 |ret v=>obtain⟨x7,z,U,V,r7,q7⟩:=q7;exact⟨x7,z,U,V.kj,r7,q7⟩
end
theorem cO{K:Pa}{a:UR}{xs:List V}{g:TG}{O:TS}{D:Ends}{σ:St}{H:Hp}(Pv:Nat->St->Hp->Prop)(Z:Pv 0 σ H)(hl:∀i σ H,i<=xs.length->Pv i σ H->bc K H a xs)
  (hs:∀i x σ H,xs[i]?=Yl x->Pv i σ H->g x σ H λz M=>O { D with nx:=Pv (i+1),ct:=Pv (i+1),bk:=D.nx } z M) (hd:∀σ H,Pv xs.length σ H->D.nx σ H) :
  ∃W:Nat->Nat->St->Hp->Prop,(∃m,W 0 m σ H)/\∀i m σ H,W i m σ H ->
   ((Io K a).stop i H/\D.nx σ H)\/((Io K a).go i H/\∃N:St->Hp->Prop,(∀B E,N B E->∃U,U<m/\W (i+1) U B E)/\∀x E,(Io K a).Gj i H x E->g x σ E λz M=>O { D with nx:=N,ct:=N,bk:=D.nx } z M):=by
 refine⟨λi m σ H=>m=xs.length-i/\i<=xs.length/\Pv i σ H,⟨xs.length,by simp,PQ _,Z⟩,?_⟩;rintro i m σ H ⟨rfl,hi,p⟩;have q:=hl i σ H hi p;by_cases J:i<xs.length
 .refine .inr ⟨⟨xs,xs[i],q,by simp[J]⟩,Pv (i+1),λB E p'=>⟨xs.length-(i+1),by omega,rfl,J,p'⟩,λx E y=>?_⟩;obtain⟨e,y⟩:=y;subst e;exact hs i x σ _ (y xs q) p
 have e:i=xs.length:=by omega
 subst e;exact .inl ⟨⟨xs,q,O5 _⟩,hd σ H p⟩
theorem fE{lo:Int}{n:Nat}{g:TG}{O:TS}{D:Ends}{σ:St}{H:Hp}(Pv:Nat->St->Hp->Prop)(V:Pv 0 σ H)
  (hs:∀i σ H,i<n->Pv i σ H->g (.int (lo+i)) σ H λz M=>O { D with nx:=Pv (i+1),ct:=Pv (i+1),bk:=D.nx } z M) (hd:∀σ H,Pv n σ H->D.nx σ H) :
  ∃W:Nat->Nat->St->Hp->Prop,(∃m,W 0 m σ H)/\∀i m σ H,W i m σ H ->
   ((Fd lo n).stop i H/\D.nx σ H)\/((Fd lo n).go i H/\∃N:St->Hp->Prop,(∀B E,N B E->∃U,U<m/\W (i+1) U B E)/\∀x E,(Fd lo n).Gj i H x E->g x σ E λz M=>O { D with nx:=N,ct:=N,bk:=D.nx } z M):=by
 refine⟨λi m σ H=>m=n-i/\i<=n/\Pv i σ H,⟨n,by simp,PQ _,V⟩,?_⟩;rintro i m σ H ⟨rfl,hi,p⟩;by_cases J:i<n
 .refine .inr ⟨J,Pv (i+1),λB E Z=>⟨n-(i+1),by omega,rfl,J,Z⟩,λx E y=>?_⟩;obtain⟨e,y⟩:=y;subst e y;exact hs i σ _ J p
 have e:i=n:=by omega
 subst e;exact .inl ⟨O5 _,hd σ H p⟩
noncomputable abbrev R2:=V->V->Hp->VK->Prop
def jF(X:Cx)(f:UP->UP->Yk UP)(r:R2):Prop :=
 ∀(pins:List (UR×VE)) (s:UW) (σ:St) (H:Hp) (x y:V) (v u:UP) (Q:VK),Inv X pins σ H s->RelV x v->RelV y u->r x y H Q ->
  wpAny (model X.prog X.w) X.A (f v u) (EP X pins σ Q) X.xe s
def Mv(X:Cx)(f:UP->Yk UP)(r:V->Hp->VK->Prop):Prop :=
 ∀(pins:List (UR×VE)) (s:UW) (σ:St) (H:Hp) (x:V) (v:UP) (Q:VK),Inv X pins σ H s->RelV x v->r x H Q ->
  wpAny (model X.prog X.w) X.A (f v) (EP X pins σ Q) X.xe s
def eI(X:Cx)(f:UP)(r:List V->Hp->VK->Prop):Prop :=
 ∀(pins:List (UR×VE)) (s:UW) (σ:St) (H:Hp) (xs:List V) (z:List UP) (Q:VK),Inv X pins σ H s->Vals xs z->r xs H Q ->
  wpAny (model X.prog X.w) X.A (call f z) (EP X pins σ Q) X.xe s
def Lp(r:R2)(z B:TE):TE:=λσ H Q=>z σ H λx D=>B σ D λy E=>r x y E Q
def tUn(r:V->Hp->VK->Prop)(z:TE):TE:=λσ H Q=>z σ H λx B=>r x B Q
def rI(C:Int->Int->Prop)(g:Int->Int->V):R2:=λx y H Q=>∃i j,x=.int i/\y=.int j/\C i j/\Q (g i j) H
def Gn(g:Int->Int->V):R2:=λx y H Q=>∃i j,x=.int i/\y=.int j/\Q (g i j) H
def rU(g:Int->V):V->Hp->VK->Prop:=λx H Q=>∃i,x=.int i/\Q (g i) H
section
variable {X:Cx}{a b c:Vc}{ta tb tc:TE}{pos:V6}
theorem Gp(O:PE X a ta)(U:PE X b tb){pins:List (UR×VE)}{s:UW}{σ:St}{H:Hp}{R:V->V->Hp->Prop}(I:Inv X pins σ H s)
  (h:ta σ H λx J=>tb σ J λy z=>R x y z) {Q:UP->UW->Prop}{f:UP->UP->Yk UP}
  (Z:∀v u E x y z,Inv X pins σ z E->RelV x v->RelV y u->R x y z->wpAny (model X.prog X.w) X.A (f v u) Q X.xe E) :
  wpAny (model X.prog X.w) X.A (eval a X.env) (λv B=>wpAny (model X.prog X.w) X.A (eval b X.env) (λu D=>wpAny (model X.prog X.w) X.A (f v u) Q X.xe D) X.xe B) X.xe s:=by
 refine bI (O pins s σ H _ I h) λv s1 M=>?_;obtain⟨x,J,I1,r1,q1⟩:=M;refine bI (U pins s1 σ J _ I1 q1) λu E M=>?_;obtain⟨y,z,I2,r2,q2⟩:=M;exact Z v u E x y z I2 r1 r2 q2
theorem aK{op:Operator}{r:R2}(z:jF X (VV op) r)(B:PE X a ta)(D:PE X b tb):PE X (.BinOp a op b pos) (Lp r ta tb):=by
 intro pins s σ H Q I h;exact wpAny_BinOp (Gp B D I h λv u E x y J M O U q=>z pins E σ J x y v u Q M O U q)
theorem qr{op:UnaryOp}{r:V->Hp->VK->Prop}(z:Mv X (unaryOp op) r)(B:PE X a ta):PE X (.UnaryOp op a pos) (tUn r ta):=by
 intro pins s σ H Q I h;exact UnaryOp_ (bI (B pins s σ H _ I h) λv D ⟨x,E,J,M,O⟩=>z pins D σ E x v Q J M O)
theorem Lq{f:UP->UP->Yk UP}{C:Int->Int->Prop}{g:Int->Int->Int}
  (rule:∀(i j:Int) (t u:Tok) (s:UW) (Q:UP->UW->Prop) (E:UP->UW->Prop),C i j->Q (.int (g i j) s.toks) { s with toks:=s.toks+1 }->wpAny (model X.prog X.w) X.A (f (.int i t) (.int j u)) Q E s) :
  jF X f (rI C λi j=>.int (g i j)):=by
 intro pins s σ H x y v u Q I z B h;obtain⟨i,j,rfl,rfl,D,q⟩:=h;obtain⟨t,rfl⟩:=z;obtain⟨t',rfl⟩:=B;exact rule i j t t' s _ _ D ⟨.int (g i j),H,I.tok _,⟨_,rfl⟩,q⟩
theorem Jm{f:UP->UP->Yk UP}{g:Int->Int->Int}
  (rule:∀(i j:Int) (t u:Tok) (s:UW) (Q:UP->UW->Prop) (E:UP->UW->Prop),Q (.int (g i j) s.toks) { s with toks:=s.toks+1 }->wpAny (model X.prog X.w) X.A (f (.int i t) (.int j u)) Q E s) :
  jF X f (Gn λi j=>.int (g i j)):=by
 intro pins s σ H x y v u Q I z B h;obtain⟨i,j,rfl,rfl,q⟩:=h;obtain⟨t,rfl⟩:=z;obtain⟨t',rfl⟩:=B;exact rule i j t t' s _ _ ⟨.int (g i j),H,I.tok _,⟨_,rfl⟩,q⟩
theorem Gq{f:UP->UP->Yk UP}{g:Int->Int->Bool}
  (rule:∀(i j:Int) (t u:Tok) (s:UW) (Q:UP->UW->Prop) (E:UP->UW->Prop),Q (.bool (g i j)) s->wpAny (model X.prog X.w) X.A (f (.int i t) (.int j u)) Q E s) :
  jF X f (Gn λi j=>.bl (g i j)):=by
 intro pins s σ H x y v u Q I z B h;obtain⟨i,j,rfl,rfl,q⟩:=h;obtain⟨t,rfl⟩:=z;obtain⟨t',rfl⟩:=B;exact rule i j t t' s _ _ ⟨.bl (g i j),H,I,rfl,q⟩
def Mw(i j:Int):Prop:=0<j/\j<1073741824
def Mx(i j:Int):Prop:=0<=j/\j<=1000000/\i.natAbs<2 ^ 64
def Du(i j:Int):Prop:=(-(2 ^ 64)<i/\i<2 ^ 64)\/(-(2 ^ 64)<j/\j<2 ^ 64)
theorem Du.ok{i j:Int}(h:Du i j):IntMulOk i j:=by
 rcases h with⟨z,B⟩|⟨z,B⟩
 .exact .of_left (intBits_le_64 z B)
 exact .of_right (intBits_le_64 z B)
theorem bo:jF X (VV .Add) (Gn λi j=>.int (i+j)):=Jm λ_ _ _ _ _ _ _ q=>add_int q
theorem fH:jF X (VV .Sub) (Gn λi j=>.int (i-j)):=Jm λ_ _ _ _ _ _ _ q=>sub_int q
theorem Ap:jF X (VV .Mult) (rI Du λi j=>.int (i*j)):=Lq λ_ _ _ _ _ _ _ z q=>mul_int q z.ok
theorem g6:jF X (VV .FloorDiv) (rI Mw λi j=>.int (i/j)):=Lq λi j _ _ _ _ _ z q=>by
 have B:(0:Int)<j:=z.1;have D:j<1073741824:=z.2;exact floordiv_int (by omega) (by rw[Int.fdiv_eq_ediv_of_nonneg i (by omega)];exact q) (.inl (PyProof.noPylong_small (by omega)))
theorem cP:jF X (VV .Mod) (rI (λ_ j=>0<j) λi j=>.int (i%j)):=Lq λi j _ _ _ _ _ z q=>by
 have B:(0:Int)<j:=z;exact mod_int' (by omega) (by rw[Int.fmod_eq_emod_of_nonneg i (by omega)];exact q)
theorem Aq:jF X (VV .Pow) (rI Mx λi j=>.int (i ^ j.toNat)):=Lq λ_ _ _ _ _ _ _ z q=>pow_int_small z.1 z.2.1 z.2.2 q
theorem unI{f:UP->Yk UP}{g:Int->Int}
  (rule:∀(i:Int) (t:Tok) (s:UW) (Q:UP->UW->Prop) (E:UP->UW->Prop),Q (.int (g i) s.toks) { s with toks:=s.toks+1 }->wpAny (model X.prog X.w) X.A (f (.int i t)) Q E s) :
  Mv X f (rU λi=>.int (g i)):=by
 intro pins s σ H x v Q I z h;obtain⟨i,rfl,q⟩:=h;obtain⟨t,rfl⟩:=z;exact rule i t s _ _ ⟨.int (g i),H,I.tok _,⟨_,rfl⟩,q⟩
theorem ma:Mv X (unaryOp .USub) (rU λi=>.int (-i)):=unI λ_ _ _ _ _ q=>neg_int q
end
noncomputable def Jo:V->V->Bool
 |.eE,.eE=>true|.eE,.int _=>true|.int _,.eE=>true|.eE,.bl _=>true|.bl _,.eE=>true|.eE,.str _=>true|.str _,.eE=>true
 |.int _,.int _=>true|.bl _,.bl _=>true|.str _,.str _=>true|.Aj _,.Aj _=>true
 |.int _,.str _=>true|.str _,.int _=>true|.bl _,.str _=>true|.str _,.bl _=>true
 |_,_=>false
def rEq:R2:=λx y H Q=>Jo x y=true/\Q (.bl (decide (x=y))) H
def rNe:R2:=λx y H Q=>Jo x y=true/\Q (.bl (!decide (x=y))) H
theorem w6{i j:Int}:decide (V.int i=V.int j)=(i==j):=by
 rw[QW];simp
theorem Ar{i j:Bool}:decide (V.bl i=V.bl j)=(i==j):=by
 rw[QW];simp
theorem w8{i j:Vg}:decide (V.str i=V.str j)=(i==j):=by
 rw[QW];simp
theorem w9{i j:Array UInt8}:decide (V.Aj i=V.Aj j)=(i.toList==j.toList):=by
 rw[QW];cases i;cases j;simp
section
variable {X:Cx}{a b c:Vc}{ta tb tc:TE}{pos:V6}
theorem bj{pins:List (UR×VE)}{σ:St}{H:Hp}{s:UW}{Q:VK}{k z:Bool}(I:Inv X pins σ H s)(q:Q (.bl k) H)(e:k=z):EP X pins σ Q (.bool z) s:=by
 subst e;exact⟨.bl k,H,I,rfl,q⟩
theorem fI:jF X (Vu .Eq) rEq:=by
 intro pins s σ H x y v u Q I B z h;obtain⟨hs,q⟩:=h;cases x with
 |eE =>
  cases B;cases y with
  |eE=>cases z;exact PySem.EqNone.eq_none_none (bj I q (by simp))
  |bl j=>cases z;exact PySem.EqNone.eq_none_bool (bj I q (by simp))
  |int j=>obtain⟨t',rfl⟩:=z;exact PySem.EqNone.eq_none_int (bj I q (by simp))
  |str j=>obtain⟨t',rfl⟩:=z;exact PySem.EqNone.eq_none_str (bj I q (by simp))
  |_=>exact UU (show false=true from hs) Po
 |bl i =>
  cases B;cases y with
  |eE=>cases z;exact PySem.EqNone.eq_bool_none (bj I q (by simp))
  |bl j=>cases z;exact eq_bool (bj I q Ar)
  |str j=>obtain⟨t',rfl⟩:=z;exact PySem.EqMixed.eq_bool_str (bj I q (by simp))
  |_=>exact UU (show false=true from hs) Po
 |int i =>
  obtain⟨t,rfl⟩:=B;cases y with
  |eE=>cases z;exact PySem.EqNone.eq_int_none (bj I q (by simp))
  |int j=>obtain⟨t',rfl⟩:=z;exact eq_int (bj I q w6)
  |str j=>obtain⟨t',rfl⟩:=z;exact PySem.EqMixed.eq_int_str (bj I q (by simp))
  |_=>exact UU (show false=true from hs) Po
 |str i =>
  obtain⟨t,rfl⟩:=B;cases y with
  |eE=>cases z;exact PySem.EqNone.eq_str_none (bj I q (by simp))
  |bl j=>cases z;exact PySem.EqMixed.eq_str_bool (bj I q (by simp))
  |int j=>obtain⟨t',rfl⟩:=z;exact PySem.EqMixed.eq_str_int (bj I q (by simp))
  |str j=>obtain⟨t',rfl⟩:=z;exact eq_str (bj I q w8)
  |_=>exact UU (show false=true from hs) Po
 |Aj i =>
  obtain⟨t,rfl⟩:=B;cases y with
  |Aj j=>obtain⟨t',rfl⟩:=z;exact PySem.W.eq_bytes (bj I q w9)
  |_=>exact UU (show false=true from hs) Po
 |_=>cases y <;> exact UU (show false=true from hs) Po
theorem Jp:jF X (Vu .NotEq) rNe:=by
 intro pins s σ H x y v u Q I B z h;obtain⟨hs,q⟩:=h;cases x with
 |eE =>
  cases B;cases y with
  |eE=>cases z;exact PySem.EqNone.ne_none_none (bj I q (by simp))
  |bl j=>cases z;exact PySem.EqNone.ne_none_bool (bj I q (by simp))
  |int j=>obtain⟨t',rfl⟩:=z;exact PySem.EqNone.ne_none_int (bj I q (by simp))
  |str j=>obtain⟨t',rfl⟩:=z;exact PySem.EqNone.ne_none_str (bj I q (by simp))
  |_=>exact UU (show false=true from hs) Po
 |bl i =>
  cases B;cases y with
  |eE=>cases z;exact PySem.EqNone.ne_bool_none (bj I q (by simp))
  |bl j=>cases z;exact ne_bool (bj I q (congrArg not Ar))
  |str j=>obtain⟨t',rfl⟩:=z;exact PySem.EqMixed.ne_bool_str (bj I q (by simp))
  |_=>exact UU (show false=true from hs) Po
 |int i =>
  obtain⟨t,rfl⟩:=B;cases y with
  |eE=>cases z;exact PySem.EqNone.ne_int_none (bj I q (by simp))
  |int j=>obtain⟨t',rfl⟩:=z;exact ne_int (bj I q (congrArg not w6))
  |str j=>obtain⟨t',rfl⟩:=z;exact PySem.EqMixed.ne_int_str (bj I q (by simp))
  |_=>exact UU (show false=true from hs) Po
 |str i =>
  obtain⟨t,rfl⟩:=B;cases y with
  |eE=>cases z;exact PySem.EqNone.ne_str_none (bj I q (by simp))
  |bl j=>cases z;exact PySem.EqMixed.ne_str_bool (bj I q (by simp))
  |int j=>obtain⟨t',rfl⟩:=z;exact PySem.EqMixed.ne_str_int (bj I q (by simp))
  |str j=>obtain⟨t',rfl⟩:=z;exact ne_str (bj I q (congrArg not w8))
  |_=>exact UU (show false=true from hs) Po
 |Aj i =>
  obtain⟨t,rfl⟩:=B;cases y with
  |Aj j=>obtain⟨t',rfl⟩:=z;exact PySem.W.ne_bytes (bj I q (congrArg not w9))
  |_=>exact UU (show false=true from hs) Po
 |_=>cases y <;> exact UU (show false=true from hs) Po
theorem gz:jF X (Vu .Lt) (Gn λi j=>.bl (decide (i<j))):=Gq λ_ _ _ _ _ _ _ q=>lt_int q
theorem tL:jF X (Vu .LtE) (Gn λi j=>.bl (decide (i<=j))):=Gq λ_ _ _ _ _ _ _ q=>le_int q
theorem qt:jF X (Vu .Gt) (Gn λi j=>.bl (decide (j<i))):=Gq λ_ _ _ _ _ _ _ q=>gt_int q
theorem Dv:jF X (Vu .IsNot) (λx y H Q=>y=.eE/\Q (.bl (!decide (x=.eE))) H):=by
 intro pins s σ H x y v u Q I z B h;obtain⟨rfl,q⟩:=h;cases B;refine isnot_none_gen (bj I q ?_);cases x <;> first
  |(cases z;rfl)
  |(obtain⟨t,rfl⟩:=z;rfl)
theorem a5(b:Vc){op:CmpOp}(h:op≠.In:=by decide)(z:op≠.NotIn:=by decide):WL op b=false:=by
 have e1:(op==CmpOp.In)=false:=by cases op <;> first|rfl|exact UU rfl h
 have e2:(op==CmpOp.NotIn)=false:=by cases op <;> first|rfl|exact UU rfl z
 cases b <;> simp[WL,e1,e2]
theorem fY{op:CmpOp}{r:R2}(z:jF X (Vu op) r)(B:PE X a ta)(D:PE X b tb)(E:WL op b=false):PE X (.Compare a [op] [b] pos) (Lp r ta tb):=by
 intro pins s σ H Q I h;exact wpAny_Compare1 (Gp B D I h λv u J x y M O U V q=>z pins J σ M x y v u Q O U V q) E
def Au(t:TE):TT:=λσ H Q=>t σ H λx z=>∃k,x=.bl k/\Q k z
theorem aV{op:CmpOp}{r:R2}(B:jF X (Vu op) r)(D:PE X a ta)(E:PE X b tb)(J:WL op b=false):PT X (.Compare a [op] [b] pos) (Au (Lp r ta tb)):=by
 intro pins s σ H Q I h;refine wpAny_isTrue_Compare1 (bI (D pins s σ H _ I h) λv M ⟨x,O,U,V,Z⟩=>bI (E pins M σ O _ U Z) λu s2 ⟨y,H2,I2,r2,q2⟩ =>
  bI (B pins s2 σ H2 x y v u _ I2 V r2 q2) λc s3 ⟨z,H3,I3,r3,k,e,q3⟩=>?_) J
 subst e;cases r3;exact Vj ⟨H3,I3,q3⟩
def Gr(r D:R2)(ta tb tc:TE):TE:=λσ H Q=>ta σ H λx E=>tb σ E λy J=>r x y J λz B=>∃k,z=.bl k /\
 (if k=true then tc σ B λw' M=>D y w' M Q else Q (.bl false) B)
theorem Av{op B:CmpOp}{r E:R2}(V:jF X (Vu op) r)(D:jF X (Vu B) E)(Z:PE X a ta)(hb:PE X b tb)(hc:PE X c tc)
  (hm:lastMarks [op,B] [b,c]=false:=by with_unfolding_all rfl):PT X (.Compare a [op,B] [b,c] pos) (Au (Gr r E ta tb tc)):=by
 intro pins s σ H Q I h;refine isTrue_chain (bI (Z pins s σ H _ I h) λv s1 ⟨x,H1,I1,r1,q1⟩=>test_link (bI (hb pins s1 σ H1 _ I1 q1) λu s2 ⟨y,H2,I2,J,q2⟩ =>
  bI (V pins s2 σ H2 x y v u _ I2 r1 J q2) λd s3 ⟨z,M,O,r3,k,e,U⟩=>?_)) hm
 subst e;cases r3;refine Vj ?_;cases k with
 |false =>
  obtain⟨k',e',q'⟩:=U;cases e';exact ite_ff ⟨M,O,q'⟩
 |true =>
  refine ite_tt (test_last (bI (hc pins s3 σ M _ O U) λw' s4 ⟨z',H4,I4,r4,q4⟩=>bI (D pins s4 σ H4 y z' u w' _ I4 J r4 q4) λd' s5 zq=>?_));obtain⟨z2,H5,I5,r5,k2,e2,q5⟩:=zq;subst e2;cases r5;exact Vj ⟨H5,I5,q5⟩
theorem rD:(U2:Nat)<2 ^ 63:=by rw[Vo];decide
theorem vals1{x:V}{z:List UP}(r:Vals [x] z):∃u,z=[u]/\RelV x u:=by
 cases r with
 |cons B D=>cases D;exact⟨_,rfl,B⟩
theorem vals2{x y:V}{z:List UP}(r:Vals [x,y] z):∃u w',z=[u,w']/\RelV x u/\RelV y w':=by
 cases r with
 |cons B D =>
  cases D with
  |cons E H=>cases H;exact⟨_,_,rfl,B,E⟩
theorem oz:eI X (.builtin "abs") (λxs H Q=>∃i,xs=[.int i]/\Q (.int (if i<0 then -i else i)) H):=by
 intro pins s σ H xs z Q I r h;obtain⟨i,rfl,q⟩:=h;obtain⟨u,rfl,t,rfl⟩:=vals1 r;exact call_abs_int λu B=>⟨.int (if i<0 then -i else i),H,I.tok _,⟨_,rfl⟩,q⟩
theorem qu(B:X.calm=true):eI X (.builtin "max") (λxs H Q=>∃i j,xs=[.int i,.int j]/\Q (.int (if j>i then j else i)) H):=by
 intro pins s σ H xs D Q I r h;obtain⟨i,j,rfl,q⟩:=h;obtain⟨u,w',rfl,⟨t,rfl⟩,⟨t',rfl⟩⟩:=vals2 r;refine max_two_ints (I.ok.hd B) λh' E k=>⟨_,H,I.kept k,?_,q⟩
 by_cases z:j>i
 .rw[UQ z,UQ z];exact⟨_,rfl⟩
 rw[UO z,UO z];exact⟨_,rfl⟩
theorem yM:eI X (.type "int") (λxs H Q=>(∃i,xs=[.int i]/\Q (.int i) H)\/∃k,xs=[.bl k]/\Q (.int (if k then 1 else 0)) H):=by
 intro pins s σ H xs B Q I r h;rcases h with⟨i,rfl,q⟩|⟨k,rfl,q⟩
 .obtain⟨u,rfl,t,rfl⟩:=vals1 r;exact call_int_int ⟨.int i,H,I,⟨_,rfl⟩,q⟩
 obtain⟨u,rfl,z⟩:=vals1 r;cases z;exact call_int_bool ⟨.int (if k then 1 else 0),H,I.tok _,⟨_,rfl⟩,q⟩
end
structure Gs(h:Vd) (x dx C:UR) (mA:Vg->Option UP):Prop where
 obj:h.get? x=Yl (SY C dx)
 ns:h.Ns1 dx mA
 ne:dx≠x
theorem yN{h:Vd}{D:UR}{E:Vg->Option UP}(n:h.Ns1 D E):∃H,h.get? D=Yl H/\∀name,Tf name H=Yl (E name):=by
 obtain⟨o,J,ep,M,hd,O,_,U⟩:=n;refine⟨o,M,λname=>?_⟩;have e:=U name;unfold nsFind findBy at e;rw[<-Array.find?_toList]at e;unfold Tf;rw[hd];dsimp only
 split
 .rename_i y q;rw[q]at e;exact congrArg some e
 rename_i q;rw[q]at e;have a:J.toList.any (·.refKey)=false:=by
  rw[List.any_eq_false];intro y V;obtain⟨z,t,B⟩:=O y (Array.mem_toList_iff.mp V);simp[DictEntry.refKey,B]
 have Z:¬J.toList.any (·.refKey)=true:=by rw[a];exact Po
 rw[UO Z];exact congrArg some e
theorem Gs.look{h:Vd}{x B C:UR}{D:Vg->Option UP}(I:Gs h x B C D):∃z,PySem.W.InstAt h x (SY C B) C (Yl z)/\∀name,Tf name z=Yl (D name):=
 let⟨z,E,H⟩:=yN I.ns
 ⟨z,⟨I.obj,rfl,rfl,E⟩,H⟩
theorem j9.some_of{v:V}{o:Option UP}(r:j9 (Yl v) o):∃u,o=Yl u/\RelV v u:=by
 cases o with
 |none=>exact(show False from r).elim
 |some u=>exact⟨u,rfl,r⟩
section
variable {P:U3}{w:U4}{H M:Hp}{h h':Vd}{a C E:UR}{fs J:List (Vg×V)}
theorem Dw(ba:gY P w H h)(e:H a=Yl (.ins C E fs)):∃B,Gs h a E C B/\(∀f,j9 (fs.lookup f) (B f))/\PySem.Within B (fs.map (·.1))/\fs.length<=1000/\H E=Yl (.own a):=by
 obtain⟨d,z,ne,D,B,n,r,q⟩:=(show bh P w H h a (.ins C E fs)from ba a _ e)
 exact⟨B,⟨D,n,ne⟩,r,q,z,d⟩
end
structure Mz(K:Pa) (C:UR):Prop where
 pg:Ud K C Str.empty=true
 hd:PySem.W.hasDictIn K C=true
 po:PySem.W.plainOver K C=true
 sa:UA K (.ref C) "__setattr__" = some (Yl (.builtin "object.__setattr__"))
theorem Mz.get{K:Pa}{C:UR}(c:Mz K C)(f:Vg):Ud K C f=true:=c.pg
section
variable {X:Cx}{pins:List (UR×VE)}{σ:St}{H:Hp}{s:UW}{A:Ve}{E:UP->UW->Prop}{Q:UP->UW->Prop}{c:UP}{b:Bool}
inductive md (K:Pa) (H:Hp): V->UP->Prop where
  |eE:md K H .eE (.type "NoneType")
  |bl (x:Bool): md K H (.bl x) (.type "bool")
  |int (i:Int): md K H (.int i) (.type "int")
  |str (x:Vg): md K H (.str x) (.type "str")
  |Ik (x:UInt64): md K H (.Ik x) (.type "float")
  |lst {a:UR} {xs:List V} (e:H a=Yl (.lst xs)): md K H (.ref a) (.type "list")
  |gv {a:UR} {o:VE} {xs:List V} (e:H a=Yl (.gv o (.lst xs))): md K H (.ref a) (.type "list")
  |tup {a:UR} {xs:List V} (e:H a=Yl (.tup xs)): md K H (.ref a) (.type "tuple")
  |dK {a:UR} {kvs:List (Key×V)} (e:H a=Yl (.dK kvs)): md K H (.ref a) (.type "dict")
  |dT {a:UR} {kvs:List (List Key×V)} (e:H a=Yl (.dT kvs)): md K H (.ref a) (.type "dict")
  | ins {a C dx : UR} {fs : List (Vg × V)} (e : H a=Yl (.ins C dx fs)) (cl : Mz K C) (ha : UA K (.ref C) "__class__" = some (Yl (.builtin "object.__class__")))
      (hn:PySem.W.specialIn K (.builtin "object.__class__") "__get__" = some (Yl (.builtin "getset_descriptor.__get__"))) (htk:PySem.W.takesIn K (.builtin "object.__class__")=Yl true)
      (hm:PySem.W.mroIn K C (.type "object")=Yl true): md K H (.ref a) (.ref C)
theorem yO{x:V}{u t:UP}(I:Inv X pins σ H s)(B:RelV x u)(ty:md X.K H x t)(e:RI X.K t c=Yl b)(h:∀tk,Q (.bool b) { s with toks:=tk }) :
  wpAny (model X.prog X.w) A (call (.builtin "isinstance") [u,c]) Q E s:=by
 cases ty with
 |eE=>cases(show u=Value.none from B);exact QI PySem.W.kitx_none I.rA True.intro e (λz=>nomatch z) h
 |bl y=>cases(show u=Value.bool y from B);exact QI PySem.W.kitx_bool I.rA True.intro e (λz=>nomatch z) h
 |int i=>obtain⟨t,q⟩:=(show∃t,u=Value.int i t from B);cases q;exact QI PySem.W.kitx_int I.rA True.intro e (λz=>nomatch z) h
 |str y=>obtain⟨t,q⟩:=(show∃t,u=Value.str y t from B);cases q;exact QI PySem.W.kitx_str I.rA True.intro e (λz=>nomatch z) h
 |Ik y=>obtain⟨t,q⟩:=(show∃t,u=Value.float y t from B);cases q;exact QI PySem.W.kitx_float I.rA True.intro e (λz=>nomatch z) h
 | @lst a xs D =>
  cases(show u=Value.ref a from B);obtain⟨_,_,n,_,M⟩:=(show bh X.prog X.w H s.heap a (.lst xs)from I.ba a _ D)
  exact QI TC I.rA ⟨_,M,rfl⟩ e (λz=>nomatch z) h
 | @gv a ob xs D =>
  cases(show u=Value.ref a from B);obtain⟨_,_,_,n,_,M⟩:=(show bh X.prog X.w H s.heap a (.gv ob (.lst xs))from I.ba a _ D)
  exact QI TC I.rA ⟨_,M,rfl⟩ e (λz=>nomatch z) h
 | @tup a xs D =>
  cases(show u=Value.ref a from B);obtain⟨_,_,_,p⟩:=(show bh X.prog X.w H s.heap a (.tup xs)from I.ba a _ D)
  obtain⟨o,M,U,_⟩:=p;exact QI PySem.W.kitx_tuple I.rA ⟨o,M,U⟩ e (λz=>nomatch z) h
 | @dK a kvs D =>
  cases(show u=Value.ref a from B);obtain⟨_,_,vs,_,p⟩:=(show bh X.prog X.w H s.heap a (.dK kvs)from I.ba a _ D)
  obtain⟨o,es,ep,M,U,_⟩:=p;exact QI TF I.rA ⟨o,M,U.1⟩ e (λz=>nomatch z) h
 | @dT a kvs D =>
  cases(show u=Value.ref a from B);obtain⟨_,_,xs,_,o,es,ep,M,U,_⟩:=(show bh X.prog X.w H s.heap a (.dT kvs)from I.ba a _ D)
  exact QI TF I.rA ⟨o,M,U.1⟩ e (λz=>nomatch z) h
 | @ins a C dx fs D cl ha hn Z hm =>
  cases(show u=Value.ref a from B);obtain⟨mA,O,_⟩:=Dw I.ba D;obtain⟨od,J,_⟩:=O.look;exact QI (PySem.W.kitx_own (cl.get _) cl.hd ha hn Z hm) I.rA J e (λz=>nomatch z) h
end
structure fm(k:Nat) (A:Ve):Prop where
 hd:A.handled=none
 dp:A.depth+3*k+5<recursionLimit
 un:A.units+16*k+200<cLine
 gd:A.guards=Yl []
theorem fm.mono{j k:Nat}{A:Ve}(r:fm k A)(h:j<=k):fm j A:=⟨r.hd,by have:=r.dp;omega,by have:=r.un;omega,r.gd⟩
theorem fm.deeper{k:Nat}{A:Ve}(r:fm (k+1) A)(env:Xx):fm k (A.deeper env):=
 ⟨r.hd,by have:=r.dp;show A.depth+1+3*k+5<_;omega,by have:=r.un;show A.units+3+16*k+200<_;omega,r.gd⟩
theorem fm.depth{k:Nat}{A:Ve}(r:fm k A):A.depth<recursionLimit:=by have:=r.dp;omega
theorem fm.units{k:Nat}{A:Ve}(r:fm k A):A.units+64<cLine:=by have:=r.un;omega
def MA:TA:=λ_ H Q=>Q [] H
def Jq(z:TE)(B:TA):TA:=λσ H Q=>z σ H λx D=>B σ D λxs E=>Q (x::xs) E
section
variable {X:Cx}{e:Vc}{es:List Vc}{te:TE}{t:TA}{pos:V6}
theorem ai:PA X [] MA:=λ_ _ _ _ H Q I h=>Calls.spliced_nil ⟨[],H,I,.nil,h⟩
theorem af(z:PE X e te)(B:PA X es t)(hs:U6 (e::es) X.env=(false,eval e X.env)::U6 es X.env:=by rfl):PA X (e::es) (Jq te t):=by
 intro pos pins s σ H Q I h;rw[hs];show wpAny _ _ (spliced ((false,eval e X.env)::backTo pos (U6 es X.env))) _ _ s;refine Calls.spliced_cons (bI (z pins s σ H _ I h) λu D E=>?_);obtain⟨x,J,M,O,U⟩:=E;exact bI (B pos pins D σ J _ M U) λus s2 ⟨xs,V,Z,r2,q2⟩=>⟨x::xs,V,Z,.cons O r2,q2⟩
def MB(t:TA):TE:=λσ H Q=>t σ H λxs z=>xs.length<=U2/\∀p,z p=none->Q (.ref p) (upd z p (.tup xs))
def MC(t:TA):TE:=λσ H Q=>t σ H λxs z=>xs.length<=U2/\∀p,z p=none->Q (.ref p) (upd z p (.lst xs))
theorem jP{J}(h:PA X es t):PE X (.Tuple es J pos) (MB t):=by
 intro pins s σ H Q I M;refine wpAny_Tuple_spliced (bI (h pos pins s σ H _ I M) λO B ⟨xs,D,E,r,z,q⟩=>⟨by rw[<-r.length];exact z,?_⟩);have U:D B.heap.objs.size=none:=E.ba.fresh (O5 _);refine⟨.ref B.heap.objs.size,upd D B.heap.objs.size (.tup xs),E.laid (t':=B.toks) (λb u e=>O8 _ e) (O5 _) ?_,rfl,q _ U⟩;exact⟨z,O,r,⟨_,Pn _ rfl,rfl,_,rfl⟩⟩
theorem d6(h:PA X es t):PE X (.List es pos) (MC t):=by
 intro pins s σ H Q I J;refine wpAny_List_spliced (bI (h pos pins s σ H _ I J) λM B ⟨xs,D,E,r,z,q⟩=>⟨by rw[<-r.length];exact z,?_⟩);have O:D B.heap.objs.size=none:=E.ba.fresh (O5 _);refine⟨.ref B.heap.objs.size,upd D B.heap.objs.size (.lst xs),E.laid (t':=B.toks) (λb u e=>O8 _ e) (O5 _) ?_,rfl,q _ O⟩;exact⟨z,M,0,r,Pn _ rfl⟩
end
noncomputable abbrev Sp:=List V->Hp->VK->XK->Prop
noncomputable abbrev Aw:=List Xx->Hp->UW->XK->UP->UW->Prop
structure Dx(P:U3) (w:U4) (K:Pa) (mg:Vg->Option UP) (base:Vd) (A:Ve) (outer:List Xx) (s:UW) (H:Hp):Prop where
 frames:A.frames=Yl outer
 mod:Mod K mg base
 bs:∀b o,base.get? b=Yl o->s.heap.get? b=Yl o/\H b=none
 Fb:base.objs.size<=s.heap.objs.size
 n5:s.heap.FunFrames base outer
 Im:∀b∈ki outer,H b=none
 ba:gY P w H s.heap
 bare:Wt s.gens
def CE(outer:List Xx)(P:U3)(w:U4)(H:Hp)(s:UW)(Q:VK)(u:UP)(s':UW):Prop :=
 ∃v z,s'.os=s.os/\Wt s'.gens/\Un (ki outer) [] H z s.heap s'.heap/\gY P w z s'.heap/\RelV v u/\Q v z
def CR(CX:Aw)(outer:List Xx)(P:U3)(w:U4)(H:Hp)(s:UW)(Q:VK)(E:XK)(r:Result)(s':UW):Prop :=
 match r with
 |.ok (.ret u)=>CE outer P w H s Q u s'
 |.ok _=>False
 |.error e=>CX outer H s E e s'
structure a4(P:U3) (w:U4) (K:Pa) (mg:Vg->Option UP) (base:Vd) (CX:Aw) (k:Nat) (f:UR) (fd:Va) (ps:List Vg) (sp:Sp):Prop where
 len:∀vs H Q E,sp vs H Q E->vs.length=ps.length
 run:∀(A:Ve) (outer:List Xx) (s:UW) (H:Hp) (args:Args) (us:List UP) (vs:List V) (Q:VK) (E:XK),fm k A->Dx P w K mg base A outer s H->XS s fd args (ps.zip us)->Vals vs us->sp vs H Q E ->
  Xn (model P w) A (.call (.ref f) args) (CR CX outer P w H s Q E) s
section
variable {X:Cx}{pins:List (UR×VE)}{σ:St}{H:Hp}{s s':UW}
theorem Inv.MD(I:Inv X pins σ H s):Dx X.prog X.w X.K X.mg X.base X.A X.stack s H :=
 ⟨I.ok.frames,I.ok.mod,I.bs,PH I.ok.Fb I.sz,I.stack,I.rC,I.ba,I.bare⟩
theorem Inv.after{Q:VK}{u:UP}(I:Inv X pins σ H s)(h:CE X.stack X.prog X.w H s Q u s'):EP X pins σ Q u s':=by
 obtain⟨v,D,os,bare,un,ba,r,q⟩:=h;obtain⟨E,g,d,t,B⟩:=s';obtain rfl:B=s.os:=os;exact⟨v,D,I.call (h':=E) (g':=g) (d':=d) (t':=t) (ch:=[]) un ba bare (λb z=>UU z (by simp)),r,q⟩
end
def Ax(sp:Sp)(z:List V)(E:XK)(t:TA):TE:=λσ H Q=>t σ H λvs B=>sp (vs++z) B Q E
def Binds(K:Pa)(D:Va)(ps:List Vg)(B:List UP):Prop :=
 ∀(s:UW) (z:List UP),K.In s.heap->(z++B).length=ps.length->XS s D ⟨z,[]⟩ (ps.zip (z++B))
theorem Binds.all{K:Pa}{B:Va}{ps:List Vg}(h:∀z:List UP,z.length=ps.length->Wn B ⟨z,[]⟩=pure (ps.zip z)):Binds K B ps []:=λs z _ D=>by
 rw[Qj]at D⊢;exact .of_eq (h z D)
def Passes(CX:Aw)(X:Cx)(E:XK):Prop:=∀(pins:List (UR×VE)) (σ:St) (H:Hp) (s:UW) (e:UP) (s':UW),Inv X pins σ H s->CX X.stack H s E e s'->X.xe e s'
section
variable {X:Cx}{CX:Aw}{k:Nat}{f C:UR}{fd:Va}{ps:List Vg}{sp:Sp}{Ip:List V}{ds:List UP}{E:XK}{x m:Vg}{p pos apos:V6}{e o:Vc}{es:List Vc}{ta:TE}{t:TA}
theorem Gu{pins:List (UR×VE)}{σ:St}{H:Hp}{s:UW}{Q:VK}{z:List UP}{vs:List V}(F:a4 X.prog X.w X.K X.mg X.base CX k f fd ps sp)(J:fm k X.A)(M:Binds X.K fd ps ds)(hd:Vals Ip ds)(O:Passes CX X E)
  (I:Inv X pins σ H s) (r:Vals vs z) (h:sp (vs++Ip) H Q E):wpAny (model X.prog X.w) X.A (call (.ref f) z) (EP X pins σ Q) X.xe s:=by
 have D:Vals (vs++Ip) (z++ds):=r.append hd;have U:(z++ds).length=ps.length:=by rw[<-D.length];exact F.len _ _ _ _ h
 refine wpAny_call (Xy (F.run X.A X.stack s H ⟨z,[]⟩ (z++ds) (vs++Ip) Q E J I.MD (M s z I.rA U) D h) λr s' B=>?_);cases r with
 |error e=>exact O pins σ H s e s' I B
 |ok fl =>
  cases fl with
  |ret u=>exact I.after B
  |next=>exact False.elim B
  |brk=>exact False.elim B
  |cont=>exact False.elim B
theorem xc(F:a4 X.prog X.w X.K X.mg X.base CX k f fd ps sp)(J:fm k X.A)(M:Gl X x)(O:X.mg x=Yl (.ref f))(U:RJ X.K (.ref f)=true)(V:Binds X.K fd ps ds)(hd:Vals Ip ds)(Z:Passes CX X E)
  (ha:PA X (e::es) t) (z:(x==("__debug__":Vg))=false:=by decide) (he:U6 (e::es) X.env=(false,eval e X.env)::U6 es X.env:=by rfl) (B:(backTo pos (U6 es X.env)).any (·.1)=false:=by rfl) :
  PE X (.Call (.Name x p) (e::es) [] pos) (Ax sp Ip E t):=by
 intro pins s σ H Q I h;refine Wy (wX I M O ?_ z);refine PySem.W.callWith_K (h₀:=X.base) I.ok.mod.kin U (bI (ha pos pins s σ H _ I h) λus s1 ⟨vs,H1,D,r,q⟩=>⟨D.rA,?_⟩) he B;exact Gu F J V hd Z D r q
end
structure aY(N P:List Vg) (sc:V3):Prop where
 kind:sc.kind=.function
 co:sc.isCoroutine=false
 gen:sc.isGenerator=false
 nd:N.Nodup
 pre:N.take P.length=P
 par:∀x∈P,sc.names.lookup x=Yl .local\/sc.names.lookup x=Yl .cell
 Gv:∀y∈sc.names,y.2≠.free
theorem qv{kindOf:Vg->Option X1}{x:Vg}:∀{binds:List (Vg×UP)}{m:Vg->Option UP},(∀v,(x,v)∉binds)->bindL kindOf binds m x=m x
 |[],_,_=>rfl
 |(n,v)::r,m,h=>by
  unfold bindL;rw[qv λw hw=>h w (Pj _ hw)]
  split
  .have:x≠n:=by rintro rfl;exact h v Pc
   simp[this]
  rfl
theorem qw{kindOf:Vg->Option X1}{x:Vg}:∀{binds:List (Vg×UP)}{m:Vg->Option UP},(∀v,(x,v)∉binds)->bindC kindOf binds m x=m x
 |[],_,_=>rfl
 |(n,v)::r,m,h=>by
  unfold bindC;rw[qw λw hw=>h w (Pj _ hw)]
  split
  .rfl
  have:x≠n:=by rintro rfl;exact h v Pc
  simp[this]
theorem qx{kindOf:Vg->Option X1}{x:Vg}{v:UP}:∀{P:List Vg}{vs:List UP}{i:Nat}{m:Vg->Option UP},P.Nodup->P[i]?=Yl x->vs[i]?=Yl v->kindOf x=Yl .local ->
  bindL kindOf (P.zip vs) m x=Yl v
 |[],_,_,_,_,h,_,_=>by simp at h
 |_::_,[],_,_,_,_,h,_=>by simp at h
 |p::P,w::vs,0,m,nd,z,B,D=>by
  simp at z B;subst z;subst B;show bindL kindOf ((p,w)::P.zip vs) m p=_;unfold bindL;rw[qv λv E=>(PX.mp nd).1 (Sq E).1,UQ D];simp
 |p::P,w::vs,i+1,m,nd,z,B,D=>by
  show bindL kindOf ((p,w)::P.zip vs) m x=_;unfold bindL;exact qx (i:=i) (PX.mp nd).2 (by simpa using z) (by simpa using B) D
theorem qy{kindOf:Vg->Option X1}{x:Vg}{v:UP}:∀{P:List Vg}{vs:List UP}{i:Nat}{m:Vg->Option UP},P.Nodup->P[i]?=Yl x->vs[i]?=Yl v->kindOf x≠Yl .local ->
  bindC kindOf (P.zip vs) m x=Yl v
 |[],_,_,_,_,h,_,_=>by simp at h
 |_::_,[],_,_,_,_,h,_=>by simp at h
 |p::P,w::vs,0,m,nd,z,B,D=>by
  simp at z B;subst z;subst B;show bindC kindOf ((p,w)::P.zip vs) m p=_;unfold bindC;rw[qw λv E=>(PX.mp nd).1 (Sq E).1,UO D];simp
 |p::P,w::vs,i+1,m,nd,z,B,D=>by
  show bindC kindOf ((p,w)::P.zip vs) m x=_;unfold bindC;exact qy (i:=i) (PX.mp nd).2 (by simpa using z) (by simpa using B) D
noncomputable def start(N:List Vg)(vs:List V):St:=vs.map some++R7 (N.length-vs.length) none
noncomputable def mh(CX:Aw)(P:U3)(w:U4)(K:Pa)(mg:Vg->Option UP)(base:Vd)(N:List Vg)(qual:Vg)(scope:V3)(f:UR)(B:UP)(A:Ve)(outer:List Xx)(s:UW)(H:Hp)(E:XK):Cx where
 prog:=P
 w:=w
 K:=K
 mg:=mg
 base:=base
 A:=A.deeper (envOfC qual scope s.heap.objs.size f B)
 N:=N
 s₀:=s
 H₀:=H
 env:=envOfC qual scope s.heap.objs.size f B
 outer:=outer
 stack:=envOfC qual scope s.heap.objs.size f B::outer
 ex:=[]
 calm:=true
 fn:=λ_=>true
 pn:=[]
 xe:=λe s'=>wpAny (model P w) (A.deeper (envOfC qual scope s.heap.objs.size f B)) (Yg (envOfC qual scope s.heap.objs.size f B) e) (λ_ z=>CX outer H s E e z) (λD z=>CX outer H s E D z) s'
theorem tM{z:V3}{n:Nat}{x:Vg}(h:z.names.lookup x=Yl .cell):∃c,(cellsFrom n z.names []).lookup x=Yl c:=by
 have q:=SS z.names n [] (.inl h);exact SE.mp q
theorem yP{CX:Aw}{P:U3}{w:U4}{K:Pa}{mg:Vg->Option UP}{base:Vd}{N ps:List Vg}{qual:Vg}{scope:V3}{f:UR}{Z:UP}{A:Ve}{outer:List Xx}{s s1:UW}{H:Hp}{E:XK}{us:List UP}{vs:List V}
  (S:aY N ps scope) (hd:A.handled=none) (D:Dx P w K mg base A outer s H) (hl:vs.length=ps.length) (r:Vals vs us)
  (x:InCallC s s.heap.objs.size (bindL (envOfC qual scope s.heap.objs.size f Z).kindOf (ps.zip us) λ_=>none) (cellsFrom (s.heap.objs.size+1) scope.names []) (bindC (envOfC qual scope s.heap.objs.size f Z).kindOf (ps.zip us) λ_=>none) s1) :
  Inv (mh CX P w K mg base N qual scope f Z A outer s H E) [] (start N vs) H s1:=by
 have hpl:ps.length<=N.length:=by have:=congrArg Rx S.pre;rw[Pz]at this;omega
 obtain⟨h1,tk,rfl,hk⟩:=x.done;have J:∀b:UR,b∉(mh CX P w K mg base N qual scope f Z A outer s H E).ex:=λb z=>UU (show b∈([]:List UR)from z) (by simp);refine⟨⟨D.mod,S.kind,rfl,rfl,O5 _,λy z c h1 B=>?_,λy M=>?_,λy c _ h=>?_,λ_=>hd,Around.frames_deeper D.frames,.inr ⟨rfl,rfl⟩,λb z=>UU z (J b),D.bs,D.Fb,λb _ _=>J b,λb z=>UU z (J b),D.n5,D.Im⟩,
  rfl,D.bare,Un.kept hk,⟨_,x.toInCall.ns,λi y v h1 B h3=>?_⟩,λy c h=>⟨_,x.cell y c h⟩,D.ba.fresh (O5 _),λy c h=>?_,λp O=>UU (show p∈([]:List (UR×VE))from O) (by simp),D.ba.kept hk,?_⟩
 .exact name_of_addr x.apart (PySem.mem_of_lookup h1) (PySem.mem_of_lookup B)
 .have M:scope.names.lookup y=Yl .cell\/scope.names.lookup y=Yl .free:=M;rcases M with M|M
  .exact tM M
  exact UU rfl (S.Gv _ (PySem.mem_of_lookup M))
 .exact Qo (x.above y c (PySem.mem_of_lookup h))
 .have hi:i<vs.length:=by
   unfold start at B;by_cases hi:i<vs.length
   .exact hi
   rw[Pd (by simpa using hi)]at B;rw[Q6]at B
   split at B <;> cases B
  have ha:vs[i]?=Yl v:=by
   unfold start at B;rw[Pg (by simpa using hi),O6]at B;cases e:vs[i]? with
   |none=>rw[e]at B;cases B
   |some a=>rw[e]at B;cases B;rfl
  obtain⟨u,hu,rv⟩:=r.get ha;have O:ps[i]?=Yl y:=by
   rw[<-S.pre,List.getElem?_take_of_lt (by omega)];exact h1
  have U:ps.Nodup:=by rw[<-S.pre];exact S.nd.sublist (TH _ _)
  refine⟨u,rv,?_⟩;rcases S.par y (Pk O)with k|k
  .exact .inl ⟨k,qx U O hu k⟩
  obtain⟨c,e⟩:=tM (n:=s.heap.objs.size+1) k;refine .inr ⟨.inl k,c,e,?_⟩;have q:=x.cell y c e;rw[qy U O hu (by show scope.names.lookup y≠_;rw[k];decide)]at q;exact q
 .exact D.ba.fresh (Qo (x.above y c (PySem.mem_of_lookup h)))
 unfold start;show _=N.length;rw[O7,O0,R9];omega
theorem Ff{CX:Aw}{P:U3}{w:U4}{K:Pa}{mg:Vg->Option UP}{base:Vd}{k:Nat}{f:UR}{name qual:Vg}{params:Arguments}{body:List Wq}{scope:V3}{dV kV doc pm z ct oc:UP}{an od:Option UR}
  {Lr:Array (Option UP)}{N ps:List Vg}{sp:Sp} (lk:K.lookup f=Yl ⟨oc,od,.func (QB name qual params body scope dV kV doc pm an z ct),Lr⟩) (Ls:RK K z qual=true) (S:aY N ps scope)
  (len:∀vs H Q E,sp vs H Q E->vs.length=ps.length)
  (M:∀(A:Ve) (outer:List Xx) (s:UW) (H:Hp) (vs:List V) (Q:VK) (E:XK),fm k (A.deeper (envOfC qual scope s.heap.objs.size f z))->sp vs H Q E ->
   ∃t,qp (mh CX P w K mg base N qual scope f z A outer s H E) body t/\t { nx:=λ_ D=>Q .eE D,rt:=Q } (start N vs) H) :
  a4 P w K mg base CX (k+1) f (QB name qual params body scope dV kV doc pm an z ct) ps sp:=by
 refine⟨len,λA outer s H args us vs Q E hr U hb r Z=>?_⟩;have hl:=len _ _ _ _ Z;have KX:K.In s.heap:=U.mod.kin.keeps λb o e=>(U.bs b o e).1;have lim:s.heap.NoLimit:=U.mod.nolimit.keeps λb o e=>(U.bs b o e).1;have O:∀y∈ps.zip us,scope.names.lookup y.1=Yl .local\/(scope.names.lookup y.1=Yl .cell/\((cellsFrom (s.heap.objs.size+1) scope.names []).lookup y.1).isSome=true):=λ⟨n,v⟩ hy=>by
  rcases S.par n (Sq hy).1 with q|q
  .exact .inl q
  exact .inr ⟨q,SS _ _ _ (.inl q)⟩
 refine codeAny_call_function hr.depth (KX _ _ lk) rfl S.co S.gen rfl (PySem.W.codeRec_of KX Ls) (hb _ _ _ _ ?_);refine wpAny_newFunctionEnv_cells S.kind O λenv he s1 x=>?_;subst he;refine⟨lim.keeps x.toInCall.keep,codeAny_func ?_⟩;obtain⟨t,ht,hq⟩:=M A outer s H vs Q E (hr.deeper _) Z;have I:Inv (mh CX P w K mg base N qual scope f z A outer s H E) [] (start N vs) H s1:=yP S hr.hd U hl r x;refine VQ (ht [] s1 (start N vs) H _ I hq) (λfl s' hs=>?_) λe s' hs=>hs;have fin:∀{B:St}{D:Hp}{v:V}{u:UP},Inv (mh CX P w K mg base N qual scope f z A outer s H E) [] B D s'->RelV v u->Q v D->CE outer P w H s Q u s' :=
  λ{B D v u} J rv q=>⟨v,D,J.os,J.bare,J.base,J.ba,rv,q⟩
 cases fl with
 |ret u =>
  obtain⟨v,B,D,J,rv,q⟩:=hs;exact fin J rv q
 |next =>
  obtain⟨B,D,J,q⟩:=hs;exact fin (v:=V.eE) (u:=Value.none) J rfl q
 |brk =>
  obtain⟨_,_,_,q⟩:=hs;exact False.elim q
 |cont =>
  obtain⟨_,_,_,q⟩:=hs;exact False.elim q
section
variable {X:Cx}{x:Vg}{p pos:V6}{e:Vc}{es:List Vc}{t:TA}{id T:String}{r:List V->Hp->VK->Prop}
def OW(r:List V->Hp->VK->Prop)(t:TA):TE:=λσ H Q=>t σ H λvs z=>r vs z Q
theorem aI(D:eI X (.builtin id) r)(E:Gl X x)(J:X.mg x=none)(M:Vi x=Yl (.builtin id))(O:PA X (e::es) t)(U:x≠"__name__":=by decide)(z:(x==("__debug__":Vg))=false:=by decide)
  (V:U6 (e::es) X.env=(false,eval e X.env)::U6 es X.env:=by rfl) (B:(backTo pos (U6 es X.env)).any (·.1)=false:=by rfl):PE X (.Call (.Name x p) (e::es) [] pos) (OW r t):=by
 intro pins s σ H Q I h;refine Wy (fG I E J M ?_ U z);exact T1 (bI (O pos pins s σ H _ I h) λZ s1 ⟨vs,H1,I1,r1,q1⟩=>D pins s1 σ H1 vs Z Q I1 r1 q1) V B
theorem bQ(D:eI X (.type T) r)(E:Gl X x)(J:X.mg x=none)(M:Vi x=Yl (.type T))(O:PA X (e::es) t)(U:x≠"__name__":=by decide)(z:(x==("__debug__":Vg))=false:=by decide)
  (V:U6 (e::es) X.env=(false,eval e X.env)::U6 es X.env:=by rfl) (B:(backTo pos (U6 es X.env)).any (·.1)=false:=by rfl):PE X (.Call (.Name x p) (e::es) [] pos) (OW r t):=by
 intro pins s σ H Q I h;refine Wy (fG I E J M ?_ U z);exact Qi (bI (O pos pins s σ H _ I h) λZ s1 ⟨vs,H1,I1,r1,q1⟩=>D pins s1 σ H1 vs Z Q I1 r1 q1) V B
end
section
variable {κ:Type}[DecidableEq κ]
noncomputable def bq(kvs:List (κ×V))(k:κ):Option V:=(kvs.find? λz=>decide (z.1=k)).map (·.2)
noncomputable def putK(kvs:List (κ×V))(k:κ)(v:V):List (κ×V):=
 if(kvs.any λz=>decide (z.1=k))=true then kvs.map (λz=>if z.1=k then(z.1,v)else z)else kvs++[(k,v)]
theorem cx{p:κ×V}{r:List (κ×V)}{k:κ}(e:p.1=k):bq (p::r) k=Yl p.2:=by simp[bq,QX,e]
theorem cz{p:κ×V}{r:List (κ×V)}{k:κ}(e:¬p.1=k):bq (p::r) k=bq r k:=by simp[bq,QX,e]
theorem eJ(k:κ):∀kvs:List (κ×V),(kvs.any λz=>decide (z.1=k))=(bq kvs k).isSome
 |[]=>rfl
 |p::r=>by
  rw[RR];by_cases e:p.1=k
  .simp only[cx e,UX e,T5,Option.isSome_some]
  rw[cz e,U1 e,Tw];exact eJ k r
theorem tO(k j:κ)(y:V):∀kvs:List (κ×V),bq (kvs.map λB=>if B.1=k then(B.1,y)else B) j=(bq kvs j).map λx=>if j=k then y else x
 |[]=>rfl
 |p::r=>by
  have D:=tO k j y r;rw[Qk];by_cases h:p.1=k
  .rw[UQ h];by_cases e:p.1=j
   .rw[cx (p:=(p.1,y)) e,cx e,Ry,UQ (e.symm.trans h)]
   rw[cz (p:=(p.1,y)) e,cz e,D]
  rw[UO h];by_cases e:p.1=j
  .rw[cx (p:=p) e,cx e,Ry,UO (λz=>h (e.trans z))]
  rw[cz (p:=p) e,cz e,D]
theorem qz(k j:κ)(y:V):∀kvs:List (κ×V),bq kvs k=none->bq (kvs++[(k,y)]) j=if j=k then some y else bq kvs j
 |[],_=>by
  by_cases e:k=j
  .rw[UQ e.symm];exact cx (p:=(k,y)) e
  rw[UO (λz=>e z.symm)];exact cz (p:=(k,y)) e
 |p::r,B=>by
  rw[Ue];have D:¬p.1=k:=λz=>by rw[cx z]at B;cases B
  rw[cz D]at B;have E:=qz k j y r B;by_cases e:p.1=j
  .rw[cx e,cx e,UO (λz=>D (e.trans z))]
  rw[cz e,cz e,E]
theorem fJ(kvs:List (κ×V))(k j:κ)(y:V):bq (putK kvs k y) j=if j=k then some y else bq kvs j:=by
 unfold putK;by_cases a:(kvs.any λz=>decide (z.1=k))=true
 .rw[UQ a,tO];rw[eJ]at a;by_cases e:j=k
  .obtain⟨x,B⟩:=SE.mp a;rw[UQ e,e,B,Ry,UQ rfl]
  rw[UO e];cases bq kvs j with
  |none=>rfl
  |some x=>rw[Ry,UO e]
 rw[UO a];refine qz k j y kvs ?_;rw[eJ]at a;cases q:bq kvs k with
 |none=>rfl
 |some x=>rw[q]at a;exact(a rfl).elim
theorem bS(kvs:List (κ×V))(k:κ)(v:V):(putK kvs k v).length<=kvs.length+1:=by
 unfold putK
 split
 .rw[O0];omega
 rw[O7,QK,RS];omega
theorem iz{kvs:List (κ×V)}{k:κ}(v:V)(h:bq kvs k=none):putK kvs k v=kvs++[(k,v)]:=by
 unfold putK;rw[eJ,h];exact UO (by decide)
theorem j9.qA{o:Option V}{u:Option UP}(r:j9 o u):o.isSome=u.isSome:=by
 cases o with
 |none=>cases u with
  |none=>rfl
  |some _=>exact(show False from r).elim
 |some _=>cases u with
  |none=>exact(show False from r).elim
  |some _=>rfl
theorem KV.val{kvs:List (κ×V)}{vs:List (κ×UP)}(r:KV kvs vs)(k:κ):j9 (bq kvs k) (Xo vs k):=by
 unfold KV at r
 induction r with
 |nil=>exact True.intro
 | @cons p q ps B h t H =>
  obtain⟨E,J⟩:=h;by_cases e:p.1=k
  .have D:q.1=k:=E.symm.trans e;have b:Xo (q::B) k=Yl q.2:=by simp[Xo,QX,D]
   rw[cx e,b];exact J
  have D:¬q.1=k:=λz=>e (E.trans z);have b:Xo (q::B) k=Xo B k:=by simp[Xo,QX,D]
  rw[cz e,b];exact H
theorem KV.any{kvs:List (κ×V)}{vs:List (κ×UP)}(r:KV kvs vs)(k:κ):(kvs.any λz=>decide (z.1=k))=vs.any λz=>decide (z.1=k):=by
 unfold KV at r
 induction r with
 |nil=>rfl
 |cons h t B=>rw[RR,RR,B,h.1]
theorem KV.Gw{kvs:List (κ×V)}{vs:List (κ×UP)}(r:KV kvs vs)(k:κ){y:V}{u:UP}(E:RelV y u) :
  KV (kvs.map λB=>if B.1=k then(B.1,y)else B) (vs.map λB=>if B.1=k then(B.1,u)else B):=by
 unfold KV at r⊢
 induction r with
 |nil=>exact .nil
 | @cons p q ps M h t H =>
  rw[Qk,Qk];refine .cons ?_ H;obtain⟨D,J⟩:=h;by_cases e:p.1=k
  .rw[UQ e,UQ (D.symm.trans e)];exact⟨D,E⟩
  rw[UO e,UO (λz=>e (D.trans z))];exact⟨D,J⟩
theorem KV.put{kvs:List (κ×V)}{vs:List (κ×UP)}(r:KV kvs vs)(k:κ){y:V}{u:UP}(z:RelV y u):KV (putK kvs k y) (stored vs k u):=by
 unfold putK stored;rw[r.any k];by_cases e:(vs.any λB=>decide (B.1=k))=true
 .rw[UQ e,UQ e];exact r.Gw k z
 rw[UO e,UO e];exact Paired.snoc r ⟨rfl,z⟩
theorem KV.length{kvs:List (κ×V)}{vs:List (κ×UP)}(r:KV kvs vs):kvs.length=vs.length:=Paired.length r
end
theorem qB{P:U3}{w:U4}{k:Key}{u:UP}(r:RelV (kV k) u):(aX P w).is k u=true:=by
 cases k with
 |inl i=>obtain⟨t,e⟩:=(show∃t,u=Value.int i t from r);subst e;exact tD P w i t
 |inr x=>obtain⟨t,e⟩:=(show∃t,u=Value.str x t from r);subst e;exact tF P w x t
theorem qC{P:U3}{w:U4}:∀{ks:List Key}{z:List UP},Vals (ks.map kV) z->ItemsAre (aX P w) ks z
 |[],_,r=>by rw[T6]at r;cases r;exact .nil
 |k::ks,_,r=>by
  rw[Qk]at r;cases r with
  |cons h t=>exact .cons (qB h) (qC t)
abbrev KT(H:Hp):List (List Key×V)->List (List Key×UR×UP)->Prop:=Paired λp q=>p.1=q.1/\H q.2.1=Yl (.tup (p.1.map kV))/\RelV p.2 q.2.2
theorem KT.val{H:Hp}{kvs:List (List Key×V)}{xs:List (List Key×UR×UP)}(r:KT H kvs xs)(k:List Key):j9 (bq kvs k) ((atKey xs k).map (·.2)):=by
 induction r with
 |nil=>exact True.intro
 | @cons p q ps B h t J =>
  obtain⟨E,_,M⟩:=h;by_cases e:p.1=k
  .have D:q.1=k:=E.symm.trans e;have b:atKey (q::B) k=Yl q.2:=by simp[atKey,QX,D]
   rw[cx e,b];exact M
  have D:¬q.1=k:=λz=>e (E.trans z);have b:atKey (q::B) k=atKey B k:=by simp[atKey,QX,D]
  rw[cz e,b];exact J
theorem KT.Gw{H:Hp}{kvs:List (List Key×V)}{xs:List (List Key×UR×UP)}(r:KT H kvs xs)(k:List Key){y:V}{u:UP}(J:RelV y u) :
  KT H (kvs.map λD=>if D.1=k then(D.1,y)else D) (xs.map (putAt k u)):=by
 induction r with
 |nil=>exact .nil
 | @cons p q ps U h t M =>
  rw[Qk,Qk];refine .cons ?_ M;obtain⟨B,E,O⟩:=h;unfold putAt;by_cases e:p.1=k
  .rw[UQ e,UQ (B.symm.trans e)];exact⟨B,E,J⟩
  rw[UO e,UO (λz=>e (B.trans z))];exact⟨B,E,O⟩
theorem KT.put{H:Hp}{kvs:List (List Key×V)}{xs:List (List Key×UR×UP)}(r:KT H kvs xs)(k:List Key){b:UR}{y:V}{u:UP}(B:H b=Yl (.tup (k.map kV)))(z:RelV y u) :
  KT H (putK kvs k y) (Xz xs k b u):=by
 have e:(kvs.any λD=>decide (D.1=k))=(atKey xs k).isSome:=by
  rw[eJ,(r.val k).qA,TJ]
 unfold putK Xz;rw[e];by_cases q:(atKey xs k).isSome=true
 .rw[UQ q,UQ q];exact r.Gw k z
 rw[UO q,UO q];exact Paired.snoc r ⟨rfl,B,z⟩
theorem KT.keeps{H B:Hp}{kvs:List (List Key×V)}{xs:List (List Key×UR×UP)}(r:KT H kvs xs)(D:∀b ys,H b=Yl (.tup ys)->B b=Yl (.tup ys)):KT B kvs xs :=
 Paired.rq r λ_ _ z=>⟨z.1,D _ _ z.2.1,z.2.2⟩
section
variable {P:U3}{w:U4}{H:Hp}{h:Vd}{a:UR}
theorem Fg{u:HO}(ok:gY P w H h)(e:Rd H a u):bh P w H h a u:=e.ok ok
theorem xf{kvs:List (Key×V)}(ok:gY P w H h)(e:Rd H a (.dK kvs)):kvs.length<=U2/\(a==Vm)=false/\∃vs,KV kvs vs/\h.DictOf (aX P w) a vs :=
 show bh P w H h a (.dK kvs)from Fg ok e
theorem tP{kvs:List (Key×V)}(ok:gY P w H h)(e:H a=Yl (.dK kvs)):kvs.length<=U2/\(a==Vm)=false/\∃vs,KV kvs vs/\h.DictOf (aX P w) a vs:=xf ok (.inl e)
theorem mi{ks:List Key}(ok:gY P w H h)(e:H a=Yl (.tup (ks.map kV))):(Wv (aX P w)).is h ks a:=by
 obtain⟨_,its,r,o,z,B,n,D⟩:=(show bh P w H h a (.tup (ks.map kV))from ok a _ e)
 exact⟨o,its.toArray,n,z,B,D,by simpa using qC r⟩
theorem xg{kvs:List (List Key×V)}(ok:gY P w H h)(e:Rd H a (.dT kvs)):kvs.length<=U2/\(a==Vm)=false /\
  ∃xs,KT H kvs xs/\h.DictOfH (Wv (aX P w)) a xs:=by
 obtain⟨z,y,xs,r,o,E,ep,J,M,O,U,Z⟩:=(show bh P w H h a (.dT kvs)from Fg ok e)
 refine⟨z,y,xs,r,o,E,ep,J,M,O,U,λx B=>?_,Z⟩;have all:∀{l:List (List Key×V)}{m:List (List Key×UR×UP)},KT H l m->∀x∈m,(Wv (aX P w)).is h x.1 x.2.1:=by
  intro l m q
  induction q with
  |nil=>intro x B;exact nomatch B
  | @cons p q ps qs D t ih =>
   intro x B;rcases Pq.mp B with e|B
   .subst e;exact mi ok (by rw[<-D.1];exact D.2.1)
   exact ih x B
 exact all r x B
theorem Ay {kvs : List (List Key × V)}(ok : gY P w H h)(e : H a=Yl (.dT kvs)) : kvs.length <= U2 /\ (a == Vm)=false /\
    ∃xs,KT H kvs xs/\h.DictOfH (Wv (aX P w)) a xs:=xg ok (.inl e)
end
def oC(H:Hp)(a:UR)(y:V)(r:Option V):Prop :=
 (∃kvs k,Rd H a (.dK kvs)/\y=kV k/\r=bq kvs k)\/∃kvs k b,Rd H a (.dT kvs)/\y=.ref b/\H b=Yl (.tup (k.map kV))/\r=bq kvs k
def pM(H:Hp)(a:UR)(y v:V)(z:Hp):Prop :=
 (∃kvs k,H a=Yl (.dK kvs)/\y=kV k/\kvs.length<U2/\z=upd H a (.dK (putK kvs k v))) \/
 ∃kvs k b,H a=Yl (.dT kvs)/\y=.ref b/\H b=Yl (.tup (k.map kV))/\kvs.length<U2/\z=upd H a (.dT (putK kvs k v))
theorem oC.k{H:Hp}{a:UR}{kvs:List (Key×V)}{k:Key}(e:H a=Yl (.dK kvs)):oC H a (kV k) (bq kvs k):=.inl ⟨kvs,k,.inl e,rfl,rfl⟩
theorem pM.k{H:Hp}{a:UR}{kvs:List (Key×V)}{k:Key}{v:V}(e:H a=Yl (.dK kvs))(z:kvs.length<U2):pM H a (kV k) v (upd H a (.dK (putK kvs k v))):=.inl ⟨kvs,k,e,rfl,z,rfl⟩
section
variable {X:Cx}{pins:List (UR×VE)}{σ:St}{H:Hp}{s:UW}{a:UR}{y v:V}{u r:UP}{o:Option V}{A:Ve}{E:UP->UW->Prop}
theorem Inv.big(I:Inv X pins σ H s):Vm<s.heap.objs.size:=by
 have h:Vn<s.heap.objs.size:=(I.mod.glob.keeps I.bk).lt;exact S0 (by decide) h
theorem yQ{Q:UP->UW->Prop}(U:A.units+1<cLine)(I:Inv X pins σ H s)(g:oC H a y (Yl v))(O:RelV y u)(h:∀w' s',Inv X pins σ H s'->RelV v w'->Q w' s') :
  wpAny (model X.prog X.w) A (Wk (.ref a) u) Q E s:=by
 rcases g with⟨kvs,k,e,J,l⟩|⟨kvs,k,b,e,J,V,l⟩
 .subst J;obtain⟨z,hd,vs,B,dd⟩:=xf I.ba e;obtain⟨w',hw,D⟩:=j9.some_of (v:=v) (o:=Xo vs k) (by rw[l];exact B.val k);exact wpAny_getItem_of (qB O) dd.mapOf hw (h w' _ (I.tok _) D)
 subst J;cases(show u=Value.ref b from O);obtain⟨z,hd,xs,B,dd⟩:=xg I.ba e;obtain⟨w',hw,D⟩:=j9.some_of (v:=v) (o:=(atKey xs k).map (·.2)) (by rw[l];exact B.val k);obtain⟨p,Z,M⟩:=Ph.mp hw;refine Wz (WA U) (mi I.ba V) dd Z ?_;rw[M];exact h w' _ (I.tok _) D
theorem jg{h':Vd}{t':Nat}{B:HO}(I:Inv X pins σ H s)(D:Ga (H a))(hs:Heap.SameBut a s.heap h')(E:∃q,h'.get? a=Yl q)(new:bh X.prog X.w (upd H a B) h' a B) :
  Inv X pins σ (upd H a B) { s with heap:=h',toks:=t' }:=
 I.write (x:=a) (e:=a) D (.inl rfl) (λb q J z=>(hs.2 b J).trans z) E new
theorem Az {P : U3}{w : U4}{D : Hp}{h' : Vd}{kvs : List (Key × V)}{vs : List (Key × UP)}(z : kvs.length <= U2)(hd : (a == Vm)=false)(B : KV kvs vs)(dd : h'.DictOf (aX P w) a vs) :
    bh P w D h' a (.dK kvs):= ⟨z,hd,vs,B,dd⟩
theorem yR{V:Hp}{Q:Unit->UW->Prop}(hu:A.units+1<cLine)(I:Inv X pins σ H s)(g:pM H a y v V)(Z:RelV y u)(rv:RelV v r)(h:∀s',Inv X pins σ V s'->Q () s') :
  wpAny (model X.prog X.w) A (Yf (.ref a) u r) Q E s:=by
 rcases g with⟨kvs,k,e,M,l,O⟩|⟨kvs,k,b,e,M,eb,l,O⟩
 .subst M O;obtain⟨z,hd,vs,B,dd⟩:=tP I.ba e;have hz:vs.length<=sizeLine:=by rw[<-B.length];exact z
  have U:(putK kvs k v).length<=sizeLine:=by have:=bS kvs k v;omega
  refine wpAny_setItem_pairs (hsz:=hz) (qB Z) dd λh' D hs=>h _ ?_;have he:∃q,h'.get? a=Yl q:=let⟨q,_,_,J,_⟩:=D;⟨q,J⟩
  exact jg I (by rw[e];exact True.intro) hs he (Az U hd (B.put k rv) D)
 subst M O;cases(show u=Value.ref b from Z);obtain⟨z,hd,xs,B,dd⟩:=Ay I.ba e;have hz:xs.length<=sizeLine:=by rw[<-Paired.length B];exact z
 have U:(putK kvs k v).length<=sizeLine:=by have:=bS kvs k v;omega
 refine Xu (hsz:=hz) (WA hu) (mi I.ba eb) dd λh' D hs=>h _ ?_;obtain⟨q,es,ep,J,h2,h3,h4,_,h5⟩:=D;refine jg I (by rw[e];exact True.intro) hs ⟨q,J⟩ ⟨U,hd,_,(B.put k eb rv).keeps λc ys ec=>?_,q,es,ep,J,h2,h3,h4,h5⟩;rw[ao (Al ec e (λz=>nomatch z))];exact ec
end
def AA(i:Vc):Prop:=∀z B,Xe i false z B=operate [z,B] (Wk z B)
theorem rE{prog:U3}{w:U4}{A:Ve}{E:UP->UW->Prop}{s:UW}{env:Xx}{value slice:Vc}{pos:V6}{T id:String}{Q:UP->UW->Prop}
  (U:WZ (.type T) "__getitem__" = pure (Yl (.builtin id))) (hs:AA slice)
  (h:wpAny (model prog w) A (eval value env) (λo D=>wpAny (model prog w) A (eval slice env) (λi z=>z.TypeIs o T/\wpAny (model prog w) A (Wk o i) Q E z) E D) E s) :
  wpAny (model prog w) A (eval (.Subscript value slice pos) env) Q E s:=by
 refine X2 (VQ h (λo D J=>VQ J (λi z B=>?_) λ_ _ x=>x) λ_ _ x=>x);obtain⟨O,B⟩:=B;unfold Xs;refine UM ?_;rw[getitemInPython_of_ne O.not_modules];refine UM (Vr O U ?_);have fin:wpAny (model prog w) A (Xe slice false o i) (λr H=>wpAny (model prog w) A (letTemporaryGo value o r >>= λ_=>pure r) Q E H) E z:=by
  rw[hs o i];exact wpAny_operating (VQ B (λr H M=>UM (wpAny_letTemporaryGo (US M))) λ_ _ x=>x)
 first
  |exact US (UM fin)
  |exact UM (US (UM fin))
  |exact UM fin
theorem tQ{X:Cx}{pins:List (UR×VE)}{σ:St}{H:Hp}{s:UW}{a:UR}{y:V}{o:Option V}(I:Inv X pins σ H s)(g:oC H a y o):s.TypeIs (.ref a) "dict":=by
 rcases g with⟨kvs,k,e,_,_⟩|⟨kvs,k,b,e,_,_,_⟩
 .obtain⟨_,_,vs,_,dd⟩:=xf I.ba e;exact dd.typeIs
 obtain⟨_,_,xs,_,dd⟩:=xg I.ba e;exact dd.typeIs
def Jr(B ty:TE):TE:=λσ H Q=>B σ H λx D=>ty σ D λy z=>∃a v,x=.ref a/\oC z a y (Yl v)/\Q v z
def Js(B ty E:TE):TS:=λD σ H=>E σ H λv J=>B σ J λx M=>ty σ M λy O=>∃a z,x=.ref a/\pM O a y v z/\D.nx σ z
section
variable {X:Cx}{o i e value:Vc}{pos pos' ME:V6}{td ty tv:TE}
theorem km(D:X.A.units+1<cLine)(E:PE X o td)(hi:PE X i ty)(hs:AA i):PE X (.Subscript o i pos) (Jr td ty):=by
 intro pins s σ H Q I h;refine rE RL.lookup hs (bI (E pins s σ H _ I h) λu J ⟨x,M,O,U,V⟩=>bI (hi pins J σ M _ O V) λiv s2 Z=>?_);obtain⟨y,H2,B,ry,a,v,ex,g,q2⟩:=Z;subst ex;obtain rfl:u=Value.ref a:=U;exact⟨tQ B g,yQ D B g ry λw' s3 I3 z=>⟨v,H2,I3,z,q2⟩⟩
theorem nK(z:X.A.units+1<cLine)(B:PE X o td)(hi:PE X i ty)(E:PE X value tv)(hs:WU value (Yl (.Subscript o i pos')) pos.line X.env=pure false) :
  PS X (.Assign [.Subscript o i pos'] value pos) (Js td ty tv):=by
 intro pins s σ H D I h;refine W2 (bI (E pins s σ H _ I h) λr J ⟨v,M,O,U,V⟩=>bI (B pins J σ M _ O V) λu Z ⟨x,H2,I2,rx,q2⟩=>bI (hi pins Z σ H2 _ I2 q2) λiv s3 zq=>?_) hs;obtain⟨y,H3,I3,ry,a,H4,ex,g,q3⟩:=zq;subst ex;obtain rfl:u=Value.ref a:=rx;exact yR z I3 g ry U λs4 I4=>⟨σ,H4,I4,q3⟩
end
theorem AB{P:U3}{w:U4}{H:Hp}(h:Vd)(z:Vm<h.objs.size):bh P w H (h.push { cls:=.type "dict",data:=.dict #[] }) h.objs.size (.dK []):=
 ⟨PQ _,beq_eq_false_iff_ne.mpr (Ne.symm (PR z)),[],.nil,Heap.DictOf.new h⟩
theorem AD{P:U3}{w:U4}{H:Hp}(h:Vd)(z:Vm<h.objs.size):bh P w H (h.push { cls:=.type "dict",data:=.dict #[] }) h.objs.size (.dT []):=
 ⟨PQ _,beq_eq_false_iff_ne.mpr (Ne.symm (PR z)),[],.nil,_,#[],0,Pn _ rfl,⟨rfl,rfl,rfl⟩,rfl,rfl,QJ⟩
def Gx:TE:=λ_ H Q=>∀p,H p=none->Q (.ref p) (upd H p (.dK []))
def Gy:TE:=λ_ H Q=>∀p,H p=none->Q (.ref p) (upd H p (.dT []))
section
variable {X:Cx}{pos:V6}
theorem iA:PE X (.Dict [] [] pos) Gx:=λpins s σ H Q I h =>
 WV ⟨.ref s.heap.objs.size,_,I.laid (a:=s.heap.objs.size) (o:=.dK []) (t':=s.toks) (λ_ _ q=>O8 _ q) (O5 _) (AB s.heap I.big),rfl,h _ (I.ba.fresh (O5 _))⟩
theorem AE:PE X (.Dict [] [] pos) Gy:=λpins s σ H Q I h =>
 WV ⟨.ref s.heap.objs.size,_,I.laid (a:=s.heap.objs.size) (o:=.dT []) (t':=s.toks) (λ_ _ q=>O8 _ q) (O5 _) (AD s.heap I.big),rfl,h _ (I.ba.fresh (O5 _))⟩
end
structure M2(X:Cx) (o:Vc) (m:Vg) (apos:V6) (e f:Vc) (iw:V6):Prop where
 base:VY o m X.env (eval o X.env)=eval o X.env
 OX:((backTo iw (U6 [e,f] X.env)).all (λx=>!x.1)&&(X3 iw (Xf [] X.env)).all (λx=>x.1.isSome)
  && decide (([e,f]:List Vc).length+([]:List W3).length+(if([]:List W3).isEmpty then 0 else 1)<30))=true
 line:(apos.endLine==iw.line)=true
 trees:backTo iw (U6 [e,f] X.env)=[(false,eval e X.env),(false,eval f X.env)]
def MF(H:Hp)(a:UR):Prop:=(∃kvs,Rd H a (.dK kvs))\/∃kvs,Rd H a (.dT kvs)
theorem AF{X:Cx}{pins:List (UR×VE)}{σ:St}{H:Hp}{s:UW}{a:UR}(I:Inv X pins σ H s)(d:MF H a) :
  s.TypeIs (.ref a) "dict"/\(∀b,Value.ref a=.ref b->∃z,s.heap.get? b=Yl z/\z.dict=none)/\(a==Vm)=false:=by
 rcases d with⟨kvs,e⟩|⟨kvs,e⟩
 .obtain⟨_,hd,vs,_,dd⟩:=xf I.ba e;refine⟨dd.typeIs,λb q=>?_,hd⟩;cases q;obtain⟨z,_,_,B,D,_⟩:=dd;exact⟨z,B,D.2.1⟩
 obtain⟨_,hd,xs,_,dd⟩:=xg I.ba e;refine⟨dd.typeIs,λb q=>?_,hd⟩;cases q;obtain⟨z,_,_,B,D,_⟩:=dd;exact⟨z,B,D.2.1⟩
end L2
namespace HT
open PySem PyProof.Rows
section
variable {prog:U3}{w:U4}{A:Ve}{E:UP->UW->Prop}{s:UW}
theorem Dy{t b:UR}{vs z:List UP}{Q:UP->UW->Prop}(ht:XO s.heap t vs.toArray)(hb:XO s.heap b z.toArray)(O:vs≠[])
  (h1:z=[]->Q (.ref t) s) (h2:z≠[]->Q (.ref s.heap.objs.size) { s with heap:=s.heap.push { cls:=.type "tuple",data:=.seq (vs++z).toArray } })
  (hsz:vs.length+z.length<=U2):wpAny (model prog w) A (VV .Add (.ref t) (.ref b)) Q E s:=by
 obtain⟨⟨cls,dd,data,U⟩,M,V,n,hd⟩:=id ht;obtain⟨⟨Z,D,data2,H⟩,B,J,n2,hd2⟩:=id hb;simp only at V hd J hd2;subst V hd J hd2;have e:vs.toArray++z.toArray=(vs++z).toArray:=by simp
 by_cases hw:z=[]
 .exact W4 ⟨_,M,rfl⟩ ⟨_,B,rfl⟩ Wf WM Rv Rq (Rl _ _)
   (tuple_addW1 t b vs.toArray z.toArray n n2 dd D U H (by simpa using O) (by simp[hw])) ⟨M,B,h1 hw⟩
 refine W4 ⟨_,M,rfl⟩ ⟨_,B,rfl⟩ Wf WM Rv Rq (Rl _ _)
  (tuple_addW2 t b vs.toArray z.toArray n n2 dd D U H (by simpa using O) (by simpa using hw) (by rw[Pe,Pe];exact hsz)) ⟨M,B,?_⟩
 rw[e];exact h2 hw
noncomputable def cI(n d:Nat):Option Int->Nat
 |none=>d
 |some v=>if v<0 then(v+(n:Int)).toNat else min v.toNat n
theorem Gz(n d:Nat)(hd:d<=n)(o:Option Int):cI n d o<=n:=by
 cases o with
 |none=>exact hd
 |some v =>
  show(if v<0 then(v+(n:Int)).toNat else min v.toNat n)<=n;by_cases z:v<0
  .rw[UQ z];omega
  rw[UO z];exact Nat.min_le_right _ _
theorem xh(v:Int)(n d:Nat):(if v<0 then max (v+(n:Int)) 0 else min v (n:Int))=((cI n d (Yl v):Nat):Int):=by
 show(if v<0 then max (v+(n:Int)) 0 else min v (n:Int))=(((if v<0 then(v+(n:Int)).toNat else min v.toNat n):Nat):Int)
 by_cases z:v<0
 .simp only[UQ z];omega
 simp only[UO z];omega
theorem vD(lo hi:Option Int)(n:Nat):Builtin.Slice.sliceAdjust lo hi 1 (n:Int)=(((cI n 0 lo:Nat):Int),((cI n n hi:Nat):Int)):=by
 have z:¬((1:Int)<0):=by omega
 unfold Builtin.Slice.sliceAdjust;simp only[z,Vq];refine Ur ?_ ?_
 .cases lo with
  |none=>rfl
  |some v=>exact xh v n 0
 cases hi with
 |none=>rfl
 |some v=>exact xh v n n
theorem vE(i j:Nat):Builtin.Slice.slicePlaces (i:Int) (j:Int) 1=j-i:=by
 unfold Builtin.Slice.slicePlaces;have z:(1:Int)>0:=by omega
 simp only[z,Wm,Int.ediv_one]
 split <;> omega
theorem oD{v:UP}{o:Option Int}{Q:Option Int->UW->Prop}(p:W5 v o)(h:Q o s):wpAny (model prog w) A (Builtin.Slice.slicePartIndex v) Q E s:=by
 cases p with
 |none=>exact slicePart_none h
 |int i t=>exact slicePart_int h
theorem gE{J:UR}{D H:UP}{lo hi:Option Int}{n:Nat}{Q:Int×Int×Nat->UW->Prop}(hs:s.heap.IsSliceOf J D H .none)(M:W5 D lo)(O:W5 H hi)
  (h:Q (((cI n 0 lo:Nat):Int),1,cI n n hi-cI n 0 lo) s):wpAny (model prog w) A (Builtin.Slice.sliceApplied (.ref J) (pure (n:Int))) Q E s:=by
 obtain⟨os,z,U,B⟩:=id hs;unfold Builtin.Slice.sliceApplied Builtin.Slice.sliceFields;refine UM (UM (Vf z B (x:=D) rfl (UM (Vf z B (x:=H) rfl (UM (Vf z B (x:=.none) rfl (US ?_)))))));refine UM (slicePart_none ?_);show wpAny _ _ (if((1:Int)==0)=true then _ else _) _ _ s;rw[UO (by decide)];refine UM (oD M (UM (oD O (UM (US ?_)))));show wpAny _ _ (match Builtin.Slice.sliceAdjust lo hi 1 (n:Int)with|(lo,hi)=>pure (lo,(1:Int),Builtin.Slice.slicePlaces lo hi 1)) _ _ s;rw[vD lo hi n];show wpAny _ _ (pure (((cI n 0 lo:Nat):Int),(1:Int),Builtin.Slice.slicePlaces ((cI n 0 lo:Nat):Int) ((cI n n hi:Nat):Int) 1)) _ _ s;rw[vE];exact US h
theorem AG(xs:Array UP)(i k:Nat):((Pu k).filterMap λ(m:Nat)=>xs[((i:Int)+(m:Int)*1).toNat]?).toArray=((xs.toList.drop i).take k).toArray:=by
 have e:(λ(m:Nat)=>xs[((i:Int)+(m:Int)*1).toNat]?)=λm=>xs[i+m]?:=by
  funext m;have:((i:Int)+(m:Int)*1).toNat=i+m:=by omega
  rw[this]
 rw[e];have:=pick_run xs i k;rw[List.filterMap_map]at this;have e2:((λx=>xs[x]?) ∘ λx=>i+x)=λm=>xs[i+m]?:=rfl;rw[e2]at this;rw[this]
theorem ko{t D:UR}{items:Array UP}{U V:UP}{lo hi:Option Int}{Q:UP->UW->Prop}(B:XO s.heap t items)(hs:s.heap.IsSliceOf D U V .none)(Z:W5 U lo)(pu:W5 V hi)
  (hw:¬(cI items.size 0 lo=0/\cI items.size items.size hi=items.size))
  (h:Q (.ref s.heap.objs.size) { s with heap:=s.heap.push { cls:=.type "tuple",data:=.seq ((items.toList.drop (cI items.size 0 lo)).take (cI items.size items.size hi-cI items.size 0 lo)).toArray } })
  (hsz:items.size<=U2):wpAny (model prog w) A (Wk (.ref t) (.ref D)) Q E s:=by
 have z:sizeOk (.seq ((items.toList.drop (cI items.size 0 lo)).take (cI items.size items.size hi-cI items.size 0 lo)).toArray):=by
  show((items.toList.drop (cI items.size 0 lo)).take (cI items.size items.size hi-cI items.size 0 lo)).toArray.size<=U2;rw[Pe,Pz,PU,QU];omega
 have hj:cI items.size items.size hi<=items.size:=Gz _ _ (O5 _) hi;obtain⟨os,H,J,hds⟩:=id hs;have M:s.TypeIs (.ref D) "slice":=⟨os,H,J⟩
 unfold Wk
 try with_reducible refine Vk ?_
 first|refine UM (US ?_)|skip
 refine UM (XA B.typeIs (by decide) ?_);refine UM (wpAny_callSpecial?_slot (name:=Str.ofString "__getitem__") B.typeIs Qh
  (U8 Qh B.typeIs entry_tuple_getitem ?_ (Xv _ _)))
 show wpAny _ _ (Builtin.Tuple.tupleItemsOf (.ref t) >>= _) _ _ s;refine UM (tupleItemsOf_ B ?_);refine UM (W6 M ?_);rw[UQ (by decide)];refine UM (gE hs Z pu ?_);have O:¬((((cI items.size 0 lo:Nat):Int)==0&&(1:Int)==1&&(cI items.size items.size hi-cI items.size 0 lo)==items.size)=true):=by
  intro q;rw[Qn,Qn]at q;have q1:((cI items.size 0 lo:Nat):Int)=0:=eq_of_beq q.1.1;have q2:cI items.size items.size hi-cI items.size 0 lo=items.size:=eq_of_beq q.2;exact hw ⟨by omega,by omega⟩
 show wpAny _ _ (if(((cI items.size 0 lo:Nat):Int)==0&&(1:Int)==1&&(cI items.size items.size hi-cI items.size 0 lo)==items.size)=true then _ else _) _ _ s;rw[UO O,AG]
 first
  |exact UM (m:=Builtin.Tuple.tupleExact _) (U9 (US ⟨_,rfl,US h⟩) z)
  |exact UM (m:=Builtin.Tuple.tupleExact _) (U9 (UM (US (US ⟨_,rfl,US h⟩))) z)
  |exact UM (UM (m:=Builtin.Tuple.tupleExact _) (U9 (US (US ⟨_,rfl,US h⟩)) z))
  |exact UM (UM (m:=Builtin.Tuple.tupleExact _) (U9 (US ⟨_,rfl,US h⟩) z))
end
end HT
namespace L2
open PySem PySem.Spec PyProof.Rows
noncomputable abbrev TO:=St->Hp->(Option Int->Hp->Prop)->Prop
def PO(X:Cx)(e:Option Vc)(t:TO):Prop :=
 ∀(pins:List (UR×VE)) (s:UW) (σ:St) (H:Hp) (Q:Option Int->Hp->Prop),Inv X pins σ H s->t σ H Q ->
  wpAny (model X.prog X.w) X.A (evalPart e X.env) (λu s'=>∃o z,Inv X pins σ z s'/\W5 u o/\Q o z) X.xe s
noncomputable def Dz:TO:=λ_ H Q=>Q none H
noncomputable def Jt(t:TE):TO:=λσ H Q=>t σ H λx z=>∃i,x=.int i/\Q (Yl i) z
section
variable {X:Cx}{e:Vc}{te:TE}{lo hi:Option Vc}{tl th:TO}{pos p2:V6}
theorem fo:PO X none Dz:=by
 intro pins s σ H Q I h;rw[evalPart_none];exact US ⟨none,H,I,.none,h⟩
theorem dO(h:PE X e te):PO X (Yl e) (Jt te):=by
 intro pins s σ H Q I hw;rw[evalPart_some];refine bI (h pins s σ H _ I hw) λu M z=>?_;obtain⟨x,B,D,E,J⟩:=z;obtain⟨i,rfl,q⟩:=J;obtain⟨t,rfl⟩:=E;exact⟨Yl i,B,D,.int i t,q⟩
def Lu(X:Cx)(r:V->Option Int->Option Int->Hp->VK->Prop):Prop :=
 ∀(pins:List (UR×VE)) (s:UW) (σ:St) (H:Hp) (x:V) (v z B:UP) (lo hi:Option Int) (D:UR) (Q:VK),Inv X pins σ H s->RelV x v->s.heap.IsSliceOf D z B .none->W5 z lo->W5 B hi->r x lo hi H Q ->
  ∃T id,WZ (.type T) "__getitem__" = pure (Yl (.builtin id))/\s.TypeIs v T/\wpAny (model X.prog X.w) X.A (Wk v (.ref D)) (EP X pins σ Q) X.xe s
def tSl(r:V->Option Int->Option Int->Hp->VK->Prop)(te:TE)(tl th:TO):TE:=λσ H Q=>te σ H λx z=>tl σ z λl B=>th σ B λu D=>r x l u D Q
theorem dg{r:V->Option Int->Option Int->Hp->VK->Prop}(M:Lu X r)(O:PE X e te)(U:PO X lo tl)(Z:PO X hi th):PE X (.Subscript e (.Slice lo hi none p2) pos) (tSl r te tl th):=by
 intro pins s σ H Q I h;refine X2 (bI (O pins s σ H _ I h) λv s1 E=>?_);obtain⟨x,H1,I1,r1,q1⟩:=E;refine wpAny_Slice (bI (U pins s1 σ H1 _ I1 q1) λB s2 ⟨l,H2,I2,pl,q2⟩=>bI (Z pins s2 σ H2 _ I2 q2) λD z E=>?_);obtain⟨u,J,I3,pu,q3⟩:=E;rw[evalPart_none];refine US ?_;have I4:Inv X pins σ J { z with heap:=z.heap.push { cls:=.type "slice",data:=.fields #[B,D,.none] } }:=I3.kept (t':=z.toks) λb ob q=>O8 _ q;obtain⟨T,id,hT,ht,hg⟩:=M pins { z with heap:=z.heap.push { cls:=.type "slice",data:=.fields #[B,D,.none] } } σ J x v B D l u z.heap.objs.size Q I4 r1 (Heap.IsSliceOf.new ..) pl pu q3;show wpAny (model X.prog X.w) X.A (Xs e (.Slice lo hi none p2) v (.ref z.heap.objs.size)) (EP X pins σ Q) X.xe { z with heap:=z.heap.push { cls:=.type "slice",data:=.fields #[B,D,.none] } };exact tail_any (ops:=[.ref z.heap.objs.size,v]) ht hT hg (by with_unfolding_all rfl)
noncomputable def fX(xs:List V)(lo hi:Option Int):List V:=(xs.drop (HT.cI xs.length 0 lo)).take (HT.cI xs.length xs.length hi-HT.cI xs.length 0 lo)
theorem mL(xs:List V)(lo hi:Option Int):(fX xs lo hi).length<=xs.length:=by
 unfold fX;rw[Pz,PU];omega
def MG(K:Pa):V->Option Int->Option Int->Hp->VK->Prop:=λx lo hi H Q=>∃a xs,x=.ref a/\bZ K H a xs /\
 ¬(HT.cI xs.length 0 lo=0/\HT.cI xs.length xs.length hi=xs.length)/\∀p,H p=none->Q (.ref p) (upd H p (.tup (fX xs lo hi)))
theorem GA:Lu X (MG X.K):=by
 intro pins s σ H x v M O lo hi U Q I B hs D E h;obtain⟨a,xs,rfl,J,hw,q⟩:=h;cases B;obtain⟨its,r,z,hz⟩:=I.tuple J;have hlen:its.toArray.size=xs.length:=by rw[Pe];exact r.length.symm
 refine⟨"tuple",_,Qh.lookup,z.typeIs,?_⟩;refine HT.ko z hs D E (by rw[hlen];exact hw) ?_ (by rw[hlen];exact hz);rw[hlen];refine⟨.ref s.heap.objs.size,_,I.laid (t':=s.toks) (o:=.tup (fX xs lo hi)) (λb V q=>O8 _ q) (O5 _) ?_,rfl,q _ (I.ba.fresh (O5 _))⟩;exact⟨PH (mL xs lo hi) hz,_,(r.drop (HT.cI xs.length 0 lo)).take (HT.cI xs.length xs.length hi-HT.cI xs.length 0 lo),IsTup.new _ _⟩
def Ju(K:Pa):R2:=λx y H Q=>∃a b xs ys,x=.ref a/\y=.ref b/\bZ K H a xs/\bZ K H b ys/\xs≠[]/\xs.length+ys.length<=U2 /\
 (ys=[]->Q (.ref a) H)/\(ys≠[]->∀p,H p=none->Q (.ref p) (upd H p (.tup (xs++ys))))
theorem Vals.kq{xs:List V}{z:List UP}(r:Vals xs z):z=[]↔xs=[]:=by
 cases r with
 |nil=>simp
 |cons _ _=>simp
theorem xi:jF X (VV .Add) (Ju X.K):=by
 intro pins s σ H x y v u Q I J M h;obtain⟨a,b,xs,ys,rfl,rfl,O,U,V,hz,Z,q2⟩:=h;cases J;cases M;obtain⟨its,D,p1,_⟩:=I.tuple O;obtain⟨E,B,p2,_⟩:=I.tuple U;refine HT.Dy p1 p2 (λz=>V (D.kq.mp z)) (λz=>⟨.ref a,H,I,rfl,Z (B.kq.mp z)⟩) (λz=>?_) (by rw[<-D.length,<-B.length];exact hz);refine⟨.ref s.heap.objs.size,_,I.laid (t':=s.toks) (o:=.tup (xs++ys)) (λb ob q=>O8 _ q) (O5 _) ?_,rfl,q2 (λw=>z (B.kq.mpr w)) _ (I.ba.fresh (O5 _))⟩;exact⟨by rw[O7];exact hz,_,D.append B,IsTup.new _ _⟩
end
noncomputable def Dh(n:Nat)(i:Int):Option Nat:=if 0<=i then(if i<n then some i.toNat else none)else if -(n:Int)<=i then some (i+n).toNat else none
noncomputable def vn{α:Type}(xs:List α)(i:Int):Option α:=(Dh xs.length i).bind λj=>xs[j]?
theorem xj{n:Nat}{i:Int}{j:Nat}(h:Dh n i=Yl j):seqIndex? i n=Yl j/\j<n/\-(n:Int)<=i/\i<n:=by
 unfold Dh at h;by_cases B:0<=i
 .rw[UQ B]at h;by_cases z:i<n
  .rw[UQ z]at h;have e:i.toNat=j:=Option.some.inj h;exact⟨by rw[XQ B z,e],by omega,by omega,z⟩
  rw[UO z]at h;cases h
 rw[UO B]at h;by_cases z:-(n:Int)<=i
 .rw[UQ z]at h;have e:(i+n).toNat=j:=Option.some.inj h;exact⟨by rw[XB (by omega) z,e],by omega,z,by omega⟩
 rw[UO z]at h;cases h
theorem xl{α:Type}{xs:List α}{i:Int}{v:α}(h:vn xs i=Yl v):∃j,seqIndex? i xs.length=Yl j/\xs[j]?=Yl v/\j<xs.length/\-(xs.length:Int)<=i/\i<xs.length:=by
 unfold vn at h;cases e:Dh xs.length i with
 |none=>rw[e]at h;cases h
 |some j =>
  rw[e]at h;obtain⟨z,B,D,E⟩:=xj e;exact⟨j,z,h,B,D,E⟩
theorem bB{α:Type}{xs:List α}{j:Nat}{v:α}(h:xs[j]?=Yl v):vn xs (j:Int)=Yl v:=by
 have z:j<xs.length:=(O1.mp h).1;have e:Dh xs.length (j:Int)=Yl j:=by
  unfold Dh;rw[UQ (by omega),UQ (by omega)];simp
 unfold vn;rw[e];exact h
theorem AH{α:Type}(xs:List α)(v:α):vn (xs++[v]) (-1)=Yl v:=by
 have z:(xs++[v]).length=xs.length+1:=by simp
 have e:Dh (xs++[v]).length (-1)=Yl xs.length:=by
  unfold Dh;rw[z,UO (by decide),UQ (by omega)];congr 1;omega
 unfold vn;rw[e];show(xs++[v])[xs.length]?=Yl v;simp
def DA(b:Vc):Prop:=∀o i,Xe b false o i=operate [o,i] (Wk o i)
def Jv(X:Cx)(r:R2):Prop :=
 ∀(value slice:Vc) (pins:List (UR×VE)) (s:UW) (σ:St) (H:Hp) (x y:V) (v u:UP) (Q:VK),Inv X pins σ H s->RelV x v->RelV y u->r x y H Q ->
  Xe slice false v u=operate [v,u] (Wk v u)->wpAny (model X.prog X.w) X.A (Xs value slice v u) (EP X pins σ Q) X.xe s
def OY(X:Cx)(id:String)(r:V->List V->Hp->VK->Prop):Prop :=
 ∀(pins:List (UR×VE)) (s:UW) (σ:St) (H:Hp) (x:V) (xs:List V) (v:UP) (z:List UP) (Q:VK),Inv X pins σ H s->RelV x v->Vals xs z->r x xs H Q ->
  wpAny (model X.prog X.w) X.A (call (.builtin id) (v::z)) (EP X pins σ Q) X.xe s
section
variable {X:Cx}{a b:Vc}{ta tb:TE}{pos:V6}
theorem b0{r:R2}(z:Jv X r)(B:PE X a ta)(D:PE X b tb)(hs:DA b):PE X (.Subscript a b pos) (Lp r ta tb):=by
 intro pins s σ H Q I h;exact X2 (Gp B D I h λv u E x y J M O U q=>z a b pins E σ J x y v u Q M O U q (hs _ _))
def Jw(K:Pa):R2:=λx y H Q=>∃p xs i v,x=.ref p/\y=.int i/\bc K H p xs/\vn xs i=Yl v/\Q v H
def Jx(K:Pa):R2:=λx y H Q=>∃p xs i v,x=.ref p/\y=.int i/\bZ K H p xs/\vn xs i=Yl v/\Q v H
theorem dP:Jv X (Jw X.K):=by
 intro value slice pins s σ H x y v u Q I U V h hs;obtain⟨p,xs,i,z,rfl,rfl,Z,he,q⟩:=h;cases U;obtain⟨t,rfl⟩:=V;obtain⟨its,r,D,hz⟩:=I.list Z;obtain⟨j,B,h2,h3,h4,h5⟩:=xl he;obtain⟨w,M,E⟩:=r.get h2;have hl:=r.length;have hn:=rD;have fin:EP X pins σ Q w s:=⟨z,H,I,E,q⟩
 by_cases O:0<=i
 .have J:i.toNat=j:=by
   rw[XQ O h5]at B;exact Option.some.inj B
  exact item_listR D.isList O (by omega) (by rw[J];simpa using M) fin hs
 have J:(i+(its.toArray.size:Int)).toNat=j:=by
  rw[XB (by omega) h4]at B;rw[Pe,<-hl];exact Option.some.inj B
 exact W7 (x:=w) D.isList.typeIs slot_list_getitem.lookup
  (wpAny_getItem_list_neg (Q:=λr s'=>r=w/\EP X pins σ Q r s') D.isList (by omega) (by rw[Pe] <;> omega) (by omega) (by rw[J];simpa using M) ⟨rfl,fin⟩) hs
theorem jQ:Jv X (Jx X.K):=by
 intro value slice pins s σ H x y v u Q I E J h hs;obtain⟨p,xs,i,z,rfl,rfl,M,O,q⟩:=h;cases E;obtain⟨t,rfl⟩:=J;obtain⟨its,r,D,hz⟩:=I.tuple M;obtain⟨j,U,V,h3,h4,h5⟩:=xl O;obtain⟨w,Z,B⟩:=r.get V;have hl:=r.length;have hn:=rD;have fin:EP X pins σ Q w s:=⟨z,H,I,B,q⟩
 exact W7 (x:=w) D.typeIs slot_tuple_getitem.lookup
  (getItem_tuple (j:=j) (Q:=λr s'=>r=w/\EP X pins σ Q r s') D (by omega) (by omega) (by rw[Pe,<-hl];exact U) (by simpa using Z) ⟨rfl,fin⟩) hs
theorem vF(its:List UP)(n j:Nat)(u:UP):Obj.mapSeq (·.setIfInBounds j u) { cls:=.type "list",data:=.seq its.toArray n }={ cls:=.type "list",data:=.seq (its.set j u).toArray n }:=by
 simp[Obj.mapSeq]
theorem Inv.lst{pins:List (UR×VE)}{σ:St}{H:Hp}{s:UW}{p:UR}{xs:List V}(I:Inv X pins σ H s)(h:H p=Yl (.lst xs)) :
  ∃(its:List UP) (n:Nat),Vals xs its/\s.heap.get? p=Yl { cls:=.type "list",data:=.seq its.toArray n }/\xs.length<=sizeLine:=by
 obtain⟨z,its,n,r,e⟩:=I.ba p _ h;exact⟨its,n,r,e,z⟩
theorem Inv.GB{pins:List (UR×VE)}{σ:St}{H:Hp}{s:UW}{p:UR}{xs ys:List V}{its its':List UP}{n z:Nat}{f:VE->VE}(I:Inv X pins σ H s)(h:H p=Yl (.lst xs))
  (D:s.heap.get? p=Yl { cls:=.type "list",data:=.seq its.toArray n }) (B:f { cls:=.type "list",data:=.seq its.toArray n }={ cls:=.type "list",data:=.seq its'.toArray z }) (r:Vals ys its') (hz:ys.length<=U2) (t:Nat) :
  Inv X pins σ (upd H p (.lst ys)) { s with heap:=s.heap.update p f,toks:=t }:=by
 have e:(s.heap.update p f).get? p=Yl { cls:=.type "list",data:=.seq its'.toArray z }:=by
  rw[QC f D (by rw[B] <;> rfl),B]
 refine I.write (x:=p) (e:=p) (by rw[h];trivial) (.inl rfl) (λb u E q=>(Ra _ _ (Ne.symm E)).trans q) ⟨_,e⟩ ?_;exact⟨hz,its',z,r,e⟩
def Jy:V->V->V->Hp->(Hp->Prop)->Prop:=λo i v H Q=>∃p xs k j,o=.ref p/\i=.int k/\H p=Yl (.lst xs)/\Dh xs.length k=Yl j/\Q (upd H p (.lst (xs.set j v)))
theorem set_list:Jf X Jy:=by
 intro pins s σ H o i v ov iv u Q I Z ri rv h;obtain⟨p,xs,k,j,rfl,rfl,J,hj,q⟩:=h;cases Z;obtain⟨t,rfl⟩:=ri;obtain⟨its,n,r,B,hz⟩:=I.lst J;obtain⟨z,h2,M,O⟩:=xj hj;have D:=r.length;have hn:=rD;have U:Inv X pins σ (upd H p (.lst (xs.set j v))) { s with heap:=s.heap.update p (Obj.mapSeq (·.setIfInBounds j u)) }:=
  I.GB J B (vF its n j u) (r.set rv j) (by rw[Ut];exact hz) s.toks
 by_cases V:0<=k
 .have E:k.toNat=j:=by
   rw[XQ V O]at z;exact Option.some.inj z
  exact PySem.W.ki_setAt B V (by omega) (by rw[Pe,<-D];exact O) (by rw[E];exact⟨_,U,q⟩)
 have E:(k+(its.toArray.size:Int)).toNat=j:=by
  rw[XB (by omega) M]at z;rw[Pe,<-D];exact Option.some.inj z
 exact PySem.W.ki_setBack B (by omega) (by rw[Pe,<-D];exact M) (by omega) (by rw[E];exact⟨_,U,q⟩)
theorem rG(lo hi:Option Int)(n:Nat):(V4 lo hi none n).1=((HT.cI n 0 lo:Nat):Int)/\(V4 lo hi none n).2.1=((HT.cI n n hi:Nat):Int)/\(V4 lo hi none n).2.2=1:=by
 refine⟨?_,?_,rfl⟩
 .cases lo with
  |none=>simp[V4,HT.cI]
  |some i =>
   simp only[V4,HT.cI,Ug,show(1:Int)>0 by decide,Wm];by_cases h:i<0
   .simp only[h,Wm] <;> omega
   simp only[h,Vq] <;> omega
 cases hi with
 |none=>simp[V4,HT.cI]
 |some i =>
  simp only[V4,HT.cI,Ug,show(1:Int)>0 by decide,Wm];by_cases h:i<0
  .simp only[h,Wm] <;> omega
  simp only[h,Vq] <;> omega
theorem pO(its:List UP)(lo hi:Option Int):slicePick its.toArray lo hi none=((its.drop (HT.cI its.length 0 lo)).take (HT.cI its.length its.length hi-HT.cI its.length 0 lo)).toArray:=by
 obtain⟨z,B,D⟩:=rG lo hi its.toArray.size;unfold slicePick;rw[z,B,D];simp only[sliceRange_one,pick_run,Pe] <;> rfl
def MH(K:Pa):V->Option Int->Option Int->Hp->VK->Prop:=λx lo hi H Q=>∃a xs,x=.ref a/\bc K H a xs/\∀p,H p=none->Q (.ref p) (upd H p (.lst (fX xs lo hi)))
theorem g7:Lu X (MH X.K):=by
 intro pins s σ H x v M O lo hi U Q I B hs D E h;obtain⟨a,xs,rfl,J,q⟩:=h;cases B;obtain⟨its,r,z,hz⟩:=I.list J;have hlen:=r.length;refine⟨"list",_,slot_list_getitem.lookup,z.isList.typeIs,?_⟩;refine wpAny_getItem_list_slice z.isList hs D E .none (by simp) ?_ (by rw[Pe] <;> omega);rw[pO,<- hlen];refine⟨.ref s.heap.objs.size,_,I.laid (t':=s.toks) (o:=.lst (fX xs lo hi)) (λb V q=>O8 _ q) (O5 _) ?_,rfl,q _ (I.ba.fresh (O5 _))⟩;exact⟨PH (mL xs lo hi) hz,_,0,(r.drop (HT.cI xs.length 0 lo)).take (HT.cI xs.length xs.length hi-HT.cI xs.length 0 lo),Pn _ rfl⟩
noncomputable def ku:V->Bool
 |.eE=>true
 |.bl _=>true
 |.int _=>true
 |.str _=>true
 |_=>false
noncomputable def Fh:V->V->Bool
 |.eE,.eE=>true
 |.bl a,.bl b=>a==b
 |.bl a,.int b=>(if a then 1 else 0)==b
 |.int a,.bl b=>a==(if b then 1 else 0)
 |.int a,.int b=>a==b
 |.str a,.str b=>a==b
 |_,_=>false
theorem GC{A:Ve}{s:UW}{y x:V}{u v:UP}(B:RelV y u)(z:RelV x v)(E:ku y=true)(D:ku x=true):SeqAt.EqAt A s u v (Fh y x):=by
 cases y with
 |eE =>
  cases B;cases x with
  |eE=>cases z;exact SeqAt.EqAt.same _
  |bl b=>cases z;exact SeqAt.EqAt.none_bool b
  |int b=>obtain⟨t,rfl⟩:=z;exact SeqAt.EqAt.none_int b t
  |str b=>obtain⟨t,rfl⟩:=z;exact SeqAt.EqAt.none_str b t
  |_=>exact UU (show false=true from D) Po
 |bl a =>
  cases B;cases x with
  |eE=>cases z;exact SeqAt.EqAt.bool_none a
  |bl b=>cases z;exact SeqAt.EqAt.bool_bool a b
  |int b=>obtain⟨t,rfl⟩:=z;exact SeqAt.EqAt.bool_int a b t
  |str b=>obtain⟨t,rfl⟩:=z;exact SeqAt.EqAt.bool_str a b t
  |_=>exact UU (show false=true from D) Po
 |int a =>
  obtain⟨t',rfl⟩:=B;cases x with
  |eE=>cases z;exact SeqAt.EqAt.int_none a t'
  |bl b=>cases z;exact SeqAt.EqAt.int_bool a t' b
  |int b=>obtain⟨t,rfl⟩:=z;exact SeqAt.EqAt.int_int a t' b t
  |str b=>obtain⟨t,rfl⟩:=z;exact SeqAt.EqAt.int_str a t' b t
  |_=>exact UU (show false=true from D) Po
 |str a =>
  obtain⟨t',rfl⟩:=B;cases x with
  |eE=>cases z;exact SeqAt.EqAt.str_none a t'
  |bl b=>cases z;exact SeqAt.EqAt.str_bool a t' b
  |int b=>obtain⟨t,rfl⟩:=z;exact SeqAt.EqAt.str_int a t' b t
  |str b=>obtain⟨t,rfl⟩:=z;exact SeqAt.EqAt.str_str a t' b t
  |_=>exact UU (show false=true from D) Po
 |_=>exact UU (show false=true from E) Po
noncomputable def DB(x:V)(u:UP):Bool:=match u with
 |.none=>Fh .eE x
 |.bool b=>Fh (.bl b) x
 |.int i _=>Fh (.int i) x
 |.str z _=>Fh (.str z) x
 |_=>false
theorem AI{x y:V}{u:UP}(r:RelV y u)(f:ku y=true):DB x u=Fh y x:=by
 cases y with
 |eE=>cases r;rfl
 |bl b=>cases r;rfl
 |int i=>obtain⟨t,rfl⟩:=r;rfl
 |str z=>obtain⟨t,rfl⟩:=r;rfl
 |_=>exact UU (show false=true from f) Po
theorem rH{x:V}:∀{xs:List V}{z:List UP},Vals xs z->xs.all ku=true->z.any (DB x)=xs.any λy=>Fh y x
 |_,_,.nil,_=>rfl
 |y::xs,u::z,.cons r t,f=>by
  rw[UD,Qn]at f;rw[RR,RR,AI r f.1,rH t f.2]
theorem oE{A:Ve}{s:UW}{x:V}{v:UP}(D:RelV x v)(E:ku x=true):∀{xs:List V}{B:List UP},Vals xs B->xs.all ku=true->∀u∈B,SeqAt.EqAt A s u v (DB x u)
 |_,_,.nil,_=>λu z=>by cases z
 |y::xs,u::B,.cons r t,f=>λH z=>by
  rw[UD,Qn]at f;rcases Pq.mp z with rfl|z
  .rw[AI r f.1];exact GC r D f.1 E
  exact oE D E t f.2 H z
noncomputable def pJ(x:V)(xs:List V):Bool:=xs.any λy=>Fh y x
def rIn(K:Pa)(neg:Bool):R2:=λx y H Q=>∃p xs,y=.ref p/\(bc K H p xs\/bZ K H p xs)/\ku x=true/\xs.all ku=true/\Q (.bl (if neg then !pJ x xs else pJ x xs)) H
theorem kA:jF X (Vu .NotIn) (rIn X.K true):=by
 intro pins s σ H x y v u Q I D J h;obtain⟨p,xs,rfl,z,E,fs,q⟩:=h;cases J;rcases z with z|z
 .obtain⟨its,r,B,hz⟩:=I.list z;refine SeqAt.notIn_listAt (DB x) B.isList (λw hw=>oE D E r fs w (by simpa using hw)) ⟨.bl _,H,I,rfl,?_⟩;rw[show its.toArray.any (DB x)=its.any (DB x) by simp,rH r fs];exact q
 obtain⟨its,r,B,hz⟩:=I.tuple z;refine SeqAt.notIn_tupleAt (DB x) B (λw hw=>oE D E r fs w (by simpa using hw)) ⟨.bl _,H,I,rfl,?_⟩;rw[show its.toArray.any (DB x)=its.any (DB x) by simp,rH r fs];exact q
theorem aD:eI X (.builtin "len") (λxs H Q=>∃p ys,xs=[.ref p]/\(bc X.K H p ys\/bZ X.K H p ys)/\Q (.int ys.length) H):=by
 intro pins s σ H xs J Q I r h;obtain⟨p,ys,rfl,z,q⟩:=h;obtain⟨u,rfl,E⟩:=vals1 r;cases E;have M:=rD;rcases z with z|z
 .obtain⟨its,B,D,hz⟩:=I.list z;have hlen:=B.length;exact Calls.call_len_list D.isList (by simp only[Pe] <;> omega) ⟨.int ys.length,H,I.tok _,⟨s.toks+1,by rw[Pe,hlen]⟩,q⟩
 obtain⟨its,B,D,hz⟩:=I.tuple z;have hlen:=B.length;exact len_tuple D (by simp only[Pe] <;> omega) ⟨.int ys.length,H,I.tok _,⟨s.toks+1,by rw[Pe,hlen]⟩,q⟩
theorem g9:eI X (.type "list") (λxs H Q=>∃p ys,xs=[.ref p]/\(bc X.K H p ys\/bZ X.K H p ys)/\∀l,H l=none->Q (.ref l) (upd H l (.lst ys))):=by
 intro pins s σ H xs V Q I r h;obtain⟨p,ys,rfl,D,q⟩:=h;obtain⟨u,rfl,U⟩:=vals1 r;cases U;have fin:∀(its:List UP),Vals ys its->ys.length<=U2->∀(h':Vd) (z:Nat),(∀b O,s.heap.get? b=Yl O->h'.get? b=Yl O) ->
   h'.get? s.heap.objs.size=Yl { cls:=.type "list",dict:=none,data:=.seq its.toArray z,slots:=#[] }->EP X pins σ Q (.ref s.heap.objs.size) { s with heap:=h' }:=λits B hz h' z kp e =>
  ⟨.ref s.heap.objs.size,_,I.laid (t':=s.toks) kp (O5 _) (show bh X.prog X.w _ h' _ (.lst ys)from⟨hz,its,z,B,e⟩),rfl,q _ (I.ba.fresh (O5 _))⟩
 rcases D with D|D
 .obtain⟨its,B,E,hz⟩:=I.list D;have hlen:=B.length;obtain⟨o,J,M,n,hd⟩:=E.isList;exact call_list_seq p (.inl rfl) J M hd (λh' z kp e=>fin its B hz h' z kp e) (by simp only[Pe] <;> omega)
 obtain⟨its,B,E,hz⟩:=I.tuple D;have hlen:=B.length;obtain⟨o,J,M,n,hd⟩:=E;exact call_list_seq p (.inr rfl) J M hd (λh' z kp e=>fin its B hz h' z kp e) (by simp only[Pe] <;> omega)
theorem pP:eI X (.type "tuple") (λxs H Q=>∃p ys,xs=[.ref p]/\((bc X.K H p ys/\∀l,H l=none->Q (.ref l) (upd H l (.tup ys)))\/(bZ X.K H p ys/\Q (.ref p) H))):=by
 intro pins s σ H xs O Q I r h;obtain⟨p,ys,rfl,h⟩:=h;obtain⟨u,rfl,J⟩:=vals1 r;cases J;rcases h with⟨z,q⟩|⟨z,q⟩
 .obtain⟨its,B,D,hz⟩:=I.list z;have hlen:=B.length;refine call_tuple_list D.isList (λh' kp=>?_) (by simp only[Pe] <;> omega);have E:Inv X pins σ H { s with heap:=h' }:=I.kept (t':=s.toks) kp;have M:Inv X pins σ (upd H h'.objs.size (.tup ys)) { s with heap:=h'.push { cls:=.type "tuple",data:=.seq its.toArray } }:=
   E.laid (t':=s.toks) (λb o e=>O8 _ e) (O5 _) (show bh X.prog X.w _ _ _ (.tup ys)from⟨hz,its,B,IsTup.new _ _⟩)
  exact⟨.ref h'.objs.size,_,M,rfl,q _ (E.ba.fresh (O5 _))⟩
 obtain⟨its,B,D,hz⟩:=I.tuple z;exact call_tuple_same D ⟨.ref p,H,I,rfl,q⟩
def tyV(K:Pa)(T:String)(x:V)(H:Hp): Prop:=match x with
  |.str _=>T = "str"
  |.int _=>T = "int"
  | .ref p => (T = "list" /\ ∃ xs, bc K H p xs) \/ (T = "tuple" /\ ∃ o, K.lookup p=Yl o /\ o.cls=.type "tuple" /\ o.dict=none) \/
      (T = "dict" /\ ((∃kvs,H p=Yl (.dK kvs)) \/ ∃kvs,H p=Yl (.dT kvs))) \/ (T = "set" /\ ∃S n,H p=Yl (.set S n))
  |_=>False
theorem vG{pins:List (UR×VE)}{σ:St}{H:Hp}{s:UW}{T:String}{x:V}{v:UP}(I:Inv X pins σ H s)(r:RelV x v)(ty:tyV X.K T x H) :
  s.TypeIs v T/\∀a,v=.ref a->∃D,s.heap.get? a=Yl D/\D.dict=none:=by
 cases x with
 |str z =>
  obtain⟨t,rfl⟩:=r;cases(show T = "str" from ty);exact⟨typeIs_str s z t,λ_ e=>nomatch e⟩
 |int i =>
  obtain⟨t,rfl⟩:=r;cases(show T = "int" from ty);exact⟨typeIs_int s i t,λ_ e=>nomatch e⟩
 |ref p =>
  cases r;rcases ty with⟨rfl,xs,J⟩|⟨rfl,o,B,M,hd⟩|⟨rfl,B⟩|⟨rfl,S,n,B⟩
  .obtain⟨its,_,E,_⟩:=I.list J;refine⟨E.isList.typeIs,λa e=>?_⟩;cases e;obtain⟨o,n,e,c,hd,_⟩:=E;exact⟨o,e,hd⟩
  .refine⟨⟨o,I.rA p o B,M⟩,λa e=>?_⟩;cases e;exact⟨o,I.rA _ o B,hd⟩
  .have z:∃o,s.heap.get? p=Yl o/\o.ExactDict:=by
    rcases B with⟨kvs,B⟩|⟨kvs,B⟩
    .obtain⟨_,_,_,_,o,_,_,e,ex,_⟩:=I.ba p _ B;exact⟨o,e,ex⟩
    obtain⟨_,_,_,_,o,_,_,e,ex,_⟩:=I.ba p _ B;exact⟨o,e,ex⟩
   obtain⟨o,e,ex⟩:=z;refine⟨⟨o,e,ex.1⟩,λa e2=>?_⟩;cases e2;exact⟨o,e,ex.2.1⟩
  obtain⟨o,_,_,_,e,ex,_⟩:=I.ba p _ B;refine⟨⟨o,e,ex.1⟩,λa e2=>?_⟩;cases e2;exact⟨o,e,ex.2.1⟩
 |_=>exact False.elim ty
def tBM(K:Pa)(T:String)(r:V->List V->Hp->VK->Prop)(to:TE)(t:TA):TE:=λσ H Q=>to σ H λx z=>tyV K T x z/\t σ z λxs B=>r x xs B Q
variable {o e:Vc}{es:List Vc}{to:TE}{t:TA}{name:Vg}{apos iw:V6}{T id:String}{r:V->List V->Hp->VK->Prop}
theorem mM(V:PlainAttrs T)(slot:Slot T name id)(J:typeOf (.builtin id)=pure (.type "method_descriptor"))(Z:OY X id r)(ho:PE X o to)(ha:PA X (e::es) t)
  (B:VY o name X.env (eval o X.env)=eval o X.env:=by rfl)
  (E:((backTo iw (U6 (e::es) X.env)).all (λx=>!x.1)&&(X3 iw (Xf [] X.env)).all (λx=>x.1.isSome)
   && decide ((e::es).length+([]:List W3).length+(if([]:List W3).isEmpty then 0 else 1)<30))=true:=by rfl)
  (D:(apos.endLine==iw.line)=true:=by rfl) (hs:U6 (e::es) X.env=(false,eval e X.env)::U6 es X.env:=by rfl) (z:(backTo iw (U6 es X.env)).any (·.1)=false:=by rfl) :
  PE X (.Call (.Attribute o name apos) (e::es) [] iw) (tBM X.K T r to t):=by
 intro pins s σ H Q I h;refine W8 B E D rfl (bI (ho pins s σ H _ I h) λv s1 zq=>?_);obtain⟨x,H1,M,O,ty,q1⟩:=zq;obtain⟨h1,h2⟩:=vG M O ty;refine⟨T,id,V,slot,J,h1,h2,?_⟩;have U:=ha iw pins s1 σ H1 _ M q1;rw[hs]at U⊢;refine Calls.callWith_builtin (by show(false||(backTo iw (U6 es X.env)).any (·.1))=false;rw[z] <;> rfl) (Calls.evalArgs_plain ?_);exact bI U λus s2 ⟨vs,H2,I2,r2,q2⟩=>Z pins s2 σ H2 x vs v us Q I2 O r2 q2
/- xs.append(e),list.index on a Jz tuple .. are OY facts of 06m -/
end
def JA(X:Cx)(id:String)(r:V->List V->Hp->VK->Prop):Prop :=
 ∀(pins:List (UR×VE)) (s:UW) (σ:St) (H:Hp) (x:V) (xs:List V) (v:UP) (z:List UP) (Q:VK),Inv X pins σ H s->RelV x v->Vals xs z->r x xs H Q ->
  wpAny (model X.prog X.w) X.A (call (.builtin id) (v::z)) (EP X pins σ Q) X.xe s
theorem Vals.one{x:V}{z:List UP}(h:Vals [x] z):∃u,z=[u]/\RelV x u:=by
 cases h with
 |cons r h=>cases h;exact⟨_,rfl,r⟩
theorem Vals.two{x y:V}{z:List UP}(h:Vals [x,y] z):∃u v,z=[u,v]/\RelV x u/\RelV y v:=by
 cases h with
 |cons r h=>obtain⟨u,rfl,q⟩:=Vals.one h;exact⟨_,_,rfl,r,q⟩
theorem Vals.eraseIdx:∀{xs:List V}{z:List UP} (i:Nat),Vals xs z->Vals (xs.eraseIdx i) (z.eraseIdx i)
 |_,_,_,.nil=>.nil
 |_,_,0,.cons _ t=>t
 |_,_,i+1,.cons r t=>.cons r (Vals.eraseIdx i t)
theorem qD{α:Type}:∀(l:List α) (i:Nat),(l.eraseIdx i).length<=l.length
 |[],_=>O5 _
 |_::_,0=>Rj _
 |_::r,i+1=>Nat.succ_le_succ (qD r i)
section
variable {X:Cx}{pins:List (UR×VE)}{σ:St}{H:Hp}{s:UW}{l b:UR}{xs ys O:List V}
theorem Inv.GF{its its':List UP}{n:Nat}{f:Array UP->Array UP}{t':Nat}(I:Inv X pins σ H s)(z:H l=Yl (.lst xs))
  (e:s.heap.get? l=Yl { cls:=.type "list",data:=.seq its.toArray n }) (B:f its.toArray=its'.toArray) (D:Vals ys its') (hz:ys.length<=U2) :
  Inv X pins σ (upd H l (.lst ys)) { s with heap:=s.heap.update l (Obj.mapSeq f),toks:=t' }:=by
 have q:=PySem.IsL.update e f;rw[B]at q;refine I.write (x:=l) (e:=l) (by rw[z];exact trivial) (.inl rfl) (λM u E J=>(Ra s.heap (Obj.mapSeq f) (Ne.symm E)).trans J) ⟨_,q⟩ ?_;exact⟨hz,its',_,D,q⟩
theorem Inv.JB{its:List UP}{t':Nat}(I:Inv X pins σ H s)(z:Vals ys its)(hz:ys.length<=U2) :
  Inv X pins σ (upd H s.heap.objs.size (.lst ys)) { s with heap:=s.heap.push { cls:=.type "list",data:=.seq its.toArray },toks:=t' }:=
 I.laid (λ_ _ q=>O8 _ q) (O5 _) ⟨hz,its,0,z,Pn _ rfl⟩
theorem Inv.fresh(I:Inv X pins σ H s):H s.heap.objs.size=none:=I.ba.fresh (O5 _)
theorem Inv.vH(I:Inv X pins σ H s)(B:H l=Yl (.lst xs)):xs.length<=U2/\∃(its:List UP) (n:Nat),Vals xs its/\xs.length=its.length/\s.heap.get? l=Yl { cls:=.type "list",data:=.seq its.toArray n }:=by
 obtain⟨z,its,n,r,e⟩:=I.ba l _ B;exact⟨z,its,n,r,r.length,e⟩
theorem AJ{n:Nat}(h:n<=U2):Builtin.List.listTooLong n=false:=by
 unfold Builtin.List.listTooLong;exact U1 (by omega)
end
section
variable {X:Cx}
def DC:V->List V->Hp->VK->Prop:=λx vs H Q=>∃l xs y,x=.ref l/\vs=[y]/\H l=Yl (.lst xs)/\xs.length<U2/\Q .eE (upd H l (.lst (xs++[y])))
theorem fF:JA X "list.append" DC:=by
 intro pins s σ H x vs v M Q I D E h;obtain⟨l,xs,y,rfl,rfl,B,hz,q⟩:=h;cases D;obtain⟨u,rfl,J⟩:=E.one;obtain⟨z,its,n,r,O,e⟩:=I.vH B;refine X4 F.slot_list_append ⟨_,e,rfl⟩ F.entry_list_append (F.args_list_append_2 _ _) (PySem.list_append l its.toArray n u (by rw[Pe];omega)) ⟨e,?_⟩;refine⟨.eE,_,I.GF (its':=its++[u]) B e (by simp) (r.append (.cons J .nil)) ?_,rfl,q⟩;rw[O7,PM];omega
def DD:V->List V->Hp->VK->Prop:=λx vs H Q=>∃l b xs z,x=.ref l/\vs=[.ref b]/\H l=Yl (.lst xs)/\H b=Yl (.lst z)/\xs.length+z.length<=U2/\Q .eE (upd H l (.lst (xs++z)))
theorem qE:JA X "list.extend" DD:=by
 intro pins s σ H x vs v us Q I J M h;obtain⟨l,b,xs,zs,rfl,rfl,E,O,hz,q⟩:=h;cases J;obtain⟨u,rfl,U⟩:=M.one;cases U;obtain⟨z,its,n,r,hl,e⟩:=I.vH E;obtain⟨z2,B,V,Z,tA,e2⟩:=I.vH O;have hsz:its.toArray.size+B.toArray.size<=sizeLine:=by rw[Pe,Pe];omega
 have D:¬(!its.toArray.isEmpty&&Builtin.List.listTooLong (its.toArray.size+B.toArray.size))=true:=by
  rw[AJ hsz,Bool.and_false];exact Po
 refine X4 F.slot_list_extend ⟨_,e,rfl⟩ F.entry_list_extend (F.args_list_extend_2 _ _)
  (AutoSeq1.list_extend_list_list_0 l its.toArray n b B.toArray V D (by rw[Pe];omega) (by omega)) ⟨e,e2,?_⟩
 refine⟨.eE,_,I.GF (its':=its++B) E e (by simp) (r.append Z) ?_,rfl,q⟩;rw[O7];omega
def MI:R2:=λx y H Q=>∃l b xs z,x=.ref l/\y=.ref b/\H l=Yl (.lst xs)/\H b=Yl (.lst z)/\xs.length+z.length<=U2/\∀p,H p=none->Q (.ref p) (upd H p (.lst (xs++z)))
theorem oF:jF X (VV .Add) MI:=by
 intro pins s σ H x y v u Q I D E h;obtain⟨l,b,xs,Z,rfl,rfl,J,M,hz,q⟩:=h;cases D;cases E;obtain⟨z,its,n,r,hl,e⟩:=I.vH J;obtain⟨z2,B,n2,O,U,e2⟩:=I.vH M;refine PySem.P.add_list e e2 ?_ (by rw[Pe,Pe];omega);have V:its.toArray++B.toArray=(its++B).toArray:=by simp
 rw[V];exact⟨.ref _,_,I.JB (t':=s.toks) (r.append O) (by rw[O7];omega),rfl,q _ I.fresh⟩
end
end L2
namespace Att
open PySem PySem.W PySem.Calls PyProof.Rows
theorem nh{P:Params}{h:Vd}:∀(ns:List Int) (vs:List UP),WellAll P h vs (ns.map WData.int)->XT vs ns:=by
 intro ns
 induction ns with
 |nil =>
  intro vs w;rw[T6]at w;cases w;exact .nil
 |cons n ns z =>
  intro vs w;rw[Qk]at w;cases w with
  |cons a b =>
   cases a;exact .cons _ _ (z _ b)
theorem yS{l:OpenLaw}{n:Nat}(O:l.most=Yl n){P:Params}{h:Vd}{args:List WData}{vals:List UP}
  (z:l.row.toRowW.claim.pre args=true) (H:WellAll P h vals args) :
  ∃a vs ns,vals=[Value.ref a]/\args=[WData.list (ns.map WData.int)]/\h.get? a=Yl { cls:=.type "list",data:=.seq vs.toArray }/\XT vs ns/\ns.length<=n:=by
 have J:WShape.hasAll [] args [.list .int]=true:=(pre_splitW z).1;have M:l.pre.holds [] { args:=args }=true:=(pre_splitW z).2;obtain⟨d,r,rfl,U,V⟩:=hasAllW_cons J;obtain rfl:=hasAllW_nil V;obtain⟨xs,rfl,Z⟩:=hasW_list U;obtain⟨ns,rfl⟩:=items_int Z;have hlen:ns.length<=n:=by
  unfold OpenLaw.pre at M;have D:(WTm.not (.lt (.lit (.int (n:Int))) (.len (.arg 0)))).holds [] { args:=[.list (ns.map .int)] }=true:=by
   have D:=(holds_andW M).1;rw[O]at D;exact D
  have E:=condW_of D (w_not (w_lt w_lit (w_len_list (w_arg rfl))));rw[O0]at E;refine Uh λq=>?_;have q':(n:Int)<((ns.length:Nat):Int):=by omega
  first
   |(rw[UX q']at E;exact UU E (by decide))
   |(simp at E;omega)
 cases H with
 |cons w1 w2 =>
  cases w2;cases w1 with
  |list ho B=>exact⟨_,_,ns,rfl,rfl,ho,nh ns _ B,hlen⟩
theorem yT(l:OpenLaw)(args:List WData):l.row.toRowW.claim.post args (.bool true) args=true :=
 postW_of (r:=l.row.toRowW) (X:=(true==true))
  (show WShape.has [] (.bool true) .bool=true by first|rfl|decide|simp[WShape.has,WShape.arms,WShape.armsAll])
  (show(WTm.eq .res (.lit (.bool true))).value [] { args:=args,res:=Yl (.bool true),after:=args }=Yl (.bool (true==true))from w_eq_bool (w_res rfl) w_lit) rfl
theorem tR{l:OpenLaw}{n:Nat}{q:U3}{loose:List Vg}{XP:(Vg->Option UP)->Vd->Prop}{YP:U4->Vd->Prop}{d:DefRec}
  (hn:l.most=Yl n) (J:d.params.defaults=[])
  (call:∀(w:U4) (s₀ z:UW) (mg M:Vg->Option UP) (B:UR) (o:VE) (O H doc:UP) (a:UR) (vs:List UP) (ns:List Int),
   Ground q loose [] XP w s₀ mg M z.heap->YP w z.heap ->
   z.heap.get? B=Yl o->o.data=.func (docDef d.name d.params d.body d.scope O H doc)->z.heap.CodeRec H d.name->mg d.name=Yl (.ref B) ->
   z.heap.get? a=Yl { cls:=.type "list",data:=.seq vs.toArray }->XT vs ns->ns.length<=n->z.gens = #[] ->
   Xn (model l.prog w) Xp (.call (.ref B) ⟨[.ref a],[]⟩) (λr s'=>r=.ok (.ret (.bool true))/\OldK z.heap s'.heap/\s'.os=z.os/\Wt s'.gens) z) :
  WalkO q loose XP YP l.row.toRowW d [] (λf vs=>PySem.call f vs):=by
 intro w s₀ z mg M G Y B o O H doc dV kV ho hd U hD V hg args vals as D acj hrd Z hlo;obtain rfl:dV=.none:=Dflts.none hD J;obtain rfl:kV=.none:=Dflts.noKw hD;obtain⟨a,vs,ns,rfl,rfl,E,hints,hlen⟩:=yS hn D Z;refine enter_call (Xy (call w s₀ z mg M B o O H doc a vs ns G Y ho (fd_plain hd) U V E hints hlen hg) λr s' hq=>?_);obtain⟨rfl,h2,h3,h4⟩:=hq;exact⟨.inl ⟨.bool true,.bool true,[],rfl,λ_=>rfl,.bool true,yT l _,λ_=>⟨List.Pairwise.nil,λ_ hm=>(nomatch hm)⟩⟩,h2,h3,h4⟩
end Att
namespace L2
open PySem PySem.Spec PyProof.Rows
theorem qF:∀{vs:List UP}{ns:List Int},XT vs ns->Vals (ns.map V.int) vs
 |_,_,.nil=>.nil
 |_,_,.cons n t h=>.cons ⟨t,rfl⟩ (qF h)
def GG(H:Hp):Prop:=∀b,H b=none\/∃o xs,H b=Yl (.gv o (.lst xs))
theorem AK{P:U3}{w:U4}{K:Pa}{mg mb:Vg->Option UP}{CX:Aw}{k:Nat}{fa a:UR}{fd:Va}{x:Vg}{sp:Sp}{B:UW}{vs:List UP}{ns:List Int}
  (KX:K.In B.heap) (O:B.heap.Ns Vn mg) (E:B.heap.Ns XX mb) (hbb:∀x:Vg,x≠"__name__"->mb x=Vi x) (U:B.heap.NoLimit) (hg:B.gens = #[])
  (ha:B.heap.get? a=Yl { cls:=.type "list",data:=.seq vs.toArray }) (hi:XT vs ns) (hl:ns.length<=U2) (hr:fm k Xp)
  (F:∀base:Vd,K.In base->base.Ns Vn mg->a4 P w K mg base CX k fa fd [x] sp) (M:∀(s:UW) (u:UP),XS s fd ⟨[u],[]⟩ [(x,u)])
  (rJ:∀H:Hp,GG H->bc K H a (ns.map V.int)->sp [.ref a] H (λv _=>v=.bl true) λ_ _ _=>False)
  (hCX:∀H e s',CX [] H B (λ_ _ _=>False) e s'->False) :
  Xn (model P w) Xp (.call (.ref fa) ⟨[.ref a],[]⟩) (λr s'=>r=.ok (.ret (.bool true))/\OldK B.heap s'.heap/\s'.os=B.os/\Wt s'.gens) B:=by
 have rv:=qF hi;have Z:=hi.length;have core:∀H:Hp,GG H->bc K H a (ns.map V.int)->gY P w H B.heap->(∀b,H b≠none->b=a)->(H a≠none->K.lookup a=none) ->
   Xn (model P w) Xp (.call (.ref fa) ⟨[.ref a],[]⟩) (λr s'=>r=.ok (.ret (.bool true))/\OldK B.heap s'.heap/\s'.os=B.os/\Wt s'.gens) B:=by
  intro H hO hS ba hA hK;have D:∀{b:UR}{o:VE},B.heap.get? b=Yl o->H b=none->(rz B.heap H).get? b=Yl o:=λe n=>Am e n;have noA:∀{b:UR}{o:VE}{es:Array VP}{ep:Nat},B.heap.get? b=Yl o->o.data=.dict es ep->H b=none:=λ{b o es ep} e d=>by
   cases q:H b with
   |none=>rfl
   |some u =>
    have e':b=a:=hA b (by rw[q];simp);subst e';rw[ha]at e;cases e;have d':Data.seq vs.toArray _=Data.dict es ep:=d;cases d'
  have J:∀{b:UR}{m:Vg->Option UP},B.heap.Ns b m->(rz B.heap H).Ns b m:=λ{b m} ⟨o,es,ep,e,d,r⟩=>⟨o,es,ep,D e (noA e d),d,r⟩
  have hKb:K.In (rz B.heap H):=λb o e=>D (KX b o e) (by
   cases q:H b with
   |none=>rfl
   |some u =>
    have e':b=a:=hA b (by rw[q];simp);subst e';rw[hK (by rw[q];simp)]at e;cases e)
  have hM:Mod K mg (rz B.heap H):=⟨hKb,J O,⟨mb,J E,hbb⟩,let⟨mc,h1,h2⟩:=U;⟨mc,J h1,h2⟩⟩
  have e0:Dx P w K mg (rz B.heap H) Xp [] B H:=⟨rfl,hM,λb o e=>Dr e,Nat.le_of_eq (yJ _ _),trivial,λb E=>UU (show b∈([]:List UR)from E) (by simp),ba,.of_eq hg⟩
  refine Xy ((F _ hKb (J O)).run Xp [] B H ⟨[.ref a],[]⟩ [.ref a] [.ref a] _ _ hr e0 (M B (.ref a)) (.cons rfl .nil) (rJ H hO hS)) λr s' h=>?_;cases r with
  |error e=>exact(hCX H e s' h).elim
  |ok fl =>
   cases fl with
   |next=>exact False.elim h
   |brk=>exact False.elim h
   |cont=>exact False.elim h
   |ret u =>
    obtain⟨v,H',os,bare,un,MJ,r',q⟩:=h;have q':v=.bl true:=q;subst q';obtain rfl:u=Value.bool true:=r';refine⟨rfl,OldK.of_keep λb o e=>?_,os,bare⟩;cases q:H b with
    |none=>exact un.keep b o e q (by intro z;exact UU (show b∈([]:List UR)from z) (by simp)) (by simp)
    |some u =>
     rcases hO b with z|⟨ob,xs,z⟩
     .rw[q]at z;cases z
     have z2:=un.jM b ob _ z;obtain⟨e1,_⟩:=ba b _ z;obtain⟨e2,_⟩:=MJ b _ z2;rw[e]at e1;cases e1;exact e2
 cases hk:K.lookup a with
 |some o =>
  have e:=KX a o hk;rw[ha]at e;cases e;refine core (λ_=>none) (λ_=>.inl rfl) (.inr ⟨_,vs.toArray,_,hk,rfl,rfl,rfl,by rw[Pe,Z];exact hl,by simpa using rv⟩) (λb u z=>by have z':(none:Option HO)=Yl u:=z;cases z') (λb z=>UU rfl z) λz=>UU rfl z
 |none =>
  refine core (λb=>if b=a then some (.gv { cls:=.type "list",data:=.seq vs.toArray } (.lst (ns.map V.int)))else none) (λb=>?_) (.inl (.inr ⟨{ cls:=.type "list",data:=.seq vs.toArray },UQ rfl⟩)) (λb u z=>?_) (λb z=>?_) λ_=>hk
  .by_cases E:b=a
   .exact .inr ⟨_,_,UQ E⟩
   exact .inl (UO E)
  .by_cases E:b=a
   .have z':=(UQ E).symm.trans z;cases z';subst E;exact⟨ha,by rw[O0];exact hl,vs,_,rv,ha⟩
   have z':=(UO E).symm.trans z;cases z'
  by_cases E:b=a
  .exact E
  exact UU (UO E) z
theorem xm{l:Uu}{n k:Nat}{q:U3}{loose:List Vg}{XP:(Vg->Option UP)->Vd->Prop}{YP:U4->Vd->Prop}{d:DefRec}{K:Params->Pa}{CX:U4->Aw}{sp:U4->Sp}{x:Vg}
  (hn:l.most=Yl n) (E:n<=U2) (J:d.params.defaults=[]) (hr:fm k Xp)
  (hY:∀(w:U4) (h:Vd),YP w h->(K w.params).In h)
  (F:∀(w:U4) (mg:Vg->Option UP) (D:UR) (h:Vd),(K w.params).In h->h.Ns Vn mg->mg d.name=Yl (.ref D) ->
   ∃M:Va,(∀(s:UW) (u:UP),XS s M ⟨[u],[]⟩ [(x,u)]) /\
    ∀base:Vd,(K w.params).In base->base.Ns Vn mg->a4 l.prog w (K w.params) mg base (CX w) k D M [x] (sp w))
  (O:∀(w:U4) (H:Hp) (a:UR) (ns:List Int),ns.length<=n->GG H->bc (K w.params) H a (ns.map V.int)->sp w [.ref a] H (λv _=>v=.bl true) λ_ _ _=>False)
  (U:∀(w:U4) (H:Hp) (s:UW) (e:UP) (s':UW),CX w [] H s (λ_ _ _=>False) e s'->False) :
  UE q loose XP YP l.row.toRowW d [] (λf vs=>PySem.call f vs):=by
 refine Att.tR hn J λw s₀ z mg mb D o pm cd doc a vs ns G Y ho hd Ls Z B hints hlen hg=>?_;have KX:=hY w _ Y;obtain⟨M,hb,hF⟩:=F w mg D _ KX G.T.g Z;exact AK KX G.T.g G.T.b G.T.builtins G.T.nolimit hg B hints (PH hlen E) hr hF hb (λH hO hS=>O w H a ns hlen hO hS) λH e s'=>U w H z e s'
end L2
/- THE aco Lv (shape; LID, My.* are aad):
   My.Adr: a structure of Dg addresses Ds acp aae names (classes,Iq); My.Txt K t: a structure (Prop) of Dg equations over K;
   My.GH:{K} {implicit addresses ..} (e1:nsIn K Vn "law" = some (Yl (.ref f))) (e2:K.lookup f=some ⟨oc,od,.func (fnOf "law" "law" params body scope dV kV doc pm an kB ct),sl⟩) (e3:codeIn K kB "law" = true) .. : ∃t,My.Txt K t
set_option maxRecDepth 100000 in
set_option maxHeartbeats 0 in
theorem PySem.Challenge.DF:PySem.Challenge.GJ.Holds:=by
 w_on;o_law;k_head;(case hw=>w_witness2)
 k_fill
 refine L2.xm (l:=PySem.Challenge.GJ) (n:=63) (k:=40) (x:="script") (CX:=λw=>..) (sp:=λ_=>B.MK) rfl (by decide) rfl ⟨rfl,by decide,by decide⟩ (λw h Y=>UB Y) ?F ?S ?C
 case F =>
  intro w mg Z h U G D;have T:∃t,B.Txt (L2.KOf U) t:=by
   dsimp only [L2.KOf]                          -- K V E as «<heap const> w.params» for k_is;refine' B.GH ?e1 ?e2 ?e3 ..
   (case e1=>PySem.W.k_is)                    -- in z order: a name->its address->its object->its parts
   (case e2=>PySem.W.k_is)
   ..
  obtain⟨t,T⟩:=T;have e0:=D.symm.trans (Sl U G T.law);cases e0                                       -- Z is z J own address;exact⟨_,λs u => .of_eq rfl,λbase M O=>B.GL T M O⟩     -- if «.of_eq rfl» comes too early: refine' ⟨_, ?b,λbase M O=>B.GL T M O⟩; exactλs u => .of_eq rfl
 case S=>exactλw H a ns hl hO hS=>..
 case C=>exact ..
(z tactic k_is has no namespace: write k_is) -/
namespace L2
open PySem PySem.Spec PyProof.Rows
noncomputable def cJ(s:Wq):Arguments:=match s with
 |.FunctionDef _ a _ _ _ _ _ _ _ _=>a
 |_=>{ posonlyargs:=[],args:=[],vararg:=none,kwonlyargs:=[],kw_defaults:=[],kwarg:=none,defaults:=[] }
noncomputable def bT(s:Wq):List Stmt:=match s with
 |.FunctionDef _ _ b _ _ _ _ _ _ _=>b
 |_=>[]
noncomputable def aB(s:Wq):Scope:=match s with
 |.FunctionDef _ _ _ _ _ _ z _ _ _=>z
 |_=>{ kind:=.function,names:=[],isGenerator:=false,isCoroutine:=false }
noncomputable abbrev cQ:Aw:=λ_ _ _ _ _ _=>False
noncomputable abbrev E0:XK:=λ_ _ _=>False
theorem JC{X:Cx}:Passes cQ X E0:=λ_ _ _ _ _ _ _ h=>h.elim
structure AL(K:Pa) (x qual:Vg) (st:Wq) (f:UR) (fd:Va):Prop where
 ex:∃(oc:UP) (od:Option UR) (kV doc pm:UP) (an:Option UR) (kB ct:UP) (Lr:Array (Option UP)),
  fd=QB x qual (cJ st) (bT st) (aB st) .none kV doc pm an kB ct/\K.lookup f=Yl ⟨oc,od,.func fd,Lr⟩/\RK K kB qual=true
 kp:RJ K (.ref f)=true
section
variable {P:U3}{w:U4}{K:Pa}{mg:Vg->Option UP}{base:Vd}
theorem AL.ok{x qual:Vg}{st:Wq}{f:UR}{M:Va}{N ps:List Vg}{k:Nat}{sp:Sp}(F:AL K x qual st f M)(S:aY N ps (aB st))(len:∀vs H Q E,sp vs H Q E->vs.length=ps.length)
  (B:∀(z:UP) (A:Ve) (outer:List Xx) (s:UW) (H:Hp) (vs:List V) (Q:VK) (E:XK),fm k (A.deeper (envOfC qual (aB st) s.heap.objs.size f z))->sp vs H Q E ->
   ∃t,qp (mh cQ P w K mg base N qual (aB st) f z A outer s H E).Ln (bT st) t/\t { nx:=λ_ O=>Q .eE O,rt:=Q } (start N vs) H):a4 P w K mg base cQ (k+1) f M ps sp:=by
 obtain⟨oc,od,kV,doc,pm,an,z,ct,U,rfl,lk,D⟩:=F.ex;refine Ff lk D S len λA outer s H vs Q E Z J=>?_;obtain⟨t,h,q⟩:=B z A outer s H vs Q E Z J;exact⟨t,h.Ln,q⟩
theorem AL.binds{x qual:Vg}{st:Wq}{f:UR}{E:Va}{ps:List Vg}(F:AL K x qual st f E)
  (h:∀(kV doc B:UP) (an:Option UR) (z ct:UP) (D:List UP),D.length=ps.length->Wn (QB x qual (cJ st) (bT st) (aB st) .none kV doc B an z ct) ⟨D,[]⟩=pure (ps.zip D)):Binds K E ps []:=by
 obtain⟨M,O,kV,doc,B,an,z,ct,H,rfl,lk,J⟩:=F.ex;exact .all (h kV doc B an z ct)
theorem vI {x qual : Vg}{st : Wq}{f : UR}{E : UP}{H an : Option UR}{B : Array (Option UP)}{kV doc D z ct : UP}(l : K.lookup f=Yl ⟨E, H, .func (QB x qual (cJ st) (bT st) (aB st) .none kV doc D an z ct), B⟩)
    (c:RK K z qual=true) (k:RJ K (.ref f)=true): AL K x qual st f (QB x qual (cJ st) (bT st) (aB st) .none kV doc D an z ct):= ⟨⟨E,H,kV,doc,D,an,z,ct,B,rfl,l,c⟩,k⟩
end
theorem qG{A:Ve}{k:Nat}(z:fm k A):A.units+1<cLine:=QO (Tj (by decide:1<=64) _) z.units
theorem aF{n:Nat}(h:n<=1000):n<sizeLine:=QO h (by decide)
section
variable {X:Cx}
theorem pv (i : Nat){x : Vg}{pos : V6}(B : X.N[i]?=Yl x := by rfl)(D : Ma X.env.scope x := by first | exact Or.inl rfl | exact Or.inr (Or.inl rfl) | exact Or.inr (Or.inr rfl))(hd : (x == ("__debug__" : Vg))=false := by decide)
    (z:(x==("__classdict__" : Vg))=false:=by decide): PE X (.Name x pos) (Ja i):= Gb B D hd z
end
theorem gF{A B:Prop}(h:B):if false=true then A else B:=by
 rw[UO Po];exact h
theorem pQ{A B:Prop}(h:A):if true=true then A else B:=by
 rw[UQ rfl];exact h
theorem fK{c A B:Prop}[Decidable c](z:c->A)(D:¬c->B):if c then A else B:=by
 by_cases h:c
 .rw[UQ h];exact z h
 rw[UO h];exact D h
def ax(H z:Hp):Prop:=∀b o,H b=Yl o->z b=Yl o
theorem ax.refl(H:Hp):ax H H:=λ_ _ h=>h
theorem ax.trans{H z B:Hp}(a:ax H z)(b:ax z B):ax H B:=λc o h=>b c o (a c o h)
theorem ax.free{H z:Hp}(e:ax H z){l:UR}(h:z l=Option.none):H l=Option.none:=by
 cases q:H l with
 |none=>rfl
 |some o =>
  rw[e l o q]at h;cases h
theorem ax.seq{K:Pa}{H z:Hp}{a:UR}{xs:List V}(e:ax H z)(h:bc K H a xs):bc K z a xs:=by
 rcases h with(h|⟨o,h⟩)|h
 .exact .inl (.inl (e _ _ h))
 .exact .inl (.inr ⟨o,e _ _ h⟩)
 exact .inr h
section
variable {κ:Type}[DecidableEq κ]
theorem AM{kvs:List (κ×V)}{k:κ}(h:bq kvs k=none):¬k∈kvs.map (·.1):=by
 intro m;obtain⟨p,z,e⟩:=O4.mp m;have q:(kvs.any λB=>decide (B.1=k))=true:=Qq.mpr ⟨p,z,UX e⟩;rw[eJ,h]at q;exact UU q (by simp)
theorem rK{kvs:List (κ×V)}{k:κ}{v:V}(h:bq kvs k=Yl v):k∈kvs.map (·.1):=by
 have q:(kvs.any λz=>decide (z.1=k))=true:=by
  rw[eJ,h]
  all_goals rfl
 obtain⟨p,B,e⟩:=Qq.mp q;exact O4.mpr ⟨p,B,U0 e⟩
end
theorem rL{α:Type}{t:Yk α}{Q B:α->UW->Prop}{M:XY}{A:Ve}{E:UP->UW->Prop}{s:UW}(h:wpAny M A t Q (λ_ _=>False) s)(D:∀a s,Q a s->B a s):wpAny M A t B E s :=
 VQ h D λ_ _ z=>z.elim
theorem fZ:∀{xs:List V}{z:List UP},xs.length=z.length->(∀(i:Nat) (x:V) (u:UP),xs[i]?=Yl x->z[i]?=Yl u->RelV x u)->Vals xs z
 |[],[],_,_=>.nil
 |[],_::_,h,_=>by simp at h
 |_::_,[],h,_=>by simp at h
 |x::xs,u::z,h,f=>.cons (f 0 x u rfl rfl) (fZ (by simpa using h) λi y w e1 e2=>f (i+1) y w (by simpa using e1) (by simpa using e2))
noncomputable def cf(X:Cx)(scope:V3)(z:List (Vg×UR))(NC:List Vg)(fp:List UR)(C:UR)(s₀:UW)(H₀:Hp):Cx where
 prog:=X.prog
 w:=X.w
 K:=X.K
 mg:=X.mg
 base:=X.base
 A:=X.A
 N:=NC
 s₀:=s₀
 H₀:=H₀
 env:=X5 scope z C X.env
 outer:=X.stack
 stack:=X.stack
 ex:=fp
 fn:=λ_=>false
 calm:=X.calm
 pn:=[]
 xe:=λ_ _=>False
structure hH(X:Cx) (scope:V3) (cl:List (Vg×UR)) (NC:List Vg) (z8:List (Option Nat)):Prop where
 AN:W9 scope X.env=pure cl
 cell:∀y∈scope.names,y.2≠.cell
 kind:scope.kind=.function
 names:∀y∈scope.names,y.2=.local->scope.names.lookup y.1=Yl .local
 cls:∀x c,cl.lookup x=Yl c->X.env.cells.lookup x=Yl c
 has:∀x,((VZ scope X.env).names.lookup x=Yl .cell\/(VZ scope X.env).names.lookup x=Yl .free)->∃c,cl.lookup x=Yl c
 len:z8.length=NC.length
 src:∀(i j:Nat) (x:Vg),z8[i]?=Yl (Yl j)->NC[i]?=Yl x->X.N[j]?=Yl x/\(X.env.kindOf x=Yl .cell\/X.env.kindOf x=Yl .free) /\
  ((VZ scope X.env).names.lookup x=Yl .cell\/(VZ scope X.env).names.lookup x=Yl .free)
noncomputable def AO(z:List (Option Nat))(σ:St):St:=z.map λo=>o.bind λj=>(σ[j]?).join
section
variable {X:Cx}{scope:V3}{cl:List (Vg×UR)}{NC:List Vg}{z8:List (Option Nat)}{pins:List (UR×VE)}{σ:St}{H:Hp}{s:UW}{fp:List UR}
theorem AQ{B:Vd}{tk:Nat}{m:Vg->Option UP}(O:hH X scope cl NC z8)(I:Inv X pins σ H s)(V:∀b∈fp,ng X pins H b)(ho:∀b∈fp,∃o,s.heap.get? b=Yl o)
  (hn:B.Ns s.heap.objs.size m) (Z:∀b o,s.heap.get? b=Yl o->B.get? b=Yl o) :
  Inv (cf X scope cl NC fp s.heap.objs.size s H) [] (AO z8 σ) H { s with heap:=B,toks:=tk }:=by
 have lt:∀b∈fp,b<s.heap.objs.size:=λb D=>let⟨o,e⟩:=ho b D;Pt e
 refine⟨⟨I.ok.mod,O.kind,I.ok.glob,I.ok.blt,O5 _,λx y c M U=>I.ok.inj x y c (O.cls x c M) (O.cls y c U),O.has,λx c h=>(Po h).elim,I.ok.hd,I.ok.frames,.inl rfl,
   λb D=>⟨PR (lt b D),λx c h=>(V b D).2.2.2.2.1 x c (O.cls x c h)⟩,I.bs,PH I.ok.Fb I.sz,λb o e D=>?_,λb D hs=>?_,I.stack,I.rC⟩,
  rfl,I.bare,Un.kept Z,⟨m,hn,λi x v e1 e2 e3=>?_⟩,λx c h=>?_,I.ba.fresh (O5 _),λx c h=>I.jE x c (O.cls x c h),λp hp=>UU (show p∈([]:List (UR×VE))from hp) (by simp),I.ba.kept Z,?_⟩
 .rcases(V b D).2.2.2.1 with z|z
  .exact I.ok.An b o e z
  exact UU (PZ (Pt e) (PH I.ok.Fb z)) (Rc _)
 .rcases Pq.mp (I.rB b hs)with e|e
  .exact(V b D).2.1 e
  exact(V b D).2.2.1 e
 .have e2:(z8.map λo=>o.bind λj=>(σ[j]?).join)[i]?=Yl (Yl v):=e2;rw[O6]at e2;cases q:z8[i]? with
  |none=>rw[q]at e2;cases e2
  |some oj =>
   rw[q]at e2;cases oj with
   |none=>cases e2
   |some j =>
    have J:(σ[j]?).join=Yl v:=Option.some.inj e2;have e5:σ[j]?=Yl (Yl v):=by
     cases z:σ[j]? with
     |none=>rw[z]at J;cases J
     |some y =>
      rw[z]at J;have J:y=Yl v:=J;rw[J]
    obtain⟨a1,E,a3⟩:=O.src i j x q e1;obtain⟨m0,GN,hl⟩:=I.loc;obtain⟨u,r,l⟩:=hl j x v a1 e5 (.inr E);refine⟨u,r,?_⟩;rcases l with⟨k,_⟩|⟨_,c,e,z⟩
    .rcases E with E|E
     .rw[k]at E;cases E
     rw[k]at E;cases E
    obtain⟨c',e'⟩:=O.has x a3;have e6:=O.cls x c' e';rw[e]at e6;cases e6;obtain⟨oc,M,U⟩:=z;exact .inr ⟨a3,c,e',oc,Z _ _ M,U⟩
 .obtain⟨v,oc,M,U⟩:=I.cell x c (O.cls x c h);exact⟨v,oc,Z _ _ M,U⟩
 show(z8.map _).length=NC.length;rw[O0];exact O.len
theorem comp_back{E:List (UR×VE)}{Z:St}{U:Hp}{s':UW}{h':Vd}(I:Inv X pins σ H s)(V:∀b∈fp,ng X pins H b)(J:Inv (cf X scope cl NC fp s.heap.objs.size s H) E Z U s')
  (hs:Heap.SameBut s.heap.objs.size s'.heap h'):Inv X pins σ U { s' with heap:=h' }:=by
 have ne:∀{b:UR}{o:VE},s.heap.get? b=Yl o->b≠s.heap.objs.size:=λe=>PR (Pt e);have z:U s.heap.objs.size=none:=J.free;have B:Un (ki X.stack) fp H U s.heap s'.heap:=J.base;refine I.I0 (s':={ s' with heap:=h' }) (ch:=fp) J.os ⟨λb o q n D O=>(hs.2 b (ne q)).trans (B.keep b o q n D O),λb o q n D O=>?_,B.free,λb o q O=>?_,B.kg,B.jM,B.kh⟩ (λb u e=>?_) J.bare
  λb D=>⟨(V b D).2.2.2.1,(V b D).2.1,(V b D).2.2.2.2.1,(V b D).2.2.2.2.2⟩
 .obtain⟨sl,e⟩:=B.slot b o q n D O;exact⟨sl,(hs.2 b (ne q)).trans e⟩
 .obtain⟨o',e⟩:=B.there b o q O;exact⟨o',(hs.2 b (ne q)).trans e⟩
 refine(J.ba b u e).pL (λc v M q=>(hs.2 c ?_).trans q) (λ_ q=>q) λ_ _ q=>q;rintro rfl;rcases M with M|M
 .rw[<-M,z]at e;cases e
 rw[z]at M;cases M
end
def JD(X:Cx)(z:List Vc)(t:TT):Prop :=
 ∀(pins:List (UR×VE)) (s:UW) (σ:St) (H:Hp) (Q:Bool->Hp->Prop),Inv X pins σ H s->t σ H Q ->
  wpAny (model X.prog X.w) X.A (forIn z true λc r=>if r=true then do let ok <- isTrue c X.env (eval c X.env);pure (ForInStep.yield ok)else pure (ForInStep.yield r)) (TP X pins σ Q) X.xe s
def JE:TT:=λ_ H Q=>Q true H
theorem ni{i:Nat}{v:V}{σ:St}{H:Hp}{A B:St->Hp->Prop}(h:A (σ.set i (Yl v)) H):w5 i v σ H (λz E=>JE z E λb D=>if b=true then A z D else B z D):=h
theorem dt{X:Cx}:JD X [] JE:=λ_ _ _ H _ I h=>wpAny_tests_nil ⟨H,I,h⟩
theorem gb{X:Cx}{c:Vc}{t:TT}(h:PT X c t):JD X [c] t:=λpins s σ H Q I hw=>wpAny_tests_one (h pins s σ H Q I hw)
def kC(J:It)(g:TG)(tt:TT)(te:TE)(D:UR)(Q:VK)(B:St)(H₀:Hp):Prop :=
 ∃W:Nat->Nat->St->Hp->Prop,(∃m,W 0 m B H₀)/\∀i m E H,W i m E H ->
  (J.stop i H/\Q (.ref D) H)\/(J.go i H/\∃N:St->Hp->Prop,(∀M O,N M O->∃U,U<m/\W (i+1) U M O) /\
   ∀x O,J.Gj i H x O->g x E O λz H3=>tt z H3 λb V=>if b=true then te z V λv Z=>∃ys,Z D=Yl (.lst ys)/\ys.length<U2/\N z (upd Z D (.lst (ys++[v])))else N z V)
def AR(E:TI)(g:TG)(M:TT)(O:TE)(z:List (Option Nat)):TE:=λσ H Q=>E σ H λJ B=>∀D,B D=none->kC J g M O D Q (AO z σ) (upd B D (.lst []))
theorem qH{X:Cx}{elt iter tg:Vc}{ifs:List Vc}{scope:V3}{pos pp:V6}{cl:List (Vg×UR)}{NC:List Vg}{z8:List (Option Nat)}{wi:TI}{g:TG}{tt:TT}{te:TE}{use:Option (UP->Yk Unit)}{R:UP->UW->Prop}
  (hc:X.calm=true) (O:hH X scope cl NC z8) (hi:PI X tg iter wi)
  (hg:∀fp C s₀ H₀,PG (cf X scope cl NC fp C s₀ H₀) tg g) (ht:∀fp C s₀ H₀,JD (cf X scope cl NC fp C s₀ H₀) ifs tt) (he:∀fp C s₀ H₀,PE (cf X scope cl NC fp C s₀ H₀) elt te)
  (hs:∀x,V7 iter X.env x=pure x) {pins:List (UR×VE)}{s:UW}{σ:St}{H:Hp}{Q:VK} (I:Inv X pins σ H s) (h:AR wi g tt te z8 σ H Q)
  (K:∀(D:UR) (fp:List UR) (B s4:UW) (σ3:St) (H0 H3:Hp) (u:Flow),Inv X pins σ H0 B->(∀b∈fp,ng X pins H0 b)->Inv (cf X scope cl NC fp B.heap.objs.size B H0) [] σ3 H3 s4->Q (.ref D) H3->compPost (model X.prog X.w) X.A X.xe use R (.ref D) B.heap.objs.size (.ok u) s4) :
  wpAny (model X.prog X.w) X.A (comprehension (.ListComp elt [⟨tg,iter,ifs,0⟩] scope pos) scope X.env pp (newList []) false (eval iter X.env) use) R X.xe s:=by
 refine wpAny_comprehension_free (use:=use) rfl hs O.AN O.kind O.names (bI (hi pins s σ H _ I h) λv s1 h1=>bI h1 λitv E h2=>?_);obtain⟨it,fp,tn,J,H2,e,I2,T,Lo,f2,h2⟩:=h2;subst e;have hD:H2 E.heap.objs.size=none:=I2.ba.fresh (O5 _);obtain⟨W,⟨m0,w0⟩,turn⟩:=h2 _ hD;refine U9 (wpAny_newFunctionEnv O.cell (by intro y hy;simp at hy) (λh₁ U V=>?_) O.kind);dsimp only at U V⊢;have I3:Inv X pins σ (upd H2 E.heap.objs.size (.lst [])) { E with heap:=E.heap.push { cls:=.type "list",dict:=none,data:=.seq ([]:List UP).toArray } }:=I2.JB (its:=[]) (t':=E.toks) .nil (by decide);have ob2:∀b∈fp,∃o,E.heap.get? b=Yl o:=λb M=>let⟨o,e,_⟩:=T.obj 0 _ Lo b M;⟨o,e⟩
 have neD:∀b∈fp,b≠E.heap.objs.size:=λb M=>let⟨o,e⟩:=ob2 b M;PR (Pt e)
 have f3:∀b∈fp,ng X pins (upd H2 E.heap.objs.size (.lst [])) b:=λb M=>⟨by rw[ao (neD b M)];exact(f2 b M).1,(f2 b M).2⟩
 generalize hs3:({ E with heap:=E.heap.push { cls:=.type "list",dict:=none,data:=.seq ([]:List UP).toArray } }:UW)=B at I3;have ML:E.heap.push { cls:=.type "list",dict:=none,data:=.seq ([]:List UP).toArray }=B.heap:=by rw[<- hs3]
 have ob3:∀b∈fp,∃o,B.heap.get? b=Yl o:=λb M=>let⟨o,e⟩:=ob2 b M;⟨o,by rw[<-ML];exact O8 _ e⟩
 rw[ML]at U V⊢;have old:∀b o,B.heap.get? b=Yl o->h₁.get? b=Yl o:=λb o e=>V.extBut b o (PR (Pt e)) (O8 _ e);have st1:tn 0 h₁:=T.keep 0 _ _ Lo λb M o e=>old b o (by rw[<-ML];exact O8 _ e);have IC:∀tk,Inv (cf X scope cl NC fp B.heap.objs.size B (upd H2 E.heap.objs.size (.lst []))) [] (AO z8 σ) (upd H2 E.heap.objs.size (.lst [])) { B with heap:=h₁,toks:=tk }:=λtk=>AQ O I3 f3 ob3 U old;have GO:∀{H':Hp},(∀b∈fp,H' b=none)->∀b∈fp,ng (cf X scope cl NC fp B.heap.objs.size B (upd H2 E.heap.objs.size (.lst []))) [] H' b:=λ{H'} hn b M=>by
  obtain⟨o,e⟩:=ob3 b M;refine⟨hn b M,PR (Pt e),λz=>?_,.inl M,λx c hx=>(f3 b M).2.2.2.2.1 x c (O.cls x c hx),λp hp=>UU (show p∈([]:List (UR×VE))from hp) (by simp)⟩;rcases Pq.mp (I3.rB b z)with q|q
  .exact(f3 b M).2.1 q
  exact(f3 b M).2.2.1 q
 have loop:∀s₃:UW,s₃={ E with heap:=h₁,toks:=E.toks+([]:List (Vg×UP)).length } ->
   Xn (model X.prog X.w) X.A (.compLoop (.ListComp elt [⟨tg,iter,ifs,0⟩] scope pos) 0 (.ref it) (.ref E.heap.objs.size) (X5 scope cl B.heap.objs.size X.env))
    (compPost (model X.prog X.w) X.A X.xe use R (.ref E.heap.objs.size) B.heap.objs.size) s₃:=by
  rintro s₃ rfl;refine codeAny_loop rfl (λn s'=>∃i σ' H',Inv (cf X scope cl NC fp B.heap.objs.size B (upd H2 E.heap.objs.size (.lst []))) [] σ' H' s'/\tn i s'.heap/\(∀b∈fp,H' b=none)/\W i n σ' H') (λn s' hI=>?_) m0
   ⟨0,_,_,by have z:=IC (E.toks+([]:List (Vg×UP)).length);rw[<-hs3]at z⊢;exact z,st1,λb M=>(f3 b M).1,w0⟩
  show wpAny _ X.A ((compTurn (.ListComp elt [⟨tg,iter,ifs,0⟩] scope pos) 0 (.ref it) (.ref E.heap.objs.size) (X5 scope cl B.heap.objs.size X.env)).onRaise (λx=>do noteFrame x (X5 scope cl B.heap.objs.size X.env);theTreesLotGoes x)) _ _ s';refine wpAny_noted ?_;rw[compTurn_list];obtain⟨i,σ3,H3,I3',Jk,Jl,w3⟩:=hI;rcases turn i n σ3 H3 w3 with⟨stop,qn⟩|⟨go,N,hN,step⟩
  .refine UM (Wj (UM (bI (T.done (cf X scope cl NC fp B.heap.objs.size B (upd H2 E.heap.objs.size (.lst []))) rfl rfl rfl hc i [] s' σ3 H3 _ I3' (GO Jl) Jk stop) λr s4 ⟨hr,I4⟩=>?_)));subst hr;exact US (K _ _ _ _ _ _ _ _ I3 f3 I4 qn)
  refine UM (Wj (UM (bI (T.item (cf X scope cl NC fp B.heap.objs.size B (upd H2 E.heap.objs.size (.lst []))) rfl rfl rfl hc i [] s' σ3 H3 _ I3' (GO Jl) Jk go) λr s4 ⟨u,hr,h4⟩=>?_)));subst hr;refine UM (bI h4 λ_ s5 zq=>?_);obtain⟨x,H5,I5,r5,y5,Gm,Mt⟩:=zq;have Mu:=I5.pinned (GO Mt) (T.obj _ _ Gm);refine UM (rL (hg fp _ B _ _ s5 σ3 H5 x u _ Mu r5 (step x H5 y5)) λ_ s6 ⟨Z,H6,I6,q6⟩=>?_);have again:∀{s7:UW}{H7:Hp},Inv (cf X scope cl NC fp B.heap.objs.size B (upd H2 E.heap.objs.size (.lst []))) ([]++ot fp s5.heap) Z H7 s7->N Z H7 ->
    ∃m,m<n/\∃i σ' H',Inv (cf X scope cl NC fp B.heap.objs.size B (upd H2 E.heap.objs.size (.lst []))) [] σ' H' s7/\tn i s7.heap/\(∀b∈fp,H' b=none)/\W i m σ' H':=λ{s7 H7} I7 n7=>by
   obtain⟨m',hm,w7⟩:=hN Z H7 n7;refine⟨m',hm,i+1,Z,H7,I7.kj,T.keep _ _ _ Gm λb M o e=>(I7.pin (b,o) (Pp _ (Pp _ (gZ M e)))).1,λb M=>?_,w7⟩;obtain⟨o,e,d⟩:=T.obj _ _ Gm b M;exact(I7.pin (b,o) (Pp _ (Pp _ (gZ M e)))).2.1
  refine UM (rL (ht fp _ B _ _ s6 Z H6 _ I6 q6) λok s7 ⟨H7,I7,q7⟩=>?_);cases ok with
  |false=>exact US ⟨rfl,again I7 q7⟩
  |true =>
   refine UM (UM (rL (he fp _ B _ _ s7 Z H7 _ I7 q7) λu8 s8 zq=>?_));obtain⟨v8,H8,I8,r8,ys,hy,hz,n8⟩:=zq;refine UM (rL (fF _ s8 Z H8 (.ref E.heap.objs.size) [v8] (.ref E.heap.objs.size) [u8] (λ_ H9=>N Z H9) I8 rfl (.cons r8 .nil) ⟨_,ys,v8,rfl,rfl,hy,hz,n8⟩) λ_ s9 zq=>?_);obtain⟨_,H9,I9,_,n9⟩:=zq;exact US (US ⟨rfl,again I9 n9⟩)
 exact codeAny_compStart_list (loop _ rfl) (T.self _ 0 _ _ _ st1 (loop _ rfl))
theorem du{X:Cx}{z iter M:Vc}{B:List Vc}{scope:V3}{pos:V6}{J:List (Vg×UR)}{NC:List Vg}{E:List (Option Nat)}{Z:TI}{g:TG}{tt:TT}{te:TE}
  (hc:X.calm=true) (O:hH X scope J NC E) (hi:PI X M iter Z)
  (hg:∀fp C s₀ H₀,PG (cf X scope J NC fp C s₀ H₀) M g) (ht:∀fp C s₀ H₀,JD (cf X scope J NC fp C s₀ H₀) B tt) (he:∀fp C s₀ H₀,PE (cf X scope J NC fp C s₀ H₀) z te)
  (hs:∀x,V7 iter X.env x=pure x:=by intro _;rfl):PE X (.ListComp z [⟨M,iter,B,0⟩] scope pos) (AR Z g tt te E):=by
 intro pins s σ H Q I h;rw[eval_ListComp];refine qH hc O hi hg ht he hs I h λD fp s3 s4 σ3 H0 H3 u I3 f3 I4 qn=>?_;obtain⟨m',U,_⟩:=I4.loc;exact⟨m',U,λh' V=>⟨.ref D,H3,comp_back I3 f3 I4 V,rfl,qn⟩⟩
theorem fL{lo:Int}{n:Nat}{g:TG}{J:TT}{M:TE}{D:UR}{Q:VK}{z:St}{H₀:Hp}(Pv:Nat->St->Hp->Prop)(V:Pv 0 z H₀)
  (hs:∀i σ H,i<n->Pv i σ H->g (.int (lo+i)) σ H λB Z=>J B Z λb O=>if b=true then M B O λv U=>∃ys,U D=Yl (.lst ys)/\ys.length<U2/\Pv (i+1) B (upd U D (.lst (ys++[v])))else Pv (i+1) B O)
  (hd:∀σ H,Pv n σ H->Q (.ref D) H):kC (Fd lo n) g J M D Q z H₀:=by
 refine⟨λi m σ H=>m=n-i/\i<=n/\Pv i σ H,⟨n,by simp,PQ _,V⟩,?_⟩;rintro i m σ H ⟨rfl,hi,p⟩;by_cases E:i<n
 .refine .inr ⟨E,Pv (i+1),λσ' H' p'=>⟨n-(i+1),by omega,rfl,E,p'⟩,λx H' y=>?_⟩;obtain⟨e,y⟩:=y;subst e y;exact hs i σ _ E p
 have e:i=n:=by omega
 subst e;exact .inl ⟨O5 _,hd σ H p⟩
theorem dD{K:Pa}{a:UR}{xs:List V}{g:TG}{J:TT}{M:TE}{D:UR}{Q:VK}{z:St}{H₀:Hp}(Pv:Nat->St->Hp->Prop)(Z:Pv 0 z H₀)(hl:∀i σ H,i<=xs.length->Pv i σ H->bc K H a xs)
  (hs:∀i x σ H,xs[i]?=Yl x->Pv i σ H->g x σ H λB H3=>J B H3 λb O=>if b=true then M B O λv U=>∃ys,U D=Yl (.lst ys)/\ys.length<U2/\Pv (i+1) B (upd U D (.lst (ys++[v])))else Pv (i+1) B O)
  (hd:∀σ H,Pv xs.length σ H->Q (.ref D) H):kC (Io K a) g J M D Q z H₀:=by
 refine⟨λi m σ H=>m=xs.length-i/\i<=xs.length/\Pv i σ H,⟨xs.length,by simp,PQ _,Z⟩,?_⟩;rintro i m σ H ⟨rfl,hi,p⟩;have q:=hl i σ H hi p;by_cases E:i<xs.length
 .refine .inr ⟨⟨xs,xs[i],q,by simp[E]⟩,Pv (i+1),λσ' H' p'=>⟨xs.length-(i+1),by omega,rfl,E,p'⟩,λx H' y=>?_⟩;obtain⟨e,y⟩:=y;subst e;exact hs i x σ _ (y xs q) p
 have e:i=xs.length:=by omega
 subst e;exact .inl ⟨⟨xs,q,O5 _⟩,hd σ H p⟩
theorem jh{X:Cx}{scope:V3}{NC:List Vg}(z:scope.kind=.function)(h:∀y∈scope.names,y.2≠.cell/\y.2≠.free)(J:∀y∈scope.names,y.2=.local->scope.names.lookup y.1=Yl .local) :
  hH X scope [] NC (R7 NC.length none) where
 AN:=closureFor_none λx M=>(h x M).2
 cell:=λy D=>(h y D).1
 kind:=z
 names:=J
 cls:=λx c e=>by cases e
 has:=λx e=>by
  exfalso;have key:∀k,(VZ scope X.env).names.lookup x=Yl k->k=.cell\/k=.free->False:=λk e B=>by
   have O:=PySem.mem_of_lookup e;obtain⟨⟨n,U⟩,D,H⟩:=O4.mp O;have E:=h _ D;have V:(U==NameKind.free)=false:=by simpa using E.2
   simp only[V,R6,Qg,Vq,Prod.mk.injEq]at H;obtain⟨_,rfl⟩:=H;rcases B with B|B
   .exact E.1 B
   exact E.2 B
  rcases e with e|e
  .exact key _ e (.inl rfl)
  exact key _ e (.inr rfl)
 len:=by simp
 src:=λi j x e _=>by
  rw[Q6]at e
  split at e <;> cases e
section
variable {X:Cx}
theorem yU:eI X (.type "range") (λxs H Q=>∃i j,xs=[.int i,.int j]/\∀p,H p=none->Q (.ref p) (upd H p (.ql i j))):=by
 intro pins s σ H xs D Q I r h;obtain⟨i,j,rfl,q⟩:=h;obtain⟨u,v,rfl,z,B⟩:=r.two;obtain⟨t,rfl⟩:=z;obtain⟨t',rfl⟩:=B;refine call_range_2 ⟨.ref s.heap.objs.size,_,I.laid (o:=.ql i j) (λb u e=>O8 _ e) (O5 _) ?_,rfl,q _ (I.ba.fresh (O5 _))⟩;exact⟨_,_,_,Pn _ rfl⟩
noncomputable def rM(lo:Int)(n:Nat):List V:=(Pu n).map λ(i:Nat)=>V.int (lo+i)
theorem oG(lo:Int)(n:Nat):(rM lo n).length=n:=by unfold rM;rw[O0,PL]
theorem AS{lo:Int}{n i:Nat}(h:i<n):(rM lo n)[i]?=Yl (.int (lo+i)):=by
 unfold rM;rw[O6,QM h]
 rfl
theorem pR(M:X.calm=true):eI X (.type "list") (λxs H Q=>∃p lo hi,xs=[.ref p]/\H p=Yl (.ql lo hi)/\(-(2 ^ 62)<=lo/\lo<2 ^ 62/\-(2 ^ 62)<=hi/\hi<2 ^ 62)/\(hi-lo).toNat<=2 ^ 20 /\
  ∀l,H l=none->Q (.ref l) (upd H l (.lst (rM lo (hi-lo).toNat)))):=by
 intro pins s σ H xs us Q I r h;obtain⟨p,lo,hi,rfl,O,⟨U,V,Z,b4⟩,hz,q⟩:=h;obtain⟨u,rfl,ru⟩:=r.one;cases ru;obtain⟨t,u',v',e⟩:=I.ba p _ O;have hsz:(hi-lo).toNat<=sizeLine:=PH hz (by decide);refine call_list_range (n:=(hi-lo).toNat) (I.ok.hd M) (show IsRange s.heap p lo hi 1 t u' v' from e) (small_one U V Z b4) (by rw[rangeSize_one];split <;> omega) (PH hz (by decide)) λh' tk D c' hk E B=>?_;refine⟨.ref s.heap.objs.size,_,I.laid (o:=.lst (rM lo (hi-lo).toNat)) (t':=tk) hk (O5 _) ⟨by rw[oG];exact hsz,D.toList,c',?_,by simpa using E⟩,rfl,q _ (I.ba.fresh (O5 _))⟩;refine fZ (by rw[oG,QU,B.1]) λi x w e1 e2=>?_;have J:i<(hi-lo).toNat:=by
  have z:=(O1.mp e1).1;rw[oG]at z;exact z
 rw[AS J]at e1;cases e1;obtain⟨t,rfl⟩:=B.2 i w (by simpa using e2);exact⟨t,by rw[UK]⟩
theorem tS:eI X (.builtin "isinstance") (λxs H Q=>∃x n t b,xs=[x,.ty n]/\md X.K H x t/\RI X.K t (.type n)=Yl b/\Q (.bl b) H):=by
 intro pins s σ H xs E Q I r h;obtain⟨x,n,t,b,rfl,ty,e,q⟩:=h;obtain⟨u,v,rfl,z,B⟩:=r.two;cases B;exact yO I z ty e λD=>⟨.bl b,H,I.tok D,rfl,q⟩
theorem tT(K:Pa):RI K (.type "int") (.type "int")=Yl true:=by unfold RI;rw[UQ (by decide +kernel)]
theorem rN(K:Pa):RI K (.type "int") (.type "bool")=Yl false:=by
 unfold RI;rw[UO (by decide +kernel)];show(if PySem.W.kitMeta "bool" = true then(fastBuiltinMro "int").map (·.contains (Value.type "bool"))else none)=Yl false;decide +kernel
end
structure Fn(K:Pa) (mg:Vg->Option UP) (x:Vg) (st:Wq) (ps:List Vg) (f:UR) (fd:Va):Prop where
 fn:AL K x x st f fd
 b:Binds K fd ps []
 g:mg x=Yl (.ref f)
theorem Fn.mk' {K : Pa}{mg : Vg -> Option UP}{x : Vg}{st : Wq}{ps : List Vg}{f : UR}{D : Va}(F : AL K x x st f D)
    (h:∀(kV doc E:UP) (an:Option UR) (z ct:UP) (B:List UP),B.length=ps.length->Wn (QB x x (cJ st) (bT st) (aB st) .none kV doc E an z ct) ⟨B,[]⟩=pure (ps.zip B))
    (g:mg x=Yl (.ref f)): Fn K mg x st ps f D:=⟨F,F.binds h,g⟩
theorem bA {X : Cx}{x : Vg}{st : Wq}{ps : List Vg}{f : UR}{E : Va}{k : Nat}{sp : Sp}{e : Vc}{z : List Vc}{t : TA}{p pos : V6}(G : a4 X.prog X.w X.K X.mg X.base cQ k f E ps sp)(F : Fn X.K X.mg x st ps f E)(H : fm k X.A)(J : PA X (e::z) t)
    (M:Gl X x:=by rfl) (B:(x==("__debug__" : Vg))=false:=by decide) (O:U6 (e::z) X.env=(false,eval e X.env)::U6 z X.env:=by rfl) (D:(backTo pos (U6 z X.env)).any (·.1)=false:=by rfl) :
    PE X (.Call (.Name x p) (e::z) [] pos) (Ax sp [] E0 t):= xc G H M F.g F.fn.kp F.b .nil JC J B O D
def AU(K:Pa):Sp:=λvs H Q _=>∃(a:UR) (ns:List Int),vs=[.ref a]/\bc K H a (ns.map V.int)/\ns.length<=63/\∀z,Q (.bl true) z
theorem au{H:Hp}{p:UR}{o:HO}(h:H p=none):ax H (upd H p o):=λb u e=>by rw[ao (aQ e h)];exact e
theorem ax.upd{H z:Hp}{p:UR}{o:HO}(s:ax H z)(h:H p=none):ax H (upd z p o):=λb u e=>by rw[ao (aQ e h)];exact s b u e
theorem GP{xs:List V}{k:Int}{v:V}(z:0<=k)(h:xs[k.toNat]?=Yl v):vn xs k=Yl v:=by
 have e:k=(k.toNat:Int):=by omega
 rw[e];exact bB h
theorem bu:Vi "len" = some (.builtin "len"):=by decide +kernel
theorem jG:Vi "isinstance" = some (.builtin "isinstance"):=by decide +kernel
theorem qJ:Vi "sorted" = some (.builtin "sorted"):=by decide +kernel
theorem AV:Vi "int" = some (.type "int"):=by decide +kernel
theorem DG:Vi "bool" = some (.type "bool"):=by decide +kernel
theorem jk:Vi "list" = some (.type "list"):=by decide +kernel
theorem iB:Vi "tuple" = some (.type "tuple"):=by decide +kernel
theorem AW:Vi "range" = some (.type "range"):=by decide +kernel
theorem kD:Vi "enumerate" = some (.type "enumerate"):=by decide +kernel
end L2
namespace Hp
open Classical
def Bt(x y a:Nat):Prop:=(x<a/\a<y)\/(y<a/\a<x)
section
variable {β:Type}{lb:Nat->Option β}
def Tc(lb:Nat->Option β)(v:β)(x y:Nat):Prop:=∃a b,lb a=Yl v/\lb b=Yl v/\Bt x y a/\¬Bt x y b
def Alt(lb:Nat->Option β)(v:β):Prop:=∃x y p q,lb x=Yl p/\lb y=Yl q/\p≠v/\q≠v/\Tc lb v x y
def NC(lb:Nat->Option β):Prop:=∀a b c d p q,p≠q->lb a=Yl p->lb b=Yl p->lb c=Yl q->lb d=Yl q->Bt a b c->Bt a b d
def Fi(lb:Nat->Option β)(p:β):Prop:=∃y,lb y=Yl p
def GQ(lb:Nat->Option β)(p:β):Prop:=Fi lb p/\¬Alt lb p
theorem iC{p q:β}{x y:Nat}(h:lb x=Yl p)(g:lb y=Yl q)(ne:p≠q):x≠y:=λe=>ne (by rw[e,g]at h;exact(Option.some.inj h).symm)
theorem bC{p:β}{x y:Nat}(h:lb x=Yl p)(g:lb y≠Yl p):x≠y:=λe=>g (by rw[<-e];exact h)
theorem xr{P Q:Prop}:(P↔¬Q)↔¬(P↔Q):=⟨λh g=>by
 by_cases q:Q
 .exact h.mp (g.mpr q) q
 exact q (g.mp (h.mpr q)),λh=>⟨λp q=>h ⟨λ_=>q,λ_=>p⟩,λq=>O2 λp=>h ⟨λz=>UU z p,λz=>UU z q⟩⟩⟩
theorem cg{x y a:Nat}:Bt x y a↔Bt y x a:=Or.comm
theorem il{a b c:Nat}(B:a≠c)(D:b≠c):Bt a b c↔(a<c↔¬b<c):=by
 unfold Bt;by_cases p:a<c
 .exact⟨λh=>⟨λ_=>by omega,λ_=>p⟩,λh=>.inl ⟨p,by have:=h.mp p;omega⟩⟩
 exact⟨λh=>⟨λz=>UU z p,λz=>by omega⟩,λh=>.inr ⟨O2 λz=>p (h.mpr z),by omega⟩⟩
theorem rO{a c:Nat}(h:a≠c):a<c↔¬c<a:=by omega
theorem MM{p q r s:Prop}:((p↔¬q)↔(r↔¬s))↔((¬p↔¬ ¬r)↔(¬q↔¬ ¬s)):=by
 by_cases z:p <;> by_cases B:q <;> by_cases D:r <;> by_cases hs:s <;> simp[z,B,D,hs]
theorem JF{x y a b:Nat}(z:a≠x)(B:a≠y)(D:b≠x)(E:b≠y):(Bt x y a↔Bt x y b)↔(Bt a b x↔Bt a b y):=by
 rw[il z.symm B.symm,il D.symm E.symm,il z D,il B E,rO z,rO D,rO B,rO E];exact MM
theorem GR{x y a b:Nat}(B:a≠x)(D:a≠y)(E:b≠x)(H:b≠y)(h:Bt x y a)(g:¬Bt x y b):Bt a b x↔¬Bt a b y:=xr.mpr λz=>g (((JF B D E H).mpr z).mp h)
theorem DH{x y a b:Nat}(B:a≠x)(D:a≠y)(E:b≠x)(H:b≠y)(h:Bt a b x↔¬Bt a b y):Bt x y a↔¬Bt x y b:=xr.mpr λz=>xr.mp h ((JF B D E H).mp z)
theorem jR{a b x:Nat}(h:a<b):Bt a b x↔a<x/\x<b:=⟨λz=>z.elim id λw=>by omega,.inl⟩
theorem nL{a b c d x:Nat}(B:a<b)(D:c<d)(V:a≠c)(Z:b≠d)(E:Bt a b c↔¬Bt a b x)(H:Bt a b d↔¬Bt a b x)(J:Bt c d a↔¬Bt c d x)(M:Bt c d b↔¬Bt c d x):False:=by
 rw[jR B]at E H;rw[jR B]at E H;rw[jR D]at J M;rw[jR D]at J M;by_cases p:a<x/\x<b
 .have U:=λz=>E.mp z p;have d1:=λz=>H.mp z p;clear E H;by_cases q:c<x/\x<d
  .have O:=λz=>J.mp z q;exact O ⟨O2 λz=>U ⟨by omega,by omega⟩,by omega⟩
  have O:=J.mpr q;have b1:=M.mpr q;exact q ⟨by omega,by omega⟩
 have U:=E.mpr p;have d1:=H.mpr p;by_cases q:c<x/\x<d
 .exact p ⟨by omega,by omega⟩
 have O:=J.mpr q;omega
theorem AX{a b c d x:Nat}(V:x≠a)(Z:x≠b)(hxc:x≠c)(hxd:x≠d)(J:a≠c)(M:a≠d)(O:b≠c)(U:b≠d)(B:Bt a b c↔¬Bt a b x)(E:Bt a b d↔¬Bt a b x)(D:Bt c d a↔¬Bt c d x)(H:Bt c d b↔¬Bt c d x):False:=by
 have n1:a≠b:=λe=>by
  subst e;by_cases z:Bt a a x
  .exact UU z (by unfold Bt;omega)
  exact UU (B.mpr z) (by unfold Bt;omega)
 have n2:c≠d:=λe=>by
  subst e;by_cases z:Bt c c x
  .exact UU z (by unfold Bt;omega)
  exact UU (D.mpr z) (by unfold Bt;omega)
 rcases QP n1 with p|p <;> rcases QP n2 with q|q
 .exact nL p q J U B E D H
 .rw[@cg c d]at D H;rw[@cg c d]at D H;exact nL p q M O E B D H
 .rw[@cg a b]at B E;rw[@cg a b]at B E;exact nL p q O M B E H D
 rw[@cg a b]at B E;rw[@cg a b]at B E;rw[@cg c d]at D H;rw[@cg c d]at D H;exact nL p q U J E B H D
theorem Tc.symm{v:β}{x y:Nat}(h:Tc lb v x y):Tc lb v y x:=by
 obtain⟨a,b,B,D,E,H⟩:=h;exact⟨a,b,B,D,cg.mp E,λz=>H (cg.mp z)⟩
theorem Tc.self{v:β}{x:Nat}:¬Tc lb v x x:=λ⟨a,b,B,D,z,E⟩=>by unfold Bt at z;omega
theorem Tc.mk'{v:β}{x y a b:Nat}(E:lb x≠Yl v)(H:lb y≠Yl v)(B:lb a=Yl v)(D:lb b=Yl v)(h:Bt a b x↔¬Bt a b y):Tc lb v x y:=by
 have s:=DH (bC B E) (bC B H) (bC D E) (bC D H) h;by_cases z:Bt x y a
 .exact⟨a,b,B,D,z,s.mp z⟩
 exact⟨b,a,D,B,O2 λw=>z (s.mpr w),z⟩
theorem Tc.ex{v:β}{x y:Nat}(D:lb x≠Yl v)(E:lb y≠Yl v)(h:Tc lb v x y):∃a b,lb a=Yl v/\lb b=Yl v/\(Bt a b x↔¬Bt a b y):=by
 obtain⟨a,b,z,B,H,J⟩:=h;exact⟨a,b,z,B,GR (bC z D) (bC z E) (bC B D) (bC B E) H J⟩
theorem Tc.or{v:β}{x y z:Nat}(B:lb x≠Yl v)(D:lb y≠Yl v)(hz:lb z≠Yl v)(h:Tc lb v x z):Tc lb v x y\/Tc lb v y z:=by
 obtain⟨a,b,E,H,s⟩:=h.ex B hz;by_cases c:Bt a b x↔Bt a b y
 .exact .inr (.mk' D hz E H (by rw[<-c];exact s))
 refine .inl (.mk' B D E H ?_);by_cases e:Bt a b x
 .exact⟨λ_ w=>c ⟨λ_=>w,λ_=>e⟩,λ_=>e⟩
 exact⟨λw=>UU w e,λw=>O2 λ_=>c ⟨λq=>UU q e,λq=>UU q w⟩⟩
theorem NC.tc(nc:NC lb){v s:β}{x y:Nat}(z:lb x=Yl s)(B:lb y=Yl s)(ne:s≠v):¬Tc lb v x y:=λ⟨a,b,D,E,H,J⟩=>J (nc x y a b s v ne z B D E H)
theorem DI(nc:NC lb){N:Nat}(hN:∀y,lb y≠none->y<N):∀(n:Nat) (v q:β) (x:Nat),((Pu N).filter λy=>decide (lb y≠none/\lb y≠Yl v/\¬Tc lb v x y)).length<=n->Fi lb v->lb x=Yl q->q≠v->∃r p,lb r=Yl p/\p≠v/\¬Tc lb v x r/\GQ lb p:=by
 intro n
 induction n with
 |zero =>
  intro v q x hl hv B ne;have:x∈(Pu N).filter λy=>decide (lb y≠none/\lb y≠Yl v/\¬Tc lb v x y):=O9.mpr ⟨Pm.mpr (hN x (by rw[B];simp)),UX ⟨by rw[B];simp,by rw[B];exactλz=>ne (Option.some.inj z),Tc.self⟩⟩;have:=Qm this;omega
 |succ n ih =>
  intro v q x hl hv B ne;by_cases al:Alt lb q
  .obtain⟨x1,y1,p1,q1,h1,h2,n1,n2,t⟩:=al;obtain⟨z,hz⟩:=hv;have O:v≠q:=Ne.symm ne;have lz:lb z≠Yl q:=by rw[hz];exactλe=>O (Option.some.inj e)
   have l1:lb x1≠Yl q:=by rw[h1];exactλe=>n1 (Option.some.inj e)
   have l2:lb y1≠Yl q:=by rw[h2];exactλe=>n2 (Option.some.inj e)
   obtain⟨D,J,E,H,tz⟩:∃D J,lb D=Yl J/\J≠q/\Tc lb q z D:=by
    rcases t.or l1 lz l2 with t|t
    .exact⟨x1,p1,h1,n1,t.symm⟩
    exact⟨y1,q1,h2,n2,t⟩
   have l':lb D≠Yl q:=by rw[E];exactλe=>H (Option.some.inj e)
   have key:∀y s,lb y=Yl s->s≠q->¬Tc lb q D y->s≠v/\¬Tc lb v x y:=λy s U ns V=>by
    have ly:lb y≠Yl q:=by rw[U];exactλe=>ns (Option.some.inj e)
    have pK:∀a,lb a=Yl v->Tc lb q a y:=λa M=>by
     have la:lb a≠Yl q:=by rw[M];exactλe=>O (Option.some.inj e)
     have t1:Tc lb q a D:=by
      rcases tz.or lz la l' with w|w
      .exact UU w (nc.tc hz M O)
      exact w
     rcases t1.or la ly l' with w|w
     .exact w
     exact UU w.symm V
    refine⟨λe=>?_,λtv=>?_⟩
    .subst e;exact nc.tc U U O (pK y U)
    obtain⟨a,b,M,hb,b1,b2⟩:=tv;obtain⟨c,d,hc,hd,c1,c2⟩:=pK a M;have:=nc x c a b q v ne B hc M hb (by unfold Bt at *;omega);unfold Bt at *;omega
   have np:J≠v:=(key D J E H Tc.self).1;have sub:((Pu N).filter λy=>decide (lb y≠none/\lb y≠Yl q/\¬Tc lb q D y)).length<((Pu N).filter λy=>decide (lb y≠none/\lb y≠Yl v/\¬Tc lb v x y)).length:=by
    have e:(Pu N).filter (λy=>decide (lb y≠none/\lb y≠Yl q/\¬Tc lb q D y))=((Pu N).filter λy=>decide (lb y≠none/\lb y≠Yl v/\¬Tc lb v x y)).filter λy=>decide (lb y≠none/\lb y≠Yl q/\¬Tc lb q D y):=by
     rw[List.filter_filter];refine TK λy _=>?_;by_cases w:lb y≠none/\lb y≠Yl q/\¬Tc lb q D y
     .obtain⟨Z,w2,w3⟩:=w;obtain⟨s,hs⟩:=Su.mp Z;obtain⟨k1,k2⟩:=key y s hs (λe=>w2 (by rw[hs,e])) w3;rw[UX (show _ from⟨Z,w2,w3⟩),UX (show _ from⟨Z,by rw[hs];exactλe=>k1 (Option.some.inj e),k2⟩)];rfl
     rw[U1 w];rfl
    rw[e];refine RT (PN _ _) λz=>?_;have:=List.length_filter_eq_length_iff.mp z x (O9.mpr ⟨Pm.mpr (hN x (by rw[B];simp)),UX ⟨by rw[B];simp,by rw[B];exactλz=>ne (Option.some.inj z),Tc.self⟩⟩);exact(U0 this).2.1 B
   obtain⟨r,p,hr,pq,V,hu⟩:=ih q J D (by omega) ⟨x,B⟩ E H;obtain⟨k1,k2⟩:=key r p hr pq V;exact⟨r,p,hr,k1,k2,hu⟩
  exact⟨x,q,B,ne,Tc.self,⟨x,B⟩,al⟩
end
end Hp
namespace qK
open PySem PySem.Spec PyProof.Rows
open Sem (wp)
open AutoSeq1 (wpAny_loadPart')
section
variable {prog:U3}{w:U4}{A:Ve}{E:UP->UW->Prop}{s:UW}
theorem nv{B t:UR}{i:Nat}{items:Array UP}{x:UP}{Q:UP->UW->Prop}(z:s.heap.IsTupleIter B t i)(M:s.heap.IsTuple t items)(O:items[i]?=Yl x)
  (U:∀h',h'.IsTupleIter B t (i+1)->Heap.SameBut B s.heap h'->Q x { s with heap:=h' }):wpAny (model prog w) A (Builtin.SmallTypes.nextOf (.ref B)) Q E s:=by
 obtain⟨o,D,V,hd⟩:=id z;obtain⟨Z,H,_,nl,J⟩:=M;unfold Builtin.SmallTypes.nextOf;refine UM (wpAny_callSpecial?_slot (name:=Str.ofString "__next__") z.typeIs F.slot_tuple_iterator_next (U8 F.slot_tuple_iterator_next z.typeIs F.entry_tuple_iterator_next ?_ (F.args_tuple_iterator_next_1 _)));show wpAny _ _ (field (.ref B) 0 >>= _) _ _ s;refine UM (Vf D hd (x:=.ref t) rfl ?_);show wpAny _ _ (if(Value.ref t==Value.none)=true then _ else _) _ _ s;rw[UO (show¬((Value.ref t==Value.none)=true)from Po)];show wpAny _ _ (field (.ref B) 1 >>= _) _ _ s;refine UM (Vf D hd (x:=.int i 0) rfl ?_);show wpAny _ _ (seqItems? (.ref t) >>= _) _ _ s;refine UM (V8 H J ?_);simp only[Qb,O];refine UM (VG D hd (by simp) (US ⟨x,rfl,US (U _ ?_ (Heap.SameBut.update ..))⟩));exact⟨_,QC _ D (Obj.isFreed_of_fields (Obj.data_mapFields hd _)),(Obj.cls_mapFields ..).trans V,by
  rw[Obj.data_mapFields hd];simp[rawInt]⟩
theorem oH{B t:UR}{i:Nat}{items:Array UP}{Q:UP->UW->Prop}(M:A.handled=none)(z:s.heap.IsTupleIter B t i)(O:s.heap.IsTuple t items)(U:items[i]?=none)
  (V:∀h' e,Heap.ExtBut B s.heap h'->(∃o,h'.get? e=Yl o/\o.cls=.type "StopIteration")->E (.ref e) { s with heap:=h' }):wpAny (model prog w) A (Builtin.SmallTypes.nextOf (.ref B)) Q E s:=by
 obtain⟨o,D,Z,hd⟩:=id z;obtain⟨ol,H,_,nl,J⟩:=O;unfold Builtin.SmallTypes.nextOf;refine UM (wpAny_callSpecial?_slot (name:=Str.ofString "__next__") z.typeIs F.slot_tuple_iterator_next (U8 F.slot_tuple_iterator_next z.typeIs F.entry_tuple_iterator_next ?_ (F.args_tuple_iterator_next_1 _)));show wpAny _ _ (field (.ref B) 0 >>= _) _ _ s;refine UM (Vf D hd (x:=.ref t) rfl ?_);show wpAny _ _ (if(Value.ref t==Value.none)=true then _ else _) _ _ s;rw[UO (show¬((Value.ref t==Value.none)=true)from Po)];show wpAny _ _ (field (.ref B) 1 >>= _) _ _ s;refine UM (Vf D hd (x:=.int i 0) rfl ?_);show wpAny _ _ (seqItems? (.ref t) >>= _) _ _ s;refine UM (V8 H J ?_);simp only[Qb,U];refine UM (VR (UM (VG D hd (by simp) ?_)));show wpAny _ _ (newExc (.type "StopIteration") [] >>= _) _ _ _;refine UM ?_;simp only[newExc,XC];refine UM (U9 ?_ (by size_fits));refine UM (m:=VH _ _) (VN (a:=Value.none) (by first|rfl|(simp only[VH];rfl)) ?_);refine U9 ?_ (by size_fits);simp only[X6];refine UM (WN ?_)
 first|rw[show A.in1.handled=none from M]|rw[M]
 refine UM (US (Xg ?_));exact V _ _ (((Heap.SameBut.update ..).extBut.push _).push _) ⟨_,Pn _ rfl,rfl⟩
theorem pS{e it l:UR}{i:Nat}{items:Array UP}{x old:UP}{Q:UP->UW->Prop}
  (he:WB s.heap e it i old) (hit:s.heap.IsTupleIter it l i) (hl:s.heap.IsTuple l items) (hx:items[i]?=Yl x) (AY:e≠it)
  (hQ:∀h',XN h' e it ((i:Int)+1) x s.heap.objs.size->h'.IsTupleIter it l (i+1)->h'.get? s.heap.objs.size=Yl { cls:=.type "tuple",data:=.seq #[.int i s.toks,x] }->h'.objs.size=s.heap.objs.size+1 ->
   (∀b o,b≠e->b≠it->s.heap.get? b=Yl o->h'.get? b=Yl o)->Q (.ref s.heap.objs.size) { s with heap:=h',toks:=s.toks+1 }) :
  wpAny (model prog w) A (Builtin.«enumerate.__next__» ⟨[.ref e],[]⟩) (λfin s'=>∃v,fin=.done (.ret v)/\Q v s') E s:=by
 obtain⟨hp,g,d,tk,os⟩:=s;show wpAny _ _ (field (.ref e) 2 >>= _) _ _ _;refine UM (Vf he rfl (x:=.ref it) rfl ?_);refine UM (nv hit hl hx λO AZ z=>?_)
 replace z:Heap.SameBut it hp O:=z
 have xo:WB O e it i old:=(z.2 e AY).trans he;show wpAny _ _ (field (.ref e) 3 >>= _) _ _ ⟨O,g,d,tk,os⟩;refine UM (Vf xo rfl (x:=rawInt i) rfl ?_);show wpAny _ _ (field (.ref e) 4 >>= _) _ _ ⟨O,g,d,tk,os⟩;refine UM (Vf xo rfl (x:=.none) rfl ?_);show wpAny _ _ (mkInt i >>= _) _ _ ⟨O,g,d,tk,os⟩;refine UM (wpAny_mkInt ?_);show wpAny _ _ (WW (.ref e) 3 (rawInt ((i:Int)+1)) >>= _) _ _ ⟨O,g,d,tk+1,os⟩;refine UM (Vl xo (by simp) λh₂ xp B=>?_)
 replace B:Heap.SameBut e O h₂:=B
 replace xp:WB h₂ e it ((i:Int)+1) old:=xp
 show wpAny _ _ (WW (.ref e) 4 .none >>= _) _ _ ⟨h₂,g,d,tk+1,os⟩;refine UM (Vl xp (by simp) λU mO D=>?_)
 replace D:Heap.SameBut e h₂ U:=D
 replace mO:WB U e it ((i:Int)+1) old:=mO
 show wpAny _ _ (XC [.int i tk,x] >>= _) _ _ ⟨U,g,d,tk+1,os⟩;refine UM (WC ?_);have mP:WB (U.push { cls:=.type "tuple",data:=.seq #[.int i tk,x] }) e it ((i:Int)+1) old:=O8 _ mO;generalize V:U.push { cls:=.type "tuple",data:=.seq #[.int i tk,x] }=Z at mP;have hsz:U.objs.size=hp.objs.size:=by rw[D.1,B.1,z.1]
 have Di:e<hp.objs.size:=Pt he;have JG:Z.get? hp.objs.size=Yl { cls:=.type "tuple",data:=.seq #[.int i tk,x] }:=by rw[<- V,<- hsz];exact Pn _ rfl
 have JH:Z.objs.size=hp.objs.size+1:=by rw[<-V,R8,hsz]
 have JI:∀b o,b≠e->b≠it->hp.get? b=Yl o->Z.get? b=Yl o:=λb o GS MN hb=>by
  rw[<-V];exact O8 _ (D.extBut b o GS (B.extBut b o GS (z.extBut b o MN hb)))
 have GU:Z.IsTupleIter it l (i+1):=by
  rw[<-V];obtain⟨o,ho,r⟩:=(AZ.extBut B.extBut (Ne.symm AY)).extBut D.extBut (Ne.symm AY);exact⟨o,O8 _ ho,r⟩
 show wpAny _ _ (Builtin.SmallTypes.ownedTupleIsFree (.ref e) >>= _) _ _ ⟨Z,g,d,tk+1,os⟩;rw[hsz];clear V mO D xp B xo z AZ hsz U h₂ O;refine UM ?_;unfold Builtin.SmallTypes.ownedTupleIsFree;refine UM (Vf mP rfl (x:=.none) rfl (US ?_));simp only[Wm];refine UM (VR ?_);refine UM (Vf mP rfl (x:=old) rfl ?_);refine UM (Vl mP (by simp) λh₅ oI H=>?_)
 replace H:Heap.SameBut e Z h₅:=H
 replace oI:WB h₅ e it ((i:Int)+1) x:=oI
 show wpAny _ _ (Builtin.SmallTypes.ownedTupleHandOut (.ref e) (.ref hp.objs.size) >>= _) _ _ ⟨h₅,g,d,tk+1,os⟩;refine UM ?_;unfold Builtin.SmallTypes.ownedTupleHandOut;refine UM (Vl oI (by simp) λh₆ oJ J=>?_)
 replace J:Heap.SameBut e h₅ h₆:=J
 replace oJ:XN h₆ e it ((i:Int)+1) x hp.objs.size:=oJ
 refine Vl oJ (by simp) λh₇ A0 M=>?_
 replace M:Heap.SameBut e h₆ h₇:=M
 replace A0:XN h₇ e it ((i:Int)+1) x hp.objs.size:=A0
 refine UM (Xh (US ⟨_,rfl,hQ h₇ A0 ?_ ?_ ?_ ?_⟩))
 .exact((GU.extBut H.extBut (Ne.symm AY)).extBut J.extBut (Ne.symm AY)).extBut M.extBut (Ne.symm AY)
 .exact M.extBut _ _ (Rf Di) (J.extBut _ _ (Rf Di) (H.extBut _ _ (Rf Di) JG))
 .rw[M.1,J.1,H.1,JH]
 exactλb o GS MN hb=>M.extBut b o GS (J.extBut b o GS (H.extBut b o GS (JI b o GS MN hb)))
theorem kE{e z l:UR}{i:Nat}{items:Array UP}{x old:UP}{Q:Option UP->UW->Prop}
  (H:WB s.heap e z i old) (B:s.heap.IsTupleIter z l i) (M:s.heap.IsTuple l items) (O:items[i]?=Yl x) (D:e≠z)
  (U:∀h',XN h' e z ((i:Int)+1) x s.heap.objs.size->h'.IsTupleIter z l (i+1)->h'.get? s.heap.objs.size=Yl { cls:=.type "tuple",data:=.seq #[.int i s.toks,x] }->h'.objs.size=s.heap.objs.size+1 ->
   (∀b o,b≠e->b≠z->s.heap.get? b=Yl o->h'.get? b=Yl o)->Q (Yl (.ref s.heap.objs.size)) { s with heap:=h',toks:=s.toks+1 }) :
  wpAny (model prog w) A (pyNext (.ref e)) Q E s:=by
 have J:s.TypeIs (.ref e) "enumerate":=⟨_,H,rfl⟩
 unfold pyNext;exact UM (VC (wpAny_callSpecial?_slot (name:=Str.ofString "__next__") J F.slot_enumerate_next
  (U8 F.slot_enumerate_next J F.entry_enumerate_next (pS H B M O D λh' a b c d k=>US (U h' a b c d k)) (F.args_enumerate_next_1 _))))
theorem mj{e z l:UR}{i:Nat}{items:Array UP}{old:UP}{Q:Option UP->UW->Prop}(O:A.handled=none)
  (J:WB s.heap e z i old) (B:s.heap.IsTupleIter z l i) (U:s.heap.IsTuple l items) (V:items[i]?=none)
  (Z:∀h',Heap.ExtBut z s.heap h'->Q none { s with heap:=h' }):wpAny (model prog w) A (pyNext (.ref e)) Q E s:=by
 have M:s.TypeIs (.ref e) "enumerate":=⟨_,J,rfl⟩
 unfold pyNext;refine UM (VC (wpAny_callSpecial?_slot (name:=Str.ofString "__next__") M F.slot_enumerate_next (U8 F.slot_enumerate_next M F.entry_enumerate_next ?_ (F.args_enumerate_next_1 _))));show wpAny _ _ (field (.ref e) 2 >>= _) _ _ _;refine UM (Vf J rfl (x:=.ref z) rfl ?_);refine UM (oH O B U V λh' x D H=>?_);obtain⟨o,ho,hc⟩:=H;refine UM (Vv (T:="StopIteration") (b:=true) ⟨o,ho,hc⟩ WD ?_);exact US (Z _ D)
theorem oK(l:UR)(items:Array UP)(n:Nat)(B:Option UR)(H:Array (Option UP)) :
  Meets (Builtin.«enumerate.__new__» ⟨[.type "enumerate",.ref l],[]⟩) (λ_ R s=>s.heap.get? l=Yl { cls:=.type "tuple",dict:=B,data:=.seq items n,slots:=H } /\
   R (.ok (.ret (.ref (s.heap.push { cls:=.type "tuple_iterator",data:=.fields #[.ref l,.int 0 0] }).objs.size)))
    { s with heap:=(s.heap.push { cls:=.type "tuple_iterator",data:=.fields #[.ref l,.int 0 0] }).push { cls:=.type "enumerate",data:=.fields #[.none,.bool false,.ref s.heap.objs.size,rawInt 0,.none,.none] } }):=
 .of_wp λprog w A R s h=>by
  obtain⟨J,g,d,M,os⟩:=s;obtain⟨z,h⟩:=h;have E:=sub_enumerate;have D:Heap.IsTuple (Shared.heap ⟨J,g,d,M,os⟩) l items:=⟨_,z,rfl,n,rfl⟩
  wp_walk using Vs z
  refine wpAny_stack_any λst=>US ?_
  split
  .rename_i c _ _ _ _ _;cases(c==Value.type "enumerate")
   .wp_walk using Vs z,V2 D
    exact⟨_,rfl,h⟩
   wp_walk using Vs z,V2 D
   exact⟨_,rfl,h⟩
  wp_walk using Vs z,V2 D
  exact⟨_,rfl,h⟩
theorem pT{l:UR}{items:Array UP}{Q:UP->UW->Prop}(H:s.heap.IsTuple l items)
  (h:∀h',WB h' (s.heap.objs.size+1) s.heap.objs.size 0 .none->h'.IsTupleIter s.heap.objs.size l 0->h'.objs.size=s.heap.objs.size+2 ->
   (∀b o,s.heap.get? b=Yl o->h'.get? b=Yl o)->Q (.ref (s.heap.objs.size+1)) { s with heap:=h' }) :
  wpAny (model prog w) A (call (.type "enumerate") [.ref l]) Q E s:=by
 obtain⟨⟨c,z,J,M⟩,O,B,n,hd⟩:=H
 replace B:c=.type "tuple":=B
 replace hd:J=.seq items n:=hd
 subst B hd;refine callType_new F.called_enumerate (by decide) (F.typeCall_enumerate_1 _) (F.newCall_enumerate_1 _) (λobj=>F.args_object_init_2 obj _) F.entry_enumerate_new
  (oK l items n z M) ⟨O,?_⟩
 have hz:(s.heap.push { cls:=.type "tuple_iterator",data:=.fields #[.ref l,.int 0 0] }).objs.size=s.heap.objs.size+1:=R8 ..;show _/\_;rw[hz];have D:WB ((s.heap.push { cls:=.type "tuple_iterator",data:=.fields #[.ref l,.int 0 0] }).push
   { cls:=.type "enumerate",data:=.fields #[.none,.bool false,.ref s.heap.objs.size,rawInt 0,.none,.none] }) (s.heap.objs.size+1) s.heap.objs.size 0 .none:=by
  have:=Pn (s.heap.push { cls:=.type "tuple_iterator",data:=.fields #[.ref l,.int 0 0] })
   (o:={ cls:=.type "enumerate",data:=.fields #[.none,.bool false,.ref s.heap.objs.size,rawInt 0,.none,.none] }) rfl
  rw[hz]at this;exact this
 refine⟨⟨_,D,rfl⟩,h _ D ⟨_,O8 _ (Pn _ rfl),rfl,rfl⟩ (by rw[R8,hz]) λb o x=>O8 _ (O8 _ x)⟩
end
end qK
namespace L2
open PySem PySem.Spec PyProof.Rows
noncomputable def JJ(K:Pa)(a:UR):It :=
 ⟨λi H=>∃xs x,bZ K H a xs/\xs[i]?=Yl x,λi H y z=>∃t x,y=.ref t/\H t=none/\z=upd H t (.tup [.int i,x])/\∀xs,bZ K H a xs->xs[i]?=Yl x,λi H=>∃xs,bZ K H a xs/\xs.length<=i⟩
theorem vJ{P:U3}{w:U4}{K:Pa}{elts:List Vc}{x1:Nat}{tp:V6}(a e J:UR)(JK:e≠J) :
  Turn P w K (.Tuple elts x1 tp) (JJ K a) [e,J] e (λi h=>(∃old,WB h e J i old)/\h.IsTupleIter J a i) where
 mem:=by simp
 obj:=λi h st b D=>by
  obtain⟨⟨old,V⟩,M⟩:=st;rcases Pq.mp D with rfl|D
  .exact⟨_,V,λv z=>by
    have z':Data.fields _=Data.cell v:=z;cases z'⟩
  have e1:b=J:=by simpa using D
  subst e1;obtain⟨o,e,c,d⟩:=M;exact⟨o,e,λv z=>by rw[d]at z;cases z⟩
 keep:=λi h h' st k=>⟨let⟨old,V⟩:=st.1;⟨old,k e (by simp) _ V⟩,let⟨o,ho,r⟩:=st.2;⟨o,k J (by simp) o ho,r⟩⟩
 item:=by
  intro X hP hw hK Z i pins s σ H E I hf st hg;subst hP hw hK;obtain⟨⟨old,V⟩,M⟩:=st;obtain⟨xs,x,hq,hx⟩:=hg;obtain⟨its,rv,p,hz⟩:=I.tuple hq;obtain⟨u,hu,ru⟩:=rv.get hx;obtain⟨f0,f1,f2,f3,f4,f5⟩:=hf e (by simp);obtain⟨g0,g1,g2,g3,g4,g5⟩:=hf J (by simp);refine qK.kE V M (show s.heap.IsTuple a its.toArray from p) (x:=u) (by simpa using hu) JK λh' JL GV hT hsz hk=>?_;refine⟨_,rfl,WE JL λA1 A2 U=>?_⟩;have A3:e<s.heap.objs.size:=Pt V;have k2:∀b o,b≠e->b≠J->s.heap.get? b=Yl o->A1.get? b=Yl o:=λb o h1 h2 q=>(U.2 b h1).trans (hk b o h1 h2 q);have JM:A1.get? s.heap.objs.size=Yl { cls:=.type "tuple",data:=.seq #[.int i s.toks,u] }:=(U.2 _ (Rf A3)).trans hT;have O:H s.heap.objs.size=none:=I.ba.fresh (O5 _);have neT:∀{b:UR} {o:VE},s.heap.get? b=Yl o->b≠s.heap.objs.size:=λq=>PR (Pt q);have qm:∀{b:UR} {o:HO},H b=Yl o->b≠e/\b≠J:=λq=>⟨λz=>(by rw[z,f0]at q;cases q),λz=>(by rw[z,g0]at q;cases q)⟩
  have I2:Inv X pins σ (upd H s.heap.objs.size (.tup [.int i,x])) { s with heap:=A1,toks:=s.toks+1 }:=by
   refine I.step (g':=s.gens) (d':=s.drawn) (ch:=[e,J]) (λb D=>?_) (λb o _ _ B q _=>k2 b o (λz=>B (by simp[z])) (λz=>B (by simp[z])) q) (λb o _ _ B q _=>⟨o.slots,k2 b o (λz=>B (by simp[z])) (λz=>B (by simp[z])) q⟩)
    (λb o _ q n=>by rw[ao (neT q)];exact n) (λb o B q=>⟨o,k2 b o (λz=>B (by simp[z])) (λz=>B (by simp[z])) q⟩) (λb ys q=>by rw[ao (aQ q O)];exact q) (λb o ys q=>by rw[ao (aQ q O)];exact q)
    (λb ps q=>⟨#[],by rw[ao (aQ q O),q];simp⟩) (λm hm=>?_) (λb v q=>?_) I.bare
   .rcases Pq.mp D with rfl|D
    .exact⟨f3,f1,f4,f5⟩
    have e1:b=J:=by simpa using D
    subst e1;exact⟨g3,g1,g4,g5⟩
   .obtain⟨o,es,ep,ho,r⟩:=hm;exact⟨o,es,ep,k2 _ o (Ne.symm f1) (Ne.symm g1) ho,r⟩
   by_cases D:b=s.heap.objs.size
   .subst D;rw[ag]at q;cases q;exact⟨by show 2<=U2;decide,[.int i s.toks,u],.cons ⟨_,rfl⟩ (.cons ru .nil),_,JM,rfl,_,rfl⟩
   rw[ao D]at q;refine(I.ba b v q).pL (λc o Z z=>?_) (λc z=>by rw[ao (aQ z O)];exact z) λc ys z=>by rw[ao (aQ z O)];exact z
   rcases Z with rfl|Z
   .exact k2 c o (qm q).1 (qm q).2 z
   exact k2 c o (qm Z).1 (qm Z).2 z
  refine⟨.ref s.heap.objs.size,_,I2,rfl,⟨_,x,rfl,O,rfl,λys hy=>by rw[I.qq hy hq];exact hx⟩,⟨⟨u,by simpa using A2⟩,?_⟩,λb D=>?_⟩
  .obtain⟨o,q,r⟩:=GV;exact⟨o,(U.2 J (Ne.symm JK)).trans q,r⟩
  rcases Pq.mp D with rfl|D
  .rw[ao (PR A3)];exact f0
  have e1:b=J:=by simpa using D
  subst e1;obtain⟨o,q,_⟩:=M;rw[ao (neT q)];exact g0
 done:=by
  intro X hP hw hK Z i pins s σ H E I hf st hg;subst hP hw hK;obtain⟨⟨old,V⟩,M⟩:=st;obtain⟨xs,hq,hx⟩:=hg;obtain⟨its,rv,p,hz⟩:=I.tuple hq;obtain⟨g0,g1,g2,g3,g4,g5⟩:=hf J (by simp);have hl:=rv.length;exact qK.mj (I.ok.hd Z) V M (show s.heap.IsTuple a its.toArray from p) (by simp;omega) λh' eb=>⟨rfl,I.turned (t':=s.toks) (λb o D q=>eb b o D q) g0 g1 g3 g4 g5⟩
 self:=λ_ _ _ _ _ st h=>let⟨_,V⟩:=st.1;V9 V h
section
variable {X:Cx}
noncomputable def JN(K:Pa)(B:TA):TI:=λσ H R=>B σ H λvs z=>∃a,vs=[.ref a]/\(∃xs,bZ K z a xs)/\R (JJ K a) z
theorem DJ {K : Pa}{z : List Vc}{k : Nat}{t : Fc}{n : Nat}{pos : V6}(D : X.K=K)(E : X.calm=true)(h : Je X z t)
    (H:(V1 z X.env).length=n:=by rfl) (B:(V1 z X.env).findIdx? (·.1)=none:=by rfl): PG X (.Tuple z k pos) (Jh K n t):= D▸l8 E h H B
theorem A4{a:Vc}{J:TA}{p pos:V6}{elts:List Vc}{U:Nat}{V:V6}(Z:Gl X "enumerate")(hm:X.mg "enumerate" = none)(ha:PA X [a] J)(hs:U6 [a] X.env=[(false,eval a X.env)]:=by rfl) :
  PI X (.Tuple elts U V) (.Call (.Name "enumerate" p) [a] [] pos) (JN X.K J):=by
 intro pins s σ H R I h;refine X0 (fG I Z hm kD (Qi (bI (ha pos pins s σ H _ I h) λus z ⟨vs,M,B,r1,q1⟩=>?_) hs rfl));obtain⟨l,e,⟨xs,hq⟩,q⟩:=q1;subst e;cases r1 with
 |cons r rr =>
  cases rr;cases r;obtain⟨its,rv,ht,hz⟩:=B.tuple hq;refine qK.pT (show z.heap.IsTuple l its.toArray from ht) λh' O D hsz hk=>?_;have I2:Inv X pins σ M { z with heap:=h' }:=B.kept (t':=z.toks) hk;refine V9 O ?_;refine⟨z.heap.objs.size+1,[z.heap.objs.size+1,z.heap.objs.size],_,_,M,rfl,I2,vJ l _ _ (Ui _),⟨⟨_,O⟩,D⟩,λb E=>?_,q⟩;rcases Pq.mp E with rfl|E
  .exact(B.l9 (Rj _) (B.ba.fresh (Rj _)))
  have e:b=z.heap.objs.size:=by simpa using E
  subst e;exact B.l9 (O5 _) (B.ba.fresh (O5 _))
theorem A5{K:Pa}{a:UR}{xs:List V}{g:TG}{U:TS}{D:Ends}{σ:St}{H:Hp}(Pv:Nat->St->Hp->Prop)(h0:Pv 0 σ H)(hl:∀i σ H,i<=xs.length->Pv i σ H->bZ K H a xs)
  (hs:∀i x t σ H,xs[i]?=Yl x->Pv i σ H->H t=none->g (.ref t) σ (upd H t (.tup [.int i,x])) λB O=>U { D with nx:=Pv (i+1),ct:=Pv (i+1),bk:=D.nx } B O) (hd:∀σ H,Pv xs.length σ H->D.nx σ H) :
  ∃W:Nat->Nat->St->Hp->Prop,(∃m,W 0 m σ H)/\∀i m σ H,W i m σ H ->
   ((JJ K a).stop i H/\D.nx σ H)\/((JJ K a).go i H/\∃N:St->Hp->Prop,(∀E J,N E J->∃Z,Z<m/\W (i+1) Z E J)/\∀x J,(JJ K a).Gj i H x J->g x σ J λB O=>U { D with nx:=N,ct:=N,bk:=D.nx } B O):=by
 refine⟨λi m σ H=>m=xs.length-i/\i<=xs.length/\Pv i σ H,⟨xs.length,by simp,PQ _,h0⟩,?_⟩;rintro i m σ H ⟨rfl,hi,p⟩;have q:=hl i σ H hi p;by_cases M:i<xs.length
 .refine .inr ⟨⟨xs,xs[i],q,by simp[M]⟩,Pv (i+1),λE J p'=>⟨xs.length-(i+1),by omega,rfl,M,p'⟩,λx J y=>?_⟩;obtain⟨t,z,e,hn,e2,y⟩:=y;subst e e2;exact hs i z t σ _ (y xs q) p hn
 have e:i=xs.length:=by omega
 subst e;exact .inl ⟨⟨xs,q,O5 _⟩,hd σ H p⟩
theorem A6{K:Pa}{a:UR}{xs:List V}{g:TG}{J:TT}{M:TE}{D:UR}{Q:VK}{z:St}{H₀:Hp}(Pv:Nat->St->Hp->Prop)(Z:Pv 0 z H₀)(hl:∀i σ H,i<=xs.length->Pv i σ H->bZ K H a xs)
  (hs:∀i x σ H,xs[i]?=Yl x->Pv i σ H->g x σ H λB H3=>J B H3 λb O=>if b=true then M B O λv U=>∃ys,U D=Yl (.lst ys)/\ys.length<U2/\Pv (i+1) B (upd U D (.lst (ys++[v])))else Pv (i+1) B O)
  (hd:∀σ H,Pv xs.length σ H->Q (.ref D) H):kC (Mq K a) g J M D Q z H₀:=by
 refine⟨λi m σ H=>m=xs.length-i/\i<=xs.length/\Pv i σ H,⟨xs.length,by simp,PQ _,Z⟩,?_⟩;rintro i m σ H ⟨rfl,hi,p⟩;have q:=hl i σ H hi p;by_cases E:i<xs.length
 .refine .inr ⟨⟨xs,xs[i],q,by simp[E]⟩,Pv (i+1),λσ' H' p'=>⟨xs.length-(i+1),by omega,rfl,E,p'⟩,λx H' y=>?_⟩;obtain⟨e,y⟩:=y;subst e;exact hs i x σ _ (y xs q) p
 have e:i=xs.length:=by omega
 subst e;exact .inl ⟨⟨xs,q,O5 _⟩,hd σ H p⟩
end
theorem bh.obj{P:U3}{w:U4}{H:Hp}{h:Vd}{a:UR}:∀{o:HO},bh P w H h a o->∃u,h.get? a=Yl u:=λ{o} x=>by
 cases o with
 |lst xs=>obtain⟨_,_,_,_,e⟩:=x;exact⟨_,e⟩
 |tup xs=>obtain⟨_,_,_,o,e,_⟩:=x;exact⟨_,e⟩
 |dK kvs=>obtain⟨_,_,_,_,o,_,_,e,_⟩:=x;exact⟨_,e⟩
 |dT kvs=>obtain⟨_,_,_,_,o,_,_,e,_⟩:=x;exact⟨_,e⟩
 |set S n=>obtain⟨o,_,_,_,e,_⟩:=x;exact⟨_,e⟩
 |ins C z fs=>obtain⟨_,_,_,e,_⟩:=x;exact⟨_,e⟩
 |own y=>exact x
 |xd fs=>obtain⟨_,⟨_,_,_,e,_⟩,_⟩:=x;exact⟨_,e⟩
 |ql lo hi=>obtain⟨_,_,_,e⟩:=x;exact⟨_,e⟩
 |gv B u=>obtain⟨e,_⟩:=x;exact⟨_,e⟩
 |E9 ps=>exact⟨_,(show h.get? a=Yl _ from x)⟩
 |met f y=>exact⟨_,(show h.get? a=Yl _ from x)⟩
 |ext φ=>obtain⟨_,e,_⟩:=x;exact e
noncomputable def A7(h:Vd)(l:List Xx):Heap:=Us h (ki l)
theorem tU{h:Vd}{l:List Xx}{b:UR}{o:VE}(e:h.get? b=Yl o)(n:b∉ki l):(A7 h l).get? b=Yl o:=Ti _ e n
theorem xq{h:Vd}{l:List Xx}{b:UR}{o:VE}(e:(A7 h l).get? b=Yl o):h.get? b=Yl o:=Tv _ e
theorem tV{h base:Vd}{l:List Xx}(x:h.FunFrames base l):h.FunFrames (A7 h l) l:=PySem.W.funFrames_hide x λenv z a B=>Sw.mpr ⟨env,z,B⟩
def Fj(B:Vd)(l:List Xx)(a:UR)(cls:UP)(h:Vd):Prop:=∃z,
 (B.StaysIn h/\B.get? a=none/\h.FunFrames B l/\∃D vs,h.get? a=Yl D/\D.cls=cls/\D.data=.fields vs/\vs[1]?=Yl .none/\vs[0]?=Yl z) \/
 Heap.FlyingW B l a cls z h\/∃L env outer,l=env::outer/\env.frame=Yl L/\Heap.HeldW B l a cls z L h
theorem Fj.stays{B h:Vd}{l:List Xx}{a:UR}{cls:UP}(x:Fj B l a cls h):B.StaysIn h:=by
 obtain⟨z,x|x|⟨_,_,_,_,_,x⟩⟩:=x
 .exact x.1
 .exact x.1
 exact x.1
theorem Fj.frames{B h:Vd}{l:List Xx}{a:UR}{cls:UP}(x:Fj B l a cls h):h.FunFrames B l:=by
 obtain⟨z,x|x|⟨_,_,_,_,_,x⟩⟩:=x
 .exact x.2.2.1
 .exact x.2.2.1
 exact x.2.2.1
section
variable {M:XY}{A:Ve}{E:UP->UW->Prop}{s:UW}{B:Vd}{env:Xx}{outer:List Xx}{L a:UR}{cls:UP}
theorem A8{Q:Unit->UW->Prop}(z:A.frames=Yl (env::outer))(D:env.frame=Yl L)(x:Fj B (env::outer) a cls s.heap)
  (O:∀h' H,Heap.HeldW B (env::outer) a cls H L h'->s.heap.UpToSlots h'->Q () { s with heap:=h' }):wpAny M A (noteFrame (.ref a) env) Q E s:=by
 obtain⟨H,⟨x1,U,x3,oe,vs,V,hc,hd,Z,h0⟩|x|⟨L',acr,J,e1,e2,x⟩⟩:=x
 .unfold noteFrame;simp only[D];refine UM (Vf V hd Z ?_);rw[UO (by decide)];refine wpAny_entryW z x3 D V x1 U hd (RG.mp Z).1 h0 λh' hN=>?_;obtain⟨k1,k2,k3,k4⟩:=hN;rw[hc]at k3;exact O h' H ⟨k1,U,k2,k3⟩ k4
 .exact wpAny_looks_onW z D x λh' k1 k2=>O h' H k1 k2
 cases e1;rw[D]at e2;cases e2;exact wpAny_noteFrame_againW D x.2.2.2 (O s.heap H x (Heap.UpToSlots.refl _))
theorem yV{Q:Unit->UW->Prop}(z:A.frames=Yl (env::outer))(H:env.frame=Yl L)(x:Fj B (env::outer) a cls s.heap)
  (J:∀h' D,Heap.FlyingW B outer a cls D h'->s.heap.UpToSlots h'->Q () { s with heap:=h' }):wpAny M A (Yg env (.ref a)) Q E s:=by
 unfold Yg;refine UM (A8 z H x λh1 D k1 k2=>?_);refine wpAny_landsW k1 λO k3 U=>?_;obtain⟨V,Z,⟨_,_,c3⟩,c4⟩:=k3;exact J O D ⟨V,Z,c3,c4⟩ (k2.trans U)
end
structure JO(P:U3) (w:U4) (l:List Xx) (ex:List UR) (H:Hp) (s:UW) (B:Vd) (a:UR) (cls:UP) (H':Hp) (s':UW):Prop where
 os:s'.os=s.os
 bare:Wt s'.gens
 un:Un (ki l) ex H H' s.heap s'.heap
 ba:gY P w H' s'.heap
 na:H' a=none
 MO:Fj B l a cls s'.heap
 old:∀b o,s.heap.get? b=Yl o->b∉ki l->b∉ex->∃o',s'.heap.get? b=Yl o'/\B.get? b=Yl o'
 qm:∀b,H' b≠none->∃o,s'.heap.get? b=Yl o/\B.get? b=Yl o
theorem JO.move{P:U3}{w:U4}{l O:List Xx}{ex:List UR}{H H':Hp}{s s':UW}{B h':Vd}{a:UR}{cls:UP}(x:JO P w l ex H s B a cls H' s')(k:s'.heap.UpToSlots h')(st:Fj B O a cls h')
  (M:∀b∈ki O,b∈ki l) (U:∀b o,s.heap.get? b=Yl o->b∈ki l->b∈ki O) (hx:∀b∈ki l,b∉ex):JO P w O ex H s B a cls H' { s' with heap:=h' }:=by
 have V:=st.stays;have nf:∀b∈ki l,∀o,s'.heap.get? b=Yl o->∀vs,o.data≠.fields vs:=λb D o e=>by
  obtain⟨_,E,e',d⟩:=x.MO.frames.mem D;rw[e]at e';cases e';exact d
 have oldK:∀b o,s.heap.get? b=Yl o->b∉ki O->b∉ex->∃E,s'.heap.get? b=Yl E/\B.get? b=Yl E:=λb o e D J=>x.old b o e (λz=>D (U b o e z)) J;refine⟨x.os,x.bare,⟨λb o e n D J=>?_,λb o e n D J=>?_,x.un.free,λb o e J=>?_,x.un.kg,x.un.jM,x.un.kh⟩,λb u e=>?_,x.na,st,λb o e D J=>?_,λb D=>?_⟩
 .have e1:=x.un.keep b o e n (λz=>D (U b o e z)) J;obtain⟨E,e2,e3⟩:=oldK b o e D J;rw[e1]at e2;cases e2;exact V b _ e3
 .obtain⟨sl,e1⟩:=x.un.slot b o e n (M b D) J;obtain⟨Z,e2⟩:=k b _ e1 (nf b (M b D) _ e1);exact⟨Z,e2⟩
 .by_cases D:b∈ki l
  .obtain⟨_,E,e',d⟩:=x.MO.frames.mem D;obtain⟨Z,e2⟩:=k b _ e' d;exact⟨_,e2⟩
  obtain⟨E,_,e3⟩:=x.old b o e D J;exact⟨E,V b _ e3⟩
 .refine(x.ba b u e).pL (λc v hc q=>?_) (λ_ q=>q) λ_ _ q=>q;have hn:H' c≠none:=by
   rcases hc with rfl|hc
   .rw[e];exactλz=>nomatch z
   rw[hc];exactλz=>nomatch z
  obtain⟨E,e1,e2⟩:=x.qm c hn;rw[q]at e1;cases e1;exact V c _ e2
 .obtain⟨E,_,e3⟩:=oldK b o e D J;exact⟨E,V b _ e3,e3⟩
 obtain⟨E,_,e3⟩:=x.qm b D;exact⟨E,V b _ e3,e3⟩
noncomputable def z9(P:U3)(w:U4):Aw:=λouter H s E e s'=>∃a cls z B,e=.ref a/\JO P w outer [] H s B a cls z s'/\E cls none z
def tW(X:Cx)(E:XK)(e:UP)(s':UW):Prop:=∃a cls z B,e=.ref a/\JO X.prog X.w X.stack X.ex X.H₀ X.s₀ B a cls z s'/\E cls none z
structure Own(X:Cx):Prop where
 ok:X.Ok
 top:X.stack=X.env::X.outer
 fr:X.env.frame=Yl X.env.locals
 ex:X.ex=[]
theorem Own.loc{X:Cx}(o:Own X):∀b D,X.s₀.heap.get? b=Yl D->b∈ki X.stack->b∈ki X.outer:=λb D e B=>by
 rw[o.top]at B;unfold ki at B;rw[Ro,o.fr]at B;rcases Pq.mp B with z|z
 .subst z;exact UU (PZ (Pt e) o.ok.above) (Rc _)
 exact z
structure GW(K:Pa) (mg:Vg->Option UP) (x:Vg) (C:UR):Prop where
 g:mg x=Yl (.ref C)
 ex:∃bm newId B A9,Tx K C bm newId=true/\ExcBaseFacts B newId A9 bm
def GX(C:UR)(t:TA)(E:XK):TS:=λ_ σ H=>t σ H λvs z=>vs.length<=U2/\E (.ref C) none z
theorem iD{K:Pa}{C:UR}{B:List UP}{newId:String}{h:Vd}(X:K.In h)(q:Tx K C B newId=true) :
  ∃bm ns nm E bs hd sn sub ab col dd k0 k1 k2 k3 k5 mN,h.get? C=Yl (excClassObj nm E C ns bs bm hd sn sub ab col dd k0 k1 k2 k3 k5 newId)/\h.Ns ns mN/\mN "__init__" = none/\OwnTail h B bm:=by
 unfold Tx at q
 split at q
 .rename_i dd O J U
  split at q
  .rename_i C' bm k0 k1 k2 k3 n k5 M hs;simp only[Qn,beq_iff_eq,Rm]at q;obtain⟨⟨⟨⟨⟨rfl,rfl⟩,z⟩,V⟩,ba⟩,D⟩:=q;obtain⟨nm,bs,mro,ns,E,hd,sn,sub,ab,col,del⟩:=O;dsimp only at M z ba D;subst M z;have H:J = #[k0,k1,k2,k3,Yl (.builtin n),k5]:=by
    obtain⟨l⟩:=J;simp only at hs;rw[hs]
   subst H;exact⟨bm,ns,nm,E,bs,hd,sn,sub,ab,col,dd,k0,k1,k2,k3,k5,_,X _ _ U,.of_isNs (PySem.W.isNs_of_in X ba),PySem.W.nsMap_none_of_in X ba D,PySem.W.tail_of_in X V⟩
  cases q
 cases q
theorem Ba{X:Cx}{E:XK}{x:Vg}{C:UR}{np M pos:V6}{B:Vc}{rest:List Vc}{t:TA}(hc:X.calm=true)(Z:GW X.K X.mg x C)(ha:PA (X.jA (tW X E)) (B::rest) t)
  (hg:Gl X x:=by rfl) (MP:(x==("__debug__":Vg))=false:=by decide) (he:U6 (B::rest) X.env=(false,eval B X.env)::U6 rest X.env:=by rfl) (GY:(backTo M (U6 rest X.env)).any (·.1)=false:=by rfl) :
  PS (X.jA (tW X E)) (.Raise (Yl (.Call (.Name x np) (B::rest) [] M)) none pos) (GX C t E):=by
 intro pins s σ H D I h;obtain⟨bmB,newId,Bn,A9,q,FB⟩:=Z.ex;obtain⟨bm,ns,nm,qn,bs,hd,sn,sub,ab,col,dd,k0,k1,k2,k3,k5,mN,hC,hN,hni,T⟩:=iD I.rA q;have hA:=ha M pins s σ H _ I h;rw[show U6 (B::rest) (X.jA (tW X E)).env=(false,eval B X.env)::U6 rest X.env from he]at hA;refine wpAny_Raise_call_subT (C:=C) (nm:=nm) (q:=qn) (N:=ns) (bs:=bs) (bm:=bm) (hdct:=hd) (sn:=sn) (sub:=sub) (ab:=ab) (col:=col) (dd:=dd) (k0:=k0) (k1:=k1) (k2:=k2) (k3:=k3) (k5:=k5)
  FB (mN:=mN) (T.hasType FB.hasBase) (I.ok.hd hc) (by show(backTo M (U6 (B::rest) X.env)).any (·.1)=false;rw[he];show(false||(backTo M (U6 rest X.env)).any (·.1))=false;rw[GY];rfl) hni (wX I hg Z.g ⟨rfl,?_⟩ MP)
 show wpAny _ _ (evalArgs (.ref C) true (backTo M (U6 (B::rest) X.env)) []) _ _ s;rw[he];refine Calls.evalArgs_plain (VQ hA (λus s2 h2=>?_) λ_ _ y=>y);obtain⟨vs,H2,I2,r2,hz,hE⟩:=h2;obtain⟨bm',ns',nm',qn',bs',hd',sn',acv,ab',acw,dd',k0',k1',k2',k3',k5',mN',hC2,hN2,acx,T2⟩:=iD I2.rA q;have J:=I2.dy;have st:∀b o,X.base.get? b=Yl o->s2.heap.get? b=Yl o:=J.bk;have hC':s2.heap.get? C=Yl (excClassObj nm qn C ns bs bm hd sn sub ab col dd k0 k1 k2 k3 k5 newId):=by
  obtain⟨bm3,ns3,nm3,qn3,bs3,hd3,sn3,JP,ab3,JQ,dd3,k03,k13,k23,k33,k53,MQ,O,Lw,JR,T3⟩:=iD J.ok.mod.kin q;have e1:=(I.dy.bk _ _ O).symm.trans hC;cases e1;exact st _ _ O
 have hN':s2.heap.Ns ns mN:=by
  obtain⟨bm3,ns3,nm3,qn3,bs3,hd3,sn3,JP,ab3,JQ,dd3,k03,k13,k23,k33,k53,MQ,O,Lw,JR,T3⟩:=iD J.ok.mod.kin q;have e1:=(I.dy.bk _ _ O).symm.trans hC;injection e1 with e1;injection e1 with _ _ e1 _;injection e1 with e1;injection e1 with _ _ _ e1 _ _ _ _ _ _ _;subst e1;have f1:=Lw.keeps I.dy.bk;have f2:=Lw.keeps st;obtain⟨o1,Ir,ep1,g1,g2,g3,g4⟩:=f1;obtain⟨o2,es2,ep2,j1,j2,j3,j4⟩:=hN;rw[g1]at j1;cases j1;rw[g2]at j2;cases j2;have em:MQ=mN:=by funext y;rw[<-g4 y,<-j4 y]
  rw[<-em];exact f2
 have T':OwnTail s2.heap bmB bm:=by
  obtain⟨bm3,ns3,nm3,qn3,bs3,hd3,sn3,JP,ab3,JQ,dd3,k03,k13,k23,k33,k53,MQ,O,Lw,JR,T3⟩:=iD J.ok.mod.kin q;have e1:=(I.dy.bk _ _ O).symm.trans hC;injection e1 with e1;injection e1 with _ _ e1 _;injection e1 with e1;injection e1 with _ _ e1 _ _ _ _ _ _ _ _;injection e1 with _ e1;rw[<-e1];exact T3.keeps st
 refine⟨rfl,by show us.length<=U2;rw[<-r2.length];exact hz,hC',hN',T',λh' a hx=>?_⟩;have U:Un (ki X.stack) X.ex X.H₀ H2 X.s₀.heap s2.heap:=J.base.mono (λb V=>by
  rcases J.ok.IY with z|⟨z,_⟩
  .rw[z];exact V
  rw[z];unfold ki;rw[Ro];split
  .exact V
  exact Pj _ V) λb V=>V
 obtain⟨t0,yW,ht2,MR⟩:=hx.there;refine⟨a,.ref C,H2,A7 s2.heap X.stack,rfl,⟨J.os,J.bare,U.trans (Un.kept hx.keeps),J.ba.kept hx.keeps,?_,⟨_,.inl ⟨λb o e=>hx.keeps b o (xq e),?_,?_,_,_,yW,rfl,rfl,rfl,rfl⟩⟩,λb o e V he=>?_,λb V=>?_⟩,hE⟩
 .cases z:H2 a with
  |none=>rfl
  |some u =>
   obtain⟨o,e⟩:=(J.ba a u z).obj;rw[hx.new]at e;cases e
 .cases z:(A7 s2.heap X.stack).get? a with
  |none=>rfl
  |some o=>have:=xq z;rw[hx.new]at this;cases this
 .exact(tV J.stack).of_keeps λb o e _=>⟨o,hx.keeps b o e,rfl⟩
 .obtain⟨o1,e1⟩:=U.there b o e he;exact⟨o1,hx.keeps b o1 e1,tU e1 V⟩
 obtain⟨u,hu⟩:=Su.mp V;obtain⟨o,e⟩:=(J.ba b u hu).obj;exact⟨o,hx.keeps b o e,tU e λz=>V (J.rC b z)⟩
theorem AL.okX{P:U3}{w:U4}{K:Pa}{mg:Vg->Option UP}{base:Vd}{x qual:Vg}{st:Wq}{f:UR}{fd:Va}{N ps:List Vg}{k:Nat}{sp:Sp}(F:AL K x qual st f fd)(S:aY N ps (aB st))(len:∀vs H Q E,sp vs H Q E->vs.length=ps.length)
  (J:∀(z:UP) (A:Ve) (outer:List Xx) (s:UW) (H:Hp) (vs:List V) (Q:VK) (E:XK),fm k (A.deeper (envOfC qual (aB st) s.heap.objs.size f z))->sp vs H Q E->∀X:Cx,X=mh (z9 P w) P w K mg base N qual (aB st) f z A outer s H E ->
   ∃t,qp (X.jA (tW X E)) (bT st) t/\t { nx:=λ_ M=>Q .eE M,rt:=Q } (start N vs) H):a4 P w K mg base (z9 P w) (k+1) f fd ps sp:=by
 obtain⟨oc,od,kV,doc,pm,an,z,ct,Lr,rfl,lk,U⟩:=F.ex;refine Ff lk U S len λA outer s H vs Q E hr Z=>?_;obtain⟨t,h,q⟩:=J z A outer s H vs Q E hr Z _ rfl;refine⟨t,λpins s1 σ H1 D I hw=>?_,q⟩;refine VQ (h pins s1 σ H1 D (I.jA _) hw) (λ_ _ q=>q.dy) λe s' hx=>?_;obtain⟨a,cls,M,B,rfl,x,hE⟩:=hx;have O:Own (mh (z9 P w) P w K mg base N qual (aB st) f z A outer s H E):=⟨I.ok,rfl,rfl,rfl⟩
 show wpAny (model P w) _ (Yg _ (.ref a)) _ _ s';refine yV (outer:=outer) I.ok.frames rfl x.MO λh' a0 k1 k2=>?_;refine⟨a,cls,M,B,rfl,x.move k2 ⟨a0,.inr (.inl k1)⟩ (λb hb=>Pj _ hb) O.loc λb _=>by simp[mh],hE⟩
section
variable {X:Cx}
theorem hJ{b:List Wq}{R:TS}(h:∀D σ H,R D σ H->∃t,qp X b t/\t D σ H):qp X b R:=λpins s σ H D I hw=>by
 obtain⟨t,z,B⟩:=h D σ H hw;exact z pins s σ H D I B
theorem cR:eI X (.type "tuple") (λxs H Q=>∃p ys,xs=[.ref p]/\(H p=Yl (.lst ys)\/H p=Yl (.tup ys))/\∀t B,ax H B->B t=Yl (.tup ys)->Q (.ref t) B):=by
 intro pins s σ H xs D Q I r h;obtain⟨p,ys,rfl,z,q⟩:=h;refine pP pins s σ H [.ref p] D Q I r ⟨p,ys,rfl,?_⟩;rcases z with z|z
 .exact .inl ⟨bc.of z,λl E=>q l _ (au E) ag⟩
 exact .inr ⟨bZ.of z,q p H (ax.refl H) z⟩
theorem JS:Passes (z9 X.prog X.w) X E0:=λ_ _ _ _ _ _ _ h=>by
 obtain⟨_,_,_,_,_,_,z⟩:=h;exact z.elim
theorem GZ {x : Vg}{st : Wq}{ps : List Vg}{f : UR}{E : Va}{k : Nat}{sp : Sp}{e : Vc}{z : List Vc}{t : TA}{p pos : V6}(G : a4 X.prog X.w X.K X.mg X.base (z9 X.prog X.w) k f E ps sp)(F : Fn X.K X.mg x st ps f E)(H : fm k X.A)(J : PA X (e::z) t)
    (M:Gl X x:=by rfl) (B:(x==("__debug__" : Vg))=false:=by decide) (O:U6 (e::z) X.env=(false,eval e X.env)::U6 z X.env:=by rfl) (D:(backTo pos (U6 z X.env)).any (·.1)=false:=by rfl) :
    PE X (.Call (.Name x p) (e::z) [] pos) (Ax sp [] E0 t):= xc G H M F.g F.fn.kp F.b .nil JS J B O D
theorem AL.MS{P:U3}{w:U4}{K:Pa}{mg:Vg->Option UP}{base:Vd}{x qual:Vg}{st:Wq}{f:UR}{J:Va}{N ps:List Vg}{k:Nat}{sp:Sp}(F:AL K x qual st f J)(S:aY N ps (aB st))(len:∀vs H Q E,sp vs H Q E->vs.length=ps.length)
  (B:∀(z:UP) (A:Ve) (outer:List Xx) (s:UW) (H:Hp) (vs:List V) (Q:VK) (E:XK),fm k (A.deeper (envOfC qual (aB st) s.heap.objs.size f z))->sp vs H Q E->Own (mh (z9 P w) P w K mg base N qual (aB st) f z A outer s H E) ->
   ∃t,qp ((mh (z9 P w) P w K mg base N qual (aB st) f z A outer s H E).jA (tW (mh (z9 P w) P w K mg base N qual (aB st) f z A outer s H E) E)) (bT st) t/\t { nx:=λ_ M=>Q .eE M,rt:=Q } (start N vs) H):a4 P w K mg base (z9 P w) (k+1) f J ps sp:=by
 refine F.okX S len λz A outer s H vs Q E O h X U=>?_;subst U;by_cases ok:(mh (z9 P w) P w K mg base N qual (aB st) f z A outer s H E).Ok
 .exact B z A outer s H vs Q E O h ⟨ok,rfl,rfl,rfl⟩
 exact⟨λ_ _ _=>True,λpins s σ H D I _=>UU I.ok.dy ok,trivial⟩
theorem fm.lt{k:Nat}{A:Ve}(r:fm k A)(n:Nat)(h:n<=62):A.units+n+1<cLine:=by have:=r.units;omega
def PJ(X:Cx)(z:List Vc)(m:Nat)(t:St->Hp->Prop):Prop :=
 ∀(pins:List (UR×VE)) (s:UW) (σ:St) (H:Hp) (out:Vg) (Q:UP->UW->Prop),Inv X pins σ H s->t σ H->out.length+m<=U2->(∀x B s',Inv X pins σ H s'->Q (.str x B) s') ->
  wpAny (model X.prog X.w) X.A (joinParts out (evalEach z X.env)) Q X.xe s
def MT:St->Hp->Prop:=λ_ _=>True
def MU(z:TE)(t:St->Hp->Prop):St->Hp->Prop:=λσ H=>z σ H λv B=>B=H/\(∃i:Int,v=.int i/\i.natAbs.log2<1920)/\t σ H
theorem G0:PJ X [] 0 MT:=λpins s σ H out Q I _ hz q=>joinParts_nil (q _ _ _ (I.tok _)) (by omega)
theorem Bb{x:Vg}{j}{pos:V6}{z:List Vc}{m:Nat}{t:St->Hp->Prop}(h:PJ X z m t):PJ X (.Constant (.str x) j pos::z) (x.length+m) t:=λpins s σ H out Q I B hz q=>by
 show wpAny _ _ (joinParts out (eval (.Constant (.str x) j pos) X.env::evalEach z X.env)) Q _ s;have e:(out++x).length=out.length+x.length:=strLen_append _ _;refine joinParts_cons (Calls.Constant_str ?_);exact⟨by rw[e];omega,h pins _ σ H (out++x) Q (I.tok _) B (by rw[e];omega) q⟩
theorem Bc{a:Vc}{pos:V6}{z:List Vc}{m:Nat}{t:St->Hp->Prop}{D:TE}(E:PE X a D)(h:PJ X z m t):PJ X (.FormattedValue a (-1) none pos::z) (1921+m) (MU D t):=λpins s σ H out Q I J hz q=>by
 show wpAny _ _ (joinParts out (eval (.FormattedValue a (-1) none pos) X.env::evalEach z X.env)) Q _ s;refine joinParts_cons (FormattedValue_plain (bI (E pins s σ H _ I J) λu V M=>?_));obtain⟨v,O,U,r,rfl,⟨i,rfl,hi⟩,B⟩:=M;obtain⟨Z,rfl⟩:=r;have l1:=int_text_length_le (k:=1920) (by decide) hi;have e:(out++Str.ofString (toString i)).length=out.length+(toString i).length:=by rw[strLen_append,PySem.ofString_length]
 refine formatField_int_small hi ?_;exact⟨by rw[e];omega,h pins _ σ O (out++Str.ofString (toString i)) Q (U.tok _) B (by rw[e];omega) q⟩
def tFs(t:St->Hp->Prop):TE:=λσ H Q=>t σ H/\∀x,Q (.str x) H
theorem JT{a b:Vc}{B:List Vc}{pos:V6}{m:Nat}{t:St->Hp->Prop}(h:PJ X (a::b::B) m t)(E:m<=1000000):PE X (.JoinedStr (a::b::B) pos) (tFs t):=λpins s σ H Q I hw=>by
 have e:Str.empty.length=0:=rfl;have z:U2=16777216:=Vo;exact JoinedStr_many (h pins s σ H Str.empty _ I hw.1 (by rw[e,z];omega) λx J s' D=>⟨.str x,H,D,⟨_,rfl⟩,hw.2 x⟩)
end
section
variable {X:Cx}
theorem xt{xs:List V}{its:List UP}{j:Nat}(r:Vals xs its)(D:j<its.toArray.size):∃x,xs[j]?=Yl x/\RelV x its.toArray[j]:=by
 have J:=r.length;have B:j<xs.length:=by rw[Pe]at D;omega
 obtain⟨u,E,H⟩:=r.get (OZ B);refine⟨_,OZ B,?_⟩;have z:its.toArray[j]?=Yl u:=by simpa using E
 rw[(RG.mp z).2];exact H
end
noncomputable def Bd(K:Pa)(a:UR):It :=
 ⟨λi H=>∃xs x,bc K H a xs/\xs[i]?=Yl x,λi H y z=>∃t x,y=.ref t/\H t=none/\z=upd H t (.tup [.int i,x])/\∀xs,bc K H a xs->xs[i]?=Yl x,λi H=>∃xs,bc K H a xs/\xs.length<=i⟩
theorem vK{P:U3}{w:U4}{K:Pa}{elts:List Vc}{x1:Nat}{tp:V6}(a e J:UR)(JK:e≠J) :
  Turn P w K (.Tuple elts x1 tp) (Bd K a) [e,J] e (λi h=>(∃old,WB h e J i old)/\h.IsListIter J a i) where
 mem:=by simp
 obj:=λi h st b D=>by
  obtain⟨⟨old,V⟩,M⟩:=st;rcases Pq.mp D with rfl|D
  .exact⟨_,V,λv z=>by
    have z':Data.fields _=Data.cell v:=z;cases z'⟩
  have e1:b=J:=by simpa using D
  subst e1;obtain⟨o,e,c,d⟩:=M;exact⟨o,e,λv z=>by rw[d]at z;cases z⟩
 keep:=λi h h' st k=>⟨let⟨old,V⟩:=st.1;⟨old,k e (by simp) _ V⟩,let⟨o,ho,r⟩:=st.2;⟨o,k J (by simp) o ho,r⟩⟩
 item:=by
  intro X hP hw hK Z i pins s σ H E I hf st hg;subst hP hw hK;obtain⟨⟨old,V⟩,M⟩:=st;obtain⟨xs,x,hq,hx⟩:=hg;obtain⟨its,rv,p,hz⟩:=I.list hq;obtain⟨u,hu,ru⟩:=rv.get hx;obtain⟨f0,f1,f2,f3,f4,f5⟩:=hf e (by simp);obtain⟨g0,g1,g2,g3,g4,g5⟩:=hf J (by simp);refine wpAny_pyNext_enum_item V M p.isList (x:=u) (by simpa using hu) JK λh' JL GV hT hsz hk=>?_;refine⟨_,rfl,WE JL λA1 A2 U=>?_⟩;have A3:e<s.heap.objs.size:=Pt V;have k2:∀b o,b≠e->b≠J->s.heap.get? b=Yl o->A1.get? b=Yl o:=λb o h1 h2 q=>(U.2 b h1).trans (hk b o h1 h2 q);have JM:A1.get? s.heap.objs.size=Yl { cls:=.type "tuple",data:=.seq #[.int i s.toks,u] }:=(U.2 _ (Rf A3)).trans hT;have O:H s.heap.objs.size=none:=I.ba.fresh (O5 _);have neT:∀{b:UR} {o:VE},s.heap.get? b=Yl o->b≠s.heap.objs.size:=λq=>PR (Pt q);have qm:∀{b:UR} {o:HO},H b=Yl o->b≠e/\b≠J:=λq=>⟨λz=>(by rw[z,f0]at q;cases q),λz=>(by rw[z,g0]at q;cases q)⟩
  have I2:Inv X pins σ (upd H s.heap.objs.size (.tup [.int i,x])) { s with heap:=A1,toks:=s.toks+1 }:=by
   refine I.step (g':=s.gens) (d':=s.drawn) (ch:=[e,J]) (λb D=>?_) (λb o _ _ B q _=>k2 b o (λz=>B (by simp[z])) (λz=>B (by simp[z])) q) (λb o _ _ B q _=>⟨o.slots,k2 b o (λz=>B (by simp[z])) (λz=>B (by simp[z])) q⟩)
    (λb o _ q n=>by rw[ao (neT q)];exact n) (λb o B q=>⟨o,k2 b o (λz=>B (by simp[z])) (λz=>B (by simp[z])) q⟩) (λb ys q=>by rw[ao (aQ q O)];exact q) (λb o ys q=>by rw[ao (aQ q O)];exact q)
    (λb ps q=>⟨#[],by rw[ao (aQ q O),q];simp⟩) (λm hm=>?_) (λb v q=>?_) I.bare
   .rcases Pq.mp D with rfl|D
    .exact⟨f3,f1,f4,f5⟩
    have e1:b=J:=by simpa using D
    subst e1;exact⟨g3,g1,g4,g5⟩
   .obtain⟨o,es,ep,ho,r⟩:=hm;exact⟨o,es,ep,k2 _ o (Ne.symm f1) (Ne.symm g1) ho,r⟩
   by_cases D:b=s.heap.objs.size
   .subst D;rw[ag]at q;cases q;exact⟨by show 2<=U2;decide,[.int i s.toks,u],.cons ⟨_,rfl⟩ (.cons ru .nil),_,JM,rfl,_,rfl⟩
   rw[ao D]at q;refine(I.ba b v q).pL (λc o Z z=>?_) (λc z=>by rw[ao (aQ z O)];exact z) λc ys z=>by rw[ao (aQ z O)];exact z
   rcases Z with rfl|Z
   .exact k2 c o (qm q).1 (qm q).2 z
   exact k2 c o (qm Z).1 (qm Z).2 z
  refine⟨.ref s.heap.objs.size,_,I2,rfl,⟨_,x,rfl,O,rfl,λys hy=>by rw[I.tI hy hq];exact hx⟩,⟨⟨u,by simpa using A2⟩,?_⟩,λb D=>?_⟩
  .obtain⟨o,q,r⟩:=GV;exact⟨o,(U.2 J (Ne.symm JK)).trans q,r⟩
  rcases Pq.mp D with rfl|D
  .rw[ao (PR A3)];exact f0
  have e1:b=J:=by simpa using D
  subst e1;obtain⟨o,q,_⟩:=M;rw[ao (neT q)];exact g0
 done:=by
  intro X hP hw hK Z i pins s σ H E I hf st hg;subst hP hw hK;obtain⟨⟨old,V⟩,M⟩:=st;obtain⟨xs,hq,hx⟩:=hg;obtain⟨its,rv,p,hz⟩:=I.list hq;obtain⟨g0,g1,g2,g3,g4,g5⟩:=hf J (by simp);have hl:=rv.length;exact wpAny_pyNext_enum_end (I.ok.hd Z) V M p.isList (by simp;omega) λh' eb=>⟨rfl,I.turned (t':=s.toks) (λb o D q=>eb b o D q) g0 g1 g3 g4 g5⟩
 self:=λ_ _ _ _ _ st h=>let⟨_,V⟩:=st.1;V9 V h
section
variable {X:Cx}
noncomputable def G1(K:Pa)(B:TA):TI:=λσ H R=>B σ H λvs z=>∃a,vs=[.ref a]/\(∃xs,bc K z a xs)/\R (Bd K a) z
theorem Be{a:Vc}{J:TA}{p pos:V6}{elts:List Vc}{U:Nat}{V:V6}(Z:Gl X "enumerate")(hm:X.mg "enumerate" = none)(ha:PA X [a] J)(hs:U6 [a] X.env=[(false,eval a X.env)]:=by rfl) :
  PI X (.Tuple elts U V) (.Call (.Name "enumerate" p) [a] [] pos) (G1 X.K J):=by
 intro pins s σ H R I h;refine X0 (fG I Z hm kD (Qi (bI (ha pos pins s σ H _ I h) λus z ⟨vs,M,B,r1,q1⟩=>?_) hs rfl));obtain⟨l,e,⟨xs,hq⟩,q⟩:=q1;subst e;cases r1 with
 |cons r rr =>
  cases rr;cases r;obtain⟨its,rv,ht,hz⟩:=B.list hq;refine call_enumerate_list ht.isList λh' O D hsz hk=>?_;have I2:Inv X pins σ M { z with heap:=h' }:=B.kept (t':=z.toks) hk;refine V9 O ?_;refine⟨z.heap.objs.size+1,[z.heap.objs.size+1,z.heap.objs.size],_,_,M,rfl,I2,vK l _ _ (Ui _),⟨⟨_,O⟩,D⟩,λb E=>?_,q⟩;rcases Pq.mp E with rfl|E
  .exact(B.l9 (Rj _) (B.ba.fresh (Rj _)))
  have e:b=z.heap.objs.size:=by simpa using E
  subst e;exact B.l9 (O5 _) (B.ba.fresh (O5 _))
theorem yX{K:Pa}{a:UR}{xs:List V}{g:TG}{U:TS}{D:Ends}{σ:St}{H:Hp}(Pv:Nat->St->Hp->Prop)(h0:Pv 0 σ H)(hl:∀i σ H,i<=xs.length->Pv i σ H->bc K H a xs)
  (hs:∀i x t σ H,xs[i]?=Yl x->Pv i σ H->H t=none->g (.ref t) σ (upd H t (.tup [.int i,x])) λB O=>U { D with nx:=Pv (i+1),ct:=Pv (i+1),bk:=D.nx } B O) (hd:∀σ H,Pv xs.length σ H->D.nx σ H) :
  ∃W:Nat->Nat->St->Hp->Prop,(∃m,W 0 m σ H)/\∀i m σ H,W i m σ H ->
   ((Bd K a).stop i H/\D.nx σ H)\/((Bd K a).go i H/\∃N:St->Hp->Prop,(∀E J,N E J->∃Z,Z<m/\W (i+1) Z E J)/\∀x J,(Bd K a).Gj i H x J->g x σ J λB O=>U { D with nx:=N,ct:=N,bk:=D.nx } B O):=by
 refine⟨λi m σ H=>m=xs.length-i/\i<=xs.length/\Pv i σ H,⟨xs.length,by simp,PQ _,h0⟩,?_⟩;rintro i m σ H ⟨rfl,hi,p⟩;have q:=hl i σ H hi p;by_cases M:i<xs.length
 .refine .inr ⟨⟨xs,xs[i],q,by simp[M]⟩,Pv (i+1),λE J p'=>⟨xs.length-(i+1),by omega,rfl,M,p'⟩,λx J y=>?_⟩;obtain⟨t,z,e,hn,e2,y⟩:=y;subst e e2;exact hs i z t σ _ (y xs q) p hn
 have e:i=xs.length:=by omega
 subst e;exact .inl ⟨⟨xs,q,O5 _⟩,hd σ H p⟩
end
theorem DK{X:Cx}{scope:V3}{pre:List Vg}{y:Vg}{c:UR}{j:Nat}(B:scope.kind=.function)(h:∀z∈scope.names,z.2≠.cell/\(z.2=.free->z.1=y))(V:∀z∈scope.names,z.2=.local->scope.names.lookup z.1=Yl .local)
  (H:W9 scope X.env=pure [(y,c)]) (Z:X.env.cells.lookup y=Yl c) (hN:X.N[j]?=Yl y) (D:X.env.kindOf y=Yl .cell) (hr:(VZ scope X.env).names.lookup y=Yl .cell) :
  hH X scope [(y,c)] (pre++[y]) (R7 pre.length none++[Yl j]) where
 AN:=H
 cell:=λz hz=>(h z hz).1
 kind:=B
 names:=V
 cls:=λx c' e=>by
  rw[Q2]at e
  split at e
  .rename_i hx;rw[eq_of_beq hx,<-e];exact Z
  cases e
 has:=λx e=>by
  have key:∀k,(VZ scope X.env).names.lookup x=Yl k->k=.cell\/k=.free->x=y:=λk e D=>by
   have hm:=PySem.mem_of_lookup e;obtain⟨⟨n,O⟩,hy,E⟩:=O4.mp hm;have U:=h _ hy;by_cases J:O=.free
   .have z:=U.2 J;dsimp only at E
    split at E
    .cases E;exact z
    cases E;exact z
   have hb:(O==NameKind.free)=false:=by simpa using J
   simp only[hb,R6,Qg,Vq,Prod.mk.injEq]at E;obtain⟨_,rfl⟩:=E;rcases D with D|D
   .exact UU D U.1
   exact UU D J
  have M:x=y:=by
   rcases e with e|e
   .exact key _ e (.inl rfl)
   exact key _ e (.inr rfl)
  exact⟨c,by rw[M,Q2,VF]⟩
 len:=by simp
 src:=λi k x e1 e2=>by
  by_cases hi:i<pre.length
  .rw[Pg (by simpa using hi),Q6,UQ hi]at e1;cases e1
  have hl:=(O1.mp e2).1;rw[O7,PM]at hl;have e:i=pre.length:=by omega
  subst e;rw[Pd (by simp)]at e1;rw[Pd (O5 _)]at e2;simp at e1 e2;subst e1 e2;exact⟨hN,.inl D,.inl hr⟩
theorem dv {X : Cx}{scope : V3}{x y : Vg}{c : UR}{j : Nat}(B : scope.kind=.function)(h : ∀ z ∈ scope.names, z.2 ≠ .cell /\ (z.2=.free -> z.1=y))(E : ∀ z ∈ scope.names, z.2=.local -> scope.names.lookup z.1=Yl .local)
    (D:W9 scope X.env=pure [(y,c)]) (H:X.env.cells.lookup y=Yl c) (J:X.N[j]?=Yl y) (M:X.env.kindOf y=Yl .cell) (O:(VZ scope X.env).names.lookup y=Yl .cell) :
    hH X scope [(y,c)] [x,y] [none,some j]:= DK (pre:=[x]) B h E D H J M O
theorem yY{M:XY}{A:Ve}{E:UP->UW->Prop}{s:UW}{env:Xx}{x:Vg}{v:UP}{Q:Unit->UW->Prop}(h:wpAny M A (storeName env x v) Q E s):wpAny M A (bindName env x v) Q E s:=fun Γ p hΓ=>by
 rw[Sem.wp_bindName];exact h Γ _ hΓ
theorem gc{X:Cx}{B iter J:Vc}{E:List Vc}{scope:V3}{pos pos' ps:V6}{x:Vg}{ix:Nat}{U:List (Vg×UR)}{NC:List Vg}{M:List (Option Nat)}{wi:TI}{g:TG}{tt:TT}{te:TE}
  (hN:X.N.Nodup) (V:X.N[ix]?=Yl x) (hx:Loc X.env.scope x) (hc:X.calm=true) (O:hH X scope U NC M) (hi:PI X J iter wi)
  (hg:∀fp C s₀ H₀,PG (cf X scope U NC fp C s₀ H₀) J g) (ht:∀fp C s₀ H₀,JD (cf X scope U NC fp C s₀ H₀) E tt) (he:∀fp C s₀ H₀,PE (cf X scope U NC fp C s₀ H₀) B te)
  (hs:∀x,V7 iter X.env x=pure x:=by intro _;rfl) (Z:WU (.ListComp B [⟨J,iter,E,0⟩] scope pos) (Yl (.Name x pos')) ps.line X.env=pure true:=by rfl)
  (hf:X.fn x=true\/X.env.scope.names.lookup x=Yl .local:=by first|exact .inl rfl|exact .inr rfl|assumption):PS X (.Assign [.Name x pos'] (.ListComp B [⟨J,iter,E,0⟩] scope pos) ps) (Gg (AR wi g tt te M) (w5 ix)):=by
 intro pins s σ H Dn I h;rw[exec_Assign_Name_used _ _ _ _ Z];refine UM (Wj (UM ?_));show wpAny _ _ (comprehension (.ListComp B [⟨J,iter,E,0⟩] scope pos) scope X.env _ (newList []) false (eval iter X.env) (Yl (assign (.Name x pos') X.env)) >>= λ_=>pure ()) _ _ s;refine UM ?_;refine qH hc O hi hg ht he hs I h λD fp s3 s4 σ3 H0 H3 u I3 f3 I4 qn=>?_;obtain⟨m',Me,_⟩:=I4.loc;show wpAny _ _ (do standAt pos';bindName X.env x (.ref D)) _ _ s4;refine UM (Wj ?_);have IX:Inv X pins σ H3 s4:=comp_back I3 f3 I4 (Heap.SameBut.refl _ _);have fC:ng X pins H3 s3.heap.objs.size:=I3.l9 (O5 _) I4.free;obtain⟨c0,c1,c2,c3,c4,c5⟩:=fC;refine yY (qo IX hN V hx (v:=.ref D) rfl (λs5 I5 sb=>?_) hf);obtain⟨aa,sb1,sb2⟩:=sb;have nA:s3.heap.objs.size≠aa:=by
  rcases sb2 with z|z
  .rw[z];exact c1
  exact Ne.symm (c4 x aa z)
 obtain⟨oo,es,ep,g1,g2⟩:=Me;refine⟨m',⟨oo,es,ep,(sb1.2 _ nA).trans g1,g2⟩,λh' MV=>US (US ⟨_,H3,I5.turned (t':=s5.toks) (λb o hb e=>(MV.2 b hb).trans e) c0 c1 c3 c4 c5,qn⟩)⟩
theorem tX{X:Cx}{K:Pa}(z:X.K=K):Jv X (Jw K):=z▸dP
theorem fq{X:Cx}{K:Pa}(z:X.K=K):Jv X (Jx K):=z▸jQ
noncomputable def MW(K:Pa)(a:UR)(xs:List V):It:=⟨λi H=>i<xs.length/\bc K H a xs,λi H y z=>z=H/\xs[xs.length-1-i]?=Yl y,λi _=>xs.length<=i⟩
theorem Bf{P:U3}{w:U4}{K:Pa}{tg:Vc}(a D:UR)(xs:List V):Turn P w K tg (MW K a xs) [D] D (λi h=>i<=xs.length/\h.IsRevIter D a ((xs.length:Int)-1-(i:Nat))) where
 mem:=by simp
 obj:=λi h st b J=>by
  have e:b=D:=by simpa using J
  subst e;obtain⟨_,o,e,c,d⟩:=st;exact⟨o,e,λv z=>by rw[d]at z;cases z⟩
 keep:=λi h h' st k=>⟨st.1,st.2.at λo e=>k D (by simp) o e⟩
 item:=by
  intro X Z hw hK hc i pins s σ H E I O st U;subst Z hw hK;obtain⟨hi,hq⟩:=U;obtain⟨its,rv,p,hz⟩:=I.list hq;have hl:=rv.length;have hx:xs[xs.length-1-i]?=Yl (xs[xs.length-1-i]'(by omega)):=OZ (by omega);obtain⟨u,hu,ru⟩:=rv.get hx;obtain⟨f0,f1,f2,f3,f4,f5⟩:=O D (by simp);have e1:(xs.length:Int)-1-(i:Nat)=((xs.length-1-i:Nat):Int):=by omega
  have B:=st.2;rw[e1]at B;refine wpAny_pyNext_rev_item B p.isList (x:=u) (by simpa using hu) λh' M sb=>?_;have I1:Inv X pins σ H { s with heap:=h' }:=I.turned (t':=s.toks) (λb o J e=>(sb.2 b J).trans e) f0 f1 f3 f4 f5;have e2:((xs.length-1-i:Nat):Int)-1=(xs.length:Int)-1-((i+1:Nat):Int):=by omega
  rw[e2]at M;obtain⟨o,e,c,d⟩:=id M;exact⟨u,rfl,oq (s:={ s with heap:=h' }) e c d (by decide) ⟨_,H,I1,ru,⟨rfl,hx⟩,⟨hi,M⟩,λb J=>(O b J).1⟩⟩
 done:=by
  intro X Z hw hK hc i pins s σ H E I O st U;subst Z hw hK;obtain⟨f0,f1,f2,f3,f4,f5⟩:=O D (by simp);have U:xs.length<=i:=U;have e1:(xs.length:Int)-1-(i:Nat)=-1:=by have:=st.1;omega
  have B:=st.2;rw[e1]at B;exact wpAny_pyNext_rev_end (I.ok.hd hc) B λh' eb=>⟨rfl,I.turned (t':=s.toks) (λb o J e=>eb b o J e) f0 f1 f3 f4 f5⟩
 self:=λ_ _ _ _ _ st h=>Wo st.2 h
section
variable {X:Cx}
theorem iE:Vi "reversed" = some (.type "reversed"):=by decide +kernel
noncomputable def MX(K:Pa)(B:TA):TI:=λσ H R=>B σ H λvs z=>∃a xs,vs=[.ref a]/\bc K z a xs/\R (MW K a xs) z
theorem G2{a:Vc}{E:TA}{p pos:V6}{J:Vc}(M:Gl X "reversed")(O:X.mg "reversed" = none)(U:PA X [a] E)(hs:U6 [a] X.env=[(false,eval a X.env)]:=by rfl) :
  PI X J (.Call (.Name "reversed" p) [a] [] pos) (MX X.K E):=by
 intro pins s σ H R I h;refine X0 (fG I M O iE (Qi (bI (U pos pins s σ H _ I h) λus z ⟨vs,V,D,Z,q1⟩=>?_) hs rfl));obtain⟨l,xs,e,hq,q⟩:=q1;subst e;cases Z with
 |cons r rr =>
  cases rr;cases r;obtain⟨its,rv,ht,hz⟩:=D.list hq;have hl:=rv.length;refine Xw ht.isList ?_;have B:(z.heap.push (revObj l ((its.toArray.size:Int)-1))).IsRevIter z.heap.objs.size l ((xs.length:Int)-1-((0:Nat):Int)):=by
   have e1:(xs.length:Int)-1-((0:Nat):Int)=(its.toArray.size:Int)-1:=by rw[Pe];omega
   rw[e1];exact⟨_,Pn _ rfl,rfl,rfl⟩
  refine Wo (s:={ z with heap:=z.heap.push (revObj l ((its.toArray.size:Int)-1)) }) B ?_;refine⟨z.heap.objs.size,[z.heap.objs.size],_,_,V,rfl,D.kept (t':=z.toks) λb o e=>O8 _ e,Bf l _ xs,⟨PQ _,B⟩,λb hb=>?_,q⟩;have e:b=z.heap.objs.size:=by simpa using hb
  subst e;exact D.l9 (O5 _) (D.ba.fresh (O5 _))
theorem Bg{K:Pa}{a:UR}{xs:List V}{g:TG}{J:TT}{M:TE}{D:UR}{Q:VK}{z:St}{H₀:Hp}(Pv:Nat->St->Hp->Prop)(Z:Pv 0 z H₀)(hl:∀i σ H,i<=xs.length->Pv i σ H->bc K H a xs)
  (hs:∀i x σ H,xs.reverse[i]?=Yl x->Pv i σ H->g x σ H λB H3=>J B H3 λb O=>if b=true then M B O λv U=>∃ys,U D=Yl (.lst ys)/\ys.length<U2/\Pv (i+1) B (upd U D (.lst (ys++[v])))else Pv (i+1) B O)
  (hd:∀σ H,Pv xs.length σ H->Q (.ref D) H):kC (MW K a xs) g J M D Q z H₀:=by
 refine⟨λi m σ H=>m=xs.length-i/\i<=xs.length/\Pv i σ H,⟨xs.length,by simp,PQ _,Z⟩,?_⟩;rintro i m σ H ⟨rfl,hi,p⟩;have q:=hl i σ H hi p;by_cases E:i<xs.length
 .refine .inr ⟨⟨E,q⟩,Pv (i+1),λσ' H' p'=>⟨xs.length-(i+1),by omega,rfl,E,p'⟩,λx H' y=>?_⟩;obtain⟨e,y⟩:=y;subst e;exact hs i x σ _ (by rw[Rh E];exact y) p
 have e:i=xs.length:=by omega
 subst e;exact .inl ⟨O5 _,hd σ H p⟩
end
theorem DL:WZ (.type "list_reverseiterator") "__len__" = pure none:=by rw[VS,Vz];kernel_rfl
theorem Bh:WZ (.type "list_reverseiterator") "__length_hint__" = pure (Yl (.builtin "list_reverseiterator.__length_hint__")):=by rw[VS,Vz];kernel_rfl
theorem DM:isSubtype (.type "list_reverseiterator") (.type "list_reverseiterator")=pure true:=by rw[VW];kernel_rfl
theorem yZ:splitId "list_reverseiterator.__length_hint__" = some ("list_reverseiterator","__length_hint__"):=by decide +kernel
section
variable {prog:U3}{w:U4}{A:Ve}{E:UP->UW->Prop}{s:UW}{R:Result->UW->Prop}{I l S:UR}{items:Array UP}
theorem Bi{M:XY}{Q:Bool->UW->Prop}(z:s.TypeIs (.ref I) "list_reverseiterator")(h:Q false s):wpAny M A (Builtin.List.listLengthHint (.ref I)) Q E s:=by
 unfold Builtin.List.listLengthHint;refine UM (Vr z DL ?_);show wpAny _ _ (specialOf (Value.ref I) (Str.ofString "__length_hint__") >>= _) _ _ _;refine UM (Vr z Bh ?_);simp only[yZ];refine UM (Vv z DM ?_);exact US h
theorem vM(hh:A.handled=none)(M:s.heap.IsRevIter I l ((items.size:Int)-1))(hl:s.heap.IsList l items)(O:l≠I)(hz:items.size<=U2)(H:S≠I)(U:S≠l)(B:UP)(D:Nat)(hS:s.heap.get? S=Yl { cls:=.type "list",data:=.seq #[] D })
  (hR:∀h' tk z E,(∀b o,b≠S->b≠I->s.heap.get? b=Yl o->h'.get? b=Yl o)->h'.get? S=Yl { cls:=.type "list",dict:=none,data:=.seq z E,slots:=#[] }->ItemsOf (λi v=>items[items.size-1-i]?=Yl v) z items.size->R (.ok (.ret B)) { s with heap:=h',toks:=tk }) :
  wpAny (model prog w) A.in1 (Builtin.List.listExtendWith (.ref S) (.ref I) B)
   (λfin s'=>match fin with|.done f=>R (.ok f) s'|.again E=>E.quiet=true/\Xn (model prog w) A E R s') (λe s'=>R (.error e) s') s:=by
 have W:=(Walks.listRev (prog:=prog) (w:=w) (A:=A.in1) hh I l O items).toS;have Z:=M.typeIs;unfold Builtin.List.listExtendWith;refine UM (W6 Z ?_);have h1:Builtin.List.listSameRef (.ref S) (.ref I)=false:=by simp[Builtin.List.listSameRef,H]
 have h2:(Value.type "list_reverseiterator" == Value.type "list")=false:=by decide
 have h3:(Value.type "list_reverseiterator" == Value.type "tuple")=false:=by decide
 simp only[h1,h2,h3,Bool.or_false,Qg,Vq];refine UM (Wo M ?_);refine UM (Vk (Bi Z ?_));show wpAny _ _ (again (.builtin "list.extend.loop" ⟨[.ref S,.ref I,B],[]⟩)) _ _ _;refine US ⟨WO F.plain_extend_loop _,?_⟩;refine codeAny_extend_loopS W hz S (by simp[H,U]) B items.size 0 s #[] D rfl (PQ _) ⟨PQ _,by simpa using M,hl⟩ hS (ItemsOf.nil _) λs' z E hm V J=>?_;rw[Moved.eq_with hm];exact hR s'.heap s'.toks z E (λb o b1 b2 e=>hm.heap b o (by simp[b1,b2]) e) V J
theorem pU{Q:UP->UW->Prop}(hh:A.handled=none)(hI:s.heap.IsRevIter I l ((items.size:Int)-1))(hl:s.heap.IsList l items)(O:l≠I)(hz:items.size<=U2)
  (hQ:∀h' U z V,(∀b o,b≠I->s.heap.get? b=Yl o->h'.get? b=Yl o)->h'.get? s.heap.objs.size=Yl { cls:=.type "list",dict:=none,data:=.seq z V,slots:=#[] }->ItemsOf (λi v=>items[items.size-1-i]?=Yl v) z items.size->Q (.ref s.heap.objs.size) { s with heap:=h',toks:=U }) :
  wpAny (model prog w) A (call (.type "list") [.ref I]) Q E s:=by
 have Z:I<s.heap.objs.size:=let⟨_,e,_⟩:=hI;Pt e
 have vN:l<s.heap.objs.size:=let⟨_,e,_⟩:=hl;Pt e
 refine callType_codes (Q₁:=λobj B=>obj=.ref s.heap.objs.size/\B={ s with heap:=s.heap.push { cls:=.type "list",data:=.seq #[] } }) F.called_list (F.typeCall_list_1 _) F.entry_list_init
  (code_list_new _ ⟨rfl,rfl⟩) λobj B H=>?_
 obtain⟨rfl,rfl⟩:=H;have M:(s.heap.push { cls:=.type "list",data:=.seq #[] }).get? s.heap.objs.size=Yl { cls:=.type "list",data:=.seq #[] }:=Pn _ rfl;refine⟨⟨_,M,rfl⟩,F.args_list_init_2 _ _,?_⟩;show wpAny _ _ (do let old <- Builtin.List.listItems (.ref s.heap.objs.size);Builtin.List.listUpdate (.ref s.heap.objs.size) (λ_=>#[]);letGo old.toList.reverse;Builtin.List.listExtendWith (.ref s.heap.objs.size) (.ref I) .none) _ _ _;refine UM ?_;unfold Builtin.List.listItems;refine UM (V8 M rfl (US ?_));show wpAny _ _ (updateSeq s.heap.objs.size (λ_=>#[]) >>= λ_=>letGo (#[]:Array UP).toList.reverse >>= λ_=>Builtin.List.listExtendWith (.ref s.heap.objs.size) (.ref I) .none) _ _ _;refine UM (wpAny_updateSeq M rfl ?_);have hS2:=QC (Obj.mapSeq (λ_=>(#[]:Array UP))) M rfl;have D:∀b o,s.heap.get? b=Yl o->((s.heap.push { cls:=.type "list",data:=.seq #[] }).update s.heap.objs.size (Obj.mapSeq (λ_=>(#[]:Array UP)))).get? b=Yl o :=
  λb o e=>(Ra _ _ (Ne.symm (PR (Pt e)))).trans (O8 _ e)
 refine UM (Xh ?_);refine vM (A:=A.in1) (s:={ s with heap:=(s.heap.push { cls:=.type "list",data:=.seq #[] }).update s.heap.objs.size (Obj.mapSeq (λ_=>(#[]:Array UP))) }) hh (hI.at λo e=>D I o e) (hl.at λo e=>D l o e) O hz (Rf Z) (Rf vN) .none _ hS2 λh' U z V hk MY J=>?_;exact⟨rfl,hQ h' U z V (λb o b1 e=>hk b o (PR (Pt e)) b1 (D b o e)) MY J⟩
end
section
variable {X:Cx}
def JU(K:Pa)(B:TA):TE:=λσ H Q=>B σ H λvs z=>∃l xs,vs=[.ref l]/\bc K z l xs/\∀r,z r=none->Q (.ref r) (upd z r (.lst xs.reverse))
theorem DN{a:Vc}{ta:TA}{p q pos pos':V6}(hc:X.calm=true)(U:Gl X "list")(V:X.mg "list" = none)(Z:Gl X "reversed")(hmr:X.mg "reversed" = none)(ha:PA X [a] ta)(hs:U6 [a] X.env=[(false,eval a X.env)]:=by rfl)
  (J:U6 [.Call (.Name "reversed" q) [a] [] pos'] X.env=[(false,eval (.Call (.Name "reversed" q) [a] [] pos') X.env)]:=by rfl) :
  PE X (.Call (.Name "list" p) [.Call (.Name "reversed" q) [a] [] pos'] [] pos) (JU X.K ta):=by
 intro pins s σ H Q I h;refine X0 (fG I U V jk (Qi ?_ J rfl));rw[J];show wpAny _ _ (spliced [(false,eval (.Call (.Name "reversed" q) [a] [] pos') X.env)]) _ _ s;refine Calls.spliced_cons ?_;refine X0 (fG I Z hmr iE (Qi (bI (ha pos' pins s σ H _ I h) λus B ⟨vs,H1,O,r1,q1⟩=>?_) hs rfl));obtain⟨l,xs,e,hq,q⟩:=q1;subst e;cases r1 with
 |cons r rr =>
  cases rr;cases r;obtain⟨its,rv,ht,hz⟩:=O.list hq;have hlen:=rv.length;have vN:l<B.heap.objs.size:=let⟨_,e,_⟩:=ht.isList;Pt e
  refine Xw ht.isList ?_;refine Calls.spliced_nil ?_;have hI:(B.heap.push (revObj l ((its.toArray.size:Int)-1))).IsRevIter B.heap.objs.size l ((its.toArray.size:Int)-1):=⟨_,Pn _ rfl,rfl,rfl⟩
  have tA:(B.heap.push (revObj l ((its.toArray.size:Int)-1))).IsList l its.toArray:=ht.isList.at λo e=>O8 _ e;refine pU (s:={ B with heap:=B.heap.push (revObj l ((its.toArray.size:Int)-1)) }) (O.ok.hd hc) hI tA (PR vN) (by rw[Pe];omega) λh' tk D c' hk MY E=>?_;have M:(B.heap.push (revObj l ((its.toArray.size:Int)-1))).objs.size=B.heap.objs.size+1:=R8 ..;have hk2:∀b o,B.heap.get? b=Yl o->h'.get? b=Yl o:=λb o e=>hk b o (PR (Pt e)) (O8 _ e);have hfr:H1 (B.heap.push (revObj l ((its.toArray.size:Int)-1))).objs.size=none:=O.ba.fresh (by rw[M];exact Rj _);refine⟨.ref _,_,O.laid (a:=(B.heap.push (revObj l ((its.toArray.size:Int)-1))).objs.size) (o:=.lst xs.reverse) (t':=tk) hk2 (by rw[M];exact Rj _) ⟨by rw[Qr];exact hz,D.toList,c',?_,by simpa using MY⟩,rfl,q _ hfr⟩;have al:D.toList.length=its.length:=by have z:=E.1;rw[Pe]at z;rw[QU];exact z
  refine fZ (by rw[Qr,al];exact hlen) λi x v e1 e2=>?_;have hi:i<xs.length:=by have z:=(O1.mp e1).1;rw[Qr]at z;exact z
  rw[Rh hi]at e1;have z:=E.2 i v (by simpa using e2);obtain⟨u,hu,ru⟩:=rv.get e1;rw[Pe,<-hlen]at z;have z2:its[xs.length-1-i]?=Yl v:=by simpa using z
  rw[hu]at z2;cases z2;exact ru
theorem tY(hu:X.A.units<cLine):jF X (Vu .Eq) (λx y H Q=>∃(a b:UR) (ns B:List Int),x=.ref a/\y=.ref b/\bc X.K H a (ns.map V.int)/\bc X.K H b (B.map V.int)/\ns.length=B.length/\Q (.bl (decide (ns=B))) H):=by
 intro pins s σ H x y v u Q I rx ry h;obtain⟨a,b,ns,B,rfl,rfl,ha,hb,hl,q⟩:=h;cases rx;cases ry;obtain⟨i1,U,p1,z1⟩:=I.list ha;obtain⟨i2,Z,p2,z2⟩:=I.list hb;have l1:ns.length=i1.length:=by have z:=U.length;rwa[O0]at z
 have l2:B.length=i2.length:=by have z:=Z.length;rwa[O0]at z
 refine SeqAt.eq_listAt (e:=λj=>ns.getD j 0==B.getD j 0) p1.isList p2.isList (by simp only[Pe];omega) hu (λj h1 h2=>?_) ⟨.bl (decide (ns=B)),H,I,?_,q⟩
 .have hj:j<ns.length:=by simp only[Pe]at h1;omega
  have D:j<B.length:=by omega
  obtain⟨x1,e1,t1⟩:=xt U h1;obtain⟨x2,e2,t2⟩:=xt Z h2;rw[O6,OZ hj]at e1;rw[O6,OZ D]at e2;obtain rfl:=Option.some.inj e1;obtain rfl:=Option.some.inj e2;obtain⟨k1,E⟩:=t1;obtain⟨k2,J⟩:=t2;rw[E,J];have M:ns.getD j 0=ns[j]:=by simp[RM,OZ hj]
  have O:B.getD j 0=B[j]:=by simp[RM,OZ D]
  rw[M,O];exact SeqAt.EqAt.int_int (A:=X.A.in1) (s:=s) ns[j] k1 B[j] k2
 show Value.bool _=Value.bool _;congr 1;by_cases c:ns=B
 .subst c;rw[UX rfl];exact QL.mpr λ_ _=>VF _
 rw[U1 c];refine SF.mpr λz=>c ?_;refine List.ext_getElem hl λj E J=>?_;have z2:=QL.mp z j (Pm.mpr (by rw[Pe];omega));have M:ns.getD j 0=ns[j]:=by simp[RM,OZ E]
 have O:B.getD j 0=B[j]:=by simp[RM,OZ J]
 rw[<-M,<-O];exact eq_of_beq z2
end
theorem Bj:Vi "max" = some (.builtin "max"):=by decide +kernel
section
variable {X:Cx}{a b c d:Vc}{ta tb tc td:TE}{pos:V6}
def DO(r M O:R2)(ta tb tc td:TE):TE:=λσ H Q=>ta σ H λx U=>tb σ U λy V=>r x y V λz B=>∃k,z=.bl k /\
 (if k=true then tc σ B λD Z=>M y D Z λz' E=>∃J,z'=.bl J/\(if J=true then td σ E λx' H6=>O D x' H6 Q else Q (.bl false) E)else Q (.bl false) B)
theorem y0{op B D:CmpOp}{r Z E:R2}(ho:jF X (Vu op) r)(J:jF X (Vu B) Z)(M:jF X (Vu D) E)(ha:PE X a ta)(hb:PE X b tb)(hc:PE X c tc)(hd:PE X d td)
  (hm:lastMarks [op,B,D] [b,c,d]=false:=by with_unfolding_all rfl):PT X (.Compare a [op,B,D] [b,c,d] pos) (Au (DO r Z E ta tb tc td)):=by
 intro pins s σ H Q I h;refine isTrue_chain (bI (ha pins s σ H _ I h) λv s1 ⟨x,H1,I1,r1,q1⟩=>test_link (bI (hb pins s1 σ H1 _ I1 q1) λu s2 ⟨y,H2,I2,r2,q2⟩ =>
  bI (ho pins s2 σ H2 x y v u _ I2 r1 r2 q2) λd s3 ⟨z,H3,I3,E,k,e,q3⟩=>?_)) hm
 subst e;cases E;refine Vj ?_;cases k with
 |false =>
  obtain⟨k',O,U⟩:=q3;cases O;exact ite_ff ⟨H3,I3,U⟩
 |true =>
  refine ite_tt (test_link (bI (hc pins s3 σ H3 _ I3 q3) λw' s4 ⟨z',H4,I4,r4,q4⟩=>bI (J pins s4 σ H4 y z' u w' _ I4 r2 r4 q4) λd' s5 V=>?_));obtain⟨z2,H5,I5,r5,k2,e2,q5⟩:=V;subst e2;cases r5;refine Vj ?_;cases k2 with
  |false =>
   obtain⟨k',O,U⟩:=q5;cases O;exact ite_ff ⟨H5,I5,U⟩
  |true =>
   refine ite_tt (test_last (bI (hd pins s5 σ H5 _ I5 q5) λx5 s6 ⟨z5,H6,I6,r6,q6⟩=>bI (M pins s6 σ H6 z' z5 w' x5 _ I6 r4 r6 q6) λd3 s7 V=>?_));obtain⟨z7,H7,I7,r7,k7,e7,q7⟩:=V;subst e7;cases r7;exact Vj ⟨H7,I7,q7⟩
end
end L2
namespace qK
open PySem AutoSeq1 MeetsSeq
theorem tuple_addW0(l b:UR)(items z:Array UP)(n E:Nat)(dd B:Option UR)(H D:Array (Option UP))(J:items.isEmpty=true) :
  Meets (Builtin.«tuple.__add__» ⟨[.ref l,.ref b],[]⟩) (λ_ R s=>s.heap.get? l=Yl { cls:=.type "tuple",dict:=dd,data:=.seq items n,slots:=H }/\s.heap.get? b=Yl { cls:=.type "tuple",dict:=B,data:=.seq z E,slots:=D }/\R (.ok (.ret (Value.ref b))) s):=
 .of_wp λprog w A R s h=>by obtain⟨U,g,d,V,os⟩:=s;obtain⟨M,O,h⟩:=h;have Z:=idx_int;have f2:=sub_tuple_tuple;have f3:=sub_list_list;have f4:=sub_tuple_list;have f5:=sub_list_tuple;wp_walk using Vs M,Vs O;exact⟨_,rfl,h⟩
end qK
namespace L2
open PySem PySem.Spec PyProof.Rows
section
variable {X:Cx}
def G3(K:Pa):R2:=λx y H Q=>∃a b xs ys,x=.ref a/\y=.ref b/\bZ K H a xs/\bZ K H b ys/\ys≠[]/\xs.length+ys.length<=U2 /\
 (xs=[]->Q (.ref b) H)/\(xs≠[]->∀p,H p=none->Q (.ref p) (upd H p (.tup (xs++ys))))
theorem Bk:jF X (VV .Add) (G3 X.K):=by
 intro pins s σ H x y v u Q I U V h;obtain⟨a,b,xs,ys,ex,Z,ha,hb,hy,hz,q1,q2⟩:=h;by_cases J:xs=[]
 .subst ex Z;cases U;cases V;obtain⟨its,r1,p1,_⟩:=I.tuple ha;obtain⟨B,r2,p2,_⟩:=I.tuple hb;obtain⟨⟨cls,dd,data,sl⟩,ho,hc,n,hd⟩:=id p1;obtain⟨⟨MZ,M,data2,O⟩,D,E,n2,hd2⟩:=id p2;simp only at hc hd E hd2;subst hc hd E hd2;have e:its=[]:=r1.kq.mpr J;exact W4 ⟨_,ho,rfl⟩ ⟨_,D,rfl⟩ Wf WM Rv Rq (Rl _ _)
   (qK.tuple_addW0 a b its.toArray B.toArray n n2 dd M sl O (by rw[e];rfl)) ⟨ho,D,⟨.ref b,H,I,rfl,q1 J⟩⟩
 exact xi pins s σ H x y v u Q I U V ⟨a,b,xs,ys,ex,Z,ha,hb,J,hz,λz=>UU z hy,λ_=>q2 J⟩
theorem gn{K:Pa}(z:X.K=K):eI X (.builtin "len") (λxs H Q=>∃p ys,xs=[.ref p]/\(bc K H p ys\/bZ K H p ys)/\Q (.int (ys.length:Nat)) H):=z▸aD
end
end L2
namespace aC
open PySem L2
theorem take_snoc{α:Type}{l:List α}{i:Nat}{x:α}(h:l[i]?=Yl x):l.take (i+1)=l.take i++[x]:=by
 rw[List.take_add_one,h];rfl
def kG(K:Pa):Sp:=λvs H Q _=>∃(a:UR) (ns:List Int) (k:Nat),vs=[.ref a,.int k]/\bc K H a (ns.map V.int)/\∀i:Int,Q (.int i) H
noncomputable def iV(ns:List Int):List V:=ns.map V.int
theorem aT(ns:List Int):(iV ns).length=ns.length:=by unfold iV;rw[O0]
theorem G4{ns:List Int}{i:Nat}{m:Int}(h:ns[i]?=Yl m):(iV ns)[i]?=Yl (.int m):=by unfold iV;rw[O6,h];rfl
theorem jn{ns:List Int}{i:Nat}{x:V}(h:(iV ns)[i]?=Yl x):∃m,ns[i]?=Yl m/\x=.int m:=by
 unfold iV at h;rw[O6]at h;cases e:ns[i]? with
 |none=>rw[e]at h;cases h
 |some m=>rw[e]at h;exact⟨m,rfl,(Option.some.inj h).symm⟩
theorem iF{xs:List V}{k:Nat}(h:k<=xs.length):fX xs (Yl (k:Int)) none=xs.drop k:=by
 unfold fX;have e1:HT.cI xs.length 0 (Yl (k:Int))=k:=by unfold HT.cI;simp only;rw[UO (by omega),Qb];omega
 have e2:HT.cI xs.length xs.length none=xs.length:=rfl;rw[e1,e2];exact QT (by rw[PU];omega)
theorem rP{xs:List V}{k:Nat}(h:k<=xs.length):fX xs none (Yl (k:Int))=xs.take k:=by
 unfold fX;have e1:HT.cI xs.length xs.length (Yl (k:Int))=k:=by unfold HT.cI;simp only;rw[UO (by omega),Qb];omega
 have e2:HT.cI xs.length 0 none=0:=rfl;rw[e1,e2]
 rfl
end aC
namespace L2
open PySem PySem.Spec
theorem vO:Vi "abs" = some (.builtin "abs"):=by decide +kernel
end L2
namespace aC
open PySem L2
noncomputable def aE(i:Int):Int:=if i<0 then -i else i
noncomputable def aW(ns:List Int):List Int:=ns.map aE
noncomputable def aZ(n:Nat):List Int:=(Pu n).map λ(i:Nat)=>1+(i:Int)
structure aR(ns:List Int):Prop where
 small:ns.length<=40
 perm:(aW ns).Perm (aZ ns.length)
theorem cA(ns:List Int):(aW ns).length=ns.length:=by unfold aW;rw[O0]
theorem dE(n:Nat):(aZ n).length=n:=by unfold aZ;rw[O0,PL]
theorem vP(n:Nat):rM 1 n=iV (aZ n):=by
 unfold rM iV aZ;rw[PK]
 rfl
theorem oM(n:Nat):aZ (n+1)=aZ n++[(n:Int)+1]:=by
 unfold aZ;rw[QD,Pb];show _++[1+(n:Int)]=_;rw[Int.add_comm]
end aC
namespace qK
open PySem PySem.Spec PyProof.Rows
namespace FR
theorem qL:Manifest.owners.lookup (String.ofList ['d','e','s','r','e','v','e','r'].reverse)=Yl Manifest.sig_reversed:=by kernel_rfl
theorem dh:Slot "reversed" "__next__" "reversed.__next__" :=
 .of (owner:="reversed") (n:="__next__") (by rw[VS,Vz];kernel_rfl) (by decide +kernel) (by decide +kernel) (by decide +kernel)
  (by first|exact .inl (by decide +kernel)|exact .inr (by decide +kernel)) (by rw[VW];kernel_rfl)
theorem iG:entryFor table "reversed.__next__" = some Builtin.«reversed.__next__»:=entryFor_of_tree (by kernel_rfl)
theorem ip(a:UP):argsOk "reversed.__next__" ⟨[a],[]⟩:=by
 unfold argsOk;rw[signature?_of (id:="reversed.__next__") (n:=['_','_','t','x','e','n','_','_']) (o:=['d','e','s','r','e','v','e','r']) (by kernel_rfl) qL];kernel_rfl
theorem jH:Slot "reversed" "__iter__" "reversed.__iter__" :=
 .of (owner:="reversed") (n:="__iter__") (by rw[VS,Vz];kernel_rfl) (by decide +kernel) (by decide +kernel) (by decide +kernel)
  (by first|exact .inl (by decide +kernel)|exact .inr (by decide +kernel)) (by rw[VW];kernel_rfl)
theorem ny(a:UP):argsOk "reversed.__iter__" ⟨[a],[]⟩:=by
 unfold argsOk;rw[signature?_of (id:="reversed.__iter__") (n:=['_','_','r','e','t','i','_','_']) (o:=['d','e','s','r','e','v','e','r']) (by kernel_rfl) qL];kernel_rfl
theorem oN:entryFor table "reversed.__iter__" = some Builtin.«dict_keyiterator.__iter__» :=
 entryFor_alias (id':="dict_keyiterator.__iter__") (by kernel_rfl) (by first|rfl|decide +kernel|(unfold String.splitOn;simp +decide [String.splitOnAux])) (by decide +kernel) (by kernel_rfl)
theorem kH:WZ (.type "tuple") "__reversed__" = pure none:=by rw[VS,Vz];kernel_rfl
theorem sub_tuple_dict:isSubtype (.type "tuple") (.type "dict")=pure false:=by rw[VW];kernel_rfl
theorem tZ:isSubtype (.type "reversed") (.type "reversed")=pure true:=by rw[VW];kernel_rfl
theorem fc:TypeCalled "reversed" "reversed.__new__" "object.__init__" where
 notType:=by decide +kernel
 canCreate:=F.create_reversed
 mro:=⟨_,_,F.mro_reversed⟩
 made:=F.made_reversed
 plain:=F.plain_reversed_new
 sub:=tZ
 init:=.of (owner:="object") (n:="__init__") (by rw[VS,Vz];kernel_rfl) (by decide +kernel) (by decide +kernel) (by decide +kernel)
  (by first|exact .inl (by decide +kernel)|exact .inr (by decide +kernel)) (by rw[VW];kernel_rfl)
end FR
section
variable {prog:U3}{w:U4}{A:Ve}{E:UP->UW->Prop}{s:UW}
noncomputable def jo(l:UR)(i:Int):Obj:={ cls:=.type "reversed",data:=.fields #[.ref l,rawInt i] }
def fM(h:Vd)(a l:UR)(i:Int):Prop:=∃o,h.get? a=Yl o/\o.cls=.type "reversed"/\o.data=.fields #[.ref l,rawInt i]
theorem fM.typeIs{a l:UR}{i:Int}(x:fM s.heap a l i):s.TypeIs (.ref a) "reversed":=let⟨o,z,B,_⟩:=x;⟨o,z,B⟩
theorem fM.at{h h':Vd}{a l:UR}{i:Int}(x:fM h a l i)(e:∀o,h.get? a=Yl o->h'.get? a=Yl o):fM h' a l i:=let⟨o,z,r⟩:=x;⟨o,e _ z,r⟩
theorem jS{l:UR}{items:Array UP}{Q₁:UP->UW->Prop}(B:XO s.heap l items)(hz:items.size<=U2)
  (h:∀D,Q₁ (.ref s.heap.objs.size) { s with heap:=s.heap.push (jo l ((items.size:Int)-1)),toks:=D }) :
  Xn (model prog w) A (.call (.builtin "reversed.__new__") ⟨[.type "reversed",.ref l],[]⟩) (wants Q₁ E) s:=by
 refine codeAny_of_tree ?_;show wpAny _ A.in1 (do checkBuiltinCall "reversed.__new__" ⟨[.type "reversed",.ref l],[]⟩;again (.builtin "reversed.__new__" ⟨[.type "reversed",.ref l],[]⟩)) _ _ s;refine UM (VN (F.newCall_reversed_1 _) (US ⟨WO F.plain_reversed_new _,Xb F.entry_reversed_new ?_⟩));rw[Around.under_plainId F.plain_reversed_new _];unfold Builtin.«reversed.__new__»;refine UM (VN (newClass_reversed _) ?_)
 try dsimp only
 refine UM (VN (a:=()) (by first|rfl|kernel_rfl) ?_);refine UM (VN (a:=()) (by first|rfl|kernel_rfl) ?_)
 try dsimp only
 refine UM (Vr B.typeIs FR.kH ?_)
 try dsimp only
 refine UM ?_;refine UM (Vv B.typeIs FR.sub_tuple_dict ?_);refine V0 (λz=>UU z (by decide)) (λ_=>?_);refine UM (Vr B.typeIs Qh.lookup ?_);dsimp only;refine V0 (λ_=>?_) (λz=>UU (by decide +kernel) z);refine US ?_;refine V0 (λz=>UU z (by decide)) (λ_=>?_);refine UM (len_tuple B (by rw[Vo]at hz;omega) ?_);refine UM (m:=asInt? _) (US ?_);dsimp only;refine UM ?_;show wpAny _ _ (newObj (.type "reversed") (.fields #[.ref l,rawInt ((items.size:Int)-1)])) _ _ _;refine U9 ?_ (by size_fits);exact US (h _)
theorem kI{l:UR}{items:Array UP}{Q:UP->UW->Prop}(J:XO s.heap l items)(hz:items.size<=U2)
  (h:∀z,Q (.ref s.heap.objs.size) { s with heap:=s.heap.push (jo l ((items.size:Int)-1)),toks:=z }):wpAny (model prog w) A (call (.type "reversed") [.ref l]) Q E s:=by
 refine callType_codes (Q₁:=λobj B=>obj=.ref s.heap.objs.size/\∃z,B={ s with heap:=s.heap.push (jo l ((items.size:Int)-1)),toks:=z }) FR.fc (F.typeCall_reversed_1 _) F.entry_object_init
  (jS J hz λz=>⟨rfl,z,rfl⟩) λobj B D=>?_
 obtain⟨rfl,z,rfl⟩:=D;have H:Shared.TypeIs { s with heap:=s.heap.push (jo l ((items.size:Int)-1)),toks:=z } (.ref s.heap.objs.size) "reversed":=⟨_,Pn _ rfl,rfl⟩
 exact⟨H,F.args_object_init_2 _ _,object_init_meets FR.fc.init.lookup FR.fc.made (by decide) prog w A.in1 _ _ ⟨H,rfl,h z⟩⟩
theorem mm{z l:UR}{i:Nat}{items:Array UP}{x:UP}{Q:Option UP->UW->Prop}(B:fM s.heap z l (i:Int))(J:XO s.heap l items)(O:l≠z)(M:items[i]?=Yl x)(hz:items.size<=U2)
  (U:∀h' V,fM h' z l ((i:Int)-1)->Heap.SameBut z s.heap h'->Q (Yl x) { s with heap:=h',toks:=V }):wpAny (model prog w) A (pyNext (.ref z)) Q E s:=by
 obtain⟨o,D,Z,hd⟩:=id B;have hi:i<items.size:=(RG.mp M).1;unfold pyNext;refine UM (VC (wpAny_callSpecial?_slot (name:=Str.ofString "__next__") B.typeIs FR.dh
  (U8 FR.dh B.typeIs FR.iG ?_ (FR.ip _))))
 unfold Builtin.«reversed.__next__»;refine UM (VN (a:=(Value.ref z,[])) rfl ?_)
 try dsimp only
 refine UM (Vf D hd (x:=.ref l) rfl ?_);refine UM (Vf D hd (x:=rawInt (i:Int)) rfl ?_);show wpAny _ _ (if(i:Int)<0 then _ else _) _ _ s;rw[UO (by omega)];refine UM (Vr J.typeIs Qh.lookup ?_);refine V0 (λH=>UU H (by decide)) (λ_=>?_);refine UM (wpAny_mkInt ?_);refine UM (VC (Uz (j:=i) J (by omega) (by rw[Vo]at hz;omega) (PySem.StrLaws.seqIndex_nonneg (by omega) (by omega)) M ?_));dsimp only;refine UM (Vf D hd (x:=rawInt (i:Int)) rfl ?_);show wpAny _ _ (WW (.ref z) 1 (rawInt ((i:Int)-1)) >>= _) _ _ _;refine UM (VG D hd (by simp) ?_);refine US ⟨x,rfl,US (U _ _ ?_ (Heap.SameBut.update ..))⟩;exact⟨_,QC _ D (Obj.isFreed_of_fields (Obj.data_mapFields hd _)),(Obj.cls_mapFields ..).trans Z,by
  rw[Obj.data_mapFields hd];simp⟩
theorem nB{z l:UR}{Q:Option UP->UW->Prop}(J:A.handled=none)(B:fM s.heap z l (-1))
  (O:∀h',Heap.ExtBut z s.heap h'->Q none { s with heap:=h' }):wpAny (model prog w) A (pyNext (.ref z)) Q E s:=by
 obtain⟨o,D,U,hd⟩:=id B;unfold pyNext;refine UM (VC (wpAny_callSpecial?_slot (name:=Str.ofString "__next__") B.typeIs FR.dh
  (U8 FR.dh B.typeIs FR.iG ?_ (FR.ip _))))
 unfold Builtin.«reversed.__next__»;refine UM (VN (a:=(Value.ref z,[])) rfl ?_)
 try dsimp only
 refine UM (Vf D hd (x:=.ref l) rfl ?_);refine UM (Vf D hd (x:=rawInt (-1)) rfl ?_);show wpAny _ _ (if(-1:Int)<0 then _ else _) _ _ s;rw[UQ (by decide)];refine UM (VR ?_);refine UM ?_;refine UM (VG D hd (by simp) ?_);have H:=QC (Obj.mapFields λx=>x.setIfInBounds 1 (rawInt (-1))) D (Obj.isFreed_of_fields (Obj.data_mapFields hd _));have hd2:(Obj.mapFields (λx=>x.setIfInBounds 1 (rawInt (-1))) o).data=.fields (#[Value.ref l,rawInt (-1)].setIfInBounds 1 (rawInt (-1))):=Obj.data_mapFields hd _;refine VG H hd2 (by simp) ?_;refine UM ?_;unfold Builtin.SmallTypes.stopIteration;refine UM ?_;simp only[newExc,XC];refine UM (U9 ?_ (by size_fits));refine UM (m:=VH _ _) (VN (a:=Value.none) (by first|rfl|(simp only[VH];rfl)) ?_);refine U9 ?_ (by size_fits);simp only[X6];refine UM (WN ?_)
 first|rw[show A.in1.handled=none from J]|rw[J]
 refine UM (US (Xg ?_));refine UM (Vv (T:="StopIteration") (b:=true) ⟨_,Pn _ rfl,rfl⟩ WD ?_);refine US (O _ ?_);have e1:Heap.ExtBut z s.heap ((s.heap.update z (Obj.mapFields λx=>x.setIfInBounds 1 (rawInt (-1)))).update z (Obj.mapFields λx=>x.setIfInBounds 0 Value.none)):=λb V M q=>by
  rw[Ra _ _ (Ne.symm M),Ra _ _ (Ne.symm M)];exact q
 exact(e1.push _).push _
theorem mQ{B l:UR}{i:Int}{Q:UP->UW->Prop}(z:fM s.heap B l i)(h:Q (.ref B) s):wpAny (model prog w) A (pyIter (.ref B)) Q E s:=by
 refine Wa z.typeIs FR.jH (U8 FR.jH z.typeIs FR.oN ?_ (FR.ny _));show wpAny _ _ (ret (.ref B)) _ _ s;exact US ⟨_,rfl,"reversed",_,z.typeIs,FR.dh.lookup,h⟩
open HT in
theorem kJ{t D:UR}{items:Array UP}{U V:UP}{lo hi:Option Int}{Q:UP->UW->Prop}(z:XO s.heap t items)(hs:s.heap.IsSliceOf D U V .none)(Z:W5 U lo)(pu:W5 V hi)
  (hw:HT.cI items.size 0 lo=0/\HT.cI items.size items.size hi=items.size) (h:Q (.ref t) s) (hsz:items.size<=U2):wpAny (model prog w) A (Wk (.ref t) (.ref D)) Q E s:=by
 obtain⟨os,H,J,hds⟩:=id hs;have M:s.TypeIs (.ref D) "slice":=⟨os,H,J⟩
 unfold Wk
 try with_reducible refine Vk ?_
 first|refine UM (US ?_)|skip
 refine UM (XA z.typeIs (by decide) ?_);refine UM (wpAny_callSpecial?_slot (name:=Str.ofString "__getitem__") z.typeIs Qh
  (U8 Qh z.typeIs entry_tuple_getitem ?_ (Xv _ _)))
 show wpAny _ _ (Builtin.Tuple.tupleItemsOf (.ref t) >>= _) _ _ s;refine UM (tupleItemsOf_ z ?_);refine UM (W6 M ?_);rw[UQ (by decide)];refine UM (gE hs Z pu ?_);have B:((((HT.cI items.size 0 lo:Nat):Int)==0&&(1:Int)==1&&(HT.cI items.size items.size hi-HT.cI items.size 0 lo)==items.size)=true):=by
  rw[hw.1,hw.2];simp
 show wpAny _ _ (if(((HT.cI items.size 0 lo:Nat):Int)==0&&(1:Int)==1&&(HT.cI items.size items.size hi-HT.cI items.size 0 lo)==items.size)=true then _ else _) _ _ s;rw[UQ B];refine UM ?_;refine UM (W6 z.typeIs ?_);refine US ?_;refine V0 (λ_=>?_) (λO=>UU (by decide) O);exact UM (VR (US ⟨_,rfl,US h⟩))
end
end qK
namespace L2
open PySem PySem.Spec PyProof.Rows
noncomputable def M0(K:Pa)(a:UR)(xs:List V):It:=⟨λi H=>i<xs.length/\bZ K H a xs,λi H y z=>z=H/\xs[xs.length-1-i]?=Yl y,λi _=>xs.length<=i⟩
theorem y6{P:U3}{w:U4}{K:Pa}{tg:Vc}(a D:UR)(xs:List V):Turn P w K tg (M0 K a xs) [D] D (λi h=>i<=xs.length/\qK.fM h D a ((xs.length:Int)-1-(i:Nat))) where
 mem:=by simp
 obj:=λi h st b J=>by
  have e:b=D:=by simpa using J
  subst e;obtain⟨_,o,e,c,d⟩:=st;exact⟨o,e,λv z=>by rw[d]at z;cases z⟩
 keep:=λi h h' st k=>⟨st.1,st.2.at λo e=>k D (by simp) o e⟩
 item:=by
  intro X Z hw hK hc i pins s σ H E I O st U;subst Z hw hK;obtain⟨hi,hq⟩:=U;obtain⟨its,rv,p,hz⟩:=I.tuple hq;have hl:=rv.length;have hx:xs[xs.length-1-i]?=Yl (xs[xs.length-1-i]'(by omega)):=OZ (by omega);obtain⟨u,hu,ru⟩:=rv.get hx;obtain⟨f0,f1,f2,f3,f4,f5⟩:=O D (by simp);have e1:(xs.length:Int)-1-(i:Nat)=((xs.length-1-i:Nat):Int):=by omega
  have B:=st.2;rw[e1]at B;have AY:a≠D:=λz=>by
   obtain⟨o1,q1,c1,_⟩:=B;obtain⟨o2,q2,c2,_⟩:=p;rw[<-z,q2]at q1;cases q1;rw[c2]at c1;exact UU c1 (by decide)
  refine qK.mm B p AY (x:=u) (by simpa using hu) (by rw[Pe];omega) λh' tk M sb=>?_;have I1:Inv X pins σ H { s with heap:=h',toks:=tk }:=I.turned (t':=tk) (λb o J e=>(sb.2 b J).trans e) f0 f1 f3 f4 f5;have e2:((xs.length-1-i:Nat):Int)-1=(xs.length:Int)-1-((i+1:Nat):Int):=by omega
  rw[e2]at M;obtain⟨o,e,c,d⟩:=id M;exact⟨u,rfl,oq (s:={ s with heap:=h',toks:=tk }) e c d (by decide) ⟨_,H,I1,ru,⟨rfl,hx⟩,⟨hi,M⟩,λb J=>(O b J).1⟩⟩
 done:=by
  intro X Z hw hK hc i pins s σ H E I O st U;subst Z hw hK;obtain⟨f0,f1,f2,f3,f4,f5⟩:=O D (by simp);have U:xs.length<=i:=U;have e1:(xs.length:Int)-1-(i:Nat)=-1:=by have:=st.1;omega
  have B:=st.2;rw[e1]at B;exact qK.nB (I.ok.hd hc) B λh' eb=>⟨rfl,I.turned (t':=s.toks) (λb o J e=>eb b o J e) f0 f1 f3 f4 f5⟩
 self:=λ_ _ _ _ _ st h=>qK.mQ st.2 h
section
variable {X:Cx}
noncomputable def JV(K:Pa)(B:TA):TI:=λσ H R=>B σ H λvs z=>∃a xs,vs=[.ref a]/\bZ K z a xs/\R (M0 K a xs) z
theorem DP{a:Vc}{E:TA}{p pos:V6}{M:Vc}(O:Gl X "reversed")(U:X.mg "reversed" = none)(V:PA X [a] E)(hs:U6 [a] X.env=[(false,eval a X.env)]:=by rfl) :
  PI X M (.Call (.Name "reversed" p) [a] [] pos) (JV X.K E):=by
 intro pins s σ H R I h;refine X0 (fG I O U iE (Qi (bI (V pos pins s σ H _ I h) λus z ⟨vs,Z,D,r1,q1⟩=>?_) hs rfl));obtain⟨l,xs,e,hq,q⟩:=q1;subst e;cases r1 with
 |cons r rr =>
  cases rr;cases r;obtain⟨its,rv,ht,hz⟩:=D.tuple hq;have hl:=rv.length;refine qK.kI ht (by rw[Pe];omega) λJ=>?_;have B:qK.fM (z.heap.push (qK.jo l ((its.toArray.size:Int)-1))) z.heap.objs.size l ((xs.length:Int)-1-((0:Nat):Int)):=by
   have e1:(xs.length:Int)-1-((0:Nat):Int)=(its.toArray.size:Int)-1:=by rw[Pe];omega
   rw[e1];exact⟨_,Pn _ rfl,rfl,rfl⟩
  refine qK.mQ (s:={ z with heap:=z.heap.push (qK.jo l ((its.toArray.size:Int)-1)),toks:=J }) B ?_;refine⟨z.heap.objs.size,[z.heap.objs.size],_,_,Z,rfl,D.kept (t':=J) λb o e=>O8 _ e,y6 l _ xs,⟨PQ _,B⟩,λb hb=>?_,q⟩;have e:b=z.heap.objs.size:=by simpa using hb
  subst e;exact D.l9 (O5 _) (D.ba.fresh (O5 _))
theorem y7{K:Pa}{a:UR}{xs:List V}{g:TG}{J:TT}{M:TE}{D:UR}{Q:VK}{z:St}{H₀:Hp}(Pv:Nat->St->Hp->Prop)(Z:Pv 0 z H₀)(hl:∀i σ H,i<=xs.length->Pv i σ H->bZ K H a xs)
  (hs:∀i x σ H,xs.reverse[i]?=Yl x->Pv i σ H->g x σ H λB H3=>J B H3 λb O=>if b=true then M B O λv U=>∃ys,U D=Yl (.lst ys)/\ys.length<U2/\Pv (i+1) B (upd U D (.lst (ys++[v])))else Pv (i+1) B O)
  (hd:∀σ H,Pv xs.length σ H->Q (.ref D) H):kC (M0 K a xs) g J M D Q z H₀:=by
 refine⟨λi m σ H=>m=xs.length-i/\i<=xs.length/\Pv i σ H,⟨xs.length,by simp,PQ _,Z⟩,?_⟩;rintro i m σ H ⟨rfl,hi,p⟩;have q:=hl i σ H hi p;by_cases E:i<xs.length
 .refine .inr ⟨⟨E,q⟩,Pv (i+1),λσ' H' p'=>⟨xs.length-(i+1),by omega,rfl,E,p'⟩,λx H' y=>?_⟩;obtain⟨e,y⟩:=y;subst e;exact hs i x σ _ (by rw[Rh E];exact y) p
 have e:i=xs.length:=by omega
 subst e;exact .inl ⟨O5 _,hd σ H p⟩
def JW:R2:=λx y H Q=>∃a b xs ys,x=.ref a/\y=.ref b/\H a=Yl (.tup xs)/\H b=Yl (.tup ys)/\xs.length+ys.length<=U2/\∀p z,ax H z->z p=Yl (.tup (xs++ys))->Q (.ref p) z
theorem nM:jF X (VV .Add) JW:=by
 intro pins s σ H x y v u Q I O U h;obtain⟨a,b,xs,ys,ex,V,M,B,hz,q⟩:=h;by_cases hy:ys=[]
 .subst hy;by_cases hx:xs=[]
  .subst hx ex V;cases O;cases U;obtain⟨its,r1,p1,_⟩:=I.tuple (bZ.of M);obtain⟨D,r2,p2,_⟩:=I.tuple (bZ.of B);obtain⟨⟨cls,dd,data,sl⟩,ho,hc,n,hd⟩:=id p1;obtain⟨⟨MZ,Z,data2,sl2⟩,E,J,n2,hd2⟩:=id p2;simp only at hc hd J hd2;subst hc hd J hd2;have e:its=[]:=r1.kq.mpr rfl;exact W4 ⟨_,ho,rfl⟩ ⟨_,E,rfl⟩ Wf WM Rv Rq (Rl _ _)
    (qK.tuple_addW0 a b its.toArray D.toArray n n2 dd Z sl sl2 (by rw[e];rfl)) ⟨ho,E,⟨.ref b,H,I,rfl,q b H (ax.refl _) B⟩⟩
  exact xi pins s σ H x y v u Q I O U ⟨a,b,xs,[],ex,V,bZ.of M,bZ.of B,hx,hz,λ_=>q a H (ax.refl _) (by rw[Qj];exact M),λz=>UU rfl z⟩
 exact Bk pins s σ H x y v u Q I O U ⟨a,b,xs,ys,ex,V,bZ.of M,bZ.of B,hy,hz,λz=>q b H (ax.refl _) (by rw[z];exact B),λ_ p hp=>q p _ (au hp) ag⟩
def M1:V->Option Int->Option Int->Hp->VK->Prop:=λx lo hi H Q=>∃a xs,x=.ref a/\H a=Yl (.tup xs)/\∀p z,ax H z->z p=Yl (.tup (fX xs lo hi))->Q (.ref p) z
theorem rQ:Lu X M1:=by
 intro pins s σ H x v M O lo hi U Q I B hs D E h;obtain⟨a,xs,rfl,z,q⟩:=h;by_cases hw:HT.cI xs.length 0 lo=0/\HT.cI xs.length xs.length hi=xs.length
 .cases B;obtain⟨its,r,J,hz⟩:=I.tuple (bZ.of z);have hlen:its.toArray.size=xs.length:=by rw[Pe];exact r.length.symm
  refine⟨"tuple",_,Qh.lookup,J.typeIs,?_⟩;refine qK.kJ J hs D E (by rw[hlen];exact hw) ?_ (by rw[hlen];exact hz);refine⟨.ref a,H,I,rfl,q a H (ax.refl _) ?_⟩;have e:fX xs lo hi=xs:=by
   unfold fX;rw[hw.1,hw.2,List.drop_zero,T7,Qe]
  rw[e];exact z
 exact GA pins s σ H _ v M O lo hi U Q I B hs D E ⟨a,xs,rfl,bZ.of z,hw,λp V=>q p _ (au V) ag⟩
end
end L2
namespace aC
open PySem L2
def df{α:Type}(f:α->List V)(H:Hp)(l:UR)(xs:List α):Prop :=
 ∃z:List UR,H l=Yl (.lst (z.map V.ref))/\z.length=xs.length/\∀(i:Nat) (t:UR) (x:α),z[i]?=Yl t->xs[i]?=Yl x->H t=Yl (.tup (f x))
section
variable {α:Type}{f:α->List V}{H M:Hp}{l r b t d:UR}{xs ys:List α}{x:α}
theorem df.same(h:df f H l xs)(s:ax H M):df f M l xs:=by
 obtain⟨z,B,D,E⟩:=h;exact⟨z,s _ _ B,D,λi t p e1 e2=>s _ _ (E i t p e1 e2)⟩
theorem df.nil(h:H l=Yl (.lst [])):df f H l ([]:List α):=⟨[],h,rfl,λi t r e=>by simp at e⟩
theorem df.len(h:df f H l xs):∃vs,H l=Yl (.lst vs)/\vs.length=xs.length:=by
 obtain⟨D,z,B,_⟩:=h;exact⟨_,z,by rw[O0];exact B⟩
theorem df.get{i:Nat}(h:df f H l xs)(e:xs[i]?=Yl x):∃vs t,H l=Yl (.lst vs)/\vs[i]?=Yl (.ref t)/\H t=Yl (.tup (f x)):=by
 obtain⟨z,D,J,E⟩:=h;have hi:=(O1.mp e).1;have B:z[i]?=Yl (z[i]'(by omega)):=OZ (by omega);exact⟨_,_,D,by rw[O6,B];rfl,E i _ x B e⟩
def Tup(f:α->List V)(H:Hp)(z:List UR)(xs:List α):Prop:=z.length=xs.length/\∀(i:Nat) (t:UR) (x:α),z[i]?=Yl t->xs[i]?=Yl x->H t=Yl (.tup (f x))
theorem df.tup(h:df f H l xs):∃z,H l=Yl (.lst (z.map V.ref))/\Tup f H z xs:=by
 obtain⟨z,B,D,E⟩:=h;exact⟨z,B,D,E⟩
theorem Tup.Iu{z:List UR}(h:Tup f H z xs)(B:H l=Yl (.lst (z.map V.ref))):df f H l xs:=⟨z,B,h.1,h.2⟩
theorem Tup.same{z:List UR}(h:Tup f H z xs)(s:ax H M):Tup f M z xs:=⟨h.1,λi t p e1 e2=>s _ _ (h.2 i t p e1 e2)⟩
theorem Tup.upd{z:List UR}{o:HO}{vs:List V}(h:Tup f H z xs)(B:H l=Yl (.lst vs)):Tup f (upd H l o) z xs:=⟨h.1,λi t p e1 e2=>by
 have key:=h.2 i t p e1 e2;rw[ao (λe=>by rw[e,B]at key;cases key)];exact key⟩
theorem Tup.M3{z:List UR}{o:HO}(h:Tup f H z xs)(B:H l=none):Tup f (L2.upd H l o) z xs:=h.same (au B)
theorem Tup.app{z B:List UR}(h:Tup f H z xs)(k:Tup f H B ys):Tup f H (z++B) (xs++ys):=⟨by rw[O7,O7,h.1,k.1],λi t p e1 e2=>by
 by_cases hi:i<z.length
 .rw[Pg hi]at e1;rw[Pg (by have:=h.1;omega)]at e2;exact h.2 i t p e1 e2
 rw[Pd (by omega)]at e1;rw[Pd (by have:=h.1;omega),<-h.1]at e2;exact k.2 _ t p e1 e2⟩
theorem Tup.one(h:H t=Yl (.tup (f x))):Tup f H [t] [x]:=⟨rfl,λi u p e1 e2=>by
 cases i with
 |zero=>cases e1;cases e2;exact h
 |succ i=>cases e1⟩
theorem df.snoc(h:df f H l xs)(D:H t=Yl (.tup (f x))):∃vs,H l=Yl (.lst vs)/\vs.length=xs.length/\df f (L2.upd H l (.lst (vs++[.ref t]))) l (xs++[x]):=by
 obtain⟨E,z,B⟩:=h.tup;refine⟨_,z,by rw[O0];exact B.1,?_⟩;exact((B.app (Tup.one D)).upd z).Iu (by rw[ag,Pb];rfl)
theorem df.other{vs:List V}{o:HO}(h:df f H l xs)(hd:H d=Yl (.lst vs))(ne:d≠l):df f (L2.upd H d o) l xs:=by
 obtain⟨D,z,B⟩:=h.tup;exact(B.upd hd).Iu (by rw[ao (Ne.symm ne)];exact z)
end
noncomputable def pr(p:Int×Int):List V:=[.int p.1,.int p.2]
noncomputable def aw(rs:List Int)(f l:Nat):List Int:=(Pu rs.length).map λj=>if f<=j/\j<=l then-rs.getD (f+l-j) 0 else rs.getD j 0
theorem aG(rs:List Int)(f l:Nat):(aw rs f l).length=rs.length:=by unfold aw;rw[O0,PL]
theorem mq{rs:List Int}{f l j:Nat}(h:j<rs.length):(aw rs f l)[j]?=Yl (if f<=j/\j<=l then-rs.getD (f+l-j) 0 else rs.getD j 0):=by
 unfold aw;rw[O6,QM h]
 rfl
theorem jT{rs:List Int}{f l j:Nat}(h:j<rs.length):(aw rs f l).getD j 0=if f<=j/\j<=l then-rs.getD (f+l-j) 0 else rs.getD j 0:=by
 rw[RM,mq h]
 rfl
theorem getD_get{rs:List Int}{j:Nat}(h:j<rs.length):rs[j]?=Yl (rs.getD j 0):=by
 rw[RM,OZ h]
 rfl
theorem bX{rs:List Int}{f l:Nat}(B:f<=l)(D:l<rs.length):aw (aw rs f l) f l=rs:=by
 refine QV λj=>?_;by_cases z:j<rs.length
 .rw[mq (by rw[aG];exact z),getD_get z];congr 1;by_cases c:f<=j/\j<=l
  .rw[UQ c,jT (by omega),UQ (by omega),Int.neg_neg];congr 1;omega
  rw[UO c,jT z,UO c]
 rw[Qc (by rw[aG,aG];omega),Qc (by omega)]
theorem mR{rs:List Int}{f l:Nat}(J:f<=l)(M:l<rs.length):rs.take f++((rs.drop f).take (l+1-f)).reverse.map (λx=>-x)++rs.drop (l+1)=aw rs f l:=by
 refine QV λj=>?_;have B:(((rs.drop f).take (l+1-f)).reverse.map (λx=>-x)).length=l+1-f:=by rw[O0,Qr,Pz,PU];omega
 have z:(rs.take f).length=f:=by rw[Pz];omega
 by_cases D:j<rs.length
 .rw[mq D];by_cases E:j<f
  .rw[UO (by omega),RD,Pg (by omega),QQ,UQ E,getD_get D]
  by_cases H:j<=l
  .rw[UQ ⟨by omega,H⟩,Pg (by rw[O7,B,z];omega),Pd (by omega),z,O6,
    Rh (by rw[Pz,PU];omega),Pz,PU,QQ,UQ (by omega),RU]
   have e:f+(min (l+1-f) (rs.length-f)-1-(j-f))=f+l-j:=by omega
   rw[e,getD_get (by omega)]
   rfl
  rw[UO (by omega),Pd (by rw[O7,B,z];omega),O7,B,z,RU];have e:l+1+(j-(f+(l+1-f)))=j:=by omega
  rw[e,getD_get D]
 rw[Qc (l:=aw rs f l) (by rw[aG];omega),Qc];rw[O7,O7,B,z,PU];omega
theorem DQ{xs:List V}{f l:Nat}(z:f<=l)(B:l<=xs.length):fX xs (Yl (f:Int)) (Yl (l:Int))=(xs.drop f).take (l-f):=by
 unfold fX;have e1:HT.cI xs.length 0 (Yl (f:Int))=f:=by unfold HT.cI;simp only;rw[UO (by omega),Qb];omega
 have e2:HT.cI xs.length xs.length (Yl (l:Int))=l:=by unfold HT.cI;simp only;rw[UO (by omega),Qb];omega
 rw[e1,e2]
def TurnOk(n:Nat)(p:Int×Int):Prop:=0<=p.1/\p.1<=p.2/\p.2<n
noncomputable def b5(n k:Nat):List (Int×Int):=(Pu k).flatMap λf=>(Pu (n-f)).map λ(i:Nat)=>((f:Int),(f:Int)+i)
theorem gq(n k:Nat):b5 n (k+1)=b5 n k++(Pu (n-k)).map λ(i:Nat)=>((k:Int),(k:Int)+i):=by
 unfold b5;rw[QD,RQ];simp
theorem hU(n:Nat):∀k,(b5 n k).length<=n*k
 |0=>by simp[b5]
 |k+1=>by
  rw[gq,O7,O0,PL,Nat.mul_succ];have:=hU n k;omega
def G5(i:Int):Prop:=i.natAbs.log2<1920
theorem G5.of{i:Int}(B:-(10 ^ 61:Int)<i)(D:i<(10 ^ 61:Int)):G5 i:=by
 unfold G5;by_cases z:i.natAbs=0
 .rw[z];decide
 refine(Nat.log2_lt z).mpr (PZ (m:=10 ^ 61) ?_ (by decide +kernel));omega
def mT(C:UR):Sp:=λvs H Q E=>∃(t:UR) (rs:List Int) (f l:Int),vs=[.ref t,.int f,.int l]/\H t=Yl (.tup (iV rs))/\rs.length<=100/\G5 f/\G5 l /\
 (TurnOk rs.length (f,l)->∀(t':UR) (z:Hp),ax H z->z t'=Yl (.tup (iV (aw rs f.toNat l.toNat)))->Q (.ref t') z)/\(¬TurnOk rs.length (f,l)->∀z:Hp,ax H z->E (.ref C) none z)
def oO:Sp:=λvs H Q _=>∃n:Nat,vs=[.int n]/\n<=40/\∀(l:UR) (z:Hp),H l=none->ax H z->df pr z l (b5 n n)->Q (.ref l) z
end aC
set_option maxHeartbeats 2000000
namespace aC
open PySem L2
noncomputable def idx(os:List Int)(a:Int):Nat:=(aW os).idxOf a
theorem y8{n:Nat}{a:Int}:a∈aZ n↔1<=a/\a<=n:=by
 unfold aZ;rw[O4];constructor
 .rintro⟨i,hi,rfl⟩;have:=Pm.mp hi;omega
 rintro⟨z,B⟩;exact⟨(a-1).toNat,Pm.mpr (by omega),by omega⟩
theorem cS{os:List Int}{j:Nat}(h:j<os.length):(aW os)[j]?=Yl (aE (os.getD j 0)):=by
 unfold aW;rw[O6,getD_get h]
 rfl
theorem G6{os:List Int}(nd:(aW os).Nodup){j:Nat}{a:Int}(h:(aW os)[j]?=Yl a):idx os a=j:=by
 have H:=(O1.mp h).1;have B:a∈aW os:=Pk h;have z:(aW os).idxOf a<(aW os).length:=SG.mpr B;have D:(aW os)[(aW os).idxOf a]=a:=Tz z;have E:(aW os)[(aW os).idxOf a]?=(aW os)[j]?:=by rw[OZ z,D,h]
 exact(Qa z nd).mp E
theorem G7{os:List Int}{a:Int}(h:a∈aW os):idx os a<os.length/\aE (os.getD (idx os a) 0)=a:=by
 have z:(aW os).idxOf a<(aW os).length:=SG.mpr h;have E:(aW os)[(aW os).idxOf a]=a:=Tz z;have B:idx os a<os.length:=by rw[<-cA os];exact z
 refine⟨B,?_⟩;have H:=cS B;have D:(aW os)[idx os a]?=Yl a:=by unfold idx;rw[OZ z];exact congrArg some E
 rw[H]at D;exact Option.some.inj D
theorem iH(x:Int):aE (-x)=aE x:=by unfold aE;split <;> split <;> omega
theorem dQ(x:Int):0<=aE x:=by unfold aE;split <;> omega
theorem oP{n j:Nat}(h:j<n):(aZ n).getD j 0=(j:Int)+1:=by
 unfold aZ;rw[RM,O6,QM h];show 1+(j:Int)=_;omega
theorem y9(n:Nat):aW (aZ n)=aZ n:=by
 unfold aW
 conv=>rhs;rw[<-Uv (aZ n)]
 refine Pw λa z=>?_;have:=y8.mp z;unfold aE;rw[UO (by omega)]
 rfl
theorem zc{n:Nat}(h:n<=40):aR (aZ n):=⟨by rw[dE];exact h,by rw[y9,dE]⟩
theorem aM{rs:List Int}(h:aR rs){f l:Nat}(z:f<=l)(B:l<rs.length):aR (aw rs f l):=by
 refine⟨by rw[aG];exact h.small,?_⟩;rw[aG];refine List.Perm.trans ?_ h.perm;rw[<-mR z B];have e:rs=rs.take f++(rs.drop f).take (l+1-f)++rs.drop (l+1):=by
  have e1:rs.drop (l+1)=(rs.drop f).drop (l+1-f):=by rw[List.drop_drop];congr 1;omega
  rw[e1,RD,Rz,Rz]
 have e2:aW rs=aW (rs.take f)++aW ((rs.drop f).take (l+1-f))++aW (rs.drop (l+1)):=by
  conv=>lhs;rw[e]
  unfold aW;rw[Pb,Pb]
 rw[e2];unfold aW;rw[Pb,Pb,PK];refine List.Perm.append_right _ (List.Perm.append_left _ ?_);have e3:((rs.drop f).take (l+1-f)).reverse.map (aE ∘ λx=>-x)=(((rs.drop f).take (l+1-f)).map aE).reverse:=by
  rw[<-Rb];exact Pw λx _=>iH x
 rw[e3];exact TL _
noncomputable def aj(rs:List Int):List Int:=0::(rs++[(rs.length:Int)+1])
theorem a6(rs:List Int):(aj rs).length=rs.length+2:=by unfold aj;simp
theorem cB(rs:List Int):(aj rs).getD 0 0=0:=rfl
theorem ft{rs:List Int}{j:Nat}(h:j<rs.length):(aj rs).getD (j+1) 0=rs.getD j 0:=by
 unfold aj;rw[RM,RM,RV,Pg h]
theorem bE(rs:List Int):(aj rs).getD (rs.length+1) 0=(rs.length:Int)+1:=by
 unfold aj;rw[RM,RV,Pd (O5 _),QE]
 rfl
noncomputable def bF(n:Nat):List Int:=(Pu n).map λ(i:Nat)=>(i:Int)
theorem zd(n:Nat):(bF n).length=n:=by unfold bF;rw[O0,PL]
theorem dH{n:Nat}{a:Int}:a∈bF n↔0<=a/\a<n:=by
 unfold bF;rw[O4];constructor
 .rintro⟨i,hi,rfl⟩;have:=Pm.mp hi;omega
 rintro⟨z,B⟩;exact⟨a.toNat,Pm.mpr (by omega),by omega⟩
theorem iI(n:Nat):(bF n).Nodup:=by
 unfold bF;rw[Qp,PD];exact QA.imp λh=>by omega
theorem vQ(n:Nat):bF (n+1)=bF n++[(n:Int)]:=by unfold bF;rw[QD,Pb];rfl
theorem oQ(n:Nat):bF (n+1)=0::aZ n:=by
 unfold bF aZ;rw[SU,Qk,PK];congr 1;refine Pw λi _=>?_;show((i+1:Nat):Int)=1+(i:Int)
 omega
theorem t4{rs:List Int}(h:aR rs):(aW (aj rs)).Perm (bF (rs.length+2)):=by
 have e:aW (aj rs)=0::(aW rs++[(rs.length:Int)+1]):=by
  unfold aW aj;rw[Qk,Pb];have e1:aE ((rs.length:Int)+1)=(rs.length:Int)+1:=by unfold aE;rw[UO (by omega)]
  show 0::(_++[aE ((rs.length:Int)+1)])=_;rw[e1]
 rw[e,oQ,oM];exact(h.perm.append_right _).cons _
theorem cD{rs:List Int}(h:aR rs):(aW (aj rs)).Nodup:=(t4 h).nodup_iff.mpr (iI _)
theorem xx{rs:List Int}(h:aR rs){a:Int}:a∈aW (aj rs)↔0<=a/\a<rs.length+2:=by rw[(t4 h).mem_iff,dH];omega
theorem eF{rs:List Int}(h:aR rs){j:Nat}(z:j<rs.length+2):0<=aE ((aj rs).getD j 0)/\aE ((aj rs).getD j 0)<rs.length+2 :=
 (xx h).mp (Pk (cS (by rw[a6];exact z)))
theorem xA{rs:List Int}(h:aR rs){i j:Nat}(hi:i<rs.length+2)(B:j<rs.length+2)(e:aE ((aj rs).getD i 0)=aE ((aj rs).getD j 0)):i=j:=by
 have z:=cS (os:=aj rs) (j:=i) (by rw[a6];exact hi);have D:=cS (os:=aj rs) (j:=j) (by rw[a6];exact B);rw[e]at z;exact(Qa (by rw[cA,a6];exact hi) (cD h)).mp (z.trans D.symm)
noncomputable abbrev bf(rs:List Int)(k:Nat):Nat:=idx (aj rs) (k:Int)
theorem bw{rs:List Int}(h:aR rs){k:Nat}(B:k<rs.length+2):bf rs k<rs.length+2/\aE ((aj rs).getD (bf rs k) 0)=k:=by
 have z:=G7 (os:=aj rs) (a:=(k:Int)) ((xx h).mpr (by omega));rw[a6]at z;exact z
theorem dz{rs:List Int}(h:aR rs){j:Nat}(z:j<rs.length+2){k:Nat}(e:aE ((aj rs).getD j 0)=k):bf rs k=j :=
 G6 (cD h) (by rw[cS (by rw[a6];exact z),e])
theorem fN{rs:List Int}(h:aR rs):bf rs 0=0:=dz h (by omega) rfl
theorem dR{rs:List Int}(h:aR rs):bf rs (rs.length+1)=rs.length+1:=dz h (by omega) (by rw[bE];unfold aE;rw[UO (by omega)];omega)
noncomputable def isOpen(fs:List Int)(g:Nat):Bool:=decide (fs.getD (g+1) 0≠fs.getD g 0+1)
noncomputable def jI(fs:List Int)(m:Nat):List Int:=((Pu m).filter (isOpen fs)).map λ(g:Nat)=>(g:Int)
noncomputable def iJ(fs:List Int)(p:Nat):Int:=if fs.getD p 0<0 then(p:Int)-1 else p
noncomputable def iK(fs:List Int)(p:Nat):Int:=if fs.getD p 0<0 then(p:Int)else(p:Int)-1
noncomputable def bP(rs:List Int)(k:Nat):Int:=iJ (aj rs) (bf rs k)
noncomputable def cE(rs:List Int)(k:Nat):Int:=iK (aj rs) (bf rs k)
noncomputable def pW(rs:List Int)(k:Nat):Int×Int:=(bP rs k,cE rs (k+1))
noncomputable def bU(rs:List Int):List (Int×Int):=(Pu (rs.length+1)).map (pW rs)
theorem gG(rs:List Int):(bU rs).length=rs.length+1:=by unfold bU;rw[O0,PL]
theorem b6{rs:List Int}{k:Nat}(h:k<rs.length+1):(bU rs)[k]?=Yl (pW rs k):=by unfold bU;rw[O6,QM h];rfl
theorem bM{rs:List Int}{p:Nat}(B:p<rs.length+2)(h:(aj rs).getD p 0<0):1<=p/\p<=rs.length:=by
 constructor
 .cases p with
  |zero=>rw[cB]at h;omega
  |succ p=>omega
 refine O2 λz=>?_;have e:p=rs.length+1:=by omega
 rw[e,bE]at h;omega
theorem t5{α:Type}{f g p q:α->Int}:∀{l:List α},(∀k∈l,(f k=p k/\g k=q k)\/(f k=q k/\g k=p k))->(l.map f++l.map g).Perm (l.map p++l.map q)
 |[],_=>List.Perm.refl _
 |a::r,h=>by
  have B:=t5 (l:=r) λk D=>h k (Pj _ D);have e:=h a (Pc ..);rw[Tn]at B⊢;intro x;have z:=B x;simp only[Qk,Ue,Uw,TN]at z⊢;rcases e with⟨e1,e2⟩|⟨e1,e2⟩ <;> rw[e1,e2] <;> omega
theorem t7{rs:List Int}(h:aR rs):((bU rs).map Qd++(bU rs).map Rr).Perm (bF (rs.length+1)++bF (rs.length+1)):=by
 let n:=rs.length
 have J:((Pu (n+2)).map (bP rs)++(Pu (n+2)).map (cE rs)).Perm ((Pu (n+2)).map (λk=>((bf rs k:Nat):Int))++(Pu (n+2)).map (λk=>((bf rs k:Nat):Int)-1)):=t5 λk E=>by
  unfold bP cE iJ iK;by_cases c:(aj rs).getD (bf rs k) 0<0
  .rw[UQ c,UQ c];exact .inr ⟨rfl,rfl⟩
  rw[UO c,UO c];exact .inl ⟨rfl,rfl⟩
 have M:((Pu (n+2)).map (bf rs)).Perm (Pu (n+2)):=by
  refine(QS ?_ Uj).mpr λa=>?_
  .rw[Qp,PD];refine List.Pairwise.imp_of_mem ?_ QA;intro a b B O U e;have V:=(bw h (Pm.mp B)).2;have Z:=(bw h (Pm.mp O)).2;rw[e,Z]at V;omega
  rw[O4];constructor
  .rintro⟨k,E,rfl⟩;exact Pm.mpr (bw h (Pm.mp E)).1
  intro B;have B:=Pm.mp B;have z:=eF h B;exact⟨(aE ((aj rs).getD a 0)).toNat,Pm.mpr (by omega),dz h B (by omega)⟩
 have H:((Pu (n+2)).map (λk=>((bf rs k:Nat):Int))).Perm (bF (n+2)):=by
  have z:=M.map (λ(i:Nat)=>(i:Int));rw[PK]at z;exact z
 have h3:((Pu (n+2)).map (λk=>((bf rs k:Nat):Int)-1)).Perm ((bF (n+2)).map λi=>i-1):=by
  have z:=H.map (λi=>i-1);rw[PK]at z;exact z
 have D:=J.trans (H.append h3);have e1:(Pu (n+2)).map (bP rs)=(bU rs).map Qd++[(n:Int)+1]:=by
  rw[QD,Pb];unfold bU;rw[PK];show _++[bP rs (n+1)]=_;have e:bP rs (n+1)=(n:Int)+1:=by
   unfold bP iJ;rw[show bf rs (n+1)=n+1 from dR h,bE,UO (by omega)];omega
  rw[e]
  rfl
 have e2:(Pu (n+2)).map (cE rs)=(-1)::(bU rs).map Rr:=by
  rw[SU,Qk,PK];unfold bU;rw[PK];have e:cE rs 0=-1:=by
   unfold cE iK;rw[fN h,cB]
   rfl
  rw[e]
  rfl
 have e3:bF (n+2)=bF (n+1)++[(n:Int)+1]:=by rw[vQ];rfl
 have e4:(bF (n+2)).map (λi=>i-1)=(-1)::bF (n+1):=by
  rw[oQ,Qk];unfold aZ bF;rw[PK];congr 1;refine Pw λi _=>?_;show 1+(i:Int)-1=i;omega
 rw[e1,e2,e4,e3]at D;show List.Perm (_++_) (bF (n+1)++bF (n+1));rw[Tn]at D⊢;intro x;have z:=D x;simp only[TN,Uw,List.count_nil]at z⊢;omega
noncomputable def cF(fs:List Int)(a j:Nat):Int:=if fs.getD a 0<0 then-aE (fs.getD j 0)else aE (fs.getD j 0)
structure Wh(fs:List Int) (a b:Nat):Prop where
 lt:a<b
 lb:b<fs.length
 mid:∀j,a<j->j<=b->fs.getD a 0<=cF fs a j/\cF fs a j<=fs.getD b 0
 own:fs.getD b 0=cF fs a b
 pK:fs.getD b 0=fs.getD a 0+((b:Int)-(a:Int))
theorem eK(fs:List Int)(a:Nat):cF fs a a=fs.getD a 0:=by
 unfold cF aE
 split <;> omega
theorem nN{fs:List Int}(nd:(aW fs).Nodup){a i j:Nat}(hi:i<fs.length)(B:j<fs.length)(e:cF fs a i=cF fs a j):i=j:=by
 have e:aE (fs.getD i 0)=aE (fs.getD j 0):=by
  unfold cF at e
  split at e <;> omega
 have z:=cS (os:=fs) hi;have D:=cS (os:=fs) B;rw[e]at z;exact(Qa (by rw[cA];exact hi) nd).mp (z.trans D.symm)
structure rR(fs:List Int) (a c:Nat) (hi:Int):Prop where
 lo:∀j,a<j->j<c->fs.getD a 0<=cF fs a j
 up:∀j,a<=j->j<c->cF fs a j<=hi
 is:∃j,a<=j/\j<c/\hi=cF fs a j
theorem rR.first(fs:List Int)(a:Nat):rR fs a (a+1) (fs.getD a 0):=by
 refine⟨λj z B=>by omega,λj z B=>?_,⟨a,by omega,by omega,by rw[eK]⟩⟩;have e:j=a:=by omega
 rw[e,eK];exact QN _
theorem rR.next{fs:List Int}{a c:Nat}{hi:Int}(h:rR fs a c hi)(H:a<c)(B:fs.getD a 0<=cF fs a c):rR fs a (c+1) (if cF fs a c>hi then cF fs a c else hi):=by
 refine⟨λj z D=>?_,λj z D=>?_,?_⟩
 .by_cases e:j=c
  .rw[e];exact B
  exact h.lo j z (by omega)
 .by_cases e:j=c
  .rw[e];split <;> omega
  have:=h.up j z (by omega)
  split <;> omega
 by_cases E:cF fs a c>hi
 .rw[UQ E];exact⟨c,by omega,by omega,rfl⟩
 rw[UO E];obtain⟨j,z,D,J⟩:=h.is;exact⟨j,z,by omega,J⟩
theorem rR.wh{fs:List Int}(nd:(aW fs).Nodup){a c:Nat}{hi:Int}(h:rR fs a (c+1) hi)(B:a<c)(H:c<fs.length):(fs.getD c 0=hi/\hi=fs.getD a 0+(c:Int)-(a:Int))↔Wh fs a c:=by
 constructor
 .rintro⟨e1,e2⟩;obtain⟨j,D,J,z⟩:=h.is;have U:j=c:=by
   by_cases E:j=a
   .rw[E,eK]at z;omega
   have V:aE (fs.getD j 0)=aE (fs.getD c 0):=by
    have M:∀x:Int,aE (aE x)=aE x:=λx=>by
     have:=dQ x;generalize aE x=y at this;unfold aE;rw[UO (by omega)]
    rw[e1,z];unfold cF
    split
    .rw[iH,M]
    rw[M]
   have O:=cS (os:=fs) (j:=j) (by omega);have Z:=cS (os:=fs) H;rw[V]at O;exact(Qa (by rw[cA];omega) nd).mp (O.trans Z.symm)
  refine⟨B,H,λi D J=>⟨h.lo i D (by omega),?_⟩,?_,by omega⟩
  .rw[e1];exact h.up i (by omega) (by omega)
  rw[e1,z,U]
 intro W;have e1:hi=fs.getD c 0:=by
  have u:=h.up c (by omega) (by omega);rw[<-W.own]at u;obtain⟨j,D,J,z⟩:=h.is;have v:cF fs a j<=fs.getD c 0:=by
   by_cases E:j=a
   .rw[E,eK];have:=W.pK;omega
   exact(W.mid j (by omega) (by omega)).2
  omega
 exact⟨e1.symm,by rw[e1,W.pK];omega⟩
theorem Wh.stop{fs:List Int}{a c b:Nat}(z:a<c)(h:cF fs a c<fs.getD a 0)(B:c<=b):¬Wh fs a b:=λW=>by
 have:=(W.mid c z B).1;omega
theorem Wh.rest{fs:List Int}(nd:(aW fs).Nodup){a c b:Nat}(E:Wh fs a c)(B:Wh fs a b)(M:c<b):Wh fs c b:=by
 have hac:=E.lt;have sg:∀j,cF fs c j=cF fs a j:=λj=>by
  have e:=E.own;unfold cF at e⊢;by_cases s:fs.getD a 0<0
  .rw[UQ s]at e;by_cases t:fs.getD c 0<0
   .rw[UQ s,UQ t]
   exfalso;have z:=dQ (fs.getD c 0);have z0:fs.getD c 0=0:=by omega
   have V:=(B.mid b (by omega) (O5 _))
   have hb:=B.pK;have hc:=E.pK;have Z:=B.own;unfold cF at Z;rw[UQ s]at Z;have zb:=dQ (fs.getD b 0);omega
  rw[UO s]at e;have z:=dQ (fs.getD c 0);rw[UO s,UO (by omega)]
 have above:∀j,c<j->j<=b->fs.getD c 0<cF fs a j:=λj hj O=>by
  refine O2 λz=>?_;have z:cF fs a j<=fs.getD c 0:=by omega
  have lo:=(B.mid j (by omega) O).1;have key:∀(m:Nat),∀(S:List Nat),S.Nodup->(∀i∈S,i<fs.length/\fs.getD a 0<=cF fs a i/\cF fs a i<fs.getD a 0+m)->S.length<=m:=by
   intro m
   induction m with
   |zero =>
    intro S _ H;cases S with
    |nil=>exact O5 _
    |cons i r=>have:=H i (Pc ..);omega
   |succ m ih =>
    intro S U H;by_cases c0:∃i∈S,cF fs a i=fs.getD a 0+m
    .obtain⟨i,hi,ei⟩:=c0;have l1:(S.erase i).length=S.length-1:=Qs hi;have l2:=ih (S.erase i) (U.erase i) λk D=>by
      have J:=(List.Nodup.mem_erase_iff U).mp D;have q:=H k J.2;refine⟨q.1,q.2.1,?_⟩;have ne:cF fs a k≠fs.getD a 0+m:=λe=>J.1 (nN nd q.1 (H i hi).1 (e.trans ei.symm));omega
     have:=Qm hi;omega
    have:=ih S U λk D=>by
     have q:=H k D;refine⟨q.1,q.2.1,?_⟩;have ne:cF fs a k≠fs.getD a 0+m:=λe=>c0 ⟨k,D,e⟩;omega
    omega
  have S:=key (c-a+1) (j::(Pu (c-a+1)).map (· + a)) (by
   rw[PX];refine⟨λV=>?_,?_⟩
   .obtain⟨i,hi,e⟩:=O4.mp V;have:=Pm.mp hi;omega
   .rw[Qp,PD];exact QA.imp λh=>by omega) (λi hi=>by
   have hf:=E.pK;have hlb:=B.lb;rcases Pq.mp hi with rfl|hi
   .exact⟨by omega,lo,by omega⟩
   obtain⟨k,D,rfl⟩:=O4.mp hi;have D:=Pm.mp D;by_cases k0:k=0
   .rw[k0,Sx,eK];exact⟨by omega,QN _,by omega⟩
   have q:=E.mid (k+a) (by omega) (by omega);exact⟨by omega,q.1,by omega⟩)
  rw[QK,O0,PL]at S;omega
 refine⟨M,B.lb,λj k1 k2=>?_,?_,?_⟩
 .rw[sg];exact⟨QY (above j k1 k2),(B.mid j (by omega) k2).2⟩
 .rw[sg];exact B.own
 have:=E.pK;have:=B.pK;omega
def Kn(fs:List Int)(a b:Nat):Prop:=Wh fs a b/\∀c,c<b->¬Wh fs a c
theorem Bm{fs:List Int}(nd:(aW fs).Nodup){a b:Nat}:Kn fs a b↔Wh fs a b/\¬ ∃c,Wh fs a c/\Wh fs c b:=by
 constructor
 .rintro⟨z,B⟩;exact⟨z,λ⟨c,k1,k2⟩=>B c k2.lt k1⟩
 rintro⟨z,B⟩;refine⟨z,λc D hw=>B ⟨c,hw,hw.rest nd z D⟩⟩
def Rw(rs:List Int):Prop:=(aW rs).Perm (aZ rs.length)
theorem Rw.of{rs z:List Int}(h:Rw rs)(p:(aW z).Perm (aW rs)):Rw z:=by
 unfold Rw at *;have e:z.length=rs.length:=by have:=p.length_eq;rwa[cA,cA]at this
 rw[e];exact p.trans h
theorem iL(a b:List Int):aW (a++b)=aW a++aW b:=by unfold aW;rw[Pb]
theorem Rw.rot{rs:List Int}{x:Int}(h:Rw rs)(z:rs[0]?=Yl x):Rw (rs.drop 1++[x]):=by
 refine h.of ?_;cases rs with
 |nil=>cases z
 |cons y r =>
  obtain rfl:y=x:=Option.some.inj z;show(aW (r++[y])).Perm (aW ([y]++r));rw[iL,iL];exact S1
theorem Rw.snoc{rs:List Int}(h:Rw rs):Rw (rs++[(rs.length:Int)+1]):=by
 unfold Rw at *;rw[iL,O7,PM,oM];refine List.Perm.append h ?_;have:aE ((rs.length:Int)+1)=(rs.length:Int)+1:=by unfold aE;rw[UO (by omega)]
 show([aE ((rs.length:Int)+1)]).Perm _;rw[this]
theorem Rw.tail{rs z:List Int}(f:Nat)(h:Rw rs)(p:(aW z).Perm (aW (rs.drop f))):Rw (rs.take f++z):=by
 refine h.of ?_;have e:aW rs=aW (rs.take f)++aW (rs.drop f):=by rw[<-iL,Rz]
 rw[e,iL];exact List.Perm.append_left _ p
theorem t9(rs:List Int):(aW rs.reverse).Perm (aW rs):=by
 unfold aW;rw[Rb];exact TL _
theorem ua(rs:List Int):(aW (rs.reverse.map λx=>0-x)).Perm (aW rs):=by
 have e:aW (rs.reverse.map λx=>0-x)=aW rs.reverse:=by
  unfold aW;rw[PK];refine Pw λx _=>?_;show aE (0-x)=aE x;rw[UH,iH]
 rw[e];exact t9 rs
theorem Rw.fit{rs:List Int}(h:Rw rs)(z:rs.length<=40):aR rs:=⟨z,h⟩
noncomputable def pX(low:Int)(y:Int):Int:=y+3*(if y>low then 1 else 0)
theorem M4{rs inner:List Int}{spot:Nat}{low:Int}(h:rs.Perm (bF rs.length))(hs:rs[spot]?=Yl low)(hi:inner.Perm [low,low+1,low+2,low+3]) :
  ((rs.map (pX low)).take spot++inner++(rs.map (pX low)).drop (spot+1)).Perm (bF (rs.length+3)):=by
 have B:=(O1.mp hs).1;have nd:rs.Nodup:=h.nodup_iff.mpr (iI _);have O:rs=rs.take spot++low::rs.drop (spot+1):=by
  have e:rs.drop spot=low::rs.drop (spot+1):=by
   rw[SA B];congr 1;rw[OZ B]at hs;exact Option.some.inj hs
  rw[<-e,Rz]
 have H:rs.Perm (low::(rs.take spot++rs.drop (spot+1))):=by
  conv=>lhs;rw[O]
  exact List.perm_middle
 generalize hR:rs.take spot++rs.drop (spot+1)=R at H;have U:=H.nodup_iff.mp nd;obtain⟨D,V⟩:=PX.mp U;have p2:((rs.map (pX low)).take spot++inner++(rs.map (pX low)).drop (spot+1)).Perm ([low,low+1,low+2,low+3]++R.map (pX low)):=by
  have e:(rs.map (pX low)).take spot++inner++(rs.map (pX low)).drop (spot+1)=(rs.take spot).map (pX low)++inner++(rs.drop (spot+1)).map (pX low):=by rw[Sm,RF]
  rw[e,<-hR,Pb];have q1:((rs.take spot).map (pX low)++inner++(rs.drop (spot+1)).map (pX low)).Perm (inner++(rs.take spot).map (pX low)++(rs.drop (spot+1)).map (pX low)):=List.Perm.append_right _ S1;refine q1.trans ?_;rw[RD];exact List.Perm.append_right _ hi
 refine p2.trans ?_;have J:∀y,y∈R↔(0<=y/\y<rs.length)/\y≠low:=λy=>by
  have z:=(H.symm.trans h).mem_iff (a:=y);rw[Pq,dH]at z;constructor
  .intro M;exact⟨z.mp (.inr M),λe=>D (e▸M)⟩
  rintro⟨h1,h2⟩;exact(z.mpr h1).resolve_left h2
 have Z:0<=low/\low<rs.length:=by
  have z:=(H.symm.trans h).mem_iff (a:=low);rw[dH]at z;exact z.mp (Pc ..)
 have e3:∀y,pX low y=if y>low then y+3 else y:=λy=>by unfold pX;split <;> omega
 refine(QS ?_ (iI _)).mpr λz=>?_
 .rw[QF];refine⟨?_,?_,?_⟩
  .simp only[PX,Pq,Pf,or_false,not_false_eq_true,QJ,and_true,not_or];omega
  .rw[Qp,PD];refine List.Pairwise.imp_of_mem ?_ (Qp.mp V);intro a b ha hb hab e;rw[e3,e3]at e
   split at e <;> split at e <;> omega
  intro x hx y M e;obtain⟨v,E,rfl⟩:=O4.mp M;have E:=(J v).mp E;rw[e3]at e;simp only[Pq,Pf,or_false]at hx
  split at e <;> omega
 rw[Pl,dH,O4];constructor
 .rintro(hx|⟨v,E,rfl⟩)
  .simp only[Pq,Pf,or_false]at hx;omega
  have E:=(J v).mp E;rw[e3]
  split <;> omega
 intro hz;by_cases c1:z<low
 .exact .inr ⟨z,(J z).mpr (by omega),by rw[e3,UO (by omega)]⟩
 by_cases c2:z<=low+3
 .left;simp only[Pq,Pf,or_false];omega
 exact .inr ⟨z-3,(J (z-3)).mpr (by omega),by rw[e3,UQ (by omega)];omega⟩
theorem JX{rs:List Int}(h:rs.Perm (bF rs.length)):Rw (rs.map λx=>x+1):=by
 unfold Rw;have e:aW (rs.map λx=>x+1)=rs.map λx=>x+1:=by
  unfold aW;rw[PK];refine Pw λx z=>?_;have:=dH.mp (h.mem_iff.mp z);show aE (x+1)=x+1;unfold aE;rw[UO (by omega)]
 rw[e,O0];refine(h.map _).trans ?_;have:(bF rs.length).map (λx=>x+1)=aZ rs.length:=by
  unfold bF aZ;rw[PK];refine Pw λi _=>?_;show(i:Int)+1=1+i;omega
 rw[this]
theorem Rw.flip{rs:List Int}(h:Rw rs){j:Nat}{x:Int}(z:rs[j]?=Yl x):Rw (rs.set j (0-x)):=by
 refine h.of ?_;have e:aW (rs.set j (0-x))=aW rs:=by
  unfold aW;rw[UI];have:aE (0-x)=aE x:=by rw[UH,iH]
  rw[this];refine QV λi=>?_;rw[List.getElem?_set];by_cases c:j=i
  .subst c;have B:=(O1.mp z).1;rw[UQ rfl,UQ (by rw[O0];exact B),O6,z]
   rfl
  rw[UO c]
 rw[e]
end aC
set_option maxHeartbeats 2000000
namespace rS
open PySem PyProof.Rows
class vo where
 G:VA->Prop
 nm:VA->Int
 kd:SortKind
variable [vo]
noncomputable def num(p:VA):Int:=vo.nm p
noncomputable def K(xs:Array VA)(i:Nat):Int:=match xs[i]? with
 |some p=>num p
 |none=>0
def IntKeys(xs:Array VA):Prop:=∀p∈xs.toList,vo.G p
def SortedTo(xs:Array VA)(k:Nat):Prop:=∀i j,i<=j->j<k->K xs i<=K xs j
noncomputable abbrev oneType':SortKind:=vo.kd
def Asks(prog:U3)(w:U4)(A:Ve)(s:UW):Prop:=∀x y:VA,vo.G x->vo.G y->∀(E:UP->UW->Prop) (Q:Bool->UW->Prop),Q (decide (num x<num y)) s->wpAny (model prog w) A (keyLt' oneType' x.1 y.1) Q E s
structure Dj(prog:U3) (w:U4) (A:Ve) (s:UW) (xs:Array VA):Prop where
 ik:IntKeys xs
 as:Asks prog w A s
theorem K_congr{xs ys:Array VA}{i j:Nat}(h:xs[i]?=ys[j]?):K xs i=K ys j:=by unfold K;rw[h]
theorem K_bubble{xs:Array VA}{src d:Nat}(hs:src<xs.size)(hd:d<=src)(k:Nat):K (bubble xs src d) k=if k=src-d then K xs src else if src-d<k/\k<=src then K xs (k-1)else K xs k:=by
 have e:=getElem?_bubble hs d hd k
 split at e
 .rw[UQ (by assumption)];exact K_congr e
 rw[UO (by assumption)]
 split at e
 .rw[UQ (by assumption)];exact K_congr e
 rw[UO (by assumption)];exact K_congr e
theorem K_mirror{xs:Array VA}{i j:Nat}(z:j<=xs.size)(k:Nat):K (mirror xs i j ((j-i)/2)) k=if i<=k/\k<j then K xs (i+j-1-k)else K xs k:=by
 have e:=getElem?_mirror_all (i:=i) z k
 split at e
 .rw[UQ (by assumption)];exact K_congr e
 rw[UO (by assumption)];exact K_congr e
theorem K_mirror_equal{xs:Array VA}{i j:Nat}(B:j<=xs.size)(z:∀k,i<=k->k<j->K xs k=K xs (j-1))(k:Nat):K (mirror xs i j ((j-i)/2)) k=K xs k:=by
 rw[K_mirror B];by_cases c:i<=k/\k<j
 .rw[UQ c,z k c.1 c.2];exact z _ (by omega) (by omega)
 rw[UO c]
section
variable {prog:U3}{w:U4}{A:Ve}{E:UP->UW->Prop}{s:UW}
theorem G8{st:Vt}{x y:VA}{i j:Int}{Q:Option Bool->Vt->Prop}(as:Asks prog w A s)(D:kindOf st=oneType')(z:vo.G x/\num x=i)(B:vo.G y/\num y=j)(h:Q (Yl (decide (i<j))) st):wpS (model prog w) A E s (lt' x y) Q st:=by
 rw[lt'_eq];refine Vh (XD ?_);rw[D];refine Vh (wpS_lift (VC (as x y z.1 B.1 _ _ ⟨rfl,?_⟩)));rw[z.2,B.2];exact Vw h
theorem ub{st:Vt}{z:Array VA}{i:Nat}{Q:VA->Vt->Prop}{p:VA}(B:z[i]?=Yl p)(h:Q p st):wpS (model prog w) A E s (elem' z i) Q st:=by
 rw[elem'_eq,B];exact Vw h
theorem ck{α:Type}{c:Prop}[Decidable c]{m z:StateT Vt Yk α}{Q:α->Vt->Prop}{st:Vt}(B:c->wpS (model prog w) A E s m Q st)(D:¬c->wpS (model prog w) A E s z Q st):wpS (model prog w) A E s (if c then m else z) Q st:=by
 by_cases h:c
 .rw[UQ h];exact B h
 rw[UO h];exact D h
end
section
variable {a b out:Array VA}{z B k:Nat}
theorem Bo{xs:Array VA}{i:Nat}{p:VA}(h:xs[i]?=Yl p):K xs i=num p:=by unfold K;rw[h]
end
structure SB(a₀:Array VA) (pd:Array (Nat×Nat×Nat)) (lo:Nat) (f:Nat->Int) (st:Vt):Prop where
 perm:(arrOf st).Perm a₀
 kd:kindOf st=oneType'
 fl:XE st=none
 pd:Ww st=pd
 pre:∀i,i<lo->K (arrOf st) i=f i
section
variable {a₀:Array VA}{pd:Array (Nat×Nat×Nat)}{lo:Nat}{f:Nat->Int}{st:Vt}
theorem SB.sz(h:SB a₀ pd lo f st):(arrOf st).size=a₀.size:=h.perm.size_eq
theorem SB.put(h:SB a₀ pd lo f st){xs:Array VA}(z:xs.Perm (arrOf st))(B:∀i,i<lo->K xs i=K (arrOf st) i):SB a₀ pd lo f (setArr st xs):=⟨z.trans h.perm,h.kd,h.fl,h.pd,λi hi=>(B i hi).trans (h.pre i hi)⟩
theorem SB.item(h:SB a₀ pd lo f st)(B:IntKeys a₀){i:Nat}(hi:i<a₀.size):∃p,(arrOf st)[i]?=Yl p/\vo.G p/\num p=K (arrOf st) i:=by
 have z:i<(arrOf st).size:=h.sz.symm▸hi;have e:(arrOf st)[i]?=Yl (arrOf st)[i]:=getElem?_pos _ i z;exact⟨(arrOf st)[i],e,B _ ((Sv.mp h.perm).mem_iff.mp (Array.getElem_mem_toList z)),(Bo e).symm⟩
end
def hV(lo:Nat)(xs:Array VA)(n:Nat):Prop:=∀i j,i<=j->j<n->K xs (lo+i)<=K xs (lo+j)
def jU(lo:Nat)(xs:Array VA)(n:Nat):Prop:=∀i j,i<=j->j<n->K xs (lo+j)<=K xs (lo+i)
theorem hV.more{lo n:Nat}{xs:Array VA}(h:hV lo xs n)(D:1<=n)(k:K xs (lo+n-1)<=K xs (lo+n)):hV lo xs (n+1):=λi j B E=>by
 by_cases c:j<n
 .exact h i j B c
 obtain rfl:j=n:=by omega
 by_cases d:i=j
 .rw[d];exact QN _
 have z:=h i (j-1) (by omega) (by omega);rw[show lo+(j-1)=lo+j-1 by omega]at z;exact Ua z k
theorem jU.more{lo n:Nat}{xs:Array VA}(h:jU lo xs n)(D:1<=n)(k:K xs (lo+n)<=K xs (lo+n-1)):jU lo xs (n+1):=λi j B E=>by
 by_cases c:j<n
 .exact h i j B c
 obtain rfl:j=n:=by omega
 by_cases d:i=j
 .rw[d];exact QN _
 have z:=h i (j-1) (by omega) (by omega);rw[show lo+(j-1)=lo+j-1 by omega]at z;exact Ua k z
theorem hV.one{lo:Nat}{xs:Array VA}:hV lo xs 1:=λi j z B=>by
 obtain rfl:i=j:=by omega
 exact QN _
theorem jU.one{lo:Nat}{xs:Array VA}:jU lo xs 1:=λi j z B=>by
 obtain rfl:i=j:=by omega
 exact QN _
theorem jU.congr{lo n:Nat}{xs ys:Array VA}(h:jU lo xs n)(e:∀k,K ys k=K xs k):jU lo ys n:=λi j z B=>by rw[e,e];exact h i j z B
noncomputable def JY(lo a m:Nat):StateT Vt Yk AscSt :=
 forIn [a:m] ((none,a):AscSt) λ_ c=>do
  let x <-ltAt' (lo+c.2) (lo+c.2-1)
  match x with
  |some b=>if b=true then pure (ForInStep.done (none,c.2))else pure (ForInStep.yield (none,c.2+1))
  |_=>pure (ForInStep.done (Yl none,c.2))
noncomputable def Bp(lo n m:Nat):StateT Vt Yk (Option Nat):=do
 WQ lo (lo+n)
 let c <-JY lo n m
 match c.1 with
 |some r=>pure r
 |none=>pure (Yl c.2)
noncomputable def xB(lo n m:Nat):StateT Vt Yk DescSt :=
 forIn [n:m] ((none,n,0):DescSt) λ_ c=>do
  let x <-ltAt' (lo+c.2.1) (lo+c.2.1-1)
  match x with
  |some b =>
   if b=true then
    if c.2.2>0 then do
     WQ (lo+c.2.1-(c.2.2+1)) (lo+c.2.1)
     pure (ForInStep.yield (none,c.2.1+1,0))
    else pure (ForInStep.yield (none,c.2.1+1,0))
   else do
    let y <-ltAt' (lo+c.2.1-1) (lo+c.2.1)
    match y with
    |some g=>if g=true then pure (ForInStep.done (none,c.2.1,c.2.2))else pure (ForInStep.yield (none,c.2.1+1,c.2.2+1))
    |_=>pure (ForInStep.done (Yl none,c.2.1,c.2.2))
  |_=>pure (ForInStep.done (Yl none,c.2.1,c.2.2))
noncomputable def uc(lo n m:Nat):StateT Vt Yk (Option Nat):=do
 liftM (rule "list.sort.descending-run")
 let c <-xB lo (n+1) m
 match c.1 with
 |some r=>pure r
 |none =>
  if c.2.2>0 then do
   WQ (lo+c.2.1-(c.2.2+1)) (lo+c.2.1)
   Bp lo c.2.1 m
  else Bp lo c.2.1 m
theorem ze(lo m:Nat):countRun' lo m=(do
  let c <-JY lo 1 m
  match c.1 with
  |some r=>pure r
  |none =>
   if(c.2==m)=true then pure (Yl c.2)
   else if c.2>1 then do
    let x <-ltAt' lo (lo+c.2-1)
    match x with
    |some b=>if b=true then pure (Yl c.2)else do
      WQ lo (lo+c.2)
      uc lo c.2 m
    |_=>pure none
   else uc lo c.2 m):=by
 rw[countRun'_eq];dsimp only;unfold uc Bp xB JY;congr 1;funext c;obtain⟨r,n⟩:=c;cases r with
 |some r=>rfl
 |none =>
  dsimp only
  split
  .rfl
  split
  .congr 1;funext x;cases x with
   |none=>rfl
   |some b =>
    dsimp only
    split
    .rfl
    congr 1;funext Z;congr 1;funext M;congr 1;congr 1;funext E;obtain⟨D,O,U⟩:=E;cases D with
    |some D=>rfl
    |none =>
     dsimp only
     split
     .congr 1;funext V;congr 1;funext H;congr 1;funext z;obtain⟨B,J⟩:=z;cases B <;> rfl
     congr 1;funext H;congr 1;funext z;obtain⟨B,J⟩:=z;cases B <;> rfl
  congr 1;funext M;congr 1;congr 1;funext E;obtain⟨D,O,U⟩:=E;cases D with
  |some D=>rfl
  |none =>
   dsimp only
   split
   .congr 1;funext V;congr 1;funext H;congr 1;funext z;obtain⟨B,J⟩:=z;cases B <;> rfl
   congr 1;funext H;congr 1;funext z;obtain⟨B,J⟩:=z;cases B <;> rfl
theorem G9{f:Nat->Int}{lo l k i:Nat}(hi:i<=k):(if lo+i=lo+l then f (lo+k)else if lo+l<lo+i/\lo+i<=lo+k then f (lo+i-1)else f (lo+i))=if i=l then f (lo+k)else if i<l then f (lo+i)else f (lo+(i-1)):=by
 by_cases c:i=l
 .rw[UQ (congrArg _ c),UQ c]
 rw[UO (λz=>c (Nat.add_left_cancel z)),UO c];by_cases d:i<l
 .rw[UO (λz=>Nat.lt_asymm d (Nat.lt_of_add_lt_add_left z.1)),UQ d]
 rw[UQ ⟨Nat.add_lt_add_left (RT (Uh d) (Ne.symm c)) lo,Tj hi lo⟩,UO d,Nat.add_sub_assoc (by omega)]
theorem DR{X Y:Nat->Int}{l k:Nat}(J:∀i,i<=k->Y i=if i=l then X k else if i<l then X i else X (i-1))(up:∀i j,i<=j->j<k->X i<=X j)(M:∀i,i<l->X i<=X k)(V:∀i,l<=i->i<k->X k<X i)(i j:Nat)(z:i<=j)(H:j<=k):Y i<=Y j:=by
 rw[J i (PH z H),J j H];by_cases O:i=l
 .rw[UQ O];by_cases E:j=l
  .rw[UQ E];exact QN _
  rw[UO E,UO (by omega)];exact QY (V _ (by omega) (by omega))
 rw[UO O];by_cases B:i<l
 .rw[UQ B];by_cases E:j=l
  .rw[UQ E];exact M i B
  rw[UO E];by_cases D:j<l
  .rw[UQ D];by_cases Z:l<=k
   .exact up i j z (PZ D Z)
   by_cases U:j=k
   .rw[U];exact M i B
   exact up i j z (RT H U)
  rw[UO D];exact up i (j-1) (by omega) (by omega)
 rw[UO B,UO (by omega),UO (by omega)];exact up _ _ (Nat.sub_le_sub_right z 1) (by omega)
section
variable {prog:U3}{w:U4}{A:Ve}{E:UP->UW->Prop}{s:UW}{a₀:Array VA}{pd:Array (Nat×Nat×Nat)}{lo:Nat}{f:Nat->Int}
theorem iM{st:Vt}{i j:Nat}{Q:Option Bool->Vt->Prop}(z:SB a₀ pd lo f st)(B:Dj prog w A s a₀)(hi:i<a₀.size)(D:j<a₀.size)(h:Q (Yl (decide (K (arrOf st) i<K (arrOf st) j))) st):wpS (model prog w) A E s (ltAt' i j) Q st:=by
 obtain⟨p,e1,H⟩:=z.item B.ik hi;obtain⟨q,e2,J⟩:=z.item B.ik D;rw[ltAt'_eq];refine Vh (XD ?_);refine Vh (ub e1 (Vh (ub e2 ?_)));exact G8 B.as z.kd H J h
theorem SB.turn{st:Vt}(z:SB a₀ pd lo f st){i j:Nat}(hi:lo<=i)(B:j<=a₀.size):SB a₀ pd lo f (setArr st (mirror (arrOf st) i j ((j-i)/2))):=
 z.put (mirror_perm _ _ _ _) λk D=>by rw[K_mirror (by rw[z.sz];exact B),UO (by omega)]
theorem xC{st:Vt}{a m:Nat}{Q:AscSt->Vt->Prop}(J:Dj prog w A s a₀)(U:lo+m<=a₀.size)(V:1<=a)(D:a<=m)(M:SB a₀ pd lo f st)(hs:hV lo (arrOf st) a)
  (h:∀n,a<=n->n<=m->hV lo (arrOf st) n->(n=m\/K (arrOf st) (lo+n)<K (arrOf st) (lo+n-1))->Q (none,n) st):wpS (model prog w) A E s (JY lo a m) Q st:=by
 unfold JY;refine Wb (I:=λx c B=>B=st/\c=(none,x)/\hV lo (arrOf st) x) ?step ?fin ⟨rfl,rfl,hs⟩
 case fin =>
  rintro c B ⟨e1,e2,g⟩;subst e1 e2;have e:max a m=m:=Ru D;rw[e]at g⊢;exact h m D (O5 _) g (.inl rfl)
 case step =>
  rintro x c B H O ⟨e1,e2,g⟩;subst e1 e2;dsimp only;refine Vh (iM M J (by omega) (by omega) ?_);dsimp only;refine ck (λz=>?_) (λz=>?_)
  .exact Vw (h x H (by omega) g (.inr (U0 z)))
  exact Vw ⟨rfl,rfl,g.more (by omega) (S6.mp λy=>z (UX y))⟩
theorem ud{st:Vt}{n m:Nat}{Q:Option Nat->Vt->Prop}(M:Dj prog w A s a₀)(O:lo+m<=a₀.size)(U:1<=n)(H:n<=m)(J:SB a₀ pd lo f st)(hs:jU lo (arrOf st) n)
  (h:∀k B,SB a₀ pd lo f B->1<=k->k<=m->hV lo (arrOf B) k->Q (Yl k) B):wpS (model prog w) A E s (Bp lo n m) Q st:=by
 unfold Bp;have hz:lo+n<=(arrOf st).size:=by rw[J.sz];omega
 have D:=J.turn (i:=lo) (j:=lo+n) (O5 _) (by omega);refine Vh (Xi (Vh (xC M O U H D (λi j V Z=>?_) λk k1 k2 g _=>Vw (h k _ D (by omega) k2 g))));show K (mirror (arrOf st) lo (lo+n) _) (lo+i)<=K (mirror (arrOf st) lo (lo+n) _) (lo+j);rw[K_mirror hz,K_mirror hz,UQ (by omega),UQ (by omega)];have z:=hs (n-1-j) (n-1-i) (by omega) (by omega);rw[show lo+(n-1-j)=lo+(lo+n)-1-(lo+j) by omega,show lo+(n-1-i)=lo+(lo+n)-1-(lo+i) by omega]at z;exact z
theorem zf{st:Vt}{n m:Nat}{Q:DescSt->Vt->Prop}(h0:Dj prog w A s a₀)(hn:lo+m<=a₀.size)(h1:1<=n)(M:n<=m)(hB:SB a₀ pd lo f st)(hs:jU lo (arrOf st) n)
  (h:∀k q B,SB a₀ pd lo f B->n<=k->k<=m->jU lo (arrOf B) k->q+1<=k->(∀i,lo+k-(q+1)<=i->i<lo+k->K (arrOf B) i=K (arrOf B) (lo+k-1))->Q (none,k,q) B):wpS (model prog w) A E s (xB lo n m) Q st:=by
 unfold xB;refine Wb (I:=λx c B=>∃q,c=(none,x,q)/\SB a₀ pd lo f B/\jU lo (arrOf B) x/\q+1<=x/\(∀i,lo+x-(q+1)<=i->i<lo+x->K (arrOf B) i=K (arrOf B) (lo+x-1))) ?step ?fin
  ⟨0,rfl,hB,hs,by omega,λi U V=>congrArg _ (by omega)⟩
 case fin =>
  rintro c B ⟨q,e,D,H,O,J⟩;subst e;have e:max n m=m:=Ru M;rw[e]at H O J⊢;exact h m q B D M (O5 _) H O J
 case step =>
  rintro x c B Z hxm ⟨q,e,D,H,O,J⟩;subst e;dsimp only;refine Vh (iM D h0 (by omega) (by omega) ?_);dsimp only;refine ck (λz=>?_) (λz=>?_)
  .have z:=QY (U0 z);refine ck (λy=>?_) (λy=>?_)
   .have hz:lo+x<=(arrOf B).size:=by rw[D.sz];omega
    have ke:=K_mirror_equal (i:=lo+x-(q+1)) hz J;refine Vh (Xi (Vw ⟨0,rfl,D.turn (by omega) (by omega),(H.congr ke).more (by omega) ?_,by omega,λi U V=>congrArg _ (by omega)⟩));show K (mirror (arrOf B) _ _ _) _<=K (mirror (arrOf B) _ _ _) _;rw[ke,ke];exact z
   exact Vw ⟨0,rfl,D,H.more (by omega) z,by omega,λi U V=>congrArg _ (by omega)⟩
  have z:K (arrOf B) (lo+x-1)<=K (arrOf B) (lo+x):=S6.mp λy=>z (UX y);refine Vh (iM D h0 (by omega) (by omega) ?_);dsimp only;refine ck (λy=>?_) (λy=>?_)
  .exact Vw (h x q B D Z (by omega) H O J)
  have y:K (arrOf B) (lo+x)<=K (arrOf B) (lo+x-1):=S6.mp λu=>y (UX u);have ee:K (arrOf B) (lo+x)=K (arrOf B) (lo+x-1):=Int.le_antisymm y z;refine Vw ⟨q+1,rfl,D,H.more (by omega) y,by omega,λi U V=>?_⟩;rw[show lo+(x+1)-1=lo+x by omega];by_cases c:i=lo+x
  .rw[c]
  rw[ee];exact J i (by omega) (by omega)
theorem qM{st:Vt}{n m:Nat}{Q:Option Nat->Vt->Prop}(B:Dj prog w A s a₀)(D:lo+m<=a₀.size)(H:n+1<=m)(O:SB a₀ pd lo f st)(hs:jU lo (arrOf st) (n+1))
  (h:∀k z,SB a₀ pd lo f z->1<=k->k<=m->hV lo (arrOf z) k->Q (Yl k) z):wpS (model prog w) A E s (uc lo n m) Q st:=by
 unfold uc;refine Vh (wpS_lift (VR ⟨rfl,Vh (zf B D (by omega) H O hs λk q z J k1 k2 M V U=>?_)⟩));dsimp only;have hz:lo+k<=(arrOf z).size:=by rw[J.sz];omega
 refine ck (λy=>?_) (λy=>?_)
 .exact Vh (Xi (ud B D (by omega) k2 (J.turn (by omega) (by omega)) (M.congr (K_mirror_equal (i:=lo+k-(q+1)) hz U)) h))
 exact ud B D (by omega) k2 J M h
theorem vR{st:Vt}{m:Nat}{Q:Option Nat->Vt->Prop}(J:Dj prog w A s a₀)(M:lo+m<=a₀.size)(h1:1<=m)(B:SB a₀ pd lo f st)
  (h:∀k D,SB a₀ pd lo f D->1<=k->k<=m->hV lo (arrOf D) k->Q (Yl k) D):wpS (model prog w) A E s (countRun' lo m) Q st:=by
 rw[ze];refine Vh (xC J M (O5 1) h1 B hV.one λn U V g O=>?_);dsimp only;refine ck (λc=>?_) (λc=>?_)
 .exact Vw (h n st B U V g)
 have c:n≠m:=λz=>c (by rw[z];exact VF _);have H:=QY (O.resolve_left c);refine ck (λd=>?_) (λd=>?_)
 .refine Vh (iM B J (by omega) (by omega) ?_);dsimp only;refine ck (λy=>?_) (λy=>?_)
  .exact Vw (h n st B U V g)
  have y:K (arrOf st) (lo+n-1)<=K (arrOf st) lo:=S6.mp λu=>y (UX u);have hz:lo+n<=(arrOf st).size:=by rw[B.sz];omega
  have all:∀k,lo<=k->k<lo+n->K (arrOf st) k=K (arrOf st) (lo+n-1):=λk z1 z2=>by
   have Z:=g 0 (k-lo) (by omega) (by omega);have a2:=g (k-lo) (n-1) (by omega) (by omega);rw[show lo+(k-lo)=k by omega]at Z a2;rw[show lo+(n-1)=lo+n-1 by omega]at a2;rw[Nat.add_zero]at Z;omega
  have ke:=K_mirror_equal (i:=lo) hz all;have dn:jU lo (arrOf st) n:=λi j hij hj=>by rw[all (lo+i) (by omega) (by omega),all (lo+j) (by omega) (by omega)];exact QN _
  exact Vh (Xi (qM J M (by omega) (B.turn (O5 _) (by omega)) ((dn.more (by omega) H).congr ke) h))
 obtain rfl:n=1:=by omega
 exact qM J M (by omega) B (jU.one.more (O5 _) H) h
theorem Bq{st:Vt}{n ok:Nat}{Q:Bool->Vt->Prop}(h0:Dj prog w A s a₀)(hn:lo+n<=a₀.size)(U:1<=ok)(ba:ok<=n)(hB:SB a₀ pd lo f st)(hs:hV lo (arrOf st) ok)
  (h:∀B,SB a₀ pd lo f B->hV lo (arrOf B) n->Q true B):wpS (model prog w) A E s (binarySort' lo n ok) Q st:=by
 rw[binarySort'_eq];have em:max ok 1=ok:=S3 U;rw[em];refine Vh (X8 (Wb (I:=λk c B=>c=(none,())/\SB a₀ pd lo f B/\hV lo (arrOf B) k) (Q:=λc B=>c=(none,())/\SB a₀ pd lo f B/\hV lo (arrOf B) n) ?step ?fin ⟨rfl,hB,hs⟩) ?post)
 case post =>
  rintro c B ⟨e,J,H⟩;subst e;exact Vw (h B J H)
 case fin =>
  rintro c B ⟨e,J,H⟩;have e2:max ok n=n:=Ru ba;rw[e2]at H;exact⟨e,J,H⟩
 case step =>
  rintro k c B hak hkn ⟨e,J,H⟩;subst e;have hk:lo+k<a₀.size:=by omega
  refine Vh (X8 (Wb (I:=λx c D=>D=B/\∃l r,c=(none,l,r)/\l<=r/\r<=k/\r-l<=k-x/\(∀i,i<l->K (arrOf B) (lo+i)<=K (arrOf B) (lo+k))/\(∀i,r<=i->i<k->K (arrOf B) (lo+k)<K (arrOf B) (lo+i)))
   (Q:=λc D=>D=B/\∃l r,c=(none,l,r)/\l<=k/\(∀i,i<l->K (arrOf B) (lo+i)<=K (arrOf B) (lo+k))/\(∀i,l<=i->i<k->K (arrOf B) (lo+k)<K (arrOf B) (lo+i))) ?istep ?ifin
   ⟨rfl,0,k,rfl,PQ _,O5 _,O5 _,λi z=>UU z (Rn _),λi V z2=>UU V (by omega)⟩) ?ipost)
  case ifin =>
   rintro c D ⟨e1,l,r,e2,p1,Z,p3,M,O⟩;obtain rfl:l=r:=by omega
   exact⟨e1,l,l,e2,Z,M,O⟩
  case istep =>
   rintro x c D _ hxk ⟨e1,l,r,e2,p1,Z,p3,M,O⟩;subst e1 e2;dsimp only;refine ck (λy=>?_) (λy=>?_)
   .obtain rfl:l=r:=by omega
    exact Vw ⟨rfl,l,l,rfl,Z,M,O⟩
   refine Vh (iM J h0 hk (by omega) ?_);dsimp only;refine ck (λz=>?_) (λz=>?_)
   .have z:=U0 z;exact Vw ⟨rfl,l,(l+r)/2,rfl,by omega,by omega,by omega,M,λi V z2=>Int.lt_of_lt_of_le z (H _ _ V z2)⟩
   have z:=S6.mp λu=>z (UX u);exact Vw ⟨rfl,(l+r)/2+1,r,rfl,by omega,by omega,by omega,λi V=>Ua (H i ((l+r)/2) (by omega) (by omega)) z,O⟩
  case ipost =>
   rintro c D ⟨e1,l,r,e2,Z,M,O⟩;subst e1 e2;show wpS _ _ _ _ (do moveDown' (lo+k) (lo+l);pure (ForInStep.yield (none,()))) _ _;rw[moveDown'_eq];have hz:lo+k<(arrOf D).size:=by rw[J.sz];exact hk
   have dl:lo+k-(lo+l)=k-l:=Nat.add_sub_add_left lo k l;rw[dl];have pk:lo+k-(k-l)=lo+l:=by omega
   have kb:=λi=>K_bubble (d:=k-l) hz (PH (Nat.sub_le k l) (Nat.le_add_left k lo)) i;rw[pk]at kb;refine Vh (X9 (Vw ⟨rfl,J.put (bubble_perm _ _ _) λi hi=>?_,λi j hij hj=>?_⟩))
   .rw[kb,UO (by omega),UO (by omega)]
   refine DR (X:=λi=>K (arrOf D) (lo+i)) (Y:=λi=>K (bubble (arrOf D) (lo+k) (k-l)) (lo+i)) (l:=l) (k:=k) (λi hi=>?_) (λa b=>H a b) M O i j hij (Nat.le_of_lt_succ hj);show K (bubble (arrOf D) (lo+k) (k-l)) (lo+i)=_;rw[kb];exact G9 (f:=λi=>K (arrOf D) i) hi
end
section
variable {prog:U3}{w:U4}{A:Ve}{E:UP->UW->Prop}{s:UW}{a₀:Array VA}
theorem rT{xs:Array VA}{n:Nat}(h:hV 0 xs n):SortedTo xs n:=λi j B D=>by
 have z:=h i j B D;rw[Sx,Sx]at z;exact z
end
end rS
namespace L2
open PySem PySem.Spec
structure ue(X:Cx) (scope:V3) (f:Vg×UR×Nat):Prop where
 cell:X.env.cells.lookup f.1=Yl f.2.1
 at':X.N[f.2.2]?=Yl f.1
 kd:X.env.kindOf f.1=Yl .cell
 rl:(VZ scope X.env).names.lookup f.1=Yl .cell
theorem lookup_mem{β:Type}:∀{l:List (Vg×β)}{x:Vg}{c:β},l.lookup x=Yl c->(x,c)∈l
 |[],_,_,h=>by cases h
 |(y,d)::r,x,c,h=>by
  rw[Q2]at h
  split at h
  .rename_i z;cases h;rw[eq_of_beq z];exact Pc ..
  exact Pj _ (lookup_mem h)
theorem oR{β:Type}:∀{l:List (Vg×β)}{x:Vg},x∈l.map Qd->∃c,l.lookup x=Yl c
 |[],_,h=>by cases h
 |(y,d)::r,x,h=>by
  rw[Q2];by_cases e:(x==y)=true
  .rw[e];exact⟨d,rfl⟩
  have z:(x==y)=false:=by simpa using e
  rw[z];refine oR ?_;rcases Pq.mp h with h|h
  .exact UU (by rw[h];exact VF _) e
  exact h
theorem DS{X:Cx}{scope:V3}{pre:List Vg}(fs:List (Vg×UR×Nat))(ys:List Vg)(J:fs.map Qd=ys)(B:scope.kind=.function)(h:∀w∈scope.names,w.2≠.cell/\(w.2=.free->w.1∈ys))(Z:∀w∈scope.names,w.2=.local->scope.names.lookup w.1=Yl .local)
  (M:W9 scope X.env=pure (fs.map λf=>(f.1,f.2.1))) (D:∀f∈fs,ue X scope f) :
  hH X scope (fs.map λf=>(f.1,f.2.1)) (pre++fs.map Qd) (R7 pre.length none++fs.map λf=>Yl f.2.2) where
 AN:=M
 cell:=λw hw=>(h w hw).1
 kind:=B
 names:=Z
 cls:=λx c' q=>by
  obtain⟨f,O,e⟩:=O4.mp (lookup_mem q);cases e;exact(D f O).cell
 has:=λx q=>by
  have key:∀k,(VZ scope X.env).names.lookup x=Yl k->k=.cell\/k=.free->x∈fs.map Qd:=λk q H=>by
   have O:=PySem.mem_of_lookup q;obtain⟨⟨n,U⟩,hy,E⟩:=O4.mp O;have V:=h _ hy;by_cases D:U=.free
   .have w:=V.2 D;rw[<-J]at w;dsimp only at E
    split at E
    .cases E;exact w
    cases E;exact w
   have hb:(U==NameKind.free)=false:=by simpa using D
   simp only[hb,R6,Qg,Vq,Prod.mk.injEq]at E;obtain⟨_,rfl⟩:=E;rcases H with H|H
   .exact UU H V.1
   exact UU H D
  have hx:x∈fs.map Qd:=by
   rcases q with q|q
   .exact key _ q (.inl rfl)
   exact key _ q (.inr rfl)
  refine oR ?_;rw[PK];exact hx
 len:=by simp
 src:=λi q x e1 e2=>by
  by_cases hi:i<pre.length
  .rw[Pg (by simpa using hi),Q6,UQ hi]at e1;cases e1
  rw[Pd (by simp;omega),R9,O6]at e1;rw[Pd (by omega),O6]at e2;obtain⟨f,e3,e4⟩:=Ph.mp e1;rw[e3]at e2;cases e4;obtain rfl:=Option.some.inj e2;have z:=D f (Pk e3);exact⟨z.at',.inl z.kd,.inl z.rl⟩
theorem Br{X:Cx}{scope:V3}:∀f∈([]:List (Vg×UR×Nat)),ue X scope f:=λf h=>by cases h
theorem qN{X:Cx}{scope:V3}{f:Vg×UR×Nat}{fs:List (Vg×UR×Nat)}(h:ue X scope f)(k:∀g∈fs,ue X scope g):∀g∈f::fs,ue X scope g:=λg z=>by
 rcases Pq.mp z with rfl|z
 .exact h
 exact k g z
theorem Bs{b:Bool}{A B:Prop}(z:b=true)(h:A):if b=true then A else B:=by rw[UQ z];exact h
theorem xD{b:Bool}{A B:Prop}(z:b=false)(h:B):if b=true then A else B:=by rw[UO (by rw[z];decide)];exact h
end L2
namespace aC
open PySem L2
def gH:Sp:=λvs H Q _=>∃(t:UR) (rs:List Int),vs=[.ref t]/\H t=Yl (.tup (iV rs))/\rs.length<=100/\∀(t':UR) (z:Hp),ax H z->z t'=Yl (.tup (iV (aj rs)))->Q (.ref t') z
def oS:Sp:=λvs H Q _=>∃(t:UR) (rs:List Int),vs=[.ref t]/\H t=Yl (.tup (iV rs))/\rs.length<=100/\∀(l:UR) (z:Hp),H l=none->ax H z->z l=Yl (.lst (iV (jI (aj rs) (rs.length+1))))->Q (.ref l) z
def qO:Sp:=λvs H Q _=>∃(t:UR) (rs:List Int),vs=[.ref t]/\H t=Yl (.tup (iV rs))/\aR rs/\∀(l:UR) (z:Hp),H l=none->ax H z->df pr z l (bU rs)->Q (.ref l) z
theorem iN(a b:List Int):iV (a++b)=iV a++iV b:=by unfold iV;rw[Pb]
theorem dw{rs:List Int}{j:Nat}(h:j<rs.length):(iV rs)[j]?=Yl (.int (rs.getD j 0)):=G4 (getD_get h)
theorem xE{fs:List Int}(nd:(aW fs).Nodup){B:List (Key×V)}{i:Nat}{g:Nat->V}(hi:i<fs.length)(E:∀j,j<i->bq B (Sum.inl (aE (fs.getD j 0)):Key)=Yl (g j)) :
  ∀j,j<i+1->bq (putK B (Sum.inl (aE (fs.getD i 0)):Key) (g i)) (Sum.inl (aE (fs.getD j 0)):Key)=Yl (g j):=λj J=>by
 rw[fJ];by_cases e:j=i
 .rw[e,UQ rfl]
 rw[UO,E j (by omega)];intro z;injection z with z;have D:=cS (os:=fs) (j:=j) (by omega);have H:=cS (os:=fs) (j:=i) hi;rw[z]at D;exact e ((Qa (by rw[cA];omega) nd).mp (D.trans H.symm))
theorem DT(x:Int):(if x<0 then -x else x)=aE x:=rfl
end aC
namespace L2
open PySem PySem.Spec PyProof.Rows
theorem hW:∀{z:List UR}{its:List UP},Vals (z.map V.ref) its->its=z.map Value.ref
 |[],_,.nil=>rfl
 |t::z,_,.cons h r=>by rw[hW r];cases h;rfl
end L2
namespace aC
open PySem L2
open Classical
noncomputable def iO(fs:List Int)(a m:Nat):List (Int×Int):=((Pu m).filter λb=>decide (Wh fs a b)).map λ(b:Nat)=>((a:Int),(b:Int))
noncomputable def Aa(fs:List Int)(i:Nat):List (Int×Int):=(Pu i).flatMap λa=>iO fs a fs.length
noncomputable def nC(fs:List Int)(p:Int×Int):Bool:=decide (Kn fs p.1.toNat p.2.toNat)
noncomputable def cG(fs:List Int):List (Int×Int):=(Aa fs fs.length).filter (nC fs)
theorem vS(fs:List Int)(a m:Nat):iO fs a (m+1)=iO fs a m++(if Wh fs a m then[((a:Int),(m:Int))]else[]):=by
 unfold iO;rw[QD,Qf,Pb,Qu,Qv];congr 1;by_cases c:Wh fs a m
 .rw[UQ (UX c),UQ c];rfl
 rw[UO (by rw[U1 c];decide),UO c];rfl
theorem kK(fs:List Int)(i:Nat):Aa fs (i+1)=Aa fs i++iO fs i fs.length:=by unfold Aa;rw[QD,RQ];simp
theorem mr{fs:List Int}{a m:Nat}{p:Int×Int}:p∈iO fs a m↔∃b:Nat,b<m/\Wh fs a b/\p=((a:Int),(b:Int)):=by
 unfold iO;rw[O4];constructor
 .rintro⟨b,D,rfl⟩;obtain⟨z,B⟩:=O9.mp D;exact⟨b,Pm.mp z,U0 B,rfl⟩
 rintro⟨b,z,B,rfl⟩;exact⟨b,O9.mpr ⟨Pm.mpr z,UX B⟩,rfl⟩
theorem DU{fs:List Int}{p:Int×Int}:p∈Aa fs fs.length↔∃a b:Nat,Wh fs a b/\p=((a:Int),(b:Int)):=by
 unfold Aa;rw[Q3];constructor
 .rintro⟨a,B,h⟩;obtain⟨b,_,z,rfl⟩:=mr.mp h;exact⟨a,b,z,rfl⟩
 rintro⟨a,b,W,rfl⟩;exact⟨a,Pm.mpr (S0 W.lt W.lb),mr.mpr ⟨b,W.lb,W,rfl⟩⟩
theorem dS{fs:List Int}{a b c:Nat}(z:Kn fs a b)(B:Kn fs a c):b=c:=by
 by_cases x:b<c
 .exact UU z.1 (B.2 b x)
 by_cases y:c<b
 .exact UU B.1 (z.2 c y)
 omega
theorem oT{fs:List Int}{a:Nat}:∀b,Wh fs a b->∃c,Kn fs a c:=λb=>by
 induction b using RA with
 |_ b z =>
  intro W;by_cases h:∃c,c<b/\Wh fs a c
  .obtain⟨c,B,D⟩:=h;exact z c B D
  exact⟨b,W,λc E hw=>h ⟨c,E,hw⟩⟩
theorem uf{fs:List Int}{a:Nat}:(∀b,¬Wh fs a b)/\(iO fs a fs.length).filter (nC fs)=[]\/∃b,Kn fs a b/\(iO fs a fs.length).filter (nC fs)=[((a:Int),(b:Int))]:=by
 by_cases h:∃b,Wh fs a b
 .right;obtain⟨D,W⟩:=h;obtain⟨b,B⟩:=oT D W;refine⟨b,B,?_⟩;have key:∀m,(iO fs a m).filter (nC fs)=if b<m then[((a:Int),(b:Int))]else[]:=λm=>by
   induction m with
   |zero=>rw[UO (by omega)];rfl
   |succ m E =>
    rw[vS,Qf,E];by_cases e:b=m
    .subst e;rw[UO (by omega),UQ B.1,UQ (by omega),Qu,Qv,UQ]
     .rfl
     unfold nC;exact UX (by simpa using B)
    by_cases w:Wh fs a m
    .have nk:¬nC fs ((a:Int),(m:Int))=true:=λz=>by
      have z:Kn fs a m:=by have:=U0 (show decide (Kn fs ((a:Int)).toNat ((m:Int)).toNat)=true from z);simpa using this
      exact e (dS B z)
     rw[UQ w,Qu,Qv,UO nk,Qj];by_cases lt:b<m
     .rw[UQ lt,UQ (by omega)]
     rw[UO lt,UO (by omega)]
    rw[UO w,Qv,Qj];by_cases lt:b<m
    .rw[UQ lt,UQ (by omega)]
    rw[UO lt,UO (by omega)]
  rw[key,UQ B.1.lb]
 left;refine⟨λb W=>h ⟨b,W⟩,?_⟩;have:iO fs a fs.length=[]:=Sa.mpr λp H=>by
  obtain⟨b,_,W,_⟩:=mr.mp H;exact h ⟨b,W⟩
 rw[this]
 rfl
theorem oU(fs:List Int):∀i,((Aa fs i).filter (nC fs)).length<=i
 |0=>O5 _
 |i+1=>by
  have z:=oU fs i;rw[kK,Qf,O7];rcases uf (fs:=fs) (a:=i)with⟨_,e⟩|⟨b,_,e⟩
  .rw[e];show _+0<=_;omega
  rw[e];show _+1<=_;omega
theorem kL(fs:List Int):(cG fs).length<=fs.length:=oU fs _
def ug:Sp:=λvs H Q _=>∃(t:UR) (fs:List Int) (a:Nat),vs=[.ref t,.int a]/\H t=Yl (.tup (iV fs))/\(aW fs).Nodup/\a<fs.length/\fs.length<=100 /\
 (∀b:Nat,Kn fs a b->Q (.int b) H)/\((∀b,¬Wh fs a b)->Q .eE H)
def fO:Sp:=λvs H Q _=>∃(t:UR) (rs:List Int),vs=[.ref t]/\H t=Yl (.tup (iV rs))/\aR rs/\∀(l:UR) (z:Hp),H l=none->ax H z->df pr z l (cG (aj rs))->Q (.ref l) z
def mU(K:Pa):Sp:=λvs H Q _=>∃(a:UR) (ns:List Int) (at' many:Nat),vs=[.ref a,.int at',.int many]/\bc K H a (ns.map V.int)/\many<=40 /\
 ∀(t:UR) (z:Hp) (rs:List Int),ax H z->z t=Yl (.tup (iV rs))->rs.length=many->aR rs->Q (.ref t) z
noncomputable def Ha(m:Int->Int)(p:Int×Int):Int->Int:=λx=>if m x=m p.2 then m p.1 else m x
noncomputable def mk(ps:List (Int×Int)):Int->Int:=ps.foldl Ha id
theorem kM(ps:List (Int×Int))(p:Int×Int):mk (ps++[p])=Ha (mk ps) p:=by unfold mk;rw[SH];rfl
def Sn(ps:List (Int×Int))(x:Int):Prop:=∃p∈ps,x=p.1\/x=p.2
theorem jq{ps:List (Int×Int)}{p:Int×Int}{x:Int}:Sn (ps++[p]) x↔Sn ps x\/x=p.1\/x=p.2:=by
 unfold Sn;constructor
 .rintro⟨q,z,h⟩;rcases Pl.mp z with z|z
  .exact .inl ⟨q,z,h⟩
  rw[O3.mp z]at h;exact .inr h
 rintro(⟨q,z,h⟩|h)
 .exact⟨q,Px _ z,h⟩
 exact⟨p,Pp _ (O3.mpr rfl),h⟩
theorem gJ{α:Type}{P:List α->Prop}(B:P [])(D:∀l a,P l->P (l++[a])):∀l,P l:=λl=>by
 have:∀l:List α,P l.reverse:=λl=>by
  induction l with
  |nil=>exact B
  |cons a r E=>rw[List.reverse_cons];exact D _ _ E
 have z:=this l.reverse;rwa[S9]at z
theorem hX(ps:List (Int×Int)):(∀x,¬Sn ps x->mk ps x=x)/\∀x,Sn ps x->Sn ps (mk ps x):=by
 refine gJ (P:=λps=>(∀x,¬Sn ps x->mk ps x=x)/\∀x,Sn ps x->Sn ps (mk ps x)) ⟨λ_ _=>rfl,λx ⟨p,h,_⟩=>by cases h⟩ ?_ ps;intro ps p ⟨D,E⟩;have a:∀x,x=p.1\/x=p.2->Sn (ps++[p]) (mk ps x):=λx B=>by
  by_cases c:Sn ps x
  .exact jq.mpr (.inl (E x c))
  rw[D x c];exact jq.mpr (.inr B)
 rw[kM];constructor
 .intro x B;have c:¬Sn ps x:=λz=>B (jq.mpr (.inl z));unfold Ha;rw[D x c,UO];intro e;exact B (e▸a p.2 (.inr rfl))
 intro x B;unfold Ha
 split
 .exact a p.1 (.inl rfl)
 rcases jq.mp B with c|c
 .exact jq.mpr (.inl (E x c))
 exact a x c
noncomputable def eN(g:List (Int×List Int))(k x:Int):List (Int×List Int):=
 if(g.any λe=>decide (e.1=k))=true then g.map (λe=>if e.1=k then(e.1,e.2++[x])else e)else g++[(k,[x])]
noncomputable def gr(c:Nat->Int):Nat->List (Int×List Int)
 |0=>[]
 |n+1=>eN (gr c n) (c n) n
theorem qP(g:List (Int×List Int))(k x:Int):(eN g k x).map Qd=if k∈g.map Qd then g.map Qd else g.map Qd++[k]:=by
 have e:(g.any λe=>decide (e.1=k))=true↔k∈g.map Qd:=by
  rw[Qq,O4];exact⟨λ⟨e,B,D⟩=>⟨e,B,U0 D⟩,λ⟨e,B,D⟩=>⟨e,B,UX D⟩⟩
 unfold eN;by_cases c:(g.any λe=>decide (e.1=k))=true
 .rw[UQ c,UQ (e.mp c),PK];refine Pw λy _=>?_;show(if y.1=k then(y.1,y.2++[x])else y).1=y.1
  split <;> rfl
 rw[UO c,UO (λz=>c (e.mpr z)),Pb]
 rfl
theorem kO(c:Nat->Int):∀n,(gr c n).length<=n
 |0=>O5 _
 |n+1=>by
  have:=kO c n;show(eN (gr c n) (c n) n).length<=n+1;unfold eN
  split
  .rw[O0];omega
  rw[O7];show _+1<=_;omega
structure Fl(g:List (Int×List Int)) (n:Nat):Prop where
 ne:∀e∈g,e.2≠[]
 lt:∀e∈g,∀x∈e.2,0<=x/\x<n
 len:∀e∈g,e.2.length<=n
 asc:g.Pairwise λe f=>e.2.headD 0<f.2.headD 0
theorem qQ{l:List Int}(h:l≠[])(x:Int):(l++[x]).headD 0=l.headD 0:=by
 cases l with
 |nil=>exact UU rfl h
 |cons y r=>rfl
theorem gu(c:Nat->Int):∀n,Fl (gr c n) n
 |0=>⟨λe h=>(nomatch h),λe h=>(nomatch h),λe h=>(nomatch h),List.Pairwise.nil⟩
 |n+1=>by
  have B:=gu c n;show Fl (eN (gr c n) (c n) n) (n+1);unfold eN
  split
  .have key:∀e∈(gr c n).map (λe=>if e.1=c n then(e.1,e.2++[(n:Int)])else e),∃d∈gr c n,(e=d\/e=(d.1,d.2++[(n:Int)]))/\e.2.headD 0=d.2.headD 0:=λe z=>by
    obtain⟨d,hd,rfl⟩:=O4.mp z;refine⟨d,hd,?_⟩
    split
    .exact⟨.inr rfl,qQ (B.ne d hd) _⟩
    exact⟨.inl rfl,rfl⟩
   refine⟨λe z=>?_,λe z x D=>?_,λe z=>?_,?_⟩
   .obtain⟨d,hd,h|h,_⟩:=key e z
    .rw[h];exact B.ne d hd
    rw[h];simp
   .obtain⟨d,hd,h|h,_⟩:=key e z
    .rw[h]at D;have:=B.lt d hd x D;omega
    rw[h]at D;rcases Pl.mp D with D|D
    .have:=B.lt d hd x D;omega
    rw[O3.mp D];omega
   .obtain⟨d,hd,h|h,_⟩:=key e z
    .rw[h];have:=B.len d hd;omega
    rw[h];have:=B.len d hd;show(d.2++[(n:Int)]).length<=_;rw[O7];show _+1<=_;omega
   rw[PD];refine List.Pairwise.imp_of_mem ?_ B.asc;intro a b E H h;have J:∀d∈gr c n,(if d.1=c n then(d.1,d.2++[(n:Int)])else d).2.headD 0=d.2.headD 0:=λd hd=>by
    split
    .exact qQ (B.ne d hd) _
    rfl
   rw[J a E,J b H];exact h
  refine⟨λe z=>?_,λe z x D=>?_,λe z=>?_,?_⟩
  .rcases Pl.mp z with z|z
   .exact B.ne e z
   rw[O3.mp z];simp
  .rcases Pl.mp z with z|z
   .have:=B.lt e z x D;omega
   rw[O3.mp z]at D;rw[O3.mp D];omega
  .rcases Pl.mp z with z|z
   .have:=B.len e z;omega
   rw[O3.mp z];show 1<=n+1;omega
  rw[Q4];refine⟨B.asc,QG ..,λa E b H=>?_⟩;rw[O3.mp H];show a.2.headD 0<(n:Int);cases h:a.2 with
  |nil=>exact UU h (B.ne a E)
  |cons y r =>
   have:=B.lt a E y (by rw[h];exact Pc ..);show y<(n:Int);omega
theorem iP(c:Nat->Int):∀n k,k∈(gr c n).map Qd↔∃i,i<n/\c i=k
 |0,k=>⟨λh=>(nomatch h),λ⟨i,h,_⟩=>by omega⟩
 |n+1,k=>by
  have B:=iP c n k;show k∈(eN (gr c n) (c n) n).map Qd↔_;rw[qP];have vT:(∃i,i<n+1/\c i=k)↔(∃i,i<n/\c i=k)\/c n=k:=by
   constructor
   .rintro⟨i,D,z⟩;by_cases e:i=n
    .exact .inr (e▸z)
    exact .inl ⟨i,by omega,z⟩
   rintro(⟨i,D,z⟩|h)
   .exact⟨i,by omega,z⟩
   exact⟨n,by omega,h⟩
  rw[vT,<-B]
  split
  .rename_i h;constructor
   .exact .inl
   rintro(h'|rfl)
   .exact h'
   exact h
  rw[Pl,O3];constructor
  .rintro(h'|rfl)
   .exact .inl h'
   exact .inr rfl
  rintro(h'|rfl)
  .exact .inl h'
  exact .inr rfl
theorem gK(c:Nat->Int):∀n,((gr c n).map Qd).Nodup
 |0=>QJ
 |n+1=>by
  have z:=gK c n;show((eN (gr c n) (c n) n).map Qd).Nodup;rw[qP]
  split
  .exact z
  rename_i h;rw[QF];exact⟨z,by simp,λa B b D e=>h (by rw[<-O3.mp D,<-e];exact B)⟩
theorem mu{c d:Nat->Int}:∀{n:Nat},(∀i,i<n->c i=d i)->gr c n=gr d n
 |0,_=>rfl
 |n+1,h=>by
  show eN (gr c n) (c n) n=eN (gr d n) (d n) n;rw[mu λi hi=>h i (by omega),h n (by omega)]
theorem qR{c:Nat->Int}:∀{n:Nat},(∀i j,i<n->j<n->c i=c j->i=j)->gr c n=(Pu n).map λ(i:Nat)=>(c i,[(i:Int)])
 |0,_=>rfl
 |n+1,h=>by
  show eN (gr c n) (c n) n=_;have e:¬((gr c n).any λe=>decide (e.1=c n))=true:=λz=>by
   obtain⟨e,B,D⟩:=Qq.mp z;obtain⟨i,H,E⟩:=(iP c n _).mp (O4.mpr ⟨e,B,rfl⟩);have:=h i n (by omega) (by omega) (E.trans (U0 D));omega
  unfold eN;rw[UO e,qR λi j B D=>h i j (by omega) (by omega),QD,Pb]
  rfl
noncomputable def cH(rs:List Int):List (List Int):=(gr (λk=>mk (bU rs) (bP rs k)) (rs.length+1)).map Rr
theorem oV(n:Nat)(h:n<=40):bU (aZ n)=(Pu (n+1)).map λ(i:Nat)=>((i:Int),(i:Int)):=by
 have fit:=zc h;have fl:=dE n;unfold bU;rw[fl];refine Pw λk D=>?_;have D:=Pm.mp D;have at':∀j,j<n+2->(aj (aZ n)).getD j 0=j:=λj B=>by
  cases j with
  |zero=>rfl
  |succ j =>
   by_cases c:j<n
   .rw[ft (by rw[fl];exact c),oP c];omega
   have:j=n:=by omega
   have z:=bE (aZ n);rw[fl]at z;rw[this,z];omega
 have E:∀j,j<n+2->bf (aZ n) j=j:=λj B=>dz fit (by rw[fl];exact B) (by rw[at' j B];unfold aE;rw[UO (by omega)]);unfold pW bP cE iJ iK;rw[E k (by omega),E (k+1) (by omega),at' k (by omega),at' (k+1) (by omega),UO (by omega),UO (by omega)];show((k:Int),((k+1:Nat):Int)-1)=_;congr 1;omega
theorem DV{ps:List (Int×Int)}(h:∀p∈ps,p.1=p.2):mk ps=id:=by
 refine gJ (P:=λps=>(∀p∈ps,p.1=p.2)->mk ps=id) (λ_=>rfl) ?_ ps h;intro ps p z h;rw[kM,z λq B=>h q (Px _ B)];have e:=h p (Pp _ (O3.mpr rfl));funext x;show(if x=p.2 then p.1 else x)=x;rw[e]
 split
 .rename_i h;exact h.symm
 rfl
theorem uh(n:Nat)(h:n<=40):cH (aZ n)=(Pu (n+1)).map λ(i:Nat)=>[(i:Int)]:=by
 have fl:=dE n;unfold cH;rw[oV n h,DV (λp E=>by obtain⟨i,_,rfl⟩:=O4.mp E;rfl),fl];have e:∀k,k<n+1->bP (aZ n) k=k:=λk D=>by
  have z:=b6 (rs:=aZ n) (k:=k) (by rw[fl];exact D);rw[oV n h,O6,QM D]at z;have z:=Option.some.inj z;have z:=congrArg Qd z;exact z.symm
 rw[qR λi j H J B=>by
  have B:bP (aZ n) i=bP (aZ n) j:=B;rw[e i H,e j J]at B;omega,PK]
 rfl
inductive Cn (ps:List (Int×Int)):Int->Int->Prop
 |base {p:Int×Int} (h:p∈ps):Cn ps p.1 p.2
 |refl (x:Int):Cn ps x x
 |symm {x y:Int} (h:Cn ps x y):Cn ps y x
 |trans {x y z:Int} (h:Cn ps x y) (k:Cn ps y z):Cn ps x z
theorem Cn.mono{ps D:List (Int×Int)}{x y:Int}(h:Cn ps x y)(s:∀p∈ps,p∈D):Cn D x y:=by
 induction h with
 |base h=>exact .base (s _ h)
 |refl x=>exact .refl x
 |symm _ E=>exact E.symm
 |trans _ _ z B=>exact z.trans B
theorem qS(ps:List (Int×Int)):(∀x,Cn ps x (mk ps x))/\∀p∈ps,mk ps p.1=mk ps p.2:=by
 refine gJ (P:=λps=>(∀x,Cn ps x (mk ps x))/\∀p∈ps,mk ps p.1=mk ps p.2) ⟨λx=>.refl x,λp D=>UU D Pf⟩ ?_ ps;intro ps p ⟨B,E⟩;rw[kM];have up:∀{x y},Cn ps x y->Cn (ps++[p]) x y:=λh=>h.mono λq z=>Px _ z;have H:Cn (ps++[p]) p.1 p.2:=.base (Pp _ (O3.mpr rfl));constructor
 .intro x;unfold Ha;by_cases c:mk ps x=mk ps p.2
  .rw[UQ c];have a:=up (B x);rw[c]at a;exact((a.trans (up (B p.2)).symm).trans H.symm).trans (up (B p.1))
  rw[UO c];exact up (B x)
 intro q z;unfold Ha;rcases Pl.mp z with z|z
 .rw[E q z]
 rw[O3.mp z,UQ rfl]
 split <;> rfl
theorem Bu{ps:List (Int×Int)}{x y:Int}:mk ps x=mk ps y↔Cn ps x y:=by
 have f:=qS ps;constructor
 .intro h;have a:=f.1 x;rw[h]at a;exact a.trans (f.1 y).symm
 intro h
 induction h with
 |base h=>exact f.2 _ h
 |refl x=>rfl
 |symm _ D=>exact D.symm
 |trans _ _ z B=>exact z.trans B
theorem jV:∀{l₁ l₂:List Int},l₁.Nodup->(∀x∈l₁,x∈l₂)->l₁.length<=l₂.length
 |[],_,_,_=>PQ _
 |a::r,l₂,nd,h=>by
  rw[PX]at nd;have B:=h a Pc;have z:=jV (l₁:=r) (l₂:=l₂.erase a) nd.2 λx D=>(RH (λ(e:x=a)=>nd.1 (e▸D))).mpr (h x (Pj _ D));rw[Qs B]at z;have:0<l₂.length:=Qm B;show r.length+1<=_;omega
structure One(R:Int->Int->Prop) (S:Int->Prop) (L:List Int):Prop where
 nd:L.Nodup
 ins:∀a∈L,S a
 all:∀x,S x->∃a∈L,R a x
 inj:∀a∈L,∀b∈L,R a b->a=b
theorem One.le{R:Int->Int->Prop}{S:Int->Prop}{L M:List Int}(J:∀{x y},R x y->R y x)(O:∀{x y z},R x y->R y z->R x z)(h:One R S L)(k:One R S M):L.length<=M.length:=by
 have pick:∀a,∃b,a∈L->b∈M/\R b a:=λa=>by
  by_cases c:a∈L
  .obtain⟨b,B,r⟩:=k.all a (h.ins a c);exact⟨b,λ_=>⟨B,r⟩⟩
  exact⟨0,λz=>UU z c⟩
 let f:Int->Int:=λa=>Classical.choose (pick a)
 have E:∀a,a∈L->f a∈M/\R (f a) a:=λa=>Sb (pick a);have nd:(L.map f).Nodup:=by
  refine PD.mpr (List.Pairwise.imp_of_mem (λ{a b} D B ne e=>ne ?_) h.nd);have H:=(E a D).2;have U:=(E b B).2;rw[e]at H;exact h.inj a D b B (O (J H) U)
 have z:=jV nd (l₂:=M) λx V=>by
  obtain⟨a,D,rfl⟩:=O4.mp V;exact(E a D).1
 rwa[O0]at z
theorem One.eq{R:Int->Int->Prop}{S:Int->Prop}{L M:List Int}(B:∀{x y},R x y->R y x)(D:∀{x y z},R x y->R y z->R x z)(h:One R S L)(k:One R S M):L.length=M.length :=
 Sr (One.le (R:=R) (S:=S) B D h k) (One.le (R:=R) (S:=S) B D k h)
theorem One.cn{ps:List (Int×Int)}{S:Int->Prop}{L M:List Int}(h:One (Cn ps) S L)(k:One (Cn ps) S M):L.length=M.length:=h.eq (λz=>z.symm) (λa b=>a.trans b) k
theorem One.map{R D:Int->Int->Prop}{S:Int->Prop}{L:List Int}(f:Int->Int)(ff:∀x,f (f x)=x)(fs:∀x,S x->S (f x))(e:∀x y,R x y->D (f x) (f y))(M:∀x y,D (f x) (f y)->R x y)(h:One R S L):One D S (L.map f):=by
 refine⟨?_,λa B=>?_,λx O=>?_,λa B b E r=>?_⟩
 .exact PD.mpr (List.Pairwise.imp (λ{a b} z q=>z (by rw[<-ff a,q,ff])) h.nd)
 .obtain⟨b,E,rfl⟩:=O4.mp B;exact fs _ (h.ins b E)
 .obtain⟨a,B,r⟩:=h.all (f x) (fs x O);exact⟨f a,O4.mpr ⟨a,B,rfl⟩,by have:=e _ _ r;rwa[ff]at this⟩
 obtain⟨U,H,rfl⟩:=O4.mp B;obtain⟨V,J,rfl⟩:=O4.mp E;rw[h.inj U H V J (M _ _ r)]
theorem xF{ps:List (Int×Int)}{p:Int×Int}{x y:Int}(h:Cn (ps++[p]) x y):Cn ps x y\/(Cn ps x p.1/\Cn ps p.2 y)\/(Cn ps x p.2/\Cn ps p.1 y):=by
 induction h with
 | @base q E =>
  rcases Pl.mp E with E|E
  .exact .inl (.base E)
  rw[O3.mp E];exact .inr (.inl ⟨.refl _,.refl _⟩)
 |refl x=>exact .inl (.refl x)
 |symm _ J =>
  rcases J with h|⟨z,B⟩|⟨z,B⟩
  .exact .inl h.symm
  .exact .inr (.inr ⟨B.symm,z.symm⟩)
  exact .inr (.inl ⟨B.symm,z.symm⟩)
 |trans _ _ H D =>
  rcases H with h|⟨z,B⟩|⟨z,B⟩
  .rcases D with k|⟨k1,k2⟩|⟨k1,k2⟩
   .exact .inl (h.trans k)
   .exact .inr (.inl ⟨h.trans k1,k2⟩)
   exact .inr (.inr ⟨h.trans k1,k2⟩)
  .rcases D with k|⟨k1,k2⟩|⟨k1,k2⟩
   .exact .inr (.inl ⟨z,B.trans k⟩)
   .exact .inr (.inl ⟨z,k2⟩)
   exact .inl (z.trans k2)
  rcases D with k|⟨k1,k2⟩|⟨k1,k2⟩
  .exact .inr (.inr ⟨z,B.trans k⟩)
  .exact .inl (z.trans k2)
  exact .inr (.inr ⟨z,k2⟩)
theorem One.Fm{ps:List (Int×Int)}{p:Int×Int}{S:Int->Prop}{L:List Int}(h:One (Cn ps) S L)(V:S p.1)(Z:S p.2):∃M,One (Cn (ps++[p])) S M/\((Cn ps p.1 p.2/\M.length=L.length)\/(¬Cn ps p.1 p.2/\M.length+1=L.length)):=by
 have up:∀{x y},Cn ps x y->Cn (ps++[p]) x y:=λh=>h.mono λq hq=>Px _ hq;have bp:Cn (ps++[p]) p.1 p.2:=.base (Pp _ (O3.mpr rfl));by_cases c:Cn ps p.1 p.2
 .refine⟨L,⟨h.nd,h.ins,λx O=>let⟨a,z,r⟩:=h.all x O;⟨a,z,up r⟩,λa z b B r=>?_⟩,.inl ⟨c,rfl⟩⟩;rcases xF r with r|⟨D,E⟩|⟨D,E⟩
  .exact h.inj a z b B r
  .exact h.inj a z b B ((D.trans c).trans E)
  exact h.inj a z b B ((D.trans c.symm).trans E)
 obtain⟨u,hu,U⟩:=h.all _ V;obtain⟨v,H,J⟩:=h.all _ Z;have ne:u≠v:=λe=>c (U.symm.trans (e▸J));refine⟨L.erase v,⟨h.nd.erase v,λa z=>h.ins a (RB z),λx O=>?_,λa z b B r=>?_⟩,.inr ⟨c,?_⟩⟩
 .obtain⟨a,z,r⟩:=h.all x O;by_cases e:a=v
  .subst e;exact⟨u,(RH ne).mpr hu,((up U).trans bp).trans ((up J).symm.trans (up r))⟩
  exact⟨a,(RH e).mpr z,up r⟩
 .have na:a≠v:=λe=>by rw[e]at z;exact(h.nd.mem_erase_iff.mp z).1 rfl
  have nb:b≠v:=λe=>by rw[e]at B;exact(h.nd.mem_erase_iff.mp B).1 rfl
  have z:=RB z;have B:=RB B;rcases xF r with r|⟨D,E⟩|⟨D,E⟩
  .exact h.inj a z b B r
  .exact UU (h.inj v H b B (J.trans E)).symm nb
  exact UU (h.inj a z v H (D.trans J.symm)) na
 rw[Qs H];have:0<L.length:=Qm H;omega
def xG(rs:List Int)(x:Int):Prop:=0<=x/\x<((rs.length+1:Nat):Int)
theorem hZ{rs:List Int}(fit:aR rs):∀p∈bU rs,xG rs p.1/\xG rs p.2:=λp B=>by
 have h:=t7 fit;have a:∀x,x∈(bU rs).map Qd++(bU rs).map Rr->xG rs x:=λx D=>by
  have z:=h.mem_iff.mp D;rcases Pl.mp z with z|z <;> exact dH.mp z
 exact⟨a _ (Px _ (O4.mpr ⟨p,B,rfl⟩)),a _ (Pp _ (O4.mpr ⟨p,B,rfl⟩))⟩
theorem xH{rs:List Int}(fit:aR rs){x:Int}(D:xG rs x):∃p∈bU rs,x=p.1\/x=p.2:=by
 have h:=t7 fit;have z:x∈(bU rs).map Qd++(bU rs).map Rr:=h.mem_iff.mpr (Px _ (dH.mpr D));rcases Pl.mp z with z|z
 .obtain⟨p,B,e⟩:=O4.mp z;exact⟨p,B,.inl e.symm⟩
 obtain⟨p,B,e⟩:=O4.mp z;exact⟨p,B,.inr e.symm⟩
theorem jr{rs:List Int}(fit:aR rs):∃L,One (Cn (bU rs)) (xG rs) L/\L.length=(cH rs).length:=by
 let c:Nat->Int:=λk=>mk (bU rs) (bP rs k)
 have f:=qS (bU rs);have B:∀x,mk (bU rs) (mk (bU rs) x)=mk (bU rs) x:=λx=>Bu.mpr (f.1 x).symm;have H:∀x,xG rs x->xG rs (mk (bU rs) x):=λx J=>by
  obtain⟨p,E,e⟩:=xH fit J;obtain⟨q,O,e2⟩:=(hX (bU rs)).2 x ⟨p,E,e⟩;rcases e2 with e2|e2 <;> rw[e2]
  .exact(hZ fit q O).1
  exact(hZ fit q O).2
 have keys:=iP c (rs.length+1);refine⟨(gr c (rs.length+1)).map Qd,⟨gK c _,λa M=>?_,λx J=>?_,λa M b U r=>?_⟩,by unfold cH;rw[O0,O0]⟩
 .obtain⟨i,hi,rfl⟩:=(keys a).mp M;exact H _ (hZ fit _ (Pk (b6 hi))).1
 .obtain⟨p,E,e⟩:=xH fit J;have e2:mk (bU rs) x=mk (bU rs) p.1:=by
   rcases e with e|e <;> rw[e]
   exact(f.2 p E).symm
  obtain⟨i,hi⟩:=PF E;have D:i<rs.length+1:=by rw[<-gG rs];exact(O1.mp hi).1
  rw[b6 D]at hi;have ep:p.1=bP rs i:=by rw[<-Option.some.inj hi];rfl
  refine⟨mk (bU rs) x,(keys _).mpr ⟨i,D,?_⟩,(f.1 x).symm⟩;show mk (bU rs) (bP rs i)=_;rw[e2,ep]
 obtain⟨i,hi,rfl⟩:=(keys a).mp M;obtain⟨j,V,rfl⟩:=(keys b).mp U;have z:=Bu.mpr r;rw[B,B]at z;exact z
theorem kP{rs:List Int}{f l p:Nat}(B:f<=l)(D:l<rs.length)(E:p<rs.length+2):(aj (aw rs f l)).getD p 0=if f<p/\p<=l+1 then-(aj rs).getD (f+l+2-p) 0 else(aj rs).getD p 0:=by
 cases p with
 |zero=>rw[UO (by omega)];rfl
 |succ p =>
  by_cases c:p<rs.length
  .rw[ft (by rw[aG];exact c),jT c];by_cases d:f<=p/\p<=l
   .rw[UQ d,UQ (by omega)];have e:f+l+2-(p+1)=(f+l-p)+1:=by omega
    rw[e,ft (by omega)]
   rw[UO d,UO (by omega),ft c]
  have e:p=rs.length:=by omega
  have z:=bE (aw rs f l);rw[aG]at z;rw[UO (by omega),e,z,bE]
noncomputable def Ac(f l:Nat)(x:Int):Int:=if(f:Int)<=x/\x<=(l:Int)+1 then(f:Int)+l+1-x else x
theorem rV(f l:Nat)(x:Int):Ac f l (Ac f l x)=x:=by
 unfold Ac
 split
 .rw[UQ (by omega)];omega
 rfl
def Jn(f l:Nat)(x y:Int):Prop:=x=y\/((x=f\/x=(l:Int)+1)/\(y=f\/y=(l:Int)+1))
theorem fu{rs:List Int}(fit:aR rs){p:Nat}(D:0<p)(B:p<rs.length+2):(aj rs).getD p 0≠0:=λe=>by
 have z:aE ((aj rs).getD p 0)=((0:Nat):Int):=by rw[e];rfl
 have:=dz fit B z;rw[fN fit]at this;omega
theorem qT{rs:List Int}(fit:aR rs){f l:Nat}(D:f<=l)(E:l<rs.length){k:Nat}(U:k<rs.length+2) :
  Jn f l (bP (aw rs f l) k) (Ac f l (bP rs k))/\Jn f l (cE (aw rs f l) k) (Ac f l (cE rs k)):=by
 have z:=aM fit D E;have J:=aG rs f l;obtain⟨H,M⟩:=bw fit U;by_cases c:f<bf rs k/\bf rs k<=l+1
 .have O:f+l+2-bf rs k<rs.length+2:=by omega
  have B:=kP D E O;rw[UQ (by omega),show f+l+2-(f+l+2-bf rs k)=bf rs k by omega]at B;have ep:bf (aw rs f l) k=f+l+2-bf rs k:=dz z (by rw[J];exact O) (by rw[B,<-M];unfold aE;split <;> split <;> omega);have V:=fu fit (p:=bf rs k) (by omega) H;unfold bP cE iJ iK;rw[ep,B];generalize(aj rs).getD (bf rs k) 0=y at V;unfold Jn Ac;constructor
  .left;by_cases s:y<0
   .rw[UO (by omega),UQ s,UQ (by omega)];omega
   rw[UQ (by omega),UO s,UQ (by omega)];omega
  left;by_cases s:y<0
  .rw[UO (by omega),UQ s,UQ (by omega)];omega
  rw[UQ (by omega),UO s,UQ (by omega)];omega
 have B:=kP D E H;rw[UO c]at B;have ep:bf (aw rs f l) k=bf rs k:=dz z (by rw[J];exact H) (by rw[B,M]);unfold bP cE iJ iK;rw[ep,B];generalize(aj rs).getD (bf rs k) 0=y;unfold Jn Ac;constructor
 .by_cases s:y<0
  .rw[UQ s];split <;> omega
  rw[UO s];split <;> omega
 by_cases s:y<0
 .rw[UQ s];split <;> omega
 rw[UO s];split <;> omega
theorem Bv{f l:Nat}{ps:List (Int×Int)}{x y:Int}(h:Jn f l x y):Cn (ps++[((f:Int),(l:Int)+1)]) x y:=by
 have b:Cn (ps++[((f:Int),(l:Int)+1)]) (f:Int) ((l:Int)+1):=.base (p:=((f:Int),(l:Int)+1)) (Pp _ (O3.mpr rfl));rcases h with rfl|⟨h|h,k|k⟩
 .exact .refl _
 .rw[h,k];exact .refl _
 .rw[h,k];exact b
 .rw[h,k];exact b.symm
 rw[h,k];exact .refl _
theorem xI{rs:List Int}(fit:aR rs){f l:Nat}(J:f<=l)(M:l<rs.length){x y:Int}(h:Cn (bU rs++[((f:Int),(l:Int)+1)]) x y):Cn (bU (aw rs f l)++[((f:Int),(l:Int)+1)]) (Ac f l x) (Ac f l y):=by
 induction h with
 | @base p z =>
  rcases Pl.mp z with z|z
  .obtain⟨k,D⟩:=PF z;have B:k<rs.length+1:=by rw[<-gG rs];exact(O1.mp D).1
   rw[b6 B]at D;obtain rfl:=Option.some.inj D;have a:=Bv (ps:=bU (aw rs f l)) (qT fit J M (k:=k) (by omega)).1;have b:=Bv (ps:=bU (aw rs f l)) (qT fit J M (k:=k+1) (by omega)).2;have m:Cn (bU (aw rs f l)++[((f:Int),(l:Int)+1)]) (bP (aw rs f l) k) (cE (aw rs f l) (k+1)):=
    .base (p:=pW (aw rs f l) k) (Px _ (Pk (b6 (by rw[aG];exact B))))
   exact(a.symm.trans m).trans b
  rw[O3.mp z];refine Bv (.inr ?_);unfold Ac;dsimp only;rw[UQ (by omega),UQ (by omega)];omega
 |refl x=>exact .refl _
 |symm _ O=>exact O.symm
 |trans _ _ E H=>exact E.trans H
theorem zg{rs:List Int}(fit:aR rs):1<=(cH rs).length/\(cH rs).length<=rs.length+1:=by
 obtain⟨L,z,B⟩:=jr fit;constructor
 .obtain⟨a,D,_⟩:=z.all 0 ⟨by omega,by omega⟩;rw[<-B];exact Qm D
 unfold cH;rw[O0];exact kO _ _
theorem vU{rs:List Int}(fit:aR rs)(h:(cH rs).length=rs.length+1):rs=aZ rs.length:=by
 obtain⟨L,D,V⟩:=jr fit;have all:∀x,xG rs x->x∈L:=λx M=>O2 λc=>by
  have z:=jV (l₁:=x::L) (l₂:=bF (rs.length+1)) (PX.mpr ⟨c,D.nd⟩) λy E=>dH.mpr (by
   rcases Pq.mp E with rfl|E
   .exact M
   exact D.ins y E)
  rw[zd]at z;have:L.length+1<=rs.length+1:=z;omega
 have same:∀k,k<rs.length+1->bP rs k=cE rs (k+1):=λk H=>by
  have J:=Pk (b6 H);have g:=hZ fit _ J;exact D.inj _ (all _ g.1) _ (all _ g.2) (.base (p:=pW rs k) J)
 have O:∀k,k<rs.length+2->bf rs k=k/\(aj rs).getD k 0=k:=by
  intro k
  induction k with
  |zero=>intro _;exact⟨fN fit,rfl⟩
  |succ k U =>
   intro H;obtain⟨e1,e2⟩:=U (by omega);have s:=same k (by omega);obtain⟨Z,B⟩:=bw fit H;unfold bP cE iJ iK at s;rw[e1,e2,UO (by omega)]at s;by_cases c:(aj rs).getD (bf rs (k+1)) 0<0
   .rw[UQ c]at s;have e:bf rs (k+1)=k:=by omega
    rw[e,e2]at c;omega
   rw[UO c]at s;have e:bf rs (k+1)=k+1:=by omega
   refine⟨e,?_⟩;rw[e]at B c;unfold aE at B;rw[UO c]at B;exact B
 refine QV λj=>?_;by_cases c:j<rs.length
 .have z:=(O (j+1) (by omega)).2;rw[ft c]at z;have e2:=getD_get (rs:=aZ rs.length) (j:=j) (by rw[dE];exact c);rw[getD_get c,e2,z,oP c];congr 1
 rw[Qc (by omega),Qc (by rw[dE];omega)]
theorem mw{rs:List Int}(fit:aR rs):(cH rs).length=rs.length+1↔rs=aZ rs.length:=by
 constructor
 .exact vU fit
 intro h;have z:=uh rs.length fit.small;rw[<-h]at z;rw[z,O0,PL]
theorem Hb{fs:List Int}(nd:(aW fs).Nodup){a:Nat}(lo:Int):∀(m:Nat) (S:List Nat),S.Nodup->(∀i∈S,i<fs.length/\lo<=cF fs a i/\cF fs a i<lo+m)->S.length<=m:=by
 intro m
 induction m with
 |zero =>
  intro S _ z;cases S with
  |nil=>exact O5 _
  |cons i r=>have:=z i Pc;omega
 |succ m H =>
  intro S E z;by_cases c0:∃i∈S,cF fs a i=lo+m
  .obtain⟨i,hi,J⟩:=c0;have M:(S.erase i).length=S.length-1:=Qs hi;have O:=H (S.erase i) (E.erase i) λk D=>by
    have B:=(List.Nodup.mem_erase_iff E).mp D;have q:=z k B.2;refine⟨q.1,q.2.1,?_⟩;have ne:cF fs a k≠lo+m:=λe=>B.1 (nN nd q.1 (z i hi).1 (e.trans J.symm));omega
   have:=Qm hi;omega
  have:=H S E λk D=>by
   have q:=z k D;refine⟨q.1,q.2.1,?_⟩;have ne:cF fs a k≠lo+m:=λe=>c0 ⟨k,D,e⟩;omega
  omega
theorem my(a m:Nat):((Pu m).map (· + a)).Nodup:=by
 rw[Qp,PD];exact QA.imp λh=>by omega
theorem nO{a m i:Nat}(h:i∈(Pu m).map (· + a)):a<=i/\i<a+m:=by
 obtain⟨k,z,rfl⟩:=O4.mp h;have:=Pm.mp z;omega
theorem Wh.at'{fs:List Int}{a b j:Nat}(W:Wh fs a b)(B:a<=j)(z:j<=b):fs.getD a 0<=cF fs a j/\cF fs a j<=fs.getD b 0:=by
 by_cases e:j=a
 .rw[e,eK];have:=W.pK;have:=W.lt;omega
 exact W.mid j (by omega) z
theorem Wh.inside{fs:List Int}(nd:(aW fs).Nodup){a b j:Nat}(W:Wh fs a b)(B:j<fs.length)(D:fs.getD a 0<=cF fs a j)(H:cF fs a j<=fs.getD b 0):a<=j/\j<=b:=by
 refine O2 λc=>?_;have lt:=W.lt;have lb:=W.lb;have pK:=W.pK;have S:=Hb nd (a:=a) (fs.getD a 0) (b-a+1) (j::(Pu (b-a+1)).map (· + a)) (PX.mpr ⟨λE=>by have:=nO E;omega,my a _⟩) (λi hi=>by
  rcases Pq.mp hi with rfl|hi
  .exact⟨B,D,by omega⟩
  have q:=nO hi;have z:=W.at' (j:=i) (by omega) (by omega);exact⟨by omega,z.1,by omega⟩)
 rw[QK,O0,PL]at S;omega
theorem xJ{fs:List Int}(nd:(aW fs).Nodup){a b c d:Nat}(h:Kn fs a b)(k:Wh fs c d)(J:a<c)(M:c<b):d<=b:=by
 refine O2 λhd=>?_;have hd:b<d:=by omega
 obtain⟨W,no⟩:=h;have f1:=W.pK;have f2:=k.pK;have lb:=k.lb;have D:=W.mid c J (by omega);have B:=k.mid b M (by omega);have E:=W.own;have inj:aE (fs.getD b 0)=aE (fs.getD c 0)->False:=λe=>by
  have:b=c:=nN nd (a:=a) (by omega) (by omega) (by unfold cF;rw[e]);omega
 by_cases s:(fs.getD a 0<0)↔(fs.getD c 0<0)
 .have sg:∀j,cF fs c j=cF fs a j:=λj=>by
   unfold cF;by_cases t:fs.getD a 0<0
   .rw[UQ t,UQ (s.mp t)]
   rw[UO t,UO λz=>t (s.mpr z)]
  have O:fs.getD c 0=cF fs a c:=by rw[<-sg,eK]
  rw[sg]at B;have below:∀j,a<=j->j<c->cF fs a j<fs.getD c 0:=λj H U=>by
   refine O2 λz=>?_;have u:=(W.at' (j:=j) H (by omega)).2;have:=k.inside nd (j:=j) (by omega) (by rw[sg];omega) (by rw[sg];omega);omega
  have V:=Hb nd (a:=a) (fs.getD a 0) (fs.getD c 0-fs.getD a 0).toNat ((Pu (c-a)).map (· + a)) (my a _) (λi hi=>by
   have q:=nO hi;have z:=W.at' (j:=i) (by omega) (by omega);have y:=below i (by omega) (by omega);exact⟨by omega,z.1,by omega⟩)
  have Z:=Hb nd (a:=a) (fs.getD c 0) (fs.getD b 0+1-fs.getD c 0).toNat ((Pu (b+1-c)).map (· + c)) (my c _) (λi hi=>by
   have q:=nO hi;have z:=W.at' (j:=i) (by omega) (by omega);have y:=k.at' (j:=i) (by omega) (by omega);rw[sg]at y;exact⟨by omega,y.1,by omega⟩)
  rw[O0,PL]at V Z;refine no c M ⟨J,by omega,λj H U=>⟨(W.mid j H (by omega)).1,?_⟩,O,by omega⟩;by_cases e:j=c
  .rw[e,<-O];exact QN _
  exact QY (below j (by omega) (by omega))
 have p1:=dQ (fs.getD b 0);have p2:=dQ (fs.getD c 0);unfold cF at D B E;by_cases t:fs.getD a 0<0
 .have u:¬fs.getD c 0<0:=λz=>s ⟨λ_=>z,λ_=>t⟩;rw[UQ t]at D E;rw[UO u]at B;have e:aE (fs.getD c 0)=fs.getD c 0:=by unfold aE;rw[UO u]
  exact inj (by omega)
 have u:fs.getD c 0<0:=O2 λz=>s ⟨λy=>UU y t,λy=>UU y z⟩;rw[UO t]at D E;rw[UQ u]at B;have e:aE (fs.getD c 0)=- fs.getD c 0:=by unfold aE;rw[UQ u]
 exact inj (by omega)
theorem Hc{fs:List Int}(nd:(aW fs).Nodup){b g:Nat}:∀m a,b-a=m->Wh fs a b->a<=g->g<b->∃c d,Kn fs c d/\c<=g/\g<d:=by
 intro m
 induction m using RA with
 |_ m B =>
  intro a H W D E;obtain⟨c,z⟩:=oT b W;by_cases e:g<c
  .exact⟨a,c,z,D,e⟩
  have lt:=z.1.lt;exact B (b-c) (by omega) c rfl (z.1.rest nd W (by omega)) (by omega) E
theorem zh{rs:List Int}(fit:aR rs):Wh (aj rs) 0 (rs.length+1):=by
 have l:=a6 rs;have z:cF (aj rs) 0=λj=>aE ((aj rs).getD j 0):=by funext j;unfold cF;rw[cB,UO (by decide)]
 refine⟨by omega,by omega,λj B D=>?_,?_,?_⟩
 .have:=eF fit (j:=j) (by omega);rw[z,cB,bE];dsimp only;omega
 .rw[z,bE];dsimp only;rw[bE];unfold aE;rw[UO (by omega)]
 rw[cB,bE];omega
structure Own(fs:List Int) (g c d:Nat):Prop where
 kn:Kn fs c d
 le:c<=g
 lt:g<d
 top:∀c' d',Kn fs c' d'->c'<=g->g<d'->c'<=c
theorem Own.qU{fs:List Int}(nd:(aW fs).Nodup){g c d z d':Nat}(h:Own fs g c d)(k:Kn fs z d')(B:z<=g)(D:g<d'):d<=d':=by
 have t:=h.top z d' k B D;by_cases e:z=c
 .subst e;rw[dS h.kn k];exact O5 _
 exact xJ nd k h.kn.1 (by omega) (by have:=h.le;omega)
theorem Own.uniq{fs:List Int}{g c d z d':Nat}(h:Own fs g c d)(k:Own fs g z d'):c=z/\d=d':=by
 have e:c=z:=Sr (k.top c d h.kn h.le h.lt) (h.top z d' k.kn k.le k.lt);subst e;exact⟨rfl,dS h.kn k.kn⟩
theorem Hd{fs:List Int}{g:Nat}:∀m c d,g-c=m->Kn fs c d->c<=g->g<d->∃c d,Own fs g c d:=by
 intro m
 induction m using RA with
 |_ m J =>
  intro c d U k M O;by_cases e:∃B d',Kn fs B d'/\B<=g/\g<d'/\c<B
  .obtain⟨B,d',H,D,E,lt⟩:=e;exact J (g-B) (by omega) B d' rfl H D E
  exact⟨c,d,k,M,O,λB d' H D E=>O2 λz=>e ⟨B,d',H,D,E,by omega⟩⟩
theorem d7{rs:List Int}(fit:aR rs){g:Nat}(z:g<rs.length+1):∃c d,Own (aj rs) g c d:=by
 obtain⟨c,d,k,B,D⟩:=Hc (cD fit) (rs.length+1-0) 0 rfl (zh fit) (PQ g) z;exact Hd _ c d rfl k B D
open Classical in
noncomputable def ow(fs:List Int)(g:Nat):Int×Int:=if h:∃p:Nat×Nat,Own fs g p.1 p.2 then(((choose h).1:Int),((choose h).2:Int))else(0,0)
theorem cT{fs:List Int}{g c d:Nat}(h:Own fs g c d):ow fs g=((c:Int),(d:Int)):=by
 have e:∃p:Nat×Nat,Own fs g p.1 p.2:=⟨(c,d),h⟩
 unfold ow;rw[XU e];have z:=(Sb e).uniq h;rw[z.1,z.2]
noncomputable def Bw(rs:List Int):List (Int×Int):=(Pu (rs.length+1)).map (ow (aj rs))
open Classical in
theorem bG{fs:List Int}{p:Int×Int}:p∈cG fs↔∃a b:Nat,Kn fs a b/\p=((a:Int),(b:Int)):=by
 unfold cG;rw[O9,DU];constructor
 .rintro⟨⟨a,b,W,rfl⟩,h⟩;refine⟨a,b,?_,rfl⟩;have:=U0 (show decide (Kn fs ((a:Int)).toNat ((b:Int)).toNat)=true from h);simpa using this
 rintro⟨a,b,k,rfl⟩;refine⟨⟨a,b,k.1,rfl⟩,?_⟩;show decide (Kn fs ((a:Int)).toNat ((b:Int)).toNat)=true;exact UX (by simpa using k)
theorem gM(fs:List Int):(cG fs).Pairwise λp q=>p.1<q.1:=by
 have key:∀i,(((Aa fs i).filter (nC fs)).Pairwise λp q=>p.1<q.1)/\∀p∈(Aa fs i).filter (nC fs),p.1<(i:Int):=λi=>by
  induction i with
  |zero=>exact⟨List.Pairwise.nil,λp z=>UU z Pf⟩
  |succ i B =>
   rw[kK,Qf];rcases uf (fs:=fs) (a:=i)with⟨_,e⟩|⟨b,_,e⟩
   .rw[e,Qj];exact⟨B.1,λp z=>by have:=B.2 p z;omega⟩
   rw[e];refine⟨Q4.mpr ⟨B.1,QG ..,λp z q D=>?_⟩,λp z=>?_⟩
   .rw[O3.mp D];exact B.2 p z
   rcases Pl.mp z with z|z
   .have:=B.2 p z;omega
   rw[O3.mp z];show(i:Int)<_;omega
 exact(key fs.length).1
noncomputable def mv(n:Nat)(x:Int):Int:=if x<0 then-((n:Int)+1)-x else(n:Int)+1-x
noncomputable def oW(rs:List Int):List Int:=rs.reverse.map (mv rs.length)
theorem eH(rs:List Int):(oW rs).length=rs.length:=by unfold oW;rw[O0,Qr]
theorem Bx{rs:List Int}(fit:aR rs){x:Int}(h:x∈rs):1<=aE x/\aE x<=rs.length:=by
 have z:=fit.perm.mem_iff.mp (show aE x∈aW rs from O4.mpr ⟨x,h,rfl⟩);unfold aZ at z;obtain⟨i,hi,e⟩:=O4.mp z;have:=Pm.mp hi;omega
theorem By{n:Nat}{x:Int}(z:1<=aE x)(B:aE x<=n):aE (mv n x)=(n:Int)+1-aE x/\(mv n x<0↔x<0)/\mv n (mv n x)=x:=by
 unfold mv aE at *;by_cases s:x<0
 .rw[UQ s]at *;rw[UQ (by omega),UQ (by omega)];omega
 rw[UO s]at *;rw[UO (by omega),UO (by omega)];omega
theorem nP{rs:List Int}(fit:aR rs):aR (oW rs):=by
 refine⟨by rw[eH];exact fit.small,?_⟩;rw[eH];have e:aW (oW rs)=(aW rs).reverse.map λy=>(rs.length:Int)+1-y:=by
  unfold oW aW;rw[PK,<-Rb,PK];refine Pw λx E=>?_;have z:=Bx fit (SQ.mp E);exact(By z.1 z.2).1
 have nd:(aZ rs.length).Nodup:=by
  unfold aZ;rw[Qp,PD];exact QA.imp λh=>by omega
 have B:(aW rs).Nodup:=fit.perm.nodup_iff.mpr nd;rw[e];refine(QS ?_ nd).mpr λy=>?_
 .rw[Qp,PD];exact List.pairwise_reverse.mpr (List.Pairwise.imp (λh=>by omega) B)
 have D:∀y,y∈aZ rs.length↔1<=y/\y<=rs.length:=λy=>by
  unfold aZ;rw[O4];constructor
  .rintro⟨i,hi,rfl⟩;have:=Pm.mp hi;omega
  intro h;exact⟨(y-1).toNat,Pm.mpr (by omega),by omega⟩
 rw[O4,D];constructor
 .rintro⟨z,hz,rfl⟩;have:=(D z).mp (fit.perm.mem_iff.mp (SQ.mp hz));omega
 intro h;exact⟨(rs.length:Int)+1-y,SQ.mpr (fit.perm.mem_iff.mpr ((D _).mpr (by omega))),by omega⟩
theorem DW{rs:List Int}(fit:aR rs):oW (oW rs)=rs:=by
 unfold oW;rw[O0,Qr,<-Rb,S9,PK];refine(Pw λx B=>?_).trans (Uv rs);have z:=Bx fit B;exact(By z.1 z.2).2.2
theorem kQ{rs:List Int}{p:Nat}(B:p<rs.length+2):(aj (oW rs)).getD p 0=mv rs.length ((aj rs).getD (rs.length+1-p) 0):=by
 cases p with
 |zero =>
  rw[T7,bE,cB];unfold mv;rw[UO (by omega)];omega
 |succ p =>
  by_cases c:p<rs.length
  .rw[ft (by rw[eH];exact c),show rs.length+1-(p+1)=(rs.length-1-p)+1 by omega,ft (by omega)];have e:(oW rs)[p]?=Yl (mv rs.length (rs.getD (rs.length-1-p) 0)):=by
    unfold oW;rw[O6,Rh c,getD_get (by omega)]
    rfl
   rw[RM,e]
   rfl
  have e:p=rs.length:=by omega
  have z:=bE (oW rs);rw[eH]at z;rw[e,z,QE,cB];unfold mv;rw[UO (by omega)];omega
theorem gN{rs:List Int}(fit:aR rs){j:Nat}(D:j<rs.length+2):aE (mv rs.length ((aj rs).getD j 0))=(rs.length:Int)+1-aE ((aj rs).getD j 0)/\(mv rs.length ((aj rs).getD j 0)<0↔(aj rs).getD j 0<0)/\((aj rs).getD j 0<0->1<=j/\j<=rs.length):=by
 have a:=eF fit D;have B:(aj rs).getD j 0<0->1<=j/\j<=rs.length/\- (rs.length:Int)<=(aj rs).getD j 0:=λh=>by
  have z:=bM D h;refine⟨z.1,z.2,O2 λc=>?_⟩;have e:aE ((aj rs).getD j 0)=aE ((aj rs).getD (rs.length+1) 0):=by
   rw[bE];unfold aE at *;rw[UQ h]at *;rw[UO (by omega)];omega
  have:=xA fit D (by omega) e;omega
 refine⟨?_,?_,λh=>⟨(B h).1,(B h).2.1⟩⟩
 .unfold mv aE at *;by_cases s:(aj rs).getD j 0<0
  .have:=B s;rw[UQ s]at *;rw[UQ (by omega)];omega
  rw[UO s]at *;rw[UO (by omega),UO s]
 unfold mv;by_cases s:(aj rs).getD j 0<0
 .have:=B s;rw[UQ s];omega
 unfold aE at a;rw[UO s]at *;omega
theorem Wh.mirror{rs:List Int}(fit:aR rs){a b:Nat}(W:Wh (aj rs) a b):Wh (aj (oW rs)) (rs.length+1-b) (rs.length+1-a):=by
 have lt:=W.lt;have lb:=W.lb;rw[a6]at lb;have pK:=W.pK;have own:=W.own;have H:(aj (oW rs)).getD (rs.length+1-b) 0=mv rs.length ((aj rs).getD b 0):=by rw[kQ (by omega),show rs.length+1-(rs.length+1-b)=b by omega]
 have J:(aj (oW rs)).getD (rs.length+1-a) 0=mv rs.length ((aj rs).getD a 0):=by rw[kQ (by omega),show rs.length+1-(rs.length+1-a)=a by omega]
 have Z:=fu fit (p:=b) (by omega) (by omega);have ka:=gN fit (j:=a) (by omega);have M:=gN fit (j:=b) (by omega);have pb:=dQ ((aj rs).getD b 0);have E:(aj rs).getD b 0<0↔(aj rs).getD a 0<0:=by
  unfold cF at own;by_cases s:(aj rs).getD a 0<0
  .rw[UQ s]at own;exact⟨λ_=>s,λ_=>by omega⟩
  rw[UO s]at own;exact⟨λz=>by omega,λz=>UU z s⟩
 have O:∀j,j<rs.length+2->cF (aj (oW rs)) (rs.length+1-b) (rs.length+1-j)=if(aj rs).getD a 0<0 then-((rs.length:Int)+1-aE ((aj rs).getD j 0))else(rs.length:Int)+1-aE ((aj rs).getD j 0):=λj U=>by
  have V:=gN fit U;unfold cF;rw[H,kQ (by omega),show rs.length+1-(rs.length+1-j)=j by omega,V.1];by_cases s:(aj rs).getD a 0<0
  .rw[UQ (M.2.1.mpr (E.mpr s)),UQ s]
  rw[UO λz=>s (E.mp (M.2.1.mp z)),UO s]
 have B:mv rs.length ((aj rs).getD a 0)=if(aj rs).getD a 0<0 then-((rs.length:Int)+1)-(aj rs).getD a 0 else(rs.length:Int)+1-(aj rs).getD a 0:=rfl;have D:mv rs.length ((aj rs).getD b 0)=if(aj rs).getD a 0<0 then-((rs.length:Int)+1)-(aj rs).getD b 0 else(rs.length:Int)+1-(aj rs).getD b 0:=by
  unfold mv;by_cases s:(aj rs).getD a 0<0
  .rw[UQ (E.mpr s),UQ s]
  rw[UO λz=>s (E.mp z),UO s]
 refine⟨by omega,by rw[a6,eH];omega,λj h1 h2=>?_,?_,?_⟩
 .have e:j=rs.length+1-(rs.length+1-j):=by omega
  have z:=W.at' (j:=rs.length+1-j) (by omega) (by omega);rw[e,O _ (by omega),H,J,B,D];unfold cF at z;by_cases s:(aj rs).getD a 0<0
  .rw[UQ s]at z⊢;rw[UQ s,UQ s];omega
  rw[UO s]at z⊢;rw[UO s,UO s];omega
 .rw[O a (by omega),J,B];by_cases s:(aj rs).getD a 0<0
  .rw[UQ s,UQ s];unfold aE;rw[UQ s];omega
  rw[UO s,UO s];unfold aE;rw[UO s]
 rw[H,J,B,D];by_cases s:(aj rs).getD a 0<0
 .rw[UQ s,UQ s];omega
 rw[UO s,UO s];omega
theorem Wh.xK{rs:List Int}(fit:aR rs){a b:Nat}(B:a<=rs.length+1)(D:b<=rs.length+1)(W:Wh (aj (oW rs)) (rs.length+1-b) (rs.length+1-a)):Wh (aj rs) a b:=by
 have z:=W.mirror (nP fit);rw[DW fit,eH]at z;rwa[show rs.length+1-(rs.length+1-a)=a by omega,show rs.length+1-(rs.length+1-b)=b by omega]at z
theorem Kn.mirror{rs:List Int}(fit:aR rs){a b:Nat}(k:Kn (aj rs) a b):Kn (aj (oW rs)) (rs.length+1-b) (rs.length+1-a):=by
 have lb:=k.1.lb;have lt:=k.1.lt;rw[a6]at lb;have D:=(Bm (cD fit)).mp k;refine(Bm (cD (nP fit))).mpr ⟨D.1.mirror fit,λ⟨c,z,E⟩=>D.2 ⟨rs.length+1-c,?_,?_⟩⟩
 .have B:=z.lb;rw[a6,eH]at B;refine Wh.xK fit (by omega) (by omega) ?_;rw[show rs.length+1-(rs.length+1-c)=c by omega];exact E
 have B:=z.lb;rw[a6,eH]at B;refine Wh.xK fit (by omega) (by omega) ?_;rw[show rs.length+1-(rs.length+1-c)=c by omega];exact z
theorem Bz{rs:List Int}(fit:aR rs){k:Nat}(z:k<rs.length+2):bf (oW rs) (rs.length+1-k)=rs.length+1-bf rs k:=by
 obtain⟨B,D⟩:=bw fit z;refine dz (nP fit) (by rw[eH];omega) ?_;rw[kQ (by omega),show rs.length+1-(rs.length+1-bf rs k)=bf rs k by omega,(gN fit B).1,D];omega
theorem He{rs:List Int}(fit:aR rs){k:Nat}(z:k<rs.length+2):((aj (oW rs)).getD (bf (oW rs) (rs.length+1-k)) 0<0↔(aj rs).getD (bf rs k) 0<0):=by
 obtain⟨B,D⟩:=bw fit z;rw[Bz fit z,kQ (by omega),show rs.length+1-(rs.length+1-bf rs k)=bf rs k by omega];exact(gN fit B).2.1
theorem ui{rs:List Int}(fit:aR rs){k:Nat}(B:k<rs.length+2):bP (oW rs) (rs.length+1-k)=(rs.length:Int)-cE rs k/\cE (oW rs) (rs.length+1-k)=(rs.length:Int)-bP rs k:=by
 have h:=He fit B;have e:=Bz fit B;obtain⟨D,E⟩:=bw fit B;unfold bP cE iJ iK;by_cases s:(aj rs).getD (bf rs k) 0<0
 .rw[UQ (h.mpr s),UQ (h.mpr s),UQ s,UQ s,e];omega
 rw[UO λz=>s (h.mp z),UO λz=>s (h.mp z),UO s,UO s,e];omega
theorem xM(c:Nat->Int):∀n,∀e∈gr c n,(∀x,x∈e.2↔∃i:Nat,i<n/\c i=e.1/\x=(i:Int))/\e.2.Pairwise (· < ·)
 |0=>λe h=>UU h Pf
 |n+1=>λe E=>by
  have U:=xM c n;have E:e∈eN (gr c n) (c n) n:=E;unfold eN at E
  split at E
  .obtain⟨d,hd,J⟩:=O4.mp E;obtain⟨M,O⟩:=U d hd;by_cases k:d.1=c n
   .rw[UQ k]at J;subst J;refine⟨λx=>?_,Q4.mpr ⟨O,QG ..,λa V b Z=>?_⟩⟩
    .show x∈d.2++[(n:Int)]↔∃i:Nat,i<n+1/\c i=d.1/\x=(i:Int)
     rw[Pl,M,O3];constructor
     .rintro(⟨i,H,D,B⟩|h)
      .exact⟨i,by omega,D,B⟩
      exact⟨n,by omega,k.symm,h⟩
     rintro⟨i,H,D,B⟩;by_cases e:i=n
     .right;rw[B,e]
     exact .inl ⟨i,by omega,D,B⟩
    obtain⟨i,H,_,B⟩:=(M a).mp V;rw[O3.mp Z,B];omega
   rw[UO k]at J;subst J;refine⟨λx=>?_,O⟩;rw[M];constructor
   .rintro⟨i,H,D,B⟩;exact⟨i,by omega,D,B⟩
   rintro⟨i,H,D,B⟩;have:i≠n:=λe=>k (by rw[<-D,e]);exact⟨i,by omega,D,B⟩
  rename_i no;rcases Pl.mp E with E|E
  .obtain⟨M,O⟩:=U e E;refine⟨λx=>?_,O⟩;have k:e.1≠c n:=λz=>no (Qq.mpr ⟨e,E,UX z⟩);rw[M];constructor
   .rintro⟨i,H,D,B⟩;exact⟨i,by omega,D,B⟩
   rintro⟨i,H,D,B⟩;have:i≠n:=λe=>k (by rw[<-D,e]);exact⟨i,by omega,D,B⟩
  rw[O3.mp E];refine⟨λx=>?_,QG ..⟩;show x∈[(n:Int)]↔_;rw[O3];constructor
  .intro h;exact⟨n,by omega,rfl,h⟩
  rintro⟨i,H,D,B⟩;by_cases e:i=n
  .rw[B,e]
  exfalso;have z:=(iP c n (c n)).mpr ⟨i,by omega,D⟩;obtain⟨d,hd,J⟩:=O4.mp z;exact no (Qq.mpr ⟨d,hd,UX J⟩)
theorem mz{rs:List Int}(fit:aR rs){a b c d:Nat}(h:Kn (aj rs) a b)(k:Kn (aj rs) c d)(lt:a<c):b<=c\/d<b:=by
 by_cases e:c<b
 .right;have le:=xJ (cD fit) h k.1 lt e;have B:=h.1.lb;have D:=k.1.lt;rw[a6]at B;refine RT le λz=>?_;subst z;have:=dS (h.mirror fit) (k.mirror fit);omega
 left;omega
theorem DX{rs:List Int}(fit:aR rs){g:Nat}(B:g<rs.length+1):Kn (aj rs) g (g+1)↔isOpen (aj rs) g=false:=by
 have l:=a6 rs;have D:=fu fit (p:=g+1) (by omega) (by omega);have E:=dQ ((aj rs).getD (g+1) 0);unfold isOpen;rw[Vx,Classical.not_not];constructor
 .intro k;have:=k.1.pK;omega
 intro e;have own:(aj rs).getD (g+1) 0=cF (aj rs) g (g+1):=by
  unfold cF aE;by_cases s:(aj rs).getD g 0<0
  .rw[UQ s,UQ (by omega)];omega
  rw[UO s,UO (by omega)]
 refine⟨⟨by omega,by omega,λj H J=>?_,own,by omega⟩,λc M W=>by have:=W.lt;omega⟩;have z:j=g+1:=by omega
 rw[z,<-own];omega
theorem uj{rs:List Int}(fit:aR rs){g:Nat}(z:g<rs.length+1):ow (aj rs) g=((g:Int),(g:Int)+1)↔isOpen (aj rs) g=false:=by
 obtain⟨c,d,o⟩:=d7 fit z;rw[<-DX fit z,cT o];constructor
 .intro e;injection e with e1 e2;have B:c=g:=by omega
  have D:d=g+1:=by omega
  rw[B,D]at o;exact o.kn
 intro k;have E:Own (aj rs) g g (g+1):=⟨k,O5 _,by omega,λH d' _ h _=>h⟩
 obtain⟨e1,e2⟩:=o.uniq E;rw[e1,e2];congr 1
theorem Fo{rs:List Int}(fit:aR rs){a b k:Nat}(W:Wh (aj rs) a b)(Z:k<rs.length+1)(E:(a:Int)<=bP rs k)(H:bP rs k<b):(a:Int)<=cE rs (k+1)/\cE rs (k+1)<b:=by
 have nd:=cD fit;have lb:=W.lb;have lt:=W.lt;have fl:=a6 rs;have M:=W.own;have nz:=fu fit (p:=b) (by omega) (by omega);obtain⟨p1,V⟩:=bw fit (show k<rs.length+2 by omega);obtain⟨q1,J⟩:=bw fit (show k+1<rs.length+2 by omega);have U:=eK (aj rs) a;have inj:∀j,j<rs.length+2->∀i,i<rs.length+2->cF (aj rs) a i=cF (aj rs) a j->i=j:=λj hj i hi e=>nN nd (by omega) (by omega) e;unfold bP iJ at E H;unfold cE iK;generalize bf rs k=p at *;generalize bf rs (k+1)=q at *;have bp:=dQ ((aj rs).getD b 0);by_cases s:(aj rs).getD a 0<0
 .have B:∀j,cF (aj rs) a j=- aE ((aj rs).getD j 0):=λj=>by unfold cF;rw[UQ s]
  have pin:a<=p/\p<=b/\p≠a:=by
   by_cases t:(aj rs).getD p 0<0
   .rw[UQ t]at E H;exact⟨by omega,by omega,by omega⟩
   rw[UO t]at E H;exact⟨by omega,by omega,λe=>t (by rw[e];exact s)⟩
  have z:=W.at' pin.1 pin.2.1;have ne:cF (aj rs) a p≠(aj rs).getD a 0:=λe=>pin.2.2 (inj a (by omega) p (by omega) (e.trans U.symm));have O:=W.inside nd (j:=q) (by omega) (by rw[B]at z ne⊢;omega) (by rw[B]at z⊢;omega);have qb:q≠b:=λe=>by
   rw[e]at J;rw[B,J]at M;rw[B,V]at z;omega
  by_cases t:(aj rs).getD q 0<0
  .rw[UQ t];omega
  rw[UO t];have:q≠a:=λe=>t (by rw[e];exact s);omega
 have B:∀j,cF (aj rs) a j=aE ((aj rs).getD j 0):=λj=>by unfold cF;rw[UO s]
 have D:¬(aj rs).getD b 0<0:=by rw[B]at M;omega
 have pin:a<=p/\p<=b/\p≠b:=by
  by_cases t:(aj rs).getD p 0<0
  .rw[UQ t]at E H;exact⟨by omega,by omega,λe=>D (by rw[<-e];exact t)⟩
  rw[UO t]at E H;exact⟨by omega,by omega,by omega⟩
 have z:=W.at' pin.1 pin.2.1;have ne:cF (aj rs) a p≠(aj rs).getD b 0:=λe=>pin.2.2 (inj b (by omega) p (by omega) (e.trans M));have O:=W.inside nd (j:=q) (by omega) (by rw[B]at z ne⊢;omega) (by rw[B]at z ne⊢;omega);have qa:q≠a:=λe=>by
  rw[e]at J;rw[B,J]at U;rw[B]at z;omega
 by_cases t:(aj rs).getD q 0<0
 .rw[UQ t];have:q≠b:=λe=>D (by rw[<-e];exact t);omega
 rw[UO t];omega
theorem JZ{rs:List Int}(fit:aR rs){a b k:Nat}(W:Wh (aj rs) a b)(B:k<rs.length+1)(D:(a:Int)<=cE rs (k+1))(E:cE rs (k+1)<b):(a:Int)<=bP rs k/\bP rs k<b:=by
 have lb:=W.lb;rw[a6]at lb;have e1:=(ui fit (k:=k+1) (by omega)).1;have e2:=(ui fit (k:=k) (by omega)).2;rw[show rs.length+1-(k+1)=rs.length-k by omega]at e1;rw[show rs.length+1-k=rs.length-k+1 by omega]at e2;have z:=Fo (nP fit) (W.mirror fit) (k:=rs.length-k) (by rw[eH];omega) (by rw[e1];omega) (by rw[e1];omega);rw[e2]at z;omega
theorem xN{rs:List Int}(fit:aR rs){k:Nat}(B:k<rs.length+1):ow (aj rs) (bP rs k).toNat=ow (aj rs) (cE rs (k+1)).toNat:=by
 have g:=hZ fit _ (Pk (b6 B));have J:0<=bP rs k/\bP rs k<((rs.length+1:Nat):Int):=g.1;have M:0<=cE rs (k+1)/\cE rs (k+1)<((rs.length+1:Nat):Int):=g.2;obtain⟨c,d,o⟩:=d7 fit (g:=(bP rs k).toNat) (by omega);have O:=o.le;have U:=o.lt;have z:=Fo fit o.kn.1 B (by omega) (by omega);have E:Own (aj rs) (cE rs (k+1)).toNat c d:=⟨o.kn,by omega,by omega,λH d' D V Z=>by
  have y:=JZ fit D.1 B (by omega) (by omega);exact o.top H d' D (by omega) (by omega)⟩
 rw[cT o,cT E]
noncomputable def pA(rs:List Int)(k:Nat):Nat:=if(aj rs).getD (bf rs k) 0<0 then 2*bf rs k-1 else 2*bf rs k
noncomputable def pB(rs:List Int)(k:Nat):Nat:=if(aj rs).getD (bf rs (k+1)) 0<0 then 2*bf rs (k+1)else 2*bf rs (k+1)-1
section
variable {rs:List Int}
theorem fP(fit:aR rs){k l:Nat}(z:k<rs.length+2)(B:l<rs.length+2)(e:bf rs k=bf rs l):k=l:=by
 have D:=(bw fit z).2;have E:=(bw fit B).2;rw[e,E]at D;omega
theorem mB(fit:aR rs){k:Nat}(z:k+1<rs.length+2):1<=bf rs (k+1):=by
 have B:=fN fit;by_cases c:bf rs (k+1)=0
 .have:=fP fit z (show 0<rs.length+2 by omega) (c.trans B.symm);omega
 omega
theorem BA(fit:aR rs){k:Nat}(B:k<rs.length+1):bf rs k<=rs.length:=by
 have z:=dR fit;have D:=(bw fit (show k<rs.length+2 by omega)).1;by_cases c:bf rs k=rs.length+1
 .have:=fP fit (show k<rs.length+2 by omega) (show rs.length+1<rs.length+2 by omega) (c.trans z.symm);omega
 omega
theorem BB(fit:aR rs){c:Nat}(D:1<=c)(E:c<=rs.length):(pA rs c=2*bf rs c-1/\pB rs (c-1)=2*bf rs c/\(aj rs).getD (bf rs c) 0<0\/pA rs c=2*bf rs c/\pB rs (c-1)=2*bf rs c-1/\¬(aj rs).getD (bf rs c) 0<0)/\1<=bf rs c/\bf rs c<=rs.length:=by
 have z:=mB fit (k:=c-1) (by omega);rw[show c-1+1=c by omega]at z;have B:=BA fit (k:=c) (by omega);unfold pA pB;rw[show c-1+1=c by omega];refine⟨?_,z,B⟩;by_cases s:(aj rs).getD (bf rs c) 0<0
 .left;rw[UQ s,UQ s];exact⟨rfl,rfl,s⟩
 right;rw[UO s,UO s];exact⟨rfl,rfl,s⟩
theorem xO(fit:aR rs):pA rs 0=0:=by
 unfold pA;rw[fN fit,cB]
 rfl
theorem xP(fit:aR rs):pB rs rs.length=2*rs.length+1:=by
 unfold pB;rw[dR fit,bE,UO (by omega)];omega
theorem cU(fit:aR rs){k:Nat}(z:k<rs.length+1):(pA rs k+1)/2=bf rs k/\pA rs k<2*rs.length+2:=by
 have h:=BA fit z;unfold pA;by_cases s:(aj rs).getD (bf rs k) 0<0
 .rw[UQ s];have:=bM (bw fit (show k<rs.length+2 by omega)).1 s;omega
 rw[UO s];omega
theorem dU(fit:aR rs){k:Nat}(B:k<rs.length+1):(pB rs k+1)/2=bf rs (k+1)/\pB rs k<2*rs.length+2:=by
 have h:=mB fit (k:=k) (by omega);have z:=(bw fit (show k+1<rs.length+2 by omega)).1;unfold pB;by_cases s:(aj rs).getD (bf rs (k+1)) 0<0
 .rw[UQ s];have:=bM z s;omega
 rw[UO s];omega
theorem rW(fit:aR rs){k l:Nat}(B:k<rs.length+1)(D:l<rs.length+1)(e:pA rs k=pA rs l):k=l:=by
 have z:=(cU fit B).1;have E:=(cU fit D).1;rw[e]at z;exact fP fit (by omega) (by omega) (z.symm.trans E)
theorem rX(fit:aR rs){k l:Nat}(B:k<rs.length+1)(D:l<rs.length+1)(e:pB rs k=pB rs l):k=l:=by
 have z:=(dU fit B).1;have E:=(dU fit D).1;rw[e]at z;have:=fP fit (k:=k+1) (l:=l+1) (by omega) (by omega) (z.symm.trans E);omega
theorem eO(fit:aR rs){k l:Nat}(D:k<rs.length+1)(E:l<rs.length+1):pA rs k≠pB rs l:=λe=>by
 have B:=(cU fit D).1;have H:=(dU fit E).1;rw[e]at B;have:=fP fit (k:=k) (l:=l+1) (by omega) (by omega) (B.symm.trans H);subst this;obtain⟨z,J,M⟩:=BB fit (c:=l+1) (by omega) (by omega);rw[show l+1-1=l by omega]at z;omega
theorem Fp(fit:aR rs){x:Nat}(O:x<2*rs.length+2):∃k,k<rs.length+1/\(x=pA rs k\/x=pB rs k):=by
 have D:(x+1)/2<rs.length+2:=by omega
 obtain⟨U,V⟩:=eF fit D;obtain⟨a,J⟩:∃a:Nat,aE ((aj rs).getD ((x+1)/2) 0)=a:=⟨(aE ((aj rs).getD ((x+1)/2) 0)).toNat,by omega⟩
 have B:=dz fit D J;by_cases c0:(x+1)/2=0
 .have:x=0:=by omega
  subst this;exact⟨0,by omega,.inl (xO fit).symm⟩
 by_cases Z:(x+1)/2=rs.length+1
 .have:x=2*rs.length+1:=by omega
  subst this;exact⟨rs.length,by omega,.inr (xP fit).symm⟩
 have an:a≠0:=λz=>by
  rw[z,fN fit]at B;omega
 have M:a<=rs.length:=by
  by_cases z:a=rs.length+1
  .rw[z,dR fit]at B;omega
  omega
 obtain⟨z,E,H⟩:=BB fit (c:=a) (by omega) M;rw[B]at z;rcases z with⟨E,H,_⟩|⟨E,H,_⟩
 .by_cases e:x%2=0
  .exact⟨a-1,by omega,.inr (by omega)⟩
  exact⟨a,by omega,.inl (by omega)⟩
 by_cases e:x%2=0
 .exact⟨a,by omega,.inl (by omega)⟩
 exact⟨a-1,by omega,.inr (by omega)⟩
theorem Hf(fit:aR rs){k:Nat}(B:k<rs.length+1):(pA rs k)/2=(bP rs k).toNat:=by
 have z:=(bw fit (show k<rs.length+2 by omega)).1;unfold pA bP iJ;by_cases s:(aj rs).getD (bf rs k) 0<0
 .rw[UQ s,UQ s];have:=bM z s;omega
 rw[UO s,UO s];omega
theorem Hg(fit:aR rs){k:Nat}(z:k<rs.length+1):(pB rs k)/2=(cE rs (k+1)).toNat:=by
 have B:=(bw fit (show k+1<rs.length+2 by omega)).1;have h:=mB fit (k:=k) (by omega);unfold pB cE iK;by_cases s:(aj rs).getD (bf rs (k+1)) 0<0
 .rw[UQ s,UQ s];omega
 rw[UO s,UO s];omega
def Iv(rs:List Int)(x y:Nat):Prop:=∀k,k<rs.length+1->((x<=pA rs k/\pA rs k<=y)↔(x<=pB rs k/\pB rs k<=y))
def NP(rs:List Int)(x y c:Nat):Prop:=(x<=pB rs (c-1)/\pB rs (c-1)<=y)↔(x<=pA rs c/\pA rs c<=y)
theorem Dk{x y:Nat}(B:Iv rs x y):∀(d a:Nat),(x<=pB rs a/\pB rs a<=y)->(∀c,a<c->c<=a+d->NP rs x y c)->a+d<=rs.length->(x<=pB rs (a+d)/\pB rs (a+d)<=y)
 |0,_,h,_,_=>h
 |d+1,a,h,np,E=>by
  have z:=Dk B d a h (λc z D=>np c z (by omega)) (by omega);have D:=(np (a+d+1) (by omega) (by omega)).mp (by rw[show a+d+1-1=a+d by omega];exact z);exact(B (a+(d+1)) (by omega)).mp D
theorem Lx{x y:Nat}(B:Iv rs x y):∀(d a:Nat),(x<=pA rs a/\pA rs a<=y)->(∀c,a-d<c->c<=a->NP rs x y c)->d<=a->a<=rs.length->(x<=pA rs (a-d)/\pA rs (a-d)<=y)
 |0,_,h,_,_,_=>h
 |d+1,a,h,np,H,E=>by
  have D:=Lx B d a h (λc D z=>np c (by omega) z) (by omega) E;have z:=(np (a-d) (by omega) (by omega)).mpr D;rw[show a-d-1=a-(d+1) by omega]at z;exact(B (a-(d+1)) (by omega)).mpr z
theorem xQ(fit:aR rs){x y c:Nat}(B:1<=c)(D:c<=rs.length)(e1:x≠2*bf rs c)(e2:y+1≠2*bf rs c):NP rs x y c:=by
 obtain⟨z,E,H⟩:=BB fit B D;unfold NP;rcases z with⟨a,b,_⟩|⟨a,b,_⟩
 .rw[a,b];omega
 rw[a,b];omega
theorem mC(fit:aR rs){x y a:Nat}(z:Iv rs x y)(h:x<=pA rs a/\pA rs a<=y)(B:a<=rs.length)(np:∀c,1<=c->c<=a->NP rs x y c):x=0:=by
 have:=Lx z a a h (λc E D=>np c (by omega) D) (O5 _) B;rw[QE,xO fit]at this;omega
theorem kR(fit:aR rs){x y a:Nat}(z:Iv rs x y)(h:x<=pB rs a/\pB rs a<=y)(D:a<=rs.length)(np:∀c,a<c->c<=rs.length->NP rs x y c):2*rs.length+1<=y:=by
 have:=Dk z (rs.length-a) a h (λc B E=>np c B (by omega)) (by omega);rw[show a+(rs.length-a)=rs.length by omega,xP fit]at this;omega
theorem bY{β:Type}[DecidableEq β]:∀{xs ys:List β},xs.Nodup->(∀x∈xs,x∈ys)->xs.length<=ys.length
 |[],ys,_,_=>PQ _
 |x::r,ys,h,s=>by
  rw[PX]at h;have D:=s x Pc;have E:=bY (xs:=r) (ys:=ys.filter λy=>decide (y≠x)) h.2 λy B=>by
   have ne:y≠x:=λz=>h.1 (z▸B);exact O9.mpr ⟨s y (Pj _ B),UX ne⟩
  have H:(ys.filter λy=>decide (y≠x)).length<ys.length:=QZ.mpr ⟨x,D,by simp⟩;show r.length+1<=ys.length;omega
theorem xR(fit:aR rs){p q a b:Nat}(O:q<rs.length+2)(E:p<=q)(U:b<rs.length+2)(H:a<=b)(J:∀j,p<=j->j<=q->(a:Int)<=aE ((aj rs).getD j 0)/\aE ((aj rs).getD j 0)<=b)(M:∀c,a<=c->c<=b->p<=bf rs c/\bf rs c<=q):q-p=b-a:=by
 have k1:((Pu (q+1-p)).map λi=>aE ((aj rs).getD (p+i) 0)).length<=((Pu (b+1-a)).map λi=>(a:Int)+(i:Nat)).length:=bY (by
   unfold List.Nodup;rw[PD,PC];intro i j hi z B e;rw[RX,RX]at e;rw[PL]at hi z;have:=xA fit (i:=p+i) (j:=p+j) (by omega) (by omega) e;omega) λx D=>by
  obtain⟨i,hi,rfl⟩:=O4.mp D;have hi:=Pm.mp hi;have:=J (p+i) (by omega) (by omega);exact O4.mpr ⟨(aE ((aj rs).getD (p+i) 0)-a).toNat,Pm.mpr (by omega),by omega⟩
 have k2:((Pu (b+1-a)).map λi=>bf rs (a+i)).length<=((Pu (q+1-p)).map λi=>p+i).length:=bY (by
   unfold List.Nodup;rw[PD,PC];intro i j hi z B e;rw[RX,RX]at e;rw[PL]at hi z;have:=fP fit (k:=a+i) (l:=a+j) (by omega) (by omega) e;omega) λx D=>by
  obtain⟨i,hi,rfl⟩:=O4.mp D;have hi:=Pm.mp hi;have:=M (a+i) (by omega) (by omega);exact O4.mpr ⟨bf rs (a+i)-p,Pm.mpr (by omega),by omega⟩
 rw[O0,O0,PL,PL]at k1 k2;omega
theorem kT(fit:aR rs){j:Nat}(z:j<rs.length+2):∃c:Nat,aE ((aj rs).getD j 0)=c/\bf rs c=j/\c<rs.length+2:=by
 obtain⟨B,D⟩:=eF fit z;exact⟨(aE ((aj rs).getD j 0)).toNat,by omega,dz fit z (by omega),by omega⟩
theorem kU(fit:aR rs){c j:Nat}(e:bf rs c=j)(h:0<j):1<=c:=by
 by_cases z:c=0
 .rw[z,fN fit]at e;omega
 omega
theorem rY(fit:aR rs){c j:Nat}(e:bf rs c=j)(h:j<rs.length+1)(B:c<rs.length+2):c<=rs.length:=by
 by_cases z:c=rs.length+1
 .rw[z,dR fit]at e;omega
 omega
theorem Hh(fit:aR rs){x y:Nat}(Hi:x<y)(hy:y<2*rs.length+2)(E:Iv rs x y):∃p q,x=2*p/\y+1=2*q/\Wh (aj rs) p q:=by
 have fl:=a6 rs;by_cases xe:x%2=0
 .obtain⟨p,rfl⟩:∃p,x=2*p:=⟨x/2,by omega⟩
  obtain⟨a,O,J,al⟩:=kT fit (j:=p) (by omega);by_cases ye:y%2=0
  .exfalso;obtain⟨q,rfl⟩:∃q,y=2*q:=⟨y/2,by omega⟩
   obtain⟨b,M,H,bl⟩:=kT fit (j:=q) (by omega);have b1:=kU fit H (by omega);have b2:=rY fit H (by omega) bl;have ab:a≠b:=λz=>by rw[z,H]at J;omega
   have np:∀c,1<=c->c<=rs.length->c≠a->NP rs (2*p) (2*q) c:=λc D B h3=>xQ fit D B (λz=>h3 (fP fit (by omega) (by omega) (by rw[J];omega))) (by omega);obtain⟨z,z1,z2⟩:=BB fit b1 b2;rw[H]at z;have rb:2*p<=pA rs b/\pA rs b<=2*q:=by omega
   rcases QP ab with h|h
   .have:=kR fit E ((E b (by omega)).mp rb) b2 λc D B=>np c (by omega) B (by omega);omega
   have:=mC fit E rb b2 λc D B=>np c D (by omega) (by omega);have:p=0:=by omega
   rw[this]at J O;rw[cB]at O;have:(0:Int)=a:=O;omega
  obtain⟨q,hq⟩:∃q,y+1=2*q:=⟨(y+1)/2,by omega⟩
  refine⟨p,q,rfl,hq,?_⟩;obtain⟨b,M,H,bl⟩:=kT fit (j:=q) (by omega);have b1:=kU fit H (by omega);have an:=rY fit J (by omega) al;have ab:a≠b:=λz=>by rw[z,H]at J;omega
  have np:∀c,1<=c->c<=rs.length->c≠a->c≠b->NP rs (2*p) y c:=λc D B h3 h4=>xQ fit D B (λz=>h3 (fP fit (by omega) (by omega) (by rw[J];omega))) (λz=>h4 (fP fit (by omega) (by omega) (by rw[H];omega)));have top:y=2*rs.length+1->b=rs.length+1/\¬(aj rs).getD q 0<0:=λz=>by
   have e:q=rs.length+1:=by omega
   subst e;rw[bE]at M⊢;unfold aE at M;rw[UO (by omega)]at M;omega
  have Z:2*p=0->a=0/\¬(aj rs).getD p 0<0:=λz=>by
   have e:p=0:=by omega
   subst e;rw[cB]at O⊢;have:(0:Int)=a:=O;exact⟨by omega,by decide⟩
  have qU:∀j,p<j->j<q->∀c:Nat,aE ((aj rs).getD j 0)=c->1<=c/\c<=rs.length/\c≠a/\c≠b/\(2*p<=pA rs c/\pA rs c<=y):=λj D B c hc=>by
   have pc:=dz fit (show j<rs.length+2 by omega) hc;have c1:=kU fit pc (by omega);have c2:c<=rs.length:=by
    have:=eF fit (show j<rs.length+2 by omega);by_cases z:c=rs.length+1
    .rw[z,dR fit]at pc;omega
    omega
   obtain⟨z,z1,z2⟩:=BB fit c1 c2;rw[pc]at z;exact⟨c1,c2,λe=>by rw[e,J]at pc;omega,λe=>by rw[e,H]at pc;omega,by omega⟩
  have plc:∀c,c<=rs.length->(2*p<=pA rs c/\pA rs c<=y)->p<=bf rs c/\bf rs c<=q:=λc D B=>by
   have:=(cU fit (show c<rs.length+1 by omega)).1;omega
  by_cases sp:(aj rs).getD p 0<0
  ·-- a minus ahead
   have p1:=bM (by omega) sp;have a1:=kU fit J (by omega);obtain⟨z,_,_⟩:=BB fit a1 an;rw[J]at z;have za:pA rs a=2*p-1/\pB rs (a-1)=2*p:=by
    rcases z with⟨z1,z2,z3⟩|⟨z1,z2,z3⟩
    .exact⟨z1,z2⟩
    exact UU sp z3
   have ra:2*p<=pA rs (a-1)/\pA rs (a-1)<=y:=(E (a-1) (by omega)).mpr (by omega);have lt:b<a:=by
    rcases QP ab with h|h
    .have:=mC fit E ra (by omega) λc D B=>np c D (by omega) (by omega) (by omega);have:=Z this;omega
    exact h
   obtain⟨w,_,_⟩:=BB fit b1 (by omega);rw[H]at w;have rb:2*p<=pA rs b/\pA rs b<=y:=by
    have:=Lx E (a-1-b) (a-1) ra (λc D B=>np c (by omega) (by omega) (by omega) (by omega)) (by omega) (by omega);rwa[show a-1-(a-1-b)=b by omega]at this
   have sq:(aj rs).getD q 0<0:=by
    rcases w with⟨w1,w2,w3⟩|⟨w1,w2,w3⟩
    .exact w3
    omega
   have cin:∀c,1<=c->c<=rs.length->c≠a->c≠b->(2*p<=pA rs c/\pA rs c<=y)->b<c/\c<a:=λc D B h3 h4 h5=>by
    by_cases g1:a<c
    .have:=kR fit E ((E c (by omega)).mp h5) B λU l1 l2=>np U (by omega) l2 (by omega) (by omega);have:=top (by omega);exact UU sq this.2
    by_cases g2:c<b
    .have:=mC fit E h5 B λU l1 l2=>np U l1 (by omega) (by omega) (by omega);have:=Z this;omega
    omega
   have am:∀j,cF (aj rs) p j=- aE ((aj rs).getD j 0):=λj=>by unfold cF;rw[UQ sp]
   have vp:(aj rs).getD p 0=-(a:Int):=by unfold aE at O;rw[UQ sp]at O;omega
   have vq:(aj rs).getD q 0=-(b:Int):=by unfold aE at M;rw[UQ sq]at M;omega
   have V:∀j,p<=j->j<=q->(b:Int)<=aE ((aj rs).getD j 0)/\aE ((aj rs).getD j 0)<=a:=λj D B=>by
    by_cases e1:j=p
    .rw[e1,O];omega
    by_cases e2:j=q
    .rw[e2,M];omega
    obtain⟨c,hc,pc,cl'⟩:=kT fit (j:=j) (by omega);obtain⟨c1,c2,c3,c4,c5⟩:=qU j (by omega) (by omega) c hc;have:=cin c c1 c2 c3 c4 c5;rw[hc];omega
   have cnt:=xR fit (p:=p) (q:=q) (a:=b) (b:=a) (by omega) (by omega) (by omega) (by omega) V λc D B=>by
    by_cases e1:c=a
    .rw[e1,J];omega
    by_cases e2:c=b
    .rw[e2,H];omega
    have:=Lx E (a-1-c) (a-1) ra (λU l1 l2=>np U (by omega) (by omega) (by omega) (by omega)) (by omega) (by omega);rw[show a-1-(a-1-c)=c by omega]at this;exact plc c (by omega) this
   refine⟨by omega,by omega,λj D B=>?_,by rw[am,M,vq],by rw[vp,vq];omega⟩;have:=V j (by omega) B;rw[am,vp,vq];omega
  -- no minus ahead
  have vp:(aj rs).getD p 0=(a:Int):=by unfold aE at O;rw[UO sp]at O;exact O
  have za:pA rs a=2*p:=by
   unfold pA;rw[J,UO sp]
  have la:2*p<=pB rs a/\pB rs a<=y:=(E a (by omega)).mp (by omega);have lt:a<b:=by
   rcases QP ab with h|h
   .exact h
   have:=kR fit E la an λc D B=>np c (by omega) B (by omega) (by omega);have:=top (by omega);omega
  have lb:2*p<=pB rs (b-1)/\pB rs (b-1)<=y:=by
   have:=Dk E (b-1-a) a la (λc D B=>np c (by omega) (by omega) (by omega) (by omega)) (by omega);rwa[show a+(b-1-a)=b-1 by omega]at this
  have sq:¬(aj rs).getD q 0<0:=λs=>by
   have q1:=bM (by omega) s;have b2:=rY fit H (by omega) bl;obtain⟨w,_,_⟩:=BB fit b1 b2;rw[H]at w;rcases w with⟨w1,w2,w3⟩|⟨w1,w2,w3⟩
   .omega
   exact w3 s
  have vq:(aj rs).getD q 0=(b:Int):=by unfold aE at M;rw[UO sq]at M;exact M
  have cin:∀c,1<=c->c<=rs.length->c≠a->c≠b->(2*p<=pA rs c/\pA rs c<=y)->a<c/\c<b:=λc D B h3 h4 h5=>by
   by_cases g1:b<c
   .have:=kR fit E ((E c (by omega)).mp h5) B λU l1 l2=>np U (by omega) l2 (by omega) (by omega);have:=top (by omega);omega
   by_cases g2:c<a
   .have:=mC fit E h5 B λU l1 l2=>np U l1 (by omega) (by omega) (by omega);have:=Z this;omega
   omega
  have am:∀j,cF (aj rs) p j=aE ((aj rs).getD j 0):=λj=>by unfold cF;rw[UO sp]
  have V:∀j,p<=j->j<=q->(a:Int)<=aE ((aj rs).getD j 0)/\aE ((aj rs).getD j 0)<=b:=λj D B=>by
   by_cases e1:j=p
   .rw[e1,O];omega
   by_cases e2:j=q
   .rw[e2,M];omega
   obtain⟨c,hc,pc,cl'⟩:=kT fit (j:=j) (by omega);obtain⟨c1,c2,c3,c4,c5⟩:=qU j (by omega) (by omega) c hc;have:=cin c c1 c2 c3 c4 c5;rw[hc];omega
  have cnt:=xR fit (p:=p) (q:=q) (a:=a) (b:=b) (by omega) (by omega) (by omega) (by omega) V λc D B=>by
   by_cases e1:c=a
   .rw[e1,J];omega
   by_cases e2:c=b
   .rw[e2,H];omega
   have:=Dk E (c-a) a la (λU l1 l2=>np U (by omega) (by omega) (by omega) (by omega)) (by omega);rw[show a+(c-a)=c by omega]at this;exact plc c (by omega) ((E c (by omega)).mpr this)
  refine⟨by omega,by omega,λj D B=>?_,by rw[am,M,vq],by rw[vp,vq];omega⟩;have:=V j (by omega) B;rw[am,vp,vq];omega
 exfalso;obtain⟨p,hp⟩:∃p,x+1=2*p:=⟨(x+1)/2,by omega⟩
 obtain⟨a,O,J,al⟩:=kT fit (j:=p) (by omega);have a1:=kU fit J (by omega);have a2:=rY fit J (by omega) al;obtain⟨z,_,_⟩:=BB fit a1 a2;rw[J]at z;have ra:x<=pA rs a/\pA rs a<=y:=by omega
 by_cases ye:y%2=0
 .have:=mC fit E ra a2 λc D B=>xQ fit D (by omega) (by omega) (by omega);omega
 obtain⟨q,hq⟩:∃q,y+1=2*q:=⟨(y+1)/2,by omega⟩
 obtain⟨b,M,H,bl⟩:=kT fit (j:=q) (by omega);have ab:a≠b:=λz=>by rw[z,H]at J;omega
 have np:∀c,1<=c->c<=rs.length->c≠b->NP rs x y c:=λc D B h4=>xQ fit D B (by omega) (λz=>h4 (fP fit (by omega) (by omega) (by rw[H];omega)));rcases QP ab with h|h
 .have:=mC fit E ra a2 λc D B=>np c D (by omega) (by omega);omega
 have:=kR fit E ((E a (by omega)).mp ra) a2 λc D B=>np c (by omega) B (by omega);have e:q=rs.length+1:=by omega
 subst e;rw[dR fit |>.symm]at H;have:=fP fit (by omega) (by omega) H;omega
end
noncomputable def mV(rs:List Int)(k:Nat):Nat:=min (pA rs k) (pB rs k)
noncomputable def mD(rs:List Int)(k:Nat):Nat:=max (pA rs k) (pB rs k)
def jB(rs:List Int)(k l:Nat):Prop:=(mV rs k<mV rs l/\mV rs l<mD rs k/\mD rs k<mD rs l)\/(mV rs l<mV rs k/\mV rs k<mD rs l/\mD rs l<mD rs k)
inductive Co (rs:List Int):Nat->Nat->Prop
 |refl (k:Nat):Co rs k k
 |step {k l m:Nat} (h:Co rs k l) (hl:l<rs.length+1) (hm:m<rs.length+1) (c:jB rs l m):Co rs k m
section
variable {rs:List Int}
theorem jB.symm{k l:Nat}(h:jB rs k l):jB rs l k:=h.elim .inr .inl
theorem Co.trans{k l m:Nat}(h:Co rs k l)(g:Co rs l m):Co rs k m:=by
 induction g with
 |refl=>exact h
 |step _ z B c D=>exact .step D z B c
theorem Co.symm{k l:Nat}(h:Co rs k l):Co rs l k:=by
 induction h with
 |refl=>exact .refl _
 |step _ z B c D=>exact(Co.step (.refl _) B z c.symm).trans D
theorem Co.lt{k l:Nat}(h:Co rs k l)(z:k<rs.length+1):l<rs.length+1:=by
 cases h with
 |refl=>exact z
 |step _ _ B _=>exact B
theorem dW(fit:aR rs){k:Nat}(z:k<rs.length+1):∃c d,Own (aj rs) (pA rs k/2) c d/\Own (aj rs) (pB rs k/2) c d/\2*c<=mV rs k/\mD rs k<2*d:=by
 have g:=hZ fit _ (Pk (b6 z));have J:0<=bP rs k/\bP rs k<((rs.length+1:Nat):Int):=g.1;have M:0<=cE rs (k+1)/\cE rs (k+1)<((rs.length+1:Nat):Int):=g.2;have E:=Hf fit z;have H:=Hg fit z;obtain⟨c,d,o⟩:=d7 fit (g:=(bP rs k).toNat) (by omega);obtain⟨D,d',B⟩:=d7 fit (g:=(cE rs (k+1)).toNat) (by omega);have e:=xN fit z;rw[cT o,cT B]at e;have e1:c=D:=by have:=congrArg Qd e;have:(c:Int)=D:=this;omega
 have e2:d=d':=by have:=congrArg Rr e;have:(d:Int)=d':=this;omega
 subst e1 e2;rw[E,H];refine⟨c,d,o,B,?_,?_⟩
 .have:=o.le;have:=B.le;unfold mV;omega
 have:=o.lt;have:=B.lt;unfold mD;omega
noncomputable def iq(rs:List Int)(k:Nat):Int×Int:=ow (aj rs) (pA rs k/2)
theorem rZ(fit:aR rs){k l:Nat}(O:k<rs.length+1)(U:l<rs.length+1)(h:jB rs k l):iq rs k=iq rs l:=by
 obtain⟨a,b,B,M,D,E⟩:=dW fit O;obtain⟨c,d,z,V,H,J⟩:=dW fit U;unfold iq;rw[cT B,cT z];have out:∀{a b c d:Nat}{x:Nat},Own (aj rs) (x/2) a b->Kn (aj rs) c d->a<c->¬(2*c<=x/\x<2*d):=λ{a b c d x} o kn lt ⟨Z,h2⟩=>by
  have:=o.top c d kn (by omega) (by omega);omega
 have key:∀{a b c d k l:Nat},Own (aj rs) (pA rs k/2) a b->Own (aj rs) (pB rs k/2) a b->2*a<=mV rs k->mD rs k<2*b->Own (aj rs) (pA rs l/2) c d->2*c<=mV rs l->mD rs l<2*d->jB rs k l->¬a<c:=λ{a b c d k l} B M D E z H J h lt=>by
  have n1:=out B z.kn lt;have n2:=out M z.kn lt;have t:=mz fit B.kn z.kn lt;unfold jB mV mD at h;unfold mV at D H;unfold mD at E J;omega
 have e:a=c:=by
  have Z:=key B M D E z H J h;have h2:=key z V H J B D E h.symm;omega
 subst e;rw[dS B.kn z.kn]
theorem BC(fit:aR rs){k l:Nat}(h:Co rs k l):iq rs k=iq rs l:=by
 induction h with
 |refl=>rfl
 |step _ z B c D=>exact D.trans (rZ fit z B c)
theorem r9{P:Nat->Prop}:∀x,P x->∃x,P x/\∀y,P y->x<=y:=λx=>by
 induction x using RA with
 |_ x D =>
  intro h;by_cases c:∃y,P y/\y<x
  .obtain⟨y,B,lt⟩:=c;exact D y lt B
  exact⟨x,h,λy B=>O2 λz=>c ⟨y,B,by omega⟩⟩
theorem vV{P:Nat->Prop}{N:Nat}(b:∀x,P x->x<=N){x:Nat}(h:P x):∃x,P x/\∀y,P y->y<=x:=by
 obtain⟨d,⟨y,B,E⟩,D⟩:=r9 (P:=λd=>∃y,P y/\d=N-y) (N-x) ⟨x,h,rfl⟩;refine⟨y,B,λz hz=>?_⟩;have:=D (N-z) ⟨z,hz,rfl⟩;have:=b y B;have:=b z hz;omega
def cK(rs:List Int)(k x:Nat):Prop:=x=pA rs k\/x=pB rs k
theorem iQ(fit:aR rs){k l x:Nat}(z:k<rs.length+1)(B:l<rs.length+1)(h:cK rs k x)(g:cK rs l x):k=l:=by
 rcases h with h|h <;> rcases g with g|g
 .exact rW fit z B (h.symm.trans g)
 .exact UU (h.symm.trans g) (eO fit z B)
 .exact UU (g.symm.trans h) (eO fit B z)
 exact rX fit z B (h.symm.trans g)
theorem BD{k x:Nat}(h:cK rs k x):mV rs k<=x/\x<=mD rs k:=by
 unfold mV mD;rcases h with h|h <;> omega
theorem xS(fit:aR rs){k c d:Nat}(O:k<rs.length+1)(ho:Own (aj rs) (pA rs k/2) c d):∃l,Co rs k l/\cK rs l (2*c):=by
 let P:Nat->Prop:=λx=>∃l,Co rs k l/\cK rs l x
 have bd:∀x,P x->x<=2*rs.length+1:=λx ⟨l,V,Z⟩=>by
  have B:=V.lt O;rcases Z with h|h
  .have:=(cU fit B).2;omega
  have:=(dU fit B).2;omega
 have P0:P (pA rs k):=⟨k,.refl k,.inl rfl⟩
 obtain⟨x,⟨lx,J,ex⟩,mn⟩:=r9 (P:=P) _ P0;obtain⟨y,⟨ly,cy,ey⟩,mx⟩:=vV bd P0;have D:∀l,Co rs k l->x<=mV rs l/\mD rs l<=y:=λl h=>by
  have V:=mn _ ⟨l,h,.inl rfl⟩;have Z:=mn _ ⟨l,h,.inr rfl⟩;have h3:=mx _ ⟨l,h,.inl rfl⟩;have h4:=mx _ ⟨l,h,.inr rfl⟩;unfold mV mD;omega
 have U:∀l,l<rs.length+1->mV rs l<mD rs l:=λl B=>by
  have:=eO fit B B;unfold mV mD;omega
 have Hi:x<y:=by
  have:=D k (.refl k);have:=U k O;omega
 have cover:∀z,x<z->z<y->¬P z->∃l,Co rs k l/\mV rs l<z/\z<mD rs l:=λz V Z M=>O2 λno=>by
  have side:∀l,Co rs k l->mD rs l<z\/z<mV rs l:=λl h=>by
   have n1:pA rs l≠z:=λe=>M ⟨l,h,.inl e.symm⟩;have n2:pB rs l≠z:=λe=>M ⟨l,h,.inr e.symm⟩;have n3:¬(mV rs l<z/\z<mD rs l):=λq=>no ⟨l,h,q⟩;unfold mV mD at *;omega
  have all:∀l,Co rs lx l->mD rs l<z:=λl h=>by
   induction h with
   |refl =>
    have:=BD ex;rcases side lx J with q|q <;> omega
   | @step l m h B E c ih =>
    rcases side m (J.trans (.step h B E c))with q|q
    .exact q
    unfold jB at c;omega
  have:=all ly (J.symm.trans cy);have:=BD ey;omega
 have cl:Iv rs x y:=λm E=>by
  by_cases cm:Co rs k m
  .have:=D m cm;unfold mV mD at this;omega
  have one:∀z H,cK rs m z->cK rs m H->z≠H->x<=z->z<=y->x<=H/\H<=y:=λz H e e' ne V Z=>O2 λno=>by
   have M:¬P z:=λ⟨l,B,q⟩=>cm (by rw[iQ fit E (B.lt O) e q];exact B);have zx:z≠x:=λq=>M ⟨lx,J,by rw[q];exact ex⟩;have zy:z≠y:=λq=>M ⟨ly,cy,by rw[q];exact ey⟩;obtain⟨l,B,l1,l2⟩:=cover z (by omega) (by omega) M;have:=D l B;refine cm (.step B (B.lt O) E ?_);unfold jB;have em:(mV rs m=z/\mD rs m=H)\/(mV rs m=H/\mD rs m=z):=by
    unfold mV mD;rcases e with e|e <;> rcases e' with e'|e' <;> omega
   have:=U m E;omega
  have ne:=eO fit E E;constructor
  .intro q;exact one _ _ (.inl rfl) (.inr rfl) ne q.1 q.2
  intro q;exact one _ _ (.inr rfl) (.inl rfl) (Ne.symm ne) q.1 q.2
 have Ly:=bd y ⟨ly,cy,ey⟩;obtain⟨p,q,rfl,hq,W⟩:=Hh fit Hi (by omega) cl;have own:∀{l z:Nat},Co rs k l->cK rs l z->Own (aj rs) (z/2) c d:=λ{l z} h e=>by
  have B:=h.lt O;obtain⟨a,b,o1,o2,_⟩:=dW fit B;have z1:=BC fit h;unfold iq at z1;rw[cT ho,cT o1]at z1;have e1:c=a:=by have:=congrArg Qd z1;have:(c:Int)=a:=this;omega
  have e2:d=b:=by have:=congrArg Rr z1;have:(d:Int)=b:=this;omega
  subst e1 e2;rcases e with rfl|rfl
  .exact o1
  exact o2
 have ox:=own J ex;have oy:=own cy ey;rw[show 2*p/2=p by omega]at ox;obtain⟨e,ke⟩:=oT q W;have le:e<=q:=O2 λz=>ke.2 q (by omega) W;have t:=ox.top p e ke (O5 _) ke.1.lt;have:=ox.le;have e1:c=p:=by omega
 exact⟨lx,J,by rw[e1];exact ex⟩
theorem Hj(fit:aR rs){k l:Nat}(z:k<rs.length+1)(B:l<rs.length+1)(h:iq rs k=iq rs l):Co rs k l:=by
 obtain⟨c,d,D,_⟩:=dW fit z;obtain⟨E,d',H,_⟩:=dW fit B;unfold iq at h;rw[cT D,cT H]at h;have e1:c=E:=by have:=congrArg Qd h;have:(c:Int)=E:=this;omega
 subst e1;obtain⟨m,J,O⟩:=xS fit z D;obtain⟨n,M,U⟩:=xS fit B H;have:=iQ fit (J.lt z) (M.lt B) O U;subst this;exact J.trans M.symm
theorem fh(fit:aR rs){k l:Nat}(z:k<rs.length+1)(B:l<rs.length+1):Co rs k l↔iq rs k=iq rs l:=⟨BC fit,Hj fit z B⟩
end
end aC
namespace Hp
open Classical
section
variable {β:Type}{lb:Nat->Option β}
def xT(lb:Nat->Option β)(p:β)(x y:Nat):Prop:=lb x=Yl p\/lb y=Yl p\/Tc lb p x y
def oX(lb:Nat->Option β)(S:List β)(C:List (Nat×Nat)):Prop:=∀p,Fi lb p->p∈S\/∃c∈C,xT lb p c.1 c.2
noncomputable def del(lb:Nat->Option β)(e:β):Nat->Option β:=λy=>if lb y=Yl e then none else lb y
def Lz(lb:Nat->Option β)(e:β):Prop:=∃y,y≠e/\Fi lb y/\Alt lb y/\¬Alt (del lb e) y
noncomputable def cs(lb:Nat->Option β)(hs:List β):Nat:=if hs.length%2=1/\1<hs.length/\∀e∈hs,Lz lb e then hs.length+1 else hs.length
structure Iw(lb:Nat->Option β) (hs:List β):Prop where
 nd:hs.Nodup
 mem:∀p,p∈hs↔GQ lb p
theorem bg{e p:β}{y:Nat}:del lb e y=Yl p↔lb y=Yl p/\p≠e:=by
 unfold del
 split
 .rename_i h;constructor
  .intro z;cases z
  rintro⟨z,n⟩;rw[h]at z;exact UU (Option.some.inj z).symm n
 rename_i h;exact⟨λz=>⟨z,λw=>h (by rw[z,w])⟩,λz=>z.1⟩
def uk(lb:Nat->Option β)(p:β)(x:Nat):Prop:=lb x=Yl p\/lb x≠Yl p/\∃a b,lb a=Yl p/\lb b=Yl p/\∀z q,lb z=Yl q->q≠p->(Bt a b z↔¬Bt a b x)
theorem DY{p:β}{x y:Nat}(hu:GQ lb p)(h:xT lb p x y):uk lb p x\/uk lb p y:=by
 by_cases U:lb x=Yl p
 .exact .inl (.inl U)
 by_cases V:lb y=Yl p
 .exact .inr (.inl V)
 obtain⟨a,b,Z,hb,s⟩:=((h.resolve_left U).resolve_left V).ex U V;have one:∀z q E H,lb z=Yl q->q≠p->lb E=Yl H->H≠p->(Bt a b z->Bt a b E):=λz q E H B D J M i=>O2 λj =>
  hu.2 ⟨z,E,q,H,B,J,D,M,.mk' (by rw[B];exactλe=>D (Option.some.inj e)) (by rw[J];exactλe=>M (Option.some.inj e)) Z hb ⟨λ_=>j,λ_=>i⟩⟩
 by_cases ex:∃z q,lb z=Yl q/\q≠p/\(Bt a b z↔Bt a b x)
 .obtain⟨z,q,B,D,e⟩:=ex;refine .inr (.inr ⟨V,a,b,Z,hb,λE H J M=>?_⟩);have e1:=one z q E H B D J M;have e2:=one E H z q J M B D;exact⟨λw=>s.mp (e.mp (e2 w)),λw=>e1 (e.mpr (s.mpr w))⟩
 refine .inl (.inr ⟨U,a,b,Z,hb,λz q B D=>?_⟩);by_cases w:Bt a b z
 .exact⟨λ_ O=>ex ⟨z,q,B,D,λ_=>O,λ_=>w⟩,λ_=>w⟩
 exact⟨λO=>UU O w,λO=>UU ⟨z,q,B,D,λw3=>UU w3 w,λw3=>UU w3 O⟩ ex⟩
theorem qV{p q:β}{x:Nat}(h:uk lb p x)(g:uk lb q x):p=q:=O2 λne=>by
 rcases h with h|⟨H,a,b,B,D,h⟩
 .rcases g with g|⟨E,c,d,z,hd,g⟩
  .rw[h]at g;exact ne (Option.some.inj g)
  have:=g x p h ne;by_cases w:Bt c d x
  .exact this.mp w w
  exact w (this.mpr w)
 rcases g with g|⟨E,c,d,z,hd,g⟩
 .have:=h x q g (Ne.symm ne);by_cases w:Bt a b x
  .exact this.mp w w
  exact w (this.mpr w)
 exact AX (Ne.symm (bC B H)) (Ne.symm (bC D H)) (Ne.symm (bC z E)) (Ne.symm (bC hd E)) (iC B z ne) (iC B hd ne) (iC D z ne) (iC D hd ne)
  (h c q z (Ne.symm ne)) (h d q hd (Ne.symm ne)) (g a p B ne) (g b p D ne)
theorem um{p q:β}{x:Nat}(h:uk lb p x)(g:lb x=Yl q):q=p:=qV (.inl g) h
theorem nQ{α γ:Type}{hs:List α}{L:List γ}(nd:hs.Nodup)(f:α->γ)(E:∀p∈hs,f p∈L)(inj:∀p∈hs,∀q∈hs,f p=f q->p=q):hs.length<=L.length/\(L.length=hs.length->∀t∈L,∃p∈hs,f p=t):=by
 have nm:(hs.map f).Nodup:=by
  rw[List.Nodup,PD];exact nd.imp_of_mem λH J n e=>n (inj _ H _ J e)
 have sub:∀x∈hs.map f,x∈L:=λx z=>by
  obtain⟨p,B,rfl⟩:=O4.mp z;exact E p B
 have l:=aC.bY nm sub;rw[O0]at l;refine⟨l,λe t D=>O2 λno=>?_⟩;have:=aC.bY (ys:=L.erase t) nm λx z=>(RH λe=>by
  obtain⟨p,B,e2⟩:=O4.mp z;exact no ⟨p,B,by rw[e2,e]⟩).mpr (sub x z)
 rw[O0,Qs D]at this;have:=Qm D;omega
theorem low{hs:List β}(H:Iw lb hs){S:List β}{C:List (Nat×Nat)}(vT:oX lb S C):cs lb hs<=S.length+2*C.length:=by
 obtain⟨nd,hm⟩:=H
 let L:List (β ⊕ Nat):=S.map .inl++C.flatMap λc=>[.inr c.1,.inr c.2]
 have lL:L.length=S.length+2*C.length:=by
  show(S.map Sum.inl++C.flatMap λ(c:Nat×Nat)=>[(Sum.inr c.1:β ⊕ Nat),.inr c.2]).length=_;rw[O7,O0];congr 1;clear vT
  induction C with
  |nil=>rfl
  |cons c C ih=>rw[TQ,O7,ih,QK];simp;omega
 let As (p:β) (t:β ⊕ Nat):Prop:=t=.inl p\/∃x,t=.inr x/\uk lb p x
 have ex:∀p∈hs,∃t∈L,As p t:=λp E=>by
  have hu:=(hm p).mp E;rcases vT p hu.1 with h|⟨c,J,h⟩
  .exact⟨.inl p,Px _ (O4.mpr ⟨p,h,rfl⟩),.inl rfl⟩
  rcases DY hu h with h|h
  .exact⟨.inr c.1,Pp _ (Q3.mpr ⟨c,J,Pc⟩),.inr ⟨_,rfl,h⟩⟩
  exact⟨.inr c.2,Pp _ (Q3.mpr ⟨c,J,Pj _ Pc⟩),.inr ⟨_,rfl,h⟩⟩
 let f (p:β):β ⊕ Nat:=if h:∃t∈L,As p t then choose h else .inl p
 have hf:∀p∈hs,f p∈L/\As p (f p):=λp E=>by
  have e:f p=choose (ex p E):=XU (ex p E);rw[e];exact choose_spec (ex p E)
 have inj:∀p∈hs,∀q∈hs,f p=f q->p=q:=λp E q hq e=>by
  have B:=(hf p E).2;have D:=(hf q hq).2;rw[<-e]at D;rcases B with B|⟨x,B,n1⟩
  .rcases D with D|⟨y,D,n2⟩
   .rw[B]at D;injection D
   rw[B]at D;cases D
  rcases D with D|⟨y,D,n2⟩
  .rw[B]at D;cases D
  rw[B]at D;injection D with D;subst D;exact qV n1 n2
 obtain⟨le,M⟩:=nQ nd f (λp E=>(hf p E).1) inj;unfold cs
 split
 .rename_i M5;obtain⟨odd,_,sup⟩:=M5;refine O2 λno=>?_;have M:=M (by omega);cases S with
  |nil=>rw[RS]at lL;omega
  |cons s S =>
   have Z:∀y∈s::S,y∈hs/\f y=.inl y:=λy hy=>by
    obtain⟨p,E,e⟩:=M (.inl y) (Px _ (O4.mpr ⟨y,hy,rfl⟩));have B:=(hf p E).2;rw[e]at B;rcases B with B|⟨x,B,_⟩
    .injection B with B;subst B;exact⟨E,e⟩
    cases B
   obtain⟨sh,fs⟩:=Z s Pc;obtain⟨y,ys,oy,ay,nay⟩:=sup s sh;have yn:∀p∈hs,p≠y:=λp E e=>((hm p).mp E).2 (by rw[e];exact ay);have J0:∀c∈C,∀x,x=c.1\/x=c.2->∃p,p∈hs/\p≠s/\p≠y/\uk lb p x:=λc J x hx=>by
    obtain⟨p,E,e⟩:=M (.inr x) (Pp _ (Q3.mpr ⟨c,J,by rcases hx with rfl|rfl <;> simp⟩));have B:=(hf p E).2;refine⟨p,E,λz=>?_,yn p E,?_⟩
    .rw[z,fs]at e;cases e
    rw[e]at B;rcases B with B|⟨x',B,n⟩
    .cases B
    injection B with B;subst B;exact n
   rcases vT y oy with h|⟨c,J,h⟩
   .exact yn y (Z y h).1 rfl
   obtain⟨p1,J1,M6,U,n1⟩:=J0 c J c.1 (.inl rfl);obtain⟨p2,DZ,M7,V,n2⟩:=J0 c J c.2 (.inr rfl);have l1:lb c.1≠Yl y:=λe=>U (um n1 e).symm;have l2:lb c.2≠Yl y:=λe=>V (um n2 e).symm;obtain⟨a,b,ha,hb,sp⟩:=((h.resolve_left l1).resolve_left l2).ex l1 l2;have one:∀z q z' q',lb z=Yl q->q≠y->q≠s->lb z'=Yl q'->q'≠y->q'≠s->(Bt a b z->Bt a b z'):=λz q z' q' B m1 m2 D m3 m4 i=>O2 λj =>
    nay ⟨z,z',q,q',bg.mpr ⟨B,m2⟩,bg.mpr ⟨D,m4⟩,m1,m3,.mk' (λe=>m1 (by have:=(bg.mp e).1;rw[B]at this;exact Option.some.inj this)) (λe=>m3 (by have:=(bg.mp e).1;rw[D]at this;exact Option.some.inj this)) (bg.mpr ⟨ha,ys⟩) (bg.mpr ⟨hb,ys⟩) ⟨λ_=>j,λ_=>i⟩⟩
   have bad:∀x p u,lb x≠Yl y->p≠s->p≠y->uk lb p x->lb u=Yl p->(Bt a b u↔¬Bt a b x)->False:=λx p u lx ps O n hu e=>by
    have side:∀c,lb c=Yl p->(Bt a b c↔¬Bt a b x):=λc J=>⟨λw=>e.mp (one c p u p J O ps hu O ps w),λw=>one u p c p hu O ps J O ps (e.mpr w)⟩
    rcases n with n|⟨nx,c,d,J,hd,n⟩
    .have:=side x n;by_cases w:Bt a b x
     .exact this.mp w w
     exact w (this.mpr w)
    exact AX (Ne.symm (bC ha lx)) (Ne.symm (bC hb lx)) (Ne.symm (bC J nx)) (Ne.symm (bC hd nx)) (iC ha J (Ne.symm O)) (iC ha hd (Ne.symm O)) (iC hb J (Ne.symm O)) (iC hb hd (Ne.symm O))
     (side c J) (side d hd) (n a y ha (Ne.symm O)) (n b y hb (Ne.symm O))
   obtain⟨u1,J2⟩:=((hm p1).mp J1).1;obtain⟨u2,uo⟩:=((hm p2).mp DZ).1;have zi:=one u1 p1 u2 p2 J2 U M6 uo V M7;have s21:=one u2 p2 u1 p1 uo V M7 J2 U M6;by_cases e:Bt a b u1↔¬Bt a b c.1
   .exact bad c.1 p1 u1 l1 M6 U n1 J2 e
   refine bad c.2 p2 u2 l2 M7 V n2 uo ?_;by_cases w1:Bt a b u1
   .have w2:=zi w1;have w3:Bt a b c.1:=O2 λz=>e ⟨λ_=>z,λ_=>w1⟩;exact⟨λ_=>sp.mp w3,λ_=>w2⟩
   have w2:¬Bt a b u2:=λz=>w1 (s21 z);have w3:¬Bt a b c.1:=λz=>e ⟨λz2=>UU z2 w1,λz2=>UU z z2⟩;exact⟨λz=>UU z w2,λz=>UU (O2 λq=>w3 (sp.mpr q)) z⟩
 omega
theorem gD{l:List Nat}{i:Nat}(h:i<l.length):l.getD i 0=l[i]:=by rw[Py,OZ h];rfl
theorem pick{u:Nat->Nat}{h k lo hi i j:Nat}(mono:∀i j,i<j->j<h->u i<u j)(B:i<h)(hj:j<h)(U:lo<u i)(V:u i<hi)(nj:¬(lo<u j/\u j<hi))(k1:1<=k)(k2:2*k<=h)(k3:h<=2*k+1):∃m,m<h-k/\((lo<u m/\u m<hi)↔¬(lo<u (m+k)/\u (m+k)<hi)):=O2 λno=>by
 have E:∀m,m+k<h->((lo<u m/\u m<hi)↔(lo<u (m+k)/\u (m+k)<hi)):=λm hm=>O2 λz=>no ⟨m,by omega,by
  by_cases w:lo<u m/\u m<hi
  .exact⟨λ_ D=>z ⟨λ_=>D,λ_=>w⟩,λ_=>w⟩
  exact⟨λD=>UU D w,λD=>UU ⟨λJ=>UU J w,λJ=>UU J D⟩ z⟩⟩
 obtain⟨s,⟨sh,H,Z⟩,sm⟩:=aC.r9 (P:=λx=>x<h/\lo<u x/\u x<hi) i ⟨B,U,V⟩;obtain⟨e,⟨eh,e1,e2⟩,em⟩:=aC.vV (P:=λx=>x<h/\lo<u x/\u x<hi) (N:=h) (λx hx=>by omega) (x:=i) ⟨B,U,V⟩;have se:=sm e ⟨eh,e1,e2⟩;have M:∀m,s<=m->m<=e->lo<u m/\u m<hi:=λm h1 h2=>by
  refine⟨?_,?_⟩
  .by_cases z:s=m
   .rw[<-z];exact H
   exact S0 H (mono s m (by omega) (by omega))
  by_cases z:m=e
  .rw[z];exact e2
  exact S0 (mono m e (by omega) (by omega)) e2
 by_cases c1:e-s<k
 .by_cases O:s+k<h
  .have q:=em (s+k) ⟨O,(E s O).mp ⟨H,Z⟩⟩;omega
  have q:=(E (s-k) (by omega)).mpr (by rw[show s-k+k=s by omega];exact⟨H,Z⟩);have:=sm (s-k) ⟨by omega,q⟩;omega
 by_cases O:0<s
 .have q:=(E (s-1) (by omega)).mpr (M _ (by omega) (by omega));have:=sm (s-1) ⟨by omega,q⟩;omega
 have je:e<j:=RP λz=>nj (M j (by omega) z);have q:=(E (e+1-k) (by omega)).mp (M _ (by omega) (by omega));rw[show e+1-k+k=e+1 by omega]at q;have:=em (e+1) ⟨by omega,q⟩;omega
theorem xU{a b x:Nat}:Bt a b x↔(min a b<x/\x<max a b):=by unfold Bt;omega
theorem qW(nc:NC lb){N:Nat}(hN:∀y,lb y≠none->y<N){v:β}(hv:Alt lb v):∃a b,lb a=Yl v/\lb b=Yl v/\(∃p,GQ lb p/\p≠v/\∀r,lb r=Yl p->Bt a b r)/\∃p,GQ lb p/\p≠v/\∀r,lb r=Yl p->¬Bt a b r:=by
 obtain⟨x,y,p,q,M,O,np,U,t⟩:=hv;have nl:∀{z s},lb z=Yl s->s≠v->lb z≠Yl v:=λh n e=>n (by rw[h]at e;exact Option.some.inj e);obtain⟨a,b,H,V,s⟩:=t.ex (nl M np) (nl O U);have side:∀z s,lb z=Yl s->s≠v->∃p,GQ lb p/\p≠v/\∀r,lb r=Yl p->(Bt a b z↔Bt a b r):=λz s hz ns=>by
  obtain⟨r,p,B,pv,nt,hu⟩:=DI nc hN _ v s z (O5 _) ⟨a,H⟩ hz ns;refine⟨p,hu,pv,λr' E=>O2 λno=>?_⟩;have t1:Tc lb v z r':=.mk' (nl hz ns) (nl E pv) H V (by
   by_cases w:Bt a b z
   .exact⟨λ_ D=>no ⟨λ_=>D,λ_=>w⟩,λ_=>w⟩
   exact⟨λD=>UU D w,λD=>UU ⟨λJ=>UU J w,λJ=>UU J D⟩ no⟩)
  rcases t1.or (nl hz ns) (nl B pv) (nl E pv)with w|w
  .exact nt w
  exact nc.tc B E pv w
 obtain⟨Z,u1,v1,w1⟩:=side x p M np;obtain⟨p2,u2,v2,D⟩:=side y q O U;refine⟨a,b,H,V,?_⟩;by_cases e:Bt a b x
 .exact⟨⟨Z,u1,v1,λr B=>(w1 r B).mp e⟩,⟨p2,u2,v2,λr B z=>s.mp e ((D r B).mpr z)⟩⟩
 exact⟨⟨p2,u2,v2,λr B=>(D r B).mp (O2 λz=>e (s.mpr z))⟩,⟨Z,u1,v1,λr B z=>e ((w1 r B).mpr z)⟩⟩
theorem M8{N:Nat}(O:∀y,lb y≠none->y<N){hs:List β}(H:Iw lb hs):∃R:List Nat,R.Pairwise (· < ·)/\R.length=hs.length/\(∀y∈R,∃p∈hs,lb y=Yl p)/\∀p∈hs,∃y∈R,lb y=Yl p:=by
 let B (y:Nat):Prop:=∃p∈hs,∃h:Fi lb p,y=choose h
 have J:∀y∈(Pu N).filter (λy=>decide (B y)),∃p∈hs,lb y=Yl p/\∃h:Fi lb p,y=choose h:=λy E=>by
  obtain⟨p,D,h,e⟩:=U0 (O9.mp E).2;exact⟨p,D,by rw[e];exact choose_spec h,h,e⟩
 have M:∀p∈hs,∃y∈(Pu N).filter (λy=>decide (B y)),lb y=Yl p:=λp D=>by
  have h:=((H.mem p).mp D).1;exact⟨choose h,O9.mpr ⟨Pm.mpr (O _ (by rw[choose_spec h];simp)),UX ⟨p,D,h,rfl⟩⟩,choose_spec h⟩
 have asc:((Pu N).filter λy=>decide (B y)).Pairwise (· < ·):=QA.sublist PY;refine⟨(Pu N).filter λy=>decide (B y),asc,Sr ?_ ?_,λy E=>let⟨p,D,e,_⟩:=J y E;⟨p,D,e⟩,M⟩
 .have:=(nQ (hs:=(Pu N).filter λy=>decide (B y)) (L:=hs.map some) (asc.imp λh=>PR h) lb (λy E=>let⟨p,D,e,_⟩:=J y E;O4.mpr ⟨p,D,e.symm⟩) (λy E z hz e=>by
   obtain⟨p,D,e1,Z,U⟩:=J y E;obtain⟨q,hq,e2,h2,V⟩:=J z hz;rw[e1,e2]at e;obtain rfl:=Option.some.inj e;rw[U,V])).1
  rw[O0]at this;exact this
 have:=(nQ (hs:=hs) (L:=((Pu N).filter λy=>decide (B y)).map lb) H.nd some (λp D=>let⟨y,E,e⟩:=M p D;O4.mpr ⟨y,E,e⟩) (λp _ q _ e=>Option.some.inj e)).1;rw[O0]at this;exact this
def M9(lb:Nat->Option β)(C:List (Nat×Nat)):Prop:=∀c∈C,∃p q,p≠q/\lb c.1=Yl p/\lb c.2=Yl q
theorem vW(nc:NC lb){N:Nat}(Z:∀y,lb y≠none->y<N){hs:List β}(H:Iw lb hs)(h2:2<=hs.length):∃C,oX lb [] C/\C.length=hs.length-hs.length/2/\M9 lb C:=by
 obtain⟨R,asc,len,r1,r2⟩:=M8 Z H;have mono:∀i j,i<j->j<hs.length->R.getD i 0<R.getD j 0:=λi j E J=>by
  rw[gD (by omega),gD (by omega)];exact PC.mp asc i j (by omega) (by omega) E
 have B:∀i,i<hs.length->∃p∈hs,lb (R.getD i 0)=Yl p:=λi hi=>by
  rw[gD (by omega)];exact r1 _ (PV _)
 have ix:∀p∈hs,∃i,i<hs.length/\lb (R.getD i 0)=Yl p:=λp D=>by
  obtain⟨y,M,e⟩:=r2 p D;obtain⟨i,hi,e2⟩:=PB M;exact⟨i,by omega,by rw[gD hi,e2];exact e⟩
 refine⟨(Pu (hs.length-hs.length/2)).map λi=>(R.getD i 0,R.getD (i+hs.length/2) 0),λp D=>.inr ?_,by rw[O0,PL],λc hc=>?_⟩
 .have O:∀i,i<hs.length-hs.length/2->xT lb p (R.getD i 0) (R.getD (i+hs.length/2) 0)->∃c∈(Pu (hs.length-hs.length/2)).map λi=>(R.getD i 0,R.getD (i+hs.length/2) 0),xT lb p c.1 c.2:=λi hi t=>⟨_,O4.mpr ⟨i,Pm.mpr hi,rfl⟩,t⟩
  by_cases U:Alt lb p
  .obtain⟨a,b,ha,hb,⟨p1,u1,v1,w1⟩,⟨p2,u2,v2,w2⟩⟩:=qW nc Z U;obtain⟨i,hi,e1⟩:=ix p1 ((H.mem _).mpr u1);obtain⟨j,J,e2⟩:=ix p2 ((H.mem _).mpr u2);have b1:=xU.mp (w1 _ e1);obtain⟨m,hm,iff⟩:=pick (u:=λi=>R.getD i 0) (k:=hs.length/2) mono hi J b1.1 b1.2 (λz=>w2 _ e2 (xU.mpr z)) (by omega) (by omega) (by omega);refine O m hm (.inr (.inr ?_));have nl:∀i,i<hs.length->lb (R.getD i 0)≠Yl p:=λi hi e=>by
    obtain⟨q,hq,e'⟩:=B i hi;rw[e']at e;obtain rfl:=Option.some.inj e;exact((H.mem _).mp hq).2 U
   exact .mk' (nl m (by omega)) (nl _ (by omega)) ha hb (by rw[xU,xU];exact iff)
  obtain⟨i,hi,e⟩:=ix p ((H.mem _).mpr ⟨D,U⟩);by_cases c:i<hs.length-hs.length/2
  .exact O i c (.inl e)
  refine O (i-hs.length/2) (by omega) (.inr (.inl ?_));rw[show i-hs.length/2+hs.length/2=i by omega];exact e
 obtain⟨i,hi,rfl⟩:=O4.mp hc;have hi:=Pm.mp hi;obtain⟨p,D,e1⟩:=B i (by omega);obtain⟨q,hq,e2⟩:=B (i+hs.length/2) (by omega);refine⟨p,q,λz=>?_,e1,e2⟩;subst z;have l1:=(O4.mpr ⟨p,D,rfl⟩:Yl p∈hs.map some)
 have lt:=mono i (i+hs.length/2) (by omega) (by omega);have nd:(R.map lb).Nodup:=by
  have h0:=(nQ (hs:=hs) (L:=R.map lb) H.nd some (λp D=>let⟨y,M,e⟩:=r2 p D;O4.mpr ⟨y,M,e⟩) (λp _ q _ e=>Option.some.inj e)).2 (by rw[O0,len]);refine O2 λnn=>?_;have:=aC.bY (xs:=hs.map some) (ys:=(R.map lb).eraseIdx i) ?_ ?_
  .rw[O0,Sj,O0,len]at this
   split at this <;> omega
  .rw[List.Nodup,PD];exact H.nd.imp λn e=>n (Option.some.inj e)
  intro x hx;obtain⟨p',V,rfl⟩:=O4.mp hx;obtain⟨j,J,e⟩:=ix p' V;by_cases ji:j=i
  .subst ji;rw[e1]at e;obtain rfl:=Option.some.inj e;refine Sg.mpr ⟨j+hs.length/2,by rw[O0];omega,by omega,?_⟩;rw[Qw,<-gD (by omega)];exact e2
  refine Sg.mpr ⟨j,by rw[O0];omega,ji,?_⟩;rw[Qw,<-gD (by omega)];exact e
 have:=PC.mp nd i (i+hs.length/2) (by rw[O0];omega) (by rw[O0];omega) (by omega);rw[Qw,Qw,<-gD (by omega),<-gD (by omega),e1,e2]at this;exact this rfl
theorem Tc.del{v e:β}{x y:Nat}(h:Tc (del lb e) v x y):Tc lb v x y:=by
 obtain⟨a,b,z,B,D,E⟩:=h;exact⟨a,b,(bg.mp z).1,(bg.mp B).1,D,E⟩
theorem Alt.del{v e:β}(h:Alt (del lb e) v):Alt lb v:=by
 obtain⟨x,y,p,q,z,B,np,D,t⟩:=h;exact⟨x,y,p,q,(bg.mp z).1,(bg.mp B).1,np,D,t.del⟩
theorem upp(nc:NC lb){N:Nat}(Z:∀y,lb y≠none->y<N){hs:List β}(H:Iw lb hs):∃S C,oX lb S C/\S.length+2*C.length<=cs lb hs/\(∀s∈S,Fi lb s)/\M9 lb C:=by
 by_cases l0:hs.length<2
 .refine⟨hs,[],λp hp=>.inl ((H.mem p).mpr ⟨hp,λal=>?_⟩),?_,λs hs=>((H.mem s).mp hs).1,λc D=>by cases D⟩
  .obtain⟨a,b,ha,hb,⟨p1,u1,v1,w1⟩,⟨p2,u2,v2,w2⟩⟩:=qW nc Z al;have e:p1=p2:=by
    have E:=(H.mem _).mpr u1;have J:=(H.mem _).mpr u2
    match hs,l0,E,J with
    |[z],_,E,J=>rw[O3.mp E,O3.mp J]
   subst e;obtain⟨r,hr⟩:=u1.1;exact w2 r hr (w1 r hr)
  unfold cs;rw[UO (by omega)];simp
 by_cases od:hs.length%2=1
 .by_cases M:∀e∈hs,Lz lb e
  .obtain⟨C,O,U,V⟩:=vW nc Z H (by omega);refine⟨[],C,O,?_,(λs hs=>by cases hs),V⟩;unfold cs;rw[UQ ⟨od,by omega,M⟩,U,RS];omega
  obtain⟨u,M⟩:=Ta.mp M;obtain⟨hu,nu⟩:=TR.mp M;have H':Iw (del lb u) (hs.erase u):=⟨H.nd.erase _,λp=>by
   rw[H.nd.mem_erase_iff,H.mem];constructor
   .rintro⟨n,⟨y,B⟩,na⟩;exact⟨⟨y,bg.mpr ⟨B,n⟩⟩,λz=>na z.del⟩
   rintro⟨⟨y,B⟩,na⟩;obtain⟨B,n⟩:=bg.mp B;exact⟨n,⟨y,B⟩,λz=>nu ⟨p,n,⟨y,B⟩,z,na⟩⟩⟩
  have l':(hs.erase u).length=hs.length-1:=Qs hu;obtain⟨C,O,U,V⟩:=vW (lb:=del lb u) (λa b c d p q n E J h3 h4=>nc a b c d p q n (bg.mp E).1 (bg.mp J).1 (bg.mp h3).1 (bg.mp h4).1) (N:=N) (λy B=>Z y λz=>B (by unfold del;rw[z];simp)) H' (by omega);refine⟨[u],C,λp hp=>?_,?_,λs hs=>?_,λc D=>?_⟩
  .by_cases e:p=u
   .exact .inl (by rw[e];exact O3.mpr rfl)
   obtain⟨y,B⟩:=hp;obtain⟨c,D,t⟩:=(O p ⟨y,bg.mpr ⟨B,e⟩⟩).resolve_left (by simp);exact .inr ⟨c,D,t.imp (λz=>(bg.mp z).1) λt=>t.imp (λz=>(bg.mp z).1) Tc.del⟩
  .unfold cs;rw[UO λz=>M (z.2.2 u),U,PM];omega
  .rw[O3.mp hs];exact((H.mem u).mp hu).1
  obtain⟨p,q,n,e1,e2⟩:=V c D;exact⟨p,q,n,(bg.mp e1).1,(bg.mp e2).1⟩
 obtain⟨C,O,U,V⟩:=vW nc Z H (by omega);refine⟨[],C,O,?_,(λs hs=>by cases hs),V⟩;unfold cs;rw[UO λz=>od z.1,U,RS];omega
end
end Hp
namespace Ad
open PySem PySem.Spec PyProof.Rows
section
variable {prog:U3}{w:U4}{A:Ve}{E:UP->UW->Prop}{s:UW}{R:Result->UW->Prop}
theorem vX(d:UR)(hd:(d==Vm)=false):Yi prog w (Builtin.«dict.values» ⟨[.ref d],[]⟩) (λ_ R s=>s.TypeIs (.ref d) "dict"/\R (.ok (.ret (.ref s.heap.objs.size))) { s with heap:=s.heap.push { cls:=.type "dict_values",data:=.fields #[.ref d] } }):=
 .of_wp λA R s ⟨z,h⟩=>by
  refine UM ?_;unfold Builtin.Dict.noArgs;refine UM (VI z ?_);show wpAny _ _ (pure d) _ _ s;refine US ?_;show wpAny _ _ (Builtin.Dict.showsAll d >>= _) _ _ s;unfold Builtin.Dict.showsAll;rw[UO (by rw[hd];exact Po)];exact UM (US (UM (U9 (US ⟨_,rfl,h⟩))))
def DE(h:Vd)(d:UR)(z:Array VP)(ep:Nat):Prop:=∃o,h.get? d=Yl o/\o.data=.dict z ep
end
end Ad
namespace L2
open PySem PySem.Spec PyProof.Rows Ad
section
variable {X:Cx}
theorem jW{α β:Type}{F:α->β->Prop}:∀{l:List α}{m:List β}{i:Nat}{a:α}{b:β},Paired F l m->l[i]?=Yl a->m[i]?=Yl b->F a b
 |_,_,0,_,_,.cons h _,e1,e2=>by cases e1;cases e2;exact h
 |_,_,i+1,_,_,.cons _ r,e1,e2=>jW r (i:=i) (by simpa using e1) (by simpa using e2)
end
open PySem.W
section
variable {X:Cx}{pins:List (UR×VE)}{σ:St}{H:Hp}{s:UW}{a:UR}{kvs:List (Key×V)}{k:Key}{u r:UP}{A:Ve}{E:UP->UW->Prop}
theorem BE{x:V}{Q:UP->UW->Prop}(I:Inv X pins σ H s)(e:H a=Yl (.dK kvs))(J:RelV (kV k) u)(M:RelV x r)(l:kvs.length<U2)
  (O:∀y w' s',bq kvs k=Yl y->Inv X pins σ H s'->RelV y w'->Q w' s')
  (U:∀s',bq kvs k=none->Inv X pins σ (upd H a (.dK (putK kvs k x))) s'->Q r s'):wpAny (model X.prog X.w) A (call (.builtin "dict.setdefault") [.ref a,u,r]) Q E s:=by
 obtain⟨z,hd,vs,B,dd⟩:=tP I.ba e;refine Wu Q7 dd.typeIs Sh (Se _ _ _) (kt_meets_setdefault (aX X.prog X.w) a (qB J) hd r)
  ⟨vs,dd,by rw[<-B.length];exact z,λw' hw=>?_,λZ h' D hs=>U _ ?_ ?_⟩
 .cases q:bq kvs k with
  |none=>have:=B.val k;rw[q,hw]at this;exact UU this (λz=>nomatch z)
  |some y=>have:=B.val k;rw[q,hw]at this;exact O y w' _ q (I.tok _) this
 .cases q:bq kvs k with
  |none=>rfl
  |some y=>have:=B.val k;rw[q,Z]at this;exact UU this (λz=>nomatch z)
 have he:∃q,h'.get? a=Yl q:=let⟨q,_,_,hq,_⟩:=D;⟨q,hq⟩
 have hl:(putK kvs k x).length<=sizeLine:=by have:=bS kvs k x;omega
 exact jg I (by rw[e];exact True.intro) hs he (Az hl hd (B.put k M) D)
end
def J3(E ty J:TE):TE:=λσ H Q=>E σ H λx D=>∃a,x=.ref a/\MF D a/\ty σ D λy M=>J σ M λz B=>∃kvs k,B a=Yl (.dK kvs)/\y=kV k/\kvs.length<U2 /\
 (∀v,bq kvs k=Yl v->Q v B)/\(bq kvs k=none->Q z (upd B a (.dK (putK kvs k z))))
section
variable {X:Cx}{o e f:Vc}{apos iw:V6}{td ty tx:TE}
theorem si(O:PE X o td)(U:PE X e ty)(V:PE X f tx)(m:M2 X o "setdefault" apos e f iw):PE X (.Call (.Attribute o "setdefault" apos) [e,f] [] iw) (J3 td ty tx):=by
 intro pins s σ H Q I h;refine XF m.base m.OX m.line Rt Q7 So (bI (O pins s σ H _ I h) λu Z B=>?_);obtain⟨x,H1,J,rx,a,ex,d,q1⟩:=B;subst ex;obtain rfl:u=Value.ref a:=rx;obtain⟨t1,t2,_⟩:=AF J d;refine⟨t1,t2,?_⟩;rw[m.trees];refine Calls.callWith_builtin rfl (Calls.evalArgs_plain (Calls.spliced_cons (bI (U pins Z σ H1 _ J q1) λiv s2 ⟨y,H2,I2,ry,q2⟩ =>
  Calls.spliced_cons (bI (V pins s2 σ H2 _ I2 q2) λfv s3 B=>Calls.spliced_nil ?_))))
 obtain⟨z,H3,I3,M,kvs,k,ea,ey,el,q3,q4⟩:=B;subst ey;exact BE I3 ea ry M el (λy w' s4 hy D E=>⟨y,H3,D,E,q3 y hy⟩) λs4 hn D=>⟨z,_,D,M,q4 hn⟩
end
section
variable {X:Cx}
theorem KV.Fq:∀{kvs:List (Key×V)}{vs:List (Key×UP)}{i:Nat}{a:Key×V}{b:Key×UP},KV kvs vs->kvs[i]?=Yl a->vs[i]?=Yl b->a.1=b.1/\RelV a.2 b.2:=by
 intro kvs vs i a b h e1 e2;unfold KV at h;exact jW (F:=λ(p:Key×V) (q:Key×UP)=>p.1=q.1/\RelV p.2 q.2) h e1 e2
theorem D0{P:U3}{w:U4}{k:Key}{v:UP}(h:(aX P w).is k v=true):RelV (kV k) v:=by
 cases k with
 |inl i=>exact Value.isInt_shape h
 |inr x=>exact Value.isStrOf_shape h
theorem sj(Z:X.calm=true):eI X (.type "list") (λxs H Q=>∃d kvs,xs=[.ref d]/\H d=Yl (.dK kvs)/\∀l,H l=none->Q (.ref l) (upd H l (.lst (kvs.map λJ=>kV J.1)))):=by
 intro pins s σ H xs us Q I r h;obtain⟨d,kvs,rfl,hd,q⟩:=h;obtain⟨u,rfl,ru⟩:=r.one;cases ru;obtain⟨z,lo,vs,D,dd⟩:=tP I.ba hd;obtain⟨ep,M⟩:=dd.dictAt;have hlen:kvs.length=vs.length:=D.length;refine kdl_call (kdl_dict (knd:=aX X.prog X.w) (kvs:=vs) (ep:=ep) lo) (I.ok.hd Z) M (by rw[<-hlen];exact z) λh' tk E c' hk O B=>?_;refine⟨.ref _,_,I.laid (a:=s.heap.objs.size) (o:=.lst (kvs.map λJ=>kV J.1)) (t':=tk) hk (O5 _) ⟨by rw[O0];exact z,E.toList,c',?_,by simpa using O⟩,rfl,q _ (I.ba.fresh (O5 _))⟩;refine fZ (by rw[O0,hlen];exact(by simpa using B.1.symm)) λi x v V e7=>?_;obtain⟨k,y,e8,U⟩:=B.2 i v (by simpa using e7);rw[O6]at V;obtain⟨J,e9,rfl⟩:=Ph.mp V;have:=(KV.Fq D e9 e8).1;rw[this];exact D0 U
end
section
variable {X:Cx}{pins:List (UR×VE)}{σ:St}{H:Hp}{s:UW}{a:UR}{u:HO}
theorem Inv.J4(I:Inv X pins σ H s){kvs:List (Key×V)}(e:H a=Yl (.dK kvs)):∃o,s.heap.get? a=Yl o/\Inv X pins σ (upd H a (.gv o (.dK kvs))) s:=by
 have E:Ga (H a):=by rw[e];exact True.intro
 obtain⟨z,lo,vs,D,o,J,ep,B,M⟩:=tP I.ba e;exact⟨o,B,I.write (x:=a) (e:=a) (t':=s.toks) E (.inl rfl) (λb q O z=>z) ⟨o,B⟩ ⟨B,z,lo,vs,D,o,J,ep,B,M⟩⟩
noncomputable def Hk(d:UR)(o:VE)(kvs:List (Key×V)):It :=
 ⟨λi H=>i<kvs.length/\H d=Yl (.gv o (.dK kvs)),λi H x z=>z=H/\(kvs.map (·.2))[i]?=Yl x,λi H=>kvs.length<=i/\H d=Yl (.gv o (.dK kvs))⟩
theorem zj{P:U3}{w:U4}{K:Pa}{tg:Vc}(d O:UR)(o:VE)(kvs:List (Key×V))(ep:Nat)(B:∃es,o.data=.dict es ep):Turn P w K tg (Hk d o kvs) [O] O (λi h=>i<=kvs.length/\h.IsValIter O d i kvs.length ep) where
 mem:=by simp
 obj:=λi h st b U=>by
  have e:b=O:=by simpa using U
  subst e;obtain⟨_,o,e,c,d⟩:=st;exact⟨o,e,λv z=>by rw[d]at z;cases z⟩
 keep:=λi h h' st k=>⟨st.1,st.2.at λo e=>k O (by simp) o e⟩
 item:=by
  intro X hP hw hK hc i pins s σ H E I hf st hg;subst hP hw hK;obtain⟨hi,hd⟩:=hg;obtain⟨ho,z,lo,vs,M,od,es,D,Z,h2,h3,h4⟩:=(show bh X.prog X.w H s.heap d (.gv o (.dK kvs))from I.ba d _ hd)
  obtain⟨f0,f1,f2,f3,f4,f5⟩:=hf O (by simp);have e1:od=o:=by rw[ho]at Z;exact(Option.some.inj Z).symm
  obtain⟨es0,B⟩:=B;have e2:D=ep:=by rw[e1,B]at h3;cases h3;rfl
  subst e2;have Iy:s.heap.DictAt (aX X.prog X.w) d vs D:=⟨od,es,Z,h2,h3,h4⟩
  have hl:kvs.length=vs.length:=M.length;have hx:vs[i]?=Yl (vs[i]'(by omega)):=OZ (by omega);have hx':kvs[i]?=Yl (kvs[i]'hi):=OZ hi;have J:=st.2;rw[hl]at J;refine wpAny_pyNext_values_item (k:=(vs[i]'(by omega)).1) (v:=(vs[i]'(by omega)).2) J Iy hx λh' Na sb=>?_;have I1:Inv X pins σ H { s with heap:=h' }:=I.turned (t':=s.toks) (λb o U e=>(sb.2 b U).trans e) f0 f1 f3 f4 f5;rw[<-hl]at Na;obtain⟨o',e,c,d'⟩:=id Na;exact⟨_,rfl,oq (s:={ s with heap:=h' }) e c d' (by decide) ⟨(kvs[i]'hi).2,H,I1,(KV.Fq M hx' hx).2,⟨rfl,by rw[O6,hx'];rfl⟩,⟨hi,Na⟩,λb U=>(hf b U).1⟩⟩
 done:=by
  intro X hP hw hK hc i pins s σ H E I hf st hg;subst hP hw hK;obtain⟨hi,hd⟩:=hg;obtain⟨ho,z,lo,vs,M,od,es,D,Z,h2,h3,h4⟩:=(show bh X.prog X.w H s.heap d (.gv o (.dK kvs))from I.ba d _ hd)
  obtain⟨f0,f1,f2,f3,f4,f5⟩:=hf O (by simp);have e1:od=o:=by rw[ho]at Z;exact(Option.some.inj Z).symm
  obtain⟨es0,B⟩:=B;have e2:D=ep:=by rw[e1,B]at h3;cases h3;rfl
  subst e2;have Iy:s.heap.DictAt (aX X.prog X.w) d vs D:=⟨od,es,Z,h2,h3,h4⟩
  have hl:kvs.length=vs.length:=M.length;have J:=st.2;have e3:i=vs.length:=by have:=st.1;omega
  rw[hl,e3]at J;exact wpAny_pyNext_values_end (I.ok.hd hc) J Iy (by simp) λh' eb=>⟨rfl,I.turned (t':=s.toks) (λb o U e=>eb b o U e) f0 f1 f3 f4 f5⟩
 self:=λ_ _ _ _ _ st h=>wpAny_pyIter_valiter st.2 h
end
section
variable {X:Cx}
noncomputable def J5(to:TE):TI:=λσ H R=>to σ H λv z=>∃d kvs,v=.ref d/\z d=Yl (.dK kvs)/\∀o,R (Hk d o kvs) (upd z d (.gv o (.dK kvs)))
theorem D1{o tg:Vc}{to:TE}{pos' ap:V6}(ho:PE X o to)(D:VY o "values" X.env (eval o X.env)=eval o X.env:=by rfl)(E:(ap.endLine==pos'.line)=true:=by rfl) :
  PI X tg (.Call (.Attribute o "values" ap) [] [] pos') (J5 to):=by
 intro pins s σ H R I h;refine WX D E (bI (ho pins s σ H _ I h) λv B zq=>?_);obtain⟨x,H1,M,r1,d,kvs,ex,hd,q⟩:=zq;subst ex;obtain⟨O,h2⟩:=vG (T:="dict") M r1 (.inr (.inr (.inl ⟨rfl,.inl ⟨kvs,hd⟩⟩)));cases(show v=Value.ref d from r1);obtain⟨ob,U,I2⟩:=M.J4 hd;obtain⟨z,lo,vs,V,dd⟩:=tP M.ba hd;obtain⟨J,es,ep,Z,g2,g3,g4⟩:=id dd;have e1:J=ob:=by rw[U]at Z;exact(Option.some.inj Z).symm
 subst e1;have Iy:B.heap.DictAt (aX X.prog X.w) d vs ep:=⟨J,es,Z,g2,g3,g4⟩
 have hl:kvs.length=vs.length:=V.length;refine⟨"dict","dict.values",Rt,SI,PySem.F.type_dict_values,O,h2,Calls.callWith_builtin rfl (PySem.evalArgs_none ?_)⟩;refine Wu SI O PySem.F.entry_dict_values (PySem.F.args_dict_values_1 _) (Ad.vX d lo) ⟨O,?_⟩;have hv:(B.heap.push { cls:=.type "dict_values",data:=.fields #[.ref d] }).IsValuesView B.heap.objs.size d:=⟨_,Pn _ rfl,rfl,rfl⟩
 refine wpAny_pyIter_values (s:={ B with heap:=B.heap.push { cls:=.type "dict_values",data:=.fields #[.ref d] } }) hv (Iy.push _) ?_;have I3:Inv X pins σ (upd H1 d (.gv J (.dK kvs))) { B with heap:=B.heap.push { cls:=.type "dict_values",data:=.fields #[.ref d] } }:=I2.kept (t':=B.toks) λb o e=>O8 _ e;refine⟨_,[_],_,_,_,rfl,I3.kept (t':=B.toks) λb o e=>O8 _ e,zj d _ J kvs ep ⟨es,g3⟩,⟨PQ _,?_⟩,λb hb=>?_,q J⟩
 .rw[hl];exact⟨_,Pn _ rfl,rfl,rfl⟩
 have e:=O3.mp hb;subst e;exact I3.l9 (O5 _) (I3.ba.fresh (O5 _))
theorem zk{d:UR}{o:VE}{kvs:List (Key×V)}{g:TG}{J:TT}{M:TE}{D:UR}{Q:VK}{z:St}{H₀:Hp}(Pv:Nat->St->Hp->Prop)(Z:Pv 0 z H₀)(hl:∀i σ H,i<=kvs.length->Pv i σ H->H d=Yl (.gv o (.dK kvs)))
  (hs:∀i x σ H,(kvs.map (·.2))[i]?=Yl x->Pv i σ H->g x σ H λB H3=>J B H3 λb O=>if b=true then M B O λv U=>∃ys,U D=Yl (.lst ys)/\ys.length<U2/\Pv (i+1) B (upd U D (.lst (ys++[v])))else Pv (i+1) B O)
  (hd:∀σ H,Pv kvs.length σ H->Q (.ref D) H):kC (Hk d o kvs) g J M D Q z H₀:=by
 refine⟨λi m σ H=>m=kvs.length-i/\i<=kvs.length/\Pv i σ H,⟨kvs.length,by simp,PQ _,Z⟩,?_⟩;rintro i m σ H ⟨rfl,hi,p⟩;have q:=hl i σ H hi p;by_cases E:i<kvs.length
 .refine .inr ⟨⟨E,q⟩,Pv (i+1),λσ' H' p'=>⟨kvs.length-(i+1),by omega,rfl,E,p'⟩,λx H' y=>?_⟩;obtain⟨e,y⟩:=y;subst e;exact hs i x σ _ y p
 have e:i=kvs.length:=by omega
 subst e;exact .inl ⟨⟨O5 _,q⟩,hd σ H p⟩
end
end L2
namespace Ad
open PySem PySem.Spec PyProof.Rows
section
variable {prog:U3}{w:U4}{K:Type}[DecidableEq K]{knd:HeapKind prog w K}{A:Ve}{E:UP->UW->Prop}{s:UW}
theorem D3{d a:UR}{xs:List (K×UR×UP)}{k:K}{x:UP}{Q:UP->UW->Prop}(hu:knd.room A)(B:knd.is s.heap k a)(hm:s.heap.DictOfH knd d xs)
  (h1:∀p,atKey xs k=Yl p->Q p.2 { s with toks:=s.toks+knd.draws k })
  (h2:atKey xs k=none->∀h',h'.DictOfH knd d (Xz xs k a x)->Heap.SameBut d s.heap h'->Q x { s with heap:=h',toks:=s.toks+knd.draws k })
  (hsz:xs.length<=U2):wpAny (model prog w) A (Xj d (.ref a) x) Q E s:=by
 obtain⟨o,es,ep,J,hc,hd,V,M,Z⟩:=hm;unfold Xj
 try with_reducible refine Vk ?_
 refine UM (knd.pyHash hu B (UM (Xr (s:={ s with toks:=s.toks+knd.draws k }) hu B J hd V M Z ?_ ?_)))
 .intro O;have D:=atKey_none_of_get O;have U:=not_mem_keys_of_get O;refine UM (VR (UM (Xl (hz:=by have e:=Xc V;omega) (s:={ s with toks:=s.toks+knd.draws k }) J hd (US (h2 D _ ⟨_,_,ep+1,QC _ J (Obj.isFreed_of_dict (Obj.data_mapDictKeys hd _)),hc.mapDictKeys _,Obj.data_mapDictKeys hd _,?_,?_,?_⟩ (Heap.SameBut.update ..))))))
  .rw[XR D];simp[V,WY]
  .rw[XR D];intro y H;rcases Pl.mp H with H|H
   .exact knd.keeps (M y H) J hd (Heap.SameBut.update ..)
   rw[O3.mp H];exact knd.keeps B J hd (Heap.SameBut.update ..)
  rw[XR D,Pb,QF];refine⟨Z,by simp,λy H z hz e=>U ?_⟩;rw[e,O3.mp hz]at H;exact H
 intro j p hj;refine UM (Vp (s:={ s with toks:=s.toks+knd.draws k }) J hd ?_);have e:=Ya V j;rw[hj]at e;rw[e];exact UM (VR (US (h1 p (atKey_of_get Z hj))))
theorem pY(d a:UR)(hd:(d==Vm)=false)(x:UP):Yi prog w (Builtin.«dict.setdefault» ⟨[.ref d,.ref a,x],[]⟩) (λA R s=>knd.room A.in1/\∃k xs,knd.is s.heap k a/\s.heap.DictOfH knd d xs/\xs.length<=U2 /\
  (∀p,atKey xs k=Yl p->R (.ok (.ret p.2)) { s with toks:=s.toks+knd.draws k })/\(atKey xs k=none->∀h',h'.DictOfH knd d (Xz xs k a x)->Heap.SameBut d s.heap h'->R (.ok (.ret x)) { s with heap:=h',toks:=s.toks+knd.draws k })):=
 .of_wp λA R s H=>by
  obtain⟨J,k,xs,z,E,hz,M,O⟩:=H;unfold Builtin.«dict.setdefault»;refine UM ?_;unfold Builtin.Dict.keyAndDefault;refine UM (VI E.typeIs ?_);show wpAny _ _ (pure (d,Value.ref a,Yl x)) _ _ s;refine US ?_;show wpAny _ _ (if(d==Vm)=true then _ else(Xj d (.ref a) x >>= _)) _ _ s;rw[UO (by rw[hd];decide)];exact UM (D3 J z E (λp U=>US ⟨_,rfl,M p U⟩) (λV h' B D=>US ⟨_,rfl,O V h' B D⟩) hz)
end
section
variable {prog:U3}{w:U4}{A:Ve}{E:UP->UW->Prop}{s:UW}
theorem zm(d:UR)(hd:(d==Vm)=false):Yi prog w (Builtin.«dict.items» ⟨[.ref d],[]⟩) (λ_ R s=>s.TypeIs (.ref d) "dict"/\R (.ok (.ret (.ref s.heap.objs.size))) { s with heap:=s.heap.push { cls:=.type "dict_items",data:=.fields #[.ref d] } }):=
 .of_wp λA R s ⟨z,h⟩=>by
  unfold Builtin.«dict.items»;refine UM ?_;unfold Builtin.Dict.noArgs;refine UM (VI z ?_);show wpAny _ _ (pure d) _ _ s;refine US ?_;show wpAny _ _ (Builtin.Dict.showsAll d >>= _) _ _ s;unfold Builtin.Dict.showsAll;rw[UO (by rw[hd];exact Po)];exact UM (US (UM (U9 (US ⟨_,rfl,h⟩))))
theorem BF{v d:UR}{M:Array VP}{ep:Nat}{Q:UP->UW->Prop}(D:s.heap.IsItemsView v d)(U:DE s.heap d M ep)
  (V:Q (.ref s.heap.objs.size) { s with heap:=s.heap.push { cls:=.type "dict_itemiterator",data:=.fields #[.none,.bool false,.ref d,.int 0 0,.int M.size 0,.int ep 0,.none,.none] } }):wpAny (model prog w) A (pyIter (.ref v)) Q E s:=by
 obtain⟨ov,H,Z,J⟩:=id D;obtain⟨o,O,z⟩:=id U;refine Wa D.typeIs F.slot_dict_items_iter (U8 F.slot_dict_items_iter D.typeIs F.entry_dict_items_iter ?_ (F.args_dict_items_iter_1 _));unfold Builtin.«dict_items.__iter__»;refine UM (US (UM ?_));unfold Builtin.Dict_items.dictOf;refine UM (Vf H J (x:=.ref d) rfl (US (UM ?_)));unfold Builtin.Dict_items.newIterator;refine UM (Vp O z (UM (VU O z ?_)));have B:Builtin.Dict_items.ownsTuple "dict_itemiterator" = true:=by decide
 simp only[B,Wm];refine U9 (US ⟨_,rfl,"dict_itemiterator",_,⟨_,Pn _ rfl,rfl⟩,F.slot_dict_itemiterator_next.lookup,?_⟩) (by simp only[sizeOk,Builtin.Dict_items.ownedTupleFields,Pe,O7,QK,RS,Vo];omega);simpa[rawInt,Builtin.Dict_items.ownedTupleFields]using V
theorem BG{Z d:UR}{i ep:Nat}{z:Array VP}{ok ov:UP}{Q:Option UP->UW->Prop}(hit:VX s.heap Z d i z.size ep ok ov)(hm:DE s.heap d z ep)(A3:i<z.size)
  (hQ:∀h',Xt h' Z d (i+1) z.size ep z[i].key z[i].val s.heap.objs.size->h'.get? s.heap.objs.size=Yl { cls:=.type "tuple",data:=.seq #[z[i].key,z[i].val] }->h'.objs.size=s.heap.objs.size+1 ->
   (∀b o,b≠Z->s.heap.get? b=Yl o->h'.get? b=Yl o)->Q (Yl (.ref s.heap.objs.size)) { s with heap:=h' }):wpAny (model prog w) A (pyNext (.ref Z)) Q E s:=by
 obtain⟨hp,g,dr,tk,os⟩:=s;obtain⟨od,hod,hdd⟩:=id hm;have hT:Shared.TypeIs ⟨hp,g,dr,tk,os⟩ (.ref Z) "dict_itemiterator":=⟨_,hit,rfl⟩
 unfold pyNext;refine UM (VC (wpAny_callSpecial?_slot (name:=Str.ofString "__next__") hT F.slot_dict_itemiterator_next (U8 F.slot_dict_itemiterator_next hT F.entry_dict_itemiterator_next ?_ (F.args_dict_itemiterator_next_1 _))));refine UM (US (UM (UM ?_)))
 (first|refine UM (VB hT (US ?_))|refine UM (VJ hT (US ?_)));refine UM (WG hit rfl ?_)
 have Nb:Builtin.Dict_items.ownsTuple "dict_itemiterator" = true:=by decide
 simp only[Nb,Wm];show wpAny _ _ (if(Value.ref d==Value.none)=true then _ else _) _ _ _;rw[UO (show¬((Value.ref d==Value.none)=true)from Po)];refine UM (US (UM (Vp hod hdd ?_)));rw[UO (by simp)];refine UM (US (UM (VU hod hdd ?_)));rw[UO (by simp)];refine US ?_;simp only[show¬((i:Int)<0)from by omega,Vq,Qb,Rk A3];refine UM ?_
 (first|refine UM (VB hT (US ?_))|refine UM (VJ hT (US ?_)));refine UM (Wc hT ?_)
 show wpAny _ _ (WW (.ref Z) 3 (rawInt ((i:Int)+1)) >>= _) _ _ ⟨hp,g,dr,tk,os⟩;refine UM (Vl hit (by simp) λB D H=>?_)
 replace H:Heap.SameBut Z hp B:=H;replace D:VX B Z d (i+1) z.size ep ok ov:=by
  have e:((i+1:Nat):Int)=(i:Int)+1:=by omega
  unfold VX;rw[e];simpa[rawInt]using D
 have BH:Shared.TypeIs ⟨B,g,dr,tk,os⟩ (.ref Z) "dict_itemiterator":=⟨_,D,rfl⟩
 refine UM (Vk (UM (Wc BH (UM (Wc BH ?_)))));show wpAny _ _ (Builtin.Dict_items.pairFromOwner (.ref Z) 6 z[i].key z[i].val) _ _ ⟨B,g,dr,tk,os⟩;unfold Builtin.Dict_items.pairFromOwner;refine UM (WC ?_);have J:VX (B.push { cls:=.type "tuple",data:=.seq #[z[i].key,z[i].val] }) Z d (i+1) z.size ep ok ov:=O8 _ D;generalize xV:B.push { cls:=.type "tuple",data:=.seq #[z[i].key,z[i].val] }=h₂ at J;have xW:B.objs.size=hp.objs.size:=H.1;have Fs:Z<hp.objs.size:=Pt hit;have J6:h₂.get? hp.objs.size=Yl { cls:=.type "tuple",data:=.seq #[z[i].key,z[i].val] }:=by rw[<- xV,<- xW];exact Pn _ rfl
 have J7:h₂.objs.size=hp.objs.size+1:=by rw[<-xV,R8,xW]
 have J8:∀b o,b≠Z->hp.get? b=Yl o->h₂.get? b=Yl o:=λb o hb e=>by rw[<-xV];exact O8 _ (H.extBut b o hb e)
 show wpAny _ _ (Builtin.Dict_items.ownedTupleIsFree (.ref Z) >>= _) _ _ ⟨h₂,g,dr,tk,os⟩;rw[xW];clear xV D H BH xW B;refine UM ?_;unfold Builtin.Dict_items.ownedTupleIsFree;refine UM (Vf J rfl (x:=.none) rfl (US ?_));simp only[Wm];refine UM (Vf J rfl (x:=ok) rfl (UM (Vf J rfl (x:=ov) rfl (UM (Vl J (by simp) λh₃ mO M=>?_)))))
 replace M:Heap.SameBut Z h₂ h₃:=M;replace mO:VX h₃ Z d (i+1) z.size ep z[i].key ov:=mO
 refine UM (Vl mO (by simp) λh₄ mP O=>?_);replace O:Heap.SameBut Z h₃ h₄:=O;replace mP:VX h₄ Z d (i+1) z.size ep z[i].key z[i].val:=mP;refine UM (Vl mP (by simp) λh₅ oI U=>?_);replace U:Heap.SameBut Z h₄ h₅:=U;replace oI:Xt h₅ Z d (i+1) z.size ep z[i].key z[i].val hp.objs.size:=oI;refine UM (Vl oI (by simp) λh₆ oJ V=>?_);replace V:Heap.SameBut Z h₅ h₆:=V;replace oJ:Xt h₆ Z d (i+1) z.size ep z[i].key z[i].val hp.objs.size:=oJ;refine UM (Xh (US (US ⟨_,rfl,US (hQ h₆ oJ ?_ ?_ ?_)⟩)))
 .have n:=Rf Fs;exact V.extBut _ _ n (U.extBut _ _ n (O.extBut _ _ n (M.extBut _ _ n J6)))
 .show h₆.objs.size=_;rw[V.1,U.1,O.1,M.1,J7]
 exactλb o n e=>V.extBut b o n (U.extBut b o n (O.extBut b o n (M.extBut b o n (J8 b o n e))))
theorem D4{D d:UR}{ep:Nat}{H:Array VP}{ok U:UP}{Q:Option UP->UW->Prop}(V:A.handled=none)(z:VX s.heap D d H.size H.size ep ok U)(Z:DE s.heap d H ep)
  (hQ:∀h',Heap.ExtBut D s.heap h'->Q none { s with heap:=h' }):wpAny (model prog w) A (pyNext (.ref D)) Q E s:=by
 obtain⟨od,J,M⟩:=id Z;have B:s.TypeIs (.ref D) "dict_itemiterator":=⟨_,z,rfl⟩
 unfold pyNext;refine UM (VC (wpAny_callSpecial?_slot (name:=Str.ofString "__next__") B F.slot_dict_itemiterator_next (U8 F.slot_dict_itemiterator_next B F.entry_dict_itemiterator_next ?_ (F.args_dict_itemiterator_next_1 _))));refine UM (US (UM (UM ?_)))
 (first|refine UM (VB B (US ?_))|refine UM (VJ B (US ?_)));refine UM (WG z rfl ?_)
 have O:Builtin.Dict_items.ownsTuple "dict_itemiterator" = true:=by decide
 simp only[O,Wm];show wpAny _ _ (if(Value.ref d==Value.none)=true then _ else _) _ _ s;rw[UO (show¬((Value.ref d==Value.none)=true)from Po)];refine UM (US (UM (Vp J M ?_)));rw[UO (by simp)];refine UM (US (UM (VU J M ?_)));rw[UO (by simp)];refine US ?_;simp only[show¬((H.size:Int)<0)from by omega,Vq,Qb,SV (O5 H.size)];refine UM ?_
 (first|refine UM (VB B (US ?_))|refine UM (VJ B (US ?_)));show wpAny _ _ (WW (.ref D) 2 .none >>= _) _ _ s
 refine UM (VG z rfl (by simp) ?_);show wpAny _ _ (newExc (.type "StopIteration") [] >>= _) _ _ _;refine UM ?_;simp only[newExc,XC];refine UM (U9 ?_ (by size_fits));refine UM (m:=VH _ _) (VN (a:=Value.none) (by first|rfl|(simp only[VH];rfl)) ?_);refine U9 ?_ (by size_fits);simp only[X6];refine UM (WN ?_);rw[show A.in1.handled=none from V];refine UM (US (Xg ?_));refine UM (Vv (T:="StopIteration") (b:=true) ⟨_,Pn _ rfl,rfl⟩ WD ?_);exact US (hQ _ (((Heap.SameBut.update ..).extBut.push _).push _))
end
end Ad
namespace L2
open PySem PySem.Spec PyProof.Rows Ad
section
variable {X:Cx}{pins:List (UR×VE)}{σ:St}{H:Hp}{s:UW}{a b:UR}{kvs:List (List Key×V)}{k:List Key}{r:UP}{A:Ve}{E:UP->UW->Prop}
theorem zo{x:V}{Q:UP->UW->Prop}(hu:A.units+1<cLine)(I:Inv X pins σ H s)(e:H a=Yl (.dT kvs))(M:H b=Yl (.tup (k.map kV)))(rv:RelV x r)(l:kvs.length<U2)
  (h1:∀y w' s',bq kvs k=Yl y->Inv X pins σ H s'->RelV y w'->Q w' s')
  (h2:∀s',bq kvs k=none->Inv X pins σ (upd H a (.dT (putK kvs k x))) s'->Q r s'):wpAny (model X.prog X.w) A (call (.builtin "dict.setdefault") [.ref a,.ref b,r]) Q E s:=by
 obtain⟨z,hd,xs,D,dd⟩:=Ay I.ba e;have hz:xs.length<=sizeLine:=by rw[<-Paired.length D];exact z
 have hl:(putK kvs k x).length<=sizeLine:=by have:=bS kvs k x;omega
 have B:=D.val k;refine Wu Q7 dd.typeIs Sh (Se _ _ _) (pY (knd:=Wv (aX X.prog X.w)) a b hd r)
  ⟨WA hu,k,xs,mi I.ba M,dd,hz,λp O=>?_,λhn h' J hs=>h2 _ ?_ ?_⟩
 .cases q:bq kvs k with
  |none=>rw[q,O]at B;exact UU B (λz=>nomatch z)
  |some y=>rw[q,O]at B;exact h1 y p.2 _ q (I.tok _) B
 .cases q:bq kvs k with
  |none=>rfl
  |some y=>rw[q,hn]at B;exact UU B (λz=>nomatch z)
 obtain⟨q,es,ep,U,g2,g3,g4,_,g5⟩:=J;refine jg I (by rw[e];exact True.intro) hs ⟨q,U⟩ ⟨hl,hd,_,(D.put k M rv).keeps λc ys Z=>?_,q,es,ep,U,g2,g3,g4,g5⟩;rw[ao (Al Z e (λz=>nomatch z))];exact Z
end
def Hl(E ty J:TE):TE:=λσ H Q=>E σ H λx D=>∃a,x=.ref a/\MF D a/\ty σ D λy M=>J σ M λz B=>∃kvs k b,B a=Yl (.dT kvs)/\y=.ref b/\B b=Yl (.tup (k.map kV))/\kvs.length<U2 /\
 (∀v,bq kvs k=Yl v->Q v B)/\(bq kvs k=none->Q z (upd B a (.dT (putK kvs k z))))
section
variable {X:Cx}{o e f:Vc}{apos iw:V6}{td ty tx:TE}
theorem BI(O:X.A.units+1<cLine)(U:PE X o td)(V:PE X e ty)(Z:PE X f tx)(m:M2 X o "setdefault" apos e f iw):PE X (.Call (.Attribute o "setdefault" apos) [e,f] [] iw) (Hl td ty tx):=by
 intro pins s σ H Q I h;refine XF m.base m.OX m.line Rt Q7 So (bI (U pins s σ H _ I h) λu s1 B=>?_);obtain⟨x,H1,J,rx,a,ex,d,q1⟩:=B;subst ex;obtain rfl:u=Value.ref a:=rx;obtain⟨t1,t2,_⟩:=AF J d;refine⟨t1,t2,?_⟩;rw[m.trees];refine Calls.callWith_builtin rfl (Calls.evalArgs_plain (Calls.spliced_cons (bI (V pins s1 σ H1 _ J q1) λiv s2 ⟨y,H2,I2,ry,q2⟩ =>
  Calls.spliced_cons (bI (Z pins s2 σ H2 _ I2 q2) λfv s3 B=>Calls.spliced_nil ?_))))
 obtain⟨z,H3,I3,M,kvs,k,b,ea,ey,eb,el,q3,q4⟩:=B;subst ey;obtain rfl:iv=Value.ref b:=ry;exact zo O I3 ea eb M el (λy w' s4 hy D E=>⟨y,H3,D,E,q3 y hy⟩) λs4 hn D=>⟨z,_,D,M,q4 hn⟩
end
end L2
namespace Ad
open PySem PySem.Spec PyProof.Rows
theorem BJ:entryFor table "dict_itemiterator.__iter__" = some Builtin.«dict_keyiterator.__iter__» :=
 entryFor_alias (id':="dict_keyiterator.__iter__") (by kernel_rfl) rfl (by decide +kernel) (by kernel_rfl)
theorem BK{prog:U3}{w:U4}{A:Ve}{E:UP->UW->Prop}{s:UW}{z d:UR}{i n ep:Nat}{ok H:UP}{Q:UP->UW->Prop}(B:VX s.heap z d i n ep ok H)(h:Q (.ref z) s):wpAny (model prog w) A (pyIter (.ref z)) Q E s:=by
 have D:s.TypeIs (.ref z) "dict_itemiterator":=⟨_,B,rfl⟩
 refine Wa D F.slot_dict_itemiterator_iter (U8 F.slot_dict_itemiterator_iter D BJ ?_ (F.args_dict_itemiterator_iter_1 _));show wpAny _ _ (ret (.ref z)) _ _ s;exact US ⟨_,rfl,"dict_itemiterator",_,D,F.slot_dict_itemiterator_next.lookup,h⟩
end Ad
namespace L2
open PySem PySem.Spec PyProof.Rows Ad
section
variable {X:Cx}{pins:List (UR×VE)}{σ:St}{H:Hp}{s:UW}{a:UR}
theorem Inv.Hm(I:Inv X pins σ H s){kvs:List (List Key×V)}(e:H a=Yl (.dT kvs)):∃o B ep,s.heap.get? a=Yl o/\o.data=.dict B ep/\B.size=kvs.length/\Inv X pins σ (upd H a (.gv o (.dT kvs))) s:=by
 have U:Ga (H a):=by rw[e];exact True.intro
 obtain⟨z,lo,xs,D,o,B,ep,E,Z,J,M,h5⟩:=(show bh X.prog X.w H s.heap a (.dT kvs)from I.ba a _ e)
 have hsz:B.size=kvs.length:=by
  rw[D.length];have:=congrArg Rx M;rwa[QU,O0]at this
 have keep:∀c ys,H c=Yl (.tup ys)->upd H a (.gv o (.dT kvs)) c=Yl (.tup ys):=λc ys O=>by
  rw[ao (Al O e (λz=>nomatch z))];exact O
 refine⟨o,B,ep,E,J,hsz,I.write (x:=a) (e:=a) (t':=s.toks) U (.inl rfl) (λb q hb z=>z) ⟨o,E⟩ ⟨E,z,lo,xs,Paired.rq D λp q y=>⟨y.1,keep _ _ y.2.1,y.2.2⟩,o,B,ep,E,Z,J,M,h5⟩⟩
noncomputable def Nc(d:UR)(o:VE)(kvs:List (List Key×V)):It :=
 ⟨λi H=>i<kvs.length/\H d=Yl (.gv o (.dT kvs)),λi H y z=>∃t b k v,y=.ref t/\H t=none/\kvs[i]?=Yl (k,v)/\H b=Yl (.tup (k.map kV))/\z=upd H t (.tup [.ref b,v]),λi H=>kvs.length<=i/\H d=Yl (.gv o (.dT kvs))⟩
theorem BL{P:U3}{w:U4}{K:Pa}{elts:List Vc}{x1:Nat}{tp:V6}(d D:UR)(o:VE)(kvs:List (List Key×V))(es:Array VP)(ep:Nat)(hep:o.data=.dict es ep)(hsz:es.size=kvs.length) :
  Turn P w K (.Tuple elts x1 tp) (Nc d o kvs) [D] D (λi h=>i<=kvs.length/\∃ok ov,VX h D d i kvs.length ep ok ov) where
 mem:=by simp
 obj:=λi h st b U=>by
  have e:b=D:=by simpa using U
  subst e;obtain⟨_,ok,ov,e⟩:=st;exact⟨_,e,λv z=>by have z':Data.fields _=Data.cell v:=z;cases z'⟩
 keep:=λi h h' st k=>⟨st.1,let⟨ok,ov,e⟩:=st.2;⟨ok,ov,k D (by simp) _ e⟩⟩
 item:=by
  intro X hP hw hK hc i pins s σ H E I hf st hg;subst hP hw hK;obtain⟨hi,hd⟩:=hg;obtain⟨_,ok,ov,J⟩:=st;obtain⟨ho,z,lo,xs,Z,od,B,Nf,h1,h2,h3,h4,h5⟩:=(show bh X.prog X.w H s.heap d (.gv o (.dT kvs))from I.ba d _ hd)
  obtain⟨f0,f1,f2,f3,f4,f5⟩:=hf D (by simp);have e1:od=o:=by rw[ho]at h1;exact(Option.some.inj h1).symm
  have e2:B=es/\Nf=ep:=by rw[e1,hep]at h3;cases h3;exact⟨rfl,rfl⟩
  obtain⟨rfl,rfl⟩:=e2;have J9:i<B.size:=by omega
  have hx:kvs[i]?=Yl kvs[i]:=OZ hi;have LA:xs[i]?=Yl (xs[i]'(by rw[<-Z.length];exact hi)):=OZ _;have pr:=jW Z hx LA;have ee:B[i]=WY (Wv (aX X.prog X.w)) (xs[i]'(by rw[<-Z.length];exact hi)):=by
   have e:=Ya h4 i;rw[LA,Rk J9]at e;exact Option.some.inj e
  rw[<- hsz]at J;refine BG J ⟨od,h1,h3⟩ J9 λh' JL hT acO hk=>?_;refine⟨_,rfl,wpAny_letOwnedTupleGo_items (s:={ s with heap:=h' }) JL λA1 A2 Ka=>?_⟩;have A3:D<s.heap.objs.size:=Pt J;have k2:∀b o,b≠D->s.heap.get? b=Yl o->A1.get? b=Yl o:=λb o h1 q=>(Ka.2 b h1).trans (hk b o h1 q);have JM:A1.get? s.heap.objs.size=Yl { cls:=.type "tuple",data:=.seq #[B[i].key,B[i].val] }:=(Ka.2 _ (Rf A3)).trans hT;have M:H s.heap.objs.size=none:=I.ba.fresh (O5 _);have neT:∀{b:UR} {o:VE},s.heap.get? b=Yl o->b≠s.heap.objs.size:=λq=>PR (Pt q);have qm:∀{b:UR} {o:HO},H b=Yl o->b≠D:=λq z=>by rw[z,f0]at q;cases q
  have I2:Inv X pins σ (upd H s.heap.objs.size (.tup [.ref (xs[i]'(by rw[<-Z.length];exact hi)).2.1,kvs[i].2])) { s with heap:=A1 }:=by
   refine I.step (g':=s.gens) (d':=s.drawn) (t':=s.toks) (ch:=[D]) (λb U=>?_) (λb o _ _ O q _=>k2 b o (λz=>O (by simp[z])) q) (λb o _ _ O q _=>⟨o.slots,k2 b o (λz=>O (by simp[z])) q⟩)
    (λb o _ q n=>by rw[ao (neT q)];exact n) (λb o O q=>⟨o,k2 b o (λz=>O (by simp[z])) q⟩) (λb ys q=>by rw[ao (aQ q M)];exact q) (λb o ys q=>by rw[ao (aQ q M)];exact q)
    (λb ps q=>⟨#[],by rw[ao (aQ q M),q];simp⟩) (λm hm=>?_) (λb v q=>?_) I.bare
   .have e1:b=D:=by simpa using U
    subst e1;exact⟨f3,f1,f4,f5⟩
   .obtain⟨o,es,ep,ho,r⟩:=hm;exact⟨o,es,ep,k2 _ o (Ne.symm f1) ho,r⟩
   by_cases U:b=s.heap.objs.size
   .subst U;rw[ag]at q;cases q;refine⟨by show 2<=U2;decide,[B[i].key,B[i].val],.cons ?_ (.cons ?_ .nil),_,JM,rfl,_,rfl⟩
    .rw[ee];rfl
    rw[ee];exact pr.2.2
   rw[ao U]at q;refine(I.ba b v q).pL (λc o hc z=>?_) (λc z=>by rw[ao (aQ z M)];exact z) λc ys z=>by rw[ao (aQ z M)];exact z
   rcases hc with rfl|hc
   .exact k2 c o (qm q) z
   exact k2 c o (qm hc) z
  refine⟨.ref s.heap.objs.size,_,I2,rfl,⟨_,_,kvs[i].1,kvs[i].2,rfl,M,hx,?_,rfl⟩,⟨hi,?_⟩,λb U=>?_⟩
  .exact pr.2.1
  .rw[<-hsz];exact⟨_,_,A2⟩
  have e1:b=D:=by simpa using U
  subst e1;rw[ao (PR A3)];exact f0
 done:=by
  intro X hP hw hK hc i pins s σ H E I hf st hg;subst hP hw hK;obtain⟨hi,hd⟩:=hg;obtain⟨hle,ok,ov,J⟩:=st;obtain⟨ho,_⟩:=(show bh X.prog X.w H s.heap d (.gv o (.dT kvs))from I.ba d _ hd)
  obtain⟨f0,f1,f2,f3,f4,f5⟩:=hf D (by simp);have e3:i=es.size:=by omega
  rw[<-hsz,e3]at J;exact D4 (I.ok.hd hc) J ⟨o,ho,hep⟩ λh' eb=>⟨rfl,I.turned (t':=s.toks) (λb o U e=>eb b o U e) f0 f1 f3 f4 f5⟩
 self:=λ_ _ _ _ _ st h=>let⟨_,_,e⟩:=st.2;BK e h
end
section
variable {X:Cx}
noncomputable def Ng(to:TE):TI:=λσ H R=>to σ H λv z=>∃d kvs,v=.ref d/\z d=Yl (.dT kvs)/\∀o,R (Nc d o kvs) (upd z d (.gv o (.dT kvs)))
theorem Hn{o:Vc}{elts:List Vc}{x1:Nat}{tp:V6}{to:TE}{pos' ap:V6}(ho:PE X o to)(E:VY o "items" X.env (eval o X.env)=eval o X.env:=by rfl)(J:(ap.endLine==pos'.line)=true:=by rfl) :
  PI X (.Tuple elts x1 tp) (.Call (.Attribute o "items" ap) [] [] pos') (Ng to):=by
 intro pins s σ H R I h;refine WX E J (bI (ho pins s σ H _ I h) λv B zq=>?_);obtain⟨x,H1,O,r1,d,kvs,ex,hd,q⟩:=zq;subst ex;obtain⟨U,h2⟩:=vG (T:="dict") O r1 (.inr (.inr (.inl ⟨rfl,.inr ⟨kvs,hd⟩⟩)));cases(show v=Value.ref d from r1);obtain⟨M,es,ep,V,D,hsz,I2⟩:=O.Hm hd;obtain⟨z,lo,_⟩:=Ay O.ba hd;refine⟨"dict","dict.items",Rt,SM,PySem.F.type_dict_items,U,h2,Calls.callWith_builtin rfl (PySem.evalArgs_none ?_)⟩;refine Wu SM U PySem.F.entry_dict_items (PySem.F.args_dict_items_1 _) (zm d lo) ⟨U,?_⟩;have hv:(B.heap.push { cls:=.type "dict_items",data:=.fields #[.ref d] }).IsItemsView B.heap.objs.size d:=⟨_,Pn _ rfl,rfl,rfl⟩
 refine BF (s:={ B with heap:=B.heap.push { cls:=.type "dict_items",data:=.fields #[.ref d] } }) hv ⟨M,O8 _ V,D⟩ ?_;have Z:Inv X pins σ (upd H1 d (.gv M (.dT kvs))) { B with heap:=B.heap.push { cls:=.type "dict_items",data:=.fields #[.ref d] } }:=I2.kept (t':=B.toks) λb o e=>O8 _ e;refine⟨_,[_],_,_,_,rfl,Z.kept (t':=B.toks) λb o e=>O8 _ e,BL d _ M kvs es ep D hsz,⟨PQ _,?_⟩,λb hb=>?_,q M⟩
 .rw[<-hsz];exact⟨_,_,Pn _ rfl⟩
 have e:=O3.mp hb;subst e;exact Z.l9 (O5 _) (Z.ba.fresh (O5 _))
theorem BM{d:UR}{o:VE}{kvs:List (List Key×V)}{g:TG}{J:TT}{M:TE}{D:UR}{Q:VK}{z:St}{H₀:Hp}(Pv:Nat->St->Hp->Prop)(Z:Pv 0 z H₀)(hl:∀i σ H,i<=kvs.length->Pv i σ H->H d=Yl (.gv o (.dT kvs)))
  (hs:∀i t b k v σ H,kvs[i]?=Yl (k,v)->Pv i σ H->H t=none->H b=Yl (.tup (k.map kV))->g (.ref t) σ (upd H t (.tup [.ref b,v])) λB H3=>J B H3 λb O=>if b=true then M B O λv U=>∃ys,U D=Yl (.lst ys)/\ys.length<U2/\Pv (i+1) B (upd U D (.lst (ys++[v])))else Pv (i+1) B O)
  (hd:∀σ H,Pv kvs.length σ H->Q (.ref D) H):kC (Nc d o kvs) g J M D Q z H₀:=by
 refine⟨λi m σ H=>m=kvs.length-i/\i<=kvs.length/\Pv i σ H,⟨kvs.length,by simp,PQ _,Z⟩,?_⟩;rintro i m σ H ⟨rfl,hi,p⟩;have q:=hl i σ H hi p;by_cases E:i<kvs.length
 .refine .inr ⟨⟨E,q⟩,Pv (i+1),λσ' H' p'=>⟨kvs.length-(i+1),by omega,rfl,E,p'⟩,λx H' y=>?_⟩;obtain⟨t,b,k,v,e,hn,hx,hb,e2⟩:=y;subst e e2;exact hs i t b k v σ _ hx p hn hb
 have e:i=kvs.length:=by omega
 subst e;exact .inl ⟨⟨O5 _,q⟩,hd σ H p⟩
end
end L2
namespace NK
open PySem PySem.Spec PyProof.Rows L2
noncomputable abbrev Itm:=Sum Key (List Key)
section
variable {P:U3}{w:U4}
noncomputable def pZ(P:U3)(w:U4)(h:Vd):Itm->UP->Prop
 |.inl k,v=>(aX P w).is k v=true
 |.inr ks,v=>∃b,v=.ref b/\Yb (aX P w) h ks b
inductive Ae (P:U3) (w:U4) (h:Vd):List Itm->List UP->Prop
 |nil:Ae P w h [] []
 |cons {k:Itm}{v:UP}{ks:List Itm}{vs:List UP}:pZ P w h k v->Ae P w h ks vs->Ae P w h (k::ks) (v::vs)
def sk(P:U3)(w:U4)(h:Vd)(ks:List Itm)(a:UR):Prop:=∃o items n,h.get? a=Yl o/\o.cls=.type "tuple"/\o.data=.seq items n/\Ae P w h ks items.toList
theorem xX{k:Key}{b:UR}:(aX P w).is k (.ref b)=true->False:=λh=>by
 rcases br h with⟨_,_,_,e⟩|⟨_,_,_,e⟩ <;> exact nomatch e
theorem pZ.inj{h:Vd}{x y:Itm}{v:UP}(z:pZ P w h x v)(B:pZ P w h y v):x=y:=by
 cases x with
 |inl k=>cases y with
  |inl l=>exact congrArg Sum.inl ((aX P w).inj _ _ _ z B)
  |inr l=>obtain⟨b,e,_⟩:=B;subst e;exact(xX z).elim
 |inr k=>cases y with
  |inl l=>obtain⟨b,e,_⟩:=z;subst e;exact(xX B).elim
  |inr l=>obtain⟨b,e,q⟩:=z;obtain⟨H,D,E⟩:=B;subst e;cases D;exact congrArg Sum.inr (q.inj E)
theorem Ae.inj{h:Vd}{x y:List Itm}{vs:List UP}(B:Ae P w h x vs)(z:Ae P w h y vs):x=y:=by
 induction B generalizing y with
 |nil=>cases z;rfl
 |cons D _ E =>
  cases z with
  |cons H J=>rw[D.inj H,E J]
theorem sk.typeIs{s:UW}{ks:List Itm}{a:UR}(x:sk P w s.heap ks a):s.TypeIs (.ref a) "tuple":=let⟨o,_,_,z,B,_⟩:=x;⟨o,z,B⟩
theorem sk.inj{h:Vd}{a:UR}{x y:List Itm}(H:sk P w h x a)(J:sk P w h y a):x=y:=by
 obtain⟨o,items,n,M,_,hd,hi⟩:=H;obtain⟨O,B,V,D,_,z,E⟩:=J;obtain rfl:o=O:=Option.some.inj (M.symm.trans D);rw[hd]at z;injection z with U _;subst U;exact hi.inj E
theorem sk.keeps{h h':Vd}{ks:List Itm}{a d:UR}{o:VE}{O ep}(x:sk P w h ks a)(E:h.get? d=Yl o)(hd:o.data=.dict O ep)(hs:Heap.SameBut d h h'):sk P w h' ks a:=by
 obtain⟨H,items,n,B,J,z,hi⟩:=x;have D:a≠d:=by
  rintro rfl;obtain rfl:H=o:=Option.some.inj (B.symm.trans E);rw[hd]at z;exact nomatch z
 refine⟨H,items,n,(hs.2 a D).trans B,J,z,?_⟩;clear z B J;generalize items.toList=vs at hi
 induction hi with
 |nil=>exact .nil
 | @cons k v ks vs M _ U =>
  refine .cons ?_ U;cases k with
  |inl k=>exact M
  |inr k=>obtain⟨b,e,q⟩:=M;exact⟨b,e,q.keeps E hd hs⟩
noncomputable def Ho(P:U3)(w:U4):Itm->Int
 |.inl k=>(aX P w).hash k
 |.inr ks=>tupleKeyHash (aX P w) ks
noncomputable def Nh:Itm->Nat
 |.inl _=>1
 |.inr ks=>ks.length+1
noncomputable def BN(P:U3)(w:U4)(ks:List Itm):Int:=reduceHash (Builtin.Tuple.tupleHashOf (ks.map (Ho P w)))
noncomputable def vY(ks:List Itm):Nat:=(ks.map Nh).sum+1
variable {A:Ve}{E:UP->UW->Prop}{s:UW}
theorem D5{k:Itm}{v:UP}{Q:Int->UW->Prop}(B:A.units<cLine)(z:pZ P w s.heap k v)(h:Q (Ho P w k) { s with toks:=s.toks+Nh k }):wpAny (model P w) A (pyHash v) Q E s:=by
 cases k with
 |inl k=>exact(aX P w).pyHash z h
 |inr k=>obtain⟨b,e,q⟩:=z;subst e;exact wpAny_pyHash_tuple B q h
theorem BO{ks:List Itm}{a:UR}{Q:Int->UW->Prop}(U:A.units+1<cLine)(O:sk P w s.heap ks a)(h:Q (BN P w ks) { s with toks:=s.toks+vY ks }) :
  wpAny (model P w) A (pyHash (.ref a)) Q E s:=by
 have D:=O.typeIs;obtain⟨o,items,n,V,_,hd,hi⟩:=O;unfold pyHash
 first|unfold pyHashByItsType|skip
 first|refine UM (wpAny_cRoomFor_or (.inr (by omega)) ?_)|skip
 refine UM (Vr D F.slot_tuple_hash.lookup ?_);show wpAny _ _ (if(Yl (Value.builtin "tuple.__hash__")==some Value.none)=true then _ else _) Q E s;rw[UO (by rw[beq_builtin_none];exact Po)];refine UM (Vr D F.slot_tuple_hash.lookup ?_);show wpAny _ _ (callSpecialIfBoundUnlessNone? (.ref a) "__hash__" _ >>= _) Q E s;refine UM (wpAny_callSpecialIfBoundUnlessNone?_slot D F.slot_tuple_hash (U8 F.slot_tuple_hash D F.entry_tuple_hash ?_ (F.args_tuple_hash_1 _)));show wpAny _ _ (Builtin.Tuple.tupleItemsOf (.ref a) >>= _) _ _ s;refine UM (WH V hd ?_);refine UM ?_;rw[<- Sy];refine Wg _
  (λrest (b:Array Int) s'=>∃done left,ks=done++left/\Ae P w s.heap left rest/\b.toList=done.map (Ho P w)/\s'={ s with toks:=s.toks+(done.map Nh).sum })
  _ ?_ ?_ _ _ ⟨[],ks,rfl,hi,rfl,rfl⟩
 .rintro x rest b s' ⟨done,left,rfl,M,H,rfl⟩;cases M with
  | @cons k _ z _ Z B =>
   refine UM (D5 (k:=k) (by first|exact U|(simp only[Around.in1];omega)|(show A.units+1<cLine;omega)) Z ?_)
   first
    |exact US ⟨done++[k],z,by simp,B,by simp[H],by simp[SN]⟩
    |exact UM (US (US ⟨done++[k],z,by simp,B,by simp[H],by simp[SN]⟩))
 rintro b s' ⟨done,left,rfl,M,H,rfl⟩;cases M;rw[Qj]at h;show wpAny _ _ (retInt (Builtin.Tuple.tupleHashOf b.toList)) _ _ _;rw[H];refine wpAny_ret_mkInt ?_;show wpAny _ _ (if(decide (-(2:Int) ^ 63<=Builtin.Tuple.tupleHashOf (done.map (Ho P w)))&&decide (Builtin.Tuple.tupleHashOf (done.map (Ho P w))<2 ^ 63))=true then _ else _) Q E _;unfold BN reduceHash vY at h;by_cases J:(decide (-(2:Int) ^ 63<=Builtin.Tuple.tupleHashOf (done.map (Ho P w)))&&decide (Builtin.Tuple.tupleHashOf (done.map (Ho P w))<2 ^ 63))=true
 .rw[UQ J];rw[UQ J]at h;exact US (by simpa[SN]using h)
 rw[UO J];rw[UO J]at h;exact UM (VR (US (by simpa[SN]using h)))
theorem oY{s:UW}{ks:List Key}{b:UR}(q:Yb (aX P w) s.heap ks b):∃items,s.heap.IsTuple b items:=by
 obtain⟨o,items,n,z,B,hd,_⟩:=q;exact⟨items,o,z,B,n,hd⟩
theorem Ft{x y:Itm}{u v:UP}{Q:Bool->UW->Prop}(B:A.units<cLine)(H:pZ P w s.heap x u)(J:pZ P w s.heap y v)(h:Q (decide (x=y)) s):wpAny (model P w) A (eqBool u v) Q E s:=by
 cases x with
 |inl k=>cases y with
  |inl l =>
   refine(aX P w).eqBool (a:=k) (b:=l) H J ?_;by_cases e:k=l
   .subst e;simpa using h
   rw[U1 e];rwa[U1 (λz=>e (Sum.inl.inj z))]at h
  |inr l =>
   obtain⟨b,e,q⟩:=J;subst e;obtain⟨items,D⟩:=oY q;rw[U1 (λz=>nomatch z)]at h;rcases br H with⟨i,t,_,e⟩|⟨i,t,_,e⟩ <;> subst e
   .exact PySem.SeqAt.EqAt.int_tuple i t D B P w E Q h
   exact PySem.SeqAt.EqAt.str_tuple i t D B P w E Q h
 |inr k=>cases y with
  |inl l =>
   obtain⟨b,e,q⟩:=H;subst e;obtain⟨items,D⟩:=oY q;rw[U1 (λz=>nomatch z)]at h;rcases br J with⟨i,t,_,e⟩|⟨i,t,_,e⟩ <;> subst e
   .exact PySem.SeqAt.EqAt.tuple_int i t D B P w E Q h
   exact PySem.SeqAt.EqAt.tuple_str i t D B P w E Q h
  |inr l =>
   obtain⟨b,e,q⟩:=H;subst e;obtain⟨U,M,O⟩:=J;subst M;refine wpAny_eqBool_tuple B q O ?_;by_cases e:k=l
   .subst e;simpa using h
   rw[U1 e];rwa[U1 (λz=>e (Sum.inr.inj z))]at h
theorem BP{x y:List Itm}{a b:UR}{R:Fin->UW->Prop}(hu:A.units<cLine)(hx:sk P w s.heap x a)(hy:sk P w s.heap y b)(h:R (.done (.ret (.bool (decide (x=y))))) s) :
  wpAny (model P w) A (Builtin.«tuple.__eq__» ⟨[.ref a,.ref b],[]⟩) R E s:=by
 have hTb:=hy.typeIs;obtain⟨oa,xs,na,hoa,_,hda,Ni⟩:=hx;obtain⟨ob,ys,nb,hob,_,MP,hib⟩:=hy;show wpAny _ _ (Yc (.ref b) (.type "tuple") >>= _) _ _ s;refine UM (Vv hTb We ?_);simp only[RY,Qg,Vq];refine UM (WH hoa hda ?_);refine UM (WH hob MP ?_);refine UM ?_;refine Wg _
  (λrest r s'=>r.1=none/\s'=s/\∃x' y' B D,rest=S7 B D/\Ae P w s.heap x' B/\Ae P w s.heap y' D/\decide (x'=y')=decide (x=y)/\(B.length==D.length)=(xs.size==ys.size))
  _ ?_ ?_ _ _ ⟨rfl,rfl,x,y,xs.toList,ys.toList,rfl,Ni,hib,rfl,by simp⟩
 .rintro⟨u,v⟩ rest r s' ⟨hr,rfl,x',y',B,D,hz,J,H,z,hlen⟩;cases J with
  |nil=>simp at hz
  | @cons k1 u' M O h1 U =>
   cases H with
   |nil=>simp at hz
   | @cons k2 v' V Z h2 Nj =>
    simp only[List.zip_cons_cons,List.cons.injEq,Prod.mk.injEq]at hz;obtain⟨⟨rfl,rfl⟩,rfl⟩:=hz;refine UM (Ft (x:=k1) (y:=k2) hu h1 h2 ?_);by_cases hk:k1=k2
    .subst hk;rw[UX rfl];simp only[RY,Qg,Vq];refine US ⟨rfl,rfl,M,V,O,Z,rfl,U,Nj,?_,by simpa using hlen⟩;rw[<-z];by_cases Hi:M=V
     .simp[Hi]
     simp[Hi]
    rw[U1 hk];simp only[Bool.not_false,Wm];have hf:decide (x=y)=false:=by rw[<-z];simp[hk]
    rw[hf]at h;exact UM (US (US (US h)))
 rintro⟨r1,r2⟩ s' ⟨hr,rfl,x',y',B,D,hz,J,H,z,hlen⟩;simp only at hr;subst hr;refine US ?_;have Nk:(xs.size==ys.size)=decide (x=y):=by
  rw[<-z,<-hlen];cases J with
  |nil =>
   cases H with
   |nil=>simp
   |cons _ _=>simp
  |cons _ _ =>
   cases H with
   |nil=>simp
   |cons _ _=>simp at hz
 show R (.done (.ret (.bool (xs.size==ys.size)))) s';rw[Nk];exact h
theorem BQ{x y:List Itm}{a b:UR}{Q:Bool->UW->Prop}(H:A.units+1<cLine)(B:sk P w s.heap x a)(D:sk P w s.heap y b)(h:Q (decide (x=y)) s) :
  wpAny (model P w) A (eqBool (.ref a) (.ref b)) Q E s:=by
 unfold eqBool
 try with_reducible refine Vk ?_
 show wpAny _ _ (if(Value.ref a==Value.ref b)=true then _ else _) Q E s;by_cases z:(Value.ref a==Value.ref b)=true
 .rw[UQ z];have e:a=b:=by have:=eq_of_beq z;injection this
  subst e;obtain rfl:=B.inj D;exact UM (VR (US (by simpa using h)))
 rw[UO z];exact UM (wpAny_richCompare_same_room (op:=.Eq) B.typeIs D.typeIs F.slot_tuple_eq
  (U8 F.slot_tuple_eq B.typeIs F.entry_tuple_eq (BP (by first|exact H|(show A.units+1<cLine;omega)) B D ⟨_,rfl,(λe=>nomatch e),Vj h⟩) (F.args_tuple_eq_2 _ _)) (by omega))
theorem D6(n:Nat){ks:List Key}{a:UR}{Q:Bool->UW->Prop}(H:Yb (aX P w) s.heap ks a)(h:Q true s):wpAny (model P w) A (Xq (n+1) (.ref a)) Q E s:=by
 have J:=H.typeIs;obtain⟨o,items,n,M,_,hd,hi⟩:=H;unfold Xq;refine UM (Vr J F.slot_tuple_eq.lookup ?_);show wpAny _ _ (Yc (.ref a) (.type "tuple") >>= _) _ _ s;refine UM (Vv J We ?_);simp only[RY,Qg,Vq];refine UM (V8 M hd ?_);refine UM ?_;show wpAny _ _ (forIn items _ _) _ _ s;rw[<- Sy];refine Wg _ (λrest r s'=>r.1=none/\s'=s/\∀v∈rest,carriedByValue v=true) _ ?_ ?_ _ _ ⟨rfl,rfl,hi.byValue⟩
 .rintro v rest r s' ⟨B,rfl,z⟩;rw[XG _ (z v Pc)];refine UM (US ?_);simp only[RY,Qg,Vq];exact US ⟨rfl,rfl,λu D=>z u (Pj _ D)⟩
 rintro⟨O,U⟩ s' ⟨B,rfl,_⟩;simp only at B;subst B;exact US h
theorem zr{ks:List Itm}{a:UR}{Q:Bool->UW->Prop}(J:sk P w s.heap ks a)(h:Q true s):wpAny (model P w) A (Xq 8 (.ref a)) Q E s:=by
 have M:=J.typeIs;obtain⟨o,items,n,V,_,hd,hi⟩:=J;unfold Xq;refine UM (Vr M F.slot_tuple_eq.lookup ?_);show wpAny _ _ (Yc (.ref a) (.type "tuple") >>= _) _ _ s;refine UM (Vv M We ?_);simp only[RY,Qg,Vq];refine UM (V8 V hd ?_);refine UM ?_;show wpAny _ _ (forIn items _ _) _ _ s;rw[<- Sy];refine Wg _ (λrest r s'=>r.1=none/\s'=s/\∃ks,Ae P w s.heap ks rest) _ ?_ ?_ _ _ ⟨rfl,rfl,ks,hi⟩
 .rintro v rest r s' ⟨D,rfl,Z,z⟩;cases z with
  | @cons k _ B _ O H =>
   have go:wpAny (model P w) A (Xq 7 v) (λb U=>b=true/\U=s') E s':=by
    cases k with
    |inl k=>rw[XG _ ((aX P w).byValue _ _ O)];exact US ⟨rfl,rfl⟩
    |inr k=>obtain⟨b,e,q⟩:=O;subst e;exact D6 6 q ⟨rfl,rfl⟩
   refine UM (bI go λb U ⟨eb,es⟩=>?_);subst eb es;simp only[RY,Qg,Vq];exact US ⟨rfl,rfl,B,H⟩
 rintro⟨r1,r2⟩ s' ⟨D,rfl,_⟩;simp only at D;subst D;exact US h
end
noncomputable def h6(P:U3)(w:U4):HeapKind P w (List Itm) where
 is:=sk P w
 hash:=BN P w
 draws:=vY
 room:=λA=>A.units+1<cLine
 inj:=λz B=>z.inj B
 keeps:=λx H hd hs=>x.keeps H hd hs
 pyHash:=λD E h=>BO D E h
 eqBool:=λD z B h=>BQ D z B h
 quiet:=λE h=>zr E h
noncomputable abbrev Ent:=List Itm×UR×V
noncomputable def nD(kvs:List Ent)(k:List Itm):Option V:=(kvs.find? λx=>decide (x.1=k)).map (·.2.2)
noncomputable def put2(kvs:List Ent)(k:List Itm)(b:UR)(v:V):List Ent:=if(nD kvs k).isSome then kvs.map (λx=>if x.1=k then(x.1,x.2.1,v)else x)else kvs++[(k,b,v)]
def RE:Ent->List Itm×UR×UP->Prop:=λp q=>p.1=q.1/\p.2.1=q.2.1/\RelV p.2.2 q.2.2
theorem vZ{kvs:List Ent}{xs:List (List Itm×UR×UP)}(r:Paired RE kvs xs)(k:List Itm):j9 (nD kvs k) ((atKey xs k).map (·.2)):=by
 induction r with
 |nil=>exact True.intro
 | @cons p q ps B h t z =>
  unfold nD atKey;rw[QX,QX,<-h.1];by_cases e:p.1=k
  .rw[UX e];exact h.2.2
  rw[U1 e];exact z
theorem Hq{kvs:List Ent}{xs:List (List Itm×UR×UP)}(r:Paired RE kvs xs)(k:List Itm)(b:UR){v:V}{u:UP}(B:RelV v u):Paired RE (put2 kvs k b v) (Xz xs k b u):=by
 have q:=(vZ r k).qA;rw[TJ]at q;unfold put2 Xz;rw[q];by_cases e:(atKey xs k).isSome=true
 .rw[UQ e,UQ e];clear q e
  induction r with
  |nil=>exact .nil
  | @cons p q ps D h t z =>
   refine .cons ?_ z;unfold putAt;dsimp only;by_cases e:p.1=k
   .rw[UQ e,UQ (h.1▸e)];exact⟨h.1,h.2.1,B⟩
   rw[UO e,UO (h.1▸e)];exact h
 rw[UO e,UO e];clear q e
 induction r with
 |nil=>exact .cons ⟨rfl,rfl,B⟩ .nil
 |cons h t z=>exact .cons h z
theorem BR(kvs:List Ent)(k:List Itm)(b:UR)(v:V):(put2 kvs k b v).length<=kvs.length+1:=by
 unfold put2;split <;> simp
def BS(P:U3)(w:U4)(a:UR)(kvs:List Ent):Vd->Prop:=λh=>kvs.length<=U2/\(a==Vm)=false/\∃xs,Paired RE kvs xs /\
 ∃o z ep,h.get? a=Yl o/\o.ExactDict/\o.data=.dict z ep/\z.toList=xs.map (WY (h6 P w))/\(xs.map (·.1)).Nodup
noncomputable def iR(P:U3)(w:U4)(a:UR)(kvs:List Ent):HO:=.ext (BS P w a kvs)
theorem BS.ok{P:U3}{w:U4}{a:UR}{kvs:List Ent}{H:Hp}{h:Vd}(q:BS P w a kvs h):bh P w H h a (iR P w a kvs):=by
 refine⟨q,?_,λJ M D g=>?_⟩
 .obtain⟨_,_,_,_,o,_,_,B,_⟩:=q;exact⟨o,B⟩
 obtain⟨z,y,xs,r,o,E,ep,B,t⟩:=D;exact⟨z,y,xs,r,o,E,ep,g o B,t⟩
noncomputable def IV(H:Hp):Itm->V->Prop
 |.inl k,v=>v=kV k
 |.inr l,v=>∃c,v=.ref c/\H c=Yl (.tup (l.map kV))
def K2(H:Hp)(k:List Itm)(b:UR):Prop:=∃vs,H b=Yl (.tup vs)/\Paired (IV H) k vs
def D2(P:U3)(w:U4)(H:Hp)(a:UR)(kvs:List Ent):Prop:=H a=Yl (iR P w a kvs)/\∀p∈kvs,K2 H p.1 p.2.1
theorem K2.keep{H z:Hp}{k:List Itm}{b:UR}(q:K2 H k b)(g:∀c ys,H c=Yl (.tup ys)->z c=Yl (.tup ys)):K2 z k b:=by
 obtain⟨vs,e,r⟩:=q;refine⟨vs,g _ _ e,Paired.rq r λk v=>?_⟩;cases k with
 |inl k=>exact id
 |inr l=>exactλ⟨c,e,q⟩=>⟨c,e,g _ _ q⟩
theorem D2.keep{P:U3}{w:U4}{H z:Hp}{a:UR}{kvs:List Ent}(d:D2 P w H a kvs)(e:z a=H a)(g:∀c ys,H c=Yl (.tup ys)->z c=Yl (.tup ys)):D2 P w z a kvs :=
 ⟨e.trans d.1,λp B=>(d.2 p B).keep g⟩
section
variable {P:U3}{w:U4}{H:Hp}{h:Vd}{a b:UR}
theorem oZ{k:List Itm}(ok:gY P w H h)(q:K2 H k b):sk P w h k b:=by
 obtain⟨vs,e,r⟩:=q;obtain⟨O,its,z,o,B,D,n,E⟩:=(show bh P w H h b (.tup vs)from ok b _ e)
 refine⟨o,its.toArray,n,B,D,E,?_⟩;clear O;show Ae P w h k its;clear E B D e
 induction r generalizing its with
 |nil=>cases z;exact .nil
 | @cons k v ks vs J t U =>
  cases z with
  |cons M V =>
   refine .cons ?_ (U _ V);cases k with
   |inl k=>cases(show v=kV k from J);exact qB M
   |inr l=>obtain⟨c,e,q⟩:=J;subst e;exact⟨c,M,mi ok q⟩
theorem qX{kvs:List Ent}(ok:gY P w H h)(d:D2 P w H a kvs):kvs.length<=U2/\(a==Vm)=false/\∃xs,Paired RE kvs xs/\h.DictOfH (h6 P w) a xs:=by
 obtain⟨⟨z,y,xs,r,o,E,ep,J,M,O,U,V⟩,_⟩:=(show bh P w H h a (iR P w a kvs)from ok a _ d.1)
 refine⟨z,y,xs,r,o,E,ep,J,M,O,U,?_,V⟩;have all:∀{l:List Ent}{m:List (List Itm×UR×UP)},Paired RE l m->(∀p∈l,K2 H p.1 p.2.1)->∀x∈m,sk P w h x.1 x.2.1:=by
  intro l m q
  induction q with
  |nil=>intro _ x B;exact nomatch B
  | @cons p q ps qs D t Z =>
   intro g x B;rcases Pq.mp B with e|B
   .subst e;rw[<-D.1,<-D.2.1];exact oZ ok (g p Pc)
   exact Z (λp hp=>g p (Pj _ hp)) x B
 exact all r d.2
end
section
variable {X:Cx}{pins:List (UR×VE)}{σ:L2.St}{H:Hp}{s:UW}{a b:UR}{kvs:List Ent}{k:List Itm}{v:V}{u r:UP}{A:Ve}{E:UP->UW->Prop}
theorem kW(z:A.units+2<cLine):(h6 X.prog X.w).room A.in1:=show A.in1.units+1<cLine from by show A.units+1+1<cLine;omega
theorem wa{Q:UP->UW->Prop}(M:A.units+2<cLine)(I:Inv X pins σ H s)(d:D2 X.prog X.w H a kvs)(O:K2 H k b)(l:nD kvs k=Yl v)(h:∀w' s',Inv X pins σ H s'->RelV v w'->Q w' s') :
  wpAny (model X.prog X.w) A (Wk (.ref a) (.ref b)) Q E s:=by
 obtain⟨z,hd,xs,B,dd⟩:=qX I.ba d;obtain⟨w',hw,D⟩:=j9.some_of (v:=v) (o:=(atKey xs k).map (·.2)) (by rw[<-l];exact vZ B k);obtain⟨p,U,J⟩:=Ph.mp hw;refine Wz (knd:=h6 X.prog X.w) (kW M) (oZ I.ba O) dd U ?_;rw[J];exact h w' _ (I.tok _) D
theorem wb{Q:Unit->UW->Prop}(O:A.units+2<cLine)(I:Inv X pins σ H s)(d:D2 X.prog X.w H a kvs)(U:K2 H k b)(hl:kvs.length<U2)(V:RelV v r)
  (h:∀s',Inv X pins σ (upd H a (iR X.prog X.w a (put2 kvs k b v))) s'->Q () s'):wpAny (model X.prog X.w) A (Yf (.ref a) (.ref b) r) Q E s:=by
 obtain⟨z,hd,xs,B,dd⟩:=qX I.ba d;have hz:xs.length<=sizeLine:=by rw[<-Paired.length B];exact z
 have D:(put2 kvs k b v).length<=sizeLine:=by have:=BR kvs k b v;omega
 refine Xu (knd:=h6 X.prog X.w) (hsz:=hz) (kW O) (oZ I.ba U) dd λh' J hs=>h _ ?_;obtain⟨q,Z,ep,M,h2,h3,h4,_,h5⟩:=J;exact jg I (by rw[d.1];exact True.intro) hs ⟨q,M⟩ (BS.ok ⟨D,hd,_,Hq B k b V,q,Z,ep,M,h2,h3,h4,h5⟩)
theorem D2.put{P:U3}{w:U4}{H:Hp}{a b:UR}{kvs:List Ent}{k:List Itm}{v:V}(d:D2 P w H a kvs)(E:K2 H k b):D2 P w (upd H a (iR P w a (put2 kvs k b v))) a (put2 kvs k b v):=by
 have g:∀c ys,H c=Yl (.tup ys)->upd H a (iR P w a (put2 kvs k b v)) c=Yl (.tup ys):=λc ys e=>by
  rw[ao (λz=>by rw[z,d.1]at e;cases e)];exact e
 refine⟨ag,λp B=>?_⟩;unfold put2 at B
 split at B
 .obtain⟨q,J,e⟩:=O4.mp B;have D:=(d.2 q J).keep g;by_cases z:q.1=k
  .rw[UQ z]at e;subst e;exact D
  rw[UO z]at e;subst e;exact D
 rcases Pl.mp B with B|B
 .exact(d.2 p B).keep g
 rw[O3.mp B];exact E.keep g
end
theorem xY{X:Cx}{pins:List (UR×VE)}{σ:L2.St}{H:Hp}{s:UW}{a:UR}{kvs:List Ent}(I:Inv X pins σ H s)(d:D2 X.prog X.w H a kvs):s.TypeIs (.ref a) "dict":=by
 obtain⟨_,_,xs,_,dd⟩:=qX I.ba d;exact dd.typeIs
def Fu(P:U3)(w:U4):TE:=λ_ H Q=>∀p,H p=none->Q (.ref p) (upd H p (iR P w p []))
def Fv(P:U3)(w:U4)(B ty:TE):TE:=λσ H Q=>B σ H λx D=>ty σ D λy z=>∃a b kvs k v,x=.ref a/\y=.ref b/\D2 P w z a kvs/\K2 z k b/\nD kvs k=Yl v/\Q v z
def Fw(P:U3)(w:U4)(B ty E:TE):TS:=λD σ H=>E σ H λv J=>B σ J λx M=>ty σ M λy z=>∃a b kvs k,x=.ref a/\y=.ref b/\D2 P w z a kvs/\K2 z k b/\kvs.length<U2/\D.nx σ (upd z a (iR P w a (put2 kvs k b v)))
section
variable {X:Cx}{o i e value:Vc}{pos pos' ME:V6}{td ty tv:TE}
theorem D7:PE X (.Dict [] [] pos) (Fu X.prog X.w):=λpins s σ H Q I h =>
 WV ⟨.ref s.heap.objs.size,_,I.laid (a:=s.heap.objs.size) (o:=iR X.prog X.w s.heap.objs.size []) (t':=s.toks) (λ_ _ q=>O8 _ q) (O5 _)
  (BS.ok ⟨PQ _,beq_eq_false_iff_ne.mpr (Ne.symm (PR I.big)),[],.nil,_,#[],0,Pn _ rfl,⟨rfl,rfl,rfl⟩,rfl,rfl,QJ⟩),rfl,h _ (I.ba.fresh (O5 _))⟩
theorem D8(D:X.A.units+2<cLine)(E:PE X o td)(hi:PE X i ty)(hs:AA i):PE X (.Subscript o i pos) (Fv X.prog X.w td ty):=by
 intro pins s σ H Q I h;refine rE RL.lookup hs (bI (E pins s σ H _ I h) λu J ⟨x,M,O,U,V⟩=>bI (hi pins J σ M _ O V) λZ s2 zq=>?_);obtain⟨y,H2,B,ry,a,b,kvs,k,v,ex,ey,d,hk,l,q2⟩:=zq;subst ex ey;obtain rfl:u=Value.ref a:=U;obtain rfl:Z=Value.ref b:=ry;exact⟨xY B d,wa D B d hk l λw' s3 I3 z=>⟨v,H2,I3,z,q2⟩⟩
theorem D9(z:X.A.units+2<cLine)(B:PE X o td)(hi:PE X i ty)(E:PE X value tv)(hs:WU value (Yl (.Subscript o i pos')) pos.line X.env=pure false) :
  PS X (.Assign [.Subscript o i pos'] value pos) (Fw X.prog X.w td ty tv):=by
 intro pins s σ H D I h;refine W2 (bI (E pins s σ H _ I h) λr J ⟨v,M,O,U,V⟩=>bI (B pins J σ M _ O V) λu Z ⟨x,H2,I2,rx,q2⟩=>bI (hi pins Z σ H2 _ I2 q2) λiv s3 zq=>?_) hs;obtain⟨y,H3,I3,ry,a,b,kvs,k,ex,ey,d,hk,l,q3⟩:=zq;subst ex ey;obtain rfl:u=Value.ref a:=rx;obtain rfl:iv=Value.ref b:=ry;exact wb z I3 d hk l U λs4 I4=>⟨σ,_,I4,q3⟩
end
end NK
namespace Ad
open PySem PySem.Spec PyProof.Rows PySem.W
def Kb(h:Vd)(d:UR)(z:Array VP)(ep:Nat):Prop:=∃o,h.get? d=Yl o/\o.cls=.type "dict"/\o.data=.dict z ep
section
variable {prog:U3}{w:U4}{A:Ve}{E:UP->UW->Prop}{s:UW}
theorem Kb.typeIs{d:UR}{z:Array VP}{ep:Nat}(x:Kb s.heap d z ep):s.TypeIs (.ref d) "dict":=let⟨o,B,D,_⟩:=x;⟨o,B,D⟩
theorem zt{d:UR}{D:Array VP}{ep:Nat}{Q:UP->UW->Prop}(hd:(d==Vm)=false)(H:Kb s.heap d D ep)
  (M:Q (.ref s.heap.objs.size) { s with heap:=s.heap.push { cls:=.type "dict_keyiterator",data:=.fields #[.ref d,.int 0 0,.int D.size 0,.int ep 0] } }):wpAny (model prog w) A (pyIter (.ref d)) Q E s:=by
 obtain⟨o,J,O,z⟩:=id H;have B:=H.typeIs;refine Wa B F.slot_dict_iter (U8 F.slot_dict_iter B F.entry_dict_iter ?_ (F.args_dict_iter_1 _));unfold Builtin.«dict.__iter__»;refine UM ?_;unfold Builtin.Dict.dictSlotNone;refine UM (VI B ?_);show wpAny _ _ (pure (Value.ref d)) _ _ s;refine US ?_;show wpAny _ _ (Builtin.Dict.showsAll d >>= _) _ _ s;unfold Builtin.Dict.showsAll;rw[UO (by rw[hd];exact Po)];refine UM (US (UM (Vp J z (UM (VU J z ?_)))));refine UM (U9 (US ⟨_,rfl,"dict_keyiterator",_,⟨_,Pn _ rfl,rfl⟩,F.slot_dict_keyiterator_next.lookup,?_⟩));simpa[rawInt]using M
theorem zv{B d:UR}{i ep:Nat}{H:Array VP}{Q:Option UP->UW->Prop}(z:s.heap.IsKeyIter B d i H.size ep)(Z:Kb s.heap d H ep)(U:i<H.size)
  (hQ:∀h',h'.IsKeyIter B d (i+1) H.size ep->Heap.SameBut B s.heap h'->Q (Yl H[i].key) { s with heap:=h' }):wpAny (model prog w) A (pyNext (.ref B)) Q E s:=by
 obtain⟨o,V,hc,hd⟩:=id z;obtain⟨od,J,Ls,M⟩:=id Z;unfold pyNext;refine UM (VC (wpAny_callSpecial?_slot (name:=Str.ofString "__next__") z.typeIs F.slot_dict_keyiterator_next (U8 F.slot_dict_keyiterator_next z.typeIs F.entry_dict_keyiterator_next ?_ (F.args_dict_keyiterator_next_1 _))));refine UM (US (UM (UM ?_)))
 (first|refine UM (VD z.typeIs (US ?_))|refine UM (VO z.typeIs (US ?_)));refine UM (WG V hd ?_)
 have O:Builtin.Dict_items.ownsTuple "dict_keyiterator" = false:=by decide
 simp only[O,Qg,Vq];show wpAny _ _ (if(Value.ref d==Value.none)=true then _ else _) _ _ s;rw[UO (show¬((Value.ref d==Value.none)=true)from Po)];refine UM (US (UM (Vp J M ?_)));rw[UO (by simp)];refine UM (US (UM (VU J M ?_)));rw[UO (by simp)];refine US ?_;simp only[show¬((i:Int)<0)from by omega,Vq,Qb,Rk U];refine UM ?_
 (first|refine UM (VD z.typeIs (US ?_))|refine UM (VO z.typeIs (US ?_)));refine UM (Xd z.typeIs ?_)
 show wpAny _ _ (WW (.ref B) 1 (rawInt ((i:Int)+1)) >>= _) _ _ s;refine UM (VG V hd (by simp) ?_);have D:(s.heap.update B (Obj.mapFields (·.setIfInBounds 1 (rawInt ((i:Int)+1))))).IsKeyIter B d (i+1) H.size ep:=⟨_,QC _ V (Obj.isFreed_of_fields (Obj.data_mapFields hd _)),(Obj.cls_mapFields ..).trans hc,by rw[Obj.data_mapFields hd];simp[rawInt]⟩
 refine UM (Vk ?_);refine UM (Xd (s:={ s with heap:=s.heap.update B (Obj.mapFields (·.setIfInBounds 1 (rawInt ((i:Int)+1)))) }) D.typeIs ?_);show wpAny _ _ (pure H[i].key) _ _ _;exact US (US ⟨_,rfl,US (hQ _ D (Heap.SameBut.update ..))⟩)
theorem BU{M d:UR}{ep:Nat}{B:Array VP}{Q:Option UP->UW->Prop}(U:A.handled=none)(z:s.heap.IsKeyIter M d B.size B.size ep)(V:Kb s.heap d B ep)
  (Z:∀h',Heap.ExtBut M s.heap h'->Q none { s with heap:=h' }):wpAny (model prog w) A (pyNext (.ref M)) Q E s:=by
 obtain⟨o,O,hc,hd⟩:=id z;obtain⟨od,D,Ls,H⟩:=id V;unfold pyNext;refine UM (VC (wpAny_callSpecial?_slot (name:=Str.ofString "__next__") z.typeIs F.slot_dict_keyiterator_next (U8 F.slot_dict_keyiterator_next z.typeIs F.entry_dict_keyiterator_next ?_ (F.args_dict_keyiterator_next_1 _))));refine UM (US (UM (UM ?_)))
 (first|refine UM (VD z.typeIs (US ?_))|refine UM (VO z.typeIs (US ?_)));refine UM (WG O hd ?_)
 have J:Builtin.Dict_items.ownsTuple "dict_keyiterator" = false:=by decide
 simp only[J,Qg,Vq];show wpAny _ _ (if(Value.ref d==Value.none)=true then _ else _) _ _ s;rw[UO (show¬((Value.ref d==Value.none)=true)from Po)];refine UM (US (UM (Vp D H ?_)));rw[UO (by simp)];refine UM (US (UM (VU D H ?_)));rw[UO (by simp)];refine US ?_;simp only[show¬((B.size:Int)<0)from by omega,Vq,Qb,SV (O5 B.size)];refine UM ?_
 (first|refine UM (VD z.typeIs (US ?_))|refine UM (VO z.typeIs (US ?_)));show wpAny _ _ (WW (.ref M) 0 .none >>= _) _ _ s
 refine UM (VG O hd (by simp) ?_);show wpAny _ _ (newExc (.type "StopIteration") [] >>= _) _ _ _;refine UM ?_;simp only[newExc,XC];refine UM (U9 ?_ (by size_fits));refine UM (m:=VH _ _) (VN (a:=Value.none) (by first|rfl|(simp only[VH];rfl)) ?_);refine U9 ?_ (by size_fits);simp only[X6];refine UM (WN ?_);rw[show A.in1.handled=none from U];refine UM (US (Xg ?_));refine UM (Vv (T:="StopIteration") (b:=true) ⟨_,Pn _ rfl,rfl⟩ WD ?_);exact US (Z _ (((Heap.SameBut.update ..).extBut.push _).push _))
end
end Ad
namespace NK
open PySem PySem.Spec PyProof.Rows L2
noncomputable instance acU{k:List Itm}{ks:List (List Itm)}:Decidable (k∈ks):=decidable_of_iff (ks.any (λx=>decide (x=k))=true) (by simp)
noncomputable def xZ(H:Hp):Hp:=λb=>match H b with
 |some (.tup xs)=>Yl (.tup xs)
 |_=>none
theorem qY{H:Hp}{b:UR}{xs:List V}(e:H b=Yl (.tup xs)):xZ H b=Yl (.tup xs):=by unfold xZ;rw[e]
theorem ur{P P':U3}{w w':U4}{H:Hp}{h:Vd}(ok:gY P w H h):gY P' w' (xZ H) h:=λb o e=>by
 unfold xZ at e
 split at e
 .next xs z =>
  cases e;exact(show bh P w H h b (.tup xs)from ok b _ z)
 cases e
theorem BV{P P':U3}{w w':U4}{H:Hp}{h:Vd}{k:List Itm}{b:UR}(ok:gY P w H h)(q:K2 H k b):sk P' w' h k b :=
 oZ (ur (P':=P') (w':=w') ok) (q.keep λc ys e=>qY e)
section
variable {X:Cx}{pins:List (UR×VE)}{σ:L2.St}{H:Hp}{s:UW}{A:Ve}
theorem Kc(I:Inv X pins σ H s)(z:A.units+1<cLine){x y:List Itm}{a b:UR}(B:K2 H x a)(D:K2 H y b):SeqAt.EqAt A s (.ref a) (.ref b) (decide (x=y)):=λprog w' E Q J =>
 BQ (P:=prog) (w:=w') z (BV I.ba B) (BV I.ba D) J
theorem Ke(I:Inv X pins σ H s)(z:A.units<cLine){x y:Itm}{u v:UP}(B:∀P w,pZ P w s.heap x u)(D:∀P w,pZ P w s.heap y v):SeqAt.EqAt A s u v (decide (x=y)):=λprog w' E Q J =>
 Ft (P:=prog) (w:=w') z (B _ _) (D _ _) J
end
def cV(H:Hp)(l:UR)(ks:List (List Itm)):Prop:=∃bs:List UR,H l=Yl (.lst (bs.map V.ref))/\bs.length=ks.length/\∀(i:Nat) (b:UR) (k:List Itm),bs[i]?=Yl b->ks[i]?=Yl k->K2 H k b
section
variable {X:Cx}
theorem K2.inj{H:Hp}{x y:List Itm}{b:UR}(M:K2 H x b)(O:K2 H y b):x=y:=by
 obtain⟨vs,e1,U⟩:=M;obtain⟨ws,e2,E⟩:=O;rw[e1]at e2;cases e2;clear e1
 induction U generalizing y with
 |nil=>cases E;rfl
 | @cons k v ks vs h t V =>
  cases E with
  | @cons J _ Z _ h' t' =>
   rw[V t'];congr 1;cases k with
   |inl a =>
    cases J with
    |inl D =>
     have h:v=kV a:=h;have h':v=kV D:=h';congr 1;have z:=h.symm.trans h';cases a <;> cases D <;> cases z <;> rfl
    |inr l' =>
     have h:v=kV a:=h;obtain⟨c,e,_⟩:=h';cases a <;> (rw[h]at e;cases e)
   |inr l =>
    obtain⟨c,e,q⟩:=h;cases J with
    |inl D =>
     have h':v=kV D:=h';cases D <;> (rw[h']at e;cases e)
    |inr l' =>
     obtain⟨c',e',B⟩:=h';cases e.symm.trans e';rw[q]at B;injection B with B;injection B with B;congr 1;have inj:∀a b:Key,kV a=kV b->a=b:=λa b z=>by cases a <;> cases b <;> cases z <;> rfl
     exact(Ri (f:=kV) inj).mp B
open Classical in
noncomputable def zw(H:Hp)(b:UR):List Itm:=if h:∃k,K2 H k b then h.choose else[]
theorem nR{H:Hp}{k:List Itm}{b:UR}(h:K2 H k b):zw H b=k:=by
 have e:∃k,K2 H k b:=⟨k,h⟩
 unfold zw;rw[XU e];exact K2.inj e.choose_spec h
open Classical in
noncomputable def BW(H:Hp)(k:List Itm):UP->Bool
 |.ref b=>decide (zw H b=k)
 |_=>false
def Kf(neg:Bool):R2:=λx y H Q=>∃(b l:UR) (k:List Itm) (ks:List (List Itm)),x=.ref b/\y=.ref l/\K2 H k b/\cV H l ks/\Q (.bl (neg != decide (k∈ks))) H
theorem cV.any{H:Hp}{l b:UR}{k:List Itm}{ks:List (List Itm)}{bs:List UR}(J:bs.length=ks.length)(z:∀(i:Nat) (b:UR) (k:List Itm),bs[i]?=Yl b->ks[i]?=Yl k->K2 H k b):(bs.map Value.ref).toArray.any (BW H k)=decide (k∈ks):=by
 rw[show(bs.map Value.ref).toArray.any (BW H k)=(bs.map Value.ref).any (BW H k) by simp,QW,Qq,U5];constructor
 .rintro⟨v,B,hz⟩;obtain⟨c,D,rfl⟩:=O4.mp B;obtain⟨i,hi,rfl⟩:=PB D;have e:=z i _ _ (OZ hi) (OZ (by omega));have hz:zw H bs[i]=k:=U0 hz;rw[nR e]at hz;rw[<-hz];exact PV _
 intro E;obtain⟨i,hi,rfl⟩:=PB E;have e:=z i _ _ (OZ (show i<bs.length by omega)) (OZ hi);exact⟨_,O4.mpr ⟨_,PV _,rfl⟩,UX (nR e)⟩
theorem cV.eqs{pins:List (UR×VE)}{σ:L2.St}{H:Hp}{s:UW}(I:Inv X pins σ H s){A:Ve}(E:A.units+1<cLine){b:UR}{k:List Itm}{ks:List (List Itm)}{bs:List UR}(J:K2 H k b)(V:bs.length=ks.length)(M:∀(i:Nat) (b:UR) (k:List Itm),bs[i]?=Yl b->ks[i]?=Yl k->K2 H k b) :
  ∀v,v∈(bs.map Value.ref).toArray->SeqAt.EqAt A s v (.ref b) (BW H k v):=λv O=>by
 obtain⟨c,U,rfl⟩:=O4.mp (show v∈bs.map Value.ref by simpa using O);obtain⟨i,hi,rfl⟩:=PB U;have e:=M i _ _ (OZ hi) (OZ (by omega));have z:=Kc (A:=A) I E e J;show SeqAt.EqAt _ _ _ _ (decide (zw H bs[i]=k));rw[nR e];have q:∀(p:Prop) (B D:Decidable p),@decide p B=@decide p D:=λp B D=>by congr
 rw[q _ _ (instDecidableEqList _ _)];rw[q _ (instDecidableEqList _ _) (instDecidableEqList _ _)]at z;exact z
theorem Hr(V:X.A.units+2<cLine):jF X (Vu .In) (Kf false):=by
 intro pins s σ H x y v u Q I D E h;obtain⟨b,l,k,ks,rfl,rfl,J,⟨bs,M,z,B⟩,q⟩:=h;cases D;cases E;obtain⟨its,r,O,hz⟩:=I.list (bc.of M);have U:its=bs.map Value.ref:=hW r;subst U;refine SeqAt.in_listAt (BW H k) O.isList (cV.eqs I (by show X.A.units+1+1<cLine;omega) J z B) ⟨.bl _,H,I,rfl,?_⟩;rw[cV.any (l:=l) (b:=b) z B];have:(false != decide (k∈ks))=decide (k∈ks):=by cases decide (k∈ks) <;> rfl
 rw[<-this];exact q
theorem zz(V:X.A.units+2<cLine):jF X (Vu .NotIn) (Kf true):=by
 intro pins s σ H x y v u Q I D E h;obtain⟨b,l,k,ks,rfl,rfl,J,⟨bs,M,z,B⟩,q⟩:=h;cases D;cases E;obtain⟨its,r,O,hz⟩:=I.list (bc.of M);have U:its=bs.map Value.ref:=hW r;subst U;refine SeqAt.notIn_listAt (BW H k) O.isList (cV.eqs I (by show X.A.units+1+1<cLine;omega) J z B) ⟨.bl _,H,I,rfl,?_⟩;rw[cV.any (l:=l) (b:=b) z B];have:(true != decide (k∈ks))=!decide (k∈ks):=by cases decide (k∈ks) <;> rfl
 rw[<-this];exact q
end
open AutoSeq1 (wpAny_loadPart')
open MeetsSeq MeetsSeq2 MeetsSeq3 SeqRoads2
theorem Ea(l:UR)(its:Array UP)(n:Nat)(x:UP)(e:UP->Bool)(j:Nat)(D:j<its.size)(E:e its[j]=true)(hz:its.size<=U2)(m:Nat) :
  ∀i:Nat,j-i=m->i<=j->(∀q (M:q<its.size),i<=q->q<j->e its[q]=false)->Meets (Builtin.«list.remove.loop» ⟨[.ref l,x,rawInt i],[]⟩)
   (λA R s=>s.heap.get? l=Yl { cls:=.type "list",dict:=none,data:=.seq its n,slots:=#[] }/\(∀y,y∈its->SeqAt.EqAt A.in1 s y x (e y))/\R (.ok (.ret .none)) { s with heap:=s.heap.update l (Obj.mapSeq λxs=>xs.eraseIdxIfInBounds j) }):=by
 induction m with
 |zero =>
  intro i O H _ P w A R s ⟨z,B,J⟩;obtain⟨U,V,Z,s4,s5⟩:=s;obtain rfl:i=j:=by omega
  wp_walk using Vs z
  rw[show its[((i:Nat):Int).toNat]?=Yl its[i] by simp[D]];refine UM (B its[i] (TU D) P w _ _ ?_);rw[E];have z2:(its.eraseIdxIfInBounds i).size<=U2+1:=Nat.le_succ_of_le (PH (by simp[Array.eraseIdxIfInBounds,D]) hz)
  wp_walk using(wpAny_updateSeq z rfl (hz:=hz) (_hz':=z2)),Vs z
  simpa using J
 |succ m ih =>
  intro i O H no P w A R s ⟨z,B,J⟩;obtain⟨U,V,Z,s4,s5⟩:=s;have lt:i<its.size:=by omega
  wp_walk using Vs z
  rw[show its[((i:Nat):Int).toNat]?=Yl its[i] by simp[lt]];refine UM (B its[i] (TU lt) P w _ _ ?_);rw[no i lt (O5 _) (by omega)]
  wp_walk
  rw[show((i:Int)+1)=((i+1:Nat):Int) by push_cast;rfl];refine⟨WO plain_remove_loop _,Xb entry_remove_loop ?_⟩;rw[Around.under_plainId plain_remove_loop _];exact ih (i+1) (by omega) (by omega) (λq M h1 h2=>no q M (by omega) h2) P w A R _ ⟨z,B,J⟩
theorem Eb(l:UR)(its:Array UP)(n:Nat)(x:UP)(e:UP->Bool)(j:Nat)(E:j<its.size)(z:e its[j]=true)(no:∀q (B:q<its.size),q<j->e its[q]=false)(hz:its.size<=U2) :
  Meets (Builtin.«list.remove» ⟨[.ref l,x],[]⟩)
   (λA R s=>s.heap.get? l=Yl { cls:=.type "list",dict:=none,data:=.seq its n,slots:=#[] }/\(∀y,y∈its->SeqAt.EqAt A.in1 s y x (e y))/\R (.ok (.ret .none)) { s with heap:=s.heap.update l (Obj.mapSeq λxs=>xs.eraseIdxIfInBounds j) }):=by
 intro P w A R s ⟨D,H,J⟩;obtain⟨O,U,V,Z,s5⟩:=s
 wp_walk using Vs D
 refine⟨WO plain_remove_loop _,Xb entry_remove_loop ?_⟩;rw[Around.under_plainId plain_remove_loop _];exact Ea l its n x e j E z hz _ 0 rfl (PQ _) (λq B _ M=>no q B M) P w A R _ ⟨D,H,J⟩
section
variable {X:Cx}
theorem dX{α β:Type}(f:α->β):∀(l:List α) (j:Nat),(l.map f).eraseIdx j=(l.eraseIdx j).map f
 |[],_=>rfl
 |_::_,0=>rfl
 |a::r,j+1=>by
  show f a::(r.map f).eraseIdx j=f a::(r.eraseIdx j).map f;rw[dX f r j]
def Nl:V->List V->Hp->VK->Prop:=λx vs H Q=>∃(l b:UR) (k:List Itm) (ks:List (List Itm)) (bs:List UR) (j:Nat),x=.ref l/\vs=[.ref b]/\K2 H k b/\H l=Yl (.lst (bs.map V.ref))/\bs.length=ks.length/\(∀(i:Nat) (b:UR) (k:List Itm),bs[i]?=Yl b->ks[i]?=Yl k->K2 H k b)/\ks[j]?=Yl k/\(∀i,i<j->ks[i]?≠Yl k)/\Q .eE (upd H l (.lst ((bs.eraseIdx j).map V.ref)))
theorem Hs(hu:X.A.units+2<cLine):JA X "list.remove" Nl:=by
 intro pins s σ H x vs v us Q I U V h;obtain⟨l,b,k,ks,bs,j,rfl,rfl,Z,J,h2,M,O,D,q⟩:=h;cases U;obtain⟨u,rfl,ru⟩:=V.one;cases ru;obtain⟨z,its,n,r,hl,e⟩:=I.vH J;have er:its=bs.map Value.ref:=hW r;subst er;have hj:j<ks.length:=(O1.mp O).1;have B:∀i (hi:i<ks.length),BW H k ((bs.map Value.ref).toArray[i]'(by simp;omega))=decide (ks[i]=k):=λi hi=>by
  have e:=M i _ _ (OZ (show i<bs.length by omega)) (OZ hi);have e2:(bs.map Value.ref).toArray[i]'(by simp;omega)=Value.ref (bs[i]'(by omega)):=by simp
  rw[e2];show decide (zw H _=k)=_;rw[nR e]
 refine X4 F.slot_list_remove ⟨_,e,rfl⟩ F.entry_list_remove (F.args_list_remove_2 _ _) (Eb l (bs.map Value.ref).toArray n (.ref b) (BW H k) j (by simp;omega) ?_ ?_ (by rw[Pe];rw[O0]at z⊢;exact z)) ⟨e,cV.eqs I (by show X.A.units+1+1<cLine;omega) Z h2 M,?_⟩
 .rw[B _ hj];exact UX ((O1.mp O).2)
 .intro i hi E;rw[B _ (by omega)];exact U1 λc=>D i E (by rw[OZ (by omega),c])
 refine⟨.eE,_,I.GF (its':=(bs.eraseIdx j).map Value.ref) J e ?_ ?_ ?_,rfl,q⟩
 .simp only[List.eraseIdxIfInBounds_toArray,dX]
 .rw[<-dX,<-dX];exact r.eraseIdx _
 rw[O0];have:=qD bs j;rw[O0]at z;omega
end
section
variable {prog:U3}{w:U4}{A:Ve}{E:UP->UW->Prop}{s:UW}{K:Type}[DecidableEq K]{knd:HeapKind prog w K}
noncomputable def wc(xs:List (K×UR×UP))(k:K):List (K×UR×UP):=xs.filter λx=>decide (x.1≠k)
theorem erase_filter{α:Type}{β:Type}[DecidableEq β](f:α->β)(k:β):∀(xs:List α) (j:Nat) (x:α),(xs.map f).Nodup->xs[j]?=Yl x->f x=k->xs.eraseIdx j=xs.filter λy=>decide (f y≠k)
 |[],j,x,_,h,_=>by simp at h
 |y::r,0,x,B,h,e=>by
  cases h;rw[Q8 (by simp[e])];show r=_;refine(To.mpr λz hz=>?_).symm;rw[Qk,PX]at B;exact UX λc=>B.1 (by rw[e,<-c];exact Tp hz)
 |y::r,j+1,x,B,h,e=>by
  rw[Qk,PX]at B;have h':r[j]?=Yl x:=h;have ne:f y≠k:=λc=>B.1 (by rw[c,<-e];exact Tp (Pk h'));rw[Q9 (by simp[ne])];show y::r.eraseIdx j=_;rw[erase_filter f k r j x B.2 h' e]
theorem zA(d a:UR)(k:K):Yi prog w (Builtin.«dict.pop» ⟨[.ref d,.ref a],[]⟩) (λA R s=>∃xs v,knd.room A.in1/\knd.is s.heap k a/\s.heap.DictOfH knd d xs/\xs.length<=U2/\(∃(b:UR) (j:Nat),xs[j]?=Yl (k,b,v)) /\
  ∀h',h'.DictOfH knd d (wc xs k)->Heap.SameBut d s.heap h'->R (.ok (.ret v)) { s with heap:=h',toks:=s.toks+knd.draws k }):=
 .of_wp λA R s zq=>by
  obtain⟨xs,v,V,B,Z,hsz,⟨b,j,D⟩,hR⟩:=zq;obtain⟨o,H,ep,E,hc,hd,J,M,O⟩:=id Z;have U:H.size<=sizeLine:=by rw[Xc J];exact hsz
  have hjx:j<xs.length:=(O1.mp D).1;unfold Builtin.«dict.pop»;refine UM ?_;unfold Builtin.Dict.keyAndDefault;refine UM (VI Z.typeIs ?_);show wpAny _ _ (pure (d,Value.ref a,none)) _ _ s;refine US ?_;dsimp only;rw[UO (show¬(keyPart (Value.ref a)).isSome=true from Po)];have ne:H.isEmpty=false:=by
   rw[Array.isEmpty_eq_false_iff];intro z;have:=Xc J;rw[z]at this;simp at this;omega
  refine UM (Vp E hd (UM (US ?_)));rw[ne];simp only[Qg,Vq];refine UM ?_;unfold Builtin.Dict.takeOut
  try with_reducible refine Vk ?_
  refine UM (knd.pyHash V B (UM (Xr (s:={ s with toks:=s.toks+knd.draws k }) V B E hd J M O (λno=>UU D (no j _)) ?_)));intro i p hi;obtain rfl:i=j:=idxH_unique O hi D;cases hi.symm.trans D;refine UM (Vp (s:={ s with toks:=s.toks+knd.draws k }) E hd ?_);rw[Ya J i,D];refine UM (Xl (hz:=U) (s:={ s with toks:=s.toks+knd.draws k }) E hd (US ?_));simp only[Option.isNone_some,Qg,Vq];refine UM (Xh (US ⟨v,rfl,hR _ ⟨_,_,ep+1,QC _ E (Obj.isFreed_of_dict (Obj.data_mapDictKeys hd _)),hc.mapDictKeys _,Obj.data_mapDictKeys hd _,?_,?_,?_⟩ (Heap.SameBut.update ..)⟩))
  .have e1:(H.eraseIdxIfInBounds i).toList=H.toList.eraseIdx i:=by
    obtain⟨l⟩:=H;simp
   rw[e1,J,dX,erase_filter (λx:K×UR×UP=>x.1) k xs i _ O D rfl]
   rfl
  .exactλx hx=>knd.keeps (M x (O9.mp hx).1) E hd (Heap.SameBut.update ..)
  exact O.sublist ((PY).map _)
end
section
variable {X:Cx}
noncomputable def iS(kvs:List Ent)(k:List Itm):List Ent:=kvs.filter λx=>decide (x.1≠k)
theorem Ec{kvs:List Ent}{xs:List (List Itm×UR×UP)}(r:Paired RE kvs xs)(k:List Itm):Paired RE (iS kvs k) (wc xs k):=by
 induction r with
 |nil=>exact .nil
 | @cons p q ps B h t z =>
  unfold iS wc;by_cases e:p.1=k
  .rw[Q8 (by simp[e]),Q8 (by simp[<-h.1,e])];exact z
  rw[Q9 (by simp[e]),Q9 (by simp[<-h.1,e])];exact .cons h z
theorem BX{kvs:List Ent}{xs:List (List Itm×UR×UP)}(r:Paired RE kvs xs):∀{j:Nat}{k:List Itm}{b:UR}{v:V},kvs[j]?=Yl (k,b,v)->∃u,xs[j]?=Yl (k,b,u)/\RelV v u:=by
 induction r with
 |nil=>intro j k b v h;simp at h
 | @cons p q ps M h t B =>
  intro j k b v z;cases j with
  |zero =>
   cases z;obtain⟨O,U,D⟩:=q;obtain⟨E,H,J⟩:=h;cases E;cases H;exact⟨D,rfl,J⟩
  |succ j=>exact B z
def Fx(P:U3)(w:U4):V->List V->Hp->VK->Prop:=λx vs H Q=>∃(a c:UR) (kvs:List Ent) (k:List Itm) (v:V),x=.ref a/\vs=[.ref c]/\D2 P w H a kvs/\K2 H k c/\(∃(b:UR) (j:Nat),kvs[j]?=Yl (k,b,v))/\Q v (upd H a (iR P w a (iS kvs k)))
theorem Ee(O:X.A.units+2<cLine):JA X "dict.pop" (Fx X.prog X.w):=by
 intro pins s σ H x vs v us Q I U V h;obtain⟨a,c,kvs,k,y,rfl,rfl,d,Z,⟨b,j,hj⟩,q⟩:=h;cases U;obtain⟨u,rfl,ru⟩:=V.one;cases ru;obtain⟨z,hd,xs,B,dd⟩:=qX I.ba d;obtain⟨u,D,E⟩:=BX B hj;have hz:xs.length<=sizeLine:=by rw[<-Paired.length B];exact z
 refine Wu F.slot_dict_pop dd.typeIs F.entry_dict_pop (F.args_dict_pop_2 _ _) (zA (knd:=h6 X.prog X.w) a c k) ⟨xs,u,kW O,oZ I.ba Z,dd,hz,⟨b,j,D⟩,λh' J hs=>?_⟩;obtain⟨o,es,ep,M,h2,h3,h4,_,h5⟩:=J;have hl:(iS kvs k).length<=sizeLine:=PH (PN _ _) z;exact⟨y,_,jg I (by rw[d.1];exact True.intro) hs ⟨o,M⟩ (BS.ok ⟨hl,hd,_,Ec B k,o,es,ep,M,h2,h3,h4,h5⟩),E,q⟩
theorem D2.drop{P:U3}{w:U4}{H:Hp}{a:UR}{kvs:List Ent}{k:List Itm}(d:D2 P w H a kvs):D2 P w (upd H a (iR P w a (iS kvs k))) a (iS kvs k):=
 ⟨ag,λp B=>(d.2 p (O9.mp B).1).keep λc ys e=>by rw[ao (λz=>by rw[z,d.1]at e;cases e)];exact e⟩
end
open Ad
section
variable {X:Cx}{pins:List (UR×VE)}{σ:L2.St}{H:Hp}{s:UW}{a b:UR}{kvs:List Ent}{k:List Itm}{v:V}{o:VE}{A:Ve}{E:UP->UW->Prop}
noncomputable def so(P:U3)(w:U4)(a:UR)(kvs:List Ent)(o:VE):HO:=.ext λh=>h.get? a=Yl o/\BS P w a kvs h
def zD(P:U3)(w:U4)(H:Hp)(a:UR)(kvs:List Ent)(o:VE):Prop:=H a=Yl (so P w a kvs o)/\∀p∈kvs,K2 H p.1 p.2.1
theorem Ht{P:U3}{w:U4}{h:Vd}(q:BS P w a kvs h)(e:h.get? a=Yl o):bh P w H h a (so P w a kvs o):=
 ⟨⟨e,q⟩,⟨o,e⟩,λM O B g=>⟨g o B.1,by
  obtain⟨z,y,xs,r,D,E,ep,J,t⟩:=B.2;exact⟨z,y,xs,r,D,E,ep,g D J,t⟩⟩⟩
theorem sr{P:U3}{w:U4}{h:Vd}(ok:gY P w H h)(d:zD P w H a kvs o):h.get? a=Yl o/\BS P w a kvs h:=by
 obtain⟨q,_⟩:=(show bh P w H h a (so P w a kvs o)from ok a _ d.1)
 exact q
theorem BY{P:U3}{w:U4}{h:Vd}(ok:gY P w H h)(q:BS P w a kvs h)(E:∀p∈kvs,K2 H p.1 p.2.1):kvs.length<=U2/\(a==Vm)=false/\∃xs,Paired RE kvs xs/\h.DictOfH (h6 P w) a xs:=by
 obtain⟨z,y,xs,r,o,J,ep,M,O,U,V,Z⟩:=q;refine⟨z,y,xs,r,o,J,ep,M,O,U,V,?_,Z⟩;have all:∀{l:List Ent}{m:List (List Itm×UR×UP)},Paired RE l m->(∀p∈l,K2 H p.1 p.2.1)->∀x∈m,sk P w h x.1 x.2.1:=by
  intro l m q
  induction q with
  |nil=>intro _ x B;exact nomatch B
  | @cons p q ps qs D t ih =>
   intro g x B;rcases Pq.mp B with e|B
   .subst e;rw[<-D.1,<-D.2.1];exact oZ ok (g p Pc)
   exact ih (λp hp=>g p (Pj _ hp)) x B
 exact all r E
theorem D2.freeze(I:Inv X pins σ H s)(d:D2 X.prog X.w H a kvs):∃o B ep,s.heap.get? a=Yl o/\o.cls=.type "dict"/\o.data=.dict B ep/\B.size=kvs.length/\Inv X pins σ (upd H a (so X.prog X.w a kvs o)) s:=by
 obtain⟨q,_⟩:=(show bh X.prog X.w H s.heap a (iR X.prog X.w a kvs)from I.ba a _ d.1)
 obtain⟨z,y,xs,r,o,B,ep,D,E,J,M,O⟩:=id q;have hsz:B.size=kvs.length:=by
  rw[r.length];have:=congrArg Rx M;rwa[QU,O0]at this
 exact⟨o,B,ep,D,E.1,J,hsz,I.write (x:=a) (e:=a) (t':=s.toks) (by rw[d.1];exact True.intro) (.inl rfl) (λb q U z=>z) ⟨o,D⟩ (Ht q D)⟩
theorem zD.Nm(I:Inv X pins σ H s)(d:zD X.prog X.w H a kvs o):Inv X pins σ (upd H a (iR X.prog X.w a kvs)) s:=by
 obtain⟨e,q⟩:=sr I.ba d;exact I.write (x:=a) (e:=a) (t':=s.toks) (by rw[d.1];exact True.intro) (.inl rfl) (λb q B z=>z) ⟨o,e⟩ (BS.ok q)
theorem D2.to{P:U3}{w:U4}{H:Hp}(d:D2 P w H a kvs):zD P w (upd H a (so P w a kvs o)) a kvs o :=
 ⟨ag,λp B=>(d.2 p B).keep λc ys e=>by rw[ao (λz=>by rw[z,d.1]at e;cases e)];exact e⟩
end
section
variable {X:Cx}{o i:Vc}{pos:V6}{td ty:TE}
def Hu(P:U3)(w:U4)(td ty:TE):TE:=λσ H Q=>td σ H λx B=>ty σ B λy z=>∃a b kvs D k v,x=.ref a/\y=.ref b/\zD P w z a kvs D/\K2 z k b/\nD kvs k=Yl v/\Q v z
theorem uu{P:U3}{w:U4}(M:X.prog=P)(hw:X.w=w)(O:X.A.units+2<cLine)(U:PE X o td)(hi:PE X i ty)(hs:AA i):PE X (.Subscript o i pos) (Hu P w td ty):=by
 subst M hw;intro pins s σ H Q I h;refine rE RL.lookup hs (bI (U pins s σ H _ I h) λu V ⟨x,Z,I1,rx,q1⟩=>bI (hi pins V σ Z _ I1 q1) λiv s2 zq=>?_);obtain⟨y,H2,B,ry,a,b,kvs,ob,k,v,ex,ey,d,hk,l,q2⟩:=zq;subst ex ey;obtain rfl:u=Value.ref a:=rx;obtain rfl:iv=Value.ref b:=ry;obtain⟨z,hd,xs,D,dd⟩:=BY B.ba (sr B.ba d).2 d.2;obtain⟨w',hw,E⟩:=j9.some_of (v:=v) (o:=(atKey xs k).map (·.2)) (by rw[<-l];exact vZ D k);obtain⟨p,hp,J⟩:=Ph.mp hw;refine⟨dd.typeIs,Wz (knd:=h6 X.prog X.w) (kW O) (oZ B.ba hk) dd hp ?_⟩;rw[J];exact⟨v,H2,B.tok _,E,q2⟩
end
noncomputable def Nn(P:U3)(w:U4)(d:UR)(o:VE)(kvs:List Ent):It :=
 ⟨λi H=>i<kvs.length/\zD P w H d kvs o,λi H y z=>z=H/\∃k b v,kvs[i]?=Yl (k,b,v)/\y=.ref b,λi H=>kvs.length<=i/\zD P w H d kvs o⟩
theorem Ef{P:U3}{w:U4}{K:Pa}{tg:Vc}(d J:UR)(o:VE)(kvs:List Ent)(U:Array VP)(ep:Nat)(V:o.cls=.type "dict")(Z:o.data=.dict U ep)(hsz:U.size=kvs.length) :
  Turn P w K tg (Nn P w d o kvs) [J] J (λi h=>i<=kvs.length/\h.IsKeyIter J d i U.size ep) where
 mem:=by simp
 obj:=λi h st b M=>by
  have e:b=J:=by simpa using M
  subst e;obtain⟨_,o,e,_,d⟩:=st;exact⟨_,e,λv z=>by rw[d]at z;cases z⟩
 keep:=λi h h' st k=>⟨st.1,st.2.at λo e=>k J (by simp) o e⟩
 item:=by
  intro X hP hw hK hc i pins s σ H E I hf st hg;subst hP hw hK;obtain⟨hi,dF⟩:=hg;obtain⟨_,B⟩:=st;obtain⟨ho,z,lo,xs,rel,od,O,Nf,h1,h2,h3,h4,h5⟩:=sr I.ba dF;obtain⟨f0,f1,f2,f3,f4,f5⟩:=hf J (by simp);have e1:od=o:=by rw[ho]at h1;exact(Option.some.inj h1).symm
  subst e1;have e2:O=U/\Nf=ep:=by rw[Z]at h3;cases h3;exact⟨rfl,rfl⟩
  obtain⟨rfl,rfl⟩:=e2;have J9:i<O.size:=by omega
  have hx:kvs[i]?=Yl (kvs[i].1,kvs[i].2.1,kvs[i].2.2):=OZ hi;obtain⟨u,LA,_⟩:=BX rel hx;have ee:O[i]=WY (h6 X.prog X.w) (kvs[i].1,kvs[i].2.1,u):=by
   have e:=Ya h4 i;rw[LA,Rk J9]at e;exact Option.some.inj e
  refine zv B ⟨od,h1,V,h3⟩ J9 λh' D MV=>?_;have I1:Inv X pins σ H { s with heap:=h' }:=I.turned (t':=s.toks) (λb o M e=>(MV.2 b M).trans e) f0 f1 f3 f4 f5;obtain⟨oi,e,c,dd⟩:=id D;refine⟨_,rfl,oq (s:={ s with heap:=h' }) e c dd (by decide) ⟨.ref kvs[i].2.1,H,I1,?_,⟨rfl,_,_,_,hx,rfl⟩,⟨hi,D⟩,λb M=>(hf b M).1⟩⟩;rw[ee]
  rfl
 done:=by
  intro X hP hw hK hc i pins s σ H E I hf st hg;subst hP hw hK;obtain⟨hi,dF⟩:=hg;obtain⟨hle,B⟩:=st;obtain⟨ho,_⟩:=sr I.ba dF;obtain⟨f0,f1,f2,f3,f4,f5⟩:=hf J (by simp);have e3:i=U.size:=by omega
  rw[e3]at B;exact BU (I.ok.hd hc) B ⟨o,ho,V,Z⟩ λh' eb=>⟨rfl,I.turned (t':=s.toks) (λb o M e=>eb b o M e) f0 f1 f3 f4 f5⟩
 self:=λ_ _ _ _ _ st h=>wpAny_pyIter_keyiter st.2 h
section
variable {X:Cx}
noncomputable def iKs(P:U3)(w:U4)(to:TE):TI:=λσ H R=>to σ H λv z=>∃d kvs,v=.ref d/\D2 P w z d kvs/\∀o,R (Nn P w d o kvs) (upd z d (so P w d kvs o))
theorem Kg{e M:Vc}{to:TE}(O:PE X e to):PI X M e (iKs X.prog X.w to):=by
 intro pins s σ H R I h;refine bI (O pins s σ H _ I h) λv U V=>?_;obtain⟨x,H1,D,Z,d,kvs,ex,hd,q⟩:=V;subst ex;cases(show v=Value.ref d from Z);obtain⟨o,es,ep,h1,E,J,h4,B⟩:=D2.freeze D hd;obtain⟨z,lo,_⟩:=qX D.ba hd;refine zt lo ⟨o,h1,E,J⟩ ?_;refine⟨_,[_],_,_,_,rfl,B.kept (t':=U.toks) λb o e=>O8 _ e,Ef d _ o kvs es ep E J h4,⟨PQ _,⟨_,Pn _ rfl,rfl,rfl⟩⟩,λb hb=>?_,q o⟩;have e:=O3.mp hb;subst e;exact B.l9 (O5 _) (B.ba.fresh (O5 _))
theorem x4{P:U3}{w:U4}{d:UR}{o:VE}{kvs:List Ent}{g:TG}{J:TT}{M:TE}{D:UR}{Q:VK}{z:L2.St}{H₀:Hp}(Pv:Nat->L2.St->Hp->Prop)(V:Pv 0 z H₀)(Z:∀i σ H,i<=kvs.length->Pv i σ H->zD P w H d kvs o)
  (hs:∀i k b v σ H,kvs[i]?=Yl (k,b,v)->Pv i σ H->g (.ref b) σ H λB H3=>J B H3 λb O=>if b=true then M B O λv U=>∃ys,U D=Yl (.lst ys)/\ys.length<U2/\Pv (i+1) B (upd U D (.lst (ys++[v])))else Pv (i+1) B O)
  (hd:∀σ H,Pv kvs.length σ H->Q (.ref D) H):kC (Nn P w d o kvs) g J M D Q z H₀:=by
 refine⟨λi m σ H=>m=kvs.length-i/\i<=kvs.length/\Pv i σ H,⟨kvs.length,by simp,PQ _,V⟩,?_⟩;rintro i m σ H ⟨rfl,hi,p⟩;have q:=Z i σ H hi p;by_cases E:i<kvs.length
 .refine .inr ⟨⟨E,q⟩,Pv (i+1),λσ' H' p'=>⟨kvs.length-(i+1),by omega,rfl,E,p'⟩,λx H' y=>?_⟩;obtain⟨e2,k,b,v,hx,e⟩:=y;subst e e2;exact hs i k b v σ _ hx p
 have e:i=kvs.length:=by omega
 subst e;exact .inl ⟨⟨O5 _,q⟩,hd σ H p⟩
def Fy(P:U3)(w:U4)(t:TE):TE:=λσ H Q=>t σ H λv z=>∃a kvs o,zD P w z a kvs o/\Q v (upd z a (iR P w a kvs))
theorem Eg{e:Vc}{t:TE}(z:PE X e t):PE X e (Fy X.prog X.w t):=by
 intro pins s σ H Q I h;refine bI (z pins s σ H _ I h) λu E B=>?_;obtain⟨v,J,D,r,a,kvs,o,d,q⟩:=B;exact⟨v,_,zD.Nm D d,r,q⟩
def Kh(P:U3)(w:U4)(r:V->List V->Hp->VK->Prop)(to:TE)(t:TA):TE:=λσ H Q=>to σ H λx z=>(∃a kvs,x=.ref a/\D2 P w z a kvs)/\t σ z λvs B=>r x vs B Q
theorem Hv{o e:Vc}{D:List Vc}{name:Vg}{id:String}{apos B:V6}{r:V->List V->Hp->VK->Prop}{to:TE}{t:TA}(pa:PlainAttrs "dict")(slot:Slot "dict" name id)(U:typeOf (.builtin id)=pure (.type "method_descriptor"))(hm:JA X id r)(Z:PE X o to)(ha:PA X (e::D) t)
  (J:VY o name X.env (eval o X.env)=eval o X.env:=by rfl)
  (O:((backTo B (U6 (e::D) X.env)).all (λx=>!x.1)&&(X3 B (Xf [] X.env)).all (λx=>x.1.isSome)&&decide ((e::D).length+([]:List W3).length+(if([]:List W3).isEmpty then 0 else 1)<30))=true:=by rfl)
  (M:(apos.endLine==B.line)=true:=by rfl) (hs:U6 (e::D) X.env=(false,eval e X.env)::U6 D X.env:=by rfl) (E:(backTo B (U6 D X.env)).any (·.1)=false:=by rfl) :
  PE X (.Call (.Attribute o name apos) (e::D) [] B) (Kh X.prog X.w r to t):=by
 intro pins s σ H Q I h;refine W8 J O M rfl (bI (Z pins s σ H _ I h) λv s1 zq=>?_);obtain⟨x,H1,I1,r1,⟨a,kvs,ex,d⟩,q1⟩:=zq;subst ex;obtain rfl:v=Value.ref a:=r1;have h1:=xY I1 d;have h2:∀c,Value.ref a=.ref c->∃ob,s1.heap.get? c=Yl ob/\ob.dict=none:=λc z=>by
  cases z;obtain⟨_,_,xs,_,dd⟩:=qX I1.ba d;obtain⟨o,D,ep,Z,hx,_⟩:=dd;exact⟨o,Z,hx.2.1⟩
 refine⟨"dict",id,pa,slot,U,h1,h2,?_⟩;have hA:=ha B pins s1 σ H1 _ I1 q1;rw[hs]at hA⊢;refine Calls.callWith_builtin (by show(false||(backTo B (U6 D X.env)).any (·.1))=false;rw[E] <;> rfl) (Calls.evalArgs_plain ?_);exact bI hA λus s2 ⟨vs,H2,I2,r2,q2⟩=>hm pins s2 σ H2 (.ref a) vs _ us Q I2 rfl r2 q2
theorem K2.its{P:U3}{w:U4}{H:Hp}{h:Vd}(ok:gY P w H h):∀{k:List Itm}{vs:List V}{z:List UP},Paired (IV H) k vs->Vals vs z->∀(j:Nat) (x:Itm) (u:UP),k[j]?=Yl x->z[j]?=Yl u->∀P' w',pZ P' w' h x u
 |_,_,_,.nil,_,j,x,u,e,_,_,_=>by simp at e
 |_,_,_,.cons (a:=a) (b:=b) B t,.cons D E,0,x,u,e1,e2,P',w'=>by
  cases e1;cases e2;cases a with
  |inl k=>cases(show b=kV k from B);exact qB D
  |inr l=>obtain⟨c,e,q⟩:=B;subst e;exact⟨c,D,mi (ur (P':=P') (w':=w') ok) (qY q)⟩
 |_,_,_,.cons _ t,.cons _ E,j+1,x,u,e1,e2,P',w'=>K2.its ok t E j x u e1 e2 P' w'
def Np:R2:=λx y H Q=>∃(a b:UR) (k l:List Itm),x=.ref a/\y=.ref b/\K2 H k a/\K2 H l b/\Q (.bl (!decide (k=l))) H
theorem Hw(hu:X.A.units+1<cLine):jF X (Vu .NotEq) Np:=by
 intro pins s σ H x y v u Q I rx ry h;obtain⟨a,b,k,l,rfl,rfl,⟨vs,h1,z⟩,⟨ws,h2,B⟩,q⟩:=h;cases rx;cases ry;obtain⟨D,E,t1,z1⟩:=I.tuple (bZ.of h1);obtain⟨J,M,t2,z2⟩:=I.tuple (bZ.of h2);have l1:D.length=k.length:=by rw[<-E.length,<-z.length]
 have l2:J.length=l.length:=by rw[<-M.length,<-B.length]
 refine SeqAt.RcNeAt.tuples (A:=X.A) (e:=λj=>decide (k[j]?=l[j]?)) (show s.heap.IsTuple a D.toArray from t1) (show s.heap.IsTuple b J.toArray from t2) (by omega) (λj O U=>?_) X.prog X.w X.xe _ ⟨.bl (!decide (k=l)),H,I,?_,q⟩
 .rw[Pe]at O U;have V:=OZ (l:=k) (i:=j) (by omega);have Z:=OZ (l:=l) (i:=j) (by omega);have w:=Ke (A:=X.A.in1) I (by show X.A.units+1<cLine;exact hu) (K2.its I.ba z E j _ _ V (OZ O)) (K2.its I.ba B M j _ _ Z (OZ U));rw[V,Z];have ed:decide (Yl k[j]=Yl l[j])=decide (k[j]=l[j]):=decide_eq_decide.mpr ⟨λh=>Option.some.inj h,λh=>congrArg some h⟩;rw[ed];simpa using w
 show Value.bool _=Value.bool _;congr 2;rw[Pe,Pe,l1,l2,QW,U5,Qn,QL,beq_iff_eq];constructor
 .rintro⟨g1,g2⟩;refine QV λj=>?_;by_cases c:j<k.length
  .exact U0 (g1 j (Pm.mpr (by omega)))
  rw[Qc (by omega),Qc (by omega)]
 intro g;exact⟨λj _=>UX (by rw[g]),by rw[g]⟩
end
section
variable {X:Cx}{P:U3}{w:U4}(U:X.prog=P)(hw:X.w=w)
include U hw
theorem BZ{e z:Vc}{to:TE}(B:PE X e to):PI X z e (iKs P w to):=by subst U hw;exact Kg B
theorem uv{e:Vc}{t:TE}(z:PE X e t):PE X e (Fy P w t):=by subst U hw;exact Eg z
theorem uw{pos:V6}:PE X (.Dict [] [] pos) (Fu P w):=by subst U hw;exact D7
theorem fQ{o i:Vc}{pos:V6}{z ty:TE}(B:X.A.units+2<cLine)(D:PE X o z)(hi:PE X i ty)(hs:AA i):PE X (.Subscript o i pos) (Fv P w z ty):=by subst U hw;exact D8 B D hi hs
theorem ux{o i value:Vc}{pos pos':V6}{z ty B:TE}(D:X.A.units+2<cLine)(E:PE X o z)(hi:PE X i ty)(H:PE X value B)(hs:WU value (Yl (.Subscript o i pos')) pos.line X.env=pure false):PS X (.Assign [.Subscript o i pos'] value pos) (Fw P w z ty B):=by subst U hw;exact D9 D E hi H hs
theorem B0{o e:Vc}{apos z:V6}{to:TE}{t:TA}(J:X.A.units+2<cLine)(M:PE X o to)(O:PA X [e] t)
  (D:VY o "pop" X.env (eval o X.env)=eval o X.env:=by rfl)
  (H:((backTo z (U6 [e] X.env)).all (λx=>!x.1)&&(X3 z (Xf [] X.env)).all (λx=>x.1.isSome)&&decide (([e]:List Vc).length+([]:List W3).length+(if([]:List W3).isEmpty then 0 else 1)<30))=true:=by rfl)
  (E:(apos.endLine==z.line)=true:=by rfl) (hs:U6 [e] X.env=(false,eval e X.env)::U6 [] X.env:=by rfl) (B:(backTo z (U6 [] X.env)).any (·.1)=false:=by rfl) :
  PE X (.Call (.Attribute o "pop" apos) [e] [] z) (Kh P w (Fx P w) to t):=by
 subst U hw;exact Hv F.plainAttrs_dict F.slot_dict_pop F.type_dict_pop (Ee J) M O D H E hs B
end
end NK
namespace rS
open PySem PyProof.Rows PySem.W
section
variable {prog:U3}{w:U4}{A:Ve}{E:UP->UW->Prop}{s:UW}
theorem uy [vo]{vs:List UP}{rk:UP->Int}(H:∀p:VA,num p=rk p.1){xs:Array VA}(J:xs.Perm (Wd vs))(hs:SortedTo xs (Wd vs).size):(xs.map (·.2)).toList.Perm vs/\(xs.map (·.2)).toList.Pairwise λu v=>rk u<=rk v:=by
 have M:=Sv.mp J;have O:(Wd vs).toList=vs.zip vs:=by unfold Wd;simp
 have same:∀p∈xs.toList,p.1=p.2:=λp B=>by
  have z:=M.mem_iff.mp B;rw[O]at z;obtain⟨i,hi,e⟩:=PB z;rw[List.getElem_zip]at e;rw[<-e]
 rw[Array.toList_map];constructor
 .have z:=M.map (·.2);rw[O]at z;have e2:(vs.zip vs).map (·.2)=vs:=by rw[Uk];exact O5 _
  rw[e2]at z;exact z
 rw[PD];refine PC.mpr λi j hi U V=>?_;have hsz:xs.size=(Wd vs).size:=J.size_eq;have D:i<xs.size:=by simpa using hi
 have E:j<xs.size:=by simpa using U
 have z:=hs i j (by omega) (by omega);rw[Bo (getElem?_pos xs i D),Bo (getElem?_pos xs j E),H,H]at z;have e1:=same _ (PV hi);have e2:=same _ (PV U);rw[<-e1,<-e2];simpa using z
theorem B1{a:UR}{vs:List UP}{n:Nat}{P:PySem.Fin->UW->Prop}(B:s.heap.get? a=Yl (seqObj "list" vs.toArray n))(O:vs.length<2)
  (h:P (.done (.ret .none)) { s with heap:=sortedHeap s.heap a vs vs.toArray }):wpAny (model prog w) A (Builtin.«list.sort» ⟨[.ref a],[]⟩) P E s:=by
 rw[list_sort_plain];obtain⟨k,J⟩:∃k,(s.heap.update a (Obj.mapSeq λ_=>#[])).get? a=Yl (seqObj "list" #[] k):=⟨_,get?_update_seq B (λ_=>#[])⟩
 have z:(((s.heap.update a (Obj.mapSeq λ_=>#[])).push (seqObj "tuple" vs.toArray 0)).push (seqObj "list" #[] 0)).get? a=Yl (seqObj "list" #[] k):=
  O8 _ (O8 _ J)
 have D:vs.toArray.size<=sizeLine:=by rw[Pe,Vo];omega
 have H:vs.toArray.toList.length<=sizeLine:=by rw[Vo];simp;omega
 refine UM (listItems_at B rfl (UM (WR B rfl (UM (Xm J rfl ?_)) D (PQ _))));refine UM (WC (UM (WS (Vk ?_) (PQ _))) H);show wpAny (model prog w) A _ P E { s with heap:=((s.heap.update a (Obj.mapSeq λ_=>#[])).push (seqObj "tuple" vs.toArray 0)).push (seqObj "list" #[] 0) };dsimp only;have M:vs.toArray.size<2:=by rw[Pe];omega
 rw[UQ M,UQ M];refine UM (US (UM (US ?_)));dsimp only;have e:(arrOf (SortSt.mk' general' (vs.toArray.zip vs.toArray) #[] 7 none)).map (·.2)=vs.toArray:=by
  apply Array.toList_inj.mp;show((vs.toArray.zip vs.toArray).map (·.2)).toList=vs;have e2:(vs.zip vs).map (·.2)=vs:=by rw[Uk];exact O5 _
  simpa using e2
 rw[e];refine UM (Xm z rfl (UM (WR z rfl ?_ (hsz2:=by rw[Pe,Vo];omega))));dsimp only;rw[bne_self_eq_false];exact US h
theorem wd{l:UR}{vs:List UP}{Q:UP->UW->Prop}(D:s.heap.IsList l vs.toArray)(H:vs.length<2)
  (h:Q (.ref (s.heap.objs.size+1)) { s with heap:=sortedAll s.heap vs vs.toArray }):wpAny (model prog w) A (call (.builtin "sorted") [.ref l]) Q E s:=by
 have z:((s.heap.push (seqObj "list" #[] 0)).update s.heap.objs.size (Obj.mapSeq (· ++ vs.toArray))).objs.size=s.heap.objs.size+1:=(Ul _ _ _).trans (size_push' _ _);have B:(((s.heap.push (seqObj "list" #[] 0)).update s.heap.objs.size (Obj.mapSeq (· ++ vs.toArray))).push (seqObj "list" vs.toArray 0)).get? (s.heap.objs.size+1)=Yl (seqObj "list" vs.toArray 0):=z▸Pn _ rfl;refine Calls.call_function_entry kind_sorted plain_sorted entry_sorted (args_sorted1 _) ?_;unfold Builtin.«sorted»;refine UM (m:=checkCount "sorted" 1 1 _) (US (UM (collect_list D (UM (WS ?_ (by rw[Vo];omega))) (hsz:=by rw[Vo];omega))));show wpAny _ _ _ _ _ { s with heap:=((s.heap.push (seqObj "list" #[] 0)).update s.heap.objs.size (Obj.mapSeq (· ++ vs.toArray))).push (seqObj "list" vs.toArray 0) };rw[z];exact UM (Vk (U8 slot_list_sort ⟨_,B,rfl⟩ entry_list_sort (B1 B H ⟨_,rfl,US ⟨_,rfl,h⟩⟩) (args_list_sort _)))
end
end rS
namespace Th
open Classical
section
variable {N:Nat}{a b:Nat->Nat}
inductive Kd|ring|odd|bare|tied
deriving DecidableEq
end
end Th
set_option maxHeartbeats 4000000
namespace aC
open PySem L2
noncomputable def ks:Th.Kd->Vg
 |.ring=>"ring"
 |.odd=>"odd"
 |.bare=>"bare"
 |.tied=>"tied"
variable (K:Pa)
theorem B2:∀a b:Th.Kd,ks a=ks b->a=b:=by
 intro a b h;cases a <;> cases b <;> first|rfl|exact UU h (by decide)
end aC
namespace rS
open PySem PySem.Spec PyProof.Rows PySem.W L2
noncomputable def kx:Th.Kd->Int
 |.bare=>0
 |.odd=>1
 |.ring=>2
 |.tied=>3
theorem Hx:∀a b:Th.Kd,kx a=kx b->a=b:=by intro a b h;cases a <;> cases b <;> first|rfl|exact UU h (by decide)
theorem Ki:∀a b:Th.Kd,decide ((aC.ks a).cps.toList<(aC.ks b).cps.toList)=decide (kx a<kx b):=by intro a b;cases a <;> cases b <;> decide +kernel
def Pr(h:Vd)(str:Bool)(v:UP)(r:Int):Prop:=∃(t:UR) (o:VE) (n:Nat) (x:UP) (y a:Int) (z B:Tok),v=.ref t/\h.get? t=Yl o/\o.cls=.type "tuple"/\o.data=.seq #[x,.int y B] n/\0<=y/\y<1000/\r=1000*a+y /\
 ((str=false/\x=.int a z)\/(str=true/\∃k:Th.Kd,x=.str (aC.ks k) z/\a=kx k))
theorem Pr.uniq{h:Vd}{str:Bool}{v:UP}{r O:Int}(p:Pr h str v r)(q:Pr h str v O):r=O:=by
 obtain⟨t,o,n,x,y,a,u1,u2,rfl,e1,e2,e3,e4,e5,U,E⟩:=p;obtain⟨t',o',n',x',y',a',u1',u2',M,V,f2,D,f4,f5,Z,B⟩:=q;injection M with M;subst M;rw[e1]at V;obtain rfl:=Option.some.inj V;rw[e3]at D;injection D with D _;have D:=congrArg TZ D;injection D with z H;injection H with H _;injection H with H _;subst H;rcases E with⟨s1,E⟩|⟨e8,k,E,e9⟩
 .rcases B with⟨_,B⟩|⟨J,_⟩
  .rw[E,B]at z;injection z with z _;rw[U,Z,z]
  rw[s1]at J;cases J
 rcases B with⟨J,B⟩|⟨_,k',B,f9⟩
 .rw[e8]at J;cases J
 rw[E,B]at z;injection z with z _;have:=aC.B2 _ _ z;rw[U,Z,e9,f9,this]
open Classical in
noncomputable def Hy(h:Vd)(str:Bool)(v:UP):Int:=if e:∃r,Pr h str v r then choose e else 0
theorem B3{h:Vd}{str:Bool}{v:UP}{r:Int}(p:Pr h str v r):Hy h str v=r:=by
 unfold Hy;have e:∃r,Pr h str v r:=⟨r,p⟩
 rw[XU e];exact(Sb e).uniq p
@[reducible] noncomputable def Hz(h:Vd)(str:Bool):vo:=⟨λp=>∃r,Pr h str p.1 r,λp=>Hy h str p.1,XW true⟩
noncomputable def tyP(str:Bool):Value:=if str=true then .type "str" else .type "int"
theorem Eh{prog:U3}{w:U4}{A:Ve}{s:UW}{h:Vd}{str:Bool}(k:∀b o,h.get? b=Yl o->s.heap.get? b=Yl o):@Asks (Hz h str) prog w A s:=by
 letI:=Hz h str
 intro x y ⟨r,px⟩ ⟨D,py⟩ E Q O;have q:Q (decide (r<D)) s:=by
  have e1:num x=r:=B3 px;have e2:num y=D:=B3 py;rw[e1,e2]at O;exact O
 clear O;obtain⟨x1,x2⟩:=x;obtain⟨y1,y2⟩:=y;obtain⟨t,o,n,x,y,a,u1,u2,rfl,e1,e2,e3,e4,e5,e6,e7⟩:=px;obtain⟨t',o',n',x',H,B,u1',J,rfl,f1,f2,f3,f4,f5,f6,f7⟩:=py;show wpAny _ _ (keyLt' (XW true) (.ref t) (.ref t')) _ _ _;refine kat_lt (k _ _ e1) e3 (k _ _ f1) f3 ?_;show KatLex prog w A true (decide (2<2)) _ [(x,x'),(.int y u2,.int H J)] 0 s;have second:a=B->KatLex prog w A true (decide (2<2)) Q [(.int y u2,.int H J)] 1 s:=λea=>by
  refine kat_cons (WT ?_);by_cases c:y=H
  .rw[show(y==H)=true from beq_iff_eq.mpr c];refine kat_yes (kat_nil ?_);rw[show decide (2<2)=decide (r<D)from decide_eq_decide.mpr (by omega)];exact q
  rw[show(y==H)=false from beq_eq_false_iff_ne.mpr c];refine kat_no (kat_one _ _ (lt_int ?_));show Q _ s;rw[show decide (y<H)=decide (r<D)from decide_eq_decide.mpr (by omega)];exact q
 rcases e7 with⟨U,rfl⟩|⟨U,k1,rfl,V⟩
 .rcases f7 with⟨_,rfl⟩|⟨M,_⟩
  .refine kat_cons (WT ?_);by_cases c:a=B
   .rw[show(a==B)=true from beq_iff_eq.mpr c];exact kat_yes (second c)
   rw[show(a==B)=false from beq_eq_false_iff_ne.mpr c];refine kat_no (oneLt_int ?_);rw[show decide (a<B)=decide (r<D)from decide_eq_decide.mpr (by omega)];exact q
  rw[U]at M;cases M
 rcases f7 with⟨M,_⟩|⟨_,k2,rfl,Z⟩
 .rw[U]at M;cases M
 refine kat_cons (eqBool_str ?_);by_cases c:k1=k2
 .subst c;rw[VF];exact kat_yes (second (by rw[V,Z]))
 rw[show(aC.ks k1==aC.ks k2)=false from beq_eq_false_iff_ne.mpr λz=>c (aC.B2 _ _ z)];refine kat_no (oneLt_str ?_);have ne:a≠B:=λz=>c (Hx _ _ (by rw[<-V,<-Z,z]));rw[Ki,<-V,<-Z,show decide (a<B)=decide (r<D)from decide_eq_decide.mpr (by omega)];exact q
end rS
namespace L2
open PySem PySem.Spec PyProof.Rows rS
section
variable {X:Cx}
def Nq(str:Bool)(vs:List V)(r:Int):Prop:=∃(x:V) (y a:Int),vs=[x,.int y]/\0<=y/\y<1000/\r=1000*a+y/\((str=false/\x=.int a)\/(str=true/\∃k:Th.Kd,x=.str (aC.ks k)/\a=kx k))
theorem Kj{pins:List (UR×VE)}{s:UW}{σ:L2.St}{H:Hp}{t:UR}{vs:List V}{r:Int}{str:Bool}(I:Inv X pins σ H s)(h:H t=Yl (.tup vs))(p:Nq str vs r):Pr s.heap str (.ref t) r:=by
 obtain⟨x,y,a,rfl,E,J,M,Z⟩:=p;obtain⟨its,rv,⟨o,e1,e2,n,e3⟩,_⟩:=I.tuple (bZ.of h);cases rv with
 |cons O z =>
  cases z with
  |cons r2 z =>
   cases z;obtain⟨U,rfl⟩:=r2;rcases Z with⟨B,rfl⟩|⟨B,k,rfl,ek⟩
   .obtain⟨D,rfl⟩:=O;exact⟨t,o,n,_,y,a,D,U,rfl,e1,e2,e3,E,J,M,.inl ⟨B,rfl⟩⟩
   obtain⟨D,rfl⟩:=O;exact⟨t,o,n,_,y,a,D,U,rfl,e1,e2,e3,E,J,M,.inr ⟨B,k,rfl,ek⟩⟩
theorem uz{h h':Vd}(k:∀b o,h.get? b=Yl o->h'.get? b=Yl o):∀{vs fs:List UP},RZ h vs fs->RZ h' vs fs
 |[],[],_=>trivial
 |[],_::_,z=>z.elim
 |_::_,[],z=>z.elim
 |_::_,_::_,⟨⟨a,o,xs,n,B,e1,e2⟩,r⟩=>⟨⟨a,o,xs,n,B,k _ _ e1,e2⟩,uz k r⟩
theorem kat_tups{h:Vd}{str:Bool}:∀E:List UR,(∀t∈E,∃r,Pr h str (.ref t) r)->∃fs:List UP,RZ h (E.map Value.ref) fs/\∀v∈fs,(str=false/\∃i u,v=.int i u)\/(str=true/\∃z u,v=.str z u)
 |[],_=>⟨[],RZ.nil,λv B=>UU B Pf⟩
 |t::E,M=>by
  obtain⟨fs,O,U⟩:=kat_tups E λt V=>M t (Pj _ V);obtain⟨r,t',o,n,x,y,a,Z,u2,H,e1,e2,e3,e4,e5,e6,D⟩:=M t Pc;injection H with H;subst H;refine⟨x::fs,RZ.cons e1 e2 e3 rfl O,λv B=>?_⟩;rcases Pq.mp B with rfl|B
  .rcases D with⟨J,D⟩|⟨J,k,D,_⟩
   .exact .inl ⟨J,_,_,D⟩
   exact .inr ⟨J,_,_,D⟩
  exact U v B
theorem qZ:∀{z:List UR}{its:List UP},Vals (z.map V.ref) its->its=z.map Value.ref
 |[],_,.nil=>rfl
 |t::z,_,.cons r B=>by cases r;rw[qZ B];rfl
theorem o4:∀z:List UR,Vals (z.map V.ref) (z.map Value.ref)
 |[]=>.nil
 |t::z=>.cons rfl (o4 z)
theorem zE{B:List UP}{D:List UR}(h:B.Perm (D.map Value.ref)):∃H:List UR,B=H.map Value.ref/\H.Perm D:=by
 let g:UP->Addr:=λv=>match v with
  |.ref a=>a
  |_=>0
 have e:∀v∈B,Value.ref (g v)=v:=λv E=>by
  obtain⟨t,_,rfl⟩:=O4.mp (h.mem_iff.mp E)
  rfl
 refine⟨B.map g,?_,?_⟩
 .rw[PK];exact(Ub B).symm.trans (Pw λv E=>(e v E).symm)
 have z:=h.map g;rw[PK]at z;have e2:D.map (g ∘ Value.ref)=D:=Ub D;rw[e2]at z;exact z
end
end L2
namespace rS
open PySem PySem.Spec PyProof.Rows PySem.W
section
variable [vo]{prog:U3}{w:U4}{A:Ve}{E:UP->UW->Prop}{s:UW}{a₀:Array VA}
def B4(a₀:Array VA)(st:Vt):Prop:=(arrOf st).Perm a₀/\XE st=none/\∃p,Ww st = #[p]/\hV 0 (arrOf st) a₀.size
theorem we{st:Vt}{Q:Unit->Vt->Prop}(h0:Dj prog w A s a₀)(hp:(arrOf st).Perm a₀)(hk:kindOf st=oneType')(hf:XE st=none)(hd:Ww st = #[])(h2:2<=a₀.size)(h64:a₀.size<64)
  (h:∀B,(arrOf B).Perm a₀->XE B=none->SortedTo (arrOf B) a₀.size->Q () B):wpS (model prog w) A E s sortRuns' Q st:=by
 rw[sortRuns'_eq];refine Vh (XD ?_);dsimp only;have hsz:(arrOf st).size=a₀.size:=hp.size_eq;rw[hsz];have em:minRun' a₀.size a₀.size 0=a₀.size:=by
  obtain⟨g,e⟩:∃g,a₀.size=g+1:=⟨a₀.size-1,by omega⟩
  rw[e,minRun'_succ,UQ (by omega)]
 rw[em];refine Vh (X8 (Wb
  (I:=λx c B=>(x=0/\c=(none,0)/\SB a₀ #[] 0 (λ_=>0) B)\/(1<=x/\c=(none,a₀.size)/\B4 a₀ B))
  (Q:=λc B=>c=(none,a₀.size)/\B4 a₀ B) ?step ?fin (.inl ⟨rfl,rfl,⟨hp,hk,hf,hd,λi hi=>UU hi (Rn _)⟩⟩)) ?post)
 case fin =>
  rintro c B (⟨hx,_⟩|⟨_,e,L⟩)
  .have:max 0 a₀.size=a₀.size:=Ru (PQ _);omega
  exact⟨e,L⟩
 case step =>
  rintro x c B _ hx (⟨rfl,rfl,hB⟩|⟨hx2,rfl,L⟩)
  .dsimp only;refine ck (λz=>UU z (by omega)) (λ_=>?_);refine Vh (vR h0 (by omega) (by omega) hB λk M J k1 k2 U=>?_);dsimp only;rw[T7]at k2;have push:∀(H:Vt),SB a₀ #[] 0 (λ_=>0) H->hV 0 (arrOf H) a₀.size->B4 a₀ (setPending H ((Ww H).push (0,a₀.size,0))):=λH b g =>
    ⟨b.perm,b.fl,⟨_,by show(Ww H).push _=_;rw[b.pd];rfl,g⟩⟩
   refine ck (λz=>?_) (λz=>?_)
   .have ef:min (a₀.size-0) a₀.size=a₀.size:=by omega
    rw[ef];refine Vh (wpS_lift (VR ⟨rfl,Vh (Bq h0 (by omega) k1 (by omega) J U λH O g3=>?_)⟩));refine ck (λz=>UU z (by simp)) (λ_=>?_);refine Vh (XD ?_);have V:(Ww H).back?=none:=by rw[O.pd];rfl
    rw[V];dsimp only;refine Vh (X9 (Vw (.inr ⟨O5 _,by rw[Sx],push H O g3⟩)))
   have Z:k=a₀.size:=by omega
   rw[Z]at U⊢;refine Vh (XD ?_);have V:(Ww M).back?=none:=by rw[J.pd];rfl
   rw[V];dsimp only;refine Vh (X9 (Vw (.inr ⟨O5 _,by rw[Sx],push M J U⟩)))
  dsimp only;refine ck (λ_=>Vw ⟨rfl,L⟩) (λz=>UU (O5 _) z)
 case post =>
  rintro c B ⟨rfl,L⟩;dsimp only;obtain⟨lp,lf,p,e1,asc⟩:=L;refine Vh (X8 (Wb (I:=λx c D=>c=(none,())/\D=B) (Q:=λc D=>c=(none,())/\D=B) ?fs ?ff ⟨rfl,rfl⟩) ?fp)
  case ff =>
   rintro c D ⟨e,e2⟩;exact⟨e,e2⟩
  case fp =>
   rintro c D ⟨e,e2⟩;subst e e2;exact Vw (h _ lp lf (rT asc))
  case fs =>
   rintro x c D _ _ ⟨e,e2⟩;subst e e2;refine Vh (XD ?_);exact ck (λ_=>Vw ⟨rfl,rfl⟩) (λz=>UU (by rw[e1];exact O5 1) z)
end
section
variable {prog:U3}{w:U4}{A:Ve}{E:UP->UW->Prop}{s:UW}
theorem uA [vo]{a:UR}{vs fs:List UP}{rk:UP->Int}{T:UP}{n:Nat}{P:PySem.Fin->UW->Prop}(hr:∀p:VA,num p=rk p.1)(J:vo.kd=XW (T != Value.type "tuple"))(M:(T==T)=true)(H:s.heap.get? a=Yl (seqObj "list" vs.toArray n))(Z:2<=vs.length)(B:vs.length<64)
  (hT:∀h':Vd,(∀b o,b≠a->s.heap.get? b=Yl o->h'.get? b=Yl o)->KatTups h' vs fs/\(∀v∈fs,Looks (model prog w) h' (typeOf v) T)/\Dj prog w A { s with heap:=h' } (Wd vs))
  (h:∀out:Array UP,out.toList.Perm vs->(out.toList.Pairwise λu v=>rk u<=rk v)->P (.done (.ret .none)) { s with heap:=sortedHeap s.heap a vs out }):wpAny (model prog w) A (Builtin.«list.sort» ⟨[.ref a],[]⟩) P E s:=by
 rw[list_sort_plain];have la:a<s.heap.objs.size:=Pt H;obtain⟨k,hk⟩:∃k,(s.heap.update a (Obj.mapSeq λ_=>#[])).get? a=Yl (seqObj "list" #[] k):=⟨_,get?_update_seq H (λ_=>#[])⟩
 have D:(((s.heap.update a (Obj.mapSeq λ_=>#[])).push (seqObj "tuple" vs.toArray 0)).push (seqObj "list" #[] 0)).get? a=Yl (seqObj "list" #[] k):=
  O8 _ (O8 _ hk)
 have keep:∀b o,b≠a->s.heap.get? b=Yl o->(((s.heap.update a (Obj.mapSeq λ_=>#[])).push (seqObj "tuple" vs.toArray 0)).push (seqObj "list" #[] 0)).get? b=Yl o:=λb o hb e =>
  O8 _ (O8 _ (by rw[Tq _ _ _ _ hb];exact e))
 obtain⟨t1,t2,t3⟩:=hT _ keep;have O:vs.toArray.size<=sizeLine:=by rw[Pe,Vo];omega
 have U:vs.toArray.toList.length<=sizeLine:=by rw[Vo];simp;omega
 refine UM (listItems_at H rfl (UM (WR H rfl (UM (Xm hk rfl ?_)) O (PQ _))));refine UM (WC (UM (WS (Vk ?_) (PQ _))) U);show wpAny (model prog w) A _ P E { s with heap:=((s.heap.update a (Obj.mapSeq λ_=>#[])).push (seqObj "tuple" vs.toArray 0)).push (seqObj "list" #[] 0) };dsimp only;have z2:¬vs.toArray.size<2:=by rw[Pe];omega
 rw[UO z2,UO z2];have V:0<fs.length:=by
  cases fs with
  |nil=>cases vs with
   |nil=>exact UU Z (by decide)
   |cons v r=>exact t1.elim
  |cons f r=>exact S4 _
 refine UM (kat_kind t1 V t2 M ?_);refine UM (VQ (we (a₀:=Wd vs) (st:=SortSt.mk' (XW (T != Value.type "tuple")) (vs.toArray.zip vs.toArray) #[] 7 none) (Q:=λ_ z=>(arrOf z).Perm (Wd vs)/\XE z=none/\SortedTo (arrOf z) (Wd vs).size)
  t3 (Array.Perm.refl _) J.symm rfl rfl (by rw[XI];exact Z) (by rw[XI];exact B) λz a1 a2 a3=>⟨a1,a2,a3⟩) ?_ λ_ _ e=>e)
 rintro⟨⟨⟩,z⟩ s2 ⟨rfl,hp,hf,hs⟩;dsimp only;have zs:((arrOf z).map (·.2)).size<=U2+1:=by
  rw[Array.size_map,hp.size_eq,XI,Vo];omega
 refine UM (Xm D rfl (UM (WR D rfl ?_ (hsz2:=zs))));rw[hf];dsimp only;rw[bne_self_eq_false];obtain⟨b1,b2⟩:=uy hr hp hs;exact US (h _ b1 b2)
theorem p0 [vo]{l:UR}{vs fs:List UP}{rk:UP->Int}{T:UP}{Q:UP->UW->Prop}(V:∀p:VA,num p=rk p.1)(M:vo.kd=XW (T != Value.type "tuple"))(O:(T==T)=true)(Z:s.heap.IsList l vs.toArray)(h2:2<=vs.length)(D:vs.length<64)
  (hT:∀(A':Ve) (h':Vd),(∀b o,s.heap.get? b=Yl o->h'.get? b=Yl o)->KatTups h' vs fs/\(∀v∈fs,Looks (model prog w) h' (typeOf v) T)/\Dj prog w A' { s with heap:=h' } (Wd vs))
  (h:∀out:Array UP,out.toList.Perm vs->(out.toList.Pairwise λu v=>rk u<=rk v)->Q (.ref (s.heap.objs.size+1)) { s with heap:=sortedAll s.heap vs out }):wpAny (model prog w) A (call (.builtin "sorted") [.ref l]) Q E s:=by
 have z:((s.heap.push (seqObj "list" #[] 0)).update s.heap.objs.size (Obj.mapSeq (· ++ vs.toArray))).objs.size=s.heap.objs.size+1:=(Ul _ _ _).trans (size_push' _ _);have U:(((s.heap.push (seqObj "list" #[] 0)).update s.heap.objs.size (Obj.mapSeq (· ++ vs.toArray))).push (seqObj "list" vs.toArray 0)).get? (s.heap.objs.size+1)=Yl (seqObj "list" vs.toArray 0):=z▸Pn _ rfl;have keep:∀b o,s.heap.get? b=Yl o->b≠s.heap.objs.size+1/\(((s.heap.push (seqObj "list" #[] 0)).update s.heap.objs.size (Obj.mapSeq (· ++ vs.toArray))).push (seqObj "list" vs.toArray 0)).get? b=Yl o:=λb o q=>by
  have H:b<s.heap.objs.size:=Pt q;have J:b≠s.heap.objs.size:=PR H;have B:b≠s.heap.objs.size+1:=PR (TV H);refine⟨B,?_⟩;rw[TX _ _ _ (by rw[z];exact B),Tq _ _ _ _ J,TX _ _ _ J];exact q
 refine Calls.call_function_entry kind_sorted plain_sorted entry_sorted (args_sorted1 _) ?_;unfold Builtin.«sorted»;refine UM (m:=checkCount "sorted" 1 1 _) (US (UM (collect_list Z (UM (WS ?_ (by rw[Vo];omega))) (hsz:=by rw[Vo];omega))));show wpAny _ _ _ _ _ { s with heap:=((s.heap.push (seqObj "list" #[] 0)).update s.heap.objs.size (Obj.mapSeq (· ++ vs.toArray))).push (seqObj "list" vs.toArray 0) };rw[z];refine UM (Vk (U8 slot_list_sort ⟨_,U,rfl⟩ entry_list_sort (uA (fs:=fs) V M O U h2 D (λh' hk=>?_) λout a1 a2=>⟨_,rfl,US ⟨_,rfl,h out a1 a2⟩⟩) (args_list_sort _)));exact hT _ h' λb o q=>hk b o (keep b o q).1 (keep b o q).2
end
end rS
namespace L2
open PySem PySem.Spec PyProof.Rows rS
section
variable {X:Cx}
theorem iT(str:Bool):eI X (.builtin "sorted") (λxs H Q=>∃(p:UR) (B:List UR) (g:UR->Int),xs=[.ref p]/\bc X.K H p (B.map V.ref)/\B.length<64/\(∀t∈B,∃vs,H t=Yl (.tup vs)/\Nq str vs (g t)) /\
  ∀(O:List UR) (l:UR),O.Perm B->(O.Pairwise λt u=>g t<=g u)->H l=none->Q (.ref l) (upd H l (.lst (O.map V.ref)))):=by
 intro pins s σ H xs O Q I r h;obtain⟨p,B,g,rfl,hq,J,ht,q⟩:=h;obtain⟨u,rfl,ru⟩:=r.one;cases ru;obtain⟨its,rv,pl,hz⟩:=I.list hq;obtain rfl:=qZ rv;have D:∀t∈B,Pr s.heap str (.ref t) (g t):=λt E=>by
  obtain⟨vs,e1,e2⟩:=ht t E;exact Kj I e1 e2
 have Z:H (s.heap.objs.size+1)=none:=I.ba.fresh (Rj _);have fin:∀(out:Array UP),out.toList.Perm (B.map Value.ref)->(out.toList.Pairwise λu v=>Hy s.heap str u<=Hy s.heap str v)->EP X pins σ Q (.ref (s.heap.objs.size+1)) { s with heap:=sortedAll s.heap (B.map Value.ref) out }:=λout a1 U=>by
  obtain⟨M,e,hw⟩:=zE a1;obtain⟨c,he⟩:=sortedAll_at s.heap (B.map Value.ref) out;have hg:∀t∈M,Hy s.heap str (.ref t)=g t:=λt E=>B3 (D t (hw.mem_iff.mp E));have a3:M.Pairwise λt u=>g t<=g u:=by
   rw[e,PD]at U;refine List.Pairwise.imp_of_mem (λ{x y} hx hy z=>?_) U;rw[hg x hx,hg y hy]at z;exact z
  refine⟨.ref (s.heap.objs.size+1),_,I.laid (a:=s.heap.objs.size+1) (o:=.lst (M.map V.ref)) (t':=s.toks) (λb o=>sortedAll_old) (Rj _) ⟨?_,out.toList,c,by rw[e];exact o4 M,by simpa[seqObj]using he⟩,rfl,q M _ hw a3 Z⟩;rw[O0,hw.length_eq];have:=Vo;omega
 by_cases c:2<=B.length
 .letI:=Hz s.heap str
  obtain⟨fs,k1,k2⟩:=kat_tups (h:=s.heap) (str:=str) B λt E=>⟨_,D t E⟩
  refine p0 (fs:=fs) (rk:=Hy s.heap str) (T:=tyP str) (λp=>rfl) (by cases str <;> rfl) (by cases str <;> rfl) pl.isList (by rw[O0];exact c) (by rw[O0];exact J) (λA' h' hk=>?_) λout a1 U=>fin out a1 U;refine⟨uz hk k1,λv hv=>?_,λp hp=>?_,Eh hk⟩
  .rcases k2 v hv with⟨s1,i,u,rfl⟩|⟨s1,z,u,rfl⟩
   .subst s1;exact .now
   subst s1;exact .now
  have ez:(Wd (B.map Value.ref)).toList=(B.map Value.ref).zip (B.map Value.ref):=by unfold Wd;simp
  rw[ez]at hp;obtain⟨t,E,e⟩:=O4.mp (Sq hp).1;exact⟨g t,by rw[<-e];exact D t E⟩
 refine wd pl.isList (by rw[O0];omega) (fin _ (by simp) ?_)
 match B,c with
 |[],_=>exact List.Pairwise.nil
 |[t],_=>exact QG _ _
 |_::_::_,c=>exact UU (by simp) c
end
end L2
namespace aC
open PySem L2
noncomputable def fw(ps:List (Int×Int)):List (List Int):=(gr (λk=>mk ps (ps.getD k (0,0)).1) ps.length).map Rr
theorem bN(rs:List Int):cH rs=fw (bU rs):=by
 unfold cH fw;rw[gG,mu];intro i hi;have z:=b6 hi;have e:(bU rs).getD i (0,0)=pW rs i:=by rw[Py,z];rfl
 rw[e]
 rfl
def su:Sp:=λvs H Q _=>∃(l:UR) (ps:List (Int×Int)),vs=[.ref l]/\df pr H l ps/\ps.length<=100/\∀(r:UR) (z:Hp),H r=none->ax H z->df iV z r (fw ps)->Q (.ref r) z
def h7:Sp:=λvs H Q _=>∃(t:UR) (rs:List Int),vs=[.ref t]/\H t=Yl (.tup (iV rs))/\aR rs/\∀(l:UR) (z:Hp),H l=none->ax H z->df iV z l (cH rs)->Q (.ref l) z
section
variable {κ:Type}[DecidableEq κ]
theorem uB{kvs:List (κ×V)}{k:κ}{v:V}(h:(bq kvs k).isSome=true):(putK kvs k v).map Qd=kvs.map Qd:=by
 unfold putK;rw[UQ (by rw[eJ];exact h),PK];refine Pw λy _=>?_;show(if y.1=k then(y.1,v)else y).1=y.1
 split <;> rfl
theorem Ei{kvs:List (κ×V)}{k:κ}{v:V}(h:(bq kvs k).isSome=true):(putK kvs k v).length=kvs.length:=by
 have:=congrArg Rx (uB (v:=v) h);rwa[O0,O0]at this
end
structure GD(kvs:List (Key×V)) (m:Int->Int) (S:Int->Prop):Prop where
 yes:∀x,S x->bq kvs (Sum.inl x:Key)=Yl (.int (m x))
 no:∀x,¬S x->bq kvs (Sum.inl x:Key)=none
 keys:∀k∈kvs.map Qd,∃x:Int,k=Sum.inl x/\S x
section
variable {kvs:List (Key×V)}{m U:Int->Int}{S T:Int->Prop}{x:Int}
theorem GD.nil(m:Int->Int)(h:∀x,¬S x):GD [] m S:=⟨λx z=>UU z (h x),λ_ _=>rfl,λk B=>UU B Pf⟩
theorem GD.congr(g:GD kvs m S)(e:∀x,S x->m x=U x):GD kvs U S:=⟨λx z=>by rw[g.yes x z,e x z],g.no,g.keys⟩
theorem GD.imp(g:GD kvs m S)(e:∀x,S x↔T x):GD kvs m T:=⟨λx B=>g.yes x ((e x).mpr B),λx B=>g.no x λz=>B ((e x).mp z),λk D=>let⟨x,E,H⟩:=g.keys k D;⟨x,E,(e x).mp H⟩⟩
theorem GD.new(g:GD kvs m S)(E:¬S x){v:Int}(H:v=m x):GD (putK kvs (Sum.inl x:Key) (.int v)) m (λy=>S y\/y=x):=by
 have J:=g.no x E;refine⟨λy D=>?_,λy D=>?_,λk B=>?_⟩
 .rw[fJ];by_cases c:y=x
  .rw[c,UQ rfl,H]
  rw[UO λz=>c (by injection z),g.yes y (D.resolve_right c)]
 .rw[fJ,UO λz=>D (.inr (by injection z)),g.no y λz=>D (.inl z)]
 rw[iz _ J,Pb]at B;rcases Pl.mp B with B|B
 .obtain⟨y,M,O⟩:=g.keys k B;exact⟨y,M,.inl O⟩
 exact⟨x,O3.mp B,.inr rfl⟩
theorem GD.put(g:GD kvs m S)(D:S x)(v:Int):GD (putK kvs (Sum.inl x:Key) (.int v)) (λy=>if y=x then v else m y) S:=by
 refine⟨λy B=>?_,λy B=>?_,λk E=>?_⟩
 .rw[fJ];by_cases c:y=x
  .rw[c,UQ rfl,UQ rfl]
  rw[UO λz=>c (by injection z),UO c,g.yes y B]
 .rw[fJ,UO λz=>B (by injection z with z;rw[z];exact D),g.no y B]
 rw[uB (by rw[g.yes x D];rfl)]at E;exact g.keys k E
end
theorem uC{Q:VK}{H:Hp}{d:UR}{kvs:List (Key×V)}{m:Int->Int}{S:Int->Prop}{x:Int}(hd:H d=Yl (.dK kvs))(g:GD kvs m S)(M:¬S x->m x=x)
  (q:∀(B:List (Key×V)) (J:Hp),B.length<=kvs.length+1->J d=Yl (.dK B)->(∀b,b≠d->J b=H b)->GD B m (λy=>S y\/y=x)->Q (.int (m x)) J) :
  (∀v,bq kvs (Sum.inl x:Key)=Yl v->Q v H)/\(bq kvs (Sum.inl x:Key)=none->Q (.int x) (upd H d (.dK (putK kvs (Sum.inl x:Key) (.int x))))):=by
 constructor
 .intro v D;have E:S x:=O2 λz=>by rw[g.no x z]at D;cases D
  rw[g.yes x E]at D;cases D;exact q kvs H (Rj _) hd (λ_ _=>rfl) (g.imp λy=>⟨.inl,λz=>z.elim id λe=>e▸E⟩)
 intro D;have E:¬S x:=λz=>by rw[g.yes x z]at D;cases D
 have e:=M E;have z:=q (putK kvs (Sum.inl x:Key) (.int x)) (upd H d (.dK (putK kvs (Sum.inl x:Key) (.int x)))) (bS ..) ag (λb O=>ao O) (g.new E e.symm);rwa[e]at z
theorem ax.but{z H B:Hp}{d:UR}(s:ax z H)(hd:z d=none)(o:∀b,b≠d->B b=H b):ax z B:=λb u e=>by
 rw[o b (aQ e hd)];exact s b u e
open Classical in
noncomputable def chg(ks:List Key)(m:Int->Int)(a b x:Int):Int:=if(Sum.inl x:Key)∈ks/\m x=b then a else m x
theorem Ej{m:Int->Int}{a b x:Int}:chg [] m a b x=m x:=UO λz=>UU z.1 Pf
theorem x6{ks:List Key}{m:Int->Int}{a b x:Int}(h:(Sum.inl x:Key)∈ks):chg ks m a b x=if m x=b then a else m x:=by
 unfold chg;by_cases c:m x=b
 .rw[UQ ⟨h,c⟩,UQ c]
 rw[UO λz=>c z.2,UO c]
theorem uD{ks:List Key}{m:Int->Int}{a b x y:Int}:chg (ks++[Sum.inl x]) m a b y=if y=x/\m y=b then a else chg ks m a b y:=by
 unfold chg;by_cases c:y=x
 .subst c;by_cases B:m y=b
  .rw[UQ ⟨Pp _ (O3.mpr rfl),B⟩,UQ ⟨rfl,B⟩]
  rw[UO λz=>B z.2,UO λz=>B z.2,UO λz=>B z.2]
 have e:((Sum.inl y:Key)∈ks++[(Sum.inl x:Key)])↔(Sum.inl y:Key)∈ks:=by
  rw[Pl,O3];exact⟨λz=>z.resolve_right λz=>c (by injection z),.inl⟩
 rw[UO (c:=y=x/\m y=b) λz=>c z.1];by_cases d:(Sum.inl y:Key)∈ks/\m y=b
 .rw[UQ d,UQ ⟨e.mpr d.1,d.2⟩]
 rw[UO d,UO λz=>d ⟨e.mp z.1,z.2⟩]
theorem Ek{ks:List Key}{m:Int->Int}{a b x y:Int}(h:chg ks m a b x=b):(if y=x then a else chg ks m a b y)=chg (ks++[Sum.inl x]) m a b y:=by
 rw[uD];by_cases c:y=x
 .subst c;rw[UQ rfl];by_cases B:m y=b
  .rw[UQ ⟨rfl,B⟩]
  have e:chg ks m a b y=m y:=UO λz=>B z.2;rw[e]at h;exact UU h B
 rw[UO c,UO λz=>c z.1]
theorem HA{ks:List Key}{m:Int->Int}{a b x y:Int}(h:¬chg ks m a b x=b):chg ks m a b y=chg (ks++[Sum.inl x]) m a b y:=by
 rw[uD];by_cases c:y=x/\m y=b
 .obtain⟨E,B⟩:=c;subst E;rw[UQ ⟨rfl,B⟩];by_cases D:(Sum.inl y:Key)∈ks
  .rw[x6 D,UQ B]
  have e:chg ks m a b y=m y:=UO λz=>D z.1;rw[e]at h;exact UU B h
 rw[UO c]
structure FG(H0 H:Hp) (d:UR) (kv:List (Key×V)) (g:List (Int×List Int)) (as:List UR):Prop where
 at':H d=Yl (.dK kv)
 ks:kv.map Qd=g.map λe=>(Sum.inl e.1:Key)
 vs:kv.map Rr=as.map V.ref
 nd:as.Nodup
 lst:∀(j:Nat) (a:UR) (e:Int×List Int),as[j]?=Yl a->g[j]?=Yl e->H a=Yl (.lst (iV e.2))
 new:∀a∈as,H0 a=none
section
variable {H0 H H':Hp}{d:UR}{kv:List (Key×V)}{g:List (Int×List Int)}{as:List UR}
theorem FG.len(h:FG H0 H d kv g as):kv.length=g.length/\as.length=g.length:=by
 have z:=congrArg Rx h.ks;have B:=congrArg Rx h.vs;rw[O0,O0]at z B;exact⟨z,by omega⟩
theorem FG.same(h:FG H0 H d kv g as)(s:ax H H'):FG H0 H' d kv g as:=⟨s _ _ h.at',h.ks,h.vs,h.nd,λj a e z B=>s _ _ (h.lst j a e z B),h.new⟩
theorem sx{κ:Type}[DecidableEq κ]:∀{kv:List (κ×V)}{j:Nat}{k:κ}{v:V},(kv.map Qd).Nodup->kv[j]?=Yl (k,v)->bq kv k=Yl v
 |[],j,k,v,_,h=>by simp at h
 |p::r,0,k,v,_,h=>by
  rw[List.getElem?_cons_zero]at h;rw[Option.some.inj h];exact cx rfl
 |p::r,j+1,k,v,nd,h=>by
  rw[RV]at h;rw[Qk,PX]at nd;rw[cz λz=>nd.1 (by rw[z];exact O4.mpr ⟨_,Pk h,rfl⟩)];exact sx nd.2 h
theorem FG.key(h:FG H0 H d kv g as){j:Nat}{a:UR}{e:Int×List Int}(z:as[j]?=Yl a)(B:g[j]?=Yl e):kv[j]?=Yl ((Sum.inl e.1:Key),V.ref a):=by
 have k1:=congrArg (·[j]?) h.ks;have k2:=congrArg (·[j]?) h.vs;simp only[O6,z,B,Ry]at k1 k2;obtain⟨p,e1,e2⟩:=Ph.mp k1;obtain⟨E,e3,D⟩:=Ph.mp k2;rw[e1]at e3;cases e3;rw[e1,<-e2,<-D]
theorem FG.old(h:FG H0 H d kv g as)(hn:(g.map Qd).Nodup){k x:Int}{v:V}(hv:bq kv (Sum.inl k:Key)=Yl v) :
  ∃a L,v=.ref a/\H a=Yl (.lst (iV L))/\(∃e∈g,e.2=L)/\FG H0 (upd H a (.lst (iV L++[.int x]))) d kv (eN g k x) as:=by
 have hm:=rK hv;rw[h.ks]at hm;obtain⟨e,O,B⟩:=O4.mp hm;have B:e.1=k:=by injection B
 obtain⟨j,D⟩:=PF O;have hl:=h.len;have U:j<as.length:=by rw[hl.2];exact(O1.mp D).1
 have M:as[j]?=Yl as[j]:=OZ U;have nk:(kv.map Qd).Nodup:=by
  rw[h.ks,show(g.map λe=>(Sum.inl e.1:Key))=(g.map Qd).map Sum.inl by rw[PK];rfl];exact PD.mpr (List.Pairwise.imp (λz e=>z (by injection e)) hn)
 have z:=sx nk (h.key M D);rw[B,hv]at z;obtain rfl:=Option.some.inj z;have hL:=h.lst j _ e M D;refine⟨as[j],e.2,rfl,hL,⟨e,O,rfl⟩,?_⟩;have hd:d≠as[j]:=λz=>by have:=h.at';rw[z,hL]at this;cases this
 have any:(g.any λe=>decide (e.1=k))=true:=Qq.mpr ⟨e,O,UX B⟩;refine⟨by rw[ao hd];exact h.at',?_,h.vs,h.nd,λi a f E Z=>?_,h.new⟩
 .rw[h.ks];unfold eN;rw[UQ any,PK];refine Pw λy _=>?_;show _=(Sum.inl (if y.1=k then(y.1,y.2++[x])else y).1:Key)
  split <;> rfl
 unfold eN at Z;rw[UQ any,O6]at Z;obtain⟨f0,J,rfl⟩:=Ph.mp Z;by_cases c:i=j
 .subst c;rw[D]at J;cases J;rw[M]at E;cases E;rw[ag,UQ B];show _=Yl (HO.lst (iV (e.2++[x])));rw[iN]
  rfl
 have na:a≠as[j]:=λz=>c ((Qa (O1.mp E).1 h.nd).mp (by rw[E,M,z]));rw[ao na,UO]
 .exact h.lst i a f0 E J
 intro z;apply c;refine(Qa (l:=g.map Qd) (by rw[O0];exact(O1.mp J).1) hn).mp ?_;rw[O6,O6,J,D];show some f0.1=Yl e.1;rw[z,B]
theorem FG.fresh(h:FG H0 H d kv g as){k x:Int}{n:UR}(M:bq kv (Sum.inl k:Key)=none)(Z:H n=Yl (.lst []))(O:H0 n=none)(J:n∉as) :
  FG H0 (upd (upd H d (.dK (putK kv (Sum.inl k:Key) (.ref n)))) n (.lst ([]++[.int x]))) d (putK kv (Sum.inl k:Key) (.ref n)) (eN g k x) (as++[n]):=by
 have hd:d≠n:=λz=>by have:=h.at';rw[z,Z]at this;cases this
 have any:¬(g.any λe=>decide (e.1=k))=true:=λz=>by
  obtain⟨e,he,ek⟩:=Qq.mp z;have:=AM M;apply this;show(Sum.inl k:Key)∈kv.map Qd;rw[h.ks];exact O4.mpr ⟨e,he,by rw[U0 ek]⟩
 have hl:=h.len;refine⟨by rw[ao hd,ag],?_,?_,?_,λj a e B D=>?_,λa E=>?_⟩
 .rw[iz _ M,Pb,h.ks];unfold eN;rw[UO any,Pb]
  rfl
 .rw[iz _ M,Pb,h.vs,Pb]
  rfl
 .rw[QF];exact⟨h.nd,by simp,λa E b hb e=>J (by rw[<-O3.mp hb,<-e];exact E)⟩
 .unfold eN at D;rw[UO any]at D;by_cases c:j<as.length
  .rw[Pg c]at B;rw[Pg (by omega)]at D;have na:a≠n:=λz=>J (z▸Pk B);have V:=h.lst j a e B D;have nd:a≠d:=λz=>by have:=h.at';rw[<-z,V]at this;cases this
   rw[ao na,ao nd];exact V
  rw[Pd (by omega)]at B D;have ej:j-as.length=0:=by
   have:=(O1.mp B).1;simp at this;omega
  have U:j-g.length=0:=by omega
  rw[ej]at B;rw[U]at D;cases B;cases D;rw[ag]
  rfl
 rcases Pl.mp E with E|E
 .exact h.new a E
 rw[O3.mp E];exact O
end
def mW(n:Nat)(cs:List (Int×Int)):Prop:=cs.length<=1000/\∀p∈cs,∃f l:Nat,p=((f:Int),(l:Int))/\f<=l/\l<n
theorem uE{n:Nat}(B:n<=30):∀k,k<=n->mW n (b5 n k):=λk D=>by
 refine⟨PH (hU n k) (PH (UC B (PH D B)) (by decide)),?_⟩
 induction k with
 |zero=>intro p z;exact UU z Pf
 |succ k E =>
  intro p z;rw[gq]at z;rcases Pl.mp z with z|z
  .exact E (by omega) p z
  obtain⟨i,hi,rfl⟩:=O4.mp z;have hi:=Pm.mp hi;exact⟨k,k+i,by show((k:Int),(k:Int)+(i:Int))=_;congr 1,by omega,by omega⟩
theorem mW.snoc{n:Nat}{cs:List (Int×Int)}{f l:Nat}(h:mW n cs)(E:cs.length<=900)(B:f<=l)(D:l<n):mW n (cs++[((f:Int),(l:Int))]):=by
 refine⟨by rw[O7];show _+1<=_;omega,λp z=>?_⟩;rcases Pl.mp z with z|z
 .exact h.2 p z
 exact⟨f,l,O3.mp z,B,D⟩
end aC
namespace L2
open PySem PySem.Spec PyProof.Rows
section
variable {X:Cx}{E:Vc}{K:Pa}
theorem B5{l:Vc}{z:TE}(B:X.K=K)(D:PE X l z):PI X E l (Fe K z):=B▸bK D
end
end L2
namespace aC
open PySem L2
def q8:Sp:=λvs H Q _=>∃(t:UR) (rs:List Int),vs=[.ref t]/\H t=Yl (.tup (iV rs))/\aR rs/\∀(l:UR) (z:Hp),H l=none->ax H z->df pr z l (Bw rs)->Q (.ref l) z
structure GK(H:Hp) (d:UR) (kv:List (Key×V)) (S:List (Int×Int)):Prop where
 at':H d=Yl (.dK kv)
 val:∀(g:Nat) (q:Int×Int),q∈S->q.1<=g->(g:Int)<q.2->∃p∈S,p.1<=g/\(g:Int)<p.2/\(∀q'∈S,q'.1<=g->(g:Int)<q'.2->q'.1<=p.1)/\∃t,bq kv (Sum.inl (g:Int):Key)=Yl (.ref t)/\H t=Yl (.tup (pr p))
structure GI(H:Hp) (d:UR) (kv0 kv:List (Key×V)) (p:Int×Int) (m:Nat):Prop where
 at':H d=Yl (.dK kv)
 new:∀g:Nat,p.1<=g->(g:Int)<p.1+m->∃t,bq kv (Sum.inl (g:Int):Key)=Yl (.ref t)/\H t=Yl (.tup (pr p))
 old:∀g:Nat,¬(p.1<=g/\(g:Int)<p.1+m)->bq kv (Sum.inl (g:Int):Key)=bq kv0 (Sum.inl (g:Int):Key)
theorem GI.put{H:Hp}{d t:UR}{B D:List (Key×V)}{p:Int×Int}{m:Nat}(h:GI H d B D p m)(O:0<=p.1)(J:H t=Yl (.tup (pr p))):GI (upd H d (.dK (putK D (Sum.inl (p.1+m):Key) (.ref t)))) d B (putK D (Sum.inl (p.1+m):Key) (.ref t)) p (m+1):=by
 have keep:∀a ys,H a=Yl (.tup ys)->upd H d (.dK (putK D (Sum.inl (p.1+m):Key) (.ref t))) a=Yl (.tup ys):=λa ys e=>by
  rw[ao λz=>by have:=h.at';rw[<-z,e]at this;cases this];exact e
 refine⟨ag,λg M U=>?_,λg E=>?_⟩
 .rw[fJ];by_cases c:(g:Int)=p.1+m
  .rw[c,UQ rfl];exact⟨t,rfl,keep _ _ J⟩
  rw[UO λz=>c (by injection z)];obtain⟨t',e1,e2⟩:=h.new g M (by omega);exact⟨t',e1,keep _ _ e2⟩
 rw[fJ,UO λz=>E (by injection z with z;omega)];exact h.old g λz=>E ⟨z.1,by omega⟩
theorem GK.next{H E:Hp}{d:UR}{B U:List (Key×V)}{S:List (Int×Int)}{p:Int×Int}{m:Nat}(h:GK H d B S)(k:GI E d B U p m)(em:p.2=p.1+m)(lt:∀q∈S,q.1<p.1)(keep:∀a ys,H a=Yl (.tup ys)->E a=Yl (.tup ys)):GK E d U (S++[p]):=by
 refine⟨k.at',λg q D J Z=>?_⟩;by_cases c:p.1<=g/\(g:Int)<p.1+m
 .obtain⟨t,e1,e2⟩:=k.new g c.1 c.2;refine⟨p,Pp _ (O3.mpr rfl),c.1,by omega,λM z _ _=>?_,t,e1,e2⟩;rcases Pl.mp z with z|z
  .exact QY (lt M z)
  rw[O3.mp z];exact QN _
 rcases Pl.mp D with D|D
 .obtain⟨r,hr,r1,r2,r3,t,e1,e2⟩:=h.val g q D J Z;refine⟨r,Px _ hr,r1,r2,λM z O a2=>?_,t,by rw[k.old g c,e1],keep _ _ e2⟩;rcases Pl.mp z with z|z
  .exact r3 M z O a2
  rw[O3.mp z]at O a2;exact UU ⟨O,by omega⟩ c
 rw[O3.mp D]at J Z;exact UU ⟨J,by omega⟩ c
theorem B6{rs:List Int}{g:Nat}{p:Int×Int}(z:p∈cG (aj rs))(B:p.1<=g)(D:(g:Int)<p.2)(mx:∀q∈cG (aj rs),q.1<=g->(g:Int)<q.2->q.1<=p.1):ow (aj rs) g=p:=by
 obtain⟨a,b,k,rfl⟩:=bG.mp z;dsimp only at B D;refine cT ⟨k,by omega,by omega,λc d E H J=>?_⟩;have:=mx _ (bG.mpr ⟨c,d,E,rfl⟩) (by dsimp only;omega) (by dsimp only;omega);dsimp only at this;omega
theorem HB{rs:List Int}(fit:aR rs){H:Hp}{d:UR}{z:List (Key×V)}(h:GK H d z (cG (aj rs))){g:Nat}(B:g<rs.length+1):∃t,bq z (Sum.inl (g:Int):Key)=Yl (.ref t)/\H t=Yl (.tup (pr (ow (aj rs) g))):=by
 obtain⟨c,e,o⟩:=d7 fit B;have l:=o.le;have lt:=o.lt;obtain⟨p,D,E,J,M,t,e1,e2⟩:=h.val g ((c:Int),(e:Int)) (bG.mpr ⟨c,e,o.kn,rfl⟩) (by dsimp only;omega) (by dsimp only;omega);refine⟨t,e1,?_⟩;rw[B6 D E J M];exact e2
theorem kX{H:Hp}{D:UR}{ps:List (Int×Int)}(hT:df pr H D ps)(ql:∀p∈ps,0<=p.2/\p.2<1000):∃(B:List UR) (g:UR->Int),H D=Yl (.lst (B.map V.ref))/\B.length=ps.length/\(∀t∈B,∃vs,H t=Yl (.tup vs)/\Nq false vs (g t)) /\
  ∀E:List UR,E.Perm B->(E.Pairwise λt u=>g t<=g u)->∃M:List (Int×Int),M.Perm ps/\(M.Pairwise λp q=>p.1<=q.1)/\∀(U:Hp) (l:UR),ax H U->U l=Yl (.lst (E.map V.ref))->df pr U l M:=by
 obtain⟨B,h1,h2,h3⟩:=hT
 let ct:UR->Int×Int:=λa=>match H a with
  |some (.tup [.int x,.int y])=>(x,y)
  |_=>(0,0)
 have J:∀(i:Nat) (t:UR) (p:Int×Int),B[i]?=Yl t->ps[i]?=Yl p->ct t=p:=λi t p e1 e2=>by
  have z:=h3 i t p e1 e2;show(match H t with
   |some (.tup [.int x,.int y])=>(x,y)
   |_=>(0,0))=p
  rw[z]
  rfl
 have mem:∀t∈B,ct t∈ps/\H t=Yl (.tup (pr (ct t))):=λt ht=>by
  obtain⟨i,hi⟩:=PF ht;have O:i<ps.length:=by rw[<-h2];exact(O1.mp hi).1
  have e:=OZ O;rw[J i t _ hi e];exact⟨PV O,h3 i t _ hi e⟩
 have eps:B.map ct=ps:=QV λi=>by
  rw[O6];by_cases c:i<B.length
  .have e1:=OZ c;have e2:=OZ (l:=ps) (show i<ps.length by omega);rw[e1,e2,<-J i _ _ e1 e2]
   rfl
  rw[Qc (by omega),Qc (by omega)]
  rfl
 refine⟨B,λa=>1000*(ct a).1+(ct a).2,h1,h2,λt ht=>?_,λE Z hs=>⟨E.map ct,?_,?_,λU l s hl=>⟨E,hl,by rw[O0],λi t x e1 e2=>?_⟩⟩⟩
 .obtain⟨m1,m2⟩:=mem t ht;have r:=ql _ m1;exact⟨_,m2,.int (ct t).1,(ct t).2,(ct t).1,rfl,r.1,r.2,rfl,.inl ⟨rfl,rfl⟩⟩
 .have:=Z.map ct;rwa[eps]at this
 .rw[PD];refine List.Pairwise.imp_of_mem (λ{x y} hx hy z=>?_) hs;have r1:=ql _ (mem x (Z.mem_iff.mp hx)).1;have r2:=ql _ (mem y (Z.mem_iff.mp hy)).1;have z:1000*(ct x).1+(ct x).2<=1000*(ct y).1+(ct y).2:=z;omega
 rw[O6,e1]at e2;have e2:=Option.some.inj e2;rw[<-e2];exact s _ _ (mem t (Z.mem_iff.mp (Pk e1))).2
end aC
namespace El
open PySem PySem.Spec PyProof.Rows
noncomputable def cnt(bs:List Bool):Nat:=(if bs.any (· == true)=true then 1 else 0)+(if bs.any (· == false)=true then 1 else 0)
end El
set_option maxHeartbeats 1000000
set_option maxHeartbeats 1000000
set_option maxHeartbeats 1000000
namespace L2
open PySem PySem.Spec PyProof.Rows
section
variable {X:Cx}
theorem uF(Z:X.calm=true):eI X (.builtin "any") (λxs H Q=>∃(p:UR) (bs:List Bool),xs=[.ref p]/\H p=Yl (.lst (bs.map V.bl))/\Q (.bl (bs.any id)) H):=by
 intro pins s σ H xs us Q I r h;obtain⟨p,bs,rfl,hp,q⟩:=h;obtain⟨u,rfl,ru⟩:=r.one;cases ru;obtain⟨its,U,pl,hz⟩:=I.list (bc.of hp);have J:=pl.isList;have M:p<s.heap.objs.size:=let⟨_,e,_⟩:=J;Pt e
 have B:bs.length=its.length:=by have z:=U.length;rwa[O0]at z
 refine call_any_walk (WJ J ⟨s.heap.objs.size,[s.heap.objs.size,p],[s.heap.objs.size],its.toArray.size,_,_,λi=>(bs[i]?).getD false,rfl,Walks.list (A:=X.A.in1) (I.ok.hd Z) _ p (PR M) its.toArray,
  ⟨⟨_,Pn _ rfl,rfl,rfl⟩,J.push _⟩,λi v s' Q' E' E O=>?_,λh' tk hk=>?_⟩)
 .have E:its[i]?=Yl v:=by simpa using E
  have hi:i<bs.length:=by rw[B];exact(O1.mp E).1
  have D:(bs.map V.bl)[i]?=Yl (.bl bs[i]):=by rw[O6,OZ hi];rfl
  obtain⟨u,e1,r1⟩:=U.get D;rw[E]at e1;obtain rfl:=Option.some.inj e1;cases r1;dsimp only at O;rw[OZ hi]at O;exact Vj O
 have e2:((Pu its.toArray.size).any λi=>(bs[i]?).getD false)=bs.any id:=by
  rw[Pe,<-B,QW,Qq,Qq];constructor
  .rintro⟨i,hi,h⟩;have hi:=Pm.mp hi;rw[OZ hi]at h;exact⟨_,PV hi,h⟩
  rintro⟨b,hb,h⟩;obtain⟨i,hi,rfl⟩:=Tb.mp hb;exact⟨i,Pm.mpr hi,by rw[OZ hi];exact h⟩
 rw[e2];exact⟨.bl _,H,I.kept (t':=tk) λb o D=>hk b o (λhm=>by rw[O3.mp hm]at D;exact Rc _ (Pt D)) (O8 _ D),rfl,q⟩
theorem wg(bs:List Bool):((Pu bs.length).all λi=>(bs[i]?).getD true)=bs.all id:=by
 rw[QW,QL,QL];constructor
 .intro h b B;obtain⟨i,hi,rfl⟩:=Tb.mp B;have z:=h i (Pm.mpr hi);rw[OZ hi]at z;exact z
 intro h i hi;have hi:=Pm.mp hi;rw[OZ hi];exact h _ (PV hi)
theorem uG(U:X.calm=true):eI X (.builtin "all") (λxs H Q=>∃(p:UR) (bs:List Bool),xs=[.ref p]/\H p=Yl (.lst (bs.map V.bl))/\Q (.bl (bs.all id)) H):=by
 intro pins s σ H xs us Q I r h;obtain⟨p,bs,rfl,Z,q⟩:=h;obtain⟨u,rfl,ru⟩:=r.one;cases ru;obtain⟨z,its,n,rv,hlen,e⟩:=I.vH Z;have O:s.heap.IsList p its.toArray:=⟨_,e,rfl,n,rfl⟩
 have J:p<s.heap.objs.size:=Pt e;have B:bs.length=its.length:=by rw[<-hlen,O0]
 refine call_all_walk (WJ O ⟨s.heap.objs.size,[s.heap.objs.size,p],[s.heap.objs.size],its.toArray.size,_,_,λi=>(bs[i]?).getD true,rfl,Walks.list (A:=X.A.in1) (I.ok.hd U) _ p (PR J) its.toArray,
  ⟨⟨_,Pn _ rfl,rfl,rfl⟩,O.push _⟩,λi v s' Q' E' E M=>?_,λh' tk hk=>?_⟩)
 .have E:its[i]?=Yl v:=by simpa using E
  have hi:i<bs.length:=by rw[B];exact(O1.mp E).1
  have D:(bs.map V.bl)[i]?=Yl (.bl bs[i]):=by rw[O6,OZ hi];rfl
  obtain⟨u,e1,r1⟩:=rv.get D;rw[E]at e1;obtain rfl:=Option.some.inj e1;cases r1;dsimp only at M;rw[OZ hi]at M;exact Vj M
 have e2:((Pu its.toArray.size).all λi=>(bs[i]?).getD true)=bs.all id:=by rw[Pe,<-B];exact wg bs
 rw[e2];exact⟨.bl _,H,I.kept (t':=tk) λb o D=>hk b o (λhm=>by rw[O3.mp hm]at D;exact Rc _ (Pt D)) (O8 _ D),rfl,q⟩
end
end L2
namespace aC
open PySem L2
noncomputable def iy(fs:List Int)(L:List Nat)(p:Int×Int):List Bool:=(L.filter λg=>decide (ow fs g=p)).flatMap λg=>[decide (fs.getD g 0<0),decide (fs.getD (g+1) 0<0)]
theorem o5(fs:List Int)(L:List Nat)(g:Nat)(p:Int×Int):iy fs (L++[g]) p=if ow fs g=p then iy fs L p++[decide (fs.getD g 0<0),decide (fs.getD (g+1) 0<0)]else iy fs L p:=by
 unfold iy;rw[Qf,RQ,Qu,Qv];by_cases c:ow fs g=p
 .rw[UQ (UX c),UQ c];rfl
 rw[UO (by rw[U1 c];decide),UO c];simp
theorem Em(fs:List Int)(L:List Nat)(p:Int×Int):(iy fs L p).length<=2*L.length:=by
 refine gJ (P:=λL=>(iy fs L p).length<=2*L.length) (O5 _) (λL g z=>?_) L;rw[o5,O7]
 split
 .rw[O7];show _+2<=2*(_+1);omega
 show _<=2*(_+1);omega
theorem B7{fs:List Int}{L:List Nat}{p:Int×Int}(h:iy fs L p≠[]):∃g∈L,ow fs g=p:=by
 refine O2 λc=>h ?_;unfold iy;have e:L.filter (λg=>decide (ow fs g=p))=[]:=List.filter_eq_nil_iff.mpr λg B z=>c ⟨g,B,U0 z⟩;rw[e]
 rfl
noncomputable def gX(fs:List Int)(m:Nat):List Nat:=(Pu m).filter (isOpen fs)
theorem En(fs:List Int)(m:Nat):(gX fs m).length<=m:=by
 unfold gX;exact PH (PN _ _) (by rw[PL];exact O5 _)
theorem Eo{fs:List Int}{m g:Nat}(h:g∈gX fs m):g<m:=Pm.mp (O9.mp h).1
theorem zF(fs:List Int)(m:Nat):jI fs m=(gX fs m).map λ(g:Nat)=>(g:Int):=rfl
noncomputable def sy(fs:List Int)(L:List Nat)(p:Int×Int):Bool:=decide (iy fs L p≠[])&&decide (El.cnt (iy fs L p)=1)
noncomputable def di(fs:List Int)(L:List Nat):List (Int×Int):=(cG fs).filter (sy fs L)
theorem kY{bs:List Bool}(h:bs≠[]):(bs.all id || !bs.any id)=decide (El.cnt bs=1):=by
 have e1:bs.all id=!bs.any (· == false):=by
  rw[QW,QL,Rm,<-Um,Qq];constructor
  .rintro h ⟨x,z,e⟩;have:=h x z;cases x <;> simp_all
  intro h x z;cases x
  .exact UU ⟨false,z,rfl⟩ h
  rfl
 have e2:bs.any id=bs.any (· == true):=by
  congr 1;funext b;cases b <;> rfl
 have e3:bs.any (· == true)=true\/bs.any (· == false)=true:=by
  cases bs with
  |nil=>exact UU rfl h
  |cons b r =>
   cases b
   .right;rfl
   left;rfl
 unfold El.cnt;rw[e1,e2]
 revert e3
 generalize bs.any (· == true)=x;generalize bs.any (· == false)=y;cases x <;> cases y <;> simp
noncomputable def kp(p:Int×Int):List Key:=[Sum.inl p.1,Sum.inl p.2]
theorem B8{p q:Int×Int}(h:kp p=kp q):p=q:=by
 unfold kp at h;injection h with B z;injection z with z;injection B with B;injection z with z;obtain⟨a,b⟩:=p;obtain⟨c,d⟩:=q;dsimp only at B z;rw[B,z]
structure KD(H0 H:Hp) (d:UR) (kvs:List (List Key×V)) (ps:List (Int×Int)) (as:List UR) (F:Int×Int->List Bool):Prop where
 at':H d=Yl (.dT kvs)
 ks:kvs.map Qd=ps.map kp
 vs:kvs.map Rr=as.map V.ref
 np:ps.Nodup
 nd:as.Nodup
 lst:∀(j:Nat) (a:UR) (p:Int×Int),as[j]?=Yl a->ps[j]?=Yl p->H a=Yl (.lst ((F p).map V.bl))
 new:∀a∈as,H0 a=none
 mem:∀p,p∈ps↔F p≠[]
section
variable {H0 H H':Hp}{d:UR}{kvs:List (List Key×V)}{ps:List (Int×Int)}{as:List UR}{F F':Int×Int->List Bool}
theorem KD.len(h:KD H0 H d kvs ps as F):kvs.length=ps.length/\as.length=ps.length:=by
 have z:=congrArg Rx h.ks;have B:=congrArg Rx h.vs;rw[O0,O0]at z B;exact⟨z,by omega⟩
theorem KD.same(h:KD H0 H d kvs ps as F)(s:ax H H'):KD H0 H' d kvs ps as F:=⟨s _ _ h.at',h.ks,h.vs,h.np,h.nd,λj a p z B=>s _ _ (h.lst j a p z B),h.new,h.mem⟩
theorem KD.key(h:KD H0 H d kvs ps as F){j:Nat}{a:UR}{p:Int×Int}(z:as[j]?=Yl a)(B:ps[j]?=Yl p):kvs[j]?=Yl (kp p,V.ref a):=by
 have k1:=congrArg (·[j]?) h.ks;have k2:=congrArg (·[j]?) h.vs;simp only[O6,z,B,Ry]at k1 k2;obtain⟨q,e1,e2⟩:=Ph.mp k1;obtain⟨E,e3,D⟩:=Ph.mp k2;rw[e1]at e3;cases e3;rw[e1,<-e2,<-D]
theorem KD.nk(h:KD H0 H d kvs ps as F):(kvs.map Qd).Nodup:=by
 rw[h.ks];exact PD.mpr (List.Pairwise.imp (λz e=>z (B8 e)) h.np)
theorem KD.old(h:KD H0 H d kvs ps as F){p:Int×Int}{xs:List Bool}{v:V}(Z:bq kvs (kp p)=Yl v)(hF:F' p=F p++xs)(hq:∀q,q≠p->F' q=F q) :
  ∃a,v=.ref a/\H a=Yl (.lst ((F p).map V.bl))/\H0 a=none/\KD H0 (upd H a (.lst ((F p).map V.bl++xs.map V.bl))) d kvs ps as F':=by
 have O:=rK Z;have O:kp p∈kvs.map Qd:=O;rw[h.ks]at O;obtain⟨p',B,ep⟩:=O4.mp O;obtain rfl:=B8 ep;obtain⟨j,D⟩:=PF B;have hl:=h.len;have E:j<as.length:=by rw[hl.2];exact(O1.mp D).1
 have U:as[j]?=Yl as[j]:=OZ E;have z:=sx h.nk (h.key U D);rw[Z]at z;obtain rfl:=Option.some.inj z;have hL:=h.lst j _ _ U D;refine⟨as[j],rfl,hL,h.new _ (PV E),?_⟩;have hd:d≠as[j]:=λz=>by have:=h.at';rw[z,hL]at this;cases this
 refine⟨by rw[ao hd];exact h.at',h.ks,h.vs,h.np,h.nd,λi a q J M=>?_,h.new,λq=>?_⟩
 .by_cases c:i=j
  .subst c;rw[D]at M;cases M;rw[U]at J;cases J;rw[ag,hF,Pb]
  have na:a≠as[j]:=λz=>c ((Qa (O1.mp J).1 h.nd).mp (by rw[J,U,z]));have nq:q≠p':=λz=>c ((Qa (O1.mp M).1 h.np).mp (by rw[M,D,z]));rw[ao na,hq q nq];exact h.lst i a q J M
 rw[h.mem];by_cases c:q=p'
 .subst c;rw[hF];have:=(h.mem q).mp B;exact⟨λz e=>z (List.append_eq_nil_iff.mp e).1,λ_=>this⟩
 rw[hq q c]
theorem KD.fresh(h:KD H0 H d kvs ps as F){p:Int×Int}{xs:List Bool}{n:UR}(hv:bq kvs (kp p)=none)(hn:H n=Yl (.lst []))(M:H0 n=none)(J:n∉as)(O:F p=[])(hF:F' p=xs)(hx:xs≠[])(hq:∀q,q≠p->F' q=F q) :
  KD H0 (upd (upd H d (.dT (putK kvs (kp p) (.ref n)))) n (.lst ([]++xs.map V.bl))) d (putK kvs (kp p) (.ref n)) (ps++[p]) (as++[n]) F':=by
 have hd:d≠n:=λz=>by have:=h.at';rw[z,hn]at this;cases this
 have hl:=h.len;have np:p∉ps:=λz=>(h.mem p).mp z O;refine⟨by rw[ao hd,ag],?_,?_,?_,?_,λj a q D E=>?_,λa B=>?_,λq=>?_⟩
 .rw[iz _ hv,Pb,h.ks,Pb];rfl
 .rw[iz _ hv,Pb,h.vs,Pb];rfl
 .rw[QF];exact⟨h.np,by simp,λa B b U e=>np (by rw[<-O3.mp U,<-e];exact B)⟩
 .rw[QF];exact⟨h.nd,by simp,λa B b U e=>J (by rw[<-O3.mp U,<-e];exact B)⟩
 .by_cases c:j<as.length
  .rw[Pg c]at D;rw[Pg (by omega)]at E;have na:a≠n:=λz=>J (z▸Pk D);have nq:q≠p:=λz=>np (z▸Pk E);have h3:=h.lst j a q D E;have nd:a≠d:=λz=>by have:=h.at';rw[<-z,h3]at this;cases this
   rw[ao na,ao nd,hq q nq];exact h3
  rw[Pd (by omega)]at D E;have ej:j-as.length=0:=by
   have:=(O1.mp D).1;simp at this;omega
  have Z:j-ps.length=0:=by omega
  rw[ej]at D;rw[Z]at E;cases D;cases E;rw[ag,hF]
  rfl
 .rcases Pl.mp B with B|B
  .exact h.new a B
  rw[O3.mp B];exact M
 rw[Pl,h.mem,O3];by_cases c:q=p
 .subst c;rw[hF];exact⟨λ_=>hx,λ_=>.inr rfl⟩
 rw[hq q c];exact⟨λz=>z.resolve_right c,.inl⟩
end
def kZ:Sp:=λvs H Q _=>∃(t:UR) (rs:List Int),vs=[.ref t]/\H t=Yl (.tup (iV rs))/\aR rs/\∀(l:UR) (z:Hp),H l=none->ax H z->df pr z l (di (aj rs) (gX (aj rs) (rs.length+1)))->Q (.ref l) z
open NK
noncomputable abbrev Nd:=List Itm
noncomputable abbrev d5:=List (Nd×List Nd)
noncomputable def pN(p:Int×Int):Nd:=[.inl (.inl p.1),.inl (.inl p.2)]
noncomputable def qI(p:Int×Int):Itm:=.inr [.inl p.1,.inl p.2]
noncomputable def cN(c:List (Int×Int)):Nd:=c.map qI
theorem jX{p q:Int×Int}(h:pN p=pN q):p=q:=by
 unfold pN at h;injection h with B z;injection z with z _;injection B with B;injection B with B;injection z with z;injection z with z;exact Ur B z
theorem HC{p q:Int×Int}(h:qI p=qI q):p=q:=by
 unfold qI at h;injection h with h;injection h with B z;injection z with z _;injection B with B;injection z with z;exact Ur B z
theorem sA{c d:List (Int×Int)}(h:cN c=cN d):c=d:=(Ri λ_ _ e=>HC e).mp h
theorem iU{p:Int×Int}{c:List (Int×Int)}:pN p≠cN c:=λh=>by
 cases c with
 |nil=>cases h
 |cons q r =>
  injection h with z _;cases z
noncomputable def bb(W:d5):List Nd:=W.map (·.1)
noncomputable def cW(W:d5)(k:Nd):List Nd:=((W.find? λt=>decide (t.1=k)).map (·.2)).getD []
structure fR(W:d5):Prop where
 nd:(bb W).Nodup
 nl:∀t∈W,t.2.Nodup
 sym:∀t∈W,∀l∈t.2,∃u∈W,u.1=l/\t.1∈u.2
 irr:∀t∈W,t.1∉t.2
section
variable {W:d5}{t u:Nd×List Nd}{k:Nd}
theorem fR.uniq(O:fR W)(B:t∈W)(D:u∈W)(e:t.1=u.1):t=u:=by
 obtain⟨i,hi,rfl⟩:=PB B;obtain⟨j,E,rfl⟩:=PB D;have nd:=O.nd;unfold bb at nd;have z:(W.map (·.1))[i]'(by rw[O0];exact hi)=(W.map (·.1))[j]'(by rw[O0];exact E):=by rw[Qw,Qw];exact e
 have:=(RO nd).mp z;subst this
 rfl
theorem fR.lk(O:fR W)(z:t∈W):cW W t.1=t.2:=by
 unfold cW;cases e:W.find? λu=>decide (u.1=t.1)with
 |none=>exact UU (R0.mp e t z) (by simp)
 |some u =>
  have B:=Qx e;have D:u.1=t.1:=U0 (RC (p:=λu:Nd×List Nd=>decide (u.1=t.1)) e);rw[O.uniq B z D]
  rfl
theorem mem_keys:k∈bb W↔∃t∈W,t.1=k:=by unfold bb;rw[O4]
theorem k6(h:k∉bb W):cW W k=[]:=by
 unfold cW;cases e:W.find? λu=>decide (u.1=k)with
 |none=>rfl
 |some u=>exact UU (mem_keys.mpr ⟨u,Qx e,U0 (RC (p:=λu:Nd×List Nd=>decide (u.1=k)) e)⟩) h
theorem fR.zG(O:fR W){a b:Nd}(h:b∈cW W a):a∈cW W b/\b∈bb W/\a∈bb W:=by
 by_cases c:a∈bb W
 .obtain⟨t,z,rfl⟩:=mem_keys.mp c;rw[O.lk z]at h;obtain⟨u,B,e,D⟩:=O.sym t z b h;subst e;rw[O.lk B];exact⟨D,mem_keys.mpr ⟨u,B,rfl⟩,c⟩
 rw[k6 c]at h;exact UU h Pf
theorem fR.B9(O:fR W)(a:Nd):(cW W a).Nodup:=by
 by_cases c:a∈bb W
 .obtain⟨t,z,rfl⟩:=mem_keys.mp c;rw[O.lk z];exact O.nl t z
 rw[k6 c];exact QJ
theorem fR.wj(O:fR W)(a:Nd):a∉cW W a:=λh=>by
 obtain⟨t,z,rfl⟩:=mem_keys.mp (O.zG h).2.2;rw[O.lk z]at h;exact O.irr t z h
noncomputable def dM(W:d5)(k:Nd):d5:=(W.filter λt=>decide (t.1≠k)).map λt=>(t.1,t.2.filter λl=>decide (l≠k))
theorem k8:u∈dM W k↔∃t∈W,t.1≠k/\u=(t.1,t.2.filter λl=>decide (l≠k)):=by
 unfold dM;rw[O4];constructor
 .rintro⟨t,h,rfl⟩;obtain⟨z,B⟩:=O9.mp h;exact⟨t,z,U0 B,rfl⟩
 rintro⟨t,z,B,rfl⟩;exact⟨t,O9.mpr ⟨z,UX B⟩,rfl⟩
theorem gO:bb (dM W k)=(bb W).filter λl=>decide (l≠k):=by
 unfold bb dM;rw[PK,Ss]
 rfl
theorem fR.cut(O:fR W):fR (dM W k):=by
 refine⟨by rw[gO];exact O.nd.sublist PY,λu z=>?_,λu z l D=>?_,λu z D=>?_⟩
 .obtain⟨t,B,_,rfl⟩:=k8.mp z;exact(O.nl t B).sublist PY
 .obtain⟨t,B,H,rfl⟩:=k8.mp z;obtain⟨J,E⟩:=O9.mp D;have E:=U0 E;obtain⟨v,M,e,U⟩:=O.sym t B l J;exact⟨_,k8.mpr ⟨v,M,by rw[e];exact E,rfl⟩,e,O9.mpr ⟨U,UX H⟩⟩
 obtain⟨t,B,_,rfl⟩:=k8.mp z;exact O.irr t B (O9.mp D).1
theorem Ep:(dM W k).length<=W.length:=by
 unfold dM;rw[O0];exact PN _ _
theorem HD(h:k∈bb W):(dM W k).length<W.length:=by
 obtain⟨t,z,rfl⟩:=mem_keys.mp h;unfold dM;rw[O0];refine QZ.mpr ⟨t,z,by simp⟩
noncomputable def aJ(W:d5)(ks:List (Int×Int)):List Nd:=(W.filter λt=>decide (t.2.length<=1) && !decide (t.1∈ks.map pN)).map (·.1)
noncomputable def mX(W:d5)(ks:List (Int×Int)):d5:=(aJ W ks).foldl dM W
theorem k9:∀(l:List Nd) (W:d5),(l.foldl dM W).length<=W.length
 |[],_=>O5 _
 |k::r,W=>PH (k9 r (dM W k)) Ep
theorem q9{ks:List (Int×Int)}(h:k∈aJ W ks):k∈bb W:=by
 unfold aJ at h;obtain⟨t,z,rfl⟩:=O4.mp h;exact mem_keys.mpr ⟨t,(O9.mp z).1,rfl⟩
theorem nS{ks:List (Int×Int)}(h:aJ W ks≠[]):(mX W ks).length<W.length:=by
 unfold mX;cases e:aJ W ks with
 |nil=>exact UU e h
 |cons k r=>exact QO (k9 r (dM W k)) (HD (q9 (ks:=ks) (by rw[e];exact Pc)))
noncomputable def eP:Nat->d5->List (Int×Int)->d5
 |0,W,_=>W
 |n+1,W,ks=>if aJ W ks=[]then W else eP n (mX W ks) ks
theorem rd{ks:List (Int×Int)}:∀(n m:Nat) (W:d5),W.length<=n->W.length<=m->eP n W ks=eP m W ks
 |0,0,W,_,_=>rfl
 |0,m+1,W,z,B=>by
  have e:W=[]:=QH.mp (by omega);subst e;show _=if aJ [] ks=[]then[]else _;rw[UQ (show aJ [] ks=[]from rfl)]
  rfl
 |n+1,0,W,z,B=>by
  have e:W=[]:=QH.mp (by omega);subst e;show(if aJ [] ks=[]then[]else _)=_;rw[UQ (show aJ [] ks=[]from rfl)]
  rfl
 |n+1,m+1,W,z,B=>by
  show(if aJ W ks=[]then W else eP n (mX W ks) ks)=if aJ W ks=[]then W else eP m (mX W ks) ks;by_cases c:aJ W ks=[]
  .rw[UQ c,UQ c]
  rw[UO c,UO c];have:=nS c;exact rd n m _ (by omega) (by omega)
noncomputable def ir(W:d5)(ks:List (Int×Int)):d5:=eP W.length W ks
theorem zH{ks:List (Int×Int)}(h:aJ W ks=[]):ir W ks=W:=by
 unfold ir;cases e:W.length with
 |zero=>rfl
 |succ n =>
  show(if aJ W ks=[]then W else _)=W;rw[UQ h]
theorem zI{ks:List (Int×Int)}(h:aJ W ks≠[]):ir W ks=ir (mX W ks) ks:=by
 have lt:=nS h;unfold ir;cases e:W.length with
 |zero=>omega
 |succ n =>
  show(if aJ W ks=[]then W else eP n (mX W ks) ks)=_;rw[UO h];exact rd n _ _ (by omega) (O5 _)
theorem fR.fold:∀(l:List Nd) {W:d5},fR W->fR (l.foldl dM W)
 |[],_,O=>O
 |_::r,_,O=>fR.fold r O.cut
theorem fR.eP{ks:List (Int×Int)}:∀(n:Nat) {W:d5},fR W->fR (eP n W ks)
 |0,_,O=>O
 |n+1,W,O=>by
  show fR (if aJ W ks=[]then W else _)
  split
  .exact O
  exact fR.eP n (O.fold _)
theorem mY{ks:List (Int×Int)}:∀(n:Nat) (W:d5),W.length<=n->aJ (aC.eP n W ks) ks=[]
 |0,W,h=>by
  have e:W=[]:=QH.mp (by omega);subst e
  rfl
 |n+1,W,h=>by
  show aJ (if aJ W ks=[]then W else _) ks=[]
  by_cases c:aJ W ks=[]
  .rw[UQ c];exact c
  rw[UO c];have:=nS c;exact mY n _ (by omega)
theorem fold_keeps:∀(l:List Nd) (W:d5),k∈bb W->k∉l->k∈bb (l.foldl dM W)
  |[],_,h,_=>h
  | x::r, W, h, n => fold_keeps r (dM W x) (by
      rw[gO];exact O9.mpr ⟨h,UX λz=>n (by rw[z]; exact Pc)⟩) λz=>n (Pj _ z)
noncomputable def sC(W:d5):Nat->Nd->List Nd->List Nd->List Nd
 |0,_,_,z=>z
 |n+1,p,B,z=>match B with
  |[]=>z
  |t::_=>if(cW W t).length<=2 then sC W n t ((cW W t).filter λl=>decide (l≠p)) (z++[t])else z
noncomputable def dI(W:d5)(e:Nd):List Nd:=sC W W.length e (cW W e) [e]
structure Path(W:d5) (vs:List Nd):Prop where
 nd:vs.Nodup
 key:∀v∈vs,v∈bb W
 Af:∀(i:Nat) (a b:Nd),vs[i]?=Yl a->vs[i+1]?=Yl b->b∈cW W a
 Fz:∀v∈vs,(cW W v).length<=2
 d0:∀a,vs[0]?=Yl a->(cW W a).length<=1
theorem mE:∀{xs ys:List Nd},xs.Nodup->(∀x∈xs,x∈ys)->xs.length<=ys.length
 |[],ys,_,_=>PQ _
 |x::r,ys,h,s=>by
  rw[PX]at h;have D:=s x Pc;have E:=mE (xs:=r) (ys:=ys.filter λy=>decide (y≠x)) h.2 λy B=>by
   have ne:y≠x:=λz=>h.1 (z▸B);exact O9.mpr ⟨s y (Pj _ B),UX ne⟩
  have H:(ys.filter λy=>decide (y≠x)).length<ys.length:=QZ.mpr ⟨x,D,by simp⟩;show r.length+1<=ys.length;omega
theorem Path.len(P:Path W vs):vs.length<=W.length:=by
 have:=mE P.nd P.key;unfold bb at this;rwa[O0]at this
theorem Ca{a b:Nd}{l:List Nd}(z:a∈l)(B:b∈l)(h:l.length<=1):a=b:=by
 match l,h with
 |[x],_=>rw[O3.mp z,O3.mp B]
 |[],_=>exact UU z Pf
theorem wk{a b c:Nd}{l:List Nd}(B:a∈l)(D:b∈l)(E:c∈l)(h:l.length<=2)(H:a≠b)(J:a≠c)(M:b≠c):False:=by
 have:=mE (xs:=[a,b,c]) (ys:=l) (by simp[H,J,M]) (λx z=>by
  rcases Pq.mp z with rfl|z
  .exact B
  rcases Pq.mp z with rfl|z
  .exact D
  cases O3.mp z;exact E)
 have:3<=l.length:=this;omega
theorem Path.snoc(O:fR W){vs:List Nd}(P:Path W vs){p x:Nd}(hp:vs.getLast?=Yl p)(V:x∈cW W p)(hq:∀q,2<=vs.length->vs[vs.length-2]?=Yl q->x≠q)(hd:(cW W x).length<=2):Path W (vs++[x]):=by
 obtain⟨ys,rfl⟩:=RN.mp hp;have J:(ys++[p]).length=ys.length+1:=by rw[O7];rfl
 have ep:(ys++[p])[ys.length]?=Yl p:=by rw[Pd (O5 _),QE];rfl
 have Z:=O.zG V;have inj:∀{i j:Nat}{a:Nd},(ys++[p])[i]?=Yl a->(ys++[p])[j]?=Yl a->i=j:=λ{i j a} D E=>(Qa (O1.mp D).1 P.nd).mp (D.trans E.symm);have new:x∉ys++[p]:=λhm=>by
  obtain⟨i,hi,e⟩:=PB hm;have M:(ys++[p])[i]?=Yl x:=by rw[OZ hi,e]
  rw[J]at hi;by_cases c1:i=ys.length
  .subst c1;cases ep.symm.trans M;exact O.wj p V
  by_cases c2:i+1=ys.length
  .refine hq x (by omega) ?_ rfl;rw[J,show ys.length+1-2=i by omega];exact M
  have H:=OZ (l:=ys++[p]) (i:=i+1) (by rw[J];omega);have hn:=P.Af i _ _ M H;by_cases c0:i=0
  .subst c0;have:=Ca hn Z.1 (P.d0 _ M);rw[this]at H;have:=inj H ep;omega
  have U:=OZ (l:=ys++[p]) (i:=i-1) (by rw[J];omega);have hb:=P.Af (i-1) _ _ U (by rw[show i-1+1=i by omega];exact M);have LB:=(O.zG hb).1;refine wk LB hn Z.1 (P.Fz x hm) (λz=>?_) (λz=>?_) (λz=>?_)
  .rw[z]at U;have:=inj U H;omega
  .rw[z]at U;have:=inj U ep;omega
  rw[z]at H;have:=inj H ep;omega
 refine⟨?_,λv B=>?_,λi a b D E=>?_,λv B=>?_,λa h=>?_⟩
 .rw[QF];exact⟨P.nd,by simp,λa ha b hb z=>new (by rw[O3.mp hb]at z;rwa[<-z])⟩
 .rcases Pl.mp B with B|B
  .exact P.key v B
  rw[O3.mp B];exact Z.2.1
 .by_cases c:i+1<(ys++[p]).length
  .rw[Pg (by omega)]at D;rw[Pg c]at E;exact P.Af i a b D E
  have hi:=(O1.mp E).1;rw[O7,PM]at hi;have e1:i=ys.length:=by omega
  subst e1;rw[Pg (by omega),ep]at D;rw[Pd (by omega),J,QE]at E;cases D;cases E;exact V
 .rcases Pl.mp B with B|B
  .exact P.Fz v B
  rw[O3.mp B];exact hd
 rw[Pg (by omega)]at h;exact P.d0 a h
end
noncomputable def gP(kins:List (Int×Int))(g:List Int):List (Int×Int):=g.map λi=>kins.getD i.toNat (0,0)
noncomputable def jC(c:List (Int×Int))(k:Int×Int):Bool:=decide (k.1<(c.headD (0,0)).1)&&decide ((c.getLastD (0,0)).2<k.2)
noncomputable def iW(kins c:List (Int×Int)):List (Int×Int):=kins.filter (jC c)
noncomputable def cq(kins c:List (Int×Int)):List (Int×Int):=(iW kins c).drop ((iW kins c).length-1)
noncomputable def lj(kins c:List (Int×Int)):List (Int×Int):=c++cq kins c
noncomputable def d8(kins:List (Int×Int))(cs:List (List (Int×Int))):d5:=kins.map (λk=>(pN k,(cs.filter λc=>decide (k∈lj kins c)).map cN))++cs.map λc=>(cN c,(lj kins c).map pN)
structure Kk(kins:List (Int×Int)) (cs:List (List (Int×Int))):Prop where
 knd:kins.Nodup
 LC:cs.Nodup
 sub:∀c∈cs,∀k∈lj kins c,k∈kins
 Kl:∀c∈cs,(lj kins c).Nodup
theorem js{α β:Type}{f:α->β}{l:List α}(h:l.Nodup)(inj:∀a b,f a=f b->a=b):(l.map f).Nodup:=by
 unfold List.Nodup at h⊢;rw[PD];exact h.imp λn e=>n (inj _ _ e)
theorem gQ(kins:List (Int×Int))(cs:List (List (Int×Int))):bb (d8 kins cs)=kins.map pN++cs.map cN:=by
 unfold bb d8;rw[Pb,PK,PK]
 rfl
theorem h8{kins:List (Int×Int)}{cs:List (List (Int×Int))}(K:Kk kins cs):fR (d8 kins cs):=by
 have H:∀{t:Nd×List Nd},t∈d8 kins cs->(∃k∈kins,t=(pN k,(cs.filter λc=>decide (k∈lj kins c)).map cN))\/∃c∈cs,t=(cN c,(lj kins c).map pN):=λ{t} h=>by
  rcases Pl.mp h with h|h
  .obtain⟨k,B,rfl⟩:=O4.mp h;exact .inl ⟨k,B,rfl⟩
  obtain⟨c,z,rfl⟩:=O4.mp h;exact .inr ⟨c,z,rfl⟩
 refine⟨?_,λt D=>?_,λt D l E=>?_,λt D E=>?_⟩
 .rw[gQ,QF];refine⟨js K.knd λ_ _=>jX,js K.LC λ_ _=>sA,λa J b M e=>?_⟩;obtain⟨k,_,rfl⟩:=O4.mp J;obtain⟨c,_,rfl⟩:=O4.mp M;exact iU e
 .rcases H D with⟨k,B,rfl⟩|⟨c,z,rfl⟩
  .exact js (K.LC.sublist PY) λ_ _=>sA
  exact js (K.Kl c z) λ_ _=>jX
 .rcases H D with⟨k,B,rfl⟩|⟨c,z,rfl⟩
  .obtain⟨c,z,rfl⟩:=O4.mp E;obtain⟨O,U⟩:=O9.mp z;exact⟨_,Pp _ (O4.mpr ⟨c,O,rfl⟩),rfl,O4.mpr ⟨k,U0 U,rfl⟩⟩
  obtain⟨k,B,rfl⟩:=O4.mp E;exact⟨_,Px _ (O4.mpr ⟨k,K.sub c z k B,rfl⟩),rfl,O4.mpr ⟨c,O9.mpr ⟨z,UX B⟩,rfl⟩⟩
 rcases H D with⟨k,B,rfl⟩|⟨c,z,rfl⟩
 .obtain⟨c,_,e⟩:=O4.mp E;exact iU e.symm
 obtain⟨k,_,e⟩:=O4.mp E;exact iU e
theorem Cb(c:Nat->Int):∀n,∀e∈gr c n,e.2.Pairwise (· < ·)
 |0,e,h=>nomatch h
 |n+1,e,h=>by
  have z:=Cb c n;have ok:=gu c n;have h:e∈eN (gr c n) (c n) n:=h;unfold eN at h
  split at h
  .obtain⟨d,hd,rfl⟩:=O4.mp h
   split
   .show(d.2++[(n:Int)]).Pairwise (· < ·);rw[Q4];refine⟨z d hd,QG ..,λa B b D=>?_⟩;rw[O3.mp D];exact(ok.lt d hd a B).2
   exact z d hd
  rcases Pl.mp h with h|h
  .exact z e h
  rw[O3.mp h];exact QG ..
noncomputable def aP(kins:List (Int×Int)):List (List (Int×Int)):=(fw kins).map (gP kins)
section
variable {kins:List (Int×Int)}
theorem x8(asc:kins.Pairwise λp q=>p.1<q.1){i j:Nat}(hi:i<j)(z:j<kins.length):(kins.getD i (0,0)).1<(kins.getD j (0,0)).1:=by
 rw[Py,Py,OZ (show i<kins.length by omega),OZ z];exact PC.mp asc i j (by omega) z hi
theorem lq{g:List Int}(h:g∈fw kins):g≠[]/\(∀x∈g,0<=x/\x<kins.length)/\g.Pairwise (· < ·)/\g.length<=kins.length:=by
 unfold fw at h;obtain⟨e,z,rfl⟩:=O4.mp h;have ok:=gu (λk=>mk kins (kins.getD k (0,0)).1) kins.length;exact⟨ok.ne e z,ok.lt e z,Cb _ _ e z,ok.len e z⟩
theorem x9(asc:kins.Pairwise λp q=>p.1<q.1){g:List Int}(h:g∈fw kins):(gP kins g).Pairwise λp q=>p.1<q.1:=by
 obtain⟨_,B,D,_⟩:=lq h;unfold gP;rw[PD];have:g.Pairwise λa b=>a<b/\b∈g/\a∈g:=by
  rw[PC];intro i j hi E z;exact⟨PC.mp D i j hi E z,PV _,PV _⟩
 refine this.imp λ{a b} q=>?_;have H:=B a q.2.2;have J:=B b q.2.1;have:=q.1;exact x8 asc (by omega) (by omega)
theorem Er{g:List Int}(h:g∈fw kins){k:Int×Int}(z:k∈gP kins g):k∈kins:=by
 obtain⟨i,hi,rfl⟩:=O4.mp z;have:=(lq h).2.1 i hi;rw[Py,OZ (show i.toNat<kins.length by omega)];exact PV _
theorem o6{l:List (Int×Int)}(asc:l.Pairwise λp q=>p.1<q.1):l.Nodup:=asc.imp λh e=>by rw[e]at h;omega
theorem iX{c:List (Int×Int)}:(cq kins c).length<=1:=by
 unfold cq;rw[PU];omega
theorem b7{c:List (Int×Int)}{k:Int×Int}(h:k∈cq kins c):k∈kins/\jC c k=true:=O9.mp (Td h)
theorem ya{l:List (Int×Int)}(asc:l.Pairwise λp q=>p.1<q.1){k:Int×Int}(h:k∈l):(l.headD (0,0)).1<=k.1:=by
 cases l with
 |nil=>exact UU h Pf
 |cons x r =>
  rcases Pq.mp h with rfl|h
  .exact QN _
  exact QY ((List.pairwise_cons.mp asc).1 k h)
theorem jt(asc:kins.Pairwise λp q=>p.1<q.1):Kk kins (aP kins):=by
 refine⟨o6 asc,?_,λc z k B=>?_,λc z=>?_⟩
 .have ok:=gu (λk=>mk kins (kins.getD k (0,0)).1) kins.length;have V:(fw kins).Pairwise λa b=>a.headD 0<b.headD 0:=by
   unfold fw;rw[PD];exact ok.asc
  unfold aP;unfold List.Nodup;rw[PD];have:(fw kins).Pairwise λa b=>a.headD 0<b.headD 0/\a∈fw kins/\b∈fw kins:=by
   rw[PC];intro i j hi Z H;exact⟨PC.mp V i j hi Z H,PV _,PV _⟩
  refine this.imp λ{a b} q e=>?_;obtain⟨M,q2,q3⟩:=q;have D:=lq q2;have E:=lq q3;cases a with
  |nil=>exact D.1 rfl
  |cons x r =>
   cases b with
   |nil=>exact E.1 rfl
   |cons y r' =>
    have e:kins.getD x.toNat (0,0)::gP kins r=kins.getD y.toNat (0,0)::gP kins r':=e;have e1:=(List.cons.inj e).1;have hx:=D.2.1 x Pc;have hy:=E.2.1 y Pc;have M:x<y:=M;have:=x8 asc (i:=x.toNat) (j:=y.toNat) (by omega) (by omega);rw[e1]at this;omega
 .unfold aP at z;obtain⟨g,J,rfl⟩:=O4.mp z;rcases Pl.mp B with B|B
  .exact Er J B
  exact(b7 B).1
 unfold aP at z;obtain⟨g,J,rfl⟩:=O4.mp z;have O:=x9 asc J;unfold lj;rw[QF];refine⟨o6 O,?_,λa D b E e=>?_⟩
 .have:=iX (kins:=kins) (c:=gP kins g)
  match cq kins (gP kins g),this with
  |[],_=>exact QJ
  |[x],_=>simp
 subst e;have U:=(b7 E).2;unfold jC at U;rw[Qn,U5,U5]at U;have:=ya O D;omega
end
noncomputable abbrev Es:=List (Nd×UR×UR)
noncomputable def eV(z:Es):List NK.Ent:=z.map λe=>(e.1,e.2.1,V.ref e.2.2)
def RW(H:Hp)(e:Nd×UR×UR)(t:Nd×List Nd):Prop:=e.1=t.1/\cV H e.2.2 t.2
structure j8(P:U3) (w:U4) (H:Hp) (a:UR) (es:Es) (W:d5):Prop where
 d:D2 P w H a (eV es)
 r:Paired (RW H) es W
 nd:(es.map (·.2.2)).Nodup
section
variable {P:U3}{w:U4}{H H':Hp}{a b l:UR}{es:Es}{W:d5}{k:Nd}{ks:List Nd}
theorem _root_.NK.cV.keep(h:cV H l ks)(e:H' l=H l)(g:∀c ys,H c=Yl (.tup ys)->H' c=Yl (.tup ys)):cV H' l ks:=by
 obtain⟨bs,z,B,D⟩:=h;exact⟨bs,e.trans z,B,λi b k e1 e2=>(D i b k e1 e2).keep g⟩
theorem _root_.NK.cV.same(h:cV H l ks)(s:ax H H'):cV H' l ks:=by
 obtain⟨bs,z,B,D⟩:=h;exact⟨bs,s _ _ z,B,λi b k e1 e2=>(D i b k e1 e2).keep λc ys e=>s _ _ e⟩
theorem _root_.NK.K2.same(h:K2 H k b)(s:ax H H'):K2 H' k b:=h.keep λc ys e=>s _ _ e
theorem j8.same(h:j8 P w H a es W)(s:ax H H'):j8 P w H' a es W :=
 ⟨⟨s _ _ h.d.1,λp z=>K2.same (h.d.2 p z) s⟩,Paired.rq h.r λe t q=>⟨q.1,cV.same q.2 s⟩,h.nd⟩
theorem lr(h:Paired (RW H) es W):es.map (·.1)=bb W:=by
 induction h with
 |nil=>rfl
 |cons q _ z =>
  exact congr (congrArg List.cons q.1) z
theorem sD(nd:(es.map (·.1)).Nodup)(h:(k,b,l)∈es):nD (eV es) k=Yl (.ref l):=by
 induction es with
 |nil=>exact UU h Pf
 |cons e r z =>
  rw[Qk,PX]at nd;unfold nD eV;rw[Qk,QX];by_cases c:e.1=k
  .rw[UX c];rcases Pq.mp h with rfl|h
   .rfl
   exact UU (O4.mpr ⟨(k,b,l),h,rfl⟩) (by rw[<-c];exact nd.1)
  rw[U1 c];rcases Pq.mp h with rfl|h
  .exact UU rfl c
  exact z nd.2 h
theorem HE(h:k∉es.map (·.1)):nD (eV es) k=none:=by
 unfold nD eV;rw[SW,R0];intro x B;obtain⟨e,D,rfl⟩:=O4.mp B;simpa usingλz=>h (O4.mpr ⟨e,D,z⟩)
theorem wm{α β:Type}{R:α->β->Prop}{xs:List α}{ys:List β}(h:Paired R xs ys){y:β}(z:y∈ys):∃x∈xs,R x y:=by
 induction h with
 |nil=>exact UU z Pf
 |cons q _ B =>
  rcases Pq.mp z with rfl|z
  .exact⟨_,Pc,q⟩
  obtain⟨x,D,E⟩:=B z;exact⟨x,Pj _ D,E⟩
theorem cX{α β:Type}{R:α->β->Prop}{xs:List α}{ys:List β}(h:Paired R xs ys){x:α}(z:x∈xs):∃y∈ys,R x y:=by
 induction h with
 |nil=>exact UU z Pf
 |cons q _ B =>
  rcases Pq.mp z with rfl|z
  .exact⟨_,Pc,q⟩
  obtain⟨y,D,E⟩:=B z;exact⟨y,Pj _ D,E⟩
theorem j8.at(h:j8 P w H a es W)(nd:(bb W).Nodup){t:Nd×List Nd}(B:t∈W):∃b l,(t.1,b,l)∈es/\nD (eV es) t.1=Yl (.ref l)/\cV H l t.2/\K2 H t.1 b:=by
 obtain⟨e,z,q⟩:=wm h.r B;obtain⟨e1,e2,e3⟩:=e;obtain⟨D,E⟩:=q;cases D;exact⟨e2,e3,z,sD (by rw[lr h.r];exact nd) z,E,h.d.2 _ (O4.mpr ⟨_,z,rfl⟩)⟩
theorem Paired.app{α β:Type}{R:α->β->Prop}{xs z:List α}{ys B:List β}(h:Paired R xs ys)(k:Paired R z B):Paired R (xs++z) (ys++B):=by
 induction h with
 |nil=>exact k
 |cons q _ D=>exact .cons q D
theorem j8.put(h:j8 P w H a es W)(J:k∉bb W)(M:K2 H k b)(O:cV H l ks)(nl:l∉es.map (·.2.2)):j8 P w (L2.upd H a (iR P w a (put2 (eV es) k b (.ref l)))) a (es++[(k,b,l)]) (W++[(k,ks)]):=by
 have e1:put2 (eV es) k b (.ref l)=eV (es++[(k,b,l)]):=by
  unfold put2;rw[HE (by rw[lr h.r];exact J),UO (by simp)];unfold eV;rw[Pb]
  rfl
 have g:∀{c:UR}{o:HO},H c=Yl o->(∀φ,o≠.ext φ)->L2.upd H a (iR P w a (put2 (eV es) k b (.ref l))) c=Yl o:=λ{c o} e n=>by
  rw[ao (λz=>by rw[z,h.d.1]at e;exact n _ (Option.some.inj e).symm)];exact e
 have E:∀{D:UR}{B:List Nd},cV H D B->cV (L2.upd H a (iR P w a (put2 (eV es) k b (.ref l)))) D B:=λ{D B} q=>by
  obtain⟨bs,U,V,Z⟩:=q;exact⟨bs,g U (λ_ z=>by cases z),V,λi b k e1 e2=>(Z i b k e1 e2).keep λc ys e=>g e λ_ z=>by cases z⟩
 refine⟨by rw[<-e1];exact h.d.put M,?_,?_⟩
 .exact Paired.app (Paired.rq h.r λe t q=>⟨q.1,E q.2⟩) (.cons ⟨rfl,E O⟩ .nil)
 rw[Pb,QF];exact⟨h.nd,by simp,λx hx y hy e=>nl (by have e:x=l:=e.trans (O3.mp hy);rw[<-e];exact hx)⟩
theorem j8.chg(h:j8 P w H a es W)(nd:(bb W).Nodup)(Z:(k,b,l)∈es){vs:List V}(O:H l=Yl (.lst vs)){f:List Nd->List Nd}{o:HO}(hn:∀ls,cV H l ls->cV (L2.upd H l o) l (f ls)):j8 P w (L2.upd H l o) a es (W.map λt=>if t.1=k then(t.1,f t.2)else t):=by
 have g:∀{c:UR}{ys:List V},H c=Yl (.tup ys)->L2.upd H l o c=Yl (.tup ys):=λ{c ys} e=>by
  rw[ao (λz=>by rw[z,O]at e;cases e)];exact e
 have na:a≠l:=λz=>by have:=h.d.1;rw[z,O]at this;cases this
 refine⟨h.d.keep (by rw[ao na]) λc ys e=>g e,?_,h.nd⟩;have nk:(es.map (·.1)).Nodup:=by rw[lr h.r];exact nd
 have key:∀e∈es,e.1=k↔e.2.2=l:=λe hm=>by
  obtain⟨i,hi,rfl⟩:=PB hm;obtain⟨j,B,D⟩:=PB Z;have z1:(es.map (·.1))[j]'(by rw[O0];exact B)=k:=by rw[Qw,D]
  have z2:(es.map (·.2.2))[j]'(by rw[O0];exact B)=l:=by rw[Qw,D]
  constructor
  .intro c;have:(es.map (·.1))[i]'(by rw[O0];exact hi)=(es.map (·.1))[j]'(by rw[O0];exact B):=by rw[z1,Qw];exact c
   have:=(RO nk).mp this;subst this;rw[D]
  intro c;have:(es.map (·.2.2))[i]'(by rw[O0];exact hi)=(es.map (·.2.2))[j]'(by rw[O0];exact B):=by rw[z2,Qw];exact c
  have:=(RO h.nd).mp this;subst this;rw[D]
 have go:∀{xs:Es}{ys:d5},(∀e∈xs,e.1=k↔e.2.2=l)->Paired (RW H) xs ys->Paired (RW (L2.upd H l o)) xs (ys.map λt=>if t.1=k then(t.1,f t.2)else t):=by
  intro xs ys U q
  induction q with
  |nil=>exact .nil
  | @cons e t r s q' _ ih =>
   refine .cons ?_ (ih λe' J=>U e' (Pj _ J));obtain⟨E,M⟩:=q';have c:=U e Pc;show RW (L2.upd H l o) e (if t.1=k then(t.1,f t.2)else t);by_cases d:e.1=k
   .rw[UQ (by rw[<-E];exact d)];refine⟨E,?_⟩;rw[c.mp d]at M⊢;exact hn _ M
   rw[UO (by rw[<-E];exact d)];refine⟨E,cV.keep M (by rw[ao (λz=>d (c.mpr z))]) λc ys e=>g e⟩
 exact go key h.r
theorem j8.drop(h:j8 P w H a es W):j8 P w (L2.upd H a (iR P w a (iS (eV es) k))) a (es.filter λe=>decide (e.1≠k)) (W.filter λt=>decide (t.1≠k)):=by
 have e1:iS (eV es) k=eV (es.filter λe=>decide (e.1≠k)):=by
  unfold iS eV;rw[Ss]
  rfl
 have g:∀{c:UR}{o:HO},H c=Yl o->(∀φ,o≠.ext φ)->L2.upd H a (iR P w a (iS (eV es) k)) c=Yl o:=λ{c o} e n=>by
  rw[ao (λz=>by rw[z,h.d.1]at e;exact n _ (Option.some.inj e).symm)];exact e
 refine⟨by rw[<-e1];exact D2.drop h.d,?_,h.nd.sublist (PY.map _)⟩;have go:∀{xs:Es}{ys:d5},Paired (RW H) xs ys->Paired (RW (L2.upd H a (iR P w a (iS (eV es) k)))) (xs.filter λe=>decide (e.1≠k)) (ys.filter λt=>decide (t.1≠k)):=by
  intro xs ys q
  induction q with
  |nil=>exact .nil
  | @cons e t r s E _ D =>
   obtain⟨B,bs,J,M,O⟩:=E;by_cases d:e.1=k
   .rw[Q8 (by simp[d]),Q8 (by simp[<-B,d])];exact D
   rw[Q9 (by simp[d]),Q9 (by simp[<-B,d])];exact .cons ⟨B,bs,g J (λ_ z=>by cases z),M,λi b k e1 e2=>(O i b k e1 e2).keep λc ys e=>g e λ_ z=>by cases z⟩ D
 exact go h.r
theorem _root_.NK.K2.pair{p:Int×Int}(h:H b=Yl (.tup (pr p))):K2 H (pN p) b:=⟨_,h,.cons rfl (.cons rfl .nil)⟩
theorem _root_.NK.K2.asPair{p:Int×Int}(h:K2 H (pN p) b):H b=Yl (.tup (pr p)):=by
 obtain⟨vs,e,r⟩:=h;rw[e];cases r with
 |cons z t =>
  cases t with
  |cons B D =>
   cases D;cases(show _=_ from z);cases(show _=_ from B)
   rfl
theorem _root_.NK.K2.chain{c:List (Int×Int)}{z:List UR}(h:H b=Yl (.tup (z.map V.ref)))(E:Tup pr H z c):K2 H (cN c) b:=by
 refine⟨_,h,?_⟩;obtain⟨B,D⟩:=E;clear h
 induction c generalizing z with
 |nil =>
  have:z=[]:=QH.mp B;subst this;exact .nil
 |cons p r J =>
  cases z with
  |nil=>cases B
  |cons t z =>
   refine .cons ⟨t,rfl,D 0 t p rfl rfl⟩ (J (Nat.succ.inj B) λi t' q e1 e2=>D (i+1) t' q e1 e2)
theorem df.Nr{ps:List (Int×Int)}(h:df pr H l ps):cV H l (ps.map pN):=by
 obtain⟨z,B,D,E⟩:=h;refine⟨z,B,by rw[O0];exact D,λi b k e1 e2=>?_⟩;rw[O6]at e2;obtain⟨p,e3,rfl⟩:=Ph.mp e2;exact K2.pair (E i b p e1 e3)
theorem _root_.NK.cV.Iu{ps:List (Int×Int)}(h:cV H l (ps.map pN)):df pr H l ps:=by
 obtain⟨B,D,z,E⟩:=h;refine⟨B,D,by rw[O0]at z;exact z,λi b p e1 e2=>K2.asPair (E i b (pN p) e1 (by rw[O6,e2];rfl))⟩
end
end aC
namespace L2
open PySem PySem.Spec
theorem Et{X:Cx}{scope:V3}{pre:List Vg}{y z:Vg}{c e:UR}{j k:Nat}(B:scope.kind=.function)(h:∀w∈scope.names,w.2≠.cell/\(w.2=.free->w.1=y\/w.1=z))(hn:∀w∈scope.names,w.2=.local->scope.names.lookup w.1=Yl .local)
  (H:W9 scope X.env=pure [(y,c),(z,e)]) (hc:X.env.cells.lookup y=Yl c) (he:X.env.cells.lookup z=Yl e) (hN:X.N[j]?=Yl y) (hM:X.N[k]?=Yl z) (D:X.env.kindOf y=Yl .cell) (J:X.env.kindOf z=Yl .cell) (hr:(VZ scope X.env).names.lookup y=Yl .cell) (M:(VZ scope X.env).names.lookup z=Yl .cell) :
  hH X scope [(y,c),(z,e)] (pre++[y,z]) (R7 pre.length none++[Yl j,Yl k]) where
 AN:=H
 cell:=λw hw=>(h w hw).1
 kind:=B
 names:=hn
 cls:=λx c' q=>by
  rw[Q2]at q
  split at q
  .rename_i O;rw[eq_of_beq O,<-q];exact hc
  rw[Q2]at q
  split at q
  .rename_i O;rw[eq_of_beq O,<-q];exact he
  cases q
 has:=λx q=>by
  have key:∀k,(VZ scope X.env).names.lookup x=Yl k->k=.cell\/k=.free->x=y\/x=z:=λk q D=>by
   have hm:=PySem.mem_of_lookup q;obtain⟨⟨n,Z⟩,hy,E⟩:=O4.mp hm;have h1:=h _ hy;by_cases U:Z=.free
   .have w:=h1.2 U;dsimp only at E
    split at E
    .cases E;exact w
    cases E;exact w
   have hb:(Z==NameKind.free)=false:=by simpa using U
   simp only[hb,R6,Qg,Vq,Prod.mk.injEq]at E;obtain⟨_,rfl⟩:=E;rcases D with D|D
   .exact UU D h1.1
   exact UU D U
  have V:x=y\/x=z:=by
   rcases q with q|q
   .exact key _ q (.inl rfl)
   exact key _ q (.inr rfl)
  rw[Q2];by_cases e1:x==y
  .rw[e1];exact⟨c,rfl⟩
  have e1:(x==y)=false:=by simpa using e1
  rw[e1];rcases V with w|w
  .rw[w,VF]at e1;cases e1
  rw[Q2,w,VF];exact⟨e,rfl⟩
 len:=by simp
 src:=λi q x e1 e2=>by
  by_cases hi:i<pre.length
  .rw[Pg (by simpa using hi),Q6,UQ hi]at e1;cases e1
  rw[Pd (by simp;omega),R9]at e1;rw[Pd (by omega)]at e2
  match hd:i-pre.length,e1,e2 with
  |0,e1,e2 =>
   simp at e1 e2;subst e1 e2;exact⟨hN,.inl D,.inl hr⟩
  |1,e1,e2 =>
   simp at e1 e2;subst e1 e2;exact⟨hM,.inl J,.inl M⟩
  |d+2,e1,e2 =>
   simp at e1
theorem uH{b:Bool}{A B:Prop}(z:b=true)(h:A):if b=true then A else B:=by rw[UQ z];exact h
theorem uI{b:Bool}{A B:Prop}(z:b=false)(h:B):if b=true then A else B:=by rw[UO (by rw[z];decide)];exact h
theorem Eu{i j:Int}(h:i=j):decide (V.int i=V.int j)=true:=UX (by rw[h])
theorem yb{i j:Int}(h:i≠j):decide (V.int i=V.int j)=false:=U1 (λz=>h (by injection z))
end L2
namespace aC
open PySem L2 NK
theorem zJ(xs:List V):fX xs (Yl (-1)) none=xs.drop (xs.length-1):=by
 unfold fX;have e:HT.cI xs.length 0 (Yl (-1))=xs.length-1:=by
  unfold HT.cI;simp;omega
 have e2:HT.cI xs.length xs.length none=xs.length:=rfl;rw[e,e2,QT (by rw[PU];omega)]
theorem yc{xs:List V}{v:V}(h:xs.getLast?=Yl v):vn xs (-1)=Yl v:=by
 obtain⟨ys,rfl⟩:=RN.mp h;exact L2.AH ys v
theorem rf{α β:Type}{R:α->β->Prop}{xs:List α}{ys:List β}(h:Paired R xs ys):∀{i:Nat}{x:α},xs[i]?=Yl x->∃y,ys[i]?=Yl y/\R x y:=by
 induction h with
 |nil=>intro i x e;simp at e
 |cons q _ z =>
  intro i x e;cases i with
  |zero=>cases e;exact⟨_,rfl,q⟩
  |succ i=>exact z e
theorem Cc{z:Es}{i:Nat}{k:Nd}{b:UR}{v:V}(h:(eV z)[i]?=Yl (k,b,v)):∃l,z[i]?=Yl (k,b,l)/\v=.ref l:=by
 unfold eV at h;rw[O6]at h;obtain⟨e,B,q⟩:=Ph.mp h;obtain⟨e1,e2,e3⟩:=e;cases q;exact⟨e3,B,rfl⟩
theorem _root_.NK.cV.len{H:Hp}{l:UR}{ks:List Nd}(h:cV H l ks):∃vs,H l=Yl (.lst vs)/\vs.length=ks.length:=by
 obtain⟨bs,z,B,_⟩:=h;exact⟨_,z,by rw[O0];exact B⟩
theorem _root_.NK.cV.snoc{H:Hp}{l b:UR}{ks:List Nd}{k:Nd}(h:cV H l ks)(E:K2 H k b):∃vs,H l=Yl (.lst vs)/\vs.length=ks.length/\cV (L2.upd H l (.lst (vs++[.ref b]))) l (ks++[k]):=by
 obtain⟨bs,D,B,J⟩:=h;have g:∀c ys,H c=Yl (.tup ys)->L2.upd H l (.lst (bs.map V.ref++[.ref b])) c=Yl (.tup ys):=λc ys e=>by
  rw[ao (λz=>by rw[z,D]at e;cases e)];exact e
 refine⟨_,D,by rw[O0];exact B,bs++[b],by rw[ag,Pb];rfl,by rw[O7,O7,B];rfl,λi c M e1 e2=>?_⟩;by_cases z:i<bs.length
 .rw[Pg z]at e1;rw[Pg (by omega)]at e2;exact(J i c M e1 e2).keep g
 have hi:=(O1.mp e1).1;rw[O7,PM]at hi;have:i=bs.length:=by omega
 subst this;rw[Pd (O5 _),QE]at e1;rw[Pd (by omega),B,QE]at e2;cases e1;cases e2;exact E.keep g
theorem wq{W:d5}{i:Nat}{t:Nd×List Nd}{ks:List (Int×Int)}(e:W[i]?=Yl t):aJ (W.take (i+1)) ks=aJ (W.take i) ks++(if t.2.length<=1/\t.1∉ks.map pN then[t.1]else[]):=by
 unfold aJ;rw[take_snoc e,Qf,Pb,Qu,Qv];congr 1;by_cases c:t.2.length<=1/\t.1∉ks.map pN
 .rw[UQ c,UQ (by rw[UX c.1,U1 c.2];rfl)]
  rfl
 rw[UO c,UO (λz=>c (by
  rw[Qn,U5,Rm,Vx]at z;exact z))]
 rfl
def uJ(H:Hp)(z:Es):Prop:=∀e∈z,H e.2.2=none
def yd:Sp:=λvs H Q _=>∃(tc l:UR) (B:List UR) (c kins:List (Int×Int)),vs=[.ref tc,.ref l]/\H tc=Yl (.tup (B.map V.ref))/\Tup pr H B c/\c≠[]/\df pr H l kins/\kins.length<=100/\∀(r:UR) (z:Hp),H r=none->ax H z->df pr z r (cq kins c)->Q (.ref r) z
variable (P:U3)(w:U4)
def nT:Sp:=λvs H Q _=>∃(l:UR) (kins:List (Int×Int)),vs=[.ref l]/\df pr H l kins/\(kins.Pairwise λp q=>p.1<q.1)/\kins.length<=100/\∀(a:UR) (B:Es) (z:Hp),H a=none->ax H z->uJ H B->j8 P w z a B (d8 kins (aP kins))->Q (.ref a) z
def yf:Sp:=λvs H Q _=>∃(a l:UR) (B:Es) (W:d5) (ks:List (Int×Int)),vs=[.ref a,.ref l]/\j8 P w H a B W/\fR W/\W.length<=500/\df pr H l ks/\∀(r:UR) (z:Hp),H r=none->ax H z->cV z r (aJ W ks)->Q (.ref r) z
noncomputable def cC(rs:List Int):d5:=if di (aj rs) (gX (aj rs) (rs.length+1))=[]then[]else ir (d8 (cG (aj rs)) (aP (cG (aj rs)))) (di (aj rs) (gX (aj rs) (rs.length+1)))
def sE:Sp:=λvs H Q _=>∃(t:UR) (rs:List Int),vs=[.ref t]/\H t=Yl (.tup (iV rs))/\aR rs/\∀(a:UR) (B:Es) (z:Hp),H a=none->ax H z->j8 P w z a B (cC rs)->Q (.ref a) z
noncomputable def bH(W:d5)(ks:List (Int×Int)):List (Int×Int):=ks.filter λp=>decide (pN p∈bb W)&&decide ((cW W (pN p)).length<=1)
def wt:Sp:=λvs H Q _=>∃(a:UR) (B:Es) (W:d5) (ks:List (Int×Int)),vs=[.ref a]/\j8 P w H a B W/\fR W/\W.length<=500/\aJ W ks=[]/\(ks.Pairwise λp q=>p.1<q.1)/\ks.length<=60/\(∀p∈ks,0<=p.2/\p.2<1000)/\∀(r:UR) (z:Hp),H r=none->ax H z->df pr z r (bH W ks)->Q (.ref r) z
def Cd:Sp:=λvs H Q _=>∃(e a:UR) (B:Es) (W:d5) (k:Nd),vs=[.ref e,.ref a]/\j8 P w H a B W/\fR W/\W.length<=500/\K2 H k e/\k∈bb W/\(cW W k).length<=1/\∀(r:UR) (z:Hp),H r=none->ax H z->cV z r (dI W k)->Q (.ref r) z
noncomputable def bV(rs:List Int):List Int:=(bH (cC rs) (di (aj rs) (gX (aj rs) (rs.length+1)))).map λe=>(((dI (cC rs) (pN e)).filter λk=>decide (k∈(di (aj rs) (gX (aj rs) (rs.length+1))).map pN)).length:Nat)
def sG:Sp:=λvs H Q _=>∃(t:UR) (rs:List Int),vs=[.ref t]/\H t=Yl (.tup (iV rs))/\aR rs/\∀(r:UR) (z:Hp),H r=none->ax H z->z r=Yl (.lst (iV (bV rs)))->Q (.ref r) z
noncomputable def cY(L:List Int):Int:=if L.length%2=1/\1<L.length/\(1:Int)∉L then(L.length:Int)+1 else L.length
def o7(K:Pa):Sp:=λvs H Q _=>∃(a:UR) (L:List Int),vs=[.ref a]/\(bc K H a (iV L)\/bZ K H a (iV L))/\Q (.int (cY L)) H
noncomputable def aN(rs:List Int):Int:=(rs.length:Int)+1-(fw (bU rs)).length+cY (bV rs)
def uK:Sp:=λvs H Q _=>∃(t:UR) (rs:List Int),vs=[.ref t]/\H t=Yl (.tup (iV rs))/\aR rs/\∀z:Hp,ax H z->Q (.int (aN rs)) z
noncomputable def mF(kins:List (Int×Int))(cs:List (List (Int×Int)))(c:List (Int×Int))(i:Nat):d5 :=
 kins.map (λk=>(pN k,(cs.filter λd=>decide (k∈lj kins d)).map cN++(if k∈(lj kins c).take i then[cN c]else[])))++(cs.map (λd=>(cN d,(lj kins d).map pN))++[(cN c,(lj kins c).map pN)])
section
variable {kins:List (Int×Int)}{cs:List (List (Int×Int))}{c:List (Int×Int)}
theorem zK:mF kins cs c 0=d8 kins cs++[(cN c,(lj kins c).map pN)]:=by
 unfold mF d8;rw[RD];congr 1;refine Pw λk _=>?_;rw[Tg,UO Pf,Qj]
theorem Ce:mF kins cs c (lj kins c).length=d8 kins (cs++[c]):=by
 unfold mF d8;rw[Qe,Pb];congr 1;refine Pw λk _=>?_;rw[Qf,Pb,Qu,Qv];congr 2;by_cases h:k∈lj kins c
 .rw[UQ h,UX h,UQ rfl]
  rfl
 rw[UO h,U1 h,UO (by decide)]
 rfl
theorem zM(nd:(lj kins c).Nodup){i:Nat}{p:Int×Int}(D:(lj kins c)[i]?=Yl p): ((mF kins cs c i).map λt=>if t.1=pN p then(t.1,t.2++[cN c])else t)=mF kins cs c (i+1):= by
  have np:p∉(lj kins c).take i:=λh=>by
    obtain⟨j,B⟩:= PF h;rw[QQ]at B;by_cases q:j<i
    · rw[UQ q]at B;have:=(Qa (O1.mp B).1 nd).mp (B.trans D.symm);omega
    · rw[UO q]at B; cases B
  unfold mF;rw[Pb,Pb,PK,PK];congr 1
  · refine Pw λk _ => ?_;show(if pN k=pN p then _ else _)=_;rw[take_snoc D];by_cases e:k=p
    · subst e;rw[UQ rfl];dsimp only;rw[UO np,Qj,UQ (Pp _ (O3.mpr rfl))]
    · rw[UO (λz=>e (jX z))];congr 2;by_cases h:k∈(lj kins c).take i
      · rw[UQ h,UQ (Px _ h)]
      · rw[UO h, UO (fun z => by
          rcases Pl.mp z with z|z
          · exact h z
          · exact e (O3.mp z))]
  · congr 1
    · refine Pw λd _ => ?_;show(if cN d=pN p then _ else _)=_;rw[UO (λz=>iU z.symm)]
    · show[if cN c=pN p then _ else _]=_;rw[UO (λz=>iU z.symm)]
theorem zN(i:Nat):bb (mF kins cs c i)=kins.map pN++(cs.map cN++[cN c]):=by
 unfold bb mF;rw[Pb,Pb,PK,PK]
 rfl
end
theorem df.FA{α:Type}{f:α->List V}{H:Hp}{l d:UR}{xs:List α}{φ:Vd->Prop}{o:HO}(h:df f H l xs)(hd:H d=Yl (.ext φ)):df f (L2.upd H d o) l xs:=by
 obtain⟨D,B,E,J⟩:=h;exact⟨D,by rw[ao (λz=>by rw[z,hd]at B;cases B)];exact B,E,λi t x e1 e2=>by
  have q:=J i t x e1 e2;rw[ao (λz=>by rw[z,hd]at q;cases q)];exact q⟩
theorem Ew{kins:List (Int×Int)}{cs:List (List (Int×Int))}{c:List (Int×Int)}{i:Nat}{p:Int×Int}(z:p∈kins):∃t∈mF kins cs c i,t.1=pN p/\t.2.length<=cs.length+1:=by
 refine⟨_,Px _ (O4.mpr ⟨p,z,rfl⟩),rfl,?_⟩;show(_++_:List Nd).length<=_;rw[O7,O0];have:=PN (λd=>decide (p∈lj kins d)) cs
 split
 .show _+1<=_;omega
 show _+0<=_;omega
theorem jY(kins:List (Int×Int)):(aP kins).length<=kins.length:=by
 unfold aP fw;rw[O0,O0];exact kO _ _
theorem Cf(kins:List (Int×Int)){g:List Int}{i:Nat}{x:Int}(h:g[i]?=Yl x):gP kins (g.take (i+1))=gP kins (g.take i)++[kins.getD x.toNat (0,0)]:=by
 unfold gP;rw[take_snoc h,Pb]
 rfl
theorem Nt{α:Type}{f:α->List V}{H:Hp}{xs ys:List α}{z B:List UR}{l:UR}(D:Tup f H z xs)(E:Tup f H B ys)(J:H l=none):df f (L2.upd H l (.lst (z.map V.ref++B.map V.ref))) l (xs++ys):=((D.app E).M3 J).Iu (by rw[ag,Pb])
end aC
namespace L2
open PySem
theorem HF:PySem.bootBuiltins "all" = some (.builtin "all"):=by decide +kernel
theorem HG:PySem.bootBuiltins "any" = some (.builtin "any"):=by decide +kernel
end L2
namespace aC
open PySem L2
noncomputable def wo(H:Hp)(d:UR):Hp:=λb=>if b=d then none else H b
theorem Cg{H:Hp}{d b:UR}(h:b≠d):wo H d b=H b:=UO h
theorem FC{H:Hp}{d:UR}:wo H d d=none:=UQ rfl
theorem Ex{H:Hp}{d:UR}:ax (wo H d) H:=λb o e=>by
 by_cases c:b=d
 .rw[c,FC]at e;cases e
 rw[Cg c]at e;exact e
theorem Ey{H B:Hp}{d:UR}(s:ax H B)(h:H d=none):ax H (wo B d):=λb o e=>by
 rw[Cg λz=>by rw[z,h]at e;cases e];exact s b o e
theorem Ci{H:Hp}{a b:UR}{o u:HO}(h:a≠b):upd (upd H a o) b u=upd (upd H b u) a o:=by
 funext c;by_cases z:c=a
 .subst z;rw[ao h,ag,ag]
 by_cases B:c=b
 .subst B;rw[ag,ao z,ag]
 rw[ao B,ao z,ao z,ao B]
theorem Ez{fs:List Int}{f:Int×Int->Bool}{M:List (Int×Int)}(nd:M.Nodup)(E:∀p,p∈M↔p∈(cG fs).filter f)(hs:M.Pairwise λp q=>p.1<=q.1):M=(cG fs).filter f:=by
 have J:((cG fs).filter f).Pairwise λp q=>p.1<q.1:=List.Pairwise.filter _ (gM fs);have O:((cG fs).filter f).Nodup:=List.Pairwise.imp (λz e=>by rw[e]at z;omega) J;have fst:∀p∈M,∀q∈M,p.1=q.1->p=q:=λp B q D e=>by
  obtain⟨a,b,k,rfl⟩:=bG.mp (O9.mp ((E p).mp B)).1;obtain⟨U,b',V,rfl⟩:=bG.mp (O9.mp ((E q).mp D)).1;have Z:a=U:=by dsimp only at e;omega
  subst Z;rw[dS k V]
 have H:M.Pairwise λp q=>p.1<q.1:=by
  refine List.Pairwise.imp_of_mem (R:=λp q=>p.1<=q.1/\p≠q) (λ{p q} B D z=>?_) (List.Pairwise.and hs nd);have:=fst p B q D;exact Int.lt_iff_le_and_ne.mpr ⟨z.1,λe=>z.2 (this e)⟩
 exact List.Perm.eq_of_pairwise (le:=λa b=>a.1<b.1) (λa b _ _ B D=>by omega) H J ((QS nd O).mpr E)
theorem HH{rs:List Int}(fit:aR rs){g:Nat}(z:g<rs.length+1):ow (aj rs) g∈cG (aj rs):=by
 obtain⟨c,d,o⟩:=d7 fit z;rw[cT o];exact bG.mpr ⟨c,d,o.kn,rfl⟩
theorem yg{rs:List Int}(fit:aR rs){L:List Nat}(z:∀g∈L,g<rs.length+1){p:Int×Int}(h:iy (aj rs) L p≠[]):p∈cG (aj rs):=by
 obtain⟨g,B,rfl⟩:=B7 h;exact HH fit (z g B)
noncomputable def bySigns(fs:List Int)(L:List Nat)(p:Int×Int):Bool:=(iy fs L p).all id || !(iy fs L p).any id
theorem Cj{rs:List Int}(fit:aR rs){L:List Nat}(E:∀g∈L,g<rs.length+1){ps M:List (Int×Int)}(np:ps.Nodup)(mem:∀p,p∈ps↔iy (aj rs) L p≠[])(D:M.Perm (ps.filter (bySigns (aj rs) L)))(hs:M.Pairwise λp q=>p.1<=q.1):M=di (aj rs) L:=by
 refine Ez (D.nodup_iff.mpr (np.filter _)) (λp=>?_) hs;rw[D.mem_iff,O9,O9,mem];constructor
 .rintro⟨z,B⟩;refine⟨yg fit E z,?_⟩;unfold sy;rw[UX z,Bool.true_and,<-kY z];exact B
 rintro⟨_,B⟩;unfold sy at B;rw[Qn]at B;have z:=U0 B.1;refine⟨z,?_⟩;unfold bySigns;rw[kY z];exact B.2
theorem yh{rs:List Int}(fit:aR rs){p:Int×Int}(z:p∈cG (aj rs)):0<=p.2/\p.2<1000:=by
 obtain⟨a,b,k,rfl⟩:=bG.mp z;have B:=k.1.lb;rw[a6]at B;have:=fit.small;exact⟨by dsimp only;omega,by dsimp only;omega⟩
open NK
noncomputable def mG(W:d5)(k:Nd)(L:List Nd):d5:=W.map λt=>if t.1∈L then(t.1,t.2.filter λl=>decide (l≠k))else t
section
variable {W:d5}{k:Nd}{L:List Nd}{t:Nd×List Nd}
theorem EA:mG W k []=W:=by
 unfold mG
 conv=>rhs;rw[<-Uv W]
 exact Pw λt _=>by rw[UO Pf];rfl
theorem Ck:bb (mG W k L)=bb W:=by
 unfold bb mG;rw[PK];refine Pw λt _=>?_;show(if _ then _ else _:Nd×List Nd).1=_
 split <;> rfl
theorem Cm{y:Nd}(B:y∉L):((mG W k L).map λt=>if t.1=y then(t.1,t.2.filter λl=>decide (l≠k))else t)=mG W k (L++[y]):=by
 unfold mG;rw[PK];refine Pw λt _=>?_;show(if(if t.1∈L then(t.1,t.2.filter λl=>decide (l≠k))else t).1=y then _ else _)=_;by_cases c:t.1∈L
 .rw[UQ c,UO (show¬t.1=y fromλz=>B (z▸c)),UQ (Px _ c)]
 rw[UO c];by_cases e:t.1=y
 .rw[UQ e,UQ (Pp _ (O3.mpr e))];dsimp only;rw[UO c]
 rw[UO e,UO (λz=>by
  rcases Pl.mp z with z|z
  .exact c z
  exact e (O3.mp z))]
theorem EB{y:Nd}(z:y∉L){ls:List Nd}(h:(y,ls)∈W):(y,ls)∈mG W k L:=O4.mpr ⟨(y,ls),h,by rw[UO z]⟩
theorem EC(O:fR W)(E:t∈W):((mG W t.1 t.2).filter λu=>decide (u.1≠t.1))=dM W t.1:=by
 unfold mG dM;rw[Ss];have e1:(W.filter ((λu:Nd×List Nd=>decide (u.1≠t.1)) ∘ λu:Nd×List Nd=>if u.1∈t.2 then(u.1,u.2.filter λl=>decide (l≠t.1))else u))=W.filter λu=>decide (u.1≠t.1):=by
  refine TK λu _=>?_;show decide ((if u.1∈t.2 then(u.1,u.2.filter λl=>decide (l≠t.1))else u).1≠t.1)=_
  split <;> rfl
 rw[e1];refine Pw λu B=>?_;by_cases c:u.1∈t.2
 .rw[UQ c]
 rw[UO c];have B:=(O9.mp B).1;refine Ur rfl (To.mpr λl H=>?_).symm;refine UX ?_;intro z;subst z;obtain⟨v,J,e,D⟩:=O.sym u B t.1 H;rw[O.uniq J E e]at D;exact c D
theorem Cp(O:fR W)(ks:List (Int×Int)):(aJ W ks).Nodup:=O.nd.sublist ((PY).map _)
theorem zO{l:List Nd}{i:Nat}{x:Nd}(h:l[i]?=Yl x):(l.take (i+1)).foldl dM W=dM ((l.take i).foldl dM W) x:=by
 rw[take_snoc h,SH]
 rfl
end
theorem _root_.NK.cV.inj{H:Hp}{l:UR}{ks z:List Nd}(h:cV H l ks)(h':cV H l z):ks=z:=by
 obtain⟨bs,D,J,E⟩:=h;obtain⟨cs,k1,k2,k3⟩:=h';rw[D]at k1;have:bs=cs:=(Ri (f:=V.ref) λa b h=>by injection h).mp (by injection k1 with k1;injection k1);subst this;refine QV λi=>?_;by_cases c:i<bs.length
 .have e1:=OZ (l:=ks) (i:=i) (by omega);have e2:=OZ (l:=z) (i:=i) (by omega);have B:=OZ c;rw[e1,e2,(E i _ _ B e1).inj (k3 i _ _ B e2)]
 rw[Qc (by omega),Qc (by omega)]
theorem _root_.NK.cV.erase{H:Hp}{l:UR}{ks:List Nd}{bs:List UR}{j:Nat}(D:H l=Yl (.lst (bs.map V.ref)))(E:bs.length=ks.length)(B:∀(i:Nat) (b:UR) (k:List Itm),bs[i]?=Yl b->ks[i]?=Yl k->K2 H k b):cV (L2.upd H l (.lst ((bs.eraseIdx j).map V.ref))) l (ks.eraseIdx j):=by
 refine⟨bs.eraseIdx j,ag,by rw[Sj,Sj,E],λi b k e1 e2=>?_⟩;have g:∀c ys,H c=Yl (.tup ys)->L2.upd H l (.lst ((bs.eraseIdx j).map V.ref)) c=Yl (.tup ys):=λc ys e=>by
  rw[ao (λz=>by rw[z,D]at e;cases e)];exact e
 rw[List.getElem?_eraseIdx]at e1 e2;by_cases c:i<j
 .rw[UQ c]at e1 e2;exact(B i b k e1 e2).keep g
 rw[UO c]at e1 e2;exact(B _ b k e1 e2).keep g
theorem wu{ks:List Nd}(nd:ks.Nodup){j:Nat}{k:Nd}(h:ks[j]?=Yl k):ks.eraseIdx j=ks.filter λl=>decide (l≠k):=erase_filter (λx:Nd=>x) k ks j k (by rw[Ub];exact nd) h rfl
theorem Cq{ks:List Nd}(nd:ks.Nodup){j:Nat}{k:Nd}(h:ks[j]?=Yl k):∀i,i<j->ks[i]?≠Yl k:=λi hi e=>by
 have:=(Qa (O1.mp e).1 nd).mp (e.trans h.symm);omega
noncomputable def jZ(W:d5):List Nd:=(W.filter λt=>decide (t.2.length<=1)).map (·.1)
theorem Cr{W:d5}{i:Nat}{t:Nd×List Nd}(z:W[i]?=Yl t):jZ (W.take (i+1))=jZ (W.take i)++(if t.2.length<=1 then[t.1]else[]):=by
 unfold jZ;rw[take_snoc z,Qf,Pb,Qu,Qv];by_cases c:t.2.length<=1
 .rw[UQ (UX c),UQ c];rfl
 rw[UO (by rw[U1 c];decide),UO c];rfl
theorem ED(W:d5)(i:Nat):(jZ (W.take i)).length<=i:=by
 unfold jZ;rw[O0];exact PH (PN _ _) (by rw[Pz];omega)
theorem EE{W:d5}(O:fR W){k:Nd}:k∈jZ W↔k∈bb W/\(cW W k).length<=1:=by
 unfold jZ;rw[O4];constructor
 .rintro⟨t,h,rfl⟩;obtain⟨z,B⟩:=O9.mp h;exact⟨mem_keys.mpr ⟨t,z,rfl⟩,by rw[O.lk z];exact U0 B⟩
 rintro⟨z,B⟩;obtain⟨t,D,rfl⟩:=mem_keys.mp z;rw[O.lk D]at B;exact⟨t,O9.mpr ⟨D,UX B⟩,rfl⟩
theorem yi:∀{l:List Nd}{ks:List (Int×Int)},(∀k∈l,k∈ks.map pN)->∃ps:List (Int×Int),l=ps.map pN/\∀p∈ps,p∈ks
 |[],ks,_=>⟨[],rfl,λp h=>UU h Pf⟩
 |k::r,ks,h=>by
  obtain⟨p,B,rfl⟩:=O4.mp (h k Pc);obtain⟨ps,e,hs⟩:=yi (l:=r) (ks:=ks) λx D=>h x (Pj _ D);exact⟨p::ps,by rw[e];rfl,λq z=>by
   rcases Pq.mp z with rfl|z
   .exact B
   exact hs q z⟩
theorem Cs{W:d5}(O:fR W){ks:List (Int×Int)}(hs:aJ W ks=[])(asc:ks.Pairwise λp q=>p.1<q.1):∃ps:List (Int×Int),jZ W=ps.map pN/\ps.Perm (bH W ks)/\∀p∈ps,p∈ks:=by
 have sub:∀k∈jZ W,k∈ks.map pN:=λk H=>O2 λc=>by
  unfold jZ at H;obtain⟨t,U,rfl⟩:=O4.mp H;obtain⟨V,Z⟩:=O9.mp U;have:t.1∈aJ W ks:=O4.mpr ⟨t,O9.mpr ⟨V,by rw[Z,U1 c];rfl⟩,rfl⟩;rw[hs]at this;exact UU this Pf
 obtain⟨ps,e,J⟩:=yi sub;refine⟨ps,e,?_,J⟩;have B:(jZ W).Nodup:=O.nd.sublist ((PY).map _);have D:ps.Nodup:=by
  rw[e]at B;unfold List.Nodup at B;rw[PD]at B;exact B.imp λn z=>n (by rw[z])
 have E:(bH W ks).Nodup:=(o6 asc).sublist PY;refine(QS D E).mpr λp=>?_;have M:p∈ps↔pN p∈jZ W:=by
  rw[e];exact⟨λh=>O4.mpr ⟨p,h,rfl⟩,λh=>by obtain⟨q,hq,z⟩:=O4.mp h;rw[<-jX z];exact hq⟩
 unfold bH;rw[O9,Qn,U5,U5,<-EE O];exact⟨λh=>⟨J p h,M.mp h⟩,λh=>M.mpr h.2⟩
theorem Ct{W:d5}{ks M ps:List (Int×Int)}(asc:ks.Pairwise λp q=>p.1<q.1)(E:M.Perm ps)(H:ps.Perm (bH W ks))(hs:M.Pairwise λp q=>p.1<=q.1):M=bH W ks:=by
 have z:(bH W ks).Pairwise λp q=>p.1<q.1:=asc.sublist PY;have J:=E.trans H;refine List.Perm.eq_of_pairwise (le:=λp q:Int×Int=>p.1<=q.1) (λa b B D E H=>?_) hs (z.imp λh=>QY h) J;have D:b∈bH W ks:=D;have B:a∈bH W ks:=J.mem_iff.mp B;obtain⟨i,hi,rfl⟩:=PB B;obtain⟨j,O,rfl⟩:=PB D;rcases R4 i j with c|c|c
 .have:=PC.mp z i j hi O c;omega
 .subst c;rfl
 have:=PC.mp z j i O hi c;omega
theorem uL{ks:List (Int×Int)}:∀(n:Nat) (W:d5),(eP n W ks).length<=W.length
 |0,W=>O5 _
 |n+1,W=>by
  show(if aJ W ks=[]then W else _).length<=_
  split
  .exact O5 _
  exact PH (uL n _) (k9 _ _)
theorem fR.nil:fR []:=⟨QJ,λt h=>UU h Pf,λt h=>UU h Pf,λt h=>UU h Pf⟩
theorem sI{rs:List Int}(fit:aR rs):fR (cC rs)/\(cC rs).length<=500/\aJ (cC rs) (di (aj rs) (gX (aj rs) (rs.length+1)))=[]:=by
 have fl:=a6 rs;have B:=kL (aj rs);have small:=fit.small;have D:=jY (cG (aj rs));have asc:=gM (aj rs);have O:=h8 (jt asc);have z:(d8 (cG (aj rs)) (aP (cG (aj rs)))).length<=500:=by
  unfold d8;rw[O7,O0,O0];omega
 unfold cC;by_cases c:di (aj rs) (gX (aj rs) (rs.length+1))=[]
 .rw[UQ c];exact⟨fR.nil,PQ _,rfl⟩
 rw[UO c];exact⟨fR.eP _ O,PH (uL _ _) z,mY _ _ (O5 _)⟩
theorem o8{rs:List Int}(fit:aR rs):((di (aj rs) (gX (aj rs) (rs.length+1))).Pairwise λp q=>p.1<q.1)/\(di (aj rs) (gX (aj rs) (rs.length+1))).length<=60/\∀p∈di (aj rs) (gX (aj rs) (rs.length+1)),0<=p.2/\p.2<1000:=by
 have fl:=a6 rs;have B:=kL (aj rs);have small:=fit.small;unfold di;exact⟨(gM _).sublist PY,PH (PN _ _) (by omega),λp z=>yh fit (O9.mp z).1⟩
theorem uM(W:d5):∀(n:Nat) (p:Nd) (B z:List Nd),(sC W n p B z).length<=z.length+n
 |0,_,_,z=>O5 _
 |n+1,p,[],z=>by show z.length<=_;omega
 |n+1,p,t::r,z=>by
  show(if(cW W t).length<=2 then sC W n t ((cW W t).filter λl=>decide (l≠p)) (z++[t])else z).length<=_
  split
  .have:=uM W n t ((cW W t).filter λl=>decide (l≠p)) (z++[t]);rw[O7,PM]at this;omega
  omega
theorem zP(W:d5)(k:Nd):(dI W k).length<=W.length+1:=by
 have:=uM W W.length k (cW W k) [k];unfold dI;rw[PM]at this;omega
section
variable {α:Type}
inductive Ab (up:α->Option α):α->α->Prop
 |refl (v:α):Ab up v v
 |step {v u w:α}:up v=Yl u->Ab up u w->Ab up v w
variable {up:α->Option α}{rk:α->Nat}{V:List α}{M:Nat}{root:α}{K:α->Prop}
theorem Ab.trans{a b c:α}(h:Ab up a b)(k:Ab up b c):Ab up a c:=by
 induction h with
 |refl=>exact k
 |step e _ z=>exact .step e (z k)
theorem Ab.snoc{a b c:α}(h:Ab up a b)(e:up b=Yl c):Ab up a c:=h.trans (.step e (.refl _))
theorem Ab.pred{a b:α}(h:Ab up a b):a=b\/∃c,up c=Yl b/\Ab up a c:=by
 induction h with
 |refl=>exact .inl rfl
 | @step v u w e _ z =>
  rcases z with rfl|⟨c,B,D⟩
  .exact .inr ⟨v,e,.refl v⟩
  exact .inr ⟨c,B,.step e D⟩
theorem Ab.cmp{a b c:α}(h:Ab up a b)(k:Ab up a c):Ab up b c\/Ab up c b:=by
 induction h with
 |refl=>exact .inl k
 | @step v u w e B D =>
  cases k with
  |refl=>exact .inr (.step e B)
  |step z k2 =>
   rw[e]at z;cases z;exact D k2
structure Tr(V:List α) (up:α->Option α) (rk:α->Nat) (M:Nat) (root:α):Prop where
 pJ:∀v u,up v=Yl u->v∈V/\u∈V
 lt:∀v u,up v=Yl u->rk u<rk v
 rt:∀v∈V,up v=none->v=root
 mx:∀v∈V,rk v<=M
theorem Tr.le(T:Tr V up rk M root){a b:α}(h:Ab up a b):rk b<=rk a:=by
 induction h with
 |refl=>exact O5 _
 |step e _ z=>have:=T.lt _ _ e;omega
theorem Tr.wx(T:Tr V up rk M root):∀(n:Nat) (v:α),rk v<=n->v∈V->Ab up v root:=by
 intro n
 induction n with
 |zero =>
  intro v B z;cases e:up v with
  |none=>rw[T.rt v z e];exact .refl _
  |some u=>have:=T.lt v u e;omega
 |succ n D =>
  intro v B z;cases e:up v with
  |none=>rw[T.rt v z e];exact .refl _
  |some u=>have:=T.lt v u e;exact .step e (D u (by omega) (T.pJ v u e).2)
theorem Tr.LD(T:Tr V up rk M root){k c d p:α}(z:Ab up k c)(B:Ab up k d)(e1:up c=Yl p)(e2:up d=Yl p):c=d:=by
 have key:∀{c d:α},Ab up c d->up c=Yl p->up d=Yl p->c=d:=λ{c d} h e1 e2=>by
  cases h with
  |refl=>rfl
  |step e D =>
   rw[e1]at e;cases e;have:=T.le D;have:=T.lt _ _ e2;omega
 rcases z.cmp B with h|h
 .exact key h e1 e2
 exact(key h e2 e1).symm
def Ess(up:α->Option α)(K:α->Prop)(v:α):Prop:=(∃k,K k/\Ab up k v)/\∃k,K k/\¬Ab up k v
def Ed(up:α->Option α)(K:α->Prop)(a b:α):Prop:=(up a=Yl b/\Ess up K a)\/(up b=Yl a/\Ess up K b)
theorem Ed.symm{a b:α}(h:Ed up K a b):Ed up K b a:=h.elim .inr .inl
theorem Ed.pJ(T:Tr V up rk M root){a b:α}(h:Ed up K a b):a∈V/\b∈V:=by
 rcases h with⟨e,_⟩|⟨e,_⟩
 .exact T.pJ _ _ e
 exact(T.pJ _ _ e).symm
theorem Tr.two(T:Tr V up rk M root)(KV:∀k,K k->k∈V){x y:α}(nk:¬K x)(h:Ed up K x y):∃z,z≠y/\Ed up K x z:=by
 rcases h with⟨e,⟨k,E,H⟩,k2,B,J⟩|⟨e,⟨k,E,H⟩,k2,B,J⟩
 .rcases H.pred with rfl|⟨c,D,ac⟩
  .exact UU E nk
  refine⟨c,λz=>?_,.inr ⟨D,⟨k,E,ac⟩,k2,B,λq=>J (q.snoc D)⟩⟩;subst z;have:=T.lt _ _ D;have:=T.lt _ _ e;omega
 by_cases O:Ab up k2 x
 .rcases O.pred with rfl|⟨c,D,ac⟩
  .exact UU B nk
  refine⟨c,λz=>J (z▸ac),.inr ⟨D,⟨k2,B,ac⟩,k,E,λq=>J ?_⟩⟩;rw[<-T.LD q H D e];exact ac
 cases ex:up x with
 |none =>
  have U:=(T.pJ _ _ e).2;rw[T.rt x U ex]at O;exact UU (T.wx _ k2 (O5 _) (KV k2 B)) O
 |some p =>
  refine⟨p,λz=>?_,.inl ⟨ex,⟨k,E,H.snoc e⟩,k2,B,O⟩⟩;subst z;have:=T.lt _ _ ex;have:=T.lt _ _ e;omega
theorem Cu{W:d5}(O:fR W){a k:Nd}(h:a≠k):cW (dM W k) a=(cW W a).filter λl=>decide (l≠k):=by
 by_cases c:a∈bb W
 .obtain⟨t,B,rfl⟩:=mem_keys.mp c;rw[O.lk B];exact(O.cut (k:=k)).lk (k8.mpr ⟨t,B,h,rfl⟩)
 rw[k6 c,k6 (λz=>c (by rw[gO]at z;exact(O9.mp z).1))]
 rfl
theorem Cv{β:Type}{l:List β}(nd:l.Nodup)(h:¬l.length<=1)(x:β):∃y∈l,y≠x:=by
 match l,nd,h with
 |[],_,h=>exact UU (PQ _) h
 |[_],_,h=>exact UU (O5 _) h
 |a::b::r,nd,_ =>
  by_cases c:a=x
  .refine⟨b,Pj _ Pc,λz=>?_⟩;have:=(PX.mp nd).1;rw[c,<-z]at this;exact this Pc
  exact⟨a,Pc,c⟩
structure Th(V:List α) (up:α->Option α) (K:α->Prop) (ι:α->Nd) (W:d5):Prop where
 ok:fR W
 keys:∀k∈bb W,∃a∈V,k=ι a
 LF:∀a∈V,∀k∈cW W (ι a),∃b∈V,k=ι b/\(up a=Yl b\/up b=Yl a)
 Km:∀a b,Ed up K a b->ι b∈cW W (ι a)
 kn:∀a,K a->ι a∈bb W
variable {ι:α->Nd}{W:d5}{ks:List (Int×Int)}
theorem Th.cut(T:Tr V up rk M root)(inj:∀a∈V,∀b∈V,ι a=ι b->a=b)(KV:∀k,K k->k∈V)(h:Th V up K ι W){x:α}(E:x∈V)(nk:¬K x)(no:∀y,¬Ed up K x y):Th V up K ι (dM W (ι x)):=by
 have ne:∀a b,Ed up K a b->ι a≠ι x:=λa b q z=>by
  have:=inj a (Ed.pJ T q).1 x E z;subst this;exact no b q
 refine⟨h.ok.cut,λk B=>?_,λa D k B=>?_,λa b q=>?_,λa D=>?_⟩
 .rw[gO]at B;exact h.keys k (O9.mp B).1
 .by_cases c:ι a=ι x
  .rw[c,k6 (by rw[gO];intro z;exact U0 (O9.mp z).2 rfl)]at B;exact UU B Pf
  rw[Cu h.ok c]at B;exact h.LF a D k (O9.mp B).1
 .rw[Cu h.ok (ne a b q)];exact O9.mpr ⟨h.Km a b q,UX (ne b a q.symm)⟩
 rw[gO];refine O9.mpr ⟨h.kn a D,UX λz=>?_⟩;have:=inj a (KV a D) x E z;subst this;exact nk D
theorem Th.fold(T:Tr V up rk M root)(inj:∀a∈V,∀b∈V,ι a=ι b->a=b)(KV:∀k,K k->k∈V):∀(l:List Nd) {W:d5},(∀k∈l,∃x∈V,k=ι x/\¬K x/\∀y,¬Ed up K x y)->Th V up K ι W->Th V up K ι (l.foldl dM W)
 |[],_,_,h=>h
 |k::r,W,z,h=>by
  obtain⟨x,B,rfl,nk,no⟩:=z k Pc;exact Th.fold T inj KV r (λD E=>z D (Pj _ E)) (h.cut T inj KV B nk no)
theorem zQ{k:Nd}(h:k∈aJ W ks):∃t∈W,t.1=k/\t.2.length<=1/\k∉ks.map pN:=by
 unfold aJ at h;obtain⟨t,B,rfl⟩:=O4.mp h;obtain⟨D,z⟩:=O9.mp B;rw[Qn,U5,Rm,Vx]at z;exact⟨t,D,rfl,z.1,z.2⟩
theorem Cw{t:Nd×List Nd}(h:t∈W)(z:t.2.length<=1)(B:t.1∉ks.map pN):t.1∈aJ W ks:=by
 unfold aJ;refine O4.mpr ⟨t,O9.mpr ⟨h,?_⟩,rfl⟩;rw[Qn,U5,Rm,Vx];exact⟨z,B⟩
theorem Th.spare(T:Tr V up rk M root)(inj:∀a∈V,∀b∈V,ι a=ι b->a=b)(KV:∀k,K k->k∈V)(KK:∀a∈V,(K a↔ι a∈ks.map pN))(h:Th V up K ι W):∀k∈aJ W ks,∃x∈V,k=ι x/\¬K x/\∀y,¬Ed up K x y:=λk U=>by
 obtain⟨t,D,rfl,Z,hn⟩:=zQ U;obtain⟨x,E,e⟩:=h.keys t.1 (mem_keys.mpr ⟨t,D,rfl⟩);have nk:¬K x:=λz=>hn (by rw[e];exact(KK x E).mp z);refine⟨x,E,e,nk,λy B=>?_⟩;obtain⟨z,hz,H⟩:=T.two KV nk B;have J:=h.Km _ _ B;have O:=h.Km _ _ H;rw[<-e,h.ok.lk D]at J O;exact hz (inj z (Ed.pJ T H).2 y (Ed.pJ T B).2 (Ca O J Z))
theorem Th.eP(T:Tr V up rk M root)(inj:∀a∈V,∀b∈V,ι a=ι b->a=b)(KV:∀k,K k->k∈V)(KK:∀a∈V,(K a↔ι a∈ks.map pN)):∀(n:Nat) {W:d5},Th V up K ι W->Th V up K ι (eP n W ks)
 |0,_,h=>h
 |n+1,W,h=>by
  show Th V up K ι (if aJ W ks=[]then W else _)
  split
  .exact h
  exact Th.eP T inj KV KK n (h.fold T inj KV _ (h.spare T inj KV KK))
theorem Th.more(KK:∀a∈V,(K a↔ι a∈ks.map pN))(h:Th V up K ι W)(hs:aJ W ks=[]){v p:α}(E:v∈V)(nk:¬K v)(H:ι p∈cW W (ι v)):∃b∈V,ι b∈cW W (ι v)/\ι b≠ι p/\(up v=Yl b\/up b=Yl v):=by
 obtain⟨t,B,e⟩:=mem_keys.mp (h.ok.zG H).2.2;have nl:¬t.2.length<=1:=λz=>by
  have:=Cw B z (ks:=ks) (by rw[e];exactλq=>nk ((KK v E).mpr q));rw[hs]at this;exact UU this Pf
 obtain⟨k,D,ne⟩:=Cv (h.ok.nl t B) nl (ι p);rw[<-h.ok.lk B,e]at D;obtain⟨b,J,rfl,r⟩:=h.LF v E k D;exact⟨b,J,D,ne,r⟩
theorem Th.down(T:Tr V up rk M root)(KK:∀a∈V,(K a↔ι a∈ks.map pN))(h:Th V up K ι W)(hs:aJ W ks=[]):∀(n:Nat) (v p:α),M-rk v<=n->up v=Yl p->ι p∈cW W (ι v)->∃k,K k/\Ab up k v:=by
 intro n
 induction n with
 |zero =>
  intro v p J e z;by_cases c:K v
  .exact⟨v,c,.refl v⟩
  have B:=(T.pJ v p e).1;obtain⟨b,D,H,E,r|r⟩:=h.more KK hs B c z
  .rw[e]at r;cases r;exact UU rfl E
  have:=T.lt b v r;have:=T.mx b D;omega
 |succ n O =>
  intro v p J e z;by_cases c:K v
  .exact⟨v,c,.refl v⟩
  have B:=(T.pJ v p e).1;obtain⟨b,D,H,E,r|r⟩:=h.more KK hs B c z
  .rw[e]at r;cases r;exact UU rfl E
  have:=T.lt b v r;have:=T.mx b D;obtain⟨k,U,Z⟩:=O b v (by omega) r (h.ok.zG H).1;exact⟨k,U,Z.snoc r⟩
theorem Th.out(T:Tr V up rk M root)(KK:∀a∈V,(K a↔ι a∈ks.map pN))(h:Th V up K ι W)(hs:aJ W ks=[]):∀(n:Nat) (v p:α),rk p<=n->up v=Yl p->ι p∈cW W (ι v)->∃k,K k/\¬Ab up k v:=by
 have base:∀(v p:α),up v=Yl p->K p->∃k,K k/\¬Ab up k v:=λv p e c=>⟨p,c,λq=>by
  have:=T.le q;have:=T.lt v p e;omega⟩
 have side:∀(v p b:α),up v=Yl p->up b=Yl p->ι b≠ι v->ι b∈cW W (ι p)->∃k,K k/\¬Ab up k v:=λv p b e r ne B=>by
  obtain⟨k,D,J⟩:=h.down T KK hs _ b p (O5 _) r (h.ok.zG B).1;exact⟨k,D,λq=>ne (by rw[T.LD J q r e])⟩
 intro n
 induction n with
 |zero =>
  intro v p O e E;by_cases c:K p
  .exact base v p e c
  obtain⟨b,B,z,H,r|r⟩:=h.more KK hs (T.pJ v p e).2 c (h.ok.zG E).1
  .have:=T.lt p b r;omega
  exact side v p b e r H z
 |succ n U =>
  intro v p O e E;by_cases c:K p
  .exact base v p e c
  obtain⟨b,B,z,H,r|r⟩:=h.more KK hs (T.pJ v p e).2 c (h.ok.zG E).1
  .have:=T.lt p b r;obtain⟨k,D,nk⟩:=U p b (by omega) r z;exact⟨k,D,λq=>nk (q.snoc e)⟩
  exact side v p b e r H z
theorem Th.iff(T:Tr V up rk M root)(inj:∀a∈V,∀b∈V,ι a=ι b->a=b)(KK:∀a∈V,(K a↔ι a∈ks.map pN))(h:Th V up K ι W)(hs:aJ W ks=[]){a b:α}(D:a∈V)(E:b∈V):ι b∈cW W (ι a)↔Ed up K a b:=by
 refine⟨λq=>?_,λq=>h.Km a b q⟩;obtain⟨H,z,e,r⟩:=h.LF a D _ q;have:=inj b E H z e;subst this;rcases r with r|r
 .exact .inl ⟨r,h.down T KK hs _ a b (O5 _) r q,h.out T KK hs _ a b (O5 _) r q⟩
 have B:=(h.ok.zG q).1;exact .inr ⟨r,h.down T KK hs _ b a (O5 _) r B,h.out T KK hs _ b a (O5 _) r B⟩
end
def Nx{β:Type}(l:List β)(a b:β):Prop:=∃m,l[m]?=Yl a/\l[m+1]?=Yl b
section
variable {β:Type}
theorem HI{p q:List β}{a b:β}:Nx (p++a::b::q) a b:=⟨p.length,by simp,by rw[Pd (by omega)];simp⟩
theorem Cy{xs ys:List β}{t a b:β}(h:Nx (xs++t::ys) a b):Nx (xs++[t]) a b\/Nx (t::ys) a b:=by
 obtain⟨m,B,z⟩:=h;by_cases c:m+1<=xs.length
 .left;refine⟨m,?_,?_⟩
  .rw[Pg (by omega)]at B⊢;exact B
  by_cases d:m+1<xs.length
  .rw[Pg d]at z⊢;exact z
  rw[Pd (by omega),show m+1-xs.length=0 by omega]at z⊢;exact z
 right;refine⟨m-xs.length,?_,?_⟩
 .rw[Pd (by omega)]at B;exact B
 rw[Pd (by omega),show m+1-xs.length=m-xs.length+1 by omega]at z;exact z
end
section
variable {α:Type}{up:α->Option α}{rk:α->Nat}{V:List α}{M:Nat}{root:α}{K:α->Prop}
structure Rp(X:d5) (ι:α->Nd) (V:List α) (E:α->α->Prop):Prop where
 nd:∀a∈V,(cW X (ι a)).Nodup
 lk:∀a∈V,∀k,k∈cW X (ι a)↔∃b∈V,k=ι b/\E a b
variable {E:α->α->Prop}{ι κ:α->Nd}{X Y:d5}
theorem Path.new{W:d5}(O:fR W){vs:List Nd}(P:Path W vs){p x:Nd}(hp:vs.getLast?=Yl p)(M:x∈cW W p)(hq:∀q,2<=vs.length->vs[vs.length-2]?=Yl q->x≠q):x∉vs:=by
 obtain⟨ys,rfl⟩:=RN.mp hp;have H:(ys++[p]).length=ys.length+1:=by rw[O7];rfl
 have ep:(ys++[p])[ys.length]?=Yl p:=by rw[Pd (O5 _),QE];rfl
 have U:=O.zG M;have inj:∀{i j:Nat}{a:Nd},(ys++[p])[i]?=Yl a->(ys++[p])[j]?=Yl a->i=j:=λ{i j a} V h2=>(Qa (O1.mp V).1 P.nd).mp (V.trans h2.symm);intro Z;obtain⟨i,hi,e⟩:=PB Z;have D:(ys++[p])[i]?=Yl x:=by rw[OZ hi,e]
 rw[H]at hi;by_cases c1:i=ys.length
 .subst c1;cases ep.symm.trans D;exact O.wj p M
 by_cases c2:i+1=ys.length
 .refine hq x (by omega) ?_ rfl;rw[H,show ys.length+1-2=i by omega];exact D
 have B:=OZ (l:=ys++[p]) (i:=i+1) (by rw[H];omega);have hn:=P.Af i _ _ D B;by_cases c0:i=0
 .subst c0;have:=Ca hn U.1 (P.d0 _ D);rw[this]at B;have:=inj B ep;omega
 have E:=OZ (l:=ys++[p]) (i:=i-1) (by rw[H];omega);have hb:=P.Af (i-1) _ _ E (by rw[show i-1+1=i by omega];exact D);have J:=(O.zG hb).1;refine wk J hn U.1 (P.Fz x Z) (λz=>?_) (λz=>?_) (λz=>?_)
 .rw[z]at E;have:=inj E B;omega
 .rw[z]at E;have:=inj E ep;omega
 rw[z]at B;have:=inj B ep;omega
theorem Cz{inj:∀a∈V,∀b∈V,ι a=ι b->a=b}{vs:List α}(B:∀v∈vs,v∈V){x:α}(D:x∈V):ι x∈vs.map ι↔x∈vs:=by
 constructor
 .intro h;obtain⟨y,z,e⟩:=O4.mp h;rw[<-inj y (B y z) x D e];exact z
 exactλh=>O4.mpr ⟨x,h,rfl⟩
end
noncomputable abbrev a7:=Int×Int
noncomputable def bL(c:List a7):a7:=c.getLastD (0,0)
noncomputable def hd2(c:List a7):a7:=c.headD (0,0)
structure iY(kins:List a7):Prop where
 asc:kins.Pairwise λp q=>p.1<q.1
 pos:∀k∈kins,k.1<k.2
 two:∀p∈kins,∀q∈kins,p.1<q.1->p.2<=q.1\/q.2<p.2
noncomputable def o9:List (List a7)->a7->List (List a7)
 |[],k=>[[k]]
 |c::r,k=>if(bL c).2=k.1 then(c++[k])::r else c::o9 r k
noncomputable def uN(kins:List a7):List (List a7):=kins.foldl o9 []
theorem wy(kins:List a7)(k:a7):uN (kins++[k])=o9 (uN kins) k:=by unfold uN;rw[SH];rfl
def Dl(c:List a7):Prop:=∀a b,Nx c a b->a.2=b.1
theorem iY.pre{kins:List a7}{k:a7}(h:iY (kins++[k])):iY kins :=
 ⟨(Q4.mp h.asc).1,λx z=>h.pos x (Px _ z),λp B q D=>h.two p (Px _ B) q (Px _ D)⟩
theorem gR{c:List a7}(h:c≠[]):bL c∈c:=by
 unfold bL;rw[Qy,Si h];exact List.getLast_mem h
theorem bz{c:List a7}(h:c≠[]):hd2 c∈c:=by
 cases c with
 |nil=>exact UU rfl h
 |cons x r=>exact Pc
theorem rh(c:List a7)(k:a7):bL (c++[k])=k:=by unfold bL;rw[Qy,List.getLast?_append];rfl
theorem rj{κ:Int}{F:Int×List Int->List a7}{k:a7}:∀{G:List (Int×List Int)},(∀e∈G,(bL (F e)).2=k.1↔e.1=κ)->(G.map Qd).Nodup->o9 (G.map F) k=if(G.any λe=>decide (e.1=κ))=true then G.map (λe=>if e.1=κ then F e++[k]else F e)else G.map F++[[k]]
 |[],_,_=>rfl
 |e::G,h,nd=>by
  rw[Qk,PX]at nd;show(if(bL (F e)).2=k.1 then(F e++[k])::G.map F else F e::o9 (G.map F) k)=_;rw[RR];by_cases c:e.1=κ
  .rw[UQ ((h e Pc).mpr c),UX c,T5,UQ rfl,Qk,UQ c];congr 1;refine Pw λd hd=>?_;rw[UO λz=>nd.1 (O4.mpr ⟨d,hd,by rw[z,c]⟩)]
  rw[UO (λz=>c ((h e Pc).mp z)),U1 c,Tw,rj (λd hd=>h d (Pj _ hd)) nd.2]
  split
  .rw[Qk,UO c]
  rfl
theorem pe{kins:List a7}{k:a7}{g:List Int}(h:∀x∈g,0<=x/\x<kins.length):gP (kins++[k]) g=gP kins g:=by
 unfold gP;refine Pw λx z=>?_;have:=h x z;rw[Py,Py,Pg (by omega)]
theorem yj(kins:List a7)(k:a7)(g:List Int)(h:∀x∈g,0<=x/\x<kins.length):gP (kins++[k]) (g++[(kins.length:Int)])=gP kins g++[k]:=by
 have e:gP (kins++[k]) (g++[(kins.length:Int)])=gP (kins++[k]) g++gP (kins++[k]) [(kins.length:Int)]:=by unfold gP;rw[Pb]
 rw[e,pe h];congr 1;show[(kins++[k]).getD ((kins.length:Int)).toNat (0,0)]=[k]
 rw[Qb,Py,Pd (O5 _),QE]
 rfl
noncomputable def cls(kins:List a7)(i:Nat):Int:=mk kins (kins.getD i (0,0)).1
theorem fS(kins:List a7):aP kins=(gr (cls kins) kins.length).map λe=>gP kins e.2:=by
 unfold aP fw;rw[PK]
 rfl
theorem dY{kins:List a7}{e:Int×List Int}(B:e∈gr (cls kins) kins.length){p:a7}:p∈gP kins e.2↔p∈kins/\mk kins p.1=e.1:=by
 obtain⟨z,_⟩:=xM (cls kins) kins.length e B;unfold gP;rw[O4];constructor
 .rintro⟨x,D,rfl⟩;obtain⟨i,hi,E,rfl⟩:=(z x).mp D;rw[Qb];refine⟨?_,E⟩;rw[Py,OZ hi];exact PV _
 rintro⟨H,J⟩;obtain⟨i,hi,rfl⟩:=PB H;have e1:kins.getD i (0,0)=kins[i]:=by rw[Py,OZ hi];rfl
 exact⟨(i:Int),(z _).mpr ⟨i,hi,by unfold cls;rw[e1];exact J,rfl⟩,by rw[Qb];exact e1⟩
theorem wB{kins:List a7}{e:Int×List Int}(B:e∈gr (cls kins) kins.length):gP kins e.2≠[]:=λz=>by
 have:=(gu (cls kins) kins.length).ne e B;unfold gP at z;exact this (Ts.mp z)
theorem wC:∀kins:List a7,iY kins->aP kins=uN kins/\∀c∈aP kins,Dl c:=by
 refine gJ (P:=λkins=>iY kins->aP kins=uN kins/\∀c∈aP kins,Dl c) (λ_=>⟨rfl,λc B=>UU B Pf⟩) ?_;intro kins k ih L;obtain⟨i1,V⟩:=ih L.pre;have kin:k∈kins++[k]:=Pp _ (O3.mpr rfl);have acY:=L.pos k kin;have lt:∀p∈kins,p.1<k.1:=λp J=>(Q4.mp L.asc).2.2 p J k (O3.mpr rfl);have fresh:¬Sn kins k.2:=λ⟨p,J,z⟩=>by
  have Z:=lt p J;have M:=L.two p (Px _ J) k kin Z;omega
 have m2:mk kins k.2=k.2:=(hX kins).1 _ fresh;have mS:∀x,x≠k.2->mk kins x≠k.2:=λx hx z=>by
  by_cases c:Sn kins x
  .exact fresh (by rw[<-z];exact(hX kins).2 x c)
  rw[(hX kins).1 x c]at z;exact hx z
 have mk':∀x,x≠k.2->mk (kins++[k]) x=mk kins x:=λx hx=>by
  rw[kM];unfold Ha;rw[m2,UO (mS x hx)]
 have cl:∀i,i<kins.length->cls (kins++[k]) i=cls kins i:=λi hi=>by
  unfold cls;have e1:(kins++[k]).getD i (0,0)=kins[i]:=by rw[Py,Pg hi,OZ hi];rfl
  have e2:kins.getD i (0,0)=kins[i]:=by rw[Py,OZ hi];rfl
  rw[e1,e2];have:=lt _ (PV hi);exact mk' _ (by omega)
 have cn:cls (kins++[k]) kins.length=mk kins k.1:=by
  unfold cls;have e1:(kins++[k]).getD kins.length (0,0)=k:=by rw[Py,Pd (O5 _),QE];rfl
  rw[e1];exact mk' _ (by omega)
 have E:=gu (cls kins) kins.length;have key:∀e∈gr (cls kins) kins.length,(bL (gP kins e.2)).2=k.1↔e.1=mk kins k.1:=λe D=>by
  have ne:=wB D;have hl:=gR ne;have H:=(dY D).mp hl;constructor
  .intro z;rw[<-z,<-(qS kins).2 _ H.1];exact H.2.symm
  intro z;by_cases c:Sn kins k.1
  .obtain⟨p,J,c⟩:=c;have Z:=lt p J;have c:k.1=p.2:=by omega
   have pin:p∈gP kins e.2:=(dY D).mpr ⟨J,by rw[(qS kins).2 p J,<-c,z]⟩;have lk:=V _ (by rw[fS];exact O4.mpr ⟨e,D,rfl⟩);obtain⟨q,r,eq⟩:=List.append_of_mem pin;cases r with
   |nil=>rw[eq,rh];exact c.symm
   |cons y r =>
    have:=lk p y (by rw[eq];exact HI);have hy:y∈gP kins e.2:=by rw[eq];simp
    have:=lt y ((dY D).mp hy).1;omega
  rw[(hX kins).1 _ c]at z;have hs:=(hX kins).2 _ (show Sn kins (bL (gP kins e.2)).1 from⟨_,H.1,.inl rfl⟩);rw[H.2,z]at hs;exact UU hs c
 have eg:gr (cls (kins++[k])) (kins++[k]).length=eN (gr (cls kins) kins.length) (mk kins k.1) kins.length:=by
  rw[O7,PM];show eN (gr (cls (kins++[k])) kins.length) (cls (kins++[k]) kins.length) kins.length=_;rw[cn,mu cl]
 have nd:=gK (cls kins) kins.length;have O:aP (kins++[k])=o9 (aP kins) k:=by
  rw[fS,eg,fS,rj key nd];unfold eN
  split
  .rw[PK];refine Pw λe D=>?_;show gP (kins++[k]) (if e.1=mk kins k.1 then(e.1,e.2++[(kins.length:Int)])else e).2=_;by_cases c:e.1=mk kins k.1
   .rw[UQ c,UQ c];exact yj kins k e.2 (E.lt e D)
   rw[UO c,UO c];exact pe (E.lt e D)
  rw[Pb];congr 1
  .exact Pw λe D=>pe (E.lt e D)
  exact congrArg (λx=>[x]) (yj kins k [] (λx hx=>UU hx Pf))
 refine⟨by rw[O,i1,wy],?_⟩;rw[O];generalize aP kins=cs at V;clear O key E eg nd cn cl
 induction cs with
 |nil =>
  intro c B a b ⟨m,Z,M⟩;rw[O3.mp B]at M;simp at M
 |cons d cs ih2 =>
  intro c B;have B:c∈(if(bL d).2=k.1 then(d++[k])::cs else d::o9 cs k):=B
  split at B
  .next z =>
   rcases Pq.mp B with rfl|B
   .intro a b U;by_cases dn:d=[]
    .subst dn;obtain⟨m,_,M⟩:=U;simp at M
    obtain⟨ys,y,rfl⟩:∃ys y,d=ys++[y]:=⟨d.dropLast,d.getLast dn,(List.dropLast_concat_getLast dn).symm⟩
    rw[rh]at z;rw[RD]at U;rcases Cy U with h|h
    .exact V _ Pc a b h
    obtain⟨m,Z,M⟩:=h;cases m with
    |zero=>cases Z;cases M;exact z
    |succ m=>simp at M
   exact V c (Pj _ B)
  rcases Pq.mp B with rfl|B
  .exact V _ Pc
  exact ih2 (λc B=>V c (Pj _ B)) c B
structure Nu(lo hi:Int) (kins:List a7):Prop where
 p:iY kins
 vT:∀g,lo<=g->g<hi->∃k∈kins,k.1<=g/\g<k.2
 ql:∀k∈kins,lo<=k.1/\k.2<=hi
structure p8(kins:List a7) (cs:List (List a7)):Prop where
 ne:∀c∈cs,c≠[]
 sub:∀c∈cs,∀k∈c,k∈kins
 all:∀k∈kins,∃c∈cs,k∈c
 uq:∀c∈cs,∀d∈cs,∀k,k∈c->k∈d->c=d
 Iz:∀c∈cs,Dl c
 fst:∀c∈cs,∀k∈kins,k.2≠(hd2 c).1
 lo:∀c∈cs,∀k∈c,(hd2 c).1<=k.1
 hi:∀c∈cs,∀k∈c,k.2<=(bL c).2
theorem Dl.tail{x:a7}{r:List a7}(h:Dl (x::r)):Dl r:=λa b ⟨m,z,B⟩=>h a b ⟨m+1,z,B⟩
theorem CA:∀{c:List a7},Dl c->(∀k∈c,k.1<k.2)->∀k∈c,k.2<=(bL c).2
 |[],_,_,k,z=>UU z Pf
 |[x],_,_,k,z=>by rw[O3.mp z];exact QN _
 |x::y::r,l,p,k,z=>by
  have e:bL (x::y::r)=bL (y::r):=by unfold bL;rw[Qy,Qy,SO]
  rw[e];have B:=CA l.tail λk z=>p k (Pj _ z);rcases Pq.mp z with rfl|z
  .have D:=l k y ⟨0,rfl,rfl⟩;have E:=p y (by simp);have H:=B y Pc;omega
  exact B k z
theorem bD{kins:List a7}(L:iY kins):p8 kins (aP kins):=by
 have lk:=(wC kins L).2;have M:=fS kins;have V:=gu (cls kins) kins.length;have H:∀c∈aP kins,∃e∈gr (cls kins) kins.length,gP kins e.2=c:=λc B=>by rw[M]at B;exact O4.mp B
 have Z:∀c∈aP kins,c.Pairwise λp q=>p.1<q.1:=λc B=>by
  unfold aP at B;obtain⟨g,hg,rfl⟩:=O4.mp B;exact x9 L.asc hg
 have sub:∀c∈aP kins,∀k∈c,k∈kins:=λc B k E=>by
  obtain⟨e,D,rfl⟩:=H c B;exact((dY D).mp E).1
 have lo:∀c∈aP kins,∀k∈c,(hd2 c).1<=k.1:=λc B k E=>ya (Z c B) E;refine⟨λc B=>?_,sub,λk E=>?_,λc B d hd k k1 k2=>?_,lk,λc B k E z=>?_,lo,λc B=>CA (lk c B) λk E=>L.pos k (sub c B k E)⟩
 .obtain⟨e,D,rfl⟩:=H c B;exact wB D
 .obtain⟨i,hi,rfl⟩:=PB E;have e1:kins.getD i (0,0)=kins[i]:=by rw[Py,OZ hi];rfl
  obtain⟨e,D,ek⟩:=O4.mp ((iP (cls kins) kins.length (cls kins i)).mpr ⟨i,hi,rfl⟩);refine⟨gP kins e.2,by rw[M];exact O4.mpr ⟨e,D,rfl⟩,(dY D).mpr ⟨PV _,?_⟩⟩;rw[ek];unfold cls;rw[e1]
 .obtain⟨e,D,rfl⟩:=H c B;obtain⟨f,O,rfl⟩:=H d hd;have J:=((dY D).mp k1).2;have U:=((dY O).mp k2).2;have nd:=gK (cls kins) kins.length;obtain⟨i,hi,rfl⟩:=PB D;obtain⟨j,hj,rfl⟩:=PB O;have z:((gr (cls kins) kins.length).map Qd)[i]'(by rw[O0];exact hi)=((gr (cls kins) kins.length).map Qd)[j]'(by rw[O0];exact hj):=by rw[Qw,Qw];exact J.symm.trans U
  have:i=j:=(RO nd).mp z;subst this
  rfl
 obtain⟨e,D,rfl⟩:=H c B;have hm:=bz (wB D);have J:=(dY D).mp hm;have kin:k∈gP kins e.2:=(dY D).mpr ⟨E,by rw[(qS kins).2 k E,z];exact J.2⟩;have U:=lo _ B k kin;have h3:=L.pos k E;omega
noncomputable abbrev jD:=a7 ⊕ a7
noncomputable def iZ(cs:List (List a7))(h:a7):Option (List a7):=cs.find? λc=>decide (hd2 c=h)
noncomputable def FD(cs:List (List a7))(k:a7):Option (List a7):=cs.find? λc=>decide (k∈c)
noncomputable def gI(cs:List (List a7)):jD->Nd
 |.inl k=>pN k
 |.inr h=>cN ((iZ cs h).getD [])
noncomputable def yk(kins:List a7)(cs:List (List a7)):jD->Option jD
 |.inl k=>(FD cs k).map λc=>.inr (hd2 c)
 |.inr h=>(iZ cs h).bind λc=>(cq kins c).head?.map .inl
noncomputable def ym(kins:List a7)(cs:List (List a7)):List jD:=kins.map .inl++cs.map λc=>.inr (hd2 c)
noncomputable def LG(S:Int)(cs:List (List a7)):jD->Nat
 |.inl k=>2*(S-(k.2-k.1)).toNat+1
 |.inr h=>2*(S-((bL ((iZ cs h).getD [])).2-h.1)).toNat
section
variable {lo hi:Int}{kins:List a7}{cs:List (List a7)}
theorem p8.iZ(C:p8 kins cs){c:List a7}(z:c∈cs):aC.iZ cs (hd2 c)=Yl c:=by
 unfold aC.iZ;cases e:cs.find? λd=>decide (hd2 d=hd2 c)with
 |none=>exact UU (R0.mp e c z) (by simp)
 |some d =>
  have B:=Qx e;have D:hd2 d=hd2 c:=U0 (RC (p:=λd=>decide (hd2 d=hd2 c)) e);rw[C.uq d B c z (hd2 c) (by rw[<-D];exact bz (C.ne d B)) (bz (C.ne c z))]
theorem p8.FD(C:p8 kins cs){c:List a7}(z:c∈cs){k:a7}(B:k∈c):aC.FD cs k=Yl c:=by
 unfold aC.FD;cases e:cs.find? λd=>decide (k∈d)with
 |none=>exact UU (R0.mp e c z) (by simp[B])
 |some d =>
  have D:=Qx e;have E:k∈d:=U0 (RC (p:=λd=>decide (k∈d)) e);rw[C.uq d D c z k E B]
theorem EF{k:a7}{c:List a7}(h:FD cs k=Yl c):c∈cs/\k∈c:=⟨Qx h,U0 (RC (p:=λd=>decide (k∈d)) h)⟩
theorem CB{k:a7}{c:List a7}(h:iZ cs k=Yl c):c∈cs/\hd2 c=k:=⟨Qx h,U0 (RC (p:=λd=>decide (hd2 d=k)) h)⟩
theorem p8.gI(C:p8 kins cs){c:List a7}(z:c∈cs):aC.gI cs (.inr (hd2 c))=cN c:=by
 show cN ((aC.iZ cs (hd2 c)).getD [])=cN c;rw[C.iZ z]
 rfl
theorem cL{v:jD}:v∈ym kins cs↔(∃k∈kins,v=.inl k)\/∃c∈cs,v=.inr (hd2 c):=by
 unfold ym;rw[Pl,O4,O4];constructor
 .rintro(⟨k,h,rfl⟩|⟨c,h,rfl⟩)
  .exact .inl ⟨k,h,rfl⟩
  exact .inr ⟨c,h,rfl⟩
 rintro(⟨k,h,rfl⟩|⟨c,h,rfl⟩)
 .exact .inl ⟨k,h,rfl⟩
 exact .inr ⟨c,h,rfl⟩
theorem sJ(C:p8 kins cs):∀a∈ym kins cs,∀b∈ym kins cs,gI cs a=gI cs b->a=b:=λa D b E e=>by
 rcases cL.mp D with⟨k,J,rfl⟩|⟨c,B,rfl⟩ <;> rcases cL.mp E with⟨M,H,rfl⟩|⟨O,z,rfl⟩
 .rw[jX e]
 .rw[C.gI z]at e;exact UU e iU
 .rw[C.gI B]at e;exact UU e.symm iU
 rw[C.gI B,C.gI z]at e;rw[sA e]
theorem mH{c:List a7}{k:a7}:(cq kins c).head?=Yl k↔k∈cq kins c:=by
 have:=iX (kins:=kins) (c:=c)
 match h:cq kins c,this with
 |[],_=>simp
 |[x],_=>simp[eq_comm]
theorem gT(C:p8 kins cs){k:a7}{u:jD}(h:yk kins cs (.inl k)=Yl u):∃c∈cs,k∈c/\u=.inr (hd2 c):=by
 obtain⟨c,e,rfl⟩:=Ph.mp (show(FD cs k).map (λc=>(.inr (hd2 c):jD))=Yl u from h);have:=EF e;exact⟨c,this.1,this.2,rfl⟩
theorem pf(C:p8 kins cs){h:a7}{u:jD}(e:yk kins cs (.inr h)=Yl u):∃c∈cs,hd2 c=h/\∃k∈cq kins c,u=.inl k:=by
 obtain⟨c,e1,e2⟩:=Option.bind_eq_some_iff.mp (show(iZ cs h).bind (λc=>(cq kins c).head?.map (.inl:a7->jD))=Yl u from e);obtain⟨k,e3,rfl⟩:=Ph.mp e2;have:=CB e1;exact⟨c,this.1,this.2,k,mH.mp e3,rfl⟩
theorem p8.Dk(C:p8 kins cs){c:List a7}(z:c∈cs){k:a7}(B:k∈c):yk kins cs (.inl k)=Yl (.inr (hd2 c)):=by
 show(aC.FD cs k).map _=_;rw[C.FD z B]
 rfl
theorem p8.LH(C:p8 kins cs){c:List a7}(z:c∈cs):yk kins cs (.inr (hd2 c))=(cq kins c).head?.map .inl:=by
 show(aC.iZ cs (hd2 c)).bind _=_;rw[C.iZ z]
 rfl
theorem cZ{c:List a7}{k:a7}:jC c k=true↔k.1<(hd2 c).1/\(bL c).2<k.2:=by
 unfold jC;rw[Qn,U5,U5];exact UG
theorem around{K:a7}(D:K∈kins)(L:iY kins):∀{c:List a7},Dl c->(∀k∈c,k∈kins)->(∀x,c.head?=Yl x->K.1<x.1/\x.2<K.2)->∀k∈c,k.2<K.2
 |[],_,_,_,k,B=>UU B Pf
 |[x],_,_,h,k,B=>by rw[O3.mp B];exact(h x rfl).2
 |x::y::r,l,s,h,k,B=>by
  obtain⟨J,E⟩:=h x rfl;rcases Pq.mp B with rfl|B
  .exact E
  refine around D L l.tail (λk B=>s k (Pj _ B)) (λz e=>?_) k B;cases e;have e1:=l x y ⟨0,rfl,rfl⟩;have M:=L.pos x (s x Pc);have H:y∈kins:=s y (by simp);have O:=L.two K D y H (by omega);exact⟨by omega,by omega⟩
theorem HJ(L:Nu lo hi kins)(C:p8 kins cs){c:List a7}(z:c∈cs)(h:cq kins c=[]):(hd2 c).1=lo:=by
 have H:=bz (C.ne c z);have D:=C.sub c z _ H;have r:=L.ql _ D;by_cases e:(hd2 c).1=lo
 .exact e
 have O:=L.p.pos _ D;obtain⟨K,B,k1,k2⟩:=L.vT ((hd2 c).1-1) (by omega) (by omega);have n:=C.fst c z K B;have t:=L.p.two K B _ D (by omega);have J:=around B L.p (C.Iz c z) (C.sub c z) (λx e=>by
  have:x=hd2 c:=by unfold hd2;rw[List.headD_eq_head?_getD,e];rfl
  rw[this];exact⟨by omega,by omega⟩)
 have M:=J _ (gR (C.ne c z));have E:K∈iW kins c:=O9.mpr ⟨B,cZ.mpr ⟨by omega,M⟩⟩;have:iW kins c=[]:=by
  unfold cq at h;have:=Qm E;have h:=congrArg Rx h;rw[PU]at h;have h:(iW kins c).length-((iW kins c).length-1)=0:=h;omega
 rw[this]at E;exact UU E Pf
theorem eQ{kins:List a7}(asc:kins.Pairwise λp q=>p.1<q.1){p q:a7}(B:p∈kins)(D:q∈kins)(e:p.1=q.1):p=q:=by
 obtain⟨i,hi,rfl⟩:=PB B;obtain⟨j,z,rfl⟩:=PB D;rcases R4 i j with h|h|h
 .have:=PC.mp asc i j hi z h;omega
 .subst h;rfl
 have:=PC.mp asc j i z hi h;omega
theorem CC(L:Nu lo hi kins)(C:p8 kins cs):∃root,Tr (ym kins cs) (yk kins cs) (LG (hi-lo) cs) (2*(hi-lo).toNat+1) root:=by
 have J:∀k∈kins,0<k.2-k.1/\k.2-k.1<=hi-lo:=λk B=>by
  have:=L.p.pos k B;have:=L.ql k B;omega
 have M:∀c∈cs,LG (hi-lo) cs (.inr (hd2 c))=2*(hi-lo-((bL c).2-(hd2 c).1)).toNat:=λc z=>by
  show 2*(hi-lo-((bL ((iZ cs (hd2 c)).getD [])).2-(hd2 c).1)).toNat=_;rw[C.iZ z]
  rfl
 have Z:∀c∈cs,∀k∈c,k.2-k.1<=(bL c).2-(hd2 c).1:=λc z k B=>by
  have:=C.lo c z k B;have:=C.hi c z k B;omega
 have O:∀c∈cs,0<(bL c).2-(hd2 c).1/\(bL c).2-(hd2 c).1<=hi-lo:=λc z=>by
  have E:=bz (C.ne c z);have h2:=Z c z _ E;have h3:=J _ (C.sub c z _ E);have h4:=L.ql _ (C.sub c z _ E);have h5:=L.ql _ (C.sub c z _ (gR (C.ne c z)));omega
 have main:∀root,(∀v∈ym kins cs,yk kins cs v=none->v=root)->Tr (ym kins cs) (yk kins cs) (LG (hi-lo) cs) (2*(hi-lo).toNat+1) root:=λroot U=>by
  refine⟨λv u e=>?_,λv u e=>?_,U,λv D=>?_⟩
  .cases v with
   |inl k =>
    obtain⟨c,z,B,rfl⟩:=gT C e;exact⟨cL.mpr (.inl ⟨k,C.sub c z k B,rfl⟩),cL.mpr (.inr ⟨c,z,rfl⟩)⟩
   |inr h =>
    obtain⟨c,z,rfl,k,B,rfl⟩:=pf C e;exact⟨cL.mpr (.inr ⟨c,z,rfl⟩),cL.mpr (.inl ⟨k,(b7 B).1,rfl⟩)⟩
  .cases v with
   |inl k =>
    obtain⟨c,z,B,rfl⟩:=gT C e;rw[M c z];have E:=Z c z k B;have h2:=O c z;show _<2*(hi-lo-(k.2-k.1)).toNat+1;omega
   |inr h =>
    obtain⟨c,z,rfl,k,B,rfl⟩:=pf C e;rw[M c z];have E:=cZ.mp (b7 B).2;have h2:=J k (b7 B).1;have h3:=O c z;show 2*(hi-lo-(k.2-k.1)).toNat+1<_;omega
  rcases cL.mp D with⟨k,B,rfl⟩|⟨c,z,rfl⟩
  .have:=J k B;show 2*(hi-lo-(k.2-k.1)).toNat+1<=_;omega
  rw[M c z];have:=O c z;omega
 have H:∀v∈ym kins cs,yk kins cs v=none->∃c∈cs,v=.inr (hd2 c)/\(hd2 c).1=lo:=λv D e=>by
  rcases cL.mp D with⟨k,B,rfl⟩|⟨c,z,rfl⟩
  .obtain⟨c,z,V⟩:=C.all k B;rw[C.Dk z V]at e;cases e
  refine⟨c,z,rfl,HJ L C z ?_⟩;rw[C.LH z,SW,List.head?_eq_none_iff]at e;exact e
 by_cases ex:∃v∈ym kins cs,yk kins cs v=none
 .obtain⟨r,U,er⟩:=ex;refine⟨r,main r λv D e=>?_⟩;obtain⟨c,z,rfl,e1⟩:=H v D e;obtain⟨d,hd,rfl,e2⟩:=H r U er;have:=eQ L.p.asc (C.sub c z _ (bz (C.ne c z))) (C.sub d hd _ (bz (C.ne d hd))) (by omega);rw[this]
 exact⟨.inl (0,0),main _ λv D e=>UU ⟨v,D,e⟩ ex⟩
theorem uO(z:Kk kins cs){k:a7}(B:k∈kins):cW (d8 kins cs) (pN k)=(cs.filter λc=>decide (k∈lj kins c)).map cN :=
 (h8 z).lk (t:=(pN k,(cs.filter λc=>decide (k∈lj kins c)).map cN)) (Px _ (O4.mpr ⟨k,B,rfl⟩))
theorem uP(z:Kk kins cs){c:List a7}(B:c∈cs):cW (d8 kins cs) (cN c)=(lj kins c).map pN :=
 (h8 z).lk (t:=(cN c,(lj kins c).map pN)) (Pp _ (O4.mpr ⟨c,B,rfl⟩))
theorem HK(E:Kk kins cs)(C:p8 kins cs){K:jD->Prop}(KV:∀k,K k->k∈ym kins cs):Th (ym kins cs) (yk kins cs) K (gI cs) (d8 kins cs):=by
 have kV:∀{k:a7},k∈kins->(.inl k:jD)∈ym kins cs:=λh=>cL.mpr (.inl ⟨_,h,rfl⟩);have J:∀{c:List a7},c∈cs->(.inr (hd2 c):jD)∈ym kins cs:=λh=>cL.mpr (.inr ⟨_,h,rfl⟩);have upper:∀a b,yk kins cs a=Yl b->gI cs b∈cW (d8 kins cs) (gI cs a):=λa b e=>by
  cases a with
  |inl k =>
   obtain⟨c,z,B,rfl⟩:=gT C e;rw[C.gI z];show _∈cW _ (pN k);rw[uO E (C.sub c z k B)];exact O4.mpr ⟨c,O9.mpr ⟨z,UX (Px _ B)⟩,rfl⟩
  |inr h =>
   obtain⟨c,z,rfl,k,B,rfl⟩:=pf C e;rw[C.gI z,uP E z];exact O4.mpr ⟨k,Pp _ B,rfl⟩
 refine⟨h8 E,λk B=>?_,λa H k B=>?_,λa b h=>?_,λa H=>?_⟩
 .rw[gQ]at B;rcases Pl.mp B with B|B
  .obtain⟨p,D,rfl⟩:=O4.mp B;exact⟨.inl p,kV D,rfl⟩
  obtain⟨c,z,rfl⟩:=O4.mp B;exact⟨_,J z,(C.gI z).symm⟩
 .rcases cL.mp H with⟨p,D,rfl⟩|⟨c,z,rfl⟩
  .have B:k∈cW (d8 kins cs) (pN p):=B;rw[uO E D]at B;obtain⟨c,z,rfl⟩:=O4.mp B;obtain⟨z,M⟩:=O9.mp z;refine⟨_,J z,(C.gI z).symm,?_⟩;rcases Pl.mp (U0 M)with h|h
   .exact .inl (C.Dk z h)
   right;rw[C.LH z,mH.mpr h]
   rfl
  rw[C.gI z,uP E z]at B;obtain⟨p,D,rfl⟩:=O4.mp B;refine⟨.inl p,kV (E.sub c z p D),rfl,?_⟩;rcases Pl.mp D with h|h
  .exact .inr (C.Dk z h)
  left;rw[C.LH z,mH.mpr h]
  rfl
 .rcases h with⟨e,_⟩|⟨e,_⟩
  .exact upper a b e
  exact((h8 E).zG (upper b a e)).1
 rw[gQ];rcases cL.mp (KV a H)with⟨p,D,rfl⟩|⟨c,z,rfl⟩
 .exact Px _ (O4.mpr ⟨p,D,rfl⟩)
 rw[C.gI z];exact Pp _ (O4.mpr ⟨c,z,rfl⟩)
end
noncomputable abbrev KI(rs:List Int):List a7:=cG (aj rs)
noncomputable abbrev KN(rs:List Int):List a7:=di (aj rs) (gX (aj rs) (rs.length+1))
noncomputable abbrev CH(rs:List Int):List (List a7):=aP (cG (aj rs))
def sL(ks:List a7):jD->Prop:=λa=>∃p∈ks,a=.inl p
noncomputable abbrev VT(rs:List Int):List jD:=ym (KI rs) (CH rs)
noncomputable abbrev UT(rs:List Int):jD->Option jD:=yk (KI rs) (CH rs)
abbrev LI(rs:List Int):jD->jD->Prop:=Ed (UT rs) (sL (KN rs))
theorem c8{rs:List Int}(fit:aR rs):Nu 0 ((rs.length:Int)+1) (KI rs):=by
 have fl:=a6 rs;refine⟨⟨gM _,λk z=>?_,λp B q D lt=>?_⟩,λg H J=>?_,λk z=>?_⟩
 .obtain⟨a,b,K,rfl⟩:=bG.mp z;have:=K.1.lt;show(a:Int)<b;omega
 .obtain⟨a,b,E,rfl⟩:=bG.mp B;obtain⟨c,d,K2,rfl⟩:=bG.mp D;have lt:(a:Int)<c:=lt;have:=mz fit E K2 (by omega);show(b:Int)<=c\/(d:Int)<b;omega
 .obtain⟨c,d,o⟩:=d7 fit (g:=g.toNat) (by omega);refine⟨((c:Int),(d:Int)),bG.mpr ⟨c,d,o.kn,rfl⟩,?_⟩;have:=o.le;have:=o.lt;show(c:Int)<=g/\g<(d:Int);omega
 obtain⟨a,b,K,rfl⟩:=bG.mp z;have:=K.1.lb;show(0:Int)<=a/\(b:Int)<=(rs.length:Int)+1;omega
theorem uQ{rs:List Int}{p:a7}(h:p∈KN rs):p∈KI rs:=(O9.mp h).1
theorem mI{rs:List Int}:∀k,sL (KN rs) k->k∈VT rs:=λk ⟨p,z,e⟩=>cL.mpr (.inl ⟨p,uQ z,e⟩)
theorem wD{rs:List Int}(fit:aR rs):∀a∈VT rs,(sL (KN rs) a↔gI (CH rs) a∈(KN rs).map pN):=λa B=>by
 have C:=bD (c8 fit).p;constructor
 .rintro⟨p,z,rfl⟩;exact O4.mpr ⟨p,z,rfl⟩
 intro h;obtain⟨p,z,e⟩:=O4.mp h;rcases cL.mp B with⟨k,E,rfl⟩|⟨c,D,rfl⟩
 .have e:pN p=pN k:=e;exact⟨p,z,by rw[jX e]⟩
 rw[C.gI D]at e;exact UU e iU
theorem pj{rs:List Int}(fit:aR rs):∃root,Tr (VT rs) (UT rs) (LG ((rs.length:Int)+1-0) (CH rs)) (2*((rs.length:Int)+1-0).toNat+1) root:=CC (c8 fit) (bD (c8 fit).p)
theorem sM{rs:List Int}(fit:aR rs):Rp (cC rs) (gI (CH rs)) (VT rs) (LI rs)/\∀p∈KN rs,pN p∈bb (cC rs):=by
 have L:=c8 fit;have C:=bD L.p;obtain⟨root,T⟩:=pj fit;obtain⟨O,_,sp⟩:=sI fit;by_cases c:KN rs=[]
 .have e:cC rs=[]:=by unfold cC;rw[UQ c]
  refine⟨⟨λa _=>O.B9 _,λa D k=>?_⟩,λp z=>by rw[c]at z;exact UU z Pf⟩;rw[e];constructor
  .intro h;exact UU h Pf
  rintro⟨b,_,_,⟨_,⟨k,⟨p,z,_⟩,_⟩,_⟩|⟨_,⟨k,⟨p,z,_⟩,_⟩,_⟩⟩
  .rw[c]at z;exact UU z Pf
  rw[c]at z;exact UU z Pf
 have B:Th (VT rs) (UT rs) (sL (KN rs)) (gI (CH rs)) (cC rs):=by
  unfold cC;rw[UO c];exact Th.eP T (sJ C) mI (wD fit) _ (HK (jt L.p.asc) C mI)
 refine⟨⟨λa _=>O.B9 _,λa D k=>?_⟩,λp z=>B.kn (.inl p) ⟨p,z,rfl⟩⟩;constructor
 .intro h;obtain⟨b,E,rfl,_⟩:=B.LF a D k h;exact⟨b,E,rfl,(B.iff T (sJ C) (wD fit) sp D E).mp h⟩
 rintro⟨b,E,rfl,h⟩;exact B.Km a b h
abbrev uR(rs:List Int)(k:Nat):Prop:=(aj rs).getD (bf rs k) 0<0
def KP(fs:List Int)(a b j:Nat):Prop:=a<=j/\j<=b/\∀c d,Kn fs c d->c<j->j<d->c<=a/\b<=d
section
variable {rs:List Int}
theorem CD(fit:aR rs){g a b:Nat}(o:Own (aj rs) g a b):KP (aj rs) a b g/\KP (aj rs) a b (g+1):=by
 have B:=o.le;have E:=o.lt;have nd:=cD fit;refine⟨⟨B,by omega,λc d k D z=>⟨o.top c d k (by omega) z,o.qU nd k (by omega) z⟩⟩,⟨by omega,by omega,λc d k D z=>⟨o.top c d k (by omega) (by omega),o.qU nd k (by omega) (by omega)⟩⟩⟩
theorem CF{fs:List Int}{g a b c d:Nat}(o:Own fs g c d)(k:Kn fs a b)(z:a<=g)(B:g<b)(h:c<=a):c=a/\d=b:=by
 have:=o.top a b k z B;have e:c=a:=by omega
 subst e;exact⟨rfl,dS o.kn k⟩
theorem yo(fit:aR rs){a b:Nat}(K:Kn (aj rs) a b)(hu:∀k,k<rs.length+1->iq rs k=((a:Int),(b:Int))->(uR rs k↔uR rs (k+1))){j:Nat}(J:KP (aj rs) a b j):((aj rs).getD j 0<0↔(aj rs).getD a 0<0):=by
 have fl:=a6 rs;have lb:=K.1.lb;have lab:=K.1.lt;have B:=K.1.own;have bnz:=fu fit (p:=b) (by omega) (by omega);have bs:(aj rs).getD b 0<0↔(aj rs).getD a 0<0:=by
  unfold cF at B;by_cases s:(aj rs).getD a 0<0
  .rw[UQ s]at B;unfold aE at B
   split at B <;> omega
  rw[UO s]at B;unfold aE at B
  split at B <;> omega
 by_cases s:(aj rs).getD a 0<0
 ·-- minus: no place is without one
  have key:∀(m j:Nat),KP (aj rs) a b j->aE ((aj rs).getD j 0)=m->(aj rs).getD j 0<0:=λm=>by
   induction m using RA with
   |_ m Z =>
    intro j J H;obtain⟨j1,j2,j3⟩:=J;refine O2 λE=>?_;have ja:j≠a:=λe=>E (by rw[e];exact s);have jb:j≠b:=λe=>E (by rw[e];exact bs.mpr s);have jnz:=fu fit (p:=j) (by omega) (by omega);have vj:(aj rs).getD j 0=m:=by unfold aE at H;rw[UO E]at H;exact H
    have M:=dz fit (show j<rs.length+2 by omega) H;have m1:1<=m:=by omega
    have mn:m<=rs.length:=by
     have:=eF fit (show j<rs.length+2 by omega);by_cases z:m=rs.length+1
     .rw[z,dR fit]at M;omega
     omega
    obtain⟨c,d,o⟩:=d7 fit (g:=j-1) (by omega);have o1:=o.le;have o2:=o.lt;by_cases D:c=a
    .subst D;have eb:=dS o.kn K;subst eb;obtain⟨z,z1,z2⟩:=BB fit m1 mn;rw[M]at z;have zB:pB rs (m-1)=2*j-1:=by
      rcases z with⟨_,_,z3⟩|⟨_,z2,_⟩
      .exact UU z3 E
      exact z2
     obtain⟨O,d',U,q2,_⟩:=dW fit (k:=m-1) (by omega);rw[zB,show(2*j-1)/2=j-1 by omega]at q2;obtain⟨e1,e2⟩:=q2.uniq o;subst e1 e2;have un:=hu (m-1) (by omega) (by unfold iq;exact cT U);rw[show m-1+1=m by omega]at un;have nm:¬uR rs (m-1):=λz=>by
      have:=un.mp z;unfold uR at this;rw[M]at this;exact E this
     have gp:pA rs (m-1)/2=bf rs (m-1):=by
      unfold pA;rw[UO (show¬(aj rs).getD (bf rs (m-1)) 0<0 from nm)];omega
     rw[gp]at U;exact nm (Z (m-1) (by omega) _ (CD fit U).1 (by have:=(bw fit (show m-1<rs.length+2 by omega)).2;exact this))
    have dj:d=j:=by
     by_cases z:j<d
     .have:=j3 c d o.kn (by omega) z;have:=CF o K (by omega) (by omega) this.1;exact UU this.1 D
     omega
    subst dj;have W:=o.kn.1;have pK:=W.pK;have own:=W.own;have cn:¬(aj rs).getD c 0<0:=λz=>by
     unfold cF at own;rw[UQ z,H]at own;omega
    have ac:a<c:=by
     rcases R4 c a with h|h|h
     .have:=mz fit o.kn K h;omega
     .exact UU h D
     exact h
    refine cn (Z (aE ((aj rs).getD c 0)).toNat (by unfold aE;rw[UO cn];omega) c ⟨by omega,by omega,λO d' V l1 l2=>?_⟩ (by unfold aE;rw[UO cn];omega));have:=mz fit V o.kn l1;exact j3 O d' V (by omega) (by omega)
  exact⟨λ_=>s,λ_=>key (aE ((aj rs).getD j 0)).toNat j J (by have:=eF fit (show j<rs.length+2 by have:=J.2.1;omega);omega)⟩
 have key:∀(m j:Nat),KP (aj rs) a b j->aE ((aj rs).getD j 0)=m->¬(aj rs).getD j 0<0:=λm=>by
  induction m using RA with
  |_ m Z =>
   intro j J H E;obtain⟨j1,j2,j3⟩:=J;have ja:j≠a:=λe=>s (by rw[<-e];exact E);have jb:j≠b:=λe=>s (bs.mp (by rw[<-e];exact E));have vj:(aj rs).getD j 0=-(m:Int):=by unfold aE at H;rw[UQ E]at H;omega
   have M:=dz fit (show j<rs.length+2 by omega) H;have m1:1<=m:=by omega
   have mn:m<=rs.length:=by
    have:=eF fit (show j<rs.length+2 by omega);by_cases z:m=rs.length+1
    .rw[z,dR fit]at M;omega
    omega
   obtain⟨c,d,o⟩:=d7 fit (g:=j) (by omega);have o1:=o.le;have o2:=o.lt;by_cases D:c=a
   .subst D;have eb:=dS o.kn K;subst eb;obtain⟨z,z1,z2⟩:=BB fit m1 mn;rw[M]at z;have zB:pB rs (m-1)=2*j:=by
     rcases z with⟨_,z2,_⟩|⟨_,_,z3⟩
     .exact z2
     exact UU E z3
    obtain⟨O,d',U,q2,_⟩:=dW fit (k:=m-1) (by omega);rw[zB,show 2*j/2=j by omega]at q2;obtain⟨e1,e2⟩:=q2.uniq o;subst e1 e2;have un:=hu (m-1) (by omega) (by unfold iq;exact cT U);rw[show m-1+1=m by omega]at un;have nm:uR rs (m-1):=un.mpr (by unfold uR;rw[M];exact E);have pp:=bM (bw fit (show m-1<rs.length+2 by omega)).1 nm;have gp:pA rs (m-1)/2+1=bf rs (m-1):=by
     unfold pA;rw[UQ (show(aj rs).getD (bf rs (m-1)) 0<0 from nm)];omega
    have kp:=(CD fit U).2;rw[gp]at kp;exact Z (m-1) (by omega) _ kp (by have:=(bw fit (show m-1<rs.length+2 by omega)).2;exact this) nm
   have cj:c=j:=by
    by_cases z:c<j
    .have:=j3 c d o.kn z (by omega);have:=CF o K (by omega) (by omega) this.1;exact UU this.1 D
    omega
   subst cj;have W:=o.kn.1;have pK:=W.pK;have own:=W.own;have dl:=W.lb;have dnz:=fu fit (p:=d) (by omega) (by omega);have dn:(aj rs).getD d 0<0:=by
    unfold cF at own;rw[UQ E]at own;unfold aE at own
    split at own <;> omega
   have db:d<b:=by have:=mz fit K o.kn (by omega);omega
   refine Z (aE ((aj rs).getD d 0)).toNat (by unfold aE;rw[UQ dn];omega) d ⟨by omega,by omega,λO d' V l1 l2=>?_⟩ (by unfold aE;rw[UQ dn];omega) dn;rcases R4 O c with h|h|h
   .exact j3 O d' V h (by omega)
   .subst h;have:=dS V o.kn;omega
   have:=mz fit o.kn V h;omega
 exact⟨λh=>UU h (key (aE ((aj rs).getD j 0)).toNat j J (by have:=eF fit (show j<rs.length+2 by have:=J.2.1;omega);omega)),λh=>UU h s⟩
theorem i0(fit:aR rs){g h:Nat}{p:Int×Int}(D:g<rs.length+1)(E:h<rs.length+1)(z:ow (aj rs) g=p)(H:ow (aj rs) h=p)(B:isOpen (aj rs) g=true):isOpen (aj rs) h=true:=by
 cases c:isOpen (aj rs) h with
 |true=>rfl
 |false =>
  have e:=(uj fit E).mpr c;obtain⟨a,b,o⟩:=d7 fit D;rw[H]at e;rw[cT o,e]at z;have e1:(a:Int)=h:=congrArg Qd z;have e2:(b:Int)=(h:Int)+1:=congrArg Rr z;have:=o.le;have:=o.lt;have:g=h:=by omega
  rw[this,c]at B;cases B
theorem nU{fs:List Int}{L:List Nat}{p:Int×Int}{x:Bool}:x∈iy fs L p↔∃g∈L,ow fs g=p/\(x=decide (fs.getD g 0<0)\/x=decide (fs.getD (g+1) 0<0)):=by
 unfold iy;rw[Q3];constructor
 .rintro⟨g,D,E⟩;obtain⟨z,B⟩:=O9.mp D;refine⟨g,z,U0 B,?_⟩;rcases Pq.mp E with h|h
  .exact .inl h
  exact .inr (O3.mp h)
 rintro⟨g,z,B,H⟩;refine⟨g,O9.mpr ⟨z,UX B⟩,?_⟩;rcases H with h|h
 .rw[h];exact Pc
 rw[h];exact Pj _ (O3.mpr rfl)
theorem lD{fs:List Int}{m g:Nat}:g∈gX fs m↔g<m/\isOpen fs g=true:=by
 unfold gX;rw[O9,Pm]
theorem uS(fit:aR rs){p:Int×Int}:p∈KN rs↔(∃g,g<rs.length+1/\isOpen (aj rs) g=true/\ow (aj rs) g=p)/\∀k,k<rs.length+1->iq rs k=p->(uR rs k↔uR rs (k+1)):=by
 have kn:p∈KN rs↔p∈cG (aj rs)/\iy (aj rs) (gX (aj rs) (rs.length+1)) p≠[]/\(iy (aj rs) (gX (aj rs) (rs.length+1)) p).all id=true\/p∈cG (aj rs)/\iy (aj rs) (gX (aj rs) (rs.length+1)) p≠[]/\(iy (aj rs) (gX (aj rs) (rs.length+1)) p).any id=false:=by
  unfold KN di;rw[O9];unfold sy;rw[Qn,U5];constructor
  .rintro⟨D,B,E⟩;rw[<-kY B,Ux,Rm]at E;exact E.elim (λz=>.inl ⟨D,B,z⟩) (λz=>.inr ⟨D,B,z⟩)
  rintro(⟨D,B,E⟩|⟨D,B,E⟩)
  .refine⟨D,B,?_⟩;rw[<-kY B,E];rfl
  refine⟨D,B,?_⟩;rw[<-kY B,E];simp
 have nz:iy (aj rs) (gX (aj rs) (rs.length+1)) p≠[]↔∃g,g<rs.length+1/\isOpen (aj rs) g=true/\ow (aj rs) g=p:=by
  constructor
  .intro h;obtain⟨g,H,e⟩:=B7 h;obtain⟨D,B⟩:=lD.mp H;exact⟨g,D,B,e⟩
  rintro⟨g,D,B,E⟩ z;have:=nU.mpr ⟨g,lD.mpr ⟨D,B⟩,E,.inl rfl⟩;rw[z]at this;exact UU this Pf
 have ends:∀k,k<rs.length+1->iq rs k=p->(∃g,g<rs.length+1/\isOpen (aj rs) g=true/\ow (aj rs) g=p)->decide (uR rs k)∈iy (aj rs) (gX (aj rs) (rs.length+1)) p/\decide (uR rs (k+1))∈iy (aj rs) (gX (aj rs) (rs.length+1)) p:=λk O M ⟨g,D,B,E⟩=>by
  obtain⟨c,d,U,V,_⟩:=dW fit O;unfold iq at M;have e2:ow (aj rs) (pB rs k/2)=p:=by rw[cT V,<-cT U];exact M
  have lA:pA rs k/2<rs.length+1:=by have:=(cU fit O).2;omega
  have lB:pB rs k/2<rs.length+1:=by have:=(dU fit O).2;omega
  have oA:=i0 fit D lA E M B;have oB:=i0 fit D lB E e2 B;refine⟨nU.mpr ⟨_,lD.mpr ⟨lA,oA⟩,M,?_⟩,nU.mpr ⟨_,lD.mpr ⟨lB,oB⟩,e2,?_⟩⟩
  .unfold uR;by_cases s:(aj rs).getD (bf rs k) 0<0
   .right;have pp:=bM (bw fit (show k<rs.length+2 by omega)).1 s;rw[show pA rs k/2+1=bf rs k by unfold pA;rw[UQ s];omega]
   left;rw[show pA rs k/2=bf rs k by unfold pA;rw[UO s];omega]
  unfold uR;have pp:=mB fit (k:=k) (by omega);by_cases s:(aj rs).getD (bf rs (k+1)) 0<0
  .left;rw[show pB rs k/2=bf rs (k+1) by unfold pB;rw[UQ s];omega]
  right;rw[show pB rs k/2+1=bf rs (k+1) by unfold pB;rw[UO s];omega]
 rw[kn];constructor
 .intro h;have hz:iy (aj rs) (gX (aj rs) (rs.length+1)) p≠[]:=h.elim (λz=>z.2.1) (λz=>z.2.1);have H:=nz.mp hz;refine⟨H,λk O M=>?_⟩;obtain⟨e1,e2⟩:=ends k O M H;rcases h with⟨_,_,h⟩|⟨_,_,h⟩
  .have U:decide (uR rs k)=true:=QL.mp h _ e1;have V:decide (uR rs (k+1))=true:=QL.mp h _ e2;exact⟨λ_=>U0 V,λ_=>U0 U⟩
  have no:∀x∈iy (aj rs) (gX (aj rs) (rs.length+1)) p,¬x=true:=λx J z=>by
   have:(iy (aj rs) (gX (aj rs) (rs.length+1)) p).any id=true:=Qq.mpr ⟨x,J,z⟩;rw[h]at this;cases this
  exact⟨λz=>UU (UX z) (no _ e1),λz=>UU (UX z) (no _ e2)⟩
 rintro⟨H,hu⟩;have hz:=nz.mpr H;obtain⟨g,g1,g2,g3⟩:=H;obtain⟨a,b,o⟩:=d7 fit g1;rw[cT o]at g3;subst g3;have kin:((a:Int),(b:Int))∈cG (aj rs):=bG.mpr ⟨a,b,o.kn,rfl⟩;have sign:∀x∈iy (aj rs) (gX (aj rs) (rs.length+1)) ((a:Int),(b:Int)),x=decide ((aj rs).getD a 0<0):=λx J=>by
  obtain⟨g',Z,e,h⟩:=nU.mp J;have l':=(lD.mp Z).1;obtain⟨c,d,o'⟩:=d7 fit l';rw[cT o']at e;have e1:(c:Int)=a:=congrArg Qd e;have e2:(d:Int)=b:=congrArg Rr e;obtain rfl:c=a:=by omega
  obtain rfl:d=b:=by omega
  obtain⟨k1,k2⟩:=CD fit o';rcases h with h|h
  .rw[h];exact decide_eq_decide.mpr (yo fit o.kn hu k1)
  rw[h];exact decide_eq_decide.mpr (yo fit o.kn hu k2)
 by_cases s:(aj rs).getD a 0<0
 .left;refine⟨kin,hz,QL.mpr λx J=>?_⟩;rw[sign x J,UX s];rfl
 right;refine⟨kin,hz,?_⟩;rw[<-Um,Qq];rintro⟨x,J,z⟩;rw[sign x J,U1 s]at z;cases z
end
def CG(p k:a7):Prop:=p.1<k.1/\k.2<p.2
section
variable {kins:List a7}{cs:List (List a7)}
theorem CI(L:iY kins){p x y:a7}(z:p∈kins)(B:x∈kins)(D:y∈kins)(e:x.2=y.1):CG p x↔CG p y:=by
 have J:=L.pos x B;have M:=L.pos y D;unfold CG;constructor
 .rintro⟨E,H⟩;have:=L.two p z y D (by omega);omega
 rintro⟨E,H⟩;rcases TY x.1 p.1 with h|h|h
 .have:=L.two x B p z h;omega
 .have:=eQ L.asc B z h;subst this;omega
 omega
theorem ju(L:iY kins){p:a7}(D:p∈kins):∀{c:List a7},Dl c->(∀k∈c,k∈kins)->∀q∈c,CG p q->∀k∈c,CG p k
 |[],_,_,q,z,_,_,_=>UU z Pf
 |[x],_,_,q,z,h,k,B=>by rw[O3.mp B,<-O3.mp z];exact h
 |x::y::r,l,s,q,z,h,k,B=>by
  have e:=CI L D (s x Pc) (s y (by simp)) (l x y ⟨0,rfl,rfl⟩);have E:=ju L D l.tail (λk B=>s k (Pj _ B));have H:CG p y:=by
   rcases Pq.mp z with rfl|z
   .exact e.mp h
   exact E q z h y Pc
  rcases Pq.mp B with rfl|B
  .exact e.mpr H
  exact E y Pc H k B
theorem tile:∀{c:List a7},Dl c->(∀k∈c,k.1<k.2)->∀g:Int,(hd2 c).1<=g->g<(bL c).2->c≠[]->∃k∈c,k.1<=g/\g<k.2
 |[],_,_,_,_,_,h=>UU rfl h
 |[x],_,_,g,B,z,_=>⟨x,O3.mpr rfl,B,z⟩
 |x::y::r,l,p,g,B,z,_=>by
  have e:bL (x::y::r)=bL (y::r):=by unfold bL;rw[Qy,Qy,SO]
  by_cases c:g<x.2
  .exact⟨x,Pc,B,c⟩
  have e1:=l x y ⟨0,rfl,rfl⟩;rw[e]at z;obtain⟨k,D,k1,k2⟩:=tile l.tail (λk D=>p k (Pj _ D)) g (show y.1<=g by omega) z (by simp);exact⟨k,Pj _ D,k1,k2⟩
theorem zR{c:List a7}{p:a7}(h:p∈iW kins c):∃k,cq kins c=[k]:=by
 have l:=iX (kins:=kins) (c:=c);have:(cq kins c).length=1:=by
  unfold cq;rw[PU];have:=Qm h;omega
 exact SX.mp this
theorem mJ(asc:kins.Pairwise λp q=>p.1<q.1){c:List a7}{p k:a7}(h:p∈iW kins c)(e:cq kins c=[k]):p.1<=k.1:=by
 have D:(iW kins c).Pairwise λp q=>p.1<q.1:=asc.sublist PY;unfold cq at e;have E:=Qm h;have g:=SA (l:=iW kins c) (i:=(iW kins c).length-1) (by omega);rw[e]at g;have B:=(List.cons.inj g).1;obtain⟨i,hi,rfl⟩:=PB h;by_cases z:i=(iW kins c).length-1
 .subst z;rw[B];exact QN _
 have:=PC.mp D i ((iW kins c).length-1) hi (by omega) (by omega);rw[<-B]at this;omega
theorem CJ(C:p8 kins cs){c:List a7}(z:c∈cs){p:a7}(B:p∈kins)(h:∀k∈c,CG p k):p∈iW kins c:=by
 have D:=h _ (bz (C.ne c z));have E:=h _ (gR (C.ne c z));exact O9.mpr ⟨B,cZ.mpr ⟨D.1,E.2⟩⟩
theorem rm(L:iY kins){p q:a7}(D:p∈kins)(B:q∈kins)(E:p.1<=q.1)(H:q.2<=p.2):q=p\/CG p q:=by
 by_cases e:q=p
 .exact .inl e
 right;have ne:p.1≠q.1:=λz=>e (eQ L.asc B D z.symm);have t:=L.two p D q B (by omega);have J:=L.pos q B;exact⟨by omega,by omega⟩
theorem FE(L:iY kins)(C:p8 kins cs):∀(n:Nat) (q p:a7),q∈kins->p∈kins->p.1<=q.1->q.2<=p.2->((p.2-p.1)-(q.2-q.1)).toNat<=n->Ab (yk kins cs) (.inl q) (.inl p):=by
 intro n
 induction n with
 |zero =>
  intro q p E D J M Z;rcases rm L D E J M with e|⟨e1,e2⟩
  .rw[e];exact .refl _
  omega
 |succ n ih =>
  intro q p E D J M Z;rcases rm L D E J M with e|e
  .rw[e];exact .refl _
  obtain⟨c,z,B⟩:=C.all q E;have U:=ju L D (C.Iz c z) (C.sub c z) q B e;have V:=CJ C z D U;obtain⟨k,O⟩:=zR V;have H:=b7 (kins:=kins) (c:=c) (k:=k) (by rw[O];exact O3.mpr rfl);have hk2:=cZ.mp H.2;have le:=mJ L.asc V O;have q1:=C.lo c z q B;have q2:=C.hi c z q B;have pq:=L.pos q E;have hd:=U _ (bz (C.ne c z));have kp:k.2<=p.2:=by
   rcases TB le with h|h
   .have:=L.two p D k H.1 h;unfold CG at hd;have:=L.pos _ (C.sub c z _ (bz (C.ne c z)));omega
   have:=eQ L.asc D H.1 h;rw[this];exact QN _
  refine .step (C.Dk z B) (.step (by rw[C.LH z,O];rfl) (ih k p H.1 D le kp (by omega)))
noncomputable def LJ:jD->Int
 |.inl p=>p.1
 |.inr h=>h.1
noncomputable def Ko(cs:List (List a7)):jD->Int
 |.inl p=>p.2
 |.inr h=>(bL ((iZ cs h).getD [])).2
theorem pw(C:p8 kins cs){c:List a7}(z:c∈cs):Ko cs (.inr (hd2 c))=(bL c).2:=by
 show(bL ((iZ cs (hd2 c)).getD [])).2=_;rw[C.iZ z]
 rfl
theorem yp(C:p8 kins cs){v w:jD}(h:Ab (yk kins cs) v w):LJ w<=LJ v/\Ko cs v<=Ko cs w:=by
 induction h with
 |refl=>exact⟨QN _,QN _⟩
 | @step v u w e _ D =>
  have:LJ u<=LJ v/\Ko cs v<=Ko cs u:=by
   cases v with
   |inl k =>
    obtain⟨c,z,B,rfl⟩:=gT C e;rw[pw C z];exact⟨C.lo c z k B,C.hi c z k B⟩
   |inr h =>
    obtain⟨c,z,rfl,k,B,rfl⟩:=pf C e;have:=cZ.mp (b7 B).2;rw[pw C z];show k.1<=(hd2 c).1/\(bL c).2<=k.2;omega
  omega
end
theorem j5{kins:List a7}(L:iY kins){c:List a7}(D:c∈aP kins){k:a7}(E:k∈kins):k.1≠(bL c).2:=λz=>by
 have C:=bD L;have B:=D;rw[fS]at B;obtain⟨e,H,rfl⟩:=O4.mp B;have J:=gR (C.ne _ D);obtain⟨M,O⟩:=(dY H).mp J;have kin:k∈gP kins e.2:=(dY H).mpr ⟨E,by rw[z,<-(qS kins).2 _ M];exact O⟩;have:=C.hi _ D k kin;have:=L.pos k E;omega
structure Kp(kins:List a7) (g:Int) (p:a7):Prop where
 kin:p∈kins
 lo:p.1<=g
 hi:g<p.2
 top:∀q∈kins,q.1<=g->g<q.2->q.1<=p.1
theorem dA{rs:List Int}(fit:aR rs){g:Nat}(D:g<rs.length+1):Kp (KI rs) (g:Int) (ow (aj rs) g):=by
 obtain⟨c,d,o⟩:=d7 fit D;rw[cT o];have H:=o.le;have J:=o.lt;refine⟨bG.mpr ⟨c,d,o.kn,rfl⟩,by show(c:Int)<=g;omega,by show(g:Int)<d;omega,λq E z B=>?_⟩;obtain⟨a,b,kn,rfl⟩:=bG.mp E;have z:(a:Int)<=g:=z;have B:(g:Int)<b:=B;have:=o.top a b kn (by omega) (by omega);show(a:Int)<=c;omega
section
variable {kins:List a7}
theorem Kp.qU(L:iY kins){g:Int}{p q:a7}(h:Kp kins g q)(B:p∈kins)(D:p.1<=g)(E:g<p.2)(ne:q≠p):CG p q:=by
 have t:=h.top p B D E;have H:p.1≠q.1:=λz=>ne (eQ L.asc h.kin B z.symm);have:=L.two p B q h.kin (by omega);have:=h.lo;have:=h.hi;exact⟨by omega,by omega⟩
theorem beside(L:iY kins){c:List a7}(B:c∈aP kins){p q:a7}(hs:cq kins c=[p]){g:Int}(O:g=(hd2 c).1-1\/g=(bL c).2)(z:Kp kins g q):q=p:=by
 have C:=bD L;obtain⟨H,J⟩:=b7 (kins:=kins) (c:=c) (k:=p) (by rw[hs];exact O3.mpr rfl);have J:=cZ.mp J;have D:=bz (C.ne c B);have E:=gR (C.ne c B);have M:=C.sub c B _ D;have lk:=C.sub c B _ E;have ph:=L.pos _ M;have pl:=L.pos _ lk;have hl:=C.hi c B _ D;have ll:=C.lo c B _ E;have o1:=z.lo;have U:=z.hi;have t:=z.top p H (by omega) (by omega);have fin:(∃k∈c,CG q k)->q=p:=λ⟨k,V,Z⟩=>by
  have al:=ju L z.kin (C.Iz c B) (C.sub c B) k V Z;have:=mJ L.asc (CJ C B z.kin al) hs;exact eQ L.asc z.kin H (by omega)
 rcases O with rfl|rfl
 .refine fin ⟨_,D,?_⟩;have:=C.fst c B q z.kin;have:=L.two q z.kin _ M (by omega);exact⟨by omega,by omega⟩
 refine fin ⟨_,E,?_⟩;have:=j5 L B z.kin;rcases TY q.1 (bL c).1 with h|h|h
 .have:=L.two q z.kin _ lk h;exact⟨by omega,by omega⟩
 .have:=eQ L.asc z.kin lk h;rw[this]at U;omega
 have:=L.two _ lk q z.kin h;omega
theorem within(L:iY kins){c:List a7}(B:c∈aP kins){p q:a7}(hs:cq kins c=[p]){g:Int}(H:(hd2 c).1<=g)(J:g<(bL c).2)(M:Kp kins g q):q≠p:=λz=>by
 have C:=bD L;obtain⟨U,D⟩:=b7 (kins:=kins) (c:=c) (k:=p) (by rw[hs];exact O3.mpr rfl);have D:=cZ.mp D;obtain⟨k,E,k1,k2⟩:=tile (C.Iz c B) (λk O=>L.pos k (C.sub c B k O)) g H J (C.ne c B);have:=M.top k (C.sub c B k E) k1 k2;have:=C.lo c B k E;rw[z]at *;omega
theorem apart2(L:iY kins){c B:List a7}(D:c∈aP kins)(z:B∈aP kins){p:a7}(hs:cq kins c=[p])(E:cq kins B=[p])(ne:c≠B):(bL c).2<(hd2 B).1\/(bL B).2<(hd2 c).1:=by
 have C:=bD L;have one:∀{c B:List a7},c∈aP kins->B∈aP kins->cq kins c=[p]->cq kins B=[p]->c≠B->¬((hd2 c).1<=(hd2 B).1/\(hd2 B).1<(bL c).2):=λ{c B} D z hs E ne ⟨V,Z⟩=>by
  obtain⟨pk,pa⟩:=b7 (kins:=kins) (c:=c) (k:=p) (by rw[hs];exact O3.mpr rfl);have pa:=cZ.mp pa;obtain⟨k,U,k1,k2⟩:=tile (C.Iz c D) (λk M=>L.pos k (C.sub c D k M)) _ V Z (C.ne c D);have O:=C.sub c D k U;have H:=bz (C.ne B z);have M:=C.sub B z _ H;rcases TB k1 with h|h
  .have:=L.two k O _ M h;have al:=ju L O (C.Iz B z) (C.sub B z) _ H ⟨h,by omega⟩;have:=mJ L.asc (CJ C z O al) E;have:=C.lo c D k U;omega
  have:=eQ L.asc O M h;exact ne (C.uq c D B z k U (by rw[this];exact H))
 have V:=one D z hs E ne;have Z:=one z D E hs (Ne.symm ne);have H:=bz (C.ne c D);have J:=bz (C.ne B z);have:=L.pos _ (C.sub c D _ H);have:=C.hi c D _ H;have:=L.pos _ (C.sub B z _ J);have:=C.hi B z _ J;have:=j5 L D (C.sub B z _ J);have:=j5 L z (C.sub c D _ H);omega
end
def FF(K:a7->Prop):jD->Prop:=λa=>∃p,K p/\a=.inl p
def vt(rs:List Int)(K:a7->Prop)(y:Nat):Prop:=y<rs.length+1/\isOpen (aj rs) y=true/\K (ow (aj rs) y)
def EG(rs:List Int)(K:a7->Prop)(p:a7):Prop:=∃D z B E,D<z/\z<B/\B<E/\vt rs K D/\vt rs K z/\vt rs K B/\vt rs K E /\
 ((ow (aj rs) D=p/\ow (aj rs) z≠p/\ow (aj rs) B=p/\ow (aj rs) E≠p)\/(ow (aj rs) D≠p/\ow (aj rs) z=p/\ow (aj rs) B≠p/\ow (aj rs) E=p))
def rn(rs:List Int)(K:a7->Prop):Prop:=∀p,K p->p∈KI rs/\∃y,y<rs.length+1/\isOpen (aj rs) y=true/\ow (aj rs) y=p
section
variable {rs:List Int}{K:a7->Prop}{p:a7}
theorem CK{kins c:List a7}(h:p∈cq kins c):cq kins c=[p]:=by
 have:=iX (kins:=kins) (c:=c)
 match e:cq kins c,this with
 |[],_=>rw[e]at h;exact UU h Pf
 |[x],_=>rw[e]at h;rw[O3.mp h]
theorem CL(fit:aR rs){v:jD}(e:UT rs v=Yl (.inl p)):∃c∈CH rs,v=.inr (hd2 c)/\cq (KI rs) c=[p]:=by
 have C:=bD (c8 fit).p;cases v with
 |inl k =>
  obtain⟨c,_,_,z⟩:=gT C e;cases z
 |inr h =>
  obtain⟨c,B,rfl,k,D,z⟩:=pf C e;cases z;exact⟨c,B,rfl,CK D⟩
theorem EH(fit:aR rs)(hK:rn rs K)(H:K p){y:Nat}(hy:vt rs K y)(ne:ow (aj rs) y≠p):(¬(p.1<=(y:Int)/\(y:Int)<p.2)/\∃u,UT rs (.inl p)=Yl u/\Ed (UT rs) (FF K) (.inl p) u) \/
  ∃c∈CH rs,cq (KI rs) c=[p]/\(hd2 c).1<=(y:Int)/\(y:Int)<(bL c).2/\Ed (UT rs) (FF K) (.inl p) (.inr (hd2 c)):=by
 have L:=(c8 fit).p;have C:=bD L;obtain⟨y1,y2,M⟩:=hy;have o:=dA fit y1;have J:=(hK p H).1;generalize ow (aj rs) y=q at *;by_cases c:p.1<=(y:Int)/\(y:Int)<p.2
 .right;have qU:=o.qU L J c.1 c.2 ne;have ab:=FE L C _ q p o.kin J (QY qU.1) (QY qU.2) (O5 _);rcases ab.pred with e|⟨v,O,U⟩
  .cases e;exact UU rfl ne
  obtain⟨c,D,rfl,hs⟩:=CL fit O;obtain⟨E,B⟩:=yp C U;rw[pw C D]at B;have E:(hd2 c).1<=q.1:=E;have B:q.2<=(bL c).2:=B;have:=o.lo;have:=o.hi;obtain⟨_,V⟩:=b7 (kins:=KI rs) (c:=c) (k:=p) (by rw[hs];exact O3.mpr rfl);have V:=cZ.mp V;refine⟨c,D,hs,by omega,by omega,.inr ⟨O,⟨_,⟨q,M,rfl⟩,U⟩,_,⟨p,H,rfl⟩,λz=>?_⟩⟩;have:=(yp C z).2;rw[pw C D]at this;have:p.2<=(bL c).2:=this;omega
 left;refine⟨c,?_⟩;obtain⟨ch,D,pc⟩:=C.all p J;have Z:UT rs (.inl p)=Yl (.inr (hd2 ch)):=C.Dk D pc;refine⟨_,Z,.inl ⟨Z,⟨_,⟨p,H,rfl⟩,.refl _⟩,_,⟨q,M,rfl⟩,λz=>?_⟩⟩;obtain⟨E,B⟩:=yp C z;have E:p.1<=q.1:=E;have B:q.2<=p.2:=B;have:=o.lo;have:=o.hi;omega
theorem Nv(fit:aR rs)(H:rn rs K)(hp:K p){b:jD}(h:Ed (UT rs) (FF K) (.inl p) b):(UT rs (.inl p)=Yl b/\∃y,vt rs K y/\ow (aj rs) y≠p/\¬(p.1<=(y:Int)/\(y:Int)<p.2)) \/
  ∃c∈CH rs,b=.inr (hd2 c)/\cq (KI rs) c=[p]/\∃y,vt rs K y/\ow (aj rs) y≠p/\(hd2 c).1<=(y:Int)/\(y:Int)<(bL c).2:=by
 have L:=(c8 fit).p;have C:=bD L;have U:=(H p hp).1;rcases h with⟨e,_,k2,⟨q,D,rfl⟩,V⟩|⟨e,⟨k1,⟨q,D,rfl⟩,aq⟩,_⟩
 .left;obtain⟨qk,y,E,J,B⟩:=H q D;have o:=dA fit E;rw[B]at o;have Z:q≠p:=λz=>V (by rw[z];exact .refl _);refine⟨e,y,⟨E,J,by rw[B];exact D⟩,by rw[B];exact Z,λc=>V ?_⟩;have qU:=o.qU L U c.1 c.2 Z;exact FE L C _ q p o.kin U (QY qU.1) (QY qU.2) (O5 _)
 right;obtain⟨c,M,rfl,hs⟩:=CL fit e;obtain⟨qk,y,E,J,B⟩:=H q D;have o:=dA fit E;obtain⟨i1,O⟩:=yp C aq;rw[pw C M]at O;have i1:(hd2 c).1<=q.1:=i1;have O:q.2<=(bL c).2:=O;have l1:=o.lo;have l2:=o.hi;rw[B]at l1 l2;have w1:(hd2 c).1<=(y:Int):=by omega
 have w2:(y:Int)<(bL c).2:=by omega
 exact⟨c,M,rfl,hs,y,⟨E,J,by rw[B];exact D⟩,within L M hs w1 w2 o,w1,w2⟩
theorem Nw(fit:aR rs)(J:K p){c:List a7}(B:c∈CH rs)(hs:cq (KI rs) c=[p]):∃g h:Nat,(g:Int)=(hd2 c).1-1/\(h:Int)=(bL c).2/\vt rs K g/\vt rs K h/\ow (aj rs) g=p/\ow (aj rs) h=p/\p.1<=(g:Int)/\(h:Int)<p.2/\g<h:=by
 have M:=c8 fit;have L:=M.p;have C:=bD L;obtain⟨pk,O⟩:=b7 (kins:=KI rs) (c:=c) (k:=p) (by rw[hs];exact O3.mpr rfl);have O:=cZ.mp O;have rg:=M.ql p pk;have U:=bz (C.ne c B);have:=L.pos _ (C.sub c B _ U);have:=C.hi c B _ U;have D:((hd2 c).1-1).toNat<rs.length+1:=by omega
 have E:((bL c).2).toNat<rs.length+1:=by omega
 have V:((((hd2 c).1-1).toNat:Nat):Int)=(hd2 c).1-1:=by omega
 have Z:((((bL c).2).toNat:Nat):Int)=(bL c).2:=by omega
 have og:=dA fit D;have oh:=dA fit E;have pg:=beside L B hs (.inl V) og;have H:=beside L B hs (.inr Z) oh;have op:∀{x:Nat},x<rs.length+1->ow (aj rs) x=p->isOpen (aj rs) x=true:=λ{x} hx e=>by
  cases z:isOpen (aj rs) x with
  |true=>rfl
  |false =>
   have:=(uj fit hx).mpr z;rw[e]at this;have e1:p.1=x:=by rw[this]
   have e2:p.2=(x:Int)+1:=by rw[this]
   omega
 exact⟨_,_,V,Z,⟨D,op D pg,by rw[pg];exact J⟩,⟨E,op E H,by rw[H];exact J⟩,pg,H,by omega,by omega,by omega⟩
theorem EI(fit:aR rs)(U:rn rs K)(J:K p):EG rs K p↔∃b1 Z,b1≠Z/\Ed (UT rs) (FF K) (.inl p) b1/\Ed (UT rs) (FF K) (.inl p) Z:=by
 have Lm:=c8 fit;have L:=Lm.p;have C:=bD L;have pk:=(U p J).1;have own:∀{y:Nat},y<rs.length+1->ow (aj rs) y=p->p.1<=(y:Int)/\(y:Int)<p.2:=λ{y} hy e=>by
  have o:=dA fit hy;rw[e]at o;exact⟨o.lo,o.hi⟩
 have nw:∀{y:Nat}{c:List a7},y<rs.length+1->ow (aj rs) y=p->c∈CH rs->cq (KI rs) c=[p]->¬((hd2 c).1<=(y:Int)/\(y:Int)<(bL c).2):=λ{y c} hy e B hs ⟨h1,h2⟩=>within L B hs h1 h2 (dA fit hy) e;have M:∀{c:List a7}{u:jD},c∈CH rs->cq (KI rs) c=[p]->UT rs (.inl p)=Yl u->(.inr (hd2 c):jD)≠u:=λ{c u} B hs e z=>by
  subst z;obtain⟨d,hd,pd,z⟩:=gT C e;have z:hd2 c=hd2 d:=by injection z
  have:=C.uq c B d hd (hd2 c) (bz (C.ne c B)) (by rw[z];exact bz (C.ne d hd));subst this;obtain⟨_,pa⟩:=b7 (kins:=KI rs) (c:=c) (k:=p) (by rw[hs];exact O3.mpr rfl);have pa:=cZ.mp pa;have:=C.lo c B p pd;omega
 constructor
 .rintro⟨y1,y2,y3,y4,l12,l23,l34,b1,Z,b3,b4,⟨e1,e2,e3,e4⟩|⟨e1,e2,e3,e4⟩⟩
  .have w1:=own b1.1 e1;have w3:=own b3.1 e3;rcases EH fit U J Z e2 with⟨no,_⟩|⟨c,B,hs,c1,c2,ed⟩
   .exact UU ⟨by omega,by omega⟩ no
   rcases EH fit U J b4 e4 with⟨_,u,eu,E⟩|⟨O,D,H,c1',c2',E⟩
   .exact⟨_,_,M B hs eu,ed,E⟩
   refine⟨_,_,λz=>?_,ed,E⟩;have z:hd2 c=hd2 O:=by injection z
   have:=C.uq c B O D (hd2 c) (bz (C.ne c B)) (by rw[z];exact bz (C.ne O D));subst this;exact nw b3.1 e3 B hs ⟨by omega,by omega⟩
  have w2:=own Z.1 e2;have w4:=own b4.1 e4;rcases EH fit U J b3 e3 with⟨no,_⟩|⟨c,B,hs,c1,c2,ed⟩
  .exact UU ⟨by omega,by omega⟩ no
  rcases EH fit U J b1 e1 with⟨_,u,eu,E⟩|⟨O,D,H,c1',c2',E⟩
  .exact⟨_,_,M B hs eu,ed,E⟩
  refine⟨_,_,λz=>?_,ed,E⟩;have z:hd2 c=hd2 O:=by injection z
  have:=C.uq c B O D (hd2 c) (bz (C.ne c B)) (by rw[z];exact bz (C.ne O D));subst this;exact nw Z.1 e2 B hs ⟨by omega,by omega⟩
 rintro⟨b1,Z,ne,d1,d2⟩;have mix:∀{c:List a7}{V y:Nat},c∈CH rs->cq (KI rs) c=[p]->vt rs K V->ow (aj rs) V≠p->¬(p.1<=(V:Int)/\(V:Int)<p.2)->vt rs K y->ow (aj rs) y≠p->(hd2 c).1<=(y:Int)->(y:Int)<(bL c).2->EG rs K p:=λ{c V y} B hs q0 n0 no q n h1 h2=>by
  obtain⟨g,h,eg,eh,lg,lh,og,oh,pg,ph,gh⟩:=Nw (K:=K) fit J B hs;by_cases z:(V:Int)<p.1
  .exact⟨V,g,y,h,by omega,by omega,by omega,q0,lg,q,lh,.inr ⟨n0,og,n,oh⟩⟩
  exact⟨g,y,h,V,by omega,by omega,by omega,lg,q,lh,q0,.inl ⟨og,n,oh,n0⟩⟩
 rcases Nv fit U J d1 with⟨e1,y1,q1,n1,o1⟩|⟨c,B,rfl,hs,y1,q1,n1,h1,h2⟩
 .rcases Nv fit U J d2 with⟨e2,_⟩|⟨O,D,rfl,H,y2,q2,n2,h1',h2'⟩
  .rw[e1]at e2;cases e2;exact UU rfl ne
  exact mix D H q1 n1 o1 q2 n2 h1' h2'
 rcases Nv fit U J d2 with⟨e2,y2,q2,n2,o2⟩|⟨O,D,rfl,H,y2,q2,n2,h1',h2'⟩
 .exact mix B hs q2 n2 o2 q1 n1 h1 h2
 have Ao:c≠O:=λz=>ne (by rw[z]);obtain⟨g,h,eg,eh,lg,lh,og,oh,pg,ph,gh⟩:=Nw (K:=K) fit J B hs;obtain⟨g',h',eg',eh',lg',lh',og',oh',pg',ph',gh'⟩:=Nw (K:=K) fit J D H;rcases apart2 L B D hs H Ao with z|z
 .exact⟨g,y1,h,y2,by omega,by omega,by omega,lg,q1,lh,q2,.inl ⟨og,n1,oh,n2⟩⟩
 exact⟨g',y2,h',y1,by omega,by omega,by omega,lg',q2,lh',q1,.inl ⟨og',n2,oh',n1⟩⟩
end
section
variable {α:Type}{up:α->Option α}{rk:α->Nat}{V:List α}{M:Nat}{root:α}{K:α->Prop}
def Kq(up:α->Option α)(x y:α):Prop:=up x=Yl y\/up y=Yl x
def Sd(up:α->Option α)(x y q:α):Prop:=(up x=Yl y/\Ab up q x)\/(up y=Yl x/\¬Ab up q y)
theorem Tr.EJ(T:Tr V up rk M root){x y:α}(h:up x=Yl y):up y≠Yl x:=λz=>by
 have:=T.lt _ _ h;have:=T.lt _ _ z;omega
theorem Tr.CM(T:Tr V up rk M root){x y:α}(h:Kq up x y):x≠y:=λz=>by
 subst z;rcases h with h|h <;> (have:=T.lt _ _ h;omega)
theorem Tr.CN(T:Tr V up rk M root){x y:α}(h:Kq up x y)(q:α):Sd up x y q\/Sd up y x q:=by
 rcases h with h|h
 .by_cases c:Ab up q x
  .exact .inl (.inl ⟨h,c⟩)
  exact .inr (.inr ⟨h,c⟩)
 by_cases c:Ab up q y
 .exact .inr (.inl ⟨h,c⟩)
 exact .inl (.inr ⟨h,c⟩)
theorem Tr.HL(T:Tr V up rk M root){x y q:α}(h:Sd up x y q):¬Sd up y x q:=λg=>by
 rcases h with⟨z,B⟩|⟨z,B⟩ <;> rcases g with⟨D,E⟩|⟨D,E⟩
 .exact T.EJ z D
 .exact E B
 .exact B E
 exact T.EJ z D
theorem Tr.EK(T:Tr V up rk M root){x y:α}(h:Kq up x y):Sd up x y x:=by
 rcases h with h|h
 .exact .inl ⟨h,.refl _⟩
 refine .inr ⟨h,λz=>?_⟩;have:=T.le z;have:=T.lt _ _ h;omega
theorem Tr.de(T:Tr V up rk M root){x y:α}:Ed up K x y↔Kq up x y/\(∃q,K q/\Sd up x y q)/\∃q,K q/\Sd up y x q:=by
 constructor
 .rintro(⟨e,⟨q,z,D⟩,r,B,E⟩|⟨e,⟨q,z,D⟩,r,B,E⟩)
  .exact⟨.inl e,⟨q,z,.inl ⟨e,D⟩⟩,r,B,.inr ⟨e,E⟩⟩
  exact⟨.inr e,⟨r,B,.inr ⟨e,E⟩⟩,q,z,.inl ⟨e,D⟩⟩
 rintro⟨ad,⟨q,z,⟨e,D⟩|⟨e,J⟩⟩,r,B,⟨H,O⟩|⟨H,E⟩⟩
 .exact UU H (T.EJ e)
 .exact .inl ⟨e,⟨q,z,D⟩,r,B,E⟩
 .exact .inr ⟨e,⟨r,B,O⟩,q,z,J⟩
 exact UU H (T.EJ e)
theorem Tr.next(T:Tr V up rk M root){x y q:α}(J:q∈V)(h:Sd up x y q)(ne:q≠x):∃z,z≠y/\Kq up x z/\Sd up z x q/\∀r,Sd up z x r->Sd up x y r:=by
 rcases h with⟨e,a⟩|⟨e,n⟩
 .rcases a.pred with rfl|⟨c,B,ac⟩
  .exact UU rfl ne
  refine⟨c,λz=>?_,.inr B,.inl ⟨B,ac⟩,λr D=>?_⟩
  .subst z;exact T.EJ e B
  rcases D with⟨_,a⟩|⟨E,_⟩
  .exact .inl ⟨e,a.snoc B⟩
  exact UU E (T.EJ B)
 by_cases H:Ab up q x
 .rcases H.pred with rfl|⟨c,B,ac⟩
  .exact UU rfl ne
  refine⟨c,λz=>n (z▸ac),.inr B,.inl ⟨B,ac⟩,λr D=>?_⟩;rcases D with⟨_,a⟩|⟨E,_⟩
  .exact .inr ⟨e,λw=>n (T.LD a w B e▸ac)⟩
  exact UU E (T.EJ B)
 cases ex:up x with
 |none =>
  rw[T.rt x (T.pJ _ _ e).2 ex]at H;exact UU (T.wx _ q (O5 _) J) H
 |some p =>
  refine⟨p,λz=>?_,.inl ex,.inr ⟨ex,H⟩,λr D=>?_⟩
  .subst z;exact T.EJ ex e
  rcases D with⟨E,_⟩|⟨_,O⟩
  .exact UU E (T.EJ ex)
  exact .inr ⟨e,λw=>O (w.snoc e)⟩
theorem Tr.link(T:Tr V up rk M root)(KV:∀k,K k->k∈V){x y q:α}(B:K q)(h:Sd up x y q)(ne:q≠x)(H:∃r,K r/\Sd up y x r):∃z,z≠y/\Ed up K x z/\Sd up z x q:=by
 obtain⟨z,J,D,E,O⟩:=T.next (KV q B) h ne
 obtain⟨r,U,Z⟩:=H;refine⟨z,J,T.de.mpr ⟨D,⟨r,U,?_⟩,q,B,E⟩,E⟩;rcases T.CN D r with w|w
 .exact w
 exact UU (O r w) (T.HL Z)
theorem Tr.lF(T:Tr V up rk M root){x a b q:α}(B:Sd up a x q)(D:Sd up b x q):a=b:=by
 rcases B with⟨e,h⟩|⟨e,h⟩ <;> rcases D with⟨z,h'⟩|⟨z,h'⟩
 .exact T.LD h h' e z
 .exact UU (h.snoc e) h'
 .exact UU (h'.snoc z) h
 rw[e]at z;cases z;rfl
theorem Tr.Kr(T:Tr V up rk M root)(KV:∀k,K k->k∈V){e y:α}(B:K e)(D:K y)(ne:y≠e):∃z,Ed up K e z:=by
 by_cases c:Ab up y e
 .rcases c.pred with rfl|⟨d,E,ad⟩
  .exact UU rfl ne
  refine⟨d,.inr ⟨E,⟨y,D,ad⟩,e,B,λz=>?_⟩⟩;have:=T.le z;have:=T.lt _ _ E;omega
 cases ex:up e with
 |none =>
  rw[T.rt e (KV e B) ex]at c;exact UU (T.wx _ y (O5 _) (KV y D)) c
 |some p=>exact⟨p,.inl ⟨ex,⟨e,B,.refl _⟩,y,D,c⟩⟩
theorem Tr.conv(T:Tr V up rk M root){x z y b e r:α}(h1:Sd up z x y)(E:Sd up b y e)(H:¬Sd up z x e)(J:¬Sd up z x r):Sd up b y r:=by
 rcases h1 with⟨D,O⟩|⟨D,U⟩
 .have ne:¬Ab up e z:=λw=>H (.inl ⟨D,w⟩);have nr:¬Ab up r z:=λw=>J (.inl ⟨D,w⟩);rcases E with⟨B,ab⟩|⟨B,Z⟩
  .exact UU ((ab.snoc B).trans O) ne
  exact .inr ⟨B,λw=>nr (w.trans O)⟩
 have ae:Ab up e x:=O2 λw=>H (.inr ⟨D,w⟩);have ar:Ab up r x:=O2 λw=>J (.inr ⟨D,w⟩);rcases E with⟨B,ab⟩|⟨B,Z⟩
 .have xb:Ab up x b:=by
   rcases ab.cmp ae with w|w
   .cases w with
    |refl=>exact .refl _
    |step e1 w2=>rw[B]at e1;cases e1;exact UU w2 U
   exact w
  exact .inl ⟨B,ar.trans xb⟩
 refine .inr ⟨B,λw=>?_⟩;rcases w.cmp ar with v|v
 .exact U v
 exact Z (ae.trans v)
structure zS(E:α->α->Prop) (e:α) (us:List α):Prop where
 hd:us[0]?=Yl e
 Af:∀(i:Nat) (a b:α),us[i]?=Yl a->us[i+1]?=Yl b->E a b
 nd:us.Nodup
 Fz:∀u∈us,∀x y z,E u x->E u y->E u z->x=y\/y=z\/x=z
 d0:∀x y,E e x->E e y->x=y
 stop:∀p,us.getLast?=Yl p->(∀x,E p x->x∈us)\/∃x,x∉us/\E p x/\∃a b c,a≠b/\b≠c/\a≠c/\E x a/\E x b/\E x c
variable {e:α}{us:List α}
theorem zS.ix{E:α->α->Prop}(P:zS E e us){i j:Nat}{a:α}(z:us[i]?=Yl a)(B:us[j]?=Yl a):i=j:=(Qa (O1.mp z).1 P.nd).mp (z.trans B.symm)
theorem uT(T:Tr V up rk M root)(KV:∀k,K k->k∈V)(P:zS (Ed up K) e us):∀(i:Nat) (a b:α),us[i]?=Yl a->Ed up K a b->(∀j,j<=i->us[j]?≠Yl b)->(∀j c,1<=j->j<=i->us[j]?=Yl c->¬K c)->∀q,K q->Sd up a b q->q=e:=by
 intro i
 induction i with
 |zero =>
  intro a b B D nb no q E U;rw[P.hd]at B;cases B;refine O2 λne=>?_;obtain⟨_,_,r⟩:=T.de.mp D;obtain⟨z,Z,z2,_⟩:=T.link KV E U ne r;exact Z (P.d0 z b z2 D)
 |succ i ih =>
  intro a b B D nb no q E U;have hi:i<us.length:=by have:=(O1.mp B).1;omega
  have J:=OZ hi;generalize us[i]=O at J;have H:=P.Af i O a J B;have nk:=no (i+1) a (by omega) (O5 _) B;have ne:q≠a:=λz=>nk (z▸E);obtain⟨_,_,r⟩:=T.de.mp D;obtain⟨z,Z,z2,z3⟩:=T.link KV E U ne r;have nab:O≠b:=λw=>nb i (by omega) (by rw[J,w]);have za:z=O:=by
   rcases P.Fz a (Pk B) z O b z2 H.symm D with h|h|h
   .exact h
   .exact UU h nab
   exact UU h Z
  subst za;refine ih z a J H (λj hj w=>?_) (λj c h1 h2 h3=>no j c h1 (by omega) h3) q E z3;have:=P.ix w B;omega
theorem EL(T:Tr V up rk M root)(KV:∀k,K k->k∈V)(P:zS (Ed up K) e us)(he:K e){f:α}(hf:f∈us)(kf:K f)(nf:f≠e)(B:∀f,∃g,K g/\g≠e/\g≠f):∃y,(K y/\y≠e)/\(∃D E,D≠E/\Ed up K y D/\Ed up K y E)/\∀D E,Ed up (λk=>K k/\k≠e) y D->Ed up (λk=>K k/\k≠e) y E->D=E:=by
 obtain⟨j0,H⟩:=PF hf;have j01:1<=j0:=by
  by_cases z:j0=0
  .rw[z,P.hd]at H;cases H;exact UU rfl nf
  omega
 obtain⟨j,⟨j1,y,J,ky⟩,mn⟩:=r9 (P:=λj=>1<=j/\∃y,us[j]?=Yl y/\K y) j0 ⟨j01,f,H,kf⟩;obtain⟨i,rfl⟩:∃i,j=i+1:=⟨j-1,by omega⟩
 have hi:i<us.length:=by have:=(O1.mp J).1;omega
 have ea:=OZ hi;generalize us[i]=a at ea;have O:=P.Af i a y ea J;have side:=uT T KV P i a y ea O (λm hm w=>by have:=P.ix w J;omega) (λm c h1 h2 h3 kc=>by have:=mn m ⟨h1,c,h3,kc⟩;omega);have ye:y≠e:=λz=>by rw[z]at J;have:=P.ix J P.hd;omega
 have U:¬Ed up (λk=>K k/\k≠e) y a:=λw=>by
  obtain⟨_,_,q,⟨q1,q2⟩,q3⟩:=T.de.mp w;exact q2 (side q q1 q3)
 have mono:∀{x z:α},Ed up (λk=>K k/\k≠e) x z->Ed up K x z:=λ{x z} w=>by
  obtain⟨w1,⟨q,q1,q2⟩,r,r1,r2⟩:=T.de.mp w;exact T.de.mpr ⟨w1,⟨q,q1.1,q2⟩,r,r1.1,r2⟩
 refine⟨y,⟨ky,ye⟩,?_,λD E h1 h2=>?_⟩
 ·-- Z way on
  obtain⟨g,g1,g2,g3⟩:=B y;have ad:=(T.de.mp O).1;rcases T.CN ad g with s|s
  .exact UU (side g g1 s) g2
  obtain⟨_,q,_⟩:=T.de.mp O;obtain⟨z,z1,z2,_⟩:=T.link KV g1 s g3 q;exact⟨z,a,z1,z2,O.symm⟩
 rcases P.Fz y (Pk J) D E a (mono h1) (mono h2) O.symm with h|h|h
 .exact h
 .exact UU (h▸h2) U
 exact UU (h▸h1) U
theorem EM(T:Tr V up rk M root)(KV:∀k,K k->k∈V)(P:zS (Ed up K) e us)(he:K e){y:α}(hy:K y)(ye:y≠e)(two:∃Z b2,Z≠b2/\Ed up K y Z/\Ed up K y b2)(one:∀Z b2,Ed up (λk=>K k/\k≠e) y Z->Ed up (λk=>K k/\k≠e) y b2->Z=b2):∃f∈us,K f/\f≠e:=by
 refine O2 λnone=>?_;have no:∀(j:Nat) (c:α),1<=j->us[j]?=Yl c->¬K c:=λj c h1 h2 kc=>none ⟨c,Pk h2,kc,λz=>by rw[z]at h2;have:=P.ix h2 P.hd;omega⟩;have AY:us≠[]:=λz=>by have:=P.hd;rw[z]at this;cases this
 obtain⟨p,hp⟩:∃p,us.getLast?=Yl p:=⟨_,Si AY⟩
 have H:us[us.length-1]?=Yl p:=by rw[<-Qz];exact hp
 have lp:=Tt.mpr AY;have alone:∀b,Ed up K y b->¬Ed up (λk=>K k/\k≠e) y b->∀q,K q->Sd up b y q->q=e:=λb h1 h2 q hq sq=>O2 λne=>h2 (by
  obtain⟨ad,_,_⟩:=T.de.mp h1;exact T.de.mpr ⟨ad,⟨y,⟨hy,ye⟩,T.EK ad⟩,q,⟨hq,ne⟩,sq⟩)
 have has:∀b,Ed up K y b->∃q,K q/\Sd up b y q:=λb h=>(T.de.mp h).2.2;rcases P.stop p hp with st|⟨x,xn,ex,a1,a2,a3,E,J,O,x1,x2,x3⟩
 .by_cases l1:us.length=1
  .have:p=e:=by rw[l1,P.hd]at H;cases H;rfl
   subst this;obtain⟨z,hz⟩:=T.Kr KV he hy ye;have zu:=st z hz;obtain⟨m,hm,em⟩:=PB zu;have m0:m=0:=by omega
   subst m0;have:=P.hd;rw[OZ hm,em]at this;cases this;exact T.CM (T.de.mp hz).1 rfl
  -- Dg last thing aaL have a way on
  obtain⟨m,hm⟩:∃m,us.length=m+2:=⟨us.length-2,by omega⟩
  rw[show us.length-1=m+1 by omega]at H;have ea:=OZ (l:=us) (i:=m) (by omega);generalize us[m]'(by omega)=a at ea;have ed:=P.Af m a p ea H;have nk:=no (m+1) p (by omega) H;obtain⟨_,la,r,r1,r2⟩:=T.de.mp ed;obtain⟨z,z1,z2,_⟩:=T.link KV r1 r2 (λw=>nk (w▸r1)) la;have zu:=st z z2;obtain⟨j,U⟩:=PF zu;have jm:j≠m:=λw=>by rw[w,ea]at U;cases U;exact z1 rfl
  have jp:j≠m+1:=λw=>by rw[w,H]at U;cases U;exact T.CM (T.de.mp z2).1 rfl
  have jl:=(O1.mp U).1;have en:=OZ (l:=us) (i:=j+1) (by omega);generalize us[j+1]'(by omega)=c at en;have ec:=P.Af j z c U en;have cp:c≠p:=λw=>by rw[w]at en;have:=P.ix en H;omega
  by_cases j0:j=0
  .subst j0;rw[P.hd]at U;cases U;exact cp (P.d0 c p ec z2.symm)
  have eb:=OZ (l:=us) (i:=j-1) (by omega);generalize us[j-1]'(by omega)=d at eb;have ed':=P.Af (j-1) d z eb (by rw[show j-1+1=j by omega];exact U);have dp:d≠p:=λw=>by rw[w]at eb;have:=P.ix eb H;omega
  have dc:d≠c:=λw=>by rw[w]at eb;have:=P.ix eb en;omega
  rcases P.Fz z zu c d p ec ed'.symm z2.symm with w|w|w
  .exact dc w.symm
  .exact dp w
  exact cp w
 -- a LK of ac9 x
 have side:=uT T KV P (us.length-1) p x H ex (λj _ w=>xn (Pk w)) (λj c h1 _ h3=>no j c h1 h3);obtain⟨adx,⟨q0,k0,s0⟩,_⟩:=T.de.mp ex;have se:Sd up p x e:=by have:=side q0 k0 s0;subst this;exact s0
 by_cases xy:x=y
 .subst xy;have lost:∀b,Ed up K x b->¬Ed up (λk=>K k/\k≠e) x b->b=p:=λb h1 h2=>by
   obtain⟨q,q1,q2⟩:=has b h1;have:=alone b h1 h2 q q1 q2;subst this;exact T.lF q2 se
  by_cases D:Ed up (λk=>K k/\k≠e) x a1
  .by_cases B:Ed up (λk=>K k/\k≠e) x a2
   .exact E (one _ _ D B)
   by_cases c3:Ed up (λk=>K k/\k≠e) x a3
   .exact O (one _ _ D c3)
   exact J ((lost _ x2 B).trans (lost _ x3 c3).symm)
  by_cases B:Ed up (λk=>K k/\k≠e) x a2
  .by_cases c3:Ed up (λk=>K k/\k≠e) x a3
   .exact J (one _ _ B c3)
   exact O ((lost _ x1 D).trans (lost _ x3 c3).symm)
  exact E ((lost _ x1 D).trans (lost _ x2 B).symm)
 have yx:Sd up x p y:=by
  rcases T.CN adx y with w|w
  .exact UU (side y hy w) ye
  exact w
 obtain⟨z,zp,az,sz,_⟩:=T.next (KV y hy) yx (Ne.symm xy)
 obtain⟨w,wp,wz,xw⟩:∃w,w≠p/\w≠z/\Ed up K x w:=by
  by_cases D:a1=p\/a1=z
  .by_cases B:a2=p\/a2=z
   .refine⟨a3,λh=>?_,λh=>?_,x3⟩
    .rcases D with D|D <;> rcases B with B|B
     .exact E (D.trans B.symm)
     .exact O (D.trans h.symm)
     .exact J (B.trans h.symm)
     exact E (D.trans B.symm)
    rcases D with D|D <;> rcases B with B|B
    .exact E (D.trans B.symm)
    .exact J (B.trans h.symm)
    .exact O (D.trans h.symm)
    exact E (D.trans B.symm)
   exact⟨a2,λh=>B (.inl h),λh=>B (.inr h),x2⟩
  exact⟨a1,λh=>D (.inl h),λh=>D (.inr h),x1⟩
 obtain⟨_,_,r,r1,r2⟩:=T.de.mp xw;have re:r≠e:=λh=>by subst h;exact wp (T.lF r2 se)
 obtain⟨Z,b2,nb,e1,e2⟩:=two;obtain⟨b,hb,lb⟩:∃b,Ed up K y b/\¬Ed up (λk=>K k/\k≠e) y b:=by
  by_cases D:Ed up (λk=>K k/\k≠e) y Z
  .by_cases B:Ed up (λk=>K k/\k≠e) y b2
   .exact UU (one _ _ D B) nb
   exact⟨b2,e2,B⟩
  exact⟨Z,e1,D⟩
 obtain⟨q,q1,q2⟩:=has b hb;have qe:=alone b hb lb q q1 q2;subst qe;have:=T.conv sz q2 (λh=>zp (T.lF h se)) (λh=>wz (T.lF r2 h)) (r:=r)
 exact re (alone b hb lb r r1 this)
end
section
variable {α:Type}{V:List α}{E:α->α->Prop}{ι:α->Nd}{X:d5}
theorem CO{β:Type}{l:List β}(nd:l.Nodup)(h:¬l.length<=2):∃a b c,a≠b/\b≠c/\a≠c/\a∈l/\b∈l/\c∈l:=by
 match l,nd,h with
 |[],_,h=>exact UU (PQ _) h
 |[_],_,h=>exact UU (Rj 1) h
 |[_,_],_,h=>exact UU (O5 _) h
 |a::b::c::r,nd,_ =>
  obtain⟨B,nd⟩:=PX.mp nd;obtain⟨D,_⟩:=PX.mp nd;exact⟨a,b,c,λz=>B (by rw[z];simp),λz=>D (by rw[z];simp),λz=>B (by rw[z];simp),by simp,by simp,by simp⟩
theorem EN(O:fR X)(h:Rp X ι V E)(inj:∀a∈V,∀b∈V,ι a=ι b->a=b):∀(n:Nat) (vs:List α) (p:α) (J:List Nd),vs.getLast?=Yl p->Path X (vs.map ι)->(∀v∈vs,v∈V)->n+vs.length=X.length+1->(∀k,k∈J↔k∈cW X (ι p)/\k∉vs.map ι) ->
  ∃B:List α,sC X n (ι p) J (vs.map ι)=B.map ι/\B[0]?=vs[0]?/\(∀u∈B,u∈V)/\Path X (B.map ι)/\∀q,B.getLast?=Yl q->(∀x∈V,E q x->x∈B)\/∃x∈V,x∉B/\E q x/\¬(cW X (ι x)).length<=2:=by
 intro n
 induction n with
 |zero =>
  intro vs p J D P M hl;have:=P.len;rw[O0]at this;omega
 |succ n ih =>
  intro vs p J D P M hl Ny;have pV:p∈V:=M p (Te D);have mx:∀{x:α},x∈V->(ι x∈vs.map ι↔x∈vs):=λH=>Cz (inj:=inj) M H;have U:∀k,k∈J↔∃b∈V,k=ι b/\E p b/\b∉vs:=λk=>by
   rw[Ny,h.lk p pV];constructor
   .rintro⟨⟨b,Z,rfl,e⟩,q⟩;exact⟨b,Z,rfl,e,λz=>q ((mx Z).mpr z)⟩
   rintro⟨b,Z,rfl,e,q⟩;exact⟨⟨b,Z,rfl,e⟩,λz=>q ((mx Z).mp z)⟩
  cases eo:J with
  |nil =>
   refine⟨vs,rfl,rfl,M,P,λq hq=>.inl λx H ex=>O2 λnx=>?_⟩;rw[D]at hq;cases hq;have:=(U (ι x)).mpr ⟨x,H,rfl,ex,nx⟩;rw[eo]at this;exact UU this Pf
  |cons t r =>
   obtain⟨x,H,rfl,ex,nx⟩:=(U t).mp (by rw[eo];exact Pc);have kx:=(h.lk p pV (ι x)).mpr ⟨x,H,rfl,ex⟩;show∃B:List α,(if(cW X (ι x)).length<=2 then sC X n (ι x) ((cW X (ι x)).filter λl=>decide (l≠ι p)) (vs.map ι++[ι x])else vs.map ι)=B.map ι/\_;have Ks:ι x∉vs.map ι:=λz=>nx ((mx H).mp z);by_cases c:(cW X (ι x)).length<=2
   .rw[UQ c];have hp':(vs.map ι).getLast?=Yl (ι p):=by rw[R5,D];rfl
    have P2:Path X ((vs++[x]).map ι):=by
     rw[Pb];refine P.snoc O hp' kx (λq tA eq z=>Ks ?_) c;rw[z];exact Pk eq
    have h2:(vs++[x]).getLast?=Yl x:=by simp
    have hv2:∀v∈vs++[x],v∈V:=λv hm=>by
     rcases Pl.mp hm with hm|hm
     .exact M v hm
     rw[O3.mp hm];exact H
    have w1:∀k,k∈((cW X (ι x)).filter λl=>decide (l≠ι p))↔k∈cW X (ι x)/\k∉(vs++[x]).map ι:=λk=>by
     rw[O9,U5];constructor
     .rintro⟨k1,k2⟩;refine⟨k1,P2.new O (by rw[R5,h2];rfl) k1 λq tA eq=>?_⟩;rw[O0,O7,PM,show vs.length+1-2=vs.length-1 by omega,O6,Pg (by rw[O0,O7,PM]at tA;omega),<-Qz,D]at eq;cases eq;exact k2
     rintro⟨k1,k2⟩;refine⟨k1,λz=>k2 ?_⟩;rw[z];exact O4.mpr ⟨p,Px _ (Te D),rfl⟩
    obtain⟨B,g1,g2,g3⟩:=ih (vs++[x]) x _ h2 P2 hv2 (by rw[O7,PM];omega) w1;rw[Pb]at g1;refine⟨B,g1,?_,g3⟩;rw[g2];cases vs with
    |nil=>cases D
    |cons y r=>rfl
   rw[UO c];refine⟨vs,rfl,rfl,M,P,λq hq=>.inr ?_⟩;rw[D]at hq;cases hq;exact⟨x,H,nx,ex,c⟩
theorem HM(O:fR X)(h:Rp X ι V E)(D:∀a b,E a b->a∈V/\b∈V)(inj:∀a∈V,∀b∈V,ι a=ι b->a=b){e:α}(he:e∈V)(hk:ι e∈bb X)(hd:(cW X (ι e)).length<=1):∃H:List α,dI X (ι e)=H.map ι/\(∀u∈H,u∈V)/\zS E e H:=by
 have P:Path X ([e].map ι):=by
  refine⟨by simp,λv J=>?_,λi a b U M=>?_,λv J=>?_,λa ha=>?_⟩
  .rw[O3.mp J];exact hk
  .simp at M
  .rw[O3.mp J];omega
  cases ha;exact hd
 obtain⟨H,g1,g2,Z,g4,g5⟩:=EN O h inj X.length [e] e (cW X (ι e)) rfl P (λv J=>by rw[O3.mp J];exact he) rfl (λk=>⟨λq=>⟨q,λz=>by rw[List.map_singleton,O3]at z;rw[z]at q;exact O.wj _ q⟩,λq=>q.1⟩);have lk:∀{a b:α},E a b->ι b∈cW X (ι a):=λ{a b} w=>(h.lk a (D a b w).1 _).mpr ⟨b,(D a b w).2,rfl,w⟩;have B:∀{a b c:α},E a b->E a c->ι b=ι c->b=c:=λ{a b c} w1 w2 z=>inj b (D a b w1).2 c (D a c w2).2 z;refine⟨H,g1,Z,⟨g2,λi a b U M=>?_,?_,λu hu x y z e1 e2 e3=>?_,λx y e1 e2=>?_,λp hp=>?_⟩⟩
 .have ka:=Z a (Pk U);have kb:=Z b (Pk M);obtain⟨b',Kt,z,w⟩:=(h.lk a ka _).mp (g4.Af i (ι a) (ι b) (by rw[O6,U];rfl) (by rw[O6,M];rfl));rw[inj b kb b' Kt z];exact w
 .have:=g4.nd;unfold List.Nodup at this⊢;rw[PD]at this;exact this.imp λn z=>n (by rw[z])
 .refine O2 λno=>?_;have n1:ι x≠ι y:=λw=>no (.inl (B e1 e2 w));have n2:ι y≠ι z:=λw=>no (.inr (.inl (B e2 e3 w)));have n3:ι x≠ι z:=λw=>no (.inr (.inr (B e1 e3 w)));exact wk (lk e1) (lk e2) (lk e3) (g4.Fz _ (O4.mpr ⟨u,hu,rfl⟩)) n1 n3 n2
 .exact B e1 e2 (Ca (lk e1) (lk e2) hd)
 rcases g5 p hp with w|⟨x,hx,nx,ex,c⟩
 .exact .inl λx ex=>w x (D p x ex).2 ex
 obtain⟨k1,k2,k3,n12,n23,n13,m1,m2,m3⟩:=CO (O.B9 (ι x)) c;obtain⟨b1,hb1,rfl,e1⟩:=(h.lk x hx _).mp m1;obtain⟨b2,LB,rfl,e2⟩:=(h.lk x hx _).mp m2;obtain⟨b3,hb3,rfl,e3⟩:=(h.lk x hx _).mp m3;exact .inr ⟨x,nx,ex,b1,b2,b3,λz=>n12 (by rw[z]),λz=>n23 (by rw[z]),λz=>n13 (by rw[z]),e1,e2,e3⟩
end
section
variable {rs:List Int}
def ro(rs:List Int)(K:a7->Prop)(p:a7):Prop:=∀z B,Ed (UT rs) (FF K) (.inl p) z->Ed (UT rs) (FF K) (.inl p) B->z=B
theorem yq(fit:aR rs):rn rs (·∈KN rs):=λp z=>⟨uQ z,((uS fit).mp z).1⟩
theorem sN(fit:aR rs){p:a7}(E:p∈KN rs):(cW (cC rs) (pN p)).length<=1↔ro rs (·∈KN rs) p:=by
 obtain⟨root,T⟩:=pj fit;have C:=bD (c8 fit).p;have R:=(sM fit).1;have z:(.inl p:jD)∈VT rs:=mI _ ⟨p,E,rfl⟩;have lk:∀{b:jD},LI rs (.inl p) b->gI (CH rs) b∈cW (cC rs) (pN p):=λ{b} w=>(R.lk _ z _).mpr ⟨b,(Ed.pJ T w).2,rfl,w⟩;constructor
 .intro h B D e1 e2;have e1:LI rs (.inl p) B:=e1;have e2:LI rs (.inl p) D:=e2;exact sJ C B (Ed.pJ T e1).2 D (Ed.pJ T e2).2 (Ca (lk e1) (lk e2) h)
 intro h;refine O2 λc=>?_;have nd:=R.nd _ z;have nd:(cW (cC rs) (pN p)).Nodup:=nd
 match l:cW (cC rs) (pN p),nd,c with
 |[],_,c=>exact c (PQ _)
 |[_],_,c=>exact c (O5 _)
 |x::y::r,nd,_ =>
  obtain⟨B,U,H,J⟩:=(R.lk _ z x).mp (show x∈cW (cC rs) (pN p) by rw[l];simp);obtain⟨D,V,M,O⟩:=(R.lk _ z y).mp (show y∈cW (cC rs) (pN p) by rw[l];simp);have:=h B D J O;subst this;exact(PX.mp nd).1 (by rw[H,<-M];simp)
noncomputable def zT(rs:List Int)(e:a7):Nat:=((dI (cC rs) (pN e)).filter λk=>decide (k∈(KN rs).map pN)).length
theorem EO(fit:aR rs){e:a7}(E:e∈KN rs)(hd:ro rs (·∈KN rs) e)(B:∀f,∃g∈KN rs,g≠e/\g≠f):zT rs e=1↔¬ ∃y,(y∈KN rs/\y≠e)/\¬ro rs (·∈KN rs) y/\ro rs (λk=>k∈KN rs/\k≠e) y:=by
 obtain⟨root,T⟩:=pj fit;have C:=bD (c8 fit).p;obtain⟨O,_,_⟩:=sI fit;have eV:(.inl e:jD)∈VT rs:=mI _ ⟨e,E,rfl⟩;obtain⟨D,u1,u2,P⟩:=HM O (sM fit).1 (λa b w=>Ed.pJ T w) (sJ C) eV ((sM fit).2 e E) (show(cW (cC rs) (pN e)).length<=1 from(sN fit E).mpr hd);have u1:dI (cC rs) (pN e)=D.map (gI (CH rs)):=u1;have Z:∀a∈D,(decide (gI (CH rs) a∈(KN rs).map pN)=true↔sL (KN rs) a):=λa ha=>by rw[U5];exact(wD fit a (u2 a ha)).symm
 have cnt:zT rs e=1↔∀f∈D,sL (KN rs) f->f=.inl e:=by
  unfold zT;rw[u1,Ss,O0];have Ku:=P.hd;have me:(.inl e:jD)∈D:=Pk Ku;have fe:(.inl e:jD)∈D.filter ((λk=>decide (k∈(KN rs).map pN)) ∘ gI (CH rs)):=O9.mpr ⟨me,(Z _ me).mpr ⟨e,E,rfl⟩⟩;constructor
  .intro h f H U;have ff:f∈D.filter ((λk=>decide (k∈(KN rs).map pN)) ∘ gI (CH rs)):=O9.mpr ⟨H,(Z f H).mpr U⟩;obtain⟨x,hx⟩:=SX.mp h;rw[hx]at fe ff;rw[O3.mp fe,O3.mp ff]
  intro h;have nd:(D.filter ((λk=>decide (k∈(KN rs).map pN)) ∘ gI (CH rs))).Nodup:=P.nd.sublist PY
  match l:D.filter ((λk=>decide (k∈(KN rs).map pN)) ∘ gI (CH rs)),nd with
  |[],_=>rw[l]at fe;exact UU fe Pf
  |[_],_=>rfl
  |x::y::r,nd =>
   have hx:x∈D.filter ((λk=>decide (k∈(KN rs).map pN)) ∘ gI (CH rs)):=by rw[l];simp
   have hy:y∈D.filter ((λk=>decide (k∈(KN rs).map pN)) ∘ gI (CH rs)):=by rw[l];simp
   obtain⟨x1,x2⟩:=O9.mp hx;obtain⟨y1,y2⟩:=O9.mp hy;have ex:=h x x1 ((Z x x1).mp x2);have ey:=h y y1 ((Z y y1).mp y2);exact UU (show x∈y::r by rw[ex,<-ey];simp) (PX.mp nd).1
 have BW:(λk:jD=>sL (KN rs) k/\k≠.inl e)=FF (λk=>k∈KN rs/\k≠e):=by
  funext k;apply propext;constructor
  .rintro⟨⟨p,V,rfl⟩,ne⟩;exact⟨p,⟨V,λz=>ne (by rw[z])⟩,rfl⟩
  rintro⟨p,⟨V,ne⟩,rfl⟩;exact⟨⟨p,V,rfl⟩,λz=>ne (by injection z)⟩
 rw[cnt];constructor
 .rintro h ⟨y,⟨y1,y2⟩,y3,y4⟩;have two:∃J M,J≠M/\Ed (UT rs) (sL (KN rs)) (.inl y) J/\Ed (UT rs) (sL (KN rs)) (.inl y) M:=O2 λno=>y3 λJ M e1 e2=>O2 λne=>no ⟨J,M,ne,e1,e2⟩;obtain⟨f,H,U,nf⟩:=EM T mI P ⟨e,E,rfl⟩ (y:=.inl y) ⟨y,y1,rfl⟩ (λz=>y2 (by injection z)) two (by rw[BW];exact y4);exact nf (h f H U)
 intro h f H U;refine O2 λnf=>h ?_;obtain⟨y,⟨⟨p,V,rfl⟩,ye⟩,two,one⟩:=EL T mI P ⟨e,E,rfl⟩ H U nf (λf=>by
  cases f with
  |inl p =>
   obtain⟨g,g1,g2,g3⟩:=B p;exact⟨.inl g,⟨g,g1,rfl⟩,λz=>g2 (by injection z),λz=>g3 (by injection z)⟩
  |inr q =>
   obtain⟨g,g1,g2,_⟩:=B e;exact⟨.inl g,⟨g,g1,rfl⟩,λz=>g2 (by injection z),λz=>by cases z⟩)
 rw[BW]at one;obtain⟨J,M,nb,e1,e2⟩:=two;exact⟨p,⟨V,λz=>ye (by rw[z])⟩,λw=>nb (w J M e1 e2),one⟩
end
section
variable {rs:List Int}{K:a7->Prop}{f:Nat->Int}
theorem mK(fit:aR rs){p:a7}:p∈bH (cC rs) (KN rs)↔p∈KN rs/\ro rs (·∈KN rs) p:=by
 unfold bH;rw[O9,Qn,U5,U5];constructor
 .rintro⟨z,_,B⟩;exact⟨z,(sN fit z).mp B⟩
 rintro⟨z,D⟩;exact⟨z,(sM fit).2 p z,(sN fit z).mpr D⟩
end
end aC
namespace Hp
open Classical PySem L2 NK aC
noncomputable def CP(rs:List Int)(K:a7->Prop)(y:Nat):Option a7:=if vt rs K y then some (ow (aj rs) y)else none
noncomputable abbrev nV(rs:List Int):Nat->Option a7:=CP rs (·∈KN rs)
section
variable {rs:List Int}{K:a7->Prop}{p:a7}
theorem aO{y:Nat}:CP rs K y=Yl p↔vt rs K y/\ow (aj rs) y=p:=by
 unfold CP
 split
 .rename_i h;exact⟨λe=>⟨h,Option.some.inj e⟩,λe=>by rw[e.2]⟩
 rename_i h;exact⟨λe=>by(cases e),λe=>UU e.1 h⟩
theorem HN(y:Nat)(h:CP rs K y≠none):y<rs.length+1:=by
 unfold CP at h
 split at h
 .rename_i g;exact g.1
 exact UU rfl h
theorem Kv:Alt (CP rs K) p↔EG rs K p:=by
 constructor
 .rintro⟨x,y,q,q',hx,hy,D,E,a,b,ha,hb,H,U⟩;obtain⟨J,rfl⟩:=aO.mp hx;obtain⟨M,rfl⟩:=aO.mp hy;obtain⟨la,ea⟩:=aO.mp ha;obtain⟨O,V⟩:=aO.mp hb;have Z:b≠x:=λe=>D (by rw[<-e];exact V);have B:b≠y:=λe=>E (by rw[<-e];exact V);have key:∀x y:Nat,x<y->vt rs K x->vt rs K y->ow (aj rs) x≠p->ow (aj rs) y≠p->b≠x->b≠y->Bt x y a->¬Bt x y b->EG rs K p:=λx y Hi J M D E Z B H U=>by
   unfold Bt at H U;by_cases c:b<x
   .exact⟨b,x,a,y,c,by omega,by omega,O,J,la,M,.inl ⟨V,D,ea,E⟩⟩
   exact⟨x,a,y,b,by omega,by omega,by omega,J,la,M,O,.inr ⟨D,ea,E,V⟩⟩
  by_cases c:x<y
  .exact key x y c J M D E Z B H U
  refine key y x ?_ M J E D B Z (cg.mp H) λz=>U (cg.mp z);unfold Bt at H;omega
 rintro⟨y1,y2,y3,y4,h1,h2,h3,l1,O,l3,l4,⟨e1,e2,e3,e4⟩|⟨e1,e2,e3,e4⟩⟩
 .exact⟨y2,y4,_,_,aO.mpr ⟨O,rfl⟩,aO.mpr ⟨l4,rfl⟩,e2,e4,y3,y1,aO.mpr ⟨l3,e3⟩,aO.mpr ⟨l1,e1⟩,by unfold Bt;omega,by unfold Bt;omega⟩
 exact⟨y1,y3,_,_,aO.mpr ⟨l1,rfl⟩,aO.mpr ⟨l3,rfl⟩,e1,e3,y2,y4,aO.mpr ⟨O,e2⟩,aO.mpr ⟨l4,e4⟩,by unfold Bt;omega,by unfold Bt;omega⟩
theorem jv(fit:aR rs)(D:rn rs K)(E:K p):Alt (CP rs K) p↔¬ro rs K p:=by
 rw[Kv,EI fit D E];constructor
 .rintro⟨z,B,ne,e1,e2⟩ h;exact ne (h z B e1 e2)
 intro h;exact O2 λno=>h λz B e1 e2=>O2 λne=>no ⟨z,B,ne,e1,e2⟩
theorem gU(fit:aR rs):Fi (nV rs) p↔p∈KN rs:=by
 constructor
 .rintro⟨y,B⟩;obtain⟨l,rfl⟩:=aO.mp B;exact l.2.2
 intro h;obtain⟨y,D,E,z⟩:=(yq fit p h).2;exact⟨y,aO.mpr ⟨⟨D,E,by rw[z];exact h⟩,z⟩⟩
theorem FH{e:a7}:del (CP rs K) e=CP rs λk=>K k/\k≠e:=by
 funext y;unfold del CP vt;by_cases h:y<rs.length+1/\isOpen (aj rs) y=true/\K (ow (aj rs) y)
 .rw[UQ h];by_cases z:ow (aj rs) y=e
  .rw[UQ (by rw[z]),UO λw=>w.2.2.2 z]
  rw[UO λw=>z (Option.some.inj w),UQ ⟨h.1,h.2.1,h.2.2,z⟩]
 rw[UO h,UO (by simp),UO λw=>h ⟨w.1,w.2.1,w.2.2.1⟩]
theorem Nz(fit:aR rs):NC (CP rs K):=by
 have key:∀a b c d:Nat,a<rs.length+1->b<rs.length+1->c<rs.length+1->d<rs.length+1->ow (aj rs) a=ow (aj rs) b->ow (aj rs) c=ow (aj rs) d->ow (aj rs) a≠ow (aj rs) c->a<c->c<b->a<d/\d<b:=λa b c d J M O hd e1 e2 ne h1 h2=>by
  have L:=(c8 fit).p;have D:=dA fit J;have E:=dA fit M;have B:=dA fit O;have U:=dA fit hd;rw[<-e1]at E;rw[<-e2]at U;have:=D.lo;have:=E.hi;have:=B.lo;have:=B.hi;have:=U.lo;have:=U.hi;have:=D.hi;have:=E.lo;have i1:=B.qU L D.kin (by omega) (by omega) (Ne.symm ne);have a':(a:Int)<(ow (aj rs) c).1:=Uo λz=>by
   have:=D.qU L B.kin (by omega) (by omega) ne;have:=this.1;have:=i1.1;omega
  have b':(ow (aj rs) c).2<=(b:Int):=Up λz=>by
   have:=E.qU L B.kin (by omega) (by omega) ne;have:=this.1;have:=i1.1;omega
  omega
 intro a b c d p q ne J M O hd h;obtain⟨la,V⟩:=aO.mp J;obtain⟨l2,Z⟩:=aO.mp M;obtain⟨lc,H⟩:=aO.mp O;obtain⟨ld,ed⟩:=aO.mp hd;rcases h with h|h
 .exact .inl (key a b c d la.1 l2.1 lc.1 ld.1 (by rw[V,Z]) (by rw[H,ed]) (by rw[V,H];exact ne) h.1 h.2)
 exact .inr (key b a c d l2.1 la.1 lc.1 ld.1 (by rw[V,Z]) (by rw[H,ed]) (by rw[Z,H];exact ne) h.1 h.2)
theorem yr(fit:aR rs):∃hs,Iw (nV rs) hs/\cY (bV rs)=((cs (nV rs) hs:Nat):Int):=by
 have G:=yq fit;have D:(bH (cC rs) (KN rs)).Nodup:=by
  unfold bH;exact(o6 (o8 fit).1).sublist PY
 have Z:(bV rs).length=(bH (cC rs) (KN rs)).length:=by unfold bV;rw[O0]
 refine⟨bH (cC rs) (KN rs),⟨D,λp=>?_⟩,?_⟩
 .rw[mK fit];unfold GQ;rw[gU fit];constructor
  .rintro⟨H,M⟩;exact⟨H,λz=>(jv fit G H).mp z M⟩
  rintro⟨H,M⟩;exact⟨H,O2 λz=>M ((jv fit G H).mpr z)⟩
 unfold cY cs;rw[Z];by_cases c:(bH (cC rs) (KN rs)).length%2=1/\1<(bH (cC rs) (KN rs)).length
 .have J:∀e∈bH (cC rs) (KN rs),∀g,∃q∈KN rs,q≠e/\q≠g:=λe B g=>O2 λno=>by
   have:=bY (xs:=bH (cC rs) (KN rs)) (ys:=[e,g]) D λq hq=>O2 λz=>no ⟨q,((mK fit).mp hq).1,λw=>z (by rw[w];simp),λw=>z (by rw[w];simp)⟩;have:(bH (cC rs) (KN rs)).length<=2:=this;omega
  have legs:((1:Int)∉bV rs)↔∀e∈bH (cC rs) (KN rs),Lz (nV rs) e:=by
   have O:∀e∈bH (cC rs) (KN rs),(zT rs e=1↔¬Lz (nV rs) e):=λe B=>by
    obtain⟨H,M⟩:=(mK fit).mp B;rw[EO fit H M (J e B)];have U:rn rs (λk=>k∈KN rs/\k≠e):=λp hp=>G p hp.1;refine not_congr ⟨?_,?_⟩
    .rintro⟨y,E,n,o⟩;exact⟨y,E.2,(gU fit).mpr E.1,(jv fit G E.1).mpr n,by rw[FH];exactλz=>(jv fit U E).mp z o⟩
    rintro⟨y,V,oy,al,na⟩;have E:=(gU fit).mp oy;rw[FH]at na;exact⟨y,⟨E,V⟩,(jv fit G E).mp al,O2 λz=>na ((jv fit U ⟨E,V⟩).mpr z)⟩
   unfold bV;rw[O4];constructor
   .intro h e B;refine O2 λz=>h ⟨e,B,?_⟩;have:=(O e B).mpr z;show((zT rs e:Nat):Int)=1;omega
   rintro h ⟨e,B,z⟩;have z:((zT rs e:Nat):Int)=1:=z;exact(O e B).mp (by omega) (h e B)
  by_cases d:(1:Int)∉bV rs
  .rw[UQ ⟨c.1,c.2,d⟩,UQ ⟨c.1,c.2,legs.mp d⟩];omega
  rw[UO λz=>d z.2.2,UO λz=>d (legs.mpr z.2.2)]
 rw[UO λz=>c ⟨z.1,z.2.1⟩,UO λz=>c ⟨z.1,z.2.1⟩]
end
def In(f l x:Nat):Prop:=2*f<x/\x<=2*l+2
noncomputable def pi(f l x:Nat):Nat:=if 2*f<x/\x<=2*l+2 then 2*f+2*l+3-x else x
section
variable {rs:List Int}{f l k m:Nat}
theorem yt(fit:aR rs)(E:f<=l)(H:l<rs.length)(U:k<rs.length+2):bf (aw rs f l) k=(if f<bf rs k/\bf rs k<=l+1 then f+l+2-bf rs k else bf rs k)/\(f<bf rs k/\bf rs k<=l+1->((aj (aw rs f l)).getD (bf (aw rs f l) k) 0<0↔¬(aj rs).getD (bf rs k) 0<0))/\(¬(f<bf rs k/\bf rs k<=l+1)->(aj (aw rs f l)).getD (bf (aw rs f l) k) 0=(aj rs).getD (bf rs k) 0):=by
 obtain⟨J,M⟩:=bw fit U;have B:=aM fit E H;have O:=aG rs f l;by_cases c:f<bf rs k/\bf rs k<=l+1
 .have e:=kP (p:=f+l+2-bf rs k) E H (by omega);rw[UQ (by omega),show f+l+2-(f+l+2-bf rs k)=bf rs k by omega]at e;have V:=fu fit (p:=bf rs k) (by omega) J;have D:bf (aw rs f l) k=f+l+2-bf rs k:=dz B (by rw[O];omega) (by rw[e,iH];exact M);rw[UQ c];refine⟨D,λ_=>?_,λz=>UU c z⟩;rw[D,e];omega
 have e:=kP (p:=bf rs k) E H J;rw[UO c]at e;have D:bf (aw rs f l) k=bf rs k:=dz B (by rw[O];omega) (by rw[e];exact M);rw[UO c];exact⟨D,λz=>UU z c,λ_=>by rw[D,e]⟩
theorem fj{x:Nat}(h:In f l x):pi f l x=2*f+2*l+3-x:=UQ h
theorem d9{x:Nat}(h:¬In f l x):pi f l x=x:=UO h
theorem CQ{p:Nat}(h:f<p/\p<=l+1):pi f l (2*p)=2*(f+l+2-p)-1/\pi f l (2*p-1)=2*(f+l+2-p):=by
 rw[fj ⟨by omega,by omega⟩,fj ⟨by omega,by omega⟩];omega
theorem yu{p:Nat}(h:¬(f<p/\p<=l+1)):pi f l (2*p)=2*p/\pi f l (2*p-1)=2*p-1:=by
 rw[d9 λz=>h ⟨by have:=z.1;omega,by have:=z.2;omega⟩,d9 λz=>h ⟨by have:=z.1;omega,by have:=z.2;omega⟩];exact⟨rfl,rfl⟩
theorem gf(fit:aR rs)(H:f<=l)(J:l<rs.length)(M:k<rs.length+1):pA (aw rs f l) k=pi f l (pA rs k):=by
 obtain⟨B,D,E⟩:=yt fit H J (TV M);by_cases c:f<bf rs k/\bf rs k<=l+1
 .have D:=D c;obtain⟨e1,e2⟩:=CQ c;rw[UQ c]at B;unfold pA;by_cases s:(aj rs).getD (bf rs k) 0<0
  .rw[UO λz=>D.mp z s,UQ s,B,e2]
  rw[UQ (D.mpr s),UO s,B,e1]
 have E:=E c;obtain⟨e1,e2⟩:=yu c;rw[UO c]at B;unfold pA;rw[E,B]
 split
 .exact e2.symm
 exact e1.symm
theorem gg(fit:aR rs)(H:f<=l)(J:l<rs.length)(M:k<rs.length+1):pB (aw rs f l) k=pi f l (pB rs k):=by
 obtain⟨B,D,E⟩:=yt fit H J (Nat.succ_lt_succ M);by_cases c:f<bf rs (k+1)/\bf rs (k+1)<=l+1
 .have D:=D c;obtain⟨e1,e2⟩:=CQ c;rw[UQ c]at B;unfold pB;by_cases s:(aj rs).getD (bf rs (k+1)) 0<0
  .rw[UO λz=>D.mp z s,UQ s,B,e1]
  rw[UQ (D.mpr s),UO s,B,e2]
 have E:=E c;obtain⟨e1,e2⟩:=yu c;rw[UO c]at B;unfold pB;rw[E,B]
 split
 .exact e1.symm
 exact e2.symm
def Ev(rs:List Int)(k:Nat):Prop:=(pA rs k+pB rs k)%2=1
theorem FI(fit:aR rs)(B:k<rs.length+1):(uR rs k↔uR rs (k+1))↔Ev rs k:=by
 have pp:=mB fit (k:=k) (by omega);unfold Ev pA pB uR;by_cases s:(aj rs).getD (bf rs k) 0<0
 .have:=bM (bw fit (show k<rs.length+2 by omega)).1 s;rw[UQ s];by_cases t:(aj rs).getD (bf rs (k+1)) 0<0
  .rw[UQ t];exact⟨λ_=>by omega,λ_=>⟨λ_=>t,λ_=>s⟩⟩
  rw[UO t];exact⟨λz=>UU (z.mp s) t,λz=>by omega⟩
 rw[UO s];by_cases t:(aj rs).getD (bf rs (k+1)) 0<0
 .rw[UQ t];exact⟨λz=>UU (z.mpr t) s,λz=>by omega⟩
 rw[UO t];exact⟨λ_=>by omega,λ_=>⟨λz=>UU z s,λz=>UU z t⟩⟩
def X(rs:List Int)(f l k:Nat):Prop:=In f l (pA rs k)↔¬In f l (pB rs k)
theorem yv{x:Nat}(z:f<=l):In f l (pi f l x)↔In f l x:=by
 by_cases c:In f l x
 .rw[fj c];exact⟨λ_=>c,λ_=>⟨by have:=c.2;omega,by have:=c.1;omega⟩⟩
 rw[d9 c]
theorem FJ{x:Nat}(B:f<=l):pi f l (pi f l x)=x:=by
 by_cases c:In f l x
 .rw[fj ((yv B).mpr c),fj c];have:=c.2;omega
 rw[d9 λz=>c ((yv B).mp z),d9 c]
theorem sO(fit:aR rs)(z:f<=l)(B:l<rs.length)(D:k<rs.length+1):X (aw rs f l) f l k↔X rs f l k:=by
 unfold X;rw[gf fit z B D,gg fit z B D,yv z,yv z]
theorem wF{x:Nat}(h:In f l x):(pi f l x+x)%2=1:=by
 rw[fj h];have:=h.2;omega
theorem Kw{a b:Nat}:(pi f l a+pi f l b)%2=1↔((a+b)%2=1↔¬(In f l a↔¬In f l b)):=by
 by_cases D:In f l a
 .have p:=wF D;by_cases B:In f l b
  .have q:=wF B;generalize pi f l a=E at *;generalize pi f l b=H at *;have n:¬(In f l a↔¬In f l b):=λz=>z.mp D B;exact⟨λh=>⟨λ_=>n,λ_=>by omega⟩,λh=>by have:=h.mpr n;omega⟩
  rw[d9 B];generalize pi f l a=E at *;have n:(In f l a↔¬In f l b):=⟨λ_=>B,λ_=>D⟩
  exact⟨λh=>⟨λz=>by omega,λz=>UU n z⟩,λh=>by have:¬(a+b)%2=1:=λz=>h.mp z n;omega⟩
 rw[d9 D];by_cases B:In f l b
 .have q:=wF B;generalize pi f l b=H at *;have n:(In f l a↔¬In f l b):=⟨λz=>UU z D,λz=>UU B z⟩
  exact⟨λh=>⟨λz=>by omega,λz=>UU n z⟩,λh=>by have:¬(a+b)%2=1:=λz=>h.mp z n;omega⟩
 rw[d9 B];have n:¬(In f l a↔¬In f l b):=λz=>D (z.mpr B);exact⟨λh=>⟨λ_=>n,λ_=>h⟩,λh=>h.mpr n⟩
theorem jw(fit:aR rs)(z:f<=l)(B:l<rs.length)(D:k<rs.length+1):Ev (aw rs f l) k↔(Ev rs k↔¬X rs f l k):=by
 unfold Ev;rw[gf fit z B D,gg fit z B D];exact Kw
theorem yw{a b c d:Nat}(p:a<b)(q:c<d)(H:a≠c)(J:b≠d)(M:b≠c):((a<c/\c<b/\b<d)\/(c<a/\a<d/\d<b))↔(Bt a b c↔¬Bt a b d):=by
 rw[jR p,jR p];constructor
 .rintro(⟨D,B,E⟩|⟨D,B,E⟩)
  .exact⟨λ_ z=>by omega,λ_=>⟨D,B⟩⟩
  exact⟨λz=>by omega,λz=>UU ⟨B,E⟩ z⟩
 intro h;by_cases z:a<c/\c<b
 .have w:=h.mp z;exact .inl ⟨z.1,z.2,O2 λy=>w ⟨by omega,by omega⟩⟩
 have w:=O2 λy=>z (h.mpr y);exact .inr ⟨O2 λy=>z ⟨by omega,by omega⟩,w⟩
theorem Kx{a b c d:Nat}(H:a≠b)(D:a≠c)(E:a≠d)(z:b≠c)(B:b≠d)(J:c≠d):((min a b<min c d/\min c d<max a b/\max a b<max c d)\/(min c d<min a b/\min a b<max c d/\max c d<max a b))↔(Bt a b c↔¬Bt a b d):=by
 have key:∀{a b:Nat},a≠c->a≠d->b≠c->b≠d->a<b->(((a<min c d/\min c d<b/\b<max c d)\/(min c d<a/\a<max c d/\max c d<b))↔(Bt a b c↔¬Bt a b d)):=λ{a b} D E z B p=>by
  rcases QP J with q|q
  .rw[Uy (Qo q),Ru (Qo q)];exact yw p q D B z
  rw[Uq (Qo q),S3 (Qo q),yw p q E z B];rw[xr,xr];exact not_congr ⟨Iff.symm,Iff.symm⟩
 rcases QP H with p|p
 .rw[Uy (Qo p),Ru (Qo p)];exact key D E z B p
 rw[Uq (Qo p),S3 (Qo p),@cg a b c,@cg a b d];exact key z B D E p
theorem sP(fit:aR rs)(z:k<rs.length+1)(B:m<rs.length+1)(ne:k≠m):jB rs k m↔(Bt (pA rs k) (pB rs k) (pA rs m)↔¬Bt (pA rs k) (pB rs k) (pB rs m)):=
 Kx (eO fit z z) (λe=>ne (rW fit z B e)) (eO fit z B) (Ne.symm (eO fit B z)) (λe=>ne (rX fit z B e)) (eO fit B B)
theorem yy{a c:Nat}(E:f<=l)(ne:a≠c):pi f l a<pi f l c↔(a<c↔¬(In f l a/\In f l c)):=by
 by_cases b:In f l a/\In f l c
 .obtain⟨D,B⟩:=b;have e:pi f l a<pi f l c↔¬a<c:=by
   rw[fj D,fj B];have:=D.2;have:=B.2;omega
  rw[e];exact⟨λh=>⟨λz=>UU z h,λz=>UU ⟨D,B⟩ z⟩,λh z=>h.mp z ⟨D,B⟩⟩
 have e:pi f l a<pi f l c↔a<c:=by
  by_cases D:In f l a
  .have B:¬In f l c:=λz=>b ⟨D,z⟩;rw[fj D,d9 B];unfold In at D B;omega
  rw[d9 D];by_cases B:In f l c
  .rw[fj B];unfold In at D B;omega
  rw[d9 B]
 rw[e];exact⟨λh=>⟨λ_=>b,λ_=>h⟩,λh=>h.mpr b⟩
theorem uU{a c:Nat}(z:f<=l)(ne:a≠c):pi f l a≠pi f l c:=λe=>ne (by rw[<-FJ z (x:=a),e,FJ z])
theorem NA{p q r s a b c d:Prop}:(((p↔¬(a/\c))↔¬(q↔¬(b/\c)))↔¬((r↔¬(a/\d))↔¬(s↔¬(b/\d))))↔(((p↔¬q)↔¬(r↔¬s))↔¬((a↔¬b)/\(c↔¬d))):=by
 by_cases z:a <;> by_cases B:b <;> by_cases D:c <;> by_cases hd:d <;> simp only[z,B,D,hd,and_self,and_true,true_and,and_false,false_and,not_true_eq_false,not_false_eq_true,iff_true,iff_false,true_iff,false_iff] <;> by_cases E:p <;> by_cases H:q <;> by_cases J:r <;> by_cases hs:s <;> simp[E,H,J,hs]
theorem Ky{a b c d:Nat}(z:f<=l)(J:a≠b)(B:a≠c)(D:a≠d)(E:b≠c)(H:b≠d)(M:c≠d):(Bt (pi f l a) (pi f l b) (pi f l c)↔¬Bt (pi f l a) (pi f l b) (pi f l d))↔((Bt a b c↔¬Bt a b d)↔¬((In f l a↔¬In f l b)/\(In f l c↔¬In f l d))):=by
 rw[il (uU z B) (uU z E),il (uU z D) (uU z H),il B E,il D H,yy z B,yy z E,yy z D,yy z H];exact NA
theorem i3(fit:aR rs)(D:f<=l)(E:l<rs.length)(z:k<rs.length+1)(B:m<rs.length+1)(ne:k≠m):jB (aw rs f l) k m↔(jB rs k m↔¬(X rs f l k/\X rs f l m)):=by
 have H:=aM fit D E;have J:=aG rs f l;rw[sP H (by rw[J];exact z) (by rw[J];exact B) ne,sP fit z B ne,gf fit D E z,gg fit D E z,gf fit D E B,gg fit D E B];exact Ky D (eO fit z z) (λe=>ne (rW fit z B e)) (eO fit z B) (Ne.symm (eO fit B z)) (λe=>ne (rX fit z B e)) (eO fit B B)
end
section
variable {rs:List Int}{f l k m x y:Nat}
theorem h9(fit:aR rs)(z:k<rs.length+1)(h:cK rs k x):ow (aj rs) (x/2)=iq rs k:=by
 obtain⟨c,d,B,D,_,_⟩:=dW fit z;unfold iq;rcases h with rfl|rfl
 .rfl
 rw[cT B,cT D]
theorem ia(fit:aR rs)(B:x<2*rs.length+2):∃k,k<rs.length+1/\cK rs k x/\ow (aj rs) (x/2)=iq rs k:=by
 obtain⟨k,z,e⟩:=Fp fit B;exact⟨k,z,e,h9 fit z e⟩
theorem HP(fit:aR rs)(z:k<rs.length+1)(h:cK rs k x):x<2*rs.length+2:=by
 rcases h with rfl|rfl
 .exact(cU fit z).2
 exact(dU fit z).2
theorem CS(fit:aR rs)(z:f<=l)(B:l<rs.length)(D:k<rs.length+1)(h:cK rs k x):cK (aw rs f l) k (pi f l x):=by
 unfold cK;rw[gf fit z B D,gg fit z B D];exact h.imp (congrArg _) (congrArg _)
theorem lH:¬jB rs k k:=by unfold jB;omega
def TM(rs:List Int)(f l k:Nat):Prop:=∃a,a<rs.length+1/\X rs f l a/\Co rs k a
theorem CT(fit:aR rs)(H:f<=l)(J:l<rs.length)(O:k<rs.length+1)(h:Co rs k m):Co (aw rs f l) k m\/TM (aw rs f l) f l k:=by
 have E:=aG rs f l
 induction h with
 |refl=>exact .inl (.refl _)
 | @step a b h D M c B =>
  rcases B with B|B
  .by_cases z:X rs f l a/\X rs f l b
   .exact .inr ⟨a,by rw[E];exact D,(sO fit H J D).mpr z.1,B⟩
   refine .inl (.step B (by rw[E];exact D) (by rw[E];exact M) ((i3 fit H J D M ?_).mpr ⟨λ_=>z,λ_=>c⟩));rintro rfl;exact lH c
  exact .inr B
theorem uV(fit:aR rs)(B:f<=l)(D:l<rs.length)(H:k<rs.length+1)(h:TM rs f l k):TM (aw rs f l) f l k:=by
 obtain⟨a,E,J,c⟩:=h;rcases CT fit B D H c with z|z
 .exact⟨a,by rw[aG];exact E,(sO fit B D E).mpr J,z⟩
 exact z
theorem nW(fit:aR rs)(z:f<=l)(B:l<rs.length)(D:k<rs.length+1):TM (aw rs f l) f l k↔TM rs f l k:=by
 refine⟨λh=>?_,uV fit z B D⟩;have:=uV (aM fit z B) z (by rw[aG];exact B) (by rw[aG];exact D) h;rwa[bX z B]at this
theorem yz(fit:aR rs)(B:f<=l)(D:l<rs.length)(E:k<rs.length+1)(H:¬TM rs f l k):Co (aw rs f l) k m↔Co rs k m:=by
 constructor
 .intro h;have:=CT (aM fit B D) B (by rw[aG];exact D) (by rw[aG];exact E) h;rw[bX B D]at this;exact this.resolve_right H
 intro h;exact(CT fit B D E h).resolve_right λz=>H ((nW fit B D E).mp z)
theorem Kz(h:TM rs f l k)(c:Co rs k m):TM rs f l m:=by
 obtain⟨a,z,B,d⟩:=h;exact⟨a,z,B,c.symm.trans d⟩
theorem yA{u v z:Nat}(B:In f l u)(D:In f l v)(h:Bt u v z):In f l z:=by
 have:=B.1;have:=B.2;have:=D.1;have:=D.2;rcases h with⟨_,_⟩|⟨_,_⟩ <;> exact⟨by omega,by omega⟩
theorem CU{u v z D:Nat}(E:¬In f l u)(H:¬In f l v)(hz:In f l z)(B:In f l D)(h:Bt u v z):Bt u v D:=by
 have:=hz.1;have:=hz.2;have:=B.1;have:=B.2;rcases h with⟨_,_⟩|⟨_,_⟩
 .exact .inl ⟨RP λw=>E ⟨by omega,by omega⟩,RP λw=>H ⟨by omega,by omega⟩⟩
 exact .inr ⟨RP λw=>H ⟨by omega,by omega⟩,RP λw=>E ⟨by omega,by omega⟩⟩
theorem nX(h:¬X rs f l k):In f l (pA rs k)↔In f l (pB rs k):=O2 λz=>h (xr.mpr z)
theorem side(fit:aR rs)(Z:f<=l)(hk:k<rs.length+1)(O:¬TM rs f l k)(c:Co rs k m):(In f l (pA rs k)↔In f l (pA rs m)):=by
 induction c with
 |refl=>exact UG
 | @step a b h E H c V =>
  refine V.trans ?_;have J:=nX λz=>O ⟨a,E,z,h⟩;have M:=nX λz=>O ⟨b,H,z,h.step E H c⟩;have U:=xr.mp ((sP fit E H (λe=>lH (by rw[e]at c;exact c))).mp c);by_cases B:In f l (pA rs a)
  .refine⟨λ_=>O2 λD=>U ?_,λ_=>B⟩;exact⟨λz=>UU (yA B (J.mp B) z) D,λz=>UU (yA B (J.mp B) z) λw=>D (M.mpr w)⟩
  refine⟨λz=>UU z B,λD=>UU ?_ U⟩;have na:=λz=>B (J.mpr z);exact⟨CU B na D (M.mp D),CU B na (M.mp D) D⟩
theorem uW(fit:aR rs)(E:f<=l)(D:k<rs.length+1)(B:¬TM rs f l k)(c:Co rs k m)(H:m<rs.length+1)(e:cK rs k x)(g:cK rs m y):(In f l x↔In f l y):=by
 have s:=side fit E D B c;have J:¬X rs f l k:=λz=>B ⟨k,D,z,.refl _⟩;have M:¬X rs f l m:=λz=>B ⟨m,H,z,c⟩;have O:In f l x↔In f l (pA rs k):=by
  rcases e with rfl|rfl
  .exact UG
  exact(nX J).symm
 have U:In f l y↔In f l (pA rs m):=by
  rcases g with rfl|rfl
  .exact UG
  exact(nX M).symm
 rw[O,U,s]
noncomputable def sg(f l y:Nat):Nat:=if f<y/\y<=l then f+l+1-y else y
theorem yB:sg f l (sg f l y)=y:=by
 unfold sg;by_cases c:f<y/\y<=l
 .rw[UQ c,UQ (by omega)];omega
 rw[UO c,UO c]
def NT(rs:List Int)(f l y:Nat):Prop:=y<rs.length+1/\∀k,k<rs.length+1->iq rs k=ow (aj rs) y->¬TM rs f l k
theorem NT.ne(fit:aR rs)(H:f<=l)(O:l<rs.length)(h:NT rs f l y):y≠f/\y≠l+1:=by
 obtain⟨U,h⟩:=h;obtain⟨a,z,J,B⟩:=ia fit (x:=2*y) (by omega);obtain⟨b,D,M,E⟩:=ia fit (x:=2*y+1) (by omega);rw[show 2*y/2=y by omega]at B;rw[show(2*y+1)/2=y by omega]at E;have s:=uW fit H z (h a z B.symm) ((fh fit z D).mpr (by rw[<-B,<-E])) D J M;unfold In at s;omega
theorem CV(z:y≠f)(B:y≠l+1):(pi f l (2*y)=2*sg f l y\/pi f l (2*y)=2*sg f l y+1)/\(pi f l (2*y+1)=2*sg f l y\/pi f l (2*y+1)=2*sg f l y+1):=by
 unfold pi sg
 split <;> split <;> split <;> omega
theorem CW(z:l<rs.length)(B:y<rs.length+1):sg f l y<rs.length+1:=by unfold sg;split <;> omega
theorem NT.tie(fit:aR rs)(B:f<=l)(D:l<rs.length)(h:NT rs f l y):∃k,k<rs.length+1/\ow (aj rs) y=iq rs k/\ow (aj (aw rs f l)) (sg f l y)=iq (aw rs f l) k/\¬TM rs f l k:=by
 obtain⟨a,z,H,E⟩:=ia fit (x:=2*y) (by have:=h.1;omega);rw[show 2*y/2=y by omega]at E;obtain⟨J,M⟩:=h.ne fit B D;have e:=h9 (aM fit B D) (by rw[aG];exact z) (CS fit B D z H);rw[show pi f l (2*y)/2=sg f l y by have:=(CV J M).1;omega]at e;exact⟨a,z,E,e,h.2 a z E.symm⟩
theorem NT.turn(fit:aR rs)(D:f<=l)(z:l<rs.length)(h:NT rs f l y):NT (aw rs f l) f l (sg f l y):=by
 obtain⟨a,E,U,e,M⟩:=h.tie fit D z;have B:=aG rs f l;refine⟨by rw[B];exact CW z h.1,λk H J O=>?_⟩;rw[B]at H;rw[e]at J;have c:=(fh (aM fit D z) (by rw[B];exact H) (by rw[B];exact E)).mpr J;exact M ((nW fit D z E).mp (Kz O c))
theorem NT.same(fit:aR rs)(z:f<=l)(B:l<rs.length)(h:NT rs f l x)(g:NT rs f l y):ow (aj (aw rs f l)) (sg f l x)=ow (aj (aw rs f l)) (sg f l y)↔ow (aj rs) x=ow (aj rs) y:=by
 obtain⟨a,D,J,M,na⟩:=h.tie fit z B;obtain⟨b,E,O,U,V⟩:=g.tie fit z B;have H:=aG rs f l;rw[M,U,J,O,<-fh fit D E,<-fh (aM fit z B) (by rw[H];exact D) (by rw[H];exact E),yz fit z B D na]
theorem NT.ow(fit:aR rs)(h:NT rs f l x)(z:y<rs.length+1)(e:aC.ow (aj rs) y=aC.ow (aj rs) x):NT rs f l y:=⟨z,λk B D=>h.2 k B (by rw[D,e])⟩
theorem i4(fit:aR rs)(M:y<rs.length+1):isOpen (aj rs) y=false↔∃k,k<rs.length+1/\((pA rs k=2*y/\pB rs k=2*y+1)\/(pA rs k=2*y+1/\pB rs k=2*y)):=by
 unfold isOpen;rw[Vx,Decidable.not_not];constructor
 .intro e;obtain⟨c,z,H,O⟩:=kT fit (show y<rs.length+2 by omega);obtain⟨d,hd,pd,U⟩:=kT fit (show y+1<rs.length+2 by omega);have V:=fu fit (p:=y+1) (by omega) (by omega);by_cases s:(aj rs).getD y 0<0
  .have s':(aj rs).getD (y+1) 0<0:=by omega
   unfold aE at z hd;rw[UQ s]at z;rw[UQ s']at hd;have B:c=d+1:=by omega
   have Z:=bM (show y<rs.length+2 by omega) s;refine⟨d,by omega,.inr ⟨?_,?_⟩⟩
   .unfold pA;rw[pd,UQ s'];omega
   unfold pB;rw[<-B,H,UQ s]
  have s':¬(aj rs).getD (y+1) 0<0:=by omega
  unfold aE at z hd;rw[UO s]at z;rw[UO s']at hd;have B:d=c+1:=by omega
  refine⟨c,by omega,.inl ⟨?_,?_⟩⟩
  .unfold pA;rw[H,UO s]
  unfold pB;rw[<-B,pd,UO s'];omega
 rintro⟨k,hk,h⟩;obtain⟨J,D⟩:=bw fit (show k<rs.length+2 by omega);obtain⟨b1,E⟩:=bw fit (show k+1<rs.length+2 by omega);have pp:=mB fit (k:=k) (by omega);unfold pA pB at h;unfold aE at D E;by_cases s:(aj rs).getD (bf rs k) 0<0
 .have:=bM J s;rw[UQ s]at h D;by_cases t:(aj rs).getD (bf rs (k+1)) 0<0
  .rw[UQ t]at h E;rw[show y=bf rs (k+1) by omega,show bf rs (k+1)+1=bf rs k by omega];omega
  rw[UO t]at h;omega
 rw[UO s]at h D;by_cases t:(aj rs).getD (bf rs (k+1)) 0<0
 .rw[UQ t]at h;omega
 rw[UO t]at h E;rw[show y=bf rs k by omega,show bf rs k+1=bf rs (k+1) by omega];omega
theorem NT.FK(fit:aR rs)(B:f<=l)(D:l<rs.length)(h:NT rs f l y)(o:isOpen (aj (aw rs f l)) (sg f l y)=true):isOpen (aj rs) y=true:=by
 refine O2 λz=>?_;obtain⟨k,E,e⟩:=(i4 fit h.1).mp (SF.mpr z);obtain⟨J,M⟩:=h.ne fit B D;have H:=aG rs f l;have:isOpen (aj (aw rs f l)) (sg f l y)=false:=(i4 (aM fit B D) (by rw[H];exact CW D h.1)).mpr ⟨k,by rw[H];exact E,by
  rw[gf fit B D E,gg fit B D E];have s:=CV (f:=f) (l:=l) J M;have d:=uU (f:=f) (l:=l) B (show 2*y≠2*y+1 by omega);rcases e with⟨e1,e2⟩|⟨e1,e2⟩ <;> rw[e1,e2] <;> omega⟩
 rw[this]at o;cases o
theorem NT.gX(fit:aR rs)(z:f<=l)(B:l<rs.length)(h:NT rs f l y):isOpen (aj (aw rs f l)) (sg f l y)=true↔isOpen (aj rs) y=true:=by
 refine⟨h.FK fit z B,λo=>?_⟩;have:=(h.turn fit z B).FK (aM fit z B) z (by rw[aG];exact B);rw[bX z B,yB]at this;exact this o
theorem c9(fit:aR rs){p:a7}:p∈KN rs↔(∃g,g<rs.length+1/\isOpen (aj rs) g=true/\ow (aj rs) g=p)/\∀k,k<rs.length+1->iq rs k=p->Ev rs k:=by
 rw[uS fit];exact and_congr_right λ_=>⟨λh k z e=>(FI fit z).mp (h k z e),λh k z e=>(FI fit z).mpr (h k z e)⟩
theorem NT.KA(fit:aR rs)(D:f<=l)(B:l<rs.length)(h:NT rs f l y)(kn:aC.ow (aj rs) y∈KN rs):aC.ow (aj (aw rs f l)) (sg f l y)∈KN (aw rs f l):=by
 obtain⟨⟨g,O,og,U⟩,ev⟩:=(c9 fit).mp kn;have H:=aG rs f l;have V:=h.ow fit O U;refine(c9 (aM fit D B)).mpr ⟨⟨sg f l g,by rw[H];exact CW B O,(V.gX fit D B).mpr og,(V.same fit D B h).mpr U⟩,λk E Z=>?_⟩;rw[H]at E;obtain⟨a,J,oa,ea,na⟩:=h.tie fit D B;rw[ea]at Z;have c:=(fh (aM fit D B) (by rw[H];exact J) (by rw[H];exact E)).mpr Z.symm;have c:=(yz fit D B J na).mp c;have M:=(fh fit J E).mp c;have xk:¬X rs f l k:=λz=>na ⟨k,E,z,c⟩;exact(jw fit D B E).mpr ⟨λ_=>xk,λ_=>ev k E (by rw[<-M,<-oa])⟩
theorem CY(fit:aR rs)(J:f<=l)(M:l<rs.length)(hk:k<rs.length+1)(Z:m<rs.length+1)(tk:TM rs f l k)(tm:TM rs f l m)(nk:iq rs k∈KN rs):iq (aw rs f l) m∉KN (aw rs f l):=λnm=>by
 have B:=aM fit J M;have E:=aG rs f l;obtain⟨a,H,xa,ca⟩:=tk;obtain⟨b,D,U,cb⟩:=(nW fit J M Z).mpr tm;rw[E]at D;have U:=(sO fit J M D).mp U;have e1:=(fh fit hk H).mp ca;have e2:=(fh B (by rw[E];exact Z) (by rw[E];exact D)).mp cb;have va:=((c9 fit).mp nk).2 a H e1.symm;have vb:=((c9 B).mp nm).2 b (by rw[E];exact D) e2.symm;have O:¬Ev rs b:=λz=>((jw fit J M D).mp vb).mp z U;have ab:a≠b:=λz=>O (by rw[<-z];exact va);by_cases c:jB rs a b
 .exact O (((c9 fit).mp nk).2 b D (by rw[e1,rZ fit H D c]))
 have c':jB (aw rs f l) a b:=(i3 fit J M H D ab).mpr ⟨λz=>UU z c,λz=>UU ⟨xa,U⟩ z⟩;have V:=((c9 B).mp nm).2 a (by rw[E];exact H) (by rw[e2,rZ B (by rw[E];exact H) (by rw[E];exact D) c']);exact((jw fit J M H).mp V).mp va xa
end
section
variable {rs:List Int}{f l k m x y a b:Nat}
def wG(f l a:Nat):Prop:=f<a/\a<=l
theorem HQ(h:wG f l a):sg f l a=f+l+1-a:=UQ h
theorem HR(h:¬wG f l a):sg f l a=a:=UO h
theorem yC(D:f<=l)(B:wG f l a)(ne:x≠a):sg f l x<sg f l a↔(x<a↔¬wG f l x):=by
 rw[HQ B];by_cases i:wG f l x
 .have e:f+l+1-x<f+l+1-a↔¬x<a:=by
   have:=i.2;have:=B.2;omega
  rw[HQ i,e];exact⟨λh=>⟨λz=>UU z h,λz=>UU i z⟩,λh z=>h.mp z i⟩
 have e:x<f+l+1-a↔x<a:=by
  unfold wG at i B;omega
 rw[HR i,e];exact⟨λh=>⟨λ_=>i,λ_=>h⟩,λh=>h.mpr i⟩
theorem sQ(B:f<=l)(D:a<f\/l+1<a)(ne:x≠a):sg f l x<sg f l a↔x<a:=by
 rw[HR (a:=a) λz=>by have:=z.1;have:=z.2;omega];by_cases i:wG f l x
 .rw[HQ i];have:=i.1;have:=i.2;omega
 rw[HR i]
theorem yD(ne:x≠a):sg f l x≠sg f l a:=λe=>ne (by rw[<-yB (f:=f) (l:=l) (y:=x),e,yB])
theorem KC(H:f<=l)(z:x≠a)(B:y≠a)(D:x≠b)(E:y≠b)(h:(wG f l a/\wG f l b)\/((a<f\/l+1<a)/\(b<f\/l+1<b)))(s:Bt x y a↔¬Bt x y b):Bt (sg f l x) (sg f l y) (sg f l a)↔¬Bt (sg f l x) (sg f l y) (sg f l b):=by
 rw[il z B,il D E]at s;rw[il (yD z) (yD B),il (yD D) (yD E)];rcases h with⟨J,M⟩|⟨J,M⟩
 .rw[yC H J z,yC H J B,yC H M D,yC H M E];generalize wG f l x=P at *;generalize wG f l y=Q at *;by_cases p:P <;> by_cases q:Q <;> simp only[p,q,not_true_eq_false,not_false_eq_true,iff_true,iff_false] <;> omega
 rw[sQ H J z,sQ H J B,sQ H M D,sQ H M E];exact s
theorem NT.side(fit:aR rs)(z:f<=l)(E:l<rs.length)(B:NT rs f l a)(H:NT rs f l b)(e:aC.ow (aj rs) a=aC.ow (aj rs) b):(wG f l a/\wG f l b)\/((a<f\/l+1<a)/\(b<f\/l+1<b)):=by
 obtain⟨k,D,O,ok⟩:=ia fit (x:=2*a) (by have:=B.1;omega);obtain⟨m,J,em,M⟩:=ia fit (x:=2*b) (by have:=H.1;omega);rw[show 2*a/2=a by omega]at ok;rw[show 2*b/2=b by omega]at M;have s:=uW fit z D (B.2 k D ok.symm) ((fh fit D J).mpr (by rw[<-ok,<-M,e])) J O em;have U:=B.ne fit z E;have V:=H.ne fit z E;unfold In at s;unfold wG;omega
theorem NT.back(fit:aR rs)(B:f<=l)(H:l<rs.length)(h:NT rs f l y)(kn:aC.ow (aj rs) y∈KN rs)(J:nV (aw rs f l) x=Yl (aC.ow (aj (aw rs f l)) (sg f l y))):nV rs (sg f l x)=Yl (aC.ow (aj rs) y)/\NT rs f l (sg f l x)/\NT (aw rs f l) f l x:=by
 obtain⟨⟨M,O,kx⟩,ex⟩:=aO.mp J;have z:=aM fit B H;have D:l<(aw rs f l).length:=by rw[aG];exact H
 have nx:=(h.turn fit B H).ow z M ex;have E:=nx.turn z B D;have sm:=nx.same z B D (h.turn fit B H);have op:=nx.gX z B D;rw[bX B H]at E sm op;rw[yB]at sm;have e:=sm.mpr ex;exact⟨aO.mpr ⟨⟨E.1,op.mpr O,by rw[e];exact kn⟩,e⟩,E,nx⟩
theorem CZ(fit:aR rs)(B:f<=l)(D:l<rs.length)(h:NT rs f l m)(kn:ow (aj rs) m∈KN rs)(t:xT (nV (aw rs f l)) (ow (aj (aw rs f l)) (sg f l m)) x y):xT (nV rs) (ow (aj rs) m) (sg f l x) (sg f l y):=by
 by_cases H:nV (aw rs f l) x=Yl (ow (aj (aw rs f l)) (sg f l m))
 .exact .inl (h.back fit B D kn H).1
 by_cases J:nV (aw rs f l) y=Yl (ow (aj (aw rs f l)) (sg f l m))
 .exact .inr (.inl (h.back fit B D kn J).1)
 obtain⟨a,b,M,O,b1,b2⟩:=(t.resolve_left H).resolve_left J;obtain⟨Z,na,U⟩:=h.back fit B D kn M;obtain⟨l2,nb,V⟩:=h.back fit B D kn O;have E:=aM fit B D;have sd:=U.side E B (by rw[aG];exact D) V (by rw[(aO.mp M).2,(aO.mp O).2]);have s:=KC B (Ne.symm (bC M H)) (Ne.symm (bC M J)) (Ne.symm (bC O H)) (Ne.symm (bC O J)) sd ⟨λ_=>b2,λ_=>b1⟩;refine .inr (.inr ?_);by_cases z:Bt (sg f l x) (sg f l y) (sg f l a)
 .exact⟨_,_,Z,l2,z,s.mp z⟩
 exact⟨_,_,l2,Z,O2 λw=>z (s.mpr w),z⟩
def ER(rs:List Int)(f l:Nat)(S:List a7)(C:List (Nat×Nat)):Prop:=∀y,NT rs f l y->ow (aj rs) y∈KN rs->ow (aj rs) y∈S\/∃c∈C,xT (nV rs) (ow (aj rs) y) c.1 c.2
theorem oX.nc(fit:aR rs){S:List a7}{C:List (Nat×Nat)}(h:oX (nV rs) S C):ER rs f l S C:=λy _ kn=>h _ ((gU fit).mpr kn)
theorem lI(fit:aR rs)(D:f<=l)(E:l<rs.length){S':List a7}{C':List (Nat×Nat)}(vT:ER (aw rs f l) f l S' C'):∃S C,S.length=S'.length/\C.length=C'.length/\ER rs f l S C:=by
 let g (s:a7):a7:=if h:∃y,NT rs f l y/\ow (aj (aw rs f l)) (sg f l y)=s then ow (aj rs) (choose h)else s
 refine⟨S'.map g,C'.map λc=>(sg f l c.1,sg f l c.2),by rw[O0],by rw[O0],λy B kn=>?_⟩;have H:=B.KA fit D E kn;rcases vT _ (B.turn fit D E) H with h|⟨c,J,t⟩
 .refine .inl (O4.mpr ⟨_,h,?_⟩);have ex:∃z,NT rs f l z/\ow (aj (aw rs f l)) (sg f l z)=ow (aj (aw rs f l)) (sg f l y):=⟨y,B,rfl⟩
  show(if h:∃z,NT rs f l z/\ow (aj (aw rs f l)) (sg f l z)=ow (aj (aw rs f l)) (sg f l y)then ow (aj rs) (choose h)else _)=_;rw[XU ex];exact((choose_spec ex).1.same fit D E B).mp (choose_spec ex).2
 exact .inr ⟨_,O4.mpr ⟨c,J,rfl⟩,CZ fit D E B kn t⟩
def Ak(rs:List Int)(f l:Nat):Prop:=∃k,k<rs.length+1/\TM rs f l k/\iq rs k∈KN rs
theorem nY(fit:aR rs){p:a7}(kn:p∈KN rs):(∃y,NT rs f l y/\ow (aj rs) y=p)\/∃k,k<rs.length+1/\TM rs f l k/\iq rs k=p:=by
 obtain⟨⟨g,B,J,z⟩,_⟩:=(c9 fit).mp kn;by_cases h:NT rs f l g
 .exact .inl ⟨g,h,z⟩
 refine .inr (O2 λno=>h ⟨B,λk D E H=>no ⟨k,D,H,by rw[E,z]⟩⟩)
theorem yE(fit:aR rs){p:a7}(kn:p∈KN rs)(z:y<rs.length+1)(e:ow (aj rs) y=p):nV rs y=Yl p:=by
 obtain⟨⟨g,B,D,E⟩,_⟩:=(c9 fit).mp kn;exact aO.mpr ⟨⟨z,i0 fit B z E e D,by rw[e];exact kn⟩,e⟩
theorem C0(fit:aR rs)(h1:f<=l)(h2:l<rs.length)(U:k<rs.length+1)(V:TM rs f l k)(kn:iq rs k∈KN rs):xT (nV rs) (iq rs k) f (l+1):=by
 obtain⟨a,D,E,c⟩:=V;have e:=(fh fit U D).mp c;have Z:=h9 fit D (.inl rfl);have gB:=h9 fit D (.inr rfl);have lA:=(cU fit D).2;have lB:=(dU fit D).2;have M:=yE fit kn (y:=pA rs a/2) (by omega) (by rw[Z,e]);have O:=yE fit kn (y:=pB rs a/2) (by omega) (by rw[gB,e]);have key:∀u v,In f l u->¬In f l v->nV rs (u/2)=Yl (iq rs k)->nV rs (v/2)=Yl (iq rs k)->xT (nV rs) (iq rs k) f (l+1):=λu v B iv H J=>by
  unfold In at B iv;by_cases c1:u/2=f
  .exact .inl (by rw[<-c1];exact H)
  by_cases c2:u/2=l+1
  .exact .inr (.inl (by rw[<-c2];exact H))
  by_cases c3:v/2=f
  .exact .inl (by rw[<-c3];exact J)
  by_cases c4:v/2=l+1
  .exact .inr (.inl (by rw[<-c4];exact J))
  exact .inr (.inr ⟨u/2,v/2,H,J,by unfold Bt;omega,by unfold Bt;omega⟩)
 unfold X at E;by_cases B:In f l (pA rs a)
 .exact key _ _ B (E.mp B) M O
 exact key _ _ (O2 λz=>B (E.mpr z)) B O M
theorem HS(fit:aR rs){c d:Nat}(D:a<rs.length+1)(E:b<rs.length+1)(H:c<rs.length+1)(hd:d<rs.length+1)(e1:ow (aj rs) a=ow (aj rs) b)(e2:ow (aj rs) c=ow (aj rs) d)(ne:ow (aj rs) a≠ow (aj rs) c)(h:Bt a b c):Bt a b d:=by
 have key:∀a b c d:Nat,a<rs.length+1->b<rs.length+1->c<rs.length+1->d<rs.length+1->ow (aj rs) a=ow (aj rs) b->ow (aj rs) c=ow (aj rs) d->ow (aj rs) a≠ow (aj rs) c->a<c->c<b->a<d/\d<b:=λa b c d D E H hd e1 e2 ne V Z=>by
  have L:=(c8 fit).p;have J:=dA fit D;have M:=dA fit E;have B:=dA fit H;have O:=dA fit hd;rw[<-e1]at M;rw[<-e2]at O;have:=J.lo;have:=M.hi;have:=B.lo;have:=B.hi;have:=O.lo;have:=O.hi;have:=J.hi;have:=M.lo;have U:=B.qU L J.kin (by omega) (by omega) (Ne.symm ne);have a':(a:Int)<(ow (aj rs) c).1:=Uo λz=>by
   have:=J.qU L B.kin (by omega) (by omega) ne;have:=this.1;have:=U.1;omega
  have b':(ow (aj rs) c).2<=(b:Int):=Up λz=>by
   have:=M.qU L B.kin (by omega) (by omega) ne;have:=this.1;have:=U.1;omega
  omega
 rcases h with h|h
 .exact .inl (key a b c d D E H hd e1 e2 ne h.1 h.2)
 exact .inr (key b a c d E D H hd e1.symm e2 (by rw[<-e1];exact ne) h.1 h.2)
theorem C1(fit:aR rs)(D:f<=l)(E:l<rs.length)(H:k<rs.length+1)(J:TM rs f l k)(kn:iq rs k∈KN rs)(e:ow (aj rs) f=ow (aj rs) (l+1)):iq rs k=ow (aj rs) f:=by
 rcases C0 fit D E H J kn with t|t|⟨a,b,M,O,U,V⟩
 .exact(aO.mp t).2.symm
 .rw[e];exact(aO.mp t).2.symm
 obtain⟨Z,B⟩:=aO.mp M;obtain⟨l2,eb⟩:=aO.mp O;refine O2 λne=>V (HS fit (by omega) (by omega) Z.1 l2.1 e (by rw[B,eb]) (λz=>ne (by rw[z,B])) U)
theorem lJ(fit:aR rs){S:List a7}{C:List (Nat×Nat)}(vT:oX (nV rs) S C):cY (bV rs)<=((S.length+2*C.length:Nat):Int):=by
 obtain⟨hs,H,e⟩:=yr fit;rw[e];exact UJ.mpr (low H vT)
theorem nZ(fit:aR rs):∃S C,oX (nV rs) S C/\((S.length+2*C.length:Nat):Int)<=cY (bV rs)/\(∀s∈S,s∈KN rs)/\M9 (nV rs) C:=by
 obtain⟨hs,H,e⟩:=yr fit;obtain⟨S,C,z,B,D,E⟩:=upp (Nz fit) (N:=rs.length+1) HN H;exact⟨S,C,z,by rw[e];exact UJ.mpr B,λs hs=>(gU fit).mp (D s hs),E⟩
theorem n4(fit:aR rs)(z:f<=l)(B:l<rs.length)(na:¬Ak rs f l):cY (bV rs)<=cY (bV (aw rs f l)):=by
 obtain⟨S',C',D,O,_⟩:=nZ (aM fit z B);obtain⟨S,C,e1,e2,c⟩:=lI fit z B (D.nc (aM fit z B));have:=lJ fit (S:=S) (C:=C) λp E=>by
  have kn:=(gU fit).mp E;rcases nY (f:=f) (l:=l) fit kn with⟨y,H,rfl⟩|⟨k,J,M,rfl⟩
  .exact c y H kn
  exact UU ⟨k,J,M,kn⟩ na
 omega
theorem ES(fit:aR rs)(z:f<=l)(B:l<rs.length):cY (bV rs)<=cY (bV (aw rs f l))+2:=by
 obtain⟨S',C',D,U,_⟩:=nZ (aM fit z B);obtain⟨S,C,e1,e2,c⟩:=lI fit z B (D.nc (aM fit z B));have:=lJ fit (S:=S) (C:=(f,l+1)::C) λp E=>by
  have kn:=(gU fit).mp E;rcases nY (f:=f) (l:=l) fit kn with⟨y,H,rfl⟩|⟨k,J,M,rfl⟩
  .exact(c y H kn).imp id λ⟨c,O,t⟩=>⟨c,Pj _ O,t⟩
  exact .inr ⟨_,Pc,C0 fit z B J M kn⟩
 rw[QK]at this;omega
theorem ET(fit:aR rs)(z:f<=l)(B:l<rs.length)(e:ow (aj rs) f=ow (aj rs) (l+1)):cY (bV rs)<=cY (bV (aw rs f l))+1:=by
 obtain⟨S',C',D,O,_⟩:=nZ (aM fit z B);obtain⟨S,C,e1,e2,c⟩:=lI fit z B (D.nc (aM fit z B));have:=lJ fit (S:=ow (aj rs) f::S) (C:=C) λp E=>by
  have kn:=(gU fit).mp E;rcases nY (f:=f) (l:=l) fit kn with⟨y,H,rfl⟩|⟨k,J,M,rfl⟩
  .exact(c y H kn).imp (Pj _) id
  exact .inl (by rw[C1 fit z B J M kn e];exact Pc)
 rw[QK]at this;omega
end
def Rg(rs:List Int)(x y:Nat):Prop:=Cn (bU rs) (x:Int) (y:Int)
section
variable {rs:List Int}{f l k m x y a b:Nat}
theorem sR(fit:aR rs)(z:k<rs.length+1):Rg rs (pA rs k/2) (pB rs k/2):=by
 have g:=hZ fit _ (Pk (b6 z));have B:0<=bP rs k/\bP rs k<((rs.length+1:Nat):Int):=g.1;have D:0<=cE rs (k+1)/\cE rs (k+1)<((rs.length+1:Nat):Int):=g.2;have h:Cn (bU rs) (bP rs k) (cE rs (k+1)):=.base (p:=pW rs k) (Pk (b6 z));unfold Rg;rw[show((pA rs k/2:Nat):Int)=bP rs k by rw[Hf fit z];omega,show((pB rs k/2:Nat):Int)=cE rs (k+1) by rw[Hg fit z];omega];exact h
theorem FL(fit:aR rs)(h:Rg rs x y):ow (aj rs) x=ow (aj rs) y:=by
 have key:∀{x y:Int},Cn (bU rs) x y->ow (aj rs) x.toNat=ow (aj rs) y.toNat:=λ{x y} h=>by
  induction h with
  | @base p H =>
   obtain⟨k,B⟩:=PF H;have z:k<rs.length+1:=by rw[<-gG rs];exact(O1.mp B).1
   rw[b6 z]at B;obtain rfl:=Option.some.inj B;exact xN fit z
  |refl x=>rfl
  |symm _ J=>exact J.symm
  |trans _ _ D E=>exact D.trans E
 exact key h
theorem i5(fit:aR rs)(D:f<=l)(E:l<rs.length):∃M:Nat,(Rg rs f (l+1)/\(cH rs).length=M\/¬Rg rs f (l+1)/\(cH rs).length=M+1)/\(Rg (aw rs f l) f (l+1)/\(cH (aw rs f l)).length=M\/¬Rg (aw rs f l) f (l+1)/\(cH (aw rs f l)).length=M+1):=by
 have B:=aM fit D E;have O:=aG rs f l;obtain⟨L,hL,lL⟩:=jr fit;obtain⟨M,U,lM⟩:=jr B;have eG:xG (aw rs f l)=xG rs:=by unfold xG;rw[O]
 rw[eG]at U;have V:xG rs (f:Int):=⟨by omega,by omega⟩
 have Z:xG rs ((l:Int)+1):=⟨by omega,by omega⟩
 obtain⟨L',H,e1⟩:=hL.Fm (p:=((f:Int),(l:Int)+1)) V Z;obtain⟨M',J,e2⟩:=U.Fm (p:=((f:Int),(l:Int)+1)) V Z;have z:=(H.map (Ac f l) (rV f l) (λx hx=>by unfold xG Ac at *;split <;> omega) (λx y=>xI fit D E) λx y z=>by
  have z2:=xI B D (by rw[O];exact E) z;rw[bX D E,rV,rV]at z2;exact z2).cn J
 rw[O0]at z;refine⟨L'.length,?_,?_⟩
 .rw[<-lL];exact e1.imp (λw=>⟨w.1,w.2.symm⟩) (λw=>⟨w.1,w.2.symm⟩)
 rw[<-lM,z];exact e2.imp (λw=>⟨w.1,w.2.symm⟩) (λw=>⟨w.1,w.2.symm⟩)
noncomputable def sm(c:Nat->Nat):Nat->Nat
 |0=>0
 |n+1=>sm c n+c n
noncomputable def two(Q:Nat->Prop)(a b:Nat->Nat)(k:Nat):Nat:=(if Q (a k)then 1 else 0)+(if Q (b k)then 1 else 0)
theorem sS(Q:Nat->Prop)(a b:Nat->Nat):∀n,(((Pu n).flatMap λk=>[a k,b k]).filter λx=>decide (Q x)).length=sm (two Q a b) n
 |0=>rfl
 |n+1=>by
  rw[QD,RQ,Qf,O7,sS Q a b n];show _=sm (two Q a b) n+two Q a b n;congr 1;unfold two;rw[TQ,List.flatMap_nil,Qj];by_cases z:Q (a n) <;> by_cases B:Q (b n) <;> simp[z,B]
theorem wH(fit:aR rs)(Q:Nat->Prop):sm (two Q (pA rs) (pB rs)) (rs.length+1)=sm (two Q (λy=>2*y) λy=>2*y+1) (rs.length+1):=by
 rw[<-sS,<-sS];have E:((Pu (rs.length+1)).flatMap λk=>[pA rs k,pB rs k]).Nodup:=by
  rw[List.Nodup,S5];refine⟨λk B=>by have:=eO fit (Pm.mp B) (Pm.mp B);simp[this],?_⟩;refine QA.imp_of_mem λ{i j} hi H J x z y D e=>?_;have hi:=Pm.mp hi;have H:=Pm.mp H;have:=iQ fit hi H (x:=x) (by simpa[cK]using z) (by rw[e];simpa[cK]using D);omega
 have M:((Pu (rs.length+1)).flatMap λk=>[2*k,2*k+1]).Nodup:=by
  rw[List.Nodup,S5];refine⟨λk B=>by simp,?_⟩;refine QA.imp λ{i j} J x z y D e=>?_;simp at z D;omega
 have mem:∀x,x∈((Pu (rs.length+1)).flatMap λk=>[pA rs k,pB rs k])↔x∈(Pu (rs.length+1)).flatMap λk=>[2*k,2*k+1]:=λx=>by
  rw[Q3,Q3];constructor
  .rintro⟨k,B,h⟩;have:=HP fit (Pm.mp B) (x:=x) (by simpa[cK]using h);refine⟨x/2,Pm.mpr (by omega),?_⟩;simp;omega
  rintro⟨y,D,h⟩;have D:=Pm.mp D;simp at h;obtain⟨k,B,e⟩:=Fp fit (x:=x) (by omega);exact⟨k,Pm.mpr B,by simpa using e⟩
 refine Sr (bY (E.sublist PY) λx z=>?_) (bY (M.sublist PY) λx z=>?_)
 .exact O9.mpr ⟨(mem x).mp (O9.mp z).1,(O9.mp z).2⟩
 exact O9.mpr ⟨(mem x).mpr (O9.mp z).1,(O9.mp z).2⟩
theorem sT{c:Nat->Nat}:∀{n},(∀k,k<n->c k%2=0)->sm c n%2=0
 |0,_=>rfl
 |n+1,h=>by
  have:=sT (n:=n) λk z=>h k (by omega);have:=h n (by omega);show(sm c n+c n)%2=0;omega
theorem C2{c:Nat->Nat}:∀{n},f<n->(∀k,k<n->k≠f->c k%2=0)->c f%2=1->sm c n%2=1
 |0,h,_,_=>UU h (Rn _)
 |n+1,h,z,B=>by
  show(sm c n+c n)%2=1;by_cases e:f=n
  .subst e;have:=sT (n:=f) λk D=>z k (by omega) (by omega);omega
  have:=C2 (n:=n) (by omega) (λk D=>z k (by omega)) B;have:=z n (by omega) (Ne.symm e);omega
theorem C3{c d:Nat->Nat}:∀{n},(∀k,k<n->c k<=d k)->sm c n<=sm d n
 |0,_=>O5 _
 |n+1,h=>Nat.add_le_add (C3 λk z=>h k (by omega)) (h n (by omega))
theorem FN{c d:Nat->Nat}:∀{n},f<n->(∀k,k<n->c k<=d k)->c f<d f->sm c n<sm d n
 |0,h,_,_=>UU h (Rn _)
 |n+1,h,z,B=>by
  show sm c n+c n<sm d n+d n;by_cases e:f=n
  .subst e;have:=C3 (n:=f) λk D=>z k (by omega);omega
  have:=FN (n:=n) (by omega) (λk D=>z k (by omega)) B;have:=z n (by omega);omega
def QR(rs:List Int)(f l x:Nat):Prop:=Rg (aw rs f l) f (pi f l x/2)/\Rg rs f (x/2)
theorem C4(fit:aR rs)(B:f<=l)(D:l<rs.length)(z:k<rs.length+1):QR rs f l (pA rs k)↔QR rs f l (pB rs k):=by
 have H:=sR fit z;have E:=sR (aM fit B D) (k:=k) (by rw[aG];exact z);rw[gf fit B D z,gg fit B D z]at E;exact⟨λh=>⟨h.1.trans E,h.2.trans H⟩,λh=>⟨h.1.trans E.symm,h.2.trans H.symm⟩⟩
theorem C5(z:y≠f)(B:y≠l+1):QR rs f l (2*y)↔QR rs f l (2*y+1):=by
 have s:=CV (f:=f) (l:=l) z B;unfold QR;rw[show pi f l (2*y)/2=sg f l y by omega,show pi f l (2*y+1)/2=sg f l y by omega,show 2*y/2=y by omega,show(2*y+1)/2=y by omega]
theorem KG(z:f<=l):pi f l (2*f)/2=f/\pi f l (2*f+1)/2=l+1/\pi f l (2*(l+1))/2=f/\pi f l (2*(l+1)+1)/2=l+1:=by
 unfold pi;rw[UO (by omega),UQ (by omega),UQ (by omega),UO (by omega)];omega
theorem yF(fit:aR rs)(B:f<=l)(D:l<rs.length)(h:¬Rg rs f (l+1)):Rg (aw rs f l) f (l+1):=O2 λno=>by
 have e:=wH fit (QR rs f l);have O:=sT (c:=two (QR rs f l) (pA rs) (pB rs)) (n:=rs.length+1) λk E=>by
  have t:=C4 fit B D E;unfold two;by_cases c:QR rs f l (pA rs k)
  .rw[UQ c,UQ (t.mp c)]
  rw[UO c,UO λz=>c (t.mpr z)]
 obtain⟨H,J,U,M⟩:=KG B;have V:=C2 (f:=f) (c:=two (QR rs f l) (λy=>2*y) λy=>2*y+1) (n:=rs.length+1) (by omega) (λy Z ne=>by
  unfold two;by_cases e:y=l+1
  .subst e;rw[UO λz=>h (by have:=z.2;rwa[show 2*(l+1)/2=l+1 by omega]at this),UO λz=>no (by have:=z.1;rwa[M]at this)]
  .have t:=C5 (rs:=rs) ne e;by_cases c:QR rs f l (2*y)
   .rw[UQ c,UQ (t.mp c)]
   rw[UO c,UO λz=>c (t.mpr z)]) (by
  unfold two;rw[UQ ⟨by rw[H];exact .refl _,by rw[show 2*f/2=f by omega];exact .refl _⟩,UO λz=>no (by have:=z.1;rwa[J]at this)])
 omega
theorem EU(fit:aR rs)(D:f<=l)(E:l<rs.length)(kn:ow (aj rs) f∈KN rs):Rg (aw rs f l) f (l+1):=O2 λno=>by
 have h:Rg rs f (l+1):=O2 λz=>no (yF fit D E z);have O:∀k,k<rs.length+1->QR rs f l (pA rs k)->(pA rs k+pB rs k)%2=1:=λk B q=>((c9 fit).mp kn).2 k B (FL fit q.2).symm;have Z:=wH fit λx=>QR rs f l x/\x%2=0;have e1:=wH fit λx=>QR rs f l x/\x%2=1;have tie:sm (two (λx=>QR rs f l x/\x%2=0) (pA rs) (pB rs)) (rs.length+1)<=sm (two (λx=>QR rs f l x/\x%2=1) (pA rs) (pB rs)) (rs.length+1):=C3 λk B=>by
  have t:=C4 fit D E B;unfold two;by_cases c:QR rs f l (pA rs k)
  .have v:=O k B c;by_cases z:pA rs k%2=0
   .rw[UQ ⟨c,z⟩,UO λw=>by omega,UO λw=>by omega,UQ ⟨t.mp c,by omega⟩];omega
   rw[UO λw=>z w.2,UQ ⟨t.mp c,by omega⟩,UQ ⟨c,by omega⟩];omega
  rw[UO λw=>c w.1,UO λw=>c (t.mpr w.1)];omega
 obtain⟨U,H,p3,V⟩:=KG D;have gap:=FN (f:=f) (c:=two (λx=>QR rs f l x/\x%2=1) (λy=>2*y) λy=>2*y+1) (d:=two (λx=>QR rs f l x/\x%2=0) (λy=>2*y) λy=>2*y+1) (n:=rs.length+1) (by omega) (λy hy=>by
  unfold two;dsimp only;rw[UO λw=>by omega];by_cases J:y=f
  .subst J;rw[UO λw=>no (by have:=w.1.1;rwa[H]at this)];omega
  by_cases M:y=l+1
  .subst M;rw[UO λw=>no (by have:=w.1.1;rwa[V]at this)];omega
  have t:=C5 (rs:=rs) J M;by_cases c:QR rs f l (2*y)
  .rw[UQ (c:=QR rs f l (2*y)/\2*y%2=0) ⟨c,by omega⟩];split <;> omega
  .rw[UO λw=>c (t.mpr w.1)];omega) (by
  unfold two;dsimp only;rw[UO λw=>by omega,UO λw=>no (by have:=w.1.1;rwa[H]at this),UQ ⟨⟨by rw[U];exact .refl _,by rw[show 2*f/2=f by omega];exact .refl _⟩,by omega⟩];omega)
 omega
end
section
variable {rs:List Int}{f l k m x y a b v w:Nat}
theorem wI(fit:aR rs)(B:f<=l)(D:l<rs.length)(h:Ak rs f l):¬Ak (aw rs f l) f l:=λg=>by
 obtain⟨k,E,H,nk⟩:=h;obtain⟨m,z,J,nm⟩:=g;rw[aG]at z;exact CY fit B D E z H ((nW fit B D z).mp J) nk nm
theorem yG(fit:aR rs)(B:f<=l)(D:l<rs.length)(h:Ak rs f l):aN (aw rs f l)-aN rs<=1/\-1<=aN (aw rs f l)-aN rs:=by
 have E:=aM fit B D;have J:=aG rs f l;have V:=n4 E B (by rw[J];exact D) (wI fit B D h);rw[bX B D]at V;obtain⟨M,O,H⟩:=i5 fit B D;unfold aN;rw[J,<-bN,<-bN];by_cases e:ow (aj rs) f=ow (aj rs) (l+1)
 .have t3:=ET fit B D e;obtain⟨k,Z,tk,nk⟩:=h;have rg:=EU fit B D (by rw[<-C1 fit B D Z tk nk e];exact nk);have H:=(H.resolve_right λz=>z.1 rg).2;omega
 have t2:=ES fit B D;have U:¬Rg rs f (l+1):=λz=>e (FL fit z);have O:=(O.resolve_left λz=>U z.1).2;have H:=(H.resolve_right λz=>z.1 (yF fit B D U)).2;omega
theorem pz(fit:aR rs)(z:f<=l)(B:l<rs.length):aN (aw rs f l)-aN rs<=1/\-1<=aN (aw rs f l)-aN rs:=by
 have D:=aM fit z B;have E:=aG rs f l;by_cases h:Ak rs f l
 .exact yG fit z B h
 by_cases h':Ak (aw rs f l) f l
 .have:=yG D z (by rw[E];exact B) h';rw[bX z B]at this;omega
 have U:=n4 fit z B h;have O:=n4 D z (by rw[E];exact B) h';rw[bX z B]at O;obtain⟨M,H,J⟩:=i5 fit z B;unfold aN;rw[E,<-bN,<-bN];rcases H with⟨_,H⟩|⟨_,H⟩ <;> rcases J with⟨_,J⟩|⟨_,J⟩ <;> omega
theorem C6(fit:aR rs)(z:f<=l)(B:l<rs.length)(H:y=f\/y=l+1)(kn:ow (aj rs) y∈KN rs):Ak rs f l:=by
 refine O2 λno=>?_;have n:NT rs f l y:=⟨by omega,λk D e E=>no ⟨k,D,E,by rw[e];exact kn⟩⟩
 have:=n.ne fit z B;omega
theorem wJ(fit:aR rs)(z:f<=l)(B:l<rs.length)(E:y=f\/y=l+1)(D:NT rs f l x):ow (aj rs) x≠ow (aj rs) y:=λe=>by
 have:=(D.ow fit (y:=y) (by omega) e.symm).ne fit z B;omega
theorem HU(fit:aR rs)(B:f<=l)(D:l<rs.length)(z:NT rs f l x):¬xT (nV rs) (ow (aj rs) x) f (l+1):=by
 rintro(t|t|⟨a,b,J,M,O,U⟩)
 .exact wJ fit B D (.inl rfl) z (aO.mp t).2.symm
 .exact wJ fit B D (.inr rfl) z (aO.mp t).2.symm
 obtain⟨V,E⟩:=aO.mp J;obtain⟨Z,H⟩:=aO.mp M;have s:=(z.ow fit V.1 E).side fit B D (z.ow fit Z.1 H) (by rw[E,H]);unfold Bt at O U;unfold wG at s;omega
theorem C7{β:Type}{lb:Nat->Option β}{p:β}(h:xT lb p x y):xT lb p y x:=by
 rcases h with h|h|h
 .exact .inr (.inl h)
 .exact .inl h
 exact .inr (.inr h.symm)
theorem rp(fit:aR rs)(B:f<=l)(D:l<rs.length)(na:¬Ak (aw rs f l) f l){S:List a7}{C:List (Nat×Nat)}(nc:ER rs f l S C):cY (bV (aw rs f l))<=((S.length+2*C.length:Nat):Int):=by
 have z:=aM fit B D;have H:=aG rs f l;obtain⟨S',C',e1,e2,E⟩:=lI z B (by rw[H];exact D) (S':=S) (C':=C) (by rw[bX B D];exact nc);have:=lJ z (S:=S') (C:=C') λp J=>by
  have kn:=(gU z).mp J;rcases nY (f:=f) (l:=l) z kn with⟨y,M,rfl⟩|⟨k,O,U,rfl⟩
  .exact E y M kn
  exact UU ⟨k,O,U,kn⟩ na
 rw[e1,e2]at this;exact this
theorem zU(fit:aR rs)(ev:∀k,k<rs.length+1->Ev rs k)(np:rs≠aZ rs.length):∃f l,f<=l/\l<rs.length/\aN (aw rs f l)+1<=aN rs:=by
 obtain⟨S,C,vT,le,hS,hC⟩:=nZ fit;have kn:∀y,y<rs.length+1->isOpen (aj rs) y=true->ow (aj rs) y∈KN rs:=λy H O=>(c9 fit).mpr ⟨⟨y,H,O,rfl⟩,λk E _=>ev k E⟩;have sc:∀{f l},aN (aw rs f l)=(rs.length:Int)+1-(cH (aw rs f l)).length+cY (bV (aw rs f l)):=λ{f l}=>by unfold aN;rw[aG,bN]
 have V:aN rs=(rs.length:Int)+1-(cH rs).length+cY (bV rs):=by unfold aN;rw[bN]
 cases C with
 |cons c C =>
  obtain⟨p,q,pq,e1,e2⟩:=hC c Pc;obtain⟨l1,Z⟩:=aO.mp e1;obtain⟨l2,o2⟩:=aO.mp e2;have key:∀x y:Nat,x<y->y<rs.length+1->ow (aj rs) x∈KN rs->ow (aj rs) x≠ow (aj rs) y->(∀p,xT (nV rs) p c.1 c.2->xT (nV rs) p x y)->∃f l,f<=l/\l<rs.length/\aN (aw rs f l)+1<=aN rs:=λx y Hi H kx ne tc=>by
   obtain⟨l,rfl⟩:∃l,y=l+1:=⟨y-1,by omega⟩
   refine⟨x,l,by omega,by omega,?_⟩;have B:x<=l:=by omega
   have D:l<rs.length:=by omega
   have ak:=C6 fit B D (.inl rfl) kx;have cb:=rp fit B D (wI fit B D ak) (S:=S) (C:=C) λz nt kz=>by
    rcases vT _ ((gU fit).mpr kz)with h|⟨d,hd,t⟩
    .exact .inl h
    rcases Pq.mp hd with rfl|hd
    .exact UU (tc _ t) (HU fit B D nt)
    exact .inr ⟨d,hd,t⟩
   obtain⟨M,U,J⟩:=i5 fit B D;rw[sc,V];rw[QK]at le;rcases U with⟨_,U⟩|⟨_,U⟩ <;> rcases J with⟨_,J⟩|⟨_,J⟩ <;> omega
  have ne:c.1≠c.2:=λz=>pq (by rw[z]at Z;rw[<-Z,<-o2]);by_cases lt:c.1<c.2
  .exact key c.1 c.2 lt l2.1 l1.2.2 (by rw[Z,o2];exact pq) λp t=>t
  exact key c.2 c.1 (by omega) l1.1 l2.2.2 (by rw[Z,o2];exact Ne.symm pq) λp t=>C7 t
 |nil =>
  cases S with
  |nil =>
   exfalso;refine np ((mw fit).mp (O2 λnr=>?_));have:∃y,y<rs.length+1/\isOpen (aj rs) y=true:=O2 λno=>by
    have sh:∀y,y<rs.length+1->isOpen (aj rs) y=false:=λy H=>SF.mpr λz=>no ⟨y,H,z⟩;refine nr ((mw fit).mpr ?_);have val:∀j,j<rs.length+2->(aj rs).getD j 0=j:=λj=>by
     induction j with
     |zero=>intro _;exact cB rs
     |succ j ih =>
      intro hj;have B:=ih (by omega);have D:=sh j (by omega);unfold isOpen at D;rw[Vx,Decidable.not_not]at D;rw[D,B];omega
    refine QV λi=>?_;by_cases hi:i<rs.length
    .have B:=val (i+1) (by omega);rw[ft hi]at B;rw[getD_get hi,B];unfold aZ;rw[O6,QM hi];exact congrArg some (show((i+1:Nat):Int)=1+(i:Int) by omega)
    rw[Qc (by omega),Qc (by rw[dE];omega)]
   obtain⟨y,H,O⟩:=this;rcases vT _ ((gU fit).mpr (kn y H O))with h|⟨c,hc,_⟩
   .cases h
   cases hc
  |cons s S =>
   have ks:=hS s Pc;obtain⟨⟨y,H,O,ey⟩,_⟩:=(c9 fit).mp ks;obtain⟨k,E,ek,ok⟩:=ia fit (x:=2*y) (by omega);rw[show 2*y/2=y by omega]at ok;have lA:=(cU fit E).2;have lB:=(dU fit E).2;have rg:=sR fit E;have ne0:=eO fit E E;have dif:pA rs k/2≠pB rs k/2:=λz=>by
    have:isOpen (aj rs) y=false:=(i4 fit H).mpr ⟨k,E,by unfold cK at ek;omega⟩;rw[this]at O;cases O
   have gA:=h9 fit E (.inl rfl);have gB:=h9 fit E (.inr rfl);have key:∀x z:Nat,x<z->z<rs.length+1->ow (aj rs) x=s->Rg rs x z->∃f l,f<=l/\l<rs.length/\aN (aw rs f l)+1<=aN rs:=λx z hxz hz ox rg=>by
    obtain⟨l,rfl⟩:∃l,z=l+1:=⟨z-1,by omega⟩
    refine⟨x,l,by omega,by omega,?_⟩;have B:x<=l:=by omega
    have D:l<rs.length:=by omega
    have ak:=C6 fit B D (.inl rfl) (by rw[ox];exact ks);have cb:=rp fit B D (wI fit B D ak) (S:=S) (C:=[]) λz nt kz=>by
     rcases vT _ ((gU fit).mpr kz)with h|⟨d,hd,t⟩
     .rcases Pq.mp h with h|h
      .exact UU (by rw[h,ox]) (wJ fit B D (.inl rfl) nt)
      exact .inl h
     cases hd
    obtain⟨M,U,J⟩:=i5 fit B D;have U:=(U.resolve_right λz=>z.1 rg).2;rw[sc,V];rw[QK]at le;rcases J with⟨_,J⟩|⟨_,J⟩ <;> omega
   by_cases lt:pA rs k/2<pB rs k/2
   .exact key _ _ lt (by omega) (by rw[gA,<-ok,ey]) rg
   exact key _ _ (by omega) (by omega) (by rw[gB,<-ok,ey]) rg.symm
structure Cut(rs:List Int) (f l v:Nat):Prop where
 le:f<=l
 lt:l<rs.length
 two:(pA rs v=2*f/\pB rs v=2*l+2)\/(pB rs v=2*f/\pA rs v=2*l+2)\/(pA rs v=2*f+1/\pB rs v=2*l+3)\/(pB rs v=2*f+1/\pA rs v=2*l+3)
theorem HV(fit:aR rs)(B:v<rs.length+1)(J:¬Ev rs v):∃f l,Cut rs f l v:=by
 have M:=(cU fit B).2;have O:=(dU fit B).2;have ne:=eO fit B B;unfold Ev at J;have key:∀u w:Nat,(u+w)%2≠1->u<w->w<2*rs.length+2->∃f l,f<=l/\l<rs.length/\(u=2*f/\w=2*l+2\/u=2*f+1/\w=2*l+3):=λu w D E H=>by
  refine⟨u/2,w/2-1,by omega,by omega,?_⟩;by_cases z:u%2=0
  .exact .inl ⟨by omega,by omega⟩
  exact .inr ⟨by omega,by omega⟩
 by_cases c:pA rs v<pB rs v
 .obtain⟨f,l,D,E,H⟩:=key _ _ J c O;exact⟨f,l,D,E,H.elim .inl λz=>.inr (.inr (.inl z))⟩
 obtain⟨f,l,D,E,H⟩:=key _ _ (by rw[Nat.add_comm];exact J) (by omega) M;exact⟨f,l,D,E,H.elim (λz=>.inr (.inl z)) λz=>.inr (.inr (.inr z))⟩
theorem FO{u w z:Nat}(B:f<=l)(h:u=2*f/\w=2*l+2\/u=2*f+1/\w=2*l+3)(D:u≠z)(E:w≠z):In f l z↔Bt u w z:=by
 rw[jR (by omega)];unfold In;rcases h with⟨rfl,rfl⟩|⟨rfl,rfl⟩
 .exact⟨λh=>⟨h.1,by omega⟩,λh=>⟨h.1,by omega⟩⟩
 exact⟨λh=>⟨by omega,by omega⟩,λh=>⟨by omega,by omega⟩⟩
theorem Cut.ends(c:Cut rs f l v):(pA rs v=2*f/\pB rs v=2*l+2\/pA rs v=2*f+1/\pB rs v=2*l+3)\/(pB rs v=2*f/\pA rs v=2*l+2\/pB rs v=2*f+1/\pA rs v=2*l+3):=by
 rcases c.two with h|h|h|h
 .exact .inl (.inl h)
 .exact .inr (.inl h)
 .exact .inl (.inr h)
 exact .inr (.inr h)
theorem Cut.KH(c:Cut rs f l v){z:Nat}(B:pA rs v≠z)(D:pB rs v≠z):In f l z↔Bt (pA rs v) (pB rs v) z:=by
 rcases c.ends with h|h
 .exact FO c.le h B D
 rw[cg];exact FO c.le h D B
theorem C8{u w:Nat}(B:f<=l)(h:u=2*f/\w=2*l+2\/u=2*f+1/\w=2*l+3):In f l u↔¬In f l w:=by
 rcases h with⟨rfl,rfl⟩|⟨rfl,rfl⟩
 .exact⟨λz=>by have:=z.1;omega,λz=>UU ⟨by omega,by omega⟩ z⟩
 exact⟨λ_ z=>by have:=z.2;omega,λ_=>⟨by omega,by omega⟩⟩
theorem Cut.X(fit:aR rs)(B:v<rs.length+1)(c:Cut rs f l v):X rs f l v:=by
 rcases c.ends with h|h
 .exact C8 c.le h
 exact xr.mpr λz=>xr.mp (C8 c.le h) z.symm
theorem Cut.Xk(fit:aR rs)(z:v<rs.length+1)(c:Cut rs f l v)(B:k<rs.length+1)(ne:k≠v):Hp.X rs f l k↔jB rs k v:=by
 have e:jB rs k v↔jB rs v k:=⟨jB.symm,jB.symm⟩
 rw[e,sP fit z B (Ne.symm ne)];unfold Hp.X;rw[c.KH (λe=>ne (rW fit z B e).symm) (Ne.symm (eO fit B z)),c.KH (eO fit z B) λe=>ne (rX fit z B e).symm]
theorem C9{u w:Nat}(B:f<=l)(h:u=2*f/\w=2*l+2\/u=2*f+1/\w=2*l+3):∃g,(g=f\/g=l+1)/\(pi f l u=2*g/\pi f l w=2*g+1):=by
 rcases h with⟨rfl,rfl⟩|⟨rfl,rfl⟩
 .exact⟨f,.inl rfl,d9 λz=>by have:=z.1;omega,by rw[fj ⟨by omega,by omega⟩];omega⟩
 exact⟨l+1,.inr rfl,by rw[fj ⟨by omega,by omega⟩];omega,d9 λz=>by have:=z.2;omega⟩
theorem Cut.KJ(fit:aR rs)(D:v<rs.length+1)(c:Cut rs f l v):∃g,(g=f\/g=l+1)/\((pA (aw rs f l) v=2*g/\pB (aw rs f l) v=2*g+1)\/(pA (aw rs f l) v=2*g+1/\pB (aw rs f l) v=2*g)):=by
 rw[gf fit c.le c.lt D,gg fit c.le c.lt D];rcases c.ends with h|h
 .obtain⟨g,B,z⟩:=C9 c.le h;exact⟨g,B,.inl z⟩
 obtain⟨g,B,z⟩:=C9 c.le h;exact⟨g,B,.inr ⟨z.2,z.1⟩⟩
theorem uX{g z:Nat}(h:(pA rs v=2*g/\pB rs v=2*g+1)\/(pA rs v=2*g+1/\pB rs v=2*g))(e:z/2=g):cK rs v z:=by
 unfold cK;rcases h with⟨B,D⟩|⟨B,D⟩ <;> rw[B,D] <;> omega
theorem EV(fit:aR rs)(J:v<rs.length+1){g:Nat}(h:(pA rs v=2*g/\pB rs v=2*g+1)\/(pA rs v=2*g+1/\pB rs v=2*g))(r:Rg rs x y):x=g↔y=g:=by
 have key:∀{x y:Int},Cn (bU rs) x y->(x.toNat=g↔y.toNat=g):=λ{x y} h'=>by
  induction h' with
  | @base p U =>
   obtain⟨k,D⟩:=PF U;have B:k<rs.length+1:=by rw[<-gG rs];exact(O1.mp D).1
   rw[b6 B]at D;obtain rfl:=Option.some.inj D;show(bP rs k).toNat=g↔(cE rs (k+1)).toNat=g;rw[<-Hf fit B,<-Hg fit B];have both:k=v->pA rs k/2=g/\pB rs k/2=g:=λe=>by
    subst e;rcases h with⟨M,O⟩|⟨M,O⟩ <;> rw[M,O] <;> exact⟨by omega,by omega⟩
   exact⟨λz=>(both (iQ fit B J (.inl rfl) (uX h z))).2,λz=>(both (iQ fit B J (.inr rfl) (uX h z))).1⟩
  |refl x=>exact UG
  |symm _ V=>exact V.symm
  |trans _ _ E H=>exact E.trans H
 exact key r
def As(rs:List Int)(v k:Nat):Prop:=(Ev rs k/\jB rs k v)\/(¬Ev rs k/\¬jB rs k v)
noncomputable def wK(rs:List Int)(v:Nat):List Nat:=(Pu (rs.length+1)).filter λk=>decide (As rs v k)
theorem jx:k∈wK rs v↔k<rs.length+1/\As rs v k:=by
 unfold wK;rw[O9,Pm,U5]
theorem sU:(wK rs v).Nodup:=Uj.sublist PY
theorem safe(fit:aR rs)(V:v<rs.length+1)(od:¬Ev rs v)(mx:∀w,w<rs.length+1->¬Ev rs w->(wK rs w).length<=(wK rs v).length)(c:Cut rs f l v):¬Ak (aw rs f l) f l:=by
 rintro⟨k,hk,⟨w,hw,xw,cw⟩,kn⟩;have Z:=c.le;have h2:=c.lt;have B:=aM fit Z h2;have tl:=aG rs f l;have NB:v<(aw rs f l).length+1:=by rw[tl];exact V
 have J:=(fh B hk hw).mp cw;rw[tl]at hw;have xw:=(sO fit Z h2 hw).mp xw;obtain⟨⟨g0,hg0,og0,eg0⟩,kev⟩:=(c9 B).mp kn;have inK:∀u,u<rs.length+1->iq (aw rs f l) u=iq (aw rs f l) k->Ev (aw rs f l) u:=λu D e=>kev u (by rw[tl];exact D) e;have wv:w≠v:=λe=>by
  obtain⟨g,hg,sh⟩:=c.KJ fit V;have gl:g<(aw rs f l).length+1:=by rw[tl];omega
  have s:=(i4 B gl).mpr ⟨v,NB,sh⟩;have o:ow (aj (aw rs f l)) g=iq (aw rs f l) v:=by
   rcases sh with⟨z,_⟩|⟨z,_⟩
   .have:=h9 B NB (x:=pA (aw rs f l) v) (.inl rfl);rwa[show pA (aw rs f l) v/2=g by omega]at this
   have:=h9 B NB (x:=pA (aw rs f l) v) (.inl rfl);rwa[show pA (aw rs f l) v/2=g by omega]at this
  have:=i0 B hg0 gl eg0 (by rw[o,<-e,<-J]) og0;rw[s]at this;cases this
 have M:¬Ev rs w:=λz=>((jw fit Z h2 hw).mp (inK w hw J.symm)).mp z xw;have ND:jB rs w v:=(c.Xk fit V hw wv).mp xw;have xv:=c.X fit V;have cr:∀u,u<rs.length+1->jB (aw rs f l) u w->Ev (aw rs f l) u:=λu D z=>inK u D (by rw[J,rZ B (by rw[tl];exact D) (by rw[tl];exact hw) z]);have s1:∀u,u<rs.length+1->Ev rs u->jB rs u v->jB rs u w:=λu D E cu=>O2 λno=>by
  have H:u≠v:=λe=>od (by rw[<-e];exact E);have O:u≠w:=λe=>M (by rw[<-e];exact E);have xu:=(c.Xk fit V D H).mpr cu;have:=cr u D ((i3 fit Z h2 D hw O).mpr ⟨λz=>UU z no,λz=>UU ⟨xu,xw⟩ z⟩);exact((jw fit Z h2 D).mp this).mp E xu
 have s2:∀u,u<rs.length+1->u≠v->¬Ev rs u->¬jB rs u v->¬jB rs u w:=λu D H E cu no=>by
  have O:u≠w:=λe=>cu (by rw[e];exact ND);have xu:¬Hp.X rs f l u:=λz=>cu ((c.Xk fit V D H).mp z);have:=cr u D ((i3 fit Z h2 D hw O).mpr ⟨λ_ z=>xu z.1,λ_=>no⟩);exact E (((jw fit Z h2 D).mp this).mpr xu)
 have vA:v∈wK rs v:=jx.mpr ⟨V,.inr ⟨od,lH⟩⟩;have wA:w∈wK rs w:=jx.mpr ⟨hw,.inr ⟨M,lH⟩⟩;have sub:∀u∈(wK rs v).erase v,u∈(wK rs w).erase w:=λu D=>by
  obtain⟨H,D⟩:=(sU.mem_erase_iff).mp D;obtain⟨ul,D⟩:=jx.mp D;refine(sU.mem_erase_iff).mpr ⟨λe=>?_,jx.mpr ⟨ul,?_⟩⟩
  .subst e;rcases D with⟨z,_⟩|⟨_,z⟩
   .exact M z
   exact z ND
  rcases D with⟨z1,z2⟩|⟨z1,z2⟩
  .exact .inl ⟨z1,s1 u ul z1 z2⟩
  exact .inr ⟨z1,s2 u ul H z1 z2⟩
 have eqs:∀u∈(wK rs w).erase w,u∈(wK rs v).erase v:=λu D=>O2 λno=>by
  have:=bY (xs:=u::(wK rs v).erase v) (ys:=(wK rs w).erase w) (PX.mpr ⟨no,sU.erase _⟩) λz hz=>by
   rcases Pq.mp hz with rfl|hz
   .exact D
   exact sub z hz
  rw[QK,Qs vA,Qs wA]at this;have:=mx w hw M;have:=Qm vA;omega
 have same:∀u,u<rs.length+1->u≠v->u≠w->(jB rs u w↔jB rs u v):=λu D H O=>by
  have bk:As rs w u->As rs v u:=λz=>(jx.mp (RB (eqs u ((sU.mem_erase_iff).mpr ⟨O,jx.mpr ⟨D,z⟩⟩)))).2;by_cases E:Ev rs u
  .exact⟨λz=>((bk (.inl ⟨E,z⟩)).resolve_right λq=>q.1 E).2,s1 u D E⟩
  exact⟨λz=>O2 λq=>s2 u D H E q z,λz=>O2 λq=>((bk (.inr ⟨E,q⟩)).resolve_left λq=>E q.1).2 z⟩
 have NF:∀u,u<rs.length+1->¬jB (aw rs f l) u w:=λu D z=>by
  by_cases O:u=w
  .rw[O]at z;exact lH z
  have z:=(i3 fit Z h2 D hw O).mp z;by_cases H:u=v
  .subst H;exact z.mp ND.symm ⟨xv,xw⟩
  have s:=same u D H O;have xu:=c.Xk fit V D H;by_cases q:jB rs u v
  .exact z.mp (s.mpr q) ⟨xu.mpr q,xw⟩
  exact q (s.mp (z.mpr λr=>q (xu.mp r.1)))
 have co:∀{u},Co (aw rs f l) w u->u=w:=λ{u} h=>by
  have h:=h.symm;cases h.symm with
  |refl=>rfl
  | @step a _ h' ha hb cc =>
   have key:∀{u},Co (aw rs f l) w u->u=w:=λ{u} h=>by
    induction h with
    |refl=>rfl
    | @step a b _ ha hb cc ih =>
     rw[ih]at cc;rw[tl]at hb;exact UU cc.symm (NF b hb)
   exact key (h'.step ha hb cc)
 have U:w<(aw rs f l).length+1:=by rw[tl];exact hw
 have gl:pA (aw rs f l) w/2<(aw rs f l).length+1:=by have:=(cU B U).2;omega
 have gA:=h9 B U (x:=pA (aw rs f l) w) (.inl rfl);have pt:∀x,x<2*(aw rs f l).length+2->x/2=pA (aw rs f l) w/2->cK (aw rs f l) w x:=λx hx e=>by
  obtain⟨u,D,E,ou⟩:=ia B hx;rw[e,gA]at ou;rw[co ((fh B U D).mpr ou)]at E;exact E
 have o:=i0 B hg0 gl eg0 (by rw[gA,<-J]) og0;have e0:=pt (2*(pA (aw rs f l) w/2)) (by omega) (by omega);have e1:=pt (2*(pA (aw rs f l) w/2)+1) (by omega) (by omega);have s:=(i4 B gl).mpr ⟨w,U,by unfold cK at e0 e1;omega⟩;rw[s]at o;cases o
theorem Dc(fit:aR rs)(D:v<rs.length+1)(J:¬Ev rs v):∃f l,f<=l/\l<rs.length/\aN (aw rs f l)+1<=aN rs:=by
 obtain⟨mxc,⟨v,D,J,rfl⟩,mx⟩:=vV (P:=λc=>∃v,v<rs.length+1/\¬Ev rs v/\(wK rs v).length=c) (N:=rs.length+1) (λc hc=>by
  obtain⟨v,_,_,rfl⟩:=hc;unfold wK;exact PH (PN _ _) (by rw[PL];exact O5 _)) ⟨v,D,J,rfl⟩
 obtain⟨f,l,c⟩:=HV fit D J;have E:=c.le;have H:=c.lt;have B:=aM fit E H;have O:=aG rs f l;refine⟨f,l,E,H,?_⟩;have U:=safe fit D J (λw hw ow=>mx _ ⟨w,hw,ow,rfl⟩) c;have t1:=n4 B E (by rw[O];exact H) U;rw[bX E H]at t1;obtain⟨M,r1,r2⟩:=i5 fit E H;have rg:Rg rs f (l+1):=by
  have r:=sR fit D;have hf:∀u w:Nat,u=2*f/\w=2*l+2\/u=2*f+1/\w=2*l+3->u/2=f/\w/2=l+1:=λu w h=>by
   rcases h with⟨rfl,rfl⟩|⟨rfl,rfl⟩ <;> exact⟨by omega,by omega⟩
  rcases c.ends with h|h
  .obtain⟨V,Z⟩:=hf _ _ h;rwa[V,Z]at r
  obtain⟨V,Z⟩:=hf _ _ h;rw[V,Z]at r;exact r.symm
 have nr:¬Rg (aw rs f l) f (l+1):=λz=>by
  obtain⟨g,hg,sh⟩:=c.KJ fit D;have:=EV B (by rw[O];exact D) sh z;omega
 have r1:=(r1.resolve_right λz=>z.1 rg).2;have r2:=(r2.resolve_left λz=>nr z.1).2;unfold aN;rw[O,<-bN,<-bN];omega
theorem EW:0<=cY (bV rs):=by unfold cY;split <;> omega
theorem pC(fit:aR rs):0<=aN rs/\(aN rs=0↔rs=aZ rs.length):=by
 have H:=zg fit;have D:=mw fit;have cn:=EW (rs:=rs);unfold aN;rw[<-bN];refine⟨by omega,λh=>D.mp (by omega),λh=>?_⟩;have r:=D.mpr h;have kn:KN rs=[]:=Sa.mpr λp B=>by
  obtain⟨⟨g,J,E,_⟩,_⟩:=(c9 fit).mp B;have e:∀j,j<rs.length+2->(aj rs).getD j 0=j:=λj M=>by
   cases j with
   |zero=>exact cB rs
   |succ j =>
    by_cases z:j<rs.length
    .rw[ft z,h];unfold aZ;rw[Py,O6,QM z];show(1+(j:Int))=_;omega
    rw[show j=rs.length by omega,bE];omega
  unfold isOpen at E;have:=U0 E;rw[e g (by omega),e (g+1) (by omega)]at this;omega
 have c0:=lJ fit (S:=[]) (C:=[]) λp B=>by
  have:=(gU fit).mp B;rw[kn]at this;cases this
 have:((([]:List a7).length+2*([]:List (Nat×Nat)).length:Nat):Int)=0:=rfl;omega
theorem KL(fit:aR rs)(h:aN rs≠0):∃f l,f<=l/\l<rs.length/\aN (aw rs f l)=aN rs-1:=by
 have np:rs≠aZ rs.length:=λz=>h ((pC fit).2.mpr z);have:∃f l,f<=l/\l<rs.length/\aN (aw rs f l)+1<=aN rs:=by
  by_cases B:∀k,k<rs.length+1->Ev rs k
  .exact zU fit B np
  obtain⟨v,B⟩:=Ta.mp B;obtain⟨H,J⟩:=TR.mp B;exact Dc fit H J
 obtain⟨f,l,D,E,le⟩:=this;have:=pz fit D E;exact⟨f,l,D,E,by omega⟩
end
end Hp
namespace aC
open PySem L2 NK
theorem FP(x:Int):∀l:List Int,pJ (.int x) (iV l)=decide (x∈l)
 |[]=>rfl
 |y::r=>by
  have B:=FP x r;unfold pJ at B⊢;show((decide (y=x))||(iV r).any _)=_;rw[B];by_cases c:x=y
  .subst c;rw[UX (rfl:x=x),T5,UX Pc]
  rw[U1 (λz=>c z.symm),Tw];exact decide_eq_decide.mpr ⟨λz=>Pj _ z,λz=>(Pq.mp z).resolve_left c⟩
theorem EX(l:List Int):(iV l).all ku=true:=QL.mpr λv z=>by
 obtain⟨x,_,rfl⟩:=O4.mp z
 rfl
def sV:Sp:=λvs H Q _=>∃(t:UR) (rs:List Int),vs=[.ref t]/\H t=Yl (.tup (iV rs))/\aR rs/\∀z:Hp,ax H z->Q (.int (cY (bV rs))) z
def mZ(K:Pa):Sp:=λvs H Q _=>∃(a:UR) (ns:List Int) (at' room:Nat),vs=[.ref a,.int at',.int room]/\bc K H a (ns.map V.int)/\ns.length<=63/\at'<=63/\room<=41 /\
 ∀(t:UR) (z:Hp) (rs:List Int),ax H z->z t=Yl (.tup (iV rs))->4<=rs.length->aR rs->Q (.ref t) z
def lK(K:Pa):Sp:=λvs H Q _=>∃(a:UR) (ns:List Int) (n:Nat),vs=[.ref a,.int n]/\bc K H a (ns.map V.int)/\ns.length<=63/\1<=n/\n<=40/\∀(l:UR) (z:Hp) (cs:List (Int×Int)),ax H z->df pr z l cs->mW n cs->Q (.ref l) z
def jJ:Sp:=λvs H Q _=>∃(t:UR) (rs:List Int),vs=[.ref t,.int (aN rs)]/\H t=Yl (.tup (iV rs))/\aR rs/\∀z,ax H z->Q (.bl true) z
theorem uY{n f l:Nat}(z:f<=l)(B:l<n):((f:Int),(l:Int))∈b5 n n:=by
 unfold b5;refine Q3.mpr ⟨f,Pm.mpr (by omega),O4.mpr ⟨l-f,Pm.mpr (by omega),?_⟩⟩;exact Ur rfl (show(f:Int)+((l-f:Nat):Int)=l by omega)
end aC
set_option maxHeartbeats 2000000
open aC (gH iV aT aj jI a6 dw iN aE iJ iK jn pW bw su Sn FG gr gu h7 cF Kn fO Aa nC uf cG GK ow Bw GI kZ wo gX KD iy jC cq iW nT j8 Es uJ pN cX eV bb d8 fw aP gP lj cN iU mF Nd RW aJ Cc sD sE cC di ir d5 dM mG wt jZ Cd cW sC dI sG bV bH cY sV aN rP iF b5 kG Rw aW cA bF pX mW aZ aw)
open NK (fQ iR so zD)
namespace Law
open PySem L2
noncomputable def top(i:Nat):Stmt:=PySem.Challenge.pw_claspwork_k51_whole_no_turn_saves_two.main.body.getD i (.Pass ⟨0,0,0,0⟩)
noncomputable abbrev dk:Stmt:=top 1
noncomputable abbrev eR:Stmt:=top 2
noncomputable abbrev fT:Stmt:=top 3
noncomputable abbrev eS:Stmt:=top 4
noncomputable abbrev bR:Stmt:=top 5
noncomputable abbrev c6:Stmt:=top 6
noncomputable abbrev ew:Stmt:=top 7
noncomputable abbrev fU:Stmt:=top 8
noncomputable abbrev eA:Stmt:=top 10
noncomputable abbrev i6:Stmt:=top 11
noncomputable abbrev bW:Stmt:=top 12
noncomputable abbrev dm:Stmt:=top 13
noncomputable abbrev c7:Stmt:=top 14
noncomputable abbrev gV:Stmt:=top 15
noncomputable abbrev fV:Stmt:=top 16
noncomputable abbrev eT:Stmt:=top 17
noncomputable abbrev eU:Stmt:=top 18
noncomputable abbrev eW:Stmt:=top 19
noncomputable abbrev fy:Stmt:=top 20
noncomputable abbrev fz:Stmt:=top 25
noncomputable abbrev gj:Stmt:=top 26
noncomputable abbrev dq:Stmt:=top 28
noncomputable abbrev cM:Stmt:=top 29
noncomputable abbrev dZ:Stmt:=top 30
noncomputable abbrev gm:Stmt:=top 31
noncomputable abbrev da:Stmt:=top 32
noncomputable abbrev Dd:Stmt:=top 33
theorem zV:aY ["row"] ["row"] (aB dk):=⟨rfl,rfl,rfl,by decide +kernel,rfl,by decide +kernel,by decide +kernel⟩
theorem lN:aY ["row","numbers"] ["row"] (aB eR):=⟨rfl,rfl,rfl,by decide +kernel,rfl,by decide +kernel,by decide +kernel⟩
theorem eX:aY ["row","leaving","coming","place","number"] ["row"] (aB fT):=⟨rfl,rfl,rfl,by decide +kernel,rfl,by decide +kernel,by decide +kernel⟩
theorem sW:aY ["row"] ["row"] (aB eS):=⟨rfl,rfl,rfl,by decide +kernel,rfl,by decide +kernel,by decide +kernel⟩
theorem a8:aY ["pairs","groups","first","second","kept","lost","number","found","place","pair"] ["pairs"] (aB bR):=⟨rfl,rfl,rfl,by decide +kernel,rfl,by decide +kernel,by decide +kernel⟩
theorem ib:aY ["row","numbers","spans"] ["row"] (aB c6):=⟨rfl,rfl,rfl,by decide +kernel,rfl,by decide +kernel,by decide +kernel⟩
theorem dB:aY ["numbers","first","begin","sign","highest","last","amount"] ["numbers","first"] (aB ew):=⟨rfl,rfl,rfl,by decide +kernel,rfl,by decide +kernel,by decide +kernel⟩
theorem eY:aY ["row","told","first","last","gap"] ["row"] (aB fU):=⟨rfl,rfl,rfl,by decide +kernel,rfl,by decide +kernel,by decide +kernel⟩
theorem dJ:aY ["row","numbers","belongs","minuses","gap","beside"] ["row"] (aB eA):=⟨rfl,rfl,rfl,by decide +kernel,rfl,by decide +kernel,by decide +kernel⟩
theorem eB:aY ["kins","web","kin","group","chain","linked"] ["kins"] (aB i6):=⟨rfl,rfl,rfl,by decide +kernel,rfl,by decide +kernel,by decide +kernel⟩
theorem fW:aY ["chain","kins","around"] ["chain","kins"] (aB bW):=⟨rfl,rfl,rfl,by decide +kernel,rfl,by decide +kernel,by decide +kernel⟩
theorem bO:aY ["row","knots","web","spare","thing","linked"] ["row"] (aB dm):=⟨rfl,rfl,rfl,by decide +kernel,rfl,by decide +kernel,by decide +kernel⟩
theorem nE:aY ["web","knots"] ["web","knots"] (aB c7):=⟨rfl,rfl,rfl,by decide +kernel,rfl,by decide +kernel,by decide +kernel⟩
theorem wL:aY ["web"] ["web"] (aB gV):=⟨rfl,rfl,rfl,by decide +kernel,rfl,by decide +kernel,by decide +kernel⟩
theorem eZ:aY ["end","web","leg","onward","thing"] ["end","web"] (aB fV):=⟨rfl,rfl,rfl,by decide +kernel,rfl,by decide +kernel,by decide +kernel⟩
theorem fA:aY ["row","knots","web","legs"] ["row"] (aB eT):=⟨rfl,rfl,rfl,by decide +kernel,rfl,by decide +kernel,by decide +kernel⟩
theorem sX:aY ["row"] ["row"] (aB eU):=⟨rfl,rfl,rfl,by decide +kernel,rfl,by decide +kernel,by decide +kernel⟩
theorem lP:aY ["legs","many"] ["legs"] (aB eW):=⟨rfl,rfl,rfl,by decide +kernel,rfl,by decide +kernel,by decide +kernel⟩
theorem qc:aY ["row"] ["row"] (aB fy):=⟨rfl,rfl,rfl,by decide +kernel,rfl,by decide +kernel,by decide +kernel⟩
theorem jK:aY ["row","first","last","turned"] ["row","first","last"] (aB fz):=⟨rfl,rfl,rfl,by decide +kernel,rfl,by decide +kernel,by decide +kernel⟩
theorem ic:aY ["many","turns","first"] ["many"] (aB gj):=⟨rfl,rfl,rfl,by decide +kernel,rfl,by decide +kernel,by decide +kernel⟩
theorem pD:aY ["script","k"] ["script","k"] (aB dq):=⟨rfl,rfl,rfl,by decide +kernel,rfl,by decide +kernel,by decide +kernel⟩
theorem aU:aY ["script","at","many","row","k","cell","first","stretch"] ["script","at","many"] (aB cM):=⟨rfl,rfl,rfl,by decide +kernel,rfl,by decide +kernel,by decide +kernel⟩
theorem aS:aY ["script","at","room","row","k","cell","spot","low","inner","flipped"] ["script","at","room"] (aB dZ):=⟨rfl,rfl,rfl,by decide +kernel,rfl,by decide +kernel,by decide +kernel⟩
theorem fB:aY ["script","many","found","cell","first"] ["script","many"] (aB gm):=⟨rfl,rfl,rfl,by decide +kernel,rfl,by decide +kernel,by decide +kernel⟩
theorem lQ:aY ["row","score"] ["row","score"] (aB da):=⟨rfl,rfl,rfl,by decide +kernel,rfl,by decide +kernel,by decide +kernel⟩
theorem d4:aY ["script","head","row","long_one","turns","score","saved","first","last","behind","other"] ["script"] (aB Dd):=⟨rfl,rfl,rfl,by decide +kernel,rfl,by decide +kernel,by decide +kernel⟩
structure Bl(mg:Vg->Option UP):Prop where
 «abs»:mg "abs" = none
 «all»:mg "all" = none
 «any»:mg "any" = none
 «bool»:mg "bool" = none
 «enumerate»:mg "enumerate" = none
 «int»:mg "int" = none
 «isinstance»:mg "isinstance" = none
 «len»:mg "len" = none
 «list»:mg "list" = none
 «max»:mg "max" = none
 «range»:mg "range" = none
 «reversed»:mg "reversed" = none
 «sorted»:mg "sorted" = none
 «tuple»:mg "tuple" = none
section
variable {P:U3}{w:U4}{K:Pa}{mg:Vg->Option UP}{base:Vd}
theorem jy{f:UR}{O:Va}(B:Bl mg)(F:Fn K mg "framed" dk ["row"] f O):a4 P w K mg base cQ 1 f O ["row"] gH:=by
 refine F.fn.ok zV (λvs H Q E h=>?_) (λkB A outer s H vs Q E hr h=>?_)
 .obtain⟨t,rs,rfl,_⟩:=h
  rfl
 obtain⟨t,rs,rfl,U,hn,k⟩:=h;refine⟨_,(aA (a9 (aK nM (aK nM (jP (af av ai)) (pv 0)) (jP (af (aK bo (aI aD rfl B.len bu (af (pv 0) ai)) av) ai))))),?_⟩;have z:(iV rs).length=rs.length:=aT rs;refine⟨by show 1<=U2;decide,λp hp=>?_⟩;have V:ax H (upd H p (.tup [.int 0])):=au hp;refine⟨_,rfl,p,t,_,_,rfl,rfl,ag,V _ _ U,Qo (aF (by show 1+_<=1000;omega)),λq Z s2 hq=>?_⟩;have D:=V.trans s2;refine⟨_,rfl,t,_,rfl,.inr (bZ.of (D _ _ U)),_,_,rfl,rfl,by show 1<=U2;decide,λr J=>?_⟩;have s3:ax Z (upd Z r (.tup [.int (((iV rs).length:Nat)+1)])):=au J;refine⟨q,r,_,_,rfl,rfl,s3 _ _ hq,ag,Qo (aF (by rw[O7,z];show 1+_+1<=1000;omega)),λt' H2 s4 M=>?_⟩;refine k t' H2 ((D.trans s3).trans s4) ?_;rw[M,z];unfold aj iV;rw[Qk,Pb]
 rfl
theorem sY{f f1:UR}{fd Z:Va}(B:Bl mg)(F:Fn K mg "open_gaps" eR ["row"] f fd)(J:Fn K mg "framed" dk ["row"] f1 Z):a4 P w K mg base cQ 2 f fd ["row"] aC.oS:=by
 have M:a4 P w K mg base cQ 1 f1 Z ["row"] gH:=jy B J;refine F.fn.ok lN (λvs H Q E h=>?_) (λkB A outer s H vs Q E hr h=>?_)
 .obtain⟨t,rs,rfl,_⟩:=h
  rfl
 obtain⟨t,rs,rfl,ht,hn,k⟩:=h;refine⟨_,(ah (aH (i:=1) lN.nd rfl (Or.inr rfl) (bA M J (hr.mono (by decide)) (af (pv 0) ai)))
  (aA (a9 (du (NC:=["gap","numbers"]) rfl (dv (c:=s.heap.objs.size+1) (j:=1) rfl (by decide +kernel) (by decide +kernel) rfl rfl rfl rfl rfl) (fD rfl B.range (af (aK bo (aI aD rfl B.len bu (af (pv 0) ai)) av) ai)) (λ_ _ _ _=>(aL (i:=0) (show(["gap","numbers"]:List Vg).Nodup by decide +kernel) rfl (Or.inl rfl))) (λ_ _ _ _=>(gb (aV Jp (b0 (fq (K:=K) rfl) (pv 1) (aK bo (pv 0) av) (λ_ _=>rfl)) (aK bo (b0 (fq (K:=K) rfl) (pv 1) (pv 0) (λ_ _=>rfl)) av) (a5 _)))) (λ_ _ _ _=>(pv 0)))))),?_⟩
 have O:(iV rs).length=rs.length:=aT rs;refine⟨_,rfl,t,rs,rfl,ht,hn,λt1 H1 s1 yW=>?_⟩;refine⟨_,rfl,t,_,rfl,.inr (bZ.of (s1 _ _ ht)),_,_,rfl,rfl,_,rfl,by rw[O];omega,by rw[O];omega,λD hD=>?_⟩;refine fL (λi σ H2=>∃v:Option V,σ=[v,Yl (.ref t1)]/\ax H1 H2/\H2 D=Yl (.lst (iV (jI (aj rs) i)))) ⟨none,rfl,au hD,ag⟩ ?_ ?_
 .rintro i σ H2 hi ⟨v,rfl,U,h2⟩;rw[O]at hi;have hi:i<rs.length+1:=by omega
  rw[Sf];have e1:(i:Int)+1=((i+1:Nat):Int):=by omega
  have fl:=a6 rs;have hl:(jI (aj rs) i).length<=i:=by
   unfold jI;rw[O0];exact PH (PN _ _) (by rw[PL];exact O5 _)
  refine⟨_,rfl,_,rfl,_,_,rfl,rfl,t1,_,_,_,rfl,rfl,bZ.of (U _ _ yW),(by rw[e1];exact bB (dw (by omega))),_,rfl,_,rfl,t1,_,_,_,rfl,rfl,bZ.of (U _ _ yW),bB (dw (by omega)),_,_,rfl,rfl,rfl,_,rfl,?_⟩;have es:jI (aj rs) (i+1)=jI (aj rs) i++(if aC.isOpen (aj rs) i=true then[(i:Int)]else[]):=by
   unfold jI;rw[QD,Qf,Pb,Qu,Qv]
   split <;> rfl
  refine fK (λh1=>?_) (λh1=>?_)
  .refine⟨_,rfl,_,h2,aF (by rw[aT];omega),_,rfl,U.upd hD,?_⟩;have:aC.isOpen (aj rs) i=true:=by unfold aC.isOpen;simpa using h1
   rw[ag,es,UQ this,iN]
   rfl
  refine⟨_,rfl,U,?_⟩;have:¬aC.isOpen (aj rs) i=true:=λz=>h1 (by unfold aC.isOpen at z;simpa using z);rw[es,UO this,Qj];exact h2
 rintro σ H2 ⟨v,rfl,U,h2⟩;have e:(((iV rs).length:Nat)+1:Int).toNat=rs.length+1:=by rw[O];omega
 rw[e]at h2;exact k D H2 (s1.free hD) (s1.trans U) h2
theorem uZ{f f1:UR}{fd pE:Va}(B:Bl mg)(F:Fn K mg "tie_gaps" fT ["row"] f fd)(J:Fn K mg "framed" dk ["row"] f1 pE):a4 P w K mg base cQ 2 f fd ["row"] aC.qO:=by
 have i7:a4 P w K mg base cQ 1 f1 pE ["row"] gH:=jy B J;refine F.fn.ok eX (λvs H Q E h=>?_) (λkB A outer s H vs Q E hr h=>?_)
 .obtain⟨t,rs,rfl,_⟩:=h
  rfl
 obtain⟨t,rs,rfl,ht,fit,k⟩:=h;have hu:=qG hr;have hn:=fit.small;refine⟨_,(ah (aH (i:=1) eX.nd rfl (Or.inr rfl) iA)
  (ah (aH (i:=2) eX.nd rfl (Or.inr rfl) iA)
  (ah (b9 PassesOwn.never rfl (A4 rfl B.enumerate (af (bA i7 J (hr.mono (by decide)) (af (pv 0) ai)) ai)) (l8 rfl (cv (aL (i:=3) eX.nd rfl (Or.inl rfl)) (cv (aL (i:=4) eX.nd rfl (Or.inl rfl)) jf))) (ah (nK hu (pv 1) (aI oz rfl B.abs vO (af (pv 4) ai)) (om (aV gz (pv 4) av (a5 _)) (aK fH (pv 3) av) (pv 3)) rfl)
  (aA (nK hu (pv 2) (aI oz rfl B.abs vO (af (pv 4) ai)) (om (aV gz (pv 4) av (a5 _)) (pv 3) (aK fH (pv 3) av)) rfl))))
  (aA (a9 (du (NC:=["tie","leaving","coming"]) rfl (DS (pre:=["tie"]) [("leaving",s.heap.objs.size+1,1),("coming",s.heap.objs.size+2,2)] ["leaving","coming"] rfl rfl (by decide +kernel) (by decide +kernel) rfl (qN ⟨rfl,rfl,rfl,rfl⟩ (qN ⟨rfl,rfl,rfl,rfl⟩ Br))) (fD rfl B.range (af (aK bo (aI aD rfl B.len bu (af (pv 0) ai)) av) ai)) (λ_ _ _ _=>(aL (i:=0) (show(["tie","leaving","coming"]:List Vg).Nodup by decide +kernel) rfl (Or.inl rfl))) (λ_ _ _ _=>dt) (λ_ _ _ _=>(jP (af (km hu (pv 1) (pv 0) (λ_ _=>rfl)) (af (km hu (pv 2) (aK bo (pv 0) av) (λ_ _=>rfl)) ai)))))))))),?_⟩
 have l7:(iV rs).length=rs.length:=aT rs;have nd:=aC.cD fit;have fl:=a6 rs;have ivf:(iV (aj rs)).length=rs.length+2:=by rw[aT,fl]
 intro O hdL;have s0:ax H (upd H O (.dK [])):=au hdL;intro M LL;have ne:O≠M:=λe=>by rw[e,ag]at LL;cases LL
 have s1:ax H (upd (upd H O (.dK [])) M (.dK [])):=s0.trans (au LL);have NG:H M=none:=s0.free LL;have hL1:upd (upd H O (.dK [])) M (.dK []) O=Yl (.dK []):=by rw[ao ne,ag]
 have hC1:upd (upd H O (.dK [])) M (.dK []) M=Yl (.dK []):=ag;generalize upd (upd H O (.dK [])) M (.dK [])=H1 at s1 hL1 hC1⊢;refine⟨_,rfl,t,rs,rfl,s1 _ _ ht,by omega,λt1 H2 s2 yW=>?_⟩;have zi:=s1.trans s2;refine⟨t1,rfl,⟨_,bZ.of yW⟩,A5 (K:=K) (a:=t1) (xs:=iV (aj rs)) (λi σ H3=>∃(v3 v4:Option V) (U Z:List (Key×V)),σ=[Yl (.ref t),Yl (.ref O),Yl (.ref M),v3,v4]/\ax H H3/\H3 t1=Yl (.tup (iV (aj rs)))/\H3 O=Yl (.dK U)/\H3 M=Yl (.dK Z)/\U.length<=i/\Z.length<=i /\
   (∀j,j<i->bq U (Sum.inl (aE ((aj rs).getD j 0)):Key)=Yl (.int (iJ (aj rs) j)))/\∀j,j<i->bq Z (Sum.inl (aE ((aj rs).getD j 0)):Key)=Yl (.int (iK (aj rs) j)))
  ⟨none,none,[],[],rfl,zi,yW,s2 _ _ hL1,s2 _ _ hC1,O5 _,O5 _,λj hj=>UU hj (Rn _),λj hj=>UU hj (Rn _)⟩ (λi σ H3 _ ⟨_,_,_,_,_,_,h3,_⟩=>bZ.of h3) ?_ ?_⟩
 .rintro i y tt σ H3 hy ⟨v3,v4,U,Z,rfl,s3,h1,hL,hC,lL,lC,vL,vC⟩ Ag;obtain⟨x,hx,rfl⟩:=jn hy;have hi:i<(aj rs).length:=(O1.mp hx).1;have IA:(aj rs).getD i 0=x:=by rw[aC.getD_get hi]at hx;exact Option.some.inj hx
  have st:ax H3 (upd H3 tt (.tup [.int i,.int x])):=au Ag;have s4:=s3.trans st;have h4:=st _ _ h1;have NH:=st _ _ hL;have NI:=st _ _ hC;have KQ:upd H3 tt (.tup [.int i,.int x]) tt=Yl (.tup [.int i,.int x]):=ag;generalize upd H3 tt (.tup [.int i,.int x])=H4 at s4 h4 NH NI KQ⊢;have fin:∀u v:Int,u=iJ (aj rs) i->v=iK (aj rs) i->∃H5,pM H4 O (kV (Sum.inl (aE x))) (.int u) H5/\∃H6,pM H5 M (kV (Sum.inl (aE x))) (.int v) H6 /\
    ∃(U Z:List (Key×V)),ax H H6/\H6 t1=Yl (.tup (iV (aj rs)))/\H6 O=Yl (.dK U)/\H6 M=Yl (.dK Z)/\U.length<=i+1/\Z.length<=i+1 /\
    (∀j,j<i+1->bq U (Sum.inl (aE ((aj rs).getD j 0)):Key)=Yl (.int (iJ (aj rs) j)))/\∀j,j<i+1->bq Z (Sum.inl (aE ((aj rs).getD j 0)):Key)=Yl (.int (iK (aj rs) j)):=λu v hu' hv'=>by
   have zL:=bS U (Sum.inl (aE x):Key) (V.int u);have zC:=bS Z (Sum.inl (aE x):Key) (V.int v);have n1:t1≠O:=λe=>by rw[e,NH]at h4;cases h4
   have n2:t1≠M:=λe=>by rw[e,NI]at h4;cases h4
   have hC5:upd H4 O (.dK (putK U (Sum.inl (aE x):Key) (V.int u))) M=Yl (.dK Z):=by rw[ao (Ne.symm ne)];exact NI
   refine⟨_,pM.k (k:=Sum.inl (aE x)) NH (aF (by omega)),_,pM.k (k:=Sum.inl (aE x)) hC5 (aF (by omega)),putK U (Sum.inl (aE x):Key) (V.int u),putK Z (Sum.inl (aE x):Key) (V.int v),(s4.upd hdL).upd NG,?_,?_,ag,by omega,by omega,?_,?_⟩
   .rw[ao n2,ao n1];exact h4
   .rw[ao ne,ag]
   .have z:=aC.xE nd (g:=λj=>V.int (iJ (aj rs) j)) hi vL;rw[IA,<-hu']at z;exact z
   have z:=aC.xE nd (g:=λj=>V.int (iK (aj rs) j)) hi vC;rw[IA,<-hv']at z;exact z
  refine⟨tt,_,rfl,bZ.of KQ,rfl,_,_,rfl,_,_,rfl,rfl,?_⟩;refine⟨_,rfl,_,_,rfl,rfl,_,rfl,?_⟩;refine fK (λh2=>?_) (λh2=>?_)
  .have h2:x<0:=U0 h2;obtain⟨H5,p5,H6,p6,r⟩:=fin ((i:Int)-1) i (by unfold iJ;rw[IA,UQ h2]) (by unfold iK;rw[IA,UQ h2]);refine⟨_,rfl,_,_,rfl,rfl,_,rfl,_,rfl,_,rfl,O,H5,rfl,p5,?_⟩;refine⟨_,rfl,_,_,rfl,rfl,_,rfl,Bs (UX h2) ?_⟩;obtain⟨U,Z,r⟩:=r;exact⟨_,rfl,_,rfl,_,rfl,_,rfl,M,H6,rfl,p6,_,_,U,Z,rfl,r⟩
  have h2:¬x<0:=λz=>h2 (UX z);obtain⟨H5,p5,H6,p6,r⟩:=fin i ((i:Int)-1) (by unfold iJ;rw[IA,UO h2]) (by unfold iK;rw[IA,UO h2]);refine⟨_,rfl,_,rfl,_,rfl,_,rfl,O,H5,rfl,p5,?_⟩;refine⟨_,rfl,_,_,rfl,rfl,_,rfl,xD (U1 h2) ?_⟩;obtain⟨U,Z,r⟩:=r;exact⟨_,rfl,_,_,rfl,rfl,_,rfl,_,rfl,_,rfl,M,H6,rfl,p6,_,_,U,Z,rfl,r⟩
 rintro σ H3 ⟨v3,v4,U,Z,rfl,s3,h1,hL,hC,lL,lC,vL,vC⟩;rw[ivf]at vL vC;refine⟨_,rfl,t,_,rfl,.inr (bZ.of (s3 _ _ ht)),_,_,rfl,rfl,_,rfl,by rw[l7];omega,by rw[l7];omega,λD hD=>?_⟩;refine fL (λi σ H4=>∃v:Option V,σ=[v,Yl (.ref O),Yl (.ref M)]/\ax H3 H4/\aC.df aC.pr H4 D ((Pu i).map (pW rs))) ⟨none,rfl,au hD,aC.df.nil ag⟩ ?_ ?_
 .rintro i σ H4 hi ⟨v,rfl,s4,hT⟩;rw[l7]at hi;have hi:i<rs.length+1:=by omega
  rw[Sf];obtain⟨p1,p2⟩:=bw fit (show i<rs.length+2 by omega);obtain⟨q1,q2⟩:=bw fit (show i+1<rs.length+2 by omega);have eL:=vL _ p1;have eC:=vC _ q1;rw[p2]at eL;rw[q2]at eC;have e1:(i:Int)+1=((i+1:Nat):Int):=by omega
  have gL:=oC.k (k:=Sum.inl (i:Int)) (s4 _ _ hL);have gC:=oC.k (k:=Sum.inl ((i+1:Nat):Int)) (s4 _ _ hC);rw[eL]at gL;rw[eC]at gC;refine ni ?_;refine⟨_,rfl,_,rfl,O,_,rfl,gL,_,rfl,_,rfl,_,_,rfl,rfl,M,_,rfl,(by show oC H4 M (V.int ((i:Int)+1)) _;rw[e1];exact gC),by show 2<=U2;decide,λtp qd=>?_⟩;have s5:ax H4 (upd H4 tp (.tup [.int (aC.bP rs i),.int (aC.cE rs (i+1))])):=au qd;obtain⟨ys,y1,y2,y3⟩:=(hT.same s5).snoc (t:=tp) (x:=pW rs i) ag;refine⟨_,y1,aF (by rw[y2,O0,PL];omega),_,rfl,(s4.trans s5).upd hD,?_⟩;rw[QD,Pb];exact y3
 rintro σ H4 ⟨v,rfl,s4,hT⟩;have e:(((iV rs).length:Nat)+1:Int).toNat=rs.length+1:=by rw[l7];omega
 first|rw[e]at hT|skip
 exact k D H4 (s3.free hD) (s3.trans s4) hT
theorem gW{f:UR}{fd:Va}(B:Bl mg)(F:Fn K mg "hung_together" bR ["pairs"] f fd):a4 P w K mg base cQ 1 f fd ["pairs"] su:=by
 refine F.fn.ok a8 (λvs H Q E h=>?_) (λkB A outer s H vs Q E hr h=>?_)
 .obtain⟨l,ps,rfl,_⟩:=h
  rfl
 obtain⟨l,ps,rfl,hT,hn,k⟩:=h;have hu:=qG hr;refine⟨_,(ah (aH (i:=1) a8.nd rfl (Or.inl rfl) iA)
  (ah (b9 PassesOwn.never rfl (bK (pv 0)) (l8 rfl (cv (aL (i:=2) a8.nd rfl (Or.inl rfl)) (cv (aL (i:=3) a8.nd rfl (Or.inl rfl)) jf))) (ah (aH (i:=4) a8.nd rfl (Or.inl rfl) (si (pv 1) (pv 2) (pv 2) ⟨rfl,rfl,rfl,rfl⟩))
  (ah (aH (i:=5) a8.nd rfl (Or.inl rfl) (si (pv 1) (pv 3) (pv 3) ⟨rfl,rfl,rfl,rfl⟩))
  (aA (b9 PassesOwn.never rfl (bK (bQ (sj rfl) rfl B.list jk (af (pv 1) ai))) (aL (i:=6) a8.nd rfl (Or.inl rfl)) (aA (dN (aV fI (km hu (pv 1) (pv 6) (λ_ _=>rfl)) (pv 5) (a5 _)) (aA (nK hu (pv 1) (pv 6) (pv 4) rfl)) bJ)))))))
  (ah (aH (i:=7) a8.nd rfl (Or.inl rfl) iA)
  (ah (b9 PassesOwn.never rfl (Be rfl B.enumerate (af (pv 0) ai)) (l8 rfl (cv (aL (i:=8) a8.nd rfl (Or.inl rfl)) (cv (aL (i:=9) a8.nd rfl (Or.inl rfl)) jf))) (aA (fk (mM Qt Q0 Q1 fF (si (pv 7) (km hu (pv 1) (b0 jQ (pv 9) av (λ_ _=>rfl)) (λ_ _=>rfl)) (d6 ai) ⟨rfl,rfl,rfl,rfl⟩) (af (pv 8) ai)))))
  (aA (a9 (du (NC:=["places"]) rfl (jh rfl (by decide +kernel) (by decide +kernel)) (D1 (pv 7)) (λ_ _ _ _=>(aL (i:=0) (show(["places"]:List Vg).Nodup by decide +kernel) rfl (Or.inl rfl))) (λ_ _ _ _=>dt) (λ_ _ _ _=>(bQ cR rfl B.tuple iB (af (pv 0) ai)))))))))),?_⟩
 obtain⟨ts,u4,hlen,qd⟩:=id hT;have vN:(ts.map V.ref).length=ps.length:=by rw[O0,hlen]
 intro dG EY;have yW:upd H dG (.dK []) l=Yl (.lst (ts.map V.ref)):=(au EY) _ _ u4;refine⟨_,rfl,l,rfl,⟨_,bc.of yW⟩,cO (K:=K) (a:=l) (xs:=ts.map V.ref) (λi σ H1=>∃(v2 v3 v4 v5 v6:Option V) (M:List (Key×V)),σ=[Yl (.ref l),Yl (.ref dG),v2,v3,v4,v5,v6,none,none,none]/\ax H H1/\H1 dG=Yl (.dK M)/\M.length<=2*i/\aC.GD M (aC.mk (ps.take i)) (Sn (ps.take i)))
  ⟨none,none,none,none,none,[],rfl,au EY,ag,O5 _,aC.GD.nil _ λx ⟨p,hp,_⟩=>UU hp Pf⟩ (λi σ H1 _ zq=>by obtain⟨_,_,_,_,_,_,_,s1,_⟩:=zq;exact bc.of (s1 _ _ u4)) ?_ ?_⟩
 .rintro i y σ H1 hy ⟨v2,v3,v4,v5,v6,M,rfl,s1,hG,lG,gd⟩;have hi:i<ps.length:=by rw[<-vN];exact(O1.mp hy).1
  have EZ:ps[i]?=Yl ps[i]:=OZ hi;obtain⟨t,ht,rfl⟩:∃t,ts[i]?=Yl t/\y=.ref t:=by
   rw[O6]at hy;obtain⟨t,e1,e2⟩:=Ph.mp hy;exact⟨t,e1,e2.symm⟩
  have Ag:=qd i t _ ht EZ;have Dm:ps.take (i+1)=ps.take i++[ps[i]]:=aC.take_snoc EZ;generalize ps[i]=p at Ag Dm EZ;have mf:=aC.hX (ps.take i);refine⟨t,_,rfl,bZ.of (s1 _ _ Ag),rfl,_,_,rfl,_,_,rfl,rfl,?_⟩;refine⟨_,rfl,dG,rfl,.inl ⟨_,.inl hG⟩,_,rfl,_,rfl,M,Sum.inl p.1,hG,rfl,aF (by omega),aC.uC hG gd (mf.1 _) λkv2 H2 l2 IB o2 gd2=>?_⟩;have s2:=aC.ax.but s1 EY o2;refine⟨_,rfl,dG,rfl,.inl ⟨_,.inl IB⟩,_,rfl,_,rfl,kv2,Sum.inl p.2,IB,rfl,aF (by omega),aC.uC IB gd2 (λz=>mf.1 _ λz2=>z (.inl z2)) λJ U l3 ID o3 KR=>?_⟩;have s3:=aC.ax.but s2 EY o3;have KR:aC.GD J (aC.mk (ps.take i)) (Sn (ps.take (i+1))):=KR.imp λx=>by
   rw[Dm,aC.jq,or_assoc]
  refine⟨_,rfl,dG,J,rfl,ID,λlk IE=>?_⟩;have s4:ax U (upd U lk (.lst (J.map λM=>kV M.1))):=au IE;have NJ:upd U lk (.lst (J.map λM=>kV M.1)) lk=Yl (.lst (J.map λM=>kV M.1)):=ag;have adp:H lk=none:=s3.free IE;have HW:=s4 _ _ ID;have HX:=s3.trans s4;have nk:lk≠dG:=λz=>by rw[z,ID]at IE;cases IE
  generalize upd U lk (.lst (J.map λM=>kV M.1))=H4 at s4 NJ HW HX⊢
  let m:=aC.mk (ps.take i)
  refine⟨lk,rfl,⟨_,bc.of NJ⟩,cO (K:=K) (a:=lk) (xs:=J.map λM=>kV M.1) (λj σ H5=>∃(v6:Option V) (FQ:List (Key×V)),σ=[Yl (.ref l),Yl (.ref dG),Yl (.int p.1),Yl (.int p.2),Yl (.int (m p.1)),Yl (.int (m p.2)),v6,none,none,none]/\ax H H5/\H5 lk=Yl (.lst (J.map λM=>kV M.1))/\H5 dG=Yl (.dK FQ)/\FQ.length=J.length /\
    aC.GD FQ (aC.chg ((J.map Qd).take j) m (m p.1) (m p.2)) (Sn (ps.take (i+1))))
   ⟨v6,J,rfl,HX,NJ,HW,rfl,KR.congr λx _=>by rw[Tg,aC.Ej]⟩ (λj σ H5 _ ⟨_,_,_,_,h,_⟩=>bc.of h) ?_ ?_⟩
  .rintro j y σ H5 hy ⟨v6,FQ,rfl,s5,NL,O,l5,KS⟩;rw[O6]at hy;obtain⟨kvj,ej,rfl⟩:=Ph.mp hy;have ekj:(J.map Qd)[j]?=Yl kvj.1:=by rw[O6,ej];rfl
   obtain⟨x,ex,hS⟩:=KR.keys kvj.1 (Pk ekj);have etj:(J.map Qd).take (j+1)=(J.map Qd).take j++[(Sum.inl x:Key)]:=by rw[<-ex];exact aC.take_snoc ekj
   rw[ex];have gy:=KS.yes x hS;have g5:=oC.k (k:=Sum.inl x) O;rw[gy]at g5;refine⟨_,rfl,_,rfl,dG,_,rfl,g5,_,rfl,rfl,_,rfl,?_⟩;refine fK (λh2=>?_) (λh2=>?_)
   .have h2:aC.chg ((J.map Qd).take j) m (m p.1) (m p.2) x=m p.2:=by have z:=U0 h2;injection z
    have zl:(putK FQ (Sum.inl x:Key) (.int (m p.1))).length=FQ.length:=aC.Ei (by rw[gy];rfl);refine⟨_,rfl,_,rfl,_,rfl,dG,_,rfl,pM.k (k:=Sum.inl x) O (aF (by omega)),_,_,rfl,s5.upd EY,by rw[ao nk];exact NL,ag,zl.trans l5,(KS.put hS _).congr λy _=>?_⟩;rw[etj];exact aC.Ek h2
   have h2:¬aC.chg ((J.map Qd).take j) m (m p.1) (m p.2) x=m p.2:=λz=>h2 (UX (by rw[z]));refine⟨_,_,rfl,s5,NL,O,l5,KS.congr λy _=>?_⟩;rw[etj];exact aC.HA h2
  rintro σ H5 ⟨v6,FQ,rfl,s5,NL,O,l5,KS⟩;refine⟨_,_,_,_,_,FQ,rfl,s5,O,by omega,KS.congr λy hy=>?_⟩;have NM:(Sum.inl y:Key)∈(J.map Qd).take (J.map λM=>kV M.1).length:=by
   rw[O0,QT (by rw[O0];exact O5 _)];exact rK (KR.yes y hy)
  rw[Dm,aC.kM];exact aC.x6 NM
 rintro σ H1 ⟨v2,v3,v4,v5,v6,M,rfl,s1,hG,lG,gd⟩;rw[vN,Qe]at gd;rw[vN]at lG;intro Z LM;have s2:ax H1 (upd H1 Z (.dK [])):=au LM;have KU:H Z=none:=s1.free LM;have hF2:upd H1 Z (.dK []) Z=Yl (.dK []):=ag;have IB:=s2 _ _ hG;have nGF:dG≠Z:=λz=>by rw[<-z,hG]at LM;cases LM
 have zi:=s1.trans s2;generalize upd H1 Z (.dK [])=H2 at s2 hF2 IB zi⊢
 let c:Nat->Int:=λk=>aC.mk ps (ps.getD k (0,0)).1
 refine⟨_,rfl,l,rfl,⟨_,bc.of (zi _ _ u4)⟩,yX (K:=K) (a:=l) (xs:=ts.map V.ref) (λi σ U=>∃(v8 v9:Option V) (kf:List (Key×V)) (as:List UR),σ=[Yl (.ref l),Yl (.ref dG),v2,v3,v4,v5,v6,Yl (.ref Z),v8,v9]/\ax H U/\U dG=Yl (.dK M)/\FG H U Z kf (gr c i) as)
  ⟨none,none,[],[],rfl,zi,IB,⟨hF2,rfl,rfl,QJ,λj a e h=>by simp at h,λa ha=>UU ha Pf⟩⟩ (λi σ U _ zq=>by obtain⟨_,_,_,_,_,s3,_⟩:=zq;exact bc.of (s3 _ _ u4)) ?_ ?_⟩
 .rintro i y tt σ U hy ⟨v8,v9,kf,as,rfl,s3,ID,fg⟩ Ag;have hi:i<ps.length:=by rw[<-vN];exact(O1.mp hy).1
  have EZ:ps[i]?=Yl ps[i]:=OZ hi;obtain⟨t,ht,rfl⟩:∃t,ts[i]?=Yl t/\y=.ref t:=by
   rw[O6]at hy;obtain⟨t,e1,e2⟩:=Ph.mp hy;exact⟨t,e1,e2.symm⟩
  have NN:=qd i t _ ht EZ;have ec:c i=aC.mk ps ps[i].1:=by
   show aC.mk ps (ps.getD i (0,0)).1=_;rw[Py,EZ]
   rfl
  have hS:Sn ps ps[i].1:=⟨ps[i],PV hi,.inl rfl⟩
  have s4:ax U (upd U tt (.tup [.int i,.ref t])):=au Ag;have ht4:upd U tt (.tup [.int i,.ref t]) tt=Yl (.tup [.int i,.ref t]):=ag;have HW:=s4 _ _ ID;have IF:=fg.same s4;have HX:=s3.trans s4;generalize upd U tt (.tup [.int i,.ref t])=H4 at s4 ht4 HW IF HX⊢;have gy:=gd.yes _ hS;rw[<-ec]at gy;have g4:=oC.k (k:=Sum.inl ps[i].1) HW;rw[gy]at g4;have zW:=IF.len;have gl:=aC.kO c i;refine⟨tt,_,rfl,bZ.of ht4,rfl,_,_,rfl,_,_,rfl,rfl,?_⟩;refine⟨_,rfl,Z,rfl,.inl ⟨_,.inl IF.at'⟩,_,rfl,_,rfl,t,_,_,_,rfl,rfl,bZ.of (HX _ _ NN),rfl,dG,_,rfl,g4,by show 0<=U2;decide,λn HY=>?_⟩;have s5:ax H4 (upd H4 n (.lst [])):=au HY;have NO:upd H4 n (.lst []) n=Yl (.lst []):=ag;have O:=s5 _ _ HW;have IG:=IF.same s5;have NQ:=HX.trans s5;have NR:n∉as:=λhm=>by
   obtain⟨j,hj⟩:=PF hm;have hjl:j<(gr c i).length:=by rw[<-zW.2];exact(O1.mp hj).1
   have:=IF.lst j n _ hj (OZ hjl);rw[HY]at this;cases this
  have nF:Z≠n:=λz=>by rw[<-z,IF.at']at HY;cases HY
  have nG:dG≠n:=λz=>by rw[<-z,HW]at HY;cases HY
  have GN:H n=none:=HX.free HY;generalize upd H4 n (.lst [])=H5 at s5 NO O IG NQ⊢;refine⟨kf,Sum.inl (c i),IG.at',rfl,aF (by omega),λv hv=>?_,λhv=>?_⟩
  .obtain⟨a,L,rfl,ha,⟨e,he,eL⟩,NS⟩:=IG.old (aC.gK c i) (x:=(i:Int)) hv;have hL:L.length<=i:=by rw[<-eL];exact(gu c i).len e he
   have nGa:dG≠a:=λz=>by rw[<-z,O]at ha;cases ha
   have NU:H a=none:=by
    have KW:V.ref a∈kf.map Rr:=by
     unfold bq at hv;obtain⟨q,q1,q2⟩:=Ph.mp hv;exact O4.mpr ⟨q,Qx q1,q2⟩
    rw[IG.vs]at KW;obtain⟨a',NV,ea⟩:=O4.mp KW;injection ea with ea;rw[<-ea];exact IG.new a' NV
   refine⟨.inl ⟨rfl,_,bc.of ha⟩,_,rfl,a,_,_,rfl,rfl,ha,aF (by rw[aT];omega),?_⟩;exact⟨_,_,kf,as,rfl,NQ.upd NU,by rw[ao nGa];exact O,NS⟩
  have NS:=IG.fresh (x:=(i:Int)) hv NO GN NR;have FT:upd H5 Z (.dK (putK kf (Sum.inl (c i):Key) (.ref n))) n=Yl (.lst []):=by rw[ao (Ne.symm nF)];exact NO
  refine⟨.inl ⟨rfl,_,bc.of FT⟩,_,rfl,n,_,_,rfl,rfl,FT,by show 0<U2;decide,?_⟩;exact⟨_,_,_,_,rfl,(NQ.upd KU).upd GN,by rw[ao nG,ao nGF];exact O,NS⟩
 rintro σ U ⟨v8,v9,kf,as,rfl,s3,ID,fg⟩;rw[vN]at fg;have hl:=fg.len;have gl:=aC.kO c ps.length;have gok:=gu c ps.length;refine⟨_,rfl,Z,kf,rfl,fg.at',λob D hD=>?_⟩;have hD3:U D=none:=by
  by_cases e:D=Z
  .rw[e,ag]at hD;cases hD
  rwa[ao e]at hD
 have hF4:upd U Z (.gv ob (.dK kf)) Z=Yl (.gv ob (.dK kf)):=ag;have ls4:∀(j:Nat) (a:UR) (e:Int×List Int),as[j]?=Yl a->(gr c ps.length)[j]?=Yl e->upd U Z (.gv ob (.dK kf)) a=Yl (.lst (iV e.2)):=λj a e h1 h2=>by
  have z:=fg.lst j a e h1 h2;rw[ao λq=>by have:=fg.at';rw[<-q,z]at this;cases this];exact z
 have s4:ax H (upd U Z (.gv ob (.dK kf))):=s3.upd KU;generalize upd U Z (.gv ob (.dK kf))=H4 at hD hF4 ls4 s4⊢;refine zk (λi σ H5=>∃v:Option V,σ=[v]/\ax H4 H5/\aC.df iV H5 D (((gr c ps.length).take i).map Rr)) ⟨none,rfl,au hD,aC.df.nil ag⟩ (λi σ H5 _ ⟨_,_,s5,_⟩=>s5 _ _ hF4) ?_ ?_
 .rintro i y σ H5 hy ⟨v,rfl,s5,LN⟩;have hy:(kf.map Rr)[i]?=Yl y:=hy;rw[fg.vs,O6]at hy;obtain⟨a,ha,rfl⟩:=Ph.mp hy;have hi:i<(gr c ps.length).length:=by rw[<-hl.2];exact(O1.mp ha).1
  have he:=OZ hi;have la:=s5 _ _ (ls4 i a _ ha he);refine ni ?_;refine⟨_,rfl,a,_,rfl,.inl la,λtp H6 s6 qd=>?_⟩;obtain⟨ys,y1,y2,y3⟩:=(LN.same s6).snoc (t:=tp) (x:=(gr c ps.length)[i].2) qd;refine⟨_,y1,aF (by rw[y2,O0,Pz];omega),_,rfl,(s5.trans s6).upd hD,?_⟩;rw[aC.take_snoc he,Pb];exact y3
 rintro σ H5 ⟨v,rfl,s5,LN⟩;rw[QT (by omega)]at LN;exact k D H5 (s3.free hD3) (s4.trans s5) LN
theorem sZ{f f1 f2 f3:UR}{fd pE U V:Va}(B:Bl mg)(F:Fn K mg "tie_rings" eS ["row"] f fd)(O:Fn K mg "framed" dk ["row"] f1 pE)(J:Fn K mg "tie_gaps" fT ["row"] f2 U)(z:Fn K mg "hung_together" bR ["pairs"] f3 V):a4 P w K mg base cQ 3 f fd ["row"] h7:=by
 have M:a4 P w K mg base cQ 2 f2 U ["row"] aC.qO:=uZ B J O;have D:a4 P w K mg base cQ 1 f3 V ["pairs"] su:=gW B z;refine F.fn.ok sW (λvs H Q E h=>?_) (λkB A outer s H vs Q E hr h=>?_)
 .obtain⟨t,rs,rfl,_⟩:=h
  rfl
 obtain⟨t,rs,rfl,ht,fit,k⟩:=h;have hn:=fit.small;refine⟨_,(aA (a9 (bA D z (hr.mono (by decide)) (af (bA M J (hr.mono (by decide)) (af (pv 0) ai)) ai)))),?_⟩;refine⟨_,rfl,t,rs,rfl,ht,fit,λl H1 hl s1 hT=>?_⟩;refine⟨l,_,rfl,hT,by rw[aC.gG];omega,λr H2 E1 s2 Z=>?_⟩;rw[<-aC.bN]at Z;exact k r H2 (s1.free E1) (s1.trans s2) Z
theorem wM{f:UR}{fd:Va}(B:Bl mg)(F:Fn K mg "kin_end" ew ["numbers","first"] f fd):a4 P w K mg base cQ 1 f fd ["numbers","first"] aC.ug:=by
 refine F.fn.ok dB (λvs H Q E h=>?_) (λkB A outer s H vs Q E hr h=>?_)
 .obtain⟨t,fs,a,rfl,_⟩:=h
  rfl
 obtain⟨t,fs,a,rfl,ht,nd,ha,hn,kS,kN⟩:=h;refine⟨_,(ah (aH (i:=2) dB.nd rfl (Or.inl rfl) (b0 jQ (pv 0) (pv 1) (λ_ _=>rfl)))
  (ah (aH (i:=3) dB.nd rfl (Or.inl rfl) (om (aV gz (pv 2) av (a5 _)) (qr ma av) av))
  (hJ (R:=λD σ H2=>H2=H/\σ=[Yl (.ref t),Yl (.int a),Yl (.int (fs.getD a 0)),Yl (.int (if fs.getD a 0<0 then -1 else 1)),none,none,none]/\D.rt=Q) λD σ H2 hR=>?rest))),?_⟩
 case rest =>
  obtain⟨rfl,rfl,hD⟩:=hR;refine⟨_,(ah (aH (i:=4) dB.nd rfl (Or.inl rfl) (pv 2))
  (ah (b9 PassesOwn.never rfl (gw rfl B.range (af (aK bo (pv 1) av) (af (aI aD rfl B.len bu (af (pv 0) ai)) ai))) (aL (i:=5) dB.nd rfl (Or.inl rfl)) (ah (aH (i:=6) dB.nd rfl (Or.inl rfl) (aK Ap (pv 3) (aI oz rfl B.abs vO (af (b0 jQ (pv 0) (pv 5) (λ_ _=>rfl)) ai))))
  (ah (dN (aV gz (pv 6) (pv 2) (a5 _)) (aA (a9 vu)) bJ)
  (ah (aH (i:=4) dB.nd rfl (Or.inl rfl) (aI (qu rfl) rfl B.max Bj (af (pv 4) (af (pv 6) ai))))
  (aA (dN (Av fI fI (b0 jQ (pv 0) (pv 5) (λ_ _=>rfl)) (pv 4) (aK fH (aK bo (pv 2) (pv 5)) (pv 1))) (aA (a9 (pv 5))) bJ))))))
  (aA (a9 vu)))),?_⟩
  have M:(iV fs).length=fs.length:=aT fs;have sgA:∀x,(if fs.getD a 0<0 then -1 else 1)*aE (fs.getD x 0)=cF fs a x:=λx=>by unfold cF;split <;> omega
  have sgC:∀j,Du (if fs.getD a 0<0 then(-1:Int)else 1) j:=λj=>.inl (by split <;> exact⟨by decide,by decide⟩);generalize(if fs.getD a 0<0 then(-1:Int)else 1)=sg at sgA sgC⊢;refine⟨_,rfl,_,rfl,_,_,rfl,rfl,_,rfl,t,_,rfl,.inr (bZ.of ht),_,_,rfl,⟨by omega,by omega,by rw[M];omega,by rw[M];omega⟩,
   fE (lo:=(a:Int)+1) (n:=(((iV fs).length:Nat)-((a:Int)+1):Int).toNat) (λi σ H3=>∃(hi:Int) (v5 v6:Option V),σ=[Yl (.ref t),Yl (.int a),Yl (.int (fs.getD a 0)),Yl (.int sg),Yl (.int hi),v5,v6]/\H3=H2/\aC.rR fs a (a+1+i) hi/\∀c,c<a+1+i->¬aC.Wh fs a c)
    ⟨_,none,none,rfl,rfl,aC.rR.first fs a,λc U W=>by have:=W.lt;omega⟩ ?_ ?_⟩
  .rintro i σ H3 hi ⟨Z,v5,v6,rfl,rfl,S,no⟩;rw[M]at hi;have U:a+1+i<fs.length:=by omega
   have ec:(a:Int)+1+(i:Int)=((a+1+i:Nat):Int):=by omega
   rw[ec];refine⟨_,rfl,_,rfl,_,rfl,t,_,_,_,rfl,rfl,bZ.of ht,bB (dw U),_,rfl,_,_,rfl,rfl,sgC _,?_⟩;dsimp only;rw[aC.DT,sgA];refine⟨_,rfl,_,rfl,_,_,rfl,rfl,_,rfl,?_⟩;refine fK (λJ=>?_) (λJ=>?_)
   .have J:=U0 J;show D.rt V.eE _;rw[hD];refine kN λb W=>?_;by_cases hb:b<a+1+i
    .exact no b hb W
    exact aC.Wh.stop (by omega) J (by omega) W
   have J:fs.getD a 0<=cF fs a (a+1+i):=by
    have:¬cF fs a (a+1+i)<fs.getD a 0:=λz=>J (UX z);omega
   have S2:=S.next (by omega) J
   refine⟨_,rfl,_,rfl,_,_,rfl,?_⟩;dsimp only;generalize(if cF fs a (a+1+i)>Z then cF fs a (a+1+i)else Z)=O at S2⊢;have iff:=S2.wh nd (by omega) U;have e2:((a+1+i:Nat):Int)=(a:Int)+1+i:=by omega
   have stop:∀W:aC.Wh fs a (a+1+i),Kn fs a (a+1+i):=λW=>⟨W,λc U=>no c U⟩
   have go:¬aC.Wh fs a (a+1+i)->∀c,c<a+1+(i+1)->¬aC.Wh fs a c:=λnw c U=>by
    by_cases e:c=a+1+i
    .rw[e];exact nw
    exact no c (by omega)
   refine⟨_,rfl,_,rfl,t,_,_,_,rfl,rfl,bZ.of ht,bB (dw U),_,rfl,rfl,_,rfl,?_⟩;refine fK (λh2=>?_) (λh2=>?_)
   .have h2:fs.getD (a+1+i) 0=O:=by injection U0 h2
    refine⟨_,rfl,_,rfl,_,_,rfl,rfl,_,rfl,_,_,rfl,rfl,rfl,_,rfl,?_⟩;refine fK (λh3=>?_) (λh3=>?_)
    .have h3:O=fs.getD a 0+((a+1+i:Nat):Int)-(a:Int):=by injection U0 h3
     refine⟨_,rfl,?_⟩;show D.rt _ _;rw[hD];exact kS _ (stop (iff.mp ⟨h2,h3⟩))
    have h3:¬O=fs.getD a 0+((a+1+i:Nat):Int)-(a:Int):=λz=>h3 (UX (congrArg V.int z));exact⟨_,_,_,rfl,rfl,S2,go λW=>h3 (iff.mpr W).2⟩
   have h2:¬fs.getD (a+1+i) 0=O:=λz=>h2 (UX (congrArg V.int z));exact⟨_,rfl,gF ⟨_,_,_,rfl,rfl,S2,go λW=>h2 (iff.mpr W).1⟩⟩
  rintro σ H3 ⟨Z,v5,v6,rfl,rfl,S,no⟩;rw[M]at no;show D.rt V.eE _;rw[hD];refine kN λb W=>?_;have:=W.lb;exact no b (by omega) W
 refine⟨_,rfl,_,rfl,t,_,_,_,rfl,rfl,bZ.of ht,bB (dw ha),?_⟩;refine⟨_,rfl,_,_,rfl,rfl,_,rfl,?_⟩;refine fK (λJ=>?_) (λJ=>?_)
 .have J:=U0 J;exact⟨_,rfl,rfl,by rw[UQ J];rfl,rfl⟩
 have J:¬fs.getD a 0<0:=λz=>J (UX z);exact⟨rfl,by rw[UO J];rfl,rfl⟩
theorem lR{f f1 f2:UR}{fd pE u5:Va}(B:Bl mg)(F:Fn K mg "kin_spans" c6 ["row"] f fd)(M:Fn K mg "framed" dk ["row"] f1 pE)(J:Fn K mg "kin_end" ew ["numbers","first"] f2 u5):a4 P w K mg base cQ 2 f fd ["row"] fO:=by
 have i7:a4 P w K mg base cQ 1 f1 pE ["row"] gH:=jy B M;have O:a4 P w K mg base cQ 1 f2 u5 ["numbers","first"] aC.ug:=wM B J;refine F.fn.ok ib (λvs H Q E h=>?_) (λkB A outer s H vs Q E hr h=>?_)
 .obtain⟨t,rs,rfl,_⟩:=h
  rfl
 obtain⟨t,rs,rfl,ht,fit,k⟩:=h;have hn:=fit.small;refine⟨_,(ah (aH (i:=1) ib.nd rfl (Or.inr rfl) (bA i7 M (hr.mono (by decide)) (af (pv 0) ai)))
  (ah (gc (ix:=2) (NC:=["first","numbers"]) ib.nd rfl (Or.inl rfl) rfl (dv (c:=s.heap.objs.size+1) (j:=1) rfl (by decide +kernel) (by decide +kernel) rfl rfl rfl rfl rfl) (fD rfl B.range (af (aI aD rfl B.len bu (af (pv 1) ai)) ai)) (λ_ _ _ _=>(aL (i:=0) (show(["first","numbers"]:List Vg).Nodup by decide +kernel) rfl (Or.inl rfl))) (λ_ _ _ _=>dt) (λ_ _ _ _=>(jP (af (pv 0) (af (bA O J (hr.mono (by decide)) (af (pv 1) (af (pv 0) ai))) ai)))))
  (aA (a9 (du (NC:=["span"]) rfl (jh rfl (by decide +kernel) (by decide +kernel)) (bK (pv 2)) (λ_ _ _ _=>(aL (i:=0) (show(["span"]:List Vg).Nodup by decide +kernel) rfl (Or.inl rfl))) (λ_ _ _ _=>(gb (aV Dv (b0 (fq (K:=K) rfl) (pv 0) av (λ_ _=>rfl)) vu (a5 _)))) (λ_ _ _ _=>(pv 0))))))),?_⟩
 have nd:=aC.cD fit;have fl:=a6 rs;refine⟨_,rfl,t,rs,rfl,ht,by omega,λt1 H1 s1 yW=>?_⟩;generalize aj rs=fs at nd fl yW k;have l7:(iV fs).length=fs.length:=aT fs
 let ok:Nat->V->Prop:=λa v=>(∃b:Nat,Kn fs a b/\v=.int b)\/((∀b,¬aC.Wh fs a b)/\v=.eE)
 refine⟨_,rfl,t1,_,rfl,.inr (bZ.of yW),_,rfl,by rw[l7];omega,by rw[l7];omega,λD hD=>?_⟩;refine fL (λi σ H2=>∃(v:Option V) (U:List V),σ=[v,Yl (.ref t1)]/\ax H1 H2/\U.length=i/\(∀a e,U[a]?=Yl e->ok a e)/\∃Z:List UR,H2 D=Yl (.lst (Z.map V.ref))/\Z.length=i/\∀a t' e,Z[a]?=Yl t'->U[a]?=Yl e->H2 t'=Yl (.tup [.int (a:Nat),e]))
  ⟨none,[],rfl,au hD,rfl,λa e h=>(nomatch h),[],ag,rfl,λa t' e h=>(nomatch h)⟩ ?_ ?_
 .rintro i σ H2 hi ⟨v,U,rfl,s2,Di,NW,Z,u4,IH,HZ⟩;rw[l7]at hi;have hi:i<fs.length:=by omega
  rw[Sf];refine ni ?_;have fin:∀e:V,ok i e->2<=U2/\∀tp,H2 tp=none->∃ys,upd H2 tp (.tup [.int (i:Nat),e]) D=Yl (.lst ys)/\ys.length<U2/\∃(v:Option V) (U:List V),([Yl (.int (i:Nat)),Yl (.ref t1)]:St)=[v,Yl (.ref t1)]/\ax H1 (upd (upd H2 tp (.tup [.int (i:Nat),e])) D (.lst (ys++[.ref tp])))/\U.length=i+1/\(∀a e,U[a]?=Yl e->ok a e)/\∃Z:List UR,upd (upd H2 tp (.tup [.int (i:Nat),e])) D (.lst (ys++[.ref tp])) D=Yl (.lst (Z.map V.ref))/\Z.length=i+1/\∀a t' e',Z[a]?=Yl t'->U[a]?=Yl e'->upd (upd H2 tp (.tup [.int (i:Nat),e])) D (.lst (ys++[.ref tp])) t'=Yl (.tup [.int (a:Nat),e']):=λe he=>by
   refine⟨by decide,λtp qd=>?_⟩;have ne:D≠tp:=λz=>by rw[<-z,u4]at qd;cases qd
   have sp:ax H2 (upd H2 tp (.tup [.int (i:Nat),e])):=au qd;refine⟨_,sp _ _ u4,aF (by rw[O0];omega),_,U++[e],rfl,(s2.trans sp).upd hD,by rw[O7,Di];rfl,λa x hx=>?_,Z++[tp],by rw[ag,Pb];rfl,by rw[O7,IH];rfl,λa t' x h1 h2=>?_⟩
   .by_cases c:a<U.length
    .rw[Pg c]at hx;exact NW a x hx
    rw[Pd (by omega)]at hx;have ea:a=i:=by have:=(O1.mp hx).1;simp at this;omega
    rw[ea,Di,QE]at hx;rw[ea,<-Option.some.inj hx];exact he
   by_cases c:a<i
   .rw[Pg (by omega)]at h1 h2;have q:=HZ a t' x h1 h2;have n1:t'≠D:=λz=>by rw[z,u4]at q;cases q
    rw[ao n1];exact sp _ _ q
   have ea:a=i:=by have:=(O1.mp h1).1;simp at this;omega
   rw[Pd (by omega),ea,IH,QE]at h1;rw[Pd (by omega),ea,Di,QE]at h2;rw[<-Option.some.inj h1,<-Option.some.inj h2,ao (Ne.symm ne),ag,ea]
  refine⟨_,rfl,_,rfl,_,rfl,t1,fs,i,rfl,s2 _ _ yW,nd,hi,by omega,λb hb=>?_,λhb=>?_⟩
  .exact fin _ (.inl ⟨b,hb,rfl⟩)
  exact fin _ (.inr ⟨hb,rfl⟩)
 rintro σ H2 ⟨v,U,rfl,s2,Di,NW,Z,u4,IH,HZ⟩;rw[l7]at Di IH;have Di:U.length=fs.length:=by omega
 have IH:Z.length=fs.length:=by omega
 refine⟨_,rfl,D,rfl,⟨_,bc.of u4⟩,λD2 E2=>dD (K:=K) (a:=D) (xs:=Z.map V.ref) (λi σ H3=>∃v:Option V,σ=[v]/\ax H2 H3/\aC.df aC.pr H3 D2 ((Aa fs i).filter (nC fs))) ⟨none,rfl,au E2,aC.df.nil ag⟩ (λi σ H3 _ zq=>by obtain⟨_,_,s3,_⟩:=zq;exact bc.of (s3 _ _ u4)) ?_ ?_⟩
 .rintro i y σ H3 hy ⟨v,rfl,s3,hT⟩;have hi:i<fs.length:=by have:=(O1.mp hy).1;rw[O0]at this;omega
  rw[O6,OZ (by omega)]at hy;obtain rfl:=Option.some.inj hy;have et:Z[i]?=Yl Z[i]:=OZ (by omega);have ee:U[i]?=Yl U[i]:=OZ (by omega);have q:=s3 _ _ (HZ i _ _ et ee);have ba:=NW i _ ee;generalize Z[i]=t' at q;generalize U[i]=e at q ba;have ll:((Aa fs i).filter (nC fs)).length<=fs.length:=by
   have:=aC.oU fs i;omega
  refine⟨_,rfl,t',_,_,_,rfl,rfl,bZ.of q,(show vn [V.int (i:Nat),e] 1=Yl e from rfl),rfl,_,rfl,?_⟩;rcases ba with⟨b,hb,rfl⟩|⟨hb,rfl⟩
  .rcases uf (fs:=fs) (a:=i)with⟨hno,_⟩|⟨b',Kt,er⟩
   .exact UU hb.1 (hno b)
   have eb:=aC.dS Kt hb;subst eb;refine Bs (show(!decide (V.int (b':Nat)=V.eE))=true by rw[U1 (λz=>by cases z)];rfl) ?_;obtain⟨ys,y1,y2,y3⟩:=hT.snoc (t:=t') (x:=((i:Int),(b':Int))) q;refine⟨_,rfl,_,y1,aF (by rw[y2];omega),_,rfl,s3.upd E2,?_⟩;rw[aC.kK,Qf,er];exact y3
  refine xD (by decide) ?_;refine⟨_,rfl,s3,?_⟩;rcases uf (fs:=fs) (a:=i)with⟨_,er⟩|⟨b',Kt,_⟩
  .rw[aC.kK,Qf,er,Qj];exact hT
  exact UU Kt.1 (hb b')
 rintro σ H3 ⟨v,rfl,s3,hT⟩;rw[O0,IH]at hT;exact k D2 H3 ((s1.trans s2).free E2) ((s1.trans s2).trans s3) hT
theorem u6{f f1 f2 f3:UR}{fd pE u5 Ah:Va}(B:Bl mg)(F:Fn K mg "gap_kins" fU ["row"] f fd)(i8:Fn K mg "framed" dk ["row"] f1 pE)(Z:Fn K mg "kin_end" ew ["numbers","first"] f2 u5)(J:Fn K mg "kin_spans" c6 ["row"] f3 Ah):a4 P w K mg base cQ 3 f fd ["row"] aC.q8:=by
 have M:a4 P w K mg base cQ 2 f3 Ah ["row"] fO:=lR B J i8 Z;refine F.fn.ok eY (λvs H Q E h=>?_) (λkB A outer s H vs Q E hr h=>?_)
 .obtain⟨t,rs,rfl,_⟩:=h
  rfl
 obtain⟨t,rs,rfl,ht,fit,k⟩:=h;have hu:=qG hr;have hn:=fit.small;refine⟨_,(ah (aH (i:=1) eY.nd rfl (Or.inr rfl) iA)
  (ah (b9 PassesOwn.never rfl (bK (bA M J (hr.mono (by decide)) (af (pv 0) ai))) (l8 rfl (cv (aL (i:=2) eY.nd rfl (Or.inl rfl)) (cv (aL (i:=3) eY.nd rfl (Or.inl rfl)) jf))) (aA (b9 PassesOwn.never rfl (gw rfl B.range (af (pv 2) (af (pv 3) ai))) (aL (i:=4) eY.nd rfl (Or.inl rfl)) (aA (nK hu (pv 1) (pv 4) (jP (af (pv 2) (af (pv 3) ai))) rfl)))))
  (aA (a9 (du (NC:=["gap","told"]) rfl (dv (c:=s.heap.objs.size+1) (j:=1) rfl (by decide +kernel) (by decide +kernel) rfl rfl rfl rfl rfl) (fD rfl B.range (af (aK bo (aI aD rfl B.len bu (af (pv 0) ai)) av) ai)) (λ_ _ _ _=>(aL (i:=0) (show(["gap","told"]:List Vg).Nodup by decide +kernel) rfl (Or.inl rfl))) (λ_ _ _ _=>dt) (λ_ _ _ _=>(km hu (pv 1) (pv 0) (λ_ _=>rfl)))))))),?_⟩
 have l7:(iV rs).length=rs.length:=aT rs;have lim:∀x:Nat,x<=5000->x<sizeLine:=λx hx=>QO hx (by decide);intro dG EY;have s1:ax H (upd H dG (.dK [])):=au EY;have hG1:upd H dG (.dK []) dG=Yl (.dK []):=ag;generalize upd H dG (.dK [])=H1 at s1 hG1⊢;refine⟨_,rfl,t,rs,rfl,s1 _ _ ht,fit,λl H2 hl s2 hT=>?_⟩;obtain⟨ts,u4,hlen,qd⟩:=id hT;have kl:=aC.kL (aj rs);rw[a6]at kl;have asc:=aC.gM (aj rs);have knm:∀p∈cG (aj rs),∃a b:Nat,p=((a:Int),(b:Int))/\a<b/\b<rs.length+2:=λp hp=>by
  obtain⟨a,b,kn,rfl⟩:=aC.bG.mp hp;have:=kn.1.lb;rw[a6]at this;exact⟨a,b,rfl,kn.1.lt,this⟩
 have all:=λ(H:Hp) (d:UR) (kv:List (Key×V)) (h:GK H d kv (cG (aj rs))) (g:Nat) (hg:g<rs.length+1)=>aC.HB fit h hg;have fin:(Pu (rs.length+1)).map (ow (aj rs))=Bw rs:=rfl;generalize cG (aj rs)=ps at hT qd hlen kl asc knm all;have vN:(ts.map V.ref).length=ps.length:=by rw[O0,hlen]
 refine⟨l,rfl,⟨_,bc.of u4⟩,cO (K:=K) (a:=l) (xs:=ts.map V.ref) (λi σ H3=>∃(v2 v3 v4:Option V) (kv:List (Key×V)),σ=[Yl (.ref t),Yl (.ref dG),v2,v3,v4]/\ax H H3/\H3 l=Yl (.lst (ts.map V.ref))/\(∀a ys,H2 a=Yl (.tup ys)->H3 a=Yl (.tup ys))/\kv.length<=42*i/\GK H3 dG kv (ps.take i))
  ⟨none,none,none,[],rfl,s1.trans s2,u4,λa ys e=>e,O5 _,s2 _ _ hG1,λg q hq=>UU hq Pf⟩ (λi σ H3 _ ⟨_,_,_,_,_,_,h,_⟩=>bc.of h) ?_ ?_⟩
 .rintro i y σ H3 hy ⟨v2,v3,v4,kv,rfl,s3,E3,NX,lk,gk⟩;have hi:i<ps.length:=by rw[<-vN];exact(O1.mp hy).1
  have EZ:ps[i]?=Yl ps[i]:=OZ hi;obtain⟨t',KY,rfl⟩:∃t,ts[i]?=Yl t/\y=.ref t:=by
   rw[O6]at hy;obtain⟨t,e1,e2⟩:=Ph.mp hy;exact⟨t,e1,e2.symm⟩
  have Ag:=NX _ _ (qd i t' _ KY EZ);have Dm:ps.take (i+1)=ps.take i++[ps[i]]:=aC.take_snoc EZ;have lts:∀q∈ps.take i,q.1<ps[i].1:=λq hq=>by
   obtain⟨j,hj⟩:=PF hq;rw[QQ]at hj
   split at hj
   .rename_i h;have II:=O1.mp hj;have z:=PC.mp asc j i II.1 hi h;rw[II.2]at z;exact z
   cases hj
  obtain⟨a,b,ep,hab,hb⟩:=knm _ (PV hi);rw[ep]at Ag Dm lts;refine⟨t',_,rfl,bZ.of Ag,rfl,_,_,rfl,_,_,rfl,rfl,?_⟩;refine⟨_,rfl,_,rfl,_,_,rfl,⟨by omega,by omega,by omega,by omega⟩,fE (lo:=(a:Int)) (n:=((b:Int)-(a:Int)).toNat) (λj σ U=>∃(v4:Option V) (O:List (Key×V)),σ=[Yl (.ref t),Yl (.ref dG),Yl (.int a),Yl (.int b),v4]/\ax H U/\U l=Yl (.lst (ts.map V.ref))/\(∀a ys,H3 a=Yl (.tup ys)->U a=Yl (.tup ys))/\O.length<=42*i+j/\GI U dG kv O ((a:Int),(b:Int)) j)
   ⟨v4,kv,rfl,s3,E3,λa ys e=>e,by omega,gk.at',λg h1 h2=>by dsimp only at h1 h2;omega,λg _=>rfl⟩ ?_ ?_⟩
  .rintro j σ U hj ⟨v4,O,rfl,s4,zW,KZ,lk4,gi⟩;refine⟨_,rfl,_,rfl,by show 2<=U2;decide,λtp NY=>?_⟩;have s5:ax U (upd U tp (.tup [.int a,.int b])):=au NY;have h5:upd U tp (.tup [.int a,.int b]) tp=Yl (.tup (aC.pr ((a:Int),(b:Int)))):=ag;have gi5:GI (upd U tp (.tup [.int a,.int b])) dG kv O ((a:Int),(b:Int)) j:=⟨s5 _ _ gi.at',λg h1 h2=>let⟨t,e1,e2⟩:=gi.new g h1 h2;⟨t,e1,s5 _ _ e2⟩,gi.old⟩
   have gi6:=gi5.put (by dsimp only;omega) h5;have zl:=bS O (Sum.inl ((a:Int)+(j:Int)):Key) (V.ref tp);have adz:H dG=none:=EY;have nl:l≠dG:=λz=>by rw[z,gi.at']at zW;cases zW
   refine⟨_,rfl,_,rfl,dG,_,rfl,pM.k (k:=Sum.inl ((a:Int)+(j:Int))) gi5.at' (lim _ (by omega)),_,putK O (Sum.inl ((a:Int)+(j:Int)):Key) (V.ref tp),rfl,(s4.trans s5).upd EY,by rw[ao nl];exact s5 _ _ zW,λx ys e=>?_,by omega,gi6⟩;rw[ao λz=>by have:=gi.at';rw[<-z,KZ _ _ e]at this;cases this];exact s5 _ _ (KZ _ _ e)
  rintro σ U ⟨v4,O,rfl,s4,zW,KZ,lk4,gi⟩;refine⟨_,_,_,O,rfl,s4,zW,λx ys e=>KZ _ _ (NX _ _ e),by omega,?_⟩;rw[Dm];exact gk.next gi (by dsimp only;omega) lts KZ
 rintro σ H3 ⟨v2,v3,v4,kv,rfl,s3,E3,NX,lk,gk⟩;rw[vN,Qe]at gk;refine⟨_,rfl,t,_,rfl,.inr (bZ.of (s3 _ _ ht)),_,_,rfl,rfl,_,rfl,by rw[l7];omega,by rw[l7];omega,λD hD=>?_⟩;refine fL (λi σ U=>∃v:Option V,σ=[v,Yl (.ref dG)]/\ax H3 U/\aC.df aC.pr U D ((Pu i).map (ow (aj rs)))) ⟨none,rfl,au hD,aC.df.nil ag⟩ ?_ ?_
 .rintro i σ U hi ⟨v,rfl,s4,FU⟩;rw[l7]at hi;have hi:i<rs.length+1:=by omega
  rw[Sf];obtain⟨tp,e1,e2⟩:=all H3 dG kv gk i hi;have g4:=oC.k (k:=Sum.inl (i:Int)) (s4 _ _ gk.at');rw[e1]at g4;refine ni ?_;obtain⟨ys,y1,y2,y3⟩:=FU.snoc (t:=tp) (x:=ow (aj rs) i) (s4 _ _ e2);refine⟨_,rfl,_,rfl,dG,_,rfl,g4,_,y1,aF (by rw[y2,O0,PL];omega),_,rfl,s4.upd hD,?_⟩;rw[QD,Pb];exact y3
 rintro σ U ⟨v,rfl,s4,FU⟩;have e:(((iV rs).length:Nat)+1:Int).toNat=rs.length+1:=by rw[l7];omega
 rw[e,fin]at FU;exact k D U (s3.free hD) (s3.trans s4) FU
theorem u7{f f1 f2 f3 f4 f5:UR}{fd pE u5 Ah Dp LO:Va}(B:Bl mg)(F:Fn K mg "knots_in" eA ["row"] f fd)(J:Fn K mg "framed" dk ["row"] f1 pE)(jz:Fn K mg "kin_end" ew ["numbers","first"] f2 u5)(fb:Fn K mg "kin_spans" c6 ["row"] f3 Ah)(ie:Fn K mg "gap_kins" fU ["row"] f4 Dp)(O:Fn K mg "open_gaps" eR ["row"] f5 LO):a4 P w K mg base cQ 4 f fd ["row"] kZ:=by
 have i7:a4 P w K mg base cQ 1 f1 pE ["row"] gH:=jy B J;have wN:a4 P w K mg base cQ 3 f4 Dp ["row"] aC.q8:=u6 B ie J jz fb;have u9:a4 P w K mg base cQ 2 f5 LO ["row"] aC.oS:=sY B O J;refine F.fn.ok dJ (λvs H Q E h=>?_) (λkB A outer s H vs Q E hr h=>?_)
 .obtain⟨t,rs,rfl,_⟩:=h
  rfl
 obtain⟨t,rs,rfl,ht,fit,k⟩:=h;have hu:=qG hr;have hn:=fit.small;refine⟨_,(ah (aH (i:=1) dJ.nd rfl (Or.inl rfl) (bA i7 J (hr.mono (by decide)) (af (pv 0) ai)))
  (ah (aH (i:=2) dJ.nd rfl (Or.inl rfl) (bA wN ie (hr.mono (by decide)) (af (pv 0) ai)))
  (ah (aH (i:=3) dJ.nd rfl (Or.inl rfl) AE)
  (ah (b9 PassesOwn.never rfl (bK (bA u9 O (hr.mono (by decide)) (af (pv 0) ai))) (aL (i:=4) dJ.nd rfl (Or.inl rfl)) (ah (aH (i:=5) dJ.nd rfl (Or.inl rfl) (BI hu (pv 3) (b0 dP (pv 2) (pv 4) (λ_ _=>rfl)) (d6 ai) ⟨rfl,rfl,rfl,rfl⟩))
  (aA (fk (mM Qt SJ SK qE (pv 5) (af (d6 (af (fY gz (b0 jQ (pv 1) (pv 4) (λ_ _=>rfl)) av (a5 _)) (af (fY gz (b0 jQ (pv 1) (aK bo (pv 4) av) (λ_ _=>rfl)) av (a5 _)) ai))) ai))))))
  (aA (a9 (aI (iT false) rfl B.sorted qJ (af (du (NC:=["kin","beside"]) rfl (jh rfl (by decide +kernel) (by decide +kernel)) (Hn (pv 3)) (λ_ _ _ _=>(DJ (K:=K) (n:=2) rfl rfl (cv (aL (i:=0) (show(["kin","beside"]:List Vg).Nodup by decide +kernel) rfl (Or.inl rfl)) (cv (aL (i:=1) (show(["kin","beside"]:List Vg).Nodup by decide +kernel) rfl (Or.inl rfl)) jf)))) (λ_ _ _ _=>(gb (PW.pt (wZ (jN (aI (uG rfl) rfl B.all HF (af (pv 1) ai))) (vw (n6 (jN (aI (uF rfl) rfl B.any HG (af (pv 1) ai))))))))) (λ_ _ _ _=>(pv 0))) ai)))))))),?_⟩
 have fl:=a6 rs;have lim:∀x:Nat,x<=5000->x<sizeLine:=λx hx=>QO hx (by decide);refine⟨_,rfl,t,rs,rfl,ht,by omega,λtN H1 s1 hN=>?_⟩;refine⟨_,rfl,t,rs,rfl,s1 _ _ ht,fit,λlB H2 hlB s2 hB=>?_⟩;intro d hd;have s3:ax H2 (upd H2 d (.dT [])):=au hd;refine⟨_,rfl,t,rs,rfl,s3 _ _ (s2 _ _ (s1 _ _ ht)),by omega,λlO H4 hlO s4 hO=>?_⟩;have hd4:H4 d=Yl (.dT []):=s4 _ _ ag;have zX:ax H2 (wo H4 d):=aC.Ey (s3.trans s4) hd;have nOd:lO≠d:=λz=>by rw[z,ag]at hlO;cases hlO
 have LP:wo H4 d lO=Yl (.lst (iV (jI (aj rs) (rs.length+1)))):=by rw[aC.Cg nOd];exact hO
 have sH:ax H (wo H4 d):=(s1.trans s2).trans zX;have K0:=zX _ _ (s2 _ _ hN);have hB0:=hB.same zX;have Ku:wo H4 d d=none:=aC.FC;have s04:ax (wo H4 d) H4:=aC.Ex;generalize wo H4 d=H0 at zX LP sH K0 hB0 Ku s04;rw[aC.zF]at LP hO;have hL:∀g∈gX (aj rs) (rs.length+1),g<rs.length+1:=λg hg=>aC.Eo hg;have lL:=aC.En (aj rs) (rs.length+1);generalize gX (aj rs) (rs.length+1)=L at LP hO hL lL k;have eL:∀(i:Nat) (g:Nat),L[i]?=Yl g->(iV (L.map λ(g:Nat)=>(g:Int)))[i]?=Yl (.int (g:Int)):=λi g e=>by
  unfold iV;rw[O6,O6,e]
  rfl
 have Ia:(iV (L.map λ(g:Nat)=>(g:Int))).length=L.length:=by rw[aT,O0]
 refine⟨lO,rfl,⟨_,bc.of hO⟩,cO (K:=K) (a:=lO) (xs:=iV (L.map λ(g:Nat)=>(g:Int))) (λi σ H5=>∃(v4 v5:Option V) (kvs:List (List Key×V)) (ps:List (Int×Int)) (as:List UR),σ=[Yl (.ref t),Yl (.ref tN),Yl (.ref lB),Yl (.ref d),v4,v5]/\ax H0 H5/\KD H0 H5 d kvs ps as (iy (aj rs) (L.take i))/\kvs.length<=i)
  ⟨none,none,[],[],[],rfl,s04,⟨hd4,rfl,rfl,QJ,QJ,λj a p e=>(nomatch e),λa ha=>UU ha Pf,λp=>⟨λz=>UU z Pf,λz=>UU rfl z⟩⟩,O5 _⟩ (λi σ H5 _ zq=>by obtain⟨_,_,_,_,_,_,s5,_⟩:=zq;exact bc.of (s5 _ _ LP)) ?_ ?_⟩
 .rintro i y σ H5 hy ⟨v4,v5,kvs,ps,as,rfl,s5,kd,lk⟩;have hi:i<L.length:=by have:=(O1.mp hy).1;rw[Ia]at this;exact this
  have ei:L[i]?=Yl L[i]:=OZ hi;rw[eL i _ ei]at hy;obtain rfl:=Option.some.inj hy;have hg:=hL _ (PV hi);have Dm:L.take (i+1)=L.take i++[L[i]]:=aC.take_snoc ei;generalize L[i]=g at ei hg Dm;have egl:(Bw rs)[g]?=Yl (ow (aj rs) g):=by
   unfold Bw;rw[O6,QM hg]
   rfl
  obtain⟨vB,tB,b1,b2,b3⟩:=hB0.get egl;have U:∀q,q≠ow (aj rs) g->iy (aj rs) (L.take (i+1)) q=iy (aj rs) (L.take i) q:=λq hq=>by
   rw[Dm,aC.o5,UO λz=>hq z.symm]
  have Z:iy (aj rs) (L.take (i+1)) (ow (aj rs) g)=iy (aj rs) (L.take i) (ow (aj rs) g)++[decide ((aj rs).getD g 0<0),decide ((aj rs).getD (g+1) 0<0)]:=by
   rw[Dm,aC.o5,UQ rfl]
  have sl:(iy (aj rs) (L.take i) (ow (aj rs) g)).length<=100:=PH (aC.Em _ _ _) (by rw[Pz];omega);generalize iy (aj rs) (L.take (i+1))=F' at U Z;generalize iy (aj rs) (L.take i)=F at U Z sl kd;generalize ow (aj rs) g=p at b3 U Z sl;have e1:(g:Int)+1=((g+1:Nat):Int):=by omega
  have gN1:=dw (rs:=aj rs) (j:=g) (by omega);have gN2:=dw (rs:=aj rs) (j:=g+1) (by omega);refine⟨_,rfl,d,rfl,.inr ⟨_,.inl kd.at'⟩,_,rfl,_,rfl,lB,_,_,_,rfl,rfl,bc.of (s5 _ _ b1),bB b2,by show 0<=U2;decide,λn Ib=>?_⟩;have s6:ax H5 (upd H5 n (.lst [])):=au Ib;have Dq:=kd.same s6;have FT:upd H5 n (.lst []) n=Yl (.lst []):=ag;have GN:H0 n=none:=s5.free Ib;have NR:n∉as:=λz=>by
   obtain⟨j,hj⟩:=PF z;have hl:=kd.len;have II:j<ps.length:=by rw[<-hl.2];exact(O1.mp hj).1
   have:=kd.lst j n _ hj (OZ II);rw[Ib]at this;cases this
  have Ic:=s5.trans s6;generalize upd H5 n (.lst [])=H6 at s6 Dq FT Ic;refine⟨kvs,aC.kp p,tB,Dq.at',rfl,Ic _ _ b3,lim _ (by omega),λv hv=>?_,λhv=>?_⟩
  .obtain⟨a,ev,ha,NU,_⟩:=Dq.old (F':=F') hv Z U;subst ev;refine⟨_,rfl,.inl ⟨rfl,_,bc.of ha⟩,_,rfl,_,rfl,tN,_,_,_,rfl,rfl,bZ.of (Ic _ _ K0),bB gN1,_,_,rfl,rfl,_,rfl,_,rfl,_,_,rfl,rfl,tN,_,_,_,rfl,rfl,bZ.of (Ic _ _ K0),(by rw[e1];exact bB gN2),_,_,rfl,rfl,by show 2<=U2;decide,λl2 tA=>?_⟩;have s7:ax H6 (upd H6 l2 (.lst [.bl (decide ((aj rs).getD g 0<0)),.bl (decide ((aj rs).getD (g+1) 0<0))])):=au tA;have h27:upd H6 l2 (.lst [.bl (decide ((aj rs).getD g 0<0)),.bl (decide ((aj rs).getD (g+1) 0<0))]) l2=Yl (.lst [.bl (decide ((aj rs).getD g 0<0)),.bl (decide ((aj rs).getD (g+1) 0<0))]):=ag;generalize upd H6 l2 (.lst [.bl (decide ((aj rs).getD g 0<0)),.bl (decide ((aj rs).getD (g+1) 0<0))])=H7 at s7 h27;obtain⟨a',ev,NV,_,LQ⟩:=(Dq.same s7).old (F':=F') hv Z U;injection ev with ev;subst ev;exact⟨a,l2,_,_,rfl,rfl,NV,h27,Qo (lim _ (by rw[O0];show _+2<=_;omega)),_,_,kvs,ps,as,rfl,(Ic.trans s7).upd NU,LQ,by omega⟩
  have ndn:d≠n:=λz=>by have:=Dq.at';rw[z,FT]at this;cases this
  have F0:F p=[]:=O2 λc=>by
   have hp:=(Dq.mem p).mpr c;obtain⟨j,hj⟩:=PF hp;have hl:=Dq.len;have II:j<as.length:=by rw[hl.2];exact(O1.mp hj).1
   have:=aC.sx Dq.nk (Dq.key (OZ II) hj);rw[hv]at this;cases this
  have hn7:upd H6 d (.dT (putK kvs (aC.kp p) (.ref n))) n=Yl (.lst []):=by rw[ao (Ne.symm ndn)];exact FT
  have NZ:ax H0 (upd H6 d (.dT (putK kvs (aC.kp p) (.ref n)))):=Ic.upd Ku;refine⟨_,rfl,.inl ⟨rfl,_,bc.of hn7⟩,_,rfl,_,rfl,tN,_,_,_,rfl,rfl,bZ.of (NZ _ _ K0),bB gN1,_,_,rfl,rfl,_,rfl,_,rfl,_,_,rfl,rfl,tN,_,_,_,rfl,rfl,bZ.of (NZ _ _ K0),(by rw[e1];exact bB gN2),_,_,rfl,rfl,by show 2<=U2;decide,λl2 tA=>?_⟩;have n2d:l2≠d:=λz=>by rw[z,ag]at tA;cases tA
  have E4:H6 l2=none:=by rw[ao n2d]at tA;exact tA
  have n2n:n≠l2:=λz=>by rw[<-z,FT]at E4;cases E4
  have s8:ax H6 (upd H6 l2 (.lst [.bl (decide ((aj rs).getD g 0<0)),.bl (decide ((aj rs).getD (g+1) 0<0))])):=au E4;have LQ:=(Dq.same s8).fresh (F':=F') (xs:=[decide ((aj rs).getD g 0<0),decide ((aj rs).getD (g+1) 0<0)]) hv (s8 _ _ FT) GN NR F0 (by rw[Z,F0];rfl) (List.cons_ne_nil _ _) U;rw[aC.Ci n2d]at LQ;have lk':=bS kvs (aC.kp p) (V.ref n);exact⟨n,l2,_,_,rfl,rfl,by rw[ao n2n];exact hn7,ag,by show 2<=U2;decide,_,_,_,_,_,rfl,((NZ.upd (Ic.free E4)).upd GN),LQ,by omega⟩
 rintro σ H5 ⟨v4,v5,kvs,ps,as,rfl,s5,kd,lk⟩;rw[Ia,Qe]at kd;rw[Ia]at lk;have hl:=kd.len;refine⟨_,rfl,d,kvs,rfl,kd.at',λob D hD=>?_⟩;have K1:H5 D=none:=by
  by_cases e:D=d
  .rw[e,ag]at hD;cases hD
  rwa[ao e]at hD
 have hd6:upd H5 d (.gv ob (.dT kvs)) d=Yl (.gv ob (.dT kvs)):=ag;have s6:ax H0 (upd H5 d (.gv ob (.dT kvs))):=s5.upd Ku;have ls6:∀(j:Nat) (a:UR) (p:Int×Int),as[j]?=Yl a->ps[j]?=Yl p->upd H5 d (.gv ob (.dT kvs)) a=Yl (.lst ((iy (aj rs) L p).map V.bl)):=λj a p h1 h2=>by
  have z:=kd.lst j a p h1 h2;rw[ao λq=>by have:=kd.at';rw[<-q,z]at this;cases this];exact z
 generalize upd H5 d (.gv ob (.dT kvs))=H6 at hD hd6 s6 ls6⊢;refine BM (λi σ H7=>∃v v':Option V,σ=[v,v']/\ax H6 H7/\aC.df aC.pr H7 D ((ps.take i).filter (aC.bySigns (aj rs) L))) ⟨none,none,rfl,au hD,aC.df.nil ag⟩ (λi σ H7 _ ⟨_,_,_,s7,_⟩=>s7 _ _ hd6) ?_ ?_
 .rintro i tp b kk v σ H7 hy ⟨v,v',rfl,s7,K3⟩ qd hb;have hi:i<ps.length:=by rw[<-hl.1];exact(O1.mp hy).1
  have Ni:i<as.length:=by omega
  have ep:=OZ hi;have ea:=OZ Ni;rw[kd.key ea ep]at hy;injection hy with hy;injection hy with hy1 hy2;subst hy1 hy2;have s8:ax H7 (upd H7 tp (.tup [.ref b,.ref as[i]])):=au qd;have ha:=s8 _ _ (s7 _ _ (ls6 i _ _ ea ep));refine⟨tp,_,rfl,bZ.of ag,rfl,_,_,rfl,_,_,rfl,rfl,?_⟩;refine⟨_,rfl,as[i],_,rfl,ha,_,rfl,?_⟩;have es:(ps.take (i+1)).filter (aC.bySigns (aj rs) L)=(ps.take i).filter (aC.bySigns (aj rs) L)++(if aC.bySigns (aj rs) L ps[i]=true then[ps[i]]else[]):=by
   rw[aC.take_snoc ep,Qf,Qu,Qv]
  obtain⟨ys,y1,y2,y3⟩:=(K3.same s8).snoc (t:=b) (x:=ps[i]) (s8 _ _ hb);have yl:ys.length<sizeLine:=lim _ (by rw[y2];exact PH (PN _ _) (by rw[Pz];omega));have hs8:ax H6 (upd (upd H7 tp (.tup [.ref b,.ref as[i]])) D (.lst (ys++[.ref b]))):=(s7.trans s8).upd hD;refine fK (λh1=>?_) (λh1=>?_)
  .have bt:aC.bySigns (aj rs) L ps[i]=true:=by unfold aC.bySigns;rw[h1];rfl
   rw[UQ bt]at es;dsimp only;rw[UQ rfl];exact⟨_,rfl,ys,y1,yl,_,_,rfl,hs8,by rw[es];exact y3⟩
  refine⟨_,rfl,as[i],_,rfl,ha,_,rfl,?_⟩;refine fK (λh2=>?_) (λh2=>?_)
  .have bt:aC.bySigns (aj rs) L ps[i]=true:=by unfold aC.bySigns;rw[h2];exact Bool.or_true _
   rw[UQ bt]at es;exact⟨_,rfl,ys,y1,yl,_,_,rfl,hs8,by rw[es];exact y3⟩
  have bt:¬aC.bySigns (aj rs) L ps[i]=true:=by
   unfold aC.bySigns;rw[Ux];exactλz=>z.elim h1 h2
  rw[UO bt,Qj]at es;exact⟨_,_,rfl,s7.trans s8,by rw[es];exact K3.same s8⟩
 rintro σ H7 ⟨v,v',rfl,s7,K3⟩;rw[hl.1,Qe]at K3;obtain⟨ts,g,c1,c2,c3,c4⟩:=aC.kX K3 (λp hp=>aC.yh fit (aC.yg fit hL ((kd.mem p).mp (O9.mp hp).1)));have tl:ts.length<64:=by
  rw[c2];exact QO (PN _ _) (by omega)
 refine⟨D,ts,g,rfl,bc.of c1,tl,c3,λus l hp hs K4=>?_⟩;obtain⟨M,m1,m2,m3⟩:=c4 us hp hs;have eM:=aC.Cj fit hL kd.np kd.mem m1 m2;have s8:ax H7 (upd H7 l (.lst (us.map V.ref))):=au K4;have K5:=m3 _ l s8 ag;rw[eM]at K5;exact k l _ (((sH.trans s6).trans s7).free K4) (((sH.trans s6).trans s7).trans s8) K5
end
section
seal L2.qp L2.PS L2.PE L2.PT L2.PA
variable {P:U3}{w:U4}{K:Pa}{mg:Vg->Option UP}{base:Vd}
theorem j6{f:UR}{fd:Va}(B:Bl mg)(F:Fn K mg "shortest_around" bW ["chain","kins"] f fd):a4 P w K mg base cQ 1 f fd ["chain","kins"] aC.yd:=by
 refine F.fn.ok fW (λvs H Q E h=>?_) (λkB A outer s H vs Q E Z h=>?_)
 .obtain⟨tc,l,z,c,kins,rfl,_⟩:=h
  rfl
 obtain⟨tc,l,z,c,kins,rfl,hc,ht,O,hk,hn,k⟩:=h;refine⟨_,(ah (gc (ix:=2) (NC:=["kin","chain"]) fW.nd rfl (Or.inl rfl) rfl (dv (c:=s.heap.objs.size+1) (j:=0) rfl (by decide +kernel) (by decide +kernel) rfl rfl rfl rfl rfl) (bK (pv 1)) (λ_ _ _ _=>(aL (i:=0) (show(["kin","chain"]:List Vg).Nodup by decide +kernel) rfl (Or.inl rfl))) (λ_ _ _ _=>(gb (PW.pt (jO (aV gz (b0 (fq (K:=K) rfl) (pv 0) av (λ_ _=>rfl)) (b0 (fq (K:=K) rfl) (b0 (fq (K:=K) rfl) (pv 1) av (λ_ _=>rfl)) av (λ_ _=>rfl)) (a5 _)) (jd (aV gz (b0 (fq (K:=K) rfl) (b0 (fq (K:=K) rfl) (pv 1) (qr ma av) (λ_ _=>rfl)) av (λ_ _=>rfl)) (b0 (fq (K:=K) rfl) (pv 0) av (λ_ _=>rfl)) (a5 _))))))) (λ_ _ _ _=>(pv 0)))
  (aA (a9 (dg g7 (pv 2) (dO (qr ma av)) fo)))),?_⟩
 obtain⟨us,h1,h2,h3⟩:=id hk;have hcl:=ht.1;have c0:0<c.length:=by cases c with|nil=>exact UU rfl O|cons x r=>exact S4 _
 have g0:z[0]?=Yl (z[0]'(by omega)):=OZ (by omega);have gl:z[z.length-1]?=Yl (z[z.length-1]'(by omega)):=OZ (by omega);have t0:H (z[0]'(by omega))=Yl (.tup (aC.pr (c.headD (0,0)))):=ht.2 0 _ _ g0 (by cases c with|nil=>exact UU rfl O|cons x r=>rfl);have tl:H (z[z.length-1]'(by omega))=Yl (.tup (aC.pr (c.getLastD (0,0)))):=ht.2 _ _ _ gl (by
  rw[hcl,<-Qz,Qy];cases e:c.getLast? with
  |none=>exact UU (List.getLast?_eq_none_iff.mp e) O
  |some x=>rfl)
 generalize z[0]'(by omega)=u0 at g0 t0;generalize z[z.length-1]'(by omega)=ul at gl tl;have a0:vn (z.map V.ref) 0=Yl (.ref u0):=bB (j:=0) (by rw[O6,g0];rfl);have al:vn (z.map V.ref) (-1)=Yl (.ref ul):=aC.yc (by rw[R5,Qz,gl];rfl);refine⟨_,rfl,l,rfl,⟨_,bc.of h1⟩,λD hD=>?_⟩;refine dD (K:=K) (a:=l) (xs:=us.map V.ref) (λi σ M=>∃v:Option V,σ=[v,Yl (.ref tc)]/\ax H M/\aC.df aC.pr M D ((kins.take i).filter (jC c))) ⟨none,rfl,au hD,aC.df.nil ag⟩ (λi σ M _ zq=>by obtain⟨_,_,J,_⟩:=zq;exact bc.of (J _ _ h1)) ?_ ?_
 .rintro i x σ M hx ⟨v,rfl,J,U⟩;rw[O6]at hx;obtain⟨t,et,rfl⟩:=Ph.mp hx;have hi:i<kins.length:=by rw[<-h2];exact(O1.mp et).1
  have ek:=OZ hi;generalize kins[i]=p at ek;have hp:=J _ _ (h3 i t p et ek);have hl:((kins.take i).filter (jC c)).length<=100:=PH (PN _ _) (by rw[Pz];omega);refine⟨_,rfl,t,_,_,_,rfl,rfl,bZ.of hp,rfl,_,rfl,tc,_,_,_,rfl,rfl,bZ.of (J _ _ hc),a0,u0,_,_,_,rfl,rfl,bZ.of (J _ _ t0),rfl,_,_,rfl,rfl,_,rfl,?_⟩;have e3:(kins.take (i+1)).filter (jC c)=(kins.take i).filter (jC c)++(if jC c p=true then[p]else[]):=by
   rw[aC.take_snoc ek,Qf,Qu,Qv]
  have yes:jC c p=true->∃ys,M D=Yl (.lst ys)/\ys.length<U2/\∃v:Option V,[Yl (.ref t),Yl (.ref tc)]=[v,Yl (.ref tc)]/\ax H (upd M D (.lst (ys++[.ref t])))/\aC.df aC.pr (upd M D (.lst (ys++[.ref t]))) D ((kins.take (i+1)).filter (jC c)):=λh=>by
   obtain⟨ys,y1,y2,y3⟩:=U.snoc hp;refine⟨ys,y1,aF (by rw[y2];omega),_,rfl,J.upd hD,?_⟩;rw[e3,UQ h];exact y3
  have no:¬jC c p=true->∃v:Option V,[Yl (V.ref t),Yl (.ref tc)]=[v,Yl (.ref tc)]/\ax H M/\aC.df aC.pr M D ((kins.take (i+1)).filter (jC c)):=λh=>by
   refine⟨_,rfl,J,?_⟩;rw[e3,UO h,Qj];exact U
  have ar:jC c p=(decide (p.1<(c.headD (0,0)).1)&&decide ((c.getLastD (0,0)).2<p.2)):=rfl;by_cases c1:p.1<(c.headD (0,0)).1
  .rw[UX c1];refine pQ ?_;refine⟨_,rfl,_,rfl,tc,_,_,_,rfl,rfl,bZ.of (J _ _ hc),al,ul,_,_,_,rfl,rfl,bZ.of (J _ _ tl),rfl,_,rfl,t,_,_,_,rfl,rfl,bZ.of hp,rfl,_,_,rfl,rfl,_,rfl,?_⟩;by_cases c2:(c.getLastD (0,0)).2<p.2
   .rw[UX c2];exact pQ ⟨_,rfl,yes (by rw[ar,UX c1,UX c2];rfl)⟩
   rw[U1 c2];exact gF (no (by rw[ar,U1 c2];simp))
  rw[U1 c1];exact gF (gF (no (by rw[ar,U1 c1];simp)))
 rintro σ M ⟨v,rfl,J,U⟩;rw[O0,h2,Qe]at U;obtain⟨vs,w1,w2,w3⟩:=id U;refine⟨_,rfl,_,rfl,_,rfl,D,_,rfl,bc.of w1,λr Z=>?_⟩;refine k r _ (J.free Z) (J.trans (au Z)) ?_;rw[aC.zJ,O0];refine⟨vs.drop (vs.length-1),by rw[ag,RF],?_,λi u q e1 e2=>?_⟩
 .rw[PU];unfold cq iW;rw[PU,w2]
 rw[RU]at e1;unfold cq iW at e2;rw[RU,<-w2]at e2;exact(au Z) _ _ (w3 _ u q e1 e2)
theorem zY{f f1 f2:UR}{fd pE u5:Va}(B:Bl mg)(F:Fn K mg "web_of" i6 ["kins"] f fd)(M:Fn K mg "hung_together" bR ["pairs"] f1 pE)(J:Fn K mg "shortest_around" bW ["chain","kins"] f2 u5):a4 P w K mg base cQ 2 f fd ["kins"] (nT P w):=by
 have nH:a4 P w K mg base cQ 1 f1 pE ["pairs"] su:=gW B M;have Z:a4 P w K mg base cQ 1 f2 u5 ["chain","kins"] aC.yd:=j6 B J;refine F.fn.ok eB (λvs H Q E h=>?_) (λkB A outer s H vs Q E hr h=>?_)
 .obtain⟨l,kins,rfl,_⟩:=h
  rfl
 obtain⟨l,kins,rfl,hk,asc,hn,k⟩:=h;have uo:=hr.lt 1 (by decide);refine⟨_,(ah (aH (i:=1) eB.nd rfl (Or.inl rfl) (NK.uw (P:=P) (w:=w) rfl rfl))
  (ah (b9 PassesOwn.never rfl (bK (pv 0)) (aL (i:=2) eB.nd rfl (Or.inl rfl)) (aA (NK.ux (P:=P) (w:=w) rfl rfl uo (pv 1) (pv 2) (d6 ai) rfl)))
  (ah (b9 PassesOwn.never rfl (bK (bA nH M (hr.mono (by decide)) (af (pv 0) ai))) (aL (i:=3) eB.nd rfl (Or.inl rfl)) (ah (aH (i:=4) eB.nd rfl (Or.inl rfl) (bQ cR rfl B.tuple iB (af (du (NC:=["place","kins"]) rfl (dv (c:=s.heap.objs.size+1) (j:=0) rfl (by decide +kernel) (by decide +kernel) rfl rfl rfl rfl rfl) (Gk (pv 3)) (λ_ _ _ _=>(aL (i:=0) (show(["place","kins"]:List Vg).Nodup by decide +kernel) rfl (Or.inl rfl))) (λ_ _ _ _=>dt) (λ_ _ _ _=>(b0 (tX (K:=K) rfl) (pv 1) (pv 0) (λ_ _=>rfl)))) ai)))
  (ah (aH (i:=5) eB.nd rfl (Or.inl rfl) (aK oF (bQ g9 rfl B.list jk (af (pv 4) ai)) (bA Z J (hr.mono (by decide)) (af (pv 4) (af (pv 0) ai)))))
  (ah (NK.ux (P:=P) (w:=w) rfl rfl uo (pv 1) (pv 4) (pv 5) rfl)
  (aA (b9 PassesOwn.never rfl (bK (pv 5)) (aL (i:=2) eB.nd rfl (Or.inl rfl)) (aA (fk (mM Qt Q0 Q1 fF (fQ (P:=P) (w:=w) rfl rfl uo (pv 1) (pv 2) (λ_ _=>rfl)) (af (pv 4) ai))))))))))
  (aA (a9 (pv 1)))))),?_⟩
 obtain⟨us,h1,h2,h3⟩:=id hk;intro a ha;have T0:j8 P w (upd H a (iR P w a [])) a [] []:=⟨⟨ag,λp hp=>UU hp Pf⟩,.nil,QJ⟩
 have s0:ax H (upd H a (iR P w a [])):=au ha;generalize upd H a (iR P w a [])=H0 at T0 s0;have lim:∀x:Nat,x<=1000->x<sizeLine:=λx hx=>aF hx;refine⟨_,rfl,l,rfl,⟨_,bc.of (s0 _ _ h1)⟩,cO (K:=K) (a:=l) (xs:=us.map V.ref) (λi σ H2=>∃(O:Es) (v2:Option V),σ=[Yl (.ref l),Yl (.ref a),v2,none,none,none]/\ax H H2/\uJ H O/\j8 P w H2 a O ((kins.take i).map λq=>(pN q,[]))) ⟨[],none,rfl,s0,λe h=>UU h Pf,T0⟩ (λi σ H2 _ zq=>by obtain⟨_,_,_,s2,_⟩:=zq;exact bc.of (s2 _ _ h1)) ?_ ?_⟩
 .rintro i x σ H2 hx ⟨O,v2,rfl,s2,nw,T⟩;rw[O6]at hx;obtain⟨t,et,rfl⟩:=Ph.mp hx;have hi:i<kins.length:=by rw[<-h2];exact(O1.mp et).1
  have ek:=OZ hi;have hp:=h3 i t _ et ek;refine⟨by show 0<=U2;decide,λn Ib=>?_⟩;have s3:ax H2 (upd H2 n (.lst [])):=au Ib;have n3:upd H2 n (.lst []) n=Yl (.lst []):=ag;generalize upd H2 n (.lst [])=H3 at s3 n3;have T3:=T.same s3;have lE:O.length=i:=by rw[T.r.length,O0,Pz];omega
  have Ks:n∉O.map (·.2.2):=λz=>by
   obtain⟨e,he,rfl⟩:=O4.mp z;obtain⟨y,_,_,bs,q,_⟩:=cX T.r he;rw[Ib]at q;cases q
  refine⟨_,rfl,_,rfl,a,t,_,_,rfl,rfl,T3.d,NK.K2.pair (s3 _ _ (s2 _ _ hp)),lim _ (by unfold eV;rw[O0];omega),?_⟩;have T4:=T3.put (k:=pN kins[i]) (b:=t) (l:=n) (ks:=[]) (λz=>by
   unfold bb at z;rw[PK]at z;obtain⟨q,hq,e⟩:=O4.mp z;have e:q=kins[i]:=aC.jX e;subst e;obtain⟨j,hj⟩:=PF hq;rw[QQ]at hj;by_cases c:j<i
   .rw[UQ c]at hj;have:=(Qa (O1.mp hj).1 (aC.o6 asc)).mp (hj.trans ek.symm);omega
   rw[UO c]at hj;cases hj) (NK.K2.pair (s3 _ _ (s2 _ _ hp))) ⟨[],n3,rfl,λi b k e=>by simp at e⟩ Ks
  have a0:H a=none:=ha;refine⟨O++[(pN kins[i],t,n)],_,rfl,(s2.trans s3).upd a0,λe he=>?_,?_⟩
  rotate_left
  .rw[aC.take_snoc ek,Pb];exact T4
  rcases Pl.mp he with he|he
  .exact nw e he
  rw[O3.mp he];exact s2.free Ib
 rintro σ H2 ⟨O,v2,rfl,s2,nw,T⟩;rw[O0,h2,Qe]at T;have KO:=aC.jt asc;have T:j8 P w H2 a O (d8 kins []):=by
  unfold d8;rw[T6,Qj];exact T
 have cl:=aC.jY kins;refine⟨_,rfl,l,kins,rfl,hk.same s2,hn,λr H3 hr3 s3 hR=>?_⟩;obtain⟨rs,r1,r2,r3⟩:=id hR;have nar:a≠r:=λz=>by have q:=T.d.1;rw[z,hr3]at q;cases q
 have LR:r∉O.map (·.2.2):=λz=>by
  obtain⟨e,he,q0⟩:=O4.mp z;obtain⟨y,_,_,bs,q,_⟩:=cX T.r he;have q0:e.2.2=r:=q0;rw[q0,hr3]at q;cases q
 refine⟨r,rfl,⟨_,bc.of r1⟩,cO (K:=K) (a:=r) (xs:=rs.map V.ref) (λj σ H4=>∃(O:Es) (v2 v3 v4 v5:Option V),σ=[Yl (.ref l),Yl (.ref a),v2,v3,v4,v5]/\ax H H4/\uJ H O/\aC.df iV H4 r (fw kins)/\H4 r=Yl (.lst (rs.map V.ref))/\r∉O.map (·.2.2)/\j8 P w H4 a O (d8 kins ((aP kins).take j))) ⟨O,_,_,_,_,rfl,s2.trans s3,nw,hR,r1,LR,T.same s3⟩ (λi σ H4 _ ⟨_,_,_,_,_,_,_,_,_,e,_⟩=>bc.of e) ?_ ?_⟩
 .rintro j x σ H4 hx ⟨O,v2,v3,v4,v5,rfl,s4,nw,N0,r4,LR,T⟩;rw[O6]at hx;obtain⟨tg,etg,rfl⟩:=Ph.mp hx;have hj:j<(fw kins).length:=by rw[<-r2];exact(O1.mp etg).1
  have eg:=OZ hj;have hg:(fw kins)[j]∈fw kins:=PV _;generalize(fw kins)[j]=g at eg hg;have htg:H4 tg=Yl (.tup (iV g)):=by
   obtain⟨rs',q1,q2,q3⟩:=N0;rw[r4]at q1;have:rs=rs':=(Ri (f:=V.ref) λa b h=>by injection h).mp (by injection q1 with q1;injection q1);subst this;exact q3 j tg g etg eg
  obtain⟨gne,glt,adM,adN⟩:=aC.lq hg;have ec:(aP kins)[j]?=Yl (gP kins g):=by unfold aP;rw[O6,eg];rfl
  have hc:=Pk ec;refine⟨_,rfl,tg,rfl,⟨_,bZ.of htg⟩,λD hD=>?_⟩;refine A6 (K:=K) (a:=tg) (xs:=iV g) (λi σ H5=>∃(v:Option V) (ts:List UR),σ=[v,Yl (.ref l)]/\ax H4 H5/\H5 D=Yl (.lst (ts.map V.ref))/\aC.Tup aC.pr H5 ts (gP kins (g.take i))) ⟨none,[],rfl,au hD,ag,rfl,λi t x e=>by simp at e⟩ (λi σ H5 _ ⟨_,_,_,s5,_⟩=>bZ.of (s5 _ _ htg)) ?_ ?_
  .rintro i x σ H5 hx ⟨v,ts,rfl,s5,K1,tp⟩;unfold iV at hx;rw[O6]at hx;obtain⟨y,ey,rfl⟩:=Ph.mp hx;have hy:=glt y (Pk ey);have eu:=OZ (l:=us) (i:=y.toNat) (by omega);generalize us[y.toNat]'(by omega)=u at eu;have ek:=OZ (l:=kins) (i:=y.toNat) (by omega);have hu:=(s4.trans s5) _ _ (h3 _ u _ eu ek);have lt:=tp.1;have Fs:i<g.length:=(O1.mp ey).1;refine ni ?_;refine⟨_,rfl,_,rfl,l,_,_,_,rfl,rfl,bc.of ((s4.trans s5) _ _ h1),GP hy.1 (by rw[O6,eu];rfl),_,K1,lim _ (by rw[O0,lt];unfold gP;rw[O0,Pz];omega),_,ts++[u],rfl,s5.upd hD,by rw[ag,Pb];rfl,?_⟩;rw[aC.Cf kins ey];have e9:kins.getD y.toNat (0,0)=kins[y.toNat]'(by omega):=by rw[Py,ek];rfl
   rw[e9];exact(tp.app (aC.Tup.one hu)).upd K1
  rintro σ H5 ⟨v,ts,rfl,s5,K1,tp⟩;rw[aT,Qe]at tp;refine⟨D,_,rfl,.inl K1,λtc H6 s6 N1=>?_⟩;have N2:=s5.trans s6;have K6:=tp.same s6;generalize IZ:gP kins g=c at K6 ec hc;have Ao:c≠[]:=λz=>by rw[<-IZ]at z;unfold gP at z;exact gne (Ts.mp z)
  have adO:c.length<=100:=by rw[<-IZ];unfold gP;rw[O0];omega
  refine⟨_,rfl,tc,_,rfl,.inr (bZ.of N1),λl1 hl1=>?_⟩;have E5:ax H6 (upd H6 l1 (.lst (ts.map V.ref))):=au hl1;have l17:upd H6 l1 (.lst (ts.map V.ref)) l1=Yl (.lst (ts.map V.ref)):=ag;generalize upd H6 l1 (.lst (ts.map V.ref))=H7 at E5 l17;refine⟨_,rfl,_,rfl,tc,l,ts,c,kins,rfl,E5 _ _ N1,K6.same E5,Ao,hk.same ((s4.trans N2).trans E5),hn,λr2 H8 E1 IJ t8=>?_⟩;obtain⟨qs,q1,q2⟩:=t8.tup;have tp8:=(K6.same E5).same IJ;have shl:=aC.iX (kins:=kins) (c:=c);refine⟨l1,r2,_,_,rfl,rfl,IJ _ _ l17,q1,Qo (lim _ (by rw[O0,O0,K6.1,q2.1];omega)),λU tA=>?_⟩;have L9:=aC.Nt tp8 q2 tA;have LS:ax H8 (upd H8 U (.lst (ts.map V.ref++qs.map V.ref))):=au tA;have LU:upd H8 U (.lst (ts.map V.ref++qs.map V.ref)) U=Yl (.lst ((ts++qs).map V.ref)):=by rw[ag,Pb]
  generalize upd H8 U (.lst (ts.map V.ref++qs.map V.ref))=H9 at L9 LS LU;have L9:aC.df aC.pr H9 U (lj kins c):=L9;have LV:=((N2.trans E5).trans IJ).trans LS;have T9:=T.same LV;have N3:=(E5.trans (IJ.trans LS)) _ _ N1;have N4:NK.K2 H9 (cN c) tc:=NK.K2.chain N3 ((K6.same E5).same (IJ.trans LS));have LW:O.length<=200:=by
   rw[T.r.length];unfold d8;rw[O7,O0,O0,Pz];omega
  have n2:H4 U=none:=(N2.trans (E5.trans IJ)).free tA;have Ks:U∉O.map (·.2.2):=λz=>by
   obtain⟨e,he,q0⟩:=O4.mp z;obtain⟨y,_,_,bs,q,_⟩:=cX T.r he;have q0:e.2.2=U:=q0;rw[q0,n2]at q;cases q
  refine⟨_,rfl,_,rfl,_,rfl,a,tc,_,_,rfl,rfl,T9.d,N4,lim _ (by unfold eV;rw[O0];omega),?_⟩;have N5:cN c∉bb (d8 kins ((aP kins).take j)):=λz=>by
   rw[aC.gQ]at z;rcases Pl.mp z with z|z
   .obtain⟨q,_,e⟩:=O4.mp z;exact iU e
   obtain⟨d,hd,e⟩:=O4.mp z;cases aC.sA e;obtain⟨i,hi⟩:=PF hd;rw[QQ]at hi;by_cases q:i<j
   .rw[UQ q]at hi;have:=(Qa (O1.mp hi).1 KO.LC).mp (hi.trans ec.symm);omega
   rw[UO q]at hi;cases hi
  have N6:=T9.put N5 N4 L9.Nr Ks;rw[<-aC.zK]at N6;have LX:ax H (upd H9 a (iR P w a (NK.put2 (eV O) (cN c) tc (.ref U)))):=(s4.trans LV).upd ha;have N7:=L9.FA (o:=iR P w a (NK.put2 (eV O) (cN c) tc (.ref U))) T9.d.1;have R10:=(N0.same LV).FA (o:=iR P w a (NK.put2 (eV O) (cN c) tc (.ref U))) T9.d.1;have E6:upd H9 a (iR P w a (NK.put2 (eV O) (cN c) tc (.ref U))) U=Yl (.lst ((ts++qs).map V.ref)):=by
   rw[ao (λz=>by rw[z,T9.d.1]at LU;cases LU)];exact LU
  have r10:upd H9 a (iR P w a (NK.put2 (eV O) (cN c) tc (.ref U))) r=Yl (.lst (rs.map V.ref)):=by
   rw[ao (Ne.symm nar)];exact LV _ _ r4
  have K7:NK.K2 (upd H9 a (iR P w a (NK.put2 (eV O) (cN c) tc (.ref U)))) (cN c) tc:=N4.keep λx ys e=>by
   rw[ao (λz=>by rw[z,T9.d.1]at e;cases e)];exact e
  generalize upd H9 a (iR P w a (NK.put2 (eV O) (cN c) tc (.ref U)))=K8 at N6 LX N7 R10 E6 r10 K7;have nw':uJ H (O++[(cN c,tc,U)]):=λe he=>by
   rcases Pl.mp he with he|he
   .exact nw e he
   rw[O3.mp he];exact s4.free n2
  have nr2:r≠U:=λz=>by rw[<-z,r4]at n2;cases n2
  have K9:r∉(O++[(cN c,tc,U)]).map (·.2.2):=λz=>by
   rw[Pb]at z;rcases Pl.mp z with z|z
   .exact LR z
   exact nr2 (O3.mp z)
  have ll:(ts++qs).length=(lj kins c).length:=by
   obtain⟨xs,x1,x2,_⟩:=N7;rw[E6]at x1;have:ts++qs=xs:=(Ri (f:=V.ref) λa b h=>by injection h).mp (by injection x1 with x1;injection x1);rw[this];exact x2
  have Kl:=KO.Kl c hc;have mnd:∀i,(bb (mF kins ((aP kins).take j) c i)).Nodup:=λi=>by
   rw[aC.zN];have:=(aC.h8 (kins:=kins) (cs:=(aP kins).take j++[c]) ⟨KO.knd,by
    have:(aP kins).take j++[c]=(aP kins).take (j+1):=(aC.take_snoc ec).symm;rw[this];exact KO.LC.sublist (TH _ _),λd hd=>KO.sub d (by
    rcases Pl.mp hd with hd|hd
    .exact Sk hd
    .rw[O3.mp hd];exact hc),λd hd=>KO.Kl d (by
    rcases Pl.mp hd with hd|hd
    .exact Sk hd
    rw[O3.mp hd];exact hc)⟩).nd
   rw[aC.gQ,Pb]at this;exact this
  refine⟨_,rfl,U,rfl,⟨_,bc.of E6⟩,cO (K:=K) (a:=U) (xs:=(ts++qs).map V.ref) (λi σ Ai=>∃(v2:Option V),σ=[Yl (.ref l),Yl (.ref a),v2,Yl (.ref tg),Yl (.ref tc),Yl (.ref U)]/\ax H Ai/\Ai U=Yl (.lst ((ts++qs).map V.ref))/\aC.df aC.pr Ai U (lj kins c)/\aC.df iV Ai r (fw kins)/\Ai r=Yl (.lst (rs.map V.ref))/\NK.K2 Ai (cN c) tc/\j8 P w Ai a (O++[(cN c,tc,U)]) (mF kins ((aP kins).take j) c i)) ⟨_,rfl,LX,E6,N7,R10,r10,K7,N6⟩ (λi σ Ai _ ⟨_,_,_,e,_⟩=>bc.of e) ?_ ?_⟩
  .rintro i x σ Ai hx ⟨v2,rfl,IK,Ie,N8,N9,Oa,E7,Ig⟩;rw[O6]at hx;obtain⟨t',et',rfl⟩:=Ph.mp hx;have hi:i<(lj kins c).length:=by rw[<-ll];exact(O1.mp et').1
   have ep:=OZ hi;generalize(lj kins c)[i]=q at ep;have hq:=KO.sub c hc q (Pk ep);have KY:Ai t'=Yl (.tup (aC.pr q)):=by
    obtain⟨xs,x1,x2,x3⟩:=N8;rw[Ie]at x1;have:ts++qs=xs:=(Ri (f:=V.ref) λa b h=>by injection h).mp (by injection x1 with x1;injection x1);subst this;exact x3 i t' q et' ep
   obtain⟨t,tm,te,Ob⟩:=aC.Ew (cs:=(aP kins).take j) (c:=c) (i:=i) hq;obtain⟨b3,l3,m3,v3',th3,_⟩:=Ig.at (mnd i) tm;rw[te]at m3 v3';obtain⟨vs,y1,y2,y3⟩:=th3.snoc E7;have n32:U≠l3:=λz=>by
    obtain⟨x,hx,ex⟩:=PB m3;have hz:x<O.length+1:=by rw[O7]at hx;exact hx
    have e1:((O++[(cN c,tc,U)]).map (·.2.2))[x]?=Yl U:=by rw[O6,OZ hx,ex,z];rfl
    have e2:((O++[(cN c,tc,U)]).map (·.2.2))[O.length]?=Yl U:=by rw[O6,Pd (O5 _),QE];rfl
    have:=(Qa (O1.mp e1).1 Ig.nd).mp (e1.trans e2.symm);subst this;have e3:(O++[(cN c,tc,U)])[O.length]?=Yl (cN c,tc,U):=by rw[Pd (O5 _),QE];rfl
    rw[OZ hx,ex]at e3;exact iU (congrArg Qd (Option.some.inj e3))
   have n3r:r≠l3:=λz=>K9 (O4.mpr ⟨_,m3,z.symm⟩);have h3n:H l3=none:=nw' _ m3;refine⟨_,rfl,_,rfl,a,t',_,_,_,rfl,rfl,Ig.d,NK.K2.pair KY,v3',.inl ⟨rfl,_,bc.of y1⟩,_,rfl,l3,_,_,rfl,rfl,y1,lim _ (by rw[y2];have:=Ob;rw[Pz]at this;omega),?_⟩;refine⟨_,rfl,IK.upd h3n,by rw[ao n32];exact Ie,N8.other y1 (Ne.symm n32),N9.other y1 (Ne.symm n3r),by rw[ao n3r];exact Oa,E7.keep λx ys e=>by rw[ao (λz=>by rw[z,y1]at e;cases e)];exact e,?_⟩;have T12:=Ig.chg (mnd i) m3 y1 (o:=.lst (vs++[.ref tc])) (f:=λls=>ls++[cN c]) (λls Ih=>by
    obtain⟨vs',z1,z2,z3⟩:=Ih.snoc E7;rw[y1]at z1;obtain rfl:vs=vs':=by injection z1 with z1;injection z1
    exact z3)
   rw[aC.zM Kl ep]at T12;exact T12
  rintro σ Ai ⟨v2,rfl,IK,Ie,N8,N9,Oa,E7,Ig⟩;rw[O0,ll,aC.Ce,<-aC.take_snoc ec]at Ig;exact⟨_,_,_,_,_,rfl,IK,nw',N9,Oa,K9,Ig⟩
 rintro σ H4 ⟨O,v2,v3,v4,v5,rfl,s4,nw,N0,r4,LR,T⟩;rw[O0,r2,show(fw kins).length=(aP kins).length by unfold aP;rw[O0],Qe]at T;exact⟨_,rfl,k a O H4 ha s4 nw T⟩
theorem nI{f:UR}{fd:Va}(B:Bl mg)(F:Fn K mg "spare_things" c7 ["web","knots"] f fd):a4 P w K mg base cQ 1 f fd ["web","knots"] (aC.yf P w):=by
 refine F.fn.ok nE (λvs H Q E h=>?_) (λkB A outer s H vs Q E hr h=>?_)
 .obtain⟨a,l,M,W,ks,rfl,_⟩:=h
  rfl
 obtain⟨a,l,M,W,ks,rfl,T,O,hn,hk,k⟩:=h;refine⟨_,(aA (a9 (NK.uv (P:=P) (w:=w) rfl rfl (du (NC:=["thing","web","knots"]) rfl (Et (pre:=["thing"]) (c:=s.heap.objs.size+1) (e:=s.heap.objs.size+2) (j:=0) (k:=1) rfl (by decide +kernel) (by decide +kernel) rfl rfl rfl rfl rfl rfl rfl rfl rfl) (NK.BZ (P:=P) (w:=w) rfl rfl (pv 0)) (λ_ _ _ _=>(aL (i:=0) (show(["thing","web","knots"]:List Vg).Nodup by decide +kernel) rfl (Or.inl rfl))) (λ_ _ _ _=>(gb (PW.pt (jO (aV tL (aI (gn (K:=K) rfl) rfl B.len bu (af (NK.uu (P:=P) (w:=w) rfl rfl (hr.lt 1 (by decide)) (pv 1) (pv 0) (λ_ _=>rfl)) ai)) av (a5 _)) (jd (aV (NK.zz (hr.lt 1 (by decide))) (pv 0) (pv 2) (by with_unfolding_all rfl))))))) (λ_ _ _ _=>(pv 0)))))),?_⟩;have LW:M.length=W.length:=T.r.length;have ev:(eV M).length=M.length:=by unfold eV;rw[O0]
 refine⟨_,rfl,a,eV M,rfl,T.d,λo D hD=>?_⟩;have La:D≠a:=λz=>by rw[z,ag]at hD;cases hD
 have LY:H D=none:=by rwa[ao La]at hD
 have sF:∀{c:UR}{ho:HO},H c=Yl ho->c≠a->upd H a (so P w a (eV M) o) c=Yl ho:=λ{c ho} e n=>by rw[ao n];exact e
 have U:zD P w (upd H a (so P w a (eV M) o)) a (eV M) o:=T.d.to;have nl:∀{c:UR}{vs:List V},H c=Yl (.lst vs)->c≠a:=λ{c vs} e z=>by rw[z,T.d.1]at e;cases e
 have nt:∀{c:UR}{vs:List V},H c=Yl (.tup vs)->c≠a:=λ{c vs} e z=>by rw[z,T.d.1]at e;cases e
 have LZ:∀{c:UR}{L:List Nd},NK.cV H c L->NK.cV (upd H a (so P w a (eV M) o)) c L:=λ{c L} q=>by
  obtain⟨bs,h1,h2,h3⟩:=q;exact⟨bs,sF h1 (nl h1),h2,λi b k e1 e2=>(h3 i b k e1 e2).keep λc ys e=>sF e (nt e)⟩
 have rF:=Paired.rq T.r (G:=RW (upd H a (so P w a (eV M) o))) λe t q=>⟨q.1,LZ q.2⟩
 have kF:=LZ hk.Nr;have back:∀{H5:Hp},ax (upd H a (so P w a (eV M) o)) H5->ax H (upd H5 a (iR P w a (eV M))):=λ{H5} s5 b o' e=>by
  by_cases z:b=a
  .subst z;rw[ag,<-e,T.d.1]
  rw[ao z];exact s5 _ _ (sF e z)
 generalize upd H a (so P w a (eV M) o)=H1 at hD U rF kF back;refine NK.x4 (λi σ Z=>∃v:Option V,σ=[v,Yl (.ref a),Yl (.ref l)]/\ax H1 Z/\NK.cV Z D (aJ (W.take i) ks)) ⟨none,rfl,au hD,[],ag,rfl,λi b k e=>by simp at e⟩ (λi σ Z _ ⟨_,_,J,_⟩=>⟨J _ _ U.1,λp hp=>NK.K2.same (U.2 p hp) J⟩) ?_ ?_
 .rintro i kk b v σ Z hx ⟨v0,rfl,J,hT⟩;obtain⟨l',he,rfl⟩:=Cc hx;obtain⟨t,ht,q1,q2⟩:=aC.rf rF he;have q1:kk=t.1:=q1;subst q1;have hm:=Pk he;have IL:NK.K2 Z t.1 b:=NK.K2.same (U.2 _ (O4.mpr ⟨_,hm,rfl⟩)) J;have vv:=sD (by rw[aC.lr T.r];exact O.nd) hm;obtain⟨vs,v1,v2⟩:=(NK.cV.same q2 J).len;have Fs:i<W.length:=(O1.mp ht).1;have Ir:=aC.wq (ks:=ks) ht;have hle:(aJ (W.take i) ks).length<=i:=by
   unfold aJ;rw[O0];exact PH (PN _ _) (by rw[Pz];omega)
  refine⟨_,rfl,_,rfl,a,b,_,o,t.1,_,rfl,rfl,⟨J _ _ U.1,λp hp=>NK.K2.same (U.2 p hp) J⟩,IL,vv,l',vs,rfl,.inl (bc.of v1),_,_,rfl,rfl,_,rfl,?_⟩;have no:¬(t.2.length<=1/\t.1∉ks.map pN)->∃v:Option V,[Yl (V.ref b),Yl (.ref a),Yl (.ref l)]=[v,Yl (.ref a),Yl (.ref l)]/\ax H1 Z/\NK.cV Z D (aJ (W.take (i+1)) ks):=λh=>by
   refine⟨_,rfl,J,?_⟩;rw[Ir,UO h,Qj];exact hT
  by_cases c1:t.2.length<=1
  .rw[UX (show((vs.length:Nat):Int)<=1 by omega)];refine pQ ⟨_,rfl,_,rfl,b,l,t.1,_,rfl,rfl,IL,NK.cV.same kF J,_,rfl,?_⟩;by_cases c2:t.1∈ks.map pN
   .rw[UX c2];exact gF (no λz=>z.2 c2)
   rw[U1 c2];obtain⟨ys,y1,y2,y3⟩:=hT.snoc IL;refine pQ ⟨_,rfl,ys,y1,aF (by rw[y2];omega),_,rfl,J.upd hD,?_⟩;rw[Ir,UQ ⟨c1,c2⟩];exact y3
  rw[U1 (show¬((vs.length:Nat):Int)<=1 by omega)];exact gF (gF (no λz=>c1 z.1))
 rintro σ Z ⟨v,rfl,J,hT⟩;rw[ev,LW,Qe]at hT;refine⟨a,eV M,o,⟨J _ _ U.1,λp hp=>NK.K2.same (U.2 p hp) J⟩,?_⟩;refine k D _ LY (back J) ?_;refine NK.cV.keep hT (by rw[ao La]) λc ys e=>?_;rw[ao (λz=>by rw[z,J _ _ U.1]at e;cases e)];exact e
theorem pF{f f1 f2 f3 f4:UR}{fd pE u5 Ah Dp:Va}(B:Bl mg)(F:Fn K mg "thinned_web" dm ["row"] f fd)(dC:Fn K mg "knots_in" eA ["row"] f1 pE)(eD:a4 P w K mg base cQ 4 f1 pE ["row"] kZ)
  (U:Fn K mg "kin_spans" c6 ["row"] f2 u5) (Z:a4 P w K mg base cQ 2 f2 u5 ["row"] fO) (lT:Fn K mg "web_of" i6 ["kins"] f3 Ah) (pG:a4 P w K mg base cQ 2 f3 Ah ["kins"] (nT P w)) (D:Fn K mg "spare_things" c7 ["web","knots"] f4 Dp):a4 P w K mg base cQ 5 f fd ["row"] (sE P w):=by
 have J:a4 P w K mg base cQ 1 f4 Dp ["web","knots"] (aC.yf P w):=nI B D;refine F.fn.ok bO (λvs H Q E h=>?_) (λkB A outer s H vs Q E hr h=>?_)
 .obtain⟨t,rs,rfl,_⟩:=h
  rfl
 obtain⟨t,rs,rfl,ht,fit,k⟩:=h;have uo:=hr.lt 1 (by decide);have small:=fit.small;refine⟨_,(ah (aH (i:=1) bO.nd rfl (Or.inl rfl) (bA eD dC (hr.mono (by decide)) (af (pv 0) ai)))
  (ah (dN (aV fI (aI aD rfl B.len bu (af (pv 1) ai)) av (a5 _)) (aA (a9 (NK.uw (P:=P) (w:=w) rfl rfl))) bJ)
  (ah (aH (i:=2) bO.nd rfl (Or.inl rfl) (bA pG lT (hr.mono (by decide)) (af (bA Z U (hr.mono (by decide)) (af (pv 0) ai)) ai)))
  (ah (aH (i:=3) bO.nd rfl (Or.inl rfl) (bA J D (hr.mono (by decide)) (af (pv 2) (af (pv 1) ai))))
  (ah (tJ PassesOwn.never (aV qt (aI aD rfl B.len bu (af (pv 3) ai)) av (a5 _)) (ah (b9 PassesOwn.never rfl (bK (pv 3)) (aL (i:=4) bO.nd rfl (Or.inl rfl)) (ah (b9 PassesOwn.never rfl (bK (bQ g9 rfl B.list jk (af (fQ (P:=P) (w:=w) rfl rfl uo (pv 2) (pv 4) (λ_ _=>rfl)) ai))) (aL (i:=5) bO.nd rfl (Or.inl rfl)) (aA (fk (mM Qt PySem.F.slot_list_remove PySem.F.type_list_remove (NK.Hs uo) (fQ (P:=P) (w:=w) rfl rfl uo (pv 2) (pv 5) (λ_ _=>rfl)) (af (pv 4) ai)))))
  (aA (fk (NK.B0 (P:=P) (w:=w) rfl rfl uo (pv 2) (af (pv 4) ai))))))
  (aA (aH (i:=3) bO.nd rfl (Or.inl rfl) (bA J D (hr.mono (by decide)) (af (pv 2) (af (pv 1) ai)))))))
  (aA (a9 (pv 2)))))))),?_⟩
 have fl:=a6 rs;have kl:=aC.kL (aj rs);refine⟨_,rfl,t,rs,rfl,ht,fit,λlk H1 IE s1 hK=>?_⟩;have Lb:cC rs=if di (aj rs) (gX (aj rs) (rs.length+1))=[]then[]else ir (d8 (cG (aj rs)) (aP (cG (aj rs)))) (di (aj rs) (gX (aj rs) (rs.length+1))):=rfl;generalize di (aj rs) (gX (aj rs) (rs.length+1))=ks at hK Lb;obtain⟨kv,k1,k2⟩:=hK.len;refine⟨_,rfl,lk,_,rfl,.inl (bc.of k1),rfl,_,rfl,?_⟩;by_cases c0:ks=[]
 .refine uH (Eu (by rw[k2,c0];rfl)) ?_;intro a ha;refine k a [] _ (s1.free ha) (s1.trans (au ha)) ?_;rw[Lb,UQ c0];exact⟨⟨ag,λp hp=>UU hp Pf⟩,.nil,QJ⟩
 refine uI (yb (by rw[k2];intro z;exact c0 (QH.mp (by omega)))) ?_;rw[UO c0]at Lb;refine⟨_,rfl,t,rs,rfl,s1 _ _ ht,fit,λlS H2 hlS s2 hS=>?_⟩;have asc:=aC.gM (aj rs);refine⟨lS,_,rfl,hS,asc,by omega,λa M H3 ha s3 nw T=>?_⟩;have O:=aC.h8 (aC.jt asc);have cl:=aC.jY (cG (aj rs));have Wl:(d8 (cG (aj rs)) (aP (cG (aj rs)))).length<=500:=by
  unfold d8;rw[O7,O0,O0];omega
 generalize d8 (cG (aj rs)) (aP (cG (aj rs)))=W0 at T O Wl Lb;have hK2:=hK.same s2;have zi:=s1.trans s2;have lk2:=(s2 _ _ k1)
 refine⟨_,rfl,_,rfl,a,lk,M,W0,ks,rfl,T,O,Wl,hK2.same s3,λsp H4 rJ s4 L0=>?_⟩;refine⟨λm σ H5=>∃(W:d5) (M:Es) (sp:UR) (v4 v5:Option V),m=W.length/\σ=[Yl (.ref t),Yl (.ref lk),Yl (.ref a),Yl (.ref sp),v4,v5]/\ax H2 H5/\uJ H2 M/\j8 P w H5 a M W/\aC.fR W/\W.length<=500/\NK.cV H5 sp (aJ W ks)/\sp∉M.map (·.2.2)/\H2 sp=none/\ir W ks=ir W0 ks,⟨_,W0,M,sp,_,_,rfl,rfl,s3.trans s4,nw,T.same s4,O,Wl,L0,?_,s3.free rJ,rfl⟩,?_⟩
 .intro z;obtain⟨e,he,q0⟩:=O4.mp z;obtain⟨y,_,_,bs,q,_⟩:=cX T.r he;have q0:e.2.2=sp:=q0;rw[q0,rJ]at q;cases q
 clear T O Wl L0 nw rJ s4;rintro m σ H5 ⟨W,M,sp,v4,v5,rfl,rfl,s5,nw,T,O,Wl,L0,Lc,fsp,eth⟩;obtain⟨bs,b1,b2,b3⟩:=id L0;refine⟨_,rfl,sp,_,rfl,.inl (bc.of b1),_,_,rfl,rfl,_,rfl,?_⟩;by_cases c1:aJ W ks=[]
 .refine uI (U1 (by rw[O0,b2,c1];decide)) ?_;refine⟨_,rfl,k a M H5 (zi.free ha) (zi.trans s5) ?_⟩;rw[Lb,<-eth,aC.zH c1];exact T
 have cl:0<(aJ W ks).length:=Tt.mpr c1;refine uH (UX (by rw[O0,b2];omega)) ?_;refine⟨λσ' H'=>∃m',m'<W.length/\∃(W:d5) (M:Es) (sp:UR) (v4 v5:Option V),m'=W.length/\σ'=[Yl (.ref t),Yl (.ref lk),Yl (.ref a),Yl (.ref sp),v4,v5]/\ax H2 H'/\uJ H2 M/\j8 P w H' a M W/\aC.fR W/\W.length<=500/\NK.cV H' sp (aJ W ks)/\sp∉M.map (·.2.2)/\H2 sp=none/\ir W ks=ir W0 ks,λ_ _ q=>q,?_⟩;have snd:=aC.Cp O ks;have a2:H2 a=none:=ha;have Oc:a≠sp:=λz=>by have q:=T.d.1;rw[z,b1]at q;cases q
 refine⟨_,rfl,sp,rfl,⟨_,bc.of b1⟩,cO (K:=K) (a:=sp) (xs:=bs.map V.ref) (λi σ H6=>∃(M:Es) (v4 v5:Option V),σ=[Yl (.ref t),Yl (.ref lk),Yl (.ref a),Yl (.ref sp),v4,v5]/\ax H2 H6/\uJ H2 M/\j8 P w H6 a M (((aJ W ks).take i).foldl dM W)/\H6 sp=Yl (.lst (bs.map V.ref))/\(∀(i:Nat) (b:UR) (k:Nd),bs[i]?=Yl b->(aJ W ks)[i]?=Yl k->NK.K2 H6 k b)/\sp∉M.map (·.2.2)) ⟨M,_,_,rfl,s5,nw,T,b1,b3,Lc⟩ (λi σ H6 _ ⟨_,_,_,_,_,_,_,e,_⟩=>bc.of e) ?_ ?_⟩
 .rintro i x σ H6 hx ⟨M,v4,v5,rfl,s6,nw,T,b1,b3,Lc⟩;rw[O6]at hx;obtain⟨bx,ebx,rfl⟩:=Ph.mp hx;have hi:i<(aJ W ks).length:=by rw[<-b2];exact(O1.mp ebx).1
  have ex:=OZ hi;generalize(aJ W ks)[i]=kx at ex;have kb:=b3 i bx kx ebx ex;have Oi:aC.fR (((aJ W ks).take i).foldl dM W):=aC.fR.fold _ O;have hkx:kx∈bb (((aJ W ks).take i).foldl dM W):=aC.fold_keeps _ _ (aC.q9 (Pk ex)) (λz=>by
   obtain⟨j,hj⟩:=PF z;rw[QQ]at hj;by_cases q:j<i
   .rw[UQ q]at hj;have:=(Qa (O1.mp hj).1 snd).mp (hj.trans ex.symm);omega
   rw[UO q]at hj;cases hj)
  have Wil:(((aJ W ks).take i).foldl dM W).length<=500:=PH (aC.k9 _ _) Wl;rw[aC.zO ex];generalize((aJ W ks).take i).foldl dM W=Wi at T Oi hkx Wil;obtain⟨u,hu,rfl⟩:=aC.mem_keys.mp hkx;obtain⟨bk,lx,mx,vx,tx,_⟩:=T.at Oi.nd hu;obtain⟨cs,c1,c2,c3⟩:=id tx;have nlx:=Oi.nl u hu;refine⟨_,rfl,_,rfl,a,bx,_,_,_,rfl,rfl,T.d,kb,vx,lx,_,rfl,.inl (bc.of c1),λlc hlc=>?_⟩;have s7:ax H6 (upd H6 lc (.lst (cs.map V.ref))):=au hlc;have Od:upd H6 lc (.lst (cs.map V.ref)) lc=Yl (.lst (cs.map V.ref)):=ag;generalize upd H6 lc (.lst (cs.map V.ref))=H7 at s7 Od;have nlc:lc∉M.map (·.2.2):=λz=>by
   obtain⟨e,he,q0⟩:=O4.mp z;obtain⟨y,_,_,bs,q,_⟩:=cX T.r he;have q0:e.2.2=lc:=q0;rw[q0,hlc]at q;cases q
  refine⟨lc,rfl,⟨_,bc.of Od⟩,cO (K:=K) (a:=lc) (xs:=cs.map V.ref) (λj σ H8=>∃v5:Option V,σ=[Yl (.ref t),Yl (.ref lk),Yl (.ref a),Yl (.ref sp),Yl (.ref bx),v5]/\ax H2 H8/\j8 P w H8 a M (mG Wi u.1 (u.2.take j))/\H8 sp=Yl (.lst (bs.map V.ref))/\H8 lc=Yl (.lst (cs.map V.ref))/\(∀c ys,H7 c=Yl (.tup ys)->H8 c=Yl (.tup ys))) ⟨_,rfl,s6.trans s7,by rw[Tg,aC.EA];exact T.same s7,s7 _ _ b1,Od,λ_ _ e=>e⟩ (λi σ H8 _ ⟨_,_,_,_,_,e,_⟩=>bc.of e) ?_ ?_⟩
  .rintro j x σ H8 hx ⟨v5,rfl,s8,T8,b8,lc8,g8⟩;rw[O6]at hx;obtain⟨Ly,eby,rfl⟩:=Ph.mp hx;have hj:j<u.2.length:=by rw[<-c2];exact(O1.mp eby).1
   have ey:=OZ hj;generalize u.2[j]=y at ey;have ky:NK.K2 H8 y Ly:=(NK.K2.same (c3 j Ly y eby ey) s7).keep g8;have Oe:NK.K2 H8 u.1 bx:=(NK.K2.same kb s7).keep g8;have nyl:y∉u.2.take j:=λz=>by
    obtain⟨i',De⟩:=PF z;rw[QQ]at De;by_cases q:i'<j
    .rw[UQ q]at De;have:=(Qa (O1.mp De).1 nlx).mp (De.trans ey.symm);omega
    rw[UO q]at De;cases De
   obtain⟨v,hv,ev,NM⟩:=Oi.sym u hu y (Pk ey);subst ev;have nd8:(bb (mG Wi u.1 (u.2.take j))).Nodup:=by rw[aC.Ck];exact Oi.nd
   obtain⟨bv,lv,mv,vv,tv,_⟩:=T8.at nd8 (aC.EB (k:=u.1) nyl (ls:=v.2) hv);obtain⟨ds,d1,d2,d3⟩:=id tv;have nlv:=Oi.nl v hv;obtain⟨jj,Of⟩:=PF NM;have nsv:sp≠lv:=λz=>Lc (O4.mpr ⟨_,mv,z.symm⟩);have ncv:lc≠lv:=λz=>nlc (O4.mpr ⟨_,mv,z.symm⟩);refine⟨_,rfl,_,rfl,a,Ly,_,_,_,rfl,rfl,T8.d,ky,vv,.inl ⟨rfl,_,bc.of d1⟩,_,rfl,lv,bx,u.1,v.2,ds,jj,rfl,rfl,Oe,d1,d2,d3,Of,aC.Cq nlv Of,?_⟩;have T9:=T8.chg nd8 mv d1 (o:=.lst ((ds.eraseIdx jj).map V.ref)) (f:=λls=>ls.filter λl=>decide (l≠u.1)) (λls Ih=>by
    rw[NK.cV.inj Ih tv];have:=NK.cV.erase (j:=jj) d1 d2 d3;rw[aC.wu nlv Of]at this;exact this)
   rw[aC.Cm nyl,<-aC.take_snoc ey]at T9;refine⟨_,rfl,s8.upd (nw _ mv),T9,by rw[ao nsv];exact b8,by rw[ao ncv];exact lc8,λc ys e=>?_⟩;have e:=g8 c ys e;rw[ao (λz=>by rw[z,d1]at e;cases e)];exact e
  rintro σ H8 ⟨v5,rfl,s8,T8,b8,lc8,g8⟩;rw[O0,c2,Qe]at T8;have Oe:NK.K2 H8 u.1 bx:=(NK.K2.same kb s7).keep g8;obtain⟨ix,hix⟩:=PF mx;refine⟨_,rfl,⟨a,_,rfl,T8.d⟩,_,rfl,a,bx,_,u.1,.ref lx,rfl,rfl,T8.d,Oe,⟨bk,ix,by unfold eV;rw[O6,hix];rfl⟩,?_⟩;have T9:=T8.drop (k:=u.1);rw[aC.EC Oi hu]at T9;refine⟨_,_,_,rfl,s8.upd a2,λe he=>nw e (O9.mp he).1,T9,by rw[ao (Ne.symm Oc)];exact b8,λi' b' k' e1 e2=>?_,λz=>?_⟩
  .refine((NK.K2.same (b3 i' b' k' e1 e2) s7).keep g8).keep λc ys e=>?_;rw[ao (λz=>by rw[z,T8.d.1]at e;cases e)];exact e
  obtain⟨e,he,q0⟩:=O4.mp z;exact Lc (O4.mpr ⟨e,(O9.mp he).1,q0⟩)
 rintro σ H6 ⟨M,v4,v5,rfl,s6,nw,T,b1,b3,Lc⟩;rw[O0,b2,Qe]at T;have T:j8 P w H6 a M (aC.mX W ks):=T;have lt:=aC.nS c1;refine⟨_,rfl,_,rfl,a,lk,M,_,ks,rfl,T,aC.fR.fold _ O,by omega,hK2.same s6,λsp' H7 Ld s7 Og=>?_⟩;refine⟨_,lt,_,M,sp',_,_,rfl,rfl,s6.trans s7,nw,T.same s7,aC.fR.fold _ O,by omega,Og,λz=>?_,s6.free Ld,?_⟩
 .obtain⟨e,he,q0⟩:=O4.mp z;obtain⟨y,_,_,bs,q,_⟩:=cX T.r he;have q0:e.2.2=sp':=q0;rw[q0,Ld]at q;cases q
 rw[<-aC.zI c1];exact eth
theorem wO{f:UR}{fd:Va}(B:Bl mg)(F:Fn K mg "ends_of" gV ["web"] f fd):a4 P w K mg base cQ 1 f fd ["web"] (wt P w):=by
 refine F.fn.ok wL (λvs H Q E h=>?_) (λkB A outer s H vs Q E hr h=>?_)
 .obtain⟨a,J,W,ks,rfl,_⟩:=h
  rfl
 obtain⟨a,J,W,ks,rfl,T,O,hn,rJ,asc,kl,kr,k⟩:=h;refine⟨_,(aA (a9 (aI (iT false) rfl B.sorted qJ (af (NK.uv (P:=P) (w:=w) rfl rfl (du (NC:=["thing","web"]) rfl (dv (c:=s.heap.objs.size+1) (j:=0) rfl (by decide +kernel) (by decide +kernel) rfl rfl rfl rfl rfl) (NK.BZ (P:=P) (w:=w) rfl rfl (pv 0)) (λ_ _ _ _=>(aL (i:=0) (show(["thing","web"]:List Vg).Nodup by decide +kernel) rfl (Or.inl rfl))) (λ_ _ _ _=>(gb (aV tL (aI (gn (K:=K) rfl) rfl B.len bu (af (NK.uu (P:=P) (w:=w) rfl rfl (hr.lt 1 (by decide)) (pv 1) (pv 0) (λ_ _=>rfl)) ai)) av (a5 _)))) (λ_ _ _ _=>(pv 0)))) ai)))),?_⟩;have LW:J.length=W.length:=T.r.length;have ev:(eV J).length=J.length:=by unfold eV;rw[O0]
 refine⟨_,rfl,a,eV J,rfl,T.d,λo D hD=>?_⟩;have La:D≠a:=λz=>by rw[z,ag]at hD;cases hD
 have LY:H D=none:=by rwa[ao La]at hD
 have sF:∀{c:UR}{ho:HO},H c=Yl ho->c≠a->upd H a (so P w a (eV J) o) c=Yl ho:=λ{c ho} e n=>by rw[ao n];exact e
 have Z:zD P w (upd H a (so P w a (eV J) o)) a (eV J) o:=T.d.to;have nl:∀{c:UR}{vs:List V},H c=Yl (.lst vs)->c≠a:=λ{c vs} e z=>by rw[z,T.d.1]at e;cases e
 have nt:∀{c:UR}{vs:List V},H c=Yl (.tup vs)->c≠a:=λ{c vs} e z=>by rw[z,T.d.1]at e;cases e
 have LZ:∀{c:UR}{L:List Nd},NK.cV H c L->NK.cV (upd H a (so P w a (eV J) o)) c L:=λ{c L} q=>by
  obtain⟨bs,h1,h2,h3⟩:=q;exact⟨bs,sF h1 (nl h1),h2,λi b k e1 e2=>(h3 i b k e1 e2).keep λc ys e=>sF e (nt e)⟩
 have rF:=Paired.rq T.r (G:=RW (upd H a (so P w a (eV J) o))) λe t q=>⟨q.1,LZ q.2⟩
 have back:∀{H5:Hp},ax (upd H a (so P w a (eV J) o)) H5->ax H (upd H5 a (iR P w a (eV J))):=λ{H5} s5 b o' e=>by
  by_cases z:b=a
  .subst z;rw[ag,<-e,T.d.1]
  rw[ao z];exact s5 _ _ (sF e z)
 generalize upd H a (so P w a (eV J) o)=H1 at hD Z rF back;refine NK.x4 (λi σ H2=>∃v:Option V,σ=[v,Yl (.ref a)]/\ax H1 H2/\NK.cV H2 D (jZ (W.take i))) ⟨none,rfl,au hD,[],ag,rfl,λi b k e=>by simp at e⟩ (λi σ H2 _ ⟨_,_,U,_⟩=>⟨U _ _ Z.1,λp hp=>NK.K2.same (Z.2 p hp) U⟩) ?_ ?_
 .rintro i kk b v σ H2 hx ⟨v0,rfl,U,hT⟩;obtain⟨l',he,rfl⟩:=Cc hx;obtain⟨t,ht,q1,q2⟩:=aC.rf rF he;have q1:kk=t.1:=q1;subst q1;have hm:=Pk he;have IL:NK.K2 H2 t.1 b:=NK.K2.same (Z.2 _ (O4.mpr ⟨_,hm,rfl⟩)) U;have vv:=sD (by rw[aC.lr T.r];exact O.nd) hm;obtain⟨vs,v1,v2⟩:=(NK.cV.same q2 U).len;have Fs:i<W.length:=(O1.mp ht).1;have Ir:=aC.Cr ht;have hle:=aC.ED W i;refine⟨_,rfl,_,rfl,a,b,_,o,t.1,_,rfl,rfl,⟨U _ _ Z.1,λp hp=>NK.K2.same (Z.2 p hp) U⟩,IL,vv,l',vs,rfl,.inl (bc.of v1),_,_,rfl,rfl,_,rfl,?_⟩;by_cases c1:t.2.length<=1
  .rw[UX (show((vs.length:Nat):Int)<=1 by omega)];obtain⟨ys,y1,y2,y3⟩:=hT.snoc IL;refine pQ ⟨_,rfl,ys,y1,aF (by rw[y2];omega),_,rfl,U.upd hD,?_⟩;rw[Ir,UQ c1];exact y3
  rw[U1 (show¬((vs.length:Nat):Int)<=1 by omega)];refine gF ⟨_,rfl,U,?_⟩;rw[Ir,UO c1,Qj];exact hT
 rintro σ H2 ⟨v,rfl,U,hT⟩;rw[ev,LW,Qe]at hT;refine⟨a,eV J,o,⟨U _ _ Z.1,λp hp=>NK.K2.same (Z.2 p hp) U⟩,?_⟩;have Oh:NK.cV (upd H2 a (iR P w a (eV J))) D (jZ W):=NK.cV.keep hT (by rw[ao La]) λc ys e=>by
  rw[ao (λz=>by rw[z,U _ _ Z.1]at e;cases e)];exact e
 have s3:=back U;generalize upd H2 a (iR P w a (eV J))=H3 at Oh s3;obtain⟨ps,e1,e2,e3⟩:=aC.Cs O rJ asc;rw[e1]at Oh;have FU:=Oh.Iu;obtain⟨ts,g,c1,c2,c3,c4⟩:=aC.kX FU (λp hp=>kr p (e3 p hp));have tl:ts.length<64:=by
  rw[c2,e2.length_eq];exact QO (PN _ _) (by omega)
 refine⟨D,ts,g,rfl,bc.of c1,tl,c3,λus l hp hs K4=>?_⟩;obtain⟨M,m1,m2,m3⟩:=c4 us hp hs;have eM:=aC.Ct asc m1 e2 m2;have s8:ax H3 (upd H3 l (.lst (us.map V.ref))):=au K4;have K5:=m3 _ l s8 ag;rw[eM]at K5;exact k l _ (s3.free K4) (s3.trans s8) K5
theorem vc{f:UR}{fd:Va}(B:Bl mg)(F:Fn K mg "leg_from" fV ["end","web"] f fd):a4 P w K mg base cQ 1 f fd ["end","web"] (Cd P w):=by
 refine F.fn.ok eZ (λvs H Q E h=>?_) (λkB A outer s H vs Q E hr h=>?_)
 .obtain⟨e,a,es,W,k,rfl,_⟩:=h
  rfl
 obtain⟨e,a,es,W,k,rfl,T,O,hn,hk,hkw,hd,kk⟩:=h;have uo:=hr.lt 1 (by decide);refine⟨_,(ah (aH (i:=2) eZ.nd rfl (Or.inr rfl) (d6 (af (pv 0) ai)))
  (ah (aH (i:=3) eZ.nd rfl (Or.inl rfl) (fQ (P:=P) (w:=w) rfl rfl uo (pv 1) (pv 0) (λ_ _=>rfl)))
  (ah (tJ PassesOwn.never (PW.pt (jO (aV qt (aI aD rfl B.len bu (af (pv 3) ai)) av (a5 _)) (jd (aV tL (aI aD rfl B.len bu (af (fQ (P:=P) (w:=w) rfl rfl uo (pv 1) (b0 dP (pv 3) av (λ_ _=>rfl)) (λ_ _=>rfl)) ai)) av (a5 _))))) (ah (aH (i:=4) eZ.nd rfl (Or.inl rfl) (b0 dP (pv 3) av (λ_ _=>rfl)))
  (ah (gc (ix:=3) (NC:=["linked","leg"]) eZ.nd rfl (Or.inl rfl) rfl (dv (c:=s.heap.objs.size+1) (j:=2) rfl (by decide +kernel) (by decide +kernel) rfl rfl rfl rfl rfl) (bK (fQ (P:=P) (w:=w) rfl rfl uo (pv 1) (pv 4) (λ_ _=>rfl))) (λ_ _ _ _=>(aL (i:=0) (show(["linked","leg"]:List Vg).Nodup by decide +kernel) rfl (Or.inl rfl))) (λ_ _ _ _=>(gb (aV (NK.Hw (hr.lt 0 (by decide))) (pv 0) (b0 (tX (K:=K) rfl) (pv 1) (qr ma av) (λ_ _=>rfl)) (a5 _)))) (λ_ _ _ _=>(pv 0)))
  (aA (fk (mM Qt Q0 Q1 fF (pv 2) (af (pv 4) ai)))))))
  (aA (a9 (pv 2)))))),?_⟩
 refine⟨_,rfl,by show 1<=U2;decide,λU L1=>?_⟩;have s1:ax H (upd H U (.lst [.ref e])):=au L1;have g1:upd H U (.lst [.ref e]) U=Yl (.lst [.ref e]):=ag;generalize upd H U (.lst [.ref e])=H1 at s1 g1;have lka:∀{x:Nd}{H':Hp},x∈bb W->ax H H'->∃lx,NK.nD (eV es) x=Yl (.ref lx)/\NK.cV H' lx (cW W x)/\H lx≠none:=λ{x H'} hx s'=>by
  obtain⟨u,hu,rfl⟩:=aC.mem_keys.mp hx;obtain⟨b,lx,_,v,t,_⟩:=T.at O.nd hu;rw[O.lk hu];exact⟨lx,v,NK.cV.same t s',λz=>by obtain⟨bs,q,_⟩:=t;rw[z]at q;cases q⟩
 obtain⟨l0,v0,t0,f0⟩:=lka hkw s1;refine⟨_,rfl,_,rfl,a,e,_,k,_,rfl,rfl,(T.same s1).d,NK.K2.same hk s1,v0,?_⟩;have P0:aC.Path W [k]:=⟨by simp,λv hv=>by rw[O3.mp hv];exact hkw,λi a b e1 e2=>by simp at e2,λv hv=>by rw[O3.mp hv];omega,λa e1=>by cases e1;exact hd⟩
 have lp:=P0.len;refine⟨λm σ H2=>∃(J:List Nd) (p:Nd) (on:List Nd) (M:UR) (v4:Option V),m=W.length+1-J.length/\σ=[Yl (.ref e),Yl (.ref a),Yl (.ref U),Yl (.ref M),v4]/\ax H H2/\NK.cV H2 U J/\J.getLast?=Yl p/\NK.cV H2 M on/\M≠U/\aC.Path W J/\(∀x∈on,x∈cW W p)/\(∀q,2<=J.length->J[J.length-2]?=Yl q->∀x∈on,x≠q)/\sC W (W.length+1-J.length) p on J=dI W k,⟨_,[k],k,cW W k,l0,_,rfl,rfl,s1,?_,rfl,t0,λz=>f0 (by rw[z];exact L1),P0,λx h=>h,λq h=>UU h (by show¬ 2<=1;decide),rfl⟩,?_⟩
 .exact⟨[e],g1,rfl,λi b x e1 e2=>by
   cases i with
   |zero=>cases e1;cases e2;exact NK.K2.same hk s1
   |succ i=>cases e1⟩
 rintro m σ H2 ⟨J,p,on,M,v4,rfl,rfl,s2,tg,hp,ton,ad2,PP,Ny,hq,Z⟩;have T2:=T.same s2;obtain⟨os,o1,o2,o3⟩:=id ton;have al:=PP.len;have out:∀{D:Ends},(∀H3,ax H H3->NK.cV H3 U (dI W k)->D.nx [Yl (.ref e),Yl (.ref a),Yl (.ref U),Yl (.ref M),v4] H3)->J=dI W k->D.nx [Yl (.ref e),Yl (.ref a),Yl (.ref U),Yl (.ref M),v4] H2:=λ{D} hD hc=>hD H2 s2 (by rw[<-hc];exact tg);have fin:∀H3,ax H H3->NK.cV H3 U (dI W k)->Q (.ref U) H3:=λH3 s3 t3=>kk U H3 L1 s3 t3;obtain⟨n,en⟩:∃n,W.length+1-J.length=n+1:=⟨W.length-J.length,by omega⟩
 rw[en]at Z;refine⟨_,rfl,M,_,rfl,.inl (bc.of o1),_,_,rfl,rfl,_,rfl,?_⟩;cases on with
 |nil =>
  refine uI (U1 (by rw[O0,o2];decide)) ?_;refine gF ⟨_,rfl,fin H2 s2 ?_⟩;rw[<-Z];exact tg
 |cons x r =>
  refine uH (UX (by rw[O0,o2];show(0:Int)<((r.length+1:Nat):Int);omega)) ?_;have e0:os[0]?=Yl (os[0]'(by rw[o2];exact S4 _)):=OZ _;generalize os[0]'(by rw[o2];exact S4 _)=bx at e0;have kx:=o3 0 bx x e0 rfl;have hxp:=Ny x Pc;have hxk:=(O.zG hxp).2.1;obtain⟨lx,vx,tx,fx⟩:=lka hxk s2;obtain⟨xs,x1,x2,x3⟩:=id tx;have a0:vn (os.map V.ref) 0=Yl (.ref bx):=bB (j:=0) (by rw[O6,e0];rfl);refine⟨_,rfl,_,rfl,M,_,_,_,rfl,rfl,bc.of o1,a0,a,bx,_,x,_,rfl,rfl,T2.d,kx,vx,lx,_,rfl,.inl (bc.of x1),_,_,rfl,rfl,_,rfl,?_⟩;by_cases c2:(cW W x).length<=2
  .refine uH (UX (by rw[O0,x2];omega)) ?_;refine⟨_,λ_ _ q=>q,?_⟩;refine⟨_,rfl,M,_,_,_,rfl,rfl,bc.of o1,a0,?_⟩;obtain⟨gs,y1,y2,y3⟩:=id tg;have ane:J.length≠0:=λz=>by
    rw[QH.mp z]at hp;cases hp
   obtain⟨bp,eg⟩:∃bp,gs[gs.length-1]?=Yl bp:=⟨_,OZ (show gs.length-1<gs.length by omega)⟩
   have kp:NK.K2 H2 p bp:=y3 _ bp p eg (by rw[y2,<-Qz];exact hp);have agl:vn (gs.map V.ref) (-1)=Yl (.ref bp):=aC.yc (by rw[R5,Qz,eg];rfl);refine⟨_,rfl,_,rfl,a,bx,_,x,_,rfl,rfl,T2.d,kx,vx,lx,rfl,⟨_,bc.of x1⟩,λD hD=>?_⟩;have nDg:D≠U:=λz=>by rw[z,y1]at hD;cases hD
   refine dD (K:=K) (a:=lx) (xs:=xs.map V.ref) (λi σ H3=>∃v:Option V,σ=[v,Yl (.ref U)]/\ax H2 H3/\NK.cV H3 D (((cW W x).take i).filter λl=>decide (l≠p))) ⟨none,rfl,au hD,[],ag,rfl,λi b k e=>by simp at e⟩ (λi σ H3 _ zq=>by obtain⟨_,_,s3,_⟩:=zq;exact bc.of (s3 _ _ x1)) ?_ ?_
   .rintro i z σ H3 hz ⟨v,rfl,s3,t3⟩;rw[O6]at hz;obtain⟨b,eb,rfl⟩:=Ph.mp hz;have hi:i<(cW W x).length:=by rw[<-x2];exact(O1.mp eb).1
    have ey:=OZ hi;generalize(cW W x)[i]=y at ey;have ky:=NK.K2.same (x3 i b y eb ey) s3;have e3:((cW W x).take (i+1)).filter (λl=>decide (l≠p))=((cW W x).take i).filter (λl=>decide (l≠p))++(if y≠p then[y]else[]):=by
     rw[aC.take_snoc ey,Qf,Qu,Qv];by_cases c:y=p
     .rw[UO (by simp[c]),UO (λz=>z c)]
     rw[UQ (by simp[c]),UQ c]
    refine⟨_,rfl,_,rfl,_,rfl,U,_,_,_,rfl,rfl,bc.of (s3 _ _ y1),agl,b,bp,y,p,rfl,rfl,ky,NK.K2.same kp s3,_,rfl,?_⟩;by_cases c:y=p
    .rw[UX c];refine gF ⟨_,rfl,s3,?_⟩;rw[e3,UO (λz=>z c),Qj];exact t3
    rw[U1 c];obtain⟨ys,w1,w2,w3⟩:=t3.snoc ky;refine pQ ⟨_,rfl,ys,w1,aF (by rw[w2];exact PH (PN _ _) (by rw[Pz];omega)),_,rfl,s3.upd hD,?_⟩;rw[e3,UQ c];exact w3
   rintro σ H3 ⟨v,rfl,s3,t3⟩;rw[O0,x2,Qe]at t3;obtain⟨ys,w1,w2,w3⟩:=(NK.cV.same tg s3).snoc (NK.K2.same kx s3);refine⟨_,rfl,.inl ⟨rfl,_,bc.of w1⟩,_,rfl,U,_,_,rfl,rfl,w1,aF (by rw[w2];omega),?_⟩;have P2:=PP.snoc O hp hxp (λq h1 h2=>hq q h1 h2 x Pc) c2;have pl:=P2.len;rw[O7,PM]at pl;refine⟨W.length+1-(J++[x]).length,by rw[O7,PM];omega,J++[x],x,_,D,_,rfl,rfl,(s2.trans s3).upd L1,w3,List.getLast?_concat,NK.cV.keep t3 (by rw[ao nDg]) (λc ys e=>by rw[ao (λz=>by rw[z,w1]at e;cases e)];exact e),nDg,P2,λy hy=>(O9.mp hy).1,λq h1 h2 y hy=>?_,?_⟩
   .rw[O7,PM,show J.length+1-2=J.length-1 by omega,Pg (by omega),<-Qz,hp]at h2;cases h2;exact U0 (O9.mp hy).2
   rw[<-Z,O7,PM,show W.length+1-(J.length+1)=n by omega];show _=(if(cW W x).length<=2 then _ else J)
   rw[UQ c2]
  refine uI (U1 (by rw[O0,x2];omega)) ⟨_,rfl,fin H2 s2 ?_⟩;have:sC W (n+1) p (x::r) J=J:=by
   show(if(cW W x).length<=2 then _ else J)=J;rw[UO c2]
  rw[this]at Z;rw[<-Z];exact tg
theorem tf{f f1 f2 f3 f4:UR}{fd pE u5 Ah Dp:Va}(B:Bl mg)(F:Fn K mg "knot_legs" eT ["row"] f fd)(dC:Fn K mg "knots_in" eA ["row"] f1 pE)(eD:a4 P w K mg base cQ 4 f1 pE ["row"] kZ)
  (M:Fn K mg "thinned_web" dm ["row"] f2 u5) (U:a4 P w K mg base cQ 5 f2 u5 ["row"] (sE P w)) (Z:Fn K mg "ends_of" gV ["web"] f3 Ah) (J:Fn K mg "leg_from" fV ["end","web"] f4 Dp):a4 P w K mg base cQ 6 f fd ["row"] sG:=by
 have zZ:a4 P w K mg base cQ 1 f3 Ah ["web"] (wt P w):=wO B Z;have wQ:a4 P w K mg base cQ 1 f4 Dp ["end","web"] (Cd P w):=vc B J;refine F.fn.ok fA (λvs H Q E h=>?_) (λkB A outer s H vs Q E hr h=>?_)
 .obtain⟨t,rs,rfl,_⟩:=h
  rfl
 obtain⟨t,rs,rfl,ht,fit,k⟩:=h;have uo:=hr.lt 1 (by decide);refine⟨_,(ah (aH (i:=1) fA.nd rfl (Or.inr rfl) (bA eD dC (hr.mono (by decide)) (af (pv 0) ai)))
  (ah (aH (i:=2) fA.nd rfl (Or.inr rfl) (bA U M (hr.mono (by decide)) (af (pv 0) ai)))
  (ah (gc (ix:=3) (NC:=["end","web"]) fA.nd rfl (Or.inl rfl) rfl (dv (c:=s.heap.objs.size+2) (j:=2) rfl (by decide +kernel) (by decide +kernel) rfl rfl rfl rfl rfl) (bK (bA zZ Z (hr.mono (by decide)) (af (pv 2) ai))) (λ_ _ _ _=>(aL (i:=0) (show(["end","web"]:List Vg).Nodup by decide +kernel) rfl (Or.inl rfl))) (λ_ _ _ _=>dt) (λ_ _ _ _=>(bA wQ J (hr.mono (by decide)) (af (pv 0) (af (pv 1) ai)))))
  (aA (a9 (du (NC:=["leg","knots"]) rfl (dv (c:=s.heap.objs.size+1) (j:=1) rfl (by decide +kernel) (by decide +kernel) rfl rfl rfl rfl rfl) (bK (pv 3)) (λ_ _ _ _=>(aL (i:=0) (show(["leg","knots"]:List Vg).Nodup by decide +kernel) rfl (Or.inl rfl))) (λ_ _ _ _=>dt) (λ_ _ _ _=>(aI (gn (K:=K) rfl) rfl B.len bu (af (by exact(du (NC:=["thing","knots"]) rfl (dv (c:=s.heap.objs.size+1) (j:=1) rfl (by decide +kernel) (by decide +kernel) rfl rfl rfl rfl rfl) (B5 (K:=K) rfl (pv 0)) (λ_ _ _ _=>(aL (i:=0) (show(["thing","knots"]:List Vg).Nodup by decide +kernel) rfl (Or.inl rfl))) (λ_ _ _ _=>(gb (aV (NK.Hr (hr.lt 1 (by decide))) (pv 0) (pv 1) (by with_unfolding_all rfl)))) (λ_ _ _ _=>(pv 0)))) ai))))))))),?_⟩
 obtain⟨O,Wl,rJ⟩:=aC.sI fit;obtain⟨asc,kl,kr⟩:=aC.o8 fit;refine⟨_,rfl,t,rs,rfl,ht,fit,λlk H1 IE s1 hK=>?_⟩;refine⟨_,rfl,t,rs,rfl,s1 _ _ ht,fit,λa es H2 ha s2 T=>?_⟩;have eL:bV rs=(bH (cC rs) (di (aj rs) (gX (aj rs) (rs.length+1)))).map λe=>((((dI (cC rs) (pN e)).filter λk=>decide (k∈(di (aj rs) (gX (aj rs) (rs.length+1))).map pN)).length:Nat):Int):=rfl;generalize di (aj rs) (gX (aj rs) (rs.length+1))=ks at hK rJ asc kl kr eL;generalize cC rs=W at T O Wl rJ eL;refine⟨_,rfl,a,es,W,ks,rfl,T,O,Wl,rJ,asc,kl,kr,λlE H3 hlE s3 tE=>?_⟩;obtain⟨us,u1,u2,u3⟩:=id tE;have s03:=(s1.trans s2).trans s3;have el:(bH W ks).length<=60:=PH (PN _ _) kl;refine⟨lE,rfl,⟨_,bc.of u1⟩,λD hD=>?_⟩;refine dD (K:=K) (a:=lE) (xs:=us.map V.ref) (λi σ H4=>∃(v:Option V) (ls:List UR),σ=[v,Yl (.ref a)]/\ax H3 H4/\H4 D=Yl (.lst (ls.map V.ref))/\ls.length=i/\∀(j:Nat) (l:UR) (p:Int×Int),ls[j]?=Yl l->(bH W ks)[j]?=Yl p->NK.cV H4 l (dI W (pN p))/\l≠D) ⟨none,[],rfl,au hD,ag,rfl,λj l p e=>by simp at e⟩ (λi σ H4 _ zq=>by obtain⟨_,_,_,s4,_⟩:=zq;exact bc.of (s4 _ _ u1)) ?_ ?_
 .rintro i x σ H4 hx ⟨v,ls,rfl,s4,z4,hl,Ih⟩;rw[O6]at hx;obtain⟨b,eb,rfl⟩:=Ph.mp hx;have hi:i<(bH W ks).length:=by rw[<-u2];exact(O1.mp eb).1
  have ep:=OZ hi;generalize(bH W ks)[i]=p at ep;have hp:=s4 _ _ (u3 i b p eb ep);have hpm:=Pk ep;have hpe:pN p∈bb W/\(cW W (pN p)).length<=1:=by
   have:=(O9.mp hpm).2;rw[Qn,U5,U5]at this;exact this
  refine ni ?_;refine⟨_,rfl,_,rfl,b,a,es,W,pN p,rfl,T.same (s3.trans s4),O,Wl,NK.K2.pair hp,hpe.1,hpe.2,λr H5 hr5 s5 tl=>?_⟩;have nrD:r≠D:=λz=>by rw[z,z4]at hr5;cases hr5
  have gk:∀c ys,H5 c=Yl (.tup ys)->upd H5 D (.lst (ls.map V.ref++[.ref r])) c=Yl (.tup ys):=λc ys e=>by
   rw[ao (λz=>by rw[z,s5 _ _ z4]at e;cases e)];exact e
  refine⟨_,s5 _ _ z4,aF (by rw[O0];omega),_,ls++[r],rfl,(s4.trans s5).upd hD,by rw[ag,Pb];rfl,by rw[O7,hl];rfl,λj l q e1 e2=>?_⟩;by_cases c:j<ls.length
  .rw[Pg c]at e1;obtain⟨t1,t2⟩:=Ih j l q e1 e2;exact⟨NK.cV.keep (NK.cV.same t1 s5) (by rw[ao t2]) gk,t2⟩
  have hj:=(O1.mp e1).1;rw[O7,PM]at hj;have ej:j=ls.length:=by omega
  subst ej;rw[Pd (O5 _),QE]at e1;rw[hl,ep]at e2;cases e1;cases e2;exact⟨NK.cV.keep tl (by rw[ao nrD]) gk,nrD⟩
 rintro σ H4 ⟨v,ls,rfl,s4,z4,hl,Ih⟩;rw[O0,u2]at hl;have hK4:=hK.same ((s2.trans s3).trans s4);refine⟨_,rfl,D,rfl,⟨_,bc.of z4⟩,λR hR=>?_⟩;refine dD (K:=K) (a:=D) (xs:=ls.map V.ref) (λi σ H5=>∃v:Option V,σ=[v,Yl (.ref lk)]/\ax H4 H5/\H5 R=Yl (.lst (iV ((bV rs).take i)))) ⟨none,rfl,au hR,ag⟩ (λi σ H5 _ zq=>by obtain⟨_,_,s5,_⟩:=zq;exact bc.of (s5 _ _ z4)) ?_ ?_
 .rintro i x σ H5 hx ⟨v,rfl,s5,L3⟩;rw[O6]at hx;obtain⟨l,el',rfl⟩:=Ph.mp hx;have hi:i<(bH W ks).length:=by rw[<-hl];exact(O1.mp el').1
  have ep:=OZ hi;generalize(bH W ks)[i]=p at ep;have tl:=NK.cV.same (Ih i l p el' ep).1 s5;obtain⟨bs,b1,b2,b3⟩:=id tl;refine ni ?_;refine⟨_,rfl,l,rfl,⟨_,bc.of b1⟩,λD2 E2=>?_⟩;refine dD (K:=K) (a:=l) (xs:=bs.map V.ref) (λj σ H6=>∃v:Option V,σ=[v,Yl (.ref lk)]/\ax H5 H6/\NK.cV H6 D2 (((dI W (pN p)).take j).filter λk=>decide (k∈ks.map pN))) ⟨none,rfl,au E2,[],ag,rfl,λi b k e=>by simp at e⟩ (λj σ H6 _ zq=>by obtain⟨_,_,s6,_⟩:=zq;exact bc.of (s6 _ _ b1)) ?_ ?_
  .rintro j y σ H6 hy ⟨v,rfl,s6,t6⟩;rw[O6]at hy;obtain⟨b,eb,rfl⟩:=Ph.mp hy;have hj:j<(dI W (pN p)).length:=by rw[<-b2];exact(O1.mp eb).1
   have ez:=OZ hj;generalize(dI W (pN p))[j]=z at ez;have kz:=NK.K2.same (b3 j b z eb ez) s6;have bl:=aC.zP W (pN p);have e3:((dI W (pN p)).take (j+1)).filter (λk=>decide (k∈ks.map pN))=((dI W (pN p)).take j).filter (λk=>decide (k∈ks.map pN))++(if z∈ks.map pN then[z]else[]):=by
    rw[aC.take_snoc ez,Qf,Qu,Qv];by_cases c:z∈ks.map pN
    .rw[UQ (UX c),UQ c]
    rw[UO (by rw[U1 c];decide),UO c]
   refine⟨_,rfl,_,rfl,b,lk,z,_,rfl,rfl,kz,NK.cV.same (hK4.same s5).Nr s6,_,rfl,?_⟩;by_cases c:z∈ks.map pN
   .rw[UX c];obtain⟨ys,w1,w2,w3⟩:=t6.snoc kz;refine pQ ⟨_,rfl,ys,w1,aF (by rw[w2];exact PH (PN _ _) (by rw[Pz];omega)),_,rfl,s6.upd E2,?_⟩;rw[e3,UQ c];exact w3
   rw[U1 c];refine gF ⟨_,rfl,s6,?_⟩;rw[e3,UO c,Qj];exact t6
  rintro σ H6 ⟨v,rfl,s6,t6⟩;rw[O0,b2,Qe]at t6;obtain⟨vs,v1,v2⟩:=t6.len;have ll:(bV rs).length=(bH W ks).length:=by rw[eL,O0]
  refine⟨D2,_,rfl,.inl (bc.of v1),_,s6 _ _ L3,aF (by rw[aT,Pz];omega),_,rfl,(s5.trans s6).upd hR,?_⟩;have e9:(bV rs)[i]?=Yl ((((dI W (pN p)).filter λk=>decide (k∈ks.map pN)).length:Nat):Int):=by rw[eL,O6,ep];rfl
  rw[ag,aC.take_snoc e9,v2];unfold iV;rw[Pb]
  rfl
 rintro σ H5 ⟨v,rfl,s5,L3⟩;have ll:(bV rs).length=(bH W ks).length:=by rw[eL,O0]
 rw[O0,hl,<-ll,Qe]at L3;exact k R H5 ((s03.trans s4).free hR) ((s03.trans s4).trans s5) L3
theorem ti{f:UR}{J:Va}(B:Bl mg)(F:Fn K mg "legs_cost" eW ["legs"] f J):a4 P w K mg base cQ 1 f J ["legs"] (aC.o7 K):=by
 refine F.fn.ok lP (λvs H Q E h=>?_) (λV A outer s H vs Q E Z h=>?_)
 .obtain⟨a,L,rfl,_⟩:=h
  rfl
 obtain⟨a,L,rfl,M,k⟩:=h;refine⟨_,(ah (aH (i:=1) lP.nd rfl (Or.inl rfl) (aI aD rfl B.len bu (af (pv 0) ai)))
  (ah (dN (PW.pt (jO (aV fI (aK cP (pv 1) av) av (a5 _)) (jO (aV qt (pv 1) av (a5 _)) (jd (aV kA av (pv 0) (by with_unfolding_all rfl)))))) (aA (a9 (aK bo (pv 1) av))) bJ)
  (aA (a9 (pv 1))))),?_⟩
 refine⟨_,rfl,a,_,rfl,M,?_⟩;dsimp only;rw[aT];have no:¬(L.length%2=1/\1<L.length/\(1:Int)∉L)->Q (.int (L.length:Nat)) H:=λc=>by
  unfold cY at k;rw[UO c]at k;exact k
 refine⟨_,rfl,_,_,rfl,rfl,by show(0:Int)<2;decide,rfl,_,rfl,?_⟩;by_cases O:L.length%2=1
 .refine uH (Eu (by omega)) ?_;refine⟨_,rfl,_,_,rfl,rfl,_,rfl,?_⟩;by_cases U:1<L.length
  .refine uH (UX (by omega)) ?_;refine⟨_,rfl,a,_,rfl,M,rfl,aC.EX L,_,rfl,?_⟩;rw[aC.FP];by_cases D:(1:Int)∈L
   .rw[UX D];exact gF ⟨_,rfl,no λz=>z.2.2 D⟩
   rw[U1 D];refine pQ ⟨_,rfl,_,_,rfl,rfl,?_⟩;unfold cY at k;rw[UQ ⟨O,U,D⟩]at k;exact k
  refine uI (U1 (by omega)) (gF ⟨_,rfl,no λz=>U z.2.1⟩)
 refine uI (yb (by omega)) (gF ⟨_,rfl,no λz=>O z.1⟩)
theorem tj{f V Z:UR}{fd O U:Va}(B:Bl mg)(F:Fn K mg "knot_cost" eU ["row"] f fd)(z:Fn K mg "legs_cost" eW ["legs"] V O)(D:Fn K mg "knot_legs" eT ["row"] Z U)(J:a4 P w K mg base cQ 6 Z U ["row"] sG):a4 P w K mg base cQ 7 f fd ["row"] sV:=by
 have M:a4 P w K mg base cQ 1 V O ["legs"] (aC.o7 K):=ti B z;refine F.fn.ok sX (λvs H Q E h=>?_) (λkB A outer s H vs Q E hr h=>?_)
 .obtain⟨t,rs,rfl,_⟩:=h
  rfl
 obtain⟨t,rs,rfl,ht,fit,k⟩:=h;refine⟨_,(aA (a9 (bA M z (hr.mono (by decide)) (af (bA J D (hr.mono (by decide)) (af (pv 0) ai)) ai)))),?_⟩;refine⟨_,rfl,t,rs,rfl,ht,fit,λr H1 hr1 s1 h1=>?_⟩;exact⟨r,_,rfl,.inl (bc.of h1),k H1 s1⟩
theorem qf{f f1 f2:UR}{fd O U:Va}(B:Bl mg)(F:Fn K mg "turn_score" fy ["row"] f fd)(z:Fn K mg "tie_rings" eS ["row"] f1 O)(D:a4 P w K mg base cQ 3 f1 O ["row"] h7)(J:Fn K mg "knot_cost" eU ["row"] f2 U)(M:a4 P w K mg base cQ 7 f2 U ["row"] sV):a4 P w K mg base cQ 8 f fd ["row"] aC.uK:=by
 refine F.fn.ok qc (λvs H Q E h=>?_) (λkB A outer s H vs Q E hr h=>?_)
 .obtain⟨t,rs,rfl,_⟩:=h
  rfl
 obtain⟨t,rs,rfl,Z,fit,k⟩:=h;refine⟨_,(aA (a9 (aK bo (aK fH (aK bo (aI aD rfl B.len bu (af (pv 0) ai)) av) (aI aD rfl B.len bu (af (bA D z (hr.mono (by decide)) (af (pv 0) ai)) ai))) (bA M J (hr.mono (by decide)) (af (pv 0) ai))))),?_⟩;refine⟨_,rfl,t,_,rfl,.inr (bZ.of Z),_,_,rfl,rfl,?_⟩;refine⟨_,rfl,t,rs,rfl,Z,fit,λl H1 hl s1 h1=>?_⟩;obtain⟨vs,v1,v2⟩:=h1.len;refine⟨l,_,rfl,.inl (bc.of v1),_,_,rfl,rfl,?_⟩;refine⟨_,rfl,t,rs,rfl,s1 _ _ Z,fit,λH2 s2=>⟨_,_,rfl,rfl,?_⟩⟩;have e:(((iV rs).length:Nat):Int)+1-((vs.length:Nat):Int)+cY (bV rs)=aN rs:=by
  unfold aN;rw[aT,v2,aC.bN]
 show Q (V.int ((((iV rs).length:Nat):Int)+1-((vs.length:Nat):Int)+cY (bV rs))) H2;rw[e];exact k H2 (s1.trans s2)
end
section
variable {P:U3}{w:U4}{K:Pa}{mg:Vg->Option UP}{base:Vd}
theorem qg{f C:UR}{fd:Va}(B:Bl mg)(Z:GW K mg "BadStretch" C)(F:Fn K mg "turn_about" fz ["row","first","last"] f fd):a4 P w K mg base (z9 P w) 1 f fd ["row","first","last"] (aC.mT C):=by
 refine F.fn.MS jK (λvs H Q E h=>?_) (λkB A outer s H vs Q E hr h own=>?_)
 .obtain⟨t,rs,f,l,rfl,_⟩:=h
  rfl
 obtain⟨t,rs,fi,M,rfl,ht,hn,sf,sl,U,J⟩:=h;have nd1:(["number"]:List Vg).Nodup:=by decide +kernel
 have one:1<=sizeLine:=by decide
 have hlen:(((iV rs).length:Nat):Int)=rs.length:=by rw[aT]
 refine⟨_,ah (dN (n6 (y0 tL tL gz av (pv 1) (pv 2) (aI aD rfl B.len bu (af (pv 0) ai))))
    (aA (Ba rfl Z (af (JT (Bb (Bc (pv 1) (Bb (Bc (pv 2) G0)))) (by decide)) ai))) bJ)
  (ah (gc (ix:=3) (NC:=["number"]) jK.nd rfl (Or.inl rfl) rfl (jh rfl (by decide +kernel) (by decide +kernel)) (DP rfl B.reversed (af (dg rQ (pv 0) (dO (pv 1)) (dO (aK bo (pv 2) av))) ai))
    (λ_ _ _ _=>aL (i:=0) nd1 rfl (Or.inl rfl)) (λ_ _ _ _=>dt) (λ_ _ _ _=>qr ma (pv 0)))
  (aA (a9 (aK nM (aK nM (dg rQ (pv 0) fo (dO (pv 1))) (bQ cR rfl B.tuple iB (af (pv 3) ai))) (dg rQ (pv 0) (dO (aK bo (pv 2) av)) fo))))),?_⟩
 refine⟨_,rfl,_,_,rfl,rfl,_,rfl,?_⟩;refine fK (λh1=>?_) (λh1=>?_)
 rotate_left
 .have no:¬aC.TurnOk rs.length (fi,M):=λG=>h1 (UX G.1);exact⟨_,rfl,pQ ⟨⟨_,rfl,rfl,⟨_,rfl,sf⟩,_,rfl,rfl,⟨_,rfl,sl⟩,trivial⟩,λx=>⟨one,J no H (ax.refl _)⟩⟩⟩
 refine⟨_,rfl,_,_,rfl,rfl,_,rfl,?_⟩;refine fK (λh2=>?_) (λh2=>?_)
 rotate_left
 .have no:¬aC.TurnOk rs.length (fi,M):=λG=>h2 (UX G.2.1);exact⟨_,rfl,pQ ⟨⟨_,rfl,rfl,⟨_,rfl,sf⟩,_,rfl,rfl,⟨_,rfl,sl⟩,trivial⟩,λx=>⟨one,J no H (ax.refl _)⟩⟩⟩
 refine⟨_,rfl,t,_,rfl,.inr (bZ.of ht),_,_,rfl,rfl,_,rfl,?_⟩;refine fK (λh3=>?_) (λh3=>?_)
 .have no:¬aC.TurnOk rs.length (fi,M):=λG=>by
   have z:=G.2.2;have z2:M<(((iV rs).length:Nat):Int):=by rw[hlen];exact z
   rw[UX z2]at h3;cases h3
  exact⟨⟨_,rfl,rfl,⟨_,rfl,sf⟩,_,rfl,rfl,⟨_,rfl,sl⟩,trivial⟩,λx=>⟨one,J no H (ax.refl _)⟩⟩
 have h1:=U0 h1;have h2:=U0 h2;have h3:M<rs.length:=by
  refine O2 λz=>h3 ?_;have z2:¬M<(((iV rs).length:Nat):Int):=by rw[hlen];exact z
  rw[U1 z2]
  rfl
 have ok:aC.TurnOk rs.length (fi,M):=⟨h1,h2,h3⟩
 have hg:=U ok;obtain⟨f,rfl⟩:∃f:Nat,fi=f:=⟨fi.toNat,by omega⟩
 obtain⟨l,rfl⟩:∃l:Nat,M=l:=⟨M.toNat,by omega⟩
 rw[Qb,Qb]at hg;have IM:f<=l:=by omega
 have FV:l<rs.length:=by omega
 have el:(l:Int)+1=((l+1:Nat):Int):=by omega
 have l7:(iV rs).length=rs.length:=aT rs;refine⟨_,rfl,_,rfl,_,rfl,_,rfl,_,_,rfl,rfl,_,rfl,t,_,rfl,ht,λp H1 s1 hp=>?_⟩;have Oj:fX (iV rs) (Yl (f:Int)) (Yl ((l:Int)+1))=iV ((rs.drop f).take (l+1-f)):=by
  rw[el,aC.DQ (by omega) (by omega)];unfold iV;rw[Sm,RF]
 rw[Oj]at hp;generalize O:(rs.drop f).take (l+1-f)=mid at hp;have hml:mid.length<=100:=by rw[<-O,Pz,PU];omega
 refine⟨p,_,rfl,bZ.of hp,λD hD=>y7 (K:=K) (a:=p) (xs:=iV mid) (λi σ H2=>∃v:Option V,σ=[v]/\ax H1 H2/\H2 D=Yl (.lst (iV ((mid.reverse.take i).map λx=>-x)))) ⟨none,rfl,au hD,ag⟩ (λi σ H2 _ ⟨_,_,s2,_⟩=>bZ.of (s2 _ _ hp)) ?_ ?_⟩
 .rintro i y σ H2 hy ⟨v,rfl,s2,hd⟩;have Ol:(iV mid).reverse=iV mid.reverse:=by unfold iV;rw[Rb]
  rw[Ol]at hy;obtain⟨x,hx,rfl⟩:=jn hy;refine ni ?_;refine⟨_,rfl,_,rfl,_,hd,aF (by rw[aT,O0,Pz,Qr];omega),_,rfl,s2.upd hD,?_⟩;rw[ag,aC.take_snoc hx,Pb];unfold iV;rw[Pb]
  rfl
 rintro σ H2 ⟨v,rfl,s2,hd⟩;rw[aT,QT (by rw[Qr];exact O5 _)]at hd;have zi:=s1.trans s2;refine⟨_,rfl,_,rfl,_,rfl,t,_,rfl,zi _ _ ht,λp2 H3 s3 DZ=>?_⟩;rw[rP (by omega)]at DZ;refine⟨_,rfl,D,_,rfl,.inl (s3 _ _ hd),λp3 H4 s4 IP=>?_⟩;have l2:((iV rs).take f).length<=100:=by rw[Pz];omega
 have l3:(iV (mid.reverse.map λx=>-x)).length<=100:=by rw[aT,O0,Qr];exact hml
 refine⟨p2,p3,_,_,rfl,rfl,s4 _ _ DZ,IP,Qo (aF (by omega)),λp5 H5 s5 hp5=>?_⟩;have s15:=((zi.trans s3).trans s4).trans s5;refine⟨_,rfl,_,rfl,_,_,rfl,rfl,_,rfl,t,_,rfl,s15 _ _ ht,λp6 H6 s6 hp6=>?_⟩;rw[el,iF (by omega)]at hp6;have l6:((iV rs).drop (l+1)).length<=100:=by rw[PU];omega
 refine⟨p5,p6,_,_,rfl,rfl,s6 _ _ hp5,hp6,Qo (aF (by rw[O7];omega)),λp7 H7 s7 hp7=>?_⟩;refine hg p7 H7 ((s15.trans s6).trans s7) ?_;rw[hp7,<-aC.mR IM FV,O];unfold iV;rw[Pb,Pb,Sm,RF]
theorem tq{f:UR}{fd:Va}(B:Bl mg)(F:Fn K mg "turns_all" gj ["many"] f fd):a4 P w K mg base cQ 1 f fd ["many"] aC.oO:=by
 refine F.fn.ok ic (λvs H Q E h=>?_) (λkB A outer s H vs Q E hr h=>?_)
 .obtain⟨n,rfl,_⟩:=h
  rfl
 obtain⟨n,rfl,hn,k⟩:=h;have nd2:(["last","first"]:List Vg).Nodup:=by decide +kernel
 refine⟨_,ah (aH (i:=1) ic.nd rfl (Or.inl rfl) (d6 ai))
  (ah (b9 PassesOwn.never rfl (fD rfl B.range (af (pv 0) ai)) (aL (i:=2) ic.nd rfl (Or.inr rfl))
   (aA (fk (mM Qt SJ SK qE (pv 1) (af (du (NC:=["last","first"]) rfl (dv (c:=s.heap.objs.size+1) (j:=2) rfl (by decide +kernel) (by decide +kernel) rfl rfl rfl rfl rfl)
    (gw rfl B.range (af (pv 2) (af (pv 0) ai))) (λ_ _ _ _=>aL (i:=0) nd2 rfl (Or.inl rfl)) (λ_ _ _ _=>dt) (λ_ _ _ _=>jP (af (pv 1) (af (pv 0) ai)))) ai)))))
  (aA (a9 (pv 1)))),?_⟩
 refine⟨by show 0<=U2;decide,λl hl=>?_⟩;have s0:ax H (upd H l (.lst [])):=au hl;refine⟨_,rfl,_,rfl,by omega,by omega,fE (lo:=0) (n:=((n:Nat):Int).toNat) (λi σ z=>∃v2:Option V,σ=[Yl (.int n),Yl (.ref l),v2]/\ax H z/\aC.df aC.pr z l (b5 n i)) ⟨none,rfl,s0,aC.df.nil ag⟩ ?_ ?_⟩
 .rintro i σ z hi ⟨v2,rfl,s2,M⟩;have De:i<n:=by omega
  rw[Sf];obtain⟨vs,hv1,hv2⟩:=M.len;have hlT:=aC.hU n i;have h40:n*i<=1600:=UC hn (by omega:i<=40);refine⟨_,rfl,.inl ⟨rfl,_,bc.of hv1⟩,_,rfl,_,rfl,_,_,rfl,⟨by omega,by omega,by omega,by omega⟩,λD hD=>?_⟩;refine fL (λj σ J=>∃v:Option V,σ=[v,Yl (.int i)]/\ax z J/\aC.df aC.pr J D ((Pu j).map λ(m:Nat)=>((i:Int),(i:Int)+m))) ⟨none,rfl,au hD,aC.df.nil ag⟩ ?_ ?_
  .rintro j σ J hj ⟨v,rfl,s3,hR⟩;refine ni ?_;refine⟨_,rfl,_,rfl,by show 2<=U2;decide,λtp qd=>?_⟩;have s4:ax J (upd J tp (.tup [.int i,.int ((i:Int)+j)])):=au qd;obtain⟨ys,y1,y2,y3⟩:=(hR.same s4).snoc (t:=tp) (x:=((i:Int),(i:Int)+j)) ag;refine⟨_,y1,aF (by rw[y2,O0,PL];omega),_,rfl,(s3.trans s4).upd hD,?_⟩;rw[QD,Pb];exact y3
  rintro σ J ⟨v,rfl,s3,hR⟩;have e:((n:Int)-(i:Int)).toNat=n-i:=by omega
  rw[e]at hR;obtain⟨us,J2,O⟩:=hR.tup;obtain⟨ts,U,Z⟩:=(M.same s3).tup;have lt:ts.length=(b5 n i).length:=Z.1;have lu:us.length=n-i:=by rw[O.1,O0,PL]
  refine⟨l,D,_,_,rfl,rfl,U,J2,Qo (QO (by rw[O0,O0];exact(show _<=1700 by omega)) (by decide)),_,rfl,(s2.trans s3).upd hl,?_⟩;rw[aC.gq];exact((Z.app O).upd U).Iu (by rw[ag,Pb])
 rintro σ z ⟨v2,rfl,s2,M⟩;have e:((n:Nat):Int).toNat=n:=by omega
 rw[e]at M;exact⟨_,rfl,k l z hl s2 M⟩
theorem i9{f:UR}{D:Va}(B:Bl mg)(F:Fn K mg "_law_cell_at" dq ["script","k"] f D):a4 P w K mg base cQ 1 f D ["script","k"] (kG K):=by
 refine F.fn.ok pD (λvs H Q E h=>?_) (λM A outer s H vs Q E U h=>?_)
 .obtain⟨a,ns,k,rfl,_⟩:=h
  rfl
 obtain⟨a,ns,k,rfl,J,q⟩:=h;refine⟨_,ah (dN (aV gz (pv 1) (aI aD rfl B.len bu (af (pv 0) ai)) (a5 _)) (aA (a9 (b0 dP (pv 0) (pv 1) (λ_ _=>rfl)))) bJ) (aA (a9 av)),?_⟩;refine⟨_,rfl,_,rfl,a,_,rfl,.inl J,_,_,rfl,rfl,_,rfl,?_⟩;refine fK (λz=>?_) (λz=>?_)
 .have z:=U0 z;rw[O0]at z;have O:k<ns.length:=by omega
  have e:(ns.map V.int)[k]?=Yl (.int ns[k]):=by rw[O6,OZ O];rfl
  exact⟨_,rfl,_,rfl,a,_,_,_,rfl,rfl,J,bB e,q _⟩
 exact q 0
theorem j7{f fC:UR}{fd fdC:Va}(B:Bl mg)(F:Fn K mg "_law_row_of_kins" cM ["script","at","many"] f fd)(z:Fn K mg "_law_cell_at" dq ["script","k"] fC fdC):a4 P w K mg base cQ 2 f fd ["script","at","many"] (aC.mU K):=by
 have O:a4 P w K mg base cQ 1 fC fdC ["script","k"] (kG K):=i9 B z;refine F.fn.ok aU (λvs H Q E h=>?_) (λkB A outer s H vs Q E hr h=>?_)
 .obtain⟨a,ns,at',many,rfl,_⟩:=h
  rfl
 obtain⟨a,ns,at',many,rfl,hS,hm,k⟩:=h
 let Pv:Nat->St->Hp->Prop:=λi σ M=>∃(l:UR) (rs:List Int) (v4 v5 v6 v7:Option V),σ=[Yl (.ref a),Yl (.int at'),Yl (.int many),Yl (.ref l),v4,v5,v6,v7]/\ax H M/\H l=none/\M l=Yl (.lst (iV rs))/\rs.length=i/\Rw rs
 let R1:TS:=λD σ M=>∃(i:Nat) (l:UR) (rs:List Int) (c:Int) (v6 v7:Option V),σ=[Yl (.ref a),Yl (.int at'),Yl (.int many),Yl (.ref l),Yl (.int i),Yl (.int c),v6,v7]/\i<many/\ax H M/\H l=none/\M l=Yl (.lst (iV rs))/\rs.length=i/\Rw rs/\∀σ' H',Pv (i+1) σ' H'->D.nx σ' H'
 let R2:TS:=λD σ M=>∃(i f:Nat) (l q:UR) (rs U:List Int) (c:Int),σ=[Yl (.ref a),Yl (.int at'),Yl (.int many),Yl (.ref l),Yl (.int i),Yl (.int c),Yl (.int f),Yl (.ref q)]/\i<many/\ax H M/\M l=Yl (.lst (iV rs))/\M q=Yl (.lst (iV U))/\rs.length=i+1/\f<=i+1/\(aW U).Perm (aW (rs.drop f))/\Rw rs/\∀σ' H',Pv (i+1) σ' H'->D.nx σ' H'
 have inj:∀{x y:Int},decide (V.int x=V.int y)=true->x=y:=λh=>by injection U0 h
 refine⟨_,(ah (aH (i:=3) aU.nd rfl (Or.inl rfl) (d6 ai))
  (ah (b9 PassesOwn.never rfl (fD rfl B.range (af (pv 2) ai)) (aL (i:=4) aU.nd rfl (Or.inl rfl)) (ah (aH (i:=5) aU.nd rfl (Or.inl rfl) (aK cP (bA O z (hr.mono (by decide)) (af (pv 0) (af (aK bo (pv 1) (pv 4)) ai))) (aK Aq av av)))
  (ah (dN (PW.pt (jO (aV fI (aK cP (aK g6 (pv 5) av) av) av (a5 _)) (jd (aV qt (aI aD rfl B.len bu (af (pv 3) ai)) av (a5 _))))) (aA (aH (i:=3) aU.nd rfl (Or.inl rfl) (aK oF (dg g7 (pv 3) (dO av) fo) (d6 (af (b0 dP (pv 3) av (λ_ _=>rfl)) ai))))) bJ)
  (hJ (R:=R1) λD σ M hR=>?rest))))
  (aA (a9 (bQ cR rfl B.tuple iB (af (pv 3) ai)))))),?_⟩
 case rest =>
  obtain⟨i,l,rs,c,v6,v7,rfl,hi,s2,FV,hl,J,hw,hD⟩:=hR;refine⟨_,(ah (fk (mM Qt Q0 Q1 fF (pv 3) (af (aK bo (pv 4) av) ai)))
  (aA (dN (aV qt (aK cP (pv 5) av) av (a5 _)) (ah (aH (i:=6) aU.nd rfl (Or.inl rfl) (aI (qu rfl) rfl B.max Bj (af av (af (aK fH (aK fH (aI aD rfl B.len bu (af (pv 3) ai)) av) (aK cP (aK g6 (pv 5) av) av)) ai))))
  (ah (aH (i:=7) aU.nd rfl (Or.inl rfl) (dg g7 (pv 3) (dO (pv 6)) fo))
  (hJ (R:=R2) λD σ M hR=>?rest2))) bJ))),?_⟩
  case rest2 =>
   obtain⟨i,f,l,q,rs,U,c,rfl,hi,s2,hl,hq,J,hf,hp,hw,hD⟩:=hR;refine⟨_,(ah (dN (aV fI (aK cP (pv 5) av) av (a5 _)) (aA (aH (i:=7) aU.nd rfl (Or.inl rfl) (DN rfl rfl B.list rfl B.reversed (af (pv 7) ai)))) bJ)
  (hJ (R:=R2) λD σ M hR=>?rest3)),?_⟩
   case rest3 =>
    obtain⟨i,f,l,q,rs,U,c,rfl,hi,s2,hl,hq,J,hf,hp,hw,hD⟩:=hR;refine⟨_,(ah (dN (aV fI (aK cP (pv 5) av) av (a5 _)) (aA (gc (ix:=7) (NC:=["number"]) aU.nd rfl (Or.inl rfl) rfl (jh rfl (by decide +kernel) (by decide +kernel)) (G2 rfl B.reversed (af (pv 7) ai)) (λ_ _ _ _=>(aL (i:=0) (show(["number"]:List Vg).Nodup by decide +kernel) rfl (Or.inl rfl))) (λ_ _ _ _=>dt) (λ_ _ _ _=>(aK fH av (pv 0))))) bJ)
  (hJ (R:=R2) λD σ M hR=>?rest4)),?_⟩
    case rest4 =>
     obtain⟨i,f,l,q,rs,U,c,rfl,hi,s2,hl,hq,J,hf,hp,hw,hD⟩:=hR;refine⟨_,(aA (aH (i:=3) aU.nd rfl (Or.inl rfl) (aK oF (dg g7 (pv 3) fo (dO (pv 6))) (pv 7)))),?_⟩;have l7:(iV rs).length=rs.length:=aT rs;refine⟨_,rfl,_,rfl,_,rfl,l,_,rfl,bc.of hl,λp J1=>?_⟩;rw[rP (by rw[l7];omega)];have Z:ax M (upd M p (.lst ((iV rs).take f))):=au J1;have hlen:U.length=i+1-f:=by
      have:=hp.length_eq;rw[cA,cA,PU]at this;omega
     refine⟨_,rfl,p,q,_,_,rfl,rfl,ag,Z _ _ hq,Qo (aF (by rw[Pz,aT,aT];omega)),λp2 DZ=>?_⟩;have e:(iV rs).take f++iV U=iV (rs.take f++U):=by rw[iN];unfold iV;rw[Sm]
     refine hD _ _ ⟨p2,rs.take f++U,_,_,_,_,rfl,(s2.trans Z).trans (au DZ),(s2.trans Z).free DZ,by rw[ag,e],?_,hw.tail f hp⟩;rw[O7,Pz,hlen];omega
    refine⟨_,rfl,_,_,rfl,rfl,(by show(0:Int)<4;decide),rfl,_,rfl,?_⟩;refine fK (λh1=>?_) (λh1=>?_)
    .refine⟨_,rfl,q,_,rfl,bc.of hq,λD2 E2=>Bg (K:=K) (a:=q) (xs:=iV U) (λj σ H3=>∃v:Option V,σ=[v]/\ax M H3/\H3 D2=Yl (.lst (iV ((U.reverse.take j).map λx=>0-x)))) ⟨none,rfl,au E2,ag⟩ (λj σ H3 _ zq=>by obtain⟨_,_,Z,_⟩:=zq;exact bc.of (Z _ _ hq)) ?_ ?_⟩
     .rintro j y σ H3 hy ⟨v,rfl,Z,h3⟩;have e:(iV U).reverse=iV U.reverse:=by unfold iV;rw[Rb]
      rw[e]at hy;obtain⟨x,hx,rfl⟩:=jn hy;have hlen:U.length=i+1-f:=by
       have:=hp.length_eq;rw[cA,cA,PU]at this;omega
      refine ni ?_;refine⟨_,rfl,_,_,rfl,rfl,_,h3,aF (by rw[aT,O0,Pz,Qr];omega),_,rfl,Z.upd E2,?_⟩;rw[ag,aC.take_snoc hx,Pb,iN]
      rfl
     rintro σ H3 ⟨v,rfl,Z,h3⟩;have e:U.reverse.take (iV U).length=U.reverse:=QT (by rw[aT,Qr];exact O5 _);rw[e]at h3;exact⟨i,f,l,D2,rs,_,c,rfl,hi,s2.trans Z,Z _ _ hl,h3,J,hf,(aC.ua U).trans hp,hw,hD⟩
    exact⟨i,f,l,q,rs,U,c,rfl,hi,s2,hl,hq,J,hf,hp,hw,hD⟩
   refine⟨_,rfl,_,_,rfl,rfl,(by show(0:Int)<4;decide),rfl,_,rfl,?_⟩;refine fK (λh1=>?_) (λh1=>?_)
   .refine⟨_,rfl,q,_,rfl,bc.of hq,λr E1=>?_⟩;have Z:ax M (upd M r (.lst (iV U).reverse)):=au E1;refine⟨i,f,l,r,rs,U.reverse,c,rfl,hi,s2.trans Z,Z _ _ hl,by rw[ag];unfold iV;rw[Rb],J,hf,(aC.t9 U).trans hp,hw,hD⟩
   exact⟨i,f,l,q,rs,U,c,rfl,hi,s2,hl,hq,J,hf,hp,hw,hD⟩
  have L4:=hw.snoc;rw[J]at L4;have e1:iV rs++[V.int ((i:Int)+1)]=iV (rs++[(i:Int)+1]):=by rw[iN];rfl
  refine⟨_,rfl,.inl ⟨rfl,_,bc.of hl⟩,_,rfl,_,_,rfl,rfl,l,_,_,rfl,rfl,hl,aF (by rw[aT];omega),?_⟩;rw[e1];have Z:ax H (upd M l (.lst (iV (rs++[(i:Int)+1])))):=s2.upd FV;have E3:upd M l (.lst (iV (rs++[(i:Int)+1]))) l=Yl (.lst (iV (rs++[(i:Int)+1]))):=ag;generalize upd M l (.lst (iV (rs++[(i:Int)+1])))=H3 at Z E3⊢;have rl:(rs++[(i:Int)+1]).length=i+1:=by rw[O7,J];rfl
  generalize rs++[(i:Int)+1]=E8 at L4 E3 rl;have l7:(((iV E8).length:Nat):Int)=(i:Int)+1:=by rw[aT,rl];omega
  refine⟨_,rfl,_,_,rfl,rfl,(by show(0:Int)<4;decide),_,_,rfl,rfl,_,rfl,?_⟩;refine fK (λh1=>?_) (λh1=>?_)
  .have g0:0<=c/12%4:=R3 _ (by decide);obtain⟨f,hf,hf2⟩:∃f:Nat,(if((iV E8).length:Int)-1-c/12%4>0 then((iV E8).length:Int)-1-c/12%4 else 0)=f/\f<=i+1:=by
    refine⟨(if((iV E8).length:Int)-1-c/12%4>0 then((iV E8).length:Int)-1-c/12%4 else 0).toNat,?_,?_⟩ <;> rw[l7] <;> split <;> omega
   refine⟨_,rfl,l,_,rfl,.inl (bc.of E3),_,_,rfl,rfl,_,rfl,_,_,rfl,rfl,⟨by decide,by decide⟩,_,_,rfl,rfl,(by show(0:Int)<4;decide),_,_,rfl,rfl,_,_,rfl,?_⟩;dsimp only;rw[hf];refine⟨_,rfl,_,rfl,_,rfl,l,_,rfl,bc.of E3,λq hq=>?_⟩;rw[iF (by rw[aT];omega)];have s4:ax H3 (upd H3 q (.lst ((iV E8).drop f))):=au hq;exact⟨i,f,l,q,E8,E8.drop f,c,rfl,hi,Z.trans s4,s4 _ _ E3,by rw[ag];unfold iV;rw[RF],rl,hf2,List.Perm.refl _,L4,hD⟩
  exact hD _ _ ⟨l,E8,_,_,_,_,rfl,Z,FV,E3,rl,L4⟩
 refine⟨by show 0<=U2;decide,λl0 L5=>?_⟩;have s0:ax H (upd H l0 (.lst [])):=au L5;refine⟨_,rfl,_,rfl,by omega,by omega,fE (lo:=0) (n:=((many:Nat):Int).toNat) Pv ⟨l0,[],none,none,none,none,rfl,s0,L5,ag,rfl,List.Perm.refl _⟩ ?_ ?_⟩
 .rintro i σ M hi ⟨l,rs,v4,v5,v6,v7,rfl,s2,FV,hl,J,hw⟩;have De:i<many:=by omega
  rw[Sf];have p12:(0:Int)<10 ^ (12:Int).toNat:=by decide +kernel
  have Om:(((iV rs).length:Nat):Int)=i:=by rw[aT,J]
  have ea:(at':Int)+(i:Int)=((at'+i:Nat):Int):=by omega
  refine⟨_,rfl,_,rfl,_,rfl,_,_,rfl,rfl,a,ns,at'+i,(by show[V.ref a,V.int ((at':Int)+(i:Int))]=_;rw[ea]),s2.seq hS,λc=>?_⟩;refine⟨_,_,rfl,rfl,⟨by decide,by decide,by decide⟩,_,_,rfl,rfl,p12,?_⟩;dsimp only;generalize c%10 ^ (12:Int).toNat=d;refine⟨_,rfl,_,_,rfl,rfl,⟨by decide,by decide⟩,_,_,rfl,rfl,(by show(0:Int)<3;decide),rfl,_,rfl,?_⟩;refine fK (λh1=>?_) (λh1=>?_)
  .refine⟨_,rfl,l,_,rfl,.inl (bc.of hl),_,_,rfl,rfl,_,rfl,?_⟩;refine fK (λh2=>?_) (λh2=>?_)
   .have h2:=U0 h2;rw[Om]at h2;have r0:rs[0]?=Yl (rs.getD 0 0):=aC.getD_get (by omega);refine⟨_,rfl,_,rfl,l,_,rfl,bc.of hl,λp hp=>?_⟩;have ec:fX (iV rs) (Yl 1) none=(iV rs).drop 1:=iF (k:=1) (by rw[aT];omega);rw[ec];have Z:ax M (upd M p (.lst ((iV rs).drop 1))):=au hp;have IP:upd M p (.lst ((iV rs).drop 1)) p=Yl (.lst ((iV rs).drop 1)):=ag;generalize upd M p (.lst ((iV rs).drop 1))=H3 at Z IP⊢;refine⟨_,rfl,l,_,_,_,rfl,rfl,bc.of (Z _ _ hl),(show vn (iV rs) 0=Yl (.int (rs.getD 0 0))from bB (j:=0) (dw (by omega))),by show 1<=U2;decide,λq hq=>?_⟩;have s4:ax H3 (upd H3 q (.lst [.int (rs.getD 0 0)])):=au hq;refine⟨p,q,_,_,rfl,rfl,s4 _ _ IP,ag,Qo (aF (by rw[PU,aT];show _+1<=1000;omega)),λr E1=>?_⟩;have e:(iV rs).drop 1++[V.int (rs.getD 0 0)]=iV (rs.drop 1++[rs.getD 0 0]):=by rw[iN];unfold iV;rw[RF];rfl
    have zX:=(s2.trans Z).trans s4;refine⟨i,r,rs.drop 1++[rs.getD 0 0],d,_,_,rfl,De,zX.trans (au E1),zX.free E1,by rw[ag,e],?_,hw.rot r0,λσ' H' h=>h⟩;rw[O7,PU];show _+1=_;omega
   exact⟨i,l,rs,d,_,_,rfl,De,s2,FV,hl,J,hw,λσ' H' h=>h⟩
  exact gF ⟨i,l,rs,d,_,_,rfl,De,s2,FV,hl,J,hw,λσ' H' h=>h⟩
 rintro σ M ⟨l,rs,v4,v5,v6,v7,rfl,s2,FV,hl,J,hw⟩;have J:rs.length=many:=by omega
 exact⟨_,rfl,l,_,rfl,.inl hl,λt H3 Z ht=>k t H3 rs (s2.trans Z) ht J (hw.fit (by omega))⟩
theorem nJ{f:UR}{fd:Va}(B:Bl mg)(F:Fn K mg "_law_inflated" dZ ["script","at","room"] f fd):a4 P w K mg base cQ 1 f fd ["script","at","room"] (aC.mZ K):=by
 refine F.fn.ok aS (λvs H Q E h=>?_) (λkB A outer s H vs Q E hr h=>?_)
 .obtain⟨a,ns,at',room,rfl,_⟩:=h
  rfl
 obtain⟨a,ns,at',room,rfl,hS,hlen,Iy,hm,k⟩:=h
 let Pv:Nat->St->Hp->Prop:=λi σ J=>∃(l:UR) (rs:List Int) (v4 v5 v6 v7 v8:Option V),σ=[Yl (.ref a),Yl (.int at'),Yl (.int room),Yl (.ref l),v4,v5,v6,v7,v8,none]/\ax H J/\J l=Yl (.lst (iV rs))/\rs.Perm (bF rs.length)/\4<=rs.length/\rs.length<max room 5
 let R2:TS:=λD σ J=>∃(l q:UR) (rs inner:List Int) (spot:Nat) (low c:Int) (v4:Option V),σ=[Yl (.ref a),Yl (.int at'),Yl (.int room),Yl (.ref l),v4,Yl (.int c),Yl (.int spot),Yl (.int low),Yl (.ref q),none]/\ax H J/\J l=Yl (.lst (iV (rs.map (pX low))))/\J q=Yl (.lst (iV inner))/\inner.length=4/\inner.Perm [low,low+1,low+2,low+3]/\rs[spot]?=Yl low/\rs.Perm (bF rs.length)/\4<=rs.length/\rs.length+3<room/\∀i σ' H',Pv i σ' H'->D.nx σ' H'
 have ivn:(ns.map V.int).length=ns.length:=O0 _;have gS:∀i:Nat,i<((ns.length:Int)-(at':Int)).toNat->(ns.map V.int)[at'+i]?=Yl (.int (ns.getD (at'+i) 0)):=λi hi=>dw (rs:=ns) (by omega);refine⟨_,(ah (aH (i:=3) aS.nd rfl (Or.inl rfl) (d6 (af av (af av (af av (af av ai))))))
  (ah (b9 PassesOwn.never rfl (gw rfl B.range (af (pv 1) (af (aI aD rfl B.len bu (af (pv 0) ai)) ai))) (aL (i:=4) aS.nd rfl (Or.inl rfl)) (ah (aH (i:=5) aS.nd rfl (Or.inl rfl) (aK cP (b0 dP (pv 0) (pv 4) (λ_ _=>rfl)) (aK Aq av av)))
  (aA (dN (aV gz (aK bo (aI aD rfl B.len bu (af (pv 3) ai)) av) (pv 2) (a5 _)) (ah (aH (i:=6) aS.nd rfl (Or.inl rfl) (aK cP (aK g6 (pv 5) av) (aI aD rfl B.len bu (af (pv 3) ai))))
  (ah (aH (i:=7) aS.nd rfl (Or.inr rfl) (b0 dP (pv 3) (pv 6) (λ_ _=>rfl)))
  (ah (gc (ix:=3) (NC:=["number","low"]) aS.nd rfl (Or.inl rfl) rfl (dv (c:=s.heap.objs.size+1) (j:=7) rfl (by decide +kernel) (by decide +kernel) rfl rfl rfl rfl rfl) (bK (pv 3)) (λ_ _ _ _=>(aL (i:=0) (show(["number","low"]:List Vg).Nodup by decide +kernel) rfl (Or.inl rfl))) (λ_ _ _ _=>dt) (λ_ _ _ _=>(aK bo (pv 0) (aK Ap av (bQ yM rfl B.int AV (af (fY qt (pv 0) (pv 1) (a5 _)) ai))))))
  (ah (aH (i:=8) aS.nd rfl (Or.inl rfl) (d6 (af (pv 7) (af (aK bo (pv 7) av) (af (aK bo (pv 7) av) (af (aK bo (pv 7) av) ai))))))
  (hJ (R:=R2) λD σ J hR=>?rest))))) bJ))))
  (ah (gc (ix:=9) (NC:=["number"]) aS.nd rfl (Or.inl rfl) rfl (jh rfl (by decide +kernel) (by decide +kernel)) (bK (pv 3)) (λ_ _ _ _=>(aL (i:=0) (show(["number"]:List Vg).Nodup by decide +kernel) rfl (Or.inl rfl))) (λ_ _ _ _=>dt) (λ_ _ _ _=>(aK bo (pv 0) av)))
  (ah (b9 PassesOwn.never rfl (gw rfl B.range (af (pv 1) (af (aI aD rfl B.len bu (af (pv 0) ai)) ai))) (aL (i:=4) aS.nd rfl (Or.inl rfl)) (ah (aH (i:=6) aS.nd rfl (Or.inl rfl) (aK cP (aK g6 (b0 dP (pv 0) (pv 4) (λ_ _=>rfl)) av) av))
  (aA (dN (PW.pt (jO (aV fI (aK cP (b0 dP (pv 0) (pv 4) (λ_ _=>rfl)) av) av (a5 _)) (jd (aV gz (pv 6) (aI aD rfl B.len bu (af (pv 3) ai)) (a5 _))))) (aA (Gh (aK fH av (b0 dP (pv 9) (pv 6) (λ_ _=>rfl))) (Gf (pv 9) (pv 6) set_list))) bJ))))
  (aA (a9 (bQ cR rfl B.tuple iB (af (pv 9) ai)))))))),?_⟩
 case rest =>
  obtain⟨l,q,rs,inner,spot,low,c,v4,rfl,s2,U,hq,Fs,Oo,rJ,hp,h4,IQ,hD⟩:=hR;refine⟨_,(ah (dN (aV fI (aK cP (pv 5) av) av (a5 _)) (aA (aH (i:=8) aS.nd rfl (Or.inl rfl) (d6 (af (pv 7) (af (aK bo (pv 7) av) (af (aK bo (pv 7) av) (af (aK bo (pv 7) av) ai))))))) bJ)
  (hJ (R:=R2) λD σ J hR=>?rest2)),?_⟩
  case rest2 =>
   obtain⟨l,q,rs,inner,spot,low,c,v4,rfl,s2,U,hq,Fs,Oo,rJ,hp,h4,IQ,hD⟩:=hR;refine⟨_,(aA (aH (i:=3) aS.nd rfl (Or.inl rfl) (aK oF (aK oF (dg g7 (pv 3) fo (dO (pv 6))) (pv 8)) (dg g7 (pv 3) (dO (aK bo (pv 6) av)) fo)))),?_⟩;have IS:=(O1.mp rJ).1;have P4:=aC.M4 hp rJ Oo;have ml:(rs.map (pX low)).length=rs.length:=O0 _;generalize rs.map (pX low)=M at U P4 ml;have l7:(iV M).length=rs.length:=by rw[aT,ml]
   refine⟨_,rfl,_,rfl,_,rfl,l,_,rfl,bc.of U,λp1 J1=>?_⟩;rw[rP (by rw[l7];omega)];have O:ax J (upd J p1 (.lst ((iV M).take spot))):=au J1;have h3:upd J p1 (.lst ((iV M).take spot)) p1=Yl (.lst ((iV M).take spot)):=ag;generalize upd J p1 (.lst ((iV M).take spot))=Z at O h3⊢;have tl:((iV M).take spot).length<=41:=by rw[Pz,l7];omega
   refine⟨_,rfl,p1,q,_,_,rfl,rfl,h3,O _ _ hq,Qo (aF (by rw[aT];omega)),λp2 DZ=>?_⟩;have s4:ax Z (upd Z p2 (.lst ((iV M).take spot++iV inner))):=au DZ;have h4':upd Z p2 (.lst ((iV M).take spot++iV inner)) p2=Yl (.lst ((iV M).take spot++iV inner)):=ag;generalize upd Z p2 (.lst ((iV M).take spot++iV inner))=H4 at s4 h4'⊢;have zX:=O.trans s4;have e1:(spot:Int)+1=((spot+1:Nat):Int):=by omega
   refine⟨_,rfl,_,rfl,_,_,rfl,rfl,_,rfl,l,_,rfl,bc.of (zX _ _ U),λp3 IP=>?_⟩;dsimp only;rw[e1,iF (by rw[l7];omega)];have s5:ax H4 (upd H4 p3 (.lst ((iV M).drop (spot+1)))):=au IP;refine⟨p2,p3,_,_,rfl,rfl,s5 _ _ h4',ag,Qo (aF (by rw[O7,PU,aT inner,l7];omega)),λp4 hp4=>?_⟩;have e2:(iV M).take spot++iV inner++(iV M).drop (spot+1)=iV (M.take spot++inner++M.drop (spot+1)):=by
    rw[iN,iN];unfold iV;rw[Sm,RF]
   have el:(M.take spot++inner++M.drop (spot+1)).length=rs.length+3:=by rw[O7,O7,Pz,PU,ml,Fs];omega
   refine hD 0 _ _ ⟨p4,M.take spot++inner++M.drop (spot+1),_,_,_,_,_,rfl,(((s2.trans zX).trans s5)).trans (au hp4),by rw[ag,e2],by rw[el];exact P4,by omega,by omega⟩
  refine⟨_,rfl,_,_,rfl,rfl,(by show(0:Int)<4;decide),rfl,_,rfl,?_⟩;refine fK (λh1=>?_) (λh1=>?_)
  .refine⟨_,rfl,_,rfl,_,_,rfl,rfl,_,rfl,_,_,rfl,rfl,_,rfl,_,_,rfl,rfl,by show 4<=U2;decide,λq2 hq2=>?_⟩;have O:ax J (upd J q2 (.lst [.int low,.int (low+1),.int (low+2),.int (low+3)])):=au hq2;exact⟨l,q2,rs,[low,low+1,low+2,low+3],spot,low,c,v4,rfl,s2.trans O,O _ _ U,ag,rfl,List.Perm.refl _,rJ,hp,h4,IQ,hD⟩
  exact⟨l,q,rs,inner,spot,low,c,v4,rfl,s2,U,hq,Fs,Oo,rJ,hp,h4,IQ,hD⟩
 refine⟨by show 4<=U2;decide,λl0 L5=>?_⟩;have s0:ax H (upd H l0 (.lst [.int 0,.int 2,.int 1,.int 3])):=au L5;refine⟨_,rfl,_,rfl,a,_,rfl,.inl (s0.seq hS),_,_,rfl,⟨by omega,by omega,by omega,by omega⟩,fE (lo:=(at':Int)) (n:=(((ns.map V.int).length:Nat)-(at':Int):Int).toNat) Pv ⟨l0,[0,2,1,3],none,none,none,none,none,rfl,s0,ag,?_,O5 4,by show 4<max room 5;omega⟩ ?_ ?_⟩
 .show([0,2,1,3]:List Int).Perm (bF 4);decide
 .rintro i σ J hi ⟨l,rs,v4,v5,v6,v7,v8,rfl,s2,U,hp,h4,IQ⟩;rw[ivn]at hi;have p9:(0:Int)<10 ^ (9:Int).toNat:=by decide +kernel
  have ea:(at':Int)+(i:Int)=((at'+i:Nat):Int):=by omega
  rw[ea];refine⟨_,rfl,_,rfl,a,_,_,_,rfl,rfl,s2.seq hS,bB (gS i hi),_,_,rfl,rfl,⟨by decide,by decide,by decide⟩,_,_,rfl,rfl,p9,?_⟩;dsimp only;generalize ns.getD (at'+i) 0%10 ^ (9:Int).toNat=c;have l7:(((iV rs).length:Nat):Int)=rs.length:=by rw[aT]
  refine⟨_,rfl,l,_,rfl,.inl (bc.of U),_,_,rfl,rfl,_,rfl,_,_,rfl,rfl,_,rfl,?_⟩;refine fK (λh1=>?_) (λh1=>?_)
  .have h1:=U0 h1;rw[l7]at h1;have Oq:rs.length+3<room:=by omega
   have g0:0<=c/8%(rs.length:Int):=R3 _ (by omega);have g1:c/8%(rs.length:Int)<rs.length:=Sz _ (by omega);obtain⟨spot,Df⟩:∃spot:Nat,c/8%(rs.length:Int)=spot:=⟨(c/8%(rs.length:Int)).toNat,by omega⟩
   have IS:spot<rs.length:=by omega
   refine⟨_,rfl,_,_,rfl,rfl,⟨by decide,by decide⟩,_,rfl,l,_,rfl,.inl (bc.of U),_,_,rfl,rfl,(by rw[l7];omega),?_⟩;dsimp only;rw[l7,Df];refine⟨_,rfl,_,rfl,l,_,_,_,rfl,rfl,bc.of U,bB (dw IS),?_⟩;generalize Ot:rs.getD spot 0=low;have rJ:rs[spot]?=Yl low:=by rw[aC.getD_get IS,Ot]
   refine⟨_,rfl,l,rfl,⟨_,bc.of U⟩,λD hD=>dD (K:=K) (a:=l) (xs:=iV rs) (λj σ Z=>∃v:Option V,σ=[v,Yl (.int low)]/\ax J Z/\Z D=Yl (.lst (iV ((rs.take j).map (pX low))))) ⟨none,rfl,au hD,ag⟩ (λj σ Z _ zq=>by obtain⟨_,_,O,_⟩:=zq;exact bc.of (O _ _ U)) ?_ ?_⟩
   .rintro j y σ Z hy ⟨v,rfl,O,h3⟩;obtain⟨x,hx,rfl⟩:=jn hy;refine ni ?_;refine⟨_,rfl,_,rfl,_,rfl,_,_,rfl,rfl,.inr ⟨_,rfl,_,_,rfl,rfl,.inl ⟨by decide,by decide⟩,_,_,rfl,rfl,?_⟩⟩;refine⟨_,h3,aF (by rw[aT,O0,Pz];omega),_,rfl,O.upd hD,?_⟩;rw[ag,aC.take_snoc hx,Pb,iN];congr 4;show V.int _=V.int _;congr 1;unfold pX;by_cases cc:x>low
    .rw[UQ cc,UQ (UX cc)]
    rw[UO cc,UO (by rw[U1 cc];decide)]
   rintro σ Z ⟨v,rfl,O,h3⟩;rw[aT,Qe]at h3;refine⟨_,rfl,_,rfl,_,_,rfl,rfl,_,rfl,_,_,rfl,rfl,_,rfl,_,_,rfl,rfl,by show 4<=U2;decide,λq hq=>?_⟩;have s4:ax Z (upd Z q (.lst [.int low,.int (low+2),.int (low+1),.int (low+3)])):=au hq;exact⟨D,q,rs,[low,low+2,low+1,low+3],spot,low,c,_,rfl,(s2.trans O).trans s4,s4 _ _ h3,ag,rfl,List.Perm.cons _ (List.Perm.swap _ _ _),rJ,hp,h4,Oq,λj σ' H' h=>h⟩
  exact⟨l,rs,_,_,_,_,_,rfl,s2,U,hp,h4,IQ⟩
 rintro σ J ⟨l,rs,v4,v5,v6,v7,v8,rfl,s2,U,hp,h4,IQ⟩;refine⟨_,rfl,l,rfl,⟨_,bc.of U⟩,λD hD=>dD (K:=K) (a:=l) (xs:=iV rs) (λj σ Z=>∃v:Option V,σ=[v]/\ax J Z/\Z D=Yl (.lst (iV ((rs.take j).map λx=>x+1)))) ⟨none,rfl,au hD,ag⟩ (λj σ Z _ zq=>by obtain⟨_,_,O,_⟩:=zq;exact bc.of (O _ _ U)) ?_ ?_⟩
 .rintro j y σ Z hy ⟨v,rfl,O,h3⟩;obtain⟨x,hx,rfl⟩:=jn hy;refine ni ?_;refine⟨_,rfl,_,_,rfl,rfl,_,h3,aF (by rw[aT,O0,Pz];omega),_,rfl,O.upd hD,?_⟩;rw[ag,aC.take_snoc hx,Pb,iN]
  rfl
 rintro σ Z ⟨v,rfl,O,h3⟩;rw[aT,Qe]at h3;have s23:=s2.trans O;have LY:H D=none:=s2.free hD;refine⟨_,rfl,_,rfl,a,_,rfl,.inl (s23.seq hS),_,_,rfl,⟨by omega,by omega,by omega,by omega⟩,fE (lo:=(at':Int)) (n:=(((ns.map V.int).length:Nat)-(at':Int):Int).toNat) (λi σ H4=>∃(fl:List Int) (v4 v5 v6 v7 v8:Option V),σ=[Yl (.ref a),Yl (.int at'),Yl (.int room),Yl (.ref l),v4,v5,v6,v7,v8,Yl (.ref D)]/\ax H H4/\H4 l=Yl (.lst (iV rs))/\H4 D=Yl (.lst (iV fl))/\fl.length=rs.length/\Rw fl)
  ⟨_,_,_,_,_,_,rfl,s23,O _ _ U,h3,O0 _,aC.JX hp⟩ ?_ ?_⟩
 .rintro i σ H4 hi ⟨fl,v4',v5',v6',v7',v8',rfl,s4,zW,z4,IM,hw⟩;rw[ivn]at hi;have ea:(at':Int)+(i:Int)=((at'+i:Nat):Int):=by omega
  rw[ea];generalize hc:ns.getD (at'+i) 0=c;have gi:=gS i hi;rw[hc]at gi;refine⟨_,rfl,_,rfl,a,_,_,_,rfl,rfl,s4.seq hS,bB gi,_,_,rfl,rfl,⟨by decide,by decide⟩,_,_,rfl,rfl,(by show(0:Int)<40;decide),?_⟩;dsimp only;have g0:0<=c/1009%40:=R3 _ (by decide);obtain⟨spot,Df⟩:∃spot:Nat,c/1009%40=spot:=⟨(c/1009%40).toNat,by omega⟩
  rw[Df];refine⟨_,rfl,_,rfl,a,_,_,_,rfl,rfl,s4.seq hS,bB gi,_,_,rfl,rfl,(by show(0:Int)<16;decide),rfl,_,rfl,?_⟩;refine fK (λh1=>?_) (λh1=>?_)
  .refine⟨_,rfl,_,rfl,l,_,rfl,.inl (bc.of zW),_,_,rfl,rfl,_,rfl,?_⟩;refine fK (λh2=>?_) (λh2=>?_)
   .have h2:=U0 h2;rw[aT]at h2;have IS:spot<fl.length:=by omega
    have gx:fl[spot]?=Yl (fl.getD spot 0):=aC.getD_get IS;refine⟨_,rfl,_,rfl,D,_,_,_,rfl,rfl,bc.of z4,bB (dw IS),_,_,rfl,rfl,_,rfl,_,rfl,D,_,_,spot,rfl,rfl,z4,?_,?_⟩
    .rw[aT];unfold Dh;rw[UQ (by omega),UQ (by omega),Qb]
    have nl:l≠D:=λe=>by
     have z:=s2.free hD;have:J l=Yl (.lst (iV rs)):=U;rw[e,hD]at this;cases this
    refine⟨fl.set spot (0-fl.getD spot 0),_,_,_,_,_,rfl,s4.upd LY,by rw[ao nl];exact zW,?_,by rw[Ut];exact IM,hw.flip gx⟩;rw[ag];unfold iV;rw[UI]
   exact⟨fl,_,_,_,_,_,rfl,s4,zW,z4,IM,hw⟩
  exact gF ⟨fl,_,_,_,_,_,rfl,s4,zW,z4,IM,hw⟩
 rintro σ H4 ⟨fl,v4',v5',v6',v7',v8',rfl,s4,zW,z4,IM,hw⟩;exact⟨_,rfl,D,_,rfl,.inl z4,λt H5 s5 ht=>k t H5 fl (s4.trans s5) ht (by omega) (hw.fit (by omega))⟩
end
section
seal L2.qp L2.PS L2.PE L2.PT L2.PA
variable {P:U3}{w:U4}{K:Pa}{mg:Vg->Option UP}{base:Vd}
theorem tr{f:UR}{fd:Va}(B:Bl mg)(F:Fn K mg "_law_turns" gm ["script","many"] f fd):a4 P w K mg base cQ 1 f fd ["script","many"] (aC.lK K):=by
 refine F.fn.ok fB (λvs H Q E h=>?_) (λkB A outer s H vs Q E hr h=>?_)
 .obtain⟨a,ns,n,rfl,_⟩:=h
  rfl
 obtain⟨a,ns,n,rfl,hS,hlen,GN,hn,k⟩:=h;refine⟨_,(ah (aH (i:=2) fB.nd rfl (Or.inl rfl) (d6 ai))
  (ah (b9 PassesOwn.never rfl (bK (dg g7 (pv 0) fo (dO av))) (aL (i:=3) fB.nd rfl (Or.inl rfl)) (ah (aH (i:=4) fB.nd rfl (Or.inl rfl) (aK cP (pv 3) (pv 1)))
  (aA (fk (mM Qt Q0 Q1 fF (pv 2) (af (jP (af (pv 4) (af (aK bo (pv 4) (aK cP (aK g6 (pv 3) av) (aK fH (pv 1) (pv 4)))) ai))) ai))))))
  (aA (a9 (pv 2))))),?_⟩
 refine⟨by show 0<=U2;decide,λl hl=>?_⟩;have s1:ax H (upd H l (.lst [])):=au hl;refine⟨_,rfl,_,rfl,a,_,rfl,s1.seq hS,λb J=>⟨b,rfl,⟨_,bc.of ag⟩,cO (K:=K) (a:=b) (xs:=fX (ns.map V.int) none (Yl 12)) (λi σ D=>∃(U Z:Option V) (cs:List (Int×Int)),σ=[Yl (.ref a),Yl (.int n),Yl (.ref l),U,Z]/\ax H D/\D b=Yl (.lst (fX (ns.map V.int) none (Yl 12)))/\aC.df aC.pr D l cs/\cs.length=i/\mW n cs)
  ⟨none,none,[],rfl,s1.trans (au J),ag,aC.df.nil (au J _ _ ag),rfl,PQ _,λp hp=>UU hp Pf⟩ (λi σ D _ ⟨_,_,_,_,_,e,_⟩=>bc.of e) ?_ ?_⟩⟩
 .rintro i y σ D hy ⟨U,Z,cs,rfl,s2,LB,M,O,ok⟩;have hi:i<63:=by
   have z:=(O1.mp hy).1;have:(fX (ns.map V.int) none (Yl 12)).length<=(ns.map V.int).length:=PH (List.length_take_le' _ _) (by rw[PU];omega);rw[O0]at this;omega
  obtain⟨c,rfl⟩:∃z,y=V.int z:=by
   have hm:y∈ns.map V.int:=Td (Sk (Pk hy));obtain⟨z,_,e⟩:=O4.mp hm;exact⟨z,e.symm⟩
  have nb:b≠l:=λe=>by
   obtain⟨vs,e1,_⟩:=M.len;rw[e]at J;rw[ag]at J;cases J
  have f0:0<=c%(n:Int):=R3 _ (by omega);have f1:c%(n:Int)<n:=Sz _ (by omega);refine⟨_,rfl,_,rfl,_,_,rfl,rfl,(by show(0:Int)<n;omega),?_⟩;dsimp only;obtain⟨f,hf⟩:∃f:Nat,c%(n:Int)=f:=⟨(c%(n:Int)).toNat,by omega⟩
  rw[hf];have g0:0<=c/40%((n:Int)-(f:Int)):=R3 _ (by omega);have g1:c/40%((n:Int)-(f:Int))<(n:Int)-(f:Int):=Sz _ (by omega);obtain⟨vs,e1,e2⟩:=M.len;refine⟨_,rfl,.inl ⟨rfl,_,bc.of e1⟩,_,rfl,_,rfl,_,rfl,_,_,rfl,rfl,⟨by decide,by decide⟩,_,rfl,_,rfl,_,_,rfl,rfl,_,_,rfl,rfl,(by show(0:Int)<(n:Int)-(f:Int);omega),_,_,rfl,rfl,?_⟩;dsimp only;obtain⟨g,hg⟩:∃g:Nat,(f:Int)+c/40%((n:Int)-(f:Int))=g:=⟨((f:Int)+c/40%((n:Int)-(f:Int))).toNat,by omega⟩
  rw[hg];refine⟨by show 2<=U2;decide,λtp qd=>?_⟩;have s3:ax D (upd D tp (.tup [.int f,.int g])):=au qd;obtain⟨ys,y1,y2,y3⟩:=(M.same s3).snoc (t:=tp) (x:=((f:Int),(g:Int))) ag;refine⟨l,_,_,rfl,rfl,y1,aF (by rw[y2];omega),_,_,_,rfl,(s2.trans s3).upd hl,by rw[ao nb];exact s3 _ _ LB,y3,by rw[O7,O];rfl,ok.snoc (by omega) (by omega) (by omega)⟩
 rintro σ D ⟨U,Z,cs,rfl,s2,_,M,O,ok⟩;exact⟨_,rfl,k l D cs s2 M ok⟩
end
section
variable {P:U3}{w:U4}{K:Pa}{mg:Vg->Option UP}{base:Vd}
theorem lU{f:UR}{fd:Va}(B:Bl mg)(F:Fn K mg "_law_score_good" da ["row","score"] f fd):a4 P w K mg base cQ 1 f fd ["row","score"] aC.jJ:=by
 refine F.fn.ok lQ (λvs H Q E h=>?_) (λkB A outer s H vs Q E hr h=>?_)
 .obtain⟨t,rs,rfl,_⟩:=h
  rfl
 obtain⟨t,rs,rfl,ht,fit,k⟩:=h;have hu:=qG hr;have hn:=fit.small;obtain⟨s0,sz⟩:=Hp.pC fit;refine⟨_,(ah (dN (PW.pt (wZ (n6 (jN (aI tS rfl B.isinstance jG (af (pv 1) (af (wY (v:=.ty "int") rfl B.int AV rfl) ai))))) (wZ (jN (aI tS rfl B.isinstance jG (af (pv 1) (af (wY (v:=.ty "bool") rfl B.bool DG rfl) ai)))) (vw (aV gz (pv 1) av (a5 _)))))) (aA (a9 wW)) bJ)
  (aA (a9 (fY fI (fY fI (pv 1) av (a5 _)) (fY (tY (Nat.lt_of_succ_lt hu)) (bQ g9 rfl B.list jk (af (pv 0) ai)) (bQ (pR rfl) rfl B.list jk (af (bQ yU rfl B.range AW (af av (af (aK bo (aI aD rfl B.len bu (af (pv 0) ai)) av) ai))) ai)) (a5 _)) (a5 _))))),?_⟩
 generalize aN rs=c at *;have D:(iV rs).length=rs.length:=aT rs;have sq:=bZ.of (K:=K) ht;refine⟨_,rfl,_,_,_,_,rfl,.int c,tT _,_,rfl,gF ?_⟩;refine⟨_,rfl,_,_,_,_,rfl,.int c,rN _,_,rfl,gF ?_⟩;refine⟨_,rfl,_,_,rfl,rfl,_,rfl,xD (U1 (by omega)) ?_⟩;refine⟨_,rfl,rfl,_,rfl,t,_,rfl,.inr sq,λJ U=>?_⟩;have Z:ax H (upd H J (.lst (iV rs))):=au U;have h1:upd H J (.lst (iV rs)) J=Yl (.lst (iV rs)):=ag;generalize upd H J (.lst (iV rs))=O at Z h1⊢;refine⟨_,rfl,t,_,rfl,.inr (bZ.of (Z _ _ ht)),_,_,rfl,rfl,_,_,rfl,λp hp=>⟨p,_,_,rfl,ag,⟨by omega,by omega,by rw[D];omega,by rw[D];omega⟩,by rw[D];omega,λM tA=>?_⟩⟩;have er:rM 1 ((((iV rs).length:Nat):Int)+1-1).toNat=iV (aZ rs.length):=by
  have e:((((iV rs).length:Nat):Int)+1-1).toNat=rs.length:=by rw[D];omega
  rw[e,aC.vP]
 rw[er];have s2:ax O (upd (upd O p (.ql 1 ((((iV rs).length:Nat):Int)+1))) M (.lst (iV (aZ rs.length)))):=(au hp).trans (au tA);have h2:upd (upd O p (.ql 1 ((((iV rs).length:Nat):Int)+1))) M (.lst (iV (aZ rs.length))) M=Yl (.lst (iV (aZ rs.length))):=ag;generalize upd (upd O p (.ql 1 ((((iV rs).length:Nat):Int)+1))) M (.lst (iV (aZ rs.length)))=H2 at s2 h2⊢;refine⟨J,M,rs,aZ rs.length,rfl,rfl,bc.of (s2 _ _ h1),bc.of h2,(aC.dE _).symm,rfl,?_⟩;have e:decide (V.bl (decide (V.int c=V.int 0))=V.bl (decide (rs=aZ rs.length)))=true:=by
  rw[U5];congr 1;refine decide_eq_decide.mpr ?_;rw[<-sz];exact⟨λz=>by injection z,λz=>by rw[z]⟩
 show Q (V.bl _) H2;rw[e];exact k H2 (Z.trans s2)
end
section
variable {P:U3}{w:U4}{K:Pa}{mg:Vg->Option UP}{base:Vd}
seal L2.qp L2.PS L2.PE L2.PT L2.PA
theorem Ii{lV:UR}(B:Bl mg)(Z:GW K mg "BadStretch" lV){f0 f1 f2 f3 f4 f5 f6 f7 f8 f9 f10 f11 f12 f13 f14 f15 f16 f17 f18 f19 f20 f21 f22 f23 f24 f25 f26:UR}{fd0 pE u5 Ah Dp LO fd6 fd7 fd8 fd9 Ou Ov Ow Ox Oy Oz OA OB OC OD OE OF OG OH OI OJ Le:Va}(i8:Fn K mg "framed" dk ["row"] f0 fd0)(vd:Fn K mg "open_gaps" eR ["row"] f1 pE)(wR:Fn K mg "tie_gaps" fT ["row"] f2 u5)(m5:Fn K mg "tie_rings" eS ["row"] f3 Ah)(iu:Fn K mg "hung_together" bR ["pairs"] f4 Dp)(fb:Fn K mg "kin_spans" c6 ["row"] f5 LO)(jz:Fn K mg "kin_end" ew ["numbers","first"] f6 fd6)(ie:Fn K mg "gap_kins" fU ["row"] f7 fd7)(dC:Fn K mg "knots_in" eA ["row"] f8 fd8)(lT:Fn K mg "web_of" i6 ["kins"] f9 fd9)(lW:Fn K mg "shortest_around" bW ["chain","kins"] f10 Ou)(jL:Fn K mg "thinned_web" dm ["row"] f11 Ov)(pH:Fn K mg "spare_things" c7 ["web","knots"] f12 Ow)(z6:Fn K mg "ends_of" gV ["web"] f13 Ox)(wU:Fn K mg "leg_from" fV ["end","web"] f14 Oy)(m6:Fn K mg "knot_legs" eT ["row"] f15 Oz)(m7:Fn K mg "knot_cost" eU ["row"] f16 OA)(ve:Fn K mg "legs_cost" eW ["legs"] f17 OB)(ig:Fn K mg "turn_score" fy ["row"] f18 OC)(lX:Fn K mg "turn_about" fz ["row","first","last"] f19 OD)(m8:Fn K mg "turns_all" gj ["many"] f20 OE)(M:Fn K mg "_law_cell_at" dq ["script","k"] f21 OF)(O:Fn K mg "_law_row_of_kins" cM ["script","at","many"] f22 OG)(jc:Fn K mg "_law_inflated" dZ ["script","at","room"] f23 OH)(m9:Fn K mg "_law_turns" gm ["script","many"] f24 OI)(J:Fn K mg "_law_score_good" da ["row","score"] f25 OJ)(Lf:Fn K mg "law" Dd ["script"] f26 Le):a4 P w K mg base cQ 10 f26 Le ["script"] (AU K):=by
 have qh:a4 P w K mg base cQ 1 _ _ ["script","k"] (kG K):=i9 B M;have lY:a4 P w K mg base cQ 2 _ _ ["script","at","many"] (aC.mU K):=j7 B O M;have pI:a4 P w K mg base cQ 1 _ _ ["script","at","room"] (aC.mZ K):=nJ B jc;have vf:a4 P w K mg base cQ 1 _ _ ["script","many"] (aC.lK K):=tr B m9;have U:a4 P w K mg base cQ 1 _ _ ["row","score"] aC.jJ:=lU B J;have vg:a4 P w K mg base cQ 1 _ _ ["many"] aC.oO:=tq B m8;have eD:a4 P w K mg base cQ 4 _ _ ["row"] kZ:=u7 B dC i8 jz fb ie vd;have vh:a4 P w K mg base cQ 2 _ _ ["row"] fO:=lR B fb i8 jz;have pG:a4 P w K mg base cQ 2 _ _ ["kins"] (nT P w):=zY B lT iu lW;have qi:a4 P w K mg base cQ 5 _ _ ["row"] (sE P w):=pF B jL dC eD fb vh lT pG pH;have vi:a4 P w K mg base cQ 6 _ _ ["row"] sG:=tf B m6 dC eD jL qi z6 wU;have vk:a4 P w K mg base cQ 7 _ _ ["row"] sV:=tj B m7 ve m6 vi;have vl:a4 P w K mg base cQ 3 _ _ ["row"] h7:=sZ B m5 i8 wR iu;have lZ:a4 P w K mg base cQ 8 _ _ ["row"] aC.uK:=qf B ig m5 vl m7 vk;have tu:a4 P w K mg base (z9 P w) 1 _ _ ["row","first","last"] (aC.mT lV):=qg B Z lX;refine Lf.fn.ok d4 (λvs H Q E h=>?_) (λkB A outer s H vs Q E hr h=>?_)
 .obtain⟨a,ns,rfl,_⟩:=h
  rfl
 obtain⟨a,ns,rfl,hS,hlen,k⟩:=h;have hu:=qG hr;refine⟨_,(ah (aH (i:=1) d4.nd rfl (Or.inl rfl) (bA qh M (hr.mono (by decide)) (af (pv 0) (af av ai))))
  (ah (aH (i:=2) d4.nd rfl (Or.inl rfl) (bA lY O (hr.mono (by decide)) (af (pv 0) (af av (af (aK cP (pv 1) av) ai)))))
  (ah (aH (i:=3) d4.nd rfl (Or.inl rfl) (fY fI (aK cP (aK g6 (pv 1) av) av) av (a5 _)))
  (ah (aH (i:=4) d4.nd rfl (Or.inl rfl) (bA vg m8 (hr.mono (by decide)) (af (aI aD rfl B.len bu (af (pv 2) ai)) ai)))
  (ah (dN (jN (pv 3)) (ah (aH (i:=2) d4.nd rfl (Or.inl rfl) (bA pI jc (hr.mono (by decide)) (af (pv 0) (af av (af (aK bo av (aK cP (aK g6 (pv 1) av) av)) ai)))))
  (aA (aH (i:=4) d4.nd rfl (Or.inl rfl) (bA vf m9 (hr.mono (by decide)) (af (pv 0) (af (aI aD rfl B.len bu (af (pv 2) ai)) ai)))))) bJ)
  (hJ (R:=λD σ H2=>∃(v1:Option V) (t lt:UR) (lo:Bool) (rs:List Int) (cs:List (Int×Int)),σ=[Yl (.ref a),v1,Yl (.ref t),Yl (.bl lo),Yl (.ref lt),none,none,none,none,none,none]/\H2 t=Yl (.tup (iV rs))/\aC.aR rs/\aC.df aC.pr H2 lt cs/\mW rs.length cs/\(lo=false->cs=b5 rs.length rs.length)/\D.rt=Q) λD σ H2 hR=>?rest)))))),?_⟩
 case rest =>
  obtain⟨v1,t,lt,lo,rs,cs,rfl,ht,fit,hT,ok,al,hD⟩:=hR;refine⟨_,(ah (aH (i:=5) d4.nd rfl (Or.inl rfl) (bA lZ ig (hr.mono (by decide)) (af (pv 2) ai)))
  (ah (dN (n6 (jN (bA U J (hr.mono (by decide)) (af (pv 2) (af (pv 5) ai))))) (aA (a9 wW)) bJ)
  (ah (aH (i:=6) d4.nd rfl (Or.inl rfl) (Jb (fY fI (pv 5) av (a5 _)) (Gd (pv 3))))
  (hJ (R:=λD σ H5=>∃sv:Bool,σ=[Yl (.ref a),v1,Yl (.ref t),Yl (.bl lo),Yl (.ref lt),Yl (.int (aN rs)),Yl (.bl sv),none,none,none,none]/\ax H2 H5/\(aN rs=0\/lo=true->sv=true)/\D.rt=Q) λD σ H5 hR=>?rest2)))),?_⟩
  case rest2 =>
   obtain⟨sv,rfl,s5,Lg,hD⟩:=hR;refine⟨_,(ah (b9 PassesOwn.never rfl (bK (pv 4)) (l8 rfl (cv (aL (i:=7) d4.nd rfl (Or.inl rfl)) (cv (aL (i:=8) d4.nd rfl (Or.inl rfl)) jf))) (ah (aH (i:=9) d4.nd rfl (Or.inl rfl) (GZ tu lX (hr.mono (by decide)) (af (pv 2) (af (pv 7) (af (pv 8) ai)))))
  (ah (aH (i:=10) d4.nd rfl (Or.inl rfl) (bA lZ ig (hr.mono (by decide)) (af (pv 9) ai)))
  (ah (dN (PW.pt (wZ (n6 (jN (bA U J (hr.mono (by decide)) (af (pv 9) (af (pv 10) ai))))) (vw (aV kA (aK fH (pv 10) (pv 5)) (d6 (af (qr ma av) (af av (af av ai)))) (by with_unfolding_all rfl))))) (aA (a9 wW)) bJ)
  (aA (dN (aV fI (pv 10) (aK fH (pv 5) av) (a5 _)) (aA (aH (i:=6) d4.nd rfl (Or.inl rfl) wW)) bJ))))))
  (aA (a9 (pv 6)))),?_⟩
   obtain⟨ts,u4,hl6,qd⟩:=id (hT.same s5);have vN:(ts.map V.ref).length=cs.length:=by rw[O0,hl6]
   have ht5:=s5 _ _ ht;refine⟨_,rfl,lt,rfl,⟨_,bc.of u4⟩,cO (K:=K) (a:=lt) (xs:=ts.map V.ref) (λi σ H7=>∃(v7 v8 v9 v10:Option V) (sv:Bool),σ=[Yl (.ref a),v1,Yl (.ref t),Yl (.bl lo),Yl (.ref lt),Yl (.int (aN rs)),Yl (.bl sv),v7,v8,v9,v10]/\ax H5 H7/\(aN rs=0\/lo=true->sv=true)/\∀(j f l:Nat),j<i->cs[j]?=Yl ((f:Int),(l:Int))->aN (aw rs f l)=aN rs-1->sv=true)
    ⟨none,none,none,none,sv,rfl,ax.refl _,Lg,λj f l hj=>UU hj (Rn _)⟩ (λi σ H7 _ zq=>by obtain⟨_,_,_,_,_,_,s7,_⟩:=zq;exact bc.of (s7 _ _ u4)) ?_ ?_⟩
   .rintro i y σ H7 hy ⟨v7,v8,v9,v10,sv,rfl,s7,Lg,old⟩;have hi:i<cs.length:=by rw[<-vN];exact(O1.mp hy).1
    have OK:cs[i]?=Yl cs[i]:=OZ hi;obtain⟨t',KY,rfl⟩:∃t,ts[i]?=Yl t/\y=.ref t:=by
     rw[O6]at hy;obtain⟨t,e1,e2⟩:=Ph.mp hy;exact⟨t,e1,e2.symm⟩
    have Ag:=qd i t' _ KY OK;obtain⟨f,l,ep,o1,o2⟩:=ok.2 _ (PV hi);rw[ep]at Ag OK;have aeI:=fit.small;refine⟨t',_,rfl,bZ.of (s7 _ _ Ag),rfl,_,_,rfl,_,_,rfl,rfl,?_⟩;refine⟨_,rfl,_,rfl,_,rfl,t,rs,(f:Int),(l:Int),rfl,s7 _ _ ht5,by omega,aC.G5.of (by omega) (by omega),aC.G5.of (by omega) (by omega),λ_ t8 H8 s8 OL=>?_,λno=>UU ⟨by show(0:Int)<=f;omega,by show(f:Int)<=l;omega,by show(l:Int)<rs.length;omega⟩ no⟩;rw[Qb,Qb]at OL;have Lh:=aC.aM fit o1 o2;have st:=Hp.pz fit o1 o2;refine⟨_,rfl,t8,_,rfl,OL,Lh,λH9 s9=>?_⟩;have ht9:=s9 _ _ OL;refine⟨_,rfl,_,rfl,t8,_,rfl,ht9,Lh,λK8 LX=>⟨_,rfl,gF ?_⟩⟩;generalize hz:aN (aw rs f l)=z at *;refine⟨_,rfl,_,rfl,_,_,rfl,rfl,_,rfl,by show 3<=U2;decide,λLi OM=>?_⟩;have IK:ax K8 (upd K8 Li (.lst [.int (-1),.int 0,.int 1])):=au OM;have h11:upd K8 Li (.lst [.int (-1),.int 0,.int 1]) Li=Yl (.lst [.int (-1),.int 0,.int 1]):=ag;generalize upd K8 Li (.lst [.int (-1),.int 0,.int 1])=Ai at IK h11⊢;have s57:=(((s7.trans s8).trans s9).trans LX).trans IK;refine⟨Li,_,rfl,.inl (bc.of h11),rfl,rfl,_,rfl,xD ?_ ?_⟩
    .have e:z-aN rs=-1\/z-aN rs=0\/z-aN rs=1:=by omega
     dsimp only;rcases e with e|e|e <;> rw[e] <;> rfl
    refine⟨_,rfl,_,rfl,_,_,rfl,rfl,rfl,_,rfl,?_⟩;by_cases c:z=aN rs-1
    .refine uH (Eu c) ?_;exact⟨_,_,_,_,true,rfl,s57,λ_=>rfl,λ_ _ _ _ _ _=>rfl⟩
    refine uI (yb c) ?_;refine⟨_,_,_,_,sv,rfl,s57,Lg,λj f' l' hj e1 e2=>?_⟩;by_cases ji:j=i
    .subst ji;rw[OK]at e1;have e1:=Option.some.inj e1;have q1:(f:Int)=f':=congrArg Qd e1;have q2:(l:Int)=l':=congrArg Rr e1;have q1:f=f':=by omega
     have q2:l=l':=by omega
     subst q1 q2;exact UU (hz.symm.trans e2) c
    exact old j f' l' (by omega) e1 e2
   rintro σ H7 ⟨v7,v8,v9,v10,sv,rfl,s7,Lg,old⟩;have e:sv=true:=by
    by_cases z:aN rs=0\/lo=true
    .exact Lg z
    obtain⟨f,l,f1,f2,f3⟩:=Hp.KL fit λw=>z (.inl w);have lf:lo=false:=by
     cases lo with
     |true=>exact UU (.inr rfl) z
     |false=>rfl
    have m:=aC.uY f1 f2;rw[<-al lf]at m;obtain⟨j,hj,ej⟩:=PB m;exact old j f l (by rw[vN];exact hj) (by rw[OZ hj,ej]) f3
   rw[e];show∃v,_/\D.rt _ _;rw[hD];exact⟨_,rfl,k _⟩
  refine⟨_,rfl,t,rs,rfl,ht,fit,λH3 s3=>?_⟩;refine⟨_,rfl,_,rfl,t,rs,rfl,s3 _ _ ht,fit,λH4 s4=>⟨_,rfl,gF ?_⟩⟩;have zX:=s3.trans s4;refine⟨_,rfl,rfl,_,rfl,?_⟩;by_cases c:aN rs=0
  .exact uH (Eu c) ⟨true,rfl,zX,λ_=>rfl,hD⟩
  exact uI (yb c) ⟨_,rfl,lo,rfl,zX,λz=>z.resolve_left c,hD⟩
 refine⟨_,rfl,a,ns,0,rfl,hS,λc0=>?_⟩;refine⟨_,rfl,_,rfl,_,_,rfl,rfl,(by show(0:Int)<8;decide),?_⟩;dsimp only;obtain⟨n,hm⟩:∃many:Nat,c0%8=many:=⟨(c0%8).toNat,by omega⟩
 rw[hm];refine⟨a,ns,1,n,rfl,hS,by omega,λt H1 rs s1 ht hrl fit=>?_⟩;refine⟨_,rfl,_,_,rfl,rfl,⟨by decide,by decide⟩,_,_,rfl,rfl,(by show(0:Int)<4;decide),rfl,?_⟩;refine⟨_,rfl,t,_,rfl,.inr (bZ.of ht),?_⟩;rw[aT];refine⟨rs.length,rfl,by omega,λlt H2 A3 s2 hT=>?_⟩;refine⟨_,rfl,_,rfl,?_⟩;refine fK (λh1=>?_) (λh1=>?_)
 .refine⟨_,rfl,_,rfl,_,_,rfl,rfl,⟨by decide,by decide⟩,_,_,rfl,rfl,(by show(0:Int)<34;decide),_,_,rfl,rfl,?_⟩;dsimp only;obtain⟨r,E1⟩:∃r:Nat,(8:Int)+c0/32%34=r:=⟨((8:Int)+c0/32%34).toNat,by omega⟩
  rw[E1];refine⟨a,ns,1,r,rfl,(s1.trans s2).seq hS,hlen,by omega,by omega,λt3 H3 rs3 s3 MR h4 Lj=>?_⟩;have small:=Lj.small;refine⟨_,rfl,_,rfl,t3,_,rfl,.inr (bZ.of MR),?_⟩;rw[aT];refine⟨a,ns,rs3.length,rfl,((s1.trans s2).trans s3).seq hS,hlen,by omega,by omega,λl4 H4 cs s4 FU ok=>?_⟩;exact⟨_,t3,l4,_,rs3,cs,rfl,s4 _ _ MR,Lj,FU,ok,λz=>UU (h1.symm.trans z) (by decide),rfl⟩
 exact⟨_,t,lt,_,rs,_,rfl,s2 _ _ ht,fit,hT,aC.uE (by omega) _ (O5 _),λ_=>rfl,rfl⟩
end
theorem us0{R:List UP->Prop}(h:∀_:Unit,R [])(z:List UP)(e:z.length=0):R z:=(QH.mp e)▸h ()
theorem us1{R:List UP->Prop}(h:∀x0:UP,R [x0])(z:List UP)(e:z.length=1):R z:=by
 obtain⟨a,r,rfl⟩:=Q5 e;exact us0 (R:=λr=>R (a::r)) (λ_=>h a) r (Nat.succ.inj e)
theorem us2{R:List UP->Prop}(h:∀x0 B:UP,R [x0,B])(z:List UP)(e:z.length=2):R z:=by
 obtain⟨a,r,rfl⟩:=Q5 e;exact us1 (R:=λr=>R (a::r)) (h a) r (Nat.succ.inj e)
theorem us3{R:List UP->Prop}(h:∀x0 B D:UP,R [x0,B,D])(z:List UP)(e:z.length=3):R z:=by
 obtain⟨a,r,rfl⟩:=Q5 e;exact us2 (R:=λr=>R (a::r)) (h a) r (Nat.succ.inj e)
theorem vm(x:Vg)(st:Wq)(H:Vg){K:Pa}{h:Vd}{mg:Vg->Option UP}{f:UR}{M an:Option UR}{O:Array (Option UP)}{U kV J B E ct:UP}(X:K.In h)(G:h.Ns Vn mg)(a:Uc K Vn x=Yl (Yl (.ref f)):=by k_is)(l:K.lookup f=Yl ⟨U,M,.func (QB x x (cJ st) (bT st) (aB st) .none kV J B an E ct),O⟩:=by k_is)(c:RK K E x=true:=by k_is)(k:RJ K (.ref f)=true:=by k_is)(V:∀(kV doc B:UP) (an:Option UR) (z ct:UP) (x0:UP),Wn (QB x x (cJ st) (bT st) (aB st) .none kV doc B an z ct) ⟨[x0],[]⟩=pure (S7 [H] [x0]):=by intros;rfl):Fn K mg x st [H] f (QB x x (cJ st) (bT st) (aB st) .none kV J B an E ct):=
 Fn.mk' (vI (st:=st) l c k) (λkV doc B an z ct D Z=>us1 (R:=λD=>Wn _ ⟨D,[]⟩=pure (S7 _ D)) (V kV doc B an z ct) D Z) (Sl X G a)
theorem Ij(x:Vg)(st:Wq)(H J:Vg){K:Pa}{h:Vd}{mg:Vg->Option UP}{f:UR}{U an:Option UR}{V:Array (Option UP)}{Z kV M B E ct:UP}(X:K.In h)(G:h.Ns Vn mg)(a:Uc K Vn x=Yl (Yl (.ref f)):=by k_is)(l:K.lookup f=Yl ⟨Z,U,.func (QB x x (cJ st) (bT st) (aB st) .none kV M B an E ct),V⟩:=by k_is)(c:RK K E x=true:=by k_is)(k:RJ K (.ref f)=true:=by k_is)(hb:∀(kV doc B:UP) (an:Option UR) (z ct:UP) (x0 O:UP),Wn (QB x x (cJ st) (bT st) (aB st) .none kV doc B an z ct) ⟨[x0,O],[]⟩=pure (S7 [H,J] [x0,O]):=by intros;rfl):Fn K mg x st [H,J] f (QB x x (cJ st) (bT st) (aB st) .none kV M B an E ct):=
 Fn.mk' (vI (st:=st) l c k) (λkV doc B an z ct D hl=>us2 (R:=λD=>Wn _ ⟨D,[]⟩=pure (S7 _ D)) (hb kV doc B an z ct) D hl) (Sl X G a)
theorem ON(x:Vg)(st:Wq)(H J M:Vg){K:Pa}{h:Vd}{mg:Vg->Option UP}{f:UR}{Z an:Option UR}{sl:Array (Option UP)}{oc kV O B E ct:UP}(X:K.In h)(G:h.Ns Vn mg)(a:Uc K Vn x=Yl (Yl (.ref f)):=by k_is)(l:K.lookup f=Yl ⟨oc,Z,.func (QB x x (cJ st) (bT st) (aB st) .none kV O B an E ct),sl⟩:=by k_is)(c:RK K E x=true:=by k_is)(k:RJ K (.ref f)=true:=by k_is)(hb:∀(kV doc B:UP) (an:Option UR) (z ct:UP) (x0 U V:UP),Wn (QB x x (cJ st) (bT st) (aB st) .none kV doc B an z ct) ⟨[x0,U,V],[]⟩=pure (S7 [H,J,M] [x0,U,V]):=by intros;rfl):Fn K mg x st [H,J,M] f (QB x x (cJ st) (bT st) (aB st) .none kV O B an E ct):=
 Fn.mk' (vI (st:=st) l c k) (λkV doc B an z ct D hl=>us3 (R:=λD=>Wn _ ⟨D,[]⟩=pure (S7 _ D)) (hb kV doc B an z ct) D hl) (Sl X G a)
theorem walk{l:Uu}{q:U3}{loose:List Vg}{J:(Vg->Option UP)->Vd->Prop}{D:U4->Vd->Prop}{d:DefRec}{K:Params->Pa}(M:l.most=Yl 63)(B:d.params.defaults=[])
  (O:∀(w:U4) (h:Vd),D w h->(K w.params).In h)
  (F:∀(w:U4) (mg:Vg->Option UP) (E:UR) (h:Vd),(K w.params).In h->h.Ns Vn mg->mg d.name=Yl (.ref E) ->
   ∃H:Va,(∀(s:UW) (u:UP),XS s H ⟨[u],[]⟩ [("script",u)])/\∀base:Vd,(K w.params).In base->base.Ns Vn mg->a4 l.prog w (K w.params) mg base cQ 10 E H ["script"] (AU (K w.params))) :
  UE q loose J D l.row.toRowW d [] (λf vs=>PySem.call f vs):=
 L2.xm (n:=63) (k:=10) (x:="script") (CX:=λ_=>cQ) (sp:=λw=>AU (K w.params)) M (by decide) B ⟨rfl,by decide,by decide,rfl⟩ O F (λ_ _ a ns U _ V=>⟨a,ns,rfl,V,U,λ_=>rfl⟩) λ_ _ _ _ _ z=>z
end Law
end
namespace PySem.W.Fast
def tw8911914217542305604:=0
def tw16253035406748760883:=0
def tw13831103111297897210:=0
def tw16827857610731482601:=0
def tw15124265124684235589:=0
def tw3530278944130864388:=0
def tw16550509530837234053:=0
def tw1123525902711160138:=0
def tw15195799003158852875:=0
def tw17723392889268361512:=0
def tw18263345745310732654:=0
def tw12196168500093255696:=0
def tw5988856305591145507:=0
def tw16988326688232562303:=0
def tw3283066417143263278:=0
def tw4737397414831340409:=0
def tw5330125041103861924:=0
def tw331213662647246415:=0
def tw10973031628173565749:=0
def tw833604908030676000:=0
def tw5454458740767933745:=0
def tw16004847291174992799:=0
def tw6067247724922261994:=0
def tw4693264369187905538:=0
def tw3201632703665230740:=0
def tw8835528956372506484:=0
def tw5233802642481741356:=0
def tw7861656206714222864:=0
def tw10111365446567350692:=0
def tw2408959556214300960:=0
def tw13545609521404822566:=0
def tw5295883539165078907:=0
def tw4515749335715204257:=0
def tw5530923667361413533:=0
def tw5192770393668180442:=0
def tw14566295031318441816:=0
def tw5039566899340939942:=0
def tw9161568826697471572:=0
def tw8518044157809210079:=0
def tw7013403249703772610:=0
def tw1092085157438913965:=0
def tw9816577271968904876:=0
def tw9816528295083650817:=0
def tw15172396389420963855:=0
def tw11875213381840908064:=0
def tw2021705696011180470:=0
def tw16299343227186100108:=0
def tw13358482539718188500:=0
def tw12578811073852059422:=0
def tw11734251706994633711:=0
def tw456728700779667484:=0
def tw12816815674718965242:=0
def tw12044084946039992655:=0
def tw14657958208780238939:=0
def tw432585923986555390:=0
def tw816300881556769273:=0
def tw4245394776315324473:=0
def tw10568448378741700790:=0
def tw5622259099397710936:=0
def tw6408591061171725654:=0
def tw15143589955071703426:=0
def tw14736545195496496339:=0
def tw6725112248499894353:=0
def tw14754287715510473564:=0
def tw7738971399928269265:=0
def tw9711748422327463036:=0
def tw9856404152022256625:=0
def tw9488231573490182315:=0
def tw1389936799790301414:=0
def tw8560855537108279590:=0
def tw6614211278222085357:=0
def tw8108264790987684811:=0
def tw13267275868239317460:=0
def tw2292646345600019500:=0
def tw14688829607593825582:=0
def tw10311691500141615377:=0
def tw11619731684601425093:=0
def tw4497729783364261844:=0
def tw17508719093244322863:=0
def tw5198789430158854912:=0
def tw12486341686864528687:=0
def tw6169263767605424570:=0
def tw13642290746991448290:=0
def tw11797254197467468424:=0
def tw14062836335575862305:=0
def tw12475324479760351062:=0
def tw5396474766086245316:=0
def tw4034434372771887564:=0
def tw14183943150613313617:=0
def tw17875567489500254113:=0
def tw13529488577954217914:=0
def tw2487559697859902796:=0
def tw10358569168137276993:=0
def tw9896184927826499096:=0
def tw3536345064875694518:=0
def tw10394050294057243974:=0
def tw6037930894021248516:=0
def tw12976686827130117082:=0
def tw2833804348216741691:=0
def tw18300450437049795329:=0
def tw11901042702007349215:=0
def tw3902474907223479391:=0
def tw6603064681094119589:=0
def tw18433118068262829319:=0
def tw1168590655965310359:=0
def tw8233261601656110314:=0
def tw10731607549065815945:=0
def tw15624871698678989973:=0
def tw8827816453267679065:=0
def tw3653783824310035607:=0
def tw4875197499305167675:=0
def tw411700285491627484:=0
def tw15460076733538928578:=0
def tw1704292082541082373:=0
def tw7849904442379856349:=0
def tw13496915270186127737:=0
def tw16932441021312693669:=0
def tw13645615650271742875:=0
def tw13279302270827648487:=0
def tw8931523886600424772:=0
def tw50217503884942222:=0
def tw18228173753631205832:=0
def tw8403798866774850093:=0
def tw3201670601736563824:=0
def tw3986298286893019091:=0
def tw2925801680392553250:=0
def tw8617089428909082506:=0
def tw17921668195356700389:=0
def tw10039002087897145743:=0
def tw410676019148030323:=0
def tw2113568135139802127:=0
def tw13142188226593500903:=0
def tw2163992288400477447:=0
def tw10564737135440969976:=0
def tw12517381730188946519:=0
def tw10520465503446974174:=0
def tw13916604359515075160:=0
def tw3128078158668544159:=0
def tw2759771898442800415:=0
def tw17213802569699309306:=0
def tw6511114539873050821:=0
def tw502167138866031081:=0
def tw8746956644230442969:=0
def tw10444339386669020575:=0
def tw14193859635132194779:=0
def tw1217584253944716187:=0
def tw17014873093796375971:=0
def tw439517724450545224:=0
def tw6561160402582750584:=0
def tw1919517142535123019:=0
def tw3868847673461958202:=0
def tw387999113245402650:=0
def tw2091624429052869401:=0
def tw16011051299335132072:=0
def tw9098599150161136635:=0
def tw9435846525185559205:=0
def tw9201562187134690227:=0
def tw1622327158636018132:=0
def tw6636401576921581927:=0
def tw7700036711545150467:=0
def tw10688391472372222210:=0
def tw9223078300016924482:=0
def tw7732148466848071876:=0
def tw7298879083315239220:=0
def tw1835735116327277025:=0
def tw11187735682858056266:=0
def tw17880887955419435379:=0
def tw8003382286916593192:=0
def tw16103203588856175436:=0
def tw8233276951711029045:=0
def tw7938689089669342065:=0
def tw14557503761297310813:=0
def tw17281693793947381881:=0
def tw2468702192842179710:=0
def tw14158559367622342423:=0
def tw13306293012832226707:=0
def tw7910118083038527898:=0
end PySem.W.Fast
open PySem PySem.W PyProof.Rows
set_option maxRecDepth 100000 in
set_option maxHeartbeats 0 in
theorem PySem.Challenge.cw_claspwork_k51_whole_no_turn_saves_two_holds : PySem.Challenge.rw_claspwork_k51_whole_no_turn_saves_two.Holds := by
 w_on;o_law;k_head;(case hw=>w_witness2)
 k_fill
 refine Law.walk (l:=PySem.Challenge.rw_claspwork_k51_whole_no_turn_saves_two) rfl rfl (fun w h Y=>UB Y) ?F
 case F =>
  intro w mg fa h X G hmg
  have F0:=Law.vm "framed" Law.dk "row" X G
  have F1:=Law.vm "open_gaps" Law.eR "row" X G
  have F2:=Law.vm "tie_gaps" Law.fT "row" X G
  have F3:=Law.vm "tie_rings" Law.eS "row" X G
  have F4:=Law.vm "hung_together" Law.bR "pairs" X G
  have F5:=Law.vm "kin_spans" Law.c6 "row" X G
  have F6:=Law.Ij "kin_end" Law.ew "numbers" "first" X G
  have F7:=Law.vm "gap_kins" Law.fU "row" X G
  have F8:=Law.vm "knots_in" Law.eA "row" X G
  have F9:=Law.vm "web_of" Law.i6 "kins" X G
  have F10:=Law.Ij "shortest_around" Law.bW "chain" "kins" X G
  have F11:=Law.vm "thinned_web" Law.dm "row" X G
  have F12:=Law.Ij "spare_things" Law.c7 "web" "knots" X G
  have F13:=Law.vm "ends_of" Law.gV "web" X G
  have F14:=Law.Ij "leg_from" Law.fV "end" "web" X G
  have F15:=Law.vm "knot_legs" Law.eT "row" X G
  have F16:=Law.vm "knot_cost" Law.eU "row" X G
  have F17:=Law.vm "legs_cost" Law.eW "legs" X G
  have F18:=Law.vm "turn_score" Law.fy "row" X G
  have F19:=Law.ON "turn_about" Law.fz "row" "first" "last" X G
  have F20:=Law.vm "turns_all" Law.gj "many" X G
  have F21:=Law.Ij "_law_cell_at" Law.dq "script" "k" X G
  have F22:=Law.ON "_law_row_of_kins" Law.cM "script" "at" "many" X G
  have F23:=Law.ON "_law_inflated" Law.dZ "script" "at" "room" X G
  have F24:=Law.Ij "_law_turns" Law.gm "script" "many" X G
  have F25:=Law.Ij "_law_score_good" Law.da "row" "score" X G
  have F26:=Law.vm "law" Law.Dd "script" X G
  cases hmg.symm.trans F26.g
  have tw:=Sl (n:="BadStretch") X G (by k_is)
  refine'⟨_,fun s v=>.of_eq rfl,fun base _ _=>Law.Ii ⟨Ql X G (by k_is),Ql X G (by k_is),Ql X G (by k_is),Ql X G (by k_is),Ql X G (by k_is),Ql X G (by k_is),Ql X G (by k_is),Ql X G (by k_is),Ql X G (by k_is),Ql X G (by k_is),Ql X G (by k_is),Ql X G (by k_is),Ql X G (by k_is),Ql X G (by k_is)⟩ ⟨tw,⟨_,_,_,_,(by kernel_rfl),PySem.F.excBase_ValueError⟩⟩ F0 F1 F2 F3 F4 F5 F6 F7 F8 F9 F10 F11 F12 F13 F14 F15 F16 F17 F18 F19 F20 F21 F22 F23 F24 F25 F26⟩

