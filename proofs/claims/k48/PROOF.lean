import PyProof.Rows.All
import Wide.All
import OpenK.AllK
import Wide.FinOn
import Lean
import PyProof.EqAt
import PyProof.EqKinds
import PyProof.TupleCall
import PyProof.SumWalkG
import KE.KTryMore
import PyProof.NeKinds
import PyProof.ExcAttrAll.ValueError
import KE.KRevIter
import PyProof.ReprRoads
import PyProof.ReprLen
import PyProof.TupleOfSeq
import KE.BitLaws
import PyProof.Rows.SortRuns
import PyProof.Rows.SortShell
import PyProof.DictValues
import PyProof.DictItems
import KE.KDictList
import KE.KSortTup
import KE.KSortKey
import PyProof.Rows.SetFrom
import PyProof.WalkInts
import KE.KIntText
import PyProof.StrLoop
import PyProof.StrWalks
import PyProof.StrCalls2
import PyProof.ConsumeWalk
import PyProof.StrLawsRepr
import PyProof.DictUpdate
import KE.KDictSum
import PySem.Challenge.RW_claspwork_k48_whole_score_by_crossing_ti
set_option genSizeOf false
set_option Elab.async false
set_option linter.all false
set_option maxRecDepth 100000
local macro_rules
 | `(tactic| omega)=>`(tactic| first | lia | omega (config:={}))
open List renaming getElem?_eq_getElem→O1,getElem?_eq_some_iff→O2,length_map→O3,mem_singleton→O4,mem_map→O6,getElem?_map→O7,length_append→O9,mem_cons_self→Pb,mem_filter→Pd,size_toArray→Pe,not_mem_nil→Pf,getElem?_append_right→Pg,map_append→Ph,mem_of_getElem?→Pj,getElem?_append_left→Pk,mem_cons_of_mem→Pn,mem_append→Po,mem_cons→Pu,length_take→Pw,mem_range→Px,getD_eq_getElem?_getD→Py,pairwise_iff_getElem→Pz,mem_append_right→PB,getElem_of_mem→PC,getElem?_of_mem→PD,map_congr_left→PF,length_filter_le→PJ,length_range→PN,take_length→PQ,mem_append_left→PR,getElem_mem→PU,getLast?_eq_getElem?→PV,range→PX,length_singleton→PZ,pairwise_map→Qa,map_map→Qc,filter_append→Qd,getElem?_eq_none→Qe,append_nil→Qh,getElem?_inj→Qi,nodup_cons→Qj,map_cons→Qk,filter_sublist→Qn,length_drop→Qo,filter_cons→Qq,replicate→Qr,length_eq_zero_iff→Qs,filter_nil→Qt,any_eq_true→Qv,nodup_iff_pairwise_ne→Qy,nodup_append→QB,mem_of_find?_eq_some→QC,getLastD_eq_getLast?→QD,take_of_length_le→QF,pairwise_lt_range→QG,nodup_nil→QK,pairwise_singleton→QL,ext_getElem?→QR,getElem?_replicate→QS,range_succ→QT,getElem?_take→QV,pairwise_append→QX,all_eq_true→QY,perm_ext_iff_of_nodup→QZ,length_pos_of_mem→Q0,getElem?_range→Q1,length_reverse→Q2,find?_cons→Q4,length_filter_lt_length_iff_exists→Q6,lookup_cons→Q8,getElem_map→Q9,exists_cons_of_length_eq_add_one→Ra,filter_cons_of_neg→Rc,filter_cons_of_pos→Rf,replicate_succ→Rg,map_inj_right→Ri,append_assoc→Rm,length→Ro,head?_eq_getElem?→Rv,find?_some→RA,filter_map→RB,any_cons→RC,flatten_cons→RD,length_eraseIdx_of_lt→RI,drop_eq_getElem_cons→RO,getLast?_eq_some_iff→RP,getElem_inj→RQ,map_reverse→RR,filterMap_cons→RS,length_erase_of_mem→RT,getElem?_cons_succ→RU,map_drop→RV,getElem_range→RX,find?_eq_none→R0,count_pos_iff→R3,length_eq_one_iff→R5,eraseIdxIfInBounds_toArray→R6,foldl_append→R7,filter_congr→R8,getLast?_map→R9,length_replicate→Sa,getElem?_reverse→Sb,take_append_drop→Se,length_cons→Si,getLast?_eq_some_getLast→Sl,length_dropLast→Sm,mem_of_mem_take→So,map_take→Sr,of_mem_zip→Su,pairwise_cons→SF,getElem?_drop→SG,take_sublist→SN,idxOf_lt_length_iff→SO,getLast?_cons_cons→SY,mem_reverse→S5,getElem?_set_self→S6,range_succ_eq_map→S8,filter_eq_nil_iff→S9,map_nil→Tc,length_set→Td,count_cons→Te,perm_append_comm→Tf,getElem?_toArray→Tj,zip→Tp,getElem?_set_ne→Tq,reverse_reverse→Ts,mem_iff_getElem→Tt,length_eraseIdx→Tu,mem_of_getLast?→Tv,take_zero→Tx,perm_iff_count→TB,flatMap_append→TC,filter_eq_self→TF,mem_map_of_mem→TH,map_eq_nil_iff→TK,length_pos_iff→TL,mem_filterMap→TM,getD→TN,getElem_idxOf→TQ,count_append→T1,getElem?_set→T5,getElem_drop→Ub,map_set→Uh,map_id'→Ul,cons_append→Uq,perm_middle→Uv,mem_flatMap→Uw,map_snd_zip→Ux,length_nil→UB,foldl→UG,all_cons→UH,map_id→UM
open Nat renaming le_refl→O5,ne_of_lt→PH,le_trans→PK,zero_le→Qb,lt_of_lt_of_le→Qf,le_of_lt→Qx,sub_self→QE,le_succ→QO,not_lt_zero→QU,ne_of_gt→Q3,lt_of_le_of_lt→Q7,lt_irrefl→Rh,strongRecOn→Rz,lt_succ_of_lt→RG,lt_trichotomy→RH,lt_or_gt_of_ne→RY,max_eq_right→Sj,le_antisymm→Sv,zero_add→Sy,lt_of_le_of_ne→Sz,succ_pos→SE,lt_of_succ_lt→SU,add_assoc→SX,add_le_add_left→Tz,pos_of_ne_zero→TV,lt_trans→Ug,add_zero→Uj,sub_zero→Uk,succ_le_succ→Us,le_of_not_lt→Ut,succ_ne_self→Uu,lt_succ_self→UA
open PySem.Heap renaming get?_push_of_some→O8,get?_push_size→Pm,lt_size→Pt,get?_update_self→Qz,get?_update_other→QM,size_push→Rj,get?_update_ne→TJ,get?_push_ne→T7,size_update→Uy
open Classical renaming byContradiction→Pa,choose_spec→Sf
open PySem.W renaming Frag→Pc,mg_none_of→Qp,fnOf→QJ,kia_one→QN,kitOne→RK,keepIn→RL,codeIn→RM,KatTups→RZ,methodObj→SK,mg_of→SV,cellsFrom_some→S7,instObj→Tb,lookIn→Tw,kitx_list→TX,kitx_dict→TY,nsIn→Uo,plainGet→Up,OpenLaw→UC,findIn→UD,kIn_of→UE,WalkO→UI
open Option renaming map_eq_some_iff→Pl,map_some→Ry,isSome_iff_exists→SM,bind_eq_some_iff→S0,map_eq_none_iff→Ta,isSome_map→TZ,getD_none→Ur,map→UO
open Int renaming toNat_natCast→Pp,le_refl→QP,le_of_lt→Q5,emod_nonneg→R4,zero_add→Sh,emod_lt_of_pos→SH,not_lt→To,lt_or_eq_of_le→TU,lt_trichotomy→Ua,le_trans→Ui,sub_zero→Um,zero_sub→UK,mul_one→UL
open Bool renaming false_ne_true→Pq,and_eq_true→PY,false_eq_true→Ql,eq_iff_iff→QA,not_eq_true'→Rn,not_true→RF,false_and→RJ,false_or→Sq,true_or→Sx,and_false→SI,or_eq_true→Tg,true_and→TR,not_eq_true→Uz,or_false→UJ
open Array renaming getElem?_eq_getElem→PL,length_toList→PM,getD_eq_getD_getElem?→Qu,getElem?_toList→QQ,getElem?_eq_none→Ru,perm_iff_toList_perm→Sw,forIn_toList→SD,getElem_mem→T6,toList_push→Uc,toList→Ud
open PySem.F renaming plainAttrs_list→Qg,slot_list_append→QH,type_list_append→QI,called_set→QW,slot_dict_setdefault→Rb,args_tuple_add_2→Rk,entry_tuple_add→Rq,plainAttrs_dict→Rr,slot_tuple_add→Rt,slot_dict_getitem→RN,args_dict_setdefault_3→Sg,entry_dict_setdefault→Sk,type_dict_setdefault→Ss,plain_extend_loop→SJ,slot_dict_values→SQ,slot_list_extend→SR,type_list_extend→SS,slot_dict_items→SW,slot_list_index→S3,type_list_index→S4,plain_set_new→Ti
open Prod renaming fst→Qm,snd→Rx,ext→UN
open PyProof.Rows renaming callWith_type1→Qw,callWith_builtin1→Ue
open Iff renaming rfl→UP
open PySem renaming wpAny_bind→UR,Value→UW,wpAny_pure→UY,Addr→U0,Shared→U2,sizeLine→U7,Program→U8,World→Va,wpAny_call_entry→Vc,FuncData→Ve,starEach→Vf,wpAny_newObj_type→Vg,Around→Vh,Heap→Vi,wpAny_holding→Vj,Expr→Vk,Str→Vl,bootBuiltins→Vo,sizeLine_eq→Vp,wpAny_setField_rec→Vq,sysModules→Vr,mainGlobals→Vs,wpAny_dictEntries→Vt,wpAny_setField→Vv,wpAny_loadPart'→Vw,wpAny_field→Vy,wpAny_isInstance→Vz,wpAny_attempt→VC,wpAny_truthy_bool→VD,compareOp→VE,wpAny_typeNameOfWhole_itemiter→VG,Obj→VH,wpAny_typeNameOfWhole_keyiter→VI,wpAny_specialOf→VM,wpAny_rule→VN,codeAny_builtin→VO,firstArgMember→VQ,wpAny_fieldsOf→VR,wpAny_notOrdered_dict→VS,wpAny_typeNameOf_itemiter→VU,wpAny_passesOwn→VV,attributeBase→VW,plainId_quiet→VX,wpAny_typeNameOf_keyiter→VY,wpAny_setEntries_of→VZ,DictEntry→V0,binaryOp→V1,wpAny_dictEpoch→V2,builtinLookup_eq_fast→V3,wpAny_pyIter_slot→V4,wpAny_setState_of→V5,wpAny_mono→V6,IsItemIter→V7,wpAny_askSetting→V8,SetTable→V9,relabel→Wa,assignEach→Wb,wpAny_pyIter_tuple→Wc,call_meets→Wd,Scope→We,sliceBounds→Wf,wpAny_Call_method0_late→Wg,scanBound→Wj,intKind→Wm,wpAny_pyIter_list→Wn,foldedSetIterable→Wo,codeAny→Wq,codeAny_mono→Wr,wpAny_seqItems→Ws,wpAny_newTuple→Wt,wpAny_pyIter_enum→Wu,wpAny_isOneOf_itemiter→Wx,isSubtype_tuple_tuple→Wz,noFill_tuple_add→WB,wpAny_forIn_list→WC,wpAny_standAt→WD,wpAny_newList→WE,Pos→WG,bindArgs→WH,wpAny_pyIter_revIter→WI,wpAny_execs_nil→WJ,typeLookup_type→WK,wpAny_updateSeq→WL,Keyword→WN,call_meetsIn→WQ,tupleKind→WR,wpAny_Call_Name_kw→WT,wpAny_getItem_heap→WU,tupleKind_room_in1→WV,IsEnum→WW,isSubtype_stop→WX,wpAny_letOwnedTupleGo_enum→WY,isSubtype_type→WZ,wpAny_tupleItemsOf→W2,Stmt→W3,keywordEach→W5,wpAny_of_eq→W7,behindInMarks→W8,seq_tuple_add→W9,wpAny_handled→Xa,wpAny_eqBool_int→Xd,swapsWith→Xe,wpAny_Dict_empty→Xf,entryOfKey→Xh,wpAny_Assign_Subscript→Xi,concat_meets→Xj,wpAny_Call_method_late→Xl,closureFor→Xm,letOwnedTupleGo→Xn,size_of_entries→Xo,wpAny_isOneOf_keyiter→Xp,subscripted→Xq,wpAny_throw→Xr,setField→Xs,wpAny_letGo→Xt,codeAny_extend_loopS→Xu,dictSetDefault→Xw,wpAny_updateDictKeys→Xx,entryFor_alias→Xy,relayAll→XB,valueAt→XC,getItem→XD,callerA→XE,eqIsQuiet→XF,pickOrder→XG,wpAny_dictFind_heap→XH,IsItemIterOut→XJ,wpAny_load→XN,wpAny_setItem_heap→XO,typeLookup→XQ,PlainAttrs→XR,call_reversed_list→XS,isInstance→XT,storedH→XU,backToKw→XW,seqIndex_neg→XX,newTuple→XY,raiseNew→XZ,ItemsOf→X0,wpAny_typeOf→X1,wpAny_Call_method→X4,eqIsQuiet_byValue→X5,wpAny_storeSet_of→Yb,fits_of_scanBound→Yc,wpAny_setEpoch_of→Yd,IsEnumOut→Ye,seqIndex_of→Yf,storedH_new→Yg,holding→Yj,BindsTo→Yk,builtinsNs→Ym,GenState→Yn,wpAny_Name→Yp,Result→Yq,NameKind→Yr,typeIs_int→Yt,compEnvC→Yu,entry_at→Yx,entryFor→Yy,IsTupleKey→Yz,checkCount→YA,setsByText→YB,Model→YC,setItem→YF,MeetsIn→YI,ElemsOf→YJ,Env→YK,Drawn→YL,Sem→YM
open PyProof.Rows renaming wpS_bind→Vm,SortSt→Vx,wpS_pure→VB,Keyed→VF,firstMet→VJ,wpS_forRange→Ww,pairsOf→Wy,pendingOf→WS,AllBare→W4,IntsAre→W6,reverseSlice'→Xb,listUpdate_at→Xc,subscriptTail_builtinR→Xk,wpS_reverse→Xv,seqEpoch_at→Xz,args_list_sort→XA,subscriptTail→XI,firstMet_succ→XM,wpS_get→X2,failedOf→X3,plain_sorted→X7,entry_sorted→X8,args_sorted1→X9,pairsOf_size→Ya,kind_sorted→Yh,tuples'→Yl,Subscript_→Ys,wpS_mono→Yv,wpS_modify→Yw,Call_→YD
open Option renaming some→YN
def UU:=@decide_eq_true
def UX:=@if_neg
def UZ:=@if_pos
def U1:=@decide_eq_false
def U4:=@absurd
def U6:=@of_decide_eq_true
def U9:=@decide_eq_true_iff
def Vu:=@if_false
def VA:=@beq_self_eq_true
def VL:=@decide_eq_false_iff_not
def WO:=@if_true
noncomputable section
namespace L2
open PySem PySem.Spec PyProof.Rows
noncomputable abbrev Key:=Sum Int Vl
noncomputable def p7:Key->UW->Bool
 |.inl k,v=>Value.isInt k v
 |.inr x,v=>Value.isStrOf x v
noncomputable def Mm(w:Va):Key->Int
 |.inl k=>hashInt k
 |.inr x=>hashStr w x
theorem bB:∀{k:Key}{v:UW},p7 k v=true->(∃i t,k=Sum.inl i/\v=Value.int i t)\/(∃x t,k=Sum.inr x/\v=Value.str x t)
 |.inl i,v,h=>by
  obtain⟨t,e⟩:=Value.isInt_shape (k:=i) (v:=v) h;exact .inl ⟨i,t,rfl,e⟩
 |.inr x,v,h=>by
  obtain⟨t,e⟩:=Value.isStrOf_shape (x:=x) (v:=v) h;exact .inr ⟨x,t,rfl,e⟩
theorem yC(i:Int)(t:Tok):p7 (.inl i) (.int i t)=true:=by simp[p7,Value.isInt]
theorem yD(x:Vl)(t:Tok):p7 (.inr x) (.str x t)=true:=by simp[p7,Value.isStrOf]
theorem Gp(a b:Int):decide ((Sum.inl a:Key)=Sum.inl b)=(a==b):=by
 by_cases e:a=b
 .subst e;simp
 have h:¬(Sum.inl a:Key)=Sum.inl b:=λq=>e (Sum.inl.inj q);rw[U1 h];exact(beq_eq_false_iff_ne.mpr e).symm
theorem Gq(a b:Vl):decide ((Sum.inr a:Key)=Sum.inr b)=decide (a=b):=by
 by_cases e:a=b
 .subst e;simp
 have h:¬(Sum.inr a:Key)=Sum.inr b:=λq=>e (Sum.inr.inj q);rw[U1 h,U1 e]
theorem Gr(a:Int)(b:Vl):decide ((Sum.inl a:Key)=Sum.inr b)=false:=U1 (λq=>nomatch q)
theorem Gs(a:Vl)(b:Int):decide ((Sum.inr a:Key)=Sum.inl b)=false:=U1 (λq=>nomatch q)
noncomputable def aZ(prog:U8)(w:Va):PySem.KeyKind prog w Key where
 is:=p7
 hash:=Mm w
 inj:=λv a b D B=>by
  rcases bB D with⟨i,t,rfl,rfl⟩|⟨x,t,rfl,rfl⟩
  .rcases bB B with⟨j,u,rfl,e⟩|⟨y,u,rfl,e⟩
   .injection e with e1 _;rw[e1]
   exact nomatch e
  rcases bB B with⟨j,u,rfl,e⟩|⟨y,u,rfl,e⟩
  .exact nomatch e
  injection e with e1 _;rw[e1]
 byValue:=λk v h=>by
  rcases bB h with⟨i,t,rfl,rfl⟩|⟨x,t,rfl,rfl⟩ <;> rfl
 pyHash:=λz h=>by
  rcases bB z with⟨i,t,rfl,rfl⟩|⟨x,t,rfl,rfl⟩
  .exact wpAny_pyHash_int h
  exact wpAny_pyHash_str h
 eqBool:=λH z h=>by
  rcases bB H with⟨i,t,rfl,rfl⟩|⟨x,t,rfl,rfl⟩
  .rcases bB z with⟨j,u,rfl,rfl⟩|⟨y,u,rfl,rfl⟩
   .rw[Gp]at h;exact Xd h
   rw[Gr]at h;exact SeqAt.EqAt.int_str i t y u _ _ _ _ h
  rcases bB z with⟨j,u,rfl,rfl⟩|⟨y,u,rfl,rfl⟩
  .rw[Gs]at h;exact SeqAt.EqAt.str_int x t j u _ _ _ _ h
  rw[Gq]at h;exact wpAny_eqBool_str h
 «strs»:=λk x t v h=>by
  rcases bB h with⟨i,u,rfl,e⟩|⟨y,u,rfl,e⟩
  .exact nomatch e
  injection e with e1 _;subst e1;cases v <;> rfl
theorem ti(prog:U8)(w:Va)(i:Int)(t:Tok):(aZ prog w).is (.inl i) (.int i t)=true:=yC i t
theorem tj(prog:U8)(w:Va)(x:Vl)(t:Tok):(aZ prog w).is (.inr x) (.str x t)=true:=yD x t
inductive V where
 |fF|bl (b:Bool)|int (i:Int)|str (x:Vl)|Al (b:Array UInt8)|Fh (b:UInt64)|ref (a:U0)|ty (n:String)
 deriving DecidableEq
noncomputable def RelV:V->UW->Prop
 |.fF,u=>u=Value.none
 |.bl b,u=>u=Value.bool b
 |.int i,u=>∃t,u=Value.int i t
 |.str x,u=>∃t,u=Value.str x t
 |.Al b,u=>∃t,u=Value.bytes b t
 |.Fh b,u=>∃t,u=Value.float b t
 |.ref a,u=>u=Value.ref a
 |.ty n,u=>u=Value.type n
abbrev Vals:List V->List UW->Prop:=Paired RelV
theorem Vals.length{xs:List V}{z:List UW}(r:Vals xs z):xs.length=z.length:=Paired.length r
theorem Vals.get:∀{xs:List V}{z:List UW}{i:Nat}{x:V},Vals xs z->xs[i]?=YN x->∃u,z[i]?=YN u/\RelV x u
 |_,_,_,_,.nil,e=>by simp at e
 |_,_,0,_,.cons r _,e=>by simp at e;subst e;exact⟨_,rfl,r⟩
 |_,_,i+1,x,.cons _ t,e=>by
  obtain⟨u,B,D⟩:=Vals.get (i:=i) (x:=x) t (by simpa using e);exact⟨u,by simpa using B,D⟩
theorem Vals.set{x:V}{u:UW}(r:RelV x u):∀{xs:List V}{z:List UW} (i:Nat),Vals xs z->Vals (xs.set i x) (z.set i u)
 |_,_,_,.nil=>.nil
 |_,_,0,.cons _ t=>.cons r t
 |_,_,i+1,.cons q t=>.cons q (Vals.set r i t)
theorem Vals.append:∀{xs ys:List V}{z B:List UW},Vals xs z->Vals ys B->Vals (xs++ys) (z++B)
 |_,_,_,_,.nil,s=>s
 |_,_,_,_,.cons r t,s=>.cons r (Vals.append t s)
theorem Vals.take:∀{xs:List V}{z:List UW} (n:Nat),Vals xs z->Vals (xs.take n) (z.take n)
 |_,_,0,_=>.nil
 |_,_,_+1,.nil=>.nil
 |_,_,n+1,.cons r t=>.cons r (Vals.take n t)
theorem Vals.drop:∀{xs:List V}{z:List UW} (n:Nat),Vals xs z->Vals (xs.drop n) (z.drop n)
 |_,_,0,r=>r
 |_,_,_+1,.nil=>.nil
 |_,_,n+1,.cons _ t=>Vals.drop n t
noncomputable def j7:Option V->Option UW->Prop
 |some v,YN u=>RelV v u
 |none,none=>True
 |_,_=>False
def KV{κ:Type}:List (κ×V)->List (κ×UW)->Prop:=Paired λ(p:κ×V) (q:κ×UW)=>p.1=q.1/\RelV p.2 q.2
noncomputable def kV:Key->V
 |.inl i=>.int i
 |.inr x=>.str x
inductive HO where
 |lst (xs:List V)
 |tup (xs:List V)
 |dK (kvs:List (Key×V))|dT (kvs:List (List Key×V))
 |set (S:Int->Bool) (n:Nat)
 |ins (C dx:U0) (fs:List (Vl×V))
 |own (x:U0)
 |xd (fs:List (Vl×V))
 |met (f x:U0)
 |j4 (lo hi:Int)
 |gQ (o:VH) (u:HO)
 |Gu (ps:Array UW)
 |ext (φ:Vi->Prop)
noncomputable abbrev Hp:=U0->Option HO
noncomputable def upd(H:Hp)(a:U0)(o:HO):Hp:=λb=>if b=a then some o else H b
theorem ag{H:Hp}{a:U0}{o:HO}:upd H a o a=YN o:=by unfold upd;rw[UZ rfl]
theorem au{H:Hp}{a b:U0}{o:HO}(h:b≠a):upd H a o b=H b:=by unfold upd;rw[UX h]
theorem Am{H:Hp}{a b:U0}{o u:HO}(h:H a=YN o)(h':H b=YN u)(d:o≠u):a≠b:=by
 intro e;subst e;rw[h]at h';exact d (Option.some.inj h')
theorem aO{H:Hp}{a b:U0}{o:HO}(h:H a=YN o)(h':H b=none):a≠b:=by
 intro e;subst e;rw[h]at h';cases h'
section
variable (P:U8)(w:Va)
noncomputable def bq(H:Hp)(h:Vi)(a:U0): HO->Prop
  |.lst xs=>xs.length<=U7/\∃(its:List UW) (n:Nat),Vals xs its/\h.get? a=YN { cls := .type "list", data := .seq its.toArray n }
  |.tup xs=>xs.length<=U7/\∃its:List UW,Vals xs its/\IsTup h a its.toArray
  |.dK kvs=>kvs.length<=U7/\(a==Vr)=false/\∃vs,KV kvs vs/\h.DictOf (aZ P w) a vs
  | .dT kvs => kvs.length <= U7 /\ (a == Vr)=false /\ ∃ xs : List (List Key × U0 × UW),
      Paired (λ(p:List Key×V) (q:List Key×U0×UW)=>p.1=q.1/\H q.2.1=YN (.tup (p.1.map kV))/\RelV p.2 q.2.2) kvs xs /\
      ∃o D ep,h.get? a=YN o/\o.ExactDict/\o.data=.dict D ep/\D.toList=xs.map (Xh (WR (aZ P w)))/\(xs.map (·.1)).Nodup
  |.set S n=>h.SetOf (Wm P w) a S n
  | .ins C B fs => H B=YN (.own a) /\ fs.length <= 1000 /\ B ≠ a /\ h.get? a=YN (Tb C B) /\
      ∃z,h.Ns1 B z/\(∀f,j7 (fs.lookup f) (z f))/\PySem.Within z (fs.map (·.1))
  |.own _=>∃o,h.get? a=YN o
  |.xd fs=>∃z,h.Ns1 a z/\∀f,j7 (fs.lookup f) (z f)
  |.j4 lo hi=>∃t u v,h.get? a=YN { cls := .type "range", data := .fields #[.int lo t,.int hi u,.int 1 v] }
  |.gQ o u=>h.get? a=YN o/\bq H h a u
  |.Gu ps=>h.get? a=YN { cls := .none,data := .fields ps }
  |.met f x=>h.get? a=YN (SK (.ref f) (.ref x))
  |.ext φ=>φ h/\(∃o,h.get? a=YN o)/\∀J L:Vi,φ J->(∀o,J.get? a=YN o->L.get? a=YN o)->φ L
def iG(H:Hp)(h:Vi):Prop:=∀a o,H a=YN o->bq P w H h a o
end
section
variable {P:U8}{w:Va}{H H':Hp}{h h':Vi}{a:U0}{o:HO}
theorem bq.lt(x:bq P w H h a o):a<h.objs.size:=by
 cases o with
 |lst xs=>obtain⟨_,_,_,_,e⟩:=x;exact Pt e
 |tup xs=>obtain⟨_,_,_,p⟩:=x;exact p.lt
 |dK kvs=>obtain⟨_,_,_,_,o,_,_,e,_⟩:=x;exact Pt e
 |dT kvs=>obtain⟨_,_,_,_,o,_,_,e,_⟩:=x;exact Pt e
 |set S n=>obtain⟨o,_,_,_,e,_⟩:=x;exact Pt e
 |ins C z fs=>obtain⟨_,_,_,e,_⟩:=x;exact Pt e
 |own y=>obtain⟨_,e⟩:=x;exact Pt e
 |xd fs=>obtain⟨_,⟨_,_,_,e,_⟩,_⟩:=x;exact Pt e
 |j4 lo hi=>obtain⟨_,_,_,e⟩:=x;exact Pt e
 |gQ B u=>obtain⟨e,_⟩:=x;exact Pt e
 |Gu ps=>exact Pt (show h.get? a=YN _ from x)
 |met f y=>exact Pt (show h.get? a=YN _ from x)
 |ext φ=>obtain⟨_,⟨_,e⟩,_⟩:=x;exact Pt e
theorem Paired.q9{α β:Type}{F G:α->β->Prop}:∀{l₁:List α}{l₂:List β},Paired F l₁ l₂->(∀a b,F a b->G a b)->Paired G l₁ l₂
 |_,_,.nil,_=>.nil
 |_,_,.cons r t,f=>.cons (f _ _ r) (Paired.q9 t f)
theorem bq.rd(x:bq P w H h a o)(k:∀b u,(b=a\/H b=YN (.own a))->h.get? b=YN u->h'.get? b=YN u)
  (M:∀b,H b=YN (.own a)->H' b=YN (.own a)) (O:∀b xs,H b=YN (.tup xs)->H' b=YN (.tup xs)):bq P w H' h' a o:=by
 induction o with
 |lst xs=>obtain⟨z,its,n,r,e⟩:=x;exact⟨z,its,n,r,k _ _ (.inl rfl) e⟩
 |tup xs=>obtain⟨z,its,r,B,e,c⟩:=x;exact⟨z,its,r,B,k _ _ (.inl rfl) e,c⟩
 |dK kvs=>obtain⟨z,y,vs,r,B,D,ep,e,c⟩:=x;exact⟨z,y,vs,r,B,D,ep,k _ _ (.inl rfl) e,c⟩
 |dT kvs =>
  obtain⟨z,y,xs,r,B,D,ep,e,c⟩:=x;exact⟨z,y,xs,Paired.q9 r λp q z=>⟨z.1,O _ _ z.2.1,z.2.2⟩,B,D,ep,k _ _ (.inl rfl) e,c⟩
 |set S n=>obtain⟨B,D,ep,t,e,c⟩:=x;exact⟨B,D,ep,t,k _ _ (.inl rfl) e,c⟩
 |ins C Z fs =>
  obtain⟨d,z,ne,e,J,⟨L,D,ep,e2,c⟩,r⟩:=x;exact⟨M _ d,z,ne,k _ _ (.inl rfl) e,J,⟨L,D,ep,k _ _ (.inr d) e2,c⟩,r⟩
 |own y=>obtain⟨B,e⟩:=x;exact⟨B,k _ _ (.inl rfl) e⟩
 |xd fs=>obtain⟨J,⟨L,D,ep,e,c⟩,r⟩:=x;exact⟨J,⟨L,D,ep,k _ _ (.inl rfl) e,c⟩,r⟩
 |j4 lo hi=>obtain⟨t,u,v,e⟩:=x;exact⟨t,u,v,k _ _ (.inl rfl) e⟩
 |gQ B u V=>obtain⟨e,q⟩:=x;exact⟨k _ _ (.inl rfl) e,V q⟩
 |Gu ps =>
  have e:h.get? a=YN { cls:=.none,data:=.fields ps }:=x;show h'.get? a=YN { cls:=.none,data:=.fields ps };exact k a _ (.inl rfl) e
 |met f y =>
  have e:h.get? a=YN (SK (.ref f) (.ref y)):=x;show h'.get? a=YN (SK (.ref f) (.ref y));exact k a _ (.inl rfl) e
 |ext φ=>obtain⟨p,⟨o,e⟩,st⟩:=x;exact⟨st _ _ p λo q=>k _ _ (.inl rfl) q,⟨o,k _ _ (.inl rfl) e⟩,st⟩
theorem iG.lt(x:iG P w H h)(e:H a=YN o):a<h.objs.size:=(x a o e).lt
theorem iG.fresh(x:iG P w H h)(e:h.objs.size<=a):H a=none:=by
 cases q:H a with
 |none=>rfl
 |some u=>exact U4 (Qf (x.lt q) e) (Rh _)
theorem iG.kept(x:iG P w H h)(k:∀b u,h.get? b=YN u->h'.get? b=YN u):iG P w H h':=λa o e =>
 (x a o e).rd (λb u _ q=>k b u q) (λ_ q=>q) λ_ _ q=>q
theorem iG.laid(x:iG P w H h)(k:∀b u,h.get? b=YN u->h'.get? b=YN u)(D:h.objs.size<=a)(new:bq P w (upd H a o) h' a o):iG P w (upd H a o) h':=λb u e=>by
 have z:=x.fresh D;by_cases B:b=a
 .subst B;rw[ag]at e;cases e;exact new
 rw[au B]at e;exact(x b u e).rd (λc v _ q=>k c v q) (λc q=>by rw[au (aO q z)];exact q) λc xs q=>by rw[au (aO q z)];exact q
end
def Rd(H:Hp)(a:U0)(u:HO):Prop:=H a=YN u\/∃o,H a=YN (.gQ o u)
theorem Rd.ok{P:U8}{w:Va}{H:Hp}{h:Vi}{a:U0}{u:HO}(r:Rd H a u)(x:iG P w H h):bq P w H h a u:=by
 rcases r with r|⟨o,r⟩
 .exact x a u r
 obtain⟨_,q⟩:=x a _ r;exact q
noncomputable def Gv:Option HO->Prop
 |some (.lst _)=>True
 |some (.dK _)=>True
 |some (.dT _)=>True
 |some (.set _ _)=>True
 |some (.ins _ _ _)=>True
 |some (.ext _)=>True
 |_=>False
section
variable {P:U8}{w:Va}{H:Hp}{h h':Vi}{x e:U0}{o':HO}
theorem iG.write(ok:iG P w H h)(L:Gv (H x))(Z:e=x\/H e=YN (.own x))(k:∀b u,b≠e->h.get? b=YN u->h'.get? b=YN u)(V:∃u,h'.get? e=YN u)
  (new:bq P w (upd H x o') h' x o'):iG P w (upd H x o') h':=λb u q=>by
 have D:∀c y,H c=YN (.own y)->c≠x:=λc y r z=>by subst z;rw[r]at L;exact L
 have J:∀c xs,H c=YN (.tup xs)->c≠x:=λc xs r z=>by subst z;rw[r]at L;exact L
 by_cases M:b=x
 .subst M;rw[ag]at q;cases q;exact new
 rw[au M]at q;by_cases B:b=e
 .have q':H b=YN (.own x):=by
   rcases Z with z|z
   .exact U4 (B.trans z) M
   rw[B];exact z
  rw[q]at q';cases q';obtain⟨v,hv⟩:=V;exact⟨v,by rw[B];exact hv⟩
 refine(ok b u q).rd (λc v O r=>k c v ?_ r) (λc r=>by rw[au (D c b r)];exact r) λc xs r=>by rw[au (J c xs r)];exact r
 rcases O with rfl|O
 .exact B
 rintro rfl;rcases Z with z|z
 .exact D c b O z
 rw[O]at z;cases z;exact M rfl
end
structure Un(fs ex:List U0) (H H':Hp) (h h':Vi):Prop where
 keep:∀b o,h.get? b=YN o->H b=none->b∉fs->b∉ex->h'.get? b=YN o
 slot:∀b o,h.get? b=YN o->H b=none->b∈fs->b∉ex->∃sl,h'.get? b=YN { o with slots:=sl }
 free:∀b o,h.get? b=YN o->H b=none->b∉ex->H' b=none
 there:∀b o,h.get? b=YN o->b∉ex->∃o',h'.get? b=YN o'
 rf:∀b xs,H b=YN (.tup xs)->H' b=YN (.tup xs)
 pC:∀b o u,H b=YN (.gQ o u)->H' b=YN (.gQ o u)
 rh:∀b ps,H b=YN (.Gu ps)->∃more,H' b=YN (.Gu (ps++more))
section
variable {fs fs' ex ex':List U0}{H H1 H2:Hp}{h Z h2 h':Vi}{a x e:U0}{o:HO}
theorem Un.any(u:Un fs ex H H1 h Z){b:U0}{z:VH}(q:h.get? b=YN z)(n:H b=none)(B:b∉ex):∃J,Z.get? b=YN { z with slots:=J }:=by
 by_cases D:b∈fs
 .exact u.slot b z q n D B
 exact⟨z.slots,u.keep b z q n D B⟩
theorem Un.kept(k:∀b u,h.get? b=YN u->h'.get? b=YN u):Un fs ex H H h h' :=
 ⟨λb z q _ _ _=>k b z q,λb z q _ _ _=>⟨z.slots,k b z q⟩,λ_ _ _ n _=>n,λb z q _=>⟨z,k b z q⟩,λ_ _ q=>q,λ_ _ _ q=>q,λ_ ps q=>⟨#[],by rw[q];simp⟩⟩
theorem Un.refl:Un fs ex H H h h:=Un.kept λ_ _ q=>q
theorem Un.laid(k:∀b u,h.get? b=YN u->h'.get? b=YN u)(B:h.objs.size<=a)(z:H a=none):Un fs ex H (upd H a o) h h' where
 keep:=λb u q _ _ _=>k b u q
 slot:=λb u q _ _ _=>⟨u.slots,k b u q⟩
 free:=λb u q n _=>by rw[au (PH (Qf (Pt q) B))];exact n
 there:=λb u q _=>⟨u,k b u q⟩
 rf:=λb xs q=>by rw[au (aO q z)];exact q
 pC:=λb u xs q=>by rw[au (aO q z)];exact q
 rh:=λb ps q=>⟨#[],by rw[au (aO q z),q];simp⟩
theorem Un.write(D:Gv (H x))(V:e=x\/H e=YN (.own x))(k:∀b u,b≠e->h.get? b=YN u->h'.get? b=YN u)(J:∃u,h'.get? e=YN u):Un fs ex H (upd H x o) h h':=by
 have M:∀b,H b=none->b≠x:=λb n z=>by subst z;rw[n]at D;exact D
 have O:∀b,H b=none->b≠e:=λb n z=>by
  subst z;rcases V with r|r
  .exact M b n r
  rw[n]at r;cases r
 have L:∀b u,H b=YN u->¬Gv (YN u)->b≠x:=λb u q nm z=>by subst z;rw[q]at D;exact nm D
 refine⟨λb u q n _ _=>k b u (O b n) q,λb u q n _ _=>⟨u.slots,k b u (O b n) q⟩,λb u q n _=>by rw[au (M b n)];exact n,λb u q _=>?_,
  λb xs q=>by rw[au (L b _ q λz=>z)];exact q,λb u xs q=>by rw[au (L b _ q λz=>z)];exact q,λb ps q=>⟨#[],by rw[au (L b _ q λz=>z),q];simp⟩⟩
 by_cases B:b=e
 .subst B;exact J
 exact⟨u,k b u B q⟩
end
noncomputable def tq(h:Vi)(H:Hp):List Addr:=(PX h.objs.size).filter λa=>(H a).isSome
noncomputable def rj(h:Vi)(H:Hp):Heap:=PySem.W.hideAll h (tq h H)
theorem yE(h:Vi)(H:Hp):(rj h H).objs.size=h.objs.size:=PySem.W.hideAll_size _ _
theorem An{h:Vi}{H:Hp}{b:U0}{o:VH}(e:h.get? b=YN o)(n:H b=none):(rj h H).get? b=YN o :=
 PySem.W.hideAll_get _ e λz=>by
  have q:(H b).isSome=true:=(Pd.mp z).2;rw[n]at q;simp at q
theorem Dq{h:Vi}{H:Hp}{b:U0}{o:VH}(e:(rj h H).get? b=YN o):h.get? b=YN o/\H b=none:=by
 have B:h.get? b=YN o:=PySem.W.of_hideAll (tq h H) e;refine⟨B,?_⟩;cases q:H b with
 |none=>rfl
 |some x =>
  have D:b∈tq h H:=Pd.mpr ⟨Px.mpr (Pt B),by simp[q]⟩;have z:(rj h H).get? b=none:=PySem.W.hideAll_none (tq h H) D;rw[z]at e;cases e
structure Mod(K:Pc) (mg:Vl->Option UW) (base:Vi):Prop where
 kin:K.In base
 glob:base.Ns Vs mg
 blt:∃mb,base.Ns Ym mb/\∀x:Vl,x≠"__name__"->mb x=Vo x
 nolimit:base.NoLimit
/-- the context: a Je body (or a iH block) running. base: fixed through the whole law; s₀, H₀: the entry; outer: the frames Jf slots others may change (a Je Lx); stack: all frames Dr run;
   ex: Iz Dr Mn made ahead of the entry and are walked here (a iH); fn: the names Jf cells Mn made at the entry (a def: all; a iH block: its own); calm: not within an except aap; pn: pins Dr aaq state bears; xe: aci is wanted of an exception Dr Mo the code -/
structure Cx where
 prog:U8
 w:Va
 K:Pc
 mg:Vl->Option UW
 base:Vi
 A:Vh
 N:List Vl
 s₀:U2
 H₀:Hp
 env:YK
 outer:List YK
 stack:List YK
 ex:List U0
 fn:Vl->Bool
 calm:Bool
 pn:List (U0×VH)
 xe:UW->U2->Prop
noncomputable def Ac(l:List YK):List Addr:=l.filterMap (·.frame)
noncomputable abbrev Cx.fs(X:Cx):List Addr:=Ac X.outer
def Mp(z:We)(x:Vl):Prop:=z.names.lookup x=YN .local\/z.names.lookup x=YN .cell\/z.names.lookup x=YN .free
def Loc(z:We)(x:Vl):Prop:=z.names.lookup x=YN .local\/z.names.lookup x=YN .cell
def Look(env:YK)(h:Vi)(m:Vl->Option UW)(x:Vl)(u:UW):Prop :=
 (env.kindOf x=YN .local/\m x=YN u)\/((env.kindOf x=YN .cell\/env.kindOf x=YN .free)/\∃c,env.cells.lookup x=YN c/\h.IsCell c (YN u))
structure Cx.Ok(X:Cx):Prop where
 mod:Mod X.K X.mg X.base
 kind:X.env.scope.kind=.function
 glob:X.env.globals=Vs
 blt:X.env.builtins=Ym
 above:X.s₀.heap.objs.size<=X.env.locals
 inj:∀x y c,X.env.cells.lookup x=YN c->X.env.cells.lookup y=YN c->x=y
 has:∀x,(X.env.kindOf x=YN .cell\/X.env.kindOf x=YN .free)->∃c,X.env.cells.lookup x=YN c
 Jg:∀x c,X.fn x=true->X.env.cells.lookup x=YN c->X.s₀.heap.objs.size<=c
 hd:X.calm=true->X.A.handled=none
 frames:X.A.frames=YN X.stack
 Ly:X.stack=X.outer\/(X.stack=X.env::X.outer/\X.env.frame=YN X.env.locals)
 exf:∀b∈X.ex,b≠X.env.locals/\∀x c,X.env.cells.lookup x=YN c->c≠b
 bs:∀b o,X.base.get? b=YN o->X.s₀.heap.get? b=YN o/\X.H₀ b=none
 Fi:X.base.objs.size<=X.s₀.heap.objs.size
 Ao:∀b o,X.base.get? b=YN o->b∉X.ex
 Ds:∀b∈X.ex,b∉X.fs
 nN:X.s₀.heap.FunFrames X.base X.outer
 IA:∀b∈X.fs,X.H₀ b=none
structure Inv(X:Cx) (pins:List (U0×VH)) (σ:List (Option V)) (H:Hp) (s:U2):Prop where
 ok:X.Ok
 os:s.os=X.s₀.os
 bare:W4 s.gens
 base:Un X.fs X.ex X.H₀ H X.s₀.heap s.heap
 loc:∃m,s.heap.Ns X.env.locals m/\∀(i:Nat) (x:Vl) (v:V),X.N[i]?=YN x->σ[i]?=YN (YN v)->Mp X.env.scope x->∃u,RelV v u/\Look X.env s.heap m x u
 cell:∀x c,X.env.cells.lookup x=YN c->∃v,s.heap.IsCell c v
 free:H X.env.locals=none
 iL:∀x c,X.env.cells.lookup x=YN c->H c=none
 pin:∀p∈X.pn++pins,s.heap.get? p.1=YN p.2/\H p.1=none/\p.1≠X.env.locals/\p.1∉X.fs/\∀v,p.2.data≠.cell v
 bj:iG X.prog X.w H s.heap
 len:σ.length=X.N.length
section
variable {X:Cx}{pins:List (U0×VH)}{σ:List (Option V)}{H H':Hp}{s:U2}{h':Vi}
theorem Cx.Ok.Mq(ok:X.Ok){b:U0}{o:VH}(e:X.base.get? b=YN o):b∉X.fs:=λz=>by
 have:=(ok.nN.mem z).1;rw[e]at this;cases this
theorem Inv.bs(I:Inv X pins σ H s):∀b o,X.base.get? b=YN o->s.heap.get? b=YN o/\H b=none:=λb o e =>
 ⟨I.base.keep b o (I.ok.bs b o e).1 (I.ok.bs b o e).2 (I.ok.Mq e) (I.ok.Ao b o e),I.base.free b o (I.ok.bs b o e).1 (I.ok.bs b o e).2 (I.ok.Ao b o e)⟩
theorem Inv.bk(I:Inv X pins σ H s):∀b o,X.base.get? b=YN o->s.heap.get? b=YN o:=λb o e=>(I.bs b o e).1
theorem Inv.mod(I:Inv X pins σ H s):Mod X.K X.mg X.base:=I.ok.mod
theorem Inv.tr(I:Inv X pins σ H s):X.K.In s.heap:=I.ok.mod.kin.keeps I.bk
theorem Inv.lt(I:Inv X pins σ H s):X.env.locals<s.heap.objs.size:=let⟨_,z,_⟩:=I.loc;z.lt
theorem Inv.sz(I:Inv X pins σ H s):X.s₀.heap.objs.size<=s.heap.objs.size:=PK I.ok.above (Qx I.lt)
theorem Inv.Mr(I:Inv X pins σ H s){a:U0}(h:s.heap.objs.size<=a):a∉X.fs:=λz=>by
 obtain⟨_,o,B,_⟩:=I.ok.nN.mem z;exact U4 (Qf (Pt B) (PK I.sz h)) (Rh _)
theorem Inv.Ap(I:Inv X pins σ H s):∀x c,X.env.cells.lookup x=YN c->c≠X.env.locals:=λx c e z=>by
 obtain⟨v,o,J,hd⟩:=I.cell x c e;obtain⟨m,⟨L,M,ep,B,D,_⟩,_⟩:=I.loc;rw[z,B]at J;cases J;rw[D]at hd;cases hd
theorem Inv.nN(I:Inv X pins σ H s):s.heap.FunFrames X.base X.outer:=by
 have all:∀(l:List YK),(∀b∈Ac l,b∈X.fs)->X.s₀.heap.FunFrames X.base l->s.heap.FunFrames X.base l:=by
  intro l
  induction l with
  |nil=>intro _ _;trivial
  |cons env r O =>
   intro M V;obtain⟨Z,⟨L,o,B,hn,ho,hd⟩,hr⟩:=V;have D:L∈X.fs:=M L (by unfold Ac;rw[RS,B];exact Pb);obtain⟨sl,e⟩:=I.base.slot L o ho (I.ok.IA L D) D λz=>I.ok.Ds L z D;exact⟨Z,⟨L,_,B,hn,e,hd⟩,O (λb J=>M b (by unfold Ac;rw[RS,B];exact Pn _ J)) hr⟩
 exact all X.outer (λ_ J=>J) I.ok.nN
theorem Inv.stack(I:Inv X pins σ H s):s.heap.FunFrames X.base X.stack:=by
 rcases I.ok.Ly with e|⟨e,z⟩
 .rw[e];exact I.nN
 rw[e];obtain⟨m,B,_⟩:=I.loc;refine .cons (by rw[I.ok.kind];decide) z B ?_ I.nN;exact Heap.get?_none_of_le (PK I.ok.Fi I.ok.above)
theorem Inv.rm(I:Inv X pins σ H s):∀b∈Ac X.stack,b∈X.env.locals::X.fs:=λb z=>by
 rcases I.ok.Ly with e|⟨e,B⟩
 .rw[e]at z;exact Pn _ z
 rw[e]at z;unfold Ac at z;rw[RS,B]at z;exact z
theorem Inv.w5(I:Inv X pins σ H s):∀b∈Ac X.stack,H b=none:=λb B=>by
 rcases Pu.mp (I.rm b B)with e|B
 .rw[e];exact I.free
 obtain⟨_,o,D,_⟩:=I.ok.nN.mem B;exact I.base.free b o D (I.ok.IA b B) λz=>I.ok.Ds b z B
theorem Inv.step{g':Array Yn}{t':Nat}{d':YL}{ch:List U0}(I:Inv X pins σ H s)
  (D:∀b∈ch,(b∈X.ex\/X.s₀.heap.objs.size<=b)/\b≠X.env.locals/\(∀x c,X.env.cells.lookup x=YN c->c≠b)/\∀p∈X.pn++pins,p.1≠b)
  (keep:∀b o,b≠X.env.locals->b∉X.fs->b∉ch->s.heap.get? b=YN o->H b=none->h'.get? b=YN o)
  (slot:∀b o,b≠X.env.locals->b∈X.fs->b∉ch->s.heap.get? b=YN o->H b=none->∃sl,h'.get? b=YN { o with slots:=sl }) (free:∀b o,b∉ch->s.heap.get? b=YN o->H b=none->H' b=none)
  (there:∀b o,b∉ch->s.heap.get? b=YN o->∃V,h'.get? b=YN V)
  (rf:∀b xs,H b=YN (.tup xs)->H' b=YN (.tup xs)) (pC:∀b o u,H b=YN (.gQ o u)->H' b=YN (.gQ o u)) (rh:∀b ps,H b=YN (.Gu ps)->∃more,H' b=YN (.Gu (ps++more)))
  (ns:∀m,s.heap.Ns X.env.locals m->h'.Ns X.env.locals m) (bj:iG X.prog X.w H' h') (hg:W4 g') :
  Inv X pins σ H' { s with heap:=h',gens:=g',drawn:=d',toks:=t' }:=by
 have Z:∀b o,X.s₀.heap.get? b=YN o->b≠X.env.locals:=λb o e=>PH (Qf (Pt e) I.ok.above);have L:∀b o,X.s₀.heap.get? b=YN o->b∉X.ex->b∉ch:=λb o e B M=>by
  rcases(D b M).1 with z|z
  .exact B z
  exact U4 (Qf (Pt e) z) (Rh _)
 have cellK:∀x c,X.env.cells.lookup x=YN c->∀v,s.heap.IsCell c v->h'.IsCell c v:=λx c e v ⟨o,O,hd⟩=>by
  have J:c∉ch:=λz=>(D c z).2.2.1 x c e rfl;by_cases hc:c∈X.fs
  .obtain⟨sl,q⟩:=slot c o (I.Ap x c e) hc J O (I.iL x c e);exact⟨_,q,hd⟩
  exact⟨o,keep c o (I.Ap x c e) hc J O (I.iL x c e),hd⟩
 refine⟨I.ok,I.os,hg,⟨λb o e n M B=>?_,λb o e n M B=>?_,λb o e n B=>?_,λb o e B=>?_,λb xs e=>rf b xs (I.base.rf b xs e),λb o xs e=>pC b o xs (I.base.pC b o xs e),λb ps e=>?_⟩,?_,λx c e=>?_,?_,λx c e=>?_,λp hp=>?_,bj,I.len⟩
 .exact keep b o (Z b o e) M (L b o e B) (I.base.keep b o e n M B) (I.base.free b o e n B)
 .obtain⟨sl,e1⟩:=I.base.slot b o e n M B;obtain⟨sl',e2⟩:=slot b _ (Z b o e) M (L b o e B) e1 (I.base.free b o e n B);exact⟨sl',e2⟩
 .obtain⟨V,e1⟩:=I.base.there b o e B;exact free b V (L b o e B) e1 (I.base.free b o e n B)
 .obtain⟨V,e1⟩:=I.base.there b o e B;exact there b V (L b o e B) e1
 .obtain⟨m1,e1⟩:=I.base.rh b ps e;obtain⟨m2,e2⟩:=rh b _ e1;exact⟨m1++m2,by rw[e2,Array.append_assoc]⟩
 .obtain⟨m,hn,hl⟩:=I.loc;refine⟨m,ns m hn,λi x v e1 e2 e3=>?_⟩;obtain⟨u,r,l⟩:=hl i x v e1 e2 e3;refine⟨u,r,?_⟩;rcases l with l|⟨k,c,e,z⟩
  .exact .inl l
  exact .inr ⟨k,c,e,cellK x c e _ z⟩
 .obtain⟨v,z⟩:=I.cell x c e;exact⟨v,cellK x c e v z⟩
 .obtain⟨m,⟨o,_,_,O,_⟩,_⟩:=I.loc;exact free _ o (λz=>(D _ z).2.1 rfl) O I.free
 .obtain⟨v,o,O,hd⟩:=I.cell x c e;exact free c o (λz=>(D c z).2.2.1 x c e rfl) O (I.iL x c e)
 obtain⟨e,n,ne,nf,d⟩:=I.pin p hp;have J:p.1∉ch:=λz=>(D p.1 z).2.2.2 p hp rfl;exact⟨keep p.1 p.2 ne nf J e n,free p.1 p.2 J e n,ne,nf,d⟩
theorem Inv.un{t':Nat}(I:Inv X pins σ H s)(u:Un X.fs [] H H' s.heap h')(bj:iG X.prog X.w H' h'):Inv X pins σ H' { s with heap:=h',toks:=t' }:=by
 obtain⟨m,⟨o,es,ep,M,r⟩,_⟩:=id I.loc;obtain⟨sl,O⟩:=u.any M I.free (by simp);exact I.step (g':=s.gens) (d':=s.drawn) (ch:=[]) (λ_ z=>nomatch z) (λb o _ D _ e n=>u.keep b o e n D (by simp)) (λb o _ D _ e n=>u.slot b o e n D (by simp)) (λb o _ e n=>u.free b o e n (by simp)) (λb o _ e=>u.there b o e (by simp)) u.rf u.pC u.rh (λm' V=>by
  obtain⟨o',J,L,B,Z⟩:=V;rw[M]at B;cases B;exact⟨_,J,L,O,Z⟩) bj I.bare
theorem Inv.call{g':Array Yn}{t':Nat}{d':YL}{ch:List U0}(I:Inv X pins σ H s)(u:Un (Ac X.stack) ch H H' s.heap h')(bj:iG X.prog X.w H' h')(Z:W4 g')
  (D:∀b∈ch,(b∈X.ex\/X.s₀.heap.objs.size<=b)/\b≠X.env.locals/\(∀x c,X.env.cells.lookup x=YN c->c≠b)/\∀p∈X.pn++pins,p.1≠b) :
  Inv X pins σ H' { s with heap:=h',gens:=g',drawn:=d',toks:=t' }:=by
 obtain⟨m,⟨o,es,ep,V,r⟩,_⟩:=id I.loc;obtain⟨sl,L⟩:=u.any V I.free λz=>(D _ z).2.1 rfl;exact I.step (ch:=ch) D (λb o L hb B e n=>u.keep b o e n (λz=>(Pu.mp (I.rm b z)).elim L hb) B) (λb o _ _ B e n=>u.any e n B) (λb o B e n=>u.free b o e n B) (λb o B e=>u.there b o e B) u.rf u.pC u.rh (λm' hm=>by
  obtain⟨o',M,O,J,r'⟩:=hm;rw[V]at J;cases J;exact⟨_,M,O,L,r'⟩) bj Z
theorem Inv.turned{t':Nat}{B:U0}(I:Inv X pins σ H s)(k:∀b o,b≠B->s.heap.get? b=YN o->h'.get? b=YN o)(M:H B=none)(L:B≠X.env.locals)
  (O:B∈X.ex\/X.s₀.heap.objs.size<=B) (V:∀x c,X.env.cells.lookup x=YN c->c≠B) (Z:∀p∈X.pn++pins,p.1≠B):Inv X pins σ H { s with heap:=h',toks:=t' }:=by
 have J:∀b u,H b=YN u->b≠B:=λb u e z=>by rw[z,M]at e;cases e
 refine I.step (g':=s.gens) (d':=s.drawn) (ch:=[B]) (λb hb=>?_) (λb o _ _ D e _=>k b o (λz=>D (by simp[z])) e) (λb o _ _ D e _=>⟨o.slots,k b o (λz=>D (by simp[z])) e⟩) (λ_ _ _ _ n=>n)
  (λb o D e=>⟨o,k b o (λz=>D (by simp[z])) e⟩) (λ_ _ e=>e) (λ_ _ _ e=>e) (λb ps e=>⟨#[],by rw[e];simp⟩) (λm hm=>?_) (λb u e=>?_) I.bare
 .have e:b=B:=by simpa using hb
  subst e;exact⟨O,L,V,Z⟩
 .obtain⟨o,es,ep,ho,r⟩:=hm;exact⟨o,es,ep,k _ o (Ne.symm L) ho,r⟩
 refine(I.bj b u e).rd (λc v D q=>k c v ?_ q) (λ_ q=>q) λ_ _ q=>q;rcases D with z|z
 .rw[z];exact J b u e
 exact J c _ z
theorem Inv.tok(I:Inv X pins σ H s)(t:Nat):Inv X pins σ H { s with toks:=t }:=I.un (h':=s.heap) (t':=t) Un.refl I.bj
theorem Inv.kept{t':Nat}(I:Inv X pins σ H s)(k:∀b u,s.heap.get? b=YN u->h'.get? b=YN u):Inv X pins σ H { s with heap:=h',toks:=t' }:=I.un (Un.kept k) (I.bj.kept k)
theorem Inv.laid {a : U0}{o : HO}{t' : Nat}(I : Inv X pins σ H s)(k : ∀ b u, s.heap.get? b=YN u -> h'.get? b=YN u)(z : s.heap.objs.size <= a)(new : bq X.prog X.w (upd H a o) h' a o) :
    Inv X pins σ (upd H a o) { s with heap:=h',toks:=t' }:= I.un (Un.laid k z (I.bj.fresh z)) (I.bj.laid k z new)
theorem Inv.write {x e : U0}{o : HO}{t' : Nat}(I : Inv X pins σ H s)(B : Gv (H x))(D : e=x \/ H e=YN (.own x))(k : ∀ b u, b ≠ e -> s.heap.get? b=YN u -> h'.get? b=YN u)(z : ∃ u, h'.get? e=YN u)
    (new:bq X.prog X.w (upd H x o) h' x o): Inv X pins σ (upd H x o) { s with heap:=h',toks:=t' }:= I.un (Un.write B D k z) (I.bj.write B D k z new)
theorem Inv.w6{B:List (U0×VH)}(I:Inv X pins σ H s)(h:∀p∈B,s.heap.get? p.1=YN p.2/\H p.1=none/\p.1≠X.env.locals/\p.1∉X.fs/\∀v,p.2.data≠.cell v):Inv X B σ H s :=
 ⟨I.ok,I.os,I.bare,I.base,I.loc,I.cell,I.free,I.iL,λp D=>(Po.mp D).elim (λz=>I.pin p (PR _ z)) (h p),I.bj,I.len⟩
theorem tu{N:List Vl}(z:N.Nodup){i j:Nat}{x:Vl}(a:N[i]?=YN x)(b:N[j]?=YN x):i=j:=by
 obtain⟨B,e1⟩:=O2.mp a;obtain⟨D,e2⟩:=O2.mp b;exact(RQ z).mp (e1.trans e2.symm)
theorem p8{M:YC}{A:Vh}{E:UW->U2->Prop}{i:Nat}{x:Vl}{v:V}{u:UW}{Q:Unit->U2->Prop}(I:Inv X pins σ H s)(hN:X.N.Nodup)(hi:X.N[i]?=YN x)(J:Loc X.env.scope x)(r:RelV v u)
  (h:∀s',Inv X pins (σ.set i (YN v)) H s'->(∃a,Heap.SameBut a s.heap s'.heap/\(a=X.env.locals\/X.env.cells.lookup x=YN a))->Q () s') (hf:X.fn x=true\/X.env.scope.names.lookup x=YN .local:=by first|exact .inl rfl|exact .inr rfl|assumption):wpAny M A (storeName X.env x u) Q E s:=by
 obtain⟨m,hn,hl⟩:=id I.loc;have Ms:(X.env.scope.kind == .class||(X.env.scope.kind == .module&&X.env.locals != X.env.globals))=false:=by rw[I.ok.kind];rfl
 have O:i<σ.length:=by rw[I.len];exact(O2.mp hi).1
 have Ap:=I.Ap;have tracked:∀{a:U0}{h':Vi},(∃o,s.heap.get? a=YN o/\H a=none)->Heap.SameBut a s.heap h'->iG X.prog X.w H h':=λ{a h'} ha B b ob e=>by
  obtain⟨_,_,L⟩:=ha;refine(I.bj b ob e).rd (λc w' D q=>(B.2 c ?_).trans q) (λ_ q=>q) λ_ _ q=>q;rintro rfl;rcases D with rfl|D
  .rw[L]at e;cases e
  rw[L]at D;cases D
 rcases J with Z|Z
 .refine wpAny_storeName_local Z hn (λh' Mt B=>?_) Ms;obtain⟨oL,_,_,hoL,_⟩:=id hn;refine h _ ⟨I.ok,I.os,I.bare,⟨λb o e n hb J=>?_,λb o e n hb J=>?_,I.base.free,λb o e J=>?_,I.base.rf,I.base.pC,I.base.rh⟩,⟨_,Mt,λj y v' e1 e2 e3=>?_⟩,λy c e=>?_,I.free,I.iL,λp hp=>?_,tracked ⟨oL,hoL,I.free⟩ B,by simpa using I.len⟩ ⟨_,B,.inl rfl⟩
  .exact(B.2 b (PH (Qf (Pt e) I.ok.above))).trans (I.base.keep b o e n hb J)
  .obtain⟨sl,e1⟩:=I.base.slot b o e n hb J;exact⟨sl,(B.2 b (PH (Qf (Pt e) I.ok.above))).trans e1⟩
  .obtain⟨o',e1⟩:=I.base.there b o e J;exact⟨o',(B.2 b (PH (Qf (Pt e) I.ok.above))).trans e1⟩
  .by_cases hj:j=i
   .subst hj;rw[hi]at e1;cases e1;rw[S6 O]at e2;cases e2;exact⟨u,r,.inl ⟨Z,by simp⟩⟩
   rw[Tq (Ne.symm hj)]at e2;obtain⟨u',r',q⟩:=hl j y v' e1 e2 e3;refine⟨u',r',?_⟩;rcases q with⟨k,e⟩|⟨k,c,e,z⟩
   .refine .inl ⟨k,?_⟩;have:y≠x:=λe=>hj (tu hN e1 (e▸hi));simp[this,e]
   exact .inr ⟨k,c,e,z.sameBut B (Ap y c e)⟩
  .obtain⟨w',z⟩:=I.cell y c e;exact⟨w',z.sameBut B (Ap y c e)⟩
  obtain⟨e,n,ne,nf,d⟩:=I.pin p hp;exact⟨(B.2 p.1 ne).trans e,n,ne,nf,d⟩
 have Mu:X.fn x=true:=by
  rcases hf with z|z
  .exact z
  rw[z]at Z;cases Z
 obtain⟨c,D⟩:=I.ok.has x (.inl Z);obtain⟨w',z⟩:=I.cell x c D;refine wpAny_storeName_cell I.ok.kind Z D z (λh' hc' B=>?_);obtain⟨oc,hoc,Mv⟩:=id z;refine h { s with heap:=h' } ⟨I.ok,I.os,I.bare,⟨λb o e n hb J=>?_,λb o e n hb J=>?_,I.base.free,λb o e J=>?_,I.base.rf,I.base.pC,I.base.rh⟩,⟨m,hn.sameBut B (Ne.symm (Ap x c D)),λj y v' e1 e2 e3=>?_⟩,λy c' e=>?_,I.free,I.iL,λp hp=>?_,tracked ⟨oc,hoc,I.iL x c D⟩ B,by simpa using I.len⟩ ⟨c,B,.inr D⟩
 .exact(B.2 b (PH (Qf (Pt e) (I.ok.Jg x c Mu D)))).trans (I.base.keep b o e n hb J)
 .obtain⟨sl,e1⟩:=I.base.slot b o e n hb J;exact⟨sl,(B.2 b (PH (Qf (Pt e) (I.ok.Jg x c Mu D)))).trans e1⟩
 .obtain⟨o',e1⟩:=I.base.there b o e J;exact⟨o',(B.2 b (PH (Qf (Pt e) (I.ok.Jg x c Mu D)))).trans e1⟩
 .by_cases hj:j=i
  .subst hj;rw[hi]at e1;cases e1;rw[S6 O]at e2;cases e2;exact⟨u,r,.inr ⟨.inl Z,c,D,hc'⟩⟩
  rw[Tq (Ne.symm hj)]at e2;obtain⟨u',r',q⟩:=hl j y v' e1 e2 e3;refine⟨u',r',?_⟩;rcases q with q|⟨k,c',e,z'⟩
  .exact .inl q
  refine .inr ⟨k,c',e,z'.sameBut B ?_⟩;rintro rfl;exact hj (tu hN e1 (I.ok.inj _ _ _ e D▸hi))
 .by_cases Jh:c'=c
  .subst Jh;exact⟨_,hc'⟩
  obtain⟨w2,z2⟩:=I.cell y c' e;exact⟨w2,z2.sameBut B Jh⟩
 obtain⟨e,n,ne,nf,d⟩:=I.pin p hp;refine⟨(B.2 p.1 ?_).trans e,n,ne,nf,d⟩;intro q;rw[q,hoc]at e;have q':oc=p.2:=Option.some.inj e;exact d w' (by rw[<-q'];exact Mv)
theorem tw{M:YC}{A:Vh}{E:UW->U2->Prop}{i:Nat}{x:Vl}{v:V}{u:UW}{Q:Unit->U2->Prop}(I:Inv X pins σ H s)(z:X.N.Nodup)(hi:X.N[i]?=YN x)(B:Loc X.env.scope x)(r:RelV v u)
  (h:∀s',Inv X pins (σ.set i (YN v)) H s'->Q () s') (D:X.fn x=true\/X.env.scope.names.lookup x=YN .local:=by first|exact .inl rfl|exact .inr rfl|assumption):wpAny M A (storeName X.env x u) Q E s :=
 p8 I z hi B r (λs' J _=>h s' J) D
theorem Inv.Ji{s':U2}{ch:List U0}(I:Inv X pins σ H s)(B:s'.os=s.os)(u:Un (Ac X.stack) ch H H' s.heap s'.heap)(bj:iG X.prog X.w H' s'.heap)(D:W4 s'.gens)
  (z:∀b∈ch,(b∈X.ex\/X.s₀.heap.objs.size<=b)/\b≠X.env.locals/\(∀x c,X.env.cells.lookup x=YN c->c≠b)/\∀p∈X.pn++pins,p.1≠b):Inv X pins σ H' s':=by
 obtain⟨h',g',d',t',J⟩:=s';have e:J=s.os:=B;subst e;exact I.call (g':=g') (t':=t') (d':=d') u bj D z
end
noncomputable abbrev XK:=UW->Option U0->Hp->Prop
noncomputable abbrev St:=List (Option V)
noncomputable abbrev VK:=V->Hp->Prop
noncomputable abbrev TE:=St->Hp->VK->Prop
noncomputable abbrev TT:=St->Hp->(Bool->Hp->Prop)->Prop
noncomputable abbrev TA:=St->Hp->(List V->Hp->Prop)->Prop
structure Ends where
 nx:St->Hp->Prop
 rt:VK
 bk:St->Hp->Prop:=λ_ _=>False
 ct:St->Hp->Prop:=λ_ _=>False
noncomputable abbrev TS:=Ends->St->Hp->Prop
def EP(X:Cx)(pins:List (U0×VH))(σ:St)(Q:VK)(u:UW)(s':U2):Prop:=∃v z,Inv X pins σ z s'/\RelV v u/\Q v z
def TP(X:Cx)(pins:List (U0×VH))(σ:St)(Q:Bool->Hp->Prop)(b:Bool)(s':U2):Prop:=∃z,Inv X pins σ z s'/\Q b z
def AP(X:Cx)(pins:List (U0×VH))(σ:St)(Q:List V->Hp->Prop)(B:List UW)(s':U2):Prop:=∃vs z,Inv X pins σ z s'/\Vals vs B/\Q vs z
def SP(X:Cx)(pins:List (U0×VH))(D:Ends)(f:Flow)(s':U2):Prop :=
 match f with
 |.next=>∃z B,Inv X pins z B s'/\D.nx z B
 |.brk=>∃z B,Inv X pins z B s'/\D.bk z B
 |.cont=>∃z B,Inv X pins z B s'/\D.ct z B
 |.ret u=>∃v z B,Inv X pins z B s'/\RelV v u/\D.rt v B
def PE(X:Cx)(e:Vk)(t:TE):Prop :=
 ∀(pins:List (U0×VH)) (s:U2) (σ:St) (H:Hp) (Q:VK),Inv X pins σ H s->t σ H Q->wpAny (model X.prog X.w) X.A (eval e X.env) (EP X pins σ Q) X.xe s
def PT(X:Cx)(e:Vk)(t:TT):Prop :=
 ∀(pins:List (U0×VH)) (s:U2) (σ:St) (H:Hp) (Q:Bool->Hp->Prop),Inv X pins σ H s->t σ H Q->wpAny (model X.prog X.w) X.A (isTrue e X.env (eval e X.env)) (TP X pins σ Q) X.xe s
def PW(X:Cx)(e:Vk)(t:TT):Prop :=
 ∀(whole:YM UW) (pins:List (U0×VH)) (s:U2) (σ:St) (H:Hp) (Q:Bool->Hp->Prop),Inv X pins σ H s->t σ H Q->wpAny (model X.prog X.w) X.A (isTrue e X.env whole) (TP X pins σ Q) X.xe s
theorem PW.pt{X:Cx}{e:Vk}{t:TT}(h:PW X e t):PT X e t:=h _
def PA(X:Cx)(z:List Vk)(t:TA):Prop :=
 ∀(pos:WG) (pins:List (U0×VH)) (s:U2) (σ:St) (H:Hp) (Q:List V->Hp->Prop),Inv X pins σ H s->t σ H Q->wpAny (model X.prog X.w) X.A (spliced (backTo pos (Vf z X.env))) (AP X pins σ Q) X.xe s
def PS(X:Cx)(st:W3)(t:TS):Prop :=
 ∀(pins:List (U0×VH)) (s:U2) (σ:St) (H:Hp) (D:Ends),Inv X pins σ H s->t D σ H->wpAny (model X.prog X.w) X.A (exec st X.env) (SP X pins D) X.xe s
def sY(X:Cx)(st:List W3)(t:TS):Prop :=
 ∀(pins:List (U0×VH)) (s:U2) (σ:St) (H:Hp) (D:Ends),Inv X pins σ H s->t D σ H->wpAny (model X.prog X.w) X.A (execs st X.env) (SP X pins D) X.xe s
theorem bR{α:Type}{t:YM α}{Q z:α->U2->Prop}{M:YC}{A:Vh}{E:UW->U2->Prop}{s:U2}(h:wpAny M A t Q E s)(B:∀a s,Q a s->z a s):wpAny M A t z E s:=V6 h B λ_ _ x=>x
section
variable {X:Cx}
def Dt(i:Nat):TE:=λσ H Q=>∃v,σ[i]?=YN (YN v)/\Q v H
def tC(v:V):TE:=λ_ H Q=>Q v H
theorem Gw{i:Nat}{x:Vl}{pos:WG}(L:X.N[i]?=YN x)(M:Mp X.env.scope x)(hd:(x==("__debug__":Vl))=false:=by decide)(D:(x==("__classdict__":Vl))=false:=by decide):PE X (.Name x pos) (Dt i):=by
 intro pins s σ H Q I h;obtain⟨v,e,h⟩:=h;obtain⟨m,O,V⟩:=I.loc;obtain⟨u,r,l⟩:=V i x v L e M;have fin:EP X pins σ Q u s:=⟨v,H,I,r,h⟩
 rcases l with⟨B,Z⟩|⟨B,c,J,z⟩
 .exact Yp (wpAny_loadName_local I.ok.kind B O Z fin) hd
 rcases B with B|B
 .exact Yp (wpAny_loadName_cell I.ok.kind B J z fin) hd
 exact Yp (wpAny_loadName_free I.ok.kind B J z fin D) hd
theorem ao{i j pos}:PE X (.Constant (.int i) j pos) (tC (.int i)):=λ_ _ _ H _ I h=>wpAny_Constant_int ⟨.int i,H,I.tok _,⟨_,rfl⟩,h⟩
theorem Aq{b j pos}:PE X (.Constant (.bool b) j pos) (tC (.bl b)):=λ_ _ _ H _ I h=>Constant_bool ⟨.bl b,H,I,rfl,h⟩
theorem vt{j pos}:PE X (.Constant .none j pos) (tC .fF):=λ_ _ _ H _ I h=>Constant_none ⟨.fF,H,I,rfl,h⟩
def Gl(X:Cx)(x:Vl):Prop:=X.env.kindOf x=YN .globalImplicit
theorem Du{E:UW->U2->Prop}{pins:List (U0×VH)}{s:U2}{σ:St}{H:Hp}{x:Vl}{u:UW}{pos:WG}{Q:UW->U2->Prop}(I:Inv X pins σ H s)(z:Gl X x)(B:X.mg x=YN u)(h:Q u s)
  (hd:(x==("__debug__":Vl))=false:=by decide):wpAny (model X.prog X.w) X.A (eval (.Name x pos) X.env) Q E s :=
 Calls.Name_function_global I.ok.kind z (Calls.loadGlobal_global (by rw[I.ok.glob];exact I.mod.glob.keeps I.bk) B h) hd
theorem gH{E:UW->U2->Prop}{pins:List (U0×VH)}{s:U2}{σ:St}{H:Hp}{x:Vl}{u:UW}{pos:WG}{Q:UW->U2->Prop}(I:Inv X pins σ H s)(z:Gl X x)(B:X.mg x=none)(D:Vo x=YN u)(h:Q u s)
  (J:x≠"__name__":=by decide) (hd:(x==("__debug__":Vl))=false:=by decide):wpAny (model X.prog X.w) X.A (eval (.Name x pos) X.env) Q E s:=by
 obtain⟨O,L,M⟩:=I.mod.blt;exact Calls.Name_function_global I.ok.kind z (Calls.loadGlobal_builtin (by rw[I.ok.glob];exact I.mod.glob.keeps I.bk) B (by rw[I.ok.blt];exact L.keeps I.bk) ((M x J).trans D) h) hd
theorem w8{x:Vl}{v:V}{u:UW}{pos:WG}(z:Gl X x)(B:X.mg x=none)(D:Vo x=YN u)(r:RelV v u)(J:x≠"__name__":=by decide)(hd:(x==("__debug__":Vl))=false:=by decide):PE X (.Name x pos) (tC v):=
 λ_ _ _ H _ I h=>gH I z B D ⟨v,H,I,r,h⟩ J hd
variable {a b:Vk}{ta tb:TE}{pos:WG}
def tB(t:TE):TT:=λσ H Q=>t σ H λx z=>∃c,x=.bl c/\Q c z
theorem nO{e:Vk}{t:TE}(h:PE X e t)(z:∀whole,isTrue e X.env whole=(do let v <- whole;standAt e.pos;Yj [v] (truthy v)):=by intro _;rfl):PT X e (tB t):=by
 intro pins s σ H Q I hw;refine isTrue_plain (bR (h pins s σ H _ I hw) λv M ⟨x,B,D,J,L⟩=>?_) (z _);obtain⟨d,rfl,q⟩:=L;cases J;exact VD ⟨B,D,q⟩
variable {tA Lz:TT}{rest:List Vk}
def Mw(t u:TT):TT:=λσ H Q=>t σ H λc z=>if c=true then u σ z Q else Q false z
def tOr(t u:TT):TT:=λσ H Q=>t σ H λc z=>if c=true then Q true z else u σ z Q
def Mx(t:TT):TT:=λσ H Q=>t σ H λc z=>Q (!c) z
theorem eT(z:PT X a tA):PW X (.BoolOp .And [a] pos) tA:=by
 intro wh pins s σ H Q I h;refine isTrue_and (bR (z pins s σ H Q I h) λc B e=>?_);cases c with
 |true=>exact isTrue_and_nil e
 |false=>exact e
theorem vu(z:PT X a tA):PW X (.BoolOp .Or [a] pos) tA:=by
 intro wh pins s σ H Q I h;refine isTrue_or (bR (z pins s σ H Q I h) λc B e=>?_);cases c with
 |false=>exact isTrue_or_nil e
 |true=>exact e
theorem fT(J:PT X a tA)(L:PW X (.BoolOp .And (b::rest) pos) Lz):PW X (.BoolOp .And (a::b::rest) pos) (Mw tA Lz):=by
 intro wh pins s σ H Q I h;refine isTrue_and (bR (J pins s σ H _ I h) λc M ⟨z,B,D⟩=>?_);cases c with
 |true=>exact L wh pins M σ z Q B D
 |false=>exact⟨z,B,D⟩
theorem Ar(J:PT X a tA)(L:PW X (.BoolOp .Or (b::rest) pos) Lz):PW X (.BoolOp .Or (a::b::rest) pos) (tOr tA Lz):=by
 intro wh pins s σ H Q I h;refine isTrue_or (bR (J pins s σ H _ I h) λc M ⟨z,B,D⟩=>?_);cases c with
 |true=>exact⟨z,B,D⟩
 |false=>exact L wh pins M σ z Q B D
theorem As(z:PT X a tA):PT X (.UnaryOp .Not a pos) (Mx tA):=by
 intro pins s σ H Q I h;exact isTrue_not (z pins s σ H (λc B=>Q (!c) B) I h)
def Jj(ta tb:TE):TE:=λσ H Q=>ta σ H λx z=>∃c,x=.bl c/\if c=true then tb σ z Q else Q (.bl false) z
theorem Au{op}{t:TE}(h:PE X a t):PE X (.BoolOp op [a] pos) t:=λpins s σ H Q I hw=>BoolOp_one (h pins s σ H Q I hw)
theorem Av(J:PE X a ta)(L:PE X (.BoolOp .And (b::rest) pos) tb):PE X (.BoolOp .And (a::b::rest) pos) (Jj ta tb):=by
 intro pins s σ H Q I h;refine BoolOp_and (bR (J pins s σ H _ I h) λv M O=>?_);obtain⟨x,B,D,V,z⟩:=O;obtain⟨c,rfl,z⟩:=z;cases V;refine VD ?_;cases c with
 |true=>exact L pins M σ B Q D z
 |false=>exact⟨.bl false,B,D,rfl,z⟩
def tIf(t:TT)(ta tb:TE):TE:=λσ H Q=>t σ H λc z=>if c=true then ta σ z Q else tb σ z Q
theorem iM{c:Vk}(L:PT X c tA)(M:PE X a ta)(O:PE X b tb):PE X (.IfExp c a b pos) (tIf tA ta tb):=by
 intro pins s σ H Q I h;refine wpAny_IfExp (bR (L pins s σ H _ I h) λd z ⟨B,D,J⟩=>?_);cases d with
 |true=>exact M pins z σ B Q D J
 |false=>exact O pins z σ B Q D J
end
def aM(K:Pc)(H:Hp)(a:U0)(xs:List V):Prop :=
 Rd H a (.lst xs) \/
  ∃(o:VH) (its:Array UW) (n:Nat),K.lookup a=YN o/\o.cls=.type "list"/\o.dict=none/\o.data=.seq its n/\its.size<=U7/\Vals xs its.toList
def b0(K:Pc)(H:Hp)(a:U0)(xs:List V):Prop :=
 Rd H a (.tup xs) \/
  ∃(o:VH) (its:Array UW) (n:Nat),K.lookup a=YN o/\o.cls=.type "tuple"/\o.data=.seq its n/\its.size<=U7/\Vals xs its.toList
noncomputable def Mz:UW->Option V
 |.none=>YN .fF
 |.bool b=>YN (.bl b)
 |.int i _=>YN (.int i)
 |.str x _=>YN (.str x)
 |.bytes b _=>YN (.Al b)
 |.float b _=>YN (.Fh b)
 |.ref a=>YN (.ref a)
 |.type n=>YN (.ty n)
 |_=>none
theorem RelV.abs{x:V}{u:UW}(r:RelV x u):Mz u=YN x:=by
 cases x with
 |fF=>cases r;rfl
 |bl _=>cases r;rfl
 |int _=>obtain⟨t,rfl⟩:=r;rfl
 |str _=>obtain⟨t,rfl⟩:=r;rfl
 |Al _=>obtain⟨t,rfl⟩:=r;rfl
 |Fh _=>obtain⟨t,rfl⟩:=r;rfl
 |ref _=>cases r;rfl
 |ty _=>cases r;rfl
theorem RelV.inj{x y:V}{u:UW}(r:RelV x u)(q:RelV y u):x=y:=Option.some.inj (r.abs.symm.trans q.abs)
theorem Vals.inj{xs ys:List V}{z:List UW}(h:Vals xs z)(k:Vals ys z):xs=ys:=by
 induction h generalizing ys with
 |nil=>cases k;rfl
 |cons r t B =>
  cases k with
  |cons D t'=>rw[r.inj D,B t']
section
variable {X:Cx}{pins:List (U0×VH)}{σ:St}{H:Hp}{s:U2}{a:U0}{xs ys:List V}
theorem aM.of{K:Pc}(h:H a=YN (.lst xs)):aM K H a xs:=.inl (.inl h)
theorem b0.of{K:Pc}(h:H a=YN (.tup xs)):b0 K H a xs:=.inl (.inl h)
theorem Inv.list(I:Inv X pins σ H s)(h:aM X.K H a xs):∃its:List UW,Vals xs its/\PlainL s.heap a its.toArray/\xs.length<=sizeLine:=by
 rcases h with h|⟨o,its,n,B,D,hd,J,hz,r⟩
 .obtain⟨z,its,n,r,e⟩:=h.ok I.bj;exact⟨its,r,⟨_,n,e,rfl,rfl,rfl⟩,z⟩
 refine⟨its.toList,r,⟨o,n,I.tr a o B,D,hd,by simpa using J⟩,?_⟩;have e:=r.length;simp only[PM]at e;omega
theorem Inv.tuple(I:Inv X pins σ H s)(h:b0 X.K H a xs):∃its:List UW,Vals xs its/\IsTup s.heap a its.toArray/\xs.length<=sizeLine:=by
 rcases h with h|⟨o,its,n,B,D,J,hz,r⟩
 .obtain⟨z,its,r,p⟩:=h.ok I.bj;exact⟨its,r,p,z⟩
 refine⟨its.toList,r,⟨o,I.tr a o B,D,n,by simpa using J⟩,?_⟩;have e:=r.length;simp only[PM]at e;omega
theorem Inv.tD(I:Inv X pins σ H s)(h:aM X.K H a xs)(h':aM X.K H a ys):xs=ys:=by
 obtain⟨its,r,⟨o,n,e,_,_,d⟩,_⟩:=I.list h;obtain⟨its',B,⟨J,L,z,_,_,d'⟩,_⟩:=I.list h';rw[e]at z;cases z;rw[d]at d';injection d' with D _;have:its=its':=by simpa using congrArg Ud D
 subst this;exact r.inj B
theorem Inv.qc(I:Inv X pins σ H s)(h:b0 X.K H a xs)(h':b0 X.K H a ys):xs=ys:=by
 obtain⟨its,r,⟨o,e,_,n,d⟩,_⟩:=I.tuple h;obtain⟨its',B,⟨J,z,_,L,d'⟩,_⟩:=I.tuple h';rw[e]at z;cases z;rw[d]at d';injection d' with D _;have:its=its':=by simpa using congrArg Ud D
 subst this;exact r.inj B
end
noncomputable abbrev Cx.pD(X:Cx)(E:UW->U2->Prop):Cx:={ X with xe:=E }
noncomputable abbrev Cx.LA(X:Cx):Cx:=X.pD λ_ _=>False
theorem Cx.Ok.pD{X:Cx}(ok:X.Ok)(E:UW->U2->Prop):(X.pD E).Ok :=
 ⟨ok.mod,ok.kind,ok.glob,ok.blt,ok.above,ok.inj,ok.has,ok.Jg,ok.hd,ok.frames,ok.Ly,ok.exf,ok.bs,ok.Fi,ok.Ao,ok.Ds,ok.nN,ok.IA⟩
theorem Cx.Ok.iN{X:Cx}{E:UW->U2->Prop}(ok:(X.pD E).Ok):X.Ok :=
 ⟨ok.mod,ok.kind,ok.glob,ok.blt,ok.above,ok.inj,ok.has,ok.Jg,ok.hd,ok.frames,ok.Ly,ok.exf,ok.bs,ok.Fi,ok.Ao,ok.Ds,ok.nN,ok.IA⟩
section
variable {X:Cx}{pins:List (U0×VH)}{σ:St}{H:Hp}{s:U2}{E:UW->U2->Prop}
theorem Inv.pD(I:Inv X pins σ H s)(E:UW->U2->Prop):Inv (X.pD E) pins σ H s:=⟨I.ok.pD E,I.os,I.bare,I.base,I.loc,I.cell,I.free,I.iL,I.pin,I.bj,I.len⟩
theorem Inv.iN(I:Inv (X.pD E) pins σ H s):Inv X pins σ H s:=⟨I.ok.iN,I.os,I.bare,I.base,I.loc,I.cell,I.free,I.iL,I.pin,I.bj,I.len⟩
theorem SP.iN{D:Ends}{f:Flow}{s':U2}(h:SP (X.pD E) pins D f s'):SP X pins D f s':=by
 cases f with
 |next=>obtain⟨z,B,I,q⟩:=h;exact⟨z,B,I.iN,q⟩
 |brk=>obtain⟨z,B,I,q⟩:=h;exact⟨z,B,I.iN,q⟩
 |cont=>obtain⟨z,B,I,q⟩:=h;exact⟨z,B,I.iN,q⟩
 |ret u=>obtain⟨v,z,B,I,r,q⟩:=h;exact⟨v,z,B,I.iN,r,q⟩
theorem sY.LA{st:List W3}{t:TS}(h:sY X.LA st t):sY X st t:=λpins s σ H D I hw =>
 V6 (h pins s σ H D (I.pD _) hw) (λ_ _ q=>q.iN) λ_ _ z=>False.elim z
end
section
variable {X:Cx}{st:W3}{rest:List W3}{t u:TS}{e:Vk}{te:TE}{pos:WG}
def Jk:TS:=λD σ H=>D.nx σ H
def MA(t u:TS):TS:=λD σ H=>t { D with nx:=u D } σ H
theorem bo:sY X [] Jk:=λ_ _ σ H _ I h=>WJ ⟨σ,H,I,h⟩
theorem ai(B:PS X st t)(J:sY X rest u):sY X (st::rest) (MA t u):=by
 intro pins s σ H D I h;refine wpAny_execs_cons (bR (B pins s σ H { D with nx:=u D } I h) λf L q=>?_);cases f with
 |next =>
  obtain⟨z,M,O,q⟩:=q;exact J pins L z M D O q
 |ret v=>exact q
 |brk=>exact q
 |cont=>exact q
theorem ax(z:PS X st t):sY X [st] t:=by
 intro pins s σ H D I h;refine wpAny_execs_cons (bR (z pins s σ H D I h) λf B q=>?_);cases f with
 |next=>exact WJ q
 |ret v=>exact q
 |brk=>exact q
 |cont=>exact q
theorem Inv.quiet{pins:List (U0×VH)}{σ:St}{H:Hp}{s:U2}(I:Inv X pins σ H s):interactive X.env=false:=by simp[interactive,I.ok.kind]
def Fj(te:TE):TS:=λD σ H=>te σ H λ_ z=>D.nx σ z
theorem dB(z:PE X e te)(B:Xe e none pos.line X.env=pure false:=by rfl):PS X (.Expr e pos) (Fj te):=by
 intro pins s σ H D I h;exact wpAny_Expr_any (bR (z pins s σ H _ I h) λv O ⟨x,J,L,V,M⟩=>⟨σ,J,L,M⟩) I.quiet B
def MB(te:TE):TS:=λD σ H=>te σ H D.rt
theorem aX(z:PE X e te):PS X (.Return (YN e) pos) (MB te):=by
 intro pins s σ H D I h;exact wpAny_Return_some (bR (z pins s σ H _ I h) λv O ⟨x,B,J,L,M⟩=>⟨x,σ,B,J,L,M⟩)
def MC(c:TT)(t u:TS):TS:=λD σ H=>c σ H λb z=>if b=true then t D σ z else u D σ z
theorem cK{c:Vk}{a b:List W3}{z:TT}(O:PT X c z)(V:sY X a t)(Z:sY X b u):PS X (.If c a b pos) (MC z t u):=by
 intro pins s σ H D I h;refine wpAny_If (bR (O pins s σ H _ I h) λd B ⟨J,L,M⟩=>?_);cases d with
 |true=>exact V pins B σ J D L M
 |false=>exact Z pins B σ J D L M
end
noncomputable abbrev TG:=V->St->Hp->(St->Hp->Prop)->Prop
noncomputable abbrev Fl:=List V->St->Hp->(St->Hp->Prop)->Prop
def PG(X:Cx)(target:Vk)(t:TG):Prop :=
 ∀(pins:List (U0×VH)) (s:U2) (σ:St) (H:Hp) (v:V) (u:UW) (Q:St->Hp->Prop),Inv X pins σ H s->RelV v u->t v σ H Q ->
  wpAny (model X.prog X.w) X.A (assign target X.env u) (λ_ s'=>∃z B,Inv X pins z B s'/\Q z B) X.xe s
def Jl(X:Cx)(J:List Vk)(t:Fl):Prop :=
 ∀(pins:List (U0×VH)) (s:U2) (σ:St) (H:Hp) (vs:List V) (B:List UW) (Q:St->Hp->Prop),Inv X pins σ H s->Vals vs B->t vs σ H Q ->
  wpAny (model X.prog X.w) X.A (assignInOrder ((Wb J X.env).map (·.2)) B) (λ_ s'=>∃z D,Inv X pins z D s'/\Q z D) X.xe s
noncomputable abbrev Gx:=V->V->V->Hp->(Hp->Prop)->Prop
def Jm(X:Cx)(t:Gx):Prop :=
 ∀(pins:List (U0×VH)) (s:U2) (σ:St) (H:Hp) (o i v:V) (z B u:UW) (Q:Hp->Prop),Inv X pins σ H s->RelV o z->RelV i B->RelV v u->t o i v H Q ->
  wpAny (model X.prog X.w) X.A (YF z B u) (λ_ s'=>∃D,Inv X pins σ D s'/\Q D) X.xe s
section
variable {X:Cx}{pos:WG}
def w9(i:Nat):TG:=λv σ H Q=>Q (σ.set i (YN v)) H
theorem aG{i:Nat}{x:Vl}(z:X.N.Nodup)(hi:X.N[i]?=YN x)(B:Loc X.env.scope x)(D:X.fn x=true\/X.env.scope.names.lookup x=YN .local:=by first|exact .inl rfl|exact .inr rfl|assumption):PG X (.Name x pos) (w9 i):=by
 intro pins s σ H v u Q I r h;exact wpAny_assign_Name (tw I z hi B r (λs' J=>⟨_,H,J,h⟩) D)
noncomputable def MD:Fl:=λvs σ H Q=>vs=[]/\Q σ H
noncomputable def Jn(t:TG)(u:Fl):Fl:=λvs σ H Q=>∃v r,vs=v::r/\t v σ H λz B=>u r z B Q
theorem jn:Jl X [] MD:=by
 intro pins s σ H vs z Q I r h;obtain⟨e,h⟩:=h;subst e;cases r;exact assignInOrder_nil ⟨σ,H,I,h⟩
theorem cL{e:Vk}{z:List Vk}{t:TG}{u:Fl}(D:PG X e t)(J:Jl X z u)
  (L:(Wb (e::z) X.env).map (·.2)=assign e X.env::(Wb z X.env).map (·.2):=by rfl):Jl X (e::z) (Jn t u):=by
 intro pins s σ H vs us Q I r h;obtain⟨v,vr,e1,h⟩:=h;subst e1;cases r with
 |cons r M =>
  rw[L];refine assignInOrder_cons (bR (D pins s σ H _ _ _ I r h) λ_ O ⟨B,V,Z,q1⟩=>?_);exact J pins O B V _ _ Q Z M q1
def Jo(K:Pc)(n:Nat)(t:Fl):TG:=λv σ H Q=>∃a xs,v=.ref a/\b0 K H a xs/\xs.length=n/\t xs σ H Q
theorem lP{z:List Vk}{k:Nat}{t:Fl}{n:Nat}(J:X.calm=true)(h:Jl X z t)
  (L:(Wb z X.env).length=n:=by rfl) (B:(Wb z X.env).findIdx? (·.1)=none:=by rfl):PG X (.Tuple z k pos) (Jo X.K n t):=by
 intro pins s σ H v u Q I r hw;obtain⟨a,xs,e1,M,O,hw⟩:=hw;subst e1;cases r;obtain⟨its,D,V,hz⟩:=I.tuple M;refine assign_Tuple_tuple (I.ok.hd J) V (by simp[L,<-O,D.length]) B λh' Z=>?_;have I1:Inv X pins σ H { s with heap:=h' }:=I.kept (t':=s.toks) λb o e=>Z b o (PH (Pt e)) e;exact h pins _ σ H xs _ Q I1 (by simpa using D) hw
def ME(to z:TE)(t:Gx):TG:=λv σ H Q=>to σ H λo B=>z σ B λi D=>t o i v D λJ=>Q σ J
theorem rn{o i:Vk}{to J:TE}{t:Gx}(L:PE X o to)(hi:PE X i J)(M:Jm X t)
  (O:∀v,assign (.Subscript o i pos) X.env v=(do
   let z <-Yj [v] (eval o X.env)
   let B <-Yj [v,z] (eval i X.env)
   standAt pos
   Yj [v,z,B] (YF z B v)
   release [v,z,B] []):=by intro _;rfl):PG X (.Subscript o i pos) (ME to J t):=by
 intro pins s σ H v u Q I r h;rw[O];refine UR (Vj (bR (L pins s σ H _ I h) λz V D=>?_));obtain⟨x,Z,I1,r1,q1⟩:=D;refine UR (Vj (bR (hi pins V σ Z _ I1 q1) λB s2 D=>?_));obtain⟨y,H2,I2,r2,q2⟩:=D;refine UR (WD (UR (Vj (bR (M pins s2 σ H2 x y v z B u _ I2 r1 r2 r q2) λ_ s3 ⟨H3,I3,q3⟩=>?_))));exact wpAny_release ⟨σ,H3,I3,q3⟩
def Gy(z:TE)(g:TG):TS:=λD σ H=>z σ H λx B=>g x σ B D.nx
theorem rq{z e:Vk}{B:TE}{g:TG}(J:PE X e B)(L:PG X z g)(M:swapsWithSole [z] e pos.line X.env=pure false:=by rfl)(hw:swappedStores [z] e X.env=pure none:=by rfl)
  (O:(Wb [z] X.env).map (·.2)=[assign z X.env]:=by rfl):PS X (.Assign [z] e pos) (Gy B g):=by
 intro pins s σ H D I h;refine wpAny_Assign_stores (bR (J pins s σ H _ I h) λv V ⟨x,Z,I1,r1,q1⟩=>?_) M hw;rw[O];exact bR (L pins V σ Z x v _ I1 r1 q1) λ_ s2 q=>q
theorem aF{i:Nat}{x:Vl}{e:Vk}{z:TE}{pos':WG}(B:X.N.Nodup)(hi:X.N[i]?=YN x)(J:Loc X.env.scope x)(L:PE X e z)(M:Xe e (YN (.Name x pos')) pos.line X.env=pure false:=by rfl)(O:X.fn x=true\/X.env.scope.names.lookup x=YN .local:=by first|exact .inl rfl|exact .inr rfl|assumption) :
  PS X (.Assign [.Name x pos'] e pos) (Gy z (w9 i)):=by
 intro pins s σ H D I h;refine wpAny_Assign_Name (bR (L pins s σ H _ I h) λv s1 ⟨y,V,Z,r1,q1⟩=>?_) M;exact tw Z B hi J r1 (λs2 I2=>⟨_,V,I2,q1⟩) O
end
section
variable {X:Cx}{pos:WG}
def Gz(c:TT)(M:TS):TS:=λD σ H=>∃W:Nat->St->Hp->Prop,(∃m,W m σ H)/\∀m σ H,W m σ H ->
 c σ H λb B=>if b=true then∃N:St->Hp->Prop,(∀z J,N z J->∃L,L<m/\W L z J)/\M { D with nx:=N,ct:=N,bk:=D.nx } σ B else D.nx σ B
theorem tF{c:Vk}{body:List W3}{tc:TT}{tb:TS}(hp:PassesOwn (model X.prog X.w) X.A X.env X.xe)(hc:PT X c tc)(hb:sY X body tb):PS X (.While c body [] pos) (Gz tc tb):=by
 intro pins s σ H D I h;obtain⟨W,⟨m0,w0⟩,turn⟩:=h;refine wpAny_While (codeAny_whileLoop (λn s'=>∃J H',Inv X pins J H' s'/\W n J H') ?_ m0 ⟨σ,H,I,w0⟩);rintro n s1 ⟨B,H1,I1,w1⟩;refine VV hp (bR (hc pins s1 B H1 _ I1 (turn n B H1 w1)) λb s2 ⟨H2,I2,M⟩=>?_);cases b with
 |true =>
  obtain⟨N,hN,M⟩:=M;rw[UZ rfl];refine VV hp (bR (hb pins s2 B H2 _ I2 M) λf s3 O=>?_);cases f with
  |next =>
   obtain⟨z,L,V,Z⟩:=O;obtain⟨m',hm,w3⟩:=hN z L Z;exact⟨m',hm,z,L,V,w3⟩
  |cont =>
   obtain⟨z,L,V,Z⟩:=O;obtain⟨m',hm,w3⟩:=hN z L Z;exact⟨m',hm,z,L,V,w3⟩
  |brk=>exact O
  |ret v=>exact O
 |false =>
  rw[UX Pq];exact WJ ⟨B,H2,I2,M⟩
end
structure It where
 go:Nat->Hp->Prop
 Fm:Nat->Hp->V->Hp->Prop
 stop:Nat->Hp->Prop
def mR(X:Cx)(pins:List (U0×VH))(H:Hp)(b:U0):Prop :=
 H b=none/\b≠X.env.locals/\b∉X.fs/\(b∈X.ex\/X.s₀.heap.objs.size<=b)/\(∀x c,X.env.cells.lookup x=YN c->c≠b)/\∀p∈X.pn++pins,p.1≠b
theorem Inv.mT{X:Cx}{pins:List (U0×VH)}{σ:St}{H D:Hp}{s:U2}{b:U0}(I:Inv X pins σ H s)(B:s.heap.objs.size<=b)(J:D b=none):mR X pins D b:=by
 refine⟨J,Q3 (Qf I.lt B),I.Mr B,.inr (PK I.sz B),λx c e z=>?_,λp L z=>?_⟩
 .obtain⟨v,q⟩:=I.cell x c e;exact U4 (Qf q.lt (by rw[z];exact B)) (Rh _)
 exact U4 (Qf (Pt (I.pin p L).1) (by rw[z];exact B)) (Rh _)
structure Turn(P:U8) (w:Va) (K:Pc) (tg:Vk) (J:It) (fp:List U0) (it:U0) (tn:Nat->Vi->Prop):Prop where
 mem:it∈fp
 obj:∀i h,tn i h->∀b∈fp,∃o,h.get? b=YN o/\∀v,o.data≠.cell v
 keep:∀i h h',tn i h->(∀b∈fp,∀o,h.get? b=YN o->h'.get? b=YN o)->tn i h'
 item:∀(X:Cx),X.prog=P->X.w=w->X.K=K->X.calm=true->∀(i:Nat) (pins:List (U0×VH)) (s:U2) (σ:St) (H:Hp) (E:UW->U2->Prop),Inv X pins σ H s->(∀b∈fp,mR X pins H b)->tn i s.heap->J.go i H ->
  wpAny (model P w) X.A (pyNext (.ref it)) (λr s1=>∃u,r=YN u /\
   wpAny (model P w) X.A (Xn tg (.ref it) u) (λ_ s2=>∃x H',Inv X pins σ H' s2/\RelV x u/\J.Fm i H x H'/\tn (i+1) s2.heap/\∀b∈fp,H' b=none) E s1) E s
 done:∀(X:Cx),X.prog=P->X.w=w->X.K=K->X.calm=true->∀(i:Nat) (pins:List (U0×VH)) (s:U2) (σ:St) (H:Hp) (E:UW->U2->Prop),Inv X pins σ H s->(∀b∈fp,mR X pins H b)->tn i s.heap->J.stop i H ->
  wpAny (model P w) X.A (pyNext (.ref it)) (λr s1=>r=none/\Inv X pins σ H s1) E s
 self:∀(A:Vh) (i:Nat) (s:U2) (Q:UW->U2->Prop) (E:UW->U2->Prop),tn i s.heap->Q (.ref it) s->wpAny (model P w) A (pyIter (.ref it)) Q E s
noncomputable abbrev TI:=St->Hp->(It->Hp->Prop)->Prop
def PIE(X:Cx)(pins:List (U0×VH))(σ:St)(M:Vk)(R:It->Hp->Prop)(z:UW)(D:U2):Prop :=
 ∃(H:U0) (fp:List U0) (L:Nat->Vi->Prop) (J:It) (B:Hp),z=.ref H/\Inv X pins σ B D/\Turn X.prog X.w X.K M J fp H L/\L 0 D.heap/\(∀b∈fp,mR X pins B b)/\R J B
def PI(X:Cx)(z iter:Vk)(B:TI):Prop :=
 ∀(pins:List (U0×VH)) (s:U2) (σ:St) (H:Hp) (R:It->Hp->Prop),Inv X pins σ H s->B σ H R ->
  wpAny (model X.prog X.w) X.A (eval iter X.env) (λv D=>wpAny (model X.prog X.w) X.A (pyIter v) (PIE X pins σ z R) X.xe D) X.xe s
theorem qd {M : YC}{A : Vh}{E : UW -> U2 -> Prop}{s : U2}{B : Vk}{D : U0}{u : UW}{o : VH}{n : String}{vs : Array UW}{Q : Unit -> U2 -> Prop}(H : s.heap.get? D=YN o)(J : o.cls=.type n)(hd : o.data=.fields vs)
    (L:["enumerate", "zip", "dict_itemiterator", "dict_reverseitemiterator", "odict_iterator", "itertools.zip_longest", "itertools.pairwise"].contains n=false) (z:Q () s): wpAny M A (Xn B (.ref D) u) Q E s:=by
  unfold Xn;cases B <;> first
    |exact UY z
    | (cases u <;> first
        |exact UY z
        | (refine UR (XN H ?_)
           rw[J,hd];show wpAny M A (if(["enumerate", "zip", "dict_itemiterator", "dict_reverseitemiterator", "odict_iterator", "itertools.zip_longest", "itertools.pairwise"].contains n&&vs[0]? == some (rawInt _))=true then _ else _) Q E s;rw[UX (by intro h; rw[L,RJ]at h; cases h)];exact UY z))
noncomputable def IB(K:Pc)(a:U0):It :=
 ⟨λi H=>∃xs x,aM K H a xs/\xs[i]?=YN x,λi H x z=>z=H/\∀xs,aM K H a xs->xs[i]?=YN x,λi H=>∃xs,aM K H a xs/\xs.length<=i⟩
noncomputable def ID(K:Pc)(a:U0):It :=
 ⟨λi H=>∃xs x,b0 K H a xs/\xs[i]?=YN x,λi H x z=>z=H/\∀xs,b0 K H a xs->xs[i]?=YN x,λi H=>∃xs,b0 K H a xs/\xs.length<=i⟩
noncomputable def Fo(lo:Int)(n:Nat):It:=⟨λi _=>i<n,λi H x z=>z=H/\x=.int (lo+i),λi _=>n<=i⟩
theorem yF{P:U8}{w:Va}{K:Pc}{tg:Vk}(a B:U0):Turn P w K tg (IB K a) [B] B (λi h=>h.IsListIter B a i) where
 mem:=by simp
 obj:=λi h st b D=>by
  have e:b=B:=by simpa using D
  subst e;obtain⟨o,e,c,d⟩:=st;exact⟨o,e,λv z=>by rw[d]at z;cases z⟩
 keep:=λi h h' st k=>st.at λo e=>k B (by simp) o e
 item:=by
  intro X O hw V hc i pins s σ H E I L st Z;subst O hw V;obtain⟨xs,x,M,hx⟩:=Z;obtain⟨its,rv,p,hz⟩:=I.list M;obtain⟨u,hu,ru⟩:=rv.get hx;obtain⟨f0,f1,f2,f3,f4,f5⟩:=L B (by simp);refine wpAny_pyNext_list_item st p.isList (x:=u) (by simpa using hu) λh' J sb=>?_;have I1:Inv X pins σ H { s with heap:=h' }:=I.turned (t':=s.toks) (λb o D e=>(sb.2 b D).trans e) f0 f1 f3 f4 f5;obtain⟨o,e,c,d⟩:=id J;exact⟨u,rfl,qd (s:={ s with heap:=h' }) e c d (by decide) ⟨x,H,I1,ru,⟨rfl,λys hy=>by rw[I.tD hy M];exact hx⟩,J,λb D=>(L b D).1⟩⟩
 done:=by
  intro X O hw V hc i pins s σ H E I L st Z;subst O hw V;obtain⟨xs,M,hx⟩:=Z;obtain⟨its,rv,p,hz⟩:=I.list M;obtain⟨f0,f1,f2,f3,f4,f5⟩:=L B (by simp);have hl:=rv.length;exact wpAny_pyNext_list_end (I.ok.hd hc) st p.isList (by simp;omega) λh' eb=>⟨rfl,I.turned (t':=s.toks) (λb o D e=>eb b o D e) f0 f1 f3 f4 f5⟩
 self:=λ_ _ _ _ _ st h=>wpAny_pyIter_listiter st h
theorem vw{P:U8}{w:Va}{K:Pc}{tg:Vk}(a B:U0):Turn P w K tg (ID K a) [B] B (λi h=>h.IsTupleIter B a i) where
 mem:=by simp
 obj:=λi h st b D=>by
  have e:b=B:=by simpa using D
  subst e;obtain⟨o,e,c,d⟩:=st;exact⟨o,e,λv z=>by rw[d]at z;cases z⟩
 keep:=λi h h' st k=>st.at λo e=>k B (by simp) o e
 item:=by
  intro X O hw V hc i pins s σ H E I L st Z;subst O hw V;obtain⟨xs,x,M,hx⟩:=Z;obtain⟨its,rv,p,hz⟩:=I.tuple M;obtain⟨u,hu,ru⟩:=rv.get hx;obtain⟨f0,f1,f2,f3,f4,f5⟩:=L B (by simp);refine wpAny_pyNext_tuple_item st (show s.heap.IsTuple a its.toArray from p) (x:=u) (by simpa using hu) λh' J sb=>?_;have I1:Inv X pins σ H { s with heap:=h' }:=I.turned (t':=s.toks) (λb o D e=>(sb.2 b D).trans e) f0 f1 f3 f4 f5;obtain⟨o,e,c,d⟩:=id J;exact⟨u,rfl,qd (s:={ s with heap:=h' }) e c d (by decide) ⟨x,H,I1,ru,⟨rfl,λys hy=>by rw[I.qc hy M];exact hx⟩,J,λb D=>(L b D).1⟩⟩
 done:=by
  intro X O hw V hc i pins s σ H E I L st Z;subst O hw V;obtain⟨xs,M,hx⟩:=Z;obtain⟨its,rv,p,hz⟩:=I.tuple M;obtain⟨f0,f1,f2,f3,f4,f5⟩:=L B (by simp);have hl:=rv.length;exact wpAny_pyNext_tuple_end (I.ok.hd hc) st (show s.heap.IsTuple a its.toArray from p) (by simp;omega) λh' eb=>⟨rfl,I.turned (t':=s.toks) (λb o D e=>eb b o D e) f0 f1 f3 f4 f5⟩
 self:=λ_ _ _ _ _ st h=>wpAny_pyIter_tupleiter st h
theorem vy{P:U8}{w:Va}{K:Pc}{tg:Vk}(B:U0)(lo:Int)(n:Nat):Turn P w K tg (Fo lo n) [B] B (λi h=>IsRangeIter h B (lo+(i:Nat)*1) ((n:Int)-(i:Nat)) 1) where
 mem:=by simp
 obj:=λi h st b D=>by
  have e:b=B:=by simpa using D
  subst e;exact⟨_,st,λv z=>by
   have z':Data.fields _=Data.cell v:=z;cases z'⟩
 keep:=λi h h' st k=>k B (by simp) _ st
 item:=by
  intro X M hw O V i pins s σ H E I L st Z;subst M hw O;obtain⟨f0,f1,f2,f3,f4,f5⟩:=L B (by simp);have W:=Walks.range (prog:=X.prog) (w:=X.w) (I.ok.hd V) B lo 1 n;refine W.item i s _ _ Z st λv h' tk hv J kk=>?_;obtain⟨t,rfl⟩:=hv;have I1:Inv X pins σ H { s with heap:=h',toks:=tk }:=I.turned (λb o D e=>kk b o (by simpa using D) e) f0 f1 f3 f4 f5;refine⟨_,rfl,qd (s:={ s with heap:=h',toks:=tk }) (n:="range_iterator") J rfl rfl (by decide) ⟨.int (lo+i),H,I1,⟨t,?_⟩,⟨rfl,rfl⟩,J,λb D=>(L b D).1⟩⟩;rw[UL]
 done:=by
  intro X M hw O V i pins s σ H E I L st Z;subst M hw O;obtain⟨f0,f1,f2,f3,f4,f5⟩:=L B (by simp);exact wpAny_pyNext_range_end (I.ok.hd V) st (by have:n<=i:=Z;omega) λh' eb=>⟨rfl,I.turned (t':=s.toks) (λb o D e=>eb b o D e) f0 f1 f3 f4 f5⟩
 self:=λ_ _ _ _ _ st h=>wpAny_pyIter_rangeiter st h
section
variable {X:Cx}{tg:Vk}
noncomputable def Fp(K:Pc)(B:TE):TI:=λσ H R=>B σ H λx z=>∃a,x=.ref a/\(∃xs,aM K z a xs)/\R (IB K a) z
noncomputable def MF(K:Pc)(B:TE):TI:=λσ H R=>B σ H λx z=>∃a,x=.ref a/\(∃xs,b0 K z a xs)/\R (ID K a) z
theorem a9{l:Vk}{D:TE}(J:PE X l D):PI X tg l (Fp X.K D):=by
 intro pins s σ H R I h;refine bR (J pins s σ H _ I h) λv z L=>?_;obtain⟨x,M,B,O,V⟩:=L;obtain⟨a,e,⟨xs,Z⟩,q⟩:=V;subst e;cases O;obtain⟨its,rv,p,hz⟩:=B.list Z;refine Wn p.isList ?_;refine⟨z.heap.objs.size,[z.heap.objs.size],_,_,M,rfl,B.kept (t':=z.toks) λb o e=>O8 _ e,yF a _,⟨_,Pm _ rfl,rfl,rfl⟩,λb hb=>?_,q⟩;have e:b=z.heap.objs.size:=by simpa using hb
 subst e;exact B.mT (O5 _) (B.bj.fresh (O5 _))
theorem Aw{l:Vk}{D:TE}(J:PE X l D):PI X tg l (MF X.K D):=by
 intro pins s σ H R I h;refine bR (J pins s σ H _ I h) λv z L=>?_;obtain⟨x,M,B,O,V⟩:=L;obtain⟨a,e,⟨xs,Z⟩,q⟩:=V;subst e;cases O;obtain⟨its,rv,p,hz⟩:=B.tuple Z;refine Wc (show z.heap.IsTuple a its.toArray from p) ?_;refine⟨z.heap.objs.size,[z.heap.objs.size],_,_,M,rfl,B.kept (t':=z.toks) λb o e=>O8 _ e,vw a _,⟨_,Pm _ rfl,rfl,rfl⟩,λb hb=>?_,q⟩;have e:b=z.heap.objs.size:=by simpa using hb
 subst e;exact B.mT (O5 _) (B.bj.fresh (O5 _))
theorem tG{pins:List (U0×VH)}{σ:St}{H:Hp}{s:U2}{R:It->Hp->Prop}{E:UW->U2->Prop}{lo hi:Int}{t u v:Tok}{z:Nat}(I:Inv X pins σ H s)(D:-(2 ^ 62)<=lo)(J:lo<2 ^ 62)(L:-(2 ^ 62)<=hi)(M:hi<2 ^ 62)
  (q:R (Fo lo (hi-lo).toNat) H):wpAny (model X.prog X.w) X.A (pyIter (.ref s.heap.objs.size)) (PIE X pins σ tg R) E { s with heap:=s.heap.push { cls:=.type "range",data:=.fields #[.int lo t,.int hi u,.int 1 v] },toks:=z }:=by
 refine wpAny_pyIter_range (IsRange.new ..) (small_one D J L M) ?_;have B:Inv X pins σ H { s with heap:=s.heap.push { cls:=.type "range",data:=.fields #[.int lo t,.int hi u,.int 1 v] },toks:=z }:=I.kept λb o e=>O8 _ e;refine⟨(s.heap.push { cls:=.type "range",data:=.fields #[.int lo t,.int hi u,.int 1 v] }).objs.size,[(s.heap.push { cls:=.type "range",data:=.fields #[.int lo t,.int hi u,.int 1 v] }).objs.size],_,_,H,rfl,
  B.kept (t':=z) λb o e=>O8 _ e,vy _ lo (hi-lo).toNat,?_,λb O=>?_,q⟩
 .have e1:lo+((0:Nat):Int)*1=lo:=by simp
  have e2:(((hi-lo).toNat:Nat):Int)-((0:Nat):Int)=Builtin.Range.rangeSize lo hi 1:=by rw[rangeSize_one];split <;> omega
  show IsRangeIter _ _ (lo+((0:Nat):Int)*1) ((((hi-lo).toNat:Nat):Int)-((0:Nat):Int)) 1;rw[e1,e2];exact Pm _ rfl
 have e:b=(s.heap.push { cls:=.type "range",data:=.fields #[.int lo t,.int hi u,.int 1 v] }).objs.size:=by simpa using O
 subst e;exact B.mT (O5 _) (B.bj.fresh (O5 _))
noncomputable def Jp(z:TA):TI:=λσ H R=>z σ H λvs B=>∃j:Int,vs=[.int j]/\-(2 ^ 62)<=j/\j<2 ^ 62/\R (Fo 0 j.toNat) B
noncomputable def Jq(z:TA):TI:=λσ H R=>z σ H λvs B=>∃i j:Int,vs=[.int i,.int j]/\(-(2 ^ 62)<=i/\i<2 ^ 62/\-(2 ^ 62)<=j/\j<2 ^ 62)/\R (Fo i (j-i).toNat) B
theorem cg{a:Vk}{B:TA}{p pos:WG}(D:Gl X "range")(J:X.mg "range" = none)(L:PA X [a] B)(M:Vf [a] X.env=[(false,eval a X.env)]:=by rfl):PI X tg (.Call (.Name "range" p) [a] [] pos) (Jp B):=by
 intro pins s σ H R I h;refine YD (gH I D J boot_range (Qw (bR (L pos pins s σ H _ I h) λus s1 ⟨vs,H1,O,V,z⟩=>?_) M rfl));obtain⟨j,e,z,Z,q⟩:=z;subst e;cases V with
 |cons r rr =>
  cases rr;obtain⟨t,rfl⟩:=r;exact call_range_1 (tG O (by omega) (by omega) z Z (by simpa using q))
theorem jo{a b:Vk}{J:TA}{p pos:WG}(L:Gl X "range")(M:X.mg "range" = none)(O:PA X [a,b] J)(V:Vf [a,b] X.env=[(false,eval a X.env),(false,eval b X.env)]:=by rfl)(z:Vf [b] X.env=[(false,eval b X.env)]:=by rfl) :
  PI X tg (.Call (.Name "range" p) [a,b] [] pos) (Jq J):=by
 intro pins s σ H R I h;refine YD (gH I L M boot_range (Qw (bR (O pos pins s σ H _ I h) λus s1 ⟨vs,H1,Z,r1,B⟩=>?_) (by rw[V,z]) (by rw[z];rfl)));obtain⟨i,j,e,⟨B,q2,q3,q4⟩,q⟩:=B;subst e;cases r1 with
 |cons r D =>
  cases D with
  |cons r' D =>
   cases D;obtain⟨t,rfl⟩:=r;obtain⟨t',rfl⟩:=r';exact call_range_2 (tG Z B q2 q3 q4 q)
def MG(O:TI)(g:TG)(V:TS):TS:=λD σ H=>O σ H λJ Z=>∃W:Nat->Nat->St->Hp->Prop,(∃m,W 0 m σ Z)/\∀i m σ H,W i m σ H ->
 (J.stop i H/\D.nx σ H)\/(J.go i H/\∃N:St->Hp->Prop,(∀z B,N z B->∃M,M<m/\W (i+1) M z B)/\∀x B,J.Fm i H x B->g x σ B λL H2=>V { D with nx:=N,ct:=N,bk:=D.nx } L H2)
noncomputable def nP(fp:List U0)(h:Vi):List (U0×VH):=fp.filterMap λb=>(h.get? b).map λo=>(b,o)
theorem ic{fp:List U0}{h:Vi}{b:U0}{o:VH}(z:b∈fp)(e:h.get? b=YN o):(b,o)∈nP fp h:=TM.mpr ⟨b,z,by rw[e];rfl⟩
theorem yG{fp:List U0}{h:Vi}{p:U0×VH}(z:p∈nP fp h):p.1∈fp/\h.get? p.1=YN p.2:=by
 obtain⟨b,B,e⟩:=TM.mp z;cases q:h.get? b with
 |none=>rw[q]at e;cases e
 |some o =>
  rw[q]at e;have D:(b,o)=p:=Option.some.inj e;subst D;exact⟨B,q⟩
theorem Inv.pinned{pins:List (U0×VH)}{σ:St}{H:Hp}{s:U2}{fp:List U0}(I:Inv X pins σ H s)(J:∀b∈fp,mR X pins H b)(L:∀b∈fp,∃o,s.heap.get? b=YN o/\∀v,o.data≠.cell v):Inv X (pins++nP fp s.heap) σ H s :=
 I.w6 λp M=>(Po.mp M).elim (λz=>I.pin p (PB _ z)) λz=>by
  obtain⟨B,e⟩:=yG z;obtain⟨O,V,Z,_⟩:=J p.1 B;obtain⟨o,D,d⟩:=L p.1 B;rw[e]at D;cases D;exact⟨e,O,V,Z,d⟩
theorem Inv.j8{pins z:List (U0×VH)}{σ:St}{H:Hp}{s:U2}(I:Inv X (pins++z) σ H s):Inv X pins σ H s:=I.w6 λp B=>I.pin p (PB _ (PR _ B))
theorem bG{iter:Vk}{body:List W3}{wi:TI}{g:TG}{tb:TS}{pos:WG}(hp:PassesOwn (model X.prog X.w) X.A X.env X.xe)(hc:X.calm=true)(hi:PI X tg iter wi)(hg:PG X tg g)(B:sY X body tb)
  (hs:∀x,Wo iter X.env x=pure x:=by intro _;rfl):PS X (.For tg iter body [] pos) (MG wi g tb):=by
 intro pins s σ H D I h;refine wpAny_For (bR (hi pins s σ H _ I h) λv s1 h1=>bR h1 λitv s2 h2=>?_) hs;obtain⟨it,fp,tn,J,H2,e,I2,T,LB,f2,W,⟨m0,w0⟩,turn⟩:=h2;subst e;have L:∀{H':Hp},(∀b∈fp,H' b=none)->∀b∈fp,mR X pins H' b:=λhn b B=>⟨hn b B,(f2 b B).2⟩
 refine codeAny_forLoop_any (λn s'=>∃i M H',Inv X pins M H' s'/\tn i s'.heap/\(∀b∈fp,H' b=none)/\W i n M H') ?_ m0 ⟨0,σ,H2,I2,LB,λb B=>(f2 b B).1,w0⟩;rintro n s3 ⟨i,O,H3,I3,Jr,Js,w3⟩;rcases turn i n O H3 w3 with⟨stop,qn⟩|⟨go,N,hN,step⟩
 .refine VV hp (bR (T.done X rfl rfl rfl hc i pins s3 O H3 X.xe I3 (L Js) Jr stop) λr s4 ⟨hr,I4⟩=>?_);subst hr;exact WJ ⟨O,H3,I4,qn⟩
 refine VV hp (bR (T.item X rfl rfl rfl hc i pins s3 O H3 X.xe I3 (L Js) Jr go) λr s4 ⟨u,hr,h4⟩=>?_);subst hr;refine VV hp (bR h4 λ_ s5 zq=>?_);obtain⟨x,H5,I5,r5,y5,GA,MH⟩:=zq;have MI:=I5.pinned (L MH) (T.obj _ _ GA);refine VV hp (bR (hg _ s5 O H5 x u _ MI r5 (step x H5 y5)) λ_ s6 ⟨σ6,H6,I6,q6⟩=>?_);refine VV hp (bR (B _ s6 σ6 H6 _ I6 q6) λf s7 q7=>?_);have again:∀{z:St}{V:Hp},Inv X (pins++nP fp s5.heap) z V s7->N z V->∃m,m<n/\∃i M H',Inv X pins M H' s7/\tn i s7.heap/\(∀b∈fp,H' b=none)/\W i m M H':=λ{z V} Z n7=>by
  obtain⟨m',hm,w7⟩:=hN z V n7;refine⟨m',hm,i+1,z,V,Z.j8,T.keep _ _ _ GA λb B o e=>(Z.pin (b,o) (PB _ (PB _ (ic B e)))).1,λb B=>?_,w7⟩;obtain⟨o,e,d⟩:=T.obj _ _ GA b B;exact(Z.pin (b,o) (PB _ (PB _ (ic B e)))).2.1
 cases f with
 |next=>obtain⟨z,V,Z,n7⟩:=q7;exact again Z n7
 |cont=>obtain⟨z,V,Z,n7⟩:=q7;exact again Z n7
 |brk=>obtain⟨z,V,Z,q7⟩:=q7;exact⟨z,V,Z.j8,q7⟩
 |ret v=>obtain⟨x7,z,V,Z,r7,q7⟩:=q7;exact⟨x7,z,V,Z.j8,r7,q7⟩
end
theorem cM{K:Pc}{a:U0}{xs:List V}{g:TG}{O:TS}{D:Ends}{σ:St}{H:Hp}(Pv:Nat->St->Hp->Prop)(h0:Pv 0 σ H)(hl:∀i σ H,i<=xs.length->Pv i σ H->aM K H a xs)
  (hs:∀i x σ H,xs[i]?=YN x->Pv i σ H->g x σ H λz M=>O { D with nx:=Pv (i+1),ct:=Pv (i+1),bk:=D.nx } z M) (hd:∀σ H,Pv xs.length σ H->D.nx σ H) :
  ∃W:Nat->Nat->St->Hp->Prop,(∃m,W 0 m σ H)/\∀i m σ H,W i m σ H ->
   ((IB K a).stop i H/\D.nx σ H)\/((IB K a).go i H/\∃N:St->Hp->Prop,(∀B J,N B J->∃Z,Z<m/\W (i+1) Z B J)/\∀x J,(IB K a).Fm i H x J->g x σ J λz M=>O { D with nx:=N,ct:=N,bk:=D.nx } z M):=by
 refine⟨λi m σ H=>m=xs.length-i/\i<=xs.length/\Pv i σ H,⟨xs.length,by simp,Qb _,h0⟩,?_⟩;rintro i m σ H ⟨rfl,hi,p⟩;have q:=hl i σ H hi p;by_cases L:i<xs.length
 .refine .inr ⟨⟨xs,xs[i],q,by simp[L]⟩,Pv (i+1),λB J p'=>⟨xs.length-(i+1),by omega,rfl,L,p'⟩,λx J y=>?_⟩;obtain⟨e,y⟩:=y;subst e;exact hs i x σ _ (y xs q) p
 have e:i=xs.length:=by omega
 subst e;exact .inl ⟨⟨xs,q,O5 _⟩,hd σ H p⟩
theorem Dv{K:Pc}{a:U0}{xs:List V}{g:TG}{O:TS}{D:Ends}{σ:St}{H:Hp}(Pv:Nat->St->Hp->Prop)(h0:Pv 0 σ H)(hl:∀i σ H,i<=xs.length->Pv i σ H->b0 K H a xs)
  (hs:∀i x σ H,xs[i]?=YN x->Pv i σ H->g x σ H λz M=>O { D with nx:=Pv (i+1),ct:=Pv (i+1),bk:=D.nx } z M) (hd:∀σ H,Pv xs.length σ H->D.nx σ H) :
  ∃W:Nat->Nat->St->Hp->Prop,(∃m,W 0 m σ H)/\∀i m σ H,W i m σ H ->
   ((ID K a).stop i H/\D.nx σ H)\/((ID K a).go i H/\∃N:St->Hp->Prop,(∀B J,N B J->∃Z,Z<m/\W (i+1) Z B J)/\∀x J,(ID K a).Fm i H x J->g x σ J λz M=>O { D with nx:=N,ct:=N,bk:=D.nx } z M):=by
 refine⟨λi m σ H=>m=xs.length-i/\i<=xs.length/\Pv i σ H,⟨xs.length,by simp,Qb _,h0⟩,?_⟩;rintro i m σ H ⟨rfl,hi,p⟩;have q:=hl i σ H hi p;by_cases L:i<xs.length
 .refine .inr ⟨⟨xs,xs[i],q,by simp[L]⟩,Pv (i+1),λB J p'=>⟨xs.length-(i+1),by omega,rfl,L,p'⟩,λx J y=>?_⟩;obtain⟨e,y⟩:=y;subst e;exact hs i x σ _ (y xs q) p
 have e:i=xs.length:=by omega
 subst e;exact .inl ⟨⟨xs,q,O5 _⟩,hd σ H p⟩
theorem cS{lo:Int}{n:Nat}{g:TG}{O:TS}{D:Ends}{σ:St}{H:Hp}(Pv:Nat->St->Hp->Prop)(Z:Pv 0 σ H)
  (hs:∀i σ H,i<n->Pv i σ H->g (.int (lo+i)) σ H λz M=>O { D with nx:=Pv (i+1),ct:=Pv (i+1),bk:=D.nx } z M) (hd:∀σ H,Pv n σ H->D.nx σ H) :
  ∃W:Nat->Nat->St->Hp->Prop,(∃m,W 0 m σ H)/\∀i m σ H,W i m σ H ->
   ((Fo lo n).stop i H/\D.nx σ H)\/((Fo lo n).go i H/\∃N:St->Hp->Prop,(∀B J,N B J->∃V,V<m/\W (i+1) V B J)/\∀x J,(Fo lo n).Fm i H x J->g x σ J λz M=>O { D with nx:=N,ct:=N,bk:=D.nx } z M):=by
 refine⟨λi m σ H=>m=n-i/\i<=n/\Pv i σ H,⟨n,by simp,Qb _,Z⟩,?_⟩;rintro i m σ H ⟨rfl,hi,p⟩;by_cases L:i<n
 .refine .inr ⟨L,Pv (i+1),λB J p'=>⟨n-(i+1),by omega,rfl,L,p'⟩,λx J y=>?_⟩;obtain⟨e,y⟩:=y;subst e y;exact hs i σ _ L p
 have e:i=n:=by omega
 subst e;exact .inl ⟨O5 _,hd σ H p⟩
noncomputable abbrev R2:=V->V->Hp->VK->Prop
def jA(X:Cx)(f:UW->UW->YM UW)(r:R2):Prop :=
 ∀(pins:List (U0×VH)) (s:U2) (σ:St) (H:Hp) (x y:V) (v u:UW) (Q:VK),Inv X pins σ H s->RelV x v->RelV y u->r x y H Q ->
  wpAny (model X.prog X.w) X.A (f v u) (EP X pins σ Q) X.xe s
def MJ(X:Cx)(f:UW->YM UW)(r:V->Hp->VK->Prop):Prop :=
 ∀(pins:List (U0×VH)) (s:U2) (σ:St) (H:Hp) (x:V) (v:UW) (Q:VK),Inv X pins σ H s->RelV x v->r x H Q ->
  wpAny (model X.prog X.w) X.A (f v) (EP X pins σ Q) X.xe s
def cO(X:Cx)(f:UW)(r:List V->Hp->VK->Prop):Prop :=
 ∀(pins:List (U0×VH)) (s:U2) (σ:St) (H:Hp) (xs:List V) (z:List UW) (Q:VK),Inv X pins σ H s->Vals xs z->r xs H Q ->
  wpAny (model X.prog X.w) X.A (call f z) (EP X pins σ Q) X.xe s
def LC(r:R2)(z B:TE):TE:=λσ H Q=>z σ H λx D=>B σ D λy J=>r x y J Q
def tUn(r:V->Hp->VK->Prop)(z:TE):TE:=λσ H Q=>z σ H λx B=>r x B Q
def rI(C:Int->Int->Prop)(g:Int->Int->V):R2:=λx y H Q=>∃i j,x=.int i/\y=.int j/\C i j/\Q (g i j) H
def Fq(g:Int->Int->V):R2:=λx y H Q=>∃i j,x=.int i/\y=.int j/\Q (g i j) H
def rU(g:Int->V):V->Hp->VK->Prop:=λx H Q=>∃i,x=.int i/\Q (g i) H
section
variable {X:Cx}{a b c:Vk}{ta tb tc:TE}{pos:WG}
theorem GB(O:PE X a ta)(Z:PE X b tb){pins:List (U0×VH)}{s:U2}{σ:St}{H:Hp}{R:V->V->Hp->Prop}(I:Inv X pins σ H s)
  (h:ta σ H λx L=>tb σ L λy z=>R x y z) {Q:UW->U2->Prop}{f:UW->UW->YM UW}
  (hf:∀v u J x y z,Inv X pins σ z J->RelV x v->RelV y u->R x y z->wpAny (model X.prog X.w) X.A (f v u) Q X.xe J) :
  wpAny (model X.prog X.w) X.A (eval a X.env) (λv B=>wpAny (model X.prog X.w) X.A (eval b X.env) (λu D=>wpAny (model X.prog X.w) X.A (f v u) Q X.xe D) X.xe B) X.xe s:=by
 refine bR (O pins s σ H _ I h) λv s1 M=>?_;obtain⟨x,L,I1,r1,q1⟩:=M;refine bR (Z pins s1 σ L _ I1 q1) λu J M=>?_;obtain⟨y,z,I2,r2,q2⟩:=M;exact hf v u J x y z I2 r1 r2 q2
theorem aD{op:Operator}{r:R2}(z:jA X (V1 op) r)(B:PE X a ta)(D:PE X b tb):PE X (.BinOp a op b pos) (LC r ta tb):=by
 intro pins s σ H Q I h;exact wpAny_BinOp (GB B D I h λv u J x y L M O V q=>z pins J σ L x y v u Q M O V q)
theorem nQ{op:UnaryOp}{r:V->Hp->VK->Prop}(z:MJ X (unaryOp op) r)(B:PE X a ta):PE X (.UnaryOp op a pos) (tUn r ta):=by
 intro pins s σ H Q I h;exact UnaryOp_ (bR (B pins s σ H _ I h) λv D ⟨x,J,L,M,O⟩=>z pins D σ J x v Q L M O)
theorem LD{f:UW->UW->YM UW}{C:Int->Int->Prop}{g:Int->Int->Int}
  (rule:∀(i j:Int) (t u:Tok) (s:U2) (Q:UW->U2->Prop) (E:UW->U2->Prop),C i j->Q (.int (g i j) s.toks) { s with toks:=s.toks+1 }->wpAny (model X.prog X.w) X.A (f (.int i t) (.int j u)) Q E s) :
  jA X f (rI C λi j=>.int (g i j)):=by
 intro pins s σ H x y v u Q I z B h;obtain⟨i,j,rfl,rfl,D,q⟩:=h;obtain⟨t,rfl⟩:=z;obtain⟨t',rfl⟩:=B;exact rule i j t t' s _ _ D ⟨.int (g i j),H,I.tok _,⟨_,rfl⟩,q⟩
theorem Jt{f:UW->UW->YM UW}{g:Int->Int->Int}
  (rule:∀(i j:Int) (t u:Tok) (s:U2) (Q:UW->U2->Prop) (E:UW->U2->Prop),Q (.int (g i j) s.toks) { s with toks:=s.toks+1 }->wpAny (model X.prog X.w) X.A (f (.int i t) (.int j u)) Q E s) :
  jA X f (Fq λi j=>.int (g i j)):=by
 intro pins s σ H x y v u Q I z B h;obtain⟨i,j,rfl,rfl,q⟩:=h;obtain⟨t,rfl⟩:=z;obtain⟨t',rfl⟩:=B;exact rule i j t t' s _ _ ⟨.int (g i j),H,I.tok _,⟨_,rfl⟩,q⟩
theorem Dw{f:UW->UW->YM UW}{g:Int->Int->Bool}
  (rule:∀(i j:Int) (t u:Tok) (s:U2) (Q:UW->U2->Prop) (E:UW->U2->Prop),Q (.bool (g i j)) s->wpAny (model X.prog X.w) X.A (f (.int i t) (.int j u)) Q E s) :
  jA X f (Fq λi j=>.bl (g i j)):=by
 intro pins s σ H x y v u Q I z B h;obtain⟨i,j,rfl,rfl,q⟩:=h;obtain⟨t,rfl⟩:=z;obtain⟨t',rfl⟩:=B;exact rule i j t t' s _ _ ⟨.bl (g i j),H,I,rfl,q⟩
def MK(i j:Int):Prop:=0<j/\j<1073741824
def ML(i j:Int):Prop:=0<=j/\j<=1000000/\i.natAbs<2 ^ 64
def Dx(i j:Int):Prop:=(-(2 ^ 64)<i/\i<2 ^ 64)\/(-(2 ^ 64)<j/\j<2 ^ 64)
theorem Dx.ok{i j:Int}(h:Dx i j):IntMulOk i j:=by
 rcases h with⟨z,B⟩|⟨z,B⟩
 .exact .of_left (intBits_le_64 z B)
 exact .of_right (intBits_le_64 z B)
theorem aQ:jA X (V1 .Add) (Fq λi j=>.int (i+j)):=Jt λ_ _ _ _ _ _ _ q=>add_int q
theorem eF:jA X (V1 .Sub) (Fq λi j=>.int (i-j)):=Jt λ_ _ _ _ _ _ _ q=>sub_int q
theorem ie:jA X (V1 .Mult) (rI Dx λi j=>.int (i*j)):=LD λ_ _ _ _ _ _ _ z q=>mul_int q z.ok
theorem eU:jA X (V1 .FloorDiv) (rI MK λi j=>.int (i/j)):=LD λi j _ _ _ _ _ z q=>by
 have B:(0:Int)<j:=z.1;have D:j<1073741824:=z.2;exact floordiv_int (by omega) (by rw[Int.fdiv_eq_ediv_of_nonneg i (by omega)];exact q) (.inl (PyProof.noPylong_small (by omega)))
theorem ck:jA X (V1 .Mod) (rI (λ_ j=>0<j) λi j=>.int (i%j)):=LD λi j _ _ _ _ _ z q=>by
 have B:(0:Int)<j:=z;exact mod_int' (by omega) (by rw[Int.fmod_eq_emod_of_nonneg i (by omega)];exact q)
theorem Ax:jA X (V1 .Pow) (rI ML λi j=>.int (i ^ j.toNat)):=LD λ_ _ _ _ _ _ _ z q=>pow_int_small z.1 z.2.1 z.2.2 q
theorem unI{f:UW->YM UW}{g:Int->Int}
  (rule:∀(i:Int) (t:Tok) (s:U2) (Q:UW->U2->Prop) (E:UW->U2->Prop),Q (.int (g i) s.toks) { s with toks:=s.toks+1 }->wpAny (model X.prog X.w) X.A (f (.int i t)) Q E s) :
  MJ X f (rU λi=>.int (g i)):=by
 intro pins s σ H x v Q I z h;obtain⟨i,rfl,q⟩:=h;obtain⟨t,rfl⟩:=z;exact rule i t s _ _ ⟨.int (g i),H,I.tok _,⟨_,rfl⟩,q⟩
theorem jL:MJ X (unaryOp .USub) (rU λi=>.int (-i)):=unI λ_ _ _ _ _ q=>neg_int q
end
noncomputable def Ju:V->V->Bool
 |.fF,.fF=>true|.fF,.int _=>true|.int _,.fF=>true|.fF,.bl _=>true|.bl _,.fF=>true|.fF,.str _=>true|.str _,.fF=>true
 |.int _,.int _=>true|.bl _,.bl _=>true|.str _,.str _=>true|.Al _,.Al _=>true
 |.int _,.str _=>true|.str _,.int _=>true|.bl _,.str _=>true|.str _,.bl _=>true
 |_,_=>false
def rEq:R2:=λx y H Q=>Ju x y=true/\Q (.bl (decide (x=y))) H
def rNe:R2:=λx y H Q=>Ju x y=true/\Q (.bl (!decide (x=y))) H
theorem xa{i j:Int}:decide (V.int i=V.int j)=(i==j):=by
 rw[QA];simp
theorem Ay{i j:Bool}:decide (V.bl i=V.bl j)=(i==j):=by
 rw[QA];simp
theorem xf{i j:Vl}:decide (V.str i=V.str j)=(i==j):=by
 rw[QA];simp
theorem xg{i j:Array UInt8}:decide (V.Al i=V.Al j)=(i.toList==j.toList):=by
 rw[QA];cases i;cases j;simp
section
variable {X:Cx}{a b c:Vk}{ta tb tc:TE}{pos:WG}
theorem bu{pins:List (U0×VH)}{σ:St}{H:Hp}{s:U2}{Q:VK}{k z:Bool}(I:Inv X pins σ H s)(q:Q (.bl k) H)(e:k=z):EP X pins σ Q (.bool z) s:=by
 subst e;exact⟨.bl k,H,I,rfl,q⟩
theorem dt:jA X (VE .Eq) rEq:=by
 intro pins s σ H x y v u Q I D z h;obtain⟨B,q⟩:=h;cases x with
 |fF =>
  cases D;cases y with
  |fF=>cases z;exact PySem.EqNone.eq_none_none (bu I q (by simp))
  |bl j=>cases z;exact PySem.EqNone.eq_none_bool (bu I q (by simp))
  |int j=>obtain⟨t',rfl⟩:=z;exact PySem.EqNone.eq_none_int (bu I q (by simp))
  |str j=>obtain⟨t',rfl⟩:=z;exact PySem.EqNone.eq_none_str (bu I q (by simp))
  |_=>exact U4 (show false=true from B) Pq
 |bl i =>
  cases D;cases y with
  |fF=>cases z;exact PySem.EqNone.eq_bool_none (bu I q (by simp))
  |bl j=>cases z;exact eq_bool (bu I q Ay)
  |str j=>obtain⟨t',rfl⟩:=z;exact PySem.EqMixed.eq_bool_str (bu I q (by simp))
  |_=>exact U4 (show false=true from B) Pq
 |int i =>
  obtain⟨t,rfl⟩:=D;cases y with
  |fF=>cases z;exact PySem.EqNone.eq_int_none (bu I q (by simp))
  |int j=>obtain⟨t',rfl⟩:=z;exact eq_int (bu I q xa)
  |str j=>obtain⟨t',rfl⟩:=z;exact PySem.EqMixed.eq_int_str (bu I q (by simp))
  |_=>exact U4 (show false=true from B) Pq
 |str i =>
  obtain⟨t,rfl⟩:=D;cases y with
  |fF=>cases z;exact PySem.EqNone.eq_str_none (bu I q (by simp))
  |bl j=>cases z;exact PySem.EqMixed.eq_str_bool (bu I q (by simp))
  |int j=>obtain⟨t',rfl⟩:=z;exact PySem.EqMixed.eq_str_int (bu I q (by simp))
  |str j=>obtain⟨t',rfl⟩:=z;exact eq_str (bu I q xf)
  |_=>exact U4 (show false=true from B) Pq
 |Al i =>
  obtain⟨t,rfl⟩:=D;cases y with
  |Al j=>obtain⟨t',rfl⟩:=z;exact PySem.W.eq_bytes (bu I q xg)
  |_=>exact U4 (show false=true from B) Pq
 |_=>cases y <;> exact U4 (show false=true from B) Pq
theorem tH:jA X (VE .NotEq) rNe:=by
 intro pins s σ H x y v u Q I D z h;obtain⟨B,q⟩:=h;cases x with
 |fF =>
  cases D;cases y with
  |fF=>cases z;exact PySem.EqNone.ne_none_none (bu I q (by simp))
  |bl j=>cases z;exact PySem.EqNone.ne_none_bool (bu I q (by simp))
  |int j=>obtain⟨t',rfl⟩:=z;exact PySem.EqNone.ne_none_int (bu I q (by simp))
  |str j=>obtain⟨t',rfl⟩:=z;exact PySem.EqNone.ne_none_str (bu I q (by simp))
  |_=>exact U4 (show false=true from B) Pq
 |bl i =>
  cases D;cases y with
  |fF=>cases z;exact PySem.EqNone.ne_bool_none (bu I q (by simp))
  |bl j=>cases z;exact ne_bool (bu I q (congrArg not Ay))
  |str j=>obtain⟨t',rfl⟩:=z;exact PySem.EqMixed.ne_bool_str (bu I q (by simp))
  |_=>exact U4 (show false=true from B) Pq
 |int i =>
  obtain⟨t,rfl⟩:=D;cases y with
  |fF=>cases z;exact PySem.EqNone.ne_int_none (bu I q (by simp))
  |int j=>obtain⟨t',rfl⟩:=z;exact ne_int (bu I q (congrArg not xa))
  |str j=>obtain⟨t',rfl⟩:=z;exact PySem.EqMixed.ne_int_str (bu I q (by simp))
  |_=>exact U4 (show false=true from B) Pq
 |str i =>
  obtain⟨t,rfl⟩:=D;cases y with
  |fF=>cases z;exact PySem.EqNone.ne_str_none (bu I q (by simp))
  |bl j=>cases z;exact PySem.EqMixed.ne_str_bool (bu I q (by simp))
  |int j=>obtain⟨t',rfl⟩:=z;exact PySem.EqMixed.ne_str_int (bu I q (by simp))
  |str j=>obtain⟨t',rfl⟩:=z;exact ne_str (bu I q (congrArg not xf))
  |_=>exact U4 (show false=true from B) Pq
 |Al i =>
  obtain⟨t,rfl⟩:=D;cases y with
  |Al j=>obtain⟨t',rfl⟩:=z;exact PySem.W.ne_bytes (bu I q (congrArg not xg))
  |_=>exact U4 (show false=true from B) Pq
 |_=>cases y <;> exact U4 (show false=true from B) Pq
theorem dH:jA X (VE .Lt) (Fq λi j=>.bl (decide (i<j))):=Dw λ_ _ _ _ _ _ _ q=>lt_int q
theorem Az:jA X (VE .LtE) (Fq λi j=>.bl (decide (i<=j))):=Dw λ_ _ _ _ _ _ _ q=>le_int q
theorem jE:jA X (VE .Gt) (Fq λi j=>.bl (decide (j<i))):=Dw λ_ _ _ _ _ _ _ q=>gt_int q
theorem Fs:jA X (VE .GtE) (Fq λi j=>.bl (decide (j<=i))):=Dw λ_ _ _ _ _ _ _ q=>ge_int q
theorem Dy:jA X (VE .IsNot) (λx y H Q=>y=.fF/\Q (.bl (!decide (x=.fF))) H):=by
 intro pins s σ H x y v u Q I z B h;obtain⟨rfl,q⟩:=h;cases B;refine isnot_none_gen (bu I q ?_);cases x <;> first
  |(cases z;rfl)
  |(obtain⟨t,rfl⟩:=z;rfl)
theorem aJ(b:Vk){op:CmpOp}(h:op≠.In:=by decide)(z:op≠.NotIn:=by decide):W8 op b=false:=by
 have e1:(op==CmpOp.In)=false:=by cases op <;> first|rfl|exact U4 rfl h
 have e2:(op==CmpOp.NotIn)=false:=by cases op <;> first|rfl|exact U4 rfl z
 cases b <;> simp[W8,e1,e2]
theorem b9{op:CmpOp}{r:R2}(z:jA X (VE op) r)(B:PE X a ta)(D:PE X b tb)(J:W8 op b=false):PE X (.Compare a [op] [b] pos) (LC r ta tb):=by
 intro pins s σ H Q I h;exact wpAny_Compare1 (GB B D I h λv u L x y M O V Z q=>z pins L σ M x y v u Q O V Z q) J
def Ft(t:TE):TT:=λσ H Q=>t σ H λx z=>∃k,x=.bl k/\Q k z
theorem aI{op:CmpOp}{r:R2}(B:jA X (VE op) r)(D:PE X a ta)(J:PE X b tb)(L:W8 op b=false):PT X (.Compare a [op] [b] pos) (Ft (LC r ta tb)):=by
 intro pins s σ H Q I h;refine wpAny_isTrue_Compare1 (bR (D pins s σ H _ I h) λv M ⟨x,O,V,Z,q1⟩=>bR (J pins M σ O _ V q1) λu s2 ⟨y,H2,I2,r2,q2⟩ =>
  bR (B pins s2 σ H2 x y v u _ I2 Z r2 q2) λc s3 ⟨z,H3,I3,r3,k,e,q3⟩=>?_) L
 subst e;cases r3;exact VD ⟨H3,I3,q3⟩
def GC(r D:R2)(ta tb tc:TE):TE:=λσ H Q=>ta σ H λx J=>tb σ J λy L=>r x y L λz B=>∃k,z=.bl k /\
 (if k=true then tc σ B λw' M=>D y w' M Q else Q (.bl false) B)
theorem AA{op B:CmpOp}{r J:R2}(Z:jA X (VE op) r)(D:jA X (VE B) J)(ha:PE X a ta)(hb:PE X b tb)(hc:PE X c tc)
  (hm:lastMarks [op,B] [b,c]=false:=by with_unfolding_all rfl):PT X (.Compare a [op,B] [b,c] pos) (Ft (GC r J ta tb tc)):=by
 intro pins s σ H Q I h;refine isTrue_chain (bR (ha pins s σ H _ I h) λv s1 ⟨x,H1,I1,r1,q1⟩=>test_link (bR (hb pins s1 σ H1 _ I1 q1) λu s2 ⟨y,H2,I2,L,q2⟩ =>
  bR (Z pins s2 σ H2 x y v u _ I2 r1 L q2) λd s3 ⟨z,M,O,r3,k,e,V⟩=>?_)) hm
 subst e;cases r3;refine VD ?_;cases k with
 |false =>
  obtain⟨k',e',q'⟩:=V;cases e';exact ite_ff ⟨M,O,q'⟩
 |true =>
  refine ite_tt (test_last (bR (hc pins s3 σ M _ O V) λw' s4 ⟨z',H4,I4,r4,q4⟩=>bR (D pins s4 σ H4 y z' u w' _ I4 L r4 q4) λd' s5 zq=>?_));obtain⟨z2,H5,I5,r5,k2,e2,q5⟩:=zq;subst e2;cases r5;exact VD ⟨H5,I5,q5⟩
theorem rz:(U7:Nat)<2 ^ 63:=by rw[Vp];decide
theorem vals1{x:V}{z:List UW}(r:Vals [x] z):∃u,z=[u]/\RelV x u:=by
 cases r with
 |cons B D=>cases D;exact⟨_,rfl,B⟩
theorem vals2{x y:V}{z:List UW}(r:Vals [x,y] z):∃u w',z=[u,w']/\RelV x u/\RelV y w':=by
 cases r with
 |cons B D =>
  cases D with
  |cons H J=>cases J;exact⟨_,_,rfl,B,H⟩
theorem eZ:cO X (.builtin "abs") (λxs H Q=>∃i,xs=[.int i]/\Q (.int (if i<0 then -i else i)) H):=by
 intro pins s σ H xs z Q I r h;obtain⟨i,rfl,q⟩:=h;obtain⟨u,rfl,t,rfl⟩:=vals1 r;exact call_abs_int λu B=>⟨.int (if i<0 then -i else i),H,I.tok _,⟨_,rfl⟩,q⟩
theorem qf(B:X.calm=true):cO X (.builtin "max") (λxs H Q=>∃i j,xs=[.int i,.int j]/\Q (.int (if j>i then j else i)) H):=by
 intro pins s σ H xs D Q I r h;obtain⟨i,j,rfl,q⟩:=h;obtain⟨u,w',rfl,⟨t,rfl⟩,⟨t',rfl⟩⟩:=vals2 r;refine max_two_ints (I.ok.hd B) λh' J k=>⟨_,H,I.kept k,?_,q⟩
 by_cases z:j>i
 .rw[UZ z,UZ z];exact⟨_,rfl⟩
 rw[UX z,UX z];exact⟨_,rfl⟩
theorem gR:cO X (.type "int") (λxs H Q=>(∃i,xs=[.int i]/\Q (.int i) H)\/∃k,xs=[.bl k]/\Q (.int (if k then 1 else 0)) H):=by
 intro pins s σ H xs B Q I r h;rcases h with⟨i,rfl,q⟩|⟨k,rfl,q⟩
 .obtain⟨u,rfl,t,rfl⟩:=vals1 r;exact call_int_int ⟨.int i,H,I,⟨_,rfl⟩,q⟩
 obtain⟨u,rfl,z⟩:=vals1 r;cases z;exact call_int_bool ⟨.int (if k then 1 else 0),H,I.tok _,⟨_,rfl⟩,q⟩
end
structure GF(h:Vi) (x dx C:U0) (mA:Vl->Option UW):Prop where
 obj:h.get? x=YN (Tb C dx)
 ns:h.Ns1 dx mA
 ne:dx≠x
theorem yH{h:Vi}{D:U0}{H:Vl->Option UW}(n:h.Ns1 D H):∃J,h.get? D=YN J/\∀name,Tw name J=YN (H name):=by
 obtain⟨o,L,ep,M,hd,O,_,V⟩:=n;refine⟨o,M,λname=>?_⟩;have e:=V name;unfold nsFind findBy at e;rw[<-Array.find?_toList]at e;unfold Tw;rw[hd];dsimp only
 split
 .rename_i y q;rw[q]at e;exact congrArg some e
 rename_i q;rw[q]at e;have a:L.toList.any (·.refKey)=false:=by
  rw[List.any_eq_false];intro y Z;obtain⟨z,t,B⟩:=O y (Array.mem_toList_iff.mp Z);simp[DictEntry.refKey,B]
 have a':¬L.toList.any (·.refKey)=true:=by rw[a];exact Pq
 rw[UX a'];exact congrArg some e
theorem GF.look{h:Vi}{x B C:U0}{D:Vl->Option UW}(I:GF h x B C D):∃z,PySem.W.InstAt h x (Tb C B) C (YN z)/\∀name,Tw name z=YN (D name):=
 let⟨z,H,J⟩:=yH I.ns
 ⟨z,⟨I.obj,rfl,rfl,H⟩,J⟩
theorem j7.some_of{v:V}{o:Option UW}(r:j7 (YN v) o):∃u,o=YN u/\RelV v u:=by
 cases o with
 |none=>exact(show False from r).elim
 |some u=>exact⟨u,rfl,r⟩
section
variable {P:U8}{w:Va}{H M:Hp}{h h':Vi}{a C J:U0}{fs L:List (Vl×V)}
theorem Dz(bj:iG P w H h)(e:H a=YN (.ins C J fs)):∃B,GF h a J C B/\(∀f,j7 (fs.lookup f) (B f))/\PySem.Within B (fs.map (·.1))/\fs.length<=1000/\H J=YN (.own a):=by
 obtain⟨d,z,ne,D,B,n,r,q⟩:=(show bq P w H h a (.ins C J fs)from bj a _ e)
 exact⟨B,⟨D,n,ne⟩,r,q,z,d⟩
end
structure MM(K:Pc) (C:U0):Prop where
 pg:Up K C Str.empty=true
 hd:PySem.W.hasDictIn K C=true
 po:PySem.W.plainOver K C=true
 sa:UD K (.ref C) "__setattr__" = some (YN (.builtin "object.__setattr__"))
theorem MM.get{K:Pc}{C:U0}(c:MM K C)(f:Vl):Up K C f=true:=c.pg
section
variable {X:Cx}{pins:List (U0×VH)}{σ:St}{H:Hp}{s:U2}{A:Vh}{E:UW->U2->Prop}{Q:UW->U2->Prop}{c:UW}{b:Bool}
inductive lQ (K:Pc) (H:Hp): V->UW->Prop where
  |fF:lQ K H .fF (.type "NoneType")
  |bl (x:Bool): lQ K H (.bl x) (.type "bool")
  |int (i:Int): lQ K H (.int i) (.type "int")
  |str (x:Vl): lQ K H (.str x) (.type "str")
  |Fh (x:UInt64): lQ K H (.Fh x) (.type "float")
  |lst {a:U0} {xs:List V} (e:H a=YN (.lst xs)): lQ K H (.ref a) (.type "list")
  |gQ {a:U0} {o:VH} {xs:List V} (e:H a=YN (.gQ o (.lst xs))): lQ K H (.ref a) (.type "list")
  |tup {a:U0} {xs:List V} (e:H a=YN (.tup xs)): lQ K H (.ref a) (.type "tuple")
  |dK {a:U0} {kvs:List (Key×V)} (e:H a=YN (.dK kvs)): lQ K H (.ref a) (.type "dict")
  |dT {a:U0} {kvs:List (List Key×V)} (e:H a=YN (.dT kvs)): lQ K H (.ref a) (.type "dict")
  | ins {a C dx : U0} {fs : List (Vl × V)} (e : H a=YN (.ins C dx fs)) (cl : MM K C) (ha : UD K (.ref C) "__class__" = some (YN (.builtin "object.__class__")))
      (hn:PySem.W.specialIn K (.builtin "object.__class__") "__get__" = some (YN (.builtin "getset_descriptor.__get__"))) (htk:PySem.W.takesIn K (.builtin "object.__class__")=YN true)
      (hm:PySem.W.mroIn K C (.type "object")=YN true): lQ K H (.ref a) (.ref C)
theorem yI{x:V}{u t:UW}(I:Inv X pins σ H s)(B:RelV x u)(ty:lQ X.K H x t)(e:RK X.K t c=YN b)(h:∀tk,Q (.bool b) { s with toks:=tk }) :
  wpAny (model X.prog X.w) A (call (.builtin "isinstance") [u,c]) Q E s:=by
 cases ty with
 |fF=>cases(show u=Value.none from B);exact QN PySem.W.kitx_none I.tr True.intro e (λz=>nomatch z) h
 |bl y=>cases(show u=Value.bool y from B);exact QN PySem.W.kitx_bool I.tr True.intro e (λz=>nomatch z) h
 |int i=>obtain⟨t,q⟩:=(show∃t,u=Value.int i t from B);cases q;exact QN PySem.W.kitx_int I.tr True.intro e (λz=>nomatch z) h
 |str y=>obtain⟨t,q⟩:=(show∃t,u=Value.str y t from B);cases q;exact QN PySem.W.kitx_str I.tr True.intro e (λz=>nomatch z) h
 |Fh y=>obtain⟨t,q⟩:=(show∃t,u=Value.float y t from B);cases q;exact QN PySem.W.kitx_float I.tr True.intro e (λz=>nomatch z) h
 | @lst a xs D =>
  cases(show u=Value.ref a from B);obtain⟨_,_,n,_,L⟩:=(show bq X.prog X.w H s.heap a (.lst xs)from I.bj a _ D)
  exact QN TX I.tr ⟨_,L,rfl⟩ e (λz=>nomatch z) h
 | @gQ a ob xs D =>
  cases(show u=Value.ref a from B);obtain⟨_,_,_,n,_,L⟩:=(show bq X.prog X.w H s.heap a (.gQ ob (.lst xs))from I.bj a _ D)
  exact QN TX I.tr ⟨_,L,rfl⟩ e (λz=>nomatch z) h
 | @tup a xs D =>
  cases(show u=Value.ref a from B);obtain⟨_,_,_,p⟩:=(show bq X.prog X.w H s.heap a (.tup xs)from I.bj a _ D)
  obtain⟨o,L,M,_⟩:=p;exact QN PySem.W.kitx_tuple I.tr ⟨o,L,M⟩ e (λz=>nomatch z) h
 | @dK a kvs D =>
  cases(show u=Value.ref a from B);obtain⟨_,_,vs,_,p⟩:=(show bq X.prog X.w H s.heap a (.dK kvs)from I.bj a _ D)
  obtain⟨o,es,ep,L,M,_⟩:=p;exact QN TY I.tr ⟨o,L,M.1⟩ e (λz=>nomatch z) h
 | @dT a kvs D =>
  cases(show u=Value.ref a from B);obtain⟨_,_,xs,_,o,es,ep,L,M,_⟩:=(show bq X.prog X.w H s.heap a (.dT kvs)from I.bj a _ D)
  exact QN TY I.tr ⟨o,L,M.1⟩ e (λz=>nomatch z) h
 | @ins a C dx fs D cl ha hn Z hm =>
  cases(show u=Value.ref a from B);obtain⟨mA,O,_⟩:=Dz I.bj D;obtain⟨od,J,_⟩:=O.look;exact QN (PySem.W.kitx_own (cl.get _) cl.hd ha hn Z hm) I.tr J e (λz=>nomatch z) h
end
structure gJ(k:Nat) (A:Vh):Prop where
 hd:A.handled=none
 dp:A.depth+3*k+5<recursionLimit
 un:A.units+16*k+200<cLine
 gd:A.guards=YN []
theorem gJ.mono{j k:Nat}{A:Vh}(r:gJ k A)(h:j<=k):gJ j A:=⟨r.hd,by have:=r.dp;omega,by have:=r.un;omega,r.gd⟩
theorem gJ.deeper{k:Nat}{A:Vh}(r:gJ (k+1) A)(env:YK):gJ k (A.deeper env):=
 ⟨r.hd,by have:=r.dp;show A.depth+1+3*k+5<_;omega,by have:=r.un;show A.units+3+16*k+200<_;omega,r.gd⟩
theorem gJ.depth{k:Nat}{A:Vh}(r:gJ k A):A.depth<recursionLimit:=by have:=r.dp;omega
theorem gJ.units{k:Nat}{A:Vh}(r:gJ k A):A.units+64<cLine:=by have:=r.un;omega
def Jv:TA:=λ_ H Q=>Q [] H
def Fu(z:TE)(B:TA):TA:=λσ H Q=>z σ H λx D=>B σ D λxs J=>Q (x::xs) J
section
variable {X:Cx}{e:Vk}{es:List Vk}{te:TE}{t:TA}{pos:WG}
theorem ah:PA X [] Jv:=λ_ _ _ _ H Q I h=>Calls.spliced_nil ⟨[],H,I,.nil,h⟩
theorem af(z:PE X e te)(B:PA X es t)(D:Vf (e::es) X.env=(false,eval e X.env)::Vf es X.env:=by rfl):PA X (e::es) (Fu te t):=by
 intro pos pins s σ H Q I h;rw[D];show wpAny _ _ (spliced ((false,eval e X.env)::backTo pos (Vf es X.env))) _ _ s;refine Calls.spliced_cons (bR (z pins s σ H _ I h) λu J L=>?_);obtain⟨x,M,O,V,Z⟩:=L;exact bR (B pos pins J σ M _ O Z) λus s2 ⟨xs,H2,I2,r2,q2⟩=>⟨x::xs,H2,I2,.cons V r2,q2⟩
def MN(t:TA):TE:=λσ H Q=>t σ H λxs z=>xs.length<=U7/\∀p,z p=none->Q (.ref p) (upd z p (.tup xs))
def MO(t:TA):TE:=λσ H Q=>t σ H λxs z=>xs.length<=U7/\∀p,z p=none->Q (.ref p) (upd z p (.lst xs))
theorem nR{L}(h:PA X es t):PE X (.Tuple es L pos) (MN t):=by
 intro pins s σ H Q I M;refine wpAny_Tuple_spliced (bR (h pos pins s σ H _ I M) λO B ⟨xs,D,J,r,z,q⟩=>⟨by rw[<-r.length];exact z,?_⟩);have V:D B.heap.objs.size=none:=J.bj.fresh (O5 _);refine⟨.ref B.heap.objs.size,upd D B.heap.objs.size (.tup xs),J.laid (t':=B.toks) (λb u e=>O8 _ e) (O5 _) ?_,rfl,q _ V⟩;exact⟨z,O,r,⟨_,Pm _ rfl,rfl,_,rfl⟩⟩
theorem bJ(h:PA X es t):PE X (.List es pos) (MO t):=by
 intro pins s σ H Q I L;refine wpAny_List_spliced (bR (h pos pins s σ H _ I L) λM B ⟨xs,D,J,r,z,q⟩=>⟨by rw[<-r.length];exact z,?_⟩);have O:D B.heap.objs.size=none:=J.bj.fresh (O5 _);refine⟨.ref B.heap.objs.size,upd D B.heap.objs.size (.lst xs),J.laid (t':=B.toks) (λb u e=>O8 _ e) (O5 _) ?_,rfl,q _ O⟩;exact⟨z,M,0,r,Pm _ rfl⟩
end
noncomputable abbrev Sp:=List V->Hp->VK->XK->Prop
noncomputable abbrev C7:=List YK->Hp->U2->XK->UW->U2->Prop
structure DA(P:U8) (w:Va) (K:Pc) (mg:Vl->Option UW) (base:Vi) (A:Vh) (outer:List YK) (s:U2) (H:Hp):Prop where
 frames:A.frames=YN outer
 mod:Mod K mg base
 bs:∀b o,base.get? b=YN o->s.heap.get? b=YN o/\H b=none
 Fi:base.objs.size<=s.heap.objs.size
 nN:s.heap.FunFrames base outer
 IA:∀b∈Ac outer,H b=none
 bj:iG P w H s.heap
 bare:W4 s.gens
def CE(outer:List YK)(P:U8)(w:Va)(H:Hp)(s:U2)(Q:VK)(u:UW)(s':U2):Prop :=
 ∃v z,s'.os=s.os/\W4 s'.gens/\Un (Ac outer) [] H z s.heap s'.heap/\iG P w z s'.heap/\RelV v u/\Q v z
def CR(CX:C7)(outer:List YK)(P:U8)(w:Va)(H:Hp)(s:U2)(Q:VK)(E:XK)(r:Yq)(s':U2):Prop :=
 match r with
 |.ok (.ret u)=>CE outer P w H s Q u s'
 |.ok _=>False
 |.error e=>CX outer H s E e s'
structure aT(P:U8) (w:Va) (K:Pc) (mg:Vl->Option UW) (base:Vi) (CX:C7) (k:Nat) (f:U0) (fd:Ve) (ps:List Vl) (sp:Sp):Prop where
 len:∀vs H Q E,sp vs H Q E->vs.length=ps.length
 run:∀(A:Vh) (outer:List YK) (s:U2) (H:Hp) (args:Args) (us:List UW) (vs:List V) (Q:VK) (E:XK),gJ k A->DA P w K mg base A outer s H->Yk s fd args (ps.zip us)->Vals vs us->sp vs H Q E ->
  Wq (model P w) A (.call (.ref f) args) (CR CX outer P w H s Q E) s
section
variable {X:Cx}{pins:List (U0×VH)}{σ:St}{H:Hp}{s s':U2}
theorem Inv.MP(I:Inv X pins σ H s):DA X.prog X.w X.K X.mg X.base X.A X.stack s H :=
 ⟨I.ok.frames,I.ok.mod,I.bs,PK I.ok.Fi I.sz,I.stack,I.w5,I.bj,I.bare⟩
theorem Inv.after{Q:VK}{u:UW}(I:Inv X pins σ H s)(h:CE X.stack X.prog X.w H s Q u s'):EP X pins σ Q u s':=by
 obtain⟨v,D,os,bare,un,bj,r,q⟩:=h;obtain⟨J,g,d,t,B⟩:=s';obtain rfl:B=s.os:=os;exact⟨v,D,I.call (h':=J) (g':=g) (d':=d) (t':=t) (ch:=[]) un bj bare (λb z=>U4 z (by simp)),r,q⟩
end
def Fv(sp:Sp)(z:List V)(E:XK)(t:TA):TE:=λσ H Q=>t σ H λvs B=>sp (vs++z) B Q E
def Binds(K:Pc)(D:Ve)(ps:List Vl)(B:List UW):Prop :=
 ∀(s:U2) (z:List UW),K.In s.heap->(z++B).length=ps.length->Yk s D ⟨z,[]⟩ (ps.zip (z++B))
theorem Binds.all{K:Pc}{B:Ve}{ps:List Vl}(h:∀z:List UW,z.length=ps.length->WH B ⟨z,[]⟩=pure (ps.zip z)):Binds K B ps []:=λs z _ D=>by
 rw[Qh]at D⊢;exact .of_eq (h z D)
def Passes(CX:C7)(X:Cx)(E:XK):Prop:=∀(pins:List (U0×VH)) (σ:St) (H:Hp) (s:U2) (e:UW) (s':U2),Inv X pins σ H s->CX X.stack H s E e s'->X.xe e s'
section
variable {X:Cx}{CX:C7}{k:Nat}{f C:U0}{fd:Ve}{ps:List Vl}{sp:Sp}{IE:List V}{ds:List UW}{E:XK}{x m:Vl}{p pos apos:WG}{e o:Vk}{es:List Vk}{ta:TE}{t:TA}
theorem GG{pins:List (U0×VH)}{σ:St}{H:Hp}{s:U2}{Q:VK}{z:List UW}{vs:List V}(F:aT X.prog X.w X.K X.mg X.base CX k f fd ps sp)(J:gJ k X.A)(L:Binds X.K fd ps ds)(hd:Vals IE ds)(M:Passes CX X E)
  (I:Inv X pins σ H s) (r:Vals vs z) (h:sp (vs++IE) H Q E):wpAny (model X.prog X.w) X.A (call (.ref f) z) (EP X pins σ Q) X.xe s:=by
 have D:Vals (vs++IE) (z++ds):=r.append hd;have O:(z++ds).length=ps.length:=by rw[<-D.length];exact F.len _ _ _ _ h
 refine wpAny_call (Wr (F.run X.A X.stack s H ⟨z,[]⟩ (z++ds) (vs++IE) Q E J I.MP (L s z I.tr O) D h) λr s' B=>?_);cases r with
 |error e=>exact M pins σ H s e s' I B
 |ok fl =>
  cases fl with
  |ret u=>exact I.after B
  |next=>exact False.elim B
  |brk=>exact False.elim B
  |cont=>exact False.elim B
theorem DB(F:aT X.prog X.w X.K X.mg X.base CX k f fd ps sp)(J:gJ k X.A)(L:Gl X x)(M:X.mg x=YN (.ref f))(O:RL X.K (.ref f)=true)(V:Binds X.K fd ps ds)(hd:Vals IE ds)(Z:Passes CX X E)
  (ha:PA X (e::es) t) (z:(x==("__debug__":Vl))=false:=by decide) (he:Vf (e::es) X.env=(false,eval e X.env)::Vf es X.env:=by rfl) (B:(backTo pos (Vf es X.env)).any (·.1)=false:=by rfl) :
  PE X (.Call (.Name x p) (e::es) [] pos) (Fv sp IE E t):=by
 intro pins s σ H Q I h;refine WT (Du I L M ?_ z);refine PySem.W.callWith_K (h₀:=X.base) I.ok.mod.kin O (bR (ha pos pins s σ H _ I h) λus s1 ⟨vs,H1,D,r,q⟩=>⟨D.tr,?_⟩) he B;exact GG F J V hd Z D r q
end
structure aR(N P:List Vl) (sc:We):Prop where
 kind:sc.kind=.function
 co:sc.isCoroutine=false
 gen:sc.isGenerator=false
 nd:N.Nodup
 pre:N.take P.length=P
 par:∀x∈P,sc.names.lookup x=YN .local\/sc.names.lookup x=YN .cell
 GH:∀y∈sc.names,y.2≠.free
theorem qg{kindOf:Vl->Option Yr}{x:Vl}:∀{binds:List (Vl×UW)}{m:Vl->Option UW},(∀v,(x,v)∉binds)->bindL kindOf binds m x=m x
 |[],_,_=>rfl
 |(n,v)::r,m,h=>by
  unfold bindL;rw[qg λw hw=>h w (Pn _ hw)]
  split
  .have:x≠n:=by rintro rfl;exact h v Pb
   simp[this]
  rfl
theorem qh{kindOf:Vl->Option Yr}{x:Vl}:∀{binds:List (Vl×UW)}{m:Vl->Option UW},(∀v,(x,v)∉binds)->bindC kindOf binds m x=m x
 |[],_,_=>rfl
 |(n,v)::r,m,h=>by
  unfold bindC;rw[qh λw hw=>h w (Pn _ hw)]
  split
  .rfl
  have:x≠n:=by rintro rfl;exact h v Pb
  simp[this]
theorem qi{kindOf:Vl->Option Yr}{x:Vl}{v:UW}:∀{P:List Vl}{vs:List UW}{i:Nat}{m:Vl->Option UW},P.Nodup->P[i]?=YN x->vs[i]?=YN v->kindOf x=YN .local ->
  bindL kindOf (P.zip vs) m x=YN v
 |[],_,_,_,_,h,_,_=>by simp at h
 |_::_,[],_,_,_,_,h,_=>by simp at h
 |p::P,w::vs,0,m,nd,z,B,D=>by
  simp at z B;subst z;subst B;show bindL kindOf ((p,w)::P.zip vs) m p=_;unfold bindL;rw[qg λv H=>(Qj.mp nd).1 (Su H).1,UZ D];simp
 |p::P,w::vs,i+1,m,nd,z,B,D=>by
  show bindL kindOf ((p,w)::P.zip vs) m x=_;unfold bindL;exact qi (i:=i) (Qj.mp nd).2 (by simpa using z) (by simpa using B) D
theorem qj{kindOf:Vl->Option Yr}{x:Vl}{v:UW}:∀{P:List Vl}{vs:List UW}{i:Nat}{m:Vl->Option UW},P.Nodup->P[i]?=YN x->vs[i]?=YN v->kindOf x≠YN .local ->
  bindC kindOf (P.zip vs) m x=YN v
 |[],_,_,_,_,h,_,_=>by simp at h
 |_::_,[],_,_,_,_,h,_=>by simp at h
 |p::P,w::vs,0,m,nd,z,B,D=>by
  simp at z B;subst z;subst B;show bindC kindOf ((p,w)::P.zip vs) m p=_;unfold bindC;rw[qh λv H=>(Qj.mp nd).1 (Su H).1,UX D];simp
 |p::P,w::vs,i+1,m,nd,z,B,D=>by
  show bindC kindOf ((p,w)::P.zip vs) m x=_;unfold bindC;exact qj (i:=i) (Qj.mp nd).2 (by simpa using z) (by simpa using B) D
noncomputable def start(N:List Vl)(vs:List V):St:=vs.map some++Qr (N.length-vs.length) none
noncomputable def yJ(CX:C7)(P:U8)(w:Va)(K:Pc)(mg:Vl->Option UW)(base:Vi)(N:List Vl)(qual:Vl)(scope:We)(f:U0)(B:UW)(A:Vh)(outer:List YK)(s:U2)(H:Hp)(E:XK):Cx where
 prog:=P
 w:=w
 K:=K
 mg:=mg
 base:=base
 A:=A.deeper (envOfC qual scope s.heap.objs.size f B)
 N:=N
 s₀:=s
 H₀:=H
 env:=envOfC qual scope s.heap.objs.size f B
 outer:=outer
 stack:=envOfC qual scope s.heap.objs.size f B::outer
 ex:=[]
 calm:=true
 fn:=λ_=>true
 pn:=[]
 xe:=λe s'=>wpAny (model P w) (A.deeper (envOfC qual scope s.heap.objs.size f B)) (leaving (envOfC qual scope s.heap.objs.size f B) e) (λ_ z=>CX outer H s E e z) (λD z=>CX outer H s E D z) s'
theorem tI{z:We}{n:Nat}{x:Vl}(h:z.names.lookup x=YN .cell):∃c,(cellsFrom n z.names []).lookup x=YN c:=by
 have q:=S7 z.names n [] (.inl h);exact SM.mp q
theorem yK{CX:C7}{P:U8}{w:Va}{K:Pc}{mg:Vl->Option UW}{base:Vi}{N ps:List Vl}{qual:Vl}{scope:We}{f:U0}{Z:UW}{A:Vh}{outer:List YK}{s s1:U2}{H:Hp}{E:XK}{us:List UW}{vs:List V}
  (S:aR N ps scope) (hd:A.handled=none) (D:DA P w K mg base A outer s H) (hl:vs.length=ps.length) (r:Vals vs us)
  (x:InCallC s s.heap.objs.size (bindL (envOfC qual scope s.heap.objs.size f Z).kindOf (ps.zip us) λ_=>none) (cellsFrom (s.heap.objs.size+1) scope.names []) (bindC (envOfC qual scope s.heap.objs.size f Z).kindOf (ps.zip us) λ_=>none) s1) :
  Inv (yJ CX P w K mg base N qual scope f Z A outer s H E) [] (start N vs) H s1:=by
 have hpl:ps.length<=N.length:=by have:=congrArg Ro S.pre;rw[Pw]at this;omega
 obtain⟨h1,tk,rfl,hk⟩:=x.done;have J:∀b:U0,b∉(yJ CX P w K mg base N qual scope f Z A outer s H E).ex:=λb z=>U4 (show b∈([]:List U0)from z) (by simp);refine⟨⟨D.mod,S.kind,rfl,rfl,O5 _,λy z c h1 B=>?_,λy L=>?_,λy c _ h=>?_,λ_=>hd,Around.frames_deeper D.frames,.inr ⟨rfl,rfl⟩,λb z=>U4 z (J b),D.bs,D.Fi,λb _ _=>J b,λb z=>U4 z (J b),D.nN,D.IA⟩,
  rfl,D.bare,Un.kept hk,⟨_,x.toInCall.ns,λi y v h1 B h3=>?_⟩,λy c h=>⟨_,x.cell y c h⟩,D.bj.fresh (O5 _),λy c h=>?_,λp M=>U4 (show p∈([]:List (U0×VH))from M) (by simp),D.bj.kept hk,?_⟩
 .exact name_of_addr x.apart (PySem.mem_of_lookup h1) (PySem.mem_of_lookup B)
 .have L:scope.names.lookup y=YN .cell\/scope.names.lookup y=YN .free:=L;rcases L with L|L
  .exact tI L
  exact U4 rfl (S.GH _ (PySem.mem_of_lookup L))
 .exact Qx (x.above y c (PySem.mem_of_lookup h))
 .have hi:i<vs.length:=by
   unfold start at B;by_cases hi:i<vs.length
   .exact hi
   rw[Pg (by simpa using hi)]at B;rw[QS]at B
   split at B <;> cases B
  have ha:vs[i]?=YN v:=by
   unfold start at B;rw[Pk (by simpa using hi),O7]at B;cases e:vs[i]? with
   |none=>rw[e]at B;cases B
   |some a=>rw[e]at B;cases B;rfl
  obtain⟨u,hu,rv⟩:=r.get ha;have M:ps[i]?=YN y:=by
   rw[<-S.pre,List.getElem?_take_of_lt (by omega)];exact h1
  have O:ps.Nodup:=by rw[<-S.pre];exact S.nd.sublist (SN _ _)
  refine⟨u,rv,?_⟩;rcases S.par y (Pj M)with k|k
  .exact .inl ⟨k,qi O M hu k⟩
  obtain⟨c,e⟩:=tI (n:=s.heap.objs.size+1) k;refine .inr ⟨.inl k,c,e,?_⟩;have q:=x.cell y c e;rw[qj O M hu (by show scope.names.lookup y≠_;rw[k];decide)]at q;exact q
 .exact D.bj.fresh (Qx (x.above y c (PySem.mem_of_lookup h)))
 unfold start;show _=N.length;rw[O9,O3,Sa];omega
theorem Jw{CX:C7}{P:U8}{w:Va}{K:Pc}{mg:Vl->Option UW}{base:Vi}{k:Nat}{f:U0}{name qual:Vl}{params:Arguments}{body:List W3}{scope:We}{dV kV doc pm z ct oc:UW}{an od:Option U0}
  {MQ:Array (Option UW)}{N ps:List Vl}{sp:Sp} (lk:K.lookup f=YN ⟨oc,od,.func (QJ name qual params body scope dV kV doc pm an z ct),MQ⟩) (Fw:RM K z qual=true) (S:aR N ps scope)
  (len:∀vs H Q E,sp vs H Q E->vs.length=ps.length)
  (L:∀(A:Vh) (outer:List YK) (s:U2) (H:Hp) (vs:List V) (Q:VK) (E:XK),gJ k (A.deeper (envOfC qual scope s.heap.objs.size f z))->sp vs H Q E ->
   ∃t,sY (yJ CX P w K mg base N qual scope f z A outer s H E) body t/\t { nx:=λ_ D=>Q .fF D,rt:=Q } (start N vs) H) :
  aT P w K mg base CX (k+1) f (QJ name qual params body scope dV kV doc pm an z ct) ps sp:=by
 refine⟨len,λA outer s H args us vs Q E hr Z hb r nS=>?_⟩;have hl:=len _ _ _ _ nS;have KX:K.In s.heap:=Z.mod.kin.keeps λb o e=>(Z.bs b o e).1;have lim:s.heap.NoLimit:=Z.mod.nolimit.keeps λb o e=>(Z.bs b o e).1;have M:∀y∈ps.zip us,scope.names.lookup y.1=YN .local\/(scope.names.lookup y.1=YN .cell/\((cellsFrom (s.heap.objs.size+1) scope.names []).lookup y.1).isSome=true):=λ⟨n,v⟩ hy=>by
  rcases S.par n (Su hy).1 with q|q
  .exact .inl q
  exact .inr ⟨q,S7 _ _ _ (.inl q)⟩
 refine codeAny_call_function hr.depth (KX _ _ lk) rfl S.co S.gen rfl (PySem.W.codeRec_of KX Fw) (hb _ _ _ _ ?_);refine wpAny_newFunctionEnv_cells S.kind M λenv he s1 x=>?_;subst he;refine⟨lim.keeps x.toInCall.keep,codeAny_func ?_⟩;obtain⟨t,ht,hq⟩:=L A outer s H vs Q E (hr.deeper _) nS;have I:Inv (yJ CX P w K mg base N qual scope f z A outer s H E) [] (start N vs) H s1:=yK S hr.hd Z hl r x;refine V6 (ht [] s1 (start N vs) H _ I hq) (λfl s' O=>?_) λe s' O=>O;have fin:∀{B:St}{D:Hp}{v:V}{u:UW},Inv (yJ CX P w K mg base N qual scope f z A outer s H E) [] B D s'->RelV v u->Q v D->CE outer P w H s Q u s' :=
  λ{B D v u} J rv q=>⟨v,D,J.os,J.bare,J.base,J.bj,rv,q⟩
 cases fl with
 |ret u =>
  obtain⟨v,B,D,J,rv,q⟩:=O;exact fin J rv q
 |next =>
  obtain⟨B,D,J,q⟩:=O;exact fin (v:=V.fF) (u:=Value.none) J rfl q
 |brk =>
  obtain⟨_,_,_,q⟩:=O;exact False.elim q
 |cont =>
  obtain⟨_,_,_,q⟩:=O;exact False.elim q
section
variable {X:Cx}{x:Vl}{p pos:WG}{e:Vk}{es:List Vk}{t:TA}{id T:String}{r:List V->Hp->VK->Prop}
def tCB(r:List V->Hp->VK->Prop)(t:TA):TE:=λσ H Q=>t σ H λvs z=>r vs z Q
theorem aC(D:cO X (.builtin id) r)(J:Gl X x)(L:X.mg x=none)(M:Vo x=YN (.builtin id))(O:PA X (e::es) t)(V:x≠"__name__":=by decide)(z:(x==("__debug__":Vl))=false:=by decide)
  (Z:Vf (e::es) X.env=(false,eval e X.env)::Vf es X.env:=by rfl) (B:(backTo pos (Vf es X.env)).any (·.1)=false:=by rfl):PE X (.Call (.Name x p) (e::es) [] pos) (tCB r t):=by
 intro pins s σ H Q I h;refine WT (gH I J L M ?_ V z);exact Ue (bR (O pos pins s σ H _ I h) λus s1 ⟨vs,H1,I1,r1,q1⟩=>D pins s1 σ H1 vs us Q I1 r1 q1) Z B
theorem a8(D:cO X (.type T) r)(J:Gl X x)(L:X.mg x=none)(M:Vo x=YN (.type T))(O:PA X (e::es) t)(V:x≠"__name__":=by decide)(z:(x==("__debug__":Vl))=false:=by decide)
  (Z:Vf (e::es) X.env=(false,eval e X.env)::Vf es X.env:=by rfl) (B:(backTo pos (Vf es X.env)).any (·.1)=false:=by rfl):PE X (.Call (.Name x p) (e::es) [] pos) (tCB r t):=by
 intro pins s σ H Q I h;refine WT (gH I J L M ?_ V z);exact Qw (bR (O pos pins s σ H _ I h) λus s1 ⟨vs,H1,I1,r1,q1⟩=>D pins s1 σ H1 vs us Q I1 r1 q1) Z B
end
section
variable {κ:Type}[DecidableEq κ]
noncomputable def bA(kvs:List (κ×V))(k:κ):Option V:=(kvs.find? λz=>decide (z.1=k)).map (·.2)
noncomputable def putK(kvs:List (κ×V))(k:κ)(v:V):List (κ×V):=
 if(kvs.any λz=>decide (z.1=k))=true then kvs.map (λz=>if z.1=k then(z.1,v)else z)else kvs++[(k,v)]
theorem cP{p:κ×V}{r:List (κ×V)}{k:κ}(e:p.1=k):bA (p::r) k=YN p.2:=by simp[bA,Q4,e]
theorem cQ{p:κ×V}{r:List (κ×V)}{k:κ}(e:¬p.1=k):bA (p::r) k=bA r k:=by simp[bA,Q4,e]
theorem fb(k:κ):∀kvs:List (κ×V),(kvs.any λz=>decide (z.1=k))=(bA kvs k).isSome
 |[]=>rfl
 |p::r=>by
  rw[RC];by_cases e:p.1=k
  .simp only[cP e,UU e,Sx,Option.isSome_some]
  rw[cQ e,U1 e,Sq];exact fb k r
theorem tJ(k j:κ)(y:V):∀kvs:List (κ×V),bA (kvs.map λB=>if B.1=k then(B.1,y)else B) j=(bA kvs j).map λx=>if j=k then y else x
 |[]=>rfl
 |p::r=>by
  have D:=tJ k j y r;rw[Qk];by_cases h:p.1=k
  .rw[UZ h];by_cases e:p.1=j
   .rw[cP (p:=(p.1,y)) e,cP e,Ry,UZ (e.symm.trans h)]
   rw[cQ (p:=(p.1,y)) e,cQ e,D]
  rw[UX h];by_cases e:p.1=j
  .rw[cP (p:=p) e,cP e,Ry,UX (λz=>h (e.trans z))]
  rw[cQ (p:=p) e,cQ e,D]
theorem qm(k j:κ)(y:V):∀kvs:List (κ×V),bA kvs k=none->bA (kvs++[(k,y)]) j=if j=k then some y else bA kvs j
 |[],_=>by
  by_cases e:k=j
  .rw[UZ e.symm];exact cP (p:=(k,y)) e
  rw[UX (λz=>e z.symm)];exact cQ (p:=(k,y)) e
 |p::r,B=>by
  rw[Uq];have D:¬p.1=k:=λz=>by rw[cP z]at B;cases B
  rw[cQ D]at B;have H:=qm k j y r B;by_cases e:p.1=j
  .rw[cP e,cP e,UX (λz=>D (e.trans z))]
  rw[cQ e,cQ e,H]
theorem fU(kvs:List (κ×V))(k j:κ)(y:V):bA (putK kvs k y) j=if j=k then some y else bA kvs j:=by
 unfold putK;by_cases a:(kvs.any λz=>decide (z.1=k))=true
 .rw[UZ a,tJ];rw[fb]at a;by_cases e:j=k
  .obtain⟨x,B⟩:=SM.mp a;rw[UZ e,e,B,Ry,UZ rfl]
  rw[UX e];cases bA kvs j with
  |none=>rfl
  |some x=>rw[Ry,UX e]
 rw[UX a];refine qm k j y kvs ?_;rw[fb]at a;cases q:bA kvs k with
 |none=>rfl
 |some x=>rw[q]at a;exact(a rfl).elim
theorem bU(kvs:List (κ×V))(k:κ)(v:V):(putK kvs k v).length<=kvs.length+1:=by
 unfold putK
 split
 .rw[O3];omega
 rw[O9,Si,UB];omega
theorem iO{kvs:List (κ×V)}{k:κ}(v:V)(h:bA kvs k=none):putK kvs k v=kvs++[(k,v)]:=by
 unfold putK;rw[fb,h];exact UX (by decide)
theorem j7.qo{o:Option V}{u:Option UW}(r:j7 o u):o.isSome=u.isSome:=by
 cases o with
 |none=>cases u with
  |none=>rfl
  |some _=>exact(show False from r).elim
 |some _=>cases u with
  |none=>exact(show False from r).elim
  |some _=>rfl
theorem KV.val{kvs:List (κ×V)}{vs:List (κ×UW)}(r:KV kvs vs)(k:κ):j7 (bA kvs k) (XC vs k):=by
 unfold KV at r
 induction r with
 |nil=>exact True.intro
 | @cons p q ps B h t J =>
  obtain⟨H,L⟩:=h;by_cases e:p.1=k
  .have D:q.1=k:=H.symm.trans e;have b:XC (q::B) k=YN q.2:=by simp[XC,Q4,D]
   rw[cP e,b];exact L
  have D:¬q.1=k:=λz=>e (H.trans z);have b:XC (q::B) k=XC B k:=by simp[XC,Q4,D]
  rw[cQ e,b];exact J
theorem KV.any{kvs:List (κ×V)}{vs:List (κ×UW)}(r:KV kvs vs)(k:κ):(kvs.any λz=>decide (z.1=k))=vs.any λz=>decide (z.1=k):=by
 unfold KV at r
 induction r with
 |nil=>rfl
 |cons h t B=>rw[RC,RC,B,h.1]
theorem KV.GJ{kvs:List (κ×V)}{vs:List (κ×UW)}(r:KV kvs vs)(k:κ){y:V}{u:UW}(H:RelV y u) :
  KV (kvs.map λB=>if B.1=k then(B.1,y)else B) (vs.map λB=>if B.1=k then(B.1,u)else B):=by
 unfold KV at r⊢
 induction r with
 |nil=>exact .nil
 | @cons p q ps M h t J =>
  rw[Qk,Qk];refine .cons ?_ J;obtain⟨D,L⟩:=h;by_cases e:p.1=k
  .rw[UZ e,UZ (D.symm.trans e)];exact⟨D,H⟩
  rw[UX e,UX (λz=>e (D.trans z))];exact⟨D,L⟩
theorem KV.put{kvs:List (κ×V)}{vs:List (κ×UW)}(r:KV kvs vs)(k:κ){y:V}{u:UW}(z:RelV y u):KV (putK kvs k y) (stored vs k u):=by
 unfold putK stored;rw[r.any k];by_cases e:(vs.any λB=>decide (B.1=k))=true
 .rw[UZ e,UZ e];exact r.GJ k z
 rw[UX e,UX e];exact Paired.snoc r ⟨rfl,z⟩
theorem KV.length{kvs:List (κ×V)}{vs:List (κ×UW)}(r:KV kvs vs):kvs.length=vs.length:=Paired.length r
end
theorem qq{P:U8}{w:Va}{k:Key}{u:UW}(r:RelV (kV k) u):(aZ P w).is k u=true:=by
 cases k with
 |inl i=>obtain⟨t,e⟩:=(show∃t,u=Value.int i t from r);subst e;exact ti P w i t
 |inr x=>obtain⟨t,e⟩:=(show∃t,u=Value.str x t from r);subst e;exact tj P w x t
theorem qr{P:U8}{w:Va}:∀{ks:List Key}{z:List UW},Vals (ks.map kV) z->ItemsAre (aZ P w) ks z
 |[],_,r=>by rw[Tc]at r;cases r;exact .nil
 |k::ks,_,r=>by
  rw[Qk]at r;cases r with
  |cons h t=>exact .cons (qq h) (qr t)
abbrev KT(H:Hp):List (List Key×V)->List (List Key×U0×UW)->Prop:=Paired λp q=>p.1=q.1/\H q.2.1=YN (.tup (p.1.map kV))/\RelV p.2 q.2.2
theorem KT.val{H:Hp}{kvs:List (List Key×V)}{xs:List (List Key×U0×UW)}(r:KT H kvs xs)(k:List Key):j7 (bA kvs k) ((atKey xs k).map (·.2)):=by
 induction r with
 |nil=>exact True.intro
 | @cons p q ps B h t L =>
  obtain⟨J,_,M⟩:=h;by_cases e:p.1=k
  .have D:q.1=k:=J.symm.trans e;have b:atKey (q::B) k=YN q.2:=by simp[atKey,Q4,D]
   rw[cP e,b];exact M
  have D:¬q.1=k:=λz=>e (J.trans z);have b:atKey (q::B) k=atKey B k:=by simp[atKey,Q4,D]
  rw[cQ e,b];exact L
theorem KT.GJ{H:Hp}{kvs:List (List Key×V)}{xs:List (List Key×U0×UW)}(r:KT H kvs xs)(k:List Key){y:V}{u:UW}(L:RelV y u) :
  KT H (kvs.map λD=>if D.1=k then(D.1,y)else D) (xs.map (putAt k u)):=by
 induction r with
 |nil=>exact .nil
 | @cons p q ps Z h t M =>
  rw[Qk,Qk];refine .cons ?_ M;obtain⟨B,J,O⟩:=h;unfold putAt;by_cases e:p.1=k
  .rw[UZ e,UZ (B.symm.trans e)];exact⟨B,J,L⟩
  rw[UX e,UX (λz=>e (B.trans z))];exact⟨B,J,O⟩
theorem KT.put{H:Hp}{kvs:List (List Key×V)}{xs:List (List Key×U0×UW)}(r:KT H kvs xs)(k:List Key){b:U0}{y:V}{u:UW}(B:H b=YN (.tup (k.map kV)))(z:RelV y u) :
  KT H (putK kvs k y) (XU xs k b u):=by
 have e:(kvs.any λD=>decide (D.1=k))=(atKey xs k).isSome:=by
  rw[fb,(r.val k).qo,TZ]
 unfold putK XU;rw[e];by_cases q:(atKey xs k).isSome=true
 .rw[UZ q,UZ q];exact r.GJ k z
 rw[UX q,UX q];exact Paired.snoc r ⟨rfl,B,z⟩
theorem KT.keeps{H B:Hp}{kvs:List (List Key×V)}{xs:List (List Key×U0×UW)}(r:KT H kvs xs)(D:∀b ys,H b=YN (.tup ys)->B b=YN (.tup ys)):KT B kvs xs :=
 Paired.q9 r λ_ _ z=>⟨z.1,D _ _ z.2.1,z.2.2⟩
section
variable {P:U8}{w:Va}{H:Hp}{h:Vi}{a:U0}
theorem Fx{u:HO}(ok:iG P w H h)(e:Rd H a u):bq P w H h a u:=e.ok ok
theorem xh{kvs:List (Key×V)}(ok:iG P w H h)(e:Rd H a (.dK kvs)):kvs.length<=U7/\(a==Vr)=false/\∃vs,KV kvs vs/\h.DictOf (aZ P w) a vs :=
 show bq P w H h a (.dK kvs)from Fx ok e
theorem tK{kvs:List (Key×V)}(ok:iG P w H h)(e:H a=YN (.dK kvs)):kvs.length<=U7/\(a==Vr)=false/\∃vs,KV kvs vs/\h.DictOf (aZ P w) a vs:=xh ok (.inl e)
theorem lR{ks:List Key}(ok:iG P w H h)(e:H a=YN (.tup (ks.map kV))):(WR (aZ P w)).is h ks a:=by
 obtain⟨_,its,r,o,z,B,n,D⟩:=(show bq P w H h a (.tup (ks.map kV))from ok a _ e)
 exact⟨o,its.toArray,n,z,B,D,by simpa using qr r⟩
theorem xi{kvs:List (List Key×V)}(ok:iG P w H h)(e:Rd H a (.dT kvs)):kvs.length<=U7/\(a==Vr)=false /\
  ∃xs,KT H kvs xs/\h.DictOfH (WR (aZ P w)) a xs:=by
 obtain⟨z,y,xs,r,o,J,ep,L,M,O,Z,h5⟩:=(show bq P w H h a (.dT kvs)from Fx ok e)
 refine⟨z,y,xs,r,o,J,ep,L,M,O,Z,λx B=>?_,h5⟩;have all:∀{l:List (List Key×V)}{m:List (List Key×U0×UW)},KT H l m->∀x∈m,(WR (aZ P w)).is h x.1 x.2.1:=by
  intro l m q
  induction q with
  |nil=>intro x B;exact nomatch B
  | @cons p q ps qs D t ih =>
   intro x B;rcases Pu.mp B with e|B
   .subst e;exact lR ok (by rw[<-D.1];exact D.2.1)
   exact ih x B
 exact all r x B
theorem AB {kvs : List (List Key × V)}(ok : iG P w H h)(e : H a=YN (.dT kvs)) : kvs.length <= U7 /\ (a == Vr)=false /\
    ∃xs,KT H kvs xs/\h.DictOfH (WR (aZ P w)) a xs:=xi ok (.inl e)
end
def nT(H:Hp)(a:U0)(y:V)(r:Option V):Prop :=
 (∃kvs k,Rd H a (.dK kvs)/\y=kV k/\r=bA kvs k)\/∃kvs k b,Rd H a (.dT kvs)/\y=.ref b/\H b=YN (.tup (k.map kV))/\r=bA kvs k
def pE(H:Hp)(a:U0)(y v:V)(z:Hp):Prop :=
 (∃kvs k,H a=YN (.dK kvs)/\y=kV k/\kvs.length<U7/\z=upd H a (.dK (putK kvs k v))) \/
 ∃kvs k b,H a=YN (.dT kvs)/\y=.ref b/\H b=YN (.tup (k.map kV))/\kvs.length<U7/\z=upd H a (.dT (putK kvs k v))
theorem nT.k{H:Hp}{a:U0}{kvs:List (Key×V)}{k:Key}(e:H a=YN (.dK kvs)):nT H a (kV k) (bA kvs k):=.inl ⟨kvs,k,.inl e,rfl,rfl⟩
theorem pE.k{H:Hp}{a:U0}{kvs:List (Key×V)}{k:Key}{v:V}(e:H a=YN (.dK kvs))(z:kvs.length<U7):pE H a (kV k) v (upd H a (.dK (putK kvs k v))):=.inl ⟨kvs,k,e,rfl,z,rfl⟩
section
variable {X:Cx}{pins:List (U0×VH)}{σ:St}{H:Hp}{s:U2}{a:U0}{y v:V}{u r:UW}{o:Option V}{A:Vh}{E:UW->U2->Prop}
theorem Inv.big(I:Inv X pins σ H s):Vr<s.heap.objs.size:=by
 have h:Vs<s.heap.objs.size:=(I.mod.glob.keeps I.bk).lt;exact Ug (by decide) h
theorem yL{Q:UW->U2->Prop}(V:A.units+1<cLine)(I:Inv X pins σ H s)(g:nT H a y (YN v))(O:RelV y u)(h:∀w' s',Inv X pins σ H s'->RelV v w'->Q w' s') :
  wpAny (model X.prog X.w) A (XD (.ref a) u) Q E s:=by
 rcases g with⟨kvs,k,e,J,l⟩|⟨kvs,k,b,e,J,Z,l⟩
 .subst J;obtain⟨z,hd,vs,B,L⟩:=xh I.bj e;obtain⟨w',hw,D⟩:=j7.some_of (v:=v) (o:=XC vs k) (by rw[l];exact B.val k);exact wpAny_getItem_of (qq O) L.mapOf hw (h w' _ (I.tok _) D)
 subst J;cases(show u=Value.ref b from O);obtain⟨z,hd,xs,B,L⟩:=xi I.bj e;obtain⟨w',hw,D⟩:=j7.some_of (v:=v) (o:=(atKey xs k).map (·.2)) (by rw[l];exact B.val k);obtain⟨p,hp,M⟩:=Pl.mp hw;refine WU (WV V) (lR I.bj Z) L hp ?_;rw[M];exact h w' _ (I.tok _) D
theorem jq{h':Vi}{t':Nat}{B:HO}(I:Inv X pins σ H s)(D:Gv (H a))(J:Heap.SameBut a s.heap h')(L:∃q,h'.get? a=YN q)(new:bq X.prog X.w (upd H a B) h' a B) :
  Inv X pins σ (upd H a B) { s with heap:=h',toks:=t' }:=
 I.write (x:=a) (e:=a) D (.inl rfl) (λb q M z=>(J.2 b M).trans z) L new
theorem AD {P : U8}{w : Va}{D : Hp}{h' : Vi}{kvs : List (Key × V)}{vs : List (Key × UW)}(z : kvs.length <= U7)(hd : (a == Vr)=false)(B : KV kvs vs)(H : h'.DictOf (aZ P w) a vs) :
    bq P w D h' a (.dK kvs):= ⟨z,hd,vs,B,H⟩
theorem yM{H':Hp}{Q:Unit->U2->Prop}(hu:A.units+1<cLine)(I:Inv X pins σ H s)(g:pE H a y v H')(ry:RelV y u)(rv:RelV v r)(h:∀s',Inv X pins σ H' s'->Q () s') :
  wpAny (model X.prog X.w) A (YF (.ref a) u r) Q E s:=by
 rcases g with⟨kvs,k,e,L,l,M⟩|⟨kvs,k,b,e,L,eb,l,M⟩
 .subst L M;obtain⟨z,hd,vs,B,O⟩:=tK I.bj e;have hz:vs.length<=sizeLine:=by rw[<-B.length];exact z
  have V:(putK kvs k v).length<=sizeLine:=by have:=bU kvs k v;omega
  refine wpAny_setItem_pairs (hsz:=hz) (qq ry) O λh' D Z=>h _ ?_;have he:∃q,h'.get? a=YN q:=let⟨q,_,_,J,_⟩:=D;⟨q,J⟩
  exact jq I (by rw[e];exact True.intro) Z he (AD V hd (B.put k rv) D)
 subst L M;cases(show u=Value.ref b from ry);obtain⟨z,hd,xs,B,O⟩:=AB I.bj e;have hz:xs.length<=sizeLine:=by rw[<-Paired.length B];exact z
 have V:(putK kvs k v).length<=sizeLine:=by have:=bU kvs k v;omega
 refine XO (hsz:=hz) (WV hu) (lR I.bj eb) O λh' D Z=>h _ ?_;obtain⟨q,es,ep,J,h2,h3,h4,_,h5⟩:=D;refine jq I (by rw[e];exact True.intro) Z ⟨q,J⟩ ⟨V,hd,_,(B.put k eb rv).keeps λc ys ec=>?_,q,es,ep,J,h2,h3,h4,h5⟩;rw[au (Am ec e (λz=>nomatch z))];exact ec
end
def AE(i:Vk):Prop:=∀z B,Xq i false z B=operate [z,B] (XD z B)
theorem rA{prog:U8}{w:Va}{A:Vh}{E:UW->U2->Prop}{s:U2}{env:YK}{value slice:Vk}{pos:WG}{T id:String}{Q:UW->U2->Prop}
  (O:XQ (.type T) "__getitem__" = pure (YN (.builtin id))) (V:AE slice)
  (h:wpAny (model prog w) A (eval value env) (λo D=>wpAny (model prog w) A (eval slice env) (λi z=>z.TypeIs o T/\wpAny (model prog w) A (XD o i) Q E z) E D) E s) :
  wpAny (model prog w) A (eval (.Subscript value slice pos) env) Q E s:=by
 refine Ys (V6 h (λo D J=>V6 J (λi z B=>?_) λ_ _ x=>x) λ_ _ x=>x);obtain⟨M,B⟩:=B;unfold XI;refine UR ?_;rw[getitemInPython_of_ne M.not_modules];refine UR (VM M O ?_);have fin:wpAny (model prog w) A (Xq slice false o i) (λr H=>wpAny (model prog w) A (letTemporaryGo value o r >>= λ_=>pure r) Q E H) E z:=by
  rw[V o i];exact wpAny_operating (V6 B (λr H L=>UR (wpAny_letTemporaryGo (UY L))) λ_ _ x=>x)
 first
  |exact UY (UR fin)
  |exact UR (UY (UR fin))
  |exact UR fin
theorem tL{X:Cx}{pins:List (U0×VH)}{σ:St}{H:Hp}{s:U2}{a:U0}{y:V}{o:Option V}(I:Inv X pins σ H s)(g:nT H a y o):s.TypeIs (.ref a) "dict":=by
 rcases g with⟨kvs,k,e,_,_⟩|⟨kvs,k,b,e,_,_,_⟩
 .obtain⟨_,_,vs,_,z⟩:=xh I.bj e;exact z.typeIs
 obtain⟨_,_,xs,_,z⟩:=xi I.bj e;exact z.typeIs
def Jx(B ty:TE):TE:=λσ H Q=>B σ H λx D=>ty σ D λy z=>∃a v,x=.ref a/\nT z a y (YN v)/\Q v z
def Jy(B ty J:TE):TS:=λD σ H=>J σ H λv L=>B σ L λx M=>ty σ M λy O=>∃a z,x=.ref a/\pE O a y v z/\D.nx σ z
section
variable {X:Cx}{o i e value:Vk}{pos pos' MR:WG}{td ty tv:TE}
theorem j9(D:X.A.units+1<cLine)(J:PE X o td)(hi:PE X i ty)(L:AE i):PE X (.Subscript o i pos) (Jx td ty):=by
 intro pins s σ H Q I h;refine rA RN.lookup L (bR (J pins s σ H _ I h) λu M ⟨x,O,V,Z,q1⟩=>bR (hi pins M σ O _ V q1) λiv s2 zq=>?_);obtain⟨y,H2,B,ry,a,v,ex,g,q2⟩:=zq;subst ex;obtain rfl:u=Value.ref a:=Z;exact⟨tL B g,yL D B g ry λw' s3 I3 z=>⟨v,H2,I3,z,q2⟩⟩
theorem ni(z:X.A.units+1<cLine)(B:PE X o td)(hi:PE X i ty)(J:PE X value tv)(L:Xe value (YN (.Subscript o i pos')) pos.line X.env=pure false) :
  PS X (.Assign [.Subscript o i pos'] value pos) (Jy td ty tv):=by
 intro pins s σ H D I h;refine Xi (bR (J pins s σ H _ I h) λr M ⟨v,O,V,Z,q1⟩=>bR (B pins M σ O _ V q1) λu s2 ⟨x,H2,I2,rx,q2⟩=>bR (hi pins s2 σ H2 _ I2 q2) λiv s3 zq=>?_) L;obtain⟨y,H3,I3,ry,a,H4,ex,g,q3⟩:=zq;subst ex;obtain rfl:u=Value.ref a:=rx;exact yM z I3 g ry Z λs4 I4=>⟨σ,H4,I4,q3⟩
end
theorem AF{P:U8}{w:Va}{H:Hp}(h:Vi)(z:Vr<h.objs.size):bq P w H (h.push { cls:=.type "dict",data:=.dict #[] }) h.objs.size (.dK []):=
 ⟨Qb _,beq_eq_false_iff_ne.mpr (Ne.symm (PH z)),[],.nil,Heap.DictOf.new h⟩
theorem AG{P:U8}{w:Va}{H:Hp}(h:Vi)(z:Vr<h.objs.size):bq P w H (h.push { cls:=.type "dict",data:=.dict #[] }) h.objs.size (.dT []):=
 ⟨Qb _,beq_eq_false_iff_ne.mpr (Ne.symm (PH z)),[],.nil,_,#[],0,Pm _ rfl,⟨rfl,rfl,rfl⟩,rfl,rfl,QK⟩
def GL:TE:=λ_ H Q=>∀p,H p=none->Q (.ref p) (upd H p (.dK []))
def GN:TE:=λ_ H Q=>∀p,H p=none->Q (.ref p) (upd H p (.dT []))
section
variable {X:Cx}{pos:WG}
theorem iP:PE X (.Dict [] [] pos) GL:=λpins s σ H Q I h =>
 Xf ⟨.ref s.heap.objs.size,_,I.laid (a:=s.heap.objs.size) (o:=.dK []) (t':=s.toks) (λ_ _ q=>O8 _ q) (O5 _) (AF s.heap I.big),rfl,h _ (I.bj.fresh (O5 _))⟩
theorem AH:PE X (.Dict [] [] pos) GN:=λpins s σ H Q I h =>
 Xf ⟨.ref s.heap.objs.size,_,I.laid (a:=s.heap.objs.size) (o:=.dT []) (t':=s.toks) (λ_ _ q=>O8 _ q) (O5 _) (AG s.heap I.big),rfl,h _ (I.bj.fresh (O5 _))⟩
end
structure M2(X:Cx) (o:Vk) (m:Vl) (apos:WG) (e f:Vk) (gT:WG):Prop where
 base:VW o m X.env (eval o X.env)=eval o X.env
 few:((backTo gT (Vf [e,f] X.env)).all (λx=>!x.1)&&(XW gT (W5 [] X.env)).all (λx=>x.1.isSome)
  && decide (([e,f]:List Vk).length+([]:List WN).length+(if([]:List WN).isEmpty then 0 else 1)<30))=true
 line:(apos.endLine==gT.line)=true
 trees:backTo gT (Vf [e,f] X.env)=[(false,eval e X.env),(false,eval f X.env)]
def MS(H:Hp)(a:U0):Prop:=(∃kvs,Rd H a (.dK kvs))\/∃kvs,Rd H a (.dT kvs)
theorem AI{X:Cx}{pins:List (U0×VH)}{σ:St}{H:Hp}{s:U2}{a:U0}(I:Inv X pins σ H s)(d:MS H a) :
  s.TypeIs (.ref a) "dict"/\(∀b,Value.ref a=.ref b->∃z,s.heap.get? b=YN z/\z.dict=none)/\(a==Vr)=false:=by
 rcases d with⟨kvs,e⟩|⟨kvs,e⟩
 .obtain⟨_,hd,vs,_,B⟩:=xh I.bj e;refine⟨B.typeIs,λb q=>?_,hd⟩;cases q;obtain⟨z,_,_,D,J,_⟩:=B;exact⟨z,D,J.2.1⟩
 obtain⟨_,hd,xs,_,B⟩:=xi I.bj e;refine⟨B.typeIs,λb q=>?_,hd⟩;cases q;obtain⟨z,_,_,D,J,_⟩:=B;exact⟨z,D,J.2.1⟩
end L2
namespace HT
open PySem PyProof.Rows
section
variable {prog:U8}{w:Va}{A:Vh}{E:UW->U2->Prop}{s:U2}
theorem DC{t b:U0}{vs z:List UW}{Q:UW->U2->Prop}(ht:IsTup s.heap t vs.toArray)(hb:IsTup s.heap b z.toArray)(M:vs≠[])
  (h1:z=[]->Q (.ref t) s) (h2:z≠[]->Q (.ref s.heap.objs.size) { s with heap:=s.heap.push { cls:=.type "tuple",data:=.seq (vs++z).toArray } })
  (hsz:vs.length+z.length<=U7):wpAny (model prog w) A (V1 .Add (.ref t) (.ref b)) Q E s:=by
 obtain⟨⟨cls,O,data,V⟩,L,Z,n,hd⟩:=id ht;obtain⟨⟨Jz,D,data2,H⟩,B,J,n2,hd2⟩:=id hb;simp only at Z hd J hd2;subst Z hd J hd2;have e:vs.toArray++z.toArray=(vs++z).toArray:=by simp
 by_cases hw:z=[]
 .exact Xj ⟨_,L,rfl⟩ ⟨_,B,rfl⟩ WB W9 Rt Rq (Rk _ _)
   (tuple_addW1 t b vs.toArray z.toArray n n2 O D V H (by simpa using M) (by simp[hw])) ⟨L,B,h1 hw⟩
 refine Xj ⟨_,L,rfl⟩ ⟨_,B,rfl⟩ WB W9 Rt Rq (Rk _ _)
  (tuple_addW2 t b vs.toArray z.toArray n n2 O D V H (by simpa using M) (by simpa using hw) (by rw[Pe,Pe];exact hsz)) ⟨L,B,?_⟩
 rw[e];exact h2 hw
noncomputable def lK(n d:Nat):Option Int->Nat
 |none=>d
 |some v=>if v<0 then(v+(n:Int)).toNat else min v.toNat n
end
end HT
namespace L2
open PySem PySem.Spec PyProof.Rows
noncomputable abbrev TO:=St->Hp->(Option Int->Hp->Prop)->Prop
def PO(X:Cx)(e:Option Vk)(t:TO):Prop :=
 ∀(pins:List (U0×VH)) (s:U2) (σ:St) (H:Hp) (Q:Option Int->Hp->Prop),Inv X pins σ H s->t σ H Q ->
  wpAny (model X.prog X.w) X.A (evalPart e X.env) (λu s'=>∃o z,Inv X pins σ z s'/\IsPart u o/\Q o z) X.xe s
noncomputable def DD:TO:=λ_ H Q=>Q none H
noncomputable def JA(t:TE):TO:=λσ H Q=>t σ H λx z=>∃i,x=.int i/\Q (YN i) z
theorem intsAre_of{ns:List Int}:∀{z:List UW},Vals (ns.map V.int) z->W6 z ns:=by
 induction ns with
 |nil=>intro z r;rw[Tc]at r;cases r;exact .nil
 |cons n ns B =>
  intro z r;rw[Qk]at r;cases r with
  |cons D H =>
   obtain⟨t,e⟩:=D;subst e;exact .cons n t (B H)
section
variable {X:Cx}{e:Vk}{te:TE}{lo hi:Option Vk}{tl th:TO}{pos p2:WG}
theorem fJ:PO X none DD:=by
 intro pins s σ H Q I h;rw[evalPart_none];exact UY ⟨none,H,I,.none,h⟩
theorem dR(h:PE X e te):PO X (YN e) (JA te):=by
 intro pins s σ H Q I hw;rw[evalPart_some];refine bR (h pins s σ H _ I hw) λu M z=>?_;obtain⟨x,B,D,J,L⟩:=z;obtain⟨i,rfl,q⟩:=L;obtain⟨t,rfl⟩:=J;exact⟨YN i,B,D,.int i t,q⟩
def MT(X:Cx)(r:V->Option Int->Option Int->Hp->VK->Prop):Prop :=
 ∀(pins:List (U0×VH)) (s:U2) (σ:St) (H:Hp) (x:V) (v z B:UW) (lo hi:Option Int) (D:U0) (Q:VK),Inv X pins σ H s->RelV x v->s.heap.IsSliceOf D z B .none->IsPart z lo->IsPart B hi->r x lo hi H Q ->
  ∃T id,XQ (.type T) "__getitem__" = pure (YN (.builtin id))/\s.TypeIs v T/\wpAny (model X.prog X.w) X.A (XD v (.ref D)) (EP X pins σ Q) X.xe s
def tSl(r:V->Option Int->Option Int->Hp->VK->Prop)(te:TE)(tl th:TO):TE:=λσ H Q=>te σ H λx z=>tl σ z λl B=>th σ B λu D=>r x l u D Q
theorem du{r:V->Option Int->Option Int->Hp->VK->Prop}(M:MT X r)(O:PE X e te)(Z:PO X lo tl)(hu:PO X hi th):PE X (.Subscript e (.Slice lo hi none p2) pos) (tSl r te tl th):=by
 intro pins s σ H Q I h;refine Ys (bR (O pins s σ H _ I h) λv s1 J=>?_);obtain⟨x,H1,I1,r1,q1⟩:=J;refine wpAny_Slice (bR (Z pins s1 σ H1 _ I1 q1) λB s2 ⟨l,H2,I2,pl,q2⟩=>bR (hu pins s2 σ H2 _ I2 q2) λD z J=>?_);obtain⟨u,L,I3,pu,q3⟩:=J;rw[evalPart_none];refine UY ?_;have I4:Inv X pins σ L { z with heap:=z.heap.push { cls:=.type "slice",data:=.fields #[B,D,.none] } }:=I3.kept (t':=z.toks) λb ob q=>O8 _ q;obtain⟨T,id,hT,ht,hg⟩:=M pins { z with heap:=z.heap.push { cls:=.type "slice",data:=.fields #[B,D,.none] } } σ L x v B D l u z.heap.objs.size Q I4 r1 (Heap.IsSliceOf.new ..) pl pu q3;show wpAny (model X.prog X.w) X.A (XI e (.Slice lo hi none p2) v (.ref z.heap.objs.size)) (EP X pins σ Q) X.xe { z with heap:=z.heap.push { cls:=.type "slice",data:=.fields #[B,D,.none] } };exact tail_any (ops:=[.ref z.heap.objs.size,v]) ht hT hg (by with_unfolding_all rfl)
noncomputable def jM(xs:List V)(lo hi:Option Int):List V:=(xs.drop (HT.lK xs.length 0 lo)).take (HT.lK xs.length xs.length hi-HT.lK xs.length 0 lo)
theorem tM(xs:List V)(lo hi:Option Int):(jM xs lo hi).length<=xs.length:=by
 unfold jM;rw[Pw,Qo];omega
def JB(K:Pc):R2:=λx y H Q=>∃a b xs ys,x=.ref a/\y=.ref b/\b0 K H a xs/\b0 K H b ys/\xs≠[]/\xs.length+ys.length<=U7 /\
 (ys=[]->Q (.ref a) H)/\(ys≠[]->∀p,H p=none->Q (.ref p) (upd H p (.tup (xs++ys))))
theorem Vals.kg{xs:List V}{z:List UW}(r:Vals xs z):z=[]↔xs=[]:=by
 cases r with
 |nil=>simp
 |cons _ _=>simp
theorem xj:jA X (V1 .Add) (JB X.K):=by
 intro pins s σ H x y v u Q I L M h;obtain⟨a,b,xs,ys,rfl,rfl,O,V,Z,hz,q1,q2⟩:=h;cases L;cases M;obtain⟨its,D,p1,_⟩:=I.tuple O;obtain⟨J,B,p2,_⟩:=I.tuple V;refine HT.DC p1 p2 (λz=>Z (D.kg.mp z)) (λz=>⟨.ref a,H,I,rfl,q1 (B.kg.mp z)⟩) (λz=>?_) (by rw[<-D.length,<-B.length];exact hz);refine⟨.ref s.heap.objs.size,_,I.laid (t':=s.toks) (o:=.tup (xs++ys)) (λb ob q=>O8 _ q) (O5 _) ?_,rfl,q2 (λw=>z (B.kg.mpr w)) _ (I.bj.fresh (O5 _))⟩;exact⟨by rw[O9];exact hz,_,D.append B,IsTup.new _ _⟩
end
noncomputable def yN(n:Nat)(i:Int):Option Nat:=if 0<=i then(if i<n then some i.toNat else none)else if -(n:Int)<=i then some (i+n).toNat else none
noncomputable def qt{α:Type}(xs:List α)(i:Int):Option α:=(yN xs.length i).bind λj=>xs[j]?
theorem xk{n:Nat}{i:Int}{j:Nat}(h:yN n i=YN j):seqIndex? i n=YN j/\j<n/\-(n:Int)<=i/\i<n:=by
 unfold yN at h;by_cases B:0<=i
 .rw[UZ B]at h;by_cases z:i<n
  .rw[UZ z]at h;have e:i.toNat=j:=Option.some.inj h;exact⟨by rw[Yf B z,e],by omega,by omega,z⟩
  rw[UX z]at h;cases h
 rw[UX B]at h;by_cases z:-(n:Int)<=i
 .rw[UZ z]at h;have e:(i+n).toNat=j:=Option.some.inj h;exact⟨by rw[XX (by omega) z,e],by omega,z,by omega⟩
 rw[UX z]at h;cases h
theorem xl{α:Type}{xs:List α}{i:Int}{v:α}(h:qt xs i=YN v):∃j,seqIndex? i xs.length=YN j/\xs[j]?=YN v/\j<xs.length/\-(xs.length:Int)<=i/\i<xs.length:=by
 unfold qt at h;cases e:yN xs.length i with
 |none=>rw[e]at h;cases h
 |some j =>
  rw[e]at h;obtain⟨z,B,D,H⟩:=xk e;exact⟨j,z,h,B,D,H⟩
theorem aV{α:Type}{xs:List α}{j:Nat}{v:α}(h:xs[j]?=YN v):qt xs (j:Int)=YN v:=by
 have z:j<xs.length:=(O2.mp h).1;have e:yN xs.length (j:Int)=YN j:=by
  unfold yN;rw[UZ (by omega),UZ (by omega)];simp
 unfold qt;rw[e];exact h
theorem AJ{α:Type}(xs:List α)(v:α):qt (xs++[v]) (-1)=YN v:=by
 have z:(xs++[v]).length=xs.length+1:=by simp
 have e:yN (xs++[v]).length (-1)=YN xs.length:=by
  unfold yN;rw[z,UX (by decide),UZ (by omega)];congr 1;omega
 unfold qt;rw[e];show(xs++[v])[xs.length]?=YN v;simp
def DG(b:Vk):Prop:=∀o i,Xq b false o i=operate [o,i] (XD o i)
def JC(X:Cx)(r:R2):Prop :=
 ∀(value slice:Vk) (pins:List (U0×VH)) (s:U2) (σ:St) (H:Hp) (x y:V) (v u:UW) (Q:VK),Inv X pins σ H s->RelV x v->RelV y u->r x y H Q ->
  Xq slice false v u=operate [v,u] (XD v u)->wpAny (model X.prog X.w) X.A (XI value slice v u) (EP X pins σ Q) X.xe s
def LF(X:Cx)(id:String)(r:V->List V->Hp->VK->Prop):Prop :=
 ∀(pins:List (U0×VH)) (s:U2) (σ:St) (H:Hp) (x:V) (xs:List V) (v:UW) (z:List UW) (Q:VK),Inv X pins σ H s->RelV x v->Vals xs z->r x xs H Q ->
  wpAny (model X.prog X.w) X.A (call (.builtin id) (v::z)) (EP X pins σ Q) X.xe s
section
variable {X:Cx}{a b:Vk}{ta tb:TE}{pos:WG}
theorem aP{r:R2}(z:JC X r)(B:PE X a ta)(D:PE X b tb)(J:DG b):PE X (.Subscript a b pos) (LC r ta tb):=by
 intro pins s σ H Q I h;exact Ys (GB B D I h λv u L x y M O V Z q=>z a b pins L σ M x y v u Q O V Z q (J _ _))
def JD(K:Pc):R2:=λx y H Q=>∃p xs i v,x=.ref p/\y=.int i/\aM K H p xs/\qt xs i=YN v/\Q v H
def JE(K:Pc):R2:=λx y H Q=>∃p xs i v,x=.ref p/\y=.int i/\b0 K H p xs/\qt xs i=YN v/\Q v H
theorem bf:JC X (JD X.K):=by
 intro value slice pins s σ H x y v u Q I Z ry h M;obtain⟨p,xs,i,z,rfl,rfl,hq,he,q⟩:=h;cases Z;obtain⟨t,rfl⟩:=ry;obtain⟨its,r,D,hz⟩:=I.list hq;obtain⟨j,B,h2,h3,h4,h5⟩:=xl he;obtain⟨w,O,J⟩:=r.get h2;have hl:=r.length;have hn:=rz;have fin:EP X pins σ Q w s:=⟨z,H,I,J,q⟩
 by_cases V:0<=i
 .have L:i.toNat=j:=by
   rw[Yf V h5]at B;exact Option.some.inj B
  exact item_listR D.isList V (by omega) (by rw[L];simpa using O) fin M
 have L:(i+(its.toArray.size:Int)).toNat=j:=by
  rw[XX (by omega) h4]at B;rw[Pe,<-hl];exact Option.some.inj B
 exact Xk (x:=w) D.isList.typeIs slot_list_getitem.lookup
  (wpAny_getItem_list_neg (Q:=λr s'=>r=w/\EP X pins σ Q r s') D.isList (by omega) (by rw[Pe] <;> omega) (by omega) (by rw[L];simpa using O) ⟨rfl,fin⟩) M
theorem b5:JC X (JE X.K):=by
 intro value slice pins s σ H x y v u Q I J L h M;obtain⟨p,xs,i,z,rfl,rfl,O,V,q⟩:=h;cases J;obtain⟨t,rfl⟩:=L;obtain⟨its,r,D,hz⟩:=I.tuple O;obtain⟨j,Z,h2,h3,h4,h5⟩:=xl V;obtain⟨w,ew,B⟩:=r.get h2;have hl:=r.length;have hn:=rz;have fin:EP X pins σ Q w s:=⟨z,H,I,B,q⟩
 exact Xk (x:=w) D.typeIs slot_tuple_getitem.lookup
  (getItem_tuple (j:=j) (Q:=λr s'=>r=w/\EP X pins σ Q r s') D (by omega) (by omega) (by rw[Pe,<-hl];exact Z) (by simpa using ew) ⟨rfl,fin⟩) M
theorem vz(its:List UW)(n j:Nat)(u:UW):Obj.mapSeq (·.setIfInBounds j u) { cls:=.type "list",data:=.seq its.toArray n }={ cls:=.type "list",data:=.seq (its.set j u).toArray n }:=by
 simp[Obj.mapSeq]
theorem Inv.lst{pins:List (U0×VH)}{σ:St}{H:Hp}{s:U2}{p:U0}{xs:List V}(I:Inv X pins σ H s)(h:H p=YN (.lst xs)) :
  ∃(its:List UW) (n:Nat),Vals xs its/\s.heap.get? p=YN { cls:=.type "list",data:=.seq its.toArray n }/\xs.length<=sizeLine:=by
 obtain⟨z,its,n,r,e⟩:=I.bj p _ h;exact⟨its,n,r,e,z⟩
theorem Inv.GO{pins:List (U0×VH)}{σ:St}{H:Hp}{s:U2}{p:U0}{xs ys:List V}{its its':List UW}{n z:Nat}{f:VH->VH}(I:Inv X pins σ H s)(h:H p=YN (.lst xs))
  (D:s.heap.get? p=YN { cls:=.type "list",data:=.seq its.toArray n }) (B:f { cls:=.type "list",data:=.seq its.toArray n }={ cls:=.type "list",data:=.seq its'.toArray z }) (r:Vals ys its') (hz:ys.length<=U7) (t:Nat) :
  Inv X pins σ (upd H p (.lst ys)) { s with heap:=s.heap.update p f,toks:=t }:=by
 have e:(s.heap.update p f).get? p=YN { cls:=.type "list",data:=.seq its'.toArray z }:=by
  rw[Qz f D (by rw[B] <;> rfl),B]
 refine I.write (x:=p) (e:=p) (by rw[h];trivial) (.inl rfl) (λb u J q=>(QM _ _ (Ne.symm J)).trans q) ⟨_,e⟩ ?_;exact⟨hz,its',z,r,e⟩
def JF:V->V->V->Hp->(Hp->Prop)->Prop:=λo i v H Q=>∃p xs k j,o=.ref p/\i=.int k/\H p=YN (.lst xs)/\yN xs.length k=YN j/\Q (upd H p (.lst (xs.set j v)))
theorem set_list:Jm X JF:=by
 intro pins s σ H o i v ov iv u Q I ro ri rv h;obtain⟨p,xs,k,j,rfl,rfl,L,hj,q⟩:=h;cases ro;obtain⟨t,rfl⟩:=ri;obtain⟨its,n,r,B,hz⟩:=I.lst L;obtain⟨z,h2,M,O⟩:=xk hj;have D:=r.length;have hn:=rz;have V:Inv X pins σ (upd H p (.lst (xs.set j v))) { s with heap:=s.heap.update p (Obj.mapSeq (·.setIfInBounds j u)) }:=
  I.GO L B (vz its n j u) (r.set rv j) (by rw[Td];exact hz) s.toks
 by_cases Z:0<=k
 .have J:k.toNat=j:=by
   rw[Yf Z O]at z;exact Option.some.inj z
  exact PySem.W.ki_setAt B Z (by omega) (by rw[Pe,<-D];exact O) (by rw[J];exact⟨_,V,q⟩)
 have J:(k+(its.toArray.size:Int)).toNat=j:=by
  rw[XX (by omega) M]at z;rw[Pe,<-D];exact Option.some.inj z
 exact PySem.W.ki_setBack B (by omega) (by rw[Pe,<-D];exact M) (by omega) (by rw[J];exact⟨_,V,q⟩)
theorem rB(lo hi:Option Int)(n:Nat):(Wf lo hi none n).1=((HT.lK n 0 lo:Nat):Int)/\(Wf lo hi none n).2.1=((HT.lK n n hi:Nat):Int)/\(Wf lo hi none n).2.2=1:=by
 refine⟨?_,?_,rfl⟩
 .cases lo with
  |none=>simp[Wf,HT.lK]
  |some i =>
   simp only[Wf,HT.lK,Ur,show(1:Int)>0 by decide,WO];by_cases h:i<0
   .simp only[h,WO] <;> omega
   simp only[h,Vu] <;> omega
 cases hi with
 |none=>simp[Wf,HT.lK]
 |some i =>
  simp only[Wf,HT.lK,Ur,show(1:Int)>0 by decide,WO];by_cases h:i<0
  .simp only[h,WO] <;> omega
  simp only[h,Vu] <;> omega
theorem pF(its:List UW)(lo hi:Option Int):slicePick its.toArray lo hi none=((its.drop (HT.lK its.length 0 lo)).take (HT.lK its.length its.length hi-HT.lK its.length 0 lo)).toArray:=by
 obtain⟨z,B,D⟩:=rB lo hi its.toArray.size;unfold slicePick;rw[z,B,D];simp only[sliceRange_one,pick_run,Pe] <;> rfl
def JG(K:Pc):V->Option Int->Option Int->Hp->VK->Prop:=λx lo hi H Q=>∃a xs,x=.ref a/\aM K H a xs/\∀p,H p=none->Q (.ref p) (upd H p (.lst (jM xs lo hi)))
theorem eW:MT X (JG X.K):=by
 intro pins s σ H x v O V lo hi Z Q I B D J L h;obtain⟨a,xs,rfl,M,q⟩:=h;cases B;obtain⟨its,r,z,hz⟩:=I.list M;have hlen:=r.length;refine⟨"list",_,slot_list_getitem.lookup,z.isList.typeIs,?_⟩;refine wpAny_getItem_list_slice z.isList D J L .none (by simp) ?_ (by rw[Pe] <;> omega);rw[pF,<- hlen];refine⟨.ref s.heap.objs.size,_,I.laid (t':=s.toks) (o:=.lst (jM xs lo hi)) (λb ob q=>O8 _ q) (O5 _) ?_,rfl,q _ (I.bj.fresh (O5 _))⟩;exact⟨PK (tM xs lo hi) hz,_,0,(r.drop (HT.lK xs.length 0 lo)).take (HT.lK xs.length xs.length hi-HT.lK xs.length 0 lo),Pm _ rfl⟩
noncomputable def jF:V->Bool
 |.fF=>true
 |.bl _=>true
 |.int _=>true
 |.str _=>true
 |_=>false
noncomputable def Fy:V->V->Bool
 |.fF,.fF=>true
 |.bl a,.bl b=>a==b
 |.bl a,.int b=>(if a then 1 else 0)==b
 |.int a,.bl b=>a==(if b then 1 else 0)
 |.int a,.int b=>a==b
 |.str a,.str b=>a==b
 |_,_=>false
theorem GP{A:Vh}{s:U2}{y x:V}{u v:UW}(B:RelV y u)(z:RelV x v)(H:jF y=true)(D:jF x=true):SeqAt.EqAt A s u v (Fy y x):=by
 cases y with
 |fF =>
  cases B;cases x with
  |fF=>cases z;exact SeqAt.EqAt.same _
  |bl b=>cases z;exact SeqAt.EqAt.none_bool b
  |int b=>obtain⟨t,rfl⟩:=z;exact SeqAt.EqAt.none_int b t
  |str b=>obtain⟨t,rfl⟩:=z;exact SeqAt.EqAt.none_str b t
  |_=>exact U4 (show false=true from D) Pq
 |bl a =>
  cases B;cases x with
  |fF=>cases z;exact SeqAt.EqAt.bool_none a
  |bl b=>cases z;exact SeqAt.EqAt.bool_bool a b
  |int b=>obtain⟨t,rfl⟩:=z;exact SeqAt.EqAt.bool_int a b t
  |str b=>obtain⟨t,rfl⟩:=z;exact SeqAt.EqAt.bool_str a b t
  |_=>exact U4 (show false=true from D) Pq
 |int a =>
  obtain⟨t',rfl⟩:=B;cases x with
  |fF=>cases z;exact SeqAt.EqAt.int_none a t'
  |bl b=>cases z;exact SeqAt.EqAt.int_bool a t' b
  |int b=>obtain⟨t,rfl⟩:=z;exact SeqAt.EqAt.int_int a t' b t
  |str b=>obtain⟨t,rfl⟩:=z;exact SeqAt.EqAt.int_str a t' b t
  |_=>exact U4 (show false=true from D) Pq
 |str a =>
  obtain⟨t',rfl⟩:=B;cases x with
  |fF=>cases z;exact SeqAt.EqAt.str_none a t'
  |bl b=>cases z;exact SeqAt.EqAt.str_bool a t' b
  |int b=>obtain⟨t,rfl⟩:=z;exact SeqAt.EqAt.str_int a t' b t
  |str b=>obtain⟨t,rfl⟩:=z;exact SeqAt.EqAt.str_str a t' b t
  |_=>exact U4 (show false=true from D) Pq
 |_=>exact U4 (show false=true from H) Pq
noncomputable def vA(x:V)(u:UW):Bool:=match u with
 |.none=>Fy .fF x
 |.bool b=>Fy (.bl b) x
 |.int i _=>Fy (.int i) x
 |.str z _=>Fy (.str z) x
 |_=>false
theorem AK{x y:V}{u:UW}(r:RelV y u)(f:jF y=true):vA x u=Fy y x:=by
 cases y with
 |fF=>cases r;rfl
 |bl b=>cases r;rfl
 |int i=>obtain⟨t,rfl⟩:=r;rfl
 |str z=>obtain⟨t,rfl⟩:=r;rfl
 |_=>exact U4 (show false=true from f) Pq
theorem kh{x:V}:∀{xs:List V}{z:List UW},Vals xs z->xs.all jF=true->z.any (vA x)=xs.any λy=>Fy y x
 |_,_,.nil,_=>rfl
 |y::xs,u::z,.cons r t,f=>by
  rw[UH,PY]at f;rw[RC,RC,AK r f.1,kh t f.2]
theorem iQ{A:Vh}{s:U2}{x:V}{v:UW}(D:RelV x v)(H:jF x=true):∀{xs:List V}{B:List UW},Vals xs B->xs.all jF=true->∀u∈B,SeqAt.EqAt A s u v (vA x u)
 |_,_,.nil,_=>λu z=>by cases z
 |y::xs,u::B,.cons r t,f=>λJ z=>by
  rw[UH,PY]at f;rcases Pu.mp z with rfl|z
  .rw[AK r f.1];exact GP r D f.1 H
  exact iQ D H t f.2 J z
noncomputable def kj(x:V)(xs:List V):Bool:=xs.any λy=>Fy y x
def MU(K:Pc)(neg:Bool):R2:=λx y H Q=>∃p xs,y=.ref p/\(aM K H p xs\/b0 K H p xs)/\jF x=true/\xs.all jF=true/\Q (.bl (if neg then !kj x xs else kj x xs)) H
theorem qu:jA X (VE .In) (MU X.K false):=by
 intro pins s σ H x y v u Q I D L h;obtain⟨p,xs,rfl,z,J,fs,q⟩:=h;cases L;rcases z with z|z
 .obtain⟨its,r,B,hz⟩:=I.list z;refine SeqAt.in_listAt (vA x) B.isList (λw hw=>iQ D J r fs w (by simpa using hw)) ⟨.bl _,H,I,rfl,?_⟩;rw[show its.toArray.any (vA x)=its.any (vA x) by simp,kh r fs];exact q
 obtain⟨its,r,B,hz⟩:=I.tuple z;refine SeqAt.in_tupleAt (vA x) B (λw hw=>iQ D J r fs w (by simpa using hw)) ⟨.bl _,H,I,rfl,?_⟩;rw[show its.toArray.any (vA x)=its.any (vA x) by simp,kh r fs];exact q
theorem ig:jA X (VE .NotIn) (MU X.K true):=by
 intro pins s σ H x y v u Q I D L h;obtain⟨p,xs,rfl,z,J,fs,q⟩:=h;cases L;rcases z with z|z
 .obtain⟨its,r,B,hz⟩:=I.list z;refine SeqAt.notIn_listAt (vA x) B.isList (λw hw=>iQ D J r fs w (by simpa using hw)) ⟨.bl _,H,I,rfl,?_⟩;rw[show its.toArray.any (vA x)=its.any (vA x) by simp,kh r fs];exact q
 obtain⟨its,r,B,hz⟩:=I.tuple z;refine SeqAt.notIn_tupleAt (vA x) B (λw hw=>iQ D J r fs w (by simpa using hw)) ⟨.bl _,H,I,rfl,?_⟩;rw[show its.toArray.any (vA x)=its.any (vA x) by simp,kh r fs];exact q
theorem aA:cO X (.builtin "len") (λxs H Q=>∃p ys,xs=[.ref p]/\(aM X.K H p ys\/b0 X.K H p ys)/\Q (.int ys.length) H):=by
 intro pins s σ H xs L Q I r h;obtain⟨p,ys,rfl,z,q⟩:=h;obtain⟨u,rfl,J⟩:=vals1 r;cases J;have M:=rz;rcases z with z|z
 .obtain⟨its,B,D,hz⟩:=I.list z;have hlen:=B.length;exact Calls.call_len_list D.isList (by simp only[Pe] <;> omega) ⟨.int ys.length,H,I.tok _,⟨s.toks+1,by rw[Pe,hlen]⟩,q⟩
 obtain⟨its,B,D,hz⟩:=I.tuple z;have hlen:=B.length;exact len_tuple D (by simp only[Pe] <;> omega) ⟨.int ys.length,H,I.tok _,⟨s.toks+1,by rw[Pe,hlen]⟩,q⟩
theorem fK:cO X (.type "list") (λxs H Q=>∃p ys,xs=[.ref p]/\(aM X.K H p ys\/b0 X.K H p ys)/\∀l,H l=none->Q (.ref l) (upd H l (.lst ys))):=by
 intro pins s σ H xs Z Q I r h;obtain⟨p,ys,rfl,D,q⟩:=h;obtain⟨u,rfl,V⟩:=vals1 r;cases V;have fin:∀(its:List UW),Vals ys its->ys.length<=U7->∀(h':Vi) (z:Nat),(∀b O,s.heap.get? b=YN O->h'.get? b=YN O) ->
   h'.get? s.heap.objs.size=YN { cls:=.type "list",dict:=none,data:=.seq its.toArray z,slots:=#[] }->EP X pins σ Q (.ref s.heap.objs.size) { s with heap:=h' }:=λits B hz h' z kp e =>
  ⟨.ref s.heap.objs.size,_,I.laid (t':=s.toks) kp (O5 _) (show bq X.prog X.w _ h' _ (.lst ys)from⟨hz,its,z,B,e⟩),rfl,q _ (I.bj.fresh (O5 _))⟩
 rcases D with D|D
 .obtain⟨its,B,J,hz⟩:=I.list D;have hlen:=B.length;obtain⟨o,L,M,n,hd⟩:=J.isList;exact call_list_seq p (.inl rfl) L M hd (λh' z kp e=>fin its B hz h' z kp e) (by simp only[Pe] <;> omega)
 obtain⟨its,B,J,hz⟩:=I.tuple D;have hlen:=B.length;obtain⟨o,L,M,n,hd⟩:=J;exact call_list_seq p (.inr rfl) L M hd (λh' z kp e=>fin its B hz h' z kp e) (by simp only[Pe] <;> omega)
theorem pG:cO X (.type "tuple") (λxs H Q=>∃p ys,xs=[.ref p]/\((aM X.K H p ys/\∀l,H l=none->Q (.ref l) (upd H l (.tup ys)))\/(b0 X.K H p ys/\Q (.ref p) H))):=by
 intro pins s σ H xs O Q I r h;obtain⟨p,ys,rfl,h⟩:=h;obtain⟨u,rfl,L⟩:=vals1 r;cases L;rcases h with⟨z,q⟩|⟨z,q⟩
 .obtain⟨its,B,D,hz⟩:=I.list z;have hlen:=B.length;refine call_tuple_list D.isList (λh' kp=>?_) (by simp only[Pe] <;> omega);have J:Inv X pins σ H { s with heap:=h' }:=I.kept (t':=s.toks) kp;have M:Inv X pins σ (upd H h'.objs.size (.tup ys)) { s with heap:=h'.push { cls:=.type "tuple",data:=.seq its.toArray } }:=
   J.laid (t':=s.toks) (λb o e=>O8 _ e) (O5 _) (show bq X.prog X.w _ _ _ (.tup ys)from⟨hz,its,B,IsTup.new _ _⟩)
  exact⟨.ref h'.objs.size,_,M,rfl,q _ (J.bj.fresh (O5 _))⟩
 obtain⟨its,B,D,hz⟩:=I.tuple z;exact call_tuple_same D ⟨.ref p,H,I,rfl,q⟩
def MV(K:Pc)(T:String)(x:V)(H:Hp): Prop:=match x with
  |.str _=>T = "str"
  |.int _=>T = "int"
  | .ref p => (T = "list" /\ ∃ xs, aM K H p xs) \/ (T = "tuple" /\ ∃ o, K.lookup p=YN o /\ o.cls=.type "tuple" /\ o.dict=none) \/
      (T = "dict" /\ ((∃kvs,H p=YN (.dK kvs)) \/ ∃kvs,H p=YN (.dT kvs))) \/ (T = "set" /\ ∃S n,H p=YN (.set S n))
  |_=>False
theorem rC{pins:List (U0×VH)}{σ:St}{H:Hp}{s:U2}{T:String}{x:V}{v:UW}(I:Inv X pins σ H s)(r:RelV x v)(ty:MV X.K T x H) :
  s.TypeIs v T/\∀a,v=.ref a->∃D,s.heap.get? a=YN D/\D.dict=none:=by
 cases x with
 |str z =>
  obtain⟨t,rfl⟩:=r;cases(show T = "str" from ty);exact⟨typeIs_str s z t,λ_ e=>nomatch e⟩
 |int i =>
  obtain⟨t,rfl⟩:=r;cases(show T = "int" from ty);exact⟨Yt s i t,λ_ e=>nomatch e⟩
 |ref p =>
  cases r;rcases ty with⟨rfl,xs,L⟩|⟨rfl,o,B,M,hd⟩|⟨rfl,B⟩|⟨rfl,S,n,B⟩
  .obtain⟨its,_,J,_⟩:=I.list L;refine⟨J.isList.typeIs,λa e=>?_⟩;cases e;obtain⟨o,n,e,c,hd,_⟩:=J;exact⟨o,e,hd⟩
  .refine⟨⟨o,I.tr p o B,M⟩,λa e=>?_⟩;cases e;exact⟨o,I.tr _ o B,hd⟩
  .have z:∃o,s.heap.get? p=YN o/\o.ExactDict:=by
    rcases B with⟨kvs,B⟩|⟨kvs,B⟩
    .obtain⟨_,_,_,_,o,_,_,e,ex,_⟩:=I.bj p _ B;exact⟨o,e,ex⟩
    obtain⟨_,_,_,_,o,_,_,e,ex,_⟩:=I.bj p _ B;exact⟨o,e,ex⟩
   obtain⟨o,e,ex⟩:=z;refine⟨⟨o,e,ex.1⟩,λa e2=>?_⟩;cases e2;exact⟨o,e,ex.2.1⟩
  obtain⟨o,_,_,_,e,ex,_⟩:=I.bj p _ B;refine⟨⟨o,e,ex.1⟩,λa e2=>?_⟩;cases e2;exact⟨o,e,ex.2.1⟩
 |_=>exact False.elim ty
def MW(K:Pc)(T:String)(r:V->List V->Hp->VK->Prop)(to:TE):TE:=λσ H Q=>to σ H λx z=>MV K T x z/\r x [] z Q
def MX(K:Pc)(T:String)(r:V->List V->Hp->VK->Prop)(to:TE)(t:TA):TE:=λσ H Q=>to σ H λx z=>MV K T x z/\t σ z λxs B=>r x xs B Q
variable {o e:Vk}{es:List Vk}{to:TE}{t:TA}{name:Vl}{apos gT:WG}{T id:String}{r:V->List V->Hp->VK->Prop}
theorem GQ(M:XR T)(slot:Slot T name id)(D:typeOf (.builtin id)=pure (.type "method_descriptor"))(O:LF X id r)(V:PE X o to)
  (z:VW o name X.env (eval o X.env)=eval o X.env:=by rfl) (B:(apos.endLine==gT.line)=true:=by rfl):PE X (.Call (.Attribute o name apos) [] [] gT) (MW X.K T r to):=by
 intro pins s σ H Q I h;refine Wg z B (bR (V pins s σ H _ I h) λv Z zq=>?_);obtain⟨x,H1,J,L,ty,q1⟩:=zq;obtain⟨h1,h2⟩:=rC J L ty;exact⟨T,id,M,slot,D,h1,h2,Calls.callWith_builtin rfl (PySem.evalArgs_none (O pins Z σ H1 x [] v [] Q J L .nil q1))⟩
theorem gU(Z:XR T)(slot:Slot T name id)(L:typeOf (.builtin id)=pure (.type "method_descriptor"))(hm:LF X id r)(ho:PE X o to)(ha:PA X (e::es) t)
  (B:VW o name X.env (eval o X.env)=eval o X.env:=by rfl)
  (J:((backTo gT (Vf (e::es) X.env)).all (λx=>!x.1)&&(XW gT (W5 [] X.env)).all (λx=>x.1.isSome)
   && decide ((e::es).length+([]:List WN).length+(if([]:List WN).isEmpty then 0 else 1)<30))=true:=by rfl)
  (D:(apos.endLine==gT.line)=true:=by rfl) (hs:Vf (e::es) X.env=(false,eval e X.env)::Vf es X.env:=by rfl) (z:(backTo gT (Vf es X.env)).any (·.1)=false:=by rfl) :
  PE X (.Call (.Attribute o name apos) (e::es) [] gT) (MX X.K T r to t):=by
 intro pins s σ H Q I h;refine Xl B J D rfl (bR (ho pins s σ H _ I h) λv s1 zq=>?_);obtain⟨x,H1,M,O,ty,q1⟩:=zq;obtain⟨h1,h2⟩:=rC M O ty;refine⟨T,id,Z,slot,L,h1,h2,?_⟩;have V:=ha gT pins s1 σ H1 _ M q1;rw[hs]at V⊢;refine Calls.callWith_builtin (by show(false||(backTo gT (Vf es X.env)).any (·.1))=false;rw[z] <;> rfl) (Calls.evalArgs_plain ?_);exact bR V λus s2 ⟨vs,H2,I2,r2,q2⟩=>hm pins s2 σ H2 x vs v us Q I2 O r2 q2
/- xs.append(e),list.index on a JH tuple .. are LF facts of 06m -/
end
def Fz(X:Cx)(id:String)(r:V->List V->Hp->VK->Prop):Prop :=
 ∀(pins:List (U0×VH)) (s:U2) (σ:St) (H:Hp) (x:V) (xs:List V) (v:UW) (z:List UW) (Q:VK),Inv X pins σ H s->RelV x v->Vals xs z->r x xs H Q ->
  wpAny (model X.prog X.w) X.A (call (.builtin id) (v::z)) (EP X pins σ Q) X.xe s
theorem Vals.one{x:V}{z:List UW}(h:Vals [x] z):∃u,z=[u]/\RelV x u:=by
 cases h with
 |cons r h=>cases h;exact⟨_,rfl,r⟩
theorem Vals.two{x y:V}{z:List UW}(h:Vals [x,y] z):∃u v,z=[u,v]/\RelV x u/\RelV y v:=by
 cases h with
 |cons r h=>obtain⟨u,rfl,q⟩:=Vals.one h;exact⟨_,_,rfl,r,q⟩
theorem Vals.zero:∀{z:List UW},Vals [] z->z=[]
 |_,.nil=>rfl
theorem Vals.dropLast{xs:List V}{z:List UW}(h:Vals xs z):Vals xs.dropLast z.dropLast:=by
 induction h with
 |nil=>exact .nil
 |cons r t B =>
  cases t with
  |nil=>exact .nil
  |cons q t'=>exact .cons r B
theorem Vals.eraseIdx:∀{xs:List V}{z:List UW} (i:Nat),Vals xs z->Vals (xs.eraseIdx i) (z.eraseIdx i)
 |_,_,_,.nil=>.nil
 |_,_,0,.cons _ t=>t
 |_,_,i+1,.cons r t=>.cons r (Vals.eraseIdx i t)
theorem Vals.rep{xs:List V}{z:List UW}(h:Vals xs z):∀k:Nat,Vals (Qr k xs).flatten (Qr k z).flatten
 |0=>.nil
 |k+1=>by
  rw[Rg,Rg,RD,RD];exact Vals.append h (Vals.rep h k)
theorem vD{α:Type}(l:List α):l.eraseIdx (l.length-1)=l.dropLast:=by
 induction l with
 |nil=>rfl
 |cons a r z =>
  cases r with
  |nil=>rfl
  |cons b r =>
   have e:(a::b::r).length-1=((b::r).length-1)+1:=by
    have B:(a::b::r).length=r.length+2:=rfl;have D:(b::r).length=r.length+1:=rfl;omega
   rw[e,List.eraseIdx_cons_succ,z]
   all_goals rfl
theorem qv{α:Type}:∀(l:List α) (i:Nat),(l.eraseIdx i).length<=l.length
 |[],_=>O5 _
 |_::_,0=>QO _
 |_::r,i+1=>Us (qv r i)
theorem foldl_rep(its:List UW):∀(k:Nat) (z:List UW),
  UG (λB D=>B++D) z.toArray (Qr k its.toArray)=(z++(Qr k its).flatten).toArray
 |0,z=>by simp
 |k+1,z=>by
  have e:z.toArray++its.toArray=(z++its).toArray:=by simp
  have e2:(z++its)++(Qr k its).flatten=z++(Qr (k+1) its).flatten:=by
   rw[Rg,RD,Rm]
  rw[<-e2,<-foldl_rep its k (z++its),<-e,Rg,List.foldl_cons]
section
variable {X:Cx}{pins:List (U0×VH)}{σ:St}{H:Hp}{s:U2}{l b:U0}{xs ys O:List V}
theorem Inv.DH{its its':List UW}{n:Nat}{f:Array UW->Array UW}{t':Nat}(I:Inv X pins σ H s)(z:H l=YN (.lst xs))
  (e:s.heap.get? l=YN { cls:=.type "list",data:=.seq its.toArray n }) (B:f its.toArray=its'.toArray) (D:Vals ys its') (hz:ys.length<=U7) :
  Inv X pins σ (upd H l (.lst ys)) { s with heap:=s.heap.update l (Obj.mapSeq f),toks:=t' }:=by
 have q:=PySem.IsL.update e f;rw[B]at q;refine I.write (x:=l) (e:=l) (by rw[z];exact trivial) (.inl rfl) (λM u J L=>(QM s.heap (Obj.mapSeq f) (Ne.symm J)).trans L) ⟨_,q⟩ ?_;exact⟨hz,its',_,D,q⟩
theorem Inv.GR{its:List UW}{t':Nat}(I:Inv X pins σ H s)(z:Vals ys its)(hz:ys.length<=U7) :
  Inv X pins σ (upd H s.heap.objs.size (.lst ys)) { s with heap:=s.heap.push { cls:=.type "list",data:=.seq its.toArray },toks:=t' }:=
 I.laid (λ_ _ q=>O8 _ q) (O5 _) ⟨hz,its,0,z,Pm _ rfl⟩
theorem Inv.fresh(I:Inv X pins σ H s):H s.heap.objs.size=none:=I.bj.fresh (O5 _)
theorem Inv.nU(I:Inv X pins σ H s)(B:H l=YN (.lst xs)):xs.length<=U7/\∃(its:List UW) (n:Nat),Vals xs its/\xs.length=its.length/\s.heap.get? l=YN { cls:=.type "list",data:=.seq its.toArray n }:=by
 obtain⟨z,its,n,r,e⟩:=I.bj l _ B;exact⟨z,its,n,r,r.length,e⟩
theorem tO{n:Nat}(h:n<=U7):Builtin.List.listTooLong n=false:=by
 unfold Builtin.List.listTooLong;exact U1 (by omega)
end
section
variable {X:Cx}
def xm:V->List V->Hp->VK->Prop:=λx vs H Q=>∃l xs y,x=.ref l/\vs=[y]/\H l=YN (.lst xs)/\xs.length<U7/\Q .fF (upd H l (.lst (xs++[y])))
theorem dI:Fz X "list.append" xm:=by
 intro pins s σ H x vs v M Q I D J h;obtain⟨l,xs,y,rfl,rfl,B,hz,q⟩:=h;cases D;obtain⟨u,rfl,L⟩:=J.one;obtain⟨z,its,n,r,O,e⟩:=I.nU B;refine Wd F.slot_list_append ⟨_,e,rfl⟩ F.entry_list_append (F.args_list_append_2 _ _) (PySem.list_append l its.toArray n u (by rw[Pe];omega)) ⟨e,?_⟩;refine⟨.fF,_,I.DH (its':=its++[u]) B e (by simp) (r.append (.cons L .nil)) ?_,rfl,q⟩;rw[O9,PZ];omega
def DI:V->List V->Hp->VK->Prop:=λx vs H Q=>∃l b xs z,x=.ref l/\vs=[.ref b]/\H l=YN (.lst xs)/\H b=YN (.lst z)/\xs.length+z.length<=U7/\Q .fF (upd H l (.lst (xs++z)))
theorem qw:Fz X "list.extend" DI:=by
 intro pins s σ H x vs v us Q I L M h;obtain⟨l,b,xs,zs,rfl,rfl,J,O,hz,q⟩:=h;cases L;obtain⟨u,rfl,V⟩:=M.one;cases V;obtain⟨z,its,n,r,hl,e⟩:=I.nU J;obtain⟨z2,B,Z,r2,qx,e2⟩:=I.nU O;have hsz:its.toArray.size+B.toArray.size<=sizeLine:=by rw[Pe,Pe];omega
 have D:¬(!its.toArray.isEmpty&&Builtin.List.listTooLong (its.toArray.size+B.toArray.size))=true:=by
  rw[tO hsz,SI];exact Pq
 refine Wd F.slot_list_extend ⟨_,e,rfl⟩ F.entry_list_extend (F.args_list_extend_2 _ _)
  (AutoSeq1.list_extend_list_list_0 l its.toArray n b B.toArray Z D (by rw[Pe];omega) (by omega)) ⟨e,e2,?_⟩
 refine⟨.fF,_,I.DH (its':=its++B) J e (by simp) (r.append r2) ?_,rfl,q⟩;rw[O9];omega
def MY:V->List V->Hp->VK->Prop:=λx vs H Q=>∃l xs y,x=.ref l/\vs=[]/\H l=YN (.lst xs)/\xs[xs.length-1]?=YN y/\Q y (upd H l (.lst xs.dropLast))
theorem GS:Fz X "list.pop" MY:=by
 intro pins s σ H x vs v us Q I L M h;obtain⟨l,xs,y,rfl,rfl,J,O,q⟩:=h;cases L;have B:=M.zero;subst B;obtain⟨z,its,n,r,V,e⟩:=I.nU J;obtain⟨u,Z,ru⟩:=r.get O;have D:its.toArray[its.toArray.size-1]?=YN u:=by
  show its.toArray[its.length-1]?=YN u;rw[<-QQ,<-V];exact Z
 refine Wd F.slot_list_pop ⟨_,e,rfl⟩ F.entry_list_pop (F.args_list_pop_1 _) (MeetsSeq.list_pop_last l its.toArray n u D (by rw[Pe];omega)) ⟨e,?_⟩;refine⟨y,_,I.DH (its':=its.dropLast) J e ?_ r.dropLast ?_,ru,q⟩
 .show its.toArray.eraseIdxIfInBounds (its.toArray.size-1)=its.dropLast.toArray;rw[Pe,R6,vD]
 rw[Sm];omega
def MZ:R2:=λx y H Q=>∃l b xs z,x=.ref l/\y=.ref b/\H l=YN (.lst xs)/\H b=YN (.lst z)/\xs.length+z.length<=U7/\∀p,H p=none->Q (.ref p) (upd H p (.lst (xs++z)))
theorem fV:jA X (V1 .Add) MZ:=by
 intro pins s σ H x y v u Q I D J h;obtain⟨l,b,xs,zs,rfl,rfl,L,M,hz,q⟩:=h;cases D;cases J;obtain⟨z,its,n,r,hl,e⟩:=I.nU L;obtain⟨z2,B,n2,O,V,e2⟩:=I.nU M;refine PySem.P.add_list e e2 ?_ (by rw[Pe,Pe];omega);have Z:its.toArray++B.toArray=(its++B).toArray:=by simp
 rw[Z];exact⟨.ref _,_,I.GR (t':=s.toks) (r.append O) (by rw[O9];omega),rfl,q _ I.fresh⟩
def M0:R2:=λx y H Q=>∃l k xs,x=.ref l/\y=.int k/\H l=YN (.lst xs)/\-(2 ^ 63)<=k/\k<2 ^ 63/\xs.length*k.toNat<=U7 /\
 ∀p,H p=none->Q (.ref p) (upd H p (.lst (Qr k.toNat xs).flatten))
theorem len_rep{α:Type}(xs:List α)(k:Nat):(Qr k xs).flatten.length=k*xs.length:=by
 induction k with
 |zero=>simp
 |succ k z=>rw[Rg,RD,O9,z,Nat.succ_mul,Nat.add_comm]
theorem AL:jA X (V1 .Mult) M0:=by
 intro pins s σ H x y v u Q I V Z h;obtain⟨l,k,xs,rfl,rfl,hH,h1,h2,hz,q⟩:=h;cases V;obtain⟨t,rfl⟩:=Z;obtain⟨z,its,n,r,hl,e⟩:=I.nU hH;have hlen:its.toArray.size*k.toNat<=sizeLine:=by rw[Pe,<-hl];exact hz
 have D:¬its.toArray.size*k.toNat>(2 ^ 63-1)/8:=by
  have:(U7:Nat)<=(2 ^ 63-1)/8:=by decide
  omega
 have J:¬(!Builtin.List.listFitsIndex k)=true:=by
  rw[fitsIndex_both h1 h2];exact Pq
 have B:¬Builtin.List.listTooLong (its.toArray.size*k.toNat)=true:=by
  rw[tO hlen];exact Pq
 have L:UG (λM O=>M++O) #[] (Qr (if its.toArray.isEmpty=true then 0 else k.toNat) its.toArray)=(Qr k.toNat its).flatten.toArray:=by
  have f0:∀m:Nat,UG (λM O=>M++O) #[] (Qr m its.toArray)=(Qr m its).flatten.toArray:=λm=>by
   have:=foldl_rep its m [];rw[List.nil_append]at this;exact this
  rw[f0];cases its with
  |nil=>simp
  |cons a r'=>rw[UX (by simp)]
 refine wpAny_binaryOp_repeat_ref (T:="list") (U:="int") (by decide) ⟨_,e,rfl⟩ (λs'=>Yt s' k t) noFill_list_mul F.fills_int_mul F.slot_int_rmul repeat_list F.slot_int_index.lookup
  (Wd F.slot_int_rmul (Yt s k t) F.entry_int_rmul (F.args_int_rmul_2 _ _) (int___rmul___int_list k t l its.toArray n)
   ⟨e,rfl,⟨_,e,rfl⟩,Wd F.slot_list_mul ⟨_,e,rfl⟩ F.entry_list_mul (F.args_list_mul_2 _ _) (AutoListH.list___mul___list_int_3 l its.toArray n k t J D B) ⟨e,?_⟩⟩)
 rw[L];exact⟨.ref _,_,I.GR (t':=s.toks) (r.rep k.toNat) (by rw[len_rep,Nat.mul_comm];exact hz),rfl,q _ I.fresh⟩
end
end L2
namespace Att
open PySem PySem.W PySem.Calls PyProof.Rows
theorem mU{P:Params}{h:Vi}:∀(ns:List Int) (vs:List UW),WellAll P h vs (ns.map WData.int)->W6 vs ns:=by
 intro ns
 induction ns with
 |nil =>
  intro vs w;rw[Tc]at w;cases w;exact .nil
 |cons n ns z =>
  intro vs w;rw[Qk]at w;cases w with
  |cons a b =>
   cases a;exact .cons _ _ (z _ b)
theorem yO{l:OpenLaw}{n:Nat}(O:l.most=YN n){P:Params}{h:Vi}{args:List WData}{vals:List UW}
  (z:l.row.toRowW.claim.pre args=true) (J:WellAll P h vals args) :
  ∃a vs ns,vals=[Value.ref a]/\args=[WData.list (ns.map WData.int)]/\h.get? a=YN { cls:=.type "list",data:=.seq vs.toArray }/\W6 vs ns/\ns.length<=n:=by
 have L:WShape.hasAll [] args [.list .int]=true:=(pre_splitW z).1;have M:l.pre.holds [] { args:=args }=true:=(pre_splitW z).2;obtain⟨d,r,rfl,V,Z⟩:=hasAllW_cons L;obtain rfl:=hasAllW_nil Z;obtain⟨xs,rfl,h3⟩:=hasW_list V;obtain⟨ns,rfl⟩:=items_int h3;have hlen:ns.length<=n:=by
  unfold OpenLaw.pre at M;have D:(WTm.not (.lt (.lit (.int (n:Int))) (.len (.arg 0)))).holds [] { args:=[.list (ns.map .int)] }=true:=by
   have D:=(holds_andW M).1;rw[O]at D;exact D
  have H:=condW_of D (w_not (w_lt w_lit (w_len_list (w_arg rfl))));rw[O3]at H;refine Ut λq=>?_;have q':(n:Int)<((ns.length:Nat):Int):=by omega
  first
   |(rw[UU q']at H;exact U4 H (by decide))
   |(simp at H;omega)
 cases J with
 |cons w1 w2 =>
  cases w2;cases w1 with
  |list ho B=>exact⟨_,_,ns,rfl,rfl,ho,mU ns _ B,hlen⟩
theorem yP(l:OpenLaw)(args:List WData):l.row.toRowW.claim.post args (.bool true) args=true :=
 postW_of (r:=l.row.toRowW) (X:=(true==true))
  (show WShape.has [] (.bool true) .bool=true by first|rfl|decide|simp[WShape.has,WShape.arms,WShape.armsAll])
  (show(WTm.eq .res (.lit (.bool true))).value [] { args:=args,res:=YN (.bool true),after:=args }=YN (.bool (true==true))from w_eq_bool (w_res rfl) w_lit) rfl
theorem tP{l:OpenLaw}{n:Nat}{q:U8}{loose:List Vl}{XP:(Vl->Option UW)->Vi->Prop}{YP:Va->Vi->Prop}{d:DefRec}
  (hn:l.most=YN n) (L:d.params.defaults=[])
  (call:∀(w:Va) (s₀ z:U2) (mg M:Vl->Option UW) (B:U0) (o:VH) (O J doc:UW) (a:U0) (vs:List UW) (ns:List Int),
   Ground q loose [] XP w s₀ mg M z.heap->YP w z.heap ->
   z.heap.get? B=YN o->o.data=.func (docDef d.name d.params d.body d.scope O J doc)->z.heap.CodeRec J d.name->mg d.name=YN (.ref B) ->
   z.heap.get? a=YN { cls:=.type "list",data:=.seq vs.toArray }->W6 vs ns->ns.length<=n->z.gens = #[] ->
   Wq (model l.prog w) XE (.call (.ref B) ⟨[.ref a],[]⟩) (λr s'=>r=.ok (.ret (.bool true))/\OldK z.heap s'.heap/\s'.os=z.os/\W4 s'.gens) z) :
  WalkO q loose XP YP l.row.toRowW d [] (λf vs=>PySem.call f vs):=by
 intro w s₀ z mg M G Y B o O J doc dV kV ho hd V hD Z hg args vals as D acv hrd hwl hlo;obtain rfl:dV=.none:=Dflts.none hD L;obtain rfl:kV=.none:=Dflts.noKw hD;obtain⟨a,vs,ns,rfl,rfl,H,hints,hlen⟩:=yO hn D hwl;refine enter_call (Wr (call w s₀ z mg M B o O J doc a vs ns G Y ho (fd_plain hd) V Z H hints hlen hg) λr s' hq=>?_);obtain⟨rfl,h2,h3,h4⟩:=hq;exact⟨.inl ⟨.bool true,.bool true,[],rfl,λ_=>rfl,.bool true,yP l _,λ_=>⟨List.Pairwise.nil,λ_ hm=>(nomatch hm)⟩⟩,h2,h3,h4⟩
end Att
namespace L2
open PySem PySem.Spec PyProof.Rows
theorem lT:∀{vs:List UW}{ns:List Int},W6 vs ns->Vals (ns.map V.int) vs
 |_,_,.nil=>.nil
 |_,_,.cons n t h=>.cons ⟨t,rfl⟩ (lT h)
def GU(H:Hp):Prop:=∀b,H b=none\/∃o xs,H b=YN (.gQ o (.lst xs))
theorem AM{P:U8}{w:Va}{K:Pc}{mg mb:Vl->Option UW}{CX:C7}{k:Nat}{fa a:U0}{fd:Ve}{x:Vl}{sp:Sp}{B:U2}{vs:List UW}{ns:List Int}
  (KX:K.In B.heap) (O:B.heap.Ns Vs mg) (J:B.heap.Ns Ym mb) (hbb:∀x:Vl,x≠"__name__"->mb x=Vo x) (Z:B.heap.NoLimit) (hg:B.gens = #[])
  (ha:B.heap.get? a=YN { cls:=.type "list",data:=.seq vs.toArray }) (hi:W6 vs ns) (hl:ns.length<=U7) (hr:gJ k XE)
  (F:∀base:Vi,K.In base->base.Ns Vs mg->aT P w K mg base CX k fa fd [x] sp) (M:∀(s:U2) (u:UW),Yk s fd ⟨[u],[]⟩ [(x,u)])
  (nS:∀H:Hp,GU H->aM K H a (ns.map V.int)->sp [.ref a] H (λv _=>v=.bl true) λ_ _ _=>False)
  (hCX:∀H e s',CX [] H B (λ_ _ _=>False) e s'->False) :
  Wq (model P w) XE (.call (.ref fa) ⟨[.ref a],[]⟩) (λr s'=>r=.ok (.ret (.bool true))/\OldK B.heap s'.heap/\s'.os=B.os/\W4 s'.gens) B:=by
 have rv:=lT hi;have M1:=hi.length;have core:∀H:Hp,GU H->aM K H a (ns.map V.int)->iG P w H B.heap->(∀b,H b≠none->b=a)->(H a≠none->K.lookup a=none) ->
   Wq (model P w) XE (.call (.ref fa) ⟨[.ref a],[]⟩) (λr s'=>r=.ok (.ret (.bool true))/\OldK B.heap s'.heap/\s'.os=B.os/\W4 s'.gens) B:=by
  intro H hO hS bj hA hK;have D:∀{b:U0}{o:VH},B.heap.get? b=YN o->H b=none->(rj B.heap H).get? b=YN o:=λe n=>An e n;have noA:∀{b:U0}{o:VH}{es:Array V0}{ep:Nat},B.heap.get? b=YN o->o.data=.dict es ep->H b=none:=λ{b o es ep} e d=>by
   cases q:H b with
   |none=>rfl
   |some u =>
    have e':b=a:=hA b (by rw[q];simp);subst e';rw[ha]at e;cases e;have d':Data.seq vs.toArray _=Data.dict es ep:=d;cases d'
  have L:∀{b:U0}{m:Vl->Option UW},B.heap.Ns b m->(rj B.heap H).Ns b m:=λ{b m} ⟨o,es,ep,e,d,r⟩=>⟨o,es,ep,D e (noA e d),d,r⟩
  have hKb:K.In (rj B.heap H):=λb o e=>D (KX b o e) (by
   cases q:H b with
   |none=>rfl
   |some u =>
    have e':b=a:=hA b (by rw[q];simp);subst e';rw[hK (by rw[q];simp)]at e;cases e)
  have hM:Mod K mg (rj B.heap H):=⟨hKb,L O,⟨mb,L J,hbb⟩,let⟨mc,h1,h2⟩:=Z;⟨mc,L h1,h2⟩⟩
  have e0:DA P w K mg (rj B.heap H) XE [] B H:=⟨rfl,hM,λb o e=>Dq e,Nat.le_of_eq (yE _ _),trivial,λb J=>U4 (show b∈([]:List U0)from J) (by simp),bj,.of_eq hg⟩
  refine Wr ((F _ hKb (L O)).run XE [] B H ⟨[.ref a],[]⟩ [.ref a] [.ref a] _ _ hr e0 (M B (.ref a)) (.cons rfl .nil) (nS H hO hS)) λr s' h=>?_;cases r with
  |error e=>exact(hCX H e s' h).elim
  |ok fl =>
   cases fl with
   |next=>exact False.elim h
   |brk=>exact False.elim h
   |cont=>exact False.elim h
   |ret u =>
    obtain⟨v,H',os,bare,un,M3,r',q⟩:=h;have q':v=.bl true:=q;subst q';obtain rfl:u=Value.bool true:=r';refine⟨rfl,OldK.of_keep λb o e=>?_,os,bare⟩;cases q:H b with
    |none=>exact un.keep b o e q (by intro z;exact U4 (show b∈([]:List U0)from z) (by simp)) (by simp)
    |some u =>
     rcases hO b with z|⟨ob,xs,z⟩
     .rw[q]at z;cases z
     have z2:=un.pC b ob _ z;obtain⟨e1,_⟩:=bj b _ z;obtain⟨e2,_⟩:=M3 b _ z2;rw[e]at e1;cases e1;exact e2
 cases hk:K.lookup a with
 |some o =>
  have e:=KX a o hk;rw[ha]at e;cases e;refine core (λ_=>none) (λ_=>.inl rfl) (.inr ⟨_,vs.toArray,_,hk,rfl,rfl,rfl,by rw[Pe,M1];exact hl,by simpa using rv⟩) (λb u z=>by have z':(none:Option HO)=YN u:=z;cases z') (λb z=>U4 rfl z) λz=>U4 rfl z
 |none =>
  refine core (λb=>if b=a then some (.gQ { cls:=.type "list",data:=.seq vs.toArray } (.lst (ns.map V.int)))else none) (λb=>?_) (.inl (.inr ⟨{ cls:=.type "list",data:=.seq vs.toArray },UZ rfl⟩)) (λb u z=>?_) (λb z=>?_) λ_=>hk
  .by_cases J:b=a
   .exact .inr ⟨_,_,UZ J⟩
   exact .inl (UX J)
  .by_cases J:b=a
   .have z':=(UZ J).symm.trans z;cases z';subst J;exact⟨ha,by rw[O3];exact hl,vs,_,rv,ha⟩
   have z':=(UX J).symm.trans z;cases z'
  by_cases J:b=a
  .exact J
  exact U4 (UX J) z
theorem xo{l:UC}{n k:Nat}{q:U8}{loose:List Vl}{XP:(Vl->Option UW)->Vi->Prop}{YP:Va->Vi->Prop}{d:DefRec}{K:Params->Pc}{CX:Va->C7}{sp:Va->Sp}{x:Vl}
  (hn:l.most=YN n) (J:n<=U7) (L:d.params.defaults=[]) (hr:gJ k XE)
  (hY:∀(w:Va) (h:Vi),YP w h->(K w.params).In h)
  (F:∀(w:Va) (mg:Vl->Option UW) (D:U0) (h:Vi),(K w.params).In h->h.Ns Vs mg->mg d.name=YN (.ref D) ->
   ∃M:Ve,(∀(s:U2) (u:UW),Yk s M ⟨[u],[]⟩ [(x,u)]) /\
    ∀base:Vi,(K w.params).In base->base.Ns Vs mg->aT l.prog w (K w.params) mg base (CX w) k D M [x] (sp w))
  (O:∀(w:Va) (H:Hp) (a:U0) (ns:List Int),ns.length<=n->GU H->aM (K w.params) H a (ns.map V.int)->sp w [.ref a] H (λv _=>v=.bl true) λ_ _ _=>False)
  (Z:∀(w:Va) (H:Hp) (s:U2) (e:UW) (s':U2),CX w [] H s (λ_ _ _=>False) e s'->False) :
  UI q loose XP YP l.row.toRowW d [] (λf vs=>PySem.call f vs):=by
 refine Att.tP hn L λw s₀ z mg mb D o pm cd doc a vs ns G Y ho hd Fw M4 B hints hlen hg=>?_;have KX:=hY w _ Y;obtain⟨M,hb,hF⟩:=F w mg D _ KX G.T.g M4;exact AM KX G.T.g G.T.b G.T.builtins G.T.nolimit hg B hints (PK hlen J) hr hF hb (λH hO hS=>O w H a ns hlen hO hS) λH e s'=>Z w H z e s'
end L2
/- THE acA LG (shape; LID, My.* are aaz):
   My.Adr: a structure of the addresses Dr acB aaA names (classes,IF); My.Txt K t: a structure (Prop) of the equations over K;
   My.GV:{K} {implicit addresses ..} (e1:nsIn K Vs "law" = some (YN (.ref f))) (e2:K.lookup f=some ⟨oc,od,.func (fnOf "law" "law" params body scope dV kV doc pm an jr ct),sl⟩) (e3:codeIn K jr "law" = true) .. : ∃t,My.Txt K t
set_option maxRecDepth 100000 in
set_option maxHeartbeats 0 in
theorem PySem.Challenge.DJ:PySem.Challenge.GW.Holds:=by
 w_on;o_law;k_head;(case hw=>w_witness2)
 k_fill
 refine L2.xo (l:=PySem.Challenge.GW) (n:=63) (k:=40) (x:="script") (CX:=λw=>..) (sp:=λ_=>z.M5) rfl (by decide) rfl ⟨rfl,by decide,by decide⟩ (λw h Y=>UE Y) ?F ?S ?C
 case F =>
  intro w mg Z h O G B;have T:∃t,z.Txt (L2.KOf O) t:=by
   dsimp only [L2.KOf]                          -- K V D as «<heap const> w.params» for k_is;refine' z.GV ?e1 ?e2 ?e3 ..
   (case e1=>PySem.W.k_is)                    -- in the order: a name->its address->its object->its parts
   (case e2=>PySem.W.k_is)
   ..
  obtain⟨t,T⟩:=T;have e0:=B.symm.trans (SV O G T.law);cases e0                                       -- Z is the J own address;exact⟨_,λs u => .of_eq rfl,λbase L M=>z.GX T L M⟩     -- if «.of_eq rfl» comes too early: refine' ⟨_, ?b,λbase L M=>z.GX T L M⟩; exactλs u => .of_eq rfl
 case S=>exactλw H a ns hl hO hS=>..
 case C=>exact ..
(the tactic k_is has no namespace: write k_is) -/
namespace L2
open PySem PySem.Spec PyProof.Rows
noncomputable def cY(s:W3):Arguments:=match s with
 |.FunctionDef _ a _ _ _ _ _ _ _ _=>a
 |_=>{ posonlyargs:=[],args:=[],vararg:=none,kwonlyargs:=[],kw_defaults:=[],kwarg:=none,defaults:=[] }
noncomputable def cC(s:W3):List Stmt:=match s with
 |.FunctionDef _ _ b _ _ _ _ _ _ _=>b
 |_=>[]
noncomputable def aH(s:W3):Scope:=match s with
 |.FunctionDef _ _ _ _ _ _ z _ _ _=>z
 |_=>{ kind:=.function,names:=[],isGenerator:=false,isCoroutine:=false }
noncomputable abbrev b7:C7:=λ_ _ _ _ _ _=>False
noncomputable abbrev E0:XK:=λ_ _ _=>False
theorem JI{X:Cx}:Passes b7 X E0:=λ_ _ _ _ _ _ _ h=>h.elim
structure GY(K:Pc) (x qual:Vl) (st:W3) (f:U0) (fd:Ve):Prop where
 ex:∃(oc:UW) (od:Option U0) (kV doc pm:UW) (an:Option U0) (jr ct:UW) (MQ:Array (Option UW)),
  fd=QJ x qual (cY st) (cC st) (aH st) .none kV doc pm an jr ct/\K.lookup f=YN ⟨oc,od,.func fd,MQ⟩/\RM K jr qual=true
 kp:RL K (.ref f)=true
section
variable {P:U8}{w:Va}{K:Pc}{mg:Vl->Option UW}{base:Vi}
theorem GY.ok{x qual:Vl}{st:W3}{f:U0}{L:Ve}{N ps:List Vl}{k:Nat}{sp:Sp}(F:GY K x qual st f L)(S:aR N ps (aH st))(len:∀vs H Q E,sp vs H Q E->vs.length=ps.length)
  (B:∀(z:UW) (A:Vh) (outer:List YK) (s:U2) (H:Hp) (vs:List V) (Q:VK) (E:XK),gJ k (A.deeper (envOfC qual (aH st) s.heap.objs.size f z))->sp vs H Q E ->
   ∃t,sY (yJ b7 P w K mg base N qual (aH st) f z A outer s H E).LA (cC st) t/\t { nx:=λ_ M=>Q .fF M,rt:=Q } (start N vs) H):aT P w K mg base b7 (k+1) f L ps sp:=by
 obtain⟨oc,od,kV,doc,pm,an,z,ct,O,rfl,lk,D⟩:=F.ex;refine Jw lk D S len λA outer s H vs Q E Z J=>?_;obtain⟨t,h,q⟩:=B z A outer s H vs Q E Z J;exact⟨t,h.LA,q⟩
theorem GY.binds{x qual:Vl}{st:W3}{f:U0}{H:Ve}{ps:List Vl}(F:GY K x qual st f H)
  (h:∀(kV doc B:UW) (an:Option U0) (z ct:UW) (D:List UW),D.length=ps.length->WH (QJ x qual (cY st) (cC st) (aH st) .none kV doc B an z ct) ⟨D,[]⟩=pure (ps.zip D)):Binds K H ps []:=by
 obtain⟨M,O,kV,doc,B,an,z,ct,J,rfl,lk,L⟩:=F.ex;exact .all (h kV doc B an z ct)
theorem vE {x qual : Vl}{st : W3}{f : U0}{H : UW}{J an : Option U0}{B : Array (Option UW)}{kV doc D z ct : UW}(l : K.lookup f=YN ⟨H, J, .func (QJ x qual (cY st) (cC st) (aH st) .none kV doc D an z ct), B⟩)
    (c:RM K z qual=true) (k:RL K (.ref f)=true): GY K x qual st f (QJ x qual (cY st) (cC st) (aH st) .none kV doc D an z ct):= ⟨⟨H,J,kV,doc,D,an,z,ct,B,rfl,l,c⟩,k⟩
end
theorem xp{A:Vh}{k:Nat}(z:gJ k A):A.units+1<cLine:=Q7 (Tz (by decide:1<=64) _) z.units
theorem aB{n:Nat}(h:n<=1000):n<sizeLine:=Q7 h (by decide)
section
variable {X:Cx}
theorem pv (i : Nat){x : Vl}{pos : WG}(B : X.N[i]?=YN x := by rfl)(D : Mp X.env.scope x := by first | exact Or.inl rfl | exact Or.inr (Or.inl rfl) | exact Or.inr (Or.inr rfl))(hd : (x == ("__debug__" : Vl))=false := by decide)
    (z:(x==("__classdict__" : Vl))=false:=by decide): PE X (.Name x pos) (Dt i):= Gw B D hd z
end
theorem fW{A B:Prop}(h:B):if false=true then A else B:=by
 rw[UX Pq];exact h
theorem rD{A B:Prop}(h:A):if true=true then A else B:=by
 rw[UZ rfl];exact h
theorem gv{c A B:Prop}[Decidable c](z:c->A)(D:¬c->B):if c then A else B:=by
 by_cases h:c
 .rw[UZ h];exact z h
 rw[UX h];exact D h
def av(H z:Hp):Prop:=∀b o,H b=YN o->z b=YN o
theorem av.refl(H:Hp):av H H:=λ_ _ h=>h
theorem av.trans{H z B:Hp}(a:av H z)(b:av z B):av H B:=λc o h=>b c o (a c o h)
theorem av.free{H z:Hp}(e:av H z){l:U0}(h:z l=Option.none):H l=Option.none:=by
 cases q:H l with
 |none=>rfl
 |some o =>
  rw[e l o q]at h;cases h
theorem av.seq{K:Pc}{H z:Hp}{a:U0}{xs:List V}(e:av H z)(h:aM K H a xs):aM K z a xs:=by
 rcases h with(h|⟨o,h⟩)|h
 .exact .inl (.inl (e _ _ h))
 .exact .inl (.inr ⟨o,e _ _ h⟩)
 exact .inr h
section
variable {κ:Type}[DecidableEq κ]
theorem AN{kvs:List (κ×V)}{k:κ}(h:bA kvs k=none):¬k∈kvs.map (·.1):=by
 intro m;obtain⟨p,z,e⟩:=O6.mp m;have q:(kvs.any λB=>decide (B.1=k))=true:=Qv.mpr ⟨p,z,UU e⟩;rw[fb,h]at q;exact U4 q (by simp)
theorem rE{kvs:List (κ×V)}{k:κ}{v:V}(h:bA kvs k=YN v):k∈kvs.map (·.1):=by
 have q:(kvs.any λz=>decide (z.1=k))=true:=by
  rw[fb,h]
  all_goals rfl
 obtain⟨p,B,e⟩:=Qv.mp q;exact O6.mpr ⟨p,B,U6 e⟩
end
theorem rG{α:Type}{t:YM α}{Q B:α->U2->Prop}{M:YC}{A:Vh}{E:UW->U2->Prop}{s:U2}(h:wpAny M A t Q (λ_ _=>False) s)(D:∀a s,Q a s->B a s):wpAny M A t B E s :=
 V6 h D λ_ _ z=>z.elim
theorem gw:∀{xs:List V}{z:List UW},xs.length=z.length->(∀(i:Nat) (x:V) (u:UW),xs[i]?=YN x->z[i]?=YN u->RelV x u)->Vals xs z
 |[],[],_,_=>.nil
 |[],_::_,h,_=>by simp at h
 |_::_,[],h,_=>by simp at h
 |x::xs,u::z,h,f=>.cons (f 0 x u rfl rfl) (gw (by simpa using h) λi y w e1 e2=>f (i+1) y w (by simpa using e1) (by simpa using e2))
noncomputable def cD(X:Cx)(scope:We)(z:List (Vl×U0))(NC:List Vl)(fp:List U0)(C:U0)(s₀:U2)(H₀:Hp):Cx where
 prog:=X.prog
 w:=X.w
 K:=X.K
 mg:=X.mg
 base:=X.base
 A:=X.A
 N:=NC
 s₀:=s₀
 H₀:=H₀
 env:=Yu scope z C X.env
 outer:=X.stack
 stack:=X.stack
 ex:=fp
 fn:=λ_=>false
 calm:=X.calm
 pn:=[]
 xe:=λ_ _=>False
structure ip(X:Cx) (scope:We) (cl:List (Vl×U0)) (NC:List Vl) (Ad:List (Option Nat)):Prop where
 AO:Xm scope X.env=pure cl
 cell:∀y∈scope.names,y.2≠.cell
 kind:scope.kind=.function
 names:∀y∈scope.names,y.2=.local->scope.names.lookup y.1=YN .local
 cls:∀x c,cl.lookup x=YN c->X.env.cells.lookup x=YN c
 has:∀x,((Wa scope X.env).names.lookup x=YN .cell\/(Wa scope X.env).names.lookup x=YN .free)->∃c,cl.lookup x=YN c
 len:Ad.length=NC.length
 src:∀(i j:Nat) (x:Vl),Ad[i]?=YN (YN j)->NC[i]?=YN x->X.N[j]?=YN x/\(X.env.kindOf x=YN .cell\/X.env.kindOf x=YN .free) /\
  ((Wa scope X.env).names.lookup x=YN .cell\/(Wa scope X.env).names.lookup x=YN .free)
noncomputable def AQ(z:List (Option Nat))(σ:St):St:=z.map λo=>o.bind λj=>(σ[j]?).join
section
variable {X:Cx}{scope:We}{cl:List (Vl×U0)}{NC:List Vl}{Ad:List (Option Nat)}{pins:List (U0×VH)}{σ:St}{H:Hp}{s:U2}{fp:List U0}
theorem AR{B:Vi}{tk:Nat}{m:Vl->Option UW}(O:ip X scope cl NC Ad)(I:Inv X pins σ H s)(Z:∀b∈fp,mR X pins H b)(ho:∀b∈fp,∃o,s.heap.get? b=YN o)
  (hn:B.Ns s.heap.objs.size m) (hk:∀b o,s.heap.get? b=YN o->B.get? b=YN o) :
  Inv (cD X scope cl NC fp s.heap.objs.size s H) [] (AQ Ad σ) H { s with heap:=B,toks:=tk }:=by
 have lt:∀b∈fp,b<s.heap.objs.size:=λb D=>let⟨o,e⟩:=ho b D;Pt e
 refine⟨⟨I.ok.mod,O.kind,I.ok.glob,I.ok.blt,O5 _,λx y c M V=>I.ok.inj x y c (O.cls x c M) (O.cls y c V),O.has,λx c h=>(Pq h).elim,I.ok.hd,I.ok.frames,.inl rfl,
   λb D=>⟨PH (lt b D),λx c h=>(Z b D).2.2.2.2.1 x c (O.cls x c h)⟩,I.bs,PK I.ok.Fi I.sz,λb o e D=>?_,λb D hs=>?_,I.stack,I.w5⟩,
  rfl,I.bare,Un.kept hk,⟨m,hn,λi x v e1 e2 e3=>?_⟩,λx c h=>?_,I.bj.fresh (O5 _),λx c h=>I.iL x c (O.cls x c h),λp hp=>U4 (show p∈([]:List (U0×VH))from hp) (by simp),I.bj.kept hk,?_⟩
 .rcases(Z b D).2.2.2.1 with z|z
  .exact I.ok.Ao b o e z
  exact U4 (Qf (Pt e) (PK I.ok.Fi z)) (Rh _)
 .rcases Pu.mp (I.rm b hs)with e|e
  .exact(Z b D).2.1 e
  exact(Z b D).2.2.1 e
 .have e2:(Ad.map λo=>o.bind λj=>(σ[j]?).join)[i]?=YN (YN v):=e2;rw[O7]at e2;cases q:Ad[i]? with
  |none=>rw[q]at e2;cases e2
  |some oj =>
   rw[q]at e2;cases oj with
   |none=>cases e2
   |some j =>
    have L:(σ[j]?).join=YN v:=Option.some.inj e2;have e5:σ[j]?=YN (YN v):=by
     cases z:σ[j]? with
     |none=>rw[z]at L;cases L
     |some y =>
      rw[z]at L;have L:y=YN v:=L;rw[L]
    obtain⟨a1,J,a3⟩:=O.src i j x q e1;obtain⟨m0,IG,hl⟩:=I.loc;obtain⟨u,r,l⟩:=hl j x v a1 e5 (.inr J);refine⟨u,r,?_⟩;rcases l with⟨k,_⟩|⟨_,c,e,z⟩
    .rcases J with J|J
     .rw[k]at J;cases J
     rw[k]at J;cases J
    obtain⟨c',e'⟩:=O.has x a3;have e6:=O.cls x c' e';rw[e]at e6;cases e6;obtain⟨oc,M,V⟩:=z;exact .inr ⟨a3,c,e',oc,hk _ _ M,V⟩
 .obtain⟨v,oc,M,V⟩:=I.cell x c (O.cls x c h);exact⟨v,oc,hk _ _ M,V⟩
 show(Ad.map _).length=NC.length;rw[O3];exact O.len
theorem comp_back{L:List (U0×VH)}{σ':St}{V:Hp}{s':U2}{h':Vi}(I:Inv X pins σ H s)(Z:∀b∈fp,mR X pins H b)(J:Inv (cD X scope cl NC fp s.heap.objs.size s H) L σ' V s')
  (hs:Heap.SameBut s.heap.objs.size s'.heap h'):Inv X pins σ V { s' with heap:=h' }:=by
 have ne:∀{b:U0}{o:VH},s.heap.get? b=YN o->b≠s.heap.objs.size:=λe=>PH (Pt e);have z:V s.heap.objs.size=none:=J.free;have B:Un (Ac X.stack) fp H V s.heap s'.heap:=J.base;refine I.Ji (s':={ s' with heap:=h' }) (ch:=fp) J.os ⟨λb o q n D O=>(hs.2 b (ne q)).trans (B.keep b o q n D O),λb o q n D O=>?_,B.free,λb o q O=>?_,B.rf,B.pC,B.rh⟩ (λb u e=>?_) J.bare
  λb D=>⟨(Z b D).2.2.2.1,(Z b D).2.1,(Z b D).2.2.2.2.1,(Z b D).2.2.2.2.2⟩
 .obtain⟨sl,e⟩:=B.slot b o q n D O;exact⟨sl,(hs.2 b (ne q)).trans e⟩
 .obtain⟨o',e⟩:=B.there b o q O;exact⟨o',(hs.2 b (ne q)).trans e⟩
 refine(J.bj b u e).rd (λc v M q=>(hs.2 c ?_).trans q) (λ_ q=>q) λ_ _ q=>q;rintro rfl;rcases M with M|M
 .rw[<-M,z]at e;cases e
 rw[z]at M;cases M
end
def JJ(X:Cx)(z:List Vk)(t:TT):Prop :=
 ∀(pins:List (U0×VH)) (s:U2) (σ:St) (H:Hp) (Q:Bool->Hp->Prop),Inv X pins σ H s->t σ H Q ->
  wpAny (model X.prog X.w) X.A (forIn z true λc r=>if r=true then do let ok <- isTrue c X.env (eval c X.env);pure (ForInStep.yield ok)else pure (ForInStep.yield r)) (TP X pins σ Q) X.xe s
def JK:TT:=λ_ H Q=>Q true H
theorem jB{i:Nat}{v:V}{σ:St}{H:Hp}{A B:St->Hp->Prop}(h:A (σ.set i (YN v)) H):w9 i v σ H (λz J=>JK z J λb D=>if b=true then A z D else B z D):=h
theorem cf{X:Cx}:JJ X [] JK:=λ_ _ _ H _ I h=>wpAny_tests_nil ⟨H,I,h⟩
theorem cZ{X:Cx}{c:Vk}{t:TT}(h:PT X c t):JJ X [c] t:=λpins s σ H Q I hw=>wpAny_tests_one (h pins s σ H Q I hw)
def mD(J:It)(g:TG)(tt:TT)(te:TE)(D:U0)(Q:VK)(B:St)(H₀:Hp):Prop :=
 ∃W:Nat->Nat->St->Hp->Prop,(∃m,W 0 m B H₀)/\∀i m H L,W i m H L ->
  (J.stop i L/\Q (.ref D) L)\/(J.go i L/\∃N:St->Hp->Prop,(∀M O,N M O->∃V,V<m/\W (i+1) V M O) /\
   ∀x O,J.Fm i L x O->g x H O λz H3=>tt z H3 λb Z=>if b=true then te z Z λv H5=>∃ys,H5 D=YN (.lst ys)/\ys.length<U7/\N z (upd H5 D (.lst (ys++[v])))else N z Z)
def AS(L:TI)(g:TG)(M:TT)(O:TE)(z:List (Option Nat)):TE:=λσ H Q=>L σ H λJ B=>∀D,B D=none->mD J g M O D Q (AQ z σ) (upd B D (.lst []))
theorem qy{X:Cx}{elt iter tg:Vk}{ifs:List Vk}{scope:We}{pos pp:WG}{cl:List (Vl×U0)}{NC:List Vl}{Ad:List (Option Nat)}{wi:TI}{g:TG}{tt:TT}{te:TE}{use:Option (UW->YM Unit)}{R:UW->U2->Prop}
  (hc:X.calm=true) (O:ip X scope cl NC Ad) (hi:PI X tg iter wi)
  (hg:∀fp C s₀ H₀,PG (cD X scope cl NC fp C s₀ H₀) tg g) (ht:∀fp C s₀ H₀,JJ (cD X scope cl NC fp C s₀ H₀) ifs tt) (he:∀fp C s₀ H₀,PE (cD X scope cl NC fp C s₀ H₀) elt te)
  (hs:∀x,Wo iter X.env x=pure x) {pins:List (U0×VH)}{s:U2}{σ:St}{H:Hp}{Q:VK} (I:Inv X pins σ H s) (h:AS wi g tt te Ad σ H Q)
  (K:∀(D:U0) (fp:List U0) (B s4:U2) (σ3:St) (H0 H3:Hp) (u:Flow),Inv X pins σ H0 B->(∀b∈fp,mR X pins H0 b)->Inv (cD X scope cl NC fp B.heap.objs.size B H0) [] σ3 H3 s4->Q (.ref D) H3->compPost (model X.prog X.w) X.A X.xe use R (.ref D) B.heap.objs.size (.ok u) s4) :
  wpAny (model X.prog X.w) X.A (comprehension (.ListComp elt [⟨tg,iter,ifs,0⟩] scope pos) scope X.env pp (newList []) false (eval iter X.env) use) R X.xe s:=by
 refine wpAny_comprehension_free (use:=use) rfl hs O.AO O.kind O.names (bR (hi pins s σ H _ I h) λv s1 h1=>bR h1 λitv L h2=>?_);obtain⟨it,fp,tn,J,H2,e,I2,T,LB,f2,h2⟩:=h2;subst e;have hD:H2 L.heap.objs.size=none:=I2.bj.fresh (O5 _);obtain⟨W,⟨m0,w0⟩,turn⟩:=h2 _ hD;refine Vg (wpAny_newFunctionEnv O.cell (by intro y hy;simp at hy) (λh₁ V Z=>?_) O.kind);dsimp only at V Z⊢;have I3:Inv X pins σ (upd H2 L.heap.objs.size (.lst [])) { L with heap:=L.heap.push { cls:=.type "list",dict:=none,data:=.seq ([]:List UW).toArray } }:=I2.GR (its:=[]) (t':=L.toks) .nil (by decide);have ob2:∀b∈fp,∃o,L.heap.get? b=YN o:=λb M=>let⟨o,e,_⟩:=T.obj 0 _ LB b M;⟨o,e⟩
 have neD:∀b∈fp,b≠L.heap.objs.size:=λb M=>let⟨o,e⟩:=ob2 b M;PH (Pt e)
 have f3:∀b∈fp,mR X pins (upd H2 L.heap.objs.size (.lst [])) b:=λb M=>⟨by rw[au (neD b M)];exact(f2 b M).1,(f2 b M).2⟩
 generalize hs3:({ L with heap:=L.heap.push { cls:=.type "list",dict:=none,data:=.seq ([]:List UW).toArray } }:U2)=B at I3;have JL:L.heap.push { cls:=.type "list",dict:=none,data:=.seq ([]:List UW).toArray }=B.heap:=by rw[<- hs3]
 have ob3:∀b∈fp,∃o,B.heap.get? b=YN o:=λb M=>let⟨o,e⟩:=ob2 b M;⟨o,by rw[<-JL];exact O8 _ e⟩
 rw[JL]at V Z⊢;have old:∀b o,B.heap.get? b=YN o->h₁.get? b=YN o:=λb o e=>Z.extBut b o (PH (Pt e)) (O8 _ e);have st1:tn 0 h₁:=T.keep 0 _ _ LB λb M o e=>old b o (by rw[<-JL];exact O8 _ e);have IC:∀tk,Inv (cD X scope cl NC fp B.heap.objs.size B (upd H2 L.heap.objs.size (.lst []))) [] (AQ Ad σ) (upd H2 L.heap.objs.size (.lst [])) { B with heap:=h₁,toks:=tk }:=λtk=>AR O I3 f3 ob3 V old;have GZ:∀{H':Hp},(∀b∈fp,H' b=none)->∀b∈fp,mR (cD X scope cl NC fp B.heap.objs.size B (upd H2 L.heap.objs.size (.lst []))) [] H' b:=λ{H'} hn b M=>by
  obtain⟨o,e⟩:=ob3 b M;refine⟨hn b M,PH (Pt e),λz=>?_,.inl M,λx c hx=>(f3 b M).2.2.2.2.1 x c (O.cls x c hx),λp hp=>U4 (show p∈([]:List (U0×VH))from hp) (by simp)⟩;rcases Pu.mp (I3.rm b z)with q|q
  .exact(f3 b M).2.1 q
  exact(f3 b M).2.2.1 q
 have loop:∀s₃:U2,s₃={ L with heap:=h₁,toks:=L.toks+([]:List (Vl×UW)).length } ->
   Wq (model X.prog X.w) X.A (.compLoop (.ListComp elt [⟨tg,iter,ifs,0⟩] scope pos) 0 (.ref it) (.ref L.heap.objs.size) (Yu scope cl B.heap.objs.size X.env))
    (compPost (model X.prog X.w) X.A X.xe use R (.ref L.heap.objs.size) B.heap.objs.size) s₃:=by
  rintro s₃ rfl;refine codeAny_loop rfl (λn s'=>∃i σ' H',Inv (cD X scope cl NC fp B.heap.objs.size B (upd H2 L.heap.objs.size (.lst []))) [] σ' H' s'/\tn i s'.heap/\(∀b∈fp,H' b=none)/\W i n σ' H') (λn s' hI=>?_) m0
   ⟨0,_,_,by have z:=IC (L.toks+([]:List (Vl×UW)).length);rw[<-hs3]at z⊢;exact z,st1,λb M=>(f3 b M).1,w0⟩
  show wpAny _ X.A ((compTurn (.ListComp elt [⟨tg,iter,ifs,0⟩] scope pos) 0 (.ref it) (.ref L.heap.objs.size) (Yu scope cl B.heap.objs.size X.env)).onRaise (λx=>do noteFrame x (Yu scope cl B.heap.objs.size X.env);theTreesLotGoes x)) _ _ s';refine wpAny_noted ?_;rw[compTurn_list];obtain⟨i,σ3,H3,I3',Jr,Js,w3⟩:=hI;rcases turn i n σ3 H3 w3 with⟨stop,qn⟩|⟨go,N,hN,step⟩
  .refine UR (WD (UR (bR (T.done (cD X scope cl NC fp B.heap.objs.size B (upd H2 L.heap.objs.size (.lst []))) rfl rfl rfl hc i [] s' σ3 H3 _ I3' (GZ Js) Jr stop) λr s4 ⟨hr,I4⟩=>?_)));subst hr;exact UY (K _ _ _ _ _ _ _ _ I3 f3 I4 qn)
  refine UR (WD (UR (bR (T.item (cD X scope cl NC fp B.heap.objs.size B (upd H2 L.heap.objs.size (.lst []))) rfl rfl rfl hc i [] s' σ3 H3 _ I3' (GZ Js) Jr go) λr s4 ⟨u,hr,h4⟩=>?_)));subst hr;refine UR (bR h4 λ_ s5 zq=>?_);obtain⟨x,H5,I5,r5,y5,GA,MH⟩:=zq;have MI:=I5.pinned (GZ MH) (T.obj _ _ GA);refine UR (rG (hg fp _ B _ _ s5 σ3 H5 x u _ MI r5 (step x H5 y5)) λ_ s6 ⟨σ6,H6,I6,q6⟩=>?_);have again:∀{s7:U2}{H7:Hp},Inv (cD X scope cl NC fp B.heap.objs.size B (upd H2 L.heap.objs.size (.lst []))) ([]++nP fp s5.heap) σ6 H7 s7->N σ6 H7 ->
    ∃m,m<n/\∃i σ' H',Inv (cD X scope cl NC fp B.heap.objs.size B (upd H2 L.heap.objs.size (.lst []))) [] σ' H' s7/\tn i s7.heap/\(∀b∈fp,H' b=none)/\W i m σ' H':=λ{s7 H7} I7 n7=>by
   obtain⟨m',hm,w7⟩:=hN σ6 H7 n7;refine⟨m',hm,i+1,σ6,H7,I7.j8,T.keep _ _ _ GA λb M o e=>(I7.pin (b,o) (PB _ (PB _ (ic M e)))).1,λb M=>?_,w7⟩;obtain⟨o,e,d⟩:=T.obj _ _ GA b M;exact(I7.pin (b,o) (PB _ (PB _ (ic M e)))).2.1
  refine UR (rG (ht fp _ B _ _ s6 σ6 H6 _ I6 q6) λok s7 ⟨H7,I7,q7⟩=>?_);cases ok with
  |false=>exact UY ⟨rfl,again I7 q7⟩
  |true =>
   refine UR (UR (rG (he fp _ B _ _ s7 σ6 H7 _ I7 q7) λu8 s8 zq=>?_));obtain⟨v8,H8,I8,r8,ys,hy,hz,n8⟩:=zq;refine UR (rG (dI _ s8 σ6 H8 (.ref L.heap.objs.size) [v8] (.ref L.heap.objs.size) [u8] (λ_ H9=>N σ6 H9) I8 rfl (.cons r8 .nil) ⟨_,ys,v8,rfl,rfl,hy,hz,n8⟩) λ_ s9 zq=>?_);obtain⟨_,H9,I9,_,n9⟩:=zq;exact UY (UY ⟨rfl,again I9 n9⟩)
 exact codeAny_compStart_list (loop _ rfl) (T.self _ 0 _ _ _ st1 (loop _ rfl))
theorem bN{X:Cx}{z iter M:Vk}{B:List Vk}{scope:We}{pos:WG}{L:List (Vl×U0)}{NC:List Vl}{J:List (Option Nat)}{wi:TI}{g:TG}{tt:TT}{te:TE}
  (hc:X.calm=true) (O:ip X scope L NC J) (hi:PI X M iter wi)
  (hg:∀fp C s₀ H₀,PG (cD X scope L NC fp C s₀ H₀) M g) (ht:∀fp C s₀ H₀,JJ (cD X scope L NC fp C s₀ H₀) B tt) (he:∀fp C s₀ H₀,PE (cD X scope L NC fp C s₀ H₀) z te)
  (hs:∀x,Wo iter X.env x=pure x:=by intro _;rfl):PE X (.ListComp z [⟨M,iter,B,0⟩] scope pos) (AS wi g tt te J):=by
 intro pins s σ H Q I h;rw[eval_ListComp];refine qy hc O hi hg ht he hs I h λD fp s3 s4 σ3 H0 H3 u I3 f3 I4 qn=>?_;obtain⟨m',V,_⟩:=I4.loc;exact⟨m',V,λh' Z=>⟨.ref D,H3,comp_back I3 f3 I4 Z,rfl,qn⟩⟩
theorem fX{lo:Int}{n:Nat}{g:TG}{L:TT}{M:TE}{D:U0}{Q:VK}{z:St}{H₀:Hp}(Pv:Nat->St->Hp->Prop)(Z:Pv 0 z H₀)
  (hs:∀i σ H,i<n->Pv i σ H->g (.int (lo+i)) σ H λB H3=>L B H3 λb O=>if b=true then M B O λv V=>∃ys,V D=YN (.lst ys)/\ys.length<U7/\Pv (i+1) B (upd V D (.lst (ys++[v])))else Pv (i+1) B O)
  (hd:∀σ H,Pv n σ H->Q (.ref D) H):mD (Fo lo n) g L M D Q z H₀:=by
 refine⟨λi m σ H=>m=n-i/\i<=n/\Pv i σ H,⟨n,by simp,Qb _,Z⟩,?_⟩;rintro i m σ H ⟨rfl,hi,p⟩;by_cases J:i<n
 .refine .inr ⟨J,Pv (i+1),λσ' H' p'=>⟨n-(i+1),by omega,rfl,J,p'⟩,λx H' y=>?_⟩;obtain⟨e,y⟩:=y;subst e y;exact hs i σ _ J p
 have e:i=n:=by omega
 subst e;exact .inl ⟨O5 _,hd σ H p⟩
theorem bg{K:Pc}{a:U0}{xs:List V}{g:TG}{L:TT}{M:TE}{D:U0}{Q:VK}{z:St}{H₀:Hp}(Pv:Nat->St->Hp->Prop)(h0:Pv 0 z H₀)(hl:∀i σ H,i<=xs.length->Pv i σ H->aM K H a xs)
  (hs:∀i x σ H,xs[i]?=YN x->Pv i σ H->g x σ H λB H3=>L B H3 λb O=>if b=true then M B O λv Z=>∃ys,Z D=YN (.lst ys)/\ys.length<U7/\Pv (i+1) B (upd Z D (.lst (ys++[v])))else Pv (i+1) B O)
  (hd:∀σ H,Pv xs.length σ H->Q (.ref D) H):mD (IB K a) g L M D Q z H₀:=by
 refine⟨λi m σ H=>m=xs.length-i/\i<=xs.length/\Pv i σ H,⟨xs.length,by simp,Qb _,h0⟩,?_⟩;rintro i m σ H ⟨rfl,hi,p⟩;have q:=hl i σ H hi p;by_cases J:i<xs.length
 .refine .inr ⟨⟨xs,xs[i],q,by simp[J]⟩,Pv (i+1),λσ' H' p'=>⟨xs.length-(i+1),by omega,rfl,J,p'⟩,λx H' y=>?_⟩;obtain⟨e,y⟩:=y;subst e;exact hs i x σ _ (y xs q) p
 have e:i=xs.length:=by omega
 subst e;exact .inl ⟨⟨xs,q,O5 _⟩,hd σ H p⟩
theorem gz{X:Cx}{scope:We}{NC:List Vl}(z:scope.kind=.function)(h:∀y∈scope.names,y.2≠.cell/\y.2≠.free)(L:∀y∈scope.names,y.2=.local->scope.names.lookup y.1=YN .local) :
  ip X scope [] NC (Qr NC.length none) where
 AO:=closureFor_none λx M=>(h x M).2
 cell:=λy D=>(h y D).1
 kind:=z
 names:=L
 cls:=λx c e=>by cases e
 has:=λx e=>by
  exfalso;have key:∀k,(Wa scope X.env).names.lookup x=YN k->k=.cell\/k=.free->False:=λk e B=>by
   have O:=PySem.mem_of_lookup e;obtain⟨⟨n,V⟩,D,J⟩:=O6.mp O;have H:=h _ D;have Z:(V==NameKind.free)=false:=by simpa using H.2
   simp only[Z,RJ,Ql,Vu,Prod.mk.injEq]at J;obtain⟨_,rfl⟩:=J;rcases B with B|B
   .exact H.1 B
   exact H.2 B
  rcases e with e|e
  .exact key _ e (.inl rfl)
  exact key _ e (.inr rfl)
 len:=by simp
 src:=λi j x e _=>by
  rw[QS]at e
  split at e <;> cases e
section
variable {X:Cx}
theorem qz:cO X (.type "range") (λxs H Q=>∃j,xs=[.int j]/\∀p,H p=none->Q (.ref p) (upd H p (.j4 0 j))):=by
 intro pins s σ H xs B Q I r h;obtain⟨j,rfl,q⟩:=h;obtain⟨u,rfl,z⟩:=r.one;obtain⟨t,rfl⟩:=z;refine call_range_1 ⟨.ref s.heap.objs.size,_,I.laid (o:=.j4 0 j) (λb u e=>O8 _ e) (O5 _) ?_,rfl,q _ (I.bj.fresh (O5 _))⟩;exact⟨_,_,_,Pm _ rfl⟩
noncomputable def tQ(lo:Int)(n:Nat):List V:=(PX n).map λ(i:Nat)=>V.int (lo+i)
theorem nV(lo:Int)(n:Nat):(tQ lo n).length=n:=by unfold tQ;rw[O3,PN]
theorem AU{lo:Int}{n i:Nat}(h:i<n):(tQ lo n)[i]?=YN (.int (lo+i)):=by
 unfold tQ;rw[O7,Q1 h]
 rfl
theorem jG(M:X.calm=true):cO X (.type "list") (λxs H Q=>∃p lo hi,xs=[.ref p]/\H p=YN (.j4 lo hi)/\(-(2 ^ 62)<=lo/\lo<2 ^ 62/\-(2 ^ 62)<=hi/\hi<2 ^ 62)/\(hi-lo).toNat<=2 ^ 20 /\
  ∀l,H l=none->Q (.ref l) (upd H l (.lst (tQ lo (hi-lo).toNat)))):=by
 intro pins s σ H xs us Q I r h;obtain⟨p,lo,hi,rfl,O,⟨V,Z,b3,b4⟩,hz,q⟩:=h;obtain⟨u,rfl,ru⟩:=r.one;cases ru;obtain⟨t,u',v',e⟩:=I.bj p _ O;have hsz:(hi-lo).toNat<=sizeLine:=PK hz (by decide);refine call_list_range (n:=(hi-lo).toNat) (I.ok.hd M) (show IsRange s.heap p lo hi 1 t u' v' from e) (small_one V Z b3 b4) (by rw[rangeSize_one];split <;> omega) (PK hz (by decide)) λh' tk D c' hk J B=>?_;refine⟨.ref s.heap.objs.size,_,I.laid (o:=.lst (tQ lo (hi-lo).toNat)) (t':=tk) hk (O5 _) ⟨by rw[nV];exact hsz,D.toList,c',?_,by simpa using J⟩,rfl,q _ (I.bj.fresh (O5 _))⟩;refine gw (by rw[nV,PM,B.1]) λi x w e1 e2=>?_;have L:i<(hi-lo).toNat:=by
  have z:=(O2.mp e1).1;rw[nV]at z;exact z
 rw[AU L]at e1;cases e1;obtain⟨t,rfl⟩:=B.2 i w (by simpa using e2);exact⟨t,by rw[UL]⟩
theorem tR:cO X (.builtin "isinstance") (λxs H Q=>∃x n t b,xs=[x,.ty n]/\lQ X.K H x t/\RK X.K t (.type n)=YN b/\Q (.bl b) H):=by
 intro pins s σ H xs J Q I r h;obtain⟨x,n,t,b,rfl,ty,e,q⟩:=h;obtain⟨u,v,rfl,z,B⟩:=r.two;cases B;exact yI I z ty e λD=>⟨.bl b,H,I.tok D,rfl,q⟩
theorem tS(K:Pc):RK K (.type "int") (.type "int")=YN true:=by unfold RK;rw[UZ (by decide +kernel)]
theorem rH(K:Pc):RK K (.type "int") (.type "bool")=YN false:=by
 unfold RK;rw[UX (by decide +kernel)];show(if PySem.W.kitMeta "bool" = true then(fastBuiltinMro "int").map (·.contains (Value.type "bool"))else none)=YN false;decide +kernel
end
structure Fn(K:Pc) (mg:Vl->Option UW) (x:Vl) (st:W3) (ps:List Vl) (f:U0) (fd:Ve):Prop where
 fn:GY K x x st f fd
 b:Binds K fd ps []
 g:mg x=YN (.ref f)
theorem Fn.mk' {K : Pc}{mg : Vl -> Option UW}{x : Vl}{st : W3}{ps : List Vl}{f : U0}{D : Ve}(F : GY K x x st f D)
    (h:∀(kV doc H:UW) (an:Option U0) (z ct:UW) (B:List UW),B.length=ps.length->WH (QJ x x (cY st) (cC st) (aH st) .none kV doc H an z ct) ⟨B,[]⟩=pure (ps.zip B))
    (g:mg x=YN (.ref f)): Fn K mg x st ps f D:=⟨F,F.binds h,g⟩
theorem br {X : Cx}{x : Vl}{st : W3}{ps : List Vl}{f : U0}{H : Ve}{k : Nat}{sp : Sp}{e : Vk}{z : List Vk}{t : TA}{p pos : WG}(G : aT X.prog X.w X.K X.mg X.base b7 k f H ps sp)(F : Fn X.K X.mg x st ps f H)(J : gJ k X.A)(L : PA X (e::z) t)
    (M:Gl X x:=by rfl) (B:(x==("__debug__" : Vl))=false:=by decide) (O:Vf (e::z) X.env=(false,eval e X.env)::Vf z X.env:=by rfl) (D:(backTo pos (Vf z X.env)).any (·.1)=false:=by rfl) :
    PE X (.Call (.Name x p) (e::z) [] pos) (Fv sp [] E0 t):= DB G J M F.g F.fn.kp F.b .nil JI L B O D
def AV(K:Pc):Sp:=λvs H Q _=>∃(a:U0) (ns:List Int),vs=[.ref a]/\aM K H a (ns.map V.int)/\ns.length<=63/\∀z,Q (.bl true) z
theorem aj{H:Hp}{p:U0}{o:HO}(h:H p=none):av H (upd H p o):=λb u e=>by rw[au (aO e h)];exact e
theorem av.upd{H z:Hp}{p:U0}{o:HO}(s:av H z)(h:H p=none):av H (upd z p o):=λb u e=>by rw[au (aO e h)];exact s b u e
theorem G0{xs:List V}{k:Int}{v:V}(z:0<=k)(h:xs[k.toNat]?=YN v):qt xs k=YN v:=by
 have e:k=(k.toNat:Int):=by omega
 rw[e];exact aV h
theorem aY:Vo "len" = some (.builtin "len"):=by decide +kernel
theorem jH:Vo "isinstance" = some (.builtin "isinstance"):=by decide +kernel
theorem js:Vo "sorted" = some (.builtin "sorted"):=by decide +kernel
theorem lU:Vo "int" = some (.type "int"):=by decide +kernel
theorem DK:Vo "bool" = some (.type "bool"):=by decide +kernel
theorem gA:Vo "list" = some (.type "list"):=by decide +kernel
theorem gV:Vo "tuple" = some (.type "tuple"):=by decide +kernel
theorem tT:Vo "range" = some (.type "range"):=by decide +kernel
theorem km:Vo "enumerate" = some (.type "enumerate"):=by decide +kernel
end L2
namespace FA
open PySem PySem.Spec PyProof.Rows
open Sem (wp)
open AutoSeq1 (wpAny_loadPart')
section
variable {prog:U8}{w:Va}{A:Vh}{E:UW->U2->Prop}{s:U2}
theorem mV{B t:U0}{i:Nat}{items:Array UW}{x:UW}{Q:UW->U2->Prop}(z:s.heap.IsTupleIter B t i)(L:s.heap.IsTuple t items)(M:items[i]?=YN x)
  (O:∀h',h'.IsTupleIter B t (i+1)->Heap.SameBut B s.heap h'->Q x { s with heap:=h' }):wpAny (model prog w) A (Builtin.SmallTypes.nextOf (.ref B)) Q E s:=by
 obtain⟨o,D,V,hd⟩:=id z;obtain⟨Z,H,_,nl,J⟩:=L;unfold Builtin.SmallTypes.nextOf;refine UR (wpAny_callSpecial?_slot (name:=Str.ofString "__next__") z.typeIs F.slot_tuple_iterator_next (Vc F.slot_tuple_iterator_next z.typeIs F.entry_tuple_iterator_next ?_ (F.args_tuple_iterator_next_1 _)));show wpAny _ _ (field (.ref B) 0 >>= _) _ _ s;refine UR (Vy D hd (x:=.ref t) rfl ?_);show wpAny _ _ (if(Value.ref t==Value.none)=true then _ else _) _ _ s;rw[UX (show¬((Value.ref t==Value.none)=true)from Pq)];show wpAny _ _ (field (.ref B) 1 >>= _) _ _ s;refine UR (Vy D hd (x:=.int i 0) rfl ?_);show wpAny _ _ (seqItems? (.ref t) >>= _) _ _ s;refine UR (Ws H J ?_);simp only[Pp,M];refine UR (Vv D hd (by simp) (UY ⟨x,rfl,UY (O _ ?_ (Heap.SameBut.update ..))⟩));exact⟨_,Qz _ D (Obj.isFreed_of_fields (Obj.data_mapFields hd _)),(Obj.cls_mapFields ..).trans V,by
  rw[Obj.data_mapFields hd];simp[rawInt]⟩
theorem nW{B t:U0}{i:Nat}{items:Array UW}{Q:UW->U2->Prop}(L:A.handled=none)(z:s.heap.IsTupleIter B t i)(M:s.heap.IsTuple t items)(O:items[i]?=none)
  (V:∀h' e,Heap.ExtBut B s.heap h'->(∃o,h'.get? e=YN o/\o.cls=.type "StopIteration")->E (.ref e) { s with heap:=h' }):wpAny (model prog w) A (Builtin.SmallTypes.nextOf (.ref B)) Q E s:=by
 obtain⟨o,D,Z,hd⟩:=id z;obtain⟨ol,H,_,nl,J⟩:=M;unfold Builtin.SmallTypes.nextOf;refine UR (wpAny_callSpecial?_slot (name:=Str.ofString "__next__") z.typeIs F.slot_tuple_iterator_next (Vc F.slot_tuple_iterator_next z.typeIs F.entry_tuple_iterator_next ?_ (F.args_tuple_iterator_next_1 _)));show wpAny _ _ (field (.ref B) 0 >>= _) _ _ s;refine UR (Vy D hd (x:=.ref t) rfl ?_);show wpAny _ _ (if(Value.ref t==Value.none)=true then _ else _) _ _ s;rw[UX (show¬((Value.ref t==Value.none)=true)from Pq)];show wpAny _ _ (field (.ref B) 1 >>= _) _ _ s;refine UR (Vy D hd (x:=.int i 0) rfl ?_);show wpAny _ _ (seqItems? (.ref t) >>= _) _ _ s;refine UR (Ws H J ?_);simp only[Pp,O];refine UR (VN (UR (Vv D hd (by simp) ?_)));show wpAny _ _ (newExc (.type "StopIteration") [] >>= _) _ _ _;refine UR ?_;simp only[newExc,XY];refine UR (Vg ?_ (by size_fits));refine UR (m:=VQ _ _) (W7 (a:=Value.none) (by first|rfl|(simp only[VQ];rfl)) ?_);refine Vg ?_ (by size_fits);simp only[XZ];refine UR (Xa ?_)
 first|rw[show A.in1.handled=none from L]|rw[L]
 refine UR (UY (Xr ?_));exact V _ _ (((Heap.SameBut.update ..).extBut.push _).push _) ⟨_,Pm _ rfl,rfl⟩
theorem pH{e it l:U0}{i:Nat}{items:Array UW}{x old:UW}{Q:UW->U2->Prop}
  (he:WW s.heap e it i old) (hit:s.heap.IsTupleIter it l i) (hl:s.heap.IsTuple l items) (hx:items[i]?=YN x) (C8:e≠it)
  (hQ:∀h',Ye h' e it ((i:Int)+1) x s.heap.objs.size->h'.IsTupleIter it l (i+1)->h'.get? s.heap.objs.size=YN { cls:=.type "tuple",data:=.seq #[.int i s.toks,x] }->h'.objs.size=s.heap.objs.size+1 ->
   (∀b o,b≠e->b≠it->s.heap.get? b=YN o->h'.get? b=YN o)->Q (.ref s.heap.objs.size) { s with heap:=h',toks:=s.toks+1 }) :
  wpAny (model prog w) A (Builtin.«enumerate.__next__» ⟨[.ref e],[]⟩) (λfin s'=>∃v,fin=.done (.ret v)/\Q v s') E s:=by
 obtain⟨hp,g,d,tk,os⟩:=s;show wpAny _ _ (field (.ref e) 2 >>= _) _ _ _;refine UR (Vy he rfl (x:=.ref it) rfl ?_);refine UR (mV hit hl hx λM AW z=>?_)
 replace z:Heap.SameBut it hp M:=z
 have xq:WW M e it i old:=(z.2 e C8).trans he;show wpAny _ _ (field (.ref e) 3 >>= _) _ _ ⟨M,g,d,tk,os⟩;refine UR (Vy xq rfl (x:=rawInt i) rfl ?_);show wpAny _ _ (field (.ref e) 4 >>= _) _ _ ⟨M,g,d,tk,os⟩;refine UR (Vy xq rfl (x:=.none) rfl ?_);show wpAny _ _ (mkInt i >>= _) _ _ ⟨M,g,d,tk,os⟩;refine UR (wpAny_mkInt ?_);show wpAny _ _ (Xs (.ref e) 3 (rawInt ((i:Int)+1)) >>= _) _ _ ⟨M,g,d,tk+1,os⟩;refine UR (Vq xq (by simp) λh₂ xr B=>?_)
 replace B:Heap.SameBut e M h₂:=B
 replace xr:WW h₂ e it ((i:Int)+1) old:=xr
 show wpAny _ _ (Xs (.ref e) 4 .none >>= _) _ _ ⟨h₂,g,d,tk+1,os⟩;refine UR (Vq xr (by simp) λO mE D=>?_)
 replace D:Heap.SameBut e h₂ O:=D
 replace mE:WW O e it ((i:Int)+1) old:=mE
 show wpAny _ _ (XY [.int i tk,x] >>= _) _ _ ⟨O,g,d,tk+1,os⟩;refine UR (Wt ?_);have mF:WW (O.push { cls:=.type "tuple",data:=.seq #[.int i tk,x] }) e it ((i:Int)+1) old:=O8 _ mE;generalize V:O.push { cls:=.type "tuple",data:=.seq #[.int i tk,x] }=Z at mF;have hsz:O.objs.size=hp.objs.size:=by rw[D.1,B.1,z.1]
 have tU:e<hp.objs.size:=Pt he;have JM:Z.get? hp.objs.size=YN { cls:=.type "tuple",data:=.seq #[.int i tk,x] }:=by rw[<- V,<- hsz];exact Pm _ rfl
 have JN:Z.objs.size=hp.objs.size+1:=by rw[<-V,Rj,hsz]
 have JO:∀b o,b≠e->b≠it->hp.get? b=YN o->Z.get? b=YN o:=λb o G1 LH hb=>by
  rw[<-V];exact O8 _ (D.extBut b o G1 (B.extBut b o G1 (z.extBut b o LH hb)))
 have G2:Z.IsTupleIter it l (i+1):=by
  rw[<-V];obtain⟨o,ho,r⟩:=(AW.extBut B.extBut (Ne.symm C8)).extBut D.extBut (Ne.symm C8);exact⟨o,O8 _ ho,r⟩
 show wpAny _ _ (Builtin.SmallTypes.ownedTupleIsFree (.ref e) >>= _) _ _ ⟨Z,g,d,tk+1,os⟩;rw[hsz];clear V mE D xr B xq z AW hsz O h₂ M;refine UR ?_;unfold Builtin.SmallTypes.ownedTupleIsFree;refine UR (Vy mF rfl (x:=.none) rfl (UY ?_));simp only[WO];refine UR (VN ?_);refine UR (Vy mF rfl (x:=old) rfl ?_);refine UR (Vq mF (by simp) λh₅ nX H=>?_)
 replace H:Heap.SameBut e Z h₅:=H
 replace nX:WW h₅ e it ((i:Int)+1) x:=nX
 show wpAny _ _ (Builtin.SmallTypes.ownedTupleHandOut (.ref e) (.ref hp.objs.size) >>= _) _ _ ⟨h₅,g,d,tk+1,os⟩;refine UR ?_;unfold Builtin.SmallTypes.ownedTupleHandOut;refine UR (Vq nX (by simp) λh₆ nY J=>?_)
 replace J:Heap.SameBut e h₅ h₆:=J
 replace nY:Ye h₆ e it ((i:Int)+1) x hp.objs.size:=nY
 refine Vq nY (by simp) λh₇ AX L=>?_
 replace L:Heap.SameBut e h₆ h₇:=L
 replace AX:Ye h₇ e it ((i:Int)+1) x hp.objs.size:=AX
 refine UR (Xt (UY ⟨_,rfl,hQ h₇ AX ?_ ?_ ?_ ?_⟩))
 .exact((G2.extBut H.extBut (Ne.symm C8)).extBut J.extBut (Ne.symm C8)).extBut L.extBut (Ne.symm C8)
 .exact L.extBut _ _ (Q3 tU) (J.extBut _ _ (Q3 tU) (H.extBut _ _ (Q3 tU) JM))
 .rw[L.1,J.1,H.1,JN]
 exactλb o G1 LH hb=>L.extBut b o G1 (J.extBut b o G1 (H.extBut b o G1 (JO b o G1 LH hb)))
theorem ko{e z l:U0}{i:Nat}{items:Array UW}{x old:UW}{Q:Option UW->U2->Prop}
  (H:WW s.heap e z i old) (B:s.heap.IsTupleIter z l i) (L:s.heap.IsTuple l items) (M:items[i]?=YN x) (D:e≠z)
  (O:∀h',Ye h' e z ((i:Int)+1) x s.heap.objs.size->h'.IsTupleIter z l (i+1)->h'.get? s.heap.objs.size=YN { cls:=.type "tuple",data:=.seq #[.int i s.toks,x] }->h'.objs.size=s.heap.objs.size+1 ->
   (∀b o,b≠e->b≠z->s.heap.get? b=YN o->h'.get? b=YN o)->Q (YN (.ref s.heap.objs.size)) { s with heap:=h',toks:=s.toks+1 }) :
  wpAny (model prog w) A (pyNext (.ref e)) Q E s:=by
 have J:s.TypeIs (.ref e) "enumerate":=⟨_,H,rfl⟩
 unfold pyNext;exact UR (VC (wpAny_callSpecial?_slot (name:=Str.ofString "__next__") J F.slot_enumerate_next
  (Vc F.slot_enumerate_next J F.entry_enumerate_next (pH H B L M D λh' a b c d k=>UY (O h' a b c d k)) (F.args_enumerate_next_1 _))))
theorem lV{e z l:U0}{i:Nat}{items:Array UW}{old:UW}{Q:Option UW->U2->Prop}(M:A.handled=none)
  (J:WW s.heap e z i old) (B:s.heap.IsTupleIter z l i) (O:s.heap.IsTuple l items) (V:items[i]?=none)
  (Z:∀h',Heap.ExtBut z s.heap h'->Q none { s with heap:=h' }):wpAny (model prog w) A (pyNext (.ref e)) Q E s:=by
 have L:s.TypeIs (.ref e) "enumerate":=⟨_,J,rfl⟩
 unfold pyNext;refine UR (VC (wpAny_callSpecial?_slot (name:=Str.ofString "__next__") L F.slot_enumerate_next (Vc F.slot_enumerate_next L F.entry_enumerate_next ?_ (F.args_enumerate_next_1 _))));show wpAny _ _ (field (.ref e) 2 >>= _) _ _ _;refine UR (Vy J rfl (x:=.ref z) rfl ?_);refine UR (nW M B O V λh' x D H=>?_);obtain⟨o,ho,hc⟩:=H;refine UR (Vz (T:="StopIteration") (b:=true) ⟨o,ho,hc⟩ WX ?_);exact UY (Z _ D)
theorem nZ(l:U0)(items:Array UW)(n:Nat)(B:Option U0)(J:Array (Option UW)) :
  Meets (Builtin.«enumerate.__new__» ⟨[.type "enumerate",.ref l],[]⟩) (λ_ R s=>s.heap.get? l=YN { cls:=.type "tuple",dict:=B,data:=.seq items n,slots:=J } /\
   R (.ok (.ret (.ref (s.heap.push { cls:=.type "tuple_iterator",data:=.fields #[.ref l,.int 0 0] }).objs.size)))
    { s with heap:=(s.heap.push { cls:=.type "tuple_iterator",data:=.fields #[.ref l,.int 0 0] }).push { cls:=.type "enumerate",data:=.fields #[.none,.bool false,.ref s.heap.objs.size,rawInt 0,.none,.none] } }):=
 .of_wp λprog w A R s h=>by
  obtain⟨L,g,d,M,os⟩:=s;obtain⟨z,h⟩:=h;have H:=sub_enumerate;have D:Heap.IsTuple (Shared.heap ⟨L,g,d,M,os⟩) l items:=⟨_,z,rfl,n,rfl⟩
  wp_walk using Vw z
  refine wpAny_stack_any λst=>UY ?_
  split
  .rename_i c _ _ _ _ _;cases(c==Value.type "enumerate")
   .wp_walk using Vw z,Wc D
    exact⟨_,rfl,h⟩
   wp_walk using Vw z,Wc D
   exact⟨_,rfl,h⟩
  wp_walk using Vw z,Wc D
  exact⟨_,rfl,h⟩
theorem pI{l:U0}{items:Array UW}{Q:UW->U2->Prop}(H:s.heap.IsTuple l items)
  (h:∀h',WW h' (s.heap.objs.size+1) s.heap.objs.size 0 .none->h'.IsTupleIter s.heap.objs.size l 0->h'.objs.size=s.heap.objs.size+2 ->
   (∀b o,s.heap.get? b=YN o->h'.get? b=YN o)->Q (.ref (s.heap.objs.size+1)) { s with heap:=h' }) :
  wpAny (model prog w) A (call (.type "enumerate") [.ref l]) Q E s:=by
 obtain⟨⟨c,z,J,L⟩,M,B,n,hd⟩:=H
 replace B:c=.type "tuple":=B
 replace hd:J=.seq items n:=hd
 subst B hd;refine callType_new F.called_enumerate (by decide) (F.typeCall_enumerate_1 _) (F.newCall_enumerate_1 _) (λobj=>F.args_object_init_2 obj _) F.entry_enumerate_new
  (nZ l items n z L) ⟨M,?_⟩
 have hz:(s.heap.push { cls:=.type "tuple_iterator",data:=.fields #[.ref l,.int 0 0] }).objs.size=s.heap.objs.size+1:=Rj ..;show _/\_;rw[hz];have D:WW ((s.heap.push { cls:=.type "tuple_iterator",data:=.fields #[.ref l,.int 0 0] }).push
   { cls:=.type "enumerate",data:=.fields #[.none,.bool false,.ref s.heap.objs.size,rawInt 0,.none,.none] }) (s.heap.objs.size+1) s.heap.objs.size 0 .none:=by
  have:=Pm (s.heap.push { cls:=.type "tuple_iterator",data:=.fields #[.ref l,.int 0 0] })
   (o:={ cls:=.type "enumerate",data:=.fields #[.none,.bool false,.ref s.heap.objs.size,rawInt 0,.none,.none] }) rfl
  rw[hz]at this;exact this
 refine⟨⟨_,D,rfl⟩,h _ D ⟨_,O8 _ (Pm _ rfl),rfl,rfl⟩ (by rw[Rj,hz]) λb o x=>O8 _ (O8 _ x)⟩
end
end FA
namespace L2
open PySem PySem.Spec PyProof.Rows
noncomputable def JP(K:Pc)(a:U0):It :=
 ⟨λi H=>∃xs x,b0 K H a xs/\xs[i]?=YN x,λi H y z=>∃t x,y=.ref t/\H t=none/\z=upd H t (.tup [.int i,x])/\∀xs,b0 K H a xs->xs[i]?=YN x,λi H=>∃xs,b0 K H a xs/\xs.length<=i⟩
theorem vF{P:U8}{w:Va}{K:Pc}{elts:List Vk}{x1:Nat}{tp:WG}(a e J:U0)(JQ:e≠J) :
  Turn P w K (.Tuple elts x1 tp) (JP K a) [e,J] e (λi h=>(∃old,WW h e J i old)/\h.IsTupleIter J a i) where
 mem:=by simp
 obj:=λi h st b D=>by
  obtain⟨⟨old,V⟩,L⟩:=st;rcases Pu.mp D with rfl|D
  .exact⟨_,V,λv z=>by
    have z':Data.fields _=Data.cell v:=z;cases z'⟩
  have e1:b=J:=by simpa using D
  subst e1;obtain⟨o,e,c,d⟩:=L;exact⟨o,e,λv z=>by rw[d]at z;cases z⟩
 keep:=λi h h' st k=>⟨let⟨old,V⟩:=st.1;⟨old,k e (by simp) _ V⟩,let⟨o,ho,r⟩:=st.2;⟨o,k J (by simp) o ho,r⟩⟩
 item:=by
  intro X hP hw hK Z i pins s σ H E I hf st hg;subst hP hw hK;obtain⟨⟨old,V⟩,L⟩:=st;obtain⟨xs,x,hq,hx⟩:=hg;obtain⟨its,rv,p,hz⟩:=I.tuple hq;obtain⟨u,hu,ru⟩:=rv.get hx;obtain⟨f0,f1,f2,f3,f4,f5⟩:=hf e (by simp);obtain⟨g0,g1,g2,g3,g4,g5⟩:=hf J (by simp);refine FA.ko V L (show s.heap.IsTuple a its.toArray from p) (x:=u) (by simpa using hu) JQ λh' JR G3 hT hsz hk=>?_;refine⟨_,rfl,WY JR λAY AZ O=>?_⟩;have C9:e<s.heap.objs.size:=Pt V;have k2:∀b o,b≠e->b≠J->s.heap.get? b=YN o->AY.get? b=YN o:=λb o h1 h2 q=>(O.2 b h1).trans (hk b o h1 h2 q);have JS:AY.get? s.heap.objs.size=YN { cls:=.type "tuple",data:=.seq #[.int i s.toks,u] }:=(O.2 _ (Q3 C9)).trans hT;have M:H s.heap.objs.size=none:=I.bj.fresh (O5 _);have neT:∀{b:U0} {o:VH},s.heap.get? b=YN o->b≠s.heap.objs.size:=λq=>PH (Pt q);have tq:∀{b:U0} {o:HO},H b=YN o->b≠e/\b≠J:=λq=>⟨λz=>(by rw[z,f0]at q;cases q),λz=>(by rw[z,g0]at q;cases q)⟩
  have I2:Inv X pins σ (upd H s.heap.objs.size (.tup [.int i,x])) { s with heap:=AY,toks:=s.toks+1 }:=by
   refine I.step (g':=s.gens) (d':=s.drawn) (ch:=[e,J]) (λb D=>?_) (λb o _ _ B q _=>k2 b o (λz=>B (by simp[z])) (λz=>B (by simp[z])) q) (λb o _ _ B q _=>⟨o.slots,k2 b o (λz=>B (by simp[z])) (λz=>B (by simp[z])) q⟩)
    (λb o _ q n=>by rw[au (neT q)];exact n) (λb o B q=>⟨o,k2 b o (λz=>B (by simp[z])) (λz=>B (by simp[z])) q⟩) (λb ys q=>by rw[au (aO q M)];exact q) (λb o ys q=>by rw[au (aO q M)];exact q)
    (λb ps q=>⟨#[],by rw[au (aO q M),q];simp⟩) (λm hm=>?_) (λb v q=>?_) I.bare
   .rcases Pu.mp D with rfl|D
    .exact⟨f3,f1,f4,f5⟩
    have e1:b=J:=by simpa using D
    subst e1;exact⟨g3,g1,g4,g5⟩
   .obtain⟨o,es,ep,ho,r⟩:=hm;exact⟨o,es,ep,k2 _ o (Ne.symm f1) (Ne.symm g1) ho,r⟩
   by_cases D:b=s.heap.objs.size
   .subst D;rw[ag]at q;cases q;exact⟨by show 2<=U7;decide,[.int i s.toks,u],.cons ⟨_,rfl⟩ (.cons ru .nil),_,JS,rfl,_,rfl⟩
   rw[au D]at q;refine(I.bj b v q).rd (λc o Z z=>?_) (λc z=>by rw[au (aO z M)];exact z) λc ys z=>by rw[au (aO z M)];exact z
   rcases Z with rfl|Z
   .exact k2 c o (tq q).1 (tq q).2 z
   exact k2 c o (tq Z).1 (tq Z).2 z
  refine⟨.ref s.heap.objs.size,_,I2,rfl,⟨_,x,rfl,M,rfl,λys hy=>by rw[I.qc hy hq];exact hx⟩,⟨⟨u,by simpa using AZ⟩,?_⟩,λb D=>?_⟩
  .obtain⟨o,q,r⟩:=G3;exact⟨o,(O.2 J (Ne.symm JQ)).trans q,r⟩
  rcases Pu.mp D with rfl|D
  .rw[au (PH C9)];exact f0
  have e1:b=J:=by simpa using D
  subst e1;obtain⟨o,q,_⟩:=L;rw[au (neT q)];exact g0
 done:=by
  intro X hP hw hK Z i pins s σ H E I hf st hg;subst hP hw hK;obtain⟨⟨old,V⟩,L⟩:=st;obtain⟨xs,hq,hx⟩:=hg;obtain⟨its,rv,p,hz⟩:=I.tuple hq;obtain⟨g0,g1,g2,g3,g4,g5⟩:=hf J (by simp);have hl:=rv.length;exact FA.lV (I.ok.hd Z) V L (show s.heap.IsTuple a its.toArray from p) (by simp;omega) λh' eb=>⟨rfl,I.turned (t':=s.toks) (λb o D q=>eb b o D q) g0 g1 g3 g4 g5⟩
 self:=λ_ _ _ _ _ st h=>let⟨_,V⟩:=st.1;Wu V h
section
variable {X:Cx}
noncomputable def JT(K:Pc)(B:TA):TI:=λσ H R=>B σ H λvs z=>∃a,vs=[.ref a]/\(∃xs,b0 K z a xs)/\R (JP K a) z
theorem DL {K : Pc}{z : List Vk}{k : Nat}{t : Fl}{n : Nat}{pos : WG}(D : X.K=K)(H : X.calm=true)(h : Jl X z t)
    (J:(Wb z X.env).length=n:=by rfl) (B:(Wb z X.env).findIdx? (·.1)=none:=by rfl): PG X (.Tuple z k pos) (Jo K n t):= D▸lP H h J B
theorem A0{a:Vk}{L:TA}{p pos:WG}{elts:List Vk}{V:Nat}{Z:WG}(hg:Gl X "enumerate")(hm:X.mg "enumerate" = none)(ha:PA X [a] L)(hs:Vf [a] X.env=[(false,eval a X.env)]:=by rfl) :
  PI X (.Tuple elts V Z) (.Call (.Name "enumerate" p) [a] [] pos) (JT X.K L):=by
 intro pins s σ H R I h;refine YD (gH I hg hm km (Qw (bR (ha pos pins s σ H _ I h) λus z ⟨vs,M,B,r1,q1⟩=>?_) hs rfl));obtain⟨l,e,⟨xs,hq⟩,q⟩:=q1;subst e;cases r1 with
 |cons r rr =>
  cases rr;cases r;obtain⟨its,rv,ht,hz⟩:=B.tuple hq;refine FA.pI (show z.heap.IsTuple l its.toArray from ht) λh' O D hsz hk=>?_;have I2:Inv X pins σ M { z with heap:=h' }:=B.kept (t':=z.toks) hk;refine Wu O ?_;refine⟨z.heap.objs.size+1,[z.heap.objs.size+1,z.heap.objs.size],_,_,M,rfl,I2,vF l _ _ (Uu _),⟨⟨_,O⟩,D⟩,λb J=>?_,q⟩;rcases Pu.mp J with rfl|J
  .exact(B.mT (QO _) (B.bj.fresh (QO _)))
  have e:b=z.heap.objs.size:=by simpa using J
  subst e;exact B.mT (O5 _) (B.bj.fresh (O5 _))
theorem A1{K:Pc}{a:U0}{xs:List V}{g:TG}{Z:TS}{D:Ends}{σ:St}{H:Hp}(Pv:Nat->St->Hp->Prop)(h0:Pv 0 σ H)(hl:∀i σ H,i<=xs.length->Pv i σ H->b0 K H a xs)
  (hs:∀i x t σ H,xs[i]?=YN x->Pv i σ H->H t=none->g (.ref t) σ (upd H t (.tup [.int i,x])) λB O=>Z { D with nx:=Pv (i+1),ct:=Pv (i+1),bk:=D.nx } B O) (hd:∀σ H,Pv xs.length σ H->D.nx σ H) :
  ∃W:Nat->Nat->St->Hp->Prop,(∃m,W 0 m σ H)/\∀i m σ H,W i m σ H ->
   ((JP K a).stop i H/\D.nx σ H)\/((JP K a).go i H/\∃N:St->Hp->Prop,(∀J L,N J L->∃m',m'<m/\W (i+1) m' J L)/\∀x L,(JP K a).Fm i H x L->g x σ L λB O=>Z { D with nx:=N,ct:=N,bk:=D.nx } B O):=by
 refine⟨λi m σ H=>m=xs.length-i/\i<=xs.length/\Pv i σ H,⟨xs.length,by simp,Qb _,h0⟩,?_⟩;rintro i m σ H ⟨rfl,hi,p⟩;have q:=hl i σ H hi p;by_cases M:i<xs.length
 .refine .inr ⟨⟨xs,xs[i],q,by simp[M]⟩,Pv (i+1),λJ L p'=>⟨xs.length-(i+1),by omega,rfl,M,p'⟩,λx L y=>?_⟩;obtain⟨t,z,e,hn,e2,y⟩:=y;subst e e2;exact hs i z t σ _ (y xs q) p hn
 have e:i=xs.length:=by omega
 subst e;exact .inl ⟨⟨xs,q,O5 _⟩,hd σ H p⟩
theorem A2{K:Pc}{a:U0}{xs:List V}{g:TG}{L:TT}{M:TE}{D:U0}{Q:VK}{z:St}{H₀:Hp}(Pv:Nat->St->Hp->Prop)(h0:Pv 0 z H₀)(hl:∀i σ H,i<=xs.length->Pv i σ H->b0 K H a xs)
  (hs:∀i x σ H,xs[i]?=YN x->Pv i σ H->g x σ H λB H3=>L B H3 λb O=>if b=true then M B O λv Z=>∃ys,Z D=YN (.lst ys)/\ys.length<U7/\Pv (i+1) B (upd Z D (.lst (ys++[v])))else Pv (i+1) B O)
  (hd:∀σ H,Pv xs.length σ H->Q (.ref D) H):mD (ID K a) g L M D Q z H₀:=by
 refine⟨λi m σ H=>m=xs.length-i/\i<=xs.length/\Pv i σ H,⟨xs.length,by simp,Qb _,h0⟩,?_⟩;rintro i m σ H ⟨rfl,hi,p⟩;have q:=hl i σ H hi p;by_cases J:i<xs.length
 .refine .inr ⟨⟨xs,xs[i],q,by simp[J]⟩,Pv (i+1),λσ' H' p'=>⟨xs.length-(i+1),by omega,rfl,J,p'⟩,λx H' y=>?_⟩;obtain⟨e,y⟩:=y;subst e;exact hs i x σ _ (y xs q) p
 have e:i=xs.length:=by omega
 subst e;exact .inl ⟨⟨xs,q,O5 _⟩,hd σ H p⟩
theorem tV:cO X (.builtin "sorted") (λxs H Q=>∃(p:U0) (ns:List Int),xs=[.ref p]/\aM X.K H p (ns.map V.int)/\ns.length<64/\∀(B:List Int) (l:U0),B.Perm ns->B.Pairwise (·<=·)->H l=none->Q (.ref l) (upd H l (.lst (B.map V.int)))):=by
 intro pins s σ H xs us Q I r h;obtain⟨p,ns,rfl,O,D,q⟩:=h;obtain⟨u,rfl,Z⟩:=r.one;cases Z;obtain⟨its,L,pl,hz⟩:=I.list O;have hlen:ns.length=its.length:=by have z:=L.length;rwa[O3]at z
 refine sorted_ints pl.isList (intsAre_of L) (by omega) λout B a1 M a3=>?_;obtain⟨e,he⟩:=sortedAll_at s.heap its out;have J:H (s.heap.objs.size+1)=none:=I.bj.fresh (QO _);refine⟨.ref (s.heap.objs.size+1),_,I.laid (a:=s.heap.objs.size+1) (o:=.lst (B.map V.int)) (t':=s.toks) (λb o=>sortedAll_old) (QO _) ⟨?_,out.toList,e,lT a1,by simpa[seqObj]using he⟩,rfl,q B _ M a3 J⟩;rw[O3,M.length_eq];exact PK (Qx D) (by decide)
theorem eG{b:List W3}{R:TS}(h:∀D σ H,R D σ H->∃t,sY X b t/\t D σ H):sY X b R:=λpins s σ H D I hw=>by
 obtain⟨t,z,B⟩:=h D σ H hw;exact z pins s σ H D I B
theorem cq:cO X (.type "tuple") (λxs H Q=>∃p ys,xs=[.ref p]/\(H p=YN (.lst ys)\/H p=YN (.tup ys))/\∀t B,av H B->B t=YN (.tup ys)->Q (.ref t) B):=by
 intro pins s σ H xs D Q I r h;obtain⟨p,ys,rfl,z,q⟩:=h;refine pG pins s σ H [.ref p] D Q I r ⟨p,ys,rfl,?_⟩;rcases z with z|z
 .exact .inl ⟨aM.of z,λl J=>q l _ (aj J) ag⟩
 exact .inr ⟨b0.of z,q p H (av.refl H) z⟩
theorem gJ.lt{k:Nat}{A:Vh}(r:gJ k A)(n:Nat)(h:n<=62):A.units+n+1<cLine:=by have:=r.units;omega
end
section
variable {X:Cx}
theorem DM{xs:List V}{its:List UW}{j:Nat}(r:Vals xs its)(D:j<its.toArray.size):∃x,xs[j]?=YN x/\RelV x its.toArray[j]:=by
 have L:=r.length;have B:j<xs.length:=by rw[Pe]at D;omega
 obtain⟨u,H,J⟩:=r.get (O1 B);refine⟨_,O1 B,?_⟩;have z:its.toArray[j]?=YN u:=by simpa using H
 rw[(Array.getElem?_eq_some_iff.mp z).2];exact J
end
noncomputable def A3(K:Pc)(a:U0):It :=
 ⟨λi H=>∃xs x,aM K H a xs/\xs[i]?=YN x,λi H y z=>∃t x,y=.ref t/\H t=none/\z=upd H t (.tup [.int i,x])/\∀xs,aM K H a xs->xs[i]?=YN x,λi H=>∃xs,aM K H a xs/\xs.length<=i⟩
theorem vG{P:U8}{w:Va}{K:Pc}{elts:List Vk}{x1:Nat}{tp:WG}(a e J:U0)(JQ:e≠J) :
  Turn P w K (.Tuple elts x1 tp) (A3 K a) [e,J] e (λi h=>(∃old,WW h e J i old)/\h.IsListIter J a i) where
 mem:=by simp
 obj:=λi h st b D=>by
  obtain⟨⟨old,V⟩,L⟩:=st;rcases Pu.mp D with rfl|D
  .exact⟨_,V,λv z=>by
    have z':Data.fields _=Data.cell v:=z;cases z'⟩
  have e1:b=J:=by simpa using D
  subst e1;obtain⟨o,e,c,d⟩:=L;exact⟨o,e,λv z=>by rw[d]at z;cases z⟩
 keep:=λi h h' st k=>⟨let⟨old,V⟩:=st.1;⟨old,k e (by simp) _ V⟩,let⟨o,ho,r⟩:=st.2;⟨o,k J (by simp) o ho,r⟩⟩
 item:=by
  intro X hP hw hK Z i pins s σ H E I hf st hg;subst hP hw hK;obtain⟨⟨old,V⟩,L⟩:=st;obtain⟨xs,x,hq,hx⟩:=hg;obtain⟨its,rv,p,hz⟩:=I.list hq;obtain⟨u,hu,ru⟩:=rv.get hx;obtain⟨f0,f1,f2,f3,f4,f5⟩:=hf e (by simp);obtain⟨g0,g1,g2,g3,g4,g5⟩:=hf J (by simp);refine wpAny_pyNext_enum_item V L p.isList (x:=u) (by simpa using hu) JQ λh' JR G3 hT hsz hk=>?_;refine⟨_,rfl,WY JR λAY AZ O=>?_⟩;have C9:e<s.heap.objs.size:=Pt V;have k2:∀b o,b≠e->b≠J->s.heap.get? b=YN o->AY.get? b=YN o:=λb o h1 h2 q=>(O.2 b h1).trans (hk b o h1 h2 q);have JS:AY.get? s.heap.objs.size=YN { cls:=.type "tuple",data:=.seq #[.int i s.toks,u] }:=(O.2 _ (Q3 C9)).trans hT;have M:H s.heap.objs.size=none:=I.bj.fresh (O5 _);have neT:∀{b:U0} {o:VH},s.heap.get? b=YN o->b≠s.heap.objs.size:=λq=>PH (Pt q);have tq:∀{b:U0} {o:HO},H b=YN o->b≠e/\b≠J:=λq=>⟨λz=>(by rw[z,f0]at q;cases q),λz=>(by rw[z,g0]at q;cases q)⟩
  have I2:Inv X pins σ (upd H s.heap.objs.size (.tup [.int i,x])) { s with heap:=AY,toks:=s.toks+1 }:=by
   refine I.step (g':=s.gens) (d':=s.drawn) (ch:=[e,J]) (λb D=>?_) (λb o _ _ B q _=>k2 b o (λz=>B (by simp[z])) (λz=>B (by simp[z])) q) (λb o _ _ B q _=>⟨o.slots,k2 b o (λz=>B (by simp[z])) (λz=>B (by simp[z])) q⟩)
    (λb o _ q n=>by rw[au (neT q)];exact n) (λb o B q=>⟨o,k2 b o (λz=>B (by simp[z])) (λz=>B (by simp[z])) q⟩) (λb ys q=>by rw[au (aO q M)];exact q) (λb o ys q=>by rw[au (aO q M)];exact q)
    (λb ps q=>⟨#[],by rw[au (aO q M),q];simp⟩) (λm hm=>?_) (λb v q=>?_) I.bare
   .rcases Pu.mp D with rfl|D
    .exact⟨f3,f1,f4,f5⟩
    have e1:b=J:=by simpa using D
    subst e1;exact⟨g3,g1,g4,g5⟩
   .obtain⟨o,es,ep,ho,r⟩:=hm;exact⟨o,es,ep,k2 _ o (Ne.symm f1) (Ne.symm g1) ho,r⟩
   by_cases D:b=s.heap.objs.size
   .subst D;rw[ag]at q;cases q;exact⟨by show 2<=U7;decide,[.int i s.toks,u],.cons ⟨_,rfl⟩ (.cons ru .nil),_,JS,rfl,_,rfl⟩
   rw[au D]at q;refine(I.bj b v q).rd (λc o Z z=>?_) (λc z=>by rw[au (aO z M)];exact z) λc ys z=>by rw[au (aO z M)];exact z
   rcases Z with rfl|Z
   .exact k2 c o (tq q).1 (tq q).2 z
   exact k2 c o (tq Z).1 (tq Z).2 z
  refine⟨.ref s.heap.objs.size,_,I2,rfl,⟨_,x,rfl,M,rfl,λys hy=>by rw[I.tD hy hq];exact hx⟩,⟨⟨u,by simpa using AZ⟩,?_⟩,λb D=>?_⟩
  .obtain⟨o,q,r⟩:=G3;exact⟨o,(O.2 J (Ne.symm JQ)).trans q,r⟩
  rcases Pu.mp D with rfl|D
  .rw[au (PH C9)];exact f0
  have e1:b=J:=by simpa using D
  subst e1;obtain⟨o,q,_⟩:=L;rw[au (neT q)];exact g0
 done:=by
  intro X hP hw hK Z i pins s σ H E I hf st hg;subst hP hw hK;obtain⟨⟨old,V⟩,L⟩:=st;obtain⟨xs,hq,hx⟩:=hg;obtain⟨its,rv,p,hz⟩:=I.list hq;obtain⟨g0,g1,g2,g3,g4,g5⟩:=hf J (by simp);have hl:=rv.length;exact wpAny_pyNext_enum_end (I.ok.hd Z) V L p.isList (by simp;omega) λh' eb=>⟨rfl,I.turned (t':=s.toks) (λb o D q=>eb b o D q) g0 g1 g3 g4 g5⟩
 self:=λ_ _ _ _ _ st h=>let⟨_,V⟩:=st.1;Wu V h
section
variable {X:Cx}
noncomputable def G4(K:Pc)(B:TA):TI:=λσ H R=>B σ H λvs z=>∃a,vs=[.ref a]/\(∃xs,aM K z a xs)/\R (A3 K a) z
theorem tW{a:Vk}{L:TA}{p pos:WG}{elts:List Vk}{V:Nat}{Z:WG}(hg:Gl X "enumerate")(hm:X.mg "enumerate" = none)(ha:PA X [a] L)(hs:Vf [a] X.env=[(false,eval a X.env)]:=by rfl) :
  PI X (.Tuple elts V Z) (.Call (.Name "enumerate" p) [a] [] pos) (G4 X.K L):=by
 intro pins s σ H R I h;refine YD (gH I hg hm km (Qw (bR (ha pos pins s σ H _ I h) λus z ⟨vs,M,B,r1,q1⟩=>?_) hs rfl));obtain⟨l,e,⟨xs,hq⟩,q⟩:=q1;subst e;cases r1 with
 |cons r rr =>
  cases rr;cases r;obtain⟨its,rv,ht,hz⟩:=B.list hq;refine call_enumerate_list ht.isList λh' O D hsz hk=>?_;have I2:Inv X pins σ M { z with heap:=h' }:=B.kept (t':=z.toks) hk;refine Wu O ?_;refine⟨z.heap.objs.size+1,[z.heap.objs.size+1,z.heap.objs.size],_,_,M,rfl,I2,vG l _ _ (Uu _),⟨⟨_,O⟩,D⟩,λb J=>?_,q⟩;rcases Pu.mp J with rfl|J
  .exact(B.mT (QO _) (B.bj.fresh (QO _)))
  have e:b=z.heap.objs.size:=by simpa using J
  subst e;exact B.mT (O5 _) (B.bj.fresh (O5 _))
theorem qA{K:Pc}{a:U0}{xs:List V}{g:TG}{Z:TS}{D:Ends}{σ:St}{H:Hp}(Pv:Nat->St->Hp->Prop)(h0:Pv 0 σ H)(hl:∀i σ H,i<=xs.length->Pv i σ H->aM K H a xs)
  (hs:∀i x t σ H,xs[i]?=YN x->Pv i σ H->H t=none->g (.ref t) σ (upd H t (.tup [.int i,x])) λB O=>Z { D with nx:=Pv (i+1),ct:=Pv (i+1),bk:=D.nx } B O) (hd:∀σ H,Pv xs.length σ H->D.nx σ H) :
  ∃W:Nat->Nat->St->Hp->Prop,(∃m,W 0 m σ H)/\∀i m σ H,W i m σ H ->
   ((A3 K a).stop i H/\D.nx σ H)\/((A3 K a).go i H/\∃N:St->Hp->Prop,(∀J L,N J L->∃m',m'<m/\W (i+1) m' J L)/\∀x L,(A3 K a).Fm i H x L->g x σ L λB O=>Z { D with nx:=N,ct:=N,bk:=D.nx } B O):=by
 refine⟨λi m σ H=>m=xs.length-i/\i<=xs.length/\Pv i σ H,⟨xs.length,by simp,Qb _,h0⟩,?_⟩;rintro i m σ H ⟨rfl,hi,p⟩;have q:=hl i σ H hi p;by_cases M:i<xs.length
 .refine .inr ⟨⟨xs,xs[i],q,by simp[M]⟩,Pv (i+1),λJ L p'=>⟨xs.length-(i+1),by omega,rfl,M,p'⟩,λx L y=>?_⟩;obtain⟨t,z,e,hn,e2,y⟩:=y;subst e e2;exact hs i z t σ _ (y xs q) p hn
 have e:i=xs.length:=by omega
 subst e;exact .inl ⟨⟨xs,q,O5 _⟩,hd σ H p⟩
end
theorem DN{X:Cx}{scope:We}{pre:List Vl}{y:Vl}{c:U0}{j:Nat}(B:scope.kind=.function)(h:∀z∈scope.names,z.2≠.cell/\(z.2=.free->z.1=y))(Z:∀z∈scope.names,z.2=.local->scope.names.lookup z.1=YN .local)
  (J:Xm scope X.env=pure [(y,c)]) (hc:X.env.cells.lookup y=YN c) (hN:X.N[j]?=YN y) (D:X.env.kindOf y=YN .cell) (hr:(Wa scope X.env).names.lookup y=YN .cell) :
  ip X scope [(y,c)] (pre++[y]) (Qr pre.length none++[YN j]) where
 AO:=J
 cell:=λz hz=>(h z hz).1
 kind:=B
 names:=Z
 cls:=λx c' e=>by
  rw[Q8]at e
  split at e
  .rename_i hx;rw[eq_of_beq hx,<-e];exact hc
  cases e
 has:=λx e=>by
  have key:∀k,(Wa scope X.env).names.lookup x=YN k->k=.cell\/k=.free->x=y:=λk e D=>by
   have hm:=PySem.mem_of_lookup e;obtain⟨⟨n,O⟩,hy,H⟩:=O6.mp hm;have V:=h _ hy;by_cases L:O=.free
   .have z:=V.2 L;dsimp only at H
    split at H
    .cases H;exact z
    cases H;exact z
   have hb:(O==NameKind.free)=false:=by simpa using L
   simp only[hb,RJ,Ql,Vu,Prod.mk.injEq]at H;obtain⟨_,rfl⟩:=H;rcases D with D|D
   .exact U4 D V.1
   exact U4 D L
  have M:x=y:=by
   rcases e with e|e
   .exact key _ e (.inl rfl)
   exact key _ e (.inr rfl)
  exact⟨c,by rw[M,Q8,VA]⟩
 len:=by simp
 src:=λi k x e1 e2=>by
  by_cases hi:i<pre.length
  .rw[Pk (by simpa using hi),QS,UZ hi]at e1;cases e1
  have hl:=(O2.mp e2).1;rw[O9,PZ]at hl;have e:i=pre.length:=by omega
  subst e;rw[Pg (by simp)]at e1;rw[Pg (O5 _)]at e2;simp at e1 e2;subst e1 e2;exact⟨hN,.inl D,.inl hr⟩
theorem bO {X : Cx}{scope : We}{x y : Vl}{c : U0}{j : Nat}(B : scope.kind=.function)(h : ∀ z ∈ scope.names, z.2 ≠ .cell /\ (z.2=.free -> z.1=y))(H : ∀ z ∈ scope.names, z.2=.local -> scope.names.lookup z.1=YN .local)
    (D:Xm scope X.env=pure [(y,c)]) (J:X.env.cells.lookup y=YN c) (L:X.N[j]?=YN y) (M:X.env.kindOf y=YN .cell) (O:(Wa scope X.env).names.lookup y=YN .cell) :
    ip X scope [(y,c)] [x,y] [none,some j]:= DN (pre:=[x]) B h H D J L M O
theorem yQ{M:YC}{A:Vh}{E:UW->U2->Prop}{s:U2}{env:YK}{x:Vl}{v:UW}{Q:Unit->U2->Prop}(h:wpAny M A (storeName env x v) Q E s):wpAny M A (bindName env x v) Q E s:=fun Γ p hΓ=>by
 rw[Sem.wp_bindName];exact h Γ _ hΓ
theorem dC{X:Cx}{B iter L:Vk}{J:List Vk}{scope:We}{pos pos' ps:WG}{x:Vl}{ix:Nat}{V:List (Vl×U0)}{NC:List Vl}{M:List (Option Nat)}{wi:TI}{g:TG}{tt:TT}{te:TE}
  (hN:X.N.Nodup) (Z:X.N[ix]?=YN x) (hx:Loc X.env.scope x) (hc:X.calm=true) (O:ip X scope V NC M) (hi:PI X L iter wi)
  (hg:∀fp C s₀ H₀,PG (cD X scope V NC fp C s₀ H₀) L g) (ht:∀fp C s₀ H₀,JJ (cD X scope V NC fp C s₀ H₀) J tt) (he:∀fp C s₀ H₀,PE (cD X scope V NC fp C s₀ H₀) B te)
  (hs:∀x,Wo iter X.env x=pure x:=by intro _;rfl) (hsw:Xe (.ListComp B [⟨L,iter,J,0⟩] scope pos) (YN (.Name x pos')) ps.line X.env=pure true:=by rfl)
  (hf:X.fn x=true\/X.env.scope.names.lookup x=YN .local:=by first|exact .inl rfl|exact .inr rfl|assumption):PS X (.Assign [.Name x pos'] (.ListComp B [⟨L,iter,J,0⟩] scope pos) ps) (Gy (AS wi g tt te M) (w9 ix)):=by
 intro pins s σ H Dn I h;rw[exec_Assign_Name_used _ _ _ _ hsw];refine UR (WD (UR ?_));show wpAny _ _ (comprehension (.ListComp B [⟨L,iter,J,0⟩] scope pos) scope X.env _ (newList []) false (eval iter X.env) (YN (assign (.Name x pos') X.env)) >>= λ_=>pure ()) _ _ s;refine UR ?_;refine qy hc O hi hg ht he hs I h λD fp s3 s4 σ3 H0 H3 u I3 f3 I4 qn=>?_;obtain⟨m',Mt,_⟩:=I4.loc;show wpAny _ _ (do standAt pos';bindName X.env x (.ref D)) _ _ s4;refine UR (WD ?_);have IX:Inv X pins σ H3 s4:=comp_back I3 f3 I4 (Heap.SameBut.refl _ _);have fC:mR X pins H3 s3.heap.objs.size:=I3.mT (O5 _) I4.free;obtain⟨c0,c1,c2,c3,c4,c5⟩:=fC;refine yQ (p8 IX hN Z hx (v:=.ref D) rfl (λs5 I5 sb=>?_) hf);obtain⟨aa,sb1,sb2⟩:=sb;have nA:s3.heap.objs.size≠aa:=by
  rcases sb2 with z|z
  .rw[z];exact c1
  exact Ne.symm (c4 x aa z)
 obtain⟨oo,es,ep,g1,g2⟩:=Mt;refine⟨m',⟨oo,es,ep,(sb1.2 _ nA).trans g1,g2⟩,λh' M6=>UY (UY ⟨_,H3,I5.turned (t':=s5.toks) (λb o hb e=>(M6.2 b hb).trans e) c0 c1 c3 c4 c5,qn⟩)⟩
theorem fh{X:Cx}{K:Pc}(z:X.K=K):JC X (JD K):=z▸bf
theorem fL{X:Cx}{K:Pc}(z:X.K=K):JC X (JE K):=z▸b5
noncomputable def M7(K:Pc)(a:U0)(xs:List V):It:=⟨λi H=>i<xs.length/\aM K H a xs,λi H y z=>z=H/\xs[xs.length-1-i]?=YN y,λi _=>xs.length<=i⟩
theorem A4{P:U8}{w:Va}{K:Pc}{tg:Vk}(a D:U0)(xs:List V):Turn P w K tg (M7 K a xs) [D] D (λi h=>i<=xs.length/\h.IsRevIter D a ((xs.length:Int)-1-(i:Nat))) where
 mem:=by simp
 obj:=λi h st b J=>by
  have e:b=D:=by simpa using J
  subst e;obtain⟨_,o,e,c,d⟩:=st;exact⟨o,e,λv z=>by rw[d]at z;cases z⟩
 keep:=λi h h' st k=>⟨st.1,st.2.at λo e=>k D (by simp) o e⟩
 item:=by
  intro X Z hw hK hc i pins s σ H E I M st O;subst Z hw hK;obtain⟨hi,hq⟩:=O;obtain⟨its,rv,p,hz⟩:=I.list hq;have hl:=rv.length;have hx:xs[xs.length-1-i]?=YN (xs[xs.length-1-i]'(by omega)):=O1 (by omega);obtain⟨u,hu,ru⟩:=rv.get hx;obtain⟨f0,f1,f2,f3,f4,f5⟩:=M D (by simp);have e1:(xs.length:Int)-1-(i:Nat)=((xs.length-1-i:Nat):Int):=by omega
  have B:=st.2;rw[e1]at B;refine wpAny_pyNext_rev_item B p.isList (x:=u) (by simpa using hu) λh' L sb=>?_;have I1:Inv X pins σ H { s with heap:=h' }:=I.turned (t':=s.toks) (λb o J e=>(sb.2 b J).trans e) f0 f1 f3 f4 f5;have e2:((xs.length-1-i:Nat):Int)-1=(xs.length:Int)-1-((i+1:Nat):Int):=by omega
  rw[e2]at L;obtain⟨o,e,c,d⟩:=id L;exact⟨u,rfl,qd (s:={ s with heap:=h' }) e c d (by decide) ⟨_,H,I1,ru,⟨rfl,hx⟩,⟨hi,L⟩,λb J=>(M b J).1⟩⟩
 done:=by
  intro X Z hw hK hc i pins s σ H E I M st O;subst Z hw hK;obtain⟨f0,f1,f2,f3,f4,f5⟩:=M D (by simp);have O:xs.length<=i:=O;have e1:(xs.length:Int)-1-(i:Nat)=-1:=by have:=st.1;omega
  have B:=st.2;rw[e1]at B;exact wpAny_pyNext_rev_end (I.ok.hd hc) B λh' eb=>⟨rfl,I.turned (t':=s.toks) (λb o J e=>eb b o J e) f0 f1 f3 f4 f5⟩
 self:=λ_ _ _ _ _ st h=>WI st.2 h
section
variable {X:Cx}
theorem mG:Vo "reversed" = some (.type "reversed"):=by decide +kernel
noncomputable def M8(K:Pc)(B:TA):TI:=λσ H R=>B σ H λvs z=>∃a xs,vs=[.ref a]/\aM K z a xs/\R (M7 K a xs) z
theorem G5{a:Vk}{J:TA}{p pos:WG}{L:Vk}(M:Gl X "reversed")(O:X.mg "reversed" = none)(V:PA X [a] J)(Z:Vf [a] X.env=[(false,eval a X.env)]:=by rfl) :
  PI X L (.Call (.Name "reversed" p) [a] [] pos) (M8 X.K J):=by
 intro pins s σ H R I h;refine YD (gH I M O mG (Qw (bR (V pos pins s σ H _ I h) λus z ⟨vs,H1,D,r1,q1⟩=>?_) Z rfl));obtain⟨l,xs,e,hq,q⟩:=q1;subst e;cases r1 with
 |cons r rr =>
  cases rr;cases r;obtain⟨its,rv,ht,hz⟩:=D.list hq;have hl:=rv.length;refine XS ht.isList ?_;have B:(z.heap.push (revObj l ((its.toArray.size:Int)-1))).IsRevIter z.heap.objs.size l ((xs.length:Int)-1-((0:Nat):Int)):=by
   have e1:(xs.length:Int)-1-((0:Nat):Int)=(its.toArray.size:Int)-1:=by rw[Pe];omega
   rw[e1];exact⟨_,Pm _ rfl,rfl,rfl⟩
  refine WI (s:={ z with heap:=z.heap.push (revObj l ((its.toArray.size:Int)-1)) }) B ?_;refine⟨z.heap.objs.size,[z.heap.objs.size],_,_,H1,rfl,D.kept (t':=z.toks) λb o e=>O8 _ e,A4 l _ xs,⟨Qb _,B⟩,λb hb=>?_,q⟩;have e:b=z.heap.objs.size:=by simpa using hb
  subst e;exact D.mT (O5 _) (D.bj.fresh (O5 _))
theorem A5{K:Pc}{a:U0}{xs:List V}{g:TG}{L:TT}{M:TE}{D:U0}{Q:VK}{z:St}{H₀:Hp}(Pv:Nat->St->Hp->Prop)(h0:Pv 0 z H₀)(hl:∀i σ H,i<=xs.length->Pv i σ H->aM K H a xs)
  (hs:∀i x σ H,xs.reverse[i]?=YN x->Pv i σ H->g x σ H λB H3=>L B H3 λb O=>if b=true then M B O λv Z=>∃ys,Z D=YN (.lst ys)/\ys.length<U7/\Pv (i+1) B (upd Z D (.lst (ys++[v])))else Pv (i+1) B O)
  (hd:∀σ H,Pv xs.length σ H->Q (.ref D) H):mD (M7 K a xs) g L M D Q z H₀:=by
 refine⟨λi m σ H=>m=xs.length-i/\i<=xs.length/\Pv i σ H,⟨xs.length,by simp,Qb _,h0⟩,?_⟩;rintro i m σ H ⟨rfl,hi,p⟩;have q:=hl i σ H hi p;by_cases J:i<xs.length
 .refine .inr ⟨⟨J,q⟩,Pv (i+1),λσ' H' p'=>⟨xs.length-(i+1),by omega,rfl,J,p'⟩,λx H' y=>?_⟩;obtain⟨e,y⟩:=y;subst e;exact hs i x σ _ (by rw[Sb J];exact y) p
 have e:i=xs.length:=by omega
 subst e;exact .inl ⟨O5 _,hd σ H p⟩
end
theorem DO:XQ (.type "list_reverseiterator") "__len__" = pure none:=by rw[WK,V3];kernel_rfl
theorem A6:XQ (.type "list_reverseiterator") "__length_hint__" = pure (YN (.builtin "list_reverseiterator.__length_hint__")):=by rw[WK,V3];kernel_rfl
theorem DP:isSubtype (.type "list_reverseiterator") (.type "list_reverseiterator")=pure true:=by rw[WZ];kernel_rfl
theorem yR:splitId "list_reverseiterator.__length_hint__" = some ("list_reverseiterator","__length_hint__"):=by decide +kernel
section
variable {prog:U8}{w:Va}{A:Vh}{E:UW->U2->Prop}{s:U2}{R:Yq->U2->Prop}{I l S:U0}{items:Array UW}
theorem A7{M:YC}{Q:Bool->U2->Prop}(z:s.TypeIs (.ref I) "list_reverseiterator")(h:Q false s):wpAny M A (Builtin.List.listLengthHint (.ref I)) Q E s:=by
 unfold Builtin.List.listLengthHint;refine UR (VM z DO ?_);show wpAny _ _ (specialOf (Value.ref I) (Str.ofString "__length_hint__") >>= _) _ _ _;refine UR (VM z A6 ?_);simp only[yR];refine UR (Vz z DP ?_);exact UY h
theorem vH(hh:A.handled=none)(M:s.heap.IsRevIter I l ((items.size:Int)-1))(hl:s.heap.IsList l items)(O:l≠I)(hz:items.size<=U7)(J:S≠I)(V:S≠l)(B:UW)(D:Nat)(hS:s.heap.get? S=YN { cls:=.type "list",data:=.seq #[] D })
  (hR:∀h' tk z H,(∀b o,b≠S->b≠I->s.heap.get? b=YN o->h'.get? b=YN o)->h'.get? S=YN { cls:=.type "list",dict:=none,data:=.seq z H,slots:=#[] }->X0 (λi v=>items[items.size-1-i]?=YN v) z items.size->R (.ok (.ret B)) { s with heap:=h',toks:=tk }) :
  wpAny (model prog w) A.in1 (Builtin.List.listExtendWith (.ref S) (.ref I) B)
   (λfin s'=>match fin with|.done f=>R (.ok f) s'|.again H=>H.quiet=true/\Wq (model prog w) A H R s') (λe s'=>R (.error e) s') s:=by
 have W:=(Walks.listRev (prog:=prog) (w:=w) (A:=A.in1) hh I l O items).toS;have hT:=M.typeIs;unfold Builtin.List.listExtendWith;refine UR (X1 hT ?_);have h1:Builtin.List.listSameRef (.ref S) (.ref I)=false:=by simp[Builtin.List.listSameRef,J]
 have h2:(Value.type "list_reverseiterator" == Value.type "list")=false:=by decide
 have h3:(Value.type "list_reverseiterator" == Value.type "tuple")=false:=by decide
 simp only[h1,h2,h3,UJ,Ql,Vu];refine UR (WI M ?_);refine UR (Vj (A7 hT ?_));show wpAny _ _ (again (.builtin "list.extend.loop" ⟨[.ref S,.ref I,B],[]⟩)) _ _ _;refine UY ⟨VX F.plain_extend_loop _,?_⟩;refine Xu W hz S (by simp[J,V]) B items.size 0 s #[] D rfl (Qb _) ⟨Qb _,by simpa using M,hl⟩ hS (ItemsOf.nil _) λs' z H hm Z L=>?_;rw[Moved.eq_with hm];exact hR s'.heap s'.toks z H (λb o b1 b2 e=>hm.heap b o (by simp[b1,b2]) e) Z L
theorem pJ{Q:UW->U2->Prop}(hh:A.handled=none)(hI:s.heap.IsRevIter I l ((items.size:Int)-1))(hl:s.heap.IsList l items)(M:l≠I)(hz:items.size<=U7)
  (hQ:∀h' O z V,(∀b o,b≠I->s.heap.get? b=YN o->h'.get? b=YN o)->h'.get? s.heap.objs.size=YN { cls:=.type "list",dict:=none,data:=.seq z V,slots:=#[] }->X0 (λi v=>items[items.size-1-i]?=YN v) z items.size->Q (.ref s.heap.objs.size) { s with heap:=h',toks:=O }) :
  wpAny (model prog w) A (call (.type "list") [.ref I]) Q E s:=by
 have Z:I<s.heap.objs.size:=let⟨_,e,_⟩:=hI;Pt e
 have Ae:l<s.heap.objs.size:=let⟨_,e,_⟩:=hl;Pt e
 refine callType_codes (Q₁:=λobj B=>obj=.ref s.heap.objs.size/\B={ s with heap:=s.heap.push { cls:=.type "list",data:=.seq #[] } }) F.called_list (F.typeCall_list_1 _) F.entry_list_init
  (code_list_new _ ⟨rfl,rfl⟩) λobj B H=>?_
 obtain⟨rfl,rfl⟩:=H;have L:(s.heap.push { cls:=.type "list",data:=.seq #[] }).get? s.heap.objs.size=YN { cls:=.type "list",data:=.seq #[] }:=Pm _ rfl;refine⟨⟨_,L,rfl⟩,F.args_list_init_2 _ _,?_⟩;show wpAny _ _ (do let old <- Builtin.List.listItems (.ref s.heap.objs.size);Builtin.List.listUpdate (.ref s.heap.objs.size) (λ_=>#[]);letGo old.toList.reverse;Builtin.List.listExtendWith (.ref s.heap.objs.size) (.ref I) .none) _ _ _;refine UR ?_;unfold Builtin.List.listItems;refine UR (Ws L rfl (UY ?_));show wpAny _ _ (updateSeq s.heap.objs.size (λ_=>#[]) >>= λ_=>letGo (#[]:Array UW).toList.reverse >>= λ_=>Builtin.List.listExtendWith (.ref s.heap.objs.size) (.ref I) .none) _ _ _;refine UR (WL L rfl ?_);have G6:=Qz (Obj.mapSeq (λ_=>(#[]:Array UW))) L rfl;have D:∀b o,s.heap.get? b=YN o->((s.heap.push { cls:=.type "list",data:=.seq #[] }).update s.heap.objs.size (Obj.mapSeq (λ_=>(#[]:Array UW)))).get? b=YN o :=
  λb o e=>(QM _ _ (Ne.symm (PH (Pt e)))).trans (O8 _ e)
 refine UR (Xt ?_);refine vH (A:=A.in1) (s:={ s with heap:=(s.heap.push { cls:=.type "list",data:=.seq #[] }).update s.heap.objs.size (Obj.mapSeq (λ_=>(#[]:Array UW))) }) hh (hI.at λo e=>D I o e) (hl.at λo e=>D l o e) M hz (Q3 Z) (Q3 Ae) .none _ G6 λh' O z V hk JU J=>?_;exact⟨rfl,hQ h' O z V (λb o b1 e=>hk b o (PH (Pt e)) b1 (D b o e)) JU J⟩
end
section
variable {X:Cx}
def JV(K:Pc)(B:TA):TE:=λσ H Q=>B σ H λvs z=>∃l xs,vs=[.ref l]/\aM K z l xs/\∀r,z r=none->Q (.ref r) (upd z r (.lst xs.reverse))
theorem xt{a:Vk}{ta:TA}{p q pos pos':WG}(hc:X.calm=true)(V:Gl X "list")(Z:X.mg "list" = none)(hgr:Gl X "reversed")(hmr:X.mg "reversed" = none)(ha:PA X [a] ta)(hs:Vf [a] X.env=[(false,eval a X.env)]:=by rfl)
  (L:Vf [.Call (.Name "reversed" q) [a] [] pos'] X.env=[(false,eval (.Call (.Name "reversed" q) [a] [] pos') X.env)]:=by rfl) :
  PE X (.Call (.Name "list" p) [.Call (.Name "reversed" q) [a] [] pos'] [] pos) (JV X.K ta):=by
 intro pins s σ H Q I h;refine YD (gH I V Z gA (Qw ?_ L rfl));rw[L];show wpAny _ _ (spliced [(false,eval (.Call (.Name "reversed" q) [a] [] pos') X.env)]) _ _ s;refine Calls.spliced_cons ?_;refine YD (gH I hgr hmr mG (Qw (bR (ha pos' pins s σ H _ I h) λus B ⟨vs,H1,O,r1,q1⟩=>?_) hs rfl));obtain⟨l,xs,e,hq,q⟩:=q1;subst e;cases r1 with
 |cons r rr =>
  cases rr;cases r;obtain⟨its,rv,ht,hz⟩:=O.list hq;have hlen:=rv.length;have Ae:l<B.heap.objs.size:=let⟨_,e,_⟩:=ht.isList;Pt e
  refine XS ht.isList ?_;refine Calls.spliced_nil ?_;have hI:(B.heap.push (revObj l ((its.toArray.size:Int)-1))).IsRevIter B.heap.objs.size l ((its.toArray.size:Int)-1):=⟨_,Pm _ rfl,rfl,rfl⟩
  have qx:(B.heap.push (revObj l ((its.toArray.size:Int)-1))).IsList l its.toArray:=ht.isList.at λo e=>O8 _ e;refine pJ (s:={ B with heap:=B.heap.push (revObj l ((its.toArray.size:Int)-1)) }) (O.ok.hd hc) hI qx (PH Ae) (by rw[Pe];omega) λh' tk D c' hk JU J=>?_;have M:(B.heap.push (revObj l ((its.toArray.size:Int)-1))).objs.size=B.heap.objs.size+1:=Rj ..;have hk2:∀b o,B.heap.get? b=YN o->h'.get? b=YN o:=λb o e=>hk b o (PH (Pt e)) (O8 _ e);have M9:H1 (B.heap.push (revObj l ((its.toArray.size:Int)-1))).objs.size=none:=O.bj.fresh (by rw[M];exact QO _);refine⟨.ref _,_,O.laid (a:=(B.heap.push (revObj l ((its.toArray.size:Int)-1))).objs.size) (o:=.lst xs.reverse) (t':=tk) hk2 (by rw[M];exact QO _) ⟨by rw[Q2];exact hz,D.toList,c',?_,by simpa using JU⟩,rfl,q _ M9⟩;have al:D.toList.length=its.length:=by have z:=J.1;rw[Pe]at z;rw[PM];exact z
  refine gw (by rw[Q2,al];exact hlen) λi x v e1 e2=>?_;have hi:i<xs.length:=by have z:=(O2.mp e1).1;rw[Q2]at z;exact z
  rw[Sb hi]at e1;have z:=J.2 i v (by simpa using e2);obtain⟨u,hu,ru⟩:=rv.get e1;rw[Pe,<-hlen]at z;have z2:its[xs.length-1-i]?=YN v:=by simpa using z
  rw[hu]at z2;cases z2;exact ru
end
theorem A8:Vo "max" = some (.builtin "max"):=by decide +kernel
end L2
namespace FA
open PySem AutoSeq1 MeetsSeq
theorem tuple_addW0(l b:U0)(items z:Array UW)(n H:Nat)(J B:Option U0)(L D:Array (Option UW))(M:items.isEmpty=true) :
  Meets (Builtin.«tuple.__add__» ⟨[.ref l,.ref b],[]⟩) (λ_ R s=>s.heap.get? l=YN { cls:=.type "tuple",dict:=J,data:=.seq items n,slots:=L }/\s.heap.get? b=YN { cls:=.type "tuple",dict:=B,data:=.seq z H,slots:=D }/\R (.ok (.ret (Value.ref b))) s):=
 .of_wp λprog w A R s h=>by obtain⟨Z,g,d,tk,os⟩:=s;obtain⟨O,V,h⟩:=h;have f1:=idx_int;have f2:=sub_tuple_tuple;have f3:=sub_list_list;have f4:=sub_tuple_list;have f5:=sub_list_tuple;wp_walk using Vw O,Vw V;exact⟨_,rfl,h⟩
end FA
namespace L2
open PySem PySem.Spec PyProof.Rows
section
variable {X:Cx}
def G7(K:Pc):R2:=λx y H Q=>∃a b xs ys,x=.ref a/\y=.ref b/\b0 K H a xs/\b0 K H b ys/\ys≠[]/\xs.length+ys.length<=U7 /\
 (xs=[]->Q (.ref b) H)/\(xs≠[]->∀p,H p=none->Q (.ref p) (upd H p (.tup (xs++ys))))
theorem A9:jA X (V1 .Add) (G7 X.K):=by
 intro pins s σ H x y v u Q I V Z h;obtain⟨a,b,xs,ys,ex,ey,ha,hb,hy,hz,q1,q2⟩:=h;by_cases L:xs=[]
 .subst ex ey;cases V;cases Z;obtain⟨its,r1,p1,_⟩:=I.tuple ha;obtain⟨B,r2,p2,_⟩:=I.tuple hb;obtain⟨⟨cls,dd,data,sl⟩,ho,hc,n,hd⟩:=id p1;obtain⟨⟨Jz,M,data2,O⟩,D,J,n2,hd2⟩:=id p2;simp only at hc hd J hd2;subst hc hd J hd2;have e:its=[]:=r1.kg.mpr L;exact Xj ⟨_,ho,rfl⟩ ⟨_,D,rfl⟩ WB W9 Rt Rq (Rk _ _)
   (FA.tuple_addW0 a b its.toArray B.toArray n n2 dd M sl O (by rw[e];rfl)) ⟨ho,D,⟨.ref b,H,I,rfl,q1 L⟩⟩
 exact xj pins s σ H x y v u Q I V Z ⟨a,b,xs,ys,ex,ey,ha,hb,L,hz,λz=>U4 z hy,λ_=>q2 L⟩
theorem gK{K:Pc}(z:X.K=K):cO X (.builtin "len") (λxs H Q=>∃p ys,xs=[.ref p]/\(aM K H p ys\/b0 K H p ys)/\Q (.int (ys.length:Nat)) H):=z▸aA
end
end L2
namespace ay
open PySem L2
theorem take_snoc{α:Type}{l:List α}{i:Nat}{x:α}(h:l[i]?=YN x):l.take (i+1)=l.take i++[x]:=by
 rw[List.take_add_one,h];rfl
def kq(K:Pc):Sp:=λvs H Q _=>∃(a:U0) (ns:List Int) (k:Nat),vs=[.ref a,.int k]/\aM K H a (ns.map V.int)/\∀i:Int,Q (.int i) H
noncomputable def iV(ns:List Int):List V:=ns.map V.int
theorem aL(ns:List Int):(iV ns).length=ns.length:=by unfold iV;rw[O3]
theorem G8{ns:List Int}{i:Nat}{m:Int}(h:ns[i]?=YN m):(iV ns)[i]?=YN (.int m):=by unfold iV;rw[O7,h];rfl
theorem bP{ns:List Int}{i:Nat}{x:V}(h:(iV ns)[i]?=YN x):∃m,ns[i]?=YN m/\x=.int m:=by
 unfold iV at h;rw[O7]at h;cases e:ns[i]? with
 |none=>rw[e]at h;cases h
 |some m=>rw[e]at h;exact⟨m,rfl,(Option.some.inj h).symm⟩
theorem iR{xs:List V}{k:Nat}(h:k<=xs.length):jM xs (YN (k:Int)) none=xs.drop k:=by
 unfold jM;have e1:HT.lK xs.length 0 (YN (k:Int))=k:=by unfold HT.lK;simp only;rw[UX (by omega),Pp];omega
 have e2:HT.lK xs.length xs.length none=xs.length:=rfl;rw[e1,e2];exact QF (by rw[Qo];omega)
theorem n4{xs:List V}{k:Nat}(h:k<=xs.length):jM xs none (YN (k:Int))=xs.take k:=by
 unfold jM;have e1:HT.lK xs.length xs.length (YN (k:Int))=k:=by unfold HT.lK;simp only;rw[UX (by omega),Pp];omega
 have e2:HT.lK xs.length 0 none=0:=rfl;rw[e1,e2]
 rfl
end ay
namespace L2
open PySem PySem.Spec
theorem iS:Vo "abs" = some (.builtin "abs"):=by decide +kernel
end L2
namespace ay
open PySem L2
noncomputable def aE(i:Int):Int:=if i<0 then -i else i
noncomputable def a7(ns:List Int):List Int:=ns.map aE
noncomputable def fi(n:Nat):List Int:=(PX n).map λ(i:Nat)=>1+(i:Int)
structure bc(ns:List Int):Prop where
 small:ns.length<=40
 perm:(a7 ns).Perm (fi ns.length)
theorem cu(ns:List Int):(a7 ns).length=ns.length:=by unfold a7;rw[O3]
theorem n5(n:Nat):fi (n+1)=fi n++[(n:Int)+1]:=by
 unfold fi;rw[QT,Ph];show _++[1+(n:Int)]=_;rw[Int.add_comm]
end ay
namespace L2
open PySem PySem.Spec PyProof.Rows
section
variable {X:Cx}
def JW:R2:=λx y H Q=>∃a b xs ys,x=.ref a/\y=.ref b/\H a=YN (.tup xs)/\H b=YN (.tup ys)/\xs.length+ys.length<=U7/\∀p z,av H z->z p=YN (.tup (xs++ys))->Q (.ref p) z
theorem xu:jA X (V1 .Add) JW:=by
 intro pins s σ H x y v u Q I O V h;obtain⟨a,b,xs,ys,ex,Z,M,B,hz,q⟩:=h;by_cases hy:ys=[]
 .subst hy;by_cases hx:xs=[]
  .subst hx ex Z;cases O;cases V;obtain⟨its,r1,p1,_⟩:=I.tuple (b0.of M);obtain⟨D,r2,p2,_⟩:=I.tuple (b0.of B);obtain⟨⟨cls,dd,data,sl⟩,ho,hc,n,hd⟩:=id p1;obtain⟨⟨Jz,dd2,data2,sl2⟩,J,L,n2,hd2⟩:=id p2;simp only at hc hd L hd2;subst hc hd L hd2;have e:its=[]:=r1.kg.mpr rfl;exact Xj ⟨_,ho,rfl⟩ ⟨_,J,rfl⟩ WB W9 Rt Rq (Rk _ _)
    (FA.tuple_addW0 a b its.toArray D.toArray n n2 dd dd2 sl sl2 (by rw[e];rfl)) ⟨ho,J,⟨.ref b,H,I,rfl,q b H (av.refl _) B⟩⟩
  exact xj pins s σ H x y v u Q I O V ⟨a,b,xs,[],ex,Z,b0.of M,b0.of B,hx,hz,λ_=>q a H (av.refl _) (by rw[Qh];exact M),λz=>U4 rfl z⟩
 exact A9 pins s σ H x y v u Q I O V ⟨a,b,xs,ys,ex,Z,b0.of M,b0.of B,hy,hz,λz=>q b H (av.refl _) (by rw[z];exact B),λ_ p hp=>q p _ (aj hp) ag⟩
end
end L2
namespace ay
open PySem L2
def dJ{α:Type}(f:α->List V)(H:Hp)(l:U0)(xs:List α):Prop :=
 ∃z:List U0,H l=YN (.lst (z.map V.ref))/\z.length=xs.length/\∀(i:Nat) (t:U0) (x:α),z[i]?=YN t->xs[i]?=YN x->H t=YN (.tup (f x))
section
variable {α:Type}{f:α->List V}{H M:Hp}{l r b t d:U0}{xs ys:List α}{x:α}
theorem dJ.same(h:dJ f H l xs)(s:av H M):dJ f M l xs:=by
 obtain⟨z,B,D,J⟩:=h;exact⟨z,s _ _ B,D,λi t p e1 e2=>s _ _ (J i t p e1 e2)⟩
theorem dJ.nil(h:H l=YN (.lst [])):dJ f H l ([]:List α):=⟨[],h,rfl,λi t r e=>by simp at e⟩
theorem dJ.len(h:dJ f H l xs):∃vs,H l=YN (.lst vs)/\vs.length=xs.length:=by
 obtain⟨D,z,B,_⟩:=h;exact⟨_,z,by rw[O3];exact B⟩
theorem dJ.get{i:Nat}(h:dJ f H l xs)(e:xs[i]?=YN x):∃vs t,H l=YN (.lst vs)/\vs[i]?=YN (.ref t)/\H t=YN (.tup (f x)):=by
 obtain⟨z,D,L,J⟩:=h;have hi:=(O2.mp e).1;have B:z[i]?=YN (z[i]'(by omega)):=O1 (by omega);exact⟨_,_,D,by rw[O7,B];rfl,J i _ x B e⟩
def Tup(f:α->List V)(H:Hp)(z:List U0)(xs:List α):Prop:=z.length=xs.length/\∀(i:Nat) (t:U0) (x:α),z[i]?=YN t->xs[i]?=YN x->H t=YN (.tup (f x))
theorem dJ.tup(h:dJ f H l xs):∃z,H l=YN (.lst (z.map V.ref))/\Tup f H z xs:=by
 obtain⟨z,B,D,J⟩:=h;exact⟨z,B,D,J⟩
theorem Tup.JX{z:List U0}(h:Tup f H z xs)(B:H l=YN (.lst (z.map V.ref))):dJ f H l xs:=⟨z,B,h.1,h.2⟩
theorem Tup.same{z:List U0}(h:Tup f H z xs)(s:av H M):Tup f M z xs:=⟨h.1,λi t p e1 e2=>s _ _ (h.2 i t p e1 e2)⟩
theorem Tup.upd{z:List U0}{o:HO}{vs:List V}(h:Tup f H z xs)(B:H l=YN (.lst vs)):Tup f (upd H l o) z xs:=⟨h.1,λi t p e1 e2=>by
 have key:=h.2 i t p e1 e2;rw[au (λe=>by rw[e,B]at key;cases key)];exact key⟩
theorem Tup.Na{z:List U0}{o:HO}(h:Tup f H z xs)(B:H l=none):Tup f (L2.upd H l o) z xs:=h.same (aj B)
theorem Tup.app{z B:List U0}(h:Tup f H z xs)(k:Tup f H B ys):Tup f H (z++B) (xs++ys):=⟨by rw[O9,O9,h.1,k.1],λi t p e1 e2=>by
 by_cases hi:i<z.length
 .rw[Pk hi]at e1;rw[Pk (by have:=h.1;omega)]at e2;exact h.2 i t p e1 e2
 rw[Pg (by omega)]at e1;rw[Pg (by have:=h.1;omega),<-h.1]at e2;exact k.2 _ t p e1 e2⟩
theorem Tup.one(h:H t=YN (.tup (f x))):Tup f H [t] [x]:=⟨rfl,λi u p e1 e2=>by
 cases i with
 |zero=>cases e1;cases e2;exact h
 |succ i=>cases e1⟩
theorem dJ.snoc(h:dJ f H l xs)(D:H t=YN (.tup (f x))):∃vs,H l=YN (.lst vs)/\vs.length=xs.length/\dJ f (L2.upd H l (.lst (vs++[.ref t]))) l (xs++[x]):=by
 obtain⟨J,z,B⟩:=h.tup;refine⟨_,z,by rw[O3];exact B.1,?_⟩;exact((B.app (Tup.one D)).upd z).JX (by rw[ag,Ph];rfl)
theorem dJ.other{vs:List V}{o:HO}(h:dJ f H l xs)(hd:H d=YN (.lst vs))(ne:d≠l):dJ f (L2.upd H d o) l xs:=by
 obtain⟨D,z,B⟩:=h.tup;exact(B.upd hd).JX (by rw[au (Ne.symm ne)];exact z)
end
noncomputable def pr(p:Int×Int):List V:=[.int p.1,.int p.2]
theorem getD_get{rs:List Int}{j:Nat}(h:j<rs.length):rs[j]?=YN (rs.getD j 0):=by
 rw[TN,O1 h]
 rfl
theorem DQ{xs:List V}{f l:Nat}(z:f<=l)(B:l<=xs.length):jM xs (YN (f:Int)) (YN (l:Int))=(xs.drop f).take (l-f):=by
 unfold jM;have e1:HT.lK xs.length 0 (YN (f:Int))=f:=by unfold HT.lK;simp only;rw[UX (by omega),Pp];omega
 have e2:HT.lK xs.length xs.length (YN (l:Int))=l:=by unfold HT.lK;simp only;rw[UX (by omega),Pp];omega
 rw[e1,e2]
end ay
set_option maxHeartbeats 2000000
namespace L2
open PySem PySem.Spec PyProof.Rows
section
variable {X:Cx}
def G9:V->List V->Hp->VK->Prop:=λx vs H Q=>∃(l:U0) (ns:List Int) (j:Nat) (n:Int),x=.ref l/\vs=[.int n]/\H l=YN (.lst (ns.map V.int))/\ns[j]?=YN n/\(∀m,m<j->ns[m]?≠YN n)/\Q (.int (j:Nat)) H
noncomputable def isN(n:Int):UW->Bool
 |.int i _=>i==n
 |_=>false
theorem tX(hu:X.A.units<cLine):Fz X "list.index" G9:=by
 intro pins s σ H x vs v us Q I rx rv h;obtain⟨l,ns,j,n,rfl,rfl,hH,J,L,q⟩:=h;cases rx;obtain⟨u,rfl,ru⟩:=rv.one;obtain⟨t,rfl⟩:=ru;obtain⟨z,its,k,r,hl,e⟩:=I.nU hH;have M:j<ns.length:=(O2.mp J).1;have O:ns.length=its.length:=by have z:=r.length;rwa[O3]at z
 have sz:=Vp;have z':ns.length<=sizeLine:=by rw[O,<-hl];exact(by rw[O3];omega)
 have item:∀m (B:m<its.toArray.size),∃t',its.toArray[m]=.int (ns[m]'(by rw[Pe]at B;omega)) t':=λm B=>by
  obtain⟨x1,e1,t1⟩:=DM r B;have V:m<ns.length:=by rw[Pe]at B;omega
  rw[O7,O1 V]at e1;obtain rfl:=Option.some.inj e1;exact t1
 refine Wd F.slot_list_index ⟨_,e,rfl⟩ F.entry_list_index (F.args_list_index_2 _ _) (SeqAt.list_indexAt l its.toArray k none #[] (.int n t) (isN n) j (by rw[Pe];omega) (by omega) ?_ λm B Z=>?_) ⟨e,λy hy=>?_,?_⟩
 .obtain⟨t',D⟩:=item j (by rw[Pe];omega);rw[D];show(ns[j]==n)=true;rw[O1 M]at J;rw[Option.some.inj J];exact VA _
 .obtain⟨t',D⟩:=item m B;rw[D];show(ns[m]'_==n)=false;refine beq_eq_false_iff_ne.mpr λz=>L m Z ?_;rw[O1 (by omega),z]
 .obtain⟨m,B,rfl⟩:=Array.getElem_of_mem hy;obtain⟨t',D⟩:=item m B;rw[D];exact SeqAt.EqAt.int_int (A:=X.A.in1) (s:=s) _ t' n t
 exact⟨.int (j:Nat),H,I.tok _,⟨_,rfl⟩,q⟩
end
end L2
namespace ay
open PySem L2
noncomputable def idx(os:List Int)(a:Int):Nat:=(a7 os).idxOf a
theorem yS{n:Nat}{a:Int}:a∈fi n↔1<=a/\a<=n:=by
 unfold fi;rw[O6];constructor
 .rintro⟨i,hi,rfl⟩;have:=Px.mp hi;omega
 rintro⟨z,B⟩;exact⟨(a-1).toNat,Px.mpr (by omega),by omega⟩
theorem bc.mem{os:List Int}(h:bc os){a:Int}:a∈a7 os↔1<=a/\a<=os.length:=by rw[h.perm.mem_iff,yS]
theorem cR{os:List Int}{j:Nat}(h:j<os.length):(a7 os)[j]?=YN (aE (os.getD j 0)):=by
 unfold a7;rw[O7,getD_get h]
 rfl
theorem Ha{os:List Int}(nd:(a7 os).Nodup){j:Nat}{a:Int}(h:(a7 os)[j]?=YN a):idx os a=j:=by
 have J:=(O2.mp h).1;have B:a∈a7 os:=Pj h;have z:(a7 os).idxOf a<(a7 os).length:=SO.mpr B;have D:(a7 os)[(a7 os).idxOf a]=a:=TQ z;have H:(a7 os)[(a7 os).idxOf a]?=(a7 os)[j]?:=by rw[O1 z,D,h]
 exact(Qi z nd).mp H
theorem Hb{os:List Int}{a:Int}(h:a∈a7 os):idx os a<os.length/\aE (os.getD (idx os a) 0)=a:=by
 have z:(a7 os).idxOf a<(a7 os).length:=SO.mpr h;have H:(a7 os)[(a7 os).idxOf a]=a:=TQ z;have B:idx os a<os.length:=by rw[<-cu os];exact z
 refine⟨B,?_⟩;have J:=cR B;have D:(a7 os)[idx os a]?=YN a:=by unfold idx;rw[O1 z];exact congrArg some H
 rw[J]at D;exact Option.some.inj D
theorem iT(x:Int):aE (-x)=aE x:=by unfold aE;split <;> split <;> omega
theorem dS(x:Int):0<=aE x:=by unfold aE;split <;> omega
theorem DR{rs:List Int}(h:bc rs){j:Nat}(z:j<rs.length):1<=aE (rs.getD j 0)/\aE (rs.getD j 0)<=rs.length:=h.mem.mp (Pj (cR z))
noncomputable def aw(rs:List Int):List Int:=0::(rs++[(rs.length:Int)+1])
theorem aW(rs:List Int):(aw rs).length=rs.length+2:=by unfold aw;simp
theorem bV(rs:List Int):(aw rs).getD 0 0=0:=rfl
theorem ku{rs:List Int}{j:Nat}(h:j<rs.length):(aw rs).getD (j+1) 0=rs.getD j 0:=by
 unfold aw;rw[TN,TN,RU,Pk h]
theorem cv(rs:List Int):(aw rs).getD (rs.length+1) 0=(rs.length:Int)+1:=by
 unfold aw;rw[TN,RU,Pg (O5 _),QE]
 rfl
noncomputable def bH(n:Nat):List Int:=(PX n).map λ(i:Nat)=>(i:Int)
theorem eI{n:Nat}{a:Int}:a∈bH n↔0<=a/\a<n:=by
 unfold bH;rw[O6];constructor
 .rintro⟨i,hi,rfl⟩;have:=Px.mp hi;omega
 rintro⟨z,B⟩;exact⟨a.toNat,Px.mpr (by omega),by omega⟩
theorem iU(n:Nat):(bH n).Nodup:=by
 unfold bH;rw[Qy,Qa];exact QG.imp λh=>by omega
theorem vI(n:Nat):bH (n+1)=bH n++[(n:Int)]:=by unfold bH;rw[QT,Ph];rfl
theorem n6(n:Nat):bH (n+1)=0::fi n:=by
 unfold bH fi;rw[S8,Qk,Qc];congr 1;refine PF λi _=>?_;show((i+1:Nat):Int)=1+(i:Int)
 omega
theorem tY{rs:List Int}(h:bc rs):(a7 (aw rs)).Perm (bH (rs.length+2)):=by
 have e:a7 (aw rs)=0::(a7 rs++[(rs.length:Int)+1]):=by
  unfold a7 aw;rw[Qk,Ph];have e1:aE ((rs.length:Int)+1)=(rs.length:Int)+1:=by unfold aE;rw[UX (by omega)]
  show 0::(_++[aE ((rs.length:Int)+1)])=_;rw[e1]
 rw[e,n6,n5];exact(h.perm.append_right _).cons _
theorem cT{rs:List Int}(h:bc rs):(a7 (aw rs)).Nodup:=(tY h).nodup_iff.mpr (iU _)
theorem xv{rs:List Int}(h:bc rs){a:Int}:a∈a7 (aw rs)↔0<=a/\a<rs.length+2:=by rw[(tY h).mem_iff,eI];omega
theorem eX{rs:List Int}(h:bc rs){j:Nat}(z:j<rs.length+2):0<=aE ((aw rs).getD j 0)/\aE ((aw rs).getD j 0)<rs.length+2 :=
 (xv h).mp (Pj (cR (by rw[aW];exact z)))
theorem xx{rs:List Int}(h:bc rs){i j:Nat}(hi:i<rs.length+2)(B:j<rs.length+2)(e:aE ((aw rs).getD i 0)=aE ((aw rs).getD j 0)):i=j:=by
 have z:=cR (os:=aw rs) (j:=i) (by rw[aW];exact hi);have D:=cR (os:=aw rs) (j:=j) (by rw[aW];exact B);rw[e]at z;exact(Qi (by rw[cu,aW];exact hi) (cT h)).mp (z.trans D.symm)
noncomputable abbrev bC(rs:List Int)(k:Nat):Nat:=idx (aw rs) (k:Int)
theorem bw{rs:List Int}(h:bc rs){k:Nat}(B:k<rs.length+2):bC rs k<rs.length+2/\aE ((aw rs).getD (bC rs k) 0)=k:=by
 have z:=Hb (os:=aw rs) (a:=(k:Int)) ((xv h).mpr (by omega));rw[aW]at z;exact z
theorem fH{rs:List Int}(h:bc rs){j:Nat}(z:j<rs.length+2){k:Nat}(e:aE ((aw rs).getD j 0)=k):bC rs k=j :=
 Ha (cT h) (by rw[cR (by rw[aW];exact z),e])
theorem fj{rs:List Int}(h:bc rs):bC rs 0=0:=fH h (by omega) rfl
theorem dU{rs:List Int}(h:bc rs):bC rs (rs.length+1)=rs.length+1:=fH h (by omega) (by rw[cv];unfold aE;rw[UX (by omega)];omega)
noncomputable def isOpen(fs:List Int)(g:Nat):Bool:=decide (fs.getD (g+1) 0≠fs.getD g 0+1)
noncomputable def jI(fs:List Int)(m:Nat):List Int:=((PX m).filter (isOpen fs)).map λ(g:Nat)=>(g:Int)
noncomputable def kA(fs:List Int)(p:Nat):Int:=if fs.getD p 0<0 then(p:Int)-1 else p
noncomputable def kB(fs:List Int)(p:Nat):Int:=if fs.getD p 0<0 then(p:Int)else(p:Int)-1
noncomputable def cV(rs:List Int)(k:Nat):Int:=kA (aw rs) (bC rs k)
noncomputable def dv(rs:List Int)(k:Nat):Int:=kB (aw rs) (bC rs k)
noncomputable def vJ(rs:List Int)(k:Nat):Int×Int:=(cV rs k,dv rs (k+1))
noncomputable def bD(rs:List Int):List (Int×Int):=(PX (rs.length+1)).map (vJ rs)
theorem kC(rs:List Int):(bD rs).length=rs.length+1:=by unfold bD;rw[O3,PN]
theorem fY{rs:List Int}{k:Nat}(h:k<rs.length+1):(bD rs)[k]?=YN (vJ rs k):=by unfold bD;rw[O7,Q1 h];rfl
theorem cE{rs:List Int}{p:Nat}(B:p<rs.length+2)(h:(aw rs).getD p 0<0):1<=p/\p<=rs.length:=by
 constructor
 .cases p with
  |zero=>rw[bV]at h;omega
  |succ p=>omega
 refine Pa λz=>?_;have e:p=rs.length+1:=by omega
 rw[e,cv]at h;omega
theorem tZ{α:Type}{f g p q:α->Int}:∀{l:List α},(∀k∈l,(f k=p k/\g k=q k)\/(f k=q k/\g k=p k))->(l.map f++l.map g).Perm (l.map p++l.map q)
 |[],_=>List.Perm.refl _
 |a::r,h=>by
  have B:=tZ (l:=r) λk D=>h k (Pn _ D);have e:=h a (Pb ..);rw[TB]at B⊢;intro x;have z:=B x;simp only[Qk,Uq,Te,T1]at z⊢;rcases e with⟨e1,e2⟩|⟨e1,e2⟩ <;> rw[e1,e2] <;> omega
theorem t7{rs:List Int}(h:bc rs):((bD rs).map Qm++(bD rs).map Rx).Perm (bH (rs.length+1)++bH (rs.length+1)):=by
 let n:=rs.length
 have L:((PX (n+2)).map (cV rs)++(PX (n+2)).map (dv rs)).Perm ((PX (n+2)).map (λk=>((bC rs k:Nat):Int))++(PX (n+2)).map (λk=>((bC rs k:Nat):Int)-1)):=tZ λk H=>by
  unfold cV dv kA kB;by_cases c:(aw rs).getD (bC rs k) 0<0
  .rw[UZ c,UZ c];exact .inr ⟨rfl,rfl⟩
  rw[UX c,UX c];exact .inl ⟨rfl,rfl⟩
 have M:((PX (n+2)).map (bC rs)).Perm (PX (n+2)):=by
  refine(QZ ?_ List.nodup_range).mpr λa=>?_
  .rw[Qy,Qa];refine List.Pairwise.imp_of_mem ?_ QG;intro a b B O V e;have Z:=(bw h (Px.mp B)).2;have zb:=(bw h (Px.mp O)).2;rw[e,zb]at Z;omega
  rw[O6];constructor
  .rintro⟨k,H,rfl⟩;exact Px.mpr (bw h (Px.mp H)).1
  intro B;have B:=Px.mp B;have z:=eX h B;exact⟨(aE ((aw rs).getD a 0)).toNat,Px.mpr (by omega),fH h B (by omega)⟩
 have J:((PX (n+2)).map (λk=>((bC rs k:Nat):Int))).Perm (bH (n+2)):=by
  have z:=M.map (λ(i:Nat)=>(i:Int));rw[Qc]at z;exact z
 have h3:((PX (n+2)).map (λk=>((bC rs k:Nat):Int)-1)).Perm ((bH (n+2)).map λi=>i-1):=by
  have z:=J.map (λi=>i-1);rw[Qc]at z;exact z
 have D:=L.trans (J.append h3);have e1:(PX (n+2)).map (cV rs)=(bD rs).map Qm++[(n:Int)+1]:=by
  rw[QT,Ph];unfold bD;rw[Qc];show _++[cV rs (n+1)]=_;have e:cV rs (n+1)=(n:Int)+1:=by
   unfold cV kA;rw[show bC rs (n+1)=n+1 from dU h,cv,UX (by omega)];omega
  rw[e]
  rfl
 have e2:(PX (n+2)).map (dv rs)=(-1)::(bD rs).map Rx:=by
  rw[S8,Qk,Qc];unfold bD;rw[Qc];have e:dv rs 0=-1:=by
   unfold dv kB;rw[fj h,bV]
   rfl
  rw[e]
  rfl
 have e3:bH (n+2)=bH (n+1)++[(n:Int)+1]:=by rw[vI];rfl
 have e4:(bH (n+2)).map (λi=>i-1)=(-1)::bH (n+1):=by
  rw[n6,Qk];unfold fi bH;rw[Qc];congr 1;refine PF λi _=>?_;show 1+(i:Int)-1=i;omega
 rw[e1,e2,e4,e3]at D;show List.Perm (_++_) (bH (n+1)++bH (n+1));rw[TB]at D⊢;intro x;have z:=D x;simp only[T1,Te,List.count_nil]at z⊢;omega
noncomputable def c6(rs:List Int)(k:Nat):Bool:=decide ((aw rs).getD (bC rs k) 0<0)
theorem t9{rs:List Int}(h:bc rs){k:Nat}(L:k<rs.length+2):(-(k:Int))∈rs↔c6 rs k=true:=by
 obtain⟨M,J⟩:=bw h L;unfold c6;rw[U9];constructor
 .intro B;obtain⟨j,D⟩:=List.mem_iff_getElem?.mp B;have H:=(O2.mp D).1;have e:rs.getD j 0=-(k:Int):=by rw[getD_get H]at D;exact Option.some.inj D
  have z:=DR h H;rw[e,iT]at z;have O:aE (k:Int)=k:=by unfold aE;rw[UX (by omega)]
  have ep:bC rs k=j+1:=fH h (by omega) (by rw[ku H,e,iT,O]);rw[ep,ku H,e];omega
 intro B;obtain⟨V,Z⟩:=cE M B;obtain⟨j,D⟩:∃j,bC rs k=j+1:=⟨bC rs k-1,by omega⟩
 rw[D,ku (by omega)]at B J;have e:rs.getD j 0=-(k:Int):=by unfold aE at J;rw[UZ B]at J;omega
 rw[<-e];exact Pj (getD_get (by omega))
noncomputable def cW(fs:List Int)(a j:Nat):Int:=if fs.getD a 0<0 then-aE (fs.getD j 0)else aE (fs.getD j 0)
structure Wh(fs:List Int) (a b:Nat):Prop where
 lt:a<b
 lb:b<fs.length
 mid:∀j,a<j->j<=b->fs.getD a 0<=cW fs a j/\cW fs a j<=fs.getD b 0
 own:fs.getD b 0=cW fs a b
 rJ:fs.getD b 0=fs.getD a 0+((b:Int)-(a:Int))
theorem fk(fs:List Int)(a:Nat):cW fs a a=fs.getD a 0:=by
 unfold cW aE
 split <;> omega
theorem nj{fs:List Int}(nd:(a7 fs).Nodup){a i j:Nat}(hi:i<fs.length)(B:j<fs.length)(e:cW fs a i=cW fs a j):i=j:=by
 have e:aE (fs.getD i 0)=aE (fs.getD j 0):=by
  unfold cW at e
  split at e <;> omega
 have z:=cR (os:=fs) hi;have D:=cR (os:=fs) B;rw[e]at z;exact(Qi (by rw[cu];exact hi) nd).mp (z.trans D.symm)
structure rK(fs:List Int) (a c:Nat) (hi:Int):Prop where
 lo:∀j,a<j->j<c->fs.getD a 0<=cW fs a j
 up:∀j,a<=j->j<c->cW fs a j<=hi
 is:∃j,a<=j/\j<c/\hi=cW fs a j
theorem rK.first(fs:List Int)(a:Nat):rK fs a (a+1) (fs.getD a 0):=by
 refine⟨λj z B=>by omega,λj z B=>?_,⟨a,by omega,by omega,by rw[fk]⟩⟩;have e:j=a:=by omega
 rw[e,fk];exact QP _
theorem rK.next{fs:List Int}{a c:Nat}{hi:Int}(h:rK fs a c hi)(J:a<c)(B:fs.getD a 0<=cW fs a c):rK fs a (c+1) (if cW fs a c>hi then cW fs a c else hi):=by
 refine⟨λj z D=>?_,λj z D=>?_,?_⟩
 .by_cases e:j=c
  .rw[e];exact B
  exact h.lo j z (by omega)
 .by_cases e:j=c
  .rw[e];split <;> omega
  have:=h.up j z (by omega)
  split <;> omega
 by_cases H:cW fs a c>hi
 .rw[UZ H];exact⟨c,by omega,by omega,rfl⟩
 rw[UX H];obtain⟨j,z,D,L⟩:=h.is;exact⟨j,z,by omega,L⟩
theorem rK.wh{fs:List Int}(nd:(a7 fs).Nodup){a c:Nat}{hi:Int}(h:rK fs a (c+1) hi)(B:a<c)(J:c<fs.length):(fs.getD c 0=hi/\hi=fs.getD a 0+(c:Int)-(a:Int))↔Wh fs a c:=by
 constructor
 .rintro⟨e1,e2⟩;obtain⟨j,D,L,z⟩:=h.is;have V:j=c:=by
   by_cases H:j=a
   .rw[H,fk]at z;omega
   have Z:aE (fs.getD j 0)=aE (fs.getD c 0):=by
    have M:∀x:Int,aE (aE x)=aE x:=λx=>by
     have:=dS x;generalize aE x=y at this;unfold aE;rw[UX (by omega)]
    rw[e1,z];unfold cW
    split
    .rw[iT,M]
    rw[M]
   have O:=cR (os:=fs) (j:=j) (by omega);have a2:=cR (os:=fs) J;rw[Z]at O;exact(Qi (by rw[cu];omega) nd).mp (O.trans a2.symm)
  refine⟨B,J,λi D L=>⟨h.lo i D (by omega),?_⟩,?_,by omega⟩
  .rw[e1];exact h.up i (by omega) (by omega)
  rw[e1,z,V]
 intro W;have e1:hi=fs.getD c 0:=by
  have u:=h.up c (by omega) (by omega);rw[<-W.own]at u;obtain⟨j,D,L,z⟩:=h.is;have v:cW fs a j<=fs.getD c 0:=by
   by_cases H:j=a
   .rw[H,fk];have:=W.rJ;omega
   exact(W.mid j (by omega) (by omega)).2
  omega
 exact⟨e1.symm,by rw[e1,W.rJ];omega⟩
theorem Wh.stop{fs:List Int}{a c b:Nat}(z:a<c)(h:cW fs a c<fs.getD a 0)(B:c<=b):¬Wh fs a b:=λW=>by
 have:=(W.mid c z B).1;omega
theorem Wh.rest{fs:List Int}(nd:(a7 fs).Nodup){a c b:Nat}(H:Wh fs a c)(B:Wh fs a b)(M:c<b):Wh fs c b:=by
 have hac:=H.lt;have Z:∀j,cW fs c j=cW fs a j:=λj=>by
  have e:=H.own;unfold cW at e⊢;by_cases s:fs.getD a 0<0
  .rw[UZ s]at e;by_cases t:fs.getD c 0<0
   .rw[UZ s,UZ t]
   exfalso;have z:=dS (fs.getD c 0);have z0:fs.getD c 0=0:=by omega
   have hm:=(B.mid b (by omega) (O5 _))
   have hb:=B.rJ;have hc:=H.rJ;have ob:=B.own;unfold cW at ob;rw[UZ s]at ob;have zb:=dS (fs.getD b 0);omega
  rw[UX s]at e;have z:=dS (fs.getD c 0);rw[UX s,UX (by omega)]
 have above:∀j,c<j->j<=b->fs.getD c 0<cW fs a j:=λj hj O=>by
  refine Pa λz=>?_;have z:cW fs a j<=fs.getD c 0:=by omega
  have lo:=(B.mid j (by omega) O).1;have key:∀(m:Nat),∀(S:List Nat),S.Nodup->(∀i∈S,i<fs.length/\fs.getD a 0<=cW fs a i/\cW fs a i<fs.getD a 0+m)->S.length<=m:=by
   intro m
   induction m with
   |zero =>
    intro S _ J;cases S with
    |nil=>exact O5 _
    |cons i r=>have:=J i (Pb ..);omega
   |succ m ih =>
    intro S V J;by_cases c0:∃i∈S,cW fs a i=fs.getD a 0+m
    .obtain⟨i,hi,ei⟩:=c0;have l1:(S.erase i).length=S.length-1:=RT hi;have l2:=ih (S.erase i) (V.erase i) λk D=>by
      have L:=(List.Nodup.mem_erase_iff V).mp D;have q:=J k L.2;refine⟨q.1,q.2.1,?_⟩;have ne:cW fs a k≠fs.getD a 0+m:=λe=>L.1 (nj nd q.1 (J i hi).1 (e.trans ei.symm));omega
     have:=Q0 hi;omega
    have:=ih S V λk D=>by
     have q:=J k D;refine⟨q.1,q.2.1,?_⟩;have ne:cW fs a k≠fs.getD a 0+m:=λe=>c0 ⟨k,D,e⟩;omega
    omega
  have S:=key (c-a+1) (j::(PX (c-a+1)).map (· + a)) (by
   rw[Qj];refine⟨λhm=>?_,?_⟩
   .obtain⟨i,hi,e⟩:=O6.mp hm;have:=Px.mp hi;omega
   .rw[Qy,Qa];exact QG.imp λh=>by omega) (λi hi=>by
   have hf:=H.rJ;have Nb:=B.lb;rcases Pu.mp hi with rfl|hi
   .exact⟨by omega,lo,by omega⟩
   obtain⟨k,D,rfl⟩:=O6.mp hi;have D:=Px.mp D;by_cases k0:k=0
   .rw[k0,Sy,fk];exact⟨by omega,QP _,by omega⟩
   have q:=H.mid (k+a) (by omega) (by omega);exact⟨by omega,q.1,by omega⟩)
  rw[Si,O3,PN]at S;omega
 refine⟨M,B.lb,λj k1 k2=>?_,?_,?_⟩
 .rw[Z];exact⟨Q5 (above j k1 k2),(B.mid j (by omega) k2).2⟩
 .rw[Z];exact B.own
 have:=H.rJ;have:=B.rJ;omega
def Kn(fs:List Int)(a b:Nat):Prop:=Wh fs a b/\∀c,c<b->¬Wh fs a c
theorem Ba{fs:List Int}(nd:(a7 fs).Nodup){a b:Nat}:Kn fs a b↔Wh fs a b/\¬ ∃c,Wh fs a c/\Wh fs c b:=by
 constructor
 .rintro⟨z,B⟩;exact⟨z,λ⟨c,D,H⟩=>B c H.lt D⟩
 rintro⟨z,B⟩;refine⟨z,λc J hw=>B ⟨c,hw,hw.rest nd z J⟩⟩
def Rw(rs:List Int):Prop:=(a7 rs).Perm (fi rs.length)
theorem Rw.of{rs z:List Int}(h:Rw rs)(p:(a7 z).Perm (a7 rs)):Rw z:=by
 unfold Rw at *;have e:z.length=rs.length:=by have:=p.length_eq;rwa[cu,cu]at this
 rw[e];exact p.trans h
theorem iW(a b:List Int):a7 (a++b)=a7 a++a7 b:=by unfold a7;rw[Ph]
theorem Rw.rot{rs:List Int}{x:Int}(h:Rw rs)(z:rs[0]?=YN x):Rw (rs.drop 1++[x]):=by
 refine h.of ?_;cases rs with
 |nil=>cases z
 |cons y r =>
  obtain rfl:y=x:=Option.some.inj z;show(a7 (r++[y])).Perm (a7 ([y]++r));rw[iW,iW];exact Tf
theorem Rw.snoc{rs:List Int}(h:Rw rs):Rw (rs++[(rs.length:Int)+1]):=by
 unfold Rw at *;rw[iW,O9,PZ,n5];refine List.Perm.append h ?_;have:aE ((rs.length:Int)+1)=(rs.length:Int)+1:=by unfold aE;rw[UX (by omega)]
 show([aE ((rs.length:Int)+1)]).Perm _;rw[this]
theorem Rw.tail{rs z:List Int}(f:Nat)(h:Rw rs)(p:(a7 z).Perm (a7 (rs.drop f))):Rw (rs.take f++z):=by
 refine h.of ?_;have e:a7 rs=a7 (rs.take f)++a7 (rs.drop f):=by rw[<-iW,Se]
 rw[e,iW];exact List.Perm.append_left _ p
theorem ua(rs:List Int):(a7 rs.reverse).Perm (a7 rs):=by
 unfold a7;rw[RR];exact List.reverse_perm _
theorem ub(rs:List Int):(a7 (rs.reverse.map λx=>0-x)).Perm (a7 rs):=by
 have e:a7 (rs.reverse.map λx=>0-x)=a7 rs.reverse:=by
  unfold a7;rw[Qc];refine PF λx _=>?_;show aE (0-x)=aE x;rw[UK,iT]
 rw[e];exact ua rs
theorem Rw.fit{rs:List Int}(h:Rw rs)(z:rs.length<=40):bc rs:=⟨z,h⟩
noncomputable def mW(low:Int)(y:Int):Int:=y+3*(if y>low then 1 else 0)
theorem Hc{rs inner:List Int}{spot:Nat}{low:Int}(h:rs.Perm (bH rs.length))(O:rs[spot]?=YN low)(hi:inner.Perm [low,low+1,low+2,low+3]) :
  ((rs.map (mW low)).take spot++inner++(rs.map (mW low)).drop (spot+1)).Perm (bH (rs.length+3)):=by
 have B:=(O2.mp O).1;have nd:rs.Nodup:=h.nodup_iff.mpr (iU _);have V:rs=rs.take spot++low::rs.drop (spot+1):=by
  have e:rs.drop spot=low::rs.drop (spot+1):=by
   rw[RO B];congr 1;rw[O1 B]at O;exact Option.some.inj O
  rw[<-e,Se]
 have J:rs.Perm (low::(rs.take spot++rs.drop (spot+1))):=by
  conv=>lhs;rw[V]
  exact Uv
 generalize hR:rs.take spot++rs.drop (spot+1)=R at J;have Z:=J.nodup_iff.mp nd;obtain⟨D,ndR⟩:=Qj.mp Z;have p2:((rs.map (mW low)).take spot++inner++(rs.map (mW low)).drop (spot+1)).Perm ([low,low+1,low+2,low+3]++R.map (mW low)):=by
  have e:(rs.map (mW low)).take spot++inner++(rs.map (mW low)).drop (spot+1)=(rs.take spot).map (mW low)++inner++(rs.drop (spot+1)).map (mW low):=by rw[Sr,RV]
  rw[e,<-hR,Ph];have q1:((rs.take spot).map (mW low)++inner++(rs.drop (spot+1)).map (mW low)).Perm (inner++(rs.take spot).map (mW low)++(rs.drop (spot+1)).map (mW low)):=List.Perm.append_right _ Tf;refine q1.trans ?_;rw[Rm];exact List.Perm.append_right _ hi
 refine p2.trans ?_;have L:∀y,y∈R↔(0<=y/\y<rs.length)/\y≠low:=λy=>by
  have z:=(J.symm.trans h).mem_iff (a:=y);rw[Pu,eI]at z;constructor
  .intro M;exact⟨z.mp (.inr M),λe=>D (e▸M)⟩
  rintro⟨h1,h2⟩;exact(z.mpr h1).resolve_left h2
 have aaH:0<=low/\low<rs.length:=by
  have z:=(J.symm.trans h).mem_iff (a:=low);rw[eI]at z;exact z.mp (Pb ..)
 have e3:∀y,mW low y=if y>low then y+3 else y:=λy=>by unfold mW;split <;> omega
 refine(QZ ?_ (iU _)).mpr λz=>?_
 .rw[QB];refine⟨?_,?_,?_⟩
  .simp only[Qj,Pu,Pf,or_false,not_false_eq_true,QK,and_true,not_or];omega
  .rw[Qy,Qa];refine List.Pairwise.imp_of_mem ?_ (Qy.mp ndR);intro a b ha hb hab e;rw[e3,e3]at e
   split at e <;> split at e <;> omega
  intro x hx y M e;obtain⟨v,H,rfl⟩:=O6.mp M;have H:=(L v).mp H;rw[e3]at e;simp only[Pu,Pf,or_false]at hx
  split at e <;> omega
 rw[Po,eI,O6];constructor
 .rintro(hx|⟨v,H,rfl⟩)
  .simp only[Pu,Pf,or_false]at hx;omega
  have H:=(L v).mp H;rw[e3]
  split <;> omega
 intro hz;by_cases c1:z<low
 .exact .inr ⟨z,(L z).mpr (by omega),by rw[e3,UX (by omega)]⟩
 by_cases c2:z<=low+3
 .left;simp only[Pu,Pf,or_false];omega
 exact .inr ⟨z-3,(L (z-3)).mpr (by omega),by rw[e3,UZ (by omega)];omega⟩
theorem Bb{rs:List Int}(h:rs.Perm (bH rs.length)):Rw (rs.map λx=>x+1):=by
 unfold Rw;have e:a7 (rs.map λx=>x+1)=rs.map λx=>x+1:=by
  unfold a7;rw[Qc];refine PF λx z=>?_;have:=eI.mp (h.mem_iff.mp z);show aE (x+1)=x+1;unfold aE;rw[UX (by omega)]
 rw[e,O3];refine(h.map _).trans ?_;have:(bH rs.length).map (λx=>x+1)=fi rs.length:=by
  unfold bH fi;rw[Qc];refine PF λi _=>?_;show(i:Int)+1=1+i;omega
 rw[this]
theorem Rw.flip{rs:List Int}(h:Rw rs){j:Nat}{x:Int}(z:rs[j]?=YN x):Rw (rs.set j (0-x)):=by
 refine h.of ?_;have e:a7 (rs.set j (0-x))=a7 rs:=by
  unfold a7;rw[Uh];have:aE (0-x)=aE x:=by rw[UK,iT]
  rw[this];refine QR λi=>?_;rw[T5];by_cases c:j=i
  .subst c;have B:=(O2.mp z).1;rw[UZ rfl,UZ (by rw[O3];exact B),O7,z]
   rfl
  rw[UX c]
 rw[e]
end ay
set_option maxHeartbeats 2000000
namespace rL
open PySem PyProof.Rows
class vm where
 G:VF->Prop
 nm:VF->Int
 kd:SortKind
variable [vm]
noncomputable def num(p:VF):Int:=vm.nm p
noncomputable def K(xs:Array VF)(i:Nat):Int:=match xs[i]? with
 |some p=>num p
 |none=>0
def IntKeys(xs:Array VF):Prop:=∀p∈xs.toList,vm.G p
def SortedTo(xs:Array VF)(k:Nat):Prop:=∀i j,i<=j->j<k->K xs i<=K xs j
noncomputable abbrev oneType':SortKind:=vm.kd
def Asks(prog:U8)(w:Va)(A:Vh)(s:U2):Prop:=∀x y:VF,vm.G x->vm.G y->∀(E:UW->U2->Prop) (Q:Bool->U2->Prop),Q (decide (num x<num y)) s->wpAny (model prog w) A (keyLt' oneType' x.1 y.1) Q E s
structure Dc(prog:U8) (w:Va) (A:Vh) (s:U2) (xs:Array VF):Prop where
 ik:IntKeys xs
 as:Asks prog w A s
theorem K_congr{xs ys:Array VF}{i j:Nat}(h:xs[i]?=ys[j]?):K xs i=K ys j:=by unfold K;rw[h]
theorem K_bubble{xs:Array VF}{src d:Nat}(z:src<xs.size)(hd:d<=src)(k:Nat):K (bubble xs src d) k=if k=src-d then K xs src else if src-d<k/\k<=src then K xs (k-1)else K xs k:=by
 have e:=getElem?_bubble z d hd k
 split at e
 .rw[UZ (by assumption)];exact K_congr e
 rw[UX (by assumption)]
 split at e
 .rw[UZ (by assumption)];exact K_congr e
 rw[UX (by assumption)];exact K_congr e
theorem K_mirror{xs:Array VF}{i j:Nat}(z:j<=xs.size)(k:Nat):K (mirror xs i j ((j-i)/2)) k=if i<=k/\k<j then K xs (i+j-1-k)else K xs k:=by
 have e:=getElem?_mirror_all (i:=i) z k
 split at e
 .rw[UZ (by assumption)];exact K_congr e
 rw[UX (by assumption)];exact K_congr e
theorem K_mirror_equal{xs:Array VF}{i j:Nat}(B:j<=xs.size)(z:∀k,i<=k->k<j->K xs k=K xs (j-1))(k:Nat):K (mirror xs i j ((j-i)/2)) k=K xs k:=by
 rw[K_mirror B];by_cases c:i<=k/\k<j
 .rw[UZ c,z k c.1 c.2];exact z _ (by omega) (by omega)
 rw[UX c]
section
variable {prog:U8}{w:Va}{A:Vh}{E:UW->U2->Prop}{s:U2}
theorem Hd{st:Vx}{x y:VF}{i j:Int}{Q:Option Bool->Vx->Prop}(as:Asks prog w A s)(D:kindOf st=oneType')(z:vm.G x/\num x=i)(B:vm.G y/\num y=j)(h:Q (YN (decide (i<j))) st):wpS (model prog w) A E s (lt' x y) Q st:=by
 rw[lt'_eq];refine Vm (X2 ?_);rw[D];refine Vm (wpS_lift (VC (as x y z.1 B.1 _ _ ⟨rfl,?_⟩)));rw[z.2,B.2];exact VB h
theorem uc{st:Vx}{z:Array VF}{i:Nat}{Q:VF->Vx->Prop}{p:VF}(B:z[i]?=YN p)(h:Q p st):wpS (model prog w) A E s (elem' z i) Q st:=by
 rw[elem'_eq,B];exact VB h
theorem cF{α:Type}{c:Prop}[Decidable c]{m z:StateT Vx YM α}{Q:α->Vx->Prop}{st:Vx}(B:c->wpS (model prog w) A E s m Q st)(D:¬c->wpS (model prog w) A E s z Q st):wpS (model prog w) A E s (if c then m else z) Q st:=by
 by_cases h:c
 .rw[UZ h];exact B h
 rw[UX h];exact D h
end
section
variable {a b out:Array VF}{B z k:Nat}
theorem Bc{xs:Array VF}{i:Nat}{p:VF}(h:xs[i]?=YN p):K xs i=num p:=by unfold K;rw[h]
end
structure SB(a₀:Array VF) (pd:Array (Nat×Nat×Nat)) (lo:Nat) (f:Nat->Int) (st:Vx):Prop where
 perm:(arrOf st).Perm a₀
 kd:kindOf st=oneType'
 fl:X3 st=none
 pd:WS st=pd
 pre:∀i,i<lo->K (arrOf st) i=f i
section
variable {a₀:Array VF}{pd:Array (Nat×Nat×Nat)}{lo:Nat}{f:Nat->Int}{st:Vx}
theorem SB.sz(h:SB a₀ pd lo f st):(arrOf st).size=a₀.size:=h.perm.size_eq
theorem SB.put(h:SB a₀ pd lo f st){xs:Array VF}(z:xs.Perm (arrOf st))(B:∀i,i<lo->K xs i=K (arrOf st) i):SB a₀ pd lo f (setArr st xs):=⟨z.trans h.perm,h.kd,h.fl,h.pd,λi hi=>(B i hi).trans (h.pre i hi)⟩
theorem SB.item(h:SB a₀ pd lo f st)(B:IntKeys a₀){i:Nat}(hi:i<a₀.size):∃p,(arrOf st)[i]?=YN p/\vm.G p/\num p=K (arrOf st) i:=by
 have z:i<(arrOf st).size:=h.sz.symm▸hi;have e:(arrOf st)[i]?=YN (arrOf st)[i]:=getElem?_pos _ i z;exact⟨(arrOf st)[i],e,B _ ((Sw.mp h.perm).mem_iff.mp (Array.getElem_mem_toList z)),(Bc e).symm⟩
end
def iq(lo:Nat)(xs:Array VF)(n:Nat):Prop:=∀i j,i<=j->j<n->K xs (lo+i)<=K xs (lo+j)
def jN(lo:Nat)(xs:Array VF)(n:Nat):Prop:=∀i j,i<=j->j<n->K xs (lo+j)<=K xs (lo+i)
theorem iq.more{lo n:Nat}{xs:Array VF}(h:iq lo xs n)(D:1<=n)(k:K xs (lo+n-1)<=K xs (lo+n)):iq lo xs (n+1):=λi j B H=>by
 by_cases c:j<n
 .exact h i j B c
 obtain rfl:j=n:=by omega
 by_cases d:i=j
 .rw[d];exact QP _
 have z:=h i (j-1) (by omega) (by omega);rw[show lo+(j-1)=lo+j-1 by omega]at z;exact Ui z k
theorem jN.more{lo n:Nat}{xs:Array VF}(h:jN lo xs n)(D:1<=n)(k:K xs (lo+n)<=K xs (lo+n-1)):jN lo xs (n+1):=λi j B H=>by
 by_cases c:j<n
 .exact h i j B c
 obtain rfl:j=n:=by omega
 by_cases d:i=j
 .rw[d];exact QP _
 have z:=h i (j-1) (by omega) (by omega);rw[show lo+(j-1)=lo+j-1 by omega]at z;exact Ui k z
theorem iq.one{lo:Nat}{xs:Array VF}:iq lo xs 1:=λi j z B=>by
 obtain rfl:i=j:=by omega
 exact QP _
theorem jN.one{lo:Nat}{xs:Array VF}:jN lo xs 1:=λi j z B=>by
 obtain rfl:i=j:=by omega
 exact QP _
theorem jN.congr{lo n:Nat}{xs ys:Array VF}(h:jN lo xs n)(e:∀k,K ys k=K xs k):jN lo ys n:=λi j z B=>by rw[e,e];exact h i j z B
noncomputable def JY(lo a m:Nat):StateT Vx YM AscSt :=
 forIn [a:m] ((none,a):AscSt) λ_ c=>do
  let x <-ltAt' (lo+c.2) (lo+c.2-1)
  match x with
  |some b=>if b=true then pure (ForInStep.done (none,c.2))else pure (ForInStep.yield (none,c.2+1))
  |_=>pure (ForInStep.done (YN none,c.2))
noncomputable def Bd(lo n m:Nat):StateT Vx YM (Option Nat):=do
 Xb lo (lo+n)
 let c <-JY lo n m
 match c.1 with
 |some r=>pure r
 |none=>pure (YN c.2)
noncomputable def xA(lo n m:Nat):StateT Vx YM DescSt :=
 forIn [n:m] ((none,n,0):DescSt) λ_ c=>do
  let x <-ltAt' (lo+c.2.1) (lo+c.2.1-1)
  match x with
  |some b =>
   if b=true then
    if c.2.2>0 then do
     Xb (lo+c.2.1-(c.2.2+1)) (lo+c.2.1)
     pure (ForInStep.yield (none,c.2.1+1,0))
    else pure (ForInStep.yield (none,c.2.1+1,0))
   else do
    let y <-ltAt' (lo+c.2.1-1) (lo+c.2.1)
    match y with
    |some g=>if g=true then pure (ForInStep.done (none,c.2.1,c.2.2))else pure (ForInStep.yield (none,c.2.1+1,c.2.2+1))
    |_=>pure (ForInStep.done (YN none,c.2.1,c.2.2))
  |_=>pure (ForInStep.done (YN none,c.2.1,c.2.2))
noncomputable def ud(lo n m:Nat):StateT Vx YM (Option Nat):=do
 liftM (rule "list.sort.descending-run")
 let c <-xA lo (n+1) m
 match c.1 with
 |some r=>pure r
 |none =>
  if c.2.2>0 then do
   Xb (lo+c.2.1-(c.2.2+1)) (lo+c.2.1)
   Bd lo c.2.1 m
  else Bd lo c.2.1 m
theorem yT(lo m:Nat):countRun' lo m=(do
  let c <-JY lo 1 m
  match c.1 with
  |some r=>pure r
  |none =>
   if(c.2==m)=true then pure (YN c.2)
   else if c.2>1 then do
    let x <-ltAt' lo (lo+c.2-1)
    match x with
    |some b=>if b=true then pure (YN c.2)else do
      Xb lo (lo+c.2)
      ud lo c.2 m
    |_=>pure none
   else ud lo c.2 m):=by
 rw[countRun'_eq];dsimp only;unfold ud Bd xA JY;congr 1;funext c;obtain⟨r,n⟩:=c;cases r with
 |some r=>rfl
 |none =>
  dsimp only
  split
  .rfl
  split
  .congr 1;funext x;cases x with
   |none=>rfl
   |some b =>
    dsimp only
    split
    .rfl
    congr 1;funext _r;congr 1;funext M;congr 1;congr 1;funext H;obtain⟨D,O,V⟩:=H;cases D with
    |some D=>rfl
    |none =>
     dsimp only
     split
     .congr 1;funext Z;congr 1;funext J;congr 1;funext z;obtain⟨B,L⟩:=z;cases B <;> rfl
     congr 1;funext J;congr 1;funext z;obtain⟨B,L⟩:=z;cases B <;> rfl
  congr 1;funext M;congr 1;congr 1;funext H;obtain⟨D,O,V⟩:=H;cases D with
  |some D=>rfl
  |none =>
   dsimp only
   split
   .congr 1;funext Z;congr 1;funext J;congr 1;funext z;obtain⟨B,L⟩:=z;cases B <;> rfl
   congr 1;funext J;congr 1;funext z;obtain⟨B,L⟩:=z;cases B <;> rfl
theorem He{f:Nat->Int}{lo l k i:Nat}(hi:i<=k):(if lo+i=lo+l then f (lo+k)else if lo+l<lo+i/\lo+i<=lo+k then f (lo+i-1)else f (lo+i))=if i=l then f (lo+k)else if i<l then f (lo+i)else f (lo+(i-1)):=by
 by_cases c:i=l
 .rw[UZ (congrArg _ c),UZ c]
 rw[UX (λz=>c (Nat.add_left_cancel z)),UX c];by_cases d:i<l
 .rw[UX (λz=>Nat.lt_asymm d (Nat.lt_of_add_lt_add_left z.1)),UZ d]
 rw[UZ ⟨Nat.add_lt_add_left (Sz (Ut d) (Ne.symm c)) lo,Tz hi lo⟩,UX d,Nat.add_sub_assoc (by omega)]
theorem DS{X Y:Nat->Int}{l k:Nat}(L:∀i,i<=k->Y i=if i=l then X k else if i<l then X i else X (i-1))(up:∀i j,i<=j->j<k->X i<=X j)(M:∀i,i<l->X i<=X k)(Z:∀i,l<=i->i<k->X k<X i)(i j:Nat)(z:i<=j)(J:j<=k):Y i<=Y j:=by
 rw[L i (PK z J),L j J];by_cases O:i=l
 .rw[UZ O];by_cases H:j=l
  .rw[UZ H];exact QP _
  rw[UX H,UX (by omega)];exact Q5 (Z _ (by omega) (by omega))
 rw[UX O];by_cases B:i<l
 .rw[UZ B];by_cases H:j=l
  .rw[UZ H];exact M i B
  rw[UX H];by_cases D:j<l
  .rw[UZ D];by_cases cl:l<=k
   .exact up i j z (Qf D cl)
   by_cases V:j=k
   .rw[V];exact M i B
   exact up i j z (Sz J V)
  rw[UX D];exact up i (j-1) (by omega) (by omega)
 rw[UX B,UX (by omega),UX (by omega)];exact up _ _ (Nat.sub_le_sub_right z 1) (by omega)
section
variable {prog:U8}{w:Va}{A:Vh}{E:UW->U2->Prop}{s:U2}{a₀:Array VF}{pd:Array (Nat×Nat×Nat)}{lo:Nat}{f:Nat->Int}
theorem iX{st:Vx}{i j:Nat}{Q:Option Bool->Vx->Prop}(z:SB a₀ pd lo f st)(B:Dc prog w A s a₀)(hi:i<a₀.size)(D:j<a₀.size)(h:Q (YN (decide (K (arrOf st) i<K (arrOf st) j))) st):wpS (model prog w) A E s (ltAt' i j) Q st:=by
 obtain⟨p,e1,H⟩:=z.item B.ik hi;obtain⟨q,e2,J⟩:=z.item B.ik D;rw[ltAt'_eq];refine Vm (X2 ?_);refine Vm (uc e1 (Vm (uc e2 ?_)));exact Hd B.as z.kd H J h
theorem SB.turn{st:Vx}(z:SB a₀ pd lo f st){i j:Nat}(hi:lo<=i)(B:j<=a₀.size):SB a₀ pd lo f (setArr st (mirror (arrOf st) i j ((j-i)/2))):=
 z.put (mirror_perm _ _ _ _) λk D=>by rw[K_mirror (by rw[z.sz];exact B),UX (by omega)]
theorem xB{st:Vx}{a m:Nat}{Q:AscSt->Vx->Prop}(J:Dc prog w A s a₀)(V:lo+m<=a₀.size)(Z:1<=a)(D:a<=m)(L:SB a₀ pd lo f st)(M:iq lo (arrOf st) a)
  (h:∀n,a<=n->n<=m->iq lo (arrOf st) n->(n=m\/K (arrOf st) (lo+n)<K (arrOf st) (lo+n-1))->Q (none,n) st):wpS (model prog w) A E s (JY lo a m) Q st:=by
 unfold JY;refine Ww (I:=λx c B=>B=st/\c=(none,x)/\iq lo (arrOf st) x) ?step ?fin ⟨rfl,rfl,M⟩
 case fin =>
  rintro c B ⟨e1,e2,g⟩;subst e1 e2;have e:max a m=m:=Sj D;rw[e]at g⊢;exact h m D (O5 _) g (.inl rfl)
 case step =>
  rintro x c B H O ⟨e1,e2,g⟩;subst e1 e2;dsimp only;refine Vm (iX L J (by omega) (by omega) ?_);dsimp only;refine cF (λz=>?_) (λz=>?_)
  .exact VB (h x H (by omega) g (.inr (U6 z)))
  exact VB ⟨rfl,rfl,g.more (by omega) (To.mp λy=>z (UU y))⟩
theorem ue{st:Vx}{n m:Nat}{Q:Option Nat->Vx->Prop}(L:Dc prog w A s a₀)(M:lo+m<=a₀.size)(O:1<=n)(H:n<=m)(J:SB a₀ pd lo f st)(V:jN lo (arrOf st) n)
  (h:∀k B,SB a₀ pd lo f B->1<=k->k<=m->iq lo (arrOf B) k->Q (YN k) B):wpS (model prog w) A E s (Bd lo n m) Q st:=by
 unfold Bd;have hz:lo+n<=(arrOf st).size:=by rw[J.sz];omega
 have D:=J.turn (i:=lo) (j:=lo+n) (O5 _) (by omega);refine Vm (Xv (Vm (xB L M O H D (λi j Z hj=>?_) λk k1 k2 g _=>VB (h k _ D (by omega) k2 g))));show K (mirror (arrOf st) lo (lo+n) _) (lo+i)<=K (mirror (arrOf st) lo (lo+n) _) (lo+j);rw[K_mirror hz,K_mirror hz,UZ (by omega),UZ (by omega)];have z:=V (n-1-j) (n-1-i) (by omega) (by omega);rw[show lo+(n-1-j)=lo+(lo+n)-1-(lo+j) by omega,show lo+(n-1-i)=lo+(lo+n)-1-(lo+i) by omega]at z;exact z
theorem yU{st:Vx}{n m:Nat}{Q:DescSt->Vx->Prop}(h0:Dc prog w A s a₀)(hn:lo+m<=a₀.size)(h1:1<=n)(L:n<=m)(hB:SB a₀ pd lo f st)(hs:jN lo (arrOf st) n)
  (h:∀k q B,SB a₀ pd lo f B->n<=k->k<=m->jN lo (arrOf B) k->q+1<=k->(∀i,lo+k-(q+1)<=i->i<lo+k->K (arrOf B) i=K (arrOf B) (lo+k-1))->Q (none,k,q) B):wpS (model prog w) A E s (xA lo n m) Q st:=by
 unfold xA;refine Ww (I:=λx c B=>∃q,c=(none,x,q)/\SB a₀ pd lo f B/\jN lo (arrOf B) x/\q+1<=x/\(∀i,lo+x-(q+1)<=i->i<lo+x->K (arrOf B) i=K (arrOf B) (lo+x-1))) ?step ?fin
  ⟨0,rfl,hB,hs,by omega,λi O V=>congrArg _ (by omega)⟩
 case fin =>
  rintro c B ⟨q,e,D,H,M,J⟩;subst e;have e:max n m=m:=Sj L;rw[e]at H M J⊢;exact h m q B D L (O5 _) H M J
 case step =>
  rintro x c B Z hxm ⟨q,e,D,H,M,J⟩;subst e;dsimp only;refine Vm (iX D h0 (by omega) (by omega) ?_);dsimp only;refine cF (λz=>?_) (λz=>?_)
  .have z:=Q5 (U6 z);refine cF (λy=>?_) (λy=>?_)
   .have hz:lo+x<=(arrOf B).size:=by rw[D.sz];omega
    have ke:=K_mirror_equal (i:=lo+x-(q+1)) hz J;refine Vm (Xv (VB ⟨0,rfl,D.turn (by omega) (by omega),(H.congr ke).more (by omega) ?_,by omega,λi O V=>congrArg _ (by omega)⟩));show K (mirror (arrOf B) _ _ _) _<=K (mirror (arrOf B) _ _ _) _;rw[ke,ke];exact z
   exact VB ⟨0,rfl,D,H.more (by omega) z,by omega,λi O V=>congrArg _ (by omega)⟩
  have z:K (arrOf B) (lo+x-1)<=K (arrOf B) (lo+x):=To.mp λy=>z (UU y);refine Vm (iX D h0 (by omega) (by omega) ?_);dsimp only;refine cF (λy=>?_) (λy=>?_)
  .exact VB (h x q B D Z (by omega) H M J)
  have y:K (arrOf B) (lo+x)<=K (arrOf B) (lo+x-1):=To.mp λu=>y (UU u);have ee:K (arrOf B) (lo+x)=K (arrOf B) (lo+x-1):=Int.le_antisymm y z;refine VB ⟨q+1,rfl,D,H.more (by omega) y,by omega,λi O V=>?_⟩;rw[show lo+(x+1)-1=lo+x by omega];by_cases c:i=lo+x
  .rw[c]
  rw[ee];exact J i (by omega) (by omega)
theorem qB{st:Vx}{n m:Nat}{Q:Option Nat->Vx->Prop}(B:Dc prog w A s a₀)(D:lo+m<=a₀.size)(H:n+1<=m)(O:SB a₀ pd lo f st)(V:jN lo (arrOf st) (n+1))
  (h:∀k z,SB a₀ pd lo f z->1<=k->k<=m->iq lo (arrOf z) k->Q (YN k) z):wpS (model prog w) A E s (ud lo n m) Q st:=by
 unfold ud;refine Vm (wpS_lift (VN ⟨rfl,Vm (yU B D (by omega) H O V λk q z J k1 L M g3 Z=>?_)⟩));dsimp only;have hz:lo+k<=(arrOf z).size:=by rw[J.sz];omega
 refine cF (λy=>?_) (λy=>?_)
 .exact Vm (Xv (ue B D (by omega) L (J.turn (by omega) (by omega)) (M.congr (K_mirror_equal (i:=lo+k-(q+1)) hz Z)) h))
 exact ue B D (by omega) L J M h
theorem vK{st:Vx}{m:Nat}{Q:Option Nat->Vx->Prop}(J:Dc prog w A s a₀)(L:lo+m<=a₀.size)(h1:1<=m)(B:SB a₀ pd lo f st)
  (h:∀k D,SB a₀ pd lo f D->1<=k->k<=m->iq lo (arrOf D) k->Q (YN k) D):wpS (model prog w) A E s (countRun' lo m) Q st:=by
 rw[yT];refine Vm (xB J L (O5 1) h1 B iq.one λn O V g M=>?_);dsimp only;refine cF (λc=>?_) (λc=>?_)
 .exact VB (h n st B O V g)
 have c:n≠m:=λz=>c (by rw[z];exact VA _);have H:=Q5 (M.resolve_left c);refine cF (λd=>?_) (λd=>?_)
 .refine Vm (iX B J (by omega) (by omega) ?_);dsimp only;refine cF (λy=>?_) (λy=>?_)
  .exact VB (h n st B O V g)
  have y:K (arrOf st) (lo+n-1)<=K (arrOf st) lo:=To.mp λu=>y (UU u);have hz:lo+n<=(arrOf st).size:=by rw[B.sz];omega
  have all:∀k,lo<=k->k<lo+n->K (arrOf st) k=K (arrOf st) (lo+n-1):=λk z1 z2=>by
   have Z:=g 0 (k-lo) (by omega) (by omega);have a2:=g (k-lo) (n-1) (by omega) (by omega);rw[show lo+(k-lo)=k by omega]at Z a2;rw[show lo+(n-1)=lo+n-1 by omega]at a2;rw[Uj]at Z;omega
  have ke:=K_mirror_equal (i:=lo) hz all;have dn:jN lo (arrOf st) n:=λi j JZ hj=>by rw[all (lo+i) (by omega) (by omega),all (lo+j) (by omega) (by omega)];exact QP _
  exact Vm (Xv (qB J L (by omega) (B.turn (O5 _) (by omega)) ((dn.more (by omega) H).congr ke) h))
 obtain rfl:n=1:=by omega
 exact qB J L (by omega) B (jN.one.more (O5 _) H) h
theorem Be{st:Vx}{n ok:Nat}{Q:Bool->Vx->Prop}(h0:Dc prog w A s a₀)(hn:lo+n<=a₀.size)(O:1<=ok)(bj:ok<=n)(hB:SB a₀ pd lo f st)(hs:iq lo (arrOf st) ok)
  (h:∀B,SB a₀ pd lo f B->iq lo (arrOf B) n->Q true B):wpS (model prog w) A E s (binarySort' lo n ok) Q st:=by
 rw[binarySort'_eq];have em:max ok 1=ok:=Nat.max_eq_left O;rw[em];refine Vm (Yv (Ww (I:=λk c B=>c=(none,())/\SB a₀ pd lo f B/\iq lo (arrOf B) k) (Q:=λc B=>c=(none,())/\SB a₀ pd lo f B/\iq lo (arrOf B) n) ?step ?fin ⟨rfl,hB,hs⟩) ?post)
 case post =>
  rintro c B ⟨e,J,H⟩;subst e;exact VB (h B J H)
 case fin =>
  rintro c B ⟨e,J,H⟩;have e2:max ok n=n:=Sj bj;rw[e2]at H;exact⟨e,J,H⟩
 case step =>
  rintro k c B hak hkn ⟨e,J,H⟩;subst e;have hk:lo+k<a₀.size:=by omega
  refine Vm (Yv (Ww (I:=λx c D=>D=B/\∃l r,c=(none,l,r)/\l<=r/\r<=k/\r-l<=k-x/\(∀i,i<l->K (arrOf B) (lo+i)<=K (arrOf B) (lo+k))/\(∀i,r<=i->i<k->K (arrOf B) (lo+k)<K (arrOf B) (lo+i)))
   (Q:=λc D=>D=B/\∃l r,c=(none,l,r)/\l<=k/\(∀i,i<l->K (arrOf B) (lo+i)<=K (arrOf B) (lo+k))/\(∀i,l<=i->i<k->K (arrOf B) (lo+k)<K (arrOf B) (lo+i))) ?istep ?ifin
   ⟨rfl,0,k,rfl,Qb _,O5 _,O5 _,λi z=>U4 z (QU _),λi V z2=>U4 V (by omega)⟩) ?ipost)
  case ifin =>
   rintro c D ⟨e1,l,r,e2,p1,Z,p3,L,M⟩;obtain rfl:l=r:=by omega
   exact⟨e1,l,l,e2,Z,L,M⟩
  case istep =>
   rintro x c D _ hxk ⟨e1,l,r,e2,p1,Z,p3,L,M⟩;subst e1 e2;dsimp only;refine cF (λy=>?_) (λy=>?_)
   .obtain rfl:l=r:=by omega
    exact VB ⟨rfl,l,l,rfl,Z,L,M⟩
   refine Vm (iX J h0 hk (by omega) ?_);dsimp only;refine cF (λz=>?_) (λz=>?_)
   .have z:=U6 z;exact VB ⟨rfl,l,(l+r)/2,rfl,by omega,by omega,by omega,L,λi V z2=>Int.lt_of_lt_of_le z (H _ _ V z2)⟩
   have z:=To.mp λu=>z (UU u);exact VB ⟨rfl,(l+r)/2+1,r,rfl,by omega,by omega,by omega,λi V=>Ui (H i ((l+r)/2) (by omega) (by omega)) z,M⟩
  case ipost =>
   rintro c D ⟨e1,l,r,e2,Z,L,M⟩;subst e1 e2;show wpS _ _ _ _ (do moveDown' (lo+k) (lo+l);pure (ForInStep.yield (none,()))) _ _;rw[moveDown'_eq];have hz:lo+k<(arrOf D).size:=by rw[J.sz];exact hk
   have dl:lo+k-(lo+l)=k-l:=Nat.add_sub_add_left lo k l;rw[dl];have pk:lo+k-(k-l)=lo+l:=by omega
   have kb:=λi=>K_bubble (d:=k-l) hz (PK (Nat.sub_le k l) (Nat.le_add_left k lo)) i;rw[pk]at kb;refine Vm (Yw (VB ⟨rfl,J.put (bubble_perm _ _ _) λi hi=>?_,λi j JZ hj=>?_⟩))
   .rw[kb,UX (by omega),UX (by omega)]
   refine DS (X:=λi=>K (arrOf D) (lo+i)) (Y:=λi=>K (bubble (arrOf D) (lo+k) (k-l)) (lo+i)) (l:=l) (k:=k) (λi hi=>?_) (λa b=>H a b) L M i j JZ (Nat.le_of_lt_succ hj);show K (bubble (arrOf D) (lo+k) (k-l)) (lo+i)=_;rw[kb];exact He (f:=λi=>K (arrOf D) i) hi
end
section
variable {prog:U8}{w:Va}{A:Vh}{E:UW->U2->Prop}{s:U2}{a₀:Array VF}
theorem rM{xs:Array VF}{n:Nat}(h:iq 0 xs n):SortedTo xs n:=λi j B D=>by
 have z:=h i j B D;rw[Sy,Sy]at z;exact z
end
end rL
namespace L2
open PySem PySem.Spec
structure uf(X:Cx) (scope:We) (f:Vl×U0×Nat):Prop where
 cell:X.env.cells.lookup f.1=YN f.2.1
 at':X.N[f.2.2]?=YN f.1
 kd:X.env.kindOf f.1=YN .cell
 rl:(Wa scope X.env).names.lookup f.1=YN .cell
theorem lookup_mem{β:Type}:∀{l:List (Vl×β)}{x:Vl}{c:β},l.lookup x=YN c->(x,c)∈l
 |[],_,_,h=>by cases h
 |(y,d)::r,x,c,h=>by
  rw[Q8]at h
  split at h
  .rename_i z;cases h;rw[eq_of_beq z];exact Pb ..
  exact Pn _ (lookup_mem h)
theorem oe{β:Type}:∀{l:List (Vl×β)}{x:Vl},x∈l.map Qm->∃c,l.lookup x=YN c
 |[],_,h=>by cases h
 |(y,d)::r,x,h=>by
  rw[Q8];by_cases e:(x==y)=true
  .rw[e];exact⟨d,rfl⟩
  have z:(x==y)=false:=by simpa using e
  rw[z];refine oe ?_;rcases Pu.mp h with h|h
  .exact U4 (by rw[h];exact VA _) e
  exact h
theorem rN{X:Cx}{scope:We}{pre:List Vl}(fs:List (Vl×U0×Nat))(ys:List Vl)(L:fs.map Qm=ys)(B:scope.kind=.function)(h:∀w∈scope.names,w.2≠.cell/\(w.2=.free->w.1∈ys))(hn:∀w∈scope.names,w.2=.local->scope.names.lookup w.1=YN .local)
  (M:Xm scope X.env=pure (fs.map λf=>(f.1,f.2.1))) (D:∀f∈fs,uf X scope f) :
  ip X scope (fs.map λf=>(f.1,f.2.1)) (pre++fs.map Qm) (Qr pre.length none++fs.map λf=>YN f.2.2) where
 AO:=M
 cell:=λw hw=>(h w hw).1
 kind:=B
 names:=hn
 cls:=λx c' q=>by
  obtain⟨f,O,e⟩:=O6.mp (lookup_mem q);cases e;exact(D f O).cell
 has:=λx q=>by
  have key:∀k,(Wa scope X.env).names.lookup x=YN k->k=.cell\/k=.free->x∈fs.map Qm:=λk q J=>by
   have O:=PySem.mem_of_lookup q;obtain⟨⟨n,V⟩,hy,H⟩:=O6.mp O;have Z:=h _ hy;by_cases D:V=.free
   .have w:=Z.2 D;rw[<-L]at w;dsimp only at H
    split at H
    .cases H;exact w
    cases H;exact w
   have hb:(V==NameKind.free)=false:=by simpa using D
   simp only[hb,RJ,Ql,Vu,Prod.mk.injEq]at H;obtain⟨_,rfl⟩:=H;rcases J with J|J
   .exact U4 J Z.1
   exact U4 J D
  have hx:x∈fs.map Qm:=by
   rcases q with q|q
   .exact key _ q (.inl rfl)
   exact key _ q (.inr rfl)
  refine oe ?_;rw[Qc];exact hx
 len:=by simp
 src:=λi q x e1 e2=>by
  by_cases hi:i<pre.length
  .rw[Pk (by simpa using hi),QS,UZ hi]at e1;cases e1
  rw[Pg (by simp;omega),Sa,O7]at e1;rw[Pg (by omega),O7]at e2;obtain⟨f,e3,e4⟩:=Pl.mp e1;rw[e3]at e2;cases e4;obtain rfl:=Option.some.inj e2;have z:=D f (Pj e3);exact⟨z.at',.inl z.kd,.inl z.rl⟩
theorem om{X:Cx}{scope:We}:∀f∈([]:List (Vl×U0×Nat)),uf X scope f:=λf h=>by cases h
theorem dM{X:Cx}{scope:We}{f:Vl×U0×Nat}{fs:List (Vl×U0×Nat)}(h:uf X scope f)(k:∀g∈fs,uf X scope g):∀g∈f::fs,uf X scope g:=λg z=>by
 rcases Pu.mp z with rfl|z
 .exact h
 exact k g z
theorem Bf{b:Bool}{A B:Prop}(z:b=true)(h:A):if b=true then A else B:=by rw[UZ z];exact h
theorem FC{b:Bool}{A B:Prop}(z:b=false)(h:B):if b=true then A else B:=by rw[UX (by rw[z];decide)];exact h
end L2
namespace ay
open PySem L2
def gW:Sp:=λvs H Q _=>∃(t:U0) (rs:List Int),vs=[.ref t]/\H t=YN (.tup (iV rs))/\rs.length<=100/\∀(t':U0) (z:Hp),av H z->z t'=YN (.tup (iV (aw rs)))->Q (.ref t') z
def oq:Sp:=λvs H Q _=>∃(t:U0) (rs:List Int),vs=[.ref t]/\H t=YN (.tup (iV rs))/\rs.length<=100/\∀(l:U0) (z:Hp),H l=none->av H z->z l=YN (.lst (iV (jI (aw rs) (rs.length+1))))->Q (.ref l) z
def qC:Sp:=λvs H Q _=>∃(t:U0) (rs:List Int),vs=[.ref t]/\H t=YN (.tup (iV rs))/\bc rs/\∀(l:U0) (z:Hp),H l=none->av H z->dJ pr z l (bD rs)->Q (.ref l) z
theorem b6(a b:List Int):iV (a++b)=iV a++iV b:=by unfold iV;rw[Ph]
theorem c7{rs:List Int}{j:Nat}(h:j<rs.length):(iV rs)[j]?=YN (.int (rs.getD j 0)):=G8 (getD_get h)
theorem xC{fs:List Int}(nd:(a7 fs).Nodup){B:List (Key×V)}{i:Nat}{g:Nat->V}(hi:i<fs.length)(H:∀j,j<i->bA B (Sum.inl (aE (fs.getD j 0)):Key)=YN (g j)) :
  ∀j,j<i+1->bA (putK B (Sum.inl (aE (fs.getD i 0)):Key) (g i)) (Sum.inl (aE (fs.getD j 0)):Key)=YN (g j):=λj L=>by
 rw[fU];by_cases e:j=i
 .rw[e,UZ rfl]
 rw[UX,H j (by omega)];intro z;injection z with z;have D:=cR (os:=fs) (j:=j) (by omega);have J:=cR (os:=fs) (j:=i) hi;rw[z]at D;exact e ((Qi (by rw[cu];omega) nd).mp (D.trans J.symm))
theorem DT(x:Int):(if x<0 then -x else x)=aE x:=rfl
end ay
namespace L2
open PySem PySem.Spec PyProof.Rows
theorem ir:∀{z:List U0}{its:List UW},Vals (z.map V.ref) its->its=z.map Value.ref
 |[],_,.nil=>rfl
 |t::z,_,.cons h r=>by rw[ir r];cases h;rfl
theorem ou{X:Cx}{K:Pc}(J:X.K=K)(z:X.A.units<cLine):jA X (VE .Eq) (λx y H Q=>∃(a b:U0) (xs:List V),x=.ref a/\y=.ref b/\aM K H a xs/\aM K H b []/\Q (.bl (decide (xs.length=0))) H):=by
 subst J;intro pins s σ H x y v u Q I L M h;obtain⟨a,b,xs,rfl,rfl,O,Z,q⟩:=h;cases L;cases M;obtain⟨i1,r1,B,z1⟩:=I.list O;obtain⟨i2,r2,D,z2⟩:=I.list Z;have l1:xs.length=i1.length:=r1.length;have l2:0=i2.length:=r2.length;by_cases c:xs.length=0
 .refine SeqAt.eq_listAt (e:=λj=>true) B.isList D.isList (by simp only[Pe];omega) z (λj h1 h2=>?_) ⟨.bl (decide (xs.length=0)),H,I,?_,q⟩
  .exfalso;simp only[Pe]at h1;omega
  show Value.bool _=Value.bool _;congr 1;rw[UU c];exact QY.mpr λ_ _=>rfl
 refine SeqAt.eq_list_lengthsAt B.isList D.isList (by simp only[Pe,bne_iff_ne];omega) z ⟨.bl (decide (xs.length=0)),H,I,?_,q⟩;show Value.bool _=Value.bool _;rw[U1 c]
end L2
namespace ay
open PySem L2
open Classical
noncomputable def iY(fs:List Int)(a m:Nat):List (Int×Int):=((PX m).filter λb=>decide (Wh fs a b)).map λ(b:Nat)=>((a:Int),(b:Int))
noncomputable def Af(fs:List Int)(i:Nat):List (Int×Int):=(PX i).flatMap λa=>iY fs a fs.length
noncomputable def mX(fs:List Int)(p:Int×Int):Bool:=decide (Kn fs p.1.toNat p.2.toNat)
noncomputable def cX(fs:List Int):List (Int×Int):=(Af fs fs.length).filter (mX fs)
theorem vM(fs:List Int)(a m:Nat):iY fs a (m+1)=iY fs a m++(if Wh fs a m then[((a:Int),(m:Int))]else[]):=by
 unfold iY;rw[QT,Qd,Ph,Qq,Qt];congr 1;by_cases c:Wh fs a m
 .rw[UZ (UU c),UZ c];rfl
 rw[UX (by rw[U1 c];decide),UX c];rfl
theorem kD(fs:List Int)(i:Nat):Af fs (i+1)=Af fs i++iY fs i fs.length:=by unfold Af;rw[QT,TC];simp
theorem lW{fs:List Int}{a m:Nat}{p:Int×Int}:p∈iY fs a m↔∃b:Nat,b<m/\Wh fs a b/\p=((a:Int),(b:Int)):=by
 unfold iY;rw[O6];constructor
 .rintro⟨b,D,rfl⟩;obtain⟨z,B⟩:=Pd.mp D;exact⟨b,Px.mp z,U6 B,rfl⟩
 rintro⟨b,z,B,rfl⟩;exact⟨b,Pd.mpr ⟨Px.mpr z,UU B⟩,rfl⟩
theorem DU{fs:List Int}{p:Int×Int}:p∈Af fs fs.length↔∃a b:Nat,Wh fs a b/\p=((a:Int),(b:Int)):=by
 unfold Af;rw[Uw];constructor
 .rintro⟨a,B,h⟩;obtain⟨b,_,z,rfl⟩:=lW.mp h;exact⟨a,b,z,rfl⟩
 rintro⟨a,b,W,rfl⟩;exact⟨a,Px.mpr (Ug W.lt W.lb),lW.mpr ⟨b,W.lb,W,rfl⟩⟩
theorem dW{fs:List Int}{a b c:Nat}(z:Kn fs a b)(B:Kn fs a c):b=c:=by
 by_cases x:b<c
 .exact U4 z.1 (B.2 b x)
 by_cases y:c<b
 .exact U4 B.1 (z.2 c y)
 omega
theorem oz{fs:List Int}{a:Nat}:∀b,Wh fs a b->∃c,Kn fs a c:=λb=>by
 induction b using Rz with
 |_ b z =>
  intro W;by_cases h:∃c,c<b/\Wh fs a c
  .obtain⟨c,B,D⟩:=h;exact z c B D
  exact⟨b,W,λc H hw=>h ⟨c,H,hw⟩⟩
theorem ug{fs:List Int}{a:Nat}:(∀b,¬Wh fs a b)/\(iY fs a fs.length).filter (mX fs)=[]\/∃b,Kn fs a b/\(iY fs a fs.length).filter (mX fs)=[((a:Int),(b:Int))]:=by
 by_cases h:∃b,Wh fs a b
 .right;obtain⟨D,W⟩:=h;obtain⟨b,B⟩:=oz D W;refine⟨b,B,?_⟩;have key:∀m,(iY fs a m).filter (mX fs)=if b<m then[((a:Int),(b:Int))]else[]:=λm=>by
   induction m with
   |zero=>rw[UX (by omega)];rfl
   |succ m H =>
    rw[vM,Qd,H];by_cases e:b=m
    .subst e;rw[UX (by omega),UZ B.1,UZ (by omega),Qq,Qt,UZ]
     .rfl
     unfold mX;exact UU (by simpa using B)
    by_cases w:Wh fs a m
    .have nk:¬mX fs ((a:Int),(m:Int))=true:=λz=>by
      have z:Kn fs a m:=by have:=U6 (show decide (Kn fs ((a:Int)).toNat ((m:Int)).toNat)=true from z);simpa using this
      exact e (dW B z)
     rw[UZ w,Qq,Qt,UX nk,Qh];by_cases lt:b<m
     .rw[UZ lt,UZ (by omega)]
     rw[UX lt,UX (by omega)]
    rw[UX w,Qt,Qh];by_cases lt:b<m
    .rw[UZ lt,UZ (by omega)]
    rw[UX lt,UX (by omega)]
  rw[key,UZ B.1.lb]
 left;refine⟨λb W=>h ⟨b,W⟩,?_⟩;have:iY fs a fs.length=[]:=List.eq_nil_iff_forall_not_mem.mpr λp J=>by
  obtain⟨b,_,W,_⟩:=lW.mp J;exact h ⟨b,W⟩
 rw[this]
 rfl
theorem oC(fs:List Int):∀i,((Af fs i).filter (mX fs)).length<=i
 |0=>O5 _
 |i+1=>by
  have z:=oC fs i;rw[kD,Qd,O9];rcases ug (fs:=fs) (a:=i)with⟨_,e⟩|⟨b,_,e⟩
  .rw[e];show _+0<=_;omega
  rw[e];show _+1<=_;omega
theorem kE(fs:List Int):(cX fs).length<=fs.length:=oC fs _
def uh:Sp:=λvs H Q _=>∃(t:U0) (fs:List Int) (a:Nat),vs=[.ref t,.int a]/\H t=YN (.tup (iV fs))/\(a7 fs).Nodup/\a<fs.length/\fs.length<=100 /\
 (∀b:Nat,Kn fs a b->Q (.int b) H)/\((∀b,¬Wh fs a b)->Q .fF H)
def fZ:Sp:=λvs H Q _=>∃(t:U0) (rs:List Int),vs=[.ref t]/\H t=YN (.tup (iV rs))/\bc rs/\∀(l:U0) (z:Hp),H l=none->av H z->dJ pr z l (cX (aw rs))->Q (.ref l) z
def mH(K:Pc):Sp:=λvs H Q _=>∃(a:U0) (ns:List Int) (at' many:Nat),vs=[.ref a,.int at',.int many]/\aM K H a (ns.map V.int)/\many<=40 /\
 ∀(t:U0) (z:Hp) (rs:List Int),av H z->z t=YN (.tup (iV rs))->rs.length=many->bc rs->Q (.ref t) z
def oD(K:Pc):Sp:=λvs H Q _=>∃(a:U0) (ns:List Int) (at' room:Nat),vs=[.ref a,.int at',.int room]/\aM K H a (ns.map V.int)/\ns.length<=63/\at'<=63/\room<=41 /\
 ∀(t:U0) (z:Hp) (rs:List Int),av H z->z t=YN (.tup (iV rs))->rs.length<max room 5->bc rs->Q (.ref t) z
noncomputable def yV(m:Int->Int)(p:Int×Int):Int->Int:=λx=>if m x=m p.2 then m p.1 else m x
noncomputable def mk(ps:List (Int×Int)):Int->Int:=ps.foldl yV id
theorem gB(ps:List (Int×Int))(p:Int×Int):mk (ps++[p])=yV (mk ps) p:=by unfold mk;rw[R7];rfl
def Sn(ps:List (Int×Int))(x:Int):Prop:=∃p∈ps,x=p.1\/x=p.2
theorem jt{ps:List (Int×Int)}{p:Int×Int}{x:Int}:Sn (ps++[p]) x↔Sn ps x\/x=p.1\/x=p.2:=by
 unfold Sn;constructor
 .rintro⟨q,z,h⟩;rcases Po.mp z with z|z
  .exact .inl ⟨q,z,h⟩
  rw[O4.mp z]at h;exact .inr h
 rintro(⟨q,z,h⟩|h)
 .exact⟨q,PR _ z,h⟩
 exact⟨p,PB _ (O4.mpr rfl),h⟩
theorem fS{α:Type}{P:List α->Prop}(B:P [])(D:∀l a,P l->P (l++[a])):∀l,P l:=λl=>by
 have:∀l:List α,P l.reverse:=λl=>by
  induction l with
  |nil=>exact B
  |cons a r H=>rw[List.reverse_cons];exact D _ _ H
 have z:=this l.reverse;rwa[Ts]at z
theorem fM(ps:List (Int×Int)):(∀x,¬Sn ps x->mk ps x=x)/\∀x,Sn ps x->Sn ps (mk ps x):=by
 refine fS (P:=λps=>(∀x,¬Sn ps x->mk ps x=x)/\∀x,Sn ps x->Sn ps (mk ps x)) ⟨λ_ _=>rfl,λx ⟨p,h,_⟩=>by cases h⟩ ?_ ps;intro ps p ⟨D,H⟩;have a:∀x,x=p.1\/x=p.2->Sn (ps++[p]) (mk ps x):=λx B=>by
  by_cases c:Sn ps x
  .exact jt.mpr (.inl (H x c))
  rw[D x c];exact jt.mpr (.inr B)
 rw[gB];constructor
 .intro x B;have c:¬Sn ps x:=λz=>B (jt.mpr (.inl z));unfold yV;rw[D x c,UX];intro e;exact B (e▸a p.2 (.inr rfl))
 intro x B;unfold yV
 split
 .exact a p.1 (.inl rfl)
 rcases jt.mp B with c|c
 .exact jt.mpr (.inl (H x c))
 exact a x c
noncomputable def fN(g:List (Int×List Int))(k x:Int):List (Int×List Int):=
 if(g.any λe=>decide (e.1=k))=true then g.map (λe=>if e.1=k then(e.1,e.2++[x])else e)else g++[(k,[x])]
noncomputable def ia(c:Nat->Int):Nat->List (Int×List Int)
 |0=>[]
 |n+1=>fN (ia c n) (c n) n
theorem qD(g:List (Int×List Int))(k x:Int):(fN g k x).map Qm=if k∈g.map Qm then g.map Qm else g.map Qm++[k]:=by
 have e:(g.any λe=>decide (e.1=k))=true↔k∈g.map Qm:=by
  rw[Qv,O6];exact⟨λ⟨e,B,D⟩=>⟨e,B,U6 D⟩,λ⟨e,B,D⟩=>⟨e,B,UU D⟩⟩
 unfold fN;by_cases c:(g.any λe=>decide (e.1=k))=true
 .rw[UZ c,UZ (e.mp c),Qc];refine PF λy _=>?_;show(if y.1=k then(y.1,y.2++[x])else y).1=y.1
  split <;> rfl
 rw[UX c,UX (λz=>c (e.mpr z)),Ph]
 rfl
theorem nu(c:Nat->Int):∀n,(ia c n).length<=n
 |0=>O5 _
 |n+1=>by
  have:=nu c n;show(fN (ia c n) (c n) n).length<=n+1;unfold fN
  split
  .rw[O3];omega
  rw[O9];show _+1<=_;omega
structure FD(g:List (Int×List Int)) (n:Nat):Prop where
 ne:∀e∈g,e.2≠[]
 lt:∀e∈g,∀x∈e.2,0<=x/\x<n
 len:∀e∈g,e.2.length<=n
 asc:g.Pairwise λe f=>e.2.headD 0<f.2.headD 0
theorem qE{l:List Int}(h:l≠[])(x:Int):(l++[x]).headD 0=l.headD 0:=by
 cases l with
 |nil=>exact U4 rfl h
 |cons y r=>rfl
theorem gM(c:Nat->Int):∀n,FD (ia c n) n
 |0=>⟨λe h=>(nomatch h),λe h=>(nomatch h),λe h=>(nomatch h),List.Pairwise.nil⟩
 |n+1=>by
  have B:=gM c n;show FD (fN (ia c n) (c n) n) (n+1);unfold fN
  split
  .have key:∀e∈(ia c n).map (λe=>if e.1=c n then(e.1,e.2++[(n:Int)])else e),∃d∈ia c n,(e=d\/e=(d.1,d.2++[(n:Int)]))/\e.2.headD 0=d.2.headD 0:=λe z=>by
    obtain⟨d,hd,rfl⟩:=O6.mp z;refine⟨d,hd,?_⟩
    split
    .exact⟨.inr rfl,qE (B.ne d hd) _⟩
    exact⟨.inl rfl,rfl⟩
   refine⟨λe z=>?_,λe z x D=>?_,λe z=>?_,?_⟩
   .obtain⟨d,hd,h|h,_⟩:=key e z
    .rw[h];exact B.ne d hd
    rw[h];simp
   .obtain⟨d,hd,h|h,_⟩:=key e z
    .rw[h]at D;have:=B.lt d hd x D;omega
    rw[h]at D;rcases Po.mp D with D|D
    .have:=B.lt d hd x D;omega
    rw[O4.mp D];omega
   .obtain⟨d,hd,h|h,_⟩:=key e z
    .rw[h];have:=B.len d hd;omega
    rw[h];have:=B.len d hd;show(d.2++[(n:Int)]).length<=_;rw[O9];show _+1<=_;omega
   rw[Qa];refine List.Pairwise.imp_of_mem ?_ B.asc;intro a b H J h;have L:∀d∈ia c n,(if d.1=c n then(d.1,d.2++[(n:Int)])else d).2.headD 0=d.2.headD 0:=λd hd=>by
    split
    .exact qE (B.ne d hd) _
    rfl
   rw[L a H,L b J];exact h
  refine⟨λe z=>?_,λe z x D=>?_,λe z=>?_,?_⟩
  .rcases Po.mp z with z|z
   .exact B.ne e z
   rw[O4.mp z];simp
  .rcases Po.mp z with z|z
   .have:=B.lt e z x D;omega
   rw[O4.mp z]at D;rw[O4.mp D];omega
  .rcases Po.mp z with z|z
   .have:=B.len e z;omega
   rw[O4.mp z];show 1<=n+1;omega
  rw[QX];refine⟨B.asc,QL ..,λa H b J=>?_⟩;rw[O4.mp J];show a.2.headD 0<(n:Int);cases h:a.2 with
  |nil=>exact U4 h (B.ne a H)
  |cons y r =>
   have:=B.lt a H y (by rw[h];exact Pb ..);show y<(n:Int);omega
theorem kG(c:Nat->Int):∀n k,k∈(ia c n).map Qm↔∃i,i<n/\c i=k
 |0,k=>⟨λh=>(nomatch h),λ⟨i,h,_⟩=>by omega⟩
 |n+1,k=>by
  have B:=kG c n k;show k∈(fN (ia c n) (c n) n).map Qm↔_;rw[qD];have Nc:(∃i,i<n+1/\c i=k)↔(∃i,i<n/\c i=k)\/c n=k:=by
   constructor
   .rintro⟨i,D,z⟩;by_cases e:i=n
    .exact .inr (e▸z)
    exact .inl ⟨i,by omega,z⟩
   rintro(⟨i,D,z⟩|h)
   .exact⟨i,by omega,z⟩
   exact⟨n,by omega,h⟩
  rw[Nc,<-B]
  split
  .rename_i h;constructor
   .exact .inl
   rintro(h'|rfl)
   .exact h'
   exact h
  rw[Po,O4];constructor
  .rintro(h'|rfl)
   .exact .inl h'
   exact .inr rfl
  rintro(h'|rfl)
  .exact .inl h'
  exact .inr rfl
theorem gX(c:Nat->Int):∀n,((ia c n).map Qm).Nodup
 |0=>QK
 |n+1=>by
  have z:=gX c n;show((fN (ia c n) (c n) n).map Qm).Nodup;rw[qD]
  split
  .exact z
  rename_i h;rw[QB];exact⟨z,by simp,λa B b D e=>h (by rw[<-O4.mp D,<-e];exact B)⟩
theorem lX{c d:Nat->Int}:∀{n:Nat},(∀i,i<n->c i=d i)->ia c n=ia d n
 |0,_=>rfl
 |n+1,h=>by
  show fN (ia c n) (c n) n=fN (ia d n) (d n) n;rw[lX λi hi=>h i (by omega),h n (by omega)]
noncomputable def oE(rs:List Int):List (List Int):=(ia (λk=>mk (bD rs) (cV rs k)) (rs.length+1)).map Rx
inductive Cn (ps:List (Int×Int)):Int->Int->Prop
 |base {p:Int×Int} (h:p∈ps):Cn ps p.1 p.2
 |refl (x:Int):Cn ps x x
 |symm {x y:Int} (h:Cn ps x y):Cn ps y x
 |trans {x y z:Int} (h:Cn ps x y) (k:Cn ps y z):Cn ps x z
theorem Cn.mono{ps D:List (Int×Int)}{x y:Int}(h:Cn ps x y)(s:∀p∈ps,p∈D):Cn D x y:=by
 induction h with
 |base h=>exact .base (s _ h)
 |refl x=>exact .refl x
 |symm _ H=>exact H.symm
 |trans _ _ z B=>exact z.trans B
theorem oF(ps:List (Int×Int)):(∀x,Cn ps x (mk ps x))/\∀p∈ps,mk ps p.1=mk ps p.2:=by
 refine fS (P:=λps=>(∀x,Cn ps x (mk ps x))/\∀p∈ps,mk ps p.1=mk ps p.2) ⟨λx=>.refl x,λp D=>U4 D Pf⟩ ?_ ps;intro ps p ⟨B,H⟩;rw[gB];have up:∀{x y},Cn ps x y->Cn (ps++[p]) x y:=λh=>h.mono λq z=>PR _ z;have J:Cn (ps++[p]) p.1 p.2:=.base (PB _ (O4.mpr rfl));constructor
 .intro x;unfold yV;by_cases c:mk ps x=mk ps p.2
  .rw[UZ c];have a:=up (B x);rw[c]at a;exact((a.trans (up (B p.2)).symm).trans J.symm).trans (up (B p.1))
  rw[UX c];exact up (B x)
 intro q z;unfold yV;rcases Po.mp z with z|z
 .rw[H q z]
 rw[O4.mp z,UZ rfl]
 split <;> rfl
theorem oG{ps:List (Int×Int)}{x y:Int}:mk ps x=mk ps y↔Cn ps x y:=by
 have f:=oF ps;constructor
 .intro h;have a:=f.1 x;rw[h]at a;exact a.trans (f.1 y).symm
 intro h
 induction h with
 |base h=>exact f.2 _ h
 |refl x=>rfl
 |symm _ D=>exact D.symm
 |trans _ _ z B=>exact z.trans B
theorem eJ:∀{l₁ l₂:List Int},l₁.Nodup->(∀x∈l₁,x∈l₂)->l₁.length<=l₂.length
 |[],_,_,_=>Qb _
 |a::r,l₂,nd,h=>by
  rw[Qj]at nd;have B:=h a Pb;have z:=eJ (l₁:=r) (l₂:=l₂.erase a) nd.2 λx D=>(List.mem_erase_of_ne (λ(e:x=a)=>nd.1 (e▸D))).mpr (h x (Pn _ D));rw[RT B]at z;have:0<l₂.length:=Q0 B;show r.length+1<=_;omega
structure One(R:Int->Int->Prop) (S:Int->Prop) (L:List Int):Prop where
 nd:L.Nodup
 ins:∀a∈L,S a
 all:∀x,S x->∃a∈L,R a x
 inj:∀a∈L,∀b∈L,R a b->a=b
theorem One.le{R:Int->Int->Prop}{S:Int->Prop}{L M:List Int}(O:∀{x y},R x y->R y x)(V:∀{x y z},R x y->R y z->R x z)(h:One R S L)(k:One R S M):L.length<=M.length:=by
 have pick:∀a,∃b,a∈L->b∈M/\R b a:=λa=>by
  by_cases c:a∈L
  .obtain⟨b,B,r⟩:=k.all a (h.ins a c);exact⟨b,λ_=>⟨B,r⟩⟩
  exact⟨0,λz=>U4 z c⟩
 let f:Int->Int:=λa=>Classical.choose (pick a)
 have H:∀a,a∈L->f a∈M/\R (f a) a:=λa=>Sf (pick a);have nd:(L.map f).Nodup:=by
  refine Qa.mpr (List.Pairwise.imp_of_mem (λ{a b} D B ne e=>ne ?_) h.nd);have J:=(H a D).2;have Z:=(H b B).2;rw[e]at J;exact h.inj a D b B (V (O J) Z)
 have z:=eJ nd (l₂:=M) λx hx=>by
  obtain⟨a,D,rfl⟩:=O6.mp hx;exact(H a D).1
 rwa[O3]at z
theorem One.eq{R:Int->Int->Prop}{S:Int->Prop}{L M:List Int}(B:∀{x y},R x y->R y x)(D:∀{x y z},R x y->R y z->R x z)(h:One R S L)(k:One R S M):L.length=M.length :=
 Sv (One.le (R:=R) (S:=S) B D h k) (One.le (R:=R) (S:=S) B D k h)
theorem One.cn{ps:List (Int×Int)}{S:Int->Prop}{L M:List Int}(h:One (Cn ps) S L)(k:One (Cn ps) S M):L.length=M.length:=h.eq (λz=>z.symm) (λa b=>a.trans b) k
def FE(rs:List Int)(x:Int):Prop:=0<=x/\x<((rs.length+1:Nat):Int)
theorem iu{rs:List Int}(fit:bc rs):∀p∈bD rs,FE rs p.1/\FE rs p.2:=λp B=>by
 have h:=t7 fit;have a:∀x,x∈(bD rs).map Qm++(bD rs).map Rx->FE rs x:=λx D=>by
  have z:=h.mem_iff.mp D;rcases Po.mp z with z|z <;> exact eI.mp z
 exact⟨a _ (PR _ (O6.mpr ⟨p,B,rfl⟩)),a _ (PB _ (O6.mpr ⟨p,B,rfl⟩))⟩
theorem xD{rs:List Int}(fit:bc rs){x:Int}(D:FE rs x):∃p∈bD rs,x=p.1\/x=p.2:=by
 have h:=t7 fit;have z:x∈(bD rs).map Qm++(bD rs).map Rx:=h.mem_iff.mpr (PR _ (eI.mpr D));rcases Po.mp z with z|z
 .obtain⟨p,B,e⟩:=O6.mp z;exact⟨p,B,.inl e.symm⟩
 obtain⟨p,B,e⟩:=O6.mp z;exact⟨p,B,.inr e.symm⟩
theorem yW{rs:List Int}(fit:bc rs):∃L,One (Cn (bD rs)) (FE rs) L/\L.length=(oE rs).length:=by
 let c:Nat->Int:=λk=>mk (bD rs) (cV rs k)
 have f:=oF (bD rs);have B:∀x,mk (bD rs) (mk (bD rs) x)=mk (bD rs) x:=λx=>oG.mpr (f.1 x).symm;have J:∀x,FE rs x->FE rs (mk (bD rs) x):=λx M=>by
  obtain⟨p,H,e⟩:=xD fit M;obtain⟨q,V,e2⟩:=(fM (bD rs)).2 x ⟨p,H,e⟩;rcases e2 with e2|e2 <;> rw[e2]
  .exact(iu fit q V).1
  exact(iu fit q V).2
 have keys:=kG c (rs.length+1);refine⟨(ia c (rs.length+1)).map Qm,⟨gX c _,λa O=>?_,λx M=>?_,λa O b Z r=>?_⟩,by unfold oE;rw[O3,O3]⟩
 .obtain⟨i,hi,rfl⟩:=(keys a).mp O;exact J _ (iu fit _ (Pj (fY hi))).1
 .obtain⟨p,H,e⟩:=xD fit M;have e2:mk (bD rs) x=mk (bD rs) p.1:=by
   rcases e with e|e <;> rw[e]
   exact(f.2 p H).symm
  obtain⟨i,hi⟩:=PD H;have D:i<rs.length+1:=by rw[<-kC rs];exact(O2.mp hi).1
  rw[fY D]at hi;have ep:p.1=cV rs i:=by rw[<-Option.some.inj hi];rfl
  refine⟨mk (bD rs) x,(keys _).mpr ⟨i,D,?_⟩,(f.1 x).symm⟩;show mk (bD rs) (cV rs i)=_;rw[e2,ep]
 obtain⟨i,hi,rfl⟩:=(keys a).mp O;obtain⟨j,hj,rfl⟩:=(keys b).mp Z;have z:=oG.mpr r;rw[B,B]at z;exact z
theorem iw{rs:List Int}(fit:bc rs){p:Nat}(D:0<p)(B:p<rs.length+2):(aw rs).getD p 0≠0:=λe=>by
 have z:aE ((aw rs).getD p 0)=((0:Nat):Int):=by rw[e];rfl
 have:=fH fit B z;rw[fj fit]at this;omega
theorem Hf{fs:List Int}(nd:(a7 fs).Nodup){a:Nat}(lo:Int):∀(m:Nat) (S:List Nat),S.Nodup->(∀i∈S,i<fs.length/\lo<=cW fs a i/\cW fs a i<lo+m)->S.length<=m:=by
 intro m
 induction m with
 |zero =>
  intro S _ z;cases S with
  |nil=>exact O5 _
  |cons i r=>have:=z i Pb;omega
 |succ m J =>
  intro S H z;by_cases c0:∃i∈S,cW fs a i=lo+m
  .obtain⟨i,hi,L⟩:=c0;have M:(S.erase i).length=S.length-1:=RT hi;have O:=J (S.erase i) (H.erase i) λk D=>by
    have B:=(List.Nodup.mem_erase_iff H).mp D;have q:=z k B.2;refine⟨q.1,q.2.1,?_⟩;have ne:cW fs a k≠lo+m:=λe=>B.1 (nj nd q.1 (z i hi).1 (e.trans L.symm));omega
   have:=Q0 hi;omega
  have:=J S H λk D=>by
   have q:=z k D;refine⟨q.1,q.2.1,?_⟩;have ne:cW fs a k≠lo+m:=λe=>c0 ⟨k,D,e⟩;omega
  omega
theorem lY(a m:Nat):((PX m).map (· + a)).Nodup:=by
 rw[Qy,Qa];exact QG.imp λh=>by omega
theorem nv{a m i:Nat}(h:i∈(PX m).map (· + a)):a<=i/\i<a+m:=by
 obtain⟨k,z,rfl⟩:=O6.mp h;have:=Px.mp z;omega
theorem Wh.at'{fs:List Int}{a b j:Nat}(W:Wh fs a b)(B:a<=j)(z:j<=b):fs.getD a 0<=cW fs a j/\cW fs a j<=fs.getD b 0:=by
 by_cases e:j=a
 .rw[e,fk];have:=W.rJ;have:=W.lt;omega
 exact W.mid j (by omega) z
theorem Wh.inside{fs:List Int}(nd:(a7 fs).Nodup){a b j:Nat}(W:Wh fs a b)(B:j<fs.length)(D:fs.getD a 0<=cW fs a j)(J:cW fs a j<=fs.getD b 0):a<=j/\j<=b:=by
 refine Pa λc=>?_;have lt:=W.lt;have lb:=W.lb;have rJ:=W.rJ;have S:=Hf nd (a:=a) (fs.getD a 0) (b-a+1) (j::(PX (b-a+1)).map (· + a)) (Qj.mpr ⟨λH=>by have:=nv H;omega,lY a _⟩) (λi hi=>by
  rcases Pu.mp hi with rfl|hi
  .exact⟨B,D,by omega⟩
  have q:=nv hi;have z:=W.at' (j:=i) (by omega) (by omega);exact⟨by omega,z.1,by omega⟩)
 rw[Si,O3,PN]at S;omega
theorem xE{fs:List Int}(nd:(a7 fs).Nodup){a b c d:Nat}(h:Kn fs a b)(k:Wh fs c d)(M:a<c)(O:c<b):d<=b:=by
 refine Pa λhd=>?_;have hd:b<d:=by omega
 obtain⟨W,no⟩:=h;have f1:=W.rJ;have f2:=k.rJ;have lb:=k.lb;have H:=W.mid c M (by omega);have D:=k.mid b O (by omega);have J:=W.own;have inj:aE (fs.getD b 0)=aE (fs.getD c 0)->False:=λe=>by
  have:b=c:=nj nd (a:=a) (by omega) (by omega) (by unfold cW;rw[e]);omega
 by_cases s:(fs.getD a 0<0)↔(fs.getD c 0<0)
 .have B:∀j,cW fs c j=cW fs a j:=λj=>by
   unfold cW;by_cases t:fs.getD a 0<0
   .rw[UZ t,UZ (s.mp t)]
   rw[UX t,UX λz=>t (s.mpr z)]
  have V:fs.getD c 0=cW fs a c:=by rw[<-B,fk]
  rw[B]at D;have below:∀j,a<=j->j<c->cW fs a j<fs.getD c 0:=λj L Z=>by
   refine Pa λz=>?_;have u:=(W.at' (j:=j) L (by omega)).2;have:=k.inside nd (j:=j) (by omega) (by rw[B];omega) (by rw[B];omega);omega
  have S1:=Hf nd (a:=a) (fs.getD a 0) (fs.getD c 0-fs.getD a 0).toNat ((PX (c-a)).map (· + a)) (lY a _) (λi hi=>by
   have q:=nv hi;have z:=W.at' (j:=i) (by omega) (by omega);have y:=below i (by omega) (by omega);exact⟨by omega,z.1,by omega⟩)
  have S2:=Hf nd (a:=a) (fs.getD c 0) (fs.getD b 0+1-fs.getD c 0).toNat ((PX (b+1-c)).map (· + c)) (lY c _) (λi hi=>by
   have q:=nv hi;have z:=W.at' (j:=i) (by omega) (by omega);have y:=k.at' (j:=i) (by omega) (by omega);rw[B]at y;exact⟨by omega,y.1,by omega⟩)
  rw[O3,PN]at S1 S2;refine no c O ⟨M,by omega,λj L Z=>⟨(W.mid j L (by omega)).1,?_⟩,V,by omega⟩;by_cases e:j=c
  .rw[e,<-V];exact QP _
  exact Q5 (below j (by omega) (by omega))
 have p1:=dS (fs.getD b 0);have p2:=dS (fs.getD c 0);unfold cW at H D J;by_cases t:fs.getD a 0<0
 .have u:¬fs.getD c 0<0:=λz=>s ⟨λ_=>z,λ_=>t⟩;rw[UZ t]at H J;rw[UX u]at D;have e:aE (fs.getD c 0)=fs.getD c 0:=by unfold aE;rw[UX u]
  exact inj (by omega)
 have u:fs.getD c 0<0:=Pa λz=>s ⟨λy=>U4 y t,λy=>U4 y z⟩;rw[UX t]at H J;rw[UZ u]at D;have e:aE (fs.getD c 0)=- fs.getD c 0:=by unfold aE;rw[UZ u]
 exact inj (by omega)
theorem Hg{fs:List Int}(nd:(a7 fs).Nodup){b g:Nat}:∀m a,b-a=m->Wh fs a b->a<=g->g<b->∃c d,Kn fs c d/\c<=g/\g<d:=by
 intro m
 induction m using Rz with
 |_ m B =>
  intro a J W D H;obtain⟨c,z⟩:=oz b W;by_cases e:g<c
  .exact⟨a,c,z,D,e⟩
  have lt:=z.1.lt;exact B (b-c) (by omega) c rfl (z.1.rest nd W (by omega)) (by omega) H
theorem yX{rs:List Int}(fit:bc rs):Wh (aw rs) 0 (rs.length+1):=by
 have l:=aW rs;have z:cW (aw rs) 0=λj=>aE ((aw rs).getD j 0):=by funext j;unfold cW;rw[bV,UX (by decide)]
 refine⟨by omega,by omega,λj B D=>?_,?_,?_⟩
 .have:=eX fit (j:=j) (by omega);rw[z,bV,cv];dsimp only;omega
 .rw[z,cv];dsimp only;rw[cv];unfold aE;rw[UX (by omega)]
 rw[bV,cv];omega
structure Own(fs:List Int) (g c d:Nat):Prop where
 kn:Kn fs c d
 le:c<=g
 lt:g<d
 top:∀c' d',Kn fs c' d'->c'<=g->g<d'->c'<=c
theorem Own.xF{fs:List Int}(nd:(a7 fs).Nodup){g c d z d':Nat}(h:Own fs g c d)(k:Kn fs z d')(B:z<=g)(D:g<d'):d<=d':=by
 have t:=h.top z d' k B D;by_cases e:z=c
 .subst e;rw[dW h.kn k];exact O5 _
 exact xE nd k h.kn.1 (by omega) (by have:=h.le;omega)
theorem Own.uniq{fs:List Int}{g c d z d':Nat}(h:Own fs g c d)(k:Own fs g z d'):c=z/\d=d':=by
 have e:c=z:=Sv (k.top c d h.kn h.le h.lt) (h.top z d' k.kn k.le k.lt);subst e;exact⟨rfl,dW h.kn k.kn⟩
theorem Hh{fs:List Int}{g:Nat}:∀m c d,g-c=m->Kn fs c d->c<=g->g<d->∃c d,Own fs g c d:=by
 intro m
 induction m using Rz with
 |_ m L =>
  intro c d V k M O;by_cases e:∃B d',Kn fs B d'/\B<=g/\g<d'/\c<B
  .obtain⟨B,d',J,D,H,lt⟩:=e;exact L (g-B) (by omega) B d' rfl J D H
  exact⟨c,d,k,M,O,λB d' J D H=>Pa λz=>e ⟨B,d',J,D,H,by omega⟩⟩
theorem eK{rs:List Int}(fit:bc rs){g:Nat}(z:g<rs.length+1):∃c d,Own (aw rs) g c d:=by
 obtain⟨c,d,k,B,D⟩:=Hg (cT fit) (rs.length+1-0) 0 rfl (yX fit) (Qb g) z;exact Hh _ c d rfl k B D
open Classical in
noncomputable def ow(fs:List Int)(g:Nat):Int×Int:=if h:∃p:Nat×Nat,Own fs g p.1 p.2 then(((choose h).1:Int),((choose h).2:Int))else(0,0)
theorem de{fs:List Int}{g c d:Nat}(h:Own fs g c d):ow fs g=((c:Int),(d:Int)):=by
 have e:∃p:Nat×Nat,Own fs g p.1 p.2:=⟨(c,d),h⟩
 unfold ow;rw[dif_pos e];have z:=(Sf e).uniq h;rw[z.1,z.2]
noncomputable def Bg(rs:List Int):List (Int×Int):=(PX (rs.length+1)).map (ow (aw rs))
open Classical in
theorem bK{fs:List Int}{p:Int×Int}:p∈cX fs↔∃a b:Nat,Kn fs a b/\p=((a:Int),(b:Int)):=by
 unfold cX;rw[Pd,DU];constructor
 .rintro⟨⟨a,b,W,rfl⟩,h⟩;refine⟨a,b,?_,rfl⟩;have:=U6 (show decide (Kn fs ((a:Int)).toNat ((b:Int)).toNat)=true from h);simpa using this
 rintro⟨a,b,k,rfl⟩;refine⟨⟨a,b,k.1,rfl⟩,?_⟩;show decide (Kn fs ((a:Int)).toNat ((b:Int)).toNat)=true;exact UU (by simpa using k)
theorem gY(fs:List Int):(cX fs).Pairwise λp q=>p.1<q.1:=by
 have key:∀i,(((Af fs i).filter (mX fs)).Pairwise λp q=>p.1<q.1)/\∀p∈(Af fs i).filter (mX fs),p.1<(i:Int):=λi=>by
  induction i with
  |zero=>exact⟨List.Pairwise.nil,λp z=>U4 z Pf⟩
  |succ i B =>
   rw[kD,Qd];rcases ug (fs:=fs) (a:=i)with⟨_,e⟩|⟨b,_,e⟩
   .rw[e,Qh];exact⟨B.1,λp z=>by have:=B.2 p z;omega⟩
   rw[e];refine⟨QX.mpr ⟨B.1,QL ..,λp z q D=>?_⟩,λp z=>?_⟩
   .rw[O4.mp D];exact B.2 p z
   rcases Po.mp z with z|z
   .have:=B.2 p z;omega
   rw[O4.mp z];show(i:Int)<_;omega
 exact(key fs.length).1
noncomputable def mv(n:Nat)(x:Int):Int:=if x<0 then-((n:Int)+1)-x else(n:Int)+1-x
noncomputable def oH(rs:List Int):List Int:=rs.reverse.map (mv rs.length)
theorem eY(rs:List Int):(oH rs).length=rs.length:=by unfold oH;rw[O3,Q2]
theorem Bh{rs:List Int}(fit:bc rs){x:Int}(h:x∈rs):1<=aE x/\aE x<=rs.length:=by
 have z:=fit.perm.mem_iff.mp (show aE x∈a7 rs from O6.mpr ⟨x,h,rfl⟩);unfold fi at z;obtain⟨i,hi,e⟩:=O6.mp z;have:=Px.mp hi;omega
theorem Bi{n:Nat}{x:Int}(z:1<=aE x)(B:aE x<=n):aE (mv n x)=(n:Int)+1-aE x/\(mv n x<0↔x<0)/\mv n (mv n x)=x:=by
 unfold mv aE at *;by_cases s:x<0
 .rw[UZ s]at *;rw[UZ (by omega),UZ (by omega)];omega
 rw[UX s]at *;rw[UX (by omega),UX (by omega)];omega
theorem ny{rs:List Int}(fit:bc rs):bc (oH rs):=by
 refine⟨by rw[eY];exact fit.small,?_⟩;rw[eY];have e:a7 (oH rs)=(a7 rs).reverse.map λy=>(rs.length:Int)+1-y:=by
  unfold oH a7;rw[Qc,<-RR,Qc];refine PF λx H=>?_;have z:=Bh fit (S5.mp H);exact(Bi z.1 z.2).1
 have nd:(fi rs.length).Nodup:=by
  unfold fi;rw[Qy,Qa];exact QG.imp λh=>by omega
 have B:(a7 rs).Nodup:=fit.perm.nodup_iff.mpr nd;rw[e];refine(QZ ?_ nd).mpr λy=>?_
 .rw[Qy,Qa];exact List.pairwise_reverse.mpr (List.Pairwise.imp (λh=>by omega) B)
 have D:∀y,y∈fi rs.length↔1<=y/\y<=rs.length:=λy=>by
  unfold fi;rw[O6];constructor
  .rintro⟨i,hi,rfl⟩;have:=Px.mp hi;omega
  intro h;exact⟨(y-1).toNat,Px.mpr (by omega),by omega⟩
 rw[O6,D];constructor
 .rintro⟨z,hz,rfl⟩;have:=(D z).mp (fit.perm.mem_iff.mp (S5.mp hz));omega
 intro h;exact⟨(rs.length:Int)+1-y,S5.mpr (fit.perm.mem_iff.mpr ((D _).mpr (by omega))),by omega⟩
theorem DV{rs:List Int}(fit:bc rs):oH (oH rs)=rs:=by
 unfold oH;rw[O3,Q2,<-RR,Ts,Qc];refine(PF λx B=>?_).trans (UM rs);have z:=Bh fit B;exact(Bi z.1 z.2).2.2
theorem kH{rs:List Int}{p:Nat}(B:p<rs.length+2):(aw (oH rs)).getD p 0=mv rs.length ((aw rs).getD (rs.length+1-p) 0):=by
 cases p with
 |zero =>
  rw[Uk,cv,bV];unfold mv;rw[UX (by omega)];omega
 |succ p =>
  by_cases c:p<rs.length
  .rw[ku (by rw[eY];exact c),show rs.length+1-(p+1)=(rs.length-1-p)+1 by omega,ku (by omega)];have e:(oH rs)[p]?=YN (mv rs.length (rs.getD (rs.length-1-p) 0)):=by
    unfold oH;rw[O7,Sb c,getD_get (by omega)]
    rfl
   rw[TN,e]
   rfl
  have e:p=rs.length:=by omega
  have z:=cv (oH rs);rw[eY]at z;rw[e,z,QE,bV];unfold mv;rw[UX (by omega)];omega
theorem gZ{rs:List Int}(fit:bc rs){j:Nat}(D:j<rs.length+2):aE (mv rs.length ((aw rs).getD j 0))=(rs.length:Int)+1-aE ((aw rs).getD j 0)/\(mv rs.length ((aw rs).getD j 0)<0↔(aw rs).getD j 0<0)/\((aw rs).getD j 0<0->1<=j/\j<=rs.length):=by
 have a:=eX fit D;have B:(aw rs).getD j 0<0->1<=j/\j<=rs.length/\- (rs.length:Int)<=(aw rs).getD j 0:=λh=>by
  have z:=cE D h;refine⟨z.1,z.2,Pa λc=>?_⟩;have e:aE ((aw rs).getD j 0)=aE ((aw rs).getD (rs.length+1) 0):=by
   rw[cv];unfold aE at *;rw[UZ h]at *;rw[UX (by omega)];omega
  have:=xx fit D (by omega) e;omega
 refine⟨?_,?_,λh=>⟨(B h).1,(B h).2.1⟩⟩
 .unfold mv aE at *;by_cases s:(aw rs).getD j 0<0
  .have:=B s;rw[UZ s]at *;rw[UZ (by omega)];omega
  rw[UX s]at *;rw[UX (by omega),UX s]
 unfold mv;by_cases s:(aw rs).getD j 0<0
 .have:=B s;rw[UZ s];omega
 unfold aE at a;rw[UX s]at *;omega
theorem Wh.mirror{rs:List Int}(fit:bc rs){a b:Nat}(W:Wh (aw rs) a b):Wh (aw (oH rs)) (rs.length+1-b) (rs.length+1-a):=by
 have lt:=W.lt;have lb:=W.lb;rw[aW]at lb;have rJ:=W.rJ;have own:=W.own;have J:(aw (oH rs)).getD (rs.length+1-b) 0=mv rs.length ((aw rs).getD b 0):=by rw[kH (by omega),show rs.length+1-(rs.length+1-b)=b by omega]
 have L:(aw (oH rs)).getD (rs.length+1-a) 0=mv rs.length ((aw rs).getD a 0):=by rw[kH (by omega),show rs.length+1-(rs.length+1-a)=a by omega]
 have nz:=iw fit (p:=b) (by omega) (by omega);have ka:=gZ fit (j:=a) (by omega);have M:=gZ fit (j:=b) (by omega);have pb:=dS ((aw rs).getD b 0);have H:(aw rs).getD b 0<0↔(aw rs).getD a 0<0:=by
  unfold cW at own;by_cases s:(aw rs).getD a 0<0
  .rw[UZ s]at own;exact⟨λ_=>s,λ_=>by omega⟩
  rw[UX s]at own;exact⟨λz=>by omega,λz=>U4 z s⟩
 have O:∀j,j<rs.length+2->cW (aw (oH rs)) (rs.length+1-b) (rs.length+1-j)=if(aw rs).getD a 0<0 then-((rs.length:Int)+1-aE ((aw rs).getD j 0))else(rs.length:Int)+1-aE ((aw rs).getD j 0):=λj V=>by
  have Z:=gZ fit V;unfold cW;rw[J,kH (by omega),show rs.length+1-(rs.length+1-j)=j by omega,Z.1];by_cases s:(aw rs).getD a 0<0
  .rw[UZ (M.2.1.mpr (H.mpr s)),UZ s]
  rw[UX λz=>s (H.mp (M.2.1.mp z)),UX s]
 have B:mv rs.length ((aw rs).getD a 0)=if(aw rs).getD a 0<0 then-((rs.length:Int)+1)-(aw rs).getD a 0 else(rs.length:Int)+1-(aw rs).getD a 0:=rfl;have D:mv rs.length ((aw rs).getD b 0)=if(aw rs).getD a 0<0 then-((rs.length:Int)+1)-(aw rs).getD b 0 else(rs.length:Int)+1-(aw rs).getD b 0:=by
  unfold mv;by_cases s:(aw rs).getD a 0<0
  .rw[UZ (H.mpr s),UZ s]
  rw[UX λz=>s (H.mp z),UX s]
 refine⟨by omega,by rw[aW,eY];omega,λj h1 h2=>?_,?_,?_⟩
 .have e:j=rs.length+1-(rs.length+1-j):=by omega
  have z:=W.at' (j:=rs.length+1-j) (by omega) (by omega);rw[e,O _ (by omega),J,L,B,D];unfold cW at z;by_cases s:(aw rs).getD a 0<0
  .rw[UZ s]at z⊢;rw[UZ s,UZ s];omega
  rw[UX s]at z⊢;rw[UX s,UX s];omega
 .rw[O a (by omega),L,B];by_cases s:(aw rs).getD a 0<0
  .rw[UZ s,UZ s];unfold aE;rw[UZ s];omega
  rw[UX s,UX s];unfold aE;rw[UX s]
 rw[J,L,B,D];by_cases s:(aw rs).getD a 0<0
 .rw[UZ s,UZ s];omega
 rw[UX s,UX s];omega
theorem Wh.xG{rs:List Int}(fit:bc rs){a b:Nat}(B:a<=rs.length+1)(D:b<=rs.length+1)(W:Wh (aw (oH rs)) (rs.length+1-b) (rs.length+1-a)):Wh (aw rs) a b:=by
 have z:=W.mirror (ny fit);rw[DV fit,eY]at z;rwa[show rs.length+1-(rs.length+1-a)=a by omega,show rs.length+1-(rs.length+1-b)=b by omega]at z
theorem Kn.mirror{rs:List Int}(fit:bc rs){a b:Nat}(k:Kn (aw rs) a b):Kn (aw (oH rs)) (rs.length+1-b) (rs.length+1-a):=by
 have lb:=k.1.lb;have lt:=k.1.lt;rw[aW]at lb;have D:=(Ba (cT fit)).mp k;refine(Ba (cT (ny fit))).mpr ⟨D.1.mirror fit,λ⟨c,z,H⟩=>D.2 ⟨rs.length+1-c,?_,?_⟩⟩
 .have B:=z.lb;rw[aW,eY]at B;refine Wh.xG fit (by omega) (by omega) ?_;rw[show rs.length+1-(rs.length+1-c)=c by omega];exact H
 have B:=z.lb;rw[aW,eY]at B;refine Wh.xG fit (by omega) (by omega) ?_;rw[show rs.length+1-(rs.length+1-c)=c by omega];exact z
theorem Bj{rs:List Int}(fit:bc rs){k:Nat}(z:k<rs.length+2):bC (oH rs) (rs.length+1-k)=rs.length+1-bC rs k:=by
 obtain⟨B,D⟩:=bw fit z;refine fH (ny fit) (by rw[eY];omega) ?_;rw[kH (by omega),show rs.length+1-(rs.length+1-bC rs k)=bC rs k by omega,(gZ fit B).1,D];omega
theorem Hi{rs:List Int}(fit:bc rs){k:Nat}(z:k<rs.length+2):((aw (oH rs)).getD (bC (oH rs) (rs.length+1-k)) 0<0↔(aw rs).getD (bC rs k) 0<0):=by
 obtain⟨B,D⟩:=bw fit z;rw[Bj fit z,kH (by omega),show rs.length+1-(rs.length+1-bC rs k)=bC rs k by omega];exact(gZ fit B).2.1
theorem ui{rs:List Int}(fit:bc rs){k:Nat}(B:k<rs.length+2):cV (oH rs) (rs.length+1-k)=(rs.length:Int)-dv rs k/\dv (oH rs) (rs.length+1-k)=(rs.length:Int)-cV rs k:=by
 have h:=Hi fit B;have e:=Bj fit B;obtain⟨D,H⟩:=bw fit B;unfold cV dv kA kB;by_cases s:(aw rs).getD (bC rs k) 0<0
 .rw[UZ (h.mpr s),UZ (h.mpr s),UZ s,UZ s,e];omega
 rw[UX λz=>s (h.mp z),UX λz=>s (h.mp z),UX s,UX s,e];omega
theorem xH(c:Nat->Int):∀n,∀e∈ia c n,(∀x,x∈e.2↔∃i:Nat,i<n/\c i=e.1/\x=(i:Int))/\e.2.Pairwise (· < ·)
 |0=>λe h=>U4 h Pf
 |n+1=>λe H=>by
  have V:=xH c n;have H:e∈fN (ia c n) (c n) n:=H;unfold fN at H
  split at H
  .obtain⟨d,hd,L⟩:=O6.mp H;obtain⟨M,O⟩:=V d hd;by_cases k:d.1=c n
   .rw[UZ k]at L;subst L;refine⟨λx=>?_,QX.mpr ⟨O,QL ..,λa Z b hb=>?_⟩⟩
    .show x∈d.2++[(n:Int)]↔∃i:Nat,i<n+1/\c i=d.1/\x=(i:Int)
     rw[Po,M,O4];constructor
     .rintro(⟨i,J,D,B⟩|h)
      .exact⟨i,by omega,D,B⟩
      exact⟨n,by omega,k.symm,h⟩
     rintro⟨i,J,D,B⟩;by_cases e:i=n
     .right;rw[B,e]
     exact .inl ⟨i,by omega,D,B⟩
    obtain⟨i,J,_,B⟩:=(M a).mp Z;rw[O4.mp hb,B];omega
   rw[UX k]at L;subst L;refine⟨λx=>?_,O⟩;rw[M];constructor
   .rintro⟨i,J,D,B⟩;exact⟨i,by omega,D,B⟩
   rintro⟨i,J,D,B⟩;have:i≠n:=λe=>k (by rw[<-D,e]);exact⟨i,by omega,D,B⟩
  rename_i no;rcases Po.mp H with H|H
  .obtain⟨M,O⟩:=V e H;refine⟨λx=>?_,O⟩;have k:e.1≠c n:=λz=>no (Qv.mpr ⟨e,H,UU z⟩);rw[M];constructor
   .rintro⟨i,J,D,B⟩;exact⟨i,by omega,D,B⟩
   rintro⟨i,J,D,B⟩;have:i≠n:=λe=>k (by rw[<-D,e]);exact⟨i,by omega,D,B⟩
  rw[O4.mp H];refine⟨λx=>?_,QL ..⟩;show x∈[(n:Int)]↔_;rw[O4];constructor
  .intro h;exact⟨n,by omega,rfl,h⟩
  rintro⟨i,J,D,B⟩;by_cases e:i=n
  .rw[B,e]
  exfalso;have z:=(kG c n (c n)).mpr ⟨i,by omega,D⟩;obtain⟨d,hd,L⟩:=O6.mp z;exact no (Qv.mpr ⟨d,hd,UU L⟩)
theorem lZ{rs:List Int}(fit:bc rs){a b c d:Nat}(h:Kn (aw rs) a b)(k:Kn (aw rs) c d)(lt:a<c):b<=c\/d<b:=by
 by_cases e:c<b
 .right;have le:=xE (cT fit) h k.1 lt e;have B:=h.1.lb;have D:=k.1.lt;rw[aW]at B;refine Sz le λz=>?_;subst z;have:=dW (h.mirror fit) (k.mirror fit);omega
 left;omega
theorem DW{rs:List Int}(fit:bc rs){g:Nat}(B:g<rs.length+1):Kn (aw rs) g (g+1)↔isOpen (aw rs) g=false:=by
 have l:=aW rs;have D:=iw fit (p:=g+1) (by omega) (by omega);have H:=dS ((aw rs).getD (g+1) 0);unfold isOpen;rw[VL,Classical.not_not];constructor
 .intro k;have:=k.1.rJ;omega
 intro e;have own:(aw rs).getD (g+1) 0=cW (aw rs) g (g+1):=by
  unfold cW aE;by_cases s:(aw rs).getD g 0<0
  .rw[UZ s,UZ (by omega)];omega
  rw[UX s,UX (by omega)]
 refine⟨⟨by omega,by omega,λj J L=>?_,own,by omega⟩,λc M W=>by have:=W.lt;omega⟩;have z:j=g+1:=by omega
 rw[z,<-own];omega
theorem uj{rs:List Int}(fit:bc rs){g:Nat}(z:g<rs.length+1):ow (aw rs) g=((g:Int),(g:Int)+1)↔isOpen (aw rs) g=false:=by
 obtain⟨c,d,o⟩:=eK fit z;rw[<-DW fit z,de o];constructor
 .intro e;injection e with e1 e2;have B:c=g:=by omega
  have D:d=g+1:=by omega
  rw[B,D]at o;exact o.kn
 intro k;have H:Own (aw rs) g g (g+1):=⟨k,O5 _,by omega,λJ d' _ h _=>h⟩
 obtain⟨e1,e2⟩:=o.uniq H;rw[e1,e2];congr 1
theorem FF{rs:List Int}(fit:bc rs){a b k:Nat}(W:Wh (aw rs) a b)(hk:k<rs.length+1)(H:(a:Int)<=cV rs k)(J:cV rs k<b):(a:Int)<=dv rs (k+1)/\dv rs (k+1)<b:=by
 have nd:=cT fit;have lb:=W.lb;have lt:=W.lt;have fl:=aW rs;have M:=W.own;have nz:=iw fit (p:=b) (by omega) (by omega);obtain⟨p1,Z⟩:=bw fit (show k<rs.length+2 by omega);obtain⟨q1,L⟩:=bw fit (show k+1<rs.length+2 by omega);have V:=fk (aw rs) a;have inj:∀j,j<rs.length+2->∀i,i<rs.length+2->cW (aw rs) a i=cW (aw rs) a j->i=j:=λj hj i hi e=>nj nd (by omega) (by omega) e;unfold cV kA at H J;unfold dv kB;generalize bC rs k=p at *;generalize bC rs (k+1)=q at *;have bp:=dS ((aw rs).getD b 0);by_cases s:(aw rs).getD a 0<0
 .have B:∀j,cW (aw rs) a j=- aE ((aw rs).getD j 0):=λj=>by unfold cW;rw[UZ s]
  have pin:a<=p/\p<=b/\p≠a:=by
   by_cases t:(aw rs).getD p 0<0
   .rw[UZ t]at H J;exact⟨by omega,by omega,by omega⟩
   rw[UX t]at H J;exact⟨by omega,by omega,λe=>t (by rw[e];exact s)⟩
  have z:=W.at' pin.1 pin.2.1;have ne:cW (aw rs) a p≠(aw rs).getD a 0:=λe=>pin.2.2 (inj a (by omega) p (by omega) (e.trans V.symm));have O:=W.inside nd (j:=q) (by omega) (by rw[B]at z ne⊢;omega) (by rw[B]at z⊢;omega);have qb:q≠b:=λe=>by
   rw[e]at L;rw[B,L]at M;rw[B,Z]at z;omega
  by_cases t:(aw rs).getD q 0<0
  .rw[UZ t];omega
  rw[UX t];have:q≠a:=λe=>t (by rw[e];exact s);omega
 have B:∀j,cW (aw rs) a j=aE ((aw rs).getD j 0):=λj=>by unfold cW;rw[UX s]
 have D:¬(aw rs).getD b 0<0:=by rw[B]at M;omega
 have pin:a<=p/\p<=b/\p≠b:=by
  by_cases t:(aw rs).getD p 0<0
  .rw[UZ t]at H J;exact⟨by omega,by omega,λe=>D (by rw[<-e];exact t)⟩
  rw[UX t]at H J;exact⟨by omega,by omega,by omega⟩
 have z:=W.at' pin.1 pin.2.1;have ne:cW (aw rs) a p≠(aw rs).getD b 0:=λe=>pin.2.2 (inj b (by omega) p (by omega) (e.trans M));have O:=W.inside nd (j:=q) (by omega) (by rw[B]at z ne⊢;omega) (by rw[B]at z ne⊢;omega);have qa:q≠a:=λe=>by
  rw[e]at L;rw[B,L]at V;rw[B]at z;omega
 by_cases t:(aw rs).getD q 0<0
 .rw[UZ t];have:q≠b:=λe=>D (by rw[<-e];exact t);omega
 rw[UX t];omega
theorem J0{rs:List Int}(fit:bc rs){a b k:Nat}(W:Wh (aw rs) a b)(B:k<rs.length+1)(D:(a:Int)<=dv rs (k+1))(H:dv rs (k+1)<b):(a:Int)<=cV rs k/\cV rs k<b:=by
 have lb:=W.lb;rw[aW]at lb;have e1:=(ui fit (k:=k+1) (by omega)).1;have e2:=(ui fit (k:=k) (by omega)).2;rw[show rs.length+1-(k+1)=rs.length-k by omega]at e1;rw[show rs.length+1-k=rs.length-k+1 by omega]at e2;have z:=FF (ny fit) (W.mirror fit) (k:=rs.length-k) (by rw[eY];omega) (by rw[e1];omega) (by rw[e1];omega);rw[e2]at z;omega
theorem DX{rs:List Int}(fit:bc rs){k:Nat}(B:k<rs.length+1):ow (aw rs) (cV rs k).toNat=ow (aw rs) (dv rs (k+1)).toNat:=by
 have g:=iu fit _ (Pj (fY B));have L:0<=cV rs k/\cV rs k<((rs.length+1:Nat):Int):=g.1;have M:0<=dv rs (k+1)/\dv rs (k+1)<((rs.length+1:Nat):Int):=g.2;obtain⟨c,d,o⟩:=eK fit (g:=(cV rs k).toNat) (by omega);have O:=o.le;have V:=o.lt;have z:=FF fit o.kn.1 B (by omega) (by omega);have H:Own (aw rs) (dv rs (k+1)).toNat c d:=⟨o.kn,by omega,by omega,λJ d' D Z l2=>by
  have y:=J0 fit D.1 B (by omega) (by omega);exact o.top J d' D (by omega) (by omega)⟩
 rw[de o,de H]
noncomputable def pA(rs:List Int)(k:Nat):Nat:=if(aw rs).getD (bC rs k) 0<0 then 2*bC rs k-1 else 2*bC rs k
noncomputable def pB(rs:List Int)(k:Nat):Nat:=if(aw rs).getD (bC rs (k+1)) 0<0 then 2*bC rs (k+1)else 2*bC rs (k+1)-1
section
variable {rs:List Int}
theorem fI(fit:bc rs){k l:Nat}(z:k<rs.length+2)(B:l<rs.length+2)(e:bC rs k=bC rs l):k=l:=by
 have D:=(bw fit z).2;have H:=(bw fit B).2;rw[e,H]at D;omega
theorem l4(fit:bc rs){k:Nat}(z:k+1<rs.length+2):1<=bC rs (k+1):=by
 have B:=fj fit;by_cases c:bC rs (k+1)=0
 .have:=fI fit z (show 0<rs.length+2 by omega) (c.trans B.symm);omega
 omega
theorem Bk(fit:bc rs){k:Nat}(B:k<rs.length+1):bC rs k<=rs.length:=by
 have z:=dU fit;have D:=(bw fit (show k<rs.length+2 by omega)).1;by_cases c:bC rs k=rs.length+1
 .have:=fI fit (show k<rs.length+2 by omega) (show rs.length+1<rs.length+2 by omega) (c.trans z.symm);omega
 omega
theorem Bm(fit:bc rs){c:Nat}(D:1<=c)(H:c<=rs.length):(pA rs c=2*bC rs c-1/\pB rs (c-1)=2*bC rs c/\(aw rs).getD (bC rs c) 0<0\/pA rs c=2*bC rs c/\pB rs (c-1)=2*bC rs c-1/\¬(aw rs).getD (bC rs c) 0<0)/\1<=bC rs c/\bC rs c<=rs.length:=by
 have z:=l4 fit (k:=c-1) (by omega);rw[show c-1+1=c by omega]at z;have B:=Bk fit (k:=c) (by omega);unfold pA pB;rw[show c-1+1=c by omega];refine⟨?_,z,B⟩;by_cases s:(aw rs).getD (bC rs c) 0<0
 .left;rw[UZ s,UZ s];exact⟨rfl,rfl,s⟩
 right;rw[UX s,UX s];exact⟨rfl,rfl,s⟩
theorem xI(fit:bc rs):pA rs 0=0:=by
 unfold pA;rw[fj fit,bV]
 rfl
theorem xJ(fit:bc rs):pB rs rs.length=2*rs.length+1:=by
 unfold pB;rw[dU fit,cv,UX (by omega)];omega
theorem dX(fit:bc rs){k:Nat}(z:k<rs.length+1):(pA rs k+1)/2=bC rs k/\pA rs k<2*rs.length+2:=by
 have h:=Bk fit z;unfold pA;by_cases s:(aw rs).getD (bC rs k) 0<0
 .rw[UZ s];have:=cE (bw fit (show k<rs.length+2 by omega)).1 s;omega
 rw[UX s];omega
theorem fm(fit:bc rs){k:Nat}(B:k<rs.length+1):(pB rs k+1)/2=bC rs (k+1)/\pB rs k<2*rs.length+2:=by
 have h:=l4 fit (k:=k) (by omega);have z:=(bw fit (show k+1<rs.length+2 by omega)).1;unfold pB;by_cases s:(aw rs).getD (bC rs (k+1)) 0<0
 .rw[UZ s];have:=cE z s;omega
 rw[UX s];omega
theorem Bn(fit:bc rs){k l:Nat}(B:k<rs.length+1)(D:l<rs.length+1)(e:pA rs k=pA rs l):k=l:=by
 have z:=(dX fit B).1;have H:=(dX fit D).1;rw[e]at z;exact fI fit (by omega) (by omega) (z.symm.trans H)
theorem Bo(fit:bc rs){k l:Nat}(B:k<rs.length+1)(D:l<rs.length+1)(e:pB rs k=pB rs l):k=l:=by
 have z:=(fm fit B).1;have H:=(fm fit D).1;rw[e]at z;have:=fI fit (k:=k+1) (l:=l+1) (by omega) (by omega) (z.symm.trans H);omega
theorem oI(fit:bc rs){k l:Nat}(D:k<rs.length+1)(H:l<rs.length+1):pA rs k≠pB rs l:=λe=>by
 have B:=(dX fit D).1;have J:=(fm fit H).1;rw[e]at B;have:=fI fit (k:=k) (l:=l+1) (by omega) (by omega) (B.symm.trans J);subst this;obtain⟨z,L,M⟩:=Bm fit (c:=l+1) (by omega) (by omega);rw[show l+1-1=l by omega]at z;omega
theorem FH(fit:bc rs){x:Nat}(O:x<2*rs.length+2):∃k,k<rs.length+1/\(x=pA rs k\/x=pB rs k):=by
 have D:(x+1)/2<rs.length+2:=by omega
 obtain⟨V,Z⟩:=eX fit D;obtain⟨a,L⟩:∃a:Nat,aE ((aw rs).getD ((x+1)/2) 0)=a:=⟨(aE ((aw rs).getD ((x+1)/2) 0)).toNat,by omega⟩
 have B:=fH fit D L;by_cases c0:(x+1)/2=0
 .have:x=0:=by omega
  subst this;exact⟨0,by omega,.inl (xI fit).symm⟩
 by_cases c1:(x+1)/2=rs.length+1
 .have:x=2*rs.length+1:=by omega
  subst this;exact⟨rs.length,by omega,.inr (xJ fit).symm⟩
 have an:a≠0:=λz=>by
  rw[z,fj fit]at B;omega
 have M:a<=rs.length:=by
  by_cases z:a=rs.length+1
  .rw[z,dU fit]at B;omega
  omega
 obtain⟨z,H,J⟩:=Bm fit (c:=a) (by omega) M;rw[B]at z;rcases z with⟨H,J,_⟩|⟨H,J,_⟩
 .by_cases e:x%2=0
  .exact⟨a-1,by omega,.inr (by omega)⟩
  exact⟨a,by omega,.inl (by omega)⟩
 by_cases e:x%2=0
 .exact⟨a,by omega,.inl (by omega)⟩
 exact⟨a-1,by omega,.inr (by omega)⟩
theorem Nf(fit:bc rs){k:Nat}(B:k<rs.length+1):(pA rs k)/2=(cV rs k).toNat:=by
 have z:=(bw fit (show k<rs.length+2 by omega)).1;unfold pA cV kA;by_cases s:(aw rs).getD (bC rs k) 0<0
 .rw[UZ s,UZ s];have:=cE z s;omega
 rw[UX s,UX s];omega
theorem Ng(fit:bc rs){k:Nat}(z:k<rs.length+1):(pB rs k)/2=(dv rs (k+1)).toNat:=by
 have B:=(bw fit (show k+1<rs.length+2 by omega)).1;have h:=l4 fit (k:=k) (by omega);unfold pB dv kB;by_cases s:(aw rs).getD (bC rs (k+1)) 0<0
 .rw[UZ s,UZ s];omega
 rw[UX s,UX s];omega
def IH(rs:List Int)(x y:Nat):Prop:=∀k,k<rs.length+1->((x<=pA rs k/\pA rs k<=y)↔(x<=pB rs k/\pB rs k<=y))
def NP(rs:List Int)(x y c:Nat):Prop:=(x<=pB rs (c-1)/\pB rs (c-1)<=y)↔(x<=pA rs c/\pA rs c<=y)
theorem Dd{x y:Nat}(B:IH rs x y):∀(d a:Nat),(x<=pB rs a/\pB rs a<=y)->(∀c,a<c->c<=a+d->NP rs x y c)->a+d<=rs.length->(x<=pB rs (a+d)/\pB rs (a+d)<=y)
 |0,_,h,_,_=>h
 |d+1,a,h,np,H=>by
  have z:=Dd B d a h (λc z D=>np c z (by omega)) (by omega);have D:=(np (a+d+1) (by omega) (by omega)).mp (by rw[show a+d+1-1=a+d by omega];exact z);exact(B (a+(d+1)) (by omega)).mp D
theorem LI{x y:Nat}(B:IH rs x y):∀(d a:Nat),(x<=pA rs a/\pA rs a<=y)->(∀c,a-d<c->c<=a->NP rs x y c)->d<=a->a<=rs.length->(x<=pA rs (a-d)/\pA rs (a-d)<=y)
 |0,_,h,_,_,_=>h
 |d+1,a,h,np,J,H=>by
  have D:=LI B d a h (λc D z=>np c (by omega) z) (by omega) H;have z:=(np (a-d) (by omega) (by omega)).mpr D;rw[show a-d-1=a-(d+1) by omega]at z;exact(B (a-(d+1)) (by omega)).mpr z
theorem xK(fit:bc rs){x y c:Nat}(B:1<=c)(D:c<=rs.length)(e1:x≠2*bC rs c)(e2:y+1≠2*bC rs c):NP rs x y c:=by
 obtain⟨z,H,J⟩:=Bm fit B D;unfold NP;rcases z with⟨a,b,_⟩|⟨a,b,_⟩
 .rw[a,b];omega
 rw[a,b];omega
theorem l7(fit:bc rs){x y a:Nat}(z:IH rs x y)(h:x<=pA rs a/\pA rs a<=y)(B:a<=rs.length)(np:∀c,1<=c->c<=a->NP rs x y c):x=0:=by
 have:=LI z a a h (λc H D=>np c (by omega) D) (O5 _) B;rw[QE,xI fit]at this;omega
theorem kI(fit:bc rs){x y a:Nat}(z:IH rs x y)(h:x<=pB rs a/\pB rs a<=y)(D:a<=rs.length)(np:∀c,a<c->c<=rs.length->NP rs x y c):2*rs.length+1<=y:=by
 have:=Dd z (rs.length-a) a h (λc B H=>np c B (by omega)) (by omega);rw[show a+(rs.length-a)=rs.length by omega,xJ fit]at this;omega
theorem eN{β:Type}[DecidableEq β]:∀{xs ys:List β},xs.Nodup->(∀x∈xs,x∈ys)->xs.length<=ys.length
 |[],ys,_,_=>Qb _
 |x::r,ys,h,s=>by
  rw[Qj]at h;have D:=s x Pb;have H:=eN (xs:=r) (ys:=ys.filter λy=>decide (y≠x)) h.2 λy B=>by
   have ne:y≠x:=λz=>h.1 (z▸B);exact Pd.mpr ⟨s y (Pn _ B),UU ne⟩
  have J:(ys.filter λy=>decide (y≠x)).length<ys.length:=Q6.mpr ⟨x,D,by simp⟩;show r.length+1<=ys.length;omega
theorem xM(fit:bc rs){p q a b:Nat}(Z:q<rs.length+2)(H:p<=q)(hb:b<rs.length+2)(J:a<=b)(L:∀j,p<=j->j<=q->(a:Int)<=aE ((aw rs).getD j 0)/\aE ((aw rs).getD j 0)<=b)(M:∀c,a<=c->c<=b->p<=bC rs c/\bC rs c<=q):q-p=b-a:=by
 have O:((PX (q+1-p)).map λi=>aE ((aw rs).getD (p+i) 0)).length<=((PX (b+1-a)).map λi=>(a:Int)+(i:Nat)).length:=eN (by
   unfold List.Nodup;rw[Qa,Pz];intro i j hi z B e;rw[RX,RX]at e;rw[PN]at hi z;have:=xx fit (i:=p+i) (j:=p+j) (by omega) (by omega) e;omega) λx D=>by
  obtain⟨i,hi,rfl⟩:=O6.mp D;have hi:=Px.mp hi;have:=L (p+i) (by omega) (by omega);exact O6.mpr ⟨(aE ((aw rs).getD (p+i) 0)-a).toNat,Px.mpr (by omega),by omega⟩
 have V:((PX (b+1-a)).map λi=>bC rs (a+i)).length<=((PX (q+1-p)).map λi=>p+i).length:=eN (by
   unfold List.Nodup;rw[Qa,Pz];intro i j hi z B e;rw[RX,RX]at e;rw[PN]at hi z;have:=fI fit (k:=a+i) (l:=a+j) (by omega) (by omega) e;omega) λx D=>by
  obtain⟨i,hi,rfl⟩:=O6.mp D;have hi:=Px.mp hi;have:=M (a+i) (by omega) (by omega);exact O6.mpr ⟨bC rs (a+i)-p,Px.mpr (by omega),by omega⟩
 rw[O3,O3,PN,PN]at O V;omega
theorem kJ(fit:bc rs){j:Nat}(z:j<rs.length+2):∃c:Nat,aE ((aw rs).getD j 0)=c/\bC rs c=j/\c<rs.length+2:=by
 obtain⟨B,D⟩:=eX fit z;exact⟨(aE ((aw rs).getD j 0)).toNat,by omega,fH fit z (by omega),by omega⟩
theorem kK(fit:bc rs){c j:Nat}(e:bC rs c=j)(h:0<j):1<=c:=by
 by_cases z:c=0
 .rw[z,fj fit]at e;omega
 omega
theorem rO(fit:bc rs){c j:Nat}(e:bC rs c=j)(h:j<rs.length+1)(B:c<rs.length+2):c<=rs.length:=by
 by_cases z:c=rs.length+1
 .rw[z,dU fit]at e;omega
 omega
theorem Hj(fit:bc rs){x y:Nat}(J1:x<y)(hy:y<2*rs.length+2)(H:IH rs x y):∃p q,x=2*p/\y+1=2*q/\Wh (aw rs) p q:=by
 have fl:=aW rs;by_cases xe:x%2=0
 .obtain⟨p,rfl⟩:∃p,x=2*p:=⟨x/2,by omega⟩
  obtain⟨a,O,L,al⟩:=kJ fit (j:=p) (by omega);by_cases ye:y%2=0
  .exfalso;obtain⟨q,rfl⟩:∃q,y=2*q:=⟨y/2,by omega⟩
   obtain⟨b,M,J,bl⟩:=kJ fit (j:=q) (by omega);have b1:=kK fit J (by omega);have b2:=rO fit J (by omega) bl;have ab:a≠b:=λz=>by rw[z,J]at L;omega
   have np:∀c,1<=c->c<=rs.length->c≠a->NP rs (2*p) (2*q) c:=λc D B h3=>xK fit D B (λz=>h3 (fI fit (by omega) (by omega) (by rw[L];omega))) (by omega);obtain⟨z,z1,z2⟩:=Bm fit b1 b2;rw[J]at z;have rb:2*p<=pA rs b/\pA rs b<=2*q:=by omega
   rcases RY ab with h|h
   .have:=kI fit H ((H b (by omega)).mp rb) b2 λc D B=>np c (by omega) B (by omega);omega
   have:=l7 fit H rb b2 λc D B=>np c D (by omega) (by omega);have:p=0:=by omega
   rw[this]at L O;rw[bV]at O;have:(0:Int)=a:=O;omega
  obtain⟨q,hq⟩:∃q,y+1=2*q:=⟨(y+1)/2,by omega⟩
  refine⟨p,q,rfl,hq,?_⟩;obtain⟨b,M,J,bl⟩:=kJ fit (j:=q) (by omega);have b1:=kK fit J (by omega);have an:=rO fit L (by omega) al;have ab:a≠b:=λz=>by rw[z,J]at L;omega
  have np:∀c,1<=c->c<=rs.length->c≠a->c≠b->NP rs (2*p) y c:=λc D B h3 h4=>xK fit D B (λz=>h3 (fI fit (by omega) (by omega) (by rw[L];omega))) (λz=>h4 (fI fit (by omega) (by omega) (by rw[J];omega)));have top:y=2*rs.length+1->b=rs.length+1/\¬(aw rs).getD q 0<0:=λz=>by
   have e:q=rs.length+1:=by omega
   subst e;rw[cv]at M⊢;unfold aE at M;rw[UX (by omega)]at M;omega
  have bot:2*p=0->a=0/\¬(aw rs).getD p 0<0:=λz=>by
   have e:p=0:=by omega
   subst e;rw[bV]at O⊢;have:(0:Int)=a:=O;exact⟨by omega,by decide⟩
  have xF:∀j,p<j->j<q->∀c:Nat,aE ((aw rs).getD j 0)=c->1<=c/\c<=rs.length/\c≠a/\c≠b/\(2*p<=pA rs c/\pA rs c<=y):=λj D B c hc=>by
   have pc:=fH fit (show j<rs.length+2 by omega) hc;have c1:=kK fit pc (by omega);have c2:c<=rs.length:=by
    have:=eX fit (show j<rs.length+2 by omega);by_cases z:c=rs.length+1
    .rw[z,dU fit]at pc;omega
    omega
   obtain⟨z,z1,z2⟩:=Bm fit c1 c2;rw[pc]at z;exact⟨c1,c2,λe=>by rw[e,L]at pc;omega,λe=>by rw[e,J]at pc;omega,by omega⟩
  have plc:∀c,c<=rs.length->(2*p<=pA rs c/\pA rs c<=y)->p<=bC rs c/\bC rs c<=q:=λc D B=>by
   have:=(dX fit (show c<rs.length+1 by omega)).1;omega
  by_cases sp:(aw rs).getD p 0<0
  ·-- a minus ahead
   have p1:=cE (by omega) sp;have a1:=kK fit L (by omega);obtain⟨z,_,_⟩:=Bm fit a1 an;rw[L]at z;have za:pA rs a=2*p-1/\pB rs (a-1)=2*p:=by
    rcases z with⟨z1,z2,z3⟩|⟨z1,z2,z3⟩
    .exact⟨z1,z2⟩
    exact U4 sp z3
   have ra:2*p<=pA rs (a-1)/\pA rs (a-1)<=y:=(H (a-1) (by omega)).mpr (by omega);have lt:b<a:=by
    rcases RY ab with h|h
    .have:=l7 fit H ra (by omega) λc D B=>np c D (by omega) (by omega) (by omega);have:=bot this;omega
    exact h
   obtain⟨w,_,_⟩:=Bm fit b1 (by omega);rw[J]at w;have rb:2*p<=pA rs b/\pA rs b<=y:=by
    have:=LI H (a-1-b) (a-1) ra (λc D B=>np c (by omega) (by omega) (by omega) (by omega)) (by omega) (by omega);rwa[show a-1-(a-1-b)=b by omega]at this
   have sq:(aw rs).getD q 0<0:=by
    rcases w with⟨w1,w2,w3⟩|⟨w1,w2,w3⟩
    .exact w3
    omega
   have cin:∀c,1<=c->c<=rs.length->c≠a->c≠b->(2*p<=pA rs c/\pA rs c<=y)->b<c/\c<a:=λc D B h3 h4 h5=>by
    by_cases g1:a<c
    .have:=kI fit H ((H c (by omega)).mp h5) B λV l1 l2=>np V (by omega) l2 (by omega) (by omega);have:=top (by omega);exact U4 sq this.2
    by_cases g2:c<b
    .have:=l7 fit H h5 B λV l1 l2=>np V l1 (by omega) (by omega) (by omega);have:=bot this;omega
    omega
   have am:∀j,cW (aw rs) p j=- aE ((aw rs).getD j 0):=λj=>by unfold cW;rw[UZ sp]
   have vp:(aw rs).getD p 0=-(a:Int):=by unfold aE at O;rw[UZ sp]at O;omega
   have vq:(aw rs).getD q 0=-(b:Int):=by unfold aE at M;rw[UZ sq]at M;omega
   have Z:∀j,p<=j->j<=q->(b:Int)<=aE ((aw rs).getD j 0)/\aE ((aw rs).getD j 0)<=a:=λj D B=>by
    by_cases e1:j=p
    .rw[e1,O];omega
    by_cases e2:j=q
    .rw[e2,M];omega
    obtain⟨c,hc,pc,cl'⟩:=kJ fit (j:=j) (by omega);obtain⟨c1,c2,c3,c4,c5⟩:=xF j (by omega) (by omega) c hc;have:=cin c c1 c2 c3 c4 c5;rw[hc];omega
   have cnt:=xM fit (p:=p) (q:=q) (a:=b) (b:=a) (by omega) (by omega) (by omega) (by omega) Z λc D B=>by
    by_cases e1:c=a
    .rw[e1,L];omega
    by_cases e2:c=b
    .rw[e2,J];omega
    have:=LI H (a-1-c) (a-1) ra (λV l1 l2=>np V (by omega) (by omega) (by omega) (by omega)) (by omega) (by omega);rw[show a-1-(a-1-c)=c by omega]at this;exact plc c (by omega) this
   refine⟨by omega,by omega,λj D B=>?_,by rw[am,M,vq],by rw[vp,vq];omega⟩;have:=Z j (by omega) B;rw[am,vp,vq];omega
  -- no minus ahead
  have vp:(aw rs).getD p 0=(a:Int):=by unfold aE at O;rw[UX sp]at O;exact O
  have za:pA rs a=2*p:=by
   unfold pA;rw[L,UX sp]
  have la:2*p<=pB rs a/\pB rs a<=y:=(H a (by omega)).mp (by omega);have lt:a<b:=by
   rcases RY ab with h|h
   .exact h
   have:=kI fit H la an λc D B=>np c (by omega) B (by omega) (by omega);have:=top (by omega);omega
  have lb:2*p<=pB rs (b-1)/\pB rs (b-1)<=y:=by
   have:=Dd H (b-1-a) a la (λc D B=>np c (by omega) (by omega) (by omega) (by omega)) (by omega);rwa[show a+(b-1-a)=b-1 by omega]at this
  have sq:¬(aw rs).getD q 0<0:=λs=>by
   have q1:=cE (by omega) s;have b2:=rO fit J (by omega) bl;obtain⟨w,_,_⟩:=Bm fit b1 b2;rw[J]at w;rcases w with⟨w1,w2,w3⟩|⟨w1,w2,w3⟩
   .omega
   exact w3 s
  have vq:(aw rs).getD q 0=(b:Int):=by unfold aE at M;rw[UX sq]at M;exact M
  have cin:∀c,1<=c->c<=rs.length->c≠a->c≠b->(2*p<=pA rs c/\pA rs c<=y)->a<c/\c<b:=λc D B h3 h4 h5=>by
   by_cases g1:b<c
   .have:=kI fit H ((H c (by omega)).mp h5) B λV l1 l2=>np V (by omega) l2 (by omega) (by omega);have:=top (by omega);omega
   by_cases g2:c<a
   .have:=l7 fit H h5 B λV l1 l2=>np V l1 (by omega) (by omega) (by omega);have:=bot this;omega
   omega
  have am:∀j,cW (aw rs) p j=aE ((aw rs).getD j 0):=λj=>by unfold cW;rw[UX sp]
  have Z:∀j,p<=j->j<=q->(a:Int)<=aE ((aw rs).getD j 0)/\aE ((aw rs).getD j 0)<=b:=λj D B=>by
   by_cases e1:j=p
   .rw[e1,O];omega
   by_cases e2:j=q
   .rw[e2,M];omega
   obtain⟨c,hc,pc,cl'⟩:=kJ fit (j:=j) (by omega);obtain⟨c1,c2,c3,c4,c5⟩:=xF j (by omega) (by omega) c hc;have:=cin c c1 c2 c3 c4 c5;rw[hc];omega
  have cnt:=xM fit (p:=p) (q:=q) (a:=a) (b:=b) (by omega) (by omega) (by omega) (by omega) Z λc D B=>by
   by_cases e1:c=a
   .rw[e1,L];omega
   by_cases e2:c=b
   .rw[e2,J];omega
   have:=Dd H (c-a) a la (λV l1 l2=>np V (by omega) (by omega) (by omega) (by omega)) (by omega);rw[show a+(c-a)=c by omega]at this;exact plc c (by omega) ((H c (by omega)).mpr this)
  refine⟨by omega,by omega,λj D B=>?_,by rw[am,M,vq],by rw[vp,vq];omega⟩;have:=Z j (by omega) B;rw[am,vp,vq];omega
 exfalso;obtain⟨p,hp⟩:∃p,x+1=2*p:=⟨(x+1)/2,by omega⟩
 obtain⟨a,O,L,al⟩:=kJ fit (j:=p) (by omega);have a1:=kK fit L (by omega);have a2:=rO fit L (by omega) al;obtain⟨z,_,_⟩:=Bm fit a1 a2;rw[L]at z;have ra:x<=pA rs a/\pA rs a<=y:=by omega
 by_cases ye:y%2=0
 .have:=l7 fit H ra a2 λc D B=>xK fit D (by omega) (by omega) (by omega);omega
 obtain⟨q,hq⟩:∃q,y+1=2*q:=⟨(y+1)/2,by omega⟩
 obtain⟨b,M,J,bl⟩:=kJ fit (j:=q) (by omega);have ab:a≠b:=λz=>by rw[z,J]at L;omega
 have np:∀c,1<=c->c<=rs.length->c≠b->NP rs x y c:=λc D B h4=>xK fit D B (by omega) (λz=>h4 (fI fit (by omega) (by omega) (by rw[J];omega)));rcases RY ab with h|h
 .have:=l7 fit H ra a2 λc D B=>np c D (by omega) (by omega);omega
 have:=kI fit H ((H a (by omega)).mp ra) a2 λc D B=>np c (by omega) B (by omega);have e:q=rs.length+1:=by omega
 subst e;rw[dU fit |>.symm]at J;have:=fI fit (by omega) (by omega) J;omega
end
noncomputable def dN(rs:List Int)(k:Nat):Nat:=min (pA rs k) (pB rs k)
noncomputable def fG(rs:List Int)(k:Nat):Nat:=max (pA rs k) (pB rs k)
def vN(rs:List Int)(k l:Nat):Prop:=(dN rs k<dN rs l/\dN rs l<fG rs k/\fG rs k<fG rs l)\/(dN rs l<dN rs k/\dN rs k<fG rs l/\fG rs l<fG rs k)
inductive Co (rs:List Int):Nat->Nat->Prop
 |refl (k:Nat):Co rs k k
 |step {k l m:Nat} (h:Co rs k l) (hl:l<rs.length+1) (hm:m<rs.length+1) (c:vN rs l m):Co rs k m
section
variable {rs:List Int}
theorem vN.symm{k l:Nat}(h:vN rs k l):vN rs l k:=h.elim .inr .inl
theorem Co.trans{k l m:Nat}(h:Co rs k l)(g:Co rs l m):Co rs k m:=by
 induction g with
 |refl=>exact h
 |step _ z B c D=>exact .step D z B c
theorem Co.symm{k l:Nat}(h:Co rs k l):Co rs l k:=by
 induction h with
 |refl=>exact .refl _
 |step _ z B c D=>exact(Co.step (.refl _) B z c.symm).trans D
theorem Co.lt{k l:Nat}(h:Co rs k l)(z:k<rs.length+1):l<rs.length+1:=by
 cases h with
 |refl=>exact z
 |step _ _ B _=>exact B
theorem dY(fit:bc rs){k:Nat}(z:k<rs.length+1):∃c d,Own (aw rs) (pA rs k/2) c d/\Own (aw rs) (pB rs k/2) c d/\2*c<=dN rs k/\fG rs k<2*d:=by
 have g:=iu fit _ (Pj (fY z));have L:0<=cV rs k/\cV rs k<((rs.length+1:Nat):Int):=g.1;have M:0<=dv rs (k+1)/\dv rs (k+1)<((rs.length+1:Nat):Int):=g.2;have H:=Nf fit z;have J:=Ng fit z;obtain⟨c,d,o⟩:=eK fit (g:=(cV rs k).toNat) (by omega);obtain⟨D,d',B⟩:=eK fit (g:=(dv rs (k+1)).toNat) (by omega);have e:=DX fit z;rw[de o,de B]at e;have e1:c=D:=by have:=congrArg Qm e;have:(c:Int)=D:=this;omega
 have e2:d=d':=by have:=congrArg Rx e;have:(d:Int)=d':=this;omega
 subst e1 e2;rw[H,J];refine⟨c,d,o,B,?_,?_⟩
 .have:=o.le;have:=B.le;unfold dN;omega
 have:=o.lt;have:=B.lt;unfold fG;omega
noncomputable def pK(rs:List Int)(k:Nat):Int×Int:=ow (aw rs) (pA rs k/2)
theorem Hk(fit:bc rs){k l:Nat}(O:k<rs.length+1)(V:l<rs.length+1)(h:vN rs k l):pK rs k=pK rs l:=by
 obtain⟨a,b,B,M,D,H⟩:=dY fit O;obtain⟨c,d,z,Z,J,L⟩:=dY fit V;unfold pK;rw[de B,de z];have out:∀{a b c d:Nat}{x:Nat},Own (aw rs) (x/2) a b->Kn (aw rs) c d->a<c->¬(2*c<=x/\x<2*d):=λ{a b c d x} o kn lt ⟨h1,h2⟩=>by
  have:=o.top c d kn (by omega) (by omega);omega
 have key:∀{a b c d k l:Nat},Own (aw rs) (pA rs k/2) a b->Own (aw rs) (pB rs k/2) a b->2*a<=dN rs k->fG rs k<2*b->Own (aw rs) (pA rs l/2) c d->2*c<=dN rs l->fG rs l<2*d->vN rs k l->¬a<c:=λ{a b c d k l} B M D H z J L h lt=>by
  have n1:=out B z.kn lt;have n2:=out M z.kn lt;have t:=lZ fit B.kn z.kn lt;unfold vN dN fG at h;unfold dN at D J;unfold fG at H L;omega
 have e:a=c:=by
  have h1:=key B M D H z J L h;have h2:=key z Z J L B D H h.symm;omega
 subst e;rw[dW B.kn z.kn]
theorem Bp(fit:bc rs){k l:Nat}(h:Co rs k l):pK rs k=pK rs l:=by
 induction h with
 |refl=>rfl
 |step _ z B c D=>exact D.trans (Hk fit z B c)
theorem rP{P:Nat->Prop}:∀x,P x->∃x,P x/\∀y,P y->x<=y:=λx=>by
 induction x using Rz with
 |_ x D =>
  intro h;by_cases c:∃y,P y/\y<x
  .obtain⟨y,B,lt⟩:=c;exact D y lt B
  exact⟨x,h,λy B=>Pa λz=>c ⟨y,B,by omega⟩⟩
theorem vO{P:Nat->Prop}{N:Nat}(b:∀x,P x->x<=N){x:Nat}(h:P x):∃x,P x/\∀y,P y->y<=x:=by
 obtain⟨d,⟨y,B,H⟩,D⟩:=rP (P:=λd=>∃y,P y/\d=N-y) (N-x) ⟨x,h,rfl⟩;refine⟨y,B,λz hz=>?_⟩;have:=D (N-z) ⟨z,hz,rfl⟩;have:=b y B;have:=b z hz;omega
def bW(rs:List Int)(k x:Nat):Prop:=x=pA rs k\/x=pB rs k
theorem kL(fit:bc rs){k l x:Nat}(z:k<rs.length+1)(B:l<rs.length+1)(h:bW rs k x)(g:bW rs l x):k=l:=by
 rcases h with h|h <;> rcases g with g|g
 .exact Bn fit z B (h.symm.trans g)
 .exact U4 (h.symm.trans g) (oI fit z B)
 .exact U4 (g.symm.trans h) (oI fit B z)
 exact Bo fit z B (h.symm.trans g)
theorem Bq{k x:Nat}(h:bW rs k x):dN rs k<=x/\x<=fG rs k:=by
 unfold dN fG;rcases h with h|h <;> omega
theorem xN(fit:bc rs){k c d:Nat}(O:k<rs.length+1)(ho:Own (aw rs) (pA rs k/2) c d):∃l,Co rs k l/\bW rs l (2*c):=by
 let P:Nat->Prop:=λx=>∃l,Co rs k l/\bW rs l x
 have bd:∀x,P x->x<=2*rs.length+1:=λx ⟨l,Z,h2⟩=>by
  have B:=Z.lt O;rcases h2 with h|h
  .have:=(dX fit B).2;omega
  have:=(fm fit B).2;omega
 have P0:P (pA rs k):=⟨k,.refl k,.inl rfl⟩
 obtain⟨x,⟨lx,L,ex⟩,mn⟩:=rP (P:=P) _ P0;obtain⟨y,⟨ly,cy,ey⟩,mx⟩:=vO bd P0;have D:∀l,Co rs k l->x<=dN rs l/\fG rs l<=y:=λl h=>by
  have Z:=mn _ ⟨l,h,.inl rfl⟩;have h2:=mn _ ⟨l,h,.inr rfl⟩;have h3:=mx _ ⟨l,h,.inl rfl⟩;have h4:=mx _ ⟨l,h,.inr rfl⟩;unfold dN fG;omega
 have V:∀l,l<rs.length+1->dN rs l<fG rs l:=λl B=>by
  have:=oI fit B B;unfold dN fG;omega
 have J1:x<y:=by
  have:=D k (.refl k);have:=V k O;omega
 have cover:∀z,x<z->z<y->¬P z->∃l,Co rs k l/\dN rs l<z/\z<fG rs l:=λz Z h2 M=>Pa λno=>by
  have side:∀l,Co rs k l->fG rs l<z\/z<dN rs l:=λl h=>by
   have n1:pA rs l≠z:=λe=>M ⟨l,h,.inl e.symm⟩;have n2:pB rs l≠z:=λe=>M ⟨l,h,.inr e.symm⟩;have n3:¬(dN rs l<z/\z<fG rs l):=λq=>no ⟨l,h,q⟩;unfold dN fG at *;omega
  have all:∀l,Co rs lx l->fG rs l<z:=λl h=>by
   induction h with
   |refl =>
    have:=Bq ex;rcases side lx L with q|q <;> omega
   | @step l m h B H c ih =>
    rcases side m (L.trans (.step h B H c))with q|q
    .exact q
    unfold vN at c;omega
  have:=all ly (L.symm.trans cy);have:=Bq ey;omega
 have cl:IH rs x y:=λm H=>by
  by_cases cm:Co rs k m
  .have:=D m cm;unfold dN fG at this;omega
  have one:∀z J,bW rs m z->bW rs m J->z≠J->x<=z->z<=y->x<=J/\J<=y:=λz J e e' ne Z h2=>Pa λno=>by
   have M:¬P z:=λ⟨l,B,q⟩=>cm (by rw[kL fit H (B.lt O) e q];exact B);have zx:z≠x:=λq=>M ⟨lx,L,by rw[q];exact ex⟩;have zy:z≠y:=λq=>M ⟨ly,cy,by rw[q];exact ey⟩;obtain⟨l,B,l1,l2⟩:=cover z (by omega) (by omega) M;have:=D l B;refine cm (.step B (B.lt O) H ?_);unfold vN;have em:(dN rs m=z/\fG rs m=J)\/(dN rs m=J/\fG rs m=z):=by
    unfold dN fG;rcases e with e|e <;> rcases e' with e'|e' <;> omega
   have:=V m H;omega
  have ne:=oI fit H H;constructor
  .intro q;exact one _ _ (.inl rfl) (.inr rfl) ne q.1 q.2
  intro q;exact one _ _ (.inr rfl) (.inl rfl) (Ne.symm ne) q.1 q.2
 have LJ:=bd y ⟨ly,cy,ey⟩;obtain⟨p,q,rfl,hq,W⟩:=Hj fit J1 (by omega) cl;have own:∀{l z:Nat},Co rs k l->bW rs l z->Own (aw rs) (z/2) c d:=λ{l z} h e=>by
  have B:=h.lt O;obtain⟨a,b,o1,o2,_⟩:=dY fit B;have z1:=Bp fit h;unfold pK at z1;rw[de ho,de o1]at z1;have e1:c=a:=by have:=congrArg Qm z1;have:(c:Int)=a:=this;omega
  have e2:d=b:=by have:=congrArg Rx z1;have:(d:Int)=b:=this;omega
  subst e1 e2;rcases e with rfl|rfl
  .exact o1
  exact o2
 have ox:=own L ex;have oy:=own cy ey;rw[show 2*p/2=p by omega]at ox;obtain⟨e,ke⟩:=oz q W;have le:e<=q:=Pa λz=>ke.2 q (by omega) W;have t:=ox.top p e ke (O5 _) ke.1.lt;have:=ox.le;have e1:c=p:=by omega
 exact⟨lx,L,by rw[e1];exact ex⟩
theorem Hl(fit:bc rs){k l:Nat}(z:k<rs.length+1)(B:l<rs.length+1)(h:pK rs k=pK rs l):Co rs k l:=by
 obtain⟨c,d,D,_⟩:=dY fit z;obtain⟨H,d',J,_⟩:=dY fit B;unfold pK at h;rw[de D,de J]at h;have e1:c=H:=by have:=congrArg Qm h;have:(c:Int)=H:=this;omega
 subst e1;obtain⟨m,L,O⟩:=xN fit z D;obtain⟨n,M,V⟩:=xN fit B J;have:=kL fit (L.lt z) (M.lt B) O V;subst this;exact L.trans M.symm
theorem vP(fit:bc rs){k l:Nat}(z:k<rs.length+1)(B:l<rs.length+1):Co rs k l↔pK rs k=pK rs l:=⟨Bp fit,Hl fit z B⟩
end
end ay
namespace Ag
open PySem PySem.Spec PyProof.Rows
section
variable {prog:U8}{w:Va}{A:Vh}{E:UW->U2->Prop}{s:U2}{R:Yq->U2->Prop}
theorem vQ(d:U0)(hd:(d==Vr)=false):YI prog w (Builtin.«dict.values» ⟨[.ref d],[]⟩) (λ_ R s=>s.TypeIs (.ref d) "dict"/\R (.ok (.ret (.ref s.heap.objs.size))) { s with heap:=s.heap.push { cls:=.type "dict_values",data:=.fields #[.ref d] } }):=
 .of_wp λA R s ⟨z,h⟩=>by
  refine UR ?_;unfold Builtin.Dict.noArgs;refine UR (VS z ?_);show wpAny _ _ (pure d) _ _ s;refine UY ?_;show wpAny _ _ (Builtin.Dict.showsAll d >>= _) _ _ s;unfold Builtin.Dict.showsAll;rw[UX (by rw[hd];exact Pq)];exact UR (UY (UR (Vg (UY ⟨_,rfl,h⟩))))
def DE(h:Vi)(d:U0)(z:Array V0)(ep:Nat):Prop:=∃o,h.get? d=YN o/\o.data=.dict z ep
end
end Ag
namespace L2
open PySem PySem.Spec PyProof.Rows Ag
section
variable {X:Cx}
theorem jO{α β:Type}{F:α->β->Prop}:∀{l:List α}{m:List β}{i:Nat}{a:α}{b:β},Paired F l m->l[i]?=YN a->m[i]?=YN b->F a b
 |_,_,0,_,_,.cons h _,e1,e2=>by cases e1;cases e2;exact h
 |_,_,i+1,_,_,.cons _ r,e1,e2=>jO r (i:=i) (by simpa using e1) (by simpa using e2)
end
open PySem.W
section
variable {X:Cx}{pins:List (U0×VH)}{σ:St}{H:Hp}{s:U2}{a:U0}{kvs:List (Key×V)}{k:Key}{u r:UW}{A:Vh}{E:UW->U2->Prop}
theorem Br{x:V}{Q:UW->U2->Prop}(I:Inv X pins σ H s)(e:H a=YN (.dK kvs))(L:RelV (kV k) u)(M:RelV x r)(l:kvs.length<U7)
  (O:∀y w' s',bA kvs k=YN y->Inv X pins σ H s'->RelV y w'->Q w' s')
  (Z:∀s',bA kvs k=none->Inv X pins σ (upd H a (.dK (putK kvs k x))) s'->Q r s'):wpAny (model X.prog X.w) A (call (.builtin "dict.setdefault") [.ref a,u,r]) Q E s:=by
 obtain⟨z,hd,vs,B,J⟩:=tK I.bj e;refine WQ Rb J.typeIs Sk (Sg _ _ _) (kt_meets_setdefault (aZ X.prog X.w) a (qq L) hd r)
  ⟨vs,J,by rw[<-B.length];exact z,λw' hw=>?_,λhn h' D hs=>Z _ ?_ ?_⟩
 .cases q:bA kvs k with
  |none=>have:=B.val k;rw[q,hw]at this;exact U4 this (λz=>nomatch z)
  |some y=>have:=B.val k;rw[q,hw]at this;exact O y w' _ q (I.tok _) this
 .cases q:bA kvs k with
  |none=>rfl
  |some y=>have:=B.val k;rw[q,hn]at this;exact U4 this (λz=>nomatch z)
 have he:∃q,h'.get? a=YN q:=let⟨q,_,_,hq,_⟩:=D;⟨q,hq⟩
 have hl:(putK kvs k x).length<=sizeLine:=by have:=bU kvs k x;omega
 exact jq I (by rw[e];exact True.intro) hs he (AD hl hd (B.put k M) D)
end
def J2(J ty tx:TE):TE:=λσ H Q=>J σ H λx D=>∃a,x=.ref a/\MS D a/\ty σ D λy L=>tx σ L λz B=>∃kvs k,B a=YN (.dK kvs)/\y=kV k/\kvs.length<U7 /\
 (∀v,bA kvs k=YN v->Q v B)/\(bA kvs k=none->Q z (upd B a (.dK (putK kvs k z))))
section
variable {X:Cx}{o e f:Vk}{apos gT:WG}{td ty tx:TE}
theorem rQ(O:PE X o td)(V:PE X e ty)(Z:PE X f tx)(m:M2 X o "setdefault" apos e f gT):PE X (.Call (.Attribute o "setdefault" apos) [e,f] [] gT) (J2 td ty tx):=by
 intro pins s σ H Q I h;refine X4 m.base m.few m.line Rr Rb Ss (bR (O pins s σ H _ I h) λu s1 B=>?_);obtain⟨x,H1,L,rx,a,ex,d,q1⟩:=B;subst ex;obtain rfl:u=Value.ref a:=rx;obtain⟨t1,t2,_⟩:=AI L d;refine⟨t1,t2,?_⟩;rw[m.trees];refine Calls.callWith_builtin rfl (Calls.evalArgs_plain (Calls.spliced_cons (bR (V pins s1 σ H1 _ L q1) λiv s2 ⟨y,H2,I2,ry,q2⟩ =>
  Calls.spliced_cons (bR (Z pins s2 σ H2 _ I2 q2) λfv s3 B=>Calls.spliced_nil ?_))))
 obtain⟨z,H3,I3,M,kvs,k,ea,ey,el,q3,q4⟩:=B;subst ey;exact Br I3 ea ry M el (λy w' s4 hy D J=>⟨y,H3,D,J,q3 y hy⟩) λs4 hn D=>⟨z,_,D,M,q4 hn⟩
end
section
variable {X:Cx}
theorem KV.FI:∀{kvs:List (Key×V)}{vs:List (Key×UW)}{i:Nat}{a:Key×V}{b:Key×UW},KV kvs vs->kvs[i]?=YN a->vs[i]?=YN b->a.1=b.1/\RelV a.2 b.2:=by
 intro kvs vs i a b h e1 e2;unfold KV at h;exact jO (F:=λ(p:Key×V) (q:Key×UW)=>p.1=q.1/\RelV p.2 q.2) h e1 e2
theorem DY{P:U8}{w:Va}{k:Key}{v:UW}(h:(aZ P w).is k v=true):RelV (kV k) v:=by
 cases k with
 |inl i=>exact Value.isInt_shape h
 |inr x=>exact Value.isStrOf_shape h
theorem rR(hc:X.calm=true):cO X (.type "list") (λxs H Q=>∃d kvs,xs=[.ref d]/\H d=YN (.dK kvs)/\∀l,H l=none->Q (.ref l) (upd H l (.lst (kvs.map λL=>kV L.1)))):=by
 intro pins s σ H xs us Q I r h;obtain⟨d,kvs,rfl,hd,q⟩:=h;obtain⟨u,rfl,ru⟩:=r.one;cases ru;obtain⟨z,lo,vs,D,dd⟩:=tK I.bj hd;obtain⟨ep,M⟩:=dd.dictAt;have hlen:kvs.length=vs.length:=D.length;refine kdl_call (kdl_dict (knd:=aZ X.prog X.w) (kvs:=vs) (ep:=ep) lo) (I.ok.hd hc) M (by rw[<-hlen];exact z) λh' tk J c' hk O B=>?_;refine⟨.ref _,_,I.laid (a:=s.heap.objs.size) (o:=.lst (kvs.map λL=>kV L.1)) (t':=tk) hk (O5 _) ⟨by rw[O3];exact z,J.toList,c',?_,by simpa using O⟩,rfl,q _ (I.bj.fresh (O5 _))⟩;refine gw (by rw[O3,hlen];exact(by simpa using B.1.symm)) λi x v Z e7=>?_;obtain⟨k,y,e8,V⟩:=B.2 i v (by simpa using e7);rw[O7]at Z;obtain⟨L,e9,rfl⟩:=Pl.mp Z;have:=(KV.FI D e9 e8).1;rw[this];exact DY V
end
section
variable {X:Cx}{pins:List (U0×VH)}{σ:St}{H:Hp}{s:U2}{a:U0}{u:HO}
theorem Inv.J3(I:Inv X pins σ H s){kvs:List (Key×V)}(e:H a=YN (.dK kvs)):∃o,s.heap.get? a=YN o/\Inv X pins σ (upd H a (.gQ o (.dK kvs))) s:=by
 have J:Gv (H a):=by rw[e];exact True.intro
 obtain⟨z,lo,vs,D,o,L,ep,B,M⟩:=tK I.bj e;exact⟨o,B,I.write (x:=a) (e:=a) (t':=s.toks) J (.inl rfl) (λb q O z=>z) ⟨o,B⟩ ⟨B,z,lo,vs,D,o,L,ep,B,M⟩⟩
noncomputable def Hm(d:U0)(o:VH)(kvs:List (Key×V)):It :=
 ⟨λi H=>i<kvs.length/\H d=YN (.gQ o (.dK kvs)),λi H x z=>z=H/\(kvs.map (·.2))[i]?=YN x,λi H=>kvs.length<=i/\H d=YN (.gQ o (.dK kvs))⟩
theorem yY{P:U8}{w:Va}{K:Pc}{tg:Vk}(d M:U0)(o:VH)(kvs:List (Key×V))(ep:Nat)(B:∃es,o.data=.dict es ep):Turn P w K tg (Hm d o kvs) [M] M (λi h=>i<=kvs.length/\h.IsValIter M d i kvs.length ep) where
 mem:=by simp
 obj:=λi h st b O=>by
  have e:b=M:=by simpa using O
  subst e;obtain⟨_,o,e,c,d⟩:=st;exact⟨o,e,λv z=>by rw[d]at z;cases z⟩
 keep:=λi h h' st k=>⟨st.1,st.2.at λo e=>k M (by simp) o e⟩
 item:=by
  intro X hP hw hK hc i pins s σ H E I hf st hg;subst hP hw hK;obtain⟨hi,hd⟩:=hg;obtain⟨ho,z,lo,vs,L,od,es,D,Z,h2,h3,h4⟩:=(show bq X.prog X.w H s.heap d (.gQ o (.dK kvs))from I.bj d _ hd)
  obtain⟨f0,f1,f2,f3,f4,f5⟩:=hf M (by simp);have e1:od=o:=by rw[ho]at Z;exact(Option.some.inj Z).symm
  obtain⟨es0,B⟩:=B;have e2:D=ep:=by rw[e1,B]at h3;cases h3;rfl
  subst e2;have II:s.heap.DictAt (aZ X.prog X.w) d vs D:=⟨od,es,Z,h2,h3,h4⟩
  have hl:kvs.length=vs.length:=L.length;have hx:vs[i]?=YN (vs[i]'(by omega)):=O1 (by omega);have LK:kvs[i]?=YN (kvs[i]'hi):=O1 hi;have J:=st.2;rw[hl]at J;refine wpAny_pyNext_values_item (k:=(vs[i]'(by omega)).1) (v:=(vs[i]'(by omega)).2) J II hx λh' Nh sb=>?_;have I1:Inv X pins σ H { s with heap:=h' }:=I.turned (t':=s.toks) (λb o O e=>(sb.2 b O).trans e) f0 f1 f3 f4 f5;rw[<-hl]at Nh;obtain⟨o',e,c,d'⟩:=id Nh;exact⟨_,rfl,qd (s:={ s with heap:=h' }) e c d' (by decide) ⟨(kvs[i]'hi).2,H,I1,(KV.FI L LK hx).2,⟨rfl,by rw[O7,LK];rfl⟩,⟨hi,Nh⟩,λb O=>(hf b O).1⟩⟩
 done:=by
  intro X hP hw hK hc i pins s σ H E I hf st hg;subst hP hw hK;obtain⟨hi,hd⟩:=hg;obtain⟨ho,z,lo,vs,L,od,es,D,Z,h2,h3,h4⟩:=(show bq X.prog X.w H s.heap d (.gQ o (.dK kvs))from I.bj d _ hd)
  obtain⟨f0,f1,f2,f3,f4,f5⟩:=hf M (by simp);have e1:od=o:=by rw[ho]at Z;exact(Option.some.inj Z).symm
  obtain⟨es0,B⟩:=B;have e2:D=ep:=by rw[e1,B]at h3;cases h3;rfl
  subst e2;have II:s.heap.DictAt (aZ X.prog X.w) d vs D:=⟨od,es,Z,h2,h3,h4⟩
  have hl:kvs.length=vs.length:=L.length;have J:=st.2;have e3:i=vs.length:=by have:=st.1;omega
  rw[hl,e3]at J;exact wpAny_pyNext_values_end (I.ok.hd hc) J II (by simp) λh' eb=>⟨rfl,I.turned (t':=s.toks) (λb o O e=>eb b o O e) f0 f1 f3 f4 f5⟩
 self:=λ_ _ _ _ _ st h=>wpAny_pyIter_valiter st.2 h
end
section
variable {X:Cx}
noncomputable def J4(to:TE):TI:=λσ H R=>to σ H λv z=>∃d kvs,v=.ref d/\z d=YN (.dK kvs)/\∀o,R (Hm d o kvs) (upd z d (.gQ o (.dK kvs)))
theorem DZ{o tg:Vk}{to:TE}{pos' ap:WG}(ho:PE X o to)(D:VW o "values" X.env (eval o X.env)=eval o X.env:=by rfl)(J:(ap.endLine==pos'.line)=true:=by rfl) :
  PI X tg (.Call (.Attribute o "values" ap) [] [] pos') (J4 to):=by
 intro pins s σ H R I h;refine Wg D J (bR (ho pins s σ H _ I h) λv B zq=>?_);obtain⟨x,H1,M,r1,d,kvs,ex,hd,q⟩:=zq;subst ex;obtain⟨O,h2⟩:=rC (T:="dict") M r1 (.inr (.inr (.inl ⟨rfl,.inl ⟨kvs,hd⟩⟩)));cases(show v=Value.ref d from r1);obtain⟨ob,V,I2⟩:=M.J3 hd;obtain⟨z,lo,vs,Z,dd⟩:=tK M.bj hd;obtain⟨L,es,ep,g1,g2,g3,g4⟩:=id dd;have e1:L=ob:=by rw[V]at g1;exact(Option.some.inj g1).symm
 subst e1;have II:B.heap.DictAt (aZ X.prog X.w) d vs ep:=⟨L,es,g1,g2,g3,g4⟩
 have hl:kvs.length=vs.length:=Z.length;refine⟨"dict","dict.values",Rr,SQ,PySem.F.type_dict_values,O,h2,Calls.callWith_builtin rfl (PySem.evalArgs_none ?_)⟩;refine WQ SQ O PySem.F.entry_dict_values (PySem.F.args_dict_values_1 _) (Ag.vQ d lo) ⟨O,?_⟩;have hv:(B.heap.push { cls:=.type "dict_values",data:=.fields #[.ref d] }).IsValuesView B.heap.objs.size d:=⟨_,Pm _ rfl,rfl,rfl⟩
 refine wpAny_pyIter_values (s:={ B with heap:=B.heap.push { cls:=.type "dict_values",data:=.fields #[.ref d] } }) hv (II.push _) ?_;have I3:Inv X pins σ (upd H1 d (.gQ L (.dK kvs))) { B with heap:=B.heap.push { cls:=.type "dict_values",data:=.fields #[.ref d] } }:=I2.kept (t':=B.toks) λb o e=>O8 _ e;refine⟨_,[_],_,_,_,rfl,I3.kept (t':=B.toks) λb o e=>O8 _ e,yY d _ L kvs ep ⟨es,g3⟩,⟨Qb _,?_⟩,λb hb=>?_,q L⟩
 .rw[hl];exact⟨_,Pm _ rfl,rfl,rfl⟩
 have e:=O4.mp hb;subst e;exact I3.mT (O5 _) (I3.bj.fresh (O5 _))
theorem yZ{d:U0}{o:VH}{kvs:List (Key×V)}{g:TG}{L:TT}{M:TE}{D:U0}{Q:VK}{z:St}{H₀:Hp}(Pv:Nat->St->Hp->Prop)(h0:Pv 0 z H₀)(hl:∀i σ H,i<=kvs.length->Pv i σ H->H d=YN (.gQ o (.dK kvs)))
  (hs:∀i x σ H,(kvs.map (·.2))[i]?=YN x->Pv i σ H->g x σ H λB H3=>L B H3 λb O=>if b=true then M B O λv Z=>∃ys,Z D=YN (.lst ys)/\ys.length<U7/\Pv (i+1) B (upd Z D (.lst (ys++[v])))else Pv (i+1) B O)
  (hd:∀σ H,Pv kvs.length σ H->Q (.ref D) H):mD (Hm d o kvs) g L M D Q z H₀:=by
 refine⟨λi m σ H=>m=kvs.length-i/\i<=kvs.length/\Pv i σ H,⟨kvs.length,by simp,Qb _,h0⟩,?_⟩;rintro i m σ H ⟨rfl,hi,p⟩;have q:=hl i σ H hi p;by_cases J:i<kvs.length
 .refine .inr ⟨⟨J,q⟩,Pv (i+1),λσ' H' p'=>⟨kvs.length-(i+1),by omega,rfl,J,p'⟩,λx H' y=>?_⟩;obtain⟨e,y⟩:=y;subst e;exact hs i x σ _ y p
 have e:i=kvs.length:=by omega
 subst e;exact .inl ⟨⟨O5 _,q⟩,hd σ H p⟩
end
end L2
namespace Ag
open PySem PySem.Spec PyProof.Rows
section
variable {prog:U8}{w:Va}{K:Type}[DecidableEq K]{knd:HeapKind prog w K}{A:Vh}{E:UW->U2->Prop}{s:U2}
theorem D0{d a:U0}{xs:List (K×U0×UW)}{k:K}{x:UW}{Q:UW->U2->Prop}(hu:knd.room A)(B:knd.is s.heap k a)(hm:s.heap.DictOfH knd d xs)
  (h1:∀p,atKey xs k=YN p->Q p.2 { s with toks:=s.toks+knd.draws k })
  (h2:atKey xs k=none->∀h',h'.DictOfH knd d (XU xs k a x)->Heap.SameBut d s.heap h'->Q x { s with heap:=h',toks:=s.toks+knd.draws k })
  (hsz:xs.length<=U7):wpAny (model prog w) A (Xw d (.ref a) x) Q E s:=by
 obtain⟨o,es,ep,J,hc,hd,V,L,Z⟩:=hm;unfold Xw
 try with_reducible refine Vj ?_
 refine UR (knd.pyHash hu B (UR (XH (s:={ s with toks:=s.toks+knd.draws k }) hu B J hd V L Z ?_ ?_)))
 .intro M;have D:=atKey_none_of_get M;have O:=not_mem_keys_of_get M;refine UR (VN (UR (Xx (hz:=by have e:=Xo V;omega) (s:={ s with toks:=s.toks+knd.draws k }) J hd (UY (h2 D _ ⟨_,_,ep+1,Qz _ J (Obj.isFreed_of_dict (Obj.data_mapDictKeys hd _)),hc.mapDictKeys _,Obj.data_mapDictKeys hd _,?_,?_,?_⟩ (Heap.SameBut.update ..))))))
  .rw[Yg D];simp[V,Xh]
  .rw[Yg D];intro y H;rcases Po.mp H with H|H
   .exact knd.keeps (L y H) J hd (Heap.SameBut.update ..)
   rw[O4.mp H];exact knd.keeps B J hd (Heap.SameBut.update ..)
  rw[Yg D,Ph,QB];refine⟨Z,by simp,λy H z hz e=>O ?_⟩;rw[e,O4.mp hz]at H;exact H
 intro j p hj;refine UR (Vt (s:={ s with toks:=s.toks+knd.draws k }) J hd ?_);have e:=Yx V j;rw[hj]at e;rw[e];exact UR (VN (UY (h1 p (atKey_of_get Z hj))))
theorem pL(d a:U0)(hd:(d==Vr)=false)(x:UW):YI prog w (Builtin.«dict.setdefault» ⟨[.ref d,.ref a,x],[]⟩) (λA R s=>knd.room A.in1/\∃k xs,knd.is s.heap k a/\s.heap.DictOfH knd d xs/\xs.length<=U7 /\
  (∀p,atKey xs k=YN p->R (.ok (.ret p.2)) { s with toks:=s.toks+knd.draws k })/\(atKey xs k=none->∀h',h'.DictOfH knd d (XU xs k a x)->Heap.SameBut d s.heap h'->R (.ok (.ret x)) { s with heap:=h',toks:=s.toks+knd.draws k })):=
 .of_wp λA R s J=>by
  obtain⟨L,k,xs,z,H,hz,M,O⟩:=J;unfold Builtin.«dict.setdefault»;refine UR ?_;unfold Builtin.Dict.keyAndDefault;refine UR (VS H.typeIs ?_);show wpAny _ _ (pure (d,Value.ref a,YN x)) _ _ s;refine UY ?_;show wpAny _ _ (if(d==Vr)=true then _ else(Xw d (.ref a) x >>= _)) _ _ s;rw[UX (by rw[hd];decide)];exact UR (D0 L z H (λp V=>UY ⟨_,rfl,M p V⟩) (λZ h' B D=>UY ⟨_,rfl,O Z h' B D⟩) hz)
end
section
variable {prog:U8}{w:Va}{A:Vh}{E:UW->U2->Prop}{s:U2}
theorem y6(d:U0)(hd:(d==Vr)=false):YI prog w (Builtin.«dict.items» ⟨[.ref d],[]⟩) (λ_ R s=>s.TypeIs (.ref d) "dict"/\R (.ok (.ret (.ref s.heap.objs.size))) { s with heap:=s.heap.push { cls:=.type "dict_items",data:=.fields #[.ref d] } }):=
 .of_wp λA R s ⟨z,h⟩=>by
  unfold Builtin.«dict.items»;refine UR ?_;unfold Builtin.Dict.noArgs;refine UR (VS z ?_);show wpAny _ _ (pure d) _ _ s;refine UY ?_;show wpAny _ _ (Builtin.Dict.showsAll d >>= _) _ _ s;unfold Builtin.Dict.showsAll;rw[UX (by rw[hd];exact Pq)];exact UR (UY (UR (Vg (UY ⟨_,rfl,h⟩))))
theorem Bs{v d:U0}{L:Array V0}{ep:Nat}{Q:UW->U2->Prop}(D:s.heap.IsItemsView v d)(O:DE s.heap d L ep)
  (V:Q (.ref s.heap.objs.size) { s with heap:=s.heap.push { cls:=.type "dict_itemiterator",data:=.fields #[.none,.bool false,.ref d,.int 0 0,.int L.size 0,.int ep 0,.none,.none] } }):wpAny (model prog w) A (pyIter (.ref v)) Q E s:=by
 obtain⟨ov,H,Z,J⟩:=id D;obtain⟨o,M,z⟩:=id O;refine V4 D.typeIs F.slot_dict_items_iter (Vc F.slot_dict_items_iter D.typeIs F.entry_dict_items_iter ?_ (F.args_dict_items_iter_1 _));unfold Builtin.«dict_items.__iter__»;refine UR (UY (UR ?_));unfold Builtin.Dict_items.dictOf;refine UR (Vy H J (x:=.ref d) rfl (UY (UR ?_)));unfold Builtin.Dict_items.newIterator;refine UR (Vt M z (UR (V2 M z ?_)));have B:Builtin.Dict_items.ownsTuple "dict_itemiterator" = true:=by decide
 simp only[B,WO];refine Vg (UY ⟨_,rfl,"dict_itemiterator",_,⟨_,Pm _ rfl,rfl⟩,F.slot_dict_itemiterator_next.lookup,?_⟩) (by simp only[sizeOk,Builtin.Dict_items.ownedTupleFields,Pe,O9,Si,UB,Vp];omega);simpa[rawInt,Builtin.Dict_items.ownedTupleFields]using V
theorem Bt{Z d:U0}{i ep:Nat}{z:Array V0}{ok ov:UW}{Q:Option UW->U2->Prop}(hit:V7 s.heap Z d i z.size ep ok ov)(hm:DE s.heap d z ep)(C9:i<z.size)
  (hQ:∀h',XJ h' Z d (i+1) z.size ep z[i].key z[i].val s.heap.objs.size->h'.get? s.heap.objs.size=YN { cls:=.type "tuple",data:=.seq #[z[i].key,z[i].val] }->h'.objs.size=s.heap.objs.size+1 ->
   (∀b o,b≠Z->s.heap.get? b=YN o->h'.get? b=YN o)->Q (YN (.ref s.heap.objs.size)) { s with heap:=h' }):wpAny (model prog w) A (pyNext (.ref Z)) Q E s:=by
 obtain⟨hp,g,dr,tk,os⟩:=s;obtain⟨od,hod,hdd⟩:=id hm;have hT:Shared.TypeIs ⟨hp,g,dr,tk,os⟩ (.ref Z) "dict_itemiterator":=⟨_,hit,rfl⟩
 unfold pyNext;refine UR (VC (wpAny_callSpecial?_slot (name:=Str.ofString "__next__") hT F.slot_dict_itemiterator_next (Vc F.slot_dict_itemiterator_next hT F.entry_dict_itemiterator_next ?_ (F.args_dict_itemiterator_next_1 _))));refine UR (UY (UR (UR ?_)))
 (first|refine UR (VG hT (UY ?_))|refine UR (VU hT (UY ?_)));refine UR (VR hit rfl ?_)
 have Ni:Builtin.Dict_items.ownsTuple "dict_itemiterator" = true:=by decide
 simp only[Ni,WO];show wpAny _ _ (if(Value.ref d==Value.none)=true then _ else _) _ _ _;rw[UX (show¬((Value.ref d==Value.none)=true)from Pq)];refine UR (UY (UR (Vt hod hdd ?_)));rw[UX (by simp)];refine UR (UY (UR (V2 hod hdd ?_)));rw[UX (by simp)];refine UY ?_;simp only[show¬((i:Int)<0)from by omega,Vu,Pp,PL C9];refine UR ?_
 (first|refine UR (VG hT (UY ?_))|refine UR (VU hT (UY ?_)));refine UR (Wx hT ?_)
 show wpAny _ _ (Xs (.ref Z) 3 (rawInt ((i:Int)+1)) >>= _) _ _ ⟨hp,g,dr,tk,os⟩;refine UR (Vq hit (by simp) λB D H=>?_)
 replace H:Heap.SameBut Z hp B:=H;replace D:V7 B Z d (i+1) z.size ep ok ov:=by
  have e:((i+1:Nat):Int)=(i:Int)+1:=by omega
  unfold V7;rw[e];simpa[rawInt]using D
 have Bu:Shared.TypeIs ⟨B,g,dr,tk,os⟩ (.ref Z) "dict_itemiterator":=⟨_,D,rfl⟩
 refine UR (Vj (UR (Wx Bu (UR (Wx Bu ?_)))));show wpAny _ _ (Builtin.Dict_items.pairFromOwner (.ref Z) 6 z[i].key z[i].val) _ _ ⟨B,g,dr,tk,os⟩;unfold Builtin.Dict_items.pairFromOwner;refine UR (Wt ?_);have J:V7 (B.push { cls:=.type "tuple",data:=.seq #[z[i].key,z[i].val] }) Z d (i+1) z.size ep ok ov:=O8 _ D;generalize xO:B.push { cls:=.type "tuple",data:=.seq #[z[i].key,z[i].val] }=h₂ at J;have xP:B.objs.size=hp.objs.size:=H.1;have D1:Z<hp.objs.size:=Pt hit;have J5:h₂.get? hp.objs.size=YN { cls:=.type "tuple",data:=.seq #[z[i].key,z[i].val] }:=by rw[<- xO,<- xP];exact Pm _ rfl
 have J6:h₂.objs.size=hp.objs.size+1:=by rw[<-xO,Rj,xP]
 have J7:∀b o,b≠Z->hp.get? b=YN o->h₂.get? b=YN o:=λb o hb e=>by rw[<-xO];exact O8 _ (H.extBut b o hb e)
 show wpAny _ _ (Builtin.Dict_items.ownedTupleIsFree (.ref Z) >>= _) _ _ ⟨h₂,g,dr,tk,os⟩;rw[xP];clear xO D H Bu xP B;refine UR ?_;unfold Builtin.Dict_items.ownedTupleIsFree;refine UR (Vy J rfl (x:=.none) rfl (UY ?_));simp only[WO];refine UR (Vy J rfl (x:=ok) rfl (UR (Vy J rfl (x:=ov) rfl (UR (Vq J (by simp) λh₃ mE L=>?_)))))
 replace L:Heap.SameBut Z h₂ h₃:=L;replace mE:V7 h₃ Z d (i+1) z.size ep z[i].key ov:=mE
 refine UR (Vq mE (by simp) λh₄ mF M=>?_);replace M:Heap.SameBut Z h₃ h₄:=M;replace mF:V7 h₄ Z d (i+1) z.size ep z[i].key z[i].val:=mF;refine UR (Vq mF (by simp) λh₅ nX O=>?_);replace O:Heap.SameBut Z h₄ h₅:=O;replace nX:XJ h₅ Z d (i+1) z.size ep z[i].key z[i].val hp.objs.size:=nX;refine UR (Vq nX (by simp) λh₆ nY V=>?_);replace V:Heap.SameBut Z h₅ h₆:=V;replace nY:XJ h₆ Z d (i+1) z.size ep z[i].key z[i].val hp.objs.size:=nY;refine UR (Xt (UY (UY ⟨_,rfl,UY (hQ h₆ nY ?_ ?_ ?_)⟩)))
 .have n:=Q3 D1;exact V.extBut _ _ n (O.extBut _ _ n (M.extBut _ _ n (L.extBut _ _ n J5)))
 .show h₆.objs.size=_;rw[V.1,O.1,M.1,L.1,J6]
 exactλb o n e=>V.extBut b o n (O.extBut b o n (M.extBut b o n (L.extBut b o n (J7 b o n e))))
theorem D3{D d:U0}{ep:Nat}{H:Array V0}{ok O:UW}{Q:Option UW->U2->Prop}(V:A.handled=none)(z:V7 s.heap D d H.size H.size ep ok O)(Z:DE s.heap d H ep)
  (hQ:∀h',Heap.ExtBut D s.heap h'->Q none { s with heap:=h' }):wpAny (model prog w) A (pyNext (.ref D)) Q E s:=by
 obtain⟨od,J,L⟩:=id Z;have B:s.TypeIs (.ref D) "dict_itemiterator":=⟨_,z,rfl⟩
 unfold pyNext;refine UR (VC (wpAny_callSpecial?_slot (name:=Str.ofString "__next__") B F.slot_dict_itemiterator_next (Vc F.slot_dict_itemiterator_next B F.entry_dict_itemiterator_next ?_ (F.args_dict_itemiterator_next_1 _))));refine UR (UY (UR (UR ?_)))
 (first|refine UR (VG B (UY ?_))|refine UR (VU B (UY ?_)));refine UR (VR z rfl ?_)
 have M:Builtin.Dict_items.ownsTuple "dict_itemiterator" = true:=by decide
 simp only[M,WO];show wpAny _ _ (if(Value.ref d==Value.none)=true then _ else _) _ _ s;rw[UX (show¬((Value.ref d==Value.none)=true)from Pq)];refine UR (UY (UR (Vt J L ?_)));rw[UX (by simp)];refine UR (UY (UR (V2 J L ?_)));rw[UX (by simp)];refine UY ?_;simp only[show¬((H.size:Int)<0)from by omega,Vu,Pp,Ru (O5 H.size)];refine UR ?_
 (first|refine UR (VG B (UY ?_))|refine UR (VU B (UY ?_)));show wpAny _ _ (Xs (.ref D) 2 .none >>= _) _ _ s
 refine UR (Vv z rfl (by simp) ?_);show wpAny _ _ (newExc (.type "StopIteration") [] >>= _) _ _ _;refine UR ?_;simp only[newExc,XY];refine UR (Vg ?_ (by size_fits));refine UR (m:=VQ _ _) (W7 (a:=Value.none) (by first|rfl|(simp only[VQ];rfl)) ?_);refine Vg ?_ (by size_fits);simp only[XZ];refine UR (Xa ?_);rw[show A.in1.handled=none from V];refine UR (UY (Xr ?_));refine UR (Vz (T:="StopIteration") (b:=true) ⟨_,Pm _ rfl,rfl⟩ WX ?_);exact UY (hQ _ (((Heap.SameBut.update ..).extBut.push _).push _))
end
end Ag
namespace L2
open PySem PySem.Spec PyProof.Rows Ag
section
variable {X:Cx}{pins:List (U0×VH)}{σ:St}{H:Hp}{s:U2}{a b:U0}{kvs:List (List Key×V)}{k:List Key}{r:UW}{A:Vh}{E:UW->U2->Prop}
theorem y7{x:V}{Q:UW->U2->Prop}(hu:A.units+1<cLine)(I:Inv X pins σ H s)(e:H a=YN (.dT kvs))(L:H b=YN (.tup (k.map kV)))(rv:RelV x r)(l:kvs.length<U7)
  (h1:∀y w' s',bA kvs k=YN y->Inv X pins σ H s'->RelV y w'->Q w' s')
  (h2:∀s',bA kvs k=none->Inv X pins σ (upd H a (.dT (putK kvs k x))) s'->Q r s'):wpAny (model X.prog X.w) A (call (.builtin "dict.setdefault") [.ref a,.ref b,r]) Q E s:=by
 obtain⟨z,hd,xs,D,M⟩:=AB I.bj e;have hz:xs.length<=sizeLine:=by rw[<-Paired.length D];exact z
 have hl:(putK kvs k x).length<=sizeLine:=by have:=bU kvs k x;omega
 have B:=D.val k;refine WQ Rb M.typeIs Sk (Sg _ _ _) (pL (knd:=WR (aZ X.prog X.w)) a b hd r)
  ⟨WV hu,k,xs,lR I.bj L,M,hz,λp O=>?_,λhn h' J hs=>h2 _ ?_ ?_⟩
 .cases q:bA kvs k with
  |none=>rw[q,O]at B;exact U4 B (λz=>nomatch z)
  |some y=>rw[q,O]at B;exact h1 y p.2 _ q (I.tok _) B
 .cases q:bA kvs k with
  |none=>rfl
  |some y=>rw[q,hn]at B;exact U4 B (λz=>nomatch z)
 obtain⟨q,es,ep,Z,g2,g3,g4,_,g5⟩:=J;refine jq I (by rw[e];exact True.intro) hs ⟨q,Z⟩ ⟨hl,hd,_,(D.put k L rv).keeps λc ys ec=>?_,q,es,ep,Z,g2,g3,g4,g5⟩;rw[au (Am ec e (λz=>nomatch z))];exact ec
end
def Hn(J ty tx:TE):TE:=λσ H Q=>J σ H λx D=>∃a,x=.ref a/\MS D a/\ty σ D λy L=>tx σ L λz B=>∃kvs k b,B a=YN (.dT kvs)/\y=.ref b/\B b=YN (.tup (k.map kV))/\kvs.length<U7 /\
 (∀v,bA kvs k=YN v->Q v B)/\(bA kvs k=none->Q z (upd B a (.dT (putK kvs k z))))
section
variable {X:Cx}{o e f:Vk}{apos gT:WG}{td ty tx:TE}
theorem Bv(O:X.A.units+1<cLine)(V:PE X o td)(Z:PE X e ty)(hf:PE X f tx)(m:M2 X o "setdefault" apos e f gT):PE X (.Call (.Attribute o "setdefault" apos) [e,f] [] gT) (Hn td ty tx):=by
 intro pins s σ H Q I h;refine X4 m.base m.few m.line Rr Rb Ss (bR (V pins s σ H _ I h) λu s1 B=>?_);obtain⟨x,H1,L,rx,a,ex,d,q1⟩:=B;subst ex;obtain rfl:u=Value.ref a:=rx;obtain⟨t1,t2,_⟩:=AI L d;refine⟨t1,t2,?_⟩;rw[m.trees];refine Calls.callWith_builtin rfl (Calls.evalArgs_plain (Calls.spliced_cons (bR (Z pins s1 σ H1 _ L q1) λiv s2 ⟨y,H2,I2,ry,q2⟩ =>
  Calls.spliced_cons (bR (hf pins s2 σ H2 _ I2 q2) λfv s3 B=>Calls.spliced_nil ?_))))
 obtain⟨z,H3,I3,M,kvs,k,b,ea,ey,eb,el,q3,q4⟩:=B;subst ey;obtain rfl:iv=Value.ref b:=ry;exact y7 O I3 ea eb M el (λy w' s4 hy D J=>⟨y,H3,D,J,q3 y hy⟩) λs4 hn D=>⟨z,_,D,M,q4 hn⟩
end
end L2
namespace Ag
open PySem PySem.Spec PyProof.Rows
theorem Bw:Yy table "dict_itemiterator.__iter__" = some Builtin.«dict_keyiterator.__iter__» :=
 Xy (id':="dict_keyiterator.__iter__") (by kernel_rfl) rfl (by decide +kernel) (by kernel_rfl)
theorem Bx{prog:U8}{w:Va}{A:Vh}{E:UW->U2->Prop}{s:U2}{z d:U0}{i n ep:Nat}{ok H:UW}{Q:UW->U2->Prop}(B:V7 s.heap z d i n ep ok H)(h:Q (.ref z) s):wpAny (model prog w) A (pyIter (.ref z)) Q E s:=by
 have D:s.TypeIs (.ref z) "dict_itemiterator":=⟨_,B,rfl⟩
 refine V4 D F.slot_dict_itemiterator_iter (Vc F.slot_dict_itemiterator_iter D Bw ?_ (F.args_dict_itemiterator_iter_1 _));show wpAny _ _ (ret (.ref z)) _ _ s;exact UY ⟨_,rfl,"dict_itemiterator",_,D,F.slot_dict_itemiterator_next.lookup,h⟩
end Ag
namespace L2
open PySem PySem.Spec PyProof.Rows Ag
section
variable {X:Cx}{pins:List (U0×VH)}{σ:St}{H:Hp}{s:U2}{a:U0}
theorem Inv.Ho(I:Inv X pins σ H s){kvs:List (List Key×V)}(e:H a=YN (.dT kvs)):∃o B ep,s.heap.get? a=YN o/\o.data=.dict B ep/\B.size=kvs.length/\Inv X pins σ (upd H a (.gQ o (.dT kvs))) s:=by
 have Z:Gv (H a):=by rw[e];exact True.intro
 obtain⟨z,lo,xs,D,o,B,ep,J,h2,L,M,h5⟩:=(show bq X.prog X.w H s.heap a (.dT kvs)from I.bj a _ e)
 have hsz:B.size=kvs.length:=by
  rw[D.length];have:=congrArg Ro M;rwa[PM,O3]at this
 have keep:∀c ys,H c=YN (.tup ys)->upd H a (.gQ o (.dT kvs)) c=YN (.tup ys):=λc ys O=>by
  rw[au (Am O e (λz=>nomatch z))];exact O
 refine⟨o,B,ep,J,L,hsz,I.write (x:=a) (e:=a) (t':=s.toks) Z (.inl rfl) (λb q hb z=>z) ⟨o,J⟩ ⟨J,z,lo,xs,Paired.q9 D λp q y=>⟨y.1,keep _ _ y.2.1,y.2.2⟩,o,B,ep,J,h2,L,M,h5⟩⟩
noncomputable def Nj(d:U0)(o:VH)(kvs:List (List Key×V)):It :=
 ⟨λi H=>i<kvs.length/\H d=YN (.gQ o (.dT kvs)),λi H y z=>∃t b k v,y=.ref t/\H t=none/\kvs[i]?=YN (k,v)/\H b=YN (.tup (k.map kV))/\z=upd H t (.tup [.ref b,v]),λi H=>kvs.length<=i/\H d=YN (.gQ o (.dT kvs))⟩
theorem By{P:U8}{w:Va}{K:Pc}{elts:List Vk}{x1:Nat}{tp:WG}(d D:U0)(o:VH)(kvs:List (List Key×V))(es:Array V0)(ep:Nat)(hep:o.data=.dict es ep)(hsz:es.size=kvs.length) :
  Turn P w K (.Tuple elts x1 tp) (Nj d o kvs) [D] D (λi h=>i<=kvs.length/\∃ok ov,V7 h D d i kvs.length ep ok ov) where
 mem:=by simp
 obj:=λi h st b O=>by
  have e:b=D:=by simpa using O
  subst e;obtain⟨_,ok,ov,e⟩:=st;exact⟨_,e,λv z=>by have z':Data.fields _=Data.cell v:=z;cases z'⟩
 keep:=λi h h' st k=>⟨st.1,let⟨ok,ov,e⟩:=st.2;⟨ok,ov,k D (by simp) _ e⟩⟩
 item:=by
  intro X hP hw hK hc i pins s σ H E I hf st hg;subst hP hw hK;obtain⟨hi,hd⟩:=hg;obtain⟨_,ok,ov,J⟩:=st;obtain⟨ho,z,lo,xs,Z,od,B,Nk,h1,h2,h3,h4,h5⟩:=(show bq X.prog X.w H s.heap d (.gQ o (.dT kvs))from I.bj d _ hd)
  obtain⟨f0,f1,f2,f3,f4,f5⟩:=hf D (by simp);have e1:od=o:=by rw[ho]at h1;exact(Option.some.inj h1).symm
  have e2:B=es/\Nk=ep:=by rw[e1,hep]at h3;cases h3;exact⟨rfl,rfl⟩
  obtain⟨rfl,rfl⟩:=e2;have Ah:i<B.size:=by omega
  have hx:kvs[i]?=YN kvs[i]:=O1 hi;have LM:xs[i]?=YN (xs[i]'(by rw[<-Z.length];exact hi)):=O1 _;have pr:=jO Z hx LM;have ee:B[i]=Xh (WR (aZ X.prog X.w)) (xs[i]'(by rw[<-Z.length];exact hi)):=by
   have e:=Yx h4 i;rw[LM,PL Ah]at e;exact Option.some.inj e
  rw[<- hsz]at J;refine Bt J ⟨od,h1,h3⟩ Ah λh' JR hT acQ hk=>?_;refine⟨_,rfl,wpAny_letOwnedTupleGo_items (s:={ s with heap:=h' }) JR λAY AZ J8=>?_⟩;have C9:D<s.heap.objs.size:=Pt J;have k2:∀b o,b≠D->s.heap.get? b=YN o->AY.get? b=YN o:=λb o h1 q=>(J8.2 b h1).trans (hk b o h1 q);have JS:AY.get? s.heap.objs.size=YN { cls:=.type "tuple",data:=.seq #[B[i].key,B[i].val] }:=(J8.2 _ (Q3 C9)).trans hT;have L:H s.heap.objs.size=none:=I.bj.fresh (O5 _);have neT:∀{b:U0} {o:VH},s.heap.get? b=YN o->b≠s.heap.objs.size:=λq=>PH (Pt q);have tq:∀{b:U0} {o:HO},H b=YN o->b≠D:=λq z=>by rw[z,f0]at q;cases q
  have I2:Inv X pins σ (upd H s.heap.objs.size (.tup [.ref (xs[i]'(by rw[<-Z.length];exact hi)).2.1,kvs[i].2])) { s with heap:=AY }:=by
   refine I.step (g':=s.gens) (d':=s.drawn) (t':=s.toks) (ch:=[D]) (λb O=>?_) (λb o _ _ M q _=>k2 b o (λz=>M (by simp[z])) q) (λb o _ _ M q _=>⟨o.slots,k2 b o (λz=>M (by simp[z])) q⟩)
    (λb o _ q n=>by rw[au (neT q)];exact n) (λb o M q=>⟨o,k2 b o (λz=>M (by simp[z])) q⟩) (λb ys q=>by rw[au (aO q L)];exact q) (λb o ys q=>by rw[au (aO q L)];exact q)
    (λb ps q=>⟨#[],by rw[au (aO q L),q];simp⟩) (λm hm=>?_) (λb v q=>?_) I.bare
   .have e1:b=D:=by simpa using O
    subst e1;exact⟨f3,f1,f4,f5⟩
   .obtain⟨o,es,ep,ho,r⟩:=hm;exact⟨o,es,ep,k2 _ o (Ne.symm f1) ho,r⟩
   by_cases O:b=s.heap.objs.size
   .subst O;rw[ag]at q;cases q;refine⟨by show 2<=U7;decide,[B[i].key,B[i].val],.cons ?_ (.cons ?_ .nil),_,JS,rfl,_,rfl⟩
    .rw[ee];rfl
    rw[ee];exact pr.2.2
   rw[au O]at q;refine(I.bj b v q).rd (λc o hc z=>?_) (λc z=>by rw[au (aO z L)];exact z) λc ys z=>by rw[au (aO z L)];exact z
   rcases hc with rfl|hc
   .exact k2 c o (tq q) z
   exact k2 c o (tq hc) z
  refine⟨.ref s.heap.objs.size,_,I2,rfl,⟨_,_,kvs[i].1,kvs[i].2,rfl,L,hx,?_,rfl⟩,⟨hi,?_⟩,λb O=>?_⟩
  .exact pr.2.1
  .rw[<-hsz];exact⟨_,_,AZ⟩
  have e1:b=D:=by simpa using O
  subst e1;rw[au (PH C9)];exact f0
 done:=by
  intro X hP hw hK hc i pins s σ H E I hf st hg;subst hP hw hK;obtain⟨hi,hd⟩:=hg;obtain⟨hle,ok,ov,J⟩:=st;obtain⟨ho,_⟩:=(show bq X.prog X.w H s.heap d (.gQ o (.dT kvs))from I.bj d _ hd)
  obtain⟨f0,f1,f2,f3,f4,f5⟩:=hf D (by simp);have e3:i=es.size:=by omega
  rw[<-hsz,e3]at J;exact D3 (I.ok.hd hc) J ⟨o,ho,hep⟩ λh' eb=>⟨rfl,I.turned (t':=s.toks) (λb o O e=>eb b o O e) f0 f1 f3 f4 f5⟩
 self:=λ_ _ _ _ _ st h=>let⟨_,_,e⟩:=st.2;Bx e h
end
section
variable {X:Cx}
noncomputable def Nl(to:TE):TI:=λσ H R=>to σ H λv z=>∃d kvs,v=.ref d/\z d=YN (.dT kvs)/\∀o,R (Nj d o kvs) (upd z d (.gQ o (.dT kvs)))
theorem Hq{o:Vk}{elts:List Vk}{x1:Nat}{tp:WG}{to:TE}{pos' ap:WG}(ho:PE X o to)(J:VW o "items" X.env (eval o X.env)=eval o X.env:=by rfl)(L:(ap.endLine==pos'.line)=true:=by rfl) :
  PI X (.Tuple elts x1 tp) (.Call (.Attribute o "items" ap) [] [] pos') (Nl to):=by
 intro pins s σ H R I h;refine Wg J L (bR (ho pins s σ H _ I h) λv B zq=>?_);obtain⟨x,H1,O,r1,d,kvs,ex,hd,q⟩:=zq;subst ex;obtain⟨V,h2⟩:=rC (T:="dict") O r1 (.inr (.inr (.inl ⟨rfl,.inr ⟨kvs,hd⟩⟩)));cases(show v=Value.ref d from r1);obtain⟨M,es,ep,Z,D,hsz,I2⟩:=O.Ho hd;obtain⟨z,lo,_⟩:=AB O.bj hd;refine⟨"dict","dict.items",Rr,SW,PySem.F.type_dict_items,V,h2,Calls.callWith_builtin rfl (PySem.evalArgs_none ?_)⟩;refine WQ SW V PySem.F.entry_dict_items (PySem.F.args_dict_items_1 _) (y6 d lo) ⟨V,?_⟩;have hv:(B.heap.push { cls:=.type "dict_items",data:=.fields #[.ref d] }).IsItemsView B.heap.objs.size d:=⟨_,Pm _ rfl,rfl,rfl⟩
 refine Bs (s:={ B with heap:=B.heap.push { cls:=.type "dict_items",data:=.fields #[.ref d] } }) hv ⟨M,O8 _ Z,D⟩ ?_;have I3:Inv X pins σ (upd H1 d (.gQ M (.dT kvs))) { B with heap:=B.heap.push { cls:=.type "dict_items",data:=.fields #[.ref d] } }:=I2.kept (t':=B.toks) λb o e=>O8 _ e;refine⟨_,[_],_,_,_,rfl,I3.kept (t':=B.toks) λb o e=>O8 _ e,By d _ M kvs es ep D hsz,⟨Qb _,?_⟩,λb hb=>?_,q M⟩
 .rw[<-hsz];exact⟨_,_,Pm _ rfl⟩
 have e:=O4.mp hb;subst e;exact I3.mT (O5 _) (I3.bj.fresh (O5 _))
theorem Bz{d:U0}{o:VH}{kvs:List (List Key×V)}{g:TG}{L:TT}{M:TE}{D:U0}{Q:VK}{z:St}{H₀:Hp}(Pv:Nat->St->Hp->Prop)(h0:Pv 0 z H₀)(hl:∀i σ H,i<=kvs.length->Pv i σ H->H d=YN (.gQ o (.dT kvs)))
  (hs:∀i t b k v σ H,kvs[i]?=YN (k,v)->Pv i σ H->H t=none->H b=YN (.tup (k.map kV))->g (.ref t) σ (upd H t (.tup [.ref b,v])) λB H3=>L B H3 λb O=>if b=true then M B O λv Z=>∃ys,Z D=YN (.lst ys)/\ys.length<U7/\Pv (i+1) B (upd Z D (.lst (ys++[v])))else Pv (i+1) B O)
  (hd:∀σ H,Pv kvs.length σ H->Q (.ref D) H):mD (Nj d o kvs) g L M D Q z H₀:=by
 refine⟨λi m σ H=>m=kvs.length-i/\i<=kvs.length/\Pv i σ H,⟨kvs.length,by simp,Qb _,h0⟩,?_⟩;rintro i m σ H ⟨rfl,hi,p⟩;have q:=hl i σ H hi p;by_cases J:i<kvs.length
 .refine .inr ⟨⟨J,q⟩,Pv (i+1),λσ' H' p'=>⟨kvs.length-(i+1),by omega,rfl,J,p'⟩,λx H' y=>?_⟩;obtain⟨t,b,k,v,e,hn,hx,hb,e2⟩:=y;subst e e2;exact hs i t b k v σ _ hx p hn hb
 have e:i=kvs.length:=by omega
 subst e;exact .inl ⟨⟨O5 _,q⟩,hd σ H p⟩
end
end L2
namespace NK
open PySem PySem.Spec PyProof.Rows L2
noncomputable abbrev Itm:=Sum Key (List Key)
section
variable {P:U8}{w:Va}
noncomputable def pM(P:U8)(w:Va)(h:Vi):Itm->UW->Prop
 |.inl k,v=>(aZ P w).is k v=true
 |.inr ks,v=>∃b,v=.ref b/\Yz (aZ P w) h ks b
inductive Ai (P:U8) (w:Va) (h:Vi):List Itm->List UW->Prop
 |nil:Ai P w h [] []
 |cons {k:Itm}{v:UW}{ks:List Itm}{vs:List UW}:pM P w h k v->Ai P w h ks vs->Ai P w h (k::ks) (v::vs)
def rS(P:U8)(w:Va)(h:Vi)(ks:List Itm)(a:U0):Prop:=∃o items n,h.get? a=YN o/\o.cls=.type "tuple"/\o.data=.seq items n/\Ai P w h ks items.toList
theorem xQ{k:Key}{b:U0}:(aZ P w).is k (.ref b)=true->False:=λh=>by
 rcases bB h with⟨_,_,_,e⟩|⟨_,_,_,e⟩ <;> exact nomatch e
theorem pM.inj{h:Vi}{x y:Itm}{v:UW}(z:pM P w h x v)(B:pM P w h y v):x=y:=by
 cases x with
 |inl k=>cases y with
  |inl l=>exact congrArg Sum.inl ((aZ P w).inj _ _ _ z B)
  |inr l=>obtain⟨b,e,_⟩:=B;subst e;exact(xQ z).elim
 |inr k=>cases y with
  |inl l=>obtain⟨b,e,_⟩:=z;subst e;exact(xQ B).elim
  |inr l=>obtain⟨b,e,q⟩:=z;obtain⟨J,D,H⟩:=B;subst e;cases D;exact congrArg Sum.inr (q.inj H)
theorem Ai.inj{h:Vi}{x y:List Itm}{vs:List UW}(B:Ai P w h x vs)(z:Ai P w h y vs):x=y:=by
 induction B generalizing y with
 |nil=>cases z;rfl
 |cons D _ H =>
  cases z with
  |cons J L=>rw[D.inj J,H L]
theorem rS.typeIs{s:U2}{ks:List Itm}{a:U0}(x:rS P w s.heap ks a):s.TypeIs (.ref a) "tuple":=let⟨o,_,_,z,B,_⟩:=x;⟨o,z,B⟩
theorem rS.inj{h:Vi}{a:U0}{x y:List Itm}(J:rS P w h x a)(L:rS P w h y a):x=y:=by
 obtain⟨o,items,n,M,_,hd,hi⟩:=J;obtain⟨O,B,Z,D,_,z,H⟩:=L;obtain rfl:o=O:=Option.some.inj (M.symm.trans D);rw[hd]at z;injection z with V _;subst V;exact hi.inj H
theorem rS.keeps{h h':Vi}{ks:List Itm}{a d:U0}{o:VH}{V ep}(x:rS P w h ks a)(H:h.get? d=YN o)(hd:o.data=.dict V ep)(J:Heap.SameBut d h h'):rS P w h' ks a:=by
 obtain⟨L,items,n,B,M,z,hi⟩:=x;have D:a≠d:=by
  rintro rfl;obtain rfl:L=o:=Option.some.inj (B.symm.trans H);rw[hd]at z;exact nomatch z
 refine⟨L,items,n,(J.2 a D).trans B,M,z,?_⟩;clear z B M;generalize items.toList=vs at hi
 induction hi with
 |nil=>exact .nil
 | @cons k v ks vs O _ Z =>
  refine .cons ?_ Z;cases k with
  |inl k=>exact O
  |inr k=>obtain⟨b,e,q⟩:=O;exact⟨b,e,q.keeps H hd J⟩
noncomputable def Hr(P:U8)(w:Va):Itm->Int
 |.inl k=>(aZ P w).hash k
 |.inr ks=>tupleKeyHash (aZ P w) ks
noncomputable def Nm:Itm->Nat
 |.inl _=>1
 |.inr ks=>ks.length+1
noncomputable def BA(P:U8)(w:Va)(ks:List Itm):Int:=reduceHash (Builtin.Tuple.tupleHashOf (ks.map (Hr P w)))
noncomputable def vR(ks:List Itm):Nat:=(ks.map Nm).sum+1
variable {A:Vh}{E:UW->U2->Prop}{s:U2}
theorem D4{k:Itm}{v:UW}{Q:Int->U2->Prop}(B:A.units<cLine)(z:pM P w s.heap k v)(h:Q (Hr P w k) { s with toks:=s.toks+Nm k }):wpAny (model P w) A (pyHash v) Q E s:=by
 cases k with
 |inl k=>exact(aZ P w).pyHash z h
 |inr k=>obtain⟨b,e,q⟩:=z;subst e;exact wpAny_pyHash_tuple B q h
theorem BB{ks:List Itm}{a:U0}{Q:Int->U2->Prop}(O:A.units+1<cLine)(M:rS P w s.heap ks a)(h:Q (BA P w ks) { s with toks:=s.toks+vR ks }) :
  wpAny (model P w) A (pyHash (.ref a)) Q E s:=by
 have D:=M.typeIs;obtain⟨o,items,n,V,_,hd,hi⟩:=M;unfold pyHash
 first|unfold pyHashByItsType|skip
 first|refine UR (wpAny_cRoomFor_or (.inr (by omega)) ?_)|skip
 refine UR (VM D F.slot_tuple_hash.lookup ?_);show wpAny _ _ (if(YN (Value.builtin "tuple.__hash__")==some Value.none)=true then _ else _) Q E s;rw[UX (by rw[beq_builtin_none];exact Pq)];refine UR (VM D F.slot_tuple_hash.lookup ?_);show wpAny _ _ (callSpecialIfBoundUnlessNone? (.ref a) "__hash__" _ >>= _) Q E s;refine UR (wpAny_callSpecialIfBoundUnlessNone?_slot D F.slot_tuple_hash (Vc F.slot_tuple_hash D F.entry_tuple_hash ?_ (F.args_tuple_hash_1 _)));show wpAny _ _ (Builtin.Tuple.tupleItemsOf (.ref a) >>= _) _ _ s;refine UR (W2 V hd ?_);refine UR ?_;rw[<- SD];refine WC _
  (λrest (b:Array Int) s'=>∃done left,ks=done++left/\Ai P w s.heap left rest/\b.toList=done.map (Hr P w)/\s'={ s with toks:=s.toks+(done.map Nm).sum })
  _ ?_ ?_ _ _ ⟨[],ks,rfl,hi,rfl,rfl⟩
 .rintro x rest b s' ⟨done,left,rfl,L,H,rfl⟩;cases L with
  | @cons k _ z _ Z B =>
   refine UR (D4 (k:=k) (by first|exact O|(simp only[Around.in1];omega)|(show A.units+1<cLine;omega)) Z ?_)
   first
    |exact UY ⟨done++[k],z,by simp,B,by simp[H],by simp[SX]⟩
    |exact UR (UY (UY ⟨done++[k],z,by simp,B,by simp[H],by simp[SX]⟩))
 rintro b s' ⟨done,left,rfl,L,H,rfl⟩;cases L;rw[Qh]at h;show wpAny _ _ (retInt (Builtin.Tuple.tupleHashOf b.toList)) _ _ _;rw[H];refine wpAny_ret_mkInt ?_;show wpAny _ _ (if(decide (-(2:Int) ^ 63<=Builtin.Tuple.tupleHashOf (done.map (Hr P w)))&&decide (Builtin.Tuple.tupleHashOf (done.map (Hr P w))<2 ^ 63))=true then _ else _) Q E _;unfold BA reduceHash vR at h;by_cases J:(decide (-(2:Int) ^ 63<=Builtin.Tuple.tupleHashOf (done.map (Hr P w)))&&decide (Builtin.Tuple.tupleHashOf (done.map (Hr P w))<2 ^ 63))=true
 .rw[UZ J];rw[UZ J]at h;exact UY (by simpa[SX]using h)
 rw[UX J];rw[UX J]at h;exact UR (VN (UY (by simpa[SX]using h)))
theorem oJ{s:U2}{ks:List Key}{b:U0}(q:Yz (aZ P w) s.heap ks b):∃items,s.heap.IsTuple b items:=by
 obtain⟨o,items,n,z,B,hd,_⟩:=q;exact⟨items,o,z,B,n,hd⟩
theorem FJ{x y:Itm}{u v:UW}{Q:Bool->U2->Prop}(B:A.units<cLine)(H:pM P w s.heap x u)(J:pM P w s.heap y v)(h:Q (decide (x=y)) s):wpAny (model P w) A (eqBool u v) Q E s:=by
 cases x with
 |inl k=>cases y with
  |inl l =>
   refine(aZ P w).eqBool (a:=k) (b:=l) H J ?_;by_cases e:k=l
   .subst e;simpa using h
   rw[U1 e];rwa[U1 (λz=>e (Sum.inl.inj z))]at h
  |inr l =>
   obtain⟨b,e,q⟩:=J;subst e;obtain⟨items,D⟩:=oJ q;rw[U1 (λz=>nomatch z)]at h;rcases bB H with⟨i,t,_,e⟩|⟨i,t,_,e⟩ <;> subst e
   .exact PySem.SeqAt.EqAt.int_tuple i t D B P w E Q h
   exact PySem.SeqAt.EqAt.str_tuple i t D B P w E Q h
 |inr k=>cases y with
  |inl l =>
   obtain⟨b,e,q⟩:=H;subst e;obtain⟨items,D⟩:=oJ q;rw[U1 (λz=>nomatch z)]at h;rcases bB J with⟨i,t,_,e⟩|⟨i,t,_,e⟩ <;> subst e
   .exact PySem.SeqAt.EqAt.tuple_int i t D B P w E Q h
   exact PySem.SeqAt.EqAt.tuple_str i t D B P w E Q h
  |inr l =>
   obtain⟨b,e,q⟩:=H;subst e;obtain⟨O,L,M⟩:=J;subst L;refine wpAny_eqBool_tuple B q M ?_;by_cases e:k=l
   .subst e;simpa using h
   rw[U1 e];rwa[U1 (λz=>e (Sum.inr.inj z))]at h
theorem BC{x y:List Itm}{a b:U0}{R:Fin->U2->Prop}(hu:A.units<cLine)(hx:rS P w s.heap x a)(hy:rS P w s.heap y b)(h:R (.done (.ret (.bool (decide (x=y))))) s) :
  wpAny (model P w) A (Builtin.«tuple.__eq__» ⟨[.ref a,.ref b],[]⟩) R E s:=by
 have hTb:=hy.typeIs;obtain⟨oa,xs,na,hoa,_,hda,Nn⟩:=hx;obtain⟨ob,ys,nb,hob,_,hdb,hib⟩:=hy;show wpAny _ _ (XT (.ref b) (.type "tuple") >>= _) _ _ s;refine UR (Vz hTb Wz ?_);simp only[RF,Ql,Vu];refine UR (W2 hoa hda ?_);refine UR (W2 hob hdb ?_);refine UR ?_;refine WC _
  (λrest r s'=>r.1=none/\s'=s/\∃x' y' B D,rest=Tp B D/\Ai P w s.heap x' B/\Ai P w s.heap y' D/\decide (x'=y')=decide (x=y)/\(B.length==D.length)=(xs.size==ys.size))
  _ ?_ ?_ _ _ ⟨rfl,rfl,x,y,xs.toList,ys.toList,rfl,Nn,hib,rfl,by simp⟩
 .rintro⟨u,v⟩ rest r s' ⟨hr,rfl,x',y',B,D,hz,J,H,z,hlen⟩;cases J with
  |nil=>simp at hz
  | @cons k1 u' L M h1 O =>
   cases H with
   |nil=>simp at hz
   | @cons k2 v' V Z h2 Np =>
    simp only[List.zip_cons_cons,List.cons.injEq,Prod.mk.injEq]at hz;obtain⟨⟨rfl,rfl⟩,rfl⟩:=hz;refine UR (FJ (x:=k1) (y:=k2) hu h1 h2 ?_);by_cases hk:k1=k2
    .subst hk;rw[UU rfl];simp only[RF,Ql,Vu];refine UY ⟨rfl,rfl,L,V,M,Z,rfl,O,Np,?_,by simpa using hlen⟩;rw[<-z];by_cases J1:L=V
     .simp[J1]
     simp[J1]
    rw[U1 hk];simp only[Bool.not_false,WO];have hf:decide (x=y)=false:=by rw[<-z];simp[hk]
    rw[hf]at h;exact UR (UY (UY (UY h)))
 rintro⟨r1,r2⟩ s' ⟨hr,rfl,x',y',B,D,hz,J,H,z,hlen⟩;simp only at hr;subst hr;refine UY ?_;have Nq:(xs.size==ys.size)=decide (x=y):=by
  rw[<-z,<-hlen];cases J with
  |nil =>
   cases H with
   |nil=>simp
   |cons _ _=>simp
  |cons _ _ =>
   cases H with
   |nil=>simp
   |cons _ _=>simp at hz
 show R (.done (.ret (.bool (xs.size==ys.size)))) s';rw[Nq];exact h
theorem BD{x y:List Itm}{a b:U0}{Q:Bool->U2->Prop}(H:A.units+1<cLine)(B:rS P w s.heap x a)(D:rS P w s.heap y b)(h:Q (decide (x=y)) s) :
  wpAny (model P w) A (eqBool (.ref a) (.ref b)) Q E s:=by
 unfold eqBool
 try with_reducible refine Vj ?_
 show wpAny _ _ (if(Value.ref a==Value.ref b)=true then _ else _) Q E s;by_cases z:(Value.ref a==Value.ref b)=true
 .rw[UZ z];have e:a=b:=by have:=eq_of_beq z;injection this
  subst e;obtain rfl:=B.inj D;exact UR (VN (UY (by simpa using h)))
 rw[UX z];exact UR (wpAny_richCompare_same_room (op:=.Eq) B.typeIs D.typeIs F.slot_tuple_eq
  (Vc F.slot_tuple_eq B.typeIs F.entry_tuple_eq (BC (by first|exact H|(show A.units+1<cLine;omega)) B D ⟨_,rfl,(λe=>nomatch e),VD h⟩) (F.args_tuple_eq_2 _ _)) (by omega))
theorem D5(n:Nat){ks:List Key}{a:U0}{Q:Bool->U2->Prop}(H:Yz (aZ P w) s.heap ks a)(h:Q true s):wpAny (model P w) A (XF (n+1) (.ref a)) Q E s:=by
 have J:=H.typeIs;obtain⟨o,items,n,L,_,hd,hi⟩:=H;unfold XF;refine UR (VM J F.slot_tuple_eq.lookup ?_);show wpAny _ _ (XT (.ref a) (.type "tuple") >>= _) _ _ s;refine UR (Vz J Wz ?_);simp only[RF,Ql,Vu];refine UR (Ws L hd ?_);refine UR ?_;show wpAny _ _ (forIn items _ _) _ _ s;rw[<- SD];refine WC _ (λrest r s'=>r.1=none/\s'=s/\∀v∈rest,carriedByValue v=true) _ ?_ ?_ _ _ ⟨rfl,rfl,hi.byValue⟩
 .rintro v rest r s' ⟨B,rfl,z⟩;rw[X5 _ (z v Pb)];refine UR (UY ?_);simp only[RF,Ql,Vu];exact UY ⟨rfl,rfl,λu D=>z u (Pn _ D)⟩
 rintro⟨M,O⟩ s' ⟨B,rfl,_⟩;simp only at B;subst B;exact UY h
theorem y8{ks:List Itm}{a:U0}{Q:Bool->U2->Prop}(J:rS P w s.heap ks a)(h:Q true s):wpAny (model P w) A (XF 8 (.ref a)) Q E s:=by
 have L:=J.typeIs;obtain⟨o,items,n,V,_,hd,hi⟩:=J;unfold XF;refine UR (VM L F.slot_tuple_eq.lookup ?_);show wpAny _ _ (XT (.ref a) (.type "tuple") >>= _) _ _ s;refine UR (Vz L Wz ?_);simp only[RF,Ql,Vu];refine UR (Ws V hd ?_);refine UR ?_;show wpAny _ _ (forIn items _ _) _ _ s;rw[<- SD];refine WC _ (λrest r s'=>r.1=none/\s'=s/\∃ks,Ai P w s.heap ks rest) _ ?_ ?_ _ _ ⟨rfl,rfl,ks,hi⟩
 .rintro v rest r s' ⟨D,rfl,Z,z⟩;cases z with
  | @cons k _ B _ M H =>
   have go:wpAny (model P w) A (XF 7 v) (λb O=>b=true/\O=s') E s':=by
    cases k with
    |inl k=>rw[X5 _ ((aZ P w).byValue _ _ M)];exact UY ⟨rfl,rfl⟩
    |inr k=>obtain⟨b,e,q⟩:=M;subst e;exact D5 6 q ⟨rfl,rfl⟩
   refine UR (bR go λb O ⟨eb,es⟩=>?_);subst eb es;simp only[RF,Ql,Vu];exact UY ⟨rfl,rfl,B,H⟩
 rintro⟨r1,r2⟩ s' ⟨D,rfl,_⟩;simp only at D;subst D;exact UY h
end
noncomputable def iy(P:U8)(w:Va):HeapKind P w (List Itm) where
 is:=rS P w
 hash:=BA P w
 draws:=vR
 room:=λA=>A.units+1<cLine
 inj:=λz B=>z.inj B
 keeps:=λx J hd L=>x.keeps J hd L
 pyHash:=λD H h=>BB D H h
 eqBool:=λD z B h=>BD D z B h
 quiet:=λH h=>y8 H h
noncomputable abbrev Ent:=List Itm×U0×V
noncomputable def mY(kvs:List Ent)(k:List Itm):Option V:=(kvs.find? λx=>decide (x.1=k)).map (·.2.2)
noncomputable def put2(kvs:List Ent)(k:List Itm)(b:U0)(v:V):List Ent:=if(mY kvs k).isSome then kvs.map (λx=>if x.1=k then(x.1,x.2.1,v)else x)else kvs++[(k,b,v)]
def RE:Ent->List Itm×U0×UW->Prop:=λp q=>p.1=q.1/\p.2.1=q.2.1/\RelV p.2.2 q.2.2
theorem vS{kvs:List Ent}{xs:List (List Itm×U0×UW)}(r:Paired RE kvs xs)(k:List Itm):j7 (mY kvs k) ((atKey xs k).map (·.2)):=by
 induction r with
 |nil=>exact True.intro
 | @cons p q ps B h t z =>
  unfold mY atKey;rw[Q4,Q4,<-h.1];by_cases e:p.1=k
  .rw[UU e];exact h.2.2
  rw[U1 e];exact z
theorem Hs{kvs:List Ent}{xs:List (List Itm×U0×UW)}(r:Paired RE kvs xs)(k:List Itm)(b:U0){v:V}{u:UW}(B:RelV v u):Paired RE (put2 kvs k b v) (XU xs k b u):=by
 have q:=(vS r k).qo;rw[TZ]at q;unfold put2 XU;rw[q];by_cases e:(atKey xs k).isSome=true
 .rw[UZ e,UZ e];clear q e
  induction r with
  |nil=>exact .nil
  | @cons p q ps D h t z =>
   refine .cons ?_ z;unfold putAt;dsimp only;by_cases e:p.1=k
   .rw[UZ e,UZ (h.1▸e)];exact⟨h.1,h.2.1,B⟩
   rw[UX e,UX (h.1▸e)];exact h
 rw[UX e,UX e];clear q e
 induction r with
 |nil=>exact .cons ⟨rfl,rfl,B⟩ .nil
 |cons h t z=>exact .cons h z
theorem BE(kvs:List Ent)(k:List Itm)(b:U0)(v:V):(put2 kvs k b v).length<=kvs.length+1:=by
 unfold put2;split <;> simp
def BF(P:U8)(w:Va)(a:U0)(kvs:List Ent):Vi->Prop:=λh=>kvs.length<=U7/\(a==Vr)=false/\∃xs,Paired RE kvs xs /\
 ∃o z ep,h.get? a=YN o/\o.ExactDict/\o.data=.dict z ep/\z.toList=xs.map (Xh (iy P w))/\(xs.map (·.1)).Nodup
noncomputable def iZ(P:U8)(w:Va)(a:U0)(kvs:List Ent):HO:=.ext (BF P w a kvs)
theorem BF.ok{P:U8}{w:Va}{a:U0}{kvs:List Ent}{H:Hp}{h:Vi}(q:BF P w a kvs h):bq P w H h a (iZ P w a kvs):=by
 refine⟨q,?_,λL M D g=>?_⟩
 .obtain⟨_,_,_,_,o,_,_,B,_⟩:=q;exact⟨o,B⟩
 obtain⟨z,y,xs,r,o,J,ep,B,t⟩:=D;exact⟨z,y,xs,r,o,J,ep,g o B,t⟩
noncomputable def IV(H:Hp):Itm->V->Prop
 |.inl k,v=>v=kV k
 |.inr l,v=>∃c,v=.ref c/\H c=YN (.tup (l.map kV))
def K2(H:Hp)(k:List Itm)(b:U0):Prop:=∃vs,H b=YN (.tup vs)/\Paired (IV H) k vs
def D2(P:U8)(w:Va)(H:Hp)(a:U0)(kvs:List Ent):Prop:=H a=YN (iZ P w a kvs)/\∀p∈kvs,K2 H p.1 p.2.1
theorem K2.keep{H z:Hp}{k:List Itm}{b:U0}(q:K2 H k b)(g:∀c ys,H c=YN (.tup ys)->z c=YN (.tup ys)):K2 z k b:=by
 obtain⟨vs,e,r⟩:=q;refine⟨vs,g _ _ e,Paired.q9 r λk v=>?_⟩;cases k with
 |inl k=>exact id
 |inr l=>exactλ⟨c,e,q⟩=>⟨c,e,g _ _ q⟩
theorem D2.keep{P:U8}{w:Va}{H z:Hp}{a:U0}{kvs:List Ent}(d:D2 P w H a kvs)(e:z a=H a)(g:∀c ys,H c=YN (.tup ys)->z c=YN (.tup ys)):D2 P w z a kvs :=
 ⟨e.trans d.1,λp B=>(d.2 p B).keep g⟩
section
variable {P:U8}{w:Va}{H:Hp}{h:Vi}{a b:U0}
theorem oK{k:List Itm}(ok:iG P w H h)(q:K2 H k b):rS P w h k b:=by
 obtain⟨vs,e,r⟩:=q;obtain⟨O,its,z,o,B,D,n,J⟩:=(show bq P w H h b (.tup vs)from ok b _ e)
 refine⟨o,its.toArray,n,B,D,J,?_⟩;clear O;show Ai P w h k its;clear J B D e
 induction r generalizing its with
 |nil=>cases z;exact .nil
 | @cons k v ks vs L t V =>
  cases z with
  |cons M Z =>
   refine .cons ?_ (V _ Z);cases k with
   |inl k=>cases(show v=kV k from L);exact qq M
   |inr l=>obtain⟨c,e,q⟩:=L;subst e;exact⟨c,M,lR ok q⟩
theorem qF{kvs:List Ent}(ok:iG P w H h)(d:D2 P w H a kvs):kvs.length<=U7/\(a==Vr)=false/\∃xs,Paired RE kvs xs/\h.DictOfH (iy P w) a xs:=by
 obtain⟨⟨z,y,xs,r,o,J,ep,L,M,O,V,Z⟩,_⟩:=(show bq P w H h a (iZ P w a kvs)from ok a _ d.1)
 refine⟨z,y,xs,r,o,J,ep,L,M,O,V,?_,Z⟩;have all:∀{l:List Ent}{m:List (List Itm×U0×UW)},Paired RE l m->(∀p∈l,K2 H p.1 p.2.1)->∀x∈m,rS P w h x.1 x.2.1:=by
  intro l m q
  induction q with
  |nil=>intro _ x B;exact nomatch B
  | @cons p q ps qs D t ih =>
   intro g x B;rcases Pu.mp B with e|B
   .subst e;rw[<-D.1,<-D.2.1];exact oK ok (g p Pb)
   exact ih (λp hp=>g p (Pn _ hp)) x B
 exact all r d.2
end
section
variable {X:Cx}{pins:List (U0×VH)}{σ:L2.St}{H:Hp}{s:U2}{a b:U0}{kvs:List Ent}{k:List Itm}{v:V}{u r:UW}{A:Vh}{E:UW->U2->Prop}
theorem kM(z:A.units+2<cLine):(iy X.prog X.w).room A.in1:=show A.in1.units+1<cLine from by show A.units+1+1<cLine;omega
theorem vT{Q:UW->U2->Prop}(L:A.units+2<cLine)(I:Inv X pins σ H s)(d:D2 X.prog X.w H a kvs)(M:K2 H k b)(l:mY kvs k=YN v)(h:∀w' s',Inv X pins σ H s'->RelV v w'->Q w' s') :
  wpAny (model X.prog X.w) A (XD (.ref a) (.ref b)) Q E s:=by
 obtain⟨z,hd,xs,B,O⟩:=qF I.bj d;obtain⟨w',hw,D⟩:=j7.some_of (v:=v) (o:=(atKey xs k).map (·.2)) (by rw[<-l];exact vS B k);obtain⟨p,V,J⟩:=Pl.mp hw;refine WU (knd:=iy X.prog X.w) (kM L) (oK I.bj M) O V ?_;rw[J];exact h w' _ (I.tok _) D
theorem vU{Q:Unit->U2->Prop}(M:A.units+2<cLine)(I:Inv X pins σ H s)(d:D2 X.prog X.w H a kvs)(O:K2 H k b)(hl:kvs.length<U7)(V:RelV v r)
  (h:∀s',Inv X pins σ (upd H a (iZ X.prog X.w a (put2 kvs k b v))) s'->Q () s'):wpAny (model X.prog X.w) A (YF (.ref a) (.ref b) r) Q E s:=by
 obtain⟨z,hd,xs,B,Z⟩:=qF I.bj d;have hz:xs.length<=sizeLine:=by rw[<-Paired.length B];exact z
 have D:(put2 kvs k b v).length<=sizeLine:=by have:=BE kvs k b v;omega
 refine XO (knd:=iy X.prog X.w) (hsz:=hz) (kM M) (oK I.bj O) Z λh' J hs=>h _ ?_;obtain⟨q,es,ep,L,h2,h3,h4,_,h5⟩:=J;exact jq I (by rw[d.1];exact True.intro) hs ⟨q,L⟩ (BF.ok ⟨D,hd,_,Hs B k b V,q,es,ep,L,h2,h3,h4,h5⟩)
theorem D2.put{P:U8}{w:Va}{H:Hp}{a b:U0}{kvs:List Ent}{k:List Itm}{v:V}(d:D2 P w H a kvs)(J:K2 H k b):D2 P w (upd H a (iZ P w a (put2 kvs k b v))) a (put2 kvs k b v):=by
 have g:∀c ys,H c=YN (.tup ys)->upd H a (iZ P w a (put2 kvs k b v)) c=YN (.tup ys):=λc ys e=>by
  rw[au (λz=>by rw[z,d.1]at e;cases e)];exact e
 refine⟨ag,λp B=>?_⟩;unfold put2 at B
 split at B
 .obtain⟨q,L,e⟩:=O6.mp B;have D:=(d.2 q L).keep g;by_cases z:q.1=k
  .rw[UZ z]at e;subst e;exact D
  rw[UX z]at e;subst e;exact D
 rcases Po.mp B with B|B
 .exact(d.2 p B).keep g
 rw[O4.mp B];exact J.keep g
end
theorem xR{X:Cx}{pins:List (U0×VH)}{σ:L2.St}{H:Hp}{s:U2}{a:U0}{kvs:List Ent}(I:Inv X pins σ H s)(d:D2 X.prog X.w H a kvs):s.TypeIs (.ref a) "dict":=by
 obtain⟨_,_,xs,_,z⟩:=qF I.bj d;exact z.typeIs
def FK(P:U8)(w:Va):TE:=λ_ H Q=>∀p,H p=none->Q (.ref p) (upd H p (iZ P w p []))
def FL(P:U8)(w:Va)(B ty:TE):TE:=λσ H Q=>B σ H λx D=>ty σ D λy z=>∃a b kvs k v,x=.ref a/\y=.ref b/\D2 P w z a kvs/\K2 z k b/\mY kvs k=YN v/\Q v z
def FN(P:U8)(w:Va)(B ty J:TE):TS:=λD σ H=>J σ H λv L=>B σ L λx M=>ty σ M λy z=>∃a b kvs k,x=.ref a/\y=.ref b/\D2 P w z a kvs/\K2 z k b/\kvs.length<U7/\D.nx σ (upd z a (iZ P w a (put2 kvs k b v)))
section
variable {X:Cx}{o i e value:Vk}{pos pos' MR:WG}{td ty tv:TE}
theorem D6:PE X (.Dict [] [] pos) (FK X.prog X.w):=λpins s σ H Q I h =>
 Xf ⟨.ref s.heap.objs.size,_,I.laid (a:=s.heap.objs.size) (o:=iZ X.prog X.w s.heap.objs.size []) (t':=s.toks) (λ_ _ q=>O8 _ q) (O5 _)
  (BF.ok ⟨Qb _,beq_eq_false_iff_ne.mpr (Ne.symm (PH I.big)),[],.nil,_,#[],0,Pm _ rfl,⟨rfl,rfl,rfl⟩,rfl,rfl,QK⟩),rfl,h _ (I.bj.fresh (O5 _))⟩
theorem D7(D:X.A.units+2<cLine)(J:PE X o td)(hi:PE X i ty)(L:AE i):PE X (.Subscript o i pos) (FL X.prog X.w td ty):=by
 intro pins s σ H Q I h;refine rA RN.lookup L (bR (J pins s σ H _ I h) λu M ⟨x,O,V,Z,q1⟩=>bR (hi pins M σ O _ V q1) λiv s2 zq=>?_);obtain⟨y,H2,B,ry,a,b,kvs,k,v,ex,ey,d,hk,l,q2⟩:=zq;subst ex ey;obtain rfl:u=Value.ref a:=Z;obtain rfl:iv=Value.ref b:=ry;exact⟨xR B d,vT D B d hk l λw' s3 I3 z=>⟨v,H2,I3,z,q2⟩⟩
theorem D8(z:X.A.units+2<cLine)(B:PE X o td)(hi:PE X i ty)(J:PE X value tv)(L:Xe value (YN (.Subscript o i pos')) pos.line X.env=pure false) :
  PS X (.Assign [.Subscript o i pos'] value pos) (FN X.prog X.w td ty tv):=by
 intro pins s σ H D I h;refine Xi (bR (J pins s σ H _ I h) λr M ⟨v,O,V,Z,q1⟩=>bR (B pins M σ O _ V q1) λu s2 ⟨x,H2,I2,rx,q2⟩=>bR (hi pins s2 σ H2 _ I2 q2) λiv s3 zq=>?_) L;obtain⟨y,H3,I3,ry,a,b,kvs,k,ex,ey,d,hk,l,q3⟩:=zq;subst ex ey;obtain rfl:u=Value.ref a:=rx;obtain rfl:iv=Value.ref b:=ry;exact vU z I3 d hk l Z λs4 I4=>⟨σ,_,I4,q3⟩
end
end NK
namespace Ag
open PySem PySem.Spec PyProof.Rows PySem.W
def J9(h:Vi)(d:U0)(z:Array V0)(ep:Nat):Prop:=∃o,h.get? d=YN o/\o.cls=.type "dict"/\o.data=.dict z ep
section
variable {prog:U8}{w:Va}{A:Vh}{E:UW->U2->Prop}{s:U2}
theorem J9.typeIs{d:U0}{z:Array V0}{ep:Nat}(x:J9 s.heap d z ep):s.TypeIs (.ref d) "dict":=let⟨o,B,D,_⟩:=x;⟨o,B,D⟩
theorem y9{d:U0}{D:Array V0}{ep:Nat}{Q:UW->U2->Prop}(hd:(d==Vr)=false)(H:J9 s.heap d D ep)
  (L:Q (.ref s.heap.objs.size) { s with heap:=s.heap.push { cls:=.type "dict_keyiterator",data:=.fields #[.ref d,.int 0 0,.int D.size 0,.int ep 0] } }):wpAny (model prog w) A (pyIter (.ref d)) Q E s:=by
 obtain⟨o,J,M,z⟩:=id H;have B:=H.typeIs;refine V4 B F.slot_dict_iter (Vc F.slot_dict_iter B F.entry_dict_iter ?_ (F.args_dict_iter_1 _));unfold Builtin.«dict.__iter__»;refine UR ?_;unfold Builtin.Dict.dictSlotNone;refine UR (VS B ?_);show wpAny _ _ (pure (Value.ref d)) _ _ s;refine UY ?_;show wpAny _ _ (Builtin.Dict.showsAll d >>= _) _ _ s;unfold Builtin.Dict.showsAll;rw[UX (by rw[hd];exact Pq)];refine UR (UY (UR (Vt J z (UR (V2 J z ?_)))));refine UR (Vg (UY ⟨_,rfl,"dict_keyiterator",_,⟨_,Pm _ rfl,rfl⟩,F.slot_dict_keyiterator_next.lookup,?_⟩));simpa[rawInt]using L
theorem zc{B d:U0}{i ep:Nat}{H:Array V0}{Q:Option UW->U2->Prop}(z:s.heap.IsKeyIter B d i H.size ep)(Z:J9 s.heap d H ep)(O:i<H.size)
  (hQ:∀h',h'.IsKeyIter B d (i+1) H.size ep->Heap.SameBut B s.heap h'->Q (YN H[i].key) { s with heap:=h' }):wpAny (model prog w) A (pyNext (.ref B)) Q E s:=by
 obtain⟨o,V,hc,hd⟩:=id z;obtain⟨od,J,Fw,L⟩:=id Z;unfold pyNext;refine UR (VC (wpAny_callSpecial?_slot (name:=Str.ofString "__next__") z.typeIs F.slot_dict_keyiterator_next (Vc F.slot_dict_keyiterator_next z.typeIs F.entry_dict_keyiterator_next ?_ (F.args_dict_keyiterator_next_1 _))));refine UR (UY (UR (UR ?_)))
 (first|refine UR (VI z.typeIs (UY ?_))|refine UR (VY z.typeIs (UY ?_)));refine UR (VR V hd ?_)
 have M:Builtin.Dict_items.ownsTuple "dict_keyiterator" = false:=by decide
 simp only[M,Ql,Vu];show wpAny _ _ (if(Value.ref d==Value.none)=true then _ else _) _ _ s;rw[UX (show¬((Value.ref d==Value.none)=true)from Pq)];refine UR (UY (UR (Vt J L ?_)));rw[UX (by simp)];refine UR (UY (UR (V2 J L ?_)));rw[UX (by simp)];refine UY ?_;simp only[show¬((i:Int)<0)from by omega,Vu,Pp,PL O];refine UR ?_
 (first|refine UR (VI z.typeIs (UY ?_))|refine UR (VY z.typeIs (UY ?_)));refine UR (Xp z.typeIs ?_)
 show wpAny _ _ (Xs (.ref B) 1 (rawInt ((i:Int)+1)) >>= _) _ _ s;refine UR (Vv V hd (by simp) ?_);have D:(s.heap.update B (Obj.mapFields (·.setIfInBounds 1 (rawInt ((i:Int)+1))))).IsKeyIter B d (i+1) H.size ep:=⟨_,Qz _ V (Obj.isFreed_of_fields (Obj.data_mapFields hd _)),(Obj.cls_mapFields ..).trans hc,by rw[Obj.data_mapFields hd];simp[rawInt]⟩
 refine UR (Vj ?_);refine UR (Xp (s:={ s with heap:=s.heap.update B (Obj.mapFields (·.setIfInBounds 1 (rawInt ((i:Int)+1)))) }) D.typeIs ?_);show wpAny _ _ (pure H[i].key) _ _ _;exact UY (UY ⟨_,rfl,UY (hQ _ D (Heap.SameBut.update ..))⟩)
theorem BG{L d:U0}{ep:Nat}{B:Array V0}{Q:Option UW->U2->Prop}(O:A.handled=none)(z:s.heap.IsKeyIter L d B.size B.size ep)(V:J9 s.heap d B ep)
  (Z:∀h',Heap.ExtBut L s.heap h'->Q none { s with heap:=h' }):wpAny (model prog w) A (pyNext (.ref L)) Q E s:=by
 obtain⟨o,M,hc,hd⟩:=id z;obtain⟨od,D,Fw,H⟩:=id V;unfold pyNext;refine UR (VC (wpAny_callSpecial?_slot (name:=Str.ofString "__next__") z.typeIs F.slot_dict_keyiterator_next (Vc F.slot_dict_keyiterator_next z.typeIs F.entry_dict_keyiterator_next ?_ (F.args_dict_keyiterator_next_1 _))));refine UR (UY (UR (UR ?_)))
 (first|refine UR (VI z.typeIs (UY ?_))|refine UR (VY z.typeIs (UY ?_)));refine UR (VR M hd ?_)
 have J:Builtin.Dict_items.ownsTuple "dict_keyiterator" = false:=by decide
 simp only[J,Ql,Vu];show wpAny _ _ (if(Value.ref d==Value.none)=true then _ else _) _ _ s;rw[UX (show¬((Value.ref d==Value.none)=true)from Pq)];refine UR (UY (UR (Vt D H ?_)));rw[UX (by simp)];refine UR (UY (UR (V2 D H ?_)));rw[UX (by simp)];refine UY ?_;simp only[show¬((B.size:Int)<0)from by omega,Vu,Pp,Ru (O5 B.size)];refine UR ?_
 (first|refine UR (VI z.typeIs (UY ?_))|refine UR (VY z.typeIs (UY ?_)));show wpAny _ _ (Xs (.ref L) 0 .none >>= _) _ _ s
 refine UR (Vv M hd (by simp) ?_);show wpAny _ _ (newExc (.type "StopIteration") [] >>= _) _ _ _;refine UR ?_;simp only[newExc,XY];refine UR (Vg ?_ (by size_fits));refine UR (m:=VQ _ _) (W7 (a:=Value.none) (by first|rfl|(simp only[VQ];rfl)) ?_);refine Vg ?_ (by size_fits);simp only[XZ];refine UR (Xa ?_);rw[show A.in1.handled=none from O];refine UR (UY (Xr ?_));refine UR (Vz (T:="StopIteration") (b:=true) ⟨_,Pm _ rfl,rfl⟩ WX ?_);exact UY (Z _ (((Heap.SameBut.update ..).extBut.push _).push _))
end
end Ag
namespace NK
open PySem PySem.Spec PyProof.Rows L2
noncomputable instance acX{k:List Itm}{ks:List (List Itm)}:Decidable (k∈ks):=decidable_of_iff (ks.any (λx=>decide (x=k))=true) (by simp)
noncomputable def xS(H:Hp):Hp:=λb=>match H b with
 |some (.tup xs)=>YN (.tup xs)
 |_=>none
theorem qG{H:Hp}{b:U0}{xs:List V}(e:H b=YN (.tup xs)):xS H b=YN (.tup xs):=by unfold xS;rw[e]
theorem uk{P P':U8}{w w':Va}{H:Hp}{h:Vi}(ok:iG P w H h):iG P' w' (xS H) h:=λb o e=>by
 unfold xS at e
 split at e
 .next xs z =>
  cases e;exact(show bq P w H h b (.tup xs)from ok b _ z)
 cases e
theorem BH{P P':U8}{w w':Va}{H:Hp}{h:Vi}{k:List Itm}{b:U0}(ok:iG P w H h)(q:K2 H k b):rS P' w' h k b :=
 oK (uk (P':=P') (w':=w') ok) (q.keep λc ys e=>qG e)
section
variable {X:Cx}{pins:List (U0×VH)}{σ:L2.St}{H:Hp}{s:U2}{A:Vh}
theorem Ka(I:Inv X pins σ H s)(z:A.units+1<cLine){x y:List Itm}{a b:U0}(B:K2 H x a)(D:K2 H y b):SeqAt.EqAt A s (.ref a) (.ref b) (decide (x=y)):=λprog w' E Q J =>
 BD (P:=prog) (w:=w') z (BH I.bj B) (BH I.bj D) J
theorem Kb(I:Inv X pins σ H s)(z:A.units<cLine){x y:Itm}{u v:UW}(B:∀P w,pM P w s.heap x u)(D:∀P w,pM P w s.heap y v):SeqAt.EqAt A s u v (decide (x=y)):=λprog w' E Q J =>
 FJ (P:=prog) (w:=w') z (B _ _) (D _ _) J
end
def df(H:Hp)(l:U0)(ks:List (List Itm)):Prop:=∃bs:List U0,H l=YN (.lst (bs.map V.ref))/\bs.length=ks.length/\∀(i:Nat) (b:U0) (k:List Itm),bs[i]?=YN b->ks[i]?=YN k->K2 H k b
section
variable {X:Cx}
theorem K2.inj{H:Hp}{x y:List Itm}{b:U0}(M:K2 H x b)(O:K2 H y b):x=y:=by
 obtain⟨vs,e1,V⟩:=M;obtain⟨ws,e2,J⟩:=O;rw[e1]at e2;cases e2;clear e1
 induction V generalizing y with
 |nil=>cases J;rfl
 | @cons k v ks vs h t Z =>
  cases J with
  | @cons L _ ks' _ h' t' =>
   rw[Z t'];congr 1;cases k with
   |inl a =>
    cases L with
    |inl D =>
     have h:v=kV a:=h;have h':v=kV D:=h';congr 1;have z:=h.symm.trans h';cases a <;> cases D <;> cases z <;> rfl
    |inr l' =>
     have h:v=kV a:=h;obtain⟨c,e,_⟩:=h';cases a <;> (rw[h]at e;cases e)
   |inr l =>
    obtain⟨c,e,q⟩:=h;cases L with
    |inl D =>
     have h':v=kV D:=h';cases D <;> (rw[h']at e;cases e)
    |inr l' =>
     obtain⟨c',e',B⟩:=h';cases e.symm.trans e';rw[q]at B;injection B with B;injection B with B;congr 1;have inj:∀a b:Key,kV a=kV b->a=b:=λa b z=>by cases a <;> cases b <;> cases z <;> rfl
     exact(Ri (f:=kV) inj).mp B
open Classical in
noncomputable def zd(H:Hp)(b:U0):List Itm:=if h:∃k,K2 H k b then h.choose else[]
theorem nB{H:Hp}{k:List Itm}{b:U0}(h:K2 H k b):zd H b=k:=by
 have e:∃k,K2 H k b:=⟨k,h⟩
 unfold zd;rw[dif_pos e];exact K2.inj e.choose_spec h
open Classical in
noncomputable def BI(H:Hp)(k:List Itm):UW->Bool
 |.ref b=>decide (zd H b=k)
 |_=>false
def Kc(neg:Bool):R2:=λx y H Q=>∃(b l:U0) (k:List Itm) (ks:List (List Itm)),x=.ref b/\y=.ref l/\K2 H k b/\df H l ks/\Q (.bl (neg != decide (k∈ks))) H
theorem df.any{H:Hp}{l b:U0}{k:List Itm}{ks:List (List Itm)}{bs:List U0}(L:bs.length=ks.length)(z:∀(i:Nat) (b:U0) (k:List Itm),bs[i]?=YN b->ks[i]?=YN k->K2 H k b):(bs.map Value.ref).toArray.any (BI H k)=decide (k∈ks):=by
 rw[show(bs.map Value.ref).toArray.any (BI H k)=(bs.map Value.ref).any (BI H k) by simp,QA,Qv,U9];constructor
 .rintro⟨v,B,hz⟩;obtain⟨c,D,rfl⟩:=O6.mp B;obtain⟨i,hi,rfl⟩:=PC D;have e:=z i _ _ (O1 hi) (O1 (by omega));have hz:zd H bs[i]=k:=U6 hz;rw[nB e]at hz;rw[<-hz];exact PU _
 intro J;obtain⟨i,hi,rfl⟩:=PC J;have e:=z i _ _ (O1 (show i<bs.length by omega)) (O1 hi);exact⟨_,O6.mpr ⟨_,PU _,rfl⟩,UU (nB e)⟩
theorem df.eqs{pins:List (U0×VH)}{σ:L2.St}{H:Hp}{s:U2}(I:Inv X pins σ H s){A:Vh}(J:A.units+1<cLine){b:U0}{k:List Itm}{ks:List (List Itm)}{bs:List U0}(L:K2 H k b)(Z:bs.length=ks.length)(M:∀(i:Nat) (b:U0) (k:List Itm),bs[i]?=YN b->ks[i]?=YN k->K2 H k b) :
  ∀v,v∈(bs.map Value.ref).toArray->SeqAt.EqAt A s v (.ref b) (BI H k v):=λv O=>by
 obtain⟨c,V,rfl⟩:=O6.mp (show v∈bs.map Value.ref by simpa using O);obtain⟨i,hi,rfl⟩:=PC V;have e:=M i _ _ (O1 hi) (O1 (by omega));have z:=Ka (A:=A) I J e L;show SeqAt.EqAt _ _ _ _ (decide (zd H bs[i]=k));rw[nB e];have q:∀(p:Prop) (B D:Decidable p),@decide p B=@decide p D:=λp B D=>by congr
 rw[q _ _ (instDecidableEqList _ _)];rw[q _ (instDecidableEqList _ _) (instDecidableEqList _ _)]at z;exact z
theorem Ht(Z:X.A.units+2<cLine):jA X (VE .In) (Kc false):=by
 intro pins s σ H x y v u Q I D J h;obtain⟨b,l,k,ks,rfl,rfl,L,⟨bs,M,z,B⟩,q⟩:=h;cases D;cases J;obtain⟨its,r,O,hz⟩:=I.list (aM.of M);have V:its=bs.map Value.ref:=ir r;subst V;refine SeqAt.in_listAt (BI H k) O.isList (df.eqs I (by show X.A.units+1+1<cLine;omega) L z B) ⟨.bl _,H,I,rfl,?_⟩;rw[df.any (l:=l) (b:=b) z B];have:(false != decide (k∈ks))=decide (k∈ks):=by cases decide (k∈ks) <;> rfl
 rw[<-this];exact q
theorem zf(Z:X.A.units+2<cLine):jA X (VE .NotIn) (Kc true):=by
 intro pins s σ H x y v u Q I D J h;obtain⟨b,l,k,ks,rfl,rfl,L,⟨bs,M,z,B⟩,q⟩:=h;cases D;cases J;obtain⟨its,r,O,hz⟩:=I.list (aM.of M);have V:its=bs.map Value.ref:=ir r;subst V;refine SeqAt.notIn_listAt (BI H k) O.isList (df.eqs I (by show X.A.units+1+1<cLine;omega) L z B) ⟨.bl _,H,I,rfl,?_⟩;rw[df.any (l:=l) (b:=b) z B];have:(true != decide (k∈ks))=!decide (k∈ks):=by cases decide (k∈ks) <;> rfl
 rw[<-this];exact q
end
open AutoSeq1 (wpAny_loadPart')
open MeetsSeq MeetsSeq2 MeetsSeq3 SeqRoads2
theorem D9(l:U0)(its:Array UW)(n:Nat)(x:UW)(e:UW->Bool)(j:Nat)(D:j<its.size)(H:e its[j]=true)(hz:its.size<=U7)(m:Nat) :
  ∀i:Nat,j-i=m->i<=j->(∀q (M:q<its.size),i<=q->q<j->e its[q]=false)->Meets (Builtin.«list.remove.loop» ⟨[.ref l,x,rawInt i],[]⟩)
   (λA R s=>s.heap.get? l=YN { cls:=.type "list",dict:=none,data:=.seq its n,slots:=#[] }/\(∀y,y∈its->SeqAt.EqAt A.in1 s y x (e y))/\R (.ok (.ret .none)) { s with heap:=s.heap.update l (Obj.mapSeq λxs=>xs.eraseIdxIfInBounds j) }):=by
 induction m with
 |zero =>
  intro i O J _ P w A R s ⟨z,B,L⟩;obtain⟨V,Z,s3,s4,s5⟩:=s;obtain rfl:i=j:=by omega
  wp_walk using Vw z
  rw[show its[((i:Nat):Int).toNat]?=YN its[i] by simp[D]];refine UR (B its[i] (T6 D) P w _ _ ?_);rw[H];have z2:(its.eraseIdxIfInBounds i).size<=U7+1:=Nat.le_succ_of_le (PK (by simp[Array.eraseIdxIfInBounds,D]) hz)
  wp_walk using(WL z rfl (hz:=hz) (_hz':=z2)),Vw z
  simpa using L
 |succ m ih =>
  intro i O J no P w A R s ⟨z,B,L⟩;obtain⟨V,Z,s3,s4,s5⟩:=s;have lt:i<its.size:=by omega
  wp_walk using Vw z
  rw[show its[((i:Nat):Int).toNat]?=YN its[i] by simp[lt]];refine UR (B its[i] (T6 lt) P w _ _ ?_);rw[no i lt (O5 _) (by omega)]
  wp_walk
  rw[show((i:Int)+1)=((i+1:Nat):Int) by push_cast;rfl];refine⟨VX plain_remove_loop _,VO entry_remove_loop ?_⟩;rw[Around.under_plainId plain_remove_loop _];exact ih (i+1) (by omega) (by omega) (λq M h1 h2=>no q M (by omega) h2) P w A R _ ⟨z,B,L⟩
theorem Ea(l:U0)(its:Array UW)(n:Nat)(x:UW)(e:UW->Bool)(j:Nat)(H:j<its.size)(z:e its[j]=true)(no:∀q (B:q<its.size),q<j->e its[q]=false)(hz:its.size<=U7) :
  Meets (Builtin.«list.remove» ⟨[.ref l,x],[]⟩)
   (λA R s=>s.heap.get? l=YN { cls:=.type "list",dict:=none,data:=.seq its n,slots:=#[] }/\(∀y,y∈its->SeqAt.EqAt A.in1 s y x (e y))/\R (.ok (.ret .none)) { s with heap:=s.heap.update l (Obj.mapSeq λxs=>xs.eraseIdxIfInBounds j) }):=by
 intro P w A R s ⟨D,J,L⟩;obtain⟨O,V,Z,s4,s5⟩:=s
 wp_walk using Vw D
 refine⟨VX plain_remove_loop _,VO entry_remove_loop ?_⟩;rw[Around.under_plainId plain_remove_loop _];exact D9 l its n x e j H z hz _ 0 rfl (Qb _) (λq B _ M=>no q B M) P w A R _ ⟨D,J,L⟩
section
variable {X:Cx}
theorem dZ{α β:Type}(f:α->β):∀(l:List α) (j:Nat),(l.map f).eraseIdx j=(l.eraseIdx j).map f
 |[],_=>rfl
 |_::_,0=>rfl
 |a::r,j+1=>by
  show f a::(r.map f).eraseIdx j=f a::(r.eraseIdx j).map f;rw[dZ f r j]
def Nr:V->List V->Hp->VK->Prop:=λx vs H Q=>∃(l b:U0) (k:List Itm) (ks:List (List Itm)) (bs:List U0) (j:Nat),x=.ref l/\vs=[.ref b]/\K2 H k b/\H l=YN (.lst (bs.map V.ref))/\bs.length=ks.length/\(∀(i:Nat) (b:U0) (k:List Itm),bs[i]?=YN b->ks[i]?=YN k->K2 H k b)/\ks[j]?=YN k/\(∀i,i<j->ks[i]?≠YN k)/\Q .fF (upd H l (.lst ((bs.eraseIdx j).map V.ref)))
theorem Hu(hu:X.A.units+2<cLine):Fz X "list.remove" Nr:=by
 intro pins s σ H x vs v us Q I V Z h;obtain⟨l,b,k,ks,bs,j,rfl,rfl,hk,L,h2,M,O,D,q⟩:=h;cases V;obtain⟨u,rfl,ru⟩:=Z.one;cases ru;obtain⟨z,its,n,r,hl,e⟩:=I.nU L;have er:its=bs.map Value.ref:=ir r;subst er;have hj:j<ks.length:=(O2.mp O).1;have B:∀i (hi:i<ks.length),BI H k ((bs.map Value.ref).toArray[i]'(by simp;omega))=decide (ks[i]=k):=λi hi=>by
  have e:=M i _ _ (O1 (show i<bs.length by omega)) (O1 hi);have e2:(bs.map Value.ref).toArray[i]'(by simp;omega)=Value.ref (bs[i]'(by omega)):=by simp
  rw[e2];show decide (zd H _=k)=_;rw[nB e]
 refine Wd F.slot_list_remove ⟨_,e,rfl⟩ F.entry_list_remove (F.args_list_remove_2 _ _) (Ea l (bs.map Value.ref).toArray n (.ref b) (BI H k) j (by simp;omega) ?_ ?_ (by rw[Pe];rw[O3]at z⊢;exact z)) ⟨e,df.eqs I (by show X.A.units+1+1<cLine;omega) hk h2 M,?_⟩
 .rw[B _ hj];exact UU ((O2.mp O).2)
 .intro i hi J;rw[B _ (by omega)];exact U1 λc=>D i J (by rw[O1 (by omega),c])
 refine⟨.fF,_,I.DH (its':=(bs.eraseIdx j).map Value.ref) L e ?_ ?_ ?_,rfl,q⟩
 .simp only[R6,dZ]
 .rw[<-dZ,<-dZ];exact r.eraseIdx _
 rw[O3];have:=qv bs j;rw[O3]at z;omega
end
section
variable {prog:U8}{w:Va}{A:Vh}{E:UW->U2->Prop}{s:U2}{K:Type}[DecidableEq K]{knd:HeapKind prog w K}
noncomputable def vV(xs:List (K×U0×UW))(k:K):List (K×U0×UW):=xs.filter λx=>decide (x.1≠k)
theorem erase_filter{α:Type}{β:Type}[DecidableEq β](f:α->β)(k:β):∀(xs:List α) (j:Nat) (x:α),(xs.map f).Nodup->xs[j]?=YN x->f x=k->xs.eraseIdx j=xs.filter λy=>decide (f y≠k)
 |[],j,x,_,h,_=>by simp at h
 |y::r,0,x,B,h,e=>by
  cases h;rw[Rc (by simp[e])];show r=_;refine(TF.mpr λz hz=>?_).symm;rw[Qk,Qj]at B;exact UU λc=>B.1 (by rw[e,<-c];exact TH hz)
 |y::r,j+1,x,B,h,e=>by
  rw[Qk,Qj]at B;have h':r[j]?=YN x:=h;have ne:f y≠k:=λc=>B.1 (by rw[c,<-e];exact TH (Pj h'));rw[Rf (by simp[ne])];show y::r.eraseIdx j=_;rw[erase_filter f k r j x B.2 h' e]
theorem zg(d a:U0)(k:K):YI prog w (Builtin.«dict.pop» ⟨[.ref d,.ref a],[]⟩) (λA R s=>∃xs v,knd.room A.in1/\knd.is s.heap k a/\s.heap.DictOfH knd d xs/\xs.length<=U7/\(∃(b:U0) (j:Nat),xs[j]?=YN (k,b,v)) /\
  ∀h',h'.DictOfH knd d (vV xs k)->Heap.SameBut d s.heap h'->R (.ok (.ret v)) { s with heap:=h',toks:=s.toks+knd.draws k }):=
 .of_wp λA R s zq=>by
  obtain⟨xs,v,Z,B,hm,hsz,⟨b,j,D⟩,hR⟩:=zq;obtain⟨o,J,ep,H,hc,hd,L,M,O⟩:=id hm;have V:J.size<=sizeLine:=by rw[Xo L];exact hsz
  have hjx:j<xs.length:=(O2.mp D).1;unfold Builtin.«dict.pop»;refine UR ?_;unfold Builtin.Dict.keyAndDefault;refine UR (VS hm.typeIs ?_);show wpAny _ _ (pure (d,Value.ref a,none)) _ _ s;refine UY ?_;dsimp only;rw[UX (show¬(keyPart (Value.ref a)).isSome=true from Pq)];have ne:J.isEmpty=false:=by
   rw[Array.isEmpty_eq_false_iff];intro z;have:=Xo L;rw[z]at this;simp at this;omega
  refine UR (Vt H hd (UR (UY ?_)));rw[ne];simp only[Ql,Vu];refine UR ?_;unfold Builtin.Dict.takeOut
  try with_reducible refine Vj ?_
  refine UR (knd.pyHash Z B (UR (XH (s:={ s with toks:=s.toks+knd.draws k }) Z B H hd L M O (λno=>U4 D (no j _)) ?_)));intro i p hi;obtain rfl:i=j:=idxH_unique O hi D;cases hi.symm.trans D;refine UR (Vt (s:={ s with toks:=s.toks+knd.draws k }) H hd ?_);rw[Yx L i,D];refine UR (Xx (hz:=V) (s:={ s with toks:=s.toks+knd.draws k }) H hd (UY ?_));simp only[Option.isNone_some,Ql,Vu];refine UR (Xt (UY ⟨v,rfl,hR _ ⟨_,_,ep+1,Qz _ H (Obj.isFreed_of_dict (Obj.data_mapDictKeys hd _)),hc.mapDictKeys _,Obj.data_mapDictKeys hd _,?_,?_,?_⟩ (Heap.SameBut.update ..)⟩))
  .have e1:(J.eraseIdxIfInBounds i).toList=J.toList.eraseIdx i:=by
    obtain⟨l⟩:=J;simp
   rw[e1,L,dZ,erase_filter (λx:K×U0×UW=>x.1) k xs i _ O D rfl]
   rfl
  .exactλx hx=>knd.keeps (M x (Pd.mp hx).1) H hd (Heap.SameBut.update ..)
  exact O.sublist ((Qn).map _)
end
section
variable {X:Cx}
noncomputable def i0(kvs:List Ent)(k:List Itm):List Ent:=kvs.filter λx=>decide (x.1≠k)
theorem Eb{kvs:List Ent}{xs:List (List Itm×U0×UW)}(r:Paired RE kvs xs)(k:List Itm):Paired RE (i0 kvs k) (vV xs k):=by
 induction r with
 |nil=>exact .nil
 | @cons p q ps B h t z =>
  unfold i0 vV;by_cases e:p.1=k
  .rw[Rc (by simp[e]),Rc (by simp[<-h.1,e])];exact z
  rw[Rf (by simp[e]),Rf (by simp[<-h.1,e])];exact .cons h z
theorem BJ{kvs:List Ent}{xs:List (List Itm×U0×UW)}(r:Paired RE kvs xs):∀{j:Nat}{k:List Itm}{b:U0}{v:V},kvs[j]?=YN (k,b,v)->∃u,xs[j]?=YN (k,b,u)/\RelV v u:=by
 induction r with
 |nil=>intro j k b v h;simp at h
 | @cons p q ps M h t B =>
  intro j k b v z;cases j with
  |zero =>
   cases z;obtain⟨O,Z,D⟩:=q;obtain⟨H,J,L⟩:=h;cases H;cases J;exact⟨D,rfl,L⟩
  |succ j=>exact B z
def FO(P:U8)(w:Va):V->List V->Hp->VK->Prop:=λx vs H Q=>∃(a c:U0) (kvs:List Ent) (k:List Itm) (v:V),x=.ref a/\vs=[.ref c]/\D2 P w H a kvs/\K2 H k c/\(∃(b:U0) (j:Nat),kvs[j]?=YN (k,b,v))/\Q v (upd H a (iZ P w a (i0 kvs k)))
theorem Ec(V:X.A.units+2<cLine):Fz X "dict.pop" (FO X.prog X.w):=by
 intro pins s σ H x vs v us Q I Z rv h;obtain⟨a,c,kvs,k,y,rfl,rfl,d,hk,⟨b,j,hj⟩,q⟩:=h;cases Z;obtain⟨u,rfl,ru⟩:=rv.one;cases ru;obtain⟨z,hd,xs,B,M⟩:=qF I.bj d;obtain⟨u,D,J⟩:=BJ B hj;have hz:xs.length<=sizeLine:=by rw[<-Paired.length B];exact z
 refine WQ F.slot_dict_pop M.typeIs F.entry_dict_pop (F.args_dict_pop_2 _ _) (zg (knd:=iy X.prog X.w) a c k) ⟨xs,u,kM V,oK I.bj hk,M,hz,⟨b,j,D⟩,λh' L hs=>?_⟩;obtain⟨o,es,ep,O,h2,h3,h4,_,h5⟩:=L;have hl:(i0 kvs k).length<=sizeLine:=PK (PJ _ _) z;exact⟨y,_,jq I (by rw[d.1];exact True.intro) hs ⟨o,O⟩ (BF.ok ⟨hl,hd,_,Eb B k,o,es,ep,O,h2,h3,h4,h5⟩),J,q⟩
theorem D2.drop{P:U8}{w:Va}{H:Hp}{a:U0}{kvs:List Ent}{k:List Itm}(d:D2 P w H a kvs):D2 P w (upd H a (iZ P w a (i0 kvs k))) a (i0 kvs k):=
 ⟨ag,λp B=>(d.2 p (Pd.mp B).1).keep λc ys e=>by rw[au (λz=>by rw[z,d.1]at e;cases e)];exact e⟩
end
open Ag
section
variable {X:Cx}{pins:List (U0×VH)}{σ:L2.St}{H:Hp}{s:U2}{a b:U0}{kvs:List Ent}{k:List Itm}{v:V}{o:VH}{A:Vh}{E:UW->U2->Prop}
noncomputable def rT(P:U8)(w:Va)(a:U0)(kvs:List Ent)(o:VH):HO:=.ext λh=>h.get? a=YN o/\BF P w a kvs h
def zh(P:U8)(w:Va)(H:Hp)(a:U0)(kvs:List Ent)(o:VH):Prop:=H a=YN (rT P w a kvs o)/\∀p∈kvs,K2 H p.1 p.2.1
theorem Hv{P:U8}{w:Va}{h:Vi}(q:BF P w a kvs h)(e:h.get? a=YN o):bq P w H h a (rT P w a kvs o):=
 ⟨⟨e,q⟩,⟨o,e⟩,λM O B g=>⟨g o B.1,by
  obtain⟨z,y,xs,r,D,J,ep,L,t⟩:=B.2;exact⟨z,y,xs,r,D,J,ep,g D L,t⟩⟩⟩
theorem rV{P:U8}{w:Va}{h:Vi}(ok:iG P w H h)(d:zh P w H a kvs o):h.get? a=YN o/\BF P w a kvs h:=by
 obtain⟨q,_⟩:=(show bq P w H h a (rT P w a kvs o)from ok a _ d.1)
 exact q
theorem BK{P:U8}{w:Va}{h:Vi}(ok:iG P w H h)(q:BF P w a kvs h)(J:∀p∈kvs,K2 H p.1 p.2.1):kvs.length<=U7/\(a==Vr)=false/\∃xs,Paired RE kvs xs/\h.DictOfH (iy P w) a xs:=by
 obtain⟨z,y,xs,r,o,L,ep,M,O,V,Z,h5⟩:=q;refine⟨z,y,xs,r,o,L,ep,M,O,V,Z,?_,h5⟩;have all:∀{l:List Ent}{m:List (List Itm×U0×UW)},Paired RE l m->(∀p∈l,K2 H p.1 p.2.1)->∀x∈m,rS P w h x.1 x.2.1:=by
  intro l m q
  induction q with
  |nil=>intro _ x B;exact nomatch B
  | @cons p q ps qs D t ih =>
   intro g x B;rcases Pu.mp B with e|B
   .subst e;rw[<-D.1,<-D.2.1];exact oK ok (g p Pb)
   exact ih (λp hp=>g p (Pn _ hp)) x B
 exact all r J
theorem D2.freeze(I:Inv X pins σ H s)(d:D2 X.prog X.w H a kvs):∃o B ep,s.heap.get? a=YN o/\o.cls=.type "dict"/\o.data=.dict B ep/\B.size=kvs.length/\Inv X pins σ (upd H a (rT X.prog X.w a kvs o)) s:=by
 obtain⟨q,_⟩:=(show bq X.prog X.w H s.heap a (iZ X.prog X.w a kvs)from I.bj a _ d.1)
 obtain⟨z,y,xs,r,o,B,ep,D,J,L,M,O⟩:=id q;have hsz:B.size=kvs.length:=by
  rw[r.length];have:=congrArg Ro M;rwa[PM,O3]at this
 exact⟨o,B,ep,D,J.1,L,hsz,I.write (x:=a) (e:=a) (t':=s.toks) (by rw[d.1];exact True.intro) (.inl rfl) (λb q V z=>z) ⟨o,D⟩ (Hv q D)⟩
theorem zh.Nt(I:Inv X pins σ H s)(d:zh X.prog X.w H a kvs o):Inv X pins σ (upd H a (iZ X.prog X.w a kvs)) s:=by
 obtain⟨e,q⟩:=rV I.bj d;exact I.write (x:=a) (e:=a) (t':=s.toks) (by rw[d.1];exact True.intro) (.inl rfl) (λb q B z=>z) ⟨o,e⟩ (BF.ok q)
theorem D2.to{P:U8}{w:Va}{H:Hp}(d:D2 P w H a kvs):zh P w (upd H a (rT P w a kvs o)) a kvs o :=
 ⟨ag,λp B=>(d.2 p B).keep λc ys e=>by rw[au (λz=>by rw[z,d.1]at e;cases e)];exact e⟩
end
section
variable {X:Cx}{o i:Vk}{pos:WG}{td ty:TE}
def Hw(P:U8)(w:Va)(td ty:TE):TE:=λσ H Q=>td σ H λx B=>ty σ B λy z=>∃a b kvs D k v,x=.ref a/\y=.ref b/\zh P w z a kvs D/\K2 z k b/\mY kvs k=YN v/\Q v z
theorem um{P:U8}{w:Va}(O:X.prog=P)(hw:X.w=w)(V:X.A.units+2<cLine)(Z:PE X o td)(hi:PE X i ty)(hs:AE i):PE X (.Subscript o i pos) (Hw P w td ty):=by
 subst O hw;intro pins s σ H Q I h;refine rA RN.lookup hs (bR (Z pins s σ H _ I h) λu s1 ⟨x,H1,I1,rx,q1⟩=>bR (hi pins s1 σ H1 _ I1 q1) λiv s2 zq=>?_);obtain⟨y,H2,B,ry,a,b,kvs,ob,k,v,ex,ey,d,hk,l,q2⟩:=zq;subst ex ey;obtain rfl:u=Value.ref a:=rx;obtain rfl:iv=Value.ref b:=ry;obtain⟨z,hd,xs,D,M⟩:=BK B.bj (rV B.bj d).2 d.2;obtain⟨w',hw,J⟩:=j7.some_of (v:=v) (o:=(atKey xs k).map (·.2)) (by rw[<-l];exact vS D k);obtain⟨p,hp,L⟩:=Pl.mp hw;refine⟨M.typeIs,WU (knd:=iy X.prog X.w) (kM V) (oK B.bj hk) M hp ?_⟩;rw[L];exact⟨v,H2,B.tok _,J,q2⟩
end
noncomputable def Nu(P:U8)(w:Va)(d:U0)(o:VH)(kvs:List Ent):It :=
 ⟨λi H=>i<kvs.length/\zh P w H d kvs o,λi H y z=>z=H/\∃k b v,kvs[i]?=YN (k,b,v)/\y=.ref b,λi H=>kvs.length<=i/\zh P w H d kvs o⟩
theorem Ee{P:U8}{w:Va}{K:Pc}{tg:Vk}(d J:U0)(o:VH)(kvs:List Ent)(O:Array V0)(ep:Nat)(V:o.cls=.type "dict")(Z:o.data=.dict O ep)(hsz:O.size=kvs.length) :
  Turn P w K tg (Nu P w d o kvs) [J] J (λi h=>i<=kvs.length/\h.IsKeyIter J d i O.size ep) where
 mem:=by simp
 obj:=λi h st b L=>by
  have e:b=J:=by simpa using L
  subst e;obtain⟨_,o,e,_,d⟩:=st;exact⟨_,e,λv z=>by rw[d]at z;cases z⟩
 keep:=λi h h' st k=>⟨st.1,st.2.at λo e=>k J (by simp) o e⟩
 item:=by
  intro X hP hw hK hc i pins s σ H E I hf st hg;subst hP hw hK;obtain⟨hi,dF⟩:=hg;obtain⟨_,B⟩:=st;obtain⟨ho,z,lo,xs,rel,od,M,Nk,h1,h2,h3,h4,h5⟩:=rV I.bj dF;obtain⟨f0,f1,f2,f3,f4,f5⟩:=hf J (by simp);have e1:od=o:=by rw[ho]at h1;exact(Option.some.inj h1).symm
  subst e1;have e2:M=O/\Nk=ep:=by rw[Z]at h3;cases h3;exact⟨rfl,rfl⟩
  obtain⟨rfl,rfl⟩:=e2;have Ah:i<M.size:=by omega
  have hx:kvs[i]?=YN (kvs[i].1,kvs[i].2.1,kvs[i].2.2):=O1 hi;obtain⟨u,LM,_⟩:=BJ rel hx;have ee:M[i]=Xh (iy X.prog X.w) (kvs[i].1,kvs[i].2.1,u):=by
   have e:=Yx h4 i;rw[LM,PL Ah]at e;exact Option.some.inj e
  refine zc B ⟨od,h1,V,h3⟩ Ah λh' D M6=>?_;have I1:Inv X pins σ H { s with heap:=h' }:=I.turned (t':=s.toks) (λb o L e=>(M6.2 b L).trans e) f0 f1 f3 f4 f5;obtain⟨oi,e,c,dd⟩:=id D;refine⟨_,rfl,qd (s:={ s with heap:=h' }) e c dd (by decide) ⟨.ref kvs[i].2.1,H,I1,?_,⟨rfl,_,_,_,hx,rfl⟩,⟨hi,D⟩,λb L=>(hf b L).1⟩⟩;rw[ee]
  rfl
 done:=by
  intro X hP hw hK hc i pins s σ H E I hf st hg;subst hP hw hK;obtain⟨hi,dF⟩:=hg;obtain⟨hle,B⟩:=st;obtain⟨ho,_⟩:=rV I.bj dF;obtain⟨f0,f1,f2,f3,f4,f5⟩:=hf J (by simp);have e3:i=O.size:=by omega
  rw[e3]at B;exact BG (I.ok.hd hc) B ⟨o,ho,V,Z⟩ λh' eb=>⟨rfl,I.turned (t':=s.toks) (λb o L e=>eb b o L e) f0 f1 f3 f4 f5⟩
 self:=λ_ _ _ _ _ st h=>wpAny_pyIter_keyiter st.2 h
section
variable {X:Cx}
noncomputable def iKs(P:U8)(w:Va)(to:TE):TI:=λσ H R=>to σ H λv z=>∃d kvs,v=.ref d/\D2 P w z d kvs/\∀o,R (Nu P w d o kvs) (upd z d (rT P w d kvs o))
theorem Ke{e M:Vk}{to:TE}(O:PE X e to):PI X M e (iKs X.prog X.w to):=by
 intro pins s σ H R I h;refine bR (O pins s σ H _ I h) λv V Z=>?_;obtain⟨x,H1,D,r1,d,kvs,ex,hd,q⟩:=Z;subst ex;cases(show v=Value.ref d from r1);obtain⟨o,es,ep,h1,J,L,h4,B⟩:=D2.freeze D hd;obtain⟨z,lo,_⟩:=qF D.bj hd;refine y9 lo ⟨o,h1,J,L⟩ ?_;refine⟨_,[_],_,_,_,rfl,B.kept (t':=V.toks) λb o e=>O8 _ e,Ee d _ o kvs es ep J L h4,⟨Qb _,⟨_,Pm _ rfl,rfl,rfl⟩⟩,λb hb=>?_,q o⟩;have e:=O4.mp hb;subst e;exact B.mT (O5 _) (B.bj.fresh (O5 _))
theorem xT{P:U8}{w:Va}{d:U0}{o:VH}{kvs:List Ent}{g:TG}{L:TT}{M:TE}{D:U0}{Q:VK}{z:L2.St}{H₀:Hp}(Pv:Nat->L2.St->Hp->Prop)(Z:Pv 0 z H₀)(hl:∀i σ H,i<=kvs.length->Pv i σ H->zh P w H d kvs o)
  (hs:∀i k b v σ H,kvs[i]?=YN (k,b,v)->Pv i σ H->g (.ref b) σ H λB H3=>L B H3 λb O=>if b=true then M B O λv V=>∃ys,V D=YN (.lst ys)/\ys.length<U7/\Pv (i+1) B (upd V D (.lst (ys++[v])))else Pv (i+1) B O)
  (hd:∀σ H,Pv kvs.length σ H->Q (.ref D) H):mD (Nu P w d o kvs) g L M D Q z H₀:=by
 refine⟨λi m σ H=>m=kvs.length-i/\i<=kvs.length/\Pv i σ H,⟨kvs.length,by simp,Qb _,Z⟩,?_⟩;rintro i m σ H ⟨rfl,hi,p⟩;have q:=hl i σ H hi p;by_cases J:i<kvs.length
 .refine .inr ⟨⟨J,q⟩,Pv (i+1),λσ' H' p'=>⟨kvs.length-(i+1),by omega,rfl,J,p'⟩,λx H' y=>?_⟩;obtain⟨e2,k,b,v,hx,e⟩:=y;subst e e2;exact hs i k b v σ _ hx p
 have e:i=kvs.length:=by omega
 subst e;exact .inl ⟨⟨O5 _,q⟩,hd σ H p⟩
def FP(P:U8)(w:Va)(t:TE):TE:=λσ H Q=>t σ H λv z=>∃a kvs o,zh P w z a kvs o/\Q v (upd z a (iZ P w a kvs))
theorem Ef{e:Vk}{t:TE}(z:PE X e t):PE X e (FP X.prog X.w t):=by
 intro pins s σ H Q I h;refine bR (z pins s σ H _ I h) λu J B=>?_;obtain⟨v,L,D,r,a,kvs,o,d,q⟩:=B;exact⟨v,_,zh.Nt D d,r,q⟩
def Kf(P:U8)(w:Va)(r:V->List V->Hp->VK->Prop)(to:TE)(t:TA):TE:=λσ H Q=>to σ H λx z=>(∃a kvs,x=.ref a/\D2 P w z a kvs)/\t σ z λvs B=>r x vs B Q
theorem Hx{o e:Vk}{D:List Vk}{name:Vl}{id:String}{apos B:WG}{r:V->List V->Hp->VK->Prop}{to:TE}{t:TA}(pa:XR "dict")(slot:Slot "dict" name id)(Z:typeOf (.builtin id)=pure (.type "method_descriptor"))(hm:Fz X id r)(ho:PE X o to)(ha:PA X (e::D) t)
  (L:VW o name X.env (eval o X.env)=eval o X.env:=by rfl)
  (O:((backTo B (Vf (e::D) X.env)).all (λx=>!x.1)&&(XW B (W5 [] X.env)).all (λx=>x.1.isSome)&&decide ((e::D).length+([]:List WN).length+(if([]:List WN).isEmpty then 0 else 1)<30))=true:=by rfl)
  (M:(apos.endLine==B.line)=true:=by rfl) (hs:Vf (e::D) X.env=(false,eval e X.env)::Vf D X.env:=by rfl) (J:(backTo B (Vf D X.env)).any (·.1)=false:=by rfl) :
  PE X (.Call (.Attribute o name apos) (e::D) [] B) (Kf X.prog X.w r to t):=by
 intro pins s σ H Q I h;refine Xl L O M rfl (bR (ho pins s σ H _ I h) λv s1 zq=>?_);obtain⟨x,H1,I1,r1,⟨a,kvs,ex,d⟩,q1⟩:=zq;subst ex;obtain rfl:v=Value.ref a:=r1;have h1:=xR I1 d;have h2:∀c,Value.ref a=.ref c->∃ob,s1.heap.get? c=YN ob/\ob.dict=none:=λc z=>by
  cases z;obtain⟨_,_,xs,_,dd⟩:=qF I1.bj d;obtain⟨o,D,ep,ho,hx,_⟩:=dd;exact⟨o,ho,hx.2.1⟩
 refine⟨"dict",id,pa,slot,Z,h1,h2,?_⟩;have hA:=ha B pins s1 σ H1 _ I1 q1;rw[hs]at hA⊢;refine Calls.callWith_builtin (by show(false||(backTo B (Vf D X.env)).any (·.1))=false;rw[J] <;> rfl) (Calls.evalArgs_plain ?_);exact bR hA λus s2 ⟨vs,H2,I2,r2,q2⟩=>hm pins s2 σ H2 (.ref a) vs _ us Q I2 rfl r2 q2
theorem K2.its{P:U8}{w:Va}{H:Hp}{h:Vi}(ok:iG P w H h):∀{k:List Itm}{vs:List V}{z:List UW},Paired (IV H) k vs->Vals vs z->∀(j:Nat) (x:Itm) (u:UW),k[j]?=YN x->z[j]?=YN u->∀P' w',pM P' w' h x u
 |_,_,_,.nil,_,j,x,u,e,_,_,_=>by simp at e
 |_,_,_,.cons (a:=a) (b:=b) B t,.cons D J,0,x,u,e1,e2,P',w'=>by
  cases e1;cases e2;cases a with
  |inl k=>cases(show b=kV k from B);exact qq D
  |inr l=>obtain⟨c,e,q⟩:=B;subst e;exact⟨c,D,lR (uk (P':=P') (w':=w') ok) (qG q)⟩
 |_,_,_,.cons _ t,.cons _ J,j+1,x,u,e1,e2,P',w'=>K2.its ok t J j x u e1 e2 P' w'
def Nv:R2:=λx y H Q=>∃(a b:U0) (k l:List Itm),x=.ref a/\y=.ref b/\K2 H k a/\K2 H l b/\Q (.bl (!decide (k=l))) H
theorem Hy(hu:X.A.units+1<cLine):jA X (VE .NotEq) Nv:=by
 intro pins s σ H x y v u Q I rx ry h;obtain⟨a,b,k,l,rfl,rfl,⟨vs,h1,z⟩,⟨ws,h2,B⟩,q⟩:=h;cases rx;cases ry;obtain⟨D,J,t1,z1⟩:=I.tuple (b0.of h1);obtain⟨L,M,t2,z2⟩:=I.tuple (b0.of h2);have l1:D.length=k.length:=by rw[<-J.length,<-z.length]
 have l2:L.length=l.length:=by rw[<-M.length,<-B.length]
 refine SeqAt.RcNeAt.tuples (A:=X.A) (e:=λj=>decide (k[j]?=l[j]?)) (show s.heap.IsTuple a D.toArray from t1) (show s.heap.IsTuple b L.toArray from t2) (by omega) (λj O V=>?_) X.prog X.w X.xe _ ⟨.bl (!decide (k=l)),H,I,?_,q⟩
 .rw[Pe]at O V;have Z:=O1 (l:=k) (i:=j) (by omega);have el:=O1 (l:=l) (i:=j) (by omega);have w:=Kb (A:=X.A.in1) I (by show X.A.units+1<cLine;exact hu) (K2.its I.bj z J j _ _ Z (O1 O)) (K2.its I.bj B M j _ _ el (O1 V));rw[Z,el];have ed:decide (YN k[j]=YN l[j])=decide (k[j]=l[j]):=decide_eq_decide.mpr ⟨λh=>Option.some.inj h,λh=>congrArg some h⟩;rw[ed];simpa using w
 show Value.bool _=Value.bool _;congr 2;rw[Pe,Pe,l1,l2,QA,U9,PY,QY,beq_iff_eq];constructor
 .rintro⟨g1,g2⟩;refine QR λj=>?_;by_cases c:j<k.length
  .exact U6 (g1 j (Px.mpr (by omega)))
  rw[Qe (by omega),Qe (by omega)]
 intro g;exact⟨λj _=>UU (by rw[g]),by rw[g]⟩
end
section
variable {X:Cx}{P:U8}{w:Va}(Z:X.prog=P)(hw:X.w=w)
include Z hw
theorem BL{e z:Vk}{to:TE}(B:PE X e to):PI X z e (iKs P w to):=by subst Z hw;exact Ke B
theorem uo{e:Vk}{t:TE}(z:PE X e t):PE X e (FP P w t):=by subst Z hw;exact Ef z
theorem ur{pos:WG}:PE X (.Dict [] [] pos) (FK P w):=by subst Z hw;exact D6
theorem gb{o i:Vk}{pos:WG}{z ty:TE}(B:X.A.units+2<cLine)(D:PE X o z)(hi:PE X i ty)(H:AE i):PE X (.Subscript o i pos) (FL P w z ty):=by subst Z hw;exact D7 B D hi H
theorem uu{o i value:Vk}{pos pos':WG}{z ty B:TE}(D:X.A.units+2<cLine)(H:PE X o z)(hi:PE X i ty)(J:PE X value B)(L:Xe value (YN (.Subscript o i pos')) pos.line X.env=pure false):PS X (.Assign [.Subscript o i pos'] value pos) (FN P w z ty B):=by subst Z hw;exact D8 D H hi J L
theorem BM{o e:Vk}{apos z:WG}{to:TE}{t:TA}(L:X.A.units+2<cLine)(M:PE X o to)(O:PA X [e] t)
  (D:VW o "pop" X.env (eval o X.env)=eval o X.env:=by rfl)
  (J:((backTo z (Vf [e] X.env)).all (λx=>!x.1)&&(XW z (W5 [] X.env)).all (λx=>x.1.isSome)&&decide (([e]:List Vk).length+([]:List WN).length+(if([]:List WN).isEmpty then 0 else 1)<30))=true:=by rfl)
  (H:(apos.endLine==z.line)=true:=by rfl) (V:Vf [e] X.env=(false,eval e X.env)::Vf [] X.env:=by rfl) (B:(backTo z (Vf [] X.env)).any (·.1)=false:=by rfl) :
  PE X (.Call (.Attribute o "pop" apos) [e] [] z) (Kf P w (FO P w) to t):=by
 subst Z hw;exact Hx F.plainAttrs_dict F.slot_dict_pop F.type_dict_pop (Ec L) M O D J H V B
end
end NK
namespace rL
open PySem PyProof.Rows PySem.W
section
variable {prog:U8}{w:Va}{A:Vh}{E:UW->U2->Prop}{s:U2}
theorem uv [vm]{vs:List UW}{rk:UW->Int}(J:∀p:VF,num p=rk p.1){xs:Array VF}(L:xs.Perm (Wy vs))(Z:SortedTo xs (Wy vs).size):(xs.map (·.2)).toList.Perm vs/\(xs.map (·.2)).toList.Pairwise λu v=>rk u<=rk v:=by
 have M:=Sw.mp L;have O:(Wy vs).toList=vs.zip vs:=by unfold Wy;simp
 have same:∀p∈xs.toList,p.1=p.2:=λp B=>by
  have z:=M.mem_iff.mp B;rw[O]at z;obtain⟨i,hi,e⟩:=PC z;rw[List.getElem_zip]at e;rw[<-e]
 rw[Array.toList_map];constructor
 .have z:=M.map (·.2);rw[O]at z;have e2:(vs.zip vs).map (·.2)=vs:=by rw[Ux];exact O5 _
  rw[e2]at z;exact z
 rw[Qa];refine Pz.mpr λi j hi V JZ=>?_;have hsz:xs.size=(Wy vs).size:=L.size_eq;have D:i<xs.size:=by simpa using hi
 have H:j<xs.size:=by simpa using V
 have z:=Z i j (by omega) (by omega);rw[Bc (getElem?_pos xs i D),Bc (getElem?_pos xs j H),J,J]at z;have e1:=same _ (PU hi);have e2:=same _ (PU V);rw[<-e1,<-e2];simpa using z
theorem BN{a:U0}{vs:List UW}{n:Nat}{P:PySem.Fin->U2->Prop}(B:s.heap.get? a=YN (seqObj "list" vs.toArray n))(M:vs.length<2)
  (h:P (.done (.ret .none)) { s with heap:=sortedHeap s.heap a vs vs.toArray }):wpAny (model prog w) A (Builtin.«list.sort» ⟨[.ref a],[]⟩) P E s:=by
 rw[list_sort_plain];obtain⟨k,J⟩:∃k,(s.heap.update a (Obj.mapSeq λ_=>#[])).get? a=YN (seqObj "list" #[] k):=⟨_,get?_update_seq B (λ_=>#[])⟩
 have z:(((s.heap.update a (Obj.mapSeq λ_=>#[])).push (seqObj "tuple" vs.toArray 0)).push (seqObj "list" #[] 0)).get? a=YN (seqObj "list" #[] k):=
  O8 _ (O8 _ J)
 have D:vs.toArray.size<=sizeLine:=by rw[Pe,Vp];omega
 have H:vs.toArray.toList.length<=sizeLine:=by rw[Vp];simp;omega
 refine UR (listItems_at B rfl (UR (Xc B rfl (UR (Xz J rfl ?_)) D (Qb _))));refine UR (Wt (UR (WE (Vj ?_) (Qb _))) H);show wpAny (model prog w) A _ P E { s with heap:=((s.heap.update a (Obj.mapSeq λ_=>#[])).push (seqObj "tuple" vs.toArray 0)).push (seqObj "list" #[] 0) };dsimp only;have L:vs.toArray.size<2:=by rw[Pe];omega
 rw[UZ L,UZ L];refine UR (UY (UR (UY ?_)));dsimp only;have e:(arrOf (SortSt.mk' general' (vs.toArray.zip vs.toArray) #[] 7 none)).map (·.2)=vs.toArray:=by
  apply Array.toList_inj.mp;show((vs.toArray.zip vs.toArray).map (·.2)).toList=vs;have e2:(vs.zip vs).map (·.2)=vs:=by rw[Ux];exact O5 _
  simpa using e2
 rw[e];refine UR (Xz z rfl (UR (Xc z rfl ?_ (hsz2:=by rw[Pe,Vp];omega))));dsimp only;rw[bne_self_eq_false];exact UY h
theorem vW{l:U0}{vs:List UW}{Q:UW->U2->Prop}(D:s.heap.IsList l vs.toArray)(H:vs.length<2)
  (h:Q (.ref (s.heap.objs.size+1)) { s with heap:=sortedAll s.heap vs vs.toArray }):wpAny (model prog w) A (call (.builtin "sorted") [.ref l]) Q E s:=by
 have z:((s.heap.push (seqObj "list" #[] 0)).update s.heap.objs.size (Obj.mapSeq (· ++ vs.toArray))).objs.size=s.heap.objs.size+1:=(Uy _ _ _).trans (size_push' _ _);have B:(((s.heap.push (seqObj "list" #[] 0)).update s.heap.objs.size (Obj.mapSeq (· ++ vs.toArray))).push (seqObj "list" vs.toArray 0)).get? (s.heap.objs.size+1)=YN (seqObj "list" vs.toArray 0):=z▸Pm _ rfl;refine Calls.call_function_entry Yh X7 X8 (X9 _) ?_;unfold Builtin.«sorted»;refine UR (m:=YA "sorted" 1 1 _) (UY (UR (collect_list D (UR (WE ?_ (by rw[Vp];omega))) (hsz:=by rw[Vp];omega))));show wpAny _ _ _ _ _ { s with heap:=((s.heap.push (seqObj "list" #[] 0)).update s.heap.objs.size (Obj.mapSeq (· ++ vs.toArray))).push (seqObj "list" vs.toArray 0) };rw[z];exact UR (Vj (Vc slot_list_sort ⟨_,B,rfl⟩ entry_list_sort (BN B H ⟨_,rfl,UY ⟨_,rfl,h⟩⟩) (XA _)))
end
end rL
namespace Th
open Classical
section
variable {N:Nat}{a b:Nat->Nat}
inductive Kd|ring|odd|bare|tied
deriving DecidableEq
end
end Th
set_option maxHeartbeats 4000000
namespace ay
open PySem L2
noncomputable def ks:Th.Kd->Vl
 |.ring=>"ring"
 |.odd=>"odd"
 |.bare=>"bare"
 |.tied=>"tied"
variable (K:Pc)
theorem BO:∀a b:Th.Kd,ks a=ks b->a=b:=by
 intro a b h;cases a <;> cases b <;> first|rfl|exact U4 h (by decide)
end ay
namespace rL
open PySem PySem.Spec PyProof.Rows PySem.W L2
noncomputable def kx:Th.Kd->Int
 |.bare=>0
 |.odd=>1
 |.ring=>2
 |.tied=>3
theorem Hz:∀a b:Th.Kd,kx a=kx b->a=b:=by intro a b h;cases a <;> cases b <;> first|rfl|exact U4 h (by decide)
theorem Kg:∀a b:Th.Kd,decide ((ay.ks a).cps.toList<(ay.ks b).cps.toList)=decide (kx a<kx b):=by intro a b;cases a <;> cases b <;> decide +kernel
def Pr(h:Vi)(str:Bool)(v:UW)(r:Int):Prop:=∃(t:U0) (o:VH) (n:Nat) (x:UW) (y a:Int) (z B:Tok),v=.ref t/\h.get? t=YN o/\o.cls=.type "tuple"/\o.data=.seq #[x,.int y B] n/\0<=y/\y<1000/\r=1000*a+y /\
 ((str=false/\x=.int a z)\/(str=true/\∃k:Th.Kd,x=.str (ay.ks k) z/\a=kx k))
theorem Pr.uniq{h:Vi}{str:Bool}{v:UW}{r O:Int}(p:Pr h str v r)(q:Pr h str v O):r=O:=by
 obtain⟨t,o,n,x,y,a,u1,u2,rfl,e1,e2,e3,e4,e5,V,H⟩:=p;obtain⟨t',o',n',x',y',a',u1',u2',M,Z,f2,D,f4,f5,f6,B⟩:=q;injection M with M;subst M;rw[e1]at Z;obtain rfl:=Option.some.inj Z;rw[e3]at D;injection D with D _;have D:=congrArg Ud D;injection D with z J;injection J with J _;injection J with J _;subst J;rcases H with⟨s1,H⟩|⟨e8,k,H,e9⟩
 .rcases B with⟨_,B⟩|⟨L,_⟩
  .rw[H,B]at z;injection z with z _;rw[V,f6,z]
  rw[s1]at L;cases L
 rcases B with⟨L,B⟩|⟨_,k',B,f9⟩
 .rw[e8]at L;cases L
 rw[H,B]at z;injection z with z _;have:=ay.BO _ _ z;rw[V,f6,e9,f9,this]
open Classical in
noncomputable def HA(h:Vi)(str:Bool)(v:UW):Int:=if e:∃r,Pr h str v r then choose e else 0
theorem BP{h:Vi}{str:Bool}{v:UW}{r:Int}(p:Pr h str v r):HA h str v=r:=by
 unfold HA;have e:∃r,Pr h str v r:=⟨r,p⟩
 rw[dif_pos e];exact(Sf e).uniq p
@[reducible] noncomputable def HB(h:Vi)(str:Bool):vm:=⟨λp=>∃r,Pr h str p.1 r,λp=>HA h str p.1,Yl true⟩
noncomputable def tyP(str:Bool):Value:=if str=true then .type "str" else .type "int"
theorem Eg{prog:U8}{w:Va}{A:Vh}{s:U2}{h:Vi}{str:Bool}(k:∀b o,h.get? b=YN o->s.heap.get? b=YN o):@Asks (HB h str) prog w A s:=by
 letI:=HB h str
 intro x y ⟨r,px⟩ ⟨D,py⟩ E Q M;have q:Q (decide (r<D)) s:=by
  have e1:num x=r:=BP px;have e2:num y=D:=BP py;rw[e1,e2]at M;exact M
 clear M;obtain⟨x1,x2⟩:=x;obtain⟨y1,y2⟩:=y;obtain⟨t,o,n,x,y,a,u1,u2,rfl,e1,e2,e3,e4,e5,e6,e7⟩:=px;obtain⟨t',o',n',x',H,B,u1',J,rfl,f1,f2,f3,f4,f5,f6,f7⟩:=py;show wpAny _ _ (keyLt' (Yl true) (.ref t) (.ref t')) _ _ _;refine kat_lt (k _ _ e1) e3 (k _ _ f1) f3 ?_;show KatLex prog w A true (decide (2<2)) _ [(x,x'),(.int y u2,.int H J)] 0 s;have second:a=B->KatLex prog w A true (decide (2<2)) Q [(.int y u2,.int H J)] 1 s:=λea=>by
  refine kat_cons (Xd ?_);by_cases c:y=H
  .rw[show(y==H)=true from beq_iff_eq.mpr c];refine kat_yes (kat_nil ?_);rw[show decide (2<2)=decide (r<D)from decide_eq_decide.mpr (by omega)];exact q
  rw[show(y==H)=false from beq_eq_false_iff_ne.mpr c];refine kat_no (kat_one _ _ (lt_int ?_));show Q _ s;rw[show decide (y<H)=decide (r<D)from decide_eq_decide.mpr (by omega)];exact q
 rcases e7 with⟨O,rfl⟩|⟨O,k1,rfl,V⟩
 .rcases f7 with⟨_,rfl⟩|⟨L,_⟩
  .refine kat_cons (Xd ?_);by_cases c:a=B
   .rw[show(a==B)=true from beq_iff_eq.mpr c];exact kat_yes (second c)
   rw[show(a==B)=false from beq_eq_false_iff_ne.mpr c];refine kat_no (oneLt_int ?_);rw[show decide (a<B)=decide (r<D)from decide_eq_decide.mpr (by omega)];exact q
  rw[O]at L;cases L
 rcases f7 with⟨L,_⟩|⟨_,k2,rfl,Z⟩
 .rw[O]at L;cases L
 refine kat_cons (eqBool_str ?_);by_cases c:k1=k2
 .subst c;rw[VA];exact kat_yes (second (by rw[V,Z]))
 rw[show(ay.ks k1==ay.ks k2)=false from beq_eq_false_iff_ne.mpr λz=>c (ay.BO _ _ z)];refine kat_no (oneLt_str ?_);have ne:a≠B:=λz=>c (Hz _ _ (by rw[<-V,<-Z,z]));rw[Kg,<-V,<-Z,show decide (a<B)=decide (r<D)from decide_eq_decide.mpr (by omega)];exact q
end rL
namespace L2
open PySem PySem.Spec PyProof.Rows rL
section
variable {X:Cx}
def Nw(str:Bool)(vs:List V)(r:Int):Prop:=∃(x:V) (y a:Int),vs=[x,.int y]/\0<=y/\y<1000/\r=1000*a+y/\((str=false/\x=.int a)\/(str=true/\∃k:Th.Kd,x=.str (ay.ks k)/\a=kx k))
theorem Kh{pins:List (U0×VH)}{s:U2}{σ:L2.St}{H:Hp}{t:U0}{vs:List V}{r:Int}{str:Bool}(I:Inv X pins σ H s)(h:H t=YN (.tup vs))(p:Nw str vs r):Pr s.heap str (.ref t) r:=by
 obtain⟨x,y,a,rfl,J,L,M,h4⟩:=p;obtain⟨its,rv,⟨o,e1,e2,n,e3⟩,_⟩:=I.tuple (b0.of h);cases rv with
 |cons O z =>
  cases z with
  |cons r2 z =>
   cases z;obtain⟨Z,rfl⟩:=r2;rcases h4 with⟨B,rfl⟩|⟨B,k,rfl,ek⟩
   .obtain⟨D,rfl⟩:=O;exact⟨t,o,n,_,y,a,D,Z,rfl,e1,e2,e3,J,L,M,.inl ⟨B,rfl⟩⟩
   obtain⟨D,rfl⟩:=O;exact⟨t,o,n,_,y,a,D,Z,rfl,e1,e2,e3,J,L,M,.inr ⟨B,k,rfl,ek⟩⟩
theorem uw{h h':Vi}(k:∀b o,h.get? b=YN o->h'.get? b=YN o):∀{vs fs:List UW},RZ h vs fs->RZ h' vs fs
 |[],[],_=>trivial
 |[],_::_,z=>z.elim
 |_::_,[],z=>z.elim
 |_::_,_::_,⟨⟨a,o,xs,n,B,e1,e2⟩,r⟩=>⟨⟨a,o,xs,n,B,k _ _ e1,e2⟩,uw k r⟩
theorem kat_tups{h:Vi}{str:Bool}:∀H:List U0,(∀t∈H,∃r,Pr h str (.ref t) r)->∃fs:List UW,RZ h (H.map Value.ref) fs/\∀v∈fs,(str=false/\∃i u,v=.int i u)\/(str=true/\∃z u,v=.str z u)
 |[],_=>⟨[],RZ.nil,λv B=>U4 B Pf⟩
 |t::H,M=>by
  obtain⟨fs,O,V⟩:=kat_tups H λt Z=>M t (Pn _ Z);obtain⟨r,t',o,n,x,y,a,u1,u2,J,e1,e2,e3,e4,e5,e6,D⟩:=M t Pb;injection J with J;subst J;refine⟨x::fs,RZ.cons e1 e2 e3 rfl O,λv B=>?_⟩;rcases Pu.mp B with rfl|B
  .rcases D with⟨L,D⟩|⟨L,k,D,_⟩
   .exact .inl ⟨L,_,_,D⟩
   exact .inr ⟨L,_,_,D⟩
  exact V v B
theorem qH:∀{z:List U0}{its:List UW},Vals (z.map V.ref) its->its=z.map Value.ref
 |[],_,.nil=>rfl
 |t::z,_,.cons r B=>by cases r;rw[qH B];rfl
theorem oM:∀z:List U0,Vals (z.map V.ref) (z.map Value.ref)
 |[]=>.nil
 |t::z=>.cons rfl (oM z)
theorem zi{B:List UW}{D:List U0}(h:B.Perm (D.map Value.ref)):∃J:List U0,B=J.map Value.ref/\J.Perm D:=by
 let g:UW->Addr:=λv=>match v with
  |.ref a=>a
  |_=>0
 have e:∀v∈B,Value.ref (g v)=v:=λv H=>by
  obtain⟨t,_,rfl⟩:=O6.mp (h.mem_iff.mp H)
  rfl
 refine⟨B.map g,?_,?_⟩
 .rw[Qc];exact(Ul B).symm.trans (PF λv H=>(e v H).symm)
 have z:=h.map g;rw[Qc]at z;have e2:D.map (g ∘ Value.ref)=D:=Ul D;rw[e2]at z;exact z
end
end L2
namespace rL
open PySem PySem.Spec PyProof.Rows PySem.W
section
variable [vm]{prog:U8}{w:Va}{A:Vh}{E:UW->U2->Prop}{s:U2}{a₀:Array VF}
def BQ(a₀:Array VF)(st:Vx):Prop:=(arrOf st).Perm a₀/\X3 st=none/\∃p,WS st = #[p]/\iq 0 (arrOf st) a₀.size
theorem vX{st:Vx}{Q:Unit->Vx->Prop}(h0:Dc prog w A s a₀)(hp:(arrOf st).Perm a₀)(hk:kindOf st=oneType')(hf:X3 st=none)(hd:WS st = #[])(h2:2<=a₀.size)(h64:a₀.size<64)
  (h:∀B,(arrOf B).Perm a₀->X3 B=none->SortedTo (arrOf B) a₀.size->Q () B):wpS (model prog w) A E s sortRuns' Q st:=by
 rw[sortRuns'_eq];refine Vm (X2 ?_);dsimp only;have hsz:(arrOf st).size=a₀.size:=hp.size_eq;rw[hsz];have em:minRun' a₀.size a₀.size 0=a₀.size:=by
  obtain⟨g,e⟩:∃g,a₀.size=g+1:=⟨a₀.size-1,by omega⟩
  rw[e,minRun'_succ,UZ (by omega)]
 rw[em];refine Vm (Yv (Ww
  (I:=λx c B=>(x=0/\c=(none,0)/\SB a₀ #[] 0 (λ_=>0) B)\/(1<=x/\c=(none,a₀.size)/\BQ a₀ B))
  (Q:=λc B=>c=(none,a₀.size)/\BQ a₀ B) ?step ?fin (.inl ⟨rfl,rfl,⟨hp,hk,hf,hd,λi hi=>U4 hi (QU _)⟩⟩)) ?post)
 case fin =>
  rintro c B (⟨hx,_⟩|⟨_,e,L⟩)
  .have:max 0 a₀.size=a₀.size:=Sj (Qb _);omega
  exact⟨e,L⟩
 case step =>
  rintro x c B _ hx (⟨rfl,rfl,hB⟩|⟨hx2,rfl,L⟩)
  .dsimp only;refine cF (λz=>U4 z (by omega)) (λ_=>?_);refine Vm (vK h0 (by omega) (by omega) hB λk M J k1 k2 V=>?_);dsimp only;rw[Uk]at k2;have push:∀(H:Vx),SB a₀ #[] 0 (λ_=>0) H->iq 0 (arrOf H) a₀.size->BQ a₀ (setPending H ((WS H).push (0,a₀.size,0))):=λH b g =>
    ⟨b.perm,b.fl,⟨_,by show(WS H).push _=_;rw[b.pd];rfl,g⟩⟩
   refine cF (λz=>?_) (λz=>?_)
   .have ef:min (a₀.size-0) a₀.size=a₀.size:=by omega
    rw[ef];refine Vm (wpS_lift (VN ⟨rfl,Vm (Be h0 (by omega) k1 (by omega) J V λH O g3=>?_)⟩));refine cF (λz=>U4 z (by simp)) (λ_=>?_);refine Vm (X2 ?_);have Z:(WS H).back?=none:=by rw[O.pd];rfl
    rw[Z];dsimp only;refine Vm (Yw (VB (.inr ⟨O5 _,by rw[Sy],push H O g3⟩)))
   have hka:k=a₀.size:=by omega
   rw[hka]at V⊢;refine Vm (X2 ?_);have Z:(WS M).back?=none:=by rw[J.pd];rfl
   rw[Z];dsimp only;refine Vm (Yw (VB (.inr ⟨O5 _,by rw[Sy],push M J V⟩)))
  dsimp only;refine cF (λ_=>VB ⟨rfl,L⟩) (λz=>U4 (O5 _) z)
 case post =>
  rintro c B ⟨rfl,L⟩;dsimp only;obtain⟨lp,lf,p,e1,asc⟩:=L;refine Vm (Yv (Ww (I:=λx c D=>c=(none,())/\D=B) (Q:=λc D=>c=(none,())/\D=B) ?fs ?ff ⟨rfl,rfl⟩) ?fp)
  case ff =>
   rintro c D ⟨e,e2⟩;exact⟨e,e2⟩
  case fp =>
   rintro c D ⟨e,e2⟩;subst e e2;exact VB (h _ lp lf (rM asc))
  case fs =>
   rintro x c D _ _ ⟨e,e2⟩;subst e e2;refine Vm (X2 ?_);exact cF (λ_=>VB ⟨rfl,rfl⟩) (λz=>U4 (by rw[e1];exact O5 1) z)
end
section
variable {prog:U8}{w:Va}{A:Vh}{E:UW->U2->Prop}{s:U2}
theorem ux [vm]{a:U0}{vs fs:List UW}{rk:UW->Int}{T:UW}{n:Nat}{P:PySem.Fin->U2->Prop}(hr:∀p:VF,num p=rk p.1)(J:vm.kd=Yl (T != Value.type "tuple"))(L:(T==T)=true)(H:s.heap.get? a=YN (seqObj "list" vs.toArray n))(Z:2<=vs.length)(B:vs.length<64)
  (hT:∀h':Vi,(∀b o,b≠a->s.heap.get? b=YN o->h'.get? b=YN o)->KatTups h' vs fs/\(∀v∈fs,Looks (model prog w) h' (typeOf v) T)/\Dc prog w A { s with heap:=h' } (Wy vs))
  (h:∀out:Array UW,out.toList.Perm vs->(out.toList.Pairwise λu v=>rk u<=rk v)->P (.done (.ret .none)) { s with heap:=sortedHeap s.heap a vs out }):wpAny (model prog w) A (Builtin.«list.sort» ⟨[.ref a],[]⟩) P E s:=by
 rw[list_sort_plain];have la:a<s.heap.objs.size:=Pt H;obtain⟨k,hk⟩:∃k,(s.heap.update a (Obj.mapSeq λ_=>#[])).get? a=YN (seqObj "list" #[] k):=⟨_,get?_update_seq H (λ_=>#[])⟩
 have D:(((s.heap.update a (Obj.mapSeq λ_=>#[])).push (seqObj "tuple" vs.toArray 0)).push (seqObj "list" #[] 0)).get? a=YN (seqObj "list" #[] k):=
  O8 _ (O8 _ hk)
 have keep:∀b o,b≠a->s.heap.get? b=YN o->(((s.heap.update a (Obj.mapSeq λ_=>#[])).push (seqObj "tuple" vs.toArray 0)).push (seqObj "list" #[] 0)).get? b=YN o:=λb o hb e =>
  O8 _ (O8 _ (by rw[TJ _ _ _ _ hb];exact e))
 obtain⟨t1,t2,t3⟩:=hT _ keep;have M:vs.toArray.size<=sizeLine:=by rw[Pe,Vp];omega
 have O:vs.toArray.toList.length<=sizeLine:=by rw[Vp];simp;omega
 refine UR (listItems_at H rfl (UR (Xc H rfl (UR (Xz hk rfl ?_)) M (Qb _))));refine UR (Wt (UR (WE (Vj ?_) (Qb _))) O);show wpAny (model prog w) A _ P E { s with heap:=((s.heap.update a (Obj.mapSeq λ_=>#[])).push (seqObj "tuple" vs.toArray 0)).push (seqObj "list" #[] 0) };dsimp only;have z2:¬vs.toArray.size<2:=by rw[Pe];omega
 rw[UX z2,UX z2];have V:0<fs.length:=by
  cases fs with
  |nil=>cases vs with
   |nil=>exact U4 Z (by decide)
   |cons v r=>exact t1.elim
  |cons f r=>exact SE _
 refine UR (kat_kind t1 V t2 L ?_);refine UR (V6 (vX (a₀:=Wy vs) (st:=SortSt.mk' (Yl (T != Value.type "tuple")) (vs.toArray.zip vs.toArray) #[] 7 none) (Q:=λ_ z=>(arrOf z).Perm (Wy vs)/\X3 z=none/\SortedTo (arrOf z) (Wy vs).size)
  t3 (Array.Perm.refl _) J.symm rfl rfl (by rw[Ya];exact Z) (by rw[Ya];exact B) λz a1 a2 a3=>⟨a1,a2,a3⟩) ?_ λ_ _ e=>e)
 rintro⟨⟨⟩,z⟩ s2 ⟨rfl,hp,hf,hs⟩;dsimp only;have zs:((arrOf z).map (·.2)).size<=U7+1:=by
  rw[Array.size_map,hp.size_eq,Ya,Vp];omega
 refine UR (Xz D rfl (UR (Xc D rfl ?_ (hsz2:=zs))));rw[hf];dsimp only;rw[bne_self_eq_false];obtain⟨b1,b2⟩:=uv hr hp hs;exact UY (h _ b1 b2)
theorem pO [vm]{l:U0}{vs fs:List UW}{rk:UW->Int}{T:UW}{Q:UW->U2->Prop}(V:∀p:VF,num p=rk p.1)(L:vm.kd=Yl (T != Value.type "tuple"))(M:(T==T)=true)(Z:s.heap.IsList l vs.toArray)(h2:2<=vs.length)(D:vs.length<64)
  (hT:∀(A':Vh) (h':Vi),(∀b o,s.heap.get? b=YN o->h'.get? b=YN o)->KatTups h' vs fs/\(∀v∈fs,Looks (model prog w) h' (typeOf v) T)/\Dc prog w A' { s with heap:=h' } (Wy vs))
  (h:∀out:Array UW,out.toList.Perm vs->(out.toList.Pairwise λu v=>rk u<=rk v)->Q (.ref (s.heap.objs.size+1)) { s with heap:=sortedAll s.heap vs out }):wpAny (model prog w) A (call (.builtin "sorted") [.ref l]) Q E s:=by
 have z:((s.heap.push (seqObj "list" #[] 0)).update s.heap.objs.size (Obj.mapSeq (· ++ vs.toArray))).objs.size=s.heap.objs.size+1:=(Uy _ _ _).trans (size_push' _ _);have O:(((s.heap.push (seqObj "list" #[] 0)).update s.heap.objs.size (Obj.mapSeq (· ++ vs.toArray))).push (seqObj "list" vs.toArray 0)).get? (s.heap.objs.size+1)=YN (seqObj "list" vs.toArray 0):=z▸Pm _ rfl;have keep:∀b o,s.heap.get? b=YN o->b≠s.heap.objs.size+1/\(((s.heap.push (seqObj "list" #[] 0)).update s.heap.objs.size (Obj.mapSeq (· ++ vs.toArray))).push (seqObj "list" vs.toArray 0)).get? b=YN o:=λb o q=>by
  have H:b<s.heap.objs.size:=Pt q;have J:b≠s.heap.objs.size:=PH H;have B:b≠s.heap.objs.size+1:=PH (RG H);refine⟨B,?_⟩;rw[T7 _ _ _ (by rw[z];exact B),TJ _ _ _ _ J,T7 _ _ _ J];exact q
 refine Calls.call_function_entry Yh X7 X8 (X9 _) ?_;unfold Builtin.«sorted»;refine UR (m:=YA "sorted" 1 1 _) (UY (UR (collect_list Z (UR (WE ?_ (by rw[Vp];omega))) (hsz:=by rw[Vp];omega))));show wpAny _ _ _ _ _ { s with heap:=((s.heap.push (seqObj "list" #[] 0)).update s.heap.objs.size (Obj.mapSeq (· ++ vs.toArray))).push (seqObj "list" vs.toArray 0) };rw[z];refine UR (Vj (Vc slot_list_sort ⟨_,O,rfl⟩ entry_list_sort (ux (fs:=fs) V L M O h2 D (λh' hk=>?_) λout a1 a2=>⟨_,rfl,UY ⟨_,rfl,h out a1 a2⟩⟩) (XA _)));exact hT _ h' λb o q=>hk b o (keep b o q).1 (keep b o q).2
end
end rL
namespace L2
open PySem PySem.Spec PyProof.Rows rL
section
variable {X:Cx}
theorem i5(str:Bool):cO X (.builtin "sorted") (λxs H Q=>∃(p:U0) (B:List U0) (g:U0->Int),xs=[.ref p]/\aM X.K H p (B.map V.ref)/\B.length<64/\(∀t∈B,∃vs,H t=YN (.tup vs)/\Nw str vs (g t)) /\
  ∀(O:List U0) (l:U0),O.Perm B->(O.Pairwise λt u=>g t<=g u)->H l=none->Q (.ref l) (upd H l (.lst (O.map V.ref)))):=by
 intro pins s σ H xs O Q I r h;obtain⟨p,B,g,rfl,hq,L,ht,q⟩:=h;obtain⟨u,rfl,ru⟩:=r.one;cases ru;obtain⟨its,rv,pl,hz⟩:=I.list hq;obtain rfl:=qH rv;have D:∀t∈B,Pr s.heap str (.ref t) (g t):=λt J=>by
  obtain⟨vs,e1,e2⟩:=ht t J;exact Kh I e1 e2
 have M9:H (s.heap.objs.size+1)=none:=I.bj.fresh (QO _);have fin:∀(out:Array UW),out.toList.Perm (B.map Value.ref)->(out.toList.Pairwise λu v=>HA s.heap str u<=HA s.heap str v)->EP X pins σ Q (.ref (s.heap.objs.size+1)) { s with heap:=sortedAll s.heap (B.map Value.ref) out }:=λout a1 Z=>by
  obtain⟨M,e,hw⟩:=zi a1;obtain⟨c,he⟩:=sortedAll_at s.heap (B.map Value.ref) out;have hg:∀t∈M,HA s.heap str (.ref t)=g t:=λt J=>BP (D t (hw.mem_iff.mp J));have a3:M.Pairwise λt u=>g t<=g u:=by
   rw[e,Qa]at Z;refine List.Pairwise.imp_of_mem (λ{x y} hx hy z=>?_) Z;rw[hg x hx,hg y hy]at z;exact z
  refine⟨.ref (s.heap.objs.size+1),_,I.laid (a:=s.heap.objs.size+1) (o:=.lst (M.map V.ref)) (t':=s.toks) (λb o=>sortedAll_old) (QO _) ⟨?_,out.toList,c,by rw[e];exact oM M,by simpa[seqObj]using he⟩,rfl,q M _ hw a3 M9⟩;rw[O3,hw.length_eq];have:=Vp;omega
 by_cases c:2<=B.length
 .letI:=HB s.heap str
  obtain⟨fs,k1,k2⟩:=kat_tups (h:=s.heap) (str:=str) B λt J=>⟨_,D t J⟩
  refine pO (fs:=fs) (rk:=HA s.heap str) (T:=tyP str) (λp=>rfl) (by cases str <;> rfl) (by cases str <;> rfl) pl.isList (by rw[O3];exact c) (by rw[O3];exact L) (λA' h' hk=>?_) λout a1 Z=>fin out a1 Z;refine⟨uw hk k1,λv hv=>?_,λp hp=>?_,Eg hk⟩
  .rcases k2 v hv with⟨s1,i,u,rfl⟩|⟨s1,z,u,rfl⟩
   .subst s1;exact .now
   subst s1;exact .now
  have ez:(Wy (B.map Value.ref)).toList=(B.map Value.ref).zip (B.map Value.ref):=by unfold Wy;simp
  rw[ez]at hp;obtain⟨t,J,e⟩:=O6.mp (Su hp).1;exact⟨g t,by rw[<-e];exact D t J⟩
 refine vW pl.isList (by rw[O3];omega) (fin _ (by simp) ?_)
 match B,c with
 |[],_=>exact List.Pairwise.nil
 |[t],_=>exact QL _ _
 |_::_::_,c=>exact U4 (by simp) c
end
end L2
namespace ay
open PySem L2
noncomputable def eA(ps:List (Int×Int)):List (List Int):=(ia (λk=>mk ps (ps.getD k (0,0)).1) ps.length).map Rx
theorem jP(rs:List Int):oE rs=eA (bD rs):=by
 unfold oE eA;rw[kC,lX];intro i hi;have z:=fY hi;have e:(bD rs).getD i (0,0)=vJ rs i:=by rw[Py,z];rfl
 rw[e]
 rfl
def rW:Sp:=λvs H Q _=>∃(l:U0) (ps:List (Int×Int)),vs=[.ref l]/\dJ pr H l ps/\ps.length<=100/\∀(r:U0) (z:Hp),H r=none->av H z->dJ iV z r (eA ps)->Q (.ref r) z
def iz:Sp:=λvs H Q _=>∃(t:U0) (rs:List Int),vs=[.ref t]/\H t=YN (.tup (iV rs))/\bc rs/\∀(l:U0) (z:Hp),H l=none->av H z->dJ iV z l (oE rs)->Q (.ref l) z
section
variable {κ:Type}[DecidableEq κ]
theorem uy{kvs:List (κ×V)}{k:κ}{v:V}(h:(bA kvs k).isSome=true):(putK kvs k v).map Qm=kvs.map Qm:=by
 unfold putK;rw[UZ (by rw[fb];exact h),Qc];refine PF λy _=>?_;show(if y.1=k then(y.1,v)else y).1=y.1
 split <;> rfl
theorem Eh{kvs:List (κ×V)}{k:κ}{v:V}(h:(bA kvs k).isSome=true):(putK kvs k v).length=kvs.length:=by
 have:=congrArg Ro (uy (v:=v) h);rwa[O3,O3]at this
end
structure GD(kvs:List (Key×V)) (m:Int->Int) (S:Int->Prop):Prop where
 yes:∀x,S x->bA kvs (Sum.inl x:Key)=YN (.int (m x))
 no:∀x,¬S x->bA kvs (Sum.inl x:Key)=none
 keys:∀k∈kvs.map Qm,∃x:Int,k=Sum.inl x/\S x
section
variable {kvs:List (Key×V)}{m Z:Int->Int}{S T:Int->Prop}{x:Int}
theorem GD.nil(m:Int->Int)(h:∀x,¬S x):GD [] m S:=⟨λx z=>U4 z (h x),λ_ _=>rfl,λk B=>U4 B Pf⟩
theorem GD.congr(g:GD kvs m S)(e:∀x,S x->m x=Z x):GD kvs Z S:=⟨λx z=>by rw[g.yes x z,e x z],g.no,g.keys⟩
theorem GD.imp(g:GD kvs m S)(e:∀x,S x↔T x):GD kvs m T:=⟨λx B=>g.yes x ((e x).mpr B),λx B=>g.no x λz=>B ((e x).mp z),λk D=>let⟨x,H,J⟩:=g.keys k D;⟨x,H,(e x).mp J⟩⟩
theorem GD.new(g:GD kvs m S)(H:¬S x){v:Int}(J:v=m x):GD (putK kvs (Sum.inl x:Key) (.int v)) m (λy=>S y\/y=x):=by
 have L:=g.no x H;refine⟨λy D=>?_,λy D=>?_,λk B=>?_⟩
 .rw[fU];by_cases c:y=x
  .rw[c,UZ rfl,J]
  rw[UX λz=>c (by injection z),g.yes y (D.resolve_right c)]
 .rw[fU,UX λz=>D (.inr (by injection z)),g.no y λz=>D (.inl z)]
 rw[iO _ L,Ph]at B;rcases Po.mp B with B|B
 .obtain⟨y,M,O⟩:=g.keys k B;exact⟨y,M,.inl O⟩
 exact⟨x,O4.mp B,.inr rfl⟩
theorem GD.put(g:GD kvs m S)(D:S x)(v:Int):GD (putK kvs (Sum.inl x:Key) (.int v)) (λy=>if y=x then v else m y) S:=by
 refine⟨λy B=>?_,λy B=>?_,λk H=>?_⟩
 .rw[fU];by_cases c:y=x
  .rw[c,UZ rfl,UZ rfl]
  rw[UX λz=>c (by injection z),UX c,g.yes y B]
 .rw[fU,UX λz=>B (by injection z with z;rw[z];exact D),g.no y B]
 rw[uy (by rw[g.yes x D];rfl)]at H;exact g.keys k H
end
theorem uz{Q:VK}{H:Hp}{d:U0}{kvs:List (Key×V)}{m:Int->Int}{S:Int->Prop}{x:Int}(hd:H d=YN (.dK kvs))(g:GD kvs m S)(M:¬S x->m x=x)
  (q:∀(B:List (Key×V)) (L:Hp),B.length<=kvs.length+1->L d=YN (.dK B)->(∀b,b≠d->L b=H b)->GD B m (λy=>S y\/y=x)->Q (.int (m x)) L) :
  (∀v,bA kvs (Sum.inl x:Key)=YN v->Q v H)/\(bA kvs (Sum.inl x:Key)=none->Q (.int x) (upd H d (.dK (putK kvs (Sum.inl x:Key) (.int x))))):=by
 constructor
 .intro v D;have J:S x:=Pa λz=>by rw[g.no x z]at D;cases D
  rw[g.yes x J]at D;cases D;exact q kvs H (QO _) hd (λ_ _=>rfl) (g.imp λy=>⟨.inl,λz=>z.elim id λe=>e▸J⟩)
 intro D;have J:¬S x:=λz=>by rw[g.yes x z]at D;cases D
 have e:=M J;have z:=q (putK kvs (Sum.inl x:Key) (.int x)) (upd H d (.dK (putK kvs (Sum.inl x:Key) (.int x)))) (bU ..) ag (λb O=>au O) (g.new J e.symm);rwa[e]at z
theorem av.but{z H B:Hp}{d:U0}(s:av z H)(hd:z d=none)(o:∀b,b≠d->B b=H b):av z B:=λb u e=>by
 rw[o b (aO e hd)];exact s b u e
open Classical in
noncomputable def chg(ks:List Key)(m:Int->Int)(a b x:Int):Int:=if(Sum.inl x:Key)∈ks/\m x=b then a else m x
theorem Ei{m:Int->Int}{a b x:Int}:chg [] m a b x=m x:=UX λz=>U4 z.1 Pf
theorem xU{ks:List Key}{m:Int->Int}{a b x:Int}(h:(Sum.inl x:Key)∈ks):chg ks m a b x=if m x=b then a else m x:=by
 unfold chg;by_cases c:m x=b
 .rw[UZ ⟨h,c⟩,UZ c]
 rw[UX λz=>c z.2,UX c]
theorem uA{ks:List Key}{m:Int->Int}{a b x y:Int}:chg (ks++[Sum.inl x]) m a b y=if y=x/\m y=b then a else chg ks m a b y:=by
 unfold chg;by_cases c:y=x
 .subst c;by_cases B:m y=b
  .rw[UZ ⟨PB _ (O4.mpr rfl),B⟩,UZ ⟨rfl,B⟩]
  rw[UX λz=>B z.2,UX λz=>B z.2,UX λz=>B z.2]
 have e:((Sum.inl y:Key)∈ks++[(Sum.inl x:Key)])↔(Sum.inl y:Key)∈ks:=by
  rw[Po,O4];exact⟨λz=>z.resolve_right λz=>c (by injection z),.inl⟩
 rw[UX (c:=y=x/\m y=b) λz=>c z.1];by_cases d:(Sum.inl y:Key)∈ks/\m y=b
 .rw[UZ d,UZ ⟨e.mpr d.1,d.2⟩]
 rw[UX d,UX λz=>d ⟨e.mp z.1,z.2⟩]
theorem Ej{ks:List Key}{m:Int->Int}{a b x y:Int}(h:chg ks m a b x=b):(if y=x then a else chg ks m a b y)=chg (ks++[Sum.inl x]) m a b y:=by
 rw[uA];by_cases c:y=x
 .subst c;rw[UZ rfl];by_cases B:m y=b
  .rw[UZ ⟨rfl,B⟩]
  have e:chg ks m a b y=m y:=UX λz=>B z.2;rw[e]at h;exact U4 h B
 rw[UX c,UX λz=>c z.1]
theorem HC{ks:List Key}{m:Int->Int}{a b x y:Int}(h:¬chg ks m a b x=b):chg ks m a b y=chg (ks++[Sum.inl x]) m a b y:=by
 rw[uA];by_cases c:y=x/\m y=b
 .obtain⟨H,B⟩:=c;subst H;rw[UZ ⟨rfl,B⟩];by_cases D:(Sum.inl y:Key)∈ks
  .rw[xU D,UZ B]
  have e:chg ks m a b y=m y:=UX λz=>D z.1;rw[e]at h;exact U4 B h
 rw[UX c]
structure FG(H0 H:Hp) (d:U0) (kv:List (Key×V)) (g:List (Int×List Int)) (as:List U0):Prop where
 at':H d=YN (.dK kv)
 ks:kv.map Qm=g.map λe=>(Sum.inl e.1:Key)
 vs:kv.map Rx=as.map V.ref
 nd:as.Nodup
 lst:∀(j:Nat) (a:U0) (e:Int×List Int),as[j]?=YN a->g[j]?=YN e->H a=YN (.lst (iV e.2))
 new:∀a∈as,H0 a=none
section
variable {H0 H H':Hp}{d:U0}{kv:List (Key×V)}{g:List (Int×List Int)}{as:List U0}
theorem FG.len(h:FG H0 H d kv g as):kv.length=g.length/\as.length=g.length:=by
 have z:=congrArg Ro h.ks;have B:=congrArg Ro h.vs;rw[O3,O3]at z B;exact⟨z,by omega⟩
theorem FG.same(h:FG H0 H d kv g as)(s:av H H'):FG H0 H' d kv g as:=⟨s _ _ h.at',h.ks,h.vs,h.nd,λj a e z B=>s _ _ (h.lst j a e z B),h.new⟩
theorem rX{κ:Type}[DecidableEq κ]:∀{kv:List (κ×V)}{j:Nat}{k:κ}{v:V},(kv.map Qm).Nodup->kv[j]?=YN (k,v)->bA kv k=YN v
 |[],j,k,v,_,h=>by simp at h
 |p::r,0,k,v,_,h=>by
  rw[List.getElem?_cons_zero]at h;rw[Option.some.inj h];exact cP rfl
 |p::r,j+1,k,v,nd,h=>by
  rw[RU]at h;rw[Qk,Qj]at nd;rw[cQ λz=>nd.1 (by rw[z];exact O6.mpr ⟨_,Pj h,rfl⟩)];exact rX nd.2 h
theorem FG.key(h:FG H0 H d kv g as){j:Nat}{a:U0}{e:Int×List Int}(D:as[j]?=YN a)(J:g[j]?=YN e):kv[j]?=YN ((Sum.inl e.1:Key),V.ref a):=by
 have z:=congrArg (·[j]?) h.ks;have B:=congrArg (·[j]?) h.vs;simp only[O7,D,J,Ry]at z B;obtain⟨p,e1,e2⟩:=Pl.mp z;obtain⟨M,e3,L⟩:=Pl.mp B;rw[e1]at e3;cases e3;rw[e1,<-e2,<-L]
theorem FG.old(h:FG H0 H d kv g as)(hn:(g.map Qm).Nodup){k x:Int}{v:V}(hv:bA kv (Sum.inl k:Key)=YN v) :
  ∃a L,v=.ref a/\H a=YN (.lst (iV L))/\(∃e∈g,e.2=L)/\FG H0 (upd H a (.lst (iV L++[.int x]))) d kv (fN g k x) as:=by
 have hm:=rE hv;rw[h.ks]at hm;obtain⟨e,Z,B⟩:=O6.mp hm;have B:e.1=k:=by injection B
 obtain⟨j,D⟩:=PD Z;have hl:=h.len;have FQ:j<as.length:=by rw[hl.2];exact(O2.mp D).1
 have O:as[j]?=YN as[j]:=O1 FQ;have nk:(kv.map Qm).Nodup:=by
  rw[h.ks,show(g.map λe=>(Sum.inl e.1:Key))=(g.map Qm).map Sum.inl by rw[Qc];rfl];exact Qa.mpr (List.Pairwise.imp (λz e=>z (by injection e)) hn)
 have z:=rX nk (h.key O D);rw[B,hv]at z;obtain rfl:=Option.some.inj z;have hL:=h.lst j _ e O D;refine⟨as[j],e.2,rfl,hL,⟨e,Z,rfl⟩,?_⟩;have hd:d≠as[j]:=λz=>by have:=h.at';rw[z,hL]at this;cases this
 have any:(g.any λe=>decide (e.1=k))=true:=Qv.mpr ⟨e,Z,UU B⟩;refine⟨by rw[au hd];exact h.at',?_,h.vs,h.nd,λi a f J h2=>?_,h.new⟩
 .rw[h.ks];unfold fN;rw[UZ any,Qc];refine PF λy _=>?_;show _=(Sum.inl (if y.1=k then(y.1,y.2++[x])else y).1:Key)
  split <;> rfl
 unfold fN at h2;rw[UZ any,O7]at h2;obtain⟨f0,M,rfl⟩:=Pl.mp h2;by_cases c:i=j
 .subst c;rw[D]at M;cases M;rw[O]at J;cases J;rw[ag,UZ B];show _=YN (HO.lst (iV (e.2++[x])));rw[b6]
  rfl
 have na:a≠as[j]:=λz=>c ((Qi (O2.mp J).1 h.nd).mp (by rw[J,O,z]));rw[au na,UX]
 .exact h.lst i a f0 J M
 intro z;apply c;refine(Qi (l:=g.map Qm) (by rw[O3];exact(O2.mp M).1) hn).mp ?_;rw[O7,O7,M,D];show some f0.1=YN e.1;rw[z,B]
theorem FG.fresh(h:FG H0 H d kv g as){k x:Int}{n:U0}(M:bA kv (Sum.inl k:Key)=none)(hn:H n=YN (.lst []))(O:H0 n=none)(L:n∉as) :
  FG H0 (upd (upd H d (.dK (putK kv (Sum.inl k:Key) (.ref n)))) n (.lst ([]++[.int x]))) d (putK kv (Sum.inl k:Key) (.ref n)) (fN g k x) (as++[n]):=by
 have hd:d≠n:=λz=>by have:=h.at';rw[z,hn]at this;cases this
 have any:¬(g.any λe=>decide (e.1=k))=true:=λz=>by
  obtain⟨e,he,ek⟩:=Qv.mp z;have:=AN M;apply this;show(Sum.inl k:Key)∈kv.map Qm;rw[h.ks];exact O6.mpr ⟨e,he,by rw[U6 ek]⟩
 have hl:=h.len;refine⟨by rw[au hd,ag],?_,?_,?_,λj a e B D=>?_,λa J=>?_⟩
 .rw[iO _ M,Ph,h.ks];unfold fN;rw[UX any,Ph]
  rfl
 .rw[iO _ M,Ph,h.vs,Ph]
  rfl
 .rw[QB];exact⟨h.nd,by simp,λa J b hb e=>L (by rw[<-O4.mp hb,<-e];exact J)⟩
 .unfold fN at D;rw[UX any]at D;by_cases c:j<as.length
  .rw[Pk c]at B;rw[Pk (by omega)]at D;have na:a≠n:=λz=>L (z▸Pj B);have Z:=h.lst j a e B D;have nd:a≠d:=λz=>by have:=h.at';rw[<-z,Z]at this;cases this
   rw[au na,au nd];exact Z
  rw[Pg (by omega)]at B D;have ej:j-as.length=0:=by
   have:=(O2.mp B).1;simp at this;omega
  have V:j-g.length=0:=by omega
  rw[ej]at B;rw[V]at D;cases B;cases D;rw[ag]
  rfl
 rcases Po.mp J with J|J
 .exact h.new a J
 rw[O4.mp J];exact O
end
end ay
namespace L2
open PySem PySem.Spec PyProof.Rows
section
variable {X:Cx}{J:Vk}{K:Pc}
theorem BR{l:Vk}{z:TE}(B:X.K=K)(D:PE X l z):PI X J l (Fp K z):=B▸a9 D
theorem rY(B:X.K=K):cO X (.builtin "sorted") (λxs H Q=>∃(p:U0) (ns:List Int),xs=[.ref p]/\aM K H p (ns.map V.int)/\ns.length<64/\∀(z:List Int) (l:U0),z.Perm ns->z.Pairwise (·<=·)->H l=none->Q (.ref l) (upd H l (.lst (z.map V.int)))):=B▸tV
end
end L2
namespace ay
open PySem L2
def qJ:Sp:=λvs H Q _=>∃(t:U0) (rs:List Int),vs=[.ref t]/\H t=YN (.tup (iV rs))/\bc rs/\∀(l:U0) (z:Hp),H l=none->av H z->dJ pr z l (Bg rs)->Q (.ref l) z
structure GK(H:Hp) (d:U0) (kv:List (Key×V)) (S:List (Int×Int)):Prop where
 at':H d=YN (.dK kv)
 val:∀(g:Nat) (q:Int×Int),q∈S->q.1<=g->(g:Int)<q.2->∃p∈S,p.1<=g/\(g:Int)<p.2/\(∀q'∈S,q'.1<=g->(g:Int)<q'.2->q'.1<=p.1)/\∃t,bA kv (Sum.inl (g:Int):Key)=YN (.ref t)/\H t=YN (.tup (pr p))
structure GI(H:Hp) (d:U0) (kv0 kv:List (Key×V)) (p:Int×Int) (m:Nat):Prop where
 at':H d=YN (.dK kv)
 new:∀g:Nat,p.1<=g->(g:Int)<p.1+m->∃t,bA kv (Sum.inl (g:Int):Key)=YN (.ref t)/\H t=YN (.tup (pr p))
 old:∀g:Nat,¬(p.1<=g/\(g:Int)<p.1+m)->bA kv (Sum.inl (g:Int):Key)=bA kv0 (Sum.inl (g:Int):Key)
theorem GI.put{H:Hp}{d t:U0}{B D:List (Key×V)}{p:Int×Int}{m:Nat}(h:GI H d B D p m)(O:0<=p.1)(L:H t=YN (.tup (pr p))):GI (upd H d (.dK (putK D (Sum.inl (p.1+m):Key) (.ref t)))) d B (putK D (Sum.inl (p.1+m):Key) (.ref t)) p (m+1):=by
 have keep:∀a ys,H a=YN (.tup ys)->upd H d (.dK (putK D (Sum.inl (p.1+m):Key) (.ref t))) a=YN (.tup ys):=λa ys e=>by
  rw[au λz=>by have:=h.at';rw[<-z,e]at this;cases this];exact e
 refine⟨ag,λg M Z=>?_,λg J=>?_⟩
 .rw[fU];by_cases c:(g:Int)=p.1+m
  .rw[c,UZ rfl];exact⟨t,rfl,keep _ _ L⟩
  rw[UX λz=>c (by injection z)];obtain⟨t',e1,e2⟩:=h.new g M (by omega);exact⟨t',e1,keep _ _ e2⟩
 rw[fU,UX λz=>J (by injection z with z;omega)];exact h.old g λz=>J ⟨z.1,by omega⟩
theorem GK.next{H J:Hp}{d:U0}{B Z:List (Key×V)}{S:List (Int×Int)}{p:Int×Int}{m:Nat}(h:GK H d B S)(k:GI J d B Z p m)(em:p.2=p.1+m)(lt:∀q∈S,q.1<p.1)(keep:∀a ys,H a=YN (.tup ys)->J a=YN (.tup ys)):GK J d Z (S++[p]):=by
 refine⟨k.at',λg q D L h2=>?_⟩;by_cases c:p.1<=g/\(g:Int)<p.1+m
 .obtain⟨t,e1,e2⟩:=k.new g c.1 c.2;refine⟨p,PB _ (O4.mpr rfl),c.1,by omega,λM z _ _=>?_,t,e1,e2⟩;rcases Po.mp z with z|z
  .exact Q5 (lt M z)
  rw[O4.mp z];exact QP _
 rcases Po.mp D with D|D
 .obtain⟨r,hr,r1,r2,r3,t,e1,e2⟩:=h.val g q D L h2;refine⟨r,PR _ hr,r1,r2,λM z O a2=>?_,t,by rw[k.old g c,e1],keep _ _ e2⟩;rcases Po.mp z with z|z
  .exact r3 M z O a2
  rw[O4.mp z]at O a2;exact U4 ⟨O,by omega⟩ c
 rw[O4.mp D]at L h2;exact U4 ⟨L,by omega⟩ c
theorem BS{rs:List Int}{g:Nat}{p:Int×Int}(z:p∈cX (aw rs))(B:p.1<=g)(D:(g:Int)<p.2)(mx:∀q∈cX (aw rs),q.1<=g->(g:Int)<q.2->q.1<=p.1):ow (aw rs) g=p:=by
 obtain⟨a,b,k,rfl⟩:=bK.mp z;dsimp only at B D;refine de ⟨k,by omega,by omega,λc d H J L=>?_⟩;have:=mx _ (bK.mpr ⟨c,d,H,rfl⟩) (by dsimp only;omega) (by dsimp only;omega);dsimp only at this;omega
theorem HD{rs:List Int}(fit:bc rs){H:Hp}{d:U0}{z:List (Key×V)}(h:GK H d z (cX (aw rs))){g:Nat}(B:g<rs.length+1):∃t,bA z (Sum.inl (g:Int):Key)=YN (.ref t)/\H t=YN (.tup (pr (ow (aw rs) g))):=by
 obtain⟨c,e,o⟩:=eK fit B;have l:=o.le;have lt:=o.lt;obtain⟨p,D,J,L,M,t,e1,e2⟩:=h.val g ((c:Int),(e:Int)) (bK.mpr ⟨c,e,o.kn,rfl⟩) (by dsimp only;omega) (by dsimp only;omega);refine⟨t,e1,?_⟩;rw[BS D J L M];exact e2
theorem kO{H:Hp}{D:U0}{ps:List (Int×Int)}(hT:dJ pr H D ps)(j4:∀p∈ps,0<=p.2/\p.2<1000):∃(B:List U0) (g:U0->Int),H D=YN (.lst (B.map V.ref))/\B.length=ps.length/\(∀t∈B,∃vs,H t=YN (.tup vs)/\Nw false vs (g t)) /\
  ∀J:List U0,J.Perm B->(J.Pairwise λt u=>g t<=g u)->∃M:List (Int×Int),M.Perm ps/\(M.Pairwise λp q=>p.1<=q.1)/\∀(Z:Hp) (l:U0),av H Z->Z l=YN (.lst (J.map V.ref))->dJ pr Z l M:=by
 obtain⟨B,h1,h2,h3⟩:=hT
 let ct:U0->Int×Int:=λa=>match H a with
  |some (.tup [.int x,.int y])=>(x,y)
  |_=>(0,0)
 have L:∀(i:Nat) (t:U0) (p:Int×Int),B[i]?=YN t->ps[i]?=YN p->ct t=p:=λi t p e1 e2=>by
  have z:=h3 i t p e1 e2;show(match H t with
   |some (.tup [.int x,.int y])=>(x,y)
   |_=>(0,0))=p
  rw[z]
  rfl
 have mem:∀t∈B,ct t∈ps/\H t=YN (.tup (pr (ct t))):=λt ht=>by
  obtain⟨i,hi⟩:=PD ht;have O:i<ps.length:=by rw[<-h2];exact(O2.mp hi).1
  have e:=O1 O;rw[L i t _ hi e];exact⟨PU O,h3 i t _ hi e⟩
 have eps:B.map ct=ps:=QR λi=>by
  rw[O7];by_cases c:i<B.length
  .have e1:=O1 c;have e2:=O1 (l:=ps) (show i<ps.length by omega);rw[e1,e2,<-L i _ _ e1 e2]
   rfl
  rw[Qe (by omega),Qe (by omega)]
  rfl
 refine⟨B,λa=>1000*(ct a).1+(ct a).2,h1,h2,λt ht=>?_,λJ hp hs=>⟨J.map ct,?_,?_,λZ l s hl=>⟨J,hl,by rw[O3],λi t x e1 e2=>?_⟩⟩⟩
 .obtain⟨m1,m2⟩:=mem t ht;have r:=j4 _ m1;exact⟨_,m2,.int (ct t).1,(ct t).2,(ct t).1,rfl,r.1,r.2,rfl,.inl ⟨rfl,rfl⟩⟩
 .have:=hp.map ct;rwa[eps]at this
 .rw[Qa];refine List.Pairwise.imp_of_mem (λ{x y} hx hy z=>?_) hs;have r1:=j4 _ (mem x (hp.mem_iff.mp hx)).1;have r2:=j4 _ (mem y (hp.mem_iff.mp hy)).1;have z:1000*(ct x).1+(ct x).2<=1000*(ct y).1+(ct y).2:=z;omega
 rw[O7,e1]at e2;have e2:=Option.some.inj e2;rw[<-e2];exact s _ _ (mem t (hp.mem_iff.mp (Pj e1))).2
end ay
namespace Ek
open PySem PySem.Spec PyProof.Rows
noncomputable def cnt(bs:List Bool):Nat:=(if bs.any (· == true)=true then 1 else 0)+(if bs.any (· == false)=true then 1 else 0)
end Ek
set_option maxHeartbeats 1000000
set_option maxHeartbeats 1000000
set_option maxHeartbeats 1000000
namespace L2
open PySem PySem.Spec PyProof.Rows
section
variable {X:Cx}
theorem uB(hc:X.calm=true):cO X (.builtin "any") (λxs H Q=>∃(p:U0) (bs:List Bool),xs=[.ref p]/\H p=YN (.lst (bs.map V.bl))/\Q (.bl (bs.any id)) H):=by
 intro pins s σ H xs us Q I r h;obtain⟨p,bs,rfl,hp,q⟩:=h;obtain⟨u,rfl,ru⟩:=r.one;cases ru;obtain⟨its,Z,pl,hz⟩:=I.list (aM.of hp);have L:=pl.isList;have M:p<s.heap.objs.size:=let⟨_,e,_⟩:=L;Pt e
 have B:bs.length=its.length:=by have z:=Z.length;rwa[O3]at z
 refine call_any_walk (Wn L ⟨s.heap.objs.size,[s.heap.objs.size,p],[s.heap.objs.size],its.toArray.size,_,_,λi=>(bs[i]?).getD false,rfl,Walks.list (A:=X.A.in1) (I.ok.hd hc) _ p (PH M) its.toArray,
  ⟨⟨_,Pm _ rfl,rfl,rfl⟩,L.push _⟩,λi v s' Q' E' J O=>?_,λh' tk hk=>?_⟩)
 .have J:its[i]?=YN v:=by simpa using J
  have hi:i<bs.length:=by rw[B];exact(O2.mp J).1
  have D:(bs.map V.bl)[i]?=YN (.bl bs[i]):=by rw[O7,O1 hi];rfl
  obtain⟨u,e1,r1⟩:=Z.get D;rw[J]at e1;obtain rfl:=Option.some.inj e1;cases r1;dsimp only at O;rw[O1 hi]at O;exact VD O
 have e2:((PX its.toArray.size).any λi=>(bs[i]?).getD false)=bs.any id:=by
  rw[Pe,<-B,QA,Qv,Qv];constructor
  .rintro⟨i,hi,h⟩;have hi:=Px.mp hi;rw[O1 hi]at h;exact⟨_,PU hi,h⟩
  rintro⟨b,hb,h⟩;obtain⟨i,hi,rfl⟩:=Tt.mp hb;exact⟨i,Px.mpr hi,by rw[O1 hi];exact h⟩
 rw[e2];exact⟨.bl _,H,I.kept (t':=tk) λb o D=>hk b o (λhm=>by rw[O4.mp hm]at D;exact Rh _ (Pt D)) (O8 _ D),rfl,q⟩
theorem vY(bs:List Bool):((PX bs.length).all λi=>(bs[i]?).getD true)=bs.all id:=by
 rw[QA,QY,QY];constructor
 .intro h b B;obtain⟨i,hi,rfl⟩:=Tt.mp B;have z:=h i (Px.mpr hi);rw[O1 hi]at z;exact z
 intro h i hi;have hi:=Px.mp hi;rw[O1 hi];exact h _ (PU hi)
theorem uC(Z:X.calm=true):cO X (.builtin "all") (λxs H Q=>∃(p:U0) (bs:List Bool),xs=[.ref p]/\H p=YN (.lst (bs.map V.bl))/\Q (.bl (bs.all id)) H):=by
 intro pins s σ H xs us Q I r h;obtain⟨p,bs,rfl,hp,q⟩:=h;obtain⟨u,rfl,ru⟩:=r.one;cases ru;obtain⟨z,its,n,rv,hlen,e⟩:=I.nU hp;have O:s.heap.IsList p its.toArray:=⟨_,e,rfl,n,rfl⟩
 have L:p<s.heap.objs.size:=Pt e;have B:bs.length=its.length:=by rw[<-hlen,O3]
 refine call_all_walk (Wn O ⟨s.heap.objs.size,[s.heap.objs.size,p],[s.heap.objs.size],its.toArray.size,_,_,λi=>(bs[i]?).getD true,rfl,Walks.list (A:=X.A.in1) (I.ok.hd Z) _ p (PH L) its.toArray,
  ⟨⟨_,Pm _ rfl,rfl,rfl⟩,O.push _⟩,λi v s' Q' E' J M=>?_,λh' tk hk=>?_⟩)
 .have J:its[i]?=YN v:=by simpa using J
  have hi:i<bs.length:=by rw[B];exact(O2.mp J).1
  have D:(bs.map V.bl)[i]?=YN (.bl bs[i]):=by rw[O7,O1 hi];rfl
  obtain⟨u,e1,r1⟩:=rv.get D;rw[J]at e1;obtain rfl:=Option.some.inj e1;cases r1;dsimp only at M;rw[O1 hi]at M;exact VD M
 have e2:((PX its.toArray.size).all λi=>(bs[i]?).getD true)=bs.all id:=by rw[Pe,<-B];exact vY bs
 rw[e2];exact⟨.bl _,H,I.kept (t':=tk) λb o D=>hk b o (λhm=>by rw[O4.mp hm]at D;exact Rh _ (Pt D)) (O8 _ D),rfl,q⟩
end
end L2
namespace ay
open PySem L2
noncomputable def ib(fs:List Int)(L:List Nat)(p:Int×Int):List Bool:=(L.filter λg=>decide (ow fs g=p)).flatMap λg=>[decide (fs.getD g 0<0),decide (fs.getD (g+1) 0<0)]
theorem oN(fs:List Int)(L:List Nat)(g:Nat)(p:Int×Int):ib fs (L++[g]) p=if ow fs g=p then ib fs L p++[decide (fs.getD g 0<0),decide (fs.getD (g+1) 0<0)]else ib fs L p:=by
 unfold ib;rw[Qd,TC,Qq,Qt];by_cases c:ow fs g=p
 .rw[UZ (UU c),UZ c];rfl
 rw[UX (by rw[U1 c];decide),UX c];simp
theorem El(fs:List Int)(L:List Nat)(p:Int×Int):(ib fs L p).length<=2*L.length:=by
 refine fS (P:=λL=>(ib fs L p).length<=2*L.length) (O5 _) (λL g z=>?_) L;rw[oN,O9]
 split
 .rw[O9];show _+2<=2*(_+1);omega
 show _<=2*(_+1);omega
theorem BU{fs:List Int}{L:List Nat}{p:Int×Int}(h:ib fs L p≠[]):∃g∈L,ow fs g=p:=by
 refine Pa λc=>h ?_;unfold ib;have e:L.filter (λg=>decide (ow fs g=p))=[]:=S9.mpr λg B z=>c ⟨g,B,U6 z⟩;rw[e]
 rfl
noncomputable def iK(fs:List Int)(m:Nat):List Nat:=(PX m).filter (isOpen fs)
theorem Em(fs:List Int)(m:Nat):(iK fs m).length<=m:=by
 unfold iK;exact PK (PJ _ _) (by rw[PN];exact O5 _)
theorem En{fs:List Int}{m g:Nat}(h:g∈iK fs m):g<m:=Px.mp (Pd.mp h).1
theorem zj(fs:List Int)(m:Nat):jI fs m=(iK fs m).map λ(g:Nat)=>(g:Int):=rfl
noncomputable def rZ(fs:List Int)(L:List Nat)(p:Int×Int):Bool:=decide (ib fs L p≠[])&&decide (Ek.cnt (ib fs L p)=1)
noncomputable def dw(fs:List Int)(L:List Nat):List (Int×Int):=(cX fs).filter (rZ fs L)
theorem kP{bs:List Bool}(h:bs≠[]):(bs.all id || !bs.any id)=decide (Ek.cnt bs=1):=by
 have e1:bs.all id=!bs.any (· == false):=by
  rw[QA,QY,Rn,<-Uz,Qv];constructor
  .rintro h ⟨x,z,e⟩;have:=h x z;cases x <;> simp_all
  intro h x z;cases x
  .exact U4 ⟨false,z,rfl⟩ h
  rfl
 have e2:bs.any id=bs.any (· == true):=by
  congr 1;funext b;cases b <;> rfl
 have e3:bs.any (· == true)=true\/bs.any (· == false)=true:=by
  cases bs with
  |nil=>exact U4 rfl h
  |cons b r =>
   cases b
   .right;rfl
   left;rfl
 unfold Ek.cnt;rw[e1,e2]
 revert e3
 generalize bs.any (· == true)=x;generalize bs.any (· == false)=y;cases x <;> cases y <;> simp
noncomputable def kp(p:Int×Int):List Key:=[Sum.inl p.1,Sum.inl p.2]
theorem BV{p q:Int×Int}(h:kp p=kp q):p=q:=by
 unfold kp at h;injection h with B z;injection z with z;injection B with B;injection z with z;obtain⟨a,b⟩:=p;obtain⟨c,d⟩:=q;dsimp only at B z;rw[B,z]
structure KD(H0 H:Hp) (d:U0) (kvs:List (List Key×V)) (ps:List (Int×Int)) (as:List U0) (F:Int×Int->List Bool):Prop where
 at':H d=YN (.dT kvs)
 ks:kvs.map Qm=ps.map kp
 vs:kvs.map Rx=as.map V.ref
 np:ps.Nodup
 nd:as.Nodup
 lst:∀(j:Nat) (a:U0) (p:Int×Int),as[j]?=YN a->ps[j]?=YN p->H a=YN (.lst ((F p).map V.bl))
 new:∀a∈as,H0 a=none
 mem:∀p,p∈ps↔F p≠[]
section
variable {H0 H H':Hp}{d:U0}{kvs:List (List Key×V)}{ps:List (Int×Int)}{as:List U0}{F F':Int×Int->List Bool}
theorem KD.len(h:KD H0 H d kvs ps as F):kvs.length=ps.length/\as.length=ps.length:=by
 have z:=congrArg Ro h.ks;have B:=congrArg Ro h.vs;rw[O3,O3]at z B;exact⟨z,by omega⟩
theorem KD.same(h:KD H0 H d kvs ps as F)(s:av H H'):KD H0 H' d kvs ps as F:=⟨s _ _ h.at',h.ks,h.vs,h.np,h.nd,λj a p z B=>s _ _ (h.lst j a p z B),h.new,h.mem⟩
theorem KD.key(h:KD H0 H d kvs ps as F){j:Nat}{a:U0}{p:Int×Int}(D:as[j]?=YN a)(J:ps[j]?=YN p):kvs[j]?=YN (kp p,V.ref a):=by
 have z:=congrArg (·[j]?) h.ks;have B:=congrArg (·[j]?) h.vs;simp only[O7,D,J,Ry]at z B;obtain⟨q,e1,e2⟩:=Pl.mp z;obtain⟨M,e3,L⟩:=Pl.mp B;rw[e1]at e3;cases e3;rw[e1,<-e2,<-L]
theorem KD.nk(h:KD H0 H d kvs ps as F):(kvs.map Qm).Nodup:=by
 rw[h.ks];exact Qa.mpr (List.Pairwise.imp (λz e=>z (BV e)) h.np)
theorem KD.old(h:KD H0 H d kvs ps as F){p:Int×Int}{xs:List Bool}{v:V}(hv:bA kvs (kp p)=YN v)(hF:F' p=F p++xs)(hq:∀q,q≠p->F' q=F q) :
  ∃a,v=.ref a/\H a=YN (.lst ((F p).map V.bl))/\H0 a=none/\KD H0 (upd H a (.lst ((F p).map V.bl++xs.map V.bl))) d kvs ps as F':=by
 have O:=rE hv;have O:kp p∈kvs.map Qm:=O;rw[h.ks]at O;obtain⟨p',B,ep⟩:=O6.mp O;obtain rfl:=BV ep;obtain⟨j,D⟩:=PD B;have hl:=h.len;have J:j<as.length:=by rw[hl.2];exact(O2.mp D).1
 have Z:as[j]?=YN as[j]:=O1 J;have z:=rX h.nk (h.key Z D);rw[hv]at z;obtain rfl:=Option.some.inj z;have hL:=h.lst j _ _ Z D;refine⟨as[j],rfl,hL,h.new _ (PU J),?_⟩;have hd:d≠as[j]:=λz=>by have:=h.at';rw[z,hL]at this;cases this
 refine⟨by rw[au hd];exact h.at',h.ks,h.vs,h.np,h.nd,λi a q L M=>?_,h.new,λq=>?_⟩
 .by_cases c:i=j
  .subst c;rw[D]at M;cases M;rw[Z]at L;cases L;rw[ag,hF,Ph]
  have na:a≠as[j]:=λz=>c ((Qi (O2.mp L).1 h.nd).mp (by rw[L,Z,z]));have nq:q≠p':=λz=>c ((Qi (O2.mp M).1 h.np).mp (by rw[M,D,z]));rw[au na,hq q nq];exact h.lst i a q L M
 rw[h.mem];by_cases c:q=p'
 .subst c;rw[hF];have:=(h.mem q).mp B;exact⟨λz e=>z (List.append_eq_nil_iff.mp e).1,λ_=>this⟩
 rw[hq q c]
theorem KD.fresh(h:KD H0 H d kvs ps as F){p:Int×Int}{xs:List Bool}{n:U0}(hv:bA kvs (kp p)=none)(hn:H n=YN (.lst []))(M:H0 n=none)(L:n∉as)(O:F p=[])(hF:F' p=xs)(hx:xs≠[])(hq:∀q,q≠p->F' q=F q) :
  KD H0 (upd (upd H d (.dT (putK kvs (kp p) (.ref n)))) n (.lst ([]++xs.map V.bl))) d (putK kvs (kp p) (.ref n)) (ps++[p]) (as++[n]) F':=by
 have hd:d≠n:=λz=>by have:=h.at';rw[z,hn]at this;cases this
 have hl:=h.len;have np:p∉ps:=λz=>(h.mem p).mp z O;refine⟨by rw[au hd,ag],?_,?_,?_,?_,λj a q D J=>?_,λa B=>?_,λq=>?_⟩
 .rw[iO _ hv,Ph,h.ks,Ph];rfl
 .rw[iO _ hv,Ph,h.vs,Ph];rfl
 .rw[QB];exact⟨h.np,by simp,λa B b Z e=>np (by rw[<-O4.mp Z,<-e];exact B)⟩
 .rw[QB];exact⟨h.nd,by simp,λa B b Z e=>L (by rw[<-O4.mp Z,<-e];exact B)⟩
 .by_cases c:j<as.length
  .rw[Pk c]at D;rw[Pk (by omega)]at J;have na:a≠n:=λz=>L (z▸Pj D);have nq:q≠p:=λz=>np (z▸Pj J);have h3:=h.lst j a q D J;have nd:a≠d:=λz=>by have:=h.at';rw[<-z,h3]at this;cases this
   rw[au na,au nd,hq q nq];exact h3
  rw[Pg (by omega)]at D J;have ej:j-as.length=0:=by
   have:=(O2.mp D).1;simp at this;omega
  have ej2:j-ps.length=0:=by omega
  rw[ej]at D;rw[ej2]at J;cases D;cases J;rw[ag,hF]
  rfl
 .rcases Po.mp B with B|B
  .exact h.new a B
  rw[O4.mp B];exact M
 rw[Po,h.mem,O4];by_cases c:q=p
 .subst c;rw[hF];exact⟨λ_=>hx,λ_=>.inr rfl⟩
 rw[hq q c];exact⟨λz=>z.resolve_right c,.inl⟩
end
def kQ:Sp:=λvs H Q _=>∃(t:U0) (rs:List Int),vs=[.ref t]/\H t=YN (.tup (iV rs))/\bc rs/\∀(l:U0) (z:Hp),H l=none->av H z->dJ pr z l (dw (aw rs) (iK (aw rs) (rs.length+1)))->Q (.ref l) z
open NK
noncomputable abbrev Nd:=List Itm
noncomputable abbrev d9:=List (Nd×List Nd)
noncomputable def pN(p:Int×Int):Nd:=[.inl (.inl p.1),.inl (.inl p.2)]
noncomputable def qI(p:Int×Int):Itm:=.inr [.inl p.1,.inl p.2]
noncomputable def cN(c:List (Int×Int)):Nd:=c.map qI
theorem jQ{p q:Int×Int}(h:pN p=pN q):p=q:=by
 unfold pN at h;injection h with B z;injection z with z _;injection B with B;injection B with B;injection z with z;injection z with z;exact UN B z
theorem HE{p q:Int×Int}(h:qI p=qI q):p=q:=by
 unfold qI at h;injection h with h;injection h with B z;injection z with z _;injection B with B;injection z with z;exact UN B z
theorem r9{c d:List (Int×Int)}(h:cN c=cN d):c=d:=(Ri λ_ _ e=>HE e).mp h
theorem i6{p:Int×Int}{c:List (Int×Int)}:pN p≠cN c:=λh=>by
 cases c with
 |nil=>cases h
 |cons q r =>
  injection h with z _;cases z
noncomputable def bh(W:d9):List Nd:=W.map (·.1)
noncomputable def dg(W:d9)(k:Nd):List Nd:=((W.find? λt=>decide (t.1=k)).map (·.2)).getD []
structure gc(W:d9):Prop where
 nd:(bh W).Nodup
 nl:∀t∈W,t.2.Nodup
 sym:∀t∈W,∀l∈t.2,∃u∈W,u.1=l/\t.1∈u.2
 irr:∀t∈W,t.1∉t.2
section
variable {W:d9}{t u:Nd×List Nd}{k:Nd}
theorem gc.uniq(O:gc W)(B:t∈W)(D:u∈W)(e:t.1=u.1):t=u:=by
 obtain⟨i,hi,rfl⟩:=PC B;obtain⟨j,H,rfl⟩:=PC D;have nd:=O.nd;unfold bh at nd;have z:(W.map (·.1))[i]'(by rw[O3];exact hi)=(W.map (·.1))[j]'(by rw[O3];exact H):=by rw[Q9,Q9];exact e
 have:=(RQ nd).mp z;subst this
 rfl
theorem gc.lk(O:gc W)(z:t∈W):dg W t.1=t.2:=by
 unfold dg;cases e:W.find? λu=>decide (u.1=t.1)with
 |none=>exact U4 (R0.mp e t z) (by simp)
 |some u =>
  have B:=QC e;have D:u.1=t.1:=U6 (RA (p:=λu:Nd×List Nd=>decide (u.1=t.1)) e);rw[O.uniq B z D]
  rfl
theorem mem_keys:k∈bh W↔∃t∈W,t.1=k:=by unfold bh;rw[O6]
theorem kR(h:k∉bh W):dg W k=[]:=by
 unfold dg;cases e:W.find? λu=>decide (u.1=k)with
 |none=>rfl
 |some u=>exact U4 (mem_keys.mpr ⟨u,QC e,U6 (RA (p:=λu:Nd×List Nd=>decide (u.1=k)) e)⟩) h
theorem gc.zk(O:gc W){a b:Nd}(h:b∈dg W a):a∈dg W b/\b∈bh W/\a∈bh W:=by
 by_cases c:a∈bh W
 .obtain⟨t,z,rfl⟩:=mem_keys.mp c;rw[O.lk z]at h;obtain⟨u,B,e,D⟩:=O.sym t z b h;subst e;rw[O.lk B];exact⟨D,mem_keys.mpr ⟨u,B,rfl⟩,c⟩
 rw[kR c]at h;exact U4 h Pf
theorem gc.BW(O:gc W)(a:Nd):(dg W a).Nodup:=by
 by_cases c:a∈bh W
 .obtain⟨t,z,rfl⟩:=mem_keys.mp c;rw[O.lk z];exact O.nl t z
 rw[kR c];exact QK
theorem gc.vZ(O:gc W)(a:Nd):a∉dg W a:=λh=>by
 obtain⟨t,z,rfl⟩:=mem_keys.mp (O.zk h).2.2;rw[O.lk z]at h;exact O.irr t z h
noncomputable def dQ(W:d9)(k:Nd):d9:=(W.filter λt=>decide (t.1≠k)).map λt=>(t.1,t.2.filter λl=>decide (l≠k))
theorem kT:u∈dQ W k↔∃t∈W,t.1≠k/\u=(t.1,t.2.filter λl=>decide (l≠k)):=by
 unfold dQ;rw[O6];constructor
 .rintro⟨t,h,rfl⟩;obtain⟨z,B⟩:=Pd.mp h;exact⟨t,z,U6 B,rfl⟩
 rintro⟨t,z,B,rfl⟩;exact⟨t,Pd.mpr ⟨z,UU B⟩,rfl⟩
theorem g6:bh (dQ W k)=(bh W).filter λl=>decide (l≠k):=by
 unfold bh dQ;rw[Qc,RB]
 rfl
theorem gc.cut(O:gc W):gc (dQ W k):=by
 refine⟨by rw[g6];exact O.nd.sublist Qn,λu z=>?_,λu z l D=>?_,λu z D=>?_⟩
 .obtain⟨t,B,_,rfl⟩:=kT.mp z;exact(O.nl t B).sublist Qn
 .obtain⟨t,B,J,rfl⟩:=kT.mp z;obtain⟨L,H⟩:=Pd.mp D;have H:=U6 H;obtain⟨v,M,e,V⟩:=O.sym t B l L;exact⟨_,kT.mpr ⟨v,M,by rw[e];exact H,rfl⟩,e,Pd.mpr ⟨V,UU J⟩⟩
 obtain⟨t,B,_,rfl⟩:=kT.mp z;exact O.irr t B (Pd.mp D).1
theorem Eo:(dQ W k).length<=W.length:=by
 unfold dQ;rw[O3];exact PJ _ _
theorem HF(h:k∈bh W):(dQ W k).length<W.length:=by
 obtain⟨t,z,rfl⟩:=mem_keys.mp h;unfold dQ;rw[O3];refine Q6.mpr ⟨t,z,by simp⟩
noncomputable def aK(W:d9)(ks:List (Int×Int)):List Nd:=(W.filter λt=>decide (t.2.length<=1) && !decide (t.1∈ks.map pN)).map (·.1)
noncomputable def mI(W:d9)(ks:List (Int×Int)):d9:=(aK W ks).foldl dQ W
theorem kU:∀(l:List Nd) (W:d9),(l.foldl dQ W).length<=W.length
 |[],_=>O5 _
 |k::r,W=>PK (kU r (dQ W k)) Eo
theorem qK{ks:List (Int×Int)}(h:k∈aK W ks):k∈bh W:=by
 unfold aK at h;obtain⟨t,z,rfl⟩:=O6.mp h;exact mem_keys.mpr ⟨t,(Pd.mp z).1,rfl⟩
theorem nC{ks:List (Int×Int)}(h:aK W ks≠[]):(mI W ks).length<W.length:=by
 unfold mI;cases e:aK W ks with
 |nil=>exact U4 e h
 |cons k r=>exact Q7 (kU r (dQ W k)) (HF (qK (ks:=ks) (by rw[e];exact Pb)))
noncomputable def fo:Nat->d9->List (Int×Int)->d9
 |0,W,_=>W
 |n+1,W,ks=>if aK W ks=[]then W else fo n (mI W ks) ks
theorem qL{ks:List (Int×Int)}:∀(n m:Nat) (W:d9),W.length<=n->W.length<=m->fo n W ks=fo m W ks
 |0,0,W,_,_=>rfl
 |0,m+1,W,z,B=>by
  have e:W=[]:=Qs.mp (by omega);subst e;show _=if aK [] ks=[]then[]else _;rw[UZ (show aK [] ks=[]from rfl)]
  rfl
 |n+1,0,W,z,B=>by
  have e:W=[]:=Qs.mp (by omega);subst e;show(if aK [] ks=[]then[]else _)=_;rw[UZ (show aK [] ks=[]from rfl)]
  rfl
 |n+1,m+1,W,z,B=>by
  show(if aK W ks=[]then W else fo n (mI W ks) ks)=if aK W ks=[]then W else fo m (mI W ks) ks;by_cases c:aK W ks=[]
  .rw[UZ c,UZ c]
  rw[UX c,UX c];have:=nC c;exact qL n m _ (by omega) (by omega)
noncomputable def iI(W:d9)(ks:List (Int×Int)):d9:=fo W.length W ks
theorem zm{ks:List (Int×Int)}(h:aK W ks=[]):iI W ks=W:=by
 unfold iI;cases e:W.length with
 |zero=>rfl
 |succ n =>
  show(if aK W ks=[]then W else _)=W;rw[UZ h]
theorem zo{ks:List (Int×Int)}(h:aK W ks≠[]):iI W ks=iI (mI W ks) ks:=by
 have lt:=nC h;unfold iI;cases e:W.length with
 |zero=>omega
 |succ n =>
  show(if aK W ks=[]then W else fo n (mI W ks) ks)=_;rw[UX h];exact qL n _ _ (by omega) (O5 _)
theorem gc.fold:∀(l:List Nd) {W:d9},gc W->gc (l.foldl dQ W)
 |[],_,O=>O
 |_::r,_,O=>gc.fold r O.cut
theorem gc.fo{ks:List (Int×Int)}:∀(n:Nat) {W:d9},gc W->gc (fo n W ks)
 |0,_,O=>O
 |n+1,W,O=>by
  show gc (if aK W ks=[]then W else _)
  split
  .exact O
  exact gc.fo n (O.fold _)
theorem mJ{ks:List (Int×Int)}:∀(n:Nat) (W:d9),W.length<=n->aK (ay.fo n W ks) ks=[]
 |0,W,h=>by
  have e:W=[]:=Qs.mp (by omega);subst e
  rfl
 |n+1,W,h=>by
  show aK (if aK W ks=[]then W else _) ks=[]
  by_cases c:aK W ks=[]
  .rw[UZ c];exact c
  rw[UX c];have:=nC c;exact mJ n _ (by omega)
theorem fold_keeps:∀(l:List Nd) (W:d9),k∈bh W->k∉l->k∈bh (l.foldl dQ W)
  |[],_,h,_=>h
  | x::r, W, h, n => fold_keeps r (dQ W x) (by
      rw[g6];exact Pd.mpr ⟨h,UU λz=>n (by rw[z]; exact Pb)⟩) λz=>n (Pn _ z)
noncomputable def sd(W:d9):Nat->Nd->List Nd->List Nd->List Nd
 |0,_,_,z=>z
 |n+1,p,B,z=>match B with
  |[]=>z
  |t::_=>if(dg W t).length<=2 then sd W n t ((dg W t).filter λl=>decide (l≠p)) (z++[t])else z
noncomputable def dO(W:d9)(e:Nd):List Nd:=sd W W.length e (dg W e) [e]
structure Path(W:d9) (vs:List Nd):Prop where
 nd:vs.Nodup
 key:∀v∈vs,v∈bh W
 nD:∀(i:Nat) (a b:Nd),vs[i]?=YN a->vs[i+1]?=YN b->b∈dg W a
 FR:∀v∈vs,(dg W v).length<=2
 d0:∀a,vs[0]?=YN a->(dg W a).length<=1
theorem l8:∀{xs ys:List Nd},xs.Nodup->(∀x∈xs,x∈ys)->xs.length<=ys.length
 |[],ys,_,_=>Qb _
 |x::r,ys,h,s=>by
  rw[Qj]at h;have D:=s x Pb;have H:=l8 (xs:=r) (ys:=ys.filter λy=>decide (y≠x)) h.2 λy B=>by
   have ne:y≠x:=λz=>h.1 (z▸B);exact Pd.mpr ⟨s y (Pn _ B),UU ne⟩
  have J:(ys.filter λy=>decide (y≠x)).length<ys.length:=Q6.mpr ⟨x,D,by simp⟩;show r.length+1<=ys.length;omega
theorem Path.len(P:Path W vs):vs.length<=W.length:=by
 have:=l8 P.nd P.key;unfold bh at this;rwa[O3]at this
theorem BX{a b:Nd}{l:List Nd}(z:a∈l)(B:b∈l)(h:l.length<=1):a=b:=by
 match l,h with
 |[x],_=>rw[O4.mp z,O4.mp B]
 |[],_=>exact U4 z Pf
theorem wa{a b c:Nd}{l:List Nd}(B:a∈l)(D:b∈l)(H:c∈l)(h:l.length<=2)(J:a≠b)(L:a≠c)(M:b≠c):False:=by
 have:=l8 (xs:=[a,b,c]) (ys:=l) (by simp[J,L,M]) (λx z=>by
  rcases Pu.mp z with rfl|z
  .exact B
  rcases Pu.mp z with rfl|z
  .exact D
  cases O4.mp z;exact H)
 have:3<=l.length:=this;omega
theorem Path.snoc(O:gc W){vs:List Nd}(P:Path W vs){p x:Nd}(hp:vs.getLast?=YN p)(Z:x∈dg W p)(hq:∀q,2<=vs.length->vs[vs.length-2]?=YN q->x≠q)(hd:(dg W x).length<=2):Path W (vs++[x]):=by
 obtain⟨ys,rfl⟩:=RP.mp hp;have L:(ys++[p]).length=ys.length+1:=by rw[O9];rfl
 have ep:(ys++[p])[ys.length]?=YN p:=by rw[Pg (O5 _),QE];rfl
 have sy:=O.zk Z;have inj:∀{i j:Nat}{a:Nd},(ys++[p])[i]?=YN a->(ys++[p])[j]?=YN a->i=j:=λ{i j a} D H=>(Qi (O2.mp D).1 P.nd).mp (D.trans H.symm);have new:x∉ys++[p]:=λhm=>by
  obtain⟨i,hi,e⟩:=PC hm;have M:(ys++[p])[i]?=YN x:=by rw[O1 hi,e]
  rw[L]at hi;by_cases c1:i=ys.length
  .subst c1;cases ep.symm.trans M;exact O.vZ p Z
  by_cases c2:i+1=ys.length
  .refine hq x (by omega) ?_ rfl;rw[L,show ys.length+1-2=i by omega];exact M
  have J:=O1 (l:=ys++[p]) (i:=i+1) (by rw[L];omega);have hn:=P.nD i _ _ M J;by_cases c0:i=0
  .subst c0;have:=BX hn sy.1 (P.d0 _ M);rw[this]at J;have:=inj J ep;omega
  have V:=O1 (l:=ys++[p]) (i:=i-1) (by rw[L];omega);have hb:=P.nD (i-1) _ _ V (by rw[show i-1+1=i by omega];exact M);have HG:=(O.zk hb).1;refine wa HG hn sy.1 (P.FR x hm) (λz=>?_) (λz=>?_) (λz=>?_)
  .rw[z]at V;have:=inj V J;omega
  .rw[z]at V;have:=inj V ep;omega
  rw[z]at J;have:=inj J ep;omega
 refine⟨?_,λv B=>?_,λi a b D H=>?_,λv B=>?_,λa h=>?_⟩
 .rw[QB];exact⟨P.nd,by simp,λa ha b hb z=>new (by rw[O4.mp hb]at z;rwa[<-z])⟩
 .rcases Po.mp B with B|B
  .exact P.key v B
  rw[O4.mp B];exact sy.2.1
 .by_cases c:i+1<(ys++[p]).length
  .rw[Pk (by omega)]at D;rw[Pk c]at H;exact P.nD i a b D H
  have hi:=(O2.mp H).1;rw[O9,PZ]at hi;have e1:i=ys.length:=by omega
  subst e1;rw[Pk (by omega),ep]at D;rw[Pg (by omega),L,QE]at H;cases D;cases H;exact Z
 .rcases Po.mp B with B|B
  .exact P.FR v B
  rw[O4.mp B];exact hd
 rw[Pk (by omega)]at h;exact P.d0 a h
end
noncomputable def g7(kins:List (Int×Int))(g:List Int):List (Int×Int):=g.map λi=>kins.getD i.toNat (0,0)
noncomputable def jC(c:List (Int×Int))(k:Int×Int):Bool:=decide (k.1<(c.headD (0,0)).1)&&decide ((c.getLastD (0,0)).2<k.2)
noncomputable def i7(kins c:List (Int×Int)):List (Int×Int):=kins.filter (jC c)
noncomputable def cG(kins c:List (Int×Int)):List (Int×Int):=(i7 kins c).drop ((i7 kins c).length-1)
noncomputable def kW(kins c:List (Int×Int)):List (Int×Int):=c++cG kins c
noncomputable def eO(kins:List (Int×Int))(cs:List (List (Int×Int))):d9:=kins.map (λk=>(pN k,(cs.filter λc=>decide (k∈kW kins c)).map cN))++cs.map λc=>(cN c,(kW kins c).map pN)
structure Ki(kins:List (Int×Int)) (cs:List (List (Int×Int))):Prop where
 knd:kins.Nodup
 LN:cs.Nodup
 sub:∀c∈cs,∀k∈kW kins c,k∈kins
 Kj:∀c∈cs,(kW kins c).Nodup
theorem ju{α β:Type}{f:α->β}{l:List α}(h:l.Nodup)(inj:∀a b,f a=f b->a=b):(l.map f).Nodup:=by
 unfold List.Nodup at h⊢;rw[Qa];exact h.imp λn e=>n (inj _ _ e)
theorem g9(kins:List (Int×Int))(cs:List (List (Int×Int))):bh (eO kins cs)=kins.map pN++cs.map cN:=by
 unfold bh eO;rw[Ph,Qc,Qc]
 rfl
theorem iA{kins:List (Int×Int)}{cs:List (List (Int×Int))}(K:Ki kins cs):gc (eO kins cs):=by
 have J:∀{t:Nd×List Nd},t∈eO kins cs->(∃k∈kins,t=(pN k,(cs.filter λc=>decide (k∈kW kins c)).map cN))\/∃c∈cs,t=(cN c,(kW kins c).map pN):=λ{t} h=>by
  rcases Po.mp h with h|h
  .obtain⟨k,B,rfl⟩:=O6.mp h;exact .inl ⟨k,B,rfl⟩
  obtain⟨c,z,rfl⟩:=O6.mp h;exact .inr ⟨c,z,rfl⟩
 refine⟨?_,λt D=>?_,λt D l H=>?_,λt D H=>?_⟩
 .rw[g9,QB];refine⟨ju K.knd λ_ _=>jQ,ju K.LN λ_ _=>r9,λa L b M e=>?_⟩;obtain⟨k,_,rfl⟩:=O6.mp L;obtain⟨c,_,rfl⟩:=O6.mp M;exact i6 e
 .rcases J D with⟨k,B,rfl⟩|⟨c,z,rfl⟩
  .exact ju (K.LN.sublist Qn) λ_ _=>r9
  exact ju (K.Kj c z) λ_ _=>jQ
 .rcases J D with⟨k,B,rfl⟩|⟨c,z,rfl⟩
  .obtain⟨c,z,rfl⟩:=O6.mp H;obtain⟨O,V⟩:=Pd.mp z;exact⟨_,PB _ (O6.mpr ⟨c,O,rfl⟩),rfl,O6.mpr ⟨k,U6 V,rfl⟩⟩
  obtain⟨k,B,rfl⟩:=O6.mp H;exact⟨_,PR _ (O6.mpr ⟨k,K.sub c z k B,rfl⟩),rfl,O6.mpr ⟨c,Pd.mpr ⟨z,UU B⟩,rfl⟩⟩
 rcases J D with⟨k,B,rfl⟩|⟨c,z,rfl⟩
 .obtain⟨c,_,e⟩:=O6.mp H;exact i6 e.symm
 obtain⟨k,_,e⟩:=O6.mp H;exact i6 e
theorem BY(c:Nat->Int):∀n,∀e∈ia c n,e.2.Pairwise (· < ·)
 |0,e,h=>nomatch h
 |n+1,e,h=>by
  have z:=BY c n;have ok:=gM c n;have h:e∈fN (ia c n) (c n) n:=h;unfold fN at h
  split at h
  .obtain⟨d,hd,rfl⟩:=O6.mp h
   split
   .show(d.2++[(n:Int)]).Pairwise (· < ·);rw[QX];refine⟨z d hd,QL ..,λa B b D=>?_⟩;rw[O4.mp D];exact(ok.lt d hd a B).2
   exact z d hd
  rcases Po.mp h with h|h
  .exact z e h
  rw[O4.mp h];exact QL ..
noncomputable def aN(kins:List (Int×Int)):List (List (Int×Int)):=(eA kins).map (g7 kins)
section
variable {kins:List (Int×Int)}
theorem xV(asc:kins.Pairwise λp q=>p.1<q.1){i j:Nat}(hi:i<j)(z:j<kins.length):(kins.getD i (0,0)).1<(kins.getD j (0,0)).1:=by
 rw[Py,Py,O1 (show i<kins.length by omega),O1 z];exact Pz.mp asc i j (by omega) z hi
theorem kX{g:List Int}(h:g∈eA kins):g≠[]/\(∀x∈g,0<=x/\x<kins.length)/\g.Pairwise (· < ·)/\g.length<=kins.length:=by
 unfold eA at h;obtain⟨e,z,rfl⟩:=O6.mp h;have ok:=gM (λk=>mk kins (kins.getD k (0,0)).1) kins.length;exact⟨ok.ne e z,ok.lt e z,BY _ _ e z,ok.len e z⟩
theorem xW(asc:kins.Pairwise λp q=>p.1<q.1){g:List Int}(h:g∈eA kins):(g7 kins g).Pairwise λp q=>p.1<q.1:=by
 obtain⟨_,B,D,_⟩:=kX h;unfold g7;rw[Qa];have:g.Pairwise λa b=>a<b/\b∈g/\a∈g:=by
  rw[Pz];intro i j hi H z;exact⟨Pz.mp D i j hi H z,PU _,PU _⟩
 refine this.imp λ{a b} q=>?_;have J:=B a q.2.2;have L:=B b q.2.1;have:=q.1;exact xV asc (by omega) (by omega)
theorem Ep{g:List Int}(h:g∈eA kins){k:Int×Int}(z:k∈g7 kins g):k∈kins:=by
 obtain⟨i,hi,rfl⟩:=O6.mp z;have:=(kX h).2.1 i hi;rw[Py,O1 (show i.toNat<kins.length by omega)];exact PU _
theorem oO{l:List (Int×Int)}(asc:l.Pairwise λp q=>p.1<q.1):l.Nodup:=asc.imp λh e=>by rw[e]at h;omega
theorem i8{c:List (Int×Int)}:(cG kins c).length<=1:=by
 unfold cG;rw[Qo];omega
theorem cw{c:List (Int×Int)}{k:Int×Int}(h:k∈cG kins c):k∈kins/\jC c k=true:=Pd.mp (List.mem_of_mem_drop h)
theorem xX{l:List (Int×Int)}(asc:l.Pairwise λp q=>p.1<q.1){k:Int×Int}(h:k∈l):(l.headD (0,0)).1<=k.1:=by
 cases l with
 |nil=>exact U4 h Pf
 |cons x r =>
  rcases Pu.mp h with rfl|h
  .exact QP _
  exact Q5 ((SF.mp asc).1 k h)
theorem jv(asc:kins.Pairwise λp q=>p.1<q.1):Ki kins (aN kins):=by
 refine⟨oO asc,?_,λc z k B=>?_,λc z=>?_⟩
 .have ok:=gM (λk=>mk kins (kins.getD k (0,0)).1) kins.length;have Z:(eA kins).Pairwise λa b=>a.headD 0<b.headD 0:=by
   unfold eA;rw[Qa];exact ok.asc
  unfold aN;unfold List.Nodup;rw[Qa];have:(eA kins).Pairwise λa b=>a.headD 0<b.headD 0/\a∈eA kins/\b∈eA kins:=by
   rw[Pz];intro i j hi hj J;exact⟨Pz.mp Z i j hi hj J,PU _,PU _⟩
  refine this.imp λ{a b} q e=>?_;obtain⟨M,q2,q3⟩:=q;have D:=kX q2;have H:=kX q3;cases a with
  |nil=>exact D.1 rfl
  |cons x r =>
   cases b with
   |nil=>exact H.1 rfl
   |cons y r' =>
    have e:kins.getD x.toNat (0,0)::g7 kins r=kins.getD y.toNat (0,0)::g7 kins r':=e;have e1:=(List.cons.inj e).1;have hx:=D.2.1 x Pb;have hy:=H.2.1 y Pb;have M:x<y:=M;have:=xV asc (i:=x.toNat) (j:=y.toNat) (by omega) (by omega);rw[e1]at this;omega
 .unfold aN at z;obtain⟨g,L,rfl⟩:=O6.mp z;rcases Po.mp B with B|B
  .exact Ep L B
  exact(cw B).1
 unfold aN at z;obtain⟨g,L,rfl⟩:=O6.mp z;have O:=xW asc L;unfold kW;rw[QB];refine⟨oO O,?_,λa D b H e=>?_⟩
 .have:=i8 (kins:=kins) (c:=g7 kins g)
  match cG kins (g7 kins g),this with
  |[],_=>exact QK
  |[x],_=>simp
 subst e;have V:=(cw H).2;unfold jC at V;rw[PY,U9,U9]at V;have:=xX O D;omega
end
noncomputable abbrev Es:=List (Nd×U0×U0)
noncomputable def eV(z:Es):List NK.Ent:=z.map λe=>(e.1,e.2.1,V.ref e.2.2)
def RW(H:Hp)(e:Nd×U0×U0)(t:Nd×List Nd):Prop:=e.1=t.1/\df H e.2.2 t.2
structure j5(P:U8) (w:Va) (H:Hp) (a:U0) (es:Es) (W:d9):Prop where
 d:D2 P w H a (eV es)
 r:Paired (RW H) es W
 nd:(es.map (·.2.2)).Nodup
section
variable {P:U8}{w:Va}{H H':Hp}{a b l:U0}{es:Es}{W:d9}{k:Nd}{ks:List Nd}
theorem _root_.NK.df.keep(h:df H l ks)(e:H' l=H l)(g:∀c ys,H c=YN (.tup ys)->H' c=YN (.tup ys)):df H' l ks:=by
 obtain⟨bs,z,B,D⟩:=h;exact⟨bs,e.trans z,B,λi b k e1 e2=>(D i b k e1 e2).keep g⟩
theorem _root_.NK.df.same(h:df H l ks)(s:av H H'):df H' l ks:=by
 obtain⟨bs,z,B,D⟩:=h;exact⟨bs,s _ _ z,B,λi b k e1 e2=>(D i b k e1 e2).keep λc ys e=>s _ _ e⟩
theorem _root_.NK.K2.same(h:K2 H k b)(s:av H H'):K2 H' k b:=h.keep λc ys e=>s _ _ e
theorem j5.same(h:j5 P w H a es W)(s:av H H'):j5 P w H' a es W :=
 ⟨⟨s _ _ h.d.1,λp z=>K2.same (h.d.2 p z) s⟩,Paired.q9 h.r λe t q=>⟨q.1,df.same q.2 s⟩,h.nd⟩
theorem kY(h:Paired (RW H) es W):es.map (·.1)=bh W:=by
 induction h with
 |nil=>rfl
 |cons q _ z =>
  exact congr (congrArg List.cons q.1) z
theorem sf(nd:(es.map (·.1)).Nodup)(h:(k,b,l)∈es):mY (eV es) k=YN (.ref l):=by
 induction es with
 |nil=>exact U4 h Pf
 |cons e r z =>
  rw[Qk,Qj]at nd;unfold mY eV;rw[Qk,Q4];by_cases c:e.1=k
  .rw[UU c];rcases Pu.mp h with rfl|h
   .rfl
   exact U4 (O6.mpr ⟨(k,b,l),h,rfl⟩) (by rw[<-c];exact nd.1)
  rw[U1 c];rcases Pu.mp h with rfl|h
  .exact U4 rfl c
  exact z nd.2 h
theorem HH(h:k∉es.map (·.1)):mY (eV es) k=none:=by
 unfold mY eV;rw[Ta,R0];intro x B;obtain⟨e,D,rfl⟩:=O6.mp B;simpa usingλz=>h (O6.mpr ⟨e,D,z⟩)
theorem wb{α β:Type}{R:α->β->Prop}{xs:List α}{ys:List β}(h:Paired R xs ys){y:β}(z:y∈ys):∃x∈xs,R x y:=by
 induction h with
 |nil=>exact U4 z Pf
 |cons q _ B =>
  rcases Pu.mp z with rfl|z
  .exact⟨_,Pb,q⟩
  obtain⟨x,D,H⟩:=B z;exact⟨x,Pn _ D,H⟩
theorem dh{α β:Type}{R:α->β->Prop}{xs:List α}{ys:List β}(h:Paired R xs ys){x:α}(z:x∈xs):∃y∈ys,R x y:=by
 induction h with
 |nil=>exact U4 z Pf
 |cons q _ B =>
  rcases Pu.mp z with rfl|z
  .exact⟨_,Pb,q⟩
  obtain⟨y,D,H⟩:=B z;exact⟨y,Pn _ D,H⟩
theorem j5.at(h:j5 P w H a es W)(nd:(bh W).Nodup){t:Nd×List Nd}(B:t∈W):∃b l,(t.1,b,l)∈es/\mY (eV es) t.1=YN (.ref l)/\df H l t.2/\K2 H t.1 b:=by
 obtain⟨e,z,q⟩:=wb h.r B;obtain⟨e1,e2,e3⟩:=e;obtain⟨D,J⟩:=q;cases D;exact⟨e2,e3,z,sf (by rw[kY h.r];exact nd) z,J,h.d.2 _ (O6.mpr ⟨_,z,rfl⟩)⟩
theorem Paired.app{α β:Type}{R:α->β->Prop}{xs z:List α}{ys B:List β}(h:Paired R xs ys)(k:Paired R z B):Paired R (xs++z) (ys++B):=by
 induction h with
 |nil=>exact k
 |cons q _ D=>exact .cons q D
theorem j5.put(h:j5 P w H a es W)(L:k∉bh W)(M:K2 H k b)(O:df H l ks)(nl:l∉es.map (·.2.2)):j5 P w (L2.upd H a (iZ P w a (put2 (eV es) k b (.ref l)))) a (es++[(k,b,l)]) (W++[(k,ks)]):=by
 have e1:put2 (eV es) k b (.ref l)=eV (es++[(k,b,l)]):=by
  unfold put2;rw[HH (by rw[kY h.r];exact L),UX (by simp)];unfold eV;rw[Ph]
  rfl
 have g:∀{c:U0}{o:HO},H c=YN o->(∀φ,o≠.ext φ)->L2.upd H a (iZ P w a (put2 (eV es) k b (.ref l))) c=YN o:=λ{c o} e n=>by
  rw[au (λz=>by rw[z,h.d.1]at e;exact n _ (Option.some.inj e).symm)];exact e
 have J:∀{D:U0}{B:List Nd},df H D B->df (L2.upd H a (iZ P w a (put2 (eV es) k b (.ref l)))) D B:=λ{D B} q=>by
  obtain⟨bs,V,Z,h3⟩:=q;exact⟨bs,g V (λ_ z=>by cases z),Z,λi b k e1 e2=>(h3 i b k e1 e2).keep λc ys e=>g e λ_ z=>by cases z⟩
 refine⟨by rw[<-e1];exact h.d.put M,?_,?_⟩
 .exact Paired.app (Paired.q9 h.r λe t q=>⟨q.1,J q.2⟩) (.cons ⟨rfl,J O⟩ .nil)
 rw[Ph,QB];exact⟨h.nd,by simp,λx hx y hy e=>nl (by have e:x=l:=e.trans (O4.mp hy);rw[<-e];exact hx)⟩
theorem j5.chg(h:j5 P w H a es W)(nd:(bh W).Nodup)(he:(k,b,l)∈es){vs:List V}(O:H l=YN (.lst vs)){f:List Nd->List Nd}{o:HO}(hn:∀ls,df H l ls->df (L2.upd H l o) l (f ls)):j5 P w (L2.upd H l o) a es (W.map λt=>if t.1=k then(t.1,f t.2)else t):=by
 have g:∀{c:U0}{ys:List V},H c=YN (.tup ys)->L2.upd H l o c=YN (.tup ys):=λ{c ys} e=>by
  rw[au (λz=>by rw[z,O]at e;cases e)];exact e
 have na:a≠l:=λz=>by have:=h.d.1;rw[z,O]at this;cases this
 refine⟨h.d.keep (by rw[au na]) λc ys e=>g e,?_,h.nd⟩;have nk:(es.map (·.1)).Nodup:=by rw[kY h.r];exact nd
 have key:∀e∈es,e.1=k↔e.2.2=l:=λe hm=>by
  obtain⟨i,hi,rfl⟩:=PC hm;obtain⟨j,B,D⟩:=PC he;have z1:(es.map (·.1))[j]'(by rw[O3];exact B)=k:=by rw[Q9,D]
  have z2:(es.map (·.2.2))[j]'(by rw[O3];exact B)=l:=by rw[Q9,D]
  constructor
  .intro c;have:(es.map (·.1))[i]'(by rw[O3];exact hi)=(es.map (·.1))[j]'(by rw[O3];exact B):=by rw[z1,Q9];exact c
   have:=(RQ nk).mp this;subst this;rw[D]
  intro c;have:(es.map (·.2.2))[i]'(by rw[O3];exact hi)=(es.map (·.2.2))[j]'(by rw[O3];exact B):=by rw[z2,Q9];exact c
  have:=(RQ h.nd).mp this;subst this;rw[D]
 have go:∀{xs:Es}{ys:d9},(∀e∈xs,e.1=k↔e.2.2=l)->Paired (RW H) xs ys->Paired (RW (L2.upd H l o)) xs (ys.map λt=>if t.1=k then(t.1,f t.2)else t):=by
  intro xs ys Z q
  induction q with
  |nil=>exact .nil
  | @cons e t r s q' _ ih =>
   refine .cons ?_ (ih λe' L=>Z e' (Pn _ L));obtain⟨J,M⟩:=q';have c:=Z e Pb;show RW (L2.upd H l o) e (if t.1=k then(t.1,f t.2)else t);by_cases d:e.1=k
   .rw[UZ (by rw[<-J];exact d)];refine⟨J,?_⟩;rw[c.mp d]at M⊢;exact hn _ M
   rw[UX (by rw[<-J];exact d)];refine⟨J,df.keep M (by rw[au (λz=>d (c.mpr z))]) λc ys e=>g e⟩
 exact go key h.r
theorem j5.drop(h:j5 P w H a es W):j5 P w (L2.upd H a (iZ P w a (i0 (eV es) k))) a (es.filter λe=>decide (e.1≠k)) (W.filter λt=>decide (t.1≠k)):=by
 have e1:i0 (eV es) k=eV (es.filter λe=>decide (e.1≠k)):=by
  unfold i0 eV;rw[RB]
  rfl
 have g:∀{c:U0}{o:HO},H c=YN o->(∀φ,o≠.ext φ)->L2.upd H a (iZ P w a (i0 (eV es) k)) c=YN o:=λ{c o} e n=>by
  rw[au (λz=>by rw[z,h.d.1]at e;exact n _ (Option.some.inj e).symm)];exact e
 refine⟨by rw[<-e1];exact D2.drop h.d,?_,h.nd.sublist (Qn.map _)⟩;have go:∀{xs:Es}{ys:d9},Paired (RW H) xs ys->Paired (RW (L2.upd H a (iZ P w a (i0 (eV es) k)))) (xs.filter λe=>decide (e.1≠k)) (ys.filter λt=>decide (t.1≠k)):=by
  intro xs ys q
  induction q with
  |nil=>exact .nil
  | @cons e t r s J _ D =>
   obtain⟨B,bs,L,M,O⟩:=J;by_cases d:e.1=k
   .rw[Rc (by simp[d]),Rc (by simp[<-B,d])];exact D
   rw[Rf (by simp[d]),Rf (by simp[<-B,d])];exact .cons ⟨B,bs,g L (λ_ z=>by cases z),M,λi b k e1 e2=>(O i b k e1 e2).keep λc ys e=>g e λ_ z=>by cases z⟩ D
 exact go h.r
theorem _root_.NK.K2.pair{p:Int×Int}(h:H b=YN (.tup (pr p))):K2 H (pN p) b:=⟨_,h,.cons rfl (.cons rfl .nil)⟩
theorem _root_.NK.K2.asPair{p:Int×Int}(h:K2 H (pN p) b):H b=YN (.tup (pr p)):=by
 obtain⟨vs,e,r⟩:=h;rw[e];cases r with
 |cons z t =>
  cases t with
  |cons B D =>
   cases D;cases(show _=_ from z);cases(show _=_ from B)
   rfl
theorem _root_.NK.K2.chain{c:List (Int×Int)}{z:List U0}(h:H b=YN (.tup (z.map V.ref)))(J:Tup pr H z c):K2 H (cN c) b:=by
 refine⟨_,h,?_⟩;obtain⟨B,D⟩:=J;clear h
 induction c generalizing z with
 |nil =>
  have:z=[]:=Qs.mp B;subst this;exact .nil
 |cons p r L =>
  cases z with
  |nil=>cases B
  |cons t z =>
   refine .cons ⟨t,rfl,D 0 t p rfl rfl⟩ (L (Nat.succ.inj B) λi t' q e1 e2=>D (i+1) t' q e1 e2)
theorem dJ.Ny{ps:List (Int×Int)}(h:dJ pr H l ps):df H l (ps.map pN):=by
 obtain⟨z,B,D,J⟩:=h;refine⟨z,B,by rw[O3];exact D,λi b k e1 e2=>?_⟩;rw[O7]at e2;obtain⟨p,e3,rfl⟩:=Pl.mp e2;exact K2.pair (J i b p e1 e3)
theorem _root_.NK.df.JX{ps:List (Int×Int)}(h:df H l (ps.map pN)):dJ pr H l ps:=by
 obtain⟨B,D,z,J⟩:=h;refine⟨B,D,by rw[O3]at z;exact z,λi b p e1 e2=>K2.asPair (J i b (pN p) e1 (by rw[O7,e2];rfl))⟩
end
end ay
namespace L2
open PySem PySem.Spec
theorem Er{X:Cx}{scope:We}{pre:List Vl}{y z:Vl}{c e:U0}{j k:Nat}(B:scope.kind=.function)(h:∀w∈scope.names,w.2≠.cell/\(w.2=.free->w.1=y\/w.1=z))(hn:∀w∈scope.names,w.2=.local->scope.names.lookup w.1=YN .local)
  (J:Xm scope X.env=pure [(y,c),(z,e)]) (hc:X.env.cells.lookup y=YN c) (he:X.env.cells.lookup z=YN e) (hN:X.N[j]?=YN y) (hM:X.N[k]?=YN z) (D:X.env.kindOf y=YN .cell) (L:X.env.kindOf z=YN .cell) (hr:(Wa scope X.env).names.lookup y=YN .cell) (M:(Wa scope X.env).names.lookup z=YN .cell) :
  ip X scope [(y,c),(z,e)] (pre++[y,z]) (Qr pre.length none++[YN j,YN k]) where
 AO:=J
 cell:=λw hw=>(h w hw).1
 kind:=B
 names:=hn
 cls:=λx c' q=>by
  rw[Q8]at q
  split at q
  .rename_i O;rw[eq_of_beq O,<-q];exact hc
  rw[Q8]at q
  split at q
  .rename_i O;rw[eq_of_beq O,<-q];exact he
  cases q
 has:=λx q=>by
  have key:∀k,(Wa scope X.env).names.lookup x=YN k->k=.cell\/k=.free->x=y\/x=z:=λk q D=>by
   have hm:=PySem.mem_of_lookup q;obtain⟨⟨n,k'⟩,hy,H⟩:=O6.mp hm;have h1:=h _ hy;by_cases V:k'=.free
   .have w:=h1.2 V;dsimp only at H
    split at H
    .cases H;exact w
    cases H;exact w
   have hb:(k'==NameKind.free)=false:=by simpa using V
   simp only[hb,RJ,Ql,Vu,Prod.mk.injEq]at H;obtain⟨_,rfl⟩:=H;rcases D with D|D
   .exact U4 D h1.1
   exact U4 D V
  have Z:x=y\/x=z:=by
   rcases q with q|q
   .exact key _ q (.inl rfl)
   exact key _ q (.inr rfl)
  rw[Q8];by_cases e1:x==y
  .rw[e1];exact⟨c,rfl⟩
  have e1:(x==y)=false:=by simpa using e1
  rw[e1];rcases Z with w|w
  .rw[w,VA]at e1;cases e1
  rw[Q8,w,VA];exact⟨e,rfl⟩
 len:=by simp
 src:=λi q x e1 e2=>by
  by_cases hi:i<pre.length
  .rw[Pk (by simpa using hi),QS,UZ hi]at e1;cases e1
  rw[Pg (by simp;omega),Sa]at e1;rw[Pg (by omega)]at e2
  match hd:i-pre.length,e1,e2 with
  |0,e1,e2 =>
   simp at e1 e2;subst e1 e2;exact⟨hN,.inl D,.inl hr⟩
  |1,e1,e2 =>
   simp at e1 e2;subst e1 e2;exact⟨hM,.inl L,.inl M⟩
  |d+2,e1,e2 =>
   simp at e1
theorem eB{b:Bool}{A B:Prop}(z:b=true)(h:A):if b=true then A else B:=by rw[UZ z];exact h
theorem eD{b:Bool}{A B:Prop}(z:b=false)(h:B):if b=true then A else B:=by rw[UX (by rw[z];decide)];exact h
theorem Kk{i j:Int}(h:i=j):decide (V.int i=V.int j)=true:=UU (by rw[h])
theorem FT{i j:Int}(h:i≠j):decide (V.int i=V.int j)=false:=U1 (λz=>h (by injection z))
end L2
namespace ay
open PySem L2 NK
theorem zr(xs:List V):jM xs (YN (-1)) none=xs.drop (xs.length-1):=by
 unfold jM;have e:HT.lK xs.length 0 (YN (-1))=xs.length-1:=by
  unfold HT.lK;simp;omega
 have e2:HT.lK xs.length xs.length none=xs.length:=rfl;rw[e,e2,QF (by rw[Qo];omega)]
theorem xY{xs:List V}{v:V}(h:xs.getLast?=YN v):qt xs (-1)=YN v:=by
 obtain⟨ys,rfl⟩:=RP.mp h;exact L2.AJ ys v
theorem qM{α β:Type}{R:α->β->Prop}{xs:List α}{ys:List β}(h:Paired R xs ys):∀{i:Nat}{x:α},xs[i]?=YN x->∃y,ys[i]?=YN y/\R x y:=by
 induction h with
 |nil=>intro i x e;simp at e
 |cons q _ z =>
  intro i x e;cases i with
  |zero=>cases e;exact⟨_,rfl,q⟩
  |succ i=>exact z e
theorem BZ{z:Es}{i:Nat}{k:Nd}{b:U0}{v:V}(h:(eV z)[i]?=YN (k,b,v)):∃l,z[i]?=YN (k,b,l)/\v=.ref l:=by
 unfold eV at h;rw[O7]at h;obtain⟨e,B,q⟩:=Pl.mp h;obtain⟨e1,e2,e3⟩:=e;cases q;exact⟨e3,B,rfl⟩
theorem _root_.NK.df.len{H:Hp}{l:U0}{ks:List Nd}(h:df H l ks):∃vs,H l=YN (.lst vs)/\vs.length=ks.length:=by
 obtain⟨bs,z,B,_⟩:=h;exact⟨_,z,by rw[O3];exact B⟩
theorem _root_.NK.df.snoc{H:Hp}{l b:U0}{ks:List Nd}{k:Nd}(h:df H l ks)(J:K2 H k b):∃vs,H l=YN (.lst vs)/\vs.length=ks.length/\df (L2.upd H l (.lst (vs++[.ref b]))) l (ks++[k]):=by
 obtain⟨bs,D,B,L⟩:=h;have g:∀c ys,H c=YN (.tup ys)->L2.upd H l (.lst (bs.map V.ref++[.ref b])) c=YN (.tup ys):=λc ys e=>by
  rw[au (λz=>by rw[z,D]at e;cases e)];exact e
 refine⟨_,D,by rw[O3];exact B,bs++[b],by rw[ag,Ph];rfl,by rw[O9,O9,B];rfl,λi c M e1 e2=>?_⟩;by_cases z:i<bs.length
 .rw[Pk z]at e1;rw[Pk (by omega)]at e2;exact(L i c M e1 e2).keep g
 have hi:=(O2.mp e1).1;rw[O9,PZ]at hi;have:i=bs.length:=by omega
 subst this;rw[Pg (O5 _),QE]at e1;rw[Pg (by omega),B,QE]at e2;cases e1;cases e2;exact J.keep g
theorem wd{W:d9}{i:Nat}{t:Nd×List Nd}{ks:List (Int×Int)}(e:W[i]?=YN t):aK (W.take (i+1)) ks=aK (W.take i) ks++(if t.2.length<=1/\t.1∉ks.map pN then[t.1]else[]):=by
 unfold aK;rw[take_snoc e,Qd,Ph,Qq,Qt];congr 1;by_cases c:t.2.length<=1/\t.1∉ks.map pN
 .rw[UZ c,UZ (by rw[UU c.1,U1 c.2];rfl)]
  rfl
 rw[UX c,UX (λz=>c (by
  rw[PY,U9,Rn,VL]at z;exact z))]
 rfl
def uD(H:Hp)(z:Es):Prop:=∀e∈z,H e.2.2=none
def xZ:Sp:=λvs H Q _=>∃(B l:U0) (D:List U0) (c kins:List (Int×Int)),vs=[.ref B,.ref l]/\H B=YN (.tup (D.map V.ref))/\Tup pr H D c/\c≠[]/\dJ pr H l kins/\kins.length<=100/\∀(r:U0) (z:Hp),H r=none->av H z->dJ pr z r (cG kins c)->Q (.ref r) z
variable (P:U8)(w:Va)
def nE:Sp:=λvs H Q _=>∃(l:U0) (kins:List (Int×Int)),vs=[.ref l]/\dJ pr H l kins/\(kins.Pairwise λp q=>p.1<q.1)/\kins.length<=100/\∀(a:U0) (B:Es) (z:Hp),H a=none->av H z->uD H B->j5 P w z a B (eO kins (aN kins))->Q (.ref a) z
def x4:Sp:=λvs H Q _=>∃(a l:U0) (B:Es) (W:d9) (ks:List (Int×Int)),vs=[.ref a,.ref l]/\j5 P w H a B W/\gc W/\W.length<=500/\dJ pr H l ks/\∀(r:U0) (z:Hp),H r=none->av H z->df z r (aK W ks)->Q (.ref r) z
noncomputable def cx(rs:List Int):d9:=if dw (aw rs) (iK (aw rs) (rs.length+1))=[]then[]else iI (eO (cX (aw rs)) (aN (cX (aw rs)))) (dw (aw rs) (iK (aw rs) (rs.length+1)))
def si:Sp:=λvs H Q _=>∃(t:U0) (rs:List Int),vs=[.ref t]/\H t=YN (.tup (iV rs))/\bc rs/\∀(a:U0) (B:Es) (z:Hp),H a=none->av H z->j5 P w z a B (cx rs)->Q (.ref a) z
noncomputable def bE(W:d9)(ks:List (Int×Int)):List (Int×Int):=ks.filter λp=>decide (pN p∈bh W)&&decide ((dg W (pN p)).length<=1)
def we:Sp:=λvs H Q _=>∃(a:U0) (B:Es) (W:d9) (ks:List (Int×Int)),vs=[.ref a]/\j5 P w H a B W/\gc W/\W.length<=500/\aK W ks=[]/\(ks.Pairwise λp q=>p.1<q.1)/\ks.length<=60/\(∀p∈ks,0<=p.2/\p.2<1000)/\∀(r:U0) (z:Hp),H r=none->av H z->dJ pr z r (bE W ks)->Q (.ref r) z
def B0:Sp:=λvs H Q _=>∃(e a:U0) (B:Es) (W:d9) (k:Nd),vs=[.ref e,.ref a]/\j5 P w H a B W/\gc W/\W.length<=500/\K2 H k e/\k∈bh W/\(dg W k).length<=1/\∀(r:U0) (z:Hp),H r=none->av H z->df z r (dO W k)->Q (.ref r) z
noncomputable def eE(rs:List Int):List Int:=(bE (cx rs) (dw (aw rs) (iK (aw rs) (rs.length+1)))).map λe=>(((dO (cx rs) (pN e)).filter λk=>decide (k∈(dw (aw rs) (iK (aw rs) (rs.length+1))).map pN)).length:Nat)
def sj:Sp:=λvs H Q _=>∃(t:U0) (rs:List Int),vs=[.ref t]/\H t=YN (.tup (iV rs))/\bc rs/\∀(r:U0) (z:Hp),H r=none->av H z->z r=YN (.lst (iV (eE rs)))->Q (.ref r) z
noncomputable def jJ(L:List Int):Int:=if L.length%2=1/\1<L.length/\(1:Int)∉L then(L.length:Int)+1 else L.length
def oP(K:Pc):Sp:=λvs H Q _=>∃(a:U0) (L:List Int),vs=[.ref a]/\(aM K H a (iV L)\/b0 K H a (iV L))/\Q (.int (jJ L)) H
noncomputable def l9(rs:List Int):Int:=(rs.length:Int)+1-(eA (bD rs)).length+jJ (eE rs)
def uE:Sp:=λvs H Q _=>∃(t:U0) (rs:List Int),vs=[.ref t]/\H t=YN (.tup (iV rs))/\bc rs/\∀z:Hp,av H z->Q (.int (l9 rs)) z
noncomputable def ma(kins:List (Int×Int))(cs:List (List (Int×Int)))(c:List (Int×Int))(i:Nat):d9 :=
 kins.map (λk=>(pN k,(cs.filter λd=>decide (k∈kW kins d)).map cN++(if k∈(kW kins c).take i then[cN c]else[])))++(cs.map (λd=>(cN d,(kW kins d).map pN))++[(cN c,(kW kins c).map pN)])
section
variable {kins:List (Int×Int)}{cs:List (List (Int×Int))}{c:List (Int×Int)}
theorem zt:ma kins cs c 0=eO kins cs++[(cN c,(kW kins c).map pN)]:=by
 unfold ma eO;rw[Rm];congr 1;refine PF λk _=>?_;rw[Tx,UX Pf,Qh]
theorem B1:ma kins cs c (kW kins c).length=eO kins (cs++[c]):=by
 unfold ma eO;rw[PQ,Ph];congr 1;refine PF λk _=>?_;rw[Qd,Ph,Qq,Qt];congr 2;by_cases h:k∈kW kins c
 .rw[UZ h,UU h,UZ rfl]
  rfl
 rw[UX h,U1 h,UX (by decide)]
 rfl
theorem zv(nd:(kW kins c).Nodup){i:Nat}{p:Int×Int}(D:(kW kins c)[i]?=YN p): ((ma kins cs c i).map λt=>if t.1=pN p then(t.1,t.2++[cN c])else t)=ma kins cs c (i+1):= by
  have np:p∉(kW kins c).take i:=λh=>by
    obtain⟨j,B⟩:= PD h;rw[QV]at B;by_cases q:j<i
    · rw[UZ q]at B;have:=(Qi (O2.mp B).1 nd).mp (B.trans D.symm);omega
    · rw[UX q]at B; cases B
  unfold ma;rw[Ph,Ph,Qc,Qc];congr 1
  · refine PF λk _ => ?_;show(if pN k=pN p then _ else _)=_;rw[take_snoc D];by_cases e:k=p
    · subst e;rw[UZ rfl];dsimp only;rw[UX np,Qh,UZ (PB _ (O4.mpr rfl))]
    · rw[UX (λz=>e (jQ z))];congr 2;by_cases h:k∈(kW kins c).take i
      · rw[UZ h,UZ (PR _ h)]
      · rw[UX h, UX (fun z => by
          rcases Po.mp z with z|z
          · exact h z
          · exact e (O4.mp z))]
  · congr 1
    · refine PF λd _ => ?_;show(if cN d=pN p then _ else _)=_;rw[UX (λz=>i6 z.symm)]
    · show[if cN c=pN p then _ else _]=_;rw[UX (λz=>i6 z.symm)]
theorem zw(i:Nat):bh (ma kins cs c i)=kins.map pN++(cs.map cN++[cN c]):=by
 unfold bh ma;rw[Ph,Ph,Qc,Qc]
 rfl
end
theorem dJ.FU{α:Type}{f:α->List V}{H:Hp}{l d:U0}{xs:List α}{φ:Vi->Prop}{o:HO}(h:dJ f H l xs)(hd:H d=YN (.ext φ)):dJ f (L2.upd H d o) l xs:=by
 obtain⟨D,B,J,L⟩:=h;exact⟨D,by rw[au (λz=>by rw[z,hd]at B;cases B)];exact B,J,λi t x e1 e2=>by
  have q:=L i t x e1 e2;rw[au (λz=>by rw[z,hd]at q;cases q)];exact q⟩
theorem Et{kins:List (Int×Int)}{cs:List (List (Int×Int))}{c:List (Int×Int)}{i:Nat}{p:Int×Int}(z:p∈kins):∃t∈ma kins cs c i,t.1=pN p/\t.2.length<=cs.length+1:=by
 refine⟨_,PR _ (O6.mpr ⟨p,z,rfl⟩),rfl,?_⟩;show(_++_:List Nd).length<=_;rw[O9,O3];have:=PJ (λd=>decide (p∈kW kins d)) cs
 split
 .show _+1<=_;omega
 show _+0<=_;omega
theorem jR(kins:List (Int×Int)):(aN kins).length<=kins.length:=by
 unfold aN eA;rw[O3,O3];exact nu _ _
theorem B2(kins:List (Int×Int)){g:List Int}{i:Nat}{x:Int}(h:g[i]?=YN x):g7 kins (g.take (i+1))=g7 kins (g.take i)++[kins.getD x.toNat (0,0)]:=by
 unfold g7;rw[take_snoc h,Ph]
 rfl
theorem Nz{α:Type}{f:α->List V}{H:Hp}{xs ys:List α}{z B:List U0}{l:U0}(D:Tup f H z xs)(J:Tup f H B ys)(L:H l=none):dJ f (L2.upd H l (.lst (z.map V.ref++B.map V.ref))) l (xs++ys):=((D.app J).Na L).JX (by rw[ag,Ph])
end ay
namespace L2
open PySem
theorem HI:PySem.bootBuiltins "all" = some (.builtin "all"):=by decide +kernel
theorem HJ:PySem.bootBuiltins "any" = some (.builtin "any"):=by decide +kernel
theorem B3:PySem.bootBuiltins "set" = some (.type "set"):=by decide +kernel
end L2
namespace ay
open PySem L2
noncomputable def wo(H:Hp)(d:U0):Hp:=λb=>if b=d then none else H b
theorem B4{H:Hp}{d b:U0}(h:b≠d):wo H d b=H b:=UX h
theorem FV{H:Hp}{d:U0}:wo H d d=none:=UZ rfl
theorem Eu{H:Hp}{d:U0}:av (wo H d) H:=λb o e=>by
 by_cases c:b=d
 .rw[c,FV]at e;cases e
 rw[B4 c]at e;exact e
theorem Ew{H B:Hp}{d:U0}(s:av H B)(h:H d=none):av H (wo B d):=λb o e=>by
 rw[B4 λz=>by rw[z,h]at e;cases e];exact s b o e
theorem B5{H:Hp}{a b:U0}{o u:HO}(h:a≠b):upd (upd H a o) b u=upd (upd H b u) a o:=by
 funext c;by_cases z:c=a
 .subst z;rw[au h,ag,ag]
 by_cases B:c=b
 .subst B;rw[ag,au z,ag]
 rw[au B,au z,au z,au B]
theorem Ex{fs:List Int}{f:Int×Int->Bool}{M:List (Int×Int)}(nd:M.Nodup)(H:∀p,p∈M↔p∈(cX fs).filter f)(O:M.Pairwise λp q=>p.1<=q.1):M=(cX fs).filter f:=by
 have L:((cX fs).filter f).Pairwise λp q=>p.1<q.1:=List.Pairwise.filter _ (gY fs);have V:((cX fs).filter f).Nodup:=List.Pairwise.imp (λz e=>by rw[e]at z;omega) L;have fst:∀p∈M,∀q∈M,p.1=q.1->p=q:=λp B q D e=>by
  obtain⟨a,b,k,rfl⟩:=bK.mp (Pd.mp ((H p).mp B)).1;obtain⟨Z,b',k',rfl⟩:=bK.mp (Pd.mp ((H q).mp D)).1;have ea:a=Z:=by dsimp only at e;omega
  subst ea;rw[dW k k']
 have J:M.Pairwise λp q=>p.1<q.1:=by
  refine List.Pairwise.imp_of_mem (R:=λp q=>p.1<=q.1/\p≠q) (λ{p q} B D z=>?_) (List.Pairwise.and O nd);have:=fst p B q D;exact Int.lt_iff_le_and_ne.mpr ⟨z.1,λe=>z.2 (this e)⟩
 exact List.Perm.eq_of_pairwise (le:=λa b=>a.1<b.1) (λa b _ _ B D=>by omega) J L ((QZ nd V).mpr H)
theorem HK{rs:List Int}(fit:bc rs){g:Nat}(z:g<rs.length+1):ow (aw rs) g∈cX (aw rs):=by
 obtain⟨c,d,o⟩:=eK fit z;rw[de o];exact bK.mpr ⟨c,d,o.kn,rfl⟩
theorem x5{rs:List Int}(fit:bc rs){L:List Nat}(z:∀g∈L,g<rs.length+1){p:Int×Int}(h:ib (aw rs) L p≠[]):p∈cX (aw rs):=by
 obtain⟨g,B,rfl⟩:=BU h;exact HK fit (z g B)
noncomputable def bySigns(fs:List Int)(L:List Nat)(p:Int×Int):Bool:=(ib fs L p).all id || !(ib fs L p).any id
theorem B6{rs:List Int}(fit:bc rs){L:List Nat}(H:∀g∈L,g<rs.length+1){ps M:List (Int×Int)}(np:ps.Nodup)(mem:∀p,p∈ps↔ib (aw rs) L p≠[])(D:M.Perm (ps.filter (bySigns (aw rs) L)))(J:M.Pairwise λp q=>p.1<=q.1):M=dw (aw rs) L:=by
 refine Ex (D.nodup_iff.mpr (np.filter _)) (λp=>?_) J;rw[D.mem_iff,Pd,Pd,mem];constructor
 .rintro⟨z,B⟩;refine⟨x5 fit H z,?_⟩;unfold rZ;rw[UU z,TR,<-kP z];exact B
 rintro⟨_,B⟩;unfold rZ at B;rw[PY]at B;have z:=U6 B.1;refine⟨z,?_⟩;unfold bySigns;rw[kP z];exact B.2
theorem x6{rs:List Int}(fit:bc rs){p:Int×Int}(z:p∈cX (aw rs)):0<=p.2/\p.2<1000:=by
 obtain⟨a,b,k,rfl⟩:=bK.mp z;have B:=k.1.lb;rw[aW]at B;have:=fit.small;exact⟨by dsimp only;omega,by dsimp only;omega⟩
open NK
noncomputable def mh(W:d9)(k:Nd)(L:List Nd):d9:=W.map λt=>if t.1∈L then(t.1,t.2.filter λl=>decide (l≠k))else t
section
variable {W:d9}{k:Nd}{L:List Nd}{t:Nd×List Nd}
theorem Ey:mh W k []=W:=by
 unfold mh
 conv=>rhs;rw[<-UM W]
 exact PF λt _=>by rw[UX Pf];rfl
theorem B7:bh (mh W k L)=bh W:=by
 unfold bh mh;rw[Qc];refine PF λt _=>?_;show(if _ then _ else _:Nd×List Nd).1=_
 split <;> rfl
theorem B8{y:Nd}(B:y∉L):((mh W k L).map λt=>if t.1=y then(t.1,t.2.filter λl=>decide (l≠k))else t)=mh W k (L++[y]):=by
 unfold mh;rw[Qc];refine PF λt _=>?_;show(if(if t.1∈L then(t.1,t.2.filter λl=>decide (l≠k))else t).1=y then _ else _)=_;by_cases c:t.1∈L
 .rw[UZ c,UX (show¬t.1=y fromλz=>B (z▸c)),UZ (PR _ c)]
 rw[UX c];by_cases e:t.1=y
 .rw[UZ e,UZ (PB _ (O4.mpr e))];dsimp only;rw[UX c]
 rw[UX e,UX (λz=>by
  rcases Po.mp z with z|z
  .exact c z
  exact e (O4.mp z))]
theorem Ez{y:Nd}(z:y∉L){ls:List Nd}(h:(y,ls)∈W):(y,ls)∈mh W k L:=O6.mpr ⟨(y,ls),h,by rw[UX z]⟩
theorem EA(O:gc W)(H:t∈W):((mh W t.1 t.2).filter λu=>decide (u.1≠t.1))=dQ W t.1:=by
 unfold mh dQ;rw[RB];have e1:(W.filter ((λu:Nd×List Nd=>decide (u.1≠t.1)) ∘ λu:Nd×List Nd=>if u.1∈t.2 then(u.1,u.2.filter λl=>decide (l≠t.1))else u))=W.filter λu=>decide (u.1≠t.1):=by
  refine R8 λu _=>?_;show decide ((if u.1∈t.2 then(u.1,u.2.filter λl=>decide (l≠t.1))else u).1≠t.1)=_
  split <;> rfl
 rw[e1];refine PF λu B=>?_;by_cases c:u.1∈t.2
 .rw[UZ c]
 rw[UX c];have B:=(Pd.mp B).1;refine UN rfl (TF.mpr λl J=>?_).symm;refine UU ?_;intro z;subst z;obtain⟨v,L,e,D⟩:=O.sym u B t.1 J;rw[O.uniq L H e]at D;exact c D
theorem B9(O:gc W)(ks:List (Int×Int)):(aK W ks).Nodup:=O.nd.sublist ((Qn).map _)
theorem zz{l:List Nd}{i:Nat}{x:Nd}(h:l[i]?=YN x):(l.take (i+1)).foldl dQ W=dQ ((l.take i).foldl dQ W) x:=by
 rw[take_snoc h,R7]
 rfl
end
theorem _root_.NK.df.inj{H:Hp}{l:U0}{ks z:List Nd}(h:df H l ks)(h':df H l z):ks=z:=by
 obtain⟨bs,J,O,L⟩:=h;obtain⟨cs,B,Z,M⟩:=h';rw[J]at B;have:bs=cs:=(Ri (f:=V.ref) λa b h=>by injection h).mp (by injection B with B;injection B);subst this;refine QR λi=>?_;by_cases c:i<bs.length
 .have e1:=O1 (l:=ks) (i:=i) (by omega);have e2:=O1 (l:=z) (i:=i) (by omega);have D:=O1 c;rw[e1,e2,(L i _ _ D e1).inj (M i _ _ D e2)]
 rw[Qe (by omega),Qe (by omega)]
theorem _root_.NK.df.erase{H:Hp}{l:U0}{ks:List Nd}{bs:List U0}{j:Nat}(D:H l=YN (.lst (bs.map V.ref)))(J:bs.length=ks.length)(B:∀(i:Nat) (b:U0) (k:List Itm),bs[i]?=YN b->ks[i]?=YN k->K2 H k b):df (L2.upd H l (.lst ((bs.eraseIdx j).map V.ref))) l (ks.eraseIdx j):=by
 refine⟨bs.eraseIdx j,ag,by rw[Tu,Tu,J],λi b k e1 e2=>?_⟩;have g:∀c ys,H c=YN (.tup ys)->L2.upd H l (.lst ((bs.eraseIdx j).map V.ref)) c=YN (.tup ys):=λc ys e=>by
  rw[au (λz=>by rw[z,D]at e;cases e)];exact e
 rw[List.getElem?_eraseIdx]at e1 e2;by_cases c:i<j
 .rw[UZ c]at e1 e2;exact(B i b k e1 e2).keep g
 rw[UX c]at e1 e2;exact(B _ b k e1 e2).keep g
theorem wg{ks:List Nd}(nd:ks.Nodup){j:Nat}{k:Nd}(h:ks[j]?=YN k):ks.eraseIdx j=ks.filter λl=>decide (l≠k):=erase_filter (λx:Nd=>x) k ks j k (by rw[Ul];exact nd) h rfl
theorem Ca{ks:List Nd}(nd:ks.Nodup){j:Nat}{k:Nd}(h:ks[j]?=YN k):∀i,i<j->ks[i]?≠YN k:=λi hi e=>by
 have:=(Qi (O2.mp e).1 nd).mp (e.trans h.symm);omega
noncomputable def jS(W:d9):List Nd:=(W.filter λt=>decide (t.2.length<=1)).map (·.1)
theorem Cb{W:d9}{i:Nat}{t:Nd×List Nd}(z:W[i]?=YN t):jS (W.take (i+1))=jS (W.take i)++(if t.2.length<=1 then[t.1]else[]):=by
 unfold jS;rw[take_snoc z,Qd,Ph,Qq,Qt];by_cases c:t.2.length<=1
 .rw[UZ (UU c),UZ c];rfl
 rw[UX (by rw[U1 c];decide),UX c];rfl
theorem EB(W:d9)(i:Nat):(jS (W.take i)).length<=i:=by
 unfold jS;rw[O3];exact PK (PJ _ _) (by rw[Pw];omega)
theorem EC{W:d9}(O:gc W){k:Nd}:k∈jS W↔k∈bh W/\(dg W k).length<=1:=by
 unfold jS;rw[O6];constructor
 .rintro⟨t,h,rfl⟩;obtain⟨z,B⟩:=Pd.mp h;exact⟨mem_keys.mpr ⟨t,z,rfl⟩,by rw[O.lk z];exact U6 B⟩
 rintro⟨z,B⟩;obtain⟨t,D,rfl⟩:=mem_keys.mp z;rw[O.lk D]at B;exact⟨t,Pd.mpr ⟨D,UU B⟩,rfl⟩
theorem x8:∀{l:List Nd}{ks:List (Int×Int)},(∀k∈l,k∈ks.map pN)->∃ps:List (Int×Int),l=ps.map pN/\∀p∈ps,p∈ks
 |[],ks,_=>⟨[],rfl,λp h=>U4 h Pf⟩
 |k::r,ks,h=>by
  obtain⟨p,B,rfl⟩:=O6.mp (h k Pb);obtain⟨ps,e,D⟩:=x8 (l:=r) (ks:=ks) λx H=>h x (Pn _ H);exact⟨p::ps,by rw[e];rfl,λq z=>by
   rcases Pu.mp z with rfl|z
   .exact B
   exact D q z⟩
theorem Cc{W:d9}(O:gc W){ks:List (Int×Int)}(V:aK W ks=[])(asc:ks.Pairwise λp q=>p.1<q.1):∃ps:List (Int×Int),jS W=ps.map pN/\ps.Perm (bE W ks)/\∀p∈ps,p∈ks:=by
 have sub:∀k∈jS W,k∈ks.map pN:=λk J=>Pa λc=>by
  unfold jS at J;obtain⟨t,Z,rfl⟩:=O6.mp J;obtain⟨h1,h2⟩:=Pd.mp Z;have:t.1∈aK W ks:=O6.mpr ⟨t,Pd.mpr ⟨h1,by rw[h2,U1 c];rfl⟩,rfl⟩;rw[V]at this;exact U4 this Pf
 obtain⟨ps,e,L⟩:=x8 sub;refine⟨ps,e,?_,L⟩;have B:(jS W).Nodup:=O.nd.sublist ((Qn).map _);have D:ps.Nodup:=by
  rw[e]at B;unfold List.Nodup at B;rw[Qa]at B;exact B.imp λn z=>n (by rw[z])
 have H:(bE W ks).Nodup:=(oO asc).sublist Qn;refine(QZ D H).mpr λp=>?_;have M:p∈ps↔pN p∈jS W:=by
  rw[e];exact⟨λh=>O6.mpr ⟨p,h,rfl⟩,λh=>by obtain⟨q,hq,z⟩:=O6.mp h;rw[<-jQ z];exact hq⟩
 unfold bE;rw[Pd,PY,U9,U9,<-EC O];exact⟨λh=>⟨L p h,M.mp h⟩,λh=>M.mpr h.2⟩
theorem Cd{W:d9}{ks M ps:List (Int×Int)}(asc:ks.Pairwise λp q=>p.1<q.1)(H:M.Perm ps)(J:ps.Perm (bE W ks))(V:M.Pairwise λp q=>p.1<=q.1):M=bE W ks:=by
 have z:(bE W ks).Pairwise λp q=>p.1<q.1:=asc.sublist Qn;have L:=H.trans J;refine List.Perm.eq_of_pairwise (le:=λp q:Int×Int=>p.1<=q.1) (λa b B D H J=>?_) V (z.imp λh=>Q5 h) L;have D:b∈bE W ks:=D;have B:a∈bE W ks:=L.mem_iff.mp B;obtain⟨i,hi,rfl⟩:=PC B;obtain⟨j,O,rfl⟩:=PC D;rcases RH i j with c|c|c
 .have:=Pz.mp z i j hi O c;omega
 .subst c;rfl
 have:=Pz.mp z j i O hi c;omega
theorem uF{ks:List (Int×Int)}:∀(n:Nat) (W:d9),(fo n W ks).length<=W.length
 |0,W=>O5 _
 |n+1,W=>by
  show(if aK W ks=[]then W else _).length<=_
  split
  .exact O5 _
  exact PK (uF n _) (kU _ _)
theorem gc.nil:gc []:=⟨QK,λt h=>U4 h Pf,λt h=>U4 h Pf,λt h=>U4 h Pf⟩
theorem sk{rs:List Int}(fit:bc rs):gc (cx rs)/\(cx rs).length<=500/\aK (cx rs) (dw (aw rs) (iK (aw rs) (rs.length+1)))=[]:=by
 have fl:=aW rs;have B:=kE (aw rs);have small:=fit.small;have D:=jR (cX (aw rs));have asc:=gY (aw rs);have O:=iA (jv asc);have z:(eO (cX (aw rs)) (aN (cX (aw rs)))).length<=500:=by
  unfold eO;rw[O9,O3,O3];omega
 unfold cx;by_cases c:dw (aw rs) (iK (aw rs) (rs.length+1))=[]
 .rw[UZ c];exact⟨gc.nil,Qb _,rfl⟩
 rw[UX c];exact⟨gc.fo _ O,PK (uF _ _) z,mJ _ _ (O5 _)⟩
theorem oQ{rs:List Int}(fit:bc rs):((dw (aw rs) (iK (aw rs) (rs.length+1))).Pairwise λp q=>p.1<q.1)/\(dw (aw rs) (iK (aw rs) (rs.length+1))).length<=60/\∀p∈dw (aw rs) (iK (aw rs) (rs.length+1)),0<=p.2/\p.2<1000:=by
 have fl:=aW rs;have B:=kE (aw rs);have small:=fit.small;unfold dw;exact⟨(gY _).sublist Qn,PK (PJ _ _) (by omega),λp z=>x6 fit (Pd.mp z).1⟩
theorem uG(W:d9):∀(n:Nat) (p:Nd) (B z:List Nd),(sd W n p B z).length<=z.length+n
 |0,_,_,z=>O5 _
 |n+1,p,[],z=>by show z.length<=_;omega
 |n+1,p,t::r,z=>by
  show(if(dg W t).length<=2 then sd W n t ((dg W t).filter λl=>decide (l≠p)) (z++[t])else z).length<=_
  split
  .have:=uG W n t ((dg W t).filter λl=>decide (l≠p)) (z++[t]);rw[O9,PZ]at this;omega
  omega
theorem zA(W:d9)(k:Nd):(dO W k).length<=W.length+1:=by
 have:=uG W W.length k (dg W k) [k];unfold dO;rw[PZ]at this;omega
section
variable {α:Type}
inductive Ab (up:α->Option α):α->α->Prop
 |refl (v:α):Ab up v v
 |step {v u w:α}:up v=YN u->Ab up u w->Ab up v w
variable {up:α->Option α}{rk:α->Nat}{V:List α}{M:Nat}{root:α}{K:α->Prop}
theorem Ab.trans{a b c:α}(h:Ab up a b)(k:Ab up b c):Ab up a c:=by
 induction h with
 |refl=>exact k
 |step e _ z=>exact .step e (z k)
theorem Ab.snoc{a b c:α}(h:Ab up a b)(e:up b=YN c):Ab up a c:=h.trans (.step e (.refl _))
theorem Ab.pred{a b:α}(h:Ab up a b):a=b\/∃c,up c=YN b/\Ab up a c:=by
 induction h with
 |refl=>exact .inl rfl
 | @step v u w e _ z =>
  rcases z with rfl|⟨c,B,D⟩
  .exact .inr ⟨v,e,.refl v⟩
  exact .inr ⟨c,B,.step e D⟩
theorem Ab.cmp{a b c:α}(h:Ab up a b)(k:Ab up a c):Ab up b c\/Ab up c b:=by
 induction h with
 |refl=>exact .inl k
 | @step v u w e B D =>
  cases k with
  |refl=>exact .inr (.step e B)
  |step z H =>
   rw[e]at z;cases z;exact D H
structure Tr(V:List α) (up:α->Option α) (rk:α->Nat) (M:Nat) (root:α):Prop where
 kj:∀v u,up v=YN u->v∈V/\u∈V
 lt:∀v u,up v=YN u->rk u<rk v
 rt:∀v∈V,up v=none->v=root
 mx:∀v∈V,rk v<=M
theorem Tr.le(T:Tr V up rk M root){a b:α}(h:Ab up a b):rk b<=rk a:=by
 induction h with
 |refl=>exact O5 _
 |step e _ z=>have:=T.lt _ _ e;omega
theorem Tr.wj(T:Tr V up rk M root):∀(n:Nat) (v:α),rk v<=n->v∈V->Ab up v root:=by
 intro n
 induction n with
 |zero =>
  intro v B z;cases e:up v with
  |none=>rw[T.rt v z e];exact .refl _
  |some u=>have:=T.lt v u e;omega
 |succ n D =>
  intro v B z;cases e:up v with
  |none=>rw[T.rt v z e];exact .refl _
  |some u=>have:=T.lt v u e;exact .step e (D u (by omega) (T.kj v u e).2)
theorem Tr.Kl(T:Tr V up rk M root){k c d p:α}(z:Ab up k c)(B:Ab up k d)(e1:up c=YN p)(e2:up d=YN p):c=d:=by
 have key:∀{c d:α},Ab up c d->up c=YN p->up d=YN p->c=d:=λ{c d} h e1 e2=>by
  cases h with
  |refl=>rfl
  |step e D =>
   rw[e1]at e;cases e;have:=T.le D;have:=T.lt _ _ e2;omega
 rcases z.cmp B with h|h
 .exact key h e1 e2
 exact(key h e2 e1).symm
def Ess(up:α->Option α)(K:α->Prop)(v:α):Prop:=(∃k,K k/\Ab up k v)/\∃k,K k/\¬Ab up k v
def Ed(up:α->Option α)(K:α->Prop)(a b:α):Prop:=(up a=YN b/\Ess up K a)\/(up b=YN a/\Ess up K b)
theorem Ed.symm{a b:α}(h:Ed up K a b):Ed up K b a:=h.elim .inr .inl
theorem Ed.kj(T:Tr V up rk M root){a b:α}(h:Ed up K a b):a∈V/\b∈V:=by
 rcases h with⟨e,_⟩|⟨e,_⟩
 .exact T.kj _ _ e
 exact(T.kj _ _ e).symm
theorem Tr.two(T:Tr V up rk M root)(KV:∀k,K k->k∈V){x y:α}(nk:¬K x)(h:Ed up K x y):∃z,z≠y/\Ed up K x z:=by
 rcases h with⟨e,⟨k,J,L⟩,D,B,O⟩|⟨e,⟨k,J,L⟩,D,B,O⟩
 .rcases L.pred with rfl|⟨c,H,ac⟩
  .exact U4 J nk
  refine⟨c,λz=>?_,.inr ⟨H,⟨k,J,ac⟩,D,B,λq=>O (q.snoc H)⟩⟩;subst z;have:=T.lt _ _ H;have:=T.lt _ _ e;omega
 by_cases Z:Ab up D x
 .rcases Z.pred with rfl|⟨c,H,ac⟩
  .exact U4 B nk
  refine⟨c,λz=>O (z▸ac),.inr ⟨H,⟨D,B,ac⟩,k,J,λq=>O ?_⟩⟩;rw[<-T.Kl q L H e];exact ac
 cases ex:up x with
 |none =>
  have hx:=(T.kj _ _ e).2;rw[T.rt x hx ex]at Z;exact U4 (T.wj _ D (O5 _) (KV D B)) Z
 |some p =>
  refine⟨p,λz=>?_,.inl ⟨ex,⟨k,J,L.snoc e⟩,D,B,Z⟩⟩;subst z;have:=T.lt _ _ ex;have:=T.lt _ _ e;omega
theorem Ce{W:d9}(O:gc W){a k:Nd}(h:a≠k):dg (dQ W k) a=(dg W a).filter λl=>decide (l≠k):=by
 by_cases c:a∈bh W
 .obtain⟨t,B,rfl⟩:=mem_keys.mp c;rw[O.lk B];exact(O.cut (k:=k)).lk (kT.mpr ⟨t,B,h,rfl⟩)
 rw[kR c,kR (λz=>c (by rw[g6]at z;exact(Pd.mp z).1))]
 rfl
theorem Cf{β:Type}{l:List β}(nd:l.Nodup)(h:¬l.length<=1)(x:β):∃y∈l,y≠x:=by
 match l,nd,h with
 |[],_,h=>exact U4 (Qb _) h
 |[_],_,h=>exact U4 (O5 _) h
 |a::b::r,nd,_ =>
  by_cases c:a=x
  .refine⟨b,Pn _ Pb,λz=>?_⟩;have:=(Qj.mp nd).1;rw[c,<-z]at this;exact this Pb
  exact⟨a,Pb,c⟩
structure Th(V:List α) (up:α->Option α) (K:α->Prop) (ι:α->Nd) (W:d9):Prop where
 ok:gc W
 keys:∀k∈bh W,∃a∈V,k=ι a
 LO:∀a∈V,∀k∈dg W (ι a),∃b∈V,k=ι b/\(up a=YN b\/up b=YN a)
 Km:∀a b,Ed up K a b->ι b∈dg W (ι a)
 kn:∀a,K a->ι a∈bh W
variable {ι:α->Nd}{W:d9}{ks:List (Int×Int)}
theorem Th.cut(T:Tr V up rk M root)(inj:∀a∈V,∀b∈V,ι a=ι b->a=b)(KV:∀k,K k->k∈V)(h:Th V up K ι W){x:α}(H:x∈V)(nk:¬K x)(no:∀y,¬Ed up K x y):Th V up K ι (dQ W (ι x)):=by
 have ne:∀a b,Ed up K a b->ι a≠ι x:=λa b q z=>by
  have:=inj a (Ed.kj T q).1 x H z;subst this;exact no b q
 refine⟨h.ok.cut,λk B=>?_,λa D k B=>?_,λa b q=>?_,λa D=>?_⟩
 .rw[g6]at B;exact h.keys k (Pd.mp B).1
 .by_cases c:ι a=ι x
  .rw[c,kR (by rw[g6];intro z;exact U6 (Pd.mp z).2 rfl)]at B;exact U4 B Pf
  rw[Ce h.ok c]at B;exact h.LO a D k (Pd.mp B).1
 .rw[Ce h.ok (ne a b q)];exact Pd.mpr ⟨h.Km a b q,UU (ne b a q.symm)⟩
 rw[g6];refine Pd.mpr ⟨h.kn a D,UU λz=>?_⟩;have:=inj a (KV a D) x H z;subst this;exact nk D
theorem Th.fold(T:Tr V up rk M root)(inj:∀a∈V,∀b∈V,ι a=ι b->a=b)(KV:∀k,K k->k∈V):∀(l:List Nd) {W:d9},(∀k∈l,∃x∈V,k=ι x/\¬K x/\∀y,¬Ed up K x y)->Th V up K ι W->Th V up K ι (l.foldl dQ W)
 |[],_,_,h=>h
 |k::r,W,z,h=>by
  obtain⟨x,B,rfl,nk,no⟩:=z k Pb;exact Th.fold T inj KV r (λD H=>z D (Pn _ H)) (h.cut T inj KV B nk no)
theorem zD{k:Nd}(h:k∈aK W ks):∃t∈W,t.1=k/\t.2.length<=1/\k∉ks.map pN:=by
 unfold aK at h;obtain⟨t,B,rfl⟩:=O6.mp h;obtain⟨D,z⟩:=Pd.mp B;rw[PY,U9,Rn,VL]at z;exact⟨t,D,rfl,z.1,z.2⟩
theorem Cg{t:Nd×List Nd}(h:t∈W)(z:t.2.length<=1)(B:t.1∉ks.map pN):t.1∈aK W ks:=by
 unfold aK;refine O6.mpr ⟨t,Pd.mpr ⟨h,?_⟩,rfl⟩;rw[PY,U9,Rn,VL];exact⟨z,B⟩
theorem Th.spare(T:Tr V up rk M root)(inj:∀a∈V,∀b∈V,ι a=ι b->a=b)(KV:∀k,K k->k∈V)(KK:∀a∈V,(K a↔ι a∈ks.map pN))(h:Th V up K ι W):∀k∈aK W ks,∃x∈V,k=ι x/\¬K x/\∀y,¬Ed up K x y:=λk Z=>by
 obtain⟨t,D,rfl,hl,hn⟩:=zD Z;obtain⟨x,H,e⟩:=h.keys t.1 (mem_keys.mpr ⟨t,D,rfl⟩);have nk:¬K x:=λz=>hn (by rw[e];exact(KK x H).mp z);refine⟨x,H,e,nk,λy B=>?_⟩;obtain⟨z,hz,J⟩:=T.two KV nk B;have L:=h.Km _ _ B;have O:=h.Km _ _ J;rw[<-e,h.ok.lk D]at L O;exact hz (inj z (Ed.kj T J).2 y (Ed.kj T B).2 (BX O L hl))
theorem Th.fo(T:Tr V up rk M root)(inj:∀a∈V,∀b∈V,ι a=ι b->a=b)(KV:∀k,K k->k∈V)(KK:∀a∈V,(K a↔ι a∈ks.map pN)):∀(n:Nat) {W:d9},Th V up K ι W->Th V up K ι (fo n W ks)
 |0,_,h=>h
 |n+1,W,h=>by
  show Th V up K ι (if aK W ks=[]then W else _)
  split
  .exact h
  exact Th.fo T inj KV KK n (h.fold T inj KV _ (h.spare T inj KV KK))
theorem Th.more(KK:∀a∈V,(K a↔ι a∈ks.map pN))(h:Th V up K ι W)(J:aK W ks=[]){v p:α}(H:v∈V)(nk:¬K v)(L:ι p∈dg W (ι v)):∃b∈V,ι b∈dg W (ι v)/\ι b≠ι p/\(up v=YN b\/up b=YN v):=by
 obtain⟨t,B,e⟩:=mem_keys.mp (h.ok.zk L).2.2;have nl:¬t.2.length<=1:=λz=>by
  have:=Cg B z (ks:=ks) (by rw[e];exactλq=>nk ((KK v H).mpr q));rw[J]at this;exact U4 this Pf
 obtain⟨k,D,ne⟩:=Cf (h.ok.nl t B) nl (ι p);rw[<-h.ok.lk B,e]at D;obtain⟨b,M,rfl,r⟩:=h.LO v H k D;exact⟨b,M,D,ne,r⟩
theorem Th.down(T:Tr V up rk M root)(KK:∀a∈V,(K a↔ι a∈ks.map pN))(h:Th V up K ι W)(J:aK W ks=[]):∀(n:Nat) (v p:α),M-rk v<=n->up v=YN p->ι p∈dg W (ι v)->∃k,K k/\Ab up k v:=by
 intro n
 induction n with
 |zero =>
  intro v p O e z;by_cases c:K v
  .exact⟨v,c,.refl v⟩
  have B:=(T.kj v p e).1;obtain⟨b,D,L,H,r|r⟩:=h.more KK J B c z
  .rw[e]at r;cases r;exact U4 rfl H
  have:=T.lt b v r;have:=T.mx b D;omega
 |succ n Z =>
  intro v p O e z;by_cases c:K v
  .exact⟨v,c,.refl v⟩
  have B:=(T.kj v p e).1;obtain⟨b,D,L,H,r|r⟩:=h.more KK J B c z
  .rw[e]at r;cases r;exact U4 rfl H
  have:=T.lt b v r;have:=T.mx b D;obtain⟨k,hk,ak⟩:=Z b v (by omega) r (h.ok.zk L).1;exact⟨k,hk,ak.snoc r⟩
theorem Th.out(T:Tr V up rk M root)(KK:∀a∈V,(K a↔ι a∈ks.map pN))(h:Th V up K ι W)(B:aK W ks=[]):∀(n:Nat) (v p:α),rk p<=n->up v=YN p->ι p∈dg W (ι v)->∃k,K k/\¬Ab up k v:=by
 have base:∀(v p:α),up v=YN p->K p->∃k,K k/\¬Ab up k v:=λv p e c=>⟨p,c,λq=>by
  have:=T.le q;have:=T.lt v p e;omega⟩
 have side:∀(v p b:α),up v=YN p->up b=YN p->ι b≠ι v->ι b∈dg W (ι p)->∃k,K k/\¬Ab up k v:=λv p b e r ne D=>by
  obtain⟨k,H,O⟩:=h.down T KK B _ b p (O5 _) r (h.ok.zk D).1;exact⟨k,H,λq=>ne (by rw[T.Kl O q r e])⟩
 intro n
 induction n with
 |zero =>
  intro v p Z e J;by_cases c:K p
  .exact base v p e c
  obtain⟨b,D,z,L,r|r⟩:=h.more KK B (T.kj v p e).2 c (h.ok.zk J).1
  .have:=T.lt p b r;omega
  exact side v p b e r L z
 |succ n ih =>
  intro v p Z e J;by_cases c:K p
  .exact base v p e c
  obtain⟨b,D,z,L,r|r⟩:=h.more KK B (T.kj v p e).2 c (h.ok.zk J).1
  .have:=T.lt p b r;obtain⟨k,H,nk⟩:=ih p b (by omega) r z;exact⟨k,H,λq=>nk (q.snoc e)⟩
  exact side v p b e r L z
theorem Th.iff(T:Tr V up rk M root)(inj:∀a∈V,∀b∈V,ι a=ι b->a=b)(KK:∀a∈V,(K a↔ι a∈ks.map pN))(h:Th V up K ι W)(z:aK W ks=[]){a b:α}(H:a∈V)(J:b∈V):ι b∈dg W (ι a)↔Ed up K a b:=by
 refine⟨λq=>?_,λq=>h.Km a b q⟩;obtain⟨L,B,e,r⟩:=h.LO a H _ q;have:=inj b J L B e;subst this;rcases r with r|r
 .exact .inl ⟨r,h.down T KK z _ a b (O5 _) r q,h.out T KK z _ a b (O5 _) r q⟩
 have D:=(h.ok.zk q).1;exact .inr ⟨r,h.down T KK z _ b a (O5 _) r D,h.out T KK z _ b a (O5 _) r D⟩
end
def Nx{β:Type}(l:List β)(a b:β):Prop:=∃m,l[m]?=YN a/\l[m+1]?=YN b
section
variable {β:Type}
theorem HL{p q:List β}{a b:β}:Nx (p++a::b::q) a b:=⟨p.length,by simp,by rw[Pg (by omega)];simp⟩
theorem Ci{xs ys:List β}{t a b:β}(h:Nx (xs++t::ys) a b):Nx (xs++[t]) a b\/Nx (t::ys) a b:=by
 obtain⟨m,B,z⟩:=h;by_cases c:m+1<=xs.length
 .left;refine⟨m,?_,?_⟩
  .rw[Pk (by omega)]at B⊢;exact B
  by_cases d:m+1<xs.length
  .rw[Pk d]at z⊢;exact z
  rw[Pg (by omega),show m+1-xs.length=0 by omega]at z⊢;exact z
 right;refine⟨m-xs.length,?_,?_⟩
 .rw[Pg (by omega)]at B;exact B
 rw[Pg (by omega),show m+1-xs.length=m-xs.length+1 by omega]at z;exact z
end
section
variable {α:Type}{up:α->Option α}{rk:α->Nat}{V:List α}{M:Nat}{root:α}{K:α->Prop}
structure Rp(X:d9) (ι:α->Nd) (V:List α) (E:α->α->Prop):Prop where
 nd:∀a∈V,(dg X (ι a)).Nodup
 lk:∀a∈V,∀k,k∈dg X (ι a)↔∃b∈V,k=ι b/\E a b
variable {E:α->α->Prop}{ι κ:α->Nd}{X Y:d9}
theorem Path.new{W:d9}(O:gc W){vs:List Nd}(P:Path W vs){p x:Nd}(hp:vs.getLast?=YN p)(M:x∈dg W p)(hq:∀q,2<=vs.length->vs[vs.length-2]?=YN q->x≠q):x∉vs:=by
 obtain⟨ys,rfl⟩:=RP.mp hp;have J:(ys++[p]).length=ys.length+1:=by rw[O9];rfl
 have ep:(ys++[p])[ys.length]?=YN p:=by rw[Pg (O5 _),QE];rfl
 have V:=O.zk M;have inj:∀{i j:Nat}{a:Nd},(ys++[p])[i]?=YN a->(ys++[p])[j]?=YN a->i=j:=λ{i j a} Z h2=>(Qi (O2.mp Z).1 P.nd).mp (Z.trans h2.symm);intro hm;obtain⟨i,hi,e⟩:=PC hm;have D:(ys++[p])[i]?=YN x:=by rw[O1 hi,e]
 rw[J]at hi;by_cases c1:i=ys.length
 .subst c1;cases ep.symm.trans D;exact O.vZ p M
 by_cases c2:i+1=ys.length
 .refine hq x (by omega) ?_ rfl;rw[J,show ys.length+1-2=i by omega];exact D
 have B:=O1 (l:=ys++[p]) (i:=i+1) (by rw[J];omega);have hn:=P.nD i _ _ D B;by_cases c0:i=0
 .subst c0;have:=BX hn V.1 (P.d0 _ D);rw[this]at B;have:=inj B ep;omega
 have H:=O1 (l:=ys++[p]) (i:=i-1) (by rw[J];omega);have hb:=P.nD (i-1) _ _ H (by rw[show i-1+1=i by omega];exact D);have L:=(O.zk hb).1;refine wa L hn V.1 (P.FR x hm) (λz=>?_) (λz=>?_) (λz=>?_)
 .rw[z]at H;have:=inj H B;omega
 .rw[z]at H;have:=inj H ep;omega
 rw[z]at B;have:=inj B ep;omega
theorem Cj{inj:∀a∈V,∀b∈V,ι a=ι b->a=b}{vs:List α}(B:∀v∈vs,v∈V){x:α}(D:x∈V):ι x∈vs.map ι↔x∈vs:=by
 constructor
 .intro h;obtain⟨y,z,e⟩:=O6.mp h;rw[<-inj y (B y z) x D e];exact z
 exactλh=>O6.mpr ⟨x,h,rfl⟩
end
noncomputable abbrev bb:=Int×Int
noncomputable def bL(c:List bb):bb:=c.getLastD (0,0)
noncomputable def hd2(c:List bb):bb:=c.headD (0,0)
structure i9(kins:List bb):Prop where
 asc:kins.Pairwise λp q=>p.1<q.1
 pos:∀k∈kins,k.1<k.2
 two:∀p∈kins,∀q∈kins,p.1<q.1->p.2<=q.1\/q.2<p.2
noncomputable def oR:List (List bb)->bb->List (List bb)
 |[],k=>[[k]]
 |c::r,k=>if(bL c).2=k.1 then(c++[k])::r else c::oR r k
noncomputable def uH(kins:List bb):List (List bb):=kins.foldl oR []
theorem wk(kins:List bb)(k:bb):uH (kins++[k])=oR (uH kins) k:=by unfold uH;rw[R7];rfl
def De(c:List bb):Prop:=∀a b,Nx c a b->a.2=b.1
theorem i9.pre{kins:List bb}{k:bb}(h:i9 (kins++[k])):i9 kins :=
 ⟨(QX.mp h.asc).1,λx z=>h.pos x (PR _ z),λp B q D=>h.two p (PR _ B) q (PR _ D)⟩
theorem hE{c:List bb}(h:c≠[]):bL c∈c:=by
 unfold bL;rw[QD,Sl h];exact List.getLast_mem h
theorem bF{c:List bb}(h:c≠[]):hd2 c∈c:=by
 cases c with
 |nil=>exact U4 rfl h
 |cons x r=>exact Pb
theorem qN(c:List bb)(k:bb):bL (c++[k])=k:=by unfold bL;rw[QD,List.getLast?_append];rfl
theorem qO{κ:Int}{F:Int×List Int->List bb}{k:bb}:∀{G:List (Int×List Int)},(∀e∈G,(bL (F e)).2=k.1↔e.1=κ)->(G.map Qm).Nodup->oR (G.map F) k=if(G.any λe=>decide (e.1=κ))=true then G.map (λe=>if e.1=κ then F e++[k]else F e)else G.map F++[[k]]
 |[],_,_=>rfl
 |e::G,h,nd=>by
  rw[Qk,Qj]at nd;show(if(bL (F e)).2=k.1 then(F e++[k])::G.map F else F e::oR (G.map F) k)=_;rw[RC];by_cases c:e.1=κ
  .rw[UZ ((h e Pb).mpr c),UU c,Sx,UZ rfl,Qk,UZ c];congr 1;refine PF λd hd=>?_;rw[UX λz=>nd.1 (O6.mpr ⟨d,hd,by rw[z,c]⟩)]
  rw[UX (λz=>c ((h e Pb).mp z)),U1 c,Sq,qO (λd hd=>h d (Pn _ hd)) nd.2]
  split
  .rw[Qk,UX c]
  rfl
theorem oS{kins:List bb}{k:bb}{g:List Int}(h:∀x∈g,0<=x/\x<kins.length):g7 (kins++[k]) g=g7 kins g:=by
 unfold g7;refine PF λx z=>?_;have:=h x z;rw[Py,Py,Pk (by omega)]
theorem x9(kins:List bb)(k:bb)(g:List Int)(h:∀x∈g,0<=x/\x<kins.length):g7 (kins++[k]) (g++[(kins.length:Int)])=g7 kins g++[k]:=by
 have e:g7 (kins++[k]) (g++[(kins.length:Int)])=g7 (kins++[k]) g++g7 (kins++[k]) [(kins.length:Int)]:=by unfold g7;rw[Ph]
 rw[e,oS h];congr 1;show[(kins++[k]).getD ((kins.length:Int)).toNat (0,0)]=[k]
 rw[Pp,Py,Pg (O5 _),QE]
 rfl
noncomputable def cls(kins:List bb)(i:Nat):Int:=mk kins (kins.getD i (0,0)).1
theorem gf(kins:List bb):aN kins=(ia (cls kins) kins.length).map λe=>g7 kins e.2:=by
 unfold aN eA;rw[Qc]
 rfl
theorem d4{kins:List bb}{e:Int×List Int}(B:e∈ia (cls kins) kins.length){p:bb}:p∈g7 kins e.2↔p∈kins/\mk kins p.1=e.1:=by
 obtain⟨z,_⟩:=xH (cls kins) kins.length e B;unfold g7;rw[O6];constructor
 .rintro⟨x,D,rfl⟩;obtain⟨i,hi,H,rfl⟩:=(z x).mp D;rw[Pp];refine⟨?_,H⟩;rw[Py,O1 hi];exact PU _
 rintro⟨J,L⟩;obtain⟨i,hi,rfl⟩:=PC J;have e1:kins.getD i (0,0)=kins[i]:=by rw[Py,O1 hi];rfl
 exact⟨(i:Int),(z _).mpr ⟨i,hi,by unfold cls;rw[e1];exact L,rfl⟩,by rw[Pp];exact e1⟩
theorem wm{kins:List bb}{e:Int×List Int}(B:e∈ia (cls kins) kins.length):g7 kins e.2≠[]:=λz=>by
 have:=(gM (cls kins) kins.length).ne e B;unfold g7 at z;exact this (TK.mp z)
theorem wq:∀kins:List bb,i9 kins->aN kins=uH kins/\∀c∈aN kins,De c:=by
 refine fS (P:=λkins=>i9 kins->aN kins=uH kins/\∀c∈aN kins,De c) (λ_=>⟨rfl,λc B=>U4 B Pf⟩) ?_;intro kins k ih L;obtain⟨i1,i2⟩:=ih L.pre;have kin:k∈kins++[k]:=PB _ (O4.mpr rfl);have ac5:=L.pos k kin;have lt:∀p∈kins,p.1<k.1:=λp M=>(QX.mp L.asc).2.2 p M k (O4.mpr rfl);have fresh:¬Sn kins k.2:=λ⟨p,M,z⟩=>by
  have h1:=lt p M;have O:=L.two p (PR _ M) k kin h1;omega
 have m2:mk kins k.2=k.2:=(fM kins).1 _ fresh;have mS:∀x,x≠k.2->mk kins x≠k.2:=λx hx z=>by
  by_cases c:Sn kins x
  .exact fresh (by rw[<-z];exact(fM kins).2 x c)
  rw[(fM kins).1 x c]at z;exact hx z
 have mk':∀x,x≠k.2->mk (kins++[k]) x=mk kins x:=λx hx=>by
  rw[gB];unfold yV;rw[m2,UX (mS x hx)]
 have cl:∀i,i<kins.length->cls (kins++[k]) i=cls kins i:=λi hi=>by
  unfold cls;have e1:(kins++[k]).getD i (0,0)=kins[i]:=by rw[Py,Pk hi,O1 hi];rfl
  have e2:kins.getD i (0,0)=kins[i]:=by rw[Py,O1 hi];rfl
  rw[e1,e2];have:=lt _ (PU hi);exact mk' _ (by omega)
 have cn:cls (kins++[k]) kins.length=mk kins k.1:=by
  unfold cls;have e1:(kins++[k]).getD kins.length (0,0)=k:=by rw[Py,Pg (O5 _),QE];rfl
  rw[e1];exact mk' _ (by omega)
 have H:=gM (cls kins) kins.length;have key:∀e∈ia (cls kins) kins.length,(bL (g7 kins e.2)).2=k.1↔e.1=mk kins k.1:=λe D=>by
  have ne:=wm D;have hl:=hE ne;have J:=(d4 D).mp hl;constructor
  .intro z;rw[<-z,<-(oF kins).2 _ J.1];exact J.2.symm
  intro z;by_cases c:Sn kins k.1
  .obtain⟨p,M,c⟩:=c;have h1:=lt p M;have c:k.1=p.2:=by omega
   have pin:p∈g7 kins e.2:=(d4 D).mpr ⟨M,by rw[(oF kins).2 p M,<-c,z]⟩;have lk:=i2 _ (by rw[gf];exact O6.mpr ⟨e,D,rfl⟩);obtain⟨q,r,eq⟩:=List.append_of_mem pin;cases r with
   |nil=>rw[eq,qN];exact c.symm
   |cons y r =>
    have:=lk p y (by rw[eq];exact HL);have hy:y∈g7 kins e.2:=by rw[eq];simp
    have:=lt y ((d4 D).mp hy).1;omega
  rw[(fM kins).1 _ c]at z;have hs:=(fM kins).2 _ (show Sn kins (bL (g7 kins e.2)).1 from⟨_,J.1,.inl rfl⟩);rw[J.2,z]at hs;exact U4 hs c
 have eg:ia (cls (kins++[k])) (kins++[k]).length=fN (ia (cls kins) kins.length) (mk kins k.1) kins.length:=by
  rw[O9,PZ];show fN (ia (cls (kins++[k])) kins.length) (cls (kins++[k]) kins.length) kins.length=_;rw[cn,lX cl]
 have nd:=gX (cls kins) kins.length;have V:aN (kins++[k])=oR (aN kins) k:=by
  rw[gf,eg,gf,qO key nd];unfold fN
  split
  .rw[Qc];refine PF λe D=>?_;show g7 (kins++[k]) (if e.1=mk kins k.1 then(e.1,e.2++[(kins.length:Int)])else e).2=_;by_cases c:e.1=mk kins k.1
   .rw[UZ c,UZ c];exact x9 kins k e.2 (H.lt e D)
   rw[UX c,UX c];exact oS (H.lt e D)
  rw[Ph];congr 1
  .exact PF λe D=>oS (H.lt e D)
  exact congrArg (λx=>[x]) (x9 kins k [] (λx hx=>U4 hx Pf))
 refine⟨by rw[V,i1,wk],?_⟩;rw[V];generalize aN kins=cs at i2;clear V key H eg nd cn cl
 induction cs with
 |nil =>
  intro c B a b ⟨m,h1,O⟩;rw[O4.mp B]at O;simp at O
 |cons d cs ih2 =>
  intro c B;have B:c∈(if(bL d).2=k.1 then(d++[k])::cs else d::oR cs k):=B
  split at B
  .next z =>
   rcases Pu.mp B with rfl|B
   .intro a b Z;by_cases dn:d=[]
    .subst dn;obtain⟨m,_,O⟩:=Z;simp at O
    obtain⟨ys,y,rfl⟩:∃ys y,d=ys++[y]:=⟨d.dropLast,d.getLast dn,(List.dropLast_concat_getLast dn).symm⟩
    rw[qN]at z;rw[Rm]at Z;rcases Ci Z with h|h
    .exact i2 _ Pb a b h
    obtain⟨m,h1,O⟩:=h;cases m with
    |zero=>cases h1;cases O;exact z
    |succ m=>simp at O
   exact i2 c (Pn _ B)
  rcases Pu.mp B with rfl|B
  .exact i2 _ Pb
  exact ih2 (λc B=>i2 c (Pn _ B)) c B
structure NA(lo hi:Int) (kins:List bb):Prop where
 p:i9 kins
 Nc:∀g,lo<=g->g<hi->∃k∈kins,k.1<=g/\g<k.2
 j4:∀k∈kins,lo<=k.1/\k.2<=hi
structure pP(kins:List bb) (cs:List (List bb)):Prop where
 ne:∀c∈cs,c≠[]
 sub:∀c∈cs,∀k∈c,k∈kins
 all:∀k∈kins,∃c∈cs,k∈c
 uq:∀c∈cs,∀d∈cs,∀k,k∈c->k∈d->c=d
 IJ:∀c∈cs,De c
 fst:∀c∈cs,∀k∈kins,k.2≠(hd2 c).1
 lo:∀c∈cs,∀k∈c,(hd2 c).1<=k.1
 hi:∀c∈cs,∀k∈c,k.2<=(bL c).2
theorem De.tail{x:bb}{r:List bb}(h:De (x::r)):De r:=λa b ⟨m,z,B⟩=>h a b ⟨m+1,z,B⟩
theorem Ck:∀{c:List bb},De c->(∀k∈c,k.1<k.2)->∀k∈c,k.2<=(bL c).2
 |[],_,_,k,z=>U4 z Pf
 |[x],_,_,k,z=>by rw[O4.mp z];exact QP _
 |x::y::r,l,p,k,z=>by
  have e:bL (x::y::r)=bL (y::r):=by unfold bL;rw[QD,QD,SY]
  rw[e];have B:=Ck l.tail λk z=>p k (Pn _ z);rcases Pu.mp z with rfl|z
  .have D:=l k y ⟨0,rfl,rfl⟩;have H:=p y (by simp);have J:=B y Pb;omega
  exact B k z
theorem bI{kins:List bb}(L:i9 kins):pP kins (aN kins):=by
 have lk:=(wq kins L).2;have O:=gf kins;have gok:=gM (cls kins) kins.length;have J:∀c∈aN kins,∃e∈ia (cls kins) kins.length,g7 kins e.2=c:=λc B=>by rw[O]at B;exact O6.mp B
 have ca:∀c∈aN kins,c.Pairwise λp q=>p.1<q.1:=λc B=>by
  unfold aN at B;obtain⟨g,hg,rfl⟩:=O6.mp B;exact xW L.asc hg
 have sub:∀c∈aN kins,∀k∈c,k∈kins:=λc B k H=>by
  obtain⟨e,D,rfl⟩:=J c B;exact((d4 D).mp H).1
 have lo:∀c∈aN kins,∀k∈c,(hd2 c).1<=k.1:=λc B k H=>xX (ca c B) H;refine⟨λc B=>?_,sub,λk H=>?_,λc B d hd k k1 k2=>?_,lk,λc B k H z=>?_,lo,λc B=>Ck (lk c B) λk H=>L.pos k (sub c B k H)⟩
 .obtain⟨e,D,rfl⟩:=J c B;exact wm D
 .obtain⟨i,hi,rfl⟩:=PC H;have e1:kins.getD i (0,0)=kins[i]:=by rw[Py,O1 hi];rfl
  obtain⟨e,D,ek⟩:=O6.mp ((kG (cls kins) kins.length (cls kins i)).mpr ⟨i,hi,rfl⟩);refine⟨g7 kins e.2,by rw[O];exact O6.mpr ⟨e,D,rfl⟩,(d4 D).mpr ⟨PU _,?_⟩⟩;rw[ek];unfold cls;rw[e1]
 .obtain⟨e,D,rfl⟩:=J c B;obtain⟨f,V,rfl⟩:=J d hd;have M:=((d4 D).mp k1).2;have Z:=((d4 V).mp k2).2;have nd:=gX (cls kins) kins.length;obtain⟨i,hi,rfl⟩:=PC D;obtain⟨j,hj,rfl⟩:=PC V;have z:((ia (cls kins) kins.length).map Qm)[i]'(by rw[O3];exact hi)=((ia (cls kins) kins.length).map Qm)[j]'(by rw[O3];exact hj):=by rw[Q9,Q9];exact M.symm.trans Z
  have:i=j:=(RQ nd).mp z;subst this
  rfl
 obtain⟨e,D,rfl⟩:=J c B;have hm:=bF (wm D);have M:=(d4 D).mp hm;have kin:k∈g7 kins e.2:=(d4 D).mpr ⟨H,by rw[(oF kins).2 k H,z];exact M.2⟩;have Z:=lo _ B k kin;have h3:=L.pos k H;omega
noncomputable abbrev jD:=bb ⊕ bb
noncomputable def jc(cs:List (List bb))(h:bb):Option (List bb):=cs.find? λc=>decide (hd2 c=h)
noncomputable def FW(cs:List (List bb))(k:bb):Option (List bb):=cs.find? λc=>decide (k∈c)
noncomputable def gI(cs:List (List bb)):jD->Nd
 |.inl k=>pN k
 |.inr h=>cN ((jc cs h).getD [])
noncomputable def ya(kins:List bb)(cs:List (List bb)):jD->Option jD
 |.inl k=>(FW cs k).map λc=>.inr (hd2 c)
 |.inr h=>(jc cs h).bind λc=>(cG kins c).head?.map .inl
noncomputable def yb(kins:List bb)(cs:List (List bb)):List jD:=kins.map .inl++cs.map λc=>.inr (hd2 c)
noncomputable def LP(S:Int)(cs:List (List bb)):jD->Nat
 |.inl k=>2*(S-(k.2-k.1)).toNat+1
 |.inr h=>2*(S-((bL ((jc cs h).getD [])).2-h.1)).toNat
section
variable {lo hi:Int}{kins:List bb}{cs:List (List bb)}
theorem pP.jc(C:pP kins cs){c:List bb}(z:c∈cs):ay.jc cs (hd2 c)=YN c:=by
 unfold ay.jc;cases e:cs.find? λd=>decide (hd2 d=hd2 c)with
 |none=>exact U4 (R0.mp e c z) (by simp)
 |some d =>
  have B:=QC e;have D:hd2 d=hd2 c:=U6 (RA (p:=λd=>decide (hd2 d=hd2 c)) e);rw[C.uq d B c z (hd2 c) (by rw[<-D];exact bF (C.ne d B)) (bF (C.ne c z))]
theorem pP.FW(C:pP kins cs){c:List bb}(z:c∈cs){k:bb}(B:k∈c):ay.FW cs k=YN c:=by
 unfold ay.FW;cases e:cs.find? λd=>decide (k∈d)with
 |none=>exact U4 (R0.mp e c z) (by simp[B])
 |some d =>
  have D:=QC e;have H:k∈d:=U6 (RA (p:=λd=>decide (k∈d)) e);rw[C.uq d D c z k H B]
theorem ED{k:bb}{c:List bb}(h:FW cs k=YN c):c∈cs/\k∈c:=⟨QC h,U6 (RA (p:=λd=>decide (k∈d)) h)⟩
theorem Cm{k:bb}{c:List bb}(h:jc cs k=YN c):c∈cs/\hd2 c=k:=⟨QC h,U6 (RA (p:=λd=>decide (hd2 d=k)) h)⟩
theorem pP.gI(C:pP kins cs){c:List bb}(z:c∈cs):ay.gI cs (.inr (hd2 c))=cN c:=by
 show cN ((ay.jc cs (hd2 c)).getD [])=cN c;rw[C.jc z]
 rfl
theorem c8{v:jD}:v∈yb kins cs↔(∃k∈kins,v=.inl k)\/∃c∈cs,v=.inr (hd2 c):=by
 unfold yb;rw[Po,O6,O6];constructor
 .rintro(⟨k,h,rfl⟩|⟨c,h,rfl⟩)
  .exact .inl ⟨k,h,rfl⟩
  exact .inr ⟨c,h,rfl⟩
 rintro(⟨k,h,rfl⟩|⟨c,h,rfl⟩)
 .exact .inl ⟨k,h,rfl⟩
 exact .inr ⟨c,h,rfl⟩
theorem sm(C:pP kins cs):∀a∈yb kins cs,∀b∈yb kins cs,gI cs a=gI cs b->a=b:=λa D b H e=>by
 rcases c8.mp D with⟨k,L,rfl⟩|⟨c,B,rfl⟩ <;> rcases c8.mp H with⟨M,J,rfl⟩|⟨O,z,rfl⟩
 .rw[jQ e]
 .rw[C.gI z]at e;exact U4 e i6
 .rw[C.gI B]at e;exact U4 e.symm i6
 rw[C.gI B,C.gI z]at e;rw[r9 e]
theorem mi{c:List bb}{k:bb}:(cG kins c).head?=YN k↔k∈cG kins c:=by
 have:=i8 (kins:=kins) (c:=c)
 match h:cG kins c,this with
 |[],_=>simp
 |[x],_=>simp[eq_comm]
theorem hU(C:pP kins cs){k:bb}{u:jD}(h:ya kins cs (.inl k)=YN u):∃c∈cs,k∈c/\u=.inr (hd2 c):=by
 obtain⟨c,e,rfl⟩:=Pl.mp (show(FW cs k).map (λc=>(.inr (hd2 c):jD))=YN u from h);have:=ED e;exact⟨c,this.1,this.2,rfl⟩
theorem oT(C:pP kins cs){h:bb}{u:jD}(e:ya kins cs (.inr h)=YN u):∃c∈cs,hd2 c=h/\∃k∈cG kins c,u=.inl k:=by
 obtain⟨c,e1,e2⟩:=S0.mp (show(jc cs h).bind (λc=>(cG kins c).head?.map (.inl:bb->jD))=YN u from e);obtain⟨k,e3,rfl⟩:=Pl.mp e2;have:=Cm e1;exact⟨c,this.1,this.2,k,mi.mp e3,rfl⟩
theorem pP.Dd(C:pP kins cs){c:List bb}(z:c∈cs){k:bb}(B:k∈c):ya kins cs (.inl k)=YN (.inr (hd2 c)):=by
 show(ay.FW cs k).map _=_;rw[C.FW z B]
 rfl
theorem pP.LQ(C:pP kins cs){c:List bb}(z:c∈cs):ya kins cs (.inr (hd2 c))=(cG kins c).head?.map .inl:=by
 show(ay.jc cs (hd2 c)).bind _=_;rw[C.jc z]
 rfl
theorem di{c:List bb}{k:bb}:jC c k=true↔k.1<(hd2 c).1/\(bL c).2<k.2:=by
 unfold jC;rw[PY,U9,U9];exact UP
theorem around{K:bb}(D:K∈kins)(L:i9 kins):∀{c:List bb},De c->(∀k∈c,k∈kins)->(∀x,c.head?=YN x->K.1<x.1/\x.2<K.2)->∀k∈c,k.2<K.2
 |[],_,_,_,k,B=>U4 B Pf
 |[x],_,_,h,k,B=>by rw[O4.mp B];exact(h x rfl).2
 |x::y::r,l,s,h,k,B=>by
  obtain⟨M,H⟩:=h x rfl;rcases Pu.mp B with rfl|B
  .exact H
  refine around D L l.tail (λk B=>s k (Pn _ B)) (λz e=>?_) k B;cases e;have e1:=l x y ⟨0,rfl,rfl⟩;have O:=L.pos x (s x Pb);have J:y∈kins:=s y (by simp);have V:=L.two K D y J (by omega);exact⟨by omega,by omega⟩
theorem HM(L:NA lo hi kins)(C:pP kins cs){c:List bb}(z:c∈cs)(h:cG kins c=[]):(hd2 c).1=lo:=by
 have J:=bF (C.ne c z);have D:=C.sub c z _ J;have r:=L.j4 _ D;by_cases e:(hd2 c).1=lo
 .exact e
 have V:=L.p.pos _ D;obtain⟨K,B,Z,k2⟩:=L.Nc ((hd2 c).1-1) (by omega) (by omega);have n:=C.fst c z K B;have t:=L.p.two K B _ D (by omega);have M:=around B L.p (C.IJ c z) (C.sub c z) (λx e=>by
  have:x=hd2 c:=by unfold hd2;rw[List.headD_eq_head?_getD,e];rfl
  rw[this];exact⟨by omega,by omega⟩)
 have O:=M _ (hE (C.ne c z));have H:K∈i7 kins c:=Pd.mpr ⟨B,di.mpr ⟨by omega,O⟩⟩;have:i7 kins c=[]:=by
  unfold cG at h;have:=Q0 H;have h:=congrArg Ro h;rw[Qo]at h;have h:(i7 kins c).length-((i7 kins c).length-1)=0:=h;omega
 rw[this]at H;exact U4 H Pf
theorem d5{kins:List bb}(asc:kins.Pairwise λp q=>p.1<q.1){p q:bb}(B:p∈kins)(D:q∈kins)(e:p.1=q.1):p=q:=by
 obtain⟨i,hi,rfl⟩:=PC B;obtain⟨j,z,rfl⟩:=PC D;rcases RH i j with h|h|h
 .have:=Pz.mp asc i j hi z h;omega
 .subst h;rfl
 have:=Pz.mp asc j i z hi h;omega
theorem Cp(L:NA lo hi kins)(C:pP kins cs):∃root,Tr (yb kins cs) (ya kins cs) (LP (hi-lo) cs) (2*(hi-lo).toNat+1) root:=by
 have M:∀k∈kins,0<k.2-k.1/\k.2-k.1<=hi-lo:=λk B=>by
  have:=L.p.pos k B;have:=L.j4 k B;omega
 have O:∀c∈cs,LP (hi-lo) cs (.inr (hd2 c))=2*(hi-lo-((bL c).2-(hd2 c).1)).toNat:=λc z=>by
  show 2*(hi-lo-((bL ((jc cs (hd2 c)).getD [])).2-(hd2 c).1)).toNat=_;rw[C.jc z]
  rfl
 have wc:∀c∈cs,∀k∈c,k.2-k.1<=(bL c).2-(hd2 c).1:=λc z k B=>by
  have:=C.lo c z k B;have:=C.hi c z k B;omega
 have V:∀c∈cs,0<(bL c).2-(hd2 c).1/\(bL c).2-(hd2 c).1<=hi-lo:=λc z=>by
  have H:=bF (C.ne c z);have h2:=wc c z _ H;have h3:=M _ (C.sub c z _ H);have h4:=L.j4 _ (C.sub c z _ H);have h5:=L.j4 _ (C.sub c z _ (hE (C.ne c z)));omega
 have main:∀root,(∀v∈yb kins cs,ya kins cs v=none->v=root)->Tr (yb kins cs) (ya kins cs) (LP (hi-lo) cs) (2*(hi-lo).toNat+1) root:=λroot Z=>by
  refine⟨λv u e=>?_,λv u e=>?_,Z,λv D=>?_⟩
  .cases v with
   |inl k =>
    obtain⟨c,z,B,rfl⟩:=hU C e;exact⟨c8.mpr (.inl ⟨k,C.sub c z k B,rfl⟩),c8.mpr (.inr ⟨c,z,rfl⟩)⟩
   |inr h =>
    obtain⟨c,z,rfl,k,B,rfl⟩:=oT C e;exact⟨c8.mpr (.inr ⟨c,z,rfl⟩),c8.mpr (.inl ⟨k,(cw B).1,rfl⟩)⟩
  .cases v with
   |inl k =>
    obtain⟨c,z,B,rfl⟩:=hU C e;rw[O c z];have H:=wc c z k B;have h2:=V c z;show _<2*(hi-lo-(k.2-k.1)).toNat+1;omega
   |inr h =>
    obtain⟨c,z,rfl,k,B,rfl⟩:=oT C e;rw[O c z];have H:=di.mp (cw B).2;have h2:=M k (cw B).1;have h3:=V c z;show 2*(hi-lo-(k.2-k.1)).toNat+1<_;omega
  rcases c8.mp D with⟨k,B,rfl⟩|⟨c,z,rfl⟩
  .have:=M k B;show 2*(hi-lo-(k.2-k.1)).toNat+1<=_;omega
  rw[O c z];have:=V c z;omega
 have J:∀v∈yb kins cs,ya kins cs v=none->∃c∈cs,v=.inr (hd2 c)/\(hd2 c).1=lo:=λv D e=>by
  rcases c8.mp D with⟨k,B,rfl⟩|⟨c,z,rfl⟩
  .obtain⟨c,z,hkc⟩:=C.all k B;rw[C.Dd z hkc]at e;cases e
  refine⟨c,z,rfl,HM L C z ?_⟩;rw[C.LQ z,Ta,List.head?_eq_none_iff]at e;exact e
 by_cases ex:∃v∈yb kins cs,ya kins cs v=none
 .obtain⟨r,Z,er⟩:=ex;refine⟨r,main r λv D e=>?_⟩;obtain⟨c,z,rfl,e1⟩:=J v D e;obtain⟨d,hd,rfl,e2⟩:=J r Z er;have:=d5 L.p.asc (C.sub c z _ (bF (C.ne c z))) (C.sub d hd _ (bF (C.ne d hd))) (by omega);rw[this]
 exact⟨.inl (0,0),main _ λv D e=>U4 ⟨v,D,e⟩ ex⟩
theorem uI(z:Ki kins cs){k:bb}(B:k∈kins):dg (eO kins cs) (pN k)=(cs.filter λc=>decide (k∈kW kins c)).map cN :=
 (iA z).lk (t:=(pN k,(cs.filter λc=>decide (k∈kW kins c)).map cN)) (PR _ (O6.mpr ⟨k,B,rfl⟩))
theorem uJ(z:Ki kins cs){c:List bb}(B:c∈cs):dg (eO kins cs) (cN c)=(kW kins c).map pN :=
 (iA z).lk (t:=(cN c,(kW kins c).map pN)) (PB _ (O6.mpr ⟨c,B,rfl⟩))
theorem HN(H:Ki kins cs)(C:pP kins cs){K:jD->Prop}(KV:∀k,K k->k∈yb kins cs):Th (yb kins cs) (ya kins cs) K (gI cs) (eO kins cs):=by
 have kV:∀{k:bb},k∈kins->(.inl k:jD)∈yb kins cs:=λh=>c8.mpr (.inl ⟨_,h,rfl⟩);have L:∀{c:List bb},c∈cs->(.inr (hd2 c):jD)∈yb kins cs:=λh=>c8.mpr (.inr ⟨_,h,rfl⟩);have upper:∀a b,ya kins cs a=YN b->gI cs b∈dg (eO kins cs) (gI cs a):=λa b e=>by
  cases a with
  |inl k =>
   obtain⟨c,z,B,rfl⟩:=hU C e;rw[C.gI z];show _∈dg _ (pN k);rw[uI H (C.sub c z k B)];exact O6.mpr ⟨c,Pd.mpr ⟨z,UU (PR _ B)⟩,rfl⟩
  |inr h =>
   obtain⟨c,z,rfl,k,B,rfl⟩:=oT C e;rw[C.gI z,uJ H z];exact O6.mpr ⟨k,PB _ B,rfl⟩
 refine⟨iA H,λk B=>?_,λa J k B=>?_,λa b h=>?_,λa J=>?_⟩
 .rw[g9]at B;rcases Po.mp B with B|B
  .obtain⟨p,D,rfl⟩:=O6.mp B;exact⟨.inl p,kV D,rfl⟩
  obtain⟨c,z,rfl⟩:=O6.mp B;exact⟨_,L z,(C.gI z).symm⟩
 .rcases c8.mp J with⟨p,D,rfl⟩|⟨c,z,rfl⟩
  .have B:k∈dg (eO kins cs) (pN p):=B;rw[uI H D]at B;obtain⟨c,z,rfl⟩:=O6.mp B;obtain⟨z,M⟩:=Pd.mp z;refine⟨_,L z,(C.gI z).symm,?_⟩;rcases Po.mp (U6 M)with h|h
   .exact .inl (C.Dd z h)
   right;rw[C.LQ z,mi.mpr h]
   rfl
  rw[C.gI z,uJ H z]at B;obtain⟨p,D,rfl⟩:=O6.mp B;refine⟨.inl p,kV (H.sub c z p D),rfl,?_⟩;rcases Po.mp D with h|h
  .exact .inr (C.Dd z h)
  left;rw[C.LQ z,mi.mpr h]
  rfl
 .rcases h with⟨e,_⟩|⟨e,_⟩
  .exact upper a b e
  exact((iA H).zk (upper b a e)).1
 rw[g9];rcases c8.mp (KV a J)with⟨p,D,rfl⟩|⟨c,z,rfl⟩
 .exact PR _ (O6.mpr ⟨p,D,rfl⟩)
 rw[C.gI z];exact PB _ (O6.mpr ⟨c,z,rfl⟩)
end
noncomputable abbrev KI(rs:List Int):List bb:=cX (aw rs)
noncomputable abbrev KN(rs:List Int):List bb:=dw (aw rs) (iK (aw rs) (rs.length+1))
noncomputable abbrev CH(rs:List Int):List (List bb):=aN (cX (aw rs))
def pQ(ks:List bb):jD->Prop:=λa=>∃p∈ks,a=.inl p
noncomputable abbrev VT(rs:List Int):List jD:=yb (KI rs) (CH rs)
noncomputable abbrev UT(rs:List Int):jD->Option jD:=ya (KI rs) (CH rs)
abbrev LR(rs:List Int):jD->jD->Prop:=Ed (UT rs) (pQ (KN rs))
theorem dD{rs:List Int}(fit:bc rs):NA 0 ((rs.length:Int)+1) (KI rs):=by
 have fl:=aW rs;refine⟨⟨gY _,λk z=>?_,λp B q D lt=>?_⟩,λg J L=>?_,λk z=>?_⟩
 .obtain⟨a,b,K,rfl⟩:=bK.mp z;have:=K.1.lt;show(a:Int)<b;omega
 .obtain⟨a,b,H,rfl⟩:=bK.mp B;obtain⟨c,d,K2,rfl⟩:=bK.mp D;have lt:(a:Int)<c:=lt;have:=lZ fit H K2 (by omega);show(b:Int)<=c\/(d:Int)<b;omega
 .obtain⟨c,d,o⟩:=eK fit (g:=g.toNat) (by omega);refine⟨((c:Int),(d:Int)),bK.mpr ⟨c,d,o.kn,rfl⟩,?_⟩;have:=o.le;have:=o.lt;show(c:Int)<=g/\g<(d:Int);omega
 obtain⟨a,b,K,rfl⟩:=bK.mp z;have:=K.1.lb;show(0:Int)<=a/\(b:Int)<=(rs.length:Int)+1;omega
theorem jd{rs:List Int}{p:bb}(h:p∈KN rs):p∈KI rs:=(Pd.mp h).1
theorem jT{rs:List Int}:∀k,pQ (KN rs) k->k∈VT rs:=λk ⟨p,z,e⟩=>c8.mpr (.inl ⟨p,jd z,e⟩)
theorem wt{rs:List Int}(fit:bc rs):∀a∈VT rs,(pQ (KN rs) a↔gI (CH rs) a∈(KN rs).map pN):=λa B=>by
 have C:=bI (dD fit).p;constructor
 .rintro⟨p,z,rfl⟩;exact O6.mpr ⟨p,z,rfl⟩
 intro h;obtain⟨p,z,e⟩:=O6.mp h;rcases c8.mp B with⟨k,H,rfl⟩|⟨c,D,rfl⟩
 .have e:pN p=pN k:=e;exact⟨p,z,by rw[jQ e]⟩
 rw[C.gI D]at e;exact U4 e i6
theorem kZ{rs:List Int}(fit:bc rs):∃root,Tr (VT rs) (UT rs) (LP ((rs.length:Int)+1-0) (CH rs)) (2*((rs.length:Int)+1-0).toNat+1) root:=Cp (dD fit) (bI (dD fit).p)
theorem so{rs:List Int}(fit:bc rs):Rp (cx rs) (gI (CH rs)) (VT rs) (LR rs)/\∀p∈KN rs,pN p∈bh (cx rs):=by
 have L:=dD fit;have C:=bI L.p;obtain⟨root,T⟩:=kZ fit;obtain⟨O,_,sp⟩:=sk fit;by_cases c:KN rs=[]
 .have e:cx rs=[]:=by unfold cx;rw[UZ c]
  refine⟨⟨λa _=>O.BW _,λa D k=>?_⟩,λp z=>by rw[c]at z;exact U4 z Pf⟩;rw[e];constructor
  .intro h;exact U4 h Pf
  rintro⟨b,_,_,⟨_,⟨k,⟨p,z,_⟩,_⟩,_⟩|⟨_,⟨k,⟨p,z,_⟩,_⟩,_⟩⟩
  .rw[c]at z;exact U4 z Pf
  rw[c]at z;exact U4 z Pf
 have B:Th (VT rs) (UT rs) (pQ (KN rs)) (gI (CH rs)) (cx rs):=by
  unfold cx;rw[UX c];exact Th.fo T (sm C) jT (wt fit) _ (HN (jv L.p.asc) C jT)
 refine⟨⟨λa _=>O.BW _,λa D k=>?_⟩,λp z=>B.kn (.inl p) ⟨p,z,rfl⟩⟩;constructor
 .intro h;obtain⟨b,H,rfl,_⟩:=B.LO a D k h;exact⟨b,H,rfl,(B.iff T (sm C) (wt fit) sp D H).mp h⟩
 rintro⟨b,H,rfl,h⟩;exact B.Km a b h
abbrev vn(rs:List Int)(k:Nat):Prop:=(aw rs).getD (bC rs k) 0<0
def KP(fs:List Int)(a b j:Nat):Prop:=a<=j/\j<=b/\∀c d,Kn fs c d->c<j->j<d->c<=a/\b<=d
section
variable {rs:List Int}
theorem Cq(fit:bc rs){g a b:Nat}(o:Own (aw rs) g a b):KP (aw rs) a b g/\KP (aw rs) a b (g+1):=by
 have B:=o.le;have H:=o.lt;have nd:=cT fit;refine⟨⟨B,by omega,λc d k D z=>⟨o.top c d k (by omega) z,o.xF nd k (by omega) z⟩⟩,⟨by omega,by omega,λc d k D z=>⟨o.top c d k (by omega) (by omega),o.xF nd k (by omega) (by omega)⟩⟩⟩
theorem Cr{fs:List Int}{g a b c d:Nat}(o:Own fs g c d)(k:Kn fs a b)(z:a<=g)(B:g<b)(h:c<=a):c=a/\d=b:=by
 have:=o.top a b k z B;have e:c=a:=by omega
 subst e;exact⟨rfl,dW o.kn k⟩
theorem yc(fit:bc rs){a b:Nat}(K:Kn (aw rs) a b)(hu:∀k,k<rs.length+1->pK rs k=((a:Int),(b:Int))->(vn rs k↔vn rs (k+1))){j:Nat}(L:KP (aw rs) a b j):((aw rs).getD j 0<0↔(aw rs).getD a 0<0):=by
 have fl:=aW rs;have lb:=K.1.lb;have lab:=K.1.lt;have B:=K.1.own;have bnz:=iw fit (p:=b) (by omega) (by omega);have bs:(aw rs).getD b 0<0↔(aw rs).getD a 0<0:=by
  unfold cW at B;by_cases s:(aw rs).getD a 0<0
  .rw[UZ s]at B;unfold aE at B
   split at B <;> omega
  rw[UX s]at B;unfold aE at B
  split at B <;> omega
 by_cases s:(aw rs).getD a 0<0
 ·-- minus: no place is without one
  have key:∀(m j:Nat),KP (aw rs) a b j->aE ((aw rs).getD j 0)=m->(aw rs).getD j 0<0:=λm=>by
   induction m using Rz with
   |_ m ih =>
    intro j L J;obtain⟨j1,j2,j3⟩:=L;refine Pa λH=>?_;have ja:j≠a:=λe=>H (by rw[e];exact s);have jb:j≠b:=λe=>H (by rw[e];exact bs.mpr s);have jnz:=iw fit (p:=j) (by omega) (by omega);have vj:(aw rs).getD j 0=m:=by unfold aE at J;rw[UX H]at J;exact J
    have M:=fH fit (show j<rs.length+2 by omega) J;have m1:1<=m:=by omega
    have mn:m<=rs.length:=by
     have:=eX fit (show j<rs.length+2 by omega);by_cases z:m=rs.length+1
     .rw[z,dU fit]at M;omega
     omega
    obtain⟨c,d,o⟩:=eK fit (g:=j-1) (by omega);have o1:=o.le;have o2:=o.lt;by_cases D:c=a
    .subst D;have eb:=dW o.kn K;subst eb;obtain⟨z,z1,z2⟩:=Bm fit m1 mn;rw[M]at z;have zB:pB rs (m-1)=2*j-1:=by
      rcases z with⟨_,_,z3⟩|⟨_,z2,_⟩
      .exact U4 z3 H
      exact z2
     obtain⟨O,d',V,q2,_⟩:=dY fit (k:=m-1) (by omega);rw[zB,show(2*j-1)/2=j-1 by omega]at q2;obtain⟨e1,e2⟩:=q2.uniq o;subst e1 e2;have un:=hu (m-1) (by omega) (by unfold pK;exact de V);rw[show m-1+1=m by omega]at un;have nm:¬vn rs (m-1):=λz=>by
      have:=un.mp z;unfold vn at this;rw[M]at this;exact H this
     have gp:pA rs (m-1)/2=bC rs (m-1):=by
      unfold pA;rw[UX (show¬(aw rs).getD (bC rs (m-1)) 0<0 from nm)];omega
     rw[gp]at V;exact nm (ih (m-1) (by omega) _ (Cq fit V).1 (by have:=(bw fit (show m-1<rs.length+2 by omega)).2;exact this))
    have dj:d=j:=by
     by_cases z:j<d
     .have:=j3 c d o.kn (by omega) z;have:=Cr o K (by omega) (by omega) this.1;exact U4 this.1 D
     omega
    subst dj;have W:=o.kn.1;have rJ:=W.rJ;have own:=W.own;have cn:¬(aw rs).getD c 0<0:=λz=>by
     unfold cW at own;rw[UZ z,J]at own;omega
    have ac:a<c:=by
     rcases RH c a with h|h|h
     .have:=lZ fit o.kn K h;omega
     .exact U4 h D
     exact h
    refine cn (ih (aE ((aw rs).getD c 0)).toNat (by unfold aE;rw[UX cn];omega) c ⟨by omega,by omega,λO d' Z l1 l2=>?_⟩ (by unfold aE;rw[UX cn];omega));have:=lZ fit Z o.kn l1;exact j3 O d' Z (by omega) (by omega)
  exact⟨λ_=>s,λ_=>key (aE ((aw rs).getD j 0)).toNat j L (by have:=eX fit (show j<rs.length+2 by have:=L.2.1;omega);omega)⟩
 have key:∀(m j:Nat),KP (aw rs) a b j->aE ((aw rs).getD j 0)=m->¬(aw rs).getD j 0<0:=λm=>by
  induction m using Rz with
  |_ m ih =>
   intro j L J H;obtain⟨j1,j2,j3⟩:=L;have ja:j≠a:=λe=>s (by rw[<-e];exact H);have jb:j≠b:=λe=>s (bs.mp (by rw[<-e];exact H));have vj:(aw rs).getD j 0=-(m:Int):=by unfold aE at J;rw[UZ H]at J;omega
   have M:=fH fit (show j<rs.length+2 by omega) J;have m1:1<=m:=by omega
   have mn:m<=rs.length:=by
    have:=eX fit (show j<rs.length+2 by omega);by_cases z:m=rs.length+1
    .rw[z,dU fit]at M;omega
    omega
   obtain⟨c,d,o⟩:=eK fit (g:=j) (by omega);have o1:=o.le;have o2:=o.lt;by_cases D:c=a
   .subst D;have eb:=dW o.kn K;subst eb;obtain⟨z,z1,z2⟩:=Bm fit m1 mn;rw[M]at z;have zB:pB rs (m-1)=2*j:=by
     rcases z with⟨_,z2,_⟩|⟨_,_,z3⟩
     .exact z2
     exact U4 H z3
    obtain⟨O,d',V,q2,_⟩:=dY fit (k:=m-1) (by omega);rw[zB,show 2*j/2=j by omega]at q2;obtain⟨e1,e2⟩:=q2.uniq o;subst e1 e2;have un:=hu (m-1) (by omega) (by unfold pK;exact de V);rw[show m-1+1=m by omega]at un;have nm:vn rs (m-1):=un.mpr (by unfold vn;rw[M];exact H);have pp:=cE (bw fit (show m-1<rs.length+2 by omega)).1 nm;have gp:pA rs (m-1)/2+1=bC rs (m-1):=by
     unfold pA;rw[UZ (show(aw rs).getD (bC rs (m-1)) 0<0 from nm)];omega
    have kp:=(Cq fit V).2;rw[gp]at kp;exact ih (m-1) (by omega) _ kp (by have:=(bw fit (show m-1<rs.length+2 by omega)).2;exact this) nm
   have cj:c=j:=by
    by_cases z:c<j
    .have:=j3 c d o.kn z (by omega);have:=Cr o K (by omega) (by omega) this.1;exact U4 this.1 D
    omega
   subst cj;have W:=o.kn.1;have rJ:=W.rJ;have own:=W.own;have dl:=W.lb;have dnz:=iw fit (p:=d) (by omega) (by omega);have dn:(aw rs).getD d 0<0:=by
    unfold cW at own;rw[UZ H]at own;unfold aE at own
    split at own <;> omega
   have db:d<b:=by have:=lZ fit K o.kn (by omega);omega
   refine ih (aE ((aw rs).getD d 0)).toNat (by unfold aE;rw[UZ dn];omega) d ⟨by omega,by omega,λO d' Z l1 l2=>?_⟩ (by unfold aE;rw[UZ dn];omega) dn;rcases RH O c with h|h|h
   .exact j3 O d' Z h (by omega)
   .subst h;have:=dW Z o.kn;omega
   have:=lZ fit o.kn Z h;omega
 exact⟨λh=>U4 h (key (aE ((aw rs).getD j 0)).toNat j L (by have:=eX fit (show j<rs.length+2 by have:=L.2.1;omega);omega)),λh=>U4 h s⟩
theorem uK(fit:bc rs){g h:Nat}{p:Int×Int}(D:g<rs.length+1)(H:h<rs.length+1)(z:ow (aw rs) g=p)(J:ow (aw rs) h=p)(B:isOpen (aw rs) g=true):isOpen (aw rs) h=true:=by
 cases c:isOpen (aw rs) h with
 |true=>rfl
 |false =>
  have e:=(uj fit H).mpr c;obtain⟨a,b,o⟩:=eK fit D;rw[J]at e;rw[de o,e]at z;have e1:(a:Int)=h:=congrArg Qm z;have e2:(b:Int)=(h:Int)+1:=congrArg Rx z;have:=o.le;have:=o.lt;have:g=h:=by omega
  rw[this,c]at B;cases B
theorem nH{fs:List Int}{L:List Nat}{p:Int×Int}{x:Bool}:x∈ib fs L p↔∃g∈L,ow fs g=p/\(x=decide (fs.getD g 0<0)\/x=decide (fs.getD (g+1) 0<0)):=by
 unfold ib;rw[Uw];constructor
 .rintro⟨g,D,H⟩;obtain⟨z,B⟩:=Pd.mp D;refine⟨g,z,U6 B,?_⟩;rcases Pu.mp H with h|h
  .exact .inl h
  exact .inr (O4.mp h)
 rintro⟨g,z,B,J⟩;refine⟨g,Pd.mpr ⟨z,UU B⟩,?_⟩;rcases J with h|h
 .rw[h];exact Pb
 rw[h];exact Pn _ (O4.mpr rfl)
theorem k4{fs:List Int}{m g:Nat}:g∈iK fs m↔g<m/\isOpen fs g=true:=by
 unfold iK;rw[Pd,Px]
theorem uL(fit:bc rs){p:Int×Int}:p∈KN rs↔(∃g,g<rs.length+1/\isOpen (aw rs) g=true/\ow (aw rs) g=p)/\∀k,k<rs.length+1->pK rs k=p->(vn rs k↔vn rs (k+1)):=by
 have kn:p∈KN rs↔p∈cX (aw rs)/\ib (aw rs) (iK (aw rs) (rs.length+1)) p≠[]/\(ib (aw rs) (iK (aw rs) (rs.length+1)) p).all id=true\/p∈cX (aw rs)/\ib (aw rs) (iK (aw rs) (rs.length+1)) p≠[]/\(ib (aw rs) (iK (aw rs) (rs.length+1)) p).any id=false:=by
  unfold KN dw;rw[Pd];unfold rZ;rw[PY,U9];constructor
  .rintro⟨D,B,H⟩;rw[<-kP B,Tg,Rn]at H;exact H.elim (λz=>.inl ⟨D,B,z⟩) (λz=>.inr ⟨D,B,z⟩)
  rintro(⟨D,B,H⟩|⟨D,B,H⟩)
  .refine⟨D,B,?_⟩;rw[<-kP B,H];rfl
  refine⟨D,B,?_⟩;rw[<-kP B,H];simp
 have nz:ib (aw rs) (iK (aw rs) (rs.length+1)) p≠[]↔∃g,g<rs.length+1/\isOpen (aw rs) g=true/\ow (aw rs) g=p:=by
  constructor
  .intro h;obtain⟨g,J,e⟩:=BU h;obtain⟨D,B⟩:=k4.mp J;exact⟨g,D,B,e⟩
  rintro⟨g,D,B,H⟩ z;have:=nH.mpr ⟨g,k4.mpr ⟨D,B⟩,H,.inl rfl⟩;rw[z]at this;exact U4 this Pf
 have ends:∀k,k<rs.length+1->pK rs k=p->(∃g,g<rs.length+1/\isOpen (aw rs) g=true/\ow (aw rs) g=p)->decide (vn rs k)∈ib (aw rs) (iK (aw rs) (rs.length+1)) p/\decide (vn rs (k+1))∈ib (aw rs) (iK (aw rs) (rs.length+1)) p:=λk O M ⟨g,D,B,H⟩=>by
  obtain⟨c,d,V,Z,_⟩:=dY fit O;unfold pK at M;have e2:ow (aw rs) (pB rs k/2)=p:=by rw[de Z,<-de V];exact M
  have lA:pA rs k/2<rs.length+1:=by have:=(dX fit O).2;omega
  have lB:pB rs k/2<rs.length+1:=by have:=(fm fit O).2;omega
  have oA:=uK fit D lA H M B;have oB:=uK fit D lB H e2 B;refine⟨nH.mpr ⟨_,k4.mpr ⟨lA,oA⟩,M,?_⟩,nH.mpr ⟨_,k4.mpr ⟨lB,oB⟩,e2,?_⟩⟩
  .unfold vn;by_cases s:(aw rs).getD (bC rs k) 0<0
   .right;have pp:=cE (bw fit (show k<rs.length+2 by omega)).1 s;rw[show pA rs k/2+1=bC rs k by unfold pA;rw[UZ s];omega]
   left;rw[show pA rs k/2=bC rs k by unfold pA;rw[UX s];omega]
  unfold vn;have pp:=l4 fit (k:=k) (by omega);by_cases s:(aw rs).getD (bC rs (k+1)) 0<0
  .left;rw[show pB rs k/2=bC rs (k+1) by unfold pB;rw[UZ s];omega]
  right;rw[show pB rs k/2+1=bC rs (k+1) by unfold pB;rw[UX s];omega]
 rw[kn];constructor
 .intro h;have hz:ib (aw rs) (iK (aw rs) (rs.length+1)) p≠[]:=h.elim (λz=>z.2.1) (λz=>z.2.1);have J:=nz.mp hz;refine⟨J,λk O M=>?_⟩;obtain⟨e1,e2⟩:=ends k O M J;rcases h with⟨_,_,h⟩|⟨_,_,h⟩
  .have V:decide (vn rs k)=true:=QY.mp h _ e1;have Z:decide (vn rs (k+1))=true:=QY.mp h _ e2;exact⟨λ_=>U6 Z,λ_=>U6 V⟩
  have no:∀x∈ib (aw rs) (iK (aw rs) (rs.length+1)) p,¬x=true:=λx L z=>by
   have:(ib (aw rs) (iK (aw rs) (rs.length+1)) p).any id=true:=Qv.mpr ⟨x,L,z⟩;rw[h]at this;cases this
  exact⟨λz=>U4 (UU z) (no _ e1),λz=>U4 (UU z) (no _ e2)⟩
 rintro⟨J,hu⟩;have hz:=nz.mpr J;obtain⟨g,g1,g2,g3⟩:=J;obtain⟨a,b,o⟩:=eK fit g1;rw[de o]at g3;subst g3;have kin:((a:Int),(b:Int))∈cX (aw rs):=bK.mpr ⟨a,b,o.kn,rfl⟩;have sign:∀x∈ib (aw rs) (iK (aw rs) (rs.length+1)) ((a:Int),(b:Int)),x=decide ((aw rs).getD a 0<0):=λx L=>by
  obtain⟨g',hg',e,h⟩:=nH.mp L;have l':=(k4.mp hg').1;obtain⟨c,d,o'⟩:=eK fit l';rw[de o']at e;have e1:(c:Int)=a:=congrArg Qm e;have e2:(d:Int)=b:=congrArg Rx e;obtain rfl:c=a:=by omega
  obtain rfl:d=b:=by omega
  obtain⟨k1,k2⟩:=Cq fit o';rcases h with h|h
  .rw[h];exact decide_eq_decide.mpr (yc fit o.kn hu k1)
  rw[h];exact decide_eq_decide.mpr (yc fit o.kn hu k2)
 by_cases s:(aw rs).getD a 0<0
 .left;refine⟨kin,hz,QY.mpr λx L=>?_⟩;rw[sign x L,UU s];rfl
 right;refine⟨kin,hz,?_⟩;rw[<-Uz,Qv];rintro⟨x,L,z⟩;rw[sign x L,U1 s]at z;cases z
end
def Cs(p k:bb):Prop:=p.1<k.1/\k.2<p.2
section
variable {kins:List bb}{cs:List (List bb)}
theorem Ct(L:i9 kins){p x y:bb}(z:p∈kins)(B:x∈kins)(D:y∈kins)(e:x.2=y.1):Cs p x↔Cs p y:=by
 have M:=L.pos x B;have O:=L.pos y D;unfold Cs;constructor
 .rintro⟨H,J⟩;have:=L.two p z y D (by omega);omega
 rintro⟨H,J⟩;rcases Ua x.1 p.1 with h|h|h
 .have:=L.two x B p z h;omega
 .have:=d5 L.asc B z h;subst this;omega
 omega
theorem jw(L:i9 kins){p:bb}(D:p∈kins):∀{c:List bb},De c->(∀k∈c,k∈kins)->∀q∈c,Cs p q->∀k∈c,Cs p k
 |[],_,_,q,z,_,_,_=>U4 z Pf
 |[x],_,_,q,z,h,k,B=>by rw[O4.mp B,<-O4.mp z];exact h
 |x::y::r,l,s,q,z,h,k,B=>by
  have e:=Ct L D (s x Pb) (s y (by simp)) (l x y ⟨0,rfl,rfl⟩);have H:=jw L D l.tail (λk B=>s k (Pn _ B));have J:Cs p y:=by
   rcases Pu.mp z with rfl|z
   .exact e.mp h
   exact H q z h y Pb
  rcases Pu.mp B with rfl|B
  .exact e.mpr J
  exact H y Pb J k B
theorem tile:∀{c:List bb},De c->(∀k∈c,k.1<k.2)->∀g:Int,(hd2 c).1<=g->g<(bL c).2->c≠[]->∃k∈c,k.1<=g/\g<k.2
 |[],_,_,_,_,_,h=>U4 rfl h
 |[x],_,_,g,B,z,_=>⟨x,O4.mpr rfl,B,z⟩
 |x::y::r,l,p,g,B,z,_=>by
  have e:bL (x::y::r)=bL (y::r):=by unfold bL;rw[QD,QD,SY]
  by_cases c:g<x.2
  .exact⟨x,Pb,B,c⟩
  have e1:=l x y ⟨0,rfl,rfl⟩;rw[e]at z;obtain⟨k,D,H,J⟩:=tile l.tail (λk D=>p k (Pn _ D)) g (show y.1<=g by omega) z (by simp);exact⟨k,Pn _ D,H,J⟩
theorem zE{c:List bb}{p:bb}(h:p∈i7 kins c):∃k,cG kins c=[k]:=by
 have l:=i8 (kins:=kins) (c:=c);have:(cG kins c).length=1:=by
  unfold cG;rw[Qo];have:=Q0 h;omega
 exact R5.mp this
theorem mj(asc:kins.Pairwise λp q=>p.1<q.1){c:List bb}{p k:bb}(h:p∈i7 kins c)(e:cG kins c=[k]):p.1<=k.1:=by
 have D:(i7 kins c).Pairwise λp q=>p.1<q.1:=asc.sublist Qn;unfold cG at e;have H:=Q0 h;have g:=RO (l:=i7 kins c) (i:=(i7 kins c).length-1) (by omega);rw[e]at g;have B:=(List.cons.inj g).1;obtain⟨i,hi,rfl⟩:=PC h;by_cases z:i=(i7 kins c).length-1
 .subst z;rw[B];exact QP _
 have:=Pz.mp D i ((i7 kins c).length-1) hi (by omega) (by omega);rw[<-B]at this;omega
theorem Cu(C:pP kins cs){c:List bb}(z:c∈cs){p:bb}(B:p∈kins)(h:∀k∈c,Cs p k):p∈i7 kins c:=by
 have D:=h _ (bF (C.ne c z));have H:=h _ (hE (C.ne c z));exact Pd.mpr ⟨B,di.mpr ⟨D.1,H.2⟩⟩
theorem qP(L:i9 kins){p q:bb}(D:p∈kins)(B:q∈kins)(H:p.1<=q.1)(J:q.2<=p.2):q=p\/Cs p q:=by
 by_cases e:q=p
 .exact .inl e
 right;have ne:p.1≠q.1:=λz=>e (d5 L.asc B D z.symm);have t:=L.two p D q B (by omega);have M:=L.pos q B;exact⟨by omega,by omega⟩
theorem FX(L:i9 kins)(C:pP kins cs):∀(n:Nat) (q p:bb),q∈kins->p∈kins->p.1<=q.1->q.2<=p.2->((p.2-p.1)-(q.2-q.1)).toNat<=n->Ab (ya kins cs) (.inl q) (.inl p):=by
 intro n
 induction n with
 |zero =>
  intro q p H D M O hn;rcases qP L D H M O with e|⟨e1,e2⟩
  .rw[e];exact .refl _
  omega
 |succ n ih =>
  intro q p H D M O hn;rcases qP L D H M O with e|e
  .rw[e];exact .refl _
  obtain⟨c,z,B⟩:=C.all q H;have Z:=jw L D (C.IJ c z) (C.sub c z) q B e;have ar:=Cu C z D Z;obtain⟨k,V⟩:=zE ar;have J:=cw (kins:=kins) (c:=c) (k:=k) (by rw[V];exact O4.mpr rfl);have hk2:=di.mp J.2;have le:=mj L.asc ar V;have q1:=C.lo c z q B;have q2:=C.hi c z q B;have pq:=L.pos q H;have hd:=Z _ (bF (C.ne c z));have kp:k.2<=p.2:=by
   rcases TU le with h|h
   .have:=L.two p D k J.1 h;unfold Cs at hd;have:=L.pos _ (C.sub c z _ (bF (C.ne c z)));omega
   have:=d5 L.asc D J.1 h;rw[this];exact QP _
  refine .step (C.Dd z B) (.step (by rw[C.LQ z,V];rfl) (ih k p J.1 D le kp (by omega)))
noncomputable def LS:jD->Int
 |.inl p=>p.1
 |.inr h=>h.1
noncomputable def Ko(cs:List (List bb)):jD->Int
 |.inl p=>p.2
 |.inr h=>(bL ((jc cs h).getD [])).2
theorem oU(C:pP kins cs){c:List bb}(z:c∈cs):Ko cs (.inr (hd2 c))=(bL c).2:=by
 show(bL ((jc cs (hd2 c)).getD [])).2=_;rw[C.jc z]
 rfl
theorem yd(C:pP kins cs){v w:jD}(h:Ab (ya kins cs) v w):LS w<=LS v/\Ko cs v<=Ko cs w:=by
 induction h with
 |refl=>exact⟨QP _,QP _⟩
 | @step v u w e _ D =>
  have:LS u<=LS v/\Ko cs v<=Ko cs u:=by
   cases v with
   |inl k =>
    obtain⟨c,z,B,rfl⟩:=hU C e;rw[oU C z];exact⟨C.lo c z k B,C.hi c z k B⟩
   |inr h =>
    obtain⟨c,z,rfl,k,B,rfl⟩:=oT C e;have:=di.mp (cw B).2;rw[oU C z];show k.1<=(hd2 c).1/\(bL c).2<=k.2;omega
  omega
end
theorem jU{kins:List bb}(L:i9 kins){c:List bb}(D:c∈aN kins){k:bb}(H:k∈kins):k.1≠(bL c).2:=λz=>by
 have C:=bI L;have B:=D;rw[gf]at B;obtain⟨e,J,rfl⟩:=O6.mp B;have M:=hE (C.ne _ D);obtain⟨O,V⟩:=(d4 J).mp M;have kin:k∈g7 kins e.2:=(d4 J).mpr ⟨H,by rw[z,<-(oF kins).2 _ O];exact V⟩;have:=C.hi _ D k kin;have:=L.pos k H;omega
structure FY(kins:List bb) (g:Int) (p:bb):Prop where
 kin:p∈kins
 lo:p.1<=g
 hi:g<p.2
 top:∀q∈kins,q.1<=g->g<q.2->q.1<=p.1
theorem FY.uniq{kins:List bb}(asc:kins.Pairwise λp q=>p.1<q.1){g:Int}{p q:bb}(h:FY kins g p)(k:FY kins g q):p=q:=by
 have z:=h.top q k.kin k.lo k.hi;have B:=k.top p h.kin h.lo h.hi;exact d5 asc h.kin k.kin (by omega)
theorem iB{rs:List Int}(fit:bc rs){g:Nat}(D:g<rs.length+1):FY (KI rs) (g:Int) (ow (aw rs) g):=by
 obtain⟨c,d,o⟩:=eK fit D;rw[de o];have J:=o.le;have L:=o.lt;refine⟨bK.mpr ⟨c,d,o.kn,rfl⟩,by show(c:Int)<=g;omega,by show(g:Int)<d;omega,λq H z B=>?_⟩;obtain⟨a,b,kn,rfl⟩:=bK.mp H;have z:(a:Int)<=g:=z;have B:(g:Int)<b:=B;have:=o.top a b kn (by omega) (by omega);show(a:Int)<=c;omega
section
variable {kins:List bb}
theorem FY.xF(L:i9 kins){g:Int}{p q:bb}(h:FY kins g q)(B:p∈kins)(D:p.1<=g)(H:g<p.2)(ne:q≠p):Cs p q:=by
 have t:=h.top p B D H;have J:p.1≠q.1:=λz=>ne (d5 L.asc h.kin B z.symm);have:=L.two p B q h.kin (by omega);have:=h.lo;have:=h.hi;exact⟨by omega,by omega⟩
theorem beside(L:i9 kins){c:List bb}(B:c∈aN kins){p q:bb}(J:cG kins c=[p]){g:Int}(Z:g=(hd2 c).1-1\/g=(bL c).2)(z:FY kins g q):q=p:=by
 have C:=bI L;obtain⟨M,O⟩:=cw (kins:=kins) (c:=c) (k:=p) (by rw[J];exact O4.mpr rfl);have O:=di.mp O;have D:=bF (C.ne c B);have H:=hE (C.ne c B);have V:=C.sub c B _ D;have lk:=C.sub c B _ H;have ph:=L.pos _ V;have pl:=L.pos _ lk;have hl:=C.hi c B _ D;have ll:=C.lo c B _ H;have o1:=z.lo;have o2:=z.hi;have t:=z.top p M (by omega) (by omega);have fin:(∃k∈c,Cs q k)->q=p:=λ⟨k,kc,ki⟩=>by
  have al:=jw L z.kin (C.IJ c B) (C.sub c B) k kc ki;have:=mj L.asc (Cu C B z.kin al) J;exact d5 L.asc z.kin M (by omega)
 rcases Z with rfl|rfl
 .refine fin ⟨_,D,?_⟩;have:=C.fst c B q z.kin;have:=L.two q z.kin _ V (by omega);exact⟨by omega,by omega⟩
 refine fin ⟨_,H,?_⟩;have:=jU L B z.kin;rcases Ua q.1 (bL c).1 with h|h|h
 .have:=L.two q z.kin _ lk h;exact⟨by omega,by omega⟩
 .have:=d5 L.asc z.kin lk h;rw[this]at o2;omega
 have:=L.two _ lk q z.kin h;omega
theorem within(L:i9 kins){c:List bb}(B:c∈aN kins){p q:bb}(J:cG kins c=[p]){g:Int}(M:(hd2 c).1<=g)(O:g<(bL c).2)(V:FY kins g q):q≠p:=λz=>by
 have C:=bI L;obtain⟨pk,D⟩:=cw (kins:=kins) (c:=c) (k:=p) (by rw[J];exact O4.mpr rfl);have D:=di.mp D;obtain⟨k,H,Z,k2⟩:=tile (C.IJ c B) (λk hk=>L.pos k (C.sub c B k hk)) g M O (C.ne c B);have:=V.top k (C.sub c B k H) Z k2;have:=C.lo c B k H;rw[z]at *;omega
theorem apart2(L:i9 kins){c B:List bb}(D:c∈aN kins)(z:B∈aN kins){p:bb}(O:cG kins c=[p])(H:cG kins B=[p])(ne:c≠B):(bL c).2<(hd2 B).1\/(bL B).2<(hd2 c).1:=by
 have C:=bI L;have one:∀{c B:List bb},c∈aN kins->B∈aN kins->cG kins c=[p]->cG kins B=[p]->c≠B->¬((hd2 c).1<=(hd2 B).1/\(hd2 B).1<(bL c).2):=λ{c B} D z O H ne ⟨h1,h2⟩=>by
  obtain⟨pk,pa⟩:=cw (kins:=kins) (c:=c) (k:=p) (by rw[O];exact O4.mpr rfl);have pa:=di.mp pa;obtain⟨k,kc,k1,k2⟩:=tile (C.IJ c D) (λk V=>L.pos k (C.sub c D k V)) _ h1 h2 (C.ne c D);have Z:=C.sub c D k kc;have J:=bF (C.ne B z);have V:=C.sub B z _ J;rcases TU k1 with h|h
  .have:=L.two k Z _ V h;have al:=jw L Z (C.IJ B z) (C.sub B z) _ J ⟨h,by omega⟩;have:=mj L.asc (Cu C z Z al) H;have:=C.lo c D k kc;omega
  have:=d5 L.asc Z V h;exact ne (C.uq c D B z k kc (by rw[this];exact J))
 have h1:=one D z O H ne;have h2:=one z D H O (Ne.symm ne);have J:=bF (C.ne c D);have M:=bF (C.ne B z);have:=L.pos _ (C.sub c D _ J);have:=C.hi c D _ J;have:=L.pos _ (C.sub B z _ M);have:=C.hi B z _ M;have:=jU L D (C.sub B z _ M);have:=jU L z (C.sub c D _ J);omega
end
def FZ(K:bb->Prop):jD->Prop:=λa=>∃p,K p/\a=.inl p
def Cv(rs:List Int)(K:bb->Prop)(y:Nat):Prop:=y<rs.length+1/\isOpen (aw rs) y=true/\K (ow (aw rs) y)
def HP(rs:List Int)(K:bb->Prop)(p:bb):Prop:=∃D z B H,D<z/\z<B/\B<H/\Cv rs K D/\Cv rs K z/\Cv rs K B/\Cv rs K H /\
 ((ow (aw rs) D=p/\ow (aw rs) z≠p/\ow (aw rs) B=p/\ow (aw rs) H≠p)\/(ow (aw rs) D≠p/\ow (aw rs) z=p/\ow (aw rs) B≠p/\ow (aw rs) H=p))
def qQ(rs:List Int)(K:bb->Prop):Prop:=∀p,K p->p∈KI rs/\∃y,y<rs.length+1/\isOpen (aw rs) y=true/\ow (aw rs) y=p
section
variable {rs:List Int}{K:bb->Prop}{p:bb}
theorem Cw{kins c:List bb}(h:p∈cG kins c):cG kins c=[p]:=by
 have:=i8 (kins:=kins) (c:=c)
 match e:cG kins c,this with
 |[],_=>rw[e]at h;exact U4 h Pf
 |[x],_=>rw[e]at h;rw[O4.mp h]
theorem Cy(fit:bc rs){v:jD}(e:UT rs v=YN (.inl p)):∃c∈CH rs,v=.inr (hd2 c)/\cG (KI rs) c=[p]:=by
 have C:=bI (dD fit).p;cases v with
 |inl k =>
  obtain⟨c,_,_,z⟩:=hU C e;cases z
 |inr h =>
  obtain⟨c,B,rfl,k,D,z⟩:=oT C e;cases z;exact⟨c,B,rfl,Cw D⟩
theorem EE(fit:bc rs)(hK:qQ rs K)(J:K p){y:Nat}(hy:Cv rs K y)(ne:ow (aw rs) y≠p):(¬(p.1<=(y:Int)/\(y:Int)<p.2)/\∃u,UT rs (.inl p)=YN u/\Ed (UT rs) (FZ K) (.inl p) u) \/
  ∃c∈CH rs,cG (KI rs) c=[p]/\(hd2 c).1<=(y:Int)/\(y:Int)<(bL c).2/\Ed (UT rs) (FZ K) (.inl p) (.inr (hd2 c)):=by
 have L:=(dD fit).p;have C:=bI L;obtain⟨y1,y2,O⟩:=hy;have o:=iB fit y1;have M:=(hK p J).1;generalize ow (aw rs) y=q at *;by_cases c:p.1<=(y:Int)/\(y:Int)<p.2
 .right;have xF:=o.xF L M c.1 c.2 ne;have ab:=FX L C _ q p o.kin M (Q5 xF.1) (Q5 xF.2) (O5 _);rcases ab.pred with e|⟨v,V,Z⟩
  .cases e;exact U4 rfl ne
  obtain⟨c,D,rfl,hs⟩:=Cy fit V;obtain⟨H,B⟩:=yd C Z;rw[oU C D]at B;have H:(hd2 c).1<=q.1:=H;have B:q.2<=(bL c).2:=B;have:=o.lo;have:=o.hi;obtain⟨_,pa⟩:=cw (kins:=KI rs) (c:=c) (k:=p) (by rw[hs];exact O4.mpr rfl);have pa:=di.mp pa;refine⟨c,D,hs,by omega,by omega,.inr ⟨V,⟨_,⟨q,O,rfl⟩,Z⟩,_,⟨p,J,rfl⟩,λz=>?_⟩⟩;have:=(yd C z).2;rw[oU C D]at this;have:p.2<=(bL c).2:=this;omega
 left;refine⟨c,?_⟩;obtain⟨ch,D,pc⟩:=C.all p M;have eu:UT rs (.inl p)=YN (.inr (hd2 ch)):=C.Dd D pc;refine⟨_,eu,.inl ⟨eu,⟨_,⟨p,J,rfl⟩,.refl _⟩,_,⟨q,O,rfl⟩,λz=>?_⟩⟩;obtain⟨H,B⟩:=yd C z;have H:p.1<=q.1:=H;have B:q.2<=p.2:=B;have:=o.lo;have:=o.hi;omega
theorem NB(fit:bc rs)(J:qQ rs K)(hp:K p){b:jD}(h:Ed (UT rs) (FZ K) (.inl p) b):(UT rs (.inl p)=YN b/\∃y,Cv rs K y/\ow (aw rs) y≠p/\¬(p.1<=(y:Int)/\(y:Int)<p.2)) \/
  ∃c∈CH rs,b=.inr (hd2 c)/\cG (KI rs) c=[p]/\∃y,Cv rs K y/\ow (aw rs) y≠p/\(hd2 c).1<=(y:Int)/\(y:Int)<(bL c).2:=by
 have L:=(dD fit).p;have C:=bI L;have Z:=(J p hp).1;rcases h with⟨e,_,k2,⟨q,D,rfl⟩,nq⟩|⟨e,⟨k1,⟨q,D,rfl⟩,aq⟩,_⟩
 .left;obtain⟨qk,y,H,M,B⟩:=J q D;have o:=iB fit H;rw[B]at o;have qp:q≠p:=λz=>nq (by rw[z];exact .refl _);refine⟨e,y,⟨H,M,by rw[B];exact D⟩,by rw[B];exact qp,λc=>nq ?_⟩;have xF:=o.xF L Z c.1 c.2 qp;exact FX L C _ q p o.kin Z (Q5 xF.1) (Q5 xF.2) (O5 _)
 right;obtain⟨c,O,rfl,hs⟩:=Cy fit e;obtain⟨qk,y,H,M,B⟩:=J q D;have o:=iB fit H;obtain⟨i1,V⟩:=yd C aq;rw[oU C O]at V;have i1:(hd2 c).1<=q.1:=i1;have V:q.2<=(bL c).2:=V;have l1:=o.lo;have l2:=o.hi;rw[B]at l1 l2;have w1:(hd2 c).1<=(y:Int):=by omega
 have w2:(y:Int)<(bL c).2:=by omega
 exact⟨c,O,rfl,hs,y,⟨H,M,by rw[B];exact D⟩,within L O hs w1 w2 o,w1,w2⟩
theorem ND(fit:bc rs)(O:K p){c:List bb}(B:c∈CH rs)(D:cG (KI rs) c=[p]):∃g h:Nat,(g:Int)=(hd2 c).1-1/\(h:Int)=(bL c).2/\Cv rs K g/\Cv rs K h/\ow (aw rs) g=p/\ow (aw rs) h=p/\p.1<=(g:Int)/\(h:Int)<p.2/\g<h:=by
 have V:=dD fit;have L:=V.p;have C:=bI L;obtain⟨pk,Z⟩:=cw (kins:=KI rs) (c:=c) (k:=p) (by rw[D];exact O4.mpr rfl);have Z:=di.mp Z;have rg:=V.j4 p pk;have hm:=bF (C.ne c B);have:=L.pos _ (C.sub c B _ hm);have:=C.hi c B _ hm;have H:((hd2 c).1-1).toNat<rs.length+1:=by omega
 have J:((bL c).2).toNat<rs.length+1:=by omega
 have eg:((((hd2 c).1-1).toNat:Nat):Int)=(hd2 c).1-1:=by omega
 have eh:((((bL c).2).toNat:Nat):Int)=(bL c).2:=by omega
 have og:=iB fit H;have oh:=iB fit J;have pg:=beside L B D (.inl eg) og;have M:=beside L B D (.inr eh) oh;have op:∀{x:Nat},x<rs.length+1->ow (aw rs) x=p->isOpen (aw rs) x=true:=λ{x} hx e=>by
  cases z:isOpen (aw rs) x with
  |true=>rfl
  |false =>
   have:=(uj fit hx).mpr z;rw[e]at this;have e1:p.1=x:=by rw[this]
   have e2:p.2=(x:Int)+1:=by rw[this]
   omega
 exact⟨_,_,eg,eh,⟨H,op H pg,by rw[pg];exact O⟩,⟨J,op J M,by rw[M];exact O⟩,pg,M,by omega,by omega,by omega⟩
theorem EF(fit:bc rs)(hK:qQ rs K)(O:K p):HP rs K p↔∃b1 b2,b1≠b2/\Ed (UT rs) (FZ K) (.inl p) b1/\Ed (UT rs) (FZ K) (.inl p) b2:=by
 have Lm:=dD fit;have L:=Lm.p;have C:=bI L;have pk:=(hK p O).1;have own:∀{y:Nat},y<rs.length+1->ow (aw rs) y=p->p.1<=(y:Int)/\(y:Int)<p.2:=λ{y} hy e=>by
  have o:=iB fit hy;rw[e]at o;exact⟨o.lo,o.hi⟩
 have nw:∀{y:Nat}{c:List bb},y<rs.length+1->ow (aw rs) y=p->c∈CH rs->cG (KI rs) c=[p]->¬((hd2 c).1<=(y:Int)/\(y:Int)<(bL c).2):=λ{y c} hy e B H ⟨h1,h2⟩=>within L B H h1 h2 (iB fit hy) e;have V:∀{c:List bb}{u:jD},c∈CH rs->cG (KI rs) c=[p]->UT rs (.inl p)=YN u->(.inr (hd2 c):jD)≠u:=λ{c u} B H e z=>by
  subst z;obtain⟨d,hd,pd,z⟩:=hU C e;have z:hd2 c=hd2 d:=by injection z
  have:=C.uq c B d hd (hd2 c) (bF (C.ne c B)) (by rw[z];exact bF (C.ne d hd));subst this;obtain⟨_,pa⟩:=cw (kins:=KI rs) (c:=c) (k:=p) (by rw[H];exact O4.mpr rfl);have pa:=di.mp pa;have:=C.lo c B p pd;omega
 constructor
 .rintro⟨y1,y2,y3,y4,l12,l23,l34,b1,b2,b3,b4,⟨e1,e2,e3,e4⟩|⟨e1,e2,e3,e4⟩⟩
  .have w1:=own b1.1 e1;have w3:=own b3.1 e3;rcases EE fit hK O b2 e2 with⟨no,_⟩|⟨c,B,H,c1,c2,ed⟩
   .exact U4 ⟨by omega,by omega⟩ no
   rcases EE fit hK O b4 e4 with⟨_,u,eu,J⟩|⟨Z,D,M,c1',c2',J⟩
   .exact⟨_,_,V B H eu,ed,J⟩
   refine⟨_,_,λz=>?_,ed,J⟩;have z:hd2 c=hd2 Z:=by injection z
   have:=C.uq c B Z D (hd2 c) (bF (C.ne c B)) (by rw[z];exact bF (C.ne Z D));subst this;exact nw b3.1 e3 B H ⟨by omega,by omega⟩
  have w2:=own b2.1 e2;have w4:=own b4.1 e4;rcases EE fit hK O b3 e3 with⟨no,_⟩|⟨c,B,H,c1,c2,ed⟩
  .exact U4 ⟨by omega,by omega⟩ no
  rcases EE fit hK O b1 e1 with⟨_,u,eu,J⟩|⟨Z,D,M,c1',c2',J⟩
  .exact⟨_,_,V B H eu,ed,J⟩
  refine⟨_,_,λz=>?_,ed,J⟩;have z:hd2 c=hd2 Z:=by injection z
  have:=C.uq c B Z D (hd2 c) (bF (C.ne c B)) (by rw[z];exact bF (C.ne Z D));subst this;exact nw b2.1 e2 B H ⟨by omega,by omega⟩
 rintro⟨b1,b2,ne,d1,d2⟩;have mix:∀{c:List bb}{y0 y:Nat},c∈CH rs->cG (KI rs) c=[p]->Cv rs K y0->ow (aw rs) y0≠p->¬(p.1<=(y0:Int)/\(y0:Int)<p.2)->Cv rs K y->ow (aw rs) y≠p->(hd2 c).1<=(y:Int)->(y:Int)<(bL c).2->HP rs K p:=λ{c y0 y} B H q0 n0 no q n h1 h2=>by
  obtain⟨g,h,eg,eh,lg,lh,og,oh,pg,ph,gh⟩:=ND (K:=K) fit O B H;by_cases z:(y0:Int)<p.1
  .exact⟨y0,g,y,h,by omega,by omega,by omega,q0,lg,q,lh,.inr ⟨n0,og,n,oh⟩⟩
  exact⟨g,y,h,y0,by omega,by omega,by omega,lg,q,lh,q0,.inl ⟨og,n,oh,n0⟩⟩
 rcases NB fit hK O d1 with⟨e1,y1,q1,n1,o1⟩|⟨c,B,rfl,H,y1,q1,n1,h1,h2⟩
 .rcases NB fit hK O d2 with⟨e2,_⟩|⟨Z,D,rfl,M,y2,q2,n2,h1',LU⟩
  .rw[e1]at e2;cases e2;exact U4 rfl ne
  exact mix D M q1 n1 o1 q2 n2 h1' LU
 rcases NB fit hK O d2 with⟨e2,y2,q2,n2,o2⟩|⟨Z,D,rfl,M,y2,q2,n2,h1',LU⟩
 .exact mix B H q2 n2 o2 q1 n1 h1 h2
 have Ap:c≠Z:=λz=>ne (by rw[z]);obtain⟨g,h,eg,eh,lg,lh,og,oh,pg,ph,gh⟩:=ND (K:=K) fit O B H;obtain⟨g',h',eg',eh',lg',lh',og',oh',pg',ph',gh'⟩:=ND (K:=K) fit O D M;rcases apart2 L B D H M Ap with z|z
 .exact⟨g,y1,h,y2,by omega,by omega,by omega,lg,q1,lh,q2,.inl ⟨og,n1,oh,n2⟩⟩
 exact⟨g',y2,h',y1,by omega,by omega,by omega,lg',q2,lh',q1,.inl ⟨og',n2,oh',n1⟩⟩
end
section
variable {α:Type}{up:α->Option α}{rk:α->Nat}{V:List α}{M:Nat}{root:α}{K:α->Prop}
def Kp(up:α->Option α)(x y:α):Prop:=up x=YN y\/up y=YN x
def Sd(up:α->Option α)(x y q:α):Prop:=(up x=YN y/\Ab up q x)\/(up y=YN x/\¬Ab up q y)
theorem Tr.EG(T:Tr V up rk M root){x y:α}(h:up x=YN y):up y≠YN x:=λz=>by
 have:=T.lt _ _ h;have:=T.lt _ _ z;omega
theorem Tr.Cz(T:Tr V up rk M root){x y:α}(h:Kp up x y):x≠y:=λz=>by
 subst z;rcases h with h|h <;> (have:=T.lt _ _ h;omega)
theorem Tr.CA(T:Tr V up rk M root){x y:α}(h:Kp up x y)(q:α):Sd up x y q\/Sd up y x q:=by
 rcases h with h|h
 .by_cases c:Ab up q x
  .exact .inl (.inl ⟨h,c⟩)
  exact .inr (.inr ⟨h,c⟩)
 by_cases c:Ab up q y
 .exact .inr (.inl ⟨h,c⟩)
 exact .inl (.inr ⟨h,c⟩)
theorem Tr.HQ(T:Tr V up rk M root){x y q:α}(h:Sd up x y q):¬Sd up y x q:=λg=>by
 rcases h with⟨z,B⟩|⟨z,B⟩ <;> rcases g with⟨D,H⟩|⟨D,H⟩
 .exact T.EG z D
 .exact H B
 .exact B H
 exact T.EG z D
theorem Tr.EH(T:Tr V up rk M root){x y:α}(h:Kp up x y):Sd up x y x:=by
 rcases h with h|h
 .exact .inl ⟨h,.refl _⟩
 refine .inr ⟨h,λz=>?_⟩;have:=T.le z;have:=T.lt _ _ h;omega
theorem Tr.dq(T:Tr V up rk M root){x y:α}:Ed up K x y↔Kp up x y/\(∃q,K q/\Sd up x y q)/\∃q,K q/\Sd up y x q:=by
 constructor
 .rintro(⟨e,⟨q,z,D⟩,r,B,H⟩|⟨e,⟨q,z,D⟩,r,B,H⟩)
  .exact⟨.inl e,⟨q,z,.inl ⟨e,D⟩⟩,r,B,.inr ⟨e,H⟩⟩
  exact⟨.inr e,⟨r,B,.inr ⟨e,H⟩⟩,q,z,.inl ⟨e,D⟩⟩
 rintro⟨ad,⟨q,z,⟨e,D⟩|⟨e,L⟩⟩,r,B,⟨J,O⟩|⟨J,H⟩⟩
 .exact U4 J (T.EG e)
 .exact .inl ⟨e,⟨q,z,D⟩,r,B,H⟩
 .exact .inr ⟨e,⟨r,B,O⟩,q,z,L⟩
 exact U4 J (T.EG e)
theorem Tr.next(T:Tr V up rk M root){x y q:α}(L:q∈V)(h:Sd up x y q)(ne:q≠x):∃z,z≠y/\Kp up x z/\Sd up z x q/\∀r,Sd up z x r->Sd up x y r:=by
 rcases h with⟨e,a⟩|⟨e,n⟩
 .rcases a.pred with rfl|⟨c,B,ac⟩
  .exact U4 rfl ne
  refine⟨c,λz=>?_,.inr B,.inl ⟨B,ac⟩,λr D=>?_⟩
  .subst z;exact T.EG e B
  rcases D with⟨_,a⟩|⟨H,_⟩
  .exact .inl ⟨e,a.snoc B⟩
  exact U4 H (T.EG B)
 by_cases J:Ab up q x
 .rcases J.pred with rfl|⟨c,B,ac⟩
  .exact U4 rfl ne
  refine⟨c,λz=>n (z▸ac),.inr B,.inl ⟨B,ac⟩,λr D=>?_⟩;rcases D with⟨_,a⟩|⟨H,_⟩
  .exact .inr ⟨e,λw=>n (T.Kl a w B e▸ac)⟩
  exact U4 H (T.EG B)
 cases ex:up x with
 |none =>
  rw[T.rt x (T.kj _ _ e).2 ex]at J;exact U4 (T.wj _ q (O5 _) L) J
 |some p =>
  refine⟨p,λz=>?_,.inl ex,.inr ⟨ex,J⟩,λr D=>?_⟩
  .subst z;exact T.EG ex e
  rcases D with⟨H,_⟩|⟨_,O⟩
  .exact U4 H (T.EG ex)
  exact .inr ⟨e,λw=>O (w.snoc e)⟩
theorem Tr.link(T:Tr V up rk M root)(KV:∀k,K k->k∈V){x y q:α}(B:K q)(h:Sd up x y q)(ne:q≠x)(J:∃r,K r/\Sd up y x r):∃z,z≠y/\Ed up K x z/\Sd up z x q:=by
 obtain⟨z,L,D,H,O⟩:=T.next (KV q B) h ne
 obtain⟨r,Z,r2⟩:=J;refine⟨z,L,T.dq.mpr ⟨D,⟨r,Z,?_⟩,q,B,H⟩,H⟩;rcases T.CA D r with w|w
 .exact w
 exact U4 (O r w) (T.HQ r2)
theorem Tr.k5(T:Tr V up rk M root){x a b q:α}(B:Sd up a x q)(D:Sd up b x q):a=b:=by
 rcases B with⟨e,h⟩|⟨e,h⟩ <;> rcases D with⟨z,h'⟩|⟨z,h'⟩
 .exact T.Kl h h' e z
 .exact U4 (h.snoc e) h'
 .exact U4 (h'.snoc z) h
 rw[e]at z;cases z;rfl
theorem Tr.Kq(T:Tr V up rk M root)(KV:∀k,K k->k∈V){e y:α}(B:K e)(D:K y)(ne:y≠e):∃z,Ed up K e z:=by
 by_cases c:Ab up y e
 .rcases c.pred with rfl|⟨d,H,ad⟩
  .exact U4 rfl ne
  refine⟨d,.inr ⟨H,⟨y,D,ad⟩,e,B,λz=>?_⟩⟩;have:=T.le z;have:=T.lt _ _ H;omega
 cases ex:up e with
 |none =>
  rw[T.rt e (KV e B) ex]at c;exact U4 (T.wj _ y (O5 _) (KV y D)) c
 |some p=>exact⟨p,.inl ⟨ex,⟨e,B,.refl _⟩,y,D,c⟩⟩
theorem Tr.conv(T:Tr V up rk M root){x z y b e r:α}(h1:Sd up z x y)(J:Sd up b y e)(L:¬Sd up z x e)(O:¬Sd up z x r):Sd up b y r:=by
 rcases h1 with⟨D,Z⟩|⟨D,nz⟩
 .have ne:¬Ab up e z:=λw=>L (.inl ⟨D,w⟩);have nr:¬Ab up r z:=λw=>O (.inl ⟨D,w⟩);rcases J with⟨B,H⟩|⟨B,nb⟩
  .exact U4 ((H.snoc B).trans Z) ne
  exact .inr ⟨B,λw=>nr (w.trans Z)⟩
 have ae:Ab up e x:=Pa λw=>L (.inr ⟨D,w⟩);have ar:Ab up r x:=Pa λw=>O (.inr ⟨D,w⟩);rcases J with⟨B,H⟩|⟨B,nb⟩
 .have xb:Ab up x b:=by
   rcases H.cmp ae with w|w
   .cases w with
    |refl=>exact .refl _
    |step e1 w2=>rw[B]at e1;cases e1;exact U4 w2 nz
   exact w
  exact .inl ⟨B,ar.trans xb⟩
 refine .inr ⟨B,λw=>?_⟩;rcases w.cmp ar with v|v
 .exact nz v
 exact nb (ae.trans v)
structure zF(E:α->α->Prop) (e:α) (us:List α):Prop where
 hd:us[0]?=YN e
 nD:∀(i:Nat) (a b:α),us[i]?=YN a->us[i+1]?=YN b->E a b
 nd:us.Nodup
 FR:∀u∈us,∀x y z,E u x->E u y->E u z->x=y\/y=z\/x=z
 d0:∀x y,E e x->E e y->x=y
 stop:∀p,us.getLast?=YN p->(∀x,E p x->x∈us)\/∃x,x∉us/\E p x/\∃a b c,a≠b/\b≠c/\a≠c/\E x a/\E x b/\E x c
variable {e:α}{us:List α}
theorem zF.ix{E:α->α->Prop}(P:zF E e us){i j:Nat}{a:α}(z:us[i]?=YN a)(B:us[j]?=YN a):i=j:=(Qi (O2.mp z).1 P.nd).mp (z.trans B.symm)
theorem uM(T:Tr V up rk M root)(KV:∀k,K k->k∈V)(P:zF (Ed up K) e us):∀(i:Nat) (a b:α),us[i]?=YN a->Ed up K a b->(∀j,j<=i->us[j]?≠YN b)->(∀j c,1<=j->j<=i->us[j]?=YN c->¬K c)->∀q,K q->Sd up a b q->q=e:=by
 intro i
 induction i with
 |zero =>
  intro a b B D nb no q H Z;rw[P.hd]at B;cases B;refine Pa λne=>?_;obtain⟨_,_,r⟩:=T.dq.mp D;obtain⟨z,z1,z2,_⟩:=T.link KV H Z ne r;exact z1 (P.d0 z b z2 D)
 |succ i ih =>
  intro a b B D nb no q H Z;have hi:i<us.length:=by have:=(O2.mp B).1;omega
  have L:=O1 hi;generalize us[i]=O at L;have J:=P.nD i O a L B;have nk:=no (i+1) a (by omega) (O5 _) B;have ne:q≠a:=λz=>nk (z▸H);obtain⟨_,_,r⟩:=T.dq.mp D;obtain⟨z,z1,z2,z3⟩:=T.link KV H Z ne r;have nab:O≠b:=λw=>nb i (by omega) (by rw[L,w]);have za:z=O:=by
   rcases P.FR a (Pj B) z O b z2 J.symm D with h|h|h
   .exact h
   .exact U4 h nab
   exact U4 h z1
  subst za;refine ih z a L J (λj hj w=>?_) (λj c h1 h2 h3=>no j c h1 (by omega) h3) q H z3;have:=P.ix w B;omega
theorem EI(T:Tr V up rk M root)(KV:∀k,K k->k∈V)(P:zF (Ed up K) e us)(he:K e){f:α}(hf:f∈us)(kf:K f)(nf:f≠e)(B:∀f,∃g,K g/\g≠e/\g≠f):∃y,(K y/\y≠e)/\(∃D H,D≠H/\Ed up K y D/\Ed up K y H)/\∀D H,Ed up (λk=>K k/\k≠e) y D->Ed up (λk=>K k/\k≠e) y H->D=H:=by
 obtain⟨j0,J⟩:=PD hf;have j01:1<=j0:=by
  by_cases z:j0=0
  .rw[z,P.hd]at J;cases J;exact U4 rfl nf
  omega
 obtain⟨j,⟨j1,y,L,ky⟩,mn⟩:=rP (P:=λj=>1<=j/\∃y,us[j]?=YN y/\K y) j0 ⟨j01,f,J,kf⟩;obtain⟨i,rfl⟩:∃i,j=i+1:=⟨j-1,by omega⟩
 have hi:i<us.length:=by have:=(O2.mp L).1;omega
 have ea:=O1 hi;generalize us[i]=a at ea;have O:=P.nD i a y ea L;have side:=uM T KV P i a y ea O (λm hm w=>by have:=P.ix w L;omega) (λm c h1 h2 h3 kc=>by have:=mn m ⟨h1,c,h3,kc⟩;omega);have ye:y≠e:=λz=>by rw[z]at L;have:=P.ix L P.hd;omega
 have Z:¬Ed up (λk=>K k/\k≠e) y a:=λw=>by
  obtain⟨_,_,q,⟨q1,q2⟩,q3⟩:=T.dq.mp w;exact q2 (side q q1 q3)
 have mono:∀{x z:α},Ed up (λk=>K k/\k≠e) x z->Ed up K x z:=λ{x z} w=>by
  obtain⟨w1,⟨q,q1,q2⟩,r,r1,r2⟩:=T.dq.mp w;exact T.dq.mpr ⟨w1,⟨q,q1.1,q2⟩,r,r1.1,r2⟩
 refine⟨y,⟨ky,ye⟩,?_,λD H h1 h2=>?_⟩
 ·-- LV way on
  obtain⟨g,g1,g2,g3⟩:=B y;have ad:=(T.dq.mp O).1;rcases T.CA ad g with s|s
  .exact U4 (side g g1 s) g2
  obtain⟨_,q,_⟩:=T.dq.mp O;obtain⟨z,z1,z2,_⟩:=T.link KV g1 s g3 q;exact⟨z,a,z1,z2,O.symm⟩
 rcases P.FR y (Pj L) D H a (mono h1) (mono h2) O.symm with h|h|h
 .exact h
 .exact U4 (h▸h2) Z
 exact U4 (h▸h1) Z
theorem EJ(T:Tr V up rk M root)(KV:∀k,K k->k∈V)(P:zF (Ed up K) e us)(he:K e){y:α}(hy:K y)(ye:y≠e)(two:∃b1 b2,b1≠b2/\Ed up K y b1/\Ed up K y b2)(one:∀b1 b2,Ed up (λk=>K k/\k≠e) y b1->Ed up (λk=>K k/\k≠e) y b2->b1=b2):∃f∈us,K f/\f≠e:=by
 refine Pa λnone=>?_;have no:∀(j:Nat) (c:α),1<=j->us[j]?=YN c->¬K c:=λj c h1 h2 kc=>none ⟨c,Pj h2,kc,λz=>by rw[z]at h2;have:=P.ix h2 P.hd;omega⟩;have C8:us≠[]:=λz=>by have:=P.hd;rw[z]at this;cases this
 obtain⟨p,hp⟩:∃p,us.getLast?=YN p:=⟨_,Sl C8⟩
 have J:us[us.length-1]?=YN p:=by rw[<-PV];exact hp
 have lp:=TL.mpr C8;have alone:∀b,Ed up K y b->¬Ed up (λk=>K k/\k≠e) y b->∀q,K q->Sd up b y q->q=e:=λb h1 h2 q hq sq=>Pa λne=>h2 (by
  obtain⟨ad,_,_⟩:=T.dq.mp h1;exact T.dq.mpr ⟨ad,⟨y,⟨hy,ye⟩,T.EH ad⟩,q,⟨hq,ne⟩,sq⟩)
 have has:∀b,Ed up K y b->∃q,K q/\Sd up b y q:=λb h=>(T.dq.mp h).2.2;rcases P.stop p hp with st|⟨x,xn,ex,a1,a2,a3,H,L,O,x1,x2,x3⟩
 .by_cases l1:us.length=1
  .have:p=e:=by rw[l1,P.hd]at J;cases J;rfl
   subst this;obtain⟨z,hz⟩:=T.Kq KV he hy ye;have zu:=st z hz;obtain⟨m,hm,em⟩:=PC zu;have m0:m=0:=by omega
   subst m0;have:=P.hd;rw[O1 hm,em]at this;cases this;exact T.Cz (T.dq.mp hz).1 rfl
  -- the last thing aaR have a way on
  obtain⟨m,hm⟩:∃m,us.length=m+2:=⟨us.length-2,by omega⟩
  rw[show us.length-1=m+1 by omega]at J;have ea:=O1 (l:=us) (i:=m) (by omega);generalize us[m]'(by omega)=a at ea;have ed:=P.nD m a p ea J;have nk:=no (m+1) p (by omega) J;obtain⟨_,la,r,r1,r2⟩:=T.dq.mp ed;obtain⟨z,z1,z2,_⟩:=T.link KV r1 r2 (λw=>nk (w▸r1)) la;have zu:=st z z2;obtain⟨j,Z⟩:=PD zu;have jm:j≠m:=λw=>by rw[w,ea]at Z;cases Z;exact z1 rfl
  have jp:j≠m+1:=λw=>by rw[w,J]at Z;cases Z;exact T.Cz (T.dq.mp z2).1 rfl
  have jl:=(O2.mp Z).1;have en:=O1 (l:=us) (i:=j+1) (by omega);generalize us[j+1]'(by omega)=c at en;have ec:=P.nD j z c Z en;have cp:c≠p:=λw=>by rw[w]at en;have:=P.ix en J;omega
  by_cases j0:j=0
  .subst j0;rw[P.hd]at Z;cases Z;exact cp (P.d0 c p ec z2.symm)
  have eb:=O1 (l:=us) (i:=j-1) (by omega);generalize us[j-1]'(by omega)=d at eb;have ed':=P.nD (j-1) d z eb (by rw[show j-1+1=j by omega];exact Z);have dp:d≠p:=λw=>by rw[w]at eb;have:=P.ix eb J;omega
  have dc:d≠c:=λw=>by rw[w]at eb;have:=P.ix eb en;omega
  rcases P.FR z zu c d p ec ed'.symm z2.symm with w|w|w
  .exact dc w.symm
  .exact dp w
  exact cp w
 -- a LW of adm x
 have side:=uM T KV P (us.length-1) p x J ex (λj _ w=>xn (Pj w)) (λj c h1 _ h3=>no j c h1 h3);obtain⟨adx,⟨q0,k0,s0⟩,_⟩:=T.dq.mp ex;have se:Sd up p x e:=by have:=side q0 k0 s0;subst this;exact s0
 by_cases xy:x=y
 .subst xy;have lost:∀b,Ed up K x b->¬Ed up (λk=>K k/\k≠e) x b->b=p:=λb h1 h2=>by
   obtain⟨q,q1,q2⟩:=has b h1;have:=alone b h1 h2 q q1 q2;subst this;exact T.k5 q2 se
  by_cases D:Ed up (λk=>K k/\k≠e) x a1
  .by_cases B:Ed up (λk=>K k/\k≠e) x a2
   .exact H (one _ _ D B)
   by_cases c3:Ed up (λk=>K k/\k≠e) x a3
   .exact O (one _ _ D c3)
   exact L ((lost _ x2 B).trans (lost _ x3 c3).symm)
  by_cases B:Ed up (λk=>K k/\k≠e) x a2
  .by_cases c3:Ed up (λk=>K k/\k≠e) x a3
   .exact L (one _ _ B c3)
   exact O ((lost _ x1 D).trans (lost _ x3 c3).symm)
  exact H ((lost _ x1 D).trans (lost _ x2 B).symm)
 have yx:Sd up x p y:=by
  rcases T.CA adx y with w|w
  .exact U4 (side y hy w) ye
  exact w
 obtain⟨z,zp,az,sz,_⟩:=T.next (KV y hy) yx (Ne.symm xy)
 obtain⟨w,wp,wz,xw⟩:∃w,w≠p/\w≠z/\Ed up K x w:=by
  by_cases D:a1=p\/a1=z
  .by_cases B:a2=p\/a2=z
   .refine⟨a3,λh=>?_,λh=>?_,x3⟩
    .rcases D with D|D <;> rcases B with B|B
     .exact H (D.trans B.symm)
     .exact O (D.trans h.symm)
     .exact L (B.trans h.symm)
     exact H (D.trans B.symm)
    rcases D with D|D <;> rcases B with B|B
    .exact H (D.trans B.symm)
    .exact L (B.trans h.symm)
    .exact O (D.trans h.symm)
    exact H (D.trans B.symm)
   exact⟨a2,λh=>B (.inl h),λh=>B (.inr h),x2⟩
  exact⟨a1,λh=>D (.inl h),λh=>D (.inr h),x1⟩
 obtain⟨_,_,r,r1,r2⟩:=T.dq.mp xw;have re:r≠e:=λh=>by subst h;exact wp (T.k5 r2 se)
 obtain⟨b1,b2,nb,e1,e2⟩:=two;obtain⟨b,hb,lb⟩:∃b,Ed up K y b/\¬Ed up (λk=>K k/\k≠e) y b:=by
  by_cases D:Ed up (λk=>K k/\k≠e) y b1
  .by_cases B:Ed up (λk=>K k/\k≠e) y b2
   .exact U4 (one _ _ D B) nb
   exact⟨b2,e2,B⟩
  exact⟨b1,e1,D⟩
 obtain⟨q,q1,q2⟩:=has b hb;have qe:=alone b hb lb q q1 q2;subst qe;have:=T.conv sz q2 (λh=>zp (T.k5 h se)) (λh=>wz (T.k5 r2 h)) (r:=r)
 exact re (alone b hb lb r r1 this)
theorem CB(T:Tr V up rk M root)(KV:∀k,K k->k∈V){a b:α}(L:K a)(hb:K b)(ne:a≠b):∃p q,p≠q/\K p/\K q/\(∀x y,Ed up K p x->Ed up K p y->x=y)/\∀x y,Ed up K q x->Ed up K q y->x=y:=by
 have low:∀p,K p->(∀q,K q->Ab up q p->q=p)->∀x y,Ed up K p x->Ed up K p y->x=y:=λp B h x y e1 e2=>by
  have J:∀x,Ed up K p x->up p=YN x:=λx w=>by
   rcases w with⟨w,_⟩|⟨w,⟨q,q1,q2⟩,_⟩
   .exact w
   have:=h q q1 (q2.snoc w);subst this;have:=T.le q2;have:=T.lt _ _ w;omega
  have h1:=J x e1;rw[J y e2]at h1;cases h1
  rfl
 obtain⟨n,⟨p,B,en⟩,mx⟩:=vO (P:=λn=>∃p,K p/\n=rk p) (N:=M) (λn ⟨p,B,e⟩=>by rw[e];exact T.mx p (KV p B)) ⟨a,L,rfl⟩;have deep:∀q,K q->Ab up q p->q=p:=λq D w=>by
  have:=mx _ ⟨q,D,rfl⟩;cases w with
  |refl=>rfl
  |step e H =>
   have:=T.lt _ _ e;have:=T.le H;omega
 by_cases ex:∃q,K q/\¬Ab up p q
 .obtain⟨q0,Z,nq0⟩:=ex;obtain⟨m,⟨q,D,nq,em⟩,mx2⟩:=vO (P:=λn=>∃q,K q/\¬Ab up p q/\n=rk q) (N:=M) (λn ⟨p,B,_,e⟩=>by rw[e];exact T.mx p (KV p B)) ⟨q0,Z,nq0,rfl⟩;refine⟨p,q,λz=>nq (by rw[z];exact .refl _),B,D,low p B deep,low q D λr O w=>?_⟩;cases w with
  |refl=>rfl
  |step e H =>
   have:=mx2 _ ⟨r,O,λz=>nq (z.trans (.step e H)),rfl⟩;have:=T.lt _ _ e;have:=T.le H;omega
 have all:∀q,K q->Ab up p q:=λq D=>Pa λz=>ex ⟨q,D,z⟩;obtain⟨m,⟨q,D,em⟩,mn⟩:=rP (P:=λn=>∃q,K q/\n=rk q) _ ⟨a,L,rfl⟩;have top:∀r,K r->Ab up r q:=λr O=>by
  have:=mn _ ⟨r,O,rfl⟩;rcases(all r O).cmp (all q D)with w|w
  .exact w
  cases w with
  |refl=>exact .refl _
  |step e H =>
   have:=T.lt _ _ e;have:=T.le H;omega
 have pq:p≠q:=λz=>by
  subst z;exact ne ((deep a L (top a L)).trans (deep b hb (top b hb)).symm)
 refine⟨p,q,pq,B,D,low p B deep,λx y e1 e2=>?_⟩;have dn:∀x,Ed up K q x->up x=YN q/\Ab up p x:=λx w=>by
  rcases w with⟨_,_,r,r1,r2⟩|⟨w,⟨r,r1,r2⟩,_⟩
  .exact U4 (top r r1) r2
  exact⟨w,(all r r1).trans r2⟩
 obtain⟨f1,f2⟩:=dn x e1;obtain⟨g1,g2⟩:=dn y e2;exact T.Kl f2 g2 f1 g1
end
section
variable {α:Type}{V:List α}{E:α->α->Prop}{ι:α->Nd}{X:d9}
theorem CC{β:Type}{l:List β}(nd:l.Nodup)(h:¬l.length<=2):∃a b c,a≠b/\b≠c/\a≠c/\a∈l/\b∈l/\c∈l:=by
 match l,nd,h with
 |[],_,h=>exact U4 (Qb _) h
 |[_],_,h=>exact U4 (QO 1) h
 |[_,_],_,h=>exact U4 (O5 _) h
 |a::b::c::r,nd,_ =>
  obtain⟨B,nd⟩:=Qj.mp nd;obtain⟨D,_⟩:=Qj.mp nd;exact⟨a,b,c,λz=>B (by rw[z];simp),λz=>D (by rw[z];simp),λz=>B (by rw[z];simp),by simp,by simp,by simp⟩
theorem EK(O:gc X)(h:Rp X ι V E)(inj:∀a∈V,∀b∈V,ι a=ι b->a=b):∀(n:Nat) (vs:List α) (p:α) (J:List Nd),vs.getLast?=YN p->Path X (vs.map ι)->(∀v∈vs,v∈V)->n+vs.length=X.length+1->(∀k,k∈J↔k∈dg X (ι p)/\k∉vs.map ι) ->
  ∃B:List α,sd X n (ι p) J (vs.map ι)=B.map ι/\B[0]?=vs[0]?/\(∀u∈B,u∈V)/\Path X (B.map ι)/\∀q,B.getLast?=YN q->(∀x∈V,E q x->x∈B)\/∃x∈V,x∉B/\E q x/\¬(dg X (ι x)).length<=2:=by
 intro n
 induction n with
 |zero =>
  intro vs p J D P L hl;have:=P.len;rw[O3]at this;omega
 |succ n ih =>
  intro vs p J D P L hl NF;have pV:p∈V:=L p (Tv D);have mx:∀{x:α},x∈V->(ι x∈vs.map ι↔x∈vs):=λH=>Cj (inj:=inj) L H;have M:∀k,k∈J↔∃b∈V,k=ι b/\E p b/\b∉vs:=λk=>by
   rw[NF,h.lk p pV];constructor
   .rintro⟨⟨b,Z,rfl,e⟩,q⟩;exact⟨b,Z,rfl,e,λz=>q ((mx Z).mpr z)⟩
   rintro⟨b,Z,rfl,e,q⟩;exact⟨⟨b,Z,rfl,e⟩,λz=>q ((mx Z).mp z)⟩
  cases eo:J with
  |nil =>
   refine⟨vs,rfl,rfl,L,P,λq hq=>.inl λx H ex=>Pa λnx=>?_⟩;rw[D]at hq;cases hq;have:=(M (ι x)).mpr ⟨x,H,rfl,ex,nx⟩;rw[eo]at this;exact U4 this Pf
  |cons t r =>
   obtain⟨x,H,rfl,ex,nx⟩:=(M t).mp (by rw[eo];exact Pb);have kx:=(h.lk p pV (ι x)).mpr ⟨x,H,rfl,ex⟩;show∃B:List α,(if(dg X (ι x)).length<=2 then sd X n (ι x) ((dg X (ι x)).filter λl=>decide (l≠ι p)) (vs.map ι++[ι x])else vs.map ι)=B.map ι/\_;have Kr:ι x∉vs.map ι:=λz=>nx ((mx H).mp z);by_cases c:(dg X (ι x)).length<=2
   .rw[UZ c];have hp':(vs.map ι).getLast?=YN (ι p):=by rw[R9,D];rfl
    have P2:Path X ((vs++[x]).map ι):=by
     rw[Ph];refine P.snoc O hp' kx (λq qx eq z=>Kr ?_) c;rw[z];exact Pj eq
    have h2:(vs++[x]).getLast?=YN x:=by simp
    have hv2:∀v∈vs++[x],v∈V:=λv hm=>by
     rcases Po.mp hm with hm|hm
     .exact L v hm
     rw[O4.mp hm];exact H
    have w1:∀k,k∈((dg X (ι x)).filter λl=>decide (l≠ι p))↔k∈dg X (ι x)/\k∉(vs++[x]).map ι:=λk=>by
     rw[Pd,U9];constructor
     .rintro⟨k1,k2⟩;refine⟨k1,P2.new O (by rw[R9,h2];rfl) k1 λq qx eq=>?_⟩;rw[O3,O9,PZ,show vs.length+1-2=vs.length-1 by omega,O7,Pk (by rw[O3,O9,PZ]at qx;omega),<-PV,D]at eq;cases eq;exact k2
     rintro⟨k1,k2⟩;refine⟨k1,λz=>k2 ?_⟩;rw[z];exact O6.mpr ⟨p,PR _ (Tv D),rfl⟩
    obtain⟨B,g1,g2,g3⟩:=ih (vs++[x]) x _ h2 P2 hv2 (by rw[O9,PZ];omega) w1;rw[Ph]at g1;refine⟨B,g1,?_,g3⟩;rw[g2];cases vs with
    |nil=>cases D
    |cons y r=>rfl
   rw[UX c];refine⟨vs,rfl,rfl,L,P,λq hq=>.inr ?_⟩;rw[D]at hq;cases hq;exact⟨x,H,nx,ex,c⟩
theorem HR(O:gc X)(h:Rp X ι V E)(D:∀a b,E a b->a∈V/\b∈V)(inj:∀a∈V,∀b∈V,ι a=ι b->a=b){e:α}(he:e∈V)(hk:ι e∈bh X)(hd:(dg X (ι e)).length<=1):∃H:List α,dO X (ι e)=H.map ι/\(∀u∈H,u∈V)/\zF E e H:=by
 have P:Path X ([e].map ι):=by
  refine⟨by simp,λv J=>?_,λi a b M L=>?_,λv J=>?_,λa ha=>?_⟩
  .rw[O4.mp J];exact hk
  .simp at L
  .rw[O4.mp J];omega
  cases ha;exact hd
 obtain⟨H,g1,g2,Z,g4,g5⟩:=EK O h inj X.length [e] e (dg X (ι e)) rfl P (λv J=>by rw[O4.mp J];exact he) rfl (λk=>⟨λq=>⟨q,λz=>by rw[List.map_singleton,O4]at z;rw[z]at q;exact O.vZ _ q⟩,λq=>q.1⟩);have lk:∀{a b:α},E a b->ι b∈dg X (ι a):=λ{a b} w=>(h.lk a (D a b w).1 _).mpr ⟨b,(D a b w).2,rfl,w⟩;have B:∀{a b c:α},E a b->E a c->ι b=ι c->b=c:=λ{a b c} w1 w2 z=>inj b (D a b w1).2 c (D a c w2).2 z;refine⟨H,g1,Z,⟨g2,λi a b M L=>?_,?_,λu hu x y z e1 e2 e3=>?_,λx y e1 e2=>?_,λp hp=>?_⟩⟩
 .have ka:=Z a (Pj M);have kb:=Z b (Pj L);obtain⟨b',Ks,z,w⟩:=(h.lk a ka _).mp (g4.nD i (ι a) (ι b) (by rw[O7,M];rfl) (by rw[O7,L];rfl));rw[inj b kb b' Ks z];exact w
 .have:=g4.nd;unfold List.Nodup at this⊢;rw[Qa]at this;exact this.imp λn z=>n (by rw[z])
 .refine Pa λno=>?_;have n1:ι x≠ι y:=λw=>no (.inl (B e1 e2 w));have n2:ι y≠ι z:=λw=>no (.inr (.inl (B e2 e3 w)));have n3:ι x≠ι z:=λw=>no (.inr (.inr (B e1 e3 w)));exact wa (lk e1) (lk e2) (lk e3) (g4.FR _ (O6.mpr ⟨u,hu,rfl⟩)) n1 n3 n2
 .exact B e1 e2 (BX (lk e1) (lk e2) hd)
 rcases g5 p hp with w|⟨x,hx,nx,ex,c⟩
 .exact .inl λx ex=>w x (D p x ex).2 ex
 obtain⟨k1,k2,k3,n12,n23,n13,m1,m2,m3⟩:=CC (O.BW (ι x)) c;obtain⟨b1,hb1,rfl,e1⟩:=(h.lk x hx _).mp m1;obtain⟨b2,HG,rfl,e2⟩:=(h.lk x hx _).mp m2;obtain⟨b3,hb3,rfl,e3⟩:=(h.lk x hx _).mp m3;exact .inr ⟨x,nx,ex,b1,b2,b3,λz=>n12 (by rw[z]),λz=>n23 (by rw[z]),λz=>n13 (by rw[z]),e1,e2,e3⟩
end
section
variable {rs:List Int}
def hV(rs:List Int)(K:bb->Prop)(p:bb):Prop:=∀z B,Ed (UT rs) (FZ K) (.inl p) z->Ed (UT rs) (FZ K) (.inl p) B->z=B
theorem EL(fit:bc rs):qQ rs (·∈KN rs):=λp z=>⟨jd z,((uL fit).mp z).1⟩
theorem sr(fit:bc rs){p:bb}(H:p∈KN rs):(dg (cx rs) (pN p)).length<=1↔hV rs (·∈KN rs) p:=by
 obtain⟨root,T⟩:=kZ fit;have C:=bI (dD fit).p;have R:=(so fit).1;have z:(.inl p:jD)∈VT rs:=jT _ ⟨p,H,rfl⟩;have lk:∀{b:jD},LR rs (.inl p) b->gI (CH rs) b∈dg (cx rs) (pN p):=λ{b} w=>(R.lk _ z _).mpr ⟨b,(Ed.kj T w).2,rfl,w⟩;constructor
 .intro h B D e1 e2;have e1:LR rs (.inl p) B:=e1;have e2:LR rs (.inl p) D:=e2;exact sm C B (Ed.kj T e1).2 D (Ed.kj T e2).2 (BX (lk e1) (lk e2) h)
 intro h;refine Pa λc=>?_;have nd:=R.nd _ z;have nd:(dg (cx rs) (pN p)).Nodup:=nd
 match l:dg (cx rs) (pN p),nd,c with
 |[],_,c=>exact c (Qb _)
 |[_],_,c=>exact c (O5 _)
 |x::y::r,nd,_ =>
  obtain⟨B,V,J,L⟩:=(R.lk _ z x).mp (show x∈dg (cx rs) (pN p) by rw[l];simp);obtain⟨D,Z,M,O⟩:=(R.lk _ z y).mp (show y∈dg (cx rs) (pN p) by rw[l];simp);have:=h B D L O;subst this;exact(Qj.mp nd).1 (by rw[J,<-M];simp)
noncomputable def zG(rs:List Int)(e:bb):Nat:=((dO (cx rs) (pN e)).filter λk=>decide (k∈(KN rs).map pN)).length
theorem yf(fit:bc rs){e:bb}(H:e∈KN rs)(hd:hV rs (·∈KN rs) e)(B:∀f,∃g∈KN rs,g≠e/\g≠f):zG rs e=1↔¬ ∃y,(y∈KN rs/\y≠e)/\¬hV rs (·∈KN rs) y/\hV rs (λk=>k∈KN rs/\k≠e) y:=by
 obtain⟨root,T⟩:=kZ fit;have C:=bI (dD fit).p;obtain⟨O,_,_⟩:=sk fit;have eV:(.inl e:jD)∈VT rs:=jT _ ⟨e,H,rfl⟩;obtain⟨D,u1,u2,P⟩:=HR O (so fit).1 (λa b w=>Ed.kj T w) (sm C) eV ((so fit).2 e H) (show(dg (cx rs) (pN e)).length<=1 from(sr fit H).mpr hd);have u1:dO (cx rs) (pN e)=D.map (gI (CH rs)):=u1;have ke:∀a∈D,(decide (gI (CH rs) a∈(KN rs).map pN)=true↔pQ (KN rs) a):=λa ha=>by rw[U9];exact(wt fit a (u2 a ha)).symm
 have cnt:zG rs e=1↔∀f∈D,pQ (KN rs) f->f=.inl e:=by
  unfold zG;rw[u1,RB,O3];have Kt:=P.hd;have me:(.inl e:jD)∈D:=Pj Kt;have fe:(.inl e:jD)∈D.filter ((λk=>decide (k∈(KN rs).map pN)) ∘ gI (CH rs)):=Pd.mpr ⟨me,(ke _ me).mpr ⟨e,H,rfl⟩⟩;constructor
  .intro h f J V;have ff:f∈D.filter ((λk=>decide (k∈(KN rs).map pN)) ∘ gI (CH rs)):=Pd.mpr ⟨J,(ke f J).mpr V⟩;obtain⟨x,hx⟩:=R5.mp h;rw[hx]at fe ff;rw[O4.mp fe,O4.mp ff]
  intro h;have nd:(D.filter ((λk=>decide (k∈(KN rs).map pN)) ∘ gI (CH rs))).Nodup:=P.nd.sublist Qn
  match l:D.filter ((λk=>decide (k∈(KN rs).map pN)) ∘ gI (CH rs)),nd with
  |[],_=>rw[l]at fe;exact U4 fe Pf
  |[_],_=>rfl
  |x::y::r,nd =>
   have hx:x∈D.filter ((λk=>decide (k∈(KN rs).map pN)) ∘ gI (CH rs)):=by rw[l];simp
   have hy:y∈D.filter ((λk=>decide (k∈(KN rs).map pN)) ∘ gI (CH rs)):=by rw[l];simp
   obtain⟨x1,x2⟩:=Pd.mp hx;obtain⟨y1,y2⟩:=Pd.mp hy;have ex:=h x x1 ((ke x x1).mp x2);have ey:=h y y1 ((ke y y1).mp y2);exact U4 (show x∈y::r by rw[ex,<-ey];simp) (Qj.mp nd).1
 have BI:(λk:jD=>pQ (KN rs) k/\k≠.inl e)=FZ (λk=>k∈KN rs/\k≠e):=by
  funext k;apply propext;constructor
  .rintro⟨⟨p,Z,rfl⟩,ne⟩;exact⟨p,⟨Z,λz=>ne (by rw[z])⟩,rfl⟩
  rintro⟨p,⟨Z,ne⟩,rfl⟩;exact⟨⟨p,Z,rfl⟩,λz=>ne (by injection z)⟩
 rw[cnt];constructor
 .rintro h ⟨y,⟨y1,y2⟩,y3,y4⟩;have two:∃L M,L≠M/\Ed (UT rs) (pQ (KN rs)) (.inl y) L/\Ed (UT rs) (pQ (KN rs)) (.inl y) M:=Pa λno=>y3 λL M e1 e2=>Pa λne=>no ⟨L,M,ne,e1,e2⟩;obtain⟨f,J,V,nf⟩:=EJ T jT P ⟨e,H,rfl⟩ (y:=.inl y) ⟨y,y1,rfl⟩ (λz=>y2 (by injection z)) two (by rw[BI];exact y4);exact nf (h f J V)
 intro h f J V;refine Pa λnf=>h ?_;obtain⟨y,⟨⟨p,Z,rfl⟩,ye⟩,two,one⟩:=EI T jT P ⟨e,H,rfl⟩ J V nf (λf=>by
  cases f with
  |inl p =>
   obtain⟨g,g1,g2,g3⟩:=B p;exact⟨.inl g,⟨g,g1,rfl⟩,λz=>g2 (by injection z),λz=>g3 (by injection z)⟩
  |inr q =>
   obtain⟨g,g1,g2,_⟩:=B e;exact⟨.inl g,⟨g,g1,rfl⟩,λz=>g2 (by injection z),λz=>by cases z⟩)
 rw[BI]at one;obtain⟨L,M,nb,e1,e2⟩:=two;exact⟨p,⟨Z,λz=>ye (by rw[z])⟩,λw=>nb (w L M e1 e2),one⟩
theorem CD(fit:bc rs){a b:bb}(B:a∈KN rs)(D:b∈KN rs)(ne:a≠b):∃p q,p≠q/\p∈KN rs/\q∈KN rs/\hV rs (·∈KN rs) p/\hV rs (·∈KN rs) q:=by
 obtain⟨root,T⟩:=kZ fit;obtain⟨p,q,H,⟨J,L,rfl⟩,⟨M,O,rfl⟩,V,Z⟩:=CB T jT (K:=pQ (KN rs)) (a:=.inl a) (b:=.inl b) ⟨a,B,rfl⟩ ⟨b,D,rfl⟩ (λz=>ne (by injection z));exact⟨J,M,λz=>H (by rw[z]),L,O,V,Z⟩
end
noncomputable def EM(c:List Int)(x:Int):List Int:=if c.getLast?=YN x then c else c++[x]
noncomputable def cp(l:List Int):List Int:=l.foldl EM []
theorem su(l:List Int)(x:Int):cp (l++[x])=EM (cp l) x:=by unfold cp;rw[R7];rfl
noncomputable def vo(l:List Int):List Int:=if 1<(cp l).length/\(cp l).head?=(cp l).getLast? then(cp l).dropLast else cp l
def yg(l:List Int)(x:Int):Prop:=(vo l).count x=1
def wu(l:List Int)(x:Int):Prop:=∃(D z B H:Nat) (a b c d:Int),D<z/\z<B/\B<H/\l[D]?=YN a/\l[z]?=YN b/\l[B]?=YN c/\l[H]?=YN d/\((a=x/\b≠x/\c=x/\d≠x)\/(a≠x/\b=x/\c≠x/\d=x))
structure CpI(l c:List Int) (φ:Nat->Nat):Prop where
 mono:∀i j,i<=j->j<l.length->φ i<=φ j
 at':∀i,i<l.length->c[φ i]?=l[i]?
 EN:∀m,m<c.length->∃i,i<l.length/\φ i=m
 nD:∀(i:Nat) (a b:Int),c[i]?=YN a->c[i+1]?=YN b->a≠b
theorem wx:∀l:List Int,∃φ,CpI l (cp l) φ:=by
 refine fS (P:=λl=>∃φ,CpI l (cp l) φ) ⟨λi=>i,⟨λ_ _ _ h=>U4 h (QU _),λ_ h=>U4 h (QU _),λ_ h=>U4 h (QU _),λi a b h=>by simp[cp]at h⟩⟩ ?_;intro l x ⟨φ,I⟩;have lt:∀i,i<l.length->φ i<(cp l).length:=λi hi=>by
  have:=I.at' i hi;rw[O1 hi]at this;exact(O2.mp this).1
 rw[su];have J:(l++[x]).length=l.length+1:=by rw[O9];rfl
 unfold EM;by_cases c:(cp l).getLast?=YN x
 .rw[UZ c];have M:0<(cp l).length:=by
   cases e:cp l with
   |nil=>rw[e]at c;cases c
   |cons y r=>exact SE _
  refine⟨λi=>if i<l.length then φ i else(cp l).length-1,⟨λi j B D=>?_,λi hi=>?_,λm H=>?_,I.nD⟩⟩
  .show(if i<l.length then φ i else _)<=(if j<l.length then φ j else _);by_cases a:j<l.length
   .rw[UZ a,UZ (by omega)];exact I.mono i j B a
   rw[UX a];by_cases b:i<l.length
   .rw[UZ b];have:=lt i b;omega
   rw[UX b];exact O5 _
  .show(cp l)[if i<l.length then φ i else _]?=_;by_cases a:i<l.length
   .rw[UZ a,Pk a];exact I.at' i a
   rw[J]at hi;rw[UX a,Pg (by omega),show i-l.length=0 by omega,<-PV,c]
   rfl
  obtain⟨i,hi,e⟩:=I.EN m H;exact⟨i,by omega,by show(if i<l.length then φ i else _)=m;rw[UZ hi];exact e⟩
 rw[UX c];refine⟨λi=>if i<l.length then φ i else(cp l).length,⟨λi j B D=>?_,λi hi=>?_,λm H=>?_,λi a b B D=>?_⟩⟩
 .show(if i<l.length then φ i else _)<=(if j<l.length then φ j else _);by_cases a:j<l.length
  .rw[UZ a,UZ (by omega)];exact I.mono i j B a
  rw[UX a];by_cases b:i<l.length
  .rw[UZ b];have:=lt i b;omega
  rw[UX b];exact O5 _
 .show(cp l++[x])[if i<l.length then φ i else _]?=_;by_cases a:i<l.length
  .rw[UZ a,Pk a,Pk (lt i a)];exact I.at' i a
  rw[J]at hi;rw[UX a,Pg (O5 _),Pg (show l.length<=i by omega),show i-l.length=0 by omega,QE]
 .rw[O9,PZ]at H;by_cases z:m<(cp l).length
  .obtain⟨i,hi,e⟩:=I.EN m z;exact⟨i,by omega,by show(if i<l.length then φ i else _)=m;rw[UZ hi];exact e⟩
  exact⟨l.length,by omega,by show(if l.length<l.length then _ else _)=m;rw[UX (Rh _)];omega⟩
 have L:=(O2.mp D).1;rw[O9,PZ]at L;rw[Pk (by omega)]at B;by_cases z:i+1<(cp l).length
 .rw[Pk z]at D;exact I.nD i a b B D
 rw[Pg (by omega),show i+1-(cp l).length=0 by omega]at D;cases D;intro e;subst e;apply c;rw[PV,show(cp l).length-1=i by omega];exact B
theorem HS{l:List Int}{x:Int}:wu l x↔wu (cp l) x:=by
 obtain⟨φ,I⟩:=wx l;have H:∀{i:Nat}{a:Int},l[i]?=YN a->i<l.length:=λh=>(O2.mp h).1;have str:∀{i j:Nat}{a b:Int},i<j->l[i]?=YN a->l[j]?=YN b->a≠b->φ i<φ j:=λ{i j a b} D B J ne=>by
  have m:=I.mono i j (by omega) (H J);have e1:=I.at' i (H B);have e2:=I.at' j (H J);rcases Nat.lt_or_eq_of_le m with h|h
  .exact h
  rw[h,e2,B,J]at e1;exact U4 (Option.some.inj e1).symm ne
 constructor
 .rintro⟨M,O,V,Z,a,b,c,d,l1,l2,l3,e1,e2,e3,L,h⟩;refine⟨φ M,φ O,φ V,φ Z,a,b,c,d,?_,?_,?_,by rw[I.at' _ (H e1)];exact e1,by rw[I.at' _ (H e2)];exact e2,by rw[I.at' _ (H e3)];exact e3,by rw[I.at' _ (H L)];exact L,h⟩
  .exact str l1 e1 e2 (by rcases h with⟨D,B,_⟩|⟨D,B,_⟩ <;> omega)
  .exact str l2 e2 e3 (by rcases h with⟨_,D,B,_⟩|⟨_,D,B,_⟩ <;> omega)
  exact str l3 e3 L (by rcases h with⟨_,_,D,B⟩|⟨_,_,D,B⟩ <;> omega)
 rintro⟨m1,m2,m3,m4,a,b,c,d,l1,l2,l3,e1,e2,e3,L,h⟩;have pre:∀{m:Nat}{a:Int},(cp l)[m]?=YN a->∃i,i<l.length/\φ i=m/\l[i]?=YN a:=λ{m a} e=>by
  obtain⟨i,hi,em⟩:=I.EN m (O2.mp e).1;exact⟨i,hi,em,by rw[<-I.at' i hi,em];exact e⟩
 have up:∀{i j:Nat},i<l.length->φ i<φ j->i<j:=λ{i j} hi h=>Pa λz=>by
  have:=I.mono j i (by omega) hi;omega
 obtain⟨M,D,f1,g1⟩:=pre e1;obtain⟨O,B,f2,g2⟩:=pre e2;obtain⟨V,J,f3,g3⟩:=pre e3;obtain⟨Z,h4,f4,g4⟩:=pre L;exact⟨M,O,V,Z,a,b,c,d,up D (by omega),up B (by omega),up J (by omega),g1,g2,g3,g4,h⟩
theorem wy{l:List Int}{x:Int}:x∈cp l↔x∈l:=by
 obtain⟨φ,I⟩:=wx l;constructor
 .intro h;obtain⟨m,z⟩:=PD h;obtain⟨i,hi,e⟩:=I.EN m (O2.mp z).1;rw[<-e,I.at' i hi]at z;exact Pj z
 intro h;obtain⟨i,hi⟩:=PD h;have:=I.at' i (O2.mp hi).1;rw[hi]at this;exact Pj this
theorem mq{x:Int}:∀{l:List Int},x∈l->1<=l.count x:=λ{l} h=>R3.mpr h
theorem mr{x:Int}:∀{l:List Int},2<=l.count x↔∃i j:Nat,i<j/\l[i]?=YN x/\l[j]?=YN x
 |[]=>⟨λh=>by simp at h,λ⟨i,j,_,h,_⟩=>by simp at h⟩
 |y::r=>by
  by_cases e:y=x
  .subst e;rw[List.count_cons_self];constructor
   .intro h;have:y∈r:=R3.mp (by omega);obtain⟨j,J⟩:=PD this;exact⟨0,j+1,by omega,rfl,J⟩
   rintro⟨i,j,h,B,D⟩;obtain⟨j,rfl⟩:∃H,j=H+1:=⟨j-1,by omega⟩
   have:y∈r:=Pj (show r[j]?=YN y from D);have:=mq this;omega
  rw[List.count_cons_of_ne (λz=>e z),mr];constructor
  .rintro⟨i,j,h,B,D⟩;exact⟨i+1,j+1,by omega,B,D⟩
  rintro⟨i,j,h,B,D⟩;obtain⟨j,rfl⟩:∃H,j=H+1:=⟨j-1,by omega⟩
  cases i with
  |zero=>exact U4 (Option.some.inj B) e
  |succ i=>exact⟨i,j,by omega,B,D⟩
theorem wA{l:List Int}{x:Int}(h:yg l x):x∈l:=by
 unfold yg at h;have:x∈vo l:=R3.mp (by omega);refine wy.mp ?_;unfold vo at this
 split at this
 .exact(List.dropLast_sublist _).subset this
 exact this
theorem HU{l:List Int}{x:Int}(hx:x∈l):yg l x↔¬wu l x:=by
 rw[HS];obtain⟨φ,I⟩:=wx l;have xc:=wy.mpr hx;unfold yg vo;have nD:=I.nD;clear I;generalize cp l=c at *;have lt:∀{i:Nat}{a:Int},c[i]?=YN a->i<c.length:=λh=>(O2.mp h).1;by_cases cs:1<c.length/\c.head?=c.getLast?
 .rw[UZ cs];obtain⟨c1,c2⟩:=cs;have c0:=O1 (l:=c) (i:=0) (by omega);have cl:=O1 (l:=c) (i:=c.length-1) (by omega);rw[Rv,PV]at c2;have H:∀i,i<c.length-1->c.dropLast[i]?=c[i]?:=λi hi=>by rw[List.dropLast_eq_take,QV,UZ hi]
  have dl:c.dropLast.length=c.length-1:=Sm;have mem:x∈c.dropLast:=by
   obtain⟨i,hi⟩:=PD xc;by_cases z:i<c.length-1
   .exact Pj (by rw[H i z];exact hi)
   have:=lt hi;have e:i=c.length-1:=by omega
   subst e;rw[<-c2]at hi;exact Pj (by rw[H 0 (by omega)];exact hi)
  have pos:=mq mem;have key:2<=c.dropLast.count x↔wu c x:=by
   rw[mr];constructor
   .rintro⟨i,j,ij,D,B⟩;have j1:=(O2.mp B).1;rw[dl]at j1;rw[H i (by omega)]at D;rw[H j j1]at B;have L:=O1 (l:=c) (i:=i+1) (by omega);have V:=nD i x _ D L;have ne:i+1≠j:=λz=>nD i x x D (by rw[z];exact B) rfl;have M:=O1 (l:=c) (i:=j+1) (by omega);have d2:=nD j x _ B M;exact⟨i,i+1,j,j+1,_,_,_,_,by omega,by omega,by omega,D,L,B,M,.inl ⟨rfl,Ne.symm V,rfl,Ne.symm d2⟩⟩
   rintro⟨i1,Z,i3,O,a,b,e,d,l1,l2,l3,e1,e2,e3,J,⟨rfl,B,rfl,h4⟩|⟨D,rfl,h3,rfl⟩⟩
   .have:=lt J;exact⟨i1,i3,by omega,by rw[H _ (by omega)];exact e1,by rw[H _ (by omega)];exact e3⟩
   have:=lt J;by_cases z:O<c.length-1
   .exact⟨Z,O,by omega,by rw[H _ (by omega)];exact e2,by rw[H _ z];exact J⟩
   have e:O=c.length-1:=by omega
   subst e;rw[<-c2]at J;exact⟨0,Z,by omega,by rw[H _ (by omega)];exact J,by rw[H _ (by omega)];exact e2⟩
  rw[<-key];omega
 rw[UX cs];have pos:=mq xc;have key:2<=c.count x↔wu c x:=by
  rw[mr];constructor
  .rintro⟨i,j,ij,D,B⟩;have jl:=lt B;have L:=O1 (l:=c) (i:=i+1) (by omega);have V:=nD i x _ D L;have ne:i+1≠j:=λz=>nD i x x D (by rw[z];exact B) rfl;by_cases z:j+1<c.length
   .have M:=O1 z;have d2:=nD j x _ B M;exact⟨i,i+1,j,j+1,_,_,_,_,by omega,by omega,by omega,D,L,B,M,.inl ⟨rfl,Ne.symm V,rfl,Ne.symm d2⟩⟩
   by_cases z0:i=0
   .exfalso;subst z0;apply cs;refine⟨by omega,?_⟩;rw[Rv,PV,D,show c.length-1=j by omega,B]
   have n0:=O1 (l:=c) (i:=i-1) (by omega);have d0:=nD (i-1) _ x n0 (by rw[show i-1+1=i by omega];exact D);exact⟨i-1,i,i+1,j,_,_,_,_,by omega,by omega,by omega,n0,D,L,B,.inr ⟨d0,rfl,Ne.symm V,rfl⟩⟩
  rintro⟨i1,Z,i3,O,a,b,e,d,l1,l2,l3,e1,e2,e3,J,⟨rfl,B,rfl,h4⟩|⟨D,rfl,h3,rfl⟩⟩
  .exact⟨i1,i3,by omega,e1,e3⟩
  exact⟨Z,O,by omega,e2,J⟩
 rw[<-key];omega
theorem EO{xs:List Nat}(asc:xs.Pairwise (· < ·)){f:Nat->Int}{x:Int}:wu (xs.map f) x↔∃a b c d,a<b/\b<c/\c<d/\a∈xs/\b∈xs/\c∈xs/\d∈xs/\((f a=x/\f b≠x/\f c=x/\f d≠x)\/(f a≠x/\f b=x/\f c≠x/\f d=x)):=by
 have g:∀{i j:Nat}{a b:Nat},xs[i]?=YN a->xs[j]?=YN b->(i<j↔a<b):=λ{i j a b} h1 h2=>by
  have D:=(O2.mp h1)
  have H:=(O2.mp h2)
  obtain⟨Z,M⟩:=D;obtain⟨p2,O⟩:=H;rcases RH i j with h|h|h
  .have:=Pz.mp asc i j Z p2 h;rw[M,O]at this;exact⟨λ_=>this,λ_=>h⟩
  .subst h;rw[M]at O;omega
  have:=Pz.mp asc j i p2 Z h;rw[M,O]at this;omega
 constructor
 .rintro⟨i1,i2,i3,i4,a,b,c,d,D,H,V,e1,e2,e3,e4,h⟩;rw[O7]at e1 e2 e3 e4;obtain⟨a',J,rfl⟩:=Pl.mp e1;obtain⟨b',z,rfl⟩:=Pl.mp e2;obtain⟨c',B,rfl⟩:=Pl.mp e3;obtain⟨d',L,rfl⟩:=Pl.mp e4;exact⟨a',b',c',d',(g J z).mp D,(g z B).mp H,(g B L).mp V,Pj J,Pj z,Pj B,Pj L,h⟩
 rintro⟨a,b,c,d,D,H,V,m1,m2,m3,m4,h⟩;obtain⟨i1,J⟩:=PD m1;obtain⟨i2,z⟩:=PD m2;obtain⟨i3,B⟩:=PD m3;obtain⟨i4,L⟩:=PD m4;exact⟨i1,i2,i3,i4,f a,f b,f c,f d,(g J z).mpr D,(g z B).mpr H,(g B L).mpr V,by rw[O7,J];rfl,by rw[O7,z];rfl,by rw[O7,B];rfl,by rw[O7,L];rfl,h⟩
open Classical in
noncomputable def qR(rs:List Int)(K:bb->Prop):List Nat:=(PX (2*rs.length+2)).filter λx=>isOpen (aw rs) (x/2)&&decide (K (ow (aw rs) (x/2)))
structure uN(rs:List Int) (f:Nat->Int):Prop where
 iff:∀x y,x<2*rs.length+2->y<2*rs.length+2->(f x=f y↔ow (aw rs) (x/2)=ow (aw rs) (y/2))
open Classical in
noncomputable def CF(l z:List Int):Int:=if∃h∈z,∀x,yg (l.filter λy=>decide (y≠h)) x->x∈z then(z.length:Int)else((z.length+z.length%2:Nat):Int)
section
variable {rs:List Int}{K:bb->Prop}{f:Nat->Int}
open Classical in
theorem fO{x:Nat}:x∈qR rs K↔x<2*rs.length+2/\isOpen (aw rs) (x/2)=true/\K (ow (aw rs) (x/2)):=by
 unfold qR;rw[Pd,Px,PY,U9]
theorem ER:(qR rs K).Pairwise (· < ·):=QG.sublist Qn
noncomputable def je(f:Nat->Int)(p:bb):Int:=f (2*p.1.toNat)
theorem qS(fit:bc rs){p:bb}(z:p∈KI rs):p.1.toNat<rs.length+1/\ow (aw rs) p.1.toNat=p:=by
 have B:=dD fit;have D:=B.j4 p z;have ps:=B.p.pos p z;have lt:p.1.toNat<rs.length+1:=by omega
 refine⟨lt,(iB fit lt).uniq B.p.asc ⟨z,by omega,by omega,λq _ h _=>by omega⟩⟩
theorem fP(fit:bc rs)(F:uN rs f){p:bb}(z:p∈KI rs){x:Nat}(B:x<2*rs.length+2):f x=je f p↔ow (aw rs) (x/2)=p:=by
 obtain⟨H,D⟩:=qS fit z;unfold je;rw[F.iff x _ B (by omega),show 2*p.1.toNat/2=p.1.toNat by omega,D]
theorem ES(fit:bc rs)(F:uN rs f){p q:bb}(z:p∈KI rs)(B:q∈KI rs)(e:je f p=je f q):p=q:=by
 obtain⟨H,D⟩:=qS fit z;have:=(fP fit F B (x:=2*p.1.toNat) (by omega)).mp e;rw[show 2*p.1.toNat/2=p.1.toNat by omega,D]at this;exact this
theorem ET(fit:bc rs)(F:uN rs f){p:bb}(O:p∈KI rs):wu ((qR rs K).map f) (je f p)↔HP rs K p:=by
 rw[EO ER];constructor
 .rintro⟨a,b,c,d,l1,l2,l3,m1,m2,m3,m4,h⟩;obtain⟨V,a2,a3⟩:=fO.mp m1;obtain⟨Z,b2,b3⟩:=fO.mp m2;obtain⟨c1,c2,c3⟩:=fO.mp m3;obtain⟨d1,d2,d3⟩:=fO.mp m4;have fa:=fP fit F O V;have J:=fP fit F O Z;have L:=fP fit F O c1;have fd:=fP fit F O d1;have str:∀{x y:Nat},x<y->x/2≠y/2->x/2<y/2:=λD B=>by omega
  refine⟨a/2,b/2,c/2,d/2,str l1 (λz=>?_),str l2 (λz=>?_),str l3 (λz=>?_),⟨by omega,a2,a3⟩,⟨by omega,b2,b3⟩,⟨by omega,c2,c3⟩,⟨by omega,d2,d3⟩,?_⟩
  .rw[z]at fa;rcases h with⟨D,B,_⟩|⟨D,B,_⟩
   .exact B (J.mpr (fa.mp D))
   exact D (fa.mpr (J.mp B))
  .rw[z]at J;rcases h with⟨_,D,B,_⟩|⟨_,D,B,_⟩
   .exact D (J.mpr (L.mp B))
   exact B (L.mpr (J.mp D))
  .rw[z]at L;rcases h with⟨_,_,D,B⟩|⟨_,_,D,B⟩
   .exact B (fd.mpr (L.mp D))
   exact D (L.mpr (fd.mp B))
  rcases h with⟨D,B,H,M⟩|⟨D,B,H,M⟩
  .exact .inl ⟨fa.mp D,λz=>B (J.mpr z),L.mp H,λz=>M (fd.mpr z)⟩
  exact .inr ⟨λz=>D (fa.mpr z),J.mp B,λz=>H (L.mpr z),fd.mp M⟩
 rintro⟨y1,y2,y3,y4,l1,l2,l3,⟨V,a2,a3⟩,⟨Z,b2,b3⟩,⟨c1,c2,c3⟩,⟨d1,d2,d3⟩,h⟩;have m:∀{y:Nat},y<rs.length+1->isOpen (aw rs) y=true->K (ow (aw rs) y)->2*y∈qR rs K:=λ{y} D B H=>fO.mpr ⟨by omega,by rw[show 2*y/2=y by omega];exact B,by rw[show 2*y/2=y by omega];exact H⟩;have g:∀{y:Nat},y<rs.length+1->(f (2*y)=je f p↔ow (aw rs) y=p):=λ{y} hy=>by
  have:=fP fit F O (x:=2*y) (by omega);rwa[show 2*y/2=y by omega]at this
 refine⟨2*y1,2*y2,2*y3,2*y4,by omega,by omega,by omega,m V a2 a3,m Z b2 b3,m c1 c2 c3,m d1 d2 d3,?_⟩;rcases h with⟨D,B,H,M⟩|⟨D,B,H,M⟩
 .exact .inl ⟨(g V).mpr D,λz=>B ((g Z).mp z),(g c1).mpr H,λz=>M ((g d1).mp z)⟩
 exact .inr ⟨λz=>D ((g V).mp z),(g Z).mpr B,λz=>H ((g c1).mp z),(g d1).mpr M⟩
theorem wB(fit:bc rs)(F:uN rs f)(H:qQ rs K){p:bb}(z:K p):yg ((qR rs K).map f) (je f p)↔hV rs K p:=by
 obtain⟨J,y,O,M,L⟩:=H p z;have mem:je f p∈(qR rs K).map f:=by
  refine O6.mpr ⟨2*y,fO.mpr ⟨by omega,?_,?_⟩,?_⟩
  .rw[show 2*y/2=y by omega];exact M
  .rw[show 2*y/2=y by omega,L];exact z
  exact(fP fit F J (by omega)).mpr (by rw[show 2*y/2=y by omega];exact L)
 rw[HU mem,ET fit F J,EF fit H z];constructor
 .intro h B D e1 e2;exact Pa λne=>h ⟨B,D,ne,e1,e2⟩
 rintro h ⟨B,D,ne,e1,e2⟩;exact ne (h B D e1 e2)
theorem yh(fit:bc rs)(F:uN rs f){v:Int}(h:v∈(qR rs K).map f):∃p,K p/\p∈KI rs/\v=je f p:=by
 obtain⟨x,z,rfl⟩:=O6.mp h;obtain⟨B,H,D⟩:=fO.mp z;have o:=iB fit (g:=x/2) (by omega);exact⟨_,D,o.kin,(fP fit F o.kin B).mpr rfl⟩
open Classical in
theorem CG(fit:bc rs)(F:uN rs f){e:bb}(M:e∈KI rs){K':bb->Prop}(L:∀k,K' k↔K k/\k≠e):((qR rs K).map f).filter (λy=>decide (y≠je f e))=(qR rs K').map f:=by
 rw[RB];congr 1;unfold qR;rw[List.filter_filter];refine R8 λx H=>?_;have H:=Px.mp H;have:=fP fit F M H;rw[QA];constructor
 .intro h;obtain⟨D,B⟩:=(PY _ _).mp h;obtain⟨B,J⟩:=(PY _ _).mp B;have D:f x≠je f e:=@of_decide_eq_true _ _ D;have J:K (ow (aw rs) (x/2)):=@of_decide_eq_true _ _ J;exact(PY _ _).mpr ⟨B,UU ((L _).mpr ⟨J,λz=>D (this.mpr z)⟩)⟩
 intro h;obtain⟨D,B⟩:=(PY _ _).mp h;have B:=(L _).mp (U6 B);exact(PY _ _).mpr ⟨UU (λz=>B.2 (this.mp z)),(PY _ _).mpr ⟨D,UU B.1⟩⟩
theorem bS(fit:bc rs){p:bb}:p∈bE (cx rs) (KN rs)↔p∈KN rs/\hV rs (·∈KN rs) p:=by
 unfold bE;rw[Pd,PY,U9,U9];constructor
 .rintro⟨z,_,B⟩;exact⟨z,(sr fit z).mp B⟩
 rintro⟨z,D⟩;exact⟨z,(so fit).2 p z,(sr fit z).mpr D⟩
theorem CI(fit:bc rs)(F:uN rs f){H:List Int}(asc:H.Pairwise (· < ·))(mem:∀x,x∈H↔yg ((qR rs (·∈KN rs)).map f) x):CF ((qR rs (·∈KN rs)).map f) H=jJ (eE rs):=by
 have G:=EL fit;have zH:(bE (cx rs) (KN rs)).Nodup:=by
  unfold bE;exact(oO (oQ fit).1).sublist Qn
 have D:∀p∈KN rs,(je f p∈H↔hV rs (·∈KN rs) p):=λp J=>by rw[mem];exact wB fit F G J
 have hex:∀x∈H,∃p∈bE (cx rs) (KN rs),x=je f p:=λx O=>by
  obtain⟨p,L,V,rfl⟩:=yh fit F (wA ((mem x).mp O));exact⟨p,(bS fit).mpr ⟨L,(D p L).mp O⟩,rfl⟩
 have ll:(eE rs).length=(bE (cx rs) (KN rs)).length:=by unfold eE;rw[O3]
 have len:H.length=(bE (cx rs) (KN rs)).length:=by
  refine Sv ?_ ?_
  .rw[<-O3 (as:=bE (cx rs) (KN rs)) (f:=je f)];refine eN (asc.imp λh e=>by omega) λx O=>?_;obtain⟨p,J,rfl⟩:=hex x O;exact O6.mpr ⟨p,J,rfl⟩
  rw[<-O3 (as:=bE (cx rs) (KN rs)) (f:=je f)];refine eN ?_ λx O=>?_
  .unfold List.Nodup at zH⊢;rw[Qa,Pz];rw[Pz]at zH;intro i j hi hj JZ z;exact zH i j hi hj JZ (ES fit F (jd ((bS fit).mp (PU hi)).1) (jd ((bS fit).mp (PU hj)).1) z)
  obtain⟨p,J,rfl⟩:=O6.mp O;obtain⟨L,V⟩:=(bS fit).mp J;exact(D p L).mpr V
 have new:∀e∈KN rs,((∀x,yg (((qR rs (·∈KN rs)).map f).filter λy=>decide (y≠je f e)) x->x∈H)↔¬ ∃y,(y∈KN rs/\y≠e)/\¬hV rs (·∈KN rs) y/\hV rs (λk=>k∈KN rs/\k≠e) y):=λe B=>by
  have G':qQ rs (λk=>k∈KN rs/\k≠e):=λp J=>G p J.1;rw[CG fit F (jd B) (K':=λk=>k∈KN rs/\k≠e) (λk=>UP)];constructor
  .rintro h ⟨y,hy,n,o⟩;exact n ((D y hy.1).mp (h _ ((wB fit F G' hy).mpr o)))
  intro h x O;obtain⟨y,hy,yk,rfl⟩:=yh fit F (wA O);refine(D y hy.1).mpr (Pa λn=>h ⟨y,hy,n,(wB fit F G' hy).mp O⟩)
 have Z:(∃h∈H,∀x,yg (((qR rs (·∈KN rs)).map f).filter λy=>decide (y≠h)) x->x∈H)↔∃e∈bE (cx rs) (KN rs),¬ ∃y,(y∈KN rs/\y≠e)/\¬hV rs (·∈KN rs) y/\hV rs (λk=>k∈KN rs/\k≠e) y:=by
  constructor
  .rintro⟨h,hh,w⟩;obtain⟨p,J,rfl⟩:=hex h hh;exact⟨p,J,(new p ((bS fit).mp J).1).mp w⟩
  rintro⟨e,B,w⟩;obtain⟨L,V⟩:=(bS fit).mp B;exact⟨je f e,(D e L).mpr V,(new e L).mpr w⟩
 have legs:(1:Int)∈eE rs↔∃e∈bE (cx rs) (KN rs),zG rs e=1:=by
  unfold eE;rw[O6];constructor
  .rintro⟨e,B,z⟩;have z:((zG rs e:Nat):Int)=1:=z;exact⟨e,B,by omega⟩
  rintro⟨e,B,z⟩;refine⟨e,B,?_⟩;show((zG rs e:Nat):Int)=1;omega
 unfold CF jJ;rw[ll,<-len];have ady:=len;generalize hN:H.length=N at *;by_cases ev:N%2=1
 .by_cases one:1<N
  .have M:∀e∈bE (cx rs) (KN rs),∀g,∃q∈KN rs,q≠e/\q≠g:=λe B g=>Pa λno=>by
    have:=eN (xs:=bE (cx rs) (KN rs)) (ys:=[e,g]) zH λq hq=>Pa λz=>no ⟨q,((bS fit).mp hq).1,λw=>z (by rw[w];simp),λw=>z (by rw[w];simp)⟩;have:(bE (cx rs) (KN rs)).length<=2:=this;omega
   have eq:(∃h∈H,∀x,yg (((qR rs (·∈KN rs)).map f).filter λy=>decide (y≠h)) x->x∈H)↔(1:Int)∈eE rs:=by
    rw[Z,legs];constructor
    .rintro⟨e,B,w⟩;obtain⟨L,V⟩:=(bS fit).mp B;exact⟨e,B,(yf fit L V (M e B)).mpr w⟩
    rintro⟨e,B,w⟩;obtain⟨L,V⟩:=(bS fit).mp B;exact⟨e,B,(yf fit L V (M e B)).mp w⟩
   by_cases c:(1:Int)∈eE rs
   .rw[UZ (eq.mpr c),UX λz=>z.2.2 c]
   rw[UX (λz=>c (eq.mp z)),UZ ⟨ev,one,c⟩];omega
  have hP:=Z.mpr ?_
  .rw[UZ hP,UX (λz=>one z.2.1)]
  have n1:(bE (cx rs) (KN rs)).length=1:=by omega
  obtain⟨e,hl⟩:=R5.mp n1;refine⟨e,by rw[hl];simp,?_⟩;rintro⟨y,⟨y1,y2⟩,_⟩;have B:=((bS fit).mp (show e∈bE (cx rs) (KN rs) by rw[hl];simp)).1;obtain⟨p,q,pq,p1,q1,p2,q2⟩:=CD fit y1 B y2;have J:=(bS fit).mpr ⟨p1,p2⟩;have hq:=(bS fit).mpr ⟨q1,q2⟩;rw[hl]at J hq;exact pq ((O4.mp J).trans (O4.mp hq).symm)
 by_cases hP:∃h∈H,∀x,yg (((qR rs (·∈KN rs)).map f).filter λy=>decide (y≠h)) x->x∈H
 .rw[UZ hP,UX (λz=>ev z.1)]
 rw[UX hP,UX (λz=>ev z.1),show N+N%2=N by omega]
end
end ay
namespace EU
open PySem
section
variable {xs:Array Nat}{j:Nat}
theorem mu(h:xs.toList.Pairwise (· < ·)){a b:Nat}(B:b<xs.size)(z:a<b):xs.getD a j<xs.getD b j:=by
 have e1:xs.getD a j=xs.toList[a]'(by rw[PM];omega):=by
  rw[Qu,PL (by omega)];rfl
 have e2:xs.getD b j=xs.toList[b]'(by rw[PM];omega):=by
  rw[Qu,PL B];rfl
 rw[e1,e2];exact Pz.mp h a b _ _ z
def Cut(xs:Array Nat)(j r:Nat):Prop:=r<=xs.size/\(∀i,i<r->xs.getD i j<j)/\∀i,r<=i->i<xs.size->j<=xs.getD i j
theorem wC(h:xs.toList.Pairwise (· < ·)):∀(fuel lo hi:Nat),hi-lo<=fuel->lo<=hi->hi<=xs.size->(∀i,i<lo->xs.getD i j<j)->(∀i,hi<=i->i<xs.size->j<=xs.getD i j)->Cut xs j (SetTable.below.go xs j fuel lo hi)
 |0,lo,hi,L,M,B,D,H=>by
  have:lo=hi:=by omega
  subst this;exact⟨B,D,H⟩
 |fuel+1,lo,hi,L,M,B,D,H=>by
  unfold SetTable.below.go;by_cases c:lo<hi
  .rw[UZ c];dsimp only;have J:lo<=(lo+hi)/2:=by omega
   have O:(lo+hi)/2<hi:=by omega
   generalize(lo+hi)/2=mid at J O;by_cases q:xs.getD mid j<j
   .rw[UZ q];refine wC h fuel (mid+1) hi (by omega) (by omega) B (λi hi=>?_) H;by_cases z:i=mid
    .rw[z];exact q
    exact Ug (mu h (by omega) (by omega)) q
   rw[UX q];refine wC h fuel lo mid (by omega) J (by omega) D (λi Z V=>?_);by_cases z:i=mid
   .rw[z];omega
   have:=mu (j:=j) h V (a:=mid) (by omega);omega
  rw[UX c];have:lo=hi:=by omega
  subst this;exact⟨B,D,H⟩
theorem qT(h:xs.toList.Pairwise (· < ·)):Cut xs j (SetTable.below xs j):=by
 unfold SetTable.below;exact wC h _ _ _ (by omega) (by omega) (O5 _) (λi hi=>by omega) (λi z B=>by omega)
theorem Cut.uniq{r q:Nat}(a:Cut xs j r)(b:Cut xs j q):r=q:=by
 refine Sv (Nat.not_lt.mp λz=>?_) (Nat.not_lt.mp λz=>?_)
 .have B:=a.2.1 q z;have D:=b.2.2 q (O5 _) (Qf z a.1);omega
 have B:=b.2.1 r z;have D:=a.2.2 r (O5 _) (Qf z b.1);omega
noncomputable def ahead(xs:Array Nat):Nat->Nat
 |0=>0
 |i+1=>xs.getD i 0+1
theorem uO(h:xs.toList.Pairwise (· < ·)){i:Nat}(hi:i<=xs.size):SetTable.below xs (ahead xs i)=i:=by
 refine(qT h).uniq ⟨hi,λk D=>?_,λk H B=>?_⟩
 .cases i with
  |zero=>omega
  |succ i =>
   have e:xs.getD k (ahead xs (i+1))=xs.getD k 0:=by rw[Qu,Qu,PL (by omega)];rfl
   rw[e];show _<xs.getD i 0+1;by_cases z:k=i
   .rw[z];omega
   have:=mu (j:=0) h (b:=i) (by omega) (a:=k) (by omega);omega
 cases i with
 |zero=>exact Qb _
 |succ i =>
  have e:xs.getD k (ahead xs (i+1))=xs.getD k 0:=by rw[Qu,Qu,PL B];rfl
  rw[e];show xs.getD i 0+1<=_;exact mu (j:=0) h B (by omega)
end
structure Tk(t:V9) (b:Bool):Prop where
 asc:t.place.toList.Pairwise (· < ·)
 NG:t.dummies = #[]
 led:t.led=b
section
variable {t:V9}{b:Bool}
theorem CJ:Tk (.fresh 0 0 b) b:=⟨List.Pairwise.nil,rfl,rfl⟩
theorem iC(h:Tk t b)(n:Nat):Tk (t.standIn n) b:=⟨by show(Array.range n).toList.Pairwise _;rw[Array.toList_range];exact QG,rfl,h.led⟩
theorem Ku(h:Tk t b)(n:Nat):Tk (t.orStandIn n) b:=by
 unfold SetTable.orStandIn
 split
 .exact h
 exact iC h n
theorem CK(h:Tk t b):Tk { t with plain:=false } b:=⟨h.asc,h.NG,h.led⟩
theorem yi(j:Nat):SetTable.has #[] j=false:=rfl
theorem wD(h:t.slot j=.empty):t.place[SetTable.below t.place j]?≠YN j:=λe=>by
 unfold SetTable.slot at h;dsimp only at h;rw[e]at h;simp at h
theorem HV{j:Nat}(h:Tk t b)(O:t.slot j=.empty):Tk (t.put j).1 b:=by
 have C:=qT (j:=j) h.asc;have ne:=wD O;refine⟨?_,?_,h.led⟩
 .show(SetTable.insertAt t.place (SetTable.below t.place j) j).toList.Pairwise _;rw[SetTable.toList_insertAt];generalize SetTable.below t.place j=r at C ne;obtain⟨c1,V,M⟩:=C;have gd:∀(i:Nat) (hi:i<t.place.size),t.place.toList[i]'(by rw[PM];exact hi)=t.place.getD i j:=λi hi=>by
   rw[Qu,PL hi];rfl
  rw[QX];refine⟨h.asc.sublist (SN _ _),SF.mpr ⟨λx H=>?_,h.asc.sublist (List.drop_sublist _ _)⟩,λx H y J=>?_⟩
  .obtain⟨k,L,rfl⟩:=PC H;rw[Ub];have B:r+k<t.place.size:=by rw[Qo,PM]at L;omega
   rw[gd _ B];by_cases z:k=0
   .subst z;have Z:=M r (O5 _) B;have q:=PL (xs:=t.place) (i:=r) B;have h4:t.place.getD r j≠j:=λe=>ne (by
     rw[Qu,q]at e;rw[q];exact congrArg some e)
    show j<t.place.getD (r+0) j;rw[Uj];omega
   have Z:=M r (O5 _) (by omega);have:=mu (j:=j) h.asc B (a:=r) (by omega);omega
  obtain⟨k,L,rfl⟩:=PC H;rw[List.getElem_take];rw[Pw,PM]at L;rw[gd k (by omega)];have h1:=V k (by omega);rcases Pu.mp J with rfl|J
  .exact h1
  obtain⟨m,hm,rfl⟩:=PC J;rw[Ub];have D:r+m<t.place.size:=by rw[Qo,PM]at hm;omega
  rw[gd _ D];exact mu h.asc D (by omega)
 show(if SetTable.has t.dummies j then _ else t.dummies) = #[];rw[h.NG,yi]
 rfl
theorem zI(p:SetTable.Probe):(t.advance p).dummy=p.dummy:=by
 unfold SetTable.advance
 split <;> rfl
theorem mK(hd:t.dummies = #[]){f:Nat->Int}{h:Int}{j:Nat}{d:Option Nat}:∀(fuel:Nat) (p:SetTable.Probe),SetTable.probe.go t f h fuel p=YN (.empty j d)->p.dummy=none->d=none/\t.slot j=.empty
 |0,_,e,_=>by unfold SetTable.probe.go at e;cases e
 |fuel+1,p,e,z=>by
  unfold SetTable.probe.go at e;cases c:t.slot p.j with
  |empty =>
   rw[c]at e;injection e with e;injection e with e1 e2;exact⟨by rw[<-e2,z],by rw[<-e1];exact c⟩
  |dummy =>
   unfold SetTable.slot at c;dsimp only at c;rw[hd,yi]at c
   split at c <;> simp at c
  |live i =>
   rw[c]at e;dsimp only at e
   split at e
   .cases e
   exact mK hd fuel _ e (by rw[zI];exact z)
theorem zJ(h:Tk t b)(z:Array (Int×UW))(k:Int)(x:UW):Tk (layNew t z k x).2.1 b:=by
 unfold layNew;cases c:t.freeSlot k with
 |none=>exact iC h _
 |some q =>
  obtain⟨slot,J⟩:=q;unfold SetTable.freeSlot at c;refine Ku (HV h ?_) _
  split at c
  .next j d B =>
   obtain⟨rfl,D⟩:=mK h.NG _ _ B rfl;injection c with c;injection c with H L;rw[<-H];exact D
  cases c
theorem wF{β:Type}(f:Nat->Option β):∀l:List Nat,((l.filterMap λj=>(f j).map (j,·)).map (·.1)).Sublist l
 |[]=>.slnil
 |a::l=>by
  rw[RS];cases c:f a with
  |none=>exact(wF f l).cons _
  |some v=>exact(wF f l).cons₂ _
theorem CL(h:Tk t b)(B:Array (Int×UW))(n:Nat):Tk (XB t B n).2.1 b:=by
 unfold XB
 split
 .next t' order z =>
  dsimp only
  split
  .unfold SetTable.relaid SetTable.laid at z;obtain⟨owner,_,z⟩:=S0.mp z;injection z with z;injection z with z _;rw[<-z];refine⟨?_,rfl,h.led⟩;exact QG.sublist (wF _ _)
  exact iC h _
 exact iC h _
end
end EU
namespace HW
open PyProof.Rows
theorem oV(val:Nat->Int):∀i,(VJ val i).Nodup/\∀x,x∈VJ val i↔∃j,j<i/\val j=x
 |0=>⟨QK,λx=>⟨λh=>U4 h Pf,λ⟨j,h,_⟩=>U4 h (QU _)⟩⟩
 |i+1=>by
  obtain⟨H,B⟩:=oV val i;rw[XM];unfold step_dedup;have ex:((VJ val i).any (· == val i)=true)↔val i∈VJ val i:=by
   rw[Qv];exact⟨λ⟨x,J,e⟩=>(eq_of_beq e)▸J,λh=>⟨_,h,VA _⟩⟩
  split
  .rename_i c;refine⟨H,λx=>?_⟩;rw[B];constructor
   .rintro⟨j,D,e⟩;exact⟨j,by omega,e⟩
   rintro⟨j,D,e⟩;by_cases q:j=i
   .subst q;exact(B x).mp (by rw[<-e];exact ex.mp c)
   exact⟨j,by omega,e⟩
  rename_i c;have L:val i∉VJ val i:=λz=>c (ex.mpr z);refine⟨?_,λx=>?_⟩
  .rw[QB];exact⟨H,by simp,λa M b O e=>L (by rw[<-O4.mp O,<-e];exact M)⟩
  rw[Po,B,O4];constructor
  .rintro(⟨j,D,e⟩|e)
   .exact⟨j,by omega,e⟩
   exact⟨i,by omega,e.symm⟩
  rintro⟨j,D,e⟩;by_cases q:j=i
  .subst q;exact .inr e.symm
  exact .inl ⟨j,by omega,e⟩
end HW
namespace L2
open PySem PySem.Spec PyProof.Rows
section
variable {X:Cx}
theorem zK(L:X.calm=true):cO X (.type "set") (λxs H Q=>∃(l:U0) (ns:List Int),xs=[.ref l]/\H l=YN (.lst (ns.map V.int))/\ns.length<=1000/\∀(p:U0) (S:Int->Bool) (fs:List Int),H p=none->fs.Nodup->(∀x,x∈fs↔x∈ns)->Q (.ref p) (upd H p (.set S fs.length))):=by
 intro pins s σ H xs us Q I r h;obtain⟨l,ns,rfl,M,h0,q⟩:=h;obtain⟨u,rfl,O⟩:=r.one;cases O;obtain⟨its,D,Z,hz⟩:=I.list (aM.of M);have hi:=intsAre_of D;have len:its.length=ns.length:=by have:=Vals.length D;rw[O3]at this;exact this.symm
 have B:H s.heap.objs.size=none:=I.bj.fresh (O5 _);refine call_set_list (ns:=ns) (I.ok.hd L) Z.isList (by simpa using hi) (by rw[Pe,len];unfold Wj;omega) λh' tk J hk=>?_;have es:its.toArray.size=ns.length:=by rw[Pe,len]
 rw[es]at J;obtain⟨n1,n2⟩:=HW.oV (λi=>ns.getD i 0) ns.length;refine⟨.ref s.heap.objs.size,_,I.laid (a:=s.heap.objs.size) (o:=.set _ (VJ (λi=>ns.getD i 0) ns.length).length) (t':=tk) (λb o e=>hk b o (Pt e) e) (O5 _) J,rfl,q _ _ _ B n1 λx=>?_⟩;rw[n2];constructor
 .rintro⟨j,z,e⟩;rw[Py,O1 z]at e;rw[<-e];exact PU z
 intro hx;obtain⟨j,z,e⟩:=PC hx;exact⟨j,z,by rw[Py,O1 z];exact e⟩
theorem zM:cO X (.builtin "len") (λxs H Q=>∃(p:U0) (S:Int->Bool) (n:Nat),xs=[.ref p]/\H p=YN (.set S n)/\Q (.int n) H):=by
 intro pins s σ H xs V Q I r h;obtain⟨p,S,n,rfl,z,q⟩:=h;obtain⟨u,rfl,B⟩:=r.one;cases B;obtain⟨o,D,ep,t,e,J,hd,Z,h2,L,M,O⟩:=(show bq X.prog X.w H s.heap p (.set S n)from I.bj p _ z)
 refine call_len_set e J hd M (by have:D.size<4096:=L;omega) ?_;rw[O];exact⟨.int n,H,I.tok _,⟨_,rfl⟩,q⟩
end
end L2
namespace EU
open PySem PySem.Spec PyProof.Rows
section
variable {prog:U8}{w:Va}{K:Type}[DecidableEq K](knd:PySem.KeyKind prog w K)
def jV(h:Vi)(a:U0)(S:K->Bool)(n:Nat)(b:Bool):Prop :=
 ∃o z ep t,h.get? a=YN o/\o.ExactSet/\o.data=.set z ep t/\YJ knd z.toList/\(∀k,S k=true↔∃e∈z.toList,knd.is k e.2=true)/\z.size<Wj/\t.fits z.size=true/\z.size=n/\Tk t b
variable {knd}
variable {A:Vh}{E:UW->U2->Prop}{s:U2}{b:Bool}
theorem oW{h:Vi}{a:U0}{o:VH}{M:Array (Int×UW)}{ep:Nat}{t:V9}(O:h.get? a=YN o)(D:o.ExactSet)(hd:o.data=.set M ep t)
  {z:Array (Int×UW)}{t':V9}{J:K->Bool} (H:YJ knd z.toList) (B:∀k,J k=true↔∃e∈z.toList,knd.is k e.2=true) (V:z.size<Wj) (Z:t'.fits z.size=true) (tk:Tk t' b) :
  (h.update a (Obj.putSet z t')).get? a=YN { o with data:=.set z (ep+1) t' }/\jV knd (h.update a (Obj.putSet z t')) a J z.size b:=by
 have L:(h.update a (Obj.putSet z t')).get? a=YN { o with data:=.set z (ep+1) t' }:=by
  have:=Qz (Obj.putSet z t') O (by rw[putSet_of z t' hd];rfl);rw[putSet_of z t' hd]at this;exact this
 exact⟨L,_,z,ep+1,t',L,D,rfl,H,B,V,Z,rfl,tk⟩
theorem Ga {g : Bool -> YM Unit}(hg : ∀ (b : Bool) (J : U2) (Q' : Unit -> U2 -> Prop), Q' () J -> wpAny (model prog w) A (g b) Q' E J)
    {a:U0}{o:VH}{es:Array (Int×UW)}{ep:Nat}{t:V9} (ho:s.heap.get? a=YN o) (hex:o.ExactSet) (hd:o.data=.set es ep t)
    {z:Array (Int×UW)}{D:V9}{S':K->Bool} (L:YJ knd z.toList) (H:∀k',S' k'=true↔ ∃e∈z.toList,knd.is k' e.2=true)
    (O:z.size<Wj) (NH:D.fits z.size=true) (tk:Tk D b) {B:Bool}{R:Option Bool->U2->Prop}
    (h:∀h',Heap.SameBut a s.heap h'->jV knd h' a S' z.size b->R (YN true) { s with heap:=h' }) :
    wpAny (model prog w) A (do
        storeSet a z D
        if (!B&&D.tooFull)=true then do
            g (XB D z (SetTable.grown z.size)).2.2
            storeSet a (XB D z (SetTable.grown z.size)).1 (XB D z (SetTable.grown z.size)).2.1
            pure (YN true)
          else pure (YN true)) R E s:=by
  refine UR (Yb ho hd ?_ (Yc O));obtain⟨ho1,hS1⟩:= oW (knd:=knd) ho hex hd L H O NH tk;have M:=Heap.SameBut.update s.heap a (Obj.putSet z D);have hp:=relayAll_perm D z (SetTable.grown z.size);have V:=relayAll_fits D z (SetTable.grown z.size);have Z:=CL tk z (SetTable.grown z.size);generalize XB D z (SetTable.grown z.size)=Rl at hp V Z⊢;obtain⟨es2,t3,aaV⟩:= Rl;dsimp only at hp V Z⊢
  split
  · have hsz:es2.size=z.size:=by rw[<-PM,hp.length_eq,PM]
    have HG:es2.size<scanBound:=by rw[hsz]; exact O
    refine UR (hg _ _ _ (UR (Yb ho1 rfl ?_ (Yc HG))));obtain⟨_,G6⟩:= oW (knd:=knd) ho1 hex rfl (L.perm hp) (λk'=>(H k').trans ⟨λ⟨e,he,q⟩=>⟨e,hp.mem_iff.mpr he,q⟩,λ⟨e,he,q⟩=>⟨e,hp.mem_iff.mp he,q⟩⟩) HG V Z;rw[hsz]at G6;exact UY (h _ (M.trans (Heap.SameBut.update _ a _)) G6)
  · exact UY (h _ M hS1)
theorem NI{a:U0}{S:K->Bool}{n:Nat}{k:K}{x:UW}{Q:Bool->U2->Prop}(M:knd.is k x=true)(NJ:x.scannable=true)(hS:jV knd s.heap a S n b)
  (Kv:n+1<Wj)
  (h:∀h',Heap.SameBut a s.heap h'->jV knd h' a (λO=>S O||decide (O=k)) (if S k then n else n+1) b->Q (!S k) { s with heap:=h' }) :
  wpAny (model prog w) A (setAddHashed a x (knd.hash k)) Q E s:=by
 obtain⟨o,es,ep,t,ho,hex,hd,tU,H,hb,hf,hn,tk⟩:=hS;have hb1:es.size+1<scanBound:=by rw[hn];exact Kv
 unfold setAddHashed setAddHashedIn;refine Vj (UR (V5 ho hd hf ?_));dsimp only;rw[byScan_of NJ hb tU];simp only[↓reduceIte];unfold setAddByScan;refine UR (UR (VN (UR (wpAny_setScan_of M ho hd hf tU ?_))));cases hr:List.findIdx? (λe=>knd.is k e.2) es.toList with
 |some j =>
  dsimp only;obtain⟨hj,hpj,_⟩:=List.findIdx?_eq_some_iff_getElem.mp hr;have V:S k=true:=(H k).mpr ⟨es.toList[j],PU hj,hpj⟩;refine UY (UY ?_);have e:s={ s with heap:=s.heap }:=by cases s;rfl
  have:=h s.heap (Heap.SameBut.refl a s.heap) ⟨o,es,ep,t,ho,hex,hd,tU,λO=>by
   rw[Tg,decide_eq_true_eq,<-H O];exact⟨λhk=>hk.elim id (λe=>e▸V),.inl⟩,hb,hf,by rw[V];exact hn,tk⟩
  rw[V]at this;rw[e];exact this
 |none =>
  dsimp only;have V:S k=false:=by
   cases hk:S k with
   |false=>rfl
   |true=>obtain⟨e,he,hp⟩:=(H k).mp hk;have:=List.findIdx?_eq_none_iff.mp hr e he;rw[hp]at this;exact Bool.noConfusion this
  have hgw:∀(b:Bool) {D:U2} {Q':Unit->U2->Prop},Q' () D->wpAny (model prog w) A (match b with|true=>rule "set.scan.the-table-gave-way" |false=>pure ()) Q' E D :=
   λb D Q' hq=>by cases b <;> first|exact UY hq|exact VN hq
  have z:=layNew_perm t es (knd.hash k) x;have B:=layNew_fits t es (knd.hash k) x;have Z:=zJ tk es (knd.hash k) x;generalize layNew t es (knd.hash k) x=L at z B Z⊢;obtain⟨CM,t1,Kw,gave⟩:=L;dsimp only at z B Z⊢;rw[Uc]at z;have Kx:YJ knd CM.toList:=(tU.push M NJ).perm z;have Gb:∀O,(S O||decide (O=k))=true↔∃e∈CM.toList,knd.is O e.2=true:=mem_push_iff M H z;have NL:CM.size=n+1:=by rw[<-PM,z.length_eq,O9,PM,hn];rfl
  have Ky:CM.size<scanBound:=by omega
  refine UR (hgw _ ?_);have Kz:∀h',Heap.SameBut a s.heap h'->jV knd h' a (λO=>S O||decide (O=k)) CM.size b->Q true { s with heap:=h' }:=by
   intro h' Gd J;have:=h h' Gd;rw[V]at this;rw[NL]at J;exact this J
  split
  .refine UR ?_;rw[hashByValue_scannable 8 NJ];refine UY ?_;refine Ga (b:=b) ?_ ho hex hd Kx Gb Ky ?_ ?_ ?_
   .intro b D Q' hq;cases b <;> first|exact UY hq|exact VN hq
   .split
    .exact B
    exact SetTable.fits_plain_off B
   .split
    .exact Z
    exact CK Z
   intro h' Gd J;dsimp only;exact UY (Kz h' Gd J)
  refine UR (UY ?_);simp only[↓reduceIte];refine Ga (b:=b) ?_ ho hex hd Kx Gb Ky B Z ?_
  .intro b D Q' hq;cases b <;> first|exact UY hq|exact VN hq
  intro h' Gd J;dsimp only;exact UY (Kz h' Gd J)
theorem wG{h:Vi}{a:U0}{S z:K->Bool}{n B:Nat}(x:jV knd h a S n b)(e:∀k,S k=z k)(D:n=B):jV knd h a z B b:=by
 have:S=z:=funext e;subst this;subst D;exact x
theorem mw{h h':Vi}{a:U0}{S:K->Bool}{n:Nat}(x:jV knd h a S n b)(k:∀o,h.get? a=YN o->h'.get? a=YN o):jV knd h' a S n b:=by
 obtain⟨o,z,ep,t,B,r⟩:=x;exact⟨o,z,ep,t,k _ B,r⟩
end
section
variable {prog:U8}{w:Va}{A:Vh}{R:Yq->U2->Prop}{I:U0}{fp wr:List U0}{G:Array Yn->Array Yn->Prop}{n:Nat}{P:Nat->UW->Prop}{St:Nat->U2->Prop}{b:Bool}
theorem zN(W:WalksS prog w A.in1 I fp wr G n P St)(S:U0)(L:S∉fp)(val:Nat->Int)(M:∀i v,P i v->∃t,v=.int (val i) t)(H:n+1<Wj) :
  ∀(k i:Nat) (s:U2),n-i=k->i<=n->St i s->jV (Wm prog w) s.heap S (λJ=>(VJ val i).any (· == J)) (VJ val i).length b ->
   (∀s',Moved (S::wr) G s s'->jV (Wm prog w) s'.heap S (λJ=>(VJ val n).any (· == J)) (VJ val n).length b->R (.ok (.ret .none)) s') ->
   Wq (model prog w) A (.builtin "set.update.loop" ⟨[.ref S,.ref I],[]⟩) R s:=by
 have O:S∉wr:=λh=>L (W.sub _ h);have z:∀b∈wr,b∈S::wr:=λb H=>Pn _ H;intro k;induction k with
 |zero =>
  intro i s hk hi B hS hR;have KA:i=n:=by omega
  subst KA;refine VO F.entry_set_update_loop ?_;rw[Around.under_plainId F.plain_set_update_loop _];show wpAny _ A.in1 (pyNext (.ref I) >>= _) _ _ s;refine UR (W.done s _ _ B λs' V=>?_);show wpAny _ A.in1 (ret Value.none) _ _ s';exact UY (hR s' (V.mono z) (mw hS λo e=>V.heap S _ O e))
 |succ k ih =>
  intro i s hk hi B hS hR;have Z:i<n:=by omega
  refine VO F.entry_set_update_loop ?_;rw[Around.under_plainId F.plain_set_update_loop _];show wpAny _ A.in1 (pyNext (.ref I) >>= _) _ _ s;refine UR (W.item i s _ _ Z B λv s' hP NM V=>?_);obtain⟨t,rfl⟩:=M i v hP;have JU:=mw hS λo e=>V.heap S _ O e;show wpAny _ A.in1 (Yj [Value.int (val i) t] (setAdd S (.int (val i) t)) >>= _) _ _ s';refine UR (Vj ?_);unfold setAdd;refine Vj (UR ((Wm prog w).pyHash (k:=val i) (intKind_is _ _ _ _) ?_));have D:(VJ val i).length+1<scanBound:=by have:=firstMet_length_le val i;omega
  refine NI (knd:=Wm prog w) (s:={ s' with toks:=s'.toks+1 }) (intKind_is _ _ _ _) rfl JU D λh' Gd G6=>?_;have hSi:jV (Wm prog w) h' S (λJ=>(VJ val (i+1)).any (· == J)) (VJ val (i+1)).length b :=
   wG G6 (λJ=>by rw[XM,step_any]) (by rw[XM,step_length])
  refine UY ⟨VX F.plain_set_update_loop _,ih (i+1) _ (by omega) Z (W.frame _ s' _ _ NM (QO _) λb H o e=>?_) hSi λs'' NN NO=>?_⟩
  .rw[Gd.2 b (λh:b=S=>L (by rw[<-h];exact H))];exact e
  refine hR s'' (Moved.trans W.gtrans ((V.mono z).then_heap (QO _) λb o H e=>?_) NN) NO;rw[Gd.2 b (λh:b=S=>H (by rw[h];exact Pb))];exact e
end
section
variable {prog:U8}{w:Va}{A:Vh}{E:UW->U2->Prop}{s:U2}
noncomputable abbrev mZ(w:Va):Bool:=w.params.followText "set-order"
noncomputable abbrev uP(led:Bool):Obj:={ cls:=.type "set",dict:=none,data:=.set #[] 0 (.fresh 0 0 led) }
theorem zO(a:UW){Q₁:UW->U2->Prop}(h:Q₁ (.ref s.heap.objs.size) { s with heap:=s.heap.push (uP (!mZ w)) }) :
  Wq (model prog w) A (.call (.builtin "set.__new__") ⟨[.type "set",a],[]⟩) (wants Q₁ E) s:=by
 refine codeAny_of_tree ?_;show wpAny _ A.in1 (do checkBuiltinCall "set.__new__" ⟨[.type "set",a],[]⟩;again (.builtin "set.__new__" ⟨[.type "set",a],[]⟩)) _ _ s;refine UR (W7 (PySem.F.newCall_set_1 a) (UY ⟨VX Ti _,VO PySem.F.entry_set_new ?_⟩));rw[Around.under_plainId Ti _];unfold Builtin.«set.__new__» Builtin.Frozenset.newClass;have z:=sub_set_self;obtain⟨B,g,d,D,os⟩:=s;dsimp only
 wp_walk
 refine V8 (UY ?_);dsimp only;simp only[newObj];refine UR (wpAny_alloc (UY ?_));exact UY h
set_option maxHeartbeats 3200000 in
theorem zP{l:U0}{items:Array UW}{ns:List Int}{Q:UW->U2->Prop}(hh:A.handled=none)(hl:s.heap.IsList l items)(hi:W6 items.toList ns)(hb:items.size+1<Wj)
  (h:∀(h':Vi) (tk:Nat),jV (Wm prog w) h' s.heap.objs.size (λk'=>(VJ (λi=>ns.getD i 0) items.size).any (· == k')) (VJ (λi=>ns.getD i 0) items.size).length (!mZ w)->(∀b o,s.heap.get? b=YN o->h'.get? b=YN o)->Q (.ref s.heap.objs.size) { s with heap:=h',toks:=tk }) :
  wpAny (model prog w) A (call (.type "set") [.ref l]) Q E s:=by
 obtain⟨c,tl,adD⟩:=QW.mro;have aaX:=QW.made;have adE:=QW.sub;refine wpAny_call (codeAny_of_tree ?_);show wpAny _ _ (callAny (.type "set") _) _ _ _;refine UY ⟨Code.quiet_builtin _ (by decide +kernel),VO PySem.F.entry_type_call ?_⟩;rw[Around.under_plain (weight_type_call_type "set" [.ref l] []) rfl];have h1:=QW.notType;have h2:=QW.canCreate;have hct:=PySem.F.typeCall_set_1 (.ref l)
 repeat (any_goals (first|assumption|wp_step))
 generalize O:(!mZ w)=led at h;refine Wr (zO (.ref l) (E:=E) (Q₁:=λobj D=>obj=.ref s.heap.objs.size/\D={ s with heap:=s.heap.push (uP led) }) ⟨rfl,by rw[O]⟩) λr D V=>?_;cases r with
 |error e=>exact V
 |ok fl =>
  cases fl with
  |ret obj =>
   obtain⟨rfl,rfl⟩:=V;have hS:(s.heap.push (uP led)).get? s.heap.objs.size=YN (uP led):=Pm _ rfl;have hT:Shared.TypeIs { s with heap:=s.heap.push (uP led) } (.ref s.heap.objs.size) "set":=⟨_,hS,rfl⟩
   have hli:=QW.init.lookup;have LH:=QW.init.bind (.ref s.heap.objs.size)
   repeat (any_goals (first|assumption|wp_step))
   refine Wr (codeAny_call_builtin (R:=wants (λr H=>r=.none/\∃h' tk,H={ s with heap:=h',toks:=tk }/\jV (Wm prog w) h' s.heap.objs.size (λk'=>(VJ (λi=>ns.getD i 0) items.size).any (· == k')) (VJ (λi=>ns.getD i 0) items.size).length led/\(∀b o,s.heap.get? b=YN o->h'.get? b=YN o)) E) QW.init.plain PySem.F.entry_set_init (check_set_init_1 hT ?_)) λZ H z=>?_
   .obtain⟨ol,hol,LX,nl,hdl⟩:=hl;obtain⟨adF,J,aa0,B⟩:=ol;simp only at LX hdl;subst LX hdl;have NQ:(s.heap.push (uP led)).get? l=YN { cls:=.type "list",dict:=J,data:=.seq items nl,slots:=B }:=O8 _ hol;have adG:=PySem.F.sub_list_set;have adH:=PySem.F.sub_list_frozenset;have C8:(Value.type "list" == Value.type "dict")=false:=by decide
    have LY:(s.heap.push (uP led)).IsList l items:=⟨_,NQ,rfl,nl,rfl⟩
    unfold Builtin.«set.__init__» noKeywords Builtin.Frozenset.updateFrom;generalize hPI:pyIter=PI
    wp_walk
    subst hPI;refine Wn LY (UR (wpAny_runValue ?_));have NR:l<s.heap.objs.size:=Pt hol;have JL:A.in1.in1.in1.handled=none:=by simp[hh]
    have hz:(s.heap.push (uP led)).objs.size=s.heap.objs.size+1:=Rj ..;refine zN (b:=led) ((Walks.list JL _ l (by rw[hz];exact PH (RG NR)) items).toS) s.heap.objs.size (by rw[hz];simp only[Pu,Pf,or_false,not_or];exact⟨PH (UA _),Q3 NR⟩) (λi=>ns.getD i 0)
     (λi v hv=>by
      have hv:items[i]?=YN v:=hv;exact IntsAre.int_at hi i v (by rw[QQ];exact hv)) hb
     _ 0 _ (Uk _) (Qb _) ⟨⟨_,Pm _ rfl,rfl,rfl⟩,LY.push _⟩ ⟨_,#[],0,_,O8 _ hS,⟨rfl,rfl,rfl⟩,rfl,λe he=>by simp at he,λk=>by simp[firstMet_zero],by decide,by rfl,rfl,CJ⟩ ?_
    intro s' hm L;obtain⟨h',g',d',NS,os'⟩:=s';have eg:g'=s.gens:=hm.gens;have ed:d'=s.drawn:=hm.drawn;have eo:os'=s.os:=hm.os;subst eg ed eo;show wpAny _ _ _ _ _ _;refine UY ?_;show wpAny _ _ (ret Value.none) _ _ _;refine UY ⟨rfl,h',NS,rfl,L,λb o e=>?_⟩;have hb:=Pt e;exact hm.heap b o (by rw[hz];simp only[Pu,Pf,or_false,not_or];exact⟨PH hb,PH (RG hb)⟩) (O8 _ (O8 _ e))
   cases Z with
   |error e=>exact z
   |ok M =>
    cases M with
    |ret r =>
     obtain⟨rfl,h',tk,rfl,L,hk'⟩:=z
     repeat (any_goals (first|assumption|wp_step))
     exact h _ _ L hk'
    |next=>exact z.elim
    |brk=>exact z.elim
    |cont=>exact z.elim
  |next=>exact V.elim
  |brk=>exact V.elim
  |cont=>exact V.elim
end
theorem slot_next:Slot "set_iterator" "__next__" "set_iterator.__next__" :=
 .of (owner:="set_iterator") (n:="__next__") (by rw[WK,V3];kernel_rfl) (by decide +kernel) (by decide +kernel) (by decide +kernel)
  (by first|exact .inl (by decide +kernel)|exact .inr (by decide +kernel)) (by rw[WZ];kernel_rfl)
theorem entry_next:Yy table "set_iterator.__next__" = some Builtin.«set_iterator.__next__»:=entryFor_of_tree (by kernel_rfl)
theorem args_next(a:UW):argsOk "set_iterator.__next__" ⟨[a],[]⟩:=by unfold argsOk;kernel_rfl
theorem slot_self:Slot "set_iterator" "__iter__" "set_iterator.__iter__" :=
 .of (owner:="set_iterator") (n:="__iter__") (by rw[WK,V3];kernel_rfl) (by decide +kernel) (by decide +kernel) (by decide +kernel)
  (by first|exact .inl (by decide +kernel)|exact .inr (by decide +kernel)) (by rw[WZ];kernel_rfl)
theorem entry_self:Yy table "set_iterator.__iter__" = some Builtin.«dict_keyiterator.__iter__»:=Xy (id':="dict_keyiterator.__iter__") (by kernel_rfl) rfl (by decide +kernel) (by kernel_rfl)
theorem args_self(a:UW):argsOk "set_iterator.__iter__" ⟨[a],[]⟩:=by unfold argsOk;kernel_rfl
theorem wH:Yy table "set.__iter__" = some Builtin.«frozenset.__iter__»:=Xy (id':="frozenset.__iter__") (by kernel_rfl) rfl (by decide +kernel) (by kernel_rfl)
theorem oX{α:Type}{xs:List α}{i:Nat}(h:i<xs.length):(xs[i]::xs.eraseIdx i).Perm xs:=by
 rw[List.eraseIdx_eq_take_drop_succ];refine Uv.symm.trans ?_;rw[<-RO h,Se]
theorem yj{α:Type}(f:Nat->Nat):∀(n k:Nat) (left:List α) (out:Array α),left.length=n->(pickOrder.go f n k left out).toList.Perm (out.toList++left)
 |0,k,left,out,h=>by
  have:left=[]:=Qs.mp h;subst this;unfold pickOrder.go;rw[Qh]
 |n+1,k,left,out,h=>by
  unfold pickOrder.go;have lt:f k%left.length<left.length:=Nat.mod_lt _ (by omega);rw[O1 lt];dsimp only;generalize f k%left.length=r at lt;refine(yj f n (k+1) (left.eraseIdx r) (out.push left[r]) (by rw[RI lt];omega)).trans ?_;rw[Uc,Rm];refine List.Perm.append_left _ ?_;rw[List.singleton_append];exact oX lt
theorem zQ{α:Type}(f:Nat->Nat)(xs:Array α):(XG f xs).toList.Perm xs.toList:=by
 unfold XG;exact yj f xs.size 0 xs.toList #[] (by simp)
section
variable {prog:U8}{w:Va}{A:Vh}{E:UW->U2->Prop}{s:U2}
theorem sv{src:Source}{n:Nat}{Q:Nat->U2->Prop}(z:n≠0)(h:∀i d,i<n->Q i { s with drawn:=d }):wpAny (model prog w) A (choose src n) Q E s:=λ_ _ _=>⟨z,h _ _ (Nat.mod_lt _ (TV z))⟩
theorem qU{α:Type}:∀(n:Nat) (xs:List α) (s:U2) (Q:List α->U2->Prop),xs.length=n->(∀ys d,ys.Perm xs->Q ys { s with drawn:=d })->wpAny (model prog w) A (drawOrder n xs) Q E s
 |0,xs,s,Q,h,q=>by
  have:xs=[]:=Qs.mp h;subst this;unfold drawOrder;exact UY (q [] s.drawn .nil)
 |n+1,[],s,Q,h,q=>by simp at h
 |n+1,x::xs,s,Q,h,q=>by
  unfold drawOrder;refine UR (sv (by simp) λi d hi=>?_);rw[O1 hi];dsimp only;refine UR (qU n _ _ _ (by rw[RI hi];omega) λys d' z=>?_);exact UY (q _ d' ((z.cons _).trans (oX hi)))
def SA(h:Vi)(S:U0)(z:Array (Int×UW))(ep:Nat)(t:V9):Prop:=∃o,h.get? S=YN o/\o.cls=.type "set"/\o.data=.set z ep t
def k6(h:Vi)(I:U0)(first:UW)(i:Nat)(S:U0)(n ep:Nat):Prop:=∃o,h.get? I=YN o/\o.cls=.type "set_iterator"/\o.data=.fields #[first,.int i 0,.ref S,.int n 0,.int ep 0]
noncomputable def zR(w:Va)(t:V9)(i:Nat):Nat:=if mZ w=true then 0 else ahead t.place i
noncomputable def Ge(w:Va)(S:U0)(z:Array (Int×UW))(ep:Nat):List Value:=if mZ w=true then(XG (w.params.setOrder S ep) z).toList.map (·.2)else z.toList.map (·.2)
theorem k7{S:U0}{z:Array (Int×UW)}{ep:Nat}:(Ge w S z ep).Perm (z.toList.map (·.2)):=by
 unfold Ge
 split
 .exact(zQ _ _).map _
 exact .rfl
variable {S I:U0}{es:Array (Int×UW)}{ep:Nat}{t:V9}
theorem oY(L:SA s.heap S es ep t)(B:t.fits es.size=true)(H:Tk t (!mZ w))(D:mZ w=true\/(!t.plain&&decide (es.size>1))=false){i:Nat}(hi:i<=es.size){Q:Option (UW×Nat)->U2->Prop}
  (h:Q ((Ge w S es ep)[i]?.map λx=>(x,zR w t (i+1))) s):wpAny (model prog w) A (setNext S (zR w t i) i ep) Q E s:=by
 obtain⟨o,J,V,hd⟩:=L;unfold setNext;refine UR (V5 J hd B ?_);dsimp only;unfold YB;refine UR (UR (V8 (UY ?_)));show wpAny _ _ (if mZ w=true then _ else _) _ _ _;by_cases z:mZ w=true
 .rw[UZ z];rw[UX (by simp)];refine UR ?_;unfold setWalk;refine UR (V5 J hd B ?_);dsimp only;unfold YB;refine UR (UR (V8 (UY ?_)));show wpAny _ _ (if mZ w=true then _ else _) _ _ _;rw[UZ z];refine UR (V8 (UY ?_));refine UY ?_;unfold Ge zR at h;rw[UZ z,UZ z]at h;unfold zR;rw[UZ z];have e:((XG (w.params.setOrder S ep) es)[i]?).map (λe=>(e.snd,0))=(((XG (w.params.setOrder S ep) es).toList.map (·.2))[i]?).map λx=>(x,0):=by
   rw[O7,QQ,Option.map_map]
   rfl
  rw[<-e]at h;exact h
 rw[UX z];have D:(!t.plain&&decide (es.size>1))=false:=D.resolve_left z;show wpAny _ _ (if(!t.plain&&decide (es.size>1))=true then _ else _) _ _ _;rw[UX (by rw[D];exact Pq)];have M:mZ w=false:=by cases e:mZ w with|true=>exact U4 e z|false=>rfl
 have O:t.led=true:=by rw[H.led,M];rfl
 refine UR ?_;show wpAny _ _ (if(!t.led && !es.isEmpty)=true then _ else _) _ _ _;rw[UX (by rw[O];exact Pq)];refine UY (UY ?_);unfold Ge zR at h;rw[UX z,UX z]at h;unfold zR;rw[UX z];have Z:t.place.size=es.size:=by
  unfold SetTable.fits at B;exact eq_of_beq ((PY _ _).mp B).1
 rw[uO H.asc (by omega)];by_cases c:i<es.size
 .rw[PL c,PL (xs:=t.place) (by omega)];rw[O7,QQ,PL c]at h;have e:ahead t.place (i+1)=t.place[i]+1:=by
   show t.place.getD i 0+1=_;rw[Qu,PL (xs:=t.place) (by omega)]
   rfl
  rw[e]at h;exact h
 rw[Ru (by omega)];rw[O7,QQ,Ru (by omega)]at h;exact h
end
section
variable {prog:U8}{w:Va}{A:Vh}{E:UW->U2->Prop}{s:U2}{S I:U0}{es:Array (Int×UW)}{ep:Nat}{t:V9}
theorem k6.typeIs{f:UW}{i n:Nat}(x:k6 s.heap I f i S n ep):s.TypeIs (.ref I) "set_iterator":=let⟨o,z,B,_⟩:=x;⟨o,z,B⟩
theorem SA.typeIs(x:SA s.heap S es ep t):s.TypeIs (.ref S) "set":=let⟨o,z,B,_⟩:=x;⟨o,z,B⟩
theorem jx{h:Vi}{o:VH}{vs:Array UW}(B:h.get? I=YN o)(D:o.cls=.type "set_iterator")(hd:o.data=.fields vs)(k:Nat)(x:UW) :
  ∃z,(h.update I (Obj.mapFields (·.setIfInBounds k x))).get? I=YN z/\z.cls=.type "set_iterator"/\z.data=.fields (vs.setIfInBounds k x):=
 ⟨_,Qz _ B (Obj.isFreed_of_fields (Obj.data_mapFields hd _)),(Obj.cls_mapFields ..).trans D,Obj.data_mapFields hd _⟩
theorem yn(B:A.handled=none){Q:Option UW->U2->Prop}(D:∀h',Heap.ExtBut I s.heap h'->Q none { s with heap:=h' }){z:Vi}(H:Heap.ExtBut I s.heap z) :
  wpAny (model prog w) A.in1 (do let x <- newExc (.type "StopIteration") [];(XZ x:YM Fin)) (λfin s'=>∃v,fin=Fin.done (Flow.ret v)/\wpAny (model prog w) A (pure (YN v)) Q E s')
   (λe s'=>wpAny (model prog w) A (do let b <- XT e (.type "StopIteration");if b=true then pure none else throw e) Q E s') { s with heap:=z }:=by
 refine UR ?_;simp only[newExc,XY];refine UR (Vg ?_ (by size_fits));refine UR (m:=VQ _ _) (W7 (a:=Value.none) (by first|rfl|(simp only[VQ];rfl)) ?_);refine Vg ?_ (by size_fits);simp only[XZ];refine UR (Xa ?_);rw[show A.in1.handled=none from B];refine UR (UY (Xr ?_));refine UR (Vz (T:="StopIteration") (b:=true) ⟨_,Pm _ rfl,rfl⟩ WX ?_);exact UY (D _ ((H.push _).push _))
theorem KC{i:Nat}(z:k6 s.heap I (.int (zR w t i:Nat) 0) i S es.size ep)(Z:SA s.heap S es ep t)(hf:t.fits es.size=true)(tk:Tk t (!mZ w))(md:mZ w=true\/(!t.plain&&decide (es.size>1))=false)(hi:i<es.size){v:UW}(hv:(Ge w S es ep)[i]?=YN v){Q:Option UW->U2->Prop}
  (hQ:∀h',k6 h' I (.int (zR w t (i+1):Nat) 0) (i+1) S es.size ep->Heap.SameBut I s.heap h'->Q (YN v) { s with heap:=h' }):wpAny (model prog w) A (pyNext (.ref I)) Q E s:=by
 obtain⟨o,H,hc,hd⟩:=id z;obtain⟨od,J,Fw,L⟩:=id Z;unfold pyNext;refine UR (VC (wpAny_callSpecial?_slot (name:=Str.ofString "__next__") z.typeIs slot_next (Vc slot_next z.typeIs entry_next ?_ (args_next _))));unfold Builtin.«set_iterator.__next__»;refine UR (UY ?_);refine UR (VR H hd ?_);dsimp only;refine UR (VZ J L hf ?_);rw[UX (by simp)];rw[Pp,Pp,Pp];refine UR (oY Z hf tk md (Qx hi) ?_);rw[hv];dsimp only[UO];refine UR (Vv H hd (by simp) ?_);obtain⟨o1,B,M,D⟩:=jx H hc hd 0 (rawInt (zR w t (i+1):Nat));refine UR (Vv B D (by simp) ?_);obtain⟨o2,O,V,hd2⟩:=jx B M D 1 (rawInt ((i:Int)+1));refine UY ⟨_,rfl,UY (hQ _ ⟨o2,O,V,hd2⟩ ((Heap.SameBut.update ..).trans (Heap.SameBut.update ..)))⟩
theorem zH(M:A.handled=none)(z:k6 s.heap I (.int (zR w t es.size:Nat) 0) es.size S es.size ep)(H:SA s.heap S es ep t)(J:t.fits es.size=true)(O:Tk t (!mZ w))(V:mZ w=true\/(!t.plain&&decide (es.size>1))=false){Q:Option UW->U2->Prop}
  (Z:∀h',Heap.ExtBut I s.heap h'->Q none { s with heap:=h' }):wpAny (model prog w) A (pyNext (.ref I)) Q E s:=by
 obtain⟨o,L,hc,hd⟩:=id z;obtain⟨od,B,Fw,D⟩:=id H;unfold pyNext;refine UR (VC (wpAny_callSpecial?_slot (name:=Str.ofString "__next__") z.typeIs slot_next (Vc slot_next z.typeIs entry_next ?_ (args_next _))));unfold Builtin.«set_iterator.__next__»;refine UR (UY ?_);refine UR (VR L hd ?_);dsimp only;refine UR (VZ B D J ?_);rw[UX (by simp)];rw[Pp,Pp,Pp];refine UR (oY H J O V (O5 _) ?_);rw[Qe (by rw[k7.length_eq,O3,PM];exact O5 _)];dsimp only[UO];refine UR (Vv L hd (by simp) ?_);exact yn M Z (Heap.SameBut.update ..).extBut
def zS(h:Vi)(T:U0)(z:List Nat):Prop:=∃o c,h.get? T=YN o/\o.data=.seq (z.map λ(j:Nat)=>rawInt (j:Int)).toArray c
theorem KG{i:Nat}{T:U0}{H:List Nat}(z:k6 s.heap I (.ref T) i S es.size ep)(hm:SA s.heap S es ep t)(hT:zS s.heap T H)(Z:t.fits es.size=true){j:Nat}(hj:H[i]?=YN j){k:Int}{v:UW}(hv:es[j]?=YN (k,v)){Q:Option UW->U2->Prop}
  (hQ:∀h',k6 h' I (.ref T) (i+1) S es.size ep->Heap.SameBut I s.heap h'->Q (YN v) { s with heap:=h' }):wpAny (model prog w) A (pyNext (.ref I)) Q E s:=by
 obtain⟨o,J,hc,hd⟩:=id z;obtain⟨od,B,Fw,D⟩:=id hm;obtain⟨ot,ct,L,M⟩:=hT;unfold pyNext;refine UR (VC (wpAny_callSpecial?_slot (name:=Str.ofString "__next__") z.typeIs slot_next (Vc slot_next z.typeIs entry_next ?_ (args_next _))));unfold Builtin.«set_iterator.__next__»;refine UR (UY ?_);refine UR (VR J hd ?_);dsimp only;refine UR (VZ B D Z ?_);rw[UX (by simp)];refine UR ?_;unfold seqItems?;refine UR (XN L ?_);rw[M];refine UY ?_;dsimp only;rw[Pp,Pp];have e:((H.map λ(j:Nat)=>rawInt (j:Int)).toArray)[i]?=YN (rawInt j):=by rw[Tj,O7,hj];rfl
 rw[e];refine UR ?_;unfold setNextDrawn;refine UR (V5 B D Z ?_);dsimp only;rw[UX (by simp)];have e2:(j:Int).toNat=j:=Pp j;rw[e2,hv];refine UY ?_;refine UR (Vv J hd (by simp) ?_);obtain⟨o2,O,V,hd2⟩:=jx J hc hd 1 (rawInt ((i:Int)+1));exact UY ⟨_,rfl,UY (hQ _ ⟨o2,O,V,hd2⟩ (Heap.SameBut.update ..))⟩
theorem NT(Z:A.handled=none){T:U0}{B:List Nat}(z:k6 s.heap I (.ref T) es.size S es.size ep)(hm:SA s.heap S es ep t)(hT:zS s.heap T B)(hf:t.fits es.size=true)(hj:B.length=es.size){Q:Option UW->U2->Prop}
  (hQ:∀h',Heap.ExtBut I s.heap h'->Q none { s with heap:=h' }):wpAny (model prog w) A (pyNext (.ref I)) Q E s:=by
 obtain⟨o,D,hc,hd⟩:=id z;obtain⟨od,H,Fw,J⟩:=id hm;obtain⟨ot,ct,L,M⟩:=hT;unfold pyNext;refine UR (VC (wpAny_callSpecial?_slot (name:=Str.ofString "__next__") z.typeIs slot_next (Vc slot_next z.typeIs entry_next ?_ (args_next _))));unfold Builtin.«set_iterator.__next__»;refine UR (UY ?_);refine UR (VR D hd ?_);dsimp only;refine UR (VZ H J hf ?_);rw[UX (by simp)];refine UR ?_;unfold seqItems?;refine UR (XN L ?_);rw[M];refine UY ?_;dsimp only;rw[Pp];have e:((B.map λ(j:Nat)=>rawInt (j:Int)).toArray)[es.size]?=none:=by rw[Tj,Qe (by rw[O3];omega)]
 rw[e];dsimp only;refine UR (Vv D hd (by simp) ?_);obtain⟨o1,O,hc1,V⟩:=jx D hc hd 0 (rawInt 0);refine UR (Vv O V (by simp) ?_);exact yn Z hQ ((Heap.SameBut.update ..).trans (Heap.SameBut.update ..)).extBut
theorem yo{f:UW}{i n:Nat}{Q:UW->U2->Prop}(z:k6 s.heap I f i S n ep)(h:Q (.ref I) s):wpAny (model prog w) A (pyIter (.ref I)) Q E s:=by
 refine V4 z.typeIs slot_self (Vc slot_self z.typeIs entry_self ?_ (args_self _));show wpAny _ _ (ret (.ref I)) _ _ s;exact UY ⟨_,rfl,"set_iterator",_,z.typeIs,slot_next.lookup,h⟩
theorem CN(H:SA s.heap S es ep t)(z:t.fits es.size=true)(hz:es.size<=U7){Q:UW->U2->Prop}
  (M:mZ w=true\/(!t.plain&&decide (es.size>1))=false->Q (.ref s.heap.objs.size) { s with heap:=s.heap.push { cls:=.type "set_iterator",data:=.fields #[.int 0 0,.int 0 0,.ref S,.int es.size 0,.int ep 0] } })
  (O:∀(B:List Nat) (d:YL),B.Perm (PX es.size)->Q (.ref (s.heap.objs.size+1)) { s with drawn:=d,heap:=(s.heap.push { cls:=.type "tuple",data:=.seq (B.map λ(j:Nat)=>rawInt (j:Int)).toArray }).push { cls:=.type "set_iterator",data:=.fields #[.ref s.heap.objs.size,.int 0 0,.ref S,.int es.size 0,.int ep 0] } }) :
  wpAny (model prog w) A (pyIter (.ref S)) Q E s:=by
 obtain⟨o,D,V,hd⟩:=id H;have J:=H.typeIs;refine V4 J F.slot_set_iter (Vc F.slot_set_iter J wH ?_ (F.args_set_iter_1 _));unfold Builtin.«frozenset.__iter__» Builtin.Frozenset.slot0;refine UR (UR (UY (UY ?_)));unfold Builtin.Frozenset.sizeOf;refine UR (UR (VZ D hd z (UY ?_)));unfold setDrawn;refine UR ?_;refine UR (V5 D hd z ?_);dsimp only;unfold YB;refine UR (UR (V8 (UY (UY ?_))));show wpAny _ _ (if(!mZ w&&(!t.plain&&decide (es.size>1)))=true then _ else _) _ _ _;by_cases c:(!mZ w&&(!t.plain&&decide (es.size>1)))=true
 .rw[UZ c];refine UR (qU _ _ _ _ (by rw[PN]) λB d L=>?_);refine UR (Wt ?_ (by rw[O3,L.length_eq,PN];exact hz));refine UR (Yd (O8 _ D) hd z ?_);refine UR (Vg (UY ⟨_,rfl,"set_iterator",_,⟨_,Pm _ rfl,rfl⟩,slot_next.lookup,?_⟩));have:=O B d L;simpa[rawInt,Rj]using this
 rw[UX c];refine UR (UY ?_);refine UR (Yd D hd z ?_);refine UR (Vg (UY ⟨_,rfl,"set_iterator",_,⟨_,Pm _ rfl,rfl⟩,slot_next.lookup,?_⟩));have:=M (by
  cases e:mZ w with
  |true=>exact .inl rfl
  |false=>rw[e]at c;right;cases q:(!t.plain&&decide (es.size>1))with|false=>rfl|true=>rw[q]at c;exact U4 rfl c)
 simpa[rawInt]using this
end
open PySem.W
section
variable {prog:U8}{w:Va}{A:Vh}{E:UW->U2->Prop}{s:U2}{S I T:U0}{es:Array (Int×UW)}{ep:Nat}{t:V9}{pl:List Nat}
theorem k6.at{h h':Vi}{f:UW}{i n:Nat}(x:k6 h I f i S n ep)(e:∀o,h.get? I=YN o->h'.get? I=YN o):k6 h' I f i S n ep:=let⟨o,z,r⟩:=x;⟨o,e _ z,r⟩
theorem SA.at{h h':Vi}(x:SA h S es ep t)(e:∀o,h.get? S=YN o->h'.get? S=YN o):SA h' S es ep t:=let⟨o,z,r⟩:=x;⟨o,e _ z,r⟩
theorem zS.at{h h':Vi}(x:zS h T pl)(e:∀o,h.get? T=YN o->h'.get? T=YN o):zS h' T pl:=let⟨o,c,z,r⟩:=x;⟨o,c,e _ z,r⟩
theorem HX(hh:A.handled=none)(H:S≠I)(L:t.fits es.size=true)(M:Tk t (!mZ w))(O:mZ w=true\/(!t.plain&&decide (es.size>1))=false) :
  Walks prog w A I [I,S] [I] es.size (λi v=>(Ge w S es ep)[i]?=YN v) (λi h=>k6 h I (.int (zR w t i:Nat) 0) i S es.size ep/\SA h S es ep t) where
 sub:=λb B=>by simp at B;simp[B]
 frame:=λ_ _ _ st V=>⟨st.1.at λo e=>V I (by simp) o e,st.2.at λo e=>V S (by simp) o e⟩
 item:=λi s Q E hi st D=>by
  have Z:i<(Ge w S es ep).length:=by rw[k7.length_eq,O3,PM];exact hi
  refine KC st.1 st.2 L M O hi (O1 Z) λh' J hs=>?_;exact D _ h' s.toks (O1 Z) ⟨J,st.2.at λo e=>hs.extBut S o H e⟩ λb o B e=>hs.extBut b o (λz=>B (by simp[z])) e
 done:=λs Q E st D=>zH hh st.1 st.2 L M O λh' he=>D h' s.toks λb o B e=>he b o (λz=>B (by simp[z])) e
 self:=λ_ _ _ _ st D=>yo st.1 D
theorem HY(hh:A.handled=none)(J:S≠I)(L:T≠I)(hf:t.fits es.size=true)(M:pl.Perm (PX es.size)) :
  Walks prog w A I [I,S,T] [I] es.size (λi v=>((pl.map λj=>(es.toList.map (·.2))[j]?).map (·.getD .none))[i]?=YN v) (λi h=>k6 h I (.ref T) i S es.size ep/\SA h S es ep t/\zS h T pl) where
 sub:=λb B=>by simp at B;simp[B]
 frame:=λ_ _ _ st O=>⟨st.1.at λo e=>O I (by simp) o e,st.2.1.at λo e=>O S (by simp) o e,st.2.2.at λo e=>O T (by simp) o e⟩
 item:=λi s Q E hi st D=>by
  have hl:i<pl.length:=by rw[M.length_eq,PN];exact hi
  have V:=O1 hl;have lt:pl[i]<es.size:=Px.mp (M.mem_iff.mp (PU hl));generalize pl[i]=j at V lt;have H:=PL lt;refine KG st.1 st.2.1 st.2.2 hf V (k:=es[j].1) (v:=es[j].2) H λh' Z hs=>?_;refine D _ h' s.toks ?_ ⟨Z,st.2.1.at λo e=>hs.extBut S o J e,st.2.2.at λo e=>hs.extBut T o L e⟩ λb o B e=>hs.extBut b o (λz=>B (by simp[z])) e;rw[O7,O7,V];show some ((List.map (·.2) es.toList)[j]?.getD .none)=_;rw[O7,QQ,H]
  rfl
 done:=λs Q E st D=>NT hh st.1 st.2.1 st.2.2 hf (by rw[M.length_eq,PN]) λh' H=>D h' s.toks λb o B e=>H b o (λz=>B (by simp[z])) e
 self:=λ_ _ _ _ st D=>yo st.1 D
theorem uQ{r:U0}{Q:Bool->U2->Prop}(D:s.TypeIs (.ref r) "set")(h:Q false s):wpAny (model prog w) A (Builtin.List.listLengthHint (.ref r)) Q E s:=by
 unfold Builtin.List.listLengthHint;refine UR (VM D PySem.F.slot_set_len.lookup ?_);generalize B:("set.__len__":String)=H
 wp_delta
 rw[show splitId H=YN ("set","__len__")from by subst B;decide +kernel];subst B;refine UR (Vz (T:="set") (b:=true) D (by rw[WZ];kernel_rfl) ?_);refine wpAny_ite_split (λz=>U4 z (by decide)) (λ_=>?_);refine wpAny_ite_split (λ_=>?_) (λz=>U4 (by decide +kernel) z);refine UR (X1 D ?_);exact UY h
theorem CO{R:Yq->U2->Prop}{fp:List U0}{n:Nat}{P:Nat->UW->Prop}{St:Nat->Vi->Prop}(W:Walks prog w A.in1 I fp [I] n P St)(hn:n<=U7){L:U0}(hL:L∉fp)(D:UW){B:Nat}(st:St 0 s.heap)(hS:s.heap.get? L=YN { cls:=.type "list",data:=.seq #[] B })
  (hR:∀h' tk H V,(∀b o,b≠L->b≠I->s.heap.get? b=YN o->h'.get? b=YN o)->h'.get? L=YN { cls:=.type "list",dict:=none,data:=.seq H V,slots:=#[] }->X0 P H n->R (.ok (.ret D)) { s with heap:=h',toks:=tk }) :
  Wq (model prog w) A (.builtin "list.extend.loop" ⟨[.ref L,.ref I,D],[]⟩) R s:=by
 refine Xu W.toS hn L hL D n 0 _ #[] B rfl (Qb _) st hS (ItemsOf.nil _) λs' J V hm Z M=>?_;rw[Moved.eq_with hm];exact hR s'.heap s'.toks J V (λb o hb HG e=>hm.heap b o (λO=>(Pu.mp O).elim hb λz=>HG (O4.mp z)) e) Z M
theorem EV{R:Yq->U2->Prop}(hh:A.handled=none)(hm:SA s.heap S es ep t)(hf:t.fits es.size=true)(tk:Tk t (!mZ w))(hz:es.size<=U7){L:U0}(NU:L≠S)(H:UW){c₀:Nat}(hS:s.heap.get? L=YN { cls:=.type "list",data:=.seq #[] c₀ })
  (hR:∀h' tk d z c',(∀b o,b≠L->s.heap.get? b=YN o->h'.get? b=YN o)->h'.get? L=YN { cls:=.type "list",dict:=none,data:=.seq z c',slots:=#[] }->z.toList.Perm (es.toList.map (·.2))->R (.ok (.ret H)) { s with heap:=h',toks:=tk,drawn:=d }) :
  wpAny (model prog w) A.in1 (Builtin.List.listExtendWith (.ref L) (.ref S) H)
   (λfin s'=>match fin with|.done f=>R (.ok f) s'|.again c'=>c'.quiet=true/\Wq (model prog w) A c' R s') (λe s'=>R (.error e) s') s:=by
 have KH:S<s.heap.objs.size:=let⟨_,ho,_⟩:=hm;Pt ho
 have O:L<s.heap.objs.size:=Pt hS;have key:∀{J:U0}{fp:List U0}{P:Nat->UW->Prop}{St:Nat->Vi->Prop} (W:Walks prog w A.in1 J fp [J] es.size P St) (hL:L∉fp) (hJ:s.heap.objs.size<=J) (d:YL) (B:Vi) (c₁ tk:Nat),St 0 B->(∀b o,b≠L->s.heap.get? b=YN o->B.get? b=YN o) ->
   B.get? L=YN { cls:=.type "list",data:=.seq #[] c₁ }->(∀z:Array UW,X0 P z es.size->z.toList.Perm (es.toList.map (·.2)))->Wq (model prog w) A (.builtin "list.extend.loop" ⟨[.ref L,.ref J,H],[]⟩) R { s with heap:=B,toks:=tk,drawn:=d }:=by
  intro J fp P St W hL hJ d B c₁ tk st M V D;refine CO (s:={ s with heap:=B,toks:=tk,drawn:=d }) W hz hL H st V λh' NS z c' h2 h3 h4=>?_;exact hR h' NS d z c' (λb o hb e=>h2 b o hb (PH (Qf (Pt e) hJ)) (M b o hb e)) h3 (D z h4)
 unfold Builtin.List.listExtendWith;refine UR (X1 (T:="set") hm.typeIs ?_);have B:Builtin.List.listSameRef (.ref L) (.ref S)=false:=by simp[Builtin.List.listSameRef,NU]
 simp only[B,show(Value.type "set" == Value.type "list")=false by decide,show(Value.type "set" == Value.type "tuple")=false by decide,UJ,Ql,Vu];have rest:∀{J:U0} {fp:List U0} {P:Nat->UW->Prop} {St:Nat->Vi->Prop} (W:Walks prog w A.in1 J fp [J] es.size P St) (hL:L∉fp) (hJ:s.heap.objs.size<=J) (d:YL) (B:Vi),St 0 B->(∀b o,s.heap.get? b=YN o->B.get? b=YN o) ->
   (∀z:Array UW,X0 P z es.size->z.toList.Perm (es.toList.map (·.2)))->∀c:Bool,wpAny (model prog w) A.in1 (if c=true then do rule "list.extend.makes-room";Builtin.List.listTouch (.ref L);again (.builtin "list.extend.loop" ⟨[.ref L,.ref J,H],[]⟩)else again (.builtin "list.extend.loop" ⟨[.ref L,.ref J,H],[]⟩))
   (λfin s'=>match fin with|.done f=>R (.ok f) s'|.again c'=>c'.quiet=true/\Wq (model prog w) A c' R s') (λe s'=>R (.error e) s') { s with heap:=B,drawn:=d }:=by
  intro J fp P St W hL hJ d B st M D c;have V:=M _ _ hS;cases c with
  |false =>
   rw[UX (by decide)];exact UY ⟨VX SJ _,key W hL hJ d B c₀ _ st (λb o _ e=>M b o e) V D⟩
  |true =>
   rw[UZ rfl];refine UR (VN ?_);refine UR ?_;show wpAny _ _ (updateSeq L (·.push .none) >>= λ_=>updateSeq L (·.pop)) _ _ _;refine UR (WL V rfl ?_);have Z:=Qz (Obj.mapSeq (·.push Value.none)) V rfl;refine WL (hz:=by seq_fits) Z rfl ?_;have KJ:=Qz (Obj.mapSeq (·.pop)) Z rfl;refine UY ⟨VX SJ _,key W hL hJ d _ _ _ ?_ (λb o hb e=>?_) KJ D⟩
   .refine W.frame 0 _ _ st λb hb o e=>?_;have hbS:b≠L:=λh=>hL (h▸hb);exact(QM _ _ (Ne.symm hbS)).trans ((QM _ _ (Ne.symm hbS)).trans e)
   exact(QM _ _ (Ne.symm hb)).trans ((QM _ _ (Ne.symm hb)).trans (M b o e))
 have lst:∀{vs:List UW}{z:Array UW},X0 (λi v=>vs[i]?=YN v) z es.size->vs.length=es.size->z.toList=vs:=λ{vs z} x hl=>by
  refine QR λi=>?_;by_cases hi:i<es.size
  .have Ah:i<z.size:=by rw[x.1];exact hi
   have e7:z.toList[i]?=YN z[i]:=by rw[QQ];exact PL Ah
   rw[e7];exact(x.2 i z[i] (PL Ah)).symm
  rw[Qe (by rw[PM,x.1];omega),Qe (by omega)]
 refine UR (CN hm hf hz (λmd=>?_) λpl d hp=>?_)
 .have M:∀b o,s.heap.get? b=YN o->(s.heap.push { cls:=.type "set_iterator",data:=.fields #[.int 0 0,.int 0 0,.ref S,.int es.size 0,.int ep 0] }).get? b=YN o:=λb o e=>O8 _ e;refine UR (Vj (uQ (hm.at λo e=>M _ _ e).typeIs ?_));refine rest (HX (ep:=ep) hh (PH KH) hf tk md) (by simp only[Pu,Pf,or_false,not_or];exact⟨PH O,NU⟩) (O5 _) s.drawn _ ⟨⟨_,Pm _ rfl,rfl,?_⟩,hm.at λo e=>M _ _ e⟩ M (λz x=>?_) _
  .have:zR w t 0=0:=by unfold zR;split <;> rfl
   rw[this]
   rfl
  rw[lst x (by rw[k7.length_eq,O3,PM])];exact k7
 have M:∀b o,s.heap.get? b=YN o->((s.heap.push { cls:=.type "tuple",data:=.seq (pl.map λ(j:Nat)=>rawInt (j:Int)).toArray }).push { cls:=.type "set_iterator",data:=.fields #[.ref s.heap.objs.size,.int 0 0,.ref S,.int es.size 0,.int ep 0] }).get? b=YN o:=λb o e=>O8 _ (O8 _ e);refine UR (Vj (uQ (hm.at λo e=>M _ _ e).typeIs ?_));have sz:(s.heap.push { cls:=.type "tuple",data:=.seq (pl.map λ(j:Nat)=>rawInt (j:Int)).toArray }).objs.size=s.heap.objs.size+1:=Rj ..;have hI:=Pm (s.heap.push { cls:=.type "tuple",data:=.seq (pl.map λ(j:Nat)=>rawInt (j:Int)).toArray }) (o:={ cls:=.type "set_iterator",data:=.fields #[.ref s.heap.objs.size,.int 0 0,.ref S,.int es.size 0,.int ep 0] }) rfl;rw[sz]at hI;refine rest (HY (T:=s.heap.objs.size) (ep:=ep) (t:=t) hh (PH (RG KH)) (PH (UA _)) hf hp) (by simp only[Pu,Pf,or_false,not_or];exact⟨PH (RG O),NU,PH O⟩) (QO _) d _ ⟨⟨_,hI,rfl,rfl⟩,hm.at λo e=>M _ _ e,⟨_,0,O8 _ (Pm _ rfl),rfl⟩⟩ M (λz x=>?_) _;rw[lst x (by rw[O3,O3,hp.length_eq,PN])];refine((hp.map _).map _).trans ?_;have:((PX es.size).map λj=>(es.toList.map (·.2))[j]?).map (·.getD Value.none)=es.toList.map (·.2):=by
  refine QR λi=>?_;by_cases hi:i<es.size
  .rw[O7,O7,Q1 hi];have hl:i<(es.toList.map (·.2)).length:=by rw[O3,PM];exact hi
   show some ((es.toList.map (·.2))[i]?.getD Value.none)=_;rw[O1 hl]
   rfl
  rw[Qe (by rw[O3,O3,PN];omega),Qe (by rw[O3,PM];omega)]
 rw[this]
theorem uR{Q:List UW->U2->Prop}(hh:A.handled=none)(hm:SA s.heap S es ep t)(hf:t.fits es.size=true)(B:Tk t (!mZ w))(hz:es.size<=U7)
  (hQ:∀h' B d M,(∀b o,s.heap.get? b=YN o->h'.get? b=YN o)->s.heap.objs.size<h'.objs.size->M.Perm (es.toList.map (·.2))->Q M { s with heap:=h',toks:=B,drawn:=d }):wpAny (model prog w) A (collect (.ref S)) Q E s:=by
 have O:S<s.heap.objs.size:=let⟨_,ho,_⟩:=hm;Pt ho
 unfold collect;refine UR (wpAny_runValue (VO entry_proto_collect' ?_));rw[Around.under_plainId F.plain_proto_collect _];show wpAny _ A.in1 (newList [] >>= λl=>again (.builtin "list.__iadd__" ⟨[l,.ref S],[]⟩)) _ _ s;refine UR (Vg ?_);refine UY ⟨VX F.plain_list_iadd _,VO entry_list_iadd' ?_⟩;rw[Around.under_plainId F.plain_list_iadd _];show wpAny _ A.in1 (Builtin.List.listExtendWith (.ref s.heap.objs.size) (.ref S) (.ref s.heap.objs.size)) _ _ _;have hS:(s.heap.push { cls:=.type "list",data:=.seq ([]:List UW).toArray }).get? s.heap.objs.size=YN { cls:=.type "list",data:=.seq #[] 0 }:=Pm _ rfl;have L:∀h' B d z D,(∀b o,s.heap.get? b=YN o->h'.get? b=YN o)->h'.get? s.heap.objs.size=YN { cls:=.type "list",dict:=none,data:=.seq z D,slots:=#[] }->z.toList.Perm (es.toList.map (·.2)) ->
   wpAny (model prog w) A (match Value.ref s.heap.objs.size with
   |Value.ref a=>do
    match (<-load a).data with
     |Data.seq xs _=>pure xs.toList
     |_=>unsupported "internal:collect"
   |_=>unsupported "internal:collect") Q E { s with heap:=h',toks:=B,drawn:=d }:=by
  intro h' B d z D V J H;show wpAny _ A (load s.heap.objs.size >>= _) _ _ _;exact UR (XN J (UY (hQ h' B d z.toList V (Pt J) H)))
 refine V6 (EV (A:=A) (R:=λr' s'=>r'=.ok (.ret (.ref s.heap.objs.size))/\∃h' B d z D,s'={ s with heap:=h',toks:=B,drawn:=d }/\(∀b o,s.heap.get? b=YN o->h'.get? b=YN o) /\
   h'.get? s.heap.objs.size=YN { cls:=.type "list",dict:=none,data:=.seq z D,slots:=#[] }/\z.toList.Perm (es.toList.map (·.2)))
  (s:={ s with heap:=s.heap.push { cls:=.type "list",data:=.seq ([]:List UW).toArray } }) hh (hm.at λo e=>O8 _ e) hf B hz (Q3 O) (.ref s.heap.objs.size) hS
  (λh' B d z D V J H=>⟨rfl,h',B,d,z,D,rfl,λb o e=>V b o (PH (Pt e)) (O8 _ e),J,H⟩)) (λfin s' h=>?_) (λe s' h=>?_)
 .cases fin with
  |done f =>
   obtain⟨e,h',B,d,z,D,rfl,Z,h2,h3⟩:=h;cases e;exact L h' B d z D Z h2 h3
  |again D=>exact⟨h.1,Wr h.2 λr s'' hr=>by obtain⟨rfl,h',B,d,z,D,rfl,Z,h2,h3⟩:=hr;exact L h' B d z D Z h2 h3⟩
 exact U4 h.1 (by simp)
end
theorem ints_of{prog:U8}{w:Va}:∀(vs:List UW),(∀v∈vs,∃k,(Wm prog w).is k v=true)->∃B,W6 vs B/\∀x,x∈B↔∃v∈vs,(Wm prog w).is x v=true
 |[],_=>⟨[],.nil,λx=>⟨λh=>U4 h Pf,λ⟨v,h,_⟩=>U4 h Pf⟩⟩
 |v::vs,h=>by
  obtain⟨k,D⟩:=h v Pb;obtain⟨B,H,J⟩:=ints_of vs λu z=>h u (Pn _ z);obtain⟨t,rfl⟩:=Value.isInt_shape D;refine⟨k::B,.cons k t H,λx=>?_⟩;rw[Pu,J];constructor
  .rintro(rfl|⟨u,z,e⟩)
   .exact⟨_,Pb,D⟩
   exact⟨u,Pn _ z,e⟩
  rintro⟨u,z,e⟩;rcases Pu.mp z with rfl|z
  .exact .inl ((Wm prog w).inj _ _ _ e D)
  exact .inr ⟨u,z,e⟩
theorem k8:∀{ys:List Int}{z:List UW},W6 z ys->L2.Vals (ys.map L2.V.int) z
 |_,_,.nil=>.nil
 |_,_,.cons n t r=>.cons ⟨t,rfl⟩ (k8 r)
theorem strict{fs ys:List Int}(nd:fs.Nodup)(mem:∀x,x∈ys↔x∈fs)(M:ys.length=fs.length)(asc:ys.Pairwise (·<=·)):ys.Pairwise (· < ·):=by
 rw[Pz]at asc⊢;intro i j hi D B;have O:=asc i j hi D B;refine Pa λV=>?_;have e:ys[i]=ys[j]:=by omega
 have z:fs.length<=(ys.eraseIdx j).length:=ay.eJ nd λx J=>by
  obtain⟨k,L,H⟩:=PC ((mem x).mpr J);rw[List.mem_eraseIdx_iff_getElem];by_cases c:k=j
  .subst c;exact⟨i,hi,by omega,by rw[<-H];exact e⟩
  exact⟨k,L,c,H⟩
 rw[RI D]at z;omega
end EU
namespace L2
open PySem PySem.Spec PyProof.Rows EU
section
variable {X:Cx}
noncomputable def Df(P:U8)(w:Va)(a:U0)(ns:List Int):HO:=.ext λh=>∃fs:List Int,fs.Nodup/\(∀x,x∈fs↔x∈ns)/\jV (Wm P w) h a (λk=>fs.any (· == k)) fs.length (!mZ w)
theorem zT(L:X.calm=true):cO X (.type "set") (λxs H Q=>∃(l:U0) (ns:List Int),xs=[.ref l]/\H l=YN (.lst (ns.map V.int))/\ns.length<=1000/\∀(p:U0),H p=none->Q (.ref p) (upd H p (Df X.prog X.w p ns))):=by
 intro pins s σ H xs us Q I r h;obtain⟨l,ns,rfl,M,h0,q⟩:=h;obtain⟨u,rfl,O⟩:=r.one;cases O;obtain⟨its,J,Z,hz⟩:=I.list (aM.of M);have hi:=intsAre_of J;have len:its.length=ns.length:=by have:=Vals.length J;rw[O3]at this;exact this.symm
 have B:H s.heap.objs.size=none:=I.bj.fresh (O5 _);refine zP (ns:=ns) (I.ok.hd L) Z.isList (by simpa using hi) (by rw[Pe,len];unfold Wj;omega) λh' tk D hk=>?_;have es:its.toArray.size=ns.length:=by rw[Pe,len]
 rw[es]at D;obtain⟨n1,n2⟩:=HW.oV (λi=>ns.getD i 0) ns.length;have mm:∀x,x∈VJ (λi=>ns.getD i 0) ns.length↔x∈ns:=λx=>by
  rw[n2];constructor
  .rintro⟨j,z,e⟩;rw[Py,O1 z]at e;rw[<-e];exact PU z
  intro hx;obtain⟨j,z,e⟩:=PC hx;exact⟨j,z,by rw[Py,O1 z];exact e⟩
 exact⟨.ref s.heap.objs.size,_,I.laid (a:=s.heap.objs.size) (o:=Df X.prog X.w s.heap.objs.size ns) (t':=tk) hk (O5 _) ⟨⟨_,n1,mm,D⟩,(let⟨o,_,_,_,e,_⟩:=D;⟨o,e⟩),λh1 h2 ⟨fs,f1,f2,x⟩ k=>⟨fs,f1,f2,mw x λo e=>k _ e⟩⟩,rfl,q _ B⟩
theorem Inv.drew{pins:List (U0×VH)}{σ:List (Option V)}{H:Hp}{s:U2}(I:Inv X pins σ H s)(d:YL):Inv X pins σ H { s with drawn:=d }:=⟨I.ok,I.os,I.bare,I.base,I.loc,I.cell,I.free,I.iL,I.pin,I.bj,I.len⟩
theorem sx(hc:X.calm=true):cO X (.builtin "sorted") (λxs H Q=>∃(p:U0) (ns m:List Int),xs=[.ref p]/\H p=YN (Df X.prog X.w p ns)/\m.length<64/\(∀x∈ns,x∈m)/\∀(l:U0) (ys:List Int),H l=none->ys.Pairwise (· < ·)->(∀x,x∈ys↔x∈ns)->Q (.ref l) (upd H l (.lst (ys.map V.int)))):=by
 intro pins s σ H xs us Q I r h;obtain⟨p,ns,m,rfl,hp,h64,M,q⟩:=h;obtain⟨u,rfl,ru⟩:=r.one;cases ru;obtain⟨⟨fs,f1,f2,o,es,ep,t,ho,hex,hd,tU,O,hb,hf,hn,tk⟩,_⟩:=(show bq X.prog X.w H s.heap p (Df X.prog X.w p ns)from I.bj p _ hp)
 have fl:fs.length<=m.length:=ay.eJ f1 λx hx=>M x ((f2 x).mp hx);refine Calls.call_function_entry Yh X7 X8 (X9 _) ?_;unfold Builtin.«sorted»;refine UR (m:=YA "sorted" 1 1 _) (UY ?_);refine UR (uR (A:=X.A.in1) (I.ok.hd hc) ⟨o,ho,hex.1,hd⟩ hf tk (by rw[Vp];unfold Wj at hb;omega) λh' tk d D Z L B=>?_);have al:D.length=fs.length:=by rw[B.length_eq,O3,PM,hn]
 obtain⟨ms,m1,m2⟩:=ints_of (prog:=X.prog) (w:=X.w) D λv hv=>by
  obtain⟨e,he,rfl⟩:=O6.mp (B.mem_iff.mp hv);obtain⟨⟨k,hk,_⟩,_⟩:=tU e he;exact⟨k,hk⟩
 have mm:∀x,x∈ms↔x∈fs:=λx=>by
  rw[m2];have z:=O x;rw[Qv]at z;constructor
  .rintro⟨v,hv,e⟩;obtain⟨y,hy,rfl⟩:=O6.mp (B.mem_iff.mp hv);obtain⟨k,hk,ek⟩:=z.mpr ⟨y,hy,e⟩;rw[<-eq_of_beq ek];exact hk
  intro hx;obtain⟨y,hy,e⟩:=z.mp ⟨x,hx,VA _⟩;exact⟨y.2,B.mem_iff.mpr (O6.mpr ⟨y,hy,rfl⟩),e⟩
 have ml:ms.length=fs.length:=by rw[<-IntsAre.length m1];exact al
 refine UR (WE ?_ (by rw[al,Vp];omega));have J:(h'.push (seqObj "list" D.toArray 0)).get? h'.objs.size=YN (seqObj "list" D.toArray 0):=Pm _ rfl;have old:∀b o,s.heap.get? b=YN o->b≠h'.objs.size/\(h'.push (seqObj "list" D.toArray 0)).get? b=YN o:=λb o e=>⟨PH (Pt (Z b o e)),O8 _ (Z b o e)⟩
 have gsz:s.heap.objs.size<=h'.objs.size:=Qx L;refine UR (Vj (Vc slot_list_sort ⟨_,J,rfl⟩ entry_list_sort (list_sort_tree J m1 (by omega) λout ys a1 a2 a3=>⟨_,rfl,UY ⟨_,rfl,?_⟩⟩) (XA _)));obtain⟨c,he⟩:=sortedHeap_at (out:=out) J;have yl:ys.length=fs.length:=by rw[a2.length_eq];exact ml
 have ym:∀x,x∈ys↔x∈fs:=λx=>(a2.mem_iff).trans (mm x);refine⟨.ref h'.objs.size,_,(I.drew d).laid (a:=h'.objs.size) (o:=.lst (ys.map V.int)) (t':=tk) (λb o eb=>?_) gsz ⟨?_,out.toList,c,?_,by simpa[seqObj]using he⟩,rfl,q _ ys (I.bj.fresh gsz) (strict f1 ym yl a3) λx=>(ym x).trans (f2 x)⟩
 .obtain⟨n1,n2⟩:=old b o eb;rw[sortedHeap_old n1 (Pt n2)];exact n2
 .rw[O3,yl,Vp];omega
 exact k8 a1
theorem HZ {K : Pc}{o e : Vk}{D : List Vk}{to : TE}{t : TA}{name : Vl}{apos z : WG}{T id : String}{r : V -> List V -> Hp -> VK -> Prop}(O : X.K=K)(Z : XR T)(slot : Slot T name id)(M : typeOf (.builtin id)=pure (.type "method_descriptor"))(hm : LF X id r)(ho : PE X o to)(ha : PA X (e::D) t)
    (H:VW o name X.env (eval o X.env)=eval o X.env:=by rfl)
    (L:((backTo z (Vf (e::D) X.env)).all (λx => !x.1)&&(XW z (W5 [] X.env)).all (λx=>x.1.isSome)
      && decide ((e::D).length+([]: List WN).length+(if([]: List WN).isEmpty then 0 else 1)<30))=true:=by rfl)
    (J:(apos.endLine==z.line)=true:=by rfl) (hs:Vf (e::D) X.env=(false,eval e X.env)::Vf D X.env:=by rfl) (B:(backTo z (Vf D X.env)).any (·.1)=false:=by rfl) :
    PE X (.Call (.Attribute o name apos) (e::D) [] z) (MX K T r to t):= O▸gU Z slot M hm ho ha H L J hs B
theorem wI{P:U8}{w:Va}(z:X.prog=P)(hw:X.w=w)(B:X.calm=true):cO X (.type "set") (λxs H Q=>∃(l:U0) (ns:List Int),xs=[.ref l]/\H l=YN (.lst (ns.map V.int))/\ns.length<=1000/\∀(p:U0),H p=none->Q (.ref p) (upd H p (Df P w p ns))):=by
 subst z hw;exact zT B
theorem pR{P:U8}{w:Va}(z:X.prog=P)(hw:X.w=w)(B:X.calm=true):cO X (.builtin "sorted") (λxs H Q=>∃(p:U0) (ns m:List Int),xs=[.ref p]/\H p=YN (Df P w p ns)/\m.length<64/\(∀x∈ns,x∈m)/\∀(l:U0) (ys:List Int),H l=none->ys.Pairwise (· < ·)->(∀x,x∈ys↔x∈ns)->Q (.ref l) (upd H l (.lst (ys.map V.int)))):=by
 subst z hw;exact sx B
theorem CP{K:Pc}(z:X.K=K):MT X (JG K):=z▸eW
theorem uS{K:Pc}(z:X.K=K):jA X (PySem.compareOp .NotIn) (MU K true):=z▸ig
noncomputable def isZ(z:Int):UW->Bool
 |.int i _=>i==z
 |_=>false
theorem uT:∀{D:List Int}{its:List UW},Vals (D.map V.int) its->∀z:Int,its.countP (isZ z)=D.count z/\∀y∈its,∃x t,y=.int x t
 |[],_,.nil,z=>⟨rfl,λy B=>U4 B Pf⟩
 |x::D,_,.cons r v,z=>by
  obtain⟨t,rfl⟩:=r;obtain⟨H,J⟩:=uT v z;refine⟨?_,λy B=>?_⟩
  .rw[List.countP_cons,Te,H]
   rfl
  rcases Pu.mp B with rfl|B
  .exact⟨x,t,rfl⟩
  exact J y B
def EW:V->List V->Hp->VK->Prop:=λx vs H Q=>∃(l:U0) (B:List Int) (z:Int),x=.ref l/\vs=[.int z]/\H l=YN (.lst (B.map V.int))/\Q (.int ((B.count z:Nat):Int)) H
theorem zU:Fz X "list.count" EW:=by
 intro pins s σ H x vs v us Q I B D h;obtain⟨l,J,z,rfl,rfl,L,q⟩:=h;cases B;obtain⟨u,rfl,M⟩:=D.one;obtain⟨t,rfl⟩:=M;obtain⟨hz,its,k,r,hl,e⟩:=I.nU L;obtain⟨O,V⟩:=uT r z;refine Wd F.slot_list_count ⟨_,e,rfl⟩ F.entry_list_count (F.args_list_count_2 _ _) (SeqAt.list_countAt l its.toArray k none #[] (.int z t) (isZ z)) ⟨e,λy Z=>?_,?_⟩
 .obtain⟨x,t',rfl⟩:=V y (by simpa using Z);exact SeqAt.EqAt.int_int (A:=X.A.in1) (s:=s) x t' z t
 refine⟨.int ((J.count z:Nat):Int),H,I.tok _,⟨s.toks,?_⟩,q⟩;have e2:its.toArray.toList=its:=by simp
 rw[e2,O]
end
end L2
namespace ay
open PySem L2
def Ia(ls:List Int):Prop:=ls.length<=100/\∀x∈ls,0<=x/\x<50
def IK(ls z:List Int):Prop:=z.Pairwise (· < ·)/\∀x,x∈z↔yg ls x
def uU:Sp:=λvs H Q _=>∃(l:U0) (ls:List Int),vs=[.ref l]/\H l=YN (.lst (iV ls))/\ls.length<=100/\∀(p:U0) (z:Hp),H p=none->av H z->z p=YN (.lst (iV (vo ls)))->Q (.ref p) z
def qV:Sp:=λvs H Q _=>∃(l:U0) (ls:List Int),vs=[.ref l]/\H l=YN (.lst (iV ls))/\Ia ls/\∀(p:U0) (z:Hp) (B:List Int),H p=none->av H z->z p=YN (.lst (iV B))->IK ls B->Q (.ref p) z
def k9:Sp:=λvs H Q _=>∃(l:U0) (ls:List Int),vs=[.ref l]/\H l=YN (.lst (iV ls))/\Ia ls/\∀(z:Hp) (B:List Int),av H z->IK ls B->Q (.int (CF ls B)) z
theorem qW{l:List Int}{x:Int}(h:l.getLast?=YN x):qt (iV l) (-1)=YN (.int x):=by
 rw[PV]at h;have z:=(O2.mp h).1;unfold qt yN;rw[aL,UX (by decide),UZ (by omega)];have e:((-1:Int)+((l.length:Nat):Int)).toNat=l.length-1:=by omega
 rw[e];show(iV l)[l.length-1]?=_;unfold iV;rw[O7,h]
 rfl
theorem yp(x:Int):∀l:List Int,kj (.int x) (iV l)=decide (x∈l)
 |[]=>rfl
 |y::r=>by
  have B:=yp x r;unfold kj at B⊢;show((decide (y=x))||(iV r).any _)=_;rw[B];by_cases c:x=y
  .subst c;rw[UU (rfl:x=x),Sx,UU Pb]
  rw[U1 (λz=>c z.symm),Sq];exact decide_eq_decide.mpr ⟨λh=>Pn _ h,λh=>(Pu.mp h).resolve_left c⟩
theorem EX{c:List Int}{x:Int}:(EM c x).length<=c.length+1:=by
 unfold EM
 split
 .omega
 rw[O9];exact O5 _
theorem oZ:∀l:List Int,(cp l).length<=l.length:=by
 refine fS (P:=λl=>(cp l).length<=l.length) (O5 _) λl a h=>?_;rw[su,O9];exact PK EX (Us h)
theorem EY(l:List Int):(vo l).length<=l.length:=by
 unfold vo
 split
 .rw[Sm];have:=oZ l;omega
 exact oZ l
theorem EZ{l:List Int}{x:Int}(h:x∈vo l):x∈l:=by
 refine wy.mp ?_;unfold vo at h
 split at h
 .exact List.dropLast_subset _ h
 exact h
theorem Ia.Fh{ls:List Int}(h:Ia ls)(f:Int->Bool):Ia (ls.filter f):=⟨PK (PJ _ _) h.1,λx z=>h.2 x ((Pd.mp z).1)⟩
def sA(ls z:List Int)(h:Int):Prop:=∀x,yg (ls.filter λy=>!decide (y=h)) x->x∈z
open Classical in
theorem CQ(ls B:List Int):CF ls B=if∃h∈B,sA ls B h then(B.length:Int)else((B.length+B.length%2:Nat):Int):=by
 unfold CF sA;have e:∀h:Int,(ls.filter λy=>decide (y≠h))=ls.filter λy=>!decide (y=h):=λh=>R8 λy _=>by
  by_cases c:y=h
  .rw[UU c];exact U1 (λz=>z c)
  rw[U1 c];exact UU c
 simp only[e]
theorem E1{ls z:List Int}{h:Int}(B:h∈z)(D:sA ls z h):CF ls z=(z.length:Int):=by
 rw[CQ,UZ ⟨h,B,D⟩]
theorem Ib{ls z:List Int}(n:∀h∈z,¬sA ls z h):CF ls z=((z.length+z.length%2:Nat):Int):=by
 rw[CQ,UX λ⟨h,B,D⟩=>n h B D]
theorem IK.len{ls z:List Int}(h:IK ls z)(L:Ia ls):z.length<=50:=by
 have:z.length<=((PX 50).map Int.ofNat).length:=eJ (h.1.imp λa b=>by omega) λx B=>by
  obtain⟨a,b⟩:=L.2 x (wA ((h.2 x).mp B));exact O6.mpr ⟨x.toNat,Px.mpr (by omega),by show((x.toNat:Nat):Int)=x;omega⟩
 rwa[O3,PN]at this
section
variable {rs:List Int}
noncomputable def wJ(rs:List Int)(y:Nat):Nat:=if y%2=0 then pA rs (y/2)else pB rs (y/2)
noncomputable def lM(rs:List Int)(x:Nat):Int:=if x%2=1 then(if(aw rs).getD ((x+1)/2) 0<0 then 2*aE ((aw rs).getD ((x+1)/2) 0)else 2*aE ((aw rs).getD ((x+1)/2) 0)-1)else(if(aw rs).getD ((x+1)/2) 0<0 then 2*aE ((aw rs).getD ((x+1)/2) 0)-1 else 2*aE ((aw rs).getD ((x+1)/2) 0))
theorem Gf(k:Nat):wJ rs (2*k)=pA rs k:=by unfold wJ;rw[UZ (by omega),show 2*k/2=k by omega]
theorem Gg(k:Nat):wJ rs (2*k+1)=pB rs k:=by unfold wJ;rw[UX (by omega),show(2*k+1)/2=k by omega]
theorem KL(fit:bc rs){k:Nat}(D:k<rs.length+1):lM rs (pA rs k)=((2*k:Nat):Int):=by
 have H:=(dX fit D).1;have B:=(bw fit (show k<rs.length+2 by omega)).2;unfold lM;rw[H];by_cases c:(aw rs).getD (bC rs k) 0<0
 .have e:pA rs k=2*bC rs k-1:=by unfold pA;rw[UZ c]
  have J:bC rs k≠0:=λz=>by rw[z,bV]at c;exact U4 c (by decide)
  rw[UZ (by omega),UZ c,B];omega
 have e:pA rs k=2*bC rs k:=by unfold pA;rw[UX c]
 rw[UX (by omega),UX c,B];omega
theorem KQ(fit:bc rs){k:Nat}(B:k<rs.length+1):lM rs (pB rs k)=((2*k+1:Nat):Int):=by
 have D:=(fm fit B).1;have z:=(bw fit (show k+1<rs.length+2 by omega)).2;have H:=l4 fit (k:=k) (by omega);unfold lM;rw[D];by_cases c:(aw rs).getD (bC rs (k+1)) 0<0
 .have e:pB rs k=2*bC rs (k+1):=by unfold pB;rw[UZ c]
  rw[UX (by omega),UZ c,z];omega
 have e:pB rs k=2*bC rs (k+1)-1:=by unfold pB;rw[UX c]
 rw[UZ (by omega),UX c,z];omega
theorem KR(fit:bc rs){x:Nat}(B:x<2*rs.length+2):∃y,y<2*rs.length+2/\lM rs x=(y:Nat)/\wJ rs y=x:=by
 obtain⟨k,z,h⟩:=FH fit B;rcases h with rfl|rfl
 .exact⟨2*k,by omega,KL fit z,Gf k⟩
 exact⟨2*k+1,by omega,KQ fit z,Gg k⟩
theorem KS(fit:bc rs){y:Nat}(z:y<2*rs.length+2):wJ rs y<2*rs.length+2:=by
 unfold wJ
 split
 .exact(dX fit (by omega)).2
 exact(fm fit (by omega)).2
theorem Ic(fit:bc rs){y z:Nat}(B:y<2*rs.length+2)(hz:z<2*rs.length+2)(e:wJ rs y=wJ rs z):y=z:=by
 unfold wJ at e
 split at e
 .split at e
  .have:=Bn fit (by omega) (by omega) e;omega
  exact U4 e (oI fit (by omega) (by omega))
 split at e
 .exact U4 e.symm (oI fit (by omega) (by omega))
 have:=Bo fit (by omega) (by omega) e;omega
noncomputable def c9(n:Nat)(f:Nat->Int):List Int:=(PX n).map f
theorem bQ(n:Nat)(f:Nat->Int):(c9 n f).length=n:=by unfold c9;rw[O3,PN]
theorem wK{n i:Nat}{f:Nat->Int}(h:i<n):(c9 n f)[i]?=YN (f i):=by unfold c9;rw[O7,Q1 h];rfl
theorem hW(n:Nat)(f:Nat->Int):c9 (n+1) f=c9 n f++[f n]:=by unfold c9;rw[QT,Ph];rfl
theorem gg{n i:Nat}{f:Nat->Int}(h:i<n):(iV (c9 n f))[i]?=YN (.int (f i)):=by unfold iV;rw[O7,wK h];rfl
theorem E2{n:Nat}{f:Nat->Int}{l:List Int}(z:l.length=n)(h:∀i,i<n->l[i]?=YN (f i)):l=c9 n f:=by
 refine QR λi=>?_;by_cases c:i<n
 .rw[h i c,wK c]
 rw[Qe (by omega),Qe (by rw[bQ];omega)]
theorem nI{n i:Nat}{f:Nat->Int}{v:Int}:(c9 n f).set i v=c9 n (λj=>if j=i then v else f j):=by
 refine E2 (by rw[Td,bQ]) λj B=>?_;rw[T5,bQ,wK B];by_cases c:i=j
 .rw[UZ c,UZ (by omega),UZ c.symm]
 rw[UX c,UX (λz=>c z.symm)]
theorem hX{n:Nat}{f g:Nat->Int}(h:∀i,i<n->f i=g i):c9 n f=c9 n g:=PF λi hi=>h i (Px.mp hi)
theorem wL(v:Int):∀n:Nat,(Qr n [V.int v]).flatten=iV (c9 n λ_=>v):=λn=>by
 unfold c9 iV;rw[Qc];refine QR λi=>?_;have e:(Qr n [V.int v]).flatten=Qr n (V.int v):=by
  induction n with
  |zero=>rfl
  |succ n z=>rw[Rg,RD,z];rfl
 rw[e,QS,O7];by_cases c:i<n
 .rw[UZ c,Q1 c];rfl
 rw[UX c,Qe (by rw[PN];omega)];rfl
theorem E3(rs:List Int):lM rs (2*rs.length+1)=2*(rs.length:Int)+1:=by
 unfold lM;rw[UZ (by omega),show(2*rs.length+1+1)/2=rs.length+1 by omega,cv,UX (by omega)];unfold aE;rw[UX (by omega)];omega
theorem sC{n i:Nat}(h:i<n):yN n (i:Int)=YN i:=by
 unfold yN;rw[UZ (by omega),UZ (by omega),Pp]
theorem sD{l:List Int}{i:Nat}{v:Int}:(iV l).set i (.int v)=iV (l.set i v):=by unfold iV;rw[Uh]
noncomputable def o4(rs:List Int):List Int:=c9 (2*rs.length+2) λy=>(wJ rs y:Nat)
def yq:Sp:=λvs H Q _=>∃(t:U0) (rs:List Int),vs=[.ref t]/\H t=YN (.tup (iV rs))/\bc rs/\∀(p:U0) (z:Hp),H p=none->av H z->z p=YN (.lst (iV (o4 rs)))->Q (.ref p) z
noncomputable def IL(p q:Int×Int):Bool:=if p.1<q.1 then decide (q.1<p.2)&&decide (p.2<q.2)else decide (p.1<q.2)&&decide (q.2<p.2)
def o5:Sp:=λvs H Q _=>∃(a b:U0) (p q:Int×Int),vs=[.ref a,.ref b]/\H a=YN (.tup (pr p))/\H b=YN (.tup (pr q))/\∀z:Hp,av H z->Q (.bl (IL p q)) z
noncomputable def m5(rs:List Int)(k:Nat):Int×Int:=((dN rs k:Nat),(fG rs k:Nat))
noncomputable def sE(rs:List Int):List (Int×Int):=(PX (rs.length+1)).map (m5 rs)
theorem hZ(rs:List Int):(sE rs).length=rs.length+1:=by unfold sE;rw[O3,PN]
theorem nJ{k:Nat}(h:k<rs.length+1):(sE rs)[k]?=YN (m5 rs k):=by unfold sE;rw[O7,Q1 h];rfl
theorem E4(fit:bc rs){k l:Nat}(z:k<rs.length+1)(B:l<rs.length+1)(ne:k≠l):IL (m5 rs k) (m5 rs l)=true↔vN rs k l:=by
 have nl:dN rs k≠dN rs l:=λe=>by
  have e1:bW rs k (dN rs k):=by unfold bW dN;omega
  have e2:bW rs l (dN rs l):=by unfold bW dN;omega
  rw[e]at e1;exact ne (kL fit z B e1 e2)
 unfold IL m5 vN;dsimp only;by_cases c:dN rs k<dN rs l
 .rw[UZ (by omega),PY,U9,U9];omega
 rw[UX (by omega),PY,U9,U9];omega
end
section
variable {rs:List Int}{ps:List (Int×Int)}{i j:Nat}
structure sZ(rs:List Int) (ps:List (Int×Int)) (i j:Nat):Prop where
 cr:∀p∈ps,∃a b:Nat,p=((a:Int),(b:Int))/\a<rs.length+1/\b<rs.length+1/\vN rs a b
 dn:∀a b:Nat,b<a->(a<i\/a=i/\b<j)->a<rs.length+1->vN rs a b->ay.mk ps (a:Int)=ay.mk ps (b:Int)
theorem sZ.nil:sZ rs [] 0 0:=⟨λp z=>U4 z Pf,λa b B D=>by omega⟩
theorem sZ.skip(h:sZ rs ps i j)(e:vN rs i j->ay.mk ps (i:Int)=ay.mk ps (j:Int)):sZ rs ps i (j+1):=⟨h.cr,λa b B H D c=>by
 by_cases z:a=i/\b=j
 .rw[z.1,z.2]at c⊢;exact e c
 exact h.dn a b B (by omega) D c⟩
theorem CS{m:Int->Int}{p:Int×Int}{x y:Int}(h:m x=m y):yV m p x=yV m p y:=by unfold yV;rw[h]
theorem E5{m:Int->Int}{p:Int×Int}:yV m p p.1=yV m p p.2:=by
 unfold yV;rw[UZ rfl]
 split <;> rfl
theorem sZ.add(h:sZ rs ps i j)(hi:i<rs.length+1)(D:j<rs.length+1)(c:vN rs i j):sZ rs (ps++[((j:Int),(i:Int))]) i (j+1):=by
 refine⟨λp B=>?_,λa b H M J L=>?_⟩
 .rcases Po.mp B with B|B
  .exact h.cr p B
  rw[O4.mp B];exact⟨j,i,rfl,D,hi,c.symm⟩
 rw[gB];by_cases z:a=i/\b=j
 .rw[z.1,z.2];exact(E5 (p:=((j:Int),(i:Int)))).symm
 exact CS (h.dn a b H (by omega) J L)
theorem sZ.next(h:sZ rs ps i i):sZ rs ps (i+1) 0:=⟨h.cr,λa b z D B c=>h.dn a b z (by omega) B c⟩
theorem sZ.iff(h:sZ rs ps (rs.length+1) 0){a b:Nat}(ha:a<rs.length+1)(Z:b<rs.length+1):ay.mk ps (a:Int)=ay.mk ps (b:Int)↔Co rs a b:=by
 constructor
 .intro e;have key:∀{x y:Int},Cn ps x y->(x=y)\/∃a b:Nat,x=a/\y=b/\a<rs.length+1/\b<rs.length+1/\Co rs a b:=λ{x y} c=>by
   induction c with
   | @base p hp =>
    obtain⟨a,b,rfl,B,D,c⟩:=h.cr p hp;exact .inr ⟨a,b,rfl,rfl,B,D,.step (.refl a) B D c⟩
   |refl x=>exact .inl rfl
   |symm _ M =>
    rcases M with rfl|⟨a,b,e1,e2,B,D,c⟩
    .exact .inl rfl
    exact .inr ⟨b,a,e2,e1,D,B,c.symm⟩
   |trans _ _ O H =>
    rcases O with rfl|⟨a,b,e1,e2,B,D,c⟩
    .exact H
    rcases H with rfl|⟨J,L,e3,e4,h3,h4,c'⟩
    .exact .inr ⟨a,b,e1,e2,B,D,c⟩
    have:b=J:=by omega
    subst this;exact .inr ⟨a,L,e1,e4,B,h4,c.trans c'⟩
  rcases key (oG.mp e)with z|⟨J,L,e1,e2,_,_,c⟩
  .have:a=b:=by omega
   rw[this];exact .refl _
  have:a=J:=by omega
  have:b=L:=by omega
  subst J L;exact c
 intro c;clear Z
 induction c with
 |refl=>rfl
 | @step l m _ hl hm V M =>
  rw[M];by_cases q:m<l
  .exact h.dn l m q (by omega) hl V
  by_cases q2:l=m
  .rw[q2]
  exact(h.dn m l (by omega) (by omega) hm V.symm).symm
theorem sZ.j4(h:sZ rs ps i j){a:Nat}(D:a<rs.length+1):0<=ay.mk ps (a:Int)/\ay.mk ps (a:Int)<((rs.length+1:Nat):Int):=by
 have z:=fM ps;by_cases c:Sn ps (a:Int)
 .obtain⟨p,B,e⟩:=z.2 _ c;obtain⟨x,y,rfl,H,J,_⟩:=h.cr p B;rcases e with e|e <;> rw[e] <;> dsimp only <;> omega
 rw[z.1 _ c];omega
structure Mk(rs:List Int) (f:Nat->Int):Prop where
 iff:∀a b:Nat,a<rs.length+1->b<rs.length+1->(f a=f b↔Co rs a b)
 j4:∀a:Nat,a<rs.length+1->0<=f a/\f a<((rs.length+1:Nat):Int)
theorem yr(m:Nat):tQ 0 ((m:Int)-0).toNat=iV (c9 m λx=>ay.mk [] (x:Int)):=by
 rw[Um,Pp];unfold tQ c9 iV;rw[Qc];refine PF λi _=>?_;show V.int _=V.int (id (i:Int));congr 1;simp
def qX:Sp:=λvs H Q _=>∃(l:U0) (rs:List Int),vs=[.ref l]/\dJ pr H l (sE rs)/\bc rs/\∀(p:U0) (z:Hp) (f:Nat->Int),H p=none->av H z->z p=YN (.lst (iV (c9 (rs.length+1) f)))->Mk rs f->Q (.ref p) z
end
section
variable {rs:List Int}
def mL:Sp:=λvs H Q _=>∃(t:U0) (rs:List Int),vs=[.ref t]/\H t=YN (.tup (iV rs))/\bc rs/\∀z:Hp,av H z->Q (.int ((eA (bD rs)).length:Nat)) z
theorem CT(fit:bc rs){k:Nat}(B:k<rs.length+2):(a7 (aw rs))[bC rs k]?=YN (k:Int)/\∀m,m<bC rs k->(a7 (aw rs))[m]?≠YN (k:Int):=by
 obtain⟨D,H⟩:=bw fit B;have at':∀m,m<rs.length+2->(a7 (aw rs))[m]?=YN (aE ((aw rs).getD m 0)):=λm z=>by
  unfold a7;rw[O7,getD_get (by rw[aW];exact z)]
  rfl
 refine⟨by rw[at' _ D,H],λm z e=>?_⟩;rw[at' m (by omega)]at e;have:=fH fit (j:=m) (by omega) (Option.some.inj e);omega
theorem KU(rs:List Int)(k:Nat):(bC rs k:Int)-(if decide ((aw rs).getD (bC rs k) 0<0)=true then 1 else 0)=cV rs k:=by
 unfold cV kA;by_cases c:(aw rs).getD (bC rs k) 0<0
 .rw[UZ (UU c),UZ c]
 rw[UX (by rw[U1 c];decide),UX c,Um]
theorem KW(rs:List Int)(k:Nat):(bC rs k:Int)-(if decide ((aw rs).getD (bC rs k) 0 ≥ 0)=true then 1 else 0)=dv rs k:=by
 unfold dv kB;by_cases c:(aw rs).getD (bC rs k) 0<0
 .rw[UX (by rw[U1 (by omega)];decide),UZ c,Um]
 rw[UZ (UU (by omega)),UX c]
theorem E6(fit:bc rs){k:Nat}(J:k<rs.length+1):∃a b:Nat,cV rs k=a/\dv rs (k+1)=b/\a<rs.length+1/\b<rs.length+1:=by
 obtain⟨⟨z,D⟩,⟨B,H⟩⟩:=iu fit (vJ rs k) (Pj (fY J));exact⟨(cV rs k).toNat,(dv rs (k+1)).toNat,by have z:0<=cV rs k:=z;omega,by have B:0<=dv rs (k+1):=B;omega,by have z:0<=cV rs k:=z;have D:cV rs k<_:=D;omega,by have B:0<=dv rs (k+1):=B;have H:dv rs (k+1)<_:=H;omega⟩
theorem zV{k:Nat}(z:k<rs.length+1):(bD rs).take (k+1)=(bD rs).take k++[(cV rs k,dv rs (k+1))]:=take_snoc (fY z)
theorem zW(fit:bc rs){fs:List Int}(nd:fs.Nodup)(mem:∀x,x∈fs↔x∈c9 (rs.length+1) λx=>mk (bD rs) (x:Int)):fs.length=(eA (bD rs)).length:=by
 obtain⟨L,H,J⟩:=yW fit;rw[<-jP,<-J];have z:∀x,x∈fs↔∃i:Nat,i<rs.length+1/\mk (bD rs) (i:Int)=x:=λx=>by
  rw[mem];unfold c9;rw[O6];exact⟨λ⟨i,a,b⟩=>⟨i,Px.mp a,b⟩,λ⟨i,a,b⟩=>⟨i,Px.mpr a,b⟩⟩
 have cn:=(oF (bD rs)).1;have idem:∀x,mk (bD rs) (mk (bD rs) x)=mk (bD rs) x:=λx=>(oG.mpr (cn x)).symm;have D:=fM (bD rs);refine One.cn (ps:=bD rs) (S:=FE rs) ⟨nd,λa B=>?_,λx M=>?_,λa B b O c=>?_⟩ H
 .obtain⟨i,hi,rfl⟩:=(z a).mp B;by_cases c:Sn (bD rs) (i:Int)
  .obtain⟨p,V,e⟩:=D.2 _ c;have:=iu fit p V;rcases e with e|e <;> rw[e]
   .exact this.1
   exact this.2
  rw[D.1 _ c];exact⟨by omega,by omega⟩
 .obtain⟨Z,x2⟩:=M;refine⟨mk (bD rs) x,(z _).mpr ⟨x.toNat,by omega,by rw[show((x.toNat:Nat):Int)=x by omega]⟩,(cn x).symm⟩
 obtain⟨i,hi,rfl⟩:=(z a).mp B;obtain⟨j,hj,rfl⟩:=(z b).mp O;have:=oG.mpr c;rwa[idem,idem]at this
end
section
variable {rs:List Int}{f:Nat->Int}{T:List Int}
noncomputable def tx(rs:List Int)(x:Nat):Nat:=(lM rs x).toNat/2
theorem KY(fit:bc rs){k:Nat}(z:k<rs.length+1):tx rs (pA rs k)=k:=by unfold tx;rw[KL fit z];omega
theorem KZ(fit:bc rs){k:Nat}(z:k<rs.length+1):tx rs (pB rs k)=k:=by unfold tx;rw[KQ fit z];omega
theorem my(fit:bc rs){x:Nat}(B:x<2*rs.length+2):tx rs x<rs.length+1/\bW rs (tx rs x) x:=by
 obtain⟨k,z,h⟩:=FH fit B;rcases h with rfl|rfl
 .rw[KY fit z];exact⟨z,.inl rfl⟩
 rw[KZ fit z];exact⟨z,.inr rfl⟩
theorem o6(fit:bc rs){k x:Nat}(z:k<rs.length+1)(h:bW rs k x):tx rs x=k/\x<2*rs.length+2:=by
 rcases h with rfl|rfl
 .exact⟨KY fit z,(dX fit z).2⟩
 exact⟨KZ fit z,(fm fit z).2⟩
theorem nK(fit:bc rs){k x:Nat}(z:k<rs.length+1)(h:bW rs k x):ow (aw rs) (x/2)=pK rs k:=by
 obtain⟨c,d,B,D,_⟩:=dY fit z;unfold pK;rcases h with rfl|rfl
 .rfl
 rw[de B,de D]
theorem yt(fit:bc rs){k x:Nat}(M:k<rs.length+1)(h:bW rs k x):isOpen (aw rs) (x/2)=true↔dN rs k+1<fG rs k:=by
 have hx:=(o6 fit M h).2;have ne:=oI fit M M;obtain⟨q1,q2⟩:=bw fit (show k<rs.length+2 by omega);obtain⟨r1,r2⟩:=bw fit (show k+1<rs.length+2 by omega);have rp:=l4 fit (k:=k) (by omega);have npq:bC rs k≠bC rs (k+1):=λe=>by have:=fI fit (show k<rs.length+2 by omega) (show k+1<rs.length+2 by omega) e;omega
 have J:∀z:Int,(z<0/\aE z=-z)\/(0<=z/\aE z=z):=λz=>by
  unfold aE;by_cases c:z<0
  .rw[UZ c];exact .inl ⟨c,rfl⟩
  rw[UX c];exact .inr ⟨by omega,rfl⟩
 constructor
 .intro o;refine Pa λng=>?_;have hl:fG rs k=dN rs k+1:=by unfold fG dN at *;omega
  unfold isOpen at o;have o:=U6 o;have O:pA rs k=if(aw rs).getD (bC rs k) 0<0 then 2*bC rs k-1 else 2*bC rs k:=rfl;have V:pB rs k=if(aw rs).getD (bC rs (k+1)) 0<0 then 2*bC rs (k+1)else 2*bC rs (k+1)-1:=rfl;have z0:(aw rs).getD (bC rs k) 0<0->bC rs k≠0:=λc e=>by rw[e,bV]at c;exact U4 c (by decide)
  have hx2:x=pA rs k\/x=pB rs k:=h;unfold fG dN at hl;rcases J ((aw rs).getD (bC rs k) 0)with⟨B,L⟩|⟨B,L⟩ <;> rcases J ((aw rs).getD (bC rs (k+1)) 0)with⟨D,H⟩|⟨D,H⟩
  .have:=z0 B;rw[UZ B]at O;rw[UZ D]at V;have e3:bC rs k=bC rs (k+1)+1:=by omega
   have Z:x/2=bC rs (k+1):=by omega
   rw[Z,<-e3]at o;omega
  .have:=z0 B;rw[UZ B]at O;rw[UX (by omega)]at V;omega
  .rw[UX (by omega)]at O;rw[UZ D]at V;omega
  rw[UX (by omega)]at O;rw[UX (by omega)]at V;have e3:bC rs (k+1)=bC rs k+1:=by omega
  have Z:x/2=bC rs k:=by omega
  rw[Z,<-e3]at o;omega
 intro lt;refine Pa λng=>?_;have sh:(aw rs).getD (x/2+1) 0=(aw rs).getD (x/2) 0+1:=Pa λz=>ng (by unfold isOpen;exact UU z);have hg:x/2<rs.length+1:=by omega
 have key:∀m:Nat,m<rs.length+1->(pA rs m=2*(x/2)/\pB rs m=2*(x/2)+1\/pA rs m=2*(x/2)+1/\pB rs m=2*(x/2))->False:=λm hm e=>by
  have em:bW rs m x:=by unfold bW;omega
  have:m=k:=kL fit hm M em h;subst this;unfold dN fG at lt;omega
 obtain⟨c,c1,c2,c3⟩:=kJ fit (j:=x/2) (by omega);obtain⟨d,d1,d2,d3⟩:=kJ fit (j:=x/2+1) (by omega);have np:=iw fit (p:=x/2+1) (by omega) (by omega);rcases J ((aw rs).getD (x/2) 0)with⟨B,L⟩|⟨B,L⟩
 .rcases J ((aw rs).getD (x/2+1) 0)with⟨D,H⟩|⟨D,H⟩
  .have e:c=d+1:=by rw[L]at c1;rw[H]at d1;omega
   refine key d (by omega) (.inr ⟨?_,?_⟩)
   .unfold pA;rw[d2,UZ D];omega
   unfold pB;rw[<-e,c2,UZ B]
  omega
 have e:d=c+1:=by
  rcases J ((aw rs).getD (x/2+1) 0)with⟨D,H⟩|⟨D,H⟩
  .omega
  rw[L]at c1;rw[H]at d1;omega
 refine key c (by omega) (.inl ⟨?_,?_⟩)
 .unfold pA;rw[c2,UX (by omega)]
 unfold pB;rw[<-e,d2,UX (by omega)];omega
noncomputable def cB(rs:List Int)(f:Nat->Int)(T:List Int)(k:Nat):Bool:=decide (((fG rs k:Nat):Int)-((dN rs k:Nat):Int)>1) && !decide (f k∈T)
noncomputable def Tn(rs:List Int)(f:Nat->Int)(i:Nat):List Int:=((PX i).filter λk=>c6 rs k != c6 rs (k+1)).map f
theorem E7(i:Nat):Tn rs f (i+1)=Tn rs f i++(if(c6 rs i != c6 rs (i+1))=true then[f i]else[]):=by
 unfold Tn;rw[QT,Qd,Ph,Qq,Qt]
 split <;> rfl
theorem Ie(i:Nat):(Tn rs f i).length<=i:=by
 unfold Tn;rw[O3];exact PK (PJ _ _) (by rw[PN];exact O5 _)
theorem CU(a b:Prop)[Decidable a][Decidable b]:(decide a != decide b)=true↔¬(a↔b):=by
 by_cases x:a <;> by_cases y:b <;> simp[x,y]
theorem CV(fit:bc rs)(M:Mk rs f){k x:Nat}(z:k<rs.length+1)(h:bW rs k x):cB rs f (Tn rs f (rs.length+1)) k=true↔isOpen (aw rs) (x/2)=true/\ow (aw rs) (x/2)∈KN rs:=by
 unfold cB;rw[PY,U9,Rn,VL,yt fit z h,nK fit z h,uL fit];have L:=(o6 fit z h).2;have D:f k∉Tn rs f (rs.length+1)↔∀l,l<rs.length+1->pK rs l=pK rs k->(vn rs l↔vn rs (l+1)):=by
  unfold Tn;rw[O6];constructor
  .intro n l B e;refine Pa λc=>n ⟨l,Pd.mpr ⟨Px.mpr B,?_⟩,(M.iff l k B z).mpr ((vP fit B z).mpr e)⟩;exact(CU _ _).mpr c
  rintro a ⟨l,B,e⟩;obtain⟨H,J⟩:=Pd.mp B;have B:=Px.mp H;exact(CU _ _).mp J (a l B ((vP fit B z).mp ((M.iff l k B z).mp e)))
 rw[D];constructor
 .rintro⟨a,b⟩;exact⟨by omega,⟨x/2,by omega,(yt fit z h).mpr (by omega),nK fit z h⟩,b⟩
 rintro⟨a,_,b⟩;exact⟨by omega,b⟩
noncomputable def lN(rs:List Int)(f:Nat->Int)(T:List Int)(i x:Nat):Int:=if decide (tx rs x<i)&&cB rs f T (tx rs x)then f (tx rs x)else -1
open Classical in
theorem K0(fit:bc rs)(M:Mk rs f):(c9 (2*rs.length+2) (lN rs f (Tn rs f (rs.length+1)) (rs.length+1))).filter (λx=>decide (x ≥ 0))=(qR rs (·∈KN rs)).map λx=>f (tx rs x):=by
 unfold c9;rw[RB];have e1:(PX (2*rs.length+2)).filter ((λx=>decide (x ≥ 0)) ∘ lN rs f (Tn rs f (rs.length+1)) (rs.length+1))=qR rs (·∈KN rs):=by
  unfold qR;refine R8 λx B=>?_;have B:=Px.mp B;obtain⟨D,H⟩:=my fit B;have J:=CV fit M D H;have r:=M.j4 _ D;have e2:(isOpen (aw rs) (x/2)&&@decide ((λp=>p∈KN rs) (ow (aw rs) (x/2))) (propDecidable _))=true↔cB rs f (Tn rs f (rs.length+1)) (tx rs x)=true:=by
   rw[J,PY];exact and_congr_right λ_=>⟨λz=>@of_decide_eq_true _ (propDecidable _) z,λz=>@decide_eq_true _ (propDecidable _) z⟩
  rw[QA,e2];show decide (lN rs f _ _ x ≥ 0)=true↔_;rw[U9];unfold lN;rw[UU D,TR];by_cases c:cB rs f (Tn rs f (rs.length+1)) (tx rs x)=true
  .rw[UZ c];exact⟨λ_=>c,λ_=>r.1⟩
  rw[UX c];exact⟨λz=>U4 z (by decide),λz=>U4 z c⟩
 rw[e1];refine PF λx B=>?_;obtain⟨B,L,O⟩:=fO.mp B;obtain⟨D,H⟩:=my fit B;have:=(CV fit M D H).mpr ⟨L,O⟩;unfold lN;rw[UU D,TR,UZ this]
theorem E8(fit:bc rs)(M:Mk rs f):uN rs λx=>f (tx rs x):=⟨λx y D H=>by
 obtain⟨z,J⟩:=my fit D;obtain⟨B,L⟩:=my fit H;rw[M.iff _ _ z B,vP fit z B,nK fit z J,nK fit B L]⟩
theorem CW(fit:bc rs)(M:Mk rs f):Ia ((c9 (2*rs.length+2) (lN rs f (Tn rs f (rs.length+1)) (rs.length+1))).filter λx=>decide (x ≥ 0)):=by
 have D:=fit.small;refine⟨PK (PJ _ _) (by rw[bQ];omega),λv z=>?_⟩;rw[K0 fit M]at z;obtain⟨x,B,rfl⟩:=O6.mp z;have:=M.j4 _ (my fit (fO.mp B).1).1;omega
theorem zX(fit:bc rs)(M:Mk rs f){z:List Int}(h:IK ((c9 (2*rs.length+2) (lN rs f (Tn rs f (rs.length+1)) (rs.length+1))).filter λx=>decide (x ≥ 0)) z):(rs.length:Int)+1-(eA (bD rs)).length+CF ((c9 (2*rs.length+2) (lN rs f (Tn rs f (rs.length+1)) (rs.length+1))).filter λx=>decide (x ≥ 0)) z=l9 rs:=by
 rw[K0 fit M]at h⊢;rw[CI fit (E8 fit M) h.1 h.2]
 rfl
theorem CY(x:Nat):lN rs f T 0 x=-1:=by
 unfold lN;rw[U1 (QU _),RJ]
 rfl
theorem Ig(fit:bc rs){i:Nat}(hi:i<rs.length+1)(c:cB rs f T i=false){x:Nat}:lN rs f T (i+1) x=lN rs f T i x:=by
 unfold lN;by_cases z:tx rs x=i
 .rw[z,c,SI,SI]
 have:decide (tx rs x<i+1)=decide (tx rs x<i):=decide_eq_decide.mpr (by omega);rw[this]
theorem E9(fit:bc rs){i:Nat}(hi:i<rs.length+1)(c:cB rs f T i=true){x:Nat}(B:x<2*rs.length+2):lN rs f T (i+1) x=if x=fG rs i then f i else if x=dN rs i then f i else lN rs f T i x:=by
 have e1:bW rs i (dN rs i):=by unfold bW dN;omega
 have e2:bW rs i (fG rs i):=by unfold bW fG;omega
 unfold lN;by_cases z:tx rs x=i
 .have ex:=(my fit B).2;rw[z]at ex;have:x=fG rs i\/x=dN rs i:=by unfold bW at ex;unfold fG dN;omega
  rw[z,c,UU (by omega),Bool.and_true,UZ rfl];rcases this with h|h
  .rw[UZ h]
  by_cases q:x=fG rs i
  .rw[UZ q]
  rw[UX q,UZ h]
 have D:x≠fG rs i:=λe=>z (by rw[e];exact(o6 fit hi e2).1);have H:x≠dN rs i:=λe=>z (by rw[e];exact(o6 fit hi e1).1);have:decide (tx rs x<i+1)=decide (tx rs x<i):=decide_eq_decide.mpr (by omega);rw[this,UX D,UX H]
end
theorem CZ{a b:Int}{ns:List Int}(z:ns.Perm [a,b])(B:ns.Pairwise (·<=·)):ns=[min a b,max a b]:=by
 match ns,z.length_eq with
 |[x,y],_ =>
  have M:=(SF.mp B).1 y Pb;have D:x∈[a,b]:=z.mem_iff.mp Pb;have H:a∈[x,y]:=z.mem_iff.mpr Pb;have J:b∈[x,y]:=z.mem_iff.mpr (Pn _ Pb);have L:y∈[a,b]:=z.mem_iff.mp (Pn _ Pb);simp only[Pu,Pf,or_false]at D L H J;have e1:x=min a b:=by omega
  have e2:y=max a b:=by omega
  rw[e1,e2]
theorem yu:∀bs:List Bool,kj (.bl true) (bs.map V.bl)=decide (true∈bs)
 |[]=>rfl
 |y::r=>by
  have z:=yu r;unfold kj at z⊢;rw[Qk,RC,z];cases y
  .show(false||decide (true∈r))=_;rw[Sq];exact decide_eq_decide.mpr ⟨λh=>Pn _ h,λh=>(Pu.mp h).resolve_left (by decide)⟩
  show(true||_)=_;rw[Sx,UU Pb]
theorem sG:∀bs:List Bool,(bs.map V.bl).all jF=true
 |[]=>rfl
 |_::r=>sG r
noncomputable def uV(rs:List Int):List Int:=[0]++rs++[0]
theorem wM{rs:List Int}(fit:bc rs){k:Nat}(J:k<rs.length+2):(∃x∈uV rs,x<0/\aE x=(k:Int))↔c6 rs k=true:=by
 rw[<-t9 fit J];unfold uV;constructor
 .rintro⟨x,B,D,L⟩;have e:x=-(k:Int):=by unfold aE at L;rw[UZ D]at L;omega
  rcases Po.mp B with B|B
  .rcases Po.mp B with B|B
   .rw[O4.mp B]at D;exact U4 D (by decide)
   rw[<-e];exact B
  rw[O4.mp B]at D;exact U4 D (by decide)
 intro h;have H:=(t9 fit J).mp h;have M:k≠0:=λz=>by
  subst z;unfold c6 at H;rw[fj fit,bV]at H;exact U4 H (by decide)
 refine⟨-(k:Int),PR _ (PB _ h),by omega,?_⟩;unfold aE;rw[UZ (by omega)];omega
def qY:Sp:=λvs H Q _=>∃(t:U0) (rs:List Int),vs=[.ref t]/\H t=YN (.tup (iV rs))/\bc rs/\∀z:Hp,av H z->Q (.int (l9 rs)) z
theorem yv{l:List Int}{m:Nat}{x:Int}(B:l[m]?=YN x)(P:Int->Prop):(∃y∈l.take (m+1),P y)↔(∃y∈l.take m,P y)\/P x:=by
 rw[take_snoc B];constructor
 .rintro⟨y,z,h⟩;rcases Po.mp z with z|z
  .exact .inl ⟨y,z,h⟩
  rw[O4.mp z]at h;exact .inr h
 rintro(⟨y,z,h⟩|h)
 .exact⟨y,PR _ z,h⟩
 exact⟨x,PB _ (O4.mpr rfl),h⟩
theorem qZ{bs:List Bool}{b:Bool}:true∈bs++[b]↔true∈bs\/b=true:=by
 rw[Po,O4];exact⟨λh=>h.imp id Eq.symm,λh=>h.imp id Eq.symm⟩
open NK
theorem Gh(x:Int):∀l:List Int,kj (.int x) (iV l)=decide (x∈l)
 |[]=>rfl
 |y::r=>by
  have B:=Gh x r;unfold kj at B⊢;show((decide (y=x))||(iV r).any _)=_;rw[B];by_cases c:x=y
  .subst c;rw[UU (rfl:x=x),Sx,UU Pb]
  rw[U1 (λz=>c z.symm),Sq];exact decide_eq_decide.mpr ⟨λz=>Pn _ z,λz=>(Pu.mp z).resolve_left c⟩
theorem nL(l:List Int):(iV l).all jF=true:=QY.mpr λv z=>by
 obtain⟨x,_,rfl⟩:=O6.mp z
 rfl
def sI:Sp:=λvs H Q _=>∃(t:U0) (rs:List Int),vs=[.ref t]/\H t=YN (.tup (iV rs))/\bc rs/\∀z:Hp,av H z->Q (.int (jJ (eE rs))) z
def yw:Sp:=λvs H Q _=>∃(l:U0) (rs:List Int) (spot:Nat) (low:Int),vs=[.ref l,.int spot]/\H l=YN (.lst (iV rs))/\rs.Perm (bH rs.length)/\rs[spot]?=YN low/\rs.length<=40/\∀(r:U0) (B:Hp) (z:List Int),av H B->B r=YN (.lst (iV z))->z.Perm (bH z.length)->z.length=rs.length+3->Q (.ref r) B
def yy:Sp:=λvs H Q _=>∃c:Int,vs=[.int c]/\∀(t:U0) (z:Hp) (rs:List Int),av H z->z t=YN (.tup (iV rs))->bc rs->rs.length<=30->Q (.ref t) z
variable (P:U8)(w:Va)
end ay
set_option maxHeartbeats 2000000
open ay (gW iV aL aw jI aW c7 b6 aE kA kB bP vJ bw rW Sn gB FG ia gM iz cW Kn fZ Af mX ug cX GK ow Bg GI kQ wo iK KD jC cG i7 nE j5 Es uD pN dh eV bh eO eA aN g7 kW i6 ma Nd RW aK BZ sf si cx dw iI d9 dQ mh we jS B0 dg sd dO sj eE bE jJ nL sI l9 kq Rw a7 n4 cu iR bH mW Hc Bb cp EM oZ vo CF sA yp IL c9 lM bQ hW wL wJ gg sC sD nI o4 hX hZ m5 nJ sZ bD CT bC sE Mk Tn lN bW dN fG o6 cB uV c6 wM yu pA pB bc)
open NK (gb iZ rT zh)
namespace Law
open PySem L2
noncomputable def top(i:Nat):Stmt:=PySem.Challenge.pw_claspwork_k48_whole_score_by_crossing_ti.main.body.getD i (.Pass ⟨0,0,0,0⟩)
noncomputable abbrev dy:Stmt:=top 1
noncomputable abbrev fq:Stmt:=top 2
noncomputable abbrev gm:Stmt:=top 3
noncomputable abbrev ft:Stmt:=top 4
noncomputable abbrev bT:Stmt:=top 5
noncomputable abbrev dk:Stmt:=top 6
noncomputable abbrev eP:Stmt:=top 7
noncomputable abbrev gn:Stmt:=top 8
noncomputable abbrev eQ:Stmt:=top 10
noncomputable abbrev jf:Stmt:=top 11
noncomputable abbrev bX:Stmt:=top 12
noncomputable abbrev dz:Stmt:=top 13
noncomputable abbrev dm:Stmt:=top 14
noncomputable abbrev h7:Stmt:=top 15
noncomputable abbrev gq:Stmt:=top 16
noncomputable abbrev fu:Stmt:=top 17
noncomputable abbrev fw:Stmt:=top 18
noncomputable abbrev fy:Stmt:=top 19
noncomputable abbrev fQ:Stmt:=top 20
noncomputable abbrev dA:Stmt:=top 22
noncomputable abbrev da:Stmt:=top 23
noncomputable abbrev d6:Stmt:=top 24
noncomputable abbrev d7:Stmt:=top 25
noncomputable abbrev gD:Stmt:=top 26
noncomputable abbrev fz:Stmt:=top 27
noncomputable abbrev cz:Stmt:=top 28
noncomputable abbrev fA:Stmt:=top 29
noncomputable abbrev cH:Stmt:=top 30
noncomputable abbrev cU:Stmt:=top 31
noncomputable abbrev bY:Stmt:=top 32
noncomputable abbrev gE:Stmt:=top 33
noncomputable abbrev cA:Stmt:=top 34
noncomputable abbrev C0:Stmt:=top 35
theorem zY:aR ["row"] ["row"] (aH dy):=⟨rfl,rfl,rfl,by decide +kernel,rfl,by decide +kernel,by decide +kernel⟩
theorem lj:aR ["row","numbers"] ["row"] (aH fq):=⟨rfl,rfl,rfl,by decide +kernel,rfl,by decide +kernel,by decide +kernel⟩
theorem fB:aR ["row","leaving","coming","place","number"] ["row"] (aH gm):=⟨rfl,rfl,rfl,by decide +kernel,rfl,by decide +kernel,by decide +kernel⟩
theorem sJ:aR ["row"] ["row"] (aH ft):=⟨rfl,rfl,rfl,by decide +kernel,rfl,by decide +kernel,by decide +kernel⟩
theorem ba:aR ["pairs","groups","first","second","kept","lost","number","found","place","pair"] ["pairs"] (aH bT):=⟨rfl,rfl,rfl,by decide +kernel,rfl,by decide +kernel,by decide +kernel⟩
theorem iD:aR ["row","numbers","spans"] ["row"] (aH dk):=⟨rfl,rfl,rfl,by decide +kernel,rfl,by decide +kernel,by decide +kernel⟩
theorem dE:aR ["numbers","first","begin","sign","highest","last","amount"] ["numbers","first"] (aH eP):=⟨rfl,rfl,rfl,by decide +kernel,rfl,by decide +kernel,by decide +kernel⟩
theorem fD:aR ["row","told","first","last","gap"] ["row"] (aH gn):=⟨rfl,rfl,rfl,by decide +kernel,rfl,by decide +kernel,by decide +kernel⟩
theorem dP:aR ["row","numbers","belongs","minuses","gap","beside"] ["row"] (aH eQ):=⟨rfl,rfl,rfl,by decide +kernel,rfl,by decide +kernel,by decide +kernel⟩
theorem eR:aR ["kins","web","kin","group","chain","linked"] ["kins"] (aH jf):=⟨rfl,rfl,rfl,by decide +kernel,rfl,by decide +kernel,by decide +kernel⟩
theorem gr:aR ["chain","kins","around"] ["chain","kins"] (aH bX):=⟨rfl,rfl,rfl,by decide +kernel,rfl,by decide +kernel,by decide +kernel⟩
theorem bM:aR ["row","knots","web","spare","thing","linked"] ["row"] (aH dz):=⟨rfl,rfl,rfl,by decide +kernel,rfl,by decide +kernel,by decide +kernel⟩
theorem m6:aR ["web","knots"] ["web","knots"] (aH dm):=⟨rfl,rfl,rfl,by decide +kernel,rfl,by decide +kernel,by decide +kernel⟩
theorem wN:aR ["web"] ["web"] (aH h7):=⟨rfl,rfl,rfl,by decide +kernel,rfl,by decide +kernel,by decide +kernel⟩
theorem fE:aR ["end","web","leg","onward","thing"] ["end","web"] (aH gq):=⟨rfl,rfl,rfl,by decide +kernel,rfl,by decide +kernel,by decide +kernel⟩
theorem fR:aR ["row","knots","web","legs"] ["row"] (aH fu):=⟨rfl,rfl,rfl,by decide +kernel,rfl,by decide +kernel,by decide +kernel⟩
theorem sL:aR ["row"] ["row"] (aH fw):=⟨rfl,rfl,rfl,by decide +kernel,rfl,by decide +kernel,by decide +kernel⟩
theorem lq:aR ["legs","many"] ["legs"] (aH fy):=⟨rfl,rfl,rfl,by decide +kernel,rfl,by decide +kernel,by decide +kernel⟩
theorem pS:aR ["row"] ["row"] (aH fQ):=⟨rfl,rfl,rfl,by decide +kernel,rfl,by decide +kernel,by decide +kernel⟩
theorem o7:aR ["script","k"] ["script","k"] (aH dA):=⟨rfl,rfl,rfl,by decide +kernel,rfl,by decide +kernel,by decide +kernel⟩
theorem aU:aR ["script","at","many","row","k","cell","first","stretch"] ["script","at","many"] (aH da):=⟨rfl,rfl,rfl,by decide +kernel,rfl,by decide +kernel,by decide +kernel⟩
theorem aS:aR ["script","at","room","row","k","cell","spot","low","inner","flipped"] ["script","at","room"] (aH d6):=⟨rfl,rfl,rfl,by decide +kernel,rfl,by decide +kernel,by decide +kernel⟩
theorem gN:aR ["row","spot","low"] ["row","spot"] (aH d7):=⟨rfl,rfl,rfl,by decide +kernel,rfl,by decide +kernel,by decide +kernel⟩
theorem cI:aR ["cell","row","deep","spot"] ["cell"] (aH gD):=⟨rfl,rfl,rfl,by decide +kernel,rfl,by decide +kernel,by decide +kernel⟩
theorem bZ:aR ["row","line","number","pair","spots","spot"] ["row"] (aH fz):=⟨rfl,rfl,rfl,by decide +kernel,rfl,by decide +kernel,by decide +kernel⟩
theorem m7:aR ["one","two"] ["one","two"] (aH cz):=⟨rfl,rfl,rfl,by decide +kernel,rfl,by decide +kernel,by decide +kernel⟩
theorem d8:aR ["arcs","marks","one","two"] ["arcs"] (aH fA):=⟨rfl,rfl,rfl,by decide +kernel,rfl,by decide +kernel,by decide +kernel⟩
theorem gO:aR ["labels","found","label"] ["labels"] (aH cH):=⟨rfl,rfl,rfl,by decide +kernel,rfl,by decide +kernel,by decide +kernel⟩
theorem jg:aR ["labels","blocks"] ["labels"] (aH cU):=⟨rfl,rfl,rfl,by decide +kernel,rfl,by decide +kernel,by decide +kernel⟩
theorem cJ:aR ["labels","hurdles","hurdle","left"] ["labels"] (aH bY):=⟨rfl,rfl,rfl,by decide +kernel,rfl,by decide +kernel,by decide +kernel⟩
theorem bz:aR ["row","spots","k","arcs","marks","signs","turned_marks","one","two","labels"] ["row"] (aH gE):=⟨rfl,rfl,rfl,by decide +kernel,rfl,by decide +kernel,by decide +kernel⟩
theorem a6:aR ["row","numbers","amounts","marks","k","spot","other","one","two"] ["row"] (aH cA):=⟨rfl,rfl,rfl,by decide +kernel,rfl,by decide +kernel,by decide +kernel⟩
theorem mz:aR ["script","head","row","found"] ["script"] (aH C0):=⟨rfl,rfl,rfl,by decide +kernel,rfl,by decide +kernel,by decide +kernel⟩
structure Bl(mg:Vl->Option UW):Prop where
 «abs»:mg "abs" = none
 «all»:mg "all" = none
 «any»:mg "any" = none
 «bool»:mg "bool" = none
 «enumerate»:mg "enumerate" = none
 «int»:mg "int" = none
 «isinstance»:mg "isinstance" = none
 «len»:mg "len" = none
 «list»:mg "list" = none
 «max»:mg "max" = none
 «range»:mg "range" = none
 «reversed»:mg "reversed" = none
 «set»:mg "set" = none
 «sorted»:mg "sorted" = none
 «tuple»:mg "tuple" = none
section
variable {P:U8}{w:Va}{K:Pc}{mg:Vl->Option UW}{base:Vi}
theorem jy{f:U0}{M:Ve}(B:Bl mg)(F:Fn K mg "framed" dy ["row"] f M):aT P w K mg base b7 1 f M ["row"] gW:=by
 refine F.fn.ok zY (λvs H Q E h=>?_) (λjr A outer s H vs Q E hr h=>?_)
 .obtain⟨t,rs,rfl,_⟩:=h
  rfl
 obtain⟨t,rs,rfl,O,hn,k⟩:=h;refine⟨_,(ax (aX (aD xu (aD xu (nR (af ao ah)) (pv 0)) (nR (af (aD aQ (aC aA rfl B.len aY (af (pv 0) ah)) ao) ah))))),?_⟩;have z:(iV rs).length=rs.length:=aL rs;refine⟨by show 1<=U7;decide,λp hp=>?_⟩;have V:av H (upd H p (.tup [.int 0])):=aj hp;refine⟨_,rfl,p,t,_,_,rfl,rfl,ag,V _ _ O,Qx (aB (by show 1+_<=1000;omega)),λq Z s2 hq=>?_⟩;have D:=V.trans s2;refine⟨_,rfl,t,_,rfl,.inr (b0.of (D _ _ O)),_,_,rfl,rfl,by show 1<=U7;decide,λr J=>?_⟩;have s3:av Z (upd Z r (.tup [.int (((iV rs).length:Nat)+1)])):=aj J;refine⟨q,r,_,_,rfl,rfl,s3 _ _ hq,ag,Qx (aB (by rw[O9,z];show 1+_+1<=1000;omega)),λt' H2 s4 L=>?_⟩;refine k t' H2 ((D.trans s3).trans s4) ?_;rw[L,z];unfold aw iV;rw[Qk,Ph]
 rfl
theorem sM{f f1:U0}{fd Z:Ve}(B:Bl mg)(F:Fn K mg "open_gaps" fq ["row"] f fd)(J:Fn K mg "framed" dy ["row"] f1 Z):aT P w K mg base b7 2 f fd ["row"] ay.oq:=by
 have L:aT P w K mg base b7 1 f1 Z ["row"] gW:=jy B J;refine F.fn.ok lj (λvs H Q E h=>?_) (λjr A outer s H vs Q E hr h=>?_)
 .obtain⟨t,rs,rfl,_⟩:=h
  rfl
 obtain⟨t,rs,rfl,ht,hn,k⟩:=h;refine⟨_,(ai (aF (i:=1) lj.nd rfl (Or.inr rfl) (br L J (hr.mono (by decide)) (af (pv 0) ah)))
  (ax (aX (bN (NC:=["gap","numbers"]) rfl (bO (c:=s.heap.objs.size+1) (j:=1) rfl (by decide +kernel) (by decide +kernel) rfl rfl rfl rfl rfl) (cg rfl B.range (af (aD aQ (aC aA rfl B.len aY (af (pv 0) ah)) ao) ah)) (λ_ _ _ _=>(aG (i:=0) (show(["gap","numbers"]:List Vl).Nodup by decide +kernel) rfl (Or.inl rfl))) (λ_ _ _ _=>(cZ (aI tH (aP (fL (K:=K) rfl) (pv 1) (aD aQ (pv 0) ao) (λ_ _=>rfl)) (aD aQ (aP (fL (K:=K) rfl) (pv 1) (pv 0) (λ_ _=>rfl)) ao) (aJ _)))) (λ_ _ _ _=>(pv 0)))))),?_⟩
 have M:(iV rs).length=rs.length:=aL rs;refine⟨_,rfl,t,rs,rfl,ht,hn,λt1 H1 s1 C1=>?_⟩;refine⟨_,rfl,t,_,rfl,.inr (b0.of (s1 _ _ ht)),_,_,rfl,rfl,_,rfl,by rw[M];omega,by rw[M];omega,λD hD=>?_⟩;refine fX (λi σ H2=>∃v:Option V,σ=[v,YN (.ref t1)]/\av H1 H2/\H2 D=YN (.lst (iV (jI (aw rs) i)))) ⟨none,rfl,aj hD,ag⟩ ?_ ?_
 .rintro i σ H2 hi ⟨v,rfl,O,h2⟩;rw[M]at hi;have hi:i<rs.length+1:=by omega
  rw[Sh];have e1:(i:Int)+1=((i+1:Nat):Int):=by omega
  have fl:=aW rs;have hl:(jI (aw rs) i).length<=i:=by
   unfold jI;rw[O3];exact PK (PJ _ _) (by rw[PN];exact O5 _)
  refine⟨_,rfl,_,rfl,_,_,rfl,rfl,t1,_,_,_,rfl,rfl,b0.of (O _ _ C1),(by rw[e1];exact aV (c7 (by omega))),_,rfl,_,rfl,t1,_,_,_,rfl,rfl,b0.of (O _ _ C1),aV (c7 (by omega)),_,_,rfl,rfl,rfl,_,rfl,?_⟩;have es:jI (aw rs) (i+1)=jI (aw rs) i++(if ay.isOpen (aw rs) i=true then[(i:Int)]else[]):=by
   unfold jI;rw[QT,Qd,Ph,Qq,Qt]
   split <;> rfl
  refine gv (λh1=>?_) (λh1=>?_)
  .refine⟨_,rfl,_,h2,aB (by rw[aL];omega),_,rfl,O.upd hD,?_⟩;have:ay.isOpen (aw rs) i=true:=by unfold ay.isOpen;simpa using h1
   rw[ag,es,UZ this,b6]
   rfl
  refine⟨_,rfl,O,?_⟩;have:¬ay.isOpen (aw rs) i=true:=λz=>h1 (by unfold ay.isOpen at z;simpa using z);rw[es,UX this,Qh];exact h2
 rintro σ H2 ⟨v,rfl,O,h2⟩;have e:(((iV rs).length:Nat)+1:Int).toNat=rs.length+1:=by rw[M];omega
 rw[e]at h2;exact k D H2 (s1.free hD) (s1.trans O) h2
theorem uW{f f1:U0}{fd iJ:Ve}(B:Bl mg)(F:Fn K mg "tie_gaps" gm ["row"] f fd)(J:Fn K mg "framed" dy ["row"] f1 iJ):aT P w K mg base b7 2 f fd ["row"] ay.qC:=by
 have jh:aT P w K mg base b7 1 f1 iJ ["row"] gW:=jy B J;refine F.fn.ok fB (λvs H Q E h=>?_) (λjr A outer s H vs Q E hr h=>?_)
 .obtain⟨t,rs,rfl,_⟩:=h
  rfl
 obtain⟨t,rs,rfl,ht,fit,k⟩:=h;have hu:=xp hr;have hn:=fit.small;refine⟨_,(ai (aF (i:=1) fB.nd rfl (Or.inr rfl) iP)
  (ai (aF (i:=2) fB.nd rfl (Or.inr rfl) iP)
  (ai (bG PassesOwn.never rfl (A0 rfl B.enumerate (af (br jh J (hr.mono (by decide)) (af (pv 0) ah)) ah)) (lP rfl (cL (aG (i:=3) fB.nd rfl (Or.inl rfl)) (cL (aG (i:=4) fB.nd rfl (Or.inl rfl)) jn))) (ai (ni hu (pv 1) (aC eZ rfl B.abs iS (af (pv 4) ah)) (iM (aI dH (pv 4) ao (aJ _)) (aD eF (pv 3) ao) (pv 3)) rfl)
  (ax (ni hu (pv 2) (aC eZ rfl B.abs iS (af (pv 4) ah)) (iM (aI dH (pv 4) ao (aJ _)) (pv 3) (aD eF (pv 3) ao)) rfl))))
  (ax (aX (bN (NC:=["tie","leaving","coming"]) rfl (rN (pre:=["tie"]) [("leaving",s.heap.objs.size+1,1),("coming",s.heap.objs.size+2,2)] ["leaving","coming"] rfl rfl (by decide +kernel) (by decide +kernel) rfl (dM ⟨rfl,rfl,rfl,rfl⟩ (dM ⟨rfl,rfl,rfl,rfl⟩ om))) (cg rfl B.range (af (aD aQ (aC aA rfl B.len aY (af (pv 0) ah)) ao) ah)) (λ_ _ _ _=>(aG (i:=0) (show(["tie","leaving","coming"]:List Vl).Nodup by decide +kernel) rfl (Or.inl rfl))) (λ_ _ _ _=>cf) (λ_ _ _ _=>(nR (af (j9 hu (pv 1) (pv 0) (λ_ _=>rfl)) (af (j9 hu (pv 2) (aD aQ (pv 0) ao) (λ_ _=>rfl)) ah)))))))))),?_⟩
 have j6:(iV rs).length=rs.length:=aL rs;have nd:=ay.cT fit;have fl:=aW rs;have ivf:(iV (aw rs)).length=rs.length+2:=by rw[aL,fl]
 intro M hdL;have s0:av H (upd H M (.dK [])):=aj hdL;intro L LZ;have ne:M≠L:=λe=>by rw[e,ag]at LZ;cases LZ
 have s1:av H (upd (upd H M (.dK [])) L (.dK [])):=s0.trans (aj LZ);have NV:H L=none:=s0.free LZ;have hL1:upd (upd H M (.dK [])) L (.dK []) M=YN (.dK []):=by rw[au ne,ag]
 have hC1:upd (upd H M (.dK [])) L (.dK []) L=YN (.dK []):=ag;generalize upd (upd H M (.dK [])) L (.dK [])=H1 at s1 hL1 hC1⊢;refine⟨_,rfl,t,rs,rfl,s1 _ _ ht,by omega,λt1 H2 s2 C1=>?_⟩;have Dg:=s1.trans s2;refine⟨t1,rfl,⟨_,b0.of C1⟩,A1 (K:=K) (a:=t1) (xs:=iV (aw rs)) (λi σ H3=>∃(v3 v4:Option V) (O Z:List (Key×V)),σ=[YN (.ref t),YN (.ref M),YN (.ref L),v3,v4]/\av H H3/\H3 t1=YN (.tup (iV (aw rs)))/\H3 M=YN (.dK O)/\H3 L=YN (.dK Z)/\O.length<=i/\Z.length<=i /\
   (∀j,j<i->bA O (Sum.inl (aE ((aw rs).getD j 0)):Key)=YN (.int (kA (aw rs) j)))/\∀j,j<i->bA Z (Sum.inl (aE ((aw rs).getD j 0)):Key)=YN (.int (kB (aw rs) j)))
  ⟨none,none,[],[],rfl,Dg,C1,s2 _ _ hL1,s2 _ _ hC1,O5 _,O5 _,λj hj=>U4 hj (QU _),λj hj=>U4 hj (QU _)⟩ (λi σ H3 _ ⟨_,_,_,_,_,_,h3,_⟩=>b0.of h3) ?_ ?_⟩
 .rintro i y tt σ H3 hy ⟨v3,v4,O,Z,rfl,s3,h1,hL,hC,lL,lC,vL,vC⟩ zZ;obtain⟨x,hx,rfl⟩:=bP hy;have hi:i<(aw rs).length:=(O2.mp hx).1;have IM:(aw rs).getD i 0=x:=by rw[ay.getD_get hi]at hx;exact Option.some.inj hx
  have st:av H3 (upd H3 tt (.tup [.int i,.int x])):=aj zZ;have s4:=s3.trans st;have h4:=st _ _ h1;have NW:=st _ _ hL;have NX:=st _ _ hC;have K1:upd H3 tt (.tup [.int i,.int x]) tt=YN (.tup [.int i,.int x]):=ag;generalize upd H3 tt (.tup [.int i,.int x])=H4 at s4 h4 NW NX K1⊢;have fin:∀u v:Int,u=kA (aw rs) i->v=kB (aw rs) i->∃H5,pE H4 M (kV (Sum.inl (aE x))) (.int u) H5/\∃H6,pE H5 L (kV (Sum.inl (aE x))) (.int v) H6 /\
    ∃(O Z:List (Key×V)),av H H6/\H6 t1=YN (.tup (iV (aw rs)))/\H6 M=YN (.dK O)/\H6 L=YN (.dK Z)/\O.length<=i+1/\Z.length<=i+1 /\
    (∀j,j<i+1->bA O (Sum.inl (aE ((aw rs).getD j 0)):Key)=YN (.int (kA (aw rs) j)))/\∀j,j<i+1->bA Z (Sum.inl (aE ((aw rs).getD j 0)):Key)=YN (.int (kB (aw rs) j)):=λu v hu' hv'=>by
   have zL:=bU O (Sum.inl (aE x):Key) (V.int u);have zC:=bU Z (Sum.inl (aE x):Key) (V.int v);have n1:t1≠M:=λe=>by rw[e,NW]at h4;cases h4
   have n2:t1≠L:=λe=>by rw[e,NX]at h4;cases h4
   have hC5:upd H4 M (.dK (putK O (Sum.inl (aE x):Key) (V.int u))) L=YN (.dK Z):=by rw[au (Ne.symm ne)];exact NX
   refine⟨_,pE.k (k:=Sum.inl (aE x)) NW (aB (by omega)),_,pE.k (k:=Sum.inl (aE x)) hC5 (aB (by omega)),putK O (Sum.inl (aE x):Key) (V.int u),putK Z (Sum.inl (aE x):Key) (V.int v),(s4.upd hdL).upd NV,?_,?_,ag,by omega,by omega,?_,?_⟩
   .rw[au n2,au n1];exact h4
   .rw[au ne,ag]
   .have z:=ay.xC nd (g:=λj=>V.int (kA (aw rs) j)) hi vL;rw[IM,<-hu']at z;exact z
   have z:=ay.xC nd (g:=λj=>V.int (kB (aw rs) j)) hi vC;rw[IM,<-hv']at z;exact z
  refine⟨tt,_,rfl,b0.of K1,rfl,_,_,rfl,_,_,rfl,rfl,?_⟩;refine⟨_,rfl,_,_,rfl,rfl,_,rfl,?_⟩;refine gv (λh2=>?_) (λh2=>?_)
  .have h2:x<0:=U6 h2;obtain⟨H5,p5,H6,p6,r⟩:=fin ((i:Int)-1) i (by unfold kA;rw[IM,UZ h2]) (by unfold kB;rw[IM,UZ h2]);refine⟨_,rfl,_,_,rfl,rfl,_,rfl,_,rfl,_,rfl,M,H5,rfl,p5,?_⟩;refine⟨_,rfl,_,_,rfl,rfl,_,rfl,Bf (UU h2) ?_⟩;obtain⟨O,Z,r⟩:=r;exact⟨_,rfl,_,rfl,_,rfl,_,rfl,L,H6,rfl,p6,_,_,O,Z,rfl,r⟩
  have h2:¬x<0:=λz=>h2 (UU z);obtain⟨H5,p5,H6,p6,r⟩:=fin i ((i:Int)-1) (by unfold kA;rw[IM,UX h2]) (by unfold kB;rw[IM,UX h2]);refine⟨_,rfl,_,rfl,_,rfl,_,rfl,M,H5,rfl,p5,?_⟩;refine⟨_,rfl,_,_,rfl,rfl,_,rfl,FC (U1 h2) ?_⟩;obtain⟨O,Z,r⟩:=r;exact⟨_,rfl,_,_,rfl,rfl,_,rfl,_,rfl,_,rfl,L,H6,rfl,p6,_,_,O,Z,rfl,r⟩
 rintro σ H3 ⟨v3,v4,O,Z,rfl,s3,h1,hL,hC,lL,lC,vL,vC⟩;rw[ivf]at vL vC;refine⟨_,rfl,t,_,rfl,.inr (b0.of (s3 _ _ ht)),_,_,rfl,rfl,_,rfl,by rw[j6];omega,by rw[j6];omega,λD hD=>?_⟩;refine fX (λi σ H4=>∃v:Option V,σ=[v,YN (.ref M),YN (.ref L)]/\av H3 H4/\ay.dJ ay.pr H4 D ((PX i).map (vJ rs))) ⟨none,rfl,aj hD,ay.dJ.nil ag⟩ ?_ ?_
 .rintro i σ H4 hi ⟨v,rfl,s4,hT⟩;rw[j6]at hi;have hi:i<rs.length+1:=by omega
  rw[Sh];obtain⟨p1,p2⟩:=bw fit (show i<rs.length+2 by omega);obtain⟨q1,q2⟩:=bw fit (show i+1<rs.length+2 by omega);have eL:=vL _ p1;have eC:=vC _ q1;rw[p2]at eL;rw[q2]at eC;have e1:(i:Int)+1=((i+1:Nat):Int):=by omega
  have gL:=nT.k (k:=Sum.inl (i:Int)) (s4 _ _ hL);have gC:=nT.k (k:=Sum.inl ((i+1:Nat):Int)) (s4 _ _ hC);rw[eL]at gL;rw[eC]at gC;refine jB ?_;refine⟨_,rfl,_,rfl,M,_,rfl,gL,_,rfl,_,rfl,_,_,rfl,rfl,L,_,rfl,(by show nT H4 L (V.int ((i:Int)+1)) _;rw[e1];exact gC),by show 2<=U7;decide,λtp wO=>?_⟩;have s5:av H4 (upd H4 tp (.tup [.int (ay.cV rs i),.int (ay.dv rs (i+1))])):=aj wO;obtain⟨ys,y1,y2,y3⟩:=(hT.same s5).snoc (t:=tp) (x:=vJ rs i) ag;refine⟨_,y1,aB (by rw[y2,O3,PN];omega),_,rfl,(s4.trans s5).upd hD,?_⟩;rw[QT,Ph];exact y3
 rintro σ H4 ⟨v,rfl,s4,hT⟩;have e:(((iV rs).length:Nat)+1:Int).toNat=rs.length+1:=by rw[j6];omega
 first|rw[e]at hT|skip
 exact k D H4 (s3.free hD) (s3.trans s4) hT
theorem h8{f:U0}{fd:Ve}(B:Bl mg)(F:Fn K mg "hung_together" bT ["pairs"] f fd):aT P w K mg base b7 1 f fd ["pairs"] rW:=by
 refine F.fn.ok ba (λvs H Q E h=>?_) (λjr A outer s H vs Q E hr h=>?_)
 .obtain⟨l,ps,rfl,_⟩:=h
  rfl
 obtain⟨l,ps,rfl,hT,hn,k⟩:=h;have hu:=xp hr;refine⟨_,(ai (aF (i:=1) ba.nd rfl (Or.inl rfl) iP)
  (ai (bG PassesOwn.never rfl (a9 (pv 0)) (lP rfl (cL (aG (i:=2) ba.nd rfl (Or.inl rfl)) (cL (aG (i:=3) ba.nd rfl (Or.inl rfl)) jn))) (ai (aF (i:=4) ba.nd rfl (Or.inl rfl) (rQ (pv 1) (pv 2) (pv 2) ⟨rfl,rfl,rfl,rfl⟩))
  (ai (aF (i:=5) ba.nd rfl (Or.inl rfl) (rQ (pv 1) (pv 3) (pv 3) ⟨rfl,rfl,rfl,rfl⟩))
  (ax (bG PassesOwn.never rfl (a9 (a8 (rR rfl) rfl B.list gA (af (pv 1) ah))) (aG (i:=6) ba.nd rfl (Or.inl rfl)) (ax (cK (aI dt (j9 hu (pv 1) (pv 6) (λ_ _=>rfl)) (pv 5) (aJ _)) (ax (ni hu (pv 1) (pv 6) (pv 4) rfl)) bo)))))))
  (ai (aF (i:=7) ba.nd rfl (Or.inl rfl) iP)
  (ai (bG PassesOwn.never rfl (tW rfl B.enumerate (af (pv 0) ah)) (lP rfl (cL (aG (i:=8) ba.nd rfl (Or.inl rfl)) (cL (aG (i:=9) ba.nd rfl (Or.inl rfl)) jn))) (ax (dB (gU Qg QH QI dI (rQ (pv 7) (j9 hu (pv 1) (aP b5 (pv 9) ao (λ_ _=>rfl)) (λ_ _=>rfl)) (bJ ah) ⟨rfl,rfl,rfl,rfl⟩) (af (pv 8) ah)))))
  (ax (aX (bN (NC:=["places"]) rfl (gz rfl (by decide +kernel) (by decide +kernel)) (DZ (pv 7)) (λ_ _ _ _=>(aG (i:=0) (show(["places"]:List Vl).Nodup by decide +kernel) rfl (Or.inl rfl))) (λ_ _ _ _=>cf) (λ_ _ _ _=>(a8 cq rfl B.tuple gV (af (pv 0) ah)))))))))),?_⟩
 obtain⟨ts,yz,hlen,wO⟩:=id hT;have Ae:(ts.map V.ref).length=ps.length:=by rw[O3,hlen]
 intro dG Fb;have C1:upd H dG (.dK []) l=YN (.lst (ts.map V.ref)):=(aj Fb) _ _ yz;refine⟨_,rfl,l,rfl,⟨_,aM.of C1⟩,cM (K:=K) (a:=l) (xs:=ts.map V.ref) (λi σ H1=>∃(v2 v3 v4 v5 v6:Option V) (M:List (Key×V)),σ=[YN (.ref l),YN (.ref dG),v2,v3,v4,v5,v6,none,none,none]/\av H H1/\H1 dG=YN (.dK M)/\M.length<=2*i/\ay.GD M (ay.mk (ps.take i)) (Sn (ps.take i)))
  ⟨none,none,none,none,none,[],rfl,aj Fb,ag,O5 _,ay.GD.nil _ λx ⟨p,hp,_⟩=>U4 hp Pf⟩ (λi σ H1 _ zq=>by obtain⟨_,_,_,_,_,_,_,s1,_⟩:=zq;exact aM.of (s1 _ _ yz)) ?_ ?_⟩
 .rintro i y σ H1 hy ⟨v2,v3,v4,v5,v6,M,rfl,s1,hG,lG,gd⟩;have hi:i<ps.length:=by rw[<-Ae];exact(O2.mp hy).1
  have Fc:ps[i]?=YN ps[i]:=O1 hi;obtain⟨t,ht,rfl⟩:∃t,ts[i]?=YN t/\y=.ref t:=by
   rw[O7]at hy;obtain⟨t,e1,e2⟩:=Pl.mp hy;exact⟨t,e1,e2.symm⟩
  have zZ:=wO i t _ ht Fc;have Dh:ps.take (i+1)=ps.take i++[ps[i]]:=ay.take_snoc Fc;generalize ps[i]=p at zZ Dh Fc;have mf:=ay.fM (ps.take i);refine⟨t,_,rfl,b0.of (s1 _ _ zZ),rfl,_,_,rfl,_,_,rfl,rfl,?_⟩;refine⟨_,rfl,dG,rfl,.inl ⟨_,.inl hG⟩,_,rfl,_,rfl,M,Sum.inl p.1,hG,rfl,aB (by omega),ay.uz hG gd (mf.1 _) λkv2 H2 l2 IP o2 gd2=>?_⟩;have s2:=ay.av.but s1 Fb o2;refine⟨_,rfl,dG,rfl,.inl ⟨_,.inl IP⟩,_,rfl,_,rfl,kv2,Sum.inl p.2,IP,rfl,aB (by omega),ay.uz IP gd2 (λz=>mf.1 _ λz2=>z (.inl z2)) λJ Z l3 IQ o3 K3=>?_⟩;have s3:=ay.av.but s2 Fb o3;have K3:ay.GD J (ay.mk (ps.take i)) (Sn (ps.take (i+1))):=K3.imp λx=>by
   rw[Dh,ay.jt,or_assoc]
  refine⟨_,rfl,dG,J,rfl,IQ,λlk IS=>?_⟩;have s4:av Z (upd Z lk (.lst (J.map λM=>kV M.1))):=aj IS;have NY:upd Z lk (.lst (J.map λM=>kV M.1)) lk=YN (.lst (J.map λM=>kV M.1)):=ag;have adR:H lk=none:=s3.free IS;have Ih:=s4 _ _ IQ;have Ii:=s3.trans s4;have nk:lk≠dG:=λz=>by rw[z,IQ]at IS;cases IS
  generalize upd Z lk (.lst (J.map λM=>kV M.1))=H4 at s4 NY Ih Ii⊢
  let m:=ay.mk (ps.take i)
  refine⟨lk,rfl,⟨_,aM.of NY⟩,cM (K:=K) (a:=lk) (xs:=J.map λM=>kV M.1) (λj σ H5=>∃(v6:Option V) (Gi:List (Key×V)),σ=[YN (.ref l),YN (.ref dG),YN (.int p.1),YN (.int p.2),YN (.int (m p.1)),YN (.int (m p.2)),v6,none,none,none]/\av H H5/\H5 lk=YN (.lst (J.map λM=>kV M.1))/\H5 dG=YN (.dK Gi)/\Gi.length=J.length /\
    ay.GD Gi (ay.chg ((J.map Qm).take j) m (m p.1) (m p.2)) (Sn (ps.take (i+1))))
   ⟨v6,J,rfl,Ii,NY,Ih,rfl,K3.congr λx _=>by rw[Tx,ay.Ei]⟩ (λj σ H5 _ ⟨_,_,_,_,h,_⟩=>aM.of h) ?_ ?_⟩
  .rintro j y σ H5 hy ⟨v6,Gi,rfl,s5,NZ,O,l5,K4⟩;rw[O7]at hy;obtain⟨kvj,ej,rfl⟩:=Pl.mp hy;have ekj:(J.map Qm)[j]?=YN kvj.1:=by rw[O7,ej];rfl
   obtain⟨x,ex,hS⟩:=K3.keys kvj.1 (Pj ekj);have etj:(J.map Qm).take (j+1)=(J.map Qm).take j++[(Sum.inl x:Key)]:=by rw[<-ex];exact ay.take_snoc ekj
   rw[ex];have gy:=K4.yes x hS;have g5:=nT.k (k:=Sum.inl x) O;rw[gy]at g5;refine⟨_,rfl,_,rfl,dG,_,rfl,g5,_,rfl,rfl,_,rfl,?_⟩;refine gv (λh2=>?_) (λh2=>?_)
   .have h2:ay.chg ((J.map Qm).take j) m (m p.1) (m p.2) x=m p.2:=by have z:=U6 h2;injection z
    have zl:(putK Gi (Sum.inl x:Key) (.int (m p.1))).length=Gi.length:=ay.Eh (by rw[gy];rfl);refine⟨_,rfl,_,rfl,_,rfl,dG,_,rfl,pE.k (k:=Sum.inl x) O (aB (by omega)),_,_,rfl,s5.upd Fb,by rw[au nk];exact NZ,ag,zl.trans l5,(K4.put hS _).congr λy _=>?_⟩;rw[etj];exact ay.Ej h2
   have h2:¬ay.chg ((J.map Qm).take j) m (m p.1) (m p.2) x=m p.2:=λz=>h2 (UU (by rw[z]));refine⟨_,_,rfl,s5,NZ,O,l5,K4.congr λy _=>?_⟩;rw[etj];exact ay.HC h2
  rintro σ H5 ⟨v6,Gi,rfl,s5,NZ,O,l5,K4⟩;refine⟨_,_,_,_,_,Gi,rfl,s5,O,by omega,K4.congr λy hy=>?_⟩;have KA:(Sum.inl y:Key)∈(J.map Qm).take (J.map λM=>kV M.1).length:=by
   rw[O3,QF (by rw[O3];exact O5 _)];exact rE (K3.yes y hy)
  rw[Dh,gB];exact ay.xU KA
 rintro σ H1 ⟨v2,v3,v4,v5,v6,M,rfl,s1,hG,lG,gd⟩;rw[Ae,PQ]at gd;rw[Ae]at lG;intro dF L0;have s2:av H1 (upd H1 dF (.dK [])):=aj L0;have K5:H dF=none:=s1.free L0;have hF2:upd H1 dF (.dK []) dF=YN (.dK []):=ag;have IP:=s2 _ _ hG;have nGF:dG≠dF:=λz=>by rw[<-z,hG]at L0;cases L0
 have Dg:=s1.trans s2;generalize upd H1 dF (.dK [])=H2 at s2 hF2 IP Dg⊢
 let c:Nat->Int:=λk=>ay.mk ps (ps.getD k (0,0)).1
 refine⟨_,rfl,l,rfl,⟨_,aM.of (Dg _ _ yz)⟩,qA (K:=K) (a:=l) (xs:=ts.map V.ref) (λi σ Z=>∃(v8 v9:Option V) (kf:List (Key×V)) (as:List U0),σ=[YN (.ref l),YN (.ref dG),v2,v3,v4,v5,v6,YN (.ref dF),v8,v9]/\av H Z/\Z dG=YN (.dK M)/\FG H Z dF kf (ia c i) as)
  ⟨none,none,[],[],rfl,Dg,IP,⟨hF2,rfl,rfl,QK,λj a e h=>by simp at h,λa ha=>U4 ha Pf⟩⟩ (λi σ Z _ zq=>by obtain⟨_,_,_,_,_,s3,_⟩:=zq;exact aM.of (s3 _ _ yz)) ?_ ?_⟩
 .rintro i y tt σ Z hy ⟨v8,v9,kf,as,rfl,s3,IQ,fg⟩ zZ;have hi:i<ps.length:=by rw[<-Ae];exact(O2.mp hy).1
  have Fc:ps[i]?=YN ps[i]:=O1 hi;obtain⟨t,ht,rfl⟩:∃t,ts[i]?=YN t/\y=.ref t:=by
   rw[O7]at hy;obtain⟨t,e1,e2⟩:=Pl.mp hy;exact⟨t,e1,e2.symm⟩
  have N0:=wO i t _ ht Fc;have ec:c i=ay.mk ps ps[i].1:=by
   show ay.mk ps (ps.getD i (0,0)).1=_;rw[Py,Fc]
   rfl
  have hS:Sn ps ps[i].1:=⟨ps[i],PU hi,.inl rfl⟩
  have s4:av Z (upd Z tt (.tup [.int i,.ref t])):=aj zZ;have ht4:upd Z tt (.tup [.int i,.ref t]) tt=YN (.tup [.int i,.ref t]):=ag;have Ih:=s4 _ _ IQ;have IT:=fg.same s4;have Ii:=s3.trans s4;generalize upd Z tt (.tup [.int i,.ref t])=H4 at s4 ht4 Ih IT Ii⊢;have gy:=gd.yes _ hS;rw[<-ec]at gy;have g4:=nT.k (k:=Sum.inl ps[i].1) Ih;rw[gy]at g4;have wQ:=IT.len;have gl:=ay.nu c i;refine⟨tt,_,rfl,b0.of ht4,rfl,_,_,rfl,_,_,rfl,rfl,?_⟩;refine⟨_,rfl,dF,rfl,.inl ⟨_,.inl IT.at'⟩,_,rfl,_,rfl,t,_,_,_,rfl,rfl,b0.of (Ii _ _ N0),rfl,dG,_,rfl,g4,by show 0<=U7;decide,λn Ij=>?_⟩;have s5:av H4 (upd H4 n (.lst [])):=aj Ij;have N1:upd H4 n (.lst []) n=YN (.lst []):=ag;have O:=s5 _ _ Ih;have IU:=IT.same s5;have IW:=Ii.trans s5;have N2:n∉as:=λhm=>by
   obtain⟨j,hj⟩:=PD hm;have hjl:j<(ia c i).length:=by rw[<-wQ.2];exact(O2.mp hj).1
   have:=IT.lst j n _ hj (O1 hjl);rw[Ij]at this;cases this
  have nF:dF≠n:=λz=>by rw[<-z,IT.at']at Ij;cases Ij
  have nG:dG≠n:=λz=>by rw[<-z,Ih]at Ij;cases Ij
  have IG:H n=none:=Ii.free Ij;generalize upd H4 n (.lst [])=H5 at s5 N1 O IU IW⊢;refine⟨kf,Sum.inl (c i),IU.at',rfl,aB (by omega),λv hv=>?_,λhv=>?_⟩
  .obtain⟨a,L,rfl,ha,⟨e,he,eL⟩,N3⟩:=IU.old (ay.gX c i) (x:=(i:Int)) hv;have hL:L.length<=i:=by rw[<-eL];exact(gM c i).len e he
   have nGa:dG≠a:=λz=>by rw[<-z,O]at ha;cases ha
   have N4:H a=none:=by
    have K6:V.ref a∈kf.map Rx:=by
     unfold bA at hv;obtain⟨q,q1,q2⟩:=Pl.mp hv;exact O6.mpr ⟨q,QC q1,q2⟩
    rw[IU.vs]at K6;obtain⟨a',N5,ea⟩:=O6.mp K6;injection ea with ea;rw[<-ea];exact IU.new a' N5
   refine⟨.inl ⟨rfl,_,aM.of ha⟩,_,rfl,a,_,_,rfl,rfl,ha,aB (by rw[aL];omega),?_⟩;exact⟨_,_,kf,as,rfl,IW.upd N4,by rw[au nGa];exact O,N3⟩
  have N3:=IU.fresh (x:=(i:Int)) hv N1 IG N2;have Gj:upd H5 dF (.dK (putK kf (Sum.inl (c i):Key) (.ref n))) n=YN (.lst []):=by rw[au (Ne.symm nF)];exact N1
  refine⟨.inl ⟨rfl,_,aM.of Gj⟩,_,rfl,n,_,_,rfl,rfl,Gj,by show 0<U7;decide,?_⟩;exact⟨_,_,_,_,rfl,(IW.upd K5).upd IG,by rw[au nG,au nGF];exact O,N3⟩
 rintro σ Z ⟨v8,v9,kf,as,rfl,s3,IQ,fg⟩;rw[Ae]at fg;have hl:=fg.len;have gl:=ay.nu c ps.length;have gok:=gM c ps.length;refine⟨_,rfl,dF,kf,rfl,fg.at',λob D hD=>?_⟩;have hD3:Z D=none:=by
  by_cases e:D=dF
  .rw[e,ag]at hD;cases hD
  rwa[au e]at hD
 have hF4:upd Z dF (.gQ ob (.dK kf)) dF=YN (.gQ ob (.dK kf)):=ag;have ls4:∀(j:Nat) (a:U0) (e:Int×List Int),as[j]?=YN a->(ia c ps.length)[j]?=YN e->upd Z dF (.gQ ob (.dK kf)) a=YN (.lst (iV e.2)):=λj a e h1 h2=>by
  have z:=fg.lst j a e h1 h2;rw[au λq=>by have:=fg.at';rw[<-q,z]at this;cases this];exact z
 have s4:av H (upd Z dF (.gQ ob (.dK kf))):=s3.upd K5;generalize upd Z dF (.gQ ob (.dK kf))=H4 at hD hF4 ls4 s4⊢;refine yZ (λi σ H5=>∃v:Option V,σ=[v]/\av H4 H5/\ay.dJ iV H5 D (((ia c ps.length).take i).map Rx)) ⟨none,rfl,aj hD,ay.dJ.nil ag⟩ (λi σ H5 _ ⟨_,_,s5,_⟩=>s5 _ _ hF4) ?_ ?_
 .rintro i y σ H5 hy ⟨v,rfl,s5,L1⟩;have hy:(kf.map Rx)[i]?=YN y:=hy;rw[fg.vs,O7]at hy;obtain⟨a,ha,rfl⟩:=Pl.mp hy;have hi:i<(ia c ps.length).length:=by rw[<-hl.2];exact(O2.mp ha).1
  have he:=O1 hi;have la:=s5 _ _ (ls4 i a _ ha he);refine jB ?_;refine⟨_,rfl,a,_,rfl,.inl la,λtp H6 s6 wO=>?_⟩;obtain⟨ys,y1,y2,y3⟩:=(L1.same s6).snoc (t:=tp) (x:=(ia c ps.length)[i].2) wO;refine⟨_,y1,aB (by rw[y2,O3,Pw];omega),_,rfl,(s5.trans s6).upd hD,?_⟩;rw[ay.take_snoc he,Ph];exact y3
 rintro σ H5 ⟨v,rfl,s5,L1⟩;rw[QF (by omega)]at L1;exact k D H5 (s3.free hD3) (s4.trans s5) L1
theorem sN{f f1 f2 f3:U0}{fd iJ O V:Ve}(B:Bl mg)(F:Fn K mg "tie_rings" ft ["row"] f fd)(M:Fn K mg "framed" dy ["row"] f1 iJ)(J:Fn K mg "tie_gaps" gm ["row"] f2 O)(z:Fn K mg "hung_together" bT ["pairs"] f3 V):aT P w K mg base b7 3 f fd ["row"] iz:=by
 have L:aT P w K mg base b7 2 f2 O ["row"] ay.qC:=uW B J M;have D:aT P w K mg base b7 1 f3 V ["pairs"] rW:=h8 B z;refine F.fn.ok sJ (λvs H Q E h=>?_) (λjr A outer s H vs Q E hr h=>?_)
 .obtain⟨t,rs,rfl,_⟩:=h
  rfl
 obtain⟨t,rs,rfl,ht,fit,k⟩:=h;have hn:=fit.small;refine⟨_,(ax (aX (br D z (hr.mono (by decide)) (af (br L J (hr.mono (by decide)) (af (pv 0) ah)) ah)))),?_⟩;refine⟨_,rfl,t,rs,rfl,ht,fit,λl H1 hl s1 hT=>?_⟩;refine⟨l,_,rfl,hT,by rw[ay.kC];omega,λr H2 C2 s2 Z=>?_⟩;rw[<-ay.jP]at Z;exact k r H2 (s1.free C2) (s1.trans s2) Z
theorem wR{f:U0}{fd:Ve}(B:Bl mg)(F:Fn K mg "kin_end" eP ["numbers","first"] f fd):aT P w K mg base b7 1 f fd ["numbers","first"] ay.uh:=by
 refine F.fn.ok dE (λvs H Q E h=>?_) (λjr A outer s H vs Q E hr h=>?_)
 .obtain⟨t,fs,a,rfl,_⟩:=h
  rfl
 obtain⟨t,fs,a,rfl,ht,nd,ha,hn,kS,kN⟩:=h;refine⟨_,(ai (aF (i:=2) dE.nd rfl (Or.inl rfl) (aP b5 (pv 0) (pv 1) (λ_ _=>rfl)))
  (ai (aF (i:=3) dE.nd rfl (Or.inl rfl) (iM (aI dH (pv 2) ao (aJ _)) (nQ jL ao) ao))
  (eG (R:=λD σ H2=>H2=H/\σ=[YN (.ref t),YN (.int a),YN (.int (fs.getD a 0)),YN (.int (if fs.getD a 0<0 then -1 else 1)),none,none,none]/\D.rt=Q) λD σ H2 hR=>?rest))),?_⟩
 case rest =>
  obtain⟨rfl,rfl,hD⟩:=hR;refine⟨_,(ai (aF (i:=4) dE.nd rfl (Or.inl rfl) (pv 2))
  (ai (bG PassesOwn.never rfl (jo rfl B.range (af (aD aQ (pv 1) ao) (af (aC aA rfl B.len aY (af (pv 0) ah)) ah))) (aG (i:=5) dE.nd rfl (Or.inl rfl)) (ai (aF (i:=6) dE.nd rfl (Or.inl rfl) (aD ie (pv 3) (aC eZ rfl B.abs iS (af (aP b5 (pv 0) (pv 5) (λ_ _=>rfl)) ah))))
  (ai (cK (aI dH (pv 6) (pv 2) (aJ _)) (ax (aX vt)) bo)
  (ai (aF (i:=4) dE.nd rfl (Or.inl rfl) (aC (qf rfl) rfl B.max A8 (af (pv 4) (af (pv 6) ah))))
  (ax (cK (AA dt dt (aP b5 (pv 0) (pv 5) (λ_ _=>rfl)) (pv 4) (aD eF (aD aQ (pv 2) (pv 5)) (pv 1))) (ax (aX (pv 5))) bo))))))
  (ax (aX vt)))),?_⟩
  have L:(iV fs).length=fs.length:=aL fs;have sgA:∀x,(if fs.getD a 0<0 then -1 else 1)*aE (fs.getD x 0)=cW fs a x:=λx=>by unfold cW;split <;> omega
  have sgC:∀j,Dx (if fs.getD a 0<0 then(-1:Int)else 1) j:=λj=>.inl (by split <;> exact⟨by decide,by decide⟩);generalize(if fs.getD a 0<0 then(-1:Int)else 1)=sg at sgA sgC⊢;refine⟨_,rfl,_,rfl,_,_,rfl,rfl,_,rfl,t,_,rfl,.inr (b0.of ht),_,_,rfl,⟨by omega,by omega,by rw[L];omega,by rw[L];omega⟩,
   cS (lo:=(a:Int)+1) (n:=(((iV fs).length:Nat)-((a:Int)+1):Int).toNat) (λi σ H3=>∃(hi:Int) (v5 v6:Option V),σ=[YN (.ref t),YN (.int a),YN (.int (fs.getD a 0)),YN (.int sg),YN (.int hi),v5,v6]/\H3=H2/\ay.rK fs a (a+1+i) hi/\∀c,c<a+1+i->¬ay.Wh fs a c)
    ⟨_,none,none,rfl,rfl,ay.rK.first fs a,λc O W=>by have:=W.lt;omega⟩ ?_ ?_⟩
  .rintro i σ H3 hi ⟨Z,v5,v6,rfl,rfl,S,no⟩;rw[L]at hi;have O:a+1+i<fs.length:=by omega
   have ec:(a:Int)+1+(i:Int)=((a+1+i:Nat):Int):=by omega
   rw[ec];refine⟨_,rfl,_,rfl,_,rfl,t,_,_,_,rfl,rfl,b0.of ht,aV (c7 O),_,rfl,_,_,rfl,rfl,sgC _,?_⟩;dsimp only;rw[ay.DT,sgA];refine⟨_,rfl,_,rfl,_,_,rfl,rfl,_,rfl,?_⟩;refine gv (λJ=>?_) (λJ=>?_)
   .have J:=U6 J;show D.rt V.fF _;rw[hD];refine kN λb W=>?_;by_cases hb:b<a+1+i
    .exact no b hb W
    exact ay.Wh.stop (by omega) J (by omega) W
   have J:fs.getD a 0<=cW fs a (a+1+i):=by
    have:¬cW fs a (a+1+i)<fs.getD a 0:=λz=>J (UU z);omega
   have S2:=S.next (by omega) J
   refine⟨_,rfl,_,rfl,_,_,rfl,?_⟩;dsimp only;generalize(if cW fs a (a+1+i)>Z then cW fs a (a+1+i)else Z)=M at S2⊢;have iff:=S2.wh nd (by omega) O;have e2:((a+1+i:Nat):Int)=(a:Int)+1+i:=by omega
   have stop:∀W:ay.Wh fs a (a+1+i),Kn fs a (a+1+i):=λW=>⟨W,λc O=>no c O⟩
   have go:¬ay.Wh fs a (a+1+i)->∀c,c<a+1+(i+1)->¬ay.Wh fs a c:=λnw c O=>by
    by_cases e:c=a+1+i
    .rw[e];exact nw
    exact no c (by omega)
   refine⟨_,rfl,_,rfl,t,_,_,_,rfl,rfl,b0.of ht,aV (c7 O),_,rfl,rfl,_,rfl,?_⟩;refine gv (λh2=>?_) (λh2=>?_)
   .have h2:fs.getD (a+1+i) 0=M:=by injection U6 h2
    refine⟨_,rfl,_,rfl,_,_,rfl,rfl,_,rfl,_,_,rfl,rfl,rfl,_,rfl,?_⟩;refine gv (λh3=>?_) (λh3=>?_)
    .have h3:M=fs.getD a 0+((a+1+i:Nat):Int)-(a:Int):=by injection U6 h3
     refine⟨_,rfl,?_⟩;show D.rt _ _;rw[hD];exact kS _ (stop (iff.mp ⟨h2,h3⟩))
    have h3:¬M=fs.getD a 0+((a+1+i:Nat):Int)-(a:Int):=λz=>h3 (UU (congrArg V.int z));exact⟨_,_,_,rfl,rfl,S2,go λW=>h3 (iff.mpr W).2⟩
   have h2:¬fs.getD (a+1+i) 0=M:=λz=>h2 (UU (congrArg V.int z));exact⟨_,rfl,fW ⟨_,_,_,rfl,rfl,S2,go λW=>h2 (iff.mpr W).1⟩⟩
  rintro σ H3 ⟨Z,v5,v6,rfl,rfl,S,no⟩;rw[L]at no;show D.rt V.fF _;rw[hD];refine kN λb W=>?_;have:=W.lb;exact no b (by omega) W
 refine⟨_,rfl,_,rfl,t,_,_,_,rfl,rfl,b0.of ht,aV (c7 ha),?_⟩;refine⟨_,rfl,_,_,rfl,rfl,_,rfl,?_⟩;refine gv (λJ=>?_) (λJ=>?_)
 .have J:=U6 J;exact⟨_,rfl,rfl,by rw[UZ J];rfl,rfl⟩
 have J:¬fs.getD a 0<0:=λz=>J (UU z);exact⟨rfl,by rw[UX J];rfl,rfl⟩
theorem lr{f f1 f2:U0}{fd iJ pz:Ve}(B:Bl mg)(F:Fn K mg "kin_spans" dk ["row"] f fd)(L:Fn K mg "framed" dy ["row"] f1 iJ)(J:Fn K mg "kin_end" eP ["numbers","first"] f2 pz):aT P w K mg base b7 2 f fd ["row"] fZ:=by
 have jh:aT P w K mg base b7 1 f1 iJ ["row"] gW:=jy B L;have M:aT P w K mg base b7 1 f2 pz ["numbers","first"] ay.uh:=wR B J;refine F.fn.ok iD (λvs H Q E h=>?_) (λjr A outer s H vs Q E hr h=>?_)
 .obtain⟨t,rs,rfl,_⟩:=h
  rfl
 obtain⟨t,rs,rfl,ht,fit,k⟩:=h;have hn:=fit.small;refine⟨_,(ai (aF (i:=1) iD.nd rfl (Or.inr rfl) (br jh L (hr.mono (by decide)) (af (pv 0) ah)))
  (ai (dC (ix:=2) (NC:=["first","numbers"]) iD.nd rfl (Or.inl rfl) rfl (bO (c:=s.heap.objs.size+1) (j:=1) rfl (by decide +kernel) (by decide +kernel) rfl rfl rfl rfl rfl) (cg rfl B.range (af (aC aA rfl B.len aY (af (pv 1) ah)) ah)) (λ_ _ _ _=>(aG (i:=0) (show(["first","numbers"]:List Vl).Nodup by decide +kernel) rfl (Or.inl rfl))) (λ_ _ _ _=>cf) (λ_ _ _ _=>(nR (af (pv 0) (af (br M J (hr.mono (by decide)) (af (pv 1) (af (pv 0) ah))) ah)))))
  (ax (aX (bN (NC:=["span"]) rfl (gz rfl (by decide +kernel) (by decide +kernel)) (a9 (pv 2)) (λ_ _ _ _=>(aG (i:=0) (show(["span"]:List Vl).Nodup by decide +kernel) rfl (Or.inl rfl))) (λ_ _ _ _=>(cZ (aI Dy (aP (fL (K:=K) rfl) (pv 0) ao (λ_ _=>rfl)) vt (aJ _)))) (λ_ _ _ _=>(pv 0))))))),?_⟩
 have nd:=ay.cT fit;have fl:=aW rs;refine⟨_,rfl,t,rs,rfl,ht,by omega,λt1 H1 s1 C1=>?_⟩;generalize aw rs=fs at nd fl C1 k;have j6:(iV fs).length=fs.length:=aL fs
 let ok:Nat->V->Prop:=λa v=>(∃b:Nat,Kn fs a b/\v=.int b)\/((∀b,¬ay.Wh fs a b)/\v=.fF)
 refine⟨_,rfl,t1,_,rfl,.inr (b0.of C1),_,rfl,by rw[j6];omega,by rw[j6];omega,λD hD=>?_⟩;refine fX (λi σ H2=>∃(v:Option V) (O:List V),σ=[v,YN (.ref t1)]/\av H1 H2/\O.length=i/\(∀a e,O[a]?=YN e->ok a e)/\∃Z:List U0,H2 D=YN (.lst (Z.map V.ref))/\Z.length=i/\∀a t' e,Z[a]?=YN t'->O[a]?=YN e->H2 t'=YN (.tup [.int (a:Nat),e]))
  ⟨none,[],rfl,aj hD,rfl,λa e h=>(nomatch h),[],ag,rfl,λa t' e h=>(nomatch h)⟩ ?_ ?_
 .rintro i σ H2 hi ⟨v,O,rfl,s2,tU,N6,Z,yz,IY,Ik⟩;rw[j6]at hi;have hi:i<fs.length:=by omega
  rw[Sh];refine jB ?_;have fin:∀e:V,ok i e->2<=U7/\∀tp,H2 tp=none->∃ys,upd H2 tp (.tup [.int (i:Nat),e]) D=YN (.lst ys)/\ys.length<U7/\∃(v:Option V) (O:List V),([YN (.int (i:Nat)),YN (.ref t1)]:St)=[v,YN (.ref t1)]/\av H1 (upd (upd H2 tp (.tup [.int (i:Nat),e])) D (.lst (ys++[.ref tp])))/\O.length=i+1/\(∀a e,O[a]?=YN e->ok a e)/\∃Z:List U0,upd (upd H2 tp (.tup [.int (i:Nat),e])) D (.lst (ys++[.ref tp])) D=YN (.lst (Z.map V.ref))/\Z.length=i+1/\∀a t' e',Z[a]?=YN t'->O[a]?=YN e'->upd (upd H2 tp (.tup [.int (i:Nat),e])) D (.lst (ys++[.ref tp])) t'=YN (.tup [.int (a:Nat),e']):=λe he=>by
   refine⟨by decide,λtp wO=>?_⟩;have ne:D≠tp:=λz=>by rw[<-z,yz]at wO;cases wO
   have sp:av H2 (upd H2 tp (.tup [.int (i:Nat),e])):=aj wO;refine⟨_,sp _ _ yz,aB (by rw[O3];omega),_,O++[e],rfl,(s2.trans sp).upd hD,by rw[O9,tU];rfl,λa x hx=>?_,Z++[tp],by rw[ag,Ph];rfl,by rw[O9,IY];rfl,λa t' x h1 h2=>?_⟩
   .by_cases c:a<O.length
    .rw[Pk c]at hx;exact N6 a x hx
    rw[Pg (by omega)]at hx;have ea:a=i:=by have:=(O2.mp hx).1;simp at this;omega
    rw[ea,tU,QE]at hx;rw[ea,<-Option.some.inj hx];exact he
   by_cases c:a<i
   .rw[Pk (by omega)]at h1 h2;have q:=Ik a t' x h1 h2;have n1:t'≠D:=λz=>by rw[z,yz]at q;cases q
    rw[au n1];exact sp _ _ q
   have ea:a=i:=by have:=(O2.mp h1).1;simp at this;omega
   rw[Pg (by omega),ea,IY,QE]at h1;rw[Pg (by omega),ea,tU,QE]at h2;rw[<-Option.some.inj h1,<-Option.some.inj h2,au (Ne.symm ne),ag,ea]
  refine⟨_,rfl,_,rfl,_,rfl,t1,fs,i,rfl,s2 _ _ C1,nd,hi,by omega,λb hb=>?_,λhb=>?_⟩
  .exact fin _ (.inl ⟨b,hb,rfl⟩)
  exact fin _ (.inr ⟨hb,rfl⟩)
 rintro σ H2 ⟨v,O,rfl,s2,tU,N6,Z,yz,IY,Ik⟩;rw[j6]at tU IY;have tU:O.length=fs.length:=by omega
 have IY:Z.length=fs.length:=by omega
 refine⟨_,rfl,D,rfl,⟨_,aM.of yz⟩,λD2 pT=>bg (K:=K) (a:=D) (xs:=Z.map V.ref) (λi σ H3=>∃v:Option V,σ=[v]/\av H2 H3/\ay.dJ ay.pr H3 D2 ((Af fs i).filter (mX fs))) ⟨none,rfl,aj pT,ay.dJ.nil ag⟩ (λi σ H3 _ zq=>by obtain⟨_,_,s3,_⟩:=zq;exact aM.of (s3 _ _ yz)) ?_ ?_⟩
 .rintro i y σ H3 hy ⟨v,rfl,s3,hT⟩;have hi:i<fs.length:=by have:=(O2.mp hy).1;rw[O3]at this;omega
  rw[O7,O1 (by omega)]at hy;obtain rfl:=Option.some.inj hy;have et:Z[i]?=YN Z[i]:=O1 (by omega);have ee:O[i]?=YN O[i]:=O1 (by omega);have q:=s3 _ _ (Ik i _ _ et ee);have bj:=N6 i _ ee;generalize Z[i]=t' at q;generalize O[i]=e at q bj;have ll:((Af fs i).filter (mX fs)).length<=fs.length:=by
   have:=ay.oC fs i;omega
  refine⟨_,rfl,t',_,_,_,rfl,rfl,b0.of q,(show qt [V.int (i:Nat),e] 1=YN e from rfl),rfl,_,rfl,?_⟩;rcases bj with⟨b,hb,rfl⟩|⟨hb,rfl⟩
  .rcases ug (fs:=fs) (a:=i)with⟨hno,_⟩|⟨b',Ks,er⟩
   .exact U4 hb.1 (hno b)
   have eb:=ay.dW Ks hb;subst eb;refine Bf (show(!decide (V.int (b':Nat)=V.fF))=true by rw[U1 (λz=>by cases z)];rfl) ?_;obtain⟨ys,y1,y2,y3⟩:=hT.snoc (t:=t') (x:=((i:Int),(b':Int))) q;refine⟨_,rfl,_,y1,aB (by rw[y2];omega),_,rfl,s3.upd pT,?_⟩;rw[ay.kD,Qd,er];exact y3
  refine FC (by decide) ?_;refine⟨_,rfl,s3,?_⟩;rcases ug (fs:=fs) (a:=i)with⟨_,er⟩|⟨b',Ks,_⟩
  .rw[ay.kD,Qd,er,Qh];exact hT
  exact U4 Ks.1 (hb b')
 rintro σ H3 ⟨v,rfl,s3,hT⟩;rw[O3,IY]at hT;exact k D2 H3 ((s1.trans s2).free pT) ((s1.trans s2).trans s3) hT
theorem uX{f f1 f2 f3:U0}{fd iJ pz yA:Ve}(B:Bl mg)(F:Fn K mg "gap_kins" gn ["row"] f fd)(ji:Fn K mg "framed" dy ["row"] f1 iJ)(Z:Fn K mg "kin_end" eP ["numbers","first"] f2 pz)(J:Fn K mg "kin_spans" dk ["row"] f3 yA):aT P w K mg base b7 3 f fd ["row"] ay.qJ:=by
 have L:aT P w K mg base b7 2 f3 yA ["row"] fZ:=lr B J ji Z;refine F.fn.ok fD (λvs H Q E h=>?_) (λjr A outer s H vs Q E hr h=>?_)
 .obtain⟨t,rs,rfl,_⟩:=h
  rfl
 obtain⟨t,rs,rfl,ht,fit,k⟩:=h;have hu:=xp hr;have hn:=fit.small;refine⟨_,(ai (aF (i:=1) fD.nd rfl (Or.inr rfl) iP)
  (ai (bG PassesOwn.never rfl (a9 (br L J (hr.mono (by decide)) (af (pv 0) ah))) (lP rfl (cL (aG (i:=2) fD.nd rfl (Or.inl rfl)) (cL (aG (i:=3) fD.nd rfl (Or.inl rfl)) jn))) (ax (bG PassesOwn.never rfl (jo rfl B.range (af (pv 2) (af (pv 3) ah))) (aG (i:=4) fD.nd rfl (Or.inl rfl)) (ax (ni hu (pv 1) (pv 4) (nR (af (pv 2) (af (pv 3) ah))) rfl)))))
  (ax (aX (bN (NC:=["gap","told"]) rfl (bO (c:=s.heap.objs.size+1) (j:=1) rfl (by decide +kernel) (by decide +kernel) rfl rfl rfl rfl rfl) (cg rfl B.range (af (aD aQ (aC aA rfl B.len aY (af (pv 0) ah)) ao) ah)) (λ_ _ _ _=>(aG (i:=0) (show(["gap","told"]:List Vl).Nodup by decide +kernel) rfl (Or.inl rfl))) (λ_ _ _ _=>cf) (λ_ _ _ _=>(j9 hu (pv 1) (pv 0) (λ_ _=>rfl)))))))),?_⟩
 have j6:(iV rs).length=rs.length:=aL rs;have lim:∀x:Nat,x<=5000->x<sizeLine:=λx hx=>Q7 hx (by decide);intro dG Fb;have s1:av H (upd H dG (.dK [])):=aj Fb;have hG1:upd H dG (.dK []) dG=YN (.dK []):=ag;generalize upd H dG (.dK [])=H1 at s1 hG1⊢;refine⟨_,rfl,t,rs,rfl,s1 _ _ ht,fit,λl H2 hl s2 hT=>?_⟩;obtain⟨ts,yz,hlen,wO⟩:=id hT;have kl:=ay.kE (aw rs);rw[aW]at kl;have asc:=ay.gY (aw rs);have knm:∀p∈cX (aw rs),∃a b:Nat,p=((a:Int),(b:Int))/\a<b/\b<rs.length+2:=λp hp=>by
  obtain⟨a,b,kn,rfl⟩:=ay.bK.mp hp;have:=kn.1.lb;rw[aW]at this;exact⟨a,b,rfl,kn.1.lt,this⟩
 have all:=λ(H:Hp) (d:U0) (kv:List (Key×V)) (h:GK H d kv (cX (aw rs))) (g:Nat) (hg:g<rs.length+1)=>ay.HD fit h hg;have fin:(PX (rs.length+1)).map (ow (aw rs))=Bg rs:=rfl;generalize cX (aw rs)=ps at hT wO hlen kl asc knm all;have Ae:(ts.map V.ref).length=ps.length:=by rw[O3,hlen]
 refine⟨l,rfl,⟨_,aM.of yz⟩,cM (K:=K) (a:=l) (xs:=ts.map V.ref) (λi σ H3=>∃(v2 v3 v4:Option V) (kv:List (Key×V)),σ=[YN (.ref t),YN (.ref dG),v2,v3,v4]/\av H H3/\H3 l=YN (.lst (ts.map V.ref))/\(∀a ys,H2 a=YN (.tup ys)->H3 a=YN (.tup ys))/\kv.length<=42*i/\GK H3 dG kv (ps.take i))
  ⟨none,none,none,[],rfl,s1.trans s2,yz,λa ys e=>e,O5 _,s2 _ _ hG1,λg q hq=>U4 hq Pf⟩ (λi σ H3 _ ⟨_,_,_,_,_,_,h,_⟩=>aM.of h) ?_ ?_⟩
 .rintro i y σ H3 hy ⟨v2,v3,v4,kv,rfl,s3,Aj,N7,lk,gk⟩;have hi:i<ps.length:=by rw[<-Ae];exact(O2.mp hy).1
  have Fc:ps[i]?=YN ps[i]:=O1 hi;obtain⟨t',N8,rfl⟩:∃t,ts[i]?=YN t/\y=.ref t:=by
   rw[O7]at hy;obtain⟨t,e1,e2⟩:=Pl.mp hy;exact⟨t,e1,e2.symm⟩
  have zZ:=N7 _ _ (wO i t' _ N8 Fc);have Dh:ps.take (i+1)=ps.take i++[ps[i]]:=ay.take_snoc Fc;have lts:∀q∈ps.take i,q.1<ps[i].1:=λq hq=>by
   obtain⟨j,hj⟩:=PD hq;rw[QV]at hj
   split at hj
   .rename_i h;have FQ:=O2.mp hj;have z:=Pz.mp asc j i FQ.1 hi h;rw[FQ.2]at z;exact z
   cases hj
  obtain⟨a,b,ep,hab,hb⟩:=knm _ (PU hi);rw[ep]at zZ Dh lts;refine⟨t',_,rfl,b0.of zZ,rfl,_,_,rfl,_,_,rfl,rfl,?_⟩;refine⟨_,rfl,_,rfl,_,_,rfl,⟨by omega,by omega,by omega,by omega⟩,cS (lo:=(a:Int)) (n:=((b:Int)-(a:Int)).toNat) (λj σ O=>∃(v4:Option V) (M:List (Key×V)),σ=[YN (.ref t),YN (.ref dG),YN (.int a),YN (.int b),v4]/\av H O/\O l=YN (.lst (ts.map V.ref))/\(∀a ys,H3 a=YN (.tup ys)->O a=YN (.tup ys))/\M.length<=42*i+j/\GI O dG kv M ((a:Int),(b:Int)) j)
   ⟨v4,kv,rfl,s3,Aj,λa ys e=>e,by omega,gk.at',λg h1 h2=>by dsimp only at h1 h2;omega,λg _=>rfl⟩ ?_ ?_⟩
  .rintro j σ O hj ⟨v4,M,rfl,s4,wQ,K7,lk4,gi⟩;refine⟨_,rfl,_,rfl,by show 2<=U7;decide,λtp N9=>?_⟩;have s5:av O (upd O tp (.tup [.int a,.int b])):=aj N9;have h5:upd O tp (.tup [.int a,.int b]) tp=YN (.tup (ay.pr ((a:Int),(b:Int)))):=ag;have gi5:GI (upd O tp (.tup [.int a,.int b])) dG kv M ((a:Int),(b:Int)) j:=⟨s5 _ _ gi.at',λg h1 h2=>let⟨t,e1,e2⟩:=gi.new g h1 h2;⟨t,e1,s5 _ _ e2⟩,gi.old⟩
   have gi6:=gi5.put (by dsimp only;omega) h5;have zl:=bU M (Sum.inl ((a:Int)+(j:Int)):Key) (V.ref tp);have adZ:H dG=none:=Fb;have nl:l≠dG:=λz=>by rw[z,gi.at']at wQ;cases wQ
   refine⟨_,rfl,_,rfl,dG,_,rfl,pE.k (k:=Sum.inl ((a:Int)+(j:Int))) gi5.at' (lim _ (by omega)),_,putK M (Sum.inl ((a:Int)+(j:Int)):Key) (V.ref tp),rfl,(s4.trans s5).upd Fb,by rw[au nl];exact s5 _ _ wQ,λx ys e=>?_,by omega,gi6⟩;rw[au λz=>by have:=gi.at';rw[<-z,K7 _ _ e]at this;cases this];exact s5 _ _ (K7 _ _ e)
  rintro σ O ⟨v4,M,rfl,s4,wQ,K7,lk4,gi⟩;refine⟨_,_,_,M,rfl,s4,wQ,λx ys e=>K7 _ _ (N7 _ _ e),by omega,?_⟩;rw[Dh];exact gk.next gi (by dsimp only;omega) lts K7
 rintro σ H3 ⟨v2,v3,v4,kv,rfl,s3,Aj,N7,lk,gk⟩;rw[Ae,PQ]at gk;refine⟨_,rfl,t,_,rfl,.inr (b0.of (s3 _ _ ht)),_,_,rfl,rfl,_,rfl,by rw[j6];omega,by rw[j6];omega,λD hD=>?_⟩;refine fX (λi σ O=>∃v:Option V,σ=[v,YN (.ref dG)]/\av H3 O/\ay.dJ ay.pr O D ((PX i).map (ow (aw rs)))) ⟨none,rfl,aj hD,ay.dJ.nil ag⟩ ?_ ?_
 .rintro i σ O hi ⟨v,rfl,s4,IZ⟩;rw[j6]at hi;have hi:i<rs.length+1:=by omega
  rw[Sh];obtain⟨tp,e1,e2⟩:=all H3 dG kv gk i hi;have g4:=nT.k (k:=Sum.inl (i:Int)) (s4 _ _ gk.at');rw[e1]at g4;refine jB ?_;obtain⟨ys,y1,y2,y3⟩:=IZ.snoc (t:=tp) (x:=ow (aw rs) i) (s4 _ _ e2);refine⟨_,rfl,_,rfl,dG,_,rfl,g4,_,y1,aB (by rw[y2,O3,PN];omega),_,rfl,s4.upd hD,?_⟩;rw[QT,Ph];exact y3
 rintro σ O ⟨v,rfl,s4,IZ⟩;have e:(((iV rs).length:Nat)+1:Int).toNat=rs.length+1:=by rw[j6];omega
 rw[e,fin]at IZ;exact k D O (s3.free hD) (s3.trans s4) IZ
theorem uY{f f1 f2 f3 f4 f5:U0}{fd iJ pz yA z4 Il:Ve}(B:Bl mg)(F:Fn K mg "knots_in" eQ ["row"] f fd)(J:Fn K mg "framed" dy ["row"] f1 iJ)(jz:Fn K mg "kin_end" eP ["numbers","first"] f2 pz)(uZ:Fn K mg "kin_spans" dk ["row"] f3 yA)(iE:Fn K mg "gap_kins" gn ["row"] f4 z4)(O:Fn K mg "open_gaps" fq ["row"] f5 Il):aT P w K mg base b7 4 f fd ["row"] kQ:=by
 have jh:aT P w K mg base b7 1 f1 iJ ["row"] gW:=jy B J;have wU:aT P w K mg base b7 3 f4 z4 ["row"] ay.qJ:=uX B iE J jz uZ;have u9:aT P w K mg base b7 2 f5 Il ["row"] ay.oq:=sM B O J;refine F.fn.ok dP (λvs H Q E h=>?_) (λjr A outer s H vs Q E hr h=>?_)
 .obtain⟨t,rs,rfl,_⟩:=h
  rfl
 obtain⟨t,rs,rfl,ht,fit,k⟩:=h;have hu:=xp hr;have hn:=fit.small;refine⟨_,(ai (aF (i:=1) dP.nd rfl (Or.inl rfl) (br jh J (hr.mono (by decide)) (af (pv 0) ah)))
  (ai (aF (i:=2) dP.nd rfl (Or.inl rfl) (br wU iE (hr.mono (by decide)) (af (pv 0) ah)))
  (ai (aF (i:=3) dP.nd rfl (Or.inl rfl) AH)
  (ai (bG PassesOwn.never rfl (a9 (br u9 O (hr.mono (by decide)) (af (pv 0) ah))) (aG (i:=4) dP.nd rfl (Or.inl rfl)) (ai (aF (i:=5) dP.nd rfl (Or.inl rfl) (Bv hu (pv 3) (aP bf (pv 2) (pv 4) (λ_ _=>rfl)) (bJ ah) ⟨rfl,rfl,rfl,rfl⟩))
  (ax (dB (gU Qg SR SS qw (pv 5) (af (bJ (af (b9 dH (aP b5 (pv 1) (pv 4) (λ_ _=>rfl)) ao (aJ _)) (af (b9 dH (aP b5 (pv 1) (aD aQ (pv 4) ao) (λ_ _=>rfl)) ao (aJ _)) ah))) ah))))))
  (ax (aX (aC (i5 false) rfl B.sorted js (af (bN (NC:=["kin","beside"]) rfl (gz rfl (by decide +kernel) (by decide +kernel)) (Hq (pv 3)) (λ_ _ _ _=>(DL (K:=K) (n:=2) rfl rfl (cL (aG (i:=0) (show(["kin","beside"]:List Vl).Nodup by decide +kernel) rfl (Or.inl rfl)) (cL (aG (i:=1) (show(["kin","beside"]:List Vl).Nodup by decide +kernel) rfl (Or.inl rfl)) jn)))) (λ_ _ _ _=>(cZ (PW.pt (Ar (nO (aC (uC rfl) rfl B.all HI (af (pv 1) ah))) (vu (As (nO (aC (uB rfl) rfl B.any HJ (af (pv 1) ah))))))))) (λ_ _ _ _=>(pv 0))) ah)))))))),?_⟩
 have fl:=aW rs;have lim:∀x:Nat,x<=5000->x<sizeLine:=λx hx=>Q7 hx (by decide);refine⟨_,rfl,t,rs,rfl,ht,by omega,λtN H1 s1 hN=>?_⟩;refine⟨_,rfl,t,rs,rfl,s1 _ _ ht,fit,λlB H2 hlB s2 hB=>?_⟩;intro d hd;have s3:av H2 (upd H2 d (.dT [])):=aj hd;refine⟨_,rfl,t,rs,rfl,s3 _ _ (s2 _ _ (s1 _ _ ht)),by omega,λlO H4 hlO s4 hO=>?_⟩;have hd4:H4 d=YN (.dT []):=s4 _ _ ag;have Di:av H2 (wo H4 d):=ay.Ew (s3.trans s4) hd;have nOd:lO≠d:=λz=>by rw[z,ag]at hlO;cases hlO
 have L3:wo H4 d lO=YN (.lst (iV (jI (aw rs) (rs.length+1)))):=by rw[ay.B4 nOd];exact hO
 have sH:av H (wo H4 d):=(s1.trans s2).trans Di;have K8:=Di _ _ (s2 _ _ hN);have hB0:=hB.same Di;have Kt:wo H4 d d=none:=ay.FV;have s04:av (wo H4 d) H4:=ay.Eu;generalize wo H4 d=H0 at Di L3 sH K8 hB0 Kt s04;rw[ay.zj]at L3 hO;have hL:∀g∈iK (aw rs) (rs.length+1),g<rs.length+1:=λg hg=>ay.En hg;have lL:=ay.Em (aw rs) (rs.length+1);generalize iK (aw rs) (rs.length+1)=L at L3 hO hL lL k;have eL:∀(i:Nat) (g:Nat),L[i]?=YN g->(iV (L.map λ(g:Nat)=>(g:Int)))[i]?=YN (.int (g:Int)):=λi g e=>by
  unfold iV;rw[O7,O7,e]
  rfl
 have Im:(iV (L.map λ(g:Nat)=>(g:Int))).length=L.length:=by rw[aL,O3]
 refine⟨lO,rfl,⟨_,aM.of hO⟩,cM (K:=K) (a:=lO) (xs:=iV (L.map λ(g:Nat)=>(g:Int))) (λi σ H5=>∃(v4 v5:Option V) (kvs:List (List Key×V)) (ps:List (Int×Int)) (as:List U0),σ=[YN (.ref t),YN (.ref tN),YN (.ref lB),YN (.ref d),v4,v5]/\av H0 H5/\KD H0 H5 d kvs ps as (ay.ib (aw rs) (L.take i))/\kvs.length<=i)
  ⟨none,none,[],[],[],rfl,s04,⟨hd4,rfl,rfl,QK,QK,λj a p e=>(nomatch e),λa ha=>U4 ha Pf,λp=>⟨λz=>U4 z Pf,λz=>U4 rfl z⟩⟩,O5 _⟩ (λi σ H5 _ zq=>by obtain⟨_,_,_,_,_,_,s5,_⟩:=zq;exact aM.of (s5 _ _ L3)) ?_ ?_⟩
 .rintro i y σ H5 hy ⟨v4,v5,kvs,ps,as,rfl,s5,kd,lk⟩;have hi:i<L.length:=by have:=(O2.mp hy).1;rw[Im]at this;exact this
  have ei:L[i]?=YN L[i]:=O1 hi;rw[eL i _ ei]at hy;obtain rfl:=Option.some.inj hy;have hg:=hL _ (PU hi);have Dh:L.take (i+1)=L.take i++[L[i]]:=ay.take_snoc ei;generalize L[i]=g at ei hg Dh;have egl:(Bg rs)[g]?=YN (ow (aw rs) g):=by
   unfold Bg;rw[O7,Q1 hg]
   rfl
  obtain⟨vB,tB,b1,b2,b3⟩:=hB0.get egl;have Z:∀q,q≠ow (aw rs) g->ay.ib (aw rs) (L.take (i+1)) q=ay.ib (aw rs) (L.take i) q:=λq hq=>by
   rw[Dh,ay.oN,UX λz=>hq z.symm]
  have q8:ay.ib (aw rs) (L.take (i+1)) (ow (aw rs) g)=ay.ib (aw rs) (L.take i) (ow (aw rs) g)++[decide ((aw rs).getD g 0<0),decide ((aw rs).getD (g+1) 0<0)]:=by
   rw[Dh,ay.oN,UZ rfl]
  have sl:(ay.ib (aw rs) (L.take i) (ow (aw rs) g)).length<=100:=PK (ay.El _ _ _) (by rw[Pw];omega);generalize ay.ib (aw rs) (L.take (i+1))=F' at Z q8;generalize ay.ib (aw rs) (L.take i)=F at Z q8 sl kd;generalize ow (aw rs) g=p at b3 Z q8 sl;have e1:(g:Int)+1=((g+1:Nat):Int):=by omega
  have gN1:=c7 (rs:=aw rs) (j:=g) (by omega);have gN2:=c7 (rs:=aw rs) (j:=g+1) (by omega);refine⟨_,rfl,d,rfl,.inr ⟨_,.inl kd.at'⟩,_,rfl,_,rfl,lB,_,_,_,rfl,rfl,aM.of (s5 _ _ b1),aV b2,by show 0<=U7;decide,λn Io=>?_⟩;have s6:av H5 (upd H5 n (.lst [])):=aj Io;have Dj:=kd.same s6;have Gj:upd H5 n (.lst []) n=YN (.lst []):=ag;have IG:H0 n=none:=s5.free Io;have N2:n∉as:=λz=>by
   obtain⟨j,hj⟩:=PD z;have hl:=kd.len;have FQ:j<ps.length:=by rw[<-hl.2];exact(O2.mp hj).1
   have:=kd.lst j n _ hj (O1 FQ);rw[Io]at this;cases this
  have Ip:=s5.trans s6;generalize upd H5 n (.lst [])=H6 at s6 Dj Gj Ip;refine⟨kvs,ay.kp p,tB,Dj.at',rfl,Ip _ _ b3,lim _ (by omega),λv hv=>?_,λhv=>?_⟩
  .obtain⟨a,ev,ha,N4,_⟩:=Dj.old (F':=F') hv q8 Z;subst ev;refine⟨_,rfl,.inl ⟨rfl,_,aM.of ha⟩,_,rfl,_,rfl,tN,_,_,_,rfl,rfl,b0.of (Ip _ _ K8),aV gN1,_,_,rfl,rfl,_,rfl,_,rfl,_,_,rfl,rfl,tN,_,_,_,rfl,rfl,b0.of (Ip _ _ K8),(by rw[e1];exact aV gN2),_,_,rfl,rfl,by show 2<=U7;decide,λl2 qx=>?_⟩;have s7:av H6 (upd H6 l2 (.lst [.bl (decide ((aw rs).getD g 0<0)),.bl (decide ((aw rs).getD (g+1) 0<0))])):=aj qx;have h27:upd H6 l2 (.lst [.bl (decide ((aw rs).getD g 0<0)),.bl (decide ((aw rs).getD (g+1) 0<0))]) l2=YN (.lst [.bl (decide ((aw rs).getD g 0<0)),.bl (decide ((aw rs).getD (g+1) 0<0))]):=ag;generalize upd H6 l2 (.lst [.bl (decide ((aw rs).getD g 0<0)),.bl (decide ((aw rs).getD (g+1) 0<0))])=H7 at s7 h27;obtain⟨a',ev,N5,_,L4⟩:=(Dj.same s7).old (F':=F') hv q8 Z;injection ev with ev;subst ev;exact⟨a,l2,_,_,rfl,rfl,N5,h27,Qx (lim _ (by rw[O3];show _+2<=_;omega)),_,_,kvs,ps,as,rfl,(Ip.trans s7).upd N4,L4,by omega⟩
  have ndn:d≠n:=λz=>by have:=Dj.at';rw[z,Gj]at this;cases this
  have F0:F p=[]:=Pa λc=>by
   have hp:=(Dj.mem p).mpr c;obtain⟨j,hj⟩:=PD hp;have hl:=Dj.len;have FQ:j<as.length:=by rw[hl.2];exact(O2.mp hj).1
   have:=ay.rX Dj.nk (Dj.key (O1 FQ) hj);rw[hv]at this;cases this
  have hn7:upd H6 d (.dT (putK kvs (ay.kp p) (.ref n))) n=YN (.lst []):=by rw[au (Ne.symm ndn)];exact Gj
  have Oa:av H0 (upd H6 d (.dT (putK kvs (ay.kp p) (.ref n)))):=Ip.upd Kt;refine⟨_,rfl,.inl ⟨rfl,_,aM.of hn7⟩,_,rfl,_,rfl,tN,_,_,_,rfl,rfl,b0.of (Oa _ _ K8),aV gN1,_,_,rfl,rfl,_,rfl,_,rfl,_,_,rfl,rfl,tN,_,_,_,rfl,rfl,b0.of (Oa _ _ K8),(by rw[e1];exact aV gN2),_,_,rfl,rfl,by show 2<=U7;decide,λl2 qx=>?_⟩;have n2d:l2≠d:=λz=>by rw[z,ag]at qx;cases qx
  have Fd:H6 l2=none:=by rw[au n2d]at qx;exact qx
  have n2n:n≠l2:=λz=>by rw[<-z,Gj]at Fd;cases Fd
  have s8:av H6 (upd H6 l2 (.lst [.bl (decide ((aw rs).getD g 0<0)),.bl (decide ((aw rs).getD (g+1) 0<0))])):=aj Fd;have L4:=(Dj.same s8).fresh (F':=F') (xs:=[decide ((aw rs).getD g 0<0),decide ((aw rs).getD (g+1) 0<0)]) hv (s8 _ _ Gj) IG N2 F0 (by rw[q8,F0];rfl) (List.cons_ne_nil _ _) Z;rw[ay.B5 n2d]at L4;have lk':=bU kvs (ay.kp p) (V.ref n);exact⟨n,l2,_,_,rfl,rfl,by rw[au n2n];exact hn7,ag,by show 2<=U7;decide,_,_,_,_,_,rfl,((Oa.upd (Ip.free Fd)).upd IG),L4,by omega⟩
 rintro σ H5 ⟨v4,v5,kvs,ps,as,rfl,s5,kd,lk⟩;rw[Im,PQ]at kd;rw[Im]at lk;have hl:=kd.len;refine⟨_,rfl,d,kvs,rfl,kd.at',λob D hD=>?_⟩;have K9:H5 D=none:=by
  by_cases e:D=d
  .rw[e,ag]at hD;cases hD
  rwa[au e]at hD
 have hd6:upd H5 d (.gQ ob (.dT kvs)) d=YN (.gQ ob (.dT kvs)):=ag;have s6:av H0 (upd H5 d (.gQ ob (.dT kvs))):=s5.upd Kt;have ls6:∀(j:Nat) (a:U0) (p:Int×Int),as[j]?=YN a->ps[j]?=YN p->upd H5 d (.gQ ob (.dT kvs)) a=YN (.lst ((ay.ib (aw rs) L p).map V.bl)):=λj a p h1 h2=>by
  have z:=kd.lst j a p h1 h2;rw[au λq=>by have:=kd.at';rw[<-q,z]at this;cases this];exact z
 generalize upd H5 d (.gQ ob (.dT kvs))=H6 at hD hd6 s6 ls6⊢;refine Bz (λi σ H7=>∃v v':Option V,σ=[v,v']/\av H6 H7/\ay.dJ ay.pr H7 D ((ps.take i).filter (ay.bySigns (aw rs) L))) ⟨none,none,rfl,aj hD,ay.dJ.nil ag⟩ (λi σ H7 _ ⟨_,_,_,s7,_⟩=>s7 _ _ hd6) ?_ ?_
 .rintro i tp b kk v σ H7 hy ⟨v,v',rfl,s7,La⟩ wO hb;have hi:i<ps.length:=by rw[<-hl.1];exact(O2.mp hy).1
  have Nn:i<as.length:=by omega
  have ep:=O1 hi;have ea:=O1 Nn;rw[kd.key ea ep]at hy;injection hy with hy;injection hy with hy1 hy2;subst hy1 hy2;have s8:av H7 (upd H7 tp (.tup [.ref b,.ref as[i]])):=aj wO;have ha:=s8 _ _ (s7 _ _ (ls6 i _ _ ea ep));refine⟨tp,_,rfl,b0.of ag,rfl,_,_,rfl,_,_,rfl,rfl,?_⟩;refine⟨_,rfl,as[i],_,rfl,ha,_,rfl,?_⟩;have es:(ps.take (i+1)).filter (ay.bySigns (aw rs) L)=(ps.take i).filter (ay.bySigns (aw rs) L)++(if ay.bySigns (aw rs) L ps[i]=true then[ps[i]]else[]):=by
   rw[ay.take_snoc ep,Qd,Qq,Qt]
  obtain⟨ys,y1,y2,y3⟩:=(La.same s8).snoc (t:=b) (x:=ps[i]) (s8 _ _ hb);have yl:ys.length<sizeLine:=lim _ (by rw[y2];exact PK (PJ _ _) (by rw[Pw];omega));have hs8:av H6 (upd (upd H7 tp (.tup [.ref b,.ref as[i]])) D (.lst (ys++[.ref b]))):=(s7.trans s8).upd hD;refine gv (λh1=>?_) (λh1=>?_)
  .have bt:ay.bySigns (aw rs) L ps[i]=true:=by unfold ay.bySigns;rw[h1];rfl
   rw[UZ bt]at es;dsimp only;rw[UZ rfl];exact⟨_,rfl,ys,y1,yl,_,_,rfl,hs8,by rw[es];exact y3⟩
  refine⟨_,rfl,as[i],_,rfl,ha,_,rfl,?_⟩;refine gv (λh2=>?_) (λh2=>?_)
  .have bt:ay.bySigns (aw rs) L ps[i]=true:=by unfold ay.bySigns;rw[h2];exact Bool.or_true _
   rw[UZ bt]at es;exact⟨_,rfl,ys,y1,yl,_,_,rfl,hs8,by rw[es];exact y3⟩
  have bt:¬ay.bySigns (aw rs) L ps[i]=true:=by
   unfold ay.bySigns;rw[Tg];exactλz=>z.elim h1 h2
  rw[UX bt,Qh]at es;exact⟨_,_,rfl,s7.trans s8,by rw[es];exact La.same s8⟩
 rintro σ H7 ⟨v,v',rfl,s7,La⟩;rw[hl.1,PQ]at La;obtain⟨ts,g,c1,c2,c3,c4⟩:=ay.kO La (λp hp=>ay.x6 fit (ay.x5 fit hL ((kd.mem p).mp (Pd.mp hp).1)));have tl:ts.length<64:=by
  rw[c2];exact Q7 (PJ _ _) (by omega)
 refine⟨D,ts,g,rfl,aM.of c1,tl,c3,λus l hp hs Lb=>?_⟩;obtain⟨M,m1,m2,m3⟩:=c4 us hp hs;have eM:=ay.B6 fit hL kd.np kd.mem m1 m2;have s8:av H7 (upd H7 l (.lst (us.map V.ref))):=aj Lb;have Lc:=m3 _ l s8 ag;rw[eM]at Lc;exact k l _ (((sH.trans s6).trans s7).free Lb) (((sH.trans s6).trans s7).trans s8) Lc
end
section
seal L2.sY L2.PS L2.PE L2.PT L2.PA
variable {P:U8}{w:Va}{K:Pc}{mg:Vl->Option UW}{base:Vi}
theorem jW{f:U0}{fd:Ve}(B:Bl mg)(F:Fn K mg "shortest_around" bX ["chain","kins"] f fd):aT P w K mg base b7 1 f fd ["chain","kins"] ay.xZ:=by
 refine F.fn.ok gr (λvs H Q E h=>?_) (λjr A outer s H vs Q E hr h=>?_)
 .obtain⟨M,l,z,c,kins,rfl,_⟩:=h
  rfl
 obtain⟨M,l,z,c,kins,rfl,hc,ht,O,hk,hn,k⟩:=h;refine⟨_,(ai (dC (ix:=2) (NC:=["kin","chain"]) gr.nd rfl (Or.inl rfl) rfl (bO (c:=s.heap.objs.size+1) (j:=0) rfl (by decide +kernel) (by decide +kernel) rfl rfl rfl rfl rfl) (a9 (pv 1)) (λ_ _ _ _=>(aG (i:=0) (show(["kin","chain"]:List Vl).Nodup by decide +kernel) rfl (Or.inl rfl))) (λ_ _ _ _=>(cZ (PW.pt (fT (aI dH (aP (fL (K:=K) rfl) (pv 0) ao (λ_ _=>rfl)) (aP (fL (K:=K) rfl) (aP (fL (K:=K) rfl) (pv 1) ao (λ_ _=>rfl)) ao (λ_ _=>rfl)) (aJ _)) (eT (aI dH (aP (fL (K:=K) rfl) (aP (fL (K:=K) rfl) (pv 1) (nQ jL ao) (λ_ _=>rfl)) ao (λ_ _=>rfl)) (aP (fL (K:=K) rfl) (pv 0) ao (λ_ _=>rfl)) (aJ _))))))) (λ_ _ _ _=>(pv 0)))
  (ax (aX (du eW (pv 2) (dR (nQ jL ao)) fJ)))),?_⟩
 obtain⟨us,h1,h2,h3⟩:=id hk;have LX:=ht.1;have c0:0<c.length:=by cases c with|nil=>exact U4 rfl O|cons x r=>exact SE _
 have g0:z[0]?=YN (z[0]'(by omega)):=O1 (by omega);have gl:z[z.length-1]?=YN (z[z.length-1]'(by omega)):=O1 (by omega);have t0:H (z[0]'(by omega))=YN (.tup (ay.pr (c.headD (0,0)))):=ht.2 0 _ _ g0 (by cases c with|nil=>exact U4 rfl O|cons x r=>rfl);have tl:H (z[z.length-1]'(by omega))=YN (.tup (ay.pr (c.getLastD (0,0)))):=ht.2 _ _ _ gl (by
  rw[LX,<-PV,QD];cases e:c.getLast? with
  |none=>exact U4 (List.getLast?_eq_none_iff.mp e) O
  |some x=>rfl)
 generalize z[0]'(by omega)=u0 at g0 t0;generalize z[z.length-1]'(by omega)=ul at gl tl;have a0:qt (z.map V.ref) 0=YN (.ref u0):=aV (j:=0) (by rw[O7,g0];rfl);have al:qt (z.map V.ref) (-1)=YN (.ref ul):=ay.xY (by rw[R9,PV,gl];rfl);refine⟨_,rfl,l,rfl,⟨_,aM.of h1⟩,λD hD=>?_⟩;refine bg (K:=K) (a:=l) (xs:=us.map V.ref) (λi σ L=>∃v:Option V,σ=[v,YN (.ref M)]/\av H L/\ay.dJ ay.pr L D ((kins.take i).filter (jC c))) ⟨none,rfl,aj hD,ay.dJ.nil ag⟩ (λi σ L _ zq=>by obtain⟨_,_,J,_⟩:=zq;exact aM.of (J _ _ h1)) ?_ ?_
 .rintro i x σ L hx ⟨v,rfl,J,Z⟩;rw[O7]at hx;obtain⟨t,et,rfl⟩:=Pl.mp hx;have hi:i<kins.length:=by rw[<-h2];exact(O2.mp et).1
  have ek:=O1 hi;generalize kins[i]=p at ek;have hp:=J _ _ (h3 i t p et ek);have hl:((kins.take i).filter (jC c)).length<=100:=PK (PJ _ _) (by rw[Pw];omega);refine⟨_,rfl,t,_,_,_,rfl,rfl,b0.of hp,rfl,_,rfl,M,_,_,_,rfl,rfl,b0.of (J _ _ hc),a0,u0,_,_,_,rfl,rfl,b0.of (J _ _ t0),rfl,_,_,rfl,rfl,_,rfl,?_⟩;have e3:(kins.take (i+1)).filter (jC c)=(kins.take i).filter (jC c)++(if jC c p=true then[p]else[]):=by
   rw[ay.take_snoc ek,Qd,Qq,Qt]
  have yes:jC c p=true->∃ys,L D=YN (.lst ys)/\ys.length<U7/\∃v:Option V,[YN (.ref t),YN (.ref M)]=[v,YN (.ref M)]/\av H (upd L D (.lst (ys++[.ref t])))/\ay.dJ ay.pr (upd L D (.lst (ys++[.ref t]))) D ((kins.take (i+1)).filter (jC c)):=λh=>by
   obtain⟨ys,y1,y2,y3⟩:=Z.snoc hp;refine⟨ys,y1,aB (by rw[y2];omega),_,rfl,J.upd hD,?_⟩;rw[e3,UZ h];exact y3
  have no:¬jC c p=true->∃v:Option V,[YN (V.ref t),YN (.ref M)]=[v,YN (.ref M)]/\av H L/\ay.dJ ay.pr L D ((kins.take (i+1)).filter (jC c)):=λh=>by
   refine⟨_,rfl,J,?_⟩;rw[e3,UX h,Qh];exact Z
  have ar:jC c p=(decide (p.1<(c.headD (0,0)).1)&&decide ((c.getLastD (0,0)).2<p.2)):=rfl;by_cases c1:p.1<(c.headD (0,0)).1
  .rw[UU c1];refine rD ?_;refine⟨_,rfl,_,rfl,M,_,_,_,rfl,rfl,b0.of (J _ _ hc),al,ul,_,_,_,rfl,rfl,b0.of (J _ _ tl),rfl,_,rfl,t,_,_,_,rfl,rfl,b0.of hp,rfl,_,_,rfl,rfl,_,rfl,?_⟩;by_cases c2:(c.getLastD (0,0)).2<p.2
   .rw[UU c2];exact rD ⟨_,rfl,yes (by rw[ar,UU c1,UU c2];rfl)⟩
   rw[U1 c2];exact fW (no (by rw[ar,U1 c2];simp))
  rw[U1 c1];exact fW (fW (no (by rw[ar,U1 c1];simp)))
 rintro σ L ⟨v,rfl,J,Z⟩;rw[O3,h2,PQ]at Z;obtain⟨vs,w1,w2,w3⟩:=id Z;refine⟨_,rfl,_,rfl,_,rfl,D,_,rfl,aM.of w1,λr hr=>?_⟩;refine k r _ (J.free hr) (J.trans (aj hr)) ?_;rw[ay.zr,O3];refine⟨vs.drop (vs.length-1),by rw[ag,RV],?_,λi u q e1 e2=>?_⟩
 .rw[Qo];unfold cG i7;rw[Qo,w2]
 rw[SG]at e1;unfold cG i7 at e2;rw[SG,<-w2]at e2;exact(aj hr) _ _ (w3 _ u q e1 e2)
theorem z5{f f1 f2:U0}{fd iJ pz:Ve}(B:Bl mg)(F:Fn K mg "web_of" jf ["kins"] f fd)(L:Fn K mg "hung_together" bT ["pairs"] f1 iJ)(J:Fn K mg "shortest_around" bX ["chain","kins"] f2 pz):aT P w K mg base b7 2 f fd ["kins"] (nE P w):=by
 have m8:aT P w K mg base b7 1 f1 iJ ["pairs"] rW:=h8 B L;have Z:aT P w K mg base b7 1 f2 pz ["chain","kins"] ay.xZ:=jW B J;refine F.fn.ok eR (λvs H Q E h=>?_) (λjr A outer s H vs Q E hr h=>?_)
 .obtain⟨l,kins,rfl,_⟩:=h
  rfl
 obtain⟨l,kins,rfl,hk,asc,hn,k⟩:=h;have wV:=hr.lt 1 (by decide);refine⟨_,(ai (aF (i:=1) eR.nd rfl (Or.inl rfl) (NK.ur (P:=P) (w:=w) rfl rfl))
  (ai (bG PassesOwn.never rfl (a9 (pv 0)) (aG (i:=2) eR.nd rfl (Or.inl rfl)) (ax (NK.uu (P:=P) (w:=w) rfl rfl wV (pv 1) (pv 2) (bJ ah) rfl)))
  (ai (bG PassesOwn.never rfl (a9 (br m8 L (hr.mono (by decide)) (af (pv 0) ah))) (aG (i:=3) eR.nd rfl (Or.inl rfl)) (ai (aF (i:=4) eR.nd rfl (Or.inl rfl) (a8 cq rfl B.tuple gV (af (bN (NC:=["place","kins"]) rfl (bO (c:=s.heap.objs.size+1) (j:=0) rfl (by decide +kernel) (by decide +kernel) rfl rfl rfl rfl rfl) (Aw (pv 3)) (λ_ _ _ _=>(aG (i:=0) (show(["place","kins"]:List Vl).Nodup by decide +kernel) rfl (Or.inl rfl))) (λ_ _ _ _=>cf) (λ_ _ _ _=>(aP (fh (K:=K) rfl) (pv 1) (pv 0) (λ_ _=>rfl)))) ah)))
  (ai (aF (i:=5) eR.nd rfl (Or.inl rfl) (aD fV (a8 fK rfl B.list gA (af (pv 4) ah)) (br Z J (hr.mono (by decide)) (af (pv 4) (af (pv 0) ah)))))
  (ai (NK.uu (P:=P) (w:=w) rfl rfl wV (pv 1) (pv 4) (pv 5) rfl)
  (ax (bG PassesOwn.never rfl (a9 (pv 5)) (aG (i:=2) eR.nd rfl (Or.inl rfl)) (ax (dB (gU Qg QH QI dI (gb (P:=P) (w:=w) rfl rfl wV (pv 1) (pv 2) (λ_ _=>rfl)) (af (pv 4) ah))))))))))
  (ax (aX (pv 1)))))),?_⟩
 obtain⟨us,h1,h2,h3⟩:=id hk;intro a ha;have T0:j5 P w (upd H a (iZ P w a [])) a [] []:=⟨⟨ag,λp hp=>U4 hp Pf⟩,.nil,QK⟩
 have s0:av H (upd H a (iZ P w a [])):=aj ha;generalize upd H a (iZ P w a [])=H0 at T0 s0;have lim:∀x:Nat,x<=1000->x<sizeLine:=λx hx=>aB hx;refine⟨_,rfl,l,rfl,⟨_,aM.of (s0 _ _ h1)⟩,cM (K:=K) (a:=l) (xs:=us.map V.ref) (λi σ H2=>∃(M:Es) (v2:Option V),σ=[YN (.ref l),YN (.ref a),v2,none,none,none]/\av H H2/\uD H M/\j5 P w H2 a M ((kins.take i).map λq=>(pN q,[]))) ⟨[],none,rfl,s0,λe h=>U4 h Pf,T0⟩ (λi σ H2 _ zq=>by obtain⟨_,_,_,s2,_⟩:=zq;exact aM.of (s2 _ _ h1)) ?_ ?_⟩
 .rintro i x σ H2 hx ⟨M,v2,rfl,s2,nw,T⟩;rw[O7]at hx;obtain⟨t,et,rfl⟩:=Pl.mp hx;have hi:i<kins.length:=by rw[<-h2];exact(O2.mp et).1
  have ek:=O1 hi;have hp:=h3 i t _ et ek;refine⟨by show 0<=U7;decide,λn Io=>?_⟩;have s3:av H2 (upd H2 n (.lst [])):=aj Io;have n3:upd H2 n (.lst []) n=YN (.lst []):=ag;generalize upd H2 n (.lst [])=H3 at s3 n3;have T3:=T.same s3;have lE:M.length=i:=by rw[T.r.length,O3,Pw];omega
  have Kr:n∉M.map (·.2.2):=λz=>by
   obtain⟨e,he,rfl⟩:=O6.mp z;obtain⟨y,_,_,bs,q,_⟩:=dh T.r he;rw[Io]at q;cases q
  refine⟨_,rfl,_,rfl,a,t,_,_,rfl,rfl,T3.d,NK.K2.pair (s3 _ _ (s2 _ _ hp)),lim _ (by unfold eV;rw[O3];omega),?_⟩;have T4:=T3.put (k:=pN kins[i]) (b:=t) (l:=n) (ks:=[]) (λz=>by
   unfold bh at z;rw[Qc]at z;obtain⟨q,hq,e⟩:=O6.mp z;have e:q=kins[i]:=ay.jQ e;subst e;obtain⟨j,hj⟩:=PD hq;rw[QV]at hj;by_cases c:j<i
   .rw[UZ c]at hj;have:=(Qi (O2.mp hj).1 (ay.oO asc)).mp (hj.trans ek.symm);omega
   rw[UX c]at hj;cases hj) (NK.K2.pair (s3 _ _ (s2 _ _ hp))) ⟨[],n3,rfl,λi b k e=>by simp at e⟩ Kr
  have a0:H a=none:=ha;refine⟨M++[(pN kins[i],t,n)],_,rfl,(s2.trans s3).upd a0,λe he=>?_,?_⟩
  rotate_left
  .rw[ay.take_snoc ek,Ph];exact T4
  rcases Po.mp he with he|he
  .exact nw e he
  rw[O4.mp he];exact s2.free Io
 rintro σ H2 ⟨M,v2,rfl,s2,nw,T⟩;rw[O3,h2,PQ]at T;have KO:=ay.jv asc;have T:j5 P w H2 a M (eO kins []):=by
  unfold eO;rw[Tc,Qh];exact T
 have cl:=ay.jR kins;refine⟨_,rfl,l,kins,rfl,hk.same s2,hn,λr H3 hr3 s3 hR=>?_⟩;obtain⟨rs,r1,r2,r3⟩:=id hR;have nar:a≠r:=λz=>by have q:=T.d.1;rw[z,hr3]at q;cases q
 have L5:r∉M.map (·.2.2):=λz=>by
  obtain⟨e,he,q0⟩:=O6.mp z;obtain⟨y,_,_,bs,q,_⟩:=dh T.r he;have q0:e.2.2=r:=q0;rw[q0,hr3]at q;cases q
 refine⟨r,rfl,⟨_,aM.of r1⟩,cM (K:=K) (a:=r) (xs:=rs.map V.ref) (λj σ H4=>∃(M:Es) (v2 v3 v4 v5:Option V),σ=[YN (.ref l),YN (.ref a),v2,v3,v4,v5]/\av H H4/\uD H M/\ay.dJ iV H4 r (eA kins)/\H4 r=YN (.lst (rs.map V.ref))/\r∉M.map (·.2.2)/\j5 P w H4 a M (eO kins ((aN kins).take j))) ⟨M,_,_,_,_,rfl,s2.trans s3,nw,hR,r1,L5,T.same s3⟩ (λi σ H4 _ ⟨_,_,_,_,_,_,_,_,_,e,_⟩=>aM.of e) ?_ ?_⟩
 .rintro j x σ H4 hx ⟨M,v2,v3,v4,v5,rfl,s4,nw,Ob,r4,L5,T⟩;rw[O7]at hx;obtain⟨tg,etg,rfl⟩:=Pl.mp hx;have hj:j<(eA kins).length:=by rw[<-r2];exact(O2.mp etg).1
  have eg:=O1 hj;have hg:(eA kins)[j]∈eA kins:=PU _;generalize(eA kins)[j]=g at eg hg;have htg:H4 tg=YN (.tup (iV g)):=by
   obtain⟨rs',q1,q2,q3⟩:=Ob;rw[r4]at q1;have:rs=rs':=(Ri (f:=V.ref) λa b h=>by injection h).mp (by injection q1 with q1;injection q1);subst this;exact q3 j tg g etg eg
  obtain⟨gne,glt,aeb,aec⟩:=ay.kX hg;have ec:(aN kins)[j]?=YN (g7 kins g):=by unfold aN;rw[O7,eg];rfl
  have hc:=Pj ec;refine⟨_,rfl,tg,rfl,⟨_,b0.of htg⟩,λD hD=>?_⟩;refine A2 (K:=K) (a:=tg) (xs:=iV g) (λi σ H5=>∃(v:Option V) (ts:List U0),σ=[v,YN (.ref l)]/\av H4 H5/\H5 D=YN (.lst (ts.map V.ref))/\ay.Tup ay.pr H5 ts (g7 kins (g.take i))) ⟨none,[],rfl,aj hD,ag,rfl,λi t x e=>by simp at e⟩ (λi σ H5 _ ⟨_,_,_,s5,_⟩=>b0.of (s5 _ _ htg)) ?_ ?_
  .rintro i x σ H5 hx ⟨v,ts,rfl,s5,K9,tp⟩;unfold iV at hx;rw[O7]at hx;obtain⟨y,ey,rfl⟩:=Pl.mp hx;have hy:=glt y (Pj ey);have eu:=O1 (l:=us) (i:=y.toNat) (by omega);generalize us[y.toNat]'(by omega)=u at eu;have ek:=O1 (l:=kins) (i:=y.toNat) (by omega);have hu:=(s4.trans s5) _ _ (h3 _ u _ eu ek);have lt:=tp.1;have D1:i<g.length:=(O2.mp ey).1;refine jB ?_;refine⟨_,rfl,_,rfl,l,_,_,_,rfl,rfl,aM.of ((s4.trans s5) _ _ h1),G0 hy.1 (by rw[O7,eu];rfl),_,K9,lim _ (by rw[O3,lt];unfold g7;rw[O3,Pw];omega),_,ts++[u],rfl,s5.upd hD,by rw[ag,Ph];rfl,?_⟩;rw[ay.B2 kins ey];have e9:kins.getD y.toNat (0,0)=kins[y.toNat]'(by omega):=by rw[Py,ek];rfl
   rw[e9];exact(tp.app (ay.Tup.one hu)).upd K9
  rintro σ H5 ⟨v,ts,rfl,s5,K9,tp⟩;rw[aL,PQ]at tp;refine⟨D,_,rfl,.inl K9,λtc H6 s6 Oc=>?_⟩;have Od:=s5.trans s6;have Ld:=tp.same s6;generalize Jh:g7 kins g=c at Ld ec hc;have Ap:c≠[]:=λz=>by rw[<-Jh]at z;unfold g7 at z;exact gne (TK.mp z)
  have aed:c.length<=100:=by rw[<-Jh];unfold g7;rw[O3];omega
  refine⟨_,rfl,tc,_,rfl,.inr (b0.of Oc),λl1 LY=>?_⟩;have Fe:av H6 (upd H6 l1 (.lst (ts.map V.ref))):=aj LY;have l17:upd H6 l1 (.lst (ts.map V.ref)) l1=YN (.lst (ts.map V.ref)):=ag;generalize upd H6 l1 (.lst (ts.map V.ref))=H7 at Fe l17;refine⟨_,rfl,_,rfl,tc,l,ts,c,kins,rfl,Fe _ _ Oc,Ld.same Fe,Ap,hk.same ((s4.trans Od).trans Fe),hn,λr2 H8 C2 Ja t8=>?_⟩;obtain⟨qs,q1,q2⟩:=t8.tup;have tp8:=(Ld.same Fe).same Ja;have shl:=ay.i8 (kins:=kins) (c:=c);refine⟨l1,r2,_,_,rfl,rfl,Ja _ _ l17,q1,Qx (lim _ (by rw[O3,O3,Ld.1,q2.1];omega)),λO qx=>?_⟩;have L9:=ay.Nz tp8 q2 qx;have L6:av H8 (upd H8 O (.lst (ts.map V.ref++qs.map V.ref))):=aj qx;have L7:upd H8 O (.lst (ts.map V.ref++qs.map V.ref)) O=YN (.lst ((ts++qs).map V.ref)):=by rw[ag,Ph]
  generalize upd H8 O (.lst (ts.map V.ref++qs.map V.ref))=H9 at L9 L6 L7;have L9:ay.dJ ay.pr H9 O (kW kins c):=L9;have L8:=((Od.trans Fe).trans Ja).trans L6;have T9:=T.same L8;have Oe:=(Fe.trans (Ja.trans L6)) _ _ Oc;have Of:NK.K2 H9 (ay.cN c) tc:=NK.K2.chain Oe ((Ld.same Fe).same (Ja.trans L6));have Ma:M.length<=200:=by
   rw[T.r.length];unfold eO;rw[O9,O3,O3,Pw];omega
  have n2:H4 O=none:=(Od.trans (Fe.trans Ja)).free qx;have Kr:O∉M.map (·.2.2):=λz=>by
   obtain⟨e,he,q0⟩:=O6.mp z;obtain⟨y,_,_,bs,q,_⟩:=dh T.r he;have q0:e.2.2=O:=q0;rw[q0,n2]at q;cases q
  refine⟨_,rfl,_,rfl,_,rfl,a,tc,_,_,rfl,rfl,T9.d,Of,lim _ (by unfold eV;rw[O3];omega),?_⟩;have Og:ay.cN c∉bh (eO kins ((aN kins).take j)):=λz=>by
   rw[ay.g9]at z;rcases Po.mp z with z|z
   .obtain⟨q,_,e⟩:=O6.mp z;exact i6 e
   obtain⟨d,hd,e⟩:=O6.mp z;cases ay.r9 e;obtain⟨i,hi⟩:=PD hd;rw[QV]at hi;by_cases q:i<j
   .rw[UZ q]at hi;have:=(Qi (O2.mp hi).1 KO.LN).mp (hi.trans ec.symm);omega
   rw[UX q]at hi;cases hi
  have Oh:=T9.put Og Of L9.Ny Kr;rw[<-ay.zt]at Oh;have sO:av H (upd H9 a (iZ P w a (NK.put2 (eV M) (ay.cN c) tc (.ref O)))):=(s4.trans L8).upd ha;have Oj:=L9.FU (o:=iZ P w a (NK.put2 (eV M) (ay.cN c) tc (.ref O))) T9.d.1;have R10:=(Ob.same L8).FU (o:=iZ P w a (NK.put2 (eV M) (ay.cN c) tc (.ref O))) T9.d.1;have Ff:upd H9 a (iZ P w a (NK.put2 (eV M) (ay.cN c) tc (.ref O))) O=YN (.lst ((ts++qs).map V.ref)):=by
   rw[au (λz=>by rw[z,T9.d.1]at L7;cases L7)];exact L7
  have r10:upd H9 a (iZ P w a (NK.put2 (eV M) (ay.cN c) tc (.ref O))) r=YN (.lst (rs.map V.ref)):=by
   rw[au (Ne.symm nar)];exact L8 _ _ r4
  have Le:NK.K2 (upd H9 a (iZ P w a (NK.put2 (eV M) (ay.cN c) tc (.ref O)))) (ay.cN c) tc:=Of.keep λx ys e=>by
   rw[au (λz=>by rw[z,T9.d.1]at e;cases e)];exact e
  generalize upd H9 a (iZ P w a (NK.put2 (eV M) (ay.cN c) tc (.ref O)))=Ak at Oh sO Oj R10 Ff r10 Le;have nw':uD H (M++[(ay.cN c,tc,O)]):=λe he=>by
   rcases Po.mp he with he|he
   .exact nw e he
   rw[O4.mp he];exact s4.free n2
  have nr2:r≠O:=λz=>by rw[<-z,r4]at n2;cases n2
  have Lf:r∉(M++[(ay.cN c,tc,O)]).map (·.2.2):=λz=>by
   rw[Ph]at z;rcases Po.mp z with z|z
   .exact L5 z
   exact nr2 (O4.mp z)
  have ll:(ts++qs).length=(kW kins c).length:=by
   obtain⟨xs,x1,x2,_⟩:=Oj;rw[Ff]at x1;have:ts++qs=xs:=(Ri (f:=V.ref) λa b h=>by injection h).mp (by injection x1 with x1;injection x1);rw[this];exact x2
  have Kj:=KO.Kj c hc;have mnd:∀i,(bh (ma kins ((aN kins).take j) c i)).Nodup:=λi=>by
   rw[ay.zw];have:=(ay.iA (kins:=kins) (cs:=(aN kins).take j++[c]) ⟨KO.knd,by
    have:(aN kins).take j++[c]=(aN kins).take (j+1):=(ay.take_snoc ec).symm;rw[this];exact KO.LN.sublist (SN _ _),λd hd=>KO.sub d (by
    rcases Po.mp hd with hd|hd
    .exact So hd
    .rw[O4.mp hd];exact hc),λd hd=>KO.Kj d (by
    rcases Po.mp hd with hd|hd
    .exact So hd
    rw[O4.mp hd];exact hc)⟩).nd
   rw[ay.g9,Ph]at this;exact this
  refine⟨_,rfl,O,rfl,⟨_,aM.of Ff⟩,cM (K:=K) (a:=O) (xs:=(ts++qs).map V.ref) (λi σ o8=>∃(v2:Option V),σ=[YN (.ref l),YN (.ref a),v2,YN (.ref tg),YN (.ref tc),YN (.ref O)]/\av H o8/\o8 O=YN (.lst ((ts++qs).map V.ref))/\ay.dJ ay.pr o8 O (kW kins c)/\ay.dJ iV o8 r (eA kins)/\o8 r=YN (.lst (rs.map V.ref))/\NK.K2 o8 (ay.cN c) tc/\j5 P w o8 a (M++[(ay.cN c,tc,O)]) (ma kins ((aN kins).take j) c i)) ⟨_,rfl,sO,Ff,Oj,R10,r10,Le,Oh⟩ (λi σ o8 _ ⟨_,_,_,e,_⟩=>aM.of e) ?_ ?_⟩
  .rintro i x σ o8 hx ⟨v2,rfl,tf,Iq,Ol,Om,Oo,Fg,Ir⟩;rw[O7]at hx;obtain⟨t',et',rfl⟩:=Pl.mp hx;have hi:i<(kW kins c).length:=by rw[<-ll];exact(O2.mp et').1
   have ep:=O1 hi;generalize(kW kins c)[i]=q at ep;have hq:=KO.sub c hc q (Pj ep);have N8:o8 t'=YN (.tup (ay.pr q)):=by
    obtain⟨xs,x1,x2,x3⟩:=Ol;rw[Iq]at x1;have:ts++qs=xs:=(Ri (f:=V.ref) λa b h=>by injection h).mp (by injection x1 with x1;injection x1);subst this;exact x3 i t' q et' ep
   obtain⟨t,tm,te,Oq⟩:=ay.Et (cs:=(aN kins).take j) (c:=c) (i:=i) hq;obtain⟨b3,l3,m3,v3',th3,_⟩:=Ir.at (mnd i) tm;rw[te]at m3 v3';obtain⟨vs,y1,y2,y3⟩:=th3.snoc Fg;have n32:O≠l3:=λz=>by
    obtain⟨x,hx,ex⟩:=PC m3;have hz:x<M.length+1:=by rw[O9]at hx;exact hx
    have e1:((M++[(ay.cN c,tc,O)]).map (·.2.2))[x]?=YN O:=by rw[O7,O1 hx,ex,z];rfl
    have e2:((M++[(ay.cN c,tc,O)]).map (·.2.2))[M.length]?=YN O:=by rw[O7,Pg (O5 _),QE];rfl
    have:=(Qi (O2.mp e1).1 Ir.nd).mp (e1.trans e2.symm);subst this;have e3:(M++[(ay.cN c,tc,O)])[M.length]?=YN (ay.cN c,tc,O):=by rw[Pg (O5 _),QE];rfl
    rw[O1 hx,ex]at e3;exact i6 (congrArg Qm (Option.some.inj e3))
   have n3r:r≠l3:=λz=>Lf (O6.mpr ⟨_,m3,z.symm⟩);have h3n:H l3=none:=nw' _ m3;refine⟨_,rfl,_,rfl,a,t',_,_,_,rfl,rfl,Ir.d,NK.K2.pair N8,v3',.inl ⟨rfl,_,aM.of y1⟩,_,rfl,l3,_,_,rfl,rfl,y1,lim _ (by rw[y2];have:=Oq;rw[Pw]at this;omega),?_⟩;refine⟨_,rfl,tf.upd h3n,by rw[au n32];exact Iq,Ol.other y1 (Ne.symm n32),Om.other y1 (Ne.symm n3r),by rw[au n3r];exact Oo,Fg.keep λx ys e=>by rw[au (λz=>by rw[z,y1]at e;cases e)];exact e,?_⟩;have T12:=Ir.chg (mnd i) m3 y1 (o:=.lst (vs++[.ref tc])) (f:=λls=>ls++[ay.cN c]) (λls Iu=>by
    obtain⟨vs',z1,z2,z3⟩:=Iu.snoc Fg;rw[y1]at z1;obtain rfl:vs=vs':=by injection z1 with z1;injection z1
    exact z3)
   rw[ay.zv Kj ep]at T12;exact T12
  rintro σ o8 ⟨v2,rfl,tf,Iq,Ol,Om,Oo,Fg,Ir⟩;rw[O3,ll,ay.B1,<-ay.take_snoc ec]at Ir;exact⟨_,_,_,_,_,rfl,tf,nw',Om,Oo,Lf,Ir⟩
 rintro σ H4 ⟨M,v2,v3,v4,v5,rfl,s4,nw,Ob,r4,L5,T⟩;rw[O3,r2,show(eA kins).length=(aN kins).length by unfold aN;rw[O3],PQ]at T;exact⟨_,rfl,k a M H4 ha s4 nw T⟩
theorem m9{f:U0}{fd:Ve}(B:Bl mg)(F:Fn K mg "spare_things" dm ["web","knots"] f fd):aT P w K mg base b7 1 f fd ["web","knots"] (ay.x4 P w):=by
 refine F.fn.ok m6 (λvs H Q E h=>?_) (λjr A outer s H vs Q E hr h=>?_)
 .obtain⟨a,l,M,W,ks,rfl,_⟩:=h
  rfl
 obtain⟨a,l,M,W,ks,rfl,T,O,hn,hk,k⟩:=h;refine⟨_,(ax (aX (NK.uo (P:=P) (w:=w) rfl rfl (bN (NC:=["thing","web","knots"]) rfl (Er (pre:=["thing"]) (c:=s.heap.objs.size+1) (e:=s.heap.objs.size+2) (j:=0) (k:=1) rfl (by decide +kernel) (by decide +kernel) rfl rfl rfl rfl rfl rfl rfl rfl rfl) (NK.BL (P:=P) (w:=w) rfl rfl (pv 0)) (λ_ _ _ _=>(aG (i:=0) (show(["thing","web","knots"]:List Vl).Nodup by decide +kernel) rfl (Or.inl rfl))) (λ_ _ _ _=>(cZ (PW.pt (fT (aI Az (aC (gK (K:=K) rfl) rfl B.len aY (af (NK.um (P:=P) (w:=w) rfl rfl (hr.lt 1 (by decide)) (pv 1) (pv 0) (λ_ _=>rfl)) ah)) ao (aJ _)) (eT (aI (NK.zf (hr.lt 1 (by decide))) (pv 0) (pv 2) (by with_unfolding_all rfl))))))) (λ_ _ _ _=>(pv 0)))))),?_⟩;have Ma:M.length=W.length:=T.r.length;have ev:(eV M).length=M.length:=by unfold eV;rw[O3]
 refine⟨_,rfl,a,eV M,rfl,T.d,λo D hD=>?_⟩;have Lg:D≠a:=λz=>by rw[z,ag]at hD;cases hD
 have Mb:H D=none:=by rwa[au Lg]at hD
 have sF:∀{c:U0}{ho:HO},H c=YN ho->c≠a->upd H a (rT P w a (eV M) o) c=YN ho:=λ{c ho} e n=>by rw[au n];exact e
 have Z:zh P w (upd H a (rT P w a (eV M) o)) a (eV M) o:=T.d.to;have nl:∀{c:U0}{vs:List V},H c=YN (.lst vs)->c≠a:=λ{c vs} e z=>by rw[z,T.d.1]at e;cases e
 have nt:∀{c:U0}{vs:List V},H c=YN (.tup vs)->c≠a:=λ{c vs} e z=>by rw[z,T.d.1]at e;cases e
 have Mc:∀{c:U0}{L:List Nd},NK.df H c L->NK.df (upd H a (rT P w a (eV M) o)) c L:=λ{c L} q=>by
  obtain⟨bs,h1,h2,h3⟩:=q;exact⟨bs,sF h1 (nl h1),h2,λi b k e1 e2=>(h3 i b k e1 e2).keep λc ys e=>sF e (nt e)⟩
 have rF:=Paired.q9 T.r (G:=RW (upd H a (rT P w a (eV M) o))) λe t q=>⟨q.1,Mc q.2⟩
 have kF:=Mc hk.Ny;have back:∀{H5:Hp},av (upd H a (rT P w a (eV M) o)) H5->av H (upd H5 a (iZ P w a (eV M))):=λ{H5} s5 b o' e=>by
  by_cases z:b=a
  .subst z;rw[ag,<-e,T.d.1]
  rw[au z];exact s5 _ _ (sF e z)
 generalize upd H a (rT P w a (eV M) o)=H1 at hD Z rF kF back;refine NK.xT (λi σ H2=>∃v:Option V,σ=[v,YN (.ref a),YN (.ref l)]/\av H1 H2/\NK.df H2 D (aK (W.take i) ks)) ⟨none,rfl,aj hD,[],ag,rfl,λi b k e=>by simp at e⟩ (λi σ H2 _ ⟨_,_,J,_⟩=>⟨J _ _ Z.1,λp hp=>NK.K2.same (Z.2 p hp) J⟩) ?_ ?_
 .rintro i kk b v σ H2 hx ⟨v0,rfl,J,hT⟩;obtain⟨l',he,rfl⟩:=BZ hx;obtain⟨t,ht,q1,q2⟩:=ay.qM rF he;have q1:kk=t.1:=q1;subst q1;have hm:=Pj he;have Jb:NK.K2 H2 t.1 b:=NK.K2.same (Z.2 _ (O6.mpr ⟨_,hm,rfl⟩)) J;have vv:=sf (by rw[ay.kY T.r];exact O.nd) hm;obtain⟨vs,v1,v2⟩:=(NK.df.same q2 J).len;have D1:i<W.length:=(O2.mp ht).1;have CM:=ay.wd (ks:=ks) ht;have hle:(aK (W.take i) ks).length<=i:=by
   unfold aK;rw[O3];exact PK (PJ _ _) (by rw[Pw];omega)
  refine⟨_,rfl,_,rfl,a,b,_,o,t.1,_,rfl,rfl,⟨J _ _ Z.1,λp hp=>NK.K2.same (Z.2 p hp) J⟩,Jb,vv,l',vs,rfl,.inl (aM.of v1),_,_,rfl,rfl,_,rfl,?_⟩;have no:¬(t.2.length<=1/\t.1∉ks.map pN)->∃v:Option V,[YN (V.ref b),YN (.ref a),YN (.ref l)]=[v,YN (.ref a),YN (.ref l)]/\av H1 H2/\NK.df H2 D (aK (W.take (i+1)) ks):=λh=>by
   refine⟨_,rfl,J,?_⟩;rw[CM,UX h,Qh];exact hT
  by_cases c1:t.2.length<=1
  .rw[UU (show((vs.length:Nat):Int)<=1 by omega)];refine rD ⟨_,rfl,_,rfl,b,l,t.1,_,rfl,rfl,Jb,NK.df.same kF J,_,rfl,?_⟩;by_cases c2:t.1∈ks.map pN
   .rw[UU c2];exact fW (no λz=>z.2 c2)
   rw[U1 c2];obtain⟨ys,y1,y2,y3⟩:=hT.snoc Jb;refine rD ⟨_,rfl,ys,y1,aB (by rw[y2];omega),_,rfl,J.upd hD,?_⟩;rw[CM,UZ ⟨c1,c2⟩];exact y3
  rw[U1 (show¬((vs.length:Nat):Int)<=1 by omega)];exact fW (fW (no λz=>c1 z.1))
 rintro σ H2 ⟨v,rfl,J,hT⟩;rw[ev,Ma,PQ]at hT;refine⟨a,eV M,o,⟨J _ _ Z.1,λp hp=>NK.K2.same (Z.2 p hp) J⟩,?_⟩;refine k D _ Mb (back J) ?_;refine NK.df.keep hT (by rw[au Lg]) λc ys e=>?_;rw[au (λz=>by rw[z,J _ _ Z.1]at e;cases e)];exact e
theorem o9{f f1 f2 f3 f4:U0}{fd iJ pz yA z4:Ve}(B:Bl mg)(F:Fn K mg "thinned_web" dz ["row"] f fd)(jX:Fn K mg "knots_in" eQ ["row"] f1 iJ)(eS:aT P w K mg base b7 4 f1 iJ ["row"] kQ)
  (M:Fn K mg "kin_spans" dk ["row"] f2 pz) (Z:aT P w K mg base b7 2 f2 pz ["row"] fZ) (lu:Fn K mg "web_of" jf ["kins"] f3 yA) (pe:aT P w K mg base b7 2 f3 yA ["kins"] (nE P w)) (D:Fn K mg "spare_things" dm ["web","knots"] f4 z4):aT P w K mg base b7 5 f fd ["row"] (si P w):=by
 have J:aT P w K mg base b7 1 f4 z4 ["web","knots"] (ay.x4 P w):=m9 B D;refine F.fn.ok bM (λvs H Q E h=>?_) (λjr A outer s H vs Q E hr h=>?_)
 .obtain⟨t,rs,rfl,_⟩:=h
  rfl
 obtain⟨t,rs,rfl,ht,fit,k⟩:=h;have wV:=hr.lt 1 (by decide);have small:=fit.small;refine⟨_,(ai (aF (i:=1) bM.nd rfl (Or.inl rfl) (br eS jX (hr.mono (by decide)) (af (pv 0) ah)))
  (ai (cK (aI dt (aC aA rfl B.len aY (af (pv 1) ah)) ao (aJ _)) (ax (aX (NK.ur (P:=P) (w:=w) rfl rfl))) bo)
  (ai (aF (i:=2) bM.nd rfl (Or.inl rfl) (br pe lu (hr.mono (by decide)) (af (br Z M (hr.mono (by decide)) (af (pv 0) ah)) ah)))
  (ai (aF (i:=3) bM.nd rfl (Or.inl rfl) (br J D (hr.mono (by decide)) (af (pv 2) (af (pv 1) ah))))
  (ai (tF PassesOwn.never (aI jE (aC aA rfl B.len aY (af (pv 3) ah)) ao (aJ _)) (ai (bG PassesOwn.never rfl (a9 (pv 3)) (aG (i:=4) bM.nd rfl (Or.inl rfl)) (ai (bG PassesOwn.never rfl (a9 (a8 fK rfl B.list gA (af (gb (P:=P) (w:=w) rfl rfl wV (pv 2) (pv 4) (λ_ _=>rfl)) ah))) (aG (i:=5) bM.nd rfl (Or.inl rfl)) (ax (dB (gU Qg PySem.F.slot_list_remove PySem.F.type_list_remove (NK.Hu wV) (gb (P:=P) (w:=w) rfl rfl wV (pv 2) (pv 5) (λ_ _=>rfl)) (af (pv 4) ah)))))
  (ax (dB (NK.BM (P:=P) (w:=w) rfl rfl wV (pv 2) (af (pv 4) ah))))))
  (ax (aF (i:=3) bM.nd rfl (Or.inl rfl) (br J D (hr.mono (by decide)) (af (pv 2) (af (pv 1) ah)))))))
  (ax (aX (pv 2)))))))),?_⟩
 have fl:=aW rs;have kl:=ay.kE (aw rs);refine⟨_,rfl,t,rs,rfl,ht,fit,λlk H1 IS s1 hK=>?_⟩;have Lh:cx rs=if dw (aw rs) (iK (aw rs) (rs.length+1))=[]then[]else iI (eO (cX (aw rs)) (aN (cX (aw rs)))) (dw (aw rs) (iK (aw rs) (rs.length+1))):=rfl;generalize dw (aw rs) (iK (aw rs) (rs.length+1))=ks at hK Lh;obtain⟨kv,k1,k2⟩:=hK.len;refine⟨_,rfl,lk,_,rfl,.inl (aM.of k1),rfl,_,rfl,?_⟩;by_cases c0:ks=[]
 .refine eB (Kk (by rw[k2,c0];rfl)) ?_;intro a ha;refine k a [] _ (s1.free ha) (s1.trans (aj ha)) ?_;rw[Lh,UZ c0];exact⟨⟨ag,λp hp=>U4 hp Pf⟩,.nil,QK⟩
 refine eD (FT (by rw[k2];intro z;exact c0 (Qs.mp (by omega)))) ?_;rw[UX c0]at Lh;refine⟨_,rfl,t,rs,rfl,s1 _ _ ht,fit,λlS H2 NR s2 hS=>?_⟩;have asc:=ay.gY (aw rs);refine⟨lS,_,rfl,hS,asc,by omega,λa L H3 ha s3 nw T=>?_⟩;have O:=ay.iA (ay.jv asc);have cl:=ay.jR (cX (aw rs));have Wl:(eO (cX (aw rs)) (aN (cX (aw rs)))).length<=500:=by
  unfold eO;rw[O9,O3,O3];omega
 generalize eO (cX (aw rs)) (aN (cX (aw rs)))=W0 at T O Wl Lh;have hK2:=hK.same s2;have Dg:=s1.trans s2;have lk2:=(s2 _ _ k1)
 refine⟨_,rfl,_,rfl,a,lk,L,W0,ks,rfl,T,O,Wl,hK2.same s3,λsp H4 nS s4 Md=>?_⟩;refine⟨λm σ H5=>∃(W:d9) (L:Es) (sp:U0) (v4 v5:Option V),m=W.length/\σ=[YN (.ref t),YN (.ref lk),YN (.ref a),YN (.ref sp),v4,v5]/\av H2 H5/\uD H2 L/\j5 P w H5 a L W/\ay.gc W/\W.length<=500/\NK.df H5 sp (aK W ks)/\sp∉L.map (·.2.2)/\H2 sp=none/\iI W ks=iI W0 ks,⟨_,W0,L,sp,_,_,rfl,rfl,s3.trans s4,nw,T.same s4,O,Wl,Md,?_,s3.free nS,rfl⟩,?_⟩
 .intro z;obtain⟨e,he,q0⟩:=O6.mp z;obtain⟨y,_,_,bs,q,_⟩:=dh T.r he;have q0:e.2.2=sp:=q0;rw[q0,nS]at q;cases q
 clear T O Wl Md nw nS s4;rintro m σ H5 ⟨W,L,sp,v4,v5,rfl,rfl,s5,nw,T,O,Wl,Md,Li,fsp,eth⟩;obtain⟨bs,b1,b2,b3⟩:=id Md;refine⟨_,rfl,sp,_,rfl,.inl (aM.of b1),_,_,rfl,rfl,_,rfl,?_⟩;by_cases c1:aK W ks=[]
 .refine eD (U1 (by rw[O3,b2,c1];decide)) ?_;refine⟨_,rfl,k a L H5 (Dg.free ha) (Dg.trans s5) ?_⟩;rw[Lh,<-eth,ay.zm c1];exact T
 have cl:0<(aK W ks).length:=TL.mpr c1;refine eB (UU (by rw[O3,b2];omega)) ?_;refine⟨λσ' H'=>∃m',m'<W.length/\∃(W:d9) (L:Es) (sp:U0) (v4 v5:Option V),m'=W.length/\σ'=[YN (.ref t),YN (.ref lk),YN (.ref a),YN (.ref sp),v4,v5]/\av H2 H'/\uD H2 L/\j5 P w H' a L W/\ay.gc W/\W.length<=500/\NK.df H' sp (aK W ks)/\sp∉L.map (·.2.2)/\H2 sp=none/\iI W ks=iI W0 ks,λ_ _ q=>q,?_⟩;have snd:=ay.B9 O ks;have a2:H2 a=none:=ha;have Ot:a≠sp:=λz=>by have q:=T.d.1;rw[z,b1]at q;cases q
 refine⟨_,rfl,sp,rfl,⟨_,aM.of b1⟩,cM (K:=K) (a:=sp) (xs:=bs.map V.ref) (λi σ H6=>∃(L:Es) (v4 v5:Option V),σ=[YN (.ref t),YN (.ref lk),YN (.ref a),YN (.ref sp),v4,v5]/\av H2 H6/\uD H2 L/\j5 P w H6 a L (((aK W ks).take i).foldl dQ W)/\H6 sp=YN (.lst (bs.map V.ref))/\(∀(i:Nat) (b:U0) (k:Nd),bs[i]?=YN b->(aK W ks)[i]?=YN k->NK.K2 H6 k b)/\sp∉L.map (·.2.2)) ⟨L,_,_,rfl,s5,nw,T,b1,b3,Li⟩ (λi σ H6 _ ⟨_,_,_,_,_,_,_,e,_⟩=>aM.of e) ?_ ?_⟩
 .rintro i x σ H6 hx ⟨L,v4,v5,rfl,s6,nw,T,b1,b3,Li⟩;rw[O7]at hx;obtain⟨bx,ebx,rfl⟩:=Pl.mp hx;have hi:i<(aK W ks).length:=by rw[<-b2];exact(O2.mp ebx).1
  have ex:=O1 hi;generalize(aK W ks)[i]=kx at ex;have kb:=b3 i bx kx ebx ex;have Oi:ay.gc (((aK W ks).take i).foldl dQ W):=ay.gc.fold _ O;have hkx:kx∈bh (((aK W ks).take i).foldl dQ W):=ay.fold_keeps _ _ (ay.qK (Pj ex)) (λz=>by
   obtain⟨j,hj⟩:=PD z;rw[QV]at hj;by_cases q:j<i
   .rw[UZ q]at hj;have:=(Qi (O2.mp hj).1 snd).mp (hj.trans ex.symm);omega
   rw[UX q]at hj;cases hj)
  have Wil:(((aK W ks).take i).foldl dQ W).length<=500:=PK (ay.kU _ _) Wl;rw[ay.zz ex];generalize((aK W ks).take i).foldl dQ W=Wi at T Oi hkx Wil;obtain⟨u,hu,rfl⟩:=ay.mem_keys.mp hkx;obtain⟨bk,lx,mx,vx,tx,_⟩:=T.at Oi.nd hu;obtain⟨cs,c1,c2,c3⟩:=id tx;have nlx:=Oi.nl u hu;refine⟨_,rfl,_,rfl,a,bx,_,_,_,rfl,rfl,T.d,kb,vx,lx,_,rfl,.inl (aM.of c1),λlc hlc=>?_⟩;have s7:av H6 (upd H6 lc (.lst (cs.map V.ref))):=aj hlc;have Ou:upd H6 lc (.lst (cs.map V.ref)) lc=YN (.lst (cs.map V.ref)):=ag;generalize upd H6 lc (.lst (cs.map V.ref))=H7 at s7 Ou;have nlc:lc∉L.map (·.2.2):=λz=>by
   obtain⟨e,he,q0⟩:=O6.mp z;obtain⟨y,_,_,bs,q,_⟩:=dh T.r he;have q0:e.2.2=lc:=q0;rw[q0,hlc]at q;cases q
  refine⟨lc,rfl,⟨_,aM.of Ou⟩,cM (K:=K) (a:=lc) (xs:=cs.map V.ref) (λj σ H8=>∃v5:Option V,σ=[YN (.ref t),YN (.ref lk),YN (.ref a),YN (.ref sp),YN (.ref bx),v5]/\av H2 H8/\j5 P w H8 a L (mh Wi u.1 (u.2.take j))/\H8 sp=YN (.lst (bs.map V.ref))/\H8 lc=YN (.lst (cs.map V.ref))/\(∀c ys,H7 c=YN (.tup ys)->H8 c=YN (.tup ys))) ⟨_,rfl,s6.trans s7,by rw[Tx,ay.Ey];exact T.same s7,s7 _ _ b1,Ou,λ_ _ e=>e⟩ (λi σ H8 _ ⟨_,_,_,_,_,e,_⟩=>aM.of e) ?_ ?_⟩
  .rintro j x σ H8 hx ⟨v5,rfl,s8,T8,b8,lc8,g8⟩;rw[O7]at hx;obtain⟨LJ,eby,rfl⟩:=Pl.mp hx;have hj:j<u.2.length:=by rw[<-c2];exact(O2.mp eby).1
   have ey:=O1 hj;generalize u.2[j]=y at ey;have ky:NK.K2 H8 y LJ:=(NK.K2.same (c3 j LJ y eby ey) s7).keep g8;have Ov:NK.K2 H8 u.1 bx:=(NK.K2.same kb s7).keep g8;have nyl:y∉u.2.take j:=λz=>by
    obtain⟨i',Dk⟩:=PD z;rw[QV]at Dk;by_cases q:i'<j
    .rw[UZ q]at Dk;have:=(Qi (O2.mp Dk).1 nlx).mp (Dk.trans ey.symm);omega
    rw[UX q]at Dk;cases Dk
   obtain⟨v,hv,ev,KA⟩:=Oi.sym u hu y (Pj ey);subst ev;have nd8:(bh (mh Wi u.1 (u.2.take j))).Nodup:=by rw[ay.B7];exact Oi.nd
   obtain⟨bv,lv,mv,vv,tv,_⟩:=T8.at nd8 (ay.Ez (k:=u.1) nyl (ls:=v.2) hv);obtain⟨ds,d1,d2,d3⟩:=id tv;have nlv:=Oi.nl v hv;obtain⟨jj,Ow⟩:=PD KA;have nsv:sp≠lv:=λz=>Li (O6.mpr ⟨_,mv,z.symm⟩);have ncv:lc≠lv:=λz=>nlc (O6.mpr ⟨_,mv,z.symm⟩);refine⟨_,rfl,_,rfl,a,LJ,_,_,_,rfl,rfl,T8.d,ky,vv,.inl ⟨rfl,_,aM.of d1⟩,_,rfl,lv,bx,u.1,v.2,ds,jj,rfl,rfl,Ov,d1,d2,d3,Ow,ay.Ca nlv Ow,?_⟩;have T9:=T8.chg nd8 mv d1 (o:=.lst ((ds.eraseIdx jj).map V.ref)) (f:=λls=>ls.filter λl=>decide (l≠u.1)) (λls Iu=>by
    rw[NK.df.inj Iu tv];have:=NK.df.erase (j:=jj) d1 d2 d3;rw[ay.wg nlv Ow]at this;exact this)
   rw[ay.B8 nyl,<-ay.take_snoc ey]at T9;refine⟨_,rfl,s8.upd (nw _ mv),T9,by rw[au nsv];exact b8,by rw[au ncv];exact lc8,λc ys e=>?_⟩;have e:=g8 c ys e;rw[au (λz=>by rw[z,d1]at e;cases e)];exact e
  rintro σ H8 ⟨v5,rfl,s8,T8,b8,lc8,g8⟩;rw[O3,c2,PQ]at T8;have Ov:NK.K2 H8 u.1 bx:=(NK.K2.same kb s7).keep g8;obtain⟨ix,hix⟩:=PD mx;refine⟨_,rfl,⟨a,_,rfl,T8.d⟩,_,rfl,a,bx,_,u.1,.ref lx,rfl,rfl,T8.d,Ov,⟨bk,ix,by unfold eV;rw[O7,hix];rfl⟩,?_⟩;have T9:=T8.drop (k:=u.1);rw[ay.EA Oi hu]at T9;refine⟨_,_,_,rfl,s8.upd a2,λe he=>nw e (Pd.mp he).1,T9,by rw[au (Ne.symm Ot)];exact b8,λi' b' k' e1 e2=>?_,λz=>?_⟩
  .refine((NK.K2.same (b3 i' b' k' e1 e2) s7).keep g8).keep λc ys e=>?_;rw[au (λz=>by rw[z,T8.d.1]at e;cases e)];exact e
  obtain⟨e,he,q0⟩:=O6.mp z;exact Li (O6.mpr ⟨e,(Pd.mp he).1,q0⟩)
 rintro σ H6 ⟨L,v4,v5,rfl,s6,nw,T,b1,b3,Li⟩;rw[O3,b2,PQ]at T;have T:j5 P w H6 a L (ay.mI W ks):=T;have lt:=ay.nC c1;refine⟨_,rfl,_,rfl,a,lk,L,_,ks,rfl,T,ay.gc.fold _ O,by omega,hK2.same s6,λsp' H7 Lj s7 Ox=>?_⟩;refine⟨_,lt,_,L,sp',_,_,rfl,rfl,s6.trans s7,nw,T.same s7,ay.gc.fold _ O,by omega,Ox,λz=>?_,s6.free Lj,?_⟩
 .obtain⟨e,he,q0⟩:=O6.mp z;obtain⟨y,_,_,bs,q,_⟩:=dh T.r he;have q0:e.2.2=sp':=q0;rw[q0,Lj]at q;cases q
 rw[<-ay.zo c1];exact eth
theorem wW{f:U0}{fd:Ve}(B:Bl mg)(F:Fn K mg "ends_of" h7 ["web"] f fd):aT P w K mg base b7 1 f fd ["web"] (we P w):=by
 refine F.fn.ok wN (λvs H Q E h=>?_) (λjr A outer s H vs Q E hr h=>?_)
 .obtain⟨a,J,W,ks,rfl,_⟩:=h
  rfl
 obtain⟨a,J,W,ks,rfl,T,O,hn,nS,asc,kl,kr,k⟩:=h;refine⟨_,(ax (aX (aC (i5 false) rfl B.sorted js (af (NK.uo (P:=P) (w:=w) rfl rfl (bN (NC:=["thing","web"]) rfl (bO (c:=s.heap.objs.size+1) (j:=0) rfl (by decide +kernel) (by decide +kernel) rfl rfl rfl rfl rfl) (NK.BL (P:=P) (w:=w) rfl rfl (pv 0)) (λ_ _ _ _=>(aG (i:=0) (show(["thing","web"]:List Vl).Nodup by decide +kernel) rfl (Or.inl rfl))) (λ_ _ _ _=>(cZ (aI Az (aC (gK (K:=K) rfl) rfl B.len aY (af (NK.um (P:=P) (w:=w) rfl rfl (hr.lt 1 (by decide)) (pv 1) (pv 0) (λ_ _=>rfl)) ah)) ao (aJ _)))) (λ_ _ _ _=>(pv 0)))) ah)))),?_⟩;have Ma:J.length=W.length:=T.r.length;have ev:(eV J).length=J.length:=by unfold eV;rw[O3]
 refine⟨_,rfl,a,eV J,rfl,T.d,λo D hD=>?_⟩;have Lg:D≠a:=λz=>by rw[z,ag]at hD;cases hD
 have Mb:H D=none:=by rwa[au Lg]at hD
 have sF:∀{c:U0}{ho:HO},H c=YN ho->c≠a->upd H a (rT P w a (eV J) o) c=YN ho:=λ{c ho} e n=>by rw[au n];exact e
 have DF:zh P w (upd H a (rT P w a (eV J) o)) a (eV J) o:=T.d.to;have nl:∀{c:U0}{vs:List V},H c=YN (.lst vs)->c≠a:=λ{c vs} e z=>by rw[z,T.d.1]at e;cases e
 have nt:∀{c:U0}{vs:List V},H c=YN (.tup vs)->c≠a:=λ{c vs} e z=>by rw[z,T.d.1]at e;cases e
 have Mc:∀{c:U0}{L:List Nd},NK.df H c L->NK.df (upd H a (rT P w a (eV J) o)) c L:=λ{c L} q=>by
  obtain⟨bs,h1,h2,h3⟩:=q;exact⟨bs,sF h1 (nl h1),h2,λi b k e1 e2=>(h3 i b k e1 e2).keep λc ys e=>sF e (nt e)⟩
 have rF:=Paired.q9 T.r (G:=RW (upd H a (rT P w a (eV J) o))) λe t q=>⟨q.1,Mc q.2⟩
 have back:∀{H5:Hp},av (upd H a (rT P w a (eV J) o)) H5->av H (upd H5 a (iZ P w a (eV J))):=λ{H5} s5 b o' e=>by
  by_cases z:b=a
  .subst z;rw[ag,<-e,T.d.1]
  rw[au z];exact s5 _ _ (sF e z)
 generalize upd H a (rT P w a (eV J) o)=H1 at hD DF rF back;refine NK.xT (λi σ H2=>∃v:Option V,σ=[v,YN (.ref a)]/\av H1 H2/\NK.df H2 D (jS (W.take i))) ⟨none,rfl,aj hD,[],ag,rfl,λi b k e=>by simp at e⟩ (λi σ H2 _ ⟨_,_,Z,_⟩=>⟨Z _ _ DF.1,λp hp=>NK.K2.same (DF.2 p hp) Z⟩) ?_ ?_
 .rintro i kk b v σ H2 hx ⟨v0,rfl,Z,hT⟩;obtain⟨l',he,rfl⟩:=BZ hx;obtain⟨t,ht,q1,q2⟩:=ay.qM rF he;have q1:kk=t.1:=q1;subst q1;have hm:=Pj he;have Jb:NK.K2 H2 t.1 b:=NK.K2.same (DF.2 _ (O6.mpr ⟨_,hm,rfl⟩)) Z;have vv:=sf (by rw[ay.kY T.r];exact O.nd) hm;obtain⟨vs,v1,v2⟩:=(NK.df.same q2 Z).len;have D1:i<W.length:=(O2.mp ht).1;have CM:=ay.Cb ht;have hle:=ay.EB W i;refine⟨_,rfl,_,rfl,a,b,_,o,t.1,_,rfl,rfl,⟨Z _ _ DF.1,λp hp=>NK.K2.same (DF.2 p hp) Z⟩,Jb,vv,l',vs,rfl,.inl (aM.of v1),_,_,rfl,rfl,_,rfl,?_⟩;by_cases c1:t.2.length<=1
  .rw[UU (show((vs.length:Nat):Int)<=1 by omega)];obtain⟨ys,y1,y2,y3⟩:=hT.snoc Jb;refine rD ⟨_,rfl,ys,y1,aB (by rw[y2];omega),_,rfl,Z.upd hD,?_⟩;rw[CM,UZ c1];exact y3
  rw[U1 (show¬((vs.length:Nat):Int)<=1 by omega)];refine fW ⟨_,rfl,Z,?_⟩;rw[CM,UX c1,Qh];exact hT
 rintro σ H2 ⟨v,rfl,Z,hT⟩;rw[ev,Ma,PQ]at hT;refine⟨a,eV J,o,⟨Z _ _ DF.1,λp hp=>NK.K2.same (DF.2 p hp) Z⟩,?_⟩;have Oy:NK.df (upd H2 a (iZ P w a (eV J))) D (jS W):=NK.df.keep hT (by rw[au Lg]) λc ys e=>by
  rw[au (λz=>by rw[z,Z _ _ DF.1]at e;cases e)];exact e
 have s3:=back Z;generalize upd H2 a (iZ P w a (eV J))=H3 at Oy s3;obtain⟨ps,e1,e2,e3⟩:=ay.Cc O nS asc;rw[e1]at Oy;have IZ:=Oy.JX;obtain⟨ts,g,c1,c2,c3,c4⟩:=ay.kO IZ (λp hp=>kr p (e3 p hp));have tl:ts.length<64:=by
  rw[c2,e2.length_eq];exact Q7 (PJ _ _) (by omega)
 refine⟨D,ts,g,rfl,aM.of c1,tl,c3,λus l hp hs Lb=>?_⟩;obtain⟨M,m1,m2,m3⟩:=c4 us hp hs;have eM:=ay.Cd asc m1 e2 m2;have s8:av H3 (upd H3 l (.lst (us.map V.ref))):=aj Lb;have Lc:=m3 _ l s8 ag;rw[eM]at Lc;exact k l _ (s3.free Lb) (s3.trans s8) Lc
theorem va{f:U0}{fd:Ve}(B:Bl mg)(F:Fn K mg "leg_from" gq ["end","web"] f fd):aT P w K mg base b7 1 f fd ["end","web"] (B0 P w):=by
 refine F.fn.ok fE (λvs H Q E h=>?_) (λjr A outer s H vs Q E hr h=>?_)
 .obtain⟨e,a,es,W,k,rfl,_⟩:=h
  rfl
 obtain⟨e,a,es,W,k,rfl,T,O,hn,hk,hkw,hd,kk⟩:=h;have wV:=hr.lt 1 (by decide);refine⟨_,(ai (aF (i:=2) fE.nd rfl (Or.inr rfl) (bJ (af (pv 0) ah)))
  (ai (aF (i:=3) fE.nd rfl (Or.inl rfl) (gb (P:=P) (w:=w) rfl rfl wV (pv 1) (pv 0) (λ_ _=>rfl)))
  (ai (tF PassesOwn.never (PW.pt (fT (aI jE (aC aA rfl B.len aY (af (pv 3) ah)) ao (aJ _)) (eT (aI Az (aC aA rfl B.len aY (af (gb (P:=P) (w:=w) rfl rfl wV (pv 1) (aP bf (pv 3) ao (λ_ _=>rfl)) (λ_ _=>rfl)) ah)) ao (aJ _))))) (ai (aF (i:=4) fE.nd rfl (Or.inl rfl) (aP bf (pv 3) ao (λ_ _=>rfl)))
  (ai (dC (ix:=3) (NC:=["linked","leg"]) fE.nd rfl (Or.inl rfl) rfl (bO (c:=s.heap.objs.size+1) (j:=2) rfl (by decide +kernel) (by decide +kernel) rfl rfl rfl rfl rfl) (a9 (gb (P:=P) (w:=w) rfl rfl wV (pv 1) (pv 4) (λ_ _=>rfl))) (λ_ _ _ _=>(aG (i:=0) (show(["linked","leg"]:List Vl).Nodup by decide +kernel) rfl (Or.inl rfl))) (λ_ _ _ _=>(cZ (aI (NK.Hy (hr.lt 0 (by decide))) (pv 0) (aP (fh (K:=K) rfl) (pv 1) (nQ jL ao) (λ_ _=>rfl)) (aJ _)))) (λ_ _ _ _=>(pv 0)))
  (ax (dB (gU Qg QH QI dI (pv 2) (af (pv 4) ah)))))))
  (ax (aX (pv 2)))))),?_⟩
 refine⟨_,rfl,by show 1<=U7;decide,λM Me=>?_⟩;have s1:av H (upd H M (.lst [.ref e])):=aj Me;have g1:upd H M (.lst [.ref e]) M=YN (.lst [.ref e]):=ag;generalize upd H M (.lst [.ref e])=H1 at s1 g1;have lka:∀{x:Nd}{H':Hp},x∈bh W->av H H'->∃lx,NK.mY (eV es) x=YN (.ref lx)/\NK.df H' lx (dg W x)/\H lx≠none:=λ{x H'} hx s'=>by
  obtain⟨u,hu,rfl⟩:=ay.mem_keys.mp hx;obtain⟨b,lx,_,v,t,_⟩:=T.at O.nd hu;rw[O.lk hu];exact⟨lx,v,NK.df.same t s',λz=>by obtain⟨bs,q,_⟩:=t;rw[z]at q;cases q⟩
 obtain⟨l0,v0,t0,f0⟩:=lka hkw s1;refine⟨_,rfl,_,rfl,a,e,_,k,_,rfl,rfl,(T.same s1).d,NK.K2.same hk s1,v0,?_⟩;have P0:ay.Path W [k]:=⟨by simp,λv hv=>by rw[O4.mp hv];exact hkw,λi a b e1 e2=>by simp at e2,λv hv=>by rw[O4.mp hv];omega,λa e1=>by cases e1;exact hd⟩
 have lp:=P0.len;refine⟨λm σ H2=>∃(J:List Nd) (p:Nd) (on:List Nd) (L:U0) (v4:Option V),m=W.length+1-J.length/\σ=[YN (.ref e),YN (.ref a),YN (.ref M),YN (.ref L),v4]/\av H H2/\NK.df H2 M J/\J.getLast?=YN p/\NK.df H2 L on/\L≠M/\ay.Path W J/\(∀x∈on,x∈dg W p)/\(∀q,2<=J.length->J[J.length-2]?=YN q->∀x∈on,x≠q)/\sd W (W.length+1-J.length) p on J=dO W k,⟨_,[k],k,dg W k,l0,_,rfl,rfl,s1,?_,rfl,t0,λz=>f0 (by rw[z];exact Me),P0,λx h=>h,λq h=>U4 h (by show¬ 2<=1;decide),rfl⟩,?_⟩
 .exact⟨[e],g1,rfl,λi b x e1 e2=>by
   cases i with
   |zero=>cases e1;cases e2;exact NK.K2.same hk s1
   |succ i=>cases e1⟩
 rintro m σ H2 ⟨J,p,on,L,v4,rfl,rfl,s2,tg,hp,ton,aeq,PP,NF,hq,Z⟩;have T2:=T.same s2;obtain⟨os,o1,o2,o3⟩:=id ton;have al:=PP.len;have out:∀{D:Ends},(∀H3,av H H3->NK.df H3 M (dO W k)->D.nx [YN (.ref e),YN (.ref a),YN (.ref M),YN (.ref L),v4] H3)->J=dO W k->D.nx [YN (.ref e),YN (.ref a),YN (.ref M),YN (.ref L),v4] H2:=λ{D} hD hc=>hD H2 s2 (by rw[<-hc];exact tg);have fin:∀H3,av H H3->NK.df H3 M (dO W k)->Q (.ref M) H3:=λH3 s3 t3=>kk M H3 Me s3 t3;obtain⟨n,en⟩:∃n,W.length+1-J.length=n+1:=⟨W.length-J.length,by omega⟩
 rw[en]at Z;refine⟨_,rfl,L,_,rfl,.inl (aM.of o1),_,_,rfl,rfl,_,rfl,?_⟩;cases on with
 |nil =>
  refine eD (U1 (by rw[O3,o2];decide)) ?_;refine fW ⟨_,rfl,fin H2 s2 ?_⟩;rw[<-Z];exact tg
 |cons x r =>
  refine eB (UU (by rw[O3,o2];show(0:Int)<((r.length+1:Nat):Int);omega)) ?_;have e0:os[0]?=YN (os[0]'(by rw[o2];exact SE _)):=O1 _;generalize os[0]'(by rw[o2];exact SE _)=bx at e0;have kx:=o3 0 bx x e0 rfl;have hxp:=NF x Pb;have hxk:=(O.zk hxp).2.1;obtain⟨lx,vx,tx,fx⟩:=lka hxk s2;obtain⟨xs,x1,x2,x3⟩:=id tx;have a0:qt (os.map V.ref) 0=YN (.ref bx):=aV (j:=0) (by rw[O7,e0];rfl);refine⟨_,rfl,_,rfl,L,_,_,_,rfl,rfl,aM.of o1,a0,a,bx,_,x,_,rfl,rfl,T2.d,kx,vx,lx,_,rfl,.inl (aM.of x1),_,_,rfl,rfl,_,rfl,?_⟩;by_cases c2:(dg W x).length<=2
  .refine eB (UU (by rw[O3,x2];omega)) ?_;refine⟨_,λ_ _ q=>q,?_⟩;refine⟨_,rfl,L,_,_,_,rfl,rfl,aM.of o1,a0,?_⟩;obtain⟨gs,y1,y2,y3⟩:=id tg;have ane:J.length≠0:=λz=>by
    rw[Qs.mp z]at hp;cases hp
   obtain⟨bp,eg⟩:∃bp,gs[gs.length-1]?=YN bp:=⟨_,O1 (show gs.length-1<gs.length by omega)⟩
   have kp:NK.K2 H2 p bp:=y3 _ bp p eg (by rw[y2,<-PV];exact hp);have agl:qt (gs.map V.ref) (-1)=YN (.ref bp):=ay.xY (by rw[R9,PV,eg];rfl);refine⟨_,rfl,_,rfl,a,bx,_,x,_,rfl,rfl,T2.d,kx,vx,lx,rfl,⟨_,aM.of x1⟩,λD hD=>?_⟩;have nDg:D≠M:=λz=>by rw[z,y1]at hD;cases hD
   refine bg (K:=K) (a:=lx) (xs:=xs.map V.ref) (λi σ H3=>∃v:Option V,σ=[v,YN (.ref M)]/\av H2 H3/\NK.df H3 D (((dg W x).take i).filter λl=>decide (l≠p))) ⟨none,rfl,aj hD,[],ag,rfl,λi b k e=>by simp at e⟩ (λi σ H3 _ zq=>by obtain⟨_,_,s3,_⟩:=zq;exact aM.of (s3 _ _ x1)) ?_ ?_
   .rintro i z σ H3 hz ⟨v,rfl,s3,t3⟩;rw[O7]at hz;obtain⟨b,eb,rfl⟩:=Pl.mp hz;have hi:i<(dg W x).length:=by rw[<-x2];exact(O2.mp eb).1
    have ey:=O1 hi;generalize(dg W x)[i]=y at ey;have ky:=NK.K2.same (x3 i b y eb ey) s3;have e3:((dg W x).take (i+1)).filter (λl=>decide (l≠p))=((dg W x).take i).filter (λl=>decide (l≠p))++(if y≠p then[y]else[]):=by
     rw[ay.take_snoc ey,Qd,Qq,Qt];by_cases c:y=p
     .rw[UX (by simp[c]),UX (λz=>z c)]
     rw[UZ (by simp[c]),UZ c]
    refine⟨_,rfl,_,rfl,_,rfl,M,_,_,_,rfl,rfl,aM.of (s3 _ _ y1),agl,b,bp,y,p,rfl,rfl,ky,NK.K2.same kp s3,_,rfl,?_⟩;by_cases c:y=p
    .rw[UU c];refine fW ⟨_,rfl,s3,?_⟩;rw[e3,UX (λz=>z c),Qh];exact t3
    rw[U1 c];obtain⟨ys,w1,w2,w3⟩:=t3.snoc ky;refine rD ⟨_,rfl,ys,w1,aB (by rw[w2];exact PK (PJ _ _) (by rw[Pw];omega)),_,rfl,s3.upd hD,?_⟩;rw[e3,UZ c];exact w3
   rintro σ H3 ⟨v,rfl,s3,t3⟩;rw[O3,x2,PQ]at t3;obtain⟨ys,w1,w2,w3⟩:=(NK.df.same tg s3).snoc (NK.K2.same kx s3);refine⟨_,rfl,.inl ⟨rfl,_,aM.of w1⟩,_,rfl,M,_,_,rfl,rfl,w1,aB (by rw[w2];omega),?_⟩;have P2:=PP.snoc O hp hxp (λq h1 h2=>hq q h1 h2 x Pb) c2;have pl:=P2.len;rw[O9,PZ]at pl;refine⟨W.length+1-(J++[x]).length,by rw[O9,PZ];omega,J++[x],x,_,D,_,rfl,rfl,(s2.trans s3).upd Me,w3,List.getLast?_concat,NK.df.keep t3 (by rw[au nDg]) (λc ys e=>by rw[au (λz=>by rw[z,w1]at e;cases e)];exact e),nDg,P2,λy hy=>(Pd.mp hy).1,λq h1 h2 y hy=>?_,?_⟩
   .rw[O9,PZ,show J.length+1-2=J.length-1 by omega,Pk (by omega),<-PV,hp]at h2;cases h2;exact U6 (Pd.mp hy).2
   rw[<-Z,O9,PZ,show W.length+1-(J.length+1)=n by omega];show _=(if(dg W x).length<=2 then _ else J)
   rw[UZ c2]
  refine eD (U1 (by rw[O3,x2];omega)) ⟨_,rfl,fin H2 s2 ?_⟩;have:sd W (n+1) p (x::r) J=J:=by
   show(if(dg W x).length<=2 then _ else J)=J;rw[UX c2]
  rw[this]at Z;rw[<-Z];exact tg
theorem sP{f f1 f2 f3 f4:U0}{fd iJ pz yA z4:Ve}(B:Bl mg)(F:Fn K mg "knot_legs" fu ["row"] f fd)(jX:Fn K mg "knots_in" eQ ["row"] f1 iJ)(eS:aT P w K mg base b7 4 f1 iJ ["row"] kQ)
  (L:Fn K mg "thinned_web" dz ["row"] f2 pz) (M:aT P w K mg base b7 5 f2 pz ["row"] (si P w)) (Z:Fn K mg "ends_of" h7 ["web"] f3 yA) (J:Fn K mg "leg_from" gq ["end","web"] f4 z4):aT P w K mg base b7 6 f fd ["row"] sj:=by
 have z6:aT P w K mg base b7 1 f3 yA ["web"] (we P w):=wW B Z;have wX:aT P w K mg base b7 1 f4 z4 ["end","web"] (B0 P w):=va B J;refine F.fn.ok fR (λvs H Q E h=>?_) (λjr A outer s H vs Q E hr h=>?_)
 .obtain⟨t,rs,rfl,_⟩:=h
  rfl
 obtain⟨t,rs,rfl,ht,fit,k⟩:=h;have wV:=hr.lt 1 (by decide);refine⟨_,(ai (aF (i:=1) fR.nd rfl (Or.inr rfl) (br eS jX (hr.mono (by decide)) (af (pv 0) ah)))
  (ai (aF (i:=2) fR.nd rfl (Or.inr rfl) (br M L (hr.mono (by decide)) (af (pv 0) ah)))
  (ai (dC (ix:=3) (NC:=["end","web"]) fR.nd rfl (Or.inl rfl) rfl (bO (c:=s.heap.objs.size+2) (j:=2) rfl (by decide +kernel) (by decide +kernel) rfl rfl rfl rfl rfl) (a9 (br z6 Z (hr.mono (by decide)) (af (pv 2) ah))) (λ_ _ _ _=>(aG (i:=0) (show(["end","web"]:List Vl).Nodup by decide +kernel) rfl (Or.inl rfl))) (λ_ _ _ _=>cf) (λ_ _ _ _=>(br wX J (hr.mono (by decide)) (af (pv 0) (af (pv 1) ah)))))
  (ax (aX (bN (NC:=["leg","knots"]) rfl (bO (c:=s.heap.objs.size+1) (j:=1) rfl (by decide +kernel) (by decide +kernel) rfl rfl rfl rfl rfl) (a9 (pv 3)) (λ_ _ _ _=>(aG (i:=0) (show(["leg","knots"]:List Vl).Nodup by decide +kernel) rfl (Or.inl rfl))) (λ_ _ _ _=>cf) (λ_ _ _ _=>(aC (gK (K:=K) rfl) rfl B.len aY (af (by exact(bN (NC:=["thing","knots"]) rfl (bO (c:=s.heap.objs.size+1) (j:=1) rfl (by decide +kernel) (by decide +kernel) rfl rfl rfl rfl rfl) (BR (K:=K) rfl (pv 0)) (λ_ _ _ _=>(aG (i:=0) (show(["thing","knots"]:List Vl).Nodup by decide +kernel) rfl (Or.inl rfl))) (λ_ _ _ _=>(cZ (aI (NK.Ht (hr.lt 1 (by decide))) (pv 0) (pv 1) (by with_unfolding_all rfl)))) (λ_ _ _ _=>(pv 0)))) ah))))))))),?_⟩
 obtain⟨O,Wl,nS⟩:=ay.sk fit;obtain⟨asc,kl,kr⟩:=ay.oQ fit;refine⟨_,rfl,t,rs,rfl,ht,fit,λlk H1 IS s1 hK=>?_⟩;refine⟨_,rfl,t,rs,rfl,s1 _ _ ht,fit,λa es H2 ha s2 T=>?_⟩;have eL:eE rs=(bE (cx rs) (dw (aw rs) (iK (aw rs) (rs.length+1)))).map λe=>((((dO (cx rs) (pN e)).filter λk=>decide (k∈(dw (aw rs) (iK (aw rs) (rs.length+1))).map pN)).length:Nat):Int):=rfl;generalize dw (aw rs) (iK (aw rs) (rs.length+1))=ks at hK nS asc kl kr eL;generalize cx rs=W at T O Wl nS eL;refine⟨_,rfl,a,es,W,ks,rfl,T,O,Wl,nS,asc,kl,kr,λlE H3 hlE s3 tE=>?_⟩;obtain⟨us,u1,u2,u3⟩:=id tE;have Mf:=(s1.trans s2).trans s3;have el:(bE W ks).length<=60:=PK (PJ _ _) kl;refine⟨lE,rfl,⟨_,aM.of u1⟩,λD hD=>?_⟩;refine bg (K:=K) (a:=lE) (xs:=us.map V.ref) (λi σ H4=>∃(v:Option V) (ls:List U0),σ=[v,YN (.ref a)]/\av H3 H4/\H4 D=YN (.lst (ls.map V.ref))/\ls.length=i/\∀(j:Nat) (l:U0) (p:Int×Int),ls[j]?=YN l->(bE W ks)[j]?=YN p->NK.df H4 l (dO W (pN p))/\l≠D) ⟨none,[],rfl,aj hD,ag,rfl,λj l p e=>by simp at e⟩ (λi σ H4 _ zq=>by obtain⟨_,_,_,s4,_⟩:=zq;exact aM.of (s4 _ _ u1)) ?_ ?_
 .rintro i x σ H4 hx ⟨v,ls,rfl,s4,z7,hl,Iu⟩;rw[O7]at hx;obtain⟨b,eb,rfl⟩:=Pl.mp hx;have hi:i<(bE W ks).length:=by rw[<-u2];exact(O2.mp eb).1
  have ep:=O1 hi;generalize(bE W ks)[i]=p at ep;have hp:=s4 _ _ (u3 i b p eb ep);have hpm:=Pj ep;have hpe:pN p∈bh W/\(dg W (pN p)).length<=1:=by
   have:=(Pd.mp hpm).2;rw[PY,U9,U9]at this;exact this
  refine jB ?_;refine⟨_,rfl,_,rfl,b,a,es,W,pN p,rfl,T.same (s3.trans s4),O,Wl,NK.K2.pair hp,hpe.1,hpe.2,λr H5 hr5 s5 tl=>?_⟩;have nrD:r≠D:=λz=>by rw[z,z7]at hr5;cases hr5
  have gk:∀c ys,H5 c=YN (.tup ys)->upd H5 D (.lst (ls.map V.ref++[.ref r])) c=YN (.tup ys):=λc ys e=>by
   rw[au (λz=>by rw[z,s5 _ _ z7]at e;cases e)];exact e
  refine⟨_,s5 _ _ z7,aB (by rw[O3];omega),_,ls++[r],rfl,(s4.trans s5).upd hD,by rw[ag,Ph];rfl,by rw[O9,hl];rfl,λj l q e1 e2=>?_⟩;by_cases c:j<ls.length
  .rw[Pk c]at e1;obtain⟨t1,t2⟩:=Iu j l q e1 e2;exact⟨NK.df.keep (NK.df.same t1 s5) (by rw[au t2]) gk,t2⟩
  have hj:=(O2.mp e1).1;rw[O9,PZ]at hj;have ej:j=ls.length:=by omega
  subst ej;rw[Pg (O5 _),QE]at e1;rw[hl,ep]at e2;cases e1;cases e2;exact⟨NK.df.keep tl (by rw[au nrD]) gk,nrD⟩
 rintro σ H4 ⟨v,ls,rfl,s4,z7,hl,Iu⟩;rw[O3,u2]at hl;have hK4:=hK.same ((s2.trans s3).trans s4);refine⟨_,rfl,D,rfl,⟨_,aM.of z7⟩,λR hR=>?_⟩;refine bg (K:=K) (a:=D) (xs:=ls.map V.ref) (λi σ H5=>∃v:Option V,σ=[v,YN (.ref lk)]/\av H4 H5/\H5 R=YN (.lst (iV ((eE rs).take i)))) ⟨none,rfl,aj hR,ag⟩ (λi σ H5 _ zq=>by obtain⟨_,_,s5,_⟩:=zq;exact aM.of (s5 _ _ z7)) ?_ ?_
 .rintro i x σ H5 hx ⟨v,rfl,s5,Mg⟩;rw[O7]at hx;obtain⟨l,el',rfl⟩:=Pl.mp hx;have hi:i<(bE W ks).length:=by rw[<-hl];exact(O2.mp el').1
  have ep:=O1 hi;generalize(bE W ks)[i]=p at ep;have tl:=NK.df.same (Iu i l p el' ep).1 s5;obtain⟨bs,b1,b2,b3⟩:=id tl;refine jB ?_;refine⟨_,rfl,l,rfl,⟨_,aM.of b1⟩,λD2 pT=>?_⟩;refine bg (K:=K) (a:=l) (xs:=bs.map V.ref) (λj σ H6=>∃v:Option V,σ=[v,YN (.ref lk)]/\av H5 H6/\NK.df H6 D2 (((dO W (pN p)).take j).filter λk=>decide (k∈ks.map pN))) ⟨none,rfl,aj pT,[],ag,rfl,λi b k e=>by simp at e⟩ (λj σ H6 _ zq=>by obtain⟨_,_,s6,_⟩:=zq;exact aM.of (s6 _ _ b1)) ?_ ?_
  .rintro j y σ H6 hy ⟨v,rfl,s6,t6⟩;rw[O7]at hy;obtain⟨b,eb,rfl⟩:=Pl.mp hy;have hj:j<(dO W (pN p)).length:=by rw[<-b2];exact(O2.mp eb).1
   have ez:=O1 hj;generalize(dO W (pN p))[j]=z at ez;have kz:=NK.K2.same (b3 j b z eb ez) s6;have bl:=ay.zA W (pN p);have e3:((dO W (pN p)).take (j+1)).filter (λk=>decide (k∈ks.map pN))=((dO W (pN p)).take j).filter (λk=>decide (k∈ks.map pN))++(if z∈ks.map pN then[z]else[]):=by
    rw[ay.take_snoc ez,Qd,Qq,Qt];by_cases c:z∈ks.map pN
    .rw[UZ (UU c),UZ c]
    rw[UX (by rw[U1 c];decide),UX c]
   refine⟨_,rfl,_,rfl,b,lk,z,_,rfl,rfl,kz,NK.df.same (hK4.same s5).Ny s6,_,rfl,?_⟩;by_cases c:z∈ks.map pN
   .rw[UU c];obtain⟨ys,w1,w2,w3⟩:=t6.snoc kz;refine rD ⟨_,rfl,ys,w1,aB (by rw[w2];exact PK (PJ _ _) (by rw[Pw];omega)),_,rfl,s6.upd pT,?_⟩;rw[e3,UZ c];exact w3
   rw[U1 c];refine fW ⟨_,rfl,s6,?_⟩;rw[e3,UX c,Qh];exact t6
  rintro σ H6 ⟨v,rfl,s6,t6⟩;rw[O3,b2,PQ]at t6;obtain⟨vs,v1,v2⟩:=t6.len;have ll:(eE rs).length=(bE W ks).length:=by rw[eL,O3]
  refine⟨D2,_,rfl,.inl (aM.of v1),_,s6 _ _ Mg,aB (by rw[aL,Pw];omega),_,rfl,(s5.trans s6).upd hR,?_⟩;have e9:(eE rs)[i]?=YN ((((dO W (pN p)).filter λk=>decide (k∈ks.map pN)).length:Nat):Int):=by rw[eL,O7,ep];rfl
  rw[ag,ay.take_snoc e9,v2];unfold iV;rw[Ph]
  rfl
 rintro σ H5 ⟨v,rfl,s5,Mg⟩;have ll:(eE rs).length=(bE W ks).length:=by rw[eL,O3]
 rw[O3,hl,<-ll,PQ]at Mg;exact k R H5 ((Mf.trans s4).free hR) ((Mf.trans s4).trans s5) Mg
theorem sQ{f:U0}{J:Ve}(B:Bl mg)(F:Fn K mg "legs_cost" fy ["legs"] f J):aT P w K mg base b7 1 f J ["legs"] (ay.oP K):=by
 refine F.fn.ok lq (λvs H Q E h=>?_) (λZ A outer s H vs Q E hr h=>?_)
 .obtain⟨a,L,rfl,_⟩:=h
  rfl
 obtain⟨a,L,rfl,M,k⟩:=h;refine⟨_,(ai (aF (i:=1) lq.nd rfl (Or.inl rfl) (aC aA rfl B.len aY (af (pv 0) ah)))
  (ai (cK (PW.pt (fT (aI dt (aD ck (pv 1) ao) ao (aJ _)) (fT (aI jE (pv 1) ao (aJ _)) (eT (aI ig ao (pv 0) (by with_unfolding_all rfl)))))) (ax (aX (aD aQ (pv 1) ao))) bo)
  (ax (aX (pv 1))))),?_⟩
 refine⟨_,rfl,a,_,rfl,M,?_⟩;dsimp only;rw[aL];have no:¬(L.length%2=1/\1<L.length/\(1:Int)∉L)->Q (.int (L.length:Nat)) H:=λc=>by
  unfold jJ at k;rw[UX c]at k;exact k
 refine⟨_,rfl,_,_,rfl,rfl,by show(0:Int)<2;decide,rfl,_,rfl,?_⟩;by_cases O:L.length%2=1
 .refine eB (Kk (by omega)) ?_;refine⟨_,rfl,_,_,rfl,rfl,_,rfl,?_⟩;by_cases V:1<L.length
  .refine eB (UU (by omega)) ?_;refine⟨_,rfl,a,_,rfl,M,rfl,nL L,_,rfl,?_⟩;rw[ay.Gh];by_cases D:(1:Int)∈L
   .rw[UU D];exact fW ⟨_,rfl,no λz=>z.2.2 D⟩
   rw[U1 D];refine rD ⟨_,rfl,_,_,rfl,rfl,?_⟩;unfold jJ at k;rw[UZ ⟨O,V,D⟩]at k;exact k
  refine eD (U1 (by omega)) (fW ⟨_,rfl,no λz=>V z.2.1⟩)
 refine eD (FT (by omega)) (fW ⟨_,rfl,no λz=>O z.1⟩)
theorem sR{f V Z:U0}{fd M O:Ve}(B:Bl mg)(F:Fn K mg "knot_cost" fw ["row"] f fd)(z:Fn K mg "legs_cost" fy ["legs"] V M)(D:Fn K mg "knot_legs" fu ["row"] Z O)(J:aT P w K mg base b7 6 Z O ["row"] sj):aT P w K mg base b7 7 f fd ["row"] sI:=by
 have L:aT P w K mg base b7 1 V M ["legs"] (ay.oP K):=sQ B z;refine F.fn.ok sL (λvs H Q E h=>?_) (λjr A outer s H vs Q E hr h=>?_)
 .obtain⟨t,rs,rfl,_⟩:=h
  rfl
 obtain⟨t,rs,rfl,ht,fit,k⟩:=h;refine⟨_,(ax (aX (br L z (hr.mono (by decide)) (af (br J D (hr.mono (by decide)) (af (pv 0) ah)) ah)))),?_⟩;refine⟨_,rfl,t,rs,rfl,ht,fit,λr H1 hr1 s1 h1=>?_⟩;exact⟨r,_,rfl,.inl (aM.of h1),k H1 s1⟩
theorem pU{f f1 f2:U0}{fd M O:Ve}(B:Bl mg)(F:Fn K mg "turn_score" fQ ["row"] f fd)(z:Fn K mg "tie_rings" ft ["row"] f1 M)(D:aT P w K mg base b7 3 f1 M ["row"] iz)(J:Fn K mg "knot_cost" fw ["row"] f2 O)(L:aT P w K mg base b7 7 f2 O ["row"] sI):aT P w K mg base b7 8 f fd ["row"] ay.uE:=by
 refine F.fn.ok pS (λvs H Q E h=>?_) (λjr A outer s H vs Q E hr h=>?_)
 .obtain⟨t,rs,rfl,_⟩:=h
  rfl
 obtain⟨t,rs,rfl,Z,fit,k⟩:=h;refine⟨_,(ax (aX (aD aQ (aD eF (aD aQ (aC aA rfl B.len aY (af (pv 0) ah)) ao) (aC aA rfl B.len aY (af (br D z (hr.mono (by decide)) (af (pv 0) ah)) ah))) (br L J (hr.mono (by decide)) (af (pv 0) ah))))),?_⟩;refine⟨_,rfl,t,_,rfl,.inr (b0.of Z),_,_,rfl,rfl,?_⟩;refine⟨_,rfl,t,rs,rfl,Z,fit,λl H1 hl s1 h1=>?_⟩;obtain⟨vs,v1,v2⟩:=h1.len;refine⟨l,_,rfl,.inl (aM.of v1),_,_,rfl,rfl,?_⟩;refine⟨_,rfl,t,rs,rfl,s1 _ _ Z,fit,λH2 s2=>⟨_,_,rfl,rfl,?_⟩⟩;have e:(((iV rs).length:Nat):Int)+1-((vs.length:Nat):Int)+jJ (eE rs)=l9 rs:=by
  unfold l9;rw[aL,v2,ay.jP]
 show Q (V.int ((((iV rs).length:Nat):Int)+1-((vs.length:Nat):Int)+jJ (eE rs))) H2;rw[e];exact k H2 (s1.trans s2)
end
section
variable {P:U8}{w:Va}{K:Pc}{mg:Vl->Option UW}{base:Vi}
theorem jk{f:U0}{D:Ve}(B:Bl mg)(F:Fn K mg "_law_cell_at" dA ["script","k"] f D):aT P w K mg base b7 1 f D ["script","k"] (kq K):=by
 refine F.fn.ok o7 (λvs H Q E h=>?_) (λL A outer s H vs Q E O h=>?_)
 .obtain⟨a,ns,k,rfl,_⟩:=h
  rfl
 obtain⟨a,ns,k,rfl,J,q⟩:=h;refine⟨_,ai (cK (aI dH (pv 1) (aC aA rfl B.len aY (af (pv 0) ah)) (aJ _)) (ax (aX (aP bf (pv 0) (pv 1) (λ_ _=>rfl)))) bo) (ax (aX ao)),?_⟩;refine⟨_,rfl,_,rfl,a,_,rfl,.inl J,_,_,rfl,rfl,_,rfl,?_⟩;refine gv (λz=>?_) (λz=>?_)
 .have z:=U6 z;rw[O3]at z;have M:k<ns.length:=by omega
  have e:(ns.map V.int)[k]?=YN (.int ns[k]):=by rw[O7,O1 M];rfl
  exact⟨_,rfl,_,rfl,a,_,_,_,rfl,rfl,J,aV e,q _⟩
 exact q 0
theorem jY{f fC:U0}{fd fdC:Ve}(B:Bl mg)(F:Fn K mg "_law_row_of_kins" da ["script","at","many"] f fd)(z:Fn K mg "_law_cell_at" dA ["script","k"] fC fdC):aT P w K mg base b7 2 f fd ["script","at","many"] (ay.mH K):=by
 have M:aT P w K mg base b7 1 fC fdC ["script","k"] (kq K):=jk B z;refine F.fn.ok aU (λvs H Q E h=>?_) (λjr A outer s H vs Q E hr h=>?_)
 .obtain⟨a,ns,at',many,rfl,_⟩:=h
  rfl
 obtain⟨a,ns,at',many,rfl,hS,hm,k⟩:=h
 let Pv:Nat->St->Hp->Prop:=λi σ L=>∃(l:U0) (rs:List Int) (v4 v5 v6 v7:Option V),σ=[YN (.ref a),YN (.int at'),YN (.int many),YN (.ref l),v4,v5,v6,v7]/\av H L/\H l=none/\L l=YN (.lst (iV rs))/\rs.length=i/\Rw rs
 let R1:TS:=λD σ L=>∃(i:Nat) (l:U0) (rs:List Int) (c:Int) (v6 v7:Option V),σ=[YN (.ref a),YN (.int at'),YN (.int many),YN (.ref l),YN (.int i),YN (.int c),v6,v7]/\i<many/\av H L/\H l=none/\L l=YN (.lst (iV rs))/\rs.length=i/\Rw rs/\∀σ' H',Pv (i+1) σ' H'->D.nx σ' H'
 let R2:TS:=λD σ L=>∃(i f:Nat) (l q:U0) (rs O:List Int) (c:Int),σ=[YN (.ref a),YN (.int at'),YN (.int many),YN (.ref l),YN (.int i),YN (.int c),YN (.int f),YN (.ref q)]/\i<many/\av H L/\L l=YN (.lst (iV rs))/\L q=YN (.lst (iV O))/\rs.length=i+1/\f<=i+1/\(a7 O).Perm (a7 (rs.drop f))/\Rw rs/\∀σ' H',Pv (i+1) σ' H'->D.nx σ' H'
 have inj:∀{x y:Int},decide (V.int x=V.int y)=true->x=y:=λh=>by injection U6 h
 refine⟨_,(ai (aF (i:=3) aU.nd rfl (Or.inl rfl) (bJ ah))
  (ai (bG PassesOwn.never rfl (cg rfl B.range (af (pv 2) ah)) (aG (i:=4) aU.nd rfl (Or.inl rfl)) (ai (aF (i:=5) aU.nd rfl (Or.inl rfl) (aD ck (br M z (hr.mono (by decide)) (af (pv 0) (af (aD aQ (pv 1) (pv 4)) ah))) (aD Ax ao ao)))
  (ai (cK (PW.pt (fT (aI dt (aD ck (aD eU (pv 5) ao) ao) ao (aJ _)) (eT (aI jE (aC aA rfl B.len aY (af (pv 3) ah)) ao (aJ _))))) (ax (aF (i:=3) aU.nd rfl (Or.inl rfl) (aD fV (du eW (pv 3) (dR ao) fJ) (bJ (af (aP bf (pv 3) ao (λ_ _=>rfl)) ah))))) bo)
  (eG (R:=R1) λD σ L hR=>?rest))))
  (ax (aX (a8 cq rfl B.tuple gV (af (pv 3) ah)))))),?_⟩
 case rest =>
  obtain⟨i,l,rs,c,v6,v7,rfl,hi,s2,Jc,hl,J,hw,hD⟩:=hR;refine⟨_,(ai (dB (gU Qg QH QI dI (pv 3) (af (aD aQ (pv 4) ao) ah)))
  (ax (cK (aI jE (aD ck (pv 5) ao) ao (aJ _)) (ai (aF (i:=6) aU.nd rfl (Or.inl rfl) (aC (qf rfl) rfl B.max A8 (af ao (af (aD eF (aD eF (aC aA rfl B.len aY (af (pv 3) ah)) ao) (aD ck (aD eU (pv 5) ao) ao)) ah))))
  (ai (aF (i:=7) aU.nd rfl (Or.inl rfl) (du eW (pv 3) (dR (pv 6)) fJ))
  (eG (R:=R2) λD σ L hR=>?rest2))) bo))),?_⟩
  case rest2 =>
   obtain⟨i,f,l,q,rs,O,c,rfl,hi,s2,hl,hq,J,hf,hp,hw,hD⟩:=hR;refine⟨_,(ai (cK (aI dt (aD ck (pv 5) ao) ao (aJ _)) (ax (aF (i:=7) aU.nd rfl (Or.inl rfl) (xt rfl rfl B.list rfl B.reversed (af (pv 7) ah)))) bo)
  (eG (R:=R2) λD σ L hR=>?rest3)),?_⟩
   case rest3 =>
    obtain⟨i,f,l,q,rs,O,c,rfl,hi,s2,hl,hq,J,hf,hp,hw,hD⟩:=hR;refine⟨_,(ai (cK (aI dt (aD ck (pv 5) ao) ao (aJ _)) (ax (dC (ix:=7) (NC:=["number"]) aU.nd rfl (Or.inl rfl) rfl (gz rfl (by decide +kernel) (by decide +kernel)) (G5 rfl B.reversed (af (pv 7) ah)) (λ_ _ _ _=>(aG (i:=0) (show(["number"]:List Vl).Nodup by decide +kernel) rfl (Or.inl rfl))) (λ_ _ _ _=>cf) (λ_ _ _ _=>(aD eF ao (pv 0))))) bo)
  (eG (R:=R2) λD σ L hR=>?rest4)),?_⟩
    case rest4 =>
     obtain⟨i,f,l,q,rs,O,c,rfl,hi,s2,hl,hq,J,hf,hp,hw,hD⟩:=hR;refine⟨_,(ax (aF (i:=3) aU.nd rfl (Or.inl rfl) (aD fV (du eW (pv 3) fJ (dR (pv 6))) (pv 7)))),?_⟩;have j6:(iV rs).length=rs.length:=aL rs;refine⟨_,rfl,_,rfl,_,rfl,l,_,rfl,aM.of hl,λp C3=>?_⟩;rw[n4 (by rw[j6];omega)];have Z:av L (upd L p (.lst ((iV rs).take f))):=aj C3;have hlen:O.length=i+1-f:=by
      have:=hp.length_eq;rw[cu,cu,Qo]at this;omega
     refine⟨_,rfl,p,q,_,_,rfl,rfl,ag,Z _ _ hq,Qx (aB (by rw[Pw,aL,aL];omega)),λp2 Gk=>?_⟩;have e:(iV rs).take f++iV O=iV (rs.take f++O):=by rw[b6];unfold iV;rw[Sr]
     refine hD _ _ ⟨p2,rs.take f++O,_,_,_,_,rfl,(s2.trans Z).trans (aj Gk),(s2.trans Z).free Gk,by rw[ag,e],?_,hw.tail f hp⟩;rw[O9,Pw,hlen];omega
    refine⟨_,rfl,_,_,rfl,rfl,(by show(0:Int)<4;decide),rfl,_,rfl,?_⟩;refine gv (λh1=>?_) (λh1=>?_)
    .refine⟨_,rfl,q,_,rfl,aM.of hq,λD2 pT=>A5 (K:=K) (a:=q) (xs:=iV O) (λj σ H3=>∃v:Option V,σ=[v]/\av L H3/\H3 D2=YN (.lst (iV ((O.reverse.take j).map λx=>0-x)))) ⟨none,rfl,aj pT,ag⟩ (λj σ H3 _ zq=>by obtain⟨_,_,Z,_⟩:=zq;exact aM.of (Z _ _ hq)) ?_ ?_⟩
     .rintro j y σ H3 hy ⟨v,rfl,Z,h3⟩;have e:(iV O).reverse=iV O.reverse:=by unfold iV;rw[RR]
      rw[e]at hy;obtain⟨x,hx,rfl⟩:=bP hy;have hlen:O.length=i+1-f:=by
       have:=hp.length_eq;rw[cu,cu,Qo]at this;omega
      refine jB ?_;refine⟨_,rfl,_,_,rfl,rfl,_,h3,aB (by rw[aL,O3,Pw,Q2];omega),_,rfl,Z.upd pT,?_⟩;rw[ag,ay.take_snoc hx,Ph,b6]
      rfl
     rintro σ H3 ⟨v,rfl,Z,h3⟩;have e:O.reverse.take (iV O).length=O.reverse:=QF (by rw[aL,Q2];exact O5 _);rw[e]at h3;exact⟨i,f,l,D2,rs,_,c,rfl,hi,s2.trans Z,Z _ _ hl,h3,J,hf,(ay.ub O).trans hp,hw,hD⟩
    exact⟨i,f,l,q,rs,O,c,rfl,hi,s2,hl,hq,J,hf,hp,hw,hD⟩
   refine⟨_,rfl,_,_,rfl,rfl,(by show(0:Int)<4;decide),rfl,_,rfl,?_⟩;refine gv (λh1=>?_) (λh1=>?_)
   .refine⟨_,rfl,q,_,rfl,aM.of hq,λr C2=>?_⟩;have Z:av L (upd L r (.lst (iV O).reverse)):=aj C2;refine⟨i,f,l,r,rs,O.reverse,c,rfl,hi,s2.trans Z,Z _ _ hl,by rw[ag];unfold iV;rw[RR],J,hf,(ay.ua O).trans hp,hw,hD⟩
   exact⟨i,f,l,q,rs,O,c,rfl,hi,s2,hl,hq,J,hf,hp,hw,hD⟩
  have Mh:=hw.snoc;rw[J]at Mh;have e1:iV rs++[V.int ((i:Int)+1)]=iV (rs++[(i:Int)+1]):=by rw[b6];rfl
  refine⟨_,rfl,.inl ⟨rfl,_,aM.of hl⟩,_,rfl,_,_,rfl,rfl,l,_,_,rfl,rfl,hl,aB (by rw[aL];omega),?_⟩;rw[e1];have Z:av H (upd L l (.lst (iV (rs++[(i:Int)+1])))):=s2.upd Jc;have Aj:upd L l (.lst (iV (rs++[(i:Int)+1]))) l=YN (.lst (iV (rs++[(i:Int)+1]))):=ag;generalize upd L l (.lst (iV (rs++[(i:Int)+1])))=H3 at Z Aj⊢;have rl:(rs++[(i:Int)+1]).length=i+1:=by rw[O9,J];rfl
  generalize rs++[(i:Int)+1]=z8 at Mh Aj rl;have j6:(((iV z8).length:Nat):Int)=(i:Int)+1:=by rw[aL,rl];omega
  refine⟨_,rfl,_,_,rfl,rfl,(by show(0:Int)<4;decide),_,_,rfl,rfl,_,rfl,?_⟩;refine gv (λh1=>?_) (λh1=>?_)
  .have g0:0<=c/12%4:=R4 _ (by decide);obtain⟨f,hf,NH⟩:∃f:Nat,(if((iV z8).length:Int)-1-c/12%4>0 then((iV z8).length:Int)-1-c/12%4 else 0)=f/\f<=i+1:=by
    refine⟨(if((iV z8).length:Int)-1-c/12%4>0 then((iV z8).length:Int)-1-c/12%4 else 0).toNat,?_,?_⟩ <;> rw[j6] <;> split <;> omega
   refine⟨_,rfl,l,_,rfl,.inl (aM.of Aj),_,_,rfl,rfl,_,rfl,_,_,rfl,rfl,⟨by decide,by decide⟩,_,_,rfl,rfl,(by show(0:Int)<4;decide),_,_,rfl,rfl,_,_,rfl,?_⟩;dsimp only;rw[hf];refine⟨_,rfl,_,rfl,_,rfl,l,_,rfl,aM.of Aj,λq hq=>?_⟩;rw[iR (by rw[aL];omega)];have s4:av H3 (upd H3 q (.lst ((iV z8).drop f))):=aj hq;exact⟨i,f,l,q,z8,z8.drop f,c,rfl,hi,Z.trans s4,s4 _ _ Aj,by rw[ag];unfold iV;rw[RV],rl,NH,List.Perm.refl _,Mh,hD⟩
  exact hD _ _ ⟨l,z8,_,_,_,_,rfl,Z,Jc,Aj,rl,Mh⟩
 refine⟨by show 0<=U7;decide,λl0 yB=>?_⟩;have s0:av H (upd H l0 (.lst [])):=aj yB;refine⟨_,rfl,_,rfl,by omega,by omega,cS (lo:=0) (n:=((many:Nat):Int).toNat) Pv ⟨l0,[],none,none,none,none,rfl,s0,yB,ag,rfl,List.Perm.refl _⟩ ?_ ?_⟩
 .rintro i σ L hi ⟨l,rs,v4,v5,v6,v7,rfl,s2,Jc,hl,J,hw⟩;have Dk:i<many:=by omega
  rw[Sh];have p12:(0:Int)<10 ^ (12:Int).toNat:=by decide +kernel
  have Lk:(((iV rs).length:Nat):Int)=i:=by rw[aL,J]
  have ea:(at':Int)+(i:Int)=((at'+i:Nat):Int):=by omega
  refine⟨_,rfl,_,rfl,_,rfl,_,_,rfl,rfl,a,ns,at'+i,(by show[V.ref a,V.int ((at':Int)+(i:Int))]=_;rw[ea]),s2.seq hS,λc=>?_⟩;refine⟨_,_,rfl,rfl,⟨by decide,by decide,by decide⟩,_,_,rfl,rfl,p12,?_⟩;dsimp only;generalize c%10 ^ (12:Int).toNat=d;refine⟨_,rfl,_,_,rfl,rfl,⟨by decide,by decide⟩,_,_,rfl,rfl,(by show(0:Int)<3;decide),rfl,_,rfl,?_⟩;refine gv (λh1=>?_) (λh1=>?_)
  .refine⟨_,rfl,l,_,rfl,.inl (aM.of hl),_,_,rfl,rfl,_,rfl,?_⟩;refine gv (λh2=>?_) (λh2=>?_)
   .have h2:=U6 h2;rw[Lk]at h2;have r0:rs[0]?=YN (rs.getD 0 0):=ay.getD_get (by omega);refine⟨_,rfl,_,rfl,l,_,rfl,aM.of hl,λp hp=>?_⟩;have ec:jM (iV rs) (YN 1) none=(iV rs).drop 1:=iR (k:=1) (by rw[aL];omega);rw[ec];have Z:av L (upd L p (.lst ((iV rs).drop 1))):=aj hp;have Dl:upd L p (.lst ((iV rs).drop 1)) p=YN (.lst ((iV rs).drop 1)):=ag;generalize upd L p (.lst ((iV rs).drop 1))=H3 at Z Dl⊢;refine⟨_,rfl,l,_,_,_,rfl,rfl,aM.of (Z _ _ hl),(show qt (iV rs) 0=YN (.int (rs.getD 0 0))from aV (j:=0) (c7 (by omega))),by show 1<=U7;decide,λq hq=>?_⟩;have s4:av H3 (upd H3 q (.lst [.int (rs.getD 0 0)])):=aj hq;refine⟨p,q,_,_,rfl,rfl,s4 _ _ Dl,ag,Qx (aB (by rw[Qo,aL];show _+1<=1000;omega)),λr C2=>?_⟩;have e:(iV rs).drop 1++[V.int (rs.getD 0 0)]=iV (rs.drop 1++[rs.getD 0 0]):=by rw[b6];unfold iV;rw[RV];rfl
    have Di:=(s2.trans Z).trans s4;refine⟨i,r,rs.drop 1++[rs.getD 0 0],d,_,_,rfl,Dk,Di.trans (aj C2),Di.free C2,by rw[ag,e],?_,hw.rot r0,λσ' H' h=>h⟩;rw[O9,Qo];show _+1=_;omega
   exact⟨i,l,rs,d,_,_,rfl,Dk,s2,Jc,hl,J,hw,λσ' H' h=>h⟩
  exact fW ⟨i,l,rs,d,_,_,rfl,Dk,s2,Jc,hl,J,hw,λσ' H' h=>h⟩
 rintro σ L ⟨l,rs,v4,v5,v6,v7,rfl,s2,Jc,hl,J,hw⟩;have J:rs.length=many:=by omega
 exact⟨_,rfl,l,_,rfl,.inl hl,λt H3 Z ht=>k t H3 rs (s2.trans Z) ht J (hw.fit (by omega))⟩
theorem nc{f:U0}{fd:Ve}(B:Bl mg)(F:Fn K mg "_law_inflated" d6 ["script","at","room"] f fd):aT P w K mg base b7 1 f fd ["script","at","room"] (ay.oD K):=by
 refine F.fn.ok aS (λvs H Q E h=>?_) (λjr A outer s H vs Q E hr h=>?_)
 .obtain⟨a,ns,at',room,rfl,_⟩:=h
  rfl
 obtain⟨a,ns,at',room,rfl,hS,hlen,II,hm,k⟩:=h
 let Pv:Nat->St->Hp->Prop:=λi σ J=>∃(l:U0) (rs:List Int) (v4 v5 v6 v7 v8:Option V),σ=[YN (.ref a),YN (.int at'),YN (.int room),YN (.ref l),v4,v5,v6,v7,v8,none]/\av H J/\J l=YN (.lst (iV rs))/\rs.Perm (bH rs.length)/\4<=rs.length/\rs.length<max room 5
 let R2:TS:=λD σ J=>∃(l q:U0) (rs inner:List Int) (spot:Nat) (low c:Int) (v4:Option V),σ=[YN (.ref a),YN (.int at'),YN (.int room),YN (.ref l),v4,YN (.int c),YN (.int spot),YN (.int low),YN (.ref q),none]/\av H J/\J l=YN (.lst (iV (rs.map (mW low))))/\J q=YN (.lst (iV inner))/\inner.length=4/\inner.Perm [low,low+1,low+2,low+3]/\rs[spot]?=YN low/\rs.Perm (bH rs.length)/\4<=rs.length/\rs.length+3<room/\∀i σ' H',Pv i σ' H'->D.nx σ' H'
 have ivn:(ns.map V.int).length=ns.length:=O3 _;have gS:∀i:Nat,i<((ns.length:Int)-(at':Int)).toNat->(ns.map V.int)[at'+i]?=YN (.int (ns.getD (at'+i) 0)):=λi hi=>c7 (rs:=ns) (by omega);refine⟨_,(ai (aF (i:=3) aS.nd rfl (Or.inl rfl) (bJ (af ao (af ao (af ao (af ao ah))))))
  (ai (bG PassesOwn.never rfl (jo rfl B.range (af (pv 1) (af (aC aA rfl B.len aY (af (pv 0) ah)) ah))) (aG (i:=4) aS.nd rfl (Or.inl rfl)) (ai (aF (i:=5) aS.nd rfl (Or.inl rfl) (aD ck (aP bf (pv 0) (pv 4) (λ_ _=>rfl)) (aD Ax ao ao)))
  (ax (cK (aI dH (aD aQ (aC aA rfl B.len aY (af (pv 3) ah)) ao) (pv 2) (aJ _)) (ai (aF (i:=6) aS.nd rfl (Or.inl rfl) (aD ck (aD eU (pv 5) ao) (aC aA rfl B.len aY (af (pv 3) ah))))
  (ai (aF (i:=7) aS.nd rfl (Or.inr rfl) (aP bf (pv 3) (pv 6) (λ_ _=>rfl)))
  (ai (dC (ix:=3) (NC:=["number","low"]) aS.nd rfl (Or.inl rfl) rfl (bO (c:=s.heap.objs.size+1) (j:=7) rfl (by decide +kernel) (by decide +kernel) rfl rfl rfl rfl rfl) (a9 (pv 3)) (λ_ _ _ _=>(aG (i:=0) (show(["number","low"]:List Vl).Nodup by decide +kernel) rfl (Or.inl rfl))) (λ_ _ _ _=>cf) (λ_ _ _ _=>(aD aQ (pv 0) (aD ie ao (a8 gR rfl B.int lU (af (b9 jE (pv 0) (pv 1) (aJ _)) ah))))))
  (ai (aF (i:=8) aS.nd rfl (Or.inl rfl) (bJ (af (pv 7) (af (aD aQ (pv 7) ao) (af (aD aQ (pv 7) ao) (af (aD aQ (pv 7) ao) ah))))))
  (eG (R:=R2) λD σ J hR=>?rest))))) bo))))
  (ai (dC (ix:=9) (NC:=["number"]) aS.nd rfl (Or.inl rfl) rfl (gz rfl (by decide +kernel) (by decide +kernel)) (a9 (pv 3)) (λ_ _ _ _=>(aG (i:=0) (show(["number"]:List Vl).Nodup by decide +kernel) rfl (Or.inl rfl))) (λ_ _ _ _=>cf) (λ_ _ _ _=>(aD aQ (pv 0) ao)))
  (ai (bG PassesOwn.never rfl (jo rfl B.range (af (pv 1) (af (aC aA rfl B.len aY (af (pv 0) ah)) ah))) (aG (i:=4) aS.nd rfl (Or.inl rfl)) (ai (aF (i:=6) aS.nd rfl (Or.inl rfl) (aD ck (aD eU (aP bf (pv 0) (pv 4) (λ_ _=>rfl)) ao) ao))
  (ax (cK (PW.pt (fT (aI dt (aD ck (aP bf (pv 0) (pv 4) (λ_ _=>rfl)) ao) ao (aJ _)) (eT (aI dH (pv 6) (aC aA rfl B.len aY (af (pv 3) ah)) (aJ _))))) (ax (rq (aD eF ao (aP bf (pv 9) (pv 6) (λ_ _=>rfl))) (rn (pv 9) (pv 6) set_list))) bo))))
  (ax (aX (a8 cq rfl B.tuple gV (af (pv 9) ah)))))))),?_⟩
 case rest =>
  obtain⟨l,q,rs,inner,spot,low,c,v4,rfl,s2,O,hq,D1,Oz,nS,hp,h4,Jd,hD⟩:=hR;refine⟨_,(ai (cK (aI dt (aD ck (pv 5) ao) ao (aJ _)) (ax (aF (i:=8) aS.nd rfl (Or.inl rfl) (bJ (af (pv 7) (af (aD aQ (pv 7) ao) (af (aD aQ (pv 7) ao) (af (aD aQ (pv 7) ao) ah))))))) bo)
  (eG (R:=R2) λD σ J hR=>?rest2)),?_⟩
  case rest2 =>
   obtain⟨l,q,rs,inner,spot,low,c,v4,rfl,s2,O,hq,D1,Oz,nS,hp,h4,Jd,hD⟩:=hR;refine⟨_,(ax (aF (i:=3) aS.nd rfl (Or.inl rfl) (aD fV (aD fV (du eW (pv 3) fJ (dR (pv 6))) (pv 8)) (du eW (pv 3) (dR (aD aQ (pv 6) ao)) fJ)))),?_⟩;have Gm:=(O2.mp nS).1;have P4:=Hc hp nS Oz;have ml:(rs.map (mW low)).length=rs.length:=O3 _;generalize rs.map (mW low)=L at O P4 ml;have j6:(iV L).length=rs.length:=by rw[aL,ml]
   refine⟨_,rfl,_,rfl,_,rfl,l,_,rfl,aM.of O,λp1 C3=>?_⟩;rw[n4 (by rw[j6];omega)];have M:av J (upd J p1 (.lst ((iV L).take spot))):=aj C3;have h3:upd J p1 (.lst ((iV L).take spot)) p1=YN (.lst ((iV L).take spot)):=ag;generalize upd J p1 (.lst ((iV L).take spot))=Z at M h3⊢;have tl:((iV L).take spot).length<=41:=by rw[Pw,j6];omega
   refine⟨_,rfl,p1,q,_,_,rfl,rfl,h3,M _ _ hq,Qx (aB (by rw[aL];omega)),λp2 Gk=>?_⟩;have s4:av Z (upd Z p2 (.lst ((iV L).take spot++iV inner))):=aj Gk;have Ll:upd Z p2 (.lst ((iV L).take spot++iV inner)) p2=YN (.lst ((iV L).take spot++iV inner)):=ag;generalize upd Z p2 (.lst ((iV L).take spot++iV inner))=H4 at s4 Ll⊢;have Di:=M.trans s4;have e1:(spot:Int)+1=((spot+1:Nat):Int):=by omega
   refine⟨_,rfl,_,rfl,_,_,rfl,rfl,_,rfl,l,_,rfl,aM.of (Di _ _ O),λp3 Dl=>?_⟩;dsimp only;rw[e1,iR (by rw[j6];omega)];have s5:av H4 (upd H4 p3 (.lst ((iV L).drop (spot+1)))):=aj Dl;refine⟨p2,p3,_,_,rfl,rfl,s5 _ _ Ll,ag,Qx (aB (by rw[O9,Qo,aL inner,j6];omega)),λp4 C4=>?_⟩;have e2:(iV L).take spot++iV inner++(iV L).drop (spot+1)=iV (L.take spot++inner++L.drop (spot+1)):=by
    rw[b6,b6];unfold iV;rw[Sr,RV]
   have el:(L.take spot++inner++L.drop (spot+1)).length=rs.length+3:=by rw[O9,O9,Pw,Qo,ml,D1];omega
   refine hD 0 _ _ ⟨p4,L.take spot++inner++L.drop (spot+1),_,_,_,_,_,rfl,(((s2.trans Di).trans s5)).trans (aj C4),by rw[ag,e2],by rw[el];exact P4,by omega,by omega⟩
  refine⟨_,rfl,_,_,rfl,rfl,(by show(0:Int)<4;decide),rfl,_,rfl,?_⟩;refine gv (λh1=>?_) (λh1=>?_)
  .refine⟨_,rfl,_,rfl,_,_,rfl,rfl,_,rfl,_,_,rfl,rfl,_,rfl,_,_,rfl,rfl,by show 4<=U7;decide,λq2 OA=>?_⟩;have M:av J (upd J q2 (.lst [.int low,.int (low+1),.int (low+2),.int (low+3)])):=aj OA;exact⟨l,q2,rs,[low,low+1,low+2,low+3],spot,low,c,v4,rfl,s2.trans M,M _ _ O,ag,rfl,List.Perm.refl _,nS,hp,h4,Jd,hD⟩
  exact⟨l,q,rs,inner,spot,low,c,v4,rfl,s2,O,hq,D1,Oz,nS,hp,h4,Jd,hD⟩
 refine⟨by show 4<=U7;decide,λl0 yB=>?_⟩;have s0:av H (upd H l0 (.lst [.int 0,.int 2,.int 1,.int 3])):=aj yB;refine⟨_,rfl,_,rfl,a,_,rfl,.inl (s0.seq hS),_,_,rfl,⟨by omega,by omega,by omega,by omega⟩,cS (lo:=(at':Int)) (n:=(((ns.map V.int).length:Nat)-(at':Int):Int).toNat) Pv ⟨l0,[0,2,1,3],none,none,none,none,none,rfl,s0,ag,?_,O5 4,by show 4<max room 5;omega⟩ ?_ ?_⟩
 .show([0,2,1,3]:List Int).Perm (bH 4);decide
 .rintro i σ J hi ⟨l,rs,v4,v5,v6,v7,v8,rfl,s2,O,hp,h4,Jd⟩;rw[ivn]at hi;have p9:(0:Int)<10 ^ (9:Int).toNat:=by decide +kernel
  have ea:(at':Int)+(i:Int)=((at'+i:Nat):Int):=by omega
  rw[ea];refine⟨_,rfl,_,rfl,a,_,_,_,rfl,rfl,s2.seq hS,aV (gS i hi),_,_,rfl,rfl,⟨by decide,by decide,by decide⟩,_,_,rfl,rfl,p9,?_⟩;dsimp only;generalize ns.getD (at'+i) 0%10 ^ (9:Int).toNat=c;have j6:(((iV rs).length:Nat):Int)=rs.length:=by rw[aL]
  refine⟨_,rfl,l,_,rfl,.inl (aM.of O),_,_,rfl,rfl,_,rfl,_,_,rfl,rfl,_,rfl,?_⟩;refine gv (λh1=>?_) (λh1=>?_)
  .have h1:=U6 h1;rw[j6]at h1;have OB:rs.length+3<room:=by omega
   have g0:0<=c/8%(rs.length:Int):=R4 _ (by omega);have g1:c/8%(rs.length:Int)<rs.length:=SH _ (by omega);obtain⟨spot,C5⟩:∃spot:Nat,c/8%(rs.length:Int)=spot:=⟨(c/8%(rs.length:Int)).toNat,by omega⟩
   have Gm:spot<rs.length:=by omega
   refine⟨_,rfl,_,_,rfl,rfl,⟨by decide,by decide⟩,_,rfl,l,_,rfl,.inl (aM.of O),_,_,rfl,rfl,(by rw[j6];omega),?_⟩;dsimp only;rw[j6,C5];refine⟨_,rfl,_,rfl,l,_,_,_,rfl,rfl,aM.of O,aV (c7 Gm),?_⟩;generalize OC:rs.getD spot 0=low;have nS:rs[spot]?=YN low:=by rw[ay.getD_get Gm,OC]
   refine⟨_,rfl,l,rfl,⟨_,aM.of O⟩,λD hD=>bg (K:=K) (a:=l) (xs:=iV rs) (λj σ Z=>∃v:Option V,σ=[v,YN (.int low)]/\av J Z/\Z D=YN (.lst (iV ((rs.take j).map (mW low))))) ⟨none,rfl,aj hD,ag⟩ (λj σ Z _ zq=>by obtain⟨_,_,M,_⟩:=zq;exact aM.of (M _ _ O)) ?_ ?_⟩
   .rintro j y σ Z hy ⟨v,rfl,M,h3⟩;obtain⟨x,hx,rfl⟩:=bP hy;refine jB ?_;refine⟨_,rfl,_,rfl,_,rfl,_,_,rfl,rfl,.inr ⟨_,rfl,_,_,rfl,rfl,.inl ⟨by decide,by decide⟩,_,_,rfl,rfl,?_⟩⟩;refine⟨_,h3,aB (by rw[aL,O3,Pw];omega),_,rfl,M.upd hD,?_⟩;rw[ag,ay.take_snoc hx,Ph,b6];congr 4;show V.int _=V.int _;congr 1;unfold mW;by_cases cc:x>low
    .rw[UZ cc,UZ (UU cc)]
    rw[UX cc,UX (by rw[U1 cc];decide)]
   rintro σ Z ⟨v,rfl,M,h3⟩;rw[aL,PQ]at h3;refine⟨_,rfl,_,rfl,_,_,rfl,rfl,_,rfl,_,_,rfl,rfl,_,rfl,_,_,rfl,rfl,by show 4<=U7;decide,λq hq=>?_⟩;have s4:av Z (upd Z q (.lst [.int low,.int (low+2),.int (low+1),.int (low+3)])):=aj hq;exact⟨D,q,rs,[low,low+2,low+1,low+3],spot,low,c,_,rfl,(s2.trans M).trans s4,s4 _ _ h3,ag,rfl,List.Perm.cons _ (List.Perm.swap _ _ _),nS,hp,h4,OB,λj σ' H' h=>h⟩
  exact⟨l,rs,_,_,_,_,_,rfl,s2,O,hp,h4,Jd⟩
 rintro σ J ⟨l,rs,v4,v5,v6,v7,v8,rfl,s2,O,hp,h4,Jd⟩;refine⟨_,rfl,l,rfl,⟨_,aM.of O⟩,λD hD=>bg (K:=K) (a:=l) (xs:=iV rs) (λj σ Z=>∃v:Option V,σ=[v]/\av J Z/\Z D=YN (.lst (iV ((rs.take j).map λx=>x+1)))) ⟨none,rfl,aj hD,ag⟩ (λj σ Z _ zq=>by obtain⟨_,_,M,_⟩:=zq;exact aM.of (M _ _ O)) ?_ ?_⟩
 .rintro j y σ Z hy ⟨v,rfl,M,h3⟩;obtain⟨x,hx,rfl⟩:=bP hy;refine jB ?_;refine⟨_,rfl,_,_,rfl,rfl,_,h3,aB (by rw[aL,O3,Pw];omega),_,rfl,M.upd hD,?_⟩;rw[ag,ay.take_snoc hx,Ph,b6]
  rfl
 rintro σ Z ⟨v,rfl,M,h3⟩;rw[aL,PQ]at h3;have Ln:=s2.trans M;have Mb:H D=none:=s2.free hD;refine⟨_,rfl,_,rfl,a,_,rfl,.inl (Ln.seq hS),_,_,rfl,⟨by omega,by omega,by omega,by omega⟩,cS (lo:=(at':Int)) (n:=(((ns.map V.int).length:Nat)-(at':Int):Int).toNat) (λi σ H4=>∃(fl:List Int) (v4 v5 v6 v7 v8:Option V),σ=[YN (.ref a),YN (.int at'),YN (.int room),YN (.ref l),v4,v5,v6,v7,v8,YN (.ref D)]/\av H H4/\H4 l=YN (.lst (iV rs))/\H4 D=YN (.lst (iV fl))/\fl.length=rs.length/\Rw fl)
  ⟨_,_,_,_,_,_,rfl,Ln,M _ _ O,h3,O3 _,Bb hp⟩ ?_ ?_⟩
 .rintro i σ H4 hi ⟨fl,v4',v5',v6',v7',v8',rfl,s4,wQ,z7,Mi,hw⟩;rw[ivn]at hi;have ea:(at':Int)+(i:Int)=((at'+i:Nat):Int):=by omega
  rw[ea];generalize hc:ns.getD (at'+i) 0=c;have gi:=gS i hi;rw[hc]at gi;refine⟨_,rfl,_,rfl,a,_,_,_,rfl,rfl,s4.seq hS,aV gi,_,_,rfl,rfl,⟨by decide,by decide⟩,_,_,rfl,rfl,(by show(0:Int)<40;decide),?_⟩;dsimp only;have g0:0<=c/1009%40:=R4 _ (by decide);obtain⟨spot,C5⟩:∃spot:Nat,c/1009%40=spot:=⟨(c/1009%40).toNat,by omega⟩
  rw[C5];refine⟨_,rfl,_,rfl,a,_,_,_,rfl,rfl,s4.seq hS,aV gi,_,_,rfl,rfl,(by show(0:Int)<16;decide),rfl,_,rfl,?_⟩;refine gv (λh1=>?_) (λh1=>?_)
  .refine⟨_,rfl,_,rfl,l,_,rfl,.inl (aM.of wQ),_,_,rfl,rfl,_,rfl,?_⟩;refine gv (λh2=>?_) (λh2=>?_)
   .have h2:=U6 h2;rw[aL]at h2;have Gm:spot<fl.length:=by omega
    have gx:fl[spot]?=YN (fl.getD spot 0):=ay.getD_get Gm;refine⟨_,rfl,_,rfl,D,_,_,_,rfl,rfl,aM.of z7,aV (c7 Gm),_,_,rfl,rfl,_,rfl,_,rfl,D,_,_,spot,rfl,rfl,z7,?_,?_⟩
    .rw[aL];unfold yN;rw[UZ (by omega),UZ (by omega),Pp]
    have nl:l≠D:=λe=>by
     have z:=s2.free hD;have:J l=YN (.lst (iV rs)):=O;rw[e,hD]at this;cases this
    refine⟨fl.set spot (0-fl.getD spot 0),_,_,_,_,_,rfl,s4.upd Mb,by rw[au nl];exact wQ,?_,by rw[Td];exact Mi,hw.flip gx⟩;rw[ag];unfold iV;rw[Uh]
   exact⟨fl,_,_,_,_,_,rfl,s4,wQ,z7,Mi,hw⟩
  exact fW ⟨fl,_,_,_,_,_,rfl,s4,wQ,z7,Mi,hw⟩
 rintro σ H4 ⟨fl,v4',v5',v6',v7',v8',rfl,s4,wQ,z7,Mi,hw⟩;exact⟨_,rfl,D,_,rfl,.inl z7,λt H5 s5 ht=>k t H5 fl (s4.trans s5) ht (by omega) (hw.fit (by omega))⟩
end
section
seal L2.sY L2.PS L2.PE L2.PT L2.PA
variable {P:U8}{w:Va}{K:Pc}{mg:Vl->Option UW}{base:Vi}
theorem pW{f:U0}{fd:Ve}(B:Bl mg)(F:Fn K mg "_law_put_in" d7 ["row","spot"] f fd):aT P w K mg base b7 1 f fd ["row","spot"] ay.yw:=by
 refine F.fn.ok gN (λvs H Q E h=>?_) (λjr A outer s H vs Q E hr h=>?_)
 .obtain⟨l,rs,spot,low,rfl,_⟩:=h
  rfl
 obtain⟨l,rs,spot,low,rfl,hl,hp,O,hrl,k⟩:=h;refine⟨_,(ai (aF (i:=2) gN.nd rfl (Or.inr rfl) (aP bf (pv 0) (pv 1) (λ_ _=>rfl)))
  (ai (dC (ix:=0) (NC:=["number","low"]) gN.nd rfl (Or.inl rfl) rfl (bO (c:=s.heap.objs.size+1) (j:=2) rfl (by decide +kernel) (by decide +kernel) rfl rfl rfl rfl rfl) (a9 (pv 0)) (λ_ _ _ _=>(aG (i:=0) (show(["number","low"]:List Vl).Nodup by decide +kernel) rfl (Or.inl rfl))) (λ_ _ _ _=>cf) (λ_ _ _ _=>(aD aQ (pv 0) (aD ie ao (a8 gR rfl B.int lU (af (b9 jE (pv 0) (pv 1) (aJ _)) ah))))))
  (ax (aX (aD fV (aD fV (du eW (pv 0) fJ (dR (pv 1))) (bJ (af (pv 2) (af (aD aQ (pv 2) ao) (af (aD aQ (pv 2) ao) (af (aD aQ (pv 2) ao) ah)))))) (du eW (pv 0) (dR (aD aQ (pv 1) ao)) fJ)))))),?_⟩
 have Gm:spot<rs.length:=(O2.mp O).1;have P4:=Hc (inner:=[low,low+2,low+1,low+3]) hp O (List.Perm.cons _ (List.Perm.swap _ _ _));refine⟨_,rfl,_,rfl,l,_,_,_,rfl,rfl,aM.of hl,aV (show(iV rs)[spot]?=YN (.int low) by unfold iV;rw[O7,O];rfl),?_⟩;refine⟨_,rfl,l,rfl,⟨_,aM.of hl⟩,λD hD=>bg (K:=K) (a:=l) (xs:=iV rs) (λj σ J=>∃v:Option V,σ=[v,YN (.int low)]/\av H J/\J D=YN (.lst (iV ((rs.take j).map (mW low))))) ⟨none,rfl,aj hD,ag⟩ (λj σ J _ zq=>by obtain⟨_,_,s3,_⟩:=zq;exact aM.of (s3 _ _ hl)) ?_ ?_⟩
 .rintro j y σ J hy ⟨v,rfl,s3,Z⟩;obtain⟨x,hx,rfl⟩:=bP hy;refine jB ?_;refine⟨_,rfl,_,rfl,_,rfl,_,_,rfl,rfl,.inr ⟨_,rfl,_,_,rfl,rfl,.inl ⟨by decide,by decide⟩,_,_,rfl,rfl,?_⟩⟩;refine⟨_,Z,aB (by rw[aL,O3,Pw];omega),_,rfl,s3.upd hD,?_⟩;rw[ag,ay.take_snoc hx,Ph,b6];congr 4;show V.int _=V.int _;congr 1;unfold mW;by_cases cc:x>low
  .rw[UZ cc,UZ (UU cc)]
  rw[UX cc,UX (by rw[U1 cc];decide)]
 rintro σ J ⟨v,rfl,s3,Z⟩;rw[aL,PQ]at Z;have ml:(rs.map (mW low)).length=rs.length:=O3 _;generalize rs.map (mW low)=z at Z P4 ml;have L:(iV z).length=rs.length:=by rw[aL,ml]
 refine⟨_,rfl,_,rfl,_,rfl,D,_,rfl,aM.of Z,λp1 C3=>?_⟩;rw[n4 (by rw[L];omega)];have s4:av J (upd J p1 (.lst ((iV z).take spot))):=aj C3;have h4:upd J p1 (.lst ((iV z).take spot)) p1=YN (.lst ((iV z).take spot)):=ag;generalize upd J p1 (.lst ((iV z).take spot))=H4 at s4 h4⊢;refine⟨_,rfl,_,rfl,_,_,rfl,rfl,_,rfl,_,_,rfl,rfl,_,rfl,_,_,rfl,rfl,by show 4<=U7;decide,λq hq=>?_⟩;have s5:av H4 (upd H4 q (.lst (iV [low,low+2,low+1,low+3]))):=aj hq;have h5:upd H4 q (.lst (iV [low,low+2,low+1,low+3])) q=YN (.lst (iV [low,low+2,low+1,low+3])):=ag;refine⟨p1,q,(iV z).take spot,iV [low,low+2,low+1,low+3],rfl,rfl,s5 _ _ h4,h5,Qx (aB (by rw[Pw,L,aL];show _+4<=_;omega)),λp2 M=>?_⟩;have M:upd H4 q (.lst (iV [low,low+2,low+1,low+3])) p2=none:=M
 change ∃_,_
 generalize hH5:upd H4 q (.lst (iV [low,low+2,low+1,low+3]))=H5 at s5 h5 M;have OD:upd H4 q (.lst [.int low,.int (low+2),.int (low+1),.int (low+3)])=H5:=hH5;rw[OD];have s6:av H5 (upd H5 p2 (.lst ((iV z).take spot++iV [low,low+2,low+1,low+3]))):=aj M;have h6:upd H5 p2 (.lst ((iV z).take spot++iV [low,low+2,low+1,low+3])) p2=YN (.lst ((iV z).take spot++iV [low,low+2,low+1,low+3])):=ag;generalize upd H5 p2 (.lst ((iV z).take spot++iV [low,low+2,low+1,low+3]))=H6 at s6 h6⊢;have Lo:=(s4.trans s5).trans s6;have e1:(spot:Int)+1=((spot+1:Nat):Int):=by omega
 refine⟨_,rfl,_,rfl,_,_,rfl,rfl,_,rfl,D,_,rfl,aM.of (Lo _ _ Z),λp3 Dl=>?_⟩;dsimp only;rw[e1,iR (by rw[L];omega)];have s7:av H6 (upd H6 p3 (.lst ((iV z).drop (spot+1)))):=aj Dl;refine⟨p2,p3,_,_,rfl,rfl,s7 _ _ h6,ag,Qx (aB (by rw[O9,Qo,Pw,aL [low,low+2,low+1,low+3],L];show _+4+_<=_;omega)),λp4 C4=>?_⟩;have e2:(iV z).take spot++iV [low,low+2,low+1,low+3]++(iV z).drop (spot+1)=iV (z.take spot++[low,low+2,low+1,low+3]++z.drop (spot+1)):=by
  rw[b6,b6];unfold iV;rw[Sr,RV]
 have el:(z.take spot++[low,low+2,low+1,low+3]++z.drop (spot+1)).length=rs.length+3:=by rw[O9,O9,Pw,Qo,ml];show _+4+_=_;omega
 exact k p4 _ (z.take spot++[low,low+2,low+1,low+3]++z.drop (spot+1)) ((((s3.trans Lo).trans s7)).trans (aj C4)) (by rw[ag,e2]) (by rw[el];exact P4) el
theorem sS{f f1:U0}{fd iJ:Ve}(B:Bl mg)(F:Fn K mg "_law_nests" gD ["cell"] f fd)(z:Fn K mg "_law_put_in" d7 ["row","spot"] f1 iJ):aT P w K mg base b7 2 f fd ["cell"] ay.yy:=by
 have J:aT P w K mg base b7 1 f1 iJ ["row","spot"] ay.yw:=pW B z;refine F.fn.ok cI (λvs H Q E h=>?_) (λjr A outer s H vs Q E hr h=>?_)
 .obtain⟨c,rfl,_⟩:=h
  rfl
 obtain⟨c,rfl,k⟩:=h;have g0:0<=c%4:=R4 _ (by decide);have g1:c%4<4:=SH _ (by decide);obtain⟨n,hn⟩:∃n:Nat,1+c%4=n:=⟨(1+c%4).toNat,by omega⟩
 let xs:List Int:=([4,3,2,1]:List Int).take n
 have xsl:xs.length<=4:=by show(([4,3,2,1]:List Int).take n).length<=4;rw[Pw];exact Nat.min_le_right _ _
 have xsb:∀x∈xs,0<=x/\x<=4:=λx hx=>by
  have:=So hx;simp only[Pu,Pf,or_false]at this;omega
 let Pv:U0->Nat->St->Hp->Prop:=λp i σ L=>∃(l:U0) (rs:List Int) (d:Int) (v:Option V),σ=[YN (.int c),YN (.ref l),YN (.int d),v]/\av H L/\L p=YN (.lst (iV xs))/\L l=YN (.lst (iV rs))/\rs.Perm (bH rs.length)/\6<=rs.length/\rs.length<=6+6*i
 let R1:TS:=λD σ L=>∃(i:Nat) (p l:U0) (rs:List Int) (d:Int) (v:Option V),σ=[YN (.int c),YN (.ref l),YN (.int d),v]/\av H L/\L p=YN (.lst (iV xs))/\L l=YN (.lst (iV rs))/\rs.Perm (bH rs.length)/\6<=rs.length/\rs.length<=12+6*i/\∀M H',Pv p (i+1) M H'->D.nx M H'
 refine⟨_,(ai (aF (i:=1) cI.nd rfl (Or.inl rfl) (bJ (af ao (af ao (af ao (af ao (af ao (af ao ah))))))))
  (ai (aF (i:=2) cI.nd rfl (Or.inl rfl) (aD ck (aD eU (pv 0) ao) ao))
  (ai (bG PassesOwn.never rfl (a9 (du eW (bJ (af ao (af ao (af ao (af ao ah))))) fJ (dR (aD aQ ao (aD ck (pv 0) ao))))) (aG (i:=3) cI.nd rfl (Or.inl rfl)) (ai (aF (i:=1) cI.nd rfl (Or.inl rfl) (br J z (hr.mono (by decide)) (af (pv 1) (af (pv 3) ah))))
  (ai (cK (aI dt (aD ck (pv 2) ao) ao (aJ _)) (ax (aF (i:=1) cI.nd rfl (Or.inl rfl) (br J z (hr.mono (by decide)) (af (pv 1) (af (aD aQ (pv 3) ao) ah))))) bo)
  (eG (R:=R1) λD σ L hR=>?rest))))
  (ax (aX (a8 cq rfl B.tuple gV (af (bN (NC:=["number"]) rfl (gz rfl (by decide +kernel) (by decide +kernel)) (a9 (pv 1)) (λ_ _ _ _=>(aG (i:=0) (show(["number"]:List Vl).Nodup by decide +kernel) rfl (Or.inl rfl))) (λ_ _ _ _=>cf) (λ_ _ _ _=>(aD aQ (pv 0) ao))) ah))))))),?_⟩
 case rest =>
  obtain⟨i,p,l,rs,d,v,rfl,s2,hp,hl,pm,h6,Z,hD⟩:=hR;refine⟨_,(ax (aF (i:=2) cI.nd rfl (Or.inl rfl) (aD eU (pv 2) ao))),?_⟩;refine⟨_,rfl,_,_,rfl,rfl,⟨by decide,by decide⟩,hD _ _ ⟨l,rs,_,v,rfl,s2,hp,hl,pm,h6,by omega⟩⟩
 refine⟨by show 6<=U7;decide,λl0 yB=>?_⟩;have s0:av H (upd H l0 (.lst (iV [0,2,4,1,3,5]))):=aj yB;have h0:upd H l0 (.lst (iV [0,2,4,1,3,5])) l0=YN (.lst (iV [0,2,4,1,3,5])):=ag;have ec:∀H5:Hp,H5=upd H l0 (.lst [.int 0,.int 2,.int 4,.int 1,.int 3,.int 5])->av H H5/\H5 l0=YN (.lst (iV [0,2,4,1,3,5])):=λH5 e=>by rw[e];exact⟨s0,h0⟩
 generalize eH:upd H l0 (.lst [.int 0,.int 2,.int 4,.int 1,.int 3,.int 5])=H1;obtain⟨s1,h1⟩:=ec H1 eH.symm;refine⟨_,rfl,_,_,rfl,rfl,⟨by decide,by decide⟩,_,_,rfl,rfl,(by show(0:Int)<16;decide),?_⟩;dsimp only;generalize c/4%16=d0;refine⟨by show 4<=U7;decide,λp0 Gn=>?_⟩;have s2:av H1 (upd H1 p0 (.lst (iV [4,3,2,1]))):=aj Gn;have u2:upd H1 p0 (.lst (iV [4,3,2,1])) p0=YN (.lst (iV [4,3,2,1])):=ag;generalize eH2:upd H1 p0 (.lst (iV [4,3,2,1]))=L at s2 u2;have OE:upd H1 p0 (.lst [.int 4,.int 3,.int 2,.int 1])=L:=eH2;rw[OE];have OF:jM (iV [4,3,2,1]) none (YN (1+c%4))=iV xs:=by
  rw[hn,n4 (by rw[aL];show n<=4;omega)];show _=iV (List.take n _);unfold iV;rw[Sr]
 refine⟨_,rfl,_,_,rfl,rfl,(by show(0:Int)<4;decide),_,_,rfl,rfl,1+c%4,rfl,p0,iV [4,3,2,1],rfl,aM.of u2,λp hp=>?_⟩;rw[OF];have O:av L (upd L p (.lst (iV xs))):=aj hp;have u3:upd L p (.lst (iV xs)) p=YN (.lst (iV xs)):=ag;generalize upd L p (.lst (iV xs))=H3 at O u3;have Mf:=(s1.trans s2).trans O;refine⟨p,rfl,⟨_,aM.of u3⟩,cM (K:=K) (a:=p) (xs:=iV xs) (Pv p) ⟨l0,[0,2,4,1,3,5],d0,none,rfl,Mf,u3,(s2.trans O) _ _ h1,by decide,O5 _,O5 _⟩ (λi σ H4 _ ⟨_,_,_,_,_,_,e,_⟩=>aM.of e) ?_ ?_⟩
 .rintro i x σ H4 hx ⟨l,rs,d,v,rfl,s4,C4,wQ,pm,h6,Z⟩;obtain⟨y,hy,rfl⟩:=bP hx;have D1:i<xs.length:=(O2.mp hy).1;have hb:=xsb y (Pj hy);obtain⟨sp,rfl⟩:∃sp:Nat,y=sp:=⟨y.toNat,by omega⟩
  have gs:rs[sp]?=YN (rs.getD sp 0):=ay.getD_get (by omega);refine⟨_,rfl,_,rfl,l,rs,sp,_,rfl,wQ,pm,gs,by omega,λr H5 ss s5 h5 pm5 l5=>?_⟩;refine⟨_,rfl,_,_,rfl,rfl,(by show(0:Int)<2;decide),rfl,_,rfl,?_⟩;refine gv (λh1=>?_) (λh1=>?_)
  .have gs5:ss[sp+1]?=YN (ss.getD (sp+1) 0):=ay.getD_get (by omega);have e1:(sp:Int)+1=((sp+1:Nat):Int):=by omega
   refine⟨_,rfl,_,rfl,_,_,rfl,rfl,?_⟩;dsimp only;rw[e1];refine⟨r,ss,sp+1,_,rfl,h5,pm5,gs5,by omega,λr6 H6 s's s6 Lp pm6 l6=>?_⟩;exact⟨i,p,r6,s's,d,_,rfl,(s4.trans s5).trans s6,(s5.trans s6) _ _ C4,Lp,pm6,by omega,by omega,λM H' h=>h⟩
  exact⟨i,p,r,ss,d,_,rfl,s4.trans s5,s5 _ _ C4,h5,pm5,by omega,by omega,λM H' h=>h⟩
 rintro σ H4 ⟨l,rs,d,v,rfl,s4,C4,hl,pm,h6,Z⟩;rw[aL]at Z;refine⟨_,rfl,l,rfl,⟨_,aM.of hl⟩,λD hD=>bg (K:=K) (a:=l) (xs:=iV rs) (λj σ H3=>∃v:Option V,σ=[v]/\av H4 H3/\H3 D=YN (.lst (iV ((rs.take j).map λx=>x+1)))) ⟨none,rfl,aj hD,ag⟩ (λj σ H3 _ zq=>by obtain⟨_,_,O,_⟩:=zq;exact aM.of (O _ _ hl)) ?_ ?_⟩
 .rintro j y σ H3 hy ⟨v,rfl,O,h3⟩;obtain⟨x,hx,rfl⟩:=bP hy;refine jB ?_;refine⟨_,rfl,_,_,rfl,rfl,_,h3,aB (by rw[aL,O3,Pw];omega),_,rfl,O.upd hD,?_⟩;rw[ag,ay.take_snoc hx,Ph,b6]
  rfl
 rintro σ H3 ⟨v,rfl,O,h3⟩;rw[aL,PQ]at h3;refine⟨D,_,rfl,.inl h3,λt H5 s5 ht=>?_⟩;exact k t H5 _ ((s4.trans O).trans s5) ht ((Bb pm).fit (by rw[O3];omega)) (by rw[O3];omega)
theorem pX{f:U0}{fd:Ve}(B:Bl mg)(F:Fn K mg "_law_blocks" cH ["labels"] f fd):aT P w K mg base b7 1 f fd ["labels"] ay.uU:=by
 refine F.fn.ok gO (λvs H Q E h=>?_) (λjr A outer s H vs Q E hr h=>?_)
 .obtain⟨l,ls,rfl,_⟩:=h
  rfl
 obtain⟨l,ls,rfl,hl,hn,k⟩:=h;have hu:=SU (hr.lt 0 (by decide));refine⟨_,(ai (aF (i:=1) gO.nd rfl (Or.inl rfl) (bJ ah))
  (ai (bG PassesOwn.never rfl (a9 (pv 0)) (aG (i:=2) gO.nd rfl (Or.inl rfl)) (ax (cK (PW.pt (Ar (aI (ou (K:=K) rfl hu) (pv 1) (bJ ah) (aJ _)) (vu (aI tH (aP bf (pv 1) (nQ jL ao) (λ_ _=>rfl)) (pv 2) (aJ _))))) (ax (dB (gU Qg QH QI dI (pv 1) (af (pv 2) ah)))) bo)))
  (ai (cK (PW.pt (fT (aI jE (aC aA rfl B.len aY (af (pv 1) ah)) ao (aJ _)) (eT (aI dt (aP bf (pv 1) ao (λ_ _=>rfl)) (aP bf (pv 1) (nQ jL ao) (λ_ _=>rfl)) (aJ _))))) (ax (dB (GQ Qg PySem.F.slot_list_pop PySem.F.type_list_pop GS (pv 1)))) bo)
  (ax (aX (pv 1)))))),?_⟩
 refine⟨by show 0<=U7;decide,λp hp=>?_⟩;have M:∀l:List Int,(iV l).length=l.length:=aL;refine⟨_,rfl,l,rfl,⟨_,aM.of (aj hp _ _ hl)⟩,cM (K:=K) (a:=l) (xs:=iV ls) (λi σ D=>∃v2:Option V,σ=[YN (.ref l),YN (.ref p),v2]/\av H D/\D p=YN (.lst (iV (cp (ls.take i))))) ⟨none,rfl,aj hp,ag⟩ (λi σ D _ zq=>by obtain⟨_,_,Z,_⟩:=zq;exact aM.of (Z _ _ hl)) ?_ ?_⟩
 .rintro i y σ D L ⟨v2,rfl,Z,J⟩;obtain⟨x,hx,rfl⟩:=bP L;have e3:cp (ls.take (i+1))=EM (cp (ls.take i)) x:=by rw[ay.take_snoc hx,ay.su]
  have cl:(cp (ls.take i)).length<=100:=PK (oZ _) (by rw[Pw];omega);generalize cp (ls.take i)=c at J e3 cl;refine⟨_,rfl,by show 0<=U7;decide,λem OG=>?_⟩;have s3:av D (upd D em (.lst [])):=aj OG;have u3:upd D em (.lst []) em=YN (.lst []):=ag;generalize upd D em (.lst [])=H3 at s3 u3;have h3:=s3 _ _ J;have put:¬c.getLast?=YN x->Fj (MX K "list" xm (Dt 1) (Fu (Dt 2) Jv)) ⟨λσ D=>∃v2:Option V,σ=[YN (.ref l),YN (.ref p),v2]/\av H D/\D p=YN (.lst (iV (cp (ls.take (i+1))))),λ_ _=>True,λ_ _=>True,λ_ _=>True⟩ [YN (.ref l),YN (.ref p),YN (.int x)] H3:=λh=>by
   refine⟨_,rfl,.inl ⟨rfl,_,aM.of h3⟩,_,rfl,p,_,_,rfl,rfl,h3,aB (by rw[aL];omega),?_⟩;refine⟨_,rfl,(Z.trans s3).upd hp,?_⟩;rw[ag,e3];unfold EM;rw[UX h,b6]
   rfl
  refine⟨p,em,_,rfl,rfl,aM.of h3,aM.of u3,_,rfl,?_⟩;rw[M];by_cases c0:c.length=0
  .refine eB (UU c0) ?_;exact put λz=>by rw[Qs.mp c0]at z;cases z
  refine eD (U1 c0) ?_;obtain⟨y,L⟩:∃y,c.getLast?=YN y:=⟨_,PV.trans (O1 (by omega))⟩
  refine⟨_,rfl,_,rfl,p,_,_,_,rfl,rfl,aM.of h3,ay.qW L,_,rfl,rfl,_,rfl,?_⟩;by_cases O:y=x
  .refine eD (by rw[UU (by rw[O])];rfl) ?_;refine⟨_,rfl,Z.trans s3,?_⟩;rw[e3];unfold EM;rw[L,O,UZ rfl];exact h3
  refine eB (by rw[U1 (by intro z;injection z with z;exact O z)];rfl) ?_;exact put λz=>by rw[L]at z;exact O (Option.some.inj z)
 rintro σ D ⟨v2,rfl,Z,J⟩;rw[M,PQ]at J;have cl:(cp ls).length<=100:=PK (oZ _) hn;have fin:∀H':Hp,av H H'->H' p=YN (.lst (iV (vo ls)))->Q (.ref p) H':=λH'=>k p H' hp;unfold vo at fin;generalize cp ls=c at J fin cl;refine⟨_,rfl,p,_,rfl,.inl (aM.of J),_,_,rfl,rfl,_,rfl,?_⟩;rw[M];by_cases c0:1<c.length
 .refine eB (UU (by omega)) ?_;obtain⟨y,L⟩:∃y,c.getLast?=YN y:=⟨_,PV.trans (O1 (by omega))⟩
  obtain⟨x,hx⟩:∃x,c.head?=YN x:=⟨_,Rv.trans (O1 (by omega))⟩
  have LK:(iV c)[0]?=YN (.int x):=by unfold iV;rw[O7,<-Rv,hx];rfl
  refine⟨_,rfl,p,_,_,_,rfl,rfl,aM.of J,aV (j:=0) LK,_,rfl,_,rfl,p,_,_,_,rfl,rfl,aM.of J,ay.qW L,rfl,_,rfl,?_⟩;by_cases O:x=y
  .refine eB (UU (by rw[O])) ?_;rw[UZ ⟨c0,by rw[hx,L,O]⟩]at fin;refine⟨_,rfl,.inl ⟨rfl,_,aM.of J⟩,p,_,.int y,rfl,rfl,J,?_,_,rfl,?_⟩
   .rw[M];unfold iV;rw[O7,<-PV,L]
    rfl
   refine fin _ (Z.upd hp) ?_;rw[ag];unfold iV;rw[List.map_dropLast]
  refine eD (U1 (by intro z;injection z with z;exact O z)) ?_;rw[UX (λz=>O (by have:=z.2;rw[hx,L]at this;exact Option.some.inj this))]at fin;exact⟨_,rfl,fin D Z J⟩
 refine eD (U1 (by omega)) ?_;rw[UX (λz=>c0 z.1)]at fin;exact fW ⟨_,rfl,fin D Z J⟩
theorem pf{f f1:U0}{fd iJ:Ve}(B:Bl mg)(F:Fn K mg "_law_hurdles" cU ["labels"] f fd)(J:Fn K mg "_law_blocks" cH ["labels"] f1 iJ):aT P w K mg base b7 2 f fd ["labels"] ay.qV:=by
 have L:aT P w K mg base b7 1 f1 iJ ["labels"] ay.uU:=pX B J;refine F.fn.ok jg (λvs H Q E h=>?_) (λjr A outer s H vs Q E hr h=>?_)
 .obtain⟨l,ls,rfl,_⟩:=h
  rfl
 obtain⟨l,ls,rfl,hl,hL,k⟩:=h;refine⟨_,(ai (aF (i:=1) jg.nd rfl (Or.inr rfl) (br L J (hr.mono (by decide)) (af (pv 0) ah)))
  (ax (aX (bN (NC:=["label","blocks"]) rfl (bO (c:=s.heap.objs.size+1) (j:=1) rfl (by decide +kernel) (by decide +kernel) rfl rfl rfl rfl rfl) (a9 (aC (pR (P:=P) (w:=w) rfl rfl rfl) rfl B.sorted js (af (a8 (wI (P:=P) (w:=w) rfl rfl rfl) rfl B.set B3 (af (pv 1) ah)) ah))) (λ_ _ _ _=>(aG (i:=0) (show(["label","blocks"]:List Vl).Nodup by decide +kernel) rfl (Or.inl rfl))) (λ_ _ _ _=>(cZ (by exact aI dt (HZ (K:=K) rfl Qg PySem.F.slot_list_count PySem.F.type_list_count zU (pv 1) (af (pv 0) ah)) ao (aJ _)))) (λ_ _ _ _=>(pv 0)))))),?_⟩
 refine⟨_,rfl,l,ls,rfl,hl,hL.1,λp H2 hp s2 h2=>?_⟩;have bl:(vo ls).length<=100:=PK (ay.EY ls) hL.1;have bm:∀x∈vo ls,x∈(PX 50).map Int.ofNat:=λx hx=>by
  obtain⟨a,b⟩:=hL.2 x (ay.EZ hx);exact O6.mpr ⟨x.toNat,Px.mpr (by omega),by show((x.toNat:Nat):Int)=x;omega⟩
 have fin:∀(q:U0) (H':Hp) (hs:List Int),H q=none->av H H'->H' q=YN (.lst (iV hs))->hs.Pairwise (· < ·)->(∀x,x∈hs↔(vo ls).count x=1)->Q (.ref q) H':=λq H' hs a1 a2 a3 a4 a5=>k q H' hs a1 a2 a3 ⟨a4,a5⟩;generalize vo ls=bs at h2 bl bm fin;refine⟨_,rfl,p,bs,rfl,h2,by omega,λq hq=>?_⟩;have s3:av H2 (upd H2 q (Df P w q bs)):=aj hq;have u3:upd H2 q (Df P w q bs) q=YN (Df P w q bs):=ag;refine⟨q,bs,_,rfl,u3,by rw[O3,PN];decide,bm,λZ ys qx asc mem=>?_⟩;generalize upd H2 q (Df P w q bs)=H3 at s3 qx;have s4:av H3 (upd H3 Z (.lst (ys.map V.int))):=aj qx;have u4:upd H3 Z (.lst (ys.map V.int)) Z=YN (.lst (iV ys)):=ag;generalize upd H3 Z (.lst (ys.map V.int))=H4 at s4 u4;have M:=s3.trans s4;refine⟨Z,rfl,⟨_,aM.of u4⟩,λD hD=>bg (K:=K) (a:=Z) (xs:=iV ys) (λi σ H5=>∃v:Option V,σ=[v,YN (.ref p)]/\av H4 H5/\H5 D=YN (.lst (iV ((ys.take i).filter λx=>decide (bs.count x=1))))) ⟨none,rfl,aj hD,ag⟩ (λi σ H5 _ zq=>by obtain⟨_,_,O,_⟩:=zq;exact aM.of (O _ _ u4)) ?_ ?_⟩
 .rintro i y σ H5 hy ⟨v,rfl,O,h5⟩;obtain⟨x,hx,rfl⟩:=bP hy;have e3:(ys.take (i+1)).filter (λx=>decide (bs.count x=1))=(ys.take i).filter (λx=>decide (bs.count x=1))++(if decide (bs.count x=1)=true then[x]else[]):=by
   rw[ay.take_snoc hx,Qd,Qq,Qt]
  have hp5:=O _ _ (M _ _ h2);have yl:ys.length<=50:=by
   have:=ay.eJ (l₂:=(PX 50).map Int.ofNat) (asc.imp λ{a b} h=>by omega) λx hx=>bm x ((mem x).mp hx);rwa[O3,PN]at this
  have fl:((ys.take i).filter λx=>decide (bs.count x=1)).length<=50:=PK (PJ _ _) (by rw[Pw];omega);refine⟨_,rfl,.inl ⟨rfl,_,aM.of hp5⟩,_,rfl,p,bs,x,rfl,rfl,hp5,rfl,_,rfl,?_⟩;by_cases c:bs.count x=1
  .refine eB (UU (by rw[c];rfl)) ?_;refine⟨_,rfl,_,h5,aB (by rw[aL];omega),_,rfl,O.upd hD,?_⟩;rw[ag,e3,UZ (UU c),b6]
   rfl
  refine eD (U1 (by intro z;injection z with z;exact c (by omega))) ?_;refine⟨_,rfl,O,?_⟩;rw[e3,UX (by rw[U1 c];decide),Qh];exact h5
 rintro σ H5 ⟨v,rfl,O,h5⟩;rw[aL,PQ]at h5;refine fin D H5 _ ((s2.trans M).free hD) ((s2.trans M).trans O) h5 (asc.sublist Qn) λx=>?_;rw[Pd,U9,mem];exact⟨λh=>h.2,λh=>⟨R3.mp (by omega),h⟩⟩
theorem jZ{f f1 f2:U0}{fd iJ pz:Ve}(B:Bl mg)(F:Fn K mg "_law_hurdle_cost" bY ["labels"] f fd)(J:Fn K mg "_law_hurdles" cU ["labels"] f1 iJ)(O:Fn K mg "_law_blocks" cH ["labels"] f2 pz):aT P w K mg base b7 3 f fd ["labels"] ay.k9:=by
 have L:aT P w K mg base b7 2 f1 iJ ["labels"] ay.qV:=pf B J O;refine F.fn.ok cJ (λvs H Q E h=>?_) (λjr A outer s H vs Q E hr h=>?_)
 .obtain⟨l,ls,rfl,_⟩:=h
  rfl
 obtain⟨l,ls,rfl,hl,hL,k⟩:=h;have hu:=SU (hr.lt 0 (by decide));refine⟨_,(ai (aF (i:=1) cJ.nd rfl (Or.inr rfl) (br L J (hr.mono (by decide)) (af (pv 0) ah)))
  (ai (bG PassesOwn.never rfl (a9 (pv 1)) (aG (i:=2) cJ.nd rfl (Or.inr rfl)) (ai (aF (i:=3) cJ.nd rfl (Or.inl rfl) (br L J (hr.mono (by decide)) (af (bN (NC:=["label","hurdle"]) rfl (bO (c:=s.heap.objs.size+2) (j:=2) rfl (by decide +kernel) (by decide +kernel) rfl rfl rfl rfl rfl) (a9 (pv 0)) (λ_ _ _ _=>(aG (i:=0) (show(["label","hurdle"]:List Vl).Nodup by decide +kernel) rfl (Or.inl rfl))) (λ_ _ _ _=>(cZ (aI tH (pv 0) (pv 1) (aJ _)))) (λ_ _ _ _=>(pv 0))) ah)))
  (ax (cK (aI (ou (K:=K) rfl hu) (bN (NC:=["label","hurdles"]) rfl (bO (c:=s.heap.objs.size+1) (j:=1) rfl (by decide +kernel) (by decide +kernel) rfl rfl rfl rfl rfl) (a9 (pv 3)) (λ_ _ _ _=>(aG (i:=0) (show(["label","hurdles"]:List Vl).Nodup by decide +kernel) rfl (Or.inl rfl))) (λ_ _ _ _=>(cZ (aI (uS (K:=K) rfl) (pv 0) (pv 1) (by with_unfolding_all rfl)))) (λ_ _ _ _=>(pv 0))) (bJ ah) (aJ _)) (ax (aX (aC aA rfl B.len aY (af (pv 1) ah)))) bo))))
  (ax (aX (aD aQ (aC aA rfl B.len aY (af (pv 1) ah)) (a8 gR rfl B.int lU (af (b9 dt (aD ck (aC aA rfl B.len aY (af (pv 1) ah)) ao) ao (aJ _)) ah))))))),?_⟩
 refine⟨_,rfl,l,ls,rfl,hl,hL,λp H2 M hp s2 h2 hA=>?_⟩;have hk:∀H':Hp,av H H'->Q (.int (CF ls M)) H':=λH' s'=>k H' M s' hA;have Gm:=hA.len hL;have Z:∀l:List Int,(iV l).length=l.length:=aL;refine⟨_,rfl,p,rfl,⟨_,aM.of h2⟩,cM (K:=K) (a:=p) (xs:=iV M) (λi σ H3=>∃v2 v3:Option V,σ=[YN (.ref l),YN (.ref p),v2,v3]/\av H2 H3/\∀h∈M.take i,¬sA ls M h) ⟨none,none,rfl,λ_ _ e=>e,λh hh=>U4 hh Pf⟩ (λi σ H3 _ zq=>by obtain⟨_,_,_,s3,_⟩:=zq;exact aM.of (s3 _ _ h2)) ?_ ?_⟩
 .rintro i y σ H3 hy ⟨v2,v3,rfl,s3,nb⟩;obtain⟨x,hx,rfl⟩:=bP hy;have u3:=s3 _ _ h2;have Ln:=s2.trans s3;have Aj:=Ln _ _ hl;refine⟨_,rfl,l,rfl,⟨_,aM.of Aj⟩,λD hD=>bg (K:=K) (a:=l) (xs:=iV ls) (λj σ H4=>∃v:Option V,σ=[v,YN (.int x)]/\av H3 H4/\H4 D=YN (.lst (iV ((ls.take j).filter λy=>!decide (y=x))))) ⟨none,rfl,aj hD,ag⟩ (λj σ H4 _ zq=>by obtain⟨_,_,s4,_⟩:=zq;exact aM.of (s4 _ _ Aj)) ?_ ?_⟩
  .rintro j y σ H4 hy ⟨v,rfl,s4,h4⟩;obtain⟨y,OH,rfl⟩:=bP hy;have e3:(ls.take (j+1)).filter (λy=>!decide (y=x))=(ls.take j).filter (λy=>!decide (y=x))++(if(!decide (y=x))=true then[y]else[]):=by
    rw[ay.take_snoc OH,Qd,Qq,Qt]
   have fl:((ls.take j).filter λy=>!decide (y=x)).length<=100:=PK (PJ _ _) (by rw[Pw];have:=hL.1;omega);refine⟨_,rfl,_,rfl,rfl,_,rfl,?_⟩;by_cases c:y=x
   .refine eD (by rw[UU (by rw[c])];rfl) ?_;refine⟨_,rfl,s4,?_⟩;rw[e3,UX (by rw[UU c];decide),Qh];exact h4
   refine eB (by rw[U1 (by intro z;injection z with z;exact c z)];rfl) ?_;refine⟨_,rfl,_,h4,aB (by rw[aL];omega),_,rfl,s4.upd hD,?_⟩;rw[ag,e3,UZ (by rw[U1 c];rfl),b6]
   rfl
  rintro σ H4 ⟨v,rfl,s4,h4⟩;rw[Z,PQ]at h4;have Lq:sA ls M x↔∀z,ay.yg (ls.filter λy=>!decide (y=x)) z->z∈M:=UP;have OI:=hL.Fh λy=>!decide (y=x);generalize ls.filter (λy=>!decide (y=x))=ms at h4 Lq OI;refine⟨D,ms,rfl,h4,OI,λq H5 qs hq s5 h5 OJ=>?_⟩;have ql:=OJ.len OI;have IW:=s4.trans s5;have u5:=IW _ _ u3;refine⟨_,rfl,q,rfl,⟨_,aM.of h5⟩,λD2 pT=>bg (K:=K) (a:=q) (xs:=iV qs) (λj σ H6=>∃v:Option V,σ=[v,YN (.ref p)]/\av H5 H6/\H6 D2=YN (.lst (iV ((qs.take j).filter λy=>!decide (y∈M))))) ⟨none,rfl,aj pT,ag⟩ (λj σ H6 _ zq=>by obtain⟨_,_,s6,_⟩:=zq;exact aM.of (s6 _ _ h5)) ?_ ?_⟩
  .rintro j y σ H6 hy ⟨v,rfl,s6,h6⟩;obtain⟨y,OH,rfl⟩:=bP hy;have e3:(qs.take (j+1)).filter (λy=>!decide (y∈M))=(qs.take j).filter (λy=>!decide (y∈M))++(if(!decide (y∈M))=true then[y]else[]):=by
    rw[ay.take_snoc OH,Qd,Qq,Qt]
   have fl:((qs.take j).filter λy=>!decide (y∈M)).length<=50:=PK (PJ _ _) (by rw[Pw];omega);refine⟨_,rfl,_,rfl,p,_,rfl,.inl (aM.of (s6 _ _ u5)),rfl,nL M,_,rfl,?_⟩;rw[UZ rfl,yp];by_cases c:y∈M
   .refine eD (by rw[UU c];rfl) ?_;refine⟨_,rfl,s6,?_⟩;rw[e3,UX (by rw[UU c];decide),Qh];exact h6
   refine eB (by rw[U1 c];rfl) ?_;refine⟨_,rfl,_,h6,aB (by rw[aL];omega),_,rfl,s6.upd pT,?_⟩;rw[ag,e3,UZ (by rw[U1 c];rfl),b6]
   rfl
  rintro σ H6 ⟨v,rfl,s6,h6⟩;rw[Z,PQ]at h6;refine⟨by show 0<=U7;decide,λem OG=>?_⟩;have s7:av H6 (upd H6 em (.lst [])):=aj OG;have u7:upd H6 em (.lst []) em=YN (.lst []):=ag;generalize upd H6 em (.lst [])=H7 at s7 u7;have OK:=IW.trans (s6.trans s7);refine⟨D2,em,_,rfl,rfl,aM.of (s7 _ _ h6),aM.of u7,_,rfl,?_⟩;rw[Z];have ze:(qs.filter λy=>!decide (y∈M)).length=0↔sA ls M x:=by
   rw[Qs,S9,Lq];constructor
   .intro h z hz;have:=h z ((OJ.2 z).mpr hz);by_cases c:z∈M
    .exact c
    rw[U1 c]at this;exact U4 rfl this
   intro h z hz;rw[UU (h z ((OJ.2 z).mp hz))];decide
  by_cases c:sA ls M x
  .refine eB (UU (ze.mpr c)) ?_;rw[ay.E1 (Pj hx) c]at hk;refine⟨_,rfl,p,_,rfl,.inl (aM.of (OK _ _ u3)),?_⟩;rw[Z];exact hk _ (Ln.trans OK)
  refine eD (U1 (λz=>c (ze.mp z))) ?_;refine⟨_,_,rfl,s3.trans OK,λh hh=>?_⟩;rw[ay.take_snoc hx]at hh;rcases Po.mp hh with hh|hh
  .exact nb h hh
  rw[O4.mp hh];exact c
 rintro σ H3 ⟨v2,v3,rfl,s3,nb⟩;rw[Z,PQ]at nb;rw[ay.Ib nb]at hk;have h3:=s3 _ _ h2;have hq:Q (.int ((M.length:Int)+(if decide (V.int ((M.length:Int)%2)=V.int 1)=true then 1 else 0))) H3:=by
  have z:=hk H3 (s2.trans s3);have e:((M.length+M.length%2:Nat):Int)=(M.length:Int)+(if decide (V.int ((M.length:Int)%2)=V.int 1)=true then 1 else 0):=by
   by_cases c:M.length%2=1
   .rw[UZ (UU (by congr 1;omega))];omega
   rw[UX (by rw[U1 (by intro z;injection z with z;omega)];decide)];omega
  rw[<-e];exact z
 rw[<-Z M]at hq;exact⟨_,rfl,p,_,rfl,.inl (aM.of h3),_,rfl,p,_,rfl,.inl (aM.of h3),_,_,rfl,rfl,(by show(0:Int)<2;decide),rfl,.inr ⟨_,rfl,_,_,rfl,rfl,hq⟩⟩
theorem nh{f:U0}{J:Ve}(B:Bl mg)(F:Fn K mg "_law_crossing" cz ["one","two"] f J):aT P w K mg base b7 1 f J ["one","two"] ay.o5:=by
 refine F.fn.ok m7 (λvs H Q E h=>?_) (λL A outer s H vs Q E V h=>?_)
 .obtain⟨a,b,p,q,rfl,_⟩:=h
  rfl
 obtain⟨a,b,p,q,rfl,M,O,k⟩:=h;refine⟨_,(ai (cK (aI dH (aP b5 (pv 0) ao (λ_ _=>rfl)) (aP b5 (pv 1) ao (λ_ _=>rfl)) (aJ _)) (ax (aX (Av (b9 dH (aP b5 (pv 1) ao (λ_ _=>rfl)) (aP b5 (pv 0) ao (λ_ _=>rfl)) (aJ _)) (Au (b9 dH (aP b5 (pv 0) ao (λ_ _=>rfl)) (aP b5 (pv 1) ao (λ_ _=>rfl)) (aJ _)))))) bo)
  (ax (aX (Av (b9 dH (aP b5 (pv 0) ao (λ_ _=>rfl)) (aP b5 (pv 1) ao (λ_ _=>rfl)) (aJ _)) (Au (b9 dH (aP b5 (pv 1) ao (λ_ _=>rfl)) (aP b5 (pv 0) ao (λ_ _=>rfl)) (aJ _))))))),?_⟩
 have sa:=b0.of (K:=K) M;have D:=b0.of (K:=K) O;have k:=k H λ_ _ e=>e;unfold IL at k;refine⟨_,rfl,a,_,_,_,rfl,rfl,sa,rfl,_,rfl,b,_,_,_,rfl,rfl,D,rfl,_,_,rfl,rfl,_,rfl,?_⟩;by_cases c:p.1<q.1
 .refine eB (UU c) ?_;rw[UZ c]at k;refine⟨_,rfl,b,_,_,_,rfl,rfl,D,rfl,_,rfl,a,_,_,_,rfl,rfl,sa,rfl,_,_,rfl,rfl,_,rfl,?_⟩;by_cases z:q.1<p.2
  .rw[UU z]at k;exact eB (UU z) ⟨_,rfl,a,_,_,_,rfl,rfl,sa,rfl,_,rfl,b,_,_,_,rfl,rfl,D,rfl,_,_,rfl,rfl,k⟩
  rw[U1 z]at k;exact eD (U1 z) k
 refine eD (U1 c) ?_;rw[UX c]at k;refine⟨_,rfl,a,_,_,_,rfl,rfl,sa,rfl,_,rfl,b,_,_,_,rfl,rfl,D,rfl,_,_,rfl,rfl,_,rfl,?_⟩;by_cases z:p.1<q.2
 .rw[UU z]at k;exact eB (UU z) ⟨_,rfl,b,_,_,_,rfl,rfl,D,rfl,_,rfl,a,_,_,_,rfl,rfl,sa,rfl,_,_,rfl,rfl,k⟩
 rw[U1 z]at k;exact eD (U1 z) k
theorem sT{f:U0}{fd:Ve}(B:Bl mg)(F:Fn K mg "_law_spots" fz ["row"] f fd):aT P w K mg base b7 1 f fd ["row"] ay.yq:=by
 refine F.fn.ok bZ (λvs H Q E h=>?_) (λjr A outer s H vs Q E hr h=>?_)
 .obtain⟨t,rs,rfl,_⟩:=h
  rfl
 obtain⟨t,rs,rfl,ht,fit,k⟩:=h;have hn:=fit.small;have L:∀l:List Int,(iV l).length=l.length:=aL;refine⟨_,(ai (aF (i:=1) bZ.nd rfl (Or.inl rfl) (bJ (af ao ah)))
  (ai (bG PassesOwn.never rfl (Aw (pv 0)) (aG (i:=2) bZ.nd rfl (Or.inl rfl)) (ai (aF (i:=3) bZ.nd rfl (Or.inl rfl) (bJ (af (aD eF (aD ie ao (aC eZ rfl B.abs iS (af (pv 2) ah))) ao) (af (aD ie ao (aC eZ rfl B.abs iS (af (pv 2) ah))) ah))))
  (ai (cK (aI dH (pv 2) ao (aJ _)) (ax (aF (i:=3) bZ.nd rfl (Or.inl rfl) (xt rfl rfl B.list rfl B.reversed (af (pv 3) ah)))) bo)
  (eG (R:=λD σ J=>∃(l q:U0) (i:Nat) (c:Int) (v4 v5:Option V),σ=[YN (.ref t),YN (.ref l),YN (.int c),YN (.ref q),v4,v5]/\av H J/\H l=none/\J l=YN (.lst (iV (c9 (2*i+1) (lM rs))))/\i<rs.length/\J q=YN (.lst (iV [lM rs (2*i+1),lM rs (2*i+2)]))/\∀O:Hp,av H O->O l=YN (.lst (iV (c9 (2*(i+1)+1) (lM rs))))->D.nx σ O) λD σ J hR=>?rest))))
  (ai (dB (gU Qg QH QI dI (pv 1) (af (aD aQ (aD ie ao (aC aA rfl B.len aY (af (pv 0) ah))) ao) ah)))
  (ai (aF (i:=4) bZ.nd rfl (Or.inl rfl) (aD AL (bJ (af ao ah)) (aC aA rfl B.len aY (af (pv 1) ah))))
  (ai (bG PassesOwn.never rfl (tW rfl B.enumerate (af (pv 1) ah)) (lP rfl (cL (aG (i:=5) bZ.nd rfl (Or.inl rfl)) (cL (aG (i:=2) bZ.nd rfl (Or.inl rfl)) jn))) (ax (rq (pv 5) (rn (pv 4) (pv 2) set_list))))
  (ax (aX (pv 4)))))))),?_⟩
 case rest =>
  obtain⟨l,q,i,c,v4,v5,rfl,s2,yB,hl,hi,hq,hD⟩:=hR;refine⟨_,(ax (dB (gU Qg SR SS qw (pv 1) (af (pv 3) ah)))),?_⟩;refine⟨_,rfl,.inl ⟨rfl,_,aM.of hl⟩,_,rfl,l,q,_,_,rfl,rfl,hl,hq,Qx (aB (by rw[L,L,bQ];show 2*i+1+2<=1000;omega)),?_⟩;refine hD _ (s2.upd yB) ?_;rw[ag,show 2*(i+1)+1=2*i+1+1+1 by omega,hW (2*i+1+1),hW (2*i+1),Rm,b6 (c9 (2*i+1) _)]
  rfl
 refine⟨by show 1<=U7;decide,λl hl=>?_⟩;have f0:lM rs 0=0:=rfl;refine⟨_,rfl,t,rfl,⟨_,b0.of (aj hl _ _ ht)⟩,Dv (K:=K) (a:=t) (xs:=iV rs) (λi σ J=>∃v2 v3:Option V,σ=[YN (.ref t),YN (.ref l),v2,v3,none,none]/\av H J/\J l=YN (.lst (iV (c9 (2*i+1) (lM rs))))) ⟨none,none,rfl,aj hl,ag⟩ (λi σ J _ ⟨_,_,_,s2,_⟩=>b0.of (s2 _ _ ht)) ?_ ?_⟩
 .rintro i y σ J Z ⟨v2,v3,rfl,s2,h2⟩;obtain⟨c,hc,rfl⟩:=bP Z;have hi:i<rs.length:=(O2.mp hc).1;have fc:(aw rs).getD (i+1) 0=c:=by
   show((rs++[(rs.length:Int)+1])).getD i 0=c;rw[Py,Pk hi,hc]
   rfl
  have e1:lM rs (2*i+1)=if c<0 then 2*aE c else 2*aE c-1:=by
   unfold lM;rw[UZ (by omega),show(2*i+1+1)/2=i+1 by omega,fc]
  have e2:lM rs (2*i+2)=if c<0 then 2*aE c-1 else 2*aE c:=by
   unfold lM;rw[UX (by omega),show(2*i+2+1)/2=i+1 by omega,fc]
  have ac:(if c<0 then -c else c)=aE c:=rfl;refine⟨_,rfl,_,rfl,_,_,rfl,rfl,.inl ⟨by decide,by decide⟩,_,_,rfl,rfl,_,rfl,_,rfl,_,_,rfl,rfl,.inl ⟨by decide,by decide⟩,by show 2<=U7;decide,λq hq=>?_⟩;dsimp only;rw[ac];have s3:av J (upd J q (.lst [.int (2*aE c-1),.int (2*aE c)])):=aj hq;have u3:upd J q (.lst [.int (2*aE c-1),.int (2*aE c)]) q=YN (.lst [.int (2*aE c-1),.int (2*aE c)]):=ag;generalize upd J q (.lst [.int (2*aE c-1),.int (2*aE c)])=O at s3 u3;refine⟨_,rfl,_,_,rfl,rfl,_,rfl,?_⟩;by_cases c0:c<0
  .refine eB (UU c0) ?_;rw[UZ c0]at e1 e2;refine⟨_,rfl,q,_,rfl,aM.of u3,λr C2=>?_⟩;have M:av O (upd O r (.lst [.int (2*aE c),.int (2*aE c-1)])):=aj C2;exact⟨l,r,i,c,_,_,rfl,(s2.trans s3).trans M,hl,M _ _ (s3 _ _ h2),hi,by rw[e1,e2];exact ag,λH4 M h4=>⟨_,_,rfl,M,h4⟩⟩
  refine eD (U1 c0) ?_;rw[UX c0]at e1 e2;exact⟨l,q,i,c,_,_,rfl,s2.trans s3,hl,s3 _ _ h2,hi,by rw[e1,e2];exact u3,λH4 M h4=>⟨_,_,rfl,M,h4⟩⟩
 rintro σ J ⟨v2,v3,rfl,s2,h2⟩;rw[L]at h2;refine⟨_,rfl,.inl ⟨rfl,_,aM.of h2⟩,_,rfl,t,_,rfl,.inr (b0.of (s2 _ _ ht)),_,_,rfl,rfl,.inl ⟨by decide,by decide⟩,_,_,rfl,rfl,l,_,_,rfl,rfl,h2,aB (by rw[L,bQ];omega),?_⟩;have nl:(iV rs).length=rs.length:=L rs;have e3:iV (c9 (2*rs.length+1) (lM rs))++[V.int (2*(((iV rs).length:Nat):Int)+1)]=iV (c9 (2*rs.length+2) (lM rs)):=by
  rw[nl,show 2*rs.length+2=2*rs.length+1+1 by omega,hW (2*rs.length+1),b6,ay.E3]
  rfl
 rw[e3];have s3:av H (upd J l (.lst (iV (c9 (2*rs.length+2) (lM rs))))):=s2.upd hl;have u3:upd J l (.lst (iV (c9 (2*rs.length+2) (lM rs)))) l=YN (.lst (iV (c9 (2*rs.length+2) (lM rs)))):=ag;generalize upd J l (.lst (iV (c9 (2*rs.length+2) (lM rs))))=O at s3 u3;have ll:(iV (c9 (2*rs.length+2) (lM rs))).length=2*rs.length+2:=by rw[L,bQ]
 refine⟨by show 1<=U7;decide,λz hz=>?_⟩;have M:av O (upd O z (.lst [.int 0])):=aj hz;have u4:upd O z (.lst [.int 0]) z=YN (.lst [.int 0]):=ag;generalize upd O z (.lst [.int 0])=H4 at M u4;refine⟨_,rfl,l,_,rfl,.inl (aM.of (M _ _ u3)),z,_,_,rfl,rfl,u4,by rw[ll];omega,by rw[ll];omega,by rw[ll,Pp];show 1*_<=_;rw[Vp];omega,λp hp=>?_⟩;rw[ll,Pp,wL];have s5:av H4 (upd H4 p (.lst (iV (c9 (2*rs.length+2) λ_=>0)))):=aj hp;have u5:upd H4 p (.lst (iV (c9 (2*rs.length+2) λ_=>0))) p=YN (.lst (iV (c9 (2*rs.length+2) λ_=>0))):=ag;have Gn:H p=none:=(s3.trans M).free hp;generalize upd H4 p (.lst (iV (c9 (2*rs.length+2) λ_=>0)))=H5 at s5 u5;have npl:l≠p:=λe=>by rw[<-e,M _ _ u3]at hp;cases hp
 have u35:=s5 _ _ (M _ _ u3);refine⟨_,rfl,l,rfl,⟨_,aM.of u35⟩,qA (K:=K) (a:=l) (xs:=iV (c9 (2*rs.length+2) (lM rs))) (λi σ H6=>∃(v2 v3 v5:Option V) (g:Nat->Int),σ=[YN (.ref t),YN (.ref l),v2,v3,YN (.ref p),v5]/\av H H6/\H6 l=YN (.lst (iV (c9 (2*rs.length+2) (lM rs))))/\H6 p=YN (.lst (iV (c9 (2*rs.length+2) g)))/\∀y,y<2*rs.length+2->wJ rs y<i->g y=(wJ rs y:Nat)) ⟨_,_,_,_,rfl,(s3.trans M).trans s5,u35,u5,λy _ h=>U4 h (QU _)⟩ (λi σ H6 _ ⟨_,_,_,_,_,_,h6,_⟩=>aM.of h6) ?_ ?_⟩
 .rintro i y tt σ H6 Z ⟨v2,v3,v5,g,rfl,s6,hl6,OL,hg⟩ zZ;have hi:i<2*rs.length+2:=by rw[<-ll];exact(O2.mp Z).1
  rw[gg hi]at Z;cases Z;obtain⟨y0,hy0,ey,es⟩:=ay.KR fit hi;rw[ey];have s7:av H6 (upd H6 tt (.tup [.int i,.int (y0:Nat)])):=aj zZ;have u7:upd H6 tt (.tup [.int i,.int (y0:Nat)]) tt=YN (.tup [.int i,.int (y0:Nat)]):=ag;generalize upd H6 tt (.tup [.int i,.int (y0:Nat)])=H7 at s7 u7;refine⟨tt,_,rfl,b0.of u7,rfl,_,_,rfl,_,_,rfl,rfl,?_⟩;refine⟨_,rfl,_,rfl,_,rfl,p,_,_,y0,rfl,rfl,s7 _ _ OL,?_,?_⟩
  .rw[L,bQ];exact sC hy0
  refine⟨_,_,_,λj=>if j=y0 then(i:Int)else g j,rfl,(s6.trans s7).upd Gn,by rw[au npl];exact s7 _ _ hl6,?_,λy Z h=>?_⟩
  .rw[ag,sD,nI]
  show(if y=y0 then(i:Int)else g y)=_;by_cases c:y=y0
  .rw[UZ c,c,es]
  rw[UX c];refine hg y Z ?_;have:wJ rs y≠i:=λz=>c (ay.Ic fit Z hy0 (z.trans es.symm));omega
 rintro σ H6 ⟨v2,v3,v5,g,rfl,s6,hl6,OL,hg⟩;rw[ll]at hg;refine⟨_,rfl,k p H6 Gn s6 ?_⟩;rw[OL];unfold o4;rw[hX λy Z=>hg y Z (ay.KS fit Z)]
theorem sU{f f1:U0}{fd iJ:Ve}(B:Bl mg)(F:Fn K mg "_law_kinds" fA ["arcs"] f fd)(J:Fn K mg "_law_crossing" cz ["one","two"] f1 iJ):aT P w K mg base b7 2 f fd ["arcs"] ay.qX:=by
 have L:aT P w K mg base b7 1 f1 iJ ["one","two"] ay.o5:=nh B J;refine F.fn.ok d8 (λvs H Q E h=>?_) (λjr A outer s H vs Q E hr h=>?_)
 .obtain⟨l,rs,rfl,_⟩:=h
  rfl
 obtain⟨l,rs,rfl,hT,fit,k⟩:=h;have hn:=fit.small;have j6:∀l:List Int,(iV l).length=l.length:=aL;have il:∀f:Nat->Int,(iV (c9 (rs.length+1) f)).length=rs.length+1:=λf=>by rw[j6,bQ]
 refine⟨_,(ai (aF (i:=1) d8.nd rfl (Or.inr rfl) (a8 (jG rfl) rfl B.list gA (af (a8 qz rfl B.range tT (af (aC aA rfl B.len aY (af (pv 0) ah)) ah)) ah)))
  (ai (bG PassesOwn.never rfl (cg rfl B.range (af (aC aA rfl B.len aY (af (pv 0) ah)) ah)) (aG (i:=2) d8.nd rfl (Or.inr rfl)) (ax (bG PassesOwn.never rfl (cg rfl B.range (af (pv 2) ah)) (aG (i:=3) d8.nd rfl (Or.inr rfl)) (ax (cK (PW.pt (fT (aI tH (aP (fh (K:=K) rfl) (pv 1) (pv 2) (λ_ _=>rfl)) (aP (fh (K:=K) rfl) (pv 1) (pv 3) (λ_ _=>rfl)) (aJ _)) (eT (nO (br L J (hr.mono (by decide)) (af (aP bf (pv 0) (pv 2) (λ_ _=>rfl)) (af (aP bf (pv 0) (pv 3) (λ_ _=>rfl)) ah))))))) (ax (aF (i:=1) d8.nd rfl (Or.inr rfl) (bN (NC:=["mark","two","one","marks"]) rfl (rN (pre:=["mark"]) [("two",s.heap.objs.size+3,3),("one",s.heap.objs.size+2,2),("marks",s.heap.objs.size+1,1)] ["two","one","marks"] rfl rfl (by decide +kernel) (by decide +kernel) rfl (dM ⟨rfl,rfl,rfl,rfl⟩ (dM ⟨rfl,rfl,rfl,rfl⟩ (dM ⟨rfl,rfl,rfl,rfl⟩ om)))) (a9 (pv 1)) (λ_ _ _ _=>(aG (i:=0) (show(["mark","two","one","marks"]:List Vl).Nodup by decide +kernel) rfl (Or.inl rfl))) (λ_ _ _ _=>cf) (λ_ _ _ _=>(iM (aI dt (pv 0) (aP (fh (K:=K) rfl) (pv 3) (pv 2) (λ_ _=>rfl)) (aJ _)) (aP (fh (K:=K) rfl) (pv 3) (pv 1) (λ_ _=>rfl)) (pv 0)))))) bo)))))
  (ax (aX (pv 1))))),?_⟩
 obtain⟨Z,h1,h2,h3⟩:=id hT;rw[hZ]at h2;have tl:(Z.map V.ref).length=rs.length+1:=by rw[O3,h2]
 refine⟨_,rfl,l,_,rfl,.inl (aM.of h1),_,rfl,λr0 OM=>?_⟩;have s1:av H (upd H r0 (.j4 0 (((Z.map V.ref).length:Nat):Int))):=aj OM;have u1:upd H r0 (.j4 0 (((Z.map V.ref).length:Nat):Int)) r0=YN (.j4 0 (((Z.map V.ref).length:Nat):Int)):=ag;generalize upd H r0 (.j4 0 (((Z.map V.ref).length:Nat):Int))=H1 at s1 u1;rw[tl]at u1;refine⟨r0,_,_,rfl,u1,⟨by omega,by omega,by omega,by omega⟩,by omega,λl0 yB=>?_⟩;rw[ay.yr];have M:av H (upd H1 l0 (.lst (iV (c9 (rs.length+1) λx=>ay.mk [] (x:Int))))):=s1.trans (aj yB);have Lr:∀{H':Hp},av H H'->∀{k:Nat},k<rs.length+1->∃t,qt (Z.map V.ref) (k:Int)=YN (.ref t)/\H' t=YN (.tup (ay.pr (m5 rs k))):=λ{H'} s' {k} hk=>by
  have e:=O1 (l:=Z) (i:=k) (by omega);exact⟨Z[k],aV (by rw[O7,e];rfl),s' _ _ (h3 k _ _ e (nJ hk))⟩
 refine⟨_,rfl,l,_,rfl,.inl (aM.of (M _ _ h1)),_,rfl,by rw[tl];omega,by rw[tl];omega,cS (lo:=0) (n:=(((Z.map V.ref).length:Nat):Int).toNat) (λi σ O=>∃(p:U0) (ps:List (Int×Int)) (v2 v3:Option V),σ=[YN (.ref l),YN (.ref p),v2,v3]/\av H O/\H p=none/\O p=YN (.lst (iV (c9 (rs.length+1) λx=>ay.mk ps (x:Int))))/\sZ rs ps i 0) ⟨l0,[],none,none,rfl,M,s1.free yB,ag,.nil⟩ ?_ ?_⟩
 .rintro i σ O hi ⟨p,ps,v2,v3,rfl,M,hp,LU,I0⟩;rw[tl,Pp]at hi;have ei:(0:Int)+(i:Int)=(i:Int):=by omega
  rw[ei];refine⟨_,rfl,_,rfl,by omega,by omega,cS (lo:=0) (n:=(i:Int).toNat) (λj σ O=>∃(p:U0) (ps:List (Int×Int)) (v3:Option V),σ=[YN (.ref l),YN (.ref p),YN (.int i),v3]/\av H O/\H p=none/\O p=YN (.lst (iV (c9 (rs.length+1) λx=>ay.mk ps (x:Int))))/\sZ rs ps i j) ⟨p,ps,_,rfl,M,hp,LU,I0⟩ ?_ ?_⟩
  .rintro j σ O hj ⟨p,ps,v3,rfl,M,hp,hq,I⟩;rw[Pp]at hj;have ej:(0:Int)+(j:Int)=(j:Int):=by omega
   rw[ej];have Mj:j<rs.length+1:=by omega
   have gi:=gg (f:=λx=>ay.mk ps (x:Int)) hi;have gj:=gg (f:=λx=>ay.mk ps (x:Int)) Mj;refine⟨_,rfl,_,rfl,p,_,_,_,rfl,rfl,aM.of hq,aV gi,_,rfl,_,rfl,p,_,_,_,rfl,rfl,aM.of hq,aV gj,rfl,_,rfl,?_⟩;by_cases c:ay.mk ps (i:Int)=ay.mk ps (j:Int)
   .refine eD (by rw[UU (by rw[c])];rfl) ?_;exact fW ⟨p,ps,_,rfl,M,hp,hq,I.skip λ_=>c⟩
   refine eB (by rw[U1 (by intro z;injection z with z;exact c z)];rfl) ?_;obtain⟨ta,a1,a2⟩:=Lr M hi;obtain⟨tb,b1,b2⟩:=Lr M Mj;refine⟨_,rfl,_,rfl,l,_,_,_,rfl,rfl,aM.of (M _ _ h1),a1,_,rfl,_,rfl,l,_,_,_,rfl,rfl,aM.of (M _ _ h1),b1,ta,tb,_,_,rfl,a2,b2,λH3 s3=>⟨_,rfl,?_⟩⟩;have cr:=ay.E4 fit hi Mj (by omega);have Ml:=s3 _ _ hq;cases cb:IL (m5 rs i) (m5 rs j)with
   |false=>exact fW ⟨p,ps,_,rfl,M.trans s3,hp,Ml,I.skip λz=>by rw[cr.mpr z]at cb;cases cb⟩
   |true =>
    refine rD ?_;refine⟨_,rfl,p,rfl,⟨_,aM.of Ml⟩,λD hD=>bg (K:=K) (a:=p) (xs:=iV (c9 (rs.length+1) λx=>ay.mk ps (x:Int))) (λm σ H4=>∃v:Option V,σ=[v,YN (.int j),YN (.int i),YN (.ref p)]/\av H3 H4/\H4 D=YN (.lst (iV (c9 m λx=>ay.mk (ps++[((j:Int),(i:Int))]) (x:Int))))) ⟨none,rfl,aj hD,ag⟩ (λm σ H4 _ zq=>by obtain⟨_,_,s4,_⟩:=zq;exact aM.of (s4 _ _ Ml)) ?_ ?_⟩
    .rintro m y σ H4 hy ⟨v,rfl,s4,h4⟩;have hm:m<rs.length+1:=by have z:=(O2.mp hy).1;rw[il]at z;exact z
     rw[gg hm]at hy;cases hy;have Ls:=s4 _ _ Ml;refine jB ?_;refine⟨_,rfl,_,rfl,_,rfl,p,_,_,_,rfl,rfl,aM.of Ls,aV gi,rfl,_,rfl,?_⟩;have e5:ay.mk (ps++[((j:Int),(i:Int))]) (m:Int)=if ay.mk ps (m:Int)=ay.mk ps (i:Int)then ay.mk ps (j:Int)else ay.mk ps (m:Int):=by rw[gB];rfl
     have out:∀z:Int,z=ay.mk (ps++[((j:Int),(i:Int))]) (m:Int)->∃ys,H4 D=YN (.lst ys)/\ys.length<U7/\∃v:Option V,[YN (.int (ay.mk ps (m:Int))),YN (.int j),YN (.int i),YN (.ref p)]=[v,YN (.int j),YN (.int i),YN (.ref p)]/\av H3 (upd H4 D (.lst (ys++[.int z])))/\upd H4 D (.lst (ys++[.int z])) D=YN (.lst (iV (c9 (m+1) λx=>ay.mk (ps++[((j:Int),(i:Int))]) (x:Int)))):=λz ez=>by
      refine⟨_,h4,aB (by rw[j6,bQ];omega),_,rfl,s4.upd hD,?_⟩;rw[ag,hW,b6,ez]
      rfl
     by_cases cc:ay.mk ps (m:Int)=ay.mk ps (i:Int)
     .refine eB (UU (by rw[cc])) ?_;rw[UZ cc]at e5;exact⟨_,rfl,_,rfl,p,_,_,_,rfl,rfl,aM.of Ls,aV gj,out _ e5.symm⟩
     refine eD (U1 (by intro z;injection z with z;exact cc z)) ?_;rw[UX cc]at e5;exact⟨_,rfl,out _ e5.symm⟩
    rintro σ H4 ⟨v,rfl,s4,h4⟩;rw[il]at h4;exact⟨D,_,_,rfl,(M.trans s3).trans s4,(M.trans s3).free hD,h4,I.add hi Mj (cr.mp cb)⟩
  rintro σ O ⟨p,ps,v3,rfl,M,hp,hq,I⟩;rw[Pp]at I;exact⟨p,ps,_,_,rfl,M,hp,hq,I.next⟩
 rintro σ O ⟨p,ps,v2,v3,rfl,M,hp,hq,I⟩;rw[tl,Pp]at I;exact⟨_,rfl,k p O _ hp M hq ⟨λa b ha hb=>I.iff ha hb,λa ha=>I.j4 ha⟩⟩
theorem lz{f:U0}{fd:Ve}(B:Bl mg)(F:Fn K mg "_law_ring_count" cA ["row"] f fd):aT P w K mg base b7 1 f fd ["row"] ay.mL:=by
 refine F.fn.ok a6 (λvs H Q E h=>?_) (λjr A outer s H vs Q E hr h=>?_)
 .obtain⟨t,rs,rfl,_⟩:=h
  rfl
 obtain⟨t,rs,rfl,ht,fit,k⟩:=h;have hn:=fit.small;have hu:=SU (hr.lt 0 (by decide));have J:∀l:List Int,(iV l).length=l.length:=aL;have il:∀f:Nat->Int,(iV (c9 (rs.length+1) f)).length=rs.length+1:=λf=>by rw[J,bQ]
 refine⟨_,(ai (aF (i:=1) a6.nd rfl (Or.inl rfl) (aD fV (aD fV (bJ (af ao ah)) (a8 fK rfl B.list gA (af (pv 0) ah))) (bJ (af (aD aQ (aC aA rfl B.len aY (af (pv 0) ah)) ao) ah))))
  (ai (dC (ix:=2) (NC:=["number"]) a6.nd rfl (Or.inl rfl) rfl (gz rfl (by decide +kernel) (by decide +kernel)) (a9 (pv 1)) (λ_ _ _ _=>(aG (i:=0) (show(["number"]:List Vl).Nodup by decide +kernel) rfl (Or.inl rfl))) (λ_ _ _ _=>cf) (λ_ _ _ _=>(aC eZ rfl B.abs iS (af (pv 0) ah))))
  (ai (aF (i:=3) a6.nd rfl (Or.inr rfl) (a8 (jG rfl) rfl B.list gA (af (a8 qz rfl B.range tT (af (aD aQ (aC aA rfl B.len aY (af (pv 0) ah)) ao) ah)) ah)))
  (ai (bG PassesOwn.never rfl (cg rfl B.range (af (aD aQ (aC aA rfl B.len aY (af (pv 0) ah)) ao) ah)) (aG (i:=4) a6.nd rfl (Or.inl rfl)) (ai (aF (i:=5) a6.nd rfl (Or.inl rfl) (gU Qg S3 S4 (tX hu) (pv 2) (af (pv 4) ah)))
  (ai (aF (i:=6) a6.nd rfl (Or.inl rfl) (gU Qg S3 S4 (tX hu) (pv 2) (af (aD aQ (pv 4) ao) ah)))
  (ai (aF (i:=7) a6.nd rfl (Or.inr rfl) (aD eF (pv 5) (a8 gR rfl B.int lU (af (b9 dH (aP bf (pv 1) (pv 5) (λ_ _=>rfl)) ao (aJ _)) ah))))
  (ai (aF (i:=8) a6.nd rfl (Or.inr rfl) (aD eF (pv 6) (a8 gR rfl B.int lU (af (b9 Fs (aP bf (pv 1) (pv 6) (λ_ _=>rfl)) ao (aJ _)) ah))))
  (ax (aF (i:=3) a6.nd rfl (Or.inr rfl) (bN (NC:=["mark","two","one","marks"]) rfl (rN (pre:=["mark"]) [("two",s.heap.objs.size+3,8),("one",s.heap.objs.size+2,7),("marks",s.heap.objs.size+1,3)] ["two","one","marks"] rfl rfl (by decide +kernel) (by decide +kernel) rfl (dM ⟨rfl,rfl,rfl,rfl⟩ (dM ⟨rfl,rfl,rfl,rfl⟩ (dM ⟨rfl,rfl,rfl,rfl⟩ om)))) (a9 (pv 3)) (λ_ _ _ _=>(aG (i:=0) (show(["mark","two","one","marks"]:List Vl).Nodup by decide +kernel) rfl (Or.inl rfl))) (λ_ _ _ _=>cf) (λ_ _ _ _=>(iM (aI dt (pv 0) (aP (fh (K:=K) rfl) (pv 3) (pv 1) (λ_ _=>rfl)) (aJ _)) (aP (fh (K:=K) rfl) (pv 3) (pv 2) (λ_ _=>rfl)) (pv 0)))))))))))
  (ax (aX (aC zM rfl B.len aY (af (a8 (zK rfl) rfl B.set B3 (af (pv 3) ah)) ah)))))))),?_⟩
 refine⟨by show 1<=U7;decide,λp0 Gn=>?_⟩;have s1:av H (upd H p0 (.lst [.int 0])):=aj Gn;have u1:upd H p0 (.lst [.int 0]) p0=YN (.lst [.int 0]):=ag;generalize upd H p0 (.lst [.int 0])=H1 at s1 u1;refine⟨_,rfl,t,_,rfl,.inr (b0.of (s1 _ _ ht)),λp1 C3=>?_⟩;have s2:av H1 (upd H1 p1 (.lst (iV rs))):=aj C3;have u2:upd H1 p1 (.lst (iV rs)) p1=YN (.lst (iV rs)):=ag;generalize upd H1 p1 (.lst (iV rs))=H2 at s2 u2;refine⟨p0,p1,_,_,rfl,rfl,s2 _ _ u1,u2,Qx (aB (by rw[J];show 1+_<=1000;omega)),λp2 Gk=>?_⟩;have s3:av H2 (upd H2 p2 (.lst ([.int 0]++iV rs))):=aj Gk;have u3:upd H2 p2 (.lst ([.int 0]++iV rs)) p2=YN (.lst ([.int 0]++iV rs)):=ag;generalize upd H2 p2 (.lst ([.int 0]++iV rs))=H3 at s3 u3;have s13:=(s1.trans s2).trans s3;refine⟨_,rfl,t,_,rfl,.inr (b0.of (s13 _ _ ht)),_,_,rfl,rfl,by show 1<=U7;decide,λp3 Dl=>?_⟩;have M:av H3 (upd H3 p3 (.lst [.int (((iV rs).length:Nat)+1)])):=aj Dl;have u4:upd H3 p3 (.lst [.int (((iV rs).length:Nat)+1)]) p3=YN (.lst [.int (((iV rs).length:Nat)+1)]):=ag;generalize upd H3 p3 (.lst [.int (((iV rs).length:Nat)+1)])=H4 at M u4;refine⟨p2,p3,_,_,rfl,rfl,M _ _ u3,u4,Qx (aB (by rw[O9,J];show 1+_+1<=1000;omega)),λO C4=>?_⟩;have e4:([.int 0]++iV rs)++[V.int (((iV rs).length:Nat)+1)]=iV (aw rs):=by
  rw[J];unfold aw iV;rw[Qk,Ph]
  rfl
 rw[e4];have s5:av H4 (upd H4 O (.lst (iV (aw rs)))):=aj C4;have u5:upd H4 O (.lst (iV (aw rs))) O=YN (.lst (iV (aw rs))):=ag;generalize upd H4 O (.lst (iV (aw rs)))=H5 at s5 u5;have s15:=(s13.trans M).trans s5;refine⟨_,rfl,O,rfl,⟨_,aM.of u5⟩,λD hD=>bg (K:=K) (a:=O) (xs:=iV (aw rs)) (λm σ L=>∃v:Option V,σ=[v]/\av H5 L/\L D=YN (.lst (iV (a7 ((aw rs).take m))))) ⟨none,rfl,aj hD,ag⟩ (λm σ L _ zq=>by obtain⟨_,_,s6,_⟩:=zq;exact aM.of (s6 _ _ u5)) ?_ ?_⟩
 .rintro m y σ L hy ⟨v,rfl,s6,h6⟩;obtain⟨x,hx,rfl⟩:=bP hy;have fl:=aW rs;refine jB ?_;refine⟨_,rfl,_,rfl,_,h6,aB (by rw[J,cu,Pw];omega),_,rfl,s6.upd hD,?_⟩;rw[ag,ay.take_snoc hx];unfold a7;rw[Ph,b6]
  rfl
 rintro σ L ⟨v,rfl,s6,h6⟩;rw[J,PQ]at h6;have ON:=s15.trans s6;have u6:=s6 _ _ u5;have fl:=aW rs;have nl:(((iV rs).length:Nat):Int)+1=((rs.length+1:Nat):Int):=by rw[J];omega
 refine⟨_,rfl,t,_,rfl,.inr (b0.of (ON _ _ ht)),_,_,rfl,rfl,_,rfl,λr0 OM=>?_⟩;dsimp only;rw[nl];have s7:av L (upd L r0 (.j4 0 ((rs.length+1:Nat):Int))):=aj OM;have u7:upd L r0 (.j4 0 ((rs.length+1:Nat):Int)) r0=YN (.j4 0 ((rs.length+1:Nat):Int)):=ag;generalize upd L r0 (.j4 0 ((rs.length+1:Nat):Int))=H7 at s7 u7;refine⟨r0,_,_,rfl,u7,⟨by omega,by omega,by omega,by omega⟩,by omega,λl0 yB=>?_⟩;rw[ay.yr];have s8:av H (upd H7 l0 (.lst (iV (c9 (rs.length+1) λx=>ay.mk [] (x:Int))))):=(ON.trans s7).trans (aj yB);have s68:av L (upd H7 l0 (.lst (iV (c9 (rs.length+1) λx=>ay.mk [] (x:Int))))):=s7.trans (aj yB);refine⟨_,rfl,t,_,rfl,.inr (b0.of (s8 _ _ ht)),_,_,rfl,rfl,((rs.length+1:Nat):Int),(by show[V.int ((((iV rs).length:Nat):Int)+1)]=_;rw[nl]),by omega,by omega,cS (lo:=0) (n:=((rs.length+1:Nat):Int).toNat) (λi σ H9=>∃(p:U0) (v4 v5 v6 v7 v8:Option V),σ=[YN (.ref t),YN (.ref O),YN (.ref D),YN (.ref p),v4,v5,v6,v7,v8]/\av L H9/\H9 p=YN (.lst (iV (c9 (rs.length+1) λx=>ay.mk ((bD rs).take i) (x:Int))))) ⟨l0,_,_,_,_,_,rfl,s68,ag⟩ ?_ ?_⟩
 .rintro i σ H9 hi ⟨p,v4,v5,v6,v7,v8,rfl,s9,hq⟩;rw[Pp]at hi;have ei:(0:Int)+(i:Int)=(i:Int):=by omega
  rw[ei];obtain⟨a1,a2⟩:=CT fit (show i<rs.length+2 by omega);obtain⟨b1,b2⟩:=CT fit (show i+1<rs.length+2 by omega);have ek:((i+1:Nat):Int)=(i:Int)+1:=by omega
  rw[ek]at b1 b2;have pa:=(bw fit (show i<rs.length+2 by omega)).1;have pb:=(bw fit (show i+1<rs.length+2 by omega)).1;have hA:=s9 _ _ h6;have hN:=s9 _ _ u6;obtain⟨x,y,e1,e2,hx,hy⟩:=ay.E6 fit hi;refine⟨_,rfl,.inl ⟨rfl,_,aM.of hA⟩,_,rfl,D,_,bC rs i,(i:Int),rfl,rfl,hA,a1,a2,?_⟩;refine⟨_,rfl,.inl ⟨rfl,_,aM.of hA⟩,_,rfl,_,_,rfl,rfl,D,_,bC rs (i+1),(i:Int)+1,rfl,rfl,hA,b1,b2,?_⟩;refine⟨_,rfl,_,rfl,_,rfl,O,_,_,_,rfl,rfl,aM.of hN,aV (c7 (by rw[fl];exact pa)),_,_,rfl,rfl,.inr ⟨_,rfl,_,_,rfl,rfl,?_⟩⟩;dsimp only;rw[ay.KU,e1];refine⟨_,rfl,_,rfl,_,rfl,O,_,_,_,rfl,rfl,aM.of hN,aV (c7 (by rw[fl];exact pb)),_,_,rfl,rfl,.inr ⟨_,rfl,_,_,rfl,rfl,?_⟩⟩;dsimp only;rw[ay.KW,e2];have gx:=gg (f:=λx=>ay.mk ((bD rs).take i) (x:Int)) hx;have gy:=gg (f:=λx=>ay.mk ((bD rs).take i) (x:Int)) hy;have et:=ay.zV hi;rw[e1,e2]at et;rw[et];generalize(bD rs).take i=ps at hq gx gy;refine⟨_,rfl,p,rfl,⟨_,aM.of hq⟩,λD2 pT=>bg (K:=K) (a:=p) (xs:=iV (c9 (rs.length+1) λx=>ay.mk ps (x:Int))) (λm σ H4=>∃v:Option V,σ=[v,YN (.int y),YN (.int x),YN (.ref p)]/\av H9 H4/\H4 D2=YN (.lst (iV (c9 m λz=>ay.mk (ps++[((x:Int),(y:Int))]) (z:Int))))) ⟨none,rfl,aj pT,ag⟩ (λm σ H4 _ zq=>by obtain⟨_,_,M,_⟩:=zq;exact aM.of (M _ _ hq)) ?_ ?_⟩
  .rintro m z σ Z hz ⟨v,rfl,M,h4⟩;have hm:m<rs.length+1:=by have z:=(O2.mp hz).1;rw[il]at z;exact z
   rw[gg hm]at hz;cases hz;have Ls:=M _ _ hq;refine jB ?_;refine⟨_,rfl,_,rfl,_,rfl,p,_,_,_,rfl,rfl,aM.of Ls,aV gy,rfl,_,rfl,?_⟩;have e5:ay.mk (ps++[((x:Int),(y:Int))]) (m:Int)=if ay.mk ps (m:Int)=ay.mk ps (y:Int)then ay.mk ps (x:Int)else ay.mk ps (m:Int):=by rw[gB];rfl
   have out:∀z:Int,z=ay.mk (ps++[((x:Int),(y:Int))]) (m:Int)->∃ys,Z D2=YN (.lst ys)/\ys.length<U7/\∃v:Option V,[YN (.int (ay.mk ps (m:Int))),YN (.int y),YN (.int x),YN (.ref p)]=[v,YN (.int y),YN (.int x),YN (.ref p)]/\av H9 (upd Z D2 (.lst (ys++[.int z])))/\upd Z D2 (.lst (ys++[.int z])) D2=YN (.lst (iV (c9 (m+1) λz=>ay.mk (ps++[((x:Int),(y:Int))]) (z:Int)))):=λz ez=>by
    refine⟨_,h4,aB (by rw[J,bQ];omega),_,rfl,M.upd pT,?_⟩;rw[ag,hW,b6,ez]
    rfl
   by_cases cc:ay.mk ps (m:Int)=ay.mk ps (y:Int)
   .refine eB (UU (by rw[cc])) ?_;rw[UZ cc]at e5;exact⟨_,rfl,_,rfl,p,_,_,_,rfl,rfl,aM.of Ls,aV gx,out _ e5.symm⟩
   refine eD (U1 (by intro z;injection z with z;exact cc z)) ?_;rw[UX cc]at e5;exact⟨_,rfl,out _ e5.symm⟩
  rintro σ Z ⟨v,rfl,M,h4⟩;rw[il]at h4;exact⟨D2,_,_,_,_,_,rfl,s9.trans M,h4⟩
 rintro σ H9 ⟨p,v4,v5,v6,v7,v8,rfl,s9,hq⟩;rw[Pp,QF (by rw[ay.kC];exact O5 _)]at hq;refine⟨_,rfl,p,c9 (rs.length+1) λx=>ay.mk (bD rs) (x:Int),rfl,hq,by rw[bQ];omega,λq S fs OA nd mem=>?_⟩;refine⟨q,S,_,rfl,ag,?_⟩;rw[ay.zW fit nd mem];exact k _ ((ON.trans s9).trans (aj OA))
theorem sV{f f1 f2 f3 f4 f5 f6 f7:U0}{fd iJ pz yA z4 Il OO OP:Ve}(B:Bl mg)(F:Fn K mg "_law_score" gE ["row"] f fd)(gF:Fn K mg "_law_spots" fz ["row"] f1 iJ)(gG:Fn K mg "_law_kinds" fA ["arcs"] f2 pz)(gu:Fn K mg "_law_crossing" cz ["one","two"] f3 yA)(O:Fn K mg "_law_ring_count" cA ["row"] f4 z4)(J:Fn K mg "_law_hurdle_cost" bY ["labels"] f5 Il)(gP:Fn K mg "_law_hurdles" cU ["labels"] f6 OO)(iF:Fn K mg "_law_blocks" cH ["labels"] f7 OP):aT P w K mg base b7 4 f fd ["row"] ay.qY:=by
 have vb:aT P w K mg base b7 1 f1 iJ ["row"] ay.yq:=sT B gF;have vc:aT P w K mg base b7 2 f2 pz ["arcs"] ay.qX:=sU B gG gu;have mB:aT P w K mg base b7 1 f4 z4 ["row"] ay.mL:=lz B O;have lD:aT P w K mg base b7 3 f5 Il ["labels"] ay.k9:=jZ B J gP iF;refine F.fn.ok bz (λvs H Q E h=>?_) (λjr A outer s H vs Q E hr h=>?_)
 .obtain⟨t,rs,rfl,_⟩:=h
  rfl
 obtain⟨t,rs,rfl,ht,fit,k⟩:=h;have hn:=fit.small;have Z:∀l:List Int,(iV l).length=l.length:=aL
 let R1:TS:=λD σ H2=>∃(sp p q:U0) (g:Nat->Int) (v2:Option V),σ=[YN (.ref t),YN (.ref sp),v2,YN (.ref p),YN (.ref q),none,none,none,none,none]/\av H H2/\ay.dJ ay.pr H2 p (sE rs)/\H2 q=YN (.lst (iV (c9 (rs.length+1) g)))/\Mk rs g/\D.rt=Q
 let R2:TS:=λD σ H2=>∃(sp p q u:U0) (g:Nat->Int) (v2 v5 v7 v8:Option V),σ=[YN (.ref t),YN (.ref sp),v2,YN (.ref p),YN (.ref q),v5,YN (.ref u),v7,v8,none]/\av H H2/\ay.dJ ay.pr H2 p (sE rs)/\H2 q=YN (.lst (iV (c9 (rs.length+1) g)))/\H2 u=YN (.lst (iV (Tn rs g (rs.length+1))))/\Mk rs g/\D.rt=Q
 refine⟨_,(ai (aF (i:=1) bz.nd rfl (Or.inr rfl) (br vb gF (hr.mono (by decide)) (af (pv 0) ah)))
  (ai (dC (ix:=3) (NC:=["k","spots"]) bz.nd rfl (Or.inl rfl) rfl (bO (c:=s.heap.objs.size+1) (j:=1) rfl (by decide +kernel) (by decide +kernel) rfl rfl rfl rfl rfl) (cg rfl B.range (af (aD aQ (aC aA rfl B.len aY (af (pv 0) ah)) ao) ah)) (λ_ _ _ _=>(aG (i:=0) (show(["k","spots"]:List Vl).Nodup by decide +kernel) rfl (Or.inl rfl))) (λ_ _ _ _=>cf) (λ_ _ _ _=>(a8 cq rfl B.tuple gV (af (aC (rY (K:=K) rfl) rfl B.sorted js (af (du (CP (K:=K) rfl) (pv 1) (dR (aD ie ao (pv 0))) (dR (aD aQ (aD ie ao (pv 0)) ao))) ah)) ah))))
  (ai (aF (i:=4) bz.nd rfl (Or.inl rfl) (br vc gG (hr.mono (by decide)) (af (pv 3) ah)))
  (eG (R:=R1) λD σ H2 hR=>?rest)))),?_⟩
 case rest =>
  obtain⟨sp,p,q,g,v2,rfl,s2,hT,hq,M,hD⟩:=hR;refine⟨_,(ai (aF (i:=5) bz.nd rfl (Or.inl rfl) (aD fV (aD fV (bJ (af ao ah)) (a8 fK rfl B.list gA (af (pv 0) ah))) (bJ (af ao ah))))
  (ai (aF (i:=6) bz.nd rfl (Or.inl rfl) (bJ ah))
  (ai (bG PassesOwn.never rfl (cg rfl B.range (af (aC aA rfl B.len aY (af (pv 3) ah)) ah)) (aG (i:=2) bz.nd rfl (Or.inr rfl)) (ai (dC (ix:=7) (NC:=["number","k"]) bz.nd rfl (Or.inl rfl) rfl (bO (c:=s.heap.objs.size+2) (j:=2) rfl (by decide +kernel) (by decide +kernel) rfl rfl rfl rfl rfl) (a9 (pv 5)) (λ_ _ _ _=>(aG (i:=0) (show(["number","k"]:List Vl).Nodup by decide +kernel) rfl (Or.inl rfl))) (λ_ _ _ _=>(cZ (PW.pt (fT (aI dt (aC eZ rfl B.abs iS (af (pv 0) ah)) (pv 1) (aJ _)) (eT (aI jE (pv 1) ao (aJ _))))))) (λ_ _ _ _=>(b9 dH (pv 0) ao (aJ _))))
  (ai (dC (ix:=8) (NC:=["number","k"]) bz.nd rfl (Or.inl rfl) rfl (bO (c:=s.heap.objs.size+2) (j:=2) rfl (by decide +kernel) (by decide +kernel) rfl rfl rfl rfl rfl) (a9 (pv 5)) (λ_ _ _ _=>(aG (i:=0) (show(["number","k"]:List Vl).Nodup by decide +kernel) rfl (Or.inl rfl))) (λ_ _ _ _=>(cZ (aI dt (aC eZ rfl B.abs iS (af (pv 0) ah)) (aD aQ (pv 1) ao) (aJ _)))) (λ_ _ _ _=>(b9 dH (pv 0) ao (aJ _))))
  (ax (cK (aI tH (b9 qu Aq (pv 7) (by with_unfolding_all rfl)) (b9 qu Aq (pv 8) (by with_unfolding_all rfl)) (aJ _)) (ax (dB (gU Qg QH QI dI (pv 6) (af (aP bf (pv 4) (pv 2) (λ_ _=>rfl)) ah)))) bo)))))
  (eG (R:=R2) λD σ H2 hR=>?rest2)))),?_⟩
  case rest2 =>
   obtain⟨sp,p,q,u,g,v2,v5,v7,v8,rfl,s2,hT,hq,hu,M,hD⟩:=hR;refine⟨_,(ai (aF (i:=9) bz.nd rfl (Or.inl rfl) (aD AL (bJ (af (nQ jL ao) ah)) (aD aQ (aD ie ao (aC aA rfl B.len aY (af (pv 0) ah))) ao)))
  (ai (bG PassesOwn.never rfl (cg rfl B.range (af (aC aA rfl B.len aY (af (pv 3) ah)) ah)) (aG (i:=2) bz.nd rfl (Or.inr rfl)) (ax (cK (PW.pt (fT (aI jE (aD eF (aP b5 (aP bf (pv 3) (pv 2) (λ_ _=>rfl)) ao (λ_ _=>rfl)) (aP b5 (aP bf (pv 3) (pv 2) (λ_ _=>rfl)) ao (λ_ _=>rfl))) ao (aJ _)) (eT (aI ig (aP bf (pv 4) (pv 2) (λ_ _=>rfl)) (pv 6) (by with_unfolding_all rfl))))) (ai (rq (aP bf (pv 4) (pv 2) (λ_ _=>rfl)) (rn (pv 9) (aP b5 (aP bf (pv 3) (pv 2) (λ_ _=>rfl)) ao (λ_ _=>rfl)) set_list))
  (ax (rq (aP bf (pv 4) (pv 2) (λ_ _=>rfl)) (rn (pv 9) (aP b5 (aP bf (pv 3) (pv 2) (λ_ _=>rfl)) ao (λ_ _=>rfl)) set_list)))) bo)))
  (ax (aX (aD aQ (aD eF (aD aQ (aC aA rfl B.len aY (af (pv 0) ah)) ao) (br mB O (hr.mono (by decide)) (af (pv 0) ah))) (br lD J (hr.mono (by decide)) (af (bN (NC:=["label"]) rfl (gz rfl (by decide +kernel) (by decide +kernel)) (a9 (pv 9)) (λ_ _ _ _=>(aG (i:=0) (show(["label"]:List Vl).Nodup by decide +kernel) rfl (Or.inl rfl))) (λ_ _ _ _=>(cZ (aI Fs (pv 0) ao (aJ _)))) (λ_ _ _ _=>(pv 0))) ah))))))),?_⟩
   have nl:(2:Int)*(((iV rs).length:Nat):Int)+2=((2*rs.length+2:Nat):Int):=by rw[Z];omega
   obtain⟨ts,a1,a2,a3⟩:=id hT;rw[hZ]at a2;have tl:(ts.map V.ref).length=rs.length+1:=by rw[O3,a2]
   have Lr:∀{H':Hp},av H2 H'->∀{k:Nat},k<rs.length+1->∃t,qt (ts.map V.ref) (k:Int)=YN (.ref t)/\H' t=YN (.tup (ay.pr (m5 rs k))):=λ{H'} s' {k} hk=>by
    have e:=O1 (l:=ts) (i:=k) (by omega);exact⟨ts[k],aV (by rw[O7,e];rfl),s' _ _ (a3 k _ _ e (nJ hk))⟩
   refine⟨_,rfl,by show 1<=U7;decide,λz hz=>?_⟩;have t1:av H2 (upd H2 z (.lst [.int (-1)])):=aj hz;have u1:upd H2 z (.lst [.int (-1)]) z=YN (.lst [.int (-1)]):=ag;generalize upd H2 z (.lst [.int (-1)])=H3 at t1 u1;refine⟨_,rfl,t,_,rfl,.inr (b0.of ((s2.trans t1) _ _ ht)),_,_,rfl,rfl,.inl ⟨by decide,by decide⟩,_,_,rfl,rfl,z,((2*rs.length+2:Nat):Int),_,rfl,(by show V.int ((2:Int)*(((iV rs).length:Nat):Int)+2)=_;rw[nl]),u1,by omega,by omega,by rw[Pp];show 1*_<=_;rw[Vp];omega,λlb Nb=>?_⟩;rw[Pp,wL];have Lu:H2 lb=none:=t1.free Nb;have t2:av H2 (upd H3 lb (.lst (iV (c9 (2*rs.length+2) λ_=>-1)))):=t1.trans (aj Nb);have l0:c9 (2*rs.length+2) (λ_=>-1)=c9 (2*rs.length+2) (lN rs g (Tn rs g (rs.length+1)) 0):=hX λx _=>(ay.CY x).symm;refine⟨_,rfl,p,_,rfl,.inl (aM.of (t2 _ _ a1)),((rs.length+1:Nat):Int),(by show[V.int (((ts.map V.ref).length:Nat):Int)]=_;rw[tl]),by omega,by omega,cS (lo:=0) (n:=((rs.length+1:Nat):Int).toNat) (λi σ H9=>∃(v2:Option V),σ=[YN (.ref t),YN (.ref sp),v2,YN (.ref p),YN (.ref q),v5,YN (.ref u),v7,v8,YN (.ref lb)]/\av H2 H9/\H9 lb=YN (.lst (iV (c9 (2*rs.length+2) (lN rs g (Tn rs g (rs.length+1)) i))))) ⟨_,rfl,t2,by rw[ag,l0]⟩ ?_ ?_⟩
   .rintro i σ H9 hi ⟨v2,rfl,s9,h9⟩;rw[Pp]at hi;have ei:(0:Int)+(i:Int)=(i:Int):=by omega
    rw[ei];obtain⟨ta,b1,b2⟩:=Lr s9 hi;have OQ:=aM.of (K:=K) (s9 _ _ a1);have hq9:=aM.of (K:=K) (s9 _ _ hq);have gi:=aV (gg (f:=g) hi);have OR:=b0.of (K:=K) b2;have e1:bW rs i (dN rs i):=by unfold bW dN;omega
    have e2:bW rs i (fG rs i):=by unfold bW fG;omega
    have lo2:=(o6 fit hi e1).2;have Ah:=(o6 fit hi e2).2;have no:cB rs g (Tn rs g (rs.length+1)) i=false->∃(v2:Option V),[YN (.ref t),YN (.ref sp),YN (.int i),YN (.ref p),YN (.ref q),v5,YN (.ref u),v7,v8,YN (.ref lb)]=[YN (.ref t),YN (.ref sp),v2,YN (.ref p),YN (.ref q),v5,YN (.ref u),v7,v8,YN (.ref lb)]/\av H2 H9/\H9 lb=YN (.lst (iV (c9 (2*rs.length+2) (lN rs g (Tn rs g (rs.length+1)) (i+1))))):=λc=>by
     refine⟨_,rfl,s9,?_⟩;rw[h9,hX λx _=>(ay.Ig fit hi c (x:=x)).symm]
    refine⟨_,rfl,_,rfl,p,_,_,_,rfl,rfl,OQ,b1,ta,_,_,_,rfl,rfl,OR,rfl,_,rfl,_,rfl,p,_,_,_,rfl,rfl,OQ,b1,ta,_,_,_,rfl,rfl,OR,rfl,_,_,rfl,rfl,_,_,rfl,rfl,_,rfl,?_⟩;by_cases c1:((fG rs i:Nat):Int)-((dN rs i:Nat):Int)>1
    .refine eB (UU c1) ?_;refine⟨_,rfl,_,rfl,q,_,_,_,rfl,rfl,hq9,gi,_,rfl,u,_,rfl,.inl (aM.of (s9 _ _ hu)),rfl,nL _,_,rfl,?_⟩;rw[UZ rfl,yp];by_cases c2:g i∈Tn rs g (rs.length+1)
     .refine eD (by rw[UU c2];rfl) ?_;exact no (by unfold cB;rw[UU c2,RF,SI])
     refine eB (by rw[U1 c2];rfl) ?_;have cb:cB rs g (Tn rs g (rs.length+1)) i=true:=by unfold cB;rw[UU c1,U1 c2];rfl
     refine⟨_,rfl,_,rfl,q,_,_,_,rfl,rfl,hq9,gi,_,rfl,_,rfl,_,rfl,p,_,_,_,rfl,rfl,OQ,b1,ta,_,_,_,rfl,rfl,OR,rfl,lb,_,_,dN rs i,rfl,rfl,h9,by rw[Z,bQ];exact sC lo2,?_⟩;have sO:av H2 (upd H9 lb (.lst ((iV (c9 (2*rs.length+2) (lN rs g (Tn rs g (rs.length+1)) i))).set (dN rs i) (.int (g i))))):=s9.upd Lu;have Dm:upd H9 lb (.lst ((iV (c9 (2*rs.length+2) (lN rs g (Tn rs g (rs.length+1)) i))).set (dN rs i) (.int (g i)))) lb=YN (.lst (iV (c9 (2*rs.length+2) λx=>if x=dN rs i then g i else lN rs g (Tn rs g (rs.length+1)) i x))):=by rw[ag,sD,nI]
     generalize upd H9 lb (.lst ((iV (c9 (2*rs.length+2) (lN rs g (Tn rs g (rs.length+1)) i))).set (dN rs i) (.int (g i))))=Ak at sO Dm;obtain⟨tb,d1,d2⟩:=Lr sO hi;refine⟨_,rfl,_,rfl,q,_,_,_,rfl,rfl,aM.of (sO _ _ hq),gi,_,rfl,_,rfl,_,rfl,p,_,_,_,rfl,rfl,aM.of (sO _ _ a1),d1,tb,_,_,_,rfl,rfl,b0.of d2,rfl,lb,_,_,fG rs i,rfl,rfl,Dm,by rw[Z,bQ];exact sC Ah,?_⟩;refine⟨_,rfl,sO.upd Lu,?_⟩;rw[ag,sD,nI,hX λx hx=>(ay.E9 fit hi cb hx).symm]
    refine eD (U1 c1) ?_;exact fW (no (by unfold cB;rw[U1 c1];rfl))
   rintro σ H9 ⟨v2,rfl,s9,h9⟩;rw[Pp]at h9;have LL:=ay.CW fit M;have fin:∀(hs:List Int) (H':Hp),av H2 H'->ay.IK ((c9 (2*rs.length+2) (lN rs g (Tn rs g (rs.length+1)) (rs.length+1))).filter λx=>decide (x ≥ 0)) hs->Q (.int ((rs.length:Int)+1-(eA (bD rs)).length+CF ((c9 (2*rs.length+2) (lN rs g (Tn rs g (rs.length+1)) (rs.length+1))).filter λx=>decide (x ≥ 0)) hs)) H':=λhs H' s' hA=>by
    rw[ay.zX fit M hA];exact k H' (s2.trans s')
   have gl:=bQ (2*rs.length+2) (lN rs g (Tn rs g (rs.length+1)) (rs.length+1));generalize c9 (2*rs.length+2) (lN rs g (Tn rs g (rs.length+1)) (rs.length+1))=L at h9 fin LL gl;refine⟨_,rfl,t,_,rfl,.inr (b0.of ((s2.trans s9) _ _ ht)),_,_,rfl,rfl,_,rfl,t,rs,rfl,(s2.trans s9) _ _ ht,fit,λAk sO=>?_⟩;have Dm:=sO _ _ h9;refine⟨_,_,rfl,rfl,_,rfl,lb,rfl,⟨_,aM.of Dm⟩,λD2 pT=>bg (K:=K) (a:=lb) (xs:=iV L) (λm σ o8=>∃v:Option V,σ=[v]/\av Ak o8/\o8 D2=YN (.lst (iV ((L.take m).filter λx=>decide (x ≥ 0))))) ⟨none,rfl,aj pT,ag⟩ (λm σ o8 _ zq=>by obtain⟨_,_,tf,_⟩:=zq;exact aM.of (tf _ _ Dm)) ?_ ?_⟩
   .rintro m y σ o8 hy ⟨v,rfl,tf,Dp⟩;obtain⟨x,hx,rfl⟩:=bP hy;have hm:m<2*rs.length+2:=by rw[<-gl];exact(O2.mp hx).1
    have e3:(L.take (m+1)).filter (λx=>decide (x ≥ 0))=(L.take m).filter (λx=>decide (x ≥ 0))++(if decide (x ≥ 0)=true then[x]else[]):=by
     rw[ay.take_snoc hx,Qd,Qq,Qt]
    have fl:((L.take m).filter λx=>decide (x ≥ 0)).length<=100:=PK (PJ _ _) (by rw[Pw];omega);refine⟨_,rfl,_,_,rfl,rfl,_,rfl,?_⟩;by_cases c:x ≥ 0
    .refine eB (UU c) ?_;refine⟨_,rfl,_,Dp,aB (by rw[Z];omega),_,rfl,tf.upd pT,?_⟩;rw[ag,e3,UZ (UU c),b6]
     rfl
    refine eD (U1 c) ?_;refine⟨_,rfl,tf,?_⟩;rw[e3,UX (by rw[U1 c];decide),Qh];exact Dp
   rintro σ o8 ⟨v,rfl,tf,Dp⟩;rw[Z,QF (O5 _)]at Dp;refine⟨D2,_,rfl,Dp,LL,λH12 hs Dg hA=>?_⟩;refine⟨_,_,rfl,rfl,?_⟩;show D.rt _ _;rw[hD];have z:=fin hs H12 ((s9.trans sO).trans (tf.trans Dg)) hA;dsimp only;rw[Z];exact z
  have ib:(uV rs).length=rs.length+2:=by unfold uV;rw[O9,O9];show 1+_+1=_;omega
  obtain⟨ts,a1,a2,a3⟩:=id hT;rw[hZ]at a2;have tl:(ts.map V.ref).length=rs.length+1:=by rw[O3,a2]
  refine⟨by show 1<=U7;decide,λp0 Gn=>?_⟩;have t1:av H2 (upd H2 p0 (.lst [.int 0])):=aj Gn;have u1:upd H2 p0 (.lst [.int 0]) p0=YN (.lst [.int 0]):=ag;generalize upd H2 p0 (.lst [.int 0])=H3 at t1 u1;refine⟨_,rfl,t,_,rfl,.inr (b0.of ((s2.trans t1) _ _ ht)),λp1 C3=>?_⟩;have t2:av H3 (upd H3 p1 (.lst (iV rs))):=aj C3;have u2:upd H3 p1 (.lst (iV rs)) p1=YN (.lst (iV rs)):=ag;generalize upd H3 p1 (.lst (iV rs))=H4 at t2 u2;refine⟨p0,p1,_,_,rfl,rfl,t2 _ _ u1,u2,Qx (aB (by rw[Z];show 1+_<=1000;omega)),λp2 Gk=>?_⟩;have t3:av H4 (upd H4 p2 (.lst ([.int 0]++iV rs))):=aj Gk;have u3:upd H4 p2 (.lst ([.int 0]++iV rs)) p2=YN (.lst ([.int 0]++iV rs)):=ag;generalize upd H4 p2 (.lst ([.int 0]++iV rs))=H5 at t3 u3;refine⟨by show 1<=U7;decide,λp3 Dl=>?_⟩;have t4:av H5 (upd H5 p3 (.lst [.int 0])):=aj Dl;have u4:upd H5 p3 (.lst [.int 0]) p3=YN (.lst [.int 0]):=ag;generalize upd H5 p3 (.lst [.int 0])=H6 at t4 u4;refine⟨p2,p3,_,_,rfl,rfl,t4 _ _ u3,u4,Qx (aB (by rw[O9,Z];show 1+_+1<=1000;omega)),λp4 C4=>?_⟩;have e4:([.int 0]++iV rs)++[V.int 0]=iV (uV rs):=by unfold uV;rw[b6,b6];rfl
  rw[e4];have t5:av H6 (upd H6 p4 (.lst (iV (uV rs)))):=aj C4;have u5:upd H6 p4 (.lst (iV (uV rs))) p4=YN (.lst (iV (uV rs))):=ag;generalize upd H6 p4 (.lst (iV (uV rs)))=H7 at t5 u5;have OS:=(((t1.trans t2).trans t3).trans t4).trans t5;refine⟨by show 0<=U7;decide,λu hu=>?_⟩;have t6:av H7 (upd H7 u (.lst [])):=aj hu;have t28:=OS.trans t6;have hu0:H u=none:=(s2.trans OS).free hu;have wV:H2 u=none:=OS.free hu;refine⟨_,rfl,p,_,rfl,.inl (aM.of (t28 _ _ a1)),((rs.length+1:Nat):Int),(by show[V.int (((ts.map V.ref).length:Nat):Int)]=_;rw[tl]),by omega,by omega,cS (lo:=0) (n:=((rs.length+1:Nat):Int).toNat) (λi σ H9=>∃(v2 v7 v8:Option V),σ=[YN (.ref t),YN (.ref sp),v2,YN (.ref p),YN (.ref q),YN (.ref p4),YN (.ref u),v7,v8,none]/\av H2 H9/\H9 p4=YN (.lst (iV (uV rs)))/\H9 u=YN (.lst (iV (Tn rs g i)))) ⟨_,_,_,rfl,t28,t6 _ _ u5,ag⟩ ?_ ?_⟩
  .rintro i σ H9 hi ⟨v2,v7,v8,rfl,s9,h4,h6⟩;rw[Pp]at hi;have ei:(0:Int)+(i:Int)=(i:Int):=by omega
   rw[ei];have np:∀{D:U0},H9 D=none->p4≠D:=λ{D} hD e=>by rw[<-e,h4]at hD;cases hD
   refine⟨_,rfl,p4,rfl,⟨_,aM.of h4⟩,λD hD=>bg (K:=K) (a:=p4) (xs:=iV (uV rs)) (λm σ Ak=>∃(v:Option V) (bs:List Bool),σ=[v,YN (.int i)]/\av H9 Ak/\Ak D=YN (.lst (bs.map V.bl))/\bs.length<=m/\(true∈bs↔(∃x∈(uV rs).take m,x<0/\aE x=(i:Int))/\0<i)) ⟨none,[],rfl,aj hD,ag,O5 _,by simp⟩ (λm σ Ak _ zq=>by obtain⟨_,_,_,sO,_⟩:=zq;exact aM.of (sO _ _ h4)) ?_ ?_⟩
   .rintro m y σ Ak hy ⟨v,bs,rfl,sO,Dm,bl,mem⟩;obtain⟨x,hx,rfl⟩:=bP hy;have hm:m<rs.length+2:=by rw[<-ib];exact(O2.mp hx).1
    have ac:(if x<0 then -x else x)=aE x:=rfl;have st:=ay.yv hx λy=>y<0/\aE y=(i:Int)
    have no:¬(aE x=(i:Int)/\0<i)->∃(v:Option V) (bs:List Bool),[YN (.int x),YN (.int i)]=[v,YN (.int i)]/\av H9 Ak/\Ak D=YN (.lst (bs.map V.bl))/\bs.length<=m+1/\(true∈bs↔(∃x∈(uV rs).take (m+1),x<0/\aE x=(i:Int))/\0<i):=λc=>by
     refine⟨_,bs,rfl,sO,Dm,by omega,?_⟩;rw[mem,st];exact⟨λh=>⟨.inl h.1,h.2⟩,λh=>⟨h.1.resolve_right λz=>c ⟨z.2,h.2⟩,h.2⟩⟩
    refine⟨_,rfl,_,rfl,_,rfl,rfl,_,rfl,?_⟩;dsimp only;rw[ac];by_cases c:aE x=(i:Int)
    .refine eB (UU (by rw[c])) ?_;refine⟨_,rfl,_,_,rfl,rfl,_,rfl,?_⟩;by_cases c2:0<i
     .refine eB (UU (by omega)) ?_;refine⟨_,rfl,_,_,rfl,rfl,_,Dm,aB (by rw[O3];omega),_,bs++[decide (x<0)],rfl,sO.upd hD,by rw[ag,Ph];rfl,by rw[O9];show _+1<=_;omega,?_⟩;rw[ay.qZ,mem,st,U9];exact⟨λh=>h.elim (λh=>⟨.inl h.1,h.2⟩) λh=>⟨.inr ⟨h,c⟩,c2⟩,λh=>h.1.imp (λz=>⟨z,h.2⟩) λz=>z.1⟩
     refine eD (U1 (by omega)) ?_;exact no λz=>c2 z.2
    refine eD (U1 (by intro z;injection z with z;exact c z)) ?_;exact fW (no λz=>c z.1)
   rintro σ Ak ⟨v,bs,rfl,sO,Dm,bl,mem⟩;rw[Z]at bl;rw[Z,PQ]at mem;have b1:decide (true∈bs)=c6 rs i:=by
    rw[QA,U9,mem,wM fit (by omega)];refine⟨λh=>h.1,λh=>⟨h,TV λz=>?_⟩⟩;subst z;unfold c6 at h;rw[ay.fj fit,ay.bV]at h;exact U4 h (by decide)
   have k1:(i:Int)+1=((i+1:Nat):Int):=by omega
   have Ll:=sO _ _ h4;refine⟨_,rfl,p4,rfl,⟨_,aM.of Ll⟩,λD2 pT=>bg (K:=K) (a:=p4) (xs:=iV (uV rs)) (λm σ o8=>∃(v:Option V) (cs:List Bool),σ=[v,YN (.int i)]/\av Ak o8/\o8 D2=YN (.lst (cs.map V.bl))/\cs.length<=m/\(true∈cs↔∃x∈(uV rs).take m,x<0/\aE x=((i+1:Nat):Int))) ⟨none,[],rfl,aj pT,ag,O5 _,by simp⟩ (λm σ o8 _ zq=>by obtain⟨_,_,_,tf,_⟩:=zq;exact aM.of (tf _ _ Ll)) ?_ ?_⟩
   .rintro m y σ o8 hy ⟨v,cs,rfl,tf,Dp,cl,C6⟩;obtain⟨x,hx,rfl⟩:=bP hy;have hm:m<rs.length+2:=by rw[<-ib];exact(O2.mp hx).1
    have ac:(if x<0 then -x else x)=aE x:=rfl;have st:=ay.yv hx λy=>y<0/\aE y=((i+1:Nat):Int)
    refine⟨_,rfl,_,rfl,_,rfl,_,_,rfl,rfl,rfl,_,rfl,?_⟩;by_cases c:aE x=((i+1:Nat):Int)
    .refine eB (UU (by show V.int (aE x)=V.int ((i:Int)+1);rw[c,k1])) ?_;refine⟨_,rfl,_,_,rfl,rfl,_,Dp,aB (by rw[O3];omega),_,cs++[decide (x<0)],rfl,tf.upd pT,by rw[ag,Ph];rfl,by rw[O9];show _+1<=_;omega,?_⟩;rw[ay.qZ,C6,st,U9];exact⟨λh=>h.imp id λh=>⟨h,c⟩,λh=>h.imp id λz=>z.1⟩
    refine eD (U1 (by intro z;have z:V.int (aE x)=V.int ((i:Int)+1):=z;injection z with z;exact c (by omega))) ?_;refine⟨_,cs,rfl,tf,Dp,by omega,?_⟩;rw[C6,st];exact⟨λh=>.inl h,λh=>h.resolve_right λz=>c z.2⟩
   rintro σ o8 ⟨v,cs,rfl,tf,Dp,cl,C6⟩;rw[Z]at cl;rw[Z,PQ]at C6;have b2:decide (true∈cs)=c6 rs (i+1):=by
    rw[QA,U9,C6,wM fit (by omega)]
   have z9:=sO.trans tf;have cN:∀(x:V) (xs:List V),(if(false:Bool)=true then !kj x xs else kj x xs)=kj x xs:=λ_ _=>rfl;refine⟨_,rfl,D,_,rfl,.inl (aM.of (tf _ _ Dm)),rfl,ay.sG bs,_,rfl,D2,_,rfl,.inl (aM.of Dp),rfl,ay.sG cs,rfl,_,rfl,?_⟩;rw[cN,cN,yu,yu,b1,b2];have en:=ay.E7 (rs:=rs) (f:=g) i;have Lp:=z9 _ _ h6;have tnl:=ay.Ie (rs:=rs) (f:=g) i;by_cases c:c6 rs i=c6 rs (i+1)
   .refine eD (by rw[UU (by rw[c])];rfl) ?_;refine⟨_,_,_,rfl,s9.trans z9,z9 _ _ h4,?_⟩;rw[en,UX (by rw[c];simp),Qh];exact Lp
   refine eB (by rw[U1 (by intro z;injection z with z;exact c z)];rfl) ?_;refine⟨_,rfl,.inl ⟨rfl,_,aM.of Lp⟩,_,rfl,_,rfl,q,_,_,_,rfl,rfl,aM.of ((s9.trans z9) _ _ hq),aV (gg hi),u,_,_,rfl,rfl,Lp,aB (by rw[Z];omega),?_⟩;refine⟨_,_,_,rfl,(s9.trans z9).upd wV,?_,?_⟩
   .rw[au (λe=>by rw[<-e,h4]at h6;injection h6 with h6;injection h6 with h6;have z:=congrArg Ro h6;rw[Z,Z,ib]at z;omega)];exact z9 _ _ h4
   rw[ag,en,UZ (by simpa using c),b6]
   rfl
  rintro σ H9 ⟨v2,v7,v8,rfl,s9,h4,h6⟩;rw[Pp]at h6;exact⟨sp,p,q,u,g,_,_,_,_,rfl,s2.trans s9,hT.same s9,s9 _ _ hq,h6,M,hD⟩
 have nl:(((iV rs).length:Nat):Int)+1=((rs.length+1:Nat):Int):=by rw[Z];omega
 refine⟨_,rfl,t,rs,rfl,ht,fit,λsp H2 nS s2 h2=>?_⟩;refine⟨_,rfl,t,_,rfl,.inr (b0.of (s2 _ _ ht)),_,_,rfl,rfl,((rs.length+1:Nat):Int),(by show[V.int ((((iV rs).length:Nat):Int)+1)]=_;rw[nl]),by omega,by omega,λD hD=>fX (λi σ H3=>∃v:Option V,σ=[v,YN (.ref sp)]/\av H2 H3/\ay.dJ ay.pr H3 D ((sE rs).take i)) ⟨none,rfl,aj hD,ay.dJ.nil ag⟩ ?_ ?_⟩
 .rintro i σ H3 hi ⟨v,rfl,s3,hT⟩;rw[Pp]at hi;rw[Sh];have h3:=s3 _ _ h2;have m1:(2:Int)*(i:Int)=((2*i:Nat):Int):=by omega
  have m2:((2*i:Nat):Int)+2=((2*i+2:Nat):Int):=by omega
  have sl:(iV (o4 rs)).length=2*rs.length+2:=by unfold o4;rw[Z,bQ]
  have ct:jM (iV (o4 rs)) (YN ((2*i:Nat):Int)) (YN ((2*i+2:Nat):Int))=iV [((pA rs i:Nat):Int),((pB rs i:Nat):Int)]:=by
   rw[ay.DQ (by omega) (by rw[sl];omega)];refine QR λj=>?_;rw[QV,SG];by_cases c:j<2
   .rw[UZ (by omega)];unfold o4;rw[gg (by omega)]
    match j,c with
    |0,_=>rw[Uj,ay.Gf];rfl
    |1,_=>rw[ay.Gg];rfl
   rw[UX (by omega),Qe (by rw[Z];show 2<=j;omega)]
  refine jB ?_;refine⟨_,rfl,_,rfl,_,_,rfl,rfl,.inl ⟨by decide,by decide⟩,_,rfl,_,rfl,_,_,rfl,rfl,.inl ⟨by decide,by decide⟩,_,_,rfl,rfl,_,rfl,sp,_,rfl,aM.of h3,λp1 C3=>?_⟩;dsimp only;rw[m1,m2,ct];have s4:av H3 (upd H3 p1 (.lst (iV [((pA rs i:Nat):Int),((pB rs i:Nat):Int)]))):=aj C3;have u4:upd H3 p1 (.lst (iV [((pA rs i:Nat):Int),((pB rs i:Nat):Int)])) p1=YN (.lst (iV [((pA rs i:Nat):Int),((pB rs i:Nat):Int)])):=ag;generalize upd H3 p1 (.lst (iV [((pA rs i:Nat):Int),((pB rs i:Nat):Int)]))=H4 at s4 u4;refine⟨p1,_,rfl,aM.of u4,by show 2<64;decide,λns' l' hp hs hl'=>?_⟩;have e5:ns'=[((dN rs i:Nat):Int),((fG rs i:Nat):Int)]:=by
   have lo:((dN rs i:Nat):Int)=min ((pA rs i:Nat):Int) ((pB rs i:Nat):Int):=by unfold dN;omega
   have Ah:((fG rs i:Nat):Int)=max ((pA rs i:Nat):Int) ((pB rs i:Nat):Int):=by unfold fG;omega
   rw[lo,Ah];exact ay.CZ hp hs
  rw[e5];have s5:av H4 (upd H4 l' (.lst (([((dN rs i:Nat):Int),((fG rs i:Nat):Int)]:List Int).map V.int))):=aj hl';have u5:upd H4 l' (.lst (([((dN rs i:Nat):Int),((fG rs i:Nat):Int)]:List Int).map V.int)) l'=YN (.lst (ay.pr (m5 rs i))):=ag;generalize upd H4 l' (.lst (([((dN rs i:Nat):Int),((fG rs i:Nat):Int)]:List Int).map V.int))=H5 at s5 u5;refine⟨l',_,rfl,.inl u5,λtt H6 s6 zZ=>?_⟩;have Lo:=(s4.trans s5).trans s6;obtain⟨ys,y1,y2,y3⟩:=(hT.same Lo).snoc (t:=tt) (x:=m5 rs i) zZ;refine⟨ys,y1,aB (by rw[y2,Pw,hZ];omega),_,rfl,(s3.trans Lo).upd hD,?_⟩;rw[ay.take_snoc (nJ hi)];exact y3
 rintro σ H3 ⟨v,rfl,s3,hT⟩;rw[Pp,QF (by rw[hZ];exact O5 _)]at hT;refine⟨_,rfl,D,rs,rfl,hT,fit,λq H4 g hq s4 h4 M=>?_⟩;exact⟨sp,D,q,g,_,rfl,(s2.trans s3).trans s4,hT.same s4,h4,M,rfl⟩
end
section
variable {P:U8}{w:Va}{K:Pc}{mg:Vl->Option UW}{base:Vi}
seal L2.sY L2.PS L2.PE L2.PT L2.PA
theorem Iv(B:Bl mg){f0 f1 f2 f3 f4 f5 f6 f7 f8 f9 f10 f11 f12 f13 f14 f15 f16 f17 f18 f19 f20 f21 f22 f23 f24 f25 f26 f27 f28 f29 f30 f31 f32:U0}{fd0 iJ pz yA z4 Il OO OP fd8 fd9 OT OU OV OW OX OY OZ O0 aaa aab aac aad aae aaf aag aah aai aaj aak aal aam aan Lv:Ve}(ji:Fn K mg "framed" dy ["row"] f0 fd0)(vd:Fn K mg "open_gaps" fq ["row"] f1 iJ)(wY:Fn K mg "tie_gaps" gm ["row"] f2 pz)(mM:Fn K mg "tie_rings" ft ["row"] f3 yA)(L:Fn K mg "hung_together" bT ["pairs"] f4 z4)(M:Fn K mg "kin_spans" dk ["row"] f5 Il)(jz:Fn K mg "kin_end" eP ["numbers","first"] f6 OO)(iE:Fn K mg "gap_kins" gn ["row"] f7 OP)(Z:Fn K mg "knots_in" eQ ["row"] f8 fd8)(lu:Fn K mg "web_of" jf ["kins"] f9 fd9)(lF:Fn K mg "shortest_around" bX ["chain","kins"] f10 OT)(jK:Fn K mg "thinned_web" dz ["row"] f11 OU)(pj:Fn K mg "spare_things" dm ["web","knots"] f12 OV)(Aa:Fn K mg "ends_of" h7 ["web"] f13 OW)(wZ:Fn K mg "leg_from" gq ["end","web"] f14 OX)(mN:Fn K mg "knot_legs" fu ["row"] f15 OY)(mO:Fn K mg "knot_cost" fw ["row"] f16 OZ)(ve:Fn K mg "legs_cost" fy ["legs"] f17 O0)(lH:Fn K mg "turn_score" fQ ["row"] f18 aaa)(z:Fn K mg "_law_cell_at" dA ["script","k"] f19 aab)(J:Fn K mg "_law_row_of_kins" da ["script","at","many"] f20 aac)(O:Fn K mg "_law_inflated" d6 ["script","at","room"] f21 aad)(sW:Fn K mg "_law_put_in" d7 ["row","spot"] f22 aae)(mP:Fn K mg "_law_nests" gD ["cell"] f23 aaf)(gF:Fn K mg "_law_spots" fz ["row"] f24 aag)(gu:Fn K mg "_law_crossing" cz ["one","two"] f25 aah)(gG:Fn K mg "_law_kinds" fA ["arcs"] f26 aai)(iF:Fn K mg "_law_blocks" cH ["labels"] f27 aaj)(gP:Fn K mg "_law_hurdles" cU ["labels"] f28 aak)(lI:Fn K mg "_law_hurdle_cost" bY ["labels"] f29 aal)(mQ:Fn K mg "_law_score" gE ["row"] f30 aam)(mC:Fn K mg "_law_ring_count" cA ["row"] f31 aan)(Lw:Fn K mg "law" C0 ["script"] f32 Lv):aT P w K mg base b7 9 f32 Lv ["script"] (AV K):=by
 have pY:aT P w K mg base b7 1 _ _ ["script","k"] (kq K):=jk B z;have lJ:aT P w K mg base b7 2 _ _ ["script","at","many"] (ay.mH K):=jY B J z;have pw:aT P w K mg base b7 1 _ _ ["script","at","room"] (ay.oD K):=nc B O;have vf:aT P w K mg base b7 2 _ _ ["cell"] ay.yy:=sS B mP sW;have eS:aT P w K mg base b7 4 _ _ ["row"] kQ:=uY B Z ji jz M iE vd;have vg:aT P w K mg base b7 2 _ _ ["row"] fZ:=lr B M ji jz;have pe:aT P w K mg base b7 2 _ _ ["kins"] (nE P w):=z5 B lu L lF;have pZ:aT P w K mg base b7 5 _ _ ["row"] (si P w):=o9 B jK Z eS M vg lu pe pj;have vh:aT P w K mg base b7 6 _ _ ["row"] sj:=sP B mN Z eS jK pZ Aa wZ;have vi:aT P w K mg base b7 7 _ _ ["row"] sI:=sR B mO ve mN vh;have vk:aT P w K mg base b7 3 _ _ ["row"] iz:=sN B mM ji wY L;have sX:aT P w K mg base b7 8 _ _ ["row"] ay.uE:=pU B lH mM vk mO vi;have vl:aT P w K mg base b7 4 _ _ ["row"] ay.qY:=sV B mQ gF gG gu mC lI gP iF;refine Lw.fn.ok mz (λvs H Q E h=>?_) (λjr A outer s H vs Q E hr h=>?_)
 .obtain⟨a,ns,rfl,_⟩:=h
  rfl
 obtain⟨a,ns,rfl,hS,hlen,k⟩:=h;refine⟨_,(ai (aF (i:=1) mz.nd rfl (Or.inl rfl) (br pY z (hr.mono (by decide)) (af (pv 0) (af ao ah))))
  (ai (aF (i:=2) mz.nd rfl (Or.inl rfl) (br lJ J (hr.mono (by decide)) (af (pv 0) (af ao (af (aD ck (pv 1) ao) ah)))))
  (ai (cK (aI dt (aD ck (aD eU (pv 1) ao) ao) ao (aJ _)) (ax (aF (i:=2) mz.nd rfl (Or.inl rfl) (br pw O (hr.mono (by decide)) (af (pv 0) (af ao (af (aD aQ ao (aD ck (aD eU (pv 1) ao) ao)) ah)))))) bo)
  (eG (R:=λD σ H2=>∃(t:U0) (rs:List Int) (c0:Int),σ=[YN (.ref a),YN (.int c0),YN (.ref t),none]/\aM K H2 a (ns.map V.int)/\H2 t=YN (.tup (iV rs))/\bc rs/\D.rt=Q) λD σ H2 hR=>?rest)))),?_⟩
 case rest =>
  obtain⟨t,rs,c0,rfl,G6,ht,fit,hD⟩:=hR;refine⟨_,(ai (cK (aI dt (aD ck (aD eU (pv 1) ao) ao) ao (aJ _)) (ax (aF (i:=2) mz.nd rfl (Or.inl rfl) (br vf mP (hr.mono (by decide)) (af (aD eU (pv 1) ao) ah)))) bo)
  (eG (R:=λD σ H2=>∃(t:U0) (rs:List Int) (c0:Int),σ=[YN (.ref a),YN (.int c0),YN (.ref t),none]/\H2 t=YN (.tup (iV rs))/\bc rs/\D.rt=Q) λD σ H2 hR=>?rest2)),?_⟩
  case rest2 =>
   obtain⟨t,rs,c0,rfl,ht,fit,hD⟩:=hR;refine⟨_,(ai (aF (i:=3) mz.nd rfl (Or.inl rfl) (br sX lH (hr.mono (by decide)) (af (pv 2) ah)))
  (ai (cK (PW.pt (Ar (As (nO (aC tR rfl B.isinstance jH (af (pv 3) (af (w8 (v:=.ty "int") rfl B.int lU rfl) ah))))) (vu (nO (aC tR rfl B.isinstance jH (af (pv 3) (af (w8 (v:=.ty "bool") rfl B.bool DK rfl) ah))))))) (ax (aX Aq)) bo)
  (ax (aX (b9 dt (pv 3) (br vl mQ (hr.mono (by decide)) (af (pv 2) ah)) (aJ _)))))),?_⟩
   refine⟨_,rfl,t,rs,rfl,ht,fit,λH3 s3=>?_⟩;refine⟨_,rfl,_,_,_,_,rfl,.int _,tS _,_,rfl,?_⟩;refine fW ?_;refine⟨_,rfl,_,_,_,_,rfl,.int _,rH _,_,rfl,?_⟩;refine fW ?_;refine⟨_,rfl,_,rfl,t,rs,rfl,s3 _ _ ht,fit,λH4 s4=>⟨rfl,?_⟩⟩;rw[UU rfl];show D.rt _ _;rw[hD];exact k H4
  refine⟨_,rfl,_,_,rfl,rfl,⟨by decide,by decide⟩,_,_,rfl,rfl,(by show(0:Int)<3;decide),rfl,_,rfl,?_⟩;refine gv (λh1=>?_) (λh1=>?_)
  .refine⟨_,rfl,_,_,rfl,rfl,⟨by decide,by decide⟩,_,rfl,λt2 H3 z8 s3 ht2 Iw qx=>?_⟩;exact⟨t2,z8,c0,rfl,ht2,Iw,hD⟩
  exact⟨t,rs,c0,rfl,ht,fit,hD⟩
 refine⟨_,rfl,a,ns,0,rfl,hS,λc0=>?_⟩;refine⟨_,rfl,_,rfl,_,_,rfl,rfl,(by show(0:Int)<17;decide),?_⟩;dsimp only;obtain⟨n,hm⟩:∃many:Nat,c0%17=many:=⟨(c0%17).toNat,by omega⟩
 rw[hm];refine⟨a,ns,1,n,rfl,hS,by omega,λt H1 rs s1 ht hrl fit=>?_⟩;refine⟨_,rfl,_,_,rfl,rfl,⟨by decide,by decide⟩,_,_,rfl,rfl,(by show(0:Int)<3;decide),rfl,_,rfl,?_⟩;refine gv (λh1=>?_) (λh1=>?_)
 .have g0:0<=c0/51%37:=R4 _ (by decide);have g1:c0/51%37<37:=SH _ (by decide);obtain⟨r,C2⟩:∃r:Nat,5+c0/51%37=r:=⟨(5+c0/51%37).toNat,by omega⟩
  refine⟨_,rfl,_,rfl,_,_,rfl,rfl,⟨by decide,by decide⟩,_,_,rfl,rfl,(by show(0:Int)<37;decide),_,_,rfl,rfl,?_⟩;dsimp only;rw[C2];refine⟨a,ns,1,r,rfl,s1.seq hS,hlen,by omega,by omega,λt2 H2 z8 s2 ht2 Lk Iw=>?_⟩;exact⟨t2,z8,c0,rfl,s2.seq (s1.seq hS),ht2,Iw,rfl⟩
 exact⟨t,rs,c0,rfl,s1.seq hS,ht,fit,rfl⟩
end
theorem us0{R:List UW->Prop}(h:∀_:Unit,R [])(z:List UW)(e:z.length=0):R z:=(Qs.mp e)▸h ()
theorem us1{R:List UW->Prop}(h:∀x0:UW,R [x0])(z:List UW)(e:z.length=1):R z:=by
 obtain⟨a,r,rfl⟩:=Ra e;exact us0 (R:=λr=>R (a::r)) (λ_=>h a) r (Nat.succ.inj e)
theorem us2{R:List UW->Prop}(h:∀x0 B:UW,R [x0,B])(z:List UW)(e:z.length=2):R z:=by
 obtain⟨a,r,rfl⟩:=Ra e;exact us1 (R:=λr=>R (a::r)) (h a) r (Nat.succ.inj e)
theorem us3{R:List UW->Prop}(h:∀x0 B D:UW,R [x0,B,D])(z:List UW)(e:z.length=3):R z:=by
 obtain⟨a,r,rfl⟩:=Ra e;exact us2 (R:=λr=>R (a::r)) (h a) r (Nat.succ.inj e)
theorem nM(x:Vl)(st:W3)(J:Vl){K:Pc}{h:Vi}{mg:Vl->Option UW}{f:U0}{M an:Option U0}{O:Array (Option UW)}{V kV L B H ct:UW}(X:K.In h)(G:h.Ns Vs mg)(a:Uo K Vs x=YN (YN (.ref f)):=by k_is)(l:K.lookup f=YN ⟨V,M,.func (QJ x x (cY st) (cC st) (aH st) .none kV L B an H ct),O⟩:=by k_is)(c:RM K H x=true:=by k_is)(k:RL K (.ref f)=true:=by k_is)(Z:∀(kV doc B:UW) (an:Option U0) (z ct:UW) (x0:UW),WH (QJ x x (cY st) (cC st) (aH st) .none kV doc B an z ct) ⟨[x0],[]⟩=pure (Tp [J] [x0]):=by intros;rfl):Fn K mg x st [J] f (QJ x x (cY st) (cC st) (aH st) .none kV L B an H ct):=
 Fn.mk' (vE (st:=st) l c k) (λkV doc B an z ct D hl=>us1 (R:=λD=>WH _ ⟨D,[]⟩=pure (Tp _ D)) (Z kV doc B an z ct) D hl) (SV X G a)
theorem Iy(x:Vl)(st:W3)(J L:Vl){K:Pc}{h:Vi}{mg:Vl->Option UW}{f:U0}{V an:Option U0}{Z:Array (Option UW)}{oc kV M B H ct:UW}(X:K.In h)(G:h.Ns Vs mg)(a:Uo K Vs x=YN (YN (.ref f)):=by k_is)(l:K.lookup f=YN ⟨oc,V,.func (QJ x x (cY st) (cC st) (aH st) .none kV M B an H ct),Z⟩:=by k_is)(c:RM K H x=true:=by k_is)(k:RL K (.ref f)=true:=by k_is)(hb:∀(kV doc B:UW) (an:Option U0) (z ct:UW) (x0 O:UW),WH (QJ x x (cY st) (cC st) (aH st) .none kV doc B an z ct) ⟨[x0,O],[]⟩=pure (Tp [J,L] [x0,O]):=by intros;rfl):Fn K mg x st [J,L] f (QJ x x (cY st) (cC st) (aH st) .none kV M B an H ct):=
 Fn.mk' (vE (st:=st) l c k) (λkV doc B an z ct D hl=>us2 (R:=λD=>WH _ ⟨D,[]⟩=pure (Tp _ D)) (hb kV doc B an z ct) D hl) (SV X G a)
theorem fn3(x:Vl)(st:W3)(J L M:Vl){K:Pc}{h:Vi}{mg:Vl->Option UW}{f:U0}{od an:Option U0}{sl:Array (Option UW)}{oc kV O B H ct:UW}(X:K.In h)(G:h.Ns Vs mg)(a:Uo K Vs x=YN (YN (.ref f)):=by k_is)(l:K.lookup f=YN ⟨oc,od,.func (QJ x x (cY st) (cC st) (aH st) .none kV O B an H ct),sl⟩:=by k_is)(c:RM K H x=true:=by k_is)(k:RL K (.ref f)=true:=by k_is)(hb:∀(kV doc B:UW) (an:Option U0) (z ct:UW) (x0 V Z:UW),WH (QJ x x (cY st) (cC st) (aH st) .none kV doc B an z ct) ⟨[x0,V,Z],[]⟩=pure (Tp [J,L,M] [x0,V,Z]):=by intros;rfl):Fn K mg x st [J,L,M] f (QJ x x (cY st) (cC st) (aH st) .none kV O B an H ct):=
 Fn.mk' (vE (st:=st) l c k) (λkV doc B an z ct D hl=>us3 (R:=λD=>WH _ ⟨D,[]⟩=pure (Tp _ D)) (hb kV doc B an z ct) D hl) (SV X G a)
theorem walk{l:UC}{q:U8}{loose:List Vl}{L:(Vl->Option UW)->Vi->Prop}{D:Va->Vi->Prop}{d:DefRec}{K:Params->Pc}(M:l.most=YN 63)(B:d.params.defaults=[])
  (O:∀(w:Va) (h:Vi),D w h->(K w.params).In h)
  (F:∀(w:Va) (mg:Vl->Option UW) (H:U0) (h:Vi),(K w.params).In h->h.Ns Vs mg->mg d.name=YN (.ref H) ->
   ∃J:Ve,(∀(s:U2) (u:UW),Yk s J ⟨[u],[]⟩ [("script",u)])/\∀base:Vi,(K w.params).In base->base.Ns Vs mg->aT l.prog w (K w.params) mg base b7 9 H J ["script"] (AV (K w.params))) :
  UI q loose L D l.row.toRowW d [] (λf vs=>PySem.call f vs):=
 L2.xo (n:=63) (k:=9) (x:="script") (CX:=λ_=>b7) (sp:=λw=>AV (K w.params)) M (by decide) B ⟨rfl,by decide,by decide,rfl⟩ O F (λ_ _ a ns V _ Z=>⟨a,ns,rfl,Z,V,λ_=>rfl⟩) λ_ _ _ _ _ z=>z
end Law
end
namespace PySem.W.Fast
def tw8425440412500972795:=0
def tw11916422241454364889:=0
def tw10346547233189227094:=0
def tw1495965105730155365:=0
def tw9267643628913506332:=0
def tw10356034826869682981:=0
def tw6022919336224298514:=0
def tw10860703944807113425:=0
def tw12662629230684338181:=0
def tw4531409743252885359:=0
def tw1351020595268738525:=0
def tw156374321985731616:=0
def tw10788158691871985419:=0
def tw11681669416507130638:=0
def tw16393327964768977328:=0
def tw6540290805582477968:=0
def tw17592250238590861346:=0
def tw1267479833006738813:=0
def tw11833336650270537832:=0
def tw12863241832425656117:=0
def tw2946084012340164600:=0
def tw3500309919618139821:=0
def tw3290370929112245141:=0
def tw5955890536117885099:=0
def tw12639761626022955796:=0
def tw7518529535047680459:=0
def tw8102873853288665619:=0
def tw1775431621896932231:=0
def tw187959182666916780:=0
def tw6761066989706513271:=0
def tw756626421398482333:=0
def tw2002323299163493401:=0
def tw14675267889532590020:=0
def tw3954865485330942110:=0
def tw18059165523876626543:=0
def tw5761765981748085498:=0
def tw2040911722814380351:=0
def tw12846343934428175872:=0
def tw5151413037694106322:=0
def tw8282095946275005081:=0
def tw888384332782447581:=0
def tw2018719105035773419:=0
def tw16149160684825770424:=0
def tw11533141713911913119:=0
def tw11267066833856374919:=0
def tw14746912028244269525:=0
def tw14934078566519774954:=0
def tw12401274643001936531:=0
def tw9733541619690642449:=0
def tw15125768025862273598:=0
def tw16666438216145353608:=0
def tw12899568192220501762:=0
def tw18077494157919857473:=0
def tw4519884625581458057:=0
def tw15673383535539440913:=0
def tw382879703144412821:=0
def tw14384057046027895656:=0
def tw12240959182805147560:=0
def tw7855495620018936477:=0
def tw6283481878335572552:=0
def tw17538523851622845768:=0
def tw15581558424765454308:=0
def tw10181399685262401350:=0
def tw6639689928684668934:=0
def tw11133437252686891762:=0
def tw5560865572786785161:=0
def tw1948252275264731199:=0
def tw13548080758544012009:=0
def tw1437295293225254330:=0
def tw9098454833955475694:=0
def tw11412380213044414962:=0
def tw3675892595254155747:=0
def tw17484520448251191918:=0
def tw15272635117894858947:=0
def tw17347250701463868750:=0
def tw12677922055493792918:=0
def tw14630847484055245172:=0
def tw762477520945901419:=0
def tw831128465684856851:=0
def tw12869950088962440238:=0
def tw1040208365129347223:=0
def tw714181575649146685:=0
def tw4845554500791272462:=0
def tw10459481589164178161:=0
def tw6633406373165474741:=0
def tw1124145234383231247:=0
def tw3126259473291624441:=0
def tw3338813125612208085:=0
def tw8024490163580071145:=0
def tw2784274968228698491:=0
def tw13313709795158517868:=0
def tw13166901756934165363:=0
def tw2952691761233062052:=0
def tw5108598938021613806:=0
def tw17237975401257856667:=0
def tw11971304602259635968:=0
def tw10684576022339966707:=0
def tw13483840061374942974:=0
def tw3789250834458102399:=0
def tw1760192180769367829:=0
def tw14065196328793359211:=0
def tw16647530057209021065:=0
def tw9109021630910053739:=0
def tw14896682080738227003:=0
def tw8721862811409119421:=0
def tw1706713179941806596:=0
def tw3816224787405276882:=0
def tw16921237036537941566:=0
def tw17467574801594556600:=0
def tw13098851759065832248:=0
def tw2175785599147868146:=0
def tw8079865536656844601:=0
def tw13064419942911794093:=0
def tw5918224905441039542:=0
def tw6129007261239644358:=0
def tw933530256129158692:=0
def tw15332510313442713092:=0
def tw5841651445277546554:=0
def tw5983140389397078627:=0
def tw15734019169382934214:=0
def tw17484762057289016234:=0
def tw7828191706620013200:=0
def tw13545860880350681851:=0
def tw2623197285734975:=0
def tw13454298266291422570:=0
def tw3303827684624153295:=0
def tw8507054397343830380:=0
def tw4361028500482057255:=0
def tw16932459024583368113:=0
def tw6050668046603509877:=0
def tw10990028472423161631:=0
def tw3163508577508326024:=0
def tw4539335568690844774:=0
def tw15155624906848225310:=0
def tw10339882491318076514:=0
def tw14799213674475108530:=0
def tw15073504383999908215:=0
def tw14526720848740902486:=0
end PySem.W.Fast
open PySem PySem.W PyProof.Rows
set_option maxRecDepth 100000 in
set_option maxHeartbeats 0 in
theorem PySem.Challenge.cw_claspwork_k48_whole_score_by_crossing_ti_holds : PySem.Challenge.rw_claspwork_k48_whole_score_by_crossing_ti.Holds := by
 w_on;o_law;k_head;(case hw=>w_witness2)
 k_fill
 refine Law.walk (l:=PySem.Challenge.rw_claspwork_k48_whole_score_by_crossing_ti) rfl rfl (fun w h Y=>UE Y) ?F
 case F =>
  intro w mg fa h X G M4
  have F0:=Law.nM "framed" Law.dy "row" X G
  have F1:=Law.nM "open_gaps" Law.fq "row" X G
  have F2:=Law.nM "tie_gaps" Law.gm "row" X G
  have F3:=Law.nM "tie_rings" Law.ft "row" X G
  have F4:=Law.nM "hung_together" Law.bT "pairs" X G
  have F5:=Law.nM "kin_spans" Law.dk "row" X G
  have F6:=Law.Iy "kin_end" Law.eP "numbers" "first" X G
  have F7:=Law.nM "gap_kins" Law.gn "row" X G
  have F8:=Law.nM "knots_in" Law.eQ "row" X G
  have F9:=Law.nM "web_of" Law.jf "kins" X G
  have F10:=Law.Iy "shortest_around" Law.bX "chain" "kins" X G
  have F11:=Law.nM "thinned_web" Law.dz "row" X G
  have F12:=Law.Iy "spare_things" Law.dm "web" "knots" X G
  have F13:=Law.nM "ends_of" Law.h7 "web" X G
  have F14:=Law.Iy "leg_from" Law.gq "end" "web" X G
  have F15:=Law.nM "knot_legs" Law.fu "row" X G
  have F16:=Law.nM "knot_cost" Law.fw "row" X G
  have F17:=Law.nM "legs_cost" Law.fy "legs" X G
  have F18:=Law.nM "turn_score" Law.fQ "row" X G
  have F19:=Law.Iy "_law_cell_at" Law.dA "script" "k" X G
  have F20:=Law.fn3 "_law_row_of_kins" Law.da "script" "at" "many" X G
  have F21:=Law.fn3 "_law_inflated" Law.d6 "script" "at" "room" X G
  have F22:=Law.Iy "_law_put_in" Law.d7 "row" "spot" X G
  have F23:=Law.nM "_law_nests" Law.gD "cell" X G
  have F24:=Law.nM "_law_spots" Law.fz "row" X G
  have F25:=Law.Iy "_law_crossing" Law.cz "one" "two" X G
  have F26:=Law.nM "_law_kinds" Law.fA "arcs" X G
  have F27:=Law.nM "_law_blocks" Law.cH "labels" X G
  have F28:=Law.nM "_law_hurdles" Law.cU "labels" X G
  have F29:=Law.nM "_law_hurdle_cost" Law.bY "labels" X G
  have F30:=Law.nM "_law_score" Law.gE "row" X G
  have F31:=Law.nM "_law_ring_count" Law.cA "row" X G
  have F32:=Law.nM "law" Law.C0 "script" X G
  cases M4.symm.trans F32.g
  refine'⟨_,fun s v=>.of_eq rfl,fun base _ _=>Law.Iv ⟨Qp X G (by k_is),Qp X G (by k_is),Qp X G (by k_is),Qp X G (by k_is),Qp X G (by k_is),Qp X G (by k_is),Qp X G (by k_is),Qp X G (by k_is),Qp X G (by k_is),Qp X G (by k_is),Qp X G (by k_is),Qp X G (by k_is),Qp X G (by k_is),Qp X G (by k_is),Qp X G (by k_is)⟩ F0 F1 F2 F3 F4 F5 F6 F7 F8 F9 F10 F11 F12 F13 F14 F15 F16 F17 F18 F19 F20 F21 F22 F23 F24 F25 F26 F27 F28 F29 F30 F31 F32⟩

