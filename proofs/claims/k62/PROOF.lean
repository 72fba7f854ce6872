import PyProof.Rows.All
import Wide.All
import OpenK.AllK
import Wide.FinOn
import Lean
import PyProof.EqAt
import PyProof.EqKinds
import PyProof.TupleCall
import KE.KRevSl
import PyProof.NeData
import PyProof.P3Eq
import PyProof.Rows.Range3
import PyProof.EnumMake
import PyProof.Draws
import PyProof.ZipIter
import KE.KDictList
import KE.KDictSum
import PyProof.WalkInts
import PyProof.Rows.SeqCalls
import PyProof.SetKind
import PyProof.DictKinds
import PyProof.CollectWalk
import PyProof.Rows.SetFrom
import PyProof.Rows.SortShell
import PySem.Challenge.RW_rootprime_k62_whole_steps_by_some_primes
set_option Elab.async false
set_option linter.all false
set_option maxRecDepth 100000
open Array renaming getElem?_eq_getElem->IS,length_toList->Jw,getElem?_eq_some_iff->Kz,getElem?_toList->Lm,append_assoc->Nt,getElem?_extract->Qc,getElem?_eq_none->Qe,getElem?_map->Ry,getElem_mem->RU,toList_push->RZ,toList_map->Ss,toList->Uy
open Bool renaming false_ne_true->Jk,false_eq_true->Lr,eq_iff_iff->L3,and_eq_true->M6,and_true->Oc,or_true->OC,true_and->Rn
open Classical renaming not_not->Mf
open False renaming elim->Kk
open ForInStep renaming yield->LH
open Int renaming toNat_natCast->IX,pow_succ->IY,dvd_of_emod_eq_zero->I0,emod_lt_of_pos->Jg,le_of_dvd->Jh,mul_le_mul_of_nonneg_right->Jj,mul_le_mul_of_nonneg_left->Jm,emod_nonneg->Jn,pow_zero->Jp,mul_nonpos_of_nonneg_of_nonpos->Jq,dvd_mul_of_dvd_right->JA,mul_ediv_cancel_left->JB,natCast_dvd_natCast->JF,mul_comm->JM,mul_assoc->JO,emod_eq_zero_of_dvd->JP,toNat_of_nonneg->JR,eq_of_mul_eq_mul_left->J5,emod_eq_of_lt->Kh,one_mul->Kt,mul_one->KP,natCast_mul->K1,dvd_mul_of_dvd_left->K6,natCast_ediv->Lu,dvd_add->Lx,emod_eq_emod_iff_emod_sub_eq_zero->LC,le_of_lt->LN,mul_le_mul->LW,mul_ediv_add_emod->LX,ediv_nonneg->L5,mul_emod->L8,dvd_trans->Mj,mul_nonneg->Mt,dvd_refl->MC,natCast_add->MJ,le_refl->MZ,natCast_pow->Np,add_zero->NL,le_trans->NO,le_ediv_of_mul_le->NY,emod_emod_of_dvd->Of,dvd_sub->Og,le_antisymm->Ov,fdiv_eq_ediv_of_nonneg->OS,dvd_neg->Pn,pow_mul->Pp,one_pow->Pq,ediv_le_self->PR,natCast_emod->P0,ediv_le_of_le_mul->QB,neg_mul->QK,mul_pos->QL,pow_one->QQ,pow_add->QV,emod_emod->Rj,ofNat_dvd_left->Rz,mul_neg->SD,mul_sub->SG,one_dvd->SM,add_assoc->Ur,zero_mul->UB,zero_dvd->UL,lt_or_le->UO,sub_mul->U4,add_mul->U5
open List renaming length_map->Iu,getElem?_eq_getElem->Iv,getElem?_eq_some_iff->IB,mem_of_getElem?->IC,getElem?_map->ID,mem_cons_of_mem->IG,mem_cons_self->IH,size_toArray->IP,map_append->IT,mem_cons->IU,mem_map->IV,mem_singleton->IW,mem_append_right->Ja,length_append->Js,take_add_one->Jv,map_cons->Jz,length_take->JE,take_length->JI,Nodup->JJ,mem_range->JQ,length_cons->JU,mem_append->J0,not_mem_nil->Ke,length_range->Ki,pairwise_cons->Kq,length_singleton->Ks,nodup_cons->Kx,range->Ky,filter_cons_of_neg->KA,getElem?_append_left->KC,filter_cons_of_pos->KI,getD_eq_getElem?_getD->KJ,lookup_cons->KL,filterMap_cons->KO,mem_iff_getElem?->KU,replicate->KY,mem_filter->K0,mem_iff_getElem->K5,mem_of_mem_take->K8,length_reverse->Lj,take_append_drop->Lo,contains_cons->Lq,length_nil->LI,getElem?_range->LL,getElem_mem->LR,pairwise_iff_getElem->LY,append_nil->L4,pairwise_map->L9,eraseIdx_eq_take_drop_succ->Mm,filter_eq_self->Mp,length_drop->Mr,any_eq_true->Mu,eq_nil_of_length_eq_zero->Mz,map_nil->MB,pairwise_lt_range->ME,find?_cons->MK,getElem?_eq_none->MO,getElem?_concat_length->MR,mem_append_left->MT,lookup->MU,getElem?_append_right->MW,all_eq_true->M7,map_map->Na,ext_getElem->Nb,getElem?_zip_eq_some->Nc,range_succ->Nr,length_eq_zero_iff->NA,getElem?_set_self->NB,take_of_length_le->NR,eraseIdxIfInBounds_toArray->NW,length_filter_le->NX,any_cons->Ob,getElem?_set_ne->Od,pairwise_append->Oi,mem_of_mem_drop->Oo,of_mem_zip->Ot,mem_filterMap->OL,nodup_nil->OV,length_eraseIdx_of_lt->OY,append_assoc->Pl,foldl_append->Py,set_comm->PB,getElem?_take_of_lt->PD,length_erase_of_mem->PK,pairwise_singleton->PV,getElem_cons_drop->Qd,length_pos_of_mem->Qg,length_set->Qi,length_replicate->Qu,getElem?_reverse->QC,getElem_toArray->QX,filter_sublist->Q9,length_pos_iff->Ra,map_congr_left->Rb,filterMap_map->Ru,take_sublist->RN,reverse_cons->RP,nodup_append->RT,perm_middle->Sr,length->Sy,length_zip->Tb,take_zero->TB,all_cons->Uj,any_map->UI
open List.Pairwise renaming imp_of_mem->Nk,nil->NK,map->Vr,imp->Vs
open List.Perm renaming trans->Qm,of_eq->Qn
open List.cons renaming injEq->Oz
open Nat renaming le_refl->IF,le_trans->IJ,lt_of_lt_of_le->IZ,ne_of_lt->Jd,mul_comm->Ju,eq_zero_or_pos->Jy,pow_succ->JX,lt_of_le_of_lt->J3,zero_le->J4,lt_irrefl->Ka,mul_assoc->Kb,ne_of_gt->Lc,le_mul_of_pos_left->Lh,mul_one->Lk,not_lt->Ls,dvd_trans->Lw,pow_pos->Ly,lt_succ_of_lt->LB,mul_div_cancel_left->LD,pow_zero->LO,le_of_dvd->LP,lt_succ_self->LQ,le_of_succ_le->L7,mul_pos->Ma,Coprime->Mb,gcd->Mc,le_succ->Mx,div_div_eq_div_mul->MG,div_add_mod->MI,dvd_of_mul_dvd_mul_left->MQ,mul_le_mul_right->MY,pow_le_pow_right->M4,le_of_lt->M5,mul_zero->M8,strongRecOn->Nl,not_lt_zero->Nq,mod_lt->Nx,le_of_eq->ND,lt_or_ge->NP,dvd_refl->OD,zero_mul->OE,div_one->Pz,le_mul_of_pos_right->PZ,dvd_of_mod_eq_zero->Qa,lt_trans->Qb,sub_zero->Qf,div_le_self->Qp,pow_dvd_pow->Qq,pos_of_dvd_of_pos->Qv,one_dvd->QM,mul_le_mul_left->Rc,gcd_dvd_right->RR,sub_self->R3,min_le_right->R9,dvd_antisymm->Si,gcd_dvd_left->Sj,div_add_mod'->Sn,div_eq_of_lt->Su,mul_add->SE,dvd_gcd->SH,one_mul->SI,one_pos->SK,mul_le_mul->Tq,mod_le->TC,le_total->UD,zero_add->UE,succ_mul->UM,gcd_comm->UN,pow_one->U6
open Nat.Coprime renaming dvd_of_dvd_mul_right->NN,pow_left->Oh,coprime_dvd_right->Ol,coprime_dvd_left->Ox,mul_dvd_of_dvd_of_dvd->RB,mul_left->U9
open Ne renaming symm->JC
open Option renaming some->Io,map_eq_some_iff->IE,isSome_iff_exists->Mh,getD_some->Ms,toList_some->OZ,isSome_map->Po,bind_some->PU,join->QZ,isSome_some->Rx,getD_none->Sa,none->U2
open Option.some renaming inj->JZ,injEq->NM
open Or renaming inl->Jf,inr->N6
open PyProof.Rows renaming slot_tuple_getitem->J7,callWith_type1->Kr,assignInOrder_cons->LS,slot_tupleiter_next->Nf,IntsAre->NJ,callWith_builtin1->N5,AllBare->Oa,entry_tuple_getitem->OB,slicePart_none->OP,args_tuple_getitem->OQ,zipApart_new->O4,assignInOrder_nil->Pd,Subscript_->P7,subscriptTail_builtinR->P8,IsTup->QE,entry_tupleiter_next->QN,args_tupleiter_next->Q8,tupleItemsOf_->Rg,unpackItems_tuple->RF,iadd_int->Tc,assign_Name->Um,boot_sorted->Uq,boot_set->UQ,tail_any->UX,Call_->Vo
open PyProof.Rows.F renaming plain_set_update_loop->LM,entry_set_update_loop->Ng
open PySem renaming wpAny_bind->Ip,Value->Ir,Addr->Iy,Shared->Iz,wpAny_pure->IA,PyData->IL,Program->IM,Str->Jb,World->Jo,Around->Jr,wpAny_newObj_type->Jt,Heap->JD,boot_len->JG,Expr->JH,wpAny_callSpecial?_slot->JK,wpAny_field->JS,wpAny_call_entry->JW,wpAny_mono->Kc,wpAny_setField->Kg,wpAny_holding->Kl,wpAny_loadPart_at->KR,FuncData->KW,wpAny_Call_Name_kw->K3,Obj->K9,Scope->La,wpAny_standAt->Lb,codeAny_mono->Lf,wpAny_typeNameOfWhole_keyiter->Lz,SetTable->LA,codeAny_builtin->LJ,mem_of_lookup->LK,wpAny_passesOwn->LZ,wpAny_truthy_bool->L6,wpAny_dictEntries->Md,wpAny_setState_of->Me,IsPair->Ml,Pos->Mn,Builtin->Mo,wpAny_setEntries_of->Mq,wpAny_seqItems->Mv,tupleKind_room_in1->MF,Stmt->MH,wpAny_attempt->MM,plainId_quiet->MN,wpAny_pyIter_list->MP,NameKind->MV,wpAny_fieldsOf->M3,wpAny_isInstance->M9,wpAny_isSubtype_exc->Nd,wpAny_comprehension_free->Nj,wpAny_rule->Nu,call_meets->Nw,sizeLine_eq->Ny,wpAny_bindName->NC,wpAny_typeOf->NI,Env->NS,plainObj_wpAny_Assign_Attribute->NT,builtinLookup_eq_fast->NZ,wpAny_askSetting->N7,codeAny_call_builtin->Oe,wpAny_execs_nil->Oq,codeAny_of_tree->Ou,DictEntry->OI,GenState->OJ,IsPart->OO,wpAny_setField_rec->OW,isSubtype_type->OX,wpAny_sequenceKey->Ph,slot_list_getitem->Pj,wpAny_of_eq->Pk,wpAny_pyIter_slot->Pt,fits_of_scanBound->Px,evalPart_none->PF,wpAny_getItem_list_slice->PH,noFill_tuple_add->PQ,wpAny_pyIter_zip->PX,wpAny_call->P6,wpAny_dictEpoch->Qj,wpAny_updateSeq->Qk,typeLookup_type->Ql,wpAny_ite_split->Qo,wpAny_isTrue_Compare1->Qr,wpAny_notOrdered_dict->Qx,wpAny_isOneOf_keyiter->Qy,wpAny_loadName_local->QF,Operator->QG,Result->QH,seqIndex_of->QI,wpAny_updateSeq_pair->QO,wpAny_letGo->QP,wpAny_throw->QT,isSubtype_stop->QU,Keyword->Q2,wpAny_loadName_cell->Q3,wpAt_of_wpAny->Q5,wpAny_raiseNew_none->Q7,seq_tuple_add->Rf,Comprehension->Rh,ExceptHandler->Ri,wpAny_onRaise->Rk,wpAny_handled->Rl,Paired->Rq,wpAny_pyIter_tuple->Rr,Within->RD,Model->RE,BindsTo->RM,concat_meets->RO,wpAny_pyIter_enum->RQ,passOn->RW,wpAny_storeSet_of->R0,wpAny_setEpoch_of->R1,wpAny_execs_cons->R4,wpAny_lookBehind->R7,pastItsLine_dict->R8,wpAny_madeBy_exc->Sg,wpAny_Dict_empty->Sk,wpAny_Slice->Sz,wpAny_alloc->SA,IsZip->SJ,exec_Assign_arm->SN,pushCells_keeps->SV,wpAt_bind->SW,wpAny_specialOf->SX,size_of_entries->SY,wpAny_Name->Te,wpAny_load->Tf,wpAny_loadPart->Th,call->Tj,relayAll->Tu,entryFor_alias->Tw,wpAny_runValue->Tx,Sem->TZ,intBits_le_64->T3,eval_ListComp->Uk,Drawn->Ut,ClassData->Uw,Meets->Ux,OsState->UC,newExc->UH,layNew->UJ,ElemsOf->UK,CmpOp->US,ReadsAll->U3,ZipApart->U8,Params->Vl,Reads->Vq
open PySem.Around renaming under_plainId->K7,under->P4
open PySem.Builtin.Dict renaming takeOut->QR,keyAndDefault->Tt,dictSlotNone->TV,pendingCount->TX,showsAll->UP
open PySem.Builtin.Frozenset renaming sizeOf->PL,updateFrom->Ta,newClass->Tz
open PySem.Builtin.List renaming listLengthHint->OG,listExtendWith->OH,listSameRef->PM
open PySem.Builtin.Slice renaming sliceAdjust->Kd,slicePlaces->KD,sliceApplied->LV,sliceFields->O0,slicePartIndex->SR
open PySem.Builtin.SmallTypes renaming nextOf->KN
open PySem.Builtin.Tuple renaming tupleExact->Km,tupleItemsOf->MX,tupleIsExact->Ts
open PySem.Calls renaming Name_function_global->OK,spliced_cons->ON,call_function_entry->Pa,spliced_nil->Pg,callWith_builtin->P9,evalArgs_plain->QJ
open PySem.Code renaming quiet_builtin->OT,isFrame->P5,frames->Sx,isCreation->SQ,isCaller->Ui,isGuard->Uz,weight->UW
open PySem.EqMixed renaming eq_bool_str->TK,eq_str_bool->TL,ne_bool_str->TR,ne_str_bool->TU,eq_int_str->T8,eq_str_int->Ua,ne_int_str->Ue,ne_str_int->Uh
open PySem.EqNone renaming eq_none_none->TF,eq_none_bool->TH,eq_bool_none->TJ,ne_none_none->TM,ne_none_bool->TN,ne_bool_none->TQ,eq_none_int->T4,eq_none_str->T5,eq_int_none->T7,eq_str_none->T9,ne_none_int->Ub,ne_none_str->Uc,ne_int_none->Ud,ne_str_none->Ug
open PySem.F renaming plainAttrs_list->JY,slot_list_append->Kv,slot_dict_keyiterator_next->K2,called_set->K4,excBase_ValueError->Lg,args_tuple_add_2->Ni,entry_tuple_add->Nz,slot_tuple_add->NH,args_dict_keyiterator_next_1->N9,entry_dict_keyiterator_next->Om,slot_zip_next->Ow,plain_extend_loop->Pb,plain_list_iadd->PY,slot_dict_pop->Qw,slot_list_remove->Qz,plain_set_new->QA,slot_list_index->QW,slot_list_pop->Rv,args_zip_next_1->RS,entry_zip_next->Sl,slot_dict_iter->Sm,slot_dict_len->S0
open PySem.Heap renaming get?_push_of_some->Iw,get?_push_size->II,lt_size->IK,get?_update_other->Jc,get?_update_self->Jx,size_push->JL,SameBut->Ku,ExtBut->Oj,size_update->Sh
open PySem.Heap.IsSliceOf renaming new->OR
open PySem.Heap.SameBut renaming update->JV,refl->Vt
open PySem.MeetsSeq renaming plain_remove_loop->NQ,entry_remove_loop->RV
open PySem.Obj renaming mapFields->Kn,data_mapFields->Ko,isFreed_of_fields->Ln,mapSeq->Mi,cls_mapFields->Pu,data_mapDictKeys->QS,putSet->Tv
open PySem.Paired renaming length->Nh,snoc->U7
open PySem.PassesOwn renaming never->IQ
open PySem.PyData renaming canLayAll0->KS,depthAll->Ll,eqv->MD,int->N8,depth->OF,canLay0->OU,eqvAll->PJ,tuple->UG
open PySem.SeqAt renaming EqAt->Sb,in_listAt->SU
open PySem.SeqAt.EqAt renaming int_str->Ro,str_int->Rp,none_bool->UY,bool_none->UZ,bool_bool->U0,none_int->Va,none_str->Vb,bool_int->Vc,bool_str->Vd,int_none->Ve,int_bool->Vf,str_none->Vg,str_bool->Vh,int_int->Vj,str_str->Vk,same->Vw
open PySem.SetTable renaming below->JT,insertAt->Li,grown->Mw,advance->So
open PySem.Str renaming ofString->J6,empty->Uv
open PySem.Value renaming ref->Ji,none->Kj,bool->Mg,type->MA,int->ML,isInt->MS,str->Q0,isInt_shape->RC,float->Sw,isStrOf->TY,bytes->UR
open PySem.W renaming Frag->Iq,mg_none_of->JN,kia_one->Kw,fnOf->KG,emptyDict->KQ,mg_of->KZ,findIn->Le,instObj->LG,keepIn->LU,callWith_K->Nv,cellsFrom_some->NF,codeIn->NG,plainGet->N3,plainGet_of->OA,lookIn->OM,methodObj->Pc,hasDictIn->Pe,kitx_list->Pf,OpenLaw->P1,takerIn->Qh,looks_findIn->Qs,methodCall_KW->Qt,looks_clsIn->Q1,callWith_K0->Q4,kitx_tuple->Rt,isFn->RG,plainOver->RH,set_plain->RI,kitx_dict->RL,handedIn->R6,makesIn->SO,WalkO->Td,InstAt->Tg,kitOne->Ti,kIn_of->Tn,nsIn->UA,Looks->Vp
open PySem.W.Looks renaming here->N4
open Sum renaming inr->Kf,inl->Lv
open Sum.inl renaming inj->QD
noncomputable section
namespace L2
open PySem PySem.Spec PyProof.Rows
abbrev Key:=Sum Int Jb
def nK:Key->Ir->Bool
 | .inl k,v=>MS k v
 | .inr x,v=>TY x v
def Hh (w:Jo):Key->Int
 | .inl k=>hashInt k
 | .inr x=>hashStr w x
theorem bO:∀{k:Key} {v:Ir},nK k v=true->(∃ i t,k=Lv i/\v=ML i t)∨(∃ x t,k=Kf x/\v=Q0 x t)
 | .inl i,v,h=>by obtain⟨t,e⟩:=RC (k:=i) (v:=v) h;exact .inl ⟨i,t,rfl,e⟩
 | .inr x,v,h=>by obtain⟨t,e⟩:=Value.isStrOf_shape (x:=x) (v:=v) h;exact .inr ⟨x,t,rfl,e⟩
theorem wc (i:Int) (t:Tok):nK (.inl i) (.int i t)=true:=by simp [nK,MS]
theorem we (x:Jb) (t:Tok):nK (.inr x) (.str x t)=true:=by simp [nK,TY]
theorem D4 (a b:Int):decide ((Lv a:Key)=Lv b)=(a==b):=by
 by_cases e:a=b
 ·subst e;simp
 ·have h:¬(Lv a:Key)=Lv b:=λq=>e (QD q);rw [decide_eq_false h];exact (beq_eq_false_iff_ne.mpr e).symm
theorem D7 (a b:Jb):decide ((Kf a:Key)=Kf b)=decide (a=b):=by
 by_cases e:a=b
 ·subst e;simp
 ·have h:¬(Kf a:Key)=Kf b:=λq=>e (Sum.inr.inj q);rw [decide_eq_false h,decide_eq_false e]
theorem D5 (a:Int) (b:Jb):decide ((Lv a:Key)=Kf b)=false:=decide_eq_false (λq=>nomatch q)
theorem D6 (a:Jb) (b:Int):decide ((Kf a:Key)=Lv b)=false:=decide_eq_false (λq=>nomatch q)
def bP (prog:IM) (w:Jo):PySem.KeyKind prog w Key where
 is:=nK
 hash:=Hh w
 inj:=λv a b ha hb=>by
  rcases bO ha with⟨i,t,rfl,rfl⟩|⟨x,t,rfl,rfl⟩
  ·rcases bO hb with⟨j,u,rfl,e⟩|⟨y,u,rfl,e⟩
   ·injection e with e1 _;rw [e1]
   ·exact nomatch e
  ·rcases bO hb with⟨j,u,rfl,e⟩|⟨y,u,rfl,e⟩
   ·exact nomatch e
   ·injection e with e1 _;rw [e1]
 byValue:=λk v h=>by rcases bO h with⟨i,t,rfl,rfl⟩|⟨x,t,rfl,rfl⟩<;>rfl
 pyHash:=λhv h=>by
  rcases bO hv with⟨i,t,rfl,rfl⟩|⟨x,t,rfl,rfl⟩
  ·exact wpAny_pyHash_int h
  ·exact wpAny_pyHash_str h
 eqBool:=λhu hv h=>by
  rcases bO hu with⟨i,t,rfl,rfl⟩|⟨x,t,rfl,rfl⟩
  ·rcases bO hv with⟨j,u,rfl,rfl⟩|⟨y,u,rfl,rfl⟩
   ·rw [D4] at h;exact wpAny_eqBool_int h
   ·rw [D5] at h;exact Ro i t y u _ _ _ _ h
  ·rcases bO hv with⟨j,u,rfl,rfl⟩|⟨y,u,rfl,rfl⟩
   ·rw [D6] at h;exact Rp x t j u _ _ _ _ h
   ·rw [D7] at h;exact wpAny_eqBool_str h
 «strs»:=λk x t v h=>by
  rcases bO h with⟨i,u,rfl,e⟩|⟨y,u,rfl,e⟩
  ·exact nomatch e
  ·injection e with e1 _
   subst e1;cases v<;>rfl
theorem rh (prog:IM) (w:Jo) (i:Int) (t:Tok):(bP prog w).is (.inl i) (.int i t)=true:=wc i t
theorem rj (prog:IM) (w:Jo) (x:Jb) (t:Tok):(bP prog w).is (.inr x) (.str x t)=true:=we x t
inductive V where
 | non | bl (b:Bool) | int (i:Int) | str (x:Jb) | byt (b:Array UInt8) | flt (b:UInt64) | ref (a:Iy) | ty (n:String)
 deriving DecidableEq
def RelV:V->Ir->Prop
 | .non,u=>u=Kj
 | .bl b,u=>u=Mg b
 | .int i,u=>∃ t,u=ML i t
 | .str x,u=>∃ t,u=Q0 x t
 | .byt b,u=>∃ t,u=UR b t
 | .flt b,u=>∃ t,u=Sw b t
 | .ref a,u=>u=Ji a
 | .ty n,u=>u=MA n
abbrev Vals:List V->List Ir->Prop:=Rq RelV
theorem Vals.length {xs:List V} {us:List Ir} (r:Vals xs us):xs.length=us.length:=Nh r
theorem Vals.get:∀{xs:List V} {us:List Ir} {i:Nat} {x:V},Vals xs us->xs[i]?=Io x->∃ u,us[i]?=Io u/\RelV x u
 | _,_,_,_,.nil,e=>by simp at e
 | _,_,0,_,.cons r _,e=>by simp at e;subst e;exact⟨_,rfl,r⟩
 | _,_,i+1,x,.cons _ t,e=>by obtain⟨u,h1,h2⟩:=Vals.get (i:=i) (x:=x) t (by simpa using e);exact⟨u,by simpa using h1,h2⟩
theorem Vals.set {x:V} {u:Ir} (r:RelV x u):∀{xs:List V} {us:List Ir} (i:Nat),Vals xs us->Vals (xs.set i x) (us.set i u)
 | _,_,_,.nil=>.nil
 | _,_,0,.cons _ t=>.cons r t
 | _,_,i+1,.cons q t=>.cons q (Vals.set r i t)
theorem Vals.append:∀{xs ys:List V} {us ws:List Ir},Vals xs us->Vals ys ws->Vals (xs++ys) (us++ws)
 | _,_,_,_,.nil,s=>s
 | _,_,_,_,.cons r t,s=>.cons r (Vals.append t s)
theorem Vals.take:∀{xs:List V} {us:List Ir} (n:Nat),Vals xs us->Vals (xs.take n) (us.take n)
 | _,_,0,_=>.nil
 | _,_,_+1,.nil=>.nil
 | _,_,n+1,.cons r t=>.cons r (Vals.take n t)
theorem Vals.drop:∀{xs:List V} {us:List Ir} (n:Nat),Vals xs us->Vals (xs.drop n) (us.drop n)
 | _,_,0,r=>r
 | _,_,_+1,.nil=>.nil
 | _,_,n+1,.cons _ t=>Vals.drop n t
def ff:Option V->Option Ir->Prop
 | some v,Io u=>RelV v u
 | none,none=>True
 | _,_=>False
def KV {κ:Type}:List (κ × V)->List (κ × Ir)->Prop:=Rq fun(p:κ × V) (q:κ × Ir)=>p.1=q.1/\RelV p.2 q.2
noncomputable def kV:Key->V
 | .inl i=>.int i
 | .inr x=>.str x
inductive HO where
  | lst (xs:List V)
  | tup (xs:List V)
  | dK (kvs:List (Key × V)) | dT (kvs:List (List Key × V))
  | set (S:Int->Bool) (n:Nat)
  | ins (C dx:Iy) (fs:List (Jb × V))
  | own (x:Iy)
  | xd (fs:List (Jb × V))
  | met (f x:Iy)
  | rng (lo hi:Int)
  | frz (o:K9) (u:HO)
  | tbl (ps:Array Ir)
  | ext (φ:JD->Prop)
abbrev Hp:=Iy->Option HO
def upd (H:Hp) (a:Iy) (o:HO):Hp:=λb=>if b=a then Io o else H b
theorem ag {H:Hp} {a:Iy} {o:HO}:upd H a o a=Io o:=by unfold upd;rw [if_pos rfl]
theorem ao {H:Hp} {a b:Iy} {o:HO} (h:b≠a):upd H a o b=H b:=by unfold upd;rw [if_neg h]
theorem Cr {H:Hp} {a:Iy} {o u:HO}:upd (upd H a o) a u=upd H a u:=by funext b;unfold upd;split<;>rfl
theorem bI {H:Hp} {a b:Iy} {o u:HO} (h:H a=Io o) (h':H b=Io u) (d:o≠u):a≠b:=by intro e;subst e;rw [h] at h';exact d (JZ h')
theorem aP {H:Hp} {a b:Iy} {o:HO} (h:H a=Io o) (h':H b=none):a≠b:=by intro e;subst e;rw [h] at h';cases h'
section
variable (P:IM) (w:Jo)
def bG (H:Hp) (h:JD) (a:Iy):HO->Prop
 | .lst xs=>xs.length<=sizeLine/\∃(its:List Ir) (n:Nat),Vals xs its/\h.get? a=Io { cls:=.type "list",data:=.seq its.toArray n }
 | .tup xs=>xs.length<=sizeLine/\∃ its:List Ir,Vals xs its/\QE h a its.toArray
 | .dK kvs=>kvs.length<=sizeLine/\(a==sysModules)=false/\∃ vs,KV kvs vs/\h.DictOf (bP P w) a vs
 | .dT kvs=>kvs.length<=sizeLine/\(a==sysModules)=false/\∃ xs:List (List Key × Iy × Ir),
   Rq (fun(p:List Key × V) (q:List Key × Iy × Ir)=>p.1=q.1/\H q.2.1=Io (.tup (p.1.map kV))/\RelV p.2 q.2.2) kvs xs /\
   ∃ o es ep,h.get? a=Io o/\o.ExactDict/\o.data=.dict es ep/\es.toList=xs.map (entryOfKey (tupleKind (bP P w)))/\(xs.map (·.1)).Nodup
 | .set S n=>h.SetOf (intKind P w) a S n
 | .ins C dx fs=>H dx=Io (.own a)/\fs.length<=1000/\dx≠a/\h.get? a=Io (LG C dx) /\
   ∃ mA,h.Ns1 dx mA/\(∀ f,ff (fs.lookup f) (mA f))/\RD mA (fs.map (·.1))
 | .own _=>∃ o,h.get? a=Io o
 | .xd fs=>∃ mA,h.Ns1 a mA/\∀ f,ff (fs.lookup f) (mA f)
 | .rng lo hi=>∃ t u v,h.get? a=Io { cls:=.type "range",data:=.fields #[.int lo t,.int hi u,.int 1 v] }
 | .frz o u=>h.get? a=Io o/\bG H h a u
 | .tbl ps=>h.get? a=Io { cls:=.none,data:=.fields ps }
 | .met f x=>h.get? a=Io (Pc (.ref f) (.ref x))
 | .ext φ=>φ h/\(∃ o,h.get? a=Io o)/\∀ h1 h2:JD,φ h1->(∀ o,h1.get? a=Io o->h2.get? a=Io o)->φ h2
def gf (H:Hp) (h:JD):Prop:=∀ a o,H a=Io o->bG P w H h a o
end
section
variable {P:IM} {w:Jo} {H H':Hp} {h h':JD} {a:Iy} {o:HO}
theorem bG.lt (x:bG P w H h a o):a<h.objs.size:=by
 cases o with
 | lst xs=>obtain⟨_,_,_,_,e⟩:=x;exact IK e
 | tup xs=>obtain⟨_,_,_,p⟩:=x;exact p.lt
 | dK kvs=>obtain⟨_,_,_,_,o,_,_,e,_⟩:=x;exact IK e
 | dT kvs=>obtain⟨_,_,_,_,o,_,_,e,_⟩:=x;exact IK e
 | set S n=>obtain⟨o,_,_,_,e,_⟩:=x;exact IK e
 | ins C dx fs=>obtain⟨_,_,_,e,_⟩:=x;exact IK e
 | own y=>obtain⟨_,e⟩:=x;exact IK e
 | xd fs=>obtain⟨_,⟨_,_,_,e,_⟩,_⟩:=x;exact IK e
 | rng lo hi=>obtain⟨_,_,_,e⟩:=x;exact IK e
 | frz ob u=>obtain⟨e,_⟩:=x;exact IK e
 | tbl ps=>exact IK (show h.get? a=Io _ from x)
 | met f y=>exact IK (show h.get? a=Io _ from x)
 | ext φ=>obtain⟨_,⟨_,e⟩,_⟩:=x;exact IK e
theorem Paired.Ee {α β:Type} {F G:α->β->Prop}:∀{l₁:List α} {l₂:List β},Rq F l₁ l₂->(∀ a b,F a b->G a b)->Rq G l₁ l₂
 | _,_,.nil,_=>.nil
 | _,_,.cons r t,f=>.cons (f _ _ r) (Paired.Ee t f)
theorem bG.eQ (x:bG P w H h a o) (k:∀ b u,(b=a∨H b=Io (.own a))->h.get? b=Io u->h'.get? b=Io u)
  (ho:∀ b,H b=Io (.own a)->H' b=Io (.own a)) (ht:∀ b xs,H b=Io (.tup xs)->H' b=Io (.tup xs)):bG P w H' h' a o:=by
 induction o with
 | lst xs=>obtain⟨z,its,n,r,e⟩:=x;exact⟨z,its,n,r,k _ _ (.inl rfl) e⟩
 | tup xs=>obtain⟨z,its,r,ob,e,c⟩:=x;exact⟨z,its,r,ob,k _ _ (.inl rfl) e,c⟩
 | dK kvs=>obtain⟨z,y,vs,r,ob,es,ep,e,c⟩:=x;exact⟨z,y,vs,r,ob,es,ep,k _ _ (.inl rfl) e,c⟩
 | dT kvs =>obtain⟨z,y,xs,r,ob,es,ep,e,c⟩:=x;exact⟨z,y,xs,Paired.Ee r λp q z=>⟨z.1,ht _ _ z.2.1,z.2.2⟩,ob,es,ep,k _ _ (.inl rfl) e,c⟩
 | set S n=>obtain⟨ob,es,ep,t,e,c⟩:=x;exact⟨ob,es,ep,t,k _ _ (.inl rfl) e,c⟩
 | ins C dx fs =>obtain⟨d,z,ne,e,mA,⟨od,es,ep,e2,c⟩,r⟩:=x;exact⟨ho _ d,z,ne,k _ _ (.inl rfl) e,mA,⟨od,es,ep,k _ _ (.inr d) e2,c⟩,r⟩
 | own y=>obtain⟨ob,e⟩:=x;exact⟨ob,k _ _ (.inl rfl) e⟩
 | xd fs=>obtain⟨mA,⟨od,es,ep,e,c⟩,r⟩:=x;exact⟨mA,⟨od,es,ep,k _ _ (.inl rfl) e,c⟩,r⟩
 | rng lo hi=>obtain⟨t,u,v,e⟩:=x;exact⟨t,u,v,k _ _ (.inl rfl) e⟩
 | frz ob u ih=>obtain⟨e,q⟩:=x;exact⟨k _ _ (.inl rfl) e,ih q⟩
 | tbl ps =>have e:h.get? a=Io { cls:=.none,data:=.fields ps }:=x;show h'.get? a=Io { cls:=.none,data:=.fields ps };exact k a _ (.inl rfl) e
 | met f y =>have e:h.get? a=Io (Pc (.ref f) (.ref y)):=x;show h'.get? a=Io (Pc (.ref f) (.ref y));exact k a _ (.inl rfl) e
 | ext φ=>obtain⟨p,⟨o,e⟩,st⟩:=x;exact⟨st _ _ p λo q=>k _ _ (.inl rfl) q,⟨o,k _ _ (.inl rfl) e⟩,st⟩
theorem gf.lt (x:gf P w H h) (e:H a=Io o):a<h.objs.size:=(x a o e).lt
theorem gf.fresh (x:gf P w H h) (e:h.objs.size<=a):H a=none:=by
 cases q:H a with
 | none=>rfl
 | some u=>exact absurd (IZ (x.lt q) e) (Ka _)
theorem gf.kept (x:gf P w H h) (k:∀ b u,h.get? b=Io u->h'.get? b=Io u):gf P w H h':=λa o e =>(x a o e).eQ (λb u _ q=>k b u q) (λ_ q=>q) λ_ _ q=>q
theorem gf.laid (x:gf P w H h) (k:∀ b u,h.get? b=Io u->h'.get? b=Io u) (hp:h.objs.size<=a) (new:bG P w (upd H a o) h' a o):gf P w (upd H a o) h':=λb u e=>by
 have hn:=x.fresh hp;by_cases hb:b=a
 ·subst hb;rw [ag] at e;cases e;exact new
 ·rw [ao hb] at e;exact (x b u e).eQ (λc v _ q=>k c v q) (λc q=>by rw [ao (aP q hn)];exact q) λc xs q=>by rw [ao (aP q hn)];exact q
end
def Rd (H:Hp) (a:Iy) (u:HO):Prop:=H a=Io u∨∃ o,H a=Io (.frz o u)
theorem Rd.ok {P:IM} {w:Jo} {H:Hp} {h:JD} {a:Iy} {u:HO} (r:Rd H a u) (x:gf P w H h):bG P w H h a u:=by
 rcases r with r | ⟨o,r⟩
 ·exact x a u r
 ·obtain⟨_,q⟩:=x a _ r;exact q
def Ft:Option HO->Prop
 | some (.lst _)=>True
 | some (.dK _)=>True
 | some (.dT _)=>True
 | some (.set _ _)=>True
 | some (.ins _ _ _)=>True
 | some (.ext _)=>True
 | _=>False
section
variable {P:IM} {w:Jo} {H:Hp} {h h':JD} {x e:Iy} {o':HO}
theorem gf.write (ok:gf P w H h) (mu:Ft (H x)) (he:e=x∨H e=Io (.own x)) (k:∀ b u,b≠e->h.get? b=Io u->h'.get? b=Io u) (heo:∃ u,h'.get? e=Io u)
  (new:bG P w (upd H x o') h' x o'):gf P w (upd H x o') h':=λb u q=>by
 have nown:∀ c y,H c=Io (.own y)->c≠x:=λc y r z=>by subst z;rw [r] at mu;exact mu
 have ntup:∀ c xs,H c=Io (.tup xs)->c≠x:=λc xs r z=>by subst z;rw [r] at mu;exact mu
 by_cases hb:b=x
 ·subst hb;rw [ag] at q;cases q;exact new
 ·rw [ao hb] at q;by_cases hbe:b=e
  ·have q':H b=Io (.own x):=by
    rcases he with z | z
    ·exact absurd (hbe.trans z) hb
    ·rw [hbe];exact z
   rw [q] at q';cases q';obtain⟨v,hv⟩:=heo;exact⟨v,by rw [hbe];exact hv⟩
  ·refine (ok b u q).eQ (λc v hc r=>k c v ?_ r) (λc r=>by rw [ao (nown c b r)];exact r) λc xs r=>by rw [ao (ntup c xs r)];exact r
   rcases hc with rfl | hc
   ·exact hbe
   ·rintro rfl;rcases he with z | z
    ·exact nown c b hc z
    ·rw [hc] at z;cases z;exact hb rfl
end
structure Un (fs ex:List Iy) (H H':Hp) (h h':JD):Prop where
 keep:∀ b o,h.get? b=Io o->H b=none->b∉fs->b∉ex->h'.get? b=Io o
 slot:∀ b o,h.get? b=Io o->H b=none->b∈fs->b∉ex->∃ sl,h'.get? b=Io { o with slots:=sl }
 free:∀ b o,h.get? b=Io o->H b=none->b∉ex->H' b=none
 there:∀ b o,h.get? b=Io o->b∉ex->∃ o',h'.get? b=Io o'
 tups:∀ b xs,H b=Io (.tup xs)->H' b=Io (.tup xs)
 frzs:∀ b o u,H b=Io (.frz o u)->H' b=Io (.frz o u)
 tbls:∀ b ps,H b=Io (.tbl ps)->∃ more,H' b=Io (.tbl (ps++more))
section
variable {fs fs' ex ex':List Iy} {H H1 H2:Hp} {h h1 h2 h':JD} {a x e:Iy} {o:HO}
theorem Un.any (u:Un fs ex H H1 h h1) {b:Iy} {ob:K9} (q:h.get? b=Io ob) (n:H b=none) (hx:b∉ex):∃ sl,h1.get? b=Io { ob with slots:=sl }:=by
 by_cases hb:b∈fs
 ·exact u.slot b ob q n hb hx
 ·exact⟨ob.slots,u.keep b ob q n hb hx⟩
theorem Un.trans (a:Un fs ex H H1 h h1) (b:Un fs ex H1 H2 h1 h2):Un fs ex H H2 h h2 where
 keep:=λc ob q n hc hx=>b.keep c ob (a.keep c ob q n hc hx) (a.free c ob q n hx) hc hx
 slot:=λc ob q n hc hx=>by obtain⟨sl,e1⟩:=a.slot c ob q n hc hx;obtain⟨sl',e2⟩:=b.slot c _ e1 (a.free c ob q n hx) hc hx;exact⟨sl',e2⟩
 free:=λc ob q n hx=>by obtain⟨o',e1⟩:=a.there c ob q hx;exact b.free c o' e1 (a.free c ob q n hx) hx
 there:=λc ob q hx=>by obtain⟨o',e1⟩:=a.there c ob q hx;exact b.there c o' e1 hx
 tups:=λc xs q=>b.tups c xs (a.tups c xs q)
 frzs:=λc ob xs q=>b.frzs c ob xs (a.frzs c ob xs q)
 tbls:=λc ps q=>by obtain⟨m1,e1⟩:=a.tbls c ps q;obtain⟨m2,e2⟩:=b.tbls c _ e1;exact⟨m1++m2,by rw [e2,Nt]⟩
theorem Un.kept (k:∀ b u,h.get? b=Io u->h'.get? b=Io u):Un fs ex H H h h' :=
 ⟨λb ob q _ _ _=>k b ob q,λb ob q _ _ _=>⟨ob.slots,k b ob q⟩,λ_ _ _ n _=>n,λb ob q _=>⟨ob,k b ob q⟩,λ_ _ q=>q,λ_ _ _ q=>q,λ_ ps q=>⟨#[],by rw [q];simp⟩⟩
theorem Un.refl:Un fs ex H H h h:=Un.kept λ_ _ q=>q
theorem Un.laid (k:∀ b u,h.get? b=Io u->h'.get? b=Io u) (hp:h.objs.size<=a) (hn:H a=none):Un fs ex H (upd H a o) h h' where
 keep:=λb u q _ _ _=>k b u q
 slot:=λb u q _ _ _=>⟨u.slots,k b u q⟩
 free:=λb u q n _=>by rw [ao (Jd (IZ (IK q) hp))];exact n
 there:=λb u q _=>⟨u,k b u q⟩
 tups:=λb xs q=>by rw [ao (aP q hn)];exact q
 frzs:=λb u xs q=>by rw [ao (aP q hn)];exact q
 tbls:=λb ps q=>⟨#[],by rw [ao (aP q hn),q];simp⟩
theorem Un.write (mu:Ft (H x)) (he:e=x∨H e=Io (.own x)) (k:∀ b u,b≠e->h.get? b=Io u->h'.get? b=Io u) (heo:∃ u,h'.get? e=Io u):Un fs ex H (upd H x o) h h':=by
 have hx:∀ b,H b=none->b≠x:=λb n z=>by subst z;rw [n] at mu;exact mu
 have hb:∀ b,H b=none->b≠e:=λb n z=>by
  subst z;rcases he with r | r
  ·exact hx b n r
  ·rw [n] at r;cases r
 have hm:∀ b u,H b=Io u->¬Ft (Io u)->b≠x:=λb u q nm z=>by subst z;rw [q] at mu;exact nm mu
 refine⟨λb u q n _ _=>k b u (hb b n) q,λb u q n _ _=>⟨u.slots,k b u (hb b n) q⟩,λb u q n _=>by rw [ao (hx b n)];exact n,λb u q _=>?_,
  λb xs q=>by rw [ao (hm b _ q λz=>z)];exact q,λb u xs q=>by rw [ao (hm b _ q λz=>z)];exact q,λb ps q=>⟨#[],by rw [ao (hm b _ q λz=>z),q];simp⟩⟩
 by_cases hbe:b=e
 ·subst hbe;exact heo
 ·exact⟨u,k b u hbe q⟩
theorem Un.mono (u:Un fs ex H H1 h h1) (hs:∀ b∈fs,b∈fs') (hx:∀ b∈ex,b∈ex'):Un fs' ex' H H1 h h1 :=
 ⟨λb ob q n hb he=>u.keep b ob q n (λz=>hb (hs b z)) λz=>he (hx b z),λ_ _ q n _ he=>u.any q n λz=>he (hx _ z),λb ob q n he=>u.free b ob q n λz=>he (hx b z),λb ob q he=>u.there b ob q λz=>he (hx b z),u.tups,u.frzs,u.tbls⟩
end
noncomputable def GR (h:JD) (H:Hp):List Iy:=(Ky h.objs.size).filter λa=>(H a).isSome
def oZ (h:JD) (H:Hp):JD:=PySem.W.hideAll h (GR h H)
theorem v8 (h:JD) (H:Hp):(oZ h H).objs.size=h.objs.size:=PySem.W.hideAll_size _ _
theorem yp {h:JD} {H:Hp} {b:Iy} {o:K9} (e:h.get? b=Io o) (n:H b=none):(oZ h H).get? b=Io o :=
 PySem.W.hideAll_get _ e λhm=>by have q:(H b).isSome=true:=(K0.mp hm).2;rw [n] at q;simp at q
theorem By {h:JD} {H:Hp} {b:Iy} {o:K9} (e:(oZ h H).get? b=Io o):h.get? b=Io o/\H b=none:=by
 have e':h.get? b=Io o:=PySem.W.of_hideAll (GR h H) e;refine⟨e',?_⟩;cases q:H b with
 | none=>rfl
 | some x =>have hm:b∈GR h H:=K0.mpr ⟨JQ.mpr (IK e'),by simp [q]⟩;have z:(oZ h H).get? b=none:=PySem.W.hideAll_none (GR h H) hm;rw [z] at e;cases e
noncomputable def AS (g h:JD) (L:Iy):List (Iy × K9):=(Ky h.objs.size).filterMap λa=>if a=L∨(g.get? a).isSome=true then none else (h.get? a).map λo=>(a,o)
noncomputable def rest (g h:JD) (L d:Iy):List (Iy × K9):=(AS g h L).filter λp=>decide (p.1≠d)
structure Mod (K:Iq) (mg:Jb->Option Ir) (base:JD):Prop where
 kin:K.In base
 glob:base.Ns mainGlobals mg
 blt:∃ mb,base.Ns builtinsNs mb/\∀ x:Jb,x ≠ "__name__"->mb x=bootBuiltins x
 nolimit:base.NoLimit
structure Cx where
 prog:IM
 w:Jo
 K:Iq
 mg:Jb->Option Ir
 base:JD
 A:Jr
 N:List Jb
 s₀:Iz
 H₀:Hp
 env:NS
 outer:List NS
 stack:List NS
 ex:List Iy
 fn:Jb->Bool
 calm:Bool
 pn:List (Iy × K9)
 xe:Ir->Iz->Prop
noncomputable def d7 (l:List NS):List Iy:=l.filterMap (·.frame)
abbrev Cx.fs (X:Cx):List Iy:=d7 X.outer
def Fb (sc:La) (x:Jb):Prop:=sc.names.lookup x=Io .local∨sc.names.lookup x=Io .cell∨sc.names.lookup x=Io .free
def Loc (sc:La) (x:Jb):Prop:=sc.names.lookup x=Io .local∨sc.names.lookup x=Io .cell
def Look (env:NS) (h:JD) (m:Jb->Option Ir) (x:Jb) (u:Ir):Prop :=
 (env.kindOf x=Io .local/\m x=Io u)∨((env.kindOf x=Io .cell∨env.kindOf x=Io .free)/\∃ c,env.cells.lookup x=Io c/\h.IsCell c (Io u))
structure Cx.Ok (X:Cx):Prop where
 mod:Mod X.K X.mg X.base
 kind:X.env.scope.kind=.function
 glob:X.env.globals=mainGlobals
 blt:X.env.builtins=builtinsNs
 above:X.s₀.heap.objs.size<=X.env.locals
 inj:∀ x y c,X.env.cells.lookup x=Io c->X.env.cells.lookup y=Io c->x=y
 has:∀ x,(X.env.kindOf x=Io .cell∨X.env.kindOf x=Io .free)->∃ c,X.env.cells.lookup x=Io c
 cab:∀ x c,X.fn x=true->X.env.cells.lookup x=Io c->X.s₀.heap.objs.size<=c
 hd:X.calm=true->X.A.handled=none
 frames:X.A.frames=Io X.stack
 stk:X.stack=X.outer∨(X.stack=X.env::X.outer/\X.env.frame=Io X.env.locals)
 exf:∀ b∈X.ex,b≠X.env.locals/\∀ x c,X.env.cells.lookup x=Io c->c≠b
 bs:∀ b o,X.base.get? b=Io o->X.s₀.heap.get? b=Io o/\X.H₀ b=none
 bsz:X.base.objs.size<=X.s₀.heap.objs.size
 noex:∀ b o,X.base.get? b=Io o->b∉X.ex
 exfs:∀ b∈X.ex,b∉X.fs
 kG:X.s₀.heap.FunFrames X.base X.outer
 frf:∀ b∈X.fs,X.H₀ b=none
structure Inv (X:Cx) (pins:List (Iy × K9)) (σ:List (Option V)) (H:Hp) (s:Iz):Prop where
 ok:X.Ok
 os:s.os=X.s₀.os
 bare:Oa s.gens
 base:Un X.fs X.ex X.H₀ H X.s₀.heap s.heap
 loc:∃ m,s.heap.Ns X.env.locals m/\∀(i:Nat) (x:Jb) (v:V),X.N[i]?=Io x->σ[i]?=Io (Io v)->Fb X.env.scope x->∃ u,RelV v u/\Look X.env s.heap m x u
 cell:∀ x c,X.env.cells.lookup x=Io c->∃ v,s.heap.IsCell c v
 free:H X.env.locals=none
 freeC:∀ x c,X.env.cells.lookup x=Io c->H c=none
 pin:∀ p∈X.pn++pins,s.heap.get? p.1=Io p.2/\H p.1=none/\p.1≠X.env.locals/\p.1∉X.fs/\∀ v,p.2.data≠.cell v
 hok:gf X.prog X.w H s.heap
 len:σ.length=X.N.length
section
variable {X:Cx} {pins:List (Iy × K9)} {σ:List (Option V)} {H H':Hp} {s:Iz} {h':JD}
theorem Cx.Ok.Hk (ok:X.Ok) {b:Iy} {o:K9} (e:X.base.get? b=Io o):b∉X.fs:=λhb=>by have:=(ok.kG.mem hb).1;rw [e] at this;cases this
theorem Inv.bs (I:Inv X pins σ H s):∀ b o,X.base.get? b=Io o->s.heap.get? b=Io o/\H b=none:=λb o e =>⟨I.base.keep b o (I.ok.bs b o e).1 (I.ok.bs b o e).2 (I.ok.Hk e) (I.ok.noex b o e),I.base.free b o (I.ok.bs b o e).1 (I.ok.bs b o e).2 (I.ok.noex b o e)⟩
theorem Inv.bk (I:Inv X pins σ H s):∀ b o,X.base.get? b=Io o->s.heap.get? b=Io o:=λb o e=>(I.bs b o e).1
theorem Inv.mod (I:Inv X pins σ H s):Mod X.K X.mg X.base:=I.ok.mod
theorem Inv.gd (I:Inv X pins σ H s):X.K.In s.heap:=I.ok.mod.kin.keeps I.bk
theorem Inv.fr (I:Inv X pins σ H s):∃ m,Fr X.base X.env.locals s.heap m :=
 let ⟨m,hn,_⟩:=I.loc
 ⟨m,hn,I.bk,IJ I.ok.bsz I.ok.above⟩
theorem Inv.lt (I:Inv X pins σ H s):X.env.locals<s.heap.objs.size:=let ⟨_,hn,_⟩:=I.loc;hn.lt
theorem Inv.sz (I:Inv X pins σ H s):X.s₀.heap.objs.size<=s.heap.objs.size:=IJ I.ok.above (M5 I.lt)
theorem Inv.Bv (I:Inv X pins σ H s) {a:Iy} (h:s.heap.objs.size<=a):a∉X.fs:=λhb=>by obtain⟨_,o,ho,_⟩:=I.ok.kG.mem hb;exact absurd (IZ (IK ho) (IJ I.sz h)) (Ka _)
theorem Inv.DM (I:Inv X pins σ H s):∀ x c,X.env.cells.lookup x=Io c->c≠X.env.locals:=λx c e z=>by obtain⟨v,o,ho,hd⟩:=I.cell x c e;obtain⟨m,⟨o',es,ep,ho',hd',_⟩,_⟩:=I.loc;rw [z,ho'] at ho;cases ho;rw [hd'] at hd;cases hd
theorem Inv.kG (I:Inv X pins σ H s):s.heap.FunFrames X.base X.outer:=by
 have all:∀(l:List NS),(∀ b∈d7 l,b∈X.fs)->X.s₀.heap.FunFrames X.base l->s.heap.FunFrames X.base l:=by
  intro l
  induction l with
  | nil=>intro _ _;trivial
  | cons env r ih =>intro hs hl;obtain⟨hk,⟨L,o,hf,hn,ho,hd⟩,hr⟩:=hl;have hL:L∈X.fs:=hs L (by unfold d7;rw [KO,hf];exact IH);obtain⟨sl,e⟩:=I.base.slot L o ho (I.ok.frf L hL) hL λz=>I.ok.exfs L z hL;exact⟨hk,⟨L,_,hf,hn,e,hd⟩,ih (λb hb=>hs b (by unfold d7;rw [KO,hf];exact IG _ hb)) hr⟩
 exact all X.outer (λ_ hb=>hb) I.ok.kG
theorem Inv.stack (I:Inv X pins σ H s):s.heap.FunFrames X.base X.stack:=by
 rcases I.ok.stk with e | ⟨e,hf⟩
 ·rw [e];exact I.kG
 ·rw [e];obtain⟨m,hn,_⟩:=I.loc;refine .cons (by rw [I.ok.kind];decide) hf hn ?_ I.kG;exact Heap.get?_none_of_le (IJ I.ok.bsz I.ok.above)
theorem Inv.fS (I:Inv X pins σ H s):∀ b∈d7 X.stack,b∈X.env.locals::X.fs:=λb hb=>by
 rcases I.ok.stk with e | ⟨e,hf⟩
 ·rw [e] at hb;exact IG _ hb
 ·rw [e] at hb;unfold d7 at hb;rw [KO,hf] at hb;exact hb
theorem Inv.dX (I:Inv X pins σ H s):∀ b∈d7 X.stack,H b=none:=λb hb=>by
 rcases IU.mp (I.fS b hb) with e | hb
 ·rw [e];exact I.free
 ·obtain⟨_,o,ho,_⟩:=I.ok.kG.mem hb;exact I.base.free b o ho (I.ok.frf b hb) λz=>I.ok.exfs b z hb
theorem Inv.step {g':Array OJ} {t':Nat} {d':Ut} {ch:List Iy} (I:Inv X pins σ H s)
  (hch:∀ b∈ch,(b∈X.ex∨X.s₀.heap.objs.size<=b)/\b≠X.env.locals/\(∀ x c,X.env.cells.lookup x=Io c->c≠b)/\∀ p∈X.pn++pins,p.1≠b)
  (keep:∀ b o,b≠X.env.locals->b∉X.fs->b∉ch->s.heap.get? b=Io o->H b=none->h'.get? b=Io o)
  (slot:∀ b o,b≠X.env.locals->b∈X.fs->b∉ch->s.heap.get? b=Io o->H b=none->∃ sl,h'.get? b=Io { o with slots:=sl }) (free:∀ b o,b∉ch->s.heap.get? b=Io o->H b=none->H' b=none)
  (there:∀ b o,b∉ch->s.heap.get? b=Io o->∃ o',h'.get? b=Io o')
  (tups:∀ b xs,H b=Io (.tup xs)->H' b=Io (.tup xs)) (frzs:∀ b o u,H b=Io (.frz o u)->H' b=Io (.frz o u)) (tbls:∀ b ps,H b=Io (.tbl ps)->∃ more,H' b=Io (.tbl (ps++more)))
  (ns:∀ m,s.heap.Ns X.env.locals m->h'.Ns X.env.locals m) (hok:gf X.prog X.w H' h') (hg:Oa g') :
  Inv X pins σ H' { s with heap:=h',gens:=g',drawn:=d',toks:=t' }:=by
 have neL:∀ b o,X.s₀.heap.get? b=Io o->b≠X.env.locals:=λb o e=>Jd (IZ (IK e) I.ok.above);have neC:∀ b o,X.s₀.heap.get? b=Io o->b∉X.ex->b∉ch:=λb o e hx hb=>by
  rcases (hch b hb).1 with z | z
  ·exact hx z
  ·exact absurd (IZ (IK e) z) (Ka _)
 have cellK:∀ x c,X.env.cells.lookup x=Io c->∀ v,s.heap.IsCell c v->h'.IsCell c v:=λx c e v ⟨o,ho,hd⟩=>by
  have nch:c∉ch:=λz=>(hch c z).2.2.1 x c e rfl;by_cases hc:c∈X.fs
  ·obtain⟨sl,q⟩:=slot c o (I.DM x c e) hc nch ho (I.freeC x c e);exact⟨_,q,hd⟩
  ·exact⟨o,keep c o (I.DM x c e) hc nch ho (I.freeC x c e),hd⟩
 refine⟨I.ok,I.os,hg,⟨λb o e n hb hx=>?_,λb o e n hb hx=>?_,λb o e n hx=>?_,λb o e hx=>?_,λb xs e=>tups b xs (I.base.tups b xs e),λb o xs e=>frzs b o xs (I.base.frzs b o xs e),λb ps e=>?_⟩,?_,λx c e=>?_,?_,λx c e=>?_,λp hp=>?_,hok,I.len⟩
 ·exact keep b o (neL b o e) hb (neC b o e hx) (I.base.keep b o e n hb hx) (I.base.free b o e n hx)
 ·obtain⟨sl,e1⟩:=I.base.slot b o e n hb hx;obtain⟨sl',e2⟩:=slot b _ (neL b o e) hb (neC b o e hx) e1 (I.base.free b o e n hx);exact⟨sl',e2⟩
 ·obtain⟨o',e1⟩:=I.base.there b o e hx;exact free b o' (neC b o e hx) e1 (I.base.free b o e n hx)
 ·obtain⟨o',e1⟩:=I.base.there b o e hx;exact there b o' (neC b o e hx) e1
 ·obtain⟨m1,e1⟩:=I.base.tbls b ps e;obtain⟨m2,e2⟩:=tbls b _ e1;exact⟨m1++m2,by rw [e2,Nt]⟩
 ·obtain⟨m,hn,hl⟩:=I.loc;refine⟨m,ns m hn,λi x v e1 e2 e3=>?_⟩;obtain⟨u,r,l⟩:=hl i x v e1 e2 e3;refine⟨u,r,?_⟩;rcases l with l | ⟨k,c,e,z⟩
  ·exact .inl l
  ·exact .inr ⟨k,c,e,cellK x c e _ z⟩
 ·obtain⟨v,z⟩:=I.cell x c e;exact⟨v,cellK x c e v z⟩
 ·obtain⟨m,⟨o,_,_,ho,_⟩,_⟩:=I.loc;exact free _ o (λz=>(hch _ z).2.1 rfl) ho I.free
 ·obtain⟨v,o,ho,hd⟩:=I.cell x c e;exact free c o (λz=>(hch c z).2.2.1 x c e rfl) ho (I.freeC x c e)
 ·obtain⟨e,n,ne,nf,d⟩:=I.pin p hp;have nch:p.1∉ch:=λz=>(hch p.1 z).2.2.2 p hp rfl;exact⟨keep p.1 p.2 ne nf nch e n,free p.1 p.2 nch e n,ne,nf,d⟩
theorem Inv.un {t':Nat} (I:Inv X pins σ H s) (u:Un X.fs [] H H' s.heap h') (hok:gf X.prog X.w H' h'):Inv X pins σ H' { s with heap:=h',toks:=t' }:=by
 obtain⟨m,⟨o,es,ep,ho,r⟩,_⟩:=id I.loc;obtain⟨sl,hL⟩:=u.any ho I.free (by simp);exact I.step (g':=s.gens) (d':=s.drawn) (ch:=[]) (λ_ z=>nomatch z) (λb o _ hb _ e n=>u.keep b o e n hb (by simp)) (λb o _ hb _ e n=>u.slot b o e n hb (by simp)) (λb o _ e n=>u.free b o e n (by simp)) (λb o _ e=>u.there b o e (by simp)) u.tups u.frzs u.tbls (λm' hm=>by
  obtain⟨o',es',ep',ho',r'⟩:=hm;rw [ho] at ho';cases ho';exact⟨_,es',ep',hL,r'⟩) hok I.bare
theorem Inv.call {g':Array OJ} {t':Nat} {d':Ut} {ch:List Iy} (I:Inv X pins σ H s) (u:Un (d7 X.stack) ch H H' s.heap h') (hok:gf X.prog X.w H' h') (hg:Oa g')
  (hch:∀ b∈ch,(b∈X.ex∨X.s₀.heap.objs.size<=b)/\b≠X.env.locals/\(∀ x c,X.env.cells.lookup x=Io c->c≠b)/\∀ p∈X.pn++pins,p.1≠b) :
  Inv X pins σ H' { s with heap:=h',gens:=g',drawn:=d',toks:=t' }:=by
 obtain⟨m,⟨o,es,ep,ho,r⟩,_⟩:=id I.loc;obtain⟨sl,hL⟩:=u.any ho I.free λz=>(hch _ z).2.1 rfl;exact I.step (ch:=ch) hch (λb o hL hb hc e n=>u.keep b o e n (λz=>(IU.mp (I.fS b z)).elim hL hb) hc) (λb o _ _ hc e n=>u.any e n hc) (λb o hc e n=>u.free b o e n hc) (λb o hc e=>u.there b o e hc) u.tups u.frzs u.tbls (λm' hm=>by
  obtain⟨o',es',ep',ho',r'⟩:=hm;rw [ho] at ho';cases ho';exact⟨_,es',ep',hL,r'⟩) hok hg
theorem Inv.turned {t':Nat} {it:Iy} (I:Inv X pins σ H s) (k:∀ b o,b≠it->s.heap.get? b=Io o->h'.get? b=Io o) (hn:H it=none) (hL:it≠X.env.locals)
  (h1:it∈X.ex∨X.s₀.heap.objs.size<=it) (h2:∀ x c,X.env.cells.lookup x=Io c->c≠it) (h3:∀ p∈X.pn++pins,p.1≠it):Inv X pins σ H { s with heap:=h',toks:=t' }:=by
 have nit:∀ b u,H b=Io u->b≠it:=λb u e z=>by rw [z,hn] at e;cases e
 refine I.step (g':=s.gens) (d':=s.drawn) (ch:=[it]) (λb hb=>?_) (λb o _ _ hc e _=>k b o (λz=>hc (by simp [z])) e) (λb o _ _ hc e _=>⟨o.slots,k b o (λz=>hc (by simp [z])) e⟩) (λ_ _ _ _ n=>n)
  (λb o hc e=>⟨o,k b o (λz=>hc (by simp [z])) e⟩) (λ_ _ e=>e) (λ_ _ _ e=>e) (λb ps e=>⟨#[],by rw [e];simp⟩) (λm hm=>?_) (λb u e=>?_) I.bare
 ·have e:b=it:=by simpa using hb
  subst e;exact⟨h1,hL,h2,h3⟩
 ·obtain⟨o,es,ep,ho,r⟩:=hm;exact⟨o,es,ep,k _ o (JC hL) ho,r⟩
 ·refine (I.hok b u e).eQ (λc v hc q=>k c v ?_ q) (λ_ q=>q) λ_ _ q=>q;rcases hc with z | z
  ·rw [z];exact nit b u e
  ·exact nit c _ z
theorem Inv.tok (I:Inv X pins σ H s) (t:Nat):Inv X pins σ H { s with toks:=t }:=I.un (h':=s.heap) (t':=t) Un.refl I.hok
theorem Inv.kept {t':Nat} (I:Inv X pins σ H s) (k:∀ b u,s.heap.get? b=Io u->h'.get? b=Io u):Inv X pins σ H { s with heap:=h',toks:=t' }:=I.un (Un.kept k) (I.hok.kept k)
theorem Inv.laid {a:Iy} {o:HO} {t':Nat} (I:Inv X pins σ H s) (k:∀ b u,s.heap.get? b=Io u->h'.get? b=Io u) (hp:s.heap.objs.size<=a) (new:bG X.prog X.w (upd H a o) h' a o) :
  Inv X pins σ (upd H a o) { s with heap:=h',toks:=t' }:=I.un (Un.laid k hp (I.hok.fresh hp)) (I.hok.laid k hp new)
theorem Inv.write {x e:Iy} {o:HO} {t':Nat} (I:Inv X pins σ H s) (mu:Ft (H x)) (he:e=x∨H e=Io (.own x)) (k:∀ b u,b≠e->s.heap.get? b=Io u->h'.get? b=Io u) (heo:∃ u,h'.get? e=Io u)
  (new:bG X.prog X.w (upd H x o) h' x o):Inv X pins σ (upd H x o) { s with heap:=h',toks:=t' }:=I.un (Un.write mu he k heo) (I.hok.write mu he k heo new)
theorem Inv.weak {σ':List (Option V)} (I:Inv X pins σ H s) (hl:σ'.length=σ.length) (w:∀(i:Nat) v,σ'[i]?=Io (Io v)->σ[i]?=Io (Io v)):Inv X pins σ' H s :=
 ⟨I.ok,I.os,I.bare,I.base,let ⟨m,hn,hl'⟩:=I.loc;⟨m,hn,λi x v e1 e2 e3=>hl' i x v e1 (w i v e2) e3⟩,I.cell,I.free,I.freeC,I.pin,I.hok,hl.trans I.len⟩
theorem Inv.hZ {pins':List (Iy × K9)} (I:Inv X pins σ H s) (h:∀ p∈pins',s.heap.get? p.1=Io p.2/\H p.1=none/\p.1≠X.env.locals/\p.1∉X.fs/\∀ v,p.2.data≠.cell v):Inv X pins' σ H s :=
 ⟨I.ok,I.os,I.bare,I.base,I.loc,I.cell,I.free,I.freeC,λp hp=>(J0.mp hp).elim (λz=>I.pin p (MT _ z)) (h p),I.hok,I.len⟩
theorem rq {N:List Jb} (hN:N.Nodup) {i j:Nat} {x:Jb} (a:N[i]?=Io x) (b:N[j]?=Io x):i=j:=by obtain⟨h1,e1⟩:=IB.mp a;obtain⟨h2,e2⟩:=IB.mp b;exact (List.getElem_inj hN).mp (e1.trans e2.symm)
theorem xc {M:RE} {A:Jr} {E:Ir->Iz->Prop} {i:Nat} {x:Jb} {v:V} {u:Ir} {Q:Unit->Iz->Prop} (I:Inv X pins σ H s) (hN:X.N.Nodup) (hi:X.N[i]?=Io x) (hx:Loc X.env.scope x) (r:RelV v u)
  (h:∀ s',Inv X pins (σ.set i (Io v)) H s'->(∃ a,Ku a s.heap s'.heap/\(a=X.env.locals∨X.env.cells.lookup x=Io a))->Q () s') (hf:X.fn x=true∨X.env.scope.names.lookup x=Io .local:=by first | exact .inl rfl | exact .inr rfl | assumption):wpAny M A (storeName X.env x u) Q E s:=by
 obtain⟨m,hn,hl⟩:=id I.loc;have hcls:(X.env.scope.kind==.class || (X.env.scope.kind==.module && X.env.locals != X.env.globals))=false:=by rw [I.ok.kind];rfl
 have hiσ:i<σ.length:=by rw [I.len];exact (IB.mp hi).1
 have DM:=I.DM;have tracked:∀{a:Iy} {h':JD},(∃ o,s.heap.get? a=Io o/\H a=none)->Ku a s.heap h'->gf X.prog X.w H h':=λ{a h'} ha hs b ob e=>by
  obtain⟨_,_,hfree⟩:=ha;refine (I.hok b ob e).eQ (λc w' hc q=>(hs.2 c ?_).trans q) (λ_ q=>q) λ_ _ q=>q;rintro rfl;rcases hc with rfl | hc
  ·rw [hfree] at e;cases e
  ·rw [hfree] at hc;cases hc
 rcases hx with hk | hk
 ·refine wpAny_storeName_local hk hn (λh' hn' hs=>?_) hcls;obtain⟨oL,_,_,hoL,_⟩:=id hn;refine h _ ⟨I.ok,I.os,I.bare,⟨λb o e n hb hx=>?_,λb o e n hb hx=>?_,I.base.free,λb o e hx=>?_,I.base.tups,I.base.frzs,I.base.tbls⟩,⟨_,hn',λj y v' e1 e2 e3=>?_⟩,λy c e=>?_,I.free,I.freeC,λp hp=>?_,tracked ⟨oL,hoL,I.free⟩ hs,by simpa using I.len⟩ ⟨_,hs,.inl rfl⟩
  ·exact (hs.2 b (Jd (IZ (IK e) I.ok.above))).trans (I.base.keep b o e n hb hx)
  ·obtain⟨sl,e1⟩:=I.base.slot b o e n hb hx;exact⟨sl,(hs.2 b (Jd (IZ (IK e) I.ok.above))).trans e1⟩
  ·obtain⟨o',e1⟩:=I.base.there b o e hx;exact⟨o',(hs.2 b (Jd (IZ (IK e) I.ok.above))).trans e1⟩
  ·by_cases hj:j=i
   ·subst hj;rw [hi] at e1;cases e1;rw [NB hiσ] at e2;cases e2;exact⟨u,r,.inl ⟨hk,by simp⟩⟩
   ·rw [Od (JC hj)] at e2;obtain⟨u',r',q⟩:=hl j y v' e1 e2 e3;refine⟨u',r',?_⟩;rcases q with⟨k,e⟩|⟨k,c,e,z⟩
    ·refine .inl ⟨k,?_⟩;have:y≠x:=λe=>hj (rq hN e1 (e▸hi));simp [this,e]
    ·exact .inr ⟨k,c,e,z.sameBut hs (DM y c e)⟩
  ·obtain⟨w',z⟩:=I.cell y c e;exact⟨w',z.sameBut hs (DM y c e)⟩
  ·obtain⟨e,n,ne,nf,d⟩:=I.pin p hp;exact⟨(hs.2 p.1 ne).trans e,n,ne,nf,d⟩
 ·have hfn:X.fn x=true:=by
   rcases hf with z | z
   ·exact z
   ·rw [z] at hk;cases hk
  obtain⟨c,hc⟩:=I.ok.has x (.inl hk);obtain⟨w',z⟩:=I.cell x c hc;refine wpAny_storeName_cell I.ok.kind hk hc z (λh' hc' hs=>?_);obtain⟨oc,hoc,hocd⟩:=id z;refine h { s with heap:=h' } ⟨I.ok,I.os,I.bare,⟨λb o e n hb hx=>?_,λb o e n hb hx=>?_,I.base.free,λb o e hx=>?_,I.base.tups,I.base.frzs,I.base.tbls⟩,⟨m,hn.sameBut hs (JC (DM x c hc)),λj y v' e1 e2 e3=>?_⟩,λy c' e=>?_,I.free,I.freeC,λp hp=>?_,tracked ⟨oc,hoc,I.freeC x c hc⟩ hs,by simpa using I.len⟩ ⟨c,hs,.inr hc⟩
  ·exact (hs.2 b (Jd (IZ (IK e) (I.ok.cab x c hfn hc)))).trans (I.base.keep b o e n hb hx)
  ·obtain⟨sl,e1⟩:=I.base.slot b o e n hb hx;exact⟨sl,(hs.2 b (Jd (IZ (IK e) (I.ok.cab x c hfn hc)))).trans e1⟩
  ·obtain⟨o',e1⟩:=I.base.there b o e hx;exact⟨o',(hs.2 b (Jd (IZ (IK e) (I.ok.cab x c hfn hc)))).trans e1⟩
  ·by_cases hj:j=i
   ·subst hj;rw [hi] at e1;cases e1;rw [NB hiσ] at e2;cases e2;exact⟨u,r,.inr ⟨.inl hk,c,hc,hc'⟩⟩
   ·rw [Od (JC hj)] at e2;obtain⟨u',r',q⟩:=hl j y v' e1 e2 e3;refine⟨u',r',?_⟩;rcases q with q | ⟨k,c',e,z'⟩
    ·exact .inl q
    ·refine .inr ⟨k,c',e,z'.sameBut hs ?_⟩;rintro rfl;exact hj (rq hN e1 (I.ok.inj _ _ _ e hc▸hi))
  ·by_cases hcc:c'=c
   ·subst hcc;exact⟨_,hc'⟩
   ·obtain⟨w2,z2⟩:=I.cell y c' e;exact⟨w2,z2.sameBut hs hcc⟩
  ·obtain⟨e,n,ne,nf,d⟩:=I.pin p hp;refine⟨(hs.2 p.1 ?_).trans e,n,ne,nf,d⟩;intro q;rw [q,hoc] at e;have q':oc=p.2:=JZ e;exact d w' (by rw [<- q'];exact hocd)
theorem dc {M:RE} {A:Jr} {E:Ir->Iz->Prop} {i:Nat} {x:Jb} {v:V} {u:Ir} {Q:Unit->Iz->Prop} (I:Inv X pins σ H s) (hN:X.N.Nodup) (hi:X.N[i]?=Io x) (hx:Loc X.env.scope x) (r:RelV v u)
  (h:∀ s',Inv X pins (σ.set i (Io v)) H s'->Q () s') (hf:X.fn x=true∨X.env.scope.names.lookup x=Io .local:=by first | exact .inl rfl | exact .inr rfl | assumption):wpAny M A (storeName X.env x u) Q E s :=
 xc I hN hi hx r (λs' I' _=>h s' I') hf
theorem Inv.FD {s':Iz} {ch:List Iy} (I:Inv X pins σ H s) (ho:s'.os=s.os) (u:Un (d7 X.stack) ch H H' s.heap s'.heap) (hok:gf X.prog X.w H' s'.heap) (hg:Oa s'.gens)
  (hch:∀ b∈ch,(b∈X.ex∨X.s₀.heap.objs.size<=b)/\b≠X.env.locals/\(∀ x c,X.env.cells.lookup x=Io c->c≠b)/\∀ p∈X.pn++pins,p.1≠b):Inv X pins σ H' s':=by
 obtain⟨h',g',d',t',o'⟩:=s';have e:o'=s.os:=ho;subst e;exact I.call (g':=g') (t':=t') (d':=d') u hok hg hch
end
abbrev XK:=Ir->Option Iy->Hp->Prop
abbrev St:=List (Option V)
abbrev VK:=V->Hp->Prop
abbrev TE:=St->Hp->VK->Prop
abbrev TT:=St->Hp->(Bool->Hp->Prop)->Prop
abbrev TA:=St->Hp->(List V->Hp->Prop)->Prop
structure Ends where
 nx:St->Hp->Prop
 rt:VK
 bk:St->Hp->Prop:=λ_ _=>False
 ct:St->Hp->Prop:=λ_ _=>False
abbrev TS:=Ends->St->Hp->Prop
def EP (X:Cx) (pins:List (Iy × K9)) (σ:St) (Q:VK) (u:Ir) (s':Iz):Prop:=∃ v H',Inv X pins σ H' s'/\RelV v u/\Q v H'
def TP (X:Cx) (pins:List (Iy × K9)) (σ:St) (Q:Bool->Hp->Prop) (b:Bool) (s':Iz):Prop:=∃ H',Inv X pins σ H' s'/\Q b H'
def AP (X:Cx) (pins:List (Iy × K9)) (σ:St) (Q:List V->Hp->Prop) (us:List Ir) (s':Iz):Prop:=∃ vs H',Inv X pins σ H' s'/\Vals vs us/\Q vs H'
def SP (X:Cx) (pins:List (Iy × K9)) (D:Ends) (f:Flow) (s':Iz):Prop :=
 match f with
 | .next=>∃ σ' H',Inv X pins σ' H' s'/\D.nx σ' H'
 | .brk=>∃ σ' H',Inv X pins σ' H' s'/\D.bk σ' H'
 | .cont=>∃ σ' H',Inv X pins σ' H' s'/\D.ct σ' H'
 | .ret u=>∃ v σ' H',Inv X pins σ' H' s'/\RelV v u/\D.rt v H'
def PE (X:Cx) (e:JH) (t:TE):Prop :=
 ∀(pins:List (Iy × K9)) (s:Iz) (σ:St) (H:Hp) (Q:VK),Inv X pins σ H s->t σ H Q->wpAny (model X.prog X.w) X.A (eval e X.env) (EP X pins σ Q) X.xe s
def PT (X:Cx) (e:JH) (t:TT):Prop :=
 ∀(pins:List (Iy × K9)) (s:Iz) (σ:St) (H:Hp) (Q:Bool->Hp->Prop),Inv X pins σ H s->t σ H Q->wpAny (model X.prog X.w) X.A (isTrue e X.env (eval e X.env)) (TP X pins σ Q) X.xe s
def PW (X:Cx) (e:JH) (t:TT):Prop :=
 ∀(whole:TZ Ir) (pins:List (Iy × K9)) (s:Iz) (σ:St) (H:Hp) (Q:Bool->Hp->Prop),Inv X pins σ H s->t σ H Q->wpAny (model X.prog X.w) X.A (isTrue e X.env whole) (TP X pins σ Q) X.xe s
theorem PW.pt {X:Cx} {e:JH} {t:TT} (h:PW X e t):PT X e t:=h _
def PA (X:Cx) (es:List JH) (t:TA):Prop :=
 ∀(pos:Mn) (pins:List (Iy × K9)) (s:Iz) (σ:St) (H:Hp) (Q:List V->Hp->Prop),Inv X pins σ H s->t σ H Q->wpAny (model X.prog X.w) X.A (spliced (backTo pos (starEach es X.env))) (AP X pins σ Q) X.xe s
def PS (X:Cx) (st:MH) (t:TS):Prop :=
 ∀(pins:List (Iy × K9)) (s:Iz) (σ:St) (H:Hp) (D:Ends),Inv X pins σ H s->t D σ H->wpAny (model X.prog X.w) X.A (exec st X.env) (SP X pins D) X.xe s
def iG (X:Cx) (st:List MH) (t:TS):Prop :=
 ∀(pins:List (Iy × K9)) (s:Iz) (σ:St) (H:Hp) (D:Ends),Inv X pins σ H s->t D σ H->wpAny (model X.prog X.w) X.A (execs st X.env) (SP X pins D) X.xe s
theorem bf {α:Type} {t:TZ α} {Q Q':α->Iz->Prop} {M:RE} {A:Jr} {E:Ir->Iz->Prop} {s:Iz} (h:wpAny M A t Q E s) (hQ:∀ a s,Q a s->Q' a s):wpAny M A t Q' E s:=Kc h hQ λ_ _ x=>x
section
variable {X:Cx}
def uv (i:Nat):TE:=λσ H Q=>∃ v,σ[i]?=Io (Io v)/\Q v H
def tC (v:V):TE:=λ_ H Q=>Q v H
theorem ue {i:Nat} {x:Jb} {pos:Mn} (hN:X.N[i]?=Io x) (hv:Fb X.env.scope x) (hd:(x==("__debug__":Jb))=false:=by decide) (hcd:(x==("__classdict__":Jb))=false:=by decide):PE X (.Name x pos) (uv i):=by
 intro pins s σ H Q I h;obtain⟨v,e,h⟩:=h;obtain⟨m,hn,hl⟩:=I.loc;obtain⟨u,r,l⟩:=hl i x v hN e hv;have fin:EP X pins σ Q u s:=⟨v,H,I,r,h⟩
 rcases l with⟨hk,hm⟩|⟨hk,c,hc,hcell⟩
 ·exact Te (QF I.ok.kind hk hn hm fin) hd
 ·rcases hk with hk | hk
  ·exact Te (Q3 I.ok.kind hk hc hcell fin) hd
  ·exact Te (wpAny_loadName_free I.ok.kind hk hc hcell fin hcd) hd
theorem ah {i j pos}:PE X (.Constant (.int i) j pos) (tC (.int i)):=λ_ _ _ H _ I h=>wpAny_Constant_int ⟨.int i,H,I.tok _,⟨_,rfl⟩,h⟩
theorem nR {b j pos}:PE X (.Constant (.bool b) j pos) (tC (.bl b)):=λ_ _ _ H _ I h=>Constant_bool ⟨.bl b,H,I,rfl,h⟩
theorem dB {j pos}:PE X (.Constant .none j pos) (tC .non):=λ_ _ _ H _ I h=>Constant_none ⟨.non,H,I,rfl,h⟩
theorem aM {x j pos}:PE X (.Constant (.str x) j pos) (tC (.str x)):=λ_ _ _ H _ I h=>Calls.Constant_str ⟨.str x,H,I.tok _,⟨_,rfl⟩,h⟩
def Gl (X:Cx) (x:Jb):Prop:=X.env.kindOf x=Io .globalImplicit
theorem i8 {E:Ir->Iz->Prop} {pins:List (Iy × K9)} {s:Iz} {σ:St} {H:Hp} {x:Jb} {u:Ir} {pos:Mn} {Q:Ir->Iz->Prop} (I:Inv X pins σ H s) (hg:Gl X x) (hm:X.mg x=Io u) (h:Q u s)
  (hd:(x==("__debug__":Jb))=false:=by decide):wpAny (model X.prog X.w) X.A (eval (.Name x pos) X.env) Q E s :=
 OK I.ok.kind hg (Calls.loadGlobal_global (by rw [I.ok.glob];exact I.mod.glob.keeps I.bk) hm h) hd
theorem fc {E:Ir->Iz->Prop} {pins:List (Iy × K9)} {s:Iz} {σ:St} {H:Hp} {x:Jb} {u:Ir} {pos:Mn} {Q:Ir->Iz->Prop} (I:Inv X pins σ H s) (hg:Gl X x) (hm:X.mg x=none) (hv:bootBuiltins x=Io u) (h:Q u s)
  (hn:x ≠ "__name__":=by decide) (hd:(x==("__debug__":Jb))=false:=by decide):wpAny (model X.prog X.w) X.A (eval (.Name x pos) X.env) Q E s:=by
 obtain⟨mb,h1,h2⟩:=I.mod.blt;exact OK I.ok.kind hg (Calls.loadGlobal_builtin (by rw [I.ok.glob];exact I.mod.glob.keeps I.bk) hm (by rw [I.ok.blt];exact h1.keeps I.bk) ((h2 x hn).trans hv) h) hd
theorem pN {x:Jb} {v:V} {u:Ir} {pos:Mn} (hg:Gl X x) (hm:X.mg x=Io u) (r:RelV v u) (hd:(x==("__debug__":Jb))=false:=by decide):PE X (.Name x pos) (tC v) :=
 λ_ _ _ H _ I h=>i8 I hg hm ⟨v,H,I,r,h⟩ hd
theorem eT {x:Jb} {v:V} {u:Ir} {pos:Mn} (hg:Gl X x) (hm:X.mg x=none) (hv:bootBuiltins x=Io u) (r:RelV v u) (hn:x ≠ "__name__":=by decide) (hd:(x==("__debug__":Jb))=false:=by decide):PE X (.Name x pos) (tC v) :=
 λ_ _ _ H _ I h=>fc I hg hm hv ⟨v,H,I,r,h⟩ hn hd
variable {a b:JH} {ta tb:TE} {pos:Mn}
def PC (X:Cx) (op:US) (a b:JH) (t:TE):Prop :=
 ∀(pins:List (Iy × K9)) (s:Iz) (σ:St) (H:Hp) (Q:VK),Inv X pins σ H s->t σ H Q ->
  wpAny (model X.prog X.w) X.A (eval a X.env) (λv s₁=>wpAny (model X.prog X.w) X.A (eval b X.env) (λu s₂=>wpAny (model X.prog X.w) X.A (compareOp op v u) (EP X pins σ Q) X.xe s₂) X.xe s₁) X.xe s
theorem yQ (b:JH) {op:US} (h:op≠.In) (h2:op≠.NotIn):behindInMarks op b=false:=by
 have e1:(op==CmpOp.In)=false:=by cases op<;>first | rfl | exact absurd rfl h
 have e2:(op==CmpOp.NotIn)=false:=by cases op<;>first | rfl | exact absurd rfl h2
 cases b with
 | Set elts k pos =>show (k==0 && (op==.In || op==.NotIn) && elts.all (constantsAlone 8))=false;rw [e1,e2];cases k==0<;>rfl
 | _=>rfl
def tB (t:TE):TT:=λσ H Q=>t σ H λx H1=>∃ c,x=.bl c/\Q c H1
theorem zO {op:US} {t:TE} (h:PC X op a b t) (h1:behindInMarks op b=false:=by first | exact yQ _ (by decide) (by decide) | rfl):PT X (.Compare a [op] [b] pos) (tB t):=by intro pins s σ H Q I hw;refine Qr (bf (h pins s σ H _ I hw) λv s1 h1=>bf h1 λu s2 h2=>bf h2 λc s3 ⟨x,H1,I1,r1,q1⟩=>?_) h1;obtain⟨d,rfl,q⟩:=q1;cases r1;exact L6 ⟨H1,I1,q⟩
variable {tA tB':TT} {rest:List JH}
def Gj (t u:TT):TT:=λσ H Q=>t σ H λc H1=>if c=true then u σ H1 Q else Q false H1
def HN (t u:TT):TT:=λσ H Q=>t σ H λc H1=>if c=true then Q true H1 else u σ H1 Q
def Gv (t:TT):TT:=λσ H Q=>t σ H λc H1=>Q (!c) H1
theorem pS (ha:PT X a tA):PW X (.BoolOp .And [a] pos) tA:=by
 intro wh pins s σ H Q I h;refine isTrue_and (bf (ha pins s σ H Q I h) λc s1 e=>?_);cases c with
 | true=>exact isTrue_and_nil e
 | false=>exact e
theorem um (ha:PT X a tA):PW X (.BoolOp .Or [a] pos) tA:=by
 intro wh pins s σ H Q I h;refine isTrue_or (bf (ha pins s σ H Q I h) λc s1 e=>?_);cases c with
 | false=>exact isTrue_or_nil e
 | true=>exact e
theorem pR (ha:PT X a tA) (hb:PW X (.BoolOp .And (b::rest) pos) tB'):PW X (.BoolOp .And (a::b::rest) pos) (Gj tA tB'):=by
 intro wh pins s σ H Q I h;refine isTrue_and (bf (ha pins s σ H _ I h) λc s1 ⟨H1,I1,q1⟩=>?_);cases c with
 | true=>exact hb wh pins s1 σ H1 Q I1 q1
 | false=>exact⟨H1,I1,q1⟩
theorem zQ (ha:PT X a tA) (hb:PW X (.BoolOp .Or (b::rest) pos) tB'):PW X (.BoolOp .Or (a::b::rest) pos) (HN tA tB'):=by
 intro wh pins s σ H Q I h;refine isTrue_or (bf (ha pins s σ H _ I h) λc s1 ⟨H1,I1,q1⟩=>?_);cases c with
 | true=>exact⟨H1,I1,q1⟩
 | false=>exact hb wh pins s1 σ H1 Q I1 q1
theorem iN (ha:PT X a tA):PT X (.UnaryOp .Not a pos) (Gv tA):=by intro pins s σ H Q I h;exact isTrue_not (ha pins s σ H (λc H1=>Q (!c) H1) I h)
def Dg (ta tb:TE):TE:=λσ H Q=>ta σ H λx H1=>∃ c,x=.bl c/\if c=true then tb σ H1 Q else Q (.bl false) H1
def Hx (ta tb:TE):TE:=λσ H Q=>ta σ H λx H1=>∃ c,x=.bl c/\if c=true then Q (.bl true) H1 else tb σ H1 Q
def Gw (ta:TE):TE:=λσ H Q=>ta σ H λx H1=>∃ c,x=.bl c/\Q (.bl (!c)) H1
theorem l9 {op} {t:TE} (h:PE X a t):PE X (.BoolOp op [a] pos) t:=λpins s σ H Q I hw=>BoolOp_one (h pins s σ H Q I hw)
theorem l7 (ha:PE X a ta) (hb:PE X (.BoolOp .And (b::rest) pos) tb):PE X (.BoolOp .And (a::b::rest) pos) (Dg ta tb):=by
 intro pins s σ H Q I h;refine BoolOp_and (bf (ha pins s σ H _ I h) λv s1 ⟨x,H1,I1,r1,q1⟩=>?_);obtain⟨c,rfl,q1⟩:=q1;cases r1;refine L6 ?_;cases c with
 | true=>exact hb pins s1 σ H1 Q I1 q1
 | false=>exact⟨.bl false,H1,I1,rfl,q1⟩
def HM (t:TT) (ta tb:TE):TE:=λσ H Q=>t σ H λc H1=>if c=true then ta σ H1 Q else tb σ H1 Q
theorem jf {c:JH} (hc:PT X c tA) (ha:PE X a ta) (hb:PE X b tb):PE X (.IfExp c a b pos) (HM tA ta tb):=by
 intro pins s σ H Q I h;refine wpAny_IfExp (bf (hc pins s σ H _ I h) λd s1 ⟨H1,I1,q1⟩=>?_);cases d with
 | true=>exact ha pins s1 σ H1 Q I1 q1
 | false=>exact hb pins s1 σ H1 Q I1 q1
end
def aJ (K:Iq) (H:Hp) (a:Iy) (xs:List V):Prop :=
 Rd H a (.lst xs) ∨
  ∃(o:K9) (its:Array Ir) (n:Nat),K.lookup a=Io o/\o.cls=.type "list"/\o.dict=none/\o.data=.seq its n/\its.size<=sizeLine/\Vals xs its.toList
def bj (K:Iq) (H:Hp) (a:Iy) (xs:List V):Prop :=
 Rd H a (.tup xs) ∨
  ∃(o:K9) (its:Array Ir) (n:Nat),K.lookup a=Io o/\o.cls=.type "tuple"/\o.data=.seq its n/\its.size<=sizeLine/\Vals xs its.toList
noncomputable def Hb:Ir->Option V
 | .none=>Io .non
 | .bool b=>Io (.bl b)
 | .int i _=>Io (.int i)
 | .str x _=>Io (.str x)
 | .bytes b _=>Io (.byt b)
 | .float b _=>Io (.flt b)
 | .ref a=>Io (.ref a)
 | .type n=>Io (.ty n)
 | _=>none
theorem RelV.abs {x:V} {u:Ir} (r:RelV x u):Hb u=Io x:=by
 cases x with
 | non=>cases r;rfl
 | bl _=>cases r;rfl
 | int _=>obtain⟨t,rfl⟩:=r;rfl
 | str _=>obtain⟨t,rfl⟩:=r;rfl
 | byt _=>obtain⟨t,rfl⟩:=r;rfl
 | flt _=>obtain⟨t,rfl⟩:=r;rfl
 | ref _=>cases r;rfl
 | ty _=>cases r;rfl
theorem RelV.inj {x y:V} {u:Ir} (r:RelV x u) (q:RelV y u):x=y:=JZ (r.abs.symm.trans q.abs)
theorem Vals.inj:∀{xs ys:List V} {us:List Ir},Vals xs us->Vals ys us->xs=ys
 | _,_,_,.nil,.nil=>rfl
 | _,_,_,.cons r t,.cons r' t'=>by rw [r.inj r',Vals.inj t t']
section
variable {X:Cx} {pins:List (Iy × K9)} {σ:St} {H:Hp} {s:Iz} {a:Iy} {xs ys:List V}
theorem aJ.of {K:Iq} (h:H a=Io (.lst xs)):aJ K H a xs:=.inl (.inl h)
theorem bj.of {K:Iq} (h:H a=Io (.tup xs)):bj K H a xs:=.inl (.inl h)
theorem Inv.list (I:Inv X pins σ H s) (h:aJ X.K H a xs):∃ its:List Ir,Vals xs its/\PlainL s.heap a its.toArray/\xs.length<=sizeLine:=by
 rcases h with h | ⟨o,its,n,hk,hc,hd,hs,hz,r⟩
 ·obtain⟨z,its,n,r,e⟩:=h.ok I.hok;exact⟨its,r,⟨_,n,e,rfl,rfl,rfl⟩,z⟩
 ·refine⟨its.toList,r,⟨o,n,I.gd a o hk,hc,hd,by simpa using hs⟩,?_⟩;have e:=r.length;simp only [Jw] at e;lia
theorem Inv.tuple (I:Inv X pins σ H s) (h:bj X.K H a xs):∃ its:List Ir,Vals xs its/\QE s.heap a its.toArray/\xs.length<=sizeLine:=by
 rcases h with h | ⟨o,its,n,hk,hc,hs,hz,r⟩
 ·obtain⟨z,its,r,p⟩:=h.ok I.hok;exact⟨its,r,p,z⟩
 ·refine⟨its.toList,r,⟨o,I.gd a o hk,hc,n,by simpa using hs⟩,?_⟩;have e:=r.length;simp only [Jw] at e;lia
theorem Inv.lQ (I:Inv X pins σ H s) (h:aJ X.K H a xs) (h':aJ X.K H a ys):xs=ys:=by
 obtain⟨its,r,⟨o,n,e,_,_,d⟩,_⟩:=I.list h;obtain⟨its',r',⟨o',n',e',_,_,d'⟩,_⟩:=I.list h';rw [e] at e';cases e';rw [d] at d';injection d' with d1 _
 have:its=its':=by simpa using congrArg Uy d1
 subst this;exact r.inj r'
theorem Inv.oG (I:Inv X pins σ H s) (h:bj X.K H a xs) (h':bj X.K H a ys):xs=ys:=by
 obtain⟨its,r,⟨o,e,_,n,d⟩,_⟩:=I.tuple h;obtain⟨its',r',⟨o',e',_,n',d'⟩,_⟩:=I.tuple h';rw [e] at e';cases e';rw [d] at d';injection d' with d1 _
 have:its=its':=by simpa using congrArg Uy d1
 subst this;exact r.inj r'
end
noncomputable abbrev Cx.j5 (X:Cx) (E:Ir->Iz->Prop):Cx:={ X with xe:=E }
noncomputable abbrev Cx.lY (X:Cx):Cx:=X.j5 λ_ _=>False
theorem Cx.Ok.j5 {X:Cx} (ok:X.Ok) (E:Ir->Iz->Prop):(X.j5 E).Ok :=
 ⟨ok.mod,ok.kind,ok.glob,ok.blt,ok.above,ok.inj,ok.has,ok.cab,ok.hd,ok.frames,ok.stk,ok.exf,ok.bs,ok.bsz,ok.noex,ok.exfs,ok.kG,ok.frf⟩
theorem Cx.Ok.eR {X:Cx} {E:Ir->Iz->Prop} (ok:(X.j5 E).Ok):X.Ok :=
 ⟨ok.mod,ok.kind,ok.glob,ok.blt,ok.above,ok.inj,ok.has,ok.cab,ok.hd,ok.frames,ok.stk,ok.exf,ok.bs,ok.bsz,ok.noex,ok.exfs,ok.kG,ok.frf⟩
section
variable {X:Cx} {pins:List (Iy × K9)} {σ:St} {H:Hp} {s:Iz} {E:Ir->Iz->Prop}
theorem Inv.j5 (I:Inv X pins σ H s) (E:Ir->Iz->Prop):Inv (X.j5 E) pins σ H s:=⟨I.ok.j5 E,I.os,I.bare,I.base,I.loc,I.cell,I.free,I.freeC,I.pin,I.hok,I.len⟩
theorem Inv.eR (I:Inv (X.j5 E) pins σ H s):Inv X pins σ H s:=⟨I.ok.eR,I.os,I.bare,I.base,I.loc,I.cell,I.free,I.freeC,I.pin,I.hok,I.len⟩
theorem SP.eR {D:Ends} {f:Flow} {s':Iz} (h:SP (X.j5 E) pins D f s'):SP X pins D f s':=by
 cases f with
 | next=>obtain⟨σ',H',I,q⟩:=h;exact⟨σ',H',I.eR,q⟩
 | brk=>obtain⟨σ',H',I,q⟩:=h;exact⟨σ',H',I.eR,q⟩
 | cont=>obtain⟨σ',H',I,q⟩:=h;exact⟨σ',H',I.eR,q⟩
 | ret u=>obtain⟨v,σ',H',I,r,q⟩:=h;exact⟨v,σ',H',I.eR,r,q⟩
theorem PE.lY {e:JH} {t:TE} (h:PE X.lY e t):PE X e t:=λpins s σ H Q I hw =>Kc (h pins s σ H Q (I.j5 _) hw) (λ_ _ ⟨v,H',I',r,q⟩=>⟨v,H',I'.eR,r,q⟩) λ_ _ z=>Kk z
theorem PT.lY {e:JH} {t:TT} (h:PT X.lY e t):PT X e t:=λpins s σ H Q I hw =>Kc (h pins s σ H Q (I.j5 _) hw) (λ_ _ ⟨H',I',q⟩=>⟨H',I'.eR,q⟩) λ_ _ z=>Kk z
theorem iG.lY {st:List MH} {t:TS} (h:iG X.lY st t):iG X st t:=λpins s σ H D I hw =>Kc (h pins s σ H D (I.j5 _) hw) (λ_ _ q=>q.eR) λ_ _ z=>Kk z
end
section
variable {X:Cx} {st:MH} {rest:List MH} {t u:TS} {e:JH} {te:TE} {pos:Mn}
def Dk:TS:=λD σ H=>D.nx σ H
def bH (t u:TS):TS:=λD σ H=>t { D with nx:=u D } σ H
theorem aD:iG X [] Dk:=λ_ _ σ H _ I h=>Oq ⟨σ,H,I,h⟩
theorem ae (h1:PS X st t) (h2:iG X rest u):iG X (st::rest) (bH t u):=by
 intro pins s σ H D I h;refine R4 (bf (h1 pins s σ H { D with nx:=u D } I h) λf s1 q=>?_);cases f with
 | next =>obtain⟨σ',H',I',q⟩:=q;exact h2 pins s1 σ' H' D I' q
 | ret v=>exact q
 | brk=>exact q
 | cont=>exact q
theorem ai (h1:PS X st t):iG X [st] t:=by
 intro pins s σ H D I h;refine R4 (bf (h1 pins s σ H D I h) λf s1 q=>?_);cases f with
 | next=>exact Oq q
 | ret v=>exact q
 | brk=>exact q
 | cont=>exact q
theorem Inv.quiet {pins:List (Iy × K9)} {σ:St} {H:Hp} {s:Iz} (I:Inv X pins σ H s):interactive X.env=false:=by simp [interactive,I.ok.kind]
def Dj (te:TE):TS:=λD σ H=>te σ H λ_ H1=>D.nx σ H1
theorem bU (he:PE X e te) (hs:swapsWith e none pos.line X.env=pure false:=by rfl):PS X (.Expr e pos) (Dj te):=by intro pins s σ H D I h;exact wpAny_Expr_any (bf (he pins s σ H _ I h) λv s1 ⟨x,H1,I1,r1,q1⟩=>⟨σ,H1,I1,q1⟩) I.quiet hs
def kL (te:TE):TS:=λD σ H=>te σ H D.rt
theorem az (he:PE X e te):PS X (.Return (Io e) pos) (kL te):=by intro pins s σ H D I h;exact wpAny_Return_some (bf (he pins s σ H _ I h) λv s1 ⟨x,H1,I1,r1,q1⟩=>⟨x,σ,H1,I1,r1,q1⟩)
def Gy:TS:=λD _ H=>D.rt .non H
def EU (c:TT) (t u:TS):TS:=λD σ H=>c σ H λb H1=>if b=true then t D σ H1 else u D σ H1
theorem aS {c:JH} {a b:List MH} {tc:TT} (hc:PT X c tc) (ha:iG X a t) (hb:iG X b u):PS X (.If c a b pos) (EU tc t u):=by
 intro pins s σ H D I h;refine wpAny_If (bf (hc pins s σ H _ I h) λd s1 ⟨H1,I1,q1⟩=>?_);cases d with
 | true=>exact ha pins s1 σ H1 D I1 q1
 | false=>exact hb pins s1 σ H1 D I1 q1
end
abbrev TG:=V->St->Hp->(St->Hp->Prop)->Prop
abbrev CD:=List V->St->Hp->(St->Hp->Prop)->Prop
def PG (X:Cx) (target:JH) (t:TG):Prop :=
 ∀(pins:List (Iy × K9)) (s:Iz) (σ:St) (H:Hp) (v:V) (u:Ir) (Q:St->Hp->Prop),Inv X pins σ H s->RelV v u->t v σ H Q ->
  wpAny (model X.prog X.w) X.A (assign target X.env u) (λ_ s'=>∃ σ' H',Inv X pins σ' H' s'/\Q σ' H') X.xe s
def Fv (X:Cx) (ts:List JH) (t:CD):Prop :=
 ∀(pins:List (Iy × K9)) (s:Iz) (σ:St) (H:Hp) (vs:List V) (us:List Ir) (Q:St->Hp->Prop),Inv X pins σ H s->Vals vs us->t vs σ H Q ->
  wpAny (model X.prog X.w) X.A (assignInOrder ((assignEach ts X.env).map (·.2)) us) (λ_ s'=>∃ σ' H',Inv X pins σ' H' s'/\Q σ' H') X.xe s
abbrev DE:=V->V->V->Hp->(Hp->Prop)->Prop
def Fw (X:Cx) (t:DE):Prop :=
 ∀(pins:List (Iy × K9)) (s:Iz) (σ:St) (H:Hp) (o i v:V) (ov iv u:Ir) (Q:Hp->Prop),Inv X pins σ H s->RelV o ov->RelV i iv->RelV v u->t o i v H Q ->
  wpAny (model X.prog X.w) X.A (setItem ov iv u) (λ_ s'=>∃ H',Inv X pins σ H' s'/\Q H') X.xe s
abbrev G8:=V->V->Hp->VK->Prop
def HE (X:Cx) (op:QG) (t:G8):Prop :=
 ∀(pins:List (Iy × K9)) (s:Iz) (σ:St) (H:Hp) (x y:V) (v u:Ir) (Q:VK),Inv X pins σ H s->RelV x v->RelV y u->t x y H Q ->
  wpAny (model X.prog X.w) X.A (inplaceOp op v u) (EP X pins σ Q) X.xe s
section
variable {X:Cx} {pos:Mn}
def cn (i:Nat):TG:=λv σ H Q=>Q (σ.set i (Io v)) H
theorem aq {i:Nat} {x:Jb} (hN:X.N.Nodup) (hi:X.N[i]?=Io x) (hx:Loc X.env.scope x) (hf:X.fn x=true∨X.env.scope.names.lookup x=Io .local:=by first | exact .inl rfl | exact .inr rfl | assumption):PG X (.Name x pos) (cn i):=by intro pins s σ H v u Q I r h;exact wpAny_assign_Name (dc I hN hi hx r (λs' I'=>⟨_,H,I',h⟩) hf)
def yg:CD:=λvs σ H Q=>vs=[]/\Q σ H
def j8 (t:TG) (u:CD):CD:=λvs σ H Q=>∃ v r,vs=v::r/\t v σ H λσ' H'=>u r σ' H' Q
theorem aO:Fv X [] yg:=by intro pins s σ H vs us Q I r h;obtain⟨e,h⟩:=h;subst e;cases r;exact Pd ⟨σ,H,I,h⟩
theorem au {e:JH} {es:List JH} {t:TG} {u:CD} (h1:PG X e t) (h2:Fv X es u)
  (hs:(assignEach (e::es) X.env).map (·.2)=assign e X.env::(assignEach es X.env).map (·.2):=by rfl):Fv X (e::es) (j8 t u):=by
 intro pins s σ H vs us Q I r h;obtain⟨v,vr,e1,h⟩:=h;subst e1;cases r with
 | cons r rr =>rw [hs];refine LS (bf (h1 pins s σ H _ _ _ I r h) λ_ s1 ⟨σ1,H1,I1,q1⟩=>?_);exact h2 pins s1 σ1 H1 _ _ Q I1 rr q1
def mS (K:Iq) (n:Nat) (t:CD):TG:=λv σ H Q=>∃ a xs,v=.ref a/\bj K H a xs/\xs.length=n/\t xs σ H Q
theorem bZ {es:List JH} {k:Nat} {t:CD} {n:Nat} (hc:X.calm=true) (h:Fv X es t)
  (hn:(assignEach es X.env).length=n:=by rfl) (hst:(assignEach es X.env).findIdx? (·.1)=none:=by rfl):PG X (.Tuple es k pos) (mS X.K n t):=by
 intro pins s σ H v u Q I r hw;obtain⟨a,xs,e1,hq,hl,hw⟩:=hw;subst e1;cases r;obtain⟨its,rv,ht,hz⟩:=I.tuple hq;refine assign_Tuple_tuple (I.ok.hd hc) ht (by simp [hn,<- hl,rv.length]) hst λh' hx=>?_;have I1:Inv X pins σ H { s with heap:=h' }:=I.kept (t':=s.toks) λb o e=>hx b o (Jd (IK e)) e;exact h pins _ σ H xs _ Q I1 (by simpa using rv) hw
def FJ (to ti:TE) (t:DE):TG:=λv σ H Q=>to σ H λo H1=>ti σ H1 λi H2=>t o i v H2 λH3=>Q σ H3
theorem EC {o i:JH} {to ti:TE} {t:DE} (ho:PE X o to) (hi:PE X i ti) (hs:Fw X t)
  (ha:∀ v,assign (.Subscript o i pos) X.env v=(do
   let ov <- holding [v] (eval o X.env)
   let iv <- holding [v,ov] (eval i X.env)
   standAt pos
   holding [v,ov,iv] (setItem ov iv v)
   release [v,ov,iv] []):=by intro _;rfl):PG X (.Subscript o i pos) (FJ to ti t):=by
 intro pins s σ H v u Q I r h;rw [ha];refine Ip (Kl (bf (ho pins s σ H _ I h) λov s1 ⟨x,H1,I1,r1,q1⟩=>?_));refine Ip (Kl (bf (hi pins s1 σ H1 _ I1 q1) λiv s2 ⟨y,H2,I2,r2,q2⟩=>?_));refine Ip (Lb (Ip (Kl (bf (hs pins s2 σ H2 x y v ov iv u _ I2 r1 r2 r q2) λ_ s3 ⟨H3,I3,q3⟩=>?_))));exact wpAny_release ⟨σ,H3,I3,q3⟩
def uu (te:TE) (g:TG):TS:=λD σ H=>te σ H λx H1=>g x σ H1 D.nx
theorem eC {tg e:JH} {te:TE} {g:TG} (he:PE X e te) (hg:PG X tg g) (hs:swapsWithSole [tg] e pos.line X.env=pure false:=by rfl) (hw:swappedStores [tg] e X.env=pure none:=by rfl)
  (h1:(assignEach [tg] X.env).map (·.2)=[assign tg X.env]:=by rfl):PS X (.Assign [tg] e pos) (uu te g):=by
 intro pins s σ H D I h;refine wpAny_Assign_stores (bf (he pins s σ H _ I h) λv s1 ⟨x,H1,I1,r1,q1⟩=>?_) hs hw;rw [h1];exact bf (hg pins s1 σ H1 x v _ I1 r1 q1) λ_ s2 q=>q
theorem fP {i:Nat} {x:Jb} {e:JH} {te:TE} {pos':Mn} (hN:X.N.Nodup) (hi:X.N[i]?=Io x) (hx:Loc X.env.scope x) (he:PE X e te) (hs:swapsWith e (Io (.Name x pos')) pos.line X.env=pure false:=by rfl) (hf:X.fn x=true∨X.env.scope.names.lookup x=Io .local:=by first | exact .inl rfl | exact .inr rfl | assumption) :
  PS X (.Assign [.Name x pos'] e pos) (uu te (cn i)):=by
 intro pins s σ H D I h;refine wpAny_Assign_Name (bf (he pins s σ H _ I h) λv s1 ⟨y,H1,I1,r1,q1⟩=>?_) hs;exact dc I1 hN hi hx r1 (λs2 I2=>⟨_,H1,I2,q1⟩) hf
def Gx (i j:Nat) (ta:TA):TS:=λD σ H=>ta σ H λvs H1=>∃ v w,vs=[v,w]/\D.nx ((σ.set i (Io v)).set j (Io w)) H1
theorem pP {i j:Nat} {x y:Jb} {a b:JH} {ta:TA} {px py pt:Mn} {kt k2 pt2} (hc:X.calm=true) (hN:X.N.Nodup) (hi:X.N[i]?=Io x) (hj:X.N[j]?=Io y) (hij:i≠j)
  (hx:X.env.scope.names.lookup x=Io .local) (hy:X.env.scope.names.lookup y=Io .local) (ha:PA X [a,b] ta)
  (hw:swappedStores [.Tuple [.Name x px,.Name y py] kt pt] (.Tuple [a,b] k2 pt2) X.env=pure (Io [x,y]))
  (hs:swapsWithSole [.Tuple [.Name x px,.Name y py] kt pt] (.Tuple [a,b] k2 pt2) pos.line X.env=pure false:=by rfl) :
  PS X (.Assign [.Tuple [.Name x px,.Name y py] kt pt] (.Tuple [a,b] k2 pt2) pos) (Gx i j ta):=by
 intro pins s σ H D I h;rw [SN];refine Ip (Lb ?_);rw [hs];refine Ip (IA ?_);rw [if_neg (by decide)];refine Ip (Tuple_ (bf (ha _ pins s σ H _ I h) λus s1 ⟨vs,H1,I1,r1,q1⟩=>?_));obtain⟨v,w,e1,q1⟩:=q1;subst e1;obtain⟨u1,u2,rfl,rv,rw'⟩:∃ u1 u2,us=[u1,u2]/\RelV v u1/\RelV w u2:=by
  cases r1 with
  | cons p q =>
   cases q with
   | cons p' q' =>cases q';exact⟨_,_,rfl,p,p'⟩
 refine Jt ?_ (by show 2<=sizeLine;decide);have I2:Inv X pins σ H1 { s1 with heap:=s1.heap.push { cls:=.type "tuple",data:=.seq [u1,u2].toArray } }:=I1.kept (t':=s1.toks) λb o e=>Iw _ e;rw [hw];refine Ip (IA ?_);show wpAny (model X.prog X.w) X.A (do rule "assign.swapped-stores";let items <- unpackItems (.ref s1.heap.objs.size) 2 none;assignInOrder [λv=>bindName X.env y v,λv=>bindName X.env x v] items.reverse;pure Flow.next) _ _ _;refine Ip (Nu (Ip (RF (items:=#[u1,u2]) (I.ok.hd hc) (IsTup.new s1.heap _) λh' hx'=>?_)));have I3:=I2.kept (h':=h') (t':=s1.toks) λb o e=>hx' b o (Jd (IK e)) e;show wpAny _ _ (assignInOrder [λv=>bindName X.env y v,λv=>bindName X.env x v] [u2,u1] >>= λ_=>pure Flow.next) _ _ _;refine Ip (LS (NC (dc I3 hN hj (.inl hy) rw' (λs2 I4=>?_) (.inr hy))));refine LS (NC (dc I4 hN hi (.inl hx) rv (λs3 I5=>Pd (IA ?_)) (.inr hx)));rw [PB _ _ (JC hij)] at I5;exact⟨_,H1,I5,q1⟩
def Gk (i:Nat) (te:TE) (ti:G8):TS:=λD σ H=>∃ x,σ[i]?=Io (Io x)/\te σ H λy H1=>ti x y H1 λz H2=>D.nx (σ.set i (Io z)) H2
theorem eF {i:Nat} {x:Jb} {e:JH} {te:TE} {op:QG} {ti:G8} {pos':Mn} (hN:X.N.Nodup) (hi:X.N[i]?=Io x) (hx:Loc X.env.scope x) (he:PE X e te) (ho:HE X op ti) (hf:X.fn x=true∨X.env.scope.names.lookup x=Io .local:=by first | exact .inl rfl | exact .inr rfl | assumption) :
  PS X (.AugAssign (.Name x pos') op e pos) (Gk i te ti):=by
 intro pins s σ H D I h;obtain⟨v,e1,h⟩:=h;obtain⟨m,hn,hl⟩:=I.loc;have vis:Fb X.env.scope x:=by rcases hx with k | k;exact .inl k;exact .inr (.inl k)
 obtain⟨u,r,l⟩:=hl i x v hi e1 vis;refine wpAny_AugAssign_Name ?_;have go:wpAny (model X.prog X.w) X.A (eval e X.env) (λw s₂=>wpAny (model X.prog X.w) X.A (inplaceOp op u w) (λr s₃=>wpAny (model X.prog X.w) X.A (storeName X.env x r) (λ_=>SP X pins D .next) X.xe s₃) X.xe s₂) X.xe s:=by refine bf (he pins s σ H _ I h) λw s1 ⟨y,H1,I1,r1,q1⟩=>?_;refine bf (ho pins s1 σ H1 v y u w _ I1 r r1 q1) λz s2 ⟨zv,H2,I2,r2,q2⟩=>?_;exact dc I2 hN hi hx r2 (λs3 I3=>⟨_,H2,I3,q2⟩) hf
 rcases l with⟨hk,hm⟩|⟨hk,c,hc,hcell⟩
 ·exact QF I.ok.kind hk hn hm go
 ·rcases hk with hk | hk
  ·exact Q3 I.ok.kind hk hc hcell go
  ·rcases hx with k | k
   ·have:X.env.scope.names.lookup x=Io .free:=hk;rw [k] at this;cases this
   ·have:X.env.scope.names.lookup x=Io .free:=hk;rw [k] at this;cases this
end
section
variable {X:Cx} {pos:Mn}
def Ar (c:TT) (tb:TS):TS:=λD σ H=>∃ W:Nat->St->Hp->Prop,(∃ m,W m σ H)/\∀ m σ H,W m σ H ->
 c σ H λb H1=>if b=true then ∃ N:St->Hp->Prop,(∀ σ' H',N σ' H'->∃ m',m'<m/\W m' σ' H')/\tb { D with nx:=N,ct:=N,bk:=D.nx } σ H1 else D.nx σ H1
theorem aV {c:JH} {body:List MH} {tc:TT} {tb:TS} (hp:PassesOwn (model X.prog X.w) X.A X.env X.xe) (hc:PT X c tc) (hb:iG X body tb):PS X (.While c body [] pos) (Ar tc tb):=by
 intro pins s σ H D I h;obtain⟨W,⟨m0,w0⟩,turn⟩:=h;refine wpAny_While (codeAny_whileLoop (λn s'=>∃ σ' H',Inv X pins σ' H' s'/\W n σ' H') ?_ m0 ⟨σ,H,I,w0⟩);rintro n s1 ⟨σ1,H1,I1,w1⟩;refine LZ hp (bf (hc pins s1 σ1 H1 _ I1 (turn n σ1 H1 w1)) λb s2 ⟨H2,I2,q2⟩=>?_);cases b with
 | true =>
  obtain⟨N,hN,q2⟩:=q2;rw [if_pos rfl];refine LZ hp (bf (hb pins s2 σ1 H2 _ I2 q2) λf s3 q3=>?_);cases f with
  | next =>obtain⟨σ3,H3,I3,n3⟩:=q3;obtain⟨m',hm,w3⟩:=hN σ3 H3 n3;exact⟨m',hm,σ3,H3,I3,w3⟩
  | cont =>obtain⟨σ3,H3,I3,n3⟩:=q3;obtain⟨m',hm,w3⟩:=hN σ3 H3 n3;exact⟨m',hm,σ3,H3,I3,w3⟩
  | brk=>exact q3
  | ret v=>exact q3
 | false =>rw [if_neg Jk];exact Oq ⟨σ1,H2,I2,q2⟩
end
structure It where
 go:Nat->Hp->Prop
 yld:Nat->Hp->V->Hp->Prop
 stop:Nat->Hp->Prop
def mN (X:Cx) (pins:List (Iy × K9)) (H:Hp) (b:Iy):Prop :=
 H b=none/\b≠X.env.locals/\b∉X.fs/\(b∈X.ex∨X.s₀.heap.objs.size<=b)/\(∀ x c,X.env.cells.lookup x=Io c->c≠b)/\∀ p∈X.pn++pins,p.1≠b
theorem Inv.mQ {X:Cx} {pins:List (Iy × K9)} {σ:St} {H H':Hp} {s:Iz} {b:Iy} (I:Inv X pins σ H s) (hb:s.heap.objs.size<=b) (hn:H' b=none):mN X pins H' b:=by
 refine⟨hn,Lc (IZ I.lt hb),I.Bv hb,.inr (IJ I.sz hb),λx c e z=>?_,λp hp z=>?_⟩
 ·obtain⟨v,q⟩:=I.cell x c e;exact absurd (IZ q.lt (by rw [z];exact hb)) (Ka _)
 ·exact absurd (IZ (IK (I.pin p hp).1) (by rw [z];exact hb)) (Ka _)
structure Turn (P:IM) (w:Jo) (K:Iq) (tg:JH) (J:It) (fp:List Iy) (it:Iy) (tn:Nat->JD->Prop):Prop where
 mem:it∈fp
 obj:∀ i h,tn i h->∀ b∈fp,∃ o,h.get? b=Io o/\∀ v,o.data≠.cell v
 keep:∀ i h h',tn i h->(∀ b∈fp,∀ o,h.get? b=Io o->h'.get? b=Io o)->tn i h'
 item:∀(X:Cx),X.prog=P->X.w=w->X.K=K->X.calm=true->∀(i:Nat) (pins:List (Iy × K9)) (s:Iz) (σ:St) (H:Hp) (E:Ir->Iz->Prop),Inv X pins σ H s->(∀ b∈fp,mN X pins H b)->tn i s.heap->J.go i H ->
  wpAny (model P w) X.A (pyNext (.ref it)) (λr s1=>∃ u,r=Io u /\
   wpAny (model P w) X.A (letOwnedTupleGo tg (.ref it) u) (λ_ s2=>∃ x H',Inv X pins σ H' s2/\RelV x u/\J.yld i H x H'/\tn (i+1) s2.heap/\∀ b∈fp,H' b=none) E s1) E s
 done:∀(X:Cx),X.prog=P->X.w=w->X.K=K->X.calm=true->∀(i:Nat) (pins:List (Iy × K9)) (s:Iz) (σ:St) (H:Hp) (E:Ir->Iz->Prop),Inv X pins σ H s->(∀ b∈fp,mN X pins H b)->tn i s.heap->J.stop i H ->
  wpAny (model P w) X.A (pyNext (.ref it)) (λr s1=>r=none/\Inv X pins σ H s1) E s
 self:∀(A:Jr) (i:Nat) (s:Iz) (Q:Ir->Iz->Prop) (E:Ir->Iz->Prop),tn i s.heap->Q (.ref it) s->wpAny (model P w) A (pyIter (.ref it)) Q E s
abbrev TI:=St->Hp->(It->Hp->Prop)->Prop
def GL (X:Cx) (pins:List (Iy × K9)) (σ:St) (tg:JH) (R:It->Hp->Prop) (itv:Ir) (s2:Iz):Prop :=
 ∃(it:Iy) (fp:List Iy) (tn:Nat->JD->Prop) (J:It) (H':Hp),itv=.ref it/\Inv X pins σ H' s2/\Turn X.prog X.w X.K tg J fp it tn/\tn 0 s2.heap/\(∀ b∈fp,mN X pins H' b)/\R J H'
def PI (X:Cx) (tg iter:JH) (wi:TI):Prop :=
 ∀(pins:List (Iy × K9)) (s:Iz) (σ:St) (H:Hp) (R:It->Hp->Prop),Inv X pins σ H s->wi σ H R ->
  wpAny (model X.prog X.w) X.A (eval iter X.env) (λv s1=>wpAny (model X.prog X.w) X.A (pyIter v) (GL X pins σ tg R) X.xe s1) X.xe s
theorem yk {M:RE} {A:Jr} {E:Ir->Iz->Prop} {s:Iz} {tg:JH} {it:Iy} {u:Ir} {o:K9} {n:String} {vs:Array Ir} {Q:Unit->Iz->Prop} (ho:s.heap.get? it=Io o) (hc:o.cls=.type n) (hd:o.data=.fields vs)
    (hn:["enumerate","zip","dict_itemiterator","dict_reverseitemiterator","odict_iterator","itertools.zip_longest","itertools.pairwise"].contains n=false) (hQ:Q () s):wpAny M A (letOwnedTupleGo tg (.ref it) u) Q E s:=by
  unfold letOwnedTupleGo;cases tg<;>first
    | exact IA hQ
    | (cases u<;>first
        | exact IA hQ
        | (refine Ip (Tf ho ?_)
           rw [hc,hd];show wpAny M A (if (["enumerate","zip","dict_itemiterator","dict_reverseitemiterator","odict_iterator","itertools.zip_longest","itertools.pairwise"].contains n && vs[0]?==Io (rawInt _))=true then _ else _) Q E s;rw [if_neg (by intro h;rw [hn,Bool.false_and] at h;cases h)];exact IA hQ))
def AJ (K:Iq) (a:Iy):It :=
 ⟨λi H=>∃ xs x,aJ K H a xs/\xs[i]?=Io x,λi H x H'=>H'=H/\∀ xs,aJ K H a xs->xs[i]?=Io x,λi H=>∃ xs,aJ K H a xs/\xs.length<=i⟩
def Dy (K:Iq) (a:Iy):It :=
 ⟨λi H=>∃ xs x,bj K H a xs/\xs[i]?=Io x,λi H x H'=>H'=H/\∀ xs,bj K H a xs->xs[i]?=Io x,λi H=>∃ xs,bj K H a xs/\xs.length<=i⟩
def CA (lo:Int) (n:Nat):It:=⟨λi _=>i<n,λi H x H'=>H'=H/\x=.int (lo+i),λi _=>n<=i⟩
theorem xi {P:IM} {w:Jo} {K:Iq} {tg:JH} (a it:Iy):Turn P w K tg (AJ K a) [it] it (λi h=>h.IsListIter it a i) where
 mem:=by simp
 obj:=λi h st b hb=>by
  have e:b=it:=by simpa using hb
  subst e;obtain⟨o,e,c,d⟩:=st;exact⟨o,e,λv z=>by rw [d] at z;cases z⟩
 keep:=λi h h' st k=>st.at λo e=>k it (by simp) o e
 item:=by intro X hP hw hK hc i pins s σ H E I hf st hg;subst hP hw hK;obtain⟨xs,x,hq,hx⟩:=hg;obtain⟨its,rv,p,hz⟩:=I.list hq;obtain⟨u,hu,ru⟩:=rv.get hx;obtain⟨f0,f1,f2,f3,f4,f5⟩:=hf it (by simp);refine wpAny_pyNext_list_item st p.isList (x:=u) (by simpa using hu) λh' st' sb=>?_;have I1:Inv X pins σ H { s with heap:=h' }:=I.turned (t':=s.toks) (λb o hb e=>(sb.2 b hb).trans e) f0 f1 f3 f4 f5;obtain⟨o,e,c,d⟩:=id st';exact⟨u,rfl,yk (s:={ s with heap:=h' }) e c d (by decide) ⟨x,H,I1,ru,⟨rfl,λys hy=>by rw [I.lQ hy hq];exact hx⟩,st',λb hb=>(hf b hb).1⟩⟩
 done:=by intro X hP hw hK hc i pins s σ H E I hf st hg;subst hP hw hK;obtain⟨xs,hq,hx⟩:=hg;obtain⟨its,rv,p,hz⟩:=I.list hq;obtain⟨f0,f1,f2,f3,f4,f5⟩:=hf it (by simp);have hl:=rv.length;exact wpAny_pyNext_list_end (I.ok.hd hc) st p.isList (by simp;lia) λh' eb=>⟨rfl,I.turned (t':=s.toks) (λb o hb e=>eb b o hb e) f0 f1 f3 f4 f5⟩
 self:=λ_ _ _ _ _ st h=>wpAny_pyIter_listiter st h
theorem uy {P:IM} {w:Jo} {K:Iq} {tg:JH} (a it:Iy):Turn P w K tg (Dy K a) [it] it (λi h=>h.IsTupleIter it a i) where
 mem:=by simp
 obj:=λi h st b hb=>by
  have e:b=it:=by simpa using hb
  subst e;obtain⟨o,e,c,d⟩:=st;exact⟨o,e,λv z=>by rw [d] at z;cases z⟩
 keep:=λi h h' st k=>st.at λo e=>k it (by simp) o e
 item:=by intro X hP hw hK hc i pins s σ H E I hf st hg;subst hP hw hK;obtain⟨xs,x,hq,hx⟩:=hg;obtain⟨its,rv,p,hz⟩:=I.tuple hq;obtain⟨u,hu,ru⟩:=rv.get hx;obtain⟨f0,f1,f2,f3,f4,f5⟩:=hf it (by simp);refine wpAny_pyNext_tuple_item st (show s.heap.IsTuple a its.toArray from p) (x:=u) (by simpa using hu) λh' st' sb=>?_;have I1:Inv X pins σ H { s with heap:=h' }:=I.turned (t':=s.toks) (λb o hb e=>(sb.2 b hb).trans e) f0 f1 f3 f4 f5;obtain⟨o,e,c,d⟩:=id st';exact⟨u,rfl,yk (s:={ s with heap:=h' }) e c d (by decide) ⟨x,H,I1,ru,⟨rfl,λys hy=>by rw [I.oG hy hq];exact hx⟩,st',λb hb=>(hf b hb).1⟩⟩
 done:=by intro X hP hw hK hc i pins s σ H E I hf st hg;subst hP hw hK;obtain⟨xs,hq,hx⟩:=hg;obtain⟨its,rv,p,hz⟩:=I.tuple hq;obtain⟨f0,f1,f2,f3,f4,f5⟩:=hf it (by simp);have hl:=rv.length;exact wpAny_pyNext_tuple_end (I.ok.hd hc) st (show s.heap.IsTuple a its.toArray from p) (by simp;lia) λh' eb=>⟨rfl,I.turned (t':=s.toks) (λb o hb e=>eb b o hb e) f0 f1 f3 f4 f5⟩
 self:=λ_ _ _ _ _ st h=>wpAny_pyIter_tupleiter st h
theorem ux {P:IM} {w:Jo} {K:Iq} {tg:JH} (it:Iy) (lo:Int) (n:Nat):Turn P w K tg (CA lo n) [it] it (λi h=>IsRangeIter h it (lo+(i:Nat)*1) ((n:Int)-(i:Nat)) 1) where
 mem:=by simp
 obj:=λi h st b hb=>by
  have e:b=it:=by simpa using hb
  subst e;exact⟨_,st,λv z=>by
   have z':Data.fields _=Data.cell v:=z;cases z'⟩
 keep:=λi h h' st k=>k it (by simp) _ st
 item:=by intro X hP hw hK hc i pins s σ H E I hf st hg;subst hP hw hK;obtain⟨f0,f1,f2,f3,f4,f5⟩:=hf it (by simp);have W:=Walks.range (prog:=X.prog) (w:=X.w) (I.ok.hd hc) it lo 1 n;refine W.item i s _ _ hg st λv h' tk hv st' kk=>?_;obtain⟨t,rfl⟩:=hv;have I1:Inv X pins σ H { s with heap:=h',toks:=tk }:=I.turned (λb o hb e=>kk b o (by simpa using hb) e) f0 f1 f3 f4 f5;refine⟨_,rfl,yk (s:={ s with heap:=h',toks:=tk }) (n := "range_iterator") st' rfl rfl (by decide) ⟨.int (lo+i),H,I1,⟨t,?_⟩,⟨rfl,rfl⟩,st',λb hb=>(hf b hb).1⟩⟩;rw [KP]
 done:=by intro X hP hw hK hc i pins s σ H E I hf st hg;subst hP hw hK;obtain⟨f0,f1,f2,f3,f4,f5⟩:=hf it (by simp);exact wpAny_pyNext_range_end (I.ok.hd hc) st (by have:n<=i:=hg;lia) λh' eb=>⟨rfl,I.turned (t':=s.toks) (λb o hb e=>eb b o hb e) f0 f1 f3 f4 f5⟩
 self:=λ_ _ _ _ _ st h=>wpAny_pyIter_rangeiter st h
section
variable {X:Cx} {tg:JH}
def yq (K:Iq) (tl:TE):TI:=λσ H R=>tl σ H λx H1=>∃ a,x=.ref a/\(∃ xs,aJ K H1 a xs)/\R (AJ K a) H1
def FP (K:Iq) (tl:TE):TI:=λσ H R=>tl σ H λx H1=>∃ a,x=.ref a/\(∃ xs,bj K H1 a xs)/\R (Dy K a) H1
theorem bp {l:JH} {tl:TE} (hl:PE X l tl):PI X tg l (yq X.K tl):=by
 intro pins s σ H R I h;refine bf (hl pins s σ H _ I h) λv s1 ⟨x,H1,I1,r1,q1⟩=>?_;obtain⟨a,e,⟨xs,hq⟩,q⟩:=q1;subst e;cases r1;obtain⟨its,rv,p,hz⟩:=I1.list hq;refine MP p.isList ?_;refine⟨s1.heap.objs.size,[s1.heap.objs.size],_,_,H1,rfl,I1.kept (t':=s1.toks) λb o e=>Iw _ e,xi a _,⟨_,II _ rfl,rfl,rfl⟩,λb hb=>?_,q⟩;have e:b=s1.heap.objs.size:=by simpa using hb
 subst e;exact I1.mQ (IF _) (I1.hok.fresh (IF _))
theorem iL {l:JH} {tl:TE} (hl:PE X l tl):PI X tg l (FP X.K tl):=by
 intro pins s σ H R I h;refine bf (hl pins s σ H _ I h) λv s1 ⟨x,H1,I1,r1,q1⟩=>?_;obtain⟨a,e,⟨xs,hq⟩,q⟩:=q1;subst e;cases r1;obtain⟨its,rv,p,hz⟩:=I1.tuple hq;refine Rr (show s1.heap.IsTuple a its.toArray from p) ?_;refine⟨s1.heap.objs.size,[s1.heap.objs.size],_,_,H1,rfl,I1.kept (t':=s1.toks) λb o e=>Iw _ e,uy a _,⟨_,II _ rfl,rfl,rfl⟩,λb hb=>?_,q⟩;have e:b=s1.heap.objs.size:=by simpa using hb
 subst e;exact I1.mQ (IF _) (I1.hok.fresh (IF _))
theorem rS {pins:List (Iy × K9)} {σ:St} {H:Hp} {s:Iz} {R:It->Hp->Prop} {E:Ir->Iz->Prop} {lo hi:Int} {t u v:Tok} {tk:Nat} (I:Inv X pins σ H s) (h1:-(2^62)<=lo) (h2:lo<2^62) (h3:-(2^62)<=hi) (h4:hi<2^62)
  (q:R (CA lo (hi-lo).toNat) H):wpAny (model X.prog X.w) X.A (pyIter (.ref s.heap.objs.size)) (GL X pins σ tg R) E { s with heap:=s.heap.push { cls:=.type "range",data:=.fields #[.int lo t,.int hi u,.int 1 v] },toks:=tk }:=by
 refine wpAny_pyIter_range (IsRange.new ..) (small_one h1 h2 h3 h4) ?_;have I1:Inv X pins σ H { s with heap:=s.heap.push { cls:=.type "range",data:=.fields #[.int lo t,.int hi u,.int 1 v] },toks:=tk }:=I.kept λb o e=>Iw _ e;refine⟨(s.heap.push { cls:=.type "range",data:=.fields #[.int lo t,.int hi u,.int 1 v] }).objs.size,[(s.heap.push { cls:=.type "range",data:=.fields #[.int lo t,.int hi u,.int 1 v] }).objs.size],_,_,H,rfl,
  I1.kept (t':=tk) λb o e=>Iw _ e,ux _ lo (hi-lo).toNat,?_,λb hb=>?_,q⟩
 ·have e1:lo+((0:Nat):Int)*1=lo:=by simp
  have e2:(((hi-lo).toNat:Nat):Int)-((0:Nat):Int)=Builtin.Range.rangeSize lo hi 1:=by rw [rangeSize_one];split<;>lia
  show IsRangeIter _ _ (lo+((0:Nat):Int)*1) ((((hi-lo).toNat:Nat):Int)-((0:Nat):Int)) 1;rw [e1,e2];exact II _ rfl
 ·have e:b=(s.heap.push { cls:=.type "range",data:=.fields #[.int lo t,.int hi u,.int 1 v] }).objs.size:=by simpa using hb
  subst e;exact I1.mQ (IF _) (I1.hok.fresh (IF _))
def CW (ta:TA):TI:=λσ H R=>ta σ H λvs H1=>∃ j:Int,vs=[.int j] /\ -(2^62)<=j/\j<2^62/\R (CA 0 j.toNat) H1
def CY (ta:TA):TI:=λσ H R=>ta σ H λvs H1=>∃ i j:Int,vs=[.int i,.int j]/\(-(2^62)<=i/\i<2^62 /\ -(2^62)<=j/\j<2^62)/\R (CA i (j-i).toNat) H1
theorem dZ {a:JH} {ta:TA} {p pos:Mn} (hg:Gl X "range") (hm:X.mg "range"=none) (ha:PA X [a] ta) (hs:starEach [a] X.env=[(false,eval a X.env)]:=by rfl):PI X tg (.Call (.Name "range" p) [a] [] pos) (CW ta):=by
 intro pins s σ H R I h;refine Vo (fc I hg hm boot_range (Kr (bf (ha pos pins s σ H _ I h) λus s1 ⟨vs,H1,I1,r1,q1⟩=>?_) hs rfl));obtain⟨j,e,q1,q2,q⟩:=q1;subst e;cases r1 with
 | cons r rr =>cases rr;obtain⟨t,rfl⟩:=r;exact call_range_1 (rS I1 (by lia) (by lia) q1 q2 (by simpa using q))
theorem wV {a b:JH} {ta:TA} {p pos:Mn} (hg:Gl X "range") (hm:X.mg "range"=none) (ha:PA X [a,b] ta) (hs:starEach [a,b] X.env=[(false,eval a X.env),(false,eval b X.env)]:=by rfl) (hs2:starEach [b] X.env=[(false,eval b X.env)]:=by rfl) :
  PI X tg (.Call (.Name "range" p) [a,b] [] pos) (CY ta):=by
 intro pins s σ H R I h;refine Vo (fc I hg hm boot_range (Kr (bf (ha pos pins s σ H _ I h) λus s1 ⟨vs,H1,I1,r1,q1⟩=>?_) (by rw [hs,hs2]) (by rw [hs2];rfl)));obtain⟨i,j,e,⟨q1,q2,q3,q4⟩,q⟩:=q1;subst e;cases r1 with
 | cons r rr =>
  cases rr with
  | cons r' rr =>cases rr;obtain⟨t,rfl⟩:=r;obtain⟨t',rfl⟩:=r';exact call_range_2 (rS I1 q1 q2 q3 q4 q)
def Gq (wi:TI) (g:TG) (tb:TS):TS:=λD σ H=>wi σ H λJ H1=>∃ W:Nat->Nat->St->Hp->Prop,(∃ m,W 0 m σ H1)/\∀ i m σ H,W i m σ H ->
 (J.stop i H/\D.nx σ H)∨(J.go i H/\∃ N:St->Hp->Prop,(∀ σ' H',N σ' H'->∃ m',m'<m/\W (i+1) m' σ' H')/\∀ x H',J.yld i H x H'->g x σ H' λσ2 H2=>tb { D with nx:=N,ct:=N,bk:=D.nx } σ2 H2)
def gG (fp:List Iy) (h:JD):List (Iy × K9):=fp.filterMap λb=>(h.get? b).map λo=>(b,o)
theorem dz {fp:List Iy} {h:JD} {b:Iy} {o:K9} (hb:b∈fp) (e:h.get? b=Io o):(b,o)∈gG fp h:=OL.mpr ⟨b,hb,by rw [e];rfl⟩
theorem jV {fp:List Iy} {h:JD} {p:Iy × K9} (hp:p∈gG fp h):p.1∈fp/\h.get? p.1=Io p.2:=by
 obtain⟨b,hb,e⟩:=OL.mp hp;cases q:h.get? b with
 | none=>rw [q] at e;cases e
 | some o =>rw [q] at e;have e':(b,o)=p:=JZ e;subst e';exact⟨hb,q⟩
theorem Inv.pinned {pins:List (Iy × K9)} {σ:St} {H:Hp} {s:Iz} {fp:List Iy} (I:Inv X pins σ H s) (hf:∀ b∈fp,mN X pins H b) (ho:∀ b∈fp,∃ o,s.heap.get? b=Io o/\∀ v,o.data≠.cell v):Inv X (pins++gG fp s.heap) σ H s :=
 I.hZ λp hp=>(J0.mp hp).elim (λz=>I.pin p (Ja _ z)) λz=>by obtain⟨hb,e⟩:=jV z;obtain⟨f0,f1,f2,_⟩:=hf p.1 hb;obtain⟨o,e',d⟩:=ho p.1 hb;rw [e] at e';cases e';exact⟨e,f0,f1,f2,d⟩
theorem Inv.gR {pins pl:List (Iy × K9)} {σ:St} {H:Hp} {s:Iz} (I:Inv X (pins++pl) σ H s):Inv X pins σ H s:=I.hZ λp hp=>I.pin p (Ja _ (MT _ hp))
theorem b7 {iter:JH} {body:List MH} {wi:TI} {g:TG} {tb:TS} {pos:Mn} (hp:PassesOwn (model X.prog X.w) X.A X.env X.xe) (hc:X.calm=true) (hi:PI X tg iter wi) (hg:PG X tg g) (hb:iG X body tb)
  (hs:∀ x,foldedSetIterable iter X.env x=pure x:=by intro _;rfl):PS X (.For tg iter body [] pos) (Gq wi g tb):=by
 intro pins s σ H D I h;refine wpAny_For (bf (hi pins s σ H _ I h) λv s1 h1=>bf h1 λitv s2 h2=>?_) hs;obtain⟨it,fp,tn,J,H2,e,I2,T,st2,f2,W,⟨m0,w0⟩,turn⟩:=h2;subst e
 -- what stays true of the iterator's objects through the loop
 have stat:∀{H':Hp},(∀ b∈fp,H' b=none)->∀ b∈fp,mN X pins H' b:=λhn b hb=>⟨hn b hb,(f2 b hb).2⟩
 refine codeAny_forLoop_any (λn s'=>∃ i σ' H',Inv X pins σ' H' s'/\tn i s'.heap/\(∀ b∈fp,H' b=none)/\W i n σ' H') ?_ m0 ⟨0,σ,H2,I2,st2,λb hb=>(f2 b hb).1,w0⟩;rintro n s3 ⟨i,σ3,H3,I3,st3,fr3,w3⟩;rcases turn i n σ3 H3 w3 with⟨stop,qn⟩|⟨go,N,hN,step⟩
 ·refine LZ hp (bf (T.done X rfl rfl rfl hc i pins s3 σ3 H3 X.xe I3 (stat fr3) st3 stop) λr s4 ⟨hr,I4⟩=>?_);subst hr;exact Oq ⟨σ3,H3,I4,qn⟩
 ·refine LZ hp (bf (T.item X rfl rfl rfl hc i pins s3 σ3 H3 X.xe I3 (stat fr3) st3 go) λr s4 ⟨u,hr,h4⟩=>?_);subst hr;refine LZ hp (bf h4 λ_ s5 ⟨x,H5,I5,r5,y5,st5,fr5⟩=>?_);have I5':=I5.pinned (stat fr5) (T.obj _ _ st5);refine LZ hp (bf (hg _ s5 σ3 H5 x u _ I5' r5 (step x H5 y5)) λ_ s6 ⟨σ6,H6,I6,q6⟩=>?_);refine LZ hp (bf (hb _ s6 σ6 H6 _ I6 q6) λf s7 q7=>?_);have again:∀{σ7:St} {H7:Hp},Inv X (pins++gG fp s5.heap) σ7 H7 s7->N σ7 H7->∃ m,m<n/\∃ i σ' H',Inv X pins σ' H' s7/\tn i s7.heap/\(∀ b∈fp,H' b=none)/\W i m σ' H':=λ{σ7 H7} I7 n7=>by obtain⟨m',hm,w7⟩:=hN σ7 H7 n7;refine⟨m',hm,i+1,σ7,H7,I7.gR,T.keep _ _ _ st5 λb hb o e=>(I7.pin (b,o) (Ja _ (Ja _ (dz hb e)))).1,λb hb=>?_,w7⟩;obtain⟨o,e,d⟩:=T.obj _ _ st5 b hb;exact (I7.pin (b,o) (Ja _ (Ja _ (dz hb e)))).2.1
  cases f with
  | next=>obtain⟨σ7,H7,I7,n7⟩:=q7;exact again I7 n7
  | cont=>obtain⟨σ7,H7,I7,n7⟩:=q7;exact again I7 n7
  | brk=>obtain⟨σ7,H7,I7,q7⟩:=q7;exact⟨σ7,H7,I7.gR,q7⟩
  | ret v=>obtain⟨x7,σ7,H7,I7,r7,q7⟩:=q7;exact⟨x7,σ7,H7,I7.gR,r7,q7⟩
end
theorem yf {K:Iq} {a:Iy} {xs:List V} {g:TG} {tb:TS} {D:Ends} {σ:St} {H:Hp} (Pv:Nat->St->Hp->Prop) (h0:Pv 0 σ H) (hl:∀ i σ H,i<=xs.length->Pv i σ H->aJ K H a xs)
  (hs:∀ i x σ H,xs[i]?=Io x->Pv i σ H->g x σ H λσ2 H2=>tb { D with nx:=Pv (i+1),ct:=Pv (i+1),bk:=D.nx } σ2 H2) (hd:∀ σ H,Pv xs.length σ H->D.nx σ H) :
  ∃ W:Nat->Nat->St->Hp->Prop,(∃ m,W 0 m σ H)/\∀ i m σ H,W i m σ H ->
   ((AJ K a).stop i H/\D.nx σ H)∨((AJ K a).go i H/\∃ N:St->Hp->Prop,(∀ σ' H',N σ' H'->∃ m',m'<m/\W (i+1) m' σ' H')/\∀ x H',(AJ K a).yld i H x H'->g x σ H' λσ2 H2=>tb { D with nx:=N,ct:=N,bk:=D.nx } σ2 H2):=by
 refine⟨λi m σ H=>m=xs.length-i/\i<=xs.length/\Pv i σ H,⟨xs.length,by simp,J4 _,h0⟩,?_⟩;rintro i m σ H ⟨rfl,hi,p⟩;have q:=hl i σ H hi p;by_cases hlt:i<xs.length
 ·refine .inr ⟨⟨xs,xs[i],q,by simp [hlt]⟩,Pv (i+1),λσ' H' p'=>⟨xs.length-(i+1),by lia,rfl,hlt,p'⟩,λx H' y=>?_⟩;obtain⟨e,y⟩:=y;subst e;exact hs i x σ _ (y xs q) p
 ·have e:i=xs.length:=by lia
  subst e;exact .inl ⟨⟨xs,q,IF _⟩,hd σ H p⟩
theorem Bi {K:Iq} {a:Iy} {xs:List V} {g:TG} {tb:TS} {D:Ends} {σ:St} {H:Hp} (Pv:Nat->St->Hp->Prop) (h0:Pv 0 σ H) (hl:∀ i σ H,i<=xs.length->Pv i σ H->bj K H a xs)
  (hs:∀ i x σ H,xs[i]?=Io x->Pv i σ H->g x σ H λσ2 H2=>tb { D with nx:=Pv (i+1),ct:=Pv (i+1),bk:=D.nx } σ2 H2) (hd:∀ σ H,Pv xs.length σ H->D.nx σ H) :
  ∃ W:Nat->Nat->St->Hp->Prop,(∃ m,W 0 m σ H)/\∀ i m σ H,W i m σ H ->
   ((Dy K a).stop i H/\D.nx σ H)∨((Dy K a).go i H/\∃ N:St->Hp->Prop,(∀ σ' H',N σ' H'->∃ m',m'<m/\W (i+1) m' σ' H')/\∀ x H',(Dy K a).yld i H x H'->g x σ H' λσ2 H2=>tb { D with nx:=N,ct:=N,bk:=D.nx } σ2 H2):=by
 refine⟨λi m σ H=>m=xs.length-i/\i<=xs.length/\Pv i σ H,⟨xs.length,by simp,J4 _,h0⟩,?_⟩;rintro i m σ H ⟨rfl,hi,p⟩;have q:=hl i σ H hi p;by_cases hlt:i<xs.length
 ·refine .inr ⟨⟨xs,xs[i],q,by simp [hlt]⟩,Pv (i+1),λσ' H' p'=>⟨xs.length-(i+1),by lia,rfl,hlt,p'⟩,λx H' y=>?_⟩;obtain⟨e,y⟩:=y;subst e;exact hs i x σ _ (y xs q) p
 ·have e:i=xs.length:=by lia
  subst e;exact .inl ⟨⟨xs,q,IF _⟩,hd σ H p⟩
theorem vZ {lo:Int} {n:Nat} {g:TG} {tb:TS} {D:Ends} {σ:St} {H:Hp} (Pv:Nat->St->Hp->Prop) (h0:Pv 0 σ H)
  (hs:∀ i σ H,i<n->Pv i σ H->g (.int (lo+i)) σ H λσ2 H2=>tb { D with nx:=Pv (i+1),ct:=Pv (i+1),bk:=D.nx } σ2 H2) (hd:∀ σ H,Pv n σ H->D.nx σ H) :
  ∃ W:Nat->Nat->St->Hp->Prop,(∃ m,W 0 m σ H)/\∀ i m σ H,W i m σ H ->
   ((CA lo n).stop i H/\D.nx σ H)∨((CA lo n).go i H/\∃ N:St->Hp->Prop,(∀ σ' H',N σ' H'->∃ m',m'<m/\W (i+1) m' σ' H')/\∀ x H',(CA lo n).yld i H x H'->g x σ H' λσ2 H2=>tb { D with nx:=N,ct:=N,bk:=D.nx } σ2 H2):=by
 refine⟨λi m σ H=>m=n-i/\i<=n/\Pv i σ H,⟨n,by simp,J4 _,h0⟩,?_⟩;rintro i m σ H ⟨rfl,hi,p⟩;by_cases hlt:i<n
 ·refine .inr ⟨hlt,Pv (i+1),λσ' H' p'=>⟨n-(i+1),by lia,rfl,hlt,p'⟩,λx H' y=>?_⟩;obtain⟨e,y⟩:=y;subst e y;exact hs i σ _ hlt p
 ·have e:i=n:=by lia
  subst e;exact .inl ⟨IF _,hd σ H p⟩
abbrev R2:=V->V->Hp->VK->Prop
def iU (X:Cx) (f:Ir->Ir->TZ Ir) (r:R2):Prop :=
 ∀(pins:List (Iy × K9)) (s:Iz) (σ:St) (H:Hp) (x y:V) (v u:Ir) (Q:VK),Inv X pins σ H s->RelV x v->RelV y u->r x y H Q ->
  wpAny (model X.prog X.w) X.A (f v u) (EP X pins σ Q) X.xe s
def Ha (X:Cx) (f:Ir->TZ Ir) (r:V->Hp->VK->Prop):Prop :=
 ∀(pins:List (Iy × K9)) (s:Iz) (σ:St) (H:Hp) (x:V) (v:Ir) (Q:VK),Inv X pins σ H s->RelV x v->r x H Q ->
  wpAny (model X.prog X.w) X.A (f v) (EP X pins σ Q) X.xe s
def dQ (X:Cx) (f:Ir) (r:List V->Hp->VK->Prop):Prop :=
 ∀(pins:List (Iy × K9)) (s:Iz) (σ:St) (H:Hp) (xs:List V) (us:List Ir) (Q:VK),Inv X pins σ H s->Vals xs us->r xs H Q ->
  wpAny (model X.prog X.w) X.A (call f us) (EP X pins σ Q) X.xe s
def G9 (X:Cx) (r:V->Hp->(Bool->Hp->Prop)->Prop):Prop :=
 ∀(pins:List (Iy × K9)) (s:Iz) (σ:St) (H:Hp) (x:V) (v:Ir) (Q:Bool->Hp->Prop),Inv X pins σ H s->RelV x v->r x H Q ->
  wpAny (model X.prog X.w) X.A (truthy v) (TP X pins σ Q) X.xe s
def Fd (r:R2) (ta tb:TE):TE:=λσ H Q=>ta σ H λx H1=>tb σ H1 λy H2=>r x y H2 Q
def HQ (r:V->Hp->VK->Prop) (ta:TE):TE:=λσ H Q=>ta σ H λx H1=>r x H1 Q
def rI (C:Int->Int->Prop) (g:Int->Int->V):R2:=λx y H Q=>∃ i j,x=.int i/\y=.int j/\C i j/\Q (g i j) H
def BX (g:Int->Int->V):R2:=λx y H Q=>∃ i j,x=.int i/\y=.int j/\Q (g i j) H
def rU (g:Int->V):V->Hp->VK->Prop:=λx H Q=>∃ i,x=.int i/\Q (g i) H
section
variable {X:Cx} {a b c:JH} {ta tb tc:TE} {pos:Mn}
theorem DL (ha:PE X a ta) (hb:PE X b tb) {pins:List (Iy × K9)} {s:Iz} {σ:St} {H:Hp} {R:V->V->Hp->Prop} (I:Inv X pins σ H s)
  (h:ta σ H λx H1=>tb σ H1 λy H2=>R x y H2) {Q:Ir->Iz->Prop} {f:Ir->Ir->TZ Ir}
  (hf:∀ v u s2 x y H2,Inv X pins σ H2 s2->RelV x v->RelV y u->R x y H2->wpAny (model X.prog X.w) X.A (f v u) Q X.xe s2) :
  wpAny (model X.prog X.w) X.A (eval a X.env) (λv s₁=>wpAny (model X.prog X.w) X.A (eval b X.env) (λu s₂=>wpAny (model X.prog X.w) X.A (f v u) Q X.xe s₂) X.xe s₁) X.xe s:=by
 refine bf (ha pins s σ H _ I h) λv s1 ⟨x,H1,I1,r1,q1⟩=>?_;refine bf (hb pins s1 σ H1 _ I1 q1) λu s2 ⟨y,H2,I2,r2,q2⟩=>?_;exact hf v u s2 x y H2 I2 r1 r2 q2
theorem ar {op:QG} {r:R2} (ho:iU X (binaryOp op) r) (ha:PE X a ta) (hb:PE X b tb):PE X (.BinOp a op b pos) (Fd r ta tb):=by intro pins s σ H Q I h;exact wpAny_BinOp (DL ha hb I h λv u s2 x y H2 I2 rx ry q=>ho pins s2 σ H2 x y v u Q I2 rx ry q)
theorem ma {op:UnaryOp} {r:V->Hp->VK->Prop} (ho:Ha X (unaryOp op) r) (ha:PE X a ta):PE X (.UnaryOp op a pos) (HQ r ta):=by intro pins s σ H Q I h;exact UnaryOp_ (bf (ha pins s σ H _ I h) λv s1 ⟨x,H1,I1,r1,q1⟩=>ho pins s1 σ H1 x v Q I1 r1 q1)
theorem FZ {f:Ir->Ir->TZ Ir} {C:Int->Int->Prop} {g:Int->Int->Int}
  (rule:∀(i j:Int) (t u:Tok) (s:Iz) (Q:Ir->Iz->Prop) (E:Ir->Iz->Prop),C i j->Q (.int (g i j) s.toks) { s with toks:=s.toks+1 }->wpAny (model X.prog X.w) X.A (f (.int i t) (.int j u)) Q E s) :
  iU X f (rI C λi j=>.int (g i j)):=by
 intro pins s σ H x y v u Q I rx ry h;obtain⟨i,j,rfl,rfl,hc,q⟩:=h;obtain⟨t,rfl⟩:=rx;obtain⟨t',rfl⟩:=ry;exact rule i j t t' s _ _ hc ⟨.int (g i j),H,I.tok _,⟨_,rfl⟩,q⟩
theorem Er {f:Ir->Ir->TZ Ir} {g:Int->Int->Int}
  (rule:∀(i j:Int) (t u:Tok) (s:Iz) (Q:Ir->Iz->Prop) (E:Ir->Iz->Prop),Q (.int (g i j) s.toks) { s with toks:=s.toks+1 }->wpAny (model X.prog X.w) X.A (f (.int i t) (.int j u)) Q E s) :
  iU X f (BX λi j=>.int (g i j)):=by
 intro pins s σ H x y v u Q I rx ry h;obtain⟨i,j,rfl,rfl,q⟩:=h;obtain⟨t,rfl⟩:=rx;obtain⟨t',rfl⟩:=ry;exact rule i j t t' s _ _ ⟨.int (g i j),H,I.tok _,⟨_,rfl⟩,q⟩
theorem Ep {f:Ir->Ir->TZ Ir} {g:Int->Int->Bool}
  (rule:∀(i j:Int) (t u:Tok) (s:Iz) (Q:Ir->Iz->Prop) (E:Ir->Iz->Prop),Q (.bool (g i j)) s->wpAny (model X.prog X.w) X.A (f (.int i t) (.int j u)) Q E s) :
  iU X f (BX λi j=>.bl (g i j)):=by
 intro pins s σ H x y v u Q I rx ry h;obtain⟨i,j,rfl,rfl,q⟩:=h;obtain⟨t,rfl⟩:=rx;obtain⟨t',rfl⟩:=ry;exact rule i j t t' s _ _ ⟨.bl (g i j),H,I,rfl,q⟩
def GS (i j:Int):Prop:=0<=j/\j<=1000000/\i.natAbs<2^64
def Ff (i j:Int):Prop:=(-(2^64)<i/\i<2^64)∨(-(2^64)<j/\j<2^64)
theorem Ff.ok {i j:Int} (h:Ff i j):IntMulOk i j:=by
 rcases h with⟨h1,h2⟩|⟨h1,h2⟩
 ·exact .of_left (T3 h1 h2)
 ·exact .of_right (T3 h1 h2)
theorem bc:iU X (binaryOp .Add) (BX λi j=>.int (i+j)):=Er λ_ _ _ _ _ _ _ q=>add_int q
theorem fL:iU X (binaryOp .Sub) (BX λi j=>.int (i-j)):=Er λ_ _ _ _ _ _ _ q=>sub_int q
theorem aH:iU X (binaryOp .Mod) (rI (λ_ j=>0<j) λi j=>.int (i%j)):=FZ λi j _ _ _ _ _ hc q=>by have h1:(0:Int)<j:=hc;exact mod_int' (by lia) (by rw [Int.fmod_eq_emod_of_nonneg i (by lia)];exact q)
theorem gW:iU X (inplaceOp .Add) (BX λi j=>.int (i+j)):=Er λ_ _ _ _ _ _ _ q=>Tc q
theorem Im {f:Ir->TZ Ir} {g:Int->Int}
  (rule:∀(i:Int) (t:Tok) (s:Iz) (Q:Ir->Iz->Prop) (E:Ir->Iz->Prop),Q (.int (g i) s.toks) { s with toks:=s.toks+1 }->wpAny (model X.prog X.w) X.A (f (.int i t)) Q E s) :
  Ha X f (rU λi=>.int (g i)):=by
 intro pins s σ H x v Q I rx h;obtain⟨i,rfl,q⟩:=h;obtain⟨t,rfl⟩:=rx;exact rule i t s _ _ ⟨.int (g i),H,I.tok _,⟨_,rfl⟩,q⟩
theorem iR:Ha X (unaryOp .USub) (rU λi=>.int (-i)):=Im λ_ _ _ _ _ q=>neg_int q
end
noncomputable def pW:V->V->Bool
 | .non,.non=>true | .non,.int _=>true | .int _,.non=>true | .non,.bl _=>true | .bl _,.non=>true | .non,.str _=>true | .str _,.non=>true
 | .int _,.int _=>true | .bl _,.bl _=>true | .str _,.str _=>true | .byt _,.byt _=>true
 | .int _,.str _=>true | .str _,.int _=>true | .bl _,.str _=>true | .str _,.bl _=>true
 | _,_=>false
def HH:R2:=λx y H Q=>pW x y=true/\Q (.bl (decide (x=y))) H
def HJ:R2:=λx y H Q=>pW x y=true/\Q (.bl (!decide (x=y))) H
theorem uI {i j:Int}:decide (V.int i=V.int j)=(i==j):=by rw [L3];simp
theorem xV {i j:Bool}:decide (V.bl i=V.bl j)=(i==j):=by rw [L3];simp
theorem uJ {i j:Jb}:decide (V.str i=V.str j)=(i==j):=by rw [L3];simp
theorem uH {i j:Array UInt8}:decide (V.byt i=V.byt j)=(i.toList==j.toList):=by rw [L3];cases i;cases j;simp
section
variable {X:Cx} {a b c:JH} {ta tb tc:TE} {pos:Mn}
theorem aU {pins:List (Iy × K9)} {σ:St} {H:Hp} {s:Iz} {Q:VK} {k k':Bool} (I:Inv X pins σ H s) (q:Q (.bl k) H) (e:k=k'):EP X pins σ Q (.bool k') s:=by subst e;exact⟨.bl k,H,I,rfl,q⟩
theorem cL:iU X (compareOp .Eq) HH:=by
 intro pins s σ H x y v u Q I rx ry h;obtain⟨hs,q⟩:=h;cases x with
 | non =>
  cases rx;cases y with
  | non=>cases ry;exact TF (aU I q (by simp))
  | bl j=>cases ry;exact TH (aU I q (by simp))
  | int j=>obtain⟨t',rfl⟩:=ry;exact T4 (aU I q (by simp))
  | str j=>obtain⟨t',rfl⟩:=ry;exact T5 (aU I q (by simp))
  | _=>exact absurd (show false=true from hs) Jk
 | bl i =>
  cases rx;cases y with
  | non=>cases ry;exact TJ (aU I q (by simp))
  | bl j=>cases ry;exact eq_bool (aU I q xV)
  | str j=>obtain⟨t',rfl⟩:=ry;exact TK (aU I q (by simp))
  | _=>exact absurd (show false=true from hs) Jk
 | int i =>
  obtain⟨t,rfl⟩:=rx;cases y with
  | non=>cases ry;exact T7 (aU I q (by simp))
  | int j=>obtain⟨t',rfl⟩:=ry;exact eq_int (aU I q uI)
  | str j=>obtain⟨t',rfl⟩:=ry;exact T8 (aU I q (by simp))
  | _=>exact absurd (show false=true from hs) Jk
 | str i =>
  obtain⟨t,rfl⟩:=rx;cases y with
  | non=>cases ry;exact T9 (aU I q (by simp))
  | bl j=>cases ry;exact TL (aU I q (by simp))
  | int j=>obtain⟨t',rfl⟩:=ry;exact Ua (aU I q (by simp))
  | str j=>obtain⟨t',rfl⟩:=ry;exact eq_str (aU I q uJ)
  | _=>exact absurd (show false=true from hs) Jk
 | byt i =>
  obtain⟨t,rfl⟩:=rx;cases y with
  | byt j=>obtain⟨t',rfl⟩:=ry;exact PySem.W.eq_bytes (aU I q uH)
  | _=>exact absurd (show false=true from hs) Jk
 | _=>cases y<;>exact absurd (show false=true from hs) Jk
theorem fY:iU X (compareOp .NotEq) HJ:=by
 intro pins s σ H x y v u Q I rx ry h;obtain⟨hs,q⟩:=h;cases x with
 | non =>
  cases rx;cases y with
  | non=>cases ry;exact TM (aU I q (by simp))
  | bl j=>cases ry;exact TN (aU I q (by simp))
  | int j=>obtain⟨t',rfl⟩:=ry;exact Ub (aU I q (by simp))
  | str j=>obtain⟨t',rfl⟩:=ry;exact Uc (aU I q (by simp))
  | _=>exact absurd (show false=true from hs) Jk
 | bl i =>
  cases rx;cases y with
  | non=>cases ry;exact TQ (aU I q (by simp))
  | bl j=>cases ry;exact ne_bool (aU I q (congrArg not xV))
  | str j=>obtain⟨t',rfl⟩:=ry;exact TR (aU I q (by simp))
  | _=>exact absurd (show false=true from hs) Jk
 | int i =>
  obtain⟨t,rfl⟩:=rx;cases y with
  | non=>cases ry;exact Ud (aU I q (by simp))
  | int j=>obtain⟨t',rfl⟩:=ry;exact ne_int (aU I q (congrArg not uI))
  | str j=>obtain⟨t',rfl⟩:=ry;exact Ue (aU I q (by simp))
  | _=>exact absurd (show false=true from hs) Jk
 | str i =>
  obtain⟨t,rfl⟩:=rx;cases y with
  | non=>cases ry;exact Ug (aU I q (by simp))
  | bl j=>cases ry;exact TU (aU I q (by simp))
  | int j=>obtain⟨t',rfl⟩:=ry;exact Uh (aU I q (by simp))
  | str j=>obtain⟨t',rfl⟩:=ry;exact ne_str (aU I q (congrArg not uJ))
  | _=>exact absurd (show false=true from hs) Jk
 | byt i =>
  obtain⟨t,rfl⟩:=rx;cases y with
  | byt j=>obtain⟨t',rfl⟩:=ry;exact PySem.W.ne_bytes (aU I q (congrArg not uH))
  | _=>exact absurd (show false=true from hs) Jk
 | _=>cases y<;>exact absurd (show false=true from hs) Jk
theorem fX:iU X (compareOp .Lt) (BX λi j=>.bl (decide (i<j))):=Ep λ_ _ _ _ _ _ _ q=>lt_int q
theorem C4:iU X (compareOp .LtE) (BX λi j=>.bl (decide (i<=j))):=Ep λ_ _ _ _ _ _ _ q=>le_int q
theorem c7:iU X (compareOp .Gt) (BX λi j=>.bl (decide (j<i))):=Ep λ_ _ _ _ _ _ _ q=>gt_int q
theorem ub:iU X (compareOp .Is) (λx y H Q=>y=.non/\Q (.bl (decide (x=.non))) H):=by
 intro pins s σ H x y v u Q I rx ry h;obtain⟨rfl,q⟩:=h;cases ry;refine is_none_gen (aU I q ?_);cases x<;>first
  | (cases rx;rfl)
  | (obtain⟨t,rfl⟩:=rx;rfl)
theorem BJ:iU X (compareOp .IsNot) (λx y H Q=>y=.non/\Q (.bl (!decide (x=.non))) H):=by
 intro pins s σ H x y v u Q I rx ry h;obtain⟨rfl,q⟩:=h;cases ry;refine isnot_none_gen (aU I q ?_);cases x<;>first
  | (cases rx;rfl)
  | (obtain⟨t,rfl⟩:=rx;rfl)
theorem aA (b:JH) {op:US} (h:op≠.In:=by decide) (h2:op≠.NotIn:=by decide):behindInMarks op b=false:=by
 have e1:(op==CmpOp.In)=false:=by cases op<;>first | rfl | exact absurd rfl h
 have e2:(op==CmpOp.NotIn)=false:=by cases op<;>first | rfl | exact absurd rfl h2
 cases b<;>simp [behindInMarks,e1,e2]
theorem dH {op:US} {r:R2} (ho:iU X (compareOp op) r) (ha:PE X a ta) (hb:PE X b tb) (hm:behindInMarks op b=false):PE X (.Compare a [op] [b] pos) (Fd r ta tb):=by intro pins s σ H Q I h;exact wpAny_Compare1 (DL ha hb I h λv u s2 x y H2 I2 rx ry q=>ho pins s2 σ H2 x y v u Q I2 rx ry q) hm
def Dq (t:TE):TT:=λσ H Q=>t σ H λx H'=>∃ k,x=.bl k/\Q k H'
theorem ay {op:US} {r:R2} (ho:iU X (compareOp op) r) (ha:PE X a ta) (hb:PE X b tb) (hm:behindInMarks op b=false):PT X (.Compare a [op] [b] pos) (Dq (Fd r ta tb)):=by
 intro pins s σ H Q I h;refine Qr (bf (ha pins s σ H _ I h) λv s1 ⟨x,H1,I1,r1,q1⟩=>bf (hb pins s1 σ H1 _ I1 q1) λu s2 ⟨y,H2,I2,r2,q2⟩ =>
  bf (ho pins s2 σ H2 x y v u _ I2 r1 r2 q2) λc s3 ⟨z,H3,I3,r3,k,e,q3⟩=>?_) hm
 subst e;cases r3;exact L6 ⟨H3,I3,q3⟩
def AR (K:Iq) (x:V) (H:Hp) (k:Bool):Prop :=
 match x with
 | .non=>k=false
 | .bl b=>k=b
 | .int i=>k=(i != 0)
 | .str y=>y.length<=sizeLine/\k=((y.length:Int) != 0)
 | .byt y=>y.size<=sizeLine/\k=((y.size:Int) != 0)
 | .ref p=>(∃ xs,aJ K H p xs/\k=!xs.isEmpty)∨(∃ xs,bj K H p xs/\k=!xs.isEmpty)∨∃ kvs,H p=Io (.dK kvs)/\k=!kvs.isEmpty
 | _=>False
theorem tL {κ:Type} {kvs:List (κ × V)} {vs:List (κ × Ir)} (r:KV kvs vs):(!vs.isEmpty)=!kvs.isEmpty:=by cases r<;>rfl
theorem lN {xs:List V} {its:List Ir} (r:Vals xs its):(!its.toArray.isEmpty)=!xs.isEmpty:=by cases r<;>simp
theorem lP:(sizeLine:Nat)<2^63:=by rw [Ny];decide
theorem EZ:G9 X (λx H Q=>∃ k,AR X.K x H k/\Q k H):=by
 intro pins s σ H x v Q I rx h;obtain⟨k,e,q⟩:=h;have hl:=lP;have hs:sizeLine=16777216:=Ny;cases x with
 | non =>cases rx;have e':k=false:=e;subst e';exact truthy_none ⟨H,I,q⟩
 | bl b =>cases rx;have e':k=b:=e;subst e';exact L6 ⟨H,I,q⟩
 | int i =>obtain⟨t,rfl⟩:=rx;have e':k=(i != 0):=e;subst e';exact PySem.P.truthy_int ⟨H,I,q⟩
 | str y =>obtain⟨t,rfl⟩:=rx;obtain⟨hy,e'⟩:y.length<=sizeLine/\k=((y.length:Int) != 0):=e;subst e';exact PySem.P.truthy_str (by lia) ⟨H,I.tok _,q⟩
 | byt y =>obtain⟨t,rfl⟩:=rx;obtain⟨hy,e'⟩:y.size<=sizeLine/\k=((y.size:Int) != 0):=e;subst e';exact PySem.W.truthy_bytes (by lia) ⟨H,I.tok _,q⟩
 | ref p =>
  cases rx;have e':(∃ xs,aJ X.K H p xs/\k=!xs.isEmpty)∨(∃ xs,bj X.K H p xs/\k=!xs.isEmpty)∨∃ kvs,H p=Io (.dK kvs)/\k=!kvs.isEmpty:=e;rcases e' with⟨xs,hx,e'⟩|⟨xs,hx,e'⟩|⟨kvs,hx,e'⟩
  ·subst e';obtain⟨its,r,pl,hz⟩:=I.list hx;have hlen:=r.length;exact wpAny_truthy_list pl.isList (by simp only [IP];lia) ⟨H,I.tok _,by rw [lN r];exact q⟩
  ·subst e';obtain⟨its,r,pl,hz⟩:=I.tuple hx;have hlen:=r.length;exact truthy_tuple pl (by simp only [IP];lia) ⟨H,I.tok _,by rw [lN r];exact q⟩
  ·subst e';obtain⟨hz,hS,vs,r,m⟩:kvs.length<=sizeLine/\(p==sysModules)=false/\∃ vs,KV kvs vs/\s.heap.DictOf (bP X.prog X.w) p vs:=I.hok p _ hx;have hlen:kvs.length=vs.length:=Nh r;exact wpAny_truthy_dict hS m (by lia) ⟨H,I.tok _,by rw [tL r];exact q⟩
 | _=>exact (show False from e).elim
theorem b8 (ha:PE X a ta) (he:∀ whole,isTrue a X.env whole=(do let v <- whole;standAt a.pos;holding [v] (truthy v))) :
  PT X a (λσ H Q=>ta σ H λx H'=>∃ k,AR X.K x H' k/\Q k H'):=by
 intro pins s σ H Q I h;exact isTrue_plain (bf (ha pins s σ H _ I h) λv s1 ⟨x,H1,I1,r1,q1⟩=>EZ pins s1 σ H1 x v Q I1 r1 q1) (he _)
theorem vals1 {x:V} {us:List Ir} (r:Vals [x] us):∃ u,us=[u]/\RelV x u:=by
 cases r with
 | cons r1 r2=>cases r2;exact⟨_,rfl,r1⟩
theorem vals2 {x y:V} {us:List Ir} (r:Vals [x,y] us):∃ u w',us=[u,w']/\RelV x u/\RelV y w':=by
 cases r with
 | cons r1 r2 =>
  cases r2 with
  | cons r3 r4=>cases r4;exact⟨_,_,rfl,r1,r3⟩
theorem lB:dQ X (.builtin "abs") (λxs H Q=>∃ i,xs=[.int i]/\Q (.int (if i<0 then -i else i)) H):=by intro pins s σ H xs us Q I r h;obtain⟨i,rfl,q⟩:=h;obtain⟨u,rfl,t,rfl⟩:=vals1 r;exact call_abs_int λu tk=>⟨.int (if i<0 then -i else i),H,I.tok _,⟨_,rfl⟩,q⟩
theorem vS (hc:X.calm=true):dQ X (.builtin "min") (λxs H Q=>∃ i j,xs=[.int i,.int j]/\Q (.int (if j<i then j else i)) H):=by
 intro pins s σ H xs us Q I r h;obtain⟨i,j,rfl,q⟩:=h;obtain⟨u,w',rfl,⟨t,rfl⟩,⟨t',rfl⟩⟩:=vals2 r;refine min_two_ints (I.ok.hd hc) λh' tk k=>⟨_,H,I.kept k,?_,q⟩
 by_cases hj:j<i
 ·rw [if_pos hj,if_pos hj];exact⟨_,rfl⟩
 ·rw [if_neg hj,if_neg hj];exact⟨_,rfl⟩
theorem vQ:dQ X (.type "int") (λxs H Q=>(∃ i,xs=[.int i]/\Q (.int i) H)∨∃ k,xs=[.bl k]/\Q (.int (if k then 1 else 0)) H):=by
 intro pins s σ H xs us Q I r h;rcases h with⟨i,rfl,q⟩|⟨k,rfl,q⟩
 ·obtain⟨u,rfl,t,rfl⟩:=vals1 r;exact call_int_int ⟨.int i,H,I,⟨_,rfl⟩,q⟩
 ·obtain⟨u,rfl,r1⟩:=vals1 r;cases r1;exact call_int_bool ⟨.int (if k then 1 else 0),H,I.tok _,⟨_,rfl⟩,q⟩
end
structure sL (h:JD) (x dx C:Iy) (mA:Jb->Option Ir):Prop where
 obj:h.get? x=Io (LG C dx)
 ns:h.Ns1 dx mA
 ne:dx≠x
theorem wk {h:JD} {dx:Iy} {mA:Jb->Option Ir} (n:h.Ns1 dx mA):∃ od,h.get? dx=Io od/\∀ name,OM name od=Io (mA name):=by
 obtain⟨o,es,ep,ho,hd,hk,_,hm⟩:=n;refine⟨o,ho,λname=>?_⟩;have e:=hm name;unfold nsFind findBy at e;rw [<- Array.find?_toList] at e;unfold OM;rw [hd];dsimp only;split
 ·rename_i y q;rw [q] at e;exact congrArg Io e
 ·rename_i q;rw [q] at e;have a:es.toList.any (·.refKey)=false:=by rw [List.any_eq_false];intro y hy;obtain⟨z,t,hkey⟩:=hk y (Array.mem_toList_iff.mp hy);simp [DictEntry.refKey,hkey]
  have a':¬es.toList.any (·.refKey)=true:=by rw [a];exact Jk
  rw [if_neg a'];exact congrArg Io e
theorem sL.look {h:JD} {x dx C:Iy} {mA:Jb->Option Ir} (I:sL h x dx C mA):∃ od,Tg h x (LG C dx) C (Io od)/\∀ name,OM name od=Io (mA name) :=
 let ⟨od,ho,hl⟩:=wk I.ns
 ⟨od,⟨I.obj,rfl,rfl,ho⟩,hl⟩
section
variable {prog:IM} {w:Jo} {A:Jr} {E:Ir->Iz->Prop} {s:Iz} {K:Iq} {x dx C f:Iy} {mA:Jb->Option Ir} {name:Jb} {v:Ir}
theorem get_map {expr:Bool} {Q:Ir->Iz->Prop} (X:K.In s.heap) (I:sL s.heap x dx C mA) (hg:N3 K C name=true) (hh:Pe K C=true)
  (ha:Le K (.ref C) name=Io none) (hv:mA name=Io v) (hv':R6 v=true) (h:Q v { s with toks:=s.toks+1 }) :
  wpAny (model prog w) A (getAttr (.ref x) name expr) Q E s:=by
 obtain⟨od,J,hl⟩:=I.look;exact PySem.W.get_value X J (OA hg).1 (PySem.W.findObj_own hh ha rfl (by rw [hl,hv])) hv' h
theorem yj {pl:TZ Bool} {Q:Ir × List Ir->Iz->Prop} (X:K.In s.heap) (I:sL s.heap x dx C mA) (hg:N3 K C name=true)
  (hf:Le K (.ref C) name=Io (Io (.ref f))) (ht:RG K (.ref f)=true) (hv:mA name=none) (h:Q (.ref f,[.ref x]) s) :
  wpAny (model prog w) A (getMethod (.ref x) name pl) Q E s:=by
 obtain⟨od,J,hl⟩:=I.look;exact PySem.W.method_fn X J (OA hg).1 (OA hg).2 hf (beq_iff_eq.mp ht) (by show (OM name od).map (·.isSome)=Io false;rw [hl,hv];rfl) h
theorem Cf {ns:List Jb} {Q:Unit->Iz->Prop} (X:K.In s.heap) (I:sL s.heap x dx C mA)
  (hs:Le K (.ref C) "__setattr__"=Io (Io (.builtin "object.__setattr__"))) (hp:RH K C=true) (ht:Qh K C name=Io none) (hh:Pe K C=true)
  (hw:RD mA ns) (hsz:ns.length<=sizeLine)
  (h:∀ h',sL h' x dx C (λy=>if y=name then Io v else mA y)->Ku dx s.heap h'->Q () { s with heap:=h',toks:=s.toks+2 }) :
  wpAny (model prog w) A (setAttr (.ref x) name v) Q E s:=by
 obtain⟨od,J,hl⟩:=I.look;refine RI X J hs (PySem.W.osa_open (s:={ s with toks:=s.toks+1 }) (r:=none) X J hp ht λb=>?_);obtain⟨cd,hc,hd'⟩:=PySem.W.any_some hh;have hx:s.heap.get? x=Io ⟨.ref C,Io dx,.plain,#[]⟩:=I.obj;refine Ip (IA (Ip (Ip (Th hx (Ip (N4 (s:={ s with toks:=s.toks+1 }) (Q1 X hc) ?_))))));rw [hd'];refine IA (a:=Io dx) (Ip (IA (Ip ?_)));refine wpAny_nsSet1 (s:={ s with toks:=s.toks+1 }) I.ns λh' hn2 hs2=>?_;obtain⟨oD,esD,epD,hoD,hdD,hcD⟩:=hn2.count (PySem.Within.cons name v hw);refine Ip (R7 hoD (by rw [hdD];exact R8 (IJ hcD (by rw [JU];lia))) ?_);exact IA (h _ ⟨(hs2.2 _ (JC I.ne)).trans I.obj,hn2,I.ne⟩ hs2)
theorem yH {R:QH->Iz->Prop} {vs:List Ir} {kw:List (Jb × Ir)} (X:K.In s.heap) (hm:SO K C=true)
  (hi:Le K (.ref C) "__init__"=Io (Io (.ref f))) (hf:PySem.W.typeIn K (.ref f)=Io (.type "function"))
  (h:codeAny (model prog w) (A.under (.builtin "type.__call__" ⟨.ref C::vs,kw⟩)) (.call (.ref f) ⟨.ref (s.heap.objs.size+1)::vs,kw⟩) (PySem.W.InitBack (s.heap.objs.size+1) R)
   { s with heap:=(s.heap.push KQ).push (LG C s.heap.objs.size) }) :
  codeAny (model prog w) A (.call (.ref C) ⟨vs,kw⟩) R s:=by
 obtain⟨hh,g,d,t,os⟩:=s;exact PySem.W.make_core (PySem.W.makes_of X hm) (Qs X hi) (λself=>PySem.W.bind_fn X self hf) (.inl rfl) h
end
noncomputable def gH (f:Jb) (v:V):List (Jb × V)->List (Jb × V)
 | []=>[(f,v)]
 | (g,x)::r=>if g=f then (g,v)::r else (g,x)::gH f v r
theorem kg (f g:Jb) (v:V):∀ fs:List (Jb × V),(gH f v fs).lookup g=if g=f then Io v else fs.lookup g
 | []=>by
  show MU g [(f,v)]=_;by_cases h:g=f
  ·have hb:(g==f)=true:=beq_iff_eq.mpr h;simp only [MU,hb,if_pos h]
  ·have hb:(g==f)=false:=beq_eq_false_iff_ne.mpr h;simp only [MU,hb,if_neg h]
 | (k,x)::r=>by
  have ih:=kg f g v r;rw [show gH f v ((k,x)::r)=(if k=f then (k,v)::r else (k,x)::gH f v r) from rfl];by_cases hk:k=f
  ·rw [if_pos hk];by_cases h:g=k
   ·have hb:(g==k)=true:=beq_iff_eq.mpr h;simp only [MU,hb,if_pos (h.trans hk)]
   ·have hb:(g==k)=false:=beq_eq_false_iff_ne.mpr h;simp only [MU,hb,if_neg (λe:g=f=>h (e.trans hk.symm))]
  ·rw [if_neg hk];by_cases h:g=k
   ·have hb:(g==k)=true:=beq_iff_eq.mpr h;simp only [MU,hb,if_neg (λe:g=f=>hk (h.symm.trans e))]
   ·have hb:(g==k)=false:=beq_eq_false_iff_ne.mpr h;simp only [MU,hb];exact ih
theorem jT (f:Jb) (v:V):∀ fs:List (Jb × V),f∈(gH f v fs).map (·.1)/\∀ g,g∈fs.map (·.1)->g∈(gH f v fs).map (·.1)
 | []=>⟨by simp [gH],λg h=>by simp at h⟩
 | (k,x)::r=>by
  obtain⟨i1,i2⟩:=jT f v r;rw [show gH f v ((k,x)::r)=(if k=f then (k,v)::r else (k,x)::gH f v r) from rfl];by_cases hk:k=f
  ·rw [if_pos hk];subst hk;exact⟨by simp,λg h=>by simpa using h⟩
  ·rw [if_neg hk];refine⟨?_,λg h=>?_⟩
   ·rw [Jz];exact IG _ i1
   ·rw [Jz] at h ⊢;rcases IU.mp h with e | e
    ·exact IU.mpr (.inl e)
    ·exact IG _ (i2 g e)
theorem j9 (f:Jb) (v:V):∀ fs:List (Jb × V),(gH f v fs).length<=fs.length+1
 | []=>by simp [gH]
 | (k,x)::r=>by
  have ih:=j9 f v r;rw [show gH f v ((k,x)::r)=(if k=f then (k,v)::r else (k,x)::gH f v r) from rfl];by_cases hk:k=f
  ·rw [if_pos hk,JU,JU];lia
  ·rw [if_neg hk,JU,JU];lia
theorem ff.some_of {v:V} {o:Option Ir} (r:ff (Io v) o):∃ u,o=Io u/\RelV v u:=by
 cases o with
 | none=>exact (show False from r).elim
 | some u=>exact⟨u,rfl,r⟩
theorem ff.none_of {o:Option Ir} (r:ff none o):o=none:=by
 cases o with
 | none=>rfl
 | some u=>exact (show False from r).elim
theorem v7 {v:V} {u:Ir} (r:RelV v u):R6 u=true:=by
 cases v with
 | non=>cases (show u=Kj from r);rfl
 | bl b=>cases (show u=Mg b from r);rfl
 | int i=>obtain⟨t,e⟩:=(show ∃ t,u=ML i t from r);cases e;rfl
 | str x=>obtain⟨t,e⟩:=(show ∃ t,u=Q0 x t from r);cases e;rfl
 | byt b=>obtain⟨t,e⟩:=(show ∃ t,u=UR b t from r);cases e;rfl
 | flt b=>obtain⟨t,e⟩:=(show ∃ t,u=Sw b t from r);cases e;rfl
 | ref a=>cases (show u=Ji a from r);rfl
 | ty n=>cases (show u=MA n from r);rfl
section
variable {P:IM} {w:Jo} {H H':Hp} {h h':JD} {a C dx:Iy} {fs fs':List (Jb × V)}
theorem kU (hok:gf P w H h) (e:H a=Io (.ins C dx fs)):∃ mA,sL h a dx C mA/\(∀ f,ff (fs.lookup f) (mA f))/\RD mA (fs.map (·.1))/\fs.length<=1000/\H dx=Io (.own a):=by
 obtain⟨d,z,ne,ob,mA,n,r,q⟩:=(show bG P w H h a (.ins C dx fs) from hok a _ e)
 exact⟨mA,⟨ob,n,ne⟩,r,q,z,d⟩
end
structure mK (K:Iq) (C:Iy):Prop where
 pg:N3 K C Uv=true
 hd:Pe K C=true
 po:RH K C=true
 sa:Le K (.ref C) "__setattr__"=Io (Io (.builtin "object.__setattr__"))
theorem mK.get {K:Iq} {C:Iy} (c:mK K C) (f:Jb):N3 K C f=true:=c.pg
def cJ (K:Iq) (C:Iy) (f:Jb):Prop:=Le K (.ref C) f=Io none
theorem cJ.GC {K:Iq} {C:Iy} {f:Jb} (n:cJ K C f):Qh K C f=Io none:=by unfold Qh;rw [show Le K (.ref C) f=Io none from n];rfl
structure Meth (K:Iq) (C:Iy) (m:Jb) (f:Iy):Prop where
 at_:Le K (.ref C) m=Io (Io (.ref f))
 fn:RG K (.ref f)=true
 kp:LU K (.ref f)=true
section
variable {X:Cx} {pins:List (Iy × K9)} {σ:St} {H:Hp} {s:Iz} {a C dx:Iy} {fs:List (Jb × V)} {f:Jb} {v:V} {A:Jr} {E:Ir->Iz->Prop}
theorem lJ {b:Bool} {Q:Ir->Iz->Prop} (I:Inv X pins σ H s) (e:H a=Io (.ins C dx fs)) (c:mK X.K C) (n:cJ X.K C f) (l:fs.lookup f=Io v)
  (h:∀ u s',Inv X pins σ H s'->RelV v u->Q u s'):wpAny (model X.prog X.w) A (getAttr (.ref a) f b) Q E s:=by
 obtain⟨mA,O,r,_,_,_⟩:=kU I.hok e;obtain⟨u,hu,ru⟩:=ff.some_of (v:=v) (o:=mA f) (by rw [<- l];exact r f);exact get_map I.gd O (c.get f) c.hd n hu (v7 ru) (h u _ (I.tok _) ru)
theorem lK {m:Jb} {g:Iy} {pl:TZ Bool} {Q:Ir × List Ir->Iz->Prop} (I:Inv X pins σ H s) (e:H a=Io (.ins C dx fs)) (c:mK X.K C) (k:Meth X.K C m g) (l:fs.lookup m=none)
  (h:Q (.ref g,[.ref a]) s):wpAny (model X.prog X.w) A (getMethod (.ref a) m pl) Q E s:=by
 obtain⟨mA,O,r,_,_,_⟩:=kU I.hok e;have hn:mA m=none:=ff.none_of (by rw [<- l];exact r m);exact yj I.gd O (c.get m) k.at_ k.fn hn h
theorem mz {y:V} {u:Ir} {Q:Unit->Iz->Prop} (I:Inv X pins σ H s) (e:H a=Io (.ins C dx fs)) (c:mK X.K C) (n:cJ X.K C f) (hl:fs.length<1000) (ry:RelV y u)
  (h:∀ s',Inv X pins σ (upd H a (.ins C dx (gH f y fs))) s'->Q () s'):wpAny (model X.prog X.w) A (setAttr (.ref a) f u) Q E s:=by
 obtain⟨mA,O,r,wi,_,ho⟩:=kU I.hok e;have hz:(fs.map (·.1)).length<=sizeLine:=by rw [Iu,Ny];lia
 refine Cf I.gd O c.sa c.po n.GC c.hd wi hz λh' O' sb=>h _ ?_;have hd:∃ o,h'.get? dx=Io o:=let ⟨o,_,_,e',_⟩:=O'.ns;⟨o,e'⟩
 refine I.write (x:=a) (e:=dx) (by rw [e];exact True.intro) (.inr ho) (λb q hb z=>(sb.2 b hb).trans z) hd ?_;refine⟨by rw [ao O.ne];exact ho,?_,O.ne,O'.obj,_,O'.ns,λg=>?_,λg hg=>?_⟩
 ·have:=j9 f y fs;lia
 ·show ff ((gH f y fs).lookup g) (if g=f then Io u else mA g);rw [kg];by_cases q:g=f
  ·rw [if_pos q,if_pos q];exact ry
  ·rw [if_neg q,if_neg q];exact r g
 ·by_cases q:g=f
  ·rw [q];exact (jT f y fs).1
  ·refine (jT f y fs).2 g (wi g λz=>hg ?_);show (if g=f then Io u else mA g)=none;rw [if_neg q];exact z
theorem Inv.made (I:Inv X pins σ H s):Inv X pins σ (upd (upd H s.heap.objs.size (.own (s.heap.objs.size+1))) (s.heap.objs.size+1) (.ins C s.heap.objs.size []))
  { s with heap:=(s.heap.push KQ).push (LG C s.heap.objs.size) }:=by
 have e1:(s.heap.push KQ).get? s.heap.objs.size=Io KQ:=II s.heap rfl;have e2:((s.heap.push KQ).push (LG C s.heap.objs.size)).get? (s.heap.objs.size+1)=Io (LG C s.heap.objs.size):=by
  have:=II (s.heap.push KQ) (o:=LG C s.heap.objs.size) rfl
  rwa [JL] at this
 have e3:(s.heap.push KQ).Ns s.heap.objs.size (λ_=>none):=⟨KQ,#[],_,e1,rfl,(λe he=>absurd he (by simp)),λ_=>rfl⟩
 have I1:=I.laid (a:=s.heap.objs.size) (o:=.own (s.heap.objs.size+1)) (h':=s.heap.push KQ) (t':=s.toks) (λb u q=>Iw _ q) (IF _) ⟨_,e1⟩;refine I1.laid (a:=s.heap.objs.size+1) (o:=.ins C s.heap.objs.size []) (t':=s.toks) (λb u q=>Iw _ q) (ND (JL _ _)) ?_;have ne:s.heap.objs.size≠s.heap.objs.size+1:=Jd (LQ _);refine⟨by rw [ao ne,ag],J4 _,ne,e2,λ_=>none,(Heap.Ns1.of_empty e3).at λo q=>Iw _ q,λ_=>True.intro,λy hy=>absurd rfl hy⟩
theorem AW {prog:IM} {w:Jo} {env:NS} {e:JH} {f:Jb} {pos:Mn} {s:Iz} {Q:Ir->Iz->Prop} (hb:attributeBase e f env (eval e env)=eval e env)
  (h:wpAny (model prog w) A (eval e env) (λo s₁=>wpAny (model prog w) A (getAttr o f true) Q E s₁) E s):wpAny (model prog w) A (eval (.Attribute e f pos) env) Q E s :=
 Attribute_any_ h (by rw [arm_eval_Attribute,hb])
end
def Gp (K:Iq) (ta:TE) (f:Jb):TE:=λσ H Q=>ta σ H λx H1=>∃ a C dx fs v,x=.ref a/\H1 a=Io (.ins C dx fs)/\mK K C/\cJ K C f/\fs.lookup f=Io v/\Q v H1
def Gf (K:Iq) (ta tv:TE) (f:Jb):TS:=λD σ H=>tv σ H λy H1=>ta σ H1 λx H2=>∃ a C dx fs,x=.ref a/\H2 a=Io (.ins C dx fs)/\mK K C/\cJ K C f/\fs.length<1000 /\
 D.nx σ (upd H2 a (.ins C dx (gH f y fs)))
def Fl (X:Cx) (op:QG) (rd:V->V->Hp->VK->Prop):Prop :=
 ∀(pins:List (Iy × K9)) (s:Iz) (σ:St) (H:Hp) (x y:V) (u v:Ir) (Q:VK),Inv X pins σ H s->RelV x u->RelV y v->rd x y H Q->wpAny (model X.prog X.w) X.A (inplaceOp op u v) (EP X pins σ Q) X.xe s
def pV (K:Iq) (ta tv:TE) (rd:V->V->Hp->VK->Prop) (f:Jb):TS:=λD σ H=>ta σ H λx H1=>∃ a C dx fs v,x=.ref a/\H1 a=Io (.ins C dx fs)/\mK K C/\cJ K C f/\fs.lookup f=Io v /\
 tv σ H1 λy H2=>rd v y H2 λz H3=>∃ dx' fs',H3 a=Io (.ins C dx' fs')/\fs'.length<1000/\D.nx σ (upd H3 a (.ins C dx' (gH f z fs')))
section
variable {X:Cx} {o e value:JH} {f:Jb} {pos pos' tpos:Mn} {ta tv:TE}
theorem gE (he:PE X e ta) (hb:attributeBase e f X.env (eval e X.env)=eval e X.env):PE X (.Attribute e f pos) (Gp X.K ta f):=by intro pins s σ H Q I h;refine AW hb (bf (he pins s σ H _ I h) λu s1 ⟨x,H1,I1,rx,a,C,dx,fs,v,ex,ea,c,n,l,q⟩=>?_);subst ex;obtain rfl:u=Ji a:=rx;exact lJ I1 ea c n l λu' s2 I2 ru=>⟨v,H1,I2,ru,q⟩
theorem uj (ha:PE X o ta) (hv:PE X value tv) (hs:swapsWith value (Io (.Attribute o f pos')) pos.line X.env=pure false):PS X (.Assign [.Attribute o f pos'] value pos) (Gf X.K ta tv f):=by intro pins s σ H D I h;refine NT (bf (hv pins s σ H _ I h) λu s1 ⟨y,H1,I1,ry,q⟩=>bf (ha pins s1 σ H1 _ I1 q) λov s2 ⟨x,H2,I2,rx,a,C,dx,fs,ex,ea,c,n,l,q2⟩=>?_) hs;subst ex;obtain rfl:ov=Ji a:=rx;exact mz I2 ea c n l ry λs3 I3=>⟨σ,_,I3,q2⟩
theorem wX {op:QG} {rd:V->V->Hp->VK->Prop} (ha:PE X o ta) (hv:PE X value tv) (hop:Fl X op rd):PS X (.AugAssign (.Attribute o f tpos) op value pos) (pV X.K ta tv rd f):=by intro pins s σ H D I h;refine wpAny_AugAssign_AttributeAny (bf (ha pins s σ H _ I h) λov s1 ⟨x,H1,I1,rx,a,C,dx,fs,v,ex,ea,c,n,l,q⟩=>?_);subst ex;obtain rfl:ov=Ji a:=rx;refine lJ I1 ea c n l λu s2 I2 ru=>bf (hv pins s2 σ H1 _ I2 q) λw3 s3 ⟨y,H2,I3,ry,q3⟩=>bf (hop pins s3 σ H2 v y u w3 _ I3 ru ry q3) λw4 s4 ⟨z,H3,I4,rz,dx',fs',ea',l',q4⟩=>?_;exact mz I4 ea' c n l' rz λs5 I5=>⟨σ,_,I5,q4⟩
def Ho:V->V->Hp->VK->Prop:=λx y H Q=>∃ i j,x=.int i/\y=.int j/\Q (.int (i+j)) H
theorem DY:Fl X .Add Ho:=by
 rintro pins s σ H x y u v Q I rx ry ⟨i,j,rfl,rfl,q⟩;obtain⟨t,rfl⟩:=(show ∃ t,u=ML i t from rx)
 obtain⟨t',rfl⟩:=(show ∃ t',v=ML j t' from ry)
 exact Tc ⟨.int (i+j),H,I.tok _,⟨_,rfl⟩,q⟩
end
section
variable {X:Cx} {pins:List (Iy × K9)} {σ:St} {H:Hp} {s:Iz} {A:Jr} {E:Ir->Iz->Prop} {Q:Ir->Iz->Prop} {c:Ir} {b:Bool}
inductive ig (K:Iq) (H:Hp):V->Ir->Prop where
 | non:ig K H .non (.type "NoneType")
 | bl (x:Bool):ig K H (.bl x) (.type "bool")
 | int (i:Int):ig K H (.int i) (.type "int")
 | str (x:Jb):ig K H (.str x) (.type "str")
 | flt (x:UInt64):ig K H (.flt x) (.type "float")
 | lst {a:Iy} {xs:List V} (e:H a=Io (.lst xs)):ig K H (.ref a) (.type "list")
 | frz {a:Iy} {o:K9} {xs:List V} (e:H a=Io (.frz o (.lst xs))):ig K H (.ref a) (.type "list")
 | tup {a:Iy} {xs:List V} (e:H a=Io (.tup xs)):ig K H (.ref a) (.type "tuple")
 | dK {a:Iy} {kvs:List (Key × V)} (e:H a=Io (.dK kvs)):ig K H (.ref a) (.type "dict")
 | dT {a:Iy} {kvs:List (List Key × V)} (e:H a=Io (.dT kvs)):ig K H (.ref a) (.type "dict")
 | ins {a C dx:Iy} {fs:List (Jb × V)} (e:H a=Io (.ins C dx fs)) (cl:mK K C) (ha:Le K (.ref C) "__class__"=Io (Io (.builtin "object.__class__")))
   (hn:PySem.W.specialIn K (.builtin "object.__class__") "__get__"=Io (Io (.builtin "getset_descriptor.__get__"))) (htk:PySem.W.takesIn K (.builtin "object.__class__")=Io true)
   (hm:PySem.W.mroIn K C (.type "object")=Io true):ig K H (.ref a) (.ref C)
theorem gX {x:V} {u t:Ir} (I:Inv X pins σ H s) (rx:RelV x u) (ty:ig X.K H x t) (e:Ti X.K t c=Io b) (h:∀ tk,Q (.bool b) { s with toks:=tk }) :
  wpAny (model X.prog X.w) A (call (.builtin "isinstance") [u,c]) Q E s:=by
 cases ty with
 | non=>cases (show u=Kj from rx);exact Kw PySem.W.kitx_none I.gd True.intro e (λz=>nomatch z) h
 | bl y=>cases (show u=Mg y from rx);exact Kw PySem.W.kitx_bool I.gd True.intro e (λz=>nomatch z) h
 | int i=>obtain⟨t,q⟩:=(show ∃ t,u=ML i t from rx);cases q;exact Kw PySem.W.kitx_int I.gd True.intro e (λz=>nomatch z) h
 | str y=>obtain⟨t,q⟩:=(show ∃ t,u=Q0 y t from rx);cases q;exact Kw PySem.W.kitx_str I.gd True.intro e (λz=>nomatch z) h
 | flt y=>obtain⟨t,q⟩:=(show ∃ t,u=Sw y t from rx);cases q;exact Kw PySem.W.kitx_float I.gd True.intro e (λz=>nomatch z) h
 | @lst a xs ea =>
  cases (show u=Ji a from rx);obtain⟨_,_,n,_,h1⟩:=(show bG X.prog X.w H s.heap a (.lst xs) from I.hok a _ ea)
  exact Kw Pf I.gd ⟨_,h1,rfl⟩ e (λz=>nomatch z) h
 | @frz a ob xs ea =>
  cases (show u=Ji a from rx);obtain⟨_,_,_,n,_,h1⟩:=(show bG X.prog X.w H s.heap a (.frz ob (.lst xs)) from I.hok a _ ea)
  exact Kw Pf I.gd ⟨_,h1,rfl⟩ e (λz=>nomatch z) h
 | @tup a xs ea =>
  cases (show u=Ji a from rx);obtain⟨_,_,_,p⟩:=(show bG X.prog X.w H s.heap a (.tup xs) from I.hok a _ ea)
  obtain⟨o,h1,h2,_⟩:=p;exact Kw Rt I.gd ⟨o,h1,h2⟩ e (λz=>nomatch z) h
 | @dK a kvs ea =>
  cases (show u=Ji a from rx);obtain⟨_,_,vs,_,p⟩:=(show bG X.prog X.w H s.heap a (.dK kvs) from I.hok a _ ea)
  obtain⟨o,es,ep,h1,h2,_⟩:=p;exact Kw RL I.gd ⟨o,h1,h2.1⟩ e (λz=>nomatch z) h
 | @dT a kvs ea =>
  cases (show u=Ji a from rx);obtain⟨_,_,xs,_,o,es,ep,h1,h2,_⟩:=(show bG X.prog X.w H s.heap a (.dT kvs) from I.hok a _ ea)
  exact Kw RL I.gd ⟨o,h1,h2.1⟩ e (λz=>nomatch z) h
 | @ins a C dx fs ea cl ha hn htk hm =>cases (show u=Ji a from rx);obtain⟨mA,O,_⟩:=kU I.hok ea;obtain⟨od,J,_⟩:=O.look;exact Kw (PySem.W.kitx_own (cl.get _) cl.hd ha hn htk hm) I.gd J e (λz=>nomatch z) h
end
structure bW (k:Nat) (A:Jr):Prop where
 hd:A.handled=none
 dp:A.depth+3*k+5<recursionLimit
 un:A.units+16*k+200<cLine
 gs:A.guards=Io []
theorem bW.mono {j k:Nat} {A:Jr} (r:bW k A) (h:j<=k):bW j A:=⟨r.hd,by have:=r.dp;lia,by have:=r.un;lia,r.gs⟩
theorem bW.deeper {k:Nat} {A:Jr} (r:bW (k+1) A) (env:NS):bW k (A.deeper env) :=
 ⟨r.hd,by have:=r.dp;show A.depth+1+3*k+5<_;lia,by have:=r.un;show A.units+3+16*k+200<_;lia,r.gs⟩
theorem tN {A:Jr} {C:Iy} {us:List Ir} {kw:List (Jb × Ir)}:(A.under (.builtin "type.__call__" ⟨.ref C::us,kw⟩)).depth=A.depth+1:=by first | rfl | simp [P4,UW,SQ,Uz,Ui,Sx,P5,guardIds]
theorem tO {A:Jr} {C:Iy} {us:List Ir} {kw:List (Jb × Ir)}:(A.under (.builtin "type.__call__" ⟨.ref C::us,kw⟩)).units=A.units+1:=by first | rfl | simp [P4,Code.cUnits,Sx,P5]
theorem rg {A:Jr} {C:Iy} {us:List Ir} {kw:List (Jb × Ir)}:(A.under (.builtin "type.__call__" ⟨.ref C::us,kw⟩)).guards=A.guards:=by first | rfl | simp [P4,UW,SQ,Uz,Ui,Sx,P5,guardIds]
theorem bW.make {k:Nat} {A:Jr} (r:bW (k+1) A) (C:Iy) (us:List Ir) (kw:List (Jb × Ir)):bW k (A.under (.builtin "type.__call__" ⟨.ref C::us,kw⟩)) :=
 ⟨r.hd,by have:=r.dp;rw [tN];lia,by have:=r.un;rw [tO];lia,by rw [rg];exact r.gs⟩
theorem bW.depth {k:Nat} {A:Jr} (r:bW k A):A.depth<recursionLimit:=by have:=r.dp;lia
theorem bW.units {k:Nat} {A:Jr} (r:bW k A):A.units+64<cLine:=by have:=r.un;lia
def Ao:TA:=λ_ H Q=>Q [] H
def vE (ta:TE) (tr:TA):TA:=λσ H Q=>ta σ H λx H1=>tr σ H1 λxs H2=>Q (x::xs) H2
section
variable {X:Cx} {e:JH} {es:List JH} {te:TE} {t:TA} {pos:Mn}
theorem af:PA X [] Ao:=λ_ _ _ _ H Q I h=>Pg ⟨[],H,I,.nil,h⟩
theorem aa (ha:PE X e te) (hr:PA X es t) (hs:starEach (e::es) X.env=(false,eval e X.env)::starEach es X.env:=by rfl):PA X (e::es) (vE te t):=by intro pos pins s σ H Q I h;rw [hs];show wpAny _ _ (spliced ((false,eval e X.env)::backTo pos (starEach es X.env))) _ _ s;refine ON (bf (ha pins s σ H _ I h) λu s1 ⟨x,H1,I1,r1,q1⟩=>?_);exact bf (hr pos pins s1 σ H1 _ I1 q1) λus s2 ⟨xs,H2,I2,r2,q2⟩=>⟨x::xs,H2,I2,.cons r1 r2,q2⟩
def GB (t:TA):TE:=λσ H Q=>t σ H λxs H1=>xs.length<=sizeLine/\∀ p,H1 p=none->Q (.ref p) (upd H1 p (.tup xs))
def Gu (t:TA):TE:=λσ H Q=>t σ H λxs H1=>xs.length<=sizeLine/\∀ p,H1 p=none->Q (.ref p) (upd H1 p (.lst xs))
theorem aF {x1} (h:PA X es t):PE X (.Tuple es x1 pos) (GB t):=by intro pins s σ H Q I hq;refine wpAny_Tuple_spliced (bf (h pos pins s σ H _ I hq) λus s1 ⟨xs,H1,I1,r,z,q⟩=>⟨by rw [<- r.length];exact z,?_⟩);have hf:H1 s1.heap.objs.size=none:=I1.hok.fresh (IF _);refine⟨.ref s1.heap.objs.size,upd H1 s1.heap.objs.size (.tup xs),I1.laid (t':=s1.toks) (λb u e=>Iw _ e) (IF _) ?_,rfl,q _ hf⟩;exact⟨z,us,r,⟨_,II _ rfl,rfl,_,rfl⟩⟩
theorem fM (h:PA X es t):PE X (.List es pos) (Gu t):=by intro pins s σ H Q I hq;refine wpAny_List_spliced (bf (h pos pins s σ H _ I hq) λus s1 ⟨xs,H1,I1,r,z,q⟩=>⟨by rw [<- r.length];exact z,?_⟩);have hf:H1 s1.heap.objs.size=none:=I1.hok.fresh (IF _);refine⟨.ref s1.heap.objs.size,upd H1 s1.heap.objs.size (.lst xs),I1.laid (t':=s1.toks) (λb u e=>Iw _ e) (IF _) ?_,rfl,q _ hf⟩;exact⟨z,us,0,r,II _ rfl⟩
end
abbrev Sp:=List V->Hp->VK->XK->Prop
abbrev kM:=List NS->Hp->Iz->XK->Ir->Iz->Prop
structure sH (P:IM) (w:Jo) (K:Iq) (mg:Jb->Option Ir) (base:JD) (A:Jr) (outer:List NS) (s:Iz) (H:Hp):Prop where
 frames:A.frames=Io outer
 mod:Mod K mg base
 bs:∀ b o,base.get? b=Io o->s.heap.get? b=Io o/\H b=none
 bsz:base.objs.size<=s.heap.objs.size
 kG:s.heap.FunFrames base outer
 frf:∀ b∈d7 outer,H b=none
 hok:gf P w H s.heap
 bare:Oa s.gens
def CE (outer:List NS) (P:IM) (w:Jo) (H:Hp) (s:Iz) (Q:VK) (u:Ir) (s':Iz):Prop :=
 ∃ v H',s'.os=s.os/\Oa s'.gens/\Un (d7 outer) [] H H' s.heap s'.heap/\gf P w H' s'.heap/\RelV v u/\Q v H'
def CR (CX:kM) (outer:List NS) (P:IM) (w:Jo) (H:Hp) (s:Iz) (Q:VK) (E:XK) (r:QH) (s':Iz):Prop :=
 match r with
 | .ok (.ret u)=>CE outer P w H s Q u s'
 | .ok _=>False
 | .error e=>CX outer H s E e s'
structure cY (P:IM) (w:Jo) (K:Iq) (mg:Jb->Option Ir) (base:JD) (CX:kM) (k:Nat) (f:Iy) (fd:KW) (ps:List Jb) (sp:Sp):Prop where
 len:∀ vs H Q E,sp vs H Q E->vs.length=ps.length
 run:∀(A:Jr) (outer:List NS) (s:Iz) (H:Hp) (args:Args) (us:List Ir) (vs:List V) (Q:VK) (E:XK),bW k A->sH P w K mg base A outer s H->RM s fd args (ps.zip us)->Vals vs us->sp vs H Q E ->
  codeAny (model P w) A (.call (.ref f) args) (CR CX outer P w H s Q E) s
theorem cY.mono {P:IM} {w:Jo} {K:Iq} {mg:Jb->Option Ir} {base:JD} {CX:kM} {j k:Nat} {f:Iy} {fd:KW} {ps:List Jb} {sp:Sp} (F:cY P w K mg base CX j f fd ps sp) (h:j<=k) :
  cY P w K mg base CX k f fd ps sp:=⟨F.len,λA outer s H args us vs Q E hr=>F.run A outer s H args us vs Q E (hr.mono h)⟩
theorem cY.imp {P:IM} {w:Jo} {K:Iq} {mg:Jb->Option Ir} {base:JD} {CX:kM} {k:Nat} {f:Iy} {fd:KW} {ps:List Jb} {sp sp':Sp} (F:cY P w K mg base CX k f fd ps sp)
  (h:∀ vs H Q E,sp' vs H Q E->sp vs H Q E):cY P w K mg base CX k f fd ps sp' :=
 ⟨λvs H Q E q=>F.len vs H Q E (h _ _ _ _ q),λA outer s H args us vs Q E hr he hb hv hs=>F.run A outer s H args us vs Q E hr he hb hv (h _ _ _ _ hs)⟩
theorem sH.make {P:IM} {w:Jo} {K:Iq} {mg:Jb->Option Ir} {base:JD} {A:Jr} {outer:List NS} {s:Iz} {H:Hp} (e:sH P w K mg base A outer s H) (C:Iy) (us:List Ir) (kw:List (Jb × Ir)) :
  sH P w K mg base (A.under (.builtin "type.__call__" ⟨.ref C::us,kw⟩)) outer s H:=⟨by first | exact e.frames | (simpa [P4,Code.envs,P5,pushEnvs] using e.frames),e.mod,e.bs,e.bsz,e.kG,e.frf,e.hok,e.bare⟩
section
variable {X:Cx} {pins:List (Iy × K9)} {σ:St} {H:Hp} {s s':Iz}
theorem Inv.DP (I:Inv X pins σ H s):sH X.prog X.w X.K X.mg X.base X.A X.stack s H :=
 ⟨I.ok.frames,I.ok.mod,I.bs,IJ I.ok.bsz I.sz,I.stack,I.dX,I.hok,I.bare⟩
theorem Inv.after {Q:VK} {u:Ir} (I:Inv X pins σ H s) (h:CE X.stack X.prog X.w H s Q u s'):EP X pins σ Q u s':=by obtain⟨v,H',os,bare,un,hok,r,q⟩:=h;obtain⟨hh,g,d,t,os'⟩:=s';obtain rfl:os'=s.os:=os;exact⟨v,H',I.call (h':=hh) (g':=g) (d':=d) (t':=t) (ch:=[]) un hok bare (λb z=>absurd z (by simp)),r,q⟩
end
def oF (sp:Sp) (aE:List V) (E:XK) (t:TA):TE:=λσ H Q=>t σ H λvs H1=>sp (vs++aE) H1 Q E
def sx (C:Iy) (m:Jb) (sp:Sp) (aE:List V) (E:XK) (ta:TE) (t:TA):TE:=λσ H Q=>ta σ H λx H1=>∃ a dx fs,x=.ref a/\H1 a=Io (.ins C dx fs)/\fs.lookup m=none /\
 t σ H1 λvs H2=>sp (x::(vs++aE)) H2 Q E
def An (C:Iy) (sp:Sp) (aE:List V) (E:XK) (t:TA):TE:=λσ H Q=>t σ H λvs H1=>∀ x dx,H1 x=none->H1 dx=none->dx≠x ->
 sp (.ref x::(vs++aE)) (upd (upd H1 dx (.own x)) x (.ins C dx [])) (λv H2=>v=.non/\Q (.ref x) H2) E
def Binds (K:Iq) (fd:KW) (ps:List Jb) (ds:List Ir):Prop :=
 ∀(s:Iz) (us:List Ir),K.In s.heap->(us++ds).length=ps.length->RM s fd ⟨us,[]⟩ (ps.zip (us++ds))
theorem Binds.all {K:Iq} {fd:KW} {ps:List Jb} (h:∀ us:List Ir,us.length=ps.length->bindArgs fd ⟨us,[]⟩=pure (ps.zip us)):Binds K fd ps []:=λs us _ hl=>by rw [L4] at hl ⊢;exact .of_eq (h us hl)
def Passes (CX:kM) (X:Cx) (E:XK):Prop:=∀(pins:List (Iy × K9)) (σ:St) (H:Hp) (s:Iz) (e:Ir) (s':Iz),Inv X pins σ H s->CX X.stack H s E e s'->X.xe e s'
section
variable {X:Cx} {CX:kM} {k:Nat} {f C:Iy} {fd:KW} {ps:List Jb} {sp:Sp} {aE:List V} {ds:List Ir} {E:XK} {x m:Jb} {p pos apos:Mn} {e o:JH} {es:List JH} {ta:TE} {t:TA}
theorem uo {pins:List (Iy × K9)} {σ:St} {H:Hp} {s:Iz} {Q:VK} {us:List Ir} {vs:List V} (F:cY X.prog X.w X.K X.mg X.base CX k f fd ps sp) (hr:bW k X.A) (hb:Binds X.K fd ps ds) (hd:Vals aE ds) (hx:Passes CX X E)
  (I:Inv X pins σ H s) (r:Vals vs us) (h:sp (vs++aE) H Q E):wpAny (model X.prog X.w) X.A (call (.ref f) us) (EP X pins σ Q) X.xe s:=by
 have r2:Vals (vs++aE) (us++ds):=r.append hd;have hl:(us++ds).length=ps.length:=by rw [<- r2.length];exact F.len _ _ _ _ h
 refine P6 (Lf (F.run X.A X.stack s H ⟨us,[]⟩ (us++ds) (vs++aE) Q E hr I.DP (hb s us I.gd hl) r2 h) λr s' hq=>?_);cases r with
 | error e=>exact hx pins σ H s e s' I hq
 | ok fl =>
  cases fl with
  | ret u=>exact I.after hq
  | next=>exact Kk hq
  | brk=>exact Kk hq
  | cont=>exact Kk hq
theorem u7 (F:cY X.prog X.w X.K X.mg X.base CX k f fd ps sp) (hr:bW k X.A) (hg:Gl X x) (hm:X.mg x=Io (.ref f)) (hk:LU X.K (.ref f)=true) (hb:Binds X.K fd ps ds) (hd:Vals aE ds) (hx:Passes CX X E)
  (ha:PA X (e::es) t) (hdb:(x==("__debug__":Jb))=false:=by decide) (he:starEach (e::es) X.env=(false,eval e X.env)::starEach es X.env:=by rfl) (hpl:(backTo pos (starEach es X.env)).any (·.1)=false:=by rfl) :
  PE X (.Call (.Name x p) (e::es) [] pos) (oF sp aE E t):=by
 intro pins s σ H Q I h;refine K3 (i8 I hg hm ?_ hdb);refine Nv (h₀:=X.base) I.ok.mod.kin hk (bf (ha pos pins s σ H _ I h) λus s1 ⟨vs,H1,I1,r,q⟩=>⟨I1.gd,?_⟩) he hpl;exact uo F hr hb hd hx I1 r q
theorem BO {pl:TZ Bool} (he:PE X o ta) (c:mK X.K C) (hm:Meth X.K C m f) (F:cY X.prog X.w X.K X.mg X.base CX k f fd ps sp) (hr:bW k X.A) (hb:Binds X.K fd ps ds) (hd:Vals aE ds) (hx:Passes CX X E) (ha:PA X (e::es) t)
  (hst:starEach (e::es) X.env=(false,eval e X.env)::starEach es X.env:=by rfl) (hpl:(backTo pos (starEach es X.env)).any (·.1)=false:=by rfl)
  (ht:eval (.Call (.Attribute o m apos) (e::es) [] pos) X.env=(do
   let ov <- eval o X.env
   standAt apos.atName
   let (f,first) <- holding [ov] (getMethod ov m pl)
   callWith pos f first (backTo pos (starEach (e::es) X.env)) (backToKw pos (keywordEach [] X.env))):=by rfl) :
  PE X (.Call (.Attribute o m apos) (e::es) [] pos) (sx C m sp aE E ta t):=by
 intro pins s σ H Q I h;refine Qt (pl:=pl) (bf (he pins s σ H _ I h) λu s1 ⟨x,H1,I1,rx,a,dx,fs,ex,ea,l,q⟩=>?_) ht;subst ex;obtain rfl:u=Ji a:=rx;refine lK I1 ea c hm l ?_;refine Nv (first:=[.ref a]) (h₀:=X.base) I.ok.mod.kin hm.kp (bf (ha pos pins s1 σ H1 _ I1 q) λus s2 ⟨vs,H2,I2,r,q2⟩=>⟨I2.gd,?_⟩) hst hpl;exact uo (us:=.ref a::us) (vs:=.ref a::vs) F hr hb hd hx I2 (.cons rfl r) q2
theorem zD {pl:TZ Bool} (he:PE X o ta) (c:mK X.K C) (hm:Meth X.K C m f) (F:cY X.prog X.w X.K X.mg X.base CX k f fd ps sp) (hr:bW k X.A) (hb:Binds X.K fd ps ds) (hd:Vals aE ds) (hx:Passes CX X E)
  (ht:eval (.Call (.Attribute o m apos) [] [] pos) X.env=(do
   let ov <- eval o X.env
   standAt apos.atName
   let (f,first) <- holding [ov] (getMethod ov m pl)
   callWith pos f first (backTo pos (starEach [] X.env)) (backToKw pos (keywordEach [] X.env))):=by rfl) :
  PE X (.Call (.Attribute o m apos) [] [] pos) (sx C m sp aE E ta Ao):=by
 intro pins s σ H Q I h;refine Qt (pl:=pl) (bf (he pins s σ H _ I h) λu s1 ⟨x,H1,I1,rx,a,dx,fs,ex,ea,l,q⟩=>?_) ht;subst ex;obtain rfl:u=Ji a:=rx;refine lK I1 ea c hm l ?_;exact Q4 (first:=[.ref a]) I1.gd hm.kp (uo (us:=[.ref a]) (vs:=[.ref a]) F hr hb hd hx I1 (.cons rfl .nil) q)
structure Mk (K:Iq) (C f:Iy):Prop where
 makes:SO K C=true
 init:Le K (.ref C) "__init__"=Io (Io (.ref f))
 fn:RG K (.ref f)=true
 kp:LU K (.ref C)=true
theorem zV {pins:List (Iy × K9)} {σ:St} {H:Hp} {s:Iz} {Q:VK} {us:List Ir} {vs:List V} (M:Mk X.K C f) (F:cY X.prog X.w X.K X.mg X.base CX k f fd ps sp) (hr:bW (k+1) X.A) (hb:Binds X.K fd ps ds) (hd:Vals aE ds)
  (hx:Passes CX X E) (I:Inv X pins σ H s) (r:Vals vs us)
  (h:∀ x dx,H x=none->H dx=none->dx≠x->sp (.ref x::(vs++aE)) (upd (upd H dx (.own x)) x (.ins C dx [])) (λv H2=>v=.non/\Q (.ref x) H2) E) :
  wpAny (model X.prog X.w) X.A (call (.ref C) us) (EP X pins σ Q) X.xe s:=by
 have hq:=h (s.heap.objs.size+1) s.heap.objs.size (I.hok.fresh (Mx _)) (I.hok.fresh (IF _)) (Jd (LQ _));have I2:=Inv.made (C:=C) I;have r2:Vals (V.ref (s.heap.objs.size+1)::(vs++aE)) (Ji (s.heap.objs.size+1)::(us++ds)):=.cons rfl (r.append hd);have hl:(Ji (s.heap.objs.size+1)::us++ds).length=ps.length:=by have e:=r2.length;rw [F.len _ _ _ _ hq] at e;exact e.symm
 refine P6 (yH (f:=f) I.gd M.makes M.init (beq_iff_eq.mp M.fn) (Lf (F.run _ X.stack _ _ ⟨Ji (s.heap.objs.size+1)::us,[]⟩ (Ji (s.heap.objs.size+1)::(us++ds)) _ _ E (hr.make C us [])
  (I2.DP.make C us []) (hb _ (Ji (s.heap.objs.size+1)::us) I2.gd hl) r2 hq) λr s' hq'=>?_))
 cases r with
 | error e=>exact hx pins σ _ _ e s' I2 hq'
 | ok fl =>
  cases fl with
  | ret u =>obtain⟨v,H',I3,rv,ev,q3⟩:=I2.after hq';subst ev;exact⟨rv,⟨V.ref (s.heap.objs.size+1),H',I3,rfl,q3⟩⟩
  | next=>exact Kk hq'
  | brk=>exact Kk hq'
  | cont=>exact Kk hq'
theorem BN (M:Mk X.K C f) (F:cY X.prog X.w X.K X.mg X.base CX k f fd ps sp) (hr:bW (k+1) X.A) (hg:Gl X x) (hm:X.mg x=Io (.ref C)) (hb:Binds X.K fd ps ds) (hd:Vals aE ds) (hx:Passes CX X E)
  (ha:PA X (e::es) t) (hdb:(x==("__debug__":Jb))=false:=by decide) (he:starEach (e::es) X.env=(false,eval e X.env)::starEach es X.env:=by rfl) (hpl:(backTo pos (starEach es X.env)).any (·.1)=false:=by rfl) :
  PE X (.Call (.Name x p) (e::es) [] pos) (An C sp aE E t):=by
 intro pins s σ H Q I h;refine K3 (i8 I hg hm ?_ hdb);refine Nv (h₀:=X.base) I.ok.mod.kin M.kp (bf (ha pos pins s σ H _ I h) λus s1 ⟨vs,H1,I1,r,q⟩=>⟨I1.gd,?_⟩) he hpl;exact zV M F hr hb hd hx I1 r q
end
section
variable {X:Cx} {CX:kM} {k:Nat} {f C:Iy} {fd:KW} {ps ks:List Jb} {sp:Sp} {E:XK} {x m:Jb} {p pos apos kpos:Mn} {e o:JH} {es:List JH} {kws:List Q2} {te ta:TE} {t tk:TA} {nm:Option Jb}
variable {g:List Ir->List Ir->List Ir} {gV:List V->List V->List V}
end
structure aw (N P:List Jb) (sc:La):Prop where
 kind:sc.kind=.function
 co:sc.isCoroutine=false
 gen:sc.isGenerator=false
 nd:N.Nodup
 pre:N.take P.length=P
 par:∀ x∈P,sc.names.lookup x=Io .local∨sc.names.lookup x=Io .cell
 nofree:∀ y∈sc.names,y.2≠.free
theorem ni {kindOf:Jb->Option MV} {x:Jb}:∀{binds:List (Jb × Ir)} {m:Jb->Option Ir},(∀ v,(x,v)∉binds)->bindL kindOf binds m x=m x
 | [],_,_=>rfl
 | (n,v)::r,m,h=>by
  unfold bindL;rw [ni λw hw=>h w (IG _ hw)];split
  ·have:x≠n:=by rintro rfl;exact h v IH
   simp [this]
  ·rfl
theorem m9 {kindOf:Jb->Option MV} {x:Jb}:∀{binds:List (Jb × Ir)} {m:Jb->Option Ir},(∀ v,(x,v)∉binds)->bindC kindOf binds m x=m x
 | [],_,_=>rfl
 | (n,v)::r,m,h=>by
  unfold bindC;rw [m9 λw hw=>h w (IG _ hw)];split
  ·rfl
  ·have:x≠n:=by rintro rfl;exact h v IH
   simp [this]
theorem nh {kindOf:Jb->Option MV} {x:Jb} {v:Ir}:∀{P:List Jb} {vs:List Ir} {i:Nat} {m:Jb->Option Ir},P.Nodup->P[i]?=Io x->vs[i]?=Io v->kindOf x=Io .local ->
  bindL kindOf (P.zip vs) m x=Io v
 | [],_,_,_,_,h,_,_=>by simp at h
 | _::_,[],_,_,_,_,h,_=>by simp at h
 | p::P,w::vs,0,m,nd,h1,h2,hk=>by simp at h1 h2;subst h1;subst h2;show bindL kindOf ((p,w)::P.zip vs) m p=_;unfold bindL;rw [ni λv hv=>(Kx.mp nd).1 (Ot hv).1,if_pos hk];simp
 | p::P,w::vs,i+1,m,nd,h1,h2,hk=>by show bindL kindOf ((p,w)::P.zip vs) m x=_;unfold bindL;exact nh (i:=i) (Kx.mp nd).2 (by simpa using h1) (by simpa using h2) hk
theorem m8 {kindOf:Jb->Option MV} {x:Jb} {v:Ir}:∀{P:List Jb} {vs:List Ir} {i:Nat} {m:Jb->Option Ir},P.Nodup->P[i]?=Io x->vs[i]?=Io v->kindOf x≠Io .local ->
  bindC kindOf (P.zip vs) m x=Io v
 | [],_,_,_,_,h,_,_=>by simp at h
 | _::_,[],_,_,_,_,h,_=>by simp at h
 | p::P,w::vs,0,m,nd,h1,h2,hk=>by simp at h1 h2;subst h1;subst h2;show bindC kindOf ((p,w)::P.zip vs) m p=_;unfold bindC;rw [m9 λv hv=>(Kx.mp nd).1 (Ot hv).1,if_neg hk];simp
 | p::P,w::vs,i+1,m,nd,h1,h2,hk=>by show bindC kindOf ((p,w)::P.zip vs) m x=_;unfold bindC;exact m8 (i:=i) (Kx.mp nd).2 (by simpa using h1) (by simpa using h2) hk
noncomputable def start (N:List Jb) (vs:List V):St:=vs.map Io++KY (N.length-vs.length) none
noncomputable def dy (CX:kM) (P:IM) (w:Jo) (K:Iq) (mg:Jb->Option Ir) (base:JD) (N:List Jb) (qual:Jb) (scope:La) (f:Iy) (cd:Ir) (A:Jr) (outer:List NS) (s:Iz) (H:Hp) (E:XK):Cx where
 prog:=P
 w:=w
 K:=K
 mg:=mg
 base:=base
 A:=A.deeper (envOfC qual scope s.heap.objs.size f cd)
 N:=N
 s₀:=s
 H₀:=H
 env:=envOfC qual scope s.heap.objs.size f cd
 outer:=outer
 stack:=envOfC qual scope s.heap.objs.size f cd::outer
 ex:=[]
 calm:=true
 fn:=λ_=>true
 pn:=[]
 xe:=λe s'=>wpAny (model P w) (A.deeper (envOfC qual scope s.heap.objs.size f cd)) (leaving (envOfC qual scope s.heap.objs.size f cd) e) (λ_ s''=>CX outer H s E e s'') (λe' s''=>CX outer H s E e' s'') s'
theorem qI {sc:La} {n:Nat} {x:Jb} (h:sc.names.lookup x=Io .cell):∃ c,(cellsFrom n sc.names []).lookup x=Io c:=by have q:=NF sc.names n [] (.inl h);exact Mh.mp q
theorem wa {CX:kM} {P:IM} {w:Jo} {K:Iq} {mg:Jb->Option Ir} {base:JD} {N ps:List Jb} {qual:Jb} {scope:La} {f:Iy} {cd:Ir} {A:Jr} {outer:List NS} {s s1:Iz} {H:Hp} {E:XK} {us:List Ir} {vs:List V}
  (S:aw N ps scope) (hd:A.handled=none) (e0:sH P w K mg base A outer s H) (hl:vs.length=ps.length) (r:Vals vs us)
  (x:InCallC s s.heap.objs.size (bindL (envOfC qual scope s.heap.objs.size f cd).kindOf (ps.zip us) λ_=>none) (cellsFrom (s.heap.objs.size+1) scope.names []) (bindC (envOfC qual scope s.heap.objs.size f cd).kindOf (ps.zip us) λ_=>none) s1) :
  Inv (dy CX P w K mg base N qual scope f cd A outer s H E) [] (start N vs) H s1:=by
 have hpl:ps.length<=N.length:=by have:=congrArg Sy S.pre;rw [JE] at this;lia
 obtain⟨h1,tk,rfl,hk⟩:=x.done;have noA:∀ b:Iy,b∉(dy CX P w K mg base N qual scope f cd A outer s H E).ex:=λb z=>absurd (show b∈([]:List Iy) from z) (by simp);refine⟨⟨e0.mod,S.kind,rfl,rfl,IF _,λy z c h1 h2=>?_,λy hy=>?_,λy c _ h=>?_,λ_=>hd,Around.frames_deeper e0.frames,.inr ⟨rfl,rfl⟩,λb z=>absurd z (noA b),e0.bs,e0.bsz,λb _ _=>noA b,λb z=>absurd z (noA b),e0.kG,e0.frf⟩,
  rfl,e0.bare,Un.kept hk,⟨_,x.toInCall.ns,λi y v h1 h2 h3=>?_⟩,λy c h=>⟨_,x.cell y c h⟩,e0.hok.fresh (IF _),λy c h=>?_,λp hp=>absurd (show p∈([]:List (Iy × K9)) from hp) (by simp),e0.hok.kept hk,?_⟩
 ·exact name_of_addr x.apart (LK h1) (LK h2)
 ·have hy:scope.names.lookup y=Io .cell∨scope.names.lookup y=Io .free:=hy;rcases hy with hy | hy
  ·exact qI hy
  ·exact absurd rfl (S.nofree _ (LK hy))
 ·exact M5 (x.above y c (LK h))
 ·have hi:i<vs.length:=by
   unfold start at h2;by_cases hi:i<vs.length
   ·exact hi
   ·rw [MW (by simpa using hi)] at h2;rw [List.getElem?_replicate] at h2;split at h2<;>cases h2
  have ha:vs[i]?=Io v:=by
   unfold start at h2;rw [KC (by simpa using hi),ID] at h2;cases e:vs[i]? with
   | none=>rw [e] at h2;cases h2
   | some a=>rw [e] at h2;cases h2;rfl
  obtain⟨u,hu,rv⟩:=r.get ha;have hp:ps[i]?=Io y:=by rw [<- S.pre,PD (by lia)];exact h1
  have ndP:ps.Nodup:=by rw [<- S.pre];exact S.nd.sublist (RN _ _)
  refine⟨u,rv,?_⟩;rcases S.par y (IC hp) with k | k
  ·exact .inl ⟨k,nh ndP hp hu k⟩
  ·obtain⟨c,e⟩:=qI (n:=s.heap.objs.size+1) k;refine .inr ⟨.inl k,c,e,?_⟩;have q:=x.cell y c e;rw [m8 ndP hp hu (by show scope.names.lookup y≠_;rw [k];decide)] at q;exact q
 ·exact e0.hok.fresh (M5 (x.above y c (LK h)))
 ·unfold start;show _=N.length;rw [Js,Iu,Qu];lia
theorem ye {CX:kM} {P:IM} {w:Jo} {K:Iq} {mg:Jb->Option Ir} {base:JD} {k:Nat} {f:Iy} {name qual:Jb} {params:Arguments} {body:List MH} {scope:La} {dV kV doc pm cdv ct oc:Ir} {an od:Option Iy}
  {osl:Array (Option Ir)} {N ps:List Jb} {sp:Sp} (lk:K.lookup f=Io ⟨oc,od,.func (KG name qual params body scope dV kV doc pm an cdv ct),osl⟩) (hcd:NG K cdv qual=true) (S:aw N ps scope)
  (len:∀ vs H Q E,sp vs H Q E->vs.length=ps.length)
  (J':∀(A:Jr) (outer:List NS) (s:Iz) (H:Hp) (vs:List V) (Q:VK) (E:XK),bW k (A.deeper (envOfC qual scope s.heap.objs.size f cdv))->sp vs H Q E ->
   ∃ t,iG (dy CX P w K mg base N qual scope f cdv A outer s H E) body t/\t { nx:=λ_ H'=>Q .non H',rt:=Q } (start N vs) H) :
  cY P w K mg base CX (k+1) f (KG name qual params body scope dV kV doc pm an cdv ct) ps sp:=by
 refine⟨len,λA outer s H args us vs Q E hr e0 hb r hsp=>?_⟩;have hl:=len _ _ _ _ hsp;have KX:K.In s.heap:=e0.mod.kin.keeps λb o e=>(e0.bs b o e).1;have lim:s.heap.NoLimit:=e0.mod.nolimit.keeps λb o e=>(e0.bs b o e).1;have hkind:∀ y∈ps.zip us,scope.names.lookup y.1=Io .local∨(scope.names.lookup y.1=Io .cell/\((cellsFrom (s.heap.objs.size+1) scope.names []).lookup y.1).isSome=true):=fun⟨n,v⟩ hy=>by
  rcases S.par n (Ot hy).1 with q | q
  ·exact .inl q
  ·exact .inr ⟨q,NF _ _ _ (.inl q)⟩
 refine codeAny_call_function hr.depth (KX _ _ lk) rfl S.co S.gen rfl (PySem.W.codeRec_of KX hcd) (hb _ _ _ _ ?_);refine wpAny_newFunctionEnv_cells S.kind hkind λenv he s1 x=>?_;subst he;refine⟨lim.keeps x.toInCall.keep,codeAny_func ?_⟩;obtain⟨t,ht,hq⟩:=J' A outer s H vs Q E (hr.deeper _) hsp;have I:Inv (dy CX P w K mg base N qual scope f cdv A outer s H E) [] (start N vs) H s1:=wa S hr.hd e0 hl r x;refine Kc (ht [] s1 (start N vs) H _ I hq) (λfl s' hs=>?_) λe s' hs=>hs;have fin:∀{σ':St} {H':Hp} {v:V} {u:Ir},Inv (dy CX P w K mg base N qual scope f cdv A outer s H E) [] σ' H' s'->RelV v u->Q v H'->CE outer P w H s Q u s' :=
  λ{σ' H' v u} J rv q=>⟨v,H',J.os,J.bare,J.base,J.hok,rv,q⟩
 cases fl with
 | ret u =>obtain⟨v,σ',H',J,rv,q⟩:=hs;exact fin J rv q
 | next =>obtain⟨σ',H',J,q⟩:=hs;exact fin (v:=V.non) (u:=Kj) J rfl q
 | brk =>obtain⟨_,_,_,q⟩:=hs;exact Kk q
 | cont =>obtain⟨_,_,_,q⟩:=hs;exact Kk q
section
variable {X:Cx} {x:Jb} {p pos:Mn} {e:JH} {es:List JH} {t:TA} {id T:String} {r:List V->Hp->VK->Prop}
def GQ (r:List V->Hp->VK->Prop) (t:TA):TE:=λσ H Q=>t σ H λvs H1=>r vs H1 Q
theorem aC (hc:dQ X (.builtin id) r) (hg:Gl X x) (hm:X.mg x=none) (hv:bootBuiltins x=Io (.builtin id)) (ha:PA X (e::es) t) (hn:x ≠ "__name__":=by decide) (hdb:(x==("__debug__":Jb))=false:=by decide)
  (he:starEach (e::es) X.env=(false,eval e X.env)::starEach es X.env:=by rfl) (hpl:(backTo pos (starEach es X.env)).any (·.1)=false:=by rfl):PE X (.Call (.Name x p) (e::es) [] pos) (GQ r t):=by
 intro pins s σ H Q I h;refine K3 (fc I hg hm hv ?_ hn hdb);exact N5 (bf (ha pos pins s σ H _ I h) λus s1 ⟨vs,H1,I1,r1,q1⟩=>hc pins s1 σ H1 vs us Q I1 r1 q1) he hpl
theorem cI (hc:dQ X (.type T) r) (hg:Gl X x) (hm:X.mg x=none) (hv:bootBuiltins x=Io (.type T)) (ha:PA X (e::es) t) (hn:x ≠ "__name__":=by decide) (hdb:(x==("__debug__":Jb))=false:=by decide)
  (he:starEach (e::es) X.env=(false,eval e X.env)::starEach es X.env:=by rfl) (hpl:(backTo pos (starEach es X.env)).any (·.1)=false:=by rfl):PE X (.Call (.Name x p) (e::es) [] pos) (GQ r t):=by
 intro pins s σ H Q I h;refine K3 (fc I hg hm hv ?_ hn hdb);exact Kr (bf (ha pos pins s σ H _ I h) λus s1 ⟨vs,H1,I1,r1,q1⟩=>hc pins s1 σ H1 vs us Q I1 r1 q1) he hpl
end
end L2
namespace HT
open PySem PyProof.Rows
section
open PySem.SeqAt
open PySem.AutoSeq1 (wpAny_loadPart')
open PySem.MeetsSeq PySem.MeetsSeq2 PySem.MeetsSeq3
end
section
variable {prog:IM} {w:Jo} {A:Jr} {E:Ir->Iz->Prop} {s:Iz}
theorem AY {t b:Iy} {vs ws:List Ir} {Q:Ir->Iz->Prop} (ht:QE s.heap t vs.toArray) (hb:QE s.heap b ws.toArray) (hv:vs≠[])
  (h1:ws=[]->Q (.ref t) s) (h2:ws≠[]->Q (.ref s.heap.objs.size) { s with heap:=s.heap.push { cls:=.type "tuple",data:=.seq (vs++ws).toArray } })
  (hsz:vs.length+ws.length<=sizeLine):wpAny (model prog w) A (binaryOp .Add (.ref t) (.ref b)) Q E s:=by
 obtain⟨⟨cls,dd,data,sl⟩,ho,hc,n,hd⟩:=id ht;obtain⟨⟨cls2,dd2,data2,sl2⟩,ho2,hc2,n2,hd2⟩:=id hb;simp only at hc hd hc2 hd2;subst hc hd hc2 hd2;have e:vs.toArray++ws.toArray=(vs++ws).toArray:=by simp
 by_cases hw:ws=[]
 ·exact RO ⟨_,ho,rfl⟩ ⟨_,ho2,rfl⟩ PQ Rf NH Nz (Ni _ _)
   (tuple_addW1 t b vs.toArray ws.toArray n n2 dd dd2 sl sl2 (by simpa using hv) (by simp [hw])) ⟨ho,ho2,h1 hw⟩
 ·refine RO ⟨_,ho,rfl⟩ ⟨_,ho2,rfl⟩ PQ Rf NH Nz (Ni _ _)
   (tuple_addW2 t b vs.toArray ws.toArray n n2 dd dd2 sl sl2 (by simpa using hv) (by simpa using hw) (by rw [IP,IP];exact hsz)) ⟨ho,ho2,?_⟩
  rw [e];exact h2 hw
noncomputable def cR (n d:Nat):Option Int->Nat
 | none=>d
 | some v=>if v<0 then (v+(n:Int)).toNat else min v.toNat n
theorem EN (n d:Nat) (hd:d<=n) (o:Option Int):cR n d o<=n:=by
 cases o with
 | none=>exact hd
 | some v =>
  show (if v<0 then (v+(n:Int)).toNat else min v.toNat n)<=n;by_cases hv:v<0
  ·rw [if_pos hv];lia
  ·rw [if_neg hv];exact R9 _ _
theorem uG (v:Int) (n d:Nat):(if v<0 then max (v+(n:Int)) 0 else min v (n:Int))=((cR n d (Io v):Nat):Int):=by
 show (if v<0 then max (v+(n:Int)) 0 else min v (n:Int))=(((if v<0 then (v+(n:Int)).toNat else min v.toNat n):Nat):Int);by_cases hv:v<0
 ·simp only [if_pos hv];lia
 ·simp only [if_neg hv];lia
theorem sO (lo hi:Option Int) (n:Nat):Kd lo hi 1 (n:Int)=(((cR n 0 lo:Nat):Int),((cR n n hi:Nat):Int)):=by
 have h1:¬((1:Int)<0):=by lia
 unfold Kd;simp only [h1,if_false];refine Prod.ext ?_ ?_
 ·cases lo with
  | none=>rfl
  | some v=>exact uG v n 0
 ·cases hi with
  | none=>rfl
  | some v=>exact uG v n n
theorem uh (i j:Nat):KD (i:Int) (j:Int) 1=j-i:=by
 unfold KD;have h1:(1:Int) > 0:=by lia
 simp only [h1,if_true,Int.ediv_one];split<;>lia
theorem iP {v:Ir} {o:Option Int} {Q:Option Int->Iz->Prop} (p:OO v o) (h:Q o s):wpAny (model prog w) A (SR v) Q E s:=by
 cases p with
 | none=>exact OP h
 | int i t=>exact slicePart_int h
theorem fG {sl:Iy} {vl vu:Ir} {lo hi:Option Int} {n:Nat} {Q:Int × Int × Nat->Iz->Prop} (hs:s.heap.IsSliceOf sl vl vu .none) (pl:OO vl lo) (pu:OO vu hi)
  (h:Q (((cR n 0 lo:Nat):Int),1,cR n n hi-cR n 0 lo) s):wpAny (model prog w) A (LV (.ref sl) (pure (n:Int))) Q E s:=by
 obtain⟨os,hos,hcs,hds⟩:=id hs;unfold LV O0;refine Ip (Ip (JS hos hds (x:=vl) rfl (Ip (JS hos hds (x:=vu) rfl (Ip (JS hos hds (x:=.none) rfl (IA ?_)))))));refine Ip (OP ?_);show wpAny _ _ (if ((1:Int)==0)=true then _ else _) _ _ s;rw [if_neg (by decide)];refine Ip (iP pl (Ip (iP pu (Ip (IA ?_)))));show wpAny _ _ (match Kd lo hi 1 (n:Int) with | (lo,hi)=>pure (lo,(1:Int),KD lo hi 1)) _ _ s;rw [sO lo hi n];show wpAny _ _ (pure (((cR n 0 lo:Nat):Int),(1:Int),KD ((cR n 0 lo:Nat):Int) ((cR n n hi:Nat):Int) 1)) _ _ s;rw [uh];exact IA h
theorem zG (xs:Array Ir) (i k:Nat):((Ky k).filterMap fun(m:Nat)=>xs[((i:Int)+(m:Int)*1).toNat]?).toArray=((xs.toList.drop i).take k).toArray:=by
 have e:(fun(m:Nat)=>xs[((i:Int)+(m:Int)*1).toNat]?)=λm=>xs[i+m]?:=by
  funext m;have:((i:Int)+(m:Int)*1).toNat=i+m:=by lia
  rw [this]
 rw [e];have:=pick_run xs i k;rw [Ru] at this;have e2:((λx=>xs[x]?)∘λx=>i+x)=λm=>xs[i+m]?:=rfl;rw [e2] at this;rw [this]
theorem i7 {t sl:Iy} {items:Array Ir} {vl vu:Ir} {lo hi:Option Int} {Q:Ir->Iz->Prop} (ht:QE s.heap t items) (hs:s.heap.IsSliceOf sl vl vu .none) (pl:OO vl lo) (pu:OO vu hi)
  (hw:¬(cR items.size 0 lo=0/\cR items.size items.size hi=items.size))
  (h:Q (.ref s.heap.objs.size) { s with heap:=s.heap.push { cls:=.type "tuple",data:=.seq ((items.toList.drop (cR items.size 0 lo)).take (cR items.size items.size hi-cR items.size 0 lo)).toArray } })
  (hsz:items.size<=sizeLine):wpAny (model prog w) A (getItem (.ref t) (.ref sl)) Q E s:=by
 have htake:sizeOk (.seq ((items.toList.drop (cR items.size 0 lo)).take (cR items.size items.size hi-cR items.size 0 lo)).toArray):=by show ((items.toList.drop (cR items.size 0 lo)).take (cR items.size items.size hi-cR items.size 0 lo)).toArray.size<=sizeLine;rw [IP,JE,Mr,Jw];exact IJ (R9 _ _) (IJ (Nat.sub_le _ _) hsz)
 have hj:cR items.size items.size hi<=items.size:=EN _ _ (IF _) hi;obtain⟨os,hos,hcs,hds⟩:=id hs;have hTs:s.TypeIs (.ref sl) "slice":=⟨os,hos,hcs⟩
 unfold getItem
 try with_reducible refine Kl ?_
 first | refine Ip (IA ?_) | skip
 refine Ip (Ph ht.typeIs (by decide) ?_);refine Ip (JK (name:=J6 "__getitem__") ht.typeIs J7
  (JW J7 ht.typeIs OB ?_ (OQ _ _)))
 show wpAny _ _ (MX (.ref t) >>= _) _ _ s;refine Ip (Rg ht ?_);refine Ip (NI hTs ?_);rw [if_pos (by decide)];refine Ip (fG hs pl pu ?_);have hno:¬((((cR items.size 0 lo:Nat):Int)==0 && (1:Int)==1 && (cR items.size items.size hi-cR items.size 0 lo)==items.size)=true):=by intro q;rw [M6,M6] at q;have q1:((cR items.size 0 lo:Nat):Int)=0:=eq_of_beq q.1.1;have q2:cR items.size items.size hi-cR items.size 0 lo=items.size:=eq_of_beq q.2;exact hw ⟨by lia,by lia⟩
 show wpAny _ _ (if (((cR items.size 0 lo:Nat):Int)==0 && (1:Int)==1 && (cR items.size items.size hi-cR items.size 0 lo)==items.size)=true then _ else _) _ _ s;rw [if_neg hno,zG]
 first
  | exact Ip (m:=Km _) (Jt (IA ⟨_,rfl,IA h⟩) htake)
  | exact Ip (m:=Km _) (Jt (Ip (IA (IA ⟨_,rfl,IA h⟩))) htake)
  | exact Ip (Ip (m:=Km _) (Jt (IA (IA ⟨_,rfl,IA h⟩)) htake))
  | exact Ip (Ip (m:=Km _) (Jt (IA ⟨_,rfl,IA h⟩) htake))
end
end HT
namespace L2
open PySem PySem.Spec PyProof.Rows
abbrev TO:=St->Hp->(Option Int->Hp->Prop)->Prop
def PO (X:Cx) (e:Option JH) (t:TO):Prop :=
 ∀(pins:List (Iy × K9)) (s:Iz) (σ:St) (H:Hp) (Q:Option Int->Hp->Prop),Inv X pins σ H s->t σ H Q ->
  wpAny (model X.prog X.w) X.A (evalPart e X.env) (λu s'=>∃ o H',Inv X pins σ H' s'/\OO u o/\Q o H') X.xe s
def vH:TO:=λ_ H Q=>Q none H
def Dm (t:TE):TO:=λσ H Q=>t σ H λx H1=>∃ i,x=.int i/\Q (Io i) H1
section
variable {X:Cx} {e:JH} {te:TE} {lo hi:Option JH} {tl th:TO} {pos p2:Mn}
theorem jh:PO X none vH:=by intro pins s σ H Q I h;rw [PF];exact IA ⟨none,H,I,.none,h⟩
theorem fN (h:PE X e te):PO X (Io e) (Dm te):=by intro pins s σ H Q I hw;rw [evalPart_some];refine bf (h pins s σ H _ I hw) λu s1 ⟨x,H1,I1,r1,q1⟩=>?_;obtain⟨i,rfl,q⟩:=q1;obtain⟨t,rfl⟩:=r1;exact⟨Io i,H1,I1,.int i t,q⟩
def GO (X:Cx) (r:V->Option Int->Option Int->Hp->VK->Prop):Prop :=
 ∀(pins:List (Iy × K9)) (s:Iz) (σ:St) (H:Hp) (x:V) (v vl vu:Ir) (lo hi:Option Int) (sl:Iy) (Q:VK),Inv X pins σ H s->RelV x v->s.heap.IsSliceOf sl vl vu .none->OO vl lo->OO vu hi->r x lo hi H Q ->
  ∃ T id,typeLookup (.type T) "__getitem__"=pure (Io (.builtin id))/\s.TypeIs v T/\wpAny (model X.prog X.w) X.A (getItem v (.ref sl)) (EP X pins σ Q) X.xe s
def HP (r:V->Option Int->Option Int->Hp->VK->Prop) (te:TE) (tl th:TO):TE:=λσ H Q=>te σ H λx H1=>tl σ H1 λl H2=>th σ H2 λu H3=>r x l u H3 Q
theorem gF {r:V->Option Int->Option Int->Hp->VK->Prop} (hr:GO X r) (he:PE X e te) (hl:PO X lo tl) (hu:PO X hi th):PE X (.Subscript e (.Slice lo hi none p2) pos) (HP r te tl th):=by intro pins s σ H Q I h;refine P7 (bf (he pins s σ H _ I h) λv s1 ⟨x,H1,I1,r1,q1⟩=>?_);refine Sz (bf (hl pins s1 σ H1 _ I1 q1) λvl s2 ⟨l,H2,I2,pl,q2⟩=>bf (hu pins s2 σ H2 _ I2 q2) λvu s3 ⟨u,H3,I3,pu,q3⟩=>?_);rw [PF];refine IA ?_;have I4:Inv X pins σ H3 { s3 with heap:=s3.heap.push { cls:=.type "slice",data:=.fields #[vl,vu,.none] } }:=I3.kept (t':=s3.toks) λb ob q=>Iw _ q;obtain⟨T,id,hT,ht,hg⟩:=hr pins { s3 with heap:=s3.heap.push { cls:=.type "slice",data:=.fields #[vl,vu,.none] } } σ H3 x v vl vu l u s3.heap.objs.size Q I4 r1 (OR ..) pl pu q3;show wpAny (model X.prog X.w) X.A (subscriptTail e (.Slice lo hi none p2) v (.ref s3.heap.objs.size)) (EP X pins σ Q) X.xe { s3 with heap:=s3.heap.push { cls:=.type "slice",data:=.fields #[vl,vu,.none] } };exact UX (ops:=[.ref s3.heap.objs.size,v]) ht hT hg (by with_unfolding_all rfl)
noncomputable def fj (xs:List V) (lo hi:Option Int):List V:=(xs.drop (HT.cR xs.length 0 lo)).take (HT.cR xs.length xs.length hi-HT.cR xs.length 0 lo)
theorem gh (xs:List V) (lo hi:Option Int):(fj xs lo hi).length<=xs.length:=by unfold fj;rw [JE,Mr];lia
def Hv (K:Iq):V->Option Int->Option Int->Hp->VK->Prop:=λx lo hi H Q=>∃ a xs,x=.ref a/\bj K H a xs /\
 ¬(HT.cR xs.length 0 lo=0/\HT.cR xs.length xs.length hi=xs.length)/\∀ p,H p=none->Q (.ref p) (upd H p (.tup (fj xs lo hi)))
theorem z5:GO X (Hv X.K):=by
 intro pins s σ H x v vl vu lo hi sl Q I rx hs pl pu h;obtain⟨a,xs,rfl,hx,hw,q⟩:=h;cases rx;obtain⟨its,r,ht,hz⟩:=I.tuple hx;have hlen:its.toArray.size=xs.length:=by rw [IP];exact r.length.symm
 refine⟨"tuple",_,J7.lookup,ht.typeIs,?_⟩;refine HT.i7 ht hs pl pu (by rw [hlen];exact hw) ?_ (by rw [hlen];exact hz);rw [hlen];refine⟨.ref s.heap.objs.size,_,I.laid (t':=s.toks) (o:=.tup (fj xs lo hi)) (λb ob q=>Iw _ q) (IF _) ?_,rfl,q _ (I.hok.fresh (IF _))⟩;exact⟨IJ (gh xs lo hi) hz,_,(r.drop (HT.cR xs.length 0 lo)).take (HT.cR xs.length xs.length hi-HT.cR xs.length 0 lo),IsTup.new _ _⟩
def F4 (K:Iq):R2:=λx y H Q=>∃ a b xs ys,x=.ref a/\y=.ref b/\bj K H a xs/\bj K H b ys/\xs≠[]/\xs.length+ys.length<=sizeLine /\
 (ys=[]->Q (.ref a) H)/\(ys≠[]->∀ p,H p=none->Q (.ref p) (upd H p (.tup (xs++ys))))
theorem Vals.kW {xs:List V} {us:List Ir} (r:Vals xs us):us=[]↔xs=[]:=by
 cases r with
 | nil=>simp
 | cons _ _=>simp
theorem BI:iU X (binaryOp .Add) (F4 X.K):=by intro pins s σ H x y v u Q I rx ry h;obtain⟨a,b,xs,ys,rfl,rfl,ha,hb,hx,hz,q1,q2⟩:=h;cases rx;cases ry;obtain⟨its,r1,p1,_⟩:=I.tuple ha;obtain⟨its2,r2,p2,_⟩:=I.tuple hb;refine HT.AY p1 p2 (λz=>hx (r1.kW.mp z)) (λz=>⟨.ref a,H,I,rfl,q1 (r2.kW.mp z)⟩) (λz=>?_) (by rw [<- r1.length,<- r2.length];exact hz);refine⟨.ref s.heap.objs.size,_,I.laid (t':=s.toks) (o:=.tup (xs++ys)) (λb ob q=>Iw _ q) (IF _) ?_,rfl,q2 (λw=>z (r2.kW.mpr w)) _ (I.hok.fresh (IF _))⟩;exact⟨by rw [Js];exact hz,_,r1.append r2,IsTup.new _ _⟩
end
noncomputable def xt (n:Nat) (i:Int):Option Nat:=if 0<=i then (if i<n then Io i.toNat else none) else if -(n:Int)<=i then Io (i+n).toNat else none
noncomputable def uE {α:Type} (xs:List α) (i:Int):Option α:=(xt xs.length i).bind λj=>xs[j]?
theorem uP {n:Nat} {i:Int} {j:Nat} (h:xt n i=Io j):seqIndex? i n=Io j/\j<n /\ -(n:Int)<=i/\i<n:=by
 unfold xt at h;by_cases h0:0<=i
 ·rw [if_pos h0] at h;by_cases h1:i<n
  ·rw [if_pos h1] at h;have e:i.toNat=j:=JZ h;exact⟨by rw [QI h0 h1,e],by lia,by lia,h1⟩
  ·rw [if_neg h1] at h;cases h
 ·rw [if_neg h0] at h;by_cases h1:-(n:Int)<=i
  ·rw [if_pos h1] at h;have e:(i+n).toNat=j:=JZ h;exact⟨by rw [seqIndex_neg (by lia) h1,e],by lia,h1,by lia⟩
  ·rw [if_neg h1] at h;cases h
theorem uF {α:Type} {xs:List α} {i:Int} {v:α} (h:uE xs i=Io v):∃ j,seqIndex? i xs.length=Io j/\xs[j]?=Io v/\j<xs.length /\ -(xs.length:Int)<=i/\i<xs.length:=by
 unfold uE at h;cases e:xt xs.length i with
 | none=>rw [e] at h;cases h
 | some j =>rw [e] at h;obtain⟨h1,h2,h3,h4⟩:=uP e;exact⟨j,h1,h,h2,h3,h4⟩
theorem fJ {α:Type} {xs:List α} {j:Nat} {v:α} (h:xs[j]?=Io v):uE xs (j:Int)=Io v:=by
 have hj:j<xs.length:=(IB.mp h).1;have e:xt xs.length (j:Int)=Io j:=by unfold xt;rw [if_pos (by lia),if_pos (by lia)];simp
 unfold uE;rw [e];exact h
theorem xG {α:Type} (xs:List α) (v:α):uE (xs++[v]) (-1)=Io v:=by
 have hl:(xs++[v]).length=xs.length+1:=by simp
 have e:xt (xs++[v]).length (-1)=Io xs.length:=by unfold xt;rw [hl,if_neg (by decide),if_pos (by lia)];congr 1;lia
 unfold uE;rw [e];show (xs++[v])[xs.length]?=Io v;simp
def AO (b:JH):Prop:=∀ o i,subscripted b false o i=operate [o,i] (getItem o i)
def GI (X:Cx) (r:R2):Prop :=
 ∀(value slice:JH) (pins:List (Iy × K9)) (s:Iz) (σ:St) (H:Hp) (x y:V) (v u:Ir) (Q:VK),Inv X pins σ H s->RelV x v->RelV y u->r x y H Q ->
  subscripted slice false v u=operate [v,u] (getItem v u)->wpAny (model X.prog X.w) X.A (subscriptTail value slice v u) (EP X pins σ Q) X.xe s
def HD (X:Cx) (id:String) (r:V->List V->Hp->VK->Prop):Prop :=
 ∀(pins:List (Iy × K9)) (s:Iz) (σ:St) (H:Hp) (x:V) (xs:List V) (v:Ir) (us:List Ir) (Q:VK),Inv X pins σ H s->RelV x v->Vals xs us->r x xs H Q ->
  wpAny (model X.prog X.w) X.A (call (.builtin id) (v::us)) (EP X pins σ Q) X.xe s
section
variable {X:Cx} {a b:JH} {ta tb:TE} {pos:Mn}
theorem aG {r:R2} (hr:GI X r) (ha:PE X a ta) (hb:PE X b tb) (hs:AO b):PE X (.Subscript a b pos) (Fd r ta tb):=by intro pins s σ H Q I h;exact P7 (DL ha hb I h λv u s2 x y H2 I2 rx ry q=>hr a b pins s2 σ H2 x y v u Q I2 rx ry q (hs _ _))
def wY (K:Iq):R2:=λx y H Q=>∃ p xs i v,x=.ref p/\y=.int i/\aJ K H p xs/\uE xs i=Io v/\Q v H
def EJ (K:Iq):R2:=λx y H Q=>∃ p xs i v,x=.ref p/\y=.int i/\bj K H p xs/\uE xs i=Io v/\Q v H
theorem bz:GI X (wY X.K):=by
 intro value slice pins s σ H x y v u Q I rx ry h hs;obtain⟨p,xs,i,z,rfl,rfl,hq,he,q⟩:=h;cases rx;obtain⟨t,rfl⟩:=ry;obtain⟨its,r,pl,hz⟩:=I.list hq;obtain⟨j,h1,h2,h3,h4,h5⟩:=uF he;obtain⟨w,ew,rw'⟩:=r.get h2;have hl:=r.length;have hn:=lP;have fin:EP X pins σ Q w s:=⟨z,H,I,rw',q⟩
 by_cases h0:0<=i
 ·have hj:i.toNat=j:=by rw [QI h0 h5] at h1;exact JZ h1
  exact item_listR pl.isList h0 (by lia) (by rw [hj];simpa using ew) fin hs
 ·have hj:(i+(its.toArray.size:Int)).toNat=j:=by rw [seqIndex_neg (by lia) h4] at h1;rw [IP,<- hl];exact JZ h1
  exact P8 (x:=w) pl.isList.typeIs Pj.lookup
   (wpAny_getItem_list_neg (Q:=λr s'=>r=w/\EP X pins σ Q r s') pl.isList (by lia) (by rw [IP]<;>lia) (by lia) (by rw [hj];simpa using ew) ⟨rfl,fin⟩) hs
theorem a9:GI X (EJ X.K):=by
 intro value slice pins s σ H x y v u Q I rx ry h hs;obtain⟨p,xs,i,z,rfl,rfl,hq,he,q⟩:=h;cases rx;obtain⟨t,rfl⟩:=ry;obtain⟨its,r,pl,hz⟩:=I.tuple hq;obtain⟨j,h1,h2,h3,h4,h5⟩:=uF he;obtain⟨w,ew,rw'⟩:=r.get h2;have hl:=r.length;have hn:=lP;have fin:EP X pins σ Q w s:=⟨z,H,I,rw',q⟩
 exact P8 (x:=w) pl.typeIs J7.lookup
  (getItem_tuple (j:=j) (Q:=λr s'=>r=w/\EP X pins σ Q r s') pl (by lia) (by lia) (by rw [IP,<- hl];exact h1) (by simpa using ew) ⟨rfl,fin⟩) hs
theorem tP (its:List Ir) (n j:Nat) (u:Ir):Mi (·.setIfInBounds j u) { cls:=.type "list",data:=.seq its.toArray n }={ cls:=.type "list",data:=.seq (its.set j u).toArray n }:=by simp [Mi]
theorem Inv.lst {pins:List (Iy × K9)} {σ:St} {H:Hp} {s:Iz} {p:Iy} {xs:List V} (I:Inv X pins σ H s) (h:H p=Io (.lst xs)) :
  ∃(its:List Ir) (n:Nat),Vals xs its/\s.heap.get? p=Io { cls:=.type "list",data:=.seq its.toArray n }/\xs.length<=sizeLine:=by
 obtain⟨z,its,n,r,e⟩:=I.hok p _ h;exact⟨its,n,r,e,z⟩
theorem Inv.Ec {pins:List (Iy × K9)} {σ:St} {H:Hp} {s:Iz} {p:Iy} {xs ys:List V} {its its':List Ir} {n n':Nat} {f:K9->K9} (I:Inv X pins σ H s) (h:H p=Io (.lst xs))
  (ho:s.heap.get? p=Io { cls:=.type "list",data:=.seq its.toArray n }) (hf:f { cls:=.type "list",data:=.seq its.toArray n }={ cls:=.type "list",data:=.seq its'.toArray n' }) (r:Vals ys its') (hz:ys.length<=sizeLine) (t:Nat) :
  Inv X pins σ (upd H p (.lst ys)) { s with heap:=s.heap.update p f,toks:=t }:=by
 have e:(s.heap.update p f).get? p=Io { cls:=.type "list",data:=.seq its'.toArray n' }:=by rw [Jx f ho (by rw [hf]<;>rfl),hf]
 refine I.write (x:=p) (e:=p) (by rw [h];trivial) (.inl rfl) (λb u hb q=>(Jc _ _ (JC hb)).trans q) ⟨_,e⟩ ?_;exact⟨hz,its',n',r,e⟩
def F8:V->V->V->Hp->(Hp->Prop)->Prop:=λo i v H Q=>∃ p xs k j,o=.ref p/\i=.int k/\H p=Io (.lst xs)/\xt xs.length k=Io j/\Q (upd H p (.lst (xs.set j v)))
theorem set_list:Fw X F8:=by
 intro pins s σ H o i v ov iv u Q I ro ri rv h;obtain⟨p,xs,k,j,rfl,rfl,hp,hj,q⟩:=h;cases ro;obtain⟨t,rfl⟩:=ri;obtain⟨its,n,r,ho,hz⟩:=I.lst hp;obtain⟨h1,h2,h3,h4⟩:=uP hj;have hl:=r.length;have hn:=lP;have I':Inv X pins σ (upd H p (.lst (xs.set j v))) { s with heap:=s.heap.update p (Mi (·.setIfInBounds j u)) } :=
  I.Ec hp ho (tP its n j u) (r.set rv j) (by rw [Qi];exact hz) s.toks
 by_cases h0:0<=k
 ·have hk:k.toNat=j:=by rw [QI h0 h4] at h1;exact JZ h1
  exact PySem.W.ki_setAt ho h0 (by lia) (by rw [IP,<- hl];exact h4) (by rw [hk];exact⟨_,I',q⟩)
 ·have hk:(k+(its.toArray.size:Int)).toNat=j:=by rw [seqIndex_neg (by lia) h3] at h1;rw [IP,<- hl];exact JZ h1
  exact PySem.W.ki_setBack ho (by lia) (by rw [IP,<- hl];exact h3) (by lia) (by rw [hk];exact⟨_,I',q⟩)
theorem pY (lo hi:Option Int) (n:Nat):(sliceBounds lo hi none n).1=((HT.cR n 0 lo:Nat):Int)/\(sliceBounds lo hi none n).2.1=((HT.cR n n hi:Nat):Int)/\(sliceBounds lo hi none n).2.2=1:=by
 refine⟨?_,?_,rfl⟩
 ·cases lo with
  | none=>simp [sliceBounds,HT.cR]
  | some i =>
   simp only [sliceBounds,HT.cR,Sa,show (1:Int) > 0 by decide,if_true];by_cases h:i<0
   ·simp only [h,if_true]<;>lia
   ·simp only [h,if_false]<;>lia
 ·cases hi with
  | none=>simp [sliceBounds,HT.cR]
  | some i =>
   simp only [sliceBounds,HT.cR,Sa,show (1:Int) > 0 by decide,if_true];by_cases h:i<0
   ·simp only [h,if_true]<;>lia
   ·simp only [h,if_false]<;>lia
theorem mV (its:List Ir) (lo hi:Option Int):slicePick its.toArray lo hi none=((its.drop (HT.cR its.length 0 lo)).take (HT.cR its.length its.length hi-HT.cR its.length 0 lo)).toArray:=by obtain⟨h1,h2,h3⟩:=pY lo hi its.toArray.size;unfold slicePick;rw [h1,h2,h3];simp only [sliceRange_one,pick_run,IP]<;>rfl
def Hu (K:Iq):V->Option Int->Option Int->Hp->VK->Prop:=λx lo hi H Q=>∃ a xs,x=.ref a/\aJ K H a xs/\∀ p,H p=none->Q (.ref p) (upd H p (.lst (fj xs lo hi)))
theorem pX:GO X (Hu X.K):=by intro pins s σ H x v vl vu lo hi sl Q I rx hs pl pu h;obtain⟨a,xs,rfl,hx,q⟩:=h;cases rx;obtain⟨its,r,ht,hz⟩:=I.list hx;have hlen:=r.length;refine⟨"list",_,Pj.lookup,ht.isList.typeIs,?_⟩;refine PH ht.isList hs pl pu .none (by simp) ?_ (by rw [IP]<;>lia);rw [mV,<- hlen];refine⟨.ref s.heap.objs.size,_,I.laid (t':=s.toks) (o:=.lst (fj xs lo hi)) (λb ob q=>Iw _ q) (IF _) ?_,rfl,q _ (I.hok.fresh (IF _))⟩;exact⟨IJ (gh xs lo hi) hz,_,0,(r.drop (HT.cR xs.length 0 lo)).take (HT.cR xs.length xs.length hi-HT.cR xs.length 0 lo),II _ rfl⟩
def dR:V->Bool
 | .non=>true
 | .bl _=>true
 | .int _=>true
 | .str _=>true
 | _=>false
noncomputable def qS:V->V->Bool
 | .non,.non=>true
 | .bl a,.bl b=>a==b
 | .bl a,.int b=>(if a then 1 else 0)==b
 | .int a,.bl b=>a==(if b then 1 else 0)
 | .int a,.int b=>a==b
 | .str a,.str b=>a==b
 | _,_=>false
theorem DQ {A:Jr} {s:Iz} {y x:V} {u v:Ir} (ry:RelV y u) (rx:RelV x v) (fy:dR y=true) (fx:dR x=true):Sb A s u v (qS y x):=by
 cases y with
 | non =>
  cases ry;cases x with
  | non=>cases rx;exact Vw _
  | bl b=>cases rx;exact UY b
  | int b=>obtain⟨t,rfl⟩:=rx;exact Va b t
  | str b=>obtain⟨t,rfl⟩:=rx;exact Vb b t
  | _=>exact absurd (show false=true from fx) Jk
 | bl a =>
  cases ry;cases x with
  | non=>cases rx;exact UZ a
  | bl b=>cases rx;exact U0 a b
  | int b=>obtain⟨t,rfl⟩:=rx;exact Vc a b t
  | str b=>obtain⟨t,rfl⟩:=rx;exact Vd a b t
  | _=>exact absurd (show false=true from fx) Jk
 | int a =>
  obtain⟨t',rfl⟩:=ry;cases x with
  | non=>cases rx;exact Ve a t'
  | bl b=>cases rx;exact Vf a t' b
  | int b=>obtain⟨t,rfl⟩:=rx;exact Vj a t' b t
  | str b=>obtain⟨t,rfl⟩:=rx;exact Ro a t' b t
  | _=>exact absurd (show false=true from fx) Jk
 | str a =>
  obtain⟨t',rfl⟩:=ry;cases x with
  | non=>cases rx;exact Vg a t'
  | bl b=>cases rx;exact Vh a t' b
  | int b=>obtain⟨t,rfl⟩:=rx;exact Rp a t' b t
  | str b=>obtain⟨t,rfl⟩:=rx;exact Vk a t' b t
  | _=>exact absurd (show false=true from fx) Jk
 | _=>exact absurd (show false=true from fy) Jk
noncomputable def oV (x:V) (u:Ir):Bool:=match u with
 | .none=>qS .non x
 | .bool b=>qS (.bl b) x
 | .int i _=>qS (.int i) x
 | .str z _=>qS (.str z) x
 | _=>false
theorem tG {x y:V} {u:Ir} (r:RelV y u) (f:dR y=true):oV x u=qS y x:=by
 cases y with
 | non=>cases r;rfl
 | bl b=>cases r;rfl
 | int i=>obtain⟨t,rfl⟩:=r;rfl
 | str z=>obtain⟨t,rfl⟩:=r;rfl
 | _=>exact absurd (show false=true from f) Jk
theorem iX {x:V}:∀{xs:List V} {us:List Ir},Vals xs us->xs.all dR=true->us.any (oV x)=xs.any λy=>qS y x
 | _,_,.nil,_=>rfl
 | y::xs,u::us,.cons r t,f=>by rw [Uj,M6] at f;rw [Ob,Ob,tG r f.1,iX t f.2]
theorem fv {A:Jr} {s:Iz} {x:V} {v:Ir} (rx:RelV x v) (fx:dR x=true):∀{xs:List V} {us:List Ir},Vals xs us->xs.all dR=true->∀ u∈us,Sb A s u v (oV x u)
 | _,_,.nil,_=>λu hu=>by cases hu
 | y::xs,u::us,.cons r t,f=>λu' hu=>by
  rw [Uj,M6] at f;rcases IU.mp hu with rfl | hu
  ·rw [tG r f.1];exact DQ r rx f.1 fx
  ·exact fv rx fx t f.2 u' hu
noncomputable def DX (x:V) (xs:List V):Bool:=xs.any λy=>qS y x
def HI (K:Iq) (neg:Bool):R2:=λx y H Q=>∃ p xs,y=.ref p/\(aJ K H p xs∨bj K H p xs)/\dR x=true/\xs.all dR=true/\Q (.bl (if neg then !DX x xs else DX x xs)) H
theorem wN:iU X (compareOp .In) (HI X.K false):=by
 intro pins s σ H x y v u Q I rx ry h;obtain⟨p,xs,rfl,hq,fx,fs,q⟩:=h;cases ry;rcases hq with hq | hq
 ·obtain⟨its,r,pl,hz⟩:=I.list hq;refine SU (oV x) pl.isList (λw hw=>fv rx fx r fs w (by simpa using hw)) ⟨.bl _,H,I,rfl,?_⟩;rw [show its.toArray.any (oV x)=its.any (oV x) by simp,iX r fs];exact q
 ·obtain⟨its,r,pl,hz⟩:=I.tuple hq;refine SeqAt.in_tupleAt (oV x) pl (λw hw=>fv rx fx r fs w (by simpa using hw)) ⟨.bl _,H,I,rfl,?_⟩;rw [show its.toArray.any (oV x)=its.any (oV x) by simp,iX r fs];exact q
theorem pL:iU X (compareOp .NotIn) (HI X.K true):=by
 intro pins s σ H x y v u Q I rx ry h;obtain⟨p,xs,rfl,hq,fx,fs,q⟩:=h;cases ry;rcases hq with hq | hq
 ·obtain⟨its,r,pl,hz⟩:=I.list hq;refine SeqAt.notIn_listAt (oV x) pl.isList (λw hw=>fv rx fx r fs w (by simpa using hw)) ⟨.bl _,H,I,rfl,?_⟩;rw [show its.toArray.any (oV x)=its.any (oV x) by simp,iX r fs];exact q
 ·obtain⟨its,r,pl,hz⟩:=I.tuple hq;refine SeqAt.notIn_tupleAt (oV x) pl (λw hw=>fv rx fx r fs w (by simpa using hw)) ⟨.bl _,H,I,rfl,?_⟩;rw [show its.toArray.any (oV x)=its.any (oV x) by simp,iX r fs];exact q
theorem oM:dQ X (.builtin "len") (λxs H Q=>∃ p ys,xs=[.ref p]/\(aJ X.K H p ys∨bj X.K H p ys)/\Q (.int ys.length) H):=by
 intro pins s σ H xs us Q I r h;obtain⟨p,ys,rfl,hq,q⟩:=h;obtain⟨u,rfl,rx⟩:=vals1 r;cases rx;have hn:=lP;rcases hq with hq | hq
 ·obtain⟨its,r',pl,hz⟩:=I.list hq;have hlen:=r'.length;exact Calls.call_len_list pl.isList (by simp only [IP]<;>lia) ⟨.int ys.length,H,I.tok _,⟨s.toks+1,by rw [IP,hlen]⟩,q⟩
 ·obtain⟨its,r',pl,hz⟩:=I.tuple hq;have hlen:=r'.length;exact len_tuple pl (by simp only [IP]<;>lia) ⟨.int ys.length,H,I.tok _,⟨s.toks+1,by rw [IP,hlen]⟩,q⟩
theorem bS:dQ X (.type "tuple") (λxs H Q=>∃ p ys,xs=[.ref p]/\((aJ X.K H p ys/\∀ l,H l=none->Q (.ref l) (upd H l (.tup ys)))∨(bj X.K H p ys/\Q (.ref p) H))):=by
 intro pins s σ H xs us Q I r h;obtain⟨p,ys,rfl,h⟩:=h;obtain⟨u,rfl,rx⟩:=vals1 r;cases rx;rcases h with⟨hq,q⟩|⟨hq,q⟩
 ·obtain⟨its,r',pl,hz⟩:=I.list hq;have hlen:=r'.length;refine call_tuple_list pl.isList (λh' kp=>?_) (by simp only [IP]<;>lia);have I1:Inv X pins σ H { s with heap:=h' }:=I.kept (t':=s.toks) kp;have I2:Inv X pins σ (upd H h'.objs.size (.tup ys)) { s with heap:=h'.push { cls:=.type "tuple",data:=.seq its.toArray } } :=
   I1.laid (t':=s.toks) (λb o e=>Iw _ e) (IF _) (show bG X.prog X.w _ _ _ (.tup ys) from ⟨hz,its,r',IsTup.new _ _⟩)
  exact⟨.ref h'.objs.size,_,I2,rfl,q _ (I1.hok.fresh (IF _))⟩
 ·obtain⟨its,r',pl,hz⟩:=I.tuple hq;exact call_tuple_same pl ⟨.ref p,H,I,rfl,q⟩
def Hz (K:Iq) (T:String) (x:V) (H:Hp):Prop:=match x with
 | .str _=>T = "str"
 | .int _=>T = "int"
 | .ref p=>(T = "list"/\∃ xs,aJ K H p xs)∨(T = "tuple"/\∃ o,K.lookup p=Io o/\o.cls=.type "tuple"/\o.dict=none) ∨
   (T = "dict"/\((∃ kvs,H p=Io (.dK kvs))∨∃ kvs,H p=Io (.dT kvs)))∨(T = "set"/\∃ S n,H p=Io (.set S n))
 | _=>False
theorem E3 {pins:List (Iy × K9)} {σ:St} {H:Hp} {s:Iz} {T:String} {x:V} {v:Ir} (I:Inv X pins σ H s) (r:RelV x v) (ty:Hz X.K T x H) :
  s.TypeIs v T/\∀ a,v=.ref a->∃ ob,s.heap.get? a=Io ob/\ob.dict=none:=by
 cases x with
 | str z =>obtain⟨t,rfl⟩:=r;cases (show T = "str" from ty);exact⟨typeIs_str s z t,λ_ e=>nomatch e⟩
 | int i =>obtain⟨t,rfl⟩:=r;cases (show T = "int" from ty);exact⟨typeIs_int s i t,λ_ e=>nomatch e⟩
 | ref p =>
  cases r;rcases ty with⟨rfl,xs,hq⟩|⟨rfl,o,hk,hc,hd⟩|⟨rfl,hk⟩|⟨rfl,S,n,hk⟩
  ·obtain⟨its,_,pl,_⟩:=I.list hq;refine⟨pl.isList.typeIs,λa e=>?_⟩;cases e;obtain⟨o,n,e,c,hd,_⟩:=pl;exact⟨o,e,hd⟩
  ·refine⟨⟨o,I.gd p o hk,hc⟩,λa e=>?_⟩;cases e;exact⟨o,I.gd _ o hk,hd⟩
  ·have z:∃ o,s.heap.get? p=Io o/\o.ExactDict:=by
    rcases hk with⟨kvs,hk⟩|⟨kvs,hk⟩
    ·obtain⟨_,_,_,_,o,_,_,e,ex,_⟩:=I.hok p _ hk;exact⟨o,e,ex⟩
    ·obtain⟨_,_,_,_,o,_,_,e,ex,_⟩:=I.hok p _ hk;exact⟨o,e,ex⟩
   obtain⟨o,e,ex⟩:=z;refine⟨⟨o,e,ex.1⟩,λa e2=>?_⟩;cases e2;exact⟨o,e,ex.2.1⟩
  ·obtain⟨o,_,_,_,e,ex,_⟩:=I.hok p _ hk;refine⟨⟨o,e,ex.1⟩,λa e2=>?_⟩;cases e2;exact⟨o,e,ex.2.1⟩
 | _=>exact Kk ty
def Hw (K:Iq) (T:String) (r:V->List V->Hp->VK->Prop) (to:TE):TE:=λσ H Q=>to σ H λx H1=>Hz K T x H1/\r x [] H1 Q
def HL (K:Iq) (T:String) (r:V->List V->Hp->VK->Prop) (to:TE) (t:TA):TE:=λσ H Q=>to σ H λx H1=>Hz K T x H1/\t σ H1 λxs H2=>r x xs H2 Q
variable {o e:JH} {es:List JH} {to:TE} {t:TA} {name:Jb} {apos Oy:Mn} {T id:String} {r:V->List V->Hp->VK->Prop}
theorem iu (pa:PlainAttrs T) (slot:Slot T name id) (hty:typeOf (.builtin id)=pure (.type "method_descriptor")) (hm:HD X id r) (ho:PE X o to) (ha:PA X (e::es) t)
  (hbase:attributeBase o name X.env (eval o X.env)=eval o X.env:=by rfl)
  (hfew:((backTo Oy (starEach (e::es) X.env)).all (λx=>!x.1) && (backToKw Oy (keywordEach [] X.env)).all (λx=>x.1.isSome)
   && decide ((e::es).length+([]:List Q2).length+(if ([]:List Q2).isEmpty then 0 else 1)<30))=true:=by rfl)
  (hline:(apos.endLine==Oy.line)=true:=by rfl) (hs:starEach (e::es) X.env=(false,eval e X.env)::starEach es X.env:=by rfl) (hplain:(backTo Oy (starEach es X.env)).any (·.1)=false:=by rfl) :
  PE X (.Call (.Attribute o name apos) (e::es) [] Oy) (HL X.K T r to t):=by
 intro pins s σ H Q I h;refine wpAny_Call_method_late hbase hfew hline rfl (bf (ho pins s σ H _ I h) λv s1 ⟨x,H1,I1,r1,ty,q1⟩=>?_);obtain⟨h1,h2⟩:=E3 I1 r1 ty;refine⟨T,id,pa,slot,hty,h1,h2,?_⟩;have hA:=ha Oy pins s1 σ H1 _ I1 q1;rw [hs] at hA ⊢;refine P9 (by show (false || (backTo Oy (starEach es X.env)).any (·.1))=false;rw [hplain]<;>rfl) (QJ ?_);exact bf hA λus s2 ⟨vs,H2,I2,r2,q2⟩=>hm pins s2 σ H2 x vs v us Q I2 r1 r2 q2
/- xs.append(e),list.index on a module's tuple .. are HD facts of 06m -/
end
def GK (X:Cx) (id:String) (r:V->List V->Hp->VK->Prop):Prop :=
 ∀(pins:List (Iy × K9)) (s:Iz) (σ:St) (H:Hp) (x:V) (xs:List V) (v:Ir) (us:List Ir) (Q:VK),Inv X pins σ H s->RelV x v->Vals xs us->r x xs H Q ->
  wpAny (model X.prog X.w) X.A (call (.builtin id) (v::us)) (EP X pins σ Q) X.xe s
theorem Vals.zero:∀{us:List Ir},Vals [] us->us=[]
 | _,.nil=>rfl
theorem Vals.xS:∀{x:V} {xs:List V} {us:List Ir},Vals (x::xs) us->∃ u vs,us=u::vs/\RelV x u/\Vals xs vs
 | _,_,_,.cons r t=>⟨_,_,rfl,r,t⟩
theorem Vals.one {x:V} {us:List Ir} (h:Vals [x] us):∃ u,us=[u]/\RelV x u:=by obtain⟨u,vs,rfl,r,t⟩:=h.xS;exact⟨u,congrArg (u::·) t.zero,r⟩
theorem Vals.two {x y:V} {us:List Ir} (h:Vals [x,y] us):∃ u v,us=[u,v]/\RelV x u/\RelV y v:=by obtain⟨u,vs,rfl,r,t⟩:=h.xS;obtain⟨v,rfl,q⟩:=t.one;exact⟨u,v,rfl,r,q⟩
theorem Vals.eraseIdx:∀{xs:List V} {us:List Ir} (i:Nat),Vals xs us->Vals (xs.eraseIdx i) (us.eraseIdx i)
 | _,_,_,.nil=>.nil
 | _,_,0,.cons _ t=>t
 | _,_,i+1,.cons r t=>.cons r (Vals.eraseIdx i t)
theorem Vals.reverse {xs:List V} {us:List Ir} (h:Vals xs us):Vals xs.reverse us.reverse:=by
 induction h with
 | nil=>exact .nil
 | cons r t ih=>rw [RP,RP];exact Vals.append ih (.cons r .nil)
theorem jU {α:Type}:∀(l:List α) (i:Nat),(l.eraseIdx i).length<=l.length
 | [],_=>IF _
 | _::_,0=>Mx _
 | _::r,i+1=>Nat.succ_le_succ (jU r i)
section
variable {X:Cx} {pins:List (Iy × K9)} {σ:St} {H:Hp} {s:Iz} {l b:Iy} {xs ys zs:List V}
theorem Inv.Eb {its its':List Ir} {n:Nat} {f:Array Ir->Array Ir} {t':Nat} (I:Inv X pins σ H s) (hH:H l=Io (.lst xs))
  (e:s.heap.get? l=Io { cls:=.type "list",data:=.seq its.toArray n }) (hf:f its.toArray=its'.toArray) (hv:Vals ys its') (hz:ys.length<=sizeLine) :
  Inv X pins σ (upd H l (.lst ys)) { s with heap:=s.heap.update l (Mi f),toks:=t' }:=by
 have q:=PySem.IsL.update e f;rw [hf] at q;refine I.write (x:=l) (e:=l) (by rw [hH];exact trivial) (.inl rfl) (λb' u hb hu=>(Jc s.heap (Mi f) (JC hb)).trans hu) ⟨_,q⟩ ?_;exact⟨hz,its',_,hv,q⟩
theorem Inv.Hj {its:List Ir} {t':Nat} (I:Inv X pins σ H s) (hv:Vals ys its) (hz:ys.length<=sizeLine) :
  Inv X pins σ (upd H s.heap.objs.size (.lst ys)) { s with heap:=s.heap.push { cls:=.type "list",data:=.seq its.toArray },toks:=t' } :=
 I.laid (λ_ _ q=>Iw _ q) (IF _) ⟨hz,its,0,hv,II _ rfl⟩
theorem Inv.fresh (I:Inv X pins σ H s):H s.heap.objs.size=none:=I.hok.fresh (IF _)
theorem Inv.wm (I:Inv X pins σ H s) (hH:H l=Io (.lst xs)):xs.length<=sizeLine/\∃(its:List Ir) (n:Nat),Vals xs its/\xs.length=its.length/\s.heap.get? l=Io { cls:=.type "list",data:=.seq its.toArray n }:=by obtain⟨z,its,n,r,e⟩:=I.hok l _ hH;exact⟨z,its,n,r,r.length,e⟩
end
section
variable {X:Cx}
def BW:V->List V->Hp->VK->Prop:=λx vs H Q=>∃ l xs y,x=.ref l/\vs=[y]/\H l=Io (.lst xs)/\xs.length<sizeLine/\Q .non (upd H l (.lst (xs++[y])))
theorem dA:GK X "list.append" BW:=by intro pins s σ H x vs v us Q I rx rv h;obtain⟨l,xs,y,rfl,rfl,hH,hz,q⟩:=h;cases rx;obtain⟨u,rfl,ru⟩:=rv.one;obtain⟨z,its,n,r,hl,e⟩:=I.wm hH;refine Nw Kv ⟨_,e,rfl⟩ F.entry_list_append (F.args_list_append_2 _ _) (PySem.list_append l its.toArray n u (by rw [IP];lia)) ⟨e,?_⟩;refine⟨.non,_,I.Eb (its':=its++[u]) hH e (by simp) (r.append (.cons ru .nil)) ?_,rfl,q⟩;rw [Js,Ks];lia
def EL:V->List V->Hp->VK->Prop:=λx vs H Q=>∃ l xs i k y,x=.ref l/\vs=[.int i]/\H l=Io (.lst xs) /\ -(2^63)<=i/\i<2^63/\seqIndex? i xs.length=Io k/\xs[k]?=Io y/\Q y (upd H l (.lst (xs.eraseIdx k)))
theorem yJ:GK X "list.pop" EL:=by
 intro pins s σ H x vs v us Q I rx rv h;obtain⟨l,xs,i,k,y,rfl,rfl,hH,h1,h2,hk,hy,q⟩:=h;cases rx;obtain⟨u,rfl,ru⟩:=rv.one;obtain⟨t,rfl⟩:=ru;obtain⟨z,its,n,r,hl,e⟩:=I.wm hH;obtain⟨w,hw,rw'⟩:=r.get hy;refine Nw Rv ⟨_,e,rfl⟩ F.entry_list_pop (F.args_list_pop_2 _ _)
  (MeetsSeq.list_pop_at l its.toArray n i t k w (fitsIndex_both h1 h2) (by rw [IP,<- hl];exact hk) (by rw [<- Lm];exact hw) (by rw [IP];lia)) ⟨e,?_⟩
 refine⟨y,_,I.Eb (its':=its.eraseIdx k) hH e ?_ (r.eraseIdx k) ?_,rw',q⟩
 ·show its.toArray.eraseIdxIfInBounds k=(its.eraseIdx k).toArray;rw [NW]
 ·have:=jU xs k;lia
def Hr:R2:=λx y H Q=>∃ l b xs zs,x=.ref l/\y=.ref b/\H l=Io (.lst xs)/\H b=Io (.lst zs)/\xs.length+zs.length<=sizeLine/\∀ p,H p=none->Q (.ref p) (upd H p (.lst (xs++zs)))
theorem Es:iU X (binaryOp .Add) Hr:=by
 intro pins s σ H x y v u Q I rx ry h;obtain⟨l,b,xs,zs,rfl,rfl,hH,hB,hz,q⟩:=h;cases rx;cases ry;obtain⟨z,its,n,r,hl,e⟩:=I.wm hH;obtain⟨z2,its2,n2,r2,hl2,e2⟩:=I.wm hB;refine PySem.P.add_list e e2 ?_ (by rw [IP,IP];lia);have ea:its.toArray++its2.toArray=(its++its2).toArray:=by simp
 rw [ea];exact⟨.ref _,_,I.Hj (t':=s.toks) (r.append r2) (by rw [Js];lia),rfl,q _ I.fresh⟩
end
section
variable {prog:IM} {w:Jo} {A:Jr} {E:Ir->Iz->Prop} {s:Iz}
end
section
variable {X:Cx}
end
end L2
namespace Att
open PySem PySem.W PySem.Calls PyProof.Rows
theorem kH {P:Vl} {h:JD}:∀(ns:List Int) (vs:List Ir),WellAll P h vs (ns.map WData.int)->NJ vs ns:=by
 intro ns
 induction ns with
 | nil =>intro vs w;rw [MB] at w;cases w;exact .nil
 | cons n ns ih =>
  intro vs w;rw [Jz] at w;cases w with
  | cons a b =>cases a;exact .cons _ _ (ih _ b)
theorem xb {l:P1} {n:Nat} (hn:l.most=Io n) {P:Vl} {h:JD} {args:List WData} {vals:List Ir}
  (hpre:l.row.toRowW.claim.pre args=true) (hwl:WellAll P h vals args) :
  ∃ a vs ns,vals=[Ji a]/\args=[WData.list (ns.map WData.int)]/\h.get? a=Io { cls:=.type "list",data:=.seq vs.toArray }/\NJ vs ns/\ns.length<=n:=by
 have hsh:WShape.hasAll [] args [.list .int]=true:=(pre_splitW hpre).1;have hc:l.pre.holds [] { args:=args }=true:=(pre_splitW hpre).2;obtain⟨d,r,rfl,h1,h2⟩:=hasAllW_cons hsh;obtain rfl:=hasAllW_nil h2;obtain⟨xs,rfl,h3⟩:=hasW_list h1;obtain⟨ns,rfl⟩:=items_int h3;have hlen:ns.length<=n:=by
  unfold OpenLaw.pre at hc;have h4:(WTm.not (.lt (.lit (.int (n:Int))) (.len (.arg 0)))).holds [] { args:=[.list (ns.map .int)] }=true:=by have h4:=(holds_andW hc).1;rw [hn] at h4;exact h4
  have h5:=condW_of h4 (w_not (w_lt w_lit (w_len_list (w_arg rfl))));rw [Iu] at h5;refine Nat.le_of_not_lt λq=>?_;have q':(n:Int)<((ns.length:Nat):Int):=by lia
  first
   | (rw [decide_eq_true q'] at h5;exact absurd h5 (by decide))
   | (simp at h5;lia)
 cases hwl with
 | cons w1 w2 =>
  cases w2;cases w1 with
  | list ho hall=>exact⟨_,_,ns,rfl,rfl,ho,kH ns _ hall,hlen⟩
theorem wW (l:P1) (args:List WData):l.row.toRowW.claim.post args (.bool true) args=true :=
 postW_of (r:=l.row.toRowW) (X:=(true==true))
  (show WShape.has [] (.bool true) .bool=true by first | rfl | decide | simp [WShape.has,WShape.arms,WShape.armsAll])
  (show (WTm.eq .res (.lit (.bool true))).value [] { args:=args,res:=Io (.bool true),after:=args }=Io (.bool (true==true)) from w_eq_bool (w_res rfl) w_lit) rfl
theorem qB {l:P1} {n:Nat} {q:IM} {loose:List Jb} {XP:(Jb->Option Ir)->JD->Prop} {YP:Jo->JD->Prop} {d:DefRec}
  (hn:l.most=Io n) (hdf:d.params.defaults=[])
  (call:∀(w:Jo) (s₀ s₁:Iz) (mg mb:Jb->Option Ir) (fa:Iy) (o:K9) (pm cd doc:Ir) (a:Iy) (vs:List Ir) (ns:List Int),
   Ground q loose [] XP w s₀ mg mb s₁.heap->YP w s₁.heap ->
   s₁.heap.get? fa=Io o->o.data=.func (docDef d.name d.params d.body d.scope pm cd doc)->s₁.heap.CodeRec cd d.name->mg d.name=Io (.ref fa) ->
   s₁.heap.get? a=Io { cls:=.type "list",data:=.seq vs.toArray }->NJ vs ns->ns.length<=n->s₁.gens=#[] ->
   codeAny (model l.prog w) callerA (.call (.ref fa) ⟨[.ref a],[]⟩) (λr s'=>r=.ok (.ret (.bool true))/\OldK s₁.heap s'.heap/\s'.os=s₁.os/\Oa s'.gens) s₁) :
  Td q loose XP YP l.row.toRowW d [] (λf vs=>Tj f vs):=by
 intro w s₀ s₁ mg mb G Y fa o pm cd doc dV kV ho hd hcd hD hmg hg args vals as hpre hlay hrd hwl hlo;obtain rfl:dV=.none:=Dflts.none hD hdf;obtain rfl:kV=.none:=Dflts.noKw hD;obtain⟨a,vs,ns,rfl,rfl,hobj,hints,hlen⟩:=xb hn hpre hwl;refine enter_call (Lf (call w s₀ s₁ mg mb fa o pm cd doc a vs ns G Y ho (fd_plain hd) hcd hmg hobj hints hlen hg) λr s' hq=>?_);obtain⟨rfl,h2,h3,h4⟩:=hq;exact⟨.inl ⟨.bool true,.bool true,[],rfl,λ_=>rfl,.bool true,wW l _,λ_=>⟨NK,λ_ hm=>(nomatch hm)⟩⟩,h2,h3,h4⟩
section
variable {prog:IM} {w:Jo} {A:Jr} {E:Ir->Iz->Prop} {s:Iz} {K:Iq}
end
end Att
namespace L2
open PySem PySem.Spec PyProof.Rows
theorem oH:∀{vs:List Ir} {ns:List Int},NJ vs ns->Vals (ns.map V.int) vs
 | _,_,.nil=>.nil
 | _,_,.cons n t h=>.cons ⟨t,rfl⟩ (oH h)
def AN (H:Hp):Prop:=∀ b,H b=none∨∃ o xs,H b=Io (.frz o (.lst xs))
theorem yA {P:IM} {w:Jo} {K:Iq} {mg mb:Jb->Option Ir} {CX:kM} {k:Nat} {fa a:Iy} {fd:KW} {x:Jb} {sp:Sp} {s₁:Iz} {vs:List Ir} {ns:List Int}
  (KX:K.In s₁.heap) (hns:s₁.heap.Ns mainGlobals mg) (hb:s₁.heap.Ns builtinsNs mb) (hbb:∀ x:Jb,x ≠ "__name__"->mb x=bootBuiltins x) (hlim:s₁.heap.NoLimit) (hg:s₁.gens=#[])
  (ha:s₁.heap.get? a=Io { cls:=.type "list",data:=.seq vs.toArray }) (hi:NJ vs ns) (hl:ns.length<=sizeLine) (hr:bW k callerA)
  (F:∀ base:JD,K.In base->base.Ns mainGlobals mg->cY P w K mg base CX k fa fd [x] sp) (hbind:∀(s:Iz) (u:Ir),RM s fd ⟨[u],[]⟩ [(x,u)])
  (hsp:∀ H:Hp,AN H->aJ K H a (ns.map V.int)->sp [.ref a] H (λv _=>v=.bl true) λ_ _ _=>False)
  (hCX:∀ H e s',CX [] H s₁ (λ_ _ _=>False) e s'->False) :
  codeAny (model P w) callerA (.call (.ref fa) ⟨[.ref a],[]⟩) (λr s'=>r=.ok (.ret (.bool true))/\OldK s₁.heap s'.heap/\s'.os=s₁.os/\Oa s'.gens) s₁:=by
 have rv:=oH hi;have lenV:=hi.length
 -- from an abstract heap in AF nothing but the script may be tracked
 have core:∀ H:Hp,AN H->aJ K H a (ns.map V.int)->gf P w H s₁.heap->(∀ b,H b≠none->b=a)->(H a≠none->K.lookup a=none) ->
   codeAny (model P w) callerA (.call (.ref fa) ⟨[.ref a],[]⟩) (λr s'=>r=.ok (.ret (.bool true))/\OldK s₁.heap s'.heap/\s'.os=s₁.os/\Oa s'.gens) s₁:=by
  intro H hO hS hok hA hK;have base_of:∀{b:Iy} {o:K9},s₁.heap.get? b=Io o->H b=none->(oZ s₁.heap H).get? b=Io o:=λe n=>yp e n;have noA:∀{b:Iy} {o:K9} {es:Array OI} {ep:Nat},s₁.heap.get? b=Io o->o.data=.dict es ep->H b=none:=λ{b o es ep} e d=>by
   cases q:H b with
   | none=>rfl
   | some u =>have e':b=a:=hA b (by rw [q];simp);subst e';rw [ha] at e;cases e;have d':Data.seq vs.toArray _=Data.dict es ep:=d;cases d'
  have nsK:∀{b:Iy} {m:Jb->Option Ir},s₁.heap.Ns b m->(oZ s₁.heap H).Ns b m:=λ{b m} ⟨o,es,ep,e,d,r⟩=>⟨o,es,ep,base_of e (noA e d),d,r⟩
  have hKb:K.In (oZ s₁.heap H):=λb o e=>base_of (KX b o e) (by
   cases q:H b with
   | none=>rfl
   | some u =>
    have e':b=a:=hA b (by rw [q];simp);subst e';rw [hK (by rw [q];simp)] at e;cases e)
  have hM:Mod K mg (oZ s₁.heap H):=⟨hKb,nsK hns,⟨mb,nsK hb,hbb⟩,let ⟨mc,h1,h2⟩:=hlim;⟨mc,nsK h1,h2⟩⟩
  have e0:sH P w K mg (oZ s₁.heap H) callerA [] s₁ H:=⟨rfl,hM,λb o e=>By e,ND (v8 _ _),trivial,λb hb=>absurd (show b∈([]:List Iy) from hb) (by simp),hok,.of_eq hg⟩
  refine Lf ((F _ hKb (nsK hns)).run callerA [] s₁ H ⟨[.ref a],[]⟩ [.ref a] [.ref a] _ _ hr e0 (hbind s₁ (.ref a)) (.cons rfl .nil) (hsp H hO hS)) λr s' h=>?_;cases r with
  | error e=>exact (hCX H e s' h).elim
  | ok fl =>
   cases fl with
   | next=>exact Kk h
   | brk=>exact Kk h
   | cont=>exact Kk h
   | ret u =>
    obtain⟨v,H',os,bare,un,hok',r',q⟩:=h;have q':v=.bl true:=q;subst q';obtain rfl:u=Mg true:=r';refine⟨rfl,OldK.of_keep λb o e=>?_,os,bare⟩;cases q:H b with
    | none=>exact un.keep b o e q (by intro z;exact absurd (show b∈([]:List Iy) from z) (by simp)) (by simp)
    | some u =>
     rcases hO b with z | ⟨ob,xs,z⟩
     ·rw [q] at z;cases z
     ·have z2:=un.frzs b ob _ z;obtain⟨e1,_⟩:=hok b _ z;obtain⟨e2,_⟩:=hok' b _ z2;rw [e] at e1;cases e1;exact e2
 cases hk:K.lookup a with
 | some o =>
  -- the script is one of the module's own objects
  have e:=KX a o hk;rw [ha] at e;cases e;refine core (λ_=>none) (λ_=>.inl rfl) (.inr ⟨_,vs.toArray,_,hk,rfl,rfl,rfl,by rw [IP,lenV];exact hl,by simpa using rv⟩) (λb u z=>by have z':(none:Option HO)=Io u:=z;cases z') (λb z=>absurd rfl z) λz=>absurd rfl z
 | none =>
  refine core (λb=>if b=a then Io (.frz { cls:=.type "list",data:=.seq vs.toArray } (.lst (ns.map V.int))) else none) (λb=>?_) (.inl (.inr ⟨{ cls:=.type "list",data:=.seq vs.toArray },if_pos rfl⟩)) (λb u z=>?_) (λb z=>?_) λ_=>hk
  ·by_cases hb:b=a
   ·exact .inr ⟨_,_,if_pos hb⟩
   ·exact .inl (if_neg hb)
  ·by_cases hb:b=a
   ·have z':=(if_pos hb).symm.trans z;cases z';subst hb;exact⟨ha,by rw [Iu];exact hl,vs,_,rv,ha⟩
   ·have z':=(if_neg hb).symm.trans z;cases z'
  ·by_cases hb:b=a
   ·exact hb
   ·exact absurd (if_neg hb) z
abbrev dh {K:Iq} {h:JD} (_:K.In h):Iq:=K
theorem vK {l:P1} {n k:Nat} {q:IM} {loose:List Jb} {XP:(Jb->Option Ir)->JD->Prop} {YP:Jo->JD->Prop} {d:DefRec} {K:Vl->Iq} {CX:Jo->kM} {sp:Jo->Sp} {x:Jb}
  (hn:l.most=Io n) (hn2:n<=sizeLine) (hdf:d.params.defaults=[]) (hr:bW k callerA)
  (hY:∀(w:Jo) (h:JD),YP w h->(K w.params).In h)
  (F:∀(w:Jo) (mg:Jb->Option Ir) (fa:Iy) (h:JD),(K w.params).In h->h.Ns mainGlobals mg->mg d.name=Io (.ref fa) ->
   ∃ fd:KW,(∀(s:Iz) (u:Ir),RM s fd ⟨[u],[]⟩ [(x,u)]) /\
    ∀ base:JD,(K w.params).In base->base.Ns mainGlobals mg->cY l.prog w (K w.params) mg base (CX w) k fa fd [x] (sp w))
  (hsp:∀(w:Jo) (H:Hp) (a:Iy) (ns:List Int),ns.length<=n->AN H->aJ (K w.params) H a (ns.map V.int)->sp w [.ref a] H (λv _=>v=.bl true) λ_ _ _=>False)
  (hCX:∀(w:Jo) (H:Hp) (s:Iz) (e:Ir) (s':Iz),CX w [] H s (λ_ _ _=>False) e s'->False) :
  Td q loose XP YP l.row.toRowW d [] (λf vs=>Tj f vs):=by
 refine Att.qB hn hdf λw s₀ s₁ mg mb fa o pm cd doc a vs ns G Y ho hd hcd hmg hobj hints hlen hg=>?_;have KX:=hY w _ Y;obtain⟨fd,hb,hF⟩:=F w mg fa _ KX G.T.g hmg;exact yA KX G.T.g G.T.b G.T.builtins G.T.nolimit hg hobj hints (IJ hlen hn2) hr hF hb (λH hO hS=>hsp w H a ns hlen hO hS) λH e s'=>hCX w H s₁ e s'
theorem AE {l:P1} {n k:Nat} {q:IM} {loose:List Jb} {XP:(Jb->Option Ir)->JD->Prop} {YP:Jo->JD->Prop} {d:DefRec} {K:Vl->Iq} {CX:kM} {sp:Iq->Sp} {x:Jb}
  (hn:l.most=Io n) (hn2:n<=sizeLine) (hdf:d.params.defaults=[]) (hr:bW k callerA)
  (hY:∀(w:Jo) (h:JD),YP w h->(K w.params).In h)
  (F:∀(w:Jo) (mg:Jb->Option Ir) (fa:Iy) (h:JD),(K w.params).In h->h.Ns mainGlobals mg->mg d.name=Io (.ref fa) ->
   ∃ fd:KW,(∀(s:Iz) (u:Ir),RM s fd ⟨[u],[]⟩ [(x,u)]) /\
    ∀ base:JD,(K w.params).In base->base.Ns mainGlobals mg->cY l.prog w (K w.params) mg base CX k fa fd [x] (sp (K w.params)))
  (hsp:∀(K:Iq) (H:Hp) (a:Iy) (ns:List Int),ns.length<=n->AN H->aJ K H a (ns.map V.int)->sp K [.ref a] H (λv _=>v=.bl true) λ_ _ _=>False)
  (hCX:∀(H:Hp) (s:Iz) (e:Ir) (s':Iz),CX [] H s (λ_ _ _=>False) e s'->False) :
  Td q loose XP YP l.row.toRowW d [] (λf vs=>Tj f vs) :=
 vK (K:=K) (CX:=λ_=>CX) (sp:=λw=>sp (K w.params)) hn hn2 hdf hr hY F (λw H a ns h1 h2 h3=>hsp (K w.params) H a ns h1 h2 h3) λ_ H s e s'=>hCX H s e s'
end L2
/- THE LAST THEOREM (shape;LID,My.* are yours):
   My.Adr: a structure of the addresses that your layer names (classes,functions);My.Txt K t: a structure (Prop) of the equations over K;
   My.txt_mk:{K} {implicit addresses ..} (e1:nsIn K mainGlobals "law"=Io (Io (.ref f))) (e2:K.lookup f=Io ⟨oc,od,.func (fnOf "law" "law" params body scope dV kV doc pm an cdv ct),sl⟩) (e3:codeIn K cdv "law"=true) ..:∃ t,My.Txt K t
set_option maxRecDepth 100000 in
set_option maxHeartbeats 0 in
theorem PySem.Challenge.cw_LID_holds : PySem.Challenge.rw_LID.Holds := by
 w_on;o_law;k_head;(case hw=>w_witness2)
 k_fill
 refine L2.vK (l:=PySem.Challenge.rw_LID) (n:=63) (k:=40) (x := "script") (CX:=λw=>..) (sp:=λ_=>My.sp_law) rfl (by decide) rfl ⟨rfl,by decide,by decide⟩ (λw h Y=>Tn Y) ?F ?S ?C
 case F =>
  intro w mg fa h KX G hmg;have T:∃ t,My.Txt (L2.dh KX) t:=by
   dsimp only [L2.dh]                          -- K must stand as «<heap const> w.params» for k_is
   refine' My.txt_mk ?e1 ?e2 ?e3 ..
   (case e1=>PySem.W.k_is)                    -- in the order: a name -> its address -> its object -> its parts
   (case e2=>PySem.W.k_is)
   ..
  obtain⟨t,T⟩:=T;have e0:=hmg.symm.trans (KZ KX G T.law);cases e0                                       -- fa is the law's own address;exact⟨_,λs u=>.of_eq rfl,λbase kb nb=>My.law_fn T kb nb⟩     -- if «.of_eq rfl» comes too early: refine' ⟨_,?b,λbase kb nb=>My.law_fn T kb nb⟩;exact λs u=>.of_eq rfl
 case S=>exact λw H a ns hl hO hS=>..
 case C=>exact ..
(the tactic k_is has no namespace: write k_is) -/
namespace L2
open PySem PySem.Spec PyProof.Rows
noncomputable def inClass (s:MH) (j:Nat):MH:=match s with
 | .ClassDef _ _ _ body _ _ _ _ _ _ _=>body.getD j (.Pass ⟨0,0,0,0⟩)
 | _=>.Pass ⟨0,0,0,0⟩
def bo (s:MH):Arguments:=match s with
 | .FunctionDef _ a _ _ _ _ _ _ _ _=>a
 | _=>{ posonlyargs:=[],args:=[],vararg:=none,kwonlyargs:=[],kw_defaults:=[],kwarg:=none,defaults:=[] }
def aL (s:MH):List MH:=match s with
 | .FunctionDef _ _ b _ _ _ _ _ _ _=>b
 | _=>[]
def ak (s:MH):La:=match s with
 | .FunctionDef _ _ _ _ _ _ sc _ _ _=>sc
 | _=>{ kind:=.function,names:=[],isGenerator:=false,isCoroutine:=false }
abbrev aQ:kM:=λ_ _ _ _ _ _=>False
abbrev E0:XK:=λ_ _ _=>False
theorem aB {X:Cx}:Passes aQ X E0:=λ_ _ _ _ _ _ _ h=>h.elim
structure xB (K:Iq) (x qual:Jb) (st:MH) (f:Iy) (fd:KW):Prop where
 ex:∃(oc:Ir) (od:Option Iy) (kV doc pm:Ir) (an:Option Iy) (cdv ct:Ir) (osl:Array (Option Ir)),
  fd=KG x qual (bo st) (aL st) (ak st) .none kV doc pm an cdv ct/\K.lookup f=Io ⟨oc,od,.func fd,osl⟩/\NG K cdv qual=true
 kp:LU K (.ref f)=true
section
variable {P:IM} {w:Jo} {K:Iq} {mg:Jb->Option Ir} {base:JD}
theorem xB.ok {x qual:Jb} {st:MH} {f:Iy} {fd:KW} {N ps:List Jb} {k:Nat} {sp:Sp} (F:xB K x qual st f fd) (S:aw N ps (ak st)) (len:∀ vs H Q E,sp vs H Q E->vs.length=ps.length)
  (J':∀(cdv:Ir) (A:Jr) (outer:List NS) (s:Iz) (H:Hp) (vs:List V) (Q:VK) (E:XK),bW k (A.deeper (envOfC qual (ak st) s.heap.objs.size f cdv))->sp vs H Q E ->
   ∃ t,iG (dy aQ P w K mg base N qual (ak st) f cdv A outer s H E).lY (aL st) t/\t { nx:=λ_ H'=>Q .non H',rt:=Q } (start N vs) H):cY P w K mg base aQ (k+1) f fd ps sp:=by
 obtain⟨oc,od,kV,doc,pm,an,cdv,ct,osl,rfl,lk,hcd⟩:=F.ex;refine ye lk hcd S len λA outer s H vs Q E hr hsp=>?_;obtain⟨t,h,q⟩:=J' cdv A outer s H vs Q E hr hsp;exact⟨t,h.lY,q⟩
theorem xB.binds {x qual:Jb} {st:MH} {f:Iy} {fd:KW} {ps:List Jb} (F:xB K x qual st f fd)
  (h:∀(kV doc pm:Ir) (an:Option Iy) (cdv ct:Ir) (us:List Ir),us.length=ps.length->bindArgs (KG x qual (bo st) (aL st) (ak st) .none kV doc pm an cdv ct) ⟨us,[]⟩=pure (ps.zip us)):Binds K fd ps []:=by
 obtain⟨oc,od,kV,doc,pm,an,cdv,ct,osl,rfl,lk,hcd⟩:=F.ex;exact .all (h kV doc pm an cdv ct)
theorem tI {x qual:Jb} {st:MH} {f:Iy} {oc:Ir} {od an:Option Iy} {osl:Array (Option Ir)} {kV doc pm cdv ct:Ir} (l:K.lookup f=Io ⟨oc,od,.func (KG x qual (bo st) (aL st) (ak st) .none kV doc pm an cdv ct),osl⟩)
  (c:NG K cdv qual=true) (k:LU K (.ref f)=true):xB K x qual st f (KG x qual (bo st) (aL st) (ak st) .none kV doc pm an cdv ct):=⟨⟨oc,od,kV,doc,pm,an,cdv,ct,osl,rfl,l,c⟩,k⟩
end
theorem bT {A:Jr} {k:Nat} (hr:bW k A):A.units+1<cLine:=J3 (Nat.add_le_add_left (by decide:1<=64) _) hr.units
theorem ou {n:Nat} (h:n<=1000):n<sizeLine:=J3 h (by decide)
section
variable {X:Cx}
theorem pv (i:Nat) {x:Jb} {pos:Mn} (hN:X.N[i]?=Io x:=by rfl) (hv:Fb X.env.scope x:=by first | exact Jf rfl | exact N6 (Jf rfl) | exact N6 (N6 rfl)) (hd:(x==("__debug__":Jb))=false:=by decide)
  (hcd:(x==("__classdict__":Jb))=false:=by decide):PE X (.Name x pos) (uv i):=ue hN hv hd hcd
end
theorem aZ {c A B:Prop} [Decidable c] (h1:c->A) (h2:¬c->B):if c then A else B:=by
 by_cases h:c
 ·rw [if_pos h];exact h1 h
 ·rw [if_neg h];exact h2 h
def av (H H':Hp):Prop:=∀ b o,H b=Io o->H' b=Io o
theorem av.refl (H:Hp):av H H:=λ_ _ h=>h
theorem av.trans {H H1 H2:Hp} (a:av H H1) (b:av H1 H2):av H H2:=λc o h=>b c o (a c o h)
theorem av.free {H H':Hp} (e:av H H') {l:Iy} (h:H' l=U2):H l=U2:=by
 cases q:H l with
 | none=>rfl
 | some o =>rw [e l o q] at h;cases h
end L2
set_option maxHeartbeats 1000000
namespace L2
open PySem PySem.Spec PyProof.Rows
theorem iZ {Ex:Ir->Iz->Prop} {prog:IM} {w:Jo} {A:Jr} {R:QH->Iz->Prop} {s:Iz} {elt target:JH} {gens:List Rh} {scope:La} {pos ps:Mn} {ifs:List JH} {d:Nat} {B:TZ Unit} {it acc:Ir} {env:NS} (I:Nat->Iz->Prop)
  (ht:compTurn (.ListComp elt gens scope pos) d it acc env=(do
   standAt ps
   match <- pyNext it with
   | none=>pure (.done .next)
   | some v =>
    letOwnedTupleGo target it v
    assign target env v
    let mut ok:=true
    for c in ifs do
     if ok then ok <- isTrue c env (eval c env)
    if ok then B
    again (.compLoop (.ListComp elt gens scope pos) d it acc env)))
  (turn:∀ n s,I n s->wpAny (model prog w) A (pyNext it) (λr s₁=>match r with
   | none=>R (.ok .next) s₁
   | some v=>wpAny (model prog w) A (letOwnedTupleGo target it v) (λ_ s₁'=>wpAny (model prog w) A (assign target env v) (λ_ s₂ =>
     wpAny (model prog w) A (forIn ifs true λc r=>if r=true then do let ok <- isTrue c env (eval c env);pure (LH ok) else pure (LH r)) (λok s₃ =>
      if ok=true then wpAny (model prog w) A B (λ_ s₅=>∃ m,m<n/\I m s₅) Ex s₃
      else ∃ m,m<n/\I m s₃) Ex s₂) Ex s₁') Ex s₁) Ex s)
  (n:Nat) (h:I n s) (hE:∀ e s',Ex e s'->notedBy (model prog w) A env (λe s''=>R (.error e) s'') e s') :
  codeAny (model prog w) A (.compLoop (.ListComp elt gens scope pos) d it acc env) R s:=by
 refine codeAny_loop rfl I (λn s hI=>?_) n h;show wpAny _ A ((compTurn (.ListComp elt gens scope pos) d it acc env).onRaise (λx=>do noteFrame x env;theTreesLotGoes x)) _ _ s;refine wpAny_noted ?_;rw [ht];refine Ip (Lb (Ip (Kc (turn n s hI) (λr s₁ h₁=>?_) λ_ _ h'=>hE _ _ h')));cases r with
 | none=>exact IA h₁
 | some v =>
  refine Ip (Kc h₁ (λ_ s₁' h₁'=>?_) λ_ _ h'=>hE _ _ h');refine Ip (Kc h₁' (λ_ s₂ h₂=>Ip (Kc h₂ (λok s₃ h₃=>?_) λ_ _ h'=>hE _ _ h')) λ_ _ h'=>hE _ _ h');cases ok with
  | false=>exact IA ⟨rfl,h₃⟩
  | true=>exact Ip (Kc h₃ (λ_ s₅ h₅=>IA ⟨rfl,h₅⟩) λ_ _ h'=>hE _ _ h')
noncomputable def qE (elt:JH) (acc:Ir) (env:NS):TZ Unit:=do let _ <- call (.builtin "list.append") [acc,<- eval elt env]
theorem Ay (elt target iter:JH) (ifs:List JH) (scope:La) (pos:Mn) (it acc:Ir) (env:NS) :
  compTurn (.ListComp elt [⟨target,iter,ifs,0⟩] scope pos) 0 it acc env=(do
   standAt iter.pos
   match <- pyNext it with
   | none=>pure (.done .next)
   | some v =>
    letOwnedTupleGo target it v
    assign target env v
    let mut ok:=true
    for c in ifs do
     if ok then ok <- isTrue c env (eval c env)
    if ok then qE elt acc env
    again (.compLoop (.ListComp elt [⟨target,iter,ifs,0⟩] scope pos) 0 it acc env)):=by rfl
theorem Cq (elt t1 i1 t2 i2:JH) (f1 f2:List JH) (scope:La) (pos:Mn) (it acc:Ir) (env:NS) :
  compTurn (.ListComp elt [⟨t1,i1,f1,0⟩,⟨t2,i2,f2,0⟩] scope pos) 1 it acc env=(do
   standAt i2.pos
   match <- pyNext it with
   | none=>pure (.done .next)
   | some v =>
    letOwnedTupleGo t2 it v
    assign t2 env v
    let mut ok:=true
    for c in f2 do
     if ok then ok <- isTrue c env (eval c env)
    if ok then qE elt acc env
    again (.compLoop (.ListComp elt [⟨t1,i1,f1,0⟩,⟨t2,i2,f2,0⟩] scope pos) 1 it acc env)):=by rfl
theorem Az (elt t1 i1 t2 i2:JH) (f1 f2:List JH) (scope:La) (pos:Mn) (it acc:Ir) (env:NS) :
  compTurn (.ListComp elt [⟨t1,i1,f1,0⟩,⟨t2,i2,f2,0⟩] scope pos) 0 it acc env=(do
   standAt i1.pos
   match <- pyNext it with
   | none=>pure (.done .next)
   | some v =>
    letOwnedTupleGo t1 it v
    assign t1 env v
    let mut ok:=true
    for c in f1 do
     if ok then ok <- isTrue c env (eval c env)
    if ok then
     let x <- eval i2 env
     standAt i2.pos
     let x <- foldedSetIterable i2 env x
     let _ <- runOwn (.compStart (.ListComp elt [⟨t1,i1,f1,0⟩,⟨t2,i2,f2,0⟩] scope pos) 1 (<- holding [x] (pyIter x)) acc env) env
    again (.compLoop (.ListComp elt [⟨t1,i1,f1,0⟩,⟨t2,i2,f2,0⟩] scope pos) 0 it acc env)):=by rfl
theorem oP {Ex:Ir->Iz->Prop} {prog:IM} {w:Jo} {A:Jr} {R:QH->Iz->Prop} {s:Iz} {elt t1 i1 t2 i2:JH} {f1 f2:List JH} {scope:La} {pos:Mn} {it acc:Ir} {env:NS} (I:Nat->Iz->Prop) (hs:∀ x,foldedSetIterable i2 env x=pure x)
  (turn:∀ n s,I n s->wpAny (model prog w) A (pyNext it) (λr s₁=>match r with
   | none=>R (.ok .next) s₁
   | some v=>wpAny (model prog w) A (letOwnedTupleGo t1 it v) (λ_ s₁'=>wpAny (model prog w) A (assign t1 env v) (λ_ s₂ =>
     wpAny (model prog w) A (forIn f1 true λc r=>if r=true then do let ok <- isTrue c env (eval c env);pure (LH ok) else pure (LH r)) (λok s₃ =>
      if ok=true then wpAny (model prog w) A (eval i2 env) (λx s₄=>wpAny (model prog w) A (pyIter x) (λit2 s₅ =>
       codeAny (model prog w) A (.compStart (.ListComp elt [⟨t1,i1,f1,0⟩,⟨t2,i2,f2,0⟩] scope pos) 1 it2 acc env) (λr s₆=>match r with | .ok _=>∃ m,m<n/\I m s₆ | .error _=>False) s₅) Ex s₄) Ex s₃
      else ∃ m,m<n/\I m s₃) Ex s₂) Ex s₁') Ex s₁) Ex s)
  (n:Nat) (h:I n s) (hE:∀ e s',Ex e s'->notedBy (model prog w) A env (λe s''=>R (.error e) s'') e s'):codeAny (model prog w) A (.compLoop (.ListComp elt [⟨t1,i1,f1,0⟩,⟨t2,i2,f2,0⟩] scope pos) 0 it acc env) R s:=by
 refine codeAny_loop rfl I (λn s hI=>?_) n h;show wpAny _ A ((compTurn (.ListComp elt [⟨t1,i1,f1,0⟩,⟨t2,i2,f2,0⟩] scope pos) 0 it acc env).onRaise (λx=>do noteFrame x env;theTreesLotGoes x)) _ _ s;refine wpAny_noted ?_;rw [Az];refine Ip (Lb (Ip (Kc (turn n s hI) (λr s₁ h₁=>?_) λ_ _ h'=>hE _ _ h')));cases r with
 | none=>exact IA h₁
 | some v =>
  refine Ip (Kc h₁ (λ_ s₁' h₁'=>?_) λ_ _ h'=>hE _ _ h');refine Ip (Kc h₁' (λ_ s₂ h₂=>Ip (Kc h₂ (λok s₃ h₃=>?_) λ_ _ h'=>hE _ _ h')) λ_ _ h'=>hE _ _ h');cases ok with
  | false=>exact IA ⟨rfl,h₃⟩
  | true =>
   refine Ip (Kc h₃ (λx s₄ h₄=>?_) λ_ _ h'=>hE _ _ h');refine Ip (Lb (Ip (Pk (hs x) (Ip (Kl (Kc h₄ (λit2 s₅ h₅=>?_) λ_ _ h'=>hE _ _ h'))))));refine Ip (wpAny_runOwn (Lf h₅ λr s₆ h₆=>?_));cases r with
   | ok f=>exact IA ⟨rfl,h₆⟩
   | error e=>exact h₆.elim
theorem Ai {prog:IM} {w:Jo} {A:Jr} {R:QH->Iz->Prop} {s:Iz} {elt t1 i1 t2 i2:JH} {f1 f2:List JH} {scope:La} {pos:Mn} {it acc:Ir} {env:NS}
  (h0:codeAny (model prog w) A (.compLoop (.ListComp elt [⟨t1,i1,f1,0⟩,⟨t2,i2,f2,0⟩] scope pos) 1 it acc env) R s)
  (h:wpAny (model prog w) A (pyIter it) (λit' s'=>codeAny (model prog w) A (.compLoop (.ListComp elt [⟨t1,i1,f1,0⟩,⟨t2,i2,f2,0⟩] scope pos) 1 it' acc env) R s')
   (notedBy (model prog w) A env λx s'=>R (.error x) s') s) :
  codeAny (model prog w) A (.compStart (.ListComp elt [⟨t1,i1,f1,0⟩,⟨t2,i2,f2,0⟩] scope pos) 1 it acc env) R s:=by
 refine Ou ?_;show wpAny _ _ ((compStart (.ListComp elt [⟨t1,i1,f1,0⟩,⟨t2,i2,f2,0⟩] scope pos) 1 it acc env).onRaise (λx=>do noteFrame x env;standAt theWindowsPlace)) _ _ s;refine wpAny_notedAt ?_;unfold compStart;show wpAny _ _ (ask >>= _) _ _ s;refine Ip (N7 (wpAny_ite ?_));split
 ·first
   | exact Ip (IA (IA (And.intro rfl h0)))
   | exact IA (And.intro rfl h0)
 ·first
   | exact Ip (Nu (Ip (Lb (Ip (Kc h (λit' s' h'=>IA (And.intro rfl h')) λ_ _ x=>x)))))
   | (refine Ip (Nu ?_);show wpAny _ _ (standAt i2.pos >>= _) _ _ s;exact Ip (Lb (Ip (Kc h (λit' s' h'=>IA (And.intro rfl h')) λ_ _ x=>x))))
noncomputable def bK (X:Cx) (Ex:Ir->Iz->Prop) (N':List Jb) (scope:La) (cl:List (Jb × Iy)) (C:Iy) (s₂:Iz) (H₂:Hp) (fp:List Iy):Cx :=
 { X with N:=N',s₀:=s₂,H₀:=H₂,env:=compEnvC scope (cellsFrom (C+1) scope.names cl) C X.env,outer:=X.stack,stack:=X.stack,ex:=fp,fn:=λx=>scope.names.lookup x==Io .cell,pn:=[],xe:=Ex }
abbrev c6 (X:Cx):=bK X λ_ _=>False
def AllIn (env:NS):List (Jb × Iy)->Prop
 | []=>True
 | p::r=>env.cells.lookup p.1=Io p.2/\AllIn env r
theorem AllIn.get {env:NS}:∀{l:List (Jb × Iy)},AllIn env l->∀ y c,l.lookup y=Io c->env.cells.lookup y=Io c
 | [],_,_,_,h=>by simp at h
 | (z,d)::r,a,y,c,h=>by
  rw [KL] at h;cases e:y==z with
  | true =>
   rw [e] at h;have q:y=z:=by simpa using e
   subst q;cases h;exact a.1
  | false =>rw [e] at h;exact AllIn.get a.2 y c h
noncomputable def cH (js:List (Option Nat)) (σ:St):St:=js.map λo=>match o with | none=>none | some j=>(σ[j]?).join
structure fI (X:Cx) (N':List Jb) (js:List (Option Nat)) (scope:La) (cl:List (Jb × Iy)):Prop where
 clos:closureFor scope X.env=pure cl
 kind:scope.kind=.function
 nocell:∀ y∈scope.names,y.2=.cell->scope.names.lookup y.1=Io .cell/\∀ p∈js.zip N',p.1.isSome=true->p.2≠y.1
 names:∀ y∈scope.names,y.2=.local->scope.names.lookup y.1=Io .local
 sub:AllIn X.env cl
 has:∀ y∈scope.names,y.2=.free->(cl.lookup y.1).isSome=true
 jlen:js.length=N'.length
 jok:∀(i j:Nat) x,js[i]?=Io (Io j)->N'[i]?=Io x->X.N[j]?=Io x/\(cl.lookup x).isSome=true/\Fb X.env.scope x/\X.env.kindOf x≠Io .local/\((relabel scope X.env).names.lookup x=Io .cell∨(relabel scope X.env).names.lookup x=Io .free)
theorem kh {scope:La} {env:NS} {x:Jb} {k:MV} (h:(relabel scope env).names.lookup x=Io k) (hk:k=.cell∨k=.free):∃ y∈scope.names,y.1=x/\(y.2=.free∨y.2=.cell):=by
 have hm:=LK h;obtain⟨⟨n,q⟩,hm',e⟩:=IV.mp hm;dsimp only at e;split at e
 ·rename_i hc;have e1:n=x:=congrArg Prod.fst e;refine⟨(n,q),hm',e1,.inl ?_⟩;have:(q==NameKind.free)=true:=by simp only [M6] at hc;exact hc.1.1
  simpa using this
 ·have e1:n=x:=congrArg Prod.fst e;have e2:q=k:=congrArg Prod.snd e;refine⟨(n,q),hm',e1,?_⟩;rcases hk with hk | hk
  ·exact .inr (e2.trans hk)
  ·exact .inl (e2.trans hk)
theorem iY {x:Jb} {c:Iy}:∀(ns:List (Jb × MV)) (n:Nat) (acc:List (Jb × Iy)),(cellsFrom n ns acc).lookup x=Io c->acc.lookup x=Io c∨n<=c
 | [],_,_,h=>.inl h
 | (y,k)::r,n,acc,h=>by
  unfold cellsFrom at h;split at h
  ·rcases iY r _ _ h with z | z
   ·rw [KL] at z;split at z
    ·cases z;exact .inr (IF _)
    ·exact .inl z
   ·exact .inr (L7 z)
  ·exact iY r _ _ h
theorem sW {x:Jb} {c:Iy}:∀(ns:List (Jb × MV)) (n:Nat) (acc:List (Jb × Iy)),ns.lookup x=Io .cell->(cellsFrom n ns acc).lookup x=Io c->n<=c
 | [],_,_,h,_=>by cases h
 | (y,k)::r,n,acc,h,e=>by
  rw [KL] at h;unfold cellsFrom at e;split at h
  ·rename_i hy;cases h;rcases iY r _ _ e with z | z
   ·rw [KL,hy] at z;cases z;exact IF _
   ·exact L7 z
  ·split at e
   ·exact L7 (sW r _ _ h e)
   ·exact sW r _ _ h e
theorem oO {x:Jb}:∀(ns:List (Jb × MV)) (n:Nat) (acc:List (Jb × Iy)),(∀ y∈ns,y.2=.cell->x≠y.1)->(cellsFrom n ns acc).lookup x=acc.lookup x
 | [],_,_,_=>rfl
 | (y,k)::r,n,acc,h=>by
  unfold cellsFrom;split
  ·rename_i hk;rw [oO r _ _ λz hz=>h z (IG _ hz),KL];have:(x==y)=false:=by simpa using h (y,k) IH (by simpa using hk)
   rw [this]
  ·exact oO r _ _ λz hz=>h z (IG _ hz)
theorem sV:∀(ns:List (Jb × MV)) (n:Nat) (acc:List (Jb × Iy)),(∀ x c,acc.lookup x=Io c->c<n)->(∀ x y c,acc.lookup x=Io c->acc.lookup y=Io c->x=y) ->
  ∀ x y c,(cellsFrom n ns acc).lookup x=Io c->(cellsFrom n ns acc).lookup y=Io c->x=y
 | [],_,_,_,h=>h
 | (z,k)::r,n,acc,hl,hi=>by
  unfold cellsFrom;split
  ·refine sV r _ _ (λx c e=>?_) λx y c e1 e2=>?_
   ·rw [KL] at e;split at e
    ·cases e;exact LQ _
    ·exact LB (hl x c e)
   ·rw [KL] at e1 e2;split at e1<;>split at e2
    ·rename_i a _ b;rw [eq_of_beq a,eq_of_beq b]
    ·cases e1;exact absurd (hl y _ e2) (Ka _)
    ·cases e2;exact absurd (hl x _ e1) (Ka _)
    ·exact hi x y c e1 e2
  ·exact sV r _ _ hl hi
theorem oN:∀(ns:List (Jb × MV)) (h:JD) (acc:List (Jb × Iy)),(∀ x c,acc.lookup x=Io c->∃ v,h.IsCell c v)->∀ x c,(cellsFrom h.objs.size ns acc).lookup x=Io c->∃ v,(pushCells h ns).IsCell c v
 | [],_,_,h=>h
 | (z,k)::r,h,acc,hl=>by
  unfold cellsFrom pushCells;split
  ·have:=oN r (h.push { cls:=.type "cell",data:=.cell none }) ((z,h.objs.size)::acc) λx c e=>by
    rw [KL] at e;split at e
    ·cases e;exact⟨none,_,II _ rfl,rfl⟩
    ·obtain⟨v,q⟩:=hl x c e;exact⟨v,q.keeps λb o e=>Iw _ e⟩
   rwa [JL] at this
  ·exact oN r h acc hl
theorem mX {M:RE} {A:Jr} {E:Ir->Iz->Prop} {s:Iz} {scope:La} {g:Iy} {cl:List (Jb × Iy)} {qual:Jb} {env:NS} {Q:NS->Iz->Prop}
  (h:Q (newEnv scope s.heap.objs.size g (cellsFrom (s.heap.objs.size+1) scope.names cl) qual none .none (Io env) builtinsNs) { s with heap:=pushCells (s.heap.push { cls:=.type "dict",data:=.dict #[] }) scope.names }) :
  wpAny M A (newFunctionEnv scope g cl [] qual none .none (Io env)) Q E s:=by
 simp only [newFunctionEnv,Rx,if_true];refine Ip (SA ?_);refine Ip (wpAny_layCells _ (λname kind cells=>by cases hkc:kind==NameKind.cell<;>simp [hkc]) _ _ _ _ ?_);rw [show ({ s with heap:=s.heap.push { cls:=.type "dict",data:=.dict #[] } }:Iz).heap.objs.size=s.heap.objs.size+1 from JL ..];exact Ip (IA (IA h))
noncomputable def lobj (ys:List Ir):K9:={ cls:=.type "list",data:=.seq ys.toArray ys.length }
def lr (X:Cx) (ifs:List JH) (t:TT):Prop :=
 ∀(pins:List (Iy × K9)) (s:Iz) (σ:St) (H:Hp) (Q:Bool->Hp->Prop),Inv X pins σ H s->t σ H Q ->
  wpAny (model X.prog X.w) X.A (forIn ifs true λc r=>if r=true then do let ok <- isTrue c X.env (eval c X.env);pure (LH ok) else pure (LH r)) (TP X pins σ Q) X.xe s
def vG:TT:=λ_ H Q=>Q true H
theorem aR {X:Cx}:lr X [] vG:=λpins s σ H Q I h=>wpAny_tests_nil ⟨H,I,h⟩
theorem zH {X:Cx} {c:JH} {t:TT} (h:PT X c t):lr X [c] t:=λpins s σ H Q I q=>wpAny_tests_one (h pins s σ H Q I q)
def bE:List (Option V)->List (Option V)->Prop
 | [],[]=>True
 | none::r,_::r'=>bE r r'
 | some v::r,Io u::r'=>u=v/\bE r r'
 | _,_=>False
theorem bE.len:∀{a b:List (Option V)},bE a b->a.length=b.length
 | [],[],_=>rfl
 | none::r,_::r',h=>by simp [bE.len (a:=r) (b:=r') h]
 | some v::r,Io u::r',h=>by simp [bE.len (a:=r) (b:=r') h.2]
 | some v::r,none::r',h=>h.elim
 | some v::r,[],h=>h.elim
 | none::r,[],h=>h.elim
 | [],_::_,h=>h.elim
theorem bE.get:∀{a b:List (Option V)},bE a b->∀(i:Nat) v,a[i]?=Io (Io v)->b[i]?=Io (Io v)
 | [],[],_,i,v,h=>by simp at h
 | none::r,_::r',h,0,v,e=>by simp at e
 | none::r,_::r',h,i+1,v,e=>by have:=bE.get (a:=r) (b:=r') h i v (by simpa using e);simpa using this
 | some v::r,Io u::r',h,0,v',e=>by
  have q:v=v':=by simpa using e
  have:=h.1;simp [this,q]
 | some v::r,Io u::r',h,i+1,v',e=>by have:=bE.get (a:=r) (b:=r') h.2 i v' (by simpa using e);simpa using this
 | some v::r,none::r',h,_,_,_=>h.elim
 | some v::r,[],h,_,_,_=>h.elim
 | none::r,[],h,_,_,_=>h.elim
 | [],_::_,h,_,_,_=>h.elim
def Gr (js:List (Option Nat)) (wi:TI) (g:TG) (tt:TT) (te:TE):TE:=λσ H Q=>wi σ H λJ H1=>∃ W:Nat->Nat->List V->Hp->Prop,(∃ m,W 0 m [] H1)/\∀ i m ys H,W i m ys H ->
 (J.stop i H/\ys.length<=sizeLine/\∀ p,H p=none->Q (.ref p) (upd H p (.lst ys))) ∨
 (J.go i H/\ys.length<sizeLine/\∃ N:List V->Hp->Prop,(∀ ys' H',N ys' H'->∃ m',m'<m/\W (i+1) m' ys' H') /\
  ∀ x H',J.yld i H x H'->g x (cH js σ) H' λσ2 H2=>bE (cH js σ) σ2/\tt σ2 H2 λb H3=>if b=true then te σ2 H3 λv H4=>N (ys++[v]) H4 else N ys H3)
structure iT (X:Cx) (C:Iy) (s₂:Iz) (H₂:Hp) (fp:List Iy):Prop where
 inv:∃ pins σ,Inv X pins σ H₂ s₂
 new:∀ b∈fp,X.s₀.heap.objs.size<=b∨b∈X.ex
 nof:∀ b∈d7 X.stack,b∉fp
 le:s₂.heap.objs.size<=C
def Dz (X:Cx) (elt target:JH) (gens:List Rh) (ifs:List JH) (scope:La) (pos:Mn) (Bd:(Ir->Iz->Prop)->Ir->NS->(Iz->Prop)->Iz->Prop):Prop :=
 ∀(Ex:Ir->Iz->Prop) (R:QH->Iz->Prop) (s:Iz) (it acc:Ir) (env:NS) (I:Nat->Iz->Prop),
  (∀ n s,I n s->wpAny (model X.prog X.w) X.A (pyNext it) (λr s₁=>match r with
   | none=>R (.ok .next) s₁
   | some v=>wpAny (model X.prog X.w) X.A (letOwnedTupleGo target it v) (λ_ s₁'=>wpAny (model X.prog X.w) X.A (assign target env v) (λ_ s₂ =>
     wpAny (model X.prog X.w) X.A (forIn ifs true λc r=>if r=true then do let ok <- isTrue c env (eval c env);pure (LH ok) else pure (LH r)) (λok s₃ =>
      if ok=true then Bd Ex acc env (λs₅=>∃ m,m<n/\I m s₅) s₃ else ∃ m,m<n/\I m s₃) Ex s₂) Ex s₁') Ex s₁) Ex s) ->
  ∀ n,I n s->(∀ e s',Ex e s'->notedBy (model X.prog X.w) X.A env (λe s''=>R (.error e) s'') e s')->codeAny (model X.prog X.w) X.A (.compLoop (.ListComp elt gens scope pos) 0 it acc env) R s
structure mY (Y:Cx) (D:Iy) (P:List (Iy × K9)):Prop where
 ne:∀ p∈P,p.1≠D
 new:Y.s₀.heap.objs.size<=D
 cell:∀ x c,Y.env.cells.lookup x=Io c->c≠D
theorem yB {X:Cx} {Ex:Iy->Iz->Hp->List Iy->Ir->Iz->Prop} {elt target iter:JH} {rest:List Rh} {ifs:List JH} {scope:La} {pos:Mn} {N':List Jb} {js:List (Option Nat)} {cl:List (Jb × Iy)} {g:TG} {tt:TT} {Cc:List V->Prop} {tb:List V->St->Hp->(List V->Hp->Prop)->Prop} {Bd:(Ir->Iz->Prop)->Ir->NS->(Iz->Prop)->Iz->Prop} (F':X.calm=true) (hloop:Dz X elt target (⟨target,iter,ifs,0⟩::rest) ifs scope pos Bd)
  (K:fI X N' js scope cl)
  (hg:∀ C s₂ H₂ fp,iT X C s₂ H₂ fp->PG (bK X (Ex C s₂ H₂ fp) N' scope cl C s₂ H₂ fp) target g) (ht:∀ C s₂ H₂ fp,iT X C s₂ H₂ fp->lr (bK X (Ex C s₂ H₂ fp) N' scope cl C s₂ H₂ fp) ifs tt) (hB:∀ C s₂ H₂ fp,iT X C s₂ H₂ fp->∀(D:Iy) ys vys P σ H s N Ps,Inv (bK X (Ex C s₂ H₂ fp) N' scope cl C s₂ H₂ fp) ([(D,lobj ys)]++P) σ H s->Vals vys ys->mY (bK X (Ex C s₂ H₂ fp) N' scope cl C s₂ H₂ fp) D P->Cc vys->tb vys σ H N ->
   (∀ ys' vys' H' s',Inv (bK X (Ex C s₂ H₂ fp) N' scope cl C s₂ H₂ fp) ([(D,lobj ys')]++P) σ H' s'->Vals vys' ys'->N vys' H'->Ps s')->Bd (Ex C s₂ H₂ fp) (.ref D) (bK X (Ex C s₂ H₂ fp) N' scope cl C s₂ H₂ fp).env Ps s)
  (herr:∀ C s₂ H₂ fp use Q' acc e s',Ex C s₂ H₂ fp e s'->notedBy (model X.prog X.w) X.A (compEnvC scope (cellsFrom (C+1) scope.names cl) C X.env) (λe s''=>compPost (model X.prog X.w) X.A X.xe use Q' acc C (.error e) s'') e s')
  {pins:List (Iy × K9)} {σ:St} {Q:VK} {use:Option (Ir->TZ Unit)} {Q':Ir->Iz->Prop} {itv:Ir} {s2:Iz}
  (h2:GL X pins σ target (λJ H1=>∃ W:Nat->Nat->List V->Hp->Prop,(∃ m,W 0 m [] H1)/\∀ i m ys H,W i m ys H ->
 (J.stop i H/\ys.length<=sizeLine/\∀ p,H p=none->Q (.ref p) (upd H p (.lst ys))) ∨
 (J.go i H/\Cc ys/\∃ N:List V->Hp->Prop,(∀ ys' H',N ys' H'->∃ m',m'<m/\W (i+1) m' ys' H') /\
  ∀ x H',J.yld i H x H'->g x (cH js σ) H' λσ2 H2=>bE (cH js σ) σ2/\tt σ2 H2 λb H3=>if b=true then tb ys σ2 H3 N else N ys H3)) itv s2)
  (hok:∀ C D vys H4 s5,(∃ m,s5.heap.Ns C m)->s2.heap.objs.size<=D->D<=C->D≠C->H4 D=none->H4 C=none->(∀ h',Ku C s5.heap h'->Inv X pins σ (upd H4 D (.lst vys)) { s5 with heap:=h' })->Q (.ref D) (upd H4 D (.lst vys))->compPost (model X.prog X.w) X.A X.xe use Q' (.ref D) C (.ok .next) s5) :
  wpAny (model X.prog X.w) X.A (newList []) (λacc s₃=>wpAny (model X.prog X.w) X.A (newFunctionEnv scope X.env.globals cl [] X.env.qual none .none (Io X.env)) (λcenv s₄ =>
   codeAny (model X.prog X.w) X.A (.compStart (.ListComp elt (⟨target,iter,ifs,0⟩::rest) scope pos) 0 itv acc { cenv with scope:=relabel scope X.env }) (compPost (model X.prog X.w) X.A X.xe use Q' acc cenv.locals) s₄) X.xe s₃) X.xe s2:=by
 obtain⟨it,fp,tn,J,H2,e,I2,T,st2,f2,W,⟨m0,w0⟩,turn⟩:=h2;subst e;refine Jt (mX ?_);dsimp only;generalize hP2:s2.heap.push { cls:=.type "list",dict:=none,data:=.seq ([]:List Ir).toArray }=P2;generalize hh₁:pushCells (P2.push { cls:=.type "dict",data:=.dict #[] }) scope.names=h₁;have hns₁:h₁.Ns P2.objs.size λ_=>none:=hh₁▸(Heap.Ns.new P2 (.type "dict")).keeps (SV _ _);have upP:∀ b o,P2.get? b=Io o->h₁.get? b=Io o:=λb o e=>hh₁▸SV _ _ b o (Iw _ e);have hcel:∀ x c,(cellsFrom (P2.objs.size+1) scope.names cl).lookup x=Io c->∃ v,h₁.IsCell c v:=by
  have:=oN scope.names (P2.push { cls:=.type "dict",data:=.dict #[] }) cl λx c e=>by obtain⟨v,q⟩:=I2.cell x c (K.sub.get x c e);exact⟨v,q.keeps λb o e=>Iw _ (hP2▸Iw _ e)⟩
  rw [JL,hh₁] at this;exact this
 have hC:P2.objs.size=s2.heap.objs.size+1:=by rw [<- hP2,JL]
 have hDC:s2.heap.objs.size≠P2.objs.size:=by rw [hC];exact Jd (LQ _)
 have below:∀ b,b<s2.heap.objs.size->b≠P2.objs.size/\b≠s2.heap.objs.size:=λb hb=>⟨by rw [hC];exact Jd (LB hb),Jd hb⟩
 have old:∀ b o,s2.heap.get? b=Io o->h₁.get? b=Io o:=λb o e=>upP b o (hP2▸Iw _ e);have hacc:h₁.get? s2.heap.objs.size=Io (lobj []):=upP _ _ (hP2▸II _ rfl);generalize hCe:P2.objs.size=C at *;generalize hDe:s2.heap.objs.size=D at *
 let Y:Cx:=bK X (Ex C s2 H2 fp) N' scope cl C s2 H2 fp
 have clLt:∀ y c,cl.lookup y=Io c->c<D:=λy c e=>by obtain⟨v,q⟩:=I2.cell y c (K.sub.get y c e);rw [<- hDe];exact q.lt
 have cellsX:∀ y c,Y.env.cells.lookup y=Io c->cl.lookup y=Io c∨C+1<=c:=λy c e=>iY _ _ _ e;have cellNe:∀ y c,Y.env.cells.lookup y=Io c->c≠D:=λy c e=>by
  rcases cellsX y c e with z | z
  ·exact Jd (clLt y c z)
  ·exact Lc (by lia)
 have freshH:∀ a,D<=a->H2 a=none:=λa ha=>I2.hok.fresh (by rw [hDe];exact ha);have hDleC:D<=C:=by rw [hC];exact Mx _
 have lc:iT X C s2 H2 fp:=⟨⟨pins,σ,I2⟩,λb hb=>((f2 b hb).2.2.2.1).symm,λb hf hb=>by
   rcases IU.mp (I2.fS b hf) with z | z
   ·exact (f2 b hb).2.1 z
   ·exact (f2 b hb).2.2.1 z,by rw [hDe];exact hDleC⟩
 have hbelowfp:∀ b∈fp,b<D:=λb hb=>by obtain⟨o,e,_⟩:=T.obj _ _ st2 b hb;rw [<- hDe];exact IK e
 have okY:Y.Ok:=by
  refine⟨I2.ok.mod,K.kind,I2.ok.glob,I2.ok.blt,?_,sV _ _ _ (λx c e=>LB (IZ (clLt x c e) hDleC)) (λx y c e1 e2=>I2.ok.inj x y c (K.sub.get x c e1) (K.sub.get y c e2)),λx hx=>?_,λx c hf hc=>?_,I2.ok.hd,I2.ok.frames,.inl rfl,λb hb=>?_,I2.bs,IJ I2.ok.bsz I2.sz,λb o e hb=>?_,λb hb hf=>?_,I2.stack,I2.dX⟩
  ·show s2.heap.objs.size<=C;rw [hDe];exact hDleC
  ·have hx':(relabel scope X.env).names.lookup x=Io .cell∨(relabel scope X.env).names.lookup x=Io .free:=hx;have:∃ y∈scope.names,y.1=x/\(y.2=.free∨y.2=.cell):=by
    rcases hx' with q | q
    ·exact kh q (.inl rfl)
    ·exact kh q (.inr rfl)
   obtain⟨y,hm,e1,e2⟩:=this;refine Mh.mp (NF _ _ _ ?_);rcases e2 with e2 | e2
   ·have q:=K.has y hm e2;rw [e1] at q;exact .inr q
   ·exact .inl (e1▸(K.nocell y hm e2).1)
  ·have hf':scope.names.lookup x=Io .cell:=by simpa using (show (scope.names.lookup x==Io .cell)=true from hf)
   have:=sW _ _ _ hf' hc;show s2.heap.objs.size<=c;rw [hDe];exact IJ hDleC (L7 this)
  ·refine⟨Jd (IZ (hbelowfp b hb) hDleC),λx c e=>?_⟩;rcases cellsX x c e with z | z
   ·exact (f2 b hb).2.2.2.2.1 x c (K.sub.get x c z)
   ·exact Lc (IZ (IZ (hbelowfp b hb) hDleC) (L7 z))
  ·rcases (f2 b hb).2.2.2.1 with z | z
   ·exact I2.ok.noex b o e z
   ·exact absurd (IZ (IK e) (IJ I2.ok.bsz z)) (Ka _)
  ·rcases IU.mp (I2.fS b hf) with z | z
   ·exact (f2 b hb).2.1 z
   ·exact (f2 b hb).2.2.1 z
 -- the block's names
 have locY:∀{s':Iz} {H':Hp} {σ':St},True:=λ{_ _ _}=>trivial;have invY0:Inv Y [(D,lobj [])] (cH js σ) H2 { s2 with heap:=h₁ }:=by
  refine⟨okY,rfl,I2.bare,Un.kept old,⟨_,hns₁,λi x v e1 e2 vis=>?_⟩,hcel,freshH C hDleC,λy c e=>?_,λp hp=>?_,I2.hok.kept old,?_⟩
  ·-- a name of the block that has a value stands outside in a cell
   have e2':(cH js σ)[i]?=Io (Io v):=e2;unfold cH at e2';rw [ID] at e2';cases ej:js[i]? with
   | none=>rw [ej] at e2';cases e2'
   | some o =>
    rw [ej] at e2';cases o with
    | none=>cases e2'
    | some j =>
     obtain⟨n1,n2,n3,n4,n5⟩:=K.jok i j x ej e1;have e3:(σ[j]?).join=Io v:=by simpa using e2'
     have e4:σ[j]?=Io (Io v):=by
      cases q:σ[j]? with
      | none=>rw [q] at e3;cases e3
      | some z=>rw [q] at e3;simpa using e3
     obtain⟨m,hn,hl⟩:=I2.loc;obtain⟨u,r,l⟩:=hl j x v n1 e4 n3;refine⟨u,r,.inr ⟨n5,?_⟩⟩;rcases l with⟨k,_⟩|⟨k,c,ec,z⟩
     ·exact absurd k n4
     ·obtain⟨c',ec'⟩:=Mh.mp n2;have ee:=K.sub.get x c' ec';rw [ec] at ee;cases ee;refine⟨c,(oO _ _ _ λy hy hk=>(K.nocell y hy hk).2 (Io j,x) ?_ rfl).trans ec',?_⟩
      ·exact IC (i:=i) (by rw [Nc];exact⟨ej,e1⟩)
      obtain⟨o,ho,hd⟩:=z;exact⟨o,old c o ho,hd⟩
  ·rcases cellsX y c e with z | z
   ·exact I2.freeC y c (K.sub.get y c z)
   ·exact freshH c (by lia)
  ·have hp':p∈[(D,lobj [])]:=hp;have e:p=(D,lobj []):=by simpa using hp'
   subst e;refine⟨hacc,freshH D (IF _),hDC,λz=>?_,λv z=>by cases z⟩;rcases IU.mp (I2.fS D z) with q | q
   ·exact absurd (q▸I2.lt) (by rw [hDe];exact Ka _)
   ·exact I2.Bv (by rw [hDe];exact IF _) q
  ·show (cH js σ).length=N'.length;unfold cH;rw [Iu];exact K.jlen
 have hDfs:D∉Y.fs:=λz=>by
  rcases IU.mp (I2.fS D z) with q | q
  ·exact absurd (q▸I2.lt) (by rw [hDe];exact Ka _)
  ·exact I2.Bv (by rw [hDe];exact IF _) q
 have stat:∀{H':Hp} {ys:List Ir},(∀ b∈fp,H' b=none)->∀ b∈fp,mN Y [(D,lobj ys)] H' b:=λ{H' ys} hn b hb=>by
  refine⟨hn b hb,Jd (IZ (hbelowfp b hb) hDleC),okY.exfs b hb,.inl hb,okY.exf b hb |>.2,λp hp=>?_⟩;have hp':p∈[(D,lobj ys)]:=hp;have e:p=(D,lobj ys):=by simpa using hp'
  subst e;exact Lc (hbelowfp b hb)
 have loop:∀ s3:Iz,s3={ s2 with heap:=h₁ } ->
   codeAny (model X.prog X.w) X.A (.compLoop (.ListComp elt (⟨target,iter,ifs,0⟩::rest) scope pos) 0 (.ref it) (.ref D) (compEnvC scope (cellsFrom (C+1) scope.names cl) C X.env)) (compPost (model X.prog X.w) X.A X.xe use Q' (.ref D) C) s3:=by
  rintro s3 rfl;refine hloop _ _ _ _ _ _ (λn s'=>∃ i ys vys H',Inv Y [(D,lobj ys)] (cH js σ) H' s'/\tn i s'.heap/\(∀ b∈fp,H' b=none)/\Vals vys ys/\W i n vys H') ?_ m0
   ⟨0,[],[],H2,invY0,T.keep _ _ _ st2 λb _ o e=>old b o e,λb hb=>(f2 b hb).1,.nil,w0⟩ λe s' z=>herr C s2 H2 fp use Q' (.ref D) e s' z
  rintro n s4 ⟨i,ys,vys,H4,I4,st4,fr4,rv,w4⟩;rcases turn i n vys H4 w4 with⟨stop,hz,qn⟩|⟨go,hz,Nn,hN,step⟩
  ·refine bf (T.done Y rfl rfl rfl F' i _ s4 _ H4 (Ex C s2 H2 fp) I4 (stat fr4) st4 stop) λr s5 ⟨hr,I5⟩=>?_;subst hr;obtain⟨m5,hn5,_⟩:=I5.loc;obtain⟨pD,nD,_,_,_⟩:=I5.pin (D,lobj ys) (by show _∈[(D,lobj ys)];simp);have nC:H4 C=none:=I5.free;refine hok C D vys H4 s5 ⟨m5,hn5⟩ (IF _) hDleC hDC nD nC (λh' hsb=>?_) (qn D nD);have pD':h'.get? D=Io (lobj ys):=hsb.extBut _ _ hDC pD;refine I2.FD (s':={ s5 with heap:=h' }) (ch:=fp) I5.os ?_ ?_ I5.bare (λb hb=>?_)
   ·-- kept
    have u:=I5.base;have neC:∀ b o,s2.heap.get? b=Io o->b≠C/\b≠D:=λb o e=>by have:=IK e;rw [hDe] at this;exact⟨Jd (IZ this hDleC),Jd this⟩
    refine⟨λb o e nn hb hx=>hsb.extBut b o (neC b o e).1 (u.keep b o e nn hb hx),λb o e nn hb hx=>?_,λb o e nn hx=>?_,λb o e hx=>?_,λb xs e=>?_,λb o xs e=>?_,λb ps e=>?_⟩
    ·obtain⟨sl,q⟩:=u.slot b o e nn hb hx;exact⟨sl,hsb.extBut b _ (neC b o e).1 q⟩
    ·rw [ao (neC b o e).2];exact u.free b o e nn hx
    ·obtain⟨o',q⟩:=u.there b o e hx;exact⟨o',hsb.extBut b _ (neC b o e).1 q⟩
    ·rw [ao (aP (u.tups b xs e) nD)];exact u.tups b xs e
    ·rw [ao (aP (u.frzs b o xs e) nD)];exact u.frzs b o xs e
    ·obtain⟨more,q⟩:=u.tbls b ps e;exact⟨more,by rw [ao (aP q nD)];exact q⟩
   ·intro b o e;by_cases hb:b=D
    ·subst hb;rw [ag] at e;cases e;exact⟨hz,ys,_,rv,pD'⟩
    ·rw [ao hb] at e;refine (I5.hok b o e).eQ (λc w' hc q=>hsb.extBut c w' ?_ q) (λc q=>by rw [ao (aP q nD)];exact q) λc xs q=>by rw [ao (aP q nD)];exact q
     rintro rfl;rcases hc with rfl | hc
     ·rw [nC] at e;cases e
     ·rw [nC] at hc;cases hc
   ·exact⟨(f2 b hb).2.2.2.1,(f2 b hb).2.1,(f2 b hb).2.2.2.2.1,(f2 b hb).2.2.2.2.2⟩
  ·refine bf (T.item Y rfl rfl rfl F' i _ s4 _ H4 (Ex C s2 H2 fp) I4 (stat fr4) st4 go) λr s5 ⟨u,hr,h5⟩=>?_;subst hr;refine bf h5 λ_ s6 ⟨x,H6,I6,r6,y6,st6,fr6⟩=>?_;have I6':=I6.pinned (stat fr6) (T.obj _ _ st6);refine bf (hg C s2 H2 fp lc _ s6 _ H6 x u _ I6' r6 (step x H6 y6)) λ_ s7 ⟨σ7,H7,I7,k7,q7⟩=>?_;refine bf (ht C s2 H2 fp lc _ s7 σ7 H7 _ I7 q7) λb s8 ⟨H8,I8,q8⟩=>?_
   -- behind the tests and the element: the state FK back to what the next turn wants
   have again:∀{ys':List Ir} {s9:Iz} {H9:Hp},Inv Y ([(D,lobj ys')]++gG fp s6.heap) σ7 H9 s9->Inv Y [(D,lobj ys')] (cH js σ) H9 s9/\tn (i+1) s9.heap/\∀ b∈fp,H9 b=none:=λ{ys' s9 H9} I9=>by refine⟨(I9.gR).weak k7.len k7.get,T.keep _ _ _ st6 λb hb o e=>(I9.pin (b,o) (Ja _ (Ja _ (dz hb e)))).1,λb hb=>?_⟩;obtain⟨o,e,d⟩:=T.obj _ _ st6 b hb;exact (I9.pin (b,o) (Ja _ (Ja _ (dz hb e)))).2.1
   cases b with
   | false =>rw [if_neg Jk] at q8 ⊢;obtain⟨m',hm,w8⟩:=hN _ _ q8;obtain⟨J8,t8,f8⟩:=again I8;exact⟨m',hm,i+1,ys,vys,H8,J8,t8,f8,rv,w8⟩
   | true =>
    rw [if_pos rfl] at q8 ⊢;have aok:mY Y D (gG fp s6.heap):=⟨λp hp z=>absurd (hbelowfp p.1 (jV hp).1) (by rw [z];exact Ka _),by show s2.heap.objs.size<=D;rw [hDe];exact IF _,λx c e=>cellNe x c e⟩
    refine hB C s2 H2 fp lc D ys vys _ σ7 H8 s8 Nn _ I8 rv aok hz q8 λys' vys' H9 s9 I9 rv' q9=>?_;obtain⟨J9,t9,f9⟩:=again I9;obtain⟨m',hm,w9⟩:=hN _ _ q9;exact⟨m',hm,i+1,ys',vys',H9,J9,t9,f9,rv',w9⟩
 exact codeAny_compStart_list (loop _ rfl) (T.self _ 0 _ _ _ (T.keep _ _ _ st2 λb _ o e=>old b o e) (loop _ rfl))
theorem AV {Y:Cx} {D:Iy} {ys:List Ir} {P:List (Iy × K9)} {σ:St} {H:Hp} {s:Iz} {y:Ir} {Q:Ir->Iz->Prop} {E:Ir->Iz->Prop} (hpn:Y.pn=[]) (I:Inv Y ([(D,lobj ys)]++P) σ H s) (ok:mY Y D P) (z:ys.length<sizeLine)
  (q:∀ s',Inv Y ([(D,lobj (ys++[y]))]++P) σ H s'->Q .none s'):wpAny (model Y.prog Y.w) Y.A (call (.builtin "list.append") [.ref D,y]) Q E s:=by
 obtain⟨pD,nD,neD,nfD,_⟩:=I.pin (D,lobj ys) (by rw [hpn];simp);refine append_at (hsz:=by show ys.toArray.size<=sizeLine;rw [IP];exact M5 z) (show s.heap.get? D=Io { cls:=.type "list",data:=.seq ys.toArray ys.length } from pD) λh' hsb hD'=>q _ ?_;have eD:h'.get? D=Io (lobj (ys++[y])):=by rw [hD'];unfold lobj;rw [Js,Ks,List.push_toArray]
 have J1:Inv Y P σ H s:=I.hZ λp hp=>I.pin p (Ja _ (Ja _ hp));have J2:Inv Y P σ H { s with heap:=h' }:=J1.turned (t':=s.toks) (it:=D) (λb o hb e=>hsb.extBut b o hb e) nD neD (.inr ok.new) ok.cell λp hp=>ok.ne p (by rw [hpn] at hp;simpa using hp);refine J2.hZ λp hp=>?_;rcases J0.mp hp with hp | hp
 ·have e:p=(D,lobj (ys++[y])):=by simpa using hp
  subst e;exact⟨eD,nD,neD,nfD,λv z=>by cases z⟩
 ·exact J2.pin p (Ja _ hp)
theorem qF {Y:Cx} {D:Iy} {ys:List Ir} {vys:List V} {P:List (Iy × K9)} {σ:St} {H:Hp} {s:Iz} {elt:JH} {te:TE} {N:List V->Hp->Prop} {Ps:Iz->Prop} (hpn:Y.pn=[]) (he:PE Y elt te) (I:Inv Y ([(D,lobj ys)]++P) σ H s) (rv:Vals vys ys) (ok:mY Y D P) (z:vys.length<sizeLine) (q:te σ H λv H4=>N (vys++[v]) H4)
  (k:∀ ys' vys' H' s',Inv Y ([(D,lobj ys')]++P) σ H' s'->Vals vys' ys'->N vys' H'->Ps s'):wpAny (model Y.prog Y.w) Y.A (qE elt (.ref D) Y.env) (λ_ s'=>Ps s') Y.xe s:=by
 unfold qE;refine Ip (bf (he _ s σ H _ I q) λy s9 ⟨vy,H9,I9,r9,q9⟩=>?_);exact Ip (AV hpn I9 ok (by rw [<- rv.length];exact z) λs' I'=>IA (k _ _ _ _ I' (rv.append (.cons r9 .nil)) q9))
theorem uR {X:Cx} {Ex:Iy->Iz->Hp->List Iy->Ir->Iz->Prop} {elt target iter:JH} {ifs:List JH} {scope:La} {pos:Mn} {N':List Jb} {js:List (Option Nat)} {cl:List (Jb × Iy)} {g:TG} {tt:TT} {te:TE} (F':X.calm=true)
  (K:fI X N' js scope cl)
  (hg:∀ C s₂ H₂ fp,iT X C s₂ H₂ fp->PG (bK X (Ex C s₂ H₂ fp) N' scope cl C s₂ H₂ fp) target g) (ht:∀ C s₂ H₂ fp,iT X C s₂ H₂ fp->lr (bK X (Ex C s₂ H₂ fp) N' scope cl C s₂ H₂ fp) ifs tt) (he:∀ C s₂ H₂ fp,iT X C s₂ H₂ fp->PE (bK X (Ex C s₂ H₂ fp) N' scope cl C s₂ H₂ fp) elt te)
  (herr:∀ C s₂ H₂ fp use Q' acc e s',Ex C s₂ H₂ fp e s'->notedBy (model X.prog X.w) X.A (compEnvC scope (cellsFrom (C+1) scope.names cl) C X.env) (λe s''=>compPost (model X.prog X.w) X.A X.xe use Q' acc C (.error e) s'') e s')
  {pins:List (Iy × K9)} {σ:St} {Q:VK} {use:Option (Ir->TZ Unit)} {Q':Ir->Iz->Prop} {itv:Ir} {s2:Iz}
  (h2:GL X pins σ target (λJ H1=>∃ W:Nat->Nat->List V->Hp->Prop,(∃ m,W 0 m [] H1)/\∀ i m ys H,W i m ys H ->
 (J.stop i H/\ys.length<=sizeLine/\∀ p,H p=none->Q (.ref p) (upd H p (.lst ys))) ∨
 (J.go i H/\ys.length<sizeLine/\∃ N:List V->Hp->Prop,(∀ ys' H',N ys' H'->∃ m',m'<m/\W (i+1) m' ys' H') /\
  ∀ x H',J.yld i H x H'->g x (cH js σ) H' λσ2 H2=>bE (cH js σ) σ2/\tt σ2 H2 λb H3=>if b=true then te σ2 H3 λv H4=>N (ys++[v]) H4 else N ys H3)) itv s2)
  (hok:∀ C D vys H4 s5,(∃ m,s5.heap.Ns C m)->s2.heap.objs.size<=D->D<=C->D≠C->H4 D=none->H4 C=none->(∀ h',Ku C s5.heap h'->Inv X pins σ (upd H4 D (.lst vys)) { s5 with heap:=h' })->Q (.ref D) (upd H4 D (.lst vys))->compPost (model X.prog X.w) X.A X.xe use Q' (.ref D) C (.ok .next) s5) :
  wpAny (model X.prog X.w) X.A (newList []) (λacc s₃=>wpAny (model X.prog X.w) X.A (newFunctionEnv scope X.env.globals cl [] X.env.qual none .none (Io X.env)) (λcenv s₄ =>
   codeAny (model X.prog X.w) X.A (.compStart (.ListComp elt [⟨target,iter,ifs,0⟩] scope pos) 0 itv acc { cenv with scope:=relabel scope X.env }) (compPost (model X.prog X.w) X.A X.xe use Q' acc cenv.locals) s₄) X.xe s₃) X.xe s2 :=
 yB (Bd:=λEx acc env Ps s=>wpAny (model X.prog X.w) X.A (qE elt acc env) (λ_ s'=>Ps s') Ex s) (Cc:=λys=>ys.length<sizeLine) (tb:=λys σ2 H3 N=>te σ2 H3 λv H4=>N (ys++[v]) H4) F'
  (λ_ _ _ it acc env I turn n h hE=>iZ I (Ay elt target iter ifs scope pos it acc env) turn n h hE) K hg ht
  (λC s₂ H₂ fp lc D ys vys P σ H s N Ps I rv ok z q k=>qF rfl (he C s₂ H₂ fp lc) I rv ok z q k) herr h2 hok
theorem fz {X:Cx} {elt target iter:JH} {ifs:List JH} {scope:La} {pos:Mn} {N':List Jb} {js:List (Option Nat)} {cl:List (Jb × Iy)} {wi:TI} {g:TG} {tt:TT} {te:TE} (F':X.calm=true)
  (K:fI X N' js scope cl) (hi:PI X target iter wi)
  (hg:∀ C s₂ H₂ fp,PG (c6 X N' scope cl C s₂ H₂ fp) target g) (ht:∀ C s₂ H₂ fp,lr (c6 X N' scope cl C s₂ H₂ fp) ifs tt) (he:∀ C s₂ H₂ fp,PE (c6 X N' scope cl C s₂ H₂ fp) elt te)
  (hs:∀ x,foldedSetIterable iter X.env x=pure x:=by intro _;rfl):PE X (.ListComp elt [⟨target,iter,ifs,0⟩] scope pos) (Gr js wi g tt te):=by
 intro pins s σ H Q I h;rw [Uk];refine Nj (use:=none) rfl hs K.clos K.kind K.names (bf (hi pins s σ H _ I h) λv s1 h1=>bf h1 λitv s2 h2=>?_);exact uR (Ex:=λ_ _ _ _ _ _=>False) F' K (λC s H f _=>hg C s H f) (λC s H f _=>ht C s H f) (λC s H f _=>he C s H f) (λ_ _ _ _ _ _ _ _ _ z=>z.elim) h2 λC D vys H4 s5 ⟨m,hn⟩ _ _ _ _ _ hI q=>⟨m,hn,λh' hsb=>⟨.ref D,_,hI h' hsb,rfl,q⟩⟩
def E8 (wi:TI) (g:TG) (tt:TT) (te:TE) (ys:List V) (σ:St) (H:Hp) (N:List V->Hp->Prop):Prop:=wi σ H λJ H1=>∃ W:Nat->Nat->List V->Hp->Prop,(∃ m,W 0 m ys H1)/\∀ i m zs H,W i m zs H ->
 (J.stop i H/\N zs H) ∨
 (J.go i H/\zs.length<sizeLine/\∃ N2:List V->Hp->Prop,(∀ zs' H',N2 zs' H'->∃ m',m'<m/\W (i+1) m' zs' H') /\
  ∀ x H',J.yld i H x H'->g x σ H' λσ2 H2=>bE σ σ2/\tt σ2 H2 λb H3=>if b=true then te σ2 H3 λv H4=>N2 (zs++[v]) H4 else N2 zs H3)
def Gs (js:List (Option Nat)) (wi1:TI) (g1:TG) (tt1:TT) (wi2:TI) (g2:TG) (tt2:TT) (te:TE):TE:=λσ H Q=>wi1 σ H λJ H1=>∃ W:Nat->Nat->List V->Hp->Prop,(∃ m,W 0 m [] H1)/\∀ i m ys H,W i m ys H ->
 (J.stop i H/\ys.length<=sizeLine/\∀ p,H p=none->Q (.ref p) (upd H p (.lst ys))) ∨
 (J.go i H/\True/\∃ N:List V->Hp->Prop,(∀ ys' H',N ys' H'->∃ m',m'<m/\W (i+1) m' ys' H') /\
  ∀ x H',J.yld i H x H'->g1 x (cH js σ) H' λσ2 H2=>bE (cH js σ) σ2/\tt1 σ2 H2 λb H3=>if b=true then E8 wi2 g2 tt2 te ys σ2 H3 N else N ys H3)
theorem xI {Y:Cx} {D:Iy} {ys:List Ir} {vys:List V} {P:List (Iy × K9)} {σ:St} {H:Hp} {s:Iz} {elt t1 i1 t2 i2:JH} {f1 f2:List JH} {scope:La} {pos:Mn} {wi:TI} {g:TG} {tt:TT} {te:TE} {N:List V->Hp->Prop} {Ps:Iz->Prop} (hpn:Y.pn=[]) (F':Y.calm=true) (hxe:Y.xe=λ_ _=>False) (hi:PI Y t2 i2 wi) (hg:PG Y t2 g) (ht:lr Y f2 tt) (he:PE Y elt te)
  (I:Inv Y ([(D,lobj ys)]++P) σ H s) (rv:Vals vys ys) (ok:mY Y D P) (q:E8 wi g tt te vys σ H N)
  (k:∀ ys' vys' H' s',Inv Y ([(D,lobj ys')]++P) σ H' s'->Vals vys' ys'->N vys' H'->Ps s') :
  wpAny (model Y.prog Y.w) Y.A (eval i2 Y.env) (λx s₄=>wpAny (model Y.prog Y.w) Y.A (pyIter x) (λit2 s₅=>codeAny (model Y.prog Y.w) Y.A (.compStart (.ListComp elt [⟨t1,i1,f1,0⟩,⟨t2,i2,f2,0⟩] scope pos) 1 it2 (.ref D) Y.env) (λr s₆=>match r with | .ok _=>Ps s₆ | .error _=>False) s₅) Y.xe s₄) Y.xe s:=by
 refine bf (hi _ s σ H _ I q) λv s1 h1=>bf h1 λitv s2 h2=>?_;obtain⟨it,fp,tn,J,H2,e,I2,T,st2,f2',W,⟨m0,w0⟩,turn⟩:=h2;subst e;have nDb:∀ b∈fp,D≠b:=λb hb=>(f2' b hb).2.2.2.2.2 (D,lobj ys) (by rw [hpn];simp);have stat:∀{ys':List Ir} {H':Hp},(∀ b∈fp,H' b=none)->∀ b∈fp,mN Y ([(D,lobj ys')]++P) H' b:=λ{ys' H'} hn b hb=>by
  refine⟨hn b hb,(f2' b hb).2.1,(f2' b hb).2.2.1,(f2' b hb).2.2.2.1,(f2' b hb).2.2.2.2.1,λp hp=>?_⟩;rw [hpn] at hp;have hp':p∈[(D,lobj ys')]++P:=by simpa using hp
  rcases J0.mp hp' with z | z
  ·have e:p=(D,lobj ys'):=by simpa using z
   rw [e];exact nDb b hb
  ·exact (f2' b hb).2.2.2.2.2 p (by rw [hpn];exact Ja _ (Ja _ z))
 have loop:codeAny (model Y.prog Y.w) Y.A (.compLoop (.ListComp elt [⟨t1,i1,f1,0⟩,⟨t2,i2,f2,0⟩] scope pos) 1 (.ref it) (.ref D) Y.env) (λr s₆=>match r with | .ok _=>Ps s₆ | .error _=>False) s2:=by
  refine iZ (Ex:=Y.xe) (λn s'=>∃ i zs vzs H',Inv Y ([(D,lobj zs)]++P) σ H' s'/\tn i s'.heap/\(∀ b∈fp,H' b=none)/\Vals vzs zs/\W i n vzs H') (Cq elt t1 i1 t2 i2 f1 f2 scope pos (.ref it) (.ref D) Y.env) ?_ m0
   ⟨0,ys,vys,H2,I2,st2,λb hb=>(f2' b hb).1,rv,w0⟩ λe s' z=>by rw [hxe] at z;exact z.elim
  rintro n s4 ⟨i,zs,vzs,H4,I4,st4,fr4,rz,w4⟩;rcases turn i n vzs H4 w4 with⟨stop,qn⟩|⟨go,hz,Nn,hN,step⟩
  ·refine bf (T.done Y rfl rfl rfl F' i _ s4 _ H4 Y.xe I4 (stat fr4) st4 stop) λr s5 ⟨hr,I5⟩=>?_;subst hr;exact k zs vzs H4 s5 I5 rz qn
  ·refine bf (T.item Y rfl rfl rfl F' i _ s4 _ H4 Y.xe I4 (stat fr4) st4 go) λr s5 ⟨u,hr,h5⟩=>?_;subst hr;refine bf h5 λ_ s6 ⟨x,H6,I6,r6,y6,st6,fr6⟩=>?_;have I6':=I6.pinned (stat fr6) (T.obj _ _ st6);refine bf (hg _ s6 _ H6 x u _ I6' r6 (step x H6 y6)) λ_ s7 ⟨σ7,H7,I7,k7,q7⟩=>?_;refine bf (ht _ s7 σ7 H7 _ I7 q7) λb s8 ⟨H8,I8,q8⟩=>?_;have again:∀{zs':List Ir} {s9:Iz} {H9:Hp},Inv Y (([(D,lobj zs')]++P)++gG fp s6.heap) σ7 H9 s9->Inv Y ([(D,lobj zs')]++P) σ H9 s9/\tn (i+1) s9.heap/\∀ b∈fp,H9 b=none:=λ{zs' s9 H9} I9=>by refine⟨(I9.gR).weak k7.len k7.get,T.keep _ _ _ st6 λb hb o e=>(I9.pin (b,o) (Ja _ (Ja _ (dz hb e)))).1,λb hb=>?_⟩;obtain⟨o,e,d⟩:=T.obj _ _ st6 b hb;exact (I9.pin (b,o) (Ja _ (Ja _ (dz hb e)))).2.1
   cases b with
   | false =>rw [if_neg Jk] at q8 ⊢;obtain⟨m',hm,w8⟩:=hN _ _ q8;obtain⟨J8,t8,f8⟩:=again I8;exact⟨m',hm,i+1,zs,vzs,H8,J8,t8,f8,rz,w8⟩
   | true =>
    rw [if_pos rfl] at q8 ⊢;have aok:mY Y D (P++gG fp s6.heap):=⟨λp hp z=>by
     rcases J0.mp hp with h | h
     ·exact ok.ne p h z
     ·exact nDb p.1 (jV h).1 z.symm,ok.new,ok.cell⟩
    rw [Pl] at I8;refine qF hpn he I8 rz aok hz q8 λys' vys' H9 s9 I9 rv' q9=>?_;rw [<- Pl] at I9;obtain⟨J9,t9,f9⟩:=again I9;obtain⟨m',hm,w9⟩:=hN _ _ q9;exact⟨m',hm,i+1,ys',vys',H9,J9,t9,f9,rv',w9⟩
 exact Ai loop (T.self _ 0 _ _ _ st2 loop)
theorem EA {X:Cx} {elt t1 i1 t2 i2:JH} {f1 f2:List JH} {scope:La} {pos:Mn} {N':List Jb} {js:List (Option Nat)} {cl:List (Jb × Iy)} {wi1 wi2:TI} {g1 g2:TG} {tt1 tt2:TT} {te:TE} (F':X.calm=true)
  (K:fI X N' js scope cl) (hi:PI X t1 i1 wi1)
  (hg:∀ C s₂ H₂ fp,PG (c6 X N' scope cl C s₂ H₂ fp) t1 g1) (ht:∀ C s₂ H₂ fp,lr (c6 X N' scope cl C s₂ H₂ fp) f1 tt1)
  (hi2:∀ C s₂ H₂ fp,PI (c6 X N' scope cl C s₂ H₂ fp) t2 i2 wi2) (hg2:∀ C s₂ H₂ fp,PG (c6 X N' scope cl C s₂ H₂ fp) t2 g2) (ht2:∀ C s₂ H₂ fp,lr (c6 X N' scope cl C s₂ H₂ fp) f2 tt2) (he:∀ C s₂ H₂ fp,PE (c6 X N' scope cl C s₂ H₂ fp) elt te)
  (hs:∀ x,foldedSetIterable i1 X.env x=pure x:=by intro _;rfl) (hs2:∀ env x,foldedSetIterable i2 env x=pure x:=by intro _ _;rfl) :
  PE X (.ListComp elt [⟨t1,i1,f1,0⟩,⟨t2,i2,f2,0⟩] scope pos) (Gs js wi1 g1 tt1 wi2 g2 tt2 te):=by
 intro pins s σ H Q I h;rw [Uk];refine Nj (use:=none) rfl hs K.clos K.kind K.names (bf (hi pins s σ H _ I h) λv s1 h1=>bf h1 λitv s2 h2=>?_);refine yB (Ex:=λ_ _ _ _ _ _=>False) (Bd:=λEx acc env Ps s=>wpAny (model X.prog X.w) X.A (eval i2 env) (λx s₄=>wpAny (model X.prog X.w) X.A (pyIter x) (λit2 s₅=>codeAny (model X.prog X.w) X.A (.compStart (.ListComp elt [⟨t1,i1,f1,0⟩,⟨t2,i2,f2,0⟩] scope pos) 1 it2 acc env) (λr s₆=>match r with | .ok _=>Ps s₆ | .error _=>False) s₅) Ex s₄) Ex s) (Cc:=λ_=>True) (tb:=E8 wi2 g2 tt2 te) F'
  (λ_ _ _ it acc env I turn n h hE=>oP I (hs2 env) turn n h hE) K (λC s H f _=>hg C s H f) (λC s H f _=>ht C s H f)
  (λC s₂ H₂ fp lc D ys vys P σ H s N Ps I rv ok z q k=>xI (Y:=c6 X N' scope cl C s₂ H₂ fp) rfl F' rfl (hi2 C s₂ H₂ fp) (hg2 C s₂ H₂ fp) (ht2 C s₂ H₂ fp) (he C s₂ H₂ fp) I rv ok q k) (λ_ _ _ _ _ _ _ _ _ z=>z.elim) h2 λC D vys H4 s5 ⟨m,hn⟩ _ _ _ _ _ hI q=>⟨m,hn,λh' hsb=>⟨.ref D,_,hI h' hsb,rfl,q⟩⟩
def Bd (i:Int):Prop:=i.natAbs<2^4000
theorem xH:(10:Nat)^250<=2^4000:=by decide +kernel
theorem Bd.of {i:Int} (h1:-(10^250)<i) (h2:i<10^250):Bd i:=by
 refine IZ ?_ xH;have:((10:Nat)^250:Nat)=((10:Int)^250).toNat:=by decide +kernel
 rw [this];lia
theorem Bd.mono {i j:Int} (h:Bd j) (h':i.natAbs<=j.natAbs):Bd i:=J3 h' h
theorem Bd.bits {i:Int} (h:Bd i):Builtin.Int.intBits i<=2^20 :=
 IJ (intBits_le h) (by decide)
theorem Bd.HG {i j:Int} (h:Bd j):Builtin.divisionGoesByPylong i j=false:=by
 refine PyProof.noPylong_of_log2 ?_;by_cases z:j.natAbs=0
 ·rw [z];decide
 ·exact IZ ((Nat.log2_lt z).mpr h) (by decide)
section
variable {X:Cx}
theorem aK:iU X (binaryOp .Mult) (rI (λi j=>Bd i/\Bd j) λi j=>.int (i*j)):=FZ λ_ _ _ _ _ _ _ hc q=>mul_int q (IntMulOk.of_bits hc.1.bits hc.2.bits)
theorem bA:iU X (binaryOp .FloorDiv) (rI (λ_ j=>0<j/\Bd j) λi j=>.int (i/j)):=FZ λi j _ _ _ _ _ hc q=>by have h1:(0:Int)<j:=hc.1;exact floordiv_int (by lia) (by rw [OS i (by lia)];exact q) (.inl hc.2.HG)
theorem lM:iU X (inplaceOp .FloorDiv) (rI (λ_ j=>0<j/\Bd j) λi j=>.int (i/j)):=FZ λi j _ _ _ _ _ hc q=>by have h1:(0:Int)<j:=hc.1;exact ifloordiv_int (by lia) (by rw [OS i (by lia)];exact q) (.inl hc.2.HG)
theorem qX:iU X (inplaceOp .Mult) (rI (λi j=>Bd i/\Bd j) λi j=>.int (i*j)):=FZ λ_ _ _ _ _ _ _ hc q=>imul_int q (IntMulOk.of_bits hc.1.bits hc.2.bits)
theorem gp {op:QG} {r:R2} (ho:iU X (inplaceOp op) r):HE X op r:=λpins s σ H x y v u Q I r1 r2 h=>ho pins s σ H x y v u Q I r1 r2 h
def Dl (i j k:Nat) (ta:TA):TS:=λD σ H=>ta σ H λvs H1=>∃ v w u,vs=[v,w,u]/\D.nx (((σ.set i (Io v)).set j (Io w)).set k (Io u)) H1
theorem vf {i j k:Nat} {x y z:Jb} {a b c:JH} {ta:TA} {px py pz pt pos:Mn} {kt k2 pt2} (hc:X.calm=true) (hN:X.N.Nodup) (hi:X.N[i]?=Io x) (hj:X.N[j]?=Io y) (hk:X.N[k]?=Io z) (hij:i≠j) (hik:i≠k) (hjk:j≠k)
  (hx:X.env.scope.names.lookup x=Io .local) (hy:X.env.scope.names.lookup y=Io .local) (hz:X.env.scope.names.lookup z=Io .local) (ha:PA X [a,b,c] ta)
  (hw:swappedStores [.Tuple [.Name x px,.Name y py,.Name z pz] kt pt] (.Tuple [a,b,c] k2 pt2) X.env=pure (Io [x,y,z]))
  (hs:swapsWithSole [.Tuple [.Name x px,.Name y py,.Name z pz] kt pt] (.Tuple [a,b,c] k2 pt2) pos.line X.env=pure false:=by rfl) :
  PS X (.Assign [.Tuple [.Name x px,.Name y py,.Name z pz] kt pt] (.Tuple [a,b,c] k2 pt2) pos) (Dl i j k ta):=by
 intro pins s σ H D I h;rw [SN];refine Ip (Lb ?_);rw [hs];refine Ip (IA ?_);rw [if_neg (by decide)];refine Ip (Tuple_ (bf (ha _ pins s σ H _ I h) λus s1 ⟨vs,H1,I1,r1,q1⟩=>?_));obtain⟨v,w,u,e1,q1⟩:=q1;subst e1;obtain⟨u1,u2,u3,rfl,rv,rw',ru⟩:∃ u1 u2 u3,us=[u1,u2,u3]/\RelV v u1/\RelV w u2/\RelV u u3:=by
  cases r1 with
  | cons p q =>
   cases q with
   | cons p' q' =>
    cases q' with
    | cons p'' q'' =>cases q'';exact⟨_,_,_,rfl,p,p',p''⟩
 refine Jt ?_ (by show 3<=sizeLine;decide);have I2:Inv X pins σ H1 { s1 with heap:=s1.heap.push { cls:=.type "tuple",data:=.seq [u1,u2,u3].toArray } }:=I1.kept (t':=s1.toks) λb o e=>Iw _ e;rw [hw];refine Ip (IA ?_);show wpAny (model X.prog X.w) X.A (do rule "assign.swapped-stores";let items <- unpackItems (.ref s1.heap.objs.size) 3 none;assignInOrder [λv=>bindName X.env z v,λv=>bindName X.env y v,λv=>bindName X.env x v] items.reverse;pure Flow.next) _ _ _;refine Ip (Nu (Ip (RF (items:=#[u1,u2,u3]) (I.ok.hd hc) (IsTup.new s1.heap _) λh' hx'=>?_)));have I3:=I2.kept (h':=h') (t':=s1.toks) λb o e=>hx' b o (Jd (IK e)) e;show wpAny _ _ (assignInOrder [λv=>bindName X.env z v,λv=>bindName X.env y v,λv=>bindName X.env x v] [u3,u2,u1] >>= λ_=>pure Flow.next) _ _ _;refine Ip (LS (NC (dc I3 hN hk (.inl hz) ru (λs2 I4=>?_) (.inr hz))));refine LS (NC (dc I4 hN hj (.inl hy) rw' (λs3 I5=>?_) (.inr hy)));refine LS (NC (dc I5 hN hi (.inl hx) rv (λs4 I6=>Pd (IA ?_)) (.inr hx)));have e:((σ.set k (Io u)).set j (Io w)).set i (Io v)=((σ.set i (Io v)).set j (Io w)).set k (Io u):=by rw [PB _ _ (JC hij),PB _ _ (JC hik),PB _ _ (JC hjk)]
 rw [e] at I6;exact⟨_,H1,I6,q1⟩
def EH (K:Iq):List V->Hp->VK->Prop:=λxs H Q=>∃(a:Iy) (bs:List Bool),xs=[.ref a]/\aJ K H a (bs.map V.bl)/\Q (.bl (bs.all id)) H
theorem qG (hc:X.calm=true):dQ X (.builtin "all") (EH X.K):=by
 intro pins s σ H xs us Q I r h;obtain⟨a,bs,rfl,hq,q⟩:=h;obtain⟨u,rfl,ru⟩:=vals1 r;cases ru;obtain⟨its,rv,p,hz⟩:=I.list hq;have hl:=p.isList;have hlt:a<s.heap.objs.size:=by obtain⟨_,e,_⟩:=hl;exact IK e
 have hb:∀(i:Nat) v,its[i]?=Io v->∃ b,bs[i]?=Io b/\v=.bool b:=λi v e=>by
  have hi:i<its.length:=(IB.mp e).1;have hi2:i<bs.length:=by have:=rv.length;rw [Iu] at this;lia
  obtain⟨u,e1,e2⟩:=rv.get (i:=i) (x:=V.bl bs[i]) (by rw [ID,Iv hi2];rfl);rw [e] at e1;cases e1;exact⟨bs[i],Iv hi2,e2⟩
 have hln:its.length=bs.length:=by have:=rv.length;rw [Iu] at this;lia
 refine call_all_walk (MP hl ?_);refine⟨s.heap.objs.size,[s.heap.objs.size,a],[s.heap.objs.size],its.toArray.size,_,_,λi=>(bs[i]?).getD true,rfl,Walks.list (A:=X.A.in1) (I.ok.hd hc) _ a (Jd hlt) its.toArray,
  ⟨⟨_,II _ rfl,rfl,rfl⟩,hl.push _⟩,λi v s' Q' E' hP hQ=>?_,λh' tk hk=>?_⟩
 ·obtain⟨b,e,rfl⟩:=hb i v (by simpa using hP);simp only [e,Ms] at hQ;exact L6 hQ
 ·have e:((Ky its.toArray.size).all λi=>(bs[i]?).getD true)=bs.all id:=by
   rw [IP,hln,L3];simp only [M7,JQ,id];constructor
   ·intro z b hb';obtain⟨i,hi,rfl⟩:=K5.mp hb';have:=z i hi
    rwa [Iv hi,Ms] at this
   ·intro z i hi;rw [Iv hi,Ms];exact z _ (LR hi)
  rw [e];exact⟨.bl _,H,I.kept λb o eb=>hk b o (λhm=>by rw [IW.mp hm] at eb;exact Ka _ (IK eb)) (Iw _ eb),rfl,q⟩
end
def ax (K:Iq) (mg:Jb->Option Ir) (x:Jb) (st:MH):Prop:=∃ f fd,xB K x x st f fd/\mg x=Io (.ref f)
structure Callee (P:IM) (w:Jo) (K:Iq) (mg:Jb->Option Ir) (base:JD) (CX:kM) (k:Nat) (x:Jb) (ps:List Jb) (sp:Sp):Prop where
 ex:∃ f fd,cY P w K mg base CX k f fd ps sp/\mg x=Io (.ref f)/\LU K (.ref f)=true/\Binds K fd ps []
section
variable {P:IM} {w:Jo} {K:Iq} {mg:Jb->Option Ir} {base:JD} {CX:kM} {k:Nat} {x:Jb} {ps:List Jb} {sp:Sp}
theorem Callee.imp {sp':Sp} (C:Callee P w K mg base CX k x ps sp) (h:∀ vs H Q E,sp' vs H Q E->sp vs H Q E):Callee P w K mg base CX k x ps sp':=by obtain⟨f,fd,F,a,b,c⟩:=C.ex;exact⟨f,fd,F.imp h,a,b,c⟩
theorem Callee.mono {j:Nat} (C:Callee P w K mg base CX k x ps sp) (h:k<=j):Callee P w K mg base CX j x ps sp:=by obtain⟨f,fd,F,a,b,c⟩:=C.ex;exact⟨f,fd,F.mono h,a,b,c⟩
theorem bY {X:Cx} {E:XK} {e:JH} {es:List JH} {t:TA} {p pos:Mn} (C:Callee X.prog X.w X.K X.mg X.base CX k x ps sp) (hr:bW k X.A) (hg:Gl X x) (hx:Passes CX X E)
  (ha:PA X (e::es) t) (hdb:(x==("__debug__":Jb))=false:=by decide) (he:starEach (e::es) X.env=(false,eval e X.env)::starEach es X.env:=by rfl) (hpl:(backTo pos (starEach es X.env)).any (·.1)=false:=by rfl) :
  PE X (.Call (.Name x p) (e::es) [] pos) (oF sp [] E t):=by
 obtain⟨f,fd,F,hm,hk,hb⟩:=C.ex;exact u7 F hr hg hm hk hb .nil hx ha hdb he hpl
theorem vT {st:MH} {N:List Jb} (D:ax K mg x st)
  (hb:∀(kV doc pm:Ir) (an:Option Iy) (cdv ct:Ir) (us:List Ir),us.length=ps.length->bindArgs (KG x x (bo st) (aL st) (ak st) .none kV doc pm an cdv ct) ⟨us,[]⟩=pure (ps.zip us))
  (S:aw N ps (ak st)) (len:∀ vs H Q E,sp vs H Q E->vs.length=ps.length)
  (J':∀(f:Iy) (cdv:Ir) (A:Jr) (outer:List NS) (s:Iz) (H:Hp) (vs:List V) (Q:VK) (E:XK),bW k (A.deeper (envOfC x (ak st) s.heap.objs.size f cdv))->sp vs H Q E ->
   ∃ t,iG (dy aQ P w K mg base N x (ak st) f cdv A outer s H E).lY (aL st) t/\t { nx:=λ_ H'=>Q .non H',rt:=Q } (start N vs) H):Callee P w K mg base aQ (k+1) x ps sp:=by
 obtain⟨f,fd,F,hm⟩:=D;exact⟨f,fd,F.ok S len λcdv A outer s H vs Q E hr h=>J' f cdv A outer s H vs Q E hr h,hm,F.kp,F.binds hb⟩
theorem xW {h:JD} {f:Iy} {st:MH} {oc:Ir} {od an:Option Iy} {osl:Array (Option Ir)} {kV doc pm cdv ct:Ir} (X:K.In h) (G:h.Ns mainGlobals mg)
  (a:UA K mainGlobals x=Io (Io (.ref f))) (l:K.lookup f=Io ⟨oc,od,.func (KG x x (bo st) (aL st) (ak st) .none kV doc pm an cdv ct),osl⟩)
  (c:NG K cdv x=true) (kk:LU K (.ref f)=true):ax K mg x st:=⟨f,_,tI l c kk,KZ X G a⟩
end
def jI (cl:List (Jb × Iy)):List (Jb × MV)->Prop
 | []=>True
 | y::r=>(match y.2 with | .free=>(cl.lookup y.1).isSome=true | _=>True)/\jI cl r
theorem jI.get {cl:List (Jb × Iy)}:∀{l:List (Jb × MV)},jI cl l->∀ y∈l,y.2=.free->(cl.lookup y.1).isSome=true
 | [],_,_,h,_=>nomatch h
 | z::r,a,y,h,e=>by
  rcases IU.mp h with q | q
  ·subst q;have:=a.1;rw [e] at this;exact this
  ·exact jI.get a.2 y q e
def iS (X:Cx) (scope:La) (cl:List (Jb × Iy)):List (Option Nat)->List Jb->Prop
 | none::r,_::n=>iS X scope cl r n
 | some j::r,x::n=>(X.N[j]?=Io x/\(cl.lookup x).isSome=true/\(X.env.scope.names.lookup x=Io .cell∨X.env.scope.names.lookup x=Io .free)/\((relabel scope X.env).names.lookup x=Io .cell∨(relabel scope X.env).names.lookup x=Io .free))/\iS X scope cl r n
 | [],[]=>True
 | _,_=>False
theorem iS.len {X:Cx} {scope:La} {cl:List (Jb × Iy)}:∀{js:List (Option Nat)} {N:List Jb},iS X scope cl js N->js.length=N.length
 | [],[],_=>rfl
 | none::r,_::n,h=>by have h':iS X scope cl r n:=h;simp [iS.len h']
 | some j::r,x::n,h=>by have h':iS X scope cl r n:=h.2;simp [iS.len h']
 | [],_::_,h=>h.elim
 | none::_,[],h=>h.elim
 | some _::_,[],h=>h.elim
theorem iS.get {X:Cx} {scope:La} {cl:List (Jb × Iy)}:∀{js:List (Option Nat)} {N:List Jb},iS X scope cl js N->∀(i j:Nat) x,js[i]?=Io (Io j)->N[i]?=Io x ->
  X.N[j]?=Io x/\(cl.lookup x).isSome=true/\Fb X.env.scope x/\X.env.kindOf x≠Io .local/\((relabel scope X.env).names.lookup x=Io .cell∨(relabel scope X.env).names.lookup x=Io .free)
 | [],[],_,i,j,x,e,_=>by simp at e
 | none::r,y::n,h,0,j,x,e,_=>by simp at e
 | none::r,y::n,h,i+1,j,x,e,e2=>iS.get (js:=r) (N:=n) h i j x (by simpa using e) (by simpa using e2)
 | some k::r,y::n,h,0,j,x,e,e2=>by
  have q:k=j:=by simpa using e
  have q2:y=x:=by simpa using e2
  subst q;subst q2;obtain⟨a,b,c,d⟩:=h.1;refine⟨a,b,?_,?_,d⟩
  ·rcases c with c | c
   ·exact .inr (.inl c)
   ·exact .inr (.inr c)
  ·intro z;have z':X.env.scope.names.lookup y=Io .local:=z;rcases c with c | c
   ·rw [c] at z';cases z'
   ·rw [c] at z';cases z'
 | some k::r,y::n,h,i+1,j,x,e,e2=>iS.get (js:=r) (N:=n) h.2 i j x (by simpa using e) (by simpa using e2)
 | [],_::_,h,_,_,_,_,_=>h.elim
 | none::_,[],h,_,_,_,_,_=>h.elim
 | some _::_,[],h,_,_,_,_,_=>h.elim
theorem DN {X:Cx} {N':List Jb} {js:List (Option Nat)} {scope:La} {cl:List (Jb × Iy)} (clos:closureFor scope X.env=pure cl) (kind:scope.kind=.function) (nocell:∀ y∈scope.names,y.2=.cell->scope.names.lookup y.1=Io .cell/\∀ p∈js.zip N',p.1.isSome=true->p.2≠y.1)
  (names:∀ y∈scope.names,y.2=.local->scope.names.lookup y.1=Io .local) (sub:AllIn X.env cl) (has:jI cl scope.names) (j:iS X scope cl js N'):fI X N' js scope cl :=
 ⟨clos,kind,nocell,names,sub,has.get,j.len,j.get⟩
theorem boot_int:bootBuiltins "int"=Io (.type "int"):=by decide +kernel
theorem boot_bool:bootBuiltins "bool"=Io (.type "bool"):=by decide +kernel
theorem boot_tuple:bootBuiltins "tuple"=Io (.type "tuple"):=by decide +kernel
theorem boot_list:bootBuiltins "list"=Io (.type "list"):=by decide +kernel
theorem boot_abs:bootBuiltins "abs"=Io (.builtin "abs"):=by decide +kernel
theorem boot_all:bootBuiltins "all"=Io (.builtin "all"):=by decide +kernel
theorem boot_max:bootBuiltins "max"=Io (.builtin "max"):=by decide +kernel
theorem boot_min:bootBuiltins "min"=Io (.builtin "min"):=by decide +kernel
theorem aj {H:Hp} {p:Iy} {o:HO} (h:H p=none):av H (upd H p o):=λb u q=>by rw [ao (aP q h)];exact q
theorem aW {α:Type} {c:TT} {tb:TS} {D:Ends} {σ:St} {H:Hp} (S:α->St) (Pv:α->Hp->Prop) (μ:α->Nat) (x₀:α) (hσ:σ=S x₀) (h0:Pv x₀ H)
  (hs:∀ x H,Pv x H->c (S x) H λb H1=>if b=true then (∃ N:St->Hp->Prop,(∀ σ' H',N σ' H'->∃ y,σ'=S y/\Pv y H'/\μ y<μ x)/\tb { D with nx:=N,ct:=N,bk:=D.nx } (S x) H1) else D.nx (S x) H1):Ar c tb D σ H:=by
 subst hσ;refine⟨λm σ H=>∃ x,σ=S x/\Pv x H/\m=μ x,⟨_,x₀,rfl,h0,rfl⟩,?_⟩;rintro m σ H ⟨x,rfl,p,rfl⟩;have q:=hs x H p;have e:(λb H1=>if b=true then (∃ N:St->Hp->Prop,(∀ σ' H',N σ' H'->∃ y,σ'=S y/\Pv y H'/\μ y<μ x)/\tb { D with nx:=N,ct:=N,bk:=D.nx } (S x) H1) else D.nx (S x) H1) =
   (λb H1=>if b=true then (∃ N:St->Hp->Prop,(∀ σ' H',N σ' H'->∃ m',m'<μ x/\∃ y,σ'=S y/\Pv y H'/\m'=μ y)/\tb { D with nx:=N,ct:=N,bk:=D.nx } (S x) H1) else D.nx (S x) H1):=by
  funext b H1;cases b with
  | false=>rfl
  | true =>
   simp only [if_true];refine propext ⟨fun⟨N,hN,z⟩=>⟨N,λσ' H' n=>?_,z⟩,fun⟨N,hN,z⟩=>⟨N,λσ' H' n=>?_,z⟩⟩
   ·obtain⟨y,e1,e2,e3⟩:=hN σ' H' n;exact⟨_,e3,y,e1,e2,rfl⟩
   ·obtain⟨m',l,y,e1,e2,e3⟩:=hN σ' H' n;exact⟨y,e1,e2,e3▸l⟩
 rw [e] at q;exact q
end L2
namespace Gcd
structure J (A B g u v ng nu nv:Int):Prop where
 g0:0<=g
 n0:0<=ng
 e1:u*A+v*B=g
 e2:nu*A+nv*B=ng
 ex:∃ s U NU V NV:Int,(s=1∨s = -1)/\0<=U/\0<=NU/\0<=V/\0<=NV/\u=s*U/\nu = -s*NU/\v = -s*V/\nv=s*NV/\g*NU+ng*U=B/\g*NV+ng*V=A /\
  (U<=1∨U<=B)/\(NU<=1∨NU<=B)/\(V<=1∨V<=A)/\(NV<=1∨NV<=A)
theorem J.start {A B:Int} (ha:0<=A) (hb:0<=B):J A B A 1 0 B 0 1 :=
 ⟨ha,hb,by grind,by grind,1,1,0,0,1,.inl rfl,by decide,by decide,by decide,by decide,by grind,by grind,by grind,by grind,by grind,by grind,.inl (by decide),.inl (by decide),.inl (by decide),.inl (by decide)⟩
theorem nL {n x B:Int} (hn:0<n) (hx:0<=x) (h:n*x<=B):x<=B:=by have:1*x<=n*x:=Jj hn hx;lia
theorem J.turn {A B g u v ng nu nv:Int} (j:J A B g u v ng nu nv) (hn:0<ng) :
  J A B ng nu nv (g-g/ng*ng) (u-g/ng*nu) (v-g/ng*nv)/\(g-g/ng*ng)<ng/\0<=g/ng/\g/ng<=g:=by
 have q0:0<=g/ng:=L5 j.g0 j.n0;have r:=Int.emod_def g ng;have r0:=Jn g (show ng≠0 by lia);have r1:=Jg g hn;have ql:g/ng<=g:=PR ng j.g0;have e1:=j.e1;have e2:=j.e2;have hc:g/ng*ng=ng*(g/ng):=JM _ _;generalize g/ng=q at *;obtain⟨s,U,NU,V,NV,hs,hU,hNU,hV,hNV,eu,enu,ev,env,b1,b2,l1,l2,l3,l4⟩:=j.ex;have hqNU:0<=q*NU:=Mt q0 hNU;have hqNV:0<=q*NV:=Mt q0 hNV;have rr:0<=g-q*ng:=by lia
 have i1:ng*(U+q*NU)+(g-q*ng)*NU=B:=by grind
 have i2:ng*(V+q*NV)+(g-q*ng)*NV=A:=by grind
 have n1:0<=(g-q*ng)*NU:=Mt rr hNU;have n2:0<=(g-q*ng)*NV:=Mt rr hNV;refine⟨⟨j.n0,rr,e2,by grind,-s,NU,U+q*NU,NV,V+q*NV,by lia,hNU,by lia,hNV,by lia,by grind,by grind,by grind,by grind,i1,i2,l2,.inr (nL hn (by lia) (by lia)),l4,.inr (nL hn (by lia) (by lia))⟩,by lia,q0,ql⟩
structure Fe (a b g u v:Int):Prop where
 g0:0<=g
 lin:u*a+v*b=g
 da:g∣a
 db:g∣b
 bu:u.natAbs<=max 1 b.natAbs
 bv:v.natAbs<=max 1 a.natAbs
theorem Fy {s U u:Int} (hs:s=1∨s = -1) (hU:0<=U) (e:u=s*U):u.natAbs=U.toNat:=by rcases hs with rfl | rfl<;>lia
theorem Fx {s V v:Int} (hs:s=1∨s = -1) (hV:0<=V) (e:v = -s*V):v.natAbs=V.toNat:=by rcases hs with rfl | rfl<;>lia
theorem yr {a u:Int}:(if a<0 then -u else u).natAbs=u.natAbs:=by
 split
 ·exact Int.natAbs_neg u
 ·rfl
theorem yw {a u:Int}:(if a<0 then -u else u)*a=u*(if a<0 then -a else a):=by
 split
 ·rw [QK,SD]
 ·rfl
theorem yu {a g:Int} (h:g∣if a<0 then -a else a):g∣a:=by
 split at h
 ·exact Pn.mp h
 ·exact h
theorem yv {U b:Int} (h:U<=1∨U<=if b<0 then -b else b):U.toNat<=max 1 b.natAbs:=by split at h<;>lia
theorem J.done {a b g u v nu nv:Int} (j:J (if a<0 then -a else a) (if b<0 then -b else b) g u v 0 nu nv):Fe a b g (if a<0 then -u else u) (if b<0 then -v else v):=by
 have e1:=j.e1;obtain⟨s,U,NU,V,NV,hs,hU,hNU,hV,hNV,eu,enu,ev,env,b1,b2,l1,l2,l3,l4⟩:=j.ex;refine⟨j.g0,by rw [yw,yw];exact e1,yu ⟨NV,by rw [<- b2,UB,NL]⟩,yu ⟨NU,by rw [<- b1,UB,NL]⟩,?_,?_⟩
 ·rw [yr,Fy hs hU eu];exact yv l1
 ·rw [yr,Fx hs hV ev];exact yv l3
theorem J.small {A B g u v ng nu nv M:Int} (j:J A B g u v ng nu nv) (hA:0<=A) (hB:0<=B) (hAM:A<=M) (hBM:B<=M) (hM:1<=M):(-M<=u/\u<=M)/\(-M<=v/\v<=M)/\(-M<=nu/\nu<=M)/\(-M<=nv/\nv<=M):=by
 obtain⟨s,U,NU,V,NV,hs,hU,hNU,hV,hNV,eu,enu,ev,env,b1,b2,l1,l2,l3,l4⟩:=j.ex;rcases hs with rfl | rfl
 ·refine⟨⟨?_,?_⟩,⟨?_,?_⟩,⟨?_,?_⟩,⟨?_,?_⟩⟩<;>lia
 ·refine⟨⟨?_,?_⟩,⟨?_,?_⟩,⟨?_,?_⟩,⟨?_,?_⟩⟩<;>lia
end Gcd
namespace L2
open PySem PySem.Spec PyProof.Rows
theorem av.upd {H H1:Hp} {p:Iy} {o:HO} (h:av H H1) (hp:H p=none):av H (upd H1 p o):=λb u q=>by rw [ao (aP q hp)];exact h b u q
theorem av.E4 {H H1:Hp} {p:Iy} {o:HO} (h:av H H1) (hp:H1 p=none):av H (L2.upd H1 p o):=h.upd (h.free hp)
theorem DK {α:Type} {xs:List α} {k:Int} (h0:0<=k) (h1:k<xs.length):∃ v,uE xs k=Io v/\xs[k.toNat]?=Io v:=by
 have hk:k.toNat<xs.length:=by lia
 refine⟨xs[k.toNat],?_,Iv hk⟩;have:=fJ (xs:=xs) (j:=k.toNat) (Iv hk)
 rwa [JR h0] at this
theorem uQ {K:Iq} {H:Hp} {p:Iy} {xs:List V} {k:Int} {Q:VK} (h:aJ K H p xs) (h0:0<=k) (h1:k<xs.length) (q:∀ v∈xs,Q v H):wY K (.ref p) (.int k) H Q:=by obtain⟨v,e,e2⟩:=DK h0 h1;exact⟨p,xs,k,v,rfl,rfl,h,e,q v (IC e2)⟩
theorem fb {K:Iq} {H:Hp} {p:Iy} {xs:List V} {k:Int} {v:V} {Q:VK} (h:aJ K H p xs) (h0:0<=k) (e:xs[k.toNat]?=Io v) (q:Q v H):wY K (.ref p) (.int k) H Q:=by have:=fJ e;rw [JR h0] at this;exact⟨p,xs,k,v,rfl,rfl,h,this,q⟩
def Loop (J:It) (g:TG) (tb:TS) (D:Ends) (σ:St) (H:Hp):Prop:=∃ W:Nat->Nat->St->Hp->Prop,(∃ m,W 0 m σ H)/\∀ i m σ H,W i m σ H ->
 (J.stop i H/\D.nx σ H)∨(J.go i H/\∃ N:St->Hp->Prop,(∀ σ' H',N σ' H'->∃ m',m'<m/\W (i+1) m' σ' H')/\∀ x H',J.yld i H x H'->g x σ H' λσ2 H2=>tb { D with nx:=N,ct:=N,bk:=D.nx } σ2 H2)
theorem Ck {wi:TI} {g:TG} {tb:TS} {D:Ends} {σ:St} {H:Hp}:Gq wi g tb D σ H=wi σ H λJ H1=>Loop J g tb D σ H1:=rfl
theorem cT {lo:Int} {n:Nat} {g:TG} {tb:TS} {D:Ends} {σ:St} {H:Hp} (Pv:Nat->St->Hp->Prop) (h0:Pv 0 σ H)
  (hs:∀ i σ H,i<n->Pv i σ H->g (.int (lo+i)) σ H λσ2 H2=>tb { D with nx:=Pv (i+1),ct:=Pv (i+1),bk:=D.nx } σ2 H2) (hd:∀ σ H,Pv n σ H->D.nx σ H):Loop (CA lo n) g tb D σ H:=vZ Pv h0 hs hd
theorem fu {K:Iq} {a:Iy} {xs:List V} {g:TG} {tb:TS} {D:Ends} {σ:St} {H:Hp} (Pv:Nat->St->Hp->Prop) (h0:Pv 0 σ H) (hl:∀ i σ H,i<=xs.length->Pv i σ H->aJ K H a xs)
  (hs:∀ i x σ H,xs[i]?=Io x->Pv i σ H->g x σ H λσ2 H2=>tb { D with nx:=Pv (i+1),ct:=Pv (i+1),bk:=D.nx } σ2 H2) (hd:∀ σ H,Pv xs.length σ H->D.nx σ H):Loop (AJ K a) g tb D σ H:=yf Pv h0 hl hs hd
theorem lR {K:Iq} {a:Iy} {xs:List V} {g:TG} {tb:TS} {D:Ends} {σ:St} {H:Hp} (Pv:Nat->St->Hp->Prop) (h0:Pv 0 σ H) (hl:∀ i σ H,i<=xs.length->Pv i σ H->bj K H a xs)
  (hs:∀ i x σ H,xs[i]?=Io x->Pv i σ H->g x σ H λσ2 H2=>tb { D with nx:=Pv (i+1),ct:=Pv (i+1),bk:=D.nx } σ2 H2) (hd:∀ σ H,Pv xs.length σ H->D.nx σ H):Loop (Dy K a) g tb D σ H:=Bi Pv h0 hl hs hd
def lh (J:It) (js:List (Option Nat)) (g:TG) (tt:TT) (te:TE) (σ:St) (Q:VK) (H1:Hp):Prop:=∃ W:Nat->Nat->List V->Hp->Prop,(∃ m,W 0 m [] H1)/\∀ i m ys H,W i m ys H ->
 (J.stop i H/\ys.length<=sizeLine/\∀ p,H p=none->Q (.ref p) (upd H p (.lst ys))) ∨
 (J.go i H/\ys.length<sizeLine/\∃ N:List V->Hp->Prop,(∀ ys' H',N ys' H'->∃ m',m'<m/\W (i+1) m' ys' H') /\
  ∀ x H',J.yld i H x H'->g x (cH js σ) H' λσ2 H2=>bE (cH js σ) σ2/\tt σ2 H2 λb H3=>if b=true then te σ2 H3 λv H4=>N (ys++[v]) H4 else N ys H3)
theorem EV {js:List (Option Nat)} {wi:TI} {g:TG} {tt:TT} {te:TE} {σ:St} {H:Hp} {Q:VK}:Gr js wi g tt te σ H Q=wi σ H λJ H1=>lh J js g tt te σ Q H1:=rfl
theorem aY {K:Iq} {a:Iy} {xs:List V} {js:List (Option Nat)} {g:TG} {tt:TT} {te:TE} {σ:St} {Q:VK} {H1:Hp} (Pv:Nat->List V->Hp->Prop) (h0:Pv 0 [] H1) (hx:xs.length<=sizeLine) (hl:∀ i ys H,i<=xs.length->Pv i ys H->aJ K H a xs/\ys.length<=i)
  (hs:∀ i x ys H,xs[i]?=Io x->Pv i ys H->g x (cH js σ) H λσ2 H2=>bE (cH js σ) σ2/\tt σ2 H2 λb H3=>if b=true then te σ2 H3 λv H4=>Pv (i+1) (ys++[v]) H4 else Pv (i+1) ys H3)
  (hd:∀ ys H p,Pv xs.length ys H->H p=none->Q (.ref p) (upd H p (.lst ys))):lh (AJ K a) js g tt te σ Q H1:=by
 refine⟨λi m ys H=>m=xs.length-i/\i<=xs.length/\Pv i ys H,⟨xs.length,by simp,J4 _,h0⟩,?_⟩;rintro i m ys H ⟨rfl,hi,p⟩;obtain⟨q,hy⟩:=hl i ys H hi p;by_cases hlt:i<xs.length
 ·refine .inr ⟨⟨xs,xs[i],q,by simp [hlt]⟩,by lia,Pv (i+1),λys' H' p'=>⟨xs.length-(i+1),by lia,rfl,hlt,p'⟩,λx H' y=>?_⟩;obtain⟨e,y⟩:=y;subst e;exact hs i x ys _ (y xs q) p
 ·have e:i=xs.length:=by lia
  subst e;exact .inl ⟨⟨xs,q,IF _⟩,by lia,λp' hp'=>hd ys H p' p hp'⟩
theorem gU {K:Iq} {a:Iy} {xs:List V} {js:List (Option Nat)} {g:TG} {tt:TT} {te:TE} {σ:St} {Q:VK} {H1:Hp} (Pv:Nat->List V->Hp->Prop) (h0:Pv 0 [] H1) (hx:xs.length<=sizeLine) (hl:∀ i ys H,i<=xs.length->Pv i ys H->bj K H a xs/\ys.length<=i)
  (hs:∀ i x ys H,xs[i]?=Io x->Pv i ys H->g x (cH js σ) H λσ2 H2=>bE (cH js σ) σ2/\tt σ2 H2 λb H3=>if b=true then te σ2 H3 λv H4=>Pv (i+1) (ys++[v]) H4 else Pv (i+1) ys H3)
  (hd:∀ ys H p,Pv xs.length ys H->H p=none->Q (.ref p) (upd H p (.lst ys))):lh (Dy K a) js g tt te σ Q H1:=by
 refine⟨λi m ys H=>m=xs.length-i/\i<=xs.length/\Pv i ys H,⟨xs.length,by simp,J4 _,h0⟩,?_⟩;rintro i m ys H ⟨rfl,hi,p⟩;obtain⟨q,hy⟩:=hl i ys H hi p;by_cases hlt:i<xs.length
 ·refine .inr ⟨⟨xs,xs[i],q,by simp [hlt]⟩,by lia,Pv (i+1),λys' H' p'=>⟨xs.length-(i+1),by lia,rfl,hlt,p'⟩,λx H' y=>?_⟩;obtain⟨e,y⟩:=y;subst e;exact hs i x ys _ (y xs q) p
 ·have e:i=xs.length:=by lia
  subst e;exact .inl ⟨⟨xs,q,IF _⟩,by lia,λp' hp'=>hd ys H p' p hp'⟩
theorem H0 {CX:kM} {P:IM} {w:Jo} {K:Iq} {mg:Jb->Option Ir} {base:JD} {N:List Jb} {qual:Jb} {scope:La} {f:Iy} {cd:Ir} {A:Jr} {outer:List NS} {s:Iz} {H:Hp} {E:XK} :
  (dy CX P w K mg base N qual scope f cd A outer s H E).K=K:=rfl
theorem FF {X:Cx} {N':List Jb} {scope:La} {cl:List (Jb × Iy)} {C:Iy} {s₂:Iz} {H₂:Hp} {fp:List Iy}:(c6 X N' scope cl C s₂ H₂ fp).K=X.K:=rfl
theorem bh {K:Iq} {b k:Bool} {H:Hp}:AR K (.bl b) H k=(k=b):=rfl
theorem Ax {K:Iq} {i:Int} {k:Bool} {H:Hp}:AR K (.int i) H k=(k=(i != 0)):=rfl
def BY (K:Iq):List V->Hp->VK->Prop:=λxs H Q=>∃ p ys,xs=[.ref p]/\(aJ K H p ys∨bj K H p ys)/\Q (.int ys.length) H
theorem aX {X:Cx}:dQ X (.builtin "len") (BY X.K):=oM
theorem cf {K:Iq} {H:Hp} {p:Iy} {xs:List V} {Q:VK} (h:aJ K H p xs) (q:Q (.int xs.length) H):BY K [.ref p] H Q:=⟨p,xs,rfl,.inl h,q⟩
theorem i9 {K:Iq} {H:Hp} {p:Iy} {xs:List V} {Q:VK} (h:bj K H p xs) (q:Q (.int xs.length) H):BY K [.ref p] H Q:=⟨p,xs,rfl,.inr h,q⟩
theorem xF {K:Iq} {H:Hp} {p:Iy} {bs:List Bool} {Q:VK} (h:aJ K H p (bs.map V.bl)) (q:Q (.bl (bs.all id)) H):EH K [.ref p] H Q:=⟨p,bs,rfl,h,q⟩
theorem vj {a b:Int}:pW (.int a) (.int b)=true:=rfl
theorem B7 {a b:Bool}:pW (.bl a) (.bl b)=true:=rfl
theorem B9 {a:Int}:pW (.int a) .non=true:=rfl
theorem Ca {a:Int}:pW .non (.int a)=true:=rfl
theorem Cb:pW .non .non=true:=rfl
theorem B8 {a:Bool}:pW (.bl a) .non=true:=rfl
theorem Cd {a b:Jb}:pW (.str a) (.str b)=true:=rfl
def Gm (t:TS):TS:=λD σ H=>∃ R:St->Hp->Prop,t { D with nx:=R } σ H/\∀ σ' H',R σ' H'->D.nx σ' H'
theorem cw {X:Cx} {st:MH} {t:TS} (h:PS X st t):PS X st (Gm t):=by
 intro pins s σ H D I ⟨R,hw,hR⟩;refine bf (h pins s σ H _ I hw) λf s' q=>?_;cases f with
 | next=>obtain⟨σ',H',I',r⟩:=q;exact⟨σ',H',I',hR _ _ r⟩
 | brk=>exact q
 | cont=>exact q
 | ret u=>exact q
theorem Bh {P:IM} {w:Jo} {K:Iq} {mg:Jb->Option Ir} {base:JD} {k:Nat} {x:Jb} {ps:List Jb} {sp:Sp} {st:MH} {N:List Jb} {f:Iy} {fd:KW} (F:xB K x x st f fd)
  (S:aw N ps (ak st)) (len:∀ vs H Q E,sp vs H Q E->vs.length=ps.length)
  (J':∀(cdv:Ir) (A:Jr) (outer:List NS) (s:Iz) (H:Hp) (vs:List V) (Q:VK) (E:XK),bW k (A.deeper (envOfC x (ak st) s.heap.objs.size f cdv))->sp vs H Q E ->
   ∃ t,iG (dy aQ P w K mg base N x (ak st) f cdv A outer s H E).lY (aL st) t/\t { nx:=λ_ H'=>Q .non H',rt:=Q } (start N vs) H):cY P w K mg base aQ (k+1) f fd ps sp :=
 F.ok S len λcdv A outer s H vs Q E hr h=>J' cdv A outer s H vs Q E hr h
theorem Bn {P:IM} {w:Jo} {K:Iq} {mg:Jb->Option Ir} {k:Nat} {x y:Jb} {sp:Sp} {st:MH} {fa:Iy} (hfa:mg x=Io (.ref fa)) (D:ax K mg x st)
  (hb:∀(kV doc pm:Ir) (an:Option Iy) (cdv ct:Ir) (u:Ir),bindArgs (KG x x (bo st) (aL st) (ak st) .none kV doc pm an cdv ct) ⟨[u],[]⟩=pure [(y,u)])
  (ok:∀(base:JD) (f:Iy) (fd:KW),K.In base->xB K x x st f fd->cY P w K mg base aQ k f fd [y] sp) :
  ∃ fd:KW,(∀(s:Iz) (u:Ir),RM s fd ⟨[u],[]⟩ [(y,u)])/\∀ base:JD,K.In base->base.Ns mainGlobals mg->cY P w K mg base aQ k fa fd [y] sp:=by
 obtain⟨f,fd,F,hm⟩:=D;have e:=hfa.symm.trans hm;cases e;refine⟨fd,λs u=>?_,λbase kb _=>ok base _ _ kb F⟩;obtain⟨oc,od,kV,doc,pm,an,cdv,ct,osl,rfl,lk,hcd⟩:=F.ex;exact .of_eq (hb kV doc pm an cdv ct u)
end L2
namespace L2
open PySem PySem.Spec PyProof.Rows PySem.W
noncomputable def cQ:List Ir:=[.type "ValueError",.type "Exception",.type "BaseException",.type "object"]
def cE:List Ir->Bool
 | .ref _::r=>cE r
 | l=>l==cQ
theorem rT (self:Ir):refuseLoop self "__setattr__" cQ=pure ():=by kernel_rfl
theorem mr (self:Ir):∀{l:List Ir},cE l=true->refuseLoop self "__setattr__" l=pure ()
 | .ref c::r,e=>by rw [refuseLoop_ref];exact mr self (l:=r) e
 | [],e=>by cases e
 | .type n::r,e=>by
  have:MA n::r=cQ:=by simpa [cE] using e
  rw [this];exact rT self
 | .none::r,e=>by simp [cE,cQ] at e
 | .bool _::r,e=>by simp [cE,cQ] at e
 | .int _ _::r,e=>by simp [cE,cQ] at e
 | .str _ _::r,e=>by simp [cE,cQ] at e
 | .bytes _ _::r,e=>by simp [cE,cQ] at e
 | .float _ _::r,e=>by simp [cE,cQ] at e
 | .builtin _::r,e=>by simp [cE,cQ] at e
theorem oW {l:List Ir}:cE l=true->l.contains (.type "object")=true/\l.contains (.type "BaseException")=true/\l.isEmpty=false:=by
 intro h
 induction l with
 | nil=>cases h
 | cons a r ih =>
  cases a with
  | ref c =>obtain⟨h1,h2,_⟩:=ih h;exact⟨by rw [Lq,h1,OC],by rw [Lq,h2,OC],rfl⟩
  | type n =>
   have e:MA n::r=cQ:=by simpa [cE] using h
   rw [e];exact⟨by decide,by decide,rfl⟩
  | _=>simp [cE,cQ] at h
section
variable {prog:IM} {w:Jo} {A:Jr} {E:Ir->Iz->Prop} {s:Iz} {K:Iq} {x C:Iy} {name:Jb} {v:Ir} {cd:Uw}
theorem Bg {vs:Array Ir} {sl:Array (Option Ir)} {Q:Unit->Iz->Prop} (X:K.In s.heap) (hx:s.heap.get? x=Io ⟨.ref C,none,.fields vs,sl⟩) (hc:clsIn K C=Io cd) (hm:cE cd.mro=true) (hh:cd.hasDict=true)
  (hs:findIn K (.ref C) "__setattr__"=Io (Io (.builtin "object.__setattr__"))) (hn:findIn K (.ref C) name=Io none)
  (h:∀ h',h'.get? x=Io ⟨.ref C,Io s.heap.objs.size,.fields vs,sl⟩->h'.Ns1 s.heap.objs.size (λy=>if y=name then Io v else none)->(∀ b ob,b≠x->s.heap.get? b=Io ob->h'.get? b=Io ob)->Q () { s with heap:=h',toks:=s.toks+2 }) :
  wpAny (model prog w) A (setAttr (.ref x) name v) Q E s:=by
 have I:Tg s.heap x ⟨.ref C,none,.fields vs,sl⟩ C none:=⟨hx,rfl,rfl,True.intro⟩
 obtain⟨m1,m2,m3⟩:=oW hm;refine RI X I hs ?_;have SF:=PySem.F.store_object;have sub:Vp (model prog w) s.heap (isInstance (.ref x) (.type "object")) true:=I.type.andThen (looks_mroIn X (by unfold mroIn;rw [hc,PU,if_neg (by rw [m3];decide),m1]));refine Oe SF.slot.plain SF.entry (@check_slot (model prog w) _ _ { s with toks:=s.toks+1 } "object.__setattr__" "object" "__setattr__" (.ref x) [.str name s.toks,v] [] _ SF.kind SF.split sub (SF.args (.ref x) (.str name s.toks) v) ?_);have L1:Vp (model prog w) s.heap (mroOf (.ref C)) cd.mro:=(Q1 X hc).andThen .now;rw [osa_eq,refuse_eq];refine Ip (Ip (N4 (s:={ s with toks:=s.toks+1 }) I.type (Ip (N4 (s:={ s with toks:=s.toks+1 }) L1 ?_))));rw [mr _ hm];refine IA (Ip (N4 (s:={ s with toks:=s.toks+1 }) I.type (Ip (N4 (s:={ s with toks:=s.toks+1 }) (Qs X hn) (Ip (IA ?_))))));show wpAny _ _ (Builtin.ObjectAttr.storeInOwnDict (.ref x) (.ref C) (.str name s.toks) name v false) _ _ _;refine Ip (IA (Ip (Ip (Th hx (Ip (N4 (s:={ s with toks:=s.toks+1 }) (Q1 X hc) ?_))))));rw [hh];refine Ip (SA ?_);have hlt:x≠s.heap.objs.size:=Jd (IK hx);have hp:(s.heap.push { cls:=.type "dict",data:=.dict #[] }).get? x=Io ⟨.ref C,none,.fields vs,sl⟩:=Iw _ hx;refine Ip (wpAny_update (s:={ s with toks:=s.toks+1,heap:=s.heap.push { cls:=.type "dict",data:=.dict #[] } }) hp ?_);refine IA ?_;show wpAny _ _ (Builtin.ObjectAttr.storeInDict s.heap.objs.size (.str name s.toks) name v) _ _ _;generalize hu:(s.heap.push { cls:=.type "dict",data:=.dict #[] }).update x (λo=>{ o with dict:=Io s.heap.objs.size })=h1;have g1:h1.get? x=Io ⟨.ref C,Io s.heap.objs.size,.fields vs,sl⟩:=by rw [<- hu];exact Jx _ hp rfl
 have g2:∀ b,b≠x->h1.get? b=(s.heap.push { cls:=.type "dict",data:=.dict #[] }).get? b:=λb hb=>by rw [<- hu];exact Jc _ _ (JC hb)
 have g3:h1.Ns1 s.heap.objs.size (λ_=>none):=by
  have e1:h1.get? s.heap.objs.size=Io { cls:=.type "dict",data:=.dict #[] }:=by rw [g2 _ (JC hlt)];exact II _ rfl
  have e3:h1.Ns s.heap.objs.size (λ_=>none):=⟨_,#[],_,e1,rfl,(λe he=>absurd he (by simp)),λ_=>rfl⟩
  exact Heap.Ns1.of_empty e3
 refine Ip (IA (Ip ?_));refine wpAny_nsSet1 (s:={ s with toks:=s.toks+1,heap:=h1 }) g3 λh' hn2 hs2=>?_;obtain⟨oD,esD,epD,hoD,hdD,hcD⟩:=hn2.count (ns:=[name]) (PySem.Within.cons name v (ns:=[]) (λy hy=>absurd rfl hy));refine Ip (R7 hoD (by rw [hdD];exact R8 (IJ hcD (by show 1<=sizeLine+1;decide))) ?_);refine IA (h h' ((hs2.2 _ hlt).trans g1) hn2 λb ob hb e=>?_);have hb2:b≠s.heap.objs.size:=Jd (IK e);exact (hs2.2 b hb2).trans ((g2 b hb).trans (Iw _ e))
structure fg (K:Iq) (C:Iy):Prop where
 cls:∃ cd,clsIn K C=Io cd/\cE cd.mro=true/\cd.hasDict=true
 at_:∃ od cd sl,K.lookup C=Io ⟨.type "type",od,.cls cd,sl⟩
 sa:findIn K (.ref C) "__setattr__"=Io (Io (.builtin "object.__setattr__"))
 ga:findIn K (.ref C) "__getattribute__"=Io (Io (.builtin "BaseException.__getattribute__"))
 gx:findIn K (.ref C) "__getattr__"=Io none
 ca:findIn K (.ref C) "__class__"=Io (Io (.builtin "object.__class__"))
 gs:specialIn K (.builtin "object.__class__") "__get__"=Io (Io (.builtin "getset_descriptor.__get__"))
 tk:takesIn K (.builtin "object.__class__")=Io true
end
section
variable {prog:IM} {w:Jo} {A:Jr} {E:Ir->Iz->Prop} {h:JD} {g:Array OJ} {d:Ut} {t:Nat} {os:UC}
variable {nm q:Jb} {C N:Iy} {bs bm:List Ir} {P':Bool} {sn:List Jb} {sub:List Ir} {ab:Bool} {col:Option Bool} {dd:Option Iy} {k0 k1 k2 k3 k5:Option Ir}
abbrev mW:String := "ValueError.__new__"
noncomputable abbrev newExc (C a:Iy):K9:={ cls:=.ref C,data:=.fields #[.ref a,.none,.none,.none,.bool false,.none] }
theorem Bf (hB:bm.contains (.type "ValueError")=true) (hA:bm.contains (.type "AttributeError")=false) (hN:bm.contains (.type "NameError")=false) {rest:List Ir} {R:QH->Iz->Prop}
  (hC:h.get? C=Io (excClassObj nm q C N bs bm P' sn sub ab col dd k0 k1 k2 k3 k5 mW)) (hrest:rest.length<=sizeLine)
  (hq:R (.ok (.ret (.ref (h.objs.size+1)))) ⟨(h.push { cls:=.type "tuple",data:=.seq rest.toArray }).push (newExc C h.objs.size),g,d,t,os⟩) :
  codeAny (model prog w) A (.builtin mW ⟨.ref C::rest,[]⟩) R ⟨h,g,d,t,os⟩:=by
 have Fn:=Lg;have hends:=Fn.ends;have cB:(Ji C::bm).contains (.type "ValueError")=true:=by rw [Lq,hB,OC]
 have cA:(Ji C::bm).contains (.type "AttributeError")=false:=by rw [Lq,hA];rfl
 have cN:(Ji C::bm).contains (.type "NameError")=false:=by rw [Lq,hN];rfl
 refine codeAny_builtinAt Fn.entry ?_;unfold Mo.«BaseException.__new__»;refine SW ?_;show PySem.wpAt _ _ _ (stack >>= _) _ _ _;refine SW (PySem.wpAt_stack λp below=>Q5 ?_)
 wp_walk
 refine Q5 ?_;rw [Fn.owner]
 repeat (first | with_reducible refine wpAny_madeHere_exc Fn.canon hC ?_ | with_reducible refine KR hC ?_ | (with_reducible refine Nd hC ?_;first | rw [cB] | rw [cA] | rw [cN]) | wp_step)
 show R _ _;rw [JL];exact hq
theorem mO (hB:bm.contains (.type "ValueError")=true) {rest:List Ir} {M:RE} {Q:Unit->Iz->Prop} (hC:h.get? C=Io (excClassObj nm q C N bs bm P' sn sub ab col dd k0 k1 k2 k3 k5 mW))
  (hq:Q () ⟨h,g,d,t,os⟩):wpAny M A (checkBuiltinCall mW ⟨.ref C::rest,[]⟩) Q E ⟨h,g,d,t,os⟩:=by
 have Fn:=Lg;have cB:(Ji C::bm).contains (.type "ValueError")=true:=by rw [Lq,hB,OC]
 have hstar:=Fn.noStar;simp only [checkBuiltinCall,Fn.newKind,Fn.newSplit,Fn.newRow]
 repeat (first | refine KR hC ?_ | (refine Nd hC ?_;rw [cB]) | refine wpAny_staticBase_exc hC ?_ | refine Sg hC ?_ | simp only [bne_self_eq_false,Lr,if_false] | wp_step)
 exact hq
theorem oX {K:Iq} {i:Ir} {rest:List Ir} {Q:Fin->Iz->Prop} (X:K.In h) (hB:bm.contains (.type "ValueError")=true) (hA:bm.contains (.type "AttributeError")=false) (hN:bm.contains (.type "NameError")=false)
  (hC:h.get? C=Io (excClassObj nm q C N bs bm P' sn sub ab col dd k0 k1 k2 k3 k5 mW)) (hrest:rest.length<=sizeLine) (hi:findIn K (.ref C) "__init__"=Io (Io i)) {j:Ir}
  (hb:Vp (model prog w) h (bindSpecial i (.ref (h.objs.size+1))) (j,[.ref (h.objs.size+1)]))
  (hq:codeAny (model prog w) A (.call j ⟨.ref (h.objs.size+1)::rest,[]⟩) (λr s'=>match r with | .ok (.ret v)=>v=.none/\Q (.done (.ret (.ref (h.objs.size+1)))) s' | .ok _=>False | .error e=>E e s')
   ⟨(h.push { cls:=.type "tuple",data:=.seq rest.toArray }).push (newExc C h.objs.size),g,d,t,os⟩) :
  wpAny (model prog w) A (Mo.«type.__call__» ⟨.ref C::rest,[]⟩) Q E ⟨h,g,d,t,os⟩:=by
 have Fn:=Lg
 repeat (first | with_reducible refine KR hC ?_ | with_reducible refine Sg hC ?_ | wp_step)
 refine codeAny_call_builtin_code (OT _ Fn.quiet) (mO hB hC ?_);refine Bf hB hA hN hC hrest ?_;show wpAny _ _ _ _ _ _;have kp:∀ b o,h.get? b=Io o->((h.push { cls:=.type "tuple",data:=.seq rest.toArray }).push (newExc C h.objs.size)).get? b=Io o:=λb o e=>Iw _ (Iw _ e);have hget:((h.push { cls:=.type "tuple",data:=.seq rest.toArray }).push (newExc C h.objs.size)).get? (h.objs.size+1)=Io (newExc C h.objs.size):=by
  have:=II (h.push { cls:=.type "tuple",data:=.seq rest.toArray }) (o:=newExc C h.objs.size) rfl
  rwa [JL] at this
 have cC:(Ji C::bm).contains (.ref C)=true:=by simp
 have hC₁:=kp _ _ hC;have L1:=(Qs (M:=model prog w) X hi).keeps kp;have L2:=hb.keeps kp;unfold isInstance
 repeat (first | with_reducible refine KR hget ?_ | (with_reducible refine Nd hC₁ ?_;rw [cC]) | wp_step)
 show wpAny _ _ (typeLookup (.ref C) _) _ _ _;refine L1.at (Kl (Ip (L2.at (Ip (P6 (Lf hq λr s' z=>?_))))));rcases r with e | (_ | _ | _ | v)
 ·exact z
 ·exact z.elim
 ·exact z.elim
 ·exact z.elim
 ·obtain⟨rfl,z⟩:=z;exact IA (IA z)
theorem qT {K:Iq} {i:Ir} {rest:List Ir} {Q:Ir->Iz->Prop} (X:K.In h) (hB:bm.contains (.type "ValueError")=true) (hA:bm.contains (.type "AttributeError")=false) (hN:bm.contains (.type "NameError")=false)
  (hC:h.get? C=Io (excClassObj nm q C N bs bm P' sn sub ab col dd k0 k1 k2 k3 k5 mW)) (hrest:rest.length<=sizeLine) (hi:findIn K (.ref C) "__init__"=Io (Io i)) {j:Ir}
  (hb:Vp (model prog w) h (bindSpecial i (.ref (h.objs.size+1))) (j,[.ref (h.objs.size+1)]))
  (hq:codeAny (model prog w) (A.under (.builtin "type.__call__" ⟨.ref C::rest,[]⟩)) (.call j ⟨.ref (h.objs.size+1)::rest,[]⟩) (λr s'=>match r with | .ok (.ret v)=>v=.none/\Q (.ref (h.objs.size+1)) s' | .ok _=>False | .error e=>E e s')
   ⟨(h.push { cls:=.type "tuple",data:=.seq rest.toArray }).push (newExc C h.objs.size),g,d,t,os⟩) :
  wpAny (model prog w) A (call (.ref C) rest) Q E ⟨h,g,d,t,os⟩:=by
 have f1:=tc_lookup;have f2:=tc_bind (.ref C);have hT:(⟨h,g,d,t,os⟩:Iz).TypeIs (.ref C) "type":=⟨_,hC,rfl⟩
 refine P6 (Ou ?_);show wpAny _ _ (callAny (.ref C) _) _ _ _
 repeat (any_goals (first | assumption | with_reducible refine KR hC ?_ | wp_step))
 refine⟨rfl,?_⟩;refine codeAny_call_builtin_at (OT _ (by decide +kernel)) entry_typeCall (wpAny_check_type_call_sub hC ?_);exact oX X hB hA hN hC hrest hi hb hq
end
def Tr (h:JD) (e:Iy) (C:Ir) (dd:Option Iy) (T:Iy) (fl:Ir):Prop :=
 ∃ vs sl oT ts,h.get? e=Io ⟨C,dd,.fields vs,sl⟩/\vs[1]?=Io (.ref T)/\T≠e/\h.get? T=Io oT/\oT.data=.fields ts/\ts[3]?=Io fl
structure Kp (fs ch:List Iy) (h h':JD):Prop where
 keep:∀ b o,b∉ch->b∉fs->h.get? b=Io o->h'.get? b=Io o
 slot:∀ b o,b∉ch->h.get? b=Io o->∃ sl,h'.get? b=Io { o with slots:=sl }
theorem Kp.trans {fs ch:List Iy} {h h' h'':JD} (a:Kp fs ch h h') (b:Kp fs ch h' h''):Kp fs ch h h'' :=
 ⟨λc o hc hf e=>b.keep c o hc hf (a.keep c o hc hf e),λc o hc e=>by
  obtain⟨sl,e1⟩:=a.slot c o hc e;obtain⟨sl',e2⟩:=b.slot c _ hc e1;exact⟨sl',e2⟩⟩
theorem Kp.mono {fs ch ch':List Iy} {h h':JD} (a:Kp fs ch h h') (hs:∀ b∈ch,b∈ch'):Kp fs ch' h h' :=
 ⟨λc o hc hf e=>a.keep c o (λz=>hc (hs c z)) hf e,λc o hc e=>a.slot c o (λz=>hc (hs c z)) e⟩
section
variable {M:RE} {A:Jr} {E:Ir->Iz->Prop} {s:Iz} {base:JD} {env:NS} {outer:List NS} {L e T:Iy} {C:Ir} {dd:Option Iy} {fl:Ir}
theorem lI {vs:Array Ir} {sl:Array (Option Ir)} {head:Ir} {hadNext:Bool} {Q:Unit->Iz->Prop} (hfr:A.frames=Io (env::outer)) (hl:s.heap.FunFrames base (env::outer)) (hf:env.frame=Io L)
  (he:s.heap.get? e=Io ⟨C,dd,.fields vs,sl⟩) (hsz:1<vs.size)
  (h:∀ h' T,Tr h' e C dd T (rawInt L)->s.heap.objs.size<=T->Kp (d7 (env::outer)) [e] s.heap h'->Q () { s with heap:=h' }) :
  wpAny M A (do let a <- frameOf env;let pl <- entryPlaceOf L hadNext;let b <- EntryCells.newEntry head a .none (rawInt L) .none pl;setField (.ref e) 1 b) Q E s:=by
 have hne:e∉d7 (env::outer):=λhm=>by obtain⟨_,o,ho,hnf⟩:=hl.mem hm;rw [he] at ho;cases ho;exact hnf vs rfl
 refine Ip (wpAny_frameOf_fun hfr hl hf λh1 so=>?_);refine Ip (wpAny_entryPlaceOf λpl hpl=>?_);unfold EntryCells.newEntry newFields;refine Ip (Jt ?_ (hpl.sizeOk5 _ _ _ _ _));have e1:h1.get? e=Io ⟨C,dd,.fields vs,sl⟩:=(so.2.1 e hne).trans he;generalize hO:({ cls:=.type "traceback",dict:=none,data:=.fields ([head,.ref L,.none,rawInt L,.none]++(if pl.isEmpty then KY 6 Kj else pl)).toArray }:K9)=oT;have hTd:oT.data=.fields ([head,.ref L,.none,rawInt L,.none]++(if pl.isEmpty then KY 6 Kj else pl)).toArray:=by rw [<- hO]
 have hTf:oT.isFreed=false:=by rw [<- hO];rfl
 have e2:(h1.push oT).get? e=Io ⟨C,dd,.fields vs,sl⟩:=Iw oT e1;refine Kg e2 rfl hsz (h _ h1.objs.size ?_ ?_ ?_)
 ·have ne:h1.objs.size≠e:=Lc (IK e1);refine⟨vs.setIfInBounds 1 (.ref h1.objs.size),sl,oT,_,Jx _ e2 rfl,by simp [hsz],ne,?_,hTd,by simp⟩;rw [Jc _ _ (JC ne)];exact II h1 hTf
 ·exact ND (Eq.symm so.1)
 ·refine⟨λb o hb hf' q=>?_,λb o hb q=>?_⟩
  ·have hb':b≠e:=λz=>hb (by simp [z]);rw [Jc _ _ (JC hb')];exact Iw oT ((so.2.1 b hf').trans q)
  ·have hb':b≠e:=λz=>hb (by simp [z]);obtain⟨sl',q'⟩:=so.2.2 b o q;refine⟨sl',?_⟩;rw [Jc _ _ (JC hb')];exact Iw oT q'
theorem tR {vs:Array Ir} {sl:Array (Option Ir)} {Q:Unit->Iz->Prop} (hfr:A.frames=Io (env::outer)) (hl:s.heap.FunFrames base (env::outer)) (hf:env.frame=Io L)
  (he:s.heap.get? e=Io ⟨C,dd,.fields vs,sl⟩) (h1:vs[1]?=Io .none)
  (h:∀ h' T,Tr h' e C dd T (rawInt L)->s.heap.objs.size<=T->Kp (d7 (env::outer)) [e] s.heap h'->Q () { s with heap:=h' }):wpAny M A (noteFrame (.ref e) env) Q E s:=by
 unfold noteFrame;simp only [hf];refine Ip (JS he rfl h1 ?_);rw [if_neg (by decide)];exact lI hfr hl hf he (Kz.mp h1).1 h
theorem wu {Q:Unit->Iz->Prop} (hfr:A.frames=Io (env::outer)) (hl:s.heap.FunFrames base (env::outer)) (hf:env.frame=Io L) (ht:Tr s.heap e C dd T .none)
  (h:∀ h' T',Tr h' e C dd T' (rawInt L)->s.heap.objs.size<=T'->Kp (d7 (env::outer)) [e,T] s.heap h'->Q () { s with heap:=h' }):wpAny M A (noteFrame (.ref e) env) Q E s:=by
 obtain⟨vs,sl,oT,ts,he,h1,hTe,hT,hdT,h3⟩:=ht;unfold noteFrame;simp only [hf];refine Ip (JS he rfl h1 ?_);rw [if_pos (show (Ji T != Kj)=true from by simp)];refine Ip (JS hT hdT h3 ?_);rw [if_neg (show ¬((Kj==rawInt L)=true) from by simp [rawInt])];refine Ip (Kg hT hdT (Kz.mp h3).1 ?_);generalize hu:s.heap.update T (Kn (·.setIfInBounds 3 Kj))=h1';have oth:∀ b,b≠T->h1'.get? b=s.heap.get? b:=λb hb=>by rw [<- hu];exact Jc _ _ (JC hb)
 have hT1:∃ o,h1'.get? T=Io o:=⟨_,by rw [<- hu];exact Jx _ hT (Ln (Ko hdT _))⟩
 have hl1:h1'.FunFrames base (env::outer):=hl.of_keeps λb o hb hnf=>⟨o,(oth b λq=>by rw [q,hT] at hb;cases hb;exact hnf ts hdT).trans hb,rfl⟩
 refine lI (s:={ s with heap:=h1' }) hfr hl1 hf ((oth e (JC hTe)).trans he) (Kz.mp h1).1 λh' T' t' n' k'=>h h' T' t' ?_ ?_
 ·have z:h1'.objs.size=s.heap.objs.size:=by rw [<- hu];exact Sh ..
  rw [<- z];exact n'
 ·refine⟨λb o hb hf' q=>k'.keep b o (λz=>hb (by simp at z;simp [z])) hf' ((oth b λz=>hb (by simp [z])).trans q),λb o hb q=>k'.slot b o (λz=>hb (by simp at z;simp [z])) ((oth b λz=>hb (by simp [z])).trans q)⟩
theorem land {Q:Unit->Iz->Prop} {fs:List Iy} (ht:Tr s.heap e C dd T fl) (h:∀ h',Tr h' e C dd T .none->Kp fs [T] s.heap h'->Q () { s with heap:=h' }):wpAny M A (setFlight (.ref e) none) Q E s:=by
 obtain⟨vs,sl,oT,ts,he,h1,hTe,hT,hdT,h3⟩:=ht;unfold setFlight;refine Ip (JS he rfl h1 ?_);rw [if_pos (show (Ji T != Kj)=true from by simp)];have hsz:=(Kz.mp h3).1;refine Kg hT hdT hsz (h _ ?_ ?_)
 ·refine⟨vs,sl,_,_,(Jc _ _ hTe).trans he,h1,hTe,Jx _ hT (Ln (Ko hdT _)),Ko hdT _,by simp [hsz]⟩
 ·refine⟨λb o hb _ q=>(Jc _ _ λz=>hb (by simp [z])).trans q,λb o hb q=>⟨o.slots,(Jc _ _ λz=>hb (by simp [z])).trans q⟩⟩
theorem qZ {vs:Array Ir} {sl:Array (Option Ir)} {Q:Unit->Iz->Prop} (hfr:A.frames=Io (env::outer)) (hl:s.heap.FunFrames base (env::outer)) (hf:env.frame=Io L)
  (he:s.heap.get? e=Io ⟨C,dd,.fields vs,sl⟩) (h1:vs[1]?=Io .none)
  (h:∀ h' T,Tr h' e C dd T .none->s.heap.objs.size<=T->Kp (d7 (env::outer)) [e] s.heap h'->Q () { s with heap:=h' }):wpAny M A (leaving env (.ref e)) Q E s:=by
 unfold leaving;refine Ip (tR hfr hl hf he h1 λh1' T t1 n1 k1=>?_);refine land (fs:=d7 (env::outer)) t1 λh2 t2 k2=>h h2 T t2 n1 ⟨λb o hb hf' q=>?_,λb o hb q=>?_⟩
 ·exact k2.keep b o (λz=>by simp at z;rw [z] at q;exact absurd (IK q) (Ls.mpr n1)) hf' (k1.keep b o hb hf' q)
 ·obtain⟨s1,q1⟩:=k1.slot b o hb q;obtain⟨s2,q2⟩:=k2.slot b _ (λz=>by simp at z;rw [z] at q;exact absurd (IK q) (Ls.mpr n1)) q1;exact⟨s2,q2⟩
theorem tM {Q:Unit->Iz->Prop} (hfr:A.frames=Io (env::outer)) (hl:s.heap.FunFrames base (env::outer)) (hf:env.frame=Io L) (ht:Tr s.heap e C dd T .none)
  (h:∀ h' T',Tr h' e C dd T' .none->s.heap.objs.size<=T'->Kp (d7 (env::outer)) [e,T] s.heap h'->Q () { s with heap:=h' }):wpAny M A (leaving env (.ref e)) Q E s:=by
 unfold leaving;refine Ip (wu hfr hl hf ht λh1' T' t1 n1 k1=>?_);refine land (fs:=d7 (env::outer)) t1 λh2 t2 k2=>h h2 T' t2 n1 ⟨λb o hb hf' q=>?_,λb o hb q=>?_⟩
 ·exact k2.keep b o (λz=>by simp at z;rw [z] at q;exact absurd (IK q) (Ls.mpr n1)) hf' (k1.keep b o hb hf' q)
 ·obtain⟨s1,q1⟩:=k1.slot b o hb q;obtain⟨s2,q2⟩:=k2.slot b _ (λz=>by simp at z;rw [z] at q;exact absurd (IK q) (Ls.mpr n1)) q1;exact⟨s2,q2⟩
end
def XO (x C:Iy) (dd:Option Iy):HO:=.ext λh=>∃ vs sl,h.get? x=Io ⟨.ref C,dd,.fields vs,sl⟩
def XN (x C:Iy) (dd:Option Iy):HO:=.ext λh=>∃ t sl,h.get? x=Io ⟨.ref C,dd,.fields #[.ref t,.none,.none,.none,.bool false,.none],sl⟩
section
variable {P:IM} {w:Jo} {H H':Hp} {h h':JD} {x C:Iy} {dd:Option Iy}
theorem XO.ok {vs:Array Ir} {sl:Array (Option Ir)} (e:h.get? x=Io ⟨.ref C,dd,.fields vs,sl⟩):bG P w H h x (XO x C dd) :=
 ⟨⟨vs,sl,e⟩,⟨_,e⟩,λ_ _ ⟨vs,sl,q⟩ k=>⟨vs,sl,k _ q⟩⟩
theorem XN.ok {t:Iy} {sl:Array (Option Ir)} (e:h.get? x=Io ⟨.ref C,dd,.fields #[.ref t,.none,.none,.none,.bool false,.none],sl⟩):bG P w H h x (XN x C dd) :=
 ⟨⟨t,sl,e⟩,⟨_,e⟩,λ_ _ ⟨vs,sl,q⟩ k=>⟨vs,sl,k _ q⟩⟩
theorem XN.get (hok:gf P w H h) (e:H x=Io (XN x C dd)):∃ t sl,h.get? x=Io ⟨.ref C,dd,.fields #[.ref t,.none,.none,.none,.bool false,.none],sl⟩:=by
 obtain⟨q,_⟩:=(show bG P w H h x (XN x C dd) from hok x _ e)
 exact q
end
def cZ (P:IM) (w:Jo):kM:=λouter H s E e s'=>∃(x C T:Iy) (dd:Option Iy) (H':Hp),e=.ref x/\s'.os=s.os/\Oa s'.gens/\Un (d7 outer) [] H H' s.heap s'.heap/\gf P w H' s'.heap /\
 Tr s'.heap x (.ref C) dd T .none/\s.heap.get? x=none/\s.heap.get? T=none/\H' T=none/\H' x=Io (XO x C dd)/\E (.ref C) (Io x) H'
theorem kR {base h h':JD} {H H':Hp} {ex:List Iy}:∀{l:List NS} {fs:List Iy},h.FunFrames base l->Un fs ex H H' h h'->(∀ b∈d7 l,H b=none)->(∀ b∈d7 l,b∉ex)->h'.FunFrames base l
 | [],_,_,_,_,_=>trivial
 | env::r,fs,hl,u,hn,hx=>by
  obtain⟨hk,⟨L,o,hf,hb,ho,hd⟩,hr⟩:=hl;have hL:L∈d7 (env::r):=by unfold d7;rw [KO,hf];exact IH
  have sub:∀ b∈d7 r,b∈d7 (env::r):=λb hb'=>by unfold d7;rw [KO,hf];exact IG _ hb'
  obtain⟨sl,e⟩:=u.any ho (hn L hL) (hx L hL);exact⟨hk,⟨L,_,hf,hb,e,hd⟩,kR hr u (λb hb'=>hn b (sub b hb')) λb hb'=>hx b (sub b hb')⟩
theorem kQ {P:IM} {w:Jo} {H':Hp} {h h':JD} {x C:Iy} {dd:Option Iy} {fs ch:List Iy} (hok:gf P w H' h) (k:Kp fs ch h h') (hch:∀ b∈ch,b=x∨H' b=none) (hfs:∀ b∈fs,H' b=none)
  (hx:H' x=Io (XO x C dd)) {vs:Array Ir} {sl:Array (Option Ir)} (e:h'.get? x=Io ⟨.ref C,dd,.fields vs,sl⟩):gf P w H' h':=by
 intro b o q;by_cases hb:b=x
 ·subst hb;rw [hx] at q;cases q;exact XO.ok e
 ·refine (hok b o q).eQ (λc u hc r=>k.keep c u (λz=>?_) (λz=>?_) r) (λ_ r=>r) λ_ _ r=>r
  ·rcases hch c z with q1 | q1
   ·rcases hc with q2 | q2
    ·exact hb (q2.symm.trans q1)
    ·rw [q1,hx] at q2;cases q2
   ·rcases hc with q2 | q2
    ·rw [q2,q] at q1;cases q1
    ·rw [q2] at q1;cases q1
  ·have q1:=hfs c z;rcases hc with q2 | q2
   ·rw [q2,q] at q1;cases q1
   ·rw [q2] at q1;cases q1
theorem jc {P:IM} {w:Jo} {K:Iq} {mg:Jb->Option Ir} {base:JD} {N:List Jb} {qual:Jb} {scope:La} {f:Iy} {cd:Ir} {A:Jr} {outer:List NS} {s:Iz} {H:Hp} {E:XK} :
  Passes (cZ P w) (dy (cZ P w) P w K mg base N qual scope f cd A outer s H E) E:=by
 intro pins σ H1 s1 e s' I hq;obtain⟨x,C,T,dd,H',rfl,os,bare,un,hok,tr,nx,nT,hT,hx,hE⟩:=hq;have hl:=kR I.stack un I.dX (λb _=>by simp);have frN:∀ b∈d7 (envOfC qual scope s.heap.objs.size f cd::outer),H' b=none:=λb hb=>by obtain⟨_,o,ho,_⟩:=I.stack.mem hb;exact un.free b o ho (I.dX b hb) (by simp)
 show wpAny (model P w) (A.deeper (envOfC qual scope s.heap.objs.size f cd)) (leaving (envOfC qual scope s.heap.objs.size f cd) (.ref x)) _ _ s';refine tM (L:=s.heap.objs.size) I.ok.frames hl rfl tr λh'' T' t' n' k'=>?_;have old:∀ b o,s.heap.get? b=Io o->b∉[x,T]:=λb o q hb=>by
  obtain⟨o1,q1⟩:=I.base.there b o q (by intro z;exact absurd (show b∈([]:List Iy) from z) (by simp));rcases IU.mp hb with z | z
  ·rw [z,nx] at q1;cases q1
  ·rw [IW.mp z,nT] at q1;cases q1
 have nex:∀ b:Iy,b∉(dy (cZ P w) P w K mg base N qual scope f cd A outer s H E).ex:=λb z=>absurd (show b∈([]:List Iy) from z) (by simp);have nfr:∀ b o,s.heap.get? b=Io o->b∉d7 outer->b∉d7 (envOfC qual scope s.heap.objs.size f cd::outer):=λb o q hb hm=>by
  rcases IU.mp (I.fS b hm) with z | z
  ·exact absurd (IK q) (by rw [z];exact Ka _)
  ·exact hb z
 obtain⟨vs,sl,oT,ts,he,r'⟩:=t';have tr':Tr h'' x (.ref C) dd T' .none:=⟨vs,sl,oT,ts,he,r'⟩
 refine⟨x,C,T',dd,H',rfl,os.trans I.os,bare,?_,?_,tr',?_,?_,hok.fresh n',hx,hE⟩
 ·refine⟨λb o q nn hb _=>?_,λb o q nn hb _=>?_,λb o q nn _=>?_,λb o q _=>?_,λb xs q=>un.tups b xs (I.base.tups b xs q),λb o xs q=>un.frzs b o xs (I.base.frzs b o xs q),λb ps q=>?_⟩
  ·have q1:=I.base.keep b o q nn hb (nex b);have q2:=un.keep b o q1 (I.base.free b o q nn (nex b)) (nfr b o q hb) (by simp);exact k'.keep b o (old b o q) (nfr b o q hb) q2
  ·obtain⟨s1',q1⟩:=I.base.slot b o q nn hb (nex b);obtain⟨s2',q2⟩:=un.any q1 (I.base.free b o q nn (nex b)) (by simp);obtain⟨s3',q3⟩:=k'.slot b _ (old b o q) q2;exact⟨s3',q3⟩
  ·obtain⟨o1,q1⟩:=I.base.there b o q (nex b);exact un.free b o1 q1 (I.base.free b o q nn (nex b)) (by simp)
  ·obtain⟨o1,q1⟩:=I.base.there b o q (nex b);obtain⟨o2,q2⟩:=un.there b o1 q1 (by simp);obtain⟨s3',q3⟩:=k'.slot b _ (old b o q) q2;exact⟨_,q3⟩
  ·obtain⟨m1,e1⟩:=I.base.tbls b ps q;obtain⟨m2,e2⟩:=un.tbls b _ e1;exact⟨m1++m2,by rw [e2,Nt]⟩
 ·exact kQ hok k' (λb hb=>by
   rcases IU.mp hb with z | z
   ·exact .inl z
   ·exact .inr (by rw [IW.mp z];exact hT)) frN hx he
 ·cases q:s.heap.get? x with
  | none=>rfl
  | some o=>exact absurd (IH) (old x o q)
 ·cases q:s.heap.get? T' with
  | none=>rfl
  | some o =>obtain⟨o1,q1⟩:=I.base.there T' o q (nex T');obtain⟨o2,q2⟩:=un.there T' o1 q1 (by simp);exact absurd (IK q2) (Ls.mpr n')
section
variable {prog:IM} {w:Jo} {A:Jr} {E:Ir->Iz->Prop} {s:Iz} {K:Iq} {env:NS}
theorem mP {x:TZ Ir} {Q:Flow->Iz->Prop} (hh:A.handled=none)
  (h:wpAny (model prog w) A x (λv s₁=>∃ e C t dd sl,v=.ref e/\K.In s₁.heap/\fg K C/\s₁.heap.get? e=Io ⟨.ref C,dd,.fields #[.ref t,.none,.none,.none,.bool false,.none],sl⟩/\E (.ref e) s₁) E s) :
  wpAny (model prog w) A (raiseStmt env (Io x) none) Q E s:=by
 unfold raiseStmt;refine Ip (Kc h (λv s₁ h₁=>?_) λ_ _ z=>z);obtain⟨e,C,t,dd,sl,rfl,X,c,he,hE⟩:=h₁;obtain⟨hp,g,d,tk,os⟩:=s₁;have L1:Vp (model prog w) hp (isSubtype (.ref C) (.type "BaseException")) true:=by obtain⟨cd,hc,hm,_⟩:=c.cls;obtain⟨m1,m2,m3⟩:=oW hm;exact looks_mroIn X (by unfold mroIn;rw [hc,PU,if_neg (by rw [m3];decide),m2])
 obtain⟨od,cd,sc,hk⟩:=c.at_;have hC:=X _ _ hk
 repeat (first | with_reducible refine KR he ?_ | with_reducible refine KR hC ?_ | with_reducible refine Looks.at L1 ?_ | wp_step)
 exact Q7 hh hE
end
def Aq (K:Iq) (H₀:Hp) (E:XK) (te:TE):TS:=λ_ σ H=>te σ H λv H1=>∃ x C dd,v=.ref x/\H1 x=Io (XN x C dd)/\fg K C/\H₀ x=none/\E (.ref C) (Io x) (upd H1 x (XO x C dd))
section
variable {P:IM} {w:Jo} {K:Iq} {mg:Jb->Option Ir} {base:JD} {N:List Jb} {qual:Jb} {scope:La} {f:Iy} {cd:Ir} {A:Jr} {outer:List NS} {s:Iz} {H:Hp} {E:XK}
theorem wZ {pins:List (Iy × K9)} {σ:St} {H2:Hp} {s2:Iz} {x C:Iy} {dd:Option Iy} (I:Inv (dy (cZ P w) P w K mg base N qual scope f cd A outer s H E) pins σ H2 s2) (hx:H2 x=Io (XN x C dd)) (hn:H x=none)
  (hE:E (.ref C) (Io x) (upd H2 x (XO x C dd))):(dy (cZ P w) P w K mg base N qual scope f cd A outer s H E).xe (.ref x) s2:=by
 obtain⟨t,sl,he⟩:=XN.get I.hok hx;have nex:∀ b:Iy,b∉(dy (cZ P w) P w K mg base N qual scope f cd A outer s H E).ex:=λb z=>absurd (show b∈([]:List Iy) from z) (by simp);have nx:s.heap.get? x=none:=by
  cases q:s.heap.get? x with
  | none=>rfl
  | some o =>have:=I.base.free x o q hn (nex x);rw [hx] at this;cases this
 have old:∀ b o,s.heap.get? b=Io o->b≠x:=λb o q z=>by rw [z,nx] at q;cases q
 have nfr:∀ b o,s.heap.get? b=Io o->b∉d7 outer->b∉d7 (envOfC qual scope s.heap.objs.size f cd::outer):=λb o q hb hm=>by
  rcases IU.mp (I.fS b hm) with z | z
  ·exact absurd (IK q) (by rw [z];exact Ka _)
  ·exact hb z
 have hok':gf P w (upd H2 x (XO x C dd)) s2.heap:=λb o q=>by
  by_cases hb:b=x
  ·subst hb;rw [ag] at q;cases q;exact XO.ok he
  ·rw [ao hb] at q;refine (I.hok b o q).eQ (λ_ _ _ r=>r) (λc r=>?_) λc xs r=>?_
   ·rw [ao (λz=>by rw [z,hx] at r;cases r)];exact r
   ·rw [ao (λz=>by rw [z,hx] at r;cases r)];exact r
 show wpAny (model P w) (A.deeper (envOfC qual scope s.heap.objs.size f cd)) (leaving (envOfC qual scope s.heap.objs.size f cd) (.ref x)) _ _ s2;refine qZ (L:=s.heap.objs.size) I.ok.frames I.stack rfl he rfl λh'' T t' n' k'=>?_;obtain⟨vs,sl',oT,ts,he',r'⟩:=t';have tr':Tr h'' x (.ref C) dd T .none:=⟨vs,sl',oT,ts,he',r'⟩
 have nT:T≠x:=r'.2.1;refine⟨x,C,T,dd,upd H2 x (XO x C dd),rfl,I.os,I.bare,?_,?_,tr',nx,?_,?_,ag,hE⟩
 ·refine⟨λb o q nn hb _=>?_,λb o q nn hb _=>?_,λb o q nn _=>?_,λb o q _=>?_,λb xs q=>?_,λb o xs q=>?_,λb ps q=>?_⟩
  ·exact k'.keep b o (by simp [old b o q]) (nfr b o q hb) (I.base.keep b o q nn hb (nex b))
  ·obtain⟨s1',q1⟩:=I.base.slot b o q nn hb (nex b);obtain⟨s3',q3⟩:=k'.slot b _ (by simp [old b o q]) q1;exact⟨s3',q3⟩
  ·rw [ao (old b o q)];exact I.base.free b o q nn (nex b)
  ·obtain⟨o1,q1⟩:=I.base.there b o q (nex b);obtain⟨s3',q3⟩:=k'.slot b _ (by simp [old b o q]) q1;exact⟨_,q3⟩
  ·have:=I.base.tups b xs q;rw [ao (λz=>by rw [z,hx] at this;cases this)];exact this
  ·have:=I.base.frzs b o xs q;rw [ao (λz=>by rw [z,hx] at this;cases this)];exact this
  ·obtain⟨m1,e1⟩:=I.base.tbls b ps q;exact⟨m1,by rw [ao (λz=>by rw [z,hx] at e1;cases e1)];exact e1⟩
 ·exact kQ hok' k' (λb hb=>.inl (by simpa using hb)) (λb hb=>by
   have z:=I.dX b hb;rw [ao (λy=>by rw [y,hx] at z;cases z)];exact z) ag he'
 ·cases q:s.heap.get? T with
  | none=>rfl
  | some o =>obtain⟨o1,q1⟩:=I.base.there T o q (nex T);exact absurd (IK q1) (Ls.mpr n')
 ·rw [ao nT];exact I.hok.fresh n'
theorem cP {e:JH} {te:TE} {pos:Mn} (he:PE (dy (cZ P w) P w K mg base N qual scope f cd A outer s H E) e te):PS (dy (cZ P w) P w K mg base N qual scope f cd A outer s H E) (.Raise (Io e) none pos) (Aq K H E te):=by intro pins s1 σ H1 D I h;rw [arm_exec_Raise];refine Ip (Lb (mP (K:=K) (I.ok.hd rfl) (Ip (bf (he pins s1 σ H1 _ I h) λv s2 ⟨y,H2,I2,r,x,C,dd,ey,hx,c,hn,hE⟩=>?_))));subst ey;obtain rfl:v=Ji x:=r;obtain⟨t,sl,hg⟩:=XN.get I2.hok hx;exact Ip (Lb (IA ⟨x,C,t,dd,sl,rfl,I2.gd,c,hg,wZ I2 hx hn hE⟩))
end
section
variable {prog:IM} {w:Jo} {A:Jr} {E:Ir->Iz->Prop} {h:JD} {g:Array OJ} {d:Ut} {t:Nat} {os:UC}
variable {nm q:Jb} {C N:Iy} {bs bm:List Ir} {P':Bool} {sn:List Jb} {sub:List Ir} {ab:Bool} {col:Option Bool} {dd:Option Iy} {k0 k1 k2 k3 k5:Option Ir}
theorem vY {R:QH->Iz->Prop} {e a:Iy} (hB:bm.contains (.type "ValueError")=true) (hC:h.get? C=Io (excClassObj nm q C N bs bm P' sn sub ab col dd k0 k1 k2 k3 k5 mW)) (he:h.get? e=Io (newExc C a))
  (hq:∀ h',h'.get? e=Io (newExc C h.objs.size)->(∀ b o,b≠e->h.get? b=Io o->h'.get? b=Io o)->R (.ok (.ret .none)) ⟨h',g,d,t,os⟩) :
  codeAny (model prog w) A (.call (.builtin "ValueError.__init__") ⟨[.ref e],[]⟩) R ⟨h,g,d,t,os⟩:=by
 have Fn:=Lg;have cB:(Ji C::bm).contains (.type "ValueError")=true:=by rw [Lq,hB,OC]
 have hshort:=Fn.noStar;refine Oe Fn.init.plain Fn.initEntry ?_;have chk:∀{Q:Unit->Iz->Prop} {E:Ir->Iz->Prop} {A:Jr},Q () ⟨h,g,d,t,os⟩->wpAny (model prog w) A (checkBuiltinCall "ValueError.__init__" ⟨[.ref e],[]⟩) Q E ⟨h,g,d,t,os⟩:=by
  intro Q E A hq;simp only [checkBuiltinCall,Fn.initKind,Fn.initSplit,Fn.initRow]
  repeat (first | with_reducible refine KR he ?_ | with_reducible refine KR hC ?_ | (with_reducible refine Nd hC ?_;rw [cB]) | wp_step)
  exact hq
 refine chk ?_
 wp_walk
 have hp:=Iw (h:=h) { cls:=.type "tuple",data:=.seq ([]:List Ir).toArray } he;refine hq _ ?_ λb o hb z=>?_
 ·exact Jx _ hp rfl
 ·rw [Jc _ _ (JC hb)];exact Iw _ z
end
theorem cY.any {P:IM} {w:Jo} {K:Iq} {mg:Jb->Option Ir} {base:JD} {CX:kM} {k:Nat} {f:Iy} {fd:KW} {ps:List Jb} {sp:Sp} (F:cY P w K mg base aQ k f fd ps sp):cY P w K mg base CX k f fd ps sp :=
 ⟨F.len,λA outer s H args us vs Q E hr he hb hv hs=>Lf (F.run A outer s H args us vs Q E hr he hb hv hs) λr s' q=>by
  cases r with
  | error e=>exact Kk q
  | ok fl =>
   cases fl with
   | ret u=>exact q
   | next=>exact q
   | brk=>exact q
   | cont=>exact q⟩
def Gg (K:Iq) (ta tv:TE) (f:Jb):TS:=λD σ H=>tv σ H λy H1=>ta σ H1 λxv H2=>∃ x C,xv=.ref x/\H2 x=Io (XN x C none)/\fg K C/\findIn K (.ref C) f=Io none /\
 ∀ dx,H2 dx=none->dx≠x->D.nx σ (upd (upd H2 dx (.xd [(f,y)])) x (XN x C (Io dx)))
section
variable {X:Cx} {o value:JH} {f:Jb} {pos pos':Mn} {ta tv:TE}
theorem BU (ha:PE X o ta) (hv:PE X value tv) (hs:swapsWith value (Io (.Attribute o f pos')) pos.line X.env=pure false:=by rfl):PS X (.Assign [.Attribute o f pos'] value pos) (Gg X.K ta tv f):=by
 intro pins s σ H D I h;refine NT (bf (hv pins s σ H _ I h) λu s1 ⟨y,H1,I1,ry,q⟩=>bf (ha pins s1 σ H1 _ I1 q) λov s2 ⟨xv,H2,I2,rx,x,C,ex,hx,c,hf,q2⟩=>?_) hs;subst ex;obtain rfl:ov=Ji x:=rx;obtain⟨t,sl,hg⟩:=XN.get I2.hok hx;obtain⟨cd,hc,hm,hh⟩:=c.cls;refine Bg I2.gd hg hc hm hh c.sa hf λh' g1 g2 g3=>?_;have hd0:H2 s2.heap.objs.size=none:=I2.hok.fresh (IF _);have hne:s2.heap.objs.size≠x:=λz=>by rw [z,hx] at hd0;cases hd0
 have bx:∀ b,H2 b=none->b≠x:=λb z y=>by rw [y,hx] at z;cases z
 have bd:∀ b o,s2.heap.get? b=Io o->b≠s2.heap.objs.size:=λb o q=>Jd (IK q);have tb:∀ b u,H2 b=Io u->b≠s2.heap.objs.size:=λb u q z=>by rw [z,hd0] at q;cases q
 refine⟨σ,upd (upd H2 s2.heap.objs.size (.xd [(f,y)])) x (XN x C (Io s2.heap.objs.size)),I2.un ⟨λb o q n _ _=>g3 b o (bx b n) q,λb o q n _ _=>⟨o.slots,g3 b o (bx b n) q⟩,λb o q n _=>?_,λb o q _=>?_,λb xs q=>?_,λb o xs q=>?_,λb ps q=>?_⟩ ?_,q2 _ hd0 hne⟩
 ·rw [ao (bx b n),ao (bd b o q)];exact n
 ·by_cases z:b=x
  ·exact⟨_,by rw [z];exact g1⟩
  ·exact⟨o,g3 b o z q⟩
 ·rw [ao (λz=>by rw [z,hx] at q;cases q),ao (tb b _ q)];exact q
 ·rw [ao (λz=>by rw [z,hx] at q;cases q),ao (tb b _ q)];exact q
 ·exact⟨#[],by rw [ao (λz=>by rw [z,hx] at q;cases q),ao (tb b _ q),q];simp⟩
 ·intro b o q;by_cases z:b=x
  ·subst z;rw [ag] at q;cases q;exact XN.ok g1
  ·rw [ao z] at q;by_cases z2:b=s2.heap.objs.size
   ·subst z2;rw [ag] at q;cases q;refine⟨_,g2,λk=>?_⟩;show ff (MU k [(f,y)]) (if k=f then Io u else none);by_cases e:k=f
    ·subst e;rw [if_pos rfl,KL,beq_self_eq_true];exact ry
    ·have e':(k==f)=false:=by simpa using e
     rw [if_neg e,KL,e'];exact True.intro
   ·rw [ao z2] at q;refine (I2.hok b o q).eQ (λc' u' hc' r=>g3 c' u' (λz3=>?_) r) (λc' r=>?_) λc' xs r=>?_
    ·rcases hc' with e | e
     ·exact z (e.symm.trans z3)
     ·rw [z3,hx] at e;cases e
    ·rw [ao (λz3=>by rw [z3,hx] at r;cases r),ao (tb c' _ r)];exact r
    ·rw [ao (λz3=>by rw [z3,hx] at r;cases r),ao (tb c' _ r)];exact r
end
structure CG (K:Iq) (C:Iy):Prop where
 obj:∃ nm q N bs bm P' sn sub ab col dd k0 k1 k2 k3 k5,K.lookup C=Io (excClassObj nm q C N bs bm P' sn sub ab col dd k0 k1 k2 k3 k5 mW)/\bm.contains (.type "ValueError")=true/\bm.contains (.type "AttributeError")=false/\bm.contains (.type "NameError")=false
 kp:keepIn K (.ref C)=true
def qa (K:Iq) (f:Jb):Sp:=λvs H Q _=>∃ x C v,vs=[.ref x,v]/\H x=Io (XN x C none)/\fg K C/\findIn K (.ref C) f=Io none /\
 ∀ dx,H dx=none->dx≠x->Q .non (upd (upd H dx (.xd [(f,v)])) x (XN x C (Io dx)))
def EX (C:Iy) (f:Jb) (t:TA):TE:=λσ H Q=>t σ H λvs H1=>∃ v,vs=[v]/\∀ x dx,H1 x=none->H1 dx=none->dx≠x->Q (.ref x) (upd (upd (upd H1 x (XN x C none)) dx (.xd [(f,v)])) x (XN x C (Io dx)))
def EW (C:Iy):TE:=λ_ H Q=>∀ x,H x=none->Q (.ref x) (upd H x (XN x C none))
section
variable {X:Cx} {C fi:Iy} {fd:KW} {p f x:Jb} {k:Nat} {pos np:Mn} {e:JH} {t:TA}
theorem Inv.newExc {pins:List (Iy × K9)} {σ:St} {H:Hp} {s:Iz} (I:Inv X pins σ H s) (us:List Ir):Inv X pins σ (upd H (s.heap.objs.size+1) (XN (s.heap.objs.size+1) C none))
  { s with heap:=(s.heap.push { cls:=.type "tuple",data:=.seq us.toArray }).push (L2.newExc C s.heap.objs.size) }:=by
 have I1:Inv X pins σ H { s with heap:=s.heap.push { cls:=.type "tuple",data:=.seq us.toArray } }:=I.kept (t':=s.toks) λb u q=>Iw _ q;refine I1.laid (a:=s.heap.objs.size+1) (t':=s.toks) (λb u q=>Iw _ q) (ND (JL _ _)) ?_;refine XN.ok (t:=s.heap.objs.size) (sl:=#[]) ?_;have:=II (s.heap.push { cls:=.type "tuple",data:=.seq us.toArray }) (o:=L2.newExc C s.heap.objs.size) rfl
 rwa [JL] at this
theorem wU (M:CG X.K C) (c:fg X.K C) (hi:findIn X.K (.ref C) "__init__"=Io (Io (.ref fi))) (fn:isFn X.K (.ref fi)=true) (hf:findIn X.K (.ref C) f=Io none) (F:cY X.prog X.w X.K X.mg X.base aQ k fi fd ["self",p] (qa X.K f)) (hr:bW (k+1) X.A) (hg:Gl X x)
  (hm:X.mg x=Io (.ref C)) (hb:Binds X.K fd ["self",p] []) (ha:PA X [e] t) (hdb:(x==("__debug__":Jb))=false:=by decide) (he:starEach [e] X.env=(false,eval e X.env)::starEach [] X.env:=by rfl) (hpl:(backTo pos (starEach [] X.env)).any (·.1)=false:=by rfl) :
  PE X (.Call (.Name x np) [e] [] pos) (EX C f t):=by
 intro pins s σ H Q I h;refine K3 (i8 I hg hm ?_ hdb);refine Nv (h₀:=X.base) I.ok.mod.kin M.kp (bf (ha pos pins s σ H _ I h) λus s1 ⟨vs,H1,I1,r,q⟩=>⟨I1.gd,?_⟩) he hpl;obtain⟨v,rfl,q⟩:=q;obtain⟨u,rfl,ru⟩:=vals1 r;obtain⟨nm,qn,Nn,bs,bm,P',sn,sub,ab,col,dd,k0,k1,k2,k3,k5,hk,hB,hA,hN⟩:=M.obj;have I2:=Inv.newExc (C:=C) I1 [u];have n1:H1 (s1.heap.objs.size+1)=none:=I1.hok.fresh (Mx _);have r2:Vals [V.ref (s1.heap.objs.size+1),v] [Ji (s1.heap.objs.size+1),u]:=.cons rfl (.cons ru .nil);have hq:qa X.K f [V.ref (s1.heap.objs.size+1),v] (upd H1 (s1.heap.objs.size+1) (XN (s1.heap.objs.size+1) C none)) (λz H3=>z=.non/\Q (.ref (s1.heap.objs.size+1)) H3) E0 :=
  ⟨_,C,v,rfl,ag,c,hf,λdx hd hne=>⟨rfl,q _ dx n1 (by rw [ao hne] at hd;exact hd) hne⟩⟩
 obtain⟨hh,g,d,tk,os⟩:=s1;refine qT (K:=X.K) I1.gd hB hA hN (I1.gd _ _ hk) (by show 1<=sizeLine;decide) hi (bind_fn I1.gd _ (beq_iff_eq.mp fn)) ?_;refine Lf (F.run _ X.stack _ _ ⟨[Ji (hh.objs.size+1),u],[]⟩ [Ji (hh.objs.size+1),u] _ _ E0 (hr.make C [u] []) (I2.DP.make C [u] []) (by have:=hb _ [Ji (hh.objs.size+1),u] I2.gd rfl;rwa [L4] at this) r2 hq) λr s' hq'=>?_;cases r with
 | error e=>exact Kk hq'
 | ok fl =>
  cases fl with
  | ret u' =>obtain⟨v',H',I3,rv,ev,q3⟩:=I2.after hq';subst ev;exact⟨rv,⟨V.ref (hh.objs.size+1),H',I3,rfl,q3⟩⟩
  | next=>exact Kk hq'
  | brk=>exact Kk hq'
  | cont=>exact Kk hq'
theorem wR (M:CG X.K C) (hi:findIn X.K (.ref C) "__init__"=Io (Io (.builtin "ValueError.__init__"))) (hg:Gl X x) (hm:X.mg x=Io (.ref C)) (hdb:(x==("__debug__":Jb))=false:=by decide) :
  PE X (.Call (.Name x np) [] [] pos) (EW C):=by
 intro pins s σ H Q I h;refine K3 (i8 I hg hm ?_ hdb);refine Q4 I.gd M.kp ?_;obtain⟨nm,qn,Nn,bs,bm,P',sn,sub,ab,col,dd,k0,k1,k2,k3,k5,hk,hB,hA,hN⟩:=M.obj;have I2:=Inv.newExc (C:=C) I [];have n1:H (s.heap.objs.size+1)=none:=I.hok.fresh (Mx _);have Fn:=Lg;obtain⟨hh,g,d,tk,os⟩:=s;have hC:=I.gd _ _ hk;refine qT (K:=X.K) I.gd hB hA hN hC (by show 0<=sizeLine;decide) hi (j:=.builtin "ValueError.__init__") (Looks.of_pure (Fn.init.bind _)) ?_;have hC2:((hh.push { cls:=.type "tuple",data:=.seq ([]:List Ir).toArray }).push (L2.newExc C hh.objs.size)).get? C=Io _:=Iw _ (Iw _ hC);have he2:((hh.push { cls:=.type "tuple",data:=.seq ([]:List Ir).toArray }).push (L2.newExc C hh.objs.size)).get? (hh.objs.size+1)=Io (L2.newExc C hh.objs.size):=by
  have:=II (hh.push { cls:=.type "tuple",data:=.seq ([]:List Ir).toArray }) (o:=L2.newExc C hh.objs.size) rfl
  rwa [JL] at this
 refine vY hB hC2 he2 λh' g1 g3=>⟨rfl,.ref (hh.objs.size+1),_,?_,rfl,h _ n1⟩
 have e:upd (upd H (hh.objs.size+1) (XN (hh.objs.size+1) C none)) (hh.objs.size+1) (XN (hh.objs.size+1) C none)=upd H (hh.objs.size+1) (XN (hh.objs.size+1) C none):=by
  funext b;by_cases z:b=hh.objs.size+1
  ·rw [z,ag,ag]
  ·rw [ao z]
 have W:=I2.write (x:=hh.objs.size+1) (e:=hh.objs.size+1) (o:=XN (hh.objs.size+1) C none) (h':=h') (t':=tk) (by rw [ag];exact True.intro) (.inl rfl) (λb u hb q=>g3 b u hb q) ⟨_,g1⟩ (XN.ok g1);rw [e] at W;exact W
end
def HY (H:Hp) (x C:Iy) (dd:Option Iy):Prop:=H x=Io (XO x C dd)∨H x=Io (XN x C dd)
def Ik (K:Iq) (ta:TE) (f:Jb):TE:=λσ H Q=>ta σ H λxv H1=>∃ x C dx fs v,xv=.ref x/\HY H1 x C (Io dx)/\fg K C/\findIn K (.ref C) f=Io none/\H1 dx=Io (.xd fs)/\fs.lookup f=Io v/\Q v H1
section
variable {X:Cx} {e:JH} {f:Jb} {pos:Mn} {ta:TE}
end
section
variable {prog:IM} {w:Jo} {A:Jr} {E:Ir->Iz->Prop} {K:Iq} {h:JD} {g:Array OJ} {d:Ut} {t:Nat} {os:UC} {x C B:Iy}
theorem fg.base (c:fg K C):mroIn K C (.type "BaseException")=Io true:=by obtain⟨cd,hc,hm,_⟩:=c.cls;obtain⟨m1,m2,m3⟩:=oW hm;unfold mroIn;rw [hc,PU,if_neg (by rw [m3];decide),m2]
end
section
variable {M:RE} {A:Jr} {E:Ir->Iz->Prop} {s:Iz}
end
section
variable {X:Cx} {pins:List (Iy × K9)} {σ:St} {H:Hp} {s:Iz} {M:RE} {A:Jr} {E:Ir->Iz->Prop}
end
section
variable {X:Cx} {pins:List (Iy × K9)} {σ:St} {H:Hp} {s:Iz} {x:Iy}
noncomputable def Bk (n:Option Nat) (x:Iy) (σ:St):St:=match n with | some i=>σ.set i (Io (.ref x)) | none=>σ
def uN (n:Option Nat) (D:Ends):Ends:=match n with
 | some i=>{ nx:=λσ H=>D.nx (σ.set i none) H,rt:=D.rt,bk:=λσ H=>D.bk (σ.set i none) H,ct:=λσ H=>D.ct (σ.set i none) H }
 | none=>D
end
def Hy (K:Iq) (B:Iy) (n:Option Nat) (sp:Sp) (ta:TA) (put:V->St->St) (ts:TS):TS:=λD σ H=>ta σ H λvs H1=>sp vs H1 (λv H2=>D.nx (put v σ) H2)
 (λcv xo H2=>∃ C x dd,cv=.ref C/\xo=Io x/\H2 x=Io (XO x C dd)/\fg K C/\mroIn K C (.ref B)=Io true/\ts (uN n D) (Bk n x σ) H2)
section
variable {X:Cx} {B:Iy} {n:Option Nat} {hd:Ri} {ts:TS}
variable {k:Nat} {f:Jb} {ps:List Jb} {sp:Sp} {e:JH} {es:List JH} {t:TA} {p Oy epos pos:Mn}
end
section
variable {P:IM} {w:Jo} {K:Iq} {mg:Jb->Option Ir} {base:JD} {k:Nat} {x:Jb} {ps:List Jb} {sp:Sp}
theorem sU {st:MH} {N:List Jb} (D:ax K mg x st)
  (hb:∀(kV doc pm:Ir) (an:Option Iy) (cdv ct:Ir) (us:List Ir),us.length=ps.length->bindArgs (KG x x (bo st) (aL st) (ak st) .none kV doc pm an cdv ct) ⟨us,[]⟩=pure (ps.zip us))
  (S:aw N ps (ak st)) (len:∀ vs H Q E,sp vs H Q E->vs.length=ps.length)
  (J':∀(f:Iy) (cdv:Ir) (A:Jr) (outer:List NS) (s:Iz) (H:Hp) (vs:List V) (Q:VK) (E:XK),bW k (A.deeper (envOfC x (ak st) s.heap.objs.size f cdv))->sp vs H Q E ->
   ∃ t,iG (dy (cZ P w) P w K mg base N x (ak st) f cdv A outer s H E) (aL st) t/\t { nx:=λ_ H'=>Q .non H',rt:=Q } (start N vs) H):Callee P w K mg base (cZ P w) (k+1) x ps sp:=by
 obtain⟨f,fd,F,hm⟩:=D;obtain⟨oc,od,kV,doc,pm,an,cdv,ct,osl,rfl,lk,hcd⟩:=F.ex;exact⟨f,_,ye lk hcd S len λA outer s H vs Q E hr h=>J' f cdv A outer s H vs Q E hr h,hm,F.kp,F.binds hb⟩
theorem Callee.any {CX:kM} (C:Callee P w K mg base aQ k x ps sp):Callee P w K mg base CX k x ps sp:=by obtain⟨f,fd,F,a,b,c⟩:=C.ex;exact⟨f,fd,F.any,a,b,c⟩
end
theorem Bl {P:IM} {w:Jo} {K:Iq} {mg:Jb->Option Ir} {base:JD} {qual f p:Jb} {st:MH} {fi:Iy} {fd:KW} {p1 p2 p3 p4:Mn} (F:xB K "__init__" qual st fi fd) (S:aw ["self",p] ["self",p] (ak st))
  (hb:aL st=[.Assign [.Attribute (.Name "self" p1) f p2] (.Name p p3) p4]) (h1:(ak st).names.lookup ("self":Jb)=Io .local) (h2:(ak st).names.lookup p=Io .local) (hd:(p==("__debug__":Jb))=false) (hcd:(p==("__classdict__":Jb))=false)
  (ab:∀ env:NS,attributeBase (.Name "self" p1) f env (eval (.Name "self" p1) env)=eval (.Name "self" p1) env) (sw:∀ env:NS,swapsWith (.Name p p3) (Io (.Attribute (.Name "self" p1) f p2)) p4.line env=pure false):cY P w K mg base aQ 1 fi fd ["self",p] (qa K f):=by
 refine F.ok S (λvs H Q E h=>?_) (λcdv A outer s H vs Q E hr h=>?_)
 ·obtain⟨x,C,v,rfl,_⟩:=h;rfl
 ·obtain⟨x,C,v,rfl,hx,c,hf,q⟩:=h;rw [hb];refine⟨_,ai (BU (ue (i:=0) rfl (.inl h1) (by decide) (by decide)) (ue (i:=1) rfl (.inl h2) hd hcd) (sw _)),?_⟩;exact⟨v,rfl,.ref x,rfl,x,C,rfl,hx,c,hf,λdx n ne=>q dx n ne⟩
structure qz (P:IM) (w:Jo) (K:Iq) (mg:Jb->Option Ir) (base:JD) (x:Jb) (C:Iy) (f:Jb):Prop where
 mkd:CG K C
 cls:fg K C
 at_:mg x=Io (.ref C)
 nof:findIn K (.ref C) f=Io none
 ex:∃ fi fd p,findIn K (.ref C) "__init__"=Io (Io (.ref fi))/\isFn K (.ref fi)=true/\cY P w K mg base aQ 1 fi fd ["self",p] (qa K f)/\Binds K fd ["self",p] []
structure sN (K:Iq) (mg:Jb->Option Ir) (x:Jb) (C:Iy):Prop where
 mkd:CG K C
 cls:fg K C
 at_:mg x=Io (.ref C)
 ini:findIn K (.ref C) "__init__"=Io (Io (.builtin "ValueError.__init__"))
section
variable {X:Cx} {C:Iy} {f x:Jb} {pos np:Mn} {e:JH} {t:TA}
theorem mf (c:qz X.prog X.w X.K X.mg X.base x C f) (hr:bW 2 X.A) (hg:Gl X x) (ha:PA X [e] t) (hdb:(x==("__debug__":Jb))=false:=by decide)
  (he:starEach [e] X.env=(false,eval e X.env)::starEach [] X.env:=by rfl) (hpl:(backTo pos (starEach [] X.env)).any (·.1)=false:=by rfl):PE X (.Call (.Name x np) [e] [] pos) (EX C f t):=by
 obtain⟨fi,fd,p,hi,fn,F,hb⟩:=c.ex;exact wU c.mkd c.cls hi fn c.nof F hr hg c.at_ hb ha hdb he hpl
theorem me (c:sN X.K X.mg x C) (hg:Gl X x) (hdb:(x==("__debug__":Jb))=false:=by decide):PE X (.Call (.Name x np) [] [] pos) (EW C):=wR c.mkd c.ini hg c.at_ hdb
end
inductive Du (K:Iq) (H:Hp):Nat->V->V->Bool->Prop
 | flat {d:Nat} {y x:V}:dR y=true->dR x=true->Du K H d y x (qS y x)
 | same {d:Nat} {p:Iy}:Du K H d (.ref p) (.ref p) true
 | lists {d:Nat} {p q:Iy} {xs ys:List V} {e:Nat->Bool}:p≠q->aJ K H p xs->aJ K H q ys->xs.length=ys.length->(∀ j y x,xs[j]?=Io y->ys[j]?=Io x->Du K H d y x (e j))->Du K H (d+1) (.ref p) (.ref q) ((Ky xs.length).all e)
 | unlike {d:Nat} {p q:Iy} {xs ys:List V}:p≠q->aJ K H p xs->aJ K H q ys->xs.length≠ys.length->Du K H (d+1) (.ref p) (.ref q) false
 | tups {d:Nat} {p q:Iy} {xs ys:List V} {e:Nat->Bool}:p≠q->bj K H p xs->bj K H q ys->(∀ j y x,xs[j]?=Io y->ys[j]?=Io x->Du K H d y x (e j))->Du K H (d+1) (.ref p) (.ref q) ((Ky (min xs.length ys.length)).all e && xs.length==ys.length)
section
variable {X:Cx} {pins:List (Iy × K9)} {σ:St} {H:Hp} {s:Iz}
theorem Vals.at {xs:List V} {us:List Ir} (r:Vals xs us):∀{j:Nat} {u:Ir},us[j]?=Io u->∃ x,xs[j]?=Io x/\RelV x u:=by
 induction r with
 | nil=>intro j u h;simp at h
 | cons r t ih =>
  intro j u h;cases j with
  | zero=>simp only [List.getElem?_cons_zero,NM] at h;subst h;exact⟨_,rfl,r⟩
  | succ j=>simp only [List.getElem?_cons_succ] at h ⊢;exact ih h
theorem Vals.len {xs:List V} {us:List Ir} (r:Vals xs us):us.length=xs.length:=by
 induction r with
 | nil=>rfl
 | cons r t ih=>simp only [JU,ih]
end
theorem cK {A B:Prop} (a:A) (f:A->B):B:=f a
section
variable {K:Iq} {mg:Jb->Option Ir} {h:JD} {x f p qual:Jb} {C D fi N:Iy}
section
variable {nm q:Jb} {bs bm:List Ir} {P' ab:Bool} {sn:Option Jb} {od:Option Iy} {cd:Uw} {sl:Array (Option Ir)}
theorem E6 {o:K9} (l:K.lookup C=Io o) (ob:∃ nm q N bs bm P' sn sub ab col dd k0 k1 k2 k3 k5,o=excClassObj nm q C N bs bm P' sn sub ab col dd k0 k1 k2 k3 k5 mW/\bm.contains (.type "ValueError")=true/\bm.contains (.type "AttributeError")=false/\bm.contains (.type "NameError")=false) (kp:keepIn K (.ref C)=true):CG K C:=by obtain⟨nm,q,N,bs,bm,P',sn,sub,ab,col,dd,k0,k1,k2,k3,k5,e,r⟩:=ob;subst e;exact⟨⟨nm,q,N,bs,bm,P',sn,sub,ab,col,dd,k0,k1,k2,k3,k5,l,r⟩,kp⟩
theorem Cw (l:K.lookup C=Io ⟨.type "type",od,.cls cd,sl⟩) (h2:cE cd.mro=true) (h3:cd.hasDict=true)
  (sa:findIn K (.ref C) "__setattr__"=Io (Io (.builtin "object.__setattr__"))) (ga:findIn K (.ref C) "__getattribute__"=Io (Io (.builtin "BaseException.__getattribute__"))) (gx:findIn K (.ref C) "__getattr__"=Io none)
  (ca:findIn K (.ref C) "__class__"=Io (Io (.builtin "object.__class__"))) (gs:specialIn K (.builtin "object.__class__") "__get__"=Io (Io (.builtin "getset_descriptor.__get__"))) (tk:takesIn K (.builtin "object.__class__")=Io true):L2.fg K C :=
 ⟨⟨cd,by unfold clsIn;rw [l],h2,h3⟩,⟨_,_,_,l⟩,sa,ga,gx,ca,gs,tk⟩
theorem lg (a:mg x=Io (.ref C)) (M:CG K C) (c:fg K C) (ini:findIn K (.ref C) "__init__"=Io (Io (.builtin "ValueError.__init__"))):sN K mg x C:=⟨M,c,a,ini⟩
structure oI (qual f p:Jb) (st:MH):Prop where
 S:aw ["self",p] ["self",p] (ak st)
 hb:∃ p1 p2 p3 p4,aL st=[.Assign [.Attribute (.Name "self" p1) f p2] (.Name p p3) p4]/\(∀ env:NS,attributeBase (.Name "self" p1) f env (eval (.Name "self" p1) env)=eval (.Name "self" p1) env)/\(∀ env:NS,swapsWith (.Name p p3) (Io (.Attribute (.Name "self" p1) f p2)) p4.line env=pure false)
 h1:(ak st).names.lookup ("self":Jb)=Io .local
 h2:(ak st).names.lookup p=Io .local
 hd:(p==("__debug__":Jb))=false
 hcd:(p==("__classdict__":Jb))=false
 bd:∀(kV doc pm:Ir) (an:Option Iy) (cdv ct:Ir) (us:List Ir),us.length=2->bindArgs (KG "__init__" qual (bo st) (aL st) (ak st) .none kV doc pm an cdv ct) ⟨us,[]⟩=pure ((["self",p]:List Jb).zip us)
theorem qv {st:MH} {oc:Ir} {od an:Option Iy} {osl:Array (Option Ir)} {kV doc pm cdv ct:Ir} (I:oI qual f p st) (a:mg x=Io (.ref C)) (M:CG K C) (c:fg K C) (nof:findIn K (.ref C) f=Io none)
  (ini:findIn K (.ref C) "__init__"=Io (Io (.ref fi))) (fn:isFn K (.ref fi)=true) (l:K.lookup fi=Io ⟨oc,od,.func (KG "__init__" qual (bo st) (aL st) (ak st) .none kV doc pm an cdv ct),osl⟩) (cc:codeIn K cdv qual=true) (kk:keepIn K (.ref fi)=true) :
  ∀(P:IM) (w:Jo) (base:JD),qz P w K mg base x C f:=λP w base=>by
 obtain⟨p1,p2,p3,p4,hb,ab,sw⟩:=I.hb;have F:=tI l cc kk;exact⟨M,c,a,nof,fi,_,p,ini,fn,Bl F I.S hb I.h1 I.h2 I.hd I.hcd ab sw,F.binds I.bd⟩
end
theorem fV {od:Option Iy} {cd:Uw} {sl:Array (Option Ir)} (_:K.In h) (_:mg x=Io (.ref C)) (l:K.lookup C=Io ⟨.type "type",od,.cls cd,sl⟩) (h2:cE cd.mro=true) (h3:cd.hasDict=true)
  (sa:findIn K (.ref C) "__setattr__"=Io (Io (.builtin "object.__setattr__"))) (ga:findIn K (.ref C) "__getattribute__"=Io (Io (.builtin "BaseException.__getattribute__"))) (gx:findIn K (.ref C) "__getattr__"=Io none)
  (ca:findIn K (.ref C) "__class__"=Io (Io (.builtin "object.__class__"))) (gs:specialIn K (.builtin "object.__class__") "__get__"=Io (Io (.builtin "getset_descriptor.__get__"))) (tk:takesIn K (.builtin "object.__class__")=Io true)
  (ob:∃ nm q N bs bm P' sn sub ab col dd k0 k1 k2 k3 k5,(⟨.type "type",od,.cls cd,sl⟩:K9)=excClassObj nm q C N bs bm P' sn sub ab col dd k0 k1 k2 k3 k5 mW/\bm.contains (.type "ValueError")=true/\bm.contains (.type "AttributeError")=false/\bm.contains (.type "NameError")=false) (kp:keepIn K (.ref C)=true):fg K C/\CG K C :=
 ⟨Cw l h2 h3 sa ga gx ca gs tk,E6 l ob kp⟩
end
end L2
namespace Pw
theorem mi (x n:Int):∀ k:Nat,(x%n)^k%n=x^k%n
 | 0=>by rw [Jp,Jp]
 | k+1=>by rw [IY,IY,L8,mi x n k,Rj,<- L8]
theorem Ag (b:Int):∀ k:Nat,(b*b)^k=b^(2*k)
 | 0=>by rw [M8,Jp,Jp]
 | k+1=>by rw [IY,Ag b k,SE,Lk,IY,IY,JO]
theorem yK (x y n:Int):x%n*y%n=x*y%n:=by rw [L8,Rj,<- L8]
theorem C2 {x x' y y' n:Int} (h:x%n=x'%n) (h':y%n=y'%n):x*y%n=x'*y'%n:=by rw [L8,h,h',<- L8]
theorem step (r b n:Int) (l:Nat):(if l%2=1 then r*b%n else r)*(b*b%n)^(l/2)%n=r*b^l%n:=by
 have e:(b*b%n)^(l/2)%n=b^(2*(l/2))%n:=by rw [mi,Ag]
 by_cases c:l%2=1
 ·rw [if_pos c];have h:l=2*(l/2)+1:=by lia
  have e2:b^l=b^(2*(l/2))*b:=by rw [<- IY];exact congrArg _ h
  rw [C2 (Of (r*b) (MC n)) e,e2];congr 1;rw [JO,JM b]
 ·rw [if_neg c];have h:l=2*(l/2):=by lia
  rw [C2 (rfl:r%n=r%n) e,<- h]
theorem pow_add (a:Int) (m:Nat):∀ k:Nat,a^(m+k)=a^m*a^k
 | 0=>by rw [Nat.add_zero,Jp,KP]
 | k+1=>by rw [<- Nat.add_assoc,IY,pow_add a m k,IY,JO]
theorem mul_pow (a b:Int):∀ k:Nat,(a*b)^k=a^k*b^k
 | 0=>by rw [Jp,Jp,Jp,KP]
 | k+1=>by
  rw [IY,IY,IY,mul_pow a b k]
  grind
theorem pow_mul (a:Int) (m:Nat):∀ k:Nat,a^(m*k)=(a^m)^k
 | 0=>by rw [M8,Jp,Jp]
 | k+1=>by rw [SE,Lk,pow_add,pow_mul a m k,IY]
theorem one_pow:∀ k:Nat,(1:Int)^k=1
 | 0=>Jp 1
 | k+1=>by rw [IY,one_pow k,KP]
theorem DH {n x y:Int}:x%n=y%n↔n∣x-y:=by rw [LC,Int.dvd_iff_emod_eq_zero]
end Pw
namespace L2
open PySem PySem.Spec PyProof.Rows
theorem EF {X:Cx} {st:MH} {t:TS} (h:PS X.lY st t):PS X st t:=λpins s σ H D I hw =>Kc (h pins s σ H D (I.j5 _) hw) (λ_ _ q=>q.eR) λ_ _ z=>Kk z
end L2
namespace L2
open PySem PySem.Spec PyProof.Rows PySem.W
theorem Vals.rev {xs:List V} {us:List Ir} (h:Vals xs us):Vals xs.reverse us.reverse:=h.reverse
def Gz (K:Iq) (te:TE) (tk:TO):TE:=λσ H Q=>te σ H λx H1=>tk σ H1 λo H2=>o=Io (-1)/\∃ a xs,x=.ref a/\aJ K H2 a xs/\∀ p,H2 p=none->Q (.ref p) (upd H2 p (.lst xs.reverse))
section
variable {X:Cx} {e k:JH} {te:TE} {tk:TO} {p2 pos:Mn}
theorem EB (he:PE X e te) (hk:PO X (Io k) tk)
  (hs:∀ a b:Iy,∃ ops,subscripted (.Slice none none (Io k) p2) false (.ref a) (.ref b)=operate ops (getItem (.ref a) (.ref b)):=by intro a b;exact⟨_,by with_unfolding_all rfl⟩):PE X (.Subscript e (.Slice none none (Io k) p2) pos) (Gz X.K te tk):=by
 intro pins s σ H Q I h;refine P7 (bf (he pins s σ H _ I h) λv s1 ⟨x,H1,I1,r1,q1⟩=>?_);refine Sz ?_;rw [PF];refine IA (IA ?_);refine bf (hk pins s1 σ H1 _ I1 q1) λvk s3 ⟨o,H3,I3,pk,eo,a,xs,ex,hx,q3⟩=>?_;subst eo;subst ex;cases r1;have I4:Inv X pins σ H3 { s3 with heap:=s3.heap.push { cls:=.type "slice",data:=.fields #[.none,.none,vk] } }:=I3.kept (t':=s3.toks) λb ob q=>Iw _ q;obtain⟨its,r,ht,hz⟩:=I4.list hx;have hlen:=r.length;show wpAny (model X.prog X.w) X.A (subscriptTail e (.Slice none none (Io k) p2) (.ref a) (.ref s3.heap.objs.size)) (EP X pins σ Q) X.xe { s3 with heap:=s3.heap.push { cls:=.type "slice",data:=.fields #[.none,.none,vk] } };obtain⟨ops,hops⟩:=hs a s3.heap.objs.size;refine UX (ops:=ops) ht.isList.typeIs Pj.lookup ?_ hops;refine PH ht.isList (OR ..) .none .none pk (by simp) ?_ (by rw [IP]<;>lia);rw [krv_pick];refine⟨.ref _,_,I4.laid (t':=s3.toks) (o:=.lst xs.reverse) (λb ob q=>Iw _ q) (IF _) ?_,rfl,q3 _ (I4.hok.fresh (IF _))⟩;exact⟨by rw [Lj];exact hz,_,0,r.rev,II _ rfl⟩
end
mutual
def dv (K:Iq) (H:Hp):IL->V->Prop
 | .none,v=>v=.non
 | .bool b,v=>v=.bl b
 | .int i,v=>v=.int i
 | .str x,v=>v=.str x
 | .list ds,v=>∃ p xs,v=.ref p/\aJ K H p xs/\aE K H ds xs
 | .tuple ds,v=>∃ p xs,v=.ref p/\bj K H p xs/\aE K H ds xs
 | .dict _,_=>False
def aE (K:Iq) (H:Hp):List IL->List V->Prop
 | [],xs=>xs=[]
 | d::ds,xs=>∃ x r,xs=x::r/\dv K H d x/\aE K H ds r
end
section
variable {K:Iq} {H H':Hp}
theorem Rd.same {a:Iy} {o:HO} (h:Rd H a o) (s:av H H'):Rd H' a o:=by
 rcases h with h | ⟨b,h⟩
 ·exact .inl (s _ _ h)
 ·exact .inr ⟨b,s _ _ h⟩
theorem aJ.same {a:Iy} {xs:List V} (h:aJ K H a xs) (s:av H H'):aJ K H' a xs:=h.imp (λz=>z.same s) id
theorem bj.same {a:Iy} {xs:List V} (h:bj K H a xs) (s:av H H'):bj K H' a xs:=h.imp (λz=>z.same s) id
mutual
theorem dv.same (s:av H H'):∀(d:IL) {v:V},dv K H d v->dv K H' d v
 | .none,_,h=>h
 | .bool _,_,h=>h
 | .int _,_,h=>h
 | .str _,_,h=>h
 | .list ds,_,⟨p,xs,e,h,t⟩=>⟨p,xs,e,h.same s,aE.same s ds t⟩
 | .tuple ds,_,⟨p,xs,e,h,t⟩=>⟨p,xs,e,h.same s,aE.same s ds t⟩
 | .dict _,_,h=>h.elim
theorem aE.same (s:av H H'):∀(ds:List IL) {xs:List V},aE K H ds xs->aE K H' ds xs
 | [],_,h=>h
 | d::ds,_,⟨x,r,e,h,t⟩=>⟨x,r,e,dv.same s d h,aE.same s ds t⟩
end
theorem aE.length:∀{ds:List IL} {xs:List V},aE K H ds xs->xs.length=ds.length
 | [],_,h=>by cases h;rfl
 | d::ds,_,⟨x,r,e,h,t⟩=>by subst e;rw [JU,JU,aE.length t]
theorem aE.get:∀{ds:List IL} {xs:List V},aE K H ds xs->∀{i:Nat} {x:V},xs[i]?=Io x->∃ d,ds[i]?=Io d/\dv K H d x
 | [],_,h,i,x,e=>by cases h;simp at e
 | d::ds,_,⟨y,r,ey,h,t⟩,0,x,e=>by subst ey;simp at e;subst e;exact⟨d,rfl,h⟩
 | d::ds,_,⟨y,r,ey,h,t⟩,i+1,x,e=>by subst ey;simp at e;simpa using aE.get t e
theorem aE.append:∀{ds es:List IL} {xs ys:List V},aE K H ds xs->aE K H es ys->aE K H (ds++es) (xs++ys)
 | [],_,_,_,h,h'=>by cases h;exact h'
 | d::ds,_,_,_,⟨x,r,e,h,t⟩,h'=>by subst e;exact⟨x,_,rfl,h,t.append h'⟩
theorem aE.one {d:IL} {x:V} (h:dv K H d x):aE K H [d] [x]:=⟨x,[],rfl,h,rfl⟩
theorem aE.ints:∀ ns:List Int,aE K H (ns.map N8) (ns.map V.int)
 | []=>rfl
 | n::ns=>⟨_,_,rfl,rfl,aE.ints ns⟩
theorem dv.lst {p:Iy} {xs:List V} {ds:List IL} (h:H p=Io (.lst xs)) (t:aE K H ds xs):dv K H (.list ds) (.ref p):=⟨p,xs,rfl,aJ.of h,t⟩
theorem dv.tup {p:Iy} {xs:List V} {ds:List IL} (h:H p=Io (.tup xs)) (t:aE K H ds xs):dv K H (.tuple ds) (.ref p):=⟨p,xs,rfl,bj.of h,t⟩
mutual
def kX:IL->Bool
 | .list _=>false
 | .tuple ds=>dP ds
 | _=>true
def dP:List IL->Bool
 | []=>true
 | d::ds=>kX d && dP ds
end
def SameBut (p:Iy) (H H':Hp):Prop:=∀ b o,b≠p->H b=Io o->H' b=Io o
theorem bj.but {p a:Iy} {us xs:List V} (hp:H p=Io (.lst us)) (s:SameBut p H H') (h:bj K H a xs):bj K H' a xs:=by
 rcases h with (h | ⟨o,h⟩) | h
 ·exact .inl (.inl (s _ _ (λe=>by rw [e,hp] at h;cases h) h))
 ·exact .inl (.inr ⟨o,s _ _ (λe=>by rw [e,hp] at h;cases h) h⟩)
 ·exact .inr h
mutual
theorem dv.but {p:Iy} {us:List V} (hp:H p=Io (.lst us)) (s:SameBut p H H'):∀(d:IL) {v:V},kX d=true->dv K H d v->dv K H' d v
 | .none,_,_,h=>h
 | .bool _,_,_,h=>h
 | .int _,_,_,h=>h
 | .str _,_,_,h=>h
 | .list ds,_,z,_=>by cases z
 | .tuple ds,_,z,⟨q,xs,e,h,t⟩=>⟨q,xs,e,h.but hp s,aE.but hp s ds z t⟩
 | .dict _,_,_,h=>h.elim
theorem aE.but {p:Iy} {us:List V} (hp:H p=Io (.lst us)) (s:SameBut p H H'):∀(ds:List IL) {xs:List V},dP ds=true->aE K H ds xs->aE K H' ds xs
 | [],_,_,h=>h
 | d::ds,_,z,⟨x,r,e,h,t⟩=>by
  have z':kX d=true/\dP ds=true:=by simpa [dP] using z
  exact⟨x,r,e,dv.but hp s d z'.1 h,aE.but hp s ds z'.2 t⟩
end
theorem cF {α:Type} {f:α->IL} (h:∀ x,kX (f x)=true):∀ xs:List α,dP (xs.map f)=true
 | []=>rfl
 | x::xs=>by rw [Jz,dP,h,cF h xs];rfl
end
section
variable {X:Cx} {pins:List (Iy × K9)} {σ:St} {H:Hp} {s:Iz}
mutual
theorem gI (I:Inv X pins σ H s):∀(d:IL) {v:V} {u:Ir},dv X.K H d v->RelV v u->∃ as,Vq s.heap u d as
 | .none,_,u,h,r=>by cases h;cases r;exact⟨_,.none⟩
 | .bool _,_,u,h,r=>by cases h;cases r;exact⟨_,.bool _⟩
 | .int _,_,u,h,r=>by cases h;obtain⟨t,rfl⟩:=r;exact⟨_,.int _ _⟩
 | .str _,_,u,h,r=>by cases h;obtain⟨t,rfl⟩:=r;exact⟨_,.str _ _⟩
 | .list ds,_,u,⟨p,xs,e,h,t⟩,r=>by subst e;cases r;obtain⟨its,rr,pl,_⟩:=I.list h;obtain⟨o,h1,h2,n,h3⟩:=pl.isList;obtain⟨as,ra⟩:=dO I ds t rr;exact⟨_,.list h1 h2 h3 (by simpa using ra)⟩
 | .tuple ds,_,u,⟨p,xs,e,h,t⟩,r=>by subst e;cases r;obtain⟨its,rr,pl,_⟩:=I.tuple h;obtain⟨o,h1,h2,n,h3⟩:=pl;obtain⟨as,ra⟩:=dO I ds t rr;exact⟨_,.tuple h1 h2 h3 (by simpa using ra)⟩
 | .dict _,_,_,h,_=>h.elim
theorem dO (I:Inv X pins σ H s):∀(ds:List IL) {xs:List V} {us:List Ir},aE X.K H ds xs->Vals xs us->∃ as,U3 s.heap us ds as
 | [],_,us,h,r=>by cases h;cases r;exact⟨_,.nil⟩
 | d::ds,_,us,⟨x,r,e,h,t⟩,rr=>by
  subst e;cases rr with
  | cons r1 r2 =>obtain⟨a1,q1⟩:=gI I d h r1;obtain⟨a2,q2⟩:=dO I ds t r2;exact⟨_,.cons q1 q2⟩
end
def F5 (K:Iq) (neg:Bool):R2:=λy x H Q=>∃ d e,dv K H d y/\dv K H e x/\d.canLay0=true/\e.canLay0=true/\min d.depth e.depth<=60/\Q (.bl (if neg then !PyData.eqv d e else MD d e)) H
theorem Et (hu:X.A.units+64<cLine):iU X (compareOp .Eq) (F5 X.K false):=by intro pins s σ H y x u v Q I ry rx h;obtain⟨d,e,hd,he,c1,c2,c3,q⟩:=h;obtain⟨as,ra⟩:=gI I d hd ry;obtain⟨bs,rb⟩:=gI I e he rx;exact SeqAt.compareEq_reads ra rb c1 c2 (by lia) ⟨.bl _,H,I,rfl,q⟩
end
end L2
namespace Pw
def lst (xs:List Nat):Nat:=xs.getLast?.getD 0
end Pw
namespace L2
open PySem PySem.Spec PyProof.Rows PySem.W
def AI (C:Iy) (H:Hp) (E:XK):Prop:=∀ x H',av H H'->H x=none->H' x=Io (XO x C none)->E (.ref C) (Io x) H'
def AL (C:Iy) (f:Jb) (v:V) (H:Hp) (E:XK):Prop:=∀ x dx H',av H H'->H x=none->H' x=Io (XO x C (Io dx))->H' dx=Io (.xd [(f,v)])->E (.ref C) (Io x) H'
theorem fk {K:Iq} {C x:Iy} {H H1:Hp} {E:XK} (c:fg K C) (hs:av H H1) (hx:H1 x=none) (e:AI C H E) :
  ∃(C':Iy) (dd:Option Iy),upd H1 x (XN x C none) x=Io (XN x C' dd)/\fg K C'/\H x=none/\E (.ref C') (Io x) (upd (upd H1 x (XN x C none)) x (XO x C' dd)):=by
 refine⟨C,none,ag,c,hs.free hx,e x _ ?_ (hs.free hx) ag⟩;intro b o q;have q1:=hs _ _ q;have bx:b≠x:=λy=>by rw [y,hx] at q1;cases q1
 rw [ao bx,ao bx];exact q1
theorem jP {K:Iq} {C x dx:Iy} {f:Jb} {v:V} {H H1:Hp} {E:XK} (c:fg K C) (hs:av H H1) (hx:H1 x=none) (hdx:H1 dx=none) (ne:dx≠x) (e:AL C f v H E) :
  ∃(C':Iy) (dd:Option Iy),upd (upd (upd H1 x (XN x C none)) dx (.xd [(f,v)])) x (XN x C (Io dx)) x=Io (XN x C' dd)/\fg K C'/\H x=none/\E (.ref C') (Io x) (upd (upd (upd (upd H1 x (XN x C none)) dx (.xd [(f,v)])) x (XN x C (Io dx))) x (XO x C' dd)):=by
 refine⟨C,Io dx,ag,c,hs.free hx,e x dx _ ?_ (hs.free hx) ag ?_⟩
 ·intro b o q;have q1:=hs _ _ q;have bx:b≠x:=λy=>by rw [y,hx] at q1;cases q1
  have bd:b≠dx:=λy=>by rw [y,hdx] at q1;cases q1
  rw [ao bx,ao bx,ao bd,ao bx];exact q1
 ·rw [ao ne,ao ne,ag]
end L2
namespace Ld
structure fW (n r:Int):Prop where
 two:2<=r
 dv:r∣n
 no:∀ d:Int,2<=d->d<r->¬d∣n
theorem fW.one {n r r':Int} (h:fW n r) (h':fW n r'):r=r':=by
 rcases Int.lt_trichotomy r r' with c | c | c
 ·exact absurd h.dv (h'.no r h.two c)
 ·exact c
 ·exact absurd h'.dv (h.no r' h'.two c)
theorem fW.le {n r:Int} (h:fW n r) (hn:0<n):r<=n:=Jh hn h.dv
structure Inv (n k:Int):Prop where
 two:2<=k
 odd:k=2∨k%2=1
 no:∀ d:Int,2<=d->d<k->¬d∣n
theorem Inv.step {n k:Int} (h:Inv n k) (hk:¬k∣n):Inv n (k+if k=2 then 1 else 2):=by
 have h2:=h.two;by_cases c:k=2
 ·rw [if_pos c];refine⟨by lia,.inr (by lia),λd d0 d1=>?_⟩;have:d=k:=by lia
  rw [this];exact hk
 ·rw [if_neg c];have ho:k%2=1:=by rcases h.odd with z | z;exact absurd z c;exact z
  refine⟨by lia,.inr (by lia),λd d0 d1 hd=>?_⟩;rcases (by lia:d<k∨d=k∨d=k+1) with z | z | z
  ·exact h.no d d0 z hd
  ·subst z;exact hk hd
  ·have e2:(2:Int)∣d:=I0 (by lia);exact h.no 2 (by lia) (by lia) (Mj e2 hd)
theorem Inv.found {n k:Int} (h:Inv n k) (hk:k∣n):fW n k:=⟨h.two,hk,h.no⟩
theorem Inv.done {n k:Int} (h:Inv n k) (hn:2<=n) (hk:n<k*k):fW n n:=by
 refine⟨hn,MC n,λd d0 d1 hd=>?_⟩;obtain⟨c,hc⟩:=hd;have h2:=h.two;by_cases z:d<k
 ·exact h.no d d0 z ⟨c,hc⟩
 ·have c0:0<c:=by
   rcases (by lia:c<=0∨0<c) with y | y
   ·have:=Jq (show 0<=d by lia) y;lia
   ·exact y
  have c2:2<=c:=by
   rcases (by lia:c=1∨2<=c) with y | y
   ·subst y;lia
   ·exact y
  have ck:c<k:=by
   rcases (by lia:c<k∨k<=c) with y | y
   ·exact y
   ·have:=LW (show k<=d by lia) y (by lia) (by lia);lia
  exact h.no c c2 ck ⟨d,by rw [JM];exact hc⟩
end Ld
namespace L2
open PySem PySem.Spec PyProof.Rows PySem.W
section
variable {K:Iq} {H:Hp}
mutual
theorem eqv_refl:∀ d:IL,d.canLay0=true->MD d d=true
 | .none,_=>by simp [MD]
 | .bool _,_=>by simp [MD]
 | .int _,_=>by simp [MD]
 | .str _,_=>by simp [MD]
 | .list ds,h=>by simpa [MD] using jO ds h
 | .tuple ds,h=>by simpa [MD] using jO ds h
 | .dict _,h=>by simp [OU] at h
theorem jO:∀ ds:List IL,KS ds=true->PJ ds ds=true
 | [],_=>by simp [PJ]
 | d::ds,h=>by
  have h':d.canLay0=true/\KS ds=true:=by simpa [KS] using h
  simp [PJ,eqv_refl d h'.1,jO ds h'.2]
end
theorem xP {neg:Bool} {v u:V} {d:IL} {Q:VK} (h1:dv K H d v) (h2:dv K H d u) (hl:d.canLay0=true) (hd:d.depth<=60) (h:Q (.bl (!neg)) H):F5 K neg v u H Q:=by
 refine⟨d,d,h1,h2,hl,hl,by lia,?_⟩;rw [eqv_refl d hl];cases neg
 ·exact h
 ·exact h
end
end L2
namespace L2
open PySem PySem.Spec PyProof.Rows
def GW (lo k:Int) (n:Nat):It:=⟨λi _=>i<n,λi H x H'=>H'=H/\x=.int (lo+i*k),λi _=>n<=i⟩
noncomputable def FY (lo hi k:Int):Nat:=if lo<hi then ((hi-lo-1)/k+1).toNat else 0
def FO (ta:TA):TI:=λσ H R=>ta σ H λvs H1=>∃ i j k:Int,vs=[.int i,.int j,.int k]/\(-(2^60)<=i/\i<2^60 /\ -(2^60)<=j/\j<2^60/\0<k/\k<2^29)/\R (GW i k (FY i j k)) H1
section
variable {X:Cx} {tg:JH}
end
end L2
namespace Sv
noncomputable def ET (d:Nat) (arr:Nat->Bool):Nat->Bool:=λj=>arr j || (decide (d*d<=j) && decide (j%d=0))
noncomputable def sv:Nat->(Nat->Bool) × List Nat
 | 0=>(λ_=>false,[])
 | i+1=>if (sv i).1 (i+2) then sv i else (ET (i+2) (sv i).1,(sv i).2++[i+2])
theorem len:∀ i,(sv i).2.length<=i
 | 0=>IF _
 | i+1=>by
  have:=len i;rw [sv];split
  ·lia
  ·rw [Js,Ks];lia
end Sv
namespace L2
open PySem PySem.Spec PyProof.Rows
theorem vR {X:Cx}:dQ X (.type "int") (λxs H Q=>∃ k,xs=[.bl k]/\Q (.int (if k=true then 1 else 0)) H):=λpins s σ H xs us Q I r h=>vQ pins s σ H xs us Q I r (.inr h)
section
variable {X:Cx} {pins:List (Iy × K9)} {σ:St} {H:Hp} {s:Iz} {h':JD}
theorem Inv.la {t':Nat} {ch:List Iy} (I:Inv X pins σ H s) (k:∀ b o,b∉ch->s.heap.get? b=Io o->h'.get? b=Io o) (hf:∀ b∈ch,mN X pins H b):Inv X pins σ H { s with heap:=h',toks:=t' }:=by
 have nit:∀ b u,H b=Io u->b∉ch:=λb u e z=>by rw [(hf b z).1] at e;cases e
 refine I.step (g':=s.gens) (d':=s.drawn) (ch:=ch) (λb hb=>?_) (λb o _ _ hc e _=>k b o hc e) (λb o _ _ hc e _=>⟨o.slots,k b o hc e⟩) (λ_ _ _ _ n=>n)
  (λb o hc e=>⟨o,k b o hc e⟩) (λ_ _ e=>e) (λ_ _ _ e=>e) (λb ps e=>⟨#[],by rw [e];simp⟩) (λm hm=>?_) (λb u e=>?_) I.bare
 ·obtain⟨_,f1,_,f3,f4,f5⟩:=hf b hb;exact⟨f3,f1,f4,f5⟩
 ·obtain⟨o,es,ep,ho,r⟩:=hm;exact⟨o,es,ep,k _ o (λz=>(hf _ z).2.1 rfl) ho,r⟩
 ·refine (I.hok b u e).eQ (λc v hc q=>k c v ?_ q) (λ_ q=>q) λ_ _ q=>q;rcases hc with z | z
  ·rw [z];exact nit b u e
  ·exact nit c _ z
theorem Inv.adopt {T:Iy} {o:HO} (I:Inv X pins σ H s) (hf:mN X pins H T) (new:bG X.prog X.w (upd H T o) s.heap T o):Inv X pins σ (upd H T o) s:=by
 have nT:∀ b u,H b=Io u->b≠T:=λb u e z=>by rw [z,hf.1] at e;cases e
 refine I.step (h':=s.heap) (g':=s.gens) (d':=s.drawn) (t':=s.toks) (ch:=[T]) (λb hb=>?_) (λb o _ _ hc e _=>e) (λb o _ _ hc e _=>⟨o.slots,e⟩) (λb o hc e n=>by rw [ao (λz=>hc (by simp [z]))];exact n)
  (λb o hc e=>⟨o,e⟩) (λb xs e=>by rw [ao (nT _ _ e)];exact e) (λb o u e=>by rw [ao (nT _ _ e)];exact e) (λb ps e=>⟨#[],by rw [ao (nT _ _ e),e];simp⟩) (λm hm=>hm) (λb u e=>?_) I.bare
 ·have e:b=T:=by simpa using hb
  subst e;obtain⟨_,f1,_,f3,f4,f5⟩:=hf;exact⟨f3,f1,f4,f5⟩
 ·by_cases z:b=T
  ·subst z;rw [ag] at e;cases e;exact new
  ·rw [ao z] at e;exact (I.hok b u e).eQ (λc v _ q=>q) (λc q=>by rw [ao (nT _ _ q)];exact q) λc xs q=>by rw [ao (nT _ _ q)];exact q
end
def GH (K:Iq) (a:Iy):It :=
 ⟨λi H=>∃ xs x,aJ K H a xs/\xs[i]?=Io x,λi H x H'=>∃ p v,H p=none/\x=.ref p/\(∀ xs,aJ K H a xs->xs[i]?=Io v)/\H'=upd H p (.tup [.int i,v]),λi H=>∃ xs,aJ K H a xs/\xs.length<=i⟩
theorem xh {P:IM} {w:Jo} {K:Iq} {elts:List JH} {x1} {pos:Mn} (a it e:Iy) (ne:e≠it):Turn P w K (.Tuple elts x1 pos) (GH K a) [e,it] e (λi h=>(∃ old,IsEnum h e it i old)/\h.IsListIter it a i) where
 mem:=by simp
 obj:=λi h st b hb=>by
  obtain⟨⟨old,he⟩,hit⟩:=st;rcases IU.mp hb with z | z
  ·subst z;exact⟨_,he,λv z=>by cases z⟩
  ·have z:b=it:=by simpa using z
   subst z;obtain⟨o,e,c,d⟩:=hit;exact⟨o,e,λv z=>by rw [d] at z;cases z⟩
 keep:=λi h h' st k=>by obtain⟨⟨old,he⟩,hit⟩:=st;exact⟨⟨old,k e (by simp) _ he⟩,hit.at λo x=>k it (by simp) o x⟩
 item:=by
  intro X hP hw hK hc i pins s σ H E I hf st hg;subst hP hw hK;obtain⟨xs,x,hq,hx⟩:=hg;obtain⟨its,rv,p,hz⟩:=I.list hq;obtain⟨u,hu,ru⟩:=rv.get hx;obtain⟨⟨old,he⟩,hit⟩:=st;refine wpAny_pyNext_enum_item he hit p.isList (x:=u) (by simpa using hu) ne λh' ho hit' hT hsz hk=>?_;refine⟨_,rfl,?_⟩;have fT:H s.heap.objs.size=none:=I.hok.fresh (IF _);refine wpAny_letOwnedTupleGo_enum ho λh2 he2 hs2=>?_;have hke:∀ b o,b∉[e,it]->s.heap.get? b=Io o->h2.get? b=Io o:=λb o hb q=>by have n1:b≠e:=λz=>hb (by simp [z]);have n2:b≠it:=λz=>hb (by simp [z]);exact (hs2.2 b n1).trans (hk b o n1 n2 q)
  have I1:Inv X pins σ H { s with heap:=h2,toks:=s.toks+1 }:=I.la hke hf;have ne1:s.heap.objs.size≠e:=Lc (IK he);have hT2:h2.get? s.heap.objs.size=Io { cls:=.type "tuple",data:=.seq #[.int i s.toks,u] }:=(hs2.2 _ ne1).trans hT;refine⟨.ref s.heap.objs.size,upd H s.heap.objs.size (.tup [.int i,x]),?_,rfl,⟨_,x,fT,rfl,λys hy=>by rw [I.lQ hy hq];exact hx,rfl⟩,⟨⟨u,by simpa using he2⟩,hit'.at λo q=>(hs2.2 it (JC ne)).trans q⟩,λb hb=>?_⟩
  ·have:=I1.adopt (T:=s.heap.objs.size) (o:=.tup [.int i,x]) (I.mQ (IF _) fT) ⟨by show 2<=sizeLine;decide,[.int i s.toks,u],.cons ⟨_,rfl⟩ (.cons ru .nil),⟨_,hT2,rfl,_,rfl⟩⟩;exact this
  ·have ne2:s.heap.objs.size≠it:=by obtain⟨o,q,_⟩:=hit;exact Lc (IK q)
   have nb:b≠s.heap.objs.size:=λz=>by
    subst z;simp only [IU,Ke,or_false] at hb;rcases hb with y | y
    ·exact ne1 y
    ·exact ne2 y
   rw [ao nb];exact (hf b hb).1
 done:=by intro X hP hw hK hc i pins s σ H E I hf st hg;subst hP hw hK;obtain⟨xs,hq,hx⟩:=hg;obtain⟨its,rv,p,hz⟩:=I.list hq;have hl:=rv.length;obtain⟨⟨old,he⟩,hit⟩:=st;exact wpAny_pyNext_enum_end (I.ok.hd hc) he hit p.isList (by simp;lia) λh' eb=>⟨rfl,I.la (t':=s.toks) (ch:=[it]) (λb o hb q=>eb b o (λz=>hb (by simp [z])) q) (λb hb=>hf b (IG _ hb))⟩
 self:=λ_ _ _ _ _ st h=>by obtain⟨⟨old,he⟩,_⟩:=st;exact RQ he h
def CV (K:Iq) (ta:TA):TI:=λσ H R=>ta σ H λvs H1=>∃ a,vs=[.ref a]/\(∃ xs,aJ K H1 a xs)/\R (GH K a) H1
theorem kF:bootBuiltins "enumerate"=Io (.type "enumerate"):=by decide +kernel
theorem jg {X:Cx} {elts:List JH} {x1} {tpos:Mn} {a:JH} {ta:TA} {p pos:Mn} (hg:Gl X "enumerate") (hm:X.mg "enumerate"=none) (ha:PA X [a] ta) (hs:starEach [a] X.env=[(false,eval a X.env)]:=by rfl) :
  PI X (.Tuple elts x1 tpos) (.Call (.Name "enumerate" p) [a] [] pos) (CV X.K ta):=by
 intro pins s σ H R I h;refine Vo (fc I hg hm kF (Kr (bf (ha pos pins s σ H _ I h) λus s1 ⟨vs,H1,I1,r1,q1⟩=>?_) hs rfl));obtain⟨b,e,⟨xs,hq⟩,q⟩:=q1;subst e;cases r1 with
 | cons r rr =>
  cases rr;cases r;obtain⟨its,rv,pl,hz⟩:=I1.list hq;refine call_enumerate_list pl.isList λh' he hit hsz hk=>?_;refine RQ he ?_;have I2:Inv X pins σ H1 { s1 with heap:=h' }:=I1.kept (t':=s1.toks) hk;refine⟨_,[s1.heap.objs.size+1,s1.heap.objs.size],_,_,H1,rfl,I2,xh b s1.heap.objs.size (s1.heap.objs.size+1) (Nat.succ_ne_self _),⟨⟨_,he⟩,hit⟩,λc hc=>?_,q⟩;simp only [IU,Ke,or_false] at hc;rcases hc with rfl | rfl
  ·exact I1.mQ (by lia) (I1.hok.fresh (by lia))
  ·exact I1.mQ (by lia) (I1.hok.fresh (by lia))
theorem gY {K:Iq} {a:Iy} {xs:List V} {g:TG} {tb:TS} {D:Ends} {σ:St} {H:Hp} (Pv:Nat->St->Hp->Prop) (h0:Pv 0 σ H) (hl:∀ i σ H,i<=xs.length->Pv i σ H->aJ K H a xs)
  (hs:∀ i x σ H p,xs[i]?=Io x->Pv i σ H->H p=none->g (.ref p) σ (upd H p (.tup [.int i,x])) λσ2 H2=>tb { D with nx:=Pv (i+1),ct:=Pv (i+1),bk:=D.nx } σ2 H2) (hd:∀ σ H,Pv xs.length σ H->D.nx σ H):Loop (GH K a) g tb D σ H:=by
 refine⟨λi m σ H=>m=xs.length-i/\i<=xs.length/\Pv i σ H,⟨xs.length,by simp,J4 _,h0⟩,?_⟩;rintro i m σ H ⟨rfl,hi,p⟩;have q:=hl i σ H hi p;by_cases hlt:i<xs.length
 ·have hx:xs[i]?=Io xs[i]:=Iv hlt;refine .inr ⟨⟨xs,_,q,hx⟩,Pv (i+1),λσ' H' p'=>⟨xs.length-(i+1),by lia,rfl,hlt,p'⟩,λx H' y=>?_⟩;obtain⟨pt,v,f,e1,e2,e3⟩:=y;subst e1 e3;have:=e2 xs q;exact hs i v σ H pt this p f
 ·have e:i=xs.length:=by lia
  subst e;exact .inl ⟨⟨xs,q,IF _⟩,hd σ H p⟩
end L2
namespace Crt
structure G (a b g:Int):Prop where
 pos:0<g
 da:g∣a
 db:g∣b
 lin:∃ u v:Int,u*a+v*b=g
theorem G.gr {a b g d:Int} (h:G a b g) (h1:d∣a) (h2:d∣b):d∣g:=by obtain⟨u,v,e⟩:=h.lin;rw [<- e];exact Lx (JA h1) (JA h2)
theorem G.one {a b g g':Int} (h:G a b g) (h':G a b g'):g=g':=Ov (Jh h'.pos (h'.gr h.da h.db)) (Jh h.pos (h.gr h'.da h'.db))
theorem a1 {g u A v L:Int} (e:u*(g*A)+v*(g*L)=g):g*(u*A+v*L)=g*1:=by grind
theorem a2 {g A k L l y:Int} (h1:y=g*A*k) (h2:y=g*L*l):g*(A*k)=g*(L*l):=by grind
theorem a3 {u A v L k l:Int} (e4:u*A+v*L=1) (e5:A*k=L*l):k=L*(u*l+v*k):=by
 have z:k*(u*A+v*L)=k:=by rw [e4,KP]
 grind
theorem a4 {A D r L q1 t:Int} (et:L*q1+t=D*r):A*t=A*(D*r)-A*(L*q1):=by grind
theorem a5 {D r A L c:Int} (hc:r*A-1=L*c):D*(r*A)-D=D*(L*c):=by rw [<- hc];grind
theorem a6 {M L t q2 N x:Int} (ex:M*L*q2+x=N+M*t):x-N=M*(t-L*q2):=by grind
theorem a7 {g A L t q1 q2 c D r N x:Int} (z3:x=N+g*A*t-g*A*L*q2) (z1:A*t=A*(D*r)-A*(L*q1)) (z2:D*(r*A)-D=D*(L*c)):x-(N+g*D)=g*L*(c*D-q1*A-A*q2):=by grind
theorem a8 {M L k w:Int} (h:k=L*w):M*k=M*L*w:=by rw [h,JO]
structure vL (M N m n W x:Int):Prop where
 pos:0<W
 dM:M∣W
 dm:m∣W
 le:∀ y:Int,M∣y->m∣y->W∣y
 x0:0<=x
 x1:x<W
 eM:M∣x-N
 em:m∣x-n
theorem both {M N m n g r:Int} (hM:0<M) (hm:0<m) (h:G M m g) (hd:g∣n-N) (hr:m/g∣r*(M/g)-1):vL M N m n (M*(m/g)) ((N+M*((n-N)/g*r%(m/g)))%(M*(m/g))):=by
 obtain⟨A,hA⟩:=h.da;obtain⟨L,hL⟩:=h.db;obtain⟨D,hD⟩:=hd;have g0:=h.pos;have e1:m/g=L:=by rw [hL];exact JB _ (by lia)
 have e2:M/g=A:=by rw [hA];exact JB _ (by lia)
 have e3:(n-N)/g=D:=by rw [hD];exact JB _ (by lia)
 rw [e1,e2] at hr;rw [e1,e3];have L0:0<L:=by
  rcases (by lia:L<=0∨0<L) with z | z
  ·have:=Jq (LN g0) z;lia
  ·exact z
 have W0:0<M*L:=QL hM L0;have dm:m∣M*L:=⟨A,by rw [hA,hL,JO,JO,JM A L]⟩
 have et:=LX (D*r) L;have ex:=LX (N+M*(D*r%L)) (M*L);generalize hT:D*r%L=t at *;generalize D*r/L=q1 at *;have X0:=Jn (N+M*t) (show M*L≠0 by lia);have X1:=Jg (N+M*t) W0;generalize (N+M*t)%(M*L)=x at *;generalize (N+M*t)/(M*L)=q2 at *;obtain⟨c,hc⟩:=hr;refine⟨W0,⟨L,rfl⟩,dm,λy h1 h2=>?_,X0,X1,⟨t-L*q2,a6 ex⟩,?_⟩
 ·obtain⟨k,hk⟩:=h1;obtain⟨l,hl⟩:=h2;obtain⟨u,v,e⟩:=h.lin;have e4:u*A+v*L=1:=J5 (show g≠0 by lia) (a1 (by rw [hA,hL] at e;exact e));have e5:A*k=L*l:=J5 (show g≠0 by lia) (a2 (y:=y) (by rw [hA] at hk;exact hk) (by rw [hL] at hl;exact hl));exact⟨u*l+v*k,by rw [hk];exact a8 (a3 e4 e5)⟩
 ·refine⟨c*D-q1*A-A*q2,?_⟩;have hN:n=N+g*D:=by lia
  have z3:x=N+g*A*t-g*A*L*q2:=by rw [hA] at ex;lia
  rw [hN,hL];exact a7 z3 (a4 et) (a5 hc)
theorem lcm_dvd {M m g y:Int} (h:G M m g) (h1:M∣y) (h2:m∣y):M*(m/g)∣y:=by
 obtain⟨A,hA⟩:=h.da;obtain⟨L,hL⟩:=h.db;have g0:=h.pos;have e1:m/g=L:=by rw [hL];exact JB _ (by lia)
 rw [e1];obtain⟨k,hk⟩:=h1;obtain⟨l,hl⟩:=h2;obtain⟨u,v,e⟩:=h.lin;have e4:u*A+v*L=1:=J5 (show g≠0 by lia) (a1 (by rw [hA,hL] at e;exact e));have e5:A*k=L*l:=J5 (show g≠0 by lia) (a2 (y:=y) (by rw [hA] at hk;exact hk) (by rw [hL] at hl;exact hl));exact⟨u*l+v*k,by rw [hk];exact a8 (a3 e4 e5)⟩
theorem Ea {M m g W:Int} (hM:0<M) (hm:0<m) (h:G M m g) (hW:0<W) (d1:M∣W) (d2:m∣W) (le:∀ y:Int,M∣y->m∣y->W∣y):W=M/g*m:=by
 obtain⟨A,hA⟩:=h.da;obtain⟨L,hL⟩:=h.db;have g0:=h.pos;have e1:m/g=L:=by rw [hL];exact JB _ (by lia)
 have e2:M/g=A:=by rw [hA];exact JB _ (by lia)
 have z:=lcm_dvd h d1 d2;rw [e1] at z;rw [e2];have L0:0<L:=by
  rcases (by lia:L<=0∨0<L) with w | w
  ·have:=Jq (LN g0) w;lia
  ·exact w
 have eq:M*L=A*m:=by rw [hA,hL,JM g A,JO]
 have z2:W∣M*L:=le _ ⟨L,rfl⟩ ⟨A,by rw [eq,JM]⟩;rw [<- eq];exact Ov (Jh (QL hM L0) z2) (Jh hW z)
theorem GU:∀(b a:Nat),0<a->∃ g,G (a:Int) (b:Int) g:=by
 intro b
 induction b using Nl with
 | ind b ih =>
  intro a ha;rcases Jy b with z | z
  ·subst z;exact⟨a,by lia,MC _,Int.dvd_zero _,1,0,by simp⟩
  ·obtain⟨g,h⟩:=ih (a%b) (Nx a z) b z;obtain⟨u,v,e⟩:=h.lin;have ed:(a:Int)=(b:Int)*((a/b:Nat):Int)+((a%b:Nat):Int):=by have:=MI a b;rw [<- K1,<- MJ,this]
   refine⟨g,h.pos,?_,h.da,v,u-v*((a/b:Nat):Int),?_⟩
   ·rw [ed];exact Lx (K6 h.da) h.db
   ·rw [ed,<- e];generalize ((a/b:Nat):Int)=q;generalize ((a%b:Nat):Int)=r;generalize (b:Int)=b'
    grind
theorem uB {a b:Int} (ha:0<a) (hb:0<b):∃ g,G a b g:=by obtain⟨g,h⟩:=GU b.toNat a.toNat (by lia);rw [JR (by lia),JR (by lia)] at h;exact⟨g,h⟩
structure Told (ps:List (Int × Int)) (M N:Int):Prop where
 pos:0<M
 x0:0<=N
 x1:N<M
 dv:∀ p∈ps,p.1∣M
 le:∀ y:Int,(∀ p∈ps,p.1∣y)->M∣y
 al:∀ p∈ps,p.1∣N-p.2
theorem Told.nil:Told [] 1 0:=⟨by decide,by decide,by decide,λ_ h=>by simp at h,λy _=>⟨y,by lia⟩,λ_ h=>by simp at h⟩
theorem Told.step {ps:List (Int × Int)} {M N m n W x:Int} (h:Told ps M N) (b:vL M N m n W x):Told (ps++[(m,n)]) W x:=by
 refine⟨b.pos,b.x0,b.x1,λp hp=>?_,λy hy=>?_,λp hp=>?_⟩
 ·rcases J0.mp hp with z | z
  ·exact Mj (h.dv p z) b.dM
  ·rw [IW.mp z];exact b.dm
 ·exact b.le y (h.le y λp hp=>hy p (MT _ hp)) (hy (m,n) (Ja _ (by simp)))
 ·rcases J0.mp hp with z | z
  ·have e1:=Mj (h.dv p z) b.eM;have e2:=h.al p z;have:=Lx e1 e2
   rwa [show x-N+(N-p.2)=x-p.2 by lia] at this
  ·rw [IW.mp z];exact b.em
theorem Told.fits {ps:List (Int × Int)} {M N m n g:Int} (h:Told ps M N) (G0:G M m g) (hp:∀ p∈ps,∀ d,G p.1 m d->d∣p.2-n) (hG:∀ p∈ps,∃ d,G p.1 m d):g∣n-N:=by
 obtain⟨A,hA⟩:=G0.da;obtain⟨L,hL⟩:=G0.db;have g0:=G0.pos;have key:M∣(n-N)*A:=by
  refine h.le _ λp hm=>?_;obtain⟨d,hd⟩:=hG p hm;obtain⟨u,v,e⟩:=hd.lin;have d1:d∣n-N:=by
   have z1:=hp p hm d hd;have z2:=Mj hd.da (h.al p hm);have:=Lx z1 z2;have w:=(Pn).mpr this
   rwa [show -(p.2-n+(N-p.2))=n-N by lia] at w
  obtain⟨c,hc⟩:=d1;obtain⟨B,hB⟩:=h.dv p hm;refine⟨c*(u*A+v*L*B),?_⟩;rw [hc,<- e];have:m*A=p.1*(L*B):=by
   have z:g*(m*A)=g*(p.1*(L*B)):=by
    have:m*M=g*L*(p.1*B):=by rw [hL,hB]
    have z2:g*(m*A)=m*M:=by rw [hA];grind
    rw [z2,this];grind
   exact J5 (by lia) z
  grind
 obtain⟨c,hc⟩:=key;have A0:A≠0:=λz=>by rw [z] at hA;have:=h.pos;lia
 refine⟨c,?_⟩;have:A*(n-N)=A*(g*c):=by rw [JM A (n-N),hc,hA];grind
 exact J5 A0 this
theorem Told.one {ps:List (Int × Int)} {M N M' N':Int} (h:Told ps M N) (h':Told ps M' N'):M=M'/\N=N':=by
 have e:M=M':=Ov (Jh h'.pos (h.le _ h'.dv)) (Jh h.pos (h'.le _ h.dv));subst e;refine⟨rfl,?_⟩;have z:M∣N-N':=h.le _ λp hp=>by
  have:=Og (h.al p hp) (h'.al p hp)
  rwa [show N-p.2-(N' - p.2)=N-N' by lia] at this
 have w:=Of;have:=(LC (m:=N) (n:=M) (k:=N')).mpr (JP z)
 rwa [Kh h.x0 h.x1,Kh h'.x0 h'.x1] at this
end Crt
namespace Num
def Al (n x y:Int):Prop:=n∣x-y
theorem Al.refl (n x:Int):Al n x x:=⟨0,by lia⟩
theorem Al.symm {n x y:Int} (h:Al n x y):Al n y x:=by
 have:=(Pn).mpr h
 rwa [show -(x-y)=y-x by lia] at this
theorem Al.trans {n x y z:Int} (h:Al n x y) (h':Al n y z):Al n x z:=by
 have:=Lx h h'
 rwa [show x-y+(y-z)=x-z by lia] at this
theorem Al.mul {n x y u v:Int} (h:Al n x y) (h':Al n u v):Al n (x*u) (y*v):=by
 have h1:n∣(x-y)*u:=K6 h;have h2:n∣y*(u-v):=JA h';have:=Lx h1 h2
 rwa [show (x-y)*u+y*(u-v)=x*u-y*v by rw [U4,SG];lia] at this
theorem Al.pow {n x y:Int} (h:Al n x y):∀ k:Nat,Al n (x^k) (y^k)
 | 0=>by rw [Jp,Jp];exact Al.refl _ _
 | k+1=>by rw [IY,IY];exact (Al.pow h k).mul h
theorem Al.iff {n x y:Int}:Al n x y↔x%n=y%n:=Pw.DH.symm
theorem Al.rest (n x:Int):Al n (x%n) x:=Al.iff.mpr (Of x (MC n))
def Co (a n:Int):Prop:=∃ u v:Int,u*a+v*n=1
theorem Co.dvd {a n b:Int} (h:Co a n) (hd:n∣a*b):n∣b:=by
 obtain⟨u,v,e⟩:=h;have h1:n∣u*(a*b):=JA hd;have h2:n∣(v*b)*n:=⟨v*b,JM _ _⟩
 have:=Lx h1 h2;have e2:u*(a*b)+v*b*n=(u*a+v*n)*b:=by rw [U5,JO u a b,JO v n b,JM n b,JO v b n]
 rw [e2,e,Kt] at this;exact this
theorem Co.cancel {a n x y:Int} (h:Co a n) (e:Al n (a*x) (a*y)):Al n x y:=by refine h.dvd ?_;rw [SG];exact e
theorem Co.mul {a b n:Int} (h:Co a n) (h':Co b n):Co (a*b) n:=by
 obtain⟨u,v,e⟩:=h;obtain⟨u',v',e'⟩:=h';refine⟨u*u',u*a*v'+v*(u'*b+v'*n),?_⟩;have:(u*a+v*n)*(u'*b+v'*n)=1:=by rw [e,e'];rfl
 grind
theorem Co.pow {a n:Int} (h:Co a n):∀ k:Nat,Co (a^k) n
 | 0=>⟨1,0,by rw [Jp];simp⟩
 | k+1=>by rw [IY];exact (Co.pow h k).mul h
theorem Co.yS {a b n:Int} (h:Co a n) (e:Al n a b):Co b n:=by
 obtain⟨u,v,e1⟩:=h;obtain⟨c,hc⟩:=e;refine⟨u,v+u*c,?_⟩;have:b=a-n*c:=by lia
 rw [this]
 grind
theorem aT {n a:Int} {d k:Nat} (h:Al n (a^d) 1):Al n (a^(d*k)) 1:=by
 rw [Pw.pow_mul];have:=h.pow k
 rwa [Pw.one_pow] at this
structure Ord (n a:Int) (m:Nat):Prop where
 pos:0<m
 one:Al n (a^m) 1
 dv:∀ j:Nat,Al n (a^j) 1->m∣j
theorem pow_mod {n a:Int} {m j:Nat} (h:Al n (a^m) 1) (hj:Al n (a^j) 1):Al n (a^(j%m)) 1:=by
 have e:a^j=a^(m*(j/m))*a^(j%m):=by rw [<- Pw.pow_add,MI]
 rw [e] at hj;have h1:=(aT (k:=j/m) h).mul (Al.refl n (a^(j%m)));rw [Kt] at h1;exact h1.symm.trans hj
theorem pM {n a:Int} {m:Nat} (pos:0<m) (one:Al n (a^m) 1) (no:∀ j,0<j->j<m->¬Al n (a^j) 1):Ord n a m:=by
 refine⟨pos,one,λj hj=>?_⟩;have h:=pow_mod one hj;rcases Jy (j%m) with z | z
 ·exact Qa z
 ·exact absurd h (no _ z (Nx _ pos))
theorem gu {P:Nat->Prop}:∀ N:Nat,P N->∃ m,P m/\∀ j,j<m->¬P j:=by
 intro N
 induction N using Nl with
 | ind N ih =>
  intro h;by_cases z:∃ j,j<N/\P j
  ·obtain⟨j,hj,pj⟩:=z;exact ih j hj pj
  ·exact⟨N,h,λj hj pj=>z ⟨j,hj,pj⟩⟩
theorem l6 {n a:Int} {N:Nat} (pos:0<N) (h:Al n (a^N) 1):∃ m,Ord n a m/\m<=N:=by
 obtain⟨m,⟨m0,m1⟩,no⟩:=gu (P:=λj=>0<j/\Al n (a^j) 1) N ⟨pos,h⟩;refine⟨m,pM m0 m1 λj j0 jm z=>no j jm ⟨j0,z⟩,?_⟩;by_cases z:m<=N
 ·exact z
 ·exact absurd ⟨pos,h⟩ (no N (by lia))
theorem Ord.iK {n a:Int} {m m':Nat} (h:Ord n a m) (h':Ord n a m'):m=m':=Si (h.dv _ h'.one) (h'.dv _ h.one)
theorem Ord.inj {n a:Int} {m i j:Nat} (h:Ord n a m) (c:Co a n) (hi:i<m) (hj:j<m) (e:Al n (a^i) (a^j)):i=j:=by
 have aux:∀ i j:Nat,i<m->j<m->i<=j->Al n (a^i) (a^j)->i=j:=by
  intro i j hi hj hij e;have e1:a^j=a^i*a^(j-i):=by rw [<- Pw.pow_add];congr 1;lia
  rw [e1] at e;have e2:Al n (a^i*1) (a^i*a^(j-i)):=by rw [KP];exact e
  have e3:=(c.pow i).cancel e2;have:=h.dv _ e3.symm;rcases Jy (j-i) with z | z
  ·lia
  ·have:=LP z this;lia
 rcases UD i j with z | z
 ·exact aux i j hi hj z e
 ·exact (aux j i hj hi z e.symm).symm
theorem pO:∀(n:Nat) (l:List Nat),l.Nodup->(∀ x∈l,x<n)->l.length<=n:=by
 intro n
 induction n with
 | zero =>
  intro l _ h;cases l with
  | nil=>exact IF _
  | cons x r=>exact absurd (h x (by simp)) (by lia)
 | succ n ih =>
  intro l nd h;by_cases c:n∈l
  ·have h1:=ih (l.erase n) (nd.erase n) λx hx=>by
    have hx':=List.mem_of_mem_erase hx;have ne:x≠n:=λz=>by subst z;exact absurd hx (List.Nodup.not_mem_erase nd)
    have:=h x hx';lia
   rw [PK c] at h1;lia
  ·have h1:=ih l nd λx hx=>by have:=h x hx;have ne:x≠n:=λz=>c (z▸hx);lia
   lia
end Num
namespace Num
structure Pm (p:Int):Prop where
 two:2<=p
 no:∀ d:Int,2<=d->d<p->¬d∣p
theorem Pm.co {p a:Int} (h:Pm p) (ha:¬p∣a):Co a p:=by
 have h2:=h.two;have r0:=Jn a (show p≠0 by lia);have r1:=Jg a (show 0<p by lia);have rn:a%p≠0:=λz=>ha (I0 z);obtain⟨g,G⟩:=Crt.uB (a:=a%p) (b:=p) (by lia) (by lia);have gl:=Jh (show 0<a%p by lia) G.da;have g1:g=1:=by
  have g0:=G.pos;rcases (by lia:g=1∨2<=g) with z | z
  ·exact z
  ·exact absurd G.db (h.no g z (by lia))
 obtain⟨u,v,e⟩:=G.lin;rw [g1] at e;exact Co.yS ⟨u,v,e⟩ (Al.rest p a)
theorem Pm.or {p a b:Int} (h:Pm p) (hd:p∣a*b) (ha:¬p∣a):p∣b:=(h.co ha).dvd hd
theorem Pm.Bx {p:Int} (h:Pm p):¬Al p 0 1:=λz=>by have h2:=h.two;have z':p∣0-1:=z;have z2:=(Pn).mpr z';rw [show -((0:Int)-1)=1 by decide] at z2;have:=Jh (show (0:Int)<1 by decide) z2;lia
def H:Int->List Int->Int->Int
 | acc,[],_=>acc
 | acc,c::cs,x=>H (acc*x+c) cs x
theorem xC (x:Int):∀(cs:List Int) (a b:Int),H (a+b) cs x=H a cs x+b*x^cs.length
 | [],a,b=>by rw [LI,Jp,KP];rfl
 | c::cs,a,b=>by show H ((a+b)*x+c) cs x=H (a*x+c) cs x+b*x^(cs.length+1);rw [show (a+b)*x+c=(a*x+c)+b*x by rw [U5];lia,xC x cs,IY,JO,JM x]
noncomputable def BV (r:Int):Int->List Int->List Int
 | _,[]=>[]
 | _,[_]=>[]
 | c0,c::c'::cs=>(c0*r+c)::BV r (c0*r+c) (c'::cs)
theorem pT (r:Int):∀(cs:List Int) (c0:Int),(BV r c0 cs).length=cs.length-1
 | [],_=>rfl
 | [_],_=>rfl
 | c::c'::cs,c0=>by show (BV r (c0*r+c) (c'::cs)).length+1=_;rw [pT r (c'::cs)];simp
theorem factor (x r:Int):∀(cs:List Int) (c0:Int),cs≠[]->H c0 cs x-H c0 cs r=(x-r)*H c0 (BV r c0 cs) x
 | [],_,h=>absurd rfl h
 | [c],c0,_=>by show c0*x+c-(c0*r+c)=(x-r)*c0;rw [U4,JM c0 x,JM c0 r];lia
 | c::c'::cs,c0,_=>by
  have ih:=factor x r (c'::cs) (c0*r+c) (by simp);show H (c0*x+c) (c'::cs) x-H (c0*r+c) (c'::cs) r=(x-r)*H (c0*x+(c0*r+c)) (BV r (c0*r+c) (c'::cs)) x;have e1:c0*x+c=(c0*r+c)+c0*(x-r):=by rw [SG];lia
  have e2:H (c0*x+(c0*r+c)) (BV r (c0*r+c) (c'::cs)) x=H (c0*r+c) (BV r (c0*r+c) (c'::cs)) x+c0*x*x^cs.length:=by rw [Int.add_comm (c0*x),xC,pT];simp
  rw [e1,xC,e2,JU,IY,Int.mul_add,<- ih];generalize H (c0*r+c) (c'::cs) x=A;generalize H (c0*r+c) (c'::cs) r=B;generalize x^cs.length=Y
  grind
theorem roots {p:Int} (hp:Pm p):∀(n:Nat) (cs:List Int) (c0:Int),cs.length=n->¬p∣c0->∀ rs:List Int,rs.Pairwise (λa b=>¬Al p a b)->(∀ r∈rs,p∣H c0 cs r)->rs.length<=n:=by
 intro n
 induction n with
 | zero =>
  intro cs c0 hl h0 rs hr hz;have:cs=[]:=Mz hl;subst this;cases rs with
  | nil=>exact IF _
  | cons r rs=>exact absurd (hz r (by simp)) h0
 | succ n ih =>
  intro cs c0 hl h0 rs hr hz;cases rs with
  | nil=>exact J4 _
  | cons r rs =>
   have hne:cs≠[]:=λz=>by rw [z] at hl;simp at hl
   obtain⟨h1,h2⟩:=Kq.mp hr;have:=ih (BV r c0 cs) c0 (by rw [pT,hl];rfl) h0 rs h2 λs hs=>by have e:=factor s r cs c0 hne;have d1:=hz s (IG _ hs);have d2:=hz r (by simp);have d3:=Og d1 d2;rw [e] at d3;exact hp.or d3 λz=>h1 s hs (Al.symm z)
   simpa using this
theorem xD (x:Int):∀(n:Nat) (a:Int),H a (KY n 0++[-1]) x=a*x^(n+1)-1
 | 0,a=>by show a*x + -1=_;rw [IY,Jp,Kt];lia
 | n+1,a=>by show H (a*x+0) (KY n 0++[-1]) x=_;rw [xD x n,NL,IY x (n+1),JM (x^(n+1)) x,JO]
theorem AU {p:Int} (hp:Pm p) {n:Nat} (hn:0<n) (h:∀ a:Int,¬p∣a->Al p (a^n) 1):p-1<=n:=by
 have h2:=hp.two;obtain⟨m,rfl⟩:∃ m,n=m+1:=⟨n-1,by lia⟩
 have key:=roots hp (m+1) (KY m 0++[-1]) 1 (by simp) (λz=>by have:=Jh (by decide) z;lia) ((Ky (p-1).toNat).map λi:Nat=>(i:Int)+1) ?_ ?_
 ·rw [Iu,Ki] at key;lia
 ·rw [L9];refine Nk (R:=(·<·)) (λ{a b} ha hb hab z=>?_) ME;have hb':=JQ.mp hb;have:=Jh (by lia) (Al.symm z);lia
 ·intro r hr;obtain⟨i,hi,rfl⟩:=IV.mp hr;have hi':=JQ.mp hi;rw [xD,Kt];exact h _ λz=>by have:=Jh (by lia) z;lia
theorem nM {f:Nat->Nat} {n:Nat} (h:∀ i j,i<j->j<n->f i≠f j):((Ky n).map f).Nodup:=by show List.Pairwise _ _;rw [L9];exact Nk (R:=(·<·)) (λ{a b} ha hb hab=>h a b hab (JQ.mp hb)) ME
theorem rest_eq {p x y:Int} (hp:0<p) (e:(x%p).toNat=(y%p).toNat):Al p x y:=by have h1:=Jn x (show p≠0 by lia);have h2:=Jn y (show p≠0 by lia);exact Al.iff.mpr (by lia)
theorem back {n a:Int} (hn:2<=n) (c:Co a n):∃ d:Nat,0<d/\(d:Int)<=n/\Al n (a^d) 1:=by
 by_cases z:∃ i j:Nat,i<j/\j<n.toNat+1/\Al n (a^i) (a^j)
 ·obtain⟨i,j,ij,jn,e⟩:=z;refine⟨j-i,by lia,by lia,?_⟩;have e1:a^j=a^i*a^(j-i):=by rw [<- Pw.pow_add];congr 1;lia
  rw [e1] at e;have e2:Al n (a^i*1) (a^i*a^(j-i)):=by rw [KP];exact e
  exact ((c.pow i).cancel e2).symm
 ·exfalso;have nd:=nM (f:=λi=>(a^i%n).toNat) (n:=n.toNat+1) λi j ij jn e=>z ⟨i,j,ij,jn,rest_eq (by lia) e⟩;have:=pO n.toNat _ nd λx hx=>by obtain⟨i,_,rfl⟩:=IV.mp hx;have h1:=Jn (a^i) (show n≠0 by lia);have h2:=Jg (a^i) (show 0<n by lia);show (a^i%n).toNat<n.toNat;lia
  rw [Iu,Ki] at this;lia
def fact:Nat->Nat
 | 0=>1
 | n+1=>(n+1)*fact n
theorem qU:∀ n,0<fact n
 | 0=>by decide
 | n+1=>Ma (Nat.succ_pos n) (qU n)
theorem qQ {d:Nat}:∀ n,0<d->d<=n->d∣fact n
 | 0,h,h'=>by lia
 | n+1,h,h'=>by
  by_cases c:d=n+1
  ·subst c;exact⟨fact n,rfl⟩
  ·exact Lw (qQ n h (by lia)) ⟨n+1,Ju _ _⟩
theorem Ord.mul {n a b:Int} {k m:Nat} (ha:Ord n a k) (hb:Ord n b m) (ca:Co a n) (cb:Co b n) (co:Mb k m):Ord n (a*b) (k*m):=by
 refine⟨Ma ha.pos hb.pos,?_,λj hj=>?_⟩
 ·rw [Pw.mul_pow];have h1:=aT (k:=m) ha.one;have h2:=aT (k:=k) hb.one;rw [Ju m k] at h2;exact h1.mul h2
 ·rw [Pw.mul_pow] at hj;have d1:k∣j:=by
   have e:=hj.pow m;rw [Pw.one_pow,Pw.mul_pow,<- Pw.pow_mul,<- Pw.pow_mul] at e;have h2:=aT (k:=j) hb.one;rw [Ju m j] at h2;have e2:Al n (a^(j*m)) 1:=by have:=(Al.refl n (a^(j*m))).mul h2.symm;rw [KP] at this;exact this.trans e
   exact NN co (ha.dv _ e2)
  have d2:m∣j:=by
   have e:=hj.pow k;rw [Pw.one_pow,Pw.mul_pow,<- Pw.pow_mul,<- Pw.pow_mul] at e;have h2:=aT (k:=j) ha.one;rw [Ju k j] at h2;have e2:Al n (b^(j*k)) 1:=by have:=h2.symm.mul (Al.refl n (b^(j*k)));rw [Kt] at this;exact this.trans e
   exact NN co.symm (hb.dv _ e2)
  exact RB co d1 d2
end Num
namespace Num
def Nm (q:Nat):Prop:=2<=q/\∀ d,2<=d->d<q->¬d∣q
theorem C3 {m:Nat} (h:2<=m):∃ q,Nm q/\q∣m:=by obtain⟨q,⟨q2,qm⟩,no⟩:=gu (P:=λd=>2<=d/\d∣m) m ⟨h,OD m⟩;exact⟨q,⟨q2,λd d2 dq hd=>no d dq ⟨d2,Lw hd qm⟩⟩,qm⟩
theorem Nm.co {q m:Nat} (h:Nm q) (hm:¬q∣m):Mb q m:=by
 have hg:=Sj q m;have g0:0<Mc q m:=Nat.gcd_pos_of_pos_left m (by have:=h.1;lia);have gl:=LP (by have:=h.1;lia) hg;rcases (by lia:Mc q m=1∨(2<=Mc q m/\Mc q m<q)∨Mc q m=q) with z | ⟨z1,z2⟩ | z
 ·exact z
 ·exact absurd hg (h.2 _ z1 z2)
 ·exact absurd (z▸RR q m) hm
theorem Af {q:Nat} (hq:2<=q):∀ m:Nat,0<m->∃ k m',m=q^k*m'/\¬q∣m':=by
 intro m
 induction m using Nl with
 | ind m ih =>
  intro hm;by_cases c:q∣m
  ·obtain⟨t,ht⟩:=c;have t0:0<t:=by
    rcases Jy t with z | z
    ·subst z;lia
    ·exact z
   have tm:t<m:=by rw [ht];have:=MY t hq;lia
   obtain⟨k,m',e,hn⟩:=ih t tm t0;exact⟨k+1,m',by rw [ht,e,JX,Ju (q^k) q,Kb],hn⟩
  ·exact⟨0,m,by simp,c⟩
theorem vc {q:Nat} (h:Nm q):∀(k d:Nat),d∣q^(k+1)->¬d∣q^k->d=q^(k+1):=by
 intro k
 induction k with
 | zero =>
  intro d h1 h2;rw [UE,U6] at h1 ⊢;rw [LO] at h2;have q2:=h.1;have d0:0<d:=Qv h1 (by lia);have dl:=LP (by lia) h1;rcases (by lia:d=1∨(2<=d/\d<q)∨d=q) with z | ⟨z1,z2⟩ | z
  ·exact absurd (z▸OD 1) h2
  ·exact absurd h1 (h.2 d z1 z2)
  ·exact z
 | succ k ih =>
  intro d h1 h2;by_cases c:q∣d
  ·obtain⟨t,ht⟩:=c;have q0:0<q:=by have:=h.1;lia
   rw [ht,JX,Ju (q^(k+1)) q] at h1;rw [ht,JX,Ju (q^k) q] at h2;have e1:=MQ q0 h1;have e2:¬t∣q^k:=λz=>h2 (Nat.mul_dvd_mul_left q z);rw [ht,ih t e1 e2,JX q (k+1),Ju]
  ·have co:Mb (q^(k+1+1)) d:=Oh _ (h.co c);have:d∣1:=by
    have:=SH h1 (OD d)
    rwa [co] at this
   exact absurd (Lw this (QM _)) h2
section
variable {p:Int} {L:Nat}
structure Ex (p:Int) (L:Nat):Prop where
 pos:0<L
 all:∀ a:Int,¬p∣a->Al p (a^L) 1
 no:∀ j,0<j->j<L->∃ a:Int,¬p∣a/\¬Al p (a^j) 1
theorem Pm.unit {p a:Int} (hp:Pm p) (c:Co a p):¬p∣a:=λh=>by
 obtain⟨u,v,e⟩:=c;have h1:p∣u*a:=JA h;have h2:p∣v*p:=⟨v,JM _ _⟩
 have:=Lx h1 h2;rw [e] at this;have:=Jh (by decide) this;have:=hp.two;lia
theorem CO (hp:Pm p):∃ L,Ex p L:=by
 have h2:=hp.two;have uni:∀ a:Int,¬p∣a->Al p (a^fact p.toNat) 1:=λa ha=>by obtain⟨d,d0,d1,e⟩:=back h2 (hp.co ha);obtain⟨t,ht⟩:=qQ p.toNat d0 (by lia);rw [ht];exact aT e
 obtain⟨L,⟨l0,l1⟩,no⟩:=gu (P:=λj=>0<j/\∀ a:Int,¬p∣a->Al p (a^j) 1) (fact p.toNat) ⟨qU _,uni⟩;refine⟨L,l0,l1,λj j0 jl=>?_⟩;have:=no j jl;by_cases z:∃ a:Int,¬p∣a/\¬Al p (a^j) 1
 ·exact z
 ·exact absurd ⟨j0,λa ha=>Classical.byContradiction λw=>z ⟨a,ha,w⟩⟩ this
theorem rH (hp:Pm p) (h:Ex p L):∀ m:Nat,0<m->m∣L->∃ x:Int,Co x p/\Ord p x m:=by
 intro m
 induction m using Nl with
 | ind m ih =>
  intro hm hd;by_cases c:m=1
  ·subst c;exact⟨1,⟨1,0,by lia⟩,by decide,by rw [IY,Jp];exact Al.refl _ _,λj _=>QM j⟩
  ·obtain⟨q,hq,qm⟩:=C3 (show 2<=m by lia);obtain⟨k,m',e,hn⟩:=Af hq.1 m hm;have q0:0<q:=by have:=hq.1;lia
   obtain⟨k',rfl⟩:∃ k',k=k'+1:=by
    cases k with
    | zero=>rw [LO,SI] at e;exact absurd (e▸qm) hn
    | succ k'=>exact⟨k',rfl⟩
   have m0:0<m':=by
    rcases Jy m' with z | z
    ·rw [z,M8] at e;lia
    ·exact z
   have qk:2<=q^(k'+1):=by rw [JX];have:=Tq (Ly (n:=k') q0) hq.1;lia
   have mm:m'<m:=by rw [e];have:=MY m' qk;lia
   obtain⟨y,cy,oy⟩:=ih m' mm m0 (Lw ⟨q^(k'+1),by rw [e,Ju]⟩ hd);have dq:q^(k'+1)∣L:=Lw ⟨m',e⟩ hd;obtain⟨T,hT⟩:=dq;have T0:0<T:=by
    rcases Jy T with z | z
    ·rw [z,M8] at hT;have:=h.pos;lia
    ·exact z
   have eL:L=q*(q^k'*T):=by rw [hT,JX,Ju (q^k') q,Kb]
   have jp:0<q^k'*T:=Ma (Ly q0) T0;have jl:q^k'*T<L:=by rw [eL];have:=MY (q^k'*T) hq.1;lia
   obtain⟨a,ha,hna⟩:=h.no _ jp jl;have ca:=hp.co ha;have z1:Al p ((a^T)^(q^(k'+1))) 1:=by rw [<- Pw.pow_mul,Ju,<- hT];exact h.all a ha
   have z2:¬Al p ((a^T)^(q^k')) 1:=by rw [<- Pw.pow_mul,Ju];exact hna
   obtain⟨d,od,_⟩:=l6 (Ly q0) z1;have d1:=od.dv _ z1;have d2:¬d∣q^k':=λw=>z2 (by obtain⟨t,ht⟩:=w;rw [ht];exact aT od.one);have ed:=vc hq k' d d1 d2;subst ed;refine⟨a^T*y,(ca.pow T).mul cy,?_⟩;rw [e];exact od.mul oy (ca.pow T) cy (Oh _ (hq.co hn))
theorem CP (hp:Pm p) (h:Ex p L):(L:Int)=p-1:=by
 have h2:=hp.two;have h1:=AU hp h.pos h.all;obtain⟨g,cg,og⟩:=rH hp h L h.pos (OD L);have nd:=nM (f:=λi=>(g^i%p).toNat-1) (n:=L) λi j ij jn e=>by
  have r1:∀ k:Nat,1<=(g^k%p).toNat:=λk=>by have a1:=Jn (g^k) (show p≠0 by lia);have:g^k%p≠0:=λz=>hp.unit (cg.pow k) (I0 z);lia
  have e':(g^i%p).toNat=(g^j%p).toNat:=by have:=r1 i;have:=r1 j;have e:(g^i%p).toNat-1=(g^j%p).toNat-1:=e;lia
  have:=og.inj cg (by lia) jn (rest_eq (by lia) e');lia
 have:=pO (p-1).toNat _ nd λx hx=>by obtain⟨i,_,rfl⟩:=IV.mp hx;have a1:=Jn (g^i) (show p≠0 by lia);have a2:=Jg (g^i) (show 0<p by lia);have:g^i%p≠0:=λz=>hp.unit (cg.pow i) (I0 z);show (g^i%p).toNat-1<(p-1).toNat;lia
 rw [Iu,Ki] at this;lia
theorem tH (hp:Pm p) {a:Int} (ha:¬p∣a):Al p (a^(p-1).toNat) 1:=by obtain⟨L,h⟩:=CO hp;have:=CP hp h;rw [show (p-1).toNat=L by lia];exact h.all a ha
theorem tD (hp:Pm p) {m:Nat} (h0:0<m) (hd:m∣(p-1).toNat):∃ x:Int,1<=x/\x<p/\Ord p x m:=by obtain⟨L,h⟩:=CO hp;have:=CP hp h;have h2:=hp.two;obtain⟨x,cx,ox⟩:=rH hp h m h0 (by rwa [show (p-1).toNat=L by lia] at hd);have a1:=Jn x (show p≠0 by lia);have a2:=Jg x (show 0<p by lia);have a3:x%p≠0:=λz=>hp.unit cx (I0 z);refine⟨x%p,by lia,a2,ox.pos,((Al.rest p x).pow m).trans ox.one,λj hj=>ox.dv j (((Al.rest p x).pow j).symm.trans hj)⟩
theorem Bj (hp:Pm p):∃ g:Int,1<=g/\g<p/\Ord p g (p-1).toNat:=tD hp (by have:=hp.two;lia) (OD _)
end
end Num
namespace Num
theorem Co.Ei {n a:Int} {m:Nat} (h:Al n (a^(m+1)) 1):Co a n:=by obtain⟨c,hc⟩:=h;refine⟨a^m,-c,?_⟩;rw [IY] at hc;rw [QK,JM c n];lia
theorem Ew {n a:Int} {e:Nat} (h0:0<e) (h1:Al n (a^e) 1) (no:∀ q,Nm q->q∣e->¬Al n (a^(e/q)) 1):Ord n a e:=by
 obtain⟨m,om,_⟩:=l6 h0 h1;have d:=om.dv _ h1;by_cases z:m=e
 ·subst z;exact om
 ·exfalso;obtain⟨t,ht⟩:=d;have t2:2<=t:=by
   rcases (by lia:t=0∨t=1∨2<=t) with w | w | w
   ·rw [w] at ht;lia
   ·rw [w,Lk] at ht;exact absurd ht.symm z
   ·exact w
  obtain⟨q,hq,r,hr⟩:=C3 t2;have q0:0<q:=by have:=hq.1;lia
  have e1:e=q*(m*r):=by rw [ht,hr,<- Kb,Ju m q,Kb]
  refine no q hq ⟨m*r,e1⟩ ?_;rw [e1,LD _ q0];exact aT om.one
theorem Ord.HZ {n a:Int} {e:Nat} (h:Ord n a e) {q:Nat} (hq:Nm q) (hd:q∣e):¬Al n (a^(e/q)) 1:=λz=>by
 have q0:0<q:=by have:=hq.1;lia
 obtain⟨r,hr⟩:=hd;rw [hr,LD _ q0] at z;have d:=h.dv _ z;have r0:0<r:=by
  rcases Jy r with w | w
  ·rw [w,M8] at hr;have:=h.pos;lia
  ·exact w
 have:=LP r0 d;have:=MY r hq.1;lia
end Num
namespace Num
theorem zI {n r:Int} (h:Ld.fW n r):Pm r:=⟨h.two,λd d2 dr hd=>h.no d d2 dr (Mj hd h.dv)⟩
def cM:List (Int × Int)->Int
 | []=>1
 | p::r=>p.1^p.2.toNat*cM r
theorem mn:∀(ps:List (Int × Int)) (p:Int × Int),cM (ps++[p])=cM ps*p.1^p.2.toNat
 | [],p=>by show p.1^_*1=1*_;lia
 | q::r,p=>by show q.1^q.2.toNat*cM (r++[p])=q.1^q.2.toNat*cM r*_;rw [mn r p,JO]
structure Part (n:Int) (ps:List (Int × Int)):Prop where
 ok:∀ p∈ps,Pm p.1/\1<=p.2/\p.2<=30
 rise:ps.Pairwise λa b=>a.1<b.1
 prod:cM ps=n
theorem bJ {q:Int} (h:0<q):∀ k:Nat,0<q^k
 | 0=>by rw [Jp];decide
 | k+1=>by rw [IY];exact QL (bJ h k) h
theorem two_pow_le {q:Int} (h:2<=q):∀ k:Nat,(2:Int)^k<=q^k
 | 0=>by rw [Jp,Jp];exact MZ _
 | k+1=>by rw [IY,IY];exact LW (two_pow_le h k) h (by decide) (LN (bJ (by lia) k))
theorem two_le:∀{k:Nat},(2:Int)^k<=10^9->k<=29:=by
 intro k h;by_cases c:k<=29
 ·exact c
 ·exfalso;have e:k=30+(k-30):=by lia
  rw [e,Pw.pow_add] at h;have:=bJ (show (0:Int)<2 by decide) (k-30);have h2:=Jm (show (1:Int)<=2^(k-30) by lia) (show (0:Int)<=2^30 by decide);have:(2:Int)^30=1073741824:=by decide
  lia
structure Way (n:Int) (ps:List (Int × Int)) (left prime:Int):Prop where
 ok:∀ p∈ps,Pm p.1/\1<=p.2/\p.2<=30
 rise:ps.Pairwise λa b=>a.1<b.1
 prod:cM ps*left=n
 pos:1<=left
 inv:Ld.Inv left prime
 le:∀ p∈ps,p.1<=prime
 gone:ps=[]∨¬prime∣left
 two:(2:Int)^ps.length*left<=n
theorem Way.start {n:Int} (h:1<=n):Way n [] n 2:=⟨λ_ z=>by simp at z,NK,by show 1*n=n;lia,h,⟨by decide,.inl rfl,λd d0 d1=>by lia⟩,λ_ z=>by simp at z,.inl rfl,by rw [LI,Jp];lia⟩
theorem Way.step {n left prime r left':Int} {ps:List (Int × Int)} {k:Nat} (w:Way n ps left prime) (hn:n<=10^9) (hl:1<left) (h:Ld.fW left r) (e:left=r^k*left') (l0:1<=left') (hk:1<=k) (hg:¬r∣left'):Way n (ps++[(r,(k:Int))]) left' r:=by
 have r2:=h.two;have pm:=zI h;have rp:prime<=r:=by
  rcases (by lia:prime<=r∨r<prime) with z | z
  ·exact z
  ·exact absurd h.dv (w.inv.no r r2 z)
 have rk:=bJ (show 0<r by lia) k;have k2:=two_pow_le r2 k;have kl:(2:Int)^k<=left:=by have:=LW k2 l0 (by decide) (LN rk);rw [KP] at this;lia
 have ln:left<=n:=by have z:=w.two;have p0:=bJ (show (0:Int)<2 by decide) ps.length;have:=Jj (show (1:Int)<=2^ps.length by lia) (show 0<=left by lia);lia
 have k29:=two_le (k:=k) (by lia);refine⟨λp hp=>?_,?_,?_,l0,?_,λp hp=>?_,.inr hg,?_⟩
 ·rcases J0.mp hp with z | z
  ·exact w.ok p z
  ·rw [IW.mp z];exact⟨pm,by show (1:Int)<=k;lia,by show (k:Int)<=30;lia⟩
 ·refine Oi.mpr ⟨w.rise,PV _ _,λa ha b hb=>?_⟩;rw [IW.mp hb];show a.1<r;have:=w.le a ha;rcases w.gone with z | z
  ·rw [z] at ha;simp at ha
  ·have:prime≠r:=λy=>z (y▸h.dv);lia
 ·rw [mn,<- w.prod,e];show cM ps*r^((k:Int).toNat)*left'=_;rw [IX,JO]
 ·refine⟨r2,?_,λd d0 d1 hd=>h.no d d0 d1 (by rw [e];exact JA hd)⟩;rcases (by lia:r=2∨2<r) with z | z
  ·exact .inl z
  ·refine .inr ?_;rcases (by lia:r%2=1∨r%2=0) with y | y
   ·exact y
   ·exact absurd (I0 y) (pm.no 2 (by decide) z)
 ·rcases J0.mp hp with z | z
  ·have:=w.le p z;lia
  ·rw [IW.mp z];exact MZ _
 ·rw [Js,Ks,Pw.pow_add,IY,Jp,Kt,JO];refine NO (Jm ?_ (LN (bJ (by decide) _))) w.two;rw [e];obtain⟨k',rfl⟩:∃ k',k=k'+1:=⟨k-1,by lia⟩
  have p0:=bJ (show 0<r by lia) k';have h1:r<=r^(k'+1):=by rw [IY];have:=Jj (show 1<=r^k' by lia) (show 0<=r by lia);lia
  exact Jj (show 2<=r^(k'+1) by lia) (show 0<=left' by lia)
theorem Way.done {n prime:Int} {ps:List (Int × Int)} (w:Way n ps 1 prime):Part n ps:=⟨w.ok,w.rise,by have:=w.prod;lia⟩
theorem Way.len {n left prime:Int} {ps:List (Int × Int)} (w:Way n ps left prime) (hn:n<=10^9):ps.length<=29:=by refine two_le ?_;have z:=w.two;have p0:=bJ (show (0:Int)<2 by decide) ps.length;have:=Jm w.pos (LN p0);lia
end Num
namespace Num
open PySem
theorem d6:∀{ps:List (Int × Int)} {p:Int × Int},p∈ps->1<=p.2->p.1∣cM ps
 | a::r,p,h,hk=>by
  rcases IU.mp h with z | z
  ·subst z;obtain⟨k,hk'⟩:∃ k,p.2.toNat=k+1:=⟨p.2.toNat-1,by lia⟩
   show p.1∣p.1^p.2.toNat*cM r;rw [hk',IY];exact K6 ⟨p.1^k,JM _ _⟩
  ·exact JA (d6 z hk)
theorem F1 {q:Nat} (h:Nm q):Pm (q:Int):=⟨by have:=h.1;lia,λd d2 dq hd=>h.2 d.toNat (by lia) (by lia) (by
 obtain⟨c,hc⟩:=hd;have:(d.toNat:Int)=d:=by lia
 exact JF.mp (by rw [this];exact⟨c,hc⟩))⟩
theorem uU {p:Int} (h:Pm p):Nm p.toNat:=⟨by have:=h.two;lia,λd d2 dp hd=>h.no d (by lia) (by lia) (by
 have:=JF.mpr hd
 rwa [show (p.toNat:Int)=p by have:=h.two;lia] at this)⟩
theorem ui {p q:Int} (hp:Pm p) (hq:Pm q):∀ k:Nat,q∣p^k->q=p
 | 0,h=>by rw [Jp] at h;have:=Jh (by decide) h;have:=hq.two;lia
 | k+1,h=>by
  rw [IY] at h;by_cases c:q∣p^k
  ·exact ui hp hq k c
  ·have d:=hq.or h c;have l:=Jh (by have:=hp.two;lia) d;rcases (by lia:q<p∨q=p) with z | z
   ·exact absurd d (hp.no q hq.two z)
   ·exact z
theorem gD {q:Int} (hq:Pm q):∀{ps:List (Int × Int)},(∀ p∈ps,Pm p.1)->q∣cM ps->∃ p∈ps,p.1=q
 | [],_,h=>by have:=Jh (by decide) (show q∣1 from h);have:=hq.two;lia
 | a::r,hp,h=>by
  by_cases c:q∣a.1^a.2.toNat
  ·exact⟨a,by simp,(ui (hp a (by simp)) hq _ c).symm⟩
  ·obtain⟨p,h1,h2⟩:=gD hq (λp z=>hp p (IG _ z)) (hq.or h c);exact⟨p,IG _ h1,h2⟩
theorem zw {n a e:Int} {ps:List (Int × Int)} (h:Part e ps) (he:1<=e):(Al n (a^e.toNat) 1/\∀ q∈ps.map (·.1),¬Al n (a^(e/q).toNat) 1)↔Ord n a e.toNat:=by
 constructor
 ·rintro⟨h1,h2⟩;refine Ew (by lia) h1 λq hq hd=>?_;have hd':(q:Int)∣e:=by
   have:=JF.mpr hd
   rwa [show (e.toNat:Int)=e by lia] at this
  obtain⟨p,hp,ep⟩:=gD (F1 hq) (λp z=>(h.ok p z).1) (by rw [h.prod];exact hd');have:=h2 q (IV.mpr ⟨p,hp,ep⟩)
  rwa [show (e/(q:Int)).toNat=e.toNat/q by
   have:e/(q:Int)=((e.toNat/q:Nat):Int):=by rw [Lu];congr 1;lia
   rw [this,IX]] at this
 ·intro h1;refine⟨h1.one,λq hq=>?_⟩;obtain⟨p,hp,rfl⟩:=IV.mp hq;obtain⟨o1,o2,_⟩:=h.ok p hp;have d:p.1∣e:=by rw [<- h.prod];exact d6 hp o2
  have t:=o1.two;have:=h1.HZ (uU o1) (by
   have:(p.1.toNat:Int)∣(e.toNat:Int):=by rw [show (p.1.toNat:Int)=p.1 by lia,show (e.toNat:Int)=e by lia];exact d
   exact JF.mp this)
  rwa [show e.toNat/p.1.toNat=(e/p.1).toNat by
   have:e/p.1=((e.toNat/p.1.toNat:Nat):Int):=by rw [Lu];congr 1<;>lia
   rw [this,IX]] at this
structure LF (p g:Int):Prop where
 one:1<=g
 lt:g<p
 ord:Ord p g (p-1).toNat
 no:∀ a:Int,1<=a->a<g->¬Ord p a (p-1).toNat
noncomputable def rowsOf (ps:List (Int × Int)) (ds:Nat->IL):List IL:=(Ky ps.length).map λi=>.tuple [ds i,.int (ps.getD i (0,0)).2]
theorem cj {ps:List (Int × Int)} {ds:Nat->IL}:(rowsOf ps ds).length=ps.length:=by unfold rowsOf;rw [Iu,Ki]
theorem iO {ps:List (Int × Int)} {ds:Nat->IL} {i:Nat} {p:Int × Int} (h:ps[i]?=Io p):(rowsOf ps ds)[i]?=Io (.tuple [ds i,.int p.2]):=by have hi:=(IB.mp h).1;unfold rowsOf;rw [ID,LL hi];show Io (UG [ds i,.int (ps.getD i (0,0)).2])=_;rw [KJ,h];rfl
inductive gT:Int->IL->Prop
 | mk (p g:Int) (ps:List (Int × Int)) (ds:Nat->IL):Pm p->p<=10^9->LF p g->Part (p-1) ps->ps.length<=29->(∀ i q k,ps[i]?=Io (q,k)->gT q (ds i))->gT p (.tuple [.int p,.int g,.tuple (rowsOf ps ds)])
theorem gT.head {p:Int} {d:IL} (h:gT p d):∃ g rows,d=.tuple [.int p,.int g,.tuple rows]:=by cases h;exact⟨_,_,rfl⟩
def Ht:Nat->Int->Prop
 | 0,_=>False
 | L+1,n=>∀ q:Int,Pm q->q∣n-1->Ht L q
theorem CU:∀(L:Nat) (n:Int),Pm n->n<2^(L+2)->Ht (L+2) n
 | 0,n,h,hn=>by
  have h2:=h.two;have hn':n<4:=hn;intro q hq hd;intro q' hq' hd';have q2:=hq.two;have l:=Jh (by rcases (by lia:n=2∨n=3) with z | z;exfalso;rw [z] at hd;have:=Jh (by decide) hd;lia;lia) hd;have qq:q=2:=by lia
  rw [qq] at hd';have:=Jh (by decide) hd';have:=hq'.two;lia
 | L+1,n,h,hn=>by
  intro q hq hd;have q2:=hq.two;have h2:=h.two;refine CU L q hq ?_;have e:(2:Int)^(L+1+2)=2^(L+2)*2:=by rw [<- IY]
  rw [e] at hn;have four:(4:Int)<=2^(L+2):=by
   have:=bJ (show (0:Int)<2 by decide) L;have e4:(2:Int)^(L+2)=2^L*4:=by rw [Pw.pow_add];rfl
   lia
  obtain⟨c,hc⟩:=hd;rcases (by lia:n<=3∨3<n) with z | z
  ·have:q<=n-1:=Jh (by
    rcases (by lia:n=2∨n=3) with y | y
    ·exfalso;rw [y] at hc;have:=Jh (by decide) (show q∣1 from ⟨c,hc⟩);lia
    ·lia) ⟨c,hc⟩
   lia
  ·rcases (by lia:n%2=0∨n%2=1) with y | y
   ·exact absurd (I0 y) (h.no 2 (by decide) (by lia))
   ·rcases (by lia:q=2∨2<q) with x | x
    ·lia
    ·have qo:q%2=1:=by
      rcases (by lia:q%2=1∨q%2=0) with w | w
      ·exact w
      ·exact absurd (I0 w) (hq.no 2 (by decide) x)
     have ce:c%2=0:=by
      rcases (by lia:c%2=0∨c%2=1) with w | w
      ·exact w
      ·exfalso;have:(q*c)%2=1:=by rw [L8,qo,w];rfl
       lia
     have c2:2<=c:=by
      rcases (by lia:c<=0∨2<=c) with w | w
      ·have:=Jq (show 0<=q by lia) w;lia
      ·exact w
     have:=Jm c2 (show 0<=q by lia);lia
theorem DV {n:Int} (h:Pm n) (hn:n<=10^9):Ht 30 n:=CU 28 n h (by
 have:(2:Int)^(28+2)=1073741824:=by decide
 lia)
end Num
namespace L2
open PySem PySem.Spec PyProof.Rows
noncomputable def Il:IL->String
 | .none => "NoneType"
 | .bool _ => "bool"
 | .int _ => "int"
 | .str _ => "str"
 | .list _ => "list"
 | .tuple _ => "tuple"
 | .dict _ => "dict"
def Ig:IL->Bool
 | .bool _=>true
 | _=>false
def Ii:IL->Bool
 | .tuple _=>true
 | _=>false
def Ih:IL->Bool
 | .list _=>true
 | _=>false
section
variable {X:Cx} {K:Iq}
def vg (K:Iq):List V->Hp->VK->Prop:=λxs H Q=>∃ d x n b,xs=[x,.ty n]/\dv K H d x/\Ti K (.type (Il d)) (.type n)=Io b/\Q (.bl b) H
theorem cV:dQ X (.builtin "isinstance") (vg X.K):=by
 intro pins s σ H xs us Q I r h;obtain⟨d,x,n,b,rfl,hd,ek,q⟩:=h;obtain⟨u,w',rfl,rx,rc⟩:=vals2 r;have e:w'=.type n:=rc;subst e;have fin:∀ tk,∃ v' H',Inv X pins σ H' { s with toks:=tk }/\RelV v' (.bool b)/\Q v' H':=λtk=>⟨.bl b,H,I.tok _,rfl,q⟩
 cases d with
 | none=>cases hd;exact gX I rx ig.non ek fin
 | bool y=>cases hd;exact gX I rx (ig.bl _) ek fin
 | int y=>cases hd;exact gX I rx (ig.int _) ek fin
 | str y=>cases hd;exact gX I rx (ig.str _) ek fin
 | list ds =>obtain⟨p,ys,rfl,h,t⟩:=hd;cases rx;obtain⟨its,rr,pl,_⟩:=I.list h;obtain⟨o,h1,h2,_⟩:=pl.isList;exact Kw Pf I.gd ⟨o,h1,h2⟩ ek (λz=>nomatch z) fin
 | tuple ds =>obtain⟨p,ys,rfl,h,t⟩:=hd;cases rx;obtain⟨its,rr,pl,_⟩:=I.tuple h;obtain⟨o,h1,h2,_⟩:=pl;exact Kw Rt I.gd ⟨o,h1,h2⟩ ek (λz=>nomatch z) fin
 | dict _=>exact hd.elim
theorem dN {H:Hp} {d:IL} {x:V} {Q:VK} (h:dv K H d x) (q:Q (.bl (Ig d)) H):vg K [x,.ty "bool"] H Q:=by refine⟨d,x,"bool",_,rfl,h,?_,q⟩;cases d<;>first | exact h.elim | with_unfolding_all rfl
theorem dG {H:Hp} {d:IL} {x:V} {Q:VK} (h:dv K H d x) (q:Q (.bl (Ii d)) H):vg K [x,.ty "tuple"] H Q:=by refine⟨d,x,"tuple",_,rfl,h,?_,q⟩;cases d<;>first | exact h.elim | with_unfolding_all rfl
theorem dS {H:Hp} {d:IL} {x:V} {Q:VK} (h:dv K H d x) (q:Q (.bl (Ih d)) H):vg K [x,.ty "list"] H Q:=by refine⟨d,x,"list",_,rfl,h,?_,q⟩;cases d<;>first | exact h.elim | with_unfolding_all rfl
end
noncomputable def FI (i:Int) (n:Nat):List V:=(Ky n).map fun(k:Nat)=>V.int (i+(k:Int))
def Ij (ta:TA):TE:=λσ H Q=>ta σ H λvs H1=>∃ i j:Int,vs=[.int i,.int j]/\(-(2^62)<=i/\i<2^62 /\ -(2^62)<=j/\j<2^62)/\j-i<=10^6/\∀ l,H1 l=none->Q (.ref l) (upd H1 l (.lst (FI i (j-i).toNat)))
variable {X:Cx}
theorem boot_any:bootBuiltins "any"=Io (.builtin "any"):=by decide +kernel
section
variable {X:Cx} {K:Iq}
def Hq (K:Iq):List V->Hp->VK->Prop:=λxs H Q=>∃(a:Iy) (bs:List Bool),xs=[.ref a]/\aJ K H a (bs.map V.bl)/\Q (.bl (bs.any id)) H
theorem xM (hc:X.calm=true):dQ X (.builtin "any") (Hq X.K):=by
 intro pins s σ H xs us Q I r h;obtain⟨a,bs,rfl,hq,q⟩:=h;obtain⟨u,rfl,ru⟩:=vals1 r;cases ru;obtain⟨its,rv,p,hz⟩:=I.list hq;have hl:=p.isList;have hlt:a<s.heap.objs.size:=by obtain⟨_,e,_⟩:=hl;exact IK e
 have hln:its.length=bs.length:=by have:=rv.length;rw [Iu] at this;lia
 have hb:∀(i:Nat) v,its[i]?=Io v->∃ b,bs[i]?=Io b/\v=.bool b:=λi v e=>by
  have hi:i<its.length:=(IB.mp e).1;have hi2:i<bs.length:=by lia
  obtain⟨u,e1,e2⟩:=rv.get (i:=i) (x:=V.bl bs[i]) (by rw [ID,Iv hi2];rfl);rw [e] at e1;cases e1;exact⟨bs[i],Iv hi2,e2⟩
 refine call_any_walk (MP hl ?_);refine⟨s.heap.objs.size,[s.heap.objs.size,a],[s.heap.objs.size],its.toArray.size,_,_,λi=>(bs[i]?).getD false,rfl,Walks.list (A:=X.A.in1) (I.ok.hd hc) _ a (Jd hlt) its.toArray,
  ⟨⟨_,II _ rfl,rfl,rfl⟩,hl.push _⟩,λi v s' Q' E' hP hQ=>?_,λh' tk hk=>?_⟩
 ·obtain⟨b,e,rfl⟩:=hb i v (by simpa using hP);simp only [e,Ms] at hQ;exact L6 hQ
 ·have e:((Ky its.toArray.size).any λi=>(bs[i]?).getD false)=bs.any id:=by
   rw [IP,hln,L3];simp only [Mu,JQ,id];constructor
   ·rintro⟨i,hi,z⟩;rw [Iv hi,Ms] at z;exact⟨_,LR hi,z⟩
   ·rintro⟨b,hb',z⟩;obtain⟨i,hi,rfl⟩:=K5.mp hb';exact⟨i,hi,by rw [Iv hi,Ms];exact z⟩
  rw [e];exact⟨.bl _,H,I.kept λb o eb=>hk b o (λhm=>by rw [IW.mp hm] at eb;exact Ka _ (IK eb)) (Iw _ eb),rfl,q⟩
end
section
variable {κ:Type} [DecidableEq κ]
noncomputable def cz (kvs:List (κ × V)) (k:κ):Option V:=(kvs.find? λkv=>decide (kv.1=k)).map (·.2)
noncomputable def putK (kvs:List (κ × V)) (k:κ) (v:V):List (κ × V) :=
 if (kvs.any λkv=>decide (kv.1=k))=true then kvs.map (λkv=>if kv.1=k then (kv.1,v) else kv) else kvs++[(k,v)]
noncomputable def bX (kvs:List (κ × V)) (k:κ):List (κ × V):=kvs.filter λkv=>decide (kv.1≠k)
theorem cG {p:κ × V} {r:List (κ × V)} {k:κ} (e:p.1=k):cz (p::r) k=Io p.2:=by simp [cz,MK,e]
theorem cp {p:κ × V} {r:List (κ × V)} {k:κ} (e:¬p.1=k):cz (p::r) k=cz r k:=by simp [cz,MK,e]
theorem mJ (k:κ):∀ kvs:List (κ × V),(kvs.any λkv=>decide (kv.1=k))=(cz kvs k).isSome
 | []=>rfl
 | p::r=>by
  rw [Ob];by_cases e:p.1=k
  ·simp only [cG e,decide_eq_true e,Bool.true_or,Rx]
  ·rw [cp e,decide_eq_false e,Bool.false_or];exact mJ k r
theorem ic (k j:κ) (y:V):∀ kvs:List (κ × V),cz kvs k=none->cz (kvs++[(k,y)]) j=if j=k then Io y else cz kvs j
 | [],_=>by
  by_cases e:k=j
  ·rw [if_pos e.symm];exact cG (p:=(k,y)) e
  ·rw [if_neg (λz=>e z.symm)];exact cp (p:=(k,y)) e
 | p::r,hn=>by
  rw [List.cons_append];have hk:¬p.1=k:=λz=>by rw [cG z] at hn;cases hn
  rw [cp hk] at hn;have ih:=ic k j y r hn;by_cases e:p.1=j
  ·rw [cG e,cG e,if_neg (λz=>hk (e.trans z))]
  ·rw [cp e,cp e,ih]
theorem gy (kvs:List (κ × V)) (k:κ) (v:V):(putK kvs k v).length<=kvs.length+1:=by
 unfold putK;split
 ·rw [Iu];lia
 ·rw [Js,JU,LI];lia
theorem rP {kvs:List (κ × V)} {k:κ} (v:V) (h:cz kvs k=none):putK kvs k v=kvs++[(k,v)]:=by unfold putK;rw [mJ,h];exact if_neg (by decide)
theorem ff.fm {o:Option V} {u:Option Ir} (r:ff o u):o.isSome=u.isSome:=by
 cases o with
 | none=>cases u with
  | none=>rfl
  | some _=>exact (show False from r).elim
 | some _=>cases u with
  | none=>exact (show False from r).elim
  | some _=>rfl
theorem ff.getD {o:Option V} {u:Option Ir} {d:V} {d':Ir} (r:ff o u) (rd:RelV d d'):RelV (o.getD d) (u.getD d'):=by
 cases o with
 | none=>cases u with
  | none=>exact rd
  | some _=>exact (show False from r).elim
 | some _=>cases u with
  | none=>exact (show False from r).elim
  | some _=>exact r
theorem KV.val {kvs:List (κ × V)} {vs:List (κ × Ir)} (r:KV kvs vs) (k:κ):ff (cz kvs k) (valueAt vs k):=by
 unfold KV at r
 induction r with
 | nil=>exact True.intro
 | @cons p q ps qs h t ih =>
  obtain⟨h1,h2⟩:=h;by_cases e:p.1=k
  ·have e':q.1=k:=h1.symm.trans e;have b:valueAt (q::qs) k=Io q.2:=by simp [valueAt,MK,e']
   rw [cG e,b];exact h2
  ·have e':¬q.1=k:=λz=>e (h1.trans z);have b:valueAt (q::qs) k=valueAt qs k:=by simp [valueAt,MK,e']
   rw [cp e,b];exact ih
theorem KV.any {kvs:List (κ × V)} {vs:List (κ × Ir)} (r:KV kvs vs) (k:κ):(kvs.any λkv=>decide (kv.1=k))=vs.any λkv=>decide (kv.1=k):=by
 unfold KV at r
 induction r with
 | nil=>rfl
 | cons h t ih=>rw [Ob,Ob,ih,h.1]
theorem KV.EM {kvs:List (κ × V)} {vs:List (κ × Ir)} (r:KV kvs vs) (k:κ) {y:V} {u:Ir} (ry:RelV y u) :
  KV (kvs.map λkv=>if kv.1=k then (kv.1,y) else kv) (vs.map λkv=>if kv.1=k then (kv.1,u) else kv):=by
 unfold KV at r ⊢
 induction r with
 | nil=>exact .nil
 | @cons p q ps qs h t ih =>
  rw [Jz,Jz];refine .cons ?_ ih;obtain⟨h1,h2⟩:=h;by_cases e:p.1=k
  ·rw [if_pos e,if_pos (h1.symm.trans e)];exact⟨h1,ry⟩
  ·rw [if_neg e,if_neg (λz=>e (h1.trans z))];exact⟨h1,h2⟩
theorem KV.put {kvs:List (κ × V)} {vs:List (κ × Ir)} (r:KV kvs vs) (k:κ) {y:V} {u:Ir} (ry:RelV y u):KV (putK kvs k y) (stored vs k u):=by
 unfold putK stored;rw [r.any k];by_cases e:(vs.any λkv=>decide (kv.1=k))=true
 ·rw [if_pos e,if_pos e];exact r.EM k ry
 ·rw [if_neg e,if_neg e];exact U7 r ⟨rfl,ry⟩
theorem KV.length {kvs:List (κ × V)} {vs:List (κ × Ir)} (r:KV kvs vs):kvs.length=vs.length:=Nh r
theorem qO (kvs:List (κ × V)) (k:κ):(bX kvs k).length<=kvs.length:=NX _ _
end
theorem nG {P:IM} {w:Jo} {k:Key} {u:Ir} (r:RelV (kV k) u):(bP P w).is k u=true:=by
 cases k with
 | inl i=>obtain⟨t,e⟩:=(show ∃ t,u=ML i t from r);subst e;exact rh P w i t
 | inr x=>obtain⟨t,e⟩:=(show ∃ t,u=Q0 x t from r);subst e;exact rj P w x t
theorem nF {P:IM} {w:Jo}:∀{ks:List Key} {us:List Ir},Vals (ks.map kV) us->ItemsAre (bP P w) ks us
 | [],_,r=>by rw [MB] at r;cases r;exact .nil
 | k::ks,_,r=>by
  rw [Jz] at r;cases r with
  | cons h t=>exact .cons (nG h) (nF t)
abbrev KT (H:Hp):List (List Key × V)->List (List Key × Iy × Ir)->Prop:=Rq λp q=>p.1=q.1/\H q.2.1=Io (.tup (p.1.map kV))/\RelV p.2 q.2.2
theorem KT.val {H:Hp} {kvs:List (List Key × V)} {xs:List (List Key × Iy × Ir)} (r:KT H kvs xs) (k:List Key):ff (cz kvs k) ((atKey xs k).map (·.2)):=by
 induction r with
 | nil=>exact True.intro
 | @cons p q ps qs h t ih =>
  obtain⟨h1,_,h2⟩:=h;by_cases e:p.1=k
  ·have e':q.1=k:=h1.symm.trans e;have b:atKey (q::qs) k=Io q.2:=by simp [atKey,MK,e']
   rw [cG e,b];exact h2
  ·have e':¬q.1=k:=λz=>e (h1.trans z);have b:atKey (q::qs) k=atKey qs k:=by simp [atKey,MK,e']
   rw [cp e,b];exact ih
theorem KT.EM {H:Hp} {kvs:List (List Key × V)} {xs:List (List Key × Iy × Ir)} (r:KT H kvs xs) (k:List Key) {y:V} {u:Ir} (ry:RelV y u) :
  KT H (kvs.map λkv=>if kv.1=k then (kv.1,y) else kv) (xs.map (putAt k u)):=by
 induction r with
 | nil=>exact .nil
 | @cons p q ps qs h t ih =>
  rw [Jz,Jz];refine .cons ?_ ih;obtain⟨h1,h2,h3⟩:=h;unfold putAt;by_cases e:p.1=k
  ·rw [if_pos e,if_pos (h1.symm.trans e)];exact⟨h1,h2,ry⟩
  ·rw [if_neg e,if_neg (λz=>e (h1.trans z))];exact⟨h1,h2,h3⟩
theorem KT.put {H:Hp} {kvs:List (List Key × V)} {xs:List (List Key × Iy × Ir)} (r:KT H kvs xs) (k:List Key) {b:Iy} {y:V} {u:Ir} (hb:H b=Io (.tup (k.map kV))) (ry:RelV y u) :
  KT H (putK kvs k y) (storedH xs k b u):=by
 have e:(kvs.any λkv=>decide (kv.1=k))=(atKey xs k).isSome:=by rw [mJ,(r.val k).fm,Po]
 unfold putK storedH;rw [e];by_cases q:(atKey xs k).isSome=true
 ·rw [if_pos q,if_pos q];exact r.EM k ry
 ·rw [if_neg q,if_neg q];exact U7 r ⟨rfl,hb,ry⟩
theorem KT.keeps {H H':Hp} {kvs:List (List Key × V)} {xs:List (List Key × Iy × Ir)} (r:KT H kvs xs) (ht:∀ b ys,H b=Io (.tup ys)->H' b=Io (.tup ys)):KT H' kvs xs :=
 Paired.Ee r λ_ _ z=>⟨z.1,ht _ _ z.2.1,z.2.2⟩
section
variable {P:IM} {w:Jo} {H:Hp} {h:JD} {a:Iy}
theorem C5 {u:HO} (ok:gf P w H h) (e:Rd H a u):bG P w H h a u:=e.ok ok
theorem lF {kvs:List (Key × V)} (ok:gf P w H h) (e:Rd H a (.dK kvs)):kvs.length<=sizeLine/\(a==sysModules)=false/\∃ vs,KV kvs vs/\h.DictOf (bP P w) a vs :=
 show bG P w H h a (.dK kvs) from C5 ok e
theorem CI {kvs:List (Key × V)} (ok:gf P w H h) (e:H a=Io (.dK kvs)):kvs.length<=sizeLine/\(a==sysModules)=false/\∃ vs,KV kvs vs/\h.DictOf (bP P w) a vs:=lF ok (.inl e)
theorem jS {ks:List Key} (ok:gf P w H h) (e:H a=Io (.tup (ks.map kV))):(tupleKind (bP P w)).is h ks a:=by
 obtain⟨_,its,r,o,h1,h2,n,h3⟩:=(show bG P w H h a (.tup (ks.map kV)) from ok a _ e)
 exact⟨o,its.toArray,n,h1,h2,h3,by simpa using nF r⟩
theorem nA {kvs:List (List Key × V)} (ok:gf P w H h) (e:Rd H a (.dT kvs)):kvs.length<=sizeLine/\(a==sysModules)=false /\
  ∃ xs,KT H kvs xs/\h.DictOfH (tupleKind (bP P w)) a xs:=by
 obtain⟨z,y,xs,r,o,es,ep,h1,h2,h3,h4,h5⟩:=(show bG P w H h a (.dT kvs) from C5 ok e)
 refine⟨z,y,xs,r,o,es,ep,h1,h2,h3,h4,λx hx=>?_,h5⟩;have all:∀{l:List (List Key × V)} {m:List (List Key × Iy × Ir)},KT H l m->∀ x∈m,(tupleKind (bP P w)).is h x.1 x.2.1:=by
  intro l m q
  induction q with
  | nil=>intro x hx;exact nomatch hx
  | @cons p q ps qs hq t ih =>
   intro x hx;rcases IU.mp hx with e | hx
   ·subst e;exact jS ok (by rw [<- hq.1];exact hq.2.1)
   ·exact ih x hx
 exact all r x hx
theorem CK {kvs:List (List Key × V)} (ok:gf P w H h) (e:H a=Io (.dT kvs)):kvs.length<=sizeLine/\(a==sysModules)=false /\
  ∃ xs,KT H kvs xs/\h.DictOfH (tupleKind (bP P w)) a xs:=nA ok (.inl e)
end
def dI (H:Hp) (a:Iy) (y:V) (r:Option V):Prop :=
 (∃ kvs k,Rd H a (.dK kvs)/\y=kV k/\r=cz kvs k)∨∃ kvs k b,Rd H a (.dT kvs)/\y=.ref b/\H b=Io (.tup (k.map kV))/\r=cz kvs k
def lj (H:Hp) (a:Iy) (y v:V) (H':Hp):Prop :=
 (∃ kvs k,H a=Io (.dK kvs)/\y=kV k/\kvs.length<sizeLine/\H'=upd H a (.dK (putK kvs k v))) ∨
 ∃ kvs k b,H a=Io (.dT kvs)/\y=.ref b/\H b=Io (.tup (k.map kV))/\kvs.length<sizeLine/\H'=upd H a (.dT (putK kvs k v))
theorem dI.k {H:Hp} {a:Iy} {kvs:List (Key × V)} {k:Key} (e:H a=Io (.dK kvs)):dI H a (kV k) (cz kvs k):=.inl ⟨kvs,k,.inl e,rfl,rfl⟩
theorem dI.t {H:Hp} {a b:Iy} {kvs:List (List Key × V)} {k:List Key} (e:H a=Io (.dT kvs)) (eb:H b=Io (.tup (k.map kV))):dI H a (.ref b) (cz kvs k):=.inr ⟨kvs,k,b,.inl e,rfl,eb,rfl⟩
theorem lj.k {H:Hp} {a:Iy} {kvs:List (Key × V)} {k:Key} {v:V} (e:H a=Io (.dK kvs)) (hl:kvs.length<sizeLine):lj H a (kV k) v (upd H a (.dK (putK kvs k v))):=.inl ⟨kvs,k,e,rfl,hl,rfl⟩
theorem lj.t {H:Hp} {a b:Iy} {kvs:List (List Key × V)} {k:List Key} {v:V} (e:H a=Io (.dT kvs)) (eb:H b=Io (.tup (k.map kV))) (hl:kvs.length<sizeLine) :
  lj H a (.ref b) v (upd H a (.dT (putK kvs k v))):=.inr ⟨kvs,k,b,e,rfl,eb,hl,rfl⟩
section
variable {X:Cx} {pins:List (Iy × K9)} {σ:St} {H:Hp} {s:Iz} {a:Iy} {y v:V} {u r:Ir} {o:Option V} {A:Jr} {E:Ir->Iz->Prop}
theorem Inv.big (I:Inv X pins σ H s):sysModules<s.heap.objs.size:=by have h:mainGlobals<s.heap.objs.size:=(I.mod.glob.keeps I.bk).lt;exact Qb (by decide) h
theorem vU {Q:Ir->Iz->Prop} (hu:A.units+1<cLine) (I:Inv X pins σ H s) (g:dI H a y (Io v)) (ry:RelV y u) (h:∀ w' s',Inv X pins σ H s'->RelV v w'->Q w' s') :
  wpAny (model X.prog X.w) A (getItem (.ref a) u) Q E s:=by
 rcases g with⟨kvs,k,e,ey,l⟩|⟨kvs,k,b,e,ey,eb,l⟩
 ·subst ey;obtain⟨z,hd,vs,rel,dd⟩:=lF I.hok e;obtain⟨w',hw,rw'⟩:=ff.some_of (v:=v) (o:=valueAt vs k) (by rw [l];exact rel.val k);exact wpAny_getItem_of (nG ry) dd.mapOf hw (h w' _ (I.tok _) rw')
 ·subst ey;cases (show u=Ji b from ry);obtain⟨z,hd,xs,rel,dd⟩:=nA I.hok e;obtain⟨w',hw,rw'⟩:=ff.some_of (v:=v) (o:=(atKey xs k).map (·.2)) (by rw [l];exact rel.val k);obtain⟨p,hp,hp2⟩:=IE.mp hw;refine wpAny_getItem_heap (MF hu) (jS I.hok eb) dd hp ?_;rw [hp2];exact h w' _ (I.tok _) rw'
theorem Hf {Q:Ir->Iz->Prop} (hu:A.units+1<cLine) (I:Inv X pins σ H s) (g:dI H a y o) (ry:RelV y u) (h:∀ s',Inv X pins σ H s'->Q (.bool o.isSome) s') :
  wpAny (model X.prog X.w) A (compareOp .In u (.ref a)) Q E s:=by
 rcases g with⟨kvs,k,e,ey,l⟩|⟨kvs,k,b,e,ey,eb,l⟩
 ·subst ey;obtain⟨z,hd,vs,rel,dd⟩:=lF I.hok e;refine wpAny_in_of (nG ry) hd dd.mapOf ?_;rw [<- (rel.val k).fm,<- l];exact h _ (I.tok _)
 ·subst ey;cases (show u=Ji b from ry);obtain⟨z,hd,xs,rel,dd⟩:=nA I.hok e;refine wpAny_in_heap (MF hu) (jS I.hok eb) hd dd ?_;have q:=(rel.val k).fm;rw [Po] at q;rw [<- q,<- l];exact h _ (I.tok _)
theorem A1 {Q:Ir->Iz->Prop} (hu:A.units+1<cLine) (I:Inv X pins σ H s) (g:dI H a y o) (ry:RelV y u) (h:∀ s',Inv X pins σ H s'->Q (.bool (!o.isSome)) s') :
  wpAny (model X.prog X.w) A (compareOp .NotIn u (.ref a)) Q E s:=by
 rcases g with⟨kvs,k,e,ey,l⟩|⟨kvs,k,b,e,ey,eb,l⟩
 ·subst ey;obtain⟨z,hd,vs,rel,dd⟩:=lF I.hok e;refine wpAny_notIn_of (nG ry) hd dd.mapOf ?_;rw [<- (rel.val k).fm,<- l];exact h _ (I.tok _)
 ·subst ey;cases (show u=Ji b from ry);obtain⟨z,hd,xs,rel,dd⟩:=nA I.hok e;refine wpAny_notIn_heap (MF hu) (jS I.hok eb) hd dd ?_;have q:=(rel.val k).fm;rw [Po] at q;rw [<- q,<- l];exact h _ (I.tok _)
theorem kN {h':JD} {t':Nat} {ob:HO} (I:Inv X pins σ H s) (mu:Ft (H a)) (hs:Ku a s.heap h') (he:∃ q,h'.get? a=Io q) (new:bG X.prog X.w (upd H a ob) h' a ob) :
  Inv X pins σ (upd H a ob) { s with heap:=h',toks:=t' } :=
 I.write (x:=a) (e:=a) mu (.inl rfl) (λb q hb z=>(hs.2 b hb).trans z) he new
theorem xZ {P:IM} {w:Jo} {H':Hp} {h':JD} {kvs:List (Key × V)} {vs:List (Key × Ir)} (z:kvs.length<=sizeLine) (hd:(a==sysModules)=false) (rel:KV kvs vs) (dd:h'.DictOf (bP P w) a vs) :
  bG P w H' h' a (.dK kvs):=⟨z,hd,vs,rel,dd⟩
theorem vV {H':Hp} {Q:Unit->Iz->Prop} (hu:A.units+1<cLine) (I:Inv X pins σ H s) (g:lj H a y v H') (ry:RelV y u) (rv:RelV v r) (h:∀ s',Inv X pins σ H' s'->Q () s') :
  wpAny (model X.prog X.w) A (setItem (.ref a) u r) Q E s:=by
 rcases g with⟨kvs,k,e,ey,l,eH⟩|⟨kvs,k,b,e,ey,eb,l,eH⟩
 ·subst ey eH;obtain⟨z,hd,vs,rel,dd⟩:=CI I.hok e;have hz:vs.length<=sizeLine:=by rw [<- rel.length];exact z
  have hl:(putK kvs k v).length<=sizeLine:=by have:=gy kvs k v;lia
  refine wpAny_setItem_pairs (hsz:=hz) (nG ry) dd λh' dd' hs=>h _ ?_;have he:∃ q,h'.get? a=Io q:=let ⟨q,_,_,hq,_⟩:=dd';⟨q,hq⟩
  exact kN I (by rw [e];exact True.intro) hs he (xZ hl hd (rel.put k rv) dd')
 ·subst ey eH;cases (show u=Ji b from ry);obtain⟨z,hd,xs,rel,dd⟩:=CK I.hok e;have hz:xs.length<=sizeLine:=by rw [<- Nh rel];exact z
  have hl:(putK kvs k v).length<=sizeLine:=by have:=gy kvs k v;lia
  refine wpAny_setItem_heap (hsz:=hz) (MF hu) (jS I.hok eb) dd λh' dd' hs=>h _ ?_;obtain⟨q,es,ep,hq,h2,h3,h4,_,h5⟩:=dd';refine kN I (by rw [e];exact True.intro) hs ⟨q,hq⟩ ⟨hl,hd,_,(rel.put k eb rv).keeps λc ys ec=>?_,q,es,ep,hq,h2,h3,h4,h5⟩;rw [ao (bI ec e (λz=>nomatch z))];exact ec
end
section
variable {X:Cx} {pins:List (Iy × K9)} {σ:St} {H:Hp} {s:Iz} {a:Iy} {kvs:List (Key × V)} {k:Key} {u:Ir} {A:Jr} {E:Ir->Iz->Prop}
theorem FH {Q:Ir->Iz->Prop} (I:Inv X pins σ H s) (e:Rd H a (.dK kvs)) (h:∀ t s',Inv X pins σ H s'->Q (.int kvs.length t) s'):wpAny (model X.prog X.w) A (call (.builtin "len") [.ref a]) Q E s:=by obtain⟨z,hd,vs,rel,dd⟩:=lF I.hok e;refine call_len_dict hd dd (by rw [<- rel.length];rw [Ny] at z;lia) ?_;rw [<- rel.length];exact h _ _ (I.tok _)
end
def Fu (i:JH):Prop:=∀ ov iv,subscripted i false ov iv=operate [ov,iv] (getItem ov iv)
theorem Cj {prog:IM} {w:Jo} {A:Jr} {E:Ir->Iz->Prop} {s:Iz} {env:NS} {value slice:JH} {pos:Mn} {T id:String} {Q:Ir->Iz->Prop}
  (hl:typeLookup (.type T) "__getitem__"=pure (Io (.builtin id))) (hs:Fu slice)
  (h:wpAny (model prog w) A (eval value env) (λo s₁=>wpAny (model prog w) A (eval slice env) (λi s₂=>s₂.TypeIs o T/\wpAny (model prog w) A (getItem o i) Q E s₂) E s₁) E s) :
  wpAny (model prog w) A (eval (.Subscript value slice pos) env) Q E s:=by
 refine P7 (Kc h (λo s₁ h₁=>Kc h₁ (λi s₂ h₂=>?_) λ_ _ x=>x) λ_ _ x=>x);obtain⟨hT,h₂⟩:=h₂;unfold subscriptTail;refine Ip ?_;rw [getitemInPython_of_ne hT.not_modules];refine Ip (SX hT hl ?_);have fin:wpAny (model prog w) A (subscripted slice false o i) (λr s₃=>wpAny (model prog w) A (letTemporaryGo value o r >>= λ_=>pure r) Q E s₃) E s₂:=by rw [hs o i];exact wpAny_operating (Kc h₂ (λr s₃ h₃=>Ip (wpAny_letTemporaryGo (IA h₃))) λ_ _ x=>x)
 first
  | exact IA (Ip fin)
  | exact Ip (IA (Ip fin))
  | exact Ip fin
theorem qL {X:Cx} {pins:List (Iy × K9)} {σ:St} {H:Hp} {s:Iz} {a:Iy} {y:V} {o:Option V} (I:Inv X pins σ H s) (g:dI H a y o):s.TypeIs (.ref a) "dict":=by
 rcases g with⟨kvs,k,e,_,_⟩|⟨kvs,k,b,e,_,_,_⟩
 ·obtain⟨_,_,vs,_,dd⟩:=lF I.hok e;exact dd.typeIs
 ·obtain⟨_,_,xs,_,dd⟩:=nA I.hok e;exact dd.typeIs
def Dh (td ty:TE):TE:=λσ H Q=>td σ H λx H1=>ty σ H1 λy H2=>∃ a v,x=.ref a/\dI H2 a y (Io v)/\Q v H2
def Gn (ty td:TE):TE:=λσ H Q=>ty σ H λy H1=>td σ H1 λx H2=>∃ a o,x=.ref a/\dI H2 a y o/\Q (.bl o.isSome) H2
def vF (ty td:TE):TE:=λσ H Q=>ty σ H λy H1=>td σ H1 λx H2=>∃ a o,x=.ref a/\dI H2 a y o/\Q (.bl (!o.isSome)) H2
def C6 (td ty tv:TE):TS:=λD σ H=>tv σ H λv H1=>td σ H1 λx H2=>ty σ H2 λy H3=>∃ a H4,x=.ref a/\lj H3 a y v H4/\D.nx σ H4
section
variable {X:Cx} {o i e value:JH} {pos pos' tpos:Mn} {td ty tv:TE}
theorem bQ (hu:X.A.units+1<cLine) (ho:PE X o td) (hi:PE X i ty) (hs:Fu i):PE X (.Subscript o i pos) (Dh td ty):=by intro pins s σ H Q I h;refine Cj PySem.F.slot_dict_getitem.lookup hs (bf (ho pins s σ H _ I h) λu s1 ⟨x,H1,I1,rx,q1⟩=>bf (hi pins s1 σ H1 _ I1 q1) λiv s2 ⟨y,H2,I2,ry,a,v,ex,g,q2⟩=>?_);subst ex;obtain rfl:u=Ji a:=rx;exact⟨qL I2 g,vU hu I2 g ry λw' s3 I3 rw'=>⟨v,H2,I3,rw',q2⟩⟩
theorem Ez (hu:X.A.units+1<cLine) (hi:PE X i ty) (ho:PE X o td):PC X .In i o (Gn ty td):=by intro pins s σ H Q I h;refine bf (hi pins s σ H _ I h) λiv s1 ⟨y,H1,I1,ry,q1⟩=>bf (ho pins s1 σ H1 _ I1 q1) λu s2 ⟨x,H2,I2,rx,a,ov,ex,g,q2⟩=>?_;subst ex;obtain rfl:u=Ji a:=rx;exact Hf hu I2 g ry λs3 I3=>⟨.bl ov.isSome,H2,I3,rfl,q2⟩
theorem wQ (hu:X.A.units+1<cLine) (hi:PE X i ty) (ho:PE X o td):PC X .NotIn i o (vF ty td):=by intro pins s σ H Q I h;refine bf (hi pins s σ H _ I h) λiv s1 ⟨y,H1,I1,ry,q1⟩=>bf (ho pins s1 σ H1 _ I1 q1) λu s2 ⟨x,H2,I2,rx,a,ov,ex,g,q2⟩=>?_;subst ex;obtain rfl:u=Ji a:=rx;exact A1 hu I2 g ry λs3 I3=>⟨.bl (!ov.isSome),H2,I3,rfl,q2⟩
theorem fO (hu:X.A.units+1<cLine) (ho:PE X o td) (hi:PE X i ty) (hv:PE X value tv) (hs:swapsWith value (Io (.Subscript o i pos')) pos.line X.env=pure false) :
  PS X (.Assign [.Subscript o i pos'] value pos) (C6 td ty tv):=by
 intro pins s σ H D I h;refine wpAny_Assign_Subscript (bf (hv pins s σ H _ I h) λr s1 ⟨v,H1,I1,rv,q1⟩=>bf (ho pins s1 σ H1 _ I1 q1) λu s2 ⟨x,H2,I2,rx,q2⟩=>bf (hi pins s2 σ H2 _ I2 q2) λiv s3 ⟨y,H3,I3,ry,a,H4,ex,g,q3⟩=>?_) hs;subst ex;obtain rfl:u=Ji a:=rx;exact vV hu I3 g ry rv λs4 I4=>⟨σ,H4,I4,q3⟩
end
theorem qM {P:IM} {w:Jo} {H:Hp} (h:JD) (hb:sysModules<h.objs.size):bG P w H (h.push { cls:=.type "dict",data:=.dict #[] }) h.objs.size (.dK []) :=
 ⟨J4 _,beq_eq_false_iff_ne.mpr (JC (Jd hb)),[],.nil,Heap.DictOf.new h⟩
theorem x4 {P:IM} {w:Jo} {H:Hp} (h:JD) (hb:sysModules<h.objs.size):bG P w H (h.push { cls:=.type "dict",data:=.dict #[] }) h.objs.size (.dT []) :=
 ⟨J4 _,beq_eq_false_iff_ne.mpr (JC (Jd hb)),[],.nil,_,#[],0,II _ rfl,⟨rfl,rfl,rfl⟩,rfl,rfl,OV⟩
def Aj:TE:=λ_ H Q=>∀ p,H p=none->Q (.ref p) (upd H p (.dK []))
def Ak:TE:=λ_ H Q=>∀ p,H p=none->Q (.ref p) (upd H p (.dT []))
section
variable {X:Cx} {pos:Mn}
theorem zB:PE X (.Dict [] [] pos) Aj:=λpins s σ H Q I h =>Sk ⟨.ref s.heap.objs.size,_,I.laid (a:=s.heap.objs.size) (o:=.dK []) (t':=s.toks) (λ_ _ q=>Iw _ q) (IF _) (qM s.heap I.big),rfl,h _ (I.hok.fresh (IF _))⟩
theorem zC:PE X (.Dict [] [] pos) Ak:=λpins s σ H Q I h =>Sk ⟨.ref s.heap.objs.size,_,I.laid (a:=s.heap.objs.size) (o:=.dT []) (t':=s.toks) (λ_ _ q=>Iw _ q) (IF _) (x4 s.heap I.big),rfl,h _ (I.hok.fresh (IF _))⟩
end
def qj:List (TE × TE)->St->Hp->(List (V × V)->Hp->Prop)->Prop
 | [],_,H,Q=>Q [] H
 | (tk,tv)::r,σ,H,Q=>tk σ H λx H1=>tv σ H1 λy H2=>qj r σ H2 λps H3=>Q ((x,y)::ps) H3
abbrev VV:List (V × V)->List (Ir × Ir)->Prop:=Rq λp q=>RelV p.1 q.1/\RelV p.2 q.2
def GN (X:Cx) (pos:Mn) (keys:List (Option JH)) (values:List JH) (trs:List (TE × TE)):Prop :=
 ∀(pins:List (Iy × K9)) (s:Iz) (σ:St) (H:Hp) (Q:List (V × V)->Hp->Prop),Inv X pins σ H s->qj trs σ H Q ->
  wpAny (model X.prog X.w) X.A (evalPairs (pairTrees keys values X.env pos)) (λvs s'=>∃ ps H',Inv X pins σ H' s'/\VV ps vs/\Q ps H') X.xe s
theorem vd {X:Cx} {pos:Mn}:GN X pos [] [] []:=λpins s σ H Q I h=>pairTrees_nil_walk ⟨[],H,I,.nil,h⟩
theorem fA {X:Cx} {pos:Mn} {k v:JH} {ks:List (Option JH)} {vs:List JH} {tk tv:TE} {trs:List (TE × TE)} (hk:PE X k tk) (hv:PE X v tv) (hr:GN X pos ks vs trs) :
  GN X pos (Io k::ks) (v::vs) ((tk,tv)::trs):=λpins s σ H Q I h =>
 pairTrees_cons_walk (bf (hk pins s σ H _ I h) λu s1 ⟨x,H1,I1,rx,q1⟩=>bf (hv pins s1 σ H1 _ I1 q1) λw2 s2 ⟨y,H2,I2,ry,q2⟩ =>
  bf (hr pins s2 σ H2 _ I2 q2) λws s3 ⟨ps,H3,I3,rel,q3⟩=>⟨(x,y)::ps,H3,I3,.cons ⟨rx,ry⟩ rel,q3⟩)
noncomputable def lU (kvs more:List (Key × V)):List (Key × V):=more.foldl (λacc kv=>putK acc kv.1 kv.2) kvs
theorem KV.merge:∀{more:List (Key × V)} {rs:List (Key × Ir)} {kvs:List (Key × V)} {vs:List (Key × Ir)},KV more rs->KV kvs vs->KV (lU kvs more) (merged vs rs):=by
 intro more rs kvs vs r;unfold KV at r
 induction r generalizing kvs vs with
 | nil=>intro q;exact q
 | @cons p q ps qs h t ih =>
  intro r0;have e:KV (putK kvs p.1 p.2) (stored vs q.1 q.2):=by have:=r0.put p.1 h.2;rw [<- h.1];exact this
  exact ih e
theorem ik:∀(more kvs:List (Key × V)),(lU kvs more).length<=kvs.length+more.length
 | [],kvs=>by show kvs.length<=kvs.length+0;lia
 | p::r,kvs=>by have h1:=ik r (putK kvs p.1 p.2);have h2:=gy kvs p.1 p.2;show (lU (putK kvs p.1 p.2) r).length<=_;rw [JU];lia
theorem lC {P:IM} {w:Jo}:∀{kvs:List (Key × V)} {ws:List (Ir × Ir)},VV (kvs.map λkv=>(kV kv.1,kv.2)) ws->∃ rs,Carries (bP P w) ws rs/\KV kvs rs
 | [],_,r=>by rw [MB] at r;cases r;exact⟨[],True.intro,.nil⟩
 | p::kvs,_,r=>by
  rw [Jz] at r;cases r with
  | @cons a b as bs h t =>obtain⟨rs,c,q⟩:=lC (P:=P) (w:=w) t;obtain⟨b1,b2⟩:=b;exact⟨(p.1,b2)::rs,⟨nG h.1,rfl,c⟩,.cons ⟨rfl,h.2⟩ q⟩
def Di (trs:List (TE × TE)):TE:=λσ H Q=>∀ p,H p=none->qj trs σ (upd H p (.dK [])) λps H2=>H2 p=Io (.dK [])/\∃ kvs:List (Key × V),ps=kvs.map (λkv=>(kV kv.1,kv.2))/\kvs.length<=15/\Q (.ref p) (upd H2 p (.dK (lU [] kvs)))
theorem u9 {X:Cx} {pos:Mn} {keys:List (Option JH)} {values:List JH} {trs:List (TE × TE)} (h:GN X pos keys values trs) (hall:keys.all (·.isSome)=true) (hl:keys.length=values.length) (h0:keys≠[])
  (h15:keys.length<=15):PE X (.Dict keys values pos) (Di trs):=by
 intro pins s σ H Q I q;have hn:=I.hok.fresh (IF s.heap.objs.size);have I1:=I.laid (a:=s.heap.objs.size) (o:=.dK []) (h':=s.heap.push { cls:=.type "dict",data:=.dict #[] }) (t':=s.toks) (λ_ _ q=>Iw _ q) (IF _) (qM s.heap I.big);refine wpAny_Dict_walk (knd:=bP X.prog X.w) hall hl h0 h15 (bf (h pins _ σ _ _ I1 (q _ hn)) λws s2 ⟨ps,H2,I2,rel,e,kvs,ep,lk,q2⟩=>?_);subst ep;obtain⟨rs,c,rk⟩:=lC (P:=X.prog) (w:=X.w) rel;obtain⟨z,hd,vs0,r0,dd⟩:=CI I2.hok e;cases r0;refine⟨rs,c,dd,λh' dd' hs=>⟨.ref s.heap.objs.size,_,?_,rfl,q2⟩⟩;have hz:(lU [] kvs).length<=sizeLine:=by have h1:=ik kvs [];rw [LI] at h1;rw [Ny];lia
 have he:∃ q,h'.get? s.heap.objs.size=Io q:=let ⟨q,_,_,hq,_⟩:=dd';⟨q,hq⟩
 exact kN I2 (by rw [e];exact True.intro) hs he (xZ hz hd (rk.merge .nil) dd')
structure M1 (X:Cx) (o:JH) (m:Jb) (apos:Mn) (e:JH) (Oy:Mn):Prop where
 base:attributeBase o m X.env (eval o X.env)=eval o X.env
 xr:((backTo Oy (starEach [e] X.env)).all (λx=>!x.1) && (backToKw Oy (keywordEach [] X.env)).all (λx=>x.1.isSome)
  && decide (([e]:List JH).length+([]:List Q2).length+(if ([]:List Q2).isEmpty then 0 else 1)<30))=true
 line:(apos.endLine==Oy.line)=true
 trees:backTo Oy (starEach [e] X.env)=[(false,eval e X.env)]
structure M2 (X:Cx) (o:JH) (m:Jb) (apos:Mn) (e f:JH) (Oy:Mn):Prop where
 base:attributeBase o m X.env (eval o X.env)=eval o X.env
 xr:((backTo Oy (starEach [e,f] X.env)).all (λx=>!x.1) && (backToKw Oy (keywordEach [] X.env)).all (λx=>x.1.isSome)
  && decide (([e,f]:List JH).length+([]:List Q2).length+(if ([]:List Q2).isEmpty then 0 else 1)<30))=true
 line:(apos.endLine==Oy.line)=true
 trees:backTo Oy (starEach [e,f] X.env)=[(false,eval e X.env),(false,eval f X.env)]
def HB (H:Hp) (a:Iy):Prop:=(∃ kvs,Rd H a (.dK kvs))∨∃ kvs,Rd H a (.dT kvs)
theorem D0 {X:Cx} {pins:List (Iy × K9)} {σ:St} {H:Hp} {s:Iz} {a:Iy} (I:Inv X pins σ H s) (d:HB H a) :
  s.TypeIs (.ref a) "dict"/\(∀ b,Ji a=.ref b->∃ ob,s.heap.get? b=Io ob/\ob.dict=none)/\(a==sysModules)=false:=by
 rcases d with⟨kvs,e⟩|⟨kvs,e⟩
 ·obtain⟨_,hd,vs,_,dd⟩:=lF I.hok e;refine⟨dd.typeIs,λb q=>?_,hd⟩;cases q;obtain⟨ob,_,_,h1,h2,_⟩:=dd;exact⟨ob,h1,h2.2.1⟩
 ·obtain⟨_,hd,xs,_,dd⟩:=nA I.hok e;refine⟨dd.typeIs,λb q=>?_,hd⟩;cases q;obtain⟨ob,_,_,h1,h2,_⟩:=dd;exact⟨ob,h1,h2.2.1⟩
section
variable {X:Cx} {pins:List (Iy × K9)} {σ:St} {H:Hp} {s:Iz} {a:Iy} {y d:V} {u r:Ir} {o:Option V} {A:Jr} {E:Ir->Iz->Prop}
end
section
variable {X:Cx} {o e f:JH} {apos Oy:Mn} {td ty tx:TE}
end
section
variable {X:Cx} {pins:List (Iy × K9)} {σ:St} {H:Hp} {s:Iz} {a:Iy} {kvs:List (Key × V)} {A:Jr} {E:Ir->Iz->Prop}
end
section
variable {X:Cx} {pins:List (Iy × K9)} {σ:St} {H:Hp} {s:Iz} {a:Iy} {y:V} {u:Ir} {A:Jr} {E:Ir->Iz->Prop}
end
noncomputable def mM (l:Int) (b:Bool):HO:=.dK [(Kf "left",.int l),(Kf "free",.bl b)]
def GP (l:Int) (b:Bool):Prop:=b=true∨(0<=l/\l<2147483647)
def Up (p:Iy) (b:Bool) (H H':Hp):Prop:=∃ l,GP l b/\H'=upd H p (mM l b)
theorem xk {H:Hp} {p:Iy} {o o':HO}:upd (upd H p o) p o'=upd H p o':=by
 funext c;by_cases e:c=p
 ·subst e;rw [ag,ag]
 ·rw [ao e,ao e,ao e]
theorem Up.trans {p:Iy} {b:Bool} {H H1 H2:Hp} (h:Up p b H H1) (h':Up p b H1 H2):Up p b H H2:=by obtain⟨l,_,rfl⟩:=h;obtain⟨l',k',rfl⟩:=h';exact⟨l',k',xk⟩
theorem Up.at {p:Iy} {b:Bool} {H H1:Hp} (h:Up p b H H1):∃ l,GP l b/\H1 p=Io (mM l b):=by obtain⟨l,k,rfl⟩:=h;exact⟨l,k,ag⟩
theorem Up.ne {p q:Iy} {b:Bool} {H H1:Hp} (h:Up p b H H1) (n:q≠p):H1 q=H q:=by obtain⟨l,k,rfl⟩:=h;exact ao n
def Us (p:Iy) (b:Bool) (H H':Hp):Prop:=(∃ l,GP l b/\H' p=Io (mM l b))/\∀ q o,q≠p->H q=Io o->H' q=Io o
theorem Up.us {p:Iy} {b:Bool} {H H':Hp} (h:Up p b H H'):Us p b H H':=⟨h.at,λq o n e=>by rw [h.ne n];exact e⟩
theorem Us.trans {p:Iy} {b:Bool} {H H1 H2:Hp} (h:Us p b H H1) (h':Us p b H1 H2):Us p b H H2:=⟨h'.1,λq o n e=>h'.2 q o n (h.2 q o n e)⟩
theorem Us.free {p q:Iy} {b:Bool} {H H1:Hp} (h:Us p b H H1) (f:H1 q=none):H q=none:=by
 cases e:H q with
 | none=>rfl
 | some o =>
  by_cases n:q=p
  ·subst n;obtain⟨l,_,z⟩:=h.1;rw [z] at f;cases f
  ·rw [h.2 q o n e] at f;cases f
theorem Us.set {p q:Iy} {b:Bool} {H H1:Hp} {o:HO} (h:Us p b H H1) (f:H q=none) (n:q≠p):Us p b H (upd H1 q o):=by obtain⟨⟨l,k,e⟩,s⟩:=h;exact⟨⟨l,k,by rw [ao (JC n)];exact e⟩,λr u n er=>by rw [ao (λz=>by rw [z,f] at er;cases er)];exact s r u n er⟩
section
variable {K:Iq} {H H':Hp}
theorem bj.aN {a:Iy} {xs:List V} (k:∀ a xs,Rd H a (.tup xs)->Rd H' a (.tup xs)) (h:bj K H a xs):bj K H' a xs:=h.imp (λz=>k _ _ z) id
mutual
theorem dv.aN (k:∀ a xs,Rd H a (.tup xs)->Rd H' a (.tup xs)):∀(d:IL) {v:V},kX d=true->dv K H d v->dv K H' d v
 | .none,_,_,h=>h
 | .bool _,_,_,h=>h
 | .int _,_,_,h=>h
 | .str _,_,_,h=>h
 | .list ds,_,z,_=>by cases z
 | .tuple ds,_,z,⟨q,xs,e,h,t⟩=>⟨q,xs,e,h.aN k,aE.aN k ds z t⟩
 | .dict _,_,_,h=>h.elim
theorem aE.aN (k:∀ a xs,Rd H a (.tup xs)->Rd H' a (.tup xs)):∀(ds:List IL) {xs:List V},dP ds=true->aE K H ds xs->aE K H' ds xs
 | [],_,_,h=>h
 | d::ds,_,z,⟨x,r,e,h,t⟩=>by
  have z':kX d=true/\dP ds=true:=by simpa [dP] using z
  exact⟨x,r,e,dv.aN k d z'.1 h,aE.aN k ds z'.2 t⟩
end
theorem aE.set:∀{ds:List IL} {us:List V} (i:Nat) {d:IL} {v:V},aE K H ds us->dv K H d v->aE K H (ds.set i d) (us.set i v)
 | [],_,_,_,_,h,_=>by cases h;exact rfl
 | e::ds,_,0,_,_,⟨x,r,ex,h,t⟩,hv=>by subst ex;exact⟨_,_,rfl,hv,t⟩
 | e::ds,_,i+1,_,_,⟨x,r,ex,h,t⟩,hv=>by subst ex;exact⟨_,_,rfl,h,aE.set i t hv⟩
theorem Us.aN {p:Iy} {b:Bool} {l:Int} (h:Us p b H H') (hp:H p=Io (mM l b)):∀ a xs,Rd H a (.tup xs)->Rd H' a (.tup xs):=by
 intro a xs z;rcases z with z | ⟨o,z⟩
 ·exact .inl (h.2 _ _ (λe=>by rw [e,hp] at z;cases z) z)
 ·exact .inr ⟨o,h.2 _ _ (λe=>by rw [e,hp] at z;cases z) z⟩
theorem wb {p:Iy} {us vs:List V} (hp:H p=Io (.lst us)):∀ a xs,Rd H a (.tup xs)->Rd (upd H p (.lst vs)) a (.tup xs):=by
 intro a xs z;rcases z with z | ⟨o,z⟩
 ·exact .inl (by rw [ao (λe=>by rw [e,hp] at z;cases z)];exact z)
 ·exact .inr ⟨o,by rw [ao (λe=>by rw [e,hp] at z;cases z)];exact z⟩
end
theorem Us.ref {p:Iy} {b:Bool} {H H1:Hp} (h:Us p b H H1):∃ l,GP l b/\H1 p=Io (mM l b):=h.1
theorem zN {X:Cx} {ss:List MH}:iG X ss (λ_ _ _=>False):=by intro _ _ _ _ _ _ h;exact Kk h
theorem rO {X:Cx} {Ex:Iy->Iz->Hp->List Iy->Ir->Iz->Prop} {elt target iter:JH} {ifs:List JH} {scope:La} {pos:Mn} {N':List Jb} {js:List (Option Nat)} {cl:List (Jb × Iy)} {wi:TI} {g:TG} {tt:TT} {te:TE} {i0:Nat} {x0:Jb} {pos' pos2:Mn} (hN0:X.N.Nodup) (hi0:X.N[i0]?=Io x0) (hx0:Loc X.env.scope x0) (F':X.calm=true)
  (K:fI X N' js scope cl) (hi:PI X target iter wi)
  (hg:∀ C s₂ H₂ fp,iT X C s₂ H₂ fp->PG (bK X (Ex C s₂ H₂ fp) N' scope cl C s₂ H₂ fp) target g) (ht:∀ C s₂ H₂ fp,iT X C s₂ H₂ fp->lr (bK X (Ex C s₂ H₂ fp) N' scope cl C s₂ H₂ fp) ifs tt) (he:∀ C s₂ H₂ fp,iT X C s₂ H₂ fp->PE (bK X (Ex C s₂ H₂ fp) N' scope cl C s₂ H₂ fp) elt te)
  (herr:∀ C s₂ H₂ fp use Q' acc e s',Ex C s₂ H₂ fp e s'->notedBy (model X.prog X.w) X.A (compEnvC scope (cellsFrom (C+1) scope.names cl) C X.env) (λe s''=>compPost (model X.prog X.w) X.A X.xe use Q' acc C (.error e) s'') e s')
  (hsw:swapsWith (.ListComp elt [⟨target,iter,ifs,0⟩] scope pos) (Io (.Name x0 pos')) pos2.line X.env=pure true) (hf0:X.fn x0=true∨X.env.scope.names.lookup x0=Io .local)
  (hs:∀ x,foldedSetIterable iter X.env x=pure x:=by intro _;rfl):PS X (.Assign [.Name x0 pos'] (.ListComp elt [⟨target,iter,ifs,0⟩] scope pos) pos2) (uu (Gr js wi g tt te) (cn i0)):=by
 intro pins s σ H Dn I h;rw [exec_Assign_Name_used _ _ _ _ hsw];refine Ip (Lb (Ip ?_));unfold evalThenUse;refine Ip ?_;refine Nj (use:=Io (assign (.Name x0 pos') X.env)) rfl hs K.clos K.kind K.names (bf (hi pins s σ H _ I h) λv s1 h1=>bf h1 λitv s2 h2=>?_);obtain⟨H2,I2⟩:∃ H2,Inv X pins σ H2 s2:=by obtain⟨_,_,_,_,H2,_,I2,_⟩:=h2;exact⟨H2,I2⟩
 refine uR (Ex:=Ex) (Q:=λx H1=>cn i0 x σ H1 Dn.nx) F' K hg ht he herr h2 λC D vys H4 s5 hm hDe hDleC hDC nD nC hI qn=>?_;obtain⟨m5,hn5⟩:=hm;have le:=IJ hDe hDleC;have key:Inv X pins σ (upd H4 D (.lst vys)) s5:=hI s5.heap ⟨rfl,λ_ _=>rfl⟩;have nC':upd H4 D (.lst vys) C=none:=by rw [ao (JC hDC)];exact nC
 have CL:C≠X.env.locals:=λz=>by have:=I2.lt;rw [<- z] at this;exact Ka _ (IZ this le)
 have Cfs:C∉X.fs:=λz=>I2.Bv le z;obtain⟨oC,es,ep,gC,dC,skC,fdC⟩:=hn5;have J1:Inv X ((C,oC)::pins) σ (upd H4 D (.lst vys)) s5:=key.hZ λp hp=>by
  rcases IU.mp hp with z | z
  ·subst z;exact⟨gC,nC',CL,Cfs,λv z=>by rw [dC] at z;cases z⟩
  ·exact key.pin p (Ja _ z)
 show wpAny _ _ (assign (.Name x0 pos') X.env (.ref D)) _ _ _;refine Um ?_;refine dc J1 hN0 hi0 hx0 (show RelV (.ref D) (.ref D) from rfl) (λs6 I6=>?_) hf0;have pC:=(I6.pin (C,oC) (Ja _ (IH ..))).1;refine⟨m5,⟨oC,es,ep,pC,dC,skC,fdC⟩,λh' hsb'=>?_⟩;have I7:Inv X pins (σ.set i0 (Io (.ref D))) (upd H4 D (.lst vys)) s6:=I6.hZ λp hp=>I6.pin p (Ja _ (IG _ hp));have I8:=I7.turned (t':=s6.toks) (it:=C) (λb o hb e=>hsb'.extBut b o hb e) nC' CL (.inr (IJ I2.sz le))
  (λx c e=>by
   obtain⟨v,q⟩:=I2.cell x c e;exact Jd (IZ q.lt le))
  (λp hp=>Jd (IZ (IK (I2.pin p hp).1) le))
 exact IA (IA ⟨_,_,I8,qn⟩)
theorem eU {X:Cx} {elt target iter:JH} {ifs:List JH} {scope:La} {pos:Mn} {N':List Jb} {js:List (Option Nat)} {cl:List (Jb × Iy)} {wi:TI} {g:TG} {tt:TT} {te:TE} {i0:Nat} {x0:Jb} {pos' pos2:Mn} (hN0:X.N.Nodup) (hi0:X.N[i0]?=Io x0) (hx0:Loc X.env.scope x0) (F':X.calm=true)
  (K:fI X N' js scope cl) (hi:PI X target iter wi)
  (hg:∀ C s₂ H₂ fp,PG (c6 X N' scope cl C s₂ H₂ fp) target g) (ht:∀ C s₂ H₂ fp,lr (c6 X N' scope cl C s₂ H₂ fp) ifs tt) (he:∀ C s₂ H₂ fp,PE (c6 X N' scope cl C s₂ H₂ fp) elt te)
  (hsw:swapsWith (.ListComp elt [⟨target,iter,ifs,0⟩] scope pos) (Io (.Name x0 pos')) pos2.line X.env=pure true) (hf0:X.fn x0=true∨X.env.scope.names.lookup x0=Io .local)
  (hs:∀ x,foldedSetIterable iter X.env x=pure x:=by intro _;rfl):PS X (.Assign [.Name x0 pos'] (.ListComp elt [⟨target,iter,ifs,0⟩] scope pos) pos2) (uu (Gr js wi g tt te) (cn i0)) :=
 rO (Ex:=λ_ _ _ _ _ _=>False) hN0 hi0 hx0 F' K hi (λC s H f _=>hg C s H f) (λC s H f _=>ht C s H f) (λC s H f _=>he C s H f) (λ_ _ _ _ _ _ _ _ _ z=>z.elim) hsw hf0 hs
theorem qr (it t:Iy) (i:Nat) (items:Array Ir) (x:Ir) (hx:items[i]?=Io x):Ux (Mo.«tuple_iterator.__next__» ⟨[.ref it],[]⟩)
  (λ_ R s=>s.heap.IsTupleIter it t i/\s.heap.IsTuple t items/\∀ h',h'.IsTupleIter it t (i+1)->Ku it s.heap h'->R (.ok (.ret x)) { s with heap:=h' }) :=
 .of_wp λprog w A R s h=>by
  obtain⟨⟨o,e,c,d⟩,⟨o2,e2,c2,n2,d2⟩,q⟩:=h;have hx':items[(i:Int).toNat]?=Io x:=by simpa using hx
  wp_walk using JS (i:=0) (x:=Ji t) e d rfl,JS (i:=1) (x:=ML i 0) e d rfl,Mv e2 d2
  rw [hx'];refine Ip (Kg e d (show 1<2 by decide) ?_);obtain⟨oc,od,odt,os⟩:=o;cases c;cases d
  wp_walk
  refine⟨x,rfl,q _ ⟨_,Jx _ e rfl,rfl,?_⟩ (JV ..)⟩;show Data.fields _=_;simp [rawInt]
theorem sA (it t:Iy) (i:Nat) (items:Array Ir) (hx:items[i]?=none):Ux (Mo.«tuple_iterator.__next__» ⟨[.ref it],[]⟩)
  (λA R s=>A.handled=none/\s.heap.IsTupleIter it t i/\s.heap.IsTuple t items/\∀ h' e,Oj it s.heap h'->(∃ o,h'.get? e=Io o/\o.cls=.type "StopIteration")->R (.error (.ref e)) { s with heap:=h' }) :=
 .of_wp λprog w A R s h=>by
  obtain⟨hn,⟨o,e,c,d⟩,⟨o2,e2,c2,n2,d2⟩,q⟩:=h;have hx':items[(i:Int).toNat]?=none:=by simpa using hx
  wp_walk using JS (i:=0) (x:=Ji t) e d rfl,JS (i:=1) (x:=ML i 0) e d rfl,Mv e2 d2
  rw [hx']
  wp_walk using Kg e d (show 0<2 by decide)
  refine Q7 hn (q _ _ (λb o hb e=>Iw _ (Iw _ ((Jc _ _ (JC hb)).trans e))) ⟨_,II _ rfl,rfl⟩)
section
variable {prog:IM} {w:Jo} {A:Jr} {E:Ir->Iz->Prop} {s:Iz} {it t:Iy} {i:Nat} {items:Array Ir} {Q:Ir->Iz->Prop}
theorem kJ {x:Ir} (h1:s.heap.IsTupleIter it t i) (h2:s.heap.IsTuple t items) (hx:items[i]?=Io x) (q:∀ h',h'.IsTupleIter it t (i+1)->Ku it s.heap h'->Q x { s with heap:=h' }) :
  wpAny (model prog w) A (KN (.ref it)) Q E s:=by
 have ty:s.TypeIs (.ref it) "tuple_iterator":=by obtain⟨o,e,c,_⟩:=h1;exact⟨o,e,c⟩
 unfold KN;refine Ip (JK ty Nf (Nw Nf ty QN (Q8 _) (qr it t i items x hx) ⟨h1,h2,λh' a b=>?_⟩));exact IA (q h' a b)
theorem lV (hn:A.handled=none) (h1:s.heap.IsTupleIter it t i) (h2:s.heap.IsTuple t items) (hx:items[i]?=none) (q:∀ h' e,Oj it s.heap h'->(∃ o,h'.get? e=Io o/\o.cls=.type "StopIteration")->E (.ref e) { s with heap:=h' }) :
  wpAny (model prog w) A (KN (.ref it)) Q E s:=by
 have ty:s.TypeIs (.ref it) "tuple_iterator":=by obtain⟨o,e,c,_⟩:=h1;exact⟨o,e,c⟩
 unfold KN;exact Ip (JK ty Nf (Nw Nf ty QN (Q8 _) (sA it t i items hx) ⟨hn,h1,h2,λh' e a b=>q h' e a b⟩))
end
inductive Sd
 | l
 | t
def Sd.It:Sd->JD->Iy->Iy->Nat->Prop
 | .l=>Heap.IsListIter
 | .t=>Heap.IsTupleIter
def Sd.Sq:Sd->JD->Iy->Array Ir->Prop
 | .l=>Heap.IsList
 | .t=>Heap.IsTuple
noncomputable def Sd.io (k:Sd) (a:Iy):K9:=match k with
 | .l=>{ cls:=.type "list_iterator",data:=.fields #[.ref a,.int 0 0] }
 | .t=>{ cls:=.type "tuple_iterator",data:=.fields #[.ref a,.int 0 0] }
theorem Sd.It.at {k:Sd} {h h':JD} {it a:Iy} {i:Nat} (x:k.It h it a i) (e:∀ o,h.get? it=Io o->h'.get? it=Io o):k.It h' it a i:=by cases k<;>(obtain⟨o,e1,r⟩:=x;exact⟨o,e o e1,r⟩)
theorem Sd.It.there {k:Sd} {h:JD} {it a:Iy} {i:Nat} (x:k.It h it a i):∃ o,h.get? it=Io o/\∀ v,o.data≠.cell v:=by cases k<;>(obtain⟨o,e1,_,d⟩:=x;exact⟨o,e1,λv z=>by rw [d] at z;cases z⟩)
theorem Sd.Sq.at {k:Sd} {h h':JD} {a:Iy} {xs:Array Ir} (x:k.Sq h a xs) (e:∀ o,h.get? a=Io o->h'.get? a=Io o):k.Sq h' a xs:=by cases k<;>(obtain⟨o,e1,r⟩:=x;exact⟨o,e o e1,r⟩)
theorem Sd.Sq.lt {k:Sd} {h:JD} {a:Iy} {xs:Array Ir} (x:k.Sq h a xs):a<h.objs.size:=by cases k<;>(obtain⟨o,e1,r⟩:=x;exact IK e1)
theorem Sd.start (k:Sd) {h:JD} {it a:Iy} (e:h.get? it=Io (k.io a)):k.It h it a 0:=by cases k<;>exact⟨_,e,rfl,rfl⟩
section
variable {prog:IM} {w:Jo} {A:Jr} {E:Ir->Iz->Prop} {s:Iz} {it a:Iy} {i:Nat} {xs:Array Ir} {Q:Ir->Iz->Prop} {k:Sd}
theorem Sd.item {x:Ir} (h1:k.It s.heap it a i) (h2:k.Sq s.heap a xs) (hx:xs[i]?=Io x) (q:∀ h',k.It h' it a (i+1)->Ku it s.heap h'->Q x { s with heap:=h' }) :
  wpAny (model prog w) A (KN (.ref it)) Q E s:=by
 cases k
 ·exact wpAny_nextOf_list_item h1 h2 hx q
 ·exact kJ h1 h2 hx q
theorem Sd.fin (hn:A.handled=none) (h1:k.It s.heap it a i) (h2:k.Sq s.heap a xs) (hx:xs[i]?=none) (q:∀ h' e,Oj it s.heap h'->(∃ o,h'.get? e=Io o/\o.cls=.type "StopIteration")->E (.ref e) { s with heap:=h' }) :
  wpAny (model prog w) A (KN (.ref it)) Q E s:=by
 cases k
 ·exact wpAny_nextOf_list_end hn h1 h2 hx q
 ·exact lV hn h1 h2 hx q
theorem Sd.iter (h2:k.Sq s.heap a xs) (q:Q (.ref s.heap.objs.size) { s with heap:=s.heap.push (k.io a) }):wpAny (model prog w) A (pyIter (.ref a)) Q E s:=by
 cases k
 ·exact MP h2 q
 ·exact Rr h2 q
end
theorem Cy (k1 k2:Sd) (l1 l2:Iy) (xs ys:Array Ir):Ux (Mo.«zip.__new__» ⟨[.type "zip",.ref l1,.ref l2],[]⟩)
  (λ_ R s=>k1.Sq s.heap l1 xs/\k2.Sq s.heap l2 ys/\∀ h',SJ h' (s.heap.objs.size+4) (s.heap.objs.size+2) (s.heap.objs.size+3) .none->Ml h' (s.heap.objs.size+2) (.ref s.heap.objs.size) (.ref (s.heap.objs.size+1)) ->
   Ml h' (s.heap.objs.size+3) .none .none->k1.It h' s.heap.objs.size l1 0->k2.It h' (s.heap.objs.size+1) l2 0->(∀ c o,s.heap.get? c=Io o->h'.get? c=Io o)->R (.ok (.ret (.ref (s.heap.objs.size+4)))) { s with heap:=h' }) :=
 .of_wp λprog w A R s h=>by
  obtain⟨h1,h2,q⟩:=h;have f1:=sub_zip;have h2':k2.Sq (s.heap.push (k1.io l1)) l2 ys:=h2.at λo e=>Iw _ e
  wp_walk using Sd.iter h1,Sd.iter (s:={ s with heap:=s.heap.push (k1.io l1) }) h2'
  refine⟨_,rfl,?_⟩;have e5:((((s.heap.push (k1.io l1)).push (k2.io l2)).push { cls:=.type "tuple",data:=.seq #[.ref s.heap.objs.size,.ref (s.heap.push (k1.io l1)).objs.size] }).push { cls:=.type "tuple",data:=.seq #[.none,.none] }).objs.size=s.heap.objs.size+4:=by simp only [JL]
  have e4:(((s.heap.push (k1.io l1)).push (k2.io l2)).push { cls:=.type "tuple",data:=.seq #[.ref s.heap.objs.size,.ref (s.heap.push (k1.io l1)).objs.size] }).objs.size=s.heap.objs.size+3:=by simp only [JL]
  have e3:((s.heap.push (k1.io l1)).push (k2.io l2)).objs.size=s.heap.objs.size+2:=by simp only [JL]
  have e2:(s.heap.push (k1.io l1)).objs.size=s.heap.objs.size+1:=by simp only [JL]
  show R (.ok (.ret (.ref ((((s.heap.push (k1.io l1)).push (k2.io l2)).push { cls:=.type "tuple",data:=.seq #[.ref s.heap.objs.size,.ref (s.heap.push (k1.io l1)).objs.size] }).push { cls:=.type "tuple",data:=.seq #[.none,.none] }).objs.size))) { s with heap:=((((s.heap.push (k1.io l1)).push (k2.io l2)).push { cls:=.type "tuple",data:=.seq #[.ref s.heap.objs.size,.ref (s.heap.push (k1.io l1)).objs.size] }).push { cls:=.type "tuple",data:=.seq #[.none,.none] }).push { cls:=.type "zip",data:=.fields #[.none,.bool false,.bool false,.ref ((s.heap.push (k1.io l1)).push (k2.io l2)).objs.size,.ref (((s.heap.push (k1.io l1)).push (k2.io l2)).push { cls:=.type "tuple",data:=.seq #[.ref s.heap.objs.size,.ref (s.heap.push (k1.io l1)).objs.size] }).objs.size] } };have g0:(s.heap.push (k1.io l1)).get? s.heap.objs.size=Io (k1.io l1):=II _ (by cases k1<;>rfl);have g1:((s.heap.push (k1.io l1)).push (k2.io l2)).get? (s.heap.objs.size+1)=Io (k2.io l2):=by rw [<- e2];exact II _ (by cases k2<;>rfl)
  rw [e5,e4,e3,e2];refine q _ ?_ ?_ ?_ (k1.start (Iw _ (Iw _ (Iw _ (Iw _ g0))))) (k2.start (Iw _ (Iw _ (Iw _ g1)))) λc o e=>Iw _ (Iw _ (Iw _ (Iw _ (Iw _ e))))
  ·exact (show _=_ from by
    have:=II (((((s.heap.push (k1.io l1)).push (k2.io l2)).push { cls:=.type "tuple",data:=.seq #[.ref s.heap.objs.size,.ref (s.heap.objs.size+1)] }).push { cls:=.type "tuple",data:=.seq #[.none,.none] })) (o:={ cls:=.type "zip",data:=.fields #[.none,.bool false,.bool false,.ref (s.heap.objs.size+2),.ref (s.heap.objs.size+3)] }) rfl;simp only [JL] at this;exact this)
  ·refine Iw _ (Iw _ ?_);have:=II ((s.heap.push (k1.io l1)).push (k2.io l2)) (o:={ cls:=.type "tuple",data:=.seq #[.ref s.heap.objs.size,.ref (s.heap.objs.size+1)] }) rfl;simp only [JL] at this;exact this
  ·refine Iw _ ?_;have:=II (((s.heap.push (k1.io l1)).push (k2.io l2)).push { cls:=.type "tuple",data:=.seq #[.ref s.heap.objs.size,.ref (s.heap.objs.size+1)] }) (o:={ cls:=.type "tuple",data:=.seq #[.none,.none] }) rfl;simp only [JL] at this;exact this
theorem AH (k1 k2:Sd) (z TI TO i1 i2 l1 l2:Iy) (ap:U8 z TI TO i1 i2 l1 l2) (n1 n2:Nat) (xs ys:Array Ir) (x y a b:Ir) (hx:xs[n1]?=Io x) (hy:ys[n2]?=Io y):Ux (Mo.«zip.__next__» ⟨[.ref z],[]⟩)
  (λ_ R s=>SJ s.heap z TI TO .none/\Ml s.heap TI (.ref i1) (.ref i2)/\Ml s.heap TO a b/\k1.It s.heap i1 l1 n1/\k2.It s.heap i2 l2 n2/\k1.Sq s.heap l1 xs/\k2.Sq s.heap l2 ys /\
   ∀ h',SJ h' z TI TO (rawInt s.heap.objs.size)->Ml h' TO x y->k1.It h' i1 l1 (n1+1)->k2.It h' i2 l2 (n2+1)->Ml h' s.heap.objs.size x y ->
    (∀ c o,c≠z->c≠TO->c≠i1->c≠i2->s.heap.get? c=Io o->h'.get? c=Io o)->R (.ok (.ret (.ref s.heap.objs.size))) { s with heap:=h' }) :=
 .of_wp λprog w A R s h=>by
  obtain⟨hz,hTI,hTO,j1,j2,q1,q2,q⟩:=h
  wp_walk using JS (i:=2) (x:=Mg false) hz rfl rfl,JS (i:=3) (x:=Ji TI) hz rfl rfl,JS (i:=0) (x:=Kj) hz rfl rfl,JS (i:=4) (x:=Ji TO) hz rfl rfl,Mv hTI rfl,OW hz (show 0<5 by decide)
  intro ha za sa;have ka:∀ c o,c≠z->s.heap.get? c=Io o->ha.get? c=Io o:=λc o hc e=>(sa.2 c hc).trans e;have j1a:=j1.at (h':=ha) λo e=>ka i1 o ap.i1z e;have q1a:=q1.at (h':=ha) λo e=>ka l1 o ap.l1z e
  wp_walk using Rk,Sd.item (s:={ s with heap:=ha }) j1a q1a hx
  intro hb jb sb;have kb:∀ c o,c≠z->c≠i1->s.heap.get? c=Io o->hb.get? c=Io o:=λc o h1 h2 e=>(sb.2 c h2).trans (ka c o h1 e);have TOb:Ml hb TO a b:=kb TO _ ap.TOz ap.TOi1 hTO
  wp_walk using Mv TOb rfl,QO (s:={ s with heap:=hb }) TOb
  intro hc TOc' sc;have TOc:Ml hc TO x b:=TOc';have kc:∀ c o,c≠z->c≠i1->c≠TO->s.heap.get? c=Io o->hc.get? c=Io o:=λc o h1 h2 h3 e=>(sc.2 c h3).trans (kb c o h1 h2 e);have zc:hc.get? z=Io { cls:=.type "zip",data:=.fields #[.ellipsis,.bool false,.bool false,.ref TI,.ref TO] }:=(sc.2 z (JC ap.TOz)).trans ((sb.2 z (JC ap.i1z)).trans za);have j1c:=jb.at (h':=hc) λo e=>(sc.2 i1 (JC ap.TOi1)).trans e;have j2c:=j2.at (h':=hc) λo e=>kc i2 o ap.i2z (JC ap.i12) (JC ap.TOi2) e;have q2c:=q2.at (h':=hc) λo e=>kc l2 o ap.l2z ap.l2i1 ap.l2TO e
  wp_walk using QP,Rk,Sd.item (s:={ s with heap:=hc }) j2c q2c hy
  intro hd jd sd;have TOd:Ml hd TO x b:=(sd.2 TO ap.TOi2).trans TOc;have zd:=(sd.2 z (JC ap.i2z)).trans zc
  wp_walk using Mv TOd rfl,QO (s:={ s with heap:=hd }) TOd
  intro he TOe' se;have TOe:Ml he TO x y:=TOe';have ze:=(se.2 z (JC ap.TOz)).trans zd
  wp_walk using QP,Mv TOe rfl
  have sz:he.objs.size=s.heap.objs.size:=se.1.trans (sd.1.trans (sc.1.trans (sb.1.trans sa.1)));have zn:z≠he.objs.size:=Jd (IK ze);have zf:(he.push { cls:=.type "tuple",data:=.seq #[x,y] }).get? z=Io { cls:=.type "zip",data:=.fields #[.ellipsis,.bool false,.bool false,.ref TI,.ref TO] }:=Iw _ ze;have ke:∀ c o,c≠z->he.get? c=Io o->(((he.push { cls:=.type "tuple",data:=.seq #[x,y] }).update z (Kn λx=>x.setIfInBounds 0 (rawInt ↑he.objs.size))).update z (Kn λx=>x.setIfInBounds 1 (Mg false))).get? c=Io o:=λc o hc e=>(Jc _ _ (JC hc)).trans ((Jc _ _ (JC hc)).trans (Iw _ e));have g1:=Jx (Kn λx=>x.setIfInBounds 0 (rawInt ↑he.objs.size)) zf rfl;have g2:=Jx (Kn λx=>x.setIfInBounds 1 (Mg false)) g1 rfl;have gn:(((he.push { cls:=.type "tuple",data:=.seq #[x,y] }).update z (Kn λx=>x.setIfInBounds 0 (rawInt ↑he.objs.size))).update z (Kn λx=>x.setIfInBounds 1 (Mg false))).get? he.objs.size=Io { cls:=.type "tuple",data:=.seq #[x,y] }:=(Jc _ _ zn).trans ((Jc _ _ zn).trans (II _ rfl));refine⟨_,rfl,?_⟩;show R (.ok (.ret (.ref he.objs.size))) { s with heap:=(((he.push { cls:=.type "tuple",data:=.seq #[x,y] }).update z (Kn λx=>x.setIfInBounds 0 (rawInt ↑he.objs.size))).update z (Kn λx=>x.setIfInBounds 1 (Mg false))) };generalize (((he.push { cls:=.type "tuple",data:=.seq #[x,y] }).update z (Kn λx=>x.setIfInBounds 0 (rawInt ↑he.objs.size))).update z (Kn λx=>x.setIfInBounds 1 (Mg false)))=hf at *;rw [sz];refine q hf (by rw [<- sz];exact g2) (ke TO _ ap.TOz TOe) (j1c.at λo e=>ke i1 o ap.i1z ((se.2 i1 (JC ap.TOi1)).trans ((sd.2 i1 ap.i12).trans e))) (jd.at λo e=>ke i2 o ap.i2z ((se.2 i2 (JC ap.TOi2)).trans e)) (by rw [<- sz];exact gn) λc o h1 h2 h3 h4 e=>ke c o h1 ((se.2 c h2).trans ((sd.2 c h4).trans (kc c o h1 h3 h2 e)))
theorem AG (k1:Sd) (z TI TO i1 i2 l1:Iy) (i1z:i1≠z) (l1z:l1≠z) (n1:Nat) (xs:Array Ir) (a b:Ir) (hx:xs[n1]?=none):Ux (Mo.«zip.__next__» ⟨[.ref z],[]⟩)
  (λA R s=>A.handled=none/\SJ s.heap z TI TO .none/\Ml s.heap TI (.ref i1) (.ref i2)/\Ml s.heap TO a b/\k1.It s.heap i1 l1 n1/\k1.Sq s.heap l1 xs /\
   ∀ h' e,(∀ c o,c≠z->c≠i1->s.heap.get? c=Io o->h'.get? c=Io o)->(∃ o,h'.get? e=Io o/\o.cls=.type "StopIteration")->R (.error (.ref e)) { s with heap:=h' }) :=
 .of_wp λprog w A R s h=>by
  obtain⟨hn,hz,hTI,hTO,j1,q1,q⟩:=h
  wp_walk using JS (i:=2) (x:=Mg false) hz rfl rfl,JS (i:=3) (x:=Ji TI) hz rfl rfl,JS (i:=0) (x:=Kj) hz rfl rfl,JS (i:=4) (x:=Ji TO) hz rfl rfl,Mv hTI rfl,OW hz (show 0<5 by decide)
  intro ha za sa;have ka:∀ c o,c≠z->s.heap.get? c=Io o->ha.get? c=Io o:=λc o hc e=>(sa.2 c hc).trans e;have j1a:=j1.at (h':=ha) λo e=>ka i1 o i1z e;have q1a:=q1.at (h':=ha) λo e=>ka l1 o l1z e
  wp_walk using Rk,Sd.fin (A:=A.in1) (s:={ s with heap:=ha }) hn j1a q1a hx
  intro hb e kb oe;have zb:=kb z _ (JC i1z) za;refine OW (s:={ s with heap:=hb }) zb (show 0<5 by decide) λhc zc sc=>?_;obtain⟨o,eo,co⟩:=oe;have ez:e≠z:=λx=>by
   subst x;rw [zb] at eo;cases eo;injection co with x
   exact absurd x (by decide)
  exact q hc e (λc o h1 h2 x=>(sc.2 c h1).trans (kb c o h2 (ka c o h1 x))) ⟨o,(sc.2 e ez).trans eo,co⟩
section
variable {prog:IM} {w:Jo} {A:Jr} {E:Ir->Iz->Prop} {s:Iz}
theorem nW {it:Iy} {T id:String} {Q:Option Ir->Iz->Prop} (ty:s.TypeIs (.ref it) T) (sl:Slot T "__next__" id)
  (h:wpAny (model prog w) A (call (.builtin id) [.ref it]) (λv s'=>Q (Io v) s') (λe s'=>(∃ x o,e=.ref x/\s'.heap.get? x=Io o/\o.cls=.type "StopIteration")/\Q none s') s):wpAny (model prog w) A (pyNext (.ref it)) Q E s:=by
 unfold pyNext;refine Ip (MM (JK ty sl (Kc h (λv s' q=>IA q) λe s' q=>?_)));obtain⟨⟨x,o,rfl,eo,co⟩,q⟩:=q;refine Ip (M9 (T := "StopIteration") (b:=true) ⟨o,eo,co⟩ ?_ ?_)
 ·with_unfolding_all rfl
 ·rw [if_pos rfl];exact IA q
theorem qH {k1 k2:Sd} {l1 l2:Iy} {xs ys:Array Ir} {Q:Ir->Iz->Prop} (h1:k1.Sq s.heap l1 xs) (h2:k2.Sq s.heap l2 ys)
  (q:∀ h',SJ h' (s.heap.objs.size+4) (s.heap.objs.size+2) (s.heap.objs.size+3) .none->Ml h' (s.heap.objs.size+2) (.ref s.heap.objs.size) (.ref (s.heap.objs.size+1)) ->
   Ml h' (s.heap.objs.size+3) .none .none->k1.It h' s.heap.objs.size l1 0->k2.It h' (s.heap.objs.size+1) l2 0->(∀ c o,s.heap.get? c=Io o->h'.get? c=Io o)->Q (.ref (s.heap.objs.size+4)) { s with heap:=h' }) :
  wpAny (model prog w) A (call (.type "zip") [.ref l1,.ref l2]) Q E s :=
 callType_new F.called_zip (by decide) (F.typeCall_zip_2 _ _) (F.newCall_zip_2 _ _) (λobj=>F.args_object_init_3 _ _ _) F.entry_zip_new (Cy k1 k2 l1 l2 xs ys) ⟨h1,h2,λh' z a b c d e=>⟨⟨_,z,rfl⟩,q h' z a b c d e⟩⟩
theorem mT {k1 k2:Sd} {z TI TO i1 i2 l1 l2:Iy} {n1 n2:Nat} {xs ys:Array Ir} {x y a b:Ir} {Q:Option Ir->Iz->Prop} (ap:U8 z TI TO i1 i2 l1 l2) (hz:SJ s.heap z TI TO .none) (hTI:Ml s.heap TI (.ref i1) (.ref i2)) (hTO:Ml s.heap TO a b)
  (j1:k1.It s.heap i1 l1 n1) (j2:k2.It s.heap i2 l2 n2) (q1:k1.Sq s.heap l1 xs) (q2:k2.Sq s.heap l2 ys) (hx:xs[n1]?=Io x) (hy:ys[n2]?=Io y)
  (q:∀ h',SJ h' z TI TO (rawInt s.heap.objs.size)->Ml h' TO x y->k1.It h' i1 l1 (n1+1)->k2.It h' i2 l2 (n2+1)->Ml h' s.heap.objs.size x y ->
    (∀ c o,c≠z->c≠TO->c≠i1->c≠i2->s.heap.get? c=Io o->h'.get? c=Io o)->Q (Io (.ref s.heap.objs.size)) { s with heap:=h' }):wpAny (model prog w) A (pyNext (.ref z)) Q E s :=
 nW ⟨_,hz,rfl⟩ Ow (Nw Ow ⟨_,hz,rfl⟩ Sl (RS _) (AH k1 k2 z TI TO i1 i2 l1 l2 ap n1 n2 xs ys x y a b hx hy) ⟨hz,hTI,hTO,j1,j2,q1,q2,λh' a b c d e f=>q h' a b c d e f⟩)
theorem pG {k1:Sd} {z TI TO i1 i2 l1:Iy} {n1:Nat} {xs:Array Ir} {a b:Ir} {Q:Option Ir->Iz->Prop} (hn:A.handled=none) (i1z:i1≠z) (l1z:l1≠z) (hz:SJ s.heap z TI TO .none) (hTI:Ml s.heap TI (.ref i1) (.ref i2)) (hTO:Ml s.heap TO a b)
  (j1:k1.It s.heap i1 l1 n1) (q1:k1.Sq s.heap l1 xs) (hx:xs[n1]?=none)
  (q:∀ h',(∀ c o,c≠z->c≠i1->s.heap.get? c=Io o->h'.get? c=Io o)->Q none { s with heap:=h' }):wpAny (model prog w) A (pyNext (.ref z)) Q E s :=
 nW ⟨_,hz,rfl⟩ Ow (Nw Ow ⟨_,hz,rfl⟩ Sl (RS _) (AG k1 z TI TO i1 i2 l1 i1z l1z n1 xs a b hx) ⟨hn,hz,hTI,hTO,j1,q1,λh' e k ⟨o,eo,co⟩=>⟨⟨e,o,rfl,eo,co⟩,q h' k⟩⟩)
end
def m7 (k:Sd) (K:Iq) (H:Hp) (a:Iy) (xs:List V):Prop:=match k with
 | .l=>aJ K H a xs
 | .t=>bj K H a xs
theorem Inv.ES {X:Cx} {pins:List (Iy × K9)} {σ:St} {H:Hp} {s:Iz} {k:Sd} {a:Iy} {xs:List V} (I:Inv X pins σ H s) (h:m7 k X.K H a xs):∃ its:List Ir,Vals xs its/\k.Sq s.heap a its.toArray:=by
 cases k
 ·obtain⟨its,r,p,_⟩:=I.list h;exact⟨its,r,p.isList⟩
 ·obtain⟨its,r,p,_⟩:=I.tuple h;exact⟨its,r,p⟩
theorem Inv.vD {X:Cx} {pins:List (Iy × K9)} {σ:St} {H:Hp} {s:Iz} {k:Sd} {a:Iy} {xs ys:List V} (I:Inv X pins σ H s) (h:m7 k X.K H a xs) (h':m7 k X.K H a ys):xs=ys:=by
 cases k
 ·exact I.lQ h h'
 ·exact I.oG h h'
def E9 (k1 k2:Sd) (K:Iq) (a b:Iy):It :=
 ⟨λi H=>∃ xs ys x y,m7 k1 K H a xs/\m7 k2 K H b ys/\xs[i]?=Io x/\ys[i]?=Io y,λi H x H'=>∃ p u v,H p=none/\x=.ref p/\(∀ xs,m7 k1 K H a xs->xs[i]?=Io u)/\(∀ ys,m7 k2 K H b ys->ys[i]?=Io v)/\H'=upd H p (.tup [u,v]),
  λi H=>∃ xs,m7 k1 K H a xs/\xs.length<=i⟩
theorem sD {P:IM} {w:Jo} {K:Iq} {elts:List JH} {x1} {pos:Mn} {k1 k2:Sd} {a b z TI TO i1 i2:Iy} (ap:U8 z TI TO i1 i2 a b):Turn P w K (.Tuple elts x1 pos) (E9 k1 k2 K a b) [z,TI,TO,i1,i2] z (λi h=>SJ h z TI TO .none/\Ml h TI (.ref i1) (.ref i2)/\(∃ u v,Ml h TO u v)/\k1.It h i1 a i/\k2.It h i2 b i) where
 mem:=by simp
 obj:=λi h st c hc=>by
  obtain⟨h1,h2,⟨u,v,h3⟩,h4,h5⟩:=st;simp only [IU,Ke,or_false] at hc;rcases hc with rfl | rfl | rfl | rfl | rfl
  ·exact⟨_,h1,λv z=>by cases z⟩
  ·exact⟨_,h2,λv z=>by cases z⟩
  ·exact⟨_,h3,λv z=>by cases z⟩
  ·exact h4.there
  ·exact h5.there
 keep:=λi h h' st k=>by obtain⟨h1,h2,⟨u,v,h3⟩,h4,h5⟩:=st;exact⟨k z (by simp) _ h1,k TI (by simp) _ h2,⟨u,v,k TO (by simp) _ h3⟩,h4.at λo x=>k i1 (by simp) o x,h5.at λo x=>k i2 (by simp) o x⟩
 item:=by
  intro X hP hw hK hc i pins s σ H E I hf st hg;subst hP hw hK;obtain⟨xs,ys,x,y,hq1,hq2,hx,hy⟩:=hg;obtain⟨its1,rv1,p1⟩:=I.ES hq1;obtain⟨its2,rv2,p2⟩:=I.ES hq2;obtain⟨u,hu,ru⟩:=rv1.get hx;obtain⟨v,hv,rv⟩:=rv2.get hy;obtain⟨h1,h2,⟨u0,v0,h3⟩,h4,h5⟩:=st;refine mT ap h1 h2 h3 h4 h5 p1 p2 (x:=u) (y:=v) (by simpa using hu) (by simpa using hv) λh' z' TO' j1 j2 hT hk=>?_;refine⟨_,rfl,?_⟩;have fT:H s.heap.objs.size=none:=I.hok.fresh (IF _);refine wpAny_letOwnedTupleGo_zip z' λh'' z2 s2=>?_;have hke:∀ c o,c∉[z,TI,TO,i1,i2]->s.heap.get? c=Io o->h''.get? c=Io o:=λc o hc q=>by simp only [IU,Ke,or_false,not_or] at hc;exact (s2.2 c hc.1).trans (hk c o hc.1 hc.2.2.1 hc.2.2.2.1 hc.2.2.2.2 q)
  have I1:Inv X pins σ H { s with heap:=h'',toks:=s.toks }:=I.la hke hf;have nz:∀ c∈[z,TI,TO,i1,i2],c≠s.heap.objs.size:=λc hc e=>by
   have:∃ o,s.heap.get? c=Io o:=by
    simp only [IU,Ke,or_false] at hc;rcases hc with rfl | rfl | rfl | rfl | rfl
    ·exact⟨_,h1⟩
    ·exact⟨_,h2⟩
    ·exact⟨_,h3⟩
    ·obtain⟨o,e,_⟩:=h4.there;exact⟨o,e⟩
    ·obtain⟨o,e,_⟩:=h5.there;exact⟨o,e⟩
   obtain⟨o,eo⟩:=this;exact Jd (IK eo) e
  have hT2:h''.get? s.heap.objs.size=Io { cls:=.type "tuple",data:=.seq #[u,v] }:=(s2.2 _ (JC (nz z (by simp)))).trans hT;refine⟨.ref s.heap.objs.size,upd H s.heap.objs.size (.tup [x,y]),?_,rfl,⟨_,x,y,fT,rfl,λzs hz=>by rw [I.vD hz hq1];exact hx,λzs hz=>by rw [I.vD hz hq2];exact hy,rfl⟩,
   ⟨z2,(s2.2 TI ap.TIz).trans (hk TI _ ap.TIz ap.TITO ap.TIi1 ap.TIi2 h2),⟨_,_,(s2.2 TO ap.TOz).trans TO'⟩,j1.at λo q=>(s2.2 i1 ap.i1z).trans q,j2.at λo q=>(s2.2 i2 ap.i2z).trans q⟩,λc hc=>?_⟩
  ·exact I1.adopt (T:=s.heap.objs.size) (o:=.tup [x,y]) (I.mQ (IF _) fT) ⟨by show 2<=sizeLine;decide,[u,v],.cons ru (.cons rv .nil),⟨_,hT2,rfl,_,rfl⟩⟩
  ·rw [ao (nz c hc)];exact (hf c hc).1
 done:=by
  intro X hP hw hK hc i pins s σ H E I hf st hg;subst hP hw hK;obtain⟨xs,hq,hx⟩:=hg;obtain⟨its,rv,p⟩:=I.ES hq;have hl:=rv.length;obtain⟨h1,h2,⟨u0,v0,h3⟩,h4,h5⟩:=st;exact pG (I.ok.hd hc) ap.i1z ap.l1z h1 h2 h3 h4 p (by simp;lia) λh' eb=>⟨rfl,I.la (t':=s.toks) (ch:=[z,i1]) (λc o hc q=>by
   simp only [IU,Ke,or_false,not_or] at hc;exact eb c o hc.1 hc.2 q) (λc hc=>hf c (by
    simp only [IU,Ke,or_false] at hc;rcases hc with rfl | rfl<;>simp))⟩
 self:=λ_ _ _ _ _ st h=>PX st.1 h
def FQ (k1 k2:Sd) (K:Iq) (ta:TA):TI:=λσ H R=>ta σ H λvs H1=>∃ a b,vs=[.ref a,.ref b]/\(∃ xs,m7 k1 K H1 a xs)/\(∃ ys,m7 k2 K H1 b ys)/\R (E9 k1 k2 K a b) H1
theorem nj:bootBuiltins "zip"=Io (.type "zip"):=by decide +kernel
theorem uf {X:Cx} {elts:List JH} {x1} {tpos:Mn} {a b:JH} {ta:TA} {p pos:Mn} (k1 k2:Sd) (hg:Gl X "zip") (hm:X.mg "zip"=none) (ha:PA X [a,b] ta) (hs:starEach [a,b] X.env=[(false,eval a X.env),(false,eval b X.env)]:=by rfl) (hs2:starEach [b] X.env=[(false,eval b X.env)]:=by rfl) :
  PI X (.Tuple elts x1 tpos) (.Call (.Name "zip" p) [a,b] [] pos) (FQ k1 k2 X.K ta):=by
 intro pins s σ H R I h;refine Vo (fc I hg hm nj (Kr (bf (ha pos pins s σ H _ I h) λus s1 ⟨vs,H1,I1,r1,q1⟩=>?_) (by rw [hs,hs2]) (by rw [hs2];rfl)));obtain⟨a',b',e,⟨xs,hq1⟩,⟨ys,hq2⟩,q⟩:=q1;subst e;cases r1 with
 | cons r rr =>
  cases rr with
  | cons r' rr' =>cases rr';cases r;cases r';obtain⟨its1,rv1,p1⟩:=I1.ES hq1;obtain⟨its2,rv2,p2⟩:=I1.ES hq2;refine qH p1 p2 λh' hz hTI hTO j1 j2 hk=>?_;refine PX hz ?_;have I2:Inv X pins σ H1 { s1 with heap:=h' }:=I1.kept (t':=s1.toks) hk;refine⟨_,[s1.heap.objs.size+4,s1.heap.objs.size+2,s1.heap.objs.size+3,s1.heap.objs.size,s1.heap.objs.size+1],_,_,H1,rfl,I2,sD (O4 p1.lt p2.lt),⟨hz,hTI,⟨_,_,hTO⟩,j1,j2⟩,λc hc=>?_,q⟩;simp only [IU,Ke,or_false] at hc;rcases hc with rfl | rfl | rfl | rfl | rfl<;>exact I1.mQ (by lia) (I1.hok.fresh (by lia))
theorem jM {K:Iq} {k1 k2:Sd} {a b:Iy} {xs ys:List V} {js:List (Option Nat)} {g:TG} {tt:TT} {te:TE} {σ:St} {Q:VK} {H1:Hp} (Pv:Nat->List V->Hp->Prop) (h0:Pv 0 [] H1) (hxy:xs.length=ys.length) (hx:xs.length<=sizeLine) (hl:∀ i zs H,i<=xs.length->Pv i zs H->m7 k1 K H a xs/\m7 k2 K H b ys/\zs.length<=i)
  (hs:∀ i x y zs H p,xs[i]?=Io x->ys[i]?=Io y->Pv i zs H->H p=none->g (.ref p) (cH js σ) (upd H p (.tup [x,y])) λσ2 H2=>bE (cH js σ) σ2/\tt σ2 H2 λc H3=>if c=true then te σ2 H3 λv H4=>Pv (i+1) (zs++[v]) H4 else Pv (i+1) zs H3)
  (hd:∀ zs H p,Pv xs.length zs H->H p=none->Q (.ref p) (upd H p (.lst zs))):lh (E9 k1 k2 K a b) js g tt te σ Q H1:=by
 refine⟨λi m zs H=>m=xs.length-i/\i<=xs.length/\Pv i zs H,⟨xs.length,by simp,J4 _,h0⟩,?_⟩;rintro i m zs H ⟨rfl,hi,p⟩;obtain⟨q,q',hy⟩:=hl i zs H hi p;by_cases hlt:i<xs.length
 ·refine .inr ⟨⟨xs,ys,xs[i],ys[i],q,q',by simp [hlt],by simp⟩,by lia,Pv (i+1),λys' H' p'=>⟨xs.length-(i+1),by lia,rfl,hlt,p'⟩,λx H' y=>?_⟩;obtain⟨pt,u,v,f,e1,e2,e3,e4⟩:=y;subst e1 e4;exact hs i u v zs _ pt (e2 xs q) (e3 ys q') p f
 ·have e:i=xs.length:=by lia
  subst e;exact .inl ⟨⟨xs,q,IF _⟩,by lia,λp' hp'=>hd zs H p' p hp'⟩
end L2
namespace Num
theorem uc {p x y:Int} {m:Nat} (h:Al p x y) (o:Ord p x m):Ord p y m:=⟨o.pos,(h.pow m).symm.trans o.one,λj z=>o.dv j ((h.pow j).trans z)⟩
noncomputable def eN:List (Int × Int)->Nat
 | []=>1
 | p::r=>p.1.toNat^p.2.toNat*eN r
theorem cW:∀ a b:List (Int × Int),eN (a++b)=eN a*eN b
 | [],b=>by simp [eN]
 | p::r,b=>by show p.1.toNat^p.2.toNat*eN (r++b)=p.1.toNat^p.2.toNat*eN r*eN b;rw [cW r b,Kb]
theorem fK:∀ a:List (Int × Int),(∀ p∈a,Pm p.1)->(eN a:Int)=cM a
 | [],_=>rfl
 | p::r,h=>by have t:=(h p (IH ..)).two;show ((p.1.toNat^p.2.toNat*eN r:Nat):Int)=p.1^p.2.toNat*cM r;rw [K1,Np,fK r λx z=>h x (IG _ z),show (p.1.toNat:Int)=p.1 by lia]
theorem tw:∀ a:List (Int × Int),(∀ p∈a,Pm p.1)->0<eN a
 | [],_=>SK
 | p::r,h=>by have t:=(h p (IH ..)).two;exact Ma (Ly (by lia)) (tw r λx z=>h x (IG _ z))
theorem xQ {q m:Nat} (h:Nm q) (hm:¬q∣m) (k:Nat):Mb (q^k) m:=Oh k (h.co hm)
theorem CM {q:Int} (hq:Pm q) {b:List (Int × Int)} (hb:∀ p∈b,Pm p.1) (ne:∀ p∈b,p.1≠q):¬q.toNat∣eN b:=λz=>by
 have t:=hq.two;have:q∣cM b:=by
  rw [<- fK b hb];have:=JF.mpr z
  rwa [show (q.toNat:Int)=q by lia] at this
 obtain⟨p,hp,e⟩:=gD hq hb this;exact ne p hp e
theorem uK {b:List (Int × Int)} (hb:∀ p∈b,Pm p.1):∀ a:List (Int × Int),(∀ p∈a,Pm p.1)->(∀ x∈a,∀ y∈b,y.1≠x.1)->Mb (eN a) (eN b)
 | [],_,_=>Nat.coprime_one_left _
 | p::r,h,ne=>by have hp:=h p (IH ..);exact U9 (xQ (uU hp) (CM hp hb (ne p (IH ..))) _) (uK hb r (λx z=>h x (IG _ z)) λx z=>ne x (IG _ z))
theorem BM {n a:Int} {q t:Nat} (hq:Nm q) (h:Al n (a^q^t) 1) (no:∀ j,j<t->¬Al n (a^q^j) 1):Ord n a (q^t):=by
 have q2:=hq.1;obtain⟨m,o,_⟩:=l6 (N:=q^t) (Ly (by lia)) h;have d:=o.dv _ h;cases t with
 | zero =>have:m=1:=Nat.eq_one_of_dvd_one (by simpa using d);rw [this] at o;simpa using o
 | succ k =>
  have:m=q^(k+1):=vc hq k m d λz=>no k (LQ _) (by
   obtain⟨c,hc⟩:=z;rw [hc];exact aT o.one)
  rw [<- this];exact o
theorem bR {a:Int} {x y:Nat}:(a^x)^y=a^(x*y):=by rw [Pp]
theorem ud {n a:Int} {M1 M2 E1 E2:Nat} (co:Mb M1 M2) (p1:0<M1) (p2:0<M2) (h:Al n (a^(M1*M2)) 1) (o1:Ord n (a^M2) E1) (o2:Ord n (a^M1) E2):Ord n a (E1*E2):=by
 have d1:E1∣M1:=o1.dv M1 (by rw [bR,Ju];exact h);have d2:E2∣M2:=o2.dv M2 (by rw [bR];exact h);obtain⟨c1,hc1⟩:=d1;obtain⟨c2,hc2⟩:=d2;obtain⟨e,o,_⟩:=l6 (Ma p1 p2) h;have x1:e∣M2*E1:=o.dv _ (by rw [<- bR];exact o1.one);have x2:e∣M1*E2:=o.dv _ (by rw [<- bR];exact o2.one);have cc:Mb c2 c1:=by have:Mb c1 c2:=Ox ⟨E1,by rw [hc1,Ju]⟩ (Ol ⟨E2,by rw [hc2,Ju]⟩ co);exact this.symm
 have x3:e∣E1*E2:=by have:=SH x1 x2;rw [show M2*E1=E1*E2*c2 by rw [hc2];rw [Ju (E2*c2) E1,Kb],show M1*E2=E1*E2*c1 by rw [hc1];rw [Kb,Ju c1 E2,Kb],Nat.gcd_mul_left,cc.gcd_eq_one,Lk] at this;exact this
 have ce:Mb E1 E2:=Ox ⟨c1,hc1⟩ (Ol ⟨c2,hc2⟩ co);refine⟨Ma o1.pos o2.pos,?_,λj hj=>?_⟩
 ·obtain⟨c,hc⟩:=x3;rw [hc];exact aT o.one
 ·refine ce.mul_dvd_of_dvd_of_dvd (o1.dv j ?_) (o2.dv j ?_)
  ·rw [bR,Ju,<- bR];have:=hj.pow M2
   rwa [Pq] at this
  ·rw [bR,Ju,<- bR];have:=hj.pow M1
   rwa [Pq] at this
structure TO (n a:Int) (ps:List (Int × Int)) (ts:List Int):Prop where
 len:ts.length=ps.length
 nn:∀ t∈ts,0<=t
 ord:Ord n a (eN ((ps.map (·.1)).zip ts))
theorem TO.al {n a b:Int} {ps:List (Int × Int)} {ts:List Int} (h:TO n a ps ts) (e:Al n a b):TO n b ps ts:=⟨h.len,h.nn,uc e h.ord⟩
theorem TO.none {n a:Int} (h:Al n a 1):TO n a [] []:=⟨rfl,λ_ z=>by simp at z,⟨SK,by show Al n (a^1) 1;rw [QQ];exact h,λj _=>QM j⟩⟩
theorem TO.one {n a q k:Int} {t:Nat} (hq:Pm q) (h:Al n (a^q.toNat^t) 1) (no:∀ j,j<t->¬Al n (a^q.toNat^j) 1):TO n a [(q,k)] [(t:Int)]:=by
 refine⟨rfl,λx z=>?_,?_⟩
 ·rw [IW.mp z];lia
 ·show Ord n a (q.toNat^(t:Int).toNat*1);rw [Lk,IX];exact BM (uU hq) h no
theorem TO.two {n a:Int} {as bs:List (Int × Int)} {ts us:List Int} (ha:∀ p∈as,Pm p.1) (hb:∀ p∈bs,Pm p.1) (ne:∀ x∈as,∀ y∈bs,y.1≠x.1) (h:Al n (a^eN (as++bs)) 1) (h1:TO n (a^eN bs) as ts) (h2:TO n (a^eN as) bs us):TO n a (as++bs) (ts++us):=by refine⟨by rw [Js,Js,h1.len,h2.len],λt z=>(J0.mp z).elim (h1.nn t) (h2.nn t),?_⟩;rw [IT,List.zip_append (by rw [Iu,h1.len]),cW];rw [cW] at h;exact ud (uK hb as ha ne) (tw as ha) (tw bs hb) h h1.ord h2.ord
end Num
namespace L2
open PySem PySem.Spec PyProof.Rows
section
variable {prog:IM} {w:Jo} {A:Jr} {E:Ir->Iz->Prop} {s:Iz}
end
def GV (K:Iq) (a:Iy):It :=
 ⟨λi H=>∃ xs x,bj K H a xs/\xs[i]?=Io x,λi H x H'=>∃ p v,H p=none/\x=.ref p/\(∀ xs,bj K H a xs->xs[i]?=Io v)/\H'=upd H p (.tup [.int i,v]),λi H=>∃ xs,bj K H a xs/\xs.length<=i⟩
def DW (K:Iq) (ta:TA):TI:=λσ H R=>ta σ H λvs H1=>∃ a,vs=[.ref a]/\(∃ xs,bj K H1 a xs)/\R (GV K a) H1
def CZ (K:Iq) (ta:TA):TI:=λσ H R=>ta σ H λvs H1=>∃ a b k1 k2,vs=[.ref a,.ref b]/\(∃ xs,m7 k1 K H1 a xs)/\(∃ ys,m7 k2 K H1 b ys)/\R (E9 k1 k2 K a b) H1
theorem BR {X:Cx} {elts:List JH} {x1} {tpos:Mn} {a b:JH} {ta:TA} {p pos:Mn} (hg:Gl X "zip") (hm:X.mg "zip"=none) (ha:PA X [a,b] ta) (hs:starEach [a,b] X.env=[(false,eval a X.env),(false,eval b X.env)]:=by rfl) (hs2:starEach [b] X.env=[(false,eval b X.env)]:=by rfl) :
  PI X (.Tuple elts x1 tpos) (.Call (.Name "zip" p) [a,b] [] pos) (CZ X.K ta):=by
 intro pins s σ H R I h;refine Vo (fc I hg hm nj (Kr (bf (ha pos pins s σ H _ I h) λus s1 ⟨vs,H1,I1,r1,q1⟩=>?_) (by rw [hs,hs2]) (by rw [hs2];rfl)));obtain⟨a',b',k1,k2,e,⟨xs,hq1⟩,⟨ys,hq2⟩,q⟩:=q1;subst e;cases r1 with
 | cons r rr =>
  cases rr with
  | cons r' rr' =>cases rr';cases r;cases r';obtain⟨its1,rv1,p1⟩:=I1.ES hq1;obtain⟨its2,rv2,p2⟩:=I1.ES hq2;refine qH p1 p2 λh' hz hTI hTO j1 j2 hk=>?_;refine PX hz ?_;have I2:Inv X pins σ H1 { s1 with heap:=h' }:=I1.kept (t':=s1.toks) hk;refine⟨_,[s1.heap.objs.size+4,s1.heap.objs.size+2,s1.heap.objs.size+3,s1.heap.objs.size,s1.heap.objs.size+1],_,_,H1,rfl,I2,sD (O4 p1.lt p2.lt),⟨hz,hTI,⟨_,_,hTO⟩,j1,j2⟩,λc hc=>?_,q⟩;simp only [IU,Ke,or_false] at hc;rcases hc with rfl | rfl | rfl | rfl | rfl<;>exact I1.mQ (by lia) (I1.hok.fresh (by lia))
end L2
namespace L2
open PySem PySem.Spec PyProof.Rows PySem.W
end L2
namespace L2
open PySem PySem.Spec PyProof.Rows
end L2
namespace L2
open PySem PySem.Spec PyProof.Rows PySem.W
section
variable {prog:IM} {w:Jo} {A:Jr} {E:Ir->Iz->Prop} {K:Iq} {h:JD} {g:Array OJ} {d:Ut} {t:Nat} {os:UC} {x C B:Iy}
end
section
variable {X:Cx} {pins:List (Iy × K9)} {σ:St} {H:Hp} {s:Iz} {x:Iy}
end
section
variable {X:Cx} {B:Iy} {n:Option Nat} {hd:Ri} {ts:TS}
variable {B2:Iy} {n2:Option Nat} {hd2:Ri} {ts2:TS}
def GA (K:Iq) (B:Iy) (n:Option Nat) (B2:Iy) (n2:Option Nat) (sp:Sp) (ta:TA) (put:V->St->St) (ts ts2:TS):TS:=λD σ H=>ta σ H λvs H1=>sp vs H1 (λv H2=>D.nx (put v σ) H2)
 (λcv xo H2=>∃ C x dd,cv=.ref C/\xo=Io x/\H2 x=Io (XO x C dd)/\fg K C/\((mroIn K C (.ref B)=Io true/\ts (uN n D) (Bk n x σ) H2)∨(mroIn K C (.ref B)=Io false/\mroIn K C (.ref B2)=Io true/\ts2 (uN n2 D) (Bk n2 x σ) H2)))
variable {k:Nat} {f:Jb} {ps:List Jb} {sp:Sp} {e:JH} {es:List JH} {t:TA} {p Oy epos pos:Mn}
end
namespace HT
section
variable {prog:IM} {w:Jo} {A:Jr} {E:Ir->Iz->Prop} {s:Iz}
theorem xO {t b:Iy} {ws:List Ir} {Q:Ir->Iz->Prop} (ht:QE s.heap t ([]:List Ir).toArray) (hb:QE s.heap b ws.toArray)
  (h1:Q (.ref b) s):wpAny (model prog w) A (binaryOp .Add (.ref t) (.ref b)) Q E s:=by
 obtain⟨⟨cls,dd,data,sl⟩,ho,hc,n,hd⟩:=id ht;obtain⟨⟨cls2,dd2,data2,sl2⟩,ho2,hc2,n2,hd2⟩:=id hb;simp only at hc hd hc2 hd2;subst hc hd hc2 hd2;exact RO ⟨_,ho,rfl⟩ ⟨_,ho2,rfl⟩ PQ Rf NH Nz (Ni _ _)
   (tuple_addW0 t b ([]:List Ir).toArray ws.toArray n n2 dd dd2 sl sl2 (by simp)) ⟨ho,ho2,h1⟩
end
end HT
def F3 (K:Iq):R2:=λx y H Q=>∃ a b xs ys,x=.ref a/\y=.ref b/\bj K H a xs/\bj K H b ys/\xs.length+ys.length<=sizeLine/\∀ p H',av H H'->bj K H' p (xs++ys)->Q (.ref p) H'
theorem uY {X:Cx}:iU X (binaryOp .Add) (F3 X.K):=by
 intro pins s σ H x y v u Q I rx ry h;obtain⟨a,b,xs,ys,rfl,rfl,ha,hb,hz,q⟩:=h;by_cases e:xs=[]
 ·subst e;cases rx;cases ry;obtain⟨its,r1,p1,_⟩:=I.tuple ha;obtain⟨its2,r2,p2,_⟩:=I.tuple hb;have e1:its=[]:=r1.kW.mpr rfl;subst e1;exact HT.xO p1 p2 ⟨.ref b,H,I,rfl,q b H (av.refl _) hb⟩
 ·refine BI pins s σ H _ _ v u Q I rx ry ⟨a,b,xs,ys,rfl,rfl,ha,hb,e,hz,λz=>q a H (av.refl _) (by rw [z,L4];exact ha),λ_ p hp=>q p _ (aj hp) (bj.of ag)⟩
end L2
namespace L2
open PySem PySem.Spec PyProof.Rows PySem.W
namespace Tsl
open _root_.HT
section
variable {prog:IM} {w:Jo} {A:Jr} {E:Ir->Iz->Prop} {s:Iz}
theorem sC {t sl:Iy} {items:Array Ir} {vl vu:Ir} {lo hi:Option Int} {Q:Ir->Iz->Prop} (ht:QE s.heap t items) (hs:s.heap.IsSliceOf sl vl vu .none) (pl:OO vl lo) (pu:OO vu hi)
  (h0:cR items.size 0 lo=0) (h1:cR items.size items.size hi=items.size) (q:Q (.ref t) s):wpAny (model prog w) A (getItem (.ref t) (.ref sl)) Q E s:=by
 obtain⟨os,hos,hcs,hds⟩:=id hs;have hTs:s.TypeIs (.ref sl) "slice":=⟨os,hos,hcs⟩
 unfold getItem
 try with_reducible refine Kl ?_
 first | refine Ip (IA ?_) | skip
 refine Ip (Ph ht.typeIs (by decide) ?_);refine Ip (JK (name:=J6 "__getitem__") ht.typeIs J7 (JW J7 ht.typeIs OB ?_ (OQ _ _)));show wpAny _ _ (MX _ >>= _) _ _ _;refine Ip (Rg ht ?_);refine Ip (NI hTs ?_);rw [if_pos (by decide)];refine Ip (fG hs pl pu ?_);rw [h0,h1];dsimp only;rw [if_pos (by simp)];unfold Ts;refine Ip (Ip (NI ht.typeIs (IA ?_)));rw [if_pos (by decide)]
 first
  | exact Ip (Nu (IA ⟨_,rfl,IA q⟩))
  | (refine Ip (m:=rule _) (IA ?_);exact IA ⟨_,rfl,IA q⟩)
  | (unfold rule;wp_walk)
theorem qV {α β:Type} {f g:α->Option β}:∀{l:List α},(∀ x∈l,f x=g x)->l.filterMap f=l.filterMap g
 | [],_=>rfl
 | x::l,h=>by rw [KO,KO,h x (IH ..),qV λy hy=>h y (IG _ hy)]
theorem vP (xs:Array Ir):((Ky xs.size).filterMap fun(m:Nat)=>xs[((xs.size:Int)-1+(m:Int) * -1).toNat]?).toArray=xs.toList.reverse.toArray:=by
 rw [<- krv_pick];unfold slicePick;rw [krv_bounds];show _=((sliceRange ((xs.size:Int)-1) (-1) (-1)).filterMap (xs[·]?)).toArray;rw [krv_sliceRange,Ru];congr 1;exact qV λm hm=>by have:=JQ.mp hm;show xs[((xs.size:Int)-1+(m:Int) * -1).toNat]?=xs[xs.size-1-m]?;congr 1;lia
theorem qC (n:Nat):Kd none none (-1) (n:Int)=((n:Int)-1,-1):=by unfold Kd;simp
theorem qD (n:Nat):KD ((n:Int)-1) (-1) (-1)=n:=by unfold KD;simp;lia
theorem jy {sl:Iy} {vk:Ir} {n:Nat} {Q:Int × Int × Nat->Iz->Prop} (hs:s.heap.IsSliceOf sl .none .none vk) (pk:OO vk (Io (-1)))
  (h:Q ((n:Int)-1,-1,n) s):wpAny (model prog w) A (LV (.ref sl) (pure (n:Int))) Q E s:=by
 obtain⟨os,hos,hcs,hds⟩:=id hs;unfold LV O0;refine Ip (Ip (JS hos hds (x:=.none) rfl (Ip (JS hos hds (x:=.none) rfl (Ip (JS hos hds (x:=vk) rfl (IA ?_)))))));refine Ip (iP pk ?_);dsimp only;rw [if_neg (by decide)];refine Ip (OP (Ip (OP (Ip (IA ?_)))));show wpAny _ _ (pure ((Kd none none (-1) (n:Int)).1,(-1:Int),KD (Kd none none (-1) (n:Int)).1 (Kd none none (-1) (n:Int)).2 (-1))) _ _ s;rw [qC];dsimp only;rw [qD];exact IA h
theorem uw {t sl:Iy} {items:Array Ir} {vk:Ir} {Q:Ir->Iz->Prop} (ht:QE s.heap t items) (hs:s.heap.IsSliceOf sl .none .none vk) (pk:OO vk (Io (-1))) (hz:items.size<=sizeLine)
  (q:Q (.ref s.heap.objs.size) { s with heap:=s.heap.push { cls:=.type "tuple",data:=.seq items.toList.reverse.toArray } }):wpAny (model prog w) A (getItem (.ref t) (.ref sl)) Q E s:=by
 obtain⟨os,hos,hcs,hds⟩:=id hs;have hTs:s.TypeIs (.ref sl) "slice":=⟨os,hos,hcs⟩
 have hsz:sizeOk (.seq items.toList.reverse.toArray):=by show items.toList.reverse.toArray.size<=sizeLine;rw [IP,Lj,Jw];exact hz
 unfold getItem
 try with_reducible refine Kl ?_
 first | refine Ip (IA ?_) | skip
 refine Ip (Ph ht.typeIs (by decide) ?_);refine Ip (JK (name:=J6 "__getitem__") ht.typeIs J7 (JW J7 ht.typeIs OB ?_ (OQ _ _)));show wpAny _ _ (MX _ >>= _) _ _ _;refine Ip (Rg ht ?_);refine Ip (NI hTs ?_);rw [if_pos (by decide)];refine Ip (jy hs pk ?_);dsimp only;rw [if_neg (by simp),vP]
 first
  | exact Ip (m:=Km _) (Jt (IA ⟨_,rfl,IA q⟩) hsz)
  | exact Ip (Ip (m:=Km _) (Jt (IA (IA ⟨_,rfl,IA q⟩)) hsz))
  | exact Ip (m:=Km _) (Jt (Ip (IA (IA ⟨_,rfl,IA q⟩))) hsz)
  | exact Ip (Ip (m:=Km _) (Jt (IA ⟨_,rfl,IA q⟩) hsz))
end
end Tsl
def Ga (K:Iq):V->Option Int->Option Int->Hp->VK->Prop:=λx lo hi H Q=>∃ a xs,x=.ref a/\bj K H a xs/\∀ p H',av H H'->bj K H' p (fj xs lo hi)->Q (.ref p) H'
theorem sY {xs:List V} {lo hi:Option Int} (h0:HT.cR xs.length 0 lo=0) (h1:HT.cR xs.length xs.length hi=xs.length):fj xs lo hi=xs:=by unfold fj;rw [h0,h1];simp
theorem Cg {X:Cx}:GO X (Ga X.K):=by
 intro pins s σ H x v vl vu lo hi sl Q I rx hs pl pu h;obtain⟨a,xs,rfl,hx,q⟩:=h;by_cases hw:HT.cR xs.length 0 lo=0/\HT.cR xs.length xs.length hi=xs.length
 ·cases rx;obtain⟨its,r,ht,hz⟩:=I.tuple hx;have hlen:its.toArray.size=xs.length:=by rw [IP];exact r.length.symm
  refine⟨"tuple",_,J7.lookup,ht.typeIs,?_⟩;refine Tsl.sC ht hs pl pu (by rw [hlen];exact hw.1) (by rw [hlen];exact hw.2) ?_;exact⟨.ref a,H,I,rfl,q a H (av.refl _) (by rw [sY hw.1 hw.2];exact hx)⟩
 ·exact z5 pins s σ H _ v vl vu lo hi sl Q I rx hs pl pu ⟨a,xs,rfl,hx,hw,λp hp=>q p _ (aj hp) (bj.of ag)⟩
def Dp (K:Iq) (te:TE) (tk:TO):TE:=λσ H Q=>te σ H λx H1=>tk σ H1 λo H2=>o=Io (-1)/\∃ a xs,x=.ref a/\bj K H2 a xs/\∀ p,H2 p=none->Q (.ref p) (upd H2 p (.tup xs.reverse))
section
variable {X:Cx} {e k:JH} {te:TE} {tk:TO} {p2 pos:Mn}
theorem BP (he:PE X e te) (hk:PO X (Io k) tk)
  (hs:∀ a b:Iy,∃ ops,subscripted (.Slice none none (Io k) p2) false (.ref a) (.ref b)=operate ops (getItem (.ref a) (.ref b)):=by intro a b;exact⟨_,by with_unfolding_all rfl⟩):PE X (.Subscript e (.Slice none none (Io k) p2) pos) (Dp X.K te tk):=by
 intro pins s σ H Q I h;refine P7 (bf (he pins s σ H _ I h) λv s1 ⟨x,H1,I1,r1,q1⟩=>?_);refine Sz ?_;rw [PF];refine IA (IA ?_);refine bf (hk pins s1 σ H1 _ I1 q1) λvk s3 ⟨o,H3,I3,pk,eo,a,xs,ex,hx,q3⟩=>?_;subst eo;subst ex;cases r1;have I4:Inv X pins σ H3 { s3 with heap:=s3.heap.push { cls:=.type "slice",data:=.fields #[.none,.none,vk] } }:=I3.kept (t':=s3.toks) λb ob q=>Iw _ q;obtain⟨its,r,ht,hz⟩:=I4.tuple hx;have hlen:=r.length;show wpAny (model X.prog X.w) X.A (subscriptTail e (.Slice none none (Io k) p2) (.ref a) (.ref s3.heap.objs.size)) (EP X pins σ Q) X.xe { s3 with heap:=s3.heap.push { cls:=.type "slice",data:=.fields #[.none,.none,vk] } };obtain⟨ops,hops⟩:=hs a s3.heap.objs.size;refine UX (ops:=ops) ht.typeIs J7.lookup ?_ hops;refine Tsl.uw ht (OR ..) pk (by rw [IP]<;>lia) ?_;refine⟨.ref _,_,I4.laid (t':=s3.toks) (o:=.tup xs.reverse) (λb ob q=>Iw _ q) (IF _) ?_,rfl,q3 _ (I4.hok.fresh (IF _))⟩;exact⟨by rw [Lj];exact hz,_,r.rev,IsTup.new _ _⟩
end
end L2
namespace L2
open PySem PySem.Spec PyProof.Rows
section
variable {prog:IM} {w:Jo} {K:Type} [DecidableEq K] {knd:HeapKind prog w K} {A:Jr} {E:Ir->Iz->Prop} {s:Iz}
noncomputable def pI (xs:List (K × Iy × Ir)) (k:K):List (K × Iy × Ir):=xs.filter λx=>decide (x.1≠k)
theorem uX:∀{xs:List (K × Iy × Ir)} {k:K} {p:Iy × Ir} {j:Nat},(xs.map (·.1)).Nodup->xs[j]?=Io (k,p)->xs.eraseIdx j=pI xs k
 | [],_,_,_,_,h=>by simp at h
 | x::r,k,p,0,hn,h=>by
  have e:x=(k,p):=by simpa using h
  subst e;rw [Jz,Kx] at hn;show r=pI ((k,p)::r) k;unfold pI;rw [KA (by simp)];refine (Mp.mpr λy hy=>?_).symm;exact decide_eq_true λz=>hn.1 (IV.mpr ⟨y,hy,z⟩)
 | x::r,k,p,j+1,hn,h=>by
  have h':r[j]?=Io (k,p):=by simpa using h
  rw [Jz,Kx] at hn;have ne:x.1≠k:=λz=>hn.1 (IV.mpr ⟨(k,p),IC h',z.symm⟩);show x::r.eraseIdx j=pI (x::r) k;unfold pI;rw [KI (by simpa using ne),uX hn.2 h'];rfl
theorem xf {d a:Iy} {xs:List (K × Iy × Ir)} {k:K} {p:Iy × Ir} {Q:Option OI->Iz->Prop} (hu:knd.room A) (hkey:knd.is s.heap k a) (hm:s.heap.DictOfH knd d xs) (hp:atKey xs k=Io p) (hsz:xs.length<=sizeLine)
  (h:∀ e h',e.val=p.2->h'.DictOfH knd d (pI xs k)->Ku d s.heap h'->Q (Io e) { s with heap:=h',toks:=s.toks+knd.draws k }) :
  wpAny (model prog w) A (QR d (.ref a)) Q E s:=by
 obtain⟨o,es,ep,ho,hc,hd,he,his,hn⟩:=hm;unfold QR
 try with_reducible refine Kl ?_
 refine Ip (knd.pyHash hu hkey (Ip (wpAny_dictFind_heap (s:={ s with toks:=s.toks+knd.draws k }) hu hkey ho hd he his hn (λno=>?_) λj q hj=>?_)))
 ·rw [atKey_none_of_get no] at hp;cases hp
 have eq:q=p:=by rw [atKey_of_get hn hj] at hp;exact JZ hp
 subst eq;refine Ip (Md (s:={ s with toks:=s.toks+knd.draws k }) ho hd ?_);rw [entry_at he j,hj];have sz:=SY he;refine Ip (wpAny_updateDictKeys (hz:=by lia) (s:={ s with toks:=s.toks+knd.draws k }) ho hd (IA (h _ _ rfl ⟨_,_,ep+1,Jx _ ho (Obj.isFreed_of_dict (QS hd _)),hc.mapDictKeys _,QS hd _,?_,?_,?_⟩ (JV ..))))
 ·rw [<- uX hn hj,show (xs.eraseIdx j).map (entryOfKey knd)=(xs.map (entryOfKey knd)).eraseIdx j from by simp [Mm],<- he];obtain⟨l⟩:=es;simp
 ·intro x hx;exact knd.keeps (his x (K0.mp hx).1) ho hd (JV ..)
 ·exact List.Nodup.sublist (List.Sublist.map _ Q9) hn
theorem zJ {d a:Iy} {xs:List (K × Iy × Ir)} {k:K} {p:Iy × Ir} {Q:Ir->Iz->Prop} (hu:knd.room A.in1) (hkey:knd.is s.heap k a) (hm:s.heap.DictOfH knd d xs) (hp:atKey xs k=Io p) (hsz:xs.length<=sizeLine)
  (h:∀ h',h'.DictOfH knd d (pI xs k)->Ku d s.heap h'->Q p.2 { s with heap:=h',toks:=s.toks+knd.draws k }) :
  wpAny (model prog w) A (call (.builtin "dict.pop") [.ref d,.ref a]) Q E s:=by
 have hT:s.TypeIs (.ref d) "dict":=by obtain⟨o,es,ep,ho,hc,_⟩:=hm;exact⟨o,ho,hc.1⟩
 refine JW Qw hT PySem.F.entry_dict_pop ?_ (PySem.F.args_dict_pop_2 _ _);obtain⟨o,es,ep,ho,hc,hd,he,his,hn⟩:=id hm;unfold Mo.«dict.pop»;refine Ip ?_;unfold Tt;refine Ip (Qx hT ?_);show wpAny _ _ (pure (d,Ji a,none)) _ _ s;refine IA ?_;dsimp only;have kn:(keyPart (Ji a)).isSome=false:=rfl;have ne:es.isEmpty=false:=by
  have sz:=SY he;have:xs≠[]:=λz=>by rw [z] at hp;cases hp
  have:0<xs.length:=Ra.mpr this;rw [Array.isEmpty_eq_false_iff];intro z;rw [z] at sz;simp at sz;lia
 simp only [kn,Lr,if_false];refine Ip (Md ho hd ?_);refine Ip (IA ?_);rw [ne];simp only [Lr,if_false];refine Ip (xf hu hkey hm hp hsz λe h' ev dd hs=>?_);simp only [Option.isNone_some,Lr,if_false];exact Ip (QP (IA ⟨e.val,rfl,by rw [ev];exact h h' dd hs⟩))
end
end L2
namespace L2
open PySem PySem.Spec PyProof.Rows PySem.W
def jG (h:JD) (d:Iy) (es:Array OI) (ep:Nat):Prop:=∃ o,h.get? d=Io o/\o.ExactDict/\o.data=.dict es ep
theorem jG.eQ {h h':JD} {d:Iy} {es:Array OI} {ep:Nat} (x:jG h d es ep) (k:∀ o,h.get? d=Io o->h'.get? d=Io o):jG h' d es ep:=by obtain⟨o,a,b⟩:=x;exact⟨o,k _ a,b⟩
section
variable {P:IM} {w:Jo} {A:Jr} {E:Ir->Iz->Prop} {s:Iz} {d:Iy} {es:Array OI} {ep:Nat}
theorem jG.type (x:jG s.heap d es ep):s.TypeIs (.ref d) "dict":=by obtain⟨o,a,c,_⟩:=x;exact⟨o,a,c.1⟩
theorem yz {Q:Ir->Iz->Prop} (nd:(d==sysModules)=false) (x:jG s.heap d es ep)
  (q:Q (.ref s.heap.objs.size) { s with heap:=s.heap.push { cls:=.type "dict_keyiterator",data:=.fields #[.ref d,.int 0 0,.int es.size 0,.int ep 0] } }):wpAny (model P w) A (pyIter (.ref d)) Q E s:=by
 have t:=x.type;obtain⟨o,a,c,e⟩:=x;refine Pt t Sm (JW Sm t F.entry_dict_iter ?g (F.args_dict_iter_1 _));unfold Mo.«dict.__iter__» TV;refine Ip (Ip (Qx t (IA (α:=Ir) (a:=.ref d) ?_)));unfold UP;show wpAny _ _ ((if (d==sysModules)=true then _ else _) >>= _) _ _ s;rw [if_neg (by rw [nd];simp)];refine Ip (IA (Ip (Md a e (Ip (Qj a e ?_)))));exact Ip (Jt (IA ⟨_,rfl,"dict_keyiterator",_,⟨_,II _ rfl,rfl⟩,K2.lookup,q⟩))
theorem yM {it:Iy} {i:Nat} {x:OI} {Q:Option Ir->Iz->Prop} (ki:s.heap.IsKeyIter it d i es.size ep) (m:jG s.heap d es ep) (hx:es[i]?=Io x)
  (q:∀ h',h'.IsKeyIter it d (i+1) es.size ep->Ku it s.heap h'->Q (Io x.key) { s with heap:=h' }):wpAny (model P w) A (pyNext (.ref it)) Q E s:=by
 have t:=ki.typeIs;obtain⟨o,ho,hc,hd⟩:=id ki;obtain⟨od,a,c,e⟩:=m;unfold pyNext;refine Ip (MM (JK (name:=J6 "__next__") t K2 (JW K2 t Om ?g (N9 _))));refine Ip (IA (Ip (Ip ?_)));refine Ip (Lz t (IA (Ip (M3 ho hd ?_))));simp only [show Builtin.Dict_items.ownsTuple "dict_keyiterator"=false by decide,Lr,if_false];show wpAny _ _ (if (Ji d==Kj)=true then _ else _) _ _ s;rw [if_neg (by exact Jk)];refine Ip (IA (Ip (Md a e ?_)));rw [if_neg (by simp)];refine Ip (IA (Ip (Qj a e ?_)));rw [if_neg (by simp)];refine IA ?_;simp only [show ¬((i:Int)<0) from by lia,if_false,IX,hx];refine Ip (Ip (Lz t (IA (Ip (Qy t ?_)))));show wpAny _ _ (setField (.ref it) 1 (rawInt ((i:Int)+1)) >>= _) _ _ s;refine Ip (Kg ho hd (by simp) ?_);have ki':(s.heap.update it (Kn (·.setIfInBounds 1 (rawInt ((i:Int)+1))))).IsKeyIter it d (i+1) es.size ep :=
  ⟨_,Jx _ ho (Ln (Ko hd _)),(Pu ..).trans hc,by rw [Ko hd];simp [rawInt]⟩
 refine Ip (Kl (Ip (Qy (s:={ s with heap:=s.heap.update it (Kn (·.setIfInBounds 1 (rawInt ((i:Int)+1)))) }) ki'.typeIs ?_)));show wpAny _ _ (pure x.key) _ _ _;exact IA (IA ⟨_,rfl,IA (q _ ki' (JV ..))⟩)
theorem Ba {it:Iy} {i:Nat} {Q:Option Ir->Iz->Prop} (hh:A.handled=none) (ki:s.heap.IsKeyIter it d i es.size ep) (m:jG s.heap d es ep) (hx:es[i]?=none)
  (q:∀ h',Oj it s.heap h'->Q none { s with heap:=h' }):wpAny (model P w) A (pyNext (.ref it)) Q E s:=by
 have t:=ki.typeIs;obtain⟨o,ho,hc,hd⟩:=id ki;obtain⟨od,a,c,e⟩:=m;unfold pyNext;refine Ip (MM (JK (name:=J6 "__next__") t K2 (JW K2 t Om ?g (N9 _))));refine Ip (IA (Ip (Ip ?_)));refine Ip (Lz t (IA (Ip (M3 ho hd ?_))));simp only [show Builtin.Dict_items.ownsTuple "dict_keyiterator"=false by decide,Lr,if_false];show wpAny _ _ (if (Ji d==Kj)=true then _ else _) _ _ s;rw [if_neg (by exact Jk)];refine Ip (IA (Ip (Md a e ?_)));rw [if_neg (by simp)];refine Ip (IA (Ip (Qj a e ?_)));rw [if_neg (by simp)];refine IA ?_;simp only [show ¬((i:Int)<0) from by lia,if_false,IX,hx];refine Ip (Ip (Lz t (IA ?_)));show wpAny _ _ (setField (.ref it) 0 .none >>= _) _ _ s;refine Ip (Kg ho hd (by simp) ?_);show wpAny _ _ (UH (.type "StopIteration") [] >>= _) _ _ _;refine Ip ?_;simp only [UH,newTuple];refine Ip (Jt (Ip (m:=firstArgMember _ _) (Pk (a:=Kj) (by first | rfl | (simp only [firstArgMember];rfl)) (Jt ?_ (by size_fits)))) (by size_fits));simp only [raiseNew];refine Ip (Rl ?_);rw [show A.in1.handled=none from hh];refine Ip (IA (QT ?th));refine Ip (M9 (b:=true) (T := "StopIteration") ⟨_,II _ rfl,rfl⟩ QU ?_);exact IA (q _ (((JV ..).extBut.push _).push _))
theorem vX (hh:A.handled=none) (I:Iy) (hne:d≠I):Walks P w A I [I,d] [I] es.size (λi v=>∃ x,es[i]?=Io x/\v=x.key) (λi h=>h.IsKeyIter I d i es.size ep/\jG h d es ep) where
 sub:=λb hb=>by simp at hb;simp [hb]
 frame:=λ_ _ _ st k=>⟨st.1.at λo e=>k I (by simp) o e,st.2.eQ λo e=>k d (by simp) o e⟩
 item:=λi s Q E hi st q=>by refine yM st.1 st.2 (IS hi) λh' ki hs=>?_;exact q _ h' s.toks ⟨_,IS hi,rfl⟩ ⟨ki,st.2.eQ λo e=>hs.extBut d o hne e⟩ λb o hb e=>hs.extBut b o (λz=>hb (by simp [z])) e
 done:=λs Q E st q=>Ba hh st.1 st.2 (by simp) λh' k=>q h' s.toks λb o hb e=>k b o (λz=>hb (by simp [z])) e
 self:=λ_ _ _ _ st q=>wpAny_pyIter_keyiter st.1 q
theorem tE {h:JD} (x:jG h d es ep):d<h.objs.size:=by obtain⟨o,a,_⟩:=x;exact IK a
theorem Bc (nd:(d==sysModules)=false):KdlSrc P w "dict" d d es.size (λi v=>∃ x,es[i]?=Io x/\v=x.key) (λh=>jG h d es ep) where
 type:=λ_ x=>x.type
 there:=λ_ x=>⟨tE x,tE x⟩
 keep:=λ_ _ x k=>x.eQ λo e=>k d (.inl rfl) o e
 notList:=by decide
 notTuple:=by decide
 hint:=λ_ _ _ _ x q=>kdl_hint_dict x.type q
 iter:=λ_ _ hh x=>⟨_,_,(λ_ _ q=>yz nd x q),vX hh _ (Jd (tE x)),⟨⟨_,II _ rfl,rfl,rfl⟩,x.eQ λo e=>Iw _ e⟩⟩
end
section
variable {X:Cx} {pins:List (Iy × K9)} {σ:St} {H:Hp} {s:Iz} {A:Jr} {E:Ir->Iz->Prop}
theorem x5 {a:Iy} {kvs:List (List Key × V)} (I:Inv X pins σ H s) (e:H a=Io (.dT kvs)):kvs.length<=sizeLine/\(a==sysModules)=false/\∃ es ep,jG s.heap a es ep/\es.size=kvs.length/\∀(i:Nat) x,es[i]?=Io x->∃ k v b,kvs[i]?=Io (k,v)/\x.key=.ref b/\H b=Io (.tup (k.map kV)):=by
 obtain⟨z,y,xs,r,o,es,ep,h1,h2,h3,h4,h5⟩:=(show bG X.prog X.w H s.heap a (.dT kvs) from I.hok a _ e)
 have l1:kvs.length=xs.length:=Nh r;have l2:es.size=xs.length:=by rw [<- Jw,h4,Iu]
 refine⟨z,y,es,ep,⟨o,h1,h2,h3⟩,by lia,λi x hx=>?_⟩;have hx':(xs.map (entryOfKey (tupleKind (bP X.prog X.w))))[i]?=Io x:=by rw [<- h4,Lm];exact hx
 rw [ID] at hx';obtain⟨y0,e1,e2⟩:=IE.mp hx';have hg:∀{l:List (List Key × V)} {m:List (List Key × Iy × Ir)} (i:Nat),Rq (fun(p:List Key × V) (q:List Key × Iy × Ir)=>p.1=q.1/\H q.2.1=Io (.tup (p.1.map kV))/\RelV p.2 q.2.2) l m->∀ y,m[i]?=Io y->∃ p,l[i]?=Io p/\H y.2.1=Io (.tup (p.1.map kV)):=by
  intro l m i q
  induction q generalizing i with
  | nil=>intro y z;simp at z
  | cons a t ih =>
   intro y z;cases i with
   | zero=>simp at z;subst z;exact⟨_,rfl,a.2.1⟩
   | succ i=>exact ih i y (by simpa using z)
 obtain⟨p,e3,e4⟩:=hg i r y0 e1;exact⟨p.1,p.2,y0.2.1,e3,by rw [<- e2];rfl,e4⟩
def EK:List V->Hp->VK->Prop:=λxs H Q=>∃(a:Iy) (kvs:List (List Key × V)),xs=[.ref a]/\H a=Io (.dT kvs)/\∀(p:Iy) (bs:List Iy),bs.length=kvs.length->(∀(i:Nat) b,bs[i]?=Io b->∃ k v,kvs[i]?=Io (k,v)/\H b=Io (.tup (k.map kV)))->H p=none->Q (.ref p) (upd H p (.lst (bs.map V.ref)))
theorem vh {Pr:Nat->Iy->Prop}:∀(vs:List Ir),(∀(i:Nat) v,vs[i]?=Io v->∃ b,v=.ref b/\Pr i b)->∃ bs:List Iy,bs.length=vs.length/\Vals (bs.map V.ref) vs/\∀(i:Nat) b,bs[i]?=Io b->Pr i b
 | [],_=>⟨[],rfl,.nil,λi b z=>by simp at z⟩
 | v::vs,h=>by
  obtain⟨b,e,pb⟩:=h 0 v rfl;obtain⟨bs,l,r,q⟩:=vh (Pr:=λi=>Pr (i+1)) vs λi u z=>h (i+1) u (by simpa using z);subst e;refine⟨b::bs,by simp [l],.cons rfl r,λi c z=>?_⟩;cases i with
  | zero=>simp at z;subst z;exact pb
  | succ i=>exact q i c (by simpa using z)
theorem sS (hc:X.calm=true):dQ X (.type "list") EK:=by
 intro pins s σ H xs us Q I r h;obtain⟨a,kvs,rfl,ha,q⟩:=h;obtain⟨u,rfl,ru⟩:=vals1 r;cases ru;obtain⟨z,nd,es,ep,de,sz,ent⟩:=x5 I ha;refine kdl_call (Bc (P:=X.prog) (w:=X.w) (es:=es) (ep:=ep) nd) (I.ok.hd hc) de (by lia) λh' tk acc c k hD hacc=>?_;obtain⟨bs,l,rv,qb⟩:=vh (Pr:=λi b=>∃ k v,kvs[i]?=Io (k,v)/\H b=Io (.tup (k.map kV))) acc.toList λi v e=>by obtain⟨x,e1,e2⟩:=hacc.2 i v (by rw [<- Lm];exact e);obtain⟨kk,vv,b,e3,e4,e5⟩:=ent i x e1;exact⟨b,by rw [e2,e4],kk,vv,e3,e5⟩
 have al:acc.toList.length=kvs.length:=by rw [Jw,hacc.1,sz]
 have fT:H s.heap.objs.size=none:=I.hok.fresh (IF _);refine⟨.ref s.heap.objs.size,upd H s.heap.objs.size (.lst (bs.map V.ref)),?_,rfl,q _ bs (by lia) qb fT⟩;exact I.laid k (IF _) ⟨by rw [Iu];lia,acc.toList,c,rv,by rw [hD]⟩
def zR:List V->Hp->VK->Prop:=λxs H Q=>∃(a:Iy) (n:Nat),xs=[.ref a]/\((∃ kvs,H a=Io (.dT kvs)/\n=kvs.length)∨∃ kvs,H a=Io (.dK kvs)/\n=kvs.length)/\Q (.int n) H
theorem Bo {d:Iy} {es:Array OI} {ep:Nat} {P:IM} {w:Jo} {Q:Ir->Iz->Prop} (nd:(d==sysModules)=false) (x:jG s.heap d es ep) (fit:es.size<=sizeLine)
  (q:Q (.int es.size (s.toks+1)) { s with toks:=s.toks+1+1 }):wpAny (model P w) A (call (.builtin "len") [.ref d]) Q E s:=by
 have f63:(es.size:Int)<2^63:=by rw [Ny] at fit;lia
 refine Pa kind_len plain_len entry_len (args_len1 _) ?_;have t:=x.type;obtain⟨o,a,c,e⟩:=x;unfold Mo.«len»;refine Ip (m:=oneArg "len" _) (IA (Ip (m:=callSpecial? (.ref d) (J6 "__len__")) (JK (name:=J6 "__len__") t S0 (JW S0 t F.entry_dict_len ?g (F.args_dict_len_1 _)))));show wpAny _ _ (dictSize d >>= _) _ _ s;unfold dictSize;refine Ip (Ip (Md a e (IA ?_)));show wpAny _ _ (TX d >>= _) _ _ s;refine Ip (wpAny_pendingCount_other nd (wpAny_ret_mkInt ?_));simp only [show ((es.size:Int)+((0:Nat):Int))=(es.size:Int) from NL _];refine Ip (Kl (IA (Ip (QP ?_))));show wpAny _ _ (if ((es.size:Nat):Int)<0 then _ else _) _ _ _;rw [if_neg (by lia)];show wpAny _ _ (if ((es.size:Nat):Int)≥2^63 then _ else _) _ _ _;rw [if_neg (by lia)];exact Ip (wpAny_mkInt (IA ⟨_,rfl,q⟩))
theorem dk:dQ X (.builtin "len") zR:=by
 intro pins s σ H xs us Q I r h;obtain⟨a,n,rfl,ha,q⟩:=h;obtain⟨u,rfl,ru⟩:=vals1 r;cases ru;rcases ha with⟨kvs,ha,rfl⟩|⟨kvs,ha,rfl⟩
 ·obtain⟨z,nd,es,ep,de,sz,_⟩:=x5 I ha;exact Bo nd de (by lia) ⟨.int kvs.length,H,I.tok _,⟨_,by rw [sz]⟩,q⟩
 ·exact FH I (.inl ha) λt s' I'=>⟨.int kvs.length,H,I',⟨t,rfl⟩,q⟩
def Am (td ty:TE):TE:=λσ H Q=>td σ H λx H1=>∃ a,x=.ref a/\HB H1 a/\ty σ H1 λy H2=>∃ kvs k b v,H2 a=Io (.dT kvs)/\y=.ref b/\H2 b=Io (.tup (k.map kV))/\cz kvs k=Io v/\Q v (upd H2 a (.dT (bX kvs k)))
theorem KT.off {kvs:List (List Key × V)} {xs:List (List Key × Iy × Ir)} (r:KT H kvs xs) (k:List Key):KT H (bX kvs k) (pI xs k):=by
 induction r with
 | nil=>exact .nil
 | @cons p q ps qs hq t ih =>
  unfold bX pI;by_cases c:p.1=k
  ·rw [KA (by simpa using c),KA (by simpa using hq.1▸c)];exact ih
  ·rw [KI (by simpa using c),KI (by simpa using hq.1▸c)];exact .cons hq ih
theorem rM {o e:JH} {apos Oy:Mn} {td ty:TE} (hu:X.A.units+1<cLine) (ho:PE X o td) (he:PE X e ty) (m:M1 X o "pop" apos e Oy):PE X (.Call (.Attribute o "pop" apos) [e] [] Oy) (Am td ty):=by
 intro pins s σ H Q I h;refine wpAny_Call_method m.base m.xr m.line PySem.F.plainAttrs_dict Qw PySem.F.type_dict_pop (bf (ho pins s σ H _ I h) λu s1 ⟨x,H1,I1,rx,a,ex,d,q1⟩=>?_);subst ex;obtain rfl:u=Ji a:=rx;obtain⟨t1,t2,_⟩:=D0 I1 d;refine⟨t1,t2,?_⟩;rw [m.trees];refine P9 rfl (QJ (ON (bf (he pins s1 σ H1 _ I1 q1) λiv s2 ⟨y,H2,I2,ry,kvs,k,b,v,ea,ey,eb,l,q2⟩=>Pg ?_)));subst ey;obtain rfl:iv=Ji b:=ry;obtain⟨z,nd,xs,rel,dd⟩:=CK I2.hok ea;obtain⟨w',hw,rw'⟩:=ff.some_of (v:=v) (by rw [<- l];exact rel.val k);obtain⟨p,hp,ep⟩:=IE.mp hw;have lx:kvs.length=xs.length:=Nh rel;refine zJ (MF hu) (jS I2.hok eb) dd hp (by lia) λh' dd' hs=>?_;rw [ep];obtain⟨o1,es,ep1,g1,g2,g3,g4,g5,g6⟩:=dd';have ht:∀ c ys,H2 c=Io (.tup ys)->upd H2 a (.dT (bX kvs k)) c=Io (.tup ys):=λc ys e=>by rw [ao (bI e ea (by intro z;cases z))];exact e
 exact⟨v,upd H2 a (.dT (bX kvs k)),kN (ob:=.dT (bX kvs k)) I2 (by rw [ea];exact True.intro) hs ⟨_,g1⟩ ⟨IJ (qO kvs k) z,nd,_,(KT.off rel k).keeps ht,o1,es,ep1,g1,g2,g3,g4,g6⟩,rw',q2⟩
def F6 (K:Iq):List V->Hp->VK->Prop:=λxs H Q=>∃(a:Iy) (ns:List Int),xs=[.ref a]/\aJ K H a (ns.map V.int)/\ns≠[]/\∀ m,m∈ns->(∀ n∈ns,n<=m)->Q (.int m) H
theorem nB:∀{ns:List Int} {us:List Ir},Vals (ns.map V.int) us->NJ us ns
 | [],_,.nil=>.nil
 | n::ns,_,.cons ⟨t,e⟩ r=>by subst e;exact .cons _ t (nB r)
theorem nk (hc:X.calm=true):dQ X (.builtin "max") (F6 X.K):=by
 intro pins s σ H xs us Q I r h;obtain⟨a,ns,rfl,hq,ne,q⟩:=h;obtain⟨u,rfl,ru⟩:=vals1 r;cases ru;obtain⟨its,rv,p,hz⟩:=I.list hq;have hi:=nB rv;have hl:=p.isList;obtain⟨ys,e⟩:=hi.allInts.items;have hns:ns=ys.toList.map (·.1):=by rw [<- hi.numsOf,<- nums_intItems,<- e]
 have hl0:0<ns.length:=Ra.mpr ne;have hsz:0<ys.size:=by rw [hns,Iu,Jw] at hl0;exact hl0
 rw [e] at hl;refine max_intList (I.ok.hd hc) hl hsz λv h' tk hv hk=>?_;obtain⟨t,rfl⟩:=intItems_at hv;obtain⟨b1,b2⟩:=argBest_gt (numAt ys) (ys.size-1);refine⟨.int _,H,I.kept hk,⟨t,rfl⟩,q _ ?_ λn hn=>?_⟩
 ·rw [hns,numAt_eq];exact getD_mem (by rw [Iu,Jw];lia)
 ·rw [hns] at hn;obtain⟨j,hj,rfl⟩:=mem_getD hn;rw [Iu,Jw] at hj;rw [<- numAt_eq];exact b2 j (by lia)
end
section
variable {P:IM} {w:Jo} {K:Iq} {mg:Jb->Option Ir} {base:JD} {CX:kM} {k:Nat} {C:Iy} {m qual x:Jb} {ps:List Jb} {sp:Sp} {st:MH}
def CC (K:Iq) (C:Iy) (m qual:Jb) (st:MH):Prop:=∃ f fd,Meth K C m f/\xB K m qual st f fd
structure bw (P:IM) (w:Jo) (K:Iq) (mg:Jb->Option Ir) (base:JD) (CX:kM) (k:Nat) (C:Iy) (m:Jb) (ps:List Jb) (sp:Sp):Prop where
 ex:∃ f fd,Meth K C m f/\cY P w K mg base CX k f fd ps sp/\Binds K fd ps []
theorem Ed {f:Iy} {oc:Ir} {od an:Option Iy} {osl:Array (Option Ir)} {kV doc pm cdv ct:Ir} (a:findIn K (.ref C) m=Io (Io (.ref f))) (fn:isFn K (.ref f)=true) (kk:keepIn K (.ref f)=true)
  (l:K.lookup f=Io ⟨oc,od,.func (fnOf m qual (bo st) (aL st) (ak st) .none kV doc pm an cdv ct),osl⟩) (c:codeIn K cdv qual=true):CC K C m qual st:=⟨f,_,⟨a,fn,kk⟩,tI l c kk⟩
theorem eA {N:List Jb} (D:CC K C m qual st)
  (hb:∀(kV doc pm:Ir) (an:Option Iy) (cdv ct:Ir) (us:List Ir),us.length=ps.length->bindArgs (fnOf m qual (bo st) (aL st) (ak st) .none kV doc pm an cdv ct) ⟨us,[]⟩=pure (ps.zip us))
  (S:aw N ps (ak st)) (len:∀ vs H Q E,sp vs H Q E->vs.length=ps.length)
  (J':∀(f:Iy) (cdv:Ir) (A:Jr) (outer:List NS) (s:Iz) (H:Hp) (vs:List V) (Q:VK) (E:XK),bW k (A.deeper (envOfC qual (ak st) s.heap.objs.size f cdv))->sp vs H Q E ->
   ∃ t,iG (dy aQ P w K mg base N qual (ak st) f cdv A outer s H E).lY (aL st) t/\t { nx:=λ_ H'=>Q .non H',rt:=Q } (start N vs) H):bw P w K mg base aQ (k+1) C m ps sp:=by
 obtain⟨f,fd,M,F⟩:=D;exact⟨f,fd,M,F.ok S len λcdv A outer s H vs Q E hr h=>J' f cdv A outer s H vs Q E hr h,F.binds hb⟩
theorem bw.imp {sp':Sp} (D:bw P w K mg base CX k C m ps sp) (h:∀ vs H Q E,sp' vs H Q E->sp vs H Q E):bw P w K mg base CX k C m ps sp':=by obtain⟨f,fd,M,F,b⟩:=D.ex;exact⟨f,fd,M,F.imp h,b⟩
structure DA (K:Iq) (mg:Jb->Option Ir) (x:Jb) (C:Iy):Prop where
 cls:mK K C
 at_:mg x=Io (.ref C)
 mkn:makesIn K C=true
 kp:keepIn K (.ref C)=true
theorem Eh (a:mg x=Io (.ref C)) (p1:plainGet K C Uv=true) (p2:hasDictIn K C=true) (p3:plainOver K C=true) (p4:findIn K (.ref C) "__setattr__"=Io (Io (.builtin "object.__setattr__"))) (p5:makesIn K C=true) (p6:keepIn K (.ref C)=true):DA K mg x C:=⟨⟨p1,p2,p3,p4⟩,a,p5,p6⟩
theorem lS {f:Iy} {oc:Ir} {od an:Option Iy} {osl:Array (Option Ir)} {kV doc pm cdv ct:Ir} (_:DA K mg x C) (a:findIn K (.ref C) m=Io (Io (.ref f))) (fn:isFn K (.ref f)=true) (kk:keepIn K (.ref f)=true)
  (l:K.lookup f=Io ⟨oc,od,.func (fnOf m qual (bo st) (aL st) (ak st) .none kV doc pm an cdv ct),osl⟩) (c:codeIn K cdv qual=true):CC K C m qual st:=Ed a fn kk l c
theorem pH {f:Jb} (_:DA K mg x C) (a:findIn K (.ref C) f=Io none):cJ K C f:=a
variable {X:Cx} {E:XK} {o e:JH} {es:List JH} {ta:TE} {t:TA} {p apos pos:Mn}
theorem l8 {pl:TZ Bool} (D:bw X.prog X.w X.K X.mg X.base CX k C m ps sp) (c:mK X.K C) (hr:bW k X.A) (hx:Passes CX X E) (he:PE X o ta) (ha:PA X (e::es) t)
  (hst:starEach (e::es) X.env=(false,eval e X.env)::starEach es X.env:=by rfl) (hpl:(backTo pos (starEach es X.env)).any (·.1)=false:=by rfl)
  (ht:eval (.Call (.Attribute o m apos) (e::es) [] pos) X.env=(do
   let ov <- eval o X.env
   standAt apos.atName
   let (f,first) <- holding [ov] (getMethod ov m pl)
   callWith pos f first (backTo pos (starEach (e::es) X.env)) (backToKw pos (keywordEach [] X.env))):=by rfl) :
  PE X (.Call (.Attribute o m apos) (e::es) [] pos) (sx C m sp [] E ta t):=by
 obtain⟨f,fd,M,F,b⟩:=D.ex;exact BO he c M F hr b .nil hx ha hst hpl ht
theorem hJ {pl:TZ Bool} (D:bw X.prog X.w X.K X.mg X.base CX k C m ps sp) (c:mK X.K C) (hr:bW k X.A) (hx:Passes CX X E) (he:PE X o ta)
  (ht:eval (.Call (.Attribute o m apos) [] [] pos) X.env=(do
   let ov <- eval o X.env
   standAt apos.atName
   let (f,first) <- holding [ov] (getMethod ov m pl)
   callWith pos f first (backTo pos (starEach [] X.env)) (backToKw pos (keywordEach [] X.env))):=by rfl) :
  PE X (.Call (.Attribute o m apos) [] [] pos) (sx C m sp [] E ta Ao):=by
 obtain⟨f,fd,M,F,b⟩:=D.ex;exact zD he c M F hr b .nil hx ht
theorem rN (c:DA X.K X.mg x C) (D:bw X.prog X.w X.K X.mg X.base CX k C "__init__" ps sp) (hr:bW (k+1) X.A) (hg:Gl X x) (hx:Passes CX X E) (ha:PA X (e::es) t) (hdb:(x==("__debug__":Jb))=false:=by decide)
  (he:starEach (e::es) X.env=(false,eval e X.env)::starEach es X.env:=by rfl) (hpl:(backTo pos (starEach es X.env)).any (·.1)=false:=by rfl):PE X (.Call (.Name x p) (e::es) [] pos) (An C sp [] E t):=by
 obtain⟨f,fd,M,F,b⟩:=D.ex;exact BN ⟨c.mkn,M.at_,M.fn,c.kp⟩ F hr hg c.at_ b .nil hx ha hdb he hpl
structure Dw (K:Iq) (x qual:Jb) (st:MH) (f:Iy) (fd:KW) (ds:Array Ir):Prop where
 ex:∃(oc:Ir) (od:Option Iy) (T:Iy) (o:K9) (n:Nat) (kV doc pm:Ir) (an:Option Iy) (cdv ct:Ir) (osl:Array (Option Ir)),
  fd=fnOf x qual (bo st) (aL st) (ak st) (.ref T) kV doc pm an cdv ct/\K.lookup f=Io ⟨oc,od,.func fd,osl⟩/\codeIn K cdv qual=true/\K.lookup T=Io o/\o.data=.seq ds n
 kp:keepIn K (.ref f)=true
def jH (K:Iq) (mg:Jb->Option Ir) (x:Jb) (st:MH) (ds:Array Ir):Prop:=∃ f fd,Dw K x x st f fd ds/\mg x=Io (.ref f)
theorem nr {h:JD} {f T:Iy} {ds:Array Ir} {o:K9} {n:Nat} {oc:Ir} {od an:Option Iy} {osl:Array (Option Ir)} {kV doc pm cdv ct:Ir} (X:K.In h) (G:h.Ns mainGlobals mg)
  (a:nsIn K mainGlobals x=Io (Io (.ref f))) (l:K.lookup f=Io ⟨oc,od,.func (fnOf x x (bo st) (aL st) (ak st) (.ref T) kV doc pm an cdv ct),osl⟩)
  (c:codeIn K cdv x=true) (kk:keepIn K (.ref f)=true) (lT:K.lookup T=Io o) (e:o.data=.seq ds n):jH K mg x st ds:=⟨f,_,⟨⟨oc,od,T,o,n,kV,doc,pm,an,cdv,ct,osl,rfl,l,c,lT,e⟩,kk⟩,mg_of X G a⟩
structure fH (P:IM) (w:Jo) (K:Iq) (mg:Jb->Option Ir) (base:JD) (CX:kM) (k:Nat) (x:Jb) (ps:List Jb) (ds:List Ir) (sp:Sp):Prop where
 ex:∃ f fd,cY P w K mg base CX k f fd ps sp/\mg x=Io (.ref f)/\keepIn K (.ref f)=true/\Binds K fd ps []/\Binds K fd ps ds
theorem Dw.binds {f:Iy} {fd:KW} {ds:Array Ir} {dv:List Ir} (F:Dw K x qual st f fd ds)
  (h:∀(T:Iy) (kV doc pm:Ir) (an:Option Iy) (cdv ct:Ir) (us:List Ir),(us++dv).length=ps.length->∃ j,bindArgs (fnOf x qual (bo st) (aL st) (ak st) (.ref T) kV doc pm an cdv ct) ⟨us,[]⟩=seqItems? (.ref T) >>= j/\j (Io ds)=pure (ps.zip (us++dv))):Binds K fd ps dv:=by
 obtain⟨oc,od,T,o,n,kV,doc,pm,an,cdv,ct,osl,rfl,lk,hcd,lT,e⟩:=F.ex;intro s us X hl;obtain⟨j,h1,h2⟩:=h T kV doc pm an cdv ct us hl;exact BindsTo.of_defaults rfl (X _ _ lT) e h1 h2
theorem fH.callee {ds:List Ir} (D:fH P w K mg base CX k x ps ds sp):Callee P w K mg base CX k x ps sp:=by obtain⟨f,fd,F,a,b,c,_⟩:=D.ex;exact⟨f,fd,F,a,b,c⟩
theorem zA {ds:List Ir} {aE:List V} (D:fH X.prog X.w X.K X.mg X.base CX k x ps ds sp) (hd:Vals aE ds) (hr:bW k X.A) (hg:Gl X x) (hx:Passes CX X E)
  (ha:PA X (e::es) t) (hdb:(x==("__debug__":Jb))=false:=by decide) (he:starEach (e::es) X.env=(false,eval e X.env)::starEach es X.env:=by rfl) (hpl:(backTo pos (starEach es X.env)).any (·.1)=false:=by rfl) :
  PE X (.Call (.Name x p) (e::es) [] pos) (oF sp aE E t):=by
 obtain⟨f,fd,F,hm,hk,_,hb⟩:=D.ex;exact u7 F hr hg hm hk hb hd hx ha hdb he hpl
theorem j7 {N:List Jb} {ds:Array Ir} (D:jH K mg x st ds)
  (hb:∀(T:Iy) (kV doc pm:Ir) (an:Option Iy) (cdv ct:Ir) (us:List Ir),(us++[]).length=ps.length->∃ j,bindArgs (fnOf x x (bo st) (aL st) (ak st) (.ref T) kV doc pm an cdv ct) ⟨us,[]⟩=seqItems? (.ref T) >>= j/\j (Io ds)=pure (ps.zip (us++[])))
  (hb2:∀(T:Iy) (kV doc pm:Ir) (an:Option Iy) (cdv ct:Ir) (us:List Ir),(us++ds.toList).length=ps.length->∃ j,bindArgs (fnOf x x (bo st) (aL st) (ak st) (.ref T) kV doc pm an cdv ct) ⟨us,[]⟩=seqItems? (.ref T) >>= j/\j (Io ds)=pure (ps.zip (us++ds.toList)))
  (S:aw N ps (ak st)) (len:∀ vs H Q E,sp vs H Q E->vs.length=ps.length)
  (J':∀(f:Iy) (cdv:Ir) (A:Jr) (outer:List NS) (s:Iz) (H:Hp) (vs:List V) (Q:VK) (E:XK),bW k (A.deeper (envOfC x (ak st) s.heap.objs.size f cdv))->sp vs H Q E ->
   ∃ t,iG (dy (cZ P w) P w K mg base N x (ak st) f cdv A outer s H E) (aL st) t/\t { nx:=λ_ H'=>Q .non H',rt:=Q } (start N vs) H):fH P w K mg base (cZ P w) (k+1) x ps ds.toList sp:=by
 obtain⟨f,fd,F,hm⟩:=D;have b1:=F.binds hb;have b2:=F.binds hb2;obtain⟨oc,od,T,o,n,kV,doc,pm,an,cdv,ct,osl,rfl,lk,hcd,lT,e⟩:=F.ex;exact⟨f,_,ye lk hcd S len λA outer s H vs Q E hr h=>J' f cdv A outer s H vs Q E hr h,hm,F.kp,b1,b2⟩
end
end L2
namespace L2
open PySem PySem.Spec PyProof.Rows
noncomputable def Fc (q:Nat):Nat->Nat->Nat
 | 0,m=>m
 | f+1,m=>if q<=m*m then m else Fc q f (m+1)
def rt (q:Nat):Nat:=Fc q q 0
theorem zU {q:Nat}:∀(f m:Nat),(∀ j,j<m->j*j<q)->q<=(m+f)*(m+f)->q<=Fc q f m*Fc q f m/\∀ j,j<Fc q f m->j*j<q
 | 0,m,h,e=>⟨e,h⟩
 | f+1,m,h,e=>by
  unfold Fc;by_cases c:q<=m*m
  ·rw [if_pos c];exact⟨c,h⟩
  ·rw [if_neg c];exact zU f (m+1) (λj hj=>by rcases (by lia:j<m∨j=m) with z | z;exact h j z;rw [z];lia) (by rw [show m+1+f=m+(f+1) by lia];exact e)
theorem rX (q:Nat):q<=rt q*rt q/\∀ j,j<rt q->j*j<q:=zU q 0 (λj z=>absurd z (Nq _)) (by
 rw [UE];rcases Jy q with z | z
 ·rw [z];exact J4 _
 ·exact Lh q z)
theorem Ge {q m:Nat} (h1:q<=m*m) (h2:∀ j,j<m->j*j<q):rt q=m:=by
 obtain⟨a,b⟩:=rX q;rcases Nat.lt_trichotomy (rt q) m with z | z | z
 ·have:=h2 _ z;lia
 ·exact z
 ·have:=b _ z;lia
theorem pU {q:Nat} (h:0<q):0<rt q:=by
 rcases Jy (rt q) with z | z
 ·have:=(rX q).1;rw [z] at this;lia
 ·exact z
theorem vi {q:Nat} (h:0<q):rt q<=q:=by
 rcases NP q (rt q) with z | z
 ·have:=(rX q).2 _ z;have:=Lh q h;lia
 ·exact z
theorem B3 {q:Nat} (h:q<=10^6):rt q<=1000:=by
 rcases NP 1000 (rt q) with z | z
 ·have:=(rX q).2 _ z;lia
 ·exact z
noncomputable def cU (p w:Int) (m:Nat):List (Key × V):=(Ky m).map λi:Nat=>(Lv (w^i%p),V.int (i:Int))
theorem fU {p w:Int} {m:Nat}:(cU p w m).length=m:=by unfold cU;rw [Iu,Ki]
theorem jC {p w:Int} {m:Nat}:cU p w (m+1)=cU p w m++[(Lv (w^m%p),V.int m)]:=by unfold cU;rw [Nr,IT];rfl
theorem jB {p w n:Int}:∀{m:Nat},(∀ j,j<m->w^j%p≠n)->cz (cU p w m) (Lv n)=none
 | 0,_=>rfl
 | m+1,h=>by
  have ih:=jB (p:=p) (w:=w) (n:=n) (m:=m) λj hj=>h j (by lia);by_cases z:cz (cU p w m) (Lv (w^m%p))=none
  ·rw [jC,ic _ _ _ _ z,if_neg (λe=>h m (by lia) (QD e).symm)];exact ih
  ·unfold cz at ih z ⊢;rw [jC,List.find?_append];cases e:List.find? (λkv=>decide (kv.1=Lv n)) (cU p w m) with
   | some y=>rw [e] at ih;cases ih
   | none =>have:¬(Lv (w^m%p):Key)=Lv n:=λe=>h m (by lia) (QD e);simp [this]
theorem As {p w:Int}:∀{m:Nat},(∀ i j,i<m->j<m->w^i%p=w^j%p->i=j)->∀ j,j<m->cz (cU p w m) (Lv (w^j%p))=Io (.int j)
 | 0,_,j,hj=>absurd hj (Nq _)
 | m+1,h,j,hj=>by
  have z:cz (cU p w m) (Lv (w^m%p))=none:=jB λi hi e=>by have:=h i m (by lia) (by lia) e;lia
  rw [jC,ic _ _ _ _ z];by_cases c:j=m
  ·rw [c,if_pos rfl]
  ·rw [if_neg (λe=>c (h j m hj (by lia) (QD e)))];exact As (λi j hi hj=>h i j (by lia) (by lia)) j (by lia)
end L2
namespace Num
theorem Ord.co {n a:Int} {m:Nat} (o:Ord n a m):Co a n:=by
 obtain⟨k,hk⟩:∃ k,m=k+1:=⟨m-1,by have:=o.pos;lia⟩
 exact Co.Ei (m:=k) (by rw [<- hk];exact o.one)
theorem Ord.jj {n a:Int} {m i j:Nat} (o:Ord n a m) (hi:i<m) (hj:j<m) (e:a^i%n=a^j%n):i=j:=o.inj o.co hi hj (Al.iff.mpr e)
theorem uZ {n b:Int} {e q:Nat} (o:Ord n b e) (hd:q∣e):Ord n (b^(e/q)) q:=by
 obtain⟨f,hf⟩:=hd;have e0:=o.pos;have q0:0<q:=by rcases Jy q with z | z;rw [z,OE] at hf;lia;exact z
 have f0:0<f:=by rcases Jy f with z | z;rw [z,M8] at hf;lia;exact z
 have ef:e/q=f:=by rw [hf];exact LD f q0
 rw [ef];refine⟨q0,?_,λj hj=>?_⟩
 ·rw [bR,Ju,<- hf];exact o.one
 ·rw [bR] at hj;have:=o.dv _ hj;rw [hf,Ju q f] at this;exact MQ f0 this
theorem BS {n w:Int} {q y:Nat} (o:Ord n w q):Al n (w^y) (w^(y%q)):=by have h:y=q*(y/q)+y%q:=(MI y q).symm;have h1:=(aT (k:=y/q) o.one).mul (Al.refl n (w^(y%q)));rw [Kt,<- QV,<- h] at h1;exact h1
theorem xX {n b a r w:Int} {e q x t:Nat} (o:Ord n b e) (hd:q^(t+1)∣e) (ha:Al n a (b^x)) (hr:Al n (r*b^(x%q^t)) 1) (hw:Al n w (b^(e/q))):Al n ((a*r)^(e/q^(t+1))) (w^(x/q^t%q)):=by
 obtain⟨f,hf⟩:=hd;have e0:=o.pos;have q0:0<q^(t+1):=by rcases Jy (q^(t+1)) with z | z;rw [z,OE] at hf;lia;exact z
 have qt:0<q^t:=by rcases Jy (q^t) with z | z;rw [JX,z,OE] at q0;lia;exact z
 have q1:0<q:=by rcases Jy q with z | z;rw [JX,z,M8] at q0;lia;exact z
 have ef:e/q^(t+1)=f:=by rw [hf];exact LD f q0
 have eq:e/q=q^t*f:=by rw [hf,JX,Kb,Ju q f,<- Kb];exact Nat.mul_div_cancel _ q1
 have dq:q∣e:=⟨q^t*f,by rw [hf,JX,Ju (q^t) q,Kb]⟩
 have ow:Ord n w q:=uc hw.symm (uZ o dq);have h1:Al n (a*r) (b^(q^t*(x/q^t))):=by
  have z:=ha.mul (Al.refl n r);have hx:x=q^t*(x/q^t)+x%q^t:=(MI x (q^t)).symm;have z2:=(Al.refl n (b^(q^t*(x/q^t)))).mul hr;rw [KP] at z2;refine z.trans (Al.trans ?_ z2);have:b^x*r=b^(q^t*(x/q^t))*(r*b^(x%q^t)):=by
   have hb:b^x=b^(q^t*(x/q^t))*b^(x%q^t):=by rw [<- QV,<- hx]
   rw [hb,JO,JM (b^(x%q^t)) r]
  rw [this];exact Al.refl _ _
 rw [ef];have h2:=h1.pow f;rw [bR] at h2;have h3:=hw.pow (x/q^t);rw [bR,eq] at h3;have h4:b^(q^t*(x/q^t)*f)=b^(q^t*f*(x/q^t)):=by congr 1;rw [Kb,Kb,Ju f]
 rw [h4] at h2;exact (h2.trans h3.symm).trans (BS ow)
noncomputable def cD (x q n:Nat):List Nat:=(Ky n).map λi=>x/q^i%q
theorem dJ {x q n:Nat}:(cD x q n).length=n:=by unfold cD;rw [Iu,Ki]
theorem jN {x q n:Nat}:cD x q (n+1)=cD x q n++[x/q^n%q]:=by unfold cD;rw [Nr,IT];rfl
theorem oQ {x q n i:Nat} (h:i<n):(cD x q n)[i]?=Io (x/q^i%q):=by unfold cD;rw [ID,LL h];rfl
theorem rB {x q n i:Nat} (q0:0<q) (hi:i<n):(x%q^n)/q^(n-i)*q+x/q^(n-1-i)%q=(x%q^n)/q^(n-(i+1)):=by
 obtain⟨k,hk⟩:∃ k,n-i=k+1:=⟨n-i-1,by lia⟩
 have e1:n-1-i=k:=by lia
 have e2:n-(i+1)=k:=by lia
 rw [hk,e1,e2];have e3:x/q^k%q=(x%q^n)/q^k%q:=by
  have hn:q^n=q^k*(q*q^(n-k-1)):=by rw [<- Kb,<- JX,<- Nat.pow_add];congr 1;lia
  rw [hn,Nat.mod_mul_right_div_self,Nat.mod_mul_right_mod]
 rw [e3,JX,<- MG];exact Sn _ _
theorem mj {p a b:Int} {e:Nat} (hp:Pm p) (o:Ord p b e) (h:Al p (a^e) 1):∃ x,x<e/\Al p a (b^x):=by
 rcases Classical.em (∃ x,x<e/\Al p a (b^x)) with z | z
 ·exact z
 ·exfalso;have no:∀ x,x<e->¬Al p a (b^x):=λx hx hh=>z ⟨x,hx,hh⟩;obtain⟨m,hm⟩:∃ m,e=m+1:=⟨e-1,by have:=o.pos;lia⟩
  have hlen:(KY m (0:Int)++[-1]).length=e:=by simp [hm]
  have key:=roots hp e (KY m 0++[-1]) 1 hlen (λhd=>hp.Bx (by
   obtain⟨c,hc⟩:=hd;exact⟨-c,by rw [SD,<- hc];lia⟩)) (a::(Ky e).map λi=>b^i) ?_ ?_
  ·simp at key;lia
  ·refine Kq.mpr ⟨λy hy=>?_,?_⟩
   ·obtain⟨i,hi,rfl⟩:=IV.mp hy;exact no i (JQ.mp hi)
   ·rw [L9];refine Nk ?_ ME;intro i j hi hj lt hh;have:=o.inj o.co (JQ.mp hi) (JQ.mp hj) hh;lia
  ·intro r hr;rw [xD,Kt,<- hm];rcases IU.mp hr with rfl | hr
   ·exact h
   ·obtain⟨i,_,rfl⟩:=IV.mp hr;have:=aT (k:=i) o.one;rw [bR,Ju];exact this
theorem jW {p a b:Int} {e x y:Nat} (o:Ord p b e) (hx:x<e) (hy:y<e) (h1:Al p a (b^x)) (h2:Al p a (b^y)):x=y:=o.inj o.co hx hy (h1.symm.trans h2)
end Num
namespace L2
open PySem PySem.Spec PyProof.Rows
def bV (a d:Iy) (H H':Hp):Prop:=∀ b o,b≠a->b≠d->H b=Io o->H' b=Io o
theorem bV.refl {a d:Iy} {H:Hp}:bV a d H H:=λ_ _ _ _ e=>e
theorem bV.trans {a d:Iy} {H H1 H2:Hp} (h:bV a d H H1) (h':bV a d H1 H2):bV a d H H2:=λb o x y e=>h' b o x y (h b o x y e)
theorem bV.of {a d:Iy} {H H':Hp} (h:av H H'):bV a d H H':=λb o _ _ e=>h b o e
theorem bV.AA {a d:Iy} {H:Hp} {o:HO}:bV a d H (upd H a o):=λb u x _ e=>by rw [ao x];exact e
theorem bV.xj {a d:Iy} {H:Hp} {o:HO}:bV a d H (upd H d o):=λb u _ x e=>by rw [ao x];exact e
structure KH where
 a:Iy
 dx:Iy
 d:Iy
 most:Int
 c:Int
 ks:List (Int × Int × Int)
noncomputable def k3 (x:Int × Int × Int):List Key:=[.inl x.1,.inl x.2.1,.inl x.2.2]
theorem jQ {x y:Int × Int × Int} (h:k3 x=k3 y):x=y:=by obtain⟨a,b,c⟩:=x;obtain⟨a',b',c'⟩:=y;simp only [k3,Oz,Sum.inl.injEq,and_true] at h;obtain⟨rfl,rfl,rfl⟩:=h;rfl
noncomputable def D3 (k:KH):List (Jb × V):=[("most",.int k.most),("counted",.int k.c),("laid",.ref k.d)]
def KTab (H:Hp) (x:Int × Int × Int) (v:V):Prop:=∃ t,v=.ref t/\H t=Io (.dK (cU x.1 x.2.2 (rt x.2.1.toNat)))
structure sE (H:Hp) (k:KH) (kvs:List (List Key × V)):Prop where
 dict:H k.d=Io (.dT kvs)
 keys:kvs.map (·.1)=k.ks.map k3
 nd:k.ks.Nodup
 tab:∀ x v,cz kvs (k3 x)=Io v->KTab H x v
structure bC (C:Iy) (k:KH) (H:Hp):Prop where
 ins:H k.a=Io (.ins C k.dx (D3 k))
 ex:∃ kvs,sE H k kvs
 m0:0<=k.most
 m1:k.most<=10^6
section
variable {C:Iy} {k:KH} {H H':Hp} {kvs:List (List Key × V)}
theorem KTab.same {x:Int × Int × Int} {v:V} (h:KTab H x v) (s:av H H'):KTab H' x v:=by obtain⟨t,e,z⟩:=h;exact⟨t,e,s _ _ z⟩
theorem sE.same (h:sE H k kvs) (s:av H H'):sE H' k kvs:=⟨s _ _ h.dict,h.keys,h.nd,λx v e=>(h.tab x v e).same s⟩
theorem bC.same (h:bC C k H) (s:av H H'):bC C k H':=⟨s _ _ h.ins,let ⟨kvs,z⟩:=h.ex;⟨kvs,z.same s⟩,h.m0,h.m1⟩
theorem sE.len (h:sE H k kvs):kvs.length=k.ks.length:=by have:=congrArg Sy h.keys;simpa using this
theorem bC.ne (h:bC C k H):k.a≠k.d:=by obtain⟨kvs,z⟩:=h.ex;exact bI h.ins z.dict (by intro z;cases z)
theorem bC.apart (h:bC C k H) {b:Iy} {o:HO} (e:H b=Io o) (h1:∀ C dx fs,o≠.ins C dx fs) (h2:∀ kvs,o≠.dT kvs):b≠k.a/\b≠k.d:=by obtain⟨kvs,z⟩:=h.ex;exact⟨bI e h.ins (h1 _ _ _),bI e z.dict (h2 _)⟩
theorem bC.keep (h:bC C k H) (bt:bV k.a k.d H H') {b:Iy} {o:HO} (e:H b=Io o) (h1:∀ C dx fs,o≠.ins C dx fs:=by intro _ _ _ z;cases z) (h2:∀ kvs,o≠.dT kvs:=by intro _ z;cases z):H' b=Io o :=
 let ⟨x,y⟩:=h.apart e h1 h2;bt b o x y e
theorem bC.aN (h:bC C k H) (bt:bV k.a k.d H H'):∀ a xs,Rd H a (.tup xs)->Rd H' a (.tup xs):=by
 intro a xs z;rcases z with z | ⟨o,z⟩
 ·exact .inl (h.keep bt z)
 ·exact .inr ⟨o,h.keep bt z⟩
theorem bC.dv {K:Iq} (h:bC C k H) (bt:bV k.a k.d H H') {d:IL} {v:V} (nl:kX d=true) (x:dv K H d v):dv K H' d v:=dv.aN (h.aN bt) d nl x
theorem lb:∀{kvs:List (List Key × V)} {q:List Key},(cz kvs q).isSome=true↔q∈kvs.map (·.1)
 | [],q=>by simp [cz]
 | p::r,q=>by
  by_cases c:p.1=q
  ·rw [cG c];simp [c]
  ·rw [cp c,lb (kvs:=r)];simp only [Jz,IU];exact⟨.inr,λz=>z.resolve_left λe=>c e.symm⟩
theorem sE.mem (h:sE H k kvs) {x:Int × Int × Int}:(cz kvs (k3 x)).isSome=true↔x∈k.ks:=by rw [lb,h.keys,IV];exact⟨fun⟨y,hy,e⟩=>jQ e▸hy,λz=>⟨x,z,rfl⟩⟩
theorem jE {q j:List Key}:∀{kvs:List (List Key × V)},cz (bX kvs q) j=if j=q then none else cz kvs j
 | []=>by unfold bX;simp [cz]
 | p::r=>by
  have ih:=jE (q:=q) (j:=j) (kvs:=r);unfold bX at ih ⊢;by_cases c:p.1=q
  ·rw [KA (by simpa using c),ih];by_cases d:j=q
   ·rw [if_pos d,if_pos d]
   ·rw [if_neg d,if_neg d,cp (λe=>d (e.symm.trans c))]
  ·rw [KI (by simpa using c)];by_cases d:p.1=j
   ·rw [cG d,cG d,if_neg (λe=>c (d.trans e))]
   ·rw [cp d,cp d,ih]
theorem ny {x:Int × Int × Int}:∀{kvs:List (List Key × V)} {ks:List (Int × Int × Int)},kvs.map (·.1)=ks.map k3->(bX kvs (k3 x)).map (·.1)=(ks.filter λy=>decide (y≠x)).map k3
 | [],[],_=>rfl
 | [],_::_,h=>by simp at h
 | _::_,[],h=>by simp at h
 | p::r,y::ys,h=>by
  rw [Jz,Jz,Oz] at h;have ih:=ny (x:=x) (kvs:=r) (ks:=ys) h.2;unfold bX at ih ⊢;by_cases c:y=x
  ·rw [KA (by rw [h.1,c];simp),KA (by simpa using c)];exact ih
  ·rw [KI (by rw [h.1];simpa using λe=>c (jQ e)),KI (by simpa using c),Jz,Jz,h.1,ih]
noncomputable def bD (ks:List (Int × Int × Int)) (x:Int × Int × Int):List (Int × Int × Int):=(ks.filter λy=>decide (y≠x))++[x]
def fh (most:Int) (ks:List (Int × Int × Int)):List (Int × Int × Int):=if most<ks.length then ks.tail else ks
noncomputable def jD (k:KH) (x:Int × Int × Int):KH:={ k with ks:=fh k.most (bD k.ks x),c:=if x∈k.ks then k.c else k.c+rt x.2.1.toNat }
noncomputable def iH (k:KH) (n:Int):KH:={ k with c:=k.c+n }
theorem uz {ks:List (Int × Int × Int)} {x:Int × Int × Int} (h:ks.Nodup):(bD ks x).Nodup:=by unfold bD;rw [RT];refine⟨h.sublist Q9,by simp,λa ha b hb e=>?_⟩;rw [IW.mp hb] at e;have:=(K0.mp ha).2;simp [e] at this
theorem Cs {ks:List (Int × Int × Int)} {x:Int × Int × Int}:(bD ks x).length<=ks.length+1:=by unfold bD;rw [Js];exact Nat.add_le_add_right (NX _ _) 1
theorem sE.use {x:Int × Int × Int} {t:Iy} (h:sE H k kvs) (kt:∀ y v,KTab H y v->KTab H' y v) (ht:KTab H' x (.ref t)) (hD:H' k.d=Io (.dT (bX kvs (k3 x)++[(k3 x,.ref t)]))) :
  sE H' { k with ks:=bD k.ks x } (bX kvs (k3 x)++[(k3 x,.ref t)]) where
 dict:=hD
 keys:=by rw [IT,ny h.keys];show _=(bD k.ks x).map k3;unfold bD;rw [IT];rfl
 nd:=uz h.nd
 tab:=λy v e=>by
  rw [ic _ _ _ _ (by rw [jE,if_pos rfl])] at e;by_cases c:k3 y=k3 x
  ·rw [if_pos c] at e;cases e;cases jQ c;exact ht
  ·rw [if_neg c,jE,if_neg c] at e;exact kt _ _ (h.tab y v e)
def mZ (k:KH):Prop:=(k.ks.length:Int)<=k.most
theorem mZ.use {x:Int × Int × Int} (h:mZ k) (m0:0<=k.most):mZ (jD k x):=by
 have h':(k.ks.length:Int)<=k.most:=h;show ((fh k.most (bD k.ks x)).length:Int)<=k.most;have:=Cs (ks:=k.ks) (x:=x);unfold fh;split
 ·rw [List.length_tail];lia
 ·lia
theorem mZ.add {n:Int} (h:mZ k):mZ (iH k n):=h
theorem drop_tail {q:List Key} {v:V} {r:List (List Key × V)} (nd:(((q,v)::r).map (·.1)).Nodup):bX ((q,v)::r) q=r:=by unfold bX;rw [KA (by simp)];refine Mp.mpr λy hy=>?_;rw [Jz,Kx] at nd;exact decide_eq_true λz=>nd.1 (IV.mpr ⟨y,hy,z⟩)
theorem sE.cut {q:List Key} {v:V} {r:List (List Key × V)} (h:sE H k ((q,v)::r)) (hd:∀ b u,b≠k.d->H b=Io u->H' b=Io u) (hD:H' k.d=Io (.dT r)):sE H' { k with ks:=k.ks.tail } r:=by
 obtain⟨y,ys,e⟩:∃ y ys,k.ks=y::ys:=by
  cases e:k.ks with
  | nil=>have:=h.len;rw [e] at this;simp at this
  | cons y ys=>exact⟨y,ys,rfl⟩
 have hk:=h.keys;have hn:=h.nd;rw [e,Jz,Jz,Oz] at hk;rw [e,Kx] at hn;refine⟨hD,by rw [hk.2];show _=k.ks.tail.map k3;rw [e];rfl,by show k.ks.tail.Nodup;rw [e];exact hn.2,λx u z=>?_⟩;have ne:q≠k3 x:=λe2=>by have:k3 x∈r.map (·.1):=lb.mp (by rw [z];rfl);rw [hk.2,IV] at this;obtain⟨x',h1,h2⟩:=this;have:y=x:=jQ (hk.1.symm.trans e2);rw [jQ h2,<- this] at h1;exact hn.1 h1
 obtain⟨t,e3,e4⟩:=h.tab x u (by rw [cp ne];exact z);exact⟨t,e3,hd _ _ (λe=>by rw [e,h.dict] at e4;cases e4) e4⟩
theorem vW {q:List Key} {kvs:List (List Key × V)} (h:cz kvs q=none):bX kvs q=kvs:=by unfold bX;refine Mp.mpr λy hy=>decide_eq_true λz=>?_;have:(cz kvs q).isSome=true:=lb.mpr (IV.mpr ⟨y,hy,z⟩);rw [h] at this;cases this
theorem sE.nodup (h:sE H k kvs):(kvs.map (·.1)).Nodup:=by rw [h.keys];exact Vr k3 (λa b n e=>n (jQ e)) h.nd
theorem bC.Hg {n:Int} {fs:List (Jb × V)} (h:bC C k H) (e:fs=D3 (iH k n)):bC C (iH k n) (upd H k.a (.ins C k.dx fs)):=by
 subst e;obtain⟨kvs,z⟩:=h.ex;refine⟨ag,⟨kvs,?_,z.keys,z.nd,λx v e=>?_⟩,h.m0,h.m1⟩
 ·show upd H k.a _ k.d=_;rw [ao (JC h.ne)];exact z.dict
 ·obtain⟨t,e1,e2⟩:=z.tab x v e;exact⟨t,e1,by rw [ao (h.apart e2 (by intro _ _ _ z;cases z) (by intro _ z;cases z)).1];exact e2⟩
end
def EI:V->List V->Hp->VK->Prop:=λx vs H Q=>∃ l xs y,∃ j:Nat,x=.ref l/\vs=[y]/\H l=Io (.lst xs)/\dR y=true/\xs.all dR=true/\(∃ z,xs[j]?=Io z/\qS z y=true)/\(∀ i z,i<j->xs[i]?=Io z->qS z y=false)/\Q (.int j) H
theorem DI {xs:List V} {i:Nat} {z:V} (f:xs.all dR=true) (h:xs[i]?=Io z):dR z=true:=M7.mp f z (IC h)
theorem yI {X:Cx}:GK X "list.index" EI:=by
 intro pins s σ H x vs v us Q I rx rv h;obtain⟨l,xs,y,j,rfl,rfl,hH,fy,fx,⟨z1,hz1,hz2⟩,no,q⟩:=h;cases rx;obtain⟨u,rfl,ru⟩:=rv.one;obtain⟨z,its,n,r,hl,e⟩:=I.wm hH;have hj:j<its.length:=by rw [<- r.length];exact (IB.mp hz1).1
 have hs:its.length<=sizeLine:=by rw [<- r.length];exact z
 have at_:∀ i (hi:i<its.length) w,xs[i]?=Io w->oV y its[i]=qS w y:=λi hi w hw=>by obtain⟨u',e1,e2⟩:=r.get hw;rw [Iv hi] at e1;cases e1;exact tG e2 (DI fx hw)
 refine Nw QW ⟨_,e,rfl⟩ F.entry_list_index (F.args_list_index_2 _ _) (SeqAt.list_indexAt l its.toArray n none #[] u (oV y) j (by simpa using hj) (by rw [Ny] at hs;lia) ?_ ?_) ⟨e,λw hw=>fv ru fy r fx w (by simpa using hw),⟨.int j,H,I.tok _,⟨_,rfl⟩,q⟩⟩
 ·show oV y its[j]=true;rw [at_ j hj z1 hz1];exact hz2
 ·intro i hi hlt;have hi':i<its.length:=by simpa using hi
  show oV y its[i]=false;have hx:i<xs.length:=by rw [r.length];exact hi'
  rw [at_ i hi' _ (Iv hx)];exact no i _ hlt (Iv hx)
end L2
namespace PySem.SeqAt
open PySem PySem.Spec PyProof.Rows PySem.MeetsSeq
theorem B0 (l:Iy) (items:Array Ir) (n:Nat) (x:Ir) (e:Ir->Bool) (j:Nat) (hj:j<items.size) (hit:e items[j]=true) (hs:items.size<=sizeLine) (k:Nat) :
  ∀ i:Nat,j-i=k->i<=j->(∀ m (hm:m<items.size),i<=m->m<j->e items[m]=false)->Ux (Mo.«list.remove.loop» ⟨[.ref l,x,rawInt i],[]⟩)
   (λA R s=>s.heap.get? l=Io { cls:=.type "list",dict:=none,data:=.seq items n,slots:=#[] }/\(∀ y,y∈items->Sb A.in1 s y x (e y))/\R (.ok (.ret .none)) { s with heap:=s.heap.update l (Mi λxs=>xs.eraseIdxIfInBounds j) }):=by
 induction k with
 | zero =>
  intro i hk hij hno prog w A R s h;obtain⟨hp,g,d,tk,os⟩:=s;obtain⟨hl,he,h⟩:=h;obtain rfl:i=j:=by lia
  wp_walk using wpAny_loadPart' hl
  rw [show items[((i:Nat):Int).toNat]?=Io items[i] by simp [hj]];refine Ip (he _ (RU hj) prog w _ _ ?_);rw [hit];have hz':(items.eraseIdxIfInBounds i).size<=sizeLine+1:=IJ (size_erased items _) (Nat.le_succ_of_le hs)
  wp_walk using (Qk hl rfl (hz:=hs) (_hz':=hz')),wpAny_loadPart' hl
  simpa using h
 | succ k ih =>
  intro i hk hij hno prog w A R s h;obtain⟨hp,g,d,tk,os⟩:=s;obtain⟨hl,he,h⟩:=h;have hlt:i<items.size:=by lia
  wp_walk using wpAny_loadPart' hl
  rw [show items[((i:Nat):Int).toNat]?=Io items[i] by simp [hlt]];refine Ip (he _ (RU hlt) prog w _ _ ?_);rw [hno i hlt (IF _) (by lia)]
  wp_walk
  rw [show ((i:Int)+1)=((i+1:Nat):Int) by push_cast;rfl];exact⟨MN NQ _,LJ RV (by
   rw [K7 NQ _];exact ih (i+1) (by lia) (by lia) (λm hm h1 h2=>hno m hm (by lia) h2) prog w A R _ ⟨hl,he,h⟩)⟩
theorem Gb (l:Iy) (items:Array Ir) (n:Nat) (x:Ir) (e:Ir->Bool) (j:Nat) (hj:j<items.size) (hit:e items[j]=true) (hno:∀ m (hm:m<items.size),m<j->e items[m]=false) (hs:items.size<=sizeLine) :
  Ux (Mo.«list.remove» ⟨[.ref l,x],[]⟩)
   (λA R s=>s.heap.get? l=Io { cls:=.type "list",dict:=none,data:=.seq items n,slots:=#[] }/\(∀ y,y∈items->Sb A.in1 s y x (e y))/\R (.ok (.ret .none)) { s with heap:=s.heap.update l (Mi λxs=>xs.eraseIdxIfInBounds j) }):=by
 intro prog w A R s h;obtain⟨hp,g,d,tk,os⟩:=s;obtain⟨hl,he,h⟩:=h
 wp_walk using wpAny_loadPart' hl
 exact⟨MN NQ _,LJ RV (by
  rw [K7 NQ _];exact B0 l items n x e j hj hit hs _ 0 rfl (J4 _) (λm hm _ h2=>hno m hm h2) prog w A R _ ⟨hl,he,h⟩)⟩
end PySem.SeqAt
namespace L2
open PySem PySem.Spec PyProof.Rows
noncomputable def iJ (x:Int × Int × Int):IL:=.tuple [.int x.1,.int x.2.1,.int x.2.2]
def intOf:Ir->Option Int
 | .int i _=>Io i
 | _=>none
noncomputable def tupI (h:JD):Ir->List (Option Int)
 | .ref a=>match h.get? a with
  | some o=>match o.data with
   | .seq vs _=>vs.toList.map intOf
   | _=>[]
  | none=>[]
 | _=>[]
noncomputable def uS (x:Int × Int × Int):List (Option Int):=[Io x.1,Io x.2.1,Io x.2.2]
theorem pE {x y:Int × Int × Int} (h:uS x=uS y):x=y:=by obtain⟨a,b,c⟩:=x;obtain⟨d,e,f⟩:=y;simp only [uS,Oz,NM,and_true] at h;rw [h.1,h.2.1,h.2.2]
theorem vJ {h:JD} {u:Ir} {x:Int × Int × Int} {as:List Iy} (r:Vq h u (iJ x) as):tupI h u=uS x:=by
 unfold iJ at r;cases r with
 | tuple h1 h2 h3 h4 =>
  rename_i a o vs n;have e0:tupI h (.ref a)=vs.toList.map intOf:=by unfold tupI;simp only [h1,h3]
  rw [e0];generalize vs.toList=l at h4;cases h4 with
  | cons r1 t1=>cases r1;cases t1 with
   | cons r2 t2=>cases r2;cases t2 with
    | cons r3 t3=>cases r3;cases t3;rfl
theorem DR (x y:Int × Int × Int):MD (iJ x) (iJ y)=decide (x=y):=by obtain⟨a,b,c⟩:=x;obtain⟨d,e,f⟩:=y;simp only [iJ,MD,PJ,Oc];by_cases h1:a=d<;>by_cases h2:b=e<;>by_cases h3:c=f<;>simp [h1,h2,h3]
theorem qu {h:JD}:∀{ks:List (Int × Int × Int)} {us:List Ir} {as:List Iy},U3 h us (ks.map iJ) as->us.map (tupI h)=ks.map uS
 | [],_,_,r=>by cases r;rfl
 | x::ks,_,_,r=>by
  cases r with
  | cons r1 r2=>rw [Jz,Jz,vJ r1,qu r2]
theorem jX {h:JD}:∀{ks:List (Int × Int × Int)} {us:List Ir} {as:List Iy},U3 h us (ks.map iJ) as->∀ u∈us,∃ y as,Vq h u (iJ y) as
 | [],_,_,r,u,hu=>by cases r;cases hu
 | x::ks,_,_,r,u,hu=>by
  cases r with
  | cons r1 r2 =>
   rcases IU.mp hu with rfl | hu
   ·exact⟨_,_,r1⟩
   ·exact jX r2 u hu
theorem uL {A:Jr} {s:Iz} {u v:Ir} {x y:Int × Int × Int} {as bs:List Iy} (hu:A.units+64<cLine) (r:Vq s.heap u (iJ y) as) (rb:Vq s.heap v (iJ x) bs):Sb A.in1 s u v (decide (tupI s.heap u=uS x)):=by
 have h:=SeqAt.eqAt_reads (iJ y) (iJ x) A.in1 s u v as bs r rb rfl rfl (by
  have:min (iJ y).depth (iJ x).depth<=60:=IJ (Nat.min_le_left _ _) (by simp [iJ,OF,Ll]);rw [Around.in1_units];lia)
 rw [DR] at h;rw [vJ r];have:decide (uS y=uS x)=decide (y=x):=decide_eq_decide.mpr ⟨pE,λz=>by rw [z]⟩;rw [this];exact h
def Hs (K:Iq):R2:=λx y H Q=>∃(p:Iy) (us:List V) (k:Int × Int × Int) (ks:List (Int × Int × Int)),y=.ref p/\aJ K H p us/\dv K H (iJ k) x/\aE K H (ks.map iJ) us/\Q (.bl (decide (k∈ks))) H
theorem Eu {X:Cx} (hu:X.A.units+64<cLine):iU X (compareOp .In) (Hs X.K):=by
 intro pins s σ H x y v u Q I rx ry h;obtain⟨p,us,k,ks,rfl,hq,hx,hs,q⟩:=h;cases ry;obtain⟨its,r,pl,hz⟩:=I.list hq;obtain⟨bs,rb⟩:=gI I _ hx rx;obtain⟨as,ra⟩:=dO I _ hs r;refine SU (λw=>decide (tupI s.heap w=uS k)) pl.isList (λw hw=>?_) ⟨.bl _,H,I,rfl,?_⟩
 ·obtain⟨y,as',rw'⟩:=jX ra w (by simpa using hw);exact uL hu rw' rb
 ·have e:its.toArray.any (λw=>decide (tupI s.heap w=uS k))=decide (k∈ks):=by
   have h1:its.toArray.any (λw=>decide (tupI s.heap w=uS k))=(its.map (tupI s.heap)).any λl=>decide (l=uS k):=by rw [UI];simp;rfl
   rw [h1,qu ra,UI];rw [L3];simp only [Mu,decide_eq_true_eq,Function.comp];exact⟨fun⟨z,hz,e⟩=>pE e▸hz,λh=>⟨k,h,rfl⟩⟩
  rw [e];exact q
def F7 (K:Iq):V->List V->Hp->VK->Prop:=λx vs H Q=>∃(l:Iy) (us:List V) (y:V) (k:Int × Int × Int) (ks:List (Int × Int × Int)) (j:Nat),x=.ref l/\vs=[y]/\H l=Io (.lst us)/\dv K H (iJ k) y/\aE K H (ks.map iJ) us/\ks[j]?=Io k/\(∀ i,i<j->ks[i]?≠Io k)/\Q .non (upd H l (.lst (us.eraseIdx j)))
theorem Br {X:Cx} (hu:X.A.units+64<cLine):GK X "list.remove" (F7 X.K):=by
 intro pins s σ H x vs v us Q I rx rv h;obtain⟨l,xs,y,k,ks,j,rfl,rfl,hH,hy,hs,hj,no,q⟩:=h;cases rx;obtain⟨u,rfl,ru⟩:=rv.one;obtain⟨z,its,n,r,hl,e⟩:=I.wm hH;obtain⟨bs,rb⟩:=gI I _ hy ru;obtain⟨as,ra⟩:=dO I _ hs r;have tm:=qu ra;have kl:ks.length=its.length:=by have:=congrArg Sy tm;simpa using this.symm
 have jk:j<ks.length:=(IB.mp hj).1;have at_:∀ i (hi:i<its.length) (hk:i<ks.length),tupI s.heap its[i]=uS ks[i]:=λi hi hk=>by have:=congrArg (·[i]?) tm;simp only [ID,Iv hi,Iv hk,Option.map_some,NM] at this;exact this
 refine Nw Qz ⟨_,e,rfl⟩ F.entry_list_remove (F.args_list_remove_2 _ _) (SeqAt.Gb l its.toArray n u (λw=>decide (tupI s.heap w=uS k)) j (by rw [IP];lia) ?_ ?_ (by rw [IP];lia)) ⟨e,λw hw=>?_,?_⟩
 ·rw [QX,at_ j (by lia) jk];have:ks[j]=k:=by rw [Iv jk] at hj;exact JZ hj
  rw [this];exact decide_eq_true rfl
 ·intro i hi hlt;rw [IP] at hi;rw [QX,at_ i hi (by lia)];refine decide_eq_false λz=>no i hlt ?_;rw [Iv (by lia),pE z]
 ·obtain⟨y',as',rw'⟩:=jX ra w (by simpa using hw);exact uL hu rw' rb
 ·refine⟨.non,_,I.Eb (its':=its.eraseIdx j) hH e ?_ (r.eraseIdx j) ?_,rfl,q⟩
  ·show its.toArray.eraseIdxIfInBounds j=(its.eraseIdx j).toArray;rw [NW]
  ·have:=jU xs j;lia
end L2
namespace Num
theorem mh {p:Int} (hp:2<=p):∀{k l:Nat} {R T:Int},¬p∣R->¬p∣T->p^k*R=p^l*T->k=l/\R=T
 | 0,0,R,T,_,_,e=>by rw [Jp,Kt,Kt] at e;exact⟨rfl,e⟩
 | 0,l+1,R,T,h,_,e=>by rw [Jp,Kt,IY,JM (p^l),JO] at e;exact absurd ⟨_,e⟩ h
 | k+1,0,R,T,_,h,e=>by rw [Jp,Kt,IY,JM (p^k),JO] at e;exact absurd ⟨_,e.symm⟩ h
 | k+1,l+1,R,T,h,h',e=>by rw [IY,IY,JM (p^k),JM (p^l),JO,JO] at e;obtain⟨e1,e2⟩:=mh hp h h' (J5 (by lia) e);exact⟨by rw [e1],e2⟩
theorem Part.tail {n:Int} {x:Int × Int} {r:List (Int × Int)} (h:Part n (x::r)):Part (cM r) r:=⟨λp hp=>h.ok p (IG _ hp),(Kq.mp h.rise).2,rfl⟩
theorem Part.nd {n:Int} {x:Int × Int} {r:List (Int × Int)} (h:Part n (x::r)):¬x.1∣cM r:=λz=>by obtain⟨y,hy,e⟩:=gD (h.ok x (IH ..)).1 (λp hp=>(h.ok p (IG _ hp)).1) z;have:=(Kq.mp h.rise).1 y hy;lia
theorem Part.hd {n:Int} {x:Int × Int} {r:List (Int × Int)} (h:Part n (x::r)) {q:Int} (hq:Pm q) (hd:q∣n):x.1<=q:=by
 obtain⟨y,hy,e⟩:=gD hq (λp hp=>(h.ok p hp).1) (h.prod▸hd);rcases IU.mp hy with rfl | hy
 ·lia
 ·have:=(Kq.mp h.rise).1 y hy;lia
theorem Part.dv {n:Int} {ps:List (Int × Int)} (h:Part n ps) {x:Int × Int} (hx:x∈ps):x.1∣n:=h.prod▸d6 hx (h.ok x hx).2.1
theorem Part.one:∀{ps qs:List (Int × Int)} {n:Int},Part n ps->Part n qs->ps=qs
 | [],[],_,_,_=>rfl
 | [],y::t,n,h,h'=>by exfalso;have e:n=1:=h.prod.symm;have:=(h'.ok y (IH ..)).1.two;have:=Jh (by decide) (e▸h'.dv (IH ..));lia
 | x::r,[],n,h,h'=>by exfalso;have e:n=1:=h'.prod.symm;have:=(h.ok x (IH ..)).1.two;have:=Jh (by decide) (e▸h.dv (IH ..));lia
 | (p,k)::r,(q,l)::t,n,h,h'=>by
  have hp:=h.ok _ (IH ..);have hq:=h'.ok _ (IH ..);have e1:p<=q:=h.hd hq.1 (h'.dv (IH ..));have e2:q<=p:=h'.hd hp.1 (h.dv (IH ..));obtain rfl:p=q:=by lia
  obtain⟨a,b⟩:=mh hp.1.two h.nd h'.nd (h.prod.trans h'.prod.symm);have:k=l:=by have:=hp.2.1;have:=hq.2.1;simp only at *;lia
  subst this;rw [Part.one h.tail (b▸h'.tail)]
noncomputable def F0:List (Int × Int)->Int
 | []=>1
 | x::r=>x.1^(x.2.toNat-1)*(x.1-1)*F0 r
theorem nU:∀{ps:List (Int × Int)},(∀ p∈ps,Pm p.1)->0<cM ps
 | [],_=>by decide
 | x::r,h=>QL (bJ (by have:=(h x (IH ..)).two;lia) _) (nU λp hp=>h p (IG _ hp))
theorem Part.pos {n:Int} {ps:List (Int × Int)} (h:Part n ps):0<n:=h.prod▸nU λp hp=>(h.ok p hp).1
structure Dv (A:Int) (F:List (List (Int × Int))):Prop where
 part:∀ s∈F,Part (cM s) s
 nodup:(F.map cM).Nodup
 mem:∀ d,d∈F.map cM↔0<d/\d∣A
 sum:(F.map F0).sum=A
theorem Dv.start:Dv 1 [[]]:=⟨λs hs=>by rw [IW.mp hs];exact⟨λ_ z=>by simp at z,NK,rfl⟩,by simp,λd=>by
  show d∈[1]↔_;rw [IW];exact⟨λe=>by rw [e];exact⟨by decide,MC _⟩,fun⟨a,b⟩=>by have:=Jh (by decide) b;lia⟩,rfl⟩
structure Ds (n:Int) (ds:List Int):Prop where
 rise:ds.Pairwise (·<·)
 mem:∀ d,d∈ds↔0<d/\d∣n
theorem yG {l:List Int} (h:l.Pairwise (·<=·)) (nd:l.Nodup):l.Pairwise (·<·) :=
 (h.and nd).imp fun⟨a,b⟩=>by lia
theorem yF:∀{l m:List Int},l.Pairwise (·<·)->m.Pairwise (·<·)->(∀ a,a∈l↔a∈m)->l=m
 | [],[],_,_,_=>rfl
 | [],y::m,_,_,h=>by have:=(h y).mpr (IH ..);simp at this
 | x::l,[],_,_,h=>by have:=(h x).mp (IH ..);simp at this
 | x::l,y::m,hl,hm,h=>by
  obtain⟨a,b⟩:=Kq.mp hl;obtain⟨c,d⟩:=Kq.mp hm;have e:x=y:=by
   rcases IU.mp ((h x).mp (IH ..)) with z | z
   ·exact z
   ·rcases IU.mp ((h y).mpr (IH ..)) with w | w
    ·exact w.symm
    ·have:=a y w;have:=c x z;lia
  subst e;rw [yF b d λz=>?_];constructor
  ·intro hz;rcases IU.mp ((h z).mp (IG _ hz)) with w | w
   ·have:=a z hz;lia
   ·exact w
  ·intro hz;rcases IU.mp ((h z).mpr (IG _ hz)) with w | w
   ·have:=c z hz;lia
   ·exact w
theorem Ds.one {n:Int} {ds es:List Int} (h:Ds n ds) (h':Ds n es):ds=es:=yF h.rise h'.rise λa=>(h.mem a).trans (h'.mem a).symm
theorem Dv.ds {n:Int} {F:List (List (Int × Int))} {ds:List Int} (h:Dv n F) (p:ds.Perm (F.map cM)) (s:ds.Pairwise (·<=·)):Ds n ds :=
 ⟨yG s (p.nodup_iff.mpr h.nodup),λd=>p.mem_iff.trans (h.mem d)⟩
theorem lH (p:Int->Bool):∀ l:List Int,l.length=(l.filter p).length+(l.filter (λd=>!p d)).length
 | []=>rfl
 | x::l=>by have:=lH p l;cases e:p x<;>simp [List.filter_cons,e]<;>lia
theorem xr {n:Int} (hn:n<=10^9) {l:List Int} (nd:l.Nodup) (h:∀ d∈l,0<d/\d∣n) (n0:0<n):l.length<=63246:=by
 have lo:(l.filter (λd=>decide (d<31623))).length<=31623:=by
  have:=pO 31623 ((l.filter (λd=>decide (d<31623))).map Int.toNat) ?_ ?_
  ·simpa using this
  ·refine L9.mpr ((nd.filter _).imp_of_mem λ{a b} ha hb ne e=>ne ?_);have h1:=h a (K0.mp ha).1;have h2:=h b (K0.mp hb).1;lia
  ·intro x hx;obtain⟨d,hd,rfl⟩:=IV.mp hx;have:=(K0.mp hd).2;simp at this;lia
 have hi:(l.filter (λd=>!decide (d<31623))).length<=31623:=by
  have:=pO 31623 ((l.filter (λd=>!decide (d<31623))).map λd=>(n/d).toNat) ?_ ?_
  ·simpa using this
  ·refine L9.mpr ((nd.filter _).imp_of_mem λ{a b} ha hb ne e=>ne ?_);have h1:=h a (K0.mp ha).1;have h2:=h b (K0.mp hb).1;obtain⟨c,hc⟩:=h1.2;obtain⟨c',hc'⟩:=h2.2;have e1:n/a=c:=by rw [hc];exact JB _ (by lia)
   have e2:n/b=c':=by rw [hc'];exact JB _ (by lia)
   rw [e1,e2] at e;have c0:0<c:=by
    rcases (by lia:c<=0∨0<c) with z | z
    ·have:=Jq (show 0<=a by lia) z;lia
    ·exact z
   have c0':0<c':=by
    rcases (by lia:c'<=0∨0<c') with z | z
    ·have:=Jq (show 0<=b by lia) z;lia
    ·exact z
   obtain rfl:c=c':=by lia
   exact Int.eq_of_mul_eq_mul_right (by lia) (hc.symm.trans hc')
  ·intro x hx;obtain⟨d,hd,rfl⟩:=IV.mp hx;have h1:=(K0.mp hd).2;simp at h1;have h2:n/d<=n/31623:=by refine NY (by decide) ?_;have:=Int.ediv_mul_le n (show d≠0 by lia);have:=Jm h1 (L5 (show 0<=n by lia) (show 0<=d by lia));lia
   have:n/31623<31623:=Int.ediv_lt_of_lt_mul (by decide) (by lia);lia
 have:=lH (λd:Int=>decide (d<31623)) l;lia
noncomputable def ins (x:Int × Int):List (Int × Int)->List (Int × Int)
 | []=>[x]
 | y::r=>if x.1<y.1 then x::y::r else y::ins x r
end Num
namespace Num
open PySem PySem.Spec PyProof.Rows
theorem LF.Hm {n g g':Int} (h:LF n g) (h':LF n g'):g=g':=by
 rcases (by lia:g<g'∨g=g'∨g'<g) with z | z | z
 ·exact absurd h.ord (h'.no g h.one z)
 ·exact z
 ·exact absurd h'.ord (h.no g' h'.one z)
theorem gT.one {n:Int} {d:IL} (h:gT n d):∀{d'},gT n d'->d=d':=by
 induction h with
 | mk p g ps ds h1 h2 h3 h4 h5 h6 ih =>
  intro d' h';cases h' with
  | mk _ g' ps' ds' k1 k2 k3 k4 k5 k6 =>
   obtain rfl:=h3.Hm k3;obtain rfl:=h4.one k4;have:rowsOf ps ds=rowsOf ps ds':=by unfold rowsOf;refine Rb λi hi=>?_;have il:=JQ.mp hi;have g:=Iv il;rw [ih i _ _ g (k6 i _ _ g)]
   rw [this]
theorem mv {ps:List (Int × Int)} {ds:Nat->IL} {r:IL} (h:r∈rowsOf ps ds):∃ i q k,ps[i]?=Io (q,k)/\r=.tuple [ds i,.int k]:=by unfold rowsOf at h;obtain⟨i,hi,rfl⟩:=IV.mp h;have il:=JQ.mp hi;have g:=Iv il;exact⟨i,_,_,g,by rw [KJ,g];rfl⟩
theorem gj {m:Nat}:∀{ds:List IL},(∀ d∈ds,d.depth<=m)->Ll ds<=m
 | [],_=>by simp [Ll]
 | d::ds,h=>by have h1:=h d (IH ..);have h2:=gj λe he=>h e (IG _ he);simp only [Ll];lia
theorem jL:∀{ds:List IL},(∀ d∈ds,d.canLay0=true)->KS ds=true
 | [],_=>rfl
 | d::ds,h=>by simp [KS,h d (IH ..),jL λe he=>h e (IG _ he)]
theorem gT.deep {n:Int} {d:IL} (h:gT n d):d.canLay0=true/\∃ k:Nat,d.depth+1<=3*k/\(2:Int)^k<=2*(n-1):=by
 induction h with
 | mk p g ps ds h1 h2 h3 h4 h5 h6 ih =>
  have p2:=h1.two;have lay:KS (rowsOf ps ds)=true:=jL λr hr=>by obtain⟨i,q,k,hi,rfl⟩:=mv hr;simp [OU,KS,(ih i q k hi).1]
  refine⟨by simp [OU,KS,lay],?_⟩;by_cases e2:p=2
  ·subst e2;have hps:ps=[]:=by have:Part (1:Int) ps:=h4;exact this.one ⟨λ_ z=>by simp at z,NK,rfl⟩
   subst hps;exact⟨1,by simp [OF,Ll,rowsOf],by decide⟩
  ·-- each prime of the parts is at most half
   obtain⟨k,hk,hk2⟩:∃ k:Nat,(∀ i q m,ps[i]?=Io (q,m)->(ds i).depth+1<=3*k)/\(2:Int)^(k+1)<=2*(p-1):=by
    have half:∀ i q m,ps[i]?=Io (q,m)->2*(q-1)*2<=2*(p-1):=λi q m hi=>by
     have hq:=h4.ok _ (IC hi);have dv:q∣p-1:=h4.dv (IC hi);obtain⟨c,hc⟩:=dv;have q2:=hq.1.two;have c0:1<=c:=by
      rcases (by lia:c<=0∨1<=c) with z | z
      ·have:=Jq (show 0<=q by lia) z;simp only at *;lia
      ·exact z
     rcases (by lia:c=1∨2<=c) with z | z
     ·-- p-1 is a prime: so p is 3
      rw [z,KP] at hc;have od:p%2=1:=by
       rcases (by lia:p%2=0∨p%2=1) with y | y
       ·exact absurd (I0 y) (h1.no 2 (by decide) (by lia))
       ·exact y
      have q2':q=2:=by
       rcases (by lia:q=2∨2<q) with y | y
       ·exact y
       ·exact absurd (I0 (show q%2=0 by lia)) (hq.1.no 2 (by decide) y)
      lia
     ·have:=Jm z (show 0<=q by lia);lia
    have all:∀ i q m,ps[i]?=Io (q,m)->∃ k:Nat,(ds i).depth+1<=3*k/\(2:Int)^(k+1)<=2*(p-1):=λi q m hi=>by obtain⟨k,a,b⟩:=(ih i q m hi).2;exact⟨k,a,by rw [IY];have:=half i q m hi;lia⟩
    -- the greatest of them
    have key:∀ n:Nat,n<=ps.length->∃ k:Nat,(∀ i q m,i<n->ps[i]?=Io (q,m)->(ds i).depth+1<=3*k)/\(2:Int)^(k+1)<=2*(p-1):=by
     intro n
     induction n with
     | zero=>exact λ_=>⟨0,λi q m hi=>by lia,by rw [IY,Jp];lia⟩
     | succ n ihn =>
      intro hn;obtain⟨k,a,b⟩:=ihn (by lia);obtain⟨k',a',b'⟩:=all n _ _ (Iv (show n<ps.length by lia));rcases UD k k' with z | z
      ·refine⟨k',λi q m hi h=>?_,b'⟩;rcases (by lia:i<n∨i=n) with y | y
       ·have:=a i q m y h;lia
       ·subst y;exact a'
      ·refine⟨k,λi q m hi h=>?_,b⟩;rcases (by lia:i<n∨i=n) with y | y
       ·exact a i q m y h
       ·subst y;lia
    obtain⟨k,a,b⟩:=key ps.length (IF _);exact⟨k,λi q m hi=>a i q m (IB.mp hi).1 hi,b⟩
   refine⟨k+1,?_,hk2⟩;have rows:Ll (rowsOf ps ds)<=3*k:=gj λr hr=>by obtain⟨i,q,m,hi,rfl⟩:=mv hr;have:=hk i q m hi;simp only [OF,Ll];lia
   simp only [OF,Ll];lia
end Num
namespace L2
open PySem PySem.Spec PyProof.Rows
end L2
namespace L2
open PySem PySem.Spec PyProof.Rows PySem.W
section
variable {M:RE} {A:Jr} {E:Ir->Iz->Prop} {s:Iz} {base:JD} {env:NS} {outer:List NS} {L e T:Iy} {C:Ir} {dd:Option Iy} {fl:Ir}
theorem rA {Q:Unit->Iz->Prop} (hfr:A.frames=Io (env::outer)) (hl:s.heap.FunFrames base (env::outer)) (hf:env.frame=Io L) (ht:Tr s.heap e C dd T fl)
  (h:∀ h' T',Tr h' e C dd T' (rawInt L)->(T'=T∨s.heap.objs.size<=T')->Kp (d7 (env::outer)) [e,T] s.heap h'->Q () { s with heap:=h' }):wpAny M A (noteFrame (.ref e) env) Q E s:=by
 obtain⟨vs,sl,oT,ts,he,h1,hTe,hT,hdT,h3⟩:=ht;unfold noteFrame;simp only [hf];refine Ip (JS he rfl h1 ?_);rw [if_pos (show (Ji T != Kj)=true from by simp)];refine Ip (JS hT hdT h3 ?_);by_cases c:fl=rawInt L
 ·rw [if_pos (by rw [c];simp [rawInt])];exact IA (h s.heap T ⟨vs,sl,oT,ts,he,h1,hTe,hT,hdT,c▸h3⟩ (.inl rfl) ⟨λb o _ _ q=>q,λb o _ q=>⟨o.slots,q⟩⟩)
 rw [if_neg (λz=>c (beq_iff_eq.mp z))];refine Ip (Kg hT hdT (Kz.mp h3).1 ?_);generalize hu:s.heap.update T (Kn (·.setIfInBounds 3 Kj))=h1';have oth:∀ b,b≠T->h1'.get? b=s.heap.get? b:=λb hb=>by rw [<- hu];exact Jc _ _ (JC hb)
 have hl1:h1'.FunFrames base (env::outer):=hl.of_keeps λb o hb hnf=>⟨o,(oth b λq=>by rw [q,hT] at hb;cases hb;exact hnf ts hdT).trans hb,rfl⟩
 refine lI (s:={ s with heap:=h1' }) hfr hl1 hf ((oth e (JC hTe)).trans he) (Kz.mp h1).1 λh' T' t' n' k'=>h h' T' t' (.inr ?_) ?_
 ·have z:h1'.objs.size=s.heap.objs.size:=by rw [<- hu];exact Sh ..
  rw [<- z];exact n'
 ·refine⟨λb o hb hf' q=>k'.keep b o (λz=>hb (by simp at z;simp [z])) hf' ((oth b λz=>hb (by simp [z])).trans q),λb o hb q=>k'.slot b o (λz=>hb (by simp at z;simp [z])) ((oth b λz=>hb (by simp [z])).trans q)⟩
theorem qY {Q:Unit->Iz->Prop} {fs:List Iy} {fr:Option Iy} (ht:Tr s.heap e C dd T fl) (h:∀ h',Tr h' e C dd T (fr.elim .none λf=>rawInt f)->Kp fs [T] s.heap h'->Q () { s with heap:=h' }):wpAny M A (setFlight (.ref e) fr) Q E s:=by
 obtain⟨vs,sl,oT,ts,he,h1,hTe,hT,hdT,h3⟩:=ht;unfold setFlight;refine Ip (JS he rfl h1 ?_);rw [if_pos (show (Ji T != Kj)=true from by simp)];have hsz:=(Kz.mp h3).1;refine Kg hT hdT hsz (h _ ?_ ?_)
 ·refine⟨vs,sl,_,_,(Jc _ _ hTe).trans he,h1,hTe,Jx _ hT (Ln (Ko hdT _)),Ko hdT _,by simp [hsz]⟩
 ·refine⟨λb o hb _ q=>(Jc _ _ λz=>hb (by simp [z])).trans q,λb o hb q=>⟨o.slots,(Jc _ _ λz=>hb (by simp [z])).trans q⟩⟩
theorem Kp.both {fs ch ch':List Iy} {h h' h'':JD} (a:Kp fs ch h h') (b:Kp fs ch' h' h''):Kp fs (ch++ch') h h'' :=
 (a.mono λ_ z=>MT _ z).trans (b.mono λ_ z=>Ja _ z)
theorem wg {Q:Unit->Iz->Prop} (hfr:A.frames=Io (env::outer)) (hl:s.heap.FunFrames base (env::outer)) (hf:env.frame=Io L) (ht:Tr s.heap e C dd T fl)
  (h:∀ h' T',Tr h' e C dd T' .none->(T'=T∨s.heap.objs.size<=T')->Kp (d7 (env::outer)) [e,T,T'] s.heap h'->Q () { s with heap:=h' }):wpAny M A (leaving env (.ref e)) Q E s:=by
 unfold leaving;refine Ip (rA hfr hl hf ht λh1' T' t1 n1 k1=>?_);exact qY (fs:=d7 (env::outer)) (fr:=none) t1 λh2 t2 k2=>h h2 T' t2 n1 (k1.both k2)
end
theorem Un.kp {fs ex ch:List Iy} {H H':Hp} {h h1 h2:JD} (u:Un fs ex H H' h h1) (k:Kp fs ch h1 h2) (nc:∀ b o,h.get? b=Io o->b∉ex->b∉ch):Un fs ex H H' h h2:=by
 refine⟨λb o q nn hb hx=>k.keep b o (nc b o q hx) hb (u.keep b o q nn hb hx),λb o q nn hb hx=>?_,u.free,λb o q hx=>?_,u.tups,u.frzs,u.tbls⟩
 ·obtain⟨s1,q1⟩:=u.slot b o q nn hb hx;obtain⟨s2,q2⟩:=k.slot b _ (nc b o q hx) q1;exact⟨s2,q2⟩
 ·obtain⟨o1,q1⟩:=u.there b o q hx;obtain⟨s2,q2⟩:=k.slot b _ (nc b o q hx) q1;exact⟨_,q2⟩
section
variable {P:IM} {w:Jo} {K:Iq} {mg:Jb->Option Ir} {base:JD} {N:List Jb} {qual:Jb} {scope:La} {f:Iy} {cd:Ir} {A:Jr} {outer:List NS} {s:Iz} {H:Hp} {E:XK}
theorem zz {pins:List (Iy × K9)} {σ:St} {H1 H':Hp} {s1 s':Iz} {x C T:Iy} {dd:Option Iy} {fl:Ir} {fp:List Iy} (I:Inv (dy (cZ P w) P w K mg base N qual scope f cd A outer s H E) pins σ H1 s1)
  (os:s'.os=s1.os) (bare:Oa s'.gens) (un:Un (d7 (envOfC qual scope s.heap.objs.size f cd::outer)) fp H1 H' s1.heap s'.heap) (hfp:∀ b∈fp,s.heap.objs.size<=b) (hfs:∀ b∈d7 (envOfC qual scope s.heap.objs.size f cd::outer),b∉fp)
  (hok:gf P w H' s'.heap) (tr:Tr s'.heap x (.ref C) dd T fl) (nx:∀ b o,s.heap.get? b=Io o->b≠x) (nT:∀ b o,s.heap.get? b=Io o->b≠T) (hT:H' T=none) (hx:H' x=Io (XO x C dd)) (hE:E (.ref C) (Io x) H') :
  (dy (cZ P w) P w K mg base N qual scope f cd A outer s H E).xe (.ref x) s':=by
 have hl:=kR I.stack un I.dX hfs;have frN:∀ b∈d7 (envOfC qual scope s.heap.objs.size f cd::outer),H' b=none:=λb hb=>by obtain⟨_,o,ho,_⟩:=I.stack.mem hb;exact un.free b o ho (I.dX b hb) (hfs b hb)
 show wpAny (model P w) (A.deeper (envOfC qual scope s.heap.objs.size f cd)) (leaving (envOfC qual scope s.heap.objs.size f cd) (.ref x)) _ _ s';refine wg (L:=s.heap.objs.size) I.ok.frames hl rfl tr λh'' T' t' n' k'=>?_;have nex:∀ b:Iy,b∉(dy (cZ P w) P w K mg base N qual scope f cd A outer s H E).ex:=λb z=>absurd (show b∈([]:List Iy) from z) (by simp);have nfp:∀{b o},s.heap.get? b=Io o->b∉fp:=λq z=>absurd (IK q) (Ls.mpr (hfp _ z));have nT':∀{b o},s.heap.get? b=Io o->b≠T':=λ{b o} q z=>by
  obtain⟨o1,q1⟩:=I.base.there b o q (nex b);rcases n' with y | y
  ·exact nT b o q (z.trans y)
  ·obtain⟨o2,q2⟩:=un.there b o1 q1 (nfp q);exact absurd (IK q2) (Ls.mpr (z▸y))
 have old:∀ b o,s.heap.get? b=Io o->b∉[x,T,T']:=λb o q hb=>by
  rcases IU.mp hb with z | hb
  ·exact nx b o q z
  rcases IU.mp hb with z | hb
  ·exact nT b o q z
  ·exact nT' q (IW.mp hb)
 have nfr:∀ b o,s.heap.get? b=Io o->b∉d7 outer->b∉d7 (envOfC qual scope s.heap.objs.size f cd::outer):=λb o q hb hm=>by
  rcases IU.mp (I.fS b hm) with z | z
  ·exact absurd (IK q) (by rw [z];exact Ka _)
  ·exact hb z
 obtain⟨vs,sl,oT,ts,he,r'⟩:=t';have tr':Tr h'' x (.ref C) dd T' .none:=⟨vs,sl,oT,ts,he,r'⟩
 have hT':H' T'=none:=by
  rcases n' with y | y
  ·rw [y];exact hT
  ·exact hok.fresh y
 refine⟨x,C,T',dd,H',rfl,os.trans I.os,bare,?_,?_,tr',?_,?_,hT',hx,hE⟩
 ·refine⟨λb o q nn hb _=>?_,λb o q nn hb _=>?_,λb o q nn _=>?_,λb o q _=>?_,λb xs q=>un.tups b xs (I.base.tups b xs q),λb o xs q=>un.frzs b o xs (I.base.frzs b o xs q),λb ps q=>?_⟩
  ·have q1:=I.base.keep b o q nn hb (nex b);have q2:=un.keep b o q1 (I.base.free b o q nn (nex b)) (nfr b o q hb) (nfp q);exact k'.keep b o (old b o q) (nfr b o q hb) q2
  ·obtain⟨s1',q1⟩:=I.base.slot b o q nn hb (nex b);obtain⟨s2',q2⟩:=un.any q1 (I.base.free b o q nn (nex b)) (nfp q);obtain⟨s3',q3⟩:=k'.slot b _ (old b o q) q2;exact⟨s3',q3⟩
  ·obtain⟨o1,q1⟩:=I.base.there b o q (nex b);exact un.free b o1 q1 (I.base.free b o q nn (nex b)) (nfp q)
  ·obtain⟨o1,q1⟩:=I.base.there b o q (nex b);obtain⟨o2,q2⟩:=un.there b o1 q1 (nfp q);obtain⟨s3',q3⟩:=k'.slot b _ (old b o q) q2;exact⟨_,q3⟩
  ·obtain⟨m1,e1⟩:=I.base.tbls b ps q;obtain⟨m2,e2⟩:=un.tbls b _ e1;exact⟨m1++m2,by rw [e2,Nt]⟩
 ·exact kQ hok k' (λb hb=>by
   rcases IU.mp hb with z | hb
   ·exact .inl z
   rcases IU.mp hb with z | hb
   ·exact .inr (by rw [z];exact hT)
   ·exact .inr (by rw [IW.mp hb];exact hT')) frN hx he
 ·cases q:s.heap.get? x with
  | none=>rfl
  | some o=>exact absurd (IH) (old x o q)
 ·cases q:s.heap.get? T' with
  | none=>rfl
  | some o=>exact absurd rfl (nT' q)
end
def E7 (X:Cx) (C:Iy) (_:Iz) (_:Hp) (_:List Iy):Ir->Iz->Prop:=λe s' =>
 wpAny (model X.prog X.w) X.A (noteFrame e X.env) (λ_ s''=>∃ m,s''.heap.Ns C m/\∀ h',Ku C s''.heap h'->∀ cenv:NS,cenv.locals=C->wpAny (model X.prog X.w) X.A (RW "comprehension.variables-let-go" e cenv:TZ Ir) (λ_ _=>False) X.xe { s'' with heap:=h' })
  (λe s''=>∃ m,s''.heap.Ns C m/\∀ h',Ku C s''.heap h'->∀ cenv:NS,cenv.locals=C->wpAny (model X.prog X.w) X.A (RW "comprehension.variables-let-go" e cenv:TZ Ir) (λ_ _=>False) X.xe { s'' with heap:=h' }) s'
theorem Be {X:Cx} {scope:La} {cl:List (Jb × Iy)}:∀ C s₂ H₂ fp use Q' acc e s',E7 X C s₂ H₂ fp e s'->notedBy (model X.prog X.w) X.A (compEnvC scope (cellsFrom (C+1) scope.names cl) C X.env) (λe s''=>compPost (model X.prog X.w) X.A X.xe use Q' acc C (.error e) s'') e s' :=
 λC s₂ H₂ fp use Q' acc e s' h=>by cases use<;>exact h
theorem wO {P:IM} {w:Jo} {K:Iq} {mg:Jb->Option Ir} {base:JD} {N N':List Jb} {qual:Jb} {scope sc:La} {f:Iy} {cd:Ir} {A:Jr} {outer:List NS} {s:Iz} {H:Hp} {E:XK} {cl:List (Jb × Iy)} {C:Iy} {s₂:Iz} {H₂:Hp} {fp:List Iy}
  (lc:iT (dy (cZ P w) P w K mg base N qual scope f cd A outer s H E) C s₂ H₂ fp) :
  Passes (cZ P w) (bK (dy (cZ P w) P w K mg base N qual scope f cd A outer s H E) (E7 (dy (cZ P w) P w K mg base N qual scope f cd A outer s H E) C s₂ H₂ fp) N' sc cl C s₂ H₂ fp) E:=by
 intro pins σ H1 s1 e s' I hq;obtain⟨x,Cl,T,dd,H',rfl,os,bare,un,hok,tr,nx,nT,hT,hx,hE⟩:=hq;obtain⟨⟨pins0,σ0,I2⟩,new,nof,le⟩:=lc;have un':Un (d7 (envOfC qual scope s.heap.objs.size f cd::outer)) [] H1 H' s1.heap s'.heap:=un;have U1:Un (d7 (envOfC qual scope s.heap.objs.size f cd::outer)) fp H₂ H' s₂.heap s'.heap:=Un.trans I.base (un'.mono (λ_ z=>z) (λ_ z=>absurd z (by simp)));have hl:=kR I2.stack U1 I2.dX nof;have frN:∀ b∈d7 (envOfC qual scope s.heap.objs.size f cd::outer),H' b=none:=λb hb=>by obtain⟨_,o,ho,_⟩:=I2.stack.mem hb;exact U1.free b o ho (I2.dX b hb) (nof b hb)
 have Cfs:C∉d7 (envOfC qual scope s.heap.objs.size f cd::outer):=λhb=>by obtain⟨_,o,ho,_⟩:=I2.stack.mem hb;exact absurd (IK ho) (Ls.mpr le)
 obtain⟨mC,hn,_⟩:=I.loc;replace hn:s1.heap.Ns C mC:=hn;have C1:H1 C=none:=I.free;obtain⟨oC,gC⟩:∃ oC,s1.heap.get? C=Io oC:=by obtain⟨oC,_,_,gC,_⟩:=hn;exact⟨oC,gC⟩
 have Cx:C≠x:=λz=>by rw [z,nx] at gC;cases gC
 have CT:C≠T:=λz=>by rw [z,nT] at gC;cases gC
 have HC:H' C=none:=un'.free C oC gC C1 (by simp);have sF:∀ o,s1.heap.get? C=Io o->s'.heap.get? C=Io o:=λo q=>un'.keep C o q C1 Cfs (by simp);have hfp:∀ b∈fp,s.heap.objs.size<=b:=λb hb=>(new b hb).elim id λz=>absurd (show b∈([]:List Iy) from z) (by simp);have n2:∀ b o,s₂.heap.get? b=Io o->b∉fp->b≠x/\b≠T:=λb o q hb=>by obtain⟨o1,q1⟩:=I.base.there b o q hb;exact⟨λz=>(by rw [z,nx] at q1;cases q1),λz=>(by rw [z,nT] at q1;cases q1)⟩
 have ns:∀ b o,s.heap.get? b=Io o->b∉fp/\∃ o1,s₂.heap.get? b=Io o1:=λb o q=>⟨λz=>absurd (IK q) (Ls.mpr (hfp b z)),I2.base.there b o q (λz=>absurd (show b∈([]:List Iy) from z) (by simp))⟩
 show wpAny _ _ (noteFrame (.ref x) _) _ _ _;refine rA (L:=s.heap.objs.size) I2.ok.frames hl rfl tr λh1 T' t1 n1 k1=>?_;have T'C:T'≠C:=by
  rcases n1 with y | y
  ·rw [y];exact JC CT
  ·exact Lc (IZ (IK (sF _ gC)) y)
 have HT':H' T'=none:=by
  rcases n1 with y | y
  ·rw [y];exact hT
  ·exact hok.fresh y
 have n2':∀ b o,s₂.heap.get? b=Io o->b∉fp->b≠T':=λb o q hb z=>by
  rcases n1 with y | y
  ·exact (n2 b o q hb).2 (z.trans y)
  ·obtain⟨o1,q1⟩:=U1.there b o q hb;exact absurd (IK q1) (Ls.mpr (z▸y))
 refine⟨mC,hn.at λo q=>k1.keep C o (by simp [Cx,CT]) Cfs (sF o q),λh' hsb cenv hc=>?_⟩;have k2:Kp (d7 (envOfC qual scope s.heap.objs.size f cd::outer)) [C] h1 h':=⟨λb o hb _ q=>hsb.extBut b o (by simpa using hb) q,λb o hb q=>⟨o.slots,hsb.extBut b o (by simpa using hb) q⟩⟩
 have t2:Tr h' x (.ref Cl) dd T' (rawInt s.heap.objs.size):=by obtain⟨vs,sl,oT,ts,he,h1',hTe,hT',r'⟩:=t1;exact⟨vs,sl,oT,ts,hsb.extBut _ _ (JC Cx) he,h1',hTe,hsb.extBut _ _ T'C hT',r'⟩
 have t2':=t2;obtain⟨vs,sl,oT,ts,he,h1',r'⟩:=t2;unfold RW;refine Ip (JS he rfl h1' ?_);rw [if_neg (by simp)];refine Ip (qY (s:={ s' with heap:=h' }) (fs:=d7 (envOfC qual scope s.heap.objs.size f cd::outer)) t2' λh3 t3 k3=>?_);have kk:=(k1.both k2).both k3;refine QT ?_;obtain⟨vs3,sl3,oT3,ts3,he3,r3⟩:=id t3;refine zz (s':={ s' with heap:=h3 }) I2 (os.trans I.os) bare (U1.kp kk λb o q hb z=>?_) hfp nof ?_ t3 (λb o q=>?_) (λb o q=>?_) HT' hx hE
 ·have y1:=n2 b o q hb;have y2:=n2' b o q hb;have y3:b≠C:=λz=>absurd (IK q) (Ls.mpr (z▸le));simp at z;rcases z with z | z | z | z
  ·exact y1.1 z
  ·exact y1.2 z
  ·exact y3 z
  ·exact y2 z
 ·refine kQ hok kk (λb hb=>?_) frN hx he3;simp at hb;rcases hb with z | z | z | z
  ·exact .inl z
  ·exact .inr (z▸hT)
  ·exact .inr (z▸HC)
  ·exact .inr (z▸HT')
 ·obtain⟨hb,o1,q1⟩:=ns b o q;exact (n2 b o1 q1 hb).1
 ·obtain⟨hb,o1,q1⟩:=ns b o q;exact n2' b o1 q1 hb
section
variable {P:IM} {w:Jo} {K:Iq} {mg:Jb->Option Ir} {base:JD} {N:List Jb} {qual:Jb} {sc:La} {f:Iy} {cd:Ir} {A:Jr} {outer:List NS} {s:Iz} {H:Hp} {E:XK}
variable {elt target iter:JH} {ifs:List JH} {scope:La} {pos:Mn} {N':List Jb} {js:List (Option Nat)} {cl:List (Jb × Iy)} {wi:TI} {g:TG} {tt:TT} {te:TE}
theorem zL {X:Cx} {i0:Nat} {x0:Jb} {pos' pos2:Mn} (hN0:X.N.Nodup) (hi0:X.N[i0]?=Io x0) (hx0:Loc X.env.scope x0) (F':X.calm=true)
  (K:fI X N' js scope cl) (hi:PI X target iter wi)
  (hg:∀ C s₂ H₂ fp,iT X C s₂ H₂ fp->PG (bK X (E7 X C s₂ H₂ fp) N' scope cl C s₂ H₂ fp) target g) (ht:∀ C s₂ H₂ fp,iT X C s₂ H₂ fp->lr (bK X (E7 X C s₂ H₂ fp) N' scope cl C s₂ H₂ fp) ifs tt) (he:∀ C s₂ H₂ fp,iT X C s₂ H₂ fp->PE (bK X (E7 X C s₂ H₂ fp) N' scope cl C s₂ H₂ fp) elt te)
  (hsw:swapsWith (.ListComp elt [⟨target,iter,ifs,0⟩] scope pos) (Io (.Name x0 pos')) pos2.line X.env=pure true) (hf0:X.fn x0=true∨X.env.scope.names.lookup x0=Io .local)
  (hs:∀ x,foldedSetIterable iter X.env x=pure x:=by intro _;rfl):PS X (.Assign [.Name x0 pos'] (.ListComp elt [⟨target,iter,ifs,0⟩] scope pos) pos2) (uu (Gr js wi g tt te) (cn i0)) :=
 rO (Ex:=E7 X) hN0 hi0 hx0 F' K hi hg ht he Be hsw hf0 hs
end
end L2
namespace L2
open PySem PySem.Spec PyProof.Rows
def Cz (J:It) (g:TG) (tt:TT) (te:TE) (ys:List V) (σ:St) (N:List V->Hp->Prop) (H1:Hp):Prop:=∃ W:Nat->Nat->List V->Hp->Prop,(∃ m,W 0 m ys H1)/\∀ i m zs H,W i m zs H ->
 (J.stop i H/\N zs H) ∨
 (J.go i H/\zs.length<sizeLine/\∃ N2:List V->Hp->Prop,(∀ zs' H',N2 zs' H'->∃ m',m'<m/\W (i+1) m' zs' H') /\
  ∀ x H',J.yld i H x H'->g x σ H' λσ2 H2=>bE σ σ2/\tt σ2 H2 λb H3=>if b=true then te σ2 H3 λv H4=>N2 (zs++[v]) H4 else N2 zs H3)
theorem Dx {wi:TI} {g:TG} {tt:TT} {te:TE} {ys:List V} {σ:St} {H:Hp} {N:List V->Hp->Prop}:E8 wi g tt te ys σ H N=wi σ H λJ H1=>Cz J g tt te ys σ N H1:=rfl
def xA (J:It) (js:List (Option Nat)) (g1:TG) (tt1:TT) (wi2:TI) (g2:TG) (tt2:TT) (te:TE) (σ:St) (Q:VK) (H1:Hp):Prop:=∃ W:Nat->Nat->List V->Hp->Prop,(∃ m,W 0 m [] H1)/\∀ i m ys H,W i m ys H ->
 (J.stop i H/\ys.length<=sizeLine/\∀ p,H p=none->Q (.ref p) (upd H p (.lst ys))) ∨
 (J.go i H/\True/\∃ N:List V->Hp->Prop,(∀ ys' H',N ys' H'->∃ m',m'<m/\W (i+1) m' ys' H') /\
  ∀ x H',J.yld i H x H'->g1 x (cH js σ) H' λσ2 H2=>bE (cH js σ) σ2/\tt1 σ2 H2 λb H3=>if b=true then E8 wi2 g2 tt2 te ys σ2 H3 N else N ys H3)
theorem Cm {js:List (Option Nat)} {wi1 wi2:TI} {g1 g2:TG} {tt1 tt2:TT} {te:TE} {σ:St} {H:Hp} {Q:VK}:Gs js wi1 g1 tt1 wi2 g2 tt2 te σ H Q=wi1 σ H λJ H1=>xA J js g1 tt1 wi2 g2 tt2 te σ Q H1:=rfl
theorem tJ {K:Iq} {a:Iy} {xs ys:List V} {g:TG} {tt:TT} {te:TE} {σ:St} {N:List V->Hp->Prop} {H1:Hp} (Pv:Nat->List V->Hp->Prop) (h0:Pv 0 ys H1) (hl:∀ i zs H,i<=xs.length->Pv i zs H->aJ K H a xs/\zs.length<sizeLine)
  (hs:∀ i x zs H,xs[i]?=Io x->Pv i zs H->g x σ H λσ2 H2=>bE σ σ2/\tt σ2 H2 λb H3=>if b=true then te σ2 H3 λv H4=>Pv (i+1) (zs++[v]) H4 else Pv (i+1) zs H3)
  (hd:∀ zs H,Pv xs.length zs H->N zs H):Cz (AJ K a) g tt te ys σ N H1:=by
 refine⟨λi m zs H=>m=xs.length-i/\i<=xs.length/\Pv i zs H,⟨xs.length,by simp,J4 _,h0⟩,?_⟩;rintro i m zs H ⟨rfl,hi,p⟩;obtain⟨q,z⟩:=hl i zs H hi p;by_cases hlt:i<xs.length
 ·refine .inr ⟨⟨xs,xs[i],q,by simp [hlt]⟩,z,Pv (i+1),λzs' H' p'=>⟨xs.length-(i+1),by lia,rfl,hlt,p'⟩,λx H' y=>?_⟩;obtain⟨e,y⟩:=y;subst e;exact hs i x zs _ (y xs q) p
 ·have e:i=xs.length:=by lia
  subst e;exact .inl ⟨⟨xs,q,IF _⟩,hd zs H p⟩
theorem qJ {K:Iq} {a:Iy} {xs:List V} {js:List (Option Nat)} {g1 g2:TG} {tt1 tt2:TT} {wi2:TI} {te:TE} {σ:St} {Q:VK} {H1:Hp} (Pv:Nat->List V->Hp->Prop) (h0:Pv 0 [] H1) (hl:∀ i ys H,i<=xs.length->Pv i ys H->aJ K H a xs/\ys.length<=sizeLine)
  (hs:∀ i x ys H,xs[i]?=Io x->Pv i ys H->g1 x (cH js σ) H λσ2 H2=>bE (cH js σ) σ2/\tt1 σ2 H2 λb H3=>if b=true then E8 wi2 g2 tt2 te ys σ2 H3 (Pv (i+1)) else Pv (i+1) ys H3)
  (hd:∀ ys H p,Pv xs.length ys H->H p=none->Q (.ref p) (upd H p (.lst ys))):xA (AJ K a) js g1 tt1 wi2 g2 tt2 te σ Q H1:=by
 refine⟨λi m ys H=>m=xs.length-i/\i<=xs.length/\Pv i ys H,⟨xs.length,by simp,J4 _,h0⟩,?_⟩;rintro i m ys H ⟨rfl,hi,p⟩;obtain⟨q,z⟩:=hl i ys H hi p;by_cases hlt:i<xs.length
 ·refine .inr ⟨⟨xs,xs[i],q,by simp [hlt]⟩,True.intro,Pv (i+1),λys' H' p'=>⟨xs.length-(i+1),by lia,rfl,hlt,p'⟩,λx H' y=>?_⟩;obtain⟨e,y⟩:=y;subst e;exact hs i x ys _ (y xs q) p
 ·have e:i=xs.length:=by lia
  subst e;exact .inl ⟨⟨xs,q,IF _⟩,z,λq hq=>hd ys H q p hq⟩
theorem zE {X:Cx} {tg l:JH} {tl:TE} {K:Iq} (hK:X.K=K) (hl:PE X l tl):PI X tg l (yq K tl):=hK▸bp hl
end L2
namespace Sst
open PySem
def oJ (xs:Array Nat):Prop:=∀ i j,(h':i<j)->(h:j<xs.size)->xs[i]'(Qb h' h)<xs[j]
theorem lu {xs:Array Nat} (hr:oJ xs) (j:Nat):∀(fuel lo hi:Nat),hi-lo<=fuel->lo<=hi->hi<=xs.size->(∀ i,i<lo->(h:i<xs.size)->xs[i]<j)->(∀ i,hi<=i->(h:i<xs.size)->j<=xs[i]) ->
  ∃ r,SetTable.below.go xs j fuel lo hi=r/\r<=xs.size/\(∀ i,i<r->(h:i<xs.size)->xs[i]<j)/\(∀ i,r<=i->(h:i<xs.size)->j<=xs[i])
 | 0,lo,hi,h1,h2,h3,h4,h5=>⟨lo,rfl,by lia,h4,by
   have:lo=hi:=by lia
   subst this;exact h5⟩
 | fuel+1,lo,hi,h1,h2,h3,h4,h5=>by
  unfold SetTable.below.go;by_cases c:lo<hi
  ·rw [if_pos c];dsimp only;have hm:(lo+hi)/2<xs.size:=by lia
   have hg:xs.getD ((lo+hi)/2) j=xs[(lo+hi)/2]:=by simp [Array.getD,hm]
   rw [hg];by_cases d:xs[(lo+hi)/2]<j
   ·rw [if_pos d];refine lu hr j fuel _ hi (by lia) (by lia) h3 (λi hi' h=>?_) h5;rcases (by lia:i<(lo+hi)/2∨i=(lo+hi)/2) with z | z
    ·exact Qb (hr i _ z hm) d
    ·subst z;exact d
   ·rw [if_neg d];refine lu hr j fuel lo _ (by lia) (by lia) (by lia) h4 (λi hi' h=>?_);rcases (by lia:(lo+hi)/2<i∨i=(lo+hi)/2) with z | z
    ·exact IJ (Ls.mp d) (M5 (hr _ i z h))
    ·subst z;exact Ls.mp d
  ·rw [if_neg c];have:lo=hi:=by lia
   subst this;exact⟨lo,rfl,h3,h4,h5⟩
theorem ly {xs:Array Nat} (hr:oJ xs) (j:Nat):JT xs j<=xs.size/\(∀ i,i<JT xs j->(h:i<xs.size)->xs[i]<j)/\(∀ i,JT xs j<=i->(h:i<xs.size)->j<=xs[i]):=by obtain⟨r,e,h⟩:=lu hr j xs.size 0 xs.size (by lia) (by lia) (IF _) (λi h=>by lia) (λi h h'=>by lia);unfold JT;rw [e];exact h
theorem sP {xs:Array Nat} (hr:oJ xs) {i:Nat} (hi:i<xs.size):JT xs (xs[i]+1)=i+1:=by
 obtain⟨h1,h2,h3⟩:=ly hr (xs[i]+1);rcases (by lia:JT xs (xs[i]+1)<=i∨JT xs (xs[i]+1)=i+1∨i+1<JT xs (xs[i]+1)) with z | z | z
 ·have:=h3 i z hi;lia
 ·exact z
 ·have h4:=h2 (i+1) z (by lia);have h5:=hr i (i+1) (by lia) (by lia);lia
theorem sQ {xs:Array Nat} (hr:oJ xs):JT xs 0=0:=by
 obtain⟨h1,h2,h3⟩:=ly hr 0;rcases Jy (JT xs 0) with z | z
 ·exact z
 ·have:=h2 0 z (by lia);lia
theorem rV {xs:Array Nat} (hr:oJ xs) {j:Nat} (hj:xs[JT xs j]?≠Io j):oJ (Li xs (JT xs j) j):=by
 obtain⟨h1,h2,h3⟩:=ly hr j;generalize JT xs j=p at *;have h3':∀ i,p<=i->(h:i<xs.size)->j<xs[i]:=by
  intro i hi h;have:=h3 i hi h;rcases (by lia:p=i∨p<i) with z | z
  ·subst z;have:xs[p]≠j:=λe=>hj (by rw [IS h,e]);lia
  ·have h4:=h3 p (IF _) (by lia);have h5:=hr p i z h;lia
 have hs:(Li xs p j).size=xs.size+1:=by unfold Li;simp;lia
 have get:∀ i,(h:i<(Li xs p j).size)->(Li xs p j)[i]?=if i<p then xs[i]? else if i=p then Io j else xs[i-1]?:=by
  intro i h;rw [hs] at h;unfold Li;rw [Array.getElem?_append];have e1:((xs.extract 0 p).push j).size=p+1:=by simp;lia
  rw [e1];by_cases c:i<p+1
  ·rw [if_pos c,Array.getElem?_push];have e2:(xs.extract 0 p).size=p:=by simp;lia
   rw [e2];by_cases d:i=p
   ·rw [if_pos d,if_neg (by lia),if_pos d]
   ·rw [if_neg d,if_pos (by lia),Qc];simp;lia
  ·rw [if_neg c,if_neg (by lia),if_neg (by lia),Qc];rw [if_pos (by lia)];congr 1;lia
 intro a b ab hb;have ga:=get a (by lia);have gb:=get b hb;rw [IS (by lia)] at ga;rw [IS hb] at gb;generalize (Li xs p j)[a]'(by lia)=va at *;generalize (Li xs p j)[b]=vb at *;rw [hs] at hb;by_cases c1:a<p
 ·rw [if_pos c1,IS (show a<xs.size by lia)] at ga;injection ga with ga
  by_cases c2:b<p
  ·rw [if_pos c2,IS (show b<xs.size by lia)] at gb;injection gb with gb
   rw [ga,gb];exact hr a b ab (by lia)
  ·rw [if_neg c2] at gb;have ha:=h2 a c1 (by lia);by_cases c3:b=p
   ·rw [if_pos c3] at gb;injection gb with gb
    rw [ga,gb];exact ha
   ·rw [if_neg c3,IS (show b-1<xs.size by lia)] at gb;injection gb with gb
    rw [ga,gb];exact Qb ha (h3' (b-1) (by lia) (by lia))
 ·rw [if_neg c1] at ga;rw [if_neg (by lia:¬b<p),if_neg (by lia:¬b=p),IS (show b-1<xs.size by lia)] at gb;injection gb with gb
  by_cases c3:a=p
  ·rw [if_pos c3] at ga;injection ga with ga
   rw [ga,gb];exact h3' (b-1) (by lia) (by lia)
  ·rw [if_neg c3,IS (show a-1<xs.size by lia)] at ga;injection ga with ga
   rw [ga,gb];exact hr (a-1) (b-1) (by lia) (by lia)
theorem iM {t:LA} {f:Nat->Int} {h:Int}:∀(fuel:Nat) (p:SetTable.Probe) {j:Nat} {dm:Option Nat},(∀ d,p.dummy=Io d->t.slot d=.dummy)->SetTable.probe.go t f h fuel p=Io (.empty j dm)->t.slot j=.empty/\∀ d,dm=Io d->t.slot d=.dummy
 | 0,p,j,dm,_,e=>by cases e
 | fuel+1,p,j,dm,hd,e=>by
  unfold SetTable.probe.go at e;cases es:t.slot p.j with
  | empty =>rw [es] at e;cases e;exact⟨es,hd⟩
  | dummy =>rw [es] at e;refine iM fuel _ (λd hd'=>?_) e;unfold So at hd';split at hd'<;>(dsimp only at hd';cases hd';exact es)
  | live i =>
   rw [es] at e;dsimp only at e;split at e
   ·cases e
   ·refine iM fuel _ (λd hd'=>?_) e;unfold So at hd';split at hd'<;>exact hd d hd'
theorem oo {t:LA} {j:Nat} (h:t.slot j=.empty∨t.slot j=.dummy):t.place[JT t.place j]?≠Io j:=by intro e;unfold SetTable.slot at h;dsimp only at h;rw [if_pos (by rw [e];simp)] at h;rcases h with h | h<;>cases h
theorem mR {t:LA} {h:Int} {j:Nat} {b:Bool} (e:t.freeSlot h=Io (j,b)):t.place[JT t.place j]?≠Io j:=by
 unfold SetTable.freeSlot at e;split at e
 ·rename_i j' dm hp;obtain⟨h1,h2⟩:=iM _ _ (λd hd=>by cases hd) hp;injection e with e
  injection e with e1 e2
  cases dm with
  | none =>have:j'=j:=e1;subst this;exact oo (.inl h1)
  | some d =>have:d=j:=e1;subst this;exact oo (.inr (h2 d rfl))
 ·cases e
structure Led (t:LA):Prop where
 led:t.led=true
 rise:t.plain=true->oJ t.place
theorem Led.fresh:Led (SetTable.fresh 0 0 true):=⟨rfl,λ_ i j _ h=>absurd h (Nq _)⟩
theorem Led.standIn {t:LA} (h:Led t) (n:Nat):Led (t.standIn n):=⟨h.led,λz=>by cases z⟩
theorem Led.layNew {t:LA} (h:Led t) (es:Array (Int × Ir)) (hh:Int) (x:Ir):Led (UJ t es hh x).2.1:=by
 unfold UJ;split
 ·rename_i slot wd e;dsimp only;unfold SetTable.orStandIn;split
  ·exact⟨h.led,λz=>rV (h.rise z) (mR e)⟩
  ·exact⟨h.led,λz=>by cases z⟩
 ·exact h.standIn _
theorem BZ {l:List Nat} (h:l.Pairwise (·<·)):oJ l.toArray:=by intro i j ij hj;have:=LY.mp h i j (by simp at hj;lia) (by simpa using hj) ij;simpa using this
theorem w5 (n:Nat) (f:Nat->Option Nat):(((Ky n).filterMap λj=>(f j).map (j,·)).map (·.1)).Pairwise (·<·):=by rw [L9,List.pairwise_filterMap];refine Vs ?_ ME;intro a b ab x hx y hy;obtain⟨u,_,rfl⟩:=IE.mp hx;obtain⟨v,_,rfl⟩:=IE.mp hy;exact ab
theorem Led.relayAll {t:LA} (h:Led t) (es:Array (Int × Ir)) (n:Nat):Led (Tu t es n).2.1:=by
 unfold Tu;split
 ·rename_i t' order e;dsimp only;split
  ·unfold SetTable.relaid SetTable.laid at e;simp only [Option.bind_eq_bind,Option.bind_eq_some_iff,Option.pure_def,NM,Prod.mk.injEq] at e;obtain⟨owner,_,e1,_⟩:=e;subst e1;exact⟨h.led,λ_=>BZ (w5 _ λj=>owner.getD j none)⟩
  ·exact h.standIn _
 ·exact h.standIn _
end Sst
namespace Sst
open PySem
def nV:Ir->Int
 | .int n _=>n
 | _=>0
def xK (w:Jo):Bool:=w.params.followText "set-order"
def iV (prog:IM) (w:Jo) (h:JD) (a:Iy) (ks:List Int):Prop :=
 ∃ o es ep t,h.get? a=Io o/\o.ExactSet/\o.data=.set es ep t/\UK (intKind prog w) es.toList/\(es.toList.map λe=>nV e.2).Perm ks/\es.size<scanBound/\t.fits es.size=true/\(xK w=false->Led t)
section
variable {prog:IM} {w:Jo} {A:Jr} {E:Ir->Iz->Prop} {s:Iz}
theorem oU {es:List (Int × Ir)} (h:UK (intKind prog w) es) {e:Int × Ir} (he:e∈es):∃ t,e.2=.int (nV e.2) t:=by obtain⟨⟨k,hk,_⟩,_⟩:=h e he;obtain⟨t,ht⟩:=RC hk;exact⟨t,by rw [ht];rfl⟩
theorem yy {k:Int} {v:Ir} {t:Tok} (hv:v=.int (nV v) t):(intKind prog w).is k v=true↔nV v=k:=by rw [hv];show MS k (.int (nV v) t)=true↔nV v=k;simp [MS,nV]
theorem iV.eQ {h h':JD} {a:Iy} {ks:List Int} (hS:iV prog w h a ks) (k:∀ o,h.get? a=Io o->h'.get? a=Io o):iV prog w h' a ks:=by obtain⟨o,es,ep,t,h1,h2⟩:=hS;exact⟨o,es,ep,t,k o h1,h2⟩
theorem stored {h:JD} {a:Iy} {o:K9} {es:Array (Int × Ir)} {ep:Nat} {t:LA} (ho:h.get? a=Io o) (hd:o.data=.set es ep t) (es':Array (Int × Ir)) (t':LA) :
  (h.update a (Tv es' t')).get? a=Io { o with data:=.set es' (ep+1) t' }:=by
 rw [<- putSet_of es' t' hd];exact Jx (Tv es' t') ho (by rw [putSet_of es' t' hd];rfl)
theorem Hc {a:Iy} {ks:List Int} {k:Int} {tk:Tok} {Q:Bool->Iz->Prop} (hS:iV prog w s.heap a ks) (room:ks.length+1<scanBound)
  (q:∀(b:Bool) h',Ku a s.heap h'->iV prog w h' a (if k∈ks then ks else ks++[k])->Q b { s with heap:=h' }) :
  wpAny (model prog w) A (setAddHashed a (.int k tk) (hashInt k)) Q E s:=by
 obtain⟨o,es,ep,t,ho,hex,hd,hel,hks,hb,hf,hl⟩:=hS;have hkey:(intKind prog w).is k (.int k tk)=true:=by show MS k (.int k tk)=true;simp [MS]
 have hsc:(ML k tk).scannable=true:=rfl;have sz:es.size=ks.length:=by rw [<- hks.length_eq,Iu,Jw]
 unfold setAddHashed setAddHashedIn;refine Kl (Ip (Me ho hd hf ?_));dsimp only;rw [byScan_of hsc hb hel,if_pos rfl];unfold setAddByScan;refine Ip (Ip (Nu (Ip (wpAny_setScan_of (knd:=intKind prog w) hkey ho hd hf hel ?_))));cases hr:es.toList.findIdx? (λe=>(intKind prog w).is k e.2) with
 | some j =>
  obtain⟨hj,hpj,_⟩:=List.findIdx?_eq_some_iff_getElem.mp hr;have hin:k∈ks:=by refine hks.mem_iff.mp (IV.mpr ⟨_,LR hj,?_⟩);obtain⟨u,hu⟩:=oU hel (LR hj);exact (yy hu).mp hpj
  refine IA (IA ?_);have:=q false s.heap (Vt a s.heap) (by rw [if_pos hin];exact⟨o,es,ep,t,ho,hex,hd,hel,hks,hb,hf,hl⟩);exact this
 | none =>
  have hout:k∉ks:=λhk=>by obtain⟨e,he,ek⟩:=IV.mp (hks.mem_iff.mpr hk);have h1:=List.findIdx?_eq_none_iff.mp hr e he;obtain⟨u,hu⟩:=oU hel he;rw [(yy hu).mpr ek] at h1;cases h1
  rw [if_neg hout] at q;have hp:=layNew_perm t es (hashInt k) (.int k tk);have hf1:=layNew_fits t es (hashInt k) (.int k tk);have hl1:xK w=false->Led (layNew t es (hashInt k) (.int k tk)).2.1:=λz=>(hl z).layNew _ _ _;generalize layNew t es (hashInt k) (.int k tk)=R at hp hf1 hl1 ⊢;obtain⟨es1,t1,wd,gave⟩:=R;dsimp only at hp hf1 hl1 ⊢;have gw:∀(b:Bool) {s':Iz} {P:Unit->Iz->Prop},P () s'->wpAny (model prog w) A (match b with | true=>rule "set.scan.the-table-gave-way" | false=>pure ()) P E s':=by
   intro b s' P z;cases b
   ·exact IA z
   ·exact Nu z
  rw [RZ] at hp;have hel1:UK (intKind prog w) es1.toList:=(hel.push hkey hsc).perm hp;have hks1:(es1.toList.map λe=>nV e.2).Perm (ks++[k]):=by refine (hp.map _).trans ?_;rw [IT];exact hks.append (List.Perm.refl _)
  have sz1:es1.size=ks.length+1:=by have:=hks1.length_eq;rw [Iu,Jw,Js] at this;exact this
  have hb1:es1.size<scanBound:=by lia
  -- the last rows,with any table
  have fin:∀{t2:LA},t2.fits es1.size=true->(xK w=false->Led t2)->wpAny (model prog w) A (do
    storeSet a es1 t2
    if (!wd && t2.tooFull)=true then do
     (match (relayAll t2 es1 (Mw es1.size)).2.2 with | true=>rule "set.scan.the-table-gave-way" | false=>pure ())
     storeSet a (relayAll t2 es1 (Mw es1.size)).1 (relayAll t2 es1 (Mw es1.size)).2.1
     pure (Io true)
    else pure (Io true)) (λr s'=>wpAny (model prog w) A (match r with | some added=>pure added | none=>setAddHashedIn a (.int k tk) (hashInt k) 99999) Q E s') E s:=by
   intro t2 hf2 hl2;refine Ip (R0 ho hd ?_ (Px hb1));have g1:=stored ho hd es1 t2;have sb1:=JV s.heap a (Tv es1 t2);split
   ·have rp:=relayAll_perm t2 es1 (Mw es1.size);have rf:=relayAll_fits t2 es1 (Mw es1.size);have rl:xK w=false->Led (relayAll t2 es1 (Mw es1.size)).2.1:=λz=>(hl2 z).relayAll _ _;generalize relayAll t2 es1 (Mw es1.size)=R2 at rp rf rl ⊢;obtain⟨es2,t3,gave2⟩:=R2;dsimp only at rp rf rl ⊢;have sz2:es2.size=es1.size:=by rw [<- Jw,rp.length_eq,Jw]
    have hb2:es2.size<scanBound:=by lia
    refine Ip (gw _ (Ip (R0 g1 rfl (IA (IA (q true _ (sb1.trans (JV _ a _)) ?_))) (Px hb2))));exact⟨_,es2,_,t3,stored g1 rfl es2 t3,hex,rfl,hel1.perm rp,(rp.map _).trans hks1,hb2,rf,rl⟩
   ·exact IA (IA (q true _ sb1 ⟨_,es1,_,t2,g1,hex,rfl,hel1,hks1,hb1,hf2,hl2⟩))
  refine Ip (gw _ ?_);split
  ·refine Ip ?_;rw [hashByValue_scannable 8 hsc];refine IA ?_;exact fin hf1 hl1
  ·refine Ip (IA ?_);exact fin hf1 hl1
end
end Sst
namespace Sst
open PySem PyProof.Rows
theorem slot_next:Slot "set_iterator" "__next__" "set_iterator.__next__" :=
 .of (owner := "set_iterator") (n := "__next__") (by rw [Ql,NZ];kernel_rfl) (by decide +kernel) (by decide +kernel) (by decide +kernel)
  (by first | exact .inl (by decide +kernel) | exact .inr (by decide +kernel)) (by rw [OX];kernel_rfl)
theorem entry_next:entryFor table "set_iterator.__next__"=Io Mo.«set_iterator.__next__»:=entryFor_of_fast (by kernel_rfl)
theorem args_next (a:Ir):argsOk "set_iterator.__next__" ⟨[a],[]⟩:=by unfold argsOk;kernel_rfl
theorem oq:Slot "set" "__iter__" "set.__iter__" :=
 .of (owner := "set") (n := "__iter__") (by rw [Ql,NZ];kernel_rfl) (by decide +kernel) (by decide +kernel) (by decide +kernel)
  (by first | exact .inl (by decide +kernel) | exact .inr (by decide +kernel)) (by rw [OX];kernel_rfl)
theorem tF:entryFor table "set.__iter__"=Io Mo.«frozenset.__iter__» :=
 Tw (id' := "frozenset.__iter__") (by kernel_rfl) rfl (by decide +kernel) (by kernel_rfl)
theorem vO (a:Ir):argsOk "set.__iter__" ⟨[a],[]⟩:=by unfold argsOk;kernel_rfl
def eS (h:JD) (it:Iy) (first:Ir) (i:Nat) (a:Iy) (n ep:Nat):Prop:=∃ o,h.get? it=Io o/\o.cls=.type "set_iterator"/\o.data=.fields #[first,.int i 0,.ref a,.int n 0,.int ep 0]
theorem eS.typeIs {s:Iz} {it a:Iy} {first:Ir} {i n ep:Nat} (h:eS s.heap it first i a n ep):s.TypeIs (.ref it) "set_iterator":=by obtain⟨o,ho,hc,_⟩:=h;exact⟨o,ho,hc⟩
section
variable {prog:IM} {w:Jo} {A:Jr} {E:Ir->Iz->Prop} {s:Iz}
theorem eS.Gi {h:JD} {it a:Iy} {first:Ir} {i n ep:Nat} {o:K9} (ho:h.get? it=Io o) (hc:o.cls=.type "set_iterator") (hd:o.data=.fields #[first,.int i 0,.ref a,.int n 0,.int ep 0]) :
  eS (h.update it (Kn (·.setIfInBounds 1 (rawInt ((i:Int)+1))))) it first (i+1) a n ep :=
 ⟨_,Jx _ ho (Ln (Ko hd _)),(Pu ..).trans hc,by rw [Ko hd];simp [rawInt]⟩
theorem eS.Gh {h:JD} {it a:Iy} {first:Ir} {i n ep k:Nat} {o:K9} (ho:h.get? it=Io o) (hc:o.cls=.type "set_iterator") (hd:o.data=.fields #[first,.int i 0,.ref a,.int n 0,.int ep 0]) :
  eS (h.update it (Kn (·.setIfInBounds 0 (rawInt (k:Int))))) it (.int k 0) i a n ep :=
 ⟨_,Jx _ ho (Ln (Ko hd _)),(Pu ..).trans hc,by rw [Ko hd];simp [rawInt]⟩
theorem zY {b:Iy} {o:K9} {xs:Array Ir} {n:Nat} {Q:Option (Array Ir)->Iz->Prop} (ho:s.heap.get? b=Io o) (hd:o.data=.seq xs n) (h:Q (Io xs) s):wpAny (model prog w) A (seqItems? (.ref b)) Q E s:=by unfold seqItems?;refine Ip (Tf ho ?_);rw [hd];exact IA h
theorem yN {it a:Iy} {slot nx i ep:Nat} {o:K9} {es:Array (Int × Ir)} {t:LA} {x:Ir} {Q:Option Ir->Iz->Prop}
  (hit:eS s.heap it (.int slot 0) i a es.size ep) (ho:s.heap.get? a=Io o) (hd:o.data=.set es ep t) (hf:t.fits es.size=true)
  (hn:∀{P:Option (Ir × Nat)->Iz->Prop} {E:Ir->Iz->Prop},P (Io (x,nx)) s->wpAny (model prog w) A.in1 (setNext a slot i ep) P E s)
  (q:∀ h',eS h' it (.int nx 0) (i+1) a es.size ep->Ku it s.heap h'->Q (Io x) { s with heap:=h' }):wpAny (model prog w) A (pyNext (.ref it)) Q E s:=by
 obtain⟨oi,hoi,hci,hdi⟩:=id hit;unfold pyNext;refine Ip (MM (JK (name:=J6 "__next__") hit.typeIs slot_next (JW slot_next hit.typeIs entry_next ?_ (args_next _))));refine Ip (m:=slotArgs "__next__" 0 _) (IA ?_);refine Ip (M3 hoi hdi ?_);dsimp only;refine Ip (Mq ho hd hf ?_);rw [if_neg (by simp)];show wpAny _ _ (setNext a ((slot:Int).toNat) ((i:Int).toNat) ((ep:Int).toNat) >>= _) _ _ _;rw [IX,IX,IX];refine Ip (hn ?_);dsimp only;refine Ip (Kg hoi hdi (by simp) ?_);obtain⟨o2,ho2,hc2,hd2⟩:=eS.Gh (k:=nx) hoi hci hdi;refine Ip (Kg ho2 hd2 (by simp) ?_);have h3:=eS.Gi ho2 hc2 hd2;exact IA ⟨_,rfl,IA (q _ h3 ((JV s.heap it _).trans (JV _ it _)))⟩
theorem Bb {it a:Iy} {slot i ep:Nat} {o:K9} {es:Array (Int × Ir)} {t:LA} {Q:Option Ir->Iz->Prop} (hh:A.handled=none)
  (hit:eS s.heap it (.int slot 0) i a es.size ep) (ho:s.heap.get? a=Io o) (hd:o.data=.set es ep t) (hf:t.fits es.size=true)
  (hn:∀{P:Option (Ir × Nat)->Iz->Prop} {E:Ir->Iz->Prop},P none s->wpAny (model prog w) A.in1 (setNext a slot i ep) P E s)
  (q:∀ h',Oj it s.heap h'->Q none { s with heap:=h' }):wpAny (model prog w) A (pyNext (.ref it)) Q E s:=by
 obtain⟨oi,hoi,hci,hdi⟩:=id hit;unfold pyNext;refine Ip (MM (JK (name:=J6 "__next__") hit.typeIs slot_next (JW slot_next hit.typeIs entry_next ?_ (args_next _))));refine Ip (m:=slotArgs "__next__" 0 _) (IA ?_);refine Ip (M3 hoi hdi ?_);dsimp only;refine Ip (Mq ho hd hf ?_);rw [if_neg (by simp)];show wpAny _ _ (setNext a ((slot:Int).toNat) ((i:Int).toNat) ((ep:Int).toNat) >>= _) _ _ _;rw [IX,IX,IX];refine Ip (hn ?_);dsimp only;refine Ip (Kg hoi hdi (by simp) ?_);refine Ip ?_;simp only [newExc,newTuple];refine Ip (Jt ?_ (by size_fits));refine Ip (m:=firstArgMember _ _) (Pk (a:=Kj) (by first | rfl | (simp only [firstArgMember];rfl)) ?_);refine Jt ?_ (by size_fits);simp only [raiseNew];refine Ip (Rl ?_);rw [show A.in1.handled=none from hh];refine Ip (IA (QT ?_));refine Ip (M9 (T := "StopIteration") (b:=true) ⟨_,II _ rfl,rfl⟩ QU ?_);exact IA (q _ (((JV ..).extBut.push _).push _))
theorem Bt {it a tp:Iy} {i ep j:Nat} {o:K9} {es:Array (Int × Ir)} {t:LA} {ps:Array Ir} {x:Int × Ir} {Q:Option Ir->Iz->Prop}
  (hit:eS s.heap it (.ref tp) i a es.size ep) (htp:QE s.heap tp ps) (hj:ps[i]?=Io (.int j 0)) (hx:es[j]?=Io x) (ho:s.heap.get? a=Io o) (hd:o.data=.set es ep t) (hf:t.fits es.size=true)
  (q:∀ h',eS h' it (.ref tp) (i+1) a es.size ep->Ku it s.heap h'->Q (Io x.2) { s with heap:=h' }):wpAny (model prog w) A (pyNext (.ref it)) Q E s:=by
 obtain⟨oi,hoi,hci,hdi⟩:=id hit;obtain⟨ot,hot,hct,nt,hdt⟩:=htp;unfold pyNext;refine Ip (MM (JK (name:=J6 "__next__") hit.typeIs slot_next (JW slot_next hit.typeIs entry_next ?_ (args_next _))));refine Ip (m:=slotArgs "__next__" 0 _) (IA ?_);refine Ip (M3 hoi hdi ?_);dsimp only;refine Ip (Mq ho hd hf ?_);rw [if_neg (by simp)];show wpAny _ _ (seqItems? (.ref tp) >>= _) _ _ _;refine Ip (zY hot hdt ?_);dsimp only;rw [IX,hj];dsimp only;rw [IX,IX];unfold setNextDrawn;refine Ip (Ip (Me ho hd hf ?_));dsimp only;rw [if_neg (by simp),hx];refine IA (Ip (Kg hoi hdi (by simp) ?_));exact IA ⟨_,rfl,IA (q _ (eS.Gi hoi hci hdi) (JV s.heap it _))⟩
theorem DO {it a tp:Iy} {i ep:Nat} {o:K9} {es:Array (Int × Ir)} {t:LA} {ps:Array Ir} {Q:Option Ir->Iz->Prop} (hh:A.handled=none)
  (hit:eS s.heap it (.ref tp) i a es.size ep) (htp:QE s.heap tp ps) (hj:ps[i]?=none) (ho:s.heap.get? a=Io o) (hd:o.data=.set es ep t) (hf:t.fits es.size=true)
  (q:∀ h',Oj it s.heap h'->Q none { s with heap:=h' }):wpAny (model prog w) A (pyNext (.ref it)) Q E s:=by
 obtain⟨oi,hoi,hci,hdi⟩:=id hit;obtain⟨ot,hot,hct,nt,hdt⟩:=htp;unfold pyNext;refine Ip (MM (JK (name:=J6 "__next__") hit.typeIs slot_next (JW slot_next hit.typeIs entry_next ?_ (args_next _))));refine Ip (m:=slotArgs "__next__" 0 _) (IA ?_);refine Ip (M3 hoi hdi ?_);dsimp only;refine Ip (Mq ho hd hf ?_);rw [if_neg (by simp)];show wpAny _ _ (seqItems? (.ref tp) >>= _) _ _ _;refine Ip (zY hot hdt ?_);dsimp only;rw [IX,hj];dsimp only;refine Ip (Kg hoi hdi (by simp) ?_);obtain⟨o2,ho2,hc2,hd2⟩:=eS.Gh (k:=0) hoi hci hdi;refine Ip (Kg ho2 hd2 (by simp) ?_);refine Ip ?_;simp only [newExc,newTuple];refine Ip (Jt ?_ (by size_fits));refine Ip (m:=firstArgMember _ _) (Pk (a:=Kj) (by first | rfl | (simp only [firstArgMember];rfl)) ?_);refine Jt ?_ (by size_fits);simp only [raiseNew];refine Ip (Rl ?_);rw [show A.in1.handled=none from hh];refine Ip (IA (QT ?_));refine Ip (M9 (T := "StopIteration") (b:=true) ⟨_,II _ rfl,rfl⟩ QU ?_);exact IA (q _ (((((JV s.heap it _).trans (JV _ it _)).extBut).push _).push _))
end
end Sst
namespace Sst
open PySem PyProof.Rows
theorem nS {α:Type} (f:Nat->Nat):∀(fuel k:Nat) (left:List α) (out:Array α),left.length=fuel->(pickOrder.go f fuel k left out).toList.Perm (out.toList++left)
 | 0,k,left,out,h=>by have:left=[]:=NA.mp h;subst this;unfold pickOrder.go;simp
 | fuel+1,k,left,out,h=>by
  unfold pickOrder.go;have hl:f k%left.length<left.length:=Nx _ (by lia);rw [Iv hl];dsimp only;refine (nS f fuel (k+1) _ _ (by rw [OY hl];lia)).trans ?_;rw [RZ,Pl];refine List.Perm.append_left _ ?_;generalize f k%left.length=j at *;have e:left=left.take j++left[j]::left.drop (j+1):=by rw [Qd,Lo]
  rw [Mm];refine Qm ?_ (Qn e.symm);show (left[j]::(left.take j++left.drop (j+1))).Perm _;exact Sr.symm
theorem zF {α:Type} (f:Nat->Nat) (xs:Array α):(pickOrder f xs).toList.Perm xs.toList:=by unfold pickOrder;have:=nS f xs.size 0 xs.toList #[] (by simp);simpa using this
section
variable {prog:IM} {w:Jo} {A:Jr} {E:Ir->Iz->Prop} {s:Iz}
theorem vI {Q:Bool->Iz->Prop} (h:Q (xK w) s):wpAny (model prog w) A setsByText Q E s:=by unfold setsByText;exact Ip (N7 (IA h))
theorem AZ {src:Source} {n:Nat} {Q:Nat->Iz->Prop} (hn:n≠0) (h:∀ i,i<n->Q i { s with drawn:=s.drawn.bump src }):wpAny (model prog w) A (choose src n) Q E s :=
 λΓ p hΓ=>⟨hn,h _ (Nx _ (by lia))⟩
theorem CJ {α:Type}:∀{n:Nat} {xs:List α} {s:Iz} {Q:List α->Iz->Prop},xs.length=n->(∀ ys d,ys.Perm xs->Q ys { s with drawn:=d })->wpAny (model prog w) A (drawOrder n xs) Q E s
 | 0,xs,s,Q,hl,h=>by have:xs=[]:=NA.mp hl;subst this;unfold drawOrder;exact IA (h [] s.drawn (.refl _))
 | n+1,[],s,Q,hl,h=>by simp at hl
 | n+1,x::xs,s,Q,hl,h=>by
  unfold drawOrder;refine Ip (AZ (by simp) λi hi=>?_);rw [Iv hi];dsimp only;refine Ip (CJ (by rw [OY hi];lia) λys d p=>IA (h _ d ?_));generalize x::xs=l at *;have e:l=l.take i++l[i]::l.drop (i+1):=by rw [Qd,Lo]
  refine Qm (p.cons _) ?_;rw [Mm];exact Qm Sr.symm (Qn e.symm)
theorem oY {es:Array (Int × Ir)}:∀{js:List Nat},(∀ j∈js,j<es.size)->(js.filterMap λj=>es[j]?.map (·.2))=js.map λj=>((es[j]?.map (·.2)).getD .none)
 | [],_=>rfl
 | j::js,h=>by have hj:=h j (IH ..);rw [KO,Jz,oY λk hk=>h k (IG _ hk),IS hj];rfl
theorem uW {a:Iy} {slot i ep:Nat} {o:K9} {es:Array (Int × Ir)} {t:LA} {P:Option (Ir × Nat)->Iz->Prop} (hT:xK w=true) (ho:s.heap.get? a=Io o) (hd:o.data=.set es ep t) (hf:t.fits es.size=true)
  (h:P ((pickOrder (w.params.setOrder a ep) es)[i]?.map λe=>(e.2,slot)) s):wpAny (model prog w) A (setNext a slot i ep) P E s:=by
 unfold setNext;refine Ip (Me ho hd hf ?_);dsimp only;refine Ip (vI ?_);rw [hT,if_pos rfl,if_neg (by simp)];refine Ip ?_;unfold setWalk;refine Ip (Me ho hd hf ?_);dsimp only;refine Ip (vI ?_);rw [hT,if_pos rfl];refine Ip (N7 ?_);exact IA (IA h)
theorem rC {a:Iy} {slot i ep:Nat} {o:K9} {es:Array (Int × Ir)} {t:LA} {P:Option (Ir × Nat)->Iz->Prop} (hT:xK w=false) (hp:t.plain=true∨es.size<=1) (hl:t.led=true) (ho:s.heap.get? a=Io o) (hd:o.data=.set es ep t) (hf:t.fits es.size=true)
  (h:P (match es[JT t.place slot]?,t.place[JT t.place slot]? with | some (_,x),Io j=>Io (x,j+1) | _,_=>none) s):wpAny (model prog w) A (setNext a slot i ep) P E s:=by
 unfold setNext;refine Ip (Me ho hd hf ?_);dsimp only;refine Ip (vI ?_);rw [hT,if_neg (by simp),if_neg]
 ·refine Ip ?_;show wpAny _ _ (if (!t.led && !es.isEmpty)=true then unsupported _ else pure ()) _ _ _;rw [if_neg (by rw [hl];simp)];exact IA (IA h)
 ·show ¬(!t.plain && decide (es.size > 1))=true;rcases hp with z | z
  ·rw [z];simp
  ·simp;intro _;lia
theorem slot_self:Slot "set_iterator" "__iter__" "set_iterator.__iter__" :=
 .of (owner := "set_iterator") (n := "__iter__") (by rw [Ql,NZ];kernel_rfl) (by decide +kernel) (by decide +kernel) (by decide +kernel)
  (by first | exact .inl (by decide +kernel) | exact .inr (by decide +kernel)) (by rw [OX];kernel_rfl)
theorem entry_self:entryFor table "set_iterator.__iter__"=Io Mo.«dict_keyiterator.__iter__» :=
 Tw (id' := "dict_keyiterator.__iter__") (by kernel_rfl) rfl (by decide +kernel) (by kernel_rfl)
theorem args_self (a:Ir):argsOk "set_iterator.__iter__" ⟨[a],[]⟩:=by unfold argsOk;kernel_rfl
theorem C9 {it a:Iy} {first:Ir} {i n ep:Nat} {Q:Ir->Iz->Prop} (hit:eS s.heap it first i a n ep) (h:Q (.ref it) s):wpAny (model prog w) A (pyIter (.ref it)) Q E s:=by refine Pt hit.typeIs slot_self (JW slot_self hit.typeIs entry_self ?_ (args_self _));show wpAny _ _ (ret (.ref it)) _ _ s;exact IA ⟨_,rfl,"set_iterator",_,hit.typeIs,slot_next.lookup,h⟩
theorem eS.eQ {h h':JD} {it a:Iy} {first:Ir} {i n ep:Nat} (x:eS h it first i a n ep) (k:∀ o,h.get? it=Io o->h'.get? it=Io o):eS h' it first i a n ep:=by obtain⟨o,h1,h2⟩:=x;exact⟨o,k o h1,h2⟩
theorem AD (hh:A.handled=none) {I a:Iy} (ne:a≠I) {o:K9} {es:Array (Int × Ir)} {ep:Nat} {t:LA} (hd:o.data=.set es ep t) (hf:t.fits es.size=true) (ord:Array Ir) (slot:Nat->Nat)
  (hi:∀ i,i<es.size->∃ x,ord[i]?=Io x/\∀{A:Jr} {s:Iz} {P:Option (Ir × Nat)->Iz->Prop} {E:Ir->Iz->Prop},s.heap.get? a=Io o->P (Io (x,slot (i+1))) s->wpAny (model prog w) A (setNext a (slot i) i ep) P E s)
  (he:∀{A:Jr} {s:Iz} {P:Option (Ir × Nat)->Iz->Prop} {E:Ir->Iz->Prop},s.heap.get? a=Io o->P none s->wpAny (model prog w) A (setNext a (slot es.size) es.size ep) P E s) :
  Walks prog w A I [I,a] [I] es.size (λi v=>ord[i]?=Io v) (λi h=>eS h I (.int (slot i) 0) i a es.size ep/\h.get? a=Io o) where
 sub:=λb hb=>by simp at hb;simp [hb]
 frame:=λi h h' st k=>⟨st.1.eQ λo e=>k I (by simp) o e,k a (by simp) o st.2⟩
 item:=λi s Q E hlt st q=>by obtain⟨x,hx,nx⟩:=hi i hlt;refine yN st.1 st.2 hd hf (λp=>nx st.2 p) λh' hit' sb=>?_;exact q x h' s.toks hx ⟨hit',by rw [sb.2 a ne];exact st.2⟩ λb o hb e=>by rw [sb.2 b (λz=>hb (by simp [z]))];exact e
 done:=λs Q E st q=>Bb hh st.1 st.2 hd hf (λp=>he st.2 p) λh' x=>q h' s.toks λb o hb e=>x b o (λz=>hb (by simp [z])) e
 self:=λi s Q E st q=>C9 st.1 q
theorem Ct (hh:A.handled=none) {I a tp:Iy} (ne:a≠I) (nt:tp≠I) {o:K9} {es:Array (Int × Ir)} {ep:Nat} {t:LA} (hd:o.data=.set es ep t) (hf:t.fits es.size=true) {js:List Nat} (hj:js.Perm (Ky es.size)) :
  Walks prog w A I [I,a,tp] [I] es.size (λi v=>(js.filterMap λj=>es[j]?.map (·.2))[i]?=Io v) (λi h=>eS h I (.ref tp) i a es.size ep/\h.get? a=Io o/\QE h tp (js.map fun(j:Nat)=>rawInt j).toArray) where
 sub:=λb hb=>by simp at hb;simp [hb]
 frame:=λi h h' st k=>⟨st.1.eQ λo e=>k I (by simp) o e,k a (by simp) o st.2.1,by
  obtain⟨u,h1,h2⟩:=st.2.2;exact⟨u,k tp (by simp) u h1,h2⟩⟩
 item:=λi s Q E hlt st q=>by
  have jl:js.length=es.size:=by rw [hj.length_eq,Ki]
  have hij:i<js.length:=by lia
  have hjm:js[i]<es.size:=JQ.mp (hj.mem_iff.mp (LR hij));have all:∀ j∈js,j<es.size:=λj h=>JQ.mp (hj.mem_iff.mp h);have ef:(js.filterMap λj=>es[j]?.map (·.2))=js.map λj=>((es[j]?.map (·.2)).getD .none):=oY all;refine Bt (j:=js[i]) (x:=es[js[i]]) st.1 st.2.2 (by simp [rawInt,hij]) (IS hjm) st.2.1 hd hf λh' hit' sb=>?_;have keep:∀ b o,b≠I->s.heap.get? b=Io o->h'.get? b=Io o:=λb o hb e=>by rw [sb.2 b hb];exact e
  refine q _ h' s.toks ?_ ⟨hit',keep _ _ ne st.2.1,?_⟩ λb o hb e=>keep b o (λz=>hb (by simp [z])) e
  ·rw [ef,ID,Iv hij];simp [IS hjm]
  ·obtain⟨u,h1,h2⟩:=st.2.2;exact⟨u,keep _ _ nt h1,h2⟩
 done:=λs Q E st q=>by
  have jl:js.length=es.size:=by rw [hj.length_eq,Ki]
  exact DO hh st.1 st.2.2 (by simp;lia) st.2.1 hd hf λh' x=>q h' s.toks λb o hb e=>x b o (λz=>hb (by simp [z])) e
 self:=λi s Q E st q=>C9 st.1 q
end
end Sst
namespace Sst
open PySem PyProof.Rows
theorem uO:∀{vs:List Ir},(∀ v∈vs,∃ t,v=.int (nV v) t)->NJ vs (vs.map nV)
 | [],_=>.nil
 | v::vs,h=>by obtain⟨t,ht⟩:=h v (IH ..);have:=uO (vs:=vs) λu hu=>h u (IG _ hu);rw [Jz];have e:v=.int (nV v) t:=ht;rw [e];exact .cons _ t this
def Gives (P:Nat->Ir->Prop) (n:Nat) (ks:List Int):Prop:=∀ acc:Array Ir,ItemsOf P acc n->∃ ns,NJ acc.toList ns/\ns.Perm ks
theorem gives_ord {prog:IM} {w:Jo} {es:Array (Int × Ir)} {ks:List Int} (hel:UK (intKind prog w) es.toList) (hks:(es.toList.map λe=>nV e.2).Perm ks) {ord:List Ir} (ho:ord.Perm (es.toList.map (·.2))) {n:Nat} (hn:ord.length=n) :
  Gives (λi v=>ord[i]?=Io v) n ks:=by
 intro acc ⟨h1,h2⟩;have e:acc.toList=ord:=by
  refine List.ext_getElem? λi=>?_;by_cases c:i<acc.size
  ·have:=h2 i acc[i] (IS c);rw [this,Lm,IS c]
  ·rw [MO (by rw [Jw];lia),MO (by lia)]
 rw [e];refine⟨ord.map nV,uO λv hv=>?_,?_⟩
 ·obtain⟨x,hx,rfl⟩:=IV.mp (ho.mem_iff.mp hv);exact oU hel hx
 ·refine (ho.map nV).trans ?_;rw [Na];exact hks
def DF (prog:IM) (w:Jo) (A:Jr) (h0:JD) (a:Iy) (ks:List Int) (I:Iy) (h1:JD):Prop :=
 ∃ n fp P St,Walks prog w A I fp [I] n P St/\St 0 h1/\(∀ b∈fp,b=a∨h0.objs.size<=b)/\h0.objs.size<=I/\n<=sizeLine/\Gives P n ks
section
variable {prog:IM} {w:Jo} {A:Jr} {E:Ir->Iz->Prop} {s:Iz}
theorem FR {a:Iy} {ks:List Int} {Q:Ir->Iz->Prop} (hh:A.handled=none) (hS:iV prog w s.heap a ks)
  (q:∀ I h1 d1,(∀ b o,s.heap.get? b=Io o->h1.get? b=Io o)->DF prog w A s.heap a ks I h1->Q (.ref I) { s with heap:=h1,drawn:=d1 }):wpAny (model prog w) A (pyIter (.ref a)) Q E s:=by
 obtain⟨o,es,ep,t,ho,hex,hd,hel,hks,hb,hf,hl⟩:=hS;have hT:s.TypeIs (.ref a) "set":=⟨o,ho,hex.1⟩
 have hlt:=IK ho;have hz:es.size<=sizeLine:=Px hb;refine Pt hT oq (JW oq hT tF ?_ (vO _));show wpAny _ _ (do
  let n <- PL a
  let first <- if <- setDrawn a then newTuple ((<- drawOrder n (Ky n)).map fun(i:Nat)=>rawInt i) else pure (rawInt 0)
  ret (<- newFields "set_iterator" [first,rawInt 0,.ref a,rawInt n,rawInt (<- setEpoch a)])) _ _ s
 unfold PL;refine Ip (Ip (Mq ho hd hf (IA ?_)));have key:∀(slot:Nat->Nat) (ord:Array Ir),slot 0=0->ord.toList.Perm (es.toList.map (·.2)) ->
   (∀ i,i<es.size->∃ x,ord[i]?=Io x/\∀{A:Jr} {s:Iz} {P:Option (Ir × Nat)->Iz->Prop} {E:Ir->Iz->Prop},s.heap.get? a=Io o->P (Io (x,slot (i+1))) s->wpAny (model prog w) A (setNext a (slot i) i ep) P E s) ->
   (∀{A:Jr} {s:Iz} {P:Option (Ir × Nat)->Iz->Prop} {E:Ir->Iz->Prop},s.heap.get? a=Io o->P none s->wpAny (model prog w) A (setNext a (slot es.size) es.size ep) P E s) ->
   wpAny (model prog w) A.in1 (do
    let first <- pure (rawInt 0)
    ret (<- newFields "set_iterator" [first,rawInt 0,.ref a,rawInt es.size,rawInt (<- setEpoch a)])) (λfin s'=>∃ v,fin=.done (.ret v)/\∃ T u,s'.TypeIs v T/\typeLookup (.type T) "__next__"=pure (Io u)/\Q v s') E s:=by
  intro slot ord s0 hord hi he;refine Ip (IA (Ip (R1 ho hd hf ?_)));refine Ip (Jt (IA ⟨_,rfl,"set_iterator",_,⟨_,II _ rfl,rfl⟩,slot_next.lookup,?_⟩));have:=q s.heap.objs.size (s.heap.push { cls:=.type "set_iterator",data:=.fields #[rawInt 0,rawInt 0,.ref a,rawInt es.size,rawInt ep] }) s.drawn (λb o e=>Iw _ e)
   ⟨es.size,_,_,_,AD hh (Jd hlt) hd hf ord slot hi he,⟨⟨_,II _ rfl,rfl,by rw [s0];rfl⟩,Iw _ ho⟩,λb hb'=>by
    simp only [IU,Ke,or_false] at hb';rcases hb' with rfl | rfl
    ·exact .inr (IF _)
    ·exact .inl rfl,IF _,hz,?_⟩
  ·exact this
  ·have hg:=gives_ord hel hks hord (n:=es.size) (by rw [hord.length_eq,Iu,Jw]);intro acc hacc;exact hg acc ⟨hacc.1,λj v e=>by show ord.toList[j]?=Io v;rw [Lm];exact hacc.2 j v e⟩
 have hdr:∀{P:Bool->Iz->Prop} {E:Ir->Iz->Prop},P (!xK w && (!t.plain && decide (es.size > 1))) s->wpAny (model prog w) A.in1 (setDrawn a) P E s:=by intro P E h;unfold setDrawn;refine Ip (Me ho hd hf ?_);dsimp only;exact Ip (vI (IA h))
 refine Ip (hdr ?_);by_cases hT':xK w=true
 ·rw [hT'];show wpAny _ _ (do
   let first <- pure (rawInt 0)
   ret (<- newFields "set_iterator" [first,rawInt 0,.ref a,rawInt es.size,rawInt (<- setEpoch a)])) _ _ s
  have pl:=zF (w.params.setOrder a ep) es;have ps:(pickOrder (w.params.setOrder a ep) es).size=es.size:=by rw [<- Jw,pl.length_eq,Jw]
  refine key (λ_=>0) ((pickOrder (w.params.setOrder a ep) es).map (·.2)) rfl (by rw [Ss];exact pl.map _) (λi hi=>?_) ?_
  ·have hi':i<(pickOrder (w.params.setOrder a ep) es).size:=by lia
   refine⟨(pickOrder (w.params.setOrder a ep) es)[i].2,by rw [Ry,IS hi'];rfl,λ{A s P E} ho' p=>uW hT' ho' hd hf ?_⟩;rw [IS hi'];exact p
  ·intro A s P E ho' p;refine uW hT' ho' hd hf ?_;rw [Qe (by lia)];exact p
 ·have hF:xK w=false:=by simpa using hT'
  have L:=hl hF;have fs:t.place.size=es.size:=by unfold SetTable.fits at hf;simp at hf;exact hf.1
  rw [hF];by_cases dr:t.plain=true∨es.size<=1
  ·have e0:(!false && (!t.plain && decide (es.size > 1)))=false:=by
    rcases dr with z | z
    ·rw [z];rfl
    ·have:decide (es.size > 1)=false:=by simp;lia
     rw [this];simp
   rw [e0];show wpAny _ _ (do
    let first <- pure (rawInt 0)
    ret (<- newFields "set_iterator" [first,rawInt 0,.ref a,rawInt es.size,rawInt (<- setEpoch a)])) _ _ s
   have R:oJ t.place:=by
    rcases dr with z | z
    ·exact L.rise z
    ·intro i j ij hj;lia
   have bl:∀ i,i<=es.size->JT t.place (match i with | 0=>0 | i+1=>(t.place[i]?.getD 0)+1)=i:=by
    intro i hi;cases i with
    | zero=>exact sQ R
    | succ i =>
     have h':i<t.place.size:=by lia
     show JT t.place ((t.place[i]?.getD 0)+1)=i+1;rw [IS h'];exact sP R h'
   refine key (λi=>match i with | 0=>0 | i+1=>(t.place[i]?.getD 0)+1) (es.map (·.2)) rfl (by rw [Ss]) (λi hi=>?_) ?_
   ·have h':i<t.place.size:=by lia
    refine⟨es[i].2,by rw [Ry,IS hi];rfl,λ{A s P E} ho' p=>rC hF dr L.led ho' hd hf ?_⟩;rw [bl i (by lia),IS hi,IS h'];dsimp only at p ⊢;rw [IS h'] at p;exact p
   ·intro A s P E ho' p;refine rC hF dr L.led ho' hd hf ?_;rw [bl es.size (IF _),Qe (IF _)];exact p
  ·have e1:(!false && (!t.plain && decide (es.size > 1)))=true:=by
    have h1:t.plain=false:=by
     cases h:t.plain with
     | false=>rfl
     | true=>exact absurd (.inl h) dr
    have h2:decide (es.size > 1)=true:=by
     rcases NP 1 es.size with z | z
     ·simpa using z
     ·exact absurd (.inr z) dr
    rw [h1,h2];rfl
   rw [e1];dsimp only;rw [if_pos rfl];refine Ip (CJ (by rw [Ki]) λjs d pj=>?_);have jl:js.length=es.size:=by rw [pj.length_eq,Ki]
   refine Ip (wpAny_newTuple ?_ (by rw [Iu,jl];exact hz));have ho2:=Iw (seqObj "tuple" (js.map fun(i:Nat)=>rawInt i).toArray 0) ho;refine Ip (R1 ho2 hd hf ?_);refine Ip (Jt (IA ⟨_,rfl,"set_iterator",_,⟨_,II _ rfl,rfl⟩,slot_next.lookup,?_⟩));have sz2:(s.heap.push (seqObj "tuple" (js.map fun(i:Nat)=>rawInt i).toArray 0)).objs.size=s.heap.objs.size+1:=JL ..;have:=q (s.heap.push (seqObj "tuple" (js.map fun(i:Nat)=>rawInt i).toArray 0)).objs.size ((s.heap.push (seqObj "tuple" (js.map fun(i:Nat)=>rawInt i).toArray 0)).push { cls:=.type "set_iterator",data:=.fields #[.ref s.heap.objs.size,rawInt 0,.ref a,rawInt es.size,rawInt ep] }) d (λb o e=>Iw _ (Iw _ e))
    ⟨es.size,_,_,_,Ct (tp:=s.heap.objs.size) hh (by rw [sz2];exact Jd (LB hlt)) (by rw [sz2];exact Jd (LQ _)) hd hf pj,⟨⟨_,II _ rfl,rfl,rfl⟩,Iw _ ho2,⟨_,Iw _ (II _ rfl),rfl,0,rfl⟩⟩,λb hb'=>by
     simp only [IU,Ke,or_false] at hb';rcases hb' with rfl | rfl | rfl
     ·exact .inr (by rw [sz2];exact Mx _)
     ·exact .inl rfl
     ·exact .inr (IF _),by rw [sz2];exact Mx _,hz,?_⟩
   ·exact this
   ·have all:∀ j∈js,j<es.size:=λj h=>JQ.mp (pj.mem_iff.mp h);have pf:(js.filterMap λj=>es[j]?.map (·.2)).Perm (es.toList.map (·.2)):=by
     refine (pj.filterMap _).trans (Qn ?_);rw [oY (js:=Ky es.size) λj h=>JQ.mp h];refine Nb (by simp) λi h1 h2=>?_;simp;have:i<es.size:=by simpa using h1
     rw [IS this];rfl
    exact gives_ord hel hks pf (by rw [pf.length_eq,Iu,Jw])
end
end Sst
namespace Sst
open PySem PyProof.Rows PySem.W
section
variable {prog:IM} {w:Jo} {A:Jr} {E:Ir->Iz->Prop} {s:Iz}
theorem FN {r:Iy} {Q:Bool->Iz->Prop} (hT:s.TypeIs (.ref r) "set") (h:Q false s):wpAny (model prog w) A (OG (.ref r)) Q E s:=by
 unfold OG;refine Ip (SX hT PySem.F.slot_set_len.lookup ?_);generalize hid:("set.__len__":String)=id0
 wp_delta
 rw [show splitId id0=Io ("set","__len__") from by subst hid;decide +kernel];subst hid;refine Ip (M9 (T := "set") (b:=true) hT (by rw [OX];kernel_rfl) ?_);refine Qo (λz=>absurd z (by decide)) λ_=>?_;refine Qo (λ_=>?_) λz=>absurd (by decide +kernel) z;exact Ip (NI hT (IA h))
theorem FE {a:Iy} {ks:List Int} {Q:List Ir->Iz->Prop} (hh:A.handled=none) (hS:iV prog w s.heap a ks)
  (q:∀ h' tk d vs ns,(∀ b o,s.heap.get? b=Io o->h'.get? b=Io o)->NJ vs ns->ns.Perm ks->Q vs { s with heap:=h',toks:=tk,drawn:=d }):wpAny (model prog w) A (collect (.ref a)) Q E s:=by
 obtain⟨o0,_,_,_,ho0,hex0,_⟩:=id hS;have hlt:=IK ho0;unfold collect;refine Ip (Tx (LJ PySem.F.entry_proto_collect ?_));rw [K7 PySem.F.plain_proto_collect _];show wpAny _ A.in1 (newList [] >>= λl=>again (.builtin "list.__iadd__" ⟨[l,.ref a],[]⟩)) _ _ s;refine Ip (Jt (IA ⟨MN PY _,LJ PySem.F.entry_list_iadd ?_⟩));rw [K7 PY _];obtain⟨h1,eh1⟩:∃ h1,s.heap.push { cls:=.type "list",data:=.seq ([]:List Ir).toArray }=h1:=⟨_,rfl⟩
 have gS:h1.get? s.heap.objs.size=Io { cls:=.type "list",data:=.seq #[] }:=by rw [<- eh1];exact II _ rfl
 have k1:∀ b o,s.heap.get? b=Io o->h1.get? b=Io o:=λb o e=>by rw [<- eh1];exact Iw _ e
 have sz1:h1.objs.size=s.heap.objs.size+1:=by rw [<- eh1];exact JL ..
 rw [eh1];show wpAny _ A.in1 (OH (.ref s.heap.objs.size) (.ref a) (.ref s.heap.objs.size)) _ _ _;have hS1:iV prog w h1 a ks:=hS.eQ λo e=>k1 a o e;have hT1:Shared.TypeIs { s with heap:=h1 } (.ref a) "set":=⟨o0,k1 a o0 ho0,hex0.1⟩
 unfold OH;refine Ip (NI (T := "set") hT1 ?_);have n1:PM (.ref s.heap.objs.size) (.ref a)=false:=by simp [PM,Lc hlt]
 have n2:(MA "set"==MA "list")=false:=by decide
 have n3:(MA "set"==MA "tuple")=false:=by decide
 simp only [n1,n2,n3,Bool.or_false,Lr,if_false];refine Ip (FR (s:={ s with heap:=h1 }) (A:=A.in1) hh hS1 λI h2 d2 k2 ⟨n,fp,P,St,W,st,hfp,hI,hn,gv⟩=>?_);have gS2:=k2 _ _ gS;have nI:s.heap.objs.size∉fp:=λz=>by
  rcases hfp _ z with y | y
  ·exact absurd y (Lc hlt)
  ·have:h1.objs.size<=s.heap.objs.size:=y;lia
 have hT2:Shared.TypeIs { s with heap:=h2,drawn:=d2 } (.ref a) "set":=⟨o0,k2 _ _ (k1 a o0 ho0),hex0.1⟩
 refine Ip (Kl (FN hT2 ?_));have loop:∀(h3:JD) (c:Nat),St 0 h3->(∀ b o,b≠s.heap.objs.size->h2.get? b=Io o->h3.get? b=Io o)->h3.get? s.heap.objs.size=Io { cls:=.type "list",data:=.seq #[] c } ->
   codeAny (model prog w) A (.builtin "list.extend.loop" ⟨[.ref s.heap.objs.size,.ref I,.ref s.heap.objs.size],[]⟩) (λr s'=>∃ v,r=.ok (.ret v)/\wpAny (model prog w) A (do
    let .ref b:=v | unsupported "internal:collect"
    match (<- load b).data with
    | .seq xs _=>pure xs.toList
    | _=>unsupported "internal:collect") Q E s') { s with heap:=h3,drawn:=d2 }:=by
  intro h3 c st3 k3 g3;refine codeAny_extend_loopS W.toS hn _ nI _ n 0 _ #[] c rfl (J4 _) st3 g3 (ItemsOf.nil _) λs' acc c' hm hg hacc=>?_;rw [Moved.eq_with hm];obtain⟨ns,i1,i2⟩:=gv acc hacc;refine⟨_,rfl,?_⟩;refine Ip (Tf hg ?_);refine IA (q s'.heap s'.toks d2 acc.toList ns (λb o e=>?_) i1 i2);have bl:b<s.heap.objs.size:=IK e;refine hm.heap b o (λz=>?_) (k3 b o (Jd bl) (k2 _ _ (k1 _ _ e)));rcases IU.mp z with y | y
  ·exact absurd y (Jd bl)
  ·have:=IW.mp y;have hI':h1.objs.size<=I:=hI;rw [sz1] at hI';have e2:b=I:=this;have b2:b<s.heap.objs.size:=bl;rw [e2] at b2;exact absurd (IZ b2 (L7 hI')) (Ka _)
 refine Qo (λ_=>?_) λ_=>IA ⟨MN Pb _,Lf (loop h2 0 st (λb o _ e=>e) gS2) λr s' ⟨v,e,x⟩=>by subst e;exact x⟩;refine Ip (Nu (Ip ?_));show wpAny _ _ (updateSeq s.heap.objs.size (·.push .none) >>= λ_=>updateSeq s.heap.objs.size (·.pop)) _ _ _;refine Ip (Qk gS2 rfl ?_);have gS3:=Jx (Mi (·.push Kj)) gS2 rfl;refine Qk (hz:=by seq_fits) gS3 rfl ?_;have gS4:=Jx (Mi (·.pop)) gS3 rfl;have oth:∀ b o,b≠s.heap.objs.size->h2.get? b=Io o->((h2.update s.heap.objs.size (Mi (·.push Kj))).update s.heap.objs.size (Mi (·.pop))).get? b=Io o :=
  λb o hb e=>(Jc _ _ (JC hb)).trans ((Jc _ _ (JC hb)).trans e)
 exact IA ⟨MN Pb _,Lf (loop _ _ (W.frame 0 _ _ st λb hb o e=>oth b o (λz=>nI (z▸hb)) e) oth gS4) λr s' ⟨v,e,x⟩=>by subst e;exact x⟩
end
end Sst
set_option maxHeartbeats 3200000
namespace Sst
open PySem PyProof.Rows PySem.Spec
theorem snoc_ind {α:Type} {C:List α->Prop} (h0:C []) (h1:∀ l a,C l->C (l++[a])):∀ l,C l:=by
 intro l;have:∀ n (l:List α),l.length=n->C l:=by
  intro n
  induction n with
  | zero=>intro l h;rw [NA.mp h];exact h0
  | succ n ih =>
   intro l h;rcases List.eq_nil_or_concat l with z | ⟨l',a,z⟩
   ·rw [z] at h;cases h
   ·rw [z,List.concat_eq_append] at h ⊢;refine h1 l' a (ih l' ?_);rw [Js] at h;have:[a].length=1:=rfl;lia
 exact this _ l rfl
noncomputable def met (ns:List Int):List Int:=ns.foldl (λks k=>if k∈ks then ks else ks++[k]) []
theorem ja (ns:List Int) (k:Int):met (ns++[k])=if k∈met ns then met ns else met ns++[k]:=by unfold met;rw [Py];rfl
theorem uT:∀(ns:List Int),(met ns).length<=ns.length:=by
 refine snoc_ind (IF _) λns k ih=>?_;rw [ja];split
 ·rw [Js];lia
 ·rw [Js,Js];simp;lia
theorem Bq:∀(ns:List Int) (x:Int),x∈met ns↔x∈ns:=by
 refine snoc_ind (λx=>Iff.rfl) λns k ih=>?_;intro x;rw [ja];split
 ·rename_i hk;rw [ih x,J0,IW];constructor
  ·exact .inl
  ·rintro (z | rfl)
   ·exact z
   ·exact (ih _).mp hk
 ·rw [J0,J0,ih x]
theorem wq:∀(ns:List Int),(met ns).Nodup:=by
 refine snoc_ind OV λns k ih=>?_;rw [ja];split
 ·exact ih
 ·rename_i hk;rw [RT];refine⟨ih,by simp,λa ha b hb=>?_⟩;rw [IW.mp hb];exact λz=>hk (z▸ha)
section
variable {prog:IM} {w:Jo} {A:Jr} {E:Ir->Iz->Prop} {s:Iz}
noncomputable abbrev kI (w:Jo):K9:={ cls:=.type "set",dict:=none,data:=.set #[] 0 (.fresh 0 0 (!xK w)) }
theorem zZ {h:JD} {a:Iy} (hg:h.get? a=Io (kI w)):iV prog w h a []:=by refine⟨kI w,#[],0,_,hg,⟨rfl,rfl,rfl⟩,rfl,λe he=>by simp at he,.refl _,by decide,rfl,λz=>?_⟩;rw [z];exact Led.fresh
theorem xR (a:Ir) {Q₁:Ir->Iz->Prop} (h:Q₁ (.ref s.heap.objs.size) { s with heap:=s.heap.push (kI w) }) :
  codeAny (model prog w) A (.call (.builtin "set.__new__") ⟨[.type "set",a],[]⟩) (wants Q₁ E) s:=by
 refine Ou ?_;show wpAny _ A.in1 (do checkBuiltinCall "set.__new__" ⟨[.type "set",a],[]⟩;again (.builtin "set.__new__" ⟨[.type "set",a],[]⟩)) _ _ s;refine Ip (Pk (PySem.F.newCall_set_1 a) (IA ⟨MN QA _,LJ PySem.F.entry_set_new ?_⟩));rw [K7 QA _];unfold Mo.«set.__new__» Tz;have hsub:=PySem.sub_set_self;obtain⟨hp,g,d,tk,os⟩:=s;dsimp only
 wp_walk
 refine N7 (IA ?_);dsimp only;simp only [newObj];refine Ip (SA (IA ?_));exact IA h
theorem AB {I:Iy} {fp wr:List Iy} {G:Array OJ->Array OJ->Prop} {n:Nat} {P:Nat->Ir->Prop} {St:Nat->Iz->Prop} {R:QH->Iz->Prop} (W:WalksS prog w A.in1 I fp wr G n P St) (S:Iy) (hSf:S∉fp) (ns:List Int) (hl:ns.length=n)
  (hv:∀ i v,P i v->∃ t,v=.int (ns.getD i 0) t) (hb:n+1<scanBound) :
  ∀(k i:Nat) (s:Iz),n-i=k->i<=n->St i s->iV prog w s.heap S (met (ns.take i)) ->
   (∀ s',Moved (S::wr) G s s'->iV prog w s'.heap S (met ns)->R (.ok (.ret .none)) s')->codeAny (model prog w) A (.builtin "set.update.loop" ⟨[.ref S,.ref I],[]⟩) R s:=by
 have sw:S∉wr:=λz=>hSf (W.sub _ z);have sub:∀ b∈wr,b∈S::wr:=λb z=>IG _ z;intro k
 induction k with
 | zero =>
  intro i s hk hi st hS r;have e:i=n:=by lia
  subst e;refine LJ Ng ?_;rw [K7 LM _];refine Ip (m:=pyNext (.ref I)) (W.done s _ _ st λs' hm=>?_);refine IA (r s' (hm.mono sub) ?_);rw [<- hl,JI] at hS;exact hS.eQ λo e=>hm.heap S o sw e
 | succ k ih =>
  intro i s hk hi st hS r;have lt:i<n:=by lia
  refine LJ Ng ?_;rw [K7 LM _];refine Ip (m:=pyNext (.ref I)) (W.item i s _ _ lt st λv s' hP st' hm=>?_);obtain⟨t,rfl⟩:=hv i v hP;have hS':iV prog w s'.heap S (met (ns.take i)):=hS.eQ λo e=>hm.heap S o sw e;have gi:ns[i]?=Io (ns.getD i 0):=by rw [KJ,Iv (by lia)];rfl
  generalize ns.getD i 0=x at *;show wpAny _ A.in1 (holding [ML x t] (setAdd S (.int x t)) >>= _) _ _ s';refine Ip (Kl ?_);unfold setAdd;refine Kl (Ip ((intKind prog w).pyHash (k:=x) (by show MS x (.int x t)=true;simp [MS]) ?_));have room:(met (ns.take i)).length+1<scanBound:=by have:=uT (ns.take i);rw [JE] at this;lia
  refine Hc (s:={ s' with toks:=s'.toks+1 }) hS' room λb h' sb hS2=>?_;have eq:met (ns.take (i+1))=if x∈met (ns.take i) then met (ns.take i) else met (ns.take i)++[x]:=by rw [Jv,gi];exact ja _ _
  refine IA ⟨MN LM _,ih (i+1) _ (by lia) lt (W.frame _ s' _ _ st' (Mx _) λb hb o e=>?_) (by rw [eq];exact hS2) λs'' hm'' hS''=>?_⟩
  ·rw [sb.2 b (λz:b=S=>hSf (by rw [<- z];exact hb))];exact e
  ·refine r s'' (Moved.trans W.gtrans ((hm.mono sub).then_heap (Mx _) λb o hb e=>?_) hm'') hS'';rw [sb.2 b (λz:b=S=>hb (by rw [z];exact IH))];exact e
end
end Sst
namespace Sst
open PySem PyProof.Rows PySem.Spec
section
variable {prog:IM} {w:Jo} {A:Jr} {E:Ir->Iz->Prop} {s:Iz}
theorem xN {l:Iy} {items:Array Ir} {ns:List Int} {Q:Ir->Iz->Prop} (hh:A.handled=none) (hl:s.heap.IsList l items) (hi:NJ items.toList ns) (hb:items.size+1<scanBound)
  (q:∀(h':JD) (tk:Nat),iV prog w h' s.heap.objs.size (met ns)->(∀ b o,b<s.heap.objs.size->s.heap.get? b=Io o->h'.get? b=Io o)->Q (.ref s.heap.objs.size) { s with heap:=h',toks:=tk }) :
  wpAny (model prog w) A (call (.type "set") [.ref l]) Q E s:=by
 have ln:ns.length=items.size:=by rw [<- Jw];exact (IntsAre.length hi).symm
 obtain⟨c,tl,hmro⟩:=K4.mro;have hmade:=K4.made;have hsub:=K4.sub;refine P6 (Ou ?_);show wpAny _ _ (callAny (.type "set") _) _ _ _;refine IA ⟨OT _ (by decide +kernel),LJ PySem.F.entry_type_call ?_⟩;rw [Around.under_plain (weight_type_call_type "set" [.ref l] []) rfl];have h1:=K4.notType;have h2:=K4.canCreate;have hct:=PySem.F.typeCall_set_1 (.ref l)
 repeat (any_goals (first | assumption | wp_step))
 refine Lf (xR (.ref l) (E:=E) (Q₁:=λv s1=>v=.ref s.heap.objs.size/\s1={ s with heap:=s.heap.push (kI w) }) ⟨rfl,rfl⟩) λr s1 hr=>?_;cases r with
 | error e=>exact hr
 | ok fl =>
  cases fl with
  | ret v =>
   obtain⟨rfl,rfl⟩:=hr;have gS:(s.heap.push (kI w)).get? s.heap.objs.size=Io (kI w):=II _ rfl;have hT:Shared.TypeIs { s with heap:=s.heap.push (kI w) } (.ref s.heap.objs.size) "set":=⟨_,gS,rfl⟩
   have hli:=K4.init.lookup;have hbi:=K4.init.bind (.ref s.heap.objs.size)
   repeat (any_goals (first | assumption | wp_step))
   refine Lf (Oe (R:=wants (λr s2=>r=.none/\∃ h' tk,s2={ s with heap:=h',toks:=tk }/\iV prog w h' s.heap.objs.size (met ns)/\(∀ b o,b<s.heap.objs.size->s.heap.get? b=Io o->h'.get? b=Io o)) E) K4.init.plain PySem.F.entry_set_init (PySem.check_set_init_1 hT ?_)) λr2 s2 hr2=>?_
   ·obtain⟨ol,gl,hcl,nl,hdl⟩:=hl;obtain⟨ocls,odict,odata,oslots⟩:=ol;simp only at hcl hdl;subst hcl;subst hdl;have gl1:(s.heap.push (kI w)).get? l=Io { cls:=.type "list",dict:=odict,data:=.seq items nl,slots:=oslots }:=Iw _ gl;have n1:=PySem.F.sub_list_set;have n2:=PySem.F.sub_list_frozenset;have n3:(MA "list"==MA "dict")=false:=by decide
    have hl1:(s.heap.push (kI w)).IsList l items:=⟨_,gl1,rfl,nl,rfl⟩
    unfold Mo.«set.__init__» noKeywords Ta;generalize hPI:pyIter=PI
    wp_walk
    subst hPI;refine MP hl1 (Ip (Tx ?_));have lt:l<s.heap.objs.size:=IK gl;have sz:(s.heap.push (kI w)).objs.size=s.heap.objs.size+1:=JL ..;have ne:l≠(s.heap.push (kI w)).objs.size:=by rw [sz];exact Jd (LB lt)
    have nf:s.heap.objs.size∉[(s.heap.push (kI w)).objs.size,l]:=by rw [sz];simp only [IU,Ke,or_false,not_or];exact⟨Jd (LQ _),Lc lt⟩
    refine AB ((Walks.list (A:=A.in1.in1.in1) (by simp [hh]) _ l ne items).toS) s.heap.objs.size nf ns ln (λi v hv=>IntsAre.int_at hi i v (by rw [Lm];exact hv)) hb (items.size-0) 0 _ (by lia) (J4 _)
     ⟨⟨_,II _ rfl,rfl,rfl⟩,hl1.push _⟩ (zZ (Iw _ gS)) λs' hm hS'=>?_
    rw [Moved.eq_with hm];refine IA (IA ⟨rfl,s'.heap,s'.toks,rfl,hS',λb o hb' e=>?_⟩);refine hm.heap b o (λz=>?_) (Iw _ (Iw _ e));simp only [IU,Ke,or_false] at z;rcases z with z | z
    ·exact absurd z (Jd hb')
    ·rw [sz] at z;exact absurd z (Jd (LB hb'))
   ·cases r2 with
    | error e=>exact hr2
    | ok f2 =>
     cases f2 with
     | ret r =>
      obtain⟨rfl,h',tk,rfl,hS',hk'⟩:=hr2
      repeat (any_goals (first | assumption | wp_step))
      exact q _ _ hS' hk'
     | _=>exact hr2.elim
  | _=>exact hr.elim
end
end Sst
set_option maxHeartbeats 1000000
namespace L2
open PySem PySem.Spec PyProof.Rows
def F9 (K:Iq):List V->Hp->VK->Prop:=λxs H Q=>∃(a:Iy) (ns:List Int),xs=[.ref a]/\aJ K H a (ns.map V.int)/\ns.length<64/\∀(p:Iy) (ns':List Int),ns'.Pairwise (·<·)->(∀ x,x∈ns'↔x∈ns)->H p=none->Q (.ref p) (upd H p (.lst (ns'.map V.int)))
theorem iF:∀{us:List Ir} {ns:List Int},NJ us ns->Vals (ns.map V.int) us
 | _,_,.nil=>.nil
 | _,_,.cons n t h=>.cons ⟨t,rfl⟩ (iF h)
theorem qW:∀{ns:List Int} {us:List Ir},Vals (ns.map V.int) us->NJ us ns
 | [],_,h=>by cases h;exact .nil
 | n::ns,_,h=>by obtain⟨u,vs,rfl,r,t⟩:=h.xS;obtain⟨k,rfl⟩:=r;exact .cons n k (qW t)
theorem gz:∀{l:List Int},l.Pairwise (·<=·)->l.Nodup->l.Pairwise (·<·)
 | [],_,_=>.nil
 | x::l,h,n=>by
  obtain⟨h1,h2⟩:=Kq.mp h;obtain⟨n1,n2⟩:=Kx.mp n;exact .cons (λy hy=>by
   have:=h1 y hy;have:x≠y:=λz=>n1 (z▸hy);lia) (gz h2 n2)
theorem Inv.drew {X:Cx} {pins:List (Iy × K9)} {σ:List (Option V)} {H:Hp} {s:Iz} {d:Ut} (I:Inv X pins σ H s):Inv X pins σ H { s with drawn:=d }:=⟨I.ok,I.os,I.bare,I.base,I.loc,I.cell,I.free,I.freeC,I.pin,I.hok,I.len⟩
section
variable {X:Cx} {e:JH} {t:TA} {p p2 pos pos2:Mn}
theorem BQ (hc:X.calm=true) (hg:Gl X "sorted") (hm:X.mg "sorted"=none) (hg2:Gl X "set") (hm2:X.mg "set"=none) (ha:PA X [e] t) (he:starEach [e] X.env=(false,eval e X.env)::starEach [] X.env:=by rfl) :
  PE X (.Call (.Name "sorted" p) [.Call (.Name "set" p2) [e] [] pos2] [] pos) (GQ (F9 X.K) t):=by
 intro pins s σ H Q I h;refine K3 (fc I hg hm Uq ?_ (by decide) (by decide));refine N5 ?_ rfl rfl;show wpAny _ _ (spliced ((false,eval (.Call (.Name "set" p2) [e] [] pos2) X.env)::backTo pos (starEach [] X.env))) _ _ s;refine ON ?_;refine K3 (fc I hg2 hm2 UQ ?_ (by decide) (by decide));refine Kr (bf (ha pos2 pins s σ H _ I h) λus s1 ⟨vs,H1,I1,r1,a,ns,ev,hq,hl,q⟩=>?_) he rfl;subst ev;obtain⟨u,rfl,ru⟩:=vals1 r1;cases ru;obtain⟨its,rv,pl,hz⟩:=I1.list hq;have il:=qW rv;have ln:its.length=ns.length:=by have:=rv.length;rw [Iu] at this;lia
 have hh:=I1.ok.hd hc;refine Sst.xN (items:=its.toArray) (ns:=ns) hh pl.isList (by simpa using il) (by rw [IP];show _<4096;lia) λh2 tk2 hS k2=>?_;refine Pg ?_;have k2':∀ b o,s1.heap.get? b=Io o->h2.get? b=Io o:=λb o x=>k2 b o (IK x) x;have I2:Inv X pins σ H1 { s1 with heap:=h2,toks:=tk2 }:=I1.kept k2';refine Pa kind_sorted plain_sorted entry_sorted (args_sorted1 _) ?_;refine Ip (m:=checkCount "sorted" 1 1 _) (IA ?_);refine Ip (Sst.FE (s:={ s1 with heap:=h2,toks:=tk2 }) (A:=X.A.in1) hh hS λh3 tk3 d3 vs ns3 k3 i3 p3=>?_);have xr:vs.length<64:=by have h1:vs.length=ns3.length:=IntsAre.length i3;have h2:=p3.length_eq;have h3:=Sst.uT ns;rw [h1,h2];exact J3 h3 hl
 have zl:vs.length<=sizeLine:=IJ (M5 xr) (by decide);refine Ip (wpAny_newList ?_ zl);have z2:=II h3 (o:=seqObj "list" vs.toArray 0) rfl;refine Ip (Kl (JW slot_list_sort ⟨_,z2,rfl⟩ entry_list_sort (list_sort_tree z2 i3 xr λout ns' a b c=>⟨_,rfl,IA ⟨_,rfl,?_⟩⟩) (args_list_sort _)));have old:∀ b o,h2.get? b=Io o->(sortedHeap (h3.push (seqObj "list" vs.toArray 0)) h3.objs.size vs out).get? b=Io o:=λb o x=>by have lt:=IK (k3 b o x);rw [sortedHeap_old (Jd lt) (by rw [JL];exact LB lt)];exact Iw _ (k3 b o x)
 have I3:Inv X pins σ H1 { s1 with heap:=h3,toks:=tk3,drawn:=d3 }:=(I2.kept (t':=tk3) k3).drew;have I4:Inv X pins σ H1 { s1 with heap:=sortedHeap (h3.push (seqObj "list" vs.toArray 0)) h3.objs.size vs out,toks:=tk3,drawn:=d3 }:=(I2.kept (t':=tk3) old).drew;obtain⟨e4,he4⟩:=sortedHeap_at (out:=out) z2;have fT:H1 h3.objs.size=none:=I3.hok.fresh (IF _);have pm:ns'.Perm (Sst.met ns):=b.trans p3;have lo:ns'.length<=sizeLine:=by rw [b.length_eq,<- IntsAre.length i3];exact zl
 refine⟨.ref h3.objs.size,upd H1 h3.objs.size (.lst (ns'.map V.int)),?_,rfl,q _ ns' (gz c (pm.nodup_iff.mpr (Sst.wq ns))) (λx=>(pm.mem_iff).trans (Sst.Bq ns x)) fT⟩;exact I4.adopt (T:=h3.objs.size) (o:=.lst (ns'.map V.int)) (I3.mQ (IF _) fT) ⟨by rw [Iu];exact lo,out.toList,e4,iF a,he4⟩
end
end L2
set_option maxHeartbeats 8000000
namespace K
open PySem PySem.Spec PyProof.Rows L2
def top (i:Nat):MH:=PySem.Challenge.pw_rootprime_k62_whole_steps_by_some_primes.main.body.getD i (.Pass ⟨0,0,0,0⟩)
theorem q5 {α:Type} {us:List α} {n:Nat} (h:us.length=n+1):∃ a r,us=a::r/\r.length=n:=by
 cases us with
 | nil=>cases h
 | cons a r=>exact⟨a,r,rfl,Nat.succ.inj h⟩
theorem yC {α:Type} {us:List α} (h:us.length=1):∃ a,us=[a]:=(q5 h).elim λa h=>h.elim λr h=>⟨a,h.1.trans (congrArg (a::·) (Mz h.2))⟩
theorem yD {α:Type} {us:List α} (h:us.length=2):∃ a b,us=[a,b]:=(q5 h).elim λa h=>h.elim λr h=>(yC h.2).elim λb h2=>⟨a,b,h.1.trans (congrArg (a::·) h2)⟩
theorem FV {α:Type} {us:List α} (h:us.length=3):∃ a b c,us=[a,b,c]:=(q5 h).elim λa h=>h.elim λr h=>(yD h.2).elim λb h2=>h2.elim λc h2=>⟨a,b,c,h.1.trans (congrArg (a::·) h2)⟩
theorem FW {α:Type} {us:List α} (h:us.length=4):∃ a b c d,us=[a,b,c,d]:=(q5 h).elim λa h=>h.elim λr h=>(FV h.2).elim λb h2=>h2.elim λc h2=>h2.elim λd h2=>⟨a,b,c,d,h.1.trans (congrArg (a::·) h2)⟩
theorem dD {N P:List Jb} {sc:La} (a:sc.kind=.function:=by exact rfl) (b:sc.isCoroutine=false:=by exact rfl) (c:sc.isGenerator=false:=by exact rfl) (d:N.Nodup:=by decide +kernel) (e:N.take P.length=P:=by exact rfl) (f:∀ x∈P,sc.names.lookup x=Io .local∨sc.names.lookup x=Io .cell:=by decide +kernel) (g:∀ y∈sc.names,y.2≠.free:=by decide +kernel):aw N P sc:=⟨a,b,c,d,e,f,g⟩
theorem dY {F:Iq} {mg:Jb->Option Ir} {x:Jb} {h:JD} {f:Iy} {st:MH} {oc:Ir} {od an:Option Iy} {osl:Array (Option Ir)} {kV doc pm cdv ct:Ir} (X:F.In h) (G:h.Ns mainGlobals mg) (a:UA F mainGlobals x=Io (Io (.ref f)):=by k_is) (l:F.lookup f=Io ⟨oc,od,.func (KG x x (bo st) (aL st) (ak st) .none kV doc pm an cdv ct),osl⟩:=by k_is) (c:NG F cdv x=true:=by k_is) (kk:LU F (.ref f)=true:=by k_is):ax (dh X) mg x st:=xW X G a l c kk
theorem lD {X:Cx} {N':List Jb} {js:List (Option Nat)} {scope:La} {cl:List (Jb × Iy)} (clos:closureFor scope X.env=pure cl) (kind:scope.kind=.function) (nocell:∀ y∈scope.names,y.2=.cell->scope.names.lookup y.1=Io .cell/\∀ p∈js.zip N',p.1.isSome=true->p.2≠y.1:=by decide +kernel) (names:∀ y∈scope.names,y.2=.local->scope.names.lookup y.1=Io .local:=by decide +kernel) (sub:AllIn X.env cl:=by repeat (first | exact True.intro | refine⟨rfl,?_⟩)) (has:jI cl scope.names:=by repeat (first | exact True.intro | refine⟨rfl,?_⟩ | refine⟨True.intro,?_⟩)) (j:iS X scope cl js N':=by repeat (first | exact True.intro | refine⟨⟨rfl,rfl,.inl rfl,.inl rfl⟩,?_⟩)):fI X N' js scope cl:=DN clos kind nocell names sub has j
theorem bB {X:Cx} {pos:Mn} {i:Nat} {x:Jb} {e:JH} {te:TE} {pos':Mn} (hN:X.N.Nodup) (he:PE X e te) (hi:X.N[i]?=Io x:=by exact rfl) (hx:Loc X.env.scope x:=by exact Jf rfl) (hs:swapsWith e (Io (.Name x pos')) pos.line X.env=pure false:=by rfl) (hf:X.fn x=true∨X.env.scope.names.lookup x=Io .local:=by first | exact .inl rfl | exact .inr rfl | assumption):PS X (.Assign [.Name x pos'] e pos) (uu te (cn i)):=fP hN hi hx he hs hf
theorem bN {X:Cx} {CX:kM} {k n:Nat} {x:Jb} {ps:List Jb} {sp:Sp} {E:XK} {e:JH} {es:List JH} {t:TA} {p pos:Mn} (C:Callee X.prog X.w X.K X.mg X.base CX k x ps sp) (hr:bW n X.A) (hx:Passes CX X E) (ha:PA X (e::es) t) (hm:k<=n:=by decide) (hg:Gl X x:=by exact rfl) (hdb:(x==("__debug__":Jb))=false:=by decide) (he:starEach (e::es) X.env=(false,eval e X.env)::starEach es X.env:=by rfl) (hpl:(backTo pos (starEach es X.env)).any (·.1)=false:=by rfl):PE X (.Call (.Name x p) (e::es) [] pos) (oF sp [] E t):=bY C (hr.mono hm) hg hx ha hdb he hpl
noncomputable def HR {α:Type} (n:Nat):(List α->Prop)->Prop:=n.rec (λP=>P []) λ_ f P=>∀ a,f λr=>P (a::r)
theorem HF {α:Type} {n:Nat} {P:List α->Prop} (q:HR n P):∀ us,us.length=n->P us:=by
 induction n generalizing P with
 | zero =>
  intro us h;cases us with
  | nil=>exact q
  | cons a r=>cases h
 | succ n ih =>intro us h;obtain⟨a,r,e,i⟩:=q5 h;rw [e];exact ih (P:=λr=>P (a::r)) (q a) r i
theorem cO {P:IM} {w:Jo} {F:Iq} {mg:Jb->Option Ir} {base:JD} {k:Nat} {x:Jb} {ps:List Jb} {sp:Sp} {st:MH} {N:List Jb} (D:ax F mg x st) (S:aw N ps (ak st))
  (J':∀(f:Iy) (cdv:Ir) (A:Jr) (outer:List NS) (s:Iz) (H:Hp) (vs:List V) (Q:VK) (E:XK),bW k (A.deeper (envOfC x (ak st) s.heap.objs.size f cdv))->sp vs H Q E->∃ t,iG (dy aQ P w F mg base N x (ak st) f cdv A outer s H E).lY (aL st) t/\t { nx:=λ_ H'=>Q .non H',rt:=Q } (start N vs) H)
  (hb:∀(kV doc pm:Ir) (an:Option Iy) (cdv ct:Ir) (us:List Ir),us.length=ps.length->bindArgs (KG x x (bo st) (aL st) (ak st) .none kV doc pm an cdv ct) ⟨us,[]⟩=pure (ps.zip us):=by
    intro _ _ _ _ _ _;refine HF ?_
    repeat intro _
    exact rfl)
  (len:∀ vs H Q E,sp vs H Q E->vs.length=ps.length:=by
    intro _ _ _ _ h
    repeat (first | (obtain⟨rfl,_⟩:=h;exact rfl) | obtain⟨_,h⟩:=h)):Callee P w F mg base aQ (k+1) x ps sp:=vT D hb S len J'
theorem cX {P:IM} {w:Jo} {F:Iq} {mg:Jb->Option Ir} {base:JD} {k:Nat} {x:Jb} {ps:List Jb} {sp:Sp} {st:MH} {N:List Jb} (D:ax F mg x st) (S:aw N ps (ak st))
  (J':∀(f:Iy) (cdv:Ir) (A:Jr) (outer:List NS) (s:Iz) (H:Hp) (vs:List V) (Q:VK) (E:XK),bW k (A.deeper (envOfC x (ak st) s.heap.objs.size f cdv))->sp vs H Q E->∃ t,iG (dy (cZ P w) P w F mg base N x (ak st) f cdv A outer s H E) (aL st) t/\t { nx:=λ_ H'=>Q .non H',rt:=Q } (start N vs) H)
  (hb:∀(kV doc pm:Ir) (an:Option Iy) (cdv ct:Ir) (us:List Ir),us.length=ps.length->bindArgs (KG x x (bo st) (aL st) (ak st) .none kV doc pm an cdv ct) ⟨us,[]⟩=pure (ps.zip us):=by
    intro _ _ _ _ _ _;refine HF ?_
    repeat intro _
    exact rfl)
  (len:∀ vs H Q E,sp vs H Q E->vs.length=ps.length:=by
    intro _ _ _ _ h
    repeat (first | (obtain⟨rfl,_⟩:=h;exact rfl) | obtain⟨_,h⟩:=h)):Callee P w F mg base (cZ P w) (k+1) x ps sp:=sU D hb S len J'
end K
set_option hygiene false in
local macro_rules | `(tactic| k_data) => `(tactic| (iterate 2 ((try dsimp only [bH, Gx, Dl, vE, Ao, GQ, uv, tC, Fd, rI, BX, rU, HQ, Dq, uu, cn, kL, Gy, GB, Gu, HM, EU, Dk, Gj, HN, Gv, Dg, Hx, Gw, tB, Gk, Dj, j8, yg, oF, Ck, EV, CW, CY, FO, yq, FP, HP, Gz, Dm, vH, vG, HH, HJ, HL, Hw, Ij, FJ, Dh, C6, Di, qj, CV, DW, FQ, CZ, Aq, EX, EW, Ik, Hy, GA, Bk, uN, sx, An, Gp, Gf, pV, Gn, vF, Am, Ak, Aj, Cm, List.getElem?_cons_zero, List.getElem?_cons_succ, List.set_cons_zero, List.set_cons_succ, List.nil_append, List.cons_append, GS, H0, FF]); (try simp only [Option.some.injEq, exists_eq_left', exists_and_left, List.cons.injEq, V.int.injEq, V.bl.injEq, and_true, true_and, and_assoc, decide_eq_true_eq, List.append_nil, Int.reduceToNat, Int.reducePow, Int.reduceLT, Int.reduceLE, Int.reduceNeg, Int.zero_add, Nat.reducePow, Nat.reduceLT, Int.reduceAdd, Int.reduceSub, Int.reduceMul, V.ref.injEq, bh, Ax, exists_eq_left, exists_eq', exists_eq, exists_const, vj, B7, B9, Ca, Cb, B8, Cd, reduceIte, reduceCtorEq, Bool.not_eq_true', decide_eq_false_iff_not, Int.reduceAbs, Bool.not_true, Bool.not_false, if_true, Bool.false_eq_true, if_false, Dx]))))
namespace K
open PySem PySem.Spec PyProof.Rows L2
section
variable {P:IM} {w:Jo} {K:Iq} {mg:Jb->Option Ir} {base:JD}
theorem CH {i:Int} (h:(decide (i.natAbs<10^250))=true):Bd i:=IZ (of_decide_eq_true h) xH
noncomputable def sG (l:Iy) (i j:Int):HO:=.dK [(Kf "cells",.ref l),(Kf "spot",.int i),(Kf "left",.int j)]
def Tp (p:Iy) (n:Nat) (H:Hp):Prop:=∃(l:Iy) (i j:Int) (ns:List Int),H p=Io (sG l i j)/\H l=Io (.lst (ns.map V.int))/\ns.length<=63/\0<=i/\i<=n
def Off (p:Iy) (H H':Hp):Prop:=∀ b,b≠p->H' b=H b
def jF (p:Iy) (H H':Hp):Prop:=∀ b o,b≠p->H b=Io o->H' b=Io o
theorem Off.lZ {p:Iy} {H H':Hp} (h:Off p H H'):jF p H H':=λb o n e=>by rw [h b n];exact e
theorem jF.trans {p:Iy} {H H1 H2:Hp} (h:jF p H H1) (h':jF p H1 H2):jF p H H2:=λb o n e=>h' b o n (h b o n e)
theorem Off.trans {p:Iy} {H H1 H2:Hp} (h:Off p H H1) (h':Off p H1 H2):Off p H H2:=λb n=>(h' b n).trans (h b n)
theorem jF.of {p:Iy} {H H':Hp} (h:av H H'):jF p H H':=λb o _ e=>h b o e
theorem Off.E5 {p:Iy} {H:Hp} {o:HO}:Off p H (upd H p o):=λb n=>ao n
theorem Tp.ne {p b:Iy} {n:Nat} {H:Hp} {o:HO} (h:Tp p n H) (e:H b=Io o) (z:∀ kvs,o≠.dK kvs):b≠p:=by obtain⟨l,i,j,ns,a,_⟩:=h;exact bI e a (z _)
theorem uV:∀{L:List V},(∀ x∈L,∃ c,x=V.int c)->∃ ns:List Int,L=ns.map V.int
 | [],_=>⟨[],rfl⟩
 | x::L,h=>by obtain⟨c,e⟩:=h x (IH ..);obtain⟨ns,z⟩:=uV (L:=L) λy hy=>h y (IG _ hy);exact⟨c::ns,by rw [e,z];rfl⟩
theorem xT {ns:List Int} {lo hi:Option Int}:∃ ns':List Int,fj (ns.map V.int) lo hi=ns'.map V.int/\ns'.length<=ns.length:=by
 obtain⟨ns',e⟩:=uV (L:=fj (ns.map V.int) lo hi) λx hx=>by unfold fj at hx;obtain⟨c,_,e⟩:=IV.mp (Oo (K8 hx));exact⟨c,e.symm⟩
 refine⟨ns',e,?_⟩;have:=gh (ns.map V.int) lo hi;rw [e,Iu,Iu] at this;exact this
theorem ju:aw ["_law_script"] ["_law_script"] (ak (top 54)):=dD
section
variable {H:Hp} {p l:Iy} {i j i' j':Int}
theorem qp (h:H p=Io (sG l i j)):dI H p (.str "left") (Io (.int j)):=dI.k (k:=Kf "left") h
theorem Cp (h:H p=Io (sG l i j)):dI H p (.str "spot") (Io (.int i)):=dI.k (k:=Kf "spot") h
theorem Av (h:H p=Io (sG l i j)):dI H p (.str "cells") (Io (.ref l)):=dI.k (k:=Kf "cells") h
theorem sy (h:H p=Io (sG l i j)):lj H p (.str "left") (.int j') (upd H p (sG l i j')):=.inl ⟨_,Kf "left",h,rfl,by show 3<sizeLine;decide,rfl⟩
theorem Aw (h:H p=Io (sG l i j)):lj H p (.str "spot") (.int i') (upd H p (sG l i' j)):=.inl ⟨_,Kf "spot",h,rfl,by show 3<sizeLine;decide,rfl⟩
end
theorem jq:aw ["_law_tape_here","_law_many","_law_found","_law_spot","_law_cells","_law_cell","_law_seed"] ["_law_tape_here","_law_many"] (ak (top 55)):=dD
end
end K
namespace K
open PySem PySem.Spec PyProof.Rows L2
section
variable {P:IM} {w:Jo} {K:Iq} {mg:Jb->Option Ir} {base:JD}
def j6 (a:Int):Prop := -(10^240)<=a/\a<=10^240
theorem j6.bd {a:Int} (h:j6 a):Bd a:=Bd.of (by have:=h.1;lia) (by have:=h.2;lia)
def h7:Sp:=λvs H Q _=>∃ a b:Int,vs=[.int a,.int b]/\j6 a/\j6 b/\∀ g u v p H',Gcd.Fe a b g u v->av H H'->H' p=Io (.tup [.int g,.int u,.int v])->Q (.ref p) H'
theorem mw:aw ["a","b","g","u","v","next_g","next_u","next_v","times"] ["a","b"] (ak (top 15)):=dD
structure DS where
 (g u v ng nu nv:Int)
 t:Option V
theorem tT (D:ax K mg "divisor" (top 15)) (n_abs:mg "abs"=none):Callee P w K mg base aQ 1 "divisor" ["a","b"] h7:=by
 refine cO D mw (λf cdv A outer s H vs Q E hr h=>?_);obtain⟨a,b,rfl,ha,hb,q⟩:=h;have nd:=mw.nd;refine⟨_,(ae (vf (i:=2) (j:=3) (k:=4) rfl nd rfl rfl rfl (by decide) (by decide) (by decide) rfl rfl rfl (aa (aC lB rfl n_abs L2.boot_abs (aa (pv 0) af)) (aa ah (aa ah af))) rfl) (ae (vf (i:=5) (j:=6) (k:=7) rfl nd rfl rfl rfl (by decide) (by decide) (by decide) rfl rfl rfl (aa (aC lB rfl n_abs L2.boot_abs (aa (pv 1) af)) (aa ah (aa ah af))) rfl) (ae (aV IQ (ay c7 (pv 5) ah (aA _)) (ae (bB (i:=8) nd (ar bA (pv 2) (pv 5))) (ae (pP (i:=2) (j:=5) rfl nd rfl rfl (by decide) rfl rfl (aa (pv 5) (aa (ar fL (pv 2) (ar aK (pv 8) (pv 5))) af)) rfl) (ae (pP (i:=3) (j:=6) rfl nd rfl rfl (by decide) rfl rfl (aa (pv 6) (aa (ar fL (pv 3) (ar aK (pv 8) (pv 6))) af)) rfl) (ai (pP (i:=4) (j:=7) rfl nd rfl rfl (by decide) rfl rfl (aa (pv 7) (aa (ar fL (pv 4) (ar aK (pv 8) (pv 7))) af)) rfl)))))) (ai (az (aF (aa (pv 2) (aa (jf (ay fX (pv 0) ah (aA _)) (ma iR (pv 3)) (pv 3)) (aa (jf (ay fX (pv 1) ah (aA _)) (ma iR (pv 4)) (pv 4)) af))))))))),?_⟩;show bH _ _ _ [Io (.int a),Io (.int b),none,none,none,none,none,none,none] H;k_data;have hA:0<=(if a<0 then -a else a)/\(if a<0 then -a else a)<=10^240:=by have:=ha.1;have:=ha.2;split<;>lia
 have hB:0<=(if b<0 then -b else b)/\(if b<0 then -b else b)<=10^240:=by have:=hb.1;have:=hb.2;split<;>lia
 refine aW (α:=DS) (λx=>[Io (.int a),Io (.int b),Io (.int x.g),Io (.int x.u),Io (.int x.v),Io (.int x.ng),Io (.int x.nu),Io (.int x.nv),x.t])
  (λx H'=>H'=H/\Gcd.J (if a<0 then -a else a) (if b<0 then -b else b) x.g x.u x.v x.ng x.nu x.nv/\x.g<=10^240/\x.ng<=10^240) (λx=>x.ng.toNat)
  ⟨_,1,0,_,0,1,none⟩ rfl ⟨rfl,Gcd.J.start hA.1 hB.1,hA.2,hB.2⟩ ?_
 rintro x H1 ⟨rfl,j,hg,hng⟩;k_data;refine aZ (λc=>?_) (λc=>?_)
 ·refine⟨_,λ_ _ z=>z,?_⟩;obtain⟨s1,s2,s3,s4⟩:=j.small hA.1 hB.1 hA.2 hB.2 (by lia);obtain⟨j',l,q0,ql⟩:=j.turn c;have bg:j6 x.ng:=⟨by lia,hng⟩
  have bq:j6 (x.g/x.ng):=⟨by lia,by lia⟩
  refine⟨c,bg.bd,bq.bd,bg.bd,bq.bd,j6.bd s3,bq.bd,j6.bd s4,⟨x.ng,x.nu,x.nv,x.g-x.g/x.ng*x.ng,x.u-x.g/x.ng*x.nu,x.v-x.g/x.ng*x.nv,Io (.int (x.g/x.ng))⟩,rfl,rfl,j',hng,by show (x.g-x.g/x.ng*x.ng)<=_;lia,by show (x.g-x.g/x.ng*x.ng).toNat<x.ng.toNat;lia⟩
 ·have e:x.ng=0:=by have:=j.n0;lia
  rw [e] at j;have z:=j.done;refine aZ (λca=>?_) (λca=>?_)<;>simp only [ca,if_true,if_false] at z ⊢<;>refine aZ (λcb=>?_) (λcb=>?_)<;>simp only [cb,if_true,if_false] at z ⊢ <;>
   exact⟨by show 3<=sizeLine;decide,λp hp=>q _ _ _ p _ z (aj hp) ag⟩
end
end K
namespace K
open PySem PySem.Spec PyProof.Rows L2
structure Gd (n a g:Int):Prop where
 pos:0<g
 dn:g∣n
 da:g∣a
 gr:∀ d:Int,d∣n->d∣a->d∣g
theorem Gd.one {n a g g':Int} (h:Gd n a g) (h':Gd n a g'):g=g' :=
 Ov (Jh h'.pos (h'.gr g h.dn h.da)) (Jh h.pos (h.gr g' h'.dn h'.da))
theorem qR {n a g:Int} (dn:g∣n):g∣a%n↔g∣a:=by
 have e:=LX a n;constructor
 ·intro h;rw [<- e];exact Lx (K6 dn) h
 ·intro h;have:a%n=a-n*(a/n):=by lia
  rw [this];exact Og h (K6 dn)
theorem Gd.of {n a g u v:Int} (hn:0<n) (z:Gcd.Fe (a%n) n g u v):Gd n a g:=by
 refine⟨?_,z.db,(qR z.db).mp z.da,λd h1 h2=>?_⟩
 ·have:=z.g0;rcases (by lia:g=0∨0<g) with e | e
  ·have:=z.db;rw [e] at this;have:=UL.mp this;lia
  ·exact e
 ·rw [<- z.lin];exact Lx (JA ((qR h1).mpr h2)) (JA h1)
theorem DZ {n a u v:Int} (hn:0<n) (z:Gcd.Fe (a%n) n 1 u v):n∣u%n*a-1:=by
 have e:=z.lin;have e1:=LX a n;have e2:=LX u n;refine⟨u*(a/n)-v-u/n*a,?_⟩;generalize a%n=x at *;generalize u%n=y at *;generalize a/n=s at *;generalize u/n=t at *
 grind
section
variable {P:IM} {w:Jo} {K:Iq} {mg:Jb->Option Ir} {base:JD}
def h8 (C:Iy):Sp:=λvs H Q E=>∃ n a:Int,vs=[.int n,.int a]/\0<n/\n<=10^240/\∀ g,Gd n a g ->
 (g=1->∀ r H',0<=r->r<n->n∣r*a-1->av H H'->Q (.int r) H') /\
 (1<g->∀ x dx H',av H H'->H x=none->H' x=Io (XO x C (Io dx))->H' dx=Io (.xd [("divisor",.int g)])->E (.ref C) (Io x) H')
theorem mx:aw ["n","a","g","u","v"] ["n","a"] (ak (top 16)):=dD
theorem tV {C:Iy} (D:ax K mg "inverse" (top 16)) (c_divisor:Callee P w K mg base aQ 1 "divisor" ["a","b"] h7) (x_NoInverse:qz P w K mg base "NoInverse" C "divisor"):Callee P w K mg base (cZ P w) 3 "inverse" ["n","a"] (h8 C):=by
 refine cX D mx (λf cdv A outer s H vs Q E hr h=>?_);obtain⟨n,a,rfl,hn,hn1,q⟩:=h;have nd:=mx.nd;refine⟨_,(ae (eC (bN c_divisor hr aB (aa (ar aH (pv 1) (pv 0)) (aa (pv 0) af))) (bZ (n:=3) rfl (au (aq (i:=2) nd rfl (Jf rfl) (.inr rfl)) (au (aq (i:=3) nd rfl (Jf rfl) (.inr rfl)) (au (aq (i:=4) nd rfl (Jf rfl) (.inr rfl)) aO))))) (ae (aS (ay c7 (pv 2) ah (aA _)) (ai (cP (mf x_NoInverse (hr.mono (by decide)) rfl (aa (pv 2) af)))) aD) (iG.lY (ai (az (ar aH (pv 3) (pv 0))))))),?_⟩;show bH _ _ _ [Io (.int n),Io (.int a),none,none,none] H;k_data;have r0:=Jn a (show n≠0 by lia);have r1:=Jg a hn;refine⟨hn,a%n,n,rfl,⟨by lia,by lia⟩,⟨by lia,by lia⟩,λg u v p H1 z hs hh=>?_⟩;have G:=Gd.of hn z;obtain⟨q1,q2⟩:=q g G;refine⟨p,_,rfl,bj.of hh,rfl,?_⟩;k_data;refine aZ (λc=>?_) (λc=>?_)
 ·intro x dx hx hdx ne;have ne':dx≠x:=ne;refine⟨C,Io dx,ag,x_NoInverse.cls,?_,?_⟩
  ·cases e:H x with
   | none=>rfl
   | some o=>rw [hs _ _ e] at hx;cases hx
  ·refine q2 c x dx _ ?_ ?_ ag ?_
   ·intro b o e;have e1:=hs _ _ e;have bx:b≠x:=λy=>by rw [y,hx] at e1;cases e1
    have bd:b≠dx:=λy=>by rw [y,hdx] at e1;cases e1
    rw [ao bx,ao bx,ao bd,ao bx];exact e1
   ·cases e:H x with
    | none=>rfl
    | some o=>rw [hs _ _ e] at hx;cases hx
   ·rw [ao ne',ao ne',ag]
 ·have g1:g=1:=by have:=G.pos;lia
  subst g1;exact⟨hn,q1 rfl _ _ (Jn _ (by lia)) (Jg _ hn) (DZ hn z) hs⟩
end
end K
namespace K
open PySem PySem.Spec PyProof.Rows L2
section
variable {P:IM} {w:Jo} {K:Iq} {mg:Jb->Option Ir} {base:JD}
def dW (C:Iy):Sp:=λvs H Q E=>∃ n a e:Int,vs=[.int n,.int a,.int e]/\0<n/\n<=10^120 /\
 (0<=e->∀ H',av H H'->Q (.int (a^e.toNat%n)) H') /\
 (e<0->∀ g,Gd n a g ->
  (g=1->∀ b H',0<=b->b<n->n∣b*a-1->av H H'->Q (.int (b^(-e).toNat%n)) H') /\
  (1<g->∀ x dx H',av H H'->H x=none->H' x=Io (XO x C (Io dx))->H' dx=Io (.xd [("divisor",.int g)])->E (.ref C) (Io x) H'))
theorem rZ:aw ["n","a","e","base","left","rest"] ["n","a","e"] (ak (top 21)):=dD
theorem zg {C:Iy} (D:ax K mg "power" (top 21)) (c_inverse:Callee P w K mg base (cZ P w) 3 "inverse" ["n","a"] (h8 C)) (n_abs:mg "abs"=none):Callee P w K mg base (cZ P w) 4 "power" ["n","a","e"] (dW C):=by
 refine cX D rZ (λf cdv A outer s H vs Q E hr h=>?_);obtain⟨n,a,e,rfl,hn,hn1,q1,q2⟩:=h;have nd:=rZ.nd;refine⟨_,(ae (bB (i:=3) nd (ar aH (pv 1) (pv 0))) (ae (cw (aS (ay fX (pv 2) ah (aA _)) (ai (bB (i:=3) nd (bN c_inverse hr jc (aa (pv 0) (aa (pv 1) af))))) aD)) (iG.lY (ae (bB (i:=4) nd (aC lB rfl n_abs L2.boot_abs (aa (pv 2) af))) (ae (bB (i:=5) nd (ar aH ah (pv 0))) (ae (aV IQ (ay c7 (pv 4) ah (aA _)) (ae (cw (aS (ay cL (ar aH (pv 4) ah) ah (aA _)) (ai (bB (i:=5) nd (ar aH (ar aK (pv 5) (pv 3)) (pv 0)))) aD)) (ae (bB (i:=3) nd (ar aH (ar aK (pv 3) (pv 3)) (pv 0))) (ai (eF (i:=4) nd rfl (Jf rfl) ah (gp lM)))))) (ai (az (pv 5))))))))),?_⟩;show bH _ _ _ [Io (.int n),Io (.int a),Io (.int e),none,none,none] H;k_data;refine⟨hn,λσ' H'=>av H H'/\∃ b:Int,σ'=[Io (.int n),Io (.int a),Io (.int e),Io (.int b),none,none]/\0<=b/\b<n/\Q (.int (b^e.natAbs%n)) H',?_,?_⟩
 ·k_data;refine aZ (λc=>?_) (λc=>?_)
  ·refine⟨n,a,rfl,hn,by lia,λg G=>⟨λe1 r H' r0 r1 r2 hs=>?_,λg1 x dx H' hs hx hX hd=>?_⟩⟩
   ·have:=(q2 c g G).1 e1 r H' r0 r1 r2 hs;rw [show (-e).toNat=e.natAbs by lia] at this;exact⟨hs,r,rfl,r0,r1,this⟩
   ·exact (q2 c g G).2 g1 x dx H' hs hx hX hd
  ·have:=q1 (by lia) H (av.refl _);rw [show e.toNat=e.natAbs by lia,<- Pw.mi] at this;exact⟨av.refl _,Jn _ (by lia),Jg _ hn,this⟩
 ·rintro σ' H' ⟨hs,b,rfl,hb0,hb1,q⟩;k_data;refine⟨hn,?_⟩;have ee:(if e<0 then -e else e)=(e.natAbs:Int):=by split<;>lia
  rw [ee];refine aW (α:=Int × Nat × Int) (λx=>[Io (.int n),Io (.int a),Io (.int e),Io (.int x.1),Io (.int x.2.1),Io (.int x.2.2)]) (λx H1=>H1=H'/\0<=x.1/\x.1<n/\0<=x.2.2/\x.2.2<n/\x.2.2*x.1^x.2.1%n=b^e.natAbs%n) (λx=>x.2.1) (b,e.natAbs,1%n) rfl ⟨rfl,hb0,hb1,Jn _ (by lia),Jg _ hn,?_⟩ ?_
  ·show 1%n*b^e.natAbs%n=_;rw [Pw.yK,Kt]
  rintro⟨b',l,r⟩ H1 ⟨rfl,h1,h2,h3,h4,h5⟩;replace h1:0<=b':=h1;replace h2:b'<n:=h2;replace h3:0<=r:=h3;replace h4:r<n:=h4;replace h5:r*b'^l%n=b^e.natAbs%n:=h5;k_data;refine aZ (λc=>?_) (λc=>?_)
  ·refine⟨_,λ_ _ z=>z,λσ' H2=>H2=H1/\σ'=[Io (.int n),Io (.int a),Io (.int e),Io (.int b'),Io (.int l),Io (.int (if l%2=1 then r*b'%n else r))],?_,?_⟩
   ·k_data;refine aZ (λc=>?_) (λc=>?_)
    ·exact⟨Bd.of (by lia) (by lia),Bd.of (by lia) (by lia),hn,by rw [if_pos (by lia)]⟩
    ·rw [if_neg (by lia)]
   rintro σ' H2 ⟨rfl,rfl⟩;k_data;have r0:0<=(if l%2=1 then r*b'%n else r)/\(if l%2=1 then r*b'%n else r)<n:=by
    split
    ·exact⟨Jn _ (by lia),Jg _ hn⟩
    ·exact⟨h3,h4⟩
   refine⟨Bd.of (by lia) (by lia),Bd.of (by lia) (by lia),hn,CH (by decide),(b'*b'%n,l/2,if l%2=1 then r*b'%n else r),rfl,(by show (l:Int)/2=((l/2:Nat):Int);lia),rfl,Jn _ (by lia),Jg _ hn,r0.1,r0.2,?_,?_⟩
   ·show (if l%2=1 then r*b'%n else r)*(b'*b'%n)^(l/2)%n=_;rw [Pw.step];exact h5
   ·show l/2<l;lia
  ·have l0:l=0:=by lia
   subst l0;rw [Jp,KP] at h5;have h6:r%n=r:=Kh h3 h4;rw [<- h5,h6] at q;exact q
def uq:Sp:=λvs H Q _=>∃ n k:Int,vs=[.int n,.int k]/\2<=n/\n<=10^120/\k<=10^120/\Ld.Inv n k/\∀ r,Ld.fW n r->Q (.int r) H
theorem df:aw ["n","start","number"] ["n","start"] (ak (top 11)):=dD
theorem BB (D:ax K mg "least_divisor_from" (top 11)):Callee P w K mg base aQ 1 "least_divisor_from" ["n","start"] uq:=by
 refine cO D df (λf cdv A outer s H vs Q E hr h=>?_);obtain⟨n,k,rfl,hn,hn1,hk1,hk,q⟩:=h;have nd:=df.nd;refine⟨_,(ae (bB (i:=2) nd (pv 1)) (ae (aV IQ (ay C4 (ar aK (pv 2) (pv 2)) (pv 0) (aA _)) (ae (aS (ay cL (ar aH (pv 0) (pv 2)) ah (aA _)) (ai (az (pv 2))) aD) (ai (eF (i:=2) nd rfl (Jf rfl) (jf (ay cL (pv 2) ah (aA _)) ah ah) (gp gW))))) (ai (az (pv 0))))),?_⟩;show bH _ _ _ [Io (.int n),Io (.int k),none] H;k_data;refine aW (α:=Int) (λx=>[Io (.int n),Io (.int k),Io (.int x)]) (λx H1=>H1=H/\Ld.Inv n x/\x<=10^120+2) (λx=>(n+2-x).toNat) k rfl ⟨rfl,hk,by lia⟩ ?_;rintro x H1 ⟨rfl,hx,hx1⟩;have x2:=hx.two;k_data;refine⟨Bd.of (by lia) (by lia),Bd.of (by lia) (by lia),?_⟩;refine aZ (λc=>?_) (λc=>?_)
 ·have xn:x<=n:=by have:=Jm (show 1<=x by lia) (show 0<=x by lia);lia
  have st:=λz=>hx.step (k:=x) z;refine⟨λσ' H'=>H'=H1/\∃ y,y=(x+if x=2 then 1 else 2)/\¬x∣n/\σ'=[Io (V.int n),Io (V.int k),Io (V.int y)],?_,by lia,?_⟩
  ·rintro σ' H' ⟨rfl,y,hy,nd',rfl⟩;refine⟨y,rfl,rfl,by rw [hy];exact st nd',?_,?_⟩
   ·split at hy<;>lia
   ·split at hy<;>lia
  refine aZ (λc2=>?_) (λc2=>?_)
  ·exact q x (hx.found (I0 c2))
  have nd':¬x∣n:=λz=>c2 (JP z);refine aZ (λc3=>?_) (λc3=>?_)
  ·exact⟨rfl,_,by rw [if_pos c3],nd',rfl⟩
  ·exact⟨rfl,_,by rw [if_neg c3],nd',rfl⟩
 ·exact q n (hx.done hn (by lia))
def qd (c1 c2:Iy):Sp:=λvs H Q E=>∃ n:Int,vs=[.int n]/\(n<2->AI c1 H E)/\(10^9<n->AL c2 "part" (.int n) H E)/\(2<=n->n<=10^9->∀ r,Ld.fW n r->Q (.int r) H)
theorem fE:aw ["n"] ["n"] (ak (top 10)):=dD
theorem yZ {c1 c2:Iy} (D:ax K mg "least_divisor" (top 10)) (c_least_divisor_from:Callee P w K mg base aQ 1 "least_divisor_from" ["n","start"] uq) (x_NoNumber:sN K mg "NoNumber" c1) (x_TooFar:qz P w K mg base "TooFar" c2 "part")
  (g_GREATEST:∃ t,mg "GREATEST"=Io (.int 1000000000 t)):Callee P w K mg base (cZ P w) 3 "least_divisor" ["n"] (qd c1 c2):=by
 refine cX D fE (λf cdv A outer s H vs Q E hr h=>?_);obtain⟨n,rfl,q1,q2,q3⟩:=h;obtain⟨tk,g_GREATEST⟩:=g_GREATEST;have nd:=fE.nd;refine⟨_,(ae (aS (ay fX (pv 0) ah (aA _)) (ai (cP (me x_NoNumber rfl))) aD) (ae (aS (ay c7 (pv 0) (pN (v:=.int 1000000000) rfl g_GREATEST ⟨_,rfl⟩) (aA _)) (ai (cP (mf x_TooFar (hr.mono (by decide)) rfl (aa (pv 0) af)))) aD) (iG.lY (ai (az (bN c_least_divisor_from hr aB (aa (pv 0) (aa ah af)))))))),?_⟩;show bH _ _ _ [Io (.int n)] H;k_data;refine aZ (λc=>?_) (λc=>?_)
 ·exact λx hx=>fk x_NoNumber.cls (av.refl _) hx (q1 c)
 refine aZ (λc'=>?_) (λc'=>?_)
 ·exact λx dx hx hdx ne=>jP x_TooFar.cls (av.refl _) hx hdx ne (q2 (by lia))
 exact⟨n,2,rfl,by lia,by lia,by lia,⟨by lia,.inl rfl,λd d0 d1=>by lia⟩,q3 (by lia) (by lia)⟩
noncomputable def eB (p:Int × Int):IL:=.tuple [.int p.1,.int p.2]
def mE (K:Iq) (c1 c2:Iy):Sp:=λvs H Q E=>∃ n:Int,vs=[.int n]/\(n<1->AI c1 H E)/\(10^9<n->AL c2 "part" (.int n) H E)/\(1<=n->n<=10^9->∀ ps us p H',Num.Part n ps->ps.length<=29->av H H'->H p=none->H' p=Io (.lst us)->aE K H' (ps.map eB) us->Q (.ref p) H')
theorem nZ:aw ["n","parting","left","prime","many"] ["n"] (ak (top 12)):=dD
theorem wD {c1 c2:Iy} (D:ax K mg "parted" (top 12)) (c_least_divisor_from:Callee P w K mg base aQ 1 "least_divisor_from" ["n","start"] uq) (x_NoNumber:sN K mg "NoNumber" c1) (x_TooFar:qz P w K mg base "TooFar" c2 "part")
  (g_GREATEST:∃ t,mg "GREATEST"=Io (.int 1000000000 t)):Callee P w K mg base (cZ P w) 3 "parted" ["n"] (mE K c1 c2):=by
 refine cX D nZ (λf cdv A outer s H vs Q E hr h=>?_);obtain⟨n,rfl,q1,q2,q3⟩:=h;obtain⟨tk,g_GREATEST⟩:=g_GREATEST;have nd:=nZ.nd;refine⟨_,(ae (aS (ay fX (pv 0) ah (aA _)) (ai (cP (me x_NoNumber rfl))) aD) (ae (aS (ay c7 (pv 0) (pN (v:=.int 1000000000) rfl g_GREATEST ⟨_,rfl⟩) (aA _)) (ai (cP (mf x_TooFar (hr.mono (by decide)) rfl (aa (pv 0) af)))) aD) (iG.lY (ae (bB (i:=1) nd (fM af)) (ae (bB (i:=2) nd (pv 0)) (ae (bB (i:=3) nd ah) (ae (aV IQ (ay c7 (pv 2) ah (aA _)) (ae (bB (i:=3) nd (bN c_least_divisor_from hr aB (aa (pv 2) (aa (pv 3) af)))) (ae (bB (i:=4) nd ah) (ae (aV IQ (ay cL (ar aH (pv 2) (pv 3)) ah (aA _)) (ae (eF (i:=2) nd rfl (Jf rfl) (pv 3) (gp lM)) (ai (eF (i:=4) nd rfl (Jf rfl) ah (gp gW))))) (ai (bU (iu JY Kv PySem.F.type_list_append dA (pv 1) (aa (aF (aa (pv 3) (aa (pv 4) af))) af)))))))) (ai (az (pv 1)))))))))),?_⟩;show bH _ _ _ [Io (.int n),none,none,none,none] H;k_data;refine aZ (λc=>?_) (λc=>?_)
 ·exact λx hx=>fk x_NoNumber.cls (av.refl _) hx (q1 c)
 refine aZ (λc'=>?_) (λc'=>?_)
 ·exact λx dx hx hdx ne=>jP x_TooFar.cls (av.refl _) hx hdx ne (q2 (by lia))
 refine⟨by decide,λpp hpp=>?_⟩;have n1:n<=10^9:=by lia
 refine aW (α:=Int × Int × Option V) (λx=>[Io (.int n),Io (.ref pp),Io (.int x.1),Io (.int x.2.1),x.2.2]) (λx H1=>av H H1/\∃(ps:List (Int × Int)) (us:List V),H1 pp=Io (.lst us)/\aE K H1 (ps.map eB) us/\Num.Way n ps x.1 x.2.1) (λx=>x.1.toNat) (n,2,none) rfl ⟨aj hpp,[],[],ag,rfl,.start (by lia)⟩ ?_;rintro⟨left,prime,o⟩ H1 ⟨hs,ps,us,epp,hd,W⟩;replace W:Num.Way n ps left prime:=W;have l1:=W.pos;have ln:left<=n:=by have z:=W.two;have p0:=Num.bJ (show (0:Int)<2 by decide) ps.length;have:=Jj (show (1:Int)<=2^ps.length by lia) (show 0<=left by lia);lia
 k_data;refine aZ (λc3=>?_) (λc3=>?_)
 ·have pl:prime<=10^120:=by
   rcases (by lia:prime<=left∨left<prime) with z | z
   ·lia
   ·exact absurd (MC left) (W.inv.no left (by lia) z)
  refine⟨_,λ_ _ z=>z,left,prime,rfl,by lia,by lia,pl,W.inv,λr hL=>?_⟩;have r2:=hL.two;have rl:=hL.le (by lia);refine aW (α:=Int × Nat) (λx=>[Io (.int n),Io (.ref pp),Io (.int x.1),Io (.int r),Io (.int (x.2:Int))]) (λx H2=>H2=H1/\left=r^x.2*x.1/\1<=x.1/\x.1<=left) (λx=>x.1.toNat) (left,0) rfl ⟨rfl,by rw [Jp,Kt],by lia,MZ _⟩ ?_;rintro⟨lf,k⟩ H2 ⟨rfl,e1,e2,e3⟩;replace e1:left=r^k*lf:=e1;replace e2:1<=lf:=e2;replace e3:lf<=left:=e3;k_data;refine⟨by lia,?_⟩;refine aZ (λc4=>?_) (λc4=>?_)
  ·obtain⟨q,hq⟩:=I0 c4;have ed:lf/r=q:=by rw [hq];exact JB _ (by lia)
   have q1':1<=q:=by
    rcases (by lia:q<=0∨1<=q) with z | z
    ·have:=Jq (show 0<=r by lia) z;lia
    ·exact z
   have ql:q<lf:=by rw [hq];have:=Jj r2 (show 0<=q by lia);lia
   refine⟨_,λ_ _ z=>z,by lia,Bd.of (by lia) (by lia),(q,k+1),?_,rfl,?_,q1',?_,?_⟩
   ·rw [ed];rfl
   ·rw [e1,hq,IY,JO]
   ·show q<=left;lia
   ·show q.toNat<lf.toNat;lia
  ·have ng:¬r∣lf:=λz=>c4 (JP z);have k1:1<=k:=by
    cases k with
    | zero=>rw [Jp,Kt] at e1;exact absurd (e1▸hL.dv) ng
    | succ k=>lia
   have W2:=W.step n1 c3 hL e1 e2 k1 ng;have len:=W.len n1;have ul:us.length=ps.length:=by rw [hd.length,Iu]
   have lt:lf<left:=by
    obtain⟨k',rfl⟩:∃ k',k=k'+1:=⟨k-1,by lia⟩
    have p0:=Num.bJ (show 0<r by lia) k';have h1:r<=r^(k'+1):=by rw [IY];have:=Jj (show 1<=r^k' by lia) (show 0<=r by lia);lia
    have:=Jj (show 2<=r^(k'+1) by lia) (show 0<=lf by lia);lia
   refine⟨.inl ⟨rfl,_,aJ.of epp⟩,by show 2<=sizeLine;decide,λpt hpt=>?_⟩;have s2:=aj (o:=.tup [V.int r,V.int (k:Int)]) hpt;have npt:pp≠pt:=λz=>by rw [<- z,epp] at hpt;cases hpt
   have el:=s2 _ _ epp;have et:upd H2 pt (.tup [V.int r,V.int (k:Int)]) pt=Io (.tup [V.int r,V.int (k:Int)]):=ag;have hd2:=aE.same s2 _ hd;have S2:=hs.trans s2;generalize upd H2 pt _=H3 at *;refine⟨pp,us,.ref pt,rfl,rfl,el,J3 (show us.length<=29 by lia) (by decide),(lf,r,Io (.int (k:Int))),rfl,rfl,rfl,S2.upd hpp,⟨ps++[(r,(k:Int))],us++[.ref pt],ag,?_,W2⟩,?_⟩
   ·rw [IT];refine aE.append (aE.but el (λb o ne h=>by rw [ao ne];exact h) _ (cF (λ_=>rfl) ps) hd2) (.one (dv.tup (xs:=[V.int r,V.int (k:Int)]) ?_ ⟨_,_,rfl,rfl,.one rfl⟩));rw [ao (JC npt)];exact et
   ·show lf.toNat<left.toNat;lia
 ·have z:left=1:=by lia
  subst z;exact q3 (by lia) n1 ps us pp H1 W.done (W.len n1) hs hpp epp hd
end
end K
namespace L2
open PySem PySem.Spec PyProof.Rows
theorem bL {X:Cx} (K:Iq) (h:X.K=K):GI X (EJ K):=h▸a9
theorem c8 {X:Cx} {pos:Mn} {es:List JH} {k:Nat} {t:CD} {n:Nat} (K:Iq) (e:X.K=K) (hc:X.calm=true) (h:Fv X es t)
  (hn:(assignEach es X.env).length=n:=by rfl) (hst:(assignEach es X.env).findIdx? (·.1)=none:=by rfl):PG X (.Tuple es k pos) (mS K n t):=e▸bZ hc h hn hst
end L2
namespace K
open PySem PySem.Spec PyProof.Rows L2
section
variable {P:IM} {w:Jo} {K:Iq} {mg:Jb->Option Ir} {base:JD}
theorem aI {X:Cx}:Passes (cZ P w) X E0:=by intro pins σ H1 s1 e s' I hq;obtain⟨x,C,T,dd,H',_,_,_,_,_,_,_,_,_,_,z⟩:=hq;exact z.elim
theorem bM {H:Hp} {q:Iy} {xs:List V} {k:Int} {v:V} {Q:VK} (t:bj K H q xs) (e:uE xs k=Io v) (h:Q v H):EJ K (.ref q) (.int k) H Q:=⟨q,xs,k,v,rfl,rfl,t,e,h⟩
theorem kE {x:V} {r:List V}:uE (x::r) 0=Io x:=by unfold uE xt;simp
def Ic (row:IL) (q:Int):Prop:=∃ ds es,row=.tuple (.tuple (.int q::ds)::es)
def Fj (rows:List IL) (qs:List Int):Prop:=rows.length=qs.length/\∀(i:Nat) (row:IL),rows[i]?=Io row->∃ q,qs[i]?=Io q/\Ic row q
def eK (K:Iq):Sp:=λvs H Q _=>∃ v rows qs,vs=[v]/\dv K H (.tuple rows) v/\Fj rows qs/\rows.length<=10^6/\∀ p H',av H H'->H p=none->H' p=Io (.lst (qs.map V.int))->Q (.ref p) H'
theorem jw:aw ["parts"] ["parts"] (ak (top 18)):=dD
theorem rD (D:ax K mg "primes_in" (top 18)):Callee P w K mg base aQ 1 "primes_in" ["parts"] (eK K):=by
 refine cO D jw (λf cdv A outer s H vs Q E hr h=>?_);obtain⟨v,rows,qs,rfl,hd,⟨hl,hq⟩,h6,q⟩:=h;have nd:=jw.nd;refine⟨_,(ai (az (fz rfl (lD (N':=["row"]) (js:=[none]) rfl rfl) (iL (pv 0)) (λ_ _ _ _=>(aq (i:=0) (show JJ [("row":Jb)] from by decide +kernel) rfl (Jf rfl) (.inr rfl))) (λ_ _ _ _=>aR) (λ_ _ _ _=>(aG (bL K rfl) (aG (bL K rfl) (pv 0) ah (λ_ _=>rfl)) ah (λ_ _=>rfl)))))),?_⟩;show kL _ _ [Io v] H;obtain⟨p,xs,rfl,hS,ht⟩:=hd;k_data;have xl:=ht.length;refine⟨⟨_,hS⟩,?_⟩;refine gU (xs:=xs) (λi zs H3=>H3=H/\zs=(qs.take i).map V.int) ⟨rfl,rfl⟩ (IJ (by lia) (show 10^6<=sizeLine by decide)) (λi zs H3 hi ⟨e1,e2⟩=>⟨by rw [e1];exact hS,by rw [e2];simp;lia⟩) ?_ ?_
 ·rintro i x zs H3 hx ⟨rfl,rfl⟩;obtain⟨d,hd,hv⟩:=ht.get hx;obtain⟨q',hq',ds,es,rfl⟩:=hq i d hd;obtain⟨p1,x1,rfl,t1,u,r1,rfl,hv2,_⟩:=hv;obtain⟨p2,x2,rfl,t2,u',r2,rfl,hv3,_⟩:=hv2;cases hv3;show cn 0 _ [none] _ _;k_data;refine⟨True.intro,bM t1 kE (bM t2 kE ⟨rfl,?_⟩)⟩;rw [Jv,hq',IT];rfl
 ·rintro zs H3 p3 ⟨rfl,rfl⟩ hp3;rw [show xs.length=qs.length by lia,JI];exact q p3 _ (aj hp3) hp3 ag
def G7 (n a e:Int) (qs:List Int):Prop:=a^e.toNat%n=1/\∀ q∈qs,a^(e/q).toNat%n≠1
def oz (K:Iq):Sp:=λvs H Q _=>∃(n a e:Int) (p:Iy) (qs:List Int),vs=[.int n,.int a,.int e,.ref p]/\0<n/\n<=10^120/\0<=e/\e<=10^120/\aJ K H p (qs.map V.int)/\(∀ q∈qs,0<q/\q<=10^120)/\qs.length<=10^6/\∀ b H',(b=true↔G7 n a e qs)->av H H'->Q (.bl b) H'
theorem kr:aw ["n","a","e","primes"] ["n","a","e","primes"] (ak (top 22)):=dD
theorem tW {C:Iy} (D:ax K mg "is_least" (top 22)) (D':Callee P w K mg base (cZ P w) 4 "power" ["n","a","e"] (dW C)) (n_all:mg "all"=none):Callee P w K mg base aQ 5 "is_least" ["n","a","e","primes"] (oz K):=by
 refine cO D kr (λf cdv A outer s H vs Q E hr h=>?_);obtain⟨n,a,e,p,qs,rfl,hn,hn1,he,he1,hS,hq,hl,q⟩:=h;have nd:=kr.nd;refine⟨_,(ai (az (l7 (dH cL (bN D' hr aI (aa (pv 0) (aa (pv 1) (aa (pv 2) af)))) ah (aA _)) (l9 (aC (qG rfl) rfl n_all L2.boot_all (aa (fz rfl (lD (N':=["prime","n","a","e"]) (js:=[none,Io 0,Io 1,Io 2]) rfl rfl) (bp (pv 3)) (λ_ _ _ _=>(aq (i:=0) (show JJ [("prime":Jb),("n":Jb),("a":Jb),("e":Jb)] from by decide +kernel) rfl (Jf rfl) (.inr rfl))) (λ_ _ _ _=>aR) (λ_ _ _ _=>(dH fY (bN D' hr aI (aa (pv 1) (aa (pv 2) (aa (ar bA (pv 3) (pv 0)) af)))) ah (aA _)))) af)))))),?_⟩;show kL _ _ [Io (.int n),Io (.int a),Io (.int e),Io (.ref p)] H;k_data;refine⟨n,a,e,rfl,hn,hn1,λ_ H1 s1=>?_,λz=>absurd z (by lia)⟩;have hS1:=hS.same s1;k_data;refine aZ (λc=>?_) (λc=>?_)
 ·refine⟨⟨_,hS1⟩,?_⟩;refine aY (xs:=qs.map V.int) (λi zs H3=>av H H3/\zs=((qs.take i).map λq=>decide (a^(e/q).toNat%n≠1)).map V.bl) ⟨s1,rfl⟩ (by rw [Iu];exact IJ hl (show 10^6<=sizeLine by decide)) (λi zs H3 hi ⟨e1,e2⟩=>⟨hS.same e1,by rw [e2];simp;lia⟩) ?_ ?_
  ·rintro i x zs H3 hx ⟨s3,rfl⟩;rw [ID] at hx;obtain⟨y,hy,rfl⟩:=IE.mp hx;have my:=hq y (IC hy);show cn 0 _ [none,Io (.int n),Io (.int a),Io (.int e)] _ _;k_data;refine⟨⟨rfl,rfl,rfl,True.intro⟩,my.1,Bd.of (by lia) (by lia),n,a,e/y,rfl,hn,hn1,λ_ H4 s4=>⟨vj,?_⟩,λz=>absurd (L5 he (show 0<=y by lia)) (by lia)⟩;refine⟨s3.trans s4,?_⟩;rw [Jv,hy,IT,IT];simp
  ·rintro zs H3 p3 ⟨s3,rfl⟩ hp3;rw [Iu,JI];refine xF (bs:=qs.map λq=>decide (a^(e/q).toNat%n≠1)) (aJ.of ag) ?_;refine q _ _ ?_ (s3.trans (aj hp3));rw [M7];constructor
   ·intro h;refine⟨c,λy hy=>?_⟩;have:=h _ (IV.mpr ⟨y,hy,rfl⟩);simpa using this
   ·intro h b hb;obtain⟨y,hy,rfl⟩:=IV.mp hb;simpa using h.2 y hy
 ·exact q false _ ⟨λz=>(by cases z),λz=>absurd z.1 c⟩ s1
theorem c5 {n x:Int} (hn:2<=n):x%n=1↔Num.Al n x 1:=by
 constructor
 ·intro h;refine⟨x/n,?_⟩;have:=Int.emod_add_mul_ediv x n;lia
 ·rintro⟨k,hk⟩;rw [show x=1+n*k by lia,Int.add_mul_emod_self_left];exact Kh (by lia) (by lia)
theorem Bp {n a e:Int} {ps:List (Int × Int)} (hn:2<=n) (h:Num.Part e ps) (he:1<=e):G7 n a e (ps.map (·.1))↔Num.Ord n a e.toNat:=by
 rw [<- Num.zw h he];unfold G7;rw [c5 hn];constructor
 ·exact fun⟨h1,h2⟩=>⟨h1,λq hq z=>h2 q hq ((c5 hn).mpr z)⟩
 ·exact fun⟨h1,h2⟩=>⟨h1,λq hq z=>h2 q hq ((c5 hn).mp z)⟩
theorem gu (P:Int->Prop) {g:Int} (h1:1<=g) (h:P g):∃ m,1<=m/\m<=g/\P m/\∀ a,1<=a->a<m->¬P a:=by
 have:∀(k:Nat) (g:Int),g.toNat=k->1<=g->P g->∃ m,1<=m/\m<=g/\P m/\∀ a,1<=a->a<m->¬P a:=by
  intro k
  induction k using Nl with
  | ind k ih =>
   intro g hk h1 hg;by_cases c:∃ a,1<=a/\a<g/\P a
   ·obtain⟨a,a1,a2,a3⟩:=c;obtain⟨m,m1,m2,m3,m4⟩:=ih a.toNat (by lia) a rfl a1 a3;exact⟨m,m1,by lia,m3,m4⟩
   ·exact⟨g,h1,MZ _,hg,λa a1 a2 a3=>c ⟨a,a1,a2,a3⟩⟩
 exact this _ g rfl h1 h
theorem FX {p:Int} (hp:Num.Pm p):∃ g,Num.LF p g:=by obtain⟨g,g1,g2,g3⟩:=Num.Bj hp;obtain⟨m,m1,m2,m3,m4⟩:=gu (λa=>Num.Ord p a (p-1).toNat) g1 g3;exact⟨m,m1,by lia,m3,m4⟩
def gQ (K:Iq):Sp:=λvs H Q _=>∃(n:Int) (p:Iy) (ps:List (Int × Int)),vs=[.int n,.ref p]/\Num.Pm n/\n<=10^9/\Num.Part (n-1) ps/\ps.length<=29/\aJ K H p (ps.map λx=>V.int x.1)/\∀ g H',Num.LF n g->av H H'->Q (.int g) H'
theorem u6 {n:Int} {ps:List (Int × Int)} (h:Num.Part n ps) (hn:1<=n):∀ q∈ps.map (·.1),2<=q/\q<=n:=λq hq=>by obtain⟨x,hx,rfl⟩:=IV.mp hq;obtain⟨o1,o2,_⟩:=h.ok x hx;have:=Num.d6 hx o2;rw [h.prod] at this;exact⟨o1.two,Jh (by lia) this⟩
theorem iB:aw ["p","primes","full"] ["p","primes"] (ak (top 52)):=dD
theorem pJ (D:ax K mg "least_full" (top 52)) (c_is_least:Callee P w K mg base aQ 5 "is_least" ["n","a","e","primes"] (oz K)):Callee P w K mg base aQ 6 "least_full" ["p","primes"] (gQ K):=by
 refine cO D iB (λf cdv A outer s H vs Q E hr h=>?_);obtain⟨n,p,ps,rfl,hp,hn,hP,hl,hS,q⟩:=h;have n2:=hp.two;obtain⟨g,G⟩:=FX hp;have g1:=G.one;have g2:=G.lt;have nd:=iB.nd;refine⟨_,(ae (bB (i:=2) nd ah) (ae (aV IQ (iN (b8 (bN c_is_least hr aB (aa (pv 0) (aa (pv 2) (aa (ar fL (pv 0) ah) (aa (pv 1) af))))) (λ_=>rfl))) (ai (eF (i:=2) nd rfl (Jf rfl) ah (gp gW)))) (ai (az (pv 2))))),?_⟩;show bH _ _ _ [Io (.int n),Io (.ref p),none] H;k_data;refine aW (α:=Int) (λx=>[Io (.int n),Io (.ref p),Io (.int x)]) (λx H1=>av H H1/\1<=x/\x<=g) (λx=>(g-x).toNat) 1 rfl ⟨av.refl _,MZ _,g1⟩ ?_;rintro x H1 ⟨s1,x1,x2⟩;replace x1:1<=x:=x1;replace x2:x<=g:=x2;k_data;refine⟨n,x,n-1,p,ps.map (·.1),rfl,by lia,by lia,by lia,by lia,?_,λy hy=>?_,?_,λb H2 hb s2=>?_⟩
 ·rw [Na];exact hS.same s1
 ·have:=u6 hP (by lia) y hy;lia
 ·rw [Iu];exact IJ hl (by decide)
 rw [Bp n2 hP (by lia)] at hb;refine⟨b,bh.mpr rfl,?_⟩;cases b
 ·have nx:¬Num.Ord n x (n-1).toNat:=λz=>by have:=hb.mpr z;cases this
  have ne:x≠g:=λz=>nx (z▸G.ord);refine⟨_,λ_ _ z=>z,x+1,rfl,s1.trans s2,by lia,by lia,by lia⟩
 ·have hx:=hb.mp rfl;have xg:x=g:=by
   rcases (by lia:x=g∨x<g) with z | z
   ·exact z
   ·exact absurd hx (G.no x x1 z)
  rw [xg];exact q g H2 G (s1.trans s2)
theorem rW {ps:List (Int × Int)} {p:Int × Int} {ds ds':Nat->IL} (h:∀ j,j<ps.length->ds' j=ds j):Num.rowsOf (ps++[p]) ds'=Num.rowsOf ps ds++[.tuple [ds' ps.length,.int p.2]]:=by
 unfold Num.rowsOf;rw [Js,Ks,Nr,IT];congr 1
 ·refine Rb λj hj=>?_;have:=JQ.mp hj;rw [h j this,KJ,KJ,KC this]
 ·simp
theorem yo {ps:List (Int × Int)} {ds:Nat->IL} (h:∀ i q k,ps[i]?=Io (q,k)->Num.gT q (ds i)):Fj (Num.rowsOf ps ds) (ps.map (·.1)):=by refine⟨by rw [Num.cj,Iu],λi row hi=>?_⟩;have hl:=(IB.mp hi).1;rw [Num.cj] at hl;have hg:=Iv hl;rw [Num.iO hg] at hi;obtain⟨g,rows,e⟩:=(h i _ _ hg).head;exact⟨ps[i].1,by rw [ID,hg];rfl,[.int g,.tuple rows],[.int ps[i].2],by rw [<- JZ hi,e];rfl⟩
theorem gk {H:Hp} {q k:Int} {v:V} (h:dv K H (eB (q,k)) v):∃ p,v=.ref p/\bj K H p [.int q,.int k]:=by obtain⟨p,xs,rfl,h1,x,r,rfl,d1,y,r',rfl,d2,h4⟩:=h;cases h4;cases d1;cases d2;exact⟨p,rfl,h1⟩
def h9 (K:Iq) (L:Nat):Sp:=λvs H Q _=>∃ n:Int,vs=[.int n]/\Num.Pm n/\n<=10^9/\Num.Ht L n/\∀ d v H',Num.gT n d->av H H'->dv K H' d v->Q v H'
def j3 (K:Iq) (L:Nat):Sp:=λvs H Q _=>∃ n:Int,vs=[.int n]/\1<=n/\n<=10^9/\(∀ q,Num.Pm q->q∣n->Num.Ht L q)/\∀ ps ds v H',Num.Part n ps->ps.length<=29->(∀ i q k,ps[i]?=Io (q,k)->Num.gT q (ds i))->av H H'->dv K H' (.tuple (Num.rowsOf ps ds)) v->Q v H'
theorem eJ:aw ["n","least","parts"] ["n"] (ak (top 50)):=dD
theorem wC {L:Nat} {c1 c2 c3:Iy} (D:ax K mg "prime_paper" (top 50)) (c_least_divisor:Callee P w K mg base (cZ P w) 3 "least_divisor" ["n"] (qd c1 c2)) (c_parting_paper:Callee P w K mg base aQ (2*L+8) "parting_paper" ["n"] (j3 K L)) (c_least_full:Callee P w K mg base aQ 6 "least_full" ["p","primes"] (gQ K)) (c_primes_in:Callee P w K mg base aQ 1 "primes_in" ["parts"] (eK K)) (x_NoPrime:qz P w K mg base "NoPrime" c3 "divisor"):Callee P w K mg base (cZ P w) (2*L+9) "prime_paper" ["n"] (h9 K (L+1)):=by
 refine cX D eJ (λf cdv A outer s H vs Q E hr h=>?_);obtain⟨n,rfl,hp,hn,hH,q⟩:=h;have n2:=hp.two;have nd:=eJ.nd;refine⟨_,(ae (bB (i:=1) nd (bY c_least_divisor (hr.mono (by lia)) rfl aI (aa (pv 0) af))) (ae (aS (ay fX (pv 1) (pv 0) (aA _)) (ai (cP (mf x_NoPrime (hr.mono (by lia)) rfl (aa (pv 1) af)))) aD) (iG.lY (ae (bB (i:=2) nd (bY c_parting_paper (hr.mono (by lia)) rfl aB (aa (ar fL (pv 0) ah) af))) (ai (az (aF (aa (pv 0) (aa (bY c_least_full (hr.mono (by lia)) rfl aB (aa (pv 0) (aa (bY c_primes_in (hr.mono (by lia)) rfl aB (aa (pv 2) af)) af))) (aa (pv 2) af)))))))))),?_⟩;show bH _ _ _ [Io (.int n),none,none] H;k_data;refine⟨n,rfl,λz=>absurd z (by lia),λz=>absurd z (by lia),λ_ _ r hL=>⟨r,rfl,?_⟩⟩;have rn:r=n:=by
  have:=hL.le (by lia);rcases (by lia:r<n∨r=n) with z | z
  ·exact absurd hL.dv (hp.no r hL.two z)
  ·exact z
 rw [if_neg (by lia)];refine⟨n-1,rfl,by lia,by lia,hH,λps ds v H1 hP hl hds s1 hv=>?_⟩;refine⟨v,Num.rowsOf ps ds,ps.map (·.1),rfl,hv,yo hds,by rw [Num.cj];exact IJ hl (by decide),λp H2 s2 f2 h2=>?_⟩;rw [Na] at h2;refine⟨n,p,ps,rfl,hp,hn,hP,hl,aJ.of h2,λg H3 hg s3=>⟨by show 3<=sizeLine;decide,λp3 hp3=>?_⟩⟩;have s4:=aj (o:=.tup [V.int n,V.int g,v]) hp3;exact q _ _ _ (.mk n g ps ds hp hn hg hP hl hds) (((s1.trans s2).trans s3).trans s4) (dv.tup ag ⟨_,_,rfl,rfl,_,_,rfl,rfl,.one (dv.same ((s2.trans s3).trans s4) _ hv)⟩)
theorem fF:aw ["n"] ["n"] (ak (top 51)):=dD
theorem kj {L:Nat} {c1 c2:Iy} (D:ax K mg "parting_paper" (top 51)) (c_parted:Callee P w K mg base (cZ P w) 3 "parted" ["n"] (mE K c1 c2)) (c_prime_paper:Callee P w K mg base (cZ P w) (2*L+7) "prime_paper" ["n"] (h9 K L)) (A':mg "tuple"=none):Callee P w K mg base aQ (2*L+8) "parting_paper" ["n"] (j3 K L):=by
 refine cO D fF (λf cdv A outer s H vs Q E hr h=>?_);obtain⟨n,rfl,n1,n9,hH,q⟩:=h;have nd:=fF.nd;refine⟨_,(ai (az (cI bS rfl A' L2.boot_tuple (aa (fz rfl (lD (N':=["prime","many"]) (js:=[none,none]) rfl rfl) (bp (bY c_parted (hr.mono (by lia)) rfl aI (aa (pv 0) af))) (λ_ _ _ _=>(c8 K rfl (n:=2) rfl (au (aq (i:=0) (show JJ [("prime":Jb),("many":Jb)] from by decide +kernel) rfl (Jf rfl) (.inr rfl)) (au (aq (i:=1) (show JJ [("prime":Jb),("many":Jb)] from by decide +kernel) rfl (Jf rfl) (.inr rfl)) aO)))) (λ_ _ _ _=>aR) (λ_ _ _ _=>(aF (aa (bY c_prime_paper (hr.mono (by lia)) rfl aI (aa (pv 0) af)) (aa (pv 1) af))))) af)))),?_⟩;show kL _ _ [Io (.int n)] H;k_data;refine⟨n,rfl,λz=>absurd z (by lia),λz=>absurd z (by lia),λ_ _ ps us p H1 hP hl s1 f1 h1 hd=>⟨p,rfl,⟨_,aJ.of h1⟩,?_⟩⟩;have ul:us.length=ps.length:=by rw [hd.length,Iu]
 refine aY (xs:=us) (λi zs H3=>av H1 H3/\∃ ds,(∀ j q k,(ps.take i)[j]?=Io (q,k)->Num.gT q (ds j))/\aE K H3 (Num.rowsOf (ps.take i) ds) zs) ⟨av.refl _,λ_=>.none,λj q k z=>by simp at z,rfl⟩ (by rw [ul];exact IJ hl (by decide)) (λi zs H3 hi ⟨e1,ds,e2,e3⟩=>⟨aJ.of (e1 _ _ h1),by rw [e3.length,Num.cj,JE];lia⟩) ?_ ?_
 ·rintro i x zs H3 hx ⟨s3,ds,hds,hz⟩;obtain⟨d,hd',hv⟩:=hd.get hx;rw [ID] at hd';obtain⟨⟨q',k'⟩,hy,rfl⟩:=IE.mp hd';obtain⟨pt,rfl,tt⟩:=gk hv;have hok:=hP.ok _ (IC hy);have hdv:q'∣n:=by
   have:=Num.d6 (IC hy) hok.2.1
   rwa [hP.prod] at this
  have ql:q'<=n:=Jh (by lia) hdv;show mS K 2 _ _ [none,none] _ _;refine⟨pt,_,rfl,tt.same s3,rfl,?_⟩;k_data;refine⟨True.intro,q',rfl,hok.1,by lia,hH q' hok.1 hdv,λd v H4 hp4 s4 hv4=>⟨by show 2<=sizeLine;decide,λp5 hp5=>?_⟩⟩;have s5:=aj (o:=.tup [v,V.int k']) hp5;have tk:ps.take (i+1)=ps.take i++[(q',k')]:=by rw [Jv,hy];rfl
  have il:i<ps.length:=(IB.mp hy).1;have tl:(ps.take i).length=i:=by rw [JE];lia
  refine⟨(s3.trans s4).trans s5,λj=>if j=i then d else ds j,λj q k hj=>?_,?_⟩
  ·rw [tk] at hj;rcases (by lia:j<i∨j=i∨i<j) with z | z | z
   ·rw [KC (by lia)] at hj;show Num.gT q (if j=i then d else ds j);rw [if_neg (by lia)];exact hds j q k hj
   ·subst z;rw [MW (by lia),tl,R3] at hj;show Num.gT q (if j=j then d else ds j);rw [if_pos rfl];cases hj;exact hp4
   ·rw [MO (by simp;lia)] at hj;cases hj
  ·rw [tk,rW (ds:=ds) (λj hj=>if_neg (by lia)),tl,if_pos rfl];exact aE.append (aE.same (s4.trans s5) _ hz) (.one (dv.tup ag ⟨_,_,rfl,dv.same s5 _ hv4,.one rfl⟩))
 ·rintro zs H3 p3 ⟨s3,ds,hds,hz⟩ hp3;rw [ul,JI] at hds hz;have s4:=aj (o:=.lst zs) hp3;refine⟨p3,rfl,zs,.inl ⟨aJ.of ag,λl hl'=>?_⟩⟩;generalize upd H3 p3 _=H4 at *;have s5:=aj (o:=.tup zs) hl';exact q ps ds _ _ hP hl hds (((s1.trans s3).trans s4).trans s5) (dv.tup ag (aE.same (s4.trans s5) _ hz))
theorem nO {L:Nat} (D:ax K mg "prime_paper" (top 50)):Callee P w K mg base (cZ P w) 7 "prime_paper" ["n"] (h9 K 0):=by refine cX D eJ (λf cdv A outer s H vs Q E hr h=>?_);obtain⟨n,rfl,hp,hn,hH,q⟩:=h;exact hH.elim
theorem nP {c1 c2 c3:Iy} (D1:ax K mg "prime_paper" (top 50)) (D2:ax K mg "parting_paper" (top 51)) (c_least_divisor:Callee P w K mg base (cZ P w) 3 "least_divisor" ["n"] (qd c1 c2)) (c_parted:Callee P w K mg base (cZ P w) 3 "parted" ["n"] (mE K c1 c2)) (c_least_full:Callee P w K mg base aQ 6 "least_full" ["p","primes"] (gQ K)) (c_primes_in:Callee P w K mg base aQ 1 "primes_in" ["parts"] (eK K)) (x_NoPrime:qz P w K mg base "NoPrime" c3 "divisor") (A':mg "tuple"=none):∀ L:Nat,Callee P w K mg base (cZ P w) (2*L+7) "prime_paper" ["n"] (h9 K L)/\Callee P w K mg base aQ (2*L+8) "parting_paper" ["n"] (j3 K L)
 | 0=>⟨nO (L:=0) D1,kj (L:=0) D2 c_parted (nO (L:=0) D1) A'⟩
 | L+1=>by have h:=nP D1 D2 c_least_divisor c_parted c_least_full c_primes_in x_NoPrime A' L;have a:=wC D1 c_least_divisor h.2 c_least_full c_primes_in x_NoPrime;have a':Callee P w K mg base (cZ P w) (2*(L+1)+7) "prime_paper" ["n"] (h9 K (L+1)):=a.mono (by lia);exact⟨a',kj D2 c_parted a' A'⟩
def sh (K:Iq):Sp:=λvs H Q _=>∃ n:Int,vs=[.int n]/\Num.Pm n/\n<=10^9/\∀ d v H',Num.gT n d->av H H'->dv K H' d v->Q v H'
theorem Ey (h:Callee P w K mg base (cZ P w) (2*30+7) "prime_paper" ["n"] (h9 K 30)):Callee P w K mg base (cZ P w) 67 "prime_paper" ["n"] (sh K) :=
 Callee.imp h λvs H Q E z=>by obtain⟨n,h1,h2,h3,q⟩:=z;exact⟨n,h1,h2,h3,Num.DV h2 h3,q⟩
theorem u4 {n:Int} {d:IL} (h:Num.gT n d):∃ g ps ds,d=.tuple [.int n,.int g,.tuple (Num.rowsOf ps ds)]/\Num.LF n g/\Num.Part (n-1) ps/\ps.length<=29/\∀ i q k,ps[i]?=Io (q,k)->Num.gT q (ds i):=by
 cases h with
 | mk _ g ps ds h1 h2 h3 h4 h5 h6=>exact⟨g,ps,ds,rfl,h3,h4,h5,h6⟩
theorem ir {n:Int} {d:IL} (h:Num.gT n d):Num.Pm n/\n<=10^9:=by
 cases h with
 | mk _ _ _ _ a b=>exact⟨a,b⟩
theorem tj {H:Hp} {d1 d2 d3:IL} {v:V} (h:dv K H (.tuple [d1,d2,d3]) v):∃ p x1 x2 x3,v=.ref p/\bj K H p [x1,x2,x3]/\dv K H d1 x1/\dv K H d2 x2/\dv K H d3 x3:=by obtain⟨p,xs,rfl,h1,x1,r1,rfl,e1,x2,r2,rfl,e2,x3,r3,rfl,e3,z⟩:=h;cases z;exact⟨p,x1,x2,x3,rfl,h1,e1,e2,e3⟩
def Ib (row:IL) (y:Int × Int):Prop:=∃ ds,row=.tuple [.tuple (.int y.1::ds),.int y.2]
def AM (rows:List IL) (ps:List (Int × Int)):Prop:=rows.length=ps.length/\∀(i:Nat) (row:IL),rows[i]?=Io row->∃ y,ps[i]?=Io y/\Ib row y
def vx (K:Iq):Sp:=λvs H Q _=>∃(v:V) (rows:List IL) (ps:List (Int × Int)),vs=[v]/\dv K H (.tuple rows) v/\AM rows ps/\rows.length<=10^6/\∀ p us H',av H H'->H p=none->H' p=Io (.lst us)->aE K H' (ps.map eB) us->Q (.ref p) H'
theorem ym {H:Hp} {rows:List IL} {ps:List (Int × Int)} {xs:List V} (hd:aE K H rows xs) (h:AM rows ps) {i:Nat} {x:V} (hx:xs[i]?=Io x):∃ q k pt pq r,ps[i]?=Io (q,k)/\x=.ref pt/\bj K H pt [.ref pq,.int k]/\bj K H pq (.int q::r):=by obtain⟨d,hd',hv⟩:=hd.get hx;obtain⟨⟨q,k⟩,hy,ds,rfl⟩:=h.2 i d hd';obtain⟨pt,ys,rfl,h1,x1,r1,rfl,e1,x2,r2,rfl,e2,z⟩:=hv;cases z;obtain⟨pq,zs,rfl,h2,y1,r3,rfl,f1,f2⟩:=e1;cases f1;cases e2;exact⟨q,k,pt,pq,r3,hy,rfl,h1,h2⟩
theorem cq:aw ["parts"] ["parts"] (ak (top 19)):=dD
theorem y9 (D:ax K mg "parting_in" (top 19)):Callee P w K mg base aQ 1 "parting_in" ["parts"] (vx K):=by
 refine cO D cq (λf cdv A outer s H vs Q E hr h=>?_);obtain⟨v,rows,ps,rfl,hd,hh,h6,q⟩:=h;have nd:=cq.nd;refine⟨_,(ai (az (fz rfl (lD (N':=["row"]) (js:=[none]) rfl rfl) (iL (pv 0)) (λ_ _ _ _=>(aq (i:=0) (show JJ [("row":Jb)] from by decide +kernel) rfl (Jf rfl) (.inr rfl))) (λ_ _ _ _=>aR) (λ_ _ _ _=>(aF (aa (aG (bL K rfl) (aG (bL K rfl) (pv 0) ah (λ_ _=>rfl)) ah (λ_ _=>rfl)) (aa (aG (bL K rfl) (pv 0) ah (λ_ _=>rfl)) af))))))),?_⟩;show kL _ _ [Io v] H;obtain⟨p,xs,rfl,hS,ht⟩:=hd;have xl:=ht.length;have rl:=hh.1;k_data;refine⟨⟨_,hS⟩,?_⟩;refine gU (xs:=xs) (λi zs H3=>av H H3/\aE K H3 ((ps.take i).map eB) zs) ⟨av.refl _,rfl⟩ (IJ (by lia) (show 10^6<=sizeLine by decide)) (λi zs H3 hi ⟨e1,e2⟩=>⟨hS.same e1,by rw [e2.length,Iu,JE];lia⟩) ?_ ?_
 ·rintro i x zs H3 hx ⟨s3,hz⟩;obtain⟨q',k',pt,pq,r,hy,rfl,t1,t2⟩:=ym ht hh hx;show cn 0 _ [none] _ _;k_data;refine⟨True.intro,bM (t1.same s3) kE (bM (t2.same s3) kE (bM (t1.same s3) rfl ⟨by show 2<=sizeLine;decide,λp4 hp4=>?_⟩))⟩;have s4:=aj (o:=.tup [V.int q',V.int k']) hp4;refine⟨s3.trans s4,?_⟩;rw [Jv,hy,IT];exact aE.append (aE.same s4 _ hz) (.one (dv.tup ag ⟨_,_,rfl,rfl,.one rfl⟩))
 ·rintro zs H3 p3 ⟨s3,hz⟩ hp3;rw [show xs.length=ps.length by lia,JI] at hz;exact q p3 zs _ (s3.trans (aj hp3)) (s3.free hp3) ag (aE.same (aj hp3) _ hz)
def z9:Sp:=λvs H Q _=>∃ n q:Int,vs=[.int n,.int q]/\0<=n/\n<=10^50/\2<=q/\q<=10^50/\∀ t:Nat,n<=q^(t+1)->Q (.int t) H
theorem iC:aw ["n","prime","times","product"] ["n","prime"] (ak (top 25)):=dD
theorem BF (D:ax K mg "most_times" (top 25)):Callee P w K mg base aQ 1 "most_times" ["n","prime"] z9:=by
 refine cO D iC (λf cdv A outer s H vs Q E hr h=>?_);obtain⟨n,q',rfl,n0,n9,q2,q9,q⟩:=h;have nd:=iC.nd;refine⟨_,(ae (bB (i:=2) nd ah) (ae (bB (i:=3) nd (pv 1)) (ae (aV IQ (ay fX (pv 3) (pv 0) (aA _)) (ae (eF (i:=3) nd rfl (Jf rfl) (pv 1) (gp qX)) (ai (eF (i:=2) nd rfl (Jf rfl) ah (gp gW))))) (ai (az (pv 2)))))),?_⟩;show bH _ _ _ [Io (.int n),Io (.int q'),none,none] H;k_data;refine aW (α:=Nat) (λt=>[Io (.int n),Io (.int q'),Io (.int (t:Int)),Io (.int (q'^(t+1)))]) (λt H1=>H1=H/\(t=0∨q'^t<n)) (λt=>(n-q'^(t+1)).toNat) 0 (by rw [IY,Jp,Kt];rfl) ⟨rfl,.inl rfl⟩ ?_;rintro t H1 ⟨rfl,ht⟩;replace ht:t=0∨q'^t<n:=ht;have p0:0<q'^(t+1):=Num.bJ (by lia) _;k_data;refine aZ (λc=>?_) (λc=>?_)
 ·have up:q'^(t+1)*2<=q'^(t+1)*q':=Jm q2 (by lia);refine⟨_,λ_ _ z=>z,Bd.of (by lia) (by lia),Bd.of (by lia) (by lia),t+1,?_,rfl,.inr c,?_⟩
  ·rw [IY q' (t+1)];rfl
  ·show (n-q'^(t+1+1)).toNat<(n-q'^(t+1)).toNat;rw [IY q' (t+1)];lia
 ·exact q t (by lia)
def jz (K:Iq):Sp:=λvs H Q _=>∃(n a:Int) (p:Iy) (us:List V) (ps:List (Int × Int)),vs=[.int n,.int a,.ref p]/\0<n/\n<=10^60/\0<=a/\a<n/\H p=Io (.lst us)/\aE K H (ps.map eB) us/\(∀ y∈ps,2<=y.1/\0<=y.2/\y.2<=10^6)/\∀ H',av H H'->Q (.int (a^Num.eN ps%n)) H'
theorem kP (ps:List (Int × Int)) (q k:Int):Num.eN (ps++[(q,k)])=Num.eN ps*q.toNat^k.toNat:=by rw [Num.cW];show Num.eN ps*(q.toNat^k.toNat*1)=_;rw [Lk]
theorem yd:∀{ps:List (Int × Int)},(∀ y∈ps,2<=y.1)->Num.eN ps≠0
 | [],_=>by decide
 | p::r,h=>by have:=h p (IH ..);exact Nat.mul_ne_zero (Lc (Ly (by lia))) (yd λy z=>h y (IG _ z))
theorem pow_step {n a q:Int} {M j:Nat} (n0:0<n):(a^(M*q.toNat^j)%n)^q.toNat%n=a^(M*q.toNat^(j+1))%n:=by rw [Num.Al.iff.mp ((Num.Al.rest n (a^(M*q.toNat^j))).pow q.toNat),Num.bR,JX,Kb]
theorem oa:aw ["n","a","parting","rest","prime","many","turn"] ["n","a","parting"] (ak (top 26)):=dD
theorem wH {C:Iy} (D:ax K mg "raised" (top 26)) (D':Callee P w K mg base (cZ P w) 4 "power" ["n","a","e"] (dW C)) (B':mg "range"=none):Callee P w K mg base aQ 5 "raised" ["n","a","parting"] (jz K):=by
 refine cO D oa (λf cdv A outer s H vs Q E hr h=>?_);obtain⟨n,a,p,us,ps,rfl,n0,n9,a0,a1,hp,hd,hok,q⟩:=h;have nd:=oa.nd;refine⟨_,(ae (bB (i:=3) nd (pv 1)) (ae (b7 IQ rfl (bp (pv 2)) (bZ (n:=2) rfl (au (aq (i:=4) nd rfl (Jf rfl) (.inr rfl)) (au (aq (i:=5) nd rfl (Jf rfl) (.inr rfl)) aO))) (ai (b7 IQ rfl (dZ rfl B' (aa (pv 5) af)) (aq (i:=6) nd rfl (Jf rfl) (.inr rfl)) (ai (bB (i:=3) nd (bN D' hr aI (aa (pv 0) (aa (pv 3) (aa (pv 4) af))))))))) (ai (az (pv 3))))),?_⟩;show bH _ _ _ [Io (.int n),Io (.int a),Io (.ref p),none,none,none,none] H;have ul:us.length=ps.length:=by rw [hd.length,Iu]
 k_data;refine⟨⟨_,aJ.of hp⟩,?_⟩;refine fu (xs:=us) (λi σ' H'=>av H H'/\∃ o4 o5 o6,σ'=[Io (.int n),Io (.int a),Io (.ref p),Io (.int (a^Num.eN (ps.take i)%n)),o4,o5,o6]) ⟨av.refl _,none,none,none,?_⟩ (λi σ' H' _ h=>aJ.of (h.1 _ _ hp)) ?_ ?_
 ·show _=[_,_,_,Io (V.int (a^1%n)),none,none,none];rw [QQ,Kh a0 a1]
 ·rintro i x σ' H' hx ⟨s',o4,o5,o6,rfl⟩;obtain⟨d,hd',hv⟩:=hd.get hx;rw [ID] at hd';obtain⟨⟨q',k'⟩,hy,rfl⟩:=IE.mp hd';obtain⟨q2,k0,k6⟩:=hok _ (IC hy);replace q2:2<=q':=q2;replace k0:0<=k':=k0;replace k6:k'<=10^6:=k6;obtain⟨pt,rfl,tt⟩:=gk hv;refine⟨pt,_,rfl,tt.same s',rfl,?_⟩;k_data;refine⟨by lia,by lia,?_⟩;refine cT (λj σ2 H2=>av H H2/\∃ o6,σ2=[Io (.int n),Io (.int a),Io (.ref p),Io (.int (a^(Num.eN (ps.take i)*q'.toNat^j)%n)),Io (.int q'),Io (.int k'),o6]) ⟨s',o6,by rw [LO,Lk]⟩ ?_ ?_
  ·rintro j σ2 H2 hj ⟨s2,o6,rfl⟩;k_data;refine⟨n,_,q',rfl,n0,by lia,λ_ H3 s3=>⟨s2.trans s3,?_⟩,λz=>absurd z (by lia)⟩;rw [pow_step n0]
  ·rintro σ2 H2 ⟨s2,o6,rfl⟩;refine⟨s2,Io (.int q'),Io (.int k'),o6,?_⟩;rw [Jv,hy];show _=[_,_,_,Io (V.int (a^Num.eN (ps.take i++[(q',k')])%n)),_,_,_];rw [kP]
 ·rintro σ' H' ⟨s',o4,o5,o6,rfl⟩;rw [ul,JI];k_data;exact q H' s'
def qg:Sp:=λvs H Q _=>∃(n a q:Int) (k:Nat),vs=[.int n,.int a,.int q]/\2<=n/\n<=10^60/\0<=a/\a<n/\2<=q/\a^q.toNat^k%n=1/\∀(t:Nat) H',t<=k->a^q.toNat^t%n=1->(∀ j,j<t->a^q.toNat^j%n≠1)->av H H'->Q (.int t) H'
theorem gc:aw ["n","a","prime","times","rest"] ["n","a","prime"] (ak (top 28)):=dD
theorem zq {C:Iy} (D:ax K mg "times_to_one" (top 28)) (D':Callee P w K mg base (cZ P w) 4 "power" ["n","a","e"] (dW C)):Callee P w K mg base aQ 5 "times_to_one" ["n","a","prime"] qg:=by
 refine cO D gc (λf cdv A outer s H vs Q E hr h=>?_);obtain⟨n,a,q',k,rfl,n2,n9,a0,a1,q2,hk,q⟩:=h;have nd:=gc.nd;refine⟨_,(ae (bB (i:=3) nd ah) (ae (bB (i:=4) nd (pv 1)) (ae (aV IQ (ay fY (pv 4) ah (aA _)) (ae (bB (i:=4) nd (bN D' hr aI (aa (pv 0) (aa (pv 4) (aa (pv 2) af))))) (ai (eF (i:=3) nd rfl (Jf rfl) ah (gp gW))))) (ai (az (pv 3)))))),?_⟩;show bH _ _ _ [Io (.int n),Io (.int a),Io (.int q'),none,none] H;k_data;refine aW (α:=Nat) (λt=>[Io (.int n),Io (.int a),Io (.int q'),Io (.int (t:Int)),Io (.int (a^q'.toNat^t%n))]) (λt H1=>av H H1/\t<=k/\∀ j,j<t->a^q'.toNat^j%n≠1) (λt=>k-t) 0 (by rw [LO,QQ,Kh a0 a1];rfl) ⟨av.refl _,J4 _,λj hj=>absurd hj (Nq _)⟩ ?_;rintro t H1 ⟨s1,tk,no⟩;replace tk:t<=k:=tk;replace no:∀ j,j<t->a^q'.toNat^j%n≠1:=no;k_data;refine aZ (λc=>?_) (λc=>?_)
 ·have tk':t≠k:=λz=>c (z▸hk);refine⟨_,λ_ _ z=>z,n,_,q',rfl,by lia,by lia,λ_ H2 s2=>⟨t+1,?_,s1.trans s2,by lia,λj hj=>?_,?_⟩,λz=>absurd z (by lia)⟩
  ·have:=pow_step (n:=n) (a:=a) (M:=1) (q:=q') (j:=t) (by lia);rw [SI,SI] at this;rw [this];rfl
  ·rcases (by lia:j<t∨j=t) with z | z
   ·exact no j z
   ·rw [z];exact c
  ·show k-(t+1)<k-t;lia
 ·exact q t H1 tk (by simpa using c) no s1
def qh (K:Iq):Sp:=λvs H Q _=>∃(p:Iy) (us:List V) (ps:List (Int × Int)),vs=[.ref p]/\H p=Io (.lst us)/\aE K H (ps.map eB) us/\(∀ y∈ps,2<=y.1/\0<=y.2/\y.2<=10^6)/\Num.eN ps<=10^100/\∀ H',av H H'->Q (.int (Num.eN ps)) H'
theorem yc {ps:List (Int × Int)} (h:∀ y∈ps,2<=y.1) {i:Nat} {q k:Int} (hy:ps[i]?=Io (q,k)) {j:Nat} (hj:j<=k.toNat):Num.eN (ps.take i)*q.toNat^j<=Num.eN ps/\q.toNat<=Num.eN (ps.take i)*q.toNat^k.toNat*Num.eN (ps.drop (i+1))*q.toNat:=by
 have pos:∀ l:List (Int × Int),(∀ y∈l,2<=y.1)->0<Num.eN l:=by
  intro l
  induction l with
  | nil=>intro _;exact SK
  | cons p r ih =>intro hl;have:=hl p (IH ..);exact Ma (Ly (by lia)) (ih λy z=>hl y (IG _ z))
 have q2:2<=q:=h _ (IC hy);have e:ps=ps.take i++[(q,k)]++ps.drop (i+1):=by
  have h1:ps.take (i+1)=ps.take i++[(q,k)]:=by rw [Jv,hy];rfl
  rw [<- h1,Lo]
 have p1:=pos (ps.take i) λy z=>h y (K8 z);have p2:=pos (ps.drop (i+1)) λy z=>h y (Oo z);have e2:Num.eN ps=Num.eN (ps.take i)*q.toNat^k.toNat*Num.eN (ps.drop (i+1)):=by have:Num.eN ps=Num.eN (ps.take i++[(q,k)]++ps.drop (i+1)):=congrArg _ e;rw [this,Num.cW,kP]
 have p3:0<q.toNat^k.toNat:=Ly (by lia);constructor
 ·rw [e2];refine IJ (Rc _ (M4 (by lia) hj)) ?_;exact PZ _ p2
 ·exact Lh _ (Ma (Ma p1 p3) p2)
theorem kB:aw ["parting","whole","prime","many","turn"] ["parting"] (ak (top 13)):=dD
theorem zt (D:ax K mg "whole_of" (top 13)) (B':mg "range"=none):Callee P w K mg base aQ 1 "whole_of" ["parting"] (qh K):=by
 refine cO D kB (λf cdv A outer s H vs Q E hr h=>?_);obtain⟨p,us,ps,rfl,hp,hd,hok,h100,q⟩:=h;have nd:=kB.nd;refine⟨_,(ae (bB (i:=1) nd ah) (ae (b7 IQ rfl (bp (pv 0)) (bZ (n:=2) rfl (au (aq (i:=2) nd rfl (Jf rfl) (.inr rfl)) (au (aq (i:=3) nd rfl (Jf rfl) (.inr rfl)) aO))) (ai (b7 IQ rfl (dZ rfl B' (aa (pv 3) af)) (aq (i:=4) nd rfl (Jf rfl) (.inr rfl)) (ai (eF (i:=1) nd rfl (Jf rfl) (pv 2) (gp qX)))))) (ai (az (pv 1))))),?_⟩;show bH _ _ _ [Io (.ref p),none,none,none,none] H;have ul:us.length=ps.length:=by rw [hd.length,Iu]
 k_data;refine⟨⟨_,aJ.of hp⟩,?_⟩;refine fu (xs:=us) (λi σ' H'=>av H H'/\∃ o4 o5 o6,σ'=[Io (.ref p),Io (.int (Num.eN (ps.take i))),o4,o5,o6]) ⟨av.refl _,none,none,none,rfl⟩ (λi σ' H' _ h=>aJ.of (h.1 _ _ hp)) ?_ ?_
 ·rintro i x σ' H' hx ⟨s',o4,o5,o6,rfl⟩;obtain⟨d,hd',hv⟩:=hd.get hx;rw [ID] at hd';obtain⟨⟨q',k'⟩,hy,rfl⟩:=IE.mp hd';obtain⟨q2,k0,k6⟩:=hok _ (IC hy);replace q2:2<=q':=q2;replace k0:0<=k':=k0;replace k6:k'<=10^6:=k6;obtain⟨pt,rfl,tt⟩:=gk hv;refine⟨pt,_,rfl,tt.same s',rfl,?_⟩;k_data;refine⟨by lia,by lia,?_⟩;refine cT (λj σ2 H2=>H2=H'/\∃ o6,σ2=[Io (.ref p),Io (.int ((Num.eN (ps.take i)*q'.toNat^j:Nat):Int)),Io (.int q'),Io (.int k'),o6]) ⟨rfl,o6,by rw [LO,Lk]⟩ ?_ ?_
  ·rintro j σ2 H2 hj ⟨rfl,o6,rfl⟩;have g1:=(yc (λy z=>(hok y z).1) hy (j:=j) (by lia)).1;have g2:=(yc (λy z=>(hok y z).1) hy (j:=1) (by lia)).1;have qb:q'.toNat<=10^100:=by
    rw [U6] at g2;have:0<Num.eN (ps.take i):=by
     rcases Jy (Num.eN (ps.take i)) with z | z
     ·exact absurd z (yd λy z=>(hok y (K8 z)).1)
     ·exact z
    have:=Lh q'.toNat this;lia
   k_data;refine⟨Bd.of (by lia) (by lia),Bd.of (by lia) (by lia),?_⟩;rw [JX,<- Kb,K1 _ q'.toNat,show (q'.toNat:Int)=q' by lia]
  ·rintro σ2 H2 ⟨rfl,o6,rfl⟩;refine⟨s',Io (.int q'),Io (.int k'),o6,?_⟩;rw [Jv,hy];show _=[_,Io (V.int (Num.eN (ps.take i++[(q',k')]):Nat)),_,_,_];rw [kP]
 ·rintro σ' H' ⟨s',o4,o5,o6,rfl⟩;rw [ul,JI];k_data;exact q H' s'
theorem aE.Dr {H:Hp}:∀(m:Nat) {ds:List IL} {us:List V},aE K H ds us->aE K H (ds.take m) (us.take m)/\aE K H (ds.drop m) (us.drop m)
 | 0,ds,us,h=>⟨by simp only [TB];exact rfl,by simpa using h⟩
 | m+1,[],us,h=>by cases h;exact⟨rfl,rfl⟩
 | m+1,d::ds,us,h=>by obtain⟨x,r,rfl,h1,h2⟩:=h;have ih:=Dr m h2;exact⟨⟨x,_,rfl,h1,ih.1⟩,ih.2⟩
theorem xU {us:List V} {m:Nat} (h:m<=us.length):fj us none (Io (m:Int))=us.take m:=by
 unfold fj;have e1:HT.cR us.length 0 none=0:=rfl;have e2:HT.cR us.length us.length (Io (m:Int))=m:=by simp only [HT.cR];split<;>lia
 rw [e1,e2,List.drop_zero,Qf]
theorem qK {us:List V} {m:Nat} (h:m<=us.length):fj us (Io (m:Int)) none=us.drop m:=by
 unfold fj;have e1:HT.cR us.length us.length none=us.length:=rfl;have e2:HT.cR us.length 0 (Io (m:Int))=m:=by simp only [HT.cR];split<;>lia
 rw [e1,e2];exact NR (by rw [Mr];lia)
def jA (K:Iq) (L:Nat):Sp:=λvs H Q _=>∃(n a:Int) (p:Iy) (us:List V) (ps:List (Int × Int)),vs=[.int n,.int a,.ref p]/\(1<=L/\ps.length<=2^(L-1))/\ps.length<=10^6/\2<=n/\n<=10^60/\0<=a/\a<n/\H p=Io (.lst us)/\aE K H (ps.map eB) us/\(∀ y∈ps,Num.Pm y.1/\0<=y.2/\y.2<=10^6)/\ps.Pairwise (λx y=>y.1≠x.1)/\a^Num.eN ps%n=1 /\
 ∀ pt ts H',Num.TO n a ps ts->av H H'->H pt=none->H' pt=Io (.lst (ts.map V.int))->Q (.ref pt) H'
theorem c9:aw ["n","a","parting","half","ahead","behind"] ["n","a","parting"] (ak (top 27)):=dD
theorem wL (D:ax K mg "times_in_order" (top 27)):Callee P w K mg base aQ 6 "times_in_order" ["n","a","parting"] (jA K 0):=by refine cO D c9 (λf cdv A outer s H vs Q E hr h=>?_);obtain⟨n,a,p,us,ps,rfl,hL,_⟩:=h;exact absurd hL.1 (by decide)
theorem wM {L:Nat} (D:ax K mg "times_in_order" (top 27)) (c_raised:Callee P w K mg base aQ 5 "raised" ["n","a","parting"] (jz K)) (c_times_to_one:Callee P w K mg base aQ 5 "times_to_one" ["n","a","prime"] qg) (c_times_in_order:Callee P w K mg base aQ (L+6) "times_in_order" ["n","a","parting"] (jA K L)) (f':mg "len"=none):Callee P w K mg base aQ (L+7) "times_in_order" ["n","a","parting"] (jA K (L+1)):=by
 refine cO D c9 (λf cdv A outer s H vs Q E hr h=>?_);obtain⟨n,a,p,us,ps,rfl,hL,h6,n2,n9,a0,a1,hp,hd,hok,pw,h1,q⟩:=h;have nd:=c9.nd;refine⟨_,(ae (aS (ay cL (aC aX rfl f' JG (aa (pv 2) af)) ah (aA _)) (ai (az (fM af))) aD) (ae (aS (ay cL (aC aX rfl f' JG (aa (pv 2) af)) ah (aA _)) (ai (az (fM (aa (bY c_times_to_one (hr.mono (by lia)) rfl aB (aa (pv 0) (aa (pv 1) (aa (aG a9 (aG bz (pv 2) ah (λ_ _=>rfl)) ah (λ_ _=>rfl)) af)))) af)))) aD) (ae (bB (i:=3) nd (ar bA (aC aX rfl f' JG (aa (pv 2) af)) ah)) (ae (bB (i:=4) nd (gF pX (pv 2) jh (fN (pv 3)))) (ae (bB (i:=5) nd (gF pX (pv 2) (fN (pv 3)) jh)) (ai (az (ar Es (bY c_times_in_order (hr.mono (by lia)) rfl aB (aa (pv 0) (aa (bY c_raised (hr.mono (by lia)) rfl aB (aa (pv 0) (aa (pv 1) (aa (pv 5) af)))) (aa (pv 4) af)))) (bY c_times_in_order (hr.mono (by lia)) rfl aB (aa (pv 0) (aa (bY c_raised (hr.mono (by lia)) rfl aB (aa (pv 0) (aa (pv 1) (aa (pv 4) af)))) (aa (pv 5) af)))))))))))),?_⟩;show bH _ _ _ [Io (.int n),Io (.int a),Io (.ref p),none,none,none] H;have ul:us.length=ps.length:=by rw [hd.length,Iu]
 k_data;refine cf (aJ.of hp) ⟨rfl,?_⟩;refine aZ (λc=>?_) (λc=>?_)
 ·have e0:ps=[]:=Mz (by injection c;lia);subst e0;refine⟨by show 0<=sizeLine;decide,λp1 hp1=>q p1 [] _ (.none ?_) (aj hp1) hp1 ag⟩;have:a^1%n=1:=h1;rw [QQ] at this;exact Num.Al.iff.mpr (by rw [this];exact (Kh (by lia) (by lia)).symm)
 refine cf (aJ.of hp) ⟨rfl,?_⟩;refine aZ (λc1=>?_) (λc1=>?_)
 ·have l1:ps.length=1:=by injection c1;lia
  obtain⟨⟨q',k'⟩,rfl⟩:∃ y,ps=[y]:=by
   cases ps with
   | nil=>cases l1
   | cons y r=>cases r with
    | nil=>exact⟨y,rfl⟩
    | cons _ _=>simp at l1
  obtain⟨pq,k0,k6⟩:=hok (q',k') (IW.mpr rfl);replace pq:Num.Pm q':=pq;obtain⟨u,r,rfl,hv,z⟩:=hd;cases z;obtain⟨pt,rfl,tt⟩:=gk hv;refine uQ (aJ.of hp) (by lia) (by show (0:Int)<1;decide) λv hv=>?_;have ev:v=V.ref pt:=IW.mp hv;subst ev;have h1':a^q'.toNat^k'.toNat%n=1:=by
   have:a^(q'.toNat^k'.toNat*1)%n=1:=h1
   rwa [Lk] at this
  refine bM tt kE ⟨n,a,q',k'.toNat,rfl,n2,n9,a0,a1,pq.two,h1',λt H1 _ t1 t2 s1=>⟨by show 1<=sizeLine;decide,λp2 hp2=>?_⟩⟩;refine q p2 [(t:Int)] _ (.one pq ((c5 n2).mp t1) λj hj z=>t2 j hj ((c5 n2).mpr z)) (s1.trans (aj hp2)) (s1.free hp2) ag
 have l2:2<=ps.length:=by have h0:us.length≠0:=λz=>c (by rw [z];rfl);have h1:us.length≠1:=λz=>c1 (by rw [z];rfl);lia
 refine cf (aJ.of hp) ⟨_,rfl,Bd.of (by lia) (by lia),?_⟩;obtain⟨m,em,m1,m2⟩:∃ m:Nat,(us.length:Int)/2=m/\1<=m/\m=ps.length/2:=⟨us.length/2,by lia,by lia,by lia⟩
 rw [em];refine⟨p,us,rfl,aJ.of hp,λpa hpa=>?_⟩;rw [xU (by lia)];have s1:=aj (o:=.lst (us.take m)) hpa;have ea:upd H pa (.lst (us.take m)) pa=Io (.lst (us.take m)):=ag;generalize upd H pa _=H1 at *;refine⟨p,us,rfl,aJ.of (s1 _ _ hp),λpb hpb=>?_⟩;rw [qK (by lia)];have s2:=aj (o:=.lst (us.drop m)) hpb;have eb:upd H1 pb (.lst (us.drop m)) pb=Io (.lst (us.drop m)):=ag;generalize upd H1 pb _=H2 at *;have S2:=s1.trans s2;have hT:=aE.Dr m (aE.same S2 _ hd);rw [<- List.map_take,<- List.map_drop] at hT;have okA:∀ y∈ps.take m,Num.Pm y.1/\0<=y.2/\y.2<=10^6:=λy z=>hok y (K8 z);have okB:∀ y∈ps.drop m,Num.Pm y.1/\0<=y.2/\y.2<=10^6:=λy z=>hok y (Oo z);have ne:∀ x∈ps.take m,∀ y∈ps.drop m,y.1≠x.1:=by rw [<- Lo m ps,Oi] at pw;exact pw.2.2
 have pwA:(ps.take m).Pairwise (λx y=>y.1≠x.1):=pw.sublist (RN ..);have pwB:(ps.drop m).Pairwise (λx y=>y.1≠x.1):=pw.sublist (List.drop_sublist ..);have h1A:Num.Al n (a^(Num.eN (ps.take m)*Num.eN (ps.drop m))) 1:=by rw [<- Num.cW,Lo];exact (c5 n2).mp h1
 have lA:(ps.take m).length<=2^(L-1)/\(ps.drop m).length<=2^(L-1)/\1<=L:=by
  have hL2:ps.length<=2^L:=hL.2;have L1:1<=L:=by
   rcases Jy L with z | z
   ·subst z;simp at hL2;lia
   ·exact z
  obtain⟨L',rfl⟩:∃ L',L=L'+1:=⟨L-1,by lia⟩
  rw [JX] at hL2;rw [JE,Mr];refine⟨?_,?_,by lia⟩<;>(simp only [Nat.add_sub_cancel];lia)
 have md:∀ e:Nat,0<=a^e%n/\a^e%n<n:=λe=>⟨Jn _ (by lia),Jg _ (by lia)⟩
 have p1:∀ e E:Nat,Num.Al n (a^(e*E)) 1->(a^e%n)^E%n=1:=λe E z=>by rw [Num.Al.iff.mp ((Num.Al.rest n (a^e)).pow E),Num.bR];exact (c5 n2).mpr z
 refine⟨n,a,pb,_,ps.drop m,rfl,by lia,n9,a0,a1,eb,hT.2,λy z=>⟨(okB y z).1.two,(okB y z).2⟩,λH3 s3=>?_⟩;refine⟨n,_,pa,_,ps.take m,rfl,⟨lA.2.2,lA.1⟩,by rw [JE];lia,n2,n9,(md _).1,(md _).2,s3 _ _ (s2 _ _ ea),aE.same s3 _ hT.1,okA,pwA,p1 _ _ (by rw [Ju];exact h1A),λpt ts H4 hTO s4 f4 e4=>?_⟩;have S4:=s3.trans s4;refine⟨n,a,pa,_,ps.take m,rfl,by lia,n9,a0,a1,S4 _ _ (s2 _ _ ea),aE.same S4 _ hT.1,λy z=>⟨(okA y z).1.two,(okA y z).2⟩,λH5 s5=>?_⟩;refine⟨n,_,pb,_,ps.drop m,rfl,⟨lA.2.2,lA.2.1⟩,by rw [Mr];lia,n2,n9,(md _).1,(md _).2,s5 _ _ (S4 _ _ eb),aE.same (S4.trans s5) _ hT.2,okB,pwB,p1 _ _ h1A,λpt2 ts2 H6 hTO2 s6 f6 e6=>?_⟩;have tl:(ts.map V.int).length+(ts2.map V.int).length<=10^6:=by rw [Iu,Iu,hTO.len,hTO2.len,JE,Mr];lia
 refine⟨pt,pt2,_,_,rfl,rfl,s6 _ _ (s5 _ _ e4),e6,IJ tl (by decide),λpl hpl=>?_⟩;have S6:=((S2.trans S4).trans s5).trans s6;have:=Num.TO.two (λy z=>(okA y z).1) (λy z=>(okB y z).1) ne (by rw [Num.cW];exact h1A) (hTO.al (Num.Al.rest n _)) (hTO2.al (Num.Al.rest n _));rw [Lo] at this;refine q pl (ts++ts2) _ this (S6.trans (aj hpl)) (S6.free hpl) ?_;rw [IT];exact ag
theorem rG (D:ax K mg "times_in_order" (top 27)) (c_raised:Callee P w K mg base aQ 5 "raised" ["n","a","parting"] (jz K)) (c_times_to_one:Callee P w K mg base aQ 5 "times_to_one" ["n","a","prime"] qg) (f':mg "len"=none):∀ L:Nat,Callee P w K mg base aQ (L+6) "times_in_order" ["n","a","parting"] (jA K L)
 | 0=>wL D
 | L+1=>wM D c_raised c_times_to_one (rG D c_raised c_times_to_one f' L) f'
def vw (K:Iq):Sp:=λvs H Q _=>∃(p:Iy) (xs:List V) (rows:List IL) (ps:List (Int × Int)),vs=[.ref p]/\H p=Io (.lst xs)/\aE K H rows xs/\AM rows ps/\rows.length<=10^6/\∀ p us H',av H H'->H p=none->H' p=Io (.lst us)->aE K H' (ps.map eB) us->Q (.ref p) H'
theorem y8 (D:ax K mg "parting_in" (top 19)):Callee P w K mg base aQ 1 "parting_in" ["parts"] (vw K):=by
 refine cO D cq (λf cdv A outer s H vs Q E hr h=>?_);obtain⟨p,xs,rows,ps,rfl,hS,ht,hh,h6,q⟩:=h;have nd:=cq.nd;refine⟨_,(ai (az (fz rfl (lD (N':=["row"]) (js:=[none]) rfl rfl) (bp (pv 0)) (λ_ _ _ _=>(aq (i:=0) (show JJ [("row":Jb)] from by decide +kernel) rfl (Jf rfl) (.inr rfl))) (λ_ _ _ _=>aR) (λ_ _ _ _=>(aF (aa (aG (bL K rfl) (aG (bL K rfl) (pv 0) ah (λ_ _=>rfl)) ah (λ_ _=>rfl)) (aa (aG (bL K rfl) (pv 0) ah (λ_ _=>rfl)) af))))))),?_⟩;show kL _ _ [Io (.ref p)] H;have xl:=ht.length;have rl:=hh.1;k_data;refine⟨⟨_,aJ.of hS⟩,?_⟩;refine aY (xs:=xs) (λi zs H3=>av H H3/\aE K H3 ((ps.take i).map eB) zs) ⟨av.refl _,rfl⟩ (IJ (by lia) (show 10^6<=sizeLine by decide)) (λi zs H3 hi ⟨e1,e2⟩=>⟨aJ.of (e1 _ _ hS),by rw [e2.length,Iu,JE];lia⟩) ?_ ?_
 ·rintro i x zs H3 hx ⟨s3,hz⟩;obtain⟨q',k',pt,pq,r,hy,rfl,t1,t2⟩:=ym ht hh hx;show cn 0 _ [none] _ _;k_data;refine⟨True.intro,bM (t1.same s3) kE (bM (t2.same s3) kE (bM (t1.same s3) rfl ⟨by show 2<=sizeLine;decide,λp4 hp4=>?_⟩))⟩;have s4:=aj (o:=.tup [V.int q',V.int k']) hp4;refine⟨s3.trans s4,?_⟩;rw [Jv,hy,IT];exact aE.append (aE.same s4 _ hz) (.one (dv.tup ag ⟨_,_,rfl,rfl,.one rfl⟩))
 ·rintro zs H3 p3 ⟨s3,hz⟩ hp3;rw [show xs.length=ps.length by lia,JI] at hz;exact q p3 zs _ (s3.trans (aj hp3)) (s3.free hp3) ag (aE.same (aj hp3) _ hz)
noncomputable def fe (p a e:Int) (y:IL × Int × Int):IL:=.tuple [y.1,.int y.2.2,.int (a^(e/y.2.1).toNat%p)]
noncomputable def kf (ps:List (Int × Int)) (ds:Nat->IL) (ts:List Int) (i:Nat):Option (IL × Int × Int):=match ps[i]?,ts[i]? with
 | some y,Io t=>if 0<t then Io (ds i,y.1,t) else none
 | _,_=>none
noncomputable def cu (ps:List (Int × Int)) (ds:Nat->IL) (ts:List Int) (n:Nat):List (IL × Int × Int):=(Ky n).filterMap (kf ps ds ts)
def cS (ps:List (Int × Int)) (ds:Nat->IL) (ts:List Int):List (IL × Int × Int):=cu ps ds ts ps.length
theorem gq {ps:List (Int × Int)} {ds:Nat->IL} {ts:List Int} {i:Nat} {q k t:Int} (hp:ps[i]?=Io (q,k)) (ht:ts[i]?=Io t):cu ps ds ts (i+1)=cu ps ds ts i++(if 0<t then [(ds i,q,t)] else []):=by
 unfold cu;rw [Nr,List.filterMap_append];congr 1;have:kf ps ds ts i=if 0<t then Io (ds i,q,t) else none:=by unfold kf;rw [hp,ht]
 by_cases c:0<t
 ·rw [if_pos c] at this ⊢;simp [this]
 ·rw [if_neg c] at this ⊢;simp [this]
theorem eh {ps:List (Int × Int)} {ds:Nat->IL} {ts:List Int} {n:Nat} {y:IL × Int × Int} (h:y∈cu ps ds ts n):∃ i k,ps[i]?=Io (y.2.1,k)/\ts[i]?=Io y.2.2/\0<y.2.2/\y.1=ds i:=by
 unfold cu at h;obtain⟨i,_,e⟩:=OL.mp h;unfold kf at e;cases hp:ps[i]? with
 | none=>rw [hp] at e;cases e
 | some z =>
  cases ht:ts[i]? with
  | none=>rw [hp,ht] at e;cases e
  | some t =>
   rw [hp,ht] at e;by_cases c:0<t
   ·have e':(if 0<t then Io (ds i,z.1,t) else none)=Io y:=e;rw [if_pos c] at e';cases e';exact⟨i,z.2,hp,ht,c,rfl⟩
   ·have e':(if 0<t then Io (ds i,z.1,t) else none)=Io y:=e;rw [if_neg c] at e';cases e'
theorem lO {ps:List (Int × Int)} {ds:Nat->IL} {ts:List Int} {n:Nat}:(cu ps ds ts n).length<=n:=by unfold cu;exact IJ (List.length_filterMap_le ..) (by rw [Ki];exact IF _)
def kp (y:IL × Int × Int):Int × Int:=(y.2.1,y.2.2)
noncomputable def kD (y:IL × Int × Int):IL:=.tuple [y.1,.int y.2.2]
theorem jR {ps:List (Int × Int)} {ds:Nat->IL} {ts:List Int} (hl:ts.length=ps.length) (h0:∀ t∈ts,0<=t):∀ n,n<=ps.length->Num.eN ((cu ps ds ts n).map kp)=Num.eN (((ps.map (·.1)).zip ts).take n)
 | 0,_=>rfl
 | n+1,h=>by
  have ih:=jR (ds:=ds) hl h0 n (by lia);have hp:ps[n]?=Io (ps[n].1,ps[n].2):=Iv (by lia);have ht:ts[n]?=Io ts[n]:=Iv (by lia);have hz:((ps.map (·.1)).zip ts)[n]?=Io (ps[n].1,ts[n]):=by rw [Nc];exact⟨by rw [ID,hp];rfl,ht⟩
  rw [gq hp ht,Jv,hz,IT,Num.cW,ih];show _=Num.eN (((ps.map (·.1)).zip ts).take n++[(ps[n].1,ts[n])]);rw [kP];have t0:=h0 ts[n] (LR _);by_cases c:0<ts[n]
  ·rw [if_pos c];show _*(ps[n].1.toNat^ts[n].toNat*1)=_;rw [Lk]
  ·rw [if_neg c,show ts[n].toNat=0 by lia,LO];rfl
theorem FL {ps:List (Int × Int)} {ds:Nat->IL} (h:∀ i q k,ps[i]?=Io (q,k)->Num.gT q (ds i)):AM (Num.rowsOf ps ds) ps:=by refine⟨Num.cj,λi row hr=>?_⟩;have hi:=(IB.mp hr).1;rw [Num.cj] at hi;have hg:ps[i]?=Io (ps[i].1,ps[i].2):=Iv hi;rw [Num.iO hg] at hr;cases hr;obtain⟨g,rows,e⟩:=(h i _ _ hg).head;exact⟨_,hg,_,by rw [e]⟩
theorem B1 {H:Hp} {ps:List (Int × Int)} {ds:Nat->IL} {xs:List V} (hd:aE K H (Num.rowsOf ps ds) xs) {i:Nat} {x:V} (hx:xs[i]?=Io x):∃ q k pt u,ps[i]?=Io (q,k)/\x=.ref pt/\bj K H pt [u,.int k]/\dv K H (ds i) u:=by obtain⟨d,hd',hv⟩:=hd.get hx;have hi:=(IB.mp hd').1;rw [Num.cj] at hi;have hg:=Iv hi;rw [Num.iO hg] at hd';cases hd';obtain⟨pt,ys,rfl,h1,x1,r1,rfl,e1,x2,r2,rfl,e2,z⟩:=hv;cases z;cases e2;exact⟨ps[i].1,ps[i].2,pt,x1,hg,rfl,h1,e1⟩
def Ac (K:Iq):Sp:=λvs H Q _=>∃(v:V) (p a g:Int) (ps:List (Int × Int)) (ds:Nat->IL),vs=[.int p,.int a,v]/\dv K H (.tuple (Num.rowsOf ps ds)) v/\Num.gT p (.tuple [.int p,.int g,.tuple (Num.rowsOf ps ds)])/\Num.Part (p-1) ps/\ps.length<=29/\(∀ i q k,ps[i]?=Io (q,k)->Num.gT q (ds i))/\¬p∣a /\ -(10^60)<=a/\a<=10^60 /\
 ∀(e:Int) (ts:List Int) (u:V) (H':Hp),1<=e->e<p->Num.Ord p a e.toNat->Num.TO p a ps ts->av H H'->dv K H' (.tuple [.int e,.tuple ((cS ps ds ts).map (fe p a e))]) u->Q u H'
theorem iD:aw ["n","a","parts","parting","times","kept","e"] ["n","a","parts"] (ak (top 24)):=dD
theorem pK {C:Iy} (D:ax K mg "order_from" (top 24)) (c_parting_in:Callee P w K mg base aQ 1 "parting_in" ["parts"] (vx K)) (c_parting_inL:Callee P w K mg base aQ 1 "parting_in" ["parts"] (vw K)) (c_most_times:Callee P w K mg base aQ 1 "most_times" ["n","prime"] z9) (c_raised:Callee P w K mg base aQ 5 "raised" ["n","a","parting"] (jz K)) (c_times_in_order:Callee P w K mg base aQ 12 "times_in_order" ["n","a","parting"] (jA K 6)) (c_whole_of:Callee P w K mg base aQ 1 "whole_of" ["parting"] (qh K)) (D':Callee P w K mg base (cZ P w) 4 "power" ["n","a","e"] (dW C)) (n_min:mg "min"=none) (K':mg "zip"=none) (A':mg "tuple"=none):Callee P w K mg base aQ 13 "order_from" ["n","a","parts"] (Ac K):=by
 refine cO D iD (λf cdv A outer s H vs Q E hr h=>?_);obtain⟨v,p,a,g,ps,ds,rfl,hd,hp,hP,hl29,hds,na,a0,a1,q⟩:=h;obtain⟨pm,p9⟩:=ir hp;have p2:=pm.two;have nd:=iD.nd;refine⟨_,(ae (eU (i0:=3) nd rfl (Jf rfl) rfl (lD (N':=["prime","many","n"]) (js:=[none,none,Io 0]) rfl rfl) (bp (bN c_parting_in hr aB (aa (pv 2) af))) (λ_ _ _ _=>(c8 K rfl (n:=2) rfl (au (aq (i:=0) (show JJ [("prime":Jb),("many":Jb),("n":Jb)] from by decide +kernel) rfl (Jf rfl) (.inr rfl)) (au (aq (i:=1) (show JJ [("prime":Jb),("many":Jb),("n":Jb)] from by decide +kernel) rfl (Jf rfl) (.inr rfl)) aO)))) (λ_ _ _ _=>aR) (λ_ _ _ _=>(aF (aa (pv 0) (aa (aC (vS rfl) rfl n_min L2.boot_min (aa (pv 1) (aa (bN c_most_times hr aB (aa (pv 2) (aa (pv 0) af))) af))) af)))) (by rfl) (by first | exact .inl rfl | exact .inr rfl)) (ae (aS (ay fY (bN c_raised hr aB (aa (pv 0) (aa (ar aH (pv 1) (pv 0)) (aa (pv 3) af)))) ah (aA _)) zN aD) (iG.lY (ae (bB (i:=4) nd (bN c_times_in_order hr aB (aa (pv 0) (aa (ar aH (pv 1) (pv 0)) (aa (pv 3) af))))) (ae (eU (i0:=5) nd rfl (Jf rfl) rfl (lD (N':=["row","many"]) (js:=[none,none]) rfl rfl) (uf .t .l rfl K' (aa (pv 2) (aa (pv 4) af))) (λ_ _ _ _=>(c8 K rfl (n:=2) rfl (au (aq (i:=0) (show JJ [("row":Jb),("many":Jb)] from by decide +kernel) rfl (Jf rfl) (.inr rfl)) (au (aq (i:=1) (show JJ [("row":Jb),("many":Jb)] from by decide +kernel) rfl (Jf rfl) (.inr rfl)) aO)))) (λ_ _ _ _=>(zH (ay c7 (pv 1) ah (aA _)))) (λ_ _ _ _=>(aF (aa (aG (bL K rfl) (pv 0) ah (λ_ _=>rfl)) (aa (pv 1) af)))) (by rfl) (by first | exact .inl rfl | exact .inr rfl)) (ae (fP (i:=6) nd rfl (N6 rfl) (bN c_whole_of hr aB (aa (bN c_parting_inL hr aB (aa (pv 5) af)) af))) (ai (az (aF (aa (pv 6) (aa (cI bS rfl A' L2.boot_tuple (aa (fz rfl (lD (N':=["paper","many","n","a","e"]) (js:=[none,none,Io 0,Io 1,Io 6]) rfl rfl) (bp (pv 5)) (λ_ _ _ _=>(c8 K rfl (n:=2) rfl (au (aq (i:=0) (show JJ [("paper":Jb),("many":Jb),("n":Jb),("a":Jb),("e":Jb)] from by decide +kernel) rfl (Jf rfl) (.inr rfl)) (au (aq (i:=1) (show JJ [("paper":Jb),("many":Jb),("n":Jb),("a":Jb),("e":Jb)] from by decide +kernel) rfl (Jf rfl) (.inr rfl)) aO)))) (λ_ _ _ _=>aR) (λ_ _ _ _=>(aF (aa (pv 0) (aa (pv 1) (aa (bN D' hr aI (aa (pv 2) (aa (pv 3) (aa (ar bA (pv 4) (aG (bL K rfl) (pv 0) ah (λ_ _=>rfl))) af)))) af)))))) af)) af))))))))))),?_⟩;show bH _ _ _ [Io (.int p),Io (.int a),Io v,none,none,none,none] H;obtain⟨pr,xs,rfl,hSr,hdr⟩:=hd;have xl:xs.length=ps.length:=by rw [hdr.length,Num.cj]
 have eE:Num.eN ps=(p-1).toNat:=by have:=Num.fK ps λy z=>(hP.ok y z).1;rw [hP.prod] at this;lia
 have big:∀{zs:List (Int × Int)},(∀ y∈zs,2<=y.1)->Num.eN zs<=(p-1).toNat->∀{i:Nat} {q k:Int},zs[i]?=Io (q,k)->q.toNat^k.toNat<=(p-1).toNat/\k<=29:=by
  intro zs h2 hz i q k hy;have g1:=(yc h2 hy (j:=k.toNat) (IF _)).1;have e0:Num.eN (zs.take i)≠0:=yd λy z=>h2 y (K8 z);have g2:q.toNat^k.toNat<=(p-1).toNat:=IJ (Lh _ (Nat.pos_of_ne_zero e0)) (IJ g1 hz);have q2:2<=q:=h2 _ (IC hy);have g3:(2:Int)^k.toNat<=q^k.toNat:=Num.two_pow_le q2 _;have g4:q^k.toNat=((q.toNat^k.toNat:Nat):Int):=by rw [Np,show (q.toNat:Int)=q by lia]
  have g5:k.toNat<=29:=Num.two_le (by lia);exact⟨g2,by lia⟩
 have okP:∀ y∈ps,Num.Pm y.1/\0<=y.2/\y.2<=10^6:=λy hy=>by obtain⟨o1,o2,_⟩:=hP.ok y hy;obtain⟨i,hi⟩:=KU.mp hy;have:=(big (λy z=>(hP.ok y z).1.two) (ND eE) hi).2;exact⟨o1,by lia,by lia⟩
 have pwP:ps.Pairwise (λx y=>y.1≠x.1):=hP.rise.imp λh=>by lia
 k_data;refine⟨.ref pr,_,ps,rfl,⟨pr,xs,rfl,hSr,hdr⟩,FL hds,by rw [Num.cj];lia,λp1 us1 H1 s1 f1 e1 d1=>?_⟩;refine⟨p1,rfl,⟨_,aJ.of e1⟩,?_⟩;have ul:us1.length=ps.length:=by rw [d1.length,Iu]
 refine aY (xs:=us1) (λi zs H3=>av H1 H3/\aE K H3 ((ps.take i).map eB) zs) ⟨av.refl _,rfl⟩ (by rw [ul];exact IJ hl29 (by decide)) (λi zs H3 hi ⟨z1,z2⟩=>⟨aJ.of (z1 _ _ e1),by rw [z2.length,Iu,JE];lia⟩) ?_ ?_
 ·rintro i x zs H3 hx ⟨s3,hz⟩;obtain⟨d,hd',hv⟩:=d1.get hx;rw [ID] at hd';obtain⟨⟨q',k'⟩,hy,rfl⟩:=IE.mp hd';obtain⟨pq,k0,k6⟩:=okP _ (IC hy);replace pq:Num.Pm q':=pq;replace k0:0<=k':=k0;have q2:=pq.two;obtain⟨pt,rfl,tt⟩:=gk hv;have qb:=(big (λy z=>(okP y z).1.two) (ND eE) hy).1;have q9:q'<=10^9:=by have:=(u6 hP (by lia) q' (IV.mpr ⟨_,IC hy,rfl⟩)).2;lia
  show mS K 2 _ _ [none,none,Io (.int p)] _ _;refine⟨pt,_,rfl,tt.same s3,rfl,?_⟩;k_data;refine⟨⟨rfl,True.intro⟩,p,q',rfl,by lia,by lia,q2,by lia,λt ht=>⟨(t:Int),rfl,by show 2<=sizeLine;decide,λp4 hp4=>?_⟩⟩;have em:(if (t:Int)<k' then (t:Int) else k')=k':=by
   rw [if_neg];intro z;have g4:q'^(t+1)=((q'.toNat^(t+1):Nat):Int):=by rw [Np,show (q'.toNat:Int)=q' by lia]
   have g5:q'.toNat^(t+1)<=q'.toNat^k'.toNat:=M4 (by lia) (by lia);lia
  rw [em];have s4:=aj (o:=.tup [V.int q',V.int k']) hp4;refine⟨s3.trans s4,?_⟩;rw [Jv,hy,IT];exact aE.append (aE.same s4 _ hz) (.one (dv.tup ag ⟨_,_,rfl,rfl,.one rfl⟩))
 ·rintro zs H3 p3 ⟨s3,hz⟩ hp3;rw [ul,JI] at hz;have s4:=aj (o:=.lst zs) hp3;have e4:upd H3 p3 (.lst zs) p3=Io (.lst zs):=ag;generalize upd H3 p3 _=H4 at *;have S4:=(s1.trans s3).trans s4;have d4:=aE.same s4 _ hz;have r0:=Jn a (show p≠0 by lia);have r1:=Jg a (show 0<p by lia);have one:(a%p)^Num.eN ps%p=1:=by rw [eE];exact (c5 p2).mpr (((Num.Al.rest p a).pow _).trans (Num.tH pm na))
  refine⟨by lia,p,a%p,p3,zs,ps,rfl,by lia,by lia,r0,r1,e4,d4,λy z=>⟨(okP y z).1.two,(okP y z).2⟩,λH5 s5=>⟨rfl,?_⟩⟩;rw [one,if_neg (by intro z;exact z rfl)];refine⟨by lia,p,a%p,p3,zs,ps,rfl,⟨by decide,by show ps.length<=32;lia⟩,by lia,p2,by lia,r0,r1,s5 _ _ e4,aE.same s5 _ d4,okP,pwP,one,λp6 ts H6 hTO s6 f6 e6=>?_⟩;have hTO':=hTO.al (Num.Al.rest p a);have S6:=(S4.trans s5).trans s6;have tl:ts.length=ps.length:=hTO.len;have eZ:Num.eN ((cu ps ds ts ps.length).map kp)=Num.eN ((ps.map (·.1)).zip ts):=by rw [jR tl hTO.nn _ (IF _),NR];rw [Tb,Iu];lia
  have oE:=hTO'.ord;rw [<- eZ] at oE;have eP:0<Num.eN ((cu ps ds ts ps.length).map kp)/\Num.eN ((cu ps ds ts ps.length).map kp)<=(p-1).toNat:=by refine⟨oE.pos,LP (by lia) (oE.dv _ (Num.tH pm na))⟩
  k_data;refine⟨⟨xs,hSr.same S6⟩,⟨_,aJ.of e6⟩,?_⟩;refine jM (xs:=xs) (ys:=ts.map V.int) (λi zs H7=>av H6 H7/\aE K H7 ((cu ps ds ts i).map kD) zs) ⟨av.refl _,rfl⟩ (by rw [Iu,tl,xl]) (by rw [xl];exact IJ hl29 (by decide)) (λi zs H7 hi ⟨z1,z2⟩=>⟨hSr.same (S6.trans z1),aJ.of (z1 _ _ e6),by rw [z2.length,Iu];exact lO⟩) ?_ ?_
  ·rintro i x y zs H7 p7 hx hy ⟨s7,hz7⟩ hp7;obtain⟨q',k',pt,u,hpi,rfl,t1,t2⟩:=B1 hdr hx;rw [ID] at hy;obtain⟨t,ht,rfl⟩:=IE.mp hy;have s8:=aj (o:=.tup [V.ref pt,V.int t]) hp7;show mS K 2 _ _ [none,none] _ _;refine⟨p7,_,rfl,bj.of ag,rfl,?_⟩;generalize upd H7 p7 _=H8 at *;have S8:=(S6.trans s7).trans s8;rw [gq hpi ht];k_data;refine⟨True.intro,aZ (λc=>?_) (λc=>?_)⟩
   ·rw [if_pos c];refine bM (t1.same S8) kE ⟨by show 2<=sizeLine;decide,λp9 hp9=>?_⟩;have s9:=aj (o:=.tup [u,V.int t]) hp9;refine⟨(s7.trans s8).trans s9,?_⟩;rw [IT];exact aE.append (aE.same (s8.trans s9) _ hz7) (.one (dv.tup ag ⟨_,_,rfl,dv.same (S8.trans s9) _ t2,.one rfl⟩))
   ·rw [if_neg c,L4];exact⟨s7.trans s8,aE.same s8 _ hz7⟩
  ·rintro zs H7 p7 ⟨s7,hz7⟩ hp7;rw [xl] at hz7;have s8:=aj (o:=.lst zs) hp7;have e8:upd H7 p7 (.lst zs) p7=Io (.lst zs):=ag;generalize upd H7 p7 _=H8 at *;have S8:=(S6.trans s7).trans s8;have d8:=aE.same s8 _ hz7;have kl:(cu ps ds ts ps.length).length<=29:=IJ lO hl29;have kmem:∀ y∈cu ps ds ts ps.length,Num.Pm y.2.1/\0<y.2.2/\y.2.2<=29/\Num.gT y.2.1 y.1:=λy hy=>by
    obtain⟨i,k,h1,h2,h3,h4⟩:=eh hy;have hz:((ps.map (·.1)).zip ts)[i]?=Io (y.2.1,y.2.2):=by rw [Nc];exact⟨by rw [ID,h1];rfl,h2⟩
    have h5:=(big (zs:=(ps.map (·.1)).zip ts) (λz hz=>by
     have:=(Ot (show (z.1,z.2)∈_ from hz)).1;obtain⟨w',hw',e⟩:=IV.mp this;rw [<- e];exact (okP w' hw').1.two) (by rw [<- eZ];exact eP.2) hz).2
    exact⟨(okP _ (IC h1)).1,h3,h5,by rw [h4];exact hds i _ _ h1⟩
   obtain⟨ks,hks⟩:∃ ks,cu ps ds ts ps.length=ks:=⟨_,rfl⟩
   rw [hks] at eZ oE eP kl kmem d8;have zl:zs.length=ks.length:=by rw [d8.length,Iu]
   refine⟨p7,zs,ks.map kD,ks.map kp,rfl,e8,d8,⟨by rw [Iu,Iu],λi row hr=>?_⟩,by rw [Iu];lia,λp9 us9 H9 s9 f9 e9 d9=>?_⟩
   ·rw [ID] at hr;obtain⟨y,hy,rfl⟩:=IE.mp hr;obtain⟨g',rows',e'⟩:=(kmem y (IC hy)).2.2.2.head;exact⟨kp y,by rw [ID,hy];rfl,_,by show UG [y.1,.int y.2.2]=_;rw [e'];rfl⟩
   refine⟨p9,us9,_,rfl,e9,d9,λy hy=>?_,by lia,λH10 s10=>?_⟩
   ·obtain⟨z,hz,rfl⟩:=IV.mp hy;obtain⟨m1,m2,m3,_⟩:=kmem z hz;exact⟨m1.two,by show 0<=z.2.2;lia,by show z.2.2<=10^6;lia⟩
   have S10:=s9.trans s10;refine⟨p7,rfl,⟨_,aJ.of (S10 _ _ e8)⟩,?_⟩;have eb:(1:Int)<=(Num.eN (ks.map kp):Int)/\(Num.eN (ks.map kp):Int)<p:=by lia
   have oE':Num.Ord p a ((Num.eN (ks.map kp):Int)).toNat:=by rw [IX];exact oE
   generalize (Num.eN (ks.map kp):Int)=e at *;refine aY (xs:=zs) (λi rs H11=>av H10 H11/\aE K H11 ((ks.take i).map (fe p a e)) rs) ⟨av.refl _,rfl⟩ (by rw [zl];exact IJ kl (by decide)) (λi rs H11 hi ⟨z1,z2⟩=>⟨aJ.of (z1 _ _ (S10 _ _ e8)),by rw [z2.length,Iu,JE];lia⟩) ?_ ?_
   ·rintro i x rs H11 hx ⟨s11,hr⟩;obtain⟨d,hd',hv⟩:=(aE.same (S10.trans s11) _ d8).get hx;rw [ID] at hd';obtain⟨y,hy,rfl⟩:=IE.mp hd';obtain⟨m1,m2,m3,m4⟩:=kmem y (IC hy);obtain⟨pt,ys,rfl,h1,x1,r1,rfl,e1',x2,r2,rfl,e2',z⟩:=hv;cases z;cases e2';have e1d:=e1';obtain⟨g',rows',e'⟩:=m4.head;rw [e'] at e1';obtain⟨pq,zs',rfl,h2,y1,r3,rfl,f1',f2⟩:=e1';cases f1';have q2:=m1.two;have q9:=(ir m4).2;show mS K 2 _ _ [none,none,Io (.int p),Io (.int a),Io (.int e)] _ _;refine⟨pt,_,rfl,h1,rfl,?_⟩;k_data;refine⟨⟨rfl,rfl,rfl,True.intro⟩,bM h2 kE ⟨y.2.1,rfl,by lia,Bd.of (by lia) (by lia),p,a,e/y.2.1,rfl,by lia,by lia,λ_ H12 s12=>⟨by show 3<=sizeLine;decide,λp13 hp13=>?_⟩,λz=>absurd z (by have:=L5 (show 0<=e by lia) (show 0<=y.2.1 by lia);lia)⟩⟩;have s13:=aj (o:=.tup [V.ref pq,V.int y.2.2,V.int (a^(e/y.2.1).toNat%p)]) hp13;refine⟨(s11.trans s12).trans s13,?_⟩;rw [Jv,hy,IT];exact aE.append (aE.same (s12.trans s13) _ hr) (.one (dv.tup ag ⟨_,_,rfl,dv.same (s12.trans s13) _ e1d,_,_,rfl,rfl,.one rfl⟩))
   ·rintro rs H11 p11 ⟨s11,hr⟩ hp11;rw [zl,JI] at hr;have s12:=aj (o:=.lst rs) hp11;refine⟨p11,rfl,rs,.inl ⟨aJ.of ag,λl hl'=>⟨by show 2<=sizeLine;decide,λp13 hp13=>?_⟩⟩⟩;generalize upd H11 p11 _=H12 at *;have s13:=aj (o:=.tup rs) hl';have e13:upd H12 l (.tup rs) l=Io (.tup rs):=ag;generalize upd H12 l _=H13 at *;have s14:=aj (o:=.tup [V.int e,V.ref l]) hp13;have ek:cS ps ds ts=ks:=hks;refine q e ts _ _ eb.1 eb.2 oE' hTO' (((((S8.trans S10).trans s11).trans s12).trans s13).trans s14) ?_;rw [ek];exact dv.tup ag ⟨_,_,rfl,rfl,.one (dv.tup (s14 _ _ e13) (aE.same ((s12.trans s13).trans s14) _ hr))⟩
def sM (p a:Int) (rows:IL) (r:IL):Prop:=∃(e:Int) (ps:List (Int × Int)) (ds:Nat->IL) (ts:List Int),rows=.tuple (Num.rowsOf ps ds)/\Num.Part (p-1) ps/\ps.length<=29/\(∀ i q k,ps[i]?=Io (q,k)->Num.gT q (ds i))/\1<=e/\e<p/\Num.Ord p a e.toNat/\Num.TO p a ps ts/\r=.tuple [.int e,.tuple ((cS ps ds ts).map (fe p a e))]
def qf (K:Iq) (C:Iy):Sp:=λvs H Q E=>∃(v:V) (p a g:Int) (rows:IL),vs=[v,.int a]/\dv K H (.tuple [.int p,.int g,rows]) v/\Num.gT p (.tuple [.int p,.int g,rows]) /\ -(10^60)<=a/\a<=10^60/\(p∣a->AI C H E) /\
 (¬p∣a->∀ r u H',sM p a rows r->av H H'->dv K H' r u->Q u H')
theorem rY:aw ["paper","a","p","full","parts"] ["paper","a"] (ak (top 29)):=dD
theorem y4 {C:Iy} (D:ax K mg "order" (top 29)) (c_order_from:Callee P w K mg base aQ 13 "order_from" ["n","a","parts"] (Ac K)) (x_Nought:sN K mg "Nought" C):Callee P w K mg base (cZ P w) 14 "order" ["paper","a"] (qf K C):=by
 refine cX D rY (λf cdv A outer s H vs Q E hr h=>?_);obtain⟨v,p,a,g,rows,rfl,hd,hp,a0,a1,q1,q2⟩:=h;obtain⟨pm,p9⟩:=ir hp;have p2:=pm.two;have nd:=rY.nd;refine⟨_,(ae (eC (pv 0) (bZ (n:=3) rfl (au (aq (i:=2) nd rfl (Jf rfl) (.inr rfl)) (au (aq (i:=3) nd rfl (Jf rfl) (.inr rfl)) (au (aq (i:=4) nd rfl (Jf rfl) (.inr rfl)) aO))))) (ae (aS (ay cL (ar aH (pv 1) (pv 2)) ah (aA _)) (ai (cP (me x_Nought rfl))) aD) (iG.lY (ai (az (bN c_order_from hr aB (aa (pv 2) (aa (pv 1) (aa (pv 4) af))))))))),?_⟩;show bH _ _ _ [Io v,Io (.int a),none,none,none] H;obtain⟨g',ps,ds,eq,hg,hP,hl29,hds⟩:=u4 hp;cases eq;obtain⟨pp,y1,y2,vr,rfl,tS,e0,eg,dr⟩:=tj hd;cases e0;cases eg;k_data;refine⟨pp,_,rfl,tS,rfl,?_⟩;k_data;refine⟨by lia,aZ (λc=>?_) (λc=>?_)⟩
 ·exact λx hx=>fk x_Nought.cls (av.refl _) hx (q1 (I0 c))
 ·have na:¬p∣a:=λz=>c (JP z);exact⟨vr,p,a,g,ps,ds,rfl,dr,hp,hP,hl29,hds,na,a0,a1,λe ts u H' e1 e2 o t s' hu=>q2 na _ u H' ⟨e,ps,ds,ts,rfl,hP,hl29,hds,e1,e2,o,t,rfl⟩ s' hu⟩
def PW (p a k y:Int):Prop:=∃ b:Int,(0<=k/\b=a∨k<0/\p∣b*a-1)/\y=b^k.natAbs%p
theorem kO {H:Hp} {m n:Int} {v:V} (h:dv K H (eB (m,n)) v):∃ q,v=.ref q/\bj K H q [.int m,.int n]:=by obtain⟨q,xs,e,h1,h2⟩:=h;obtain⟨x,r,e1,d1,h3⟩:=h2;obtain⟨y,r',e2,d2,h4⟩:=h3;cases h4;cases d1;cases d2;subst e1;subst e2;exact⟨q,e,h1⟩
theorem Fi {a b g u v:Int} (ha:0<a) (z:Gcd.Fe a b g u v):Crt.G a b g:=by
 refine⟨?_,z.da,z.db,⟨u,v,z.lin⟩⟩;have:=z.g0;rcases (by lia:g=0∨0<g) with e | e
 ·have h:=z.da;rw [e] at h;have:=UL.mp h;lia
 ·exact e
theorem Bw {g x:Int}:(!decide (x%g=0))=decide (¬g∣x):=by
 by_cases h:g∣x
 ·rw [JP h];simp [h]
 ·have:¬x%g=0:=λz=>h (I0 z);simp [h,this]
theorem Hn {a d L:Int} (hd:0<d) (h0:-L<=a) (h1:a<=L):-L<=a/d/\a/d<=L:=by
 have L0:0<=L:=by lia
 have h2:L*1<=L*d:=Jm (show 1<=d by lia) L0;refine⟨NY hd (by rw [QK];lia),QB hd (by lia)⟩
theorem Fh {M m g:Int} (hm:0<m) (G:Crt.G M m g):0<m/g/\m/g<=m/\Gd (m/g) (M/g) 1:=by
 have g0:=G.pos;obtain⟨A,hA⟩:=G.da;obtain⟨L,hL⟩:=G.db;have e1:m/g=L:=by rw [hL];exact JB _ (by lia)
 have e2:M/g=A:=by rw [hA];exact JB _ (by lia)
 obtain⟨u,v,e⟩:=G.lin;have e4:u*A+v*L=1:=J5 (show g≠0 by lia) (Crt.a1 (by rw [hA,hL] at e;exact e));rw [e1,e2];have L0:0<L:=by
  rcases (by lia:L<=0∨0<L) with z | z
  ·have:=Jq (LN g0) z;lia
  ·exact z
 refine⟨L0,?_,by decide,SM _,SM _,λd h1 h2=>?_⟩
 ·rw [hL];have:=Jj (show 1<=g by lia) (LN L0);lia
 ·rw [<- e4];exact Lx (JA h2) (JA h1)
def vn (K:Iq):Sp:=λvs H Q _=>∃(v1 v2:V) (m n m' n':Int),vs=[v1,v2]/\dv K H (eB (m,n)) v1/\dv K H (eB (m',n')) v2/\0<m/\m<=10^20/\0<m'/\m'<=10^20/\∀ g H',Crt.G m m' g->av H H'->Q (.bl (decide (¬g∣n-n'))) H'
theorem jv:aw ["one","other"] ["one","other"] (ak (top 36)):=dD
theorem yT (D:ax K mg "are_apart" (top 36)) (c_divisor:Callee P w K mg base aQ 1 "divisor" ["a","b"] h7):Callee P w K mg base aQ 2 "are_apart" ["one","other"] (vn K):=by refine cO D jv (λf cdv A outer s H vs Q E hr h=>?_);obtain⟨v1,v2,m,n,m',n',rfl,h1,h2,hm,hm1,hm',hm1',q⟩:=h;obtain⟨q1,rfl,t1⟩:=kO h1;obtain⟨q2,rfl,t2⟩:=kO h2;have nd:=jv.nd;refine⟨_,(ai (az (dH fY (ar aH (ar fL (aG a9 (pv 0) ah (λ_ _=>rfl)) (aG a9 (pv 1) ah (λ_ _=>rfl))) (aG a9 (bN c_divisor hr aB (aa (aG a9 (pv 0) ah (λ_ _=>rfl)) (aa (aG a9 (pv 1) ah (λ_ _=>rfl)) af))) ah (λ_ _=>rfl))) ah (aA _)))),?_⟩;show kL _ _ [Io (.ref q1),Io (.ref q2)] H;k_data;refine bM t1 rfl (bM t2 rfl ⟨n,rfl,n',rfl,bM t1 rfl (bM t2 rfl ?_)⟩);refine⟨m,m',rfl,⟨by lia,by lia⟩,⟨by lia,by lia⟩,λg u v p H1 z s1 e1=>?_⟩;have G:=Fi hm z;refine bM (bj.of e1) rfl ⟨g,rfl,G.pos,?_⟩;rw [Bw];exact q g H1 G s1
def z7 (K:Iq):Sp:=λvs H Q _=>∃(v1 v2:V) (M N m n:Int),vs=[v1,v2]/\dv K H (eB (M,N)) v1/\dv K H (eB (m,n)) v2/\0<M/\M<=10^220/\0<=N/\N<M/\0<m/\m<=10^20 /\ -(10^80)<=n/\n<=10^80/\(∀ g,Crt.G M m g->g∣n-N) /\
 ∀ p W x H',Crt.vL M N m n W x->W<=M*m->av H H'->H p=none->H' p=Io (.tup [.int W,.int x])->Q (.ref p) H'
theorem fD:aw ["one","other","modulus","number","other_modulus","other_number","g","left","times","whole"] ["one","other"] (ak (top 37)):=dD
theorem BA {C:Iy} (D:ax K mg "both_together" (top 37)) (c_divisor:Callee P w K mg base aQ 1 "divisor" ["a","b"] h7) (c_inverse:Callee P w K mg base (cZ P w) 3 "inverse" ["n","a"] (h8 C)):Callee P w K mg base aQ 4 "both_together" ["one","other"] (z7 K):=by refine cO D fD (λf cdv A outer s H vs Q E hr h=>?_);obtain⟨v1,v2,M,N,m,n,rfl,h1,h2,hM,hM1,hN,hN1,hm,hm1,hn,hn1,hd,q⟩:=h;obtain⟨q1,rfl,t1⟩:=kO h1;obtain⟨q2,rfl,t2⟩:=kO h2;have nd:=fD.nd;refine⟨_,(ae (eC (pv 0) (bZ (n:=2) rfl (au (aq (i:=2) nd rfl (Jf rfl) (.inr rfl)) (au (aq (i:=3) nd rfl (Jf rfl) (.inr rfl)) aO)))) (ae (eC (pv 1) (bZ (n:=2) rfl (au (aq (i:=4) nd rfl (Jf rfl) (.inr rfl)) (au (aq (i:=5) nd rfl (Jf rfl) (.inr rfl)) aO)))) (ae (bB (i:=6) nd (aG a9 (bN c_divisor hr aB (aa (pv 2) (aa (pv 4) af))) ah (λ_ _=>rfl))) (ae (bB (i:=7) nd (ar bA (pv 4) (pv 6))) (ae (bB (i:=8) nd (ar aH (ar aK (ar bA (ar fL (pv 5) (pv 3)) (pv 6)) (bN c_inverse hr aI (aa (pv 7) (aa (ar bA (pv 2) (pv 6)) af)))) (pv 7))) (ae (bB (i:=9) nd (ar aK (pv 2) (pv 7))) (ai (az (aF (aa (pv 9) (aa (ar aH (ar bc (pv 3) (ar aK (pv 2) (pv 8))) (pv 9)) af))))))))))),?_⟩;show bH _ _ _ [Io (.ref q1),Io (.ref q2),none,none,none,none,none,none,none,none] H;k_data;refine⟨q1,_,rfl,t1,rfl,?_⟩;k_data;refine⟨q2,_,rfl,t2,rfl,?_⟩;k_data;refine⟨M,m,rfl,⟨by lia,by lia⟩,⟨by lia,by lia⟩,λg u v p H1 z s1 e1=>?_⟩;have G:=Fi hM z;have g0:=G.pos;have gm:g<=m:=Jh hm G.db;refine bM (bj.of e1) rfl ?_;k_data;obtain⟨L0,L1,GD⟩:=Fh hm G;have qb:=Hn (a:=n-N) (d:=g) (L:=10^221) g0 (by lia) (by lia);have bg:Bd g:=Bd.of (by lia) (by lia);refine⟨g0,bg,g0,bg,g0,bg,m/g,M/g,rfl,L0,by lia,λg' G'=>⟨λ_ r H2 r0 r1 r2 s2=>?_,λz=>absurd z (by have:=GD.one G';lia)⟩⟩;have B:=Crt.both (N:=N) (n:=n) (r:=r) hM hm G (hd g G) r2;have W1:M*(m/g)<=M*m:=Jm L1 (LN hM);have t0:=Jn ((n-N)/g*r) (show m/g≠0 by lia);have t1':=Jg ((n-N)/g*r) L0;refine⟨r,rfl,Bd.of (by lia) (by lia),Bd.of (by lia) (by lia),L0,Bd.of (by lia) (by lia),Bd.of (by lia) (by lia),Bd.of (by lia) (by lia),Bd.of (by lia) (by lia),B.pos,by show 2<=sizeLine;decide,λp3 hp3=>?_⟩;exact q p3 _ _ _ B W1 ((s1.trans s2).E4 hp3) ((s1.trans s2).free hp3) ag
def Ap (pls:List (Int × Int)) (i j:Nat):Prop:=∃ p q g,pls[i]?=Io p/\pls[j]?=Io q/\Crt.G p.1 q.1 g/\¬g∣p.2-q.2
def Bz (p:Int × Int):Prop:=0<p.1/\p.1<=10^18 /\ -(10^80)<=p.2/\p.2<=10^80
def vq (K:Iq):Sp:=λvs H Q _=>∃(a:Iy) (us:List V) (pls:List (Int × Int)),vs=[.ref a]/\aJ K H a us/\aE K H (pls.map eB) us/\(∀ p∈pls,Bz p)/\pls.length<=20 /\
 (∀ i j p H',i<j->Ap pls i j->(∀ i' j',i'<j'->(i'<i∨(i'=i/\j'<j))->¬Ap pls i' j')->av H H'->H p=none->H' p=Io (.tup [.int (i:Nat),.int (j:Nat)])->Q (.ref p) H') /\
 (∀ H',(∀ i j,i<j->¬Ap pls i j)->av H H'->Q .non H')
theorem gO:aw ["places","i","one","j","other"] ["places"] (ak (top 35)):=dD
theorem yW (D:ax K mg "first_apart" (top 35)) (c_are_apart:Callee P w K mg base aQ 2 "are_apart" ["one","other"] (vn K)) (n_enumerate:mg "enumerate"=none):Callee P w K mg base aQ 3 "first_apart" ["places"] (vq K):=by
 refine cO D gO (λf cdv A outer s H vs Q E hr h=>?_);obtain⟨a,us,pls,rfl,hS,hd,hok,hlen,q1,q2⟩:=h;have nd:=gO.nd;refine⟨_,(ae (b7 IQ rfl (jg rfl n_enumerate (aa (pv 0) af)) (bZ (n:=2) rfl (au (aq (i:=1) nd rfl (Jf rfl) (.inr rfl)) (au (aq (i:=2) nd rfl (Jf rfl) (.inr rfl)) aO))) (ai (b7 IQ rfl (jg rfl n_enumerate (aa (pv 0) af)) (bZ (n:=2) rfl (au (aq (i:=3) nd rfl (Jf rfl) (.inr rfl)) (au (aq (i:=4) nd rfl (Jf rfl) (.inr rfl)) aO))) (ai (aS (PW.pt (pR (ay fX (pv 1) (pv 3) (aA _)) (pS (b8 (bN c_are_apart hr aB (aa (pv 2) (aa (pv 4) af))) (λ_=>rfl))))) (ai (az (aF (aa (pv 1) (aa (pv 3) af))))) aD))))) (ai (az dB))),?_⟩;show bH _ _ _ [Io (.ref a),none,none,none,none] H;k_data;have hul:us.length=pls.length:=by rw [hd.length,Iu]
 have at_:∀{k:Nat} {x:V},us[k]?=Io x->∃ p,pls[k]?=Io p/\Bz p/\dv K H (eB p) x:=by intro k x hx;obtain⟨d,e,hv⟩:=hd.get hx;rw [ID] at e;obtain⟨p,e1,e2⟩:=IE.mp e;subst e2;exact⟨p,e1,hok p (IC e1),hv⟩
 refine⟨⟨_,hS⟩,?_⟩;refine gY (xs:=us) (λi σ' H'=>(∃ o1 o2 o3 o4:Option V,σ'=[Io (.ref a),o1,o2,o3,o4])/\av H H'/\∀ i' j',i'<j'->i'<i->¬Ap pls i' j') ⟨⟨_,_,_,_,rfl⟩,av.refl _,λ_ _ _ z=>absurd z (by lia)⟩ (λi σ' H' _ h=>hS.same h.2.1) ?_ ?_
 ·rintro i x σ' H' p hx ⟨⟨o1,o2,o3,o4,rfl⟩,hs,hno⟩ hp;have s1:=hs.trans (aj (o:=.tup [.int i,x]) hp);refine⟨p,_,rfl,bj.of ag,rfl,?_⟩;generalize upd H' p _=H1 at *;k_data;refine⟨⟨_,hS.same s1⟩,?_⟩;refine gY (xs:=us) (λj σ' H2=>(∃ o3 o4:Option V,σ'=[Io (.ref a),Io (.int (i:Int)),Io x,o3,o4])/\av H H2/\∀ j',j'<j->i<j'->¬Ap pls i j') ⟨⟨_,_,rfl⟩,s1,λ_ z=>absurd z (by lia)⟩ (λj σ' H2 _ h=>hS.same h.2.1) ?_ ?_
  ·rintro j y σ' H2 p2 hy ⟨⟨o3,o4,rfl⟩,hs2,hno2⟩ hp2;have s3:=hs2.trans (aj (o:=.tup [.int j,y]) hp2);refine⟨p2,_,rfl,bj.of ag,rfl,?_⟩;generalize upd H2 p2 _=H3 at *;k_data;refine aZ (λc=>?_) (λc=>?_)
   ·obtain⟨pi,ei,oi,di⟩:=at_ hx;obtain⟨pj,ej,oj,dj⟩:=at_ hy;refine⟨x,y,pi.1,pi.2,pj.1,pj.2,rfl,dv.same s3 _ di,dv.same s3 _ dj,oi.1,NO oi.2.1 (by decide),oj.1,NO oj.2.1 (by decide),λg H4 G s4=>⟨_,bh.mpr rfl,?_⟩⟩;by_cases dvd:g∣pi.2-pj.2
    ·rw [if_neg (by simp [dvd])];refine⟨s3.trans s4,λj' z1 z2=>?_⟩;rcases (by lia:j'<j∨j'=j) with z | z
     ·exact hno2 j' z z2
     ·subst z;rintro⟨p',q',g',e1,e2,e3,e4⟩;rw [ei] at e1;cases e1;rw [ej] at e2;cases e2;obtain rfl:=G.one e3;exact e4 dvd
    ·rw [if_pos (by simp [dvd])];refine⟨by show 2<=sizeLine;decide,λp3 hp3=>?_⟩;refine q1 i j p3 _ (by lia) ⟨pi,pj,g,ei,ej,G,dvd⟩ (λi' j' z1 z2=>?_) ((s3.trans s4).E4 hp3) ((s3.trans s4).free hp3) ag;rcases z2 with z2 | ⟨z2,z3⟩
     ·exact hno i' j' z1 z2
     ·subst z2;exact hno2 j' z3 z1
   ·refine⟨s3,λj' z1 z2=>?_⟩;rcases (by lia:j'<j∨j'=j) with z | z
    ·exact hno2 j' z z2
    ·lia
  ·rintro σ' H2 ⟨⟨o3,o4,rfl⟩,hs2,hno2⟩;refine⟨⟨_,_,_,_,rfl⟩,hs2,λi' j' z1 z2=>?_⟩;rcases (by lia:i'<i∨i'=i) with z | z
   ·exact hno i' j' z1 z
   ·subst z;by_cases z3:j'<us.length
    ·exact hno2 j' z3 z1
    ·rintro⟨p',q',g',e1,e2,e3,e4⟩;have:=(IB.mp e2).1;lia
 ·rintro σ' H' ⟨⟨o1,o2,o3,o4,rfl⟩,hs,hno⟩;k_data;refine q2 H' (λi j z=>?_) hs;by_cases z3:i<us.length
  ·exact hno i j z z3
  ·rintro⟨p',q',g',e1,e2,e3,e4⟩;have:=(IB.mp e1).1;lia
def Ad (K:Iq):Sp:=λvs H Q _=>∃(a:Iy) (us:List V) (pls:List (Int × Int)),vs=[.ref a]/\aJ K H a us/\aE K H (pls.map eB) us/\(∀ p∈pls,Bz p)/\pls.length<=12 /\
 (∀ i j p H',i<j->Ap pls i j->(∀ i' j',i'<j'->(i'<i∨(i'=i/\j'<j))->¬Ap pls i' j')->av H H'->H p=none->H' p=Io (.tup [.str "apart",.int (i:Nat),.int (j:Nat)])->Q (.ref p) H') /\
 (∀ W x p H',(∀ i j,i<j->¬Ap pls i j)->Crt.Told pls W x->W<=10^220->av H H'->H p=none->H' p=Io (.tup [.int W,.int x])->Q (.ref p) H')
theorem fZ:aw ["places","apart","told","place"] ["places"] (ak (top 34)):=dD
theorem En (D:ax K mg "put_together" (top 34)) (c_first_apart:Callee P w K mg base aQ 3 "first_apart" ["places"] (vq K)) (c_both_together:Callee P w K mg base aQ 4 "both_together" ["one","other"] (z7 K)):Callee P w K mg base aQ 5 "put_together" ["places"] (Ad K):=by
 refine cO D fZ (λf cdv A outer s H vs Q E hr h=>?_);obtain⟨a,us,pls,rfl,hS,hd,hok,hlen,q1,q2⟩:=h;have nd:=fZ.nd;refine⟨_,(ae (bB (i:=1) nd (bN c_first_apart hr aB (aa (pv 0) af))) (ae (aS (ay BJ (pv 1) dB (aA _)) (ai (az (aF (aa aM (aa (aG a9 (pv 1) ah (λ_ _=>rfl)) (aa (aG a9 (pv 1) ah (λ_ _=>rfl)) af)))))) aD) (ae (bB (i:=2) nd (aF (aa ah (aa ah af)))) (ae (b7 IQ rfl (bp (pv 0)) (aq (i:=3) nd rfl (Jf rfl) (.inr rfl)) (ai (bB (i:=2) nd (bN c_both_together hr aB (aa (pv 2) (aa (pv 3) af)))))) (ai (az (pv 2))))))),?_⟩;show bH _ _ _ [Io (.ref a),none,none,none] H;k_data;have hul:us.length=pls.length:=by rw [hd.length,Iu]
 refine⟨a,us,pls,rfl,hS,hd,hok,by lia,λi j p H1 ij ap no s1 f1 e1=>?_,λH1 no s1=>?_⟩
 ·show ite _ _ _;rw [if_pos (by intro z;cases z)];refine bM (bj.of e1) rfl (bM (bj.of e1) rfl ⟨by show 3<=sizeLine;decide,λp2 hp2=>?_⟩);exact q1 i j p2 _ ij ap no (s1.E4 hp2) (s1.free hp2) ag
 show ite _ _ _;rw [if_neg (by simp)];refine⟨by show 2<=sizeLine;decide,λp hp=>?_⟩;have s2:=s1.trans (aj (o:=.tup [V.int 1,V.int 0]) hp);refine⟨⟨_,hS.same s2⟩,?_⟩;have pw:∀ i:Nat,i<=12->(10:Int)^(18*i)<=10^216:=by decide
 refine fu (xs:=us) (λi σ' H'=>∃(r:Iy) (M N:Int) (o3:Option V),σ'=[Io (.ref a),Io .non,Io (.ref r),o3]/\av H H'/\H r=none/\H' r=Io (.tup [.int M,.int N])/\Crt.Told (pls.take i) M N/\M<=10^(18*i))
  ⟨p,1,0,none,rfl,s2,s1.free hp,ag,by rw [TB];exact .nil,by decide⟩ (λi σ' H' _ h=>by obtain⟨_,_,_,_,_,s,_⟩:=h;exact hS.same s) ?_ ?_
 ·rintro i x σ' H' hx ⟨r,M,N,o3,rfl,hs,hr',er,T,hM⟩;obtain⟨d,ed,hv⟩:=hd.get hx;rw [ID] at ed;obtain⟨pl,e1,e2⟩:=IE.mp ed;subst e2;have ok:=hok pl (IC e1);have il:i<pls.length:=(IB.mp e1).1;have p1:=pw i (by lia);have p2:(10:Int)^(18*(i+1))=10^(18*i)*10^18:=by rw [SE,Pw.pow_add]
  have o2:=ok.2.1;have o3':=ok.2.2;k_data;refine⟨.ref r,x,M,N,pl.1,pl.2,rfl,dv.tup (ds:=[.int M,.int N]) er ⟨_,_,rfl,rfl,.one rfl⟩,dv.same hs _ hv,T.pos,by lia,T.x0,T.x1,ok.1,by lia,o3'.1,o3'.2,λg G=>?_,λp3 W y H3 B hW s3 f3 e3=>?_⟩
  ·have fit:∀ p'∈pls.take i,∀ d,Crt.G p'.1 pl.1 d->d∣p'.2-pl.2:=by
    intro p' hp' d hd';obtain⟨i',e'⟩:=KU.mp hp';have hi':=(IB.mp e').1;rw [JE] at hi';rw [PD (by lia)] at e';have na:=no i' i (by lia);by_cases z:d∣p'.2-pl.2
    ·exact z
    ·exact absurd ⟨p',pl,d,e',e1,hd',z⟩ na
   exact T.fits G fit λp' hp'=>Crt.uB (hok p' (K8 hp')).1 ok.1
  ·have tk:pls.take (i+1)=pls.take i++[pl]:=by rw [Jv,e1];rfl
   refine⟨p3,rfl,hs.trans s3,hs.free f3,W,y,e3,?_,?_⟩
   ·rw [tk];exact T.step B
   ·rw [p2];exact NO hW (LW hM o2 (LN ok.1) (by have:=T.pos;lia))
 ·rintro σ' H' ⟨r,M,N,o3,rfl,hs,hr',er,T,hM⟩;k_data;rw [hul,JI] at T;rw [hul] at hM;have p1:=pw pls.length hlen;exact q2 M N r H' no T (by lia) hs hr' er
end
end K
namespace K
open PySem PySem.Spec PyProof.Rows L2
section
variable {P:IM} {w:Jo} {K:Iq} {mg:Jb->Option Ir} {base:JD} {C:Iy}
theorem wj {H:Hp} {a:Iy} {kvs:List (Key × V)} {Q:VK} (h:H a=Io (.dK kvs)) (q:Q (.int kvs.length) H):zR [.ref a] H Q:=⟨a,_,rfl,.inr ⟨_,h,rfl⟩,q⟩
theorem Hi {H:Hp} {a:Iy} {kvs:List (List Key × V)} {Q:VK} (h:H a=Io (.dT kvs)) (q:Q (.int kvs.length) H):zR [.ref a] H Q:=⟨a,_,rfl,.inl ⟨_,h,rfl⟩,q⟩
def vz:Sp:=λvs H Q _=>∃ p q w:Int,vs=[.int p,.int q,.int w]/\2<=p/\p<=10^60/\1<=q/\q<=10^6/\0<=w/\w<p/\Num.Ord p w q.toNat/\∀ t H',av H H'->H t=none->H' t=Io (.dK (cU p w (rt q.toNat)))->Q (.ref t) H'
theorem gP:aw ["p","q","w","table","rest"] ["p","q","w"] (ak (top 32)):=dD
theorem zh (D:ax K mg "small_steps" (top 32)) (f':mg "len"=none):Callee P w K mg base aQ 1 "small_steps" ["p","q","w"] vz:=by
 refine cO D gP (λf cdv A outer s H vs Q E hr h=>?_);obtain⟨p,q',w',rfl,p2,p9,q1,q6,w0,w1,o,q⟩:=h;have nd:=gP.nd;refine⟨_,(ae (bB (i:=3) nd zB) (ae (bB (i:=4) nd ah) (ae (aV IQ (ay fX (ar aK (aC dk rfl f' JG (aa (pv 3) af)) (aC dk rfl f' JG (aa (pv 3) af))) (pv 1) (aA _)) (ae (fO (bT hr) (pv 3) (pv 4) (aC dk rfl f' JG (aa (pv 3) af)) rfl) (ai (bB (i:=4) nd (ar aH (ar aK (pv 4) (pv 2)) (pv 0)))))) (ai (az (pv 3)))))),?_⟩;show bH _ _ _ [Io (.int p),Io (.int q'),Io (.int w'),none,none] H;k_data;intro t ht;refine aW (α:=Nat) (λi=>[Io (.int p),Io (.int q'),Io (.int w'),Io (.ref t),Io (.int (w'^i%p))]) (λi H1=>H1=upd H t (.dK (cU p w' i))/\∀ j,j<i->j*j<q'.toNat) (λi=>q'.toNat+1-i) 0 ?_ ⟨rfl,λj z=>absurd z (Nq _)⟩ ?_
 ·rw [Jp,Kh (by decide) (by lia)]
 rintro i H1 ⟨rfl,hi⟩;have e1:upd H t (.dK (cU p w' i)) t=Io (.dK (cU p w' i)):=ag;k_data;refine wj e1 (wj e1 ⟨_,rfl,_,rfl,?_⟩);rw [fU];have q0:0<q'.toNat:=by lia
 have ii:i<=1001:=by
  rcases NP 1001 i with z | z
  ·have:=hi 1001 z;lia
  ·exact z
 refine⟨Bd.of (by lia) (by lia),Bd.of (by lia) (by lia),aZ (λc=>?_) (λc=>?_)⟩
 ·have c':i*i<q'.toNat:=by
   have:((i*i:Nat):Int)<q':=by rw [K1];exact c
   lia
  have iq:i<q'.toNat:=by
   rcases Jy i with z | z
   ·lia
   ·have:=Lh i z;lia
  have r0:=Jn (w'^i) (show p≠0 by lia);have r1:=Jg (w'^i) (show 0<p by lia);have hv:cz (cU p w' i) (Lv (w'^i%p))=none:=jB λj hj e=>by have:=o.jj (by lia) iq e;lia
  refine⟨_,λ_ _ z=>z,wj e1 ⟨_,lj.k (k:=Lv (w'^i%p)) e1 (by rw [fU];exact J3 ii (by decide)),Bd.of (by lia) (by lia),Bd.of (by lia) (by lia),by lia,i+1,?_,?_,λj hj=>?_,by lia⟩⟩
  ·rw [IY,L8,Rj,<- L8]
  ·rw [rP _ hv,Cr,fU,jC]
  ·rcases (by lia:j<i∨j=i) with z | z
   ·exact hi j z
   ·rw [z];exact c'
 ·have e:rt q'.toNat=i:=Ge (by
   have:q'<=((i*i:Nat):Int):=by rw [K1];lia
   lia) hi
  exact q t _ (aj ht) ht (by rw [e];exact e1)
def k8 (C:Iy):Sp:=λvs H Q _=>∃(x dx:Iy) (m:Int),vs=[.ref x,.int m]/\H x=Io (.ins C dx [])/\0<=m/\m<=10^6/\∀ d H',(∀ b o,b≠x->H b=Io o->H' b=Io o)->d≠x->H d=none->bC C ⟨x,dx,d,m,0,[]⟩ H'->Q .non H'
theorem fB:aw ["self","most"] ["self","most"] (ak (inClass (top 31) 0)):=dD
theorem yX (D:CC K C "__init__" "Kept.__init__" (inClass (top 31) 0)) (cl:mK K C) (na_most:cJ K C "most") (na_counted:cJ K C "counted") (na_laid:cJ K C "laid"):bw P w K mg base aQ 1 C "__init__" ["self","most"] (k8 C):=by
 refine eA D (λ_ _ _ _ _ _ us hl=>by obtain⟨_,_,rfl⟩:=yD hl;exact rfl) fB (λvs H Q E h=>by obtain⟨a,b,c,rfl,_⟩:=h;rfl) (λf cdv A outer s H vs Q E hr h=>?_);obtain⟨x,dx,m,rfl,hx,m0,m1,q⟩:=h;have nd:=fB.nd;refine⟨_,(ae (uj (pv 0) (pv 1) rfl) (ae (uj (pv 0) ah rfl) (ai (uj (pv 0) zC rfl)))),?_⟩;show bH _ _ _ [Io (.ref x),Io (.int m)] H;k_data;refine⟨C,dx,[],hx,cl,na_most,by decide,C,dx,_,ag,cl,na_counted,by show 1<1000;decide,λd hd=>?_⟩;have nx:d≠x:=λz=>by rw [z,ag] at hd;cases hd
 refine⟨C,dx,_,by rw [ao (JC nx),ag],cl,na_laid,by show 2<1000;decide,q d _ (λb o hb e=>?_) nx (by rw [ao nx,ao nx] at hd;exact hd) ⟨ag,⟨[],?_,rfl,OV,λy v e=>by cases e⟩,m0,m1⟩⟩
 ·rw [ao hb,ao (λz=>by rw [z] at hb e;rw [ao hb,ao hb,e] at hd;cases hd),ao hb,ao hb];exact e
 ·rw [ao nx,ag]
def z6 (C:Iy):Sp:=λvs H Q _=>∃(k:KH) (n:Int),vs=[.ref k.a,.int n]/\bC C k H/\∀ H',(∀ b,b≠k.a->H' b=H b)->bC C (iH k n) H'->Q .non H'
theorem eV:aw ["self","many"] ["self","many"] (ak (inClass (top 31) 4)):=dD
theorem BD (D:CC K C "add_steps" "Kept.add_steps" (inClass (top 31) 4)) (cl:mK K C) (na_counted:cJ K C "counted"):bw P w K mg base aQ 1 C "add_steps" ["self","many"] (z6 C):=by refine eA D (λ_ _ _ _ _ _ us hl=>by obtain⟨_,_,rfl⟩:=yD hl;exact rfl) eV (λvs H Q E h=>by obtain⟨a,b,rfl,_⟩:=h;rfl) (λf cdv A outer s H vs Q E hr h=>?_);obtain⟨k,n,rfl,kp,q⟩:=h;have nd:=eV.nd;refine⟨_,(ai (wX (pv 0) (pv 1) DY)),?_⟩;show pV _ _ _ _ _ _ [Io (.ref k.a),Io (.int n)] H;k_data;refine⟨C,k.dx,D3 k,kp.ins,cl,na_counted,_,rfl,k.c,n,rfl,rfl,k.dx,D3 k,kp.ins,by show 3<1000;decide,q _ (λb hb=>ao hb) (kp.Hg rfl)⟩
def Bs (H:Hp) (ks:List (Int × Int × Int)) (bs:List Iy):Prop:=bs.length=ks.length/\∀(i:Nat) b,bs[i]?=Io b->∃ y,ks[i]?=Io y/\H b=Io (.tup ((k3 y).map kV))
def mH (C:Iy):Sp:=λvs H Q _=>∃(k:KH),vs=[.ref k.a]/\bC C k H/\∀ p bs H',H p=none->av H H'->H' p=Io (.lst (bs.map V.ref))->Bs H k.ks bs->Q (.ref p) H'
theorem gJ:aw ["self"] ["self"] (ak (inClass (top 31) 2)):=dD
theorem tX (D:CC K C "tables" "Kept.tables" (inClass (top 31) 2)) (cl:mK K C) (na_laid:cJ K C "laid") (n_list:mg "list"=none):bw P w K mg base aQ 1 C "tables" ["self"] (mH C):=by
 refine eA D (λ_ _ _ _ _ _ us hl=>by obtain⟨_,rfl⟩:=yC hl;exact rfl) gJ (λvs H Q E h=>by obtain⟨a,rfl,_⟩:=h;rfl) (λf cdv A outer s H vs Q E hr h=>?_);obtain⟨k,rfl,kp,q⟩:=h;have nd:=gJ.nd;refine⟨_,(ai (az (cI (sS rfl) rfl n_list L2.boot_list (aa (gE (pv 0) rfl) af)))),?_⟩;show kL _ _ [Io (.ref k.a)] H;k_data;obtain⟨kvs,kd⟩:=kp.ex;refine⟨C,_,_,kp.ins,cl,na_laid,_,rfl,k.d,kvs,rfl,kd.dict,λp bs hl hb hp=>?_⟩;refine q p bs _ hp (aj hp) ag ⟨hl.trans kd.len,λi b e=>?_⟩;obtain⟨ky,v,e1,e2⟩:=hb i b e;have e3:(k.ks.map k3)[i]?=Io ky:=by rw [<- kd.keys,ID,e1];rfl
 rw [ID] at e3;obtain⟨y,e4,rfl⟩:=IE.mp e3;exact⟨y,e4,e2⟩
def Ae (C:Iy):Sp:=λvs H Q _=>∃(k:KH) (p q w:Int),vs=[.ref k.a,.int p,.int q,.int w]/\bC C k H/\mZ k/\2<=p/\p<=10^60/\1<=q/\q<=10^6/\0<=w/\w<p/\Num.Ord p w q.toNat/\∀ t H',bC C (jD k (p,q,w)) H'->bV k.a k.d H H'->H' t=Io (.dK (cU p w (rt q.toNat)))->Q (.ref t) H'
theorem eG:aw ["self","p","q","w","key","table"] ["self","p","q","w"] (ak (inClass (top 31) 3)):=dD
theorem yY (D:CC K C "used_table" "Kept.used_table" (inClass (top 31) 3)) (cl_Kept:mK K C) (na_laid:cJ K C "laid") (na_most:cJ K C "most") (f':mg "len"=none) (c_small_steps:Callee P w K mg base aQ 1 "small_steps" ["p","q","w"] vz)
  (c_Kept_add_steps:bw P w K mg base aQ 1 C "add_steps" ["self","many"] (z6 C)) (c_Kept_tables:bw P w K mg base aQ 1 C "tables" ["self"] (mH C)):bw P w K mg base aQ 2 C "used_table" ["self","p","q","w"] (Ae C):=by
 refine eA D (λ_ _ _ _ _ _ us hl=>by obtain⟨_,_,_,_,rfl⟩:=FW hl;exact rfl) eG (λvs H Q E h=>by obtain⟨a,b,c,d,rfl,_⟩:=h;rfl) (λf cdv A outer s H vs Q E hr h=>?_);obtain⟨k,p,q',w',rfl,kp,le,p2,p9,q1,q6,w0,w1,o,q⟩:=h;have nd:=eG.nd;refine⟨_,(ae (bB (i:=4) nd (aF (aa (pv 1) (aa (pv 2) (aa (pv 3) af))))) (ae (cw (aS (zO (Ez (bT hr) (pv 4) (gE (pv 0) rfl))) (ai (bB (i:=5) nd (rM (bT hr) (gE (pv 0) rfl) (pv 4) ⟨rfl,rfl,rfl,rfl⟩))) (ae (bB (i:=5) nd (bN c_small_steps hr aB (aa (pv 1) (aa (pv 2) (aa (pv 3) af))))) (ai (bU (l8 c_Kept_add_steps cl_Kept (hr.mono (by decide)) aB (pv 0) (aa (aC dk rfl f' JG (aa (pv 5) af)) af))))))) (ae (fO (bT hr) (gE (pv 0) rfl) (pv 4) (pv 5) rfl) (ae (cw (aS (ay c7 (aC dk rfl f' JG (aa (gE (pv 0) rfl) af)) (gE (pv 0) rfl) (aA _)) (ai (bU (rM (bT hr) (gE (pv 0) rfl) (aG bz (hJ c_Kept_tables cl_Kept (hr.mono (by decide)) aB (pv 0)) ah (λ_ _=>rfl)) ⟨rfl,rfl,rfl,rfl⟩))) aD)) (ai (az (pv 5))))))),?_⟩;show bH _ _ _ [Io (.ref k.a),Io (.int p),Io (.int q'),Io (.int w'),none,none] H;k_data;refine⟨by show 3<=sizeLine;decide,λp1 hp1=>?_⟩;have s1:=aj (o:=.tup [V.int p,V.int q',V.int w']) hp1;have e1:upd H p1 (.tup [V.int p,V.int q',V.int w']) p1=Io (.tup ((k3 (p,q',w')).map kV)):=ag;have kp1:=kp.same s1;generalize upd H p1 _=H1 at *;obtain⟨kvs,kd⟩:=kp1.ex;generalize hx:((p,q',w'):Int × Int × Int)=x at *;refine⟨λσ' H'=>∃(t:Iy) (c':Int),σ'=[Io (.ref k.a),Io (.int p),Io (.int q'),Io (.int w'),Io (.ref p1),Io (.ref t)]/\c'=(jD k x).c/\H' k.a=Io (.ins C k.dx (D3 { k with c:=c' }))/\H' k.d=Io (.dT (bX kvs (k3 x)))/\H' t=Io (.dK (cU p w' (rt q'.toNat)))/\bV k.a k.d H1 H',?_,?_⟩
 ·k_data;refine⟨C,_,_,kp1.ins,cl_Kept,na_laid,_,rfl,k.d,rfl,_,dI.t kd.dict e1,?_⟩;refine aZ (λc=>?_) (λc=>?_)
  ·have mem:x∈k.ks:=kd.mem.mp c;have ec:(jD k x).c=k.c:=if_pos mem;obtain⟨v,hv⟩:=Mh.mp c;obtain⟨t,rfl,ht⟩:=kd.tab x v hv;subst hx;rw [ec];exact⟨C,_,_,kp1.ins,cl_Kept,na_laid,_,rfl,k.d,rfl,.inr ⟨_,.inl kd.dict⟩,kvs,kd.dict,_,e1,_,hv,t,rfl,by rw [ao kp1.ne];exact kp1.ins,ag,by rw [ao (kp1.apart ht (by intro _ _ _ z;cases z) (by intro _ z;cases z)).2];exact ht,bV.xj⟩
  ·have mem:x∉k.ks:=λz=>c (kd.mem.mpr z);have hv:cz kvs (k3 x)=none:=by
    cases e:cz kvs (k3 x) with
    | none=>rfl
    | some v=>rw [e] at c;exact absurd rfl c
   refine⟨p,q',w',rfl,p2,p9,q1,q6,w0,w1,o,λt H2 s2 ft ht=>⟨k.dx,D3 k,(kp1.same s2).ins,rfl,wj ht ⟨k,_,rfl,kp1.same s2,λH3 oth kp3=>⟨t,rfl,?_,?_,?_,λb u ba bd e=>?_⟩⟩⟩⟩
   ·have ec:(jD k x).c=k.c+((cU p w' (rt q'.toNat)).length:Int):=by rw [fU,<- hx];rw [<- hx] at mem;exact if_neg mem
    rw [ec];exact kp3.ins
   ·rw [oth _ (JC kp1.ne),vW hv];exact s2 _ _ kd.dict
   ·rw [oth _ (λz=>by rw [z,(kp1.same s2).ins] at ht;cases ht)];exact ht
   ·rw [oth _ ba];exact s2 _ _ e
 ·rintro σ' H2 ⟨t,c',rfl,ec,ia,hd,ht,b2⟩;k_data;have ap1:=kp1.apart e1 (by intro _ _ _ z;cases z) (by intro _ z;cases z);have kl:kvs.length<=10^6:=by have h1:=kd.len;have h2:(k.ks.length:Int)<=k.most:=le;have h3:=kp.m1;lia
  have tne:t≠k.d:=bI ht hd (by intro z;cases z);refine⟨C,_,_,ia,cl_Kept,na_laid,_,rfl,k.d,rfl,_,lj.t hd (b2 _ _ ap1.1 ap1.2 e1) ?_,?_⟩
  ·have:=qO kvs (k3 x);exact J3 (IJ this kl) (by decide)
  rw [rP _ (by rw [jE,if_pos rfl])];have nad:k.a≠k.d:=kp1.ne;have b4:bV k.a k.d H1 (upd H2 k.d (.dT (bX kvs (k3 x)++[(k3 x,.ref t)]))):=b2.trans bV.xj;have a4:upd H2 k.d (.dT (bX kvs (k3 x)++[(k3 x,.ref t)])) k.a=Io (.ins C k.dx (D3 { k with c:=c' })):=by rw [ao nad];exact ia
  have t4:upd H2 k.d (.dT (bX kvs (k3 x)++[(k3 x,.ref t)])) t=Io (.dK (cU p w' (rt q'.toNat))):=by rw [ao tne];exact ht
  have d4:upd H2 k.d (.dT (bX kvs (k3 x)++[(k3 x,.ref t)])) k.d=Io (.dT (bX kvs (k3 x)++[(k3 x,.ref t)])):=ag;generalize upd H2 k.d _=H4 at *;have kd4:=kd.use (H':=H4) (x:=x) (t:=t) (λy v ⟨t',e,z⟩=>⟨t',e,kp1.keep b4 z⟩) ⟨t,rfl,by rw [<- hx];exact t4⟩ d4;have kp4:bC C { k with c:=c',ks:=bD k.ks x } H4:=⟨a4,⟨_,kd4.dict,kd4.keys,kd4.nd,kd4.tab⟩,kp.m0,kp.m1⟩
  have l4:=kd4.len;refine⟨λσ' H'=>σ'=[Io (.ref k.a),Io (.int p),Io (.int q'),Io (.int w'),Io (.ref p1),Io (.ref t)]/\bC C (jD k x) H'/\bV k.a k.d H1 H'/\H' t=Io (.dK (cU p w' (rt q'.toNat))),?_,?_⟩
  ·k_data;refine⟨C,_,_,a4,cl_Kept,na_laid,_,rfl,Hi d4 ⟨C,_,_,a4,cl_Kept,na_most,_,rfl,_,rfl,k.most,rfl,aZ (λc=>?_) (λc=>?_)⟩⟩
   ·have c2:k.most<((bD k.ks x).length:Int):=by rw [<- show (bX kvs (k3 x)++[(k3 x,V.ref t)]).length=(bD k.ks x).length from l4];exact c
    generalize bX kvs (k3 x)++[(k3 x,V.ref t)]=kvs4 at *;obtain⟨q0,v0,r,rfl⟩:∃ q0 v0 r,kvs4=(q0,v0)::r:=by
     cases kvs4 with
     | nil=>have:=kp.m0;simp at c;lia
     | cons y r=>exact⟨y.1,y.2,r,rfl⟩
    refine⟨C,_,_,a4,cl_Kept,na_laid,_,rfl,k.d,rfl,.inr ⟨_,.inl d4⟩,k.dx,_,a4,rfl,{ k with c:=c',ks:=bD k.ks x },rfl,kp4,λpl bs H5 fpl s5 e5 hb=>?_⟩;obtain⟨b0,bs',rfl⟩:∃ b0 bs',bs=b0::bs':=by
     cases bs with
     | nil=>have h1:=hb.1;have h2:(0:Nat)=(bD k.ks x).length:=h1;have:=kp.m0;lia
     | cons y r=>exact⟨y,r,rfl⟩
    obtain⟨y,hy,hb0⟩:=hb.2 0 b0 rfl;have ey:q0=k3 y:=by have h1:(((q0,v0)::r).map (·.1))[0]?=((bD k.ks x).map k3)[0]?:=congrArg (·[0]?) kd4.keys;rw [ID (l:=bD k.ks x),show (bD k.ks x)[0]?=Io y from hy] at h1;exact JZ h1
    refine⟨pl,_,0,_,rfl,rfl,aJ.of e5,kE,_,s5 _ _ d4,_,b0,rfl,by rw [ey];exact s5 _ _ hb0,_,cG rfl,?_⟩;rw [drop_tail kd4.nodup];have hk:∀ b u,b≠k.d->H4 b=Io u->upd H5 k.d (.dT r) b=Io u:=λb u n e=>by rw [ao n];exact s5 _ _ e
    have cut:=kd4.cut hk ag;have ek:jD k x={ k with c:=c',ks:=(bD k.ks x).tail }:=by rw [ec];unfold jD fh;rw [if_pos c2]
    rw [ek];exact⟨⟨hk _ _ nad a4,⟨_,cut.dict,cut.keys,cut.nd,cut.tab⟩,kp.m0,kp.m1⟩,b4.trans λb u ba bd e=>hk b u bd e,hk _ _ tne t4⟩
   ·have c2:¬k.most<((bD k.ks x).length:Int):=by rw [<- show (bX kvs (k3 x)++[(k3 x,V.ref t)]).length=(bD k.ks x).length from l4];exact c
    have ek:jD k x={ k with c:=c',ks:=bD k.ks x }:=by rw [ec];unfold jD fh;rw [if_neg c2]
    rw [ek];exact⟨kp4,b4,t4⟩
  ·rintro σ' H5 ⟨rfl,kp5,b5,t5⟩;k_data;exact q t H5 kp5 ((bV.of s1).trans b5) t5
theorem xY {d m i:Nat} (m0:0<m) (h:i*m<=d) (h1:d-i*m<m):i=d/m/\d-i*m=d%m:=by
 have e:=MI d m;have hd:d/m=i:=by
  rw [Nat.div_eq_iff m0];constructor
  ·exact h
  ·lia
 refine⟨hd.symm,?_⟩;rw [hd,Ju] at e;lia
def oB:Sp:=λvs H Q _=>∃(p back c w:Int) (t:Iy) (q d:Nat),vs=[.int p,.ref t,.int back,.int c]/\2<=p/\p<=10^60/\Num.Ord p w q/\q<=10^6/\H t=Io (.dK (cU p w (rt q)))/\0<=back/\back<p/\Num.Al p (back*w^rt q) 1/\d<q/\c=w^d%p/\∀ r H',av H H'->H r=none->H' r=Io (.tup [.int (d/rt q:Nat),.int (d%rt q:Nat)])->Q (.ref r) H'
theorem kz:aw ["p","table","back","c","i","rest"] ["p","table","back","c"] (ak (top 44)):=dD
theorem tZ (D:ax K mg "steps_to" (top 44)):Callee P w K mg base aQ 1 "steps_to" ["p","table","back","c"] oB:=by
 refine cO D kz (λf cdv A outer s H vs Q E hr h=>?_);obtain⟨p,back,c,w',t,q',d,rfl,p2,p9,o,q6,ht,b0,b1,hb,dq,rfl,q⟩:=h;have nd:=kz.nd;refine⟨_,(ae (bB (i:=4) nd ah) (ae (bB (i:=5) nd (pv 3)) (ae (aV IQ (zO (wQ (bT hr) (pv 5) (pv 1))) (ae (bB (i:=5) nd (ar aH (ar aK (pv 5) (pv 2)) (pv 0))) (ai (eF (i:=4) nd rfl (Jf rfl) ah (gp gW))))) (ai (az (aF (aa (pv 4) (aa (bQ (bT hr) (pv 1) (pv 5) (λ_ _=>rfl)) af)))))))),?_⟩;show bH _ _ _ [Io (.int p),Io (.ref t),Io (.int back),Io (.int (w'^d%p)),none,none] H;k_data;have m0:=pU o.pos;have mq:=vi o.pos;generalize hm:rt q'=m at *;refine aW (α:=Nat) (λi=>[Io (.int p),Io (.ref t),Io (.int back),Io (.int (w'^d%p)),Io (.int (i:Int)),Io (.int (w'^(d-i*m)%p))]) (λi H1=>H1=H/\i*m<=d) (λi=>d+1-i) 0 (by rw [OE,Qf];rfl) ⟨rfl,by rw [OE];exact J4 _⟩ ?_;rintro i H1 ⟨rfl,hi⟩;replace hi:i*m<=d:=hi;have r0:=Jn (w'^(d-i*m)) (show p≠0 by lia);have r1:=Jg (w'^(d-i*m)) (show 0<p by lia);k_data;by_cases lt:d-i*m<m
 ·have hv:cz (cU p w' m) (Lv (w'^(d-i*m)%p))=Io (.int ((d-i*m:Nat):Int)):=As (λi j hi hj e=>o.jj (by lia) (by lia) e) _ lt;have dg:=dI.k (k:=Lv (w'^(d-i*m)%p)) ht;rw [hv] at dg;obtain⟨e1,e2⟩:=xY m0 hi lt;refine⟨_,dg,?_⟩;rw [if_neg (by simp)];refine⟨_,dg,⟨by show 2<=sizeLine;decide,λr hr'=>q r _ (aj hr') hr' ?_⟩⟩;rw [<- e1,<- e2];exact ag
 ·have hv:cz (cU p w' m) (Lv (w'^(d-i*m)%p))=none:=jB λj hj e=>by have:=o.jj (i:=j) (j:=d-i*m) (by lia) (by lia) e;lia
  have dg:=dI.k (k:=Lv (w'^(d-i*m)%p)) ht;rw [hv] at dg;refine⟨_,dg,?_⟩;rw [if_pos (by simp)];have i1:(i+1)*m<=d:=by rw [UM];lia
  have im:i<=d:=IJ (PZ i m0) hi;refine⟨_,λ_ _ z=>z,Bd.of (by lia) (by lia),Bd.of (by lia) (by lia),by lia,i+1,?_,rfl,i1,by show d+1-(i+1)<d+1-i;lia⟩;have e:w'^(d-i*m)%p*back%p=w'^(d-(i+1)*m)%p:=by
   have h1:d-i*m=(d-(i+1)*m)+m:=by rw [UM] at i1 ⊢;lia
   refine Num.Al.iff.mp ?_;have h2:=((Num.Al.rest p (w'^(d-i*m))).mul (Num.Al.refl p back))
   rw [h1,QV,JO,JM (w'^m) back] at h2;rw [h1,QV];have h3:=(Num.Al.refl p (w'^(d-(i+1)*m))).mul hb;rw [KP] at h3;exact h2.trans h3
  rw [e];rfl
def Aa (K:Iq):Sp:=λvs H Q _=>∃(q x n:Nat) (a:Iy),vs=[.int q,.ref a]/\0<q/\q<=10^60/\x%q^n<=10^60/\n<=1000/\H a=Io (.lst ((Num.cD x q n).map λd=>V.int (d:Nat)))/\∀ H',av H H'->Q (.int (x%q^n:Nat)) H'
theorem dU:aw ["q","row","number","digit"] ["q","row"] (ak (top 45)):=dD
theorem BG (D:ax K mg "number_of" (top 45)):Callee P w K mg base aQ 1 "number_of" ["q","row"] (Aa K):=by
 refine cO D dU (λf cdv A outer s H vs Q E hr h=>?_);obtain⟨q',x,n,a,rfl,q0,q9,x9,n9,ha,q⟩:=h;have nd:=dU.nd;refine⟨_,(ae (bB (i:=2) nd ah) (ae (b7 IQ rfl (bp (EB (pv 1) (fN (ma iR ah)))) (aq (i:=3) nd rfl (Jf rfl) (.inr rfl)) (ai (bB (i:=2) nd (ar bc (ar aK (pv 2) (pv 0)) (pv 3))))) (ai (az (pv 2))))),?_⟩;show bH _ _ _ [Io (.int (q':Int)),Io (.ref a),none,none] H;k_data;have dl:=Num.dJ (x:=x) (q:=q') (n:=n);refine⟨_,aJ.of ha,λp hp=>⟨⟨_,aJ.of ag⟩,?_⟩⟩;have s1:=aj (o:=.lst ((Num.cD x q' n).map λd:Nat=>V.int (d:Int)).reverse) hp;have e1:upd H p (.lst ((Num.cD x q' n).map λd:Nat=>V.int (d:Int)).reverse) p=Io (.lst ((Num.cD x q' n).map λd:Nat=>V.int (d:Int)).reverse):=ag;generalize upd H p _=H1 at *;refine fu (xs:=((Num.cD x q' n).map λd:Nat=>V.int (d:Int)).reverse) (λi σ' H'=>H'=H1/\∃ o3,σ'=[Io (.int (q':Int)),Io (.ref a),Io (.int ((x%q'^n/q'^(n-i):Nat):Int)),o3]) ⟨rfl,none,?_⟩ (λi σ' H' _ h=>by rw [h.1];exact aJ.of e1) ?_ ?_
 ·rw [Qf,Su (Nx _ (Ly q0))];rfl
 ·rintro i v σ' H' hv ⟨rfl,o3,rfl⟩;have hi:i<n:=by have:=(IB.mp hv).1;rw [Lj,Iu,dl] at this;exact this
  rw [QC (by rw [Iu,dl];exact hi),Iu,dl,ID,Num.oQ (by lia)] at hv;cases hv;have b1:x%q'^n/q'^(n-i)<=10^60:=IJ (Qp _ _) x9;have bd:Bd ((x%q'^n/q'^(n-i):Nat):Int):=by generalize x%q'^n/q'^(n-i)=z at b1;exact Bd.of (by lia) (by lia)
  k_data;refine⟨bd,Bd.of (by lia) (by lia),?_⟩;have e:=Num.rB (x:=x) (n:=n) q0 hi;rw [<- K1,<- MJ,e]
 ·rintro σ' H' ⟨rfl,o3,rfl⟩;rw [Lj,Iu,dl,R3,LO,Pz];k_data;exact q H' s1
def Ab (K:Iq):Sp:=λvs H Q _=>∃(q x n:Nat) (a:Iy),vs=[.int q,.ref a]/\0<q/\q<=10^60/\x%q^n<=10^60/\n<=1000/\bj K H a ((Num.cD x q n).map λd=>V.int (d:Nat))/\∀ H',av H H'->Q (.int (x%q^n:Nat)) H'
theorem BH (D:ax K mg "number_of" (top 45)):Callee P w K mg base aQ 1 "number_of" ["q","row"] (Ab K):=by
 refine cO D dU (λf cdv A outer s H vs Q E hr h=>?_);obtain⟨q',x,n,a,rfl,q0,q9,x9,n9,ha,q⟩:=h;have nd:=dU.nd;refine⟨_,(ae (bB (i:=2) nd ah) (ae (b7 IQ rfl (iL (BP (pv 1) (fN (ma iR ah)))) (aq (i:=3) nd rfl (Jf rfl) (.inr rfl)) (ai (bB (i:=2) nd (ar bc (ar aK (pv 2) (pv 0)) (pv 3))))) (ai (az (pv 2))))),?_⟩;show bH _ _ _ [Io (.int (q':Int)),Io (.ref a),none,none] H;unfold Dp;k_data;have dl:=Num.dJ (x:=x) (q:=q') (n:=n);refine⟨_,ha,λp hp=>⟨⟨_,bj.of ag⟩,?_⟩⟩;have s1:=aj (o:=.tup ((Num.cD x q' n).map λd:Nat=>V.int (d:Int)).reverse) hp;have e1:upd H p (.tup ((Num.cD x q' n).map λd:Nat=>V.int (d:Int)).reverse) p=Io (.tup ((Num.cD x q' n).map λd:Nat=>V.int (d:Int)).reverse):=ag;generalize upd H p _=H1 at *;refine lR (xs:=((Num.cD x q' n).map λd:Nat=>V.int (d:Int)).reverse) (λi σ' H'=>H'=H1/\∃ o3,σ'=[Io (.int (q':Int)),Io (.ref a),Io (.int ((x%q'^n/q'^(n-i):Nat):Int)),o3]) ⟨rfl,none,?_⟩ (λi σ' H' _ h=>by rw [h.1];exact bj.of e1) ?_ ?_
 ·rw [Qf,Su (Nx _ (Ly q0))];rfl
 ·rintro i v σ' H' hv ⟨rfl,o3,rfl⟩;have hi:i<n:=by have:=(IB.mp hv).1;rw [Lj,Iu,dl] at this;exact this
  rw [QC (by rw [Iu,dl];exact hi),Iu,dl,ID,Num.oQ (by lia)] at hv;cases hv;have b1:x%q'^n/q'^(n-i)<=10^60:=IJ (Qp _ _) x9;have bd:Bd ((x%q'^n/q'^(n-i):Nat):Int):=by generalize x%q'^n/q'^(n-i)=z at b1;exact Bd.of (by lia) (by lia)
  k_data;refine⟨bd,Bd.of (by lia) (by lia),?_⟩;have e:=Num.rB (x:=x) (n:=n) q0 hi;rw [<- K1,<- MJ,e]
 ·rintro σ' H' ⟨rfl,o3,rfl⟩;rw [Lj,Iu,dl,R3,LO,Pz];k_data;exact q H' s1
theorem yi {p b g:Int} (h:Num.Co b p) (G:Gd p b g):g=1:=by
 obtain⟨u,v,e⟩:=h;have g1:g∣1:=by rw [<- e];exact Lx (JA G.da) (JA G.dn)
 exact Int.eq_one_of_dvd_one (by have:=G.pos;lia) g1
theorem zK {C0:Iy} {p b:Int} {n:Nat} {H:Hp} {Q:VK} {E:XK} (p2:2<=p) (p9:p<=10^60) (co:Num.Co b p) (q:∀ r H',0<=r->r<p->Num.Al p (r*b^n) 1->av H H'->Q (.int r) H'):dW C0 [.int p,.int b,.int (-(n:Int))] H Q E:=by
 have r0:=λz:Int=>Jn z (show p≠0 by lia);have r1:=λz:Int=>Jg z (show 0<p by lia);refine⟨p,b,-(n:Int),rfl,by lia,by lia,λh H' s=>?_,λh g G=>⟨λ_ i H' i0 i1 i2 s=>?_,λz=>absurd z (by rw [yi co G];decide)⟩⟩
 ·have n0:n=0:=by lia
  subst n0;exact q _ H' (r0 _) (r1 _) (((Num.Al.rest p _).mul (Num.Al.refl p _)).trans (by rw [show (-((0:Nat):Int)).toNat=0 by decide,Jp];exact Num.Al.refl p _)) s
 ·rw [show (-(-(n:Int))).toNat=n by lia];refine q _ H' (r0 _) (r1 _) (((Num.Al.rest p _).mul (Num.Al.refl p _)).trans ?_) s;rw [<- Int.mul_pow];have:=Num.Al.pow (show Num.Al p (i*b) 1 from i2) n
  rwa [Pq] at this
theorem lz {k k':KH} {H H':Hp} {f:Iy} (kp:bC C k' H') (ea:k'.a=k.a) (ed:k'.d=k.d) (b:bV k.a k.d H H') (hf:H' f=none):H f=none:=by
 cases z:H f with
 | none=>rfl
 | some u =>
  by_cases c1:f=k.a
  ·rw [c1,<- ea,kp.ins] at hf;cases hf
  ·by_cases c2:f=k.d
   ·obtain⟨kvs,kd⟩:=kp.ex;rw [c2,<- ed,kd.dict] at hf;cases hf
   ·rw [b f u c1 c2 z] at hf;cases hf
theorem D9 {k:KH} {H:Hp} {f:Iy} {o o':HO} (kp:bC C k H) (h:H f=Io o) (h1:∀ C dx fs,o≠.ins C dx fs) (h2:∀ kvs,o≠.dT kvs) (h3:∀ kvs,o≠.dK kvs):bC C k (upd H f o'):=by obtain⟨na,nd⟩:=kp.apart h h1 h2;obtain⟨kvs,kd⟩:=kp.ex;refine⟨by rw [ao (JC na)];exact kp.ins,⟨kvs,by rw [ao (JC nd)];exact kd.dict,kd.keys,kd.nd,λx v e=>?_⟩,kp.m0,kp.m1⟩;obtain⟨t,e1,e2⟩:=kd.tab x v e;exact⟨t,e1,by rw [ao (bI e2 h (JC (h3 _)))];exact e2⟩
theorem bV.trans' {a d f:Iy} {H H':Hp} {o:HO} (b:bV a d H H') (hf:H f=none):bV a d H (upd H' f o):=λc u x y e=>by rw [ao (λz=>by rw [z,hf] at e;cases e)];exact b c u x y e
theorem Fz {k:KH}:iH k 0=k:=by unfold iH;rw [NL]
theorem FA {k:KH} {m n:Int}:iH (iH k m) n=iH k (m+n):=by unfold iH;rw [Ur]
noncomputable def stK (x q n:Nat):Int:=(((Num.cD x q n).map λd=>d/rt q+1).sum:Nat)
theorem sr {x q n:Nat}:stK x q (n+1)=stK x q n+((x/q^n%q/rt q:Nat)+1:Int):=by unfold stK;rw [Num.jN,IT,List.sum_append];simp
noncomputable def sZ (k:KH) (p b:Int) (e q x n:Nat):KH:=iH (jD k (p,(q:Int),b^(e/q)%p)) (stK x q n)
def sg (K:Iq) (C:Iy):Sp:=λvs H Q _=>∃(k:KH) (p b a:Int) (e q n x:Nat) (pt:Iy),vs=[.int p,.int b,.int a,.ref pt,.ref k.a]/\bj K H pt [.int e,.int q,.int n]/\bC C k H/\mZ k/\2<=p/\p<=10^60 /\ -(10^60)<=a/\a<=10^60/\Num.Ord p b e/\e<=10^60/\x<e/\Num.Al p a (b^x)/\1<=q/\q<=10^6/\1<=n/\n<=1000/\q^n∣e /\
 ∀ t H',bC C (sZ k p b e q x n) H'->bV k.a k.d H H'->H t=none->H' t=Io (.tup ((Num.cD x q n).map λd=>V.int (d:Nat)))->Q (.ref t) H'
theorem nY:aw ["p","b","a","part","keeper","e","q","many","w","table","back","found","left","turn","c","i","j"] ["p","b","a","part","keeper"] (ak (top 43)):=dD
theorem wy {C0:Iy} (D:ax K mg "digits" (top 43)) (cl_Kept:mK K C) (D':Callee P w K mg base (cZ P w) 4 "power" ["n","a","e"] (dW C0)) (c_inverse:Callee P w K mg base (cZ P w) 3 "inverse" ["n","a"] (h8 C0)) (c_Kept_used_table:bw P w K mg base aQ 2 C "used_table" ["self","p","q","w"] (Ae C)) (c_Kept_add_steps:bw P w K mg base aQ 1 C "add_steps" ["self","many"] (z6 C)) (c_number_of:Callee P w K mg base aQ 1 "number_of" ["q","row"] (Aa K)) (c_steps_to:Callee P w K mg base aQ 1 "steps_to" ["p","table","back","c"] oB) (f':mg "len"=none) (B':mg "range"=none) (A':mg "tuple"=none):Callee P w K mg base aQ 5 "digits" ["p","b","a","part","keeper"] (sg K C):=by
 refine cO D nY (λf cdv A outer s H vs Q E hr h=>?_);obtain⟨k,p,b,a,e,q',n,x,pt,rfl,hpt,kp,le,p2,p9,a0,a1,o,e9,xe,al,q1,q6,n1,n9,dv,q⟩:=h;have nd:=nY.nd;refine⟨_,(ae (eC (pv 3) (bZ (n:=3) rfl (au (aq (i:=5) nd rfl (Jf rfl) (.inr rfl)) (au (aq (i:=6) nd rfl (Jf rfl) (.inr rfl)) (au (aq (i:=7) nd rfl (Jf rfl) (.inr rfl)) aO))))) (ae (bB (i:=8) nd (bN D' hr aI (aa (pv 0) (aa (pv 1) (aa (ar bA (pv 5) (pv 6)) af))))) (ae (bB (i:=9) nd (l8 c_Kept_used_table cl_Kept (hr.mono (by decide)) aB (pv 4) (aa (pv 0) (aa (pv 6) (aa (pv 8) af))))) (ae (bB (i:=10) nd (bN c_inverse hr aI (aa (pv 0) (aa (bN D' hr aI (aa (pv 0) (aa (pv 8) (aa (aC dk rfl f' JG (aa (pv 9) af)) af)))) af)))) (ae (bB (i:=11) nd (fM af)) (ae (bB (i:=12) nd (pv 5)) (ae (b7 IQ rfl (dZ rfl B' (aa (pv 7) af)) (aq (i:=13) nd rfl (Jf rfl) (.inr rfl)) (ae (eF (i:=12) nd rfl (Jf rfl) (pv 6) (gp lM)) (ae (bB (i:=14) nd (bN D' hr aI (aa (pv 0) (aa (ar aK (pv 2) (bN D' hr aI (aa (pv 0) (aa (pv 1) (aa (ma iR (bN c_number_of hr aB (aa (pv 6) (aa (pv 11) af)))) af))))) (aa (pv 12) af))))) (ae (eC (bN c_steps_to hr aB (aa (pv 0) (aa (pv 9) (aa (pv 10) (aa (pv 14) af))))) (bZ (n:=2) rfl (au (aq (i:=15) nd rfl (Jf rfl) (.inr rfl)) (au (aq (i:=16) nd rfl (Jf rfl) (.inr rfl)) aO)))) (ae (bU (l8 c_Kept_add_steps cl_Kept (hr.mono (by decide)) aB (pv 4) (aa (ar bc (pv 15) ah) af))) (ai (bU (iu JY Kv PySem.F.type_list_append dA (pv 11) (aa (ar bc (ar aK (pv 15) (aC dk rfl f' JG (aa (pv 9) af))) (pv 16)) af))))))))) (ai (az (cI bS rfl A' L2.boot_tuple (aa (pv 11) af))))))))))),?_⟩;show bH _ _ _ [Io (.int p),Io (.int b),Io (.int a),Io (.ref pt),Io (.ref k.a),none,none,none,none,none,none,none,none,none,none,none,none] H;k_data;refine⟨pt,_,rfl,hpt,rfl,?_⟩;k_data;have o0:=o.pos;have qe:q'∣e:=Lw (by obtain⟨m,rfl⟩:∃ m,n=m+1:=⟨n-1,by lia⟩;exact⟨q'^m,by rw [JX,Ju]⟩) dv;have em:=λz:Int=>Jn z (show p≠0 by lia);have el:=λz:Int=>Jg z (show 0<p by lia);refine⟨by lia,Bd.of (by lia) (by lia),p,b,_,rfl,by lia,by lia,λ_ H1 s1=>?_,λz=>absurd z (by have:=L5 (a:=(e:Int)) (b:=(q':Int)) (by lia) (by lia);lia)⟩;have ew:((e:Int)/(q':Int)).toNat=e/q':=by rw [<- Lu];rfl
 rw [ew];have ow:Num.Ord p (b^(e/q')%p) q':=Num.uc (Num.Al.rest p _).symm (Num.uZ o qe);have hw:Num.Al p (b^(e/q')%p) (b^(e/q')):=Num.Al.rest p _;have w0:=em (b^(e/q'));have w1:=el (b^(e/q'));unfold sZ at q;generalize b^(e/q')%p=w' at *;have kp1:=kp.same s1;refine⟨k.dx,_,kp1.ins,rfl,k,p,q',w',rfl,kp1,le,p2,p9,by lia,by lia,w0,w1,by rw [IX];exact ow,λt H2 pB b2 ht=>wj ht ?_⟩;rw [IX] at ht;rw [fU,IX];have mq:=vi (q:=q') (by lia);have m0:=pU (q:=q') (by lia);have m6:=B3 q6;refine⟨p,w',_,rfl,by lia,by lia,λ_ H3 s3=>?_,λz=>absurd z (by lia)⟩;rw [IX];have cow:Num.Co (w'^rt q'%p) p:=(ow.co.pow _).yS (Num.Al.rest p _).symm;refine⟨p,_,rfl,by lia,by lia,λg G=>⟨λ_ bk H4 bk0 bk1 bk2 s4=>?_,λz=>absurd z (by rw [yi cow G];decide)⟩⟩;have hbk:Num.Al p (bk*w'^rt q') 1:=((Num.Al.refl p bk).mul (Num.Al.rest p _)).symm.trans bk2;refine⟨by decide,λfo hfo=>⟨by lia,by lia,?_⟩⟩;have S4:=s3.trans s4;have s5:=aj (o:=.lst ([]:List V)) hfo;have e5:upd H4 fo (.lst ([]:List V)) fo=Io (.lst ((Num.cD x q' 0).map λd:Nat=>V.int (d:Int))):=ag;have ffo:H fo=none:=lz (pB.same S4) rfl rfl ((bV.of s1).trans (b2.trans (bV.of S4))) hfo;have kp5:=(pB.same S4).same s5;have t5:=s5 _ _ (S4 _ _ ht);have b5:bV k.a k.d H (upd H4 fo (.lst ([]:List V))):=(bV.of s1).trans (b2.trans (bV.of (S4.trans s5)));generalize upd H4 fo (.lst ([]:List V))=H5 at *;refine cT (λi σ' H'=>bC C (iH (jD k (p,(q':Int),w')) (stK x q' i)) H'/\bV k.a k.d H H'/\H' fo=Io (.lst ((Num.cD x q' i).map λd:Nat=>V.int (d:Int)))/\H' t=Io (.dK (cU p w' (rt q')))/\∃ o1 o2 o3 o4,σ'=[Io (.int p),Io (.int b),Io (.int a),Io (.ref pt),Io (.ref k.a),Io (.int (e:Int)),Io (.int (q':Int)),Io (.int (n:Int)),Io (.int w'),Io (.ref t),Io (.int bk),Io (.ref fo),Io (.int ((e/q'^i:Nat):Int)),o1,o2,o3,o4]) ⟨?_,b5,e5,t5,none,none,none,none,by rw [LO,Pz]⟩ ?_ ?_
 ·show bC C (iH _ 0) H5;rw [Fz];exact kp5
 ·rintro i σ' H6 hi ⟨kp6,b6,e6,t6,o1,o2,o3,o4,rfl⟩;k_data;have xq:x%q'^i<=10^60:=IJ (TC _ _) (by lia);refine⟨by lia,Bd.of (by lia) (by lia),q',x,i,fo,rfl,by lia,by lia,xq,by lia,e6,λH7 s7=>⟨_,rfl,?_⟩⟩;refine zK p2 p9 o.co λr H8 r0 r1 hr' s8=>⟨_,rfl,Bd.of (by lia) (by lia),Bd.of (by lia) (by lia),?_⟩
  have el1:((e/q'^i:Nat):Int)/(q':Int)=((e/q'^(i+1):Nat):Int):=by rw [JX,<- MG,Lu (e/q'^i)]
  rw [el1];refine⟨p,_,_,rfl,by lia,by lia,λ_ H9 s9=>?_,λz=>absurd z (Int.not_lt.mpr (Int.natCast_nonneg _))⟩;rw [IX];have dq:q'^(i+1)∣e:=Lw (Qq q' hi) dv;have key:=Num.Al.iff.mp (Num.xX o dq al hr' hw);rw [key];have S9:=(s7.trans s8).trans s9;have d0:x/q'^i%q'<q':=Nx _ (by lia);refine⟨p,bk,_,w',t,q',x/q'^i%q',rfl,p2,p9,ow,q6,S9 _ _ t6,bk0,bk1,hbk,d0,rfl,λrr H10 s10 frr hrr=>⟨rr,_,rfl,bj.of hrr,rfl,?_⟩⟩;k_data;have kp10:=(kp6.same S9).same s10;have e10:=s10 _ _ (S9 _ _ e6);have t10:=s10 _ _ (S9 _ _ t6);have b10:=b6.trans (bV.of (S9.trans s10));refine⟨_,_,kp10.ins,rfl,iH (jD k (p,(q':Int),w')) (stK x q' i),_,rfl,kp10,λH11 oth kp11=>?_⟩;have nfo:fo≠k.a:=(kp10.apart e10 (by intro _ _ _ z;cases z) (by intro _ z;cases z)).1;have nfd:fo≠k.d:=(kp10.apart e10 (by intro _ _ _ z;cases z) (by intro _ z;cases z)).2;have ntf:t≠fo:=bI t10 e10 (by intro z;cases z);have nta:t≠k.a:=(kp10.apart t10 (by intro _ _ _ z;cases z) (by intro _ z;cases z)).1;have e11:=(oth fo nfo).trans e10;have t11:=(oth t nta).trans t10;have b11:bV k.a k.d H H11:=b10.trans λb u ba _ e=>by rw [oth b ba];exact e
  rw [FA,<- sr] at kp11;have dl:=Num.dJ (x:=x) (q:=q') (n:=i);have dd:((x/q'^i%q' / rt q':Nat):Int)*((rt q':Nat):Int)+((x/q'^i%q'%rt q':Nat):Int)=((x/q'^i%q':Nat):Int):=by rw [<- K1,<- MJ,Sn]
  have db:Bd ((x/q'^i%q' / rt q':Nat):Int):=by have h1:x/q'^i%q' / rt q'<=x/q'^i%q':=Qp _ _;generalize x/q'^i%q' / rt q'=z at h1;generalize x/q'^i%q'=z' at h1 d0;exact Bd.of (by lia) (by lia)
  refine⟨.inl ⟨rfl,_,aJ.of e11⟩,wj t11 ⟨_,rfl,db,by rw [fU];exact Bd.of (by lia) (by lia),fo,_,_,rfl,rfl,e11,by rw [Iu,dl];exact ou (by lia),?_⟩⟩;rw [fU,dd];refine⟨D9 kp11 e11 (by intro _ _ _ z;cases z) (by intro _ z;cases z) (by intro _ z;cases z),bV.trans' b11 ffo,?_,by rw [ao ntf];exact t11⟩;rw [ag,Num.jN,IT];rfl
 ·rintro σ' H6 ⟨kp6,b6,e6,t6,o1,o2,o3,o4,rfl⟩;k_data;refine⟨_,.inl ⟨aJ.of e6,λl hl=>q l _ (kp6.same (aj hl)) (b6.trans (bV.of (aj hl))) (lz kp6 rfl rfl b6 hl) ag⟩⟩
theorem sF {x y:V} {r:List V}:uE (x::y::r) 1=Io y:=by unfold uE xt;simp;rw [if_pos (by lia)];rfl
def Ia (row:IL) (y:Int × Int):Prop:=∃ ds r,row=.tuple (.tuple (.int y.1::ds)::.int y.2::r)
def sI (rows:List IL) (ps:List (Int × Int)):Prop:=rows.length=ps.length/\∀(i:Nat) (row:IL),rows[i]?=Io row->∃ y,ps[i]?=Io y/\Ia row y
def vt (K:Iq):Sp:=λvs H Q _=>∃(v:V) (rows:List IL) (ps:List (Int × Int)),vs=[v]/\dv K H (.tuple rows) v/\sI rows ps/\rows.length<=10^6/\∀ p us H',av H H'->H p=none->H' p=Io (.lst us)->aE K H' (ps.map eB) us->Q (.ref p) H'
theorem DT {H:Hp} {rows:List IL} {ps:List (Int × Int)} {xs:List V} (hd:aE K H rows xs) (h:sI rows ps) {i:Nat} {x:V} (hx:xs[i]?=Io x):∃ q k pt pq r r',ps[i]?=Io (q,k)/\x=.ref pt/\bj K H pt (.ref pq::.int k::r')/\bj K H pq (.int q::r):=by obtain⟨d,hd',hv⟩:=hd.get hx;obtain⟨⟨q,k⟩,hy,ds,r0,rfl⟩:=h.2 i d hd';obtain⟨pt,ys,rfl,h1,x1,r1,rfl,e1,x2,r2,rfl,e2,_⟩:=hv;obtain⟨pq,zs,rfl,h2,y1,r3,rfl,f1,f2⟩:=e1;cases f1;cases e2;exact⟨q,k,pt,pq,r3,r2,hy,rfl,h1,h2⟩
theorem y7 (D:ax K mg "parting_in" (top 19)):Callee P w K mg base aQ 1 "parting_in" ["parts"] (vt K):=by
 refine cO D cq (λf cdv A outer s H vs Q E hr h=>?_);obtain⟨v,rows,ps,rfl,hd,hh,h6,q⟩:=h;have nd:=cq.nd;refine⟨_,(ai (az (fz rfl (lD (N':=["row"]) (js:=[none]) rfl rfl) (iL (pv 0)) (λ_ _ _ _=>(aq (i:=0) (show JJ [("row":Jb)] from by decide +kernel) rfl (Jf rfl) (.inr rfl))) (λ_ _ _ _=>aR) (λ_ _ _ _=>(aF (aa (aG (bL K rfl) (aG (bL K rfl) (pv 0) ah (λ_ _=>rfl)) ah (λ_ _=>rfl)) (aa (aG (bL K rfl) (pv 0) ah (λ_ _=>rfl)) af))))))),?_⟩;show kL _ _ [Io v] H;obtain⟨p,xs,rfl,hS,ht⟩:=hd;have xl:=ht.length;have rl:=hh.1;k_data;refine⟨⟨_,hS⟩,?_⟩;refine gU (xs:=xs) (λi zs H3=>av H H3/\aE K H3 ((ps.take i).map eB) zs) ⟨av.refl _,rfl⟩ (IJ (by lia) (show 10^6<=sizeLine by decide)) (λi zs H3 hi ⟨e1,e2⟩=>⟨hS.same e1,by rw [e2.length,Iu,JE];lia⟩) ?_ ?_
 ·rintro i x zs H3 hx ⟨s3,hz⟩;obtain⟨q',k',pt,pq,r,r',hy,rfl,t1,t2⟩:=DT ht hh hx;show cn 0 _ [none] _ _;k_data;refine⟨True.intro,bM (t1.same s3) kE (bM (t2.same s3) kE (bM (t1.same s3) sF ⟨by show 2<=sizeLine;decide,λp4 hp4=>?_⟩))⟩;have s4:=aj (o:=.tup [V.int q',V.int k']) hp4;refine⟨s3.trans s4,?_⟩;rw [Jv,hy,IT];exact aE.append (aE.same s4 _ hz) (.one (dv.tup ag ⟨_,_,rfl,rfl,.one rfl⟩))
 ·rintro zs H3 p3 ⟨s3,hz⟩ hp3;rw [show xs.length=ps.length by lia,JI] at hz;exact q p3 zs _ (s3.trans (aj hp3)) (s3.free hp3) ag (aE.same (aj hp3) _ hz)
def z8 (K:Iq) (CF:Iy):Sp:=λvs H Q E=>∃(a:Iy) (ns:List Int),vs=[.ref a]/\aJ K H a (ns.map V.int)/\ns.length<=10^6/\((∀ n∈ns,n<=10^6)->Q .non H)/\(∀ m∈ns,(∀ n∈ns,n<=m)->10^6<m->AL CF "part" (.int m) H E)
theorem iE:aw ["primes"] ["primes"] (ak (top 41)):=dD
theorem El {CF:Iy} (D:ax K mg "refuse_far" (top 41)) (x_TooFar:qz P w K mg base "TooFar" CF "part") (g_FARTHEST:∃ t,mg "FARTHEST"=Io (.int 1000000 t)) (n_max:mg "max"=none):Callee P w K mg base (cZ P w) 3 "refuse_far" ["primes"] (z8 K CF):=by
 refine cX D iE (λf cdv A outer s H vs Q E hr h=>?_);obtain⟨a,ns,rfl,hS,n6,q1,q2⟩:=h;obtain⟨gt,g_FARTHEST⟩:=g_FARTHEST;have nd:=iE.nd;refine⟨_,(ai (aS (PW.pt (pR (b8 (pv 0) (λ_=>rfl)) (pS (ay c7 (aC (nk rfl) rfl n_max L2.boot_max (aa (pv 0) af)) (pN (v:=.int 1000000) rfl g_FARTHEST ⟨_,rfl⟩) (aA _))))) (ai (cP (mf x_TooFar (hr.mono (by decide)) rfl (aa (aC (nk rfl) rfl n_max L2.boot_max (aa (pv 0) af)) af)))) aD)),?_⟩;show EU _ _ _ _ [Io (.ref a)] H;k_data;refine⟨!(ns.map V.int).isEmpty,.inl ⟨_,hS,rfl⟩,aZ (λc=>?_) (λc=>?_)⟩
 ·have ne:ns≠[]:=λz=>by rw [z] at c;cases c
  refine⟨a,ns,rfl,hS,ne,λm hm hM=>⟨m,rfl,aZ (λc1=>⟨a,ns,rfl,hS,ne,λm' hm' hM' x dx hx hdx nx=>?_⟩) (λc1=>q1 λn hn=>by have:=hM n hn;lia)⟩⟩;have:m'=m:=by have h1:=hM m' hm';have h2:=hM' m hm;lia
  subst this;exact jP x_TooFar.cls (av.refl _) hx hdx nx (q2 m' hm hM (by lia))
 ·refine q1 λn hn=>?_;cases ns with
  | nil=>cases hn
  | cons y r=>exact absurd rfl c
end
end K
namespace L2
open PySem PySem.Spec PyProof.Rows
theorem sR {X:Cx} (K:Iq) (h:X.K=K):dQ X (.builtin "len") (BY K):=h▸aX
end L2
namespace K
open PySem PySem.Spec PyProof.Rows L2
section
variable {P:IM} {w:Jo} {K:Iq} {mg:Jb->Option Ir} {base:JD} {C:Iy}
structure DC (e:Nat) (ps:List (Int × Int)):Prop where
 ok:∀ y∈ps,Num.Pm y.1/\y.1<=10^6/\1<=y.2/\y.2<=1000
 ne:ps.Pairwise (λx y=>x.1≠y.1)
 eq:Num.eN ps=e
 len:ps.length<=12
theorem iI:∀{ps:List (Int × Int)} {y:Int × Int},y∈ps->y.1.toNat^y.2.toNat∣Num.eN ps
 | p::r,y,h=>by
  show _∣p.1.toNat^p.2.toNat*Num.eN r;rcases IU.mp h with rfl | h
  ·exact Nat.dvd_mul_right _ _
  ·exact Lw (iI h) (Nat.dvd_mul_left _ _)
theorem yb {z:Nat}:∀{ps:List (Int × Int)},(∀ y∈ps,Num.Pm y.1)->ps.Pairwise (λx y=>x.1≠y.1)->(∀ y∈ps,y.1.toNat^y.2.toNat∣z)->Num.eN ps∣z
 | [],_,_,_=>QM _
 | p::r,h,ne,hd=>by
  show p.1.toNat^p.2.toNat*Num.eN r∣z;obtain⟨n1,n2⟩:=Kq.mp ne;have co:=Num.uK (b:=r) (λy hy=>h y (IG _ hy)) [p] (λy hy=>by rw [IW.mp hy];exact h p (IH ..)) λx hx y hy=>by rw [IW.mp hx];exact (n1 y hy).symm
  have e1:Num.eN [p]=p.1.toNat^p.2.toNat:=Lk _;rw [e1] at co;exact co.mul_dvd_of_dvd_of_dvd (hd p (IH ..)) (yb (λy hy=>h y (IG _ hy)) n2 λy hy=>hd y (IG _ hy))
noncomputable def xu (x:Nat) (y:Int × Int):Int × Int:=(((y.1.toNat^y.2.toNat:Nat):Int),((x%y.1.toNat^y.2.toNat:Nat):Int))
theorem ug {x:Nat} {y:Int × Int}:(xu x y).1∣(x:Int)-(xu x y).2:=by show ((y.1.toNat^y.2.toNat:Nat):Int)∣(x:Int)-((x%y.1.toNat^y.2.toNat:Nat):Int);have h:=MI x (y.1.toNat^y.2.toNat);refine⟨((x/y.1.toNat^y.2.toNat:Nat):Int),?_⟩;rw [<- K1];lia
theorem Cn {e x:Nat} {ps:List (Int × Int)} (h:DC e ps) (hx:x<e):Crt.Told (ps.map (xu x)) e x where
 pos:=by lia
 x0:=by lia
 x1:=by lia
 dv:=λp hp=>by obtain⟨y,hy,rfl⟩:=IV.mp hp;rw [<- h.eq];exact JF.mpr (iI hy)
 le:=λz hz=>by rw [<- h.eq];refine Rz.mpr (yb (λy hy=>(h.ok y hy).1) h.ne λy hy=>?_);exact Rz.mp (hz _ (IV.mpr ⟨y,hy,rfl⟩))
 al:=λp hp=>by obtain⟨y,hy,rfl⟩:=IV.mp hp;exact ug
theorem yP {x:Nat} {ps:List (Int × Int)} {i j:Nat}:¬Ap (ps.map (xu x)) i j:=fun⟨p,q,g,e1,e2,G,nd⟩=>by rw [ID] at e1 e2;obtain⟨y,_,rfl⟩:=IE.mp e1;obtain⟨y',_,rfl⟩:=IE.mp e2;have h1:=Mj G.da (ug (x:=x) (y:=y));have h2:=Mj G.db (ug (x:=x) (y:=y'));have:=Og h2 h1;rw [show (x:Int)-(xu x y').2-((x:Int)-(xu x y).2)=(xu x y).2-(xu x y').2 by lia] at this;exact nd this
noncomputable def w6 (x:Nat) (y:Int × Int):IL:=.tuple [.int y.1,.tuple (((Num.cD x y.1.toNat y.2.toNat).map λd:Nat=>(d:Int)).map N8)]
theorem yO:∀ ns:List Int,dP (ns.map N8)=true:=cF λ_=>rfl
theorem lX {x:Nat} {y:Int × Int}:kX (w6 x y)=true:=by show dP [.int y.1,.tuple (((Num.cD x y.1.toNat y.2.toNat).map λd:Nat=>(d:Int)).map N8)]=true;have:=yO ((Num.cD x y.1.toNat y.2.toNat).map λd:Nat=>(d:Int));show (true && (dP (((Num.cD x y.1.toNat y.2.toNat).map λd:Nat=>(d:Int)).map N8) && true))=true;rw [this];rfl
noncomputable def dF (k:KH) (p b:Int) (e x:Nat) (ps:List (Int × Int)):KH:=ps.foldl (λk y=>sZ k p b e y.1.toNat x y.2.toNat) k
theorem lL {H:Hp}:∀{ns:List Int} {ds:List V},aE K H (ns.map N8) ds->ds=ns.map V.int
 | [],_,h=>h
 | n::ns,_,⟨x,r,e,h,t⟩=>by subst e;rw [lL t,show x=V.int n from h];rfl
theorem jx {p b:Int} {e x:Nat}:∀(ps:List (Int × Int)) (k:KH),(dF k p b e x ps).a=k.a/\(dF k p b e x ps).d=k.d/\(dF k p b e x ps).most=k.most
 | [],k=>⟨rfl,rfl,rfl⟩
 | y::r,k=>jx r (sZ k p b e y.1.toNat x y.2.toNat)
theorem jZ {k:KH} {p b:Int} {e x:Nat} {ps:List (Int × Int)} {y:Int × Int}:dF k p b e x (ps++[y])=sZ (dF k p b e x ps) p b e y.1.toNat x y.2.toNat:=by unfold dF;rw [Py];rfl
def jJ (C:Iy) (ko:Option KH) (v:V) (H:Hp):Prop:=match ko with
 | none=>v=.non
 | some k=>v=.ref k.a/\bC C k H/\mZ k
def br (C:Iy) (ko:Option KH) (f:KH->KH) (H H':Hp):Prop:=match ko with
 | none=>av H H'
 | some k=>bV k.a k.d H H'/\bC C (f k) H'/\mZ (f k)
noncomputable def kK (x e:Nat) (ps:List (Int × Int)):IL:=.tuple [.int x,.tuple [.str "is",.int e,.tuple (ps.map (w6 x))]]
def mG (K:Iq) (C:Iy):Sp:=λvs H Q _=>∃(p b a:Int) (e x:Nat) (vo vk:V) (rows:List IL) (ps:List (Int × Int)) (ko:Option KH),vs=[.int p,.int b,.int a,vo,vk]/\dv K H (.tuple [.int e,.tuple rows]) vo/\sI rows ps/\DC e ps/\jJ C ko vk H/\2<=p/\p<=10^60 /\ -(10^60)<=a/\a<=10^60/\Num.Ord p b e/\e<=10^18/\x<e/\Num.Al p a (b^x) /\
 ∀ u H',br C ko (λk=>dF k p b e x ps) H H'->dv K H' (kK x e ps) u->Q u H'
def HX (K:Iq) (C:Iy) (k:KH) (p b:Int) (e x:Nat) (ps:List (Int × Int)) (H1:Hp) (i:Nat) (zs:List V) (H3:Hp):Prop:=bV k.a k.d H1 H3/\bC C (dF k p b e x (ps.take i)) H3/\mZ (dF k p b e x (ps.take i))/\aE K H3 ((ps.take i).map (w6 x)) zs
theorem oh:aw ["p","b","a","order_paper","kept","e","parts","keeper","rows","places"] ["p","b","a","order_paper","kept"] (ak (top 42)):=dD
theorem wK (D:ax K mg "sought" (top 42)) (cl_Kept:mK K C) (o_Kept:DA K mg "Kept" C) (c_Kept___init__:bw P w K mg base aQ 1 C "__init__" ["self","most"] (k8 C)) (c_digits:Callee P w K mg base aQ 5 "digits" ["p","b","a","part","keeper"] (sg K C)) (c_parting_inG:Callee P w K mg base aQ 1 "parting_in" ["parts"] (vt K)) (c_whole_of:Callee P w K mg base aQ 1 "whole_of" ["parting"] (qh K)) (c_number_ofT:Callee P w K mg base aQ 1 "number_of" ["q","row"] (Ab K)) (c_put_together:Callee P w K mg base aQ 5 "put_together" ["places"] (Ad K)) (f':mg "len"=none) (A':mg "tuple"=none):Callee P w K mg base aQ 6 "sought" ["p","b","a","order_paper","kept"] (mG K C):=by
 refine cO D oh (λf cdv A outer s H vs Q E hr h=>?_);obtain⟨p,b,a,e,x,vo,vk,rows,ps,ko,rfl,hvo,hds,oR,pre,p2,p9,a0,a1,o,e18,xe,al,q⟩:=h;have nd:=oh.nd;refine⟨_,(ae (eC (pv 3) (bZ (n:=2) rfl (au (aq (i:=5) nd rfl (N6 rfl) (.inl rfl)) (au (aq (i:=6) nd rfl (Jf rfl) (.inr rfl)) aO)))) (ae (cw (fP (i:=7) nd rfl (N6 rfl) (jf (ay ub (pv 4) dB (aA _)) (rN o_Kept c_Kept___init__ (hr.mono (by decide)) rfl aB (aa ah af)) (pv 4)))) (ae (bB (i:=8) nd (cI bS rfl A' L2.boot_tuple (aa (fz rfl (lD (N':=["q","many","p","b","a","keeper","e"]) (js:=[none,none,Io 0,Io 1,Io 2,Io 7,Io 5]) rfl rfl) (bp (bN c_parting_inG hr aB (aa (pv 6) af))) (λ_ _ _ _=>(c8 K rfl (n:=2) rfl (au (aq (i:=0) (show JJ [("q":Jb),("many":Jb),("p":Jb),("b":Jb),("a":Jb),("keeper":Jb),("e":Jb)] from by decide +kernel) rfl (Jf rfl) (.inr rfl)) (au (aq (i:=1) (show JJ [("q":Jb),("many":Jb),("p":Jb),("b":Jb),("a":Jb),("keeper":Jb),("e":Jb)] from by decide +kernel) rfl (Jf rfl) (.inr rfl)) aO)))) (λ_ _ _ _=>aR) (λ_ _ _ _=>(aF (aa (pv 0) (aa (bN c_digits hr aB (aa (pv 2) (aa (pv 3) (aa (pv 4) (aa (aF (aa (pv 6) (aa (pv 0) (aa (pv 1) af)))) (aa (pv 5) af)))))) af))))) af))) (ae (eU (i0:=9) nd rfl (Jf rfl) rfl (lD (N':=["q","row"]) (js:=[none,none]) rfl rfl) (iL (pv 8)) (λ_ _ _ _=>(c8 K rfl (n:=2) rfl (au (aq (i:=0) (show JJ [("q":Jb),("row":Jb)] from by decide +kernel) rfl (Jf rfl) (.inr rfl)) (au (aq (i:=1) (show JJ [("q":Jb),("row":Jb)] from by decide +kernel) rfl (Jf rfl) (.inr rfl)) aO)))) (λ_ _ _ _=>aR) (λ_ _ _ _=>(aF (aa (bN c_whole_of hr aB (aa (fM (aa (aF (aa (pv 0) (aa (aC (sR K rfl) rfl f' JG (aa (pv 1) af)) af))) af)) af)) (aa (bN c_number_ofT hr aB (aa (pv 0) (aa (pv 1) af))) af)))) (by rfl) (by first | exact .inl rfl | exact .inr rfl)) (ai (az (aF (aa (aG a9 (bN c_put_together hr aB (aa (pv 9) af)) ah (λ_ _=>rfl)) (aa (aF (aa aM (aa (pv 5) (aa (pv 8) af)))) af))))))))),?_⟩;show bH _ _ _ [Io (.int p),Io (.int b),Io (.int a),Io vo,Io vk,none,none,none,none,none] H;obtain⟨po,ys,rfl,hSo,ve,r1,rfl,h1,vr,r2,rfl,hvr,z⟩:=hvo;cases z;cases h1;k_data;refine⟨po,_,rfl,hSo,rfl,?_⟩;k_data;refine⟨λσ' H'=>∃ k:KH,σ'=[Io (.int p),Io (.int b),Io (.int a),Io (.ref po),Io vk,Io (.int (e:Int)),Io vr,Io (.ref k.a),none,none]/\bC C k H'/\mZ k/\av H H'/\∀ H2,bV k.a k.d H' H2->bC C (dF k p b e x ps) H2->mZ (dF k p b e x ps)->br C ko (λk=>dF k p b e x ps) H H2,?_,?_⟩
 ·k_data;cases ko with
  | none =>
   have EE:vk=.non:=pre;rw [if_pos EE];intro x' dx hx hdx ne;have S:av H (upd (upd H dx (.own x')) x' (.ins C dx [])):=(aj hdx).upd hx;refine⟨x',dx,1,rfl,ag,by decide,by decide,λd H2 keep ndx fd kp=>?_⟩;have S2:av H H2:=λb o eb=>keep b o (λz=>by rw [z,hx] at eb;cases eb) (S b o eb);have hd:H d=none:=by
    rw [ao ndx] at fd;by_cases z:d=dx
    ·rw [z];exact hdx
    ·rw [ao z] at fd;exact fd
   refine⟨rfl,⟨x',dx,d,1,0,[]⟩,rfl,kp,by show (0:Int)<=1;decide,S2,λH3 b3 _ _ b o eb=>b3 b o (λz=>by rw [z,hx] at eb;cases eb) (λz=>by rw [z,hd] at eb;cases eb) (S2 b o eb)⟩
  | some k =>obtain⟨rfl,kp,le⟩:=pre;rw [if_neg (by intro z;cases z)];exact⟨k,rfl,kp,le,av.refl _,λH2 b kp' le'=>⟨b,kp',le'⟩⟩
 ·rintro σ' H1 ⟨k,rfl,kp,le,s1,post⟩;k_data;have rl:=hds.1;have pl12:=oR.len;refine⟨vr,rows,ps,rfl,dv.same s1 _ hvr,hds,by lia,λpl us H2 s2 fpl epl hus=>⟨pl,rfl,⟨_,aJ.of epl⟩,?_⟩⟩;have pB:=kp.same s2;have ul:us.length=ps.length:=by rw [hus.length,Iu]
  refine aY (xs:=us) (λi zs H3=>HX K C k p b e x ps H2 i zs H3) ⟨bV.refl,pB,le,rfl⟩ (IJ (show us.length<=12 by lia) (by decide)) (λi zs H3 hi ⟨z1,z2,z3,z4⟩=>⟨aJ.of (pB.keep z1 epl),by rw [z4.length,Iu,JE];lia⟩) ?_ ?_
  ·rintro i v zs H3 hx ⟨b3,kp3,le3,hz⟩;obtain⟨d,hd',hv⟩:=hus.get hx;rw [ID] at hd';obtain⟨⟨q',t'⟩,hy,rfl⟩:=IE.mp hd';obtain⟨pt,rfl,tt⟩:=gk hv;obtain⟨pm,q6,t1,t9⟩:=oR.ok _ (IC hy);have dE:=iI (IC hy);rw [oR.eq] at dE;replace pm:Num.Pm q':=pm;replace q6:q'<=10^6:=q6;replace t1:1<=t':=t1;replace t9:t'<=1000:=t9;have q2:=pm.two;obtain⟨qn,rfl⟩:∃ n:Nat,q'=n:=⟨q'.toNat,by lia⟩
   obtain⟨tn,rfl⟩:∃ n:Nat,t'=n:=⟨t'.toNat,by lia⟩
   replace dE:qn^tn∣e:=dE;have kps:=pB.aN b3;obtain⟨sa,sd,sm⟩:=jx (p:=p) (b:=b) (e:=e) (x:=x) (ps.take i) k;refine⟨pt,_,rfl,tt.aN kps,rfl,?_⟩;show j8 (cn 0) (j8 (cn 1) yg) _ [none,none,Io (.int p),Io (.int b),Io (.int a),Io (.ref k.a),Io (.int (e:Int))] _ _;k_data;refine⟨⟨rfl,rfl,rfl,rfl,rfl,True.intro⟩,by show 3<=sizeLine;decide,λp4 hp4=>?_⟩;have s4:=aj (o:=.tup [V.int (e:Int),V.int (qn:Int),V.int (tn:Int)]) hp4;refine⟨dF k p b e x (ps.take i),p,b,a,e,qn,tn,x,p4,by rw [sa],bj.of ag,kp3.same s4,le3,p2,p9,a0,a1,o,by lia,xe,al,by lia,by lia,by lia,by lia,dE,λt H5 kp5 b5 ft ht=>⟨by show 2<=sizeLine;decide,λp6 hp6=>?_⟩⟩;rw [sa,sd] at b5;have s6:=aj (o:=.tup [V.int (qn:Int),V.ref t]) hp6;have e1:ps.take (i+1)=ps.take i++[((qn:Int),(tn:Int))]:=by rw [Jv,hy];rfl
   have bb:bV k.a k.d H3 (upd H5 p6 (.tup [V.int (qn:Int),V.ref t])):=(bV.of s4).trans (b5.trans (bV.of s6));refine⟨b3.trans bb,?_,?_,?_⟩
   ·rw [e1,jZ];exact kp5.same s6
   ·rw [e1,jZ];exact (le3.use kp3.m0).add
   ·rw [e1,IT];have kk:∀ a xs,Rd H3 a (.tup xs)->Rd (upd H5 p6 (.tup [V.int (qn:Int),V.ref t])) a (.tup xs):=λc xs z=>kp3.aN (by rw [sa,sd];exact bb) c xs z;refine aE.append (aE.aN kk _ (cF (λ_=>lX) _) hz) (.one (dv.tup ag ⟨_,_,rfl,rfl,.one (dv.tup (s6 _ _ ht) ?_)⟩));have:=aE.ints (K:=K) (H:=upd H5 p6 (.tup [V.int (qn:Int),V.ref t])) ((Num.cD x qn tn).map λd:Nat=>(d:Int));rw [Na (f:=λd:Nat=>(d:Int)) (g:=V.int)] at this;exact this
  ·rintro zs H3 p3 ⟨b3,kp3,le3,hz⟩ hp3;rw [show us.length=ps.length from ul,JI] at hz kp3 le3;obtain⟨sa,sd,sm⟩:=jx (p:=p) (b:=b) (e:=e) (x:=x) ps k;refine⟨p3,rfl,zs,.inl ⟨aJ.of ag,λl hl=>⟨⟨_,bj.of ag⟩,?_⟩⟩⟩;have S4:av H3 (upd (upd H3 p3 (.lst zs)) l (.tup zs)):=(aj hp3).trans (aj hl);have el:upd (upd H3 p3 (.lst zs)) l (.tup zs) l=Io (.tup zs):=ag;generalize upd (upd H3 p3 (.lst zs)) l (.tup zs)=H4 at *;have hz4:=aE.same S4 _ hz;have zl:zs.length=ps.length:=by rw [hz.length,Iu]
   refine gU (xs:=zs) (λi ws H5=>av H4 H5/\aE K H5 ((ps.take i).map λy=>eB (xu x y)) ws) ⟨av.refl _,rfl⟩ (IJ (show zs.length<=12 by lia) (by decide)) (λi ws H5 hi ⟨z1,z2⟩=>⟨bj.of (z1 _ _ el),by rw [z2.length,Iu,JE];lia⟩) ?_ ?_
   ·rintro i v ws H5 hx ⟨s5,hw⟩;obtain⟨d,hd',hv⟩:=hz4.get hx;rw [ID] at hd';obtain⟨⟨q',t'⟩,hy,rfl⟩:=IE.mp hd';obtain⟨pm,q6,t1,t9⟩:=oR.ok _ (IC hy);have dE:=iI (IC hy);rw [oR.eq] at dE;replace pm:Num.Pm q':=pm;replace q6:q'<=10^6:=q6;replace t1:1<=t':=t1;replace t9:t'<=1000:=t9;have q2:=pm.two;obtain⟨qn,rfl⟩:∃ n:Nat,q'=n:=⟨q'.toNat,by lia⟩
    obtain⟨tn,rfl⟩:∃ n:Nat,t'=n:=⟨t'.toNat,by lia⟩
    replace dE:qn^tn∣e:=dE;obtain⟨pr,ys,rfl,hSr,v1,r1,rfl,f1,v2,r2,rfl,⟨pd,ds,rfl,hSd,hdd⟩,z⟩:=hv;cases z;cases f1;have ed:=lL hdd;rw [Na] at ed;replace ed:ds=(Num.cD x qn tn).map λd:Nat=>V.int (d:Int):=ed;subst ed;have dl:=Num.dJ (x:=x) (q:=qn) (n:=tn);refine⟨pr,_,rfl,hSr.same s5,rfl,?_⟩;show j8 (cn 0) (j8 (cn 1) yg) _ [none,none] _ _;k_data;refine⟨True.intro,i9 (hSd.same s5) ?_⟩;rw [Iu,dl];refine⟨by show 2<=sizeLine;decide,λp6 hp6=>⟨by show 1<=sizeLine;decide,λp7 hp7=>?_⟩⟩;have s6:=aj (o:=.tup [V.int (qn:Int),V.int (tn:Int)]) hp6;have s7:=aj (o:=.lst [V.ref p6]) hp7;have e6:=s7 _ _ (show upd H5 p6 (.tup [V.int (qn:Int),V.int (tn:Int)]) p6=_ from ag);have e7:upd (upd H5 p6 (.tup [V.int (qn:Int),V.int (tn:Int)])) p7 (.lst [V.ref p6]) p7=Io (.lst [V.ref p6]):=ag;have S7:=s6.trans s7;generalize upd (upd H5 p6 (.tup [V.int (qn:Int),V.int (tn:Int)])) p7 (.lst [V.ref p6])=H7 at *;have eN1:Num.eN [((qn:Int),(tn:Int))]=qn^tn:=Lk _;have qe:qn^tn<=e:=LP (by lia) dE;refine⟨p7,[V.ref p6],[((qn:Int),(tn:Int))],rfl,e7,.one (dv.tup e6 ⟨_,_,rfl,rfl,.one rfl⟩),λy hy=>by rw [IW.mp hy];exact⟨q2,by lia,by show (tn:Int)<=10^6;lia⟩,by rw [eN1];lia,λH8 s8=>?_⟩;rw [eN1];have S8:=(s5.trans S7).trans s8;refine⟨qn,x,tn,pd,rfl,by lia,by lia,IJ (TC _ _) (by lia),by lia,hSd.same S8,λH9 s9=>⟨by show 2<=sizeLine;decide,λp9 hp9=>?_⟩⟩;have s10:=aj (o:=.tup [V.int ((qn^tn:Nat):Int),V.int ((x%qn^tn:Nat):Int)]) hp9;have S10:=((S7.trans s8).trans s9).trans s10;refine⟨s5.trans S10,?_⟩;rw [Jv,hy,IT];exact aE.append (aE.same S10 _ hw) (.one (dv.tup ag ⟨_,_,rfl,rfl,.one rfl⟩))
   ·rintro ws H5 p5 ⟨s5,hw⟩ hp5;rw [show zs.length=ps.length from zl,JI] at hw;have s6:=aj (o:=.lst ws) hp5;have hw6:=aE.same s6 _ hw;rw [show (ps.map λy=>eB (xu x y))=(ps.map (xu x)).map eB from by rw [Na];rfl] at hw6;refine⟨p5,ws,ps.map (xu x),rfl,aJ.of ag,hw6,λy hy=>?_,by rw [Iu];exact pl12,λi j _ _ _ ap=>absurd ap yP,λW N pw H7 _ told _ s7 fw ew=>?_⟩
    ·obtain⟨y',hy',rfl⟩:=IV.mp hy;have dE:=iI hy';rw [oR.eq] at dE;have qe:y'.1.toNat^y'.2.toNat<=e:=LP (by lia) dE;have q0:0<y'.1.toNat^y'.2.toNat:=Qv dE (by lia);have xm:x%y'.1.toNat^y'.2.toNat<=x:=TC _ _;show 0<((y'.1.toNat^y'.2.toNat:Nat):Int)/\((y'.1.toNat^y'.2.toNat:Nat):Int)<=10^18 /\ -(10^80)<=((x%y'.1.toNat^y'.2.toNat:Nat):Int)/\((x%y'.1.toNat^y'.2.toNat:Nat):Int)<=10^80;generalize x%y'.1.toNat^y'.2.toNat=z1 at *;generalize y'.1.toNat^y'.2.toNat=z2 at *;lia
    ·obtain⟨eW,eN⟩:=told.one (Cn oR xe);subst eW;subst eN;refine bM (bj.of ew) sF ⟨by show 3<=sizeLine;decide,λp8 hp8=>⟨by show 2<=sizeLine;decide,λp9 hp9=>?_⟩⟩;have s8:=aj (o:=.tup [V.str "is",V.int (e:Int),V.ref l]) hp8;have s9:=aj (o:=.tup [V.int (x:Int),V.ref p8]) hp9;have SS:=(((S4.trans s5).trans s6).trans s7).trans (s8.trans s9);have S5:=((s5.trans s6).trans s7).trans (s8.trans s9);refine q _ _ (post _ ((bV.of s2).trans (b3.trans (bV.of SS))) (kp3.same SS) le3) (dv.tup ag ⟨_,_,rfl,rfl,.one (dv.tup (s9 _ _ ag) ⟨_,_,rfl,rfl,_,_,rfl,rfl,.one (dv.tup (S5 _ _ el) (aE.same S5 _ hz4))⟩)⟩)
theorem nJ {ps:List (Int × Int)} {ds:Nat->IL} {ts:List Int} (hr:ps.Pairwise λa b=>a.1<b.1) (hl:ts.length=ps.length):∀ n,n<=ps.length->((cu ps ds ts n).map kp).Pairwise (λa b=>a.1<b.1)/\∀ y∈(cu ps ds ts n).map kp,∃ i,i<n/\(ps[i]?).map (·.1)=Io y.1
 | 0,_=>⟨.nil,λy hy=>by cases hy⟩
 | n+1,h=>by
  obtain⟨r,m⟩:=nJ (ds:=ds) hr hl n (by lia);have hp:ps[n]?=Io (ps[n].1,ps[n].2):=Iv (by lia);have ht:ts[n]?=Io ts[n]:=Iv (by lia);rw [gq hp ht,IT];by_cases c:0<ts[n]
  ·rw [if_pos c];refine⟨Oi.mpr ⟨r,PV _ _,λa ha b hb=>?_⟩,λy hy=>?_⟩
   ·obtain⟨i,hi,ei⟩:=m a ha;obtain⟨z,e1,e2⟩:=IE.mp ei;rw [IW.mp hb,<- e2];have hz:ps[i]=z:=by rw [Iv (show i<ps.length by lia)] at e1;exact JZ e1
    have:=LY.mp hr i n (by lia) (by lia) hi;rw [hz] at this;exact this
   ·rcases J0.mp hy with z | z
    ·obtain⟨i,hi,e⟩:=m y z;exact⟨i,by lia,e⟩
    ·rw [IW.mp z];exact⟨n,by lia,by rw [hp];rfl⟩
  ·rw [if_neg c,MB,L4];exact⟨r,λy hy=>let ⟨i,hi,e⟩:=m y hy;⟨i,by lia,e⟩⟩
theorem nH {p a:Int} {e:Nat} {ps:List (Int × Int)} {ds:Nat->IL} {ts:List Int} (hP:Num.Part (p-1) ps) (to:Num.TO p a ps ts) (o:Num.Ord p a e) (e9:e<=10^9):Num.Part e ((cS ps ds ts).map kp):=by
 have e1:=jR (ds:=ds) to.len to.nn ps.length (IF _);rw [NR (by rw [Tb,Iu];lia),to.ord.iK o] at e1;have hm:∀ y∈(cS ps ds ts).map kp,Num.Pm y.1/\1<=y.2:=λy hy=>by obtain⟨z,hz,rfl⟩:=IV.mp hy;obtain⟨i,k,h1,h2,h3,_⟩:=eh hz;exact⟨(hP.ok _ (IC h1)).1,by show 1<=z.2.2;lia⟩
 refine⟨λy hy=>⟨(hm y hy).1,(hm y hy).2,?_⟩,(nJ hP.rise to.len ps.length (IF _)).1,?_⟩
 ·have hd:=iI hy;have e1':Num.eN ((cS ps ds ts).map kp)=e:=e1;rw [e1'] at hd;have h1:=LP o.pos hd;have q2:=(hm y hy).1.two;have h2:2^y.2.toNat<=y.1.toNat^y.2.toNat:=Nat.pow_le_pow_left (by lia) _;rcases NP 30 y.2.toNat with z | z
  ·have:=M4 (show 0<2 by decide) (show 31<=y.2.toNat by lia);have h3:(2:Nat)^31<=10^9:=IJ this (IJ h2 (IJ h1 e9));exact absurd h3 (by decide)
  ·lia
 ·rw [<- Num.fK _ λy hy=>(hm y hy).1];exact congrArg _ e1
def asc:Nat->Nat->Nat
 | _,0=>1
 | lo,n+1=>lo*asc (lo+1) n
theorem rK:∀{ps:List (Int × Int)} {lo:Nat},(∀ y∈ps,(lo:Int)<=y.1/\2<=y.1/\1<=y.2)->ps.Pairwise (λa b=>a.1<b.1)->asc lo ps.length<=Num.eN ps
 | [],_,_,_=>IF _
 | p::r,lo,h,hr=>by
  obtain⟨h1,h2,h3⟩:=h p (IH ..);obtain⟨r1,r2⟩:=Kq.mp hr;show lo*asc (lo+1) r.length<=p.1.toNat^p.2.toNat*Num.eN r;refine Tq ?_ (rK (λy hy=>?_) r2)
  ·exact IJ (show lo<=p.1.toNat by lia) (Nat.le_self_pow (by lia) _)
  ·have:=h y (IG _ hy);have:=r1 y hy;lia
theorem qA:∀(n:Nat) {m lo:Nat},0<lo->n<=m->asc lo n<=asc lo m
 | 0,m,lo,l0,_=>by
  have:∀(m lo:Nat),0<lo->1<=asc lo m:=by
   intro m
   induction m with
   | zero=>intro _ _;exact IF _
   | succ m ih=>intro lo l0;exact Ma l0 (ih (lo+1) (by lia))
  exact this m lo l0
 | n+1,0,_,_,h=>absurd h (by lia)
 | n+1,m+1,lo,l0,h=>Rc lo (qA n (by lia) (by lia))
theorem gB {e:Nat} {ps:List (Int × Int)} (h:Num.Part e ps) (e9:e<=10^9):ps.length<=12:=by
 have h1:=rK (lo:=2) (λy hy=>⟨(h.ok y hy).1.two,(h.ok y hy).1.two,(h.ok y hy).2.1⟩) h.rise;have h2:Num.eN ps=e:=by have:=Num.fK ps λy hy=>(h.ok y hy).1;rw [h.prod] at this;lia
 rcases NP 12 ps.length with z | z
 ·have h3:asc 2 13<=asc 2 ps.length:=qA 13 (by decide) z;exact absurd (IJ h3 (IJ h1 (by rw [h2];exact e9))) (by decide)
 ·exact z
theorem nQ {e:Nat} {ps:List (Int × Int)} (h:Num.Part e ps) (e9:e<=10^9) (h6:∀ y∈ps,y.1<=10^6):DC e ps where
 ok:=λy hy=>by obtain⟨a,b,c⟩:=h.ok y hy;exact⟨a,h6 y hy,b,by lia⟩
 ne:=h.rise.imp λz=>by lia
 eq:=by have:=Num.fK ps λy hy=>(h.ok y hy).1;rw [h.prod] at this;lia
 len:=gB h e9
noncomputable def ip (e:Nat) (r:Int):IL:=.tuple [.none,.tuple [.str "none",.int e,.int r]]
def k9 (K:Iq) (C CN CF:Iy):Sp:=λvs H Q E=>∃(v vk:V) (p b a g:Int) (rows:IL) (ko:Option KH),vs=[v,.int b,.int a,vk]/\dv K H (.tuple [.int p,.int g,rows]) v/\Num.gT p (.tuple [.int p,.int g,rows]) /\ -(10^60)<=b/\b<=10^60 /\ -(10^60)<=a/\a<=10^60/\jJ C ko vk H/\(p∣a∨p∣b->AI CN H E) /\
 (¬p∣a->¬p∣b->∀ e:Nat,Num.Ord p b e->(e:Int)<p ->
  (¬Num.Al p (a^e) 1->∀ u H',av H H'->dv K H' (ip e (a^e%p)) u->Q u H') /\
  (∀ x,x<e->Num.Al p a (b^x)->∀ ps,Num.Part e ps ->
   ((∀ y∈ps,y.1<=10^6)->∀ u H',br C ko (λk=>dF k p b e x ps) H H'->dv K H' (kK x e ps) u->Q u H') /\
   (∀ m∈ps.map (·.1),(∀ n∈ps.map (·.1),n<=m)->10^6<m->AL CF "part" (.int m) H E)))
theorem jJ.same {ko:Option KH} {v:V} {H H':Hp} (h:jJ C ko v H) (s:av H H'):jJ C ko v H':=by
 cases ko with
 | none=>exact h
 | some k=>exact⟨h.1,h.2.1.same s,h.2.2⟩
theorem br.pre {ko:Option KH} {f:KH->KH} {H H1 H':Hp} (s:av H H1) (h:br C ko f H1 H'):br C ko f H H':=by
 cases ko with
 | none=>exact s.trans h
 | some k=>exact⟨(bV.of s).trans h.1,h.2⟩
theorem AI.pre {CN:Iy} {H H1:Hp} {E:XK} (s:av H H1) (h:AI CN H E):AI CN H1 E:=λx H' s' f e=>h x H' (s.trans s') (s.free f) e
theorem AL.pre {CN:Iy} {f:Jb} {v:V} {H H1:Hp} {E:XK} (s:av H H1) (h:AL CN f v H E):AL CN f v H1 E:=λx dx H' s' fr e=>h x dx H' (s.trans s') (s.free fr) e
theorem sf:aw ["paper","b","a","kept","p","e","parts","rest"] ["paper","b","a","kept"] (ak (top 40)):=dD
theorem zr {CN CF C0:Iy} (D:jH K mg "which" (top 40) #[.none]) (c_order:Callee P w K mg base (cZ P w) 14 "order" ["paper","a"] (qf K CN)) (D':Callee P w K mg base (cZ P w) 4 "power" ["n","a","e"] (dW C0)) (c_refuse_far:Callee P w K mg base (cZ P w) 3 "refuse_far" ["primes"] (z8 K CF)) (c_primes_in:Callee P w K mg base aQ 1 "primes_in" ["parts"] (eK K)) (c_sought:Callee P w K mg base aQ 6 "sought" ["p","b","a","order_paper","kept"] (mG K C)) (x_Nought:sN K mg "Nought" CN):fH P w K mg base (cZ P w) 15 "which" ["paper","b","a","kept"] [.none] (k9 K C CN CF):=by
 refine j7 D (λ_ _ _ _ _ _ _ us hl=>match us,(show us.length=4 by simpa using hl) with | [_,_,_,_],_=>⟨_,rfl,rfl⟩) (λ_ _ _ _ _ _ _ us hl=>match us,(show us.length=3 by simpa using hl) with | [_,_,_],_=>⟨_,rfl,rfl⟩) sf (λvs H Q E h=>by obtain⟨_,_,_,_,_,_,_,_,rfl,_⟩:=h;rfl) (λf cdv A outer s H vs Q E hr h=>?_);obtain⟨v,vk,p,b,a,g,rows,ko,rfl,hd,hp,b0,b1,a0,a1,pre,qN,q⟩:=h;obtain⟨pm,p9⟩:=ir hp;have p2:=pm.two;have nd:=sf.nd;refine⟨_,(ae (bB (i:=4) nd (aG a9 (pv 0) ah (λ_ _=>rfl))) (ae (aS (ay cL (ar aH (pv 2) (pv 4)) ah (aA _)) (ai (cP (me x_Nought rfl))) aD) (ae (eC (bN c_order hr jc (aa (pv 0) (aa (pv 1) af))) (bZ (n:=2) rfl (au (aq (i:=5) nd rfl (Jf rfl) (.inr rfl)) (au (aq (i:=6) nd rfl (Jf rfl) (.inr rfl)) aO)))) (ae (bB (i:=7) nd (bN D' hr aI (aa (pv 4) (aa (pv 2) (aa (pv 5) af))))) (ae (aS (ay fY (pv 7) ah (aA _)) (iG.lY (ai (az (aF (aa dB (aa (aF (aa aM (aa (pv 5) (aa (pv 7) af)))) af)))))) aD) (ae (bU (bN c_refuse_far hr jc (aa (bN c_primes_in hr aB (aa (pv 6) af)) af))) (iG.lY (ai (az (bN c_sought hr aB (aa (pv 4) (aa (pv 1) (aa (pv 2) (aa (aF (aa (pv 5) (aa (pv 6) af))) (aa (pv 3) af))))))))))))))),?_⟩;show bH _ _ _ [Io v,Io (.int b),Io (.int a),Io vk,none,none,none,none] H;obtain⟨pp,y1,y2,vr,rfl,tS,e0,eg,dr⟩:=tj hd;cases e0;cases eg;k_data;refine bM tS kE ⟨p,rfl,by lia,aZ (λc=>?_) (λc=>?_)⟩
 ·exact λx hx=>fk x_Nought.cls (av.refl _) hx (qN (.inl (I0 c)))
 have na:¬p∣a:=λz=>c (JP z);refine⟨.ref pp,p,b,g,rows,rfl,hd,hp,b0,b1,λz=>qN (.inr z),λnb r u H1 hr1 s1 hu=>?_⟩;obtain⟨e',ps,ds,ts,er,hP,hl29,hds,e1,e2,o,to,rfl⟩:=hr1;obtain⟨e,rfl⟩:∃ n:Nat,e'=n:=⟨e'.toNat,by lia⟩
 rw [IX] at o;have e9:e<=10^9:=by lia
 obtain⟨q1,q2⟩:=q na nb e o e2;obtain⟨po,ys,rfl,hSo,ve,r1,rfl,h1,vrr,r2,rfl,hvr,z⟩:=hu;cases z;cases h1;have hpart:=nH (ds:=ds) hP to o e9;have hG:sI ((cS ps ds ts).map (fe p b e)) ((cS ps ds ts).map kp):=by refine⟨by rw [Iu,Iu],λi row hrow=>?_⟩;rw [ID] at hrow;obtain⟨y,hy,rfl⟩:=IE.mp hrow;obtain⟨j,k,h1,h2,h3,h4⟩:=eh (IC hy);obtain⟨g',rr,eg⟩:=(hds j _ _ h1).head;exact⟨kp y,by rw [ID,hy];rfl,_,_,by unfold fe;rw [h4,eg];rfl⟩
 have hQ:Fj ((cS ps ds ts).map (fe p b e)) (((cS ps ds ts).map kp).map (·.1)):=by refine⟨by rw [Iu,Iu,Iu],λi row hrow=>?_⟩;obtain⟨y,hy,d1,d2,ed⟩:=hG.2 i row hrow;exact⟨y.1,by rw [ID,hy];rfl,d1,_,ed⟩
 generalize (cS ps ds ts).map kp=pl at *;generalize (cS ps ds ts).map (fe p b e)=rws at *;have rl:=hG.1;have pl12:=gB hpart e9;refine⟨po,_,rfl,hSo,rfl,?_⟩;k_data;refine⟨p,a,_,rfl,by lia,by lia,λ_ H2 s2=>?_,λz=>absurd z (by lia)⟩;rw [IX];have S2:=s1.trans s2;refine⟨rfl,aZ (λc1=>?_) (λc1=>?_)⟩
 ·refine⟨by show 3<=sizeLine;decide,λp3 hp3=>⟨by show 2<=sizeLine;decide,λp4 hp4=>?_⟩⟩;have s3:=aj (o:=.tup [V.str "none",V.int (e:Int),V.int (a^e%p)]) hp3;have s4:=aj (o:=.tup [V.non,V.ref p3]) hp4;exact q1 (λz=>c1 (congrArg V.int ((c5 p2).mpr z))) _ _ (S2.trans (s3.trans s4)) (dv.tup ag ⟨_,_,rfl,rfl,.one (dv.tup (s4 _ _ ag) ⟨_,_,rfl,rfl,_,_,rfl,rfl,.one rfl⟩)⟩)
 ·have DG:Num.Al p (a^e) 1:=(c5 p2).mp (V.int.inj (Mf.mp c1));obtain⟨x,xe,alx⟩:=Num.mj pm o DG;obtain⟨q3,q4⟩:=q2 x xe alx pl hpart;refine⟨vrr,rws,_,rfl,dv.same s2 _ hvr,hQ,by lia,λpm' H3 s3 f3 e3=>?_⟩;have S3:=S2.trans s3;refine⟨pm',pl.map (·.1),rfl,aJ.of e3,by rw [Iu];lia,λall6=>⟨by show 2<=sizeLine;decide,λp5 hp5=>?_⟩,λm hm hM m6=>AL.pre S3 (q4 m hm hM m6)⟩;have s5:=aj (o:=.tup [V.int (e:Int),vrr]) hp5;have h6:∀ y∈pl,y.1<=10^6:=λy hy=>all6 _ (IV.mpr ⟨y,hy,rfl⟩);refine⟨p,b,a,e,x,.ref p5,vk,rws,pl,ko,rfl,dv.tup ag ⟨_,_,rfl,rfl,.one (dv.same (s2.trans (s3.trans s5)) _ hvr)⟩,hG,nQ hpart e9 h6,pre.same (S3.trans s5),p2,by lia,a0,a1,o,by lia,xe,alx,λu H' post hu=>q3 h6 u H' (post.pre (S3.trans s5)) hu⟩
end
end K
namespace K
open PySem PySem.Spec PyProof.Rows L2
section
variable {P:IM} {w:Jo} {K:Iq} {mg:Jb->Option Ir} {base:JD}
theorem F2 {n d:Int} (hn:1<n) (d2:2<=d) (no:∀ k,2<=k->k<d->¬k∣n) (h:n<d*d):Num.Pm n:=⟨by lia,λe e2 en hd=>by
 rcases (by lia:e<d∨d<=e) with z | z
 ·exact no e e2 z hd
 ·obtain⟨c,hc⟩:=hd;have c2:2<=c:=by
   rcases (by lia:c<=0∨c=1∨2<=c) with y | y | y
   ·have:=Jq (show 0<=e by lia) y;lia
   ·rw [y] at hc;lia
   ·exact y
  have cd:c<d:=by
   rcases (by lia:c<d∨d<=c) with y | y
   ·exact y
   ·have:=LW z y (by lia) (by lia);lia
  exact no c c2 cd ⟨e,by rw [hc,JM]⟩⟩
def oA:Sp:=λvs H Q _=>∃ n:Int,vs=[.int n]/\0<=n/\n<=10^60/\∀ b:Bool,(b=true↔Num.Pm n)->Q (.bl b) H
theorem fC:aw ["_law_n","_law_d"] ["_law_n"] (ak (top 56)):=dD
theorem wB (D:ax K mg "_law_is_prime" (top 56)) (n_int:mg "int"=none):Callee P w K mg base aQ 1 "_law_is_prime" ["_law_n"] oA:=by
 refine cO D fC (λf cdv A outer s H vs Q E hr h=>?_);obtain⟨n,rfl,n0,hn,q⟩:=h;have nd:=fC.nd;refine⟨_,(ae (bB (i:=1) nd ah) (ae (aV IQ (ay C4 (ar aK (pv 1) (pv 1)) (pv 0) (aA _)) (ae (aS (ay cL (ar aH (pv 0) (pv 1)) ah (aA _)) (ai (az nR)) aD) (ai (bB (i:=1) nd (ar bc (ar bc (pv 1) ah) (cI vR rfl n_int L2.boot_int (aa (dH c7 (pv 1) ah (aA _)) af))))))) (ai (az (dH c7 (pv 0) ah (aA _)))))),?_⟩;show bH _ _ _ [Io (.int n),none] H;k_data;refine aW (α:=Int) (λx=>[Io (.int n),Io (.int x)]) (λx H1=>H1=H/\2<=x/\x<=10^60+3/\(x=2∨x%2=1)/\∀ k,2<=k->k<x->¬k∣n) (λx=>(n+3-x).toNat) 2 rfl ⟨rfl,by decide,by decide,.inl rfl,λk k1 (k2:k<2) hk=>by lia⟩ ?_;rintro x H1 ⟨rfl,x2,x9,xo,no⟩;replace x2:2<=x:=x2;replace x9:x<=10^60+3:=x9;replace xo:x=2∨x%2=1:=xo;replace no:∀ k,2<=k->k<x->¬k∣n:=no;k_data;refine⟨Bd.of (by lia) (by lia),Bd.of (by lia) (by lia),aZ (λc=>?_) (λc=>?_)⟩
 ·have xx:x*2<=x*x:=Jm x2 (by lia);refine⟨_,λ_ _ z=>z,by lia,aZ (λc1=>?_) (λc1=>?_)⟩
  ·refine q false ⟨λz=>(by cases z),λz=>absurd (I0 c1) (z.no x x2 (by lia))⟩
  ·have nx:¬x∣n:=λz=>c1 (JP z);rcases xo with rfl | xo
   ·refine⟨3,rfl,rfl,by decide,by decide,.inr (by decide),λk k2 (k3:k<3)=>?_,by lia⟩;rw [show k=2 by lia];exact nx
   ·have x3:2<x:=by lia
    rw [if_pos x3];refine⟨x+2,by rw [Ur];rfl,rfl,by lia,by lia,.inr (by lia),λk k2 k3=>?_,by lia⟩;rcases (by lia:k<x∨k=x∨k=x+1) with z | z | z
    ·exact no k k2 z
    ·rw [z];exact nx
    ·intro hk;exact no 2 (by decide) x3 (Mj (show (2:Int)∣k by lia) hk)
 ·refine q _ ?_;rw [decide_eq_true_iff];exact⟨λz=>F2 z x2 no (by lia),λz=>by have:=z.two;lia⟩
def sj:Sp:=λvs H Q _=>∃ n p0:Int,vs=[.int n]/\0<=n/\n<=p0/\Num.Pm p0/\p0<=10^60/\∀ r,Num.Pm r->n<=r->r<=p0->(∀ k,n<=k->k<r->¬Num.Pm k)->Q (.int r) H
theorem iz:aw ["_law_n"] ["_law_n"] (ak (top 57)):=dD
theorem wG (D:ax K mg "_law_prime" (top 57)) (c__law_is_prime:Callee P w K mg base aQ 1 "_law_is_prime" ["_law_n"] oA):Callee P w K mg base aQ 2 "_law_prime" ["_law_n"] sj:=by
 refine cO D iz (λf cdv A outer s H vs Q E hr h=>?_);obtain⟨n,p0,rfl,n0,np,pm,p9,q⟩:=h;have nd:=iz.nd;refine⟨_,(ae (aV IQ (iN (b8 (bN c__law_is_prime hr aB (aa (pv 0) af)) (λ_=>rfl))) (ai (bB (i:=0) nd (ar bc (pv 0) ah)))) (ai (az (pv 0)))),?_⟩;show bH _ _ _ [Io (.int n)] H;k_data;refine aW (α:=Int) (λx=>[Io (.int x)]) (λx H1=>H1=H/\n<=x/\x<=p0/\∀ k,n<=k->k<x->¬Num.Pm k) (λx=>(p0-x).toNat) n rfl ⟨rfl,MZ _,np,λk k1 k2=>by lia⟩ ?_;rintro x H1 ⟨rfl,x1,x2,no⟩;replace x1:n<=x:=x1;replace x2:x<=p0:=x2;replace no:∀ k,n<=k->k<x->¬Num.Pm k:=no;k_data;refine⟨x,rfl,by lia,by lia,λb hb=>⟨b,bh.mpr rfl,?_⟩⟩;cases b with
 | true=>exact q x (hb.mp rfl) x1 x2 no
 | false =>
  have nx:¬Num.Pm x:=λz=>by cases hb.mpr z
  have ne:x≠p0:=λz=>nx (z▸pm);refine⟨_,λ_ _ z=>z,x+1,rfl,rfl,by lia,by lia,λk k1 k2=>?_,by lia⟩;rcases (by lia:k<x∨k=x) with z | z
  ·exact no k k1 z
  ·rw [z];exact nx
def qc:Sp:=λvs H Q _=>∃(n a:Int) (e:Int),vs=[.int n,.int a,.int e]/\0<n/\n<=10^100 /\ -(10^100)<=a/\a<=10^100/\0<=e/\Q (.int (a^e.toNat%n)) H
theorem iy:aw ["_law_n","_law_a","_law_e","_law_found"] ["_law_n","_law_a","_law_e"] (ak (top 58)):=dD
theorem BE (D:ax K mg "_law_power" (top 58)):Callee P w K mg base aQ 1 "_law_power" ["_law_n","_law_a","_law_e"] qc:=by
 refine cO D iy (λf cdv A outer s H vs Q E hr h=>?_);obtain⟨n,a,e,rfl,hn,hn1,a0,a1,he,q⟩:=h;have nd:=iy.nd;refine⟨_,(ae (bB (i:=3) nd (ar aH ah (pv 0))) (ae (aV IQ (ay c7 (pv 2) ah (aA _)) (ae (cw (aS (ay cL (ar aH (pv 2) ah) ah (aA _)) (ai (bB (i:=3) nd (ar aH (ar aK (pv 3) (pv 1)) (pv 0)))) aD)) (ae (bB (i:=1) nd (ar aH (ar aK (pv 1) (pv 1)) (pv 0))) (ai (bB (i:=2) nd (ar bA (pv 2) ah)))))) (ai (az (pv 3))))),?_⟩;show bH _ _ _ [Io (.int n),Io (.int a),Io (.int e),none] H;k_data;refine⟨hn,?_⟩;have r0:=λx:Int=>Jn x (show n≠0 by lia);have r1:=λx:Int=>Jg x hn;refine aW (α:=Nat × Int × Int) (λx=>[Io (.int n),Io (.int x.2.2),Io (.int (x.1:Int)),Io (.int x.2.1)]) (λx H1=>H1=H /\ -(10^100)<=x.2.2/\x.2.2<=10^100/\0<=x.2.1/\x.2.1<n/\x.2.1*x.2.2^x.1%n=a^e.toNat%n) (λx=>x.1) (e.toNat,1%n,a) (by rw [show ((e.toNat:Nat):Int)=e by lia]) ⟨rfl,a0,a1,r0 1,r1 1,?_⟩ ?_
 ·show 1%n*a^e.toNat%n=_;rw [Pw.yK,Kt]
 rintro⟨l,r,b⟩ H1 ⟨rfl,h1,h2,h3,h4,h5⟩;replace h1:-(10^100)<=b:=h1;replace h2:b<=10^100:=h2;replace h3:0<=r:=h3;replace h4:r<n:=h4;replace h5:r*b^l%n=a^e.toNat%n:=h5;k_data;refine aZ (λc=>?_) (λc=>?_)
 ·refine⟨_,λ_ _ z=>z,λσ' H2=>H2=H1/\σ'=[Io (.int n),Io (.int b),Io (.int (l:Int)),Io (.int (if l%2=1 then r*b%n else r))],?_,?_⟩
  ·k_data;refine aZ (λc=>?_) (λc=>?_)
   ·exact⟨Bd.of (by lia) (by lia),Bd.of (by lia) (by lia),hn,by rw [if_pos (by lia)]⟩
   ·rw [if_neg (by lia)]
  rintro σ' H2 ⟨rfl,rfl⟩;k_data;have z0:0<=(if l%2=1 then r*b%n else r)/\(if l%2=1 then r*b%n else r)<n:=by
   split
   ·exact⟨r0 _,r1 _⟩
   ·exact⟨h3,h4⟩
  have b0:=r0 (b*b);have b1:=r1 (b*b);refine⟨Bd.of (by lia) (by lia),Bd.of (by lia) (by lia),hn,CH (by decide),(l/2,(if l%2=1 then r*b%n else r),b*b%n),rfl,(by show (l:Int)/2=((l/2:Nat):Int);lia),rfl,by show -(10^100)<=b*b%n;lia,by show b*b%n<=10^100;lia,z0.1,z0.2,?_,?_⟩
  ·show (if l%2=1 then r*b%n else r)*(b*b%n)^(l/2)%n=_;rw [Pw.step];exact h5
  ·show l/2<l;lia
 ·have l0:l=0:=by lia
  subst l0;rw [Jp,KP,Kh h3 h4] at h5;rw [h5];exact q
end
end K
namespace L2
open PySem PySem.Spec PyProof.Rows PySem.W
theorem Eg {K:Iq} {mg:Jb->Option Ir} {h:JD} {x:Jb} {C:Iy} (_:K.In h) (a:mg x=Io (.ref C)) (p1:plainGet K C Uv=true) (p2:hasDictIn K C=true) (p3:plainOver K C=true) (p4:findIn K (.ref C) "__setattr__"=Io (Io (.builtin "object.__setattr__"))) (p5:makesIn K C=true) (p6:keepIn K (.ref C)=true):DA K mg x C:=Eh a p1 p2 p3 p4 p5 p6
end L2
namespace K
open PySem PySem.Spec PyProof.Rows L2
section
variable {P:IM} {w:Jo} {K:Iq} {mg:Jb->Option Ir} {base:JD} {C:Iy}
def uC (C a d:Iy) (H:Hp):Prop:=∃ k:KH,k.a=a/\k.d=d/\bC C k H/\mZ k
theorem uC.aN {a d:Iy} {H H':Hp} (h:uC C a d H) (b:bV a d H H'):∀ a xs,Rd H a (.tup xs)->Rd H' a (.tup xs):=by obtain⟨k,rfl,rfl,z,u⟩:=h;exact z.aN b
theorem uC.free {a d:Iy} {H H':Hp} {f:Iy} (h:uC C a d H') (b:bV a d H H') (hf:H' f=none):H f=none:=by obtain⟨k,rfl,rfl,z,u⟩:=h;exact lz (k:=k) z rfl rfl b hf
end
end K
namespace K
open PySem PySem.Spec PyProof.Rows L2
theorem zT {ps:List (Int × Int)} {ds:Nat->IL} {r:IL} (h:r∈Num.rowsOf ps ds):∃ i q k,ps[i]?=Io (q,k)/\r=.tuple [ds i,.int k]:=by unfold Num.rowsOf at h;obtain⟨i,hi,e⟩:=IV.mp h;have hi':=JQ.mp hi;have g:=Iv hi';refine⟨i,ps[i].1,ps[i].2,g,?_⟩;rw [<- e,KJ,g];rfl
theorem gA:∀{ds:List IL},(∀ d∈ds,kX d=true)->dP ds=true
 | [],_=>rfl
 | d::ds,h=>by rw [dP,h d (IH ..),gA λe z=>h e (IG _ z)];rfl
theorem u5 {n:Int} {d:IL} (h:Num.gT n d):kX d=true:=by
 induction h with
 | mk n g ps ds h1 h2 h3 h4 h5 h6 ih =>simp only [kX,dP,Oc,Rn];refine gA λr hr=>?_;obtain⟨i,q,k,h,rfl⟩:=zT hr;simp only [kX,dP,Oc];exact ih i q k h
section
variable {P:IM} {w:Jo} {K:Iq} {mg:Jb->Option Ir} {base:JD} {C:Iy}
theorem Au {p w:Int} {m:Nat} {l:Iy} {i j:Int}:(HO.dK (cU p w m))≠sG l i j:=λe=>by
 have e1:cU p w m=([(Kf "cells",V.ref l),(Kf "spot",V.int i),(Kf "left",V.int j)]:List (Key × V)):=HO.dK.inj e;cases m with
 | zero=>cases e1
 | succ m =>have e2:=congrArg (·[0]?) e1;simp only [cU,ID] at e2;rw [LL (by lia)] at e2;cases e2
end
end K
namespace K
open PySem PySem.Spec PyProof.Rows L2
section
variable {P:IM} {w:Jo} {K:Iq} {mg:Jb->Option Ir} {base:JD}
mutual
def sT:Nat->IL->Prop
 | 0,_=>False
 | _+1,.none=>True
 | _+1,.bool _=>True
 | _+1,.int _=>True
 | _+1,.str _=>True
 | L+1,.list ds=>ds.length<=10^6/\mL L ds
 | L+1,.tuple ds=>ds.length<=10^6/\mL L ds
 | _+1,_=>False
def mL:Nat->List IL->Prop
 | _,[]=>True
 | L,d::ds=>sT L d/\mL L ds
end
theorem zW:∀{L:Nat} {ds:List IL} {i:Nat} {d:IL},mL L ds->ds[i]?=Io d->sT L d
 | L,[],i,d,_,h=>by simp at h
 | L,e::ds,0,d,h,z=>by simp only [mL] at h;cases z;exact h.1
 | L,e::ds,i+1,d,h,z=>by simp only [mL] at h;exact zW h.2 (by simpa using z)
theorem jo:∀{L:Nat} {ds:List IL},(∀ d∈ds,sT L d)->mL L ds
 | L,[],_=>by simp only [mL]
 | L,d::ds,h=>by simp only [mL];exact⟨h d (IH ..),jo λe z=>h e (IG _ z)⟩
theorem qx {k:Sd} {H H':Hp} {a:Iy} {xs:List V} (h:m7 k K H a xs) (s:av H H'):m7 k K H' a xs:=by
 cases k
 ·exact aJ.same h s
 ·exact bj.same h s
def fR (K:Iq) (L:Nat):Sp:=λvs H Q _=>∃(u v:V) (d:IL),vs=[u,v]/\dv K H d u/\dv K H d v/\sT L d/\∀ H',av H H'->Q (.bl true) H'
theorem fQ:aw ["_law_found","_law_due"] ["_law_found","_law_due"] (ak (top 64)):=dD
theorem wI (D:ax K mg "_law_same" (top 64)):Callee P w K mg base aQ 1 "_law_same" ["_law_found","_law_due"] (fR K 0):=by refine cO D fQ (λf cdv A outer s H vs Q E hr h=>?_);obtain⟨u,v,d,rfl,hu,hv,hs,q⟩:=h;simp only [sT] at hs
theorem wJ {L:Nat} (D:ax K mg "_law_same" (top 64)) (c__law_same:Callee P w K mg base aQ (L+1) "_law_same" ["_law_found","_law_due"] (fR K L)) (n_isinstance:mg "isinstance"=none) (n_bool:mg "bool"=none) (n_list:mg "list"=none) (A':mg "tuple"=none) (f':mg "len"=none) (K':mg "zip"=none) (n_all:mg "all"=none):Callee P w K mg base aQ (L+2) "_law_same" ["_law_found","_law_due"] (fR K (L+1)):=by
 refine cO D fQ (λf cdv A outer s H vs Q E hr h=>?_);obtain⟨u,v,d,rfl,hu,hv,hs,q⟩:=h;have nd:=fQ.nd;refine⟨_,(ae (aS (PW.pt (zQ (b8 (aC cV rfl n_isinstance PyProof.Rows.boot_isinstance (aa (pv 1) (aa (eT (v:=.ty "tuple") rfl A' L2.boot_tuple rfl) af))) (λ_=>rfl)) (um (b8 (aC cV rfl n_isinstance PyProof.Rows.boot_isinstance (aa (pv 1) (aa (eT (v:=.ty "list") rfl n_list L2.boot_list rfl) af))) (λ_=>rfl))))) (ae (aS (PW.pt (zQ (ay fY (aC cV rfl n_isinstance PyProof.Rows.boot_isinstance (aa (pv 0) (aa (eT (v:=.ty "tuple") rfl A' L2.boot_tuple rfl) af))) (aC cV rfl n_isinstance PyProof.Rows.boot_isinstance (aa (pv 1) (aa (eT (v:=.ty "tuple") rfl A' L2.boot_tuple rfl) af))) (aA _)) (um (ay fY (aC cV rfl n_isinstance PyProof.Rows.boot_isinstance (aa (pv 0) (aa (eT (v:=.ty "list") rfl n_list L2.boot_list rfl) af))) (aC cV rfl n_isinstance PyProof.Rows.boot_isinstance (aa (pv 1) (aa (eT (v:=.ty "list") rfl n_list L2.boot_list rfl) af))) (aA _))))) (ai (az nR)) aD) (ai (az (l7 (dH cL (aC aX rfl f' JG (aa (pv 0) af)) (aC aX rfl f' JG (aa (pv 1) af)) (aA _)) (l9 (aC (qG rfl) rfl n_all L2.boot_all (aa (fz rfl (lD (N':=["_law_one","_law_other"]) (js:=[none,none]) rfl rfl) (BR rfl K' (aa (pv 0) (aa (pv 1) af))) (λ_ _ _ _=>(c8 K rfl (n:=2) rfl (au (aq (i:=0) (show JJ [("_law_one":Jb),("_law_other":Jb)] from by decide +kernel) rfl (Jf rfl) (.inr rfl)) (au (aq (i:=1) (show JJ [("_law_one":Jb),("_law_other":Jb)] from by decide +kernel) rfl (Jf rfl) (.inr rfl)) aO)))) (λ_ _ _ _=>aR) (λ_ _ _ _=>(bY c__law_same (hr.mono (by lia)) rfl aB (aa (pv 0) (aa (pv 1) af))))) af))))))) aD) (ai (az (l7 (dH cL (aC cV rfl n_isinstance PyProof.Rows.boot_isinstance (aa (pv 0) (aa (eT (v:=.ty "bool") rfl n_bool L2.boot_bool rfl) af))) (aC cV rfl n_isinstance PyProof.Rows.boot_isinstance (aa (pv 1) (aa (eT (v:=.ty "bool") rfl n_bool L2.boot_bool rfl) af))) (aA _)) (l9 (dH cL (pv 0) (pv 1) (aA _))))))),?_⟩;show bH _ _ _ [Io u,Io v] H;have sq:∀(k:Sd) (a b:Iy) (us vs:List V) (ds:List IL) (H2:Hp),m7 k K H2 a us->m7 k K H2 b vs->aE K H2 ds us->aE K H2 ds vs->mL L ds->ds.length<=10^6->(∀ H',av H2 H'->Q (.bl true) H') ->
   lh (E9 k k K a b) [none,none] (mS K 2 (j8 (cn 0) (j8 (cn 1) yg))) vG (oF (fR K L) [] E0 (vE (uv 0) (vE (uv 1) Ao))) [Io (.ref a),Io (.ref b)] (λx H1=>EH K [x] H1 Q) H2:=by
  intro k a b us vs ds H2 ha hb du dw hs hl q;have ul:=du.length;have vl:=dw.length;refine jM (xs:=us) (ys:=vs) (λi zs H3=>av H2 H3/\zs=(KY i true).map V.bl) ⟨av.refl _,rfl⟩ (by lia) (IJ (by lia) (show 10^6<=sizeLine by decide)) (λi zs H3 hi ⟨z1,z2⟩=>⟨qx ha z1,qx hb z1,by rw [z2,Iu,Qu];exact IF _⟩) ?_ ?_
  ·rintro i x y zs H3 p3 hx hy ⟨s3,rfl⟩ hp3;obtain⟨d1,e1,v1⟩:=du.get hx;obtain⟨d2,e2,v2⟩:=dw.get hy;rw [e1] at e2;cases e2;have s4:=aj (o:=.tup [x,y]) hp3;show mS K 2 _ _ [none,none] _ _;refine⟨p3,_,rfl,bj.of ag,rfl,?_⟩;generalize upd H3 p3 _=H4 at *;k_data;refine⟨True.intro,x,y,d1,rfl,dv.same (s3.trans s4) _ v1,dv.same (s3.trans s4) _ v2,zW hs e1,λH5 s5=>⟨(s3.trans s4).trans s5,?_⟩⟩;rw [List.replicate_succ',IT];rfl
  ·rintro zs H3 p3 ⟨s3,rfl⟩ hp3;refine xF (bs:=KY us.length true) (aJ.of ag) ?_;have:(KY us.length true).all id=true:=by rw [M7];intro b hb;exact (List.mem_replicate.mp hb).2
   rw [this];exact q _ (s3.trans (aj hp3))
 k_data;cases d with
 | none =>cases hu;cases hv;refine dG (d:=.none) rfl ⟨false,bh.mpr rfl,?_⟩;rw [if_neg (by decide)];refine dS (d:=.none) rfl ⟨false,bh.mpr rfl,?_⟩;rw [if_neg (by decide)];refine dN (d:=.none) rfl (dN (d:=.none) rfl ⟨rfl,?_⟩);rw [if_pos rfl];exact⟨rfl,by rw [decide_eq_true rfl];exact q _ (av.refl _)⟩
 | bool y =>cases hu;cases hv;refine dG (d:=.bool y) rfl ⟨false,bh.mpr rfl,?_⟩;rw [if_neg (by decide)];refine dS (d:=.bool y) rfl ⟨false,bh.mpr rfl,?_⟩;rw [if_neg (by decide)];refine dN (d:=.bool y) rfl (dN (d:=.bool y) rfl ⟨rfl,?_⟩);rw [if_pos rfl];exact⟨rfl,by rw [decide_eq_true rfl];exact q _ (av.refl _)⟩
 | int y =>cases hu;cases hv;refine dG (d:=.int y) rfl ⟨false,bh.mpr rfl,?_⟩;rw [if_neg (by decide)];refine dS (d:=.int y) rfl ⟨false,bh.mpr rfl,?_⟩;rw [if_neg (by decide)];refine dN (d:=.int y) rfl (dN (d:=.int y) rfl ⟨rfl,?_⟩);rw [if_pos rfl];exact⟨rfl,by rw [decide_eq_true rfl];exact q _ (av.refl _)⟩
 | str y =>cases hu;cases hv;refine dG (d:=.str y) rfl ⟨false,bh.mpr rfl,?_⟩;rw [if_neg (by decide)];refine dS (d:=.str y) rfl ⟨false,bh.mpr rfl,?_⟩;rw [if_neg (by decide)];refine dN (d:=.str y) rfl (dN (d:=.str y) rfl ⟨rfl,?_⟩);rw [if_pos rfl];exact⟨rfl,by rw [decide_eq_true rfl];exact q _ (av.refl _)⟩
 | list ds =>simp only [sT] at hs;refine dG hv ⟨false,bh.mpr rfl,?_⟩;rw [if_neg (by decide)];refine dS hv ⟨true,bh.mpr rfl,?_⟩;rw [if_pos rfl];refine dG hu (dG hv ⟨rfl,?_⟩);rw [if_neg (by intro z;exact z rfl)];refine dS hu (dS hv ⟨rfl,?_⟩);rw [if_neg (by intro z;exact z rfl)];obtain⟨pa,us,rfl,hSu,du⟩:=hu;obtain⟨pb,vs,rfl,hSv,dw⟩:=hv;have ul:=du.length;have vl:=dw.length;refine cf hSu (cf hSv ⟨rfl,?_⟩);rw [if_pos (by rw [ul,vl])];exact⟨pa,rfl,pb,rfl,.l,⟨_,hSu⟩,.l,⟨_,hSv⟩,sq .l pa pb us vs ds H hSu hSv du dw hs.2 hs.1 λH' s'=>q H' s'⟩
 | tuple ds =>simp only [sT] at hs;refine dG hv ⟨true,bh.mpr rfl,?_⟩;rw [if_pos rfl];refine dG hu (dG hv ⟨rfl,?_⟩);rw [if_neg (by intro z;exact z rfl)];refine dS hu (dS hv ⟨rfl,?_⟩);rw [if_neg (by intro z;exact z rfl)];obtain⟨pa,us,rfl,hSu,du⟩:=hu;obtain⟨pb,vs,rfl,hSv,dw⟩:=hv;have ul:=du.length;have vl:=dw.length;refine i9 hSu (i9 hSv ⟨rfl,?_⟩);rw [if_pos (by rw [ul,vl])];exact⟨pa,rfl,pb,rfl,.t,⟨_,hSu⟩,.t,⟨_,hSv⟩,sq .t pa pb us vs ds H hSu hSv du dw hs.2 hs.1 λH' s'=>q H' s'⟩
 | _=>simp only [sT] at hs
theorem rF (D:ax K mg "_law_same" (top 64)) (n_isinstance:mg "isinstance"=none) (n_bool:mg "bool"=none) (n_list:mg "list"=none) (A':mg "tuple"=none) (f':mg "len"=none) (K':mg "zip"=none) (n_all:mg "all"=none):∀ L:Nat,Callee P w K mg base aQ (L+1) "_law_same" ["_law_found","_law_due"] (fR K L)
 | 0=>wI D
 | L+1=>wJ D (rF D n_isinstance n_bool n_list A' f' K' n_all L) n_isinstance n_bool n_list A' f' K' n_all
def Dc (K:Iq):Sp:=λvs H Q _=>∃ x q e t:Nat,vs=[.int x,.int q,.int e]/\2<=q/\q<=10^60/\1<=e/\q^t∣e/\¬q^(t+1)∣e/\t<=1000/\∀ p H',av H H'->bj K H' p ((Num.cD x q t).map λd=>V.int (d:Nat))->Q (.ref p) H'
theorem gL:aw ["_law_x","_law_q","_law_e","_law_digits_here"] ["_law_x","_law_q","_law_e"] (ak (top 59)):=dD
theorem Ej (D:ax K mg "_law_digits" (top 59)):Callee P w K mg base aQ 1 "_law_digits" ["_law_x","_law_q","_law_e"] (Dc K):=by
 refine cO D gL (λf cdv A outer s H vs Q E hr h=>?_);obtain⟨x,q',e,t,rfl,q2,q9,e1,dt,nt,t9,q⟩:=h;have nd:=gL.nd;refine⟨_,(ae (bB (i:=3) nd (aF af)) (ae (aV IQ (ay cL (ar aH (pv 2) (pv 1)) ah (aA _)) (ae (bB (i:=3) nd (ar uY (pv 3) (aF (aa (ar aH (pv 0) (pv 1)) af)))) (ae (bB (i:=0) nd (ar bA (pv 0) (pv 1))) (ai (bB (i:=2) nd (ar bA (pv 2) (pv 1))))))) (ai (az (pv 3))))),?_⟩;show bH _ _ _ [Io (.int (x:Int)),Io (.int (q':Int)),Io (.int (e:Int)),none] H;k_data;refine⟨by decide,λp0 hp0=>?_⟩;refine aW (α:=Nat × Iy) (λz=>[Io (.int ((x/q'^z.1:Nat):Int)),Io (.int (q':Int)),Io (.int ((e/q'^z.1:Nat):Int)),Io (.ref z.2)]) (λz H1=>av H H1/\z.1<=t/\bj K H1 z.2 ((Num.cD x q' z.1).map λd:Nat=>V.int (d:Int))) (λz=>t+1-z.1) (0,p0) (by rw [LO,Pz,Pz]) ⟨aj hp0,J4 _,bj.of ag⟩ ?_;rintro⟨i,a⟩ H1 ⟨s1,it,ha⟩;replace it:i<=t:=it;replace ha:bj K H1 a ((Num.cD x q' i).map λd:Nat=>V.int (d:Int)):=ha;k_data;have di:q'^i∣e:=Lw (Qq q' it) dt;obtain⟨f0,hf⟩:=di;have qi:0<q'^i:=Ly (by lia);have ef:e/q'^i=f0:=by rw [hf];exact LD f0 qi
 have key:(((e/q'^i:Nat):Int)%(q':Int)=0)↔i<t:=by
  rw [<- P0,ef];constructor
  ·intro z;have z':f0%q'=0:=by lia
   rcases (by lia:i<t∨i=t) with h | h
   ·exact h
   ·subst h;obtain⟨c,hc⟩:=Qa z';exact absurd ⟨c,by rw [JX,hf,hc,Kb]⟩ nt
  ·intro h;obtain⟨c,hc⟩:=Lw (Qq q' h) dt;have:f0=q'*c:=by rw [hf,JX,Kb] at hc;exact Nat.eq_of_mul_eq_mul_left qi hc
   rw [this,Nat.mul_mod_right];rfl
 refine⟨by lia,aZ (λc=>?_) (λc=>?_)⟩
 ·have lt:=key.mp c;have dl:=Num.dJ (x:=x) (q:=q') (n:=i);refine⟨_,λ_ _ z=>z,by lia,by show 1<=sizeLine;decide,λp1 hp1=>?_⟩;have s2:=aj (o:=.tup [V.int (((x/q'^i:Nat):Int)%(q':Int))]) hp1;refine⟨a,p1,_,_,rfl,rfl,ha.same s2,bj.of ag,by rw [Iu,dl];exact M5 (ou (by show i+1<=1000;lia)),λp2 H2 s3 h2=>⟨by lia,Bd.of (by lia) (by lia),by lia,Bd.of (by lia) (by lia),(i+1,p2),?_,(s1.trans s2).trans s3,lt,?_,by show t+1-(i+1)<t+1-i;lia⟩⟩
  ·show _=[Io (V.int ((x/q'^(i+1):Nat):Int)),_,Io (V.int ((e/q'^(i+1):Nat):Int)),_];rw [JX,<- MG,<- MG,Lu (x/q'^i),Lu (e/q'^i)]
  ·show bj K H2 p2 ((Num.cD x q' (i+1)).map λd:Nat=>V.int (d:Int));rw [Num.jN,IT];rw [<- P0] at h2;exact h2
 ·have:i=t:=by have:=mt key.mpr c;lia
  subst this;exact q a H1 s1 ha
structure lq (n d:Int):Prop where
 two:2<=d
 no:∀ e:Int,2<=e->e<d->¬e∣n
theorem lq.step {n d:Int} (h:lq n d) (hk:¬d∣n):lq n (d+1):=⟨by have:=h.two;lia,λe e2 ed=>by
 rcases (by lia:e<d∨e=d) with z | z
 ·exact h.no e e2 z
 ·rw [z];exact hk⟩
theorem lq.top {n d:Int} (h:lq n d) (hn:1<n) (hd:n<d*d):lq n n:=⟨by lia,λe e2 ed=>by
 rintro⟨c,hc⟩;have h2:=h.two;have c1:1<c:=by
  rcases (by lia:c<=1∨1<c) with z | z
  ·have:=Jm z (show 0<=e by lia);lia
  ·exact z
 have ed':d<=e:=by
  rcases (by lia:d<=e∨e<d) with z | z
  ·exact z
  ·exact absurd ⟨c,hc⟩ (h.no e e2 z)
 have cd':d<=c:=by
  rcases (by lia:d<=c∨c<d) with z | z
  ·exact z
  ·exact absurd ⟨e,by rw [hc,JM]⟩ (h.no c (by lia) z)
 have:=LW ed' cd' (by lia) (by lia);lia⟩
def mF:Sp:=λvs H Q _=>∃ n:Int,vs=[.int n]/\1<=n/\n<=10^9/\∀ ps p H',Num.Part n ps->ps.length<=29->av H H'->H p=none->H' p=Io (.lst ((ps.map (·.1)).map V.int))->Q (.ref p) H'
theorem eY:aw ["_law_n","_law_found","_law_d"] ["_law_n"] (ak (top 60)):=dD
theorem rE (D:ax K mg "_law_primes_of" (top 60)):Callee P w K mg base aQ 1 "_law_primes_of" ["_law_n"] mF:=by
 refine cO D eY (λf cdv A outer s H vs Q E hr h=>?_);obtain⟨n,rfl,n1,n9,q⟩:=h;have nd:=eY.nd;refine⟨_,(ae (bB (i:=1) nd (fM af)) (ae (bB (i:=2) nd ah) (ae (aV IQ (ay c7 (pv 0) ah (aA _)) (ae (cw (aS (ay c7 (ar aK (pv 2) (pv 2)) (pv 0) (aA _)) (ai (bB (i:=2) nd (pv 0))) aD)) (ae (cw (aS (ay cL (ar aH (pv 0) (pv 2)) ah (aA _)) (ai (bU (iu JY Kv PySem.F.type_list_append dA (pv 1) (aa (pv 2) af)))) aD)) (ae (aV IQ (ay cL (ar aH (pv 0) (pv 2)) ah (aA _)) (ai (bB (i:=0) nd (ar bA (pv 0) (pv 2))))) (ai (bB (i:=2) nd (ar bc (pv 2) ah))))))) (ai (az (pv 1)))))),?_⟩;show bH _ _ _ [Io (.int n),none,none] H;k_data;refine⟨by decide,λpp hpp=>?_⟩;refine aW (α:=Int × Int) (λx=>[Io (.int x.1),Io (.ref pp),Io (.int x.2)]) (λx H1=>av H H1/\∃(ps:List (Int × Int)) (pr:Int),H1 pp=Io (.lst ((ps.map (·.1)).map V.int))/\Num.Way n ps x.1 pr/\lq x.1 x.2/\x.2<=10^9+10) (λx=>(10^9+20-x.2).toNat+x.1.toNat*10^10) (n,2) rfl ⟨aj hpp,[],2,ag,.start (by lia),⟨by show (2:Int)<=2;decide,λd d0 (d1:d<2)=>by lia⟩,by show (2:Int)<=10^9+10;decide⟩ ?_;rintro⟨left,d⟩ H1 ⟨hs,ps,pr,epp,W,Ie,d9⟩;replace W:Num.Way n ps left pr:=W;replace Ie:lq left d:=Ie;replace d9:d<=10^9+10:=d9;have l1:=W.pos;have d2:=Ie.two;have ln:left<=n:=by have z:=W.two;have p0:=Num.bJ (show (0:Int)<2 by decide) ps.length;have:=Jj (show (1:Int)<=2^ps.length by lia) (show 0<=left by lia);lia
 have len:=W.len n9;k_data;refine aZ (λc3=>?_) (λc3=>?_)
 ·refine⟨_,λ_ _ z=>z,λσ' H'=>∃ e:Int,σ'=[Io (.int left),Io (.ref pp),Io (.int e)]/\H'=H1/\lq left e/\e<=left/\(e=d∨e∣left),?_,?_⟩
  ·k_data;refine⟨Bd.of (by lia) (by lia),Bd.of (by lia) (by lia),aZ (λc=>?_) (λc=>?_)⟩
   ·exact⟨Ie.top (by lia) (by lia),MZ _,.inr (MC _)⟩
   ·have:=Jj (show 1<=d by lia) (show 0<=d by lia);exact⟨Ie,by lia,.inl True.intro⟩
  rintro σ' H' ⟨e,rfl,rfl,Je,el,ed⟩;have e2:=Je.two;k_data;refine⟨λσ' H2=>σ'=[Io (.int left),Io (.ref pp),Io (.int e)]/\av H H2/\H2 pp=Io (.lst (((ps.map (·.1))++if left%e=0 then [e] else []).map V.int)),?_,?_⟩
  ·k_data;refine⟨by lia,aZ (λc=>?_) (λc=>?_)⟩
   ·refine⟨.inl ⟨rfl,_,aJ.of epp⟩,pp,_,_,rfl,rfl,epp,by rw [Iu,Iu];exact J3 (show ps.length<=29 by lia) (by decide),hs.upd hpp,?_⟩;rw [ag,if_pos c,IT (f:=V.int)];rfl
   ·rw [if_neg c,L4];exact⟨hs,epp⟩
  rintro σ' H2 ⟨rfl,s2,ep2⟩;k_data;refine aW (α:=Int × Nat) (λx=>[Io (.int x.1),Io (.ref pp),Io (.int e)]) (λx H3=>H3=H2/\left=e^x.2*x.1/\1<=x.1/\x.1<=left) (λx=>x.1.toNat) (left,0) rfl ⟨rfl,by rw [Jp,Kt],by lia,MZ _⟩ ?_;rintro⟨lf,k⟩ H3 ⟨rfl,f1,f2,f3⟩;replace f1:left=e^k*lf:=f1;replace f2:1<=lf:=f2;replace f3:lf<=left:=f3;k_data;refine⟨by lia,?_⟩;refine aZ (λc4=>?_) (λc4=>?_)
  ·obtain⟨y,hy⟩:=I0 c4;have ey:lf/e=y:=by rw [hy];exact JB _ (by lia)
   have y1:1<=y:=by
    rcases (by lia:y<=0∨1<=y) with z | z
    ·have:=Jq (show 0<=e by lia) z;lia
    ·exact z
   have yl:y<lf:=by rw [hy];have:=Jj e2 (show 0<=y by lia);lia
   refine⟨_,λ_ _ z=>z,by lia,Bd.of (by lia) (by lia),(y,k+1),?_,rfl,?_,y1,by show y<=left;lia,by show y.toNat<lf.toNat;lia⟩
   ·rw [ey]
   ·show left=e^(k+1)*y;rw [f1,hy,IY,JO]
  ·have ng:¬e∣lf:=λz=>c4 (JP z);have Jl:lq lf (e+1):=lq.step ⟨e2,λd d2 de z=>Je.no d d2 de (by rw [f1];exact JA z)⟩ ng;rcases Jy k with z | k1
   ·subst z;rw [Jp,Kt] at f1;subst f1;have:e=d:=ed.elim id λz=>absurd z ng;subst this;rw [if_neg c4,L4] at ep2;refine⟨(left,e+1),rfl,rfl,s2,⟨ps,ep2,pr,W,Jl,by show e+1<=10^9+10;lia⟩,?_⟩;show (10^9+20-(e+1)).toNat+left.toNat*10^10<(10^9+20-e).toNat+left.toNat*10^10;lia
   ·have el':e∣left:=by
     obtain⟨k',rfl⟩:∃ k',k=k'+1:=⟨k-1,by lia⟩
     rw [f1,IY];exact K6 ⟨e^k',JM _ _⟩
    have hL:Ld.fW left e:=⟨e2,el',Je.no⟩
    have W2:=W.step n9 c3 hL f1 f2 k1 ng;have lt:lf<left:=by
     obtain⟨k',rfl⟩:∃ k',k=k'+1:=⟨k-1,by lia⟩
     have p0:=Num.bJ (show 0<e by lia) k';have h1:e<=e^(k'+1):=by rw [IY];have:=Jj (show 1<=e^k' by lia) (show 0<=e by lia);lia
     have:=Jj (show 2<=e^(k'+1) by lia) (show 0<=lf by lia);lia
    rw [if_pos (JP el')] at ep2;refine⟨(lf,e+1),rfl,rfl,s2,⟨ps++[(e,(k:Int))],by rw [IT];exact ep2,e,W2,Jl,by show e+1<=10^9+10;lia⟩,?_⟩;show (10^9+20-(e+1)).toNat+lf.toNat*10^10<(10^9+20-d).toNat+left.toNat*10^10;lia
 ·have z:left=1:=by lia
  subst z;exact q ps pp H1 W.done (W.len n9) hs hpp epp
end
end K
namespace K
open PySem PySem.Spec PyProof.Rows L2
theorem rL:∀{ps:List (Int × Int)} {y:Int × Int},(∀ z∈ps,Num.Pm z.1)->ps.Pairwise (λa b=>a.1<b.1)->y∈ps->¬y.1.toNat^(y.2.toNat+1)∣Num.eN ps
 | p::r,y,hp,hr,hy,hd=>by
  obtain⟨r1,r2⟩:=Kq.mp hr;have q2:=(hp y hy).two;replace hd:y.1.toNat^(y.2.toNat+1)∣p.1.toNat^p.2.toNat*Num.eN r:=hd;rcases IU.mp hy with rfl | hy'
  ·have nd:¬y.1.toNat∣Num.eN r:=Num.CM (hp y hy) (λz hz=>hp z (IG _ hz)) λz hz=>by have:=r1 z hz;lia
   rw [JX] at hd;exact nd (MQ (Ly (by lia)) hd)
  ·have co:=Num.uK (b:=[y]) (λz hz=>by rw [IW.mp hz];exact hp y hy) [p] (λz hz=>by rw [IW.mp hz];exact hp p (IH ..)) λx hx z hz=>by rw [IW.mp hx,IW.mp hz];have:=r1 y hy';lia
   have e1:Num.eN [p]=p.1.toNat^p.2.toNat:=Lk _;have nq:=Num.uU (hp y hy);have co2:Mb (y.1.toNat^(y.2.toNat+1)) (p.1.toNat^p.2.toNat):=by
    refine Num.xQ nq (λz=>?_) _;have h3:(y.1:Int)∣p.1^p.2.toNat:=by
     have:=JF.mpr z
     rwa [Np,show ((y.1.toNat:Nat):Int)=y.1 by lia,show ((p.1.toNat:Nat):Int)=p.1 by have:=(hp p (IH ..)).two;lia] at this
    have:=Num.ui (hp p (IH ..)) (hp y hy) _ h3;have:=r1 y hy';lia
   exact rL (λz hz=>hp z (IG _ hz)) r2 hy' (co2.dvd_of_dvd_mul_left hd)
end K
namespace K
open PySem PySem.Spec PyProof.Rows L2
section
variable {P:IM} {w:Jo} {K:Iq} {mg:Jb->Option Ir} {base:JD}
noncomputable def uk (p b:Int) (i:Nat):List V:=(Ky i).map λj=>V.int (b^j%p)
theorem rR {p b:Int} {i:Nat}:uk p b (i+1)=uk p b i++[V.int (b^i%p)]:=by unfold uk;rw [Nr,IT];rfl
theorem pQ {p b:Int} {i:Nat}:(uk p b i).length=i:=by unfold uk;rw [Iu,Ki]
theorem rQ {p b:Int} {i:Nat}:(uk p b i).all dR=true:=by unfold uk;rw [M7];intro x hx;obtain⟨j,_,rfl⟩:=IV.mp hx;rfl
theorem EG {p b:Int} {i j:Nat} {z:V} (h:(uk p b i)[j]?=Io z):j<i/\z=V.int (b^j%p):=by
 have hj:j<i:=by
  have:=(IB.mp h).1
  rwa [pQ] at this
 refine⟨hj,?_⟩;unfold uk at h;rw [ID,LL hj] at h;cases h;rfl
theorem zP {p b c:Int} {i:Nat}:DX (.int c) (uk p b i)=true↔∃ j,j<i/\b^j%p=c:=by
 unfold DX uk;rw [Mu];constructor
 ·rintro⟨x,hx,e⟩;obtain⟨j,hj,rfl⟩:=IV.mp hx;exact⟨j,JQ.mp hj,by simpa [qS] using e⟩
 ·rintro⟨j,hj,e⟩;exact⟨_,IV.mpr ⟨j,JQ.mpr hj,rfl⟩,by simpa [qS] using e⟩
def Dd (K:Iq):Sp:=λvs H Q _=>∃(p b a:Int) (e:Nat),vs=[.int p,.int b,.int a]/\Num.Pm p/\p<=1000 /\ -(10^60)<=b/\b<=10^60 /\ -(10^60)<=a/\a<=10^60/\Num.Ord p b e/\(e:Int)<p/\(∀ u H',(∀ x,x<e->¬Num.Al p a (b^x))->av H H'->dv K H' (ip e (a^e%p)) u->Q u H')/\∀ x ps u H',x<e->Num.Al p a (b^x)->Num.Part e ps->av H H'->dv K H' (kK x e ps) u->Q u H'
theorem eX:aw ["_law_p","_law_b","_law_a","_law_powers","_law_e","_law_x"] ["_law_p","_law_b","_law_a"] (ak (top 61)):=dD
theorem Ek (D:ax K mg "_law_due_power" (top 61)) (c__law_power:Callee P w K mg base aQ 1 "_law_power" ["_law_n","_law_a","_law_e"] qc) (c__law_digits:Callee P w K mg base aQ 1 "_law_digits" ["_law_x","_law_q","_law_e"] (Dc K)) (c__law_primes_of:Callee P w K mg base aQ 1 "_law_primes_of" ["_law_n"] mF) (A':mg "tuple"=none) (f':mg "len"=none):Callee P w K mg base aQ 2 "_law_due_power" ["_law_p","_law_b","_law_a"] (Dd K):=by
 refine cO D eX (λf cdv A outer s H vs Q E hr h=>?_);obtain⟨p,b,a,e,rfl,pm,p9,b0,b1,a0,a1,o,ep,qn,qi⟩:=h;have p2:=pm.two;have e0:=o.pos;have nd:=eX.nd;refine⟨_,(ae (bB (i:=3) nd (fM (aa ah af))) (ae (aV IQ (ay fY (ar aH (ar aK (aG bz (pv 3) (ma iR ah) (λ_ _=>rfl)) (pv 1)) (pv 0)) ah (aA _)) (ai (bU (iu JY Kv PySem.F.type_list_append dA (pv 3) (aa (ar aH (ar aK (aG bz (pv 3) (ma iR ah) (λ_ _=>rfl)) (pv 1)) (pv 0)) af))))) (ae (fP (i:=4) nd rfl (N6 rfl) (aC aX rfl f' JG (aa (pv 3) af))) (ae (aS (ay pL (ar aH (pv 2) (pv 0)) (pv 3) (by with_unfolding_all rfl)) (ai (az (aF (aa dB (aa (aF (aa aM (aa (pv 4) (aa (bN c__law_power hr aB (aa (pv 0) (aa (pv 2) (aa (pv 4) af)))) af)))) af))))) aD) (ae (fP (i:=5) nd rfl (N6 rfl) (iu JY QW PySem.F.type_list_index yI (pv 3) (aa (ar aH (pv 2) (pv 0)) af))) (ai (az (aF (aa (pv 5) (aa (aF (aa aM (aa (pv 4) (aa (cI bS rfl A' L2.boot_tuple (aa (fz rfl (lD (N':=["_law_q","_law_x","_law_e"]) (js:=[none,Io 5,Io 4]) rfl rfl) (bp (bN c__law_primes_of hr aB (aa (pv 4) af))) (λ_ _ _ _=>(aq (i:=0) (show JJ [("_law_q":Jb),("_law_x":Jb),("_law_e":Jb)] from by decide +kernel) rfl (Jf rfl) (.inr rfl))) (λ_ _ _ _=>aR) (λ_ _ _ _=>(aF (aa (pv 0) (aa (bN c__law_digits hr aB (aa (pv 1) (aa (pv 0) (aa (pv 2) af)))) af))))) af)) af)))) af)))))))))),?_⟩;show bH _ _ _ [Io (.int p),Io (.int b),Io (.int a),none,none,none] H;k_data;have r0:=λx:Int=>Jn x (show p≠0 by lia);have r1:=λx:Int=>Jg x (show 0<p by lia);refine⟨by decide,λpl hpl=>?_⟩;refine aW (α:=Nat) (λ_=>[Io (.int p),Io (.int b),Io (.int a),Io (.ref pl),none,none]) (λi H1=>av H H1/\i<e/\H1 pl=Io (.lst (uk p b (i+1)))) (λi=>e-i) 0 rfl ⟨aj hpl,e0,?_⟩ ?_
 ·rw [ag];show _=Io (HO.lst [V.int (b^0%p)]);rw [Jp,Kh (by decide) (by lia)]
 rintro i H1 ⟨s1,ie,hl⟩;replace ie:i<e:=ie;have ix:∀{Q:VK},Q (V.int (b^i%p)) H1->wY K (.ref pl) (.int (-1)) H1 Q:=λ{Q} h=>⟨pl,_,-1,_,rfl,rfl,aJ.of hl,by rw [rR];exact xG _ _,h⟩
 have nx:b^i%p*b%p=b^(i+1)%p:=by rw [Pw.yK,IY]
 have h0:=r0 (b^i);have h1:=r1 (b^i);have bx:Bd (b^i%p):=Bd.of (by lia) (by lia);have bb:Bd b:=Bd.of (by lia) (by lia);k_data;refine ix ⟨_,rfl,bx,bb,by lia,?_⟩;rw [nx];refine aZ (λc=>?_) (λc=>?_)
 ·have ie':i+1<e:=by
   rcases (by lia:i+1<e∨i+1=e) with z | z
   ·exact z
   ·subst z;exact absurd ((c5 p2).mpr o.one) c
  refine⟨_,λ_ _ z=>z,.inl ⟨rfl,_,aJ.of hl⟩,ix ⟨_,rfl,bx,bb,by lia,?_⟩⟩;rw [nx];refine⟨pl,_,_,rfl,rfl,hl,by rw [pQ];exact J3 (show i+1<=1000 by lia) (by decide),rfl,s1.upd hpl,i+1,ie',?_,by show e-(i+1)<e-i;lia⟩;rw [ag,<- rR]
 ·have ie':i+1=e:=by
   have h3:b^(i+1)%p=1:=by
    rcases (by lia:b^(i+1)%p=1∨b^(i+1)%p≠1) with z | z
    ·exact z
    ·exact absurd z c
   have:=LP (by lia) (o.dv _ ((c5 p2).mp h3));lia
  rw [ie'] at hl;refine cf (aJ.of hl) ?_;rw [pQ];refine⟨by lia,pl,_,rfl,.inl (aJ.of hl),rfl,rQ,_,rfl,?_⟩;cases hin:DX (V.int (a%p)) (uk p b e) with
  | false =>rw [if_pos (by rfl)];refine⟨p,a,_,rfl,by lia,by lia,by lia,by lia,by lia,?_⟩;rw [IX];refine⟨by show 3<=sizeLine;decide,λp3 hp3=>⟨by show 2<=sizeLine;decide,λp4 hp4=>?_⟩⟩;have s3:=aj (o:=.tup [V.str "none",V.int (e:Int),V.int (a^e%p)]) hp3;have s4:=aj (o:=.tup [V.non,V.ref p3]) hp4;refine qn _ _ (λx xe al=>?_) (s1.trans (s3.trans s4)) (dv.tup ag ⟨_,_,rfl,rfl,.one (dv.tup (s4 _ _ ag) ⟨_,_,rfl,rfl,_,_,rfl,rfl,.one rfl⟩)⟩);have:=zP.mpr ⟨x,xe,Num.Al.iff.mp al.symm⟩;rw [hin] at this;cases this
  | true =>
   rw [if_neg (by decide)];obtain⟨x,xe,hx⟩:=zP.mp hin;have al:Num.Al p a (b^x):=(Num.Al.iff.mpr hx).symm;have hat:(uk p b e)[x]?=Io (V.int (b^x%p)):=by unfold uk;rw [ID,LL xe];rfl
   refine⟨.inl ⟨rfl,_,aJ.of hl⟩,by lia,pl,_,_,x,rfl,rfl,hl,rfl,rQ,⟨_,hat,by simp [qS,hx]⟩,λj z hj hz=>?_,e,rfl,by lia,by lia,λps ql H2 hps p29 s2 fql eql=>⟨ql,rfl,⟨_,aJ.of eql⟩,?_⟩⟩
   ·obtain⟨je,rfl⟩:=EG hz;rcases hc:qS (V.int (b^j%p)) (V.int (a%p)) with _ | _
    ·rfl
    ·have h3:b^j%p=a%p:=by simpa [qS] using hc
     have:=o.jj je xe (h3.trans hx.symm);lia
   have eE:Num.eN ps=e:=by have:=Num.fK ps λy hy=>(hps.ok y hy).1;rw [hps.prod] at this;lia
   refine aY (xs:=(ps.map (·.1)).map V.int) (λi zs H5=>av H2 H5/\aE K H5 ((ps.take i).map (w6 x)) zs) ⟨av.refl _,rfl⟩ (by rw [Iu,Iu];exact IJ p29 (by decide)) (λi zs H5 hi ⟨z1,z2⟩=>⟨aJ.of (z1 _ _ eql),by rw [z2.length,Iu,JE];lia⟩) ?_ ?_
   ·rintro i w' zs H5 hx ⟨s5,hz⟩;rw [ID,ID] at hx;obtain⟨q',hx1,rfl⟩:=IE.mp hx;obtain⟨⟨q'',t'⟩,hy,rfl⟩:=IE.mp hx1;obtain⟨pq,t1,t9⟩:=hps.ok _ (IC hy);have dE:=iI (IC hy);have nE:=rL (λz hz=>(hps.ok z hz).1) hps.rise (IC hy);rw [eE] at dE nE;replace pq:Num.Pm q'':=pq;replace t1:1<=t':=t1;replace t9:t'<=30:=t9;have q2:=pq.two;have qe:q''∣(e:Int):=by rw [<- hps.prod];exact Num.d6 (IC hy) t1
    have qe':=Jh (by lia) qe;obtain⟨qn',rfl⟩:∃ n:Nat,q''=n:=⟨q''.toNat,by lia⟩
    obtain⟨tn,rfl⟩:∃ n:Nat,t'=n:=⟨t'.toNat,by lia⟩
    replace dE:qn'^tn∣e:=dE;replace nE:¬qn'^(tn+1)∣e:=nE;show cn 0 _ [none,Io (.int (x:Int)),Io (.int (e:Int))] _ _;k_data;refine⟨⟨rfl,rfl,True.intro⟩,x,qn',e,tn,rfl,by lia,by lia,by lia,dE,nE,by lia,λpd H6 s6 hSd=>⟨by show 2<=sizeLine;decide,λp7 hp7=>?_⟩⟩;have s7:=aj (o:=.tup [V.int (qn':Int),V.ref pd]) hp7;refine⟨(s5.trans s6).trans s7,?_⟩;rw [Jv,hy,IT];refine aE.append (aE.same (s6.trans s7) _ hz) (.one (dv.tup ag ⟨_,_,rfl,rfl,.one ⟨pd,_,rfl,hSd.same s7,?_⟩⟩));have:=aE.ints (K:=K) (H:=upd H6 p7 (.tup [V.int (qn':Int),V.ref pd])) ((Num.cD x qn' tn).map λd:Nat=>(d:Int));rw [Na (f:=λd:Nat=>(d:Int)) (g:=V.int)] at this;exact this
   ·rintro zs H5 p5 ⟨s5,hz⟩ hp5;rw [Iu,Iu,JI] at hz;have s6:=aj (o:=.lst zs) hp5;refine⟨p5,rfl,zs,.inl ⟨aJ.of ag,λpt hpt=>⟨by show 3<=sizeLine;decide,λp7 hp7=>⟨by show 2<=sizeLine;decide,λp8 hp8=>?_⟩⟩⟩⟩;have s7:=aj (o:=.tup zs) hpt;have s8:=aj (o:=.tup [V.str "is",V.int (e:Int),V.ref pt]) hp7;have s9:=aj (o:=.tup [V.int (x:Int),V.ref p7]) hp8;have S9:=s6.trans (s7.trans (s8.trans s9));exact qi x ps _ _ xe al hps (s1.trans (s2.trans (s5.trans S9))) (dv.tup ag ⟨_,_,rfl,rfl,.one (dv.tup (s9 _ _ ag) ⟨_,_,rfl,rfl,_,_,rfl,rfl,.one (dv.tup ((s8.trans s9) _ _ ag) (aE.same S9 _ hz))⟩)⟩)
theorem BV {a d L:Int} (hd:0<d) (h0:-L<=a) (h1:a<=L):-L<=a/d/\a/d<=L:=by
 have L0:0<=L:=by lia
 have h2:L*1<=L*d:=Jm (show 1<=d by lia) L0;refine⟨NY hd (by rw [QK];lia),QB hd (by lia)⟩
def De (K:Iq):Sp:=λvs H Q _=>∃(a:Iy) (ns:List Int),vs=[.ref a]/\aJ K H a (ns.map V.int)/\ns.length<=63/\∀ H',Q (.bl true) H'
def gg (p l:Iy) (n:Nat) (H:Hp):Prop:=∃(i j:Int) (ns:List Int),H p=Io (sG l i j)/\H l=Io (.lst (ns.map V.int))/\ns.length<=63/\0<=i/\i<=n
theorem gg.tp {p l:Iy} {n:Nat} {H:Hp} (h:gg p l n H):Tp p n H:=by obtain⟨i,j,ns,r⟩:=h;exact⟨l,i,j,ns,r⟩
theorem gg.same {p l:Iy} {n:Nat} {H H':Hp} (h:gg p l n H) (s:av H H'):gg p l n H':=by obtain⟨i,j,ns,a,b,c⟩:=h;exact⟨i,j,ns,s _ _ a,s _ _ b,c⟩
theorem gg.more {p l:Iy} {n m:Nat} {H:Hp} (h:gg p l n H) (z:n<=m):gg p l m H:=by obtain⟨i,j,ns,a,b,c,d,e⟩:=h;exact⟨i,j,ns,a,b,c,d,by lia⟩
theorem gg.but {p l a d:Iy} {n:Nat} {H H':Hp} (h:gg p l n H) (b:bV a d H H') (n1:p≠a) (n2:p≠d) (n3:l≠a) (n4:l≠d):gg p l n H':=by obtain⟨i,j,ns,x,y,z⟩:=h;exact⟨i,j,ns,b _ _ n1 n2 x,b _ _ n3 n4 y,z⟩
def vB (K:Iq):Sp:=λvs H Q _=>∃(a:Iy) (ns:List Int),vs=[.ref a]/\aJ K H a (ns.map V.int)/\ns.length<=63/\∀ p l H',av H H'->H p=none->H l=none->gg p l 0 H'->Q (.ref p) H'
theorem zk (D:ax K mg "_law_tape" (top 54)):Callee P w K mg base aQ 1 "_law_tape" ["_law_script"] (vB K):=by
 refine cO D ju (λf cdv A outer s H vs Q E hr h=>?_);obtain⟨a,ns,rfl,hS,h63,q⟩:=h;have nd:=ju.nd;refine⟨_,(ai (az (u9 (fA aM (gF pX (pv 0) jh (fN ah)) (fA aM ah (fA aM ah vd))) rfl rfl (by intro z;cases z) (by decide)))),?_⟩;show kL _ _ [Io (.ref a)] H;k_data;intro p hp;have s1:=aj (o:=.dK []) hp;refine⟨a,_,rfl,hS.same s1,λpl hpl=>⟨?_,[(Kf "cells",.ref pl),(Kf "spot",.int 0),(Kf "left",.int 0)],rfl,by show 3<=15;decide,?_⟩⟩
 ·rw [ao (aP ag hpl),ag]
 ·obtain⟨ns',e1,e2⟩:=xT (ns:=ns) (lo:=none) (hi:=Io 63);have nep:pl≠p:=λz=>by rw [z,ag] at hpl;cases hpl
  rw [e1];exact q p pl _ ((s1.trans (aj hpl)).upd hp) hp (s1.free hpl) ⟨0,0,ns',ag,by rw [ao nep,ag],by lia,by decide,by decide⟩
def kZ:Sp:=λvs H Q _=>∃(p l:Iy) (m:Int) (n:Nat),vs=[.ref p,.int m]/\gg p l n H/\n<=10^60/\0<m/\m<10^200/\∀ r H',0<=r->r<m->Off p H H'->gg p l (n+1) H'->Q (.int r) H'
theorem yU (D:ax K mg "_law_draw" (top 55)) (f':mg "len"=none):Callee P w K mg base aQ 1 "_law_draw" ["_law_tape_here","_law_many"] kZ:=by
 refine cO D jq (λf cdv A outer s H vs Q E hr h=>?_);obtain⟨p,l,m,n,rfl,⟨i,j,ns,hp,hl,h63,i0,i1⟩,hn,m0,m1,q⟩:=h;have nd:=jq.nd;refine⟨_,(ae (aS (ay c7 (bQ (bT hr) (pv 0) aM (λ_ _=>rfl)) ah (aA _)) (ae (bB (i:=2) nd (ar aH (bQ (bT hr) (pv 0) aM (λ_ _=>rfl)) (pv 1))) (ae (fO (bT hr) (pv 0) aM (ar bA (bQ (bT hr) (pv 0) aM (λ_ _=>rfl)) (pv 1)) rfl) (ai (az (pv 2))))) aD) (ae (bB (i:=3) nd (bQ (bT hr) (pv 0) aM (λ_ _=>rfl))) (ae (fO (bT hr) (pv 0) aM (ar bc (pv 3) ah) rfl) (ae (bB (i:=4) nd (bQ (bT hr) (pv 0) aM (λ_ _=>rfl))) (ae (bB (i:=5) nd ah) (ae (cw (aS (ay c7 (aC aX rfl f' JG (aa (pv 4) af)) ah (aA _)) (ai (bB (i:=5) nd (aG bz (pv 4) (ar aH (pv 3) (aC aX rfl f' JG (aa (pv 4) af))) (λ_ _=>rfl)))) aD)) (ae (aS (PW.pt (pR (ay c7 (pv 5) ah (aA _)) (pR (ay cL (ar aH (pv 5) ah) ah (aA _)) (pS (ay fX (pv 3) (aC aX rfl f' JG (aa (pv 4) af)) (aA _)))))) (ae (fO (bT hr) (pv 0) aM (ar bA (ar bA (pv 5) ah) (pv 1)) rfl) (ai (az (ar aH (ar bA (pv 5) ah) (pv 1))))) aD) (ae (bB (i:=6) nd (ar aH (ar aK (ar bc (ar bc (ar bc (ar aH (pv 5) ah) (ar aK (ar aK ah (pv 3)) (pv 3))) (ar aK ah (pv 3))) ah) ah) ah)) (ai (az (ar aH (ar bA (ar aH (ar aK (pv 6) (ar bc (pv 6) ah)) ah) ah) (pv 1)))))))))))),?_⟩;show bH _ _ _ [Io (.ref p),Io (.int m),none,none,none,none,none] H;k_data;have lp:l≠p:=bI hl hp (by intro z;cases z);have mb:Bd m:=Bd.of (by lia) (by lia);have em:=λx:Int=>Jn x (show m≠0 by lia);have el:=λx:Int=>Jg x m0;refine⟨_,qp hp,j,rfl,aZ (λc=>?_) (λc=>?_)⟩
 ·exact⟨_,qp hp,j,rfl,m0,_,qp hp,j,rfl,m0,mb,_,sy hp,q _ _ (em _) (el _) Off.E5 ⟨i,_,ns,ag,by rw [ao lp];exact hl,h63,i0,by lia⟩⟩
 ·refine⟨_,Cp hp,i,rfl,_,Aw hp,_,Av ag,?_⟩;have hp1:upd H p (sG l (i+1) j) p=Io (sG l (i+1) j):=ag;have hl1:upd H p (sG l (i+1) j) l=Io (.lst (ns.map V.int)):=by rw [ao lp];exact hl
  have of1:Off p H (upd H p (sG l (i+1) j)):=Off.E5;generalize upd H p (sG l (i+1) j)=H1 at *;refine⟨λσ' H'=>H'=H1/\∃ c,σ'=[Io (.ref p),Io (.int m),none,Io (.int i),Io (.ref l),Io (.int c),none],?_,?_⟩
  ·k_data;refine cf (aJ.of hl1) ⟨_,rfl,?_⟩;rw [Iu];refine aZ (λc1=>?_) (λc1=>rfl);refine cf (aJ.of hl1) ?_;rw [Iu];have r0:=Jn i (show (ns.length:Int)≠0 by lia);have r1:=Jg i c1;refine⟨_,rfl,c1,uQ (aJ.of hl1) r0 (by rw [Iu];exact r1) λv hv=>?_⟩;obtain⟨x,_,rfl⟩:=IV.mp hv;exact⟨rfl,x,rfl⟩
  ·rintro σ' H' ⟨rfl,c',rfl⟩;k_data;have ib:i<=10^60:=by lia
   have ii:7919*i*i<=7919*i*10^60:=Jm ib (by lia);have i2:0<=7919*i*i:=Mt (by lia) i0;have c0:=Jn c' (show (2147483629:Int)≠0 by decide);have c1:=Jg c' (show (0:Int)<2147483629 by decide);have sd:∀ z:Int,0<=z%2147483647/\z%2147483647<2147483647:=λz=>⟨Jn z (by decide),Jg z (by decide)⟩
   have T1:gg p l (n+1) H':=⟨i+1,j,ns,hp1,hl1,h63,by lia,by lia⟩
   have fin:Bd 7919/\Bd i/\Bd (7919*i)/\Bd i/\Bd 48271/\Bd i/\Bd (c'%2147483629+7919*i*i+48271*i+1)/\Bd 69621/\Bd ((c'%2147483629+7919*i*i+48271*i+1)*69621%2147483647)/\Bd ((c'%2147483629+7919*i*i+48271*i+1)*69621%2147483647+16807)/\Bd 64/\0<m:=by have s1:=sd ((c'%2147483629+7919*i*i+48271*i+1)*69621);exact⟨CH (by decide),Bd.of (by lia) (by lia),Bd.of (by lia) (by lia),Bd.of (by lia) (by lia),CH (by decide),Bd.of (by lia) (by lia),Bd.of (by lia) (by lia),CH (by decide),Bd.of (by lia) (by lia),Bd.of (by lia) (by lia),CH (by decide),m0⟩
   obtain⟨f1,f2,f3,f4,f5,f6,f7,f8,f9,f10,f11,f12⟩:=fin;have fq:∀ x,Q (V.int (x%m)) H':=λx=>q _ _ (em _) (el _) of1 T1;refine aZ (λc2=>aZ (λc3=>?_) (λc3=>⟨f1,f2,f3,f4,f5,f6,f7,f8,f9,f10,f11,f12,fq _⟩)) (λc2=>⟨f1,f2,f3,f4,f5,f6,f7,f8,f9,f10,f11,f12,fq _⟩);refine cf (aJ.of hl1) ⟨_,rfl,aZ (λc4=>⟨CH (by decide),m0,mb,_,sy hp1,CH (by decide),m0,?_⟩) (λc4=>⟨f1,f2,f3,f4,f5,f6,f7,f8,f9,f10,f11,f12,fq _⟩)⟩;exact q _ _ (em _) (el _) (of1.trans Off.E5) ⟨i+1,_,ns,ag,by rw [ao lp];exact hl1,h63,by lia,by lia⟩
end
end K
namespace K
open PySem PySem.Spec PyProof.Rows L2
section
variable {P:IM} {w:Jo} {K:Iq} {mg:Jb->Option Ir} {base:JD} {C:Iy}
def vA (C:Iy):Sp:=λvs H Q _=>∃(k:KH),vs=[.ref k.a]/\bC C k H/\Q (.int k.c) H
theorem iw:aw ["self"] ["self"] (ak (inClass (top 31) 1)):=dD
theorem wz (D:CC K C "steps" "Kept.steps" (inClass (top 31) 1)) (cl:mK K C) (na_counted:cJ K C "counted"):bw P w K mg base aQ 1 C "steps" ["self"] (vA C):=by refine eA D (λ_ _ _ _ _ _ us hl=>by obtain⟨_,rfl⟩:=yC hl;exact rfl) iw (λvs H Q E h=>by obtain⟨a,rfl,_⟩:=h;rfl) (λf cdv A outer s H vs Q E hr h=>?_);obtain⟨k,rfl,kp,q⟩:=h;have nd:=iw.nd;refine⟨_,(ai (az (gE (pv 0) rfl))),?_⟩;show kL _ _ [Io (.ref k.a)] H;k_data;exact⟨C,_,_,kp.ins,cl,na_counted,_,rfl,q⟩
def HK:Sp:=λvs H Q _=>∃ q:Nat,vs=[.int q]/\1<=q/\q<=10^9/\Q (.int (rt q:Nat)) H
theorem nX:aw ["_law_q","_law_m_here"] ["_law_q"] (ak (top 62)):=dD
theorem Hl (D:ax K mg "_law_m" (top 62)):Callee P w K mg base aQ 1 "_law_m" ["_law_q"] HK:=by
 refine cO D nX (λf cdv A outer s H vs Q E hr h=>?_);obtain⟨q',rfl,q1,q9,q⟩:=h;have nd:=nX.nd;refine⟨_,(ae (bB (i:=1) nd ah) (ae (aV IQ (ay fX (ar aK (pv 1) (pv 1)) (pv 0) (aA _)) (ai (bB (i:=1) nd (ar bc (pv 1) ah)))) (ai (az (pv 1))))),?_⟩;show bH _ _ _ [Io (.int (q':Int)),none] H;k_data;have r1:=pU q1;obtain⟨ra,rb⟩:=rX q';have rl:=vi q1;refine aW (α:=Nat) (λm=>[Io (.int (q':Int)),Io (.int (m:Int))]) (λm H1=>H1=H/\1<=m/\m<=rt q') (λm=>rt q' - m) 1 rfl ⟨rfl,IF _,r1⟩ ?_;rintro m H1 ⟨rfl,m1,m2⟩;replace m2:m<=rt q':=m2;k_data;have mm:(m:Int)*(m:Int)=((m*m:Nat):Int):=(K1 m m).symm;refine⟨Bd.of (by lia) (by lia),Bd.of (by lia) (by lia),?_⟩;rw [mm];refine aZ (λc=>?_) (λc=>?_)
 ·have lt:m<rt q':=by
   rcases (by lia:m<rt q'∨m=rt q') with z | z
   ·exact z
   ·rw [<- z] at ra;lia
  exact⟨_,λ_ _ z=>z,m+1,rfl,rfl,by show 1<=m+1;lia,by show m+1<=rt q';lia,by show rt q' - (m+1)<rt q' - m;lia⟩
 ·have:m=rt q':=by
   rcases (by lia:m<rt q'∨m=rt q') with z | z
   ·have:=rb m z;lia
   ·exact z
  rw [this];exact q
noncomputable def mM (m c:Int) (tl:Iy):HO:=.dK [(Kf "most",.int m),(Kf "steps",.int c),(Kf "tables",.ref tl)]
def iW (K:Iq) (sd tl:Iy) (m c:Int) (ks:List (Int × Int × Int)) (H:Hp):Prop:=H sd=Io (mM m c tl)/\∃ us,H tl=Io (.lst us)/\aE K H (ks.map iJ) us
section
variable {H H':Hp} {sd tl:Iy} {m c c':Int} {ks:List (Int × Int × Int)}
theorem Ci (h:H sd=Io (mM m c tl)):dI H sd (.str "most") (Io (.int m)):=dI.k (k:=Kf "most") h
theorem mI (h:H sd=Io (mM m c tl)):dI H sd (.str "steps") (Io (.int c)):=dI.k (k:=Kf "steps") h
theorem iQ (h:H sd=Io (mM m c tl)):dI H sd (.str "tables") (Io (.ref tl)):=dI.k (k:=Kf "tables") h
theorem Ah (h:H sd=Io (mM m c tl)):lj H sd (.str "steps") (.int c') (upd H sd (mM m c' tl)):=.inl ⟨_,Kf "steps",h,rfl,by show 3<sizeLine;decide,rfl⟩
theorem lW {x:Int × Int × Int}:kX (iJ x)=true:=rfl
theorem iW.aN (h:iW K sd tl m c ks H) (b:bV sd tl H H'):∀ a xs,Rd H a (.tup xs)->Rd H' a (.tup xs):=by
 obtain⟨h1,us,h2,_⟩:=h;rintro a xs (z | ⟨o,z⟩)
 ·exact .inl (b _ _ (bI z h1 (by intro z;cases z)) (bI z h2 (by intro z;cases z)) z)
 ·exact .inr ⟨o,b _ _ (bI z h1 (by intro z;cases z)) (bI z h2 (by intro z;cases z)) z⟩
theorem iW.aE (h:iW K sd tl m c ks H) (b:bV sd tl H H') {us:List V} (x:L2.aE K H (ks.map iJ) us):L2.aE K H' (ks.map iJ) us:=aE.aN (h.aN b) _ (cF (λ_=>lW) ks) x
theorem iW.same (h:iW K sd tl m c ks H) (s:av H H'):iW K sd tl m c ks H':=by obtain⟨h1,us,h2,h3⟩:=h;exact⟨s _ _ h1,us,s _ _ h2,aE.same s _ h3⟩
theorem iW.ne (h:iW K sd tl m c ks H):tl≠sd:=by obtain⟨h1,us,h2,_⟩:=h;exact bI h2 h1 (by intro z;cases z)
theorem iW.steps (h:iW K sd tl m c ks H):iW K sd tl m c' ks (upd H sd (mM m c' tl)):=by have hb:bV sd tl H (upd H sd (mM m c' tl)):=bV.AA;obtain⟨h1,us,h2,h3⟩:=id h;exact⟨ag,us,by rw [ao h.ne];exact h2,h.aE hb h3⟩
theorem iW.lay {us:List V} {ks':List (Int × Int × Int)} (h:iW K sd tl m c ks H) (x:L2.aE K H (ks'.map iJ) us):iW K sd tl m c ks' (upd H tl (.lst us)):=by have hb:bV sd tl H (upd H tl (.lst us)):=bV.xj;exact⟨by rw [ao (JC h.ne)];exact h.1,us,ag,aE.aN (h.aN hb) _ (cF (λ_=>lW) ks') x⟩
theorem oS {H:Hp}:∀(j:Nat) {ds:List IL} {us:List V},L2.aE K H ds us->L2.aE K H (ds.eraseIdx j) (us.eraseIdx j)
 | 0,[],us,h=>by cases h;rfl
 | 0,d::ds,_,⟨x,r,e,h,t⟩=>by subst e;exact t
 | j+1,[],us,h=>by cases h;rfl
 | j+1,d::ds,_,⟨x,r,e,h,t⟩=>by subst e;exact⟨x,_,rfl,h,oS j t⟩
theorem pF {α β:Type} (f:α->β):∀(j:Nat) (l:List α),(l.map f).eraseIdx j=(l.eraseIdx j).map f
 | 0,[]=>rfl
 | 0,_::_=>rfl
 | j+1,[]=>rfl
 | j+1,x::l=>by show f x::(l.map f).eraseIdx j=f x::(l.eraseIdx j).map f;rw [pF f j l]
theorem lG {x:Int × Int × Int}:∀{j:Nat} {ks:List (Int × Int × Int)},ks.Nodup->ks[j]?=Io x->ks.eraseIdx j=ks.filter λy=>decide (y≠x)
 | 0,y::r,nd,h=>by cases h;rw [KA (by simp)];exact ((Mp (p:=λz=>decide (z≠x))).mpr λa ha=>decide_eq_true (λz:a=x=>(Kx.mp nd).1 (z▸ha))).symm
 | j+1,y::r,nd,h=>by
  have hr:r[j]?=Io x:=by simpa using h
  have ne:y≠x:=λz=>(Kx.mp nd).1 (z▸IC hr);rw [KI (by simpa using ne)];show y::r.eraseIdx j=_;rw [lG (Kx.mp nd).2 hr]
theorem yL {x:Int × Int × Int} {ks:List (Int × Int × Int)} (nd:ks.Nodup) (h:x∈ks):∃ j:Nat,ks[j]?=Io x/\∀ i:Nat,i<j->ks[i]?≠Io x:=by obtain⟨j,hj,e⟩:=List.getElem_of_mem h;refine⟨j,by rw [Iv hj,e],λi hi z=>?_⟩;obtain⟨hi',e'⟩:=IB.mp z;exact (LY.mp nd) i j hi' hj hi (by rw [e,e'])
end
structure oK (K:Iq) (sd tl:Iy) (k:KH) (H:Hp):Prop where
 st:iW K sd tl k.most k.c k.ks H
 nd:k.ks.Nodup
 le:mZ k
 m0:0<=k.most
 m1:k.most<=10^6
theorem eO {H H':Hp} {a:Iy} {xs:List V} (h:bj K H a xs) (k:∀ a xs,Rd H a (.tup xs)->Rd H' a (.tup xs)):bj K H' a xs:=by
 rcases h with h | h
 ·exact .inl (k _ _ h)
 ·exact .inr h
def HU (K:Iq) (sd tl pf:Iy) (k:KH) (p b:Int) (e x:Nat) (ps:List (Int × Int)) (H:Hp) (i:Nat) (σ':L2.St) (H':Hp):Prop:=∃ o4 o5 o6 o7 o8,σ'=[Io (.ref sd),Io (.int p),Io (.int b),Io (.ref pf),o4,o5,o6,o7,o8]/\bV sd tl H H'/\oK K sd tl (dF k p b e x (ps.take i)) H'
def HS (K:Iq) (sd tl pf pd t:Iy) (k1:KH) (p b:Int) (qn:Nat) (kx:Int × Int × Int) (H:Hp) (o8:Option V) (σ':L2.St) (H':Hp):Prop:=σ'=[Io (.ref sd),Io (.int p),Io (.int b),Io (.ref pf),Io (.int (qn:Int)),Io (.ref pd),Io (.ref t),Io (.int (rt qn:Nat)),o8]/\bV sd tl H H'/\iW K sd tl k1.most (if kx∈k1.ks then k1.c else k1.c+rt qn) (k1.ks.filter λy=>decide (y≠kx)) H'
def HW (K:Iq) (sd tl pf pd t:Iy) (k1:KH) (p b:Int) (qn:Nat) (kx:Int × Int × Int) (H:Hp) (o8:Option V) (σ':L2.St) (H':Hp):Prop:=σ'=[Io (.ref sd),Io (.int p),Io (.int b),Io (.ref pf),Io (.int (qn:Int)),Io (.ref pd),Io (.ref t),Io (.int (rt qn:Nat)),o8]/\bV sd tl H H'/\iW K sd tl k1.most (if kx∈k1.ks then k1.c else k1.c+rt qn) (fh k1.most (bD k1.ks kx)) H'
def HV (K:Iq) (sd tl pf pd t:Iy) (k1:KH) (p b:Int) (qn x:Nat) (kx:Int × Int × Int) (H:Hp) (j:Nat) (σ':L2.St) (H':Hp):Prop:=∃ o8,σ'=[Io (.ref sd),Io (.int p),Io (.int b),Io (.ref pf),Io (.int (qn:Int)),Io (.ref pd),Io (.ref t),Io (.int (rt qn:Nat)),o8]/\bV sd tl H H'/\iW K sd tl k1.most ((if kx∈k1.ks then k1.c else k1.c+rt qn)+stK x qn j) (fh k1.most (bD k1.ks kx)) H'
def ur (K:Iq):Sp:=λvs H Q _=>∃(sd tl:Iy) (k:KH) (p b:Int) (v:V),vs=[.ref sd,.int p,.int b,v]/\oK K sd tl k H/\2<=p/\p<=10^60 /\ -(10^60)<=b/\b<=10^60/\((∃ e r,dv K H (ip e r) v/\Q .non H)∨(∃(x e:Nat) (ps:List (Int × Int)),dv K H (kK x e ps) v/\(∀ y∈ps,2<=y.1/\y.1<=10^6/\1<=y.2/\y.2<=30)/\ps.length<=29/\e<=10^9/\∀ H',bV sd tl H H'->oK K sd tl (dF k p b e x ps) H'->Q .non H'))
theorem jr:aw ["_law_state","_law_p","_law_b","_law_due","_law_q","_law_digits_here","_law_key","_law_m_here","_law_digit"] ["_law_state","_law_p","_law_b","_law_due"] (ak (top 63)):=dD
theorem BC (D:ax K mg "_law_goes" (top 63)) (c__law_power:Callee P w K mg base aQ 1 "_law_power" ["_law_n","_law_a","_law_e"] qc) (c__law_m:Callee P w K mg base aQ 1 "_law_m" ["_law_q"] HK) (f':mg "len"=none):Callee P w K mg base aQ 2 "_law_goes" ["_law_state","_law_p","_law_b","_law_due"] (ur K):=by
 refine cO D jr (λf cdv A outer s H vs Q E hr h=>?_);obtain⟨sd,tl,k,p,b,v,rfl,S,p2,p9,b0,b1,q⟩:=h;have nd:=jr.nd;refine⟨_,(ae (aS (ay ub (aG a9 (pv 3) ah (λ_ _=>rfl)) dB (aA _)) (ai (az dB)) aD) (ae (b7 IQ rfl (iL (aG a9 (aG a9 (pv 3) ah (λ_ _=>rfl)) ah (λ_ _=>rfl))) (bZ (n:=2) rfl (au (aq (i:=4) nd rfl (Jf rfl) (.inr rfl)) (au (aq (i:=5) nd rfl (Jf rfl) (.inr rfl)) aO))) (ae (bB (i:=6) nd (aF (aa (pv 1) (aa (pv 4) (aa (bN c__law_power hr aB (aa (pv 1) (aa (pv 2) (aa (ar bA (aG a9 (aG a9 (pv 3) ah (λ_ _=>rfl)) ah (λ_ _=>rfl)) (pv 4)) af)))) af))))) (ae (bB (i:=7) nd (bN c__law_m hr aB (aa (pv 4) af))) (ae (cw (aS (ay (Eu hr.units) (pv 6) (bQ (bT hr) (pv 0) aM (λ_ _=>rfl)) (by with_unfolding_all rfl)) (ai (bU (iu JY Qz PySem.F.type_list_remove (Br hr.units) (bQ (bT hr) (pv 0) aM (λ_ _=>rfl)) (aa (pv 6) af)))) (ai (fO (bT hr) (pv 0) aM (ar bc (bQ (bT hr) (pv 0) aM (λ_ _=>rfl)) (pv 7)) rfl)))) (ae (bU (iu JY Kv PySem.F.type_list_append dA (bQ (bT hr) (pv 0) aM (λ_ _=>rfl)) (aa (pv 6) af))) (ae (cw (aS (ay c7 (aC aX rfl f' JG (aa (bQ (bT hr) (pv 0) aM (λ_ _=>rfl)) af)) (bQ (bT hr) (pv 0) aM (λ_ _=>rfl)) (aA _)) (ai (bU (iu JY Rv PySem.F.type_list_pop yJ (bQ (bT hr) (pv 0) aM (λ_ _=>rfl)) (aa ah af)))) aD)) (ai (b7 IQ rfl (iL (pv 5)) (aq (i:=8) nd rfl (Jf rfl) (.inr rfl)) (ai (fO (bT hr) (pv 0) aM (ar bc (ar bc (bQ (bT hr) (pv 0) aM (λ_ _=>rfl)) (ar bA (pv 8) (pv 7))) ah) rfl)))))))))) (ai (az dB)))),?_⟩;show bH _ _ _ [Io (.ref sd),Io (.int p),Io (.int b),Io v,none,none,none,none,none] H;k_data;rcases q with⟨e,r,hv,q⟩|⟨x,e,ps,hv,hps,p29,e9,q⟩
 ·obtain⟨pf,zs,rfl,hSf,v1,r1,rfl,f1,v2,r2,rfl,hf2,z⟩:=hv;cases z;cases f1;refine bM hSf kE ?_;rw [if_pos rfl];exact q
 obtain⟨pf,zs,rfl,hSf,v1,r1,rfl,f1,v2,r2,rfl,hf2,z⟩:=hv;cases z;cases f1;refine bM hSf kE ?_;rw [if_neg (by intro z;cases z)];obtain⟨pg,zs2,rfl,hSg,v3,r3,rfl,f3,v4,r4,rfl,f4,v5,r5,rfl,hf5,z⟩:=hf2;cases z;cases f3;cases f4;obtain⟨ph,us,rfl,hSh,hus⟩:=hf5;refine bM hSf sF (bM hSg rfl ⟨ph,rfl,⟨_,hSh⟩,?_⟩);have ul:us.length=ps.length:=by rw [hus.length,Iu]
 refine lR (xs:=us) (HU K sd tl pf k p b e x ps H) ⟨_,_,_,_,_,rfl,bV.refl,S⟩ (λi σ' H' _ h=>by obtain⟨_,_,_,_,_,_,bt,_⟩:=h;exact eO hSh (S.st.aN bt)) ?_ ?_
 ·rintro i u σ' H1 hu ⟨o4,o5,o6,o7,o8,rfl,bt,S1⟩;have kT:=S.st.aN bt;obtain⟨d,hd1,hd2⟩:=hus.get hu;rw [ID] at hd1;obtain⟨⟨q',t'⟩,hy,rfl⟩:=IE.mp hd1;obtain⟨q2,q6,t1,t9⟩:=hps _ (IC hy);replace q2:2<=q':=q2;replace q6:q'<=10^6:=q6;obtain⟨qn,rfl⟩:∃ n:Nat,q'=n:=⟨q'.toNat,by lia⟩
  obtain⟨pr,ws,rfl,hSr,w1,y1,rfl,g1,w2,y2,rfl,hg2,z⟩:=dv.aN kT _ lX hd2;cases z;cases g1;obtain⟨pd,ds,rfl,hSd,hds⟩:=hg2;have eds:=lL hds;subst eds;have et:dF k p b e x (ps.take (i+1))=sZ (dF k p b e x (ps.take i)) p b e qn x t'.toNat:=by rw [Jv,hy];exact jZ
  generalize dF k p b e x (ps.take i)=k1 at *;k_data;refine⟨pr,_,rfl,hSr,rfl,?_⟩;k_data;refine bM (eO hSf kT) sF (bM (eO hSg kT) sF ⟨_,rfl,by lia,Bd.of (by lia) (by lia),p,b,_,rfl,by lia,by lia,by lia,by lia,L5 (by lia) (by lia),by show 3<=sizeLine;decide,λt ht=>?_⟩);rw [<- Lu,IX] at *;have s2:=aj (o:=.tup [V.int p,V.int (qn:Int),V.int (b^(e/qn)%p)]) ht;have dk2:dv K (upd H1 t (.tup [V.int p,V.int (qn:Int),V.int (b^(e/qn)%p)])) (iJ (p,(qn:Int),b^(e/qn)%p)) (.ref t):=dv.tup ag ⟨_,_,rfl,rfl,_,_,rfl,rfl,.one rfl⟩;have hSd2:=hSd.same s2;have bt2:=bt.trans (bV.of s2);have A2:=S1.st.same s2;generalize upd H1 t _=H2 at *;refine⟨qn,rfl,by lia,by lia,?_⟩;generalize hkx:((p,(qn:Int),b^(e/qn)%p):Int × Int × Int)=kx at *;have r1:=pU (q:=qn) (by lia);have r2:=vi (q:=qn) (by lia);refine⟨HS K sd tl pf pd t k1 p b qn kx H2 o8,?_,?_⟩
  ·k_data;obtain⟨hs2,us2,hl2,hd2'⟩:=id A2;refine⟨_,iQ hs2,tl,us2,kx,k1.ks,rfl,aJ.of hl2,dk2,hd2',_,rfl,?_⟩;by_cases hin:kx∈k1.ks
   ·rw [if_pos (decide_eq_true hin)];obtain⟨j,hj,no⟩:=yL S1.nd hin;refine⟨_,iQ hs2,.inl ⟨rfl,_,aJ.of hl2⟩,tl,us2,_,kx,k1.ks,j,rfl,rfl,hl2,dk2,hd2',hj,no,rfl,bV.xj,?_⟩;rw [if_pos hin,<- lG S1.nd hj];have:=oS j hd2';rw [pF] at this;exact A2.lay this
   ·rw [if_neg (by simpa using hin)];refine⟨_,mI hs2,_,rfl,_,Ah hs2,rfl,bV.AA,?_⟩;rw [if_neg hin,(Mp (p:=λy=>decide (y≠kx))).mpr λa ha=>decide_eq_true (λz:a=kx=>hin (z▸ha))];exact A2.steps
  rintro σ' H3 ⟨rfl,bt3,A3⟩;k_data;obtain⟨hs3,us3,hl3,hd3⟩:=id A3;have klen:(k1.ks.length:Int)<=k1.most:=S1.le;have kmx:=S1.m1;have flen:(k1.ks.filter λy=>decide (y≠kx)).length<=k1.ks.length:=NX _ _;have u3l:us3.length=(k1.ks.filter λy=>decide (y≠kx)).length:=by rw [hd3.length,Iu]
  have dk3:=dv.aN (A2.aN bt3) _ lW dk2;have hSd3:=eO hSd2 (A2.aN bt3);refine⟨_,iQ hs3,.inl ⟨rfl,_,aJ.of hl3⟩,tl,us3,_,rfl,rfl,hl3,J3 (show us3.length<=10^6 by lia) (by decide),?_⟩;have A4:=A3.lay (ks':=bD k1.ks kx) (us:=us3++[.ref t]) (by unfold bD;rw [IT];exact aE.append hd3 (.one dk3));have bt4:bV sd tl H3 (upd H3 tl (.lst (us3++[.ref t]))):=bV.xj;generalize upd H3 tl _=H4 at *;have hSd4:=eO hSd3 (A3.aN bt4);refine⟨HW K sd tl pf pd t k1 p b qn kx H4 o8,?_,?_⟩
  ·k_data;obtain⟨hs4,us4,hl4,hd4⟩:=id A4;have u4l:us4.length=(bD k1.ks kx).length:=by rw [hd4.length,Iu]
   refine⟨_,iQ hs4,cf (aJ.of hl4) ⟨_,Ci hs4,_,rfl,_,rfl,aZ (λc=>?_) (λc=>?_)⟩⟩
   ·obtain⟨u0,us4',rfl⟩:∃ u r,us4=u::r:=by
     cases us4 with
     | nil=>rw [LI] at c;have:=S1.m0;lia
     | cons u r=>exact⟨u,r,rfl⟩
    refine⟨_,iQ hs4,.inl ⟨rfl,_,aJ.of hl4⟩,tl,_,0,0,u0,rfl,rfl,hl4,by decide,by decide,QI (by decide) (by rw [JU];lia),rfl,rfl,bV.xj,?_⟩;have e1:fh k1.most (bD k1.ks kx)=(bD k1.ks kx).eraseIdx 0:=by unfold fh;rw [if_pos (by rw [<- u4l];exact c)];cases bD k1.ks kx<;>rfl
    rw [e1];have:=oS 0 hd4;rw [pF] at this;exact A4.lay this
   ·refine⟨rfl,bV.refl,?_⟩;have e2:fh k1.most (bD k1.ks kx)=bD k1.ks kx:=if_neg (by rw [<- u4l];exact c);rw [e2];exact A4
  rintro σ' H5 ⟨rfl,bt5,A5⟩;k_data;have hSd5:=eO hSd4 (A4.aN bt5);refine⟨⟨_,hSd5⟩,?_⟩;have BT5:=bt2.trans (bt3.trans (bt4.trans bt5));refine lR (xs:=((Num.cD x qn t'.toNat).map λd:Nat=>(d:Int)).map V.int) (HV K sd tl pf pd t k1 p b qn x kx H5) ⟨_,rfl,bV.refl,?_⟩ (λj σ' H' _ h=>by obtain⟨_,_,bt,_⟩:=h;exact eO hSd5 (A5.aN bt)) ?_ ?_
  ·show iW K sd tl k1.most (_+0) _ _;rw [NL];exact A5
  ·rintro j w' σ' H6 hw ⟨o8',rfl,bt6,A6⟩;rw [ID,ID] at hw;obtain⟨c1,hc1,rfl⟩:=IE.mp hw;obtain⟨c2,hc2,rfl⟩:=IE.mp hc1;have jt:j<t'.toNat:=by
    have:=(IB.mp hc2).1
    rwa [Num.dJ] at this
   rw [Num.oQ jt] at hc2;cases hc2;obtain⟨hs6,us6,hl6,hd6⟩:=id A6;k_data;refine⟨_,mI hs6,by lia,Bd.of (by lia) (by lia),_,rfl,_,Ah hs6,_,rfl,bt6.trans bV.AA,?_⟩;generalize (if kx∈k1.ks then k1.c else k1.c+((rt qn:Nat):Int))=cc at *;have e3:cc+stK x qn (j+1)=cc+stK x qn j+((x/qn^j%qn:Nat):Int)/((rt qn:Nat):Int)+1:=by rw [sr,Lu];lia
   rw [e3];exact A6.steps
  ·rintro σ' H6 ⟨o8',rfl,bt6,A6⟩;rw [Iu,Iu,Num.dJ] at A6;refine⟨_,_,_,_,_,rfl,BT5.trans bt6,?_⟩;rw [et];have dK:sZ k1 p b e qn x t'.toNat=iH (jD k1 kx) (stK x qn t'.toNat):=by rw [<- hkx];rfl
   rw [dK];have kq:kx.2.1.toNat=qn:=by rw [<- hkx];exact IX qn
   refine⟨?_,?_,mZ.use S1.le S1.m0,S1.m0,S1.m1⟩
   ·show iW K sd tl k1.most ((if kx∈k1.ks then k1.c else k1.c+((rt kx.2.1.toNat:Nat):Int))+stK x qn t'.toNat) (fh k1.most (bD k1.ks kx)) H6;rw [kq];exact A6
   ·show (fh k1.most (bD k1.ks kx)).Nodup;unfold fh;split
    ·exact (uz S1.nd).sublist (List.tail_sublist _)
    ·exact uz S1.nd
 ·rintro σ' H1 ⟨o4,o5,o6,o7,o8,rfl,bt,S1⟩;rw [ul,JI] at S1;k_data;exact q H1 bt S1
end
end K
namespace K
open PySem PySem.Spec PyProof.Rows L2
section
variable {P:IM} {w:Jo} {K:Iq} {mg:Jb->Option Ir} {base:JD}
theorem tf {H:Hp} {d1 d2:IL} {v:V} (h:dv K H (.tuple [d1,d2]) v):∃ p x1 x2,v=.ref p/\bj K H p [x1,x2]/\dv K H d1 x1/\dv K H d2 x2:=by obtain⟨p,xs,rfl,h1,x1,r1,rfl,e1,x2,r2,rfl,e2,z⟩:=h;cases z;exact⟨p,x1,x2,rfl,h1,e1,e2⟩
structure qw (ps:List Int) (ds:List IL):Prop where
 len:ds.length=ps.length
 pap:∀(i:Nat) p d,ps[i]?=Io p->ds[i]?=Io d->Num.gT p d
theorem qw.at {ps:List Int} {ds:List IL} (h:qw ps ds) {H:Hp} {us:List V} (hd:aE K H ds us) {i:Nat} {x:V} (hx:us[i]?=Io x):∃ p g rows,ps[i]?=Io p/\Num.gT p (.tuple [.int p,.int g,rows])/\dv K H (.tuple [.int p,.int g,rows]) x:=by obtain⟨d,h1,h2⟩:=hd.get hx;have hi:=(IB.mp h1).1;rw [h.len] at hi;have hp:=Iv hi;have hP:=h.pap i _ d hp h1;obtain⟨g,qs,ds0,rfl,_⟩:=u4 hP;exact⟨_,g,_,hp,hP,h2⟩
theorem qw.pm {ps:List Int} {ds:List IL} (h:qw ps ds) {p:Int} (hp:p∈ps):Num.Pm p/\p<=10^9:=by obtain⟨i,hi,e⟩:=K5.mp hp;have hl:=h.len;exact ir (h.pap i p _ (by rw [<- e];exact Iv hi) (Iv (by lia)))
end
end K
namespace K
open PySem PySem.Spec PyProof.Rows L2
section
variable {P:IM} {w:Jo} {K:Iq} {mg:Jb->Option Ir} {base:JD} {C:Iy}
noncomputable def Hd (i j:Nat) (y z:Int × Int):IL:=.tuple [.none,.tuple [.str "apart",.int i,.int j,eB y,eB z]]
noncomputable def He (x:Int) (pls:List (Int × Int)):IL:=.tuple [.int x,.tuple [.str "by",.tuple (pls.map eB)]]
structure Fg (pls:List (Int × Int)) (i j:Nat) (y z:Int × Int):Prop where
 lt:i<j
 ap:Ap pls i j
 no:∀ i' j',i'<j'->(i'<i∨(i'=i/\j'<j))->¬Ap pls i' j'
 sF:pls[i]?=Io y
 at2:pls[j]?=Io z
def si (K:Iq):Sp:=λvs H Q _=>∃(a:Iy) (us:List V) (pls:List (Int × Int)),vs=[.ref a]/\aJ K H a us/\aE K H (pls.map eB) us/\(∀ p∈pls,Bz p)/\pls.length<=12/\(∀ i j y z v H',Fg pls i j y z->av H H'->dv K H' (Hd i j y z) v->Q v H')/\(∀ W x v H',(∀ i j,i<j->¬Ap pls i j)->Crt.Told pls W x->W<=10^220->av H H'->dv K H' (He x pls) v->Q v H')
theorem n8:aw ["places","told","i","j"] ["places"] (ak (top 48)):=dD
theorem wF (D:ax K mg "placed" (top 48)) (c_put_together:Callee P w K mg base aQ 5 "put_together" ["places"] (Ad K)) (f':mg "len"=none) (A':mg "tuple"=none):Callee P w K mg base aQ 6 "placed" ["places"] (si K):=by
 refine cO D n8 (λf cdv A outer s H vs Q E hr h=>?_);obtain⟨a,us,pls,rfl,hS,hd,hok,hlen,q1,q2⟩:=h;have nd:=n8.nd;refine⟨_,(ae (bB (i:=1) nd (bN c_put_together hr aB (aa (pv 0) af))) (ae (aS (ay cL (aC aX rfl f' JG (aa (pv 1) af)) ah (aA _)) (ae (eC (gF z5 (pv 1) (fN ah) jh) (bZ (n:=2) rfl (au (aq (i:=2) nd rfl (Jf rfl) (.inr rfl)) (au (aq (i:=3) nd rfl (Jf rfl) (.inr rfl)) aO)))) (ai (az (aF (aa dB (aa (aF (aa aM (aa (pv 2) (aa (pv 3) (aa (aG bz (pv 0) (pv 2) (λ_ _=>rfl)) (aa (aG bz (pv 0) (pv 3) (λ_ _=>rfl)) af)))))) af)))))) aD) (ai (az (aF (aa (aG a9 (pv 1) ah (λ_ _=>rfl)) (aa (aF (aa aM (aa (cI bS rfl A' L2.boot_tuple (aa (pv 0) af)) af))) af))))))),?_⟩;show bH _ _ _ [Io (.ref a),none,none,none] H;have at_:∀{k:Nat} {y:Int × Int},pls[k]?=Io y->∃ x,us[k]?=Io x/\dv K H (eB y) x:=by
  intro k y hy;have hk:=(IB.mp hy).1;have hul:us.length=pls.length:=by rw [hd.length,Iu]
  have hx:=Iv (show k<us.length by lia);obtain⟨d,e,hv⟩:=hd.get hx;rw [ID,hy] at e;cases e;exact⟨_,hx,hv⟩
 k_data;refine⟨a,us,pls,rfl,hS,hd,hok,hlen,λi j p H1 ij ap no s1 f1 e1=>?_,λW x p H1 no T hW s1 f1 e1=>?_⟩
 ·obtain⟨y,z,g,e2,e3,G,nd'⟩:=ap;obtain⟨x1,h1,v1⟩:=at_ e2;obtain⟨x2,h2,v2⟩:=at_ e3;refine i9 (bj.of e1) ⟨rfl,?_⟩;rw [if_pos (by rfl)];refine⟨p,_,rfl,bj.of e1,λz=>absurd z.1 (by show ¬HT.cR 3 0 (Io 1)=0;decide),λp2 hp2=>?_⟩;have s2:=aj (o:=.tup (fj [V.str "apart",V.int (i:Nat),V.int (j:Nat)] (Io 1) none)) hp2;have S2:=s1.trans s2;have e4:upd H1 p2 (.tup (fj [V.str "apart",V.int (i:Nat),V.int (j:Nat)] (Io 1) none)) p2=Io (.tup [V.int (i:Nat),V.int (j:Nat)]):=ag;generalize upd H1 p2 _=H2 at *;refine⟨p2,_,rfl,bj.of e4,rfl,?_⟩;k_data;refine⟨a,us,_,x1,rfl,rfl,hS.same S2,fJ h1,⟨a,us,_,x2,rfl,rfl,hS.same S2,fJ h2,⟨by show 5<=sizeLine;decide,λp5 hp5=>⟨by show 2<=sizeLine;decide,λp6 hp6=>?_⟩⟩⟩⟩;have s5:=aj (o:=.tup [V.str "apart",V.int (i:Nat),V.int (j:Nat),x1,x2]) hp5;have s6:=aj (o:=.tup [V.non,V.ref p5]) hp6;have S6:=S2.trans (s5.trans s6);exact q1 i j y z _ _ ⟨ij,⟨y,z,g,e2,e3,G,nd'⟩,no,e2,e3⟩ S6 (dv.tup ag ⟨_,_,rfl,rfl,.one (dv.tup (s6 _ _ ag) ⟨_,_,rfl,rfl,_,_,rfl,rfl,_,_,rfl,rfl,_,_,rfl,dv.same S6 _ v1,.one (dv.same S6 _ v2)⟩)⟩)
 ·refine i9 (bj.of e1) ⟨rfl,?_⟩;rw [if_neg (by intro z;cases z)];refine bM (bj.of e1) rfl ⟨us,.inl ⟨hS.same s1,λl hl'=>⟨by show 2<=sizeLine;decide,λp5 hp5=>⟨by show 2<=sizeLine;decide,λp6 hp6=>?_⟩⟩⟩⟩;have s4:=aj (o:=.tup us) hl';have s5:=aj (o:=.tup [V.str "by",V.ref l]) hp5;have s6:=aj (o:=.tup [V.int x,V.ref p5]) hp6;have S6:=s1.trans (s4.trans (s5.trans s6));exact q2 W x _ _ no T hW S6 (dv.tup ag ⟨_,_,rfl,rfl,.one (dv.tup (s6 _ _ ag) ⟨_,_,rfl,rfl,.one (dv.tup (s6 _ _ (s5 _ _ ag)) (aE.same S6 _ hd))⟩)⟩)
def DB (p b:Int) (d:IL):Prop:=∃(e:Nat) (pl:List (Int × Int)) (rws:List IL),d=.tuple [.int e,.tuple rws]/\Num.Ord p b e/\(e:Int)<p/\Num.Part e pl/\sI rws pl/\Fj rws (pl.map (·.1))
theorem BK {p b:Int} {rows r:IL} (p9:p<=10^9) (h:sM p b rows r):DB p b r:=by
 obtain⟨e',ps,ds,ts,er,hP,hl29,hds,e1,e2,o,to,rfl⟩:=h;obtain⟨e,rfl⟩:∃ n:Nat,e'=n:=⟨e'.toNat,by lia⟩
 rw [IX] at o;have hG:sI ((cS ps ds ts).map (fe p b e)) ((cS ps ds ts).map kp):=by refine⟨by rw [Iu,Iu],λi row hrow=>?_⟩;rw [ID] at hrow;obtain⟨y,hy,rfl⟩:=IE.mp hrow;obtain⟨j,k,h1,h2,h3,h4⟩:=eh (IC hy);obtain⟨g',rr,eg⟩:=(hds j _ _ h1).head;exact⟨kp y,by rw [ID,hy];rfl,_,_,by unfold fe;rw [h4,eg];rfl⟩
 refine⟨e,_,_,rfl,o,e2,nH (ds:=ds) hP to o (by lia),hG,?_⟩;refine⟨by rw [Iu,Iu,Iu],λi row hrow=>?_⟩;obtain⟨y,hy,d1,d2,ed⟩:=hG.2 i row hrow;exact⟨y.1,by rw [ID,hy];rfl,d1,_,ed⟩
theorem BL {p b:Int} {rows r:IL} (h:sM p b rows r):kX r=true:=by obtain⟨e,ps,ds,ts,_,_,_,hds,_,_,_,_,rfl⟩:=h;show (true && (dP ((cS ps ds ts).map (fe p b e)) && true))=true;rw [Rn,Oc];refine gA λrow hr=>?_;obtain⟨y,hy,rfl⟩:=IV.mp hr;obtain⟨j,k,h1,_,_,h4⟩:=eh hy;show (kX y.1 && (true && (true && true)))=true;rw [h4,u5 (hds j _ _ h1)];rfl
theorem kY {e:Nat} {pl:List (Int × Int)} (h:Num.Part e pl) (e1:1<=e) {y:Int × Int} (hy:y∈pl):y.1<=e:=by have:=Num.d6 hy (h.ok y hy).2.1;rw [h.prod] at this;exact Jh (by lia) this
structure AQ (ps:List Int) (b a:Int) (pls:List (Int × Int)):Prop where
 len:pls.length=ps.length
 ok:∀(i:Nat) p y,ps[i]?=Io p->pls[i]?=Io y->∃ e x:Nat,y=((e:Int),(x:Int))/\x<e/\Num.Ord p b e/\(e:Int)<p/\Num.Al p a (b^x)
inductive WO where
 | no (n e:Nat) (r:Int)
 | ap (i j:Nat) (y z:Int × Int)
 | is (pls:List (Int × Int))
def vN (ps:List Int) (b a:Int):WO->Prop
 | .no n e r=>∃ p,ps[n]?=Io p/\Num.Ord p b e/\¬Num.Al p (a^e) 1/\r=a^e%p/\∀(i:Nat) p' e',i<n->ps[i]?=Io p'->Num.Ord p' b e'->Num.Al p' (a^e') 1
 | .ap i j y z=>∃ pls,AQ ps b a pls/\Fg pls i j y z
 | .is pls=>AQ ps b a pls/\∀ i j,i<j->¬Ap pls i j
noncomputable def xy (x:Int):WO->IL
 | .no n e r=>.tuple [.none,.tuple [.str "none",.int n,.int e,.int r]]
 | .ap i j y z=>Hd i j y z
 | .is pls=>He x pls
def qy (x:Int):WO->Prop
 | .is pls=>∃ W,Crt.Told pls W x
 | _=>True
def GX (H:Hp) (ps:List Int) (a:Int) (i:Nat) (zs:List V) (H1:Hp):Prop:=H1=H/\zs=((ps.take i).map λp=>decide (a%p=0)).map V.bl
def GY (K:Iq) (H:Hp) (ps:List Int) (b:Int) (i:Nat) (zs:List V) (H1:Hp):Prop:=av H H1/\∃ os:List IL,os.length=i/\aE K H1 os zs/\∀(j:Nat) p d,ps[j]?=Io p->os[j]?=Io d->¬p∣b/\DB p b d/\kX d=true
def GZ (vk:V) (H2:Hp) (pa po:Iy) (ps:List Int) (b a:Int) (i:Nat) (σ':L2.St) (H3:Hp):Prop:=av H2 H3/\(∃ o5 o6 o7 o8,σ'=[Io (.ref pa),Io (.int b),Io (.int a),Io vk,Io (.ref po),o5,o6,o7,o8,none])/\∀(j:Nat) p e,j<i->ps[j]?=Io p->Num.Ord p b e->Num.Al p (a^e) 1
def Fo (H:Hp) (n:Nat) (zs:List V) (H1:Hp):Prop:=av H H1/\∃ ns:List Int,zs=ns.map V.int/\ns.length<=n/\∀ m∈ns,m<=10^6
theorem vm {α β:Type} {R:α->β->Prop} {xs:List α} {ys:List β} {x:α} {y:β} (h:∀(j:Nat) u v,xs[j]?=Io u->ys[j]?=Io v->R u v) (hx:xs[ys.length]?=Io x) (hr:R x y):∀(j:Nat) u v,xs[j]?=Io u->(ys++[y])[j]?=Io v->R u v:=by
 intro j u v h1 h2;by_cases c:j<ys.length
 ·rw [KC c] at h2;exact h j u v h1 h2
 ·rw [MW (by lia)] at h2;have z:j-ys.length=0:=by
   rcases Jy (j-ys.length) with y | y
   ·exact y
   ·rw [MO (by simp;lia)] at h2;cases h2
  rw [z] at h2;cases h2;rw [show j=ys.length by lia,hx] at h1;cases h1;exact hr
abbrev Rw:=Int × Nat × Nat × List (Int × Int)
structure jK (p b a:Int) (r:Rw):Prop where
 pe:r.1=p
 o:Num.Ord p b r.2.1
 lt:(r.2.1:Int)<p
 x:r.2.2.1<r.2.1
 al:Num.Al p a (b^r.2.2.1)
 pt:Num.Part r.2.1 r.2.2.2
structure d5 (ps:List Int) (b a:Int) (rs:List Rw):Prop where
 len:rs.length=ps.length
 ok:∀(i:Nat) p r,ps[i]?=Io p->rs[i]?=Io r->jK p b a r
noncomputable def bF (b:Int) (k:KH) (rs:List Rw):KH:=rs.foldl (λk r=>dF k r.1 b r.2.1 r.2.2.1 r.2.2.2) k
theorem kC {b:Int} {k:KH} {rs:List Rw} {r:Rw}:bF b k (rs++[r])=dF (bF b k rs) r.1 b r.2.1 r.2.2.1 r.2.2.2:=by unfold bF;rw [Py];rfl
theorem jY {b:Int}:∀(rs:List Rw) (k:KH),(bF b k rs).a=k.a/\(bF b k rs).d=k.d/\(bF b k rs).most=k.most
 | [],k=>⟨rfl,rfl,rfl⟩
 | r::rs,k=>by obtain⟨h1,h2,h3⟩:=jY rs (dF k r.1 b r.2.1 r.2.2.1 r.2.2.2);obtain⟨g1,g2,g3⟩:=jx (p:=r.1) (b:=b) (e:=r.2.1) (x:=r.2.2.1) r.2.2.2 k;exact⟨h1.trans g1,h2.trans g2,h3.trans g3⟩
theorem br.lst {ko:Option KH} {v:V} {f:KH->KH} {H H':Hp} {p:Iy} {xs:List V} (h:jJ C ko v H) (g:br C ko f H H') (e:H p=Io (.lst xs)):H' p=Io (.lst xs):=by
 cases ko with
 | none=>exact (show av H H' from g) _ _ e
 | some k=>exact h.2.1.keep g.1 e
theorem br.tup {ko:Option KH} {v:V} {f:KH->KH} {H H':Hp} (h:jJ C ko v H) (g:br C ko f H H'):∀ a xs,Rd H a (.tup xs)->Rd H' a (.tup xs):=by
 cases ko with
 | none=>exact λa xs z=>Rd.same z (show av H H' from g)
 | some k=>exact h.2.1.aN g.1
theorem br.then {ko:Option KH} {f g:KH->KH} {H H1 H2:Hp} (hf:∀ k,(f k).a=k.a/\(f k).d=k.d/\(f k).most=k.most) (h:br C ko f H H1) (h2:br C (ko.map f) g H1 H2):br C ko (λk=>g (f k)) H H2:=by
 cases ko with
 | none=>exact (show av H H1 from h).trans (show av H1 H2 from h2)
 | some k =>obtain⟨b1,b2,b3⟩:=h;obtain⟨c1,c2,c3⟩:=h2;obtain⟨e1,e2,_⟩:=hf k;rw [e1,e2] at c1;exact⟨b1.trans c1,c2,c3⟩
theorem br.EE {ko:Option KH} {v:V} {f:KH->KH} {H H1:Hp} (hf:∀ k,(f k).a=k.a/\(f k).d=k.d/\(f k).most=k.most) (h:jJ C ko v H) (g:br C ko f H H1):jJ C (ko.map f) v H1:=by
 cases ko with
 | none=>exact h
 | some k=>exact⟨by rw [h.1,(hf k).1],g.2.1,g.2.2⟩
theorem br.refl {ko:Option KH} {v:V} {H:Hp} (h:jJ C ko v H):br C ko id H H:=by
 cases ko with
 | none=>exact av.refl H
 | some k=>exact⟨bV.refl,h.2.1,h.2.2⟩
theorem br.same {ko:Option KH} {f:KH->KH} {H H1 H2:Hp} (h:br C ko f H H1) (s:av H1 H2):br C ko f H H2:=by
 cases ko with
 | none=>exact (show av H H1 from h).trans s
 | some k=>exact⟨h.1.trans (bV.of s),h.2.1.same s,h.2.2⟩
def uD (C:Iy) (ko:Option KH) (ps:List Int) (b a:Int) (o:WO) (H H':Hp):Prop:=match o with
 | .no _ _ _=>av H H'
 | _=>∃ rs,d5 ps b a rs/\br C ko (λk=>bF b k rs) H H'
def Fp (K:Iq) (C:Iy) (ko:Option KH) (H:Hp) (ps:List Int) (b a:Int) (i:Nat) (zs:List V) (H1:Hp):Prop:=∃ rs:List Rw,br C ko (λk=>bF b k rs) H H1/\rs.length=i/\aE K H1 ((rs.map λr=>(((r.2.1:Nat):Int),((r.2.2.1:Nat):Int))).map eB) zs/\∀(j:Nat) p r,ps[j]?=Io p->rs[j]?=Io r->jK p b a r
def j4 (K:Iq) (C CN:Iy):Sp:=λvs H Q E=>∃(pa:Iy) (us:List V) (ps:List Int) (ds:List IL) (b a:Int) (vk:V) (ko:Option KH),vs=[.ref pa,.int b,.int a,vk]/\H pa=Io (.lst us)/\aE K H ds us/\qw ps ds/\ps.length<=12/\(∀ p∈ps,p<=10^6) /\ -(10^60)<=b/\b<=10^60 /\ -(10^60)<=a/\a<=10^60/\jJ C ko vk H/\((∃ p∈ps,p∣a∨p∣b)->AI CN H E) /\
 ((∀ p∈ps,¬p∣a/\¬p∣b)->∀ o x v H',vN ps b a o->qy x o->uD C ko ps b a o H H'->dv K H' (xy x o) v->Q v H')
theorem kA:aw ["papers","b","a","kept","orders","n","paper","e","rest","places"] ["papers","b","a","kept"] (ak (top 47)):=dD
theorem ua {CN CF C0:Iy} (D:jH K mg "which_of" (top 47) #[.none]) (c_order:Callee P w K mg base (cZ P w) 14 "order" ["paper","a"] (qf K CN)) (D':Callee P w K mg base (cZ P w) 4 "power" ["n","a","e"] (dW C0)) (c_refuse_far:Callee P w K mg base (cZ P w) 3 "refuse_far" ["primes"] (z8 K CF)) (c_primes_in:Callee P w K mg base aQ 1 "primes_in" ["parts"] (eK K)) (c_sought:Callee P w K mg base aQ 6 "sought" ["p","b","a","order_paper","kept"] (mG K C)) (c_placed:Callee P w K mg base aQ 6 "placed" ["places"] (si K)) (x_Nought:sN K mg "Nought" CN) (n_any:mg "any"=none) (n_enumerate:mg "enumerate"=none) (K':mg "zip"=none):fH P w K mg base (cZ P w) 15 "which_of" ["papers","b","a","kept"] [.none] (j4 K C CN):=by
 refine j7 D (λ_ _ _ _ _ _ _ us hl=>match us,(show us.length=4 by simpa using hl) with | [_,_,_,_],_=>⟨_,rfl,rfl⟩) (λ_ _ _ _ _ _ _ us hl=>match us,(show us.length=3 by simpa using hl) with | [_,_,_],_=>⟨_,rfl,rfl⟩) kA (λvs H Q E h=>by obtain⟨_,_,_,_,_,_,_,_,rfl,_⟩:=h;rfl) (λf cdv A outer s H vs Q E hr h=>?_);obtain⟨pa,us,ps,ds,b,a,vk,ko,rfl,epa,hd,hP,hl,p6,b0,b1,a0,a1,pre,qN,q⟩:=h;have hS:=aJ.of (K:=K) epa;have nd:=kA.nd;refine⟨_,(ae (aS (b8 (aC (xM rfl) rfl n_any L2.boot_any (aa (fz rfl (lD (N':=["paper","a"]) (js:=[none,Io 2]) rfl rfl) (bp (pv 0)) (λ_ _ _ _=>(aq (i:=0) (show JJ [("paper":Jb),("a":Jb)] from by decide +kernel) rfl (Jf rfl) (.inr rfl))) (λ_ _ _ _=>aR) (λ_ _ _ _=>(dH cL (ar aH (pv 1) (aG (bL K rfl) (pv 0) ah (λ_ _=>rfl))) ah (aA _)))) af)) (λ_=>rfl)) (ai (cP (me x_Nought rfl))) aD) (ae (zL (i0:=4) nd rfl (Jf rfl) rfl (lD (N':=["paper","b"]) (js:=[none,Io 1]) rfl rfl) (bp (pv 0)) (λ_ _ _ _ _=>(aq (i:=0) (show JJ [("paper":Jb),("b":Jb)] from by decide +kernel) rfl (Jf rfl) (.inr rfl))) (λ_ _ _ _ _=>aR) (λ_ _ _ _ lc=>(bN c_order hr (wO lc) (aa (pv 0) (aa (pv 1) af)))) (by rfl) (by first | exact .inl rfl | exact .inr rfl)) (ae (EF (b7 IQ rfl (jg rfl n_enumerate (aa (pv 0) af)) (bZ (n:=2) rfl (au (aq (i:=5) nd rfl (Jf rfl) (.inr rfl)) (au (aq (i:=6) nd rfl (Jf rfl) (.inr rfl)) aO))) (ae (bB (i:=7) nd (aG a9 (aG bz (pv 4) (pv 5) (λ_ _=>rfl)) ah (λ_ _=>rfl))) (ae (bB (i:=8) nd (bN D' hr aI (aa (aG a9 (pv 6) ah (λ_ _=>rfl)) (aa (pv 2) (aa (pv 7) af))))) (ai (aS (ay fY (pv 8) ah (aA _)) (ai (az (aF (aa dB (aa (aF (aa aM (aa (pv 5) (aa (pv 7) (aa (pv 8) af))))) af))))) aD)))))) (ae (bU (bN c_refuse_far hr jc (aa (EA rfl (lD (N':=["e","parts","prime"]) (js:=[none,none,none]) rfl rfl) (bp (pv 4)) (λ_ _ _ _=>(c8 K rfl (n:=2) rfl (au (aq (i:=0) (show JJ [("e":Jb),("parts":Jb),("prime":Jb)] from by decide +kernel) rfl (Jf rfl) (.inr rfl)) (au (aq (i:=1) (show JJ [("e":Jb),("parts":Jb),("prime":Jb)] from by decide +kernel) rfl (Jf rfl) (.inr rfl)) aO)))) (λ_ _ _ _=>aR) (λ_ _ _ _=>(zE (K:=K) rfl (bN c_primes_in hr aB (aa (pv 1) af)))) (λ_ _ _ _=>(aq (i:=2) (show JJ [("e":Jb),("parts":Jb),("prime":Jb)] from by decide +kernel) rfl (Jf rfl) (.inr rfl))) (λ_ _ _ _=>aR) (λ_ _ _ _=>(pv 2))) af))) (iG.lY (ae (eU (i0:=9) nd rfl (Jf rfl) rfl (lD (N':=["paper","row","b","a","kept"]) (js:=[none,none,Io 1,Io 2,Io 3]) rfl rfl) (uf .l .l rfl K' (aa (pv 0) (aa (pv 4) af))) (λ_ _ _ _=>(c8 K rfl (n:=2) rfl (au (aq (i:=0) (show JJ [("paper":Jb),("row":Jb),("b":Jb),("a":Jb),("kept":Jb)] from by decide +kernel) rfl (Jf rfl) (.inr rfl)) (au (aq (i:=1) (show JJ [("paper":Jb),("row":Jb),("b":Jb),("a":Jb),("kept":Jb)] from by decide +kernel) rfl (Jf rfl) (.inr rfl)) aO)))) (λ_ _ _ _=>aR) (λ_ _ _ _=>(aF (aa (aG (bL K rfl) (pv 1) ah (λ_ _=>rfl)) (aa (aG (bL K rfl) (bN c_sought hr aB (aa (aG (bL K rfl) (pv 0) ah (λ_ _=>rfl)) (aa (pv 2) (aa (pv 3) (aa (pv 1) (aa (pv 4) af)))))) ah (λ_ _=>rfl)) af)))) (by rfl) (by first | exact .inl rfl | exact .inr rfl)) (ai (az (bN c_placed hr aB (aa (pv 9) af)))))))))),?_⟩;show bH _ _ _ [Io (.ref pa),Io (.int b),Io (.int a),Io vk,none,none,none,none,none,none] H;have ul:us.length=ps.length:=by rw [hd.length,hP.len]
 k_data;refine⟨⟨_,hS⟩,?_⟩;refine aY (xs:=us) (λi zs H1=>GX H ps a i zs H1) ⟨rfl,rfl⟩ (by rw [ul];exact IJ hl (by decide)) (λi zs H1 hi ⟨e1,e2⟩=>⟨e1▸hS,by rw [e2,Iu,Iu,JE];lia⟩) ?_ ?_
 ·rintro i x zs H1 hx ⟨eH,ez⟩;rw [eH];obtain⟨p,g,rows,hp,hPap,hv⟩:=hP.at hd hx;have p2:=(ir hPap).1.two;obtain⟨pp,y1,y2,vr,rfl,tS,e0,eg,dr⟩:=tj hv;cases e0;show cn 0 _ [none,Io (.int a)] _ _;k_data;refine⟨⟨rfl,True.intro⟩,bM tS kE ⟨p,rfl,by lia,rfl,?_⟩⟩;rw [ez,Jv,hp,OZ,IT,IT];rfl
 rintro zs H1 pz ⟨eH,ez⟩ hpz;rw [eH] at hpz ⊢;rw [ul,JI] at ez;rw [ez];refine⟨pz,_,rfl,aJ.of ag,_,bh.mpr rfl,?_⟩;have s1:=aj (o:=.lst (((ps.map λp=>decide (a%p=0)).map V.bl))) hpz;generalize upd H pz _=H1 at *;refine aZ (λc=>?_) (λc=>?_)
 ·rw [Mu] at c;obtain⟨y,hy,yt⟩:=c;obtain⟨p,hp,rfl⟩:=IV.mp hy;exact λx hx=>fk x_Nought.cls s1 hx (qN ⟨p,hp,.inl (I0 (of_decide_eq_true yt))⟩)
 have na:∀ p∈ps,¬p∣a:=λp hp z=>c (Mu.mpr ⟨_,IV.mpr ⟨p,hp,rfl⟩,decide_eq_true (JP z)⟩);refine⟨⟨_,hS.same s1⟩,?_⟩;refine aY (xs:=us) (λi zs H2=>GY K H ps b i zs H2) ⟨s1,[],rfl,rfl,λj p d z1 z2=>by simp at z2⟩ (by rw [ul];exact IJ hl (by decide)) (λi zs H2 hi ⟨e1,os,e2,e3,_⟩=>⟨hS.same e1,by rw [e3.length];lia⟩) ?_ ?_
 ·rintro i x zs H2 hx ⟨s2,os,ol,hz,ho⟩;obtain⟨p,g,rows,hp,hPap,hv⟩:=hP.at hd hx;have mp:=IC hp;show cn 0 _ [none,Io (.int b)] _ _;k_data;refine⟨⟨rfl,True.intro⟩,x,p,b,g,rows,rfl,dv.same s2 _ hv,hPap,b0,b1,λz=>AI.pre s2 (qN ⟨p,mp,.inr z⟩),λnb r u H3 hO s3 hu=>?_⟩;refine⟨s2.trans s3,os++[r],by simp [ol],aE.append (aE.same s3 _ hz) (.one hu),?_⟩;exact vm (R:=λp d=>¬p∣b/\DB p b d/\kX d=true) ho (by rw [ol];exact hp) ⟨nb,BK (ir hPap).2 hO,BL hO⟩
 rintro zo H2 po ⟨s2,os,ol,hz,ho⟩ hpo;have s3:=aj (o:=.lst zo) hpo;have ol':os.length=ps.length:=by lia
 have zl:zo.length=ps.length:=by rw [hz.length];lia
 have epo:upd H2 po (.lst zo) po=Io (.lst zo):=ag;have hz3:=aE.same s3 _ hz;have S3:=s2.trans s3;generalize upd H2 po _=H3 at *;have nab:∀ p∈ps,¬p∣a/\¬p∣b:=λp hp=>⟨na p hp,by
  obtain⟨i,hi,e⟩:=K5.mp hp;exact (ho i p _ (by rw [<- e];exact Iv hi) (Iv (show i<os.length by lia))).1⟩
 replace q:=q nab;have at_:∀{i:Nat} {x:V},zo[i]?=Io x->∃ p e pl rws pq vr,ps[i]?=Io p/\Num.Pm p/\p<=10^6/\x=.ref pq/\bj K H3 pq [.int (e:Nat),vr]/\dv K H3 (.tuple [.int (e:Nat),.tuple rws]) x/\dv K H3 (.tuple rws) vr/\Num.Ord p b e/\(e:Int)<p/\Num.Part e pl/\sI rws pl/\Fj rws (pl.map (·.1))/\kX (.tuple [.int (e:Nat),.tuple rws])=true:=by intro i x hx;obtain⟨d,hd',hv⟩:=hz3.get hx;have hi:=(IB.mp hd').1;have hp:=Iv (show i<ps.length by lia);obtain⟨_,⟨e,pl,rws,rfl,o,ep,hpt,hG,hQ⟩,nld⟩:=ho i _ d hp hd';have hv':=hv;obtain⟨pq,x1,x2,rfl,tq,f1,f2⟩:=tf hv;cases f1;exact⟨_,e,pl,rws,pq,x2,hp,(hP.pm (IC hp)).1,p6 _ (IC hp),rfl,tq,hv',f2,o,ep,hpt,hG,hQ,nld⟩
 refine⟨⟨_,hS.same S3⟩,?_⟩;refine gY (xs:=us) (λi σ' H4=>GZ vk H3 pa po ps b a i σ' H4) ⟨av.refl _,⟨_,_,_,_,rfl⟩,λj p e z=>by lia⟩ (λi σ' H4 _ h=>hS.same (S3.trans h.1)) ?_ ?_
 ·rintro i x σ' H4 pt hx ⟨s4,⟨o5,o6,o7,o8,rfl⟩,hno⟩ hpt;obtain⟨p,g,rows,hp,hPap,hv⟩:=hP.at hd hx;obtain⟨pm,p9⟩:=ir hPap;have p2:=pm.two;have s5:=aj (o:=.tup [.int i,x]) hpt;refine⟨pt,_,rfl,bj.of ag,rfl,?_⟩;generalize upd H4 pt _=H5 at *;have S5:=s4.trans s5;have hi:=(IB.mp hp).1;have hy:=Iv (show i<zo.length by lia);obtain⟨p',e,pl,rws,pq,vr,hp',_,_,ey,tq,_,_,o,ep,_⟩:=at_ hy;rw [hp] at hp';cases hp';obtain⟨pp,y1,y2,vr',rfl,tS,e0,eg,dr⟩:=tj hv;cases e0;k_data;refine⟨po,zo,_,_,rfl,rfl,aJ.of (S5 _ _ epo),fJ hy,?_⟩;rw [ey];refine bM (tq.same S5) kE (bM (tS.same (S3.trans S5)) kE ?_);refine⟨p,a,_,rfl,by lia,by lia,λ_ H6 s6=>?_,λz=>absurd z (by lia)⟩;rw [IX];refine⟨rfl,aZ (λc1=>?_) (λc1=>?_)⟩
  ·refine⟨by show 4<=sizeLine;decide,λp7 hp7=>⟨by show 2<=sizeLine;decide,λp8 hp8=>?_⟩⟩;have s7:=aj (o:=.tup [V.str "none",V.int (i:Int),V.int (e:Int),V.int (a^e%p)]) hp7;have s8:=aj (o:=.tup [V.non,V.ref p7]) hp8;refine q (.no i e (a^e%p)) 0 _ _ ⟨p,hp,o,λz=>c1 (congrArg V.int ((c5 p2).mpr z)),rfl,λj p' e' ji h1 h2=>hno j p' e' ji h1 h2⟩ True.intro (S3.trans (S5.trans (s6.trans (s7.trans s8)))) (dv.tup ag ⟨_,_,rfl,rfl,.one (dv.tup (s8 _ _ ag) ⟨_,_,rfl,rfl,_,_,rfl,rfl,_,_,rfl,rfl,.one rfl⟩)⟩)
  ·have DG:Num.Al p (a^e) 1:=(c5 p2).mp (V.int.inj (Mf.mp c1));refine⟨S5.trans s6,⟨_,_,_,_,rfl⟩,λj p' e' ji h1 h2=>?_⟩;rcases (by lia:j<i∨j=i) with z | z
   ·exact hno j p' e' z h1 h2
   ·rw [z,hp] at h1;cases h1;rw [h2.iK o];exact DG
 rintro σ' H4 ⟨s4,⟨o5,o6,o7,o8,rfl⟩,hno⟩;rw [ul] at hno;k_data;have S4:=S3.trans s4;refine⟨⟨_,aJ.of (s4 _ _ epo)⟩,?_⟩;refine qJ (xs:=zo) (λi ys H5=>Fo H3 (12*i) ys H5) ⟨s4,[],rfl,IF _,λm hm=>by simp at hm⟩ (λi ys H5 hi h=>⟨aJ.of (h.1 _ _ epo),?_⟩) ?_ ?_
 ·obtain⟨_,ns,rfl,nl,_⟩:=h;rw [Iu];exact IJ (show ns.length<=144 by lia) (by decide)
 ·rintro i x ys H5 hx ⟨s5,ns,rfl,nl,hns⟩;obtain⟨p,e,pl,rws,pq,vr,hp,pm,pp6,rfl,tq,_,dr,o,ep,hpt,hG,hQ,_⟩:=at_ hx;have e1:=o.pos;have pl12:=gB hpt (by lia);have rl:=hG.1;show mS K 2 _ _ [none,none,none] _ _;refine⟨pq,_,rfl,tq.same s5,rfl,?_⟩;k_data;refine⟨True.intro,vr,rws,_,rfl,dv.same s5 _ dr,hQ,by lia,λpi H6 s6 f6 e6=>⟨pi,rfl,⟨_,aJ.of e6⟩,?_⟩⟩;have il:=(IB.mp hx).1;refine tJ (xs:=(pl.map (·.1)).map V.int) (λj zs H7=>av H6 H7/\Fo H3 (12*i+j) zs H7) ⟨av.refl _,s5.trans s6,ns,rfl,by lia,hns⟩ (λj zs H7 hj h=>⟨aJ.of (h.1 _ _ e6),?_⟩) ?_ (λzs H7 h=>?_)
  ·obtain⟨_,_,ns',rfl,nl',_⟩:=h;rw [Iu,Iu] at hj;rw [Iu];exact J3 (show ns'.length<=156 by lia) (by decide)
  ·rintro j y zs H7 hy ⟨s7,s7',ns',rfl,nl',hns'⟩;rw [ID,ID] at hy;obtain⟨_,hy1,rfl⟩:=IE.mp hy;obtain⟨y,hy2,rfl⟩:=IE.mp hy1;have:=kY hpt (by lia) (IC hy2);k_data;refine⟨⟨rfl,rfl,True.intro⟩,s7,s7',ns'++[y.1],by rw [IT];rfl,by rw [Js,Ks];lia,λm hm=>?_⟩;rcases J0.mp hm with z | z
   ·exact hns' m z
   ·rw [IW.mp z];lia
  ·obtain⟨_,h1,ns',rfl,nl',hns'⟩:=h;rw [Iu,Iu] at nl';exact⟨h1,ns',rfl,by lia,hns'⟩
 rintro ys H5 pf ⟨s5,ns,rfl,nl,hns⟩ hpf;have s6:=aj (o:=.lst (ns.map V.int)) hpf;refine⟨pf,ns,rfl,aJ.of ag,IJ (show ns.length<=144 by lia) (by decide),λ_=>?_,λm hm _ m6=>by have:=hns m hm;lia⟩;generalize upd H5 pf _=H6 at *;have S6:=s5.trans s6;have T6:=S3.trans S6;k_data;refine⟨⟨_,hS.same T6⟩,⟨_,aJ.of (S6 _ _ epo)⟩,?_⟩;have pre6:=pre.same T6;have zol:=zl;have hzo6:aE K H6 os zo:=aE.same S6 _ hz3;have noP:∀ y:Int × Int,kX (eB y)=true:=λ_=>rfl;have e6pa:=T6 _ _ epa;have e6po:=S6 _ _ epo;have hd6:=aE.same T6 _ hd;refine jM (k1:=.l) (k2:=.l) (xs:=us) (ys:=zo) (λi zs H7=>Fp K C ko H6 ps b a i zs H7) ⟨[],br.refl pre6,rfl,rfl,λj p y z1 z2=>by simp at z2⟩ (by lia) (by rw [ul];exact IJ hl (by decide)) (λi zs H7 hi ⟨rs,e1,e2,e3,_⟩=>⟨aJ.of (br.lst pre6 e1 e6pa),aJ.of (br.lst pre6 e1 e6po),by rw [e3.length,Iu,Iu];lia⟩) ?_ ?_
 ·rintro i x y zs H7 pt hx hy ⟨rs,post7,rl7,hzs,hrs⟩ hpt;have kt:=br.tup pre6 post7;obtain⟨p,g,rows,hp,hPap,hv⟩:=hP.at hd6 hx;obtain⟨p',e,pl,rws,pq,vr,hp',pm,pp6,rfl,tq,dq,dr,o,ep,hpt',hG,hQ,nlq⟩:=at_ hy;rw [hp] at hp';cases hp';have p2:=pm.two;have e1:=o.pos;have il:=(IB.mp hp).1;have DG:=hno i p e (by lia) hp o;obtain⟨x0,xe,alx⟩:=Num.mj pm o DG;obtain⟨pp,y1,y2,vr',rfl,tS,e0,eg,dr'⟩:=tj hv;cases e0;have s8:=aj (o:=.tup [V.ref pp,V.ref pq]) hpt;show mS K 2 _ _ [none,none,Io (.int b),Io (.int a),Io vk] _ _;refine⟨pt,_,rfl,bj.of ag,rfl,?_⟩;generalize upd H7 pt _=H8 at *;have post8:=post7.same s8;have had:∀ k:KH,(bF b k rs).a=k.a/\(bF b k rs).d=k.d/\(bF b k rs).most=k.most:=λk=>jY rs k;have pre8:=br.EE had pre6 post8;k_data;have kS:∀ a xs,bj K H7 a xs->bj K H8 a xs:=λa xs h=>h.same s8;have tq8:bj K H8 pq _:=((tq.same S6).aN kt).same s8;have dq8:=dv.same s8 _ (dv.aN kt _ nlq (dv.same S6 _ dq));have tS8:bj K H8 pp _:=(tS.aN kt).same s8;refine⟨⟨rfl,rfl,rfl,True.intro⟩,bM tq8 kE (bM tS8 kE ?_)⟩;refine⟨p,b,a,e,x0,.ref pq,vk,rws,pl,ko.map λk=>bF b k rs,rfl,dq8,hG,nQ hpt' (by lia) (λy hy=>by have:=kY hpt' (by lia) hy;lia),pre8,p2,by lia,a0,a1,o,by lia,xe,alx,λu H9 post hu=>?_⟩;obtain⟨pu,u1,u2,rfl,tu,d1,d2⟩:=tf hu;cases d1;refine bM tu kE ⟨by show 2<=sizeLine;decide,λp10 hp10=>?_⟩;have s10:=aj (o:=.tup [V.int (e:Int),V.int (x0:Int)]) hp10;have post9:br C ko (λk=>bF b k (rs++[(p,e,x0,pl)])) H6 H9:=by have:=br.then had post8 post;rw [show (λk=>bF b k (rs++[(p,e,x0,pl)]))=λk=>dF (bF b k rs) p b e x0 pl from funext λk=>kC];exact this
  refine⟨rs++[(p,e,x0,pl)],post9.same s10,by simp [rl7],?_,vm (R:=λp r=>jK p b a r) hrs (by rw [rl7];exact hp) ⟨rfl,o,ep,xe,alx,hpt'⟩⟩;rw [IT,IT];exact aE.append (aE.same s10 _ (aE.aN (br.tup pre8 post) _ (cF noP _) (aE.same s8 _ hzs))) (.one (dv.tup ag ⟨_,_,rfl,rfl,.one rfl⟩))
 rintro zp H7 pq ⟨rs,post7,rl7,hzs,hrs⟩ hpq;have s8:=aj (o:=.lst zp) hpq;have post8:=post7.same s8;k_data;have rl:rs.length=ps.length:=by lia
 have hR:d5 ps b a rs:=⟨rl,hrs⟩
 generalize hpl:rs.map (λr=>(((r.2.1:Nat):Int),((r.2.2.1:Nat):Int)))=pls at *;have pll:pls.length=ps.length:=by rw [<- hpl,Iu,rl]
 have hpls:∀(i:Nat) p y,ps[i]?=Io p->pls[i]?=Io y->∃ e x:Nat,y=((e:Int),(x:Int))/\x<e/\Num.Ord p b e/\(e:Int)<p/\Num.Al p a (b^x):=λi p y h1 h2=>by rw [<- hpl,ID] at h2;obtain⟨r,hr,rfl⟩:=IE.mp h2;have h:=hrs i p r h1 hr;exact⟨_,_,rfl,h.x,h.o,h.lt,h.al⟩
 have hPl:AQ ps b a pls:=⟨pll,hpls⟩
 have post0:∀{H':Hp},av (upd H7 pq (.lst zp)) H'->br C ko (λk=>bF b k rs) H H':=λs=>(post8.same s).pre T6;refine⟨pq,zp,pls,rfl,aJ.of ag,aE.same s8 _ hzs,λy hy=>?_,by lia,λi j y z v H9 hF s9 hv=>q (.ap i j y z) 0 v H9 ⟨pls,hPl,hF⟩ True.intro ⟨rs,hR,post0 s9⟩ hv,λW x v H9 no T hW s9 hv=>q (.is pls) x v H9 ⟨hPl,no⟩ ⟨W,T⟩ ⟨rs,hR,post0 s9⟩ hv⟩;obtain⟨i,hi,ey⟩:=K5.mp hy;have hp:=Iv (show i<ps.length by lia);obtain⟨e,x,rfl,xe,o,ep,_⟩:=hpls i _ y hp (by rw [<- ey];exact Iv hi);have:=p6 _ (IC hp);exact⟨by show (0:Int)<e;lia,by show (e:Int)<=10^18;lia,by show -(10^80)<=(x:Int);lia,by show (x:Int)<=10^80;lia⟩
theorem ya {H:Hp}:∀{ds:List IL} {xs:List V},xs.length=ds.length->(∀(i:Nat) (x:V) (d:IL),xs[i]?=Io x->ds[i]?=Io d->dv K H d x)->aE K H ds xs
 | [],[],_,_=>rfl
 | d::ds,x::xs,hl,h=>⟨x,xs,rfl,h 0 x d rfl rfl,ya (by simpa using hl) λi x' d' e1 e2=>h (i+1) x' d' (by simpa using e1) (by simpa using e2)⟩
 | [],_::_,hl,_=>by simp at hl
 | _::_,[],hl,_=>by simp at hl
theorem xJ {H:Hp} {ks:List (Int × Int × Int)} {bs:List Iy} (h:Bs H ks bs):aE K H (ks.map iJ) (bs.map V.ref):=by refine ya (by rw [Iu,Iu,h.1]) λi x d hx hd=>?_;rw [ID] at hx hd;obtain⟨bb,hb1,rfl⟩:=IE.mp hx;obtain⟨y,hy1,rfl⟩:=IE.mp hd;obtain⟨y',hy2,hy3⟩:=h.2 i bb hb1;rw [hy1] at hy2;cases hy2;exact dv.tup hy3 ⟨_,_,rfl,rfl,_,_,rfl,rfl,.one rfl⟩
theorem C7 {ks:List (Int × Int × Int)} (h:ks.length<=10^6):sT 6 (.list (ks.map iJ)):=by
 have hrow:mL 5 (ks.map iJ):=jo λd hd=>by obtain⟨y,_,rfl⟩:=IV.mp hd;simp [iJ,sT,mL]
 simp only [sT,Iu];exact⟨h,hrow⟩
def vC (K:Iq) (C:Iy):Sp:=λvs H Q _=>∃(k:KH) (sd tl:Iy),vs=[.ref k.a,.ref sd]/\bC C k H/\oK K sd tl k H/\∀ H',av H H'->Q (.bl true) H'
theorem iA:aw ["_law_kept","_law_state","_law_found","_law_good"] ["_law_kept","_law_state"] (ak (top 65)):=dD
theorem zm (D:ax K mg "_law_tells" (top 65)) (cl_Kept:mK K C) (c_Kept_steps:bw P w K mg base aQ 1 C "steps" ["self"] (vA C)) (c_Kept_tables:bw P w K mg base aQ 1 C "tables" ["self"] (mH C)) (c__law_same:Callee P w K mg base aQ 7 "_law_same" ["_law_found","_law_due"] (fR K 6)):Callee P w K mg base aQ 8 "_law_tells" ["_law_kept","_law_state"] (vC K C):=by
 refine cO D iA (λf cdv A outer s H vs Q E hr h=>?_);obtain⟨k,sd,tl,rfl,kp,S,q⟩:=h;have nd:=iA.nd;refine⟨_,(ae (bB (i:=2) nd (hJ c_Kept_tables cl_Kept (hr.mono (by decide)) aB (pv 0))) (ae (bB (i:=3) nd (l7 (bN c__law_same hr aB (aa (hJ c_Kept_steps cl_Kept (hr.mono (by decide)) aB (pv 0)) (aa (bQ (bT hr) (pv 1) aM (λ_ _=>rfl)) af))) (l9 (bN c__law_same hr aB (aa (pv 2) (aa (bQ (bT hr) (pv 1) aM (λ_ _=>rfl)) af)))))) (ae (cw (aS (b8 (pv 3) (λ_=>rfl)) (ai (bU (iu JY Kv PySem.F.type_list_append dA (pv 2) (aa (aF (aa ah (aa ah (aa ah af)))) af)))) aD)) (ai (az (l7 (pv 3) (l9 (bN c__law_same hr aB (aa (hJ c_Kept_tables cl_Kept (hr.mono (by decide)) aB (pv 0)) (aa (bQ (bT hr) (pv 1) aM (λ_ _=>rfl)) af)))))))))),?_⟩;show bH _ _ _ [Io (.ref k.a),Io (.ref sd),none,none] H;k_data;have klen:k.ks.length<=10^6:=by have h1:(k.ks.length:Int)<=k.most:=S.le;have:=S.m1;lia
 obtain⟨hs,us,hl,hd⟩:=S.st;refine⟨_,_,kp.ins,rfl,k,rfl,kp,λpt bs H1 fpt s1 ept hbs=>⟨_,_,(kp.same s1).ins,rfl,k,rfl,kp.same s1,_,mI (s1 _ _ hs),_,_,.int k.c,rfl,rfl,rfl,by simp [sT],λH2 s2=>⟨true,rfl,?_⟩⟩⟩;rw [if_pos rfl];have S2:=s1.trans s2;refine⟨_,iQ (S2 _ _ hs),.ref pt,.ref tl,.list (k.ks.map iJ),rfl,dv.lst (s2 _ _ ept) (aE.same S2 _ (xJ hbs)),dv.lst (S2 _ _ hl) (aE.same S2 _ hd),C7 klen,λH3 s3=>?_⟩;have S3:=S2.trans s3;have ept3:=s3 _ _ (s2 _ _ ept);refine⟨λσ' H'=>σ'=[Io (.ref k.a),Io (.ref sd),Io (.ref pt),Io (.bl true)]/\av H H',?_,?_⟩
 ·k_data;refine⟨.inl ⟨rfl,_,aJ.of ept3⟩,by show 3<=sizeLine;decide,λt ht=>?_⟩;have s4:=aj (o:=.tup [V.int 2,V.int 2,V.int 1]) ht;exact⟨pt,_,_,rfl,rfl,s4 _ _ ept3,by rw [Iu,hbs.1];exact J3 klen (by decide),(S3.trans s4).upd fpt⟩
 ·rintro σ' H4 ⟨rfl,S4⟩;k_data;refine⟨_,_,(kp.same S4).ins,rfl,k,rfl,kp.same S4,λpt2 bs2 H5 fpt2 s5 ept2 hbs2=>?_⟩;have S5:=S4.trans s5;exact⟨_,iQ (S5 _ _ hs),.ref pt2,.ref tl,.list (k.ks.map iJ),rfl,dv.lst ept2 (aE.same s5 _ (xJ hbs2)),dv.lst (S5 _ _ hl) (aE.same S5 _ hd),C7 klen,λH6 s6=>q H6 (S5.trans s6)⟩
theorem wt {H:Hp} {x dx:Iy} {m:Int} {Q:VK} {E:XK} (hx:H x=none) (hdx:H dx=none) (ne:dx≠x) (m0:0<=m) (m1:m<=10^6) (q:∀ d H',av H H'->H d=none->bC C ⟨x,dx,d,m,0,[]⟩ H'->Q .non H'):k8 C [.ref x,.int m] (upd (upd H dx (.own x)) x (.ins C dx [])) Q E:=by
 have S:av H (upd (upd H dx (.own x)) x (.ins C dx [])):=(aj hdx).upd hx;refine⟨x,dx,m,rfl,ag,m0,m1,λd H2 keep ndx fd kp=>?_⟩;have S2:av H H2:=λb o eb=>keep b o (λz=>by rw [z,hx] at eb;cases eb) (S b o eb);have hd:H d=none:=by
  rw [ao ndx] at fd;by_cases z:d=dx
  ·rw [z];exact hdx
  ·rw [ao z] at fd;exact fd
 exact q d H2 S2 hd kp
theorem rm {x e:Nat} {ps:List (Int × Int)}:kX (kK x e ps)=true:=by simp only [kK,kX,dP,Oc,Rn];exact cF (λ_=>lX) ps
theorem ER {x e:Nat} {ps:List (Int × Int)} (hps:Num.Part e ps) (xr:ps.length<=12):sT 6 (kK x e ps):=by
 have hrow:mL 3 (ps.map (w6 x)):=jo λd hd=>by
  obtain⟨y,hy,rfl⟩:=IV.mp hd;have t30:=(hps.ok y hy).2.2;have hin:mL 1 (((Num.cD x y.1.toNat y.2.toNat).map λd:Nat=>(d:Int)).map N8):=jo λd hd=>by obtain⟨i,_,rfl⟩:=IV.mp hd;simp [sT]
  have hl:(Num.cD x y.1.toNat y.2.toNat).length<=10^6:=by rw [Num.dJ];lia
  simp only [w6,sT,mL,JU,LI,Iu,and_true,true_and];exact⟨by decide,hl,hin⟩
 simp only [kK,sT,mL,JU,LI,Iu,and_true,true_and];exact⟨by decide,by decide,by lia,hrow⟩
theorem FC {CN CF:Iy} {H:Hp} {Q:VK} {E:XK} {v vk:V} {p g a b:Int} {rows:IL} {e x:Nat} {pl:List (Int × Int)} {ko:Option KH} (hd:dv K H (.tuple [.int p,.int g,rows]) v) (hp:Num.gT p (.tuple [.int p,.int g,rows])) (o:Num.Ord p b e) (hpl:Num.Part e pl) (h6:∀ y∈pl,y.1<=10^6) (xe:x<e) (al:Num.Al p a (b^x)) (b0:-(10^60)<=b) (b1:b<=10^60) (a0:-(10^60)<=a) (a1:a<=10^60) (pre:jJ C ko vk H)
  (q:∀ u H',br C ko (λk=>dF k p b e x pl) H H'->dv K H' (kK x e pl) u->Q u H'):k9 K C CN CF [v,.int b,.int a,vk] H Q E:=by
 obtain⟨pm,p9⟩:=ir hp;have nb:¬p∣b:=pm.unit o.co;have na:¬p∣a:=pm.unit ((o.co.pow x).yS al.symm);refine⟨v,vk,p,b,a,g,rows,ko,rfl,hd,hp,b0,b1,a0,a1,pre,λh=>h.elim (λh=>absurd h na) λh=>absurd h nb,λ_ _ e' o' _=>?_⟩;have ee:=o'.iK o;subst ee;refine⟨λn1=>absurd ?_ n1,λx' xe' alx ps hps=>⟨λ_ u H' post hu=>?_,λm hm _ m6=>?_⟩⟩
 ·have h1:=al.pow e';rw [Num.bR,Ju] at h1;exact h1.trans (Num.aT o.one)
 ·have:=Num.jW o xe' xe alx al;subst this;have:=Num.Part.one hps hpl;subst this;exact q u H' post hu
 ·have:=Num.Part.one hps hpl;subst this;obtain⟨y,hy,rfl⟩:=IV.mp hm;have:=h6 y hy;lia
theorem DJ {CN CF:Iy} {H:Hp} {Q:VK} {E:XK} {v vk:V} {p g a b:Int} {rows:IL} {e:Nat} {ko:Option KH} (hd:dv K H (.tuple [.int p,.int g,rows]) v) (hp:Num.gT p (.tuple [.int p,.int g,rows])) (o:Num.Ord p b e) (no:∀ x,x<e->¬Num.Al p a (b^x)) (na:¬p∣a) (b0:-(10^60)<=b) (b1:b<=10^60) (a0:-(10^60)<=a) (a1:a<=10^60) (pre:jJ C ko vk H)
  (q:∀ u H',av H H'->dv K H' (ip e (a^e%p)) u->Q u H'):k9 K C CN CF [v,.int b,.int a,vk] H Q E:=by
 obtain⟨pm,p9⟩:=ir hp;have nb:¬p∣b:=pm.unit o.co;refine⟨v,vk,p,b,a,g,rows,ko,rfl,hd,hp,b0,b1,a0,a1,pre,λh=>h.elim (λh=>absurd h na) λh=>absurd h nb,λ_ _ e' o' _=>?_⟩;have ee:=o'.iK o;subst ee;exact⟨λ_ u H' s' hu=>q u H' s' hu,λx xe al=>absurd al (no x xe)⟩
theorem EY {p w:Int} {m:Nat} {m' c:Int} {tl:Iy}:(HO.dK (cU p w m))≠mM m' c tl:=λe=>by
 have e1:cU p w m=([(Kf "most",V.int m'),(Kf "steps",V.int c),(Kf "tables",V.ref tl)]:List (Key × V)):=HO.dK.inj e;cases m with
 | zero=>cases e1
 | succ m =>have e2:=congrArg (·[0]?) e1;simp only [cU,ID] at e2;rw [LL (by lia)] at e2;cases e2
theorem FU {k:KH} {sd tl:Iy} {m c:Int} {ks:List (Int × Int × Int)} {H H':Hp} (kp:bC C k H) (S:iW K sd tl m c ks H) (bt:bV sd tl H H'):bC C k H':=by obtain⟨kvs,kd⟩:=kp.ex;obtain⟨h1,us,h2,_⟩:=S;refine⟨bt _ _ (bI kp.ins h1 (by intro z;cases z)) (bI kp.ins h2 (by intro z;cases z)) kp.ins,⟨kvs,bt _ _ (bI kd.dict h1 (by intro z;cases z)) (bI kd.dict h2 (by intro z;cases z)) kd.dict,kd.keys,kd.nd,λx v e=>?_⟩,kp.m0,kp.m1⟩;obtain⟨t,e1,e2⟩:=kd.tab x v e;exact⟨t,e1,bt _ _ (bI e2 h1 EY) (bI e2 h2 (by intro z;cases z)) e2⟩
theorem iW.but {k:KH} {sd tl:Iy} {m c:Int} {ks:List (Int × Int × Int)} {H H':Hp} (S:iW K sd tl m c ks H) (kp:bC C k H) (bt:bV k.a k.d H H'):iW K sd tl m c ks H':=by obtain⟨h1,us,h2,h3⟩:=S;exact⟨kp.keep bt h1,us,kp.keep bt h2,aE.aN (kp.aN bt) _ (cF (λ_=>lW) ks) h3⟩
theorem su {m c i j:Int} {tl l:Iy}:mM m c tl≠sG l i j:=λe=>by have e1:=HO.dK.inj e;have e2:=congrArg (·[0]?) e1;cases e2
theorem iW.off {p0 cl sd tl:Iy} {n:Nat} {m c:Int} {ks:List (Int × Int × Int)} {H H':Hp} (S:iW K sd tl m c ks H) (tp:gg p0 cl n H) (of:jF p0 H H'):iW K sd tl m c ks H':=by
 obtain⟨h1,us,h2,h3⟩:=S;obtain⟨i,j,ns,hp,_⟩:=id tp;refine⟨of _ _ (bI h1 hp su) h1,us,of _ _ (bI h2 hp (by intro z;cases z)) h2,aE.aN (λa xs z=>?_) _ (cF (λ_=>lW) ks) h3⟩;rcases z with z | ⟨o,z⟩
 ·exact .inl (of _ _ (bI z hp (by intro z;cases z)) z)
 ·exact .inr ⟨o,of _ _ (bI z hp (by intro z;cases z)) z⟩
theorem Bm {p0 cl:Iy} {n:Nat} {k:KH} {H H':Hp} (kp:bC C k H) (tp:gg p0 cl n H) (of:jF p0 H H'):bC C k H':=by obtain⟨i,j,ns,hp,_⟩:=tp;obtain⟨kvs,kd⟩:=kp.ex;refine⟨of _ _ (bI kp.ins hp (by intro z;cases z)) kp.ins,⟨kvs,of _ _ (bI kd.dict hp (by intro z;cases z)) kd.dict,kd.keys,kd.nd,λx v e=>?_⟩,kp.m0,kp.m1⟩;obtain⟨t,e1,e2⟩:=kd.tab x v e;exact⟨t,e1,of _ _ (bI e2 hp Au) e2⟩
theorem gg.kept {p0 cl:Iy} {n:Nat} {k:KH} {H H':Hp} (tp:gg p0 cl n H) (kp:bC C k H) (bt:bV k.a k.d H H'):gg p0 cl n H':=by obtain⟨i,j,ns,x,y,z⟩:=tp;exact⟨i,j,ns,kp.keep bt x,kp.keep bt y,z⟩
theorem gg.st {p0 cl sd tl:Iy} {n:Nat} {m c:Int} {ks:List (Int × Int × Int)} {H H':Hp} (tp:gg p0 cl n H) (S:iW K sd tl m c ks H) (nc:cl≠tl) (bt:bV sd tl H H'):gg p0 cl n H':=by obtain⟨i,j,ns,x,y,z⟩:=tp;obtain⟨h1,us,h2,h3⟩:=S;exact⟨i,j,ns,bt _ _ (λz=>by rw [<- z,x] at h1;exact su (JZ h1).symm) (bI x h2 (by intro z;cases z)) x,bt _ _ (bI y h1 (by intro z;cases z)) nc y,z⟩
def Fr (a b c d e:Iy) (H H':Hp):Prop:=∀ x o,x≠a->x≠b->x≠c->x≠d->x≠e->H x=Io o->H' x=Io o
structure vL (K:Iq) (C sd tl:Iy) (k:KH) (H:Hp):Prop where
 kp:bC C k H
 le:mZ k
 st:oK K sd tl k H
end
end K
namespace K
open PySem PySem.Spec PyProof.Rows L2
section
variable {P:IM} {w:Jo} {K:Iq} {mg:Jb->Option Ir} {base:JD}
def mB:Sp:=λvs H Q _=>∃ a b:Nat,vs=[.int a,.int b]/\Q (.int (Mc a b:Nat)) H
theorem gK:aw ["_law_one","_law_other"] ["_law_one","_law_other"] (ak (top 66)):=dD
theorem wx (D:ax K mg "_law_common" (top 66)):Callee P w K mg base aQ 1 "_law_common" ["_law_one","_law_other"] mB:=by
 refine cO D gK (λf cdv A outer s H vs Q E hr h=>?_);obtain⟨a,b,rfl,q⟩:=h;have nd:=gK.nd;refine⟨_,(ae (aV IQ (ay c7 (pv 1) ah (aA _)) (ai (pP (i:=0) (j:=1) rfl nd rfl rfl (by decide) rfl rfl (aa (pv 1) (aa (ar aH (pv 0) (pv 1)) af)) rfl))) (ai (az (pv 0)))),?_⟩;show bH _ _ _ [Io (.int (a:Int)),Io (.int (b:Int))] H;k_data;refine aW (α:=Nat × Nat) (λx=>[Io (.int (x.1:Int)),Io (.int (x.2:Int))]) (λx H'=>H'=H/\Mc x.1 x.2=Mc a b) (λx=>x.2) (a,b) rfl ⟨rfl,rfl⟩ ?_;rintro⟨x,y⟩ H1 ⟨rfl,hg⟩;replace hg:Mc x y=Mc a b:=hg;k_data;refine aZ (λc=>?_) (λc=>?_)
 ·have y0:0<y:=by lia
  refine⟨_,λ_ _ z=>z,by lia,(y,x%y),by rw [P0],rfl,?_,Nx _ y0⟩;show Mc y (x%y)=_;rw [<- hg,UN x y,Nat.gcd_rec y x,UN]
 ·have y0:y=0:=by lia
  subst y0;rw [Nat.gcd_zero_right] at hg;rw [hg];exact q
end
end K
namespace K
open PySem PySem.Spec PyProof.Rows L2
section
variable {P:IM} {w:Jo} {K:Iq} {mg:Jb->Option Ir} {base:JD} {C:Iy}
theorem yh {a b:Nat} (ha:0<a) (hb:0<b):Crt.G (a:Int) (b:Int) ((Mc a b:Nat):Int):=by
 obtain⟨g,h⟩:=Crt.uB (show (0:Int)<a by lia) (show (0:Int)<b by lia);have g0:=h.pos;obtain⟨n,rfl⟩:∃ n:Nat,g=n:=⟨g.toNat,by lia⟩
 have h1:n∣Mc a b:=SH (JF.mp h.da) (JF.mp h.db);have h2:=h.gr (JF.mpr (Sj a b)) (JF.mpr (RR a b));have:=Si h1 (JF.mp h2);rw [<- this];exact h
theorem AX {M N m n g:Int} (hM:0<M) (hm:0<m) (h:Crt.G M m g) (hd:g∣n-N):∃ x,Crt.vL M N m n (M/g*m) x:=by
 have g0:=h.pos;obtain⟨u,v,e⟩:=id h.lin;obtain⟨A,hA⟩:=id h.da;obtain⟨L,hL⟩:=id h.db;have e1:M/g=A:=by rw [hA];exact JB _ (by lia)
 have e2:m/g=L:=by rw [hL];exact JB _ (by lia)
 have hr:m/g∣u*(M/g)-1:=by
  rw [e1,e2];have z:u*(g*A)+v*(g*L)=g:=by rw [<- hA,<- hL];exact e
  have z2:g*(u*A+v*L)=g*1:=Crt.a1 z;have z3:=J5 (by lia) z2;exact⟨-v,by rw [SD,JM L v];lia⟩
 have B:=Crt.both hM hm h hd hr;rw [<- Crt.Ea hM hm h B.pos B.dM B.dm B.le];exact⟨_,B⟩
structure GJ (pls:List (Int × Int)):Prop where
 ok:∀ y∈pls,0<=y.2/\y.2<y.1/\y.1<=1000
 xr:pls.length<=6
 no:∀ i j,i<j->¬Ap pls i j
theorem GJ.step {pls:List (Int × Int)} (h:GJ pls) {i:Nat} {y:Int × Int} {M N:Int} (hy:pls[i]?=Io y) (T:Crt.Told (pls.take i) M N):∃ x,Crt.vL M N y.1 y.2 (M/((Mc M.toNat y.1.toNat:Nat):Int)*y.1) x/\Crt.Told (pls.take (i+1)) (M/((Mc M.toNat y.1.toNat:Nat):Int)*y.1) x:=by
 have oy:=h.ok y (IC hy);have M0:=T.pos;have G:=yh (a:=M.toNat) (b:=y.1.toNat) (by lia) (by lia);rw [JR (show 0<=M by lia),JR (show 0<=y.1 by lia)] at G;obtain⟨x,B⟩:=AX (n:=y.2) (N:=N) M0 (by lia) G (T.fits G (λp hp d hG=>by
  obtain⟨j,jl,e⟩:=K5.mp hp;rw [JE] at jl;rw [List.getElem_take] at e;exact Mf.mp λz=>h.no j i (by lia) ⟨p,y,d,by rw [Iv (by lia),e],hy,hG,z⟩) λp hp=>Crt.uB (by have:=h.ok p (K8 hp);lia) (by lia))
 refine⟨x,B,?_⟩;rw [Jv,hy];exact T.step B
def G5 (pls:List (Int × Int)) (a:Iy) (i:Nat) (σ':L2.St) (H' H:Hp):Prop:=H'=H/\∃(M N:Int) (o3 o4:Option V),σ'=[Io (.ref a),Io (.int M),Io (.int N),o3,o4]/\Crt.Told (pls.take i) M N/\M<=1000^i
def mD (K:Iq):Sp:=λvs H Q _=>∃(a:Iy) (us:List V) (pls:List (Int × Int)),vs=[.ref a]/\aJ K H a us/\aE K H (pls.map eB) us/\GJ pls/\∀ W x,Crt.Told pls W x->W<=1000^6->Q (.int x) H
theorem eI:aw ["_law_rows","_law_whole","_law_x","_law_e","_law_y"] ["_law_rows"] (ak (top 67)):=dD
theorem wA (D:ax K mg "_law_least_with" (top 67)) (c__law_common:Callee P w K mg base aQ 1 "_law_common" ["_law_one","_law_other"] mB):Callee P w K mg base aQ 2 "_law_least_with" ["_law_rows"] (mD K):=by
 refine cO D eI (λf cdv A outer s H vs Q E hr h=>?_);obtain⟨a,us,pls,rfl,hS,hd,hR,q⟩:=h;have nd:=eI.nd;refine⟨_,(ae (bB (i:=1) nd ah) (ae (bB (i:=2) nd ah) (ae (b7 IQ rfl (bp (pv 0)) (bZ (n:=2) rfl (au (aq (i:=3) nd rfl (Jf rfl) (.inr rfl)) (au (aq (i:=4) nd rfl (Jf rfl) (.inr rfl)) aO))) (ae (aV IQ (ay fY (ar aH (pv 2) (pv 3)) (pv 4) (aA _)) (ai (bB (i:=2) nd (ar bc (pv 2) (pv 1))))) (ai (bB (i:=1) nd (ar aK (ar bA (pv 1) (bN c__law_common hr aB (aa (pv 1) (aa (pv 3) af)))) (pv 3)))))) (ai (az (pv 2)))))),?_⟩;show bH _ _ _ [Io (.ref a),none,none,none,none] H;k_data;have xr:=hR.xr;have ul:us.length=pls.length:=by rw [hd.length,Iu]
 have B6:∀ i,i<=6->(1000:Int)^i<=1000^6:=λi hi=>(by decide:∀ n:Nat,n<=6->(1000:Int)^n<=1000^6) i hi;refine⟨⟨_,hS⟩,fu (xs:=us) (λi σ' H'=>G5 pls a i σ' H' H) ⟨rfl,1,0,none,none,rfl,Crt.Told.nil,by decide⟩ (λi σ' H' _ h=>h.1▸hS) ?_ ?_⟩
 ·rintro i u σ' H1 hu ⟨eH,M,N,o3,o4,rfl,T,hM⟩;rw [eH];obtain⟨d,hd1,hd2⟩:=hd.get hu;rw [ID] at hd1;obtain⟨⟨e,y⟩,hy,rfl⟩:=IE.mp hd1;obtain⟨pt,rfl,tt⟩:=gk hd2;have i6:i<6:=by have:=(IB.mp hy).1;lia
  obtain⟨h0,h1,h2⟩:=hR.ok _ (IC hy);obtain⟨x,B,T2⟩:=hR.step hy T;dsimp only at h0 h1 h2 B T2;have M0:=T.pos;have N0:=T.x0;have N1:=T.x1;have m6:=B6 i (by lia);have G:=yh (a:=M.toNat) (b:=e.toNat) (by lia) (by lia);have g0:=G.pos;have gle:=Jh (by lia) G.db;generalize hg:((Mc M.toNat e.toNat:Nat):Int)=g at *;have W1:M/g*e<=1000^(i+1):=by rw [IY];exact LW (NO (PR _ (by lia)) hM) h2 (by lia) (by lia)
  have W6:=B6 (i+1) (by lia);have q0:=L5 (show 0<=M by lia) (show 0<=g by lia);have q1:M/g<=M:=PR _ (by lia);generalize hW:M/g*e=W at *;have x1:=B.x1;have x0:=B.x0;refine⟨pt,_,rfl,tt,rfl,?_⟩;k_data;refine aW (α:=Int) (λz=>[Io (.ref a),Io (.int M),Io (.int z),Io (.int e),Io (.int y)]) (λz H'=>H'=H/\M∣x-z/\0<=z/\z<=x) (λz=>(x-z).toNat) N rfl ⟨rfl,B.eM,N0,?_⟩ ?_
  ·rcases UO x N with z | z
   ·have:=Jh (by lia) (show M∣N-x by have:=Pn.mpr B.eM;rwa [Int.neg_sub] at this);lia
   ·exact z
  rintro z H2 ⟨rfl,z1,z2,z3⟩;replace z2:0<=z:=z2;replace z3:z<=x:=z3;k_data;refine⟨by lia,aZ (λc=>?_) (λc=>?_)⟩
  ·have ne:z≠x:=λe'=>c (by rw [e'];exact (Num.Al.iff.mp B.em).trans (Kh h0 h1));have zM:z+M<=x:=by have:=Jh (by lia) z1;lia
   refine⟨_,λ_ _ w=>w,z+M,rfl,rfl,?_,by lia,by lia,by lia⟩;rw [show x-(z+M)=x-z-M by lia];exact Og z1 (MC M)
  ·have zy:z%e=y:=Mf.mp c;have ez:e∣x-z:=by refine I0 (LC.mp ?_);rw [zy];exact Kh h0 h1▸Num.Al.iff.mp B.em
   have zx:z=x:=by
    have h:=B.le _ z1 ez;rcases UO z x with w | w
    ·have:=Jh (by lia) h;lia
    ·lia
   subst zx;refine⟨M.toNat,e.toNat,by rw [JR (by lia),JR (by lia)],?_⟩;rw [hg];refine⟨g,rfl,by lia,Bd.of (by lia) (by lia),Bd.of (by lia) (by lia),Bd.of (by lia) (by lia),rfl,W,z,Io (.int e),Io (.int y),by rw [hW],T2,W1⟩
 ·rintro σ' H1 ⟨eH,M,N,o3,o4,rfl,T,hM⟩;rw [eH];rw [ul,JI] at T;k_data;exact q M N T (NO hM (B6 _ (by lia)))
theorem ED:Num.Pm 227:=⟨by decide,λd d2 dl hd=>by
 have h:∀ k:Nat,k<227->2<=k->¬k∣227:=by decide +kernel
 exact h d.toNat (by lia) (by lia) (JF.mp (by rw [JR (by lia)];exact hd))⟩
theorem sub_len:∀{l m:List Int},l.Nodup->(∀ x∈l,x∈m)->l.length<=m.length
 | [],m,_,_=>J4 _
 | x::l,m,h,hs=>by obtain⟨h1,h2⟩:=Kx.mp h;have hx:=hs x (IH ..);have:=sub_len (l:=l) (m:=m.erase x) h2 λy hy=>(List.mem_erase_of_ne (λz:y=x=>h1 (z▸hy))).mpr (hs y (IG _ hy));rw [PK hx] at this;have:=Qg hx;rw [JU];lia
theorem uM {p0 cl x:Iy} {n:Nat} {H H':Hp} (o:jF p0 H H') (t:gg p0 cl n H') (h:H' x=none):H x=none:=by
 obtain⟨i,j,ns,hp,_⟩:=t;have ne:x≠p0:=λz=>by rw [z,hp] at h;cases h
 cases e:H x with
 | none=>rfl
 | some u=>rw [o x u ne e] at h;cases h
def G6 (p0 cl a n0:Nat) (H:Hp) (i:Nat) (σ':L2.St) (H':Hp):Prop:=∃(ns:List Int) (o:Option V),σ'=[Io (.ref p0),Io (.ref a),o]/\H' a=Io (.lst (ns.map V.int))/\ns.length=i/\(∀ p∈ns,Num.Pm p/\p<=227)/\gg p0 cl (n0+i) H'/\jF p0 H H'
def sk:Sp:=λvs H Q _=>∃(p0 cl:Iy) (n:Nat),vs=[.ref p0]/\gg p0 cl n H/\n<=10^20/\∀(pl:Iy) (ls:List Int) (H':Hp),(∀ p∈ls,Num.Pm p/\p<=227)->ls.Pairwise (·<·)->1<=ls.length->ls.length<=5->jF p0 H H'->gg p0 cl (n+6) H'->H pl=none->H' pl=Io (.lst (ls.map V.int))->Q (.ref pl) H'
theorem gN:aw ["_law_tape_here","_law_some","_law_turn"] ["_law_tape_here"] (ak (top 68)):=dD
theorem tY (D:ax K mg "_law_primes" (top 68)) (c__law_draw:Callee P w K mg base aQ 1 "_law_draw" ["_law_tape_here","_law_many"] kZ) (c__law_prime:Callee P w K mg base aQ 2 "_law_prime" ["_law_n"] sj) (B':mg "range"=none) (n_sorted:mg "sorted"=none) (n_set:mg "set"=none):Callee P w K mg base aQ 3 "_law_primes" ["_law_tape_here"] sk:=by
 refine cO D gN (λf cdv A outer s H vs Q E hr h=>?_);obtain⟨p0,cl,n,rfl,tp,n9,q⟩:=h;have nd:=gN.nd;refine⟨_,(ae (bB (i:=1) nd (fM af)) (ae (b7 IQ rfl (dZ rfl B' (aa (ar bc ah (bN c__law_draw hr aB (aa (pv 0) (aa ah af)))) af)) (aq (i:=2) nd rfl (Jf rfl) (.inr rfl)) (ai (bU (iu JY Kv PySem.F.type_list_append dA (pv 1) (aa (bN c__law_prime hr aB (aa (ar bc ah (bN c__law_draw hr aB (aa (pv 0) (aa (ar bc ah (ar aK ah (pv 2))) af)))) af)) af))))) (ai (az (BQ rfl rfl n_sorted rfl n_set (aa (pv 1) af)))))),?_⟩;show bH _ _ _ [Io (.ref p0),none,none] H;k_data;refine⟨by show 0<=sizeLine;decide,λa ha=>?_⟩;have s1:=aj (o:=.lst []) ha;have e1:upd H a (.lst []) a=Io (.lst []):=ag;have tp1:=tp.same s1;generalize upd H a _=H1 at *;have nap:a≠p0:=λz=>by obtain⟨i,j,ns,hp,_⟩:=tp;rw [z,hp] at ha;cases ha
 have nac:a≠cl:=λz=>by obtain⟨i,j,ns,_,hp,_⟩:=tp;rw [z,hp] at ha;cases ha
 refine⟨p0,cl,5,n,rfl,tp1,by lia,by decide,by decide,λr H2 r0 r1 o2 tp2=>⟨r,rfl,by lia,by lia,?_⟩⟩;have e2:H2 a=Io (.lst (([]:List Int).map V.int)):=o2.lZ _ _ nap e1;have O2:jF p0 H H2:=(jF.of s1).trans o2.lZ;refine cT (n:=(1+r).toNat) (λi σ' H'=>G6 p0 cl a (n+1) H i σ' H') ⟨[],none,rfl,e2,rfl,by simp,tp2,O2⟩ ?_ ?_
 ·rintro i σ' H3 hi ⟨ns,o,rfl,e3,nl,hns,tp3,O3⟩;have i5:i<5:=by lia
  k_data;refine⟨.inl ⟨rfl,_,aJ.of e3⟩,Bd.of (by lia) (by lia),Bd.of (by lia) (by lia),p0,cl,_,_,rfl,tp3,by lia,by lia,by lia,λr3 H4 r30 r31 o4 tp4=>⟨r3,rfl,2+r3,227,rfl,by lia,by lia,ED,by decide,λp pm _ p9 _=>?_⟩⟩;have e4:=o4.lZ _ _ nap e3;refine⟨a,_,_,rfl,rfl,e4,by rw [Iu,nl];exact J3 (show i<=5 by lia) (by decide),ns++[p],_,rfl,by rw [ag,IT];rfl,by simp [nl],λx hx=>?_,?_,λb u nb eb=>?_⟩
  ·rcases J0.mp hx with z | z
   ·exact hns x z
   ·rw [IW.mp z];exact⟨pm,p9⟩
  ·exact tp4.but (bV.AA (d:=a)) (JC nap) (JC nap) (JC nac) (JC nac)
  ·rw [ao λz=>by rw [z,ha] at eb;cases eb];exact o4.lZ _ _ nb (O3 _ _ nb eb)
 ·rintro σ' H3 ⟨ns,o,rfl,e3,nl,hns,tp3,O3⟩;k_data;refine⟨a,ns,rfl,aJ.of e3,by lia,λpl ls' hr hm hpl=>?_⟩;have nd':ls'.Nodup:=hr.imp λh=>by lia
  have l5:=sub_len nd' λx hx=>(hm x).mp hx;have l1:1<=ls'.length:=by obtain⟨x,hx⟩:=List.exists_mem_of_length_pos (show 0<ns.length by lia);exact Qg ((hm x).mpr hx)
  have s4:=aj (o:=.lst (ls'.map V.int)) hpl;exact q pl ls' _ (λp hp=>hns p ((hm p).mp hp)) hr l1 (by lia) (O3.trans (jF.of s4)) ((tp3.same s4).more (by lia)) (uM O3 tp3 hpl) ag
structure Lp (ls:List Int):Prop where
 pm:∀ p∈ls,Num.Pm p/\p<=227
 so:ls.Pairwise (·<·)
 l1:1<=ls.length
 l5:ls.length<=5
theorem yx {ls:List Int} {b:Int}:DX (.int 0) ((ls.map λp=>b%p).map V.int)=true↔∃ p∈ls,p∣b:=by
 unfold DX;rw [Mu];constructor
 ·rintro⟨v,hv,e⟩;obtain⟨r,hr,rfl⟩:=IV.mp hv;obtain⟨p,hp,rfl⟩:=IV.mp hr;refine⟨p,hp,I0 ?_⟩;exact beq_iff_eq.mp (show (b%p==(0:Int))=true from e)
 ·rintro⟨p,hp,h⟩;refine⟨.int 0,IV.mpr ⟨0,IV.mpr ⟨p,hp,JP h⟩,rfl⟩,rfl⟩
theorem zS {H:Hp} {pp:Iy} {ls:List Int} {b:Int} {js:List (Option Nat)} {σ:L2.St} {Q:VK} (e:aJ K H pp (ls.map V.int)) (hj:cH js σ=[none,Io (.int b)]) (p2:∀ p∈ls,Num.Pm p/\p<=227) (ll:ls.length<=5) (q:∀ pz H',av H H'->aJ K H' pz ((ls.map λp=>b%p).map V.int)->Q (.ref pz) H'):lh (AJ K pp) js (cn 0) vG (Fd (rI (λx j=>0<j) λi j=>V.int (i%j)) (uv 1) (uv 0)) σ Q H:=by
 refine aY (xs:=ls.map V.int) (λi zs H1=>H1=H/\zs=((ls.take i).map λp=>b%p).map V.int) ⟨rfl,rfl⟩ (by rw [Iu];exact IJ ll (by decide)) (λi zs H1 hi ⟨e1,e2⟩=>⟨e1▸e,by rw [e2,Iu,Iu,JE];lia⟩) ?_ ?_
 ·rintro i x zs H1 hx ⟨eH,ez⟩;rw [eH];rw [ID] at hx;obtain⟨p,hp,rfl⟩:=IE.mp hx;have p2:=(p2 p (IC hp)).1.two;rw [hj];show cn 0 _ [none,Io (.int b)] _ _;k_data;refine⟨⟨rfl,True.intro⟩,by lia,?_⟩;rw [ez,Jv,hp,OZ,IT,IT];rfl
 rintro zs H1 pz ⟨eH,ez⟩ hpz;rw [eH] at hpz ⊢;rw [Iu,JI] at ez;rw [<- ez] at q;exact q _ _ (aj hpz) (aJ.of ag)
theorem sX {K:Iq} {a:Iy} {xs:List V} {js:List (Option Nat)} {g:TG} {tt:TT} {te:TE} {σ:L2.St} {Q:VK} {H1:Hp} (Pv:Nat->List V->Hp->Prop) (h0:Pv 0 [] H1) (hx:xs.length<=sizeLine) (hl:∀ i ys H,i<=xs.length->Pv i ys H->aJ K H a xs/\ys.length<=i)
  (hs:∀ i x ys H p,xs[i]?=Io x->Pv i ys H->H p=none->g (.ref p) (cH js σ) (upd H p (.tup [.int i,x])) λσ2 H2=>bE (cH js σ) σ2/\tt σ2 H2 λb H3=>if b=true then te σ2 H3 λv H4=>Pv (i+1) (ys++[v]) H4 else Pv (i+1) ys H3)
  (hd:∀ ys H p,Pv xs.length ys H->H p=none->Q (.ref p) (upd H p (.lst ys))):lh (GH K a) js g tt te σ Q H1:=by
 refine⟨λi m ys H=>m=xs.length-i/\i<=xs.length/\Pv i ys H,⟨xs.length,by simp,J4 _,h0⟩,?_⟩;rintro i m ys H ⟨rfl,hi,p⟩;obtain⟨q,hy⟩:=hl i ys H hi p;by_cases hlt:i<xs.length
 ·refine .inr ⟨⟨xs,xs[i],q,by simp [hlt]⟩,by lia,Pv (i+1),λys' H' p'=>⟨xs.length-(i+1),by lia,rfl,hlt,p'⟩,λx H' y=>?_⟩;obtain⟨pt,v,f,e1,e2,e3⟩:=y;subst e1 e3;exact hs i v ys H pt (e2 xs q) p f
 ·have e:i=xs.length:=by lia
  subst e;exact .inl ⟨⟨xs,q,IF _⟩,by lia,λp' hp'=>hd ys H p' p hp'⟩
def xp (H H':Hp):Prop:=∀ a xs,Rd H a (.tup xs)->Rd H' a (.tup xs)
theorem xp.same {H H':Hp} (s:av H H'):xp H H':=λa xs h=>h.elim (λh=>.inl (s _ _ h)) fun⟨o,h⟩=>.inr ⟨o,s _ _ h⟩
theorem xp.off {p0 cl:Iy} {n:Nat} {H H':Hp} (t:gg p0 cl n H) (of:jF p0 H H'):xp H H':=λa xs h =>h.elim (λh=>.inl (of _ _ (t.tp.ne h (by intro _ z;cases z)) h)) fun⟨o,h⟩=>.inr ⟨o,of _ _ (t.tp.ne h (by intro _ z;cases z)) h⟩
theorem gZ (pls:List (Int × Int)):dP (pls.map eB)=true:=cF (λ_=>rfl) pls
theorem Ef {ls:List Int} (hL:Lp ls):∀ p∈ls,¬p∣40009:=λp hp hd=>by
 obtain⟨pm,p9⟩:=hL.pm p hp;have p2:=pm.two;have h:∀ k:Nat,k<228->2<=k->¬k∣40009:=by decide +kernel
 exact h p.toNat (by lia) (by lia) (JF.mp (by rw [JR (by lia)];exact hd))
structure GoodR (ls:List Int) (pls:List (Int × Int)):Prop where
 len:pls.length<=ls.length
 ok:∀(i:Nat) p y,ls[i]?=Io p->pls[i]?=Io y->y.1=p/\0<y.2/\y.2<p
theorem Lp.G {ls:List Int} (h:Lp ls) {i j:Nat} {p q g:Int} (hp:ls[i]?=Io p) (hq:ls[j]?=Io q) (ij:i<j) (hg:Crt.G p q g):g=1:=by
 obtain⟨pm,_⟩:=h.pm p (IC hp);obtain⟨qm,_⟩:=h.pm q (IC hq);have lt:p<q:=by
  obtain⟨i1,e1⟩:=IB.mp hp;obtain⟨j1,e2⟩:=IB.mp hq;have:=LY.mp h.so i j i1 j1 ij
  rwa [e1,e2] at this
 have p2:=pm.two;have g0:=hg.pos;rcases (by lia:g=1∨2<=g) with z | z
 ·exact z
 ·have l1:=Jh (by lia) hg.da;exact absurd hg.db (qm.2 g z (by lia))
theorem GoodR.ls {ls:List Int} {pls:List (Int × Int)} (h:GoodR ls pls) (hL:Lp ls):GJ pls where
 ok:=λy hy=>by obtain⟨i,hi⟩:=KU.mp hy;have il:=(IB.mp hi).1;have hp:=Iv (show i<ls.length by have:=h.len;lia);obtain⟨h1,h2,h3⟩:=h.ok i _ y hp hi;have:=(hL.pm _ (IC hp)).2;lia
 xr:=by have:=h.len;have:=hL.l5;lia
 no:=λi j ij ⟨y,z,g,h1,h2,hg,n⟩=>by have jl:=(IB.mp h2).1;have hl:=h.len;have hp:=Iv (show i<ls.length by lia);have hq:=Iv (show j<ls.length by lia);rw [(h.ok i _ y hp h1).1,(h.ok j _ z hq h2).1] at hg;rw [hL.G hp hq ij hg] at n;exact n (SM _)
def Fs (K:Iq) (p0 cl:Iy) (m:Nat) (ls:List Int) (H:Hp) (i:Nat) (ys:List V) (H':Hp):Prop:=∃ pls:List (Int × Int),pls.length=i/\aE K H' (pls.map eB) ys/\(∀(j:Nat) p y,ls[j]?=Io p->pls[j]?=Io y->y.1=p/\0<y.2/\y.2<p)/\gg p0 cl (m+i) H'/\jF p0 H H'
def Fm (K:Iq) (p0 cl a5:Iy) (m:Nat) (ls:List Int) (H:Hp) (σ0:List (Option V)) (σ':L2.St) (H':Hp):Prop:=∃(pls:List (Int × Int)) (us:List V) (o:Option V),σ'=σ0++[o]/\H' a5=Io (.lst us)/\aE K H' (pls.map eB) us/\pls.length=ls.length/\GoodR ls pls/\gg p0 cl m H'/\jF p0 H H'
def Df (K:Iq):Sp:=λvs H Q _=>∃(p0 cl pl:Iy) (n:Nat) (ls:List Int),vs=[.ref p0,.ref pl]/\gg p0 cl n H/\n<=10^20/\H pl=Io (.lst (ls.map V.int))/\Lp ls/\∀(b a:Int) (t:Iy) (H':Hp),1<=b->b<=10^6->0<=a->a<=10^20->(∀ p∈ls,¬p∣a/\¬p∣b)->jF p0 H H'->gg p0 cl (n+20) H'->bj K H' t [.int b,.int a]->Q (.ref t) H'
theorem km:aw ["_law_tape_here","_law_primes_here","_law_b","_law_x","_law_apart","_law_rests","_law_at"] ["_law_tape_here","_law_primes_here"] (ak (top 69)):=dD
theorem Eo (D:ax K mg "_law_two" (top 69)) (c__law_draw:Callee P w K mg base aQ 1 "_law_draw" ["_law_tape_here","_law_many"] kZ) (c__law_power:Callee P w K mg base aQ 1 "_law_power" ["_law_n","_law_a","_law_e"] qc) (c__law_least_with:Callee P w K mg base aQ 2 "_law_least_with" ["_law_rows"] (mD K)) (n_enumerate:mg "enumerate"=none) (f':mg "len"=none):Callee P w K mg base aQ 3 "_law_two" ["_law_tape_here","_law_primes_here"] (Df K):=by
 refine cO D km (λf cdv A outer s H vs Q E hr h=>?_);obtain⟨p0,cl,pl,n,ls,rfl,tp,n9,epl,hL,q⟩:=h;have nd:=km.nd;refine⟨_,(ae (fP (i:=2) nd rfl (N6 rfl) (ar bc ah (bN c__law_draw hr aB (aa (pv 0) (aa ah af))))) (ae (aV IQ (ay wN ah (fz rfl (lD (N':=["_law_p","_law_b"]) (js:=[none,Io 2]) rfl rfl) (bp (pv 1)) (λ_ _ _ _=>(aq (i:=0) (show JJ [("_law_p":Jb),("_law_b":Jb)] from by decide +kernel) rfl (Jf rfl) (.inr rfl))) (λ_ _ _ _=>aR) (λ_ _ _ _=>(ar aH (pv 1) (pv 0)))) (by with_unfolding_all rfl)) (ai (fP (i:=2) nd rfl (N6 rfl) (ar bc (pv 2) ah)))) (ae (fP (i:=3) nd rfl (N6 rfl) (bN c__law_draw hr aB (aa (pv 0) (aa ah af)))) (ae (fP (i:=4) nd rfl (N6 rfl) (bN c__law_draw hr aB (aa (pv 0) (aa ah af)))) (ae (eU (i0:=5) nd rfl (Jf rfl) rfl (lD (N':=["_law_k","_law_p","_law_b","_law_x","_law_apart","_law_tape_here"]) (js:=[none,none,Io 2,Io 3,Io 4,Io 0]) rfl rfl) (jg rfl n_enumerate (aa (pv 1) af)) (λ_ _ _ _=>(c8 K rfl (n:=2) rfl (au (aq (i:=0) (show JJ [("_law_k":Jb),("_law_p":Jb),("_law_b":Jb),("_law_x":Jb),("_law_apart":Jb),("_law_tape_here":Jb)] from by decide +kernel) rfl (Jf rfl) (.inr rfl)) (au (aq (i:=1) (show JJ [("_law_k":Jb),("_law_p":Jb),("_law_b":Jb),("_law_x":Jb),("_law_apart":Jb),("_law_tape_here":Jb)] from by decide +kernel) rfl (Jf rfl) (.inr rfl)) aO)))) (λ_ _ _ _=>aR) (λ_ _ _ _=>(aF (aa (pv 1) (aa (bN c__law_power hr aB (aa (pv 1) (aa (pv 2) (aa (ar bc (pv 3) (ar aK (ar aK (pv 0) (pv 4)) (bN c__law_draw hr aB (aa (pv 5) (aa ah af))))) af)))) af)))) (by rfl) (by first | exact .inl rfl | exact .inr rfl)) (ae (cw (aS (ay cL (bN c__law_draw hr aB (aa (pv 0) (aa ah af))) ah (aA _)) (ae (bB (i:=6) nd (bN c__law_draw hr aB (aa (pv 0) (aa (aC aX rfl f' JG (aa (pv 1) af)) af)))) (ai (eC (aF (aa (aG bz (pv 1) (pv 6) (λ_ _=>rfl)) (aa (ar bc ah (bN c__law_draw hr aB (aa (pv 0) (aa (ar fL (aG bz (pv 1) (pv 6) (λ_ _=>rfl)) ah) af)))) af))) (EC (pv 5) (pv 6) set_list)))) aD)) (ai (az (aF (aa (pv 2) (aa (bN c__law_least_with hr aB (aa (pv 5) af)) af))))))))))),?_⟩;show bH _ _ _ [Io (.ref p0),Io (.ref pl),none,none,none,none,none] H;k_data;have l5:=hL.l5;have l1:=hL.l1;have npl:pl≠p0:=λz=>by obtain⟨i,j,ns,hp,_⟩:=tp;rw [z,hp] at epl;cases epl
 refine⟨p0,cl,40000,n,rfl,tp,by lia,by decide,by decide,λr H1 r0 r1 o1 tp1=>⟨r,rfl,?_⟩⟩;have O1:=o1.lZ;have epl1:=O1 _ _ npl epl;refine aW (α:=Int) (λb=>[Io (.ref p0),Io (.ref pl),Io (.int b),none,none,none,none]) (λb H'=>av H1 H'/\1<=b/\b<=40009) (λb=>(40009-b).toNat) (1+r) rfl ⟨av.refl _,by lia,by lia⟩ ?_;rintro b H2 ⟨s2,b1,b9⟩;replace b1:1<=b:=b1;replace b9:b<=40009:=b9;k_data;have epl2:=s2 _ _ epl1;refine⟨⟨_,aJ.of epl2⟩,zS (aJ.of epl2) rfl hL.pm l5 λpz H3 s3 hz=>⟨pz,_,rfl,.inl hz,rfl,by simp [dR],_,rfl,?_⟩⟩;rw [if_neg (show ¬false=true by decide)];refine aZ (λc=>?_) (λc=>?_)
 ·obtain⟨p,hp,pb⟩:=yx.mp c;have nb:b≠40009:=λz=>Ef hL p hp (z▸pb);exact⟨_,λ_ _ z=>z,b+1,rfl,s2.trans s3,by lia,by lia,by lia⟩
 have nb:∀ p∈ls,¬p∣b:=λp hp pb=>c (yx.mpr ⟨p,hp,pb⟩);have S3:=s2.trans s3;have tp3:=tp1.same S3;have O3:jF p0 H H3:=O1.trans (jF.of S3);refine⟨p0,cl,9999,_,rfl,tp3,by lia,by decide,by decide,λx H4 x0 x1 o4 tp4=>⟨p0,cl,2,_,rfl,tp4,by lia,by decide,by decide,λap H5 ap0 ap1 o5 tp5=>?_⟩⟩;have O5:=O3.trans (o4.lZ.trans o5.lZ);have epl5:=O5 _ _ npl epl;refine⟨⟨_,aJ.of epl5⟩,sX (xs:=ls.map V.int) (λi ys H'=>Fs K p0 cl (n+1+1+1) ls H i ys H') ⟨[],rfl,rfl,λj p y _ z=>by simp at z,tp5,O5⟩ (by rw [Iu];exact IJ l5 (by decide)) (λi ys H' _ h=>by obtain⟨pls,h1,h2,_,_,h5⟩:=h;exact⟨aJ.of (h5 _ _ npl epl),by rw [h2.length,Iu];lia⟩) ?_ ?_⟩
 ·rintro i x' ys H6 pt hx ⟨pls,pll,hys,hpls,tp6,O6⟩ hpt;rw [ID] at hx;obtain⟨p,hp,rfl⟩:=IE.mp hx;have il:=(IB.mp hp).1;obtain⟨pm,p9⟩:=hL.pm p (IC hp);have p2:=pm.two;have s7:=aj (o:=.tup [V.int (i:Int),V.int p]) hpt;have e7:upd H6 pt (.tup [V.int (i:Int),V.int p]) pt=Io (.tup [V.int (i:Int),V.int p]):=ag;generalize upd H6 pt _=H7 at *;have tp7:=tp6.same s7;refine⟨pt,_,rfl,bj.of e7,rfl,?_⟩;simp only [cH,Jz,MB,QZ];k_data;have i4:(i:Int)*ap<=5*2:=LW (by lia) (by lia) ap0 (by decide);have i0:0<=(i:Int)*ap:=Mt (by lia) ap0;refine⟨⟨rfl,rfl,rfl,rfl,True.intro⟩,_,rfl,_,rfl,_,rfl,ap,rfl,Bd.of (by lia) (by lia),Bd.of (by lia) (by lia),_,rfl,p0,cl,9,_,rfl,tp7,by lia,by decide,by decide,λr8 H8 r80 r81 o8 tp8=>⟨r8,rfl,Bd.of (by lia) (by lia),Bd.of (by lia) (by lia),x,rfl,p,b,_,rfl,by lia,by lia,by lia,by lia,?_,by show 2<=sizeLine;decide,λp9' hp9=>?_⟩⟩
  ·have:=Mt i0 r80;lia
  have y0:=Jn (b^(x+(i:Int)*ap*r8).toNat) (show p≠0 by lia);have y1:=Jg (b^(x+(i:Int)*ap*r8).toNat) (show 0<p by lia);have yn:b^(x+(i:Int)*ap*r8).toNat%p≠0:=λz=>pm.unit ((pm.co (nb p (IC hp))).pow _) (I0 z);generalize b^(x+(i:Int)*ap*r8).toNat%p=y at *;have s9:=aj (o:=.tup [V.int p,V.int y]) hp9;have kt:=xp.off tp7 o8.lZ;refine⟨pls++[(p,y)],by simp [pll],?_,λj p' y' h1 h2=>?_,(tp8.same s9).more (by lia),O6.trans ((jF.of s7).trans (o8.lZ.trans (jF.of s9)))⟩
  ·rw [IT];exact aE.append (aE.same s9 _ (aE.aN kt _ (gZ pls) (aE.same s7 _ hys))) (.one (dv.tup ag ⟨_,_,rfl,rfl,.one rfl⟩))
  ·rcases (by
    have:=(IB.mp h2).1;rw [Js,Ks] at this;lia:j<pls.length∨j=pls.length) with c | rfl
   ·rw [KC c] at h2;exact hpls j _ _ h1 h2
   ·rw [MR] at h2;rw [pll,hp] at h1;cases h1;cases h2;exact⟨rfl,by lia,y1⟩
 rintro us H6 a5 ⟨pls,pll,hys,hpls,tp6,O6⟩ ha5;rw [Iu] at pll;have s7:=aj (o:=.lst us) ha5;have e7:upd H6 a5 (.lst us) a5=Io (.lst us):=ag;have tp7:=(tp6.same s7).more (show n+1+1+1+(ls.map V.int).length<=n+8 by rw [Iu];lia);have O7:=O6.trans (jF.of s7);have hys7:=aE.same s7 _ hys;have fa5:=uM O6 tp6 ha5;generalize upd H6 a5 _=H7 at *;have na5:a5≠p0:=λz=>by obtain⟨i,j,ns,hp,_⟩:=tp;rw [z,hp] at fa5;cases fa5
 have nac:a5≠cl:=λz=>by obtain⟨i,j,ns,_,hp,_⟩:=tp;rw [z,hp] at fa5;cases fa5
 have gd7:GoodR ls pls:=⟨by lia,hpls⟩
 refine⟨λσ' H'=>Fm K p0 cl a5 (n+11) ls H [Io (.ref p0),Io (.ref pl),Io (.int b),Io (.int x),Io (.int ap),Io (.ref a5)] σ' H',?_,?_⟩
 ·k_data;refine⟨p0,cl,4,_,rfl,tp7,by lia,by decide,by decide,λr8 H8 r80 r81 o8 tp8=>⟨rfl,?_⟩⟩;have O8:=O7.trans o8.lZ;have e8:=o8.lZ _ _ na5 e7;have hys8:=aE.aN (xp.off tp7 o8.lZ) _ (gZ pls) hys7;refine aZ (λ_=>?_) (λ_=>⟨pls,us,none,rfl,e8,hys8,pll,gd7,tp8.more (by lia),O8⟩);refine cf (aJ.of (O8 _ _ npl epl)) ⟨p0,cl,_,_,rfl,tp8,by lia,by rw [Iu];lia,by rw [Iu];lia,λr9 H9 r90 r91 o9 tp9=>?_⟩;rw [Iu] at r91;obtain⟨m,rfl⟩:∃ m:Nat,r9=m:=⟨r9.toNat,by lia⟩
  have ml:m<ls.length:=by lia
  have O9:=O8.trans o9.lZ;have hm:=Iv ml;generalize ls[m]=p at hm;obtain⟨pm,p9⟩:=hL.pm p (IC hm);have p2:=pm.two;have hmv:(ls.map V.int)[m]?=Io (V.int p):=by rw [ID,hm];rfl
  refine⟨pl,_,_,_,rfl,rfl,aJ.of (O9 _ _ npl epl),fJ hmv,pl,_,_,_,rfl,rfl,aJ.of (O9 _ _ npl epl),fJ hmv,p,rfl,p0,cl,p-1,_,rfl,tp9,by lia,by lia,by lia,λr10 H10 r100 r101 o10 tp10=>⟨r10,rfl,by show 2<=sizeLine;decide,λpt hpt=>?_⟩⟩;have s11:=aj (o:=.tup [V.int p,V.int (1+r10)]) hpt;have e11:upd H10 pt (.tup [V.int p,V.int (1+r10)]) pt=Io (.tup [V.int p,V.int (1+r10)]):=ag;have e10:=o10.lZ _ _ na5 (o9.lZ _ _ na5 e8);have hys10:=aE.aN (xp.off tp9 o10.lZ) _ (gZ pls) (aE.aN (xp.off tp8 o9.lZ) _ (gZ pls) hys8);have hys11:=aE.same s11 _ hys10;have a11:=s11 _ _ e10;have tp11:=tp10.same s11;have O11:=(O9.trans o10.lZ).trans (jF.of s11);generalize upd H10 pt _=H11 at *;have usl:us.length=ls.length:=by rw [hys7.length,Iu,pll]
  refine⟨a5,us,m,m,rfl,rfl,a11,by unfold xt;rw [if_pos (by lia),if_pos (by lia),IX],?_⟩;have kT:=wb (vs:=us.set m (.ref pt)) a11;have hv:=aE.set m hys11 (dv.tup (ds:=[.int p,.int (1+r10)]) e11 ⟨_,_,rfl,rfl,.one rfl⟩);have em:(pls.map eB).set m (.tuple [.int p,.int (1+r10)])=(pls.set m (p,1+r10)).map eB:=by rw [List.map_set];rfl
  rw [em] at hv;refine⟨pls.set m (p,1+r10),us.set m (.ref pt),_,rfl,ag,aE.aN kT _ (gZ _) hv,by rw [Qi,pll],⟨by rw [Qi];lia,λj p' y' h1 h2=>?_⟩,(tp11.but (bV.AA (d:=a5)) (JC na5) (JC na5) (JC nac) (JC nac)).more (by lia),λc u nc ec=>?_⟩
  ·by_cases c:m=j
   ·subst c;rw [NB (by lia)] at h2;rw [hm] at h1;cases h1;cases h2;exact⟨rfl,by show 0<1+r10;lia,by show 1+r10<p;lia⟩
   ·rw [Od c] at h2;exact hpls j _ _ h1 h2
  ·rw [ao λz=>by rw [z,fa5] at ec;cases ec];exact O11 _ _ nc ec
 rintro σ' H8 ⟨pls8,us8,o8,rfl,e8,hys8,pll8,gd8,tp8,O8⟩;k_data;refine⟨a5,us8,pls8,rfl,aJ.of e8,hys8,gd8.ls hL,λW x8 T W9=>⟨by show 2<=sizeLine;decide,λt ht=>?_⟩⟩;have s9:=aj (o:=.tup [V.int b,V.int x8]) ht;refine q b x8 t _ b1 (by lia) T.x0 (by have:=T.x1;lia) (λp hp=>⟨λhd=>?_,nb p hp⟩) (O8.trans (jF.of s9)) ((tp8.same s9).more (by lia)) (bj.of ag);obtain⟨j,hj⟩:=KU.mp hp;have jl:=(IB.mp hj).1;have hy:=Iv (show j<pls8.length by lia);obtain⟨h1,h2,h3⟩:=gd8.ok j p _ hj hy;have al:=T.al _ (IC hy);rw [h1] at al;have:=Og hd al;rw [show x8-(x8-(pls8[j]).2)=(pls8[j]).2 by lia] at this;have:=Jh h2 this;lia
theorem AQ.al {ps:List Int} {b a:Int} {pls:List (Int × Int)} (h:AQ ps b a pls) {n:Nat} {p:Int} {e:Nat} (hp:ps[n]?=Io p) (o:Num.Ord p b e):Num.Al p (a^e) 1:=by
 have hn:=(IB.mp hp).1;have hl:=h.len;obtain⟨e',x,_,_,o',_,al⟩:=h.ok n p _ hp (Iv (show n<pls.length by lia));refine (al.pow e).trans ?_;rw [<- Pp,Ju,Pp];have h5:=o.one.pow x
 rwa [Pq] at h5
theorem AQ.one {ps:List Int} {b a:Int} {pls pls':List (Int × Int)} (h:AQ ps b a pls) (h':AQ ps b a pls'):pls=pls':=by refine Nb (by rw [h.len,h'.len]) λn h1 h2=>?_;have hp:=Iv (show n<ps.length by rw [<- h.len];exact h1);obtain⟨e,x,ey,xe,o,_,al⟩:=h.ok n _ _ hp (Iv h1);obtain⟨e',x',ey',xe',o',_,al'⟩:=h'.ok n _ _ hp (Iv h2);obtain rfl:=o.iK o';obtain rfl:=Num.jW o xe xe' al al';rw [ey,ey']
theorem Fg.one {pls:List (Int × Int)} {i j i' j':Nat} {y z y' z':Int × Int} (h:Fg pls i j y z) (h':Fg pls i' j' y' z'):i=i'/\j=j'/\y=y'/\z=z':=by
 have l:=h.lt;have l':=h'.lt;have e:i=i'/\j=j':=by
  by_cases c1:i'<i∨(i'=i/\j'<j)
  ·exact absurd h'.ap (h.no _ _ l' c1)
  by_cases c2:i<i'∨(i=i'/\j<j')
  ·exact absurd h.ap (h'.no _ _ l c2)
  lia
 obtain⟨rfl,rfl⟩:=e;have a1:=h.sF;have a2:=h.at2;rw [h'.sF] at a1;rw [h'.at2] at a2;cases a1;cases a2;exact⟨rfl,rfl,rfl,rfl⟩
theorem vN.one {ps:List Int} {b a:Int}:∀{o o':WO},vN ps b a o->vN ps b a o'->o=o'
 | .no n e r,.no n' e' r',⟨p,hp,h1,h2,h3,h4⟩,⟨p',hp',h1',h2',h3',h4'⟩=>by
  have en:n=n':=by
   rcases (by lia:n<n'∨n=n'∨n'<n) with z | z | z
   ·exact absurd (h4' n p e z hp h1) h2
   ·exact z
   ·exact absurd (h4 n' p' e' z hp' h1') h2'
  subst en;rw [hp] at hp';cases hp';obtain rfl:=h1.iK h1';rw [h3,h3']
 | .no n e r,.ap i j y z,⟨p,hp,h1,h2,_⟩,⟨pls,hP,_⟩=>absurd (hP.al hp h1) h2
 | .no n e r,.is pls,⟨p,hp,h1,h2,_⟩,⟨hP,_⟩=>absurd (hP.al hp h1) h2
 | .ap i j y z,.no n e r,⟨pls,hP,_⟩,⟨p,hp,h1,h2,_⟩=>absurd (hP.al hp h1) h2
 | .is pls,.no n e r,⟨hP,_⟩,⟨p,hp,h1,h2,_⟩=>absurd (hP.al hp h1) h2
 | .ap i j y z,.ap i' j' y' z',⟨pls,hP,hF⟩,⟨pls',hP',hF'⟩=>by obtain rfl:=hP.one hP';obtain⟨rfl,rfl,rfl,rfl⟩:=hF.one hF';rfl
 | .ap i j y z,.is pls',⟨pls,hP,hF⟩,⟨hP',no⟩=>by obtain rfl:=hP.one hP';exact absurd hF.ap (no _ _ hF.lt)
 | .is pls,.ap i j y z,⟨hP,no⟩,⟨pls',hP',hF⟩=>by obtain rfl:=hP.one hP';exact absurd hF.ap (no _ _ hF.lt)
 | .is pls,.is pls',⟨hP,_⟩,⟨hP',_⟩=>by rw [hP.one hP']
def mU (r:Rw):IL:=kK r.2.2.1 r.2.1 r.2.2.2
noncomputable def xw (r:Rw):Int × Int:=((r.2.1:Int),(r.2.2.1:Int))
def vM (p b a:Int) (d:IL):Prop:=(∃ e:Nat,Num.Ord p b e/\(e:Int)<p/\¬Num.Al p (a^e) 1/\d=ip e (a^e%p))∨∃ r,jK p b a r/\d=mU r
structure Dt (ls:List Int) (b a:Int) (ds:List IL):Prop where
 len:ds.length=ls.length
 ok:∀(i:Nat) p d,ls[i]?=Io p->ds[i]?=Io d->vM p b a d
theorem jK.one {p b a:Int} {r r':Rw} (h:jK p b a r) (h':jK p b a r'):r=r':=by obtain⟨p1,e1,x1,l1⟩:=r;obtain⟨p2,e2,x2,l2⟩:=r';have a1:=h.pe;have a2:=h'.pe;dsimp only at a1 a2;subst a1;subst a2;obtain rfl:e1=e2:=h.o.iK h'.o;obtain rfl:x1=x2:=Num.jW h.o h.x h'.x h.al h'.al;obtain rfl:l1=l2:=h.pt.one h'.pt;rfl
theorem d5.one {ls:List Int} {b a:Int} {rs rs':List Rw} (h:d5 ls b a rs) (h':d5 ls b a rs'):rs=rs':=by refine Nb (by rw [h.len,h'.len]) λn h1 h2=>?_;have hp:=Iv (show n<ls.length by rw [<- h.len];exact h1);exact (h.ok n _ _ hp (Iv h1)).one (h'.ok n _ _ hp (Iv h2))
theorem CQ {b a:Int}:∀{ls:List Int} {ds:List IL},ds.length=ls.length->(∀(i:Nat) p d,ls[i]?=Io p->ds[i]?=Io d->∃ r,jK p b a r/\d=mU r)->∃ rs,d5 ls b a rs/\ds=rs.map mU
 | [],[],_,_=>⟨[],⟨rfl,λi p r h=>by simp at h⟩,rfl⟩
 | [],_::_,h,_=>by simp at h
 | _::_,[],h,_=>by simp at h
 | p::ls,d::ds,hl,h=>by
  obtain⟨r,h1,rfl⟩:=h 0 p d rfl rfl;obtain⟨rs,h2,h3⟩:=CQ (ls:=ls) (ds:=ds) (by simpa using hl) λi p' d' e1 e2=>h (i+1) p' d' (by simpa using e1) (by simpa using e2);refine⟨r::rs,⟨by simp [h2.len],λi p' r' e1 e2=>?_⟩,by rw [Jz,<- h3]⟩;cases i with
  | zero=>cases e1;cases e2;exact h1
  | succ i=>exact h2.ok i p' r' (by simpa using e1) (by simpa using e2)
theorem B5 {ls:List Int} {b a:Int} {rs:List Rw} (h:d5 ls b a rs):AQ ls b a (rs.map xw) where
 len:=by rw [Iu,h.len]
 ok:=λi p y h1 h2=>by rw [ID] at h2;obtain⟨r,hr,rfl⟩:=IE.mp h2;have g:=h.ok i p r h1 hr;exact⟨_,_,rfl,g.x,g.o,g.lt,g.al⟩
theorem B4 {r r':Rw} (h:mU r=mU r'):xw r=xw r':=by
 unfold mU kK at h;injection h with h
 injection h with h1 h
 injection h with h
 injection h with h
 injection h with _ h
 injection h with h2
 injection h1 with h1
 injection h2 with h2
 unfold xw;rw [h1,h2]
theorem yR {e:Nat} {r:Int} {q:Rw}:ip e r≠mU q:=λh=>by
 unfold mU kK ip at h;injection h with h
 injection h with h1
 cases h1
theorem jK.DG {p b a:Int} {r:Rw} (h:jK p b a r) {e:Nat} (o:Num.Ord p b e):Num.Al p (a^e) 1:=by
 have al:=h.al;refine (al.pow e).trans ?_;rw [<- Pp,Ju,Pp];have h5:=o.one.pow r.2.2.1
 rwa [Pq] at h5
theorem FG {H:Hp} {a:Iy} {xs:List V} {lo hi:Option Int} {Q:VK} (hS:bj K H a xs) (q:∀ p H',av H H'->bj K H' p (fj xs lo hi)->Q (.ref p) H'):Ga K (.ref a) lo hi H Q :=
 ⟨a,xs,rfl,hS,λp H' s hp=>q p H' s hp⟩
theorem qP {p b a:Int} {d:IL} {H:Hp} {x:V} (h:vM p b a d) (hv:dv K H d x):∃(e:Nat) (c:IL) (pu psh:Iy) (x1 z0 z2:V),x=.ref pu/\bj K H pu [x1,.ref psh]/\dv K H c x1/\bj K H psh [z0,.int e,z2]/\kX c=true/\(∀ r,d=mU r->.tuple [.int e,c]=eB (xw r))/\((x1=.non/\z2=.int (a^e%p)/\Num.Ord p b e/\(e:Int)<p/\¬Num.Al p (a^e) 1)∨(x1≠.non/\∃ r,jK p b a r/\d=mU r)):=by
 rcases h with⟨e,o,ep,nal,rfl⟩|⟨r,hr,rfl⟩
 ·obtain⟨pu,x1,sv,rfl,tU,f1,f2⟩:=tf hv;obtain⟨psh,z0,z1,z2,rfl,tS,g0,g1,g2⟩:=tj f2;cases g1;cases g2;exact⟨e,.none,pu,psh,x1,z0,_,rfl,tU,f1,tS,rfl,λr hr=>absurd hr yR,.inl ⟨f1,rfl,o,ep,nal⟩⟩
 ·obtain⟨pu,x1,sv,rfl,tU,f1,f2⟩:=tf hv;obtain⟨psh,z0,z1,z2,rfl,tS,g0,g1,g2⟩:=tj f2;cases g1;cases f1;exact⟨r.2.1,.int r.2.2.1,pu,psh,_,z0,z2,rfl,tU,rfl,tS,rfl,λr' hr'=>by rw [<- B4 hr'];rfl,.inr ⟨(λz=>by cases z),r,hr,rfl⟩⟩
def uA (ls:List Int) (b a:Int) (ds:List IL):WO->Prop
 | .no _ _ _=>True
 | _=>∃ rs,d5 ls b a rs/\ds=rs.map mU
def G1 (K:Iq) (ls:List Int) (b a:Int) (ds:List IL) (H:Hp) (i:Nat) (ys:List V) (H':Hp):Prop:=av H H'/\∃ es:List IL,es.length=i/\aE K H' es ys/\∀(j:Nat) d e,ds[j]?=Io d->es[j]?=Io e->∀ r:Rw,d=mU r->e=eB (xw r)
def G2 (ra pa:Iy) (ls:List Int) (b a:Int) (ds:List IL) (H:Hp) (i:Nat) (σ':L2.St) (H':Hp):Prop:=av H H'/\∃ o2 o3:Option V,σ'=[Io (.ref ra),Io (.ref pa),o2,o3,none,none]/\∀(j:Nat) p d,j<i->ls[j]?=Io p->ds[j]?=Io d->∃ r,jK p b a r/\d=mU r
def G3 (ra pa:Iy) (o2 o3:Option V) (pls:List (Int × Int)) (H:Hp) (i:Nat) (σ':L2.St) (H':Hp):Prop:=H'=H/\∃ o4 o5:Option V,σ'=[Io (.ref ra),Io (.ref pa),o2,o3,o4,o5]/\∀ i' j',i'<i->i'<j'->¬Ap pls i' j'
def G4 (ra pa:Iy) (o2 o3:Option V) (pls:List (Int × Int)) (i:Nat) (H:Hp) (j:Nat) (σ':L2.St) (H':Hp):Prop:=H'=H/\∃ o5:Option V,σ'=[Io (.ref ra),Io (.ref pa),o2,o3,Io (.int i),o5]/\(∀ i' j',i'<i->i'<j'->¬Ap pls i' j')/\∀ j',i<j'->j'<i+1+j->¬Ap pls i j'
def vp (K:Iq):Sp:=λvs H Q _=>∃(ra:Iy) (us:List V) (ds:List IL) (ls:List Int) (b a:Int),vs=[.ref ra]/\H ra=Io (.lst us)/\aE K H ds us/\Dt ls b a ds/\Lp ls/\∀ o x v H',vN ls b a o->qy x o->uA ls b a ds o->av H H'->dv K H' (xy x o) v->Q v H'
theorem gM:aw ["_law_rows","_law_places","_law_n","_law_row","_law_i","_law_j"] ["_law_rows"] (ak (top 70)):=dD
theorem yV (D:ax K mg "_law_due_of" (top 70)) (c__law_common:Callee P w K mg base aQ 1 "_law_common" ["_law_one","_law_other"] mB) (c__law_least_with:Callee P w K mg base aQ 2 "_law_least_with" ["_law_rows"] (mD K)) (n_enumerate:mg "enumerate"=none) (B':mg "range"=none) (A':mg "tuple"=none) (f':mg "len"=none):Callee P w K mg base aQ 3 "_law_due_of" ["_law_rows"] (vp K):=by
 refine cO D gM (λf cdv A outer s H vs Q E hr h=>?_);obtain⟨ra,us,ds,ls,b,a,rfl,era,hd,hD,hL,q⟩:=h;have nd:=gM.nd;refine⟨_,(ae (eU (i0:=1) nd rfl (Jf rfl) rfl (lD (N':=["_law_x","_law_shown"]) (js:=[none,none]) rfl rfl) (bp (pv 0)) (λ_ _ _ _=>(c8 K rfl (n:=2) rfl (au (aq (i:=0) (show JJ [("_law_x":Jb),("_law_shown":Jb)] from by decide +kernel) rfl (Jf rfl) (.inr rfl)) (au (aq (i:=1) (show JJ [("_law_x":Jb),("_law_shown":Jb)] from by decide +kernel) rfl (Jf rfl) (.inr rfl)) aO)))) (λ_ _ _ _=>aR) (λ_ _ _ _=>(aF (aa (aG (bL K rfl) (pv 1) ah (λ_ _=>rfl)) (aa (pv 0) af)))) (by rfl) (by first | exact .inl rfl | exact .inr rfl)) (ae (b7 IQ rfl (jg rfl n_enumerate (aa (pv 0) af)) (bZ (n:=2) rfl (au (aq (i:=2) nd rfl (Jf rfl) (.inr rfl)) (au (aq (i:=3) nd rfl (Jf rfl) (.inr rfl)) aO))) (ai (aS (ay ub (aG a9 (pv 3) ah (λ_ _=>rfl)) dB (aA _)) (ai (az (aF (aa dB (aa (ar uY (aF (aa aM (aa (pv 2) af))) (gF Cg (aG a9 (pv 3) ah (λ_ _=>rfl)) (fN ah) jh)) af))))) aD))) (ae (b7 IQ rfl (dZ rfl B' (aa (aC aX rfl f' JG (aa (pv 1) af)) af)) (aq (i:=4) nd rfl (Jf rfl) (.inr rfl)) (ai (b7 IQ rfl (wV rfl B' (aa (ar bc (pv 4) ah) (aa (aC aX rfl f' JG (aa (pv 1) af)) af))) (aq (i:=5) nd rfl (Jf rfl) (.inr rfl)) (ai (aS (ay fY (ar aH (ar fL (aG a9 (aG bz (pv 1) (pv 4) (λ_ _=>rfl)) ah (λ_ _=>rfl)) (aG a9 (aG bz (pv 1) (pv 5) (λ_ _=>rfl)) ah (λ_ _=>rfl))) (bN c__law_common hr aB (aa (aG a9 (aG bz (pv 1) (pv 4) (λ_ _=>rfl)) ah (λ_ _=>rfl)) (aa (aG a9 (aG bz (pv 1) (pv 5) (λ_ _=>rfl)) ah (λ_ _=>rfl)) af)))) ah (aA _)) (ai (az (aF (aa dB (aa (aF (aa aM (aa (pv 4) (aa (pv 5) (aa (aG bz (pv 1) (pv 4) (λ_ _=>rfl)) (aa (aG bz (pv 1) (pv 5) (λ_ _=>rfl)) af)))))) af))))) aD))))) (ai (az (aF (aa (bN c__law_least_with hr aB (aa (pv 1) af)) (aa (aF (aa aM (aa (cI bS rfl A' L2.boot_tuple (aa (pv 1) af)) af))) af)))))))),?_⟩;show bH _ _ _ [Io (.ref ra),none,none,none,none,none] H;k_data;have l5:=hL.l5;have ul:us.length=ls.length:=by rw [hd.length,hD.len]
 refine⟨⟨_,aJ.of era⟩,aY (xs:=us) (λi ys H'=>G1 K ls b a ds H i ys H') ⟨av.refl _,[],rfl,rfl,λj d e _ z=>by simp at z⟩ (by rw [ul];exact IJ l5 (by decide)) (λi ys H' _ h=>by obtain⟨s,es,h1,h2,_⟩:=h;exact⟨aJ.of (s _ _ era),by rw [h2.length,h1];exact IF _⟩) ?_ ?_⟩
 ·rintro i x ys H1 hx ⟨s1,es,el,hys,hes⟩;obtain⟨d,hd1,hd2⟩:=hd.get hx;have il:=(IB.mp hd1).1;have hp:=Iv (show i<ls.length by rw [<- hD.len];exact il);obtain⟨e,c,pu,psh,x1,z0,z2,rfl,tU,hc,tS,nlc,hr,_⟩:=qP (hD.ok i _ d hp hd1) (dv.same s1 _ hd2);refine⟨pu,_,rfl,tU,rfl,?_⟩;simp only [cH,Jz,MB,QZ];k_data;refine⟨True.intro,bM tS sF ⟨by show 2<=sizeLine;decide,λpt hpt=>?_⟩⟩;have s2:=aj (o:=.tup [V.int (e:Int),x1]) hpt;refine⟨s1.trans s2,es++[.tuple [.int e,c]],by simp [el],aE.append (aE.same s2 _ hys) (.one (dv.tup (ds:=[.int e,c]) ag ⟨_,_,rfl,rfl,.one (dv.same s2 _ hc)⟩)),λj d' e' h1 h2 r er=>?_⟩;rcases (by
   have:=(IB.mp h2).1;rw [Js,Ks] at this;lia:j<es.length∨j=es.length) with z | rfl
  ·rw [KC z] at h2;exact hes j _ _ h1 h2 r er
  ·rw [MR] at h2;rw [el,hd1] at h1;cases h1;cases h2;exact hr r er
 rintro ys H1 pa ⟨s1,es,el,hys,hes⟩ hpa;rw [ul] at el;have s2:=aj (o:=.lst ys) hpa;have e2:upd H1 pa (.lst ys) pa=Io (.lst ys):=ag;have S2:=s1.trans s2;have hys2:=aE.same s2 _ hys;generalize upd H1 pa _=H2 at *;refine⟨⟨_,aJ.of (S2 _ _ era)⟩,gY (xs:=us) (λi σ' H'=>G2 ra pa ls b a ds H2 i σ' H') ⟨av.refl _,none,none,rfl,λj p d z=>by lia⟩ (λi σ' H' _ h=>aJ.of ((S2.trans h.1) _ _ era)) ?_ ?_⟩
 ·rintro i x σ' H3 pt hx ⟨s3,o2,o3,rfl,hno⟩ hpt;obtain⟨d,hd1,hd2⟩:=hd.get hx;have il:=(IB.mp hd1).1;have hp:=Iv (show i<ls.length by rw [<- hD.len];exact il);generalize ls[i]'_=p at hp;have s4:=aj (o:=.tup [V.int (i:Int),x]) hpt;have e4:upd H3 pt (.tup [V.int (i:Int),x]) pt=Io (.tup [V.int (i:Int),x]):=ag;generalize upd H3 pt _=H4 at *;have S4:=S2.trans (s3.trans s4);obtain⟨e,c,pu,psh,x1,z0,z2,rfl,tU,hc,tS,nlc,hr,ho⟩:=qP (hD.ok i _ d hp hd1) (dv.same S4 _ hd2);refine⟨pt,_,rfl,bj.of e4,rfl,?_⟩;k_data;refine bM tU kE (aZ (λc1=>?_) (λc1=>?_))
  ·rcases ho with⟨h1,rfl,o,ep,nal⟩|⟨h1,_⟩
   rotate_left
   ·exact absurd c1 h1
   refine⟨by show 2<=sizeLine;decide,λp1 hp1=>?_⟩;have s5:=aj (o:=.tup [V.str "none",V.int (i:Int)]) hp1;have e5:upd H4 p1 (.tup [V.str "none",V.int (i:Int)]) p1=Io (.tup [V.str "none",V.int (i:Int)]):=ag;generalize upd H4 p1 _=H5 at *;refine bM (tU.same s5) sF (FG (tS.same s5) λp2 H6 s6 t6=>?_);rw [show fj [z0,V.int (e:Int),V.int (a^e%p)] (Io 1) none=[V.int (e:Int),V.int (a^e%p)] from qK (m:=1) (by show 1<=3;decide)] at t6;refine⟨p1,p2,_,_,rfl,rfl,bj.of (s6 _ _ e5),t6,by show 4<=sizeLine;decide,λp3 H7 s7 t7=>⟨by show 2<=sizeLine;decide,λp4 hp4=>?_⟩⟩;have s8:=aj (o:=.tup [V.non,V.ref p3]) hp4;refine q (.no i e (a^e%p)) 0 _ _ ⟨p,hp,o,nal,rfl,λj p' e' ji h1 h2=>?_⟩ True.intro True.intro (S4.trans (s5.trans (s6.trans (s7.trans s8)))) (dv.tup ag ⟨_,_,rfl,rfl,.one ⟨p3,_,rfl,t7.same s8,_,_,rfl,rfl,_,_,rfl,rfl,_,_,rfl,rfl,.one rfl⟩⟩);have jd:=Iv (show j<ds.length by lia);obtain⟨r,hr',_⟩:=hno j p' _ ji h1 jd;exact hr'.DG h2
  ·rcases ho with⟨h1,_⟩|⟨_,hrw⟩
   ·exact absurd h1 c1
   refine⟨s3.trans s4,_,_,rfl,λj p' d' ji h1 h2=>?_⟩;rcases (by lia:j<i∨j=i) with z | rfl
   ·exact hno j p' d' z h1 h2
   ·rw [hp] at h1;rw [hd1] at h2;cases h1;cases h2;exact hrw
 rintro σ' H3 ⟨s3,o2,o3,rfl,hno⟩;have S3:=S2.trans s3;obtain⟨rs,hR,rfl⟩:=CQ hD.len λi p d h1 h2=>hno i p d (by rw [ul];exact (IB.mp h1).1) h1 h2;have rl:=hR.len;have hP:=B5 hR;have ee:es=(rs.map xw).map eB:=by refine Nb (by simp [el,rl]) λj h1 h2=>?_;have hr:=Iv (show j<rs.length by simpa using h2);have:=hes j (mU rs[j]) _ (by rw [ID,hr];rfl) (Iv h1) _ rfl;rw [this];simp
 subst ee;have hys3:=aE.same s3 _ hys2;have e3:=s3 _ _ e2;have okp:∀ y∈rs.map xw,0<=y.2/\y.2<y.1/\y.1<=227:=λy hy=>by obtain⟨j,hj⟩:=KU.mp hy;have jl:=(IB.mp hj).1;have hp:=Iv (show j<ls.length by rw [<- hP.len];exact jl);obtain⟨e,x,rfl,xe,o,ep,_⟩:=hP.ok j _ y hp hj;have:=(hL.pm _ (IC hp)).2;exact⟨by show (0:Int)<=x;lia,by show (x:Int)<e;lia,by show (e:Int)<=227;lia⟩
 have pl5:(rs.map xw).length<=5:=by rw [hP.len];exact l5
 have q2:∀ o x v H',vN ls b a o->qy x o->(∀ n e r,o≠.no n e r)->av H3 H'->dv K H' (xy x o) v->Q v H':=λo x v H' h1 h2 h3 s hv=>q o x v H' h1 h2 (by cases o with | no n e r=>exact absurd rfl (h3 n e r) | ap=>exact⟨rs,hR,rfl⟩ | is=>exact⟨rs,hR,rfl⟩) (S3.trans s) hv;have at_:∀{j:Nat} {v:V},ys[j]?=Io v->∃ y pt,(rs.map xw)[j]?=Io y/\v=.ref pt/\bj K H3 pt [.int y.1,.int y.2]:=λ{j v} hv=>by obtain⟨d,h1,h2⟩:=hys3.get hv;rw [ID] at h1;obtain⟨y,hy,rfl⟩:=IE.mp h1;obtain⟨pt,rfl,tt⟩:=gk h2;exact⟨y,pt,hy,rfl,tt⟩
 have yl:ys.length=(rs.map xw).length:=by rw [hys3.length,Iu]
 generalize rs.map xw=pls at *;clear hes hno el hys hys2;k_data;refine cf (aJ.of e3) ⟨_,rfl,by lia,by lia,?_⟩;rw [IX];refine cT (n:=ys.length) (λi σ' H'=>G3 ra pa o2 o3 pls H3 i σ' H') ⟨rfl,none,none,rfl,λi' j' z=>by lia⟩ ?_ ?_
 ·rintro i σ' H4 hi ⟨rfl,o4,o5,rfl,no⟩;rw [Int.zero_add];k_data;refine cf (aJ.of e3) ⟨_,rfl,by lia,by lia,by lia,by lia,?_⟩;refine cT (n:=((ys.length:Int)-((i:Int)+1)).toNat) (λj σ' H'=>G4 ra pa o2 o3 pls i H4 j σ' H') ⟨rfl,o5,rfl,no,λj' z1 z2=>by lia⟩ ?_ ?_
  ·rintro j σ' H5 hj ⟨rfl,o5,rfl,no1,no2⟩;obtain⟨y,pt,hy,ey,ty⟩:=at_ (Iv (show i<ys.length by lia));obtain⟨z,pz,hz,ez,tz⟩:=at_ (Iv (show i+1+j<ys.length by lia));have zi:∀{Q:VK},Q (V.ref pt) H5->wY K (.ref pa) (.int (i:Int)) H5 Q:=λh=>fb (aJ.of e3) (by lia) (by rw [IX,Iv (show i<ys.length by lia),ey]) h;have zj:∀{Q:VK},Q (V.ref pz) H5->wY K (.ref pa) (.int ((i:Int)+1+j)) H5 Q:=λh=>fb (aJ.of e3) (by lia) (by rw [show ((i:Int)+1+j).toNat=i+1+j by lia,Iv (show i+1+j<ys.length by lia),ez]) h;have by1:=okp y (IC hy);have bz1:=okp z (IC hz);have G:=yh (a:=y.1.toNat) (b:=z.1.toNat) (by lia) (by lia);rw [JR (show 0<=y.1 by lia),JR (show 0<=z.1 by lia)] at G;have g0:=G.pos;have apI:¬((Mc y.1.toNat z.1.toNat:Nat):Int)∣y.2-z.2->Ap pls i (i+1+j):=λh=>⟨y,z,_,hy,hz,G,h⟩
   have apE:Ap pls i (i+1+j)->¬((Mc y.1.toNat z.1.toNat:Nat):Int)∣y.2-z.2:=fun⟨y',z',g',h1,h2,G',h⟩=>by rw [hy] at h1;rw [hz] at h2;cases h1;cases h2;rw [G.one G'];exact h
   k_data;refine zi (bM ty sF (zj (bM tz sF ⟨_,rfl,_,rfl,zi (bM ty kE (zj (bM tz kE ⟨y.1.toNat,z.1.toNat,by rw [JR (show 0<=y.1 by lia),JR (show 0<=z.1 by lia)],_,rfl,g0,aZ (λc=>?_) (λc=>?_)⟩)))⟩)))
   ·refine zi (zj ⟨by show 5<=sizeLine;decide,λp5 hp5=>⟨by show 2<=sizeLine;decide,λp6 hp6=>?_⟩⟩);have s5:=aj (o:=.tup [V.str "apart",V.int (i:Int),V.int ((i:Int)+1+j),V.ref pt,V.ref pz]) hp5;have e5:upd H5 p5 (.tup [V.str "apart",V.int (i:Int),V.int ((i:Int)+1+j),V.ref pt,V.ref pz]) p5=Io (.tup [V.str "apart",V.int (i:Int),V.int ((i:Int)+1+j),V.ref pt,V.ref pz]):=ag;generalize upd H5 p5 _=H6 at *;have s6:=aj (o:=.tup [V.non,V.ref p5]) hp6;have S6:=s5.trans s6;refine q2 (.ap i (i+1+j) y z) 0 _ _ ⟨pls,hP,by lia,apI λw=>c (JP w),λi' j' z1 z2=>?_,hy,hz⟩ True.intro (λn e r z=>by cases z) S6 (dv.tup ag ⟨_,_,rfl,rfl,.one (dv.tup (ds:=[.str "apart",.int i,.int ((i+1+j:Nat):Int),eB y,eB z]) (s6 _ _ e5) ⟨_,_,rfl,rfl,_,_,rfl,rfl,_,_,rfl,by show V.int _=V.int _;rw [MJ,MJ];rfl,_,_,rfl,⟨pt,_,rfl,ty.same S6,_,_,rfl,rfl,.one rfl⟩,.one ⟨pz,_,rfl,tz.same S6,_,_,rfl,rfl,.one rfl⟩⟩)⟩);rcases z2 with z2 | ⟨rfl,z2⟩
    ·exact no1 i' j' z2 z1
    ·exact no2 j' z1 z2
   ·refine⟨rfl,_,rfl,no1,λj' z1 z2=>?_⟩;rcases (by lia:j'<i+1+j∨j'=i+1+j) with w | rfl
    ·exact no2 j' z1 w
    ·exact λh=>apE h (I0 (Mf.mp c))
  ·rintro σ' H5 ⟨rfl,o5,rfl,no1,no2⟩;k_data;refine⟨rfl,_,_,rfl,λi' j' z1 z2 h=>?_⟩;rcases (by lia:i'<i∨i'=i) with w | rfl
   ·exact no1 i' j' w z2 h
   ·obtain⟨_,_,_,_,h2,_⟩:=id h;exact no2 j' z2 (by have:=(IB.mp h2).1;lia) h
 rintro σ' H4 ⟨rfl,o4,o5,rfl,no⟩;k_data;have nAp:∀ i j,i<j->¬Ap pls i j:=λi j ij h=>by obtain⟨_,_,_,h1,_⟩:=id h;exact no i j (by have:=(IB.mp h1).1;lia) ij h
 refine⟨pa,ys,pls,rfl,aJ.of e3,hys3,⟨λy hy=>by have:=okp y hy;lia,by lia,nAp⟩,λW x T W9=>⟨ys,.inl ⟨aJ.of e3,λl hl'=>⟨by show 2<=sizeLine;decide,λp5 hp5=>⟨by show 2<=sizeLine;decide,λp6 hp6=>?_⟩⟩⟩⟩⟩;have s4:=aj (o:=.tup ys) hl';have s5:=aj (o:=.tup [V.str "by",V.ref l]) hp5;have s6:=aj (o:=.tup [V.int x,V.ref p6]) hp6;have S6:=s4.trans (s5.trans (aj (o:=.tup [V.int x,V.ref p5]) hp6));exact q2 (.is pls) x _ _ ⟨hP,nAp⟩ ⟨W,T⟩ (λn e r z=>by cases z) S6 (dv.tup ag ⟨_,_,rfl,rfl,.one (dv.tup ((aj hp6) _ _ ag) ⟨_,_,rfl,rfl,.one (dv.tup ((aj hp6) _ _ (s5 _ _ ag)) (aE.same S6 _ hys3))⟩)⟩)
end
end K
namespace L2
open PySem PySem.Spec PyProof.Rows
theorem yE {K:Iq} {k1 k2:Sd} {a b:Iy} {xs ys:List V} {g:TG} {tb:TS} {D:Ends} {σ:St} {H:Hp} (Pv:Nat->St->Hp->Prop) (h0:Pv 0 σ H) (hxy:xs.length=ys.length) (hl:∀ i σ H,i<=xs.length->Pv i σ H->m7 k1 K H a xs/\m7 k2 K H b ys)
  (hs:∀ i x y σ H p,xs[i]?=Io x->ys[i]?=Io y->Pv i σ H->H p=none->g (.ref p) σ (upd H p (.tup [x,y])) λσ2 H2=>tb { D with nx:=Pv (i+1),ct:=Pv (i+1),bk:=D.nx } σ2 H2) (hd:∀ σ H,Pv xs.length σ H->D.nx σ H):Loop (E9 k1 k2 K a b) g tb D σ H:=by
 refine⟨λi m σ H=>m=xs.length-i/\i<=xs.length/\Pv i σ H,⟨xs.length,by simp,J4 _,h0⟩,?_⟩;rintro i m σ H ⟨rfl,hi,p⟩;obtain⟨q,q'⟩:=hl i σ H hi p;by_cases hlt:i<xs.length
 ·have hx:xs[i]?=Io xs[i]:=Iv hlt;have hy:=Iv (show i<ys.length by lia);refine .inr ⟨⟨xs,ys,_,_,q,q',hx,hy⟩,Pv (i+1),λσ' H' p'=>⟨xs.length-(i+1),by lia,rfl,hlt,p'⟩,λx H' y=>?_⟩;obtain⟨pt,u,v,f,e1,e2,e3,e4⟩:=y;subst e1 e4;exact hs i u v σ H pt (e2 xs q) (e3 ys q') p f
 ·have e:i=xs.length:=by lia
  subst e;exact .inl ⟨⟨xs,q,IF _⟩,hd σ H p⟩
end L2
namespace K
open PySem PySem.Spec PyProof.Rows L2
section
variable {P:IM} {w:Jo} {K:Iq} {mg:Jb->Option Ir} {base:JD} {C:Iy}
structure sJ (tl:Iy) (H H':Hp):Prop where
 l:∀ a xs,a≠tl->H a=Io (.lst xs)->H' a=Io (.lst xs)
 t:xp H H'
theorem sJ.same {tl:Iy} {H H':Hp} (s:av H H'):sJ tl H H':=⟨λ_ _ _ e=>s _ _ e,xp.same s⟩
theorem sJ.off {tl p0 cl:Iy} {n:Nat} {H H':Hp} (t:gg p0 cl n H) (of:jF p0 H H'):sJ tl H H':=⟨λa xs _ h=>of _ _ (t.tp.ne h (by intro _ z;cases z)) h,xp.off t of⟩
theorem sJ.trans {tl:Iy} {H H1 H2:Hp} (h:sJ tl H H1) (g:sJ tl H1 H2):sJ tl H H2:=⟨λa xs n e=>g.l a xs n (h.l a xs n e),λa xs e=>g.t a xs (h.t a xs e)⟩
structure Al (K:Iq) (C p0 cl pl pa sd tl:Iy) (ls:List Int) (us:List V) (ds:List IL) (kk ks:KH) (n:Nat) (H:Hp):Prop where
 tp:gg p0 cl n H
 hp:H pl=Io (.lst (ls.map V.int))
 ha:H pa=Io (.lst us)
 hd:aE K H ds us
 kp:bC C kk H
 le:mZ kk
 st:oK K sd tl ks H
 n1:cl≠tl
 n2:pl≠tl
 n3:pa≠tl
 nl:dP ds=true
section
variable {p0 cl pl pa sd tl:Iy} {ls:List Int} {us:List V} {ds:List IL} {kk ks kk' ks':KH} {n m:Nat} {H H':Hp}
theorem Al.mk' (h:Al K C p0 cl pl pa sd tl ls us ds kk ks n H) (pB:sJ tl H H') (t:gg p0 cl m H') (kp:bC C kk' H') (le:mZ kk') (st:oK K sd tl ks' H'):Al K C p0 cl pl pa sd tl ls us ds kk' ks' m H':=⟨t,pB.l _ _ h.n2 h.hp,pB.l _ _ h.n3 h.ha,aE.aN pB.t _ h.nl h.hd,kp,le,st,h.n1,h.n2,h.n3,h.nl⟩
theorem Al.same (h:Al K C p0 cl pl pa sd tl ls us ds kk ks n H) (s:av H H'):Al K C p0 cl pl pa sd tl ls us ds kk ks n H':=h.mk' (.same s) (h.tp.same s) (h.kp.same s) h.le ⟨h.st.st.same s,h.st.nd,h.st.le,h.st.m0,h.st.m1⟩
theorem Al.off (h:Al K C p0 cl pl pa sd tl ls us ds kk ks n H) (of:jF p0 H H') (t:gg p0 cl m H'):Al K C p0 cl pl pa sd tl ls us ds kk ks m H':=h.mk' (.off h.tp of) t (Bm h.kp h.tp of) h.le ⟨h.st.st.off h.tp of,h.st.nd,h.st.le,h.st.m0,h.st.m1⟩
theorem Al.D8 (h:Al K C p0 cl pl pa sd tl ls us ds kk ks n H) (bt:bV kk.a kk.d H H'):sJ tl H H':=⟨λa xs _ e=>h.kp.keep bt e,h.kp.aN bt⟩
theorem Al.AF (h:Al K C p0 cl pl pa sd tl ls us ds kk ks n H) (bt:bV kk.a kk.d H H') (kp:bC C kk' H') (le:mZ kk'):Al K C p0 cl pl pa sd tl ls us ds kk' ks n H':=h.mk' (h.D8 bt) (h.tp.kept h.kp bt) kp le ⟨h.st.st.but h.kp bt,h.st.nd,h.st.le,h.st.m0,h.st.m1⟩
theorem Al.FT (h:Al K C p0 cl pl pa sd tl ls us ds kk ks n H) (bt:bV sd tl H H'):sJ tl H H':=⟨λa xs na e=>bt _ _ (bI e h.st.st.1 (by intro z;cases z)) na e,h.st.st.aN bt⟩
theorem Al.FK (h:Al K C p0 cl pl pa sd tl ls us ds kk ks n H) (bt:bV sd tl H H') (st:oK K sd tl ks' H'):Al K C p0 cl pl pa sd tl ls us ds kk ks' n H':=h.mk' (h.FT bt) (h.tp.st h.st.st h.n1 bt) (FU h.kp h.st.st bt) h.le st
theorem Al.more (h:Al K C p0 cl pl pa sd tl ls us ds kk ks n H) (z:n<=m):Al K C p0 cl pl pa sd tl ls us ds kk ks m H:=⟨h.tp.more z,h.hp,h.ha,h.hd,h.kp,h.le,h.st,h.n1,h.n2,h.n3,h.nl⟩
end
theorem EO {y:Int × Int}:sT 3 (eB y):=by simp [eB,sT,mL]
theorem C8 {o:WO} {x:Int} (h:∀ pls,o=.is pls->pls.length<=12):sT 6 (xy x o):=by
 cases o with
 | no n e r=>simp [xy,sT,mL]
 | ap i j y z=>simp [xy,Hd,sT,mL,eB]
 | is pls =>
  have hl:=h pls rfl;have hr:mL 3 (pls.map eB):=jo λd hd=>by obtain⟨y,_,rfl⟩:=IV.mp hd;exact EO
  simp only [xy,He,sT,mL,JU,LI,Iu,and_true,true_and];exact⟨by decide,by decide,by lia,hr⟩
theorem tQ {o:WO} {x:Int}:kX (xy x o)=true:=by
 cases o with
 | no n e r=>rfl
 | ap i j y z=>rfl
 | is pls =>show (true && ((true && (dP (pls.map eB) && true)) && true))=true;rw [gZ];rfl
theorem GF {o:WO} {x x':Int} (h:qy x o) (h':qy x' o):xy x o=xy x' o:=by
 cases o with
 | no n e r=>rfl
 | ap i j y z=>rfl
 | is pls =>obtain⟨W,T⟩:=h;obtain⟨W',T'⟩:=h';rw [(T.one T').2]
theorem uD.nN {ps:List Int} {b a:Int} {o:WO} {H H':Hp} (h:uD C none ps b a o H H'):av H H':=by
 cases o with
 | no n e r=>exact h
 | ap i j y z=>exact h.choose_spec.2
 | is pls=>exact h.choose_spec.2
theorem Bu {p b a:Int} {d:IL} (h:vM p b a d):kX d=true:=by
 rcases h with⟨e,_,_,_,rfl⟩|⟨r,_,rfl⟩
 ·rfl
 ·exact rm
theorem rJ {ls:List Int} {ds:List IL} (h:qw ls ds):dP ds=true:=gA λd hd=>by obtain⟨i,hi⟩:=KU.mp hd;have il:=(IB.mp hi).1;exact u5 (h.pap i _ d (Iv (show i<ls.length by rw [<- h.len];exact il)) hi)
theorem DU {p b a:Int} {e x:Nat} (o:Num.Ord p b e) (al:Num.Al p a (b^x)):Num.Al p (a^e) 1:=by have h1:=al.pow e;rw [Num.bR,Ju] at h1;exact h1.trans (Num.aT o.one)
def DD (ls:List Int) (b a:Int) (k:KH) (o:WO) (kk:KH):Prop:=match o with
 | .no _ _ _=>kk=k
 | _=>∃ rs,d5 ls b a rs/\kk=bF b k rs
section
variable {p0 cl pl pa sd tl:Iy} {ls:List Int} {us:List V} {ds:List IL} {k kk ks:KH} {n:Nat} {H H':Hp}
theorem Al.GG {b a:Int} {o:WO} (h:Al K C p0 cl pl pa sd tl ls us ds k k n H) (post:uD C (Io k) ls b a o H H'):∃ kk,kk.a=k.a/\Al K C p0 cl pl pa sd tl ls us ds kk k n H'/\sJ tl H H'/\DD ls b a k o kk:=by
 have go:(∃ rs,d5 ls b a rs/\br C (Io k) (λk=>bF b k rs) H H')->∃ kk,kk.a=k.a/\Al K C p0 cl pl pa sd tl ls us ds kk k n H'/\sJ tl H H'/\∃ rs,d5 ls b a rs/\kk=bF b k rs:=fun⟨rs,hR,bt,kp,le⟩=>⟨_,(jY rs k).1,h.AF bt kp le,h.D8 bt,rs,hR,rfl⟩
 cases o with
 | no n e r=>exact⟨k,rfl,h.same post,.same post,rfl⟩
 | ap i j y z=>exact go post
 | is pls=>exact go post
theorem Al.CS {p b a:Int} {r:Rw} {w:V} {Q:VK} (A:Al K C p0 cl pl pa sd tl ls us ds kk ks n H) (hr:jK p b a r) (pm:Num.Pm p) (p9:p<=227) (b0:1<=b) (b1:b<=10^6) (hw:dv K H (mU r) w) (q:∀ H',Al K C p0 cl pl pa sd tl ls us ds kk (dF ks r.1 b r.2.1 r.2.2.1 r.2.2.2) n H'->sJ tl H H'->Q .non H'):ur K [.ref sd,.int p,.int b,w] H Q E0:=by
 have p2:=pm.two;have lt:=hr.lt;have hps:=hr.pt;have e0:=hr.o.pos;have xr:=gB hps (by lia);refine⟨sd,tl,ks,p,b,w,rfl,A.st,by lia,by lia,by lia,by lia,.inr ⟨r.2.2.1,r.2.1,r.2.2.2,hw,λy hy=>⟨(hps.ok y hy).1.two,?_,(hps.ok y hy).2⟩,by lia,by lia,λH' bt S=>?_⟩⟩
 ·have:=kY hps (by lia) hy;lia
 ·have S':oK K sd tl (dF ks r.1 b r.2.1 r.2.2.1 r.2.2.2) H':=by rw [hr.pe];exact S
  exact q H' (A.FK bt S') (A.FT bt)
structure AK (K:Iq) (tl ra:Iy) (ws:List V) (es:List IL) (H:Hp):Prop where
 ne:ra≠tl
 h:H ra=Io (.lst ws)
 d:aE K H es ws
 nl:dP es=true
theorem AK.pB {ra:Iy} {ws:List V} {es:List IL} (h:AK K tl ra ws es H) (k:sJ tl H H'):AK K tl ra ws es H':=⟨h.ne,k.l _ _ h.ne h.h,aE.aN k.t _ h.nl h.d,h.nl⟩
end
theorem x6 {ls:List Int} {b a:Int} {ds:List IL} (h:Dt ls b a ds):dP ds=true:=gA λd hd=>by obtain⟨i,hi⟩:=KU.mp hd;have il:=(IB.mp hi).1;exact Bu (h.ok i _ d (Iv (show i<ls.length by rw [<- h.len];exact il)) hi)
theorem lE {t:TS} {D:Ends} {σ:L2.St} {H:Hp} (Pr:Hp->Prop) (h:t { D with nx:=λσ' H'=>σ'=σ/\Pr H' } σ H) (g:∀ H',Pr H'->D.nx σ H'):Gm t D σ H:=⟨_,h,λσ' H' ⟨e,p⟩=>e▸g H' p⟩
def HA:WO->String
 | .no _ _ _ => "none"
 | .ap _ _ _ _ => "apart"
 | .is _ => "by"
theorem Cu {H:Hp} {o:WO} {x:Int} {v:V} (h:dv K H (xy x o) v):∃ pv y ps zs,v=.ref pv/\bj K H pv [y,.ref ps]/\bj K H ps (.str (J6 (HA o))::zs):=by
 cases o with
 | no n e r =>obtain⟨pv,y,s,rfl,t,_,f⟩:=tf h;obtain⟨ps,us,rfl,t',u,zs,rfl,rfl,_⟩:=f;exact⟨pv,y,ps,_,rfl,t,t'⟩
 | ap i j y z =>obtain⟨pv,y,s,rfl,t,_,f⟩:=tf h;obtain⟨ps,us,rfl,t',u,zs,rfl,rfl,_⟩:=f;exact⟨pv,y,ps,_,rfl,t,t'⟩
 | is pls =>obtain⟨pv,y,s,rfl,t,_,f⟩:=tf h;obtain⟨ps,us,rfl,t',u,zs,rfl,rfl,_⟩:=f;exact⟨pv,y,ps,_,rfl,t,t'⟩
theorem Cv {o:WO} (h:V.str (J6 (HA o))=V.str (J6 "none")):∃ n e r,o=.no n e r:=by
 cases o with
 | no n e r=>exact⟨n,e,r,rfl⟩
 | ap=>exact absurd h (by show ¬V.str (J6 "apart")=V.str (J6 "none");decide)
 | is=>exact absurd h (by show ¬V.str (J6 "by")=V.str (J6 "none");decide)
theorem Ce {ls:List Int} {b a:Int} {k kk:KH} {o:WO} {ds:List IL} (h:DD ls b a k o kk) (hP:uA ls b a ds o) (no:V.str (J6 (HA o))≠V.str (J6 "none")):∃ rs,d5 ls b a rs/\ds=rs.map mU/\kk=bF b k rs:=by
 have go:(∃ rs,d5 ls b a rs/\kk=bF b k rs)->(∃ rs,d5 ls b a rs/\ds=rs.map mU)->∃ rs,d5 ls b a rs/\ds=rs.map mU/\kk=bF b k rs:=fun⟨rs,h1,h2⟩ ⟨rs',g1,g2⟩=>⟨rs,h1,by rw [h1.one g1];exact g2,h2⟩
 cases o with
 | no n e r=>exact absurd rfl no
 | ap=>exact go h hP
 | is=>exact go h hP
theorem zu {ps:List Int} {ds:List IL} (h:qw ps ds) (hp:∀ p∈ps,p<=227):KS ds=true/\Ll ds<=40:=by
 have go:∀ d∈ds,d.canLay0=true/\d.depth<=40:=λd hd=>by
  obtain⟨i,hi,e⟩:=K5.mp hd;have hl:=h.len;have hi':i<ps.length:=by lia
  obtain⟨h1,k,h2,h3⟩:=(h.pap i _ d (Iv hi') (by rw [<- e];exact Iv hi)).deep;have:=hp _ (LR hi');have:k<10:=by
   rcases (by lia:k<10∨10<=k) with z | z
   ·exact z
   ·have h4:(2:Int)^10<=2^k:=by
     have:=M4 (show 0<2 by decide) z;have h5:((2^k:Nat):Int)=2^k:=by rw [Np];rfl
     lia
    lia
  exact⟨h1,by lia⟩
 exact⟨Num.jL λd hd=>(go d hd).1,Num.gj λd hd=>(go d hd).2⟩
def CB (K:Iq) (ls:List Int) (H:Hp) (i:Nat) (ys:List V) (H':Hp):Prop:=av H H'/\∃ ds:List IL,aE K H' ds ys/\ds.length=i/\∀(j:Nat) p d,ls[j]?=Io p->ds[j]?=Io d->Num.gT p d
def Fq (K:Iq) (ls:List Int) (b a:Int) (H:Hp) (i:Nat) (ys:List V) (H':Hp):Prop:=av H H'/\∃ ds:List IL,aE K H' ds ys/\ds.length=i/\∀(j:Nat) p d,ls[j]?=Io p->ds[j]?=Io d->vM p b a d
def xE (K:Iq) (C sc p0 cl pl pa sd tl ka:Iy) (m:Int) (ls:List Int) (us:List V) (ds:List IL) (i:Nat) (σ':L2.St) (H':Hp):Prop:=∃(k:KH) (o7 o8 o9 o10 o11 o12 o13 o14:Option V),σ'=[Io (.ref sc),Io (.ref p0),Io (.ref pl),Io (.ref pa),Io (.int m),Io (.ref ka),Io (.ref sd),o7,o8,o9,o10,o11,o12,o13,o14]/\k.a=ka/\Al K C p0 cl pl pa sd tl ls us ds k k (10+30*i) H'
theorem xE.el {sc p0 cl pl pa sd tl ka:Iy} {m:Int} {ls:List Int} {us:List V} {ds:List IL} {i:Nat} {σ':L2.St} {H':Hp} {G:L2.St->Prop} (h:xE K C sc p0 cl pl pa sd tl ka m ls us ds i σ' H') (g:∀(k:KH) (o7 o8 o9 o10 o11 o12 o13 o14:Option V),k.a=ka->Al K C p0 cl pl pa sd tl ls us ds k k (10+30*i) H'->G [Io (.ref sc),Io (.ref p0),Io (.ref pl),Io (.ref pa),Io (.int m),Io (.ref ka),Io (.ref sd),o7,o8,o9,o10,o11,o12,o13,o14]):G σ':=by obtain⟨k,o7,o8,o9,o10,o11,o12,o13,o14,rfl,e,A⟩:=h;exact g k o7 o8 o9 o10 o11 o12 o13 o14 e A
theorem pZ {R:Int->IL->Prop} {ls:List Int} {ds:List IL} {p:Int} {d:IL} (h:∀(j:Nat) p d,ls[j]?=Io p->ds[j]?=Io d->R p d) (hp:ls[ds.length]?=Io p) (hr:R p d):∀(j:Nat) p' d',ls[j]?=Io p'->(ds++[d])[j]?=Io d'->R p' d':=λj p' d' e1 e2=>by
 rcases (by
  have:=(IB.mp e2).1;rw [Js,Ks] at this;lia:j<ds.length∨j=ds.length) with c | rfl
 ·rw [KC c] at e2;exact h j _ _ e1 e2
 ·rw [MR] at e2;rw [hp] at e1;cases e1;cases e2;exact hr
theorem zX:aw ["_law_script","_law_tape_here","_law_primes_here","_law_papers","_law_most","_law_kept","_law_state","_law_turn","_law_b","_law_a","_law_rows","_law_due","_law_p","_law_row","_law_n"] ["_law_script"] (ak (top 71)):=dD
theorem Em {CN CF:Iy} {fl:Iy} {fdl:KW} (F:xB K "law" "law" (top 71) fl fdl) (o_Kept:DA K mg "Kept" C) (c_Kept___init__:bw P w K mg base aQ 1 C "__init__" ["self","most"] (k8 C)) (c__law_tape:Callee P w K mg base aQ 1 "_law_tape" ["_law_script"] (vB K)) (c__law_draw:Callee P w K mg base aQ 1 "_law_draw" ["_law_tape_here","_law_many"] kZ) (c__law_primes:Callee P w K mg base aQ 3 "_law_primes" ["_law_tape_here"] sk) (c_prime_paper:Callee P w K mg base (cZ P w) 67 "prime_paper" ["n"] (sh K)) (c__law_two:Callee P w K mg base aQ 3 "_law_two" ["_law_tape_here","_law_primes_here"] (Df K)) (c__law_due_power:Callee P w K mg base aQ 2 "_law_due_power" ["_law_p","_law_b","_law_a"] (Dd K)) (c__law_due_of:Callee P w K mg base aQ 3 "_law_due_of" ["_law_rows"] (vp K)) (c__law_same:Callee P w K mg base aQ 7 "_law_same" ["_law_found","_law_due"] (fR K 6)) (c_which_of:Callee P w K mg base (cZ P w) 15 "which_of" ["papers","b","a","kept"] (j4 K C CN)) (c_which_ofD:fH P w K mg base (cZ P w) 15 "which_of" ["papers","b","a","kept"] [.none] (j4 K C CN)) (c_which:Callee P w K mg base (cZ P w) 15 "which" ["paper","b","a","kept"] (k9 K C CN CF)) (c__law_goes:Callee P w K mg base aQ 2 "_law_goes" ["_law_state","_law_p","_law_b","_law_due"] (ur K)) (c__law_tells:Callee P w K mg base aQ 8 "_law_tells" ["_law_kept","_law_state"] (vC K C)) (B':mg "range"=none) (f':mg "len"=none) (K':mg "zip"=none):cY P w K mg base aQ 68 fl fdl ["_law_script"] (De K):=by
 refine Bh F zX (λvs H Q E h=>by obtain⟨a,b,rfl,_⟩:=h;rfl) (λcdv A outer s H vs Q E hr h=>?_);obtain⟨sc,ns,rfl,hS,h63,q⟩:=h;have nd:=zX.nd;refine⟨_,(ae (bB (i:=1) nd (bN c__law_tape hr aB (aa (pv 0) af))) (ae (bB (i:=2) nd (bN c__law_primes hr aB (aa (pv 1) af))) (ae (eU (i0:=3) nd rfl (Jf rfl) rfl (lD (N':=["_law_p"]) (js:=[none]) rfl rfl) (bp (pv 2)) (λ_ _ _ _=>(aq (i:=0) (show JJ [("_law_p":Jb)] from by decide +kernel) rfl (Jf rfl) (.inr rfl))) (λ_ _ _ _=>aR) (λ_ _ _ _=>(bN c_prime_paper hr aI (aa (pv 0) af))) (by rfl) (by first | exact .inl rfl | exact .inr rfl)) (ae (bB (i:=4) nd (ar bc ah (bN c__law_draw hr aB (aa (pv 1) (aa ah af))))) (ae (bB (i:=5) nd (rN o_Kept c_Kept___init__ (hr.mono (by decide)) rfl aB (aa (pv 4) af))) (ae (bB (i:=6) nd (u9 (fA aM (pv 4) (fA aM ah (fA aM (fM af) vd))) rfl rfl (by intro z;cases z) (by decide))) (ae (b7 IQ rfl (dZ rfl B' (aa ah af)) (aq (i:=7) nd rfl (Jf rfl) (.inr rfl)) (ae (eC (bN c__law_two hr aB (aa (pv 1) (aa (pv 2) af))) (bZ (n:=2) rfl (au (aq (i:=8) nd rfl (N6 rfl) (.inl rfl)) (au (aq (i:=9) nd rfl (N6 rfl) (.inl rfl)) aO)))) (ae (eU (i0:=10) nd rfl (Jf rfl) rfl (lD (N':=["_law_p","_law_b","_law_a"]) (js:=[none,Io 8,Io 9]) rfl rfl) (bp (pv 2)) (λ_ _ _ _=>(aq (i:=0) (show JJ [("_law_p":Jb),("_law_b":Jb),("_law_a":Jb)] from by decide +kernel) rfl (Jf rfl) (.inr rfl))) (λ_ _ _ _=>aR) (λ_ _ _ _=>(bN c__law_due_power hr aB (aa (pv 0) (aa (pv 1) (aa (pv 2) af))))) (by rfl) (by first | exact .inl rfl | exact .inr rfl)) (ae (bB (i:=11) nd (bN c__law_due_of hr aB (aa (pv 10) af))) (ae (cw (aS (PW.pt (zQ (iN (b8 (bN c__law_same hr aB (aa (bN c_which_of hr aI (aa (pv 3) (aa (pv 8) (aa (pv 9) (aa (pv 5) af))))) (aa (pv 11) af))) (λ_=>rfl))) (um (iN (b8 (bN c__law_same hr aB (aa (zA c_which_ofD (.cons (show RelV V.non _ from rfl) .nil) (hr.mono (by decide)) rfl aI (aa (pv 3) (aa (pv 8) (aa (pv 9) af)))) (aa (pv 11) af))) (λ_=>rfl)))))) (ai (az nR)) aD)) (ae (cw (aS (ay fY (aG a9 (aG a9 (pv 11) ah (λ_ _=>rfl)) ah (λ_ _=>rfl)) aM (aA _)) (ai (b7 IQ rfl (uf .l .l rfl K' (aa (pv 2) (aa (pv 10) af))) (bZ (n:=2) rfl (au (aq (i:=12) nd rfl (Jf rfl) (.inr rfl)) (au (aq (i:=13) nd rfl (Jf rfl) (.inr rfl)) aO))) (ai (bU (bN c__law_goes hr aB (aa (pv 6) (aa (pv 12) (aa (pv 8) (aa (pv 13) af))))))))) aD)) (ae (cw (aS (iN (b8 (bN c__law_tells hr aB (aa (pv 5) (aa (pv 6) af))) (λ_=>rfl))) (ai (az nR)) aD)) (ae (bB (i:=14) nd (bN c__law_draw hr aB (aa (pv 1) (aa (ar aK ah (aC aX rfl f' JG (aa (pv 2) af))) af)))) (ae (cw (aS (ay fX (pv 14) (aC aX rfl f' JG (aa (pv 2) af)) (aA _)) (ae (cw (aS (iN (b8 (bN c__law_same hr aB (aa (bN c_which hr aI (aa (aG bz (pv 3) (pv 14) (λ_ _=>rfl)) (aa (pv 8) (aa (pv 9) (aa (pv 5) af))))) (aa (aG bz (pv 10) (pv 14) (λ_ _=>rfl)) af))) (λ_=>rfl))) (ai (az nR)) aD)) (ai (bU (bN c__law_goes hr aB (aa (pv 6) (aa (aG bz (pv 2) (pv 14) (λ_ _=>rfl)) (aa (pv 8) (aa (aG bz (pv 10) (pv 14) (λ_ _=>rfl)) af)))))))) aD)) (ai (aS (iN (b8 (bN c__law_tells hr aB (aa (pv 5) (aa (pv 6) af))) (λ_=>rfl))) (ai (az nR)) aD))))))))))) (ai (az (dH (Et hr.units) (pv 3) (fz rfl (lD (N':=["_law_p"]) (js:=[none]) rfl rfl) (bp (pv 2)) (λ_ _ _ _=>(aq (i:=0) (show JJ [("_law_p":Jb)] from by decide +kernel) rfl (Jf rfl) (.inr rfl))) (λ_ _ _ _=>aR) (λ_ _ _ _=>(bN c_prime_paper hr aI (aa (pv 0) af)))) (aA _))))))))))),?_⟩;show bH _ _ _ [Io (.ref sc),none,none,none,none,none,none,none,none,none,none,none,none,none,none] H;k_data;refine⟨sc,ns,rfl,hS,h63,λp0 cl H1 s1 f1 fc1 tp1=>⟨p0,cl,0,rfl,tp1,by decide,λpl ls H2 hpm hso l1 l5 O2 tp2 fpl epl=>⟨pl,rfl,⟨_,aJ.of epl⟩,?_⟩⟩⟩;have hL:Lp ls:=⟨hpm,hso,l1,l5⟩
 refine aY (xs:=ls.map V.int) (λi ys H'=>CB K ls H2 i ys H') ⟨av.refl _,[],rfl,rfl,λj p d _ z=>by simp at z⟩ (by rw [Iu];exact IJ l5 (by decide)) (λi ys H' _ h=>by obtain⟨s,ds,h1,h2,_⟩:=h;exact⟨aJ.of (s _ _ epl),by rw [h1.length,h2];exact IF _⟩) ?_ ?_
 ·rintro i x ys H3 hx ⟨s3,ds,hds,dl,hP⟩;rw [ID] at hx;obtain⟨p,hp,rfl⟩:=IE.mp hx;obtain⟨pm,p9⟩:=hpm p (IC hp);simp only [cH,Jz,MB,QZ];k_data;exact⟨True.intro,p,rfl,pm,by lia,λd v H4 pap s4 hv=>⟨s3.trans s4,ds++[d],aE.append (aE.same s4 _ hds) (.one hv),by simp [dl],pZ (R:=Num.gT) hP (by rw [dl];exact hp) pap⟩⟩
 rintro us H3 pa ⟨s3,ds,hds,dl,hP⟩ hpa;rw [Iu] at dl;have P62:qw ls ds:=⟨dl,hP⟩
 have s4:=aj (o:=.lst us) hpa;have epa:upd H3 pa (.lst us) pa=Io (.lst us):=ag;have hds4:=aE.same s4 _ hds;generalize upd H3 pa _=H4 at *;have S4:=s3.trans s4;have tp4:=tp2.same S4;have epl4:=S4 _ _ epl;have npl:pl≠p0:=λz=>by obtain⟨i,j,ns,hp,_⟩:=tp4;rw [z,hp] at epl4;cases epl4
 have npa:pa≠p0:=λz=>by obtain⟨i,j,ns,hp,_⟩:=tp4;rw [z,hp] at epa;cases epa
 refine⟨p0,cl,6,_,rfl,tp4,by decide,by decide,by decide,λr H5 r0 r1 o5 tp5=>⟨r,rfl,?_⟩⟩;have epl5:=o5.lZ _ _ npl epl4;have epa5:=o5.lZ _ _ npa epa;have hds5:=aE.aN (xp.off tp4 o5.lZ) _ (rJ P62) hds4;intro ka dx hka hdx nx;refine wt hka hdx nx (by lia) (by lia) λkd H6 s6 fkd kp6=>⟨rfl,λsd hsd=>⟨by decide,λtl htl=>⟨?_,[(Kf "most",.int (1+r)),(Kf "steps",.int 0),(Kf "tables",.ref tl)],rfl,by show 3<=15;decide,?_⟩⟩⟩
 ·rw [ao (aP ag htl),ag]
 have nts:tl≠sd:=λz=>by rw [z,ag] at htl;cases htl
 have s7:av H6 (upd (upd (upd H6 sd (.dK [])) tl (.lst [])) sd (mM (1+r) 0 tl)):=((aj hsd).trans (aj htl)).upd hsd;have e7:(upd (upd (upd H6 sd (.dK [])) tl (.lst [])) sd (mM (1+r) 0 tl)) tl=Io (.lst []):=by rw [ao nts,ag]
 have e7':(upd (upd (upd H6 sd (.dK [])) tl (.lst [])) sd (mM (1+r) 0 tl)) sd=Io (mM (1+r) 0 tl):=ag;have ft:H6 tl=none:=(aj hsd).free htl;show Loop _ _ _ _ _ (upd (upd (upd H6 sd (.dK [])) tl (.lst [])) sd (mM (1+r) 0 tl));generalize upd (upd (upd H6 sd (.dK [])) tl (.lst [])) sd (mM (1+r) 0 tl)=H7 at *;have tp6:=tp5.same s6;have S7:=s6.trans s7;have A7:Al K C p0 cl pl pa sd tl ls us ds ⟨ka,dx,kd,1+r,0,[]⟩ ⟨ka,dx,kd,1+r,0,[]⟩ (10+30*0) H7:=⟨(tp6.same s7).more (by decide),S7 _ _ epl5,S7 _ _ epa5,aE.same S7 _ hds5,kp6.same s7,by show (0:Int)<=1+r;lia,⟨⟨e7',[],e7,rfl⟩,OV,by show (0:Int)<=1+r;lia,by show 0<=1+r;lia,by show 1+r<=10^6;lia⟩,by obtain⟨_,_,_,_,z,_⟩:=tp6;exact aP z ft,aP (s6 _ _ epl5) ft,aP (s6 _ _ epa5) ft,rJ P62⟩
 refine cT (n:=5) (λi σ' H'=>xE K C sc p0 cl pl pa sd tl ka (1+r) ls us ds i σ' H') ⟨_,_,_,_,_,_,_,_,_,rfl,rfl,A7⟩ ?_ ?_
 ·intro i σ' H8 hi iv;apply iv.el;intro k o7 o8 o9 o10 o11 o12 o13 o14 ek A8;subst ek;k_data;refine⟨p0,cl,pl,_,ls,rfl,A8.tp,by lia,A8.hp,hL,λb a t H9 b0 b1 a0 a1 nd9 O9 tp9 et9=>⟨t,_,rfl,et9,rfl,?_⟩⟩;have A9:=A8.off O9 tp9;k_data;refine⟨⟨_,aJ.of A9.hp⟩,aY (xs:=ls.map V.int) (λi' ys H'=>Fq K ls b a H9 i' ys H') ⟨av.refl _,[],rfl,rfl,λj p d _ z=>by simp at z⟩ (by rw [Iu];exact IJ l5 (by decide)) (λi ys H' _ h=>by obtain⟨s,es,h1,h2,_⟩:=h;exact⟨aJ.of (s _ _ A9.hp),by rw [h1.length,h2];exact IF _⟩) ?_ ?_⟩
  ·rintro i' x ys H10 hx ⟨s10,es,hes,el,hD⟩;rw [ID] at hx;obtain⟨p,hp,rfl⟩:=IE.mp hx;obtain⟨pm,p9⟩:=hpm p (IC hp);obtain⟨na,nb⟩:=nd9 p (IC hp);have p2:=pm.two;obtain⟨e,o,le⟩:=Num.l6 (N:=(p-1).toNat) (by lia) (Num.tH pm nb);have ep:(e:Int)<p:=by lia
   show cn 0 _ [none,Io (.int b),Io (.int a)] _ _;k_data;refine⟨⟨rfl,rfl,True.intro⟩,p,b,a,e,rfl,pm,by lia,by lia,by lia,by lia,by lia,o,ep,λu H11 no s11 hu=>⟨s10.trans s11,es++[ip e (a^e%p)],aE.append (aE.same s11 _ hes) (.one hu),by simp [el],pZ (R:=λp d=>vM p b a d) hD (by rw [el];exact hp) (.inl ⟨e,o,ep,λal=>?_,rfl⟩)⟩,λx ps u H11 xe al hps s11 hu=>⟨s10.trans s11,es++[mU (p,e,x,ps)],aE.append (aE.same s11 _ hes) (.one hu),by simp [el],pZ (R:=λp d=>vM p b a d) hD (by rw [el];exact hp) (.inr ⟨(p,e,x,ps),⟨rfl,o,ep,xe,al,hps⟩,rfl⟩)⟩⟩;obtain⟨x,xe,hx⟩:=Num.mj pm o al;exact no x xe hx
  rintro ws H10 ra ⟨s10,es,hes,el,hD⟩ hra;rw [Iu] at el;have D10:Dt ls b a es:=⟨el,hD⟩
  have s11:=aj (o:=.lst ws) hra;have era:upd H10 ra (.lst ws) ra=Io (.lst ws):=ag;have hes11:=aE.same s11 _ hes;generalize upd H10 ra _=H11 at *;have A11:=A9.same (s10.trans s11);k_data;refine⟨ra,ws,es,ls,b,a,rfl,era,hes11,D10,hL,λo x v H12 hW hT hP s12 hv=>?_⟩;have A12:=A11.same s12;have R12:AK K tl ra ws es H12:=⟨JC (aP (A9.same s10).st.st.2.choose_spec.1 hra),s12 _ _ era,aE.same s12 _ hes11,x6 D10⟩
  have nd62:∀ p∈ls,¬p∣a/\¬p∣b:=nd9;have l12:∀ pls,o=.is pls->pls.length<=12:=λpls z=>by subst z;rw [hW.1.len];lia
  refine lE (λH'=>∃ kk,kk.a=k.a/\Al K C p0 cl pl pa sd tl ls us ds kk k (10+30*i+20) H'/\AK K tl ra ws es H'/\dv K H' (xy x o) v/\DD ls b a k o kk) ?_ λH13 h13=>?_
  ·k_data;refine⟨pa,us,ls,ds,b,a,_,Io k,rfl,A12.ha,A12.hd,P62,by lia,λp hp=>by have:=(hpm p hp).2;lia,by lia,by lia,by lia,by lia,⟨rfl,A12.kp,A12.le⟩,fun⟨p,hp,z⟩=>absurd z (by rcases nd62 p hp with⟨z1,z2⟩;rintro (z | z)<;>contradiction),λ_ o' x' v' H13 hW' hT' post hv'=>?_⟩;obtain rfl:=hW'.one hW;rw [GF hT' hT] at hv';obtain⟨kk,ek,A13,kp13,hs⟩:=A12.GG post;refine⟨v',v,_,rfl,hv',dv.aN kp13.t _ tQ hv,C8 l12,λH14 s14=>⟨true,bh.mpr rfl,?_⟩⟩;rw [if_neg (by decide)];have A14:=A13.same s14;refine⟨pa,us,ls,ds,b,a,_,none,rfl,A14.ha,A14.hd,P62,by lia,λp hp=>by have:=(hpm p hp).2;lia,by lia,by lia,by lia,by lia,rfl,fun⟨p,hp,z⟩=>absurd z (by rcases nd62 p hp with⟨z1,z2⟩;rintro (z | z)<;>contradiction),λ_ o2 x2 v2 H15 hW2 hT2 post2 hv2=>?_⟩;obtain rfl:=hW2.one hW;rw [GF hT2 hT] at hv2;have k15:=(kp13.trans (.same s14)).trans (.same post2.nN);have A15:=A14.same post2.nN;refine⟨v2,v,_,rfl,hv2,dv.aN k15.t _ tQ hv,C8 l12,λH16 s16=>⟨true,bh.mpr rfl,?_⟩⟩;rw [if_neg (by decide)];have k16:=k15.trans (.same s16);exact⟨kk,ek,A15.same s16,R12.pB k16,dv.aN k16.t _ tQ hv,hs⟩
  obtain⟨kk,ek,A13,R13,hv13,hs⟩:=h13;dsimp only;k_data;refine⟨λσ' H'=>(∃ u12 u13,σ'=[Io (.ref sc),Io (.ref p0),Io (.ref pl),Io (.ref pa),Io (.int (1+r)),Io (.ref k.a),Io (.ref sd),Io (.int (i:Int)),Io (.int b),Io (.int a),Io (.ref ra),Io v,u12,u13,o14])/\Al K C p0 cl pl pa sd tl ls us ds kk kk (10+30*i+20) H'/\AK K tl ra ws es H',?_,?_⟩
  ·k_data;obtain⟨pv,y,ps,zs,rfl,tv,ts⟩:=Cu hv13;refine bM tv sF (bM ts kE ⟨rfl,aZ (λc=>?_) (λc=>?_)⟩)
   rotate_left
   ·obtain⟨n,e,r,rfl⟩:=Cv (Mf.mp c);obtain rfl:kk=k:=hs;exact⟨A13,R13⟩
   obtain⟨rs,hR,rfl,rfl⟩:=Ce hs hP c;have rl:=hR.len;have wl:ws.length=ls.length:=by rw [R13.d.length,Iu,rl]
   refine⟨⟨_,aJ.of A13.hp⟩,⟨_,aJ.of R13.h⟩,yE (k1:=Sd.l) (k2:=Sd.l) (xs:=ls.map V.int) (ys:=ws) (λj σ' H'=>(∃ u12 u13,σ'=[Io (.ref sc),Io (.ref p0),Io (.ref pl),Io (.ref pa),Io (.int (1+r)),Io (.ref k.a),Io (.ref sd),Io (.int (i:Int)),Io (.int b),Io (.int a),Io (.ref ra),Io (.ref pv),u12,u13,o14])/\Al K C p0 cl pl pa sd tl ls us ds (bF b k rs) (bF b k (rs.take j)) (10+30*i+20) H'/\AK K tl ra ws (rs.map mU) H') ⟨⟨_,_,rfl⟩,A13,R13⟩ (by rw [Iu,wl]) (λj σ' H' _ h=>⟨aJ.of h.2.1.hp,aJ.of h.2.2.h⟩) ?_ ?_⟩
   ·rintro j x y σ' H14 pt hx hy ⟨⟨u12,u13,rfl⟩,A14,R14⟩ hpt;rw [ID] at hx;obtain⟨p,hp,rfl⟩:=IE.mp hx;obtain⟨d,hd1,hd2⟩:=R14.d.get hy;rw [ID] at hd1;obtain⟨w,hw,rfl⟩:=IE.mp hd1;have s15:=aj (o:=.tup [V.int p,y]) hpt;have e15:upd H14 pt (.tup [V.int p,y]) pt=Io (.tup [V.int p,y]):=ag;generalize upd H14 pt _=H15 at *;refine⟨pt,_,rfl,bj.of e15,rfl,?_⟩;k_data;obtain⟨pm,p9⟩:=hpm p (IC hp);refine (A14.same s15).CS (hR.ok j p w hp hw) pm p9 b0 b1 (dv.same s15 _ hd2) λH16 A16 k16=>⟨?_,(R14.pB (.same s15)).pB k16⟩
    rw [Jv,hw,OZ,kC];exact A16
   ·rintro σ' H14 ⟨e14,A14,R14⟩;rw [Iu,<- rl,JI] at A14;exact⟨e14,A14,R14⟩
  rintro σ' H14 ⟨⟨u12,u13,rfl⟩,A14,R14⟩;k_data;refine lE (λH'=>Al K C p0 cl pl pa sd tl ls us ds kk kk (10+30*i+20) H'/\AK K tl ra ws es H') ?_ λH15 h15=>?_
  ·k_data;refine⟨kk,sd,tl,by rw [ek],A14.kp,A14.st,λH15 s15=>⟨true,bh.mpr rfl,?_⟩⟩;rw [if_neg (by decide)];exact⟨A14.same s15,R14.pB (.same s15)⟩
  obtain⟨A15,R15⟩:=h15;dsimp only;k_data;refine cf (aJ.of A15.hp) ⟨_,rfl,Bd.of (by decide) (by decide),Bd.of (by rw [Iu];lia) (by rw [Iu];lia),p0,cl,_,_,rfl,A15.tp,by lia,by rw [Iu];lia,by rw [Iu];lia,λn0 H16 r20 r21 o16 tp16=>?_⟩;rw [Iu] at r21;have A16:=A15.off o16.lZ tp16;have R16:=R15.pB (.off A15.tp o16.lZ);refine lE (λH'=>∃ kk,kk.a=k.a/\Al K C p0 cl pl pa sd tl ls us ds kk kk (10+30*i+20+1) H') ?_ λH17 h17=>?_
  ·k_data;refine cf (aJ.of A16.hp) ⟨_,rfl,?_⟩;rw [Iu];refine aZ (λc=>?_) (λc=>?_)
   rotate_left
   ·exact⟨kk,ek,A16⟩
   have il:n0.toNat<ls.length:=by lia
   have hp:=Iv il;have hw:=Iv (show n0.toNat<ws.length by rw [R16.d.length,el];exact il);have hu:=Iv (show n0.toNat<us.length by rw [A16.hd.length,dl];exact il);generalize ls[n0.toNat]'_=p at hp;generalize ws[n0.toNat]'_=w at hw;generalize us[n0.toNat]'_=u at hu;obtain⟨d,hd1,hd2⟩:=R16.d.get hw;obtain⟨pm,p9⟩:=hpm p (IC hp);obtain⟨na,nb⟩:=nd62 p (IC hp);obtain⟨p',g,rows,hp',hPap,hv⟩:=P62.at A16.hd hu;rw [hp] at hp';cases hp';have p2:=pm.two;have hpV:(ls.map V.int)[n0.toNat]?=Io (.int p):=by rw [ID,hp];rfl
   rcases D10.ok _ _ _ hp hd1 with⟨e,o,ep,nal,rfl⟩|⟨w0,hr,rfl⟩
   ·refine lE (λH'=>Al K C p0 cl pl pa sd tl ls us ds kk kk (10+30*i+20+1) H'/\AK K tl ra ws es H'/\dv K H' (ip e (a^e%p)) w) ?_ λH17 h17=>?_
    ·k_data;refine fb (aJ.of A16.ha) r20 hu (DJ (ko:=Io kk) hv hPap o (λx xe al=>nal (DU o al)) na (by lia) (by lia) (by lia) (by lia) ⟨by rw [ek],A16.kp,A16.le⟩ λu2 H18 s18 hu2=>fb (aJ.of (s18 _ _ R16.h)) r20 hw ⟨u2,w,_,rfl,hu2,dv.same s18 _ hd2,by simp [ip,sT,mL],λH19 s19=>⟨true,bh.mpr rfl,?_⟩⟩);rw [if_neg (by decide)];have S19:=s18.trans s19;exact⟨A16.same S19,R16.pB (.same S19),dv.same S19 _ hd2⟩
    obtain⟨A17,R17,hw17⟩:=h17;dsimp only;k_data;exact fb (aJ.of A17.hp) r20 hpV (fb (aJ.of R17.h) r20 hw ⟨sd,tl,kk,p,b,w,rfl,A17.st,by lia,by lia,by lia,by lia,.inl ⟨e,_,hw17,kk,ek,A17⟩⟩)
   ·refine lE (λH'=>Al K C p0 cl pl pa sd tl ls us ds (dF kk w0.1 b w0.2.1 w0.2.2.1 w0.2.2.2) kk (10+30*i+20+1) H'/\AK K tl ra ws es H'/\dv K H' (mU w0) w) ?_ λH17 h17=>?_
    ·k_data;have hps:=hr.pt;have lt:=hr.lt;have e0:=hr.o.pos;refine fb (aJ.of A16.ha) r20 hu (FC (ko:=Io kk) hv hPap hr.o hps (λy hy=>by have:=kY hps (by lia) hy;lia) hr.x hr.al (by lia) (by lia) (by lia) (by lia) ⟨by rw [ek],A16.kp,A16.le⟩ λu2 H18 post hu2=>?_);obtain⟨bt,kp,le⟩:=post;have A18:=A16.AF bt kp le;have k18:=A16.D8 bt;have R18:=R16.pB k18;have hw18:=dv.aN k18.t _ rm hd2;refine fb (aJ.of R18.h) r20 hw ⟨u2,w,_,rfl,hu2,hw18,ER hps (gB hps (by lia)),λH19 s19=>⟨true,bh.mpr rfl,?_⟩⟩;rw [if_neg (by decide)];have A19:=A18.same s19;rw [<- hr.pe] at A19;exact⟨A19,R18.pB (.same s19),dv.same s19 _ hw18⟩
    obtain⟨A17,R17,hw17⟩:=h17;dsimp only;k_data;refine fb (aJ.of A17.hp) r20 hpV (fb (aJ.of R17.h) r20 hw (A17.CS hr pm p9 b0 b1 hw17 λH18 A18 k18=>⟨_,(jx _ kk).1.trans ek,A18⟩))
  obtain⟨kk2,ek2,A17⟩:=h17;dsimp only;k_data;refine⟨kk2,sd,tl,by rw [ek2],A17.kp,A17.st,λH18 s18=>⟨true,bh.mpr rfl,?_⟩⟩;rw [if_neg (by decide)];exact⟨kk2,_,_,_,_,_,_,_,_,rfl,ek2,(A17.same s18).more (by lia)⟩
 intro σ' H8 iv;apply iv.el;intro k o7 o8 o9 o10 o11 o12 o13 o14 ek A8;k_data;refine⟨⟨_,aJ.of A8.hp⟩,?_⟩;refine aY (xs:=ls.map V.int) (λi ys H'=>CB K ls H8 i ys H') ⟨av.refl _,[],rfl,rfl,λj p d _ z=>by simp at z⟩ (by rw [Iu];exact IJ l5 (by decide)) (λi ys H' _ h=>by obtain⟨s,ds,h1,h2,_⟩:=h;exact⟨aJ.of (s _ _ A8.hp),by rw [h1.length,h2];exact IF _⟩) ?_ ?_
 ·rintro i x ys H9 hx ⟨s9,ds2,hds2,dl2,hP2⟩;rw [ID] at hx;obtain⟨p,hp,rfl⟩:=IE.mp hx;obtain⟨pm,p9⟩:=hpm p (IC hp);simp only [cH,Jz,MB,QZ];k_data;exact⟨True.intro,p,rfl,pm,by lia,λd v H10 pap s10 hv=>⟨s9.trans s10,ds2++[d],aE.append (aE.same s10 _ hds2) (.one hv),by simp [dl2],pZ (R:=Num.gT) hP2 (by rw [dl2];exact hp) pap⟩⟩
 rintro us2 H9 pa2 ⟨s9,ds2,hds2,dl2,hP2⟩ hpa2;rw [Iu] at dl2;have s10:=aj (o:=.lst us2) hpa2;have S10:=s9.trans s10;have ed:ds2=ds:=Nb (by rw [dl,dl2]) λn h1 h2=>by have hp:=Iv (show n<ls.length by rw [<- dl];exact h2);exact (hP2 n _ _ hp (Iv h1)).one (hP n _ _ hp (Iv h2))
 subst ed;obtain⟨lay1,lay2⟩:=zu P62 λp hp=>(hpm p hp).2;refine xP (d:=.list ds2) (dv.lst (S10 _ _ A8.ha) (aE.same S10 _ A8.hd)) (dv.lst ag (aE.same s10 _ hds2)) (by simp [OU,lay1]) (by simp only [OF];lia) (q _)
end
end K
namespace PySem.W.Fast
def tw8586155515767080288:=0
def tw11640454922982728704:=0
def tw9999478662704920672:=0
def tw9150778748691342560:=0
def tw7555122814624212224:=0
def tw4835691626982578560:=0
def tw3247569017851678144:=0
def tw13833297811695516288:=0
def tw16404346081625075328:=0
def tw2078586474060147360:=0
def tw12607143920018107168:=0
def tw11613157625881761600:=0
def tw782976603324082177:=0
def tw364735181003136033:=0
def tw3140593716622906433:=0
def tw7541267924073998593:=0
def tw8502171666425987393:=0
def tw16920049301406403073:=0
def tw15062260250561720865:=0
def tw1104622689363413633:=0
def tw16624243573450113697:=0
def tw10905648202360844961:=0
def tw2597911298424022881:=0
def tw17526290625827684289:=0
def tw6552597175207680002:=0
def tw13410123049421733922:=0
def tw6993614100986037314:=0
def tw10526651877188937890:=0
def tw2517685738786695522:=0
def tw3863243604849416546:=0
def tw5319962327941219842:=0
def tw8017461599303337506:=0
def tw8224665317975594626:=0
def tw3625663810645474691:=0
def tw15493111334679687651:=0
def tw16988612450105616931:=0
def tw8197663211594667651:=0
def tw1703634996037749571:=0
def tw5133527336884324163:=0
def tw16862429055381726051:=0
def tw5757996104799974307:=0
def tw1150855950282408964:=0
def tw6281639770639630372:=0
def tw13637926111562757156:=0
def tw2201429097231166532:=0
def tw1784909749422639332:=0
def tw13775384133378600292:=0
def tw8164385730105086340:=0
def tw3407639736199134628:=0
def tw10335842361015590308:=0
def tw17738306978285909476:=0
def tw18100170177857457732:=0
def tw5641838215412253380:=0
def tw6849979846144104196:=0
def tw6913943247203164964:=0
def tw5212230193302045508:=0
def tw8761123382977877892:=0
def tw8820415612566701988:=0
def tw3870260393058081700:=0
def tw16347308640483876901:=0
def tw8946506140696612933:=0
def tw6977125395370691717:=0
def tw5510722237206640933:=0
def tw13147661308531754277:=0
def tw10789328544995136837:=0
def tw9478838901589367141:=0
def tw11401336061933658597:=0
def tw15264753619596028389:=0
def tw10066485271980869157:=0
def tw15246644029217377925:=0
def tw6329514593314095749:=0
def tw3326983902654741189:=0
def tw3755207430024137509:=0
def tw16961438715871343461:=0
def tw17258851891105607589:=0
def tw2711596450670627749:=0
def tw9769435452393577381:=0
def tw3622309480491893830:=0
def tw479663382073995334:=0
def tw6833015151701745798:=0
def tw4092067418703278278:=0
def tw5457142468557564134:=0
def tw1679047556061927878:=0
def tw3919316658401833862:=0
def tw11937416161213744070:=0
def tw10924892167440668839:=0
def tw9122786225746221383:=0
def tw13295034778752314727:=0
def tw8390591956954429831:=0
def tw14761482306165623655:=0
def tw4726024594803364807:=0
def tw4382119793792528359:=0
def tw6799350786802872712:=0
def tw2872979351572879048:=0
def tw16278476967860359912:=0
def tw3394978500840421096:=0
def tw9247881643864035176:=0
def tw8895554450017684424:=0
def tw11888778877130107848:=0
def tw8562187509344258217:=0
def tw16363385287546189033:=0
def tw9724261992152648009:=0
def tw2020658406134720937:=0
def tw8785738978153191849:=0
def tw14589685750864272873:=0
def tw5609801495270779529:=0
def tw10560679816769215369:=0
def tw3107686514892175241:=0
def tw15513141312745989033:=0
def tw7681160807854186:=0
def tw4948023042751157386:=0
def tw7323725506829184330:=0
def tw478361089775323498:=0
def tw5022140205462968682:=0
def tw12368568510492296874:=0
def tw6949858769486213994:=0
def tw3397171725181456395:=0
def tw9006044569632621579:=0
def tw10141296574157912459:=0
def tw2334217152762372587:=0
def tw9644988844662966859:=0
def tw14036307591372129931:=0
def tw8708108824626372363:=0
def tw18381786985258489707:=0
def tw17321085031278975851:=0
def tw2988161643843874828:=0
def tw273101386650824940:=0
def tw17860573435060787564:=0
def tw2320951480081017260:=0
def tw721090530512456332:=0
def tw11239777363004675852:=0
def tw11834682776559901452:=0
def tw13261822320055125900:=0
def tw12313053099956128781:=0
def tw2457991112601161869:=0
def tw14949529796515036045:=0
def tw15813623438820308366:=0
def tw9703846370896080366:=0
def tw363201299399387790:=0
def tw16428368110871388942:=0
def tw7347401170962665262:=0
def tw8252678000745369615:=0
def tw17718714334343843919:=0
def tw15650477319075744879:=0
def tw13429113760687579407:=0
def tw17113114047330094479:=0
def tw4992998427420935599:=0
def tw4371936201271401935:=0
def tw12324300666518355439:=0
def tw14408450351931208335:=0
def tw14041822366325897967:=0
def tw13541896117414303631:=0
def tw17738450177953310832:=0
def tw13898212671287286896:=0
def tw2471505246175072432:=0
def tw15439844327128280240:=0
def tw16338385469146157264:=0
def tw16832934173270383024:=0
def tw3996824511343999408:=0
def tw15191651098798702032:=0
def tw5350117192358601424:=0
def tw17443624207295533904:=0
def tw12908761648190359569:=0
def tw15564375005245159569:=0
def tw9586033427691571409:=0
def tw10150300603732727057:=0
def tw350204796192057745:=0
def tw4323306618430374481:=0
def tw12570133457199070865:=0
def tw3845680541594340017:=0
def tw1410996384313599953:=0
def tw9570732876698821650:=0
def tw4305754064654971922:=0
def tw17017581910320005234:=0
def tw13896603889752408210:=0
def tw17384696609683834034:=0
def tw12380479113957584242:=0
def tw9740308188600120786:=0
def tw5584863528051441170:=0
def tw5993955669285706354:=0
def tw16144037576400994130:=0
def tw11672208443879042291:=0
def tw13440245142393391571:=0
def tw16789106318028432947:=0
def tw9629403097062936179:=0
def tw17261996461175411507:=0
def tw4092958681035363283:=0
def tw12931824270512559252:=0
def tw13078301183458419956:=0
def tw8195286341838526772:=0
def tw9813269755456159092:=0
def tw314719499224411732:=0
def tw12766992258956787316:=0
def tw12420889511788526292:=0
def tw1257995641727584084:=0
def tw1077880544830272340:=0
def tw8428948042304395156:=0
def tw7979673450568159156:=0
def tw17815807011777107892:=0
def tw13076170469505703892:=0
def tw15601765687097905108:=0
def tw14323866073968333780:=0
def tw9273422310796407861:=0
def tw10537377724226897397:=0
def tw9393812268526319125:=0
def tw5588967459393564309:=0
def tw4583221813272510293:=0
def tw8624778814328949910:=0
def tw7044737459578648758:=0
def tw3791527906696917206:=0
def tw2927652553054516566:=0
def tw15025938443993418166:=0
def tw1069737288051660374:=0
def tw17764746509598374486:=0
def tw5602745869851149014:=0
def tw17964339884277784502:=0
def tw17705175820455223415:=0
def tw8559726993768755447:=0
def tw13193448492382803223:=0
def tw4374088586756243863:=0
def tw15953010078514810551:=0
def tw13624766408333271767:=0
def tw1116156030758430711:=0
def tw15831849569906610296:=0
def tw8693268420939489432:=0
def tw16749994510548720824:=0
def tw12058763124183769368:=0
def tw12074923902334476600:=0
def tw13036136488245249400:=0
def tw7132595377746710968:=0
def tw15537372324352360984:=0
def tw17186850905744123480:=0
def tw10973684134536527544:=0
def tw5982200213801348856:=0
def tw122828271834988601:=0
def tw3760973283574424761:=0
def tw6250468226250765529:=0
def tw4867210098496678169:=0
def tw2413256028998054169:=0
def tw2298695234035377465:=0
def tw15577547816444225849:=0
def tw9619142925877932345:=0
def tw12679043349706749369:=0
def tw13234802141695265209:=0
def tw14652746468461562297:=0
def tw650409294600118809:=0
def tw13791419393622375993:=0
def tw12299686020808447769:=0
def tw12715858552132200281:=0
def tw3878121551743944569:=0
def tw1460318358272692185:=0
def tw11186656729906953209:=0
def tw7074978260948043769:=0
def tw1119522751391030265:=0
def tw15921676928089210010:=0
def tw2134289052605016250:=0
def tw18027065643802083546:=0
def tw10339422227387918586:=0
def tw10777996245777995162:=0
def tw7012883422892468698:=0
def tw13802006434813436410:=0
def tw11681995795114473306:=0
def tw15939664536605041755:=0
def tw6694882386050756731:=0
def tw4261944006324800635:=0
def tw10496102513749042363:=0
def tw8744798578295637467:=0
def tw11330729584383941179:=0
def tw3360358626970386139:=0
def tw10894608249944435419:=0
def tw18233256834212327195:=0
def tw8584909201396553563:=0
def tw16840052183059359611:=0
def tw2364165294848918523:=0
def tw3334494527923909660:=0
def tw10497513400568528956:=0
def tw14656868880172289212:=0
def tw14138984860861440380:=0
def tw10827380600527793532:=0
def tw12679404617580955068:=0
def tw16172059035385168668:=0
def tw14382971730741414684:=0
def tw6583157727184140349:=0
def tw17438518702220339261:=0
def tw3270186461798698077:=0
def tw17734775804012086397:=0
def tw9404814446219686589:=0
def tw6250194632026127101:=0
def tw6878576250359908349:=0
def tw4608612944163055998:=0
def tw9317814010941968862:=0
def tw16367833903940792926:=0
def tw12199684295548732062:=0
def tw6608160261338496702:=0
def tw2566682191185304318:=0
def tw5619753146666346238:=0
def tw1714035869944126334:=0
def tw9407090568018987934:=0
def tw15401089306125906878:=0
def tw9975596379598839742:=0
def tw337109165739725887:=0
def tw7076479728433002655:=0
def tw15646857263742333183:=0
def tw16653543296000626175:=0
def tw12022678345526271487:=0
def tw11311365199562737343:=0
def tw5630075209198586559:=0
def tw6272996979615576863:=0
def tw8287262430193695551:=0
def tw15568676067307239295:=0
def tw1728608336743672799:=0
end PySem.W.Fast
namespace K
open PySem PySem.Spec PyProof.Rows L2
theorem v9:oI "TooFar.__init__" "part" "part" (inClass (top 5) 0):=⟨⟨rfl,rfl,rfl,by decide +kernel,rfl,by decide +kernel,by decide +kernel⟩,⟨_,_,_,_,rfl,λ_=>rfl,λ_=>rfl⟩,rfl,rfl,by decide,by decide,λ_ _ _ _ _ _ us hl=>match us,hl with | [_,_],_=>rfl⟩
theorem tK:oI "NoPrime.__init__" "divisor" "divisor" (inClass (top 6) 0):=⟨⟨rfl,rfl,rfl,by decide +kernel,rfl,by decide +kernel,by decide +kernel⟩,⟨_,_,_,_,rfl,λ_=>rfl,λ_=>rfl⟩,rfl,rfl,by decide,by decide,λ_ _ _ _ _ _ us hl=>match us,hl with | [_,_],_=>rfl⟩
theorem pA:oI "NoInverse.__init__" "divisor" "divisor" (inClass (top 7) 0):=⟨⟨rfl,rfl,rfl,by decide +kernel,rfl,by decide +kernel,by decide +kernel⟩,⟨_,_,_,_,rfl,λ_=>rfl,λ_=>rfl⟩,rfl,rfl,by decide,by decide,λ_ _ _ _ _ _ us hl=>match us,hl with | [_,_],_=>rfl⟩
end K
open PySem PySem.W PyProof.Rows L2
set_option maxHeartbeats 0 in
theorem PySem.Challenge.cw_rootprime_k62_whole_steps_by_some_primes_holds : PySem.Challenge.rw_rootprime_k62_whole_steps_by_some_primes.Holds := by
 w_on;o_law;k_head;(case hw=>w_witness2)
 k_fill
 refine L2.AE (l:=PySem.Challenge.rw_rootprime_k62_whole_steps_by_some_primes) (n:=63) (k:=68) (x := "_law_script") (CX:=L2.aQ) (sp:=K.De) rfl (by decide) rfl ⟨rfl,by decide,by decide,rfl⟩ (λw h Y=>Tn Y) ?F ?S ?C
 case F =>
  intro w mg fa h KX G hmg;have d_least_divisor:L2.ax (L2.dh KX) mg "least_divisor" (K.top 10):=K.dY KX G;have d_least_divisor_from:L2.ax (L2.dh KX) mg "least_divisor_from" (K.top 11):=K.dY KX G;have d_parted:L2.ax (L2.dh KX) mg "parted" (K.top 12):=K.dY KX G;have d_whole_of:L2.ax (L2.dh KX) mg "whole_of" (K.top 13):=K.dY KX G;have d_divisor:L2.ax (L2.dh KX) mg "divisor" (K.top 15):=K.dY KX G;have d_inverse:L2.ax (L2.dh KX) mg "inverse" (K.top 16):=K.dY KX G;have d_primes_in:L2.ax (L2.dh KX) mg "primes_in" (K.top 18):=K.dY KX G;have d_parting_in:L2.ax (L2.dh KX) mg "parting_in" (K.top 19):=K.dY KX G;have d_power:L2.ax (L2.dh KX) mg "power" (K.top 21):=K.dY KX G;have d_is_least:L2.ax (L2.dh KX) mg "is_least" (K.top 22):=K.dY KX G;have d_order_from:L2.ax (L2.dh KX) mg "order_from" (K.top 24):=K.dY KX G;have d_most_times:L2.ax (L2.dh KX) mg "most_times" (K.top 25):=K.dY KX G;have d_raised:L2.ax (L2.dh KX) mg "raised" (K.top 26):=K.dY KX G;have d_times_in_order:L2.ax (L2.dh KX) mg "times_in_order" (K.top 27):=K.dY KX G;have d_times_to_one:L2.ax (L2.dh KX) mg "times_to_one" (K.top 28):=K.dY KX G;have d_order:L2.ax (L2.dh KX) mg "order" (K.top 29):=K.dY KX G;have d_small_steps:L2.ax (L2.dh KX) mg "small_steps" (K.top 32):=K.dY KX G;have d_put_together:L2.ax (L2.dh KX) mg "put_together" (K.top 34):=K.dY KX G;have d_first_apart:L2.ax (L2.dh KX) mg "first_apart" (K.top 35):=K.dY KX G;have d_are_apart:L2.ax (L2.dh KX) mg "are_apart" (K.top 36):=K.dY KX G;have d_both_together:L2.ax (L2.dh KX) mg "both_together" (K.top 37):=K.dY KX G;have d_which:L2.jH (L2.dh KX) mg "which" (K.top 40) #[.none]:=by
   dsimp only [L2.dh]
   refine' L2.nr KX G ?a ?l ?c ?k ?t ?e
   (case a=>k_is);(case l=>k_is);(case c=>k_is);(case k=>k_is);(case t=>k_is);(case e=>rfl)
  have d_refuse_far:L2.ax (L2.dh KX) mg "refuse_far" (K.top 41):=K.dY KX G;have d_sought:L2.ax (L2.dh KX) mg "sought" (K.top 42):=K.dY KX G;have d_digits:L2.ax (L2.dh KX) mg "digits" (K.top 43):=K.dY KX G;have d_steps_to:L2.ax (L2.dh KX) mg "steps_to" (K.top 44):=K.dY KX G;have d_number_of:L2.ax (L2.dh KX) mg "number_of" (K.top 45):=K.dY KX G;have d_which_of:L2.jH (L2.dh KX) mg "which_of" (K.top 47) #[.none]:=by
   dsimp only [L2.dh]
   refine' L2.nr KX G ?a ?l ?c ?k ?t ?e
   (case a=>k_is);(case l=>k_is);(case c=>k_is);(case k=>k_is);(case t=>k_is);(case e=>rfl)
  have d_placed:L2.ax (L2.dh KX) mg "placed" (K.top 48):=K.dY KX G;have d_prime_paper:L2.ax (L2.dh KX) mg "prime_paper" (K.top 50):=K.dY KX G;have d_parting_paper:L2.ax (L2.dh KX) mg "parting_paper" (K.top 51):=K.dY KX G;have d_least_full:L2.ax (L2.dh KX) mg "least_full" (K.top 52):=K.dY KX G;have d__law_tape:L2.ax (L2.dh KX) mg "_law_tape" (K.top 54):=K.dY KX G;have d__law_draw:L2.ax (L2.dh KX) mg "_law_draw" (K.top 55):=K.dY KX G;have d__law_is_prime:L2.ax (L2.dh KX) mg "_law_is_prime" (K.top 56):=K.dY KX G;have d__law_prime:L2.ax (L2.dh KX) mg "_law_prime" (K.top 57):=K.dY KX G;have d__law_power:L2.ax (L2.dh KX) mg "_law_power" (K.top 58):=K.dY KX G;have d__law_digits:L2.ax (L2.dh KX) mg "_law_digits" (K.top 59):=K.dY KX G;have d__law_primes_of:L2.ax (L2.dh KX) mg "_law_primes_of" (K.top 60):=K.dY KX G;have d__law_due_power:L2.ax (L2.dh KX) mg "_law_due_power" (K.top 61):=K.dY KX G;have d__law_m:L2.ax (L2.dh KX) mg "_law_m" (K.top 62):=K.dY KX G;have d__law_goes:L2.ax (L2.dh KX) mg "_law_goes" (K.top 63):=K.dY KX G;have d__law_same:L2.ax (L2.dh KX) mg "_law_same" (K.top 64):=K.dY KX G;have d__law_tells:L2.ax (L2.dh KX) mg "_law_tells" (K.top 65):=K.dY KX G;have d__law_common:L2.ax (L2.dh KX) mg "_law_common" (K.top 66):=K.dY KX G;have d__law_least_with:L2.ax (L2.dh KX) mg "_law_least_with" (K.top 67):=K.dY KX G;have d__law_primes:L2.ax (L2.dh KX) mg "_law_primes" (K.top 68):=K.dY KX G;have d__law_two:L2.ax (L2.dh KX) mg "_law_two" (K.top 69):=K.dY KX G;have d__law_due_of:L2.ax (L2.dh KX) mg "_law_due_of" (K.top 70):=K.dY KX G;have d_law:L2.ax (L2.dh KX) mg "law" (K.top 71):=K.dY KX G;have n_abs:mg "abs"=none:=JN KX G (by k_is);have n_int:mg "int"=none:=JN KX G (by k_is);have n_bool:mg "bool"=none:=JN KX G (by k_is);have n_isinstance:mg "isinstance"=none:=JN KX G (by k_is);have B':mg "range"=none:=JN KX G (by k_is);have A':mg "tuple"=none:=JN KX G (by k_is);have n_all:mg "all"=none:=JN KX G (by k_is);have n_any:mg "any"=none:=JN KX G (by k_is);have n_list:mg "list"=none:=JN KX G (by k_is);have n_min:mg "min"=none:=JN KX G (by k_is);have n_max:mg "max"=none:=JN KX G (by k_is);have f':mg "len"=none:=JN KX G (by k_is);have K':mg "zip"=none:=JN KX G (by k_is);have n_enumerate:mg "enumerate"=none:=JN KX G (by k_is);have n_sorted:mg "sorted"=none:=JN KX G (by k_is);have n_set:mg "set"=none:=JN KX G (by k_is)
  refine' L2.cK (KZ (n := "PrimeError") KX G ?xa) (λa_PrimeError=>?g1)
  (case xa=>k_is)
  refine' L2.cK (L2.fV KX a_PrimeError ?l ?c2 ?c3 ?e1 ?e2 ?e3 ?e4 ?e5 ?e6 ?ob ?kp) (λc_PrimeError=>?g2)
  (case l=>k_is);(case c2=>rfl);(case c3=>rfl);(case e1=>k_is);(case e2=>k_is);(case e3=>k_is);(case e4=>k_is);(case e5=>k_is);(case e6=>k_is);(case ob=>exact⟨_,_,_,_,_,_,_,_,_,_,_,_,_,_,_,_,rfl,rfl,rfl,rfl⟩);(case kp=>k_is)
  refine' L2.cK (L2.lg a_PrimeError c_PrimeError.2 c_PrimeError.1 ?i) (λx_PrimeError=>?g3)
  (case i=>k_is)
  refine' L2.cK (KZ (n := "NoNumber") KX G ?xa) (λa_NoNumber=>?g4)
  (case xa=>k_is)
  refine' L2.cK (L2.fV KX a_NoNumber ?l ?c2 ?c3 ?e1 ?e2 ?e3 ?e4 ?e5 ?e6 ?ob ?kp) (λc_NoNumber=>?g5)
  (case l=>k_is);(case c2=>rfl);(case c3=>rfl);(case e1=>k_is);(case e2=>k_is);(case e3=>k_is);(case e4=>k_is);(case e5=>k_is);(case e6=>k_is);(case ob=>exact⟨_,_,_,_,_,_,_,_,_,_,_,_,_,_,_,_,rfl,rfl,rfl,rfl⟩);(case kp=>k_is)
  refine' L2.cK (L2.lg a_NoNumber c_NoNumber.2 c_NoNumber.1 ?i) (λx_NoNumber=>?g6)
  (case i=>k_is)
  refine' L2.cK (KZ (n := "Nought") KX G ?xa) (λa_Nought=>?g7)
  (case xa=>k_is)
  refine' L2.cK (L2.fV KX a_Nought ?l ?c2 ?c3 ?e1 ?e2 ?e3 ?e4 ?e5 ?e6 ?ob ?kp) (λc_Nought=>?g8)
  (case l=>k_is);(case c2=>rfl);(case c3=>rfl);(case e1=>k_is);(case e2=>k_is);(case e3=>k_is);(case e4=>k_is);(case e5=>k_is);(case e6=>k_is);(case ob=>exact⟨_,_,_,_,_,_,_,_,_,_,_,_,_,_,_,_,rfl,rfl,rfl,rfl⟩);(case kp=>k_is)
  refine' L2.cK (L2.lg a_Nought c_Nought.2 c_Nought.1 ?i) (λx_Nought=>?g9)
  (case i=>k_is)
  refine' L2.cK (KZ (n := "NoOrder") KX G ?xa) (λa_NoOrder=>?g10)
  (case xa=>k_is)
  refine' L2.cK (L2.fV KX a_NoOrder ?l ?c2 ?c3 ?e1 ?e2 ?e3 ?e4 ?e5 ?e6 ?ob ?kp) (λc_NoOrder=>?g11)
  (case l=>k_is);(case c2=>rfl);(case c3=>rfl);(case e1=>k_is);(case e2=>k_is);(case e3=>k_is);(case e4=>k_is);(case e5=>k_is);(case e6=>k_is);(case ob=>exact⟨_,_,_,_,_,_,_,_,_,_,_,_,_,_,_,_,rfl,rfl,rfl,rfl⟩);(case kp=>k_is)
  refine' L2.cK (L2.lg a_NoOrder c_NoOrder.2 c_NoOrder.1 ?i) (λx_NoOrder=>?g12)
  (case i=>k_is)
  refine' L2.cK (KZ (n := "TooFar") KX G ?xa) (λa_TooFar=>?g13)
  (case xa=>k_is)
  refine' L2.cK (L2.fV KX a_TooFar ?l ?c2 ?c3 ?e1 ?e2 ?e3 ?e4 ?e5 ?e6 ?ob ?kp) (λc_TooFar=>?g14)
  (case l=>k_is);(case c2=>rfl);(case c3=>rfl);(case e1=>k_is);(case e2=>k_is);(case e3=>k_is);(case e4=>k_is);(case e5=>k_is);(case e6=>k_is);(case ob=>exact⟨_,_,_,_,_,_,_,_,_,_,_,_,_,_,_,_,rfl,rfl,rfl,rfl⟩);(case kp=>k_is)
  refine' L2.cK (L2.qv K.v9 a_TooFar c_TooFar.2 c_TooFar.1 ?nf ?i ?fn ?l ?cc ?kk) (λx_TooFar=>?g15)
  (case nf=>k_is);(case i=>k_is);(case fn=>k_is);(case l=>k_is);(case cc=>k_is);(case kk=>k_is)
  refine' L2.cK (KZ (n := "NoPrime") KX G ?xa) (λa_NoPrime=>?g16)
  (case xa=>k_is)
  refine' L2.cK (L2.fV KX a_NoPrime ?l ?c2 ?c3 ?e1 ?e2 ?e3 ?e4 ?e5 ?e6 ?ob ?kp) (λc_NoPrime=>?g17)
  (case l=>k_is);(case c2=>rfl);(case c3=>rfl);(case e1=>k_is);(case e2=>k_is);(case e3=>k_is);(case e4=>k_is);(case e5=>k_is);(case e6=>k_is);(case ob=>exact⟨_,_,_,_,_,_,_,_,_,_,_,_,_,_,_,_,rfl,rfl,rfl,rfl⟩);(case kp=>k_is)
  refine' L2.cK (L2.qv K.tK a_NoPrime c_NoPrime.2 c_NoPrime.1 ?nf ?i ?fn ?l ?cc ?kk) (λx_NoPrime=>?g18)
  (case nf=>k_is);(case i=>k_is);(case fn=>k_is);(case l=>k_is);(case cc=>k_is);(case kk=>k_is)
  refine' L2.cK (KZ (n := "NoInverse") KX G ?xa) (λa_NoInverse=>?g19)
  (case xa=>k_is)
  refine' L2.cK (L2.fV KX a_NoInverse ?l ?c2 ?c3 ?e1 ?e2 ?e3 ?e4 ?e5 ?e6 ?ob ?kp) (λc_NoInverse=>?g20)
  (case l=>k_is);(case c2=>rfl);(case c3=>rfl);(case e1=>k_is);(case e2=>k_is);(case e3=>k_is);(case e4=>k_is);(case e5=>k_is);(case e6=>k_is);(case ob=>exact⟨_,_,_,_,_,_,_,_,_,_,_,_,_,_,_,_,rfl,rfl,rfl,rfl⟩);(case kp=>k_is)
  refine' L2.cK (L2.qv K.pA a_NoInverse c_NoInverse.2 c_NoInverse.1 ?nf ?i ?fn ?l ?cc ?kk) (λx_NoInverse=>?g21)
  (case nf=>k_is);(case i=>k_is);(case fn=>k_is);(case l=>k_is);(case cc=>k_is);(case kk=>k_is)
  refine' L2.cK (KZ (n := "Kept") KX G ?xa) (λa_Kept=>?g22)
  (case xa=>k_is)
  refine' L2.cK (L2.Eg KX a_Kept ?p1 ?p2 ?p3 ?p4 ?p5 ?p6) (λo_Kept=>?g23)
  (case p1=>k_is);(case p2=>k_is);(case p3=>k_is);(case p4=>k_is);(case p5=>k_is);(case p6=>k_is)
  refine' L2.cK (L2.lS (m := "__init__") (qual := "Kept.__init__") (st:=L2.inClass (K.top 31) 0) o_Kept ?xa ?fn ?kk ?l ?cc) (λm_Kept___init__=>?g24)
  (case xa=>k_is);(case fn=>k_is);(case kk=>k_is);(case l=>k_is);(case cc=>k_is)
  refine' L2.cK (L2.lS (m := "steps") (qual := "Kept.steps") (st:=L2.inClass (K.top 31) 1) o_Kept ?xa ?fn ?kk ?l ?cc) (λm_Kept_steps=>?g25)
  (case xa=>k_is);(case fn=>k_is);(case kk=>k_is);(case l=>k_is);(case cc=>k_is)
  refine' L2.cK (L2.lS (m := "tables") (qual := "Kept.tables") (st:=L2.inClass (K.top 31) 2) o_Kept ?xa ?fn ?kk ?l ?cc) (λm_Kept_tables=>?g26)
  (case xa=>k_is);(case fn=>k_is);(case kk=>k_is);(case l=>k_is);(case cc=>k_is)
  refine' L2.cK (L2.lS (m := "used_table") (qual := "Kept.used_table") (st:=L2.inClass (K.top 31) 3) o_Kept ?xa ?fn ?kk ?l ?cc) (λm_Kept_used_table=>?g27)
  (case xa=>k_is);(case fn=>k_is);(case kk=>k_is);(case l=>k_is);(case cc=>k_is)
  refine' L2.cK (L2.lS (m := "add_steps") (qual := "Kept.add_steps") (st:=L2.inClass (K.top 31) 4) o_Kept ?xa ?fn ?kk ?l ?cc) (λm_Kept_add_steps=>?g28)
  (case xa=>k_is);(case fn=>k_is);(case kk=>k_is);(case l=>k_is);(case cc=>k_is)
  refine' L2.cK (L2.pH (f := "most") o_Kept ?xa) (λna_most=>?g29)
  (case xa=>k_is)
  refine' L2.cK (L2.pH (f := "counted") o_Kept ?xa) (λna_counted=>?g30)
  (case xa=>k_is)
  refine' L2.cK (L2.pH (f := "laid") o_Kept ?xa) (λna_laid=>?g31)
  (case xa=>k_is)
  refine' L2.cK (KZ (n := "GREATEST") KX G ?xa) (λg_GREATEST=>?g32)
  (case xa=>k_is)
  refine' L2.cK (KZ (n := "FARTHEST") KX G ?xa) (λg_FARTHEST=>?g33)
  (case xa=>k_is)
  refine L2.Bn hmg d_law (λ_ _ _ _ _ _ _=>rfl) λbase f fd kb F=>?_;have dvr:=λP w=>K.tT (P:=P) (w:=w) (base:=base) d_divisor n_abs;have inv:=λP w=>K.tV (P:=P) (w:=w) (base:=base) d_inverse (dvr P w) (x_NoInverse _ _ _);have pw:=λP w=>K.zg (P:=P) (w:=w) (base:=base) d_power (inv P w) n_abs;have lt:=λP w=>K.tW (P:=P) (w:=w) (base:=base) d_is_least (pw P w) n_all;have fr:=λP w=>K.BB (P:=P) (w:=w) (base:=base) d_least_divisor_from;have ls:=λP w=>K.yZ (P:=P) (w:=w) (base:=base) d_least_divisor (fr P w) x_NoNumber (x_TooFar _ _ _) ⟨_,g_GREATEST⟩;have pd:=λP w=>K.wD (P:=P) (w:=w) (base:=base) d_parted (fr P w) x_NoNumber (x_TooFar _ _ _) ⟨_,g_GREATEST⟩;have pi:=λP w=>K.rD (P:=P) (w:=w) (base:=base) d_primes_in;have pp:=λP w=>K.Ey (K.nP (P:=P) (w:=w) (base:=base) d_prime_paper d_parting_paper (ls P w) (pd P w) (K.pJ d_least_full (lt P w)) (pi P w) (x_NoPrime _ _ _) A' 30).1;have ra:=λP w=>K.wH (P:=P) (w:=w) (base:=base) d_raised (pw P w) B';have wo:=λP w=>K.zt (P:=P) (w:=w) (base:=base) d_whole_of B';have od:=λP w=>K.y4 (P:=P) (w:=w) (base:=base) d_order (K.pK d_order_from (K.y9 d_parting_in) (K.y8 d_parting_in) (K.BF d_most_times) (ra P w) (K.rG d_times_in_order (ra P w) (K.zq d_times_to_one (pw P w)) f' 6) (wo P w) (pw P w) n_min K' A') x_Nought;have put:=λP w=>K.En (P:=P) (w:=w) (base:=base) d_put_together (K.yW d_first_apart (K.yT d_are_apart (dvr P w)) n_enumerate) (K.BA d_both_together (dvr P w) (inv P w));have ki:=λP w=>K.yX (P:=P) (w:=w) (mg:=mg) (base:=base) m_Kept___init__ o_Kept.cls na_most na_counted na_laid;have ka:=λP w=>K.BD (P:=P) (w:=w) (mg:=mg) (base:=base) m_Kept_add_steps o_Kept.cls na_counted;have kt:=λP w=>K.tX (P:=P) (w:=w) (mg:=mg) (base:=base) m_Kept_tables o_Kept.cls na_laid n_list;have ku:=λP w=>K.yY (P:=P) (w:=w) (mg:=mg) (base:=base) m_Kept_used_table o_Kept.cls na_laid na_most f' (K.zh d_small_steps f') (ka P w) (kt P w);have dg:=λP w=>K.wy (P:=P) (w:=w) (base:=base) d_digits o_Kept.cls (pw P w) (inv P w) (ku P w) (ka P w) (K.BG d_number_of) (K.tZ d_steps_to) f' B' A';have so:=λP w=>K.wK (P:=P) (w:=w) (base:=base) d_sought o_Kept.cls o_Kept (ki P w) (dg P w) (K.y7 d_parting_in) (wo P w) (K.BH d_number_of) (put P w) f' A';have rf:=λP w=>K.El (P:=P) (w:=w) (base:=base) d_refuse_far (x_TooFar _ _ _) ⟨_,g_FARTHEST⟩ n_max;have wh:=λP w=>(K.zr (P:=P) (w:=w) (base:=base) d_which (od P w) (pw P w) (rf P w) (pi P w) (so P w) x_Nought)
  have wf:=λP w=>K.ua (P:=P) (w:=w) (base:=base) d_which_of (od P w) (pw P w) (rf P w) (pi P w) (so P w) (K.wF d_placed (put P w) f' A') x_Nought n_any n_enumerate K';have dw:=λP w=>K.yU (P:=P) (w:=w) (base:=base) d__law_draw f';have lp:=λP w=>K.BE (P:=P) (w:=w) (base:=base) d__law_power;have sa:=λP w=>K.rF (P:=P) (w:=w) (base:=base) d__law_same n_isinstance n_bool n_list A' f' K' n_all 6;have tl:=λP w=>K.zm (P:=P) (w:=w) (base:=base) d__law_tells o_Kept.cls (K.wz m_Kept_steps o_Kept.cls na_counted) (kt P w) (sa P w);have cm:=λP w=>K.wx (P:=P) (w:=w) (base:=base) d__law_common;have lw:=λP w=>K.wA (P:=P) (w:=w) (base:=base) d__law_least_with (cm P w);exact K.Em F o_Kept (ki _ _) (K.zk d__law_tape) (dw _ _) (K.tY d__law_primes (dw _ _) (K.wG d__law_prime (K.wB d__law_is_prime n_int)) B' n_sorted n_set) (pp _ _) (K.Eo d__law_two (dw _ _) (lp _ _) (lw _ _) n_enumerate f') (K.Ek d__law_due_power (lp _ _) (K.Ej d__law_digits) (K.rE d__law_primes_of) A' f') (K.yV d__law_due_of (cm _ _) (lw _ _) n_enumerate B' A' f') (sa _ _) (wf _ _).callee (wf _ _) (wh _ _).callee (K.BC d__law_goes (lp _ _) (K.Hl d__law_m) f') (tl _ _) B' f' K'
 case S=>exact λK H a ns hl hO hS=>⟨a,ns,rfl,hS,hl,λ_=>rfl⟩
 case C=>exact λ_ _ _ _ z=>z
