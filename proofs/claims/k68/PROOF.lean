import PyProof.Rows.All
import Wide.All
import OpenK.AllK
import Wide.FinOn
import Lean
import PyProof.EqAt
import PyProof.EqKinds
import PyProof.TupleCall
import KE.KRevSl
import PyProof.NeData
import PyProof.P3Eq
import PyProof.Rows.Range3
import PyProof.EnumMake
import PyProof.Draws
import PyProof.ZipIter
import KE.KDictList
import KE.KDictSum
import PyProof.WalkInts
import PyProof.Rows.SeqCalls
import PyProof.Rows.SortShell
import PySem.Challenge.RW_rootprime_k68_roots_by_small_primes
set_option Elab.async false
set_option linter.all false
set_option maxRecDepth 100000
open Array renaming length_toList->HV,getElem?_toList->ID,toList_append->IX,getElem?_eq_getElem->Jf,getElem?_eq_some_iff->KQ,perm_iff_toList_perm->KU,find?_toList->LY,append_assoc->Nu,toList_setIfInBounds->NH,toList_push->NW,reverse_reverse->ON,getElem_toList->Pa,reverse_append->Pc,toList->P7
open Bool renaming false_ne_true->HM,false_eq_true->Jm,eq_iff_iff->Lv,or_true->Nj,and_eq_true->N7,and_true->Sf
open Classical renaming em->Ox
open False renaming elim->IU
open ForInStep renaming yield->JI,done->Rr
open Int renaming toNat_of_nonneg->Hb,dvd_mul_of_dvd_right->Hh,emod_lt_of_pos->Hk,emod_nonneg->Hl,pow_succ->Hu,le_of_dvd->Hx,natCast_dvd_natCast->Hz,dvd_of_emod_eq_zero->HD,mul_le_mul_of_nonneg_left->HK,pow_zero->HS,mul_ediv_cancel_left->HW,mul_comm->Ia,mul_assoc->Ib,emod_eq_zero_of_dvd->Ig,emod_eq_of_lt->Ii,mul_le_mul_of_nonneg_right->Il,natCast_mul->Im,mul_nonpos_of_nonneg_of_nonpos->Iu,toNat_natCast->IH,le_of_lt->IT,le_trans->IZ,mul_ediv_add_emod->Jd,le_refl->Je,eq_of_mul_eq_mul_left->Jg,one_mul->Jl,mul_one->Jo,emod_emod_of_dvd->Jw,dvd_add->Jx,ediv_nonneg->JB,mul_nonneg->JR,dvd_mul_of_dvd_left->JV,mul_emod->Kr,emod_eq_emod_iff_emod_sub_eq_zero->Kw,dvd_trans->KJ,lt_or_eq_of_le->KR,dvd_refl->Lo,natCast_nonneg->Ls,mul_le_mul->LI,mul_neg_of_pos_of_neg->LM,emod_emod->LS,not_lt->L5,mul_pos->Ma,dvd_sub->Mb,dvd_zero->Mt,le_ediv_of_mul_le->MC,pow_add->MZ,mul_pow->M0,natCast_add->M5,natCast_pow->M7,add_zero->Ni,zero_dvd->Nr,fdiv_eq_ediv_of_nonneg->NB,lt_trichotomy->NQ,one_pow->NR,pow_one->NS,ediv_le_self->N8,natCast_ediv->Oh,mul_zero->Oy,le_antisymm->OC,ediv_le_of_le_mul->OP,neg_mul->OX,dvd_neg->OY,sub_mul->O0,mul_ediv_cancel'->Pg,lt_of_lt_of_le->PZ,ofNat_dvd_left->P0,zero_mul->Qk,mul_sub->QS,one_dvd->QV,zero_emod->Sb,mul_neg->SM,add_mul->SO,mul_add->SQ,pow_mul->SX
open List renaming length_map->G4,getElem?_eq_some_iff->G9,mem_cons_of_mem->Ha,mem_of_getElem?->Hc,getElem?_map->He,getElem?_eq_getElem->Hf,mem_cons_self->Hi,mem_append_right->Hm,mem_singleton->Ho,mem_cons->Hw,length_take->HB,mem_map->HE,pairwise_append->HG,map_cons->HH,take_add_one->HI,length_append->HN,map_append->HQ,take_length->HY,take_append_drop->HZ,size_toArray->Ic,mem_of_mem_take->Iq,append_assoc->Iy,filter_cons_of_neg->Iz,Nodup->IA,mem_filter->IB,mem_append->IC,mem_range->IF,getElem?_append_right->IG,take_of_length_le->II,filter_cons_of_pos->IL,getElem?_append_left->IW,range->IY,length_range->Jb,map_nil->Jc,length_cons->Ji,append_nil->Jj,not_mem_nil->Js,mem_of_mem_drop->Jy,pairwise_cons->Jz,length_singleton->JC,lookup_cons->JL,pairwise_iff_getElem->JN,length_filter_le->JP,mem_iff_getElem?->JQ,mem_append_left->JT,length_drop->JU,pairwise_map->J7,getD_eq_getElem?_getD->Ka,filterMap_cons->Kc,length_reverse->Kd,getElem_of_mem->Ke,nodup_cons->Kg,getElem?_zip_eq_some->Ki,contains_cons->Kn,getElem?_take_of_lt->Kq,replicate->KP,range_succ->KZ,eq_nil_of_length_eq_zero->Lh,getElem?_set_self->Lk,pairwise_lt_range->Lp,find?_cons->Lx,getElem_take->LB,getElem_drop->LC,lookup->LG,of_mem_zip->LV,length_nil->LX,length_eq_zero_iff->Md,take_sublist->Ml,find?_cons_of_neg->Mo,drop_of_length_le->Mw,perm_append_comm->MD,getElem?_eq_none->ME,eq_nil_iff_forall_not_mem->MO,any_cons->MP,getElem?_set_ne->MS,filter_eq_self->Nc,length_pos_iff->Nd,map_congr_left->Nf,map_map->Nt,mem_filterMap->Nw,take_zero->NG,filter_append->NI,getLast?_eq_getElem?->NJ,nodup_append->NT,drop_sublist->NX,flatten_cons->NY,set_comm->NZ,any_eq_true->N9,pairwise_singleton->Od,find?_cons_of_pos->Ot,singleton_append->OM,set_append_right->OO,getElem?_reverse->OQ,drop_drop->Pb,getElem?_range->Pu,filter_sublist->Py,reverse_cons->Qj,ext_getElem?->Qp,flatMap_cons->Qs,mem_flatMap->QL,length->QP,zip_append->Q5,length_zip->Rb,nodup_nil->Rm,drop_take->Ru,drop_left->Rv,take_left->Rw,drop_zero->Ry,all_cons->R8,map->S1
open List.Pairwise renaming imp_of_mem->Ks,nil->Mn,filter->S0,map->Tv
open List.Perm renaming trans->Q9,refl->Rx
open List.cons renaming injEq->KA
open Nat renaming le_refl->Hd,le_trans->Hg,lt_of_lt_of_le->Hr,ne_of_lt->HP,mul_comm->Ij,eq_zero_or_pos->Io,zero_le->IV,mul_assoc->Jn,pow_succ->Jq,lt_irrefl->Jt,lt_of_le_of_lt->JG,le_mul_of_pos_left->Kb,mul_le_mul_right->Ku,lt_or_ge->KG,mul_one->KI,ne_of_gt->K0,mul_pos->K2,pow_zero->K3,pow_pos->K4,sub_self->K6,le_of_dvd->La,dvd_trans->Lb,Coprime->Li,zero_add->Lq,div_add_mod->Lw,le_of_succ_le->Lz,lt_succ_of_lt->LA,lt_succ_self->LJ,strongRecOn->LW,not_lt->L4,add_sub_cancel->L6,mul_div_cancel_left->Mc,le_of_eq->Mi,mul_zero->Mq,gcd_dvd_right->Mv,add_assoc->MR,le_succ->MT,pow_le_pow_right->M3,not_lt_zero->Na,le_of_lt->Nh,dvd_refl->Nk,dvd_of_mul_dvd_mul_left->Nl,zero_mul->Nq,dvd_antisymm->Oa,gcd_dvd_left->Ob,gcd_pos_of_pos_left->Oc,max_eq_right->Of,le_mul_of_pos_right->Og,mod_lt->Ou,gcd->Ov,div_div_eq_div_mul->Ow,sub_zero->OA,div_le_self->OE,pos_of_dvd_of_pos->OH,mul_add->OZ,dvd_gcd->O1,one_dvd->O2,mul_le_mul->O3,mul_le_mul_left->PB,mul_div_cancel->PY,succ_mul->Qr,div_add_mod'->QJ,div_eq_of_lt->QK,min_le_right->QM,one_mul->QT,one_pos->QU,div_one->QW,min_le_left->Rc,mod_le->RB,add_zero->Sn,le_total->So,pow_one->SR
open Nat.Coprime renaming dvd_of_dvd_mul_right->Mu,pow_left->MW,coprime_dvd_right->MX,coprime_dvd_left->M8,mul_dvd_of_dvd_of_dvd->P4,mul_left->SW
open Ne renaming symm->IJ
open Option renaming some->GZ,map_eq_some_iff->Hj,join->KN,isSome_iff_exists->K9,isSome_map->Mp,bind_some->MK,isSome_some->PV,getD_none->QA,map_some->Q8,map->Rq,none->SK
open Option.some renaming inj->Ja,injEq->Ql
open Or renaming inl->HL,inr->MJ
open PyProof.Rows renaming wpS_pure->Hv,wpS_bind->HF,Keyed->HJ,SortSt->IE,wpS_forRange->JA,callWith_type1->JW,assignInOrder_cons->KO,wpS_mono->KS,IntsAre->Ly,slot_tupleiter_next->LP,boot_sorted->LU,slot_tuple_getitem->LZ,AllBare->Ng,wpS_modify->NF,assignInOrder_nil->NM,assign_Name->N5,wpS_lift->Oe,Subscript_->Om,subscriptTail_builtinR->Oo,slicePart_none->OV,entry_tupleiter_next->O5,wpS_reverse->Pe,args_tupleiter_next->Px,unpackItems_tuple->P9,callWith_builtin1->Qz,entry_list_sort->Ra,iadd_int->Rf,slot_list_sort->Rz,args_list_sort->RA,zipApart_new->RM,listUpdate_at->Se,tail_any->SG,K_mirror->SY
open PySem renaming Value->G2,wpAny_bind->G3,Shared->G5,Addr->G6,wpAny_pure->G8,Program->Hq,PyData->Hy,Str->HA,World->HU,Around->HX,Expr->Ik,Heap->Ip,boot_len->Ir,wpAny_mono->IK,wpAny_field->Jp,wpAny_newObj_type->Ju,wpAny_loadPart_at->Jv,wpAny_callSpecial?_slot->JE,FuncData->JF,wpAny_standAt->JX,wpAny_holding->JZ,Scope->Kf,Builtin->Kj,Obj->Kl,wpAny_Call_Name_kw->Km,wpAny_call_entry->Ko,wpAny_typeNameOfWhole_keyiter->Kv,mem_of_lookup->KC,IsPair->KW,wpAny_passesOwn->KY,codeAny_mono->K1,wpAny_dictEntries->K5,Pos->K8,Stmt->Le,wpAny_setField->Lf,wpAny_seqItems->Lg,wpAny_rule->Ll,tupleKind_room_in1->Lr,wpAny_execs_nil->Lu,wpAny_bindName->LD,NameKind->LH,wpAny_isSubtype_exc->LN,wpAny_comprehension_free->LR,sizeLine_eq->L9,wpAny_truthy_bool->Me,plainObj_wpAny_Assign_Attribute->Mz,Env->MA,DictEntry->MI,wpAny_attempt->MQ,codeAny_call_builtin->MV,wpAny_call->Ny,call_meets->NA,wpAny_setField_rec->NC,slot_list_getitem->NP,evalPart_none->N0,wpAny_getItem_list_slice->N1,wpAny_onRaise->N3,ExceptHandler->N4,wpAny_execs_cons->N6,wpAny_dictEpoch->OD,wpAny_isTrue_Compare1->OF,exec_Assign_Name_used->OI,wpAny_notOrdered_dict->OK,wpAny_isOneOf_keyiter->OL,GenState->OR,wpAny_loadName_local->OS,Operator->OT,wpAny_loadPart->OU,wpAny_updateSeq_pair->O6,wpAny_letGo->O7,Sem->Pj,Keyword->Pl,wpAny_loadName_cell->Pn,wpAt_of_wpAny->Pp,wpAny_raiseNew_none->Pt,Comprehension->PD,wpAny_newList->PF,Paired->PM,wpAny_pyIter_tuple->PN,Result->PQ,Within->P5,Model->P6,wpAny_Assign_Name->P8,wpAny_pyIter_list->Qa,BindsTo->Qi,wpAny_pyIter_enum->Qm,IsZip->Qn,wpAny_lookBehind->Qx,pastItsLine_dict->Qy,wpAny_madeBy_exc->QD,wpAny_Dict_empty->QE,wpAny_isInstance->QF,wpAny_pyIter_zip->QH,wpAny_Slice->QQ,exec_Assign_arm->QX,codeAny_of_tree->Q2,pushCells_keeps->Q3,wpAt_bind->Q4,size_of_entries->Q6,wpAny_Name->Rh,IsPart->Rj,call->Rk,wpAny_fieldsOf->Rp,intBits_le_64->RS,ClassData->Si,OsState->Sl,newExc->Ss,Drawn->Sy,CmpOp->Sz,ZipApart->SV,Params->Tp,Meets->Tu
open PySem.Around renaming under->Oj
open PySem.Builtin.Dict renaming takeOut->O8,keyAndDefault->Ro,dictSlotNone->RP,pendingCount->RQ,showsAll->Su
open PySem.Builtin.Slice renaming sliceAdjust->Kk,slicePlaces->LK,sliceApplied->ND,slicePartIndex->Q1,sliceFields->RN
open PySem.Builtin.SmallTypes renaming nextOf->JM
open PySem.Builtin.Tuple renaming tupleExact->Lc,tupleItemsOf->Rn
open PySem.Calls renaming call_function_entry->LL,Name_function_global->Nv,callWith_builtin->Oq,evalArgs_plain->OW,spliced_cons->PU,spliced_nil->Qh
open PySem.Code renaming isFrame->Ol,quiet_builtin->PX,frames->QO,isCreation->Q0,isCaller->R7,isGuard->Sj,weight->SE
open PySem.EqMixed renaming eq_bool_str->RF,eq_str_bool->RG,ne_bool_str->RK,ne_str_bool->RL,eq_int_str->RW,eq_str_int->RY,ne_int_str->R3,ne_str_int->R5
open PySem.EqNone renaming eq_none_none->RC,eq_none_bool->RD,eq_bool_none->RE,ne_none_none->RH,ne_none_bool->RI,ne_bool_none->RJ,eq_none_int->RT,eq_none_str->RU,eq_int_none->RV,eq_str_none->RX,ne_none_int->RZ,ne_none_str->R0,ne_int_none->R1,ne_str_none->R4
open PySem.F renaming slot_dict_keyiterator_next->JS,excBase_ValueError->J5,plainAttrs_list->Kx,slot_list_append->Kz,args_dict_keyiterator_next_1->MM,entry_dict_keyiterator_next->MY,slot_zip_next->M6,slot_dict_pop->OJ,slot_list_index->Pf,args_zip_next_1->Qo,entry_zip_next->QG,slot_dict_iter->QI,slot_dict_len->Q7
open PySem.Heap renaming get?_push_of_some->G7,lt_size->Hn,get?_push_size->Hs,get?_update_other->Ih,size_push->IM,get?_update_self->IP,SameBut->JK,size_update->ML,ExtBut->O4,get?_push_ne->Qq
open PySem.Heap.IsSliceOf renaming new->Nz
open PySem.Heap.SameBut renaming update->KD
open PySem.Obj renaming mapFields->JJ,data_mapFields->Ln,dropNameByArray->LO,isFreed_of_fields->MB,mapSeq->MH,dropName_eq->M4,data_mapDictKeys->O9
open PySem.Paired renaming length->LQ,snoc->SU
open PySem.PassesOwn renaming never->HC
open PySem.PyData renaming canLayAll0->IQ,eqv->JH,int->J6,depthAll->Kh,eqvAll->KL,depth->Mr,canLay0->Ms,tuple->Sr
open PySem.PyData.int renaming injEq->MN
open PySem.PyData.tuple renaming injEq->L7
open PySem.SeqAt renaming readOf->Oz,EqAt->Tj
open PySem.SeqAt.EqAt renaming int_str->PJ,str_int->PK,none_bool->SH,bool_none->SI,bool_bool->SJ,none_int->Ta,none_str->Tb,bool_int->Tc,bool_str->Td,int_none->Te,int_bool->Tf,str_none->Tg,str_bool->Th,int_int->Tn,str_str->To,same->Tz
open PySem.Str renaming ofString->Np,empty->Sh
open PySem.Value renaming ref->HR,none->J3,bool->K7,int->L8,str->Ph,type->PL,float->QN,isStr->QR,isStrOf->RR,isInt->Sw,bytes->Sx
open PySem.W renaming Frag->G1,mg_none_of->IS,kia_one->Jr,fnOf->JD,emptyDict->JO,mg_of->JY,findIn->J4,keepIn->Kt,instObj->Ky,callWith_K->Lm,InstAt->Mf,cellsFrom_some->Mj,codeIn->Mm,looks_findIn->Mx,plainGet->MF,looks_mroIn->MU,plainGet_of->Nb,lookIn->Nx,methodObj->NL,hasDictIn->NN,kitx_list->NO,OpenLaw->Oi,takerIn->OB,methodCall_KW->OG,looks_clsIn->Pk,callWith_K0->Po,kitx_tuple->PR,isFn->Qb,plainOver->Qc,set_plain->Qd,kitx_dict->Qg,handedIn->Qw,findObj_own->QY,makesIn->QZ,WalkO->Rg,kitOne->Ri,kIn_of->Rl,mroIn->R6,ke_canLayAll0->R9,nsIn->Sk,Looks->SN
open PySem.W.Looks renaming here->MG
open Sum renaming inl->Jk,inr->Lj
open Sum.inl renaming inj->NK
theorem Z0 (h:True:=by rfl):True:=⟨⟩
theorem Z1 (h:True:=by decide):True:=⟨⟩
theorem Z2 (h:True:=by first | exact .inl rfl | exact .inr rfl | assumption):True:=⟨⟩
theorem Z3 (h:True:=by exact rfl):True:=⟨⟩
theorem Z4 (h:True:=by intro _;rfl):True:=⟨⟩
theorem Z5 (h:True:=by decide +kernel):True:=⟨⟩
theorem Z6 (h:True:=by k_is):True:=⟨⟩
noncomputable section
namespace L2
open PySem PySem.Spec PyProof.Rows
abbrev Key:=Sum Int HA
noncomputable def nK:Key->G2->Bool
 | .inl k,v=>Sw k v
 | .inr x,v=>RR x v
noncomputable def FU (w:HU):Key->Int
 | .inl k=>hashInt k
 | .inr x=>hashStr w x
theorem bD:∀{k:Key} {v:G2},nK k v=true->(∃ i t,k=Jk i/\v=L8 i t)∨(∃ x t,k=Lj x/\v=Ph x t)
 | .inl i,v,h=>by obtain⟨t,e⟩:=Value.isInt_shape (k:=i) (v:=v) h;exact .inl ⟨i,t,rfl,e⟩
 | .inr x,v,h=>by obtain⟨t,e⟩:=Value.isStrOf_shape (x:=x) (v:=v) h;exact .inr ⟨x,t,rfl,e⟩
theorem vZ (i:Int) (t:Tok):nK (.inl i) (.int i t)=true:=by simp [nK,Sw]
theorem v3 (x:HA) (t:Tok):nK (.inr x) (.str x t)=true:=by simp [nK,RR]
theorem Dm (a b:Int):decide ((Jk a:Key)=Jk b)=(a==b):=by
 by_cases e:a=b
 ·subst e;simp
 ·have h:¬(Jk a:Key)=Jk b:=λq=>e (NK q);rw [decide_eq_false h];exact (beq_eq_false_iff_ne.mpr e).symm
theorem Dr (a b:HA):decide ((Lj a:Key)=Lj b)=decide (a=b):=by
 by_cases e:a=b
 ·subst e;simp
 ·have h:¬(Lj a:Key)=Lj b:=λq=>e (Sum.inr.inj q);rw [decide_eq_false h,decide_eq_false e]
theorem Dp (a:Int) (b:HA):decide ((Jk a:Key)=Lj b)=false:=decide_eq_false (λq=>nomatch q)
theorem Dq (a:HA) (b:Int):decide ((Lj a:Key)=Jk b)=false:=decide_eq_false (λq=>nomatch q)
noncomputable def bH (prog:Hq) (w:HU):PySem.KeyKind prog w Key where
 is:=nK
 hash:=FU w
 inj:=λv a b ha hb=>by
  rcases bD ha with⟨i,t,rfl,rfl⟩|⟨x,t,rfl,rfl⟩
  ·rcases bD hb with⟨j,u,rfl,e⟩|⟨y,u,rfl,e⟩
   ·injection e with e1 _;rw [e1]
   ·exact nomatch e
  ·rcases bD hb with⟨j,u,rfl,e⟩|⟨y,u,rfl,e⟩
   ·exact nomatch e
   ·injection e with e1 _;rw [e1]
 byValue:=λk v h=>by rcases bD h with⟨i,t,rfl,rfl⟩|⟨x,t,rfl,rfl⟩<;>rfl
 pyHash:=λhv h=>by
  rcases bD hv with⟨i,t,rfl,rfl⟩|⟨x,t,rfl,rfl⟩
  ·exact wpAny_pyHash_int h
  ·exact wpAny_pyHash_str h
 eqBool:=λhu hv h=>by
  rcases bD hu with⟨i,t,rfl,rfl⟩|⟨x,t,rfl,rfl⟩
  ·rcases bD hv with⟨j,u,rfl,rfl⟩|⟨y,u,rfl,rfl⟩
   ·rw [Dm] at h;exact wpAny_eqBool_int h
   ·rw [Dp] at h;exact PJ i t y u _ _ _ _ h
  ·rcases bD hv with⟨j,u,rfl,rfl⟩|⟨y,u,rfl,rfl⟩
   ·rw [Dq] at h;exact PK x t j u _ _ _ _ h
   ·rw [Dr] at h;exact wpAny_eqBool_str h
 «strs»:=λk x t v h=>by
  rcases bD h with⟨i,u,rfl,e⟩|⟨y,u,rfl,e⟩
  ·exact nomatch e
  ·injection e with e1 _
   subst e1;cases v<;>rfl
theorem ro (prog:Hq) (w:HU) (i:Int) (t:Tok):(bH prog w).is (.inl i) (.int i t)=true:=vZ i t
theorem rq (prog:Hq) (w:HU) (x:HA) (t:Tok):(bH prog w).is (.inr x) (.str x t)=true:=v3 x t
inductive V where
 | non | bl (b:Bool) | int (i:Int) | str (x:HA) | byt (b:Array UInt8) | flt (b:UInt64) | ref (a:G6) | ty (n:String)
 deriving DecidableEq
def RelV:V->G2->Prop
 | .non,u=>u=J3
 | .bl b,u=>u=K7 b
 | .int i,u=>∃ t,u=L8 i t
 | .str x,u=>∃ t,u=Ph x t
 | .byt b,u=>∃ t,u=Sx b t
 | .flt b,u=>∃ t,u=QN b t
 | .ref a,u=>u=HR a
 | .ty n,u=>u=PL n
abbrev Vals:List V->List G2->Prop:=PM RelV
theorem Vals.length {xs:List V} {us:List G2} (r:Vals xs us):xs.length=us.length:=LQ r
theorem Vals.get:∀{xs:List V} {us:List G2} {i:Nat} {x:V},Vals xs us->xs[i]?=GZ x->∃ u,us[i]?=GZ u/\RelV x u
 | _,_,_,_,.nil,e=>by simp at e
 | _,_,0,_,.cons r _,e=>by simp at e;subst e;exact⟨_,rfl,r⟩
 | _,_,i+1,x,.cons _ t,e=>by obtain⟨u,h1,h2⟩:=Vals.get (i:=i) (x:=x) t (by simpa using e);exact⟨u,by simpa using h1,h2⟩
theorem Vals.append:∀{xs ys:List V} {us ws:List G2},Vals xs us->Vals ys ws->Vals (xs++ys) (us++ws)
 | _,_,_,_,.nil,s=>s
 | _,_,_,_,.cons r t,s=>.cons r (Vals.append t s)
theorem Vals.take:∀{xs:List V} {us:List G2} (n:Nat),Vals xs us->Vals (xs.take n) (us.take n)
 | _,_,0,_=>.nil
 | _,_,_+1,.nil=>.nil
 | _,_,n+1,.cons r t=>.cons r (Vals.take n t)
theorem Vals.drop:∀{xs:List V} {us:List G2} (n:Nat),Vals xs us->Vals (xs.drop n) (us.drop n)
 | _,_,0,r=>r
 | _,_,_+1,.nil=>.nil
 | _,_,n+1,.cons _ t=>Vals.drop n t
def eh:Option V->Option G2->Prop
 | some v,GZ u=>RelV v u
 | none,none=>True
 | _,_=>False
def KV {κ:Type}:List (κ × V)->List (κ × G2)->Prop:=PM fun(p:κ × V) (q:κ × G2)=>p.1=q.1/\RelV p.2 q.2
noncomputable def kV:Key->V
 | .inl i=>.int i
 | .inr x=>.str x
inductive HO where
  | lst (xs:List V)
  | tup (xs:List V)
  | dK (kvs:List (Key × V)) | dT (kvs:List (List Key × V))
  | set (S:Int->Bool) (n:Nat)
  | ins (C dx:G6) (fs:List (HA × V))
  | own (x:G6)
  | xd (fs:List (HA × V))
  | met (f x:G6)
  | rng (lo hi:Int)
  | frz (o:Kl) (u:HO)
  | tbl (ps:Array G2)
  | ext (φ:Ip->Prop)
abbrev Hp:=G6->Option HO
noncomputable def upd (H:Hp) (a:G6) (o:HO):Hp:=λb=>if b=a then GZ o else H b
theorem ag {H:Hp} {a:G6} {o:HO}:upd H a o a=GZ o:=by unfold upd;rw [if_pos rfl]
theorem ao {H:Hp} {a b:G6} {o:HO} (h:b≠a):upd H a o b=H b:=by unfold upd;rw [if_neg h]
theorem vz {H:Hp} {a:G6} {o u:HO}:upd (upd H a o) a u=upd H a u:=by funext b;unfold upd;split<;>rfl
theorem kg {H:Hp} {a b:G6} {o u:HO} (h:H a=GZ o) (h':H b=GZ u) (d:o≠u):a≠b:=by intro e;subst e;rw [h] at h';exact d (Ja h')
theorem bz {H:Hp} {a b:G6} {o:HO} (h:H a=GZ o) (h':H b=none):a≠b:=by intro e;subst e;rw [h] at h';cases h'
section
variable (P:Hq) (w:HU)
def br (H:Hp) (h:Ip) (a:G6):HO->Prop
 | .lst xs=>xs.length<=sizeLine/\∃(its:List G2) (n:Nat),Vals xs its/\h.get? a=GZ { cls:=.type "list",data:=.seq its.toArray n }
 | .tup xs=>xs.length<=sizeLine/\∃ its:List G2,Vals xs its/\IsTup h a its.toArray
 | .dK kvs=>kvs.length<=sizeLine/\(a==sysModules)=false/\∃ vs,KV kvs vs/\h.DictOf (bH P w) a vs
 | .dT kvs=>kvs.length<=sizeLine/\(a==sysModules)=false/\∃ xs:List (List Key × G6 × G2),
   PM (fun(p:List Key × V) (q:List Key × G6 × G2)=>p.1=q.1/\H q.2.1=GZ (.tup (p.1.map kV))/\RelV p.2 q.2.2) kvs xs /\
   ∃ o es ep,h.get? a=GZ o/\o.ExactDict/\o.data=.dict es ep/\es.toList=xs.map (entryOfKey (tupleKind (bH P w)))/\(xs.map (·.1)).Nodup
 | .set S n=>h.SetOf (intKind P w) a S n
 | .ins C dx fs=>H dx=GZ (.own a)/\fs.length<=1000/\dx≠a/\h.get? a=GZ (Ky C dx) /\
   ∃ mA,h.Ns1 dx mA/\(∀ f,eh (fs.lookup f) (mA f))/\P5 mA (fs.map (·.1))
 | .own _=>∃ o,h.get? a=GZ o
 | .xd fs=>∃ mA,h.Ns1 a mA/\∀ f,eh (fs.lookup f) (mA f)
 | .rng lo hi=>∃ t u v,h.get? a=GZ { cls:=.type "range",data:=.fields #[.int lo t,.int hi u,.int 1 v] }
 | .frz o u=>h.get? a=GZ o/\br H h a u
 | .tbl ps=>h.get? a=GZ { cls:=.none,data:=.fields ps }
 | .met f x=>h.get? a=GZ (NL (.ref f) (.ref x))
 | .ext φ=>φ h/\(∃ o,h.get? a=GZ o)/\∀ h1 h2:Ip,φ h1->(∀ o,h1.get? a=GZ o->h2.get? a=GZ o)->φ h2
def fJ (H:Hp) (h:Ip):Prop:=∀ a o,H a=GZ o->br P w H h a o
end
section
variable {P:Hq} {w:HU} {H H':Hp} {h h':Ip} {a:G6} {o:HO}
theorem br.lt (x:br P w H h a o):a<h.objs.size:=by
 cases o with
 | lst xs=>obtain⟨_,_,_,_,e⟩:=x;exact Hn e
 | tup xs=>obtain⟨_,_,_,p⟩:=x;exact p.lt
 | dK kvs=>obtain⟨_,_,_,_,o,_,_,e,_⟩:=x;exact Hn e
 | dT kvs=>obtain⟨_,_,_,_,o,_,_,e,_⟩:=x;exact Hn e
 | set S n=>obtain⟨o,_,_,_,e,_⟩:=x;exact Hn e
 | ins C dx fs=>obtain⟨_,_,_,e,_⟩:=x;exact Hn e
 | own y=>obtain⟨_,e⟩:=x;exact Hn e
 | xd fs=>obtain⟨_,⟨_,_,_,e,_⟩,_⟩:=x;exact Hn e
 | rng lo hi=>obtain⟨_,_,_,e⟩:=x;exact Hn e
 | frz ob u=>obtain⟨e,_⟩:=x;exact Hn e
 | tbl ps=>exact Hn (show h.get? a=GZ _ from x)
 | met f y=>exact Hn (show h.get? a=GZ _ from x)
 | ext φ=>obtain⟨_,⟨_,e⟩,_⟩:=x;exact Hn e
theorem Paired.Dw {α β:Type} {F G:α->β->Prop}:∀{l₁:List α} {l₂:List β},PM F l₁ l₂->(∀ a b,F a b->G a b)->PM G l₁ l₂
 | _,_,.nil,_=>.nil
 | _,_,.cons r t,f=>.cons (f _ _ r) (Paired.Dw t f)
theorem br.gK (x:br P w H h a o) (k:∀ b u,(b=a∨H b=GZ (.own a))->h.get? b=GZ u->h'.get? b=GZ u)
  (ho:∀ b,H b=GZ (.own a)->H' b=GZ (.own a)) (ht:∀ b xs,H b=GZ (.tup xs)->H' b=GZ (.tup xs)):br P w H' h' a o:=by
 induction o with
 | lst xs=>obtain⟨z,its,n,r,e⟩:=x;exact⟨z,its,n,r,k _ _ (.inl rfl) e⟩
 | tup xs=>obtain⟨z,its,r,ob,e,c⟩:=x;exact⟨z,its,r,ob,k _ _ (.inl rfl) e,c⟩
 | dK kvs=>obtain⟨z,y,vs,r,ob,es,ep,e,c⟩:=x;exact⟨z,y,vs,r,ob,es,ep,k _ _ (.inl rfl) e,c⟩
 | dT kvs =>obtain⟨z,y,xs,r,ob,es,ep,e,c⟩:=x;exact⟨z,y,xs,Paired.Dw r λp q z=>⟨z.1,ht _ _ z.2.1,z.2.2⟩,ob,es,ep,k _ _ (.inl rfl) e,c⟩
 | set S n=>obtain⟨ob,es,ep,t,e,c⟩:=x;exact⟨ob,es,ep,t,k _ _ (.inl rfl) e,c⟩
 | ins C dx fs =>obtain⟨d,z,ne,e,mA,⟨od,es,ep,e2,c⟩,r⟩:=x;exact⟨ho _ d,z,ne,k _ _ (.inl rfl) e,mA,⟨od,es,ep,k _ _ (.inr d) e2,c⟩,r⟩
 | own y=>obtain⟨ob,e⟩:=x;exact⟨ob,k _ _ (.inl rfl) e⟩
 | xd fs=>obtain⟨mA,⟨od,es,ep,e,c⟩,r⟩:=x;exact⟨mA,⟨od,es,ep,k _ _ (.inl rfl) e,c⟩,r⟩
 | rng lo hi=>obtain⟨t,u,v,e⟩:=x;exact⟨t,u,v,k _ _ (.inl rfl) e⟩
 | frz ob u ih=>obtain⟨e,q⟩:=x;exact⟨k _ _ (.inl rfl) e,ih q⟩
 | tbl ps =>have e:h.get? a=GZ { cls:=.none,data:=.fields ps }:=x;show h'.get? a=GZ { cls:=.none,data:=.fields ps };exact k a _ (.inl rfl) e
 | met f y =>have e:h.get? a=GZ (NL (.ref f) (.ref y)):=x;show h'.get? a=GZ (NL (.ref f) (.ref y));exact k a _ (.inl rfl) e
 | ext φ=>obtain⟨p,⟨o,e⟩,st⟩:=x;exact⟨st _ _ p λo q=>k _ _ (.inl rfl) q,⟨o,k _ _ (.inl rfl) e⟩,st⟩
theorem fJ.lt (x:fJ P w H h) (e:H a=GZ o):a<h.objs.size:=(x a o e).lt
theorem fJ.fresh (x:fJ P w H h) (e:h.objs.size<=a):H a=none:=by
 cases q:H a with
 | none=>rfl
 | some u=>exact absurd (Hr (x.lt q) e) (Jt _)
theorem fJ.kept (x:fJ P w H h) (k:∀ b u,h.get? b=GZ u->h'.get? b=GZ u):fJ P w H h':=λa o e =>(x a o e).gK (λb u _ q=>k b u q) (λ_ q=>q) λ_ _ q=>q
theorem fJ.laid (x:fJ P w H h) (k:∀ b u,h.get? b=GZ u->h'.get? b=GZ u) (hp:h.objs.size<=a) (new:br P w (upd H a o) h' a o):fJ P w (upd H a o) h':=λb u e=>by
 have hn:=x.fresh hp;by_cases hb:b=a
 ·subst hb;rw [ag] at e;cases e;exact new
 ·rw [ao hb] at e;exact (x b u e).gK (λc v _ q=>k c v q) (λc q=>by rw [ao (bz q hn)];exact q) λc xs q=>by rw [ao (bz q hn)];exact q
end
def Rd (H:Hp) (a:G6) (u:HO):Prop:=H a=GZ u∨∃ o,H a=GZ (.frz o u)
theorem Rd.of {H:Hp} {a:G6} {u:HO} (h:H a=GZ u):Rd H a u:=.inl h
theorem Rd.ok {P:Hq} {w:HU} {H:Hp} {h:Ip} {a:G6} {u:HO} (r:Rd H a u) (x:fJ P w H h):br P w H h a u:=by
 rcases r with r | ⟨o,r⟩
 ·exact x a u r
 ·obtain⟨_,q⟩:=x a _ r;exact q
def El:Option HO->Prop
 | some (.lst _)=>True
 | some (.dK _)=>True
 | some (.dT _)=>True
 | some (.set _ _)=>True
 | some (.ins _ _ _)=>True
 | some (.ext _)=>True
 | _=>False
section
variable {P:Hq} {w:HU} {H:Hp} {h h':Ip} {x e:G6} {o':HO}
theorem fJ.write (ok:fJ P w H h) (mu:El (H x)) (he:e=x∨H e=GZ (.own x)) (k:∀ b u,b≠e->h.get? b=GZ u->h'.get? b=GZ u) (heo:∃ u,h'.get? e=GZ u)
  (new:br P w (upd H x o') h' x o'):fJ P w (upd H x o') h':=λb u q=>by
 have nown:∀ c y,H c=GZ (.own y)->c≠x:=λc y r z=>by subst z;rw [r] at mu;exact mu
 have ntup:∀ c xs,H c=GZ (.tup xs)->c≠x:=λc xs r z=>by subst z;rw [r] at mu;exact mu
 by_cases hb:b=x
 ·subst hb;rw [ag] at q;cases q;exact new
 ·rw [ao hb] at q;by_cases hbe:b=e
  ·have q':H b=GZ (.own x):=by
    rcases he with z | z
    ·exact absurd (hbe.trans z) hb
    ·rw [hbe];exact z
   rw [q] at q';cases q';obtain⟨v,hv⟩:=heo;exact⟨v,by rw [hbe];exact hv⟩
  ·refine (ok b u q).gK (λc v hc r=>k c v ?_ r) (λc r=>by rw [ao (nown c b r)];exact r) λc xs r=>by rw [ao (ntup c xs r)];exact r
   rcases hc with rfl | hc
   ·exact hbe
   ·rintro rfl;rcases he with z | z
    ·exact nown c b hc z
    ·rw [hc] at z;cases z;exact hb rfl
end
structure Un (fs ex:List G6) (H H':Hp) (h h':Ip):Prop where
 keep:∀ b o,h.get? b=GZ o->H b=none->b∉fs->b∉ex->h'.get? b=GZ o
 slot:∀ b o,h.get? b=GZ o->H b=none->b∈fs->b∉ex->∃ sl,h'.get? b=GZ { o with slots:=sl }
 free:∀ b o,h.get? b=GZ o->H b=none->b∉ex->H' b=none
 there:∀ b o,h.get? b=GZ o->b∉ex->∃ o',h'.get? b=GZ o'
 tups:∀ b xs,H b=GZ (.tup xs)->H' b=GZ (.tup xs)
 frzs:∀ b o u,H b=GZ (.frz o u)->H' b=GZ (.frz o u)
 tbls:∀ b ps,H b=GZ (.tbl ps)->∃ more,H' b=GZ (.tbl (ps++more))
section
variable {fs fs' ex ex':List G6} {H H1 H2:Hp} {h h1 h2 h':Ip} {a x e:G6} {o:HO}
theorem Un.any (u:Un fs ex H H1 h h1) {b:G6} {ob:Kl} (q:h.get? b=GZ ob) (n:H b=none) (hx:b∉ex):∃ sl,h1.get? b=GZ { ob with slots:=sl }:=by
 by_cases hb:b∈fs
 ·exact u.slot b ob q n hb hx
 ·exact⟨ob.slots,u.keep b ob q n hb hx⟩
theorem Un.trans (a:Un fs ex H H1 h h1) (b:Un fs ex H1 H2 h1 h2):Un fs ex H H2 h h2 where
 keep:=λc ob q n hc hx=>b.keep c ob (a.keep c ob q n hc hx) (a.free c ob q n hx) hc hx
 slot:=λc ob q n hc hx=>by obtain⟨sl,e1⟩:=a.slot c ob q n hc hx;obtain⟨sl',e2⟩:=b.slot c _ e1 (a.free c ob q n hx) hc hx;exact⟨sl',e2⟩
 free:=λc ob q n hx=>by obtain⟨o',e1⟩:=a.there c ob q hx;exact b.free c o' e1 (a.free c ob q n hx) hx
 there:=λc ob q hx=>by obtain⟨o',e1⟩:=a.there c ob q hx;exact b.there c o' e1 hx
 tups:=λc xs q=>b.tups c xs (a.tups c xs q)
 frzs:=λc ob xs q=>b.frzs c ob xs (a.frzs c ob xs q)
 tbls:=λc ps q=>by obtain⟨m1,e1⟩:=a.tbls c ps q;obtain⟨m2,e2⟩:=b.tbls c _ e1;exact⟨m1++m2,by rw [e2,Nu]⟩
theorem Un.kept (k:∀ b u,h.get? b=GZ u->h'.get? b=GZ u):Un fs ex H H h h' :=
 ⟨λb ob q _ _ _=>k b ob q,λb ob q _ _ _=>⟨ob.slots,k b ob q⟩,λ_ _ _ n _=>n,λb ob q _=>⟨ob,k b ob q⟩,λ_ _ q=>q,λ_ _ _ q=>q,λ_ ps q=>⟨#[],by rw [q];simp⟩⟩
theorem Un.refl:Un fs ex H H h h:=Un.kept λ_ _ q=>q
theorem Un.laid (k:∀ b u,h.get? b=GZ u->h'.get? b=GZ u) (hp:h.objs.size<=a) (hn:H a=none):Un fs ex H (upd H a o) h h' where
 keep:=λb u q _ _ _=>k b u q
 slot:=λb u q _ _ _=>⟨u.slots,k b u q⟩
 free:=λb u q n _=>by rw [ao (HP (Hr (Hn q) hp))];exact n
 there:=λb u q _=>⟨u,k b u q⟩
 tups:=λb xs q=>by rw [ao (bz q hn)];exact q
 frzs:=λb u xs q=>by rw [ao (bz q hn)];exact q
 tbls:=λb ps q=>⟨#[],by rw [ao (bz q hn),q];simp⟩
theorem Un.write (mu:El (H x)) (he:e=x∨H e=GZ (.own x)) (k:∀ b u,b≠e->h.get? b=GZ u->h'.get? b=GZ u) (heo:∃ u,h'.get? e=GZ u):Un fs ex H (upd H x o) h h':=by
 have hx:∀ b,H b=none->b≠x:=λb n z=>by subst z;rw [n] at mu;exact mu
 have hb:∀ b,H b=none->b≠e:=λb n z=>by
  subst z;rcases he with r | r
  ·exact hx b n r
  ·rw [n] at r;cases r
 have hm:∀ b u,H b=GZ u->¬El (GZ u)->b≠x:=λb u q nm z=>by subst z;rw [q] at mu;exact nm mu
 refine⟨λb u q n _ _=>k b u (hb b n) q,λb u q n _ _=>⟨u.slots,k b u (hb b n) q⟩,λb u q n _=>by rw [ao (hx b n)];exact n,λb u q _=>?_,
  λb xs q=>by rw [ao (hm b _ q λz=>z)];exact q,λb u xs q=>by rw [ao (hm b _ q λz=>z)];exact q,λb ps q=>⟨#[],by rw [ao (hm b _ q λz=>z),q];simp⟩⟩
 by_cases hbe:b=e
 ·subst hbe;exact heo
 ·exact⟨u,k b u hbe q⟩
theorem Un.mono (u:Un fs ex H H1 h h1) (hs:∀ b∈fs,b∈fs') (hx:∀ b∈ex,b∈ex'):Un fs' ex' H H1 h h1 :=
 ⟨λb ob q n hb he=>u.keep b ob q n (λz=>hb (hs b z)) λz=>he (hx b z),λ_ _ q n _ he=>u.any q n λz=>he (hx _ z),λb ob q n he=>u.free b ob q n λz=>he (hx b z),λb ob q he=>u.there b ob q λz=>he (hx b z),u.tups,u.frzs,u.tbls⟩
end
noncomputable def FA (h:Ip) (H:Hp):List G6:=(IY h.objs.size).filter λa=>(H a).isSome
noncomputable def ph (h:Ip) (H:Hp):Ip:=PySem.W.hideAll h (FA h H)
theorem vT (h:Ip) (H:Hp):(ph h H).objs.size=h.objs.size:=PySem.W.hideAll_size _ _
theorem x6 {h:Ip} {H:Hp} {b:G6} {o:Kl} (e:h.get? b=GZ o) (n:H b=none):(ph h H).get? b=GZ o :=
 PySem.W.hideAll_get _ e λhm=>by have q:(H b).isSome=true:=(IB.mp hm).2;rw [n] at q;simp at q
theorem AZ {h:Ip} {H:Hp} {b:G6} {o:Kl} (e:(ph h H).get? b=GZ o):h.get? b=GZ o/\H b=none:=by
 have e':h.get? b=GZ o:=PySem.W.of_hideAll (FA h H) e;refine⟨e',?_⟩;cases q:H b with
 | none=>rfl
 | some x =>have hm:b∈FA h H:=IB.mpr ⟨IF.mpr (Hn e'),by simp [q]⟩;have z:(ph h H).get? b=none:=PySem.W.hideAll_none (FA h H) hm;rw [z] at e;cases e
noncomputable def Am (g h:Ip) (L:G6):List (G6 × Kl):=(IY h.objs.size).filterMap λa=>if a=L∨(g.get? a).isSome=true then none else (h.get? a).map λo=>(a,o)
noncomputable def rest (g h:Ip) (L d:G6):List (G6 × Kl):=(Am g h L).filter λp=>decide (p.1≠d)
structure Mod (K:G1) (mg:HA->Option G2) (base:Ip):Prop where
 kin:K.In base
 glob:base.Ns mainGlobals mg
 blt:∃ mb,base.Ns builtinsNs mb/\∀ x:HA,x ≠ "__name__"->mb x=bootBuiltins x
 nolimit:base.NoLimit
structure Cx where
 prog:Hq
 w:HU
 K:G1
 mg:HA->Option G2
 base:Ip
 A:HX
 N:List HA
 s₀:G5
 H₀:Hp
 env:MA
 outer:List MA
 stack:List MA
 ex:List G6
 fn:HA->Bool
 calm:Bool
 pn:List (G6 × Kl)
 xe:G2->G5->Prop
noncomputable def fS (l:List MA):List G6:=l.filterMap (·.frame)
noncomputable abbrev Cx.fs (X:Cx):List G6:=fS X.outer
def CV (sc:Kf) (x:HA):Prop:=sc.names.lookup x=GZ .local∨sc.names.lookup x=GZ .cell∨sc.names.lookup x=GZ .free
def Loc (sc:Kf) (x:HA):Prop:=sc.names.lookup x=GZ .local∨sc.names.lookup x=GZ .cell
def Look (env:MA) (h:Ip) (m:HA->Option G2) (x:HA) (u:G2):Prop :=
 (env.kindOf x=GZ .local/\m x=GZ u)∨((env.kindOf x=GZ .cell∨env.kindOf x=GZ .free)/\∃ c,env.cells.lookup x=GZ c/\h.IsCell c (GZ u))
structure Cx.Ok (X:Cx):Prop where
 mod:Mod X.K X.mg X.base
 kind:X.env.scope.kind=.function
 glob:X.env.globals=mainGlobals
 blt:X.env.builtins=builtinsNs
 above:X.s₀.heap.objs.size<=X.env.locals
 inj:∀ x y c,X.env.cells.lookup x=GZ c->X.env.cells.lookup y=GZ c->x=y
 has:∀ x,(X.env.kindOf x=GZ .cell∨X.env.kindOf x=GZ .free)->∃ c,X.env.cells.lookup x=GZ c
 cab:∀ x c,X.fn x=true->X.env.cells.lookup x=GZ c->X.s₀.heap.objs.size<=c
 hd:X.calm=true->X.A.handled=none
 frames:X.A.frames=GZ X.stack
 stk:X.stack=X.outer∨(X.stack=X.env::X.outer/\X.env.frame=GZ X.env.locals)
 exf:∀ b∈X.ex,b≠X.env.locals/\∀ x c,X.env.cells.lookup x=GZ c->c≠b
 bs:∀ b o,X.base.get? b=GZ o->X.s₀.heap.get? b=GZ o/\X.H₀ b=none
 bsz:X.base.objs.size<=X.s₀.heap.objs.size
 noex:∀ b o,X.base.get? b=GZ o->b∉X.ex
 exfs:∀ b∈X.ex,b∉X.fs
 jN:X.s₀.heap.FunFrames X.base X.outer
 frf:∀ b∈X.fs,X.H₀ b=none
structure Inv (X:Cx) (pins:List (G6 × Kl)) (σ:List (Option V)) (H:Hp) (s:G5):Prop where
 ok:X.Ok
 os:s.os=X.s₀.os
 bare:Ng s.gens
 base:Un X.fs X.ex X.H₀ H X.s₀.heap s.heap
 loc:∃ m,s.heap.Ns X.env.locals m/\∀(i:Nat) (x:HA) (v:V),X.N[i]?=GZ x->σ[i]?=GZ (GZ v)->CV X.env.scope x->∃ u,RelV v u/\Look X.env s.heap m x u
 cell:∀ x c,X.env.cells.lookup x=GZ c->∃ v,s.heap.IsCell c v
 free:H X.env.locals=none
 freeC:∀ x c,X.env.cells.lookup x=GZ c->H c=none
 pin:∀ p∈X.pn++pins,s.heap.get? p.1=GZ p.2/\H p.1=none/\p.1≠X.env.locals/\p.1∉X.fs/\∀ v,p.2.data≠.cell v
 hok:fJ X.prog X.w H s.heap
 len:σ.length=X.N.length
section
variable {X:Cx} {pins:List (G6 × Kl)} {σ:List (Option V)} {H H':Hp} {s:G5} {h':Ip}
theorem Cx.Ok.FZ (ok:X.Ok) {b:G6} {o:Kl} (e:X.base.get? b=GZ o):b∉X.fs:=λhb=>by have:=(ok.jN.mem hb).1;rw [e] at this;cases this
theorem Inv.bs (I:Inv X pins σ H s):∀ b o,X.base.get? b=GZ o->s.heap.get? b=GZ o/\H b=none:=λb o e =>⟨I.base.keep b o (I.ok.bs b o e).1 (I.ok.bs b o e).2 (I.ok.FZ e) (I.ok.noex b o e),I.base.free b o (I.ok.bs b o e).1 (I.ok.bs b o e).2 (I.ok.noex b o e)⟩
theorem Inv.bk (I:Inv X pins σ H s):∀ b o,X.base.get? b=GZ o->s.heap.get? b=GZ o:=λb o e=>(I.bs b o e).1
theorem Inv.mod (I:Inv X pins σ H s):Mod X.K X.mg X.base:=I.ok.mod
theorem Inv.eX (I:Inv X pins σ H s):X.K.In s.heap:=I.ok.mod.kin.keeps I.bk
theorem Inv.fr (I:Inv X pins σ H s):∃ m,Fr X.base X.env.locals s.heap m :=
 let ⟨m,hn,_⟩:=I.loc
 ⟨m,hn,I.bk,Hg I.ok.bsz I.ok.above⟩
theorem Inv.lt (I:Inv X pins σ H s):X.env.locals<s.heap.objs.size:=let ⟨_,hn,_⟩:=I.loc;hn.lt
theorem Inv.sz (I:Inv X pins σ H s):X.s₀.heap.objs.size<=s.heap.objs.size:=Hg I.ok.above (Nh I.lt)
theorem Inv.yy (I:Inv X pins σ H s) {a:G6} (h:s.heap.objs.size<=a):a∉X.fs:=λhb=>by obtain⟨_,o,ho,_⟩:=I.ok.jN.mem hb;exact absurd (Hr (Hn ho) (Hg I.sz h)) (Jt _)
theorem Inv.xw (I:Inv X pins σ H s):∀ x c,X.env.cells.lookup x=GZ c->c≠X.env.locals:=λx c e z=>by obtain⟨v,o,ho,hd⟩:=I.cell x c e;obtain⟨m,⟨o',es,ep,ho',hd',_⟩,_⟩:=I.loc;rw [z,ho'] at ho;cases ho;rw [hd'] at hd;cases hd
theorem Inv.jN (I:Inv X pins σ H s):s.heap.FunFrames X.base X.outer:=by
 have all:∀(l:List MA),(∀ b∈fS l,b∈X.fs)->X.s₀.heap.FunFrames X.base l->s.heap.FunFrames X.base l:=by
  intro l
  induction l with
  | nil=>intro _ _;trivial
  | cons env r ih =>intro hs hl;obtain⟨hk,⟨L,o,hf,hn,ho,hd⟩,hr⟩:=hl;have hL:L∈X.fs:=hs L (by unfold fS;rw [Kc,hf];exact Hi);obtain⟨sl,e⟩:=I.base.slot L o ho (I.ok.frf L hL) hL λz=>I.ok.exfs L z hL;exact⟨hk,⟨L,_,hf,hn,e,hd⟩,ih (λb hb=>hs b (by unfold fS;rw [Kc,hf];exact Ha _ hb)) hr⟩
 exact all X.outer (λ_ hb=>hb) I.ok.jN
theorem Inv.stack (I:Inv X pins σ H s):s.heap.FunFrames X.base X.stack:=by
 rcases I.ok.stk with e | ⟨e,hf⟩
 ·rw [e];exact I.jN
 ·rw [e];obtain⟨m,hn,_⟩:=I.loc;refine .cons (by rw [I.ok.kind];decide) hf hn ?_ I.jN;exact Heap.get?_none_of_le (Hg I.ok.bsz I.ok.above)
theorem Inv.gL (I:Inv X pins σ H s):∀ b∈fS X.stack,b∈X.env.locals::X.fs:=λb hb=>by
 rcases I.ok.stk with e | ⟨e,hf⟩
 ·rw [e] at hb;exact Ha _ hb
 ·rw [e] at hb;unfold fS at hb;rw [Kc,hf] at hb;exact hb
theorem Inv.fG (I:Inv X pins σ H s):∀ b∈fS X.stack,H b=none:=λb hb=>by
 rcases Hw.mp (I.gL b hb) with e | hb
 ·rw [e];exact I.free
 ·obtain⟨_,o,ho,_⟩:=I.ok.jN.mem hb;exact I.base.free b o ho (I.ok.frf b hb) λz=>I.ok.exfs b z hb
theorem Inv.step {g':Array OR} {t':Nat} {d':Sy} {ch:List G6} (I:Inv X pins σ H s)
  (hch:∀ b∈ch,(b∈X.ex∨X.s₀.heap.objs.size<=b)/\b≠X.env.locals/\(∀ x c,X.env.cells.lookup x=GZ c->c≠b)/\∀ p∈X.pn++pins,p.1≠b)
  (keep:∀ b o,b≠X.env.locals->b∉X.fs->b∉ch->s.heap.get? b=GZ o->H b=none->h'.get? b=GZ o)
  (slot:∀ b o,b≠X.env.locals->b∈X.fs->b∉ch->s.heap.get? b=GZ o->H b=none->∃ sl,h'.get? b=GZ { o with slots:=sl }) (free:∀ b o,b∉ch->s.heap.get? b=GZ o->H b=none->H' b=none)
  (there:∀ b o,b∉ch->s.heap.get? b=GZ o->∃ o',h'.get? b=GZ o')
  (tups:∀ b xs,H b=GZ (.tup xs)->H' b=GZ (.tup xs)) (frzs:∀ b o u,H b=GZ (.frz o u)->H' b=GZ (.frz o u)) (tbls:∀ b ps,H b=GZ (.tbl ps)->∃ more,H' b=GZ (.tbl (ps++more)))
  (ns:∀ m,s.heap.Ns X.env.locals m->h'.Ns X.env.locals m) (hok:fJ X.prog X.w H' h') (hg:Ng g') :
  Inv X pins σ H' { s with heap:=h',gens:=g',drawn:=d',toks:=t' }:=by
 have neL:∀ b o,X.s₀.heap.get? b=GZ o->b≠X.env.locals:=λb o e=>HP (Hr (Hn e) I.ok.above);have neC:∀ b o,X.s₀.heap.get? b=GZ o->b∉X.ex->b∉ch:=λb o e hx hb=>by
  rcases (hch b hb).1 with z | z
  ·exact hx z
  ·exact absurd (Hr (Hn e) z) (Jt _)
 have cellK:∀ x c,X.env.cells.lookup x=GZ c->∀ v,s.heap.IsCell c v->h'.IsCell c v:=λx c e v ⟨o,ho,hd⟩=>by
  have nch:c∉ch:=λz=>(hch c z).2.2.1 x c e rfl;by_cases hc:c∈X.fs
  ·obtain⟨sl,q⟩:=slot c o (I.xw x c e) hc nch ho (I.freeC x c e);exact⟨_,q,hd⟩
  ·exact⟨o,keep c o (I.xw x c e) hc nch ho (I.freeC x c e),hd⟩
 refine⟨I.ok,I.os,hg,⟨λb o e n hb hx=>?_,λb o e n hb hx=>?_,λb o e n hx=>?_,λb o e hx=>?_,λb xs e=>tups b xs (I.base.tups b xs e),λb o xs e=>frzs b o xs (I.base.frzs b o xs e),λb ps e=>?_⟩,?_,λx c e=>?_,?_,λx c e=>?_,λp hp=>?_,hok,I.len⟩
 ·exact keep b o (neL b o e) hb (neC b o e hx) (I.base.keep b o e n hb hx) (I.base.free b o e n hx)
 ·obtain⟨sl,e1⟩:=I.base.slot b o e n hb hx;obtain⟨sl',e2⟩:=slot b _ (neL b o e) hb (neC b o e hx) e1 (I.base.free b o e n hx);exact⟨sl',e2⟩
 ·obtain⟨o',e1⟩:=I.base.there b o e hx;exact free b o' (neC b o e hx) e1 (I.base.free b o e n hx)
 ·obtain⟨o',e1⟩:=I.base.there b o e hx;exact there b o' (neC b o e hx) e1
 ·obtain⟨m1,e1⟩:=I.base.tbls b ps e;obtain⟨m2,e2⟩:=tbls b _ e1;exact⟨m1++m2,by rw [e2,Nu]⟩
 ·obtain⟨m,hn,hl⟩:=I.loc;refine⟨m,ns m hn,λi x v e1 e2 e3=>?_⟩;obtain⟨u,r,l⟩:=hl i x v e1 e2 e3;refine⟨u,r,?_⟩;rcases l with l | ⟨k,c,e,z⟩
  ·exact .inl l
  ·exact .inr ⟨k,c,e,cellK x c e _ z⟩
 ·obtain⟨v,z⟩:=I.cell x c e;exact⟨v,cellK x c e v z⟩
 ·obtain⟨m,⟨o,_,_,ho,_⟩,_⟩:=I.loc;exact free _ o (λz=>(hch _ z).2.1 rfl) ho I.free
 ·obtain⟨v,o,ho,hd⟩:=I.cell x c e;exact free c o (λz=>(hch c z).2.2.1 x c e rfl) ho (I.freeC x c e)
 ·obtain⟨e,n,ne,nf,d⟩:=I.pin p hp;have nch:p.1∉ch:=λz=>(hch p.1 z).2.2.2 p hp rfl;exact⟨keep p.1 p.2 ne nf nch e n,free p.1 p.2 nch e n,ne,nf,d⟩
theorem Inv.un {t':Nat} (I:Inv X pins σ H s) (u:Un X.fs [] H H' s.heap h') (hok:fJ X.prog X.w H' h'):Inv X pins σ H' { s with heap:=h',toks:=t' }:=by
 obtain⟨m,⟨o,es,ep,ho,r⟩,_⟩:=id I.loc;obtain⟨sl,hL⟩:=u.any ho I.free (by simp);exact I.step (g':=s.gens) (d':=s.drawn) (ch:=[]) (λ_ z=>nomatch z) (λb o _ hb _ e n=>u.keep b o e n hb (by simp)) (λb o _ hb _ e n=>u.slot b o e n hb (by simp)) (λb o _ e n=>u.free b o e n (by simp)) (λb o _ e=>u.there b o e (by simp)) u.tups u.frzs u.tbls (λm' hm=>by
  obtain⟨o',es',ep',ho',r'⟩:=hm;rw [ho] at ho';cases ho';exact⟨_,es',ep',hL,r'⟩) hok I.bare
theorem Inv.call {g':Array OR} {t':Nat} {d':Sy} {ch:List G6} (I:Inv X pins σ H s) (u:Un (fS X.stack) ch H H' s.heap h') (hok:fJ X.prog X.w H' h') (hg:Ng g')
  (hch:∀ b∈ch,(b∈X.ex∨X.s₀.heap.objs.size<=b)/\b≠X.env.locals/\(∀ x c,X.env.cells.lookup x=GZ c->c≠b)/\∀ p∈X.pn++pins,p.1≠b) :
  Inv X pins σ H' { s with heap:=h',gens:=g',drawn:=d',toks:=t' }:=by
 obtain⟨m,⟨o,es,ep,ho,r⟩,_⟩:=id I.loc;obtain⟨sl,hL⟩:=u.any ho I.free λz=>(hch _ z).2.1 rfl;exact I.step (ch:=ch) hch (λb o hL hb hc e n=>u.keep b o e n (λz=>(Hw.mp (I.gL b z)).elim hL hb) hc) (λb o _ _ hc e n=>u.any e n hc) (λb o hc e n=>u.free b o e n hc) (λb o hc e=>u.there b o e hc) u.tups u.frzs u.tbls (λm' hm=>by
  obtain⟨o',es',ep',ho',r'⟩:=hm;rw [ho] at ho';cases ho';exact⟨_,es',ep',hL,r'⟩) hok hg
theorem Inv.turned {t':Nat} {it:G6} (I:Inv X pins σ H s) (k:∀ b o,b≠it->s.heap.get? b=GZ o->h'.get? b=GZ o) (hn:H it=none) (hL:it≠X.env.locals)
  (h1:it∈X.ex∨X.s₀.heap.objs.size<=it) (h2:∀ x c,X.env.cells.lookup x=GZ c->c≠it) (h3:∀ p∈X.pn++pins,p.1≠it):Inv X pins σ H { s with heap:=h',toks:=t' }:=by
 have nit:∀ b u,H b=GZ u->b≠it:=λb u e z=>by rw [z,hn] at e;cases e
 refine I.step (g':=s.gens) (d':=s.drawn) (ch:=[it]) (λb hb=>?_) (λb o _ _ hc e _=>k b o (λz=>hc (by simp [z])) e) (λb o _ _ hc e _=>⟨o.slots,k b o (λz=>hc (by simp [z])) e⟩) (λ_ _ _ _ n=>n)
  (λb o hc e=>⟨o,k b o (λz=>hc (by simp [z])) e⟩) (λ_ _ e=>e) (λ_ _ _ e=>e) (λb ps e=>⟨#[],by rw [e];simp⟩) (λm hm=>?_) (λb u e=>?_) I.bare
 ·have e:b=it:=by simpa using hb
  subst e;exact⟨h1,hL,h2,h3⟩
 ·obtain⟨o,es,ep,ho,r⟩:=hm;exact⟨o,es,ep,k _ o (IJ hL) ho,r⟩
 ·refine (I.hok b u e).gK (λc v hc q=>k c v ?_ q) (λ_ q=>q) λ_ _ q=>q;rcases hc with z | z
  ·rw [z];exact nit b u e
  ·exact nit c _ z
theorem Inv.tok (I:Inv X pins σ H s) (t:Nat):Inv X pins σ H { s with toks:=t }:=I.un (h':=s.heap) (t':=t) Un.refl I.hok
theorem Inv.kept {t':Nat} (I:Inv X pins σ H s) (k:∀ b u,s.heap.get? b=GZ u->h'.get? b=GZ u):Inv X pins σ H { s with heap:=h',toks:=t' }:=I.un (Un.kept k) (I.hok.kept k)
theorem Inv.laid {a:G6} {o:HO} {t':Nat} (I:Inv X pins σ H s) (k:∀ b u,s.heap.get? b=GZ u->h'.get? b=GZ u) (hp:s.heap.objs.size<=a) (new:br X.prog X.w (upd H a o) h' a o) :
  Inv X pins σ (upd H a o) { s with heap:=h',toks:=t' }:=I.un (Un.laid k hp (I.hok.fresh hp)) (I.hok.laid k hp new)
theorem Inv.write {x e:G6} {o:HO} {t':Nat} (I:Inv X pins σ H s) (mu:El (H x)) (he:e=x∨H e=GZ (.own x)) (k:∀ b u,b≠e->s.heap.get? b=GZ u->h'.get? b=GZ u) (heo:∃ u,h'.get? e=GZ u)
  (new:br X.prog X.w (upd H x o) h' x o):Inv X pins σ (upd H x o) { s with heap:=h',toks:=t' }:=I.un (Un.write mu he k heo) (I.hok.write mu he k heo new)
theorem Inv.weak {σ':List (Option V)} (I:Inv X pins σ H s) (hl:σ'.length=σ.length) (w:∀(i:Nat) v,σ'[i]?=GZ (GZ v)->σ[i]?=GZ (GZ v)):Inv X pins σ' H s :=
 ⟨I.ok,I.os,I.bare,I.base,let ⟨m,hn,hl'⟩:=I.loc;⟨m,hn,λi x v e1 e2 e3=>hl' i x v e1 (w i v e2) e3⟩,I.cell,I.free,I.freeC,I.pin,I.hok,hl.trans I.len⟩
theorem Inv.eG {pins':List (G6 × Kl)} (I:Inv X pins σ H s) (h:∀ p∈pins',s.heap.get? p.1=GZ p.2/\H p.1=none/\p.1≠X.env.locals/\p.1∉X.fs/\∀ v,p.2.data≠.cell v):Inv X pins' σ H s :=
 ⟨I.ok,I.os,I.bare,I.base,I.loc,I.cell,I.free,I.freeC,λp hp=>(IC.mp hp).elim (λz=>I.pin p (JT _ z)) (h p),I.hok,I.len⟩
theorem lR {N:List HA} (hN:N.Nodup) {i j:Nat} {x:HA} (a:N[i]?=GZ x) (b:N[j]?=GZ x):i=j:=by obtain⟨h1,e1⟩:=G9.mp a;obtain⟨h2,e2⟩:=G9.mp b;exact (List.getElem_inj hN).mp (e1.trans e2.symm)
theorem wN {M:P6} {A:HX} {E:G2->G5->Prop} {i:Nat} {x:HA} {v:V} {u:G2} {Q:Unit->G5->Prop} (I:Inv X pins σ H s) (hN:X.N.Nodup) (hi:X.N[i]?=GZ x) (hx:Loc X.env.scope x) (r:RelV v u)
  (h:∀ s',Inv X pins (σ.set i (GZ v)) H s'->(∃ a,JK a s.heap s'.heap/\(a=X.env.locals∨X.env.cells.lookup x=GZ a))->Q () s') (hf:autoParam (X.fn x=true∨X.env.scope.names.lookup x=GZ .local) Z2._auto_1):wpAny M A (storeName X.env x u) Q E s:=by
 obtain⟨m,hn,hl⟩:=id I.loc;have hcls:(X.env.scope.kind==.class || (X.env.scope.kind==.module && X.env.locals != X.env.globals))=false:=by rw [I.ok.kind];rfl
 have hiσ:i<σ.length:=by rw [I.len];exact (G9.mp hi).1
 have xw:=I.xw;have tracked:∀{a:G6} {h':Ip},(∃ o,s.heap.get? a=GZ o/\H a=none)->JK a s.heap h'->fJ X.prog X.w H h':=λ{a h'} ha hs b ob e=>by
  obtain⟨_,_,hfree⟩:=ha;refine (I.hok b ob e).gK (λc w' hc q=>(hs.2 c ?_).trans q) (λ_ q=>q) λ_ _ q=>q;rintro rfl;rcases hc with rfl | hc
  ·rw [hfree] at e;cases e
  ·rw [hfree] at hc;cases hc
 rcases hx with hk | hk
 ·refine wpAny_storeName_local hk hn (λh' hn' hs=>?_) hcls;obtain⟨oL,_,_,hoL,_⟩:=id hn;refine h _ ⟨I.ok,I.os,I.bare,⟨λb o e n hb hx=>?_,λb o e n hb hx=>?_,I.base.free,λb o e hx=>?_,I.base.tups,I.base.frzs,I.base.tbls⟩,⟨_,hn',λj y v' e1 e2 e3=>?_⟩,λy c e=>?_,I.free,I.freeC,λp hp=>?_,tracked ⟨oL,hoL,I.free⟩ hs,by simpa using I.len⟩ ⟨_,hs,.inl rfl⟩
  ·exact (hs.2 b (HP (Hr (Hn e) I.ok.above))).trans (I.base.keep b o e n hb hx)
  ·obtain⟨sl,e1⟩:=I.base.slot b o e n hb hx;exact⟨sl,(hs.2 b (HP (Hr (Hn e) I.ok.above))).trans e1⟩
  ·obtain⟨o',e1⟩:=I.base.there b o e hx;exact⟨o',(hs.2 b (HP (Hr (Hn e) I.ok.above))).trans e1⟩
  ·by_cases hj:j=i
   ·subst hj;rw [hi] at e1;cases e1;rw [Lk hiσ] at e2;cases e2;exact⟨u,r,.inl ⟨hk,by simp⟩⟩
   ·rw [MS (IJ hj)] at e2;obtain⟨u',r',q⟩:=hl j y v' e1 e2 e3;refine⟨u',r',?_⟩;rcases q with⟨k,e⟩|⟨k,c,e,z⟩
    ·refine .inl ⟨k,?_⟩;have:y≠x:=λe=>hj (lR hN e1 (e▸hi));simp [this,e]
    ·exact .inr ⟨k,c,e,z.sameBut hs (xw y c e)⟩
  ·obtain⟨w',z⟩:=I.cell y c e;exact⟨w',z.sameBut hs (xw y c e)⟩
  ·obtain⟨e,n,ne,nf,d⟩:=I.pin p hp;exact⟨(hs.2 p.1 ne).trans e,n,ne,nf,d⟩
 ·have hfn:X.fn x=true:=by
   rcases hf with z | z
   ·exact z
   ·rw [z] at hk;cases hk
  obtain⟨c,hc⟩:=I.ok.has x (.inl hk);obtain⟨w',z⟩:=I.cell x c hc;refine wpAny_storeName_cell I.ok.kind hk hc z (λh' hc' hs=>?_);obtain⟨oc,hoc,hocd⟩:=id z;refine h { s with heap:=h' } ⟨I.ok,I.os,I.bare,⟨λb o e n hb hx=>?_,λb o e n hb hx=>?_,I.base.free,λb o e hx=>?_,I.base.tups,I.base.frzs,I.base.tbls⟩,⟨m,hn.sameBut hs (IJ (xw x c hc)),λj y v' e1 e2 e3=>?_⟩,λy c' e=>?_,I.free,I.freeC,λp hp=>?_,tracked ⟨oc,hoc,I.freeC x c hc⟩ hs,by simpa using I.len⟩ ⟨c,hs,.inr hc⟩
  ·exact (hs.2 b (HP (Hr (Hn e) (I.ok.cab x c hfn hc)))).trans (I.base.keep b o e n hb hx)
  ·obtain⟨sl,e1⟩:=I.base.slot b o e n hb hx;exact⟨sl,(hs.2 b (HP (Hr (Hn e) (I.ok.cab x c hfn hc)))).trans e1⟩
  ·obtain⟨o',e1⟩:=I.base.there b o e hx;exact⟨o',(hs.2 b (HP (Hr (Hn e) (I.ok.cab x c hfn hc)))).trans e1⟩
  ·by_cases hj:j=i
   ·subst hj;rw [hi] at e1;cases e1;rw [Lk hiσ] at e2;cases e2;exact⟨u,r,.inr ⟨.inl hk,c,hc,hc'⟩⟩
   ·rw [MS (IJ hj)] at e2;obtain⟨u',r',q⟩:=hl j y v' e1 e2 e3;refine⟨u',r',?_⟩;rcases q with q | ⟨k,c',e,z'⟩
    ·exact .inl q
    ·refine .inr ⟨k,c',e,z'.sameBut hs ?_⟩;rintro rfl;exact hj (lR hN e1 (I.ok.inj _ _ _ e hc▸hi))
  ·by_cases hcc:c'=c
   ·subst hcc;exact⟨_,hc'⟩
   ·obtain⟨w2,z2⟩:=I.cell y c' e;exact⟨w2,z2.sameBut hs hcc⟩
  ·obtain⟨e,n,ne,nf,d⟩:=I.pin p hp;refine⟨(hs.2 p.1 ?_).trans e,n,ne,nf,d⟩;intro q;rw [q,hoc] at e;have q':oc=p.2:=Ja e;exact d w' (by rw [<- q'];exact hocd)
theorem bS {M:P6} {A:HX} {E:G2->G5->Prop} {i:Nat} {x:HA} {v:V} {u:G2} {Q:Unit->G5->Prop} (I:Inv X pins σ H s) (hN:X.N.Nodup) (hi:X.N[i]?=GZ x) (hx:Loc X.env.scope x) (r:RelV v u)
  (h:∀ s',Inv X pins (σ.set i (GZ v)) H s'->Q () s') (hf:autoParam (X.fn x=true∨X.env.scope.names.lookup x=GZ .local) Z2._auto_1):wpAny M A (storeName X.env x u) Q E s :=
 wN I hN hi hx r (λs' I' _=>h s' I') hf
theorem Inv.BR {s':G5} {ch:List G6} (I:Inv X pins σ H s) (ho:s'.os=s.os) (u:Un (fS X.stack) ch H H' s.heap s'.heap) (hok:fJ X.prog X.w H' s'.heap) (hg:Ng s'.gens)
  (hch:∀ b∈ch,(b∈X.ex∨X.s₀.heap.objs.size<=b)/\b≠X.env.locals/\(∀ x c,X.env.cells.lookup x=GZ c->c≠b)/\∀ p∈X.pn++pins,p.1≠b):Inv X pins σ H' s':=by
 obtain⟨h',g',d',t',o'⟩:=s';have e:o'=s.os:=ho;subst e;exact I.call (g':=g') (t':=t') (d':=d') u hok hg hch
end
abbrev XK:=G2->Option G6->Hp->Prop
abbrev St:=List (Option V)
abbrev VK:=V->Hp->Prop
abbrev TE:=St->Hp->VK->Prop
abbrev TT:=St->Hp->(Bool->Hp->Prop)->Prop
abbrev TA:=St->Hp->(List V->Hp->Prop)->Prop
structure Ends where
 nx:St->Hp->Prop
 rt:VK
 bk:St->Hp->Prop:=λ_ _=>False
 ct:St->Hp->Prop:=λ_ _=>False
abbrev TS:=Ends->St->Hp->Prop
def EP (X:Cx) (pins:List (G6 × Kl)) (σ:St) (Q:VK) (u:G2) (s':G5):Prop:=∃ v H',Inv X pins σ H' s'/\RelV v u/\Q v H'
def TP (X:Cx) (pins:List (G6 × Kl)) (σ:St) (Q:Bool->Hp->Prop) (b:Bool) (s':G5):Prop:=∃ H',Inv X pins σ H' s'/\Q b H'
def AP (X:Cx) (pins:List (G6 × Kl)) (σ:St) (Q:List V->Hp->Prop) (us:List G2) (s':G5):Prop:=∃ vs H',Inv X pins σ H' s'/\Vals vs us/\Q vs H'
def SP (X:Cx) (pins:List (G6 × Kl)) (D:Ends) (f:Flow) (s':G5):Prop :=
 match f with
 | .next=>∃ σ' H',Inv X pins σ' H' s'/\D.nx σ' H'
 | .brk=>∃ σ' H',Inv X pins σ' H' s'/\D.bk σ' H'
 | .cont=>∃ σ' H',Inv X pins σ' H' s'/\D.ct σ' H'
 | .ret u=>∃ v σ' H',Inv X pins σ' H' s'/\RelV v u/\D.rt v H'
def PE (X:Cx) (e:Ik) (t:TE):Prop :=
 ∀(pins:List (G6 × Kl)) (s:G5) (σ:St) (H:Hp) (Q:VK),Inv X pins σ H s->t σ H Q->wpAny (model X.prog X.w) X.A (eval e X.env) (EP X pins σ Q) X.xe s
def PT (X:Cx) (e:Ik) (t:TT):Prop :=
 ∀(pins:List (G6 × Kl)) (s:G5) (σ:St) (H:Hp) (Q:Bool->Hp->Prop),Inv X pins σ H s->t σ H Q->wpAny (model X.prog X.w) X.A (isTrue e X.env (eval e X.env)) (TP X pins σ Q) X.xe s
def PW (X:Cx) (e:Ik) (t:TT):Prop :=
 ∀(whole:Pj G2) (pins:List (G6 × Kl)) (s:G5) (σ:St) (H:Hp) (Q:Bool->Hp->Prop),Inv X pins σ H s->t σ H Q->wpAny (model X.prog X.w) X.A (isTrue e X.env whole) (TP X pins σ Q) X.xe s
theorem PW.pt {X:Cx} {e:Ik} {t:TT} (h:PW X e t):PT X e t:=h _
def PA (X:Cx) (es:List Ik) (t:TA):Prop :=
 ∀(pos:K8) (pins:List (G6 × Kl)) (s:G5) (σ:St) (H:Hp) (Q:List V->Hp->Prop),Inv X pins σ H s->t σ H Q->wpAny (model X.prog X.w) X.A (spliced (backTo pos (starEach es X.env))) (AP X pins σ Q) X.xe s
def PS (X:Cx) (st:Le) (t:TS):Prop :=
 ∀(pins:List (G6 × Kl)) (s:G5) (σ:St) (H:Hp) (D:Ends),Inv X pins σ H s->t D σ H->wpAny (model X.prog X.w) X.A (exec st X.env) (SP X pins D) X.xe s
def gN (X:Cx) (st:List Le) (t:TS):Prop :=
 ∀(pins:List (G6 × Kl)) (s:G5) (σ:St) (H:Hp) (D:Ends),Inv X pins σ H s->t D σ H->wpAny (model X.prog X.w) X.A (execs st X.env) (SP X pins D) X.xe s
theorem a9 {α:Type} {t:Pj α} {Q Q':α->G5->Prop} {M:P6} {A:HX} {E:G2->G5->Prop} {s:G5} (h:wpAny M A t Q E s) (hQ:∀ a s,Q a s->Q' a s):wpAny M A t Q' E s:=IK h hQ λ_ _ x=>x
section
variable {X:Cx}
theorem bin {a b:Ik} {ta tb:TE} (ha:PE X a ta) (hb:PE X b tb) {pins:List (G6 × Kl)} {s:G5} {σ:St} {H:Hp} {R:V->V->Hp->Prop} (I:Inv X pins σ H s) (h:ta σ H λx H1=>tb σ H1 λy H2=>R x y H2)
  {α:Type} {Q:α->G5->Prop} {f:G2->G2->Pj α}
  (hf:∀ v u s2 x y H2,Inv X pins σ H2 s2->RelV x v->RelV y u->R x y H2->wpAny (model X.prog X.w) X.A (f v u) Q X.xe s2) :
  wpAny (model X.prog X.w) X.A (eval a X.env) (λv s₁=>wpAny (model X.prog X.w) X.A (eval b X.env) (λu s₂=>wpAny (model X.prog X.w) X.A (f v u) Q X.xe s₂) X.xe s₁) X.xe s:=by
 refine a9 (ha pins s σ H _ I h) λv s1 hZ=>?_;obtain⟨x,H1,I1,r1,q1⟩:=hZ;refine a9 (hb pins s1 σ H1 _ I1 q1) λu s2 hZ=>?_;obtain⟨y,H2,I2,r2,q2⟩:=hZ;exact hf v u s2 x y H2 I2 r1 r2 q2
def D0 (i:Nat):TE:=λσ H Q=>∃ v,σ[i]?=GZ (GZ v)/\Q v H
def tC (v:V):TE:=λ_ H Q=>Q v H
theorem uc {i:Nat} {x:HA} {pos:K8} (hN:X.N[i]?=GZ x) (hv:CV X.env.scope x) (hd:autoParam ((x==("__debug__":HA))=false) Z1._auto_1) (hcd:autoParam ((x==("__classdict__":HA))=false) Z1._auto_1):PE X (.Name x pos) (D0 i):=by
 intro pins s σ H Q I h;obtain⟨v,e,h⟩:=h;obtain⟨m,hn,hl⟩:=I.loc;obtain⟨u,r,l⟩:=hl i x v hN e hv;have fin:EP X pins σ Q u s:=⟨v,H,I,r,h⟩
 rcases l with⟨hk,hm⟩|⟨hk,c,hc,hcell⟩
 ·exact Rh (OS I.ok.kind hk hn hm fin) hd
 ·rcases hk with hk | hk
  ·exact Rh (Pn I.ok.kind hk hc hcell fin) hd
  ·exact Rh (wpAny_loadName_free I.ok.kind hk hc hcell fin hcd) hd
theorem ah {i j pos}:PE X (.Constant (.int i) j pos) (tC (.int i)):=λ_ _ _ H _ I h=>wpAny_Constant_int ⟨.int i,H,I.tok _,⟨_,rfl⟩,h⟩
theorem fL {b j pos}:PE X (.Constant (.bool b) j pos) (tC (.bl b)):=λ_ _ _ H _ I h=>Constant_bool ⟨.bl b,H,I,rfl,h⟩
theorem c9 {j pos}:PE X (.Constant .none j pos) (tC .non):=λ_ _ _ H _ I h=>Constant_none ⟨.non,H,I,rfl,h⟩
theorem bF {x j pos}:PE X (.Constant (.str x) j pos) (tC (.str x)):=λ_ _ _ H _ I h=>Calls.Constant_str ⟨.str x,H,I.tok _,⟨_,rfl⟩,h⟩
def Gl (X:Cx) (x:HA):Prop:=X.env.kindOf x=GZ .globalImplicit
theorem fz {E:G2->G5->Prop} {pins:List (G6 × Kl)} {s:G5} {σ:St} {H:Hp} {x:HA} {u:G2} {pos:K8} {Q:G2->G5->Prop} (I:Inv X pins σ H s) (hg:Gl X x) (hm:X.mg x=GZ u) (h:Q u s)
  (hd:autoParam ((x==("__debug__":HA))=false) Z1._auto_1):wpAny (model X.prog X.w) X.A (eval (.Name x pos) X.env) Q E s :=
 Nv I.ok.kind hg (Calls.loadGlobal_global (by rw [I.ok.glob];exact I.mod.glob.keeps I.bk) hm h) hd
theorem iE {E:G2->G5->Prop} {pins:List (G6 × Kl)} {s:G5} {σ:St} {H:Hp} {x:HA} {u:G2} {pos:K8} {Q:G2->G5->Prop} (I:Inv X pins σ H s) (hg:Gl X x) (hm:X.mg x=none) (hv:bootBuiltins x=GZ u) (h:Q u s)
  (hn:autoParam (x ≠ "__name__") Z1._auto_1) (hd:autoParam ((x==("__debug__":HA))=false) Z1._auto_1):wpAny (model X.prog X.w) X.A (eval (.Name x pos) X.env) Q E s:=by
 obtain⟨mb,h1,h2⟩:=I.mod.blt;exact Nv I.ok.kind hg (Calls.loadGlobal_builtin (by rw [I.ok.glob];exact I.mod.glob.keeps I.bk) hm (by rw [I.ok.blt];exact h1.keeps I.bk) ((h2 x hn).trans hv) h) hd
theorem pP {x:HA} {v:V} {u:G2} {pos:K8} (hg:Gl X x) (hm:X.mg x=GZ u) (r:RelV v u) (hd:autoParam ((x==("__debug__":HA))=false) Z1._auto_1):PE X (.Name x pos) (tC v) :=
 λ_ _ _ H _ I h=>fz I hg hm ⟨v,H,I,r,h⟩ hd
theorem fB {x:HA} {v:V} {u:G2} {pos:K8} (hg:Gl X x) (hm:X.mg x=none) (hv:bootBuiltins x=GZ u) (r:RelV v u) (hn:autoParam (x ≠ "__name__") Z1._auto_1) (hd:autoParam ((x==("__debug__":HA))=false) Z1._auto_1):PE X (.Name x pos) (tC v) :=
 λ_ _ _ H _ I h=>iE I hg hm hv ⟨v,H,I,r,h⟩ hn hd
variable {a b:Ik} {ta tb:TE} {pos:K8}
def PC (X:Cx) (op:Sz) (a b:Ik) (t:TE):Prop :=
 ∀(pins:List (G6 × Kl)) (s:G5) (σ:St) (H:Hp) (Q:VK),Inv X pins σ H s->t σ H Q ->
  wpAny (model X.prog X.w) X.A (eval a X.env) (λv s₁=>wpAny (model X.prog X.w) X.A (eval b X.env) (λu s₂=>wpAny (model X.prog X.w) X.A (compareOp op v u) (EP X pins σ Q) X.xe s₂) X.xe s₁) X.xe s
theorem yx (b:Ik) {op:Sz} (h:op≠.In) (h2:op≠.NotIn):behindInMarks op b=false:=by
 have e1:(op==CmpOp.In)=false:=by cases op<;>first | rfl | exact absurd rfl h
 have e2:(op==CmpOp.NotIn)=false:=by cases op<;>first | rfl | exact absurd rfl h2
 cases b with
 | Set elts k pos =>show (k==0 && (op==.In || op==.NotIn) && elts.all (constantsAlone 8))=false;rw [e1,e2];cases k==0<;>rfl
 | _=>rfl
def tB (t:TE):TT:=λσ H Q=>t σ H λx H1=>∃ c,x=.bl c/\Q c H1
theorem ui {op:Sz} {t:TE} (h:PC X op a b t) (h1:behindInMarks op b=false:=by first | exact yx _ (by decide) (by decide) | rfl):PT X (.Compare a [op] [b] pos) (tB t):=by intro pins s σ H Q I hw;refine OF (a9 (h pins s σ H _ I hw) λv s1 h1=>a9 h1 λu s2 h2=>a9 h2 λc s3 hZ=>?_) h1;obtain⟨x,H1,I1,r1,q1⟩:=hZ;obtain⟨d,rfl,q⟩:=q1;cases r1;exact Me ⟨H1,I1,q⟩
variable {tA tB':TT} {rest:List Ik}
def E7 (t u:TT):TT:=λσ H Q=>t σ H λc H1=>if c=true then u σ H1 Q else Q false H1
def Gx (t u:TT):TT:=λσ H Q=>t σ H λc H1=>if c=true then Q true H1 else u σ H1 Q
def Ff (t:TT):TT:=λσ H Q=>t σ H λc H1=>Q (!c) H1
theorem pV (ha:PT X a tA):PW X (.BoolOp .And [a] pos) tA:=by
 intro wh pins s σ H Q I h;refine isTrue_and (a9 (ha pins s σ H Q I h) λc s1 e=>?_);cases c with
 | true=>exact isTrue_and_nil e
 | false=>exact e
theorem mh (ha:PT X a tA):PW X (.BoolOp .Or [a] pos) tA:=by
 intro wh pins s σ H Q I h;refine isTrue_or (a9 (ha pins s σ H Q I h) λc s1 e=>?_);cases c with
 | false=>exact isTrue_or_nil e
 | true=>exact e
theorem uj (ha:PT X a tA) (hb:PW X (.BoolOp .And (b::rest) pos) tB'):PW X (.BoolOp .And (a::b::rest) pos) (E7 tA tB'):=by
 intro wh pins s σ H Q I h;refine isTrue_and (a9 (ha pins s σ H _ I h) λc s1 ⟨H1,I1,q1⟩=>?_);cases c with
 | true=>exact hb wh pins s1 σ H1 Q I1 q1
 | false=>exact⟨H1,I1,q1⟩
theorem gu (ha:PT X a tA) (hb:PW X (.BoolOp .Or (b::rest) pos) tB'):PW X (.BoolOp .Or (a::b::rest) pos) (Gx tA tB'):=by
 intro wh pins s σ H Q I h;refine isTrue_or (a9 (ha pins s σ H _ I h) λc s1 ⟨H1,I1,q1⟩=>?_);cases c with
 | true=>exact⟨H1,I1,q1⟩
 | false=>exact hb wh pins s1 σ H1 Q I1 q1
theorem gk (ha:PT X a tA):PT X (.UnaryOp .Not a pos) (Ff tA):=by intro pins s σ H Q I h;exact isTrue_not (ha pins s σ H (λc H1=>Q (!c) H1) I h)
def Ck (ta tb:TE):TE:=λσ H Q=>ta σ H λx H1=>∃ c,x=.bl c/\if c=true then tb σ H1 Q else Q (.bl false) H1
theorem yZ {op} {t:TE} (h:PE X a t):PE X (.BoolOp op [a] pos) t:=λpins s σ H Q I hw=>BoolOp_one (h pins s σ H Q I hw)
theorem ub (ha:PE X a ta) (hb:PE X (.BoolOp .And (b::rest) pos) tb):PE X (.BoolOp .And (a::b::rest) pos) (Ck ta tb):=by
 intro pins s σ H Q I h;refine BoolOp_and (a9 (ha pins s σ H _ I h) λv s1 hZ=>?_);obtain⟨x,H1,I1,r1,q1⟩:=hZ;obtain⟨c,rfl,q1⟩:=q1;cases r1;refine Me ?_;cases c with
 | true=>exact hb pins s1 σ H1 Q I1 q1
 | false=>exact⟨.bl false,H1,I1,rfl,q1⟩
def Gw (t:TT) (ta tb:TE):TE:=λσ H Q=>t σ H λc H1=>if c=true then ta σ H1 Q else tb σ H1 Q
theorem gh {c:Ik} (hc:PT X c tA) (ha:PE X a ta) (hb:PE X b tb):PE X (.IfExp c a b pos) (Gw tA ta tb):=by
 intro pins s σ H Q I h;refine wpAny_IfExp (a9 (hc pins s σ H _ I h) λd s1 ⟨H1,I1,q1⟩=>?_);cases d with
 | true=>exact ha pins s1 σ H1 Q I1 q1
 | false=>exact hb pins s1 σ H1 Q I1 q1
end
def aM (K:G1) (H:Hp) (a:G6) (xs:List V):Prop :=
 Rd H a (.lst xs) ∨
  ∃(o:Kl) (its:Array G2) (n:Nat),K.lookup a=GZ o/\o.cls=.type "list"/\o.dict=none/\o.data=.seq its n/\its.size<=sizeLine/\Vals xs its.toList
def bE (K:G1) (H:Hp) (a:G6) (xs:List V):Prop :=
 Rd H a (.tup xs) ∨
  ∃(o:Kl) (its:Array G2) (n:Nat),K.lookup a=GZ o/\o.cls=.type "tuple"/\o.data=.seq its n/\its.size<=sizeLine/\Vals xs its.toList
noncomputable def FO:G2->Option V
 | .none=>GZ .non
 | .bool b=>GZ (.bl b)
 | .int i _=>GZ (.int i)
 | .str x _=>GZ (.str x)
 | .bytes b _=>GZ (.byt b)
 | .float b _=>GZ (.flt b)
 | .ref a=>GZ (.ref a)
 | .type n=>GZ (.ty n)
 | _=>none
theorem RelV.abs {x:V} {u:G2} (r:RelV x u):FO u=GZ x:=by
 cases x with
 | non=>cases r;rfl
 | bl _=>cases r;rfl
 | int _=>obtain⟨t,rfl⟩:=r;rfl
 | str _=>obtain⟨t,rfl⟩:=r;rfl
 | byt _=>obtain⟨t,rfl⟩:=r;rfl
 | flt _=>obtain⟨t,rfl⟩:=r;rfl
 | ref _=>cases r;rfl
 | ty _=>cases r;rfl
theorem RelV.inj {x y:V} {u:G2} (r:RelV x u) (q:RelV y u):x=y:=Ja (r.abs.symm.trans q.abs)
theorem Vals.inj:∀{xs ys:List V} {us:List G2},Vals xs us->Vals ys us->xs=ys
 | _,_,_,.nil,.nil=>rfl
 | _,_,_,.cons r t,.cons r' t'=>by rw [r.inj r',Vals.inj t t']
section
variable {X:Cx} {pins:List (G6 × Kl)} {σ:St} {H:Hp} {s:G5} {a:G6} {xs ys:List V}
theorem aM.of {K:G1} (h:H a=GZ (.lst xs)):aM K H a xs:=.inl (.inl h)
theorem bE.of {K:G1} (h:H a=GZ (.tup xs)):bE K H a xs:=.inl (.inl h)
theorem Inv.list (I:Inv X pins σ H s) (h:aM X.K H a xs):∃ its:List G2,Vals xs its/\PlainL s.heap a its.toArray/\xs.length<=sizeLine:=by
 rcases h with h | ⟨o,its,n,hk,hc,hd,hs,hz,r⟩
 ·obtain⟨z,its,n,r,e⟩:=h.ok I.hok;exact⟨its,r,⟨_,n,e,rfl,rfl,rfl⟩,z⟩
 ·refine⟨its.toList,r,⟨o,n,I.eX a o hk,hc,hd,by simpa using hs⟩,?_⟩;have e:=r.length;simp only [HV] at e;lia
theorem Inv.tuple (I:Inv X pins σ H s) (h:bE X.K H a xs):∃ its:List G2,Vals xs its/\IsTup s.heap a its.toArray/\xs.length<=sizeLine:=by
 rcases h with h | ⟨o,its,n,hk,hc,hs,hz,r⟩
 ·obtain⟨z,its,r,p⟩:=h.ok I.hok;exact⟨its,r,p,z⟩
 ·refine⟨its.toList,r,⟨o,I.eX a o hk,hc,n,by simpa using hs⟩,?_⟩;have e:=r.length;simp only [HV] at e;lia
theorem Inv.lM (I:Inv X pins σ H s) (h:aM X.K H a xs) (h':aM X.K H a ys):xs=ys:=by
 obtain⟨its,r,⟨o,n,e,_,_,d⟩,_⟩:=I.list h;obtain⟨its',r',⟨o',n',e',_,_,d'⟩,_⟩:=I.list h';rw [e] at e';cases e';rw [d] at d';injection d' with d1 _
 have:its=its':=by simpa using congrArg P7 d1
 subst this;exact r.inj r'
theorem Inv.oI (I:Inv X pins σ H s) (h:bE X.K H a xs) (h':bE X.K H a ys):xs=ys:=by
 obtain⟨its,r,⟨o,e,_,n,d⟩,_⟩:=I.tuple h;obtain⟨its',r',⟨o',e',_,n',d'⟩,_⟩:=I.tuple h';rw [e] at e';cases e';rw [d] at d';injection d' with d1 _
 have:its=its':=by simpa using congrArg P7 d1
 subst this;exact r.inj r'
end
noncomputable abbrev Cx.jz (X:Cx) (E:G2->G5->Prop):Cx:={ X with xe:=E }
noncomputable abbrev Cx.kh (X:Cx):Cx:=X.jz λ_ _=>False
theorem Cx.Ok.jz {X:Cx} (ok:X.Ok) (E:G2->G5->Prop):(X.jz E).Ok :=
 ⟨ok.mod,ok.kind,ok.glob,ok.blt,ok.above,ok.inj,ok.has,ok.cab,ok.hd,ok.frames,ok.stk,ok.exf,ok.bs,ok.bsz,ok.noex,ok.exfs,ok.jN,ok.frf⟩
theorem Cx.Ok.dH {X:Cx} {E:G2->G5->Prop} (ok:(X.jz E).Ok):X.Ok :=
 ⟨ok.mod,ok.kind,ok.glob,ok.blt,ok.above,ok.inj,ok.has,ok.cab,ok.hd,ok.frames,ok.stk,ok.exf,ok.bs,ok.bsz,ok.noex,ok.exfs,ok.jN,ok.frf⟩
section
variable {X:Cx} {pins:List (G6 × Kl)} {σ:St} {H:Hp} {s:G5} {E:G2->G5->Prop}
theorem Inv.jz (I:Inv X pins σ H s) (E:G2->G5->Prop):Inv (X.jz E) pins σ H s:=⟨I.ok.jz E,I.os,I.bare,I.base,I.loc,I.cell,I.free,I.freeC,I.pin,I.hok,I.len⟩
theorem Inv.dH (I:Inv (X.jz E) pins σ H s):Inv X pins σ H s:=⟨I.ok.dH,I.os,I.bare,I.base,I.loc,I.cell,I.free,I.freeC,I.pin,I.hok,I.len⟩
theorem SP.dH {D:Ends} {f:Flow} {s':G5} (h:SP (X.jz E) pins D f s'):SP X pins D f s':=by
 cases f with
 | next=>obtain⟨σ',H',I,q⟩:=h;exact⟨σ',H',I.dH,q⟩
 | brk=>obtain⟨σ',H',I,q⟩:=h;exact⟨σ',H',I.dH,q⟩
 | cont=>obtain⟨σ',H',I,q⟩:=h;exact⟨σ',H',I.dH,q⟩
 | ret u=>obtain⟨v,σ',H',I,r,q⟩:=h;exact⟨v,σ',H',I.dH,r,q⟩
theorem PE.kh {e:Ik} {t:TE} (h:PE X.kh e t):PE X e t:=λpins s σ H Q I hw =>IK (h pins s σ H Q (I.jz _) hw) (λ_ _ ⟨v,H',I',r,q⟩=>⟨v,H',I'.dH,r,q⟩) λ_ _ z=>IU z
theorem PT.kh {e:Ik} {t:TT} (h:PT X.kh e t):PT X e t:=λpins s σ H Q I hw =>IK (h pins s σ H Q (I.jz _) hw) (λ_ _ ⟨H',I',q⟩=>⟨H',I'.dH,q⟩) λ_ _ z=>IU z
theorem gN.kh {st:List Le} {t:TS} (h:gN X.kh st t):gN X st t:=λpins s σ H D I hw =>IK (h pins s σ H D (I.jz _) hw) (λ_ _ q=>q.dH) λ_ _ z=>IU z
end
section
variable {X:Cx} {st:Le} {rest:List Le} {t u:TS} {e:Ik} {te:TE} {pos:K8}
def Cs:TS:=λD σ H=>D.nx σ H
def bC (t u:TS):TS:=λD σ H=>t { D with nx:=u D } σ H
theorem aH:gN X [] Cs:=λ_ _ σ H _ I h=>Lu ⟨σ,H,I,h⟩
theorem ae (h1:PS X st t) (h2:gN X rest u):gN X (st::rest) (bC t u):=by
 intro pins s σ H D I h;refine N6 (a9 (h1 pins s σ H { D with nx:=u D } I h) λf s1 q=>?_);cases f with
 | next =>obtain⟨σ',H',I',q⟩:=q;exact h2 pins s1 σ' H' D I' q
 | ret v=>exact q
 | brk=>exact q
 | cont=>exact q
theorem ai (h1:PS X st t):gN X [st] t:=by
 intro pins s σ H D I h;refine N6 (a9 (h1 pins s σ H D I h) λf s1 q=>?_);cases f with
 | next=>exact Lu q
 | ret v=>exact q
 | brk=>exact q
 | cont=>exact q
theorem Inv.quiet {pins:List (G6 × Kl)} {σ:St} {H:Hp} {s:G5} (I:Inv X pins σ H s):interactive X.env=false:=by simp [interactive,I.ok.kind]
def Cq (te:TE):TS:=λD σ H=>te σ H λ_ H1=>D.nx σ H1
theorem eI (he:PE X e te) (hs:autoParam (swapsWith e none pos.line X.env=pure false) Z0._auto_1):PS X (.Expr e pos) (Cq te):=by intro pins s σ H D I h;exact wpAny_Expr_any (a9 (he pins s σ H _ I h) λv s1 ⟨x,H1,I1,r1,q1⟩=>⟨σ,H1,I1,q1⟩) I.quiet hs
def mG (te:TE):TS:=λD σ H=>te σ H D.rt
theorem aA (he:PE X e te):PS X (.Return (GZ e) pos) (mG te):=by intro pins s σ H D I h;exact wpAny_Return_some (a9 (he pins s σ H _ I h) λv s1 ⟨x,H1,I1,r1,q1⟩=>⟨x,σ,H1,I1,r1,q1⟩)
def DY (c:TT) (t u:TS):TS:=λD σ H=>c σ H λb H1=>if b=true then t D σ H1 else u D σ H1
theorem aU {c:Ik} {a b:List Le} {tc:TT} (hc:PT X c tc) (ha:gN X a t) (hb:gN X b u):PS X (.If c a b pos) (DY tc t u):=by
 intro pins s σ H D I h;refine wpAny_If (a9 (hc pins s σ H _ I h) λd s1 ⟨H1,I1,q1⟩=>?_);cases d with
 | true=>exact ha pins s1 σ H1 D I1 q1
 | false=>exact hb pins s1 σ H1 D I1 q1
end
abbrev TG:=V->St->Hp->(St->Hp->Prop)->Prop
abbrev BQ:=List V->St->Hp->(St->Hp->Prop)->Prop
def PG (X:Cx) (target:Ik) (t:TG):Prop :=
 ∀(pins:List (G6 × Kl)) (s:G5) (σ:St) (H:Hp) (v:V) (u:G2) (Q:St->Hp->Prop),Inv X pins σ H s->RelV v u->t v σ H Q ->
  wpAny (model X.prog X.w) X.A (assign target X.env u) (λ_ s'=>∃ σ' H',Inv X pins σ' H' s'/\Q σ' H') X.xe s
def En (X:Cx) (ts:List Ik) (t:BQ):Prop :=
 ∀(pins:List (G6 × Kl)) (s:G5) (σ:St) (H:Hp) (vs:List V) (us:List G2) (Q:St->Hp->Prop),Inv X pins σ H s->Vals vs us->t vs σ H Q ->
  wpAny (model X.prog X.w) X.A (assignInOrder ((assignEach ts X.env).map (·.2)) us) (λ_ s'=>∃ σ' H',Inv X pins σ' H' s'/\Q σ' H') X.xe s
abbrev FJ:=V->V->V->Hp->(Hp->Prop)->Prop
abbrev FI:=V->V->Hp->VK->Prop
def Gi (X:Cx) (op:OT) (t:FI):Prop :=
 ∀(pins:List (G6 × Kl)) (s:G5) (σ:St) (H:Hp) (x y:V) (v u:G2) (Q:VK),Inv X pins σ H s->RelV x v->RelV y u->t x y H Q ->
  wpAny (model X.prog X.w) X.A (inplaceOp op v u) (EP X pins σ Q) X.xe s
section
variable {X:Cx} {pos:K8}
def cS (i:Nat):TG:=λv σ H Q=>Q (σ.set i (GZ v)) H
theorem aq {i:Nat} {x:HA} (hN:X.N.Nodup) (hi:X.N[i]?=GZ x) (hx:Loc X.env.scope x) (hf:autoParam (X.fn x=true∨X.env.scope.names.lookup x=GZ .local) Z2._auto_1):PG X (.Name x pos) (cS i):=by intro pins s σ H v u Q I r h;exact wpAny_assign_Name (bS I hN hi hx r (λs' I'=>⟨_,H,I',h⟩) hf)
def AN:BQ:=λvs σ H Q=>vs=[]/\Q σ H
def nE (t:TG) (u:BQ):BQ:=λvs σ H Q=>∃ v r,vs=v::r/\t v σ H λσ' H'=>u r σ' H' Q
theorem aT:En X [] AN:=by intro pins s σ H vs us Q I r h;obtain⟨e,h⟩:=h;subst e;cases r;exact NM ⟨σ,H,I,h⟩
theorem az {e:Ik} {es:List Ik} {t:TG} {u:BQ} (h1:PG X e t) (h2:En X es u)
  (hs:autoParam ((assignEach (e::es) X.env).map (·.2)=assign e X.env::(assignEach es X.env).map (·.2)) Z0._auto_1):En X (e::es) (nE t u):=by
 intro pins s σ H vs us Q I r h;obtain⟨v,vr,e1,h⟩:=h;subst e1;cases r with
 | cons r rr =>rw [hs];refine KO (a9 (h1 pins s σ H _ _ _ I r h) λ_ s1 ⟨σ1,H1,I1,q1⟩=>?_);exact h2 pins s1 σ1 H1 _ _ Q I1 rr q1
def vR (K:G1) (n:Nat) (t:BQ):TG:=λv σ H Q=>∃ a xs,v=.ref a/\bE K H a xs/\xs.length=n/\t xs σ H Q
theorem bY {es:List Ik} {k:Nat} {t:BQ} {n:Nat} (hc:X.calm=true) (h:En X es t)
  (hn:autoParam ((assignEach es X.env).length=n) Z0._auto_1) (hst:autoParam ((assignEach es X.env).findIdx? (·.1)=none) Z0._auto_1):PG X (.Tuple es k pos) (vR X.K n t):=by
 intro pins s σ H v u Q I r hw;obtain⟨a,xs,e1,hq,hl,hw⟩:=hw;subst e1;cases r;obtain⟨its,rv,ht,hz⟩:=I.tuple hq;refine assign_Tuple_tuple (I.ok.hd hc) ht (by simp [hn,<- hl,rv.length]) hst λh' hx=>?_;have I1:Inv X pins σ H { s with heap:=h' }:=I.kept (t':=s.toks) λb o e=>hx b o (HP (Hn e)) e;exact h pins _ σ H xs _ Q I1 (by simpa using rv) hw
def ur (te:TE) (g:TG):TS:=λD σ H=>te σ H λx H1=>g x σ H1 D.nx
theorem dW {tg e:Ik} {te:TE} {g:TG} (he:PE X e te) (hg:PG X tg g) (hs:autoParam (swapsWithSole [tg] e pos.line X.env=pure false) Z0._auto_1) (hw:autoParam (swappedStores [tg] e X.env=pure none) Z0._auto_1)
  (h1:autoParam ((assignEach [tg] X.env).map (·.2)=[assign tg X.env]) Z0._auto_1):PS X (.Assign [tg] e pos) (ur te g):=by
 intro pins s σ H D I h;refine wpAny_Assign_stores (a9 (he pins s σ H _ I h) λv s1 hZ=>?_) hs hw;obtain⟨x,H1,I1,r1,q1⟩:=hZ;rw [h1];exact a9 (hg pins s1 σ H1 x v _ I1 r1 q1) λ_ s2 q=>q
theorem iI {i:Nat} {x:HA} {e:Ik} {te:TE} {pos':K8} (hN:X.N.Nodup) (hi:X.N[i]?=GZ x) (hx:Loc X.env.scope x) (he:PE X e te) (hs:autoParam (swapsWith e (GZ (.Name x pos')) pos.line X.env=pure false) Z0._auto_1) (hf:autoParam (X.fn x=true∨X.env.scope.names.lookup x=GZ .local) Z2._auto_1) :
  PS X (.Assign [.Name x pos'] e pos) (ur te (cS i)):=by
 intro pins s σ H D I h;refine P8 (a9 (he pins s σ H _ I h) λv s1 hZ=>?_) hs;obtain⟨y,H1,I1,r1,q1⟩:=hZ;exact bS I1 hN hi hx r1 (λs2 I2=>⟨_,H1,I2,q1⟩) hf
def Fi (i j:Nat) (ta:TA):TS:=λD σ H=>ta σ H λvs H1=>∃ v w,vs=[v,w]/\D.nx ((σ.set i (GZ v)).set j (GZ w)) H1
theorem pU {i j:Nat} {x y:HA} {a b:Ik} {ta:TA} {px py pt:K8} {kt k2 pt2} (hc:X.calm=true) (hN:X.N.Nodup) (hi:X.N[i]?=GZ x) (hj:X.N[j]?=GZ y) (hij:i≠j)
  (hx:X.env.scope.names.lookup x=GZ .local) (hy:X.env.scope.names.lookup y=GZ .local) (ha:PA X [a,b] ta)
  (hw:swappedStores [.Tuple [.Name x px,.Name y py] kt pt] (.Tuple [a,b] k2 pt2) X.env=pure (GZ [x,y]))
  (hs:autoParam (swapsWithSole [.Tuple [.Name x px,.Name y py] kt pt] (.Tuple [a,b] k2 pt2) pos.line X.env=pure false) Z0._auto_1) :
  PS X (.Assign [.Tuple [.Name x px,.Name y py] kt pt] (.Tuple [a,b] k2 pt2) pos) (Fi i j ta):=by
 intro pins s σ H D I h;rw [QX];refine G3 (JX ?_);rw [hs];refine G3 (G8 ?_);rw [if_neg (by decide)];refine G3 (Tuple_ (a9 (ha _ pins s σ H _ I h) λus s1 hZ=>?_));obtain⟨vs,H1,I1,r1,q1⟩:=hZ;obtain⟨v,w,e1,q1⟩:=q1;subst e1;obtain⟨u1,u2,rfl,rv,rw'⟩:∃ u1 u2,us=[u1,u2]/\RelV v u1/\RelV w u2:=by
  cases r1 with
  | cons p q =>
   cases q with
   | cons p' q' =>cases q';exact⟨_,_,rfl,p,p'⟩
 refine Ju ?_ (by show 2<=sizeLine;decide);have I2:Inv X pins σ H1 { s1 with heap:=s1.heap.push { cls:=.type "tuple",data:=.seq [u1,u2].toArray } }:=I1.kept (t':=s1.toks) λb o e=>G7 _ e;rw [hw];refine G3 (G8 ?_);show wpAny (model X.prog X.w) X.A (do rule "assign.swapped-stores";let items <- unpackItems (.ref s1.heap.objs.size) 2 none;assignInOrder [λv=>bindName X.env y v,λv=>bindName X.env x v] items.reverse;pure Flow.next) _ _ _;refine G3 (Ll (G3 (P9 (items:=#[u1,u2]) (I.ok.hd hc) (IsTup.new s1.heap _) λh' hx'=>?_)));have I3:=I2.kept (h':=h') (t':=s1.toks) λb o e=>hx' b o (HP (Hn e)) e;show wpAny _ _ (assignInOrder [λv=>bindName X.env y v,λv=>bindName X.env x v] [u2,u1] >>= λ_=>pure Flow.next) _ _ _;refine G3 (KO (LD (bS I3 hN hj (.inl hy) rw' (λs2 I4=>?_) (.inr hy))));refine KO (LD (bS I4 hN hi (.inl hx) rv (λs3 I5=>NM (G8 ?_)) (.inr hx)));rw [NZ _ _ (IJ hij)] at I5;exact⟨_,H1,I5,q1⟩
def E8 (i:Nat) (te:TE) (ti:FI):TS:=λD σ H=>∃ x,σ[i]?=GZ (GZ x)/\te σ H λy H1=>ti x y H1 λz H2=>D.nx (σ.set i (GZ z)) H2
theorem fE {i:Nat} {x:HA} {e:Ik} {te:TE} {op:OT} {ti:FI} {pos':K8} (hN:X.N.Nodup) (hi:X.N[i]?=GZ x) (hx:Loc X.env.scope x) (he:PE X e te) (ho:Gi X op ti) (hf:autoParam (X.fn x=true∨X.env.scope.names.lookup x=GZ .local) Z2._auto_1) :
  PS X (.AugAssign (.Name x pos') op e pos) (E8 i te ti):=by
 intro pins s σ H D I h;obtain⟨v,e1,h⟩:=h;obtain⟨m,hn,hl⟩:=I.loc;have vis:CV X.env.scope x:=by rcases hx with k | k;exact .inl k;exact .inr (.inl k)
 obtain⟨u,r,l⟩:=hl i x v hi e1 vis;refine wpAny_AugAssign_Name ?_;have go:wpAny (model X.prog X.w) X.A (eval e X.env) (λw s₂=>wpAny (model X.prog X.w) X.A (inplaceOp op u w) (λr s₃=>wpAny (model X.prog X.w) X.A (storeName X.env x r) (λ_=>SP X pins D .next) X.xe s₃) X.xe s₂) X.xe s:=by refine a9 (he pins s σ H _ I h) λw s1 hZ=>?_;obtain⟨y,H1,I1,r1,q1⟩:=hZ;refine a9 (ho pins s1 σ H1 v y u w _ I1 r r1 q1) λz s2 hZ=>?_;obtain⟨zv,H2,I2,r2,q2⟩:=hZ;exact bS I2 hN hi hx r2 (λs3 I3=>⟨_,H2,I3,q2⟩) hf
 rcases l with⟨hk,hm⟩|⟨hk,c,hc,hcell⟩
 ·exact OS I.ok.kind hk hn hm go
 ·rcases hk with hk | hk
  ·exact Pn I.ok.kind hk hc hcell go
  ·rcases hx with k | k
   ·have:X.env.scope.names.lookup x=GZ .free:=hk;rw [k] at this;cases this
   ·have:X.env.scope.names.lookup x=GZ .free:=hk;rw [k] at this;cases this
end
section
variable {X:Cx} {pos:K8}
def zT (c:TT) (tb:TS):TS:=λD σ H=>∃ W:Nat->St->Hp->Prop,(∃ m,W m σ H)/\∀ m σ H,W m σ H ->
 c σ H λb H1=>if b=true then ∃ N:St->Hp->Prop,(∀ σ' H',N σ' H'->∃ m',m'<m/\W m' σ' H')/\tb { D with nx:=N,ct:=N,bk:=D.nx } σ H1 else D.nx σ H1
theorem bQ {c:Ik} {body:List Le} {tc:TT} {tb:TS} (hp:PassesOwn (model X.prog X.w) X.A X.env X.xe) (hc:PT X c tc) (hb:gN X body tb):PS X (.While c body [] pos) (zT tc tb):=by
 intro pins s σ H D I h;obtain⟨W,⟨m0,w0⟩,turn⟩:=h;refine wpAny_While (codeAny_whileLoop (λn s'=>∃ σ' H',Inv X pins σ' H' s'/\W n σ' H') ?_ m0 ⟨σ,H,I,w0⟩);rintro n s1 ⟨σ1,H1,I1,w1⟩;refine KY hp (a9 (hc pins s1 σ1 H1 _ I1 (turn n σ1 H1 w1)) λb s2 ⟨H2,I2,q2⟩=>?_);cases b with
 | true =>
  obtain⟨N,hN,q2⟩:=q2;rw [if_pos rfl];refine KY hp (a9 (hb pins s2 σ1 H2 _ I2 q2) λf s3 q3=>?_);cases f with
  | next =>obtain⟨σ3,H3,I3,n3⟩:=q3;obtain⟨m',hm,w3⟩:=hN σ3 H3 n3;exact⟨m',hm,σ3,H3,I3,w3⟩
  | cont =>obtain⟨σ3,H3,I3,n3⟩:=q3;obtain⟨m',hm,w3⟩:=hN σ3 H3 n3;exact⟨m',hm,σ3,H3,I3,w3⟩
  | brk=>exact q3
  | ret v=>exact q3
 | false =>rw [if_neg HM];exact Lu ⟨σ1,H2,I2,q2⟩
end
structure It where
 go:Nat->Hp->Prop
 yld:Nat->Hp->V->Hp->Prop
 stop:Nat->Hp->Prop
def mJ (X:Cx) (pins:List (G6 × Kl)) (H:Hp) (b:G6):Prop :=
 H b=none/\b≠X.env.locals/\b∉X.fs/\(b∈X.ex∨X.s₀.heap.objs.size<=b)/\(∀ x c,X.env.cells.lookup x=GZ c->c≠b)/\∀ p∈X.pn++pins,p.1≠b
theorem Inv.mR {X:Cx} {pins:List (G6 × Kl)} {σ:St} {H H':Hp} {s:G5} {b:G6} (I:Inv X pins σ H s) (hb:s.heap.objs.size<=b) (hn:H' b=none):mJ X pins H' b:=by
 refine⟨hn,K0 (Hr I.lt hb),I.yy hb,.inr (Hg I.sz hb),λx c e z=>?_,λp hp z=>?_⟩
 ·obtain⟨v,q⟩:=I.cell x c e;exact absurd (Hr q.lt (by rw [z];exact hb)) (Jt _)
 ·exact absurd (Hr (Hn (I.pin p hp).1) (by rw [z];exact hb)) (Jt _)
structure Turn (P:Hq) (w:HU) (K:G1) (tg:Ik) (J:It) (fp:List G6) (it:G6) (tn:Nat->Ip->Prop):Prop where
 mem:it∈fp
 obj:∀ i h,tn i h->∀ b∈fp,∃ o,h.get? b=GZ o/\∀ v,o.data≠.cell v
 keep:∀ i h h',tn i h->(∀ b∈fp,∀ o,h.get? b=GZ o->h'.get? b=GZ o)->tn i h'
 item:∀(X:Cx),X.prog=P->X.w=w->X.K=K->X.calm=true->∀(i:Nat) (pins:List (G6 × Kl)) (s:G5) (σ:St) (H:Hp) (E:G2->G5->Prop),Inv X pins σ H s->(∀ b∈fp,mJ X pins H b)->tn i s.heap->J.go i H ->
  wpAny (model P w) X.A (pyNext (.ref it)) (λr s1=>∃ u,r=GZ u /\
   wpAny (model P w) X.A (letOwnedTupleGo tg (.ref it) u) (λ_ s2=>∃ x H',Inv X pins σ H' s2/\RelV x u/\J.yld i H x H'/\tn (i+1) s2.heap/\∀ b∈fp,H' b=none) E s1) E s
 done:∀(X:Cx),X.prog=P->X.w=w->X.K=K->X.calm=true->∀(i:Nat) (pins:List (G6 × Kl)) (s:G5) (σ:St) (H:Hp) (E:G2->G5->Prop),Inv X pins σ H s->(∀ b∈fp,mJ X pins H b)->tn i s.heap->J.stop i H ->
  wpAny (model P w) X.A (pyNext (.ref it)) (λr s1=>r=none/\Inv X pins σ H s1) E s
 self:∀(A:HX) (i:Nat) (s:G5) (Q:G2->G5->Prop) (E:G2->G5->Prop),tn i s.heap->Q (.ref it) s->wpAny (model P w) A (pyIter (.ref it)) Q E s
abbrev TI:=St->Hp->(It->Hp->Prop)->Prop
def Fv (X:Cx) (pins:List (G6 × Kl)) (σ:St) (tg:Ik) (R:It->Hp->Prop) (itv:G2) (s2:G5):Prop :=
 ∃(it:G6) (fp:List G6) (tn:Nat->Ip->Prop) (J:It) (H':Hp),itv=.ref it/\Inv X pins σ H' s2/\Turn X.prog X.w X.K tg J fp it tn/\tn 0 s2.heap/\(∀ b∈fp,mJ X pins H' b)/\R J H'
def PI (X:Cx) (tg iter:Ik) (wi:TI):Prop :=
 ∀(pins:List (G6 × Kl)) (s:G5) (σ:St) (H:Hp) (R:It->Hp->Prop),Inv X pins σ H s->wi σ H R ->
  wpAny (model X.prog X.w) X.A (eval iter X.env) (λv s1=>wpAny (model X.prog X.w) X.A (pyIter v) (Fv X pins σ tg R) X.xe s1) X.xe s
theorem x4 {M:P6} {A:HX} {E:G2->G5->Prop} {s:G5} {tg:Ik} {it:G6} {u:G2} {o:Kl} {n:String} {vs:Array G2} {Q:Unit->G5->Prop} (ho:s.heap.get? it=GZ o) (hc:o.cls=.type n) (hd:o.data=.fields vs)
    (hn:["enumerate","zip","dict_itemiterator","dict_reverseitemiterator","odict_iterator","itertools.zip_longest","itertools.pairwise"].contains n=false) (hQ:Q () s):wpAny M A (letOwnedTupleGo tg (.ref it) u) Q E s:=by
  unfold letOwnedTupleGo;cases tg<;>first
    | exact G8 hQ
    | (cases u<;>first
        | exact G8 hQ
        | (refine G3 (wpAny_load ho ?_)
           rw [hc,hd];show wpAny M A (if (["enumerate","zip","dict_itemiterator","dict_reverseitemiterator","odict_iterator","itertools.zip_longest","itertools.pairwise"].contains n && vs[0]?==GZ (rawInt _))=true then _ else _) Q E s;rw [if_neg (by intro h;rw [hn,Bool.false_and] at h;cases h)];exact G8 hQ))
noncomputable def Ah (K:G1) (a:G6):It :=
 ⟨λi H=>∃ xs x,aM K H a xs/\xs[i]?=GZ x,λi H x H'=>H'=H/\∀ xs,aM K H a xs->xs[i]?=GZ x,λi H=>∃ xs,aM K H a xs/\xs.length<=i⟩
noncomputable def CO (K:G1) (a:G6):It :=
 ⟨λi H=>∃ xs x,bE K H a xs/\xs[i]?=GZ x,λi H x H'=>H'=H/\∀ xs,bE K H a xs->xs[i]?=GZ x,λi H=>∃ xs,bE K H a xs/\xs.length<=i⟩
noncomputable def Ai (lo:Int) (n:Nat):It:=⟨λi _=>i<n,λi H x H'=>H'=H/\x=.int (lo+i),λi _=>n<=i⟩
theorem wR {P:Hq} {w:HU} {K:G1} {tg:Ik} (a it:G6):Turn P w K tg (Ah K a) [it] it (λi h=>h.IsListIter it a i) where
 mem:=by simp
 obj:=λi h st b hb=>by
  have e:b=it:=by simpa using hb
  subst e;obtain⟨o,e,c,d⟩:=st;exact⟨o,e,λv z=>by rw [d] at z;cases z⟩
 keep:=λi h h' st k=>st.at λo e=>k it (by simp) o e
 item:=by intro X hP hw hK hc i pins s σ H E I hf st hg;subst hP hw hK;obtain⟨xs,x,hq,hx⟩:=hg;obtain⟨its,rv,p,hz⟩:=I.list hq;obtain⟨u,hu,ru⟩:=rv.get hx;obtain⟨f0,f1,f2,f3,f4,f5⟩:=hf it (by simp);refine wpAny_pyNext_list_item st p.isList (x:=u) (by simpa using hu) λh' st' sb=>?_;have I1:Inv X pins σ H { s with heap:=h' }:=I.turned (t':=s.toks) (λb o hb e=>(sb.2 b hb).trans e) f0 f1 f3 f4 f5;obtain⟨o,e,c,d⟩:=id st';exact⟨u,rfl,x4 (s:={ s with heap:=h' }) e c d (by decide) ⟨x,H,I1,ru,⟨rfl,λys hy=>by rw [I.lM hy hq];exact hx⟩,st',λb hb=>(hf b hb).1⟩⟩
 done:=by intro X hP hw hK hc i pins s σ H E I hf st hg;subst hP hw hK;obtain⟨xs,hq,hx⟩:=hg;obtain⟨its,rv,p,hz⟩:=I.list hq;obtain⟨f0,f1,f2,f3,f4,f5⟩:=hf it (by simp);have hl:=rv.length;exact wpAny_pyNext_list_end (I.ok.hd hc) st p.isList (by simp;lia) λh' eb=>⟨rfl,I.turned (t':=s.toks) (λb o hb e=>eb b o hb e) f0 f1 f3 f4 f5⟩
 self:=λ_ _ _ _ _ st h=>wpAny_pyIter_listiter st h
theorem uw {P:Hq} {w:HU} {K:G1} {tg:Ik} (a it:G6):Turn P w K tg (CO K a) [it] it (λi h=>h.IsTupleIter it a i) where
 mem:=by simp
 obj:=λi h st b hb=>by
  have e:b=it:=by simpa using hb
  subst e;obtain⟨o,e,c,d⟩:=st;exact⟨o,e,λv z=>by rw [d] at z;cases z⟩
 keep:=λi h h' st k=>st.at λo e=>k it (by simp) o e
 item:=by intro X hP hw hK hc i pins s σ H E I hf st hg;subst hP hw hK;obtain⟨xs,x,hq,hx⟩:=hg;obtain⟨its,rv,p,hz⟩:=I.tuple hq;obtain⟨u,hu,ru⟩:=rv.get hx;obtain⟨f0,f1,f2,f3,f4,f5⟩:=hf it (by simp);refine wpAny_pyNext_tuple_item st (show s.heap.IsTuple a its.toArray from p) (x:=u) (by simpa using hu) λh' st' sb=>?_;have I1:Inv X pins σ H { s with heap:=h' }:=I.turned (t':=s.toks) (λb o hb e=>(sb.2 b hb).trans e) f0 f1 f3 f4 f5;obtain⟨o,e,c,d⟩:=id st';exact⟨u,rfl,x4 (s:={ s with heap:=h' }) e c d (by decide) ⟨x,H,I1,ru,⟨rfl,λys hy=>by rw [I.oI hy hq];exact hx⟩,st',λb hb=>(hf b hb).1⟩⟩
 done:=by intro X hP hw hK hc i pins s σ H E I hf st hg;subst hP hw hK;obtain⟨xs,hq,hx⟩:=hg;obtain⟨its,rv,p,hz⟩:=I.tuple hq;obtain⟨f0,f1,f2,f3,f4,f5⟩:=hf it (by simp);have hl:=rv.length;exact wpAny_pyNext_tuple_end (I.ok.hd hc) st (show s.heap.IsTuple a its.toArray from p) (by simp;lia) λh' eb=>⟨rfl,I.turned (t':=s.toks) (λb o hb e=>eb b o hb e) f0 f1 f3 f4 f5⟩
 self:=λ_ _ _ _ _ st h=>wpAny_pyIter_tupleiter st h
theorem uv {P:Hq} {w:HU} {K:G1} {tg:Ik} (it:G6) (lo:Int) (n:Nat):Turn P w K tg (Ai lo n) [it] it (λi h=>IsRangeIter h it (lo+(i:Nat)*1) ((n:Int)-(i:Nat)) 1) where
 mem:=by simp
 obj:=λi h st b hb=>by
  have e:b=it:=by simpa using hb
  subst e;exact⟨_,st,λv z=>by
   have z':Data.fields _=Data.cell v:=z;cases z'⟩
 keep:=λi h h' st k=>k it (by simp) _ st
 item:=by intro X hP hw hK hc i pins s σ H E I hf st hg;subst hP hw hK;obtain⟨f0,f1,f2,f3,f4,f5⟩:=hf it (by simp);have W:=Walks.range (prog:=X.prog) (w:=X.w) (I.ok.hd hc) it lo 1 n;refine W.item i s _ _ hg st λv h' tk hv st' kk=>?_;obtain⟨t,rfl⟩:=hv;have I1:Inv X pins σ H { s with heap:=h',toks:=tk }:=I.turned (λb o hb e=>kk b o (by simpa using hb) e) f0 f1 f3 f4 f5;refine⟨_,rfl,x4 (s:={ s with heap:=h',toks:=tk }) (n := "range_iterator") st' rfl rfl (by decide) ⟨.int (lo+i),H,I1,⟨t,?_⟩,⟨rfl,rfl⟩,st',λb hb=>(hf b hb).1⟩⟩;rw [Jo]
 done:=by intro X hP hw hK hc i pins s σ H E I hf st hg;subst hP hw hK;obtain⟨f0,f1,f2,f3,f4,f5⟩:=hf it (by simp);exact wpAny_pyNext_range_end (I.ok.hd hc) st (by have:n<=i:=hg;lia) λh' eb=>⟨rfl,I.turned (t':=s.toks) (λb o hb e=>eb b o hb e) f0 f1 f3 f4 f5⟩
 self:=λ_ _ _ _ _ st h=>wpAny_pyIter_rangeiter st h
section
variable {X:Cx} {tg:Ik}
def x8 (K:G1) (tl:TE):TI:=λσ H R=>tl σ H λx H1=>∃ a,x=.ref a/\(∃ xs,aM K H1 a xs)/\R (Ah K a) H1
def EB (K:G1) (tl:TE):TI:=λσ H R=>tl σ H λx H1=>∃ a,x=.ref a/\(∃ xs,bE K H1 a xs)/\R (CO K a) H1
theorem aW {l:Ik} {tl:TE} (hl:PE X l tl):PI X tg l (x8 X.K tl):=by
 intro pins s σ H R I h;refine a9 (hl pins s σ H _ I h) λv s1 hZ=>?_;obtain⟨x,H1,I1,r1,q1⟩:=hZ;obtain⟨a,e,⟨xs,hq⟩,q⟩:=q1;subst e;cases r1;obtain⟨its,rv,p,hz⟩:=I1.list hq;refine Qa p.isList ?_;refine⟨s1.heap.objs.size,[s1.heap.objs.size],_,_,H1,rfl,I1.kept (t':=s1.toks) λb o e=>G7 _ e,wR a _,⟨_,Hs _ rfl,rfl,rfl⟩,λb hb=>?_,q⟩;have e:b=s1.heap.objs.size:=by simpa using hb
 subst e;exact I1.mR (Hd _) (I1.hok.fresh (Hd _))
theorem l6 {l:Ik} {tl:TE} (hl:PE X l tl):PI X tg l (EB X.K tl):=by
 intro pins s σ H R I h;refine a9 (hl pins s σ H _ I h) λv s1 hZ=>?_;obtain⟨x,H1,I1,r1,q1⟩:=hZ;obtain⟨a,e,⟨xs,hq⟩,q⟩:=q1;subst e;cases r1;obtain⟨its,rv,p,hz⟩:=I1.tuple hq;refine PN (show s1.heap.IsTuple a its.toArray from p) ?_;refine⟨s1.heap.objs.size,[s1.heap.objs.size],_,_,H1,rfl,I1.kept (t':=s1.toks) λb o e=>G7 _ e,uw a _,⟨_,Hs _ rfl,rfl,rfl⟩,λb hb=>?_,q⟩;have e:b=s1.heap.objs.size:=by simpa using hb
 subst e;exact I1.mR (Hd _) (I1.hok.fresh (Hd _))
theorem rR {pins:List (G6 × Kl)} {σ:St} {H:Hp} {s:G5} {R:It->Hp->Prop} {E:G2->G5->Prop} {lo hi:Int} {t u v:Tok} {tk:Nat} (I:Inv X pins σ H s) (h1:-(2^62)<=lo) (h2:lo<2^62) (h3:-(2^62)<=hi) (h4:hi<2^62)
  (q:R (Ai lo (hi-lo).toNat) H):wpAny (model X.prog X.w) X.A (pyIter (.ref s.heap.objs.size)) (Fv X pins σ tg R) E { s with heap:=s.heap.push { cls:=.type "range",data:=.fields #[.int lo t,.int hi u,.int 1 v] },toks:=tk }:=by
 refine wpAny_pyIter_range (IsRange.new ..) (small_one h1 h2 h3 h4) ?_;have I1:Inv X pins σ H { s with heap:=s.heap.push { cls:=.type "range",data:=.fields #[.int lo t,.int hi u,.int 1 v] },toks:=tk }:=I.kept λb o e=>G7 _ e;refine⟨(s.heap.push { cls:=.type "range",data:=.fields #[.int lo t,.int hi u,.int 1 v] }).objs.size,[(s.heap.push { cls:=.type "range",data:=.fields #[.int lo t,.int hi u,.int 1 v] }).objs.size],_,_,H,rfl,
  I1.kept (t':=tk) λb o e=>G7 _ e,uv _ lo (hi-lo).toNat,?_,λb hb=>?_,q⟩
 ·have e1:lo+((0:Nat):Int)*1=lo:=by simp
  have e2:(((hi-lo).toNat:Nat):Int)-((0:Nat):Int)=Builtin.Range.rangeSize lo hi 1:=by rw [rangeSize_one];split<;>lia
  show IsRangeIter _ _ (lo+((0:Nat):Int)*1) ((((hi-lo).toNat:Nat):Int)-((0:Nat):Int)) 1;rw [e1,e2];exact Hs _ rfl
 ·have e:b=(s.heap.push { cls:=.type "range",data:=.fields #[.int lo t,.int hi u,.int 1 v] }).objs.size:=by simpa using hb
  subst e;exact I1.mR (Hd _) (I1.hok.fresh (Hd _))
def B1 (ta:TA):TI:=λσ H R=>ta σ H λvs H1=>∃ j:Int,vs=[.int j] /\ -(2^62)<=j/\j<2^62/\R (Ai 0 j.toNat) H1
def B3 (ta:TA):TI:=λσ H R=>ta σ H λvs H1=>∃ i j:Int,vs=[.int i,.int j]/\(-(2^62)<=i/\i<2^62 /\ -(2^62)<=j/\j<2^62)/\R (Ai i (j-i).toNat) H1
theorem b8 {a:Ik} {ta:TA} {p pos:K8} (hg:Gl X "range") (hm:X.mg "range"=none) (ha:PA X [a] ta) (hs:autoParam (starEach [a] X.env=[(false,eval a X.env)]) Z0._auto_1):PI X tg (.Call (.Name "range" p) [a] [] pos) (B1 ta):=by
 intro pins s σ H R I h;refine Call_ (iE I hg hm boot_range (JW (a9 (ha pos pins s σ H _ I h) λus s1 hZ=>?_) hs rfl));obtain⟨vs,H1,I1,r1,q1⟩:=hZ;obtain⟨j,e,q1,q2,q⟩:=q1;subst e;cases r1 with
 | cons r rr =>cases rr;obtain⟨t,rfl⟩:=r;exact call_range_1 (rR I1 (by lia) (by lia) q1 q2 (by simpa using q))
theorem wC {a b:Ik} {ta:TA} {p pos:K8} (hg:Gl X "range") (hm:X.mg "range"=none) (ha:PA X [a,b] ta) (hs:autoParam (starEach [a,b] X.env=[(false,eval a X.env),(false,eval b X.env)]) Z0._auto_1) (hs2:autoParam (starEach [b] X.env=[(false,eval b X.env)]) Z0._auto_1) :
  PI X tg (.Call (.Name "range" p) [a,b] [] pos) (B3 ta):=by
 intro pins s σ H R I h;refine Call_ (iE I hg hm boot_range (JW (a9 (ha pos pins s σ H _ I h) λus s1 ⟨vs,H1,I1,r1,q1⟩=>?_) (by rw [hs,hs2]) (by rw [hs2];rfl)));obtain⟨i,j,e,⟨q1,q2,q3,q4⟩,q⟩:=q1;subst e;cases r1 with
 | cons r rr =>
  cases rr with
  | cons r' rr =>cases rr;obtain⟨t,rfl⟩:=r;obtain⟨t',rfl⟩:=r';exact call_range_2 (rR I1 q1 q2 q3 q4 q)
def Fc (wi:TI) (g:TG) (tb:TS):TS:=λD σ H=>wi σ H λJ H1=>∃ W:Nat->Nat->St->Hp->Prop,(∃ m,W 0 m σ H1)/\∀ i m σ H,W i m σ H ->
 (J.stop i H/\D.nx σ H)∨(J.go i H/\∃ N:St->Hp->Prop,(∀ σ' H',N σ' H'->∃ m',m'<m/\W (i+1) m' σ' H')/\∀ x H',J.yld i H x H'->g x σ H' λσ2 H2=>tb { D with nx:=N,ct:=N,bk:=D.nx } σ2 H2)
noncomputable def gi (fp:List G6) (h:Ip):List (G6 × Kl):=fp.filterMap λb=>(h.get? b).map λo=>(b,o)
theorem c8 {fp:List G6} {h:Ip} {b:G6} {o:Kl} (hb:b∈fp) (e:h.get? b=GZ o):(b,o)∈gi fp h:=Nw.mpr ⟨b,hb,by rw [e];rfl⟩
theorem jT {fp:List G6} {h:Ip} {p:G6 × Kl} (hp:p∈gi fp h):p.1∈fp/\h.get? p.1=GZ p.2:=by
 obtain⟨b,hb,e⟩:=Nw.mp hp;cases q:h.get? b with
 | none=>rw [q] at e;cases e
 | some o =>rw [q] at e;have e':(b,o)=p:=Ja e;subst e';exact⟨hb,q⟩
theorem Inv.pinned {pins:List (G6 × Kl)} {σ:St} {H:Hp} {s:G5} {fp:List G6} (I:Inv X pins σ H s) (hf:∀ b∈fp,mJ X pins H b) (ho:∀ b∈fp,∃ o,s.heap.get? b=GZ o/\∀ v,o.data≠.cell v):Inv X (pins++gi fp s.heap) σ H s :=
 I.eG λp hp=>(IC.mp hp).elim (λz=>I.pin p (Hm _ z)) λz=>by obtain⟨hb,e⟩:=jT z;obtain⟨f0,f1,f2,_⟩:=hf p.1 hb;obtain⟨o,e',d⟩:=ho p.1 hb;rw [e] at e';cases e';exact⟨e,f0,f1,f2,d⟩
theorem Inv.gM {pins pl:List (G6 × Kl)} {σ:St} {H:Hp} {s:G5} (I:Inv X (pins++pl) σ H s):Inv X pins σ H s:=I.eG λp hp=>I.pin p (Hm _ (JT _ hp))
theorem bN {iter:Ik} {body:List Le} {wi:TI} {g:TG} {tb:TS} {pos:K8} (hp:PassesOwn (model X.prog X.w) X.A X.env X.xe) (hc:X.calm=true) (hi:PI X tg iter wi) (hg:PG X tg g) (hb:gN X body tb)
  (hs:autoParam (∀ x,foldedSetIterable iter X.env x=pure x) Z4._auto_1):PS X (.For tg iter body [] pos) (Fc wi g tb):=by
 intro pins s σ H D I h;refine wpAny_For (a9 (hi pins s σ H _ I h) λv s1 h1=>a9 h1 λitv s2 h2=>?_) hs;obtain⟨it,fp,tn,J,H2,e,I2,T,st2,f2,W,⟨m0,w0⟩,turn⟩:=h2;subst e
 -- what stays true of the iterator's objects through the loop
 have stat:∀{H':Hp},(∀ b∈fp,H' b=none)->∀ b∈fp,mJ X pins H' b:=λhn b hb=>⟨hn b hb,(f2 b hb).2⟩
 refine codeAny_forLoop_any (λn s'=>∃ i σ' H',Inv X pins σ' H' s'/\tn i s'.heap/\(∀ b∈fp,H' b=none)/\W i n σ' H') ?_ m0 ⟨0,σ,H2,I2,st2,λb hb=>(f2 b hb).1,w0⟩;rintro n s3 ⟨i,σ3,H3,I3,st3,fr3,w3⟩;rcases turn i n σ3 H3 w3 with⟨stop,qn⟩|⟨go,N,hN,step⟩
 ·refine KY hp (a9 (T.done X rfl rfl rfl hc i pins s3 σ3 H3 X.xe I3 (stat fr3) st3 stop) λr s4 ⟨hr,I4⟩=>?_);subst hr;exact Lu ⟨σ3,H3,I4,qn⟩
 ·refine KY hp (a9 (T.item X rfl rfl rfl hc i pins s3 σ3 H3 X.xe I3 (stat fr3) st3 go) λr s4 ⟨u,hr,h4⟩=>?_);subst hr;refine KY hp (a9 h4 λ_ s5 hZ=>?_);obtain⟨x,H5,I5,r5,y5,st5,fr5⟩:=hZ;have I5':=I5.pinned (stat fr5) (T.obj _ _ st5);refine KY hp (a9 (hg _ s5 σ3 H5 x u _ I5' r5 (step x H5 y5)) λ_ s6 ⟨σ6,H6,I6,q6⟩=>?_);refine KY hp (a9 (hb _ s6 σ6 H6 _ I6 q6) λf s7 q7=>?_);have again:∀{σ7:St} {H7:Hp},Inv X (pins++gi fp s5.heap) σ7 H7 s7->N σ7 H7->∃ m,m<n/\∃ i σ' H',Inv X pins σ' H' s7/\tn i s7.heap/\(∀ b∈fp,H' b=none)/\W i m σ' H':=λ{σ7 H7} I7 n7=>by obtain⟨m',hm,w7⟩:=hN σ7 H7 n7;refine⟨m',hm,i+1,σ7,H7,I7.gM,T.keep _ _ _ st5 λb hb o e=>(I7.pin (b,o) (Hm _ (Hm _ (c8 hb e)))).1,λb hb=>?_,w7⟩;obtain⟨o,e,d⟩:=T.obj _ _ st5 b hb;exact (I7.pin (b,o) (Hm _ (Hm _ (c8 hb e)))).2.1
  cases f with
  | next=>obtain⟨σ7,H7,I7,n7⟩:=q7;exact again I7 n7
  | cont=>obtain⟨σ7,H7,I7,n7⟩:=q7;exact again I7 n7
  | brk=>obtain⟨σ7,H7,I7,q7⟩:=q7;exact⟨σ7,H7,I7.gM,q7⟩
  | ret v=>obtain⟨x7,σ7,H7,I7,r7,q7⟩:=q7;exact⟨x7,σ7,H7,I7.gM,r7,q7⟩
end
theorem xW {K:G1} {a:G6} {xs:List V} {g:TG} {tb:TS} {D:Ends} {σ:St} {H:Hp} (Pv:Nat->St->Hp->Prop) (h0:Pv 0 σ H) (hl:∀ i σ H,i<=xs.length->Pv i σ H->aM K H a xs)
  (hs:∀ i x σ H,xs[i]?=GZ x->Pv i σ H->g x σ H λσ2 H2=>tb { D with nx:=Pv (i+1),ct:=Pv (i+1),bk:=D.nx } σ2 H2) (hd:∀ σ H,Pv xs.length σ H->D.nx σ H) :
  ∃ W:Nat->Nat->St->Hp->Prop,(∃ m,W 0 m σ H)/\∀ i m σ H,W i m σ H ->
   ((Ah K a).stop i H/\D.nx σ H)∨((Ah K a).go i H/\∃ N:St->Hp->Prop,(∀ σ' H',N σ' H'->∃ m',m'<m/\W (i+1) m' σ' H')/\∀ x H',(Ah K a).yld i H x H'->g x σ H' λσ2 H2=>tb { D with nx:=N,ct:=N,bk:=D.nx } σ2 H2):=by
 refine⟨λi m σ H=>m=xs.length-i/\i<=xs.length/\Pv i σ H,⟨xs.length,by simp,IV _,h0⟩,?_⟩;rintro i m σ H ⟨rfl,hi,p⟩;have q:=hl i σ H hi p;by_cases hlt:i<xs.length
 ·refine .inr ⟨⟨xs,xs[i],q,by simp [hlt]⟩,Pv (i+1),λσ' H' p'=>⟨xs.length-(i+1),by lia,rfl,hlt,p'⟩,λx H' y=>?_⟩;obtain⟨e,y⟩:=y;subst e;exact hs i x σ _ (y xs q) p
 ·have e:i=xs.length:=by lia
  subst e;exact .inl ⟨⟨xs,q,Hd _⟩,hd σ H p⟩
theorem AL {K:G1} {a:G6} {xs:List V} {g:TG} {tb:TS} {D:Ends} {σ:St} {H:Hp} (Pv:Nat->St->Hp->Prop) (h0:Pv 0 σ H) (hl:∀ i σ H,i<=xs.length->Pv i σ H->bE K H a xs)
  (hs:∀ i x σ H,xs[i]?=GZ x->Pv i σ H->g x σ H λσ2 H2=>tb { D with nx:=Pv (i+1),ct:=Pv (i+1),bk:=D.nx } σ2 H2) (hd:∀ σ H,Pv xs.length σ H->D.nx σ H) :
  ∃ W:Nat->Nat->St->Hp->Prop,(∃ m,W 0 m σ H)/\∀ i m σ H,W i m σ H ->
   ((CO K a).stop i H/\D.nx σ H)∨((CO K a).go i H/\∃ N:St->Hp->Prop,(∀ σ' H',N σ' H'->∃ m',m'<m/\W (i+1) m' σ' H')/\∀ x H',(CO K a).yld i H x H'->g x σ H' λσ2 H2=>tb { D with nx:=N,ct:=N,bk:=D.nx } σ2 H2):=by
 refine⟨λi m σ H=>m=xs.length-i/\i<=xs.length/\Pv i σ H,⟨xs.length,by simp,IV _,h0⟩,?_⟩;rintro i m σ H ⟨rfl,hi,p⟩;have q:=hl i σ H hi p;by_cases hlt:i<xs.length
 ·refine .inr ⟨⟨xs,xs[i],q,by simp [hlt]⟩,Pv (i+1),λσ' H' p'=>⟨xs.length-(i+1),by lia,rfl,hlt,p'⟩,λx H' y=>?_⟩;obtain⟨e,y⟩:=y;subst e;exact hs i x σ _ (y xs q) p
 ·have e:i=xs.length:=by lia
  subst e;exact .inl ⟨⟨xs,q,Hd _⟩,hd σ H p⟩
theorem vQ {lo:Int} {n:Nat} {g:TG} {tb:TS} {D:Ends} {σ:St} {H:Hp} (Pv:Nat->St->Hp->Prop) (h0:Pv 0 σ H)
  (hs:∀ i σ H,i<n->Pv i σ H->g (.int (lo+i)) σ H λσ2 H2=>tb { D with nx:=Pv (i+1),ct:=Pv (i+1),bk:=D.nx } σ2 H2) (hd:∀ σ H,Pv n σ H->D.nx σ H) :
  ∃ W:Nat->Nat->St->Hp->Prop,(∃ m,W 0 m σ H)/\∀ i m σ H,W i m σ H ->
   ((Ai lo n).stop i H/\D.nx σ H)∨((Ai lo n).go i H/\∃ N:St->Hp->Prop,(∀ σ' H',N σ' H'->∃ m',m'<m/\W (i+1) m' σ' H')/\∀ x H',(Ai lo n).yld i H x H'->g x σ H' λσ2 H2=>tb { D with nx:=N,ct:=N,bk:=D.nx } σ2 H2):=by
 refine⟨λi m σ H=>m=n-i/\i<=n/\Pv i σ H,⟨n,by simp,IV _,h0⟩,?_⟩;rintro i m σ H ⟨rfl,hi,p⟩;by_cases hlt:i<n
 ·refine .inr ⟨hlt,Pv (i+1),λσ' H' p'=>⟨n-(i+1),by lia,rfl,hlt,p'⟩,λx H' y=>?_⟩;obtain⟨e,y⟩:=y;subst e y;exact hs i σ _ hlt p
 ·have e:i=n:=by lia
  subst e;exact .inl ⟨Hd _,hd σ H p⟩
abbrev R2:=V->V->Hp->VK->Prop
def jY (X:Cx) (f:G2->G2->Pj G2) (r:R2):Prop :=
 ∀(pins:List (G6 × Kl)) (s:G5) (σ:St) (H:Hp) (x y:V) (v u:G2) (Q:VK),Inv X pins σ H s->RelV x v->RelV y u->r x y H Q ->
  wpAny (model X.prog X.w) X.A (f v u) (EP X pins σ Q) X.xe s
def FL (X:Cx) (f:G2->Pj G2) (r:V->Hp->VK->Prop):Prop :=
 ∀(pins:List (G6 × Kl)) (s:G5) (σ:St) (H:Hp) (x:V) (v:G2) (Q:VK),Inv X pins σ H s->RelV x v->r x H Q ->
  wpAny (model X.prog X.w) X.A (f v) (EP X pins σ Q) X.xe s
def eA (X:Cx) (f:G2) (r:List V->Hp->VK->Prop):Prop :=
 ∀(pins:List (G6 × Kl)) (s:G5) (σ:St) (H:Hp) (xs:List V) (us:List G2) (Q:VK),Inv X pins σ H s->Vals xs us->r xs H Q ->
  wpAny (model X.prog X.w) X.A (call f us) (EP X pins σ Q) X.xe s
def FK (X:Cx) (r:V->Hp->(Bool->Hp->Prop)->Prop):Prop :=
 ∀(pins:List (G6 × Kl)) (s:G5) (σ:St) (H:Hp) (x:V) (v:G2) (Q:Bool->Hp->Prop),Inv X pins σ H s->RelV x v->r x H Q ->
  wpAny (model X.prog X.w) X.A (truthy v) (TP X pins σ Q) X.xe s
def Fh (r:R2) (ta tb:TE):TE:=λσ H Q=>ta σ H λx H1=>tb σ H1 λy H2=>r x y H2 Q
def Gz (r:V->Hp->VK->Prop) (ta:TE):TE:=λσ H Q=>ta σ H λx H1=>r x H1 Q
def rI (C:Int->Int->Prop) (g:Int->Int->V):R2:=λx y H Q=>∃ i j,x=.int i/\y=.int j/\C i j/\Q (g i j) H
def Ca (g:Int->Int->V):R2:=λx y H Q=>∃ i j,x=.int i/\y=.int j/\Q (g i j) H
def rU (g:Int->V):V->Hp->VK->Prop:=λx H Q=>∃ i,x=.int i/\Q (g i) H
section
variable {X:Cx} {a b c:Ik} {ta tb tc:TE} {pos:K8}
theorem CZ (ha:PE X a ta) (hb:PE X b tb) {pins:List (G6 × Kl)} {s:G5} {σ:St} {H:Hp} {R:V->V->Hp->Prop} (I:Inv X pins σ H s)
  (h:ta σ H λx H1=>tb σ H1 λy H2=>R x y H2) {Q:G2->G5->Prop} {f:G2->G2->Pj G2}
  (hf:∀ v u s2 x y H2,Inv X pins σ H2 s2->RelV x v->RelV y u->R x y H2->wpAny (model X.prog X.w) X.A (f v u) Q X.xe s2) :
  wpAny (model X.prog X.w) X.A (eval a X.env) (λv s₁=>wpAny (model X.prog X.w) X.A (eval b X.env) (λu s₂=>wpAny (model X.prog X.w) X.A (f v u) Q X.xe s₂) X.xe s₁) X.xe s:=by
 refine a9 (ha pins s σ H _ I h) λv s1 hZ=>?_;obtain⟨x,H1,I1,r1,q1⟩:=hZ;refine a9 (hb pins s1 σ H1 _ I1 q1) λu s2 hZ=>?_;obtain⟨y,H2,I2,r2,q2⟩:=hZ;exact hf v u s2 x y H2 I2 r1 r2 q2
theorem au {op:OT} {r:R2} (ho:jY X (binaryOp op) r) (ha:PE X a ta) (hb:PE X b tb):PE X (.BinOp a op b pos) (Fh r ta tb):=by intro pins s σ H Q I h;exact wpAny_BinOp (CZ ha hb I h λv u s2 x y H2 I2 rx ry q=>ho pins s2 σ H2 x y v u Q I2 rx ry q)
theorem rN {op:UnaryOp} {r:V->Hp->VK->Prop} (ho:FL X (unaryOp op) r) (ha:PE X a ta):PE X (.UnaryOp op a pos) (Gz r ta):=by intro pins s σ H Q I h;exact UnaryOp_ (a9 (ha pins s σ H _ I h) λv s1 ⟨x,H1,I1,r1,q1⟩=>ho pins s1 σ H1 x v Q I1 r1 q1)
theorem Eb {f:G2->G2->Pj G2} {C:Int->Int->Prop} {g:Int->Int->Int}
  (rule:∀(i j:Int) (t u:Tok) (s:G5) (Q:G2->G5->Prop) (E:G2->G5->Prop),C i j->Q (.int (g i j) s.toks) { s with toks:=s.toks+1 }->wpAny (model X.prog X.w) X.A (f (.int i t) (.int j u)) Q E s) :
  jY X f (rI C λi j=>.int (g i j)):=by
 intro pins s σ H x y v u Q I rx ry h;obtain⟨i,j,rfl,rfl,hc,q⟩:=h;obtain⟨t,rfl⟩:=rx;obtain⟨t',rfl⟩:=ry;exact rule i j t t' s _ _ hc ⟨.int (g i j),H,I.tok _,⟨_,rfl⟩,q⟩
theorem DI {f:G2->G2->Pj G2} {g:Int->Int->Int}
  (rule:∀(i j:Int) (t u:Tok) (s:G5) (Q:G2->G5->Prop) (E:G2->G5->Prop),Q (.int (g i j) s.toks) { s with toks:=s.toks+1 }->wpAny (model X.prog X.w) X.A (f (.int i t) (.int j u)) Q E s) :
  jY X f (Ca λi j=>.int (g i j)):=by
 intro pins s σ H x y v u Q I rx ry h;obtain⟨i,j,rfl,rfl,q⟩:=h;obtain⟨t,rfl⟩:=rx;obtain⟨t',rfl⟩:=ry;exact rule i j t t' s _ _ ⟨.int (g i j),H,I.tok _,⟨_,rfl⟩,q⟩
theorem ER {f:G2->G2->Pj G2} {g:Int->Int->Bool}
  (rule:∀(i j:Int) (t u:Tok) (s:G5) (Q:G2->G5->Prop) (E:G2->G5->Prop),Q (.bool (g i j)) s->wpAny (model X.prog X.w) X.A (f (.int i t) (.int j u)) Q E s) :
  jY X f (Ca λi j=>.bl (g i j)):=by
 intro pins s σ H x y v u Q I rx ry h;obtain⟨i,j,rfl,rfl,q⟩:=h;obtain⟨t,rfl⟩:=rx;obtain⟨t',rfl⟩:=ry;exact rule i j t t' s _ _ ⟨.bl (g i j),H,I,rfl,q⟩
def Ee (i j:Int):Prop:=0<=j/\j<=1000000/\i.natAbs<2^64
def Ed (i j:Int):Prop:=(-(2^64)<i/\i<2^64)∨(-(2^64)<j/\j<2^64)
theorem Ed.ok {i j:Int} (h:Ed i j):IntMulOk i j:=by
 rcases h with⟨h1,h2⟩|⟨h1,h2⟩
 ·exact .of_left (RS h1 h2)
 ·exact .of_right (RS h1 h2)
theorem cq:jY X (binaryOp .Add) (Ca λi j=>.int (i+j)):=DI λ_ _ _ _ _ _ _ q=>add_int q
theorem cp:jY X (binaryOp .Sub) (Ca λi j=>.int (i-j)):=DI λ_ _ _ _ _ _ _ q=>sub_int q
theorem aK:jY X (binaryOp .Mod) (rI (λ_ j=>0<j) λi j=>.int (i%j)):=Eb λi j _ _ _ _ _ hc q=>by have h1:(0:Int)<j:=hc;exact mod_int' (by lia) (by rw [Int.fmod_eq_emod_of_nonneg i (by lia)];exact q)
theorem lV:jY X (binaryOp .Pow) (rI Ee λi j=>.int (i^j.toNat)):=Eb λ_ _ _ _ _ _ _ hc q=>pow_int_small hc.1 hc.2.1 hc.2.2 q
theorem pF:jY X (inplaceOp .Add) (Ca λi j=>.int (i+j)):=DI λ_ _ _ _ _ _ _ q=>Rf q
theorem GY {f:G2->Pj G2} {g:Int->Int}
  (rule:∀(i:Int) (t:Tok) (s:G5) (Q:G2->G5->Prop) (E:G2->G5->Prop),Q (.int (g i) s.toks) { s with toks:=s.toks+1 }->wpAny (model X.prog X.w) X.A (f (.int i t)) Q E s) :
  FL X f (rU λi=>.int (g i)):=by
 intro pins s σ H x v Q I rx h;obtain⟨i,rfl,q⟩:=h;obtain⟨t,rfl⟩:=rx;exact rule i t s _ _ ⟨.int (g i),H,I.tok _,⟨_,rfl⟩,q⟩
theorem mH:FL X (unaryOp .USub) (rU λi=>.int (-i)):=GY λ_ _ _ _ _ q=>neg_int q
end
noncomputable def pZ:V->V->Bool
 | .non,.non=>true | .non,.int _=>true | .int _,.non=>true | .non,.bl _=>true | .bl _,.non=>true | .non,.str _=>true | .str _,.non=>true
 | .int _,.int _=>true | .bl _,.bl _=>true | .str _,.str _=>true | .byt _,.byt _=>true
 | .int _,.str _=>true | .str _,.int _=>true | .bl _,.str _=>true | .str _,.bl _=>true
 | _,_=>false
def Gr:R2:=λx y H Q=>pZ x y=true/\Q (.bl (decide (x=y))) H
def Gu:R2:=λx y H Q=>pZ x y=true/\Q (.bl (!decide (x=y))) H
theorem uF {i j:Int}:decide (V.int i=V.int j)=(i==j):=by rw [Lv];simp
theorem xB {i j:Bool}:decide (V.bl i=V.bl j)=(i==j):=by rw [Lv];simp
theorem uG {i j:HA}:decide (V.str i=V.str j)=(i==j):=by rw [Lv];simp
theorem uE {i j:Array UInt8}:decide (V.byt i=V.byt j)=(i.toList==j.toList):=by rw [Lv];cases i;cases j;simp
section
variable {X:Cx} {a b c:Ik} {ta tb tc:TE} {pos:K8}
theorem aR {pins:List (G6 × Kl)} {σ:St} {H:Hp} {s:G5} {Q:VK} {k k':Bool} (I:Inv X pins σ H s) (q:Q (.bl k) H) (e:k=k'):EP X pins σ Q (.bool k') s:=by subst e;exact⟨.bl k,H,I,rfl,q⟩
theorem cM:jY X (compareOp .Eq) Gr:=by
 intro pins s σ H x y v u Q I rx ry h;obtain⟨hs,q⟩:=h;cases x with
 | non =>
  cases rx;cases y with
  | non=>cases ry;exact RC (aR I q (by simp))
  | bl j=>cases ry;exact RD (aR I q (by simp))
  | int j=>obtain⟨t',rfl⟩:=ry;exact RT (aR I q (by simp))
  | str j=>obtain⟨t',rfl⟩:=ry;exact RU (aR I q (by simp))
  | _=>exact absurd (show false=true from hs) HM
 | bl i =>
  cases rx;cases y with
  | non=>cases ry;exact RE (aR I q (by simp))
  | bl j=>cases ry;exact eq_bool (aR I q xB)
  | str j=>obtain⟨t',rfl⟩:=ry;exact RF (aR I q (by simp))
  | _=>exact absurd (show false=true from hs) HM
 | int i =>
  obtain⟨t,rfl⟩:=rx;cases y with
  | non=>cases ry;exact RV (aR I q (by simp))
  | int j=>obtain⟨t',rfl⟩:=ry;exact eq_int (aR I q uF)
  | str j=>obtain⟨t',rfl⟩:=ry;exact RW (aR I q (by simp))
  | _=>exact absurd (show false=true from hs) HM
 | str i =>
  obtain⟨t,rfl⟩:=rx;cases y with
  | non=>cases ry;exact RX (aR I q (by simp))
  | bl j=>cases ry;exact RG (aR I q (by simp))
  | int j=>obtain⟨t',rfl⟩:=ry;exact RY (aR I q (by simp))
  | str j=>obtain⟨t',rfl⟩:=ry;exact eq_str (aR I q uG)
  | _=>exact absurd (show false=true from hs) HM
 | byt i =>
  obtain⟨t,rfl⟩:=rx;cases y with
  | byt j=>obtain⟨t',rfl⟩:=ry;exact PySem.W.eq_bytes (aR I q uE)
  | _=>exact absurd (show false=true from hs) HM
 | _=>cases y<;>exact absurd (show false=true from hs) HM
theorem eC:jY X (compareOp .NotEq) Gu:=by
 intro pins s σ H x y v u Q I rx ry h;obtain⟨hs,q⟩:=h;cases x with
 | non =>
  cases rx;cases y with
  | non=>cases ry;exact RH (aR I q (by simp))
  | bl j=>cases ry;exact RI (aR I q (by simp))
  | int j=>obtain⟨t',rfl⟩:=ry;exact RZ (aR I q (by simp))
  | str j=>obtain⟨t',rfl⟩:=ry;exact R0 (aR I q (by simp))
  | _=>exact absurd (show false=true from hs) HM
 | bl i =>
  cases rx;cases y with
  | non=>cases ry;exact RJ (aR I q (by simp))
  | bl j=>cases ry;exact ne_bool (aR I q (congrArg not xB))
  | str j=>obtain⟨t',rfl⟩:=ry;exact RK (aR I q (by simp))
  | _=>exact absurd (show false=true from hs) HM
 | int i =>
  obtain⟨t,rfl⟩:=rx;cases y with
  | non=>cases ry;exact R1 (aR I q (by simp))
  | int j=>obtain⟨t',rfl⟩:=ry;exact ne_int (aR I q (congrArg not uF))
  | str j=>obtain⟨t',rfl⟩:=ry;exact R3 (aR I q (by simp))
  | _=>exact absurd (show false=true from hs) HM
 | str i =>
  obtain⟨t,rfl⟩:=rx;cases y with
  | non=>cases ry;exact R4 (aR I q (by simp))
  | bl j=>cases ry;exact RL (aR I q (by simp))
  | int j=>obtain⟨t',rfl⟩:=ry;exact R5 (aR I q (by simp))
  | str j=>obtain⟨t',rfl⟩:=ry;exact ne_str (aR I q (congrArg not uG))
  | _=>exact absurd (show false=true from hs) HM
 | byt i =>
  obtain⟨t,rfl⟩:=rx;cases y with
  | byt j=>obtain⟨t',rfl⟩:=ry;exact PySem.W.ne_bytes (aR I q (congrArg not uE))
  | _=>exact absurd (show false=true from hs) HM
 | _=>cases y<;>exact absurd (show false=true from hs) HM
theorem fK:jY X (compareOp .Lt) (Ca λi j=>.bl (decide (i<j))):=ER λ_ _ _ _ _ _ _ q=>lt_int q
theorem eY:jY X (compareOp .Gt) (Ca λi j=>.bl (decide (j<i))):=ER λ_ _ _ _ _ _ _ q=>gt_int q
theorem DK:jY X (compareOp .Is) (λx y H Q=>y=.non/\Q (.bl (decide (x=.non))) H):=by
 intro pins s σ H x y v u Q I rx ry h;obtain⟨rfl,q⟩:=h;cases ry;refine is_none_gen (aR I q ?_);cases x<;>first
  | (cases rx;rfl)
  | (obtain⟨t,rfl⟩:=rx;rfl)
theorem i7:jY X (compareOp .IsNot) (λx y H Q=>y=.non/\Q (.bl (!decide (x=.non))) H):=by
 intro pins s σ H x y v u Q I rx ry h;obtain⟨rfl,q⟩:=h;cases ry;refine isnot_none_gen (aR I q ?_);cases x<;>first
  | (cases rx;rfl)
  | (obtain⟨t,rfl⟩:=rx;rfl)
theorem aC (b:Ik) {op:Sz} (h:autoParam (op≠.In) Z1._auto_1) (h2:autoParam (op≠.NotIn) Z1._auto_1):behindInMarks op b=false:=by
 have e1:(op==CmpOp.In)=false:=by cases op<;>first | rfl | exact absurd rfl h
 have e2:(op==CmpOp.NotIn)=false:=by cases op<;>first | rfl | exact absurd rfl h2
 cases b<;>simp [behindInMarks,e1,e2]
theorem dy {op:Sz} {r:R2} (ho:jY X (compareOp op) r) (ha:PE X a ta) (hb:PE X b tb) (hm:behindInMarks op b=false):PE X (.Compare a [op] [b] pos) (Fh r ta tb):=by intro pins s σ H Q I h;exact wpAny_Compare1 (CZ ha hb I h λv u s2 x y H2 I2 rx ry q=>ho pins s2 σ H2 x y v u Q I2 rx ry q) hm
def Cy (t:TE):TT:=λσ H Q=>t σ H λx H'=>∃ k,x=.bl k/\Q k H'
theorem aB {op:Sz} {r:R2} (ho:jY X (compareOp op) r) (ha:PE X a ta) (hb:PE X b tb) (hm:behindInMarks op b=false):PT X (.Compare a [op] [b] pos) (Cy (Fh r ta tb)):=by
 intro pins s σ H Q I h;refine OF (a9 (ha pins s σ H _ I h) λv s1 ⟨x,H1,I1,r1,q1⟩=>a9 (hb pins s1 σ H1 _ I1 q1) λu s2 ⟨y,H2,I2,r2,q2⟩ =>
  a9 (ho pins s2 σ H2 x y v u _ I2 r1 r2 q2) λc s3 ⟨z,H3,I3,r3,k,e,q3⟩=>?_) hm
 subst e;cases r3;exact Me ⟨H3,I3,q3⟩
def xj (K:G1) (x:V) (H:Hp) (k:Bool):Prop :=
 match x with
 | .non=>k=false
 | .bl b=>k=b
 | .int i=>k=(i != 0)
 | .str y=>y.length<=sizeLine/\k=((y.length:Int) != 0)
 | .byt y=>y.size<=sizeLine/\k=((y.size:Int) != 0)
 | .ref p=>(∃ xs,aM K H p xs/\k=!xs.isEmpty)∨(∃ xs,bE K H p xs/\k=!xs.isEmpty)∨∃ kvs,H p=GZ (.dK kvs)/\k=!kvs.isEmpty
 | _=>False
theorem tH {κ:Type} {kvs:List (κ × V)} {vs:List (κ × G2)} (r:KV kvs vs):(!vs.isEmpty)=!kvs.isEmpty:=by cases r<;>rfl
theorem lK {xs:List V} {its:List G2} (r:Vals xs its):(!its.toArray.isEmpty)=!xs.isEmpty:=by cases r<;>simp
theorem pG:(sizeLine:Nat)<2^63:=by rw [L9];decide
theorem D3:FK X (λx H Q=>∃ k,xj X.K x H k/\Q k H):=by
 intro pins s σ H x v Q I rx h;obtain⟨k,e,q⟩:=h;have hl:=pG;have hs:sizeLine=16777216:=L9;cases x with
 | non =>cases rx;have e':k=false:=e;subst e';exact truthy_none ⟨H,I,q⟩
 | bl b =>cases rx;have e':k=b:=e;subst e';exact Me ⟨H,I,q⟩
 | int i =>obtain⟨t,rfl⟩:=rx;have e':k=(i != 0):=e;subst e';exact PySem.P.truthy_int ⟨H,I,q⟩
 | str y =>obtain⟨t,rfl⟩:=rx;obtain⟨hy,e'⟩:y.length<=sizeLine/\k=((y.length:Int) != 0):=e;subst e';exact PySem.P.truthy_str (by lia) ⟨H,I.tok _,q⟩
 | byt y =>obtain⟨t,rfl⟩:=rx;obtain⟨hy,e'⟩:y.size<=sizeLine/\k=((y.size:Int) != 0):=e;subst e';exact PySem.W.truthy_bytes (by lia) ⟨H,I.tok _,q⟩
 | ref p =>
  cases rx;have e':(∃ xs,aM X.K H p xs/\k=!xs.isEmpty)∨(∃ xs,bE X.K H p xs/\k=!xs.isEmpty)∨∃ kvs,H p=GZ (.dK kvs)/\k=!kvs.isEmpty:=e;rcases e' with⟨xs,hx,e'⟩|⟨xs,hx,e'⟩|⟨kvs,hx,e'⟩
  ·subst e';obtain⟨its,r,pl,hz⟩:=I.list hx;have hlen:=r.length;exact wpAny_truthy_list pl.isList (by simp only [Ic];lia) ⟨H,I.tok _,by rw [lK r];exact q⟩
  ·subst e';obtain⟨its,r,pl,hz⟩:=I.tuple hx;have hlen:=r.length;exact truthy_tuple pl (by simp only [Ic];lia) ⟨H,I.tok _,by rw [lK r];exact q⟩
  ·subst e';obtain⟨hz,hS,vs,r,m⟩:kvs.length<=sizeLine/\(p==sysModules)=false/\∃ vs,KV kvs vs/\s.heap.DictOf (bH X.prog X.w) p vs:=I.hok p _ hx;have hlen:kvs.length=vs.length:=LQ r;exact wpAny_truthy_dict hS m (by lia) ⟨H,I.tok _,by rw [tH r];exact q⟩
 | _=>exact (show False from e).elim
theorem bR (ha:PE X a ta) (he:∀ whole,isTrue a X.env whole=(do let v <- whole;standAt a.pos;holding [v] (truthy v))) :
  PT X a (λσ H Q=>ta σ H λx H'=>∃ k,xj X.K x H' k/\Q k H'):=by
 intro pins s σ H Q I h;exact isTrue_plain (a9 (ha pins s σ H _ I h) λv s1 ⟨x,H1,I1,r1,q1⟩=>D3 pins s1 σ H1 x v Q I1 r1 q1) (he _)
theorem vals1 {x:V} {us:List G2} (r:Vals [x] us):∃ u,us=[u]/\RelV x u:=by
 cases r with
 | cons r1 r2=>cases r2;exact⟨_,rfl,r1⟩
theorem vals2 {x y:V} {us:List G2} (r:Vals [x,y] us):∃ u w',us=[u,w']/\RelV x u/\RelV y w':=by
 cases r with
 | cons r1 r2 =>
  cases r2 with
  | cons r3 r4=>cases r4;exact⟨_,_,rfl,r1,r3⟩
theorem lr:eA X (.builtin "abs") (λxs H Q=>∃ i,xs=[.int i]/\Q (.int (if i<0 then -i else i)) H):=by intro pins s σ H xs us Q I r h;obtain⟨i,rfl,q⟩:=h;obtain⟨u,rfl,t,rfl⟩:=vals1 r;exact call_abs_int λu tk=>⟨.int (if i<0 then -i else i),H,I.tok _,⟨_,rfl⟩,q⟩
theorem vE (hc:X.calm=true):eA X (.builtin "min") (λxs H Q=>∃ i j,xs=[.int i,.int j]/\Q (.int (if j<i then j else i)) H):=by
 intro pins s σ H xs us Q I r h;obtain⟨i,j,rfl,q⟩:=h;obtain⟨u,w',rfl,⟨t,rfl⟩,⟨t',rfl⟩⟩:=vals2 r;refine min_two_ints (I.ok.hd hc) λh' tk k=>⟨_,H,I.kept k,?_,q⟩
 by_cases hj:j<i
 ·rw [if_pos hj,if_pos hj];exact⟨_,rfl⟩
 ·rw [if_neg hj,if_neg hj];exact⟨_,rfl⟩
end
structure sQ (h:Ip) (x dx C:G6) (mA:HA->Option G2):Prop where
 obj:h.get? x=GZ (Ky C dx)
 ns:h.Ns1 dx mA
 ne:dx≠x
theorem nM {h:Ip} {dx:G6} {mA:HA->Option G2} (n:h.Ns1 dx mA):∃ od,h.get? dx=GZ od/\∀ name,Nx name od=GZ (mA name):=by
 obtain⟨o,es,ep,ho,hd,hk,_,hm⟩:=n;refine⟨o,ho,λname=>?_⟩;have e:=hm name;unfold nsFind findBy at e;rw [<- LY] at e;unfold Nx;rw [hd];dsimp only;split
 ·rename_i y q;rw [q] at e;exact congrArg GZ e
 ·rename_i q;rw [q] at e;have a:es.toList.any (·.refKey)=false:=by rw [List.any_eq_false];intro y hy;obtain⟨z,t,hkey⟩:=hk y (Array.mem_toList_iff.mp hy);simp [DictEntry.refKey,hkey]
  have a':¬es.toList.any (·.refKey)=true:=by rw [a];exact HM
  rw [if_neg a'];exact congrArg GZ e
theorem sQ.look {h:Ip} {x dx C:G6} {mA:HA->Option G2} (I:sQ h x dx C mA):∃ od,Mf h x (Ky C dx) C (GZ od)/\∀ name,Nx name od=GZ (mA name) :=
 let ⟨od,ho,hl⟩:=nM I.ns
 ⟨od,⟨I.obj,rfl,rfl,ho⟩,hl⟩
section
variable {prog:Hq} {w:HU} {A:HX} {E:G2->G5->Prop} {s:G5} {K:G1} {x dx C f:G6} {mA:HA->Option G2} {name:HA} {v:G2}
theorem get_map {expr:Bool} {Q:G2->G5->Prop} (X:K.In s.heap) (I:sQ s.heap x dx C mA) (hg:MF K C name=true) (hh:NN K C=true)
  (ha:J4 K (.ref C) name=GZ none) (hv:mA name=GZ v) (hv':Qw v=true) (h:Q v { s with toks:=s.toks+1 }) :
  wpAny (model prog w) A (getAttr (.ref x) name expr) Q E s:=by
 obtain⟨od,J,hl⟩:=I.look;exact PySem.W.get_value X J (Nb hg).1 (QY hh ha rfl (by rw [hl,hv])) hv' h
theorem xZ {pl:Pj Bool} {Q:G2 × List G2->G5->Prop} (X:K.In s.heap) (I:sQ s.heap x dx C mA) (hg:MF K C name=true)
  (hf:J4 K (.ref C) name=GZ (GZ (.ref f))) (ht:Qb K (.ref f)=true) (hv:mA name=none) (h:Q (.ref f,[.ref x]) s) :
  wpAny (model prog w) A (getMethod (.ref x) name pl) Q E s:=by
 obtain⟨od,J,hl⟩:=I.look;exact PySem.W.method_fn X J (Nb hg).1 (Nb hg).2 hf (beq_iff_eq.mp ht) (by show (Nx name od).map (·.isSome)=GZ false;rw [hl,hv];rfl) h
theorem BA {ns:List HA} {Q:Unit->G5->Prop} (X:K.In s.heap) (I:sQ s.heap x dx C mA)
  (hs:J4 K (.ref C) "__setattr__"=GZ (GZ (.builtin "object.__setattr__"))) (hp:Qc K C=true) (ht:OB K C name=GZ none) (hh:NN K C=true)
  (hw:P5 mA ns) (hsz:ns.length<=sizeLine)
  (h:∀ h',sQ h' x dx C (λy=>if y=name then GZ v else mA y)->JK dx s.heap h'->Q () { s with heap:=h',toks:=s.toks+2 }) :
  wpAny (model prog w) A (setAttr (.ref x) name v) Q E s:=by
 obtain⟨od,J,hl⟩:=I.look;refine Qd X J hs (PySem.W.osa_open (s:={ s with toks:=s.toks+1 }) (r:=none) X J hp ht λb=>?_);obtain⟨cd,hc,hd'⟩:=PySem.W.any_some hh;have hx:s.heap.get? x=GZ ⟨.ref C,GZ dx,.plain,#[]⟩:=I.obj;refine G3 (G8 (G3 (G3 (OU hx (G3 (MG (s:={ s with toks:=s.toks+1 }) (Pk X hc) ?_))))));rw [hd'];refine G8 (a:=GZ dx) (G3 (G8 (G3 ?_)));refine wpAny_nsSet1 (s:={ s with toks:=s.toks+1 }) I.ns λh' hn2 hs2=>?_;obtain⟨oD,esD,epD,hoD,hdD,hcD⟩:=hn2.count (PySem.Within.cons name v hw);refine G3 (Qx hoD (by rw [hdD];exact Qy (Hg hcD (by rw [Ji];lia))) ?_);exact G8 (h _ ⟨(hs2.2 _ (IJ I.ne)).trans I.obj,hn2,I.ne⟩ hs2)
theorem yr {R:PQ->G5->Prop} {vs:List G2} {kw:List (HA × G2)} (X:K.In s.heap) (hm:QZ K C=true)
  (hi:J4 K (.ref C) "__init__"=GZ (GZ (.ref f))) (hf:PySem.W.typeIn K (.ref f)=GZ (.type "function"))
  (h:codeAny (model prog w) (A.under (.builtin "type.__call__" ⟨.ref C::vs,kw⟩)) (.call (.ref f) ⟨.ref (s.heap.objs.size+1)::vs,kw⟩) (PySem.W.InitBack (s.heap.objs.size+1) R)
   { s with heap:=(s.heap.push JO).push (Ky C s.heap.objs.size) }) :
  codeAny (model prog w) A (.call (.ref C) ⟨vs,kw⟩) R s:=by
 obtain⟨hh,g,d,t,os⟩:=s;exact PySem.W.make_core (PySem.W.makes_of X hm) (Mx X hi) (λself=>PySem.W.bind_fn X self hf) (.inl rfl) h
end
noncomputable def gq (f:HA) (v:V):List (HA × V)->List (HA × V)
 | []=>[(f,v)]
 | (g,x)::r=>if g=f then (g,v)::r else (g,x)::gq f v r
theorem j8 (f g:HA) (v:V):∀ fs:List (HA × V),(gq f v fs).lookup g=if g=f then GZ v else fs.lookup g
 | []=>by
  show LG g [(f,v)]=_;by_cases h:g=f
  ·have hb:(g==f)=true:=beq_iff_eq.mpr h;simp only [LG,hb,if_pos h]
  ·have hb:(g==f)=false:=beq_eq_false_iff_ne.mpr h;simp only [LG,hb,if_neg h]
 | (k,x)::r=>by
  have ih:=j8 f g v r;rw [show gq f v ((k,x)::r)=(if k=f then (k,v)::r else (k,x)::gq f v r) from rfl];by_cases hk:k=f
  ·rw [if_pos hk];by_cases h:g=k
   ·have hb:(g==k)=true:=beq_iff_eq.mpr h;simp only [LG,hb,if_pos (h.trans hk)]
   ·have hb:(g==k)=false:=beq_eq_false_iff_ne.mpr h;simp only [LG,hb,if_neg (λe:g=f=>h (e.trans hk.symm))]
  ·rw [if_neg hk];by_cases h:g=k
   ·have hb:(g==k)=true:=beq_iff_eq.mpr h;simp only [LG,hb,if_neg (λe:g=f=>hk (h.symm.trans e))]
   ·have hb:(g==k)=false:=beq_eq_false_iff_ne.mpr h;simp only [LG,hb];exact ih
theorem jR (f:HA) (v:V):∀ fs:List (HA × V),f∈(gq f v fs).map (·.1)/\∀ g,g∈fs.map (·.1)->g∈(gq f v fs).map (·.1)
 | []=>⟨by simp [gq],λg h=>by simp at h⟩
 | (k,x)::r=>by
  obtain⟨i1,i2⟩:=jR f v r;rw [show gq f v ((k,x)::r)=(if k=f then (k,v)::r else (k,x)::gq f v r) from rfl];by_cases hk:k=f
  ·rw [if_pos hk];subst hk;exact⟨by simp,λg h=>by simpa using h⟩
  ·rw [if_neg hk];refine⟨?_,λg h=>?_⟩
   ·rw [HH];exact Ha _ i1
   ·rw [HH] at h ⊢;rcases Hw.mp h with e | e
    ·exact Hw.mpr (.inl e)
    ·exact Ha _ (i2 g e)
theorem j7 (f:HA) (v:V):∀ fs:List (HA × V),(gq f v fs).length<=fs.length+1
 | []=>by simp [gq]
 | (k,x)::r=>by
  have ih:=j7 f v r;rw [show gq f v ((k,x)::r)=(if k=f then (k,v)::r else (k,x)::gq f v r) from rfl];by_cases hk:k=f
  ·rw [if_pos hk,Ji,Ji];lia
  ·rw [if_neg hk,Ji,Ji];lia
theorem eh.some_of {v:V} {o:Option G2} (r:eh (GZ v) o):∃ u,o=GZ u/\RelV v u:=by
 cases o with
 | none=>exact (show False from r).elim
 | some u=>exact⟨u,rfl,r⟩
theorem eh.none_of {o:Option G2} (r:eh none o):o=none:=by
 cases o with
 | none=>rfl
 | some u=>exact (show False from r).elim
theorem nF {v:V} {u:G2} (r:RelV v u):Qw u=true:=by
 cases v with
 | non=>cases (show u=J3 from r);rfl
 | bl b=>cases (show u=K7 b from r);rfl
 | int i=>obtain⟨t,e⟩:=(show ∃ t,u=L8 i t from r);cases e;rfl
 | str x=>obtain⟨t,e⟩:=(show ∃ t,u=Ph x t from r);cases e;rfl
 | byt b=>obtain⟨t,e⟩:=(show ∃ t,u=Sx b t from r);cases e;rfl
 | flt b=>obtain⟨t,e⟩:=(show ∃ t,u=QN b t from r);cases e;rfl
 | ref a=>cases (show u=HR a from r);rfl
 | ty n=>cases (show u=PL n from r);rfl
section
variable {P:Hq} {w:HU} {H H':Hp} {h h':Ip} {a C dx:G6} {fs fs':List (HA × V)}
theorem kQ (hok:fJ P w H h) (e:H a=GZ (.ins C dx fs)):∃ mA,sQ h a dx C mA/\(∀ f,eh (fs.lookup f) (mA f))/\P5 mA (fs.map (·.1))/\fs.length<=1000/\H dx=GZ (.own a):=by
 obtain⟨d,z,ne,ob,mA,n,r,q⟩:=(show br P w H h a (.ins C dx fs) from hok a _ e)
 exact⟨mA,⟨ob,n,ne⟩,r,q,z,d⟩
end
structure mY (K:G1) (C:G6):Prop where
 pg:MF K C Sh=true
 hd:NN K C=true
 po:Qc K C=true
 sa:J4 K (.ref C) "__setattr__"=GZ (GZ (.builtin "object.__setattr__"))
theorem mY.get {K:G1} {C:G6} (c:mY K C) (f:HA):MF K C f=true:=c.pg
def cF (K:G1) (C:G6) (f:HA):Prop:=J4 K (.ref C) f=GZ none
theorem cF.Fq {K:G1} {C:G6} {f:HA} (n:cF K C f):OB K C f=GZ none:=by unfold OB;rw [show J4 K (.ref C) f=GZ none from n];rfl
structure Meth (K:G1) (C:G6) (m:HA) (f:G6):Prop where
 at_:J4 K (.ref C) m=GZ (GZ (.ref f))
 fn:Qb K (.ref f)=true
 kp:Kt K (.ref f)=true
section
variable {X:Cx} {pins:List (G6 × Kl)} {σ:St} {H:Hp} {s:G5} {a C dx:G6} {fs:List (HA × V)} {f:HA} {v:V} {A:HX} {E:G2->G5->Prop}
theorem lH {b:Bool} {Q:G2->G5->Prop} (I:Inv X pins σ H s) (e:H a=GZ (.ins C dx fs)) (c:mY X.K C) (n:cF X.K C f) (l:fs.lookup f=GZ v)
  (h:∀ u s',Inv X pins σ H s'->RelV v u->Q u s'):wpAny (model X.prog X.w) A (getAttr (.ref a) f b) Q E s:=by
 obtain⟨mA,O,r,_,_,_⟩:=kQ I.hok e;obtain⟨u,hu,ru⟩:=eh.some_of (v:=v) (o:=mA f) (by rw [<- l];exact r f);exact get_map I.eX O (c.get f) c.hd n hu (nF ru) (h u _ (I.tok _) ru)
theorem lI {m:HA} {g:G6} {pl:Pj Bool} {Q:G2 × List G2->G5->Prop} (I:Inv X pins σ H s) (e:H a=GZ (.ins C dx fs)) (c:mY X.K C) (k:Meth X.K C m g) (l:fs.lookup m=none)
  (h:Q (.ref g,[.ref a]) s):wpAny (model X.prog X.w) A (getMethod (.ref a) m pl) Q E s:=by
 obtain⟨mA,O,r,_,_,_⟩:=kQ I.hok e;have hn:mA m=none:=eh.none_of (by rw [<- l];exact r m);exact xZ I.eX O (c.get m) k.at_ k.fn hn h
theorem mB {y:V} {u:G2} {Q:Unit->G5->Prop} (I:Inv X pins σ H s) (e:H a=GZ (.ins C dx fs)) (c:mY X.K C) (n:cF X.K C f) (hl:fs.length<1000) (ry:RelV y u)
  (h:∀ s',Inv X pins σ (upd H a (.ins C dx (gq f y fs))) s'->Q () s'):wpAny (model X.prog X.w) A (setAttr (.ref a) f u) Q E s:=by
 obtain⟨mA,O,r,wi,_,ho⟩:=kQ I.hok e;have hz:(fs.map (·.1)).length<=sizeLine:=by rw [G4,L9];lia
 refine BA I.eX O c.sa c.po n.Fq c.hd wi hz λh' O' sb=>h _ ?_;have hd:∃ o,h'.get? dx=GZ o:=let ⟨o,_,_,e',_⟩:=O'.ns;⟨o,e'⟩
 refine I.write (x:=a) (e:=dx) (by rw [e];exact True.intro) (.inr ho) (λb q hb z=>(sb.2 b hb).trans z) hd ?_;refine⟨by rw [ao O.ne];exact ho,?_,O.ne,O'.obj,_,O'.ns,λg=>?_,λg hg=>?_⟩
 ·have:=j7 f y fs;lia
 ·show eh ((gq f y fs).lookup g) (if g=f then GZ u else mA g);rw [j8];by_cases q:g=f
  ·rw [if_pos q,if_pos q];exact ry
  ·rw [if_neg q,if_neg q];exact r g
 ·by_cases q:g=f
  ·rw [q];exact (jR f y fs).1
  ·refine (jR f y fs).2 g (wi g λz=>hg ?_);show (if g=f then GZ u else mA g)=none;rw [if_neg q];exact z
theorem Inv.made (I:Inv X pins σ H s):Inv X pins σ (upd (upd H s.heap.objs.size (.own (s.heap.objs.size+1))) (s.heap.objs.size+1) (.ins C s.heap.objs.size []))
  { s with heap:=(s.heap.push JO).push (Ky C s.heap.objs.size) }:=by
 have e1:(s.heap.push JO).get? s.heap.objs.size=GZ JO:=Hs s.heap rfl;have e2:((s.heap.push JO).push (Ky C s.heap.objs.size)).get? (s.heap.objs.size+1)=GZ (Ky C s.heap.objs.size):=by
  have:=Hs (s.heap.push JO) (o:=Ky C s.heap.objs.size) rfl
  rwa [IM] at this
 have e3:(s.heap.push JO).Ns s.heap.objs.size (λ_=>none):=⟨JO,#[],_,e1,rfl,(λe he=>absurd he (by simp)),λ_=>rfl⟩
 have I1:=I.laid (a:=s.heap.objs.size) (o:=.own (s.heap.objs.size+1)) (h':=s.heap.push JO) (t':=s.toks) (λb u q=>G7 _ q) (Hd _) ⟨_,e1⟩;refine I1.laid (a:=s.heap.objs.size+1) (o:=.ins C s.heap.objs.size []) (t':=s.toks) (λb u q=>G7 _ q) (Mi (IM _ _)) ?_;have ne:s.heap.objs.size≠s.heap.objs.size+1:=HP (LJ _);refine⟨by rw [ao ne,ag],IV _,ne,e2,λ_=>none,(Heap.Ns1.of_empty e3).at λo q=>G7 _ q,λ_=>True.intro,λy hy=>absurd rfl hy⟩
theorem uC {prog:Hq} {w:HU} {env:MA} {e:Ik} {f:HA} {pos:K8} {s:G5} {Q:G2->G5->Prop} (hb:attributeBase e f env (eval e env)=eval e env)
  (h:wpAny (model prog w) A (eval e env) (λo s₁=>wpAny (model prog w) A (getAttr o f true) Q E s₁) E s):wpAny (model prog w) A (eval (.Attribute e f pos) env) Q E s :=
 Attribute_any_ h (by rw [arm_eval_Attribute,hb])
end
def Fb (K:G1) (ta:TE) (f:HA):TE:=λσ H Q=>ta σ H λx H1=>∃ a C dx fs v,x=.ref a/\H1 a=GZ (.ins C dx fs)/\mY K C/\cF K C f/\fs.lookup f=GZ v/\Q v H1
def E4 (K:G1) (ta tv:TE) (f:HA):TS:=λD σ H=>tv σ H λy H1=>ta σ H1 λx H2=>∃ a C dx fs,x=.ref a/\H2 a=GZ (.ins C dx fs)/\mY K C/\cF K C f/\fs.length<1000 /\
 D.nx σ (upd H2 a (.ins C dx (gq f y fs)))
def Eh (X:Cx) (op:OT) (rd:V->V->Hp->VK->Prop):Prop :=
 ∀(pins:List (G6 × Kl)) (s:G5) (σ:St) (H:Hp) (x y:V) (u v:G2) (Q:VK),Inv X pins σ H s->RelV x u->RelV y v->rd x y H Q->wpAny (model X.prog X.w) X.A (inplaceOp op u v) (EP X pins σ Q) X.xe s
def pY (K:G1) (ta tv:TE) (rd:V->V->Hp->VK->Prop) (f:HA):TS:=λD σ H=>ta σ H λx H1=>∃ a C dx fs v,x=.ref a/\H1 a=GZ (.ins C dx fs)/\mY K C/\cF K C f/\fs.lookup f=GZ v /\
 tv σ H1 λy H2=>rd v y H2 λz H3=>∃ dx' fs',H3 a=GZ (.ins C dx' fs')/\fs'.length<1000/\D.nx σ (upd H3 a (.ins C dx' (gq f z fs')))
section
variable {X:Cx} {o e value:Ik} {f:HA} {pos pos' tpos:K8} {ta tv:TE}
theorem iH (he:PE X e ta) (hb:attributeBase e f X.env (eval e X.env)=eval e X.env):PE X (.Attribute e f pos) (Fb X.K ta f):=by intro pins s σ H Q I h;refine uC hb (a9 (he pins s σ H _ I h) λu s1 hZ=>?_);obtain⟨x,H1,I1,rx,a,C,dx,fs,v,ex,ea,c,n,l,q⟩:=hZ;subst ex;obtain rfl:u=HR a:=rx;exact lH I1 ea c n l λu' s2 I2 ru=>⟨v,H1,I2,ru,q⟩
theorem uh (ha:PE X o ta) (hv:PE X value tv) (hs:swapsWith value (GZ (.Attribute o f pos')) pos.line X.env=pure false):PS X (.Assign [.Attribute o f pos'] value pos) (E4 X.K ta tv f):=by intro pins s σ H D I h;refine Mz (a9 (hv pins s σ H _ I h) λu s1 ⟨y,H1,I1,ry,q⟩=>a9 (ha pins s1 σ H1 _ I1 q) λov s2 hZ=>?_) hs;obtain⟨x,H2,I2,rx,a,C,dx,fs,ex,ea,c,n,l,q2⟩:=hZ;subst ex;obtain rfl:ov=HR a:=rx;exact mB I2 ea c n l ry λs3 I3=>⟨σ,_,I3,q2⟩
theorem wG {op:OT} {rd:V->V->Hp->VK->Prop} (ha:PE X o ta) (hv:PE X value tv) (hop:Eh X op rd):PS X (.AugAssign (.Attribute o f tpos) op value pos) (pY X.K ta tv rd f):=by intro pins s σ H D I h;refine wpAny_AugAssign_AttributeAny (a9 (ha pins s σ H _ I h) λov s1 hZ=>?_);obtain⟨x,H1,I1,rx,a,C,dx,fs,v,ex,ea,c,n,l,q⟩:=hZ;subst ex;obtain rfl:ov=HR a:=rx;refine lH I1 ea c n l λu s2 I2 ru=>a9 (hv pins s2 σ H1 _ I2 q) λw3 s3 ⟨y,H2,I3,ry,q3⟩=>a9 (hop pins s3 σ H2 v y u w3 _ I3 ru ry q3) λw4 s4 hZ=>?_;obtain⟨z,H3,I4,rz,dx',fs',ea',l',q4⟩:=hZ;exact mB I4 ea' c n l' rz λs5 I5=>⟨σ,_,I5,q4⟩
def F2:V->V->Hp->VK->Prop:=λx y H Q=>∃ i j,x=.int i/\y=.int j/\Q (.int (i+j)) H
theorem Di:Eh X .Add F2:=by
 rintro pins s σ H x y u v Q I rx ry ⟨i,j,rfl,rfl,q⟩;obtain⟨t,rfl⟩:=(show ∃ t,u=L8 i t from rx)
 obtain⟨t',rfl⟩:=(show ∃ t',v=L8 j t' from ry)
 exact Rf ⟨.int (i+j),H,I.tok _,⟨_,rfl⟩,q⟩
end
section
variable {X:Cx} {pins:List (G6 × Kl)} {σ:St} {H:Hp} {s:G5} {A:HX} {E:G2->G5->Prop} {Q:G2->G5->Prop} {c:G2} {b:Bool}
inductive hZ (K:G1) (H:Hp):V->G2->Prop where
 | non:hZ K H .non (.type "NoneType")
 | bl (x:Bool):hZ K H (.bl x) (.type "bool")
 | int (i:Int):hZ K H (.int i) (.type "int")
 | str (x:HA):hZ K H (.str x) (.type "str")
 | flt (x:UInt64):hZ K H (.flt x) (.type "float")
 | lst {a:G6} {xs:List V} (e:H a=GZ (.lst xs)):hZ K H (.ref a) (.type "list")
 | frz {a:G6} {o:Kl} {xs:List V} (e:H a=GZ (.frz o (.lst xs))):hZ K H (.ref a) (.type "list")
 | tup {a:G6} {xs:List V} (e:H a=GZ (.tup xs)):hZ K H (.ref a) (.type "tuple")
 | dK {a:G6} {kvs:List (Key × V)} (e:H a=GZ (.dK kvs)):hZ K H (.ref a) (.type "dict")
 | dT {a:G6} {kvs:List (List Key × V)} (e:H a=GZ (.dT kvs)):hZ K H (.ref a) (.type "dict")
 | ins {a C dx:G6} {fs:List (HA × V)} (e:H a=GZ (.ins C dx fs)) (cl:mY K C) (ha:J4 K (.ref C) "__class__"=GZ (GZ (.builtin "object.__class__")))
   (hn:PySem.W.specialIn K (.builtin "object.__class__") "__get__"=GZ (GZ (.builtin "getset_descriptor.__get__"))) (htk:PySem.W.takesIn K (.builtin "object.__class__")=GZ true)
   (hm:R6 K C (.type "object")=GZ true):hZ K H (.ref a) (.ref C)
theorem gQ {x:V} {u t:G2} (I:Inv X pins σ H s) (rx:RelV x u) (ty:hZ X.K H x t) (e:Ri X.K t c=GZ b) (h:∀ tk,Q (.bool b) { s with toks:=tk }) :
  wpAny (model X.prog X.w) A (call (.builtin "isinstance") [u,c]) Q E s:=by
 cases ty with
 | non=>cases (show u=J3 from rx);exact Jr PySem.W.kitx_none I.eX True.intro e (λz=>nomatch z) h
 | bl y=>cases (show u=K7 y from rx);exact Jr PySem.W.kitx_bool I.eX True.intro e (λz=>nomatch z) h
 | int i=>obtain⟨t,q⟩:=(show ∃ t,u=L8 i t from rx);cases q;exact Jr PySem.W.kitx_int I.eX True.intro e (λz=>nomatch z) h
 | str y=>obtain⟨t,q⟩:=(show ∃ t,u=Ph y t from rx);cases q;exact Jr PySem.W.kitx_str I.eX True.intro e (λz=>nomatch z) h
 | flt y=>obtain⟨t,q⟩:=(show ∃ t,u=QN y t from rx);cases q;exact Jr PySem.W.kitx_float I.eX True.intro e (λz=>nomatch z) h
 | @lst a xs ea =>
  cases (show u=HR a from rx);obtain⟨_,_,n,_,h1⟩:=(show br X.prog X.w H s.heap a (.lst xs) from I.hok a _ ea)
  exact Jr NO I.eX ⟨_,h1,rfl⟩ e (λz=>nomatch z) h
 | @frz a ob xs ea =>
  cases (show u=HR a from rx);obtain⟨_,_,_,n,_,h1⟩:=(show br X.prog X.w H s.heap a (.frz ob (.lst xs)) from I.hok a _ ea)
  exact Jr NO I.eX ⟨_,h1,rfl⟩ e (λz=>nomatch z) h
 | @tup a xs ea =>
  cases (show u=HR a from rx);obtain⟨_,_,_,p⟩:=(show br X.prog X.w H s.heap a (.tup xs) from I.hok a _ ea)
  obtain⟨o,h1,h2,_⟩:=p;exact Jr PR I.eX ⟨o,h1,h2⟩ e (λz=>nomatch z) h
 | @dK a kvs ea =>
  cases (show u=HR a from rx);obtain⟨_,_,vs,_,p⟩:=(show br X.prog X.w H s.heap a (.dK kvs) from I.hok a _ ea)
  obtain⟨o,es,ep,h1,h2,_⟩:=p;exact Jr Qg I.eX ⟨o,h1,h2.1⟩ e (λz=>nomatch z) h
 | @dT a kvs ea =>
  cases (show u=HR a from rx);obtain⟨_,_,xs,_,o,es,ep,h1,h2,_⟩:=(show br X.prog X.w H s.heap a (.dT kvs) from I.hok a _ ea)
  exact Jr Qg I.eX ⟨o,h1,h2.1⟩ e (λz=>nomatch z) h
 | @ins a C dx fs ea cl ha hn htk hm =>cases (show u=HR a from rx);obtain⟨mA,O,_⟩:=kQ I.hok ea;obtain⟨od,J,_⟩:=O.look;exact Jr (PySem.W.kitx_own (cl.get _) cl.hd ha hn htk hm) I.eX J e (λz=>nomatch z) h
end
structure bL (k:Nat) (A:HX):Prop where
 hd:A.handled=none
 dp:A.depth+3*k+5<recursionLimit
 un:A.units+16*k+200<cLine
 gs:A.guards=GZ []
theorem bL.mono {j k:Nat} {A:HX} (r:bL k A) (h:j<=k):bL j A:=⟨r.hd,by have:=r.dp;lia,by have:=r.un;lia,r.gs⟩
theorem bL.deeper {k:Nat} {A:HX} (r:bL (k+1) A) (env:MA):bL k (A.deeper env) :=
 ⟨r.hd,by have:=r.dp;show A.depth+1+3*k+5<_;lia,by have:=r.un;show A.units+3+16*k+200<_;lia,r.gs⟩
theorem tK {A:HX} {C:G6} {us:List G2} {kw:List (HA × G2)}:(A.under (.builtin "type.__call__" ⟨.ref C::us,kw⟩)).depth=A.depth+1:=by first | rfl | simp [Oj,SE,Q0,Sj,R7,QO,Ol,guardIds]
theorem tL {A:HX} {C:G6} {us:List G2} {kw:List (HA × G2)}:(A.under (.builtin "type.__call__" ⟨.ref C::us,kw⟩)).units=A.units+1:=by first | rfl | simp [Oj,Code.cUnits,QO,Ol]
theorem ri {A:HX} {C:G6} {us:List G2} {kw:List (HA × G2)}:(A.under (.builtin "type.__call__" ⟨.ref C::us,kw⟩)).guards=A.guards:=by first | rfl | simp [Oj,SE,Q0,Sj,R7,QO,Ol,guardIds]
theorem bL.make {k:Nat} {A:HX} (r:bL (k+1) A) (C:G6) (us:List G2) (kw:List (HA × G2)):bL k (A.under (.builtin "type.__call__" ⟨.ref C::us,kw⟩)) :=
 ⟨r.hd,by have:=r.dp;rw [tK];lia,by have:=r.un;rw [tL];lia,by rw [ri];exact r.gs⟩
theorem bL.depth {k:Nat} {A:HX} (r:bL k A):A.depth<recursionLimit:=by have:=r.dp;lia
theorem bL.units {k:Nat} {A:HX} (r:bL k A):A.units+64<cLine:=by have:=r.un;lia
def BE:TA:=λ_ H Q=>Q [] H
def Cm (ta:TE) (tr:TA):TA:=λσ H Q=>ta σ H λx H1=>tr σ H1 λxs H2=>Q (x::xs) H2
section
variable {X:Cx} {e:Ik} {es:List Ik} {te:TE} {t:TA} {pos:K8}
theorem af:PA X [] BE:=λ_ _ _ _ H Q I h=>Qh ⟨[],H,I,.nil,h⟩
theorem aa (ha:PE X e te) (hr:PA X es t) (hs:autoParam (starEach (e::es) X.env=(false,eval e X.env)::starEach es X.env) Z0._auto_1):PA X (e::es) (Cm te t):=by intro pos pins s σ H Q I h;rw [hs];show wpAny _ _ (spliced ((false,eval e X.env)::backTo pos (starEach es X.env))) _ _ s;refine PU (a9 (ha pins s σ H _ I h) λu s1 hZ=>?_);obtain⟨x,H1,I1,r1,q1⟩:=hZ;exact a9 (hr pos pins s1 σ H1 _ I1 q1) λus s2 ⟨xs,H2,I2,r2,q2⟩=>⟨x::xs,H2,I2,.cons r1 r2,q2⟩
def Fp (t:TA):TE:=λσ H Q=>t σ H λxs H1=>xs.length<=sizeLine/\∀ p,H1 p=none->Q (.ref p) (upd H1 p (.tup xs))
def Fe (t:TA):TE:=λσ H Q=>t σ H λxs H1=>xs.length<=sizeLine/\∀ p,H1 p=none->Q (.ref p) (upd H1 p (.lst xs))
theorem aL {x1} (h:PA X es t):PE X (.Tuple es x1 pos) (Fp t):=by intro pins s σ H Q I hq;refine wpAny_Tuple_spliced (a9 (h pos pins s σ H _ I hq) λus s1 ⟨xs,H1,I1,r,z,q⟩=>⟨by rw [<- r.length];exact z,?_⟩);have hf:H1 s1.heap.objs.size=none:=I1.hok.fresh (Hd _);refine⟨.ref s1.heap.objs.size,upd H1 s1.heap.objs.size (.tup xs),I1.laid (t':=s1.toks) (λb u e=>G7 _ e) (Hd _) ?_,rfl,q _ hf⟩;exact⟨z,us,r,⟨_,Hs _ rfl,rfl,_,rfl⟩⟩
theorem bX (h:PA X es t):PE X (.List es pos) (Fe t):=by intro pins s σ H Q I hq;refine wpAny_List_spliced (a9 (h pos pins s σ H _ I hq) λus s1 ⟨xs,H1,I1,r,z,q⟩=>⟨by rw [<- r.length];exact z,?_⟩);have hf:H1 s1.heap.objs.size=none:=I1.hok.fresh (Hd _);refine⟨.ref s1.heap.objs.size,upd H1 s1.heap.objs.size (.lst xs),I1.laid (t':=s1.toks) (λb u e=>G7 _ e) (Hd _) ?_,rfl,q _ hf⟩;exact⟨z,us,0,r,Hs _ rfl⟩
end
abbrev Sp:=List V->Hp->VK->XK->Prop
abbrev kB:=List MA->Hp->G5->XK->G2->G5->Prop
structure sO (P:Hq) (w:HU) (K:G1) (mg:HA->Option G2) (base:Ip) (A:HX) (outer:List MA) (s:G5) (H:Hp):Prop where
 frames:A.frames=GZ outer
 mod:Mod K mg base
 bs:∀ b o,base.get? b=GZ o->s.heap.get? b=GZ o/\H b=none
 bsz:base.objs.size<=s.heap.objs.size
 jN:s.heap.FunFrames base outer
 frf:∀ b∈fS outer,H b=none
 hok:fJ P w H s.heap
 bare:Ng s.gens
def CE (outer:List MA) (P:Hq) (w:HU) (H:Hp) (s:G5) (Q:VK) (u:G2) (s':G5):Prop :=
 ∃ v H',s'.os=s.os/\Ng s'.gens/\Un (fS outer) [] H H' s.heap s'.heap/\fJ P w H' s'.heap/\RelV v u/\Q v H'
def CR (CX:kB) (outer:List MA) (P:Hq) (w:HU) (H:Hp) (s:G5) (Q:VK) (E:XK) (r:PQ) (s':G5):Prop :=
 match r with
 | .ok (.ret u)=>CE outer P w H s Q u s'
 | .ok _=>False
 | .error e=>CX outer H s E e s'
structure cE (P:Hq) (w:HU) (K:G1) (mg:HA->Option G2) (base:Ip) (CX:kB) (k:Nat) (f:G6) (fd:JF) (ps:List HA) (sp:Sp):Prop where
 len:∀ vs H Q E,sp vs H Q E->vs.length=ps.length
 run:∀(A:HX) (outer:List MA) (s:G5) (H:Hp) (args:Args) (us:List G2) (vs:List V) (Q:VK) (E:XK),bL k A->sO P w K mg base A outer s H->Qi s fd args (ps.zip us)->Vals vs us->sp vs H Q E ->
  codeAny (model P w) A (.call (.ref f) args) (CR CX outer P w H s Q E) s
theorem cE.mono {P:Hq} {w:HU} {K:G1} {mg:HA->Option G2} {base:Ip} {CX:kB} {j k:Nat} {f:G6} {fd:JF} {ps:List HA} {sp:Sp} (F:cE P w K mg base CX j f fd ps sp) (h:j<=k) :
  cE P w K mg base CX k f fd ps sp:=⟨F.len,λA outer s H args us vs Q E hr=>F.run A outer s H args us vs Q E (hr.mono h)⟩
theorem cE.imp {P:Hq} {w:HU} {K:G1} {mg:HA->Option G2} {base:Ip} {CX:kB} {k:Nat} {f:G6} {fd:JF} {ps:List HA} {sp sp':Sp} (F:cE P w K mg base CX k f fd ps sp)
  (h:∀ vs H Q E,sp' vs H Q E->sp vs H Q E):cE P w K mg base CX k f fd ps sp' :=
 ⟨λvs H Q E q=>F.len vs H Q E (h _ _ _ _ q),λA outer s H args us vs Q E hr he hb hv hs=>F.run A outer s H args us vs Q E hr he hb hv (h _ _ _ _ hs)⟩
theorem sO.make {P:Hq} {w:HU} {K:G1} {mg:HA->Option G2} {base:Ip} {A:HX} {outer:List MA} {s:G5} {H:Hp} (e:sO P w K mg base A outer s H) (C:G6) (us:List G2) (kw:List (HA × G2)) :
  sO P w K mg base (A.under (.builtin "type.__call__" ⟨.ref C::us,kw⟩)) outer s H:=⟨by first | exact e.frames | (simpa [Oj,Code.envs,Ol,pushEnvs] using e.frames),e.mod,e.bs,e.bsz,e.jN,e.frf,e.hok,e.bare⟩
section
variable {X:Cx} {pins:List (G6 × Kl)} {σ:St} {H:Hp} {s s':G5}
theorem Inv.AE (I:Inv X pins σ H s):sO X.prog X.w X.K X.mg X.base X.A X.stack s H :=
 ⟨I.ok.frames,I.ok.mod,I.bs,Hg I.ok.bsz I.sz,I.stack,I.fG,I.hok,I.bare⟩
theorem Inv.after {Q:VK} {u:G2} (I:Inv X pins σ H s) (h:CE X.stack X.prog X.w H s Q u s'):EP X pins σ Q u s':=by obtain⟨v,H',os,bare,un,hok,r,q⟩:=h;obtain⟨hh,g,d,t,os'⟩:=s';obtain rfl:os'=s.os:=os;exact⟨v,H',I.call (h':=hh) (g':=g) (d':=d) (t':=t) (ch:=[]) un hok bare (λb z=>absurd z (by simp)),r,q⟩
end
def sG (sp:Sp) (aP:List V) (E:XK) (t:TA):TE:=λσ H Q=>t σ H λvs H1=>sp (vs++aP) H1 Q E
def sH (C:G6) (m:HA) (sp:Sp) (aP:List V) (E:XK) (ta:TE) (t:TA):TE:=λσ H Q=>ta σ H λx H1=>∃ a dx fs,x=.ref a/\H1 a=GZ (.ins C dx fs)/\fs.lookup m=none /\
 t σ H1 λvs H2=>sp (x::(vs++aP)) H2 Q E
def zR (C:G6) (sp:Sp) (aP:List V) (E:XK) (t:TA):TE:=λσ H Q=>t σ H λvs H1=>∀ x dx,H1 x=none->H1 dx=none->dx≠x ->
 sp (.ref x::(vs++aP)) (upd (upd H1 dx (.own x)) x (.ins C dx [])) (λv H2=>v=.non/\Q (.ref x) H2) E
def Binds (K:G1) (fd:JF) (ps:List HA) (ds:List G2):Prop :=
 ∀(s:G5) (us:List G2),K.In s.heap->(us++ds).length=ps.length->Qi s fd ⟨us,[]⟩ (ps.zip (us++ds))
theorem Binds.all {K:G1} {fd:JF} {ps:List HA} (h:∀ us:List G2,us.length=ps.length->bindArgs fd ⟨us,[]⟩=pure (ps.zip us)):Binds K fd ps []:=λs us _ hl=>by rw [Jj] at hl ⊢;exact .of_eq (h us hl)
def Passes (CX:kB) (X:Cx) (E:XK):Prop:=∀(pins:List (G6 × Kl)) (σ:St) (H:Hp) (s:G5) (e:G2) (s':G5),Inv X pins σ H s->CX X.stack H s E e s'->X.xe e s'
section
variable {X:Cx} {CX:kB} {k:Nat} {f C:G6} {fd:JF} {ps:List HA} {sp:Sp} {aP:List V} {ds:List G2} {E:XK} {x m:HA} {p pos apos:K8} {e o:Ik} {es:List Ik} {ta:TE} {t:TA}
theorem uk {pins:List (G6 × Kl)} {σ:St} {H:Hp} {s:G5} {Q:VK} {us:List G2} {vs:List V} (F:cE X.prog X.w X.K X.mg X.base CX k f fd ps sp) (hr:bL k X.A) (hb:Binds X.K fd ps ds) (hd:Vals aP ds) (hx:Passes CX X E)
  (I:Inv X pins σ H s) (r:Vals vs us) (h:sp (vs++aP) H Q E):wpAny (model X.prog X.w) X.A (call (.ref f) us) (EP X pins σ Q) X.xe s:=by
 have r2:Vals (vs++aP) (us++ds):=r.append hd;have hl:(us++ds).length=ps.length:=by rw [<- r2.length];exact F.len _ _ _ _ h
 refine Ny (K1 (F.run X.A X.stack s H ⟨us,[]⟩ (us++ds) (vs++aP) Q E hr I.AE (hb s us I.eX hl) r2 h) λr s' hq=>?_);cases r with
 | error e=>exact hx pins σ H s e s' I hq
 | ok fl =>
  cases fl with
  | ret u=>exact I.after hq
  | next=>exact IU hq
  | brk=>exact IU hq
  | cont=>exact IU hq
theorem uS (F:cE X.prog X.w X.K X.mg X.base CX k f fd ps sp) (hr:bL k X.A) (hg:Gl X x) (hm:X.mg x=GZ (.ref f)) (hk:Kt X.K (.ref f)=true) (hb:Binds X.K fd ps ds) (hd:Vals aP ds) (hx:Passes CX X E)
  (ha:PA X (e::es) t) (hdb:autoParam ((x==("__debug__":HA))=false) Z1._auto_1) (he:autoParam (starEach (e::es) X.env=(false,eval e X.env)::starEach es X.env) Z0._auto_1) (hpl:autoParam ((backTo pos (starEach es X.env)).any (·.1)=false) Z0._auto_1) :
  PE X (.Call (.Name x p) (e::es) [] pos) (sG sp aP E t):=by
 intro pins s σ H Q I h;refine Km (fz I hg hm ?_ hdb);refine Lm (h₀:=X.base) I.ok.mod.kin hk (a9 (ha pos pins s σ H _ I h) λus s1 ⟨vs,H1,I1,r,q⟩=>⟨I1.eX,?_⟩) he hpl;exact uk F hr hb hd hx I1 r q
theorem Bc {pl:Pj Bool} (he:PE X o ta) (c:mY X.K C) (hm:Meth X.K C m f) (F:cE X.prog X.w X.K X.mg X.base CX k f fd ps sp) (hr:bL k X.A) (hb:Binds X.K fd ps ds) (hd:Vals aP ds) (hx:Passes CX X E) (ha:PA X (e::es) t)
  (hst:autoParam (starEach (e::es) X.env=(false,eval e X.env)::starEach es X.env) Z0._auto_1) (hpl:autoParam ((backTo pos (starEach es X.env)).any (·.1)=false) Z0._auto_1)
  (ht:autoParam (eval (.Call (.Attribute o m apos) (e::es) [] pos) X.env=(do
   let ov <- eval o X.env
   standAt apos.atName
   let (f,first) <- holding [ov] (getMethod ov m pl)
   callWith pos f first (backTo pos (starEach (e::es) X.env)) (backToKw pos (keywordEach [] X.env)))) Z0._auto_1) :
  PE X (.Call (.Attribute o m apos) (e::es) [] pos) (sH C m sp aP E ta t):=by
 intro pins s σ H Q I h;refine OG (pl:=pl) (a9 (he pins s σ H _ I h) λu s1 hZ=>?_) ht;obtain⟨x,H1,I1,rx,a,dx,fs,ex,ea,l,q⟩:=hZ;subst ex;obtain rfl:u=HR a:=rx;refine lI I1 ea c hm l ?_;refine Lm (first:=[.ref a]) (h₀:=X.base) I.ok.mod.kin hm.kp (a9 (ha pos pins s1 σ H1 _ I1 q) λus s2 ⟨vs,H2,I2,r,q2⟩=>⟨I2.eX,?_⟩) hst hpl;exact uk (us:=.ref a::us) (vs:=.ref a::vs) F hr hb hd hx I2 (.cons rfl r) q2
theorem yY {pl:Pj Bool} (he:PE X o ta) (c:mY X.K C) (hm:Meth X.K C m f) (F:cE X.prog X.w X.K X.mg X.base CX k f fd ps sp) (hr:bL k X.A) (hb:Binds X.K fd ps ds) (hd:Vals aP ds) (hx:Passes CX X E)
  (ht:autoParam (eval (.Call (.Attribute o m apos) [] [] pos) X.env=(do
   let ov <- eval o X.env
   standAt apos.atName
   let (f,first) <- holding [ov] (getMethod ov m pl)
   callWith pos f first (backTo pos (starEach [] X.env)) (backToKw pos (keywordEach [] X.env)))) Z0._auto_1) :
  PE X (.Call (.Attribute o m apos) [] [] pos) (sH C m sp aP E ta BE):=by
 intro pins s σ H Q I h;refine OG (pl:=pl) (a9 (he pins s σ H _ I h) λu s1 hZ=>?_) ht;obtain⟨x,H1,I1,rx,a,dx,fs,ex,ea,l,q⟩:=hZ;subst ex;obtain rfl:u=HR a:=rx;refine lI I1 ea c hm l ?_;exact Po (first:=[.ref a]) I1.eX hm.kp (uk (us:=[.ref a]) (vs:=[.ref a]) F hr hb hd hx I1 (.cons rfl .nil) q)
structure Mk (K:G1) (C f:G6):Prop where
 makes:QZ K C=true
 init:J4 K (.ref C) "__init__"=GZ (GZ (.ref f))
 fn:Qb K (.ref f)=true
 kp:Kt K (.ref C)=true
theorem zA {pins:List (G6 × Kl)} {σ:St} {H:Hp} {s:G5} {Q:VK} {us:List G2} {vs:List V} (M:Mk X.K C f) (F:cE X.prog X.w X.K X.mg X.base CX k f fd ps sp) (hr:bL (k+1) X.A) (hb:Binds X.K fd ps ds) (hd:Vals aP ds)
  (hx:Passes CX X E) (I:Inv X pins σ H s) (r:Vals vs us)
  (h:∀ x dx,H x=none->H dx=none->dx≠x->sp (.ref x::(vs++aP)) (upd (upd H dx (.own x)) x (.ins C dx [])) (λv H2=>v=.non/\Q (.ref x) H2) E) :
  wpAny (model X.prog X.w) X.A (call (.ref C) us) (EP X pins σ Q) X.xe s:=by
 have hq:=h (s.heap.objs.size+1) s.heap.objs.size (I.hok.fresh (MT _)) (I.hok.fresh (Hd _)) (HP (LJ _));have I2:=Inv.made (C:=C) I;have r2:Vals (V.ref (s.heap.objs.size+1)::(vs++aP)) (HR (s.heap.objs.size+1)::(us++ds)):=.cons rfl (r.append hd);have hl:(HR (s.heap.objs.size+1)::us++ds).length=ps.length:=by have e:=r2.length;rw [F.len _ _ _ _ hq] at e;exact e.symm
 refine Ny (yr (f:=f) I.eX M.makes M.init (beq_iff_eq.mp M.fn) (K1 (F.run _ X.stack _ _ ⟨HR (s.heap.objs.size+1)::us,[]⟩ (HR (s.heap.objs.size+1)::(us++ds)) _ _ E (hr.make C us [])
  (I2.AE.make C us []) (hb _ (HR (s.heap.objs.size+1)::us) I2.eX hl) r2 hq) λr s' hq'=>?_))
 cases r with
 | error e=>exact hx pins σ _ _ e s' I2 hq'
 | ok fl =>
  cases fl with
  | ret u =>obtain⟨v,H',I3,rv,ev,q3⟩:=I2.after hq';subst ev;exact⟨rv,⟨V.ref (s.heap.objs.size+1),H',I3,rfl,q3⟩⟩
  | next=>exact IU hq'
  | brk=>exact IU hq'
  | cont=>exact IU hq'
theorem Bb (M:Mk X.K C f) (F:cE X.prog X.w X.K X.mg X.base CX k f fd ps sp) (hr:bL (k+1) X.A) (hg:Gl X x) (hm:X.mg x=GZ (.ref C)) (hb:Binds X.K fd ps ds) (hd:Vals aP ds) (hx:Passes CX X E)
  (ha:PA X (e::es) t) (hdb:autoParam ((x==("__debug__":HA))=false) Z1._auto_1) (he:autoParam (starEach (e::es) X.env=(false,eval e X.env)::starEach es X.env) Z0._auto_1) (hpl:autoParam ((backTo pos (starEach es X.env)).any (·.1)=false) Z0._auto_1) :
  PE X (.Call (.Name x p) (e::es) [] pos) (zR C sp aP E t):=by
 intro pins s σ H Q I h;refine Km (fz I hg hm ?_ hdb);refine Lm (h₀:=X.base) I.ok.mod.kin M.kp (a9 (ha pos pins s σ H _ I h) λus s1 ⟨vs,H1,I1,r,q⟩=>⟨I1.eX,?_⟩) he hpl;exact zA M F hr hb hd hx I1 r q
end
section
variable {X:Cx} {CX:kB} {k:Nat} {f C:G6} {fd:JF} {ps ks:List HA} {sp:Sp} {E:XK} {x m:HA} {p pos apos kpos:K8} {e o:Ik} {es:List Ik} {kws:List Pl} {te ta:TE} {t tk:TA} {nm:Option HA}
variable {g:List G2->List G2->List G2} {gV:List V->List V->List V}
end
structure av (N P:List HA) (sc:Kf):Prop where
 kind:sc.kind=.function
 co:sc.isCoroutine=false
 gen:sc.isGenerator=false
 nd:N.Nodup
 pre:N.take P.length=P
 par:∀ x∈P,sc.names.lookup x=GZ .local∨sc.names.lookup x=GZ .cell
 nofree:∀ y∈sc.names,y.2≠.free
theorem nk {kindOf:HA->Option LH} {x:HA}:∀{binds:List (HA × G2)} {m:HA->Option G2},(∀ v,(x,v)∉binds)->bindL kindOf binds m x=m x
 | [],_,_=>rfl
 | (n,v)::r,m,h=>by
  unfold bindL;rw [nk λw hw=>h w (Ha _ hw)];split
  ·have:x≠n:=by rintro rfl;exact h v Hi
   simp [this]
  ·rfl
theorem ni {kindOf:HA->Option LH} {x:HA}:∀{binds:List (HA × G2)} {m:HA->Option G2},(∀ v,(x,v)∉binds)->bindC kindOf binds m x=m x
 | [],_,_=>rfl
 | (n,v)::r,m,h=>by
  unfold bindC;rw [ni λw hw=>h w (Ha _ hw)];split
  ·rfl
  ·have:x≠n:=by rintro rfl;exact h v Hi
   simp [this]
theorem nj {kindOf:HA->Option LH} {x:HA} {v:G2}:∀{P:List HA} {vs:List G2} {i:Nat} {m:HA->Option G2},P.Nodup->P[i]?=GZ x->vs[i]?=GZ v->kindOf x=GZ .local ->
  bindL kindOf (P.zip vs) m x=GZ v
 | [],_,_,_,_,h,_,_=>by simp at h
 | _::_,[],_,_,_,_,h,_=>by simp at h
 | p::P,w::vs,0,m,nd,h1,h2,hk=>by simp at h1 h2;subst h1;subst h2;show bindL kindOf ((p,w)::P.zip vs) m p=_;unfold bindL;rw [nk λv hv=>(Kg.mp nd).1 (LV hv).1,if_pos hk];simp
 | p::P,w::vs,i+1,m,nd,h1,h2,hk=>by show bindL kindOf ((p,w)::P.zip vs) m x=_;unfold bindL;exact nj (i:=i) (Kg.mp nd).2 (by simpa using h1) (by simpa using h2) hk
theorem nh {kindOf:HA->Option LH} {x:HA} {v:G2}:∀{P:List HA} {vs:List G2} {i:Nat} {m:HA->Option G2},P.Nodup->P[i]?=GZ x->vs[i]?=GZ v->kindOf x≠GZ .local ->
  bindC kindOf (P.zip vs) m x=GZ v
 | [],_,_,_,_,h,_,_=>by simp at h
 | _::_,[],_,_,_,_,h,_=>by simp at h
 | p::P,w::vs,0,m,nd,h1,h2,hk=>by simp at h1 h2;subst h1;subst h2;show bindC kindOf ((p,w)::P.zip vs) m p=_;unfold bindC;rw [ni λv hv=>(Kg.mp nd).1 (LV hv).1,if_neg hk];simp
 | p::P,w::vs,i+1,m,nd,h1,h2,hk=>by show bindC kindOf ((p,w)::P.zip vs) m x=_;unfold bindC;exact nh (i:=i) (Kg.mp nd).2 (by simpa using h1) (by simpa using h2) hk
noncomputable def start (N:List HA) (vs:List V):St:=vs.map GZ++KP (N.length-vs.length) none
noncomputable def eR (CX:kB) (P:Hq) (w:HU) (K:G1) (mg:HA->Option G2) (base:Ip) (N:List HA) (qual:HA) (scope:Kf) (f:G6) (cd:G2) (A:HX) (outer:List MA) (s:G5) (H:Hp) (E:XK):Cx where
 prog:=P
 w:=w
 K:=K
 mg:=mg
 base:=base
 A:=A.deeper (envOfC qual scope s.heap.objs.size f cd)
 N:=N
 s₀:=s
 H₀:=H
 env:=envOfC qual scope s.heap.objs.size f cd
 outer:=outer
 stack:=envOfC qual scope s.heap.objs.size f cd::outer
 ex:=[]
 calm:=true
 fn:=λ_=>true
 pn:=[]
 xe:=λe s'=>wpAny (model P w) (A.deeper (envOfC qual scope s.heap.objs.size f cd)) (leaving (envOfC qual scope s.heap.objs.size f cd) e) (λ_ s''=>CX outer H s E e s'') (λe' s''=>CX outer H s E e' s'') s'
theorem qI {sc:Kf} {n:Nat} {x:HA} (h:sc.names.lookup x=GZ .cell):∃ c,(cellsFrom n sc.names []).lookup x=GZ c:=by have q:=Mj sc.names n [] (.inl h);exact K9.mp q
theorem vV {CX:kB} {P:Hq} {w:HU} {K:G1} {mg:HA->Option G2} {base:Ip} {N ps:List HA} {qual:HA} {scope:Kf} {f:G6} {cd:G2} {A:HX} {outer:List MA} {s s1:G5} {H:Hp} {E:XK} {us:List G2} {vs:List V}
  (S:av N ps scope) (hd:A.handled=none) (e0:sO P w K mg base A outer s H) (hl:vs.length=ps.length) (r:Vals vs us)
  (x:InCallC s s.heap.objs.size (bindL (envOfC qual scope s.heap.objs.size f cd).kindOf (ps.zip us) λ_=>none) (cellsFrom (s.heap.objs.size+1) scope.names []) (bindC (envOfC qual scope s.heap.objs.size f cd).kindOf (ps.zip us) λ_=>none) s1) :
  Inv (eR CX P w K mg base N qual scope f cd A outer s H E) [] (start N vs) H s1:=by
 have hpl:ps.length<=N.length:=by have:=congrArg QP S.pre;rw [HB] at this;lia
 obtain⟨h1,tk,rfl,hk⟩:=x.done;have noA:∀ b:G6,b∉(eR CX P w K mg base N qual scope f cd A outer s H E).ex:=λb z=>absurd (show b∈([]:List G6) from z) (by simp);refine⟨⟨e0.mod,S.kind,rfl,rfl,Hd _,λy z c h1 h2=>?_,λy hy=>?_,λy c _ h=>?_,λ_=>hd,Around.frames_deeper e0.frames,.inr ⟨rfl,rfl⟩,λb z=>absurd z (noA b),e0.bs,e0.bsz,λb _ _=>noA b,λb z=>absurd z (noA b),e0.jN,e0.frf⟩,
  rfl,e0.bare,Un.kept hk,⟨_,x.toInCall.ns,λi y v h1 h2 h3=>?_⟩,λy c h=>⟨_,x.cell y c h⟩,e0.hok.fresh (Hd _),λy c h=>?_,λp hp=>absurd (show p∈([]:List (G6 × Kl)) from hp) (by simp),e0.hok.kept hk,?_⟩
 ·exact name_of_addr x.apart (KC h1) (KC h2)
 ·have hy:scope.names.lookup y=GZ .cell∨scope.names.lookup y=GZ .free:=hy;rcases hy with hy | hy
  ·exact qI hy
  ·exact absurd rfl (S.nofree _ (KC hy))
 ·exact Nh (x.above y c (KC h))
 ·have hi:i<vs.length:=by
   unfold start at h2;by_cases hi:i<vs.length
   ·exact hi
   ·rw [IG (by simpa using hi)] at h2;rw [List.getElem?_replicate] at h2;split at h2<;>cases h2
  have ha:vs[i]?=GZ v:=by
   unfold start at h2;rw [IW (by simpa using hi),He] at h2;cases e:vs[i]? with
   | none=>rw [e] at h2;cases h2
   | some a=>rw [e] at h2;cases h2;rfl
  obtain⟨u,hu,rv⟩:=r.get ha;have hp:ps[i]?=GZ y:=by rw [<- S.pre,Kq (by lia)];exact h1
  have ndP:ps.Nodup:=by rw [<- S.pre];exact S.nd.sublist (Ml _ _)
  refine⟨u,rv,?_⟩;rcases S.par y (Hc hp) with k | k
  ·exact .inl ⟨k,nj ndP hp hu k⟩
  ·obtain⟨c,e⟩:=qI (n:=s.heap.objs.size+1) k;refine .inr ⟨.inl k,c,e,?_⟩;have q:=x.cell y c e;rw [nh ndP hp hu (by show scope.names.lookup y≠_;rw [k];decide)] at q;exact q
 ·exact e0.hok.fresh (Nh (x.above y c (KC h)))
 ·unfold start;show _=N.length;rw [HN,G4,List.length_replicate];lia
theorem xV {CX:kB} {P:Hq} {w:HU} {K:G1} {mg:HA->Option G2} {base:Ip} {k:Nat} {f:G6} {name qual:HA} {params:Arguments} {body:List Le} {scope:Kf} {dV kV doc pm cdv ct oc:G2} {an od:Option G6}
  {osl:Array (Option G2)} {N ps:List HA} {sp:Sp} (lk:K.lookup f=GZ ⟨oc,od,.func (JD name qual params body scope dV kV doc pm an cdv ct),osl⟩) (hcd:Mm K cdv qual=true) (S:av N ps scope)
  (len:∀ vs H Q E,sp vs H Q E->vs.length=ps.length)
  (Qt:∀(A:HX) (outer:List MA) (s:G5) (H:Hp) (vs:List V) (Q:VK) (E:XK),bL k (A.deeper (envOfC qual scope s.heap.objs.size f cdv))->sp vs H Q E ->
   ∃ t,gN (eR CX P w K mg base N qual scope f cdv A outer s H E) body t/\t { nx:=λ_ H'=>Q .non H',rt:=Q } (start N vs) H) :
  cE P w K mg base CX (k+1) f (JD name qual params body scope dV kV doc pm an cdv ct) ps sp:=by
 refine⟨len,λA outer s H args us vs Q E hr e0 hb r hsp=>?_⟩;have hl:=len _ _ _ _ hsp;have KX:K.In s.heap:=e0.mod.kin.keeps λb o e=>(e0.bs b o e).1;have lim:s.heap.NoLimit:=e0.mod.nolimit.keeps λb o e=>(e0.bs b o e).1;have hkind:∀ y∈ps.zip us,scope.names.lookup y.1=GZ .local∨(scope.names.lookup y.1=GZ .cell/\((cellsFrom (s.heap.objs.size+1) scope.names []).lookup y.1).isSome=true):=fun⟨n,v⟩ hy=>by
  rcases S.par n (LV hy).1 with q | q
  ·exact .inl q
  ·exact .inr ⟨q,Mj _ _ _ (.inl q)⟩
 refine codeAny_call_function hr.depth (KX _ _ lk) rfl S.co S.gen rfl (PySem.W.codeRec_of KX hcd) (hb _ _ _ _ ?_);refine wpAny_newFunctionEnv_cells S.kind hkind λenv he s1 x=>?_;subst he;refine⟨lim.keeps x.toInCall.keep,codeAny_func ?_⟩;obtain⟨t,ht,hq⟩:=Qt A outer s H vs Q E (hr.deeper _) hsp;have I:Inv (eR CX P w K mg base N qual scope f cdv A outer s H E) [] (start N vs) H s1:=vV S hr.hd e0 hl r x;refine IK (ht [] s1 (start N vs) H _ I hq) (λfl s' hs=>?_) λe s' hs=>hs;have fin:∀{σ':St} {H':Hp} {v:V} {u:G2},Inv (eR CX P w K mg base N qual scope f cdv A outer s H E) [] σ' H' s'->RelV v u->Q v H'->CE outer P w H s Q u s' :=
  λ{σ' H' v u} J rv q=>⟨v,H',J.os,J.bare,J.base,J.hok,rv,q⟩
 cases fl with
 | ret u =>obtain⟨v,σ',H',J,rv,q⟩:=hs;exact fin J rv q
 | next =>obtain⟨σ',H',J,q⟩:=hs;exact fin (v:=V.non) (u:=J3) J rfl q
 | brk =>obtain⟨_,_,_,q⟩:=hs;exact IU q
 | cont =>obtain⟨_,_,_,q⟩:=hs;exact IU q
section
variable {X:Cx} {x:HA} {p pos:K8} {e:Ik} {es:List Ik} {t:TA} {id T:String} {r:List V->Hp->VK->Prop}
def F7 (r:List V->Hp->VK->Prop) (t:TA):TE:=λσ H Q=>t σ H λvs H1=>r vs H1 Q
theorem aF (hc:eA X (.builtin id) r) (hg:Gl X x) (hm:X.mg x=none) (hv:bootBuiltins x=GZ (.builtin id)) (ha:PA X (e::es) t) (hn:autoParam (x ≠ "__name__") Z1._auto_1) (hdb:autoParam ((x==("__debug__":HA))=false) Z1._auto_1)
  (he:autoParam (starEach (e::es) X.env=(false,eval e X.env)::starEach es X.env) Z0._auto_1) (hpl:autoParam ((backTo pos (starEach es X.env)).any (·.1)=false) Z0._auto_1):PE X (.Call (.Name x p) (e::es) [] pos) (F7 r t):=by
 intro pins s σ H Q I h;refine Km (iE I hg hm hv ?_ hn hdb);exact Qz (a9 (ha pos pins s σ H _ I h) λus s1 ⟨vs,H1,I1,r1,q1⟩=>hc pins s1 σ H1 vs us Q I1 r1 q1) he hpl
theorem dQ (hc:eA X (.type T) r) (hg:Gl X x) (hm:X.mg x=none) (hv:bootBuiltins x=GZ (.type T)) (ha:PA X (e::es) t) (hn:autoParam (x ≠ "__name__") Z1._auto_1) (hdb:autoParam ((x==("__debug__":HA))=false) Z1._auto_1)
  (he:autoParam (starEach (e::es) X.env=(false,eval e X.env)::starEach es X.env) Z0._auto_1) (hpl:autoParam ((backTo pos (starEach es X.env)).any (·.1)=false) Z0._auto_1):PE X (.Call (.Name x p) (e::es) [] pos) (F7 r t):=by
 intro pins s σ H Q I h;refine Km (iE I hg hm hv ?_ hn hdb);exact JW (a9 (ha pos pins s σ H _ I h) λus s1 ⟨vs,H1,I1,r1,q1⟩=>hc pins s1 σ H1 vs us Q I1 r1 q1) he hpl
end
end L2
namespace HT
open PySem PyProof.Rows
section
open PySem.SeqAt
open PySem.AutoSeq1 (wpAny_loadPart')
open PySem.MeetsSeq PySem.MeetsSeq2 PySem.MeetsSeq3
end
section
variable {prog:Hq} {w:HU} {A:HX} {E:G2->G5->Prop} {s:G5}
noncomputable def mT (n d:Nat):Option Int->Nat
 | none=>d
 | some v=>if v<0 then (v+(n:Int)).toNat else min v.toNat n
theorem um {v:G2} {o:Option Int} {Q:Option Int->G5->Prop} (p:Rj v o) (h:Q o s):wpAny (model prog w) A (Q1 v) Q E s:=by
 cases p with
 | none=>exact OV h
 | int i t=>exact slicePart_int h
end
end HT
namespace L2
open PySem PySem.Spec PyProof.Rows
abbrev TO:=St->Hp->(Option Int->Hp->Prop)->Prop
def PO (X:Cx) (e:Option Ik) (t:TO):Prop :=
 ∀(pins:List (G6 × Kl)) (s:G5) (σ:St) (H:Hp) (Q:Option Int->Hp->Prop),Inv X pins σ H s->t σ H Q ->
  wpAny (model X.prog X.w) X.A (evalPart e X.env) (λu s'=>∃ o H',Inv X pins σ H' s'/\Rj u o/\Q o H') X.xe s
def vx:TO:=λ_ H Q=>Q none H
def Cv (t:TE):TO:=λσ H Q=>t σ H λx H1=>∃ i,x=.int i/\Q (GZ i) H1
theorem intsAre_of {ns:List Int}:∀{us:List G2},Vals (ns.map V.int) us->Ly us ns:=by
 induction ns with
 | nil=>intro us r;rw [Jc] at r;cases r;exact .nil
 | cons n ns ih =>
  intro us r;rw [HH] at r;cases r with
  | cons r1 r2 =>obtain⟨t,e⟩:=r1;subst e;exact .cons n t (ih r2)
section
variable {X:Cx} {e:Ik} {te:TE} {lo hi:Option Ik} {tl th:TO} {pos p2:K8}
theorem uU:PO X none vx:=by intro pins s σ H Q I h;rw [N0];exact G8 ⟨none,H,I,.none,h⟩
theorem gW (h:PE X e te):PO X (GZ e) (Cv te):=by intro pins s σ H Q I hw;rw [evalPart_some];refine a9 (h pins s σ H _ I hw) λu s1 hZ=>?_;obtain⟨x,H1,I1,r1,q1⟩:=hZ;obtain⟨i,rfl,q⟩:=q1;obtain⟨t,rfl⟩:=r1;exact⟨GZ i,H1,I1,.int i t,q⟩
def Gj (X:Cx) (r:V->Option Int->Option Int->Hp->VK->Prop):Prop :=
 ∀(pins:List (G6 × Kl)) (s:G5) (σ:St) (H:Hp) (x:V) (v vl vu:G2) (lo hi:Option Int) (sl:G6) (Q:VK),Inv X pins σ H s->RelV x v->s.heap.IsSliceOf sl vl vu .none->Rj vl lo->Rj vu hi->r x lo hi H Q ->
  ∃ T id,typeLookup (.type T) "__getitem__"=pure (GZ (.builtin id))/\s.TypeIs v T/\wpAny (model X.prog X.w) X.A (getItem v (.ref sl)) (EP X pins σ Q) X.xe s
def Gy (r:V->Option Int->Option Int->Hp->VK->Prop) (te:TE) (tl th:TO):TE:=λσ H Q=>te σ H λx H1=>tl σ H1 λl H2=>th σ H2 λu H3=>r x l u H3 Q
theorem lZ {r:V->Option Int->Option Int->Hp->VK->Prop} (hr:Gj X r) (he:PE X e te) (hl:PO X lo tl) (hu:PO X hi th):PE X (.Subscript e (.Slice lo hi none p2) pos) (Gy r te tl th):=by intro pins s σ H Q I h;refine Om (a9 (he pins s σ H _ I h) λv s1 hZ=>?_);obtain⟨x,H1,I1,r1,q1⟩:=hZ;refine QQ (a9 (hl pins s1 σ H1 _ I1 q1) λvl s2 ⟨l,H2,I2,pl,q2⟩=>a9 (hu pins s2 σ H2 _ I2 q2) λvu s3 hZ=>?_);obtain⟨u,H3,I3,pu,q3⟩:=hZ;rw [N0];refine G8 ?_;have I4:Inv X pins σ H3 { s3 with heap:=s3.heap.push { cls:=.type "slice",data:=.fields #[vl,vu,.none] } }:=I3.kept (t':=s3.toks) λb ob q=>G7 _ q;obtain⟨T,id,hT,ht,hg⟩:=hr pins { s3 with heap:=s3.heap.push { cls:=.type "slice",data:=.fields #[vl,vu,.none] } } σ H3 x v vl vu l u s3.heap.objs.size Q I4 r1 (Nz ..) pl pu q3;show wpAny (model X.prog X.w) X.A (subscriptTail e (.Slice lo hi none p2) v (.ref s3.heap.objs.size)) (EP X pins σ Q) X.xe { s3 with heap:=s3.heap.push { cls:=.type "slice",data:=.fields #[vl,vu,.none] } };exact SG (ops:=[.ref s3.heap.objs.size,v]) ht hT hg (by with_unfolding_all rfl)
noncomputable def fV (xs:List V) (lo hi:Option Int):List V:=(xs.drop (HT.mT xs.length 0 lo)).take (HT.mT xs.length xs.length hi-HT.mT xs.length 0 lo)
theorem j5 (xs:List V) (lo hi:Option Int):(fV xs lo hi).length<=xs.length:=by unfold fV;rw [HB,JU];lia
end
noncomputable def B4 (n:Nat) (i:Int):Option Nat:=if 0<=i then (if i<n then GZ i.toNat else none) else if -(n:Int)<=i then GZ (i+n).toNat else none
noncomputable def wX {α:Type} (xs:List α) (i:Int):Option α:=(B4 xs.length i).bind λj=>xs[j]?
theorem AQ {n:Nat} {i:Int} {j:Nat} (h:B4 n i=GZ j):seqIndex? i n=GZ j/\j<n /\ -(n:Int)<=i/\i<n:=by
 unfold B4 at h;by_cases h0:0<=i
 ·rw [if_pos h0] at h;by_cases h1:i<n
  ·rw [if_pos h1] at h;have e:i.toNat=j:=Ja h;exact⟨by rw [seqIndex_of h0 h1,e],by lia,by lia,h1⟩
  ·rw [if_neg h1] at h;cases h
 ·rw [if_neg h0] at h;by_cases h1:-(n:Int)<=i
  ·rw [if_pos h1] at h;have e:(i+n).toNat=j:=Ja h;exact⟨by rw [seqIndex_neg (by lia) h1,e],by lia,h1,by lia⟩
  ·rw [if_neg h1] at h;cases h
theorem uB {α:Type} {xs:List α} {i:Int} {v:α} (h:wX xs i=GZ v):∃ j,seqIndex? i xs.length=GZ j/\xs[j]?=GZ v/\j<xs.length /\ -(xs.length:Int)<=i/\i<xs.length:=by
 unfold wX at h;cases e:B4 xs.length i with
 | none=>rw [e] at h;cases h
 | some j =>rw [e] at h;obtain⟨h1,h2,h3,h4⟩:=AQ e;exact⟨j,h1,h,h2,h3,h4⟩
theorem oQ {α:Type} {xs:List α} {j:Nat} {v:α} (h:xs[j]?=GZ v):wX xs (j:Int)=GZ v:=by
 have hj:j<xs.length:=(G9.mp h).1;have e:B4 xs.length (j:Int)=GZ j:=by unfold B4;rw [if_pos (by lia),if_pos (by lia)];simp
 unfold wX;rw [e];exact h
def Ak (b:Ik):Prop:=∀ o i,subscripted b false o i=operate [o,i] (getItem o i)
def Ek (X:Cx) (r:R2):Prop :=
 ∀(value slice:Ik) (pins:List (G6 × Kl)) (s:G5) (σ:St) (H:Hp) (x y:V) (v u:G2) (Q:VK),Inv X pins σ H s->RelV x v->RelV y u->r x y H Q ->
  subscripted slice false v u=operate [v,u] (getItem v u)->wpAny (model X.prog X.w) X.A (subscriptTail value slice v u) (EP X pins σ Q) X.xe s
def Gh (X:Cx) (id:String) (r:V->List V->Hp->VK->Prop):Prop :=
 ∀(pins:List (G6 × Kl)) (s:G5) (σ:St) (H:Hp) (x:V) (xs:List V) (v:G2) (us:List G2) (Q:VK),Inv X pins σ H s->RelV x v->Vals xs us->r x xs H Q ->
  wpAny (model X.prog X.w) X.A (call (.builtin id) (v::us)) (EP X pins σ Q) X.xe s
section
variable {X:Cx} {a b:Ik} {ta tb:TE} {pos:K8}
theorem aG {r:R2} (hr:Ek X r) (ha:PE X a ta) (hb:PE X b tb) (hs:Ak b):PE X (.Subscript a b pos) (Fh r ta tb):=by intro pins s σ H Q I h;exact Om (CZ ha hb I h λv u s2 x y H2 I2 rx ry q=>hr a b pins s2 σ H2 x y v u Q I2 rx ry q (hs _ _))
def wH (K:G1):R2:=λx y H Q=>∃ p xs i v,x=.ref p/\y=.int i/\aM K H p xs/\wX xs i=GZ v/\Q v H
def DR (K:G1):R2:=λx y H Q=>∃ p xs i v,x=.ref p/\y=.int i/\bE K H p xs/\wX xs i=GZ v/\Q v H
theorem bG:Ek X (wH X.K):=by
 intro value slice pins s σ H x y v u Q I rx ry h hs;obtain⟨p,xs,i,z,rfl,rfl,hq,he,q⟩:=h;cases rx;obtain⟨t,rfl⟩:=ry;obtain⟨its,r,pl,hz⟩:=I.list hq;obtain⟨j,h1,h2,h3,h4,h5⟩:=uB he;obtain⟨w,ew,rw'⟩:=r.get h2;have hl:=r.length;have hn:=pG;have fin:EP X pins σ Q w s:=⟨z,H,I,rw',q⟩
 by_cases h0:0<=i
 ·have hj:i.toNat=j:=by rw [seqIndex_of h0 h5] at h1;exact Ja h1
  exact item_listR pl.isList h0 (by lia) (by rw [hj];simpa using ew) fin hs
 ·have hj:(i+(its.toArray.size:Int)).toNat=j:=by rw [seqIndex_neg (by lia) h4] at h1;rw [Ic,<- hl];exact Ja h1
  exact Oo (x:=w) pl.isList.typeIs NP.lookup
   (wpAny_getItem_list_neg (Q:=λr s'=>r=w/\EP X pins σ Q r s') pl.isList (by lia) (by rw [Ic]<;>lia) (by lia) (by rw [hj];simpa using ew) ⟨rfl,fin⟩) hs
theorem aS:Ek X (DR X.K):=by
 intro value slice pins s σ H x y v u Q I rx ry h hs;obtain⟨p,xs,i,z,rfl,rfl,hq,he,q⟩:=h;cases rx;obtain⟨t,rfl⟩:=ry;obtain⟨its,r,pl,hz⟩:=I.tuple hq;obtain⟨j,h1,h2,h3,h4,h5⟩:=uB he;obtain⟨w,ew,rw'⟩:=r.get h2;have hl:=r.length;have hn:=pG;have fin:EP X pins σ Q w s:=⟨z,H,I,rw',q⟩
 exact Oo (x:=w) pl.typeIs LZ.lookup
  (getItem_tuple (j:=j) (Q:=λr s'=>r=w/\EP X pins σ Q r s') pl (by lia) (by lia) (by rw [Ic,<- hl];exact h1) (by simpa using ew) ⟨rfl,fin⟩) hs
theorem Inv.lst {pins:List (G6 × Kl)} {σ:St} {H:Hp} {s:G5} {p:G6} {xs:List V} (I:Inv X pins σ H s) (h:H p=GZ (.lst xs)) :
  ∃(its:List G2) (n:Nat),Vals xs its/\s.heap.get? p=GZ { cls:=.type "list",data:=.seq its.toArray n }/\xs.length<=sizeLine:=by
 obtain⟨z,its,n,r,e⟩:=I.hok p _ h;exact⟨its,n,r,e,z⟩
theorem qf (lo hi:Option Int) (n:Nat):(sliceBounds lo hi none n).1=((HT.mT n 0 lo:Nat):Int)/\(sliceBounds lo hi none n).2.1=((HT.mT n n hi:Nat):Int)/\(sliceBounds lo hi none n).2.2=1:=by
 refine⟨?_,?_,rfl⟩
 ·cases lo with
  | none=>simp [sliceBounds,HT.mT]
  | some i =>
   simp only [sliceBounds,HT.mT,QA,show (1:Int) > 0 by decide,if_true];by_cases h:i<0
   ·simp only [h,if_true]<;>lia
   ·simp only [h,if_false]<;>lia
 ·cases hi with
  | none=>simp [sliceBounds,HT.mT]
  | some i =>
   simp only [sliceBounds,HT.mT,QA,show (1:Int) > 0 by decide,if_true];by_cases h:i<0
   ·simp only [h,if_true]<;>lia
   ·simp only [h,if_false]<;>lia
theorem mU (its:List G2) (lo hi:Option Int):slicePick its.toArray lo hi none=((its.drop (HT.mT its.length 0 lo)).take (HT.mT its.length its.length hi-HT.mT its.length 0 lo)).toArray:=by obtain⟨h1,h2,h3⟩:=qf lo hi its.toArray.size;unfold slicePick;rw [h1,h2,h3];simp only [sliceRange_one,pick_run,Ic]<;>rfl
def F5 (K:G1):V->Option Int->Option Int->Hp->VK->Prop:=λx lo hi H Q=>∃ a xs,x=.ref a/\aM K H a xs/\∀ p,H p=none->Q (.ref p) (upd H p (.lst (fV xs lo hi)))
theorem qd:Gj X (F5 X.K):=by intro pins s σ H x v vl vu lo hi sl Q I rx hs pl pu h;obtain⟨a,xs,rfl,hx,q⟩:=h;cases rx;obtain⟨its,r,ht,hz⟩:=I.list hx;have hlen:=r.length;refine⟨"list",_,NP.lookup,ht.isList.typeIs,?_⟩;refine N1 ht.isList hs pl pu .none (by simp) ?_ (by rw [Ic]<;>lia);rw [mU,<- hlen];refine⟨.ref s.heap.objs.size,_,I.laid (t':=s.toks) (o:=.lst (fV xs lo hi)) (λb ob q=>G7 _ q) (Hd _) ?_,rfl,q _ (I.hok.fresh (Hd _))⟩;exact⟨Hg (j5 xs lo hi) hz,_,0,(r.drop (HT.mT xs.length 0 lo)).take (HT.mT xs.length xs.length hi-HT.mT xs.length 0 lo),Hs _ rfl⟩
noncomputable def fX:V->Bool
 | .non=>true
 | .bl _=>true
 | .int _=>true
 | .str _=>true
 | _=>false
noncomputable def xU:V->V->Bool
 | .non,.non=>true
 | .bl a,.bl b=>a==b
 | .bl a,.int b=>(if a then 1 else 0)==b
 | .int a,.bl b=>a==(if b then 1 else 0)
 | .int a,.int b=>a==b
 | .str a,.str b=>a==b
 | _,_=>false
theorem C9 {A:HX} {s:G5} {y x:V} {u v:G2} (ry:RelV y u) (rx:RelV x v) (fy:fX y=true) (fx:fX x=true):Tj A s u v (xU y x):=by
 cases y with
 | non =>
  cases ry;cases x with
  | non=>cases rx;exact Tz _
  | bl b=>cases rx;exact SH b
  | int b=>obtain⟨t,rfl⟩:=rx;exact Ta b t
  | str b=>obtain⟨t,rfl⟩:=rx;exact Tb b t
  | _=>exact absurd (show false=true from fx) HM
 | bl a =>
  cases ry;cases x with
  | non=>cases rx;exact SI a
  | bl b=>cases rx;exact SJ a b
  | int b=>obtain⟨t,rfl⟩:=rx;exact Tc a b t
  | str b=>obtain⟨t,rfl⟩:=rx;exact Td a b t
  | _=>exact absurd (show false=true from fx) HM
 | int a =>
  obtain⟨t',rfl⟩:=ry;cases x with
  | non=>cases rx;exact Te a t'
  | bl b=>cases rx;exact Tf a t' b
  | int b=>obtain⟨t,rfl⟩:=rx;exact Tn a t' b t
  | str b=>obtain⟨t,rfl⟩:=rx;exact PJ a t' b t
  | _=>exact absurd (show false=true from fx) HM
 | str a =>
  obtain⟨t',rfl⟩:=ry;cases x with
  | non=>cases rx;exact Tg a t'
  | bl b=>cases rx;exact Th a t' b
  | int b=>obtain⟨t,rfl⟩:=rx;exact PK a t' b t
  | str b=>obtain⟨t,rfl⟩:=rx;exact To a t' b t
  | _=>exact absurd (show false=true from fx) HM
 | _=>exact absurd (show false=true from fy) HM
noncomputable def AF (x:V) (u:G2):Bool:=match u with
 | .none=>xU .non x
 | .bool b=>xU (.bl b) x
 | .int i _=>xU (.int i) x
 | .str z _=>xU (.str z) x
 | _=>false
theorem xT {x y:V} {u:G2} (r:RelV y u) (f:fX y=true):AF x u=xU y x:=by
 cases y with
 | non=>cases r;rfl
 | bl b=>cases r;rfl
 | int i=>obtain⟨t,rfl⟩:=r;rfl
 | str z=>obtain⟨t,rfl⟩:=r;rfl
 | _=>exact absurd (show false=true from f) HM
theorem oP {x:V}:∀{xs:List V} {us:List G2},Vals xs us->xs.all fX=true->us.any (AF x)=xs.any λy=>xU y x
 | _,_,.nil,_=>rfl
 | y::xs,u::us,.cons r t,f=>by rw [R8,N7] at f;rw [MP,MP,xT r f.1,oP t f.2]
theorem lO {A:HX} {s:G5} {x:V} {v:G2} (rx:RelV x v) (fx:fX x=true):∀{xs:List V} {us:List G2},Vals xs us->xs.all fX=true->∀ u∈us,Tj A s u v (AF x u)
 | _,_,.nil,_=>λu hu=>by cases hu
 | y::xs,u::us,.cons r t,f=>λu' hu=>by
  rw [R8,N7] at f;rcases Hw.mp hu with rfl | hu
  ·rw [xT r f.1];exact C9 r rx f.1 fx
  ·exact lO rx fx t f.2 u' hu
noncomputable def Fy (x:V) (xs:List V):Bool:=xs.any λy=>xU y x
def Gs (K:G1) (neg:Bool):R2:=λx y H Q=>∃ p xs,y=.ref p/\(aM K H p xs∨bE K H p xs)/\fX x=true/\xs.all fX=true/\Q (.bl (if neg then !Fy x xs else Fy x xs)) H
theorem pN:jY X (compareOp .NotIn) (Gs X.K true):=by
 intro pins s σ H x y v u Q I rx ry h;obtain⟨p,xs,rfl,hq,fx,fs,q⟩:=h;cases ry;rcases hq with hq | hq
 ·obtain⟨its,r,pl,hz⟩:=I.list hq;refine SeqAt.notIn_listAt (AF x) pl.isList (λw hw=>lO rx fx r fs w (by simpa using hw)) ⟨.bl _,H,I,rfl,?_⟩;rw [show its.toArray.any (AF x)=its.any (AF x) by simp,oP r fs];exact q
 ·obtain⟨its,r,pl,hz⟩:=I.tuple hq;refine SeqAt.notIn_tupleAt (AF x) pl (λw hw=>lO rx fx r fs w (by simpa using hw)) ⟨.bl _,H,I,rfl,?_⟩;rw [show its.toArray.any (AF x)=its.any (AF x) by simp,oP r fs];exact q
theorem oS:eA X (.builtin "len") (λxs H Q=>∃ p ys,xs=[.ref p]/\(aM X.K H p ys∨bE X.K H p ys)/\Q (.int ys.length) H):=by
 intro pins s σ H xs us Q I r h;obtain⟨p,ys,rfl,hq,q⟩:=h;obtain⟨u,rfl,rx⟩:=vals1 r;cases rx;have hn:=pG;rcases hq with hq | hq
 ·obtain⟨its,r',pl,hz⟩:=I.list hq;have hlen:=r'.length;exact Calls.call_len_list pl.isList (by simp only [Ic]<;>lia) ⟨.int ys.length,H,I.tok _,⟨s.toks+1,by rw [Ic,hlen]⟩,q⟩
 ·obtain⟨its,r',pl,hz⟩:=I.tuple hq;have hlen:=r'.length;exact len_tuple pl (by simp only [Ic]<;>lia) ⟨.int ys.length,H,I.tok _,⟨s.toks+1,by rw [Ic,hlen]⟩,q⟩
theorem cu:eA X (.type "tuple") (λxs H Q=>∃ p ys,xs=[.ref p]/\((aM X.K H p ys/\∀ l,H l=none->Q (.ref l) (upd H l (.tup ys)))∨(bE X.K H p ys/\Q (.ref p) H))):=by
 intro pins s σ H xs us Q I r h;obtain⟨p,ys,rfl,h⟩:=h;obtain⟨u,rfl,rx⟩:=vals1 r;cases rx;rcases h with⟨hq,q⟩|⟨hq,q⟩
 ·obtain⟨its,r',pl,hz⟩:=I.list hq;have hlen:=r'.length;refine call_tuple_list pl.isList (λh' kp=>?_) (by simp only [Ic]<;>lia);have I1:Inv X pins σ H { s with heap:=h' }:=I.kept (t':=s.toks) kp;have I2:Inv X pins σ (upd H h'.objs.size (.tup ys)) { s with heap:=h'.push { cls:=.type "tuple",data:=.seq its.toArray } } :=
   I1.laid (t':=s.toks) (λb o e=>G7 _ e) (Hd _) (show br X.prog X.w _ _ _ (.tup ys) from ⟨hz,its,r',IsTup.new _ _⟩)
  exact⟨.ref h'.objs.size,_,I2,rfl,q _ (I1.hok.fresh (Hd _))⟩
 ·obtain⟨its,r',pl,hz⟩:=I.tuple hq;exact call_tuple_same pl ⟨.ref p,H,I,rfl,q⟩
def Gb (K:G1) (T:String) (x:V) (H:Hp):Prop:=match x with
 | .str _=>T = "str"
 | .int _=>T = "int"
 | .ref p=>(T = "list"/\∃ xs,aM K H p xs)∨(T = "tuple"/\∃ o,K.lookup p=GZ o/\o.cls=.type "tuple"/\o.dict=none) ∨
   (T = "dict"/\((∃ kvs,H p=GZ (.dK kvs))∨∃ kvs,H p=GZ (.dT kvs)))∨(T = "set"/\∃ S n,H p=GZ (.set S n))
 | _=>False
theorem D4 {pins:List (G6 × Kl)} {σ:St} {H:Hp} {s:G5} {T:String} {x:V} {v:G2} (I:Inv X pins σ H s) (r:RelV x v) (ty:Gb X.K T x H) :
  s.TypeIs v T/\∀ a,v=.ref a->∃ ob,s.heap.get? a=GZ ob/\ob.dict=none:=by
 cases x with
 | str z =>obtain⟨t,rfl⟩:=r;cases (show T = "str" from ty);exact⟨typeIs_str s z t,λ_ e=>nomatch e⟩
 | int i =>obtain⟨t,rfl⟩:=r;cases (show T = "int" from ty);exact⟨typeIs_int s i t,λ_ e=>nomatch e⟩
 | ref p =>
  cases r;rcases ty with⟨rfl,xs,hq⟩|⟨rfl,o,hk,hc,hd⟩|⟨rfl,hk⟩|⟨rfl,S,n,hk⟩
  ·obtain⟨its,_,pl,_⟩:=I.list hq;refine⟨pl.isList.typeIs,λa e=>?_⟩;cases e;obtain⟨o,n,e,c,hd,_⟩:=pl;exact⟨o,e,hd⟩
  ·refine⟨⟨o,I.eX p o hk,hc⟩,λa e=>?_⟩;cases e;exact⟨o,I.eX _ o hk,hd⟩
  ·have z:∃ o,s.heap.get? p=GZ o/\o.ExactDict:=by
    rcases hk with⟨kvs,hk⟩|⟨kvs,hk⟩
    ·obtain⟨_,_,_,_,o,_,_,e,ex,_⟩:=I.hok p _ hk;exact⟨o,e,ex⟩
    ·obtain⟨_,_,_,_,o,_,_,e,ex,_⟩:=I.hok p _ hk;exact⟨o,e,ex⟩
   obtain⟨o,e,ex⟩:=z;refine⟨⟨o,e,ex.1⟩,λa e2=>?_⟩;cases e2;exact⟨o,e,ex.2.1⟩
  ·obtain⟨o,_,_,_,e,ex,_⟩:=I.hok p _ hk;refine⟨⟨o,e,ex.1⟩,λa e2=>?_⟩;cases e2;exact⟨o,e,ex.2.1⟩
 | _=>exact IU ty
def Gv (K:G1) (T:String) (r:V->List V->Hp->VK->Prop) (to:TE) (t:TA):TE:=λσ H Q=>to σ H λx H1=>Gb K T x H1/\t σ H1 λxs H2=>r x xs H2 Q
variable {o e:Ik} {es:List Ik} {to:TE} {t:TA} {name:HA} {apos Qv:K8} {T id:String} {r:V->List V->Hp->VK->Prop}
theorem rK (pa:PlainAttrs T) (slot:Slot T name id) (hty:typeOf (.builtin id)=pure (.type "method_descriptor")) (hm:Gh X id r) (ho:PE X o to) (ha:PA X (e::es) t)
  (hbase:autoParam (attributeBase o name X.env (eval o X.env)=eval o X.env) Z0._auto_1)
  (hfew:autoParam (((backTo Qv (starEach (e::es) X.env)).all (λx=>!x.1) && (backToKw Qv (keywordEach [] X.env)).all (λx=>x.1.isSome)
   && decide ((e::es).length+([]:List Pl).length+(if ([]:List Pl).isEmpty then 0 else 1)<30))=true) Z0._auto_1)
  (hline:autoParam ((apos.endLine==Qv.line)=true) Z0._auto_1) (hs:autoParam (starEach (e::es) X.env=(false,eval e X.env)::starEach es X.env) Z0._auto_1) (hplain:autoParam ((backTo Qv (starEach es X.env)).any (·.1)=false) Z0._auto_1) :
  PE X (.Call (.Attribute o name apos) (e::es) [] Qv) (Gv X.K T r to t):=by
 intro pins s σ H Q I h;refine wpAny_Call_method_late hbase hfew hline rfl (a9 (ho pins s σ H _ I h) λv s1 hZ=>?_);obtain⟨x,H1,I1,r1,ty,q1⟩:=hZ;obtain⟨h1,h2⟩:=D4 I1 r1 ty;refine⟨T,id,pa,slot,hty,h1,h2,?_⟩;have hA:=ha Qv pins s1 σ H1 _ I1 q1;rw [hs] at hA ⊢;refine Oq (by show (false || (backTo Qv (starEach es X.env)).any (·.1))=false;rw [hplain]<;>rfl) (OW ?_);exact a9 hA λus s2 ⟨vs,H2,I2,r2,q2⟩=>hm pins s2 σ H2 x vs v us Q I2 r1 r2 q2
/- xs.append(e),list.index on a module's tuple .. are Gh facts of 06m -/
end
def Gg (X:Cx) (id:String) (r:V->List V->Hp->VK->Prop):Prop :=
 ∀(pins:List (G6 × Kl)) (s:G5) (σ:St) (H:Hp) (x:V) (xs:List V) (v:G2) (us:List G2) (Q:VK),Inv X pins σ H s->RelV x v->Vals xs us->r x xs H Q ->
  wpAny (model X.prog X.w) X.A (call (.builtin id) (v::us)) (EP X pins σ Q) X.xe s
theorem Vals.zero:∀{us:List G2},Vals [] us->us=[]
 | _,.nil=>rfl
theorem Vals.BS:∀{x:V} {xs:List V} {us:List G2},Vals (x::xs) us->∃ u vs,us=u::vs/\RelV x u/\Vals xs vs
 | _,_,_,.cons r t=>⟨_,_,rfl,r,t⟩
theorem Vals.one {x:V} {us:List G2} (h:Vals [x] us):∃ u,us=[u]/\RelV x u:=by obtain⟨u,vs,rfl,r,t⟩:=h.BS;exact⟨u,congrArg (u::·) t.zero,r⟩
theorem Vals.two {x y:V} {us:List G2} (h:Vals [x,y] us):∃ u v,us=[u,v]/\RelV x u/\RelV y v:=by obtain⟨u,vs,rfl,r,t⟩:=h.BS;obtain⟨v,rfl,q⟩:=t.one;exact⟨u,v,rfl,r,q⟩
theorem Vals.reverse {xs:List V} {us:List G2} (h:Vals xs us):Vals xs.reverse us.reverse:=by
 induction h with
 | nil=>exact .nil
 | cons r t ih=>rw [Qj,Qj];exact Vals.append ih (.cons r .nil)
section
variable {X:Cx} {pins:List (G6 × Kl)} {σ:St} {H:Hp} {s:G5} {l b:G6} {xs ys zs:List V}
theorem Inv.FY {its its':List G2} {n:Nat} {f:Array G2->Array G2} {t':Nat} (I:Inv X pins σ H s) (hH:H l=GZ (.lst xs))
  (e:s.heap.get? l=GZ { cls:=.type "list",data:=.seq its.toArray n }) (hf:f its.toArray=its'.toArray) (hv:Vals ys its') (hz:ys.length<=sizeLine) :
  Inv X pins σ (upd H l (.lst ys)) { s with heap:=s.heap.update l (MH f),toks:=t' }:=by
 have q:=PySem.IsL.update e f;rw [hf] at q;refine I.write (x:=l) (e:=l) (by rw [hH];exact trivial) (.inl rfl) (λb' u hb hu=>(Ih s.heap (MH f) (IJ hb)).trans hu) ⟨_,q⟩ ?_;exact⟨hz,its',_,hv,q⟩
theorem Inv.FW {its:List G2} {t':Nat} (I:Inv X pins σ H s) (hv:Vals ys its) (hz:ys.length<=sizeLine) :
  Inv X pins σ (upd H s.heap.objs.size (.lst ys)) { s with heap:=s.heap.push { cls:=.type "list",data:=.seq its.toArray },toks:=t' } :=
 I.laid (λ_ _ q=>G7 _ q) (Hd _) ⟨hz,its,0,hv,Hs _ rfl⟩
theorem Inv.fresh (I:Inv X pins σ H s):H s.heap.objs.size=none:=I.hok.fresh (Hd _)
theorem Inv.AW (I:Inv X pins σ H s) (hH:H l=GZ (.lst xs)):xs.length<=sizeLine/\∃(its:List G2) (n:Nat),Vals xs its/\xs.length=its.length/\s.heap.get? l=GZ { cls:=.type "list",data:=.seq its.toArray n }:=by obtain⟨z,its,n,r,e⟩:=I.hok l _ hH;exact⟨z,its,n,r,r.length,e⟩
end
section
variable {X:Cx}
def uY:V->List V->Hp->VK->Prop:=λx vs H Q=>∃ l xs y,x=.ref l/\vs=[y]/\H l=GZ (.lst xs)/\xs.length<sizeLine/\Q .non (upd H l (.lst (xs++[y])))
theorem gR:Gg X "list.append" uY:=by intro pins s σ H x vs v us Q I rx rv h;obtain⟨l,xs,y,rfl,rfl,hH,hz,q⟩:=h;cases rx;obtain⟨u,rfl,ru⟩:=rv.one;obtain⟨z,its,n,r,hl,e⟩:=I.AW hH;refine NA Kz ⟨_,e,rfl⟩ F.entry_list_append (F.args_list_append_2 _ _) (PySem.list_append l its.toArray n u (by rw [Ic];lia)) ⟨e,?_⟩;refine⟨.non,_,I.FY (its':=its++[u]) hH e (by simp) (r.append (.cons ru .nil)) ?_,rfl,q⟩;rw [HN,JC];lia
def F3:R2:=λx y H Q=>∃ l b xs zs,x=.ref l/\y=.ref b/\H l=GZ (.lst xs)/\H b=GZ (.lst zs)/\xs.length+zs.length<=sizeLine/\∀ p,H p=none->Q (.ref p) (upd H p (.lst (xs++zs)))
theorem yU:jY X (binaryOp .Add) F3:=by
 intro pins s σ H x y v u Q I rx ry h;obtain⟨l,b,xs,zs,rfl,rfl,hH,hB,hz,q⟩:=h;cases rx;cases ry;obtain⟨z,its,n,r,hl,e⟩:=I.AW hH;obtain⟨z2,its2,n2,r2,hl2,e2⟩:=I.AW hB;refine PySem.P.add_list e e2 ?_ (by rw [Ic,Ic];lia);have ea:its.toArray++its2.toArray=(its++its2).toArray:=by simp
 rw [ea];exact⟨.ref _,_,I.FW (t':=s.toks) (r.append r2) (by rw [HN];lia),rfl,q _ I.fresh⟩
end
section
variable {prog:Hq} {w:HU} {A:HX} {E:G2->G5->Prop} {s:G5}
end
section
variable {X:Cx}
end
end L2
namespace Att
open PySem PySem.W PySem.Calls PyProof.Rows
theorem kF {P:Tp} {h:Ip}:∀(ns:List Int) (vs:List G2),WellAll P h vs (ns.map WData.int)->Ly vs ns:=by
 intro ns
 induction ns with
 | nil =>intro vs w;rw [Jc] at w;cases w;exact .nil
 | cons n ns ih =>
  intro vs w;rw [HH] at w;cases w with
  | cons a b =>cases a;exact .cons _ _ (ih _ b)
theorem wJ {l:Oi} {n:Nat} (hn:l.most=GZ n) {P:Tp} {h:Ip} {args:List WData} {vals:List G2}
  (hpre:l.row.toRowW.claim.pre args=true) (hwl:WellAll P h vals args) :
  ∃ a vs ns,vals=[HR a]/\args=[WData.list (ns.map WData.int)]/\h.get? a=GZ { cls:=.type "list",data:=.seq vs.toArray }/\Ly vs ns/\ns.length<=n:=by
 have hsh:WShape.hasAll [] args [.list .int]=true:=(pre_splitW hpre).1;have hc:l.pre.holds [] { args:=args }=true:=(pre_splitW hpre).2;obtain⟨d,r,rfl,h1,h2⟩:=hasAllW_cons hsh;obtain rfl:=hasAllW_nil h2;obtain⟨xs,rfl,h3⟩:=hasW_list h1;obtain⟨ns,rfl⟩:=items_int h3;have hlen:ns.length<=n:=by
  unfold OpenLaw.pre at hc;have h4:(WTm.not (.lt (.lit (.int (n:Int))) (.len (.arg 0)))).holds [] { args:=[.list (ns.map .int)] }=true:=by have h4:=(holds_andW hc).1;rw [hn] at h4;exact h4
  have h5:=condW_of h4 (w_not (w_lt w_lit (w_len_list (w_arg rfl))));rw [G4] at h5;refine Nat.le_of_not_lt λq=>?_;have q':(n:Int)<((ns.length:Nat):Int):=by lia
  first
   | (rw [decide_eq_true q'] at h5;exact absurd h5 (by decide))
   | (simp at h5;lia)
 cases hwl with
 | cons w1 w2 =>
  cases w2;cases w1 with
  | list ho hall=>exact⟨_,_,ns,rfl,rfl,ho,kF ns _ hall,hlen⟩
theorem wD (l:Oi) (args:List WData):l.row.toRowW.claim.post args (.bool true) args=true :=
 postW_of (r:=l.row.toRowW) (X:=(true==true))
  (show WShape.has [] (.bool true) .bool=true by first | rfl | decide | simp [WShape.has,WShape.arms,WShape.armsAll])
  (show (WTm.eq .res (.lit (.bool true))).value [] { args:=args,res:=GZ (.bool true),after:=args }=GZ (.bool (true==true)) from w_eq_bool (w_res rfl) w_lit) rfl
theorem qC {l:Oi} {n:Nat} {q:Hq} {loose:List HA} {XP:(HA->Option G2)->Ip->Prop} {YP:HU->Ip->Prop} {d:DefRec}
  (hn:l.most=GZ n) (hdf:d.params.defaults=[])
  (call:∀(w:HU) (s₀ s₁:G5) (mg mb:HA->Option G2) (fa:G6) (o:Kl) (pm cd doc:G2) (a:G6) (vs:List G2) (ns:List Int),
   Ground q loose [] XP w s₀ mg mb s₁.heap->YP w s₁.heap ->
   s₁.heap.get? fa=GZ o->o.data=.func (docDef d.name d.params d.body d.scope pm cd doc)->s₁.heap.CodeRec cd d.name->mg d.name=GZ (.ref fa) ->
   s₁.heap.get? a=GZ { cls:=.type "list",data:=.seq vs.toArray }->Ly vs ns->ns.length<=n->s₁.gens=#[] ->
   codeAny (model l.prog w) callerA (.call (.ref fa) ⟨[.ref a],[]⟩) (λr s'=>r=.ok (.ret (.bool true))/\OldK s₁.heap s'.heap/\s'.os=s₁.os/\Ng s'.gens) s₁) :
  Rg q loose XP YP l.row.toRowW d [] (λf vs=>Rk f vs):=by
 intro w s₀ s₁ mg mb G Y fa o pm cd doc dV kV ho hd hcd hD hmg hg args vals as hpre hlay hrd hwl hlo;obtain rfl:dV=.none:=Dflts.none hD hdf;obtain rfl:kV=.none:=Dflts.noKw hD;obtain⟨a,vs,ns,rfl,rfl,hobj,hints,hlen⟩:=wJ hn hpre hwl;refine enter_call (K1 (call w s₀ s₁ mg mb fa o pm cd doc a vs ns G Y ho (fd_plain hd) hcd hmg hobj hints hlen hg) λr s' hq=>?_);obtain⟨rfl,h2,h3,h4⟩:=hq;exact⟨.inl ⟨.bool true,.bool true,[],rfl,λ_=>rfl,.bool true,wD l _,λ_=>⟨Mn,λ_ hm=>(nomatch hm)⟩⟩,h2,h3,h4⟩
section
variable {prog:Hq} {w:HU} {A:HX} {E:G2->G5->Prop} {s:G5} {K:G1}
end
end Att
namespace L2
open PySem PySem.Spec PyProof.Rows
theorem oJ:∀{vs:List G2} {ns:List Int},Ly vs ns->Vals (ns.map V.int) vs
 | _,_,.nil=>.nil
 | _,_,.cons n t h=>.cons ⟨t,rfl⟩ (oJ h)
def Aj (H:Hp):Prop:=∀ b,H b=none∨∃ o xs,H b=GZ (.frz o (.lst xs))
theorem yi {P:Hq} {w:HU} {K:G1} {mg mb:HA->Option G2} {CX:kB} {k:Nat} {fa a:G6} {fd:JF} {x:HA} {sp:Sp} {s₁:G5} {vs:List G2} {ns:List Int}
  (KX:K.In s₁.heap) (hns:s₁.heap.Ns mainGlobals mg) (hb:s₁.heap.Ns builtinsNs mb) (hbb:∀ x:HA,x ≠ "__name__"->mb x=bootBuiltins x) (hlim:s₁.heap.NoLimit) (hg:s₁.gens=#[])
  (ha:s₁.heap.get? a=GZ { cls:=.type "list",data:=.seq vs.toArray }) (hi:Ly vs ns) (hl:ns.length<=sizeLine) (hr:bL k callerA)
  (F:∀ base:Ip,K.In base->base.Ns mainGlobals mg->cE P w K mg base CX k fa fd [x] sp) (hbind:∀(s:G5) (u:G2),Qi s fd ⟨[u],[]⟩ [(x,u)])
  (hsp:∀ H:Hp,Aj H->aM K H a (ns.map V.int)->sp [.ref a] H (λv _=>v=.bl true) λ_ _ _=>False)
  (hCX:∀ H e s',CX [] H s₁ (λ_ _ _=>False) e s'->False) :
  codeAny (model P w) callerA (.call (.ref fa) ⟨[.ref a],[]⟩) (λr s'=>r=.ok (.ret (.bool true))/\OldK s₁.heap s'.heap/\s'.os=s₁.os/\Ng s'.gens) s₁:=by
 have rv:=oJ hi;have lenV:=hi.length
 -- from an abstract heap in which nothing but the script may be tracked
 have core:∀ H:Hp,Aj H->aM K H a (ns.map V.int)->fJ P w H s₁.heap->(∀ b,H b≠none->b=a)->(H a≠none->K.lookup a=none) ->
   codeAny (model P w) callerA (.call (.ref fa) ⟨[.ref a],[]⟩) (λr s'=>r=.ok (.ret (.bool true))/\OldK s₁.heap s'.heap/\s'.os=s₁.os/\Ng s'.gens) s₁:=by
  intro H hO hS hok hA hK;have base_of:∀{b:G6} {o:Kl},s₁.heap.get? b=GZ o->H b=none->(ph s₁.heap H).get? b=GZ o:=λe n=>x6 e n;have noA:∀{b:G6} {o:Kl} {es:Array MI} {ep:Nat},s₁.heap.get? b=GZ o->o.data=.dict es ep->H b=none:=λ{b o es ep} e d=>by
   cases q:H b with
   | none=>rfl
   | some u =>have e':b=a:=hA b (by rw [q];simp);subst e';rw [ha] at e;cases e;have d':Data.seq vs.toArray _=Data.dict es ep:=d;cases d'
  have nsK:∀{b:G6} {m:HA->Option G2},s₁.heap.Ns b m->(ph s₁.heap H).Ns b m:=λ{b m} ⟨o,es,ep,e,d,r⟩=>⟨o,es,ep,base_of e (noA e d),d,r⟩
  have hKb:K.In (ph s₁.heap H):=λb o e=>base_of (KX b o e) (by
   cases q:H b with
   | none=>rfl
   | some u =>
    have e':b=a:=hA b (by rw [q];simp);subst e';rw [hK (by rw [q];simp)] at e;cases e)
  have hM:Mod K mg (ph s₁.heap H):=⟨hKb,nsK hns,⟨mb,nsK hb,hbb⟩,let ⟨mc,h1,h2⟩:=hlim;⟨mc,nsK h1,h2⟩⟩
  have e0:sO P w K mg (ph s₁.heap H) callerA [] s₁ H:=⟨rfl,hM,λb o e=>AZ e,Mi (vT _ _),trivial,λb hb=>absurd (show b∈([]:List G6) from hb) (by simp),hok,.of_eq hg⟩
  refine K1 ((F _ hKb (nsK hns)).run callerA [] s₁ H ⟨[.ref a],[]⟩ [.ref a] [.ref a] _ _ hr e0 (hbind s₁ (.ref a)) (.cons rfl .nil) (hsp H hO hS)) λr s' h=>?_;cases r with
  | error e=>exact (hCX H e s' h).elim
  | ok fl =>
   cases fl with
   | next=>exact IU h
   | brk=>exact IU h
   | cont=>exact IU h
   | ret u =>
    obtain⟨v,H',os,bare,un,hok',r',q⟩:=h;have q':v=.bl true:=q;subst q';obtain rfl:u=K7 true:=r';refine⟨rfl,OldK.of_keep λb o e=>?_,os,bare⟩;cases q:H b with
    | none=>exact un.keep b o e q (by intro z;exact absurd (show b∈([]:List G6) from z) (by simp)) (by simp)
    | some u =>
     rcases hO b with z | ⟨ob,xs,z⟩
     ·rw [q] at z;cases z
     ·have z2:=un.frzs b ob _ z;obtain⟨e1,_⟩:=hok b _ z;obtain⟨e2,_⟩:=hok' b _ z2;rw [e] at e1;cases e1;exact e2
 cases hk:K.lookup a with
 | some o =>
  -- the script is one of the module's own objects
  have e:=KX a o hk;rw [ha] at e;cases e;refine core (λ_=>none) (λ_=>.inl rfl) (.inr ⟨_,vs.toArray,_,hk,rfl,rfl,rfl,by rw [Ic,lenV];exact hl,by simpa using rv⟩) (λb u z=>by have z':(none:Option HO)=GZ u:=z;cases z') (λb z=>absurd rfl z) λz=>absurd rfl z
 | none =>
  refine core (λb=>if b=a then GZ (.frz { cls:=.type "list",data:=.seq vs.toArray } (.lst (ns.map V.int))) else none) (λb=>?_) (.inl (.inr ⟨{ cls:=.type "list",data:=.seq vs.toArray },if_pos rfl⟩)) (λb u z=>?_) (λb z=>?_) λ_=>hk
  ·by_cases hb:b=a
   ·exact .inr ⟨_,_,if_pos hb⟩
   ·exact .inl (if_neg hb)
  ·by_cases hb:b=a
   ·have z':=(if_pos hb).symm.trans z;cases z';subst hb;exact⟨ha,by rw [G4];exact hl,vs,_,rv,ha⟩
   ·have z':=(if_neg hb).symm.trans z;cases z'
  ·by_cases hb:b=a
   ·exact hb
   ·exact absurd (if_neg hb) z
noncomputable abbrev cY {K:G1} {h:Ip} (_:K.In h):G1:=K
theorem vA {l:Oi} {n k:Nat} {q:Hq} {loose:List HA} {XP:(HA->Option G2)->Ip->Prop} {YP:HU->Ip->Prop} {d:DefRec} {K:Tp->G1} {CX:HU->kB} {sp:HU->Sp} {x:HA}
  (hn:l.most=GZ n) (hn2:n<=sizeLine) (hdf:d.params.defaults=[]) (hr:bL k callerA)
  (hY:∀(w:HU) (h:Ip),YP w h->(K w.params).In h)
  (F:∀(w:HU) (mg:HA->Option G2) (fa:G6) (h:Ip),(K w.params).In h->h.Ns mainGlobals mg->mg d.name=GZ (.ref fa) ->
   ∃ fd:JF,(∀(s:G5) (u:G2),Qi s fd ⟨[u],[]⟩ [(x,u)]) /\
    ∀ base:Ip,(K w.params).In base->base.Ns mainGlobals mg->cE l.prog w (K w.params) mg base (CX w) k fa fd [x] (sp w))
  (hsp:∀(w:HU) (H:Hp) (a:G6) (ns:List Int),ns.length<=n->Aj H->aM (K w.params) H a (ns.map V.int)->sp w [.ref a] H (λv _=>v=.bl true) λ_ _ _=>False)
  (hCX:∀(w:HU) (H:Hp) (s:G5) (e:G2) (s':G5),CX w [] H s (λ_ _ _=>False) e s'->False) :
  Rg q loose XP YP l.row.toRowW d [] (λf vs=>Rk f vs):=by
 refine Att.qC hn hdf λw s₀ s₁ mg mb fa o pm cd doc a vs ns G Y ho hd hcd hmg hobj hints hlen hg=>?_;have KX:=hY w _ Y;obtain⟨fd,hb,hF⟩:=F w mg fa _ KX G.T.g hmg;exact yi KX G.T.g G.T.b G.T.builtins G.T.nolimit hg hobj hints (Hg hlen hn2) hr hF hb (λH hO hS=>hsp w H a ns hlen hO hS) λH e s'=>hCX w H s₁ e s'
theorem z6 {l:Oi} {n k:Nat} {q:Hq} {loose:List HA} {XP:(HA->Option G2)->Ip->Prop} {YP:HU->Ip->Prop} {d:DefRec} {K:Tp->G1} {CX:kB} {sp:G1->Sp} {x:HA}
  (hn:l.most=GZ n) (hn2:n<=sizeLine) (hdf:d.params.defaults=[]) (hr:bL k callerA)
  (hY:∀(w:HU) (h:Ip),YP w h->(K w.params).In h)
  (F:∀(w:HU) (mg:HA->Option G2) (fa:G6) (h:Ip),(K w.params).In h->h.Ns mainGlobals mg->mg d.name=GZ (.ref fa) ->
   ∃ fd:JF,(∀(s:G5) (u:G2),Qi s fd ⟨[u],[]⟩ [(x,u)]) /\
    ∀ base:Ip,(K w.params).In base->base.Ns mainGlobals mg->cE l.prog w (K w.params) mg base CX k fa fd [x] (sp (K w.params)))
  (hsp:∀(K:G1) (H:Hp) (a:G6) (ns:List Int),ns.length<=n->Aj H->aM K H a (ns.map V.int)->sp K [.ref a] H (λv _=>v=.bl true) λ_ _ _=>False)
  (hCX:∀(H:Hp) (s:G5) (e:G2) (s':G5),CX [] H s (λ_ _ _=>False) e s'->False) :
  Rg q loose XP YP l.row.toRowW d [] (λf vs=>Rk f vs) :=
 vA (K:=K) (CX:=λ_=>CX) (sp:=λw=>sp (K w.params)) hn hn2 hdf hr hY F (λw H a ns h1 h2 h3=>hsp (K w.params) H a ns h1 h2 h3) λ_ H s e s'=>hCX H s e s'
end L2
/- THE LAST THEOREM (shape;LID,My.* are yours):
   My.Adr: a structure of the addresses that your layer names (classes,functions);My.Txt K t: a structure (Prop) of the equations over K;
   My.txt_mk:{K} {implicit addresses ..} (e1:nsIn K mainGlobals "law"=GZ (GZ (.ref f))) (e2:K.lookup f=GZ ⟨oc,od,.func (fnOf "law" "law" params body scope dV kV doc pm an cdv ct),sl⟩) (e3:codeIn K cdv "law"=true) ..:∃ t,My.Txt K t
set_option maxRecDepth 100000 in
set_option maxHeartbeats 0 in
theorem PySem.Challenge.cw_LID_holds : PySem.Challenge.rw_LID.Holds := by
 w_on;o_law;k_head;(case hw=>w_witness2)
 k_fill
 refine L2.vA (l:=PySem.Challenge.rw_LID) (n:=63) (k:=40) (x := "script") (CX:=λw=>..) (sp:=λ_=>My.sp_law) rfl (by decide) rfl ⟨rfl,by decide,by decide⟩ (λw h Y=>Rl Y) ?F ?S ?C
 case F =>
  intro w mg fa h KX G hmg;have T:∃ t,My.Txt (L2.cY KX) t:=by
   dsimp only [L2.cY]                          -- K must stand as «<heap const> w.params» for k_is
   refine' My.txt_mk ?e1 ?e2 ?e3 ..
   (case e1=>PySem.W.k_is)                    -- in the order: a name -> its address -> its object -> its parts
   (case e2=>PySem.W.k_is)
   ..
  obtain⟨t,T⟩:=T;have e0:=hmg.symm.trans (JY KX G T.law);cases e0                                       -- fa is the law's own address;exact⟨_,λs u=>.of_eq rfl,λbase kb nb=>My.law_fn T kb nb⟩     -- if «.of_eq rfl» comes too early: refine' ⟨_,?b,λbase kb nb=>My.law_fn T kb nb⟩;exact λs u=>.of_eq rfl
 case S=>exact λw H a ns hl hO hS=>..
 case C=>exact ..
(the tactic k_is has no namespace: write k_is) -/
namespace L2
open PySem PySem.Spec PyProof.Rows
noncomputable def inClass (s:Le) (j:Nat):Le:=match s with
 | .ClassDef _ _ _ body _ _ _ _ _ _ _=>body.getD j (.Pass ⟨0,0,0,0⟩)
 | _=>.Pass ⟨0,0,0,0⟩
noncomputable def bo (s:Le):Arguments:=match s with
 | .FunctionDef _ a _ _ _ _ _ _ _ _=>a
 | _=>{ posonlyargs:=[],args:=[],vararg:=none,kwonlyargs:=[],kw_defaults:=[],kwarg:=none,defaults:=[] }
noncomputable def aO (s:Le):List Le:=match s with
 | .FunctionDef _ _ b _ _ _ _ _ _ _=>b
 | _=>[]
noncomputable def ak (s:Le):Kf:=match s with
 | .FunctionDef _ _ _ _ _ _ sc _ _ _=>sc
 | _=>{ kind:=.function,names:=[],isGenerator:=false,isCoroutine:=false }
abbrev aQ:kB:=λ_ _ _ _ _ _=>False
abbrev E0:XK:=λ_ _ _=>False
theorem aE {X:Cx}:Passes aQ X E0:=λ_ _ _ _ _ _ _ h=>h.elim
structure w6 (K:G1) (x qual:HA) (st:Le) (f:G6) (fd:JF):Prop where
 ex:∃(oc:G2) (od:Option G6) (kV doc pm:G2) (an:Option G6) (cdv ct:G2) (osl:Array (Option G2)),
  fd=JD x qual (bo st) (aO st) (ak st) .none kV doc pm an cdv ct/\K.lookup f=GZ ⟨oc,od,.func fd,osl⟩/\Mm K cdv qual=true
 kp:Kt K (.ref f)=true
section
variable {P:Hq} {w:HU} {K:G1} {mg:HA->Option G2} {base:Ip}
theorem w6.ok {x qual:HA} {st:Le} {f:G6} {fd:JF} {N ps:List HA} {k:Nat} {sp:Sp} (F:w6 K x qual st f fd) (S:av N ps (ak st)) (len:∀ vs H Q E,sp vs H Q E->vs.length=ps.length)
  (Qt:∀(cdv:G2) (A:HX) (outer:List MA) (s:G5) (H:Hp) (vs:List V) (Q:VK) (E:XK),bL k (A.deeper (envOfC qual (ak st) s.heap.objs.size f cdv))->sp vs H Q E ->
   ∃ t,gN (eR aQ P w K mg base N qual (ak st) f cdv A outer s H E).kh (aO st) t/\t { nx:=λ_ H'=>Q .non H',rt:=Q } (start N vs) H):cE P w K mg base aQ (k+1) f fd ps sp:=by
 obtain⟨oc,od,kV,doc,pm,an,cdv,ct,osl,rfl,lk,hcd⟩:=F.ex;refine xV lk hcd S len λA outer s H vs Q E hr hsp=>?_;obtain⟨t,h,q⟩:=Qt cdv A outer s H vs Q E hr hsp;exact⟨t,h.kh,q⟩
theorem w6.binds {x qual:HA} {st:Le} {f:G6} {fd:JF} {ps:List HA} (F:w6 K x qual st f fd)
  (h:∀(kV doc pm:G2) (an:Option G6) (cdv ct:G2) (us:List G2),us.length=ps.length->bindArgs (JD x qual (bo st) (aO st) (ak st) .none kV doc pm an cdv ct) ⟨us,[]⟩=pure (ps.zip us)):Binds K fd ps []:=by
 obtain⟨oc,od,kV,doc,pm,an,cdv,ct,osl,rfl,lk,hcd⟩:=F.ex;exact .all (h kV doc pm an cdv ct)
theorem tD {x qual:HA} {st:Le} {f:G6} {oc:G2} {od an:Option G6} {osl:Array (Option G2)} {kV doc pm cdv ct:G2} (l:K.lookup f=GZ ⟨oc,od,.func (JD x qual (bo st) (aO st) (ak st) .none kV doc pm an cdv ct),osl⟩)
  (c:Mm K cdv qual=true) (k:Kt K (.ref f)=true):w6 K x qual st f (JD x qual (bo st) (aO st) (ak st) .none kV doc pm an cdv ct):=⟨⟨oc,od,kV,doc,pm,an,cdv,ct,osl,rfl,l,c⟩,k⟩
end
theorem dJ {A:HX} {k:Nat} (hr:bL k A):A.units+1<cLine:=JG (Nat.add_le_add_left (by decide:1<=64) _) hr.units
theorem wK {n:Nat} (h:n<=1000):n<sizeLine:=JG h (by decide)
section
variable {X:Cx}
theorem pv (i:Nat) {x:HA} {pos:K8} (hN:autoParam (X.N[i]?=GZ x) Z0._auto_1) (hv:CV X.env.scope x:=by first | exact HL rfl | exact MJ (HL rfl) | exact MJ (MJ rfl)) (hd:autoParam ((x==("__debug__":HA))=false) Z1._auto_1)
  (hcd:autoParam ((x==("__classdict__":HA))=false) Z1._auto_1):PE X (.Name x pos) (D0 i):=uc hN hv hd hcd
end
theorem aV {c A B:Prop} [Decidable c] (h1:c->A) (h2:¬c->B):if c then A else B:=by
 by_cases h:c
 ·rw [if_pos h];exact h1 h
 ·rw [if_neg h];exact h2 h
def aw (H H':Hp):Prop:=∀ b o,H b=GZ o->H' b=GZ o
theorem aw.refl (H:Hp):aw H H:=λ_ _ h=>h
theorem aw.trans {H H1 H2:Hp} (a:aw H H1) (b:aw H1 H2):aw H H2:=λc o h=>b c o (a c o h)
theorem aw.free {H H':Hp} (e:aw H H') {l:G6} (h:H' l=SK):H l=SK:=by
 cases q:H l with
 | none=>rfl
 | some o =>rw [e l o q] at h;cases h
theorem aw.seq {K:G1} {H H':Hp} {a:G6} {xs:List V} (e:aw H H') (h:aM K H a xs):aM K H' a xs:=by
 rcases h with (h | ⟨o,h⟩) | h
 ·exact .inl (.inl (e _ _ h))
 ·exact .inl (.inr ⟨o,e _ _ h⟩)
 ·exact .inr h
end L2
set_option maxHeartbeats 1000000
namespace L2
open PySem PySem.Spec PyProof.Rows
theorem iP {Ex:G2->G5->Prop} {prog:Hq} {w:HU} {A:HX} {R:PQ->G5->Prop} {s:G5} {elt target:Ik} {gens:List PD} {scope:Kf} {pos ps:K8} {ifs:List Ik} {d:Nat} {B:Pj Unit} {it acc:G2} {env:MA} (I:Nat->G5->Prop)
  (ht:compTurn (.ListComp elt gens scope pos) d it acc env=(do
   standAt ps
   match <- pyNext it with
   | none=>pure (.done .next)
   | some v =>
    letOwnedTupleGo target it v
    assign target env v
    let mut ok:=true
    for c in ifs do
     if ok then ok <- isTrue c env (eval c env)
    if ok then B
    again (.compLoop (.ListComp elt gens scope pos) d it acc env)))
  (turn:∀ n s,I n s->wpAny (model prog w) A (pyNext it) (λr s₁=>match r with
   | none=>R (.ok .next) s₁
   | some v=>wpAny (model prog w) A (letOwnedTupleGo target it v) (λ_ s₁'=>wpAny (model prog w) A (assign target env v) (λ_ s₂ =>
     wpAny (model prog w) A (forIn ifs true λc r=>if r=true then do let ok <- isTrue c env (eval c env);pure (JI ok) else pure (JI r)) (λok s₃ =>
      if ok=true then wpAny (model prog w) A B (λ_ s₅=>∃ m,m<n/\I m s₅) Ex s₃
      else ∃ m,m<n/\I m s₃) Ex s₂) Ex s₁') Ex s₁) Ex s)
  (n:Nat) (h:I n s) (hE:∀ e s',Ex e s'->notedBy (model prog w) A env (λe s''=>R (.error e) s'') e s') :
  codeAny (model prog w) A (.compLoop (.ListComp elt gens scope pos) d it acc env) R s:=by
 refine codeAny_loop rfl I (λn s hI=>?_) n h;show wpAny _ A ((compTurn (.ListComp elt gens scope pos) d it acc env).onRaise (λx=>do noteFrame x env;theTreesLotGoes x)) _ _ s;refine wpAny_noted ?_;rw [ht];refine G3 (JX (G3 (IK (turn n s hI) (λr s₁ h₁=>?_) λ_ _ h'=>hE _ _ h')));cases r with
 | none=>exact G8 h₁
 | some v =>
  refine G3 (IK h₁ (λ_ s₁' h₁'=>?_) λ_ _ h'=>hE _ _ h');refine G3 (IK h₁' (λ_ s₂ h₂=>G3 (IK h₂ (λok s₃ h₃=>?_) λ_ _ h'=>hE _ _ h')) λ_ _ h'=>hE _ _ h');cases ok with
  | false=>exact G8 ⟨rfl,h₃⟩
  | true=>exact G3 (IK h₃ (λ_ s₅ h₅=>G8 ⟨rfl,h₅⟩) λ_ _ h'=>hE _ _ h')
noncomputable def qF (elt:Ik) (acc:G2) (env:MA):Pj Unit:=do let _ <- call (.builtin "list.append") [acc,<- eval elt env]
theorem zY (elt target iter:Ik) (ifs:List Ik) (scope:Kf) (pos:K8) (it acc:G2) (env:MA) :
  compTurn (.ListComp elt [⟨target,iter,ifs,0⟩] scope pos) 0 it acc env=(do
   standAt iter.pos
   match <- pyNext it with
   | none=>pure (.done .next)
   | some v =>
    letOwnedTupleGo target it v
    assign target env v
    let mut ok:=true
    for c in ifs do
     if ok then ok <- isTrue c env (eval c env)
    if ok then qF elt acc env
    again (.compLoop (.ListComp elt [⟨target,iter,ifs,0⟩] scope pos) 0 it acc env)):=by rfl
theorem BH (elt t1 i1 t2 i2:Ik) (f1 f2:List Ik) (scope:Kf) (pos:K8) (it acc:G2) (env:MA) :
  compTurn (.ListComp elt [⟨t1,i1,f1,0⟩,⟨t2,i2,f2,0⟩] scope pos) 1 it acc env=(do
   standAt i2.pos
   match <- pyNext it with
   | none=>pure (.done .next)
   | some v =>
    letOwnedTupleGo t2 it v
    assign t2 env v
    let mut ok:=true
    for c in f2 do
     if ok then ok <- isTrue c env (eval c env)
    if ok then qF elt acc env
    again (.compLoop (.ListComp elt [⟨t1,i1,f1,0⟩,⟨t2,i2,f2,0⟩] scope pos) 1 it acc env)):=by rfl
theorem zZ (elt t1 i1 t2 i2:Ik) (f1 f2:List Ik) (scope:Kf) (pos:K8) (it acc:G2) (env:MA) :
  compTurn (.ListComp elt [⟨t1,i1,f1,0⟩,⟨t2,i2,f2,0⟩] scope pos) 0 it acc env=(do
   standAt i1.pos
   match <- pyNext it with
   | none=>pure (.done .next)
   | some v =>
    letOwnedTupleGo t1 it v
    assign t1 env v
    let mut ok:=true
    for c in f1 do
     if ok then ok <- isTrue c env (eval c env)
    if ok then
     let x <- eval i2 env
     standAt i2.pos
     let x <- foldedSetIterable i2 env x
     let _ <- runOwn (.compStart (.ListComp elt [⟨t1,i1,f1,0⟩,⟨t2,i2,f2,0⟩] scope pos) 1 (<- holding [x] (pyIter x)) acc env) env
    again (.compLoop (.ListComp elt [⟨t1,i1,f1,0⟩,⟨t2,i2,f2,0⟩] scope pos) 0 it acc env)):=by rfl
theorem oX {Ex:G2->G5->Prop} {prog:Hq} {w:HU} {A:HX} {R:PQ->G5->Prop} {s:G5} {elt t1 i1 t2 i2:Ik} {f1 f2:List Ik} {scope:Kf} {pos:K8} {it acc:G2} {env:MA} (I:Nat->G5->Prop) (hs:∀ x,foldedSetIterable i2 env x=pure x)
  (turn:∀ n s,I n s->wpAny (model prog w) A (pyNext it) (λr s₁=>match r with
   | none=>R (.ok .next) s₁
   | some v=>wpAny (model prog w) A (letOwnedTupleGo t1 it v) (λ_ s₁'=>wpAny (model prog w) A (assign t1 env v) (λ_ s₂ =>
     wpAny (model prog w) A (forIn f1 true λc r=>if r=true then do let ok <- isTrue c env (eval c env);pure (JI ok) else pure (JI r)) (λok s₃ =>
      if ok=true then wpAny (model prog w) A (eval i2 env) (λx s₄=>wpAny (model prog w) A (pyIter x) (λit2 s₅ =>
       codeAny (model prog w) A (.compStart (.ListComp elt [⟨t1,i1,f1,0⟩,⟨t2,i2,f2,0⟩] scope pos) 1 it2 acc env) (λr s₆=>match r with | .ok _=>∃ m,m<n/\I m s₆ | .error _=>False) s₅) Ex s₄) Ex s₃
      else ∃ m,m<n/\I m s₃) Ex s₂) Ex s₁') Ex s₁) Ex s)
  (n:Nat) (h:I n s) (hE:∀ e s',Ex e s'->notedBy (model prog w) A env (λe s''=>R (.error e) s'') e s'):codeAny (model prog w) A (.compLoop (.ListComp elt [⟨t1,i1,f1,0⟩,⟨t2,i2,f2,0⟩] scope pos) 0 it acc env) R s:=by
 refine codeAny_loop rfl I (λn s hI=>?_) n h;show wpAny _ A ((compTurn (.ListComp elt [⟨t1,i1,f1,0⟩,⟨t2,i2,f2,0⟩] scope pos) 0 it acc env).onRaise (λx=>do noteFrame x env;theTreesLotGoes x)) _ _ s;refine wpAny_noted ?_;rw [zZ];refine G3 (JX (G3 (IK (turn n s hI) (λr s₁ h₁=>?_) λ_ _ h'=>hE _ _ h')));cases r with
 | none=>exact G8 h₁
 | some v =>
  refine G3 (IK h₁ (λ_ s₁' h₁'=>?_) λ_ _ h'=>hE _ _ h');refine G3 (IK h₁' (λ_ s₂ h₂=>G3 (IK h₂ (λok s₃ h₃=>?_) λ_ _ h'=>hE _ _ h')) λ_ _ h'=>hE _ _ h');cases ok with
  | false=>exact G8 ⟨rfl,h₃⟩
  | true =>
   refine G3 (IK h₃ (λx s₄ h₄=>?_) λ_ _ h'=>hE _ _ h');refine G3 (JX (G3 (wpAny_of_eq (hs x) (G3 (JZ (IK h₄ (λit2 s₅ h₅=>?_) λ_ _ h'=>hE _ _ h'))))));refine G3 (wpAny_runOwn (K1 h₅ λr s₆ h₆=>?_));cases r with
   | ok f=>exact G8 ⟨rfl,h₆⟩
   | error e=>exact h₆.elim
theorem zN {prog:Hq} {w:HU} {A:HX} {R:PQ->G5->Prop} {s:G5} {elt t1 i1 t2 i2:Ik} {f1 f2:List Ik} {scope:Kf} {pos:K8} {it acc:G2} {env:MA}
  (h0:codeAny (model prog w) A (.compLoop (.ListComp elt [⟨t1,i1,f1,0⟩,⟨t2,i2,f2,0⟩] scope pos) 1 it acc env) R s)
  (h:wpAny (model prog w) A (pyIter it) (λit' s'=>codeAny (model prog w) A (.compLoop (.ListComp elt [⟨t1,i1,f1,0⟩,⟨t2,i2,f2,0⟩] scope pos) 1 it' acc env) R s')
   (notedBy (model prog w) A env λx s'=>R (.error x) s') s) :
  codeAny (model prog w) A (.compStart (.ListComp elt [⟨t1,i1,f1,0⟩,⟨t2,i2,f2,0⟩] scope pos) 1 it acc env) R s:=by
 refine Q2 ?_;show wpAny _ _ ((compStart (.ListComp elt [⟨t1,i1,f1,0⟩,⟨t2,i2,f2,0⟩] scope pos) 1 it acc env).onRaise (λx=>do noteFrame x env;standAt theWindowsPlace)) _ _ s;refine wpAny_notedAt ?_;unfold compStart;show wpAny _ _ (ask >>= _) _ _ s;refine G3 (wpAny_askSetting (wpAny_ite ?_));split
 ·first
   | exact G3 (G8 (G8 (And.intro rfl h0)))
   | exact G8 (And.intro rfl h0)
 ·first
   | exact G3 (Ll (G3 (JX (G3 (IK h (λit' s' h'=>G8 (And.intro rfl h')) λ_ _ x=>x)))))
   | (refine G3 (Ll ?_);show wpAny _ _ (standAt i2.pos >>= _) _ _ s;exact G3 (JX (G3 (IK h (λit' s' h'=>G8 (And.intro rfl h')) λ_ _ x=>x))))
noncomputable def cn (X:Cx) (Ex:G2->G5->Prop) (N':List HA) (scope:Kf) (cl:List (HA × G6)) (C:G6) (s₂:G5) (H₂:Hp) (fp:List G6):Cx :=
 { X with N:=N',s₀:=s₂,H₀:=H₂,env:=compEnvC scope (cellsFrom (C+1) scope.names cl) C X.env,outer:=X.stack,stack:=X.stack,ex:=fp,fn:=λx=>scope.names.lookup x==GZ .cell,pn:=[],xe:=Ex }
noncomputable abbrev cR (X:Cx):=cn X λ_ _=>False
def AllIn (env:MA):List (HA × G6)->Prop
 | []=>True
 | p::r=>env.cells.lookup p.1=GZ p.2/\AllIn env r
theorem AllIn.get {env:MA}:∀{l:List (HA × G6)},AllIn env l->∀ y c,l.lookup y=GZ c->env.cells.lookup y=GZ c
 | [],_,_,_,h=>by simp at h
 | (z,d)::r,a,y,c,h=>by
  rw [JL] at h;cases e:y==z with
  | true =>
   rw [e] at h;have q:y=z:=by simpa using e
   subst q;cases h;exact a.1
  | false =>rw [e] at h;exact AllIn.get a.2 y c h
noncomputable def bV (js:List (Option Nat)) (σ:St):St:=js.map λo=>match o with | none=>none | some j=>(σ[j]?).join
structure fU (X:Cx) (N':List HA) (js:List (Option Nat)) (scope:Kf) (cl:List (HA × G6)):Prop where
 clos:closureFor scope X.env=pure cl
 kind:scope.kind=.function
 nocell:∀ y∈scope.names,y.2=.cell->scope.names.lookup y.1=GZ .cell/\∀ p∈js.zip N',p.1.isSome=true->p.2≠y.1
 names:∀ y∈scope.names,y.2=.local->scope.names.lookup y.1=GZ .local
 sub:AllIn X.env cl
 has:∀ y∈scope.names,y.2=.free->(cl.lookup y.1).isSome=true
 jlen:js.length=N'.length
 jok:∀(i j:Nat) x,js[i]?=GZ (GZ j)->N'[i]?=GZ x->X.N[j]?=GZ x/\(cl.lookup x).isSome=true/\CV X.env.scope x/\X.env.kindOf x≠GZ .local/\((relabel scope X.env).names.lookup x=GZ .cell∨(relabel scope X.env).names.lookup x=GZ .free)
theorem j9 {scope:Kf} {env:MA} {x:HA} {k:LH} (h:(relabel scope env).names.lookup x=GZ k) (hk:k=.cell∨k=.free):∃ y∈scope.names,y.1=x/\(y.2=.free∨y.2=.cell):=by
 have hm:=KC h;obtain⟨⟨n,q⟩,hm',e⟩:=HE.mp hm;dsimp only at e;split at e
 ·rename_i hc;have e1:n=x:=congrArg Prod.fst e;refine⟨(n,q),hm',e1,.inl ?_⟩;have:(q==NameKind.free)=true:=by simp only [N7] at hc;exact hc.1.1
  simpa using this
 ·have e1:n=x:=congrArg Prod.fst e;have e2:q=k:=congrArg Prod.snd e;refine⟨(n,q),hm',e1,?_⟩;rcases hk with hk | hk
  ·exact .inr (e2.trans hk)
  ·exact .inl (e2.trans hk)
theorem iO {x:HA} {c:G6}:∀(ns:List (HA × LH)) (n:Nat) (acc:List (HA × G6)),(cellsFrom n ns acc).lookup x=GZ c->acc.lookup x=GZ c∨n<=c
 | [],_,_,h=>.inl h
 | (y,k)::r,n,acc,h=>by
  unfold cellsFrom at h;split at h
  ·rcases iO r _ _ h with z | z
   ·rw [JL] at z;split at z
    ·cases z;exact .inr (Hd _)
    ·exact .inl z
   ·exact .inr (Lz z)
  ·exact iO r _ _ h
theorem sZ {x:HA} {c:G6}:∀(ns:List (HA × LH)) (n:Nat) (acc:List (HA × G6)),ns.lookup x=GZ .cell->(cellsFrom n ns acc).lookup x=GZ c->n<=c
 | [],_,_,h,_=>by cases h
 | (y,k)::r,n,acc,h,e=>by
  rw [JL] at h;unfold cellsFrom at e;split at h
  ·rename_i hy;cases h;rcases iO r _ _ e with z | z
   ·rw [JL,hy] at z;cases z;exact Hd _
   ·exact Lz z
  ·split at e
   ·exact Lz (sZ r _ _ h e)
   ·exact sZ r _ _ h e
theorem oW {x:HA}:∀(ns:List (HA × LH)) (n:Nat) (acc:List (HA × G6)),(∀ y∈ns,y.2=.cell->x≠y.1)->(cellsFrom n ns acc).lookup x=acc.lookup x
 | [],_,_,_=>rfl
 | (y,k)::r,n,acc,h=>by
  unfold cellsFrom;split
  ·rename_i hk;rw [oW r _ _ λz hz=>h z (Ha _ hz),JL];have:(x==y)=false:=by simpa using h (y,k) Hi (by simpa using hk)
   rw [this]
  ·exact oW r _ _ λz hz=>h z (Ha _ hz)
theorem sW:∀(ns:List (HA × LH)) (n:Nat) (acc:List (HA × G6)),(∀ x c,acc.lookup x=GZ c->c<n)->(∀ x y c,acc.lookup x=GZ c->acc.lookup y=GZ c->x=y) ->
  ∀ x y c,(cellsFrom n ns acc).lookup x=GZ c->(cellsFrom n ns acc).lookup y=GZ c->x=y
 | [],_,_,_,h=>h
 | (z,k)::r,n,acc,hl,hi=>by
  unfold cellsFrom;split
  ·refine sW r _ _ (λx c e=>?_) λx y c e1 e2=>?_
   ·rw [JL] at e;split at e
    ·cases e;exact LJ _
    ·exact LA (hl x c e)
   ·rw [JL] at e1 e2;split at e1<;>split at e2
    ·rename_i a _ b;rw [eq_of_beq a,eq_of_beq b]
    ·cases e1;exact absurd (hl y _ e2) (Jt _)
    ·cases e2;exact absurd (hl x _ e1) (Jt _)
    ·exact hi x y c e1 e2
  ·exact sW r _ _ hl hi
theorem oV:∀(ns:List (HA × LH)) (h:Ip) (acc:List (HA × G6)),(∀ x c,acc.lookup x=GZ c->∃ v,h.IsCell c v)->∀ x c,(cellsFrom h.objs.size ns acc).lookup x=GZ c->∃ v,(pushCells h ns).IsCell c v
 | [],_,_,h=>h
 | (z,k)::r,h,acc,hl=>by
  unfold cellsFrom pushCells;split
  ·have:=oV r (h.push { cls:=.type "cell",data:=.cell none }) ((z,h.objs.size)::acc) λx c e=>by
    rw [JL] at e;split at e
    ·cases e;exact⟨none,_,Hs _ rfl,rfl⟩
    ·obtain⟨v,q⟩:=hl x c e;exact⟨v,q.keeps λb o e=>G7 _ e⟩
   rwa [IM] at this
  ·exact oV r h acc hl
theorem mW {M:P6} {A:HX} {E:G2->G5->Prop} {s:G5} {scope:Kf} {g:G6} {cl:List (HA × G6)} {qual:HA} {env:MA} {Q:MA->G5->Prop}
  (h:Q (newEnv scope s.heap.objs.size g (cellsFrom (s.heap.objs.size+1) scope.names cl) qual none .none (GZ env) builtinsNs) { s with heap:=pushCells (s.heap.push { cls:=.type "dict",data:=.dict #[] }) scope.names }) :
  wpAny M A (newFunctionEnv scope g cl [] qual none .none (GZ env)) Q E s:=by
 simp only [newFunctionEnv,PV,if_true];refine G3 (wpAny_alloc ?_);refine G3 (wpAny_layCells _ (λname kind cells=>by cases hkc:kind==NameKind.cell<;>simp [hkc]) _ _ _ _ ?_);rw [show ({ s with heap:=s.heap.push { cls:=.type "dict",data:=.dict #[] } }:G5).heap.objs.size=s.heap.objs.size+1 from IM ..];exact G3 (G8 (G8 h))
noncomputable def lobj (ys:List G2):Kl:={ cls:=.type "list",data:=.seq ys.toArray ys.length }
def mL (X:Cx) (ifs:List Ik) (t:TT):Prop :=
 ∀(pins:List (G6 × Kl)) (s:G5) (σ:St) (H:Hp) (Q:Bool->Hp->Prop),Inv X pins σ H s->t σ H Q ->
  wpAny (model X.prog X.w) X.A (forIn ifs true λc r=>if r=true then do let ok <- isTrue c X.env (eval c X.env);pure (JI ok) else pure (JI r)) (TP X pins σ Q) X.xe s
def Ct:TT:=λ_ H Q=>Q true H
theorem aZ {X:Cx}:mL X [] Ct:=λpins s σ H Q I h=>wpAny_tests_nil ⟨H,I,h⟩
theorem fc {X:Cx} {c:Ik} {t:TT} (h:PT X c t):mL X [c] t:=λpins s σ H Q I q=>wpAny_tests_one (h pins s σ H Q I q)
def bB:List (Option V)->List (Option V)->Prop
 | [],[]=>True
 | none::r,_::r'=>bB r r'
 | some v::r,GZ u::r'=>u=v/\bB r r'
 | _,_=>False
theorem bB.len:∀{a b:List (Option V)},bB a b->a.length=b.length
 | [],[],_=>rfl
 | none::r,_::r',h=>by simp [bB.len (a:=r) (b:=r') h]
 | some v::r,GZ u::r',h=>by simp [bB.len (a:=r) (b:=r') h.2]
 | some v::r,none::r',h=>h.elim
 | some v::r,[],h=>h.elim
 | none::r,[],h=>h.elim
 | [],_::_,h=>h.elim
theorem bB.get:∀{a b:List (Option V)},bB a b->∀(i:Nat) v,a[i]?=GZ (GZ v)->b[i]?=GZ (GZ v)
 | [],[],_,i,v,h=>by simp at h
 | none::r,_::r',h,0,v,e=>by simp at e
 | none::r,_::r',h,i+1,v,e=>by have:=bB.get (a:=r) (b:=r') h i v (by simpa using e);simpa using this
 | some v::r,GZ u::r',h,0,v',e=>by
  have q:v=v':=by simpa using e
  have:=h.1;simp [this,q]
 | some v::r,GZ u::r',h,i+1,v',e=>by have:=bB.get (a:=r) (b:=r') h.2 i v' (by simpa using e);simpa using this
 | some v::r,none::r',h,_,_,_=>h.elim
 | some v::r,[],h,_,_,_=>h.elim
 | none::r,[],h,_,_,_=>h.elim
 | [],_::_,h,_,_,_=>h.elim
def Fz (js:List (Option Nat)) (wi:TI) (g:TG) (tt:TT) (te:TE):TE:=λσ H Q=>wi σ H λJ H1=>∃ W:Nat->Nat->List V->Hp->Prop,(∃ m,W 0 m [] H1)/\∀ i m ys H,W i m ys H ->
 (J.stop i H/\ys.length<=sizeLine/\∀ p,H p=none->Q (.ref p) (upd H p (.lst ys))) ∨
 (J.go i H/\ys.length<sizeLine/\∃ N:List V->Hp->Prop,(∀ ys' H',N ys' H'->∃ m',m'<m/\W (i+1) m' ys' H') /\
  ∀ x H',J.yld i H x H'->g x (bV js σ) H' λσ2 H2=>bB (bV js σ) σ2/\tt σ2 H2 λb H3=>if b=true then te σ2 H3 λv H4=>N (ys++[v]) H4 else N ys H3)
structure mK (X:Cx) (C:G6) (s₂:G5) (H₂:Hp) (fp:List G6):Prop where
 inv:∃ pins σ,Inv X pins σ H₂ s₂
 new:∀ b∈fp,X.s₀.heap.objs.size<=b∨b∈X.ex
 nof:∀ b∈fS X.stack,b∉fp
 le:s₂.heap.objs.size<=C
def CQ (X:Cx) (elt target:Ik) (gens:List PD) (ifs:List Ik) (scope:Kf) (pos:K8) (Bd:(G2->G5->Prop)->G2->MA->(G5->Prop)->G5->Prop):Prop :=
 ∀(Ex:G2->G5->Prop) (R:PQ->G5->Prop) (s:G5) (it acc:G2) (env:MA) (I:Nat->G5->Prop),
  (∀ n s,I n s->wpAny (model X.prog X.w) X.A (pyNext it) (λr s₁=>match r with
   | none=>R (.ok .next) s₁
   | some v=>wpAny (model X.prog X.w) X.A (letOwnedTupleGo target it v) (λ_ s₁'=>wpAny (model X.prog X.w) X.A (assign target env v) (λ_ s₂ =>
     wpAny (model X.prog X.w) X.A (forIn ifs true λc r=>if r=true then do let ok <- isTrue c env (eval c env);pure (JI ok) else pure (JI r)) (λok s₃ =>
      if ok=true then Bd Ex acc env (λs₅=>∃ m,m<n/\I m s₅) s₃ else ∃ m,m<n/\I m s₃) Ex s₂) Ex s₁') Ex s₁) Ex s) ->
  ∀ n,I n s->(∀ e s',Ex e s'->notedBy (model X.prog X.w) X.A env (λe s''=>R (.error e) s'') e s')->codeAny (model X.prog X.w) X.A (.compLoop (.ListComp elt gens scope pos) 0 it acc env) R s
structure mX (Y:Cx) (D:G6) (P:List (G6 × Kl)):Prop where
 ne:∀ p∈P,p.1≠D
 new:Y.s₀.heap.objs.size<=D
 cell:∀ x c,Y.env.cells.lookup x=GZ c->c≠D
theorem yk {X:Cx} {Ex:G6->G5->Hp->List G6->G2->G5->Prop} {elt target iter:Ik} {rest:List PD} {ifs:List Ik} {scope:Kf} {pos:K8} {N':List HA} {js:List (Option Nat)} {cl:List (HA × G6)} {g:TG} {tt:TT} {Cc:List V->Prop} {tb:List V->St->Hp->(List V->Hp->Prop)->Prop} {Bd:(G2->G5->Prop)->G2->MA->(G5->Prop)->G5->Prop} (Qf:X.calm=true) (hloop:CQ X elt target (⟨target,iter,ifs,0⟩::rest) ifs scope pos Bd)
  (K:fU X N' js scope cl)
  (hg:∀ C s₂ H₂ fp,mK X C s₂ H₂ fp->PG (cn X (Ex C s₂ H₂ fp) N' scope cl C s₂ H₂ fp) target g) (ht:∀ C s₂ H₂ fp,mK X C s₂ H₂ fp->mL (cn X (Ex C s₂ H₂ fp) N' scope cl C s₂ H₂ fp) ifs tt) (hB:∀ C s₂ H₂ fp,mK X C s₂ H₂ fp->∀(D:G6) ys vys P σ H s N Ps,Inv (cn X (Ex C s₂ H₂ fp) N' scope cl C s₂ H₂ fp) ([(D,lobj ys)]++P) σ H s->Vals vys ys->mX (cn X (Ex C s₂ H₂ fp) N' scope cl C s₂ H₂ fp) D P->Cc vys->tb vys σ H N ->
   (∀ ys' vys' H' s',Inv (cn X (Ex C s₂ H₂ fp) N' scope cl C s₂ H₂ fp) ([(D,lobj ys')]++P) σ H' s'->Vals vys' ys'->N vys' H'->Ps s')->Bd (Ex C s₂ H₂ fp) (.ref D) (cn X (Ex C s₂ H₂ fp) N' scope cl C s₂ H₂ fp).env Ps s)
  (herr:∀ C s₂ H₂ fp use Q' acc e s',Ex C s₂ H₂ fp e s'->notedBy (model X.prog X.w) X.A (compEnvC scope (cellsFrom (C+1) scope.names cl) C X.env) (λe s''=>compPost (model X.prog X.w) X.A X.xe use Q' acc C (.error e) s'') e s')
  {pins:List (G6 × Kl)} {σ:St} {Q:VK} {use:Option (G2->Pj Unit)} {Q':G2->G5->Prop} {itv:G2} {s2:G5}
  (h2:Fv X pins σ target (λJ H1=>∃ W:Nat->Nat->List V->Hp->Prop,(∃ m,W 0 m [] H1)/\∀ i m ys H,W i m ys H ->
 (J.stop i H/\ys.length<=sizeLine/\∀ p,H p=none->Q (.ref p) (upd H p (.lst ys))) ∨
 (J.go i H/\Cc ys/\∃ N:List V->Hp->Prop,(∀ ys' H',N ys' H'->∃ m',m'<m/\W (i+1) m' ys' H') /\
  ∀ x H',J.yld i H x H'->g x (bV js σ) H' λσ2 H2=>bB (bV js σ) σ2/\tt σ2 H2 λb H3=>if b=true then tb ys σ2 H3 N else N ys H3)) itv s2)
  (hok:∀ C D vys H4 s5,(∃ m,s5.heap.Ns C m)->s2.heap.objs.size<=D->D<=C->D≠C->H4 D=none->H4 C=none->(∀ h',JK C s5.heap h'->Inv X pins σ (upd H4 D (.lst vys)) { s5 with heap:=h' })->Q (.ref D) (upd H4 D (.lst vys))->compPost (model X.prog X.w) X.A X.xe use Q' (.ref D) C (.ok .next) s5) :
  wpAny (model X.prog X.w) X.A (newList []) (λacc s₃=>wpAny (model X.prog X.w) X.A (newFunctionEnv scope X.env.globals cl [] X.env.qual none .none (GZ X.env)) (λcenv s₄ =>
   codeAny (model X.prog X.w) X.A (.compStart (.ListComp elt (⟨target,iter,ifs,0⟩::rest) scope pos) 0 itv acc { cenv with scope:=relabel scope X.env }) (compPost (model X.prog X.w) X.A X.xe use Q' acc cenv.locals) s₄) X.xe s₃) X.xe s2:=by
 obtain⟨it,fp,tn,J,H2,e,I2,T,st2,f2,W,⟨m0,w0⟩,turn⟩:=h2;subst e;refine Ju (mW ?_);dsimp only;generalize hP2:s2.heap.push { cls:=.type "list",dict:=none,data:=.seq ([]:List G2).toArray }=P2;generalize hh₁:pushCells (P2.push { cls:=.type "dict",data:=.dict #[] }) scope.names=h₁;have hns₁:h₁.Ns P2.objs.size λ_=>none:=hh₁▸(Heap.Ns.new P2 (.type "dict")).keeps (Q3 _ _);have upP:∀ b o,P2.get? b=GZ o->h₁.get? b=GZ o:=λb o e=>hh₁▸Q3 _ _ b o (G7 _ e);have hcel:∀ x c,(cellsFrom (P2.objs.size+1) scope.names cl).lookup x=GZ c->∃ v,h₁.IsCell c v:=by
  have:=oV scope.names (P2.push { cls:=.type "dict",data:=.dict #[] }) cl λx c e=>by obtain⟨v,q⟩:=I2.cell x c (K.sub.get x c e);exact⟨v,q.keeps λb o e=>G7 _ (hP2▸G7 _ e)⟩
  rw [IM,hh₁] at this;exact this
 have hC:P2.objs.size=s2.heap.objs.size+1:=by rw [<- hP2,IM]
 have hDC:s2.heap.objs.size≠P2.objs.size:=by rw [hC];exact HP (LJ _)
 have below:∀ b,b<s2.heap.objs.size->b≠P2.objs.size/\b≠s2.heap.objs.size:=λb hb=>⟨by rw [hC];exact HP (LA hb),HP hb⟩
 have old:∀ b o,s2.heap.get? b=GZ o->h₁.get? b=GZ o:=λb o e=>upP b o (hP2▸G7 _ e);have hacc:h₁.get? s2.heap.objs.size=GZ (lobj []):=upP _ _ (hP2▸Hs _ rfl);generalize hCe:P2.objs.size=C at *;generalize hDe:s2.heap.objs.size=D at *
 let Y:Cx:=cn X (Ex C s2 H2 fp) N' scope cl C s2 H2 fp
 have clLt:∀ y c,cl.lookup y=GZ c->c<D:=λy c e=>by obtain⟨v,q⟩:=I2.cell y c (K.sub.get y c e);rw [<- hDe];exact q.lt
 have cellsX:∀ y c,Y.env.cells.lookup y=GZ c->cl.lookup y=GZ c∨C+1<=c:=λy c e=>iO _ _ _ e;have cellNe:∀ y c,Y.env.cells.lookup y=GZ c->c≠D:=λy c e=>by
  rcases cellsX y c e with z | z
  ·exact HP (clLt y c z)
  ·exact K0 (by lia)
 have freshH:∀ a,D<=a->H2 a=none:=λa ha=>I2.hok.fresh (by rw [hDe];exact ha);have hDleC:D<=C:=by rw [hC];exact MT _
 have lc:mK X C s2 H2 fp:=⟨⟨pins,σ,I2⟩,λb hb=>((f2 b hb).2.2.2.1).symm,λb hf hb=>by
   rcases Hw.mp (I2.gL b hf) with z | z
   ·exact (f2 b hb).2.1 z
   ·exact (f2 b hb).2.2.1 z,by rw [hDe];exact hDleC⟩
 have hbelowfp:∀ b∈fp,b<D:=λb hb=>by obtain⟨o,e,_⟩:=T.obj _ _ st2 b hb;rw [<- hDe];exact Hn e
 have okY:Y.Ok:=by
  refine⟨I2.ok.mod,K.kind,I2.ok.glob,I2.ok.blt,?_,sW _ _ _ (λx c e=>LA (Hr (clLt x c e) hDleC)) (λx y c e1 e2=>I2.ok.inj x y c (K.sub.get x c e1) (K.sub.get y c e2)),λx hx=>?_,λx c hf hc=>?_,I2.ok.hd,I2.ok.frames,.inl rfl,λb hb=>?_,I2.bs,Hg I2.ok.bsz I2.sz,λb o e hb=>?_,λb hb hf=>?_,I2.stack,I2.fG⟩
  ·show s2.heap.objs.size<=C;rw [hDe];exact hDleC
  ·have hx':(relabel scope X.env).names.lookup x=GZ .cell∨(relabel scope X.env).names.lookup x=GZ .free:=hx;have:∃ y∈scope.names,y.1=x/\(y.2=.free∨y.2=.cell):=by
    rcases hx' with q | q
    ·exact j9 q (.inl rfl)
    ·exact j9 q (.inr rfl)
   obtain⟨y,hm,e1,e2⟩:=this;refine K9.mp (Mj _ _ _ ?_);rcases e2 with e2 | e2
   ·have q:=K.has y hm e2;rw [e1] at q;exact .inr q
   ·exact .inl (e1▸(K.nocell y hm e2).1)
  ·have hf':scope.names.lookup x=GZ .cell:=by simpa using (show (scope.names.lookup x==GZ .cell)=true from hf)
   have:=sZ _ _ _ hf' hc;show s2.heap.objs.size<=c;rw [hDe];exact Hg hDleC (Lz this)
  ·refine⟨HP (Hr (hbelowfp b hb) hDleC),λx c e=>?_⟩;rcases cellsX x c e with z | z
   ·exact (f2 b hb).2.2.2.2.1 x c (K.sub.get x c z)
   ·exact K0 (Hr (Hr (hbelowfp b hb) hDleC) (Lz z))
  ·rcases (f2 b hb).2.2.2.1 with z | z
   ·exact I2.ok.noex b o e z
   ·exact absurd (Hr (Hn e) (Hg I2.ok.bsz z)) (Jt _)
  ·rcases Hw.mp (I2.gL b hf) with z | z
   ·exact (f2 b hb).2.1 z
   ·exact (f2 b hb).2.2.1 z
 -- the block's names
 have locY:∀{s':G5} {H':Hp} {σ':St},True:=λ{_ _ _}=>trivial;have invY0:Inv Y [(D,lobj [])] (bV js σ) H2 { s2 with heap:=h₁ }:=by
  refine⟨okY,rfl,I2.bare,Un.kept old,⟨_,hns₁,λi x v e1 e2 vis=>?_⟩,hcel,freshH C hDleC,λy c e=>?_,λp hp=>?_,I2.hok.kept old,?_⟩
  ·-- a name of the block that has a value stands outside in a cell
   have e2':(bV js σ)[i]?=GZ (GZ v):=e2;unfold bV at e2';rw [He] at e2';cases ej:js[i]? with
   | none=>rw [ej] at e2';cases e2'
   | some o =>
    rw [ej] at e2';cases o with
    | none=>cases e2'
    | some j =>
     obtain⟨n1,n2,n3,n4,n5⟩:=K.jok i j x ej e1;have e3:(σ[j]?).join=GZ v:=by simpa using e2'
     have e4:σ[j]?=GZ (GZ v):=by
      cases q:σ[j]? with
      | none=>rw [q] at e3;cases e3
      | some z=>rw [q] at e3;simpa using e3
     obtain⟨m,hn,hl⟩:=I2.loc;obtain⟨u,r,l⟩:=hl j x v n1 e4 n3;refine⟨u,r,.inr ⟨n5,?_⟩⟩;rcases l with⟨k,_⟩|⟨k,c,ec,z⟩
     ·exact absurd k n4
     ·obtain⟨c',ec'⟩:=K9.mp n2;have ee:=K.sub.get x c' ec';rw [ec] at ee;cases ee;refine⟨c,(oW _ _ _ λy hy hk=>(K.nocell y hy hk).2 (GZ j,x) ?_ rfl).trans ec',?_⟩
      ·exact Hc (i:=i) (by rw [Ki];exact⟨ej,e1⟩)
      obtain⟨o,ho,hd⟩:=z;exact⟨o,old c o ho,hd⟩
  ·rcases cellsX y c e with z | z
   ·exact I2.freeC y c (K.sub.get y c z)
   ·exact freshH c (by lia)
  ·have hp':p∈[(D,lobj [])]:=hp;have e:p=(D,lobj []):=by simpa using hp'
   subst e;refine⟨hacc,freshH D (Hd _),hDC,λz=>?_,λv z=>by cases z⟩;rcases Hw.mp (I2.gL D z) with q | q
   ·exact absurd (q▸I2.lt) (by rw [hDe];exact Jt _)
   ·exact I2.yy (by rw [hDe];exact Hd _) q
  ·show (bV js σ).length=N'.length;unfold bV;rw [G4];exact K.jlen
 have hDfs:D∉Y.fs:=λz=>by
  rcases Hw.mp (I2.gL D z) with q | q
  ·exact absurd (q▸I2.lt) (by rw [hDe];exact Jt _)
  ·exact I2.yy (by rw [hDe];exact Hd _) q
 have stat:∀{H':Hp} {ys:List G2},(∀ b∈fp,H' b=none)->∀ b∈fp,mJ Y [(D,lobj ys)] H' b:=λ{H' ys} hn b hb=>by
  refine⟨hn b hb,HP (Hr (hbelowfp b hb) hDleC),okY.exfs b hb,.inl hb,okY.exf b hb |>.2,λp hp=>?_⟩;have hp':p∈[(D,lobj ys)]:=hp;have e:p=(D,lobj ys):=by simpa using hp'
  subst e;exact K0 (hbelowfp b hb)
 have loop:∀ s3:G5,s3={ s2 with heap:=h₁ } ->
   codeAny (model X.prog X.w) X.A (.compLoop (.ListComp elt (⟨target,iter,ifs,0⟩::rest) scope pos) 0 (.ref it) (.ref D) (compEnvC scope (cellsFrom (C+1) scope.names cl) C X.env)) (compPost (model X.prog X.w) X.A X.xe use Q' (.ref D) C) s3:=by
  rintro s3 rfl;refine hloop _ _ _ _ _ _ (λn s'=>∃ i ys vys H',Inv Y [(D,lobj ys)] (bV js σ) H' s'/\tn i s'.heap/\(∀ b∈fp,H' b=none)/\Vals vys ys/\W i n vys H') ?_ m0
   ⟨0,[],[],H2,invY0,T.keep _ _ _ st2 λb _ o e=>old b o e,λb hb=>(f2 b hb).1,.nil,w0⟩ λe s' z=>herr C s2 H2 fp use Q' (.ref D) e s' z
  rintro n s4 ⟨i,ys,vys,H4,I4,st4,fr4,rv,w4⟩;rcases turn i n vys H4 w4 with⟨stop,hz,qn⟩|⟨go,hz,Nn,hN,step⟩
  ·refine a9 (T.done Y rfl rfl rfl Qf i _ s4 _ H4 (Ex C s2 H2 fp) I4 (stat fr4) st4 stop) λr s5 ⟨hr,I5⟩=>?_;subst hr;obtain⟨m5,hn5,_⟩:=I5.loc;obtain⟨pD,nD,_,_,_⟩:=I5.pin (D,lobj ys) (by show _∈[(D,lobj ys)];simp);have nC:H4 C=none:=I5.free;refine hok C D vys H4 s5 ⟨m5,hn5⟩ (Hd _) hDleC hDC nD nC (λh' hsb=>?_) (qn D nD);have pD':h'.get? D=GZ (lobj ys):=hsb.extBut _ _ hDC pD;refine I2.BR (s':={ s5 with heap:=h' }) (ch:=fp) I5.os ?_ ?_ I5.bare (λb hb=>?_)
   ·-- kept
    have u:=I5.base;have neC:∀ b o,s2.heap.get? b=GZ o->b≠C/\b≠D:=λb o e=>by have:=Hn e;rw [hDe] at this;exact⟨HP (Hr this hDleC),HP this⟩
    refine⟨λb o e nn hb hx=>hsb.extBut b o (neC b o e).1 (u.keep b o e nn hb hx),λb o e nn hb hx=>?_,λb o e nn hx=>?_,λb o e hx=>?_,λb xs e=>?_,λb o xs e=>?_,λb ps e=>?_⟩
    ·obtain⟨sl,q⟩:=u.slot b o e nn hb hx;exact⟨sl,hsb.extBut b _ (neC b o e).1 q⟩
    ·rw [ao (neC b o e).2];exact u.free b o e nn hx
    ·obtain⟨o',q⟩:=u.there b o e hx;exact⟨o',hsb.extBut b _ (neC b o e).1 q⟩
    ·rw [ao (bz (u.tups b xs e) nD)];exact u.tups b xs e
    ·rw [ao (bz (u.frzs b o xs e) nD)];exact u.frzs b o xs e
    ·obtain⟨more,q⟩:=u.tbls b ps e;exact⟨more,by rw [ao (bz q nD)];exact q⟩
   ·intro b o e;by_cases hb:b=D
    ·subst hb;rw [ag] at e;cases e;exact⟨hz,ys,_,rv,pD'⟩
    ·rw [ao hb] at e;refine (I5.hok b o e).gK (λc w' hc q=>hsb.extBut c w' ?_ q) (λc q=>by rw [ao (bz q nD)];exact q) λc xs q=>by rw [ao (bz q nD)];exact q
     rintro rfl;rcases hc with rfl | hc
     ·rw [nC] at e;cases e
     ·rw [nC] at hc;cases hc
   ·exact⟨(f2 b hb).2.2.2.1,(f2 b hb).2.1,(f2 b hb).2.2.2.2.1,(f2 b hb).2.2.2.2.2⟩
  ·refine a9 (T.item Y rfl rfl rfl Qf i _ s4 _ H4 (Ex C s2 H2 fp) I4 (stat fr4) st4 go) λr s5 ⟨u,hr,h5⟩=>?_;subst hr;refine a9 h5 λ_ s6 hZ=>?_;obtain⟨x,H6,I6,r6,y6,st6,fr6⟩:=hZ;have I6':=I6.pinned (stat fr6) (T.obj _ _ st6);refine a9 (hg C s2 H2 fp lc _ s6 _ H6 x u _ I6' r6 (step x H6 y6)) λ_ s7 ⟨σ7,H7,I7,k7,q7⟩=>?_;refine a9 (ht C s2 H2 fp lc _ s7 σ7 H7 _ I7 q7) λb s8 ⟨H8,I8,q8⟩=>?_
   -- behind the tests and the element: the state goes back to what the next turn wants
   have again:∀{ys':List G2} {s9:G5} {H9:Hp},Inv Y ([(D,lobj ys')]++gi fp s6.heap) σ7 H9 s9->Inv Y [(D,lobj ys')] (bV js σ) H9 s9/\tn (i+1) s9.heap/\∀ b∈fp,H9 b=none:=λ{ys' s9 H9} I9=>by refine⟨(I9.gM).weak k7.len k7.get,T.keep _ _ _ st6 λb hb o e=>(I9.pin (b,o) (Hm _ (Hm _ (c8 hb e)))).1,λb hb=>?_⟩;obtain⟨o,e,d⟩:=T.obj _ _ st6 b hb;exact (I9.pin (b,o) (Hm _ (Hm _ (c8 hb e)))).2.1
   cases b with
   | false =>rw [if_neg HM] at q8 ⊢;obtain⟨m',hm,w8⟩:=hN _ _ q8;obtain⟨J8,t8,f8⟩:=again I8;exact⟨m',hm,i+1,ys,vys,H8,J8,t8,f8,rv,w8⟩
   | true =>
    rw [if_pos rfl] at q8 ⊢;have aok:mX Y D (gi fp s6.heap):=⟨λp hp z=>absurd (hbelowfp p.1 (jT hp).1) (by rw [z];exact Jt _),by show s2.heap.objs.size<=D;rw [hDe];exact Hd _,λx c e=>cellNe x c e⟩
    refine hB C s2 H2 fp lc D ys vys _ σ7 H8 s8 Nn _ I8 rv aok hz q8 λys' vys' H9 s9 I9 rv' q9=>?_;obtain⟨J9,t9,f9⟩:=again I9;obtain⟨m',hm,w9⟩:=hN _ _ q9;exact⟨m',hm,i+1,ys',vys',H9,J9,t9,f9,rv',w9⟩
 exact codeAny_compStart_list (loop _ rfl) (T.self _ 0 _ _ _ (T.keep _ _ _ st2 λb _ o e=>old b o e) (loop _ rfl))
theorem Ao {Y:Cx} {D:G6} {ys:List G2} {P:List (G6 × Kl)} {σ:St} {H:Hp} {s:G5} {y:G2} {Q:G2->G5->Prop} {E:G2->G5->Prop} (hpn:Y.pn=[]) (I:Inv Y ([(D,lobj ys)]++P) σ H s) (ok:mX Y D P) (z:ys.length<sizeLine)
  (q:∀ s',Inv Y ([(D,lobj (ys++[y]))]++P) σ H s'->Q .none s'):wpAny (model Y.prog Y.w) Y.A (call (.builtin "list.append") [.ref D,y]) Q E s:=by
 obtain⟨pD,nD,neD,nfD,_⟩:=I.pin (D,lobj ys) (by rw [hpn];simp);refine append_at (hsz:=by show ys.toArray.size<=sizeLine;rw [Ic];exact Nh z) (show s.heap.get? D=GZ { cls:=.type "list",data:=.seq ys.toArray ys.length } from pD) λh' hsb hD'=>q _ ?_;have eD:h'.get? D=GZ (lobj (ys++[y])):=by rw [hD'];unfold lobj;rw [HN,JC,List.push_toArray]
 have J1:Inv Y P σ H s:=I.eG λp hp=>I.pin p (Hm _ (Hm _ hp));have J2:Inv Y P σ H { s with heap:=h' }:=J1.turned (t':=s.toks) (it:=D) (λb o hb e=>hsb.extBut b o hb e) nD neD (.inr ok.new) ok.cell λp hp=>ok.ne p (by rw [hpn] at hp;simpa using hp);refine J2.eG λp hp=>?_;rcases IC.mp hp with hp | hp
 ·have e:p=(D,lobj (ys++[y])):=by simpa using hp
  subst e;exact⟨eD,nD,neD,nfD,λv z=>by cases z⟩
 ·exact J2.pin p (Hm _ hp)
theorem qG {Y:Cx} {D:G6} {ys:List G2} {vys:List V} {P:List (G6 × Kl)} {σ:St} {H:Hp} {s:G5} {elt:Ik} {te:TE} {N:List V->Hp->Prop} {Ps:G5->Prop} (hpn:Y.pn=[]) (he:PE Y elt te) (I:Inv Y ([(D,lobj ys)]++P) σ H s) (rv:Vals vys ys) (ok:mX Y D P) (z:vys.length<sizeLine) (q:te σ H λv H4=>N (vys++[v]) H4)
  (k:∀ ys' vys' H' s',Inv Y ([(D,lobj ys')]++P) σ H' s'->Vals vys' ys'->N vys' H'->Ps s'):wpAny (model Y.prog Y.w) Y.A (qF elt (.ref D) Y.env) (λ_ s'=>Ps s') Y.xe s:=by
 unfold qF;refine G3 (a9 (he _ s σ H _ I q) λy s9 hZ=>?_);obtain⟨vy,H9,I9,r9,q9⟩:=hZ;exact G3 (Ao hpn I9 ok (by rw [<- rv.length];exact z) λs' I'=>G8 (k _ _ _ _ I' (rv.append (.cons r9 .nil)) q9))
theorem uM {X:Cx} {Ex:G6->G5->Hp->List G6->G2->G5->Prop} {elt target iter:Ik} {ifs:List Ik} {scope:Kf} {pos:K8} {N':List HA} {js:List (Option Nat)} {cl:List (HA × G6)} {g:TG} {tt:TT} {te:TE} (Qf:X.calm=true)
  (K:fU X N' js scope cl)
  (hg:∀ C s₂ H₂ fp,mK X C s₂ H₂ fp->PG (cn X (Ex C s₂ H₂ fp) N' scope cl C s₂ H₂ fp) target g) (ht:∀ C s₂ H₂ fp,mK X C s₂ H₂ fp->mL (cn X (Ex C s₂ H₂ fp) N' scope cl C s₂ H₂ fp) ifs tt) (he:∀ C s₂ H₂ fp,mK X C s₂ H₂ fp->PE (cn X (Ex C s₂ H₂ fp) N' scope cl C s₂ H₂ fp) elt te)
  (herr:∀ C s₂ H₂ fp use Q' acc e s',Ex C s₂ H₂ fp e s'->notedBy (model X.prog X.w) X.A (compEnvC scope (cellsFrom (C+1) scope.names cl) C X.env) (λe s''=>compPost (model X.prog X.w) X.A X.xe use Q' acc C (.error e) s'') e s')
  {pins:List (G6 × Kl)} {σ:St} {Q:VK} {use:Option (G2->Pj Unit)} {Q':G2->G5->Prop} {itv:G2} {s2:G5}
  (h2:Fv X pins σ target (λJ H1=>∃ W:Nat->Nat->List V->Hp->Prop,(∃ m,W 0 m [] H1)/\∀ i m ys H,W i m ys H ->
 (J.stop i H/\ys.length<=sizeLine/\∀ p,H p=none->Q (.ref p) (upd H p (.lst ys))) ∨
 (J.go i H/\ys.length<sizeLine/\∃ N:List V->Hp->Prop,(∀ ys' H',N ys' H'->∃ m',m'<m/\W (i+1) m' ys' H') /\
  ∀ x H',J.yld i H x H'->g x (bV js σ) H' λσ2 H2=>bB (bV js σ) σ2/\tt σ2 H2 λb H3=>if b=true then te σ2 H3 λv H4=>N (ys++[v]) H4 else N ys H3)) itv s2)
  (hok:∀ C D vys H4 s5,(∃ m,s5.heap.Ns C m)->s2.heap.objs.size<=D->D<=C->D≠C->H4 D=none->H4 C=none->(∀ h',JK C s5.heap h'->Inv X pins σ (upd H4 D (.lst vys)) { s5 with heap:=h' })->Q (.ref D) (upd H4 D (.lst vys))->compPost (model X.prog X.w) X.A X.xe use Q' (.ref D) C (.ok .next) s5) :
  wpAny (model X.prog X.w) X.A (newList []) (λacc s₃=>wpAny (model X.prog X.w) X.A (newFunctionEnv scope X.env.globals cl [] X.env.qual none .none (GZ X.env)) (λcenv s₄ =>
   codeAny (model X.prog X.w) X.A (.compStart (.ListComp elt [⟨target,iter,ifs,0⟩] scope pos) 0 itv acc { cenv with scope:=relabel scope X.env }) (compPost (model X.prog X.w) X.A X.xe use Q' acc cenv.locals) s₄) X.xe s₃) X.xe s2 :=
 yk (Bd:=λEx acc env Ps s=>wpAny (model X.prog X.w) X.A (qF elt acc env) (λ_ s'=>Ps s') Ex s) (Cc:=λys=>ys.length<sizeLine) (tb:=λys σ2 H3 N=>te σ2 H3 λv H4=>N (ys++[v]) H4) Qf
  (λ_ _ _ it acc env I turn n h hE=>iP I (zY elt target iter ifs scope pos it acc env) turn n h hE) K hg ht
  (λC s₂ H₂ fp lc D ys vys P σ H s N Ps I rv ok z q k=>qG rfl (he C s₂ H₂ fp lc) I rv ok z q k) herr h2 hok
theorem dN {X:Cx} {elt target iter:Ik} {ifs:List Ik} {scope:Kf} {pos:K8} {N':List HA} {js:List (Option Nat)} {cl:List (HA × G6)} {wi:TI} {g:TG} {tt:TT} {te:TE} (Qf:X.calm=true)
  (K:fU X N' js scope cl) (hi:PI X target iter wi)
  (hg:∀ C s₂ H₂ fp,PG (cR X N' scope cl C s₂ H₂ fp) target g) (ht:∀ C s₂ H₂ fp,mL (cR X N' scope cl C s₂ H₂ fp) ifs tt) (he:∀ C s₂ H₂ fp,PE (cR X N' scope cl C s₂ H₂ fp) elt te)
  (hs:autoParam (∀ x,foldedSetIterable iter X.env x=pure x) Z4._auto_1):PE X (.ListComp elt [⟨target,iter,ifs,0⟩] scope pos) (Fz js wi g tt te):=by
 intro pins s σ H Q I h;rw [eval_ListComp];refine LR (use:=none) rfl hs K.clos K.kind K.names (a9 (hi pins s σ H _ I h) λv s1 h1=>a9 h1 λitv s2 h2=>?_);exact uM (Ex:=λ_ _ _ _ _ _=>False) Qf K (λC s H f _=>hg C s H f) (λC s H f _=>ht C s H f) (λC s H f _=>he C s H f) (λ_ _ _ _ _ _ _ _ _ z=>z.elim) h2 λC D vys H4 s5 ⟨m,hn⟩ _ _ _ _ _ hI q=>⟨m,hn,λh' hsb=>⟨.ref D,_,hI h' hsb,rfl,q⟩⟩
def D8 (wi:TI) (g:TG) (tt:TT) (te:TE) (ys:List V) (σ:St) (H:Hp) (N:List V->Hp->Prop):Prop:=wi σ H λJ H1=>∃ W:Nat->Nat->List V->Hp->Prop,(∃ m,W 0 m ys H1)/\∀ i m zs H,W i m zs H ->
 (J.stop i H/\N zs H) ∨
 (J.go i H/\zs.length<sizeLine/\∃ N2:List V->Hp->Prop,(∀ zs' H',N2 zs' H'->∃ m',m'<m/\W (i+1) m' zs' H') /\
  ∀ x H',J.yld i H x H'->g x σ H' λσ2 H2=>bB σ σ2/\tt σ2 H2 λb H3=>if b=true then te σ2 H3 λv H4=>N2 (zs++[v]) H4 else N2 zs H3)
def Fd (js:List (Option Nat)) (wi1:TI) (g1:TG) (tt1:TT) (wi2:TI) (g2:TG) (tt2:TT) (te:TE):TE:=λσ H Q=>wi1 σ H λJ H1=>∃ W:Nat->Nat->List V->Hp->Prop,(∃ m,W 0 m [] H1)/\∀ i m ys H,W i m ys H ->
 (J.stop i H/\ys.length<=sizeLine/\∀ p,H p=none->Q (.ref p) (upd H p (.lst ys))) ∨
 (J.go i H/\True/\∃ N:List V->Hp->Prop,(∀ ys' H',N ys' H'->∃ m',m'<m/\W (i+1) m' ys' H') /\
  ∀ x H',J.yld i H x H'->g1 x (bV js σ) H' λσ2 H2=>bB (bV js σ) σ2/\tt1 σ2 H2 λb H3=>if b=true then D8 wi2 g2 tt2 te ys σ2 H3 N else N ys H3)
theorem xt {Y:Cx} {D:G6} {ys:List G2} {vys:List V} {P:List (G6 × Kl)} {σ:St} {H:Hp} {s:G5} {elt t1 i1 t2 i2:Ik} {f1 f2:List Ik} {scope:Kf} {pos:K8} {wi:TI} {g:TG} {tt:TT} {te:TE} {N:List V->Hp->Prop} {Ps:G5->Prop} (hpn:Y.pn=[]) (Qf:Y.calm=true) (hxe:Y.xe=λ_ _=>False) (hi:PI Y t2 i2 wi) (hg:PG Y t2 g) (ht:mL Y f2 tt) (he:PE Y elt te)
  (I:Inv Y ([(D,lobj ys)]++P) σ H s) (rv:Vals vys ys) (ok:mX Y D P) (q:D8 wi g tt te vys σ H N)
  (k:∀ ys' vys' H' s',Inv Y ([(D,lobj ys')]++P) σ H' s'->Vals vys' ys'->N vys' H'->Ps s') :
  wpAny (model Y.prog Y.w) Y.A (eval i2 Y.env) (λx s₄=>wpAny (model Y.prog Y.w) Y.A (pyIter x) (λit2 s₅=>codeAny (model Y.prog Y.w) Y.A (.compStart (.ListComp elt [⟨t1,i1,f1,0⟩,⟨t2,i2,f2,0⟩] scope pos) 1 it2 (.ref D) Y.env) (λr s₆=>match r with | .ok _=>Ps s₆ | .error _=>False) s₅) Y.xe s₄) Y.xe s:=by
 refine a9 (hi _ s σ H _ I q) λv s1 h1=>a9 h1 λitv s2 h2=>?_;obtain⟨it,fp,tn,J,H2,e,I2,T,st2,f2',W,⟨m0,w0⟩,turn⟩:=h2;subst e;have nDb:∀ b∈fp,D≠b:=λb hb=>(f2' b hb).2.2.2.2.2 (D,lobj ys) (by rw [hpn];simp);have stat:∀{ys':List G2} {H':Hp},(∀ b∈fp,H' b=none)->∀ b∈fp,mJ Y ([(D,lobj ys')]++P) H' b:=λ{ys' H'} hn b hb=>by
  refine⟨hn b hb,(f2' b hb).2.1,(f2' b hb).2.2.1,(f2' b hb).2.2.2.1,(f2' b hb).2.2.2.2.1,λp hp=>?_⟩;rw [hpn] at hp;have hp':p∈[(D,lobj ys')]++P:=by simpa using hp
  rcases IC.mp hp' with z | z
  ·have e:p=(D,lobj ys'):=by simpa using z
   rw [e];exact nDb b hb
  ·exact (f2' b hb).2.2.2.2.2 p (by rw [hpn];exact Hm _ (Hm _ z))
 have loop:codeAny (model Y.prog Y.w) Y.A (.compLoop (.ListComp elt [⟨t1,i1,f1,0⟩,⟨t2,i2,f2,0⟩] scope pos) 1 (.ref it) (.ref D) Y.env) (λr s₆=>match r with | .ok _=>Ps s₆ | .error _=>False) s2:=by
  refine iP (Ex:=Y.xe) (λn s'=>∃ i zs vzs H',Inv Y ([(D,lobj zs)]++P) σ H' s'/\tn i s'.heap/\(∀ b∈fp,H' b=none)/\Vals vzs zs/\W i n vzs H') (BH elt t1 i1 t2 i2 f1 f2 scope pos (.ref it) (.ref D) Y.env) ?_ m0
   ⟨0,ys,vys,H2,I2,st2,λb hb=>(f2' b hb).1,rv,w0⟩ λe s' z=>by rw [hxe] at z;exact z.elim
  rintro n s4 ⟨i,zs,vzs,H4,I4,st4,fr4,rz,w4⟩;rcases turn i n vzs H4 w4 with⟨stop,qn⟩|⟨go,hz,Nn,hN,step⟩
  ·refine a9 (T.done Y rfl rfl rfl Qf i _ s4 _ H4 Y.xe I4 (stat fr4) st4 stop) λr s5 ⟨hr,I5⟩=>?_;subst hr;exact k zs vzs H4 s5 I5 rz qn
  ·refine a9 (T.item Y rfl rfl rfl Qf i _ s4 _ H4 Y.xe I4 (stat fr4) st4 go) λr s5 ⟨u,hr,h5⟩=>?_;subst hr;refine a9 h5 λ_ s6 hZ=>?_;obtain⟨x,H6,I6,r6,y6,st6,fr6⟩:=hZ;have I6':=I6.pinned (stat fr6) (T.obj _ _ st6);refine a9 (hg _ s6 _ H6 x u _ I6' r6 (step x H6 y6)) λ_ s7 ⟨σ7,H7,I7,k7,q7⟩=>?_;refine a9 (ht _ s7 σ7 H7 _ I7 q7) λb s8 ⟨H8,I8,q8⟩=>?_;have again:∀{zs':List G2} {s9:G5} {H9:Hp},Inv Y (([(D,lobj zs')]++P)++gi fp s6.heap) σ7 H9 s9->Inv Y ([(D,lobj zs')]++P) σ H9 s9/\tn (i+1) s9.heap/\∀ b∈fp,H9 b=none:=λ{zs' s9 H9} I9=>by refine⟨(I9.gM).weak k7.len k7.get,T.keep _ _ _ st6 λb hb o e=>(I9.pin (b,o) (Hm _ (Hm _ (c8 hb e)))).1,λb hb=>?_⟩;obtain⟨o,e,d⟩:=T.obj _ _ st6 b hb;exact (I9.pin (b,o) (Hm _ (Hm _ (c8 hb e)))).2.1
   cases b with
   | false =>rw [if_neg HM] at q8 ⊢;obtain⟨m',hm,w8⟩:=hN _ _ q8;obtain⟨J8,t8,f8⟩:=again I8;exact⟨m',hm,i+1,zs,vzs,H8,J8,t8,f8,rz,w8⟩
   | true =>
    rw [if_pos rfl] at q8 ⊢;have aok:mX Y D (P++gi fp s6.heap):=⟨λp hp z=>by
     rcases IC.mp hp with h | h
     ·exact ok.ne p h z
     ·exact nDb p.1 (jT h).1 z.symm,ok.new,ok.cell⟩
    rw [Iy] at I8;refine qG hpn he I8 rz aok hz q8 λys' vys' H9 s9 I9 rv' q9=>?_;rw [<- Iy] at I9;obtain⟨J9,t9,f9⟩:=again I9;obtain⟨m',hm,w9⟩:=hN _ _ q9;exact⟨m',hm,i+1,ys',vys',H9,J9,t9,f9,rv',w9⟩
 exact zN loop (T.self _ 0 _ _ _ st2 loop)
def Bd (i:Int):Prop:=i.natAbs<2^4000
theorem xr:(10:Nat)^250<=2^4000:=by decide +kernel
theorem Bd.of {i:Int} (h1:-(10^250)<i) (h2:i<10^250):Bd i:=by
 refine Hr ?_ xr;have:((10:Nat)^250:Nat)=((10:Int)^250).toNat:=by decide +kernel
 rw [this];lia
theorem Bd.mono {i j:Int} (h:Bd j) (h':i.natAbs<=j.natAbs):Bd i:=JG h' h
theorem Bd.bits {i:Int} (h:Bd i):Builtin.Int.intBits i<=2^20 :=
 Hg (intBits_le h) (by decide)
theorem Bd.Gq {i j:Int} (h:Bd j):Builtin.divisionGoesByPylong i j=false:=by
 refine PyProof.noPylong_of_log2 ?_;by_cases z:j.natAbs=0
 ·rw [z];decide
 ·exact Hr ((Nat.log2_lt z).mpr h) (by decide)
section
variable {X:Cx}
theorem aI:jY X (binaryOp .Mult) (rI (λi j=>Bd i/\Bd j) λi j=>.int (i*j)):=Eb λ_ _ _ _ _ _ _ hc q=>mul_int q (IntMulOk.of_bits hc.1.bits hc.2.bits)
theorem bI:jY X (binaryOp .FloorDiv) (rI (λ_ j=>0<j/\Bd j) λi j=>.int (i/j)):=Eb λi j _ _ _ _ _ hc q=>by have h1:(0:Int)<j:=hc.1;exact floordiv_int (by lia) (by rw [NB i (by lia)];exact q) (.inl hc.2.Gq)
theorem qY:jY X (inplaceOp .FloorDiv) (rI (λ_ j=>0<j/\Bd j) λi j=>.int (i/j)):=Eb λi j _ _ _ _ _ hc q=>by have h1:(0:Int)<j:=hc.1;exact ifloordiv_int (by lia) (by rw [NB i (by lia)];exact q) (.inl hc.2.Gq)
theorem iZ:jY X (inplaceOp .Mult) (rI (λi j=>Bd i/\Bd j) λi j=>.int (i*j)):=Eb λ_ _ _ _ _ _ _ hc q=>imul_int q (IntMulOk.of_bits hc.1.bits hc.2.bits)
theorem i4 {op:OT} {r:R2} (ho:jY X (inplaceOp op) r):Gi X op r:=λpins s σ H x y v u Q I r1 r2 h=>ho pins s σ H x y v u Q I r1 r2 h
def Cu (i j k:Nat) (ta:TA):TS:=λD σ H=>ta σ H λvs H1=>∃ v w u,vs=[v,w,u]/\D.nx (((σ.set i (GZ v)).set j (GZ w)).set k (GZ u)) H1
theorem uX {i j k:Nat} {x y z:HA} {a b c:Ik} {ta:TA} {px py pz pt pos:K8} {kt k2 pt2} (hc:X.calm=true) (hN:X.N.Nodup) (hi:X.N[i]?=GZ x) (hj:X.N[j]?=GZ y) (hk:X.N[k]?=GZ z) (hij:i≠j) (hik:i≠k) (hjk:j≠k)
  (hx:X.env.scope.names.lookup x=GZ .local) (hy:X.env.scope.names.lookup y=GZ .local) (hz:X.env.scope.names.lookup z=GZ .local) (ha:PA X [a,b,c] ta)
  (hw:swappedStores [.Tuple [.Name x px,.Name y py,.Name z pz] kt pt] (.Tuple [a,b,c] k2 pt2) X.env=pure (GZ [x,y,z]))
  (hs:autoParam (swapsWithSole [.Tuple [.Name x px,.Name y py,.Name z pz] kt pt] (.Tuple [a,b,c] k2 pt2) pos.line X.env=pure false) Z0._auto_1) :
  PS X (.Assign [.Tuple [.Name x px,.Name y py,.Name z pz] kt pt] (.Tuple [a,b,c] k2 pt2) pos) (Cu i j k ta):=by
 intro pins s σ H D I h;rw [QX];refine G3 (JX ?_);rw [hs];refine G3 (G8 ?_);rw [if_neg (by decide)];refine G3 (Tuple_ (a9 (ha _ pins s σ H _ I h) λus s1 hZ=>?_));obtain⟨vs,H1,I1,r1,q1⟩:=hZ;obtain⟨v,w,u,e1,q1⟩:=q1;subst e1;obtain⟨u1,u2,u3,rfl,rv,rw',ru⟩:∃ u1 u2 u3,us=[u1,u2,u3]/\RelV v u1/\RelV w u2/\RelV u u3:=by
  cases r1 with
  | cons p q =>
   cases q with
   | cons p' q' =>
    cases q' with
    | cons p'' q'' =>cases q'';exact⟨_,_,_,rfl,p,p',p''⟩
 refine Ju ?_ (by show 3<=sizeLine;decide);have I2:Inv X pins σ H1 { s1 with heap:=s1.heap.push { cls:=.type "tuple",data:=.seq [u1,u2,u3].toArray } }:=I1.kept (t':=s1.toks) λb o e=>G7 _ e;rw [hw];refine G3 (G8 ?_);show wpAny (model X.prog X.w) X.A (do rule "assign.swapped-stores";let items <- unpackItems (.ref s1.heap.objs.size) 3 none;assignInOrder [λv=>bindName X.env z v,λv=>bindName X.env y v,λv=>bindName X.env x v] items.reverse;pure Flow.next) _ _ _;refine G3 (Ll (G3 (P9 (items:=#[u1,u2,u3]) (I.ok.hd hc) (IsTup.new s1.heap _) λh' hx'=>?_)));have I3:=I2.kept (h':=h') (t':=s1.toks) λb o e=>hx' b o (HP (Hn e)) e;show wpAny _ _ (assignInOrder [λv=>bindName X.env z v,λv=>bindName X.env y v,λv=>bindName X.env x v] [u3,u2,u1] >>= λ_=>pure Flow.next) _ _ _;refine G3 (KO (LD (bS I3 hN hk (.inl hz) ru (λs2 I4=>?_) (.inr hz))));refine KO (LD (bS I4 hN hj (.inl hy) rw' (λs3 I5=>?_) (.inr hy)));refine KO (LD (bS I5 hN hi (.inl hx) rv (λs4 I6=>NM (G8 ?_)) (.inr hx)));have e:((σ.set k (GZ u)).set j (GZ w)).set i (GZ v)=((σ.set i (GZ v)).set j (GZ w)).set k (GZ u):=by rw [NZ _ _ (IJ hij),NZ _ _ (IJ hik),NZ _ _ (IJ hjk)]
 rw [e] at I6;exact⟨_,H1,I6,q1⟩
end
def ay (K:G1) (mg:HA->Option G2) (x:HA) (st:Le):Prop:=∃ f fd,w6 K x x st f fd/\mg x=GZ (.ref f)
structure Callee (P:Hq) (w:HU) (K:G1) (mg:HA->Option G2) (base:Ip) (CX:kB) (k:Nat) (x:HA) (ps:List HA) (sp:Sp):Prop where
 ex:∃ f fd,cE P w K mg base CX k f fd ps sp/\mg x=GZ (.ref f)/\Kt K (.ref f)=true/\Binds K fd ps []
section
variable {P:Hq} {w:HU} {K:G1} {mg:HA->Option G2} {base:Ip} {CX:kB} {k:Nat} {x:HA} {ps:List HA} {sp:Sp}
theorem Callee.imp {sp':Sp} (C:Callee P w K mg base CX k x ps sp) (h:∀ vs H Q E,sp' vs H Q E->sp vs H Q E):Callee P w K mg base CX k x ps sp':=by obtain⟨f,fd,F,a,b,c⟩:=C.ex;exact⟨f,fd,F.imp h,a,b,c⟩
theorem Callee.mono {j:Nat} (C:Callee P w K mg base CX k x ps sp) (h:k<=j):Callee P w K mg base CX j x ps sp:=by obtain⟨f,fd,F,a,b,c⟩:=C.ex;exact⟨f,fd,F.mono h,a,b,c⟩
theorem cT {X:Cx} {E:XK} {e:Ik} {es:List Ik} {t:TA} {p pos:K8} (C:Callee X.prog X.w X.K X.mg X.base CX k x ps sp) (hr:bL k X.A) (hg:Gl X x) (hx:Passes CX X E)
  (ha:PA X (e::es) t) (hdb:autoParam ((x==("__debug__":HA))=false) Z1._auto_1) (he:autoParam (starEach (e::es) X.env=(false,eval e X.env)::starEach es X.env) Z0._auto_1) (hpl:autoParam ((backTo pos (starEach es X.env)).any (·.1)=false) Z0._auto_1) :
  PE X (.Call (.Name x p) (e::es) [] pos) (sG sp [] E t):=by
 obtain⟨f,fd,F,hm,hk,hb⟩:=C.ex;exact uS F hr hg hm hk hb .nil hx ha hdb he hpl
theorem vF {st:Le} {N:List HA} (D:ay K mg x st)
  (hb:∀(kV doc pm:G2) (an:Option G6) (cdv ct:G2) (us:List G2),us.length=ps.length->bindArgs (JD x x (bo st) (aO st) (ak st) .none kV doc pm an cdv ct) ⟨us,[]⟩=pure (ps.zip us))
  (S:av N ps (ak st)) (len:∀ vs H Q E,sp vs H Q E->vs.length=ps.length)
  (Qt:∀(f:G6) (cdv:G2) (A:HX) (outer:List MA) (s:G5) (H:Hp) (vs:List V) (Q:VK) (E:XK),bL k (A.deeper (envOfC x (ak st) s.heap.objs.size f cdv))->sp vs H Q E ->
   ∃ t,gN (eR aQ P w K mg base N x (ak st) f cdv A outer s H E).kh (aO st) t/\t { nx:=λ_ H'=>Q .non H',rt:=Q } (start N vs) H):Callee P w K mg base aQ (k+1) x ps sp:=by
 obtain⟨f,fd,F,hm⟩:=D;exact⟨f,fd,F.ok S len λcdv A outer s H vs Q E hr h=>Qt f cdv A outer s H vs Q E hr h,hm,F.kp,F.binds hb⟩
theorem xC {h:Ip} {f:G6} {st:Le} {oc:G2} {od an:Option G6} {osl:Array (Option G2)} {kV doc pm cdv ct:G2} (X:K.In h) (G:h.Ns mainGlobals mg)
  (a:Sk K mainGlobals x=GZ (GZ (.ref f))) (l:K.lookup f=GZ ⟨oc,od,.func (JD x x (bo st) (aO st) (ak st) .none kV doc pm an cdv ct),osl⟩)
  (c:Mm K cdv x=true) (kk:Kt K (.ref f)=true):ay K mg x st:=⟨f,_,tD l c kk,JY X G a⟩
end
def jH (cl:List (HA × G6)):List (HA × LH)->Prop
 | []=>True
 | y::r=>(match y.2 with | .free=>(cl.lookup y.1).isSome=true | _=>True)/\jH cl r
theorem jH.get {cl:List (HA × G6)}:∀{l:List (HA × LH)},jH cl l->∀ y∈l,y.2=.free->(cl.lookup y.1).isSome=true
 | [],_,_,h,_=>nomatch h
 | z::r,a,y,h,e=>by
  rcases Hw.mp h with q | q
  ·subst q;have:=a.1;rw [e] at this;exact this
  ·exact jH.get a.2 y q e
def iK (X:Cx) (scope:Kf) (cl:List (HA × G6)):List (Option Nat)->List HA->Prop
 | none::r,_::n=>iK X scope cl r n
 | some j::r,x::n=>(X.N[j]?=GZ x/\(cl.lookup x).isSome=true/\(X.env.scope.names.lookup x=GZ .cell∨X.env.scope.names.lookup x=GZ .free)/\((relabel scope X.env).names.lookup x=GZ .cell∨(relabel scope X.env).names.lookup x=GZ .free))/\iK X scope cl r n
 | [],[]=>True
 | _,_=>False
theorem iK.len {X:Cx} {scope:Kf} {cl:List (HA × G6)}:∀{js:List (Option Nat)} {N:List HA},iK X scope cl js N->js.length=N.length
 | [],[],_=>rfl
 | none::r,_::n,h=>by have h':iK X scope cl r n:=h;simp [iK.len h']
 | some j::r,x::n,h=>by have h':iK X scope cl r n:=h.2;simp [iK.len h']
 | [],_::_,h=>h.elim
 | none::_,[],h=>h.elim
 | some _::_,[],h=>h.elim
theorem iK.get {X:Cx} {scope:Kf} {cl:List (HA × G6)}:∀{js:List (Option Nat)} {N:List HA},iK X scope cl js N->∀(i j:Nat) x,js[i]?=GZ (GZ j)->N[i]?=GZ x ->
  X.N[j]?=GZ x/\(cl.lookup x).isSome=true/\CV X.env.scope x/\X.env.kindOf x≠GZ .local/\((relabel scope X.env).names.lookup x=GZ .cell∨(relabel scope X.env).names.lookup x=GZ .free)
 | [],[],_,i,j,x,e,_=>by simp at e
 | none::r,y::n,h,0,j,x,e,_=>by simp at e
 | none::r,y::n,h,i+1,j,x,e,e2=>iK.get (js:=r) (N:=n) h i j x (by simpa using e) (by simpa using e2)
 | some k::r,y::n,h,0,j,x,e,e2=>by
  have q:k=j:=by simpa using e
  have q2:y=x:=by simpa using e2
  subst q;subst q2;obtain⟨a,b,c,d⟩:=h.1;refine⟨a,b,?_,?_,d⟩
  ·rcases c with c | c
   ·exact .inr (.inl c)
   ·exact .inr (.inr c)
  ·intro z;have z':X.env.scope.names.lookup y=GZ .local:=z;rcases c with c | c
   ·rw [c] at z';cases z'
   ·rw [c] at z';cases z'
 | some k::r,y::n,h,i+1,j,x,e,e2=>iK.get (js:=r) (N:=n) h.2 i j x (by simpa using e) (by simpa using e2)
 | [],_::_,h,_,_,_,_,_=>h.elim
 | none::_,[],h,_,_,_,_,_=>h.elim
 | some _::_,[],h,_,_,_,_,_=>h.elim
theorem C5 {X:Cx} {N':List HA} {js:List (Option Nat)} {scope:Kf} {cl:List (HA × G6)} (clos:closureFor scope X.env=pure cl) (kind:scope.kind=.function) (nocell:∀ y∈scope.names,y.2=.cell->scope.names.lookup y.1=GZ .cell/\∀ p∈js.zip N',p.1.isSome=true->p.2≠y.1)
  (names:∀ y∈scope.names,y.2=.local->scope.names.lookup y.1=GZ .local) (sub:AllIn X.env cl) (has:jH cl scope.names) (j:iK X scope cl js N'):fU X N' js scope cl :=
 ⟨clos,kind,nocell,names,sub,has.get,j.len,j.get⟩
theorem boot_int:bootBuiltins "int"=GZ (.type "int"):=by decide +kernel
theorem boot_bool:bootBuiltins "bool"=GZ (.type "bool"):=by decide +kernel
theorem boot_tuple:bootBuiltins "tuple"=GZ (.type "tuple"):=by decide +kernel
theorem boot_list:bootBuiltins "list"=GZ (.type "list"):=by decide +kernel
theorem boot_abs:bootBuiltins "abs"=GZ (.builtin "abs"):=by decide +kernel
theorem boot_max:bootBuiltins "max"=GZ (.builtin "max"):=by decide +kernel
theorem boot_min:bootBuiltins "min"=GZ (.builtin "min"):=by decide +kernel
theorem aj {H:Hp} {p:G6} {o:HO} (h:H p=none):aw H (upd H p o):=λb u q=>by rw [ao (bz q h)];exact q
theorem bU {α:Type} {c:TT} {tb:TS} {D:Ends} {σ:St} {H:Hp} (S:α->St) (Pv:α->Hp->Prop) (μ:α->Nat) (x₀:α) (hσ:σ=S x₀) (h0:Pv x₀ H)
  (hs:∀ x H,Pv x H->c (S x) H λb H1=>if b=true then (∃ N:St->Hp->Prop,(∀ σ' H',N σ' H'->∃ y,σ'=S y/\Pv y H'/\μ y<μ x)/\tb { D with nx:=N,ct:=N,bk:=D.nx } (S x) H1) else D.nx (S x) H1):zT c tb D σ H:=by
 subst hσ;refine⟨λm σ H=>∃ x,σ=S x/\Pv x H/\m=μ x,⟨_,x₀,rfl,h0,rfl⟩,?_⟩;rintro m σ H ⟨x,rfl,p,rfl⟩;have q:=hs x H p;have e:(λb H1=>if b=true then (∃ N:St->Hp->Prop,(∀ σ' H',N σ' H'->∃ y,σ'=S y/\Pv y H'/\μ y<μ x)/\tb { D with nx:=N,ct:=N,bk:=D.nx } (S x) H1) else D.nx (S x) H1) =
   (λb H1=>if b=true then (∃ N:St->Hp->Prop,(∀ σ' H',N σ' H'->∃ m',m'<μ x/\∃ y,σ'=S y/\Pv y H'/\m'=μ y)/\tb { D with nx:=N,ct:=N,bk:=D.nx } (S x) H1) else D.nx (S x) H1):=by
  funext b H1;cases b with
  | false=>rfl
  | true =>
   simp only [if_true];refine propext ⟨fun⟨N,hN,z⟩=>⟨N,λσ' H' n=>?_,z⟩,fun⟨N,hN,z⟩=>⟨N,λσ' H' n=>?_,z⟩⟩
   ·obtain⟨y,e1,e2,e3⟩:=hN σ' H' n;exact⟨_,e3,y,e1,e2,rfl⟩
   ·obtain⟨m',l,y,e1,e2,e3⟩:=hN σ' H' n;exact⟨y,e1,e2,e3▸l⟩
 rw [e] at q;exact q
end L2
namespace Gcd
structure J (A B g u v ng nu nv:Int):Prop where
 g0:0<=g
 n0:0<=ng
 e1:u*A+v*B=g
 e2:nu*A+nv*B=ng
 ex:∃ s U NU V NV:Int,(s=1∨s = -1)/\0<=U/\0<=NU/\0<=V/\0<=NV/\u=s*U/\nu = -s*NU/\v = -s*V/\nv=s*NV/\g*NU+ng*U=B/\g*NV+ng*V=A /\
  (U<=1∨U<=B)/\(NU<=1∨NU<=B)/\(V<=1∨V<=A)/\(NV<=1∨NV<=A)
theorem J.start {A B:Int} (ha:0<=A) (hb:0<=B):J A B A 1 0 B 0 1 :=
 ⟨ha,hb,by grind,by grind,1,1,0,0,1,.inl rfl,by decide,by decide,by decide,by decide,by grind,by grind,by grind,by grind,by grind,by grind,.inl (by decide),.inl (by decide),.inl (by decide),.inl (by decide)⟩
theorem nL {n x B:Int} (hn:0<n) (hx:0<=x) (h:n*x<=B):x<=B:=by have:1*x<=n*x:=Il hn hx;lia
theorem J.turn {A B g u v ng nu nv:Int} (j:J A B g u v ng nu nv) (hn:0<ng) :
  J A B ng nu nv (g-g/ng*ng) (u-g/ng*nu) (v-g/ng*nv)/\(g-g/ng*ng)<ng/\0<=g/ng/\g/ng<=g:=by
 have q0:0<=g/ng:=JB j.g0 j.n0;have r:=Int.emod_def g ng;have r0:=Hl g (show ng≠0 by lia);have r1:=Hk g hn;have ql:g/ng<=g:=N8 ng j.g0;have e1:=j.e1;have e2:=j.e2;have hc:g/ng*ng=ng*(g/ng):=Ia _ _;generalize g/ng=q at *;obtain⟨s,U,NU,V,NV,hs,hU,hNU,hV,hNV,eu,enu,ev,env,b1,b2,l1,l2,l3,l4⟩:=j.ex;have hqNU:0<=q*NU:=JR q0 hNU;have hqNV:0<=q*NV:=JR q0 hNV;have rr:0<=g-q*ng:=by lia
 have i1:ng*(U+q*NU)+(g-q*ng)*NU=B:=by grind
 have i2:ng*(V+q*NV)+(g-q*ng)*NV=A:=by grind
 have n1:0<=(g-q*ng)*NU:=JR rr hNU;have n2:0<=(g-q*ng)*NV:=JR rr hNV;refine⟨⟨j.n0,rr,e2,by grind,-s,NU,U+q*NU,NV,V+q*NV,by lia,hNU,by lia,hNV,by lia,by grind,by grind,by grind,by grind,i1,i2,l2,.inr (nL hn (by lia) (by lia)),l4,.inr (nL hn (by lia) (by lia))⟩,by lia,q0,ql⟩
structure CC (a b g u v:Int):Prop where
 g0:0<=g
 lin:u*a+v*b=g
 da:g∣a
 db:g∣b
 bu:u.natAbs<=max 1 b.natAbs
 bv:v.natAbs<=max 1 a.natAbs
theorem Ep {s U u:Int} (hs:s=1∨s = -1) (hU:0<=U) (e:u=s*U):u.natAbs=U.toNat:=by rcases hs with rfl | rfl<;>lia
theorem Eo {s V v:Int} (hs:s=1∨s = -1) (hV:0<=V) (e:v = -s*V):v.natAbs=V.toNat:=by rcases hs with rfl | rfl<;>lia
theorem ya {a u:Int}:(if a<0 then -u else u).natAbs=u.natAbs:=by
 split
 ·exact Int.natAbs_neg u
 ·rfl
theorem yd {a u:Int}:(if a<0 then -u else u)*a=u*(if a<0 then -a else a):=by
 split
 ·rw [OX,SM]
 ·rfl
theorem yb {a g:Int} (h:g∣if a<0 then -a else a):g∣a:=by
 split at h
 ·exact OY.mp h
 ·exact h
theorem yc {U b:Int} (h:U<=1∨U<=if b<0 then -b else b):U.toNat<=max 1 b.natAbs:=by split at h<;>lia
theorem J.done {a b g u v nu nv:Int} (j:J (if a<0 then -a else a) (if b<0 then -b else b) g u v 0 nu nv):CC a b g (if a<0 then -u else u) (if b<0 then -v else v):=by
 have e1:=j.e1;obtain⟨s,U,NU,V,NV,hs,hU,hNU,hV,hNV,eu,enu,ev,env,b1,b2,l1,l2,l3,l4⟩:=j.ex;refine⟨j.g0,by rw [yd,yd];exact e1,yb ⟨NV,by rw [<- b2,Qk,Ni]⟩,yb ⟨NU,by rw [<- b1,Qk,Ni]⟩,?_,?_⟩
 ·rw [ya,Ep hs hU eu];exact yc l1
 ·rw [ya,Eo hs hV ev];exact yc l3
theorem J.small {A B g u v ng nu nv M:Int} (j:J A B g u v ng nu nv) (hA:0<=A) (hB:0<=B) (hAM:A<=M) (hBM:B<=M) (hM:1<=M):(-M<=u/\u<=M)/\(-M<=v/\v<=M)/\(-M<=nu/\nu<=M)/\(-M<=nv/\nv<=M):=by
 obtain⟨s,U,NU,V,NV,hs,hU,hNU,hV,hNV,eu,enu,ev,env,b1,b2,l1,l2,l3,l4⟩:=j.ex;rcases hs with rfl | rfl
 ·refine⟨⟨?_,?_⟩,⟨?_,?_⟩,⟨?_,?_⟩,⟨?_,?_⟩⟩<;>lia
 ·refine⟨⟨?_,?_⟩,⟨?_,?_⟩,⟨?_,?_⟩,⟨?_,?_⟩⟩<;>lia
end Gcd
namespace L2
open PySem PySem.Spec PyProof.Rows
theorem aw.upd {H H1:Hp} {p:G6} {o:HO} (h:aw H H1) (hp:H p=none):aw H (upd H1 p o):=λb u q=>by rw [ao (bz q hp)];exact h b u q
theorem aw.D5 {H H1:Hp} {p:G6} {o:HO} (h:aw H H1) (hp:H1 p=none):aw H (L2.upd H1 p o):=h.upd (h.free hp)
theorem CY {α:Type} {xs:List α} {k:Int} (h0:0<=k) (h1:k<xs.length):∃ v,wX xs k=GZ v/\xs[k.toNat]?=GZ v:=by
 have hk:k.toNat<xs.length:=by lia
 refine⟨xs[k.toNat],?_,Hf hk⟩;have:=oQ (xs:=xs) (j:=k.toNat) (Hf hk)
 rwa [Hb h0] at this
theorem kS {K:G1} {H:Hp} {p:G6} {xs:List V} {k:Int} {Q:VK} (h:aM K H p xs) (h0:0<=k) (h1:k<xs.length) (q:∀ v∈xs,Q v H):wH K (.ref p) (.int k) H Q:=by obtain⟨v,e,e2⟩:=CY h0 h1;exact⟨p,xs,k,v,rfl,rfl,h,e,q v (Hc e2)⟩
theorem eS {K:G1} {H:Hp} {p:G6} {xs:List V} {k:Int} {v:V} {Q:VK} (h:aM K H p xs) (h0:0<=k) (e:xs[k.toNat]?=GZ v) (q:Q v H):wH K (.ref p) (.int k) H Q:=by have:=oQ e;rw [Hb h0] at this;exact⟨p,xs,k,v,rfl,rfl,h,this,q⟩
theorem uy {H:Hp} {p:G6} {xs:List Int} {i:Int} {Q:VK} (h:H p=GZ (.lst (xs.map V.int))) (hz:xs.length<sizeLine) (q:Q .non (upd H p (.lst ((xs++[i]).map V.int)))):uY (.ref p) [.int i] H Q :=
 ⟨p,xs.map V.int,.int i,rfl,rfl,h,by rw [G4];exact hz,by rw [HQ] at q;exact q⟩
def Loop (J:It) (g:TG) (tb:TS) (D:Ends) (σ:St) (H:Hp):Prop:=∃ W:Nat->Nat->St->Hp->Prop,(∃ m,W 0 m σ H)/\∀ i m σ H,W i m σ H ->
 (J.stop i H/\D.nx σ H)∨(J.go i H/\∃ N:St->Hp->Prop,(∀ σ' H',N σ' H'->∃ m',m'<m/\W (i+1) m' σ' H')/\∀ x H',J.yld i H x H'->g x σ H' λσ2 H2=>tb { D with nx:=N,ct:=N,bk:=D.nx } σ2 H2)
theorem BC {wi:TI} {g:TG} {tb:TS} {D:Ends} {σ:St} {H:Hp}:Fc wi g tb D σ H=wi σ H λJ H1=>Loop J g tb D σ H1:=rfl
theorem cI {lo:Int} {n:Nat} {g:TG} {tb:TS} {D:Ends} {σ:St} {H:Hp} (Pv:Nat->St->Hp->Prop) (h0:Pv 0 σ H)
  (hs:∀ i σ H,i<n->Pv i σ H->g (.int (lo+i)) σ H λσ2 H2=>tb { D with nx:=Pv (i+1),ct:=Pv (i+1),bk:=D.nx } σ2 H2) (hd:∀ σ H,Pv n σ H->D.nx σ H):Loop (Ai lo n) g tb D σ H:=vQ Pv h0 hs hd
theorem cL {K:G1} {a:G6} {xs:List V} {g:TG} {tb:TS} {D:Ends} {σ:St} {H:Hp} (Pv:Nat->St->Hp->Prop) (h0:Pv 0 σ H) (hl:∀ i σ H,i<=xs.length->Pv i σ H->aM K H a xs)
  (hs:∀ i x σ H,xs[i]?=GZ x->Pv i σ H->g x σ H λσ2 H2=>tb { D with nx:=Pv (i+1),ct:=Pv (i+1),bk:=D.nx } σ2 H2) (hd:∀ σ H,Pv xs.length σ H->D.nx σ H):Loop (Ah K a) g tb D σ H:=xW Pv h0 hl hs hd
theorem yn {K:G1} {a:G6} {xs:List V} {g:TG} {tb:TS} {D:Ends} {σ:St} {H:Hp} (Pv:Nat->St->Hp->Prop) (h0:Pv 0 σ H) (hl:∀ i σ H,i<=xs.length->Pv i σ H->bE K H a xs)
  (hs:∀ i x σ H,xs[i]?=GZ x->Pv i σ H->g x σ H λσ2 H2=>tb { D with nx:=Pv (i+1),ct:=Pv (i+1),bk:=D.nx } σ2 H2) (hd:∀ σ H,Pv xs.length σ H->D.nx σ H):Loop (CO K a) g tb D σ H:=AL Pv h0 hl hs hd
def qA (J:It) (js:List (Option Nat)) (g:TG) (tt:TT) (te:TE) (σ:St) (Q:VK) (H1:Hp):Prop:=∃ W:Nat->Nat->List V->Hp->Prop,(∃ m,W 0 m [] H1)/\∀ i m ys H,W i m ys H ->
 (J.stop i H/\ys.length<=sizeLine/\∀ p,H p=none->Q (.ref p) (upd H p (.lst ys))) ∨
 (J.go i H/\ys.length<sizeLine/\∃ N:List V->Hp->Prop,(∀ ys' H',N ys' H'->∃ m',m'<m/\W (i+1) m' ys' H') /\
  ∀ x H',J.yld i H x H'->g x (bV js σ) H' λσ2 H2=>bB (bV js σ) σ2/\tt σ2 H2 λb H3=>if b=true then te σ2 H3 λv H4=>N (ys++[v]) H4 else N ys H3)
theorem DZ {js:List (Option Nat)} {wi:TI} {g:TG} {tt:TT} {te:TE} {σ:St} {H:Hp} {Q:VK}:Fz js wi g tt te σ H Q=wi σ H λJ H1=>qA J js g tt te σ Q H1:=rfl
theorem bh {K:G1} {a:G6} {xs:List V} {js:List (Option Nat)} {g:TG} {tt:TT} {te:TE} {σ:St} {Q:VK} {H1:Hp} (Pv:Nat->List V->Hp->Prop) (h0:Pv 0 [] H1) (hx:xs.length<=sizeLine) (hl:∀ i ys H,i<=xs.length->Pv i ys H->aM K H a xs/\ys.length<=i)
  (hs:∀ i x ys H,xs[i]?=GZ x->Pv i ys H->g x (bV js σ) H λσ2 H2=>bB (bV js σ) σ2/\tt σ2 H2 λb H3=>if b=true then te σ2 H3 λv H4=>Pv (i+1) (ys++[v]) H4 else Pv (i+1) ys H3)
  (hd:∀ ys H p,Pv xs.length ys H->H p=none->Q (.ref p) (upd H p (.lst ys))):qA (Ah K a) js g tt te σ Q H1:=by
 refine⟨λi m ys H=>m=xs.length-i/\i<=xs.length/\Pv i ys H,⟨xs.length,by simp,IV _,h0⟩,?_⟩;rintro i m ys H ⟨rfl,hi,p⟩;obtain⟨q,hy⟩:=hl i ys H hi p;by_cases hlt:i<xs.length
 ·refine .inr ⟨⟨xs,xs[i],q,by simp [hlt]⟩,by lia,Pv (i+1),λys' H' p'=>⟨xs.length-(i+1),by lia,rfl,hlt,p'⟩,λx H' y=>?_⟩;obtain⟨e,y⟩:=y;subst e;exact hs i x ys _ (y xs q) p
 ·have e:i=xs.length:=by lia
  subst e;exact .inl ⟨⟨xs,q,Hd _⟩,by lia,λp' hp'=>hd ys H p' p hp'⟩
theorem gO {K:G1} {a:G6} {xs:List V} {js:List (Option Nat)} {g:TG} {tt:TT} {te:TE} {σ:St} {Q:VK} {H1:Hp} (Pv:Nat->List V->Hp->Prop) (h0:Pv 0 [] H1) (hx:xs.length<=sizeLine) (hl:∀ i ys H,i<=xs.length->Pv i ys H->bE K H a xs/\ys.length<=i)
  (hs:∀ i x ys H,xs[i]?=GZ x->Pv i ys H->g x (bV js σ) H λσ2 H2=>bB (bV js σ) σ2/\tt σ2 H2 λb H3=>if b=true then te σ2 H3 λv H4=>Pv (i+1) (ys++[v]) H4 else Pv (i+1) ys H3)
  (hd:∀ ys H p,Pv xs.length ys H->H p=none->Q (.ref p) (upd H p (.lst ys))):qA (CO K a) js g tt te σ Q H1:=by
 refine⟨λi m ys H=>m=xs.length-i/\i<=xs.length/\Pv i ys H,⟨xs.length,by simp,IV _,h0⟩,?_⟩;rintro i m ys H ⟨rfl,hi,p⟩;obtain⟨q,hy⟩:=hl i ys H hi p;by_cases hlt:i<xs.length
 ·refine .inr ⟨⟨xs,xs[i],q,by simp [hlt]⟩,by lia,Pv (i+1),λys' H' p'=>⟨xs.length-(i+1),by lia,rfl,hlt,p'⟩,λx H' y=>?_⟩;obtain⟨e,y⟩:=y;subst e;exact hs i x ys _ (y xs q) p
 ·have e:i=xs.length:=by lia
  subst e;exact .inl ⟨⟨xs,q,Hd _⟩,by lia,λp' hp'=>hd ys H p' p hp'⟩
theorem GJ {CX:kB} {P:Hq} {w:HU} {K:G1} {mg:HA->Option G2} {base:Ip} {N:List HA} {qual:HA} {scope:Kf} {f:G6} {cd:G2} {A:HX} {outer:List MA} {s:G5} {H:Hp} {E:XK} :
  (eR CX P w K mg base N qual scope f cd A outer s H E).K=K:=rfl
theorem Eu {X:Cx} {N':List HA} {scope:Kf} {cl:List (HA × G6)} {C:G6} {s₂:G5} {H₂:Hp} {fp:List G6}:(cR X N' scope cl C s₂ H₂ fp).K=X.K:=rfl
theorem kX {K:G1} {b k:Bool} {H:Hp}:xj K (.bl b) H k=(k=b):=rfl
theorem zX {K:G1} {i:Int} {k:Bool} {H:Hp}:xj K (.int i) H k=(k=(i != 0)):=rfl
def Bm (K:G1):List V->Hp->VK->Prop:=λxs H Q=>∃ p ys,xs=[.ref p]/\(aM K H p ys∨bE K H p ys)/\Q (.int ys.length) H
theorem bf {X:Cx}:eA X (.builtin "len") (Bm X.K):=oS
theorem df {K:G1} {H:Hp} {p:G6} {xs:List V} {Q:VK} (h:aM K H p xs) (q:Q (.int xs.length) H):Bm K [.ref p] H Q:=⟨p,xs,rfl,.inl h,q⟩
theorem i5 {K:G1} {H:Hp} {p:G6} {xs:List V} {Q:VK} (h:bE K H p xs) (q:Q (.int xs.length) H):Bm K [.ref p] H Q:=⟨p,xs,rfl,.inr h,q⟩
theorem Bv {a b:Int}:pZ (.int a) (.int b)=true:=rfl
theorem Bt {a b:Bool}:pZ (.bl a) (.bl b)=true:=rfl
theorem Bw {a:Int}:pZ (.int a) .non=true:=rfl
theorem Bx {a:Int}:pZ .non (.int a)=true:=rfl
theorem By:pZ .non .non=true:=rfl
theorem Bu {a:Bool}:pZ (.bl a) .non=true:=rfl
theorem Bz {a b:HA}:pZ (.str a) (.str b)=true:=rfl
def F8 (t:TS):TS:=λD σ H=>∃ R:St->Hp->Prop,t { D with nx:=R } σ H/\∀ σ' H',R σ' H'->D.nx σ' H'
theorem gj {X:Cx} {st:Le} {t:TS} (h:PS X st t):PS X st (F8 t):=by
 intro pins s σ H D I ⟨R,hw,hR⟩;refine a9 (h pins s σ H _ I hw) λf s' q=>?_;cases f with
 | next=>obtain⟨σ',H',I',r⟩:=q;exact⟨σ',H',I',hR _ _ r⟩
 | brk=>exact q
 | cont=>exact q
 | ret u=>exact q
theorem AK {P:Hq} {w:HU} {K:G1} {mg:HA->Option G2} {base:Ip} {k:Nat} {x:HA} {ps:List HA} {sp:Sp} {st:Le} {N:List HA} {f:G6} {fd:JF} (F:w6 K x x st f fd)
  (S:av N ps (ak st)) (len:∀ vs H Q E,sp vs H Q E->vs.length=ps.length)
  (Qt:∀(cdv:G2) (A:HX) (outer:List MA) (s:G5) (H:Hp) (vs:List V) (Q:VK) (E:XK),bL k (A.deeper (envOfC x (ak st) s.heap.objs.size f cdv))->sp vs H Q E ->
   ∃ t,gN (eR aQ P w K mg base N x (ak st) f cdv A outer s H E).kh (aO st) t/\t { nx:=λ_ H'=>Q .non H',rt:=Q } (start N vs) H):cE P w K mg base aQ (k+1) f fd ps sp :=
 F.ok S len λcdv A outer s H vs Q E hr h=>Qt cdv A outer s H vs Q E hr h
theorem AR {P:Hq} {w:HU} {K:G1} {mg:HA->Option G2} {k:Nat} {x y:HA} {sp:Sp} {st:Le} {fa:G6} (hfa:mg x=GZ (.ref fa)) (D:ay K mg x st)
  (hb:∀(kV doc pm:G2) (an:Option G6) (cdv ct:G2) (u:G2),bindArgs (JD x x (bo st) (aO st) (ak st) .none kV doc pm an cdv ct) ⟨[u],[]⟩=pure [(y,u)])
  (ok:∀(base:Ip) (f:G6) (fd:JF),K.In base->w6 K x x st f fd->cE P w K mg base aQ k f fd [y] sp) :
  ∃ fd:JF,(∀(s:G5) (u:G2),Qi s fd ⟨[u],[]⟩ [(y,u)])/\∀ base:Ip,K.In base->base.Ns mainGlobals mg->cE P w K mg base aQ k fa fd [y] sp:=by
 obtain⟨f,fd,F,hm⟩:=D;have e:=hfa.symm.trans hm;cases e;refine⟨fd,λs u=>?_,λbase kb _=>ok base _ _ kb F⟩;obtain⟨oc,od,kV,doc,pm,an,cdv,ct,osl,rfl,lk,hcd⟩:=F.ex;exact .of_eq (hb kV doc pm an cdv ct u)
end L2
namespace L2
open PySem PySem.Spec PyProof.Rows PySem.W
noncomputable def cD:List G2:=[.type "ValueError",.type "Exception",.type "BaseException",.type "object"]
noncomputable def bW:List G2->Bool
 | .ref _::r=>bW r
 | l=>l==cD
theorem rS (self:G2):refuseLoop self "__setattr__" cD=pure ():=by kernel_rfl
theorem mj (self:G2):∀{l:List G2},bW l=true->refuseLoop self "__setattr__" l=pure ()
 | .ref c::r,e=>by rw [refuseLoop_ref];exact mj self (l:=r) e
 | [],e=>by cases e
 | .type n::r,e=>by
  have:PL n::r=cD:=by simpa [bW] using e
  rw [this];exact rS self
 | .none::r,e=>by simp [bW,cD] at e
 | .bool _::r,e=>by simp [bW,cD] at e
 | .int _ _::r,e=>by simp [bW,cD] at e
 | .str _ _::r,e=>by simp [bW,cD] at e
 | .bytes _ _::r,e=>by simp [bW,cD] at e
 | .float _ _::r,e=>by simp [bW,cD] at e
 | .builtin _::r,e=>by simp [bW,cD] at e
theorem kN {l:List G2}:bW l=true->l.contains (.type "object")=true/\l.contains (.type "BaseException")=true/\l.isEmpty=false:=by
 intro h
 induction l with
 | nil=>cases h
 | cons a r ih =>
  cases a with
  | ref c =>obtain⟨h1,h2,_⟩:=ih h;exact⟨by rw [Kn,h1,Nj],by rw [Kn,h2,Nj],rfl⟩
  | type n =>
   have e:PL n::r=cD:=by simpa [bW] using h
   rw [e];exact⟨by decide,by decide,rfl⟩
  | _=>simp [bW,cD] at h
section
variable {prog:Hq} {w:HU} {A:HX} {E:G2->G5->Prop} {s:G5} {K:G1} {x C:G6} {name:HA} {v:G2} {cd:Si}
theorem AJ {vs:Array G2} {sl:Array (Option G2)} {Q:Unit->G5->Prop} (X:K.In s.heap) (hx:s.heap.get? x=GZ ⟨.ref C,none,.fields vs,sl⟩) (hc:clsIn K C=GZ cd) (hm:bW cd.mro=true) (hh:cd.hasDict=true)
  (hs:findIn K (.ref C) "__setattr__"=GZ (GZ (.builtin "object.__setattr__"))) (hn:findIn K (.ref C) name=GZ none)
  (h:∀ h',h'.get? x=GZ ⟨.ref C,GZ s.heap.objs.size,.fields vs,sl⟩->h'.Ns1 s.heap.objs.size (λy=>if y=name then GZ v else none)->(∀ b ob,b≠x->s.heap.get? b=GZ ob->h'.get? b=GZ ob)->Q () { s with heap:=h',toks:=s.toks+2 }) :
  wpAny (model prog w) A (setAttr (.ref x) name v) Q E s:=by
 have I:Mf s.heap x ⟨.ref C,none,.fields vs,sl⟩ C none:=⟨hx,rfl,rfl,True.intro⟩
 obtain⟨m1,m2,m3⟩:=kN hm;refine Qd X I hs ?_;have SF:=PySem.F.store_object;have sub:SN (model prog w) s.heap (isInstance (.ref x) (.type "object")) true:=I.type.andThen (MU X (by unfold mroIn;rw [hc,MK,if_neg (by rw [m3];decide),m1]));refine MV SF.slot.plain SF.entry (@check_slot (model prog w) _ _ { s with toks:=s.toks+1 } "object.__setattr__" "object" "__setattr__" (.ref x) [.str name s.toks,v] [] _ SF.kind SF.split sub (SF.args (.ref x) (.str name s.toks) v) ?_);have L1:SN (model prog w) s.heap (mroOf (.ref C)) cd.mro:=(Pk X hc).andThen .now;rw [osa_eq,refuse_eq];refine G3 (G3 (MG (s:={ s with toks:=s.toks+1 }) I.type (G3 (MG (s:={ s with toks:=s.toks+1 }) L1 ?_))));rw [mj _ hm];refine G8 (G3 (MG (s:={ s with toks:=s.toks+1 }) I.type (G3 (MG (s:={ s with toks:=s.toks+1 }) (Mx X hn) (G3 (G8 ?_))))));show wpAny _ _ (Builtin.ObjectAttr.storeInOwnDict (.ref x) (.ref C) (.str name s.toks) name v false) _ _ _;refine G3 (G8 (G3 (G3 (OU hx (G3 (MG (s:={ s with toks:=s.toks+1 }) (Pk X hc) ?_))))));rw [hh];refine G3 (wpAny_alloc ?_);have hlt:x≠s.heap.objs.size:=HP (Hn hx);have hp:(s.heap.push { cls:=.type "dict",data:=.dict #[] }).get? x=GZ ⟨.ref C,none,.fields vs,sl⟩:=G7 _ hx;refine G3 (wpAny_update (s:={ s with toks:=s.toks+1,heap:=s.heap.push { cls:=.type "dict",data:=.dict #[] } }) hp ?_);refine G8 ?_;show wpAny _ _ (Builtin.ObjectAttr.storeInDict s.heap.objs.size (.str name s.toks) name v) _ _ _;generalize hu:(s.heap.push { cls:=.type "dict",data:=.dict #[] }).update x (λo=>{ o with dict:=GZ s.heap.objs.size })=h1;have g1:h1.get? x=GZ ⟨.ref C,GZ s.heap.objs.size,.fields vs,sl⟩:=by rw [<- hu];exact IP _ hp rfl
 have g2:∀ b,b≠x->h1.get? b=(s.heap.push { cls:=.type "dict",data:=.dict #[] }).get? b:=λb hb=>by rw [<- hu];exact Ih _ _ (IJ hb)
 have g3:h1.Ns1 s.heap.objs.size (λ_=>none):=by
  have e1:h1.get? s.heap.objs.size=GZ { cls:=.type "dict",data:=.dict #[] }:=by rw [g2 _ (IJ hlt)];exact Hs _ rfl
  have e3:h1.Ns s.heap.objs.size (λ_=>none):=⟨_,#[],_,e1,rfl,(λe he=>absurd he (by simp)),λ_=>rfl⟩
  exact Heap.Ns1.of_empty e3
 refine G3 (G8 (G3 ?_));refine wpAny_nsSet1 (s:={ s with toks:=s.toks+1,heap:=h1 }) g3 λh' hn2 hs2=>?_;obtain⟨oD,esD,epD,hoD,hdD,hcD⟩:=hn2.count (ns:=[name]) (PySem.Within.cons name v (ns:=[]) (λy hy=>absurd rfl hy));refine G3 (Qx hoD (by rw [hdD];exact Qy (Hg hcD (by show 1<=sizeLine+1;decide))) ?_);refine G8 (h h' ((hs2.2 _ hlt).trans g1) hn2 λb ob hb e=>?_);have hb2:b≠s.heap.objs.size:=HP (Hn e);exact (hs2.2 b hb2).trans ((g2 b hb).trans (G7 _ e))
theorem Dc {ox:Kl} {od:Option Kl} {tk:Tok} {fill expr:Bool} {Q:G2->G5->Prop} (X:K.In s.heap) (I:Mf s.heap x ox C od) (hc:clsIn K C=GZ cd) (hm:bW cd.mro=true)
  (hga:findIn K (.ref C) "__getattribute__"=GZ (GZ (.builtin "BaseException.__getattribute__"))) (hk:findIn K (.ref C) "__getattr__"=GZ none)
  (h:wpAny (model prog w) A.in1 (Kj.«object.__getattribute__» ⟨[.ref x,.str name tk],[]⟩)
   (λfin s'=>match fin with | .done (.ret v)=>handedIn v=true/\Q v s' | _=>False) (λ_ _=>False) s) :
  wpAny (model prog w) A (getAttrBy (.ref x) (.str name tk) fill expr) Q E s:=by
 obtain⟨hh',g,d,t,os⟩:=s;obtain⟨m1,m2,m3⟩:=kN hm;have L0:=I.type (M:=model prog w);have L1:=Mx (M:=model prog w) X hga;have L2:=Mx (M:=model prog w) X hk;have FX:=F.excAttr_ValueError;have e0:(expr && onTheHeap (Value.builtin "BaseException.__getattribute__"))=false:=by cases expr<;>rfl
 unfold getAttrBy;refine JZ (G3 (L0.at (G3 (L1.at ?_))));show wpAny _ _ (getAttrByItsOwn (.ref x) (.str name tk) (.ref C) (.builtin "BaseException.__getattribute__") fill expr) _ _ _;unfold getAttrByItsOwn;refine G3 (L2.at (G3 (MQ (JZ ?_))));unfold callGetattribute;rw [e0,if_neg HM];unfold boundAndCalled;rw [FX.ga.bind];refine G3 (G8 (Ny ?_));show codeAny _ _ (.call (.builtin "BaseException.__getattribute__") ⟨[.ref x,.str name tk],[]⟩) _ _;have sub:SN (model prog w) hh' (isInstance (.ref x) (.type "BaseException")) true:=L0.andThen (MU X (by unfold mroIn;rw [hc,MK,if_neg (by rw [m3];decide),m2]));have hk1:builtinKind "BaseException.__getattribute__"=GZ .slot:=by decide +kernel
 have hsplit:splitId "BaseException.__getattribute__"=GZ ("BaseException","__getattribute__"):=by decide +kernel
 refine MV FX.ga.plain F.entry_bexc_ga (@check_slot (model prog w) _ _ ⟨hh',g,d,t,os⟩ "BaseException.__getattribute__" "BaseException" "__getattribute__" (.ref x) [.str name tk] [] _ hk1 hsplit sub (F.args_bexc_ga (.ref x) (.str name tk)) ?_);refine IK h (λfin s' z=>?_) λ_ _ z=>z.elim;rcases fin with (_ | _ | _ | v) | _
 ·exact z.elim
 ·exact z.elim
 ·exact z.elim
 ·show wpAny _ _ (handedOut v) Q E s';rw [handedOut_of z.1];exact G8 z.2
 ·exact z.elim
theorem AH {ox:Kl} {od:Option Kl} {expr:Bool} {Q:G2->G5->Prop} (X:K.In s.heap) (I:Mf s.heap x ox C od) (hc:clsIn K C=GZ cd) (hm:bW cd.mro=true)
  (hga:findIn K (.ref C) "__getattribute__"=GZ (GZ (.builtin "BaseException.__getattribute__"))) (hk:findIn K (.ref C) "__getattr__"=GZ none)
  (hf:findObj K C od name=GZ (.value v)) (hv:handedIn v=true) (h:Q v { s with toks:=s.toks+1 }):wpAny (model prog w) A (getAttr (.ref x) name expr) Q E s:=by
 obtain⟨hh',g,d,t,os⟩:=s;unfold getAttr;refine G3 (wpAny_mkText (Dc (s:=⟨hh',g,d,t+1,os⟩) X I hc hm hga hk ?_));have L0:=I.type (M:=model prog w);have L1:=looks_find (M:=model prog w) X I hf;refine G3 (G8 (G3 (G8 (G3 (L0.at (G3 (L1.at ?_)))))));exact G8 ⟨hv,h⟩
structure cG (K:G1) (C:G6):Prop where
 cls:∃ cd,clsIn K C=GZ cd/\bW cd.mro=true/\cd.hasDict=true
 at_:∃ od cd sl,K.lookup C=GZ ⟨.type "type",od,.cls cd,sl⟩
 sa:findIn K (.ref C) "__setattr__"=GZ (GZ (.builtin "object.__setattr__"))
 ga:findIn K (.ref C) "__getattribute__"=GZ (GZ (.builtin "BaseException.__getattribute__"))
 gx:findIn K (.ref C) "__getattr__"=GZ none
 ca:findIn K (.ref C) "__class__"=GZ (GZ (.builtin "object.__class__"))
 gs:specialIn K (.builtin "object.__class__") "__get__"=GZ (GZ (.builtin "getset_descriptor.__get__"))
 tk:takesIn K (.builtin "object.__class__")=GZ true
theorem cG.there (c:cG K C) {h:Ip} (X:K.In h):∃ oc od cd sl,h.get? C=GZ ⟨oc,od,.cls cd,sl⟩:=by
 obtain⟨cd,hc,_⟩:=c.cls;unfold clsIn at hc;split at hc
 ·rename_i c' d' cd' sl' ho;exact⟨_,_,_,_,X _ _ ho⟩
 ·cases hc
end
section
variable {prog:Hq} {w:HU} {A:HX} {E:G2->G5->Prop} {h:Ip} {g:Array OR} {d:Sy} {t:Nat} {os:Sl}
variable {nm q:HA} {C N:G6} {bs bm:List G2} {R':Bool} {sn:List HA} {sub:List G2} {ab:Bool} {col:Option Bool} {dd:Option G6} {k0 k1 k2 k3 k5:Option G2}
noncomputable abbrev mV:String := "ValueError.__new__"
noncomputable abbrev newExc (C a:G6):Kl:={ cls:=.ref C,data:=.fields #[.ref a,.none,.none,.none,.bool false,.none] }
theorem AI (hB:bm.contains (.type "ValueError")=true) (hA:bm.contains (.type "AttributeError")=false) (hN:bm.contains (.type "NameError")=false) {rest:List G2} {R:PQ->G5->Prop}
  (hC:h.get? C=GZ (excClassObj nm q C N bs bm R' sn sub ab col dd k0 k1 k2 k3 k5 mV)) (hrest:rest.length<=sizeLine)
  (hq:R (.ok (.ret (.ref (h.objs.size+1)))) ⟨(h.push { cls:=.type "tuple",data:=.seq rest.toArray }).push (newExc C h.objs.size),g,d,t,os⟩) :
  codeAny (model prog w) A (.builtin mV ⟨.ref C::rest,[]⟩) R ⟨h,g,d,t,os⟩:=by
 have Fn:=J5;have hends:=Fn.ends;have cB:(HR C::bm).contains (.type "ValueError")=true:=by rw [Kn,hB,Nj]
 have cA:(HR C::bm).contains (.type "AttributeError")=false:=by rw [Kn,hA];rfl
 have cN:(HR C::bm).contains (.type "NameError")=false:=by rw [Kn,hN];rfl
 refine codeAny_builtinAt Fn.entry ?_;unfold Kj.«BaseException.__new__»;refine Q4 ?_;show PySem.wpAt _ _ _ (stack >>= _) _ _ _;refine Q4 (PySem.wpAt_stack λp below=>Pp ?_)
 wp_walk
 refine Pp ?_;rw [Fn.owner]
 repeat (first | with_reducible refine wpAny_madeHere_exc Fn.canon hC ?_ | with_reducible refine Jv hC ?_ | (with_reducible refine LN hC ?_;first | rw [cB] | rw [cA] | rw [cN]) | wp_step)
 show R _ _;rw [IM];exact hq
theorem mP (hB:bm.contains (.type "ValueError")=true) {rest:List G2} {M:P6} {Q:Unit->G5->Prop} (hC:h.get? C=GZ (excClassObj nm q C N bs bm R' sn sub ab col dd k0 k1 k2 k3 k5 mV))
  (hq:Q () ⟨h,g,d,t,os⟩):wpAny M A (checkBuiltinCall mV ⟨.ref C::rest,[]⟩) Q E ⟨h,g,d,t,os⟩:=by
 have Fn:=J5;have cB:(HR C::bm).contains (.type "ValueError")=true:=by rw [Kn,hB,Nj]
 have hstar:=Fn.noStar;simp only [checkBuiltinCall,Fn.newKind,Fn.newSplit,Fn.newRow]
 repeat (first | refine Jv hC ?_ | (refine LN hC ?_;rw [cB]) | refine wpAny_staticBase_exc hC ?_ | refine QD hC ?_ | simp only [bne_self_eq_false,Jm,if_false] | wp_step)
 exact hq
theorem oY {K:G1} {i:G2} {rest:List G2} {Q:Fin->G5->Prop} (X:K.In h) (hB:bm.contains (.type "ValueError")=true) (hA:bm.contains (.type "AttributeError")=false) (hN:bm.contains (.type "NameError")=false)
  (hC:h.get? C=GZ (excClassObj nm q C N bs bm R' sn sub ab col dd k0 k1 k2 k3 k5 mV)) (hrest:rest.length<=sizeLine) (hi:findIn K (.ref C) "__init__"=GZ (GZ i)) {j:G2}
  (hb:SN (model prog w) h (bindSpecial i (.ref (h.objs.size+1))) (j,[.ref (h.objs.size+1)]))
  (hq:codeAny (model prog w) A (.call j ⟨.ref (h.objs.size+1)::rest,[]⟩) (λr s'=>match r with | .ok (.ret v)=>v=.none/\Q (.done (.ret (.ref (h.objs.size+1)))) s' | .ok _=>False | .error e=>E e s')
   ⟨(h.push { cls:=.type "tuple",data:=.seq rest.toArray }).push (newExc C h.objs.size),g,d,t,os⟩) :
  wpAny (model prog w) A (Kj.«type.__call__» ⟨.ref C::rest,[]⟩) Q E ⟨h,g,d,t,os⟩:=by
 have Fn:=J5
 repeat (first | with_reducible refine Jv hC ?_ | with_reducible refine QD hC ?_ | wp_step)
 refine codeAny_call_builtin_code (PX _ Fn.quiet) (mP hB hC ?_);refine AI hB hA hN hC hrest ?_;show wpAny _ _ _ _ _ _;have kp:∀ b o,h.get? b=GZ o->((h.push { cls:=.type "tuple",data:=.seq rest.toArray }).push (newExc C h.objs.size)).get? b=GZ o:=λb o e=>G7 _ (G7 _ e);have hget:((h.push { cls:=.type "tuple",data:=.seq rest.toArray }).push (newExc C h.objs.size)).get? (h.objs.size+1)=GZ (newExc C h.objs.size):=by
  have:=Hs (h.push { cls:=.type "tuple",data:=.seq rest.toArray }) (o:=newExc C h.objs.size) rfl
  rwa [IM] at this
 have cC:(HR C::bm).contains (.ref C)=true:=by simp
 have hC₁:=kp _ _ hC;have L1:=(Mx (M:=model prog w) X hi).keeps kp;have L2:=hb.keeps kp;unfold isInstance
 repeat (first | with_reducible refine Jv hget ?_ | (with_reducible refine LN hC₁ ?_;rw [cC]) | wp_step)
 show wpAny _ _ (typeLookup (.ref C) _) _ _ _;refine L1.at (JZ (G3 (L2.at (G3 (Ny (K1 hq λr s' z=>?_))))));rcases r with e | (_ | _ | _ | v)
 ·exact z
 ·exact z.elim
 ·exact z.elim
 ·exact z.elim
 ·obtain⟨rfl,z⟩:=z;exact G8 (G8 z)
theorem qT {K:G1} {i:G2} {rest:List G2} {Q:G2->G5->Prop} (X:K.In h) (hB:bm.contains (.type "ValueError")=true) (hA:bm.contains (.type "AttributeError")=false) (hN:bm.contains (.type "NameError")=false)
  (hC:h.get? C=GZ (excClassObj nm q C N bs bm R' sn sub ab col dd k0 k1 k2 k3 k5 mV)) (hrest:rest.length<=sizeLine) (hi:findIn K (.ref C) "__init__"=GZ (GZ i)) {j:G2}
  (hb:SN (model prog w) h (bindSpecial i (.ref (h.objs.size+1))) (j,[.ref (h.objs.size+1)]))
  (hq:codeAny (model prog w) (A.under (.builtin "type.__call__" ⟨.ref C::rest,[]⟩)) (.call j ⟨.ref (h.objs.size+1)::rest,[]⟩) (λr s'=>match r with | .ok (.ret v)=>v=.none/\Q (.ref (h.objs.size+1)) s' | .ok _=>False | .error e=>E e s')
   ⟨(h.push { cls:=.type "tuple",data:=.seq rest.toArray }).push (newExc C h.objs.size),g,d,t,os⟩) :
  wpAny (model prog w) A (call (.ref C) rest) Q E ⟨h,g,d,t,os⟩:=by
 have f1:=tc_lookup;have f2:=tc_bind (.ref C);have hT:(⟨h,g,d,t,os⟩:G5).TypeIs (.ref C) "type":=⟨_,hC,rfl⟩
 refine Ny (Q2 ?_);show wpAny _ _ (callAny (.ref C) _) _ _ _
 repeat (any_goals (first | assumption | with_reducible refine Jv hC ?_ | wp_step))
 refine⟨rfl,?_⟩;refine codeAny_call_builtin_at (PX _ (by decide +kernel)) entry_typeCall (wpAny_check_type_call_sub hC ?_);exact oY X hB hA hN hC hrest hi hb hq
end
def Tr (h:Ip) (e:G6) (C:G2) (dd:Option G6) (T:G6) (fl:G2):Prop :=
 ∃ vs sl oT ts,h.get? e=GZ ⟨C,dd,.fields vs,sl⟩/\vs[1]?=GZ (.ref T)/\T≠e/\h.get? T=GZ oT/\oT.data=.fields ts/\ts[3]?=GZ fl
structure Kp (fs ch:List G6) (h h':Ip):Prop where
 keep:∀ b o,b∉ch->b∉fs->h.get? b=GZ o->h'.get? b=GZ o
 slot:∀ b o,b∉ch->h.get? b=GZ o->∃ sl,h'.get? b=GZ { o with slots:=sl }
theorem Kp.trans {fs ch:List G6} {h h' h'':Ip} (a:Kp fs ch h h') (b:Kp fs ch h' h''):Kp fs ch h h'' :=
 ⟨λc o hc hf e=>b.keep c o hc hf (a.keep c o hc hf e),λc o hc e=>by
  obtain⟨sl,e1⟩:=a.slot c o hc e;obtain⟨sl',e2⟩:=b.slot c _ hc e1;exact⟨sl',e2⟩⟩
theorem Kp.mono {fs ch ch':List G6} {h h':Ip} (a:Kp fs ch h h') (hs:∀ b∈ch,b∈ch'):Kp fs ch' h h' :=
 ⟨λc o hc hf e=>a.keep c o (λz=>hc (hs c z)) hf e,λc o hc e=>a.slot c o (λz=>hc (hs c z)) e⟩
section
variable {M:P6} {A:HX} {E:G2->G5->Prop} {s:G5} {base:Ip} {env:MA} {outer:List MA} {L e T:G6} {C:G2} {dd:Option G6} {fl:G2}
theorem qV {vs:Array G2} {sl:Array (Option G2)} {head:G2} {hadNext:Bool} {Q:Unit->G5->Prop} (hfr:A.frames=GZ (env::outer)) (hl:s.heap.FunFrames base (env::outer)) (hf:env.frame=GZ L)
  (he:s.heap.get? e=GZ ⟨C,dd,.fields vs,sl⟩) (hsz:1<vs.size)
  (h:∀ h' T,Tr h' e C dd T (rawInt L)->s.heap.objs.size<=T->Kp (fS (env::outer)) [e] s.heap h'->Q () { s with heap:=h' }) :
  wpAny M A (do let a <- frameOf env;let pl <- entryPlaceOf L hadNext;let b <- EntryCells.newEntry head a .none (rawInt L) .none pl;setField (.ref e) 1 b) Q E s:=by
 have hne:e∉fS (env::outer):=λhm=>by obtain⟨_,o,ho,hnf⟩:=hl.mem hm;rw [he] at ho;cases ho;exact hnf vs rfl
 refine G3 (wpAny_frameOf_fun hfr hl hf λh1 so=>?_);refine G3 (wpAny_entryPlaceOf λpl hpl=>?_);unfold EntryCells.newEntry newFields;refine G3 (Ju ?_ (hpl.sizeOk5 _ _ _ _ _));have e1:h1.get? e=GZ ⟨C,dd,.fields vs,sl⟩:=(so.2.1 e hne).trans he;generalize hO:({ cls:=.type "traceback",dict:=none,data:=.fields ([head,.ref L,.none,rawInt L,.none]++(if pl.isEmpty then KP 6 J3 else pl)).toArray }:Kl)=oT;have hTd:oT.data=.fields ([head,.ref L,.none,rawInt L,.none]++(if pl.isEmpty then KP 6 J3 else pl)).toArray:=by rw [<- hO]
 have hTf:oT.isFreed=false:=by rw [<- hO];rfl
 have e2:(h1.push oT).get? e=GZ ⟨C,dd,.fields vs,sl⟩:=G7 oT e1;refine Lf e2 rfl hsz (h _ h1.objs.size ?_ ?_ ?_)
 ·have ne:h1.objs.size≠e:=K0 (Hn e1);refine⟨vs.setIfInBounds 1 (.ref h1.objs.size),sl,oT,_,IP _ e2 rfl,by simp [hsz],ne,?_,hTd,by simp⟩;rw [Ih _ _ (IJ ne)];exact Hs h1 hTf
 ·exact Mi (Eq.symm so.1)
 ·refine⟨λb o hb hf' q=>?_,λb o hb q=>?_⟩
  ·have hb':b≠e:=λz=>hb (by simp [z]);rw [Ih _ _ (IJ hb')];exact G7 oT ((so.2.1 b hf').trans q)
  ·have hb':b≠e:=λz=>hb (by simp [z]);obtain⟨sl',q'⟩:=so.2.2 b o q;refine⟨sl',?_⟩;rw [Ih _ _ (IJ hb')];exact G7 oT q'
theorem tO {vs:Array G2} {sl:Array (Option G2)} {Q:Unit->G5->Prop} (hfr:A.frames=GZ (env::outer)) (hl:s.heap.FunFrames base (env::outer)) (hf:env.frame=GZ L)
  (he:s.heap.get? e=GZ ⟨C,dd,.fields vs,sl⟩) (h1:vs[1]?=GZ .none)
  (h:∀ h' T,Tr h' e C dd T (rawInt L)->s.heap.objs.size<=T->Kp (fS (env::outer)) [e] s.heap h'->Q () { s with heap:=h' }):wpAny M A (noteFrame (.ref e) env) Q E s:=by
 unfold noteFrame;simp only [hf];refine G3 (Jp he rfl h1 ?_);rw [if_neg (by decide)];exact qV hfr hl hf he (KQ.mp h1).1 h
theorem nQ {Q:Unit->G5->Prop} (hfr:A.frames=GZ (env::outer)) (hl:s.heap.FunFrames base (env::outer)) (hf:env.frame=GZ L) (ht:Tr s.heap e C dd T .none)
  (h:∀ h' T',Tr h' e C dd T' (rawInt L)->s.heap.objs.size<=T'->Kp (fS (env::outer)) [e,T] s.heap h'->Q () { s with heap:=h' }):wpAny M A (noteFrame (.ref e) env) Q E s:=by
 obtain⟨vs,sl,oT,ts,he,h1,hTe,hT,hdT,h3⟩:=ht;unfold noteFrame;simp only [hf];refine G3 (Jp he rfl h1 ?_);rw [if_pos (show (HR T != J3)=true from by simp)];refine G3 (Jp hT hdT h3 ?_);rw [if_neg (show ¬((J3==rawInt L)=true) from by simp [rawInt])];refine G3 (Lf hT hdT (KQ.mp h3).1 ?_);generalize hu:s.heap.update T (JJ (·.setIfInBounds 3 J3))=h1';have oth:∀ b,b≠T->h1'.get? b=s.heap.get? b:=λb hb=>by rw [<- hu];exact Ih _ _ (IJ hb)
 have hT1:∃ o,h1'.get? T=GZ o:=⟨_,by rw [<- hu];exact IP _ hT (MB (Ln hdT _))⟩
 have hl1:h1'.FunFrames base (env::outer):=hl.of_keeps λb o hb hnf=>⟨o,(oth b λq=>by rw [q,hT] at hb;cases hb;exact hnf ts hdT).trans hb,rfl⟩
 refine qV (s:={ s with heap:=h1' }) hfr hl1 hf ((oth e (IJ hTe)).trans he) (KQ.mp h1).1 λh' T' t' n' k'=>h h' T' t' ?_ ?_
 ·have z:h1'.objs.size=s.heap.objs.size:=by rw [<- hu];exact ML ..
  rw [<- z];exact n'
 ·refine⟨λb o hb hf' q=>k'.keep b o (λz=>hb (by simp at z;simp [z])) hf' ((oth b λz=>hb (by simp [z])).trans q),λb o hb q=>k'.slot b o (λz=>hb (by simp at z;simp [z])) ((oth b λz=>hb (by simp [z])).trans q)⟩
theorem land {Q:Unit->G5->Prop} {fs:List G6} (ht:Tr s.heap e C dd T fl) (h:∀ h',Tr h' e C dd T .none->Kp fs [T] s.heap h'->Q () { s with heap:=h' }):wpAny M A (setFlight (.ref e) none) Q E s:=by
 obtain⟨vs,sl,oT,ts,he,h1,hTe,hT,hdT,h3⟩:=ht;unfold setFlight;refine G3 (Jp he rfl h1 ?_);rw [if_pos (show (HR T != J3)=true from by simp)];have hsz:=(KQ.mp h3).1;refine Lf hT hdT hsz (h _ ?_ ?_)
 ·refine⟨vs,sl,_,_,(Ih _ _ hTe).trans he,h1,hTe,IP _ hT (MB (Ln hdT _)),Ln hdT _,by simp [hsz]⟩
 ·refine⟨λb o hb _ q=>(Ih _ _ λz=>hb (by simp [z])).trans q,λb o hb q=>⟨o.slots,(Ih _ _ λz=>hb (by simp [z])).trans q⟩⟩
theorem rf {vs:Array G2} {sl:Array (Option G2)} {Q:Unit->G5->Prop} (hfr:A.frames=GZ (env::outer)) (hl:s.heap.FunFrames base (env::outer)) (hf:env.frame=GZ L)
  (he:s.heap.get? e=GZ ⟨C,dd,.fields vs,sl⟩) (h1:vs[1]?=GZ .none)
  (h:∀ h' T,Tr h' e C dd T .none->s.heap.objs.size<=T->Kp (fS (env::outer)) [e] s.heap h'->Q () { s with heap:=h' }):wpAny M A (leaving env (.ref e)) Q E s:=by
 unfold leaving;refine G3 (tO hfr hl hf he h1 λh1' T t1 n1 k1=>?_);refine land (fs:=fS (env::outer)) t1 λh2 t2 k2=>h h2 T t2 n1 ⟨λb o hb hf' q=>?_,λb o hb q=>?_⟩
 ·exact k2.keep b o (λz=>by simp at z;rw [z] at q;exact absurd (Hn q) (L4.mpr n1)) hf' (k1.keep b o hb hf' q)
 ·obtain⟨s1,q1⟩:=k1.slot b o hb q;obtain⟨s2,q2⟩:=k2.slot b _ (λz=>by simp at z;rw [z] at q;exact absurd (Hn q) (L4.mpr n1)) q1;exact⟨s2,q2⟩
theorem tJ {Q:Unit->G5->Prop} (hfr:A.frames=GZ (env::outer)) (hl:s.heap.FunFrames base (env::outer)) (hf:env.frame=GZ L) (ht:Tr s.heap e C dd T .none)
  (h:∀ h' T',Tr h' e C dd T' .none->s.heap.objs.size<=T'->Kp (fS (env::outer)) [e,T] s.heap h'->Q () { s with heap:=h' }):wpAny M A (leaving env (.ref e)) Q E s:=by
 unfold leaving;refine G3 (nQ hfr hl hf ht λh1' T' t1 n1 k1=>?_);refine land (fs:=fS (env::outer)) t1 λh2 t2 k2=>h h2 T' t2 n1 ⟨λb o hb hf' q=>?_,λb o hb q=>?_⟩
 ·exact k2.keep b o (λz=>by simp at z;rw [z] at q;exact absurd (Hn q) (L4.mpr n1)) hf' (k1.keep b o hb hf' q)
 ·obtain⟨s1,q1⟩:=k1.slot b o hb q;obtain⟨s2,q2⟩:=k2.slot b _ (λz=>by simp at z;rw [z] at q;exact absurd (Hn q) (L4.mpr n1)) q1;exact⟨s2,q2⟩
end
noncomputable def XO (x C:G6) (dd:Option G6):HO:=.ext λh=>∃ vs sl,h.get? x=GZ ⟨.ref C,dd,.fields vs,sl⟩
noncomputable def XN (x C:G6) (dd:Option G6):HO:=.ext λh=>∃ t sl,h.get? x=GZ ⟨.ref C,dd,.fields #[.ref t,.none,.none,.none,.bool false,.none],sl⟩
section
variable {P:Hq} {w:HU} {H H':Hp} {h h':Ip} {x C:G6} {dd:Option G6}
theorem XO.ok {vs:Array G2} {sl:Array (Option G2)} (e:h.get? x=GZ ⟨.ref C,dd,.fields vs,sl⟩):br P w H h x (XO x C dd) :=
 ⟨⟨vs,sl,e⟩,⟨_,e⟩,λ_ _ ⟨vs,sl,q⟩ k=>⟨vs,sl,k _ q⟩⟩
theorem XN.ok {t:G6} {sl:Array (Option G2)} (e:h.get? x=GZ ⟨.ref C,dd,.fields #[.ref t,.none,.none,.none,.bool false,.none],sl⟩):br P w H h x (XN x C dd) :=
 ⟨⟨t,sl,e⟩,⟨_,e⟩,λ_ _ ⟨vs,sl,q⟩ k=>⟨vs,sl,k _ q⟩⟩
theorem XN.get (hok:fJ P w H h) (e:H x=GZ (XN x C dd)):∃ t sl,h.get? x=GZ ⟨.ref C,dd,.fields #[.ref t,.none,.none,.none,.bool false,.none],sl⟩:=by
 obtain⟨q,_⟩:=(show br P w H h x (XN x C dd) from hok x _ e)
 exact q
theorem XO.get (hok:fJ P w H h) (e:H x=GZ (XO x C dd)):∃ vs sl,h.get? x=GZ ⟨.ref C,dd,.fields vs,sl⟩:=by
 obtain⟨q,_⟩:=(show br P w H h x (XO x C dd) from hok x _ e)
 exact q
end
def d7 (P:Hq) (w:HU):kB:=λouter H s E e s'=>∃(x C T:G6) (dd:Option G6) (H':Hp),e=.ref x/\s'.os=s.os/\Ng s'.gens/\Un (fS outer) [] H H' s.heap s'.heap/\fJ P w H' s'.heap /\
 Tr s'.heap x (.ref C) dd T .none/\s.heap.get? x=none/\s.heap.get? T=none/\H' T=none/\H' x=GZ (XO x C dd)/\E (.ref C) (GZ x) H'
theorem pe {base h h':Ip} {H H':Hp} {ex:List G6}:∀{l:List MA} {fs:List G6},h.FunFrames base l->Un fs ex H H' h h'->(∀ b∈fS l,H b=none)->(∀ b∈fS l,b∉ex)->h'.FunFrames base l
 | [],_,_,_,_,_=>trivial
 | env::r,fs,hl,u,hn,hx=>by
  obtain⟨hk,⟨L,o,hf,hb,ho,hd⟩,hr⟩:=hl;have hL:L∈fS (env::r):=by unfold fS;rw [Kc,hf];exact Hi
  have sub:∀ b∈fS r,b∈fS (env::r):=λb hb'=>by unfold fS;rw [Kc,hf];exact Ha _ hb'
  obtain⟨sl,e⟩:=u.any ho (hn L hL) (hx L hL);exact⟨hk,⟨L,_,hf,hb,e,hd⟩,pe hr u (λb hb'=>hn b (sub b hb')) λb hb'=>hx b (sub b hb')⟩
theorem oZ {P:Hq} {w:HU} {H':Hp} {h h':Ip} {x C:G6} {dd:Option G6} {fs ch:List G6} (hok:fJ P w H' h) (k:Kp fs ch h h') (hch:∀ b∈ch,b=x∨H' b=none) (hfs:∀ b∈fs,H' b=none)
  (hx:H' x=GZ (XO x C dd)) {vs:Array G2} {sl:Array (Option G2)} (e:h'.get? x=GZ ⟨.ref C,dd,.fields vs,sl⟩):fJ P w H' h':=by
 intro b o q;by_cases hb:b=x
 ·subst hb;rw [hx] at q;cases q;exact XO.ok e
 ·refine (hok b o q).gK (λc u hc r=>k.keep c u (λz=>?_) (λz=>?_) r) (λ_ r=>r) λ_ _ r=>r
  ·rcases hch c z with q1 | q1
   ·rcases hc with q2 | q2
    ·exact hb (q2.symm.trans q1)
    ·rw [q1,hx] at q2;cases q2
   ·rcases hc with q2 | q2
    ·rw [q2,q] at q1;cases q1
    ·rw [q2] at q1;cases q1
  ·have q1:=hfs c z;rcases hc with q2 | q2
   ·rw [q2,q] at q1;cases q1
   ·rw [q2] at q1;cases q1
theorem lX {P:Hq} {w:HU} {K:G1} {mg:HA->Option G2} {base:Ip} {N:List HA} {qual:HA} {scope:Kf} {f:G6} {cd:G2} {A:HX} {outer:List MA} {s:G5} {H:Hp} {E:XK} :
  Passes (d7 P w) (eR (d7 P w) P w K mg base N qual scope f cd A outer s H E) E:=by
 intro pins σ H1 s1 e s' I hq;obtain⟨x,C,T,dd,H',rfl,os,bare,un,hok,tr,nx,nT,hT,hx,hE⟩:=hq;have hl:=pe I.stack un I.fG (λb _=>by simp);have frN:∀ b∈fS (envOfC qual scope s.heap.objs.size f cd::outer),H' b=none:=λb hb=>by obtain⟨_,o,ho,_⟩:=I.stack.mem hb;exact un.free b o ho (I.fG b hb) (by simp)
 show wpAny (model P w) (A.deeper (envOfC qual scope s.heap.objs.size f cd)) (leaving (envOfC qual scope s.heap.objs.size f cd) (.ref x)) _ _ s';refine tJ (L:=s.heap.objs.size) I.ok.frames hl rfl tr λh'' T' t' n' k'=>?_;have old:∀ b o,s.heap.get? b=GZ o->b∉[x,T]:=λb o q hb=>by
  obtain⟨o1,q1⟩:=I.base.there b o q (by intro z;exact absurd (show b∈([]:List G6) from z) (by simp));rcases Hw.mp hb with z | z
  ·rw [z,nx] at q1;cases q1
  ·rw [Ho.mp z,nT] at q1;cases q1
 have nex:∀ b:G6,b∉(eR (d7 P w) P w K mg base N qual scope f cd A outer s H E).ex:=λb z=>absurd (show b∈([]:List G6) from z) (by simp);have nfr:∀ b o,s.heap.get? b=GZ o->b∉fS outer->b∉fS (envOfC qual scope s.heap.objs.size f cd::outer):=λb o q hb hm=>by
  rcases Hw.mp (I.gL b hm) with z | z
  ·exact absurd (Hn q) (by rw [z];exact Jt _)
  ·exact hb z
 obtain⟨vs,sl,oT,ts,he,r'⟩:=t';have tr':Tr h'' x (.ref C) dd T' .none:=⟨vs,sl,oT,ts,he,r'⟩
 refine⟨x,C,T',dd,H',rfl,os.trans I.os,bare,?_,?_,tr',?_,?_,hok.fresh n',hx,hE⟩
 ·refine⟨λb o q nn hb _=>?_,λb o q nn hb _=>?_,λb o q nn _=>?_,λb o q _=>?_,λb xs q=>un.tups b xs (I.base.tups b xs q),λb o xs q=>un.frzs b o xs (I.base.frzs b o xs q),λb ps q=>?_⟩
  ·have q1:=I.base.keep b o q nn hb (nex b);have q2:=un.keep b o q1 (I.base.free b o q nn (nex b)) (nfr b o q hb) (by simp);exact k'.keep b o (old b o q) (nfr b o q hb) q2
  ·obtain⟨s1',q1⟩:=I.base.slot b o q nn hb (nex b);obtain⟨s2',q2⟩:=un.any q1 (I.base.free b o q nn (nex b)) (by simp);obtain⟨s3',q3⟩:=k'.slot b _ (old b o q) q2;exact⟨s3',q3⟩
  ·obtain⟨o1,q1⟩:=I.base.there b o q (nex b);exact un.free b o1 q1 (I.base.free b o q nn (nex b)) (by simp)
  ·obtain⟨o1,q1⟩:=I.base.there b o q (nex b);obtain⟨o2,q2⟩:=un.there b o1 q1 (by simp);obtain⟨s3',q3⟩:=k'.slot b _ (old b o q) q2;exact⟨_,q3⟩
  ·obtain⟨m1,e1⟩:=I.base.tbls b ps q;obtain⟨m2,e2⟩:=un.tbls b _ e1;exact⟨m1++m2,by rw [e2,Nu]⟩
 ·exact oZ hok k' (λb hb=>by
   rcases Hw.mp hb with z | z
   ·exact .inl z
   ·exact .inr (by rw [Ho.mp z];exact hT)) frN hx he
 ·cases q:s.heap.get? x with
  | none=>rfl
  | some o=>exact absurd (Hi) (old x o q)
 ·cases q:s.heap.get? T' with
  | none=>rfl
  | some o =>obtain⟨o1,q1⟩:=I.base.there T' o q (nex T');obtain⟨o2,q2⟩:=un.there T' o1 q1 (by simp);exact absurd (Hn q2) (L4.mpr n')
section
variable {prog:Hq} {w:HU} {A:HX} {E:G2->G5->Prop} {s:G5} {K:G1} {env:MA}
theorem mQ {x:Pj G2} {Q:Flow->G5->Prop} (hh:A.handled=none)
  (h:wpAny (model prog w) A x (λv s₁=>∃ e C t dd sl,v=.ref e/\K.In s₁.heap/\cG K C/\s₁.heap.get? e=GZ ⟨.ref C,dd,.fields #[.ref t,.none,.none,.none,.bool false,.none],sl⟩/\E (.ref e) s₁) E s) :
  wpAny (model prog w) A (raiseStmt env (GZ x) none) Q E s:=by
 unfold raiseStmt;refine G3 (IK h (λv s₁ h₁=>?_) λ_ _ z=>z);obtain⟨e,C,t,dd,sl,rfl,X,c,he,hE⟩:=h₁;obtain⟨hp,g,d,tk,os⟩:=s₁;have L1:SN (model prog w) hp (isSubtype (.ref C) (.type "BaseException")) true:=by obtain⟨cd,hc,hm,_⟩:=c.cls;obtain⟨m1,m2,m3⟩:=kN hm;exact MU X (by unfold mroIn;rw [hc,MK,if_neg (by rw [m3];decide),m2])
 obtain⟨od,cd,sc,hk⟩:=c.at_;have hC:=X _ _ hk
 repeat (first | with_reducible refine Jv he ?_ | with_reducible refine Jv hC ?_ | with_reducible refine Looks.at L1 ?_ | wp_step)
 exact Pt hh hE
end
def zS (K:G1) (H₀:Hp) (E:XK) (te:TE):TS:=λ_ σ H=>te σ H λv H1=>∃ x C dd,v=.ref x/\H1 x=GZ (XN x C dd)/\cG K C/\H₀ x=none/\E (.ref C) (GZ x) (upd H1 x (XO x C dd))
section
variable {P:Hq} {w:HU} {K:G1} {mg:HA->Option G2} {base:Ip} {N:List HA} {qual:HA} {scope:Kf} {f:G6} {cd:G2} {A:HX} {outer:List MA} {s:G5} {H:Hp} {E:XK}
theorem wI {pins:List (G6 × Kl)} {σ:St} {H2:Hp} {s2:G5} {x C:G6} {dd:Option G6} (I:Inv (eR (d7 P w) P w K mg base N qual scope f cd A outer s H E) pins σ H2 s2) (hx:H2 x=GZ (XN x C dd)) (hn:H x=none)
  (hE:E (.ref C) (GZ x) (upd H2 x (XO x C dd))):(eR (d7 P w) P w K mg base N qual scope f cd A outer s H E).xe (.ref x) s2:=by
 obtain⟨t,sl,he⟩:=XN.get I.hok hx;have nex:∀ b:G6,b∉(eR (d7 P w) P w K mg base N qual scope f cd A outer s H E).ex:=λb z=>absurd (show b∈([]:List G6) from z) (by simp);have nx:s.heap.get? x=none:=by
  cases q:s.heap.get? x with
  | none=>rfl
  | some o =>have:=I.base.free x o q hn (nex x);rw [hx] at this;cases this
 have old:∀ b o,s.heap.get? b=GZ o->b≠x:=λb o q z=>by rw [z,nx] at q;cases q
 have nfr:∀ b o,s.heap.get? b=GZ o->b∉fS outer->b∉fS (envOfC qual scope s.heap.objs.size f cd::outer):=λb o q hb hm=>by
  rcases Hw.mp (I.gL b hm) with z | z
  ·exact absurd (Hn q) (by rw [z];exact Jt _)
  ·exact hb z
 have hok':fJ P w (upd H2 x (XO x C dd)) s2.heap:=λb o q=>by
  by_cases hb:b=x
  ·subst hb;rw [ag] at q;cases q;exact XO.ok he
  ·rw [ao hb] at q;refine (I.hok b o q).gK (λ_ _ _ r=>r) (λc r=>?_) λc xs r=>?_
   ·rw [ao (λz=>by rw [z,hx] at r;cases r)];exact r
   ·rw [ao (λz=>by rw [z,hx] at r;cases r)];exact r
 show wpAny (model P w) (A.deeper (envOfC qual scope s.heap.objs.size f cd)) (leaving (envOfC qual scope s.heap.objs.size f cd) (.ref x)) _ _ s2;refine rf (L:=s.heap.objs.size) I.ok.frames I.stack rfl he rfl λh'' T t' n' k'=>?_;obtain⟨vs,sl',oT,ts,he',r'⟩:=t';have tr':Tr h'' x (.ref C) dd T .none:=⟨vs,sl',oT,ts,he',r'⟩
 have nT:T≠x:=r'.2.1;refine⟨x,C,T,dd,upd H2 x (XO x C dd),rfl,I.os,I.bare,?_,?_,tr',nx,?_,?_,ag,hE⟩
 ·refine⟨λb o q nn hb _=>?_,λb o q nn hb _=>?_,λb o q nn _=>?_,λb o q _=>?_,λb xs q=>?_,λb o xs q=>?_,λb ps q=>?_⟩
  ·exact k'.keep b o (by simp [old b o q]) (nfr b o q hb) (I.base.keep b o q nn hb (nex b))
  ·obtain⟨s1',q1⟩:=I.base.slot b o q nn hb (nex b);obtain⟨s3',q3⟩:=k'.slot b _ (by simp [old b o q]) q1;exact⟨s3',q3⟩
  ·rw [ao (old b o q)];exact I.base.free b o q nn (nex b)
  ·obtain⟨o1,q1⟩:=I.base.there b o q (nex b);obtain⟨s3',q3⟩:=k'.slot b _ (by simp [old b o q]) q1;exact⟨_,q3⟩
  ·have:=I.base.tups b xs q;rw [ao (λz=>by rw [z,hx] at this;cases this)];exact this
  ·have:=I.base.frzs b o xs q;rw [ao (λz=>by rw [z,hx] at this;cases this)];exact this
  ·obtain⟨m1,e1⟩:=I.base.tbls b ps q;exact⟨m1,by rw [ao (λz=>by rw [z,hx] at e1;cases e1)];exact e1⟩
 ·exact oZ hok' k' (λb hb=>.inl (by simpa using hb)) (λb hb=>by
   have z:=I.fG b hb;rw [ao (λy=>by rw [y,hx] at z;cases z)];exact z) ag he'
 ·cases q:s.heap.get? T with
  | none=>rfl
  | some o =>obtain⟨o1,q1⟩:=I.base.there T o q (nex T);exact absurd (Hn q1) (L4.mpr n')
 ·rw [ao nT];exact I.hok.fresh n'
theorem dX {e:Ik} {te:TE} {pos:K8} (he:PE (eR (d7 P w) P w K mg base N qual scope f cd A outer s H E) e te):PS (eR (d7 P w) P w K mg base N qual scope f cd A outer s H E) (.Raise (GZ e) none pos) (zS K H E te):=by intro pins s1 σ H1 D I h;rw [arm_exec_Raise];refine G3 (JX (mQ (K:=K) (I.ok.hd rfl) (G3 (a9 (he pins s1 σ H1 _ I h) λv s2 hZ=>?_))));obtain⟨y,H2,I2,r,x,C,dd,ey,hx,c,hn,hE⟩:=hZ;subst ey;obtain rfl:v=HR x:=r;obtain⟨t,sl,hg⟩:=XN.get I2.hok hx;exact G3 (JX (G8 ⟨x,C,t,dd,sl,rfl,I2.eX,c,hg,wI I2 hx hn hE⟩))
end
section
variable {prog:Hq} {w:HU} {A:HX} {E:G2->G5->Prop} {h:Ip} {g:Array OR} {d:Sy} {t:Nat} {os:Sl}
variable {nm q:HA} {C N:G6} {bs bm:List G2} {R':Bool} {sn:List HA} {sub:List G2} {ab:Bool} {col:Option Bool} {dd:Option G6} {k0 k1 k2 k3 k5:Option G2}
theorem vN {R:PQ->G5->Prop} {e a:G6} (hB:bm.contains (.type "ValueError")=true) (hC:h.get? C=GZ (excClassObj nm q C N bs bm R' sn sub ab col dd k0 k1 k2 k3 k5 mV)) (he:h.get? e=GZ (newExc C a))
  (hq:∀ h',h'.get? e=GZ (newExc C h.objs.size)->(∀ b o,b≠e->h.get? b=GZ o->h'.get? b=GZ o)->R (.ok (.ret .none)) ⟨h',g,d,t,os⟩) :
  codeAny (model prog w) A (.call (.builtin "ValueError.__init__") ⟨[.ref e],[]⟩) R ⟨h,g,d,t,os⟩:=by
 have Fn:=J5;have cB:(HR C::bm).contains (.type "ValueError")=true:=by rw [Kn,hB,Nj]
 have hshort:=Fn.noStar;refine MV Fn.init.plain Fn.initEntry ?_;have chk:∀{Q:Unit->G5->Prop} {E:G2->G5->Prop} {A:HX},Q () ⟨h,g,d,t,os⟩->wpAny (model prog w) A (checkBuiltinCall "ValueError.__init__" ⟨[.ref e],[]⟩) Q E ⟨h,g,d,t,os⟩:=by
  intro Q E A hq;simp only [checkBuiltinCall,Fn.initKind,Fn.initSplit,Fn.initRow]
  repeat (first | with_reducible refine Jv he ?_ | with_reducible refine Jv hC ?_ | (with_reducible refine LN hC ?_;rw [cB]) | wp_step)
  exact hq
 refine chk ?_
 wp_walk
 have hp:=G7 (h:=h) { cls:=.type "tuple",data:=.seq ([]:List G2).toArray } he;refine hq _ ?_ λb o hb z=>?_
 ·exact IP _ hp rfl
 ·rw [Ih _ _ (IJ hb)];exact G7 _ z
end
theorem cE.any {P:Hq} {w:HU} {K:G1} {mg:HA->Option G2} {base:Ip} {CX:kB} {k:Nat} {f:G6} {fd:JF} {ps:List HA} {sp:Sp} (F:cE P w K mg base aQ k f fd ps sp):cE P w K mg base CX k f fd ps sp :=
 ⟨F.len,λA outer s H args us vs Q E hr he hb hv hs=>K1 (F.run A outer s H args us vs Q E hr he hb hv hs) λr s' q=>by
  cases r with
  | error e=>exact IU q
  | ok fl =>
   cases fl with
   | ret u=>exact q
   | next=>exact q
   | brk=>exact q
   | cont=>exact q⟩
def E5 (K:G1) (ta tv:TE) (f:HA):TS:=λD σ H=>tv σ H λy H1=>ta σ H1 λxv H2=>∃ x C,xv=.ref x/\H2 x=GZ (XN x C none)/\cG K C/\findIn K (.ref C) f=GZ none /\
 ∀ dx,H2 dx=none->dx≠x->D.nx σ (upd (upd H2 dx (.xd [(f,y)])) x (XN x C (GZ dx)))
section
variable {X:Cx} {o value:Ik} {f:HA} {pos pos':K8} {ta tv:TE}
theorem Bi (ha:PE X o ta) (hv:PE X value tv) (hs:autoParam (swapsWith value (GZ (.Attribute o f pos')) pos.line X.env=pure false) Z0._auto_1):PS X (.Assign [.Attribute o f pos'] value pos) (E5 X.K ta tv f):=by
 intro pins s σ H D I h;refine Mz (a9 (hv pins s σ H _ I h) λu s1 ⟨y,H1,I1,ry,q⟩=>a9 (ha pins s1 σ H1 _ I1 q) λov s2 hZ=>?_) hs;obtain⟨xv,H2,I2,rx,x,C,ex,hx,c,hf,q2⟩:=hZ;subst ex;obtain rfl:ov=HR x:=rx;obtain⟨t,sl,hg⟩:=XN.get I2.hok hx;obtain⟨cd,hc,hm,hh⟩:=c.cls;refine AJ I2.eX hg hc hm hh c.sa hf λh' g1 g2 g3=>?_;have hd0:H2 s2.heap.objs.size=none:=I2.hok.fresh (Hd _);have hne:s2.heap.objs.size≠x:=λz=>by rw [z,hx] at hd0;cases hd0
 have bx:∀ b,H2 b=none->b≠x:=λb z y=>by rw [y,hx] at z;cases z
 have bd:∀ b o,s2.heap.get? b=GZ o->b≠s2.heap.objs.size:=λb o q=>HP (Hn q);have tb:∀ b u,H2 b=GZ u->b≠s2.heap.objs.size:=λb u q z=>by rw [z,hd0] at q;cases q
 refine⟨σ,upd (upd H2 s2.heap.objs.size (.xd [(f,y)])) x (XN x C (GZ s2.heap.objs.size)),I2.un ⟨λb o q n _ _=>g3 b o (bx b n) q,λb o q n _ _=>⟨o.slots,g3 b o (bx b n) q⟩,λb o q n _=>?_,λb o q _=>?_,λb xs q=>?_,λb o xs q=>?_,λb ps q=>?_⟩ ?_,q2 _ hd0 hne⟩
 ·rw [ao (bx b n),ao (bd b o q)];exact n
 ·by_cases z:b=x
  ·exact⟨_,by rw [z];exact g1⟩
  ·exact⟨o,g3 b o z q⟩
 ·rw [ao (λz=>by rw [z,hx] at q;cases q),ao (tb b _ q)];exact q
 ·rw [ao (λz=>by rw [z,hx] at q;cases q),ao (tb b _ q)];exact q
 ·exact⟨#[],by rw [ao (λz=>by rw [z,hx] at q;cases q),ao (tb b _ q),q];simp⟩
 ·intro b o q;by_cases z:b=x
  ·subst z;rw [ag] at q;cases q;exact XN.ok g1
  ·rw [ao z] at q;by_cases z2:b=s2.heap.objs.size
   ·subst z2;rw [ag] at q;cases q;refine⟨_,g2,λk=>?_⟩;show eh (LG k [(f,y)]) (if k=f then GZ u else none);by_cases e:k=f
    ·subst e;rw [if_pos rfl,JL,beq_self_eq_true];exact ry
    ·have e':(k==f)=false:=by simpa using e
     rw [if_neg e,JL,e'];exact True.intro
   ·rw [ao z2] at q;refine (I2.hok b o q).gK (λc' u' hc' r=>g3 c' u' (λz3=>?_) r) (λc' r=>?_) λc' xs r=>?_
    ·rcases hc' with e | e
     ·exact z (e.symm.trans z3)
     ·rw [z3,hx] at e;cases e
    ·rw [ao (λz3=>by rw [z3,hx] at r;cases r),ao (tb c' _ r)];exact r
    ·rw [ao (λz3=>by rw [z3,hx] at r;cases r),ao (tb c' _ r)];exact r
end
structure Ac (K:G1) (C:G6):Prop where
 obj:∃ nm q N bs bm R' sn sub ab col dd k0 k1 k2 k3 k5,K.lookup C=GZ (excClassObj nm q C N bs bm R' sn sub ab col dd k0 k1 k2 k3 k5 mV)/\bm.contains (.type "ValueError")=true/\bm.contains (.type "AttributeError")=false/\bm.contains (.type "NameError")=false
 kp:keepIn K (.ref C)=true
def qg (K:G1) (f:HA):Sp:=λvs H Q _=>∃ x C v,vs=[.ref x,v]/\H x=GZ (XN x C none)/\cG K C/\findIn K (.ref C) f=GZ none /\
 ∀ dx,H dx=none->dx≠x->Q .non (upd (upd H dx (.xd [(f,v)])) x (XN x C (GZ dx)))
def D2 (C:G6) (f:HA) (t:TA):TE:=λσ H Q=>t σ H λvs H1=>∃ v,vs=[v]/\∀ x dx,H1 x=none->H1 dx=none->dx≠x->Q (.ref x) (upd (upd (upd H1 x (XN x C none)) dx (.xd [(f,v)])) x (XN x C (GZ dx)))
def D1 (C:G6):TE:=λ_ H Q=>∀ x,H x=none->Q (.ref x) (upd H x (XN x C none))
section
variable {X:Cx} {C fi:G6} {fd:JF} {p f x:HA} {k:Nat} {pos np:K8} {e:Ik} {t:TA}
theorem Inv.newExc {pins:List (G6 × Kl)} {σ:St} {H:Hp} {s:G5} (I:Inv X pins σ H s) (us:List G2):Inv X pins σ (upd H (s.heap.objs.size+1) (XN (s.heap.objs.size+1) C none))
  { s with heap:=(s.heap.push { cls:=.type "tuple",data:=.seq us.toArray }).push (L2.newExc C s.heap.objs.size) }:=by
 have I1:Inv X pins σ H { s with heap:=s.heap.push { cls:=.type "tuple",data:=.seq us.toArray } }:=I.kept (t':=s.toks) λb u q=>G7 _ q;refine I1.laid (a:=s.heap.objs.size+1) (t':=s.toks) (λb u q=>G7 _ q) (Mi (IM _ _)) ?_;refine XN.ok (t:=s.heap.objs.size) (sl:=#[]) ?_;have:=Hs (s.heap.push { cls:=.type "tuple",data:=.seq us.toArray }) (o:=L2.newExc C s.heap.objs.size) rfl
 rwa [IM] at this
theorem wB (M:Ac X.K C) (c:cG X.K C) (hi:findIn X.K (.ref C) "__init__"=GZ (GZ (.ref fi))) (fn:isFn X.K (.ref fi)=true) (hf:findIn X.K (.ref C) f=GZ none) (F:cE X.prog X.w X.K X.mg X.base aQ k fi fd ["self",p] (qg X.K f)) (hr:bL (k+1) X.A) (hg:Gl X x)
  (hm:X.mg x=GZ (.ref C)) (hb:Binds X.K fd ["self",p] []) (ha:PA X [e] t) (hdb:autoParam ((x==("__debug__":HA))=false) Z1._auto_1) (he:autoParam (starEach [e] X.env=(false,eval e X.env)::starEach [] X.env) Z0._auto_1) (hpl:autoParam ((backTo pos (starEach [] X.env)).any (·.1)=false) Z0._auto_1) :
  PE X (.Call (.Name x np) [e] [] pos) (D2 C f t):=by
 intro pins s σ H Q I h;refine Km (fz I hg hm ?_ hdb);refine Lm (h₀:=X.base) I.ok.mod.kin M.kp (a9 (ha pos pins s σ H _ I h) λus s1 ⟨vs,H1,I1,r,q⟩=>⟨I1.eX,?_⟩) he hpl;obtain⟨v,rfl,q⟩:=q;obtain⟨u,rfl,ru⟩:=vals1 r;obtain⟨nm,qn,Nn,bs,bm,R',sn,sub,ab,col,dd,k0,k1,k2,k3,k5,hk,hB,hA,hN⟩:=M.obj;have I2:=Inv.newExc (C:=C) I1 [u];have n1:H1 (s1.heap.objs.size+1)=none:=I1.hok.fresh (MT _);have r2:Vals [V.ref (s1.heap.objs.size+1),v] [HR (s1.heap.objs.size+1),u]:=.cons rfl (.cons ru .nil);have hq:qg X.K f [V.ref (s1.heap.objs.size+1),v] (upd H1 (s1.heap.objs.size+1) (XN (s1.heap.objs.size+1) C none)) (λz H3=>z=.non/\Q (.ref (s1.heap.objs.size+1)) H3) E0 :=
  ⟨_,C,v,rfl,ag,c,hf,λdx hd hne=>⟨rfl,q _ dx n1 (by rw [ao hne] at hd;exact hd) hne⟩⟩
 obtain⟨hh,g,d,tk,os⟩:=s1;refine qT (K:=X.K) I1.eX hB hA hN (I1.eX _ _ hk) (by show 1<=sizeLine;decide) hi (bind_fn I1.eX _ (beq_iff_eq.mp fn)) ?_;refine K1 (F.run _ X.stack _ _ ⟨[HR (hh.objs.size+1),u],[]⟩ [HR (hh.objs.size+1),u] _ _ E0 (hr.make C [u] []) (I2.AE.make C [u] []) (by have:=hb _ [HR (hh.objs.size+1),u] I2.eX rfl;rwa [Jj] at this) r2 hq) λr s' hq'=>?_;cases r with
 | error e=>exact IU hq'
 | ok fl =>
  cases fl with
  | ret u' =>obtain⟨v',H',I3,rv,ev,q3⟩:=I2.after hq';subst ev;exact⟨rv,⟨V.ref (hh.objs.size+1),H',I3,rfl,q3⟩⟩
  | next=>exact IU hq'
  | brk=>exact IU hq'
  | cont=>exact IU hq'
theorem wA (M:Ac X.K C) (hi:findIn X.K (.ref C) "__init__"=GZ (GZ (.builtin "ValueError.__init__"))) (hg:Gl X x) (hm:X.mg x=GZ (.ref C)) (hdb:autoParam ((x==("__debug__":HA))=false) Z1._auto_1) :
  PE X (.Call (.Name x np) [] [] pos) (D1 C):=by
 intro pins s σ H Q I h;refine Km (fz I hg hm ?_ hdb);refine Po I.eX M.kp ?_;obtain⟨nm,qn,Nn,bs,bm,R',sn,sub,ab,col,dd,k0,k1,k2,k3,k5,hk,hB,hA,hN⟩:=M.obj;have I2:=Inv.newExc (C:=C) I [];have n1:H (s.heap.objs.size+1)=none:=I.hok.fresh (MT _);have Fn:=J5;obtain⟨hh,g,d,tk,os⟩:=s;have hC:=I.eX _ _ hk;refine qT (K:=X.K) I.eX hB hA hN hC (by show 0<=sizeLine;decide) hi (j:=.builtin "ValueError.__init__") (Looks.of_pure (Fn.init.bind _)) ?_;have hC2:((hh.push { cls:=.type "tuple",data:=.seq ([]:List G2).toArray }).push (L2.newExc C hh.objs.size)).get? C=GZ _:=G7 _ (G7 _ hC);have he2:((hh.push { cls:=.type "tuple",data:=.seq ([]:List G2).toArray }).push (L2.newExc C hh.objs.size)).get? (hh.objs.size+1)=GZ (L2.newExc C hh.objs.size):=by
  have:=Hs (hh.push { cls:=.type "tuple",data:=.seq ([]:List G2).toArray }) (o:=L2.newExc C hh.objs.size) rfl
  rwa [IM] at this
 refine vN hB hC2 he2 λh' g1 g3=>⟨rfl,.ref (hh.objs.size+1),_,?_,rfl,h _ n1⟩
 have e:upd (upd H (hh.objs.size+1) (XN (hh.objs.size+1) C none)) (hh.objs.size+1) (XN (hh.objs.size+1) C none)=upd H (hh.objs.size+1) (XN (hh.objs.size+1) C none):=by
  funext b;by_cases z:b=hh.objs.size+1
  ·rw [z,ag,ag]
  ·rw [ao z]
 have W:=I2.write (x:=hh.objs.size+1) (e:=hh.objs.size+1) (o:=XN (hh.objs.size+1) C none) (h':=h') (t':=tk) (by rw [ag];exact True.intro) (.inl rfl) (λb u hb q=>g3 b u hb q) ⟨_,g1⟩ (XN.ok g1);rw [e] at W;exact W
end
def FN (H:Hp) (x C:G6) (dd:Option G6):Prop:=H x=GZ (XO x C dd)∨H x=GZ (XN x C dd)
theorem FN.get {P:Hq} {w:HU} {H:Hp} {h:Ip} {x C:G6} {dd:Option G6} (a:FN H x C dd) (hok:fJ P w H h):∃ vs sl,h.get? x=GZ ⟨.ref C,dd,.fields vs,sl⟩:=by
 rcases a with a | a
 ·exact XO.get hok a
 ·obtain⟨t,sl,e⟩:=XN.get hok a;exact⟨_,sl,e⟩
def Ga (K:G1) (ta:TE) (f:HA):TE:=λσ H Q=>ta σ H λxv H1=>∃ x C dx fs v,xv=.ref x/\FN H1 x C (GZ dx)/\cG K C/\findIn K (.ref C) f=GZ none/\H1 dx=GZ (.xd fs)/\fs.lookup f=GZ v/\Q v H1
section
variable {X:Cx} {e:Ik} {f:HA} {pos:K8} {ta:TE}
theorem BM {P:Hq} {w:HU} {H:Hp} {h:Ip} {dx:G6} {fs:List (HA × V)} (hok:fJ P w H h) (hd:H dx=GZ (.xd fs)):∃(mA:HA->Option G2) (od:Kl),h.get? dx=GZ od/\(∀ name,lookIn name od=GZ (mA name))/\∀ g,eh (fs.lookup g) (mA g):=by
 obtain⟨mA,n,r⟩:=(show br P w H h dx (.xd fs) from hok dx _ hd)
 obtain⟨od,ho,hl⟩:=nM n;exact⟨mA,od,ho,hl,r⟩
theorem Bf (he:PE X e ta) (hb:autoParam (attributeBase e f X.env (eval e X.env)=eval e X.env) Z0._auto_1):PE X (.Attribute e f pos) (Ga X.K ta f):=by
 intro pins s σ H Q I h;refine uC hb (a9 (he pins s σ H _ I h) λu s1 hZ=>?_);obtain⟨xv,H1,I1,rx,x,C,dx,fs,v,ex,ax,c,hf,hd,hl,q⟩:=hZ;subst ex;obtain rfl:u=HR x:=rx;obtain⟨vs,sl,hg⟩:=ax.get I1.hok;obtain⟨mA,od,ho,lk,r⟩:=BM I1.hok hd;obtain⟨cd,hc,hm,hh⟩:=c.cls;obtain⟨u,hu,ru⟩:=eh.some_of (v:=v) (o:=mA f) (by rw [<- hl];exact r f);have J:Mf s1.heap x ⟨.ref C,GZ dx,.fields vs,sl⟩ C (GZ od):=⟨hg,rfl,rfl,ho⟩
 refine AH I1.eX J hc hm c.ga c.gx (QY (by unfold hasDictIn;rw [hc];exact hh) hf rfl (by rw [lk,hu])) (nF ru) ⟨v,H1,I1.tok _,ru,q⟩
end
section
variable {prog:Hq} {w:HU} {A:HX} {E:G2->G5->Prop} {K:G1} {h:Ip} {g:Array OR} {d:Sy} {t:Nat} {os:Sl} {x C B:G6}
theorem cG.base (c:cG K C):mroIn K C (.type "BaseException")=GZ true:=by obtain⟨cd,hc,hm,_⟩:=c.cls;obtain⟨m1,m2,m3⟩:=kN hm;unfold mroIn;rw [hc,MK,if_neg (by rw [m3];decide),m2]
theorem vO {dd:Option G6} {vs:Array G2} {sl:Array (Option G2)} {Q:Bool->G5->Prop} (X:K.In h) (c:cG K C) (b:cG K B) (he:h.get? x=GZ ⟨.ref C,dd,.fields vs,sl⟩) (hs:mroIn K C (.ref B)=GZ true)
  (hq:Q true ⟨h,g,d,t,os⟩):wpAny (model prog w) A (excMatches (.ref x) (.ref B)) Q E ⟨h,g,d,t,os⟩:=by
 have f:=tc_notTuple;have L1:=MU (M:=model prog w) X hs;have L2:=MU (M:=model prog w) X b.base;have L3:=MU (M:=model prog w) X c.base;obtain⟨od,cd,sc,hk⟩:=b.at_;have hB:=X _ _ hk;unfold excMatches
 repeat (first | with_reducible refine Jv he ?_ | with_reducible refine Jv hB ?_ | with_reducible refine Looks.at L1 ?_ | with_reducible refine Looks.at L2 ?_ | with_reducible refine Looks.at L3 ?_ | wp_step)
 exact hq
end
theorem find_erase {α:Type} (p:α->Bool):∀(l:List α) (i:Nat),(∀ e,l[i]?=GZ e->p e=false)->(l.eraseIdx i).find? p=l.find? p
 | [],_,_=>by simp
 | a::r,0,h=>by have:=h a rfl;rw [List.eraseIdx_cons_zero,Mo (by rw [this];decide)]
 | a::r,i+1,h=>by
  have ih:=find_erase p r i (λe q=>h e (by simpa using q));rw [List.eraseIdx_cons_succ];cases q:p a with
  | true=>rw [Ot q,Ot q]
  | false=>rw [Mo (by rw [q];decide),Mo (by rw [q];decide),ih]
theorem yz {es:Array MI} {i:Nat} {name y:HA} (hk:∀ e,es[i]?=GZ e->e.key.isStr name=true) (hy:y≠name):nsFind (es.eraseIdxIfInBounds i) y=nsFind es y:=by
 unfold nsFind findBy;congr 1;rw [<- LY,<- LY];have e:(es.eraseIdxIfInBounds i).toList=es.toList.eraseIdx i:=by
  unfold Array.eraseIdxIfInBounds;split
  ·rw [Array.toList_eraseIdx]
  ·rename_i h;rw [List.eraseIdx_of_length_le (by simpa using h)]
 rw [e];refine find_erase _ _ _ λd q=>?_;have z:=hk d (by simpa using q);cases c:d.key.isStr y with
 | false=>exact c
 | true =>
  cases hkey:d.key with
  | str n t =>
   rw [hkey] at z c;have z1:n=name:=by simpa [QR] using z
   have c1:n=y:=by simpa [QR] using c
   exact absurd (c1.symm.trans z1) hy
  | _=>rw [hkey] at z;simp [QR] at z
section
variable {M:P6} {A:HX} {E:G2->G5->Prop} {s:G5}
theorem tP {a:G6} {m:HA->Option G2} {name:HA} {Q:Bool->G5->Prop} (hn:s.heap.Ns a m)
  (hQ:∀ h' m',h'.Ns a m'->(∀ y,y≠name->m' y=m y)->JK a s.heap h'->Q (m name).isSome { s with heap:=h' }):wpAny M A (nsDel a name) Q E s:=by
 obtain⟨o,es,ep,ho,hd,hk,hm⟩:=id hn;have noRef:es.any (·.refKey)=false:=by rw [Array.any_eq_false'];intro e he;obtain⟨n,t,z⟩:=hk e he;simp [DictEntry.refKey,z]
 have there:(m name).isSome=es.any (·.key.isStr name):=by rw [<- hm name];unfold nsFind findBy;rw [Mp,<- LY,<- Array.any_toList,Lv,List.find?_isSome,N9]
 have has:nsHas name o=pure (es.any (·.key.isStr name)):=by rw [nsHas_eq];unfold nsHasByArray;rw [hd];show (if (es.any λx=>x.key.isStr name)=true then _ else _)=_;generalize (es.any λx=>x.key.isStr name)=b;cases b<;>simp [noRef]
 unfold nsDel;refine G3 (OU ho ?_);rw [has];refine G3 (G8 ?_);rw [<- there];cases c:(m name).isSome with
 | false =>have:=hQ s.heap m hn (λ_ _=>rfl) (.refl ..);rw [c] at this;exact G8 this
 | true =>
  refine G3 (wpAny_updatePart ho (G8 ?_));obtain⟨cl,dd,dt,sl⟩:=o;subst hd;have fin:∃ m',(s.heap.update a (Obj.dropName name)).Ns a m'/\∀ y,y≠name->m' y=m y:=by
   cases q:es.findIdx? (·.key.isStr name) with
   | none=>exact⟨m,⟨_,es,ep,IP _ ho (by simp only [M4,LO,q]<;>rfl),(by simp only [M4,LO,q]<;>rfl),hk,hm⟩,λ_ _=>rfl⟩
   | some i =>refine⟨nsFind (es.eraseIdxIfInBounds i),⟨_,es.eraseIdxIfInBounds i,ep+1,IP _ ho (by simp only [M4,LO,q]<;>rfl),(by simp only [M4,LO,q]<;>rfl),hk.erase i,λ_=>rfl⟩,λy hy=>?_⟩;rw [yz (name:=name) (λe z=>?_) hy,hm y];obtain⟨hi,hp⟩:=Array.findIdx?_eq_some_iff_getElem.mp q;rw [Jf hi] at z;cases z;exact hp.1
  obtain⟨m',n',k'⟩:=fin;have:=hQ _ m' n' k' (KD ..);rw [c] at this;exact this
end
section
variable {X:Cx} {pins:List (G6 × Kl)} {σ:St} {H:Hp} {s:G5} {M:P6} {A:HX} {E:G2->G5->Prop}
theorem Inv.BI {i:Nat} {n:HA} {h':Ip} {m m':HA->Option G2} {tk:Nat} (I:Inv X pins σ H s) (hN:X.N.Nodup) (hi:X.N[i]?=GZ n) (hm:s.heap.Ns X.env.locals m) (hl:∀(j:Nat) (x:HA) (v:V),X.N[j]?=GZ x->σ[j]?=GZ (GZ v)->CV X.env.scope x->∃ u,RelV v u/\Look X.env s.heap m x u)
  (hn:h'.Ns X.env.locals m') (hk:∀ y,y≠n->m' y=m y) (hs:JK X.env.locals s.heap h'):Inv X pins (σ.set i none) H { s with heap:=h',toks:=tk }:=by
 have xw:=I.xw;obtain⟨oL,_,_,hoL,_⟩:=id hm;have lt:∀ b o,X.s₀.heap.get? b=GZ o->b≠X.env.locals:=λb o e=>HP (Hr (Hn e) I.ok.above);refine⟨I.ok,I.os,I.bare,⟨λb o e n hb hx=>?_,λb o e n hb hx=>?_,I.base.free,λb o e hx=>?_,I.base.tups,I.base.frzs,I.base.tbls⟩,⟨_,hn,λj y v' e1 e2 e3=>?_⟩,λy c e=>?_,I.free,I.freeC,λp hp=>?_,?_,by simpa using I.len⟩
 ·exact (hs.2 b (lt b o e)).trans (I.base.keep b o e n hb hx)
 ·obtain⟨sl,e1⟩:=I.base.slot b o e n hb hx;exact⟨sl,(hs.2 b (lt b o e)).trans e1⟩
 ·obtain⟨o',e1⟩:=I.base.there b o e hx;exact⟨o',(hs.2 b (lt b o e)).trans e1⟩
 ·by_cases hj:j=i
  ·subst hj;have hlt:j<σ.length:=by rw [I.len];exact (G9.mp hi).1
   rw [Lk hlt] at e2;cases e2
  ·rw [MS (IJ hj)] at e2;obtain⟨u',r',q⟩:=hl j y v' e1 e2 e3;refine⟨u',r',?_⟩;rcases q with⟨k,e⟩|⟨k,c,e,z⟩
   ·have:y≠n:=λe=>hj (lR hN e1 (e▸hi));exact .inl ⟨k,by rw [hk y this];exact e⟩
   ·exact .inr ⟨k,c,e,z.sameBut hs (xw y c e)⟩
 ·obtain⟨w',z⟩:=I.cell y c e;exact⟨w',z.sameBut hs (xw y c e)⟩
 ·obtain⟨e,n,ne,nf,d⟩:=I.pin p hp;exact⟨(hs.2 p.1 ne).trans e,n,ne,nf,d⟩
 ·intro b ob e;refine (I.hok b ob e).gK (λc w' hc q=>(hs.2 c ?_).trans q) (λ_ q=>q) λ_ _ q=>q;rintro rfl;have hf:=I.free;rcases hc with rfl | hc
  ·rw [hf] at e;cases e
  ·rw [hf] at hc;cases hc
theorem name_goes {i:Nat} {n:HA} {pos:K8} {Q:Unit->G5->Prop} (I:Inv X pins σ H s) (hN:X.N.Nodup) (hi:X.N[i]?=GZ n) (hl:X.env.scope.names.lookup n=GZ .local)
  (h:∀ s',Inv X pins (σ.set i none) H s'->Q () s'):wpAny M A (do bindName X.env n .none;unbindBehindTheSuite X.env n pos) Q E s:=by
 have hp:(X.env.scope.kind==.class || (X.env.scope.kind==.module && X.env.locals != X.env.globals))=false:=by rw [I.ok.kind];rfl
 have hk:X.env.kindOf n=GZ .local:=hl;refine G3 (LD (bS (v:=.non) (u:=.none) I hN hi (.inl hl) rfl (λs1 I1=>?_) (.inr hl)));have hlt:i<σ.length:=by rw [I.len];exact (G9.mp hi).1
 obtain⟨m,hm,hlook⟩:=id I1.loc;have some_n:(m n).isSome=true:=by
  obtain⟨u,_,q⟩:=hlook i n .non hi (Lk hlt) (.inl hl);rcases q with⟨_,e⟩|⟨k,_⟩
  ·rw [e];rfl
  ·rw [hk] at k;rcases k with k | k<;>cases k
 unfold unbindBehindTheSuite;refine N3 ?_;unfold unbindName;refine G3 (wpAny_point (G3 ?_));unfold deleteName;simp only [hk,hp];rw [if_neg (by decide)];refine G3 (tP hm λh' m' n' k' s'=>?_);rw [some_n];simp only [Bool.not_true,Jm,if_false];refine G8 (wpAny_point (h _ ?_));have J:=Inv.BI (tk:=s1.toks) I1 hN hi hm hlook n' k' s';rw [List.set_set] at J;exact J
end
noncomputable def Dd (X:Cx) (x:G6):Cx:={ X with A:=X.A.mark (GZ (.ref x)),calm:=false,xe:=λ_ _=>False }
section
variable {X:Cx} {pins:List (G6 × Kl)} {σ:St} {H:Hp} {s:G5} {x:G6}
theorem Inv.GO (I:Inv X pins σ H s) (x:G6):Inv (Dd X x) pins σ H s :=
 ⟨⟨I.ok.mod,I.ok.kind,I.ok.glob,I.ok.blt,I.ok.above,I.ok.inj,I.ok.has,I.ok.cab,λz=>absurd (show false=true from z) (by decide),I.ok.frames,I.ok.stk,I.ok.exf,I.ok.bs,I.ok.bsz,I.ok.noex,I.ok.exfs,I.ok.jN,I.ok.frf⟩,I.os,I.bare,I.base,I.loc,I.cell,I.free,I.freeC,I.pin,I.hok,I.len⟩
theorem Inv.A8 (ok:X.Ok) (I:Inv (Dd X x) pins σ H s):Inv X pins σ H s:=⟨ok,I.os,I.bare,I.base,I.loc,I.cell,I.free,I.freeC,I.pin,I.hok,I.len⟩
theorem C2 {fn:G6} {fd:JF} {ps:List HA} {sp:Sp} {k:Nat} {E:XK} {f:HA} {e:Ik} {es:List Ik} {t:TA} {p pos:K8} {Q:VK} (F:cE X.prog X.w X.K X.mg X.base (d7 X.prog X.w) k fn fd ps sp) (hr:bL k X.A) (hg:Gl X f) (hm:X.mg f=GZ (.ref fn)) (hk:Kt X.K (.ref fn)=true) (hb:Binds X.K fd ps [])
  (ha:PA X.kh (e::es) t) (I:Inv X pins σ H s) (h:t σ H λvs H1=>sp vs H1 Q E) (hdb:autoParam ((f==("__debug__":HA))=false) Z1._auto_1) (he:autoParam (starEach (e::es) X.env=(false,eval e X.env)::starEach es X.env) Z0._auto_1) (hpl:autoParam ((backTo pos (starEach es X.env)).any (·.1)=false) Z0._auto_1) :
  wpAny (model X.prog X.w) X.A (eval (.Call (.Name f p) (e::es) [] pos) X.env) (EP X pins σ Q) (λev s'=>∃ H1 s1,Inv X pins σ H1 s1/\d7 X.prog X.w X.stack H1 s1 E ev s') s:=by
 refine Km (fz I hg hm ?_ hdb);refine Lm (h₀:=X.base) I.ok.mod.kin hk (IK (ha pos pins s σ H _ (I.jz _) h) (λus s1 ⟨vs,H1,J1,r,q⟩=>?_) λ_ _ z=>IU z) he hpl;have I1:Inv X pins σ H1 s1:=J1.dH;refine⟨I1.eX,?_⟩;have hl:(us++[]).length=ps.length:=by rw [Jj,<- r.length];exact F.len _ _ _ _ q
 have bt:=hb s1 us I1.eX hl;rw [Jj] at bt;refine Ny (K1 (F.run X.A X.stack s1 H1 ⟨us,[]⟩ us vs Q E hr I1.AE bt r q) λr' s' hq=>?_);cases r' with
 | error e=>exact⟨H1,s1,I1,hq⟩
 | ok fl =>
  cases fl with
  | ret u=>exact I1.after hq
  | next=>exact IU hq
  | brk=>exact IU hq
  | cont=>exact IU hq
theorem landed {E:XK} {ev:G2} {s' s1:G5} {H1:Hp} {Q:Unit->G5->Prop} {E':G2->G5->Prop} (hst:X.stack=X.env::X.outer) (hfr:X.env.frame=GZ X.env.locals) (I:Inv X pins σ H1 s1) (hq:d7 X.prog X.w X.stack H1 s1 E ev s')
  (h:∀ x C T dd H' h',ev=.ref x->Inv X pins σ H' { s' with heap:=h' }->Tr h' x (.ref C) dd T .none->H' T=none->H' x=GZ (XO x C dd)->E (.ref C) (GZ x) H'->(X.env.locals<T/\(∀ y c,X.env.cells.lookup y=GZ c->c≠T)/\∀ p∈X.pn++pins,p.1≠T)->Q () { s' with heap:=h' }) :
  wpAny (model X.prog X.w) X.A (noteFrame ev X.env) (λ_ s2=>wpAny (model X.prog X.w) X.A (setFlight ev none) Q E' s2) E' s':=by
 obtain⟨x,C,T,dd,H',rfl,os,bare,un,hok,tr,nx,nT,hT,hx,hE⟩:=hq;have hl:=pe I.stack un I.fG (λb _=>by simp);have frN:∀ b∈fS X.stack,H' b=none:=λb hb=>by obtain⟨_,o,ho,_⟩:=I.stack.mem hb;exact un.free b o ho (I.fG b hb) (by simp)
 have fr:=I.ok.frames;have old:∀ b o,s1.heap.get? b=GZ o->b∉[x,T]:=λb o q hb=>by
  rcases Hw.mp hb with z | z
  ·rw [z,nx] at q;cases q
  ·rw [Ho.mp z,nT] at q;cases q
 rw [hst] at hl fr;refine nQ (L:=X.env.locals) fr hl hfr tr λh1 T' t1 n1 k1=>?_;refine land (fs:=fS (X.env::X.outer)) t1 λh2 t2 k2=>?_;rw [<- hst] at k1 k2;have k3:Kp (fS X.stack) [x,T] s'.heap h2:=⟨λb o hb hf q=>k2.keep b o (λz=>by simp at z;rw [z] at q;exact absurd (Hn q) (L4.mpr n1)) hf (k1.keep b o hb hf q),λb o hb q=>by
  obtain⟨s1',q1⟩:=k1.slot b o hb q;obtain⟨s2',q2⟩:=k2.slot b _ (λz=>by simp at z;rw [z] at q;exact absurd (Hn q) (L4.mpr n1)) q1;exact⟨s2',q2⟩⟩
 obtain⟨vs,sl,oT,ts,he,r'⟩:=t2;have below:∀ b o,s1.heap.get? b=GZ o->b<T':=λb o q=>by obtain⟨o1,q1⟩:=un.there b o q (by simp);exact Hr (Hn q1) n1
 have fT:X.env.locals<T'/\(∀ y c,X.env.cells.lookup y=GZ c->c≠T')/\∀ p∈X.pn++pins,p.1≠T':=by
  refine⟨?_,λy c e=>?_,λp hp=>?_⟩
  ·obtain⟨m,⟨o,_,_,ho,_⟩,_⟩:=I.loc;exact below _ o ho
  ·obtain⟨v,o,ho,_⟩:=I.cell y c e;exact HP (below _ o ho)
  ·exact HP (below _ _ (I.pin p hp).1)
 refine h x C T' dd H' h2 rfl ?_ ⟨vs,sl,oT,ts,he,r'⟩ (hok.fresh n1) hx hE fT;refine I.BR (s':={ s' with heap:=h2 }) (ch:=[]) os ⟨λb o q nn hb _=>?_,λb o q nn hb _=>?_,λb o q nn _=>un.free b o q nn (by simp),λb o q _=>?_,un.tups,un.frzs,un.tbls⟩ ?_ bare (λb hb=>absurd hb (by simp))
 ·exact k3.keep b o (old b o q) hb (un.keep b o q nn hb (by simp))
 ·obtain⟨s1',q1⟩:=un.any q nn (by simp);obtain⟨s2',q2⟩:=k3.slot b _ (old b o q) q1;exact⟨s2',q2⟩
 ·obtain⟨o1,q1⟩:=un.there b o q (by simp);obtain⟨s2',q2⟩:=k3.slot b _ (old b o q) q1;exact⟨_,q2⟩
 ·exact oZ hok k3 (λb hb=>by
   rcases Hw.mp hb with z | z
   ·exact .inl z
   ·exact .inr (by rw [Ho.mp z];exact hT)) frN hx he
noncomputable def tE (n:Option Nat) (x:G6) (σ:St):St:=match n with | some i=>σ.set i (GZ (.ref x)) | none=>σ
noncomputable def lJ (n:Option Nat) (D:Ends):Ends:=match n with
 | some i=>{ nx:=λσ H=>D.nx (σ.set i none) H,rt:=D.rt,bk:=λσ H=>D.bk (σ.set i none) H,ct:=λσ H=>D.ct (σ.set i none) H }
 | none=>D
theorem vS {i:Nat} {n c:HA} {np hpos:K8} {b₀:Le} {suite:List Le} {ts:TS} {D:Ends} {C B T:G6} {dd:Option G6} (I:Inv X pins σ H s) (tr:Tr s.heap x (.ref C) dd T .none) (hT:H T=none) (fT:X.env.locals<T/\(∀ y c,X.env.cells.lookup y=GZ c->c≠T)/\∀ p∈X.pn++pins,p.1≠T)
  (cC:cG X.K C) (cB:cG X.K B) (hs:mroIn X.K C (.ref B)=GZ true) (hg:Gl X c) (hm:X.mg c=GZ (.ref B)) (hN:X.N.Nodup) (hi:X.N[i]?=GZ n) (hl:X.env.scope.names.lookup n=GZ .local)
  (ht:gN (Dd X x) (b₀::suite) ts) (h:ts (lJ (GZ i) D) (tE (GZ i) x σ) H) (hdb:autoParam ((c==("__debug__":HA))=false) Z1._auto_1) :
  wpAny (model X.prog X.w) X.A (handleBy (.ref x) X.env [.ExceptHandler (GZ (.Name c np)) (GZ n) (b₀::suite) hpos]) (SP X pins D) X.xe s:=by
 have J:=I.GO x;obtain⟨vs,sl,oT,tsv,he,r'⟩:=tr;refine wpAny_handleBy_cons (codeAny_handlers_test (fz (X:=Dd X x) J hg hm ?_ hdb)) (by intro q;cases q);obtain⟨hh,g,d,tk,os⟩:=s;refine vO I.eX cC cB he hs ?_;refine codeAny_handlers_suite_as (land (s:=⟨hh,g,d,tk,os⟩) (fs:=[]) ⟨vs,sl,oT,tsv,he,r'⟩ λh' t' k'=>?_);have J1:Inv (Dd X x) pins σ H { (⟨hh,g,d,tk,os⟩:G5) with heap:=h' }:=J.turned (t':=tk) (it:=T) (λb o hb e=>k'.keep b o (by simpa using hb) (by simp) e) hT (K0 fT.1) (.inr (Hg I.ok.above (Nh fT.1))) fT.2.1 fT.2.2;refine bS (X:=Dd X x) (v:=.ref x) J1 hN hi (.inl hl) rfl (λs2 J2=>?_) (.inr hl);refine IK (ht pins s2 _ H _ J2 h) (λfl s3 q=>?_) λ_ _ z=>IU z;cases fl with
 | next =>obtain⟨σ',H',I',q⟩:=q;exact name_goes (I'.A8 I.ok) hN hi hl λs4 I4=>⟨_,H',I4,q⟩
 | brk =>obtain⟨σ',H',I',q⟩:=q;exact name_goes (I'.A8 I.ok) hN hi hl λs4 I4=>⟨_,H',I4,q⟩
 | cont =>obtain⟨σ',H',I',q⟩:=q;exact name_goes (I'.A8 I.ok) hN hi hl λs4 I4=>⟨_,H',I4,q⟩
 | ret u =>obtain⟨v,σ',H',I',rv,q⟩:=q;exact name_goes (I'.A8 I.ok) hN hi hl λs4 I4=>⟨v,_,H',I4,rv,q⟩
end
def PH (X:Cx) (n:Option Nat) (B:G6) (hd:N4) (ts:TS):Prop:=∀(pins:List (G6 × Kl)) (σ:St) (H:Hp) (s:G5) (x C T:G6) (dd:Option G6) (D:Ends),Inv X pins σ H s->Tr s.heap x (.ref C) dd T .none->H T=none ->
 (X.env.locals<T/\(∀ y c,X.env.cells.lookup y=GZ c->c≠T)/\∀ p∈X.pn++pins,p.1≠T)->cG X.K C->mroIn X.K C (.ref B)=GZ true->ts (lJ n D) (tE n x σ) H->wpAny (model X.prog X.w) X.A (handleBy (.ref x) X.env [hd]) (SP X pins D) X.xe s
def Fm (K:G1) (B:G6) (n:Option Nat) (sp:Sp) (ta:TA) (put:V->St->St) (ts:TS):TS:=λD σ H=>ta σ H λvs H1=>sp vs H1 (λv H2=>D.nx (put v σ) H2)
 (λcv xo H2=>∃ C x dd,cv=.ref C/\xo=GZ x/\H2 x=GZ (XO x C dd)/\cG K C/\mroIn K C (.ref B)=GZ true/\ts (lJ n D) (tE n x σ) H2)
section
variable {X:Cx} {B:G6} {n:Option Nat} {hd:N4} {ts:TS}
theorem ET {i:Nat} {nm c:HA} {np hpos:K8} {b₀:Le} {suite:List Le} (cB:cG X.K B) (hg:Gl X c) (hm:X.mg c=GZ (.ref B)) (hN:X.N.Nodup) (hi:X.N[i]?=GZ nm) (hl:X.env.scope.names.lookup nm=GZ .local) (ht:∀ x,gN (Dd X x) (b₀::suite) ts)
  (hdb:autoParam ((c==("__debug__":HA))=false) Z1._auto_1):PH X (GZ i) B (.ExceptHandler (GZ (.Name c np)) (GZ nm) (b₀::suite) hpos) ts :=
 λpins σ H s x C T dd D I tr hT fT cC hs h=>vS I tr hT fT cC cB hs hg hm hN hi hl (ht x) h hdb
variable {k:Nat} {f:HA} {ps:List HA} {sp:Sp} {e:Ik} {es:List Ik} {t:TA} {p Qv epos pos:K8}
theorem C3 {pins:List (G6 × Kl)} {σ:St} {D:Ends} {E:XK} {ev:G2} {s' s1:G5} {H1:Hp} (hst:X.stack=X.env::X.outer) (hfr:X.env.frame=GZ X.env.locals) (hh:PH X n B hd ts) (I:Inv X pins σ H1 s1) (hq:d7 X.prog X.w X.stack H1 s1 E ev s')
  (hE:∀ C x H',E (.ref C) (GZ x) H'->cG X.K C/\mroIn X.K C (.ref B)=GZ true/\ts (lJ n D) (tE n x σ) H') :
  wpAny (model X.prog X.w) X.A (noteFrame ev X.env) (λ_ s2=>wpAny (model X.prog X.w) X.A (setFlight ev none) (λ_ s3=>wpAny (model X.prog X.w) X.A (handleBy ev X.env [hd]) (SP X pins D) X.xe s3) X.xe s2) X.xe s':=by
 refine landed hst hfr I hq λx C T dd H' h' ee I' tr hT hx e fT=>?_;subst ee;obtain⟨c1,c2,c3⟩:=hE C x H' e;exact hh pins σ H' _ x C T dd D I' tr hT fT c1 c2 c3
theorem Bh {i:Nat} {nm:HA} {tp:K8} (Cl:Callee X.prog X.w X.K X.mg X.base (d7 X.prog X.w) k f ps sp) (hr:bL k X.A) (hg:Gl X f) (hst:X.stack=X.env::X.outer) (hfr:X.env.frame=GZ X.env.locals) (hN:X.N.Nodup) (hi:X.N[i]?=GZ nm) (hx:X.env.scope.names.lookup nm=GZ .local) (ha:PA X.kh (e::es) t) (hh:PH X n B hd ts)
  (hdb:autoParam ((f==("__debug__":HA))=false) Z1._auto_1) (he:autoParam (starEach (e::es) X.env=(false,eval e X.env)::starEach es X.env) Z0._auto_1) (hpl:autoParam ((backTo Qv (starEach es X.env)).any (·.1)=false) Z0._auto_1)
  (hs:autoParam (swapsWith (.Call (.Name f p) (e::es) [] Qv) (GZ (.Name nm tp)) epos.line X.env=pure false) Z0._auto_1) :
  PS X (.Try [.Assign [.Name nm tp] (.Call (.Name f p) (e::es) [] Qv) epos] [hd] [] [] pos) (Fm X.K B n sp t (λv σ=>σ.set i (GZ v)) ts):=by
 intro pins s σ H D I h;obtain⟨fn,fd,F,hm,hk,hb⟩:=Cl.ex;refine wpAny_Try_except (N6 (P8 (IK (C2 F hr hg hm hk hb ha I h hdb he hpl) (λv s1 ⟨y,H1,I1,r1,q1⟩=>bS I1 hN hi (.inl hx) r1 (λs2 I2=>Lu (Lu ⟨_,H1,I2,q1⟩)) (.inr hx)) λev s' ⟨H1,s1,I1,hq⟩=>?_) hs));exact C3 hst hfr hh I1 hq λC x H' ⟨C',x',dd,e1,e2,_,c1,c2,c3⟩=>by cases e1;cases e2;exact⟨c1,c2,c3⟩
end
section
variable {P:Hq} {w:HU} {K:G1} {mg:HA->Option G2} {base:Ip} {k:Nat} {x:HA} {ps:List HA} {sp:Sp}
theorem sV {st:Le} {N:List HA} (D:ay K mg x st)
  (hb:∀(kV doc pm:G2) (an:Option G6) (cdv ct:G2) (us:List G2),us.length=ps.length->bindArgs (JD x x (bo st) (aO st) (ak st) .none kV doc pm an cdv ct) ⟨us,[]⟩=pure (ps.zip us))
  (S:av N ps (ak st)) (len:∀ vs H Q E,sp vs H Q E->vs.length=ps.length)
  (Qt:∀(f:G6) (cdv:G2) (A:HX) (outer:List MA) (s:G5) (H:Hp) (vs:List V) (Q:VK) (E:XK),bL k (A.deeper (envOfC x (ak st) s.heap.objs.size f cdv))->sp vs H Q E ->
   ∃ t,gN (eR (d7 P w) P w K mg base N x (ak st) f cdv A outer s H E) (aO st) t/\t { nx:=λ_ H'=>Q .non H',rt:=Q } (start N vs) H):Callee P w K mg base (d7 P w) (k+1) x ps sp:=by
 obtain⟨f,fd,F,hm⟩:=D;obtain⟨oc,od,kV,doc,pm,an,cdv,ct,osl,rfl,lk,hcd⟩:=F.ex;exact⟨f,_,xV lk hcd S len λA outer s H vs Q E hr h=>Qt f cdv A outer s H vs Q E hr h,hm,F.kp,F.binds hb⟩
theorem Callee.any {CX:kB} (C:Callee P w K mg base aQ k x ps sp):Callee P w K mg base CX k x ps sp:=by obtain⟨f,fd,F,a,b,c⟩:=C.ex;exact⟨f,fd,F.any,a,b,c⟩
end
theorem AO {P:Hq} {w:HU} {K:G1} {mg:HA->Option G2} {base:Ip} {qual f p:HA} {st:Le} {fi:G6} {fd:JF} {p1 p2 p3 p4:K8} (F:w6 K "__init__" qual st fi fd) (S:av ["self",p] ["self",p] (ak st))
  (hb:aO st=[.Assign [.Attribute (.Name "self" p1) f p2] (.Name p p3) p4]) (h1:(ak st).names.lookup ("self":HA)=GZ .local) (h2:(ak st).names.lookup p=GZ .local) (hd:(p==("__debug__":HA))=false) (hcd:(p==("__classdict__":HA))=false)
  (ab:∀ env:MA,attributeBase (.Name "self" p1) f env (eval (.Name "self" p1) env)=eval (.Name "self" p1) env) (sw:∀ env:MA,swapsWith (.Name p p3) (GZ (.Attribute (.Name "self" p1) f p2)) p4.line env=pure false):cE P w K mg base aQ 1 fi fd ["self",p] (qg K f):=by
 refine F.ok S (λvs H Q E h=>?_) (λcdv A outer s H vs Q E hr h=>?_)
 ·obtain⟨x,C,v,rfl,_⟩:=h;rfl
 ·obtain⟨x,C,v,rfl,hx,c,hf,q⟩:=h;rw [hb];refine⟨_,ai (Bi (uc (i:=0) rfl (.inl h1) (by decide) (by decide)) (uc (i:=1) rfl (.inl h2) hd hcd) (sw _)),?_⟩;exact⟨v,rfl,.ref x,rfl,x,C,rfl,hx,c,hf,λdx n ne=>q dx n ne⟩
structure sR (P:Hq) (w:HU) (K:G1) (mg:HA->Option G2) (base:Ip) (x:HA) (C:G6) (f:HA):Prop where
 mkd:Ac K C
 cls:cG K C
 at_:mg x=GZ (.ref C)
 nof:findIn K (.ref C) f=GZ none
 ex:∃ fi fd p,findIn K (.ref C) "__init__"=GZ (GZ (.ref fi))/\isFn K (.ref fi)=true/\cE P w K mg base aQ 1 fi fd ["self",p] (qg K f)/\Binds K fd ["self",p] []
structure xk (K:G1) (mg:HA->Option G2) (x:HA) (C:G6):Prop where
 mkd:Ac K C
 cls:cG K C
 at_:mg x=GZ (.ref C)
 ini:findIn K (.ref C) "__init__"=GZ (GZ (.builtin "ValueError.__init__"))
section
variable {X:Cx} {C:G6} {f x:HA} {pos np:K8} {e:Ik} {t:TA}
theorem pQ (c:sR X.prog X.w X.K X.mg X.base x C f) (hr:bL 2 X.A) (hg:Gl X x) (ha:PA X [e] t) (hdb:autoParam ((x==("__debug__":HA))=false) Z1._auto_1)
  (he:autoParam (starEach [e] X.env=(false,eval e X.env)::starEach [] X.env) Z0._auto_1) (hpl:autoParam ((backTo pos (starEach [] X.env)).any (·.1)=false) Z0._auto_1):PE X (.Call (.Name x np) [e] [] pos) (D2 C f t):=by
 obtain⟨fi,fd,p,hi,fn,F,hb⟩:=c.ex;exact wB c.mkd c.cls hi fn c.nof F hr hg c.at_ hb ha hdb he hpl
theorem ud (c:xk X.K X.mg x C) (hg:Gl X x) (hdb:autoParam ((x==("__debug__":HA))=false) Z1._auto_1):PE X (.Call (.Name x np) [] [] pos) (D1 C):=wA c.mkd c.ini hg c.at_ hdb
theorem y4 {X:Cx} {e:Ik} {f:HA} {pos:K8} {ta:TE} (K:G1) (hK:X.K=K) (he:PE X e ta) (hb:autoParam (attributeBase e f X.env (eval e X.env)=eval e X.env) Z0._auto_1):PE X (.Attribute e f pos) (Ga K ta f):=by subst hK;exact Bf he hb
end
inductive CH (K:G1) (H:Hp):Nat->V->V->Bool->Prop
 | flat {d:Nat} {y x:V}:fX y=true->fX x=true->CH K H d y x (xU y x)
 | same {d:Nat} {p:G6}:CH K H d (.ref p) (.ref p) true
 | lists {d:Nat} {p q:G6} {xs ys:List V} {e:Nat->Bool}:p≠q->aM K H p xs->aM K H q ys->xs.length=ys.length->(∀ j y x,xs[j]?=GZ y->ys[j]?=GZ x->CH K H d y x (e j))->CH K H (d+1) (.ref p) (.ref q) ((IY xs.length).all e)
 | unlike {d:Nat} {p q:G6} {xs ys:List V}:p≠q->aM K H p xs->aM K H q ys->xs.length≠ys.length->CH K H (d+1) (.ref p) (.ref q) false
 | tups {d:Nat} {p q:G6} {xs ys:List V} {e:Nat->Bool}:p≠q->bE K H p xs->bE K H q ys->(∀ j y x,xs[j]?=GZ y->ys[j]?=GZ x->CH K H d y x (e j))->CH K H (d+1) (.ref p) (.ref q) ((IY (min xs.length ys.length)).all e && xs.length==ys.length)
section
variable {X:Cx} {pins:List (G6 × Kl)} {σ:St} {H:Hp} {s:G5}
theorem Vals.at {xs:List V} {us:List G2} (r:Vals xs us):∀{j:Nat} {u:G2},us[j]?=GZ u->∃ x,xs[j]?=GZ x/\RelV x u:=by
 induction r with
 | nil=>intro j u h;simp at h
 | cons r t ih =>
  intro j u h;cases j with
  | zero=>simp only [List.getElem?_cons_zero,Ql] at h;subst h;exact⟨_,rfl,r⟩
  | succ j=>simp only [List.getElem?_cons_succ] at h ⊢;exact ih h
theorem Vals.len {xs:List V} {us:List G2} (r:Vals xs us):us.length=xs.length:=by
 induction r with
 | nil=>rfl
 | cons r t ih=>simp only [Ji,ih]
end
theorem cH {A B:Prop} (a:A) (f:A->B):B:=f a
section
variable {K:G1} {mg:HA->Option G2} {h:Ip} {x f p qual:HA} {C D fi N:G6}
section
variable {nm q:HA} {bs bm:List G2} {R' ab:Bool} {sn:Option HA} {od:Option G6} {cd:Si} {sl:Array (Option G2)}
theorem D7 {o:Kl} (l:K.lookup C=GZ o) (ob:∃ nm q N bs bm R' sn sub ab col dd k0 k1 k2 k3 k5,o=excClassObj nm q C N bs bm R' sn sub ab col dd k0 k1 k2 k3 k5 mV/\bm.contains (.type "ValueError")=true/\bm.contains (.type "AttributeError")=false/\bm.contains (.type "NameError")=false) (kp:keepIn K (.ref C)=true):Ac K C:=by obtain⟨nm,q,N,bs,bm,R',sn,sub,ab,col,dd,k0,k1,k2,k3,k5,e,r⟩:=ob;subst e;exact⟨⟨nm,q,N,bs,bm,R',sn,sub,ab,col,dd,k0,k1,k2,k3,k5,l,r⟩,kp⟩
theorem BL (l:K.lookup C=GZ ⟨.type "type",od,.cls cd,sl⟩) (h2:bW cd.mro=true) (h3:cd.hasDict=true)
  (sa:findIn K (.ref C) "__setattr__"=GZ (GZ (.builtin "object.__setattr__"))) (ga:findIn K (.ref C) "__getattribute__"=GZ (GZ (.builtin "BaseException.__getattribute__"))) (gx:findIn K (.ref C) "__getattr__"=GZ none)
  (ca:findIn K (.ref C) "__class__"=GZ (GZ (.builtin "object.__class__"))) (gs:specialIn K (.builtin "object.__class__") "__get__"=GZ (GZ (.builtin "getset_descriptor.__get__"))) (tk:takesIn K (.builtin "object.__class__")=GZ true):L2.cG K C :=
 ⟨⟨cd,by unfold clsIn;rw [l],h2,h3⟩,⟨_,_,_,l⟩,sa,ga,gx,ca,gs,tk⟩
theorem qx (a:mg x=GZ (.ref C)) (M:Ac K C) (c:cG K C) (ini:findIn K (.ref C) "__init__"=GZ (GZ (.builtin "ValueError.__init__"))):xk K mg x C:=⟨M,c,a,ini⟩
structure oM (qual f p:HA) (st:Le):Prop where
 S:av ["self",p] ["self",p] (ak st)
 hb:∃ p1 p2 p3 p4,aO st=[.Assign [.Attribute (.Name "self" p1) f p2] (.Name p p3) p4]/\(∀ env:MA,attributeBase (.Name "self" p1) f env (eval (.Name "self" p1) env)=eval (.Name "self" p1) env)/\(∀ env:MA,swapsWith (.Name p p3) (GZ (.Attribute (.Name "self" p1) f p2)) p4.line env=pure false)
 h1:(ak st).names.lookup ("self":HA)=GZ .local
 h2:(ak st).names.lookup p=GZ .local
 hd:(p==("__debug__":HA))=false
 hcd:(p==("__classdict__":HA))=false
 bd:∀(kV doc pm:G2) (an:Option G6) (cdv ct:G2) (us:List G2),us.length=2->bindArgs (JD "__init__" qual (bo st) (aO st) (ak st) .none kV doc pm an cdv ct) ⟨us,[]⟩=pure ((["self",p]:List HA).zip us)
theorem qy {st:Le} {oc:G2} {od an:Option G6} {osl:Array (Option G2)} {kV doc pm cdv ct:G2} (I:oM qual f p st) (a:mg x=GZ (.ref C)) (M:Ac K C) (c:cG K C) (nof:findIn K (.ref C) f=GZ none)
  (ini:findIn K (.ref C) "__init__"=GZ (GZ (.ref fi))) (fn:isFn K (.ref fi)=true) (l:K.lookup fi=GZ ⟨oc,od,.func (JD "__init__" qual (bo st) (aO st) (ak st) .none kV doc pm an cdv ct),osl⟩) (cc:codeIn K cdv qual=true) (kk:keepIn K (.ref fi)=true) :
  ∀(P:Hq) (w:HU) (base:Ip),sR P w K mg base x C f:=λP w base=>by
 obtain⟨p1,p2,p3,p4,hb,ab,sw⟩:=I.hb;have F:=tD l cc kk;exact⟨M,c,a,nof,fi,_,p,ini,fn,AO F I.S hb I.h1 I.h2 I.hd I.hcd ab sw,F.binds I.bd⟩
end
theorem hJ {od:Option G6} {cd:Si} {sl:Array (Option G2)} (_:K.In h) (_:mg x=GZ (.ref C)) (l:K.lookup C=GZ ⟨.type "type",od,.cls cd,sl⟩) (h2:bW cd.mro=true) (h3:cd.hasDict=true)
  (sa:findIn K (.ref C) "__setattr__"=GZ (GZ (.builtin "object.__setattr__"))) (ga:findIn K (.ref C) "__getattribute__"=GZ (GZ (.builtin "BaseException.__getattribute__"))) (gx:findIn K (.ref C) "__getattr__"=GZ none)
  (ca:findIn K (.ref C) "__class__"=GZ (GZ (.builtin "object.__class__"))) (gs:specialIn K (.builtin "object.__class__") "__get__"=GZ (GZ (.builtin "getset_descriptor.__get__"))) (tk:takesIn K (.builtin "object.__class__")=GZ true)
  (ob:∃ nm q N bs bm R' sn sub ab col dd k0 k1 k2 k3 k5,(⟨.type "type",od,.cls cd,sl⟩:Kl)=excClassObj nm q C N bs bm R' sn sub ab col dd k0 k1 k2 k3 k5 mV/\bm.contains (.type "ValueError")=true/\bm.contains (.type "AttributeError")=false/\bm.contains (.type "NameError")=false) (kp:keepIn K (.ref C)=true):cG K C/\Ac K C :=
 ⟨BL l h2 h3 sa ga gx ca gs tk,D7 l ob kp⟩
theorem Dx {b:Bool} (_:cG K C/\Ac K C) (_:cG K D/\Ac K D) (m:mroIn K C (.ref D)=GZ b):mroIn K C (.ref D)=GZ b:=m
end
end L2
namespace Pw
theorem ja (x n:Int):∀ k:Nat,(x%n)^k%n=x^k%n
 | 0=>by rw [HS,HS]
 | k+1=>by rw [Hu,Hu,Kr,ja x n k,LS,<- Kr]
theorem zL (b:Int):∀ k:Nat,(b*b)^k=b^(2*k)
 | 0=>by rw [Mq,HS,HS]
 | k+1=>by rw [Hu,zL b k,OZ,KI,Hu,Hu,Ib]
theorem B7 (x y n:Int):x%n*y%n=x*y%n:=by rw [Kr,LS,<- Kr]
theorem B6 {x x' y y' n:Int} (h:x%n=x'%n) (h':y%n=y'%n):x*y%n=x'*y'%n:=by rw [Kr,h,h',<- Kr]
theorem step (r b n:Int) (l:Nat):(if l%2=1 then r*b%n else r)*(b*b%n)^(l/2)%n=r*b^l%n:=by
 have e:(b*b%n)^(l/2)%n=b^(2*(l/2))%n:=by rw [ja,zL]
 by_cases c:l%2=1
 ·rw [if_pos c];have h:l=2*(l/2)+1:=by lia
  have e2:b^l=b^(2*(l/2))*b:=by rw [<- Hu];exact congrArg _ h
  rw [B6 (Jw (r*b) (Lo n)) e,e2];congr 1;rw [Ib,Ia b]
 ·rw [if_neg c];have h:l=2*(l/2):=by lia
  rw [B6 (rfl:r%n=r%n) e,<- h]
theorem pow_add (a:Int) (m:Nat):∀ k:Nat,a^(m+k)=a^m*a^k
 | 0=>by rw [Sn,HS,Jo]
 | k+1=>by rw [<- MR,Hu,pow_add a m k,Hu,Ib]
theorem mul_pow (a b:Int):∀ k:Nat,(a*b)^k=a^k*b^k
 | 0=>by rw [HS,HS,HS,Jo]
 | k+1=>by
  rw [Hu,Hu,Hu,mul_pow a b k]
  grind
theorem pow_mul (a:Int) (m:Nat):∀ k:Nat,a^(m*k)=(a^m)^k
 | 0=>by rw [Mq,HS,HS]
 | k+1=>by rw [OZ,KI,pow_add,pow_mul a m k,Hu]
theorem one_pow:∀ k:Nat,(1:Int)^k=1
 | 0=>HS 1
 | k+1=>by rw [Hu,one_pow k,Jo]
theorem CW {n x y:Int}:x%n=y%n↔n∣x-y:=by rw [Kw,Int.dvd_iff_emod_eq_zero]
end Pw
namespace L2
open PySem PySem.Spec PyProof.Rows
theorem DO {X:Cx} {st:Le} {t:TS} (h:PS X.kh st t):PS X st t:=λpins s σ H D I hw =>IK (h pins s σ H D (I.jz _) hw) (λ_ _ q=>q.dH) λ_ _ z=>IU z
end L2
namespace L2
open PySem PySem.Spec PyProof.Rows PySem.W
theorem Vals.rev {xs:List V} {us:List G2} (h:Vals xs us):Vals xs.reverse us.reverse:=h.reverse
def Fl (K:G1) (te:TE) (tk:TO):TE:=λσ H Q=>te σ H λx H1=>tk σ H1 λo H2=>o=GZ (-1)/\∃ a xs,x=.ref a/\aM K H2 a xs/\∀ p,H2 p=none->Q (.ref p) (upd H2 p (.lst xs.reverse))
section
variable {X:Cx} {e k:Ik} {te:TE} {tk:TO} {p2 pos:K8}
theorem DM (he:PE X e te) (hk:PO X (GZ k) tk)
  (hs:∀ a b:G6,∃ ops,subscripted (.Slice none none (GZ k) p2) false (.ref a) (.ref b)=operate ops (getItem (.ref a) (.ref b)):=by intro a b;exact⟨_,by with_unfolding_all rfl⟩):PE X (.Subscript e (.Slice none none (GZ k) p2) pos) (Fl X.K te tk):=by
 intro pins s σ H Q I h;refine Om (a9 (he pins s σ H _ I h) λv s1 hZ=>?_);obtain⟨x,H1,I1,r1,q1⟩:=hZ;refine QQ ?_;rw [N0];refine G8 (G8 ?_);refine a9 (hk pins s1 σ H1 _ I1 q1) λvk s3 hZ=>?_;obtain⟨o,H3,I3,pk,eo,a,xs,ex,hx,q3⟩:=hZ;subst eo;subst ex;cases r1;have I4:Inv X pins σ H3 { s3 with heap:=s3.heap.push { cls:=.type "slice",data:=.fields #[.none,.none,vk] } }:=I3.kept (t':=s3.toks) λb ob q=>G7 _ q;obtain⟨its,r,ht,hz⟩:=I4.list hx;have hlen:=r.length;show wpAny (model X.prog X.w) X.A (subscriptTail e (.Slice none none (GZ k) p2) (.ref a) (.ref s3.heap.objs.size)) (EP X pins σ Q) X.xe { s3 with heap:=s3.heap.push { cls:=.type "slice",data:=.fields #[.none,.none,vk] } };obtain⟨ops,hops⟩:=hs a s3.heap.objs.size;refine SG (ops:=ops) ht.isList.typeIs NP.lookup ?_ hops;refine N1 ht.isList (Nz ..) .none .none pk (by simp) ?_ (by rw [Ic]<;>lia);rw [krv_pick];refine⟨.ref _,_,I4.laid (t':=s3.toks) (o:=.lst xs.reverse) (λb ob q=>G7 _ q) (Hd _) ?_,rfl,q3 _ (I4.hok.fresh (Hd _))⟩;exact⟨by rw [Kd];exact hz,_,0,r.rev,Hs _ rfl⟩
end
mutual
def dv (K:G1) (H:Hp):Hy->V->Prop
 | .none,v=>v=.non
 | .bool b,v=>v=.bl b
 | .int i,v=>v=.int i
 | .str x,v=>v=.str x
 | .list ds,v=>∃ p xs,v=.ref p/\aM K H p xs/\aP K H ds xs
 | .tuple ds,v=>∃ p xs,v=.ref p/\bE K H p xs/\aP K H ds xs
 | .dict _,_=>False
def aP (K:G1) (H:Hp):List Hy->List V->Prop
 | [],xs=>xs=[]
 | d::ds,xs=>∃ x r,xs=x::r/\dv K H d x/\aP K H ds r
end
section
variable {K:G1} {H H':Hp}
theorem Rd.same {a:G6} {o:HO} (h:Rd H a o) (s:aw H H'):Rd H' a o:=by
 rcases h with h | ⟨b,h⟩
 ·exact .inl (s _ _ h)
 ·exact .inr ⟨b,s _ _ h⟩
theorem aM.same {a:G6} {xs:List V} (h:aM K H a xs) (s:aw H H'):aM K H' a xs:=h.imp (λz=>z.same s) id
theorem bE.same {a:G6} {xs:List V} (h:bE K H a xs) (s:aw H H'):bE K H' a xs:=h.imp (λz=>z.same s) id
mutual
theorem dv.same (s:aw H H'):∀(d:Hy) {v:V},dv K H d v->dv K H' d v
 | .none,_,h=>h
 | .bool _,_,h=>h
 | .int _,_,h=>h
 | .str _,_,h=>h
 | .list ds,_,⟨p,xs,e,h,t⟩=>⟨p,xs,e,h.same s,aP.same s ds t⟩
 | .tuple ds,_,⟨p,xs,e,h,t⟩=>⟨p,xs,e,h.same s,aP.same s ds t⟩
 | .dict _,_,h=>h.elim
theorem aP.same (s:aw H H'):∀(ds:List Hy) {xs:List V},aP K H ds xs->aP K H' ds xs
 | [],_,h=>h
 | d::ds,_,⟨x,r,e,h,t⟩=>⟨x,r,e,dv.same s d h,aP.same s ds t⟩
end
theorem aP.length:∀{ds:List Hy} {xs:List V},aP K H ds xs->xs.length=ds.length
 | [],_,h=>by cases h;rfl
 | d::ds,_,⟨x,r,e,h,t⟩=>by subst e;rw [Ji,Ji,aP.length t]
theorem aP.get:∀{ds:List Hy} {xs:List V},aP K H ds xs->∀{i:Nat} {x:V},xs[i]?=GZ x->∃ d,ds[i]?=GZ d/\dv K H d x
 | [],_,h,i,x,e=>by cases h;simp at e
 | d::ds,_,⟨y,r,ey,h,t⟩,0,x,e=>by subst ey;simp at e;subst e;exact⟨d,rfl,h⟩
 | d::ds,_,⟨y,r,ey,h,t⟩,i+1,x,e=>by subst ey;simp at e;simpa using aP.get t e
theorem aP.append:∀{ds es:List Hy} {xs ys:List V},aP K H ds xs->aP K H es ys->aP K H (ds++es) (xs++ys)
 | [],_,_,_,h,h'=>by cases h;exact h'
 | d::ds,_,_,_,⟨x,r,e,h,t⟩,h'=>by subst e;exact⟨x,_,rfl,h,t.append h'⟩
theorem aP.one {d:Hy} {x:V} (h:dv K H d x):aP K H [d] [x]:=⟨x,[],rfl,h,rfl⟩
theorem aP.ints:∀ ns:List Int,aP K H (ns.map J6) (ns.map V.int)
 | []=>rfl
 | n::ns=>⟨_,_,rfl,rfl,aP.ints ns⟩
theorem dv.lst {p:G6} {xs:List V} {ds:List Hy} (h:H p=GZ (.lst xs)) (t:aP K H ds xs):dv K H (.list ds) (.ref p):=⟨p,xs,rfl,aM.of h,t⟩
theorem dv.tup {p:G6} {xs:List V} {ds:List Hy} (h:H p=GZ (.tup xs)) (t:aP K H ds xs):dv K H (.tuple ds) (.ref p):=⟨p,xs,rfl,bE.of h,t⟩
mutual
noncomputable def wY:Hy->Bool
 | .list _=>false
 | .tuple ds=>gf ds
 | _=>true
noncomputable def gf:List Hy->Bool
 | []=>true
 | d::ds=>wY d && gf ds
end
def SameBut (p:G6) (H H':Hp):Prop:=∀ b o,b≠p->H b=GZ o->H' b=GZ o
theorem bE.but {p a:G6} {us xs:List V} (hp:H p=GZ (.lst us)) (s:SameBut p H H') (h:bE K H a xs):bE K H' a xs:=by
 rcases h with (h | ⟨o,h⟩) | h
 ·exact .inl (.inl (s _ _ (λe=>by rw [e,hp] at h;cases h) h))
 ·exact .inl (.inr ⟨o,s _ _ (λe=>by rw [e,hp] at h;cases h) h⟩)
 ·exact .inr h
mutual
theorem dv.but {p:G6} {us:List V} (hp:H p=GZ (.lst us)) (s:SameBut p H H'):∀(d:Hy) {v:V},wY d=true->dv K H d v->dv K H' d v
 | .none,_,_,h=>h
 | .bool _,_,_,h=>h
 | .int _,_,_,h=>h
 | .str _,_,_,h=>h
 | .list ds,_,z,_=>by cases z
 | .tuple ds,_,z,⟨q,xs,e,h,t⟩=>⟨q,xs,e,h.but hp s,aP.but hp s ds z t⟩
 | .dict _,_,_,h=>h.elim
theorem aP.but {p:G6} {us:List V} (hp:H p=GZ (.lst us)) (s:SameBut p H H'):∀(ds:List Hy) {xs:List V},gf ds=true->aP K H ds xs->aP K H' ds xs
 | [],_,_,h=>h
 | d::ds,_,z,⟨x,r,e,h,t⟩=>by
  have z':wY d=true/\gf ds=true:=by simpa [gf] using z
  exact⟨x,r,e,dv.but hp s d z'.1 h,aP.but hp s ds z'.2 t⟩
end
theorem i6 {α:Type} {f:α->Hy} (h:∀ x,wY (f x)=true):∀ xs:List α,gf (xs.map f)=true
 | []=>rfl
 | x::xs=>by rw [HH,gf,h,i6 h xs];rfl
end
section
variable {X:Cx} {pins:List (G6 × Kl)} {σ:St} {H:Hp} {s:G5}
mutual
theorem dZ (I:Inv X pins σ H s):∀(d:Hy) {v:V} {u:G2},dv X.K H d v->RelV v u->∃ as,Reads s.heap u d as
 | .none,_,u,h,r=>by cases h;cases r;exact⟨_,.none⟩
 | .bool _,_,u,h,r=>by cases h;cases r;exact⟨_,.bool _⟩
 | .int _,_,u,h,r=>by cases h;obtain⟨t,rfl⟩:=r;exact⟨_,.int _ _⟩
 | .str _,_,u,h,r=>by cases h;obtain⟨t,rfl⟩:=r;exact⟨_,.str _ _⟩
 | .list ds,_,u,⟨p,xs,e,h,t⟩,r=>by subst e;cases r;obtain⟨its,rr,pl,_⟩:=I.list h;obtain⟨o,h1,h2,n,h3⟩:=pl.isList;obtain⟨as,ra⟩:=gv I ds t rr;exact⟨_,.list h1 h2 h3 (by simpa using ra)⟩
 | .tuple ds,_,u,⟨p,xs,e,h,t⟩,r=>by subst e;cases r;obtain⟨its,rr,pl,_⟩:=I.tuple h;obtain⟨o,h1,h2,n,h3⟩:=pl;obtain⟨as,ra⟩:=gv I ds t rr;exact⟨_,.tuple h1 h2 h3 (by simpa using ra)⟩
 | .dict _,_,_,h,_=>h.elim
theorem gv (I:Inv X pins σ H s):∀(ds:List Hy) {xs:List V} {us:List G2},aP X.K H ds xs->Vals xs us->∃ as,ReadsAll s.heap us ds as
 | [],_,us,h,r=>by cases h;cases r;exact⟨_,.nil⟩
 | d::ds,_,us,⟨x,r,e,h,t⟩,rr=>by
  subst e;cases rr with
  | cons r1 r2 =>obtain⟨a1,q1⟩:=dZ I d h r1;obtain⟨a2,q2⟩:=gv I ds t r2;exact⟨_,.cons q1 q2⟩
end
def DQ (K:G1) (neg:Bool):R2:=λy x H Q=>∃ d e,dv K H d y/\dv K H e x/\d.canLay0=true/\e.canLay0=true/\min d.depth e.depth<=60/\Q (.bl (if neg then !PyData.eqv d e else JH d e)) H
theorem lU (hu:X.A.units+64<cLine):jY X (compareOp .Eq) (DQ X.K false):=by intro pins s σ H y x u v Q I ry rx h;obtain⟨d,e,hd,he,c1,c2,c3,q⟩:=h;obtain⟨as,ra⟩:=dZ I d hd ry;obtain⟨bs,rb⟩:=dZ I e he rx;exact SeqAt.compareEq_reads ra rb c1 c2 (by lia) ⟨.bl _,H,I,rfl,q⟩
end
end L2
namespace Pw
noncomputable def lst (xs:List Nat):Nat:=xs.getLast?.getD 0
end Pw
namespace L2
open PySem PySem.Spec PyProof.Rows PySem.W
def Ft (C:G6) (H:Hp) (E:XK):Prop:=∀ x H',aw H H'->H x=none->H' x=GZ (XO x C none)->E (.ref C) (GZ x) H'
def Ae (C:G6) (f:HA) (v:V) (H:Hp) (E:XK):Prop:=∀ x dx H',aw H H'->H x=none->H' x=GZ (XO x C (GZ dx))->H' dx=GZ (.xd [(f,v)])->E (.ref C) (GZ x) H'
theorem gP {K:G1} {C x:G6} {H H1:Hp} {E:XK} (c:cG K C) (hs:aw H H1) (hx:H1 x=none) (e:Ft C H E) :
  ∃(C':G6) (dd:Option G6),upd H1 x (XN x C none) x=GZ (XN x C' dd)/\cG K C'/\H x=none/\E (.ref C') (GZ x) (upd (upd H1 x (XN x C none)) x (XO x C' dd)):=by
 refine⟨C,none,ag,c,hs.free hx,e x _ ?_ (hs.free hx) ag⟩;intro b o q;have q1:=hs _ _ q;have bx:b≠x:=λy=>by rw [y,hx] at q1;cases q1
 rw [ao bx,ao bx];exact q1
theorem jL {K:G1} {C x dx:G6} {f:HA} {v:V} {H H1:Hp} {E:XK} (c:cG K C) (hs:aw H H1) (hx:H1 x=none) (hdx:H1 dx=none) (ne:dx≠x) (e:Ae C f v H E) :
  ∃(C':G6) (dd:Option G6),upd (upd (upd H1 x (XN x C none)) dx (.xd [(f,v)])) x (XN x C (GZ dx)) x=GZ (XN x C' dd)/\cG K C'/\H x=none/\E (.ref C') (GZ x) (upd (upd (upd (upd H1 x (XN x C none)) dx (.xd [(f,v)])) x (XN x C (GZ dx))) x (XO x C' dd)):=by
 refine⟨C,GZ dx,ag,c,hs.free hx,e x dx _ ?_ (hs.free hx) ag ?_⟩
 ·intro b o q;have q1:=hs _ _ q;have bx:b≠x:=λy=>by rw [y,hx] at q1;cases q1
  have bd:b≠dx:=λy=>by rw [y,hdx] at q1;cases q1
  rw [ao bx,ao bx,ao bd,ao bx];exact q1
 ·rw [ao ne,ao ne,ag]
end L2
namespace Ld
structure m8 (n r:Int):Prop where
 two:2<=r
 dv:r∣n
 no:∀ d:Int,2<=d->d<r->¬d∣n
theorem m8.one {n r r':Int} (h:m8 n r) (h':m8 n r'):r=r':=by
 rcases NQ r r' with c | c | c
 ·exact absurd h.dv (h'.no r h.two c)
 ·exact c
 ·exact absurd h'.dv (h.no r' h'.two c)
structure Inv (n k:Int):Prop where
 two:2<=k
 odd:k=2∨k%2=1
 no:∀ d:Int,2<=d->d<k->¬d∣n
theorem Inv.step {n k:Int} (h:Inv n k) (hk:¬k∣n):Inv n (k+if k=2 then 1 else 2):=by
 have h2:=h.two;by_cases c:k=2
 ·rw [if_pos c];refine⟨by lia,.inr (by lia),λd d0 d1=>?_⟩;have:d=k:=by lia
  rw [this];exact hk
 ·rw [if_neg c];have ho:k%2=1:=by rcases h.odd with z | z;exact absurd z c;exact z
  refine⟨by lia,.inr (by lia),λd d0 d1 hd=>?_⟩;rcases (by lia:d<k∨d=k∨d=k+1) with z | z | z
  ·exact h.no d d0 z hd
  ·subst z;exact hk hd
  ·have e2:(2:Int)∣d:=HD (by lia);exact h.no 2 (by lia) (by lia) (KJ e2 hd)
end Ld
namespace L2
open PySem PySem.Spec PyProof.Rows PySem.W
section
variable {K:G1} {H:Hp}
theorem qS:∀ bs cs:List Int,KL (bs.map J6) (cs.map J6)=decide (bs=cs)
 | [],[]=>by simp [KL]
 | [],_::_=>by simp [KL]
 | _::_,[]=>by simp [KL]
 | a::r,b::t=>by simp only [HH,KL,JH,qS r t];by_cases h:a=b<;>by_cases h':r=t<;>simp [h,h']
theorem qK {neg:Bool} {p q:G6} {bs cs:List Int} {Q:VK} (h1:aM K H p (bs.map V.int)) (h2:aM K H q (cs.map V.int)) (h:Q (.bl (if neg then !decide (bs=cs) else decide (bs=cs))) H):DQ K neg (.ref p) (.ref q) H Q:=by
 refine⟨.list (bs.map J6),.list (cs.map J6),⟨_,_,rfl,h1,aP.ints _⟩,⟨_,_,rfl,h2,aP.ints _⟩,R9 _,R9 _,?_,?_⟩
 ·simp [Mr,ke_depthAll]
 ·show Q (.bl (if neg then !PyData.eqvAll _ _ else KL _ _)) H;rw [qS];exact h
mutual
theorem eqv_refl:∀ d:Hy,d.canLay0=true->JH d d=true
 | .none,_=>by simp [JH]
 | .bool _,_=>by simp [JH]
 | .int _,_=>by simp [JH]
 | .str _,_=>by simp [JH]
 | .list ds,h=>by simpa [JH] using jK ds h
 | .tuple ds,h=>by simpa [JH] using jK ds h
 | .dict _,h=>by simp [Ms] at h
theorem jK:∀ ds:List Hy,IQ ds=true->KL ds ds=true
 | [],_=>by simp [KL]
 | d::ds,h=>by
  have h':d.canLay0=true/\IQ ds=true:=by simpa [IQ] using h
  simp [KL,eqv_refl d h'.1,jK ds h'.2]
end
theorem ly {neg:Bool} {v u:V} {d:Hy} {Q:VK} (h1:dv K H d v) (h2:dv K H d u) (hl:d.canLay0=true) (hd:d.depth<=60) (h:Q (.bl (!neg)) H):DQ K neg v u H Q:=by
 refine⟨d,d,h1,h2,hl,hl,by lia,?_⟩;rw [eqv_refl d hl];cases neg
 ·exact h
 ·exact h
end
end L2
namespace L2
open PySem PySem.Spec PyProof.Rows
noncomputable def FG (lo k:Int) (n:Nat):It:=⟨λi _=>i<n,λi H x H'=>H'=H/\x=.int (lo+i*k),λi _=>n<=i⟩
noncomputable def EK (lo hi k:Int):Nat:=if lo<hi then ((hi-lo-1)/k+1).toNat else 0
section
variable {X:Cx} {tg:Ik}
end
end L2
namespace Sv
noncomputable def DX (d:Nat) (arr:Nat->Bool):Nat->Bool:=λj=>arr j || (decide (d*d<=j) && decide (j%d=0))
noncomputable def sv:Nat->(Nat->Bool) × List Nat
 | 0=>(λ_=>false,[])
 | i+1=>if (sv i).1 (i+2) then sv i else (DX (i+2) (sv i).1,(sv i).2++[i+2])
theorem len:∀ i,(sv i).2.length<=i
 | 0=>Hd _
 | i+1=>by
  have:=len i;rw [sv];split
  ·lia
  ·rw [HN,JC];lia
end Sv
namespace L2
open PySem PySem.Spec PyProof.Rows
section
variable {X:Cx} {pins:List (G6 × Kl)} {σ:St} {H:Hp} {s:G5} {h':Ip}
theorem Inv.kZ {t':Nat} {ch:List G6} (I:Inv X pins σ H s) (k:∀ b o,b∉ch->s.heap.get? b=GZ o->h'.get? b=GZ o) (hf:∀ b∈ch,mJ X pins H b):Inv X pins σ H { s with heap:=h',toks:=t' }:=by
 have nit:∀ b u,H b=GZ u->b∉ch:=λb u e z=>by rw [(hf b z).1] at e;cases e
 refine I.step (g':=s.gens) (d':=s.drawn) (ch:=ch) (λb hb=>?_) (λb o _ _ hc e _=>k b o hc e) (λb o _ _ hc e _=>⟨o.slots,k b o hc e⟩) (λ_ _ _ _ n=>n)
  (λb o hc e=>⟨o,k b o hc e⟩) (λ_ _ e=>e) (λ_ _ _ e=>e) (λb ps e=>⟨#[],by rw [e];simp⟩) (λm hm=>?_) (λb u e=>?_) I.bare
 ·obtain⟨_,f1,_,f3,f4,f5⟩:=hf b hb;exact⟨f3,f1,f4,f5⟩
 ·obtain⟨o,es,ep,ho,r⟩:=hm;exact⟨o,es,ep,k _ o (λz=>(hf _ z).2.1 rfl) ho,r⟩
 ·refine (I.hok b u e).gK (λc v hc q=>k c v ?_ q) (λ_ q=>q) λ_ _ q=>q;rcases hc with z | z
  ·rw [z];exact nit b u e
  ·exact nit c _ z
theorem Inv.adopt {T:G6} {o:HO} (I:Inv X pins σ H s) (hf:mJ X pins H T) (new:br X.prog X.w (upd H T o) s.heap T o):Inv X pins σ (upd H T o) s:=by
 have nT:∀ b u,H b=GZ u->b≠T:=λb u e z=>by rw [z,hf.1] at e;cases e
 refine I.step (h':=s.heap) (g':=s.gens) (d':=s.drawn) (t':=s.toks) (ch:=[T]) (λb hb=>?_) (λb o _ _ hc e _=>e) (λb o _ _ hc e _=>⟨o.slots,e⟩) (λb o hc e n=>by rw [ao (λz=>hc (by simp [z]))];exact n)
  (λb o hc e=>⟨o,e⟩) (λb xs e=>by rw [ao (nT _ _ e)];exact e) (λb o u e=>by rw [ao (nT _ _ e)];exact e) (λb ps e=>⟨#[],by rw [ao (nT _ _ e),e];simp⟩) (λm hm=>hm) (λb u e=>?_) I.bare
 ·have e:b=T:=by simpa using hb
  subst e;obtain⟨_,f1,_,f3,f4,f5⟩:=hf;exact⟨f3,f1,f4,f5⟩
 ·by_cases z:b=T
  ·subst z;rw [ag] at e;cases e;exact new
  ·rw [ao z] at e;exact (I.hok b u e).gK (λc v _ q=>q) (λc q=>by rw [ao (nT _ _ q)];exact q) λc xs q=>by rw [ao (nT _ _ q)];exact q
end
noncomputable def FE (K:G1) (a:G6):It :=
 ⟨λi H=>∃ xs x,aM K H a xs/\xs[i]?=GZ x,λi H x H'=>∃ p v,H p=none/\x=.ref p/\(∀ xs,aM K H a xs->xs[i]?=GZ v)/\H'=upd H p (.tup [.int i,v]),λi H=>∃ xs,aM K H a xs/\xs.length<=i⟩
theorem wQ {P:Hq} {w:HU} {K:G1} {elts:List Ik} {x1} {pos:K8} (a it e:G6) (ne:e≠it):Turn P w K (.Tuple elts x1 pos) (FE K a) [e,it] e (λi h=>(∃ old,IsEnum h e it i old)/\h.IsListIter it a i) where
 mem:=by simp
 obj:=λi h st b hb=>by
  obtain⟨⟨old,he⟩,hit⟩:=st;rcases Hw.mp hb with z | z
  ·subst z;exact⟨_,he,λv z=>by cases z⟩
  ·have z:b=it:=by simpa using z
   subst z;obtain⟨o,e,c,d⟩:=hit;exact⟨o,e,λv z=>by rw [d] at z;cases z⟩
 keep:=λi h h' st k=>by obtain⟨⟨old,he⟩,hit⟩:=st;exact⟨⟨old,k e (by simp) _ he⟩,hit.at λo x=>k it (by simp) o x⟩
 item:=by
  intro X hP hw hK hc i pins s σ H E I hf st hg;subst hP hw hK;obtain⟨xs,x,hq,hx⟩:=hg;obtain⟨its,rv,p,hz⟩:=I.list hq;obtain⟨u,hu,ru⟩:=rv.get hx;obtain⟨⟨old,he⟩,hit⟩:=st;refine wpAny_pyNext_enum_item he hit p.isList (x:=u) (by simpa using hu) ne λh' ho hit' hT hsz hk=>?_;refine⟨_,rfl,?_⟩;have fT:H s.heap.objs.size=none:=I.hok.fresh (Hd _);refine wpAny_letOwnedTupleGo_enum ho λh2 he2 hs2=>?_;have hke:∀ b o,b∉[e,it]->s.heap.get? b=GZ o->h2.get? b=GZ o:=λb o hb q=>by have n1:b≠e:=λz=>hb (by simp [z]);have n2:b≠it:=λz=>hb (by simp [z]);exact (hs2.2 b n1).trans (hk b o n1 n2 q)
  have I1:Inv X pins σ H { s with heap:=h2,toks:=s.toks+1 }:=I.kZ hke hf;have ne1:s.heap.objs.size≠e:=K0 (Hn he);have hT2:h2.get? s.heap.objs.size=GZ { cls:=.type "tuple",data:=.seq #[.int i s.toks,u] }:=(hs2.2 _ ne1).trans hT;refine⟨.ref s.heap.objs.size,upd H s.heap.objs.size (.tup [.int i,x]),?_,rfl,⟨_,x,fT,rfl,λys hy=>by rw [I.lM hy hq];exact hx,rfl⟩,⟨⟨u,by simpa using he2⟩,hit'.at λo q=>(hs2.2 it (IJ ne)).trans q⟩,λb hb=>?_⟩
  ·have:=I1.adopt (T:=s.heap.objs.size) (o:=.tup [.int i,x]) (I.mR (Hd _) fT) ⟨by show 2<=sizeLine;decide,[.int i s.toks,u],.cons ⟨_,rfl⟩ (.cons ru .nil),⟨_,hT2,rfl,_,rfl⟩⟩;exact this
  ·have ne2:s.heap.objs.size≠it:=by obtain⟨o,q,_⟩:=hit;exact K0 (Hn q)
   have nb:b≠s.heap.objs.size:=λz=>by
    subst z;simp only [Hw,Js,or_false] at hb;rcases hb with y | y
    ·exact ne1 y
    ·exact ne2 y
   rw [ao nb];exact (hf b hb).1
 done:=by intro X hP hw hK hc i pins s σ H E I hf st hg;subst hP hw hK;obtain⟨xs,hq,hx⟩:=hg;obtain⟨its,rv,p,hz⟩:=I.list hq;have hl:=rv.length;obtain⟨⟨old,he⟩,hit⟩:=st;exact wpAny_pyNext_enum_end (I.ok.hd hc) he hit p.isList (by simp;lia) λh' eb=>⟨rfl,I.kZ (t':=s.toks) (ch:=[it]) (λb o hb q=>eb b o (λz=>hb (by simp [z])) q) (λb hb=>hf b (Ha _ hb))⟩
 self:=λ_ _ _ _ _ st h=>by obtain⟨⟨old,he⟩,_⟩:=st;exact Qm he h
def B0 (K:G1) (ta:TA):TI:=λσ H R=>ta σ H λvs H1=>∃ a,vs=[.ref a]/\(∃ xs,aM K H1 a xs)/\R (FE K a) H1
theorem kE:bootBuiltins "enumerate"=GZ (.type "enumerate"):=by decide +kernel
theorem pR {X:Cx} {elts:List Ik} {x1} {tpos:K8} {a:Ik} {ta:TA} {p pos:K8} (hg:Gl X "enumerate") (hm:X.mg "enumerate"=none) (ha:PA X [a] ta) (hs:autoParam (starEach [a] X.env=[(false,eval a X.env)]) Z0._auto_1) :
  PI X (.Tuple elts x1 tpos) (.Call (.Name "enumerate" p) [a] [] pos) (B0 X.K ta):=by
 intro pins s σ H R I h;refine Call_ (iE I hg hm kE (JW (a9 (ha pos pins s σ H _ I h) λus s1 hZ=>?_) hs rfl));obtain⟨vs,H1,I1,r1,q1⟩:=hZ;obtain⟨b,e,⟨xs,hq⟩,q⟩:=q1;subst e;cases r1 with
 | cons r rr =>
  cases rr;cases r;obtain⟨its,rv,pl,hz⟩:=I1.list hq;refine call_enumerate_list pl.isList λh' he hit hsz hk=>?_;refine Qm he ?_;have I2:Inv X pins σ H1 { s1 with heap:=h' }:=I1.kept (t':=s1.toks) hk;refine⟨_,[s1.heap.objs.size+1,s1.heap.objs.size],_,_,H1,rfl,I2,wQ b s1.heap.objs.size (s1.heap.objs.size+1) (Nat.succ_ne_self _),⟨⟨_,he⟩,hit⟩,λc hc=>?_,q⟩;simp only [Hw,Js,or_false] at hc;rcases hc with rfl | rfl
  ·exact I1.mR (by lia) (I1.hok.fresh (by lia))
  ·exact I1.mR (by lia) (I1.hok.fresh (by lia))
theorem jS {K:G1} {a:G6} {xs:List V} {g:TG} {tb:TS} {D:Ends} {σ:St} {H:Hp} (Pv:Nat->St->Hp->Prop) (h0:Pv 0 σ H) (hl:∀ i σ H,i<=xs.length->Pv i σ H->aM K H a xs)
  (hs:∀ i x σ H p,xs[i]?=GZ x->Pv i σ H->H p=none->g (.ref p) σ (upd H p (.tup [.int i,x])) λσ2 H2=>tb { D with nx:=Pv (i+1),ct:=Pv (i+1),bk:=D.nx } σ2 H2) (hd:∀ σ H,Pv xs.length σ H->D.nx σ H):Loop (FE K a) g tb D σ H:=by
 refine⟨λi m σ H=>m=xs.length-i/\i<=xs.length/\Pv i σ H,⟨xs.length,by simp,IV _,h0⟩,?_⟩;rintro i m σ H ⟨rfl,hi,p⟩;have q:=hl i σ H hi p;by_cases hlt:i<xs.length
 ·have hx:xs[i]?=GZ xs[i]:=Hf hlt;refine .inr ⟨⟨xs,_,q,hx⟩,Pv (i+1),λσ' H' p'=>⟨xs.length-(i+1),by lia,rfl,hlt,p'⟩,λx H' y=>?_⟩;obtain⟨pt,v,f,e1,e2,e3⟩:=y;subst e1 e3;have:=e2 xs q;exact hs i v σ H pt this p f
 ·have e:i=xs.length:=by lia
  subst e;exact .inl ⟨⟨xs,q,Hd _⟩,hd σ H p⟩
end L2
namespace Crt
structure G (a b g:Int):Prop where
 pos:0<g
 da:g∣a
 db:g∣b
 lin:∃ u v:Int,u*a+v*b=g
theorem G.gr {a b g d:Int} (h:G a b g) (h1:d∣a) (h2:d∣b):d∣g:=by obtain⟨u,v,e⟩:=h.lin;rw [<- e];exact Jx (Hh h1) (Hh h2)
theorem G.one {a b g g':Int} (h:G a b g) (h':G a b g'):g=g':=OC (Hx h'.pos (h'.gr h.da h.db)) (Hx h.pos (h.gr h'.da h'.db))
theorem a1 {g u A v L:Int} (e:u*(g*A)+v*(g*L)=g):g*(u*A+v*L)=g*1:=by grind
theorem a2 {g A k L l y:Int} (h1:y=g*A*k) (h2:y=g*L*l):g*(A*k)=g*(L*l):=by grind
theorem a3 {u A v L k l:Int} (e4:u*A+v*L=1) (e5:A*k=L*l):k=L*(u*l+v*k):=by
 have z:k*(u*A+v*L)=k:=by rw [e4,Jo]
 grind
theorem a4 {A D r L q1 t:Int} (et:L*q1+t=D*r):A*t=A*(D*r)-A*(L*q1):=by grind
theorem a5 {D r A L c:Int} (hc:r*A-1=L*c):D*(r*A)-D=D*(L*c):=by rw [<- hc];grind
theorem a6 {M L t q2 N x:Int} (ex:M*L*q2+x=N+M*t):x-N=M*(t-L*q2):=by grind
theorem a7 {g A L t q1 q2 c D r N x:Int} (z3:x=N+g*A*t-g*A*L*q2) (z1:A*t=A*(D*r)-A*(L*q1)) (z2:D*(r*A)-D=D*(L*c)):x-(N+g*D)=g*L*(c*D-q1*A-A*q2):=by grind
theorem a8 {M L k w:Int} (h:k=L*w):M*k=M*L*w:=by rw [h,Ib]
structure CD (M N m n W x:Int):Prop where
 pos:0<W
 dM:M∣W
 dm:m∣W
 le:∀ y:Int,M∣y->m∣y->W∣y
 x0:0<=x
 x1:x<W
 eM:M∣x-N
 em:m∣x-n
theorem both {M N m n g r:Int} (hM:0<M) (hm:0<m) (h:G M m g) (hd:g∣n-N) (hr:m/g∣r*(M/g)-1):CD M N m n (M*(m/g)) ((N+M*((n-N)/g*r%(m/g)))%(M*(m/g))):=by
 obtain⟨A,hA⟩:=h.da;obtain⟨L,hL⟩:=h.db;obtain⟨D,hD⟩:=hd;have g0:=h.pos;have e1:m/g=L:=by rw [hL];exact HW _ (by lia)
 have e2:M/g=A:=by rw [hA];exact HW _ (by lia)
 have e3:(n-N)/g=D:=by rw [hD];exact HW _ (by lia)
 rw [e1,e2] at hr;rw [e1,e3];have L0:0<L:=by
  rcases (by lia:L<=0∨0<L) with z | z
  ·have:=Iu (IT g0) z;lia
  ·exact z
 have W0:0<M*L:=Ma hM L0;have dm:m∣M*L:=⟨A,by rw [hA,hL,Ib,Ib,Ia A L]⟩
 have et:=Jd (D*r) L;have ex:=Jd (N+M*(D*r%L)) (M*L);generalize hT:D*r%L=t at *;generalize D*r/L=q1 at *;have X0:=Hl (N+M*t) (show M*L≠0 by lia);have X1:=Hk (N+M*t) W0;generalize (N+M*t)%(M*L)=x at *;generalize (N+M*t)/(M*L)=q2 at *;obtain⟨c,hc⟩:=hr;refine⟨W0,⟨L,rfl⟩,dm,λy h1 h2=>?_,X0,X1,⟨t-L*q2,a6 ex⟩,?_⟩
 ·obtain⟨k,hk⟩:=h1;obtain⟨l,hl⟩:=h2;obtain⟨u,v,e⟩:=h.lin;have e4:u*A+v*L=1:=Jg (show g≠0 by lia) (a1 (by rw [hA,hL] at e;exact e));have e5:A*k=L*l:=Jg (show g≠0 by lia) (a2 (y:=y) (by rw [hA] at hk;exact hk) (by rw [hL] at hl;exact hl));exact⟨u*l+v*k,by rw [hk];exact a8 (a3 e4 e5)⟩
 ·refine⟨c*D-q1*A-A*q2,?_⟩;have hN:n=N+g*D:=by lia
  have z3:x=N+g*A*t-g*A*L*q2:=by rw [hA] at ex;lia
  rw [hN,hL];exact a7 z3 (a4 et) (a5 hc)
theorem FD:∀(b a:Nat),0<a->∃ g,G (a:Int) (b:Int) g:=by
 intro b
 induction b using LW with
 | ind b ih =>
  intro a ha;rcases Io b with z | z
  ·subst z;exact⟨a,by lia,Lo _,Mt _,1,0,by simp⟩
  ·obtain⟨g,h⟩:=ih (a%b) (Ou a z) b z;obtain⟨u,v,e⟩:=h.lin;have ed:(a:Int)=(b:Int)*((a/b:Nat):Int)+((a%b:Nat):Int):=by have:=Lw a b;rw [<- Im,<- M5,this]
   refine⟨g,h.pos,?_,h.da,v,u-v*((a/b:Nat):Int),?_⟩
   ·rw [ed];exact Jx (JV h.da) h.db
   ·rw [ed,<- e];generalize ((a/b:Nat):Int)=q;generalize ((a%b:Nat):Int)=r;generalize (b:Int)=b'
    grind
theorem BO {a b:Int} (ha:0<a) (hb:0<b):∃ g,G a b g:=by obtain⟨g,h⟩:=FD b.toNat a.toNat (by lia);rw [Hb (by lia),Hb (by lia)] at h;exact⟨g,h⟩
structure Told (ps:List (Int × Int)) (M N:Int):Prop where
 pos:0<M
 x0:0<=N
 x1:N<M
 dv:∀ p∈ps,p.1∣M
 le:∀ y:Int,(∀ p∈ps,p.1∣y)->M∣y
 al:∀ p∈ps,p.1∣N-p.2
theorem Told.nil:Told [] 1 0:=⟨by decide,by decide,by decide,λ_ h=>by simp at h,λy _=>⟨y,by lia⟩,λ_ h=>by simp at h⟩
theorem Told.step {ps:List (Int × Int)} {M N m n W x:Int} (h:Told ps M N) (b:CD M N m n W x):Told (ps++[(m,n)]) W x:=by
 refine⟨b.pos,b.x0,b.x1,λp hp=>?_,λy hy=>?_,λp hp=>?_⟩
 ·rcases IC.mp hp with z | z
  ·exact KJ (h.dv p z) b.dM
  ·rw [Ho.mp z];exact b.dm
 ·exact b.le y (h.le y λp hp=>hy p (JT _ hp)) (hy (m,n) (Hm _ (by simp)))
 ·rcases IC.mp hp with z | z
  ·have e1:=KJ (h.dv p z) b.eM;have e2:=h.al p z;have:=Jx e1 e2
   rwa [show x-N+(N-p.2)=x-p.2 by lia] at this
  ·rw [Ho.mp z];exact b.em
theorem Told.fits {ps:List (Int × Int)} {M N m n g:Int} (h:Told ps M N) (G0:G M m g) (hp:∀ p∈ps,∀ d,G p.1 m d->d∣p.2-n) (hG:∀ p∈ps,∃ d,G p.1 m d):g∣n-N:=by
 obtain⟨A,hA⟩:=G0.da;obtain⟨L,hL⟩:=G0.db;have g0:=G0.pos;have key:M∣(n-N)*A:=by
  refine h.le _ λp hm=>?_;obtain⟨d,hd⟩:=hG p hm;obtain⟨u,v,e⟩:=hd.lin;have d1:d∣n-N:=by
   have z1:=hp p hm d hd;have z2:=KJ hd.da (h.al p hm);have:=Jx z1 z2;have w:=(OY).mpr this
   rwa [show -(p.2-n+(N-p.2))=n-N by lia] at w
  obtain⟨c,hc⟩:=d1;obtain⟨B,hB⟩:=h.dv p hm;refine⟨c*(u*A+v*L*B),?_⟩;rw [hc,<- e];have:m*A=p.1*(L*B):=by
   have z:g*(m*A)=g*(p.1*(L*B)):=by
    have:m*M=g*L*(p.1*B):=by rw [hL,hB]
    have z2:g*(m*A)=m*M:=by rw [hA];grind
    rw [z2,this];grind
   exact Jg (by lia) z
  grind
 obtain⟨c,hc⟩:=key;have A0:A≠0:=λz=>by rw [z] at hA;have:=h.pos;lia
 refine⟨c,?_⟩;have:A*(n-N)=A*(g*c):=by rw [Ia A (n-N),hc,hA];grind
 exact Jg A0 this
theorem Told.one {ps:List (Int × Int)} {M N M' N':Int} (h:Told ps M N) (h':Told ps M' N'):M=M'/\N=N':=by
 have e:M=M':=OC (Hx h'.pos (h.le _ h'.dv)) (Hx h.pos (h'.le _ h.dv));subst e;refine⟨rfl,?_⟩;have z:M∣N-N':=h.le _ λp hp=>by
  have:=Mb (h.al p hp) (h'.al p hp)
  rwa [show N-p.2-(N' - p.2)=N-N' by lia] at this
 have w:=Jw;have:=(Kw (m:=N) (n:=M) (k:=N')).mpr (Ig z)
 rwa [Ii h.x0 h.x1,Ii h'.x0 h'.x1] at this
end Crt
namespace Num
def Al (n x y:Int):Prop:=n∣x-y
theorem Al.refl (n x:Int):Al n x x:=⟨0,by lia⟩
theorem Al.symm {n x y:Int} (h:Al n x y):Al n y x:=by
 have:=(OY).mpr h
 rwa [show -(x-y)=y-x by lia] at this
theorem Al.trans {n x y z:Int} (h:Al n x y) (h':Al n y z):Al n x z:=by
 have:=Jx h h'
 rwa [show x-y+(y-z)=x-z by lia] at this
theorem Al.mul {n x y u v:Int} (h:Al n x y) (h':Al n u v):Al n (x*u) (y*v):=by
 have h1:n∣(x-y)*u:=JV h;have h2:n∣y*(u-v):=Hh h';have:=Jx h1 h2
 rwa [show (x-y)*u+y*(u-v)=x*u-y*v by rw [O0,QS];lia] at this
theorem Al.pow {n x y:Int} (h:Al n x y):∀ k:Nat,Al n (x^k) (y^k)
 | 0=>by rw [HS,HS];exact Al.refl _ _
 | k+1=>by rw [Hu,Hu];exact (Al.pow h k).mul h
theorem Al.iff {n x y:Int}:Al n x y↔x%n=y%n:=Pw.CW.symm
theorem Al.rest (n x:Int):Al n (x%n) x:=Al.iff.mpr (Jw x (Lo n))
def Co (a n:Int):Prop:=∃ u v:Int,u*a+v*n=1
theorem Co.dvd {a n b:Int} (h:Co a n) (hd:n∣a*b):n∣b:=by
 obtain⟨u,v,e⟩:=h;have h1:n∣u*(a*b):=Hh hd;have h2:n∣(v*b)*n:=⟨v*b,Ia _ _⟩
 have:=Jx h1 h2;have e2:u*(a*b)+v*b*n=(u*a+v*n)*b:=by rw [SO,Ib u a b,Ib v n b,Ia n b,Ib v b n]
 rw [e2,e,Jl] at this;exact this
theorem Co.cancel {a n x y:Int} (h:Co a n) (e:Al n (a*x) (a*y)):Al n x y:=by refine h.dvd ?_;rw [QS];exact e
theorem Co.mul {a b n:Int} (h:Co a n) (h':Co b n):Co (a*b) n:=by
 obtain⟨u,v,e⟩:=h;obtain⟨u',v',e'⟩:=h';refine⟨u*u',u*a*v'+v*(u'*b+v'*n),?_⟩;have:(u*a+v*n)*(u'*b+v'*n)=1:=by rw [e,e'];rfl
 grind
theorem Co.pow {a n:Int} (h:Co a n):∀ k:Nat,Co (a^k) n
 | 0=>⟨1,0,by rw [HS];simp⟩
 | k+1=>by rw [Hu];exact (Co.pow h k).mul h
theorem Co.yA {a b n:Int} (h:Co a n) (e:Al n a b):Co b n:=by
 obtain⟨u,v,e1⟩:=h;obtain⟨c,hc⟩:=e;refine⟨u,v+u*c,?_⟩;have:b=a-n*c:=by lia
 rw [this]
 grind
theorem aN {n a:Int} {d k:Nat} (h:Al n (a^d) 1):Al n (a^(d*k)) 1:=by
 rw [Pw.pow_mul];have:=h.pow k
 rwa [Pw.one_pow] at this
structure Ord (n a:Int) (m:Nat):Prop where
 pos:0<m
 one:Al n (a^m) 1
 dv:∀ j:Nat,Al n (a^j) 1->m∣j
theorem pow_mod {n a:Int} {m j:Nat} (h:Al n (a^m) 1) (hj:Al n (a^j) 1):Al n (a^(j%m)) 1:=by
 have e:a^j=a^(m*(j/m))*a^(j%m):=by rw [<- Pw.pow_add,Lw]
 rw [e] at hj;have h1:=(aN (k:=j/m) h).mul (Al.refl n (a^(j%m)));rw [Jl] at h1;exact h1.symm.trans hj
theorem i8 {n a:Int} {m:Nat} (pos:0<m) (one:Al n (a^m) 1) (no:∀ j,0<j->j<m->¬Al n (a^j) 1):Ord n a m:=by
 refine⟨pos,one,λj hj=>?_⟩;have h:=pow_mod one hj;rcases Io (j%m) with z | z
 ·exact Nat.dvd_of_mod_eq_zero z
 ·exact absurd h (no _ z (Ou _ pos))
theorem fZ {P:Nat->Prop}:∀ N:Nat,P N->∃ m,P m/\∀ j,j<m->¬P j:=by
 intro N
 induction N using LW with
 | ind N ih =>
  intro h;by_cases z:∃ j,j<N/\P j
  ·obtain⟨j,hj,pj⟩:=z;exact ih j hj pj
  ·exact⟨N,h,λj hj pj=>z ⟨j,hj,pj⟩⟩
theorem pO {n a:Int} {N:Nat} (pos:0<N) (h:Al n (a^N) 1):∃ m,Ord n a m/\m<=N:=by
 obtain⟨m,⟨m0,m1⟩,no⟩:=fZ (P:=λj=>0<j/\Al n (a^j) 1) N ⟨pos,h⟩;refine⟨m,i8 m0 m1 λj j0 jm z=>no j jm ⟨j0,z⟩,?_⟩;by_cases z:m<=N
 ·exact z
 ·exact absurd ⟨pos,h⟩ (no N (by lia))
theorem Ord.pM {n a:Int} {m m':Nat} (h:Ord n a m) (h':Ord n a m'):m=m':=Oa (h.dv _ h'.one) (h'.dv _ h.one)
theorem Ord.inj {n a:Int} {m i j:Nat} (h:Ord n a m) (c:Co a n) (hi:i<m) (hj:j<m) (e:Al n (a^i) (a^j)):i=j:=by
 have aux:∀ i j:Nat,i<m->j<m->i<=j->Al n (a^i) (a^j)->i=j:=by
  intro i j hi hj hij e;have e1:a^j=a^i*a^(j-i):=by rw [<- Pw.pow_add];congr 1;lia
  rw [e1] at e;have e2:Al n (a^i*1) (a^i*a^(j-i)):=by rw [Jo];exact e
  have e3:=(c.pow i).cancel e2;have:=h.dv _ e3.symm;rcases Io (j-i) with z | z
  ·lia
  ·have:=La z this;lia
 rcases So i j with z | z
 ·exact aux i j hi hj z e
 ·exact (aux j i hj hi z e.symm).symm
theorem pS:∀(n:Nat) (l:List Nat),l.Nodup->(∀ x∈l,x<n)->l.length<=n:=by
 intro n
 induction n with
 | zero =>
  intro l _ h;cases l with
  | nil=>exact Hd _
  | cons x r=>exact absurd (h x (by simp)) (by lia)
 | succ n ih =>
  intro l nd h;by_cases c:n∈l
  ·have h1:=ih (l.erase n) (nd.erase n) λx hx=>by
    have hx':=List.mem_of_mem_erase hx;have ne:x≠n:=λz=>by subst z;exact absurd hx (List.Nodup.not_mem_erase nd)
    have:=h x hx';lia
   rw [List.length_erase_of_mem c] at h1;lia
  ·have h1:=ih l nd λx hx=>by have:=h x hx;have ne:x≠n:=λz=>c (z▸hx);lia
   lia
end Num
namespace Num
structure Pm (p:Int):Prop where
 two:2<=p
 no:∀ d:Int,2<=d->d<p->¬d∣p
theorem Pm.co {p a:Int} (h:Pm p) (ha:¬p∣a):Co a p:=by
 have h2:=h.two;have r0:=Hl a (show p≠0 by lia);have r1:=Hk a (show 0<p by lia);have rn:a%p≠0:=λz=>ha (HD z);obtain⟨g,G⟩:=Crt.BO (a:=a%p) (b:=p) (by lia) (by lia);have gl:=Hx (show 0<a%p by lia) G.da;have g1:g=1:=by
  have g0:=G.pos;rcases (by lia:g=1∨2<=g) with z | z
  ·exact z
  ·exact absurd G.db (h.no g z (by lia))
 obtain⟨u,v,e⟩:=G.lin;rw [g1] at e;exact Co.yA ⟨u,v,e⟩ (Al.rest p a)
theorem Pm.or {p a b:Int} (h:Pm p) (hd:p∣a*b) (ha:¬p∣a):p∣b:=(h.co ha).dvd hd
theorem Pm.uO {p:Int} (h:Pm p):¬Al p 0 1:=λz=>by have h2:=h.two;have z':p∣0-1:=z;have z2:=(OY).mpr z';rw [show -((0:Int)-1)=1 by decide] at z2;have:=Hx (show (0:Int)<1 by decide) z2;lia
noncomputable def H:Int->List Int->Int->Int
 | acc,[],_=>acc
 | acc,c::cs,x=>H (acc*x+c) cs x
theorem xb (x:Int):∀(cs:List Int) (a b:Int),H (a+b) cs x=H a cs x+b*x^cs.length
 | [],a,b=>by rw [LX,HS,Jo];rfl
 | c::cs,a,b=>by show H ((a+b)*x+c) cs x=H (a*x+c) cs x+b*x^(cs.length+1);rw [show (a+b)*x+c=(a*x+c)+b*x by rw [SO];lia,xb x cs,Hu,Ib,Ia x]
noncomputable def Bk (r:Int):Int->List Int->List Int
 | _,[]=>[]
 | _,[_]=>[]
 | c0,c::c'::cs=>(c0*r+c)::Bk r (c0*r+c) (c'::cs)
theorem pX (r:Int):∀(cs:List Int) (c0:Int),(Bk r c0 cs).length=cs.length-1
 | [],_=>rfl
 | [_],_=>rfl
 | c::c'::cs,c0=>by show (Bk r (c0*r+c) (c'::cs)).length+1=_;rw [pX r (c'::cs)];simp
theorem factor (x r:Int):∀(cs:List Int) (c0:Int),cs≠[]->H c0 cs x-H c0 cs r=(x-r)*H c0 (Bk r c0 cs) x
 | [],_,h=>absurd rfl h
 | [c],c0,_=>by show c0*x+c-(c0*r+c)=(x-r)*c0;rw [O0,Ia c0 x,Ia c0 r];lia
 | c::c'::cs,c0,_=>by
  have ih:=factor x r (c'::cs) (c0*r+c) (by simp);show H (c0*x+c) (c'::cs) x-H (c0*r+c) (c'::cs) r=(x-r)*H (c0*x+(c0*r+c)) (Bk r (c0*r+c) (c'::cs)) x;have e1:c0*x+c=(c0*r+c)+c0*(x-r):=by rw [QS];lia
  have e2:H (c0*x+(c0*r+c)) (Bk r (c0*r+c) (c'::cs)) x=H (c0*r+c) (Bk r (c0*r+c) (c'::cs)) x+c0*x*x^cs.length:=by rw [Int.add_comm (c0*x),xb,pX];simp
  rw [e1,xb,e2,Ji,Hu,SQ,<- ih];generalize H (c0*r+c) (c'::cs) x=A;generalize H (c0*r+c) (c'::cs) r=B;generalize x^cs.length=Y
  grind
theorem roots {p:Int} (hp:Pm p):∀(n:Nat) (cs:List Int) (c0:Int),cs.length=n->¬p∣c0->∀ rs:List Int,rs.Pairwise (λa b=>¬Al p a b)->(∀ r∈rs,p∣H c0 cs r)->rs.length<=n:=by
 intro n
 induction n with
 | zero =>
  intro cs c0 hl h0 rs hr hz;have:cs=[]:=Lh hl;subst this;cases rs with
  | nil=>exact Hd _
  | cons r rs=>exact absurd (hz r (by simp)) h0
 | succ n ih =>
  intro cs c0 hl h0 rs hr hz;cases rs with
  | nil=>exact IV _
  | cons r rs =>
   have hne:cs≠[]:=λz=>by rw [z] at hl;simp at hl
   obtain⟨h1,h2⟩:=Jz.mp hr;have:=ih (Bk r c0 cs) c0 (by rw [pX,hl];rfl) h0 rs h2 λs hs=>by have e:=factor s r cs c0 hne;have d1:=hz s (Ha _ hs);have d2:=hz r (by simp);have d3:=Mb d1 d2;rw [e] at d3;exact hp.or d3 λz=>h1 s hs (Al.symm z)
   simpa using this
theorem xc (x:Int):∀(n:Nat) (a:Int),H a (KP n 0++[-1]) x=a*x^(n+1)-1
 | 0,a=>by show a*x + -1=_;rw [Hu,HS,Jl];lia
 | n+1,a=>by show H (a*x+0) (KP n 0++[-1]) x=_;rw [xc x n,Ni,Hu x (n+1),Ia (x^(n+1)) x,Ib]
theorem An {p:Int} (hp:Pm p) {n:Nat} (hn:0<n) (h:∀ a:Int,¬p∣a->Al p (a^n) 1):p-1<=n:=by
 have h2:=hp.two;obtain⟨m,rfl⟩:∃ m,n=m+1:=⟨n-1,by lia⟩
 have key:=roots hp (m+1) (KP m 0++[-1]) 1 (by simp) (λz=>by have:=Hx (by decide) z;lia) ((IY (p-1).toNat).map λi:Nat=>(i:Int)+1) ?_ ?_
 ·rw [G4,Jb] at key;lia
 ·rw [J7];refine Ks (R:=(·<·)) (λ{a b} ha hb hab z=>?_) Lp;have hb':=IF.mp hb;have:=Hx (by lia) (Al.symm z);lia
 ·intro r hr;obtain⟨i,hi,rfl⟩:=HE.mp hr;have hi':=IF.mp hi;rw [xc,Jl];exact h _ λz=>by have:=Hx (by lia) z;lia
theorem nP {f:Nat->Nat} {n:Nat} (h:∀ i j,i<j->j<n->f i≠f j):((IY n).map f).Nodup:=by show List.Pairwise _ _;rw [J7];exact Ks (R:=(·<·)) (λ{a b} ha hb hab=>h a b hab (IF.mp hb)) Lp
theorem rest_eq {p x y:Int} (hp:0<p) (e:(x%p).toNat=(y%p).toNat):Al p x y:=by have h1:=Hl x (show p≠0 by lia);have h2:=Hl y (show p≠0 by lia);exact Al.iff.mpr (by lia)
theorem back {n a:Int} (hn:2<=n) (c:Co a n):∃ d:Nat,0<d/\(d:Int)<=n/\Al n (a^d) 1:=by
 by_cases z:∃ i j:Nat,i<j/\j<n.toNat+1/\Al n (a^i) (a^j)
 ·obtain⟨i,j,ij,jn,e⟩:=z;refine⟨j-i,by lia,by lia,?_⟩;have e1:a^j=a^i*a^(j-i):=by rw [<- Pw.pow_add];congr 1;lia
  rw [e1] at e;have e2:Al n (a^i*1) (a^i*a^(j-i)):=by rw [Jo];exact e
  exact ((c.pow i).cancel e2).symm
 ·exfalso;have nd:=nP (f:=λi=>(a^i%n).toNat) (n:=n.toNat+1) λi j ij jn e=>z ⟨i,j,ij,jn,rest_eq (by lia) e⟩;have:=pS n.toNat _ nd λx hx=>by obtain⟨i,_,rfl⟩:=HE.mp hx;have h1:=Hl (a^i) (show n≠0 by lia);have h2:=Hk (a^i) (show 0<n by lia);show (a^i%n).toNat<n.toNat;lia
  rw [G4,Jb] at this;lia
noncomputable def fact:Nat->Nat
 | 0=>1
 | n+1=>(n+1)*fact n
theorem qU:∀ n,0<fact n
 | 0=>by decide
 | n+1=>K2 (Nat.succ_pos n) (qU n)
theorem qQ {d:Nat}:∀ n,0<d->d<=n->d∣fact n
 | 0,h,h'=>by lia
 | n+1,h,h'=>by
  by_cases c:d=n+1
  ·subst c;exact⟨fact n,rfl⟩
  ·exact Lb (qQ n h (by lia)) ⟨n+1,Ij _ _⟩
theorem Ord.mul {n a b:Int} {k m:Nat} (ha:Ord n a k) (hb:Ord n b m) (ca:Co a n) (cb:Co b n) (co:Li k m):Ord n (a*b) (k*m):=by
 refine⟨K2 ha.pos hb.pos,?_,λj hj=>?_⟩
 ·rw [Pw.mul_pow];have h1:=aN (k:=m) ha.one;have h2:=aN (k:=k) hb.one;rw [Ij m k] at h2;exact h1.mul h2
 ·rw [Pw.mul_pow] at hj;have d1:k∣j:=by
   have e:=hj.pow m;rw [Pw.one_pow,Pw.mul_pow,<- Pw.pow_mul,<- Pw.pow_mul] at e;have h2:=aN (k:=j) hb.one;rw [Ij m j] at h2;have e2:Al n (a^(j*m)) 1:=by have:=(Al.refl n (a^(j*m))).mul h2.symm;rw [Jo] at this;exact this.trans e
   exact Mu co (ha.dv _ e2)
  have d2:m∣j:=by
   have e:=hj.pow k;rw [Pw.one_pow,Pw.mul_pow,<- Pw.pow_mul,<- Pw.pow_mul] at e;have h2:=aN (k:=j) ha.one;rw [Ij k j] at h2;have e2:Al n (b^(j*k)) 1:=by have:=h2.symm.mul (Al.refl n (b^(j*k)));rw [Jl] at this;exact this.trans e
   exact Mu co.symm (hb.dv _ e2)
  exact P4 co d1 d2
end Num
namespace Num
def Nm (q:Nat):Prop:=2<=q/\∀ d,2<=d->d<q->¬d∣q
theorem EM {m:Nat} (h:2<=m):∃ q,Nm q/\q∣m:=by obtain⟨q,⟨q2,qm⟩,no⟩:=fZ (P:=λd=>2<=d/\d∣m) m ⟨h,Nk m⟩;exact⟨q,⟨q2,λd d2 dq hd=>no d dq ⟨d2,Lb hd qm⟩⟩,qm⟩
theorem Nm.co {q m:Nat} (h:Nm q) (hm:¬q∣m):Li q m:=by
 have hg:=Ob q m;have g0:0<Ov q m:=Oc m (by have:=h.1;lia);have gl:=La (by have:=h.1;lia) hg;rcases (by lia:Ov q m=1∨(2<=Ov q m/\Ov q m<q)∨Ov q m=q) with z | ⟨z1,z2⟩ | z
 ·exact z
 ·exact absurd hg (h.2 _ z1 z2)
 ·exact absurd (z▸Mv q m) hm
theorem zK {q:Nat} (hq:2<=q):∀ m:Nat,0<m->∃ k m',m=q^k*m'/\¬q∣m':=by
 intro m
 induction m using LW with
 | ind m ih =>
  intro hm;by_cases c:q∣m
  ·obtain⟨t,ht⟩:=c;have t0:0<t:=by
    rcases Io t with z | z
    ·subst z;lia
    ·exact z
   have tm:t<m:=by rw [ht];have:=Ku t hq;lia
   obtain⟨k,m',e,hn⟩:=ih t tm t0;exact⟨k+1,m',by rw [ht,e,Jq,Ij (q^k) q,Jn],hn⟩
  ·exact⟨0,m,by simp,c⟩
theorem uV {q:Nat} (h:Nm q):∀(k d:Nat),d∣q^(k+1)->¬d∣q^k->d=q^(k+1):=by
 intro k
 induction k with
 | zero =>
  intro d h1 h2;rw [Lq,SR] at h1 ⊢;rw [K3] at h2;have q2:=h.1;have d0:0<d:=OH h1 (by lia);have dl:=La (by lia) h1;rcases (by lia:d=1∨(2<=d/\d<q)∨d=q) with z | ⟨z1,z2⟩ | z
  ·exact absurd (z▸Nk 1) h2
  ·exact absurd h1 (h.2 d z1 z2)
  ·exact z
 | succ k ih =>
  intro d h1 h2;by_cases c:q∣d
  ·obtain⟨t,ht⟩:=c;have q0:0<q:=by have:=h.1;lia
   rw [ht,Jq,Ij (q^(k+1)) q] at h1;rw [ht,Jq,Ij (q^k) q] at h2;have e1:=Nl q0 h1;have e2:¬t∣q^k:=λz=>h2 (Nat.mul_dvd_mul_left q z);rw [ht,ih t e1 e2,Jq q (k+1),Ij]
  ·have co:Li (q^(k+1+1)) d:=MW _ (h.co c);have:d∣1:=by
    have:=O1 h1 (Nk d)
    rwa [co] at this
   exact absurd (Lb this (O2 _)) h2
section
variable {p:Int} {L:Nat}
structure Ex (p:Int) (L:Nat):Prop where
 pos:0<L
 all:∀ a:Int,¬p∣a->Al p (a^L) 1
 no:∀ j,0<j->j<L->∃ a:Int,¬p∣a/\¬Al p (a^j) 1
theorem Pm.unit {p a:Int} (hp:Pm p) (c:Co a p):¬p∣a:=λh=>by
 obtain⟨u,v,e⟩:=c;have h1:p∣u*a:=Hh h;have h2:p∣v*p:=⟨v,Ia _ _⟩
 have:=Jx h1 h2;rw [e] at this;have:=Hx (by decide) this;have:=hp.two;lia
theorem BW (hp:Pm p):∃ L,Ex p L:=by
 have h2:=hp.two;have uni:∀ a:Int,¬p∣a->Al p (a^fact p.toNat) 1:=λa ha=>by obtain⟨d,d0,d1,e⟩:=back h2 (hp.co ha);obtain⟨t,ht⟩:=qQ p.toNat d0 (by lia);rw [ht];exact aN e
 obtain⟨L,⟨l0,l1⟩,no⟩:=fZ (P:=λj=>0<j/\∀ a:Int,¬p∣a->Al p (a^j) 1) (fact p.toNat) ⟨qU _,uni⟩;refine⟨L,l0,l1,λj j0 jl=>?_⟩;have:=no j jl;by_cases z:∃ a:Int,¬p∣a/\¬Al p (a^j) 1
 ·exact z
 ·exact absurd ⟨j0,λa ha=>Classical.byContradiction λw=>z ⟨a,ha,w⟩⟩ this
theorem rG (hp:Pm p) (h:Ex p L):∀ m:Nat,0<m->m∣L->∃ x:Int,Co x p/\Ord p x m:=by
 intro m
 induction m using LW with
 | ind m ih =>
  intro hm hd;by_cases c:m=1
  ·subst c;exact⟨1,⟨1,0,by lia⟩,by decide,by rw [Hu,HS];exact Al.refl _ _,λj _=>O2 j⟩
  ·obtain⟨q,hq,qm⟩:=EM (show 2<=m by lia);obtain⟨k,m',e,hn⟩:=zK hq.1 m hm;have q0:0<q:=by have:=hq.1;lia
   obtain⟨k',rfl⟩:∃ k',k=k'+1:=by
    cases k with
    | zero=>rw [K3,QT] at e;exact absurd (e▸qm) hn
    | succ k'=>exact⟨k',rfl⟩
   have m0:0<m':=by
    rcases Io m' with z | z
    ·rw [z,Mq] at e;lia
    ·exact z
   have qk:2<=q^(k'+1):=by rw [Jq];have:=O3 (K4 (n:=k') q0) hq.1;lia
   have mm:m'<m:=by rw [e];have:=Ku m' qk;lia
   obtain⟨y,cy,oy⟩:=ih m' mm m0 (Lb ⟨q^(k'+1),by rw [e,Ij]⟩ hd);have dq:q^(k'+1)∣L:=Lb ⟨m',e⟩ hd;obtain⟨T,hT⟩:=dq;have T0:0<T:=by
    rcases Io T with z | z
    ·rw [z,Mq] at hT;have:=h.pos;lia
    ·exact z
   have eL:L=q*(q^k'*T):=by rw [hT,Jq,Ij (q^k') q,Jn]
   have jp:0<q^k'*T:=K2 (K4 q0) T0;have jl:q^k'*T<L:=by rw [eL];have:=Ku (q^k'*T) hq.1;lia
   obtain⟨a,ha,hna⟩:=h.no _ jp jl;have ca:=hp.co ha;have z1:Al p ((a^T)^(q^(k'+1))) 1:=by rw [<- Pw.pow_mul,Ij,<- hT];exact h.all a ha
   have z2:¬Al p ((a^T)^(q^k')) 1:=by rw [<- Pw.pow_mul,Ij];exact hna
   obtain⟨d,od,_⟩:=pO (K4 q0) z1;have d1:=od.dv _ z1;have d2:¬d∣q^k':=λw=>z2 (by obtain⟨t,ht⟩:=w;rw [ht];exact aN od.one);have ed:=uV hq k' d d1 d2;subst ed;refine⟨a^T*y,(ca.pow T).mul cy,?_⟩;rw [e];exact od.mul oy (ca.pow T) cy (MW _ (hq.co hn))
theorem BX (hp:Pm p) (h:Ex p L):(L:Int)=p-1:=by
 have h2:=hp.two;have h1:=An hp h.pos h.all;obtain⟨g,cg,og⟩:=rG hp h L h.pos (Nk L);have nd:=nP (f:=λi=>(g^i%p).toNat-1) (n:=L) λi j ij jn e=>by
  have r1:∀ k:Nat,1<=(g^k%p).toNat:=λk=>by have a1:=Hl (g^k) (show p≠0 by lia);have:g^k%p≠0:=λz=>hp.unit (cg.pow k) (HD z);lia
  have e':(g^i%p).toNat=(g^j%p).toNat:=by have:=r1 i;have:=r1 j;have e:(g^i%p).toNat-1=(g^j%p).toNat-1:=e;lia
  have:=og.inj cg (by lia) jn (rest_eq (by lia) e');lia
 have:=pS (p-1).toNat _ nd λx hx=>by obtain⟨i,_,rfl⟩:=HE.mp hx;have a1:=Hl (g^i) (show p≠0 by lia);have a2:=Hk (g^i) (show 0<p by lia);have:g^i%p≠0:=λz=>hp.unit (cg.pow i) (HD z);show (g^i%p).toNat-1<(p-1).toNat;lia
 rw [G4,Jb] at this;lia
theorem jM (hp:Pm p) {a:Int} (ha:¬p∣a):Al p (a^(p-1).toNat) 1:=by obtain⟨L,h⟩:=BW hp;have:=BX hp h;rw [show (p-1).toNat=L by lia];exact h.all a ha
theorem tu (hp:Pm p) {m:Nat} (h0:0<m) (hd:m∣(p-1).toNat):∃ x:Int,1<=x/\x<p/\Ord p x m:=by obtain⟨L,h⟩:=BW hp;have:=BX hp h;have h2:=hp.two;obtain⟨x,cx,ox⟩:=rG hp h m h0 (by rwa [show (p-1).toNat=L by lia] at hd);have a1:=Hl x (show p≠0 by lia);have a2:=Hk x (show 0<p by lia);have a3:x%p≠0:=λz=>hp.unit cx (HD z);refine⟨x%p,by lia,a2,ox.pos,((Al.rest p x).pow m).trans ox.one,λj hj=>ox.dv j (((Al.rest p x).pow j).symm.trans hj)⟩
theorem AM (hp:Pm p):∃ g:Int,1<=g/\g<p/\Ord p g (p-1).toNat:=tu hp (by have:=hp.two;lia) (Nk _)
end
end Num
namespace Num
theorem Co.DA {n a:Int} {m:Nat} (h:Al n (a^(m+1)) 1):Co a n:=by obtain⟨c,hc⟩:=h;refine⟨a^m,-c,?_⟩;rw [Hu] at hc;rw [OX,Ia c n];lia
end Num
namespace Num
theorem y8 {n r:Int} (h:Ld.m8 n r):Pm r:=⟨h.two,λd d2 dr hd=>h.no d d2 dr (KJ hd h.dv)⟩
noncomputable def cw:List (Int × Int)->Int
 | []=>1
 | p::r=>p.1^p.2.toNat*cw r
theorem mf:∀(ps:List (Int × Int)) (p:Int × Int),cw (ps++[p])=cw ps*p.1^p.2.toNat
 | [],p=>by show p.1^_*1=1*_;lia
 | q::r,p=>by show q.1^q.2.toNat*cw (r++[p])=q.1^q.2.toNat*cw r*_;rw [mf r p,Ib]
structure Part (n:Int) (ps:List (Int × Int)):Prop where
 ok:∀ p∈ps,Pm p.1/\1<=p.2/\p.2<=30
 rise:ps.Pairwise λa b=>a.1<b.1
 prod:cw ps=n
theorem bK {q:Int} (h:0<q):∀ k:Nat,0<q^k
 | 0=>by rw [HS];decide
 | k+1=>by rw [Hu];exact Ma (bK h k) h
theorem two_pow_le {q:Int} (h:2<=q):∀ k:Nat,(2:Int)^k<=q^k
 | 0=>by rw [HS,HS];exact Je _
 | k+1=>by rw [Hu,Hu];exact LI (two_pow_le h k) h (by decide) (IT (bK (by lia) k))
theorem two_le:∀{k:Nat},(2:Int)^k<=10^9->k<=29:=by
 intro k h;by_cases c:k<=29
 ·exact c
 ·exfalso;have e:k=30+(k-30):=by lia
  rw [e,Pw.pow_add] at h;have:=bK (show (0:Int)<2 by decide) (k-30);have h2:=HK (show (1:Int)<=2^(k-30) by lia) (show (0:Int)<=2^30 by decide);have:(2:Int)^30=1073741824:=by decide
  lia
structure Way (n:Int) (ps:List (Int × Int)) (left prime:Int):Prop where
 ok:∀ p∈ps,Pm p.1/\1<=p.2/\p.2<=30
 rise:ps.Pairwise λa b=>a.1<b.1
 prod:cw ps*left=n
 pos:1<=left
 inv:Ld.Inv left prime
 le:∀ p∈ps,p.1<=prime
 gone:ps=[]∨¬prime∣left
 two:(2:Int)^ps.length*left<=n
theorem Way.start {n:Int} (h:1<=n):Way n [] n 2:=⟨λ_ z=>by simp at z,Mn,by show 1*n=n;lia,h,⟨by decide,.inl rfl,λd d0 d1=>by lia⟩,λ_ z=>by simp at z,.inl rfl,by rw [LX,HS];lia⟩
theorem Way.step {n left prime r left':Int} {ps:List (Int × Int)} {k:Nat} (w:Way n ps left prime) (hn:n<=10^9) (hl:1<left) (h:Ld.m8 left r) (e:left=r^k*left') (l0:1<=left') (hk:1<=k) (hg:¬r∣left'):Way n (ps++[(r,(k:Int))]) left' r:=by
 have r2:=h.two;have pm:=y8 h;have rp:prime<=r:=by
  rcases (by lia:prime<=r∨r<prime) with z | z
  ·exact z
  ·exact absurd h.dv (w.inv.no r r2 z)
 have rk:=bK (show 0<r by lia) k;have k2:=two_pow_le r2 k;have kl:(2:Int)^k<=left:=by have:=LI k2 l0 (by decide) (IT rk);rw [Jo] at this;lia
 have ln:left<=n:=by have z:=w.two;have p0:=bK (show (0:Int)<2 by decide) ps.length;have:=Il (show (1:Int)<=2^ps.length by lia) (show 0<=left by lia);lia
 have k29:=two_le (k:=k) (by lia);refine⟨λp hp=>?_,?_,?_,l0,?_,λp hp=>?_,.inr hg,?_⟩
 ·rcases IC.mp hp with z | z
  ·exact w.ok p z
  ·rw [Ho.mp z];exact⟨pm,by show (1:Int)<=k;lia,by show (k:Int)<=30;lia⟩
 ·refine HG.mpr ⟨w.rise,Od _ _,λa ha b hb=>?_⟩;rw [Ho.mp hb];show a.1<r;have:=w.le a ha;rcases w.gone with z | z
  ·rw [z] at ha;simp at ha
  ·have:prime≠r:=λy=>z (y▸h.dv);lia
 ·rw [mf,<- w.prod,e];show cw ps*r^((k:Int).toNat)*left'=_;rw [IH,Ib]
 ·refine⟨r2,?_,λd d0 d1 hd=>h.no d d0 d1 (by rw [e];exact Hh hd)⟩;rcases (by lia:r=2∨2<r) with z | z
  ·exact .inl z
  ·refine .inr ?_;rcases (by lia:r%2=1∨r%2=0) with y | y
   ·exact y
   ·exact absurd (HD y) (pm.no 2 (by decide) z)
 ·rcases IC.mp hp with z | z
  ·have:=w.le p z;lia
  ·rw [Ho.mp z];exact Je _
 ·rw [HN,JC,Pw.pow_add,Hu,HS,Jl,Ib];refine IZ (HK ?_ (IT (bK (by decide) _))) w.two;rw [e];obtain⟨k',rfl⟩:∃ k',k=k'+1:=⟨k-1,by lia⟩
  have p0:=bK (show 0<r by lia) k';have h1:r<=r^(k'+1):=by rw [Hu];have:=Il (show 1<=r^k' by lia) (show 0<=r by lia);lia
  exact Il (show 2<=r^(k'+1) by lia) (show 0<=left' by lia)
theorem Way.done {n prime:Int} {ps:List (Int × Int)} (w:Way n ps 1 prime):Part n ps:=⟨w.ok,w.rise,by have:=w.prod;lia⟩
theorem Way.len {n left prime:Int} {ps:List (Int × Int)} (w:Way n ps left prime) (hn:n<=10^9):ps.length<=29:=by refine two_le ?_;have z:=w.two;have p0:=bK (show (0:Int)<2 by decide) ps.length;have:=HK w.pos (IT p0);lia
end Num
namespace Num
open PySem
theorem fW:∀{ps:List (Int × Int)} {p:Int × Int},p∈ps->1<=p.2->p.1∣cw ps
 | a::r,p,h,hk=>by
  rcases Hw.mp h with z | z
  ·subst z;obtain⟨k,hk'⟩:∃ k,p.2.toNat=k+1:=⟨p.2.toNat-1,by lia⟩
   show p.1∣p.1^p.2.toNat*cw r;rw [hk',Hu];exact JV ⟨p.1^k,Ia _ _⟩
  ·exact Hh (fW z hk)
theorem B8 {p:Int} (h:Pm p):Nm p.toNat:=⟨by have:=h.two;lia,λd d2 dp hd=>h.no d (by lia) (by lia) (by
 have:=Hz.mpr hd
 rwa [show (p.toNat:Int)=p by have:=h.two;lia] at this)⟩
theorem y9 {p q:Int} (hp:Pm p) (hq:Pm q):∀ k:Nat,q∣p^k->q=p
 | 0,h=>by rw [HS] at h;have:=Hx (by decide) h;have:=hq.two;lia
 | k+1,h=>by
  rw [Hu] at h;by_cases c:q∣p^k
  ·exact y9 hp hq k c
  ·have d:=hq.or h c;have l:=Hx (by have:=hp.two;lia) d;rcases (by lia:q<p∨q=p) with z | z
   ·exact absurd d (hp.no q hq.two z)
   ·exact z
theorem i9 {q:Int} (hq:Pm q):∀{ps:List (Int × Int)},(∀ p∈ps,Pm p.1)->q∣cw ps->∃ p∈ps,p.1=q
 | [],_,h=>by have:=Hx (by decide) (show q∣1 from h);have:=hq.two;lia
 | a::r,hp,h=>by
  by_cases c:q∣a.1^a.2.toNat
  ·exact⟨a,by simp,(y9 (hp a (by simp)) hq _ c).symm⟩
  ·obtain⟨p,h1,h2⟩:=i9 hq (λp z=>hp p (Ha _ z)) (hq.or h c);exact⟨p,Ha _ h1,h2⟩
structure LF (p g:Int):Prop where
 one:1<=g
 lt:g<p
 ord:Ord p g (p-1).toNat
 no:∀ a:Int,1<=a->a<g->¬Ord p a (p-1).toNat
noncomputable def rowsOf (ps:List (Int × Int)) (ds:Nat->Hy):List Hy:=(IY ps.length).map λi=>.tuple [ds i,.int (ps.getD i (0,0)).2]
theorem cJ {ps:List (Int × Int)} {ds:Nat->Hy}:(rowsOf ps ds).length=ps.length:=by unfold rowsOf;rw [G4,Jb]
theorem mv {ps:List (Int × Int)} {ds:Nat->Hy} {i:Nat} {p:Int × Int} (h:ps[i]?=GZ p):(rowsOf ps ds)[i]?=GZ (.tuple [ds i,.int p.2]):=by have hi:=(G9.mp h).1;unfold rowsOf;rw [He,Pu hi];show GZ (Sr [ds i,.int (ps.getD i (0,0)).2])=_;rw [Ka,h];rfl
inductive fQ:Int->Hy->Prop
 | mk (p g:Int) (ps:List (Int × Int)) (ds:Nat->Hy):Pm p->p<=10^9->LF p g->Part (p-1) ps->ps.length<=29->(∀ i q k,ps[i]?=GZ (q,k)->fQ q (ds i))->fQ p (.tuple [.int p,.int g,.tuple (rowsOf ps ds)])
theorem fQ.head {p:Int} {d:Hy} (h:fQ p d):∃ g rows,d=.tuple [.int p,.int g,.tuple rows]:=by cases h;exact⟨_,_,rfl⟩
def Ht:Nat->Int->Prop
 | 0,_=>False
 | L+1,n=>∀ q:Int,Pm q->q∣n-1->Ht L q
theorem BZ:∀(L:Nat) (n:Int),Pm n->n<2^(L+2)->Ht (L+2) n
 | 0,n,h,hn=>by
  have h2:=h.two;have hn':n<4:=hn;intro q hq hd;intro q' hq' hd';have q2:=hq.two;have l:=Hx (by rcases (by lia:n=2∨n=3) with z | z;exfalso;rw [z] at hd;have:=Hx (by decide) hd;lia;lia) hd;have qq:q=2:=by lia
  rw [qq] at hd';have:=Hx (by decide) hd';have:=hq'.two;lia
 | L+1,n,h,hn=>by
  intro q hq hd;have q2:=hq.two;have h2:=h.two;refine BZ L q hq ?_;have e:(2:Int)^(L+1+2)=2^(L+2)*2:=by rw [<- Hu]
  rw [e] at hn;have four:(4:Int)<=2^(L+2):=by
   have:=bK (show (0:Int)<2 by decide) L;have e4:(2:Int)^(L+2)=2^L*4:=by rw [Pw.pow_add];rfl
   lia
  obtain⟨c,hc⟩:=hd;rcases (by lia:n<=3∨3<n) with z | z
  ·have:q<=n-1:=Hx (by
    rcases (by lia:n=2∨n=3) with y | y
    ·exfalso;rw [y] at hc;have:=Hx (by decide) (show q∣1 from ⟨c,hc⟩);lia
    ·lia) ⟨c,hc⟩
   lia
  ·rcases (by lia:n%2=0∨n%2=1) with y | y
   ·exact absurd (HD y) (h.no 2 (by decide) (by lia))
   ·rcases (by lia:q=2∨2<q) with x | x
    ·lia
    ·have qo:q%2=1:=by
      rcases (by lia:q%2=1∨q%2=0) with w | w
      ·exact w
      ·exact absurd (HD w) (hq.no 2 (by decide) x)
     have ce:c%2=0:=by
      rcases (by lia:c%2=0∨c%2=1) with w | w
      ·exact w
      ·exfalso;have:(q*c)%2=1:=by rw [Kr,qo,w];rfl
       lia
     have c2:2<=c:=by
      rcases (by lia:c<=0∨2<=c) with w | w
      ·have:=Iu (show 0<=q by lia) w;lia
      ·exact w
     have:=HK c2 (show 0<=q by lia);lia
theorem Df {n:Int} (h:Pm n) (hn:n<=10^9):Ht 30 n:=BZ 28 n h (by
 have:(2:Int)^(28+2)=1073741824:=by decide
 lia)
end Num
namespace L2
open PySem PySem.Spec PyProof.Rows
noncomputable def GX:Hy->String
 | .none => "NoneType"
 | .bool _ => "bool"
 | .int _ => "int"
 | .str _ => "str"
 | .list _ => "list"
 | .tuple _ => "tuple"
 | .dict _ => "dict"
noncomputable def GQ:Hy->Bool
 | .int _=>true
 | _=>false
noncomputable def Gm:Hy->Bool
 | .bool _=>true
 | _=>false
noncomputable def GP:Hy->Bool
 | .tuple _=>true
 | _=>false
section
variable {X:Cx} {K:G1}
def uZ (K:G1):List V->Hp->VK->Prop:=λxs H Q=>∃ d x n b,xs=[x,.ty n]/\dv K H d x/\Ri K (.type (GX d)) (.type n)=GZ b/\Q (.bl b) H
theorem cZ:eA X (.builtin "isinstance") (uZ X.K):=by
 intro pins s σ H xs us Q I r h;obtain⟨d,x,n,b,rfl,hd,ek,q⟩:=h;obtain⟨u,w',rfl,rx,rc⟩:=vals2 r;have e:w'=.type n:=rc;subst e;have fin:∀ tk,∃ v' H',Inv X pins σ H' { s with toks:=tk }/\RelV v' (.bool b)/\Q v' H':=λtk=>⟨.bl b,H,I.tok _,rfl,q⟩
 cases d with
 | none=>cases hd;exact gQ I rx hZ.non ek fin
 | bool y=>cases hd;exact gQ I rx (hZ.bl _) ek fin
 | int y=>cases hd;exact gQ I rx (hZ.int _) ek fin
 | str y=>cases hd;exact gQ I rx (hZ.str _) ek fin
 | list ds =>obtain⟨p,ys,rfl,h,t⟩:=hd;cases rx;obtain⟨its,rr,pl,_⟩:=I.list h;obtain⟨o,h1,h2,_⟩:=pl.isList;exact Jr NO I.eX ⟨o,h1,h2⟩ ek (λz=>nomatch z) fin
 | tuple ds =>obtain⟨p,ys,rfl,h,t⟩:=hd;cases rx;obtain⟨its,rr,pl,_⟩:=I.tuple h;obtain⟨o,h1,h2,_⟩:=pl;exact Jr PR I.eX ⟨o,h1,h2⟩ ek (λz=>nomatch z) fin
 | dict _=>exact hd.elim
theorem uL {H:Hp} {d:Hy} {x:V} {Q:VK} (h:dv K H d x) (q:Q (.bl (GQ d || Gm d)) H):uZ K [x,.ty "int"] H Q:=by refine⟨d,x,"int",_,rfl,h,?_,q⟩;cases d<;>first | exact h.elim | with_unfolding_all rfl
theorem yf {H:Hp} {d:Hy} {x:V} {Q:VK} (h:dv K H d x) (q:Q (.bl (Gm d)) H):uZ K [x,.ty "bool"] H Q:=by refine⟨d,x,"bool",_,rfl,h,?_,q⟩;cases d<;>first | exact h.elim | with_unfolding_all rfl
theorem kR {H:Hp} {d:Hy} {x:V} {Q:VK} (h:dv K H d x) (q:Q (.bl (GP d)) H):uZ K [x,.ty "tuple"] H Q:=by refine⟨d,x,"tuple",_,rfl,h,?_,q⟩;cases d<;>first | exact h.elim | with_unfolding_all rfl
end
noncomputable def Ez (i:Int) (n:Nat):List V:=(IY n).map fun(k:Nat)=>V.int (i+(k:Int))
variable {X:Cx}
section
variable {X:Cx} {K:G1}
end
section
variable {κ:Type} [DecidableEq κ]
noncomputable def bZ (kvs:List (κ × V)) (k:κ):Option V:=(kvs.find? λkv=>decide (kv.1=k)).map (·.2)
noncomputable def putK (kvs:List (κ × V)) (k:κ) (v:V):List (κ × V) :=
 if (kvs.any λkv=>decide (kv.1=k))=true then kvs.map (λkv=>if kv.1=k then (kv.1,v) else kv) else kvs++[(k,v)]
noncomputable def bP (kvs:List (κ × V)) (k:κ):List (κ × V):=kvs.filter λkv=>decide (kv.1≠k)
theorem b7 {p:κ × V} {r:List (κ × V)} {k:κ} (e:p.1=k):bZ (p::r) k=GZ p.2:=by simp [bZ,Lx,e]
theorem bT {p:κ × V} {r:List (κ × V)} {k:κ} (e:¬p.1=k):bZ (p::r) k=bZ r k:=by simp [bZ,Lx,e]
theorem jx (k:κ):∀ kvs:List (κ × V),(kvs.any λkv=>decide (kv.1=k))=(bZ kvs k).isSome
 | []=>rfl
 | p::r=>by
  rw [MP];by_cases e:p.1=k
  ·simp only [b7 e,decide_eq_true e,Bool.true_or,PV]
  ·rw [bT e,decide_eq_false e,Bool.false_or];exact jx k r
theorem gZ (k j:κ) (y:V):∀ kvs:List (κ × V),bZ kvs k=none->bZ (kvs++[(k,y)]) j=if j=k then GZ y else bZ kvs j
 | [],_=>by
  by_cases e:k=j
  ·rw [if_pos e.symm];exact b7 (p:=(k,y)) e
  ·rw [if_neg (λz=>e z.symm)];exact bT (p:=(k,y)) e
 | p::r,hn=>by
  rw [List.cons_append];have hk:¬p.1=k:=λz=>by rw [b7 z] at hn;cases hn
  rw [bT hk] at hn;have ih:=gZ k j y r hn;by_cases e:p.1=j
  ·rw [b7 e,b7 e,if_neg (λz=>hk (e.trans z))]
  ·rw [bT e,bT e,ih]
theorem gb (kvs:List (κ × V)) (k:κ) (v:V):(putK kvs k v).length<=kvs.length+1:=by
 unfold putK;split
 ·rw [G4];lia
 ·rw [HN,Ji,LX];lia
theorem rP {kvs:List (κ × V)} {k:κ} (v:V) (h:bZ kvs k=none):putK kvs k v=kvs++[(k,v)]:=by unfold putK;rw [jx,h];exact if_neg (by decide)
theorem eh.eV {o:Option V} {u:Option G2} (r:eh o u):o.isSome=u.isSome:=by
 cases o with
 | none=>cases u with
  | none=>rfl
  | some _=>exact (show False from r).elim
 | some _=>cases u with
  | none=>exact (show False from r).elim
  | some _=>rfl
theorem eh.getD {o:Option V} {u:Option G2} {d:V} {d':G2} (r:eh o u) (rd:RelV d d'):RelV (o.getD d) (u.getD d'):=by
 cases o with
 | none=>cases u with
  | none=>exact rd
  | some _=>exact (show False from r).elim
 | some _=>cases u with
  | none=>exact (show False from r).elim
  | some _=>exact r
theorem KV.val {kvs:List (κ × V)} {vs:List (κ × G2)} (r:KV kvs vs) (k:κ):eh (bZ kvs k) (valueAt vs k):=by
 unfold KV at r
 induction r with
 | nil=>exact True.intro
 | @cons p q ps qs h t ih =>
  obtain⟨h1,h2⟩:=h;by_cases e:p.1=k
  ·have e':q.1=k:=h1.symm.trans e;have b:valueAt (q::qs) k=GZ q.2:=by simp [valueAt,Lx,e']
   rw [b7 e,b];exact h2
  ·have e':¬q.1=k:=λz=>e (h1.trans z);have b:valueAt (q::qs) k=valueAt qs k:=by simp [valueAt,Lx,e']
   rw [bT e,b];exact ih
theorem KV.any {kvs:List (κ × V)} {vs:List (κ × G2)} (r:KV kvs vs) (k:κ):(kvs.any λkv=>decide (kv.1=k))=vs.any λkv=>decide (kv.1=k):=by
 unfold KV at r
 induction r with
 | nil=>rfl
 | cons h t ih=>rw [MP,MP,ih,h.1]
theorem KV.DU {kvs:List (κ × V)} {vs:List (κ × G2)} (r:KV kvs vs) (k:κ) {y:V} {u:G2} (ry:RelV y u) :
  KV (kvs.map λkv=>if kv.1=k then (kv.1,y) else kv) (vs.map λkv=>if kv.1=k then (kv.1,u) else kv):=by
 unfold KV at r ⊢
 induction r with
 | nil=>exact .nil
 | @cons p q ps qs h t ih =>
  rw [HH,HH];refine .cons ?_ ih;obtain⟨h1,h2⟩:=h;by_cases e:p.1=k
  ·rw [if_pos e,if_pos (h1.symm.trans e)];exact⟨h1,ry⟩
  ·rw [if_neg e,if_neg (λz=>e (h1.trans z))];exact⟨h1,h2⟩
theorem KV.put {kvs:List (κ × V)} {vs:List (κ × G2)} (r:KV kvs vs) (k:κ) {y:V} {u:G2} (ry:RelV y u):KV (putK kvs k y) (stored vs k u):=by
 unfold putK stored;rw [r.any k];by_cases e:(vs.any λkv=>decide (kv.1=k))=true
 ·rw [if_pos e,if_pos e];exact r.DU k ry
 ·rw [if_neg e,if_neg e];exact SU r ⟨rfl,ry⟩
theorem KV.keys {kvs:List (κ × V)} {vs:List (κ × G2)} (r:KV kvs vs):kvs.map (·.1)=vs.map (·.1):=by
 unfold KV at r
 induction r with
 | nil=>rfl
 | cons h t ih=>rw [HH,HH,ih,h.1]
theorem KV.length {kvs:List (κ × V)} {vs:List (κ × G2)} (r:KV kvs vs):kvs.length=vs.length:=LQ r
theorem qP (kvs:List (κ × V)) (k:κ):(bP kvs k).length<=kvs.length:=JP _ _
end
theorem nI {P:Hq} {w:HU} {k:Key} {u:G2} (r:RelV (kV k) u):(bH P w).is k u=true:=by
 cases k with
 | inl i=>obtain⟨t,e⟩:=(show ∃ t,u=L8 i t from r);subst e;exact ro P w i t
 | inr x=>obtain⟨t,e⟩:=(show ∃ t,u=Ph x t from r);subst e;exact rq P w x t
theorem nH {P:Hq} {w:HU}:∀{ks:List Key} {us:List G2},Vals (ks.map kV) us->ItemsAre (bH P w) ks us
 | [],_,r=>by rw [Jc] at r;cases r;exact .nil
 | k::ks,_,r=>by
  rw [HH] at r;cases r with
  | cons h t=>exact .cons (nI h) (nH t)
abbrev KT (H:Hp):List (List Key × V)->List (List Key × G6 × G2)->Prop:=PM λp q=>p.1=q.1/\H q.2.1=GZ (.tup (p.1.map kV))/\RelV p.2 q.2.2
theorem KT.val {H:Hp} {kvs:List (List Key × V)} {xs:List (List Key × G6 × G2)} (r:KT H kvs xs) (k:List Key):eh (bZ kvs k) ((atKey xs k).map (·.2)):=by
 induction r with
 | nil=>exact True.intro
 | @cons p q ps qs h t ih =>
  obtain⟨h1,_,h2⟩:=h;by_cases e:p.1=k
  ·have e':q.1=k:=h1.symm.trans e;have b:atKey (q::qs) k=GZ q.2:=by simp [atKey,Lx,e']
   rw [b7 e,b];exact h2
  ·have e':¬q.1=k:=λz=>e (h1.trans z);have b:atKey (q::qs) k=atKey qs k:=by simp [atKey,Lx,e']
   rw [bT e,b];exact ih
theorem KT.DU {H:Hp} {kvs:List (List Key × V)} {xs:List (List Key × G6 × G2)} (r:KT H kvs xs) (k:List Key) {y:V} {u:G2} (ry:RelV y u) :
  KT H (kvs.map λkv=>if kv.1=k then (kv.1,y) else kv) (xs.map (putAt k u)):=by
 induction r with
 | nil=>exact .nil
 | @cons p q ps qs h t ih =>
  rw [HH,HH];refine .cons ?_ ih;obtain⟨h1,h2,h3⟩:=h;unfold putAt;by_cases e:p.1=k
  ·rw [if_pos e,if_pos (h1.symm.trans e)];exact⟨h1,h2,ry⟩
  ·rw [if_neg e,if_neg (λz=>e (h1.trans z))];exact⟨h1,h2,h3⟩
theorem KT.put {H:Hp} {kvs:List (List Key × V)} {xs:List (List Key × G6 × G2)} (r:KT H kvs xs) (k:List Key) {b:G6} {y:V} {u:G2} (hb:H b=GZ (.tup (k.map kV))) (ry:RelV y u) :
  KT H (putK kvs k y) (storedH xs k b u):=by
 have e:(kvs.any λkv=>decide (kv.1=k))=(atKey xs k).isSome:=by rw [jx,(r.val k).eV,Mp]
 unfold putK storedH;rw [e];by_cases q:(atKey xs k).isSome=true
 ·rw [if_pos q,if_pos q];exact r.DU k ry
 ·rw [if_neg q,if_neg q];exact SU r ⟨rfl,hb,ry⟩
theorem KT.keeps {H H':Hp} {kvs:List (List Key × V)} {xs:List (List Key × G6 × G2)} (r:KT H kvs xs) (ht:∀ b ys,H b=GZ (.tup ys)->H' b=GZ (.tup ys)):KT H' kvs xs :=
 Paired.Dw r λ_ _ z=>⟨z.1,ht _ _ z.2.1,z.2.2⟩
section
variable {P:Hq} {w:HU} {H:Hp} {h:Ip} {a:G6}
theorem Cb {u:HO} (ok:fJ P w H h) (e:Rd H a u):br P w H h a u:=e.ok ok
theorem lB {kvs:List (Key × V)} (ok:fJ P w H h) (e:Rd H a (.dK kvs)):kvs.length<=sizeLine/\(a==sysModules)=false/\∃ vs,KV kvs vs/\h.DictOf (bH P w) a vs :=
 show br P w H h a (.dK kvs) from Cb ok e
theorem xH {kvs:List (Key × V)} (ok:fJ P w H h) (e:H a=GZ (.dK kvs)):kvs.length<=sizeLine/\(a==sysModules)=false/\∃ vs,KV kvs vs/\h.DictOf (bH P w) a vs:=lB ok (.inl e)
theorem jQ {ks:List Key} (ok:fJ P w H h) (e:H a=GZ (.tup (ks.map kV))):(tupleKind (bH P w)).is h ks a:=by
 obtain⟨_,its,r,o,h1,h2,n,h3⟩:=(show br P w H h a (.tup (ks.map kV)) from ok a _ e)
 exact⟨o,its.toArray,n,h1,h2,h3,by simpa using nH r⟩
theorem nB {kvs:List (List Key × V)} (ok:fJ P w H h) (e:Rd H a (.dT kvs)):kvs.length<=sizeLine/\(a==sysModules)=false /\
  ∃ xs,KT H kvs xs/\h.DictOfH (tupleKind (bH P w)) a xs:=by
 obtain⟨z,y,xs,r,o,es,ep,h1,h2,h3,h4,h5⟩:=(show br P w H h a (.dT kvs) from Cb ok e)
 refine⟨z,y,xs,r,o,es,ep,h1,h2,h3,h4,λx hx=>?_,h5⟩;have all:∀{l:List (List Key × V)} {m:List (List Key × G6 × G2)},KT H l m->∀ x∈m,(tupleKind (bH P w)).is h x.1 x.2.1:=by
  intro l m q
  induction q with
  | nil=>intro x hx;exact nomatch hx
  | @cons p q ps qs hq t ih =>
   intro x hx;rcases Hw.mp hx with e | hx
   ·subst e;exact jQ ok (by rw [<- hq.1];exact hq.2.1)
   ·exact ih x hx
 exact all r x hx
theorem BU {kvs:List (List Key × V)} (ok:fJ P w H h) (e:H a=GZ (.dT kvs)):kvs.length<=sizeLine/\(a==sysModules)=false /\
  ∃ xs,KT H kvs xs/\h.DictOfH (tupleKind (bH P w)) a xs:=nB ok (.inl e)
end
def fq (H:Hp) (a:G6) (y:V) (r:Option V):Prop :=
 (∃ kvs k,Rd H a (.dK kvs)/\y=kV k/\r=bZ kvs k)∨∃ kvs k b,Rd H a (.dT kvs)/\y=.ref b/\H b=GZ (.tup (k.map kV))/\r=bZ kvs k
def mI (H:Hp) (a:G6) (y v:V) (H':Hp):Prop :=
 (∃ kvs k,H a=GZ (.dK kvs)/\y=kV k/\kvs.length<sizeLine/\H'=upd H a (.dK (putK kvs k v))) ∨
 ∃ kvs k b,H a=GZ (.dT kvs)/\y=.ref b/\H b=GZ (.tup (k.map kV))/\kvs.length<sizeLine/\H'=upd H a (.dT (putK kvs k v))
theorem fq.k {H:Hp} {a:G6} {kvs:List (Key × V)} {k:Key} (e:H a=GZ (.dK kvs)):fq H a (kV k) (bZ kvs k):=.inl ⟨kvs,k,.inl e,rfl,rfl⟩
theorem fq.t {H:Hp} {a b:G6} {kvs:List (List Key × V)} {k:List Key} (e:H a=GZ (.dT kvs)) (eb:H b=GZ (.tup (k.map kV))):fq H a (.ref b) (bZ kvs k):=.inr ⟨kvs,k,b,.inl e,rfl,eb,rfl⟩
theorem mI.k {H:Hp} {a:G6} {kvs:List (Key × V)} {k:Key} {v:V} (e:H a=GZ (.dK kvs)) (hl:kvs.length<sizeLine):mI H a (kV k) v (upd H a (.dK (putK kvs k v))):=.inl ⟨kvs,k,e,rfl,hl,rfl⟩
theorem mI.t {H:Hp} {a b:G6} {kvs:List (List Key × V)} {k:List Key} {v:V} (e:H a=GZ (.dT kvs)) (eb:H b=GZ (.tup (k.map kV))) (hl:kvs.length<sizeLine) :
  mI H a (.ref b) v (upd H a (.dT (putK kvs k v))):=.inr ⟨kvs,k,b,e,rfl,eb,hl,rfl⟩
section
variable {X:Cx} {pins:List (G6 × Kl)} {σ:St} {H:Hp} {s:G5} {a:G6} {y v:V} {u r:G2} {o:Option V} {A:HX} {E:G2->G5->Prop}
theorem Inv.big (I:Inv X pins σ H s):sysModules<s.heap.objs.size:=by have h:mainGlobals<s.heap.objs.size:=(I.mod.glob.keeps I.bk).lt;exact Nat.lt_trans (by decide) h
theorem vI {Q:G2->G5->Prop} (hu:A.units+1<cLine) (I:Inv X pins σ H s) (g:fq H a y (GZ v)) (ry:RelV y u) (h:∀ w' s',Inv X pins σ H s'->RelV v w'->Q w' s') :
  wpAny (model X.prog X.w) A (getItem (.ref a) u) Q E s:=by
 rcases g with⟨kvs,k,e,ey,l⟩|⟨kvs,k,b,e,ey,eb,l⟩
 ·subst ey;obtain⟨z,hd,vs,rel,dd⟩:=lB I.hok e;obtain⟨w',hw,rw'⟩:=eh.some_of (v:=v) (o:=valueAt vs k) (by rw [l];exact rel.val k);exact wpAny_getItem_of (nI ry) dd.mapOf hw (h w' _ (I.tok _) rw')
 ·subst ey;cases (show u=HR b from ry);obtain⟨z,hd,xs,rel,dd⟩:=nB I.hok e;obtain⟨w',hw,rw'⟩:=eh.some_of (v:=v) (o:=(atKey xs k).map (·.2)) (by rw [l];exact rel.val k);obtain⟨p,hp,hp2⟩:=Hj.mp hw;refine wpAny_getItem_heap (Lr hu) (jQ I.hok eb) dd hp ?_;rw [hp2];exact h w' _ (I.tok _) rw'
theorem FP {Q:G2->G5->Prop} (hu:A.units+1<cLine) (I:Inv X pins σ H s) (g:fq H a y o) (ry:RelV y u) (h:∀ s',Inv X pins σ H s'->Q (.bool o.isSome) s') :
  wpAny (model X.prog X.w) A (compareOp .In u (.ref a)) Q E s:=by
 rcases g with⟨kvs,k,e,ey,l⟩|⟨kvs,k,b,e,ey,eb,l⟩
 ·subst ey;obtain⟨z,hd,vs,rel,dd⟩:=lB I.hok e;refine wpAny_in_of (nI ry) hd dd.mapOf ?_;rw [<- (rel.val k).eV,<- l];exact h _ (I.tok _)
 ·subst ey;cases (show u=HR b from ry);obtain⟨z,hd,xs,rel,dd⟩:=nB I.hok e;refine wpAny_in_heap (Lr hu) (jQ I.hok eb) hd dd ?_;have q:=(rel.val k).eV;rw [Mp] at q;rw [<- q,<- l];exact h _ (I.tok _)
theorem Ay {Q:G2->G5->Prop} (hu:A.units+1<cLine) (I:Inv X pins σ H s) (g:fq H a y o) (ry:RelV y u) (h:∀ s',Inv X pins σ H s'->Q (.bool (!o.isSome)) s') :
  wpAny (model X.prog X.w) A (compareOp .NotIn u (.ref a)) Q E s:=by
 rcases g with⟨kvs,k,e,ey,l⟩|⟨kvs,k,b,e,ey,eb,l⟩
 ·subst ey;obtain⟨z,hd,vs,rel,dd⟩:=lB I.hok e;refine wpAny_notIn_of (nI ry) hd dd.mapOf ?_;rw [<- (rel.val k).eV,<- l];exact h _ (I.tok _)
 ·subst ey;cases (show u=HR b from ry);obtain⟨z,hd,xs,rel,dd⟩:=nB I.hok e;refine wpAny_notIn_heap (Lr hu) (jQ I.hok eb) hd dd ?_;have q:=(rel.val k).eV;rw [Mp] at q;rw [<- q,<- l];exact h _ (I.tok _)
theorem kK {h':Ip} {t':Nat} {ob:HO} (I:Inv X pins σ H s) (mu:El (H a)) (hs:JK a s.heap h') (he:∃ q,h'.get? a=GZ q) (new:br X.prog X.w (upd H a ob) h' a ob) :
  Inv X pins σ (upd H a ob) { s with heap:=h',toks:=t' } :=
 I.write (x:=a) (e:=a) mu (.inl rfl) (λb q hb z=>(hs.2 b hb).trans z) he new
theorem xG {P:Hq} {w:HU} {H':Hp} {h':Ip} {kvs:List (Key × V)} {vs:List (Key × G2)} (z:kvs.length<=sizeLine) (hd:(a==sysModules)=false) (rel:KV kvs vs) (dd:h'.DictOf (bH P w) a vs) :
  br P w H' h' a (.dK kvs):=⟨z,hd,vs,rel,dd⟩
theorem vJ {H':Hp} {Q:Unit->G5->Prop} (hu:A.units+1<cLine) (I:Inv X pins σ H s) (g:mI H a y v H') (ry:RelV y u) (rv:RelV v r) (h:∀ s',Inv X pins σ H' s'->Q () s') :
  wpAny (model X.prog X.w) A (setItem (.ref a) u r) Q E s:=by
 rcases g with⟨kvs,k,e,ey,l,eH⟩|⟨kvs,k,b,e,ey,eb,l,eH⟩
 ·subst ey eH;obtain⟨z,hd,vs,rel,dd⟩:=xH I.hok e;have hz:vs.length<=sizeLine:=by rw [<- rel.length];exact z
  have hl:(putK kvs k v).length<=sizeLine:=by have:=gb kvs k v;lia
  refine wpAny_setItem_pairs (hsz:=hz) (nI ry) dd λh' dd' hs=>h _ ?_;have he:∃ q,h'.get? a=GZ q:=let ⟨q,_,_,hq,_⟩:=dd';⟨q,hq⟩
  exact kK I (by rw [e];exact True.intro) hs he (xG hl hd (rel.put k rv) dd')
 ·subst ey eH;cases (show u=HR b from ry);obtain⟨z,hd,xs,rel,dd⟩:=BU I.hok e;have hz:xs.length<=sizeLine:=by rw [<- LQ rel];exact z
  have hl:(putK kvs k v).length<=sizeLine:=by have:=gb kvs k v;lia
  refine wpAny_setItem_heap (hsz:=hz) (Lr hu) (jQ I.hok eb) dd λh' dd' hs=>h _ ?_;obtain⟨q,es,ep,hq,h2,h3,h4,_,h5⟩:=dd';refine kK I (by rw [e];exact True.intro) hs ⟨q,hq⟩ ⟨hl,hd,_,(rel.put k eb rv).keeps λc ys ec=>?_,q,es,ep,hq,h2,h3,h4,h5⟩;rw [ao (kg ec e (λz=>nomatch z))];exact ec
end
section
variable {X:Cx} {pins:List (G6 × Kl)} {σ:St} {H:Hp} {s:G5} {a:G6} {kvs:List (Key × V)} {k:Key} {u:G2} {A:HX} {E:G2->G5->Prop}
theorem Ey {Q:G2->G5->Prop} (I:Inv X pins σ H s) (e:Rd H a (.dK kvs)) (h:∀ t s',Inv X pins σ H s'->Q (.int kvs.length t) s'):wpAny (model X.prog X.w) A (call (.builtin "len") [.ref a]) Q E s:=by obtain⟨z,hd,vs,rel,dd⟩:=lB I.hok e;refine call_len_dict hd dd (by rw [<- rel.length];rw [L9] at z;lia) ?_;rw [<- rel.length];exact h _ _ (I.tok _)
end
def Em (i:Ik):Prop:=∀ ov iv,subscripted i false ov iv=operate [ov,iv] (getItem ov iv)
theorem BB {prog:Hq} {w:HU} {A:HX} {E:G2->G5->Prop} {s:G5} {env:MA} {value slice:Ik} {pos:K8} {T id:String} {Q:G2->G5->Prop}
  (hl:typeLookup (.type T) "__getitem__"=pure (GZ (.builtin id))) (hs:Em slice)
  (h:wpAny (model prog w) A (eval value env) (λo s₁=>wpAny (model prog w) A (eval slice env) (λi s₂=>s₂.TypeIs o T/\wpAny (model prog w) A (getItem o i) Q E s₂) E s₁) E s) :
  wpAny (model prog w) A (eval (.Subscript value slice pos) env) Q E s:=by
 refine Om (IK h (λo s₁ h₁=>IK h₁ (λi s₂ h₂=>?_) λ_ _ x=>x) λ_ _ x=>x);obtain⟨hT,h₂⟩:=h₂;unfold subscriptTail;refine G3 ?_;rw [getitemInPython_of_ne hT.not_modules];refine G3 (wpAny_specialOf hT hl ?_);have fin:wpAny (model prog w) A (subscripted slice false o i) (λr s₃=>wpAny (model prog w) A (letTemporaryGo value o r >>= λ_=>pure r) Q E s₃) E s₂:=by rw [hs o i];exact wpAny_operating (IK h₂ (λr s₃ h₃=>G3 (wpAny_letTemporaryGo (G8 h₃))) λ_ _ x=>x)
 first
  | exact G8 (G3 fin)
  | exact G3 (G8 (G3 fin))
  | exact G3 fin
theorem qM {X:Cx} {pins:List (G6 × Kl)} {σ:St} {H:Hp} {s:G5} {a:G6} {y:V} {o:Option V} (I:Inv X pins σ H s) (g:fq H a y o):s.TypeIs (.ref a) "dict":=by
 rcases g with⟨kvs,k,e,_,_⟩|⟨kvs,k,b,e,_,_,_⟩
 ·obtain⟨_,_,vs,_,dd⟩:=lB I.hok e;exact dd.typeIs
 ·obtain⟨_,_,xs,_,dd⟩:=nB I.hok e;exact dd.typeIs
def Cn (td ty:TE):TE:=λσ H Q=>td σ H λx H1=>ty σ H1 λy H2=>∃ a v,x=.ref a/\fq H2 a y (GZ v)/\Q v H2
def E9 (ty td:TE):TE:=λσ H Q=>ty σ H λy H1=>td σ H1 λx H2=>∃ a o,x=.ref a/\fq H2 a y o/\Q (.bl o.isSome) H2
def vw (ty td:TE):TE:=λσ H Q=>ty σ H λy H1=>td σ H1 λx H2=>∃ a o,x=.ref a/\fq H2 a y o/\Q (.bl (!o.isSome)) H2
def Ce (td ty tv:TE):TS:=λD σ H=>tv σ H λv H1=>td σ H1 λx H2=>ty σ H2 λy H3=>∃ a H4,x=.ref a/\mI H3 a y v H4/\D.nx σ H4
section
variable {X:Cx} {o i e value:Ik} {pos pos' tpos:K8} {td ty tv:TE}
theorem gU (hu:X.A.units+1<cLine) (ho:PE X o td) (hi:PE X i ty) (hs:Em i):PE X (.Subscript o i pos) (Cn td ty):=by intro pins s σ H Q I h;refine BB PySem.F.slot_dict_getitem.lookup hs (a9 (ho pins s σ H _ I h) λu s1 ⟨x,H1,I1,rx,q1⟩=>a9 (hi pins s1 σ H1 _ I1 q1) λiv s2 hZ=>?_);obtain⟨y,H2,I2,ry,a,v,ex,g,q2⟩:=hZ;subst ex;obtain rfl:u=HR a:=rx;exact⟨qM I2 g,vI hu I2 g ry λw' s3 I3 rw'=>⟨v,H2,I3,rw',q2⟩⟩
theorem DL (hu:X.A.units+1<cLine) (hi:PE X i ty) (ho:PE X o td):PC X .In i o (E9 ty td):=by intro pins s σ H Q I h;refine a9 (hi pins s σ H _ I h) λiv s1 ⟨y,H1,I1,ry,q1⟩=>a9 (ho pins s1 σ H1 _ I1 q1) λu s2 hZ=>?_;obtain⟨x,H2,I2,rx,a,ov,ex,g,q2⟩:=hZ;subst ex;obtain rfl:u=HR a:=rx;exact FP hu I2 g ry λs3 I3=>⟨.bl ov.isSome,H2,I3,rfl,q2⟩
theorem nR (hu:X.A.units+1<cLine) (hi:PE X i ty) (ho:PE X o td):PC X .NotIn i o (vw ty td):=by intro pins s σ H Q I h;refine a9 (hi pins s σ H _ I h) λiv s1 ⟨y,H1,I1,ry,q1⟩=>a9 (ho pins s1 σ H1 _ I1 q1) λu s2 hZ=>?_;obtain⟨x,H2,I2,rx,a,ov,ex,g,q2⟩:=hZ;subst ex;obtain rfl:u=HR a:=rx;exact Ay hu I2 g ry λs3 I3=>⟨.bl (!ov.isSome),H2,I3,rfl,q2⟩
theorem jf (hu:X.A.units+1<cLine) (ho:PE X o td) (hi:PE X i ty) (hv:PE X value tv) (hs:swapsWith value (GZ (.Subscript o i pos')) pos.line X.env=pure false) :
  PS X (.Assign [.Subscript o i pos'] value pos) (Ce td ty tv):=by
 intro pins s σ H D I h;refine wpAny_Assign_Subscript (a9 (hv pins s σ H _ I h) λr s1 ⟨v,H1,I1,rv,q1⟩=>a9 (ho pins s1 σ H1 _ I1 q1) λu s2 ⟨x,H2,I2,rx,q2⟩=>a9 (hi pins s2 σ H2 _ I2 q2) λiv s3 hZ=>?_) hs;obtain⟨y,H3,I3,ry,a,H4,ex,g,q3⟩:=hZ;subst ex;obtain rfl:u=HR a:=rx;exact vJ hu I3 g ry rv λs4 I4=>⟨σ,H4,I4,q3⟩
end
theorem qO {P:Hq} {w:HU} {H:Hp} (h:Ip) (hb:sysModules<h.objs.size):br P w H (h.push { cls:=.type "dict",data:=.dict #[] }) h.objs.size (.dK []) :=
 ⟨IV _,beq_eq_false_iff_ne.mpr (IJ (HP hb)),[],.nil,Heap.DictOf.new h⟩
theorem xJ {P:Hq} {w:HU} {H:Hp} (h:Ip) (hb:sysModules<h.objs.size):br P w H (h.push { cls:=.type "dict",data:=.dict #[] }) h.objs.size (.dT []) :=
 ⟨IV _,beq_eq_false_iff_ne.mpr (IJ (HP hb)),[],.nil,_,#[],0,Hs _ rfl,⟨rfl,rfl,rfl⟩,rfl,rfl,Rm⟩
def zO:TE:=λ_ H Q=>∀ p,H p=none->Q (.ref p) (upd H p (.dK []))
def zP:TE:=λ_ H Q=>∀ p,H p=none->Q (.ref p) (upd H p (.dT []))
section
variable {X:Cx} {pos:K8}
theorem rL:PE X (.Dict [] [] pos) zO:=λpins s σ H Q I h =>QE ⟨.ref s.heap.objs.size,_,I.laid (a:=s.heap.objs.size) (o:=.dK []) (t':=s.toks) (λ_ _ q=>G7 _ q) (Hd _) (qO s.heap I.big),rfl,h _ (I.hok.fresh (Hd _))⟩
theorem yW:PE X (.Dict [] [] pos) zP:=λpins s σ H Q I h =>QE ⟨.ref s.heap.objs.size,_,I.laid (a:=s.heap.objs.size) (o:=.dT []) (t':=s.toks) (λ_ _ q=>G7 _ q) (Hd _) (xJ s.heap I.big),rfl,h _ (I.hok.fresh (Hd _))⟩
end
def qu:List (TE × TE)->St->Hp->(List (V × V)->Hp->Prop)->Prop
 | [],_,H,Q=>Q [] H
 | (tk,tv)::r,σ,H,Q=>tk σ H λx H1=>tv σ H1 λy H2=>qu r σ H2 λps H3=>Q ((x,y)::ps) H3
abbrev VV:List (V × V)->List (G2 × G2)->Prop:=PM λp q=>RelV p.1 q.1/\RelV p.2 q.2
def Fw (X:Cx) (pos:K8) (keys:List (Option Ik)) (values:List Ik) (trs:List (TE × TE)):Prop :=
 ∀(pins:List (G6 × Kl)) (s:G5) (σ:St) (H:Hp) (Q:List (V × V)->Hp->Prop),Inv X pins σ H s->qu trs σ H Q ->
  wpAny (model X.prog X.w) X.A (evalPairs (pairTrees keys values X.env pos)) (λvs s'=>∃ ps H',Inv X pins σ H' s'/\VV ps vs/\Q ps H') X.xe s
theorem uW {X:Cx} {pos:K8}:Fw X pos [] [] []:=λpins s σ H Q I h=>pairTrees_nil_walk ⟨[],H,I,.nil,h⟩
theorem je {X:Cx} {pos:K8} {k v:Ik} {ks:List (Option Ik)} {vs:List Ik} {tk tv:TE} {trs:List (TE × TE)} (hk:PE X k tk) (hv:PE X v tv) (hr:Fw X pos ks vs trs) :
  Fw X pos (GZ k::ks) (v::vs) ((tk,tv)::trs):=λpins s σ H Q I h =>
 pairTrees_cons_walk (a9 (hk pins s σ H _ I h) λu s1 ⟨x,H1,I1,rx,q1⟩=>a9 (hv pins s1 σ H1 _ I1 q1) λw2 s2 ⟨y,H2,I2,ry,q2⟩ =>
  a9 (hr pins s2 σ H2 _ I2 q2) λws s3 ⟨ps,H3,I3,rel,q3⟩=>⟨(x,y)::ps,H3,I3,.cons ⟨rx,ry⟩ rel,q3⟩)
noncomputable def lP (kvs more:List (Key × V)):List (Key × V):=more.foldl (λacc kv=>putK acc kv.1 kv.2) kvs
theorem KV.merge:∀{more:List (Key × V)} {rs:List (Key × G2)} {kvs:List (Key × V)} {vs:List (Key × G2)},KV more rs->KV kvs vs->KV (lP kvs more) (merged vs rs):=by
 intro more rs kvs vs r;unfold KV at r
 induction r generalizing kvs vs with
 | nil=>intro q;exact q
 | @cons p q ps qs h t ih =>
  intro r0;have e:KV (putK kvs p.1 p.2) (stored vs q.1 q.2):=by have:=r0.put p.1 h.2;rw [<- h.1];exact this
  exact ih e
theorem h7:∀(more kvs:List (Key × V)),(lP kvs more).length<=kvs.length+more.length
 | [],kvs=>by show kvs.length<=kvs.length+0;lia
 | p::r,kvs=>by have h1:=h7 r (putK kvs p.1 p.2);have h2:=gb kvs p.1 p.2;show (lP (putK kvs p.1 p.2) r).length<=_;rw [Ji];lia
theorem lu {P:Hq} {w:HU}:∀{kvs:List (Key × V)} {ws:List (G2 × G2)},VV (kvs.map λkv=>(kV kv.1,kv.2)) ws->∃ rs,Carries (bH P w) ws rs/\KV kvs rs
 | [],_,r=>by rw [Jc] at r;cases r;exact⟨[],True.intro,.nil⟩
 | p::kvs,_,r=>by
  rw [HH] at r;cases r with
  | @cons a b as bs h t =>obtain⟨rs,c,q⟩:=lu (P:=P) (w:=w) t;obtain⟨b1,b2⟩:=b;exact⟨(p.1,b2)::rs,⟨nI h.1,rfl,c⟩,.cons ⟨rfl,h.2⟩ q⟩
def Cp (trs:List (TE × TE)):TE:=λσ H Q=>∀ p,H p=none->qu trs σ (upd H p (.dK [])) λps H2=>H2 p=GZ (.dK [])/\∃ kvs:List (Key × V),ps=kvs.map (λkv=>(kV kv.1,kv.2))/\kvs.length<=15/\Q (.ref p) (upd H2 p (.dK (lP [] kvs)))
theorem uT {X:Cx} {pos:K8} {keys:List (Option Ik)} {values:List Ik} {trs:List (TE × TE)} (h:Fw X pos keys values trs) (hall:keys.all (·.isSome)=true) (hl:keys.length=values.length) (h0:keys≠[])
  (h15:keys.length<=15):PE X (.Dict keys values pos) (Cp trs):=by
 intro pins s σ H Q I q;have hn:=I.hok.fresh (Hd s.heap.objs.size);have I1:=I.laid (a:=s.heap.objs.size) (o:=.dK []) (h':=s.heap.push { cls:=.type "dict",data:=.dict #[] }) (t':=s.toks) (λ_ _ q=>G7 _ q) (Hd _) (qO s.heap I.big);refine wpAny_Dict_walk (knd:=bH X.prog X.w) hall hl h0 h15 (a9 (h pins _ σ _ _ I1 (q _ hn)) λws s2 hZ=>?_);obtain⟨ps,H2,I2,rel,e,kvs,ep,lk,q2⟩:=hZ;subst ep;obtain⟨rs,c,rk⟩:=lu (P:=X.prog) (w:=X.w) rel;obtain⟨z,hd,vs0,r0,dd⟩:=xH I2.hok e;cases r0;refine⟨rs,c,dd,λh' dd' hs=>⟨.ref s.heap.objs.size,_,?_,rfl,q2⟩⟩;have hz:(lP [] kvs).length<=sizeLine:=by have h1:=h7 kvs [];rw [LX] at h1;rw [L9];lia
 have he:∃ q,h'.get? s.heap.objs.size=GZ q:=let ⟨q,_,_,hq,_⟩:=dd';⟨q,hq⟩
 exact kK I2 (by rw [e];exact True.intro) hs he (xG hz hd (rk.merge .nil) dd')
structure M1 (X:Cx) (o:Ik) (m:HA) (apos:K8) (e:Ik) (Qv:K8):Prop where
 base:attributeBase o m X.env (eval o X.env)=eval o X.env
 vP:((backTo Qv (starEach [e] X.env)).all (λx=>!x.1) && (backToKw Qv (keywordEach [] X.env)).all (λx=>x.1.isSome)
  && decide (([e]:List Ik).length+([]:List Pl).length+(if ([]:List Pl).isEmpty then 0 else 1)<30))=true
 line:(apos.endLine==Qv.line)=true
 trees:backTo Qv (starEach [e] X.env)=[(false,eval e X.env)]
structure M2 (X:Cx) (o:Ik) (m:HA) (apos:K8) (e f:Ik) (Qv:K8):Prop where
 base:attributeBase o m X.env (eval o X.env)=eval o X.env
 vP:((backTo Qv (starEach [e,f] X.env)).all (λx=>!x.1) && (backToKw Qv (keywordEach [] X.env)).all (λx=>x.1.isSome)
  && decide (([e,f]:List Ik).length+([]:List Pl).length+(if ([]:List Pl).isEmpty then 0 else 1)<30))=true
 line:(apos.endLine==Qv.line)=true
 trees:backTo Qv (starEach [e,f] X.env)=[(false,eval e X.env),(false,eval f X.env)]
def Gf (H:Hp) (a:G6):Prop:=(∃ kvs,Rd H a (.dK kvs))∨∃ kvs,Rd H a (.dT kvs)
theorem Dk {X:Cx} {pins:List (G6 × Kl)} {σ:St} {H:Hp} {s:G5} {a:G6} (I:Inv X pins σ H s) (d:Gf H a) :
  s.TypeIs (.ref a) "dict"/\(∀ b,HR a=.ref b->∃ ob,s.heap.get? b=GZ ob/\ob.dict=none)/\(a==sysModules)=false:=by
 rcases d with⟨kvs,e⟩|⟨kvs,e⟩
 ·obtain⟨_,hd,vs,_,dd⟩:=lB I.hok e;refine⟨dd.typeIs,λb q=>?_,hd⟩;cases q;obtain⟨ob,_,_,h1,h2,_⟩:=dd;exact⟨ob,h1,h2.2.1⟩
 ·obtain⟨_,hd,xs,_,dd⟩:=nB I.hok e;refine⟨dd.typeIs,λb q=>?_,hd⟩;cases q;obtain⟨ob,_,_,h1,h2,_⟩:=dd;exact⟨ob,h1,h2.2.1⟩
section
variable {X:Cx} {pins:List (G6 × Kl)} {σ:St} {H:Hp} {s:G5} {a:G6} {y d:V} {u r:G2} {o:Option V} {A:HX} {E:G2->G5->Prop}
end
section
variable {X:Cx} {o e f:Ik} {apos Qv:K8} {td ty tx:TE}
end
section
variable {X:Cx} {pins:List (G6 × Kl)} {σ:St} {H:Hp} {s:G5} {a:G6} {kvs:List (Key × V)} {A:HX} {E:G2->G5->Prop}
end
section
variable {X:Cx} {pins:List (G6 × Kl)} {σ:St} {H:Hp} {s:G5} {a:G6} {y:V} {u:G2} {A:HX} {E:G2->G5->Prop}
end
noncomputable def uq (l:Int) (b:Bool):HO:=.dK [(Lj "left",.int l),(Lj "free",.bl b)]
def Ad (l:Int) (b:Bool):Prop:=b=true∨(0<=l/\l<2147483647)
def Up (p:G6) (b:Bool) (H H':Hp):Prop:=∃ l,Ad l b/\H'=upd H p (uq l b)
theorem jV {H:Hp} {p:G6} {o o':HO}:upd (upd H p o) p o'=upd H p o':=by
 funext c;by_cases e:c=p
 ·subst e;rw [ag,ag]
 ·rw [ao e,ao e,ao e]
theorem Up.trans {p:G6} {b:Bool} {H H1 H2:Hp} (h:Up p b H H1) (h':Up p b H1 H2):Up p b H H2:=by obtain⟨l,_,rfl⟩:=h;obtain⟨l',k',rfl⟩:=h';exact⟨l',k',jV⟩
theorem Up.at {p:G6} {b:Bool} {H H1:Hp} (h:Up p b H H1):∃ l,Ad l b/\H1 p=GZ (uq l b):=by obtain⟨l,k,rfl⟩:=h;exact⟨l,k,ag⟩
theorem Up.ne {p q:G6} {b:Bool} {H H1:Hp} (h:Up p b H H1) (n:q≠p):H1 q=H q:=by obtain⟨l,k,rfl⟩:=h;exact ao n
theorem iY {H:Hp} {p:G6} {l:Int} {b:Bool} (h:H p=GZ (uq l b)):fq H p (.str "left") (GZ (.int l)):=fq.k (k:=Lj "left") h
theorem xY {H:Hp} {p:G6} {l:Int} {b:Bool} (h:H p=GZ (uq l b)):fq H p (.str "free") (GZ (.bl b)):=fq.k (k:=Lj "free") h
theorem rQ {H:Hp} {p:G6} {l l':Int} {b:Bool} (h:H p=GZ (uq l b)):mI H p (.str "left") (.int l') (upd H p (uq l' b)):=.inl ⟨_,Lj "left",h,rfl,by show 2<sizeLine;decide,rfl⟩
def Us (p:G6) (b:Bool) (H H':Hp):Prop:=(∃ l,Ad l b/\H' p=GZ (uq l b))/\∀ q o,q≠p->H q=GZ o->H' q=GZ o
theorem Up.us {p:G6} {b:Bool} {H H':Hp} (h:Up p b H H'):Us p b H H':=⟨h.at,λq o n e=>by rw [h.ne n];exact e⟩
theorem Us.trans {p:G6} {b:Bool} {H H1 H2:Hp} (h:Us p b H H1) (h':Us p b H1 H2):Us p b H H2:=⟨h'.1,λq o n e=>h'.2 q o n (h.2 q o n e)⟩
theorem Us.lay {p q:G6} {b:Bool} {H H1:Hp} {o:HO} (h:Us p b H H1) (f:H1 q=none):Us p b H (upd H1 q o):=by
 obtain⟨⟨l,k,e⟩,s⟩:=h;exact⟨⟨l,k,by rw [ao (λz=>by rw [<- z,e] at f;cases f)];exact e⟩,λr u n er=>by
  have:=s r u n er;rw [ao (λz=>by rw [z,f] at this;cases this)];exact this⟩
theorem Us.refl {p:G6} {b:Bool} {H:Hp} {l:Int} (h:H p=GZ (uq l b)) (k:Ad l b):Us p b H H:=⟨⟨l,k,h⟩,λ_ _ _ e=>e⟩
theorem Us.free {p q:G6} {b:Bool} {H H1:Hp} (h:Us p b H H1) (f:H1 q=none):H q=none:=by
 cases e:H q with
 | none=>rfl
 | some o =>
  by_cases n:q=p
  ·subst n;obtain⟨l,_,z⟩:=h.1;rw [z] at f;cases f
  ·rw [h.2 q o n e] at f;cases f
theorem Us.set {p q:G6} {b:Bool} {H H1:Hp} {o:HO} (h:Us p b H H1) (f:H q=none) (n:q≠p):Us p b H (upd H1 q o):=by obtain⟨⟨l,k,e⟩,s⟩:=h;exact⟨⟨l,k,by rw [ao (IJ n)];exact e⟩,λr u n er=>by rw [ao (λz=>by rw [z,f] at er;cases er)];exact s r u n er⟩
theorem Us.same {p:G6} {b:Bool} {H H0 H1:Hp} (h:Us p b H H1) (s:aw H0 H) (f:H0 p=none):aw H0 H1:=λc o e=>h.2 c o (λz=>by rw [z,f] at e;cases e) (s c o e)
section
variable {K:G1} {H H':Hp}
theorem bE.cW {a:G6} {xs:List V} (k:∀ a xs,Rd H a (.tup xs)->Rd H' a (.tup xs)) (h:bE K H a xs):bE K H' a xs:=h.imp (λz=>k _ _ z) id
mutual
theorem dv.cW (k:∀ a xs,Rd H a (.tup xs)->Rd H' a (.tup xs)):∀(d:Hy) {v:V},wY d=true->dv K H d v->dv K H' d v
 | .none,_,_,h=>h
 | .bool _,_,_,h=>h
 | .int _,_,_,h=>h
 | .str _,_,_,h=>h
 | .list ds,_,z,_=>by cases z
 | .tuple ds,_,z,⟨q,xs,e,h,t⟩=>⟨q,xs,e,h.cW k,aP.cW k ds z t⟩
 | .dict _,_,_,h=>h.elim
theorem aP.cW (k:∀ a xs,Rd H a (.tup xs)->Rd H' a (.tup xs)):∀(ds:List Hy) {xs:List V},gf ds=true->aP K H ds xs->aP K H' ds xs
 | [],_,_,h=>h
 | d::ds,_,z,⟨x,r,e,h,t⟩=>by
  have z':wY d=true/\gf ds=true:=by simpa [gf] using z
  exact⟨x,r,e,dv.cW k d z'.1 h,aP.cW k ds z'.2 t⟩
end
theorem Us.cW {p:G6} {b:Bool} {l:Int} (h:Us p b H H') (hp:H p=GZ (uq l b)):∀ a xs,Rd H a (.tup xs)->Rd H' a (.tup xs):=by
 intro a xs z;rcases z with z | ⟨o,z⟩
 ·exact .inl (h.2 _ _ (λe=>by rw [e,hp] at z;cases z) z)
 ·exact .inr ⟨o,h.2 _ _ (λe=>by rw [e,hp] at z;cases z) z⟩
end
theorem Us.ref {p:G6} {b:Bool} {H H1:Hp} (h:Us p b H H1):∃ l,Ad l b/\H1 p=GZ (uq l b):=h.1
theorem zm {X:Cx} {ss:List Le}:gN X ss (λ_ _ _=>False):=by intro _ _ _ _ _ _ h;exact IU h
theorem zk {X:Cx} {Ex:G6->G5->Hp->List G6->G2->G5->Prop} {elt target iter:Ik} {ifs:List Ik} {scope:Kf} {pos:K8} {N':List HA} {js:List (Option Nat)} {cl:List (HA × G6)} {wi:TI} {g:TG} {tt:TT} {te:TE} {i0:Nat} {x0:HA} {pos' pos2:K8} (hN0:X.N.Nodup) (hi0:X.N[i0]?=GZ x0) (hx0:Loc X.env.scope x0) (Qf:X.calm=true)
  (K:fU X N' js scope cl) (hi:PI X target iter wi)
  (hg:∀ C s₂ H₂ fp,mK X C s₂ H₂ fp->PG (cn X (Ex C s₂ H₂ fp) N' scope cl C s₂ H₂ fp) target g) (ht:∀ C s₂ H₂ fp,mK X C s₂ H₂ fp->mL (cn X (Ex C s₂ H₂ fp) N' scope cl C s₂ H₂ fp) ifs tt) (he:∀ C s₂ H₂ fp,mK X C s₂ H₂ fp->PE (cn X (Ex C s₂ H₂ fp) N' scope cl C s₂ H₂ fp) elt te)
  (herr:∀ C s₂ H₂ fp use Q' acc e s',Ex C s₂ H₂ fp e s'->notedBy (model X.prog X.w) X.A (compEnvC scope (cellsFrom (C+1) scope.names cl) C X.env) (λe s''=>compPost (model X.prog X.w) X.A X.xe use Q' acc C (.error e) s'') e s')
  (hsw:swapsWith (.ListComp elt [⟨target,iter,ifs,0⟩] scope pos) (GZ (.Name x0 pos')) pos2.line X.env=pure true) (hf0:X.fn x0=true∨X.env.scope.names.lookup x0=GZ .local)
  (hs:autoParam (∀ x,foldedSetIterable iter X.env x=pure x) Z4._auto_1):PS X (.Assign [.Name x0 pos'] (.ListComp elt [⟨target,iter,ifs,0⟩] scope pos) pos2) (ur (Fz js wi g tt te) (cS i0)):=by
 intro pins s σ H Dn I h;rw [OI _ _ _ _ hsw];refine G3 (JX (G3 ?_));unfold evalThenUse;refine G3 ?_;refine LR (use:=GZ (assign (.Name x0 pos') X.env)) rfl hs K.clos K.kind K.names (a9 (hi pins s σ H _ I h) λv s1 h1=>a9 h1 λitv s2 h2=>?_);obtain⟨H2,I2⟩:∃ H2,Inv X pins σ H2 s2:=by obtain⟨_,_,_,_,H2,_,I2,_⟩:=h2;exact⟨H2,I2⟩
 refine uM (Ex:=Ex) (Q:=λx H1=>cS i0 x σ H1 Dn.nx) Qf K hg ht he herr h2 λC D vys H4 s5 hm hDe hDleC hDC nD nC hI qn=>?_;obtain⟨m5,hn5⟩:=hm;have le:=Hg hDe hDleC;have key:Inv X pins σ (upd H4 D (.lst vys)) s5:=hI s5.heap ⟨rfl,λ_ _=>rfl⟩;have nC':upd H4 D (.lst vys) C=none:=by rw [ao (IJ hDC)];exact nC
 have CL:C≠X.env.locals:=λz=>by have:=I2.lt;rw [<- z] at this;exact Jt _ (Hr this le)
 have Cfs:C∉X.fs:=λz=>I2.yy le z;obtain⟨oC,es,ep,gC,dC,skC,fdC⟩:=hn5;have J1:Inv X ((C,oC)::pins) σ (upd H4 D (.lst vys)) s5:=key.eG λp hp=>by
  rcases Hw.mp hp with z | z
  ·subst z;exact⟨gC,nC',CL,Cfs,λv z=>by rw [dC] at z;cases z⟩
  ·exact key.pin p (Hm _ z)
 show wpAny _ _ (assign (.Name x0 pos') X.env (.ref D)) _ _ _;refine N5 ?_;refine bS J1 hN0 hi0 hx0 (show RelV (.ref D) (.ref D) from rfl) (λs6 I6=>?_) hf0;have pC:=(I6.pin (C,oC) (Hm _ (Hi ..))).1;refine⟨m5,⟨oC,es,ep,pC,dC,skC,fdC⟩,λh' hsb'=>?_⟩;have I7:Inv X pins (σ.set i0 (GZ (.ref D))) (upd H4 D (.lst vys)) s6:=I6.eG λp hp=>I6.pin p (Hm _ (Ha _ hp));have I8:=I7.turned (t':=s6.toks) (it:=C) (λb o hb e=>hsb'.extBut b o hb e) nC' CL (.inr (Hg I2.sz le))
  (λx c e=>by
   obtain⟨v,q⟩:=I2.cell x c e;exact HP (Hr q.lt le))
  (λp hp=>HP (Hr (Hn (I2.pin p hp).1) le))
 exact G8 (G8 ⟨_,_,I8,qn⟩)
theorem gX {X:Cx} {elt target iter:Ik} {ifs:List Ik} {scope:Kf} {pos:K8} {N':List HA} {js:List (Option Nat)} {cl:List (HA × G6)} {wi:TI} {g:TG} {tt:TT} {te:TE} {i0:Nat} {x0:HA} {pos' pos2:K8} (hN0:X.N.Nodup) (hi0:X.N[i0]?=GZ x0) (hx0:Loc X.env.scope x0) (Qf:X.calm=true)
  (K:fU X N' js scope cl) (hi:PI X target iter wi)
  (hg:∀ C s₂ H₂ fp,PG (cR X N' scope cl C s₂ H₂ fp) target g) (ht:∀ C s₂ H₂ fp,mL (cR X N' scope cl C s₂ H₂ fp) ifs tt) (he:∀ C s₂ H₂ fp,PE (cR X N' scope cl C s₂ H₂ fp) elt te)
  (hsw:swapsWith (.ListComp elt [⟨target,iter,ifs,0⟩] scope pos) (GZ (.Name x0 pos')) pos2.line X.env=pure true) (hf0:X.fn x0=true∨X.env.scope.names.lookup x0=GZ .local)
  (hs:autoParam (∀ x,foldedSetIterable iter X.env x=pure x) Z4._auto_1):PS X (.Assign [.Name x0 pos'] (.ListComp elt [⟨target,iter,ifs,0⟩] scope pos) pos2) (ur (Fz js wi g tt te) (cS i0)) :=
 zk (Ex:=λ_ _ _ _ _ _=>False) hN0 hi0 hx0 Qf K hi (λC s H f _=>hg C s H f) (λC s H f _=>ht C s H f) (λC s H f _=>he C s H f) (λ_ _ _ _ _ _ _ _ _ z=>z.elim) hsw hf0 hs
theorem qv (it t:G6) (i:Nat) (items:Array G2) (x:G2) (hx:items[i]?=GZ x):Tu (Kj.«tuple_iterator.__next__» ⟨[.ref it],[]⟩)
  (λ_ R s=>s.heap.IsTupleIter it t i/\s.heap.IsTuple t items/\∀ h',h'.IsTupleIter it t (i+1)->JK it s.heap h'->R (.ok (.ret x)) { s with heap:=h' }) :=
 .of_wp λprog w A R s h=>by
  obtain⟨⟨o,e,c,d⟩,⟨o2,e2,c2,n2,d2⟩,q⟩:=h;have hx':items[(i:Int).toNat]?=GZ x:=by simpa using hx
  wp_walk using Jp (i:=0) (x:=HR t) e d rfl,Jp (i:=1) (x:=L8 i 0) e d rfl,Lg e2 d2
  rw [hx'];refine G3 (Lf e d (show 1<2 by decide) ?_);obtain⟨oc,od,odt,os⟩:=o;cases c;cases d
  wp_walk
  refine⟨x,rfl,q _ ⟨_,IP _ e rfl,rfl,?_⟩ (KD ..)⟩;show Data.fields _=_;simp [rawInt]
theorem sJ (it t:G6) (i:Nat) (items:Array G2) (hx:items[i]?=none):Tu (Kj.«tuple_iterator.__next__» ⟨[.ref it],[]⟩)
  (λA R s=>A.handled=none/\s.heap.IsTupleIter it t i/\s.heap.IsTuple t items/\∀ h' e,O4 it s.heap h'->(∃ o,h'.get? e=GZ o/\o.cls=.type "StopIteration")->R (.error (.ref e)) { s with heap:=h' }) :=
 .of_wp λprog w A R s h=>by
  obtain⟨hn,⟨o,e,c,d⟩,⟨o2,e2,c2,n2,d2⟩,q⟩:=h;have hx':items[(i:Int).toNat]?=none:=by simpa using hx
  wp_walk using Jp (i:=0) (x:=HR t) e d rfl,Jp (i:=1) (x:=L8 i 0) e d rfl,Lg e2 d2
  rw [hx']
  wp_walk using Lf e d (show 0<2 by decide)
  refine Pt hn (q _ _ (λb o hb e=>G7 _ (G7 _ ((Ih _ _ (IJ hb)).trans e))) ⟨_,Hs _ rfl,rfl⟩)
section
variable {prog:Hq} {w:HU} {A:HX} {E:G2->G5->Prop} {s:G5} {it t:G6} {i:Nat} {items:Array G2} {Q:G2->G5->Prop}
theorem kG {x:G2} (h1:s.heap.IsTupleIter it t i) (h2:s.heap.IsTuple t items) (hx:items[i]?=GZ x) (q:∀ h',h'.IsTupleIter it t (i+1)->JK it s.heap h'->Q x { s with heap:=h' }) :
  wpAny (model prog w) A (JM (.ref it)) Q E s:=by
 have ty:s.TypeIs (.ref it) "tuple_iterator":=by obtain⟨o,e,c,_⟩:=h1;exact⟨o,e,c⟩
 unfold JM;refine G3 (JE ty LP (NA LP ty O5 (Px _) (qv it t i items x hx) ⟨h1,h2,λh' a b=>?_⟩));exact G8 (q h' a b)
theorem lQ (hn:A.handled=none) (h1:s.heap.IsTupleIter it t i) (h2:s.heap.IsTuple t items) (hx:items[i]?=none) (q:∀ h' e,O4 it s.heap h'->(∃ o,h'.get? e=GZ o/\o.cls=.type "StopIteration")->E (.ref e) { s with heap:=h' }) :
  wpAny (model prog w) A (JM (.ref it)) Q E s:=by
 have ty:s.TypeIs (.ref it) "tuple_iterator":=by obtain⟨o,e,c,_⟩:=h1;exact⟨o,e,c⟩
 unfold JM;exact G3 (JE ty LP (NA LP ty O5 (Px _) (sJ it t i items hx) ⟨hn,h1,h2,λh' e a b=>q h' e a b⟩))
end
inductive Sd
 | l
 | t
def Sd.It:Sd->Ip->G6->G6->Nat->Prop
 | .l=>Heap.IsListIter
 | .t=>Heap.IsTupleIter
def Sd.Sq:Sd->Ip->G6->Array G2->Prop
 | .l=>Heap.IsList
 | .t=>Heap.IsTuple
noncomputable def Sd.io (k:Sd) (a:G6):Kl:=match k with
 | .l=>{ cls:=.type "list_iterator",data:=.fields #[.ref a,.int 0 0] }
 | .t=>{ cls:=.type "tuple_iterator",data:=.fields #[.ref a,.int 0 0] }
theorem Sd.It.at {k:Sd} {h h':Ip} {it a:G6} {i:Nat} (x:k.It h it a i) (e:∀ o,h.get? it=GZ o->h'.get? it=GZ o):k.It h' it a i:=by cases k<;>(obtain⟨o,e1,r⟩:=x;exact⟨o,e o e1,r⟩)
theorem Sd.It.there {k:Sd} {h:Ip} {it a:G6} {i:Nat} (x:k.It h it a i):∃ o,h.get? it=GZ o/\∀ v,o.data≠.cell v:=by cases k<;>(obtain⟨o,e1,_,d⟩:=x;exact⟨o,e1,λv z=>by rw [d] at z;cases z⟩)
theorem Sd.Sq.at {k:Sd} {h h':Ip} {a:G6} {xs:Array G2} (x:k.Sq h a xs) (e:∀ o,h.get? a=GZ o->h'.get? a=GZ o):k.Sq h' a xs:=by cases k<;>(obtain⟨o,e1,r⟩:=x;exact⟨o,e o e1,r⟩)
theorem Sd.Sq.lt {k:Sd} {h:Ip} {a:G6} {xs:Array G2} (x:k.Sq h a xs):a<h.objs.size:=by cases k<;>(obtain⟨o,e1,r⟩:=x;exact Hn e1)
theorem Sd.start (k:Sd) {h:Ip} {it a:G6} (e:h.get? it=GZ (k.io a)):k.It h it a 0:=by cases k<;>exact⟨_,e,rfl,rfl⟩
section
variable {prog:Hq} {w:HU} {A:HX} {E:G2->G5->Prop} {s:G5} {it a:G6} {i:Nat} {xs:Array G2} {Q:G2->G5->Prop} {k:Sd}
theorem Sd.item {x:G2} (h1:k.It s.heap it a i) (h2:k.Sq s.heap a xs) (hx:xs[i]?=GZ x) (q:∀ h',k.It h' it a (i+1)->JK it s.heap h'->Q x { s with heap:=h' }) :
  wpAny (model prog w) A (JM (.ref it)) Q E s:=by
 cases k
 ·exact wpAny_nextOf_list_item h1 h2 hx q
 ·exact kG h1 h2 hx q
theorem Sd.fin (hn:A.handled=none) (h1:k.It s.heap it a i) (h2:k.Sq s.heap a xs) (hx:xs[i]?=none) (q:∀ h' e,O4 it s.heap h'->(∃ o,h'.get? e=GZ o/\o.cls=.type "StopIteration")->E (.ref e) { s with heap:=h' }) :
  wpAny (model prog w) A (JM (.ref it)) Q E s:=by
 cases k
 ·exact wpAny_nextOf_list_end hn h1 h2 hx q
 ·exact lQ hn h1 h2 hx q
theorem Sd.iter (h2:k.Sq s.heap a xs) (q:Q (.ref s.heap.objs.size) { s with heap:=s.heap.push (k.io a) }):wpAny (model prog w) A (pyIter (.ref a)) Q E s:=by
 cases k
 ·exact Qa h2 q
 ·exact PN h2 q
end
theorem BN (k1 k2:Sd) (l1 l2:G6) (xs ys:Array G2):Tu (Kj.«zip.__new__» ⟨[.type "zip",.ref l1,.ref l2],[]⟩)
  (λ_ R s=>k1.Sq s.heap l1 xs/\k2.Sq s.heap l2 ys/\∀ h',Qn h' (s.heap.objs.size+4) (s.heap.objs.size+2) (s.heap.objs.size+3) .none->KW h' (s.heap.objs.size+2) (.ref s.heap.objs.size) (.ref (s.heap.objs.size+1)) ->
   KW h' (s.heap.objs.size+3) .none .none->k1.It h' s.heap.objs.size l1 0->k2.It h' (s.heap.objs.size+1) l2 0->(∀ c o,s.heap.get? c=GZ o->h'.get? c=GZ o)->R (.ok (.ret (.ref (s.heap.objs.size+4)))) { s with heap:=h' }) :=
 .of_wp λprog w A R s h=>by
  obtain⟨h1,h2,q⟩:=h;have f1:=sub_zip;have h2':k2.Sq (s.heap.push (k1.io l1)) l2 ys:=h2.at λo e=>G7 _ e
  wp_walk using Sd.iter h1,Sd.iter (s:={ s with heap:=s.heap.push (k1.io l1) }) h2'
  refine⟨_,rfl,?_⟩;have e5:((((s.heap.push (k1.io l1)).push (k2.io l2)).push { cls:=.type "tuple",data:=.seq #[.ref s.heap.objs.size,.ref (s.heap.push (k1.io l1)).objs.size] }).push { cls:=.type "tuple",data:=.seq #[.none,.none] }).objs.size=s.heap.objs.size+4:=by simp only [IM]
  have e4:(((s.heap.push (k1.io l1)).push (k2.io l2)).push { cls:=.type "tuple",data:=.seq #[.ref s.heap.objs.size,.ref (s.heap.push (k1.io l1)).objs.size] }).objs.size=s.heap.objs.size+3:=by simp only [IM]
  have e3:((s.heap.push (k1.io l1)).push (k2.io l2)).objs.size=s.heap.objs.size+2:=by simp only [IM]
  have e2:(s.heap.push (k1.io l1)).objs.size=s.heap.objs.size+1:=by simp only [IM]
  show R (.ok (.ret (.ref ((((s.heap.push (k1.io l1)).push (k2.io l2)).push { cls:=.type "tuple",data:=.seq #[.ref s.heap.objs.size,.ref (s.heap.push (k1.io l1)).objs.size] }).push { cls:=.type "tuple",data:=.seq #[.none,.none] }).objs.size))) { s with heap:=((((s.heap.push (k1.io l1)).push (k2.io l2)).push { cls:=.type "tuple",data:=.seq #[.ref s.heap.objs.size,.ref (s.heap.push (k1.io l1)).objs.size] }).push { cls:=.type "tuple",data:=.seq #[.none,.none] }).push { cls:=.type "zip",data:=.fields #[.none,.bool false,.bool false,.ref ((s.heap.push (k1.io l1)).push (k2.io l2)).objs.size,.ref (((s.heap.push (k1.io l1)).push (k2.io l2)).push { cls:=.type "tuple",data:=.seq #[.ref s.heap.objs.size,.ref (s.heap.push (k1.io l1)).objs.size] }).objs.size] } };have g0:(s.heap.push (k1.io l1)).get? s.heap.objs.size=GZ (k1.io l1):=Hs _ (by cases k1<;>rfl);have g1:((s.heap.push (k1.io l1)).push (k2.io l2)).get? (s.heap.objs.size+1)=GZ (k2.io l2):=by rw [<- e2];exact Hs _ (by cases k2<;>rfl)
  rw [e5,e4,e3,e2];refine q _ ?_ ?_ ?_ (k1.start (G7 _ (G7 _ (G7 _ (G7 _ g0))))) (k2.start (G7 _ (G7 _ (G7 _ g1)))) λc o e=>G7 _ (G7 _ (G7 _ (G7 _ (G7 _ e))))
  ·exact (show _=_ from by
    have:=Hs (((((s.heap.push (k1.io l1)).push (k2.io l2)).push { cls:=.type "tuple",data:=.seq #[.ref s.heap.objs.size,.ref (s.heap.objs.size+1)] }).push { cls:=.type "tuple",data:=.seq #[.none,.none] })) (o:={ cls:=.type "zip",data:=.fields #[.none,.bool false,.bool false,.ref (s.heap.objs.size+2),.ref (s.heap.objs.size+3)] }) rfl;simp only [IM] at this;exact this)
  ·refine G7 _ (G7 _ ?_);have:=Hs ((s.heap.push (k1.io l1)).push (k2.io l2)) (o:={ cls:=.type "tuple",data:=.seq #[.ref s.heap.objs.size,.ref (s.heap.objs.size+1)] }) rfl;simp only [IM] at this;exact this
  ·refine G7 _ ?_;have:=Hs (((s.heap.push (k1.io l1)).push (k2.io l2)).push { cls:=.type "tuple",data:=.seq #[.ref s.heap.objs.size,.ref (s.heap.objs.size+1)] }) (o:={ cls:=.type "tuple",data:=.seq #[.none,.none] }) rfl;simp only [IM] at this;exact this
theorem Aa (k1 k2:Sd) (z TI TO i1 i2 l1 l2:G6) (ap:SV z TI TO i1 i2 l1 l2) (n1 n2:Nat) (xs ys:Array G2) (x y a b:G2) (hx:xs[n1]?=GZ x) (hy:ys[n2]?=GZ y):Tu (Kj.«zip.__next__» ⟨[.ref z],[]⟩)
  (λ_ R s=>Qn s.heap z TI TO .none/\KW s.heap TI (.ref i1) (.ref i2)/\KW s.heap TO a b/\k1.It s.heap i1 l1 n1/\k2.It s.heap i2 l2 n2/\k1.Sq s.heap l1 xs/\k2.Sq s.heap l2 ys /\
   ∀ h',Qn h' z TI TO (rawInt s.heap.objs.size)->KW h' TO x y->k1.It h' i1 l1 (n1+1)->k2.It h' i2 l2 (n2+1)->KW h' s.heap.objs.size x y ->
    (∀ c o,c≠z->c≠TO->c≠i1->c≠i2->s.heap.get? c=GZ o->h'.get? c=GZ o)->R (.ok (.ret (.ref s.heap.objs.size))) { s with heap:=h' }) :=
 .of_wp λprog w A R s h=>by
  obtain⟨hz,hTI,hTO,j1,j2,q1,q2,q⟩:=h
  wp_walk using Jp (i:=2) (x:=K7 false) hz rfl rfl,Jp (i:=3) (x:=HR TI) hz rfl rfl,Jp (i:=0) (x:=J3) hz rfl rfl,Jp (i:=4) (x:=HR TO) hz rfl rfl,Lg hTI rfl,NC hz (show 0<5 by decide)
  intro ha za sa;have ka:∀ c o,c≠z->s.heap.get? c=GZ o->ha.get? c=GZ o:=λc o hc e=>(sa.2 c hc).trans e;have j1a:=j1.at (h':=ha) λo e=>ka i1 o ap.i1z e;have q1a:=q1.at (h':=ha) λo e=>ka l1 o ap.l1z e
  wp_walk using N3,Sd.item (s:={ s with heap:=ha }) j1a q1a hx
  intro hb jb sb;have kb:∀ c o,c≠z->c≠i1->s.heap.get? c=GZ o->hb.get? c=GZ o:=λc o h1 h2 e=>(sb.2 c h2).trans (ka c o h1 e);have TOb:KW hb TO a b:=kb TO _ ap.TOz ap.TOi1 hTO
  wp_walk using Lg TOb rfl,O6 (s:={ s with heap:=hb }) TOb
  intro hc TOc' sc;have TOc:KW hc TO x b:=TOc';have kc:∀ c o,c≠z->c≠i1->c≠TO->s.heap.get? c=GZ o->hc.get? c=GZ o:=λc o h1 h2 h3 e=>(sc.2 c h3).trans (kb c o h1 h2 e);have zc:hc.get? z=GZ { cls:=.type "zip",data:=.fields #[.ellipsis,.bool false,.bool false,.ref TI,.ref TO] }:=(sc.2 z (IJ ap.TOz)).trans ((sb.2 z (IJ ap.i1z)).trans za);have j1c:=jb.at (h':=hc) λo e=>(sc.2 i1 (IJ ap.TOi1)).trans e;have j2c:=j2.at (h':=hc) λo e=>kc i2 o ap.i2z (IJ ap.i12) (IJ ap.TOi2) e;have q2c:=q2.at (h':=hc) λo e=>kc l2 o ap.l2z ap.l2i1 ap.l2TO e
  wp_walk using O7,N3,Sd.item (s:={ s with heap:=hc }) j2c q2c hy
  intro hd jd sd;have TOd:KW hd TO x b:=(sd.2 TO ap.TOi2).trans TOc;have zd:=(sd.2 z (IJ ap.i2z)).trans zc
  wp_walk using Lg TOd rfl,O6 (s:={ s with heap:=hd }) TOd
  intro he TOe' se;have TOe:KW he TO x y:=TOe';have ze:=(se.2 z (IJ ap.TOz)).trans zd
  wp_walk using O7,Lg TOe rfl
  have sz:he.objs.size=s.heap.objs.size:=se.1.trans (sd.1.trans (sc.1.trans (sb.1.trans sa.1)));have zn:z≠he.objs.size:=HP (Hn ze);have zf:(he.push { cls:=.type "tuple",data:=.seq #[x,y] }).get? z=GZ { cls:=.type "zip",data:=.fields #[.ellipsis,.bool false,.bool false,.ref TI,.ref TO] }:=G7 _ ze;have ke:∀ c o,c≠z->he.get? c=GZ o->(((he.push { cls:=.type "tuple",data:=.seq #[x,y] }).update z (JJ λx=>x.setIfInBounds 0 (rawInt ↑he.objs.size))).update z (JJ λx=>x.setIfInBounds 1 (K7 false))).get? c=GZ o:=λc o hc e=>(Ih _ _ (IJ hc)).trans ((Ih _ _ (IJ hc)).trans (G7 _ e));have g1:=IP (JJ λx=>x.setIfInBounds 0 (rawInt ↑he.objs.size)) zf rfl;have g2:=IP (JJ λx=>x.setIfInBounds 1 (K7 false)) g1 rfl;have gn:(((he.push { cls:=.type "tuple",data:=.seq #[x,y] }).update z (JJ λx=>x.setIfInBounds 0 (rawInt ↑he.objs.size))).update z (JJ λx=>x.setIfInBounds 1 (K7 false))).get? he.objs.size=GZ { cls:=.type "tuple",data:=.seq #[x,y] }:=(Ih _ _ zn).trans ((Ih _ _ zn).trans (Hs _ rfl));refine⟨_,rfl,?_⟩;show R (.ok (.ret (.ref he.objs.size))) { s with heap:=(((he.push { cls:=.type "tuple",data:=.seq #[x,y] }).update z (JJ λx=>x.setIfInBounds 0 (rawInt ↑he.objs.size))).update z (JJ λx=>x.setIfInBounds 1 (K7 false))) };generalize (((he.push { cls:=.type "tuple",data:=.seq #[x,y] }).update z (JJ λx=>x.setIfInBounds 0 (rawInt ↑he.objs.size))).update z (JJ λx=>x.setIfInBounds 1 (K7 false)))=hf at *;rw [sz];refine q hf (by rw [<- sz];exact g2) (ke TO _ ap.TOz TOe) (j1c.at λo e=>ke i1 o ap.i1z ((se.2 i1 (IJ ap.TOi1)).trans ((sd.2 i1 ap.i12).trans e))) (jd.at λo e=>ke i2 o ap.i2z ((se.2 i2 (IJ ap.TOi2)).trans e)) (by rw [<- sz];exact gn) λc o h1 h2 h3 h4 e=>ke c o h1 ((se.2 c h2).trans ((sd.2 c h4).trans (kc c o h1 h3 h2 e)))
theorem z9 (k1:Sd) (z TI TO i1 i2 l1:G6) (i1z:i1≠z) (l1z:l1≠z) (n1:Nat) (xs:Array G2) (a b:G2) (hx:xs[n1]?=none):Tu (Kj.«zip.__next__» ⟨[.ref z],[]⟩)
  (λA R s=>A.handled=none/\Qn s.heap z TI TO .none/\KW s.heap TI (.ref i1) (.ref i2)/\KW s.heap TO a b/\k1.It s.heap i1 l1 n1/\k1.Sq s.heap l1 xs /\
   ∀ h' e,(∀ c o,c≠z->c≠i1->s.heap.get? c=GZ o->h'.get? c=GZ o)->(∃ o,h'.get? e=GZ o/\o.cls=.type "StopIteration")->R (.error (.ref e)) { s with heap:=h' }) :=
 .of_wp λprog w A R s h=>by
  obtain⟨hn,hz,hTI,hTO,j1,q1,q⟩:=h
  wp_walk using Jp (i:=2) (x:=K7 false) hz rfl rfl,Jp (i:=3) (x:=HR TI) hz rfl rfl,Jp (i:=0) (x:=J3) hz rfl rfl,Jp (i:=4) (x:=HR TO) hz rfl rfl,Lg hTI rfl,NC hz (show 0<5 by decide)
  intro ha za sa;have ka:∀ c o,c≠z->s.heap.get? c=GZ o->ha.get? c=GZ o:=λc o hc e=>(sa.2 c hc).trans e;have j1a:=j1.at (h':=ha) λo e=>ka i1 o i1z e;have q1a:=q1.at (h':=ha) λo e=>ka l1 o l1z e
  wp_walk using N3,Sd.fin (A:=A.in1) (s:={ s with heap:=ha }) hn j1a q1a hx
  intro hb e kb oe;have zb:=kb z _ (IJ i1z) za;refine NC (s:={ s with heap:=hb }) zb (show 0<5 by decide) λhc zc sc=>?_;obtain⟨o,eo,co⟩:=oe;have ez:e≠z:=λx=>by
   subst x;rw [zb] at eo;cases eo;injection co with x
   exact absurd x (by decide)
  exact q hc e (λc o h1 h2 x=>(sc.2 c h1).trans (kb c o h2 (ka c o h1 x))) ⟨o,(sc.2 e ez).trans eo,co⟩
section
variable {prog:Hq} {w:HU} {A:HX} {E:G2->G5->Prop} {s:G5}
theorem oo {it:G6} {T id:String} {Q:Option G2->G5->Prop} (ty:s.TypeIs (.ref it) T) (sl:Slot T "__next__" id)
  (h:wpAny (model prog w) A (call (.builtin id) [.ref it]) (λv s'=>Q (GZ v) s') (λe s'=>(∃ x o,e=.ref x/\s'.heap.get? x=GZ o/\o.cls=.type "StopIteration")/\Q none s') s):wpAny (model prog w) A (pyNext (.ref it)) Q E s:=by
 unfold pyNext;refine G3 (MQ (JE ty sl (IK h (λv s' q=>G8 q) λe s' q=>?_)));obtain⟨⟨x,o,rfl,eo,co⟩,q⟩:=q;refine G3 (QF (T := "StopIteration") (b:=true) ⟨o,eo,co⟩ ?_ ?_)
 ·with_unfolding_all rfl
 ·rw [if_pos rfl];exact G8 q
theorem xu {k1 k2:Sd} {l1 l2:G6} {xs ys:Array G2} {Q:G2->G5->Prop} (h1:k1.Sq s.heap l1 xs) (h2:k2.Sq s.heap l2 ys)
  (q:∀ h',Qn h' (s.heap.objs.size+4) (s.heap.objs.size+2) (s.heap.objs.size+3) .none->KW h' (s.heap.objs.size+2) (.ref s.heap.objs.size) (.ref (s.heap.objs.size+1)) ->
   KW h' (s.heap.objs.size+3) .none .none->k1.It h' s.heap.objs.size l1 0->k2.It h' (s.heap.objs.size+1) l2 0->(∀ c o,s.heap.get? c=GZ o->h'.get? c=GZ o)->Q (.ref (s.heap.objs.size+4)) { s with heap:=h' }) :
  wpAny (model prog w) A (call (.type "zip") [.ref l1,.ref l2]) Q E s :=
 callType_new F.called_zip (by decide) (F.typeCall_zip_2 _ _) (F.newCall_zip_2 _ _) (λobj=>F.args_object_init_3 _ _ _) F.entry_zip_new (BN k1 k2 l1 l2 xs ys) ⟨h1,h2,λh' z a b c d e=>⟨⟨_,z,rfl⟩,q h' z a b c d e⟩⟩
theorem mS {k1 k2:Sd} {z TI TO i1 i2 l1 l2:G6} {n1 n2:Nat} {xs ys:Array G2} {x y a b:G2} {Q:Option G2->G5->Prop} (ap:SV z TI TO i1 i2 l1 l2) (hz:Qn s.heap z TI TO .none) (hTI:KW s.heap TI (.ref i1) (.ref i2)) (hTO:KW s.heap TO a b)
  (j1:k1.It s.heap i1 l1 n1) (j2:k2.It s.heap i2 l2 n2) (q1:k1.Sq s.heap l1 xs) (q2:k2.Sq s.heap l2 ys) (hx:xs[n1]?=GZ x) (hy:ys[n2]?=GZ y)
  (q:∀ h',Qn h' z TI TO (rawInt s.heap.objs.size)->KW h' TO x y->k1.It h' i1 l1 (n1+1)->k2.It h' i2 l2 (n2+1)->KW h' s.heap.objs.size x y ->
    (∀ c o,c≠z->c≠TO->c≠i1->c≠i2->s.heap.get? c=GZ o->h'.get? c=GZ o)->Q (GZ (.ref s.heap.objs.size)) { s with heap:=h' }):wpAny (model prog w) A (pyNext (.ref z)) Q E s :=
 oo ⟨_,hz,rfl⟩ M6 (NA M6 ⟨_,hz,rfl⟩ QG (Qo _) (Aa k1 k2 z TI TO i1 i2 l1 l2 ap n1 n2 xs ys x y a b hx hy) ⟨hz,hTI,hTO,j1,j2,q1,q2,λh' a b c d e f=>q h' a b c d e f⟩)
theorem pI {k1:Sd} {z TI TO i1 i2 l1:G6} {n1:Nat} {xs:Array G2} {a b:G2} {Q:Option G2->G5->Prop} (hn:A.handled=none) (i1z:i1≠z) (l1z:l1≠z) (hz:Qn s.heap z TI TO .none) (hTI:KW s.heap TI (.ref i1) (.ref i2)) (hTO:KW s.heap TO a b)
  (j1:k1.It s.heap i1 l1 n1) (q1:k1.Sq s.heap l1 xs) (hx:xs[n1]?=none)
  (q:∀ h',(∀ c o,c≠z->c≠i1->s.heap.get? c=GZ o->h'.get? c=GZ o)->Q none { s with heap:=h' }):wpAny (model prog w) A (pyNext (.ref z)) Q E s :=
 oo ⟨_,hz,rfl⟩ M6 (NA M6 ⟨_,hz,rfl⟩ QG (Qo _) (z9 k1 z TI TO i1 i2 l1 i1z l1z n1 xs a b hx) ⟨hn,hz,hTI,hTO,j1,q1,λh' e k ⟨o,eo,co⟩=>⟨⟨e,o,rfl,eo,co⟩,q h' k⟩⟩)
end
def sM (k:Sd) (K:G1) (H:Hp) (a:G6) (xs:List V):Prop:=match k with
 | .l=>aM K H a xs
 | .t=>bE K H a xs
theorem Inv.E6 {X:Cx} {pins:List (G6 × Kl)} {σ:St} {H:Hp} {s:G5} {k:Sd} {a:G6} {xs:List V} (I:Inv X pins σ H s) (h:sM k X.K H a xs):∃ its:List G2,Vals xs its/\k.Sq s.heap a its.toArray:=by
 cases k
 ·obtain⟨its,r,p,_⟩:=I.list h;exact⟨its,r,p.isList⟩
 ·obtain⟨its,r,p,_⟩:=I.tuple h;exact⟨its,r,p⟩
theorem Inv.vt {X:Cx} {pins:List (G6 × Kl)} {σ:St} {H:Hp} {s:G5} {k:Sd} {a:G6} {xs ys:List V} (I:Inv X pins σ H s) (h:sM k X.K H a xs) (h':sM k X.K H a ys):xs=ys:=by
 cases k
 ·exact I.lM h h'
 ·exact I.oI h h'
noncomputable def Ei (k1 k2:Sd) (K:G1) (a b:G6):It :=
 ⟨λi H=>∃ xs ys x y,sM k1 K H a xs/\sM k2 K H b ys/\xs[i]?=GZ x/\ys[i]?=GZ y,λi H x H'=>∃ p u v,H p=none/\x=.ref p/\(∀ xs,sM k1 K H a xs->xs[i]?=GZ u)/\(∀ ys,sM k2 K H b ys->ys[i]?=GZ v)/\H'=upd H p (.tup [u,v]),
  λi H=>∃ xs,sM k1 K H a xs/\xs.length<=i⟩
theorem z5 {P:Hq} {w:HU} {K:G1} {elts:List Ik} {x1} {pos:K8} {k1 k2:Sd} {a b z TI TO i1 i2:G6} (ap:SV z TI TO i1 i2 a b):Turn P w K (.Tuple elts x1 pos) (Ei k1 k2 K a b) [z,TI,TO,i1,i2] z (λi h=>Qn h z TI TO .none/\KW h TI (.ref i1) (.ref i2)/\(∃ u v,KW h TO u v)/\k1.It h i1 a i/\k2.It h i2 b i) where
 mem:=by simp
 obj:=λi h st c hc=>by
  obtain⟨h1,h2,⟨u,v,h3⟩,h4,h5⟩:=st;simp only [Hw,Js,or_false] at hc;rcases hc with rfl | rfl | rfl | rfl | rfl
  ·exact⟨_,h1,λv z=>by cases z⟩
  ·exact⟨_,h2,λv z=>by cases z⟩
  ·exact⟨_,h3,λv z=>by cases z⟩
  ·exact h4.there
  ·exact h5.there
 keep:=λi h h' st k=>by obtain⟨h1,h2,⟨u,v,h3⟩,h4,h5⟩:=st;exact⟨k z (by simp) _ h1,k TI (by simp) _ h2,⟨u,v,k TO (by simp) _ h3⟩,h4.at λo x=>k i1 (by simp) o x,h5.at λo x=>k i2 (by simp) o x⟩
 item:=by
  intro X hP hw hK hc i pins s σ H E I hf st hg;subst hP hw hK;obtain⟨xs,ys,x,y,hq1,hq2,hx,hy⟩:=hg;obtain⟨its1,rv1,p1⟩:=I.E6 hq1;obtain⟨its2,rv2,p2⟩:=I.E6 hq2;obtain⟨u,hu,ru⟩:=rv1.get hx;obtain⟨v,hv,rv⟩:=rv2.get hy;obtain⟨h1,h2,⟨u0,v0,h3⟩,h4,h5⟩:=st;refine mS ap h1 h2 h3 h4 h5 p1 p2 (x:=u) (y:=v) (by simpa using hu) (by simpa using hv) λh' z' TO' j1 j2 hT hk=>?_;refine⟨_,rfl,?_⟩;have fT:H s.heap.objs.size=none:=I.hok.fresh (Hd _);refine wpAny_letOwnedTupleGo_zip z' λh'' z2 s2=>?_;have hke:∀ c o,c∉[z,TI,TO,i1,i2]->s.heap.get? c=GZ o->h''.get? c=GZ o:=λc o hc q=>by simp only [Hw,Js,or_false,not_or] at hc;exact (s2.2 c hc.1).trans (hk c o hc.1 hc.2.2.1 hc.2.2.2.1 hc.2.2.2.2 q)
  have I1:Inv X pins σ H { s with heap:=h'',toks:=s.toks }:=I.kZ hke hf;have nz:∀ c∈[z,TI,TO,i1,i2],c≠s.heap.objs.size:=λc hc e=>by
   have:∃ o,s.heap.get? c=GZ o:=by
    simp only [Hw,Js,or_false] at hc;rcases hc with rfl | rfl | rfl | rfl | rfl
    ·exact⟨_,h1⟩
    ·exact⟨_,h2⟩
    ·exact⟨_,h3⟩
    ·obtain⟨o,e,_⟩:=h4.there;exact⟨o,e⟩
    ·obtain⟨o,e,_⟩:=h5.there;exact⟨o,e⟩
   obtain⟨o,eo⟩:=this;exact HP (Hn eo) e
  have hT2:h''.get? s.heap.objs.size=GZ { cls:=.type "tuple",data:=.seq #[u,v] }:=(s2.2 _ (IJ (nz z (by simp)))).trans hT;refine⟨.ref s.heap.objs.size,upd H s.heap.objs.size (.tup [x,y]),?_,rfl,⟨_,x,y,fT,rfl,λzs hz=>by rw [I.vt hz hq1];exact hx,λzs hz=>by rw [I.vt hz hq2];exact hy,rfl⟩,
   ⟨z2,(s2.2 TI ap.TIz).trans (hk TI _ ap.TIz ap.TITO ap.TIi1 ap.TIi2 h2),⟨_,_,(s2.2 TO ap.TOz).trans TO'⟩,j1.at λo q=>(s2.2 i1 ap.i1z).trans q,j2.at λo q=>(s2.2 i2 ap.i2z).trans q⟩,λc hc=>?_⟩
  ·exact I1.adopt (T:=s.heap.objs.size) (o:=.tup [x,y]) (I.mR (Hd _) fT) ⟨by show 2<=sizeLine;decide,[u,v],.cons ru (.cons rv .nil),⟨_,hT2,rfl,_,rfl⟩⟩
  ·rw [ao (nz c hc)];exact (hf c hc).1
 done:=by
  intro X hP hw hK hc i pins s σ H E I hf st hg;subst hP hw hK;obtain⟨xs,hq,hx⟩:=hg;obtain⟨its,rv,p⟩:=I.E6 hq;have hl:=rv.length;obtain⟨h1,h2,⟨u0,v0,h3⟩,h4,h5⟩:=st;exact pI (I.ok.hd hc) ap.i1z ap.l1z h1 h2 h3 h4 p (by simp;lia) λh' eb=>⟨rfl,I.kZ (t':=s.toks) (ch:=[z,i1]) (λc o hc q=>by
   simp only [Hw,Js,or_false,not_or] at hc;exact eb c o hc.1 hc.2 q) (λc hc=>hf c (by
    simp only [Hw,Js,or_false] at hc;rcases hc with rfl | rfl<;>simp))⟩
 self:=λ_ _ _ _ _ st h=>QH st.1 h
def EC (k1 k2:Sd) (K:G1) (ta:TA):TI:=λσ H R=>ta σ H λvs H1=>∃ a b,vs=[.ref a,.ref b]/\(∃ xs,sM k1 K H1 a xs)/\(∃ ys,sM k2 K H1 b ys)/\R (Ei k1 k2 K a b) H1
theorem vD:bootBuiltins "zip"=GZ (.type "zip"):=by decide +kernel
theorem ue {X:Cx} {elts:List Ik} {x1} {tpos:K8} {a b:Ik} {ta:TA} {p pos:K8} (k1 k2:Sd) (hg:Gl X "zip") (hm:X.mg "zip"=none) (ha:PA X [a,b] ta) (hs:autoParam (starEach [a,b] X.env=[(false,eval a X.env),(false,eval b X.env)]) Z0._auto_1) (hs2:autoParam (starEach [b] X.env=[(false,eval b X.env)]) Z0._auto_1) :
  PI X (.Tuple elts x1 tpos) (.Call (.Name "zip" p) [a,b] [] pos) (EC k1 k2 X.K ta):=by
 intro pins s σ H R I h;refine Call_ (iE I hg hm vD (JW (a9 (ha pos pins s σ H _ I h) λus s1 ⟨vs,H1,I1,r1,q1⟩=>?_) (by rw [hs,hs2]) (by rw [hs2];rfl)));obtain⟨a',b',e,⟨xs,hq1⟩,⟨ys,hq2⟩,q⟩:=q1;subst e;cases r1 with
 | cons r rr =>
  cases rr with
  | cons r' rr' =>cases rr';cases r;cases r';obtain⟨its1,rv1,p1⟩:=I1.E6 hq1;obtain⟨its2,rv2,p2⟩:=I1.E6 hq2;refine xu p1 p2 λh' hz hTI hTO j1 j2 hk=>?_;refine QH hz ?_;have I2:Inv X pins σ H1 { s1 with heap:=h' }:=I1.kept (t':=s1.toks) hk;refine⟨_,[s1.heap.objs.size+4,s1.heap.objs.size+2,s1.heap.objs.size+3,s1.heap.objs.size,s1.heap.objs.size+1],_,_,H1,rfl,I2,z5 (RM p1.lt p2.lt),⟨hz,hTI,⟨_,_,hTO⟩,j1,j2⟩,λc hc=>?_,q⟩;simp only [Hw,Js,or_false] at hc;rcases hc with rfl | rfl | rfl | rfl | rfl<;>exact I1.mR (by lia) (I1.hok.fresh (by lia))
theorem vG {K:G1} {k1 k2:Sd} {a b:G6} {xs ys:List V} {js:List (Option Nat)} {g:TG} {tt:TT} {te:TE} {σ:St} {Q:VK} {H1:Hp} (Pv:Nat->List V->Hp->Prop) (h0:Pv 0 [] H1) (hxy:xs.length=ys.length) (hx:xs.length<=sizeLine) (hl:∀ i zs H,i<=xs.length->Pv i zs H->sM k1 K H a xs/\sM k2 K H b ys/\zs.length<=i)
  (hs:∀ i x y zs H p,xs[i]?=GZ x->ys[i]?=GZ y->Pv i zs H->H p=none->g (.ref p) (bV js σ) (upd H p (.tup [x,y])) λσ2 H2=>bB (bV js σ) σ2/\tt σ2 H2 λc H3=>if c=true then te σ2 H3 λv H4=>Pv (i+1) (zs++[v]) H4 else Pv (i+1) zs H3)
  (hd:∀ zs H p,Pv xs.length zs H->H p=none->Q (.ref p) (upd H p (.lst zs))):qA (Ei k1 k2 K a b) js g tt te σ Q H1:=by
 refine⟨λi m zs H=>m=xs.length-i/\i<=xs.length/\Pv i zs H,⟨xs.length,by simp,IV _,h0⟩,?_⟩;rintro i m zs H ⟨rfl,hi,p⟩;obtain⟨q,q',hy⟩:=hl i zs H hi p;by_cases hlt:i<xs.length
 ·refine .inr ⟨⟨xs,ys,xs[i],ys[i],q,q',by simp [hlt],by simp⟩,by lia,Pv (i+1),λys' H' p'=>⟨xs.length-(i+1),by lia,rfl,hlt,p'⟩,λx H' y=>?_⟩;obtain⟨pt,u,v,f,e1,e2,e3,e4⟩:=y;subst e1 e4;exact hs i u v zs _ pt (e2 xs q) (e3 ys q') p f
 ·have e:i=xs.length:=by lia
  subst e;exact .inl ⟨⟨xs,q,Hd _⟩,by lia,λp' hp'=>hd zs H p' p hp'⟩
end L2
namespace Num
theorem lW {p x y:Int} {m:Nat} (h:Al p x y) (o:Ord p x m):Ord p y m:=⟨o.pos,(h.pow m).symm.trans o.one,λj z=>o.dv j ((h.pow j).trans z)⟩
noncomputable def eN:List (Int × Int)->Nat
 | []=>1
 | p::r=>p.1.toNat^p.2.toNat*eN r
theorem cK:∀ a b:List (Int × Int),eN (a++b)=eN a*eN b
 | [],b=>by simp [eN]
 | p::r,b=>by show p.1.toNat^p.2.toNat*eN (r++b)=p.1.toNat^p.2.toNat*eN r*eN b;rw [cK r b,Jn]
theorem fv:∀ a:List (Int × Int),(∀ p∈a,Pm p.1)->(eN a:Int)=cw a
 | [],_=>rfl
 | p::r,h=>by have t:=(h p (Hi ..)).two;show ((p.1.toNat^p.2.toNat*eN r:Nat):Int)=p.1^p.2.toNat*cw r;rw [Im,M7,fv r λx z=>h x (Ha _ z),show (p.1.toNat:Int)=p.1 by lia]
theorem lE:∀ a:List (Int × Int),(∀ p∈a,Pm p.1)->0<eN a
 | [],_=>QU
 | p::r,h=>by have t:=(h p (Hi ..)).two;exact K2 (K4 (by lia)) (lE r λx z=>h x (Ha _ z))
theorem C4 {q m:Nat} (h:Nm q) (hm:¬q∣m) (k:Nat):Li (q^k) m:=MW k (h.co hm)
theorem BV {q:Int} (hq:Pm q) {b:List (Int × Int)} (hb:∀ p∈b,Pm p.1) (ne:∀ p∈b,p.1≠q):¬q.toNat∣eN b:=λz=>by
 have t:=hq.two;have:q∣cw b:=by
  rw [<- fv b hb];have:=Hz.mpr z
  rwa [show (q.toNat:Int)=q by lia] at this
 obtain⟨p,hp,e⟩:=i9 hq hb this;exact ne p hp e
theorem xP {b:List (Int × Int)} (hb:∀ p∈b,Pm p.1):∀ a:List (Int × Int),(∀ p∈a,Pm p.1)->(∀ x∈a,∀ y∈b,y.1≠x.1)->Li (eN a) (eN b)
 | [],_,_=>Nat.coprime_one_left _
 | p::r,h,ne=>by have hp:=h p (Hi ..);exact SW (C4 (B8 hp) (BV hp hb (ne p (Hi ..))) _) (xP hb r (λx z=>h x (Ha _ z)) λx z=>ne x (Ha _ z))
theorem A7 {n a:Int} {q t:Nat} (hq:Nm q) (h:Al n (a^q^t) 1) (no:∀ j,j<t->¬Al n (a^q^j) 1):Ord n a (q^t):=by
 have q2:=hq.1;obtain⟨m,o,_⟩:=pO (N:=q^t) (K4 (by lia)) h;have d:=o.dv _ h;cases t with
 | zero =>have:m=1:=Nat.eq_one_of_dvd_one (by simpa using d);rw [this] at o;simpa using o
 | succ k =>
  have:m=q^(k+1):=uV hq k m d λz=>no k (LJ _) (by
   obtain⟨c,hc⟩:=z;rw [hc];exact aN o.one)
  rw [<- this];exact o
theorem bp {a:Int} {x y:Nat}:(a^x)^y=a^(x*y):=by rw [SX]
theorem ua {n a:Int} {M1 M2 E1 E2:Nat} (co:Li M1 M2) (p1:0<M1) (p2:0<M2) (h:Al n (a^(M1*M2)) 1) (o1:Ord n (a^M2) E1) (o2:Ord n (a^M1) E2):Ord n a (E1*E2):=by
 have d1:E1∣M1:=o1.dv M1 (by rw [bp,Ij];exact h);have d2:E2∣M2:=o2.dv M2 (by rw [bp];exact h);obtain⟨c1,hc1⟩:=d1;obtain⟨c2,hc2⟩:=d2;obtain⟨e,o,_⟩:=pO (K2 p1 p2) h;have x1:e∣M2*E1:=o.dv _ (by rw [<- bp];exact o1.one);have x2:e∣M1*E2:=o.dv _ (by rw [<- bp];exact o2.one);have cc:Li c2 c1:=by have:Li c1 c2:=M8 ⟨E1,by rw [hc1,Ij]⟩ (MX ⟨E2,by rw [hc2,Ij]⟩ co);exact this.symm
 have x3:e∣E1*E2:=by have:=O1 x1 x2;rw [show M2*E1=E1*E2*c2 by rw [hc2];rw [Ij (E2*c2) E1,Jn],show M1*E2=E1*E2*c1 by rw [hc1];rw [Jn,Ij c1 E2,Jn],Nat.gcd_mul_left,cc.gcd_eq_one,KI] at this;exact this
 have ce:Li E1 E2:=M8 ⟨c1,hc1⟩ (MX ⟨c2,hc2⟩ co);refine⟨K2 o1.pos o2.pos,?_,λj hj=>?_⟩
 ·obtain⟨c,hc⟩:=x3;rw [hc];exact aN o.one
 ·refine ce.mul_dvd_of_dvd_of_dvd (o1.dv j ?_) (o2.dv j ?_)
  ·rw [bp,Ij,<- bp];have:=hj.pow M2
   rwa [NR] at this
  ·rw [bp,Ij,<- bp];have:=hj.pow M1
   rwa [NR] at this
structure TO (n a:Int) (ps:List (Int × Int)) (ts:List Int):Prop where
 len:ts.length=ps.length
 nn:∀ t∈ts,0<=t
 ord:Ord n a (eN ((ps.map (·.1)).zip ts))
theorem TO.al {n a b:Int} {ps:List (Int × Int)} {ts:List Int} (h:TO n a ps ts) (e:Al n a b):TO n b ps ts:=⟨h.len,h.nn,lW e h.ord⟩
theorem TO.none {n a:Int} (h:Al n a 1):TO n a [] []:=⟨rfl,λ_ z=>by simp at z,⟨QU,by show Al n (a^1) 1;rw [NS];exact h,λj _=>O2 j⟩⟩
theorem TO.one {n a q k:Int} {t:Nat} (hq:Pm q) (h:Al n (a^q.toNat^t) 1) (no:∀ j,j<t->¬Al n (a^q.toNat^j) 1):TO n a [(q,k)] [(t:Int)]:=by
 refine⟨rfl,λx z=>?_,?_⟩
 ·rw [Ho.mp z];lia
 ·show Ord n a (q.toNat^(t:Int).toNat*1);rw [KI,IH];exact A7 (B8 hq) h no
theorem TO.two {n a:Int} {as bs:List (Int × Int)} {ts us:List Int} (ha:∀ p∈as,Pm p.1) (hb:∀ p∈bs,Pm p.1) (ne:∀ x∈as,∀ y∈bs,y.1≠x.1) (h:Al n (a^eN (as++bs)) 1) (h1:TO n (a^eN bs) as ts) (h2:TO n (a^eN as) bs us):TO n a (as++bs) (ts++us):=by refine⟨by rw [HN,HN,h1.len,h2.len],λt z=>(IC.mp z).elim (h1.nn t) (h2.nn t),?_⟩;rw [HQ,Q5 (by rw [G4,h1.len]),cK];rw [cK] at h;exact ua (xP hb as ha ne) (lE as ha) (lE bs hb) h h1.ord h2.ord
end Num
namespace L2
open PySem PySem.Spec PyProof.Rows
section
variable {prog:Hq} {w:HU} {A:HX} {E:G2->G5->Prop} {s:G5}
end
noncomputable def FF (K:G1) (a:G6):It :=
 ⟨λi H=>∃ xs x,bE K H a xs/\xs[i]?=GZ x,λi H x H'=>∃ p v,H p=none/\x=.ref p/\(∀ xs,bE K H a xs->xs[i]?=GZ v)/\H'=upd H p (.tup [.int i,v]),λi H=>∃ xs,bE K H a xs/\xs.length<=i⟩
end L2
namespace L2
open PySem PySem.Spec PyProof.Rows PySem.W
end L2
namespace L2
open PySem PySem.Spec PyProof.Rows
end L2
namespace L2
open PySem PySem.Spec PyProof.Rows PySem.W
section
variable {prog:Hq} {w:HU} {A:HX} {E:G2->G5->Prop} {K:G1} {h:Ip} {g:Array OR} {d:Sy} {t:Nat} {os:Sl} {x C B:G6}
end
section
variable {X:Cx} {pins:List (G6 × Kl)} {σ:St} {H:Hp} {s:G5} {x:G6}
end
section
variable {X:Cx} {B:G6} {n:Option Nat} {hd:N4} {ts:TS}
variable {B2:G6} {n2:Option Nat} {hd2:N4} {ts2:TS}
variable {k:Nat} {f:HA} {ps:List HA} {sp:Sp} {e:Ik} {es:List Ik} {t:TA} {p Qv epos pos:K8}
end
namespace HT
section
variable {prog:Hq} {w:HU} {A:HX} {E:G2->G5->Prop} {s:G5}
end
end HT
end L2
namespace L2
open PySem PySem.Spec PyProof.Rows PySem.W
namespace Tsl
open _root_.HT
section
variable {prog:Hq} {w:HU} {A:HX} {E:G2->G5->Prop} {s:G5}
theorem qW {α β:Type} {f g:α->Option β}:∀{l:List α},(∀ x∈l,f x=g x)->l.filterMap f=l.filterMap g
 | [],_=>rfl
 | x::l,h=>by rw [Kc,Kc,h x (Hi ..),qW λy hy=>h y (Ha _ hy)]
theorem vC (xs:Array G2):((IY xs.size).filterMap fun(m:Nat)=>xs[((xs.size:Int)-1+(m:Int) * -1).toNat]?).toArray=xs.toList.reverse.toArray:=by
 rw [<- krv_pick];unfold slicePick;rw [krv_bounds];show _=((sliceRange ((xs.size:Int)-1) (-1) (-1)).filterMap (xs[·]?)).toArray;rw [krv_sliceRange,List.filterMap_map];congr 1;exact qW λm hm=>by have:=IF.mp hm;show xs[((xs.size:Int)-1+(m:Int) * -1).toNat]?=xs[xs.size-1-m]?;congr 1;lia
theorem qD (n:Nat):Kk none none (-1) (n:Int)=((n:Int)-1,-1):=by unfold Kk;simp
theorem qE (n:Nat):LK ((n:Int)-1) (-1) (-1)=n:=by unfold LK;simp;lia
theorem jq {sl:G6} {vk:G2} {n:Nat} {Q:Int × Int × Nat->G5->Prop} (hs:s.heap.IsSliceOf sl .none .none vk) (pk:Rj vk (GZ (-1)))
  (h:Q ((n:Int)-1,-1,n) s):wpAny (model prog w) A (ND (.ref sl) (pure (n:Int))) Q E s:=by
 obtain⟨os,hos,hcs,hds⟩:=id hs;unfold ND RN;refine G3 (G3 (Jp hos hds (x:=.none) rfl (G3 (Jp hos hds (x:=.none) rfl (G3 (Jp hos hds (x:=vk) rfl (G8 ?_)))))));refine G3 (um pk ?_);dsimp only;rw [if_neg (by decide)];refine G3 (OV (G3 (OV (G3 (G8 ?_)))));show wpAny _ _ (pure ((Kk none none (-1) (n:Int)).1,(-1:Int),LK (Kk none none (-1) (n:Int)).1 (Kk none none (-1) (n:Int)).2 (-1))) _ _ s;rw [qD];dsimp only;rw [qE];exact G8 h
theorem uu {t sl:G6} {items:Array G2} {vk:G2} {Q:G2->G5->Prop} (ht:IsTup s.heap t items) (hs:s.heap.IsSliceOf sl .none .none vk) (pk:Rj vk (GZ (-1))) (hz:items.size<=sizeLine)
  (q:Q (.ref s.heap.objs.size) { s with heap:=s.heap.push { cls:=.type "tuple",data:=.seq items.toList.reverse.toArray } }):wpAny (model prog w) A (getItem (.ref t) (.ref sl)) Q E s:=by
 obtain⟨os,hos,hcs,hds⟩:=id hs;have hTs:s.TypeIs (.ref sl) "slice":=⟨os,hos,hcs⟩
 have hsz:sizeOk (.seq items.toList.reverse.toArray):=by show items.toList.reverse.toArray.size<=sizeLine;rw [Ic,Kd,HV];exact hz
 unfold getItem
 try with_reducible refine JZ ?_
 first | refine G3 (G8 ?_) | skip
 refine G3 (wpAny_sequenceKey ht.typeIs (by decide) ?_);refine G3 (JE (name:=Np "__getitem__") ht.typeIs LZ (Ko LZ ht.typeIs entry_tuple_getitem ?_ (args_tuple_getitem _ _)));show wpAny _ _ (Rn _ >>= _) _ _ _;refine G3 (tupleItemsOf_ ht ?_);refine G3 (wpAny_typeOf hTs ?_);rw [if_pos (by decide)];refine G3 (jq hs pk ?_);dsimp only;rw [if_neg (by simp),vC]
 first
  | exact G3 (m:=Lc _) (Ju (G8 ⟨_,rfl,G8 q⟩) hsz)
  | exact G3 (G3 (m:=Lc _) (Ju (G8 (G8 ⟨_,rfl,G8 q⟩)) hsz))
  | exact G3 (m:=Lc _) (Ju (G3 (G8 (G8 ⟨_,rfl,G8 q⟩))) hsz)
  | exact G3 (G3 (m:=Lc _) (Ju (G8 ⟨_,rfl,G8 q⟩) hsz))
end
end Tsl
def Cw (K:G1) (te:TE) (tk:TO):TE:=λσ H Q=>te σ H λx H1=>tk σ H1 λo H2=>o=GZ (-1)/\∃ a xs,x=.ref a/\bE K H2 a xs/\∀ p,H2 p=none->Q (.ref p) (upd H2 p (.tup xs.reverse))
section
variable {X:Cx} {e k:Ik} {te:TE} {tk:TO} {p2 pos:K8}
theorem Be (he:PE X e te) (hk:PO X (GZ k) tk)
  (hs:∀ a b:G6,∃ ops,subscripted (.Slice none none (GZ k) p2) false (.ref a) (.ref b)=operate ops (getItem (.ref a) (.ref b)):=by intro a b;exact⟨_,by with_unfolding_all rfl⟩):PE X (.Subscript e (.Slice none none (GZ k) p2) pos) (Cw X.K te tk):=by
 intro pins s σ H Q I h;refine Om (a9 (he pins s σ H _ I h) λv s1 hZ=>?_);obtain⟨x,H1,I1,r1,q1⟩:=hZ;refine QQ ?_;rw [N0];refine G8 (G8 ?_);refine a9 (hk pins s1 σ H1 _ I1 q1) λvk s3 hZ=>?_;obtain⟨o,H3,I3,pk,eo,a,xs,ex,hx,q3⟩:=hZ;subst eo;subst ex;cases r1;have I4:Inv X pins σ H3 { s3 with heap:=s3.heap.push { cls:=.type "slice",data:=.fields #[.none,.none,vk] } }:=I3.kept (t':=s3.toks) λb ob q=>G7 _ q;obtain⟨its,r,ht,hz⟩:=I4.tuple hx;have hlen:=r.length;show wpAny (model X.prog X.w) X.A (subscriptTail e (.Slice none none (GZ k) p2) (.ref a) (.ref s3.heap.objs.size)) (EP X pins σ Q) X.xe { s3 with heap:=s3.heap.push { cls:=.type "slice",data:=.fields #[.none,.none,vk] } };obtain⟨ops,hops⟩:=hs a s3.heap.objs.size;refine SG (ops:=ops) ht.typeIs LZ.lookup ?_ hops;refine Tsl.uu ht (Nz ..) pk (by rw [Ic]<;>lia) ?_;refine⟨.ref _,_,I4.laid (t':=s3.toks) (o:=.tup xs.reverse) (λb ob q=>G7 _ q) (Hd _) ?_,rfl,q3 _ (I4.hok.fresh (Hd _))⟩;exact⟨by rw [Kd];exact hz,_,r.rev,IsTup.new _ _⟩
end
end L2
namespace L2
open PySem PySem.Spec PyProof.Rows
section
variable {prog:Hq} {w:HU} {K:Type} [DecidableEq K] {knd:HeapKind prog w K} {A:HX} {E:G2->G5->Prop} {s:G5}
noncomputable def pK (xs:List (K × G6 × G2)) (k:K):List (K × G6 × G2):=xs.filter λx=>decide (x.1≠k)
theorem uP:∀{xs:List (K × G6 × G2)} {k:K} {p:G6 × G2} {j:Nat},(xs.map (·.1)).Nodup->xs[j]?=GZ (k,p)->xs.eraseIdx j=pK xs k
 | [],_,_,_,_,h=>by simp at h
 | x::r,k,p,0,hn,h=>by
  have e:x=(k,p):=by simpa using h
  subst e;rw [HH,Kg] at hn;show r=pK ((k,p)::r) k;unfold pK;rw [Iz (by simp)];refine (Nc.mpr λy hy=>?_).symm;exact decide_eq_true λz=>hn.1 (HE.mpr ⟨y,hy,z⟩)
 | x::r,k,p,j+1,hn,h=>by
  have h':r[j]?=GZ (k,p):=by simpa using h
  rw [HH,Kg] at hn;have ne:x.1≠k:=λz=>hn.1 (HE.mpr ⟨(k,p),Hc h',z.symm⟩);show x::r.eraseIdx j=pK (x::r) k;unfold pK;rw [IL (by simpa using ne),uP hn.2 h'];rfl
theorem wO {d a:G6} {xs:List (K × G6 × G2)} {k:K} {p:G6 × G2} {Q:Option MI->G5->Prop} (hu:knd.room A) (hkey:knd.is s.heap k a) (hm:s.heap.DictOfH knd d xs) (hp:atKey xs k=GZ p) (hsz:xs.length<=sizeLine)
  (h:∀ e h',e.val=p.2->h'.DictOfH knd d (pK xs k)->JK d s.heap h'->Q (GZ e) { s with heap:=h',toks:=s.toks+knd.draws k }) :
  wpAny (model prog w) A (O8 d (.ref a)) Q E s:=by
 obtain⟨o,es,ep,ho,hc,hd,he,his,hn⟩:=hm;unfold O8
 try with_reducible refine JZ ?_
 refine G3 (knd.pyHash hu hkey (G3 (wpAny_dictFind_heap (s:={ s with toks:=s.toks+knd.draws k }) hu hkey ho hd he his hn (λno=>?_) λj q hj=>?_)))
 ·rw [atKey_none_of_get no] at hp;cases hp
 have eq:q=p:=by rw [atKey_of_get hn hj] at hp;exact Ja hp
 subst eq;refine G3 (K5 (s:={ s with toks:=s.toks+knd.draws k }) ho hd ?_);rw [entry_at he j,hj];have sz:=Q6 he;refine G3 (wpAny_updateDictKeys (hz:=by lia) (s:={ s with toks:=s.toks+knd.draws k }) ho hd (G8 (h _ _ rfl ⟨_,_,ep+1,IP _ ho (Obj.isFreed_of_dict (O9 hd _)),hc.mapDictKeys _,O9 hd _,?_,?_,?_⟩ (KD ..))))
 ·rw [<- uP hn hj,show (xs.eraseIdx j).map (entryOfKey knd)=(xs.map (entryOfKey knd)).eraseIdx j from by simp [List.eraseIdx_eq_take_drop_succ],<- he];obtain⟨l⟩:=es;simp
 ·intro x hx;exact knd.keeps (his x (IB.mp hx).1) ho hd (KD ..)
 ·exact List.Nodup.sublist (List.Sublist.map _ Py) hn
theorem zg {d a:G6} {xs:List (K × G6 × G2)} {k:K} {p:G6 × G2} {Q:G2->G5->Prop} (hu:knd.room A.in1) (hkey:knd.is s.heap k a) (hm:s.heap.DictOfH knd d xs) (hp:atKey xs k=GZ p) (hsz:xs.length<=sizeLine)
  (h:∀ h',h'.DictOfH knd d (pK xs k)->JK d s.heap h'->Q p.2 { s with heap:=h',toks:=s.toks+knd.draws k }) :
  wpAny (model prog w) A (call (.builtin "dict.pop") [.ref d,.ref a]) Q E s:=by
 have hT:s.TypeIs (.ref d) "dict":=by obtain⟨o,es,ep,ho,hc,_⟩:=hm;exact⟨o,ho,hc.1⟩
 refine Ko OJ hT PySem.F.entry_dict_pop ?_ (PySem.F.args_dict_pop_2 _ _);obtain⟨o,es,ep,ho,hc,hd,he,his,hn⟩:=id hm;unfold Kj.«dict.pop»;refine G3 ?_;unfold Ro;refine G3 (OK hT ?_);show wpAny _ _ (pure (d,HR a,none)) _ _ s;refine G8 ?_;dsimp only;have kn:(keyPart (HR a)).isSome=false:=rfl;have ne:es.isEmpty=false:=by
  have sz:=Q6 he;have:xs≠[]:=λz=>by rw [z] at hp;cases hp
  have:0<xs.length:=Nd.mpr this;rw [Array.isEmpty_eq_false_iff];intro z;rw [z] at sz;simp at sz;lia
 simp only [kn,Jm,if_false];refine G3 (K5 ho hd ?_);refine G3 (G8 ?_);rw [ne];simp only [Jm,if_false];refine G3 (wO hu hkey hm hp hsz λe h' ev dd hs=>?_);simp only [Option.isNone_some,Jm,if_false];exact G3 (O7 (G8 ⟨e.val,rfl,by rw [ev];exact h h' dd hs⟩))
end
end L2
namespace L2
open PySem PySem.Spec PyProof.Rows PySem.W
def jG (h:Ip) (d:G6) (es:Array MI) (ep:Nat):Prop:=∃ o,h.get? d=GZ o/\o.ExactDict/\o.data=.dict es ep
theorem jG.gK {h h':Ip} {d:G6} {es:Array MI} {ep:Nat} (x:jG h d es ep) (k:∀ o,h.get? d=GZ o->h'.get? d=GZ o):jG h' d es ep:=by obtain⟨o,a,b⟩:=x;exact⟨o,k _ a,b⟩
section
variable {P:Hq} {w:HU} {A:HX} {E:G2->G5->Prop} {s:G5} {d:G6} {es:Array MI} {ep:Nat}
theorem jG.type (x:jG s.heap d es ep):s.TypeIs (.ref d) "dict":=by obtain⟨o,a,c,_⟩:=x;exact⟨o,a,c.1⟩
theorem yg {Q:G2->G5->Prop} (nd:(d==sysModules)=false) (x:jG s.heap d es ep)
  (q:Q (.ref s.heap.objs.size) { s with heap:=s.heap.push { cls:=.type "dict_keyiterator",data:=.fields #[.ref d,.int 0 0,.int es.size 0,.int ep 0] } }):wpAny (model P w) A (pyIter (.ref d)) Q E s:=by
 have t:=x.type;obtain⟨o,a,c,e⟩:=x;refine wpAny_pyIter_slot t QI (Ko QI t F.entry_dict_iter ?g (F.args_dict_iter_1 _));unfold Kj.«dict.__iter__» RP;refine G3 (G3 (OK t (G8 (α:=G2) (a:=.ref d) ?_)));unfold Su;show wpAny _ _ ((if (d==sysModules)=true then _ else _) >>= _) _ _ s;rw [if_neg (by rw [nd];simp)];refine G3 (G8 (G3 (K5 a e (G3 (OD a e ?_)))));exact G3 (Ju (G8 ⟨_,rfl,"dict_keyiterator",_,⟨_,Hs _ rfl,rfl⟩,JS.lookup,q⟩))
theorem yt {it:G6} {i:Nat} {x:MI} {Q:Option G2->G5->Prop} (ki:s.heap.IsKeyIter it d i es.size ep) (m:jG s.heap d es ep) (hx:es[i]?=GZ x)
  (q:∀ h',h'.IsKeyIter it d (i+1) es.size ep->JK it s.heap h'->Q (GZ x.key) { s with heap:=h' }):wpAny (model P w) A (pyNext (.ref it)) Q E s:=by
 have t:=ki.typeIs;obtain⟨o,ho,hc,hd⟩:=id ki;obtain⟨od,a,c,e⟩:=m;unfold pyNext;refine G3 (MQ (JE (name:=Np "__next__") t JS (Ko JS t MY ?g (MM _))));refine G3 (G8 (G3 (G3 ?_)));refine G3 (Kv t (G8 (G3 (Rp ho hd ?_))));simp only [show Builtin.Dict_items.ownsTuple "dict_keyiterator"=false by decide,Jm,if_false];show wpAny _ _ (if (HR d==J3)=true then _ else _) _ _ s;rw [if_neg (by exact HM)];refine G3 (G8 (G3 (K5 a e ?_)));rw [if_neg (by simp)];refine G3 (G8 (G3 (OD a e ?_)));rw [if_neg (by simp)];refine G8 ?_;simp only [show ¬((i:Int)<0) from by lia,if_false,IH,hx];refine G3 (G3 (Kv t (G8 (G3 (OL t ?_)))));show wpAny _ _ (setField (.ref it) 1 (rawInt ((i:Int)+1)) >>= _) _ _ s;refine G3 (Lf ho hd (by simp) ?_);have ki':(s.heap.update it (JJ (·.setIfInBounds 1 (rawInt ((i:Int)+1))))).IsKeyIter it d (i+1) es.size ep :=
  ⟨_,IP _ ho (MB (Ln hd _)),(Obj.cls_mapFields ..).trans hc,by rw [Ln hd];simp [rawInt]⟩
 refine G3 (JZ (G3 (OL (s:={ s with heap:=s.heap.update it (JJ (·.setIfInBounds 1 (rawInt ((i:Int)+1)))) }) ki'.typeIs ?_)));show wpAny _ _ (pure x.key) _ _ _;exact G8 (G8 ⟨_,rfl,G8 (q _ ki' (KD ..))⟩)
theorem AB {it:G6} {i:Nat} {Q:Option G2->G5->Prop} (hh:A.handled=none) (ki:s.heap.IsKeyIter it d i es.size ep) (m:jG s.heap d es ep) (hx:es[i]?=none)
  (q:∀ h',O4 it s.heap h'->Q none { s with heap:=h' }):wpAny (model P w) A (pyNext (.ref it)) Q E s:=by
 have t:=ki.typeIs;obtain⟨o,ho,hc,hd⟩:=id ki;obtain⟨od,a,c,e⟩:=m;unfold pyNext;refine G3 (MQ (JE (name:=Np "__next__") t JS (Ko JS t MY ?g (MM _))));refine G3 (G8 (G3 (G3 ?_)));refine G3 (Kv t (G8 (G3 (Rp ho hd ?_))));simp only [show Builtin.Dict_items.ownsTuple "dict_keyiterator"=false by decide,Jm,if_false];show wpAny _ _ (if (HR d==J3)=true then _ else _) _ _ s;rw [if_neg (by exact HM)];refine G3 (G8 (G3 (K5 a e ?_)));rw [if_neg (by simp)];refine G3 (G8 (G3 (OD a e ?_)));rw [if_neg (by simp)];refine G8 ?_;simp only [show ¬((i:Int)<0) from by lia,if_false,IH,hx];refine G3 (G3 (Kv t (G8 ?_)));show wpAny _ _ (setField (.ref it) 0 .none >>= _) _ _ s;refine G3 (Lf ho hd (by simp) ?_);show wpAny _ _ (Ss (.type "StopIteration") [] >>= _) _ _ _;refine G3 ?_;simp only [Ss,newTuple];refine G3 (Ju (G3 (m:=firstArgMember _ _) (wpAny_of_eq (a:=J3) (by first | rfl | (simp only [firstArgMember];rfl)) (Ju ?_ (by size_fits)))) (by size_fits));simp only [raiseNew];refine G3 (wpAny_handled ?_);rw [show A.in1.handled=none from hh];refine G3 (G8 (wpAny_throw ?th));refine G3 (QF (b:=true) (T := "StopIteration") ⟨_,Hs _ rfl,rfl⟩ isSubtype_stop ?_);exact G8 (q _ (((KD ..).extBut.push _).push _))
theorem vM (hh:A.handled=none) (I:G6) (hne:d≠I):Walks P w A I [I,d] [I] es.size (λi v=>∃ x,es[i]?=GZ x/\v=x.key) (λi h=>h.IsKeyIter I d i es.size ep/\jG h d es ep) where
 sub:=λb hb=>by simp at hb;simp [hb]
 frame:=λ_ _ _ st k=>⟨st.1.at λo e=>k I (by simp) o e,st.2.gK λo e=>k d (by simp) o e⟩
 item:=λi s Q E hi st q=>by refine yt st.1 st.2 (Jf hi) λh' ki hs=>?_;exact q _ h' s.toks ⟨_,Jf hi,rfl⟩ ⟨ki,st.2.gK λo e=>hs.extBut d o hne e⟩ λb o hb e=>hs.extBut b o (λz=>hb (by simp [z])) e
 done:=λs Q E st q=>AB hh st.1 st.2 (by simp) λh' k=>q h' s.toks λb o hb e=>k b o (λz=>hb (by simp [z])) e
 self:=λ_ _ _ _ st q=>wpAny_pyIter_keyiter st.1 q
theorem tw {h:Ip} (x:jG h d es ep):d<h.objs.size:=by obtain⟨o,a,_⟩:=x;exact Hn a
theorem AD (nd:(d==sysModules)=false):KdlSrc P w "dict" d d es.size (λi v=>∃ x,es[i]?=GZ x/\v=x.key) (λh=>jG h d es ep) where
 type:=λ_ x=>x.type
 there:=λ_ x=>⟨tw x,tw x⟩
 keep:=λ_ _ x k=>x.gK λo e=>k d (.inl rfl) o e
 notList:=by decide
 notTuple:=by decide
 hint:=λ_ _ _ _ x q=>kdl_hint_dict x.type q
 iter:=λ_ _ hh x=>⟨_,_,(λ_ _ q=>yg nd x q),vM hh _ (HP (tw x)),⟨⟨_,Hs _ rfl,rfl,rfl⟩,x.gK λo e=>G7 _ e⟩⟩
end
section
variable {X:Cx} {pins:List (G6 × Kl)} {σ:St} {H:Hp} {s:G5} {A:HX} {E:G2->G5->Prop}
theorem xK {a:G6} {kvs:List (List Key × V)} (I:Inv X pins σ H s) (e:H a=GZ (.dT kvs)):kvs.length<=sizeLine/\(a==sysModules)=false/\∃ es ep,jG s.heap a es ep/\es.size=kvs.length/\∀(i:Nat) x,es[i]?=GZ x->∃ k v b,kvs[i]?=GZ (k,v)/\x.key=.ref b/\H b=GZ (.tup (k.map kV)):=by
 obtain⟨z,y,xs,r,o,es,ep,h1,h2,h3,h4,h5⟩:=(show br X.prog X.w H s.heap a (.dT kvs) from I.hok a _ e)
 have l1:kvs.length=xs.length:=LQ r;have l2:es.size=xs.length:=by rw [<- HV,h4,G4]
 refine⟨z,y,es,ep,⟨o,h1,h2,h3⟩,by lia,λi x hx=>?_⟩;have hx':(xs.map (entryOfKey (tupleKind (bH X.prog X.w))))[i]?=GZ x:=by rw [<- h4,ID];exact hx
 rw [He] at hx';obtain⟨y0,e1,e2⟩:=Hj.mp hx';have hg:∀{l:List (List Key × V)} {m:List (List Key × G6 × G2)} (i:Nat),PM (fun(p:List Key × V) (q:List Key × G6 × G2)=>p.1=q.1/\H q.2.1=GZ (.tup (p.1.map kV))/\RelV p.2 q.2.2) l m->∀ y,m[i]?=GZ y->∃ p,l[i]?=GZ p/\H y.2.1=GZ (.tup (p.1.map kV)):=by
  intro l m i q
  induction q generalizing i with
  | nil=>intro y z;simp at z
  | cons a t ih =>
   intro y z;cases i with
   | zero=>simp at z;subst z;exact⟨_,rfl,a.2.1⟩
   | succ i=>exact ih i y (by simpa using z)
 obtain⟨p,e3,e4⟩:=hg i r y0 e1;exact⟨p.1,p.2,y0.2.1,e3,by rw [<- e2];rfl,e4⟩
def DT:List V->Hp->VK->Prop:=λxs H Q=>∃(a:G6) (kvs:List (List Key × V)),xs=[.ref a]/\H a=GZ (.dT kvs)/\∀(p:G6) (bs:List G6),bs.length=kvs.length->(∀(i:Nat) b,bs[i]?=GZ b->∃ k v,kvs[i]?=GZ (k,v)/\H b=GZ (.tup (k.map kV)))->H p=none->Q (.ref p) (upd H p (.lst (bs.map V.ref)))
theorem u7 {Pr:Nat->G6->Prop}:∀(vs:List G2),(∀(i:Nat) v,vs[i]?=GZ v->∃ b,v=.ref b/\Pr i b)->∃ bs:List G6,bs.length=vs.length/\Vals (bs.map V.ref) vs/\∀(i:Nat) b,bs[i]?=GZ b->Pr i b
 | [],_=>⟨[],rfl,.nil,λi b z=>by simp at z⟩
 | v::vs,h=>by
  obtain⟨b,e,pb⟩:=h 0 v rfl;obtain⟨bs,l,r,q⟩:=u7 (Pr:=λi=>Pr (i+1)) vs λi u z=>h (i+1) u (by simpa using z);subst e;refine⟨b::bs,by simp [l],.cons rfl r,λi c z=>?_⟩;cases i with
  | zero=>simp at z;subst z;exact pb
  | succ i=>exact q i c (by simpa using z)
theorem sU (hc:X.calm=true):eA X (.type "list") DT:=by
 intro pins s σ H xs us Q I r h;obtain⟨a,kvs,rfl,ha,q⟩:=h;obtain⟨u,rfl,ru⟩:=vals1 r;cases ru;obtain⟨z,nd,es,ep,de,sz,ent⟩:=xK I ha;refine kdl_call (AD (P:=X.prog) (w:=X.w) (es:=es) (ep:=ep) nd) (I.ok.hd hc) de (by lia) λh' tk acc c k hD hacc=>?_;obtain⟨bs,l,rv,qb⟩:=u7 (Pr:=λi b=>∃ k v,kvs[i]?=GZ (k,v)/\H b=GZ (.tup (k.map kV))) acc.toList λi v e=>by obtain⟨x,e1,e2⟩:=hacc.2 i v (by rw [<- ID];exact e);obtain⟨kk,vv,b,e3,e4,e5⟩:=ent i x e1;exact⟨b,by rw [e2,e4],kk,vv,e3,e5⟩
 have al:acc.toList.length=kvs.length:=by rw [HV,hacc.1,sz]
 have fT:H s.heap.objs.size=none:=I.hok.fresh (Hd _);refine⟨.ref s.heap.objs.size,upd H s.heap.objs.size (.lst (bs.map V.ref)),?_,rfl,q _ bs (by lia) qb fT⟩;exact I.laid k (Hd _) ⟨by rw [G4];lia,acc.toList,c,rv,by rw [hD]⟩
def zq:List V->Hp->VK->Prop:=λxs H Q=>∃(a:G6) (n:Nat),xs=[.ref a]/\((∃ kvs,H a=GZ (.dT kvs)/\n=kvs.length)∨∃ kvs,H a=GZ (.dK kvs)/\n=kvs.length)/\Q (.int n) H
theorem AS {d:G6} {es:Array MI} {ep:Nat} {P:Hq} {w:HU} {Q:G2->G5->Prop} (nd:(d==sysModules)=false) (x:jG s.heap d es ep) (fit:es.size<=sizeLine)
  (q:Q (.int es.size (s.toks+1)) { s with toks:=s.toks+1+1 }):wpAny (model P w) A (call (.builtin "len") [.ref d]) Q E s:=by
 have f63:(es.size:Int)<2^63:=by rw [L9] at fit;lia
 refine LL kind_len plain_len entry_len (args_len1 _) ?_;have t:=x.type;obtain⟨o,a,c,e⟩:=x;unfold Kj.«len»;refine G3 (m:=oneArg "len" _) (G8 (G3 (m:=callSpecial? (.ref d) (Np "__len__")) (JE (name:=Np "__len__") t Q7 (Ko Q7 t F.entry_dict_len ?g (F.args_dict_len_1 _)))));show wpAny _ _ (dictSize d >>= _) _ _ s;unfold dictSize;refine G3 (G3 (K5 a e (G8 ?_)));show wpAny _ _ (RQ d >>= _) _ _ s;refine G3 (wpAny_pendingCount_other nd (wpAny_ret_mkInt ?_));simp only [show ((es.size:Int)+((0:Nat):Int))=(es.size:Int) from Ni _];refine G3 (JZ (G8 (G3 (O7 ?_))));show wpAny _ _ (if ((es.size:Nat):Int)<0 then _ else _) _ _ _;rw [if_neg (by lia)];show wpAny _ _ (if ((es.size:Nat):Int)≥2^63 then _ else _) _ _ _;rw [if_neg (by lia)];exact G3 (wpAny_mkInt (G8 ⟨_,rfl,q⟩))
theorem c6:eA X (.builtin "len") zq:=by
 intro pins s σ H xs us Q I r h;obtain⟨a,n,rfl,ha,q⟩:=h;obtain⟨u,rfl,ru⟩:=vals1 r;cases ru;rcases ha with⟨kvs,ha,rfl⟩|⟨kvs,ha,rfl⟩
 ·obtain⟨z,nd,es,ep,de,sz,_⟩:=xK I ha;exact AS nd de (by lia) ⟨.int kvs.length,H,I.tok _,⟨_,by rw [sz]⟩,q⟩
 ·exact Ey I (.inl ha) λt s' I'=>⟨.int kvs.length,H,I',⟨t,rfl⟩,q⟩
def zQ (td ty:TE):TE:=λσ H Q=>td σ H λx H1=>∃ a,x=.ref a/\Gf H1 a/\ty σ H1 λy H2=>∃ kvs k b v,H2 a=GZ (.dT kvs)/\y=.ref b/\H2 b=GZ (.tup (k.map kV))/\bZ kvs k=GZ v/\Q v (upd H2 a (.dT (bP kvs k)))
theorem KT.off {kvs:List (List Key × V)} {xs:List (List Key × G6 × G2)} (r:KT H kvs xs) (k:List Key):KT H (bP kvs k) (pK xs k):=by
 induction r with
 | nil=>exact .nil
 | @cons p q ps qs hq t ih =>
  unfold bP pK;by_cases c:p.1=k
  ·rw [Iz (by simpa using c),Iz (by simpa using hq.1▸c)];exact ih
  ·rw [IL (by simpa using c),IL (by simpa using hq.1▸c)];exact .cons hq ih
theorem rM {o e:Ik} {apos Qv:K8} {td ty:TE} (hu:X.A.units+1<cLine) (ho:PE X o td) (he:PE X e ty) (m:M1 X o "pop" apos e Qv):PE X (.Call (.Attribute o "pop" apos) [e] [] Qv) (zQ td ty):=by
 intro pins s σ H Q I h;refine wpAny_Call_method m.base m.vP m.line PySem.F.plainAttrs_dict OJ PySem.F.type_dict_pop (a9 (ho pins s σ H _ I h) λu s1 hZ=>?_);obtain⟨x,H1,I1,rx,a,ex,d,q1⟩:=hZ;subst ex;obtain rfl:u=HR a:=rx;obtain⟨t1,t2,_⟩:=Dk I1 d;refine⟨t1,t2,?_⟩;rw [m.trees];refine Oq rfl (OW (PU (a9 (he pins s1 σ H1 _ I1 q1) λiv s2 ⟨y,H2,I2,ry,kvs,k,b,v,ea,ey,eb,l,q2⟩=>Qh ?_)));subst ey;obtain rfl:iv=HR b:=ry;obtain⟨z,nd,xs,rel,dd⟩:=BU I2.hok ea;obtain⟨w',hw,rw'⟩:=eh.some_of (v:=v) (by rw [<- l];exact rel.val k);obtain⟨p,hp,ep⟩:=Hj.mp hw;have lx:kvs.length=xs.length:=LQ rel;refine zg (Lr hu) (jQ I2.hok eb) dd hp (by lia) λh' dd' hs=>?_;rw [ep];obtain⟨o1,es,ep1,g1,g2,g3,g4,g5,g6⟩:=dd';have ht:∀ c ys,H2 c=GZ (.tup ys)->upd H2 a (.dT (bP kvs k)) c=GZ (.tup ys):=λc ys e=>by rw [ao (kg e ea (by intro z;cases z))];exact e
 exact⟨v,upd H2 a (.dT (bP kvs k)),kK (ob:=.dT (bP kvs k)) I2 (by rw [ea];exact True.intro) hs ⟨_,g1⟩ ⟨Hg (qP kvs k) z,nd,_,(KT.off rel k).keeps ht,o1,es,ep1,g1,g2,g3,g4,g6⟩,rw',q2⟩
def EY (K:G1):List V->Hp->VK->Prop:=λxs H Q=>∃(a:G6) (ns:List Int),xs=[.ref a]/\aM K H a (ns.map V.int)/\ns≠[]/\∀ m,m∈ns->(∀ n∈ns,n<=m)->Q (.int m) H
theorem nG:∀{ns:List Int} {us:List G2},Vals (ns.map V.int) us->Ly us ns
 | [],_,.nil=>.nil
 | n::ns,_,.cons ⟨t,e⟩ r=>by subst e;exact .cons _ t (nG r)
theorem nq (hc:X.calm=true):eA X (.builtin "max") (EY X.K):=by
 intro pins s σ H xs us Q I r h;obtain⟨a,ns,rfl,hq,ne,q⟩:=h;obtain⟨u,rfl,ru⟩:=vals1 r;cases ru;obtain⟨its,rv,p,hz⟩:=I.list hq;have hi:=nG rv;have hl:=p.isList;obtain⟨ys,e⟩:=hi.allInts.items;have hns:ns=ys.toList.map (·.1):=by rw [<- hi.numsOf,<- nums_intItems,<- e]
 have hl0:0<ns.length:=Nd.mpr ne;have hsz:0<ys.size:=by rw [hns,G4,HV] at hl0;exact hl0
 rw [e] at hl;refine max_intList (I.ok.hd hc) hl hsz λv h' tk hv hk=>?_;obtain⟨t,rfl⟩:=intItems_at hv;obtain⟨b1,b2⟩:=argBest_gt (numAt ys) (ys.size-1);refine⟨.int _,H,I.kept hk,⟨t,rfl⟩,q _ ?_ λn hn=>?_⟩
 ·rw [hns,numAt_eq];exact getD_mem (by rw [G4,HV];lia)
 ·rw [hns] at hn;obtain⟨j,hj,rfl⟩:=mem_getD hn;rw [G4,HV] at hj;rw [<- numAt_eq];exact b2 j (by lia)
end
section
variable {P:Hq} {w:HU} {K:G1} {mg:HA->Option G2} {base:Ip} {CX:kB} {k:Nat} {C:G6} {m qual x:HA} {ps:List HA} {sp:Sp} {st:Le}
def CS (K:G1) (C:G6) (m qual:HA) (st:Le):Prop:=∃ f fd,Meth K C m f/\w6 K m qual st f fd
structure bO (P:Hq) (w:HU) (K:G1) (mg:HA->Option G2) (base:Ip) (CX:kB) (k:Nat) (C:G6) (m:HA) (ps:List HA) (sp:Sp):Prop where
 ex:∃ f fd,Meth K C m f/\cE P w K mg base CX k f fd ps sp/\Binds K fd ps []
theorem Du {f:G6} {oc:G2} {od an:Option G6} {osl:Array (Option G2)} {kV doc pm cdv ct:G2} (a:findIn K (.ref C) m=GZ (GZ (.ref f))) (fn:isFn K (.ref f)=true) (kk:keepIn K (.ref f)=true)
  (l:K.lookup f=GZ ⟨oc,od,.func (fnOf m qual (bo st) (aO st) (ak st) .none kV doc pm an cdv ct),osl⟩) (c:codeIn K cdv qual=true):CS K C m qual st:=⟨f,_,⟨a,fn,kk⟩,tD l c kk⟩
theorem fA {N:List HA} (D:CS K C m qual st)
  (hb:∀(kV doc pm:G2) (an:Option G6) (cdv ct:G2) (us:List G2),us.length=ps.length->bindArgs (fnOf m qual (bo st) (aO st) (ak st) .none kV doc pm an cdv ct) ⟨us,[]⟩=pure (ps.zip us))
  (S:av N ps (ak st)) (len:∀ vs H Q E,sp vs H Q E->vs.length=ps.length)
  (Qt:∀(f:G6) (cdv:G2) (A:HX) (outer:List MA) (s:G5) (H:Hp) (vs:List V) (Q:VK) (E:XK),bL k (A.deeper (envOfC qual (ak st) s.heap.objs.size f cdv))->sp vs H Q E ->
   ∃ t,gN (eR aQ P w K mg base N qual (ak st) f cdv A outer s H E).kh (aO st) t/\t { nx:=λ_ H'=>Q .non H',rt:=Q } (start N vs) H):bO P w K mg base aQ (k+1) C m ps sp:=by
 obtain⟨f,fd,M,F⟩:=D;exact⟨f,fd,M,F.ok S len λcdv A outer s H vs Q E hr h=>Qt f cdv A outer s H vs Q E hr h,F.binds hb⟩
theorem bO.imp {sp':Sp} (D:bO P w K mg base CX k C m ps sp) (h:∀ vs H Q E,sp' vs H Q E->sp vs H Q E):bO P w K mg base CX k C m ps sp':=by obtain⟨f,fd,M,F,b⟩:=D.ex;exact⟨f,fd,M,F.imp h,b⟩
structure D9 (K:G1) (mg:HA->Option G2) (x:HA) (C:G6):Prop where
 cls:mY K C
 at_:mg x=GZ (.ref C)
 mkn:makesIn K C=true
 kp:keepIn K (.ref C)=true
theorem Dz (a:mg x=GZ (.ref C)) (p1:plainGet K C Sh=true) (p2:hasDictIn K C=true) (p3:plainOver K C=true) (p4:findIn K (.ref C) "__setattr__"=GZ (GZ (.builtin "object.__setattr__"))) (p5:makesIn K C=true) (p6:keepIn K (.ref C)=true):D9 K mg x C:=⟨⟨p1,p2,p3,p4⟩,a,p5,p6⟩
theorem lN {f:G6} {oc:G2} {od an:Option G6} {osl:Array (Option G2)} {kV doc pm cdv ct:G2} (_:D9 K mg x C) (a:findIn K (.ref C) m=GZ (GZ (.ref f))) (fn:isFn K (.ref f)=true) (kk:keepIn K (.ref f)=true)
  (l:K.lookup f=GZ ⟨oc,od,.func (fnOf m qual (bo st) (aO st) (ak st) .none kV doc pm an cdv ct),osl⟩) (c:codeIn K cdv qual=true):CS K C m qual st:=Du a fn kk l c
theorem pJ {f:HA} (_:D9 K mg x C) (a:findIn K (.ref C) f=GZ none):cF K C f:=a
variable {X:Cx} {E:XK} {o e:Ik} {es:List Ik} {ta:TE} {t:TA} {p apos pos:K8}
theorem lY {pl:Pj Bool} (D:bO X.prog X.w X.K X.mg X.base CX k C m ps sp) (c:mY X.K C) (hr:bL k X.A) (hx:Passes CX X E) (he:PE X o ta) (ha:PA X (e::es) t)
  (hst:autoParam (starEach (e::es) X.env=(false,eval e X.env)::starEach es X.env) Z0._auto_1) (hpl:autoParam ((backTo pos (starEach es X.env)).any (·.1)=false) Z0._auto_1)
  (ht:autoParam (eval (.Call (.Attribute o m apos) (e::es) [] pos) X.env=(do
   let ov <- eval o X.env
   standAt apos.atName
   let (f,first) <- holding [ov] (getMethod ov m pl)
   callWith pos f first (backTo pos (starEach (e::es) X.env)) (backToKw pos (keywordEach [] X.env)))) Z0._auto_1) :
  PE X (.Call (.Attribute o m apos) (e::es) [] pos) (sH C m sp [] E ta t):=by
 obtain⟨f,fd,M,F,b⟩:=D.ex;exact Bc he c M F hr b .nil hx ha hst hpl ht
theorem wz {pl:Pj Bool} (D:bO X.prog X.w X.K X.mg X.base CX k C m ps sp) (c:mY X.K C) (hr:bL k X.A) (hx:Passes CX X E) (he:PE X o ta)
  (ht:autoParam (eval (.Call (.Attribute o m apos) [] [] pos) X.env=(do
   let ov <- eval o X.env
   standAt apos.atName
   let (f,first) <- holding [ov] (getMethod ov m pl)
   callWith pos f first (backTo pos (starEach [] X.env)) (backToKw pos (keywordEach [] X.env)))) Z0._auto_1) :
  PE X (.Call (.Attribute o m apos) [] [] pos) (sH C m sp [] E ta BE):=by
 obtain⟨f,fd,M,F,b⟩:=D.ex;exact yY he c M F hr b .nil hx ht
theorem yX (c:D9 X.K X.mg x C) (D:bO X.prog X.w X.K X.mg X.base CX k C "__init__" ps sp) (hr:bL (k+1) X.A) (hg:Gl X x) (hx:Passes CX X E) (ha:PA X (e::es) t) (hdb:autoParam ((x==("__debug__":HA))=false) Z1._auto_1)
  (he:autoParam (starEach (e::es) X.env=(false,eval e X.env)::starEach es X.env) Z0._auto_1) (hpl:autoParam ((backTo pos (starEach es X.env)).any (·.1)=false) Z0._auto_1):PE X (.Call (.Name x p) (e::es) [] pos) (zR C sp [] E t):=by
 obtain⟨f,fd,M,F,b⟩:=D.ex;exact Bb ⟨c.mkn,M.at_,M.fn,c.kp⟩ F hr hg c.at_ b .nil hx ha hdb he hpl
structure CI (K:G1) (x qual:HA) (st:Le) (f:G6) (fd:JF) (ds:Array G2):Prop where
 ex:∃(oc:G2) (od:Option G6) (T:G6) (o:Kl) (n:Nat) (kV doc pm:G2) (an:Option G6) (cdv ct:G2) (osl:Array (Option G2)),
  fd=fnOf x qual (bo st) (aO st) (ak st) (.ref T) kV doc pm an cdv ct/\K.lookup f=GZ ⟨oc,od,.func fd,osl⟩/\codeIn K cdv qual=true/\K.lookup T=GZ o/\o.data=.seq ds n
 kp:keepIn K (.ref f)=true
def oK (K:G1) (mg:HA->Option G2) (x:HA) (st:Le) (ds:Array G2):Prop:=∃ f fd,CI K x x st f fd ds/\mg x=GZ (.ref f)
theorem vK {h:Ip} {f T:G6} {ds:Array G2} {o:Kl} {n:Nat} {oc:G2} {od an:Option G6} {osl:Array (Option G2)} {kV doc pm cdv ct:G2} (X:K.In h) (G:h.Ns mainGlobals mg)
  (a:nsIn K mainGlobals x=GZ (GZ (.ref f))) (l:K.lookup f=GZ ⟨oc,od,.func (fnOf x x (bo st) (aO st) (ak st) (.ref T) kV doc pm an cdv ct),osl⟩)
  (c:codeIn K cdv x=true) (kk:keepIn K (.ref f)=true) (lT:K.lookup T=GZ o) (e:o.data=.seq ds n):oK K mg x st ds:=⟨f,_,⟨⟨oc,od,T,o,n,kV,doc,pm,an,cdv,ct,osl,rfl,l,c,lT,e⟩,kk⟩,mg_of X G a⟩
structure kH (P:Hq) (w:HU) (K:G1) (mg:HA->Option G2) (base:Ip) (CX:kB) (k:Nat) (x:HA) (ps:List HA) (ds:List G2) (sp:Sp):Prop where
 ex:∃ f fd,cE P w K mg base CX k f fd ps sp/\mg x=GZ (.ref f)/\keepIn K (.ref f)=true/\Binds K fd ps []/\Binds K fd ps ds
theorem CI.binds {f:G6} {fd:JF} {ds:Array G2} {dv:List G2} (F:CI K x qual st f fd ds)
  (h:∀(T:G6) (kV doc pm:G2) (an:Option G6) (cdv ct:G2) (us:List G2),(us++dv).length=ps.length->∃ j,bindArgs (fnOf x qual (bo st) (aO st) (ak st) (.ref T) kV doc pm an cdv ct) ⟨us,[]⟩=seqItems? (.ref T) >>= j/\j (GZ ds)=pure (ps.zip (us++dv))):Binds K fd ps dv:=by
 obtain⟨oc,od,T,o,n,kV,doc,pm,an,cdv,ct,osl,rfl,lk,hcd,lT,e⟩:=F.ex;intro s us X hl;obtain⟨j,h1,h2⟩:=h T kV doc pm an cdv ct us hl;exact BindsTo.of_defaults rfl (X _ _ lT) e h1 h2
theorem yV {ds:List G2} {aP:List V} (D:kH X.prog X.w X.K X.mg X.base CX k x ps ds sp) (hd:Vals aP ds) (hr:bL k X.A) (hg:Gl X x) (hx:Passes CX X E)
  (ha:PA X (e::es) t) (hdb:autoParam ((x==("__debug__":HA))=false) Z1._auto_1) (he:autoParam (starEach (e::es) X.env=(false,eval e X.env)::starEach es X.env) Z0._auto_1) (hpl:autoParam ((backTo pos (starEach es X.env)).any (·.1)=false) Z0._auto_1) :
  PE X (.Call (.Name x p) (e::es) [] pos) (sG sp aP E t):=by
 obtain⟨f,fd,F,hm,hk,_,hb⟩:=D.ex;exact uS F hr hg hm hk hb hd hx ha hdb he hpl
theorem qH {N:List HA} {ds:Array G2} (D:oK K mg x st ds)
  (hb:∀(T:G6) (kV doc pm:G2) (an:Option G6) (cdv ct:G2) (us:List G2),(us++[]).length=ps.length->∃ j,bindArgs (fnOf x x (bo st) (aO st) (ak st) (.ref T) kV doc pm an cdv ct) ⟨us,[]⟩=seqItems? (.ref T) >>= j/\j (GZ ds)=pure (ps.zip (us++[])))
  (hb2:∀(T:G6) (kV doc pm:G2) (an:Option G6) (cdv ct:G2) (us:List G2),(us++ds.toList).length=ps.length->∃ j,bindArgs (fnOf x x (bo st) (aO st) (ak st) (.ref T) kV doc pm an cdv ct) ⟨us,[]⟩=seqItems? (.ref T) >>= j/\j (GZ ds)=pure (ps.zip (us++ds.toList)))
  (S:av N ps (ak st)) (len:∀ vs H Q E,sp vs H Q E->vs.length=ps.length)
  (Qt:∀(f:G6) (cdv:G2) (A:HX) (outer:List MA) (s:G5) (H:Hp) (vs:List V) (Q:VK) (E:XK),bL k (A.deeper (envOfC x (ak st) s.heap.objs.size f cdv))->sp vs H Q E ->
   ∃ t,gN (eR (d7 P w) P w K mg base N x (ak st) f cdv A outer s H E) (aO st) t/\t { nx:=λ_ H'=>Q .non H',rt:=Q } (start N vs) H):kH P w K mg base (d7 P w) (k+1) x ps ds.toList sp:=by
 obtain⟨f,fd,F,hm⟩:=D;have b1:=F.binds hb;have b2:=F.binds hb2;obtain⟨oc,od,T,o,n,kV,doc,pm,an,cdv,ct,osl,rfl,lk,hcd,lT,e⟩:=F.ex;exact⟨f,_,xV lk hcd S len λA outer s H vs Q E hr h=>Qt f cdv A outer s H vs Q E hr h,hm,F.kp,b1,b2⟩
end
end L2
namespace L2
open PySem PySem.Spec PyProof.Rows
noncomputable def Ec (q:Nat):Nat->Nat->Nat
 | 0,m=>m
 | f+1,m=>if q<=m*m then m else Ec q f (m+1)
noncomputable def rt (q:Nat):Nat:=Ec q q 0
theorem zw {q:Nat}:∀(f m:Nat),(∀ j,j<m->j*j<q)->q<=(m+f)*(m+f)->q<=Ec q f m*Ec q f m/\∀ j,j<Ec q f m->j*j<q
 | 0,m,h,e=>⟨e,h⟩
 | f+1,m,h,e=>by
  unfold Ec;by_cases c:q<=m*m
  ·rw [if_pos c];exact⟨c,h⟩
  ·rw [if_neg c];exact zw f (m+1) (λj hj=>by rcases (by lia:j<m∨j=m) with z | z;exact h j z;rw [z];lia) (by rw [show m+1+f=m+(f+1) by lia];exact e)
theorem va (q:Nat):q<=rt q*rt q/\∀ j,j<rt q->j*j<q:=zw q 0 (λj z=>absurd z (Na _)) (by
 rw [Lq];rcases Io q with z | z
 ·rw [z];exact IV _
 ·exact Kb q z)
theorem E3 {q m:Nat} (h1:q<=m*m) (h2:∀ j,j<m->j*j<q):rt q=m:=by
 obtain⟨a,b⟩:=va q;rcases Nat.lt_trichotomy (rt q) m with z | z | z
 ·have:=h2 _ z;lia
 ·exact z
 ·have:=b _ z;lia
theorem zz {q:Nat} (h:0<q):0<rt q:=by
 rcases Io (rt q) with z | z
 ·have:=(va q).1;rw [z] at this;lia
 ·exact z
theorem Cd {q:Nat} (h:0<q):rt q<=q:=by
 rcases KG q (rt q) with z | z
 ·have:=(va q).2 _ z;have:=Kb q h;lia
 ·exact z
theorem Bq {q:Nat} (h:q<=10^6):rt q<=1000:=by
 rcases KG 1000 (rt q) with z | z
 ·have:=(va q).2 _ z;lia
 ·exact z
noncomputable def dG (p w:Int) (m:Nat):List (Key × V):=(IY m).map λi:Nat=>(Jk (w^i%p),V.int (i:Int))
theorem fH {p w:Int} {m:Nat}:(dG p w m).length=m:=by unfold dG;rw [G4,Jb]
theorem jw {p w:Int} {m:Nat}:dG p w (m+1)=dG p w m++[(Jk (w^m%p),V.int m)]:=by unfold dG;rw [KZ,HQ];rfl
theorem jv {p w n:Int}:∀{m:Nat},(∀ j,j<m->w^j%p≠n)->bZ (dG p w m) (Jk n)=none
 | 0,_=>rfl
 | m+1,h=>by
  have ih:=jv (p:=p) (w:=w) (n:=n) (m:=m) λj hj=>h j (by lia);by_cases z:bZ (dG p w m) (Jk (w^m%p))=none
  ·rw [jw,gZ _ _ _ _ z,if_neg (λe=>h m (by lia) (NK e).symm)];exact ih
  ·unfold bZ at ih z ⊢;rw [jw,List.find?_append];cases e:List.find? (λkv=>decide (kv.1=Jk n)) (dG p w m) with
   | some y=>rw [e] at ih;cases ih
   | none =>have:¬(Jk (w^m%p):Key)=Jk n:=λe=>h m (by lia) (NK e);simp [this]
theorem zU {p w:Int}:∀{m:Nat},(∀ i j,i<m->j<m->w^i%p=w^j%p->i=j)->∀ j,j<m->bZ (dG p w m) (Jk (w^j%p))=GZ (.int j)
 | 0,_,j,hj=>absurd hj (Na _)
 | m+1,h,j,hj=>by
  have z:bZ (dG p w m) (Jk (w^m%p))=none:=jv λi hi e=>by have:=h i m (by lia) (by lia) e;lia
  rw [jw,gZ _ _ _ _ z];by_cases c:j=m
  ·rw [c,if_pos rfl]
  ·rw [if_neg (λe=>c (h j m hj (by lia) (NK e)))];exact zU (λi j hi hj=>h i j (by lia) (by lia)) j (by lia)
end L2
namespace Num
theorem Ord.co {n a:Int} {m:Nat} (o:Ord n a m):Co a n:=by
 obtain⟨k,hk⟩:∃ k,m=k+1:=⟨m-1,by have:=o.pos;lia⟩
 exact Co.DA (m:=k) (by rw [<- hk];exact o.one)
theorem Ord.ml {n a:Int} {m i j:Nat} (o:Ord n a m) (hi:i<m) (hj:j<m) (e:a^i%n=a^j%n):i=j:=o.inj o.co hi hj (Al.iff.mpr e)
theorem gS {n b:Int} {e q:Nat} (o:Ord n b e) (hd:q∣e):Ord n (b^(e/q)) q:=by
 obtain⟨f,hf⟩:=hd;have e0:=o.pos;have q0:0<q:=by rcases Io q with z | z;rw [z,Nq] at hf;lia;exact z
 have f0:0<f:=by rcases Io f with z | z;rw [z,Mq] at hf;lia;exact z
 have ef:e/q=f:=by rw [hf];exact Mc f q0
 rw [ef];refine⟨q0,?_,λj hj=>?_⟩
 ·rw [bp,Ij,<- hf];exact o.one
 ·rw [bp] at hj;have:=o.dv _ hj;rw [hf,Ij q f] at this;exact Nl f0 this
theorem Bg {n w:Int} {q y:Nat} (o:Ord n w q):Al n (w^y) (w^(y%q)):=by have h:y=q*(y/q)+y%q:=(Lw y q).symm;have h1:=(aN (k:=y/q) o.one).mul (Al.refl n (w^(y%q)));rw [Jl,<- MZ,<- h] at h1;exact h1
theorem xE {n b a r w:Int} {e q x t:Nat} (o:Ord n b e) (hd:q^(t+1)∣e) (ha:Al n a (b^x)) (hr:Al n (r*b^(x%q^t)) 1) (hw:Al n w (b^(e/q))):Al n ((a*r)^(e/q^(t+1))) (w^(x/q^t%q)):=by
 obtain⟨f,hf⟩:=hd;have e0:=o.pos;have q0:0<q^(t+1):=by rcases Io (q^(t+1)) with z | z;rw [z,Nq] at hf;lia;exact z
 have qt:0<q^t:=by rcases Io (q^t) with z | z;rw [Jq,z,Nq] at q0;lia;exact z
 have q1:0<q:=by rcases Io q with z | z;rw [Jq,z,Mq] at q0;lia;exact z
 have ef:e/q^(t+1)=f:=by rw [hf];exact Mc f q0
 have eq:e/q=q^t*f:=by rw [hf,Jq,Jn,Ij q f,<- Jn];exact PY _ q1
 have dq:q∣e:=⟨q^t*f,by rw [hf,Jq,Ij (q^t) q,Jn]⟩
 have ow:Ord n w q:=lW hw.symm (gS o dq);have h1:Al n (a*r) (b^(q^t*(x/q^t))):=by
  have z:=ha.mul (Al.refl n r);have hx:x=q^t*(x/q^t)+x%q^t:=(Lw x (q^t)).symm;have z2:=(Al.refl n (b^(q^t*(x/q^t)))).mul hr;rw [Jo] at z2;refine z.trans (Al.trans ?_ z2);have:b^x*r=b^(q^t*(x/q^t))*(r*b^(x%q^t)):=by
   have hb:b^x=b^(q^t*(x/q^t))*b^(x%q^t):=by rw [<- MZ,<- hx]
   rw [hb,Ib,Ia (b^(x%q^t)) r]
  rw [this];exact Al.refl _ _
 rw [ef];have h2:=h1.pow f;rw [bp] at h2;have h3:=hw.pow (x/q^t);rw [bp,eq] at h3;have h4:b^(q^t*(x/q^t)*f)=b^(q^t*f*(x/q^t)):=by congr 1;rw [Jn,Jn,Ij f]
 rw [h4] at h2;exact (h2.trans h3.symm).trans (Bg ow)
noncomputable def c7 (x q n:Nat):List Nat:=(IY n).map λi=>x/q^i%q
theorem iQ {x q n:Nat}:(c7 x q n).length=n:=by unfold c7;rw [G4,Jb]
theorem ny {x q n:Nat}:c7 x q (n+1)=c7 x q n++[x/q^n%q]:=by unfold c7;rw [KZ,HQ];rfl
theorem uH {x q n i:Nat} (h:i<n):(c7 x q n)[i]?=GZ (x/q^i%q):=by unfold c7;rw [He,Pu h];rfl
theorem rC {x q n i:Nat} (q0:0<q) (hi:i<n):(x%q^n)/q^(n-i)*q+x/q^(n-1-i)%q=(x%q^n)/q^(n-(i+1)):=by
 obtain⟨k,hk⟩:∃ k,n-i=k+1:=⟨n-i-1,by lia⟩
 have e1:n-1-i=k:=by lia
 have e2:n-(i+1)=k:=by lia
 rw [hk,e1,e2];have e3:x/q^k%q=(x%q^n)/q^k%q:=by
  have hn:q^n=q^k*(q*q^(n-k-1)):=by rw [<- Jn,<- Jq,<- Nat.pow_add];congr 1;lia
  rw [hn,Nat.mod_mul_right_div_self,Nat.mod_mul_right_mod]
 rw [e3,Jq,<- Ow];exact QJ _ _
theorem jc {p a b:Int} {e:Nat} (hp:Pm p) (o:Ord p b e) (h:Al p (a^e) 1):∃ x,x<e/\Al p a (b^x):=by
 rcases Ox (∃ x,x<e/\Al p a (b^x)) with z | z
 ·exact z
 ·exfalso;have no:∀ x,x<e->¬Al p a (b^x):=λx hx hh=>z ⟨x,hx,hh⟩;obtain⟨m,hm⟩:∃ m,e=m+1:=⟨e-1,by have:=o.pos;lia⟩
  have hlen:(KP m (0:Int)++[-1]).length=e:=by simp [hm]
  have key:=roots hp e (KP m 0++[-1]) 1 hlen (λhd=>hp.uO (by
   obtain⟨c,hc⟩:=hd;exact⟨-c,by rw [SM,<- hc];lia⟩)) (a::(IY e).map λi=>b^i) ?_ ?_
  ·simp at key;lia
  ·refine Jz.mpr ⟨λy hy=>?_,?_⟩
   ·obtain⟨i,hi,rfl⟩:=HE.mp hy;exact no i (IF.mp hi)
   ·rw [J7];refine Ks ?_ Lp;intro i j hi hj lt hh;have:=o.inj o.co (IF.mp hi) (IF.mp hj) hh;lia
  ·intro r hr;rw [xc,Jl,<- hm];rcases Hw.mp hr with rfl | hr
   ·exact h
   ·obtain⟨i,_,rfl⟩:=HE.mp hr;have:=aN (k:=i) o.one;rw [bp,Ij];exact this
theorem wF {p a b:Int} {e x y:Nat} (o:Ord p b e) (hx:x<e) (hy:y<e) (h1:Al p a (b^x)) (h2:Al p a (b^y)):x=y:=o.inj o.co hx hy (h1.symm.trans h2)
end Num
namespace L2
open PySem PySem.Spec PyProof.Rows
def dP (a d:G6) (H H':Hp):Prop:=∀ b o,b≠a->b≠d->H b=GZ o->H' b=GZ o
theorem dP.refl {a d:G6} {H:Hp}:dP a d H H:=λ_ _ _ _ e=>e
theorem dP.trans {a d:G6} {H H1 H2:Hp} (h:dP a d H H1) (h':dP a d H1 H2):dP a d H H2:=λb o x y e=>h' b o x y (h b o x y e)
theorem dP.of {a d:G6} {H H':Hp} (h:aw H H'):dP a d H H':=λb o _ _ e=>h b o e
theorem dP.Fs {a d:G6} {H:Hp} {o:HO}:dP a d H (upd H d o):=λb u _ x e=>by rw [ao x];exact e
structure KH where
 a:G6
 dx:G6
 d:G6
 most:Int
 c:Int
 ks:List (Int × Int × Int)
noncomputable def k3 (x:Int × Int × Int):List Key:=[.inl x.1,.inl x.2.1,.inl x.2.2]
theorem jO {x y:Int × Int × Int} (h:k3 x=k3 y):x=y:=by obtain⟨a,b,c⟩:=x;obtain⟨a',b',c'⟩:=y;simp only [k3,KA,Sum.inl.injEq,and_true] at h;obtain⟨rfl,rfl,rfl⟩:=h;rfl
noncomputable def Dl (k:KH):List (HA × V):=[("most",.int k.most),("counted",.int k.c),("laid",.ref k.d)]
def KTab (H:Hp) (x:Int × Int × Int) (v:V):Prop:=∃ t,v=.ref t/\H t=GZ (.dK (dG x.1 x.2.2 (rt x.2.1.toNat)))
structure sL (H:Hp) (k:KH) (kvs:List (List Key × V)):Prop where
 dict:H k.d=GZ (.dT kvs)
 keys:kvs.map (·.1)=k.ks.map k3
 nd:k.ks.Nodup
 tab:∀ x v,bZ kvs (k3 x)=GZ v->KTab H x v
structure cf (C:G6) (k:KH) (H:Hp):Prop where
 ins:H k.a=GZ (.ins C k.dx (Dl k))
 ex:∃ kvs,sL H k kvs
 m0:0<=k.most
 m1:k.most<=10^6
section
variable {C:G6} {k:KH} {H H':Hp} {kvs:List (List Key × V)}
theorem KTab.same {x:Int × Int × Int} {v:V} (h:KTab H x v) (s:aw H H'):KTab H' x v:=by obtain⟨t,e,z⟩:=h;exact⟨t,e,s _ _ z⟩
theorem sL.same (h:sL H k kvs) (s:aw H H'):sL H' k kvs:=⟨s _ _ h.dict,h.keys,h.nd,λx v e=>(h.tab x v e).same s⟩
theorem cf.same (h:cf C k H) (s:aw H H'):cf C k H':=⟨s _ _ h.ins,let ⟨kvs,z⟩:=h.ex;⟨kvs,z.same s⟩,h.m0,h.m1⟩
theorem sL.len (h:sL H k kvs):kvs.length=k.ks.length:=by have:=congrArg QP h.keys;simpa using this
theorem cf.ne (h:cf C k H):k.a≠k.d:=by obtain⟨kvs,z⟩:=h.ex;exact kg h.ins z.dict (by intro z;cases z)
theorem cf.apart (h:cf C k H) {b:G6} {o:HO} (e:H b=GZ o) (h1:∀ C dx fs,o≠.ins C dx fs) (h2:∀ kvs,o≠.dT kvs):b≠k.a/\b≠k.d:=by obtain⟨kvs,z⟩:=h.ex;exact⟨kg e h.ins (h1 _ _ _),kg e z.dict (h2 _)⟩
theorem cf.keep (h:cf C k H) (bt:dP k.a k.d H H') {b:G6} {o:HO} (e:H b=GZ o) (h1:∀ C dx fs,o≠.ins C dx fs:=by intro _ _ _ z;cases z) (h2:∀ kvs,o≠.dT kvs:=by intro _ z;cases z):H' b=GZ o :=
 let ⟨x,y⟩:=h.apart e h1 h2;bt b o x y e
theorem cf.cW (h:cf C k H) (bt:dP k.a k.d H H'):∀ a xs,Rd H a (.tup xs)->Rd H' a (.tup xs):=by
 intro a xs z;rcases z with z | ⟨o,z⟩
 ·exact .inl (h.keep bt z)
 ·exact .inr ⟨o,h.keep bt z⟩
theorem cf.dv {K:G1} (h:cf C k H) (bt:dP k.a k.d H H') {d:Hy} {v:V} (nl:wY d=true) (x:dv K H d v):dv K H' d v:=dv.cW (h.cW bt) d nl x
theorem lg:∀{kvs:List (List Key × V)} {q:List Key},(bZ kvs q).isSome=true↔q∈kvs.map (·.1)
 | [],q=>by simp [bZ]
 | p::r,q=>by
  by_cases c:p.1=q
  ·rw [b7 c];simp [c]
  ·rw [bT c,lg (kvs:=r)];simp only [HH,Hw];exact⟨.inr,λz=>z.resolve_left λe=>c e.symm⟩
theorem sL.mem (h:sL H k kvs) {x:Int × Int × Int}:(bZ kvs (k3 x)).isSome=true↔x∈k.ks:=by rw [lg,h.keys,HE];exact⟨fun⟨y,hy,e⟩=>jO e▸hy,λz=>⟨x,z,rfl⟩⟩
theorem jy {q j:List Key}:∀{kvs:List (List Key × V)},bZ (bP kvs q) j=if j=q then none else bZ kvs j
 | []=>by unfold bP;simp [bZ]
 | p::r=>by
  have ih:=jy (q:=q) (j:=j) (kvs:=r);unfold bP at ih ⊢;by_cases c:p.1=q
  ·rw [Iz (by simpa using c),ih];by_cases d:j=q
   ·rw [if_pos d,if_pos d]
   ·rw [if_neg d,if_neg d,bT (λe=>d (e.symm.trans c))]
  ·rw [IL (by simpa using c)];by_cases d:p.1=j
   ·rw [b7 d,b7 d,if_neg (λe=>c (d.trans e))]
   ·rw [bT d,bT d,ih]
theorem nA {x:Int × Int × Int}:∀{kvs:List (List Key × V)} {ks:List (Int × Int × Int)},kvs.map (·.1)=ks.map k3->(bP kvs (k3 x)).map (·.1)=(ks.filter λy=>decide (y≠x)).map k3
 | [],[],_=>rfl
 | [],_::_,h=>by simp at h
 | _::_,[],h=>by simp at h
 | p::r,y::ys,h=>by
  rw [HH,HH,KA] at h;have ih:=nA (x:=x) (kvs:=r) (ks:=ys) h.2;unfold bP at ih ⊢;by_cases c:y=x
  ·rw [Iz (by rw [h.1,c];simp),Iz (by simpa using c)];exact ih
  ·rw [IL (by rw [h.1];simpa using λe=>c (jO e)),IL (by simpa using c),HH,HH,h.1,ih]
noncomputable def cz (ks:List (Int × Int × Int)) (x:Int × Int × Int):List (Int × Int × Int):=(ks.filter λy=>decide (y≠x))++[x]
noncomputable def qL (most:Int) (ks:List (Int × Int × Int)):List (Int × Int × Int):=if most<ks.length then ks.tail else ks
noncomputable def jW (k:KH) (x:Int × Int × Int):KH:={ k with ks:=qL k.most (cz k.ks x),c:=if x∈k.ks then k.c else k.c+rt x.2.1.toNat }
noncomputable def iL (k:KH) (n:Int):KH:={ k with c:=k.c+n }
theorem D6 {ks:List (Int × Int × Int)} {x:Int × Int × Int} (h:ks.Nodup):(cz ks x).Nodup:=by unfold cz;rw [NT];refine⟨h.sublist Py,by simp,λa ha b hb e=>?_⟩;rw [Ho.mp hb] at e;have:=(IB.mp ha).2;simp [e] at this
theorem BK {ks:List (Int × Int × Int)} {x:Int × Int × Int}:(cz ks x).length<=ks.length+1:=by unfold cz;rw [HN];exact Nat.add_le_add_right (JP _ _) 1
theorem sL.use {x:Int × Int × Int} {t:G6} (h:sL H k kvs) (kt:∀ y v,KTab H y v->KTab H' y v) (ht:KTab H' x (.ref t)) (hD:H' k.d=GZ (.dT (bP kvs (k3 x)++[(k3 x,.ref t)]))) :
  sL H' { k with ks:=cz k.ks x } (bP kvs (k3 x)++[(k3 x,.ref t)]) where
 dict:=hD
 keys:=by rw [HQ,nA h.keys];show _=(cz k.ks x).map k3;unfold cz;rw [HQ];rfl
 nd:=D6 h.nd
 tab:=λy v e=>by
  rw [gZ _ _ _ _ (by rw [jy,if_pos rfl])] at e;by_cases c:k3 y=k3 x
  ·rw [if_pos c] at e;cases e;cases jO c;exact ht
  ·rw [if_neg c,jy,if_neg c] at e;exact kt _ _ (h.tab y v e)
def ux (k:KH):Prop:=(k.ks.length:Int)<=k.most
theorem ux.use {x:Int × Int × Int} (h:ux k) (m0:0<=k.most):ux (jW k x):=by
 have h':(k.ks.length:Int)<=k.most:=h;show ((qL k.most (cz k.ks x)).length:Int)<=k.most;have:=BK (ks:=k.ks) (x:=x);unfold qL;split
 ·rw [List.length_tail];lia
 ·lia
theorem ux.add {n:Int} (h:ux k):ux (iL k n):=h
theorem drop_tail {q:List Key} {v:V} {r:List (List Key × V)} (nd:(((q,v)::r).map (·.1)).Nodup):bP ((q,v)::r) q=r:=by unfold bP;rw [Iz (by simp)];refine Nc.mpr λy hy=>?_;rw [HH,Kg] at nd;exact decide_eq_true λz=>nd.1 (HE.mpr ⟨y,hy,z⟩)
theorem sL.cut {q:List Key} {v:V} {r:List (List Key × V)} (h:sL H k ((q,v)::r)) (hd:∀ b u,b≠k.d->H b=GZ u->H' b=GZ u) (hD:H' k.d=GZ (.dT r)):sL H' { k with ks:=k.ks.tail } r:=by
 obtain⟨y,ys,e⟩:∃ y ys,k.ks=y::ys:=by
  cases e:k.ks with
  | nil=>have:=h.len;rw [e] at this;simp at this
  | cons y ys=>exact⟨y,ys,rfl⟩
 have hk:=h.keys;have hn:=h.nd;rw [e,HH,HH,KA] at hk;rw [e,Kg] at hn;refine⟨hD,by rw [hk.2];show _=k.ks.tail.map k3;rw [e];rfl,by show k.ks.tail.Nodup;rw [e];exact hn.2,λx u z=>?_⟩;have ne:q≠k3 x:=λe2=>by have:k3 x∈r.map (·.1):=lg.mp (by rw [z];rfl);rw [hk.2,HE] at this;obtain⟨x',h1,h2⟩:=this;have:y=x:=jO (hk.1.symm.trans e2);rw [jO h2,<- this] at h1;exact hn.1 h1
 obtain⟨t,e3,e4⟩:=h.tab x u (by rw [bT ne];exact z);exact⟨t,e3,hd _ _ (λe=>by rw [e,h.dict] at e4;cases e4) e4⟩
theorem vL {q:List Key} {kvs:List (List Key × V)} (h:bZ kvs q=none):bP kvs q=kvs:=by unfold bP;refine Nc.mpr λy hy=>decide_eq_true λz=>?_;have:(bZ kvs q).isSome=true:=lg.mpr (HE.mpr ⟨y,hy,z⟩);rw [h] at this;cases this
theorem sL.nodup (h:sL H k kvs):(kvs.map (·.1)).Nodup:=by rw [h.keys];exact Tv k3 (λa b n e=>n (jO e)) h.nd
theorem cf.FT {n:Int} {fs:List (HA × V)} (h:cf C k H) (e:fs=Dl (iL k n)):cf C (iL k n) (upd H k.a (.ins C k.dx fs)):=by
 subst e;obtain⟨kvs,z⟩:=h.ex;refine⟨ag,⟨kvs,?_,z.keys,z.nd,λx v e=>?_⟩,h.m0,h.m1⟩
 ·show upd H k.a _ k.d=_;rw [ao (IJ h.ne)];exact z.dict
 ·obtain⟨t,e1,e2⟩:=z.tab x v e;exact⟨t,e1,by rw [ao (h.apart e2 (by intro _ _ _ z;cases z) (by intro _ z;cases z)).1];exact e2⟩
end
end L2
namespace Num
noncomputable def Pz (N a z:Int):Int:=a^(z%N).toNat
section
variable {p a N:Int}
theorem fF (n0:0<N) (h:Al p (a^N.toNat) 1) {z:Int} (z0:0<=z):Al p (Pz N a z) (a^z.toNat):=by
 unfold Pz;have e:=Jd z N;have m0:=Hl z (show N≠0 by lia);have d0:0<=z/N:=JB z0 (by lia);have e2:z.toNat=N.toNat*(z/N).toNat+(z%N).toNat:=by
  have h1:((N.toNat*(z/N).toNat:Nat):Int)=N*(z/N):=by rw [Im,Hb (by lia),Hb d0]
  lia
 rw [e2,MZ];have:=(aN (k:=(z/N).toNat) h).mul (Al.refl p (a^(z%N).toNat));rw [Jl] at this;exact this.symm
theorem dY {z y:Int} (h:N∣z-y):Pz N a z=Pz N a y:=by unfold Pz;rw [Kw.mpr (Ig h)]
theorem zp (n0:0<N) (h:Al p (a^N.toNat) 1) (z y:Int):Al p (Pz N a z*Pz N a y) (Pz N a (z+y)):=by
 have m0:=Hl z (show N≠0 by lia);have m1:=Hl y (show N≠0 by lia);have e:Pz N a z*Pz N a y=a^(z%N+y%N).toNat:=by unfold Pz;rw [<- MZ];congr 1;lia
 rw [e,show Pz N a (z+y)=Pz N a (z%N+y%N) from dY ⟨z/N+y/N,by
  have e1:=Jd z N;have e2:=Jd y N;rw [SQ];lia⟩]
 exact (fF n0 h (by lia)).symm
theorem mi (n0:0<N) (h:Al p (a^N.toNat) 1) (z:Int) (k:Nat):Al p (Pz N a z^k) (Pz N a (z*k)):=by
 have m0:=Hl z (show N≠0 by lia);have e:Pz N a z^k=a^(z%N*k).toNat:=by
  unfold Pz;rw [<- SX];congr 1;have:(((z%N).toNat*k:Nat):Int)=z%N*k:=by rw [Im,Hb m0]
  lia
 rw [e,show Pz N a (z*k)=Pz N a (z%N*k) from dY ⟨z/N*k,by
  have e1:=Jd z N;have:z*k-z%N*k=(z-z%N)*k:=(O0 ..).symm;rw [this,show z-z%N=N*(z/N) by lia,Ib]⟩]
 exact (fF n0 h (JR m0 (by lia))).symm
theorem DP (n0:0<N) (h:Al p (a^N.toNat) 1) (co:Co a p) {b z:Int} (z0:z<0) (hb:p∣b*a-1):Al p (b^(-z).toNat) (Pz N a z):=by
 have hb':Al p (b*a) 1:=hb;have h1:Al p (b^(-z).toNat*a^(-z).toNat) 1:=by have:=hb'.pow (-z).toNat;rw [M0,NR] at this;exact this
 have h2:Al p (Pz N a z*a^(-z).toNat) 1:=by have:=((Al.refl p (Pz N a z)).mul (fF n0 h (show 0 <= -z by lia)).symm).trans (zp n0 h z (-z));rw [show z + -z=0 by lia] at this;refine this.trans ?_;unfold Pz;rw [Sb];show Al p (a^0) 1;rw [HS];exact Al.refl _ _
 have h3:=h1.trans h2.symm;rw [Ia (b^_),Ia (Pz N a z)] at h3;exact (co.pow _).cancel h3
end
structure Rt (p g k a:Int) (d inner outer:Int):Prop where
 d0:0<d
 dk:d∣k
 di:d∣inner
 i0:0<inner
 o0:0<outer
 io:inner*outer=p-1
 cdo:Co d outer
 cko:Co k outer
 cki:Co (k/d) (inner/d)
 cio:Co inner outer
section
variable {p g k a d inner outer:Int}
theorem fu {a b:Int} (h:Co a b):Co b a:=by obtain⟨u,v,e⟩:=h;exact⟨v,u,by lia⟩
theorem Rt.of {d inner outer u v:Int} (k0:0<k) (hd:0<d) (dk:d∣k) (lin:u*k+v*(p-1)=d) (i0:0<inner) (o0:0<outer) (io:inner*outer=p-1) (cio:Co inner outer) (di:d∣inner):Rt p g k a d inner outer:=by
 obtain⟨y,hy⟩:=id di;obtain⟨k',hk⟩:=id dk;obtain⟨s,t,e⟩:=cio;have cdo:Co d outer:=⟨s*y,t,by rw [<- e,hy];grind⟩
 refine⟨hd,dk,di,i0,o0,io,cdo,?_,?_,⟨s,t,e⟩⟩
 ·obtain⟨s',t',e'⟩:=cdo;refine⟨s'*u,s'*v*inner+t',?_⟩;rw [<- e',<- lin,<- io]
  grind
 ·have e1:k/d=k':=by rw [hk,HW _ (by lia)]
  have e2:inner/d=y:=by rw [hy,HW _ (by lia)]
  rw [e1,e2];refine⟨u,v*outer,?_⟩;have h1:d*(u*k'+v*outer*y)=d*1:=by
   rw [Jo]
   conv=>rhs;rw [<- lin,<- io,hk,hy]
   grind
  exact Jg (by lia) h1
theorem Rt.exp (R:Rt p g k a d inner outer) {x w:Int} (hx:d∣x) (hw:inner/d∣w*(k/d)-1):inner∣x/d*w*k-x:=by
 obtain⟨y,hy⟩:=id R.di;obtain⟨k',hk⟩:=id R.dk;obtain⟨x',hx⟩:=hx;have d0:=R.d0;have e1:k/d=k':=by rw [hk,HW _ (by lia)]
 have e2:inner/d=y:=by rw [hy,HW _ (by lia)]
 have e3:x/d=x':=by rw [hx,HW _ (by lia)]
 rw [e1,e2] at hw;obtain⟨s,hs⟩:=hw;refine⟨x'*s,?_⟩;rw [e3,hk,hx,hy];have:w*k'=y*s+1:=by lia
 have:x'*w*(d*k')=x'*d*(w*k'):=by grind
 rw [this,‹w*k'=y*s+1›]
 grind
theorem iW (pm:Pm p) (na:¬p∣a):0<p-1/\Al p (a^(p-1).toNat) 1:=⟨by have:=pm.two;lia,jM pm na⟩
theorem Rt.base (R:Rt p g k a d inner outer) (og:Ord p g (p-1).toNat) {b:Int} (hb:Al p b (g^outer.toNat)):Ord p b inner.toNat:=by
 have i0:=R.i0;have o0:=R.o0;have e:(p-1).toNat=inner.toNat*outer.toNat:=by
  have:((inner.toNat*outer.toNat:Nat):Int)=p-1:=by rw [Im,Hb (by lia),Hb (by lia),R.io]
  lia
 have:=gS og (q:=inner.toNat) ⟨outer.toNat,e⟩;rw [e,Mc _ (by lia)] at this;exact lW hb.symm this
theorem Rt.GR (R:Rt p g k a d inner outer) (pm:Pm p) (na:¬p∣a) {c v:Int} (hc:Al p c (Pz (p-1) a (v*outer))):Al p (c^inner.toNat) 1:=by obtain⟨n0,hf⟩:=iW pm na;have i0:=R.i0;have:=(hc.pow inner.toNat).trans (mi n0 hf (v*outer) inner.toNat);rw [show Pz (p-1) a (v*outer*(inner.toNat:Nat))=Pz (p-1) a 0 from dY ⟨v,by rw [Hb (by lia),<- R.io];grind⟩] at this;refine this.trans ?_;unfold Pz;rw [Sb];show Al p (a^0) 1;rw [HS];exact Al.refl _ _
theorem Rt.dx (R:Rt p g k a d inner outer) (pm:Pm p) (na:¬p∣a) (og:Ord p g (p-1).toNat) (h1:Al p (a^((p-1)/d).toNat) 1) {b c v:Int} {x:Nat} (hb:Al p b (g^outer.toNat)) (hc:Al p c (Pz (p-1) a (v*outer))) (hx:Al p c (b^x)):d∣(x:Int):=by
 obtain⟨n0,hf⟩:=iW pm na;have i0:=R.i0;have o0:=R.o0;have d0:=R.d0;obtain⟨y,hy⟩:=id R.di;have hN:p-1=d*(y*outer):=by rw [<- R.io,hy];grind
 have eN:(p-1)/d=y*outer:=by rw [hN,HW _ (by lia)]
 have y0:0<y:=by
  rcases NQ y 0 with z | z | z
  ·have:=LM d0 z;lia
  ·rw [z,Oy] at hy;lia
  ·exact z
 have m0:0<y*outer:=Ma y0 o0;rw [eN] at h1
 -- c to N/d is 1
 have c1:Al p (c^(y*outer).toNat) 1:=by
  have:=(hc.pow (y*outer).toNat).trans (mi n0 hf (v*outer) _);refine this.trans ?_;rw [Hb (by lia)];have s0:=Hl (v*outer) (show p-1≠0 by lia);rw [show Pz (p-1) a (v*outer*(y*outer))=Pz (p-1) a (v*outer%(p-1)*(y*outer)) from dY ⟨v*outer/(p-1)*(y*outer),by
   have e1:=Jd (v*outer) (p-1);rw [<- O0,show v*outer-v*outer%(p-1)=(p-1)*(v*outer/(p-1)) by lia,Ib]⟩]
  refine (fF n0 hf (JR s0 (by lia))).trans ?_;rw [show (v*outer%(p-1)*(y*outer)).toNat=(y*outer).toNat*(v*outer%(p-1)).toNat by
   have:(((y*outer).toNat*(v*outer%(p-1)).toNat:Nat):Int)=v*outer%(p-1)*(y*outer):=by rw [Im,Hb (by lia),Hb s0,Ia]
   lia]
  exact aN h1
 have c2:Al p (g^(outer.toNat*x*(y*outer).toNat)) 1:=by have:=((hx.trans (hb.pow x)).pow (y*outer).toNat).symm.trans c1;rw [bp,bp,<- Jn] at this;exact this
 have h3:=Hz.mpr (og.dv _ c2);rw [Hb (by lia),Im,Im,Hb (show 0<=outer by lia),Hb (show 0<=y*outer by lia),hN] at h3;obtain⟨t,ht⟩:=h3;have h4:outer*x=d*t:=by
  have:(y*outer)*(outer*x)=(y*outer)*(d*t):=by rw [Ia,ht];grind
  exact Jg (by lia) this
 exact (fu R.cdo).dvd ⟨t,h4⟩
theorem Rt.root (R:Rt p g k a d inner outer) (k0:0<k) (pm:Pm p) (na:¬p∣a) (og:Ord p g (p-1).toNat) {b c r1 r2 u v iv w:Int} {x:Nat} (lin:u*inner+v*outer=1)
  (hi:outer∣iv*k-1) (h1:Al p r1 (Pz (p-1) a (u*inner*iv))) (hb:Al p b (g^outer.toNat)) (hc:Al p c (Pz (p-1) a (v*outer))) (hx:Al p c (b^x)) (dx:d∣(x:Int)) (w0:0<=w) (hw:inner/d∣w*(k/d)-1) (h2:Al p r2 (b^((x:Int)/d*w).toNat)):Al p ((r1*r2)^k.toNat) a:=by
 obtain⟨n0,hf⟩:=iW pm na;have i0:=R.i0;have d0:=R.d0;have ob:=R.base og hb;have t1:Al p (r1^k.toNat) (Pz (p-1) a (u*inner)):=by
  have:=(h1.pow k.toNat).trans (mi n0 hf _ k.toNat);rw [Hb (by lia)] at this;obtain⟨s,hs⟩:=hi;rw [show Pz (p-1) a (u*inner*iv*k)=Pz (p-1) a (u*inner) from dY ⟨u*s,by
   have:iv*k=outer*s+1:=by lia
   rw [Ib,this,<- R.io];grind⟩] at this
  exact this
 have t2:Al p (r2^k.toNat) (Pz (p-1) a (v*outer)):=by have x0:0<=(x:Int)/d:=JB (by lia) (by lia);have o1:Al p (b^inner.toNat) 1:=ob.one;have h3:=(h2.trans (fF i0 o1 (JR x0 w0)).symm).pow k.toNat;have h4:=h3.trans (mi i0 o1 _ k.toNat);rw [Hb (show 0<=k by lia),dY (R.exp dx hw)] at h4;have h5:=h4.trans (fF i0 o1 (show 0<=(x:Int) by lia));rw [IH] at h5;exact (h5.trans hx.symm).trans hc
 rw [M0];have:=(t1.mul t2).trans (zp n0 hf _ _);rw [lin] at this;have h6:=this.trans (fF n0 hf (show (0:Int)<=1 by decide));rw [show (1:Int).toNat=1 from rfl,NS] at h6;exact h6
theorem wV (pm:Pm p) {r t a:Int} {k m:Nat} (ot:Ord p t m) (mk:m∣k) (hr:Al p (r^k) a) (i:Nat):Al p ((r*t^i)^k) a:=by rw [M0,bp];obtain⟨s,rfl⟩:=mk;rw [show i*(m*s)=m*(i*s) by grind];have:=hr.mul (aN (k:=i*s) ot.one);rw [Jo] at this;exact this
theorem wU (pm:Pm p) {r t:Int} {m i j:Nat} (ot:Ord p t m) (nr:¬p∣r) (hi:i<m) (hj:j<m) (h:Al p (r*t^i) (r*t^j)):i=j:=ot.inj ot.co hi hj ((pm.co nr).cancel h)
end
theorem qR (f:Int × Int->Bool):∀ ps:List (Int × Int),eN (ps.filter f)*eN (ps.filter λy=>!f y)=eN ps
 | []=>rfl
 | y::r=>by
  have ih:=qR f r;cases h:f y with
  | true =>rw [IL h,Iz (by simp [h])];show y.1.toNat^y.2.toNat*_*_=y.1.toNat^y.2.toNat*_;rw [Jn,ih]
  | false =>
   rw [Iz (by simp [h]),IL (by simp [h])];show _*(y.1.toNat^y.2.toNat*_)=y.1.toNat^y.2.toNat*_;rw [<- ih]
   grind
theorem uD {x:Int}:∀ b:List (Int × Int),(∀ y∈b,Pm y.1)->(∀ y∈b,Co x y.1)->Co x (eN b:Int)
 | [],_,_=>⟨0,1,by show 0*x+1*(1:Int)=1;lia⟩
 | y::r,hp,h=>by
  have:=(hp y Hi).two;have h1:=((fu (h y Hi)).pow y.2.toNat).mul (fu (uD r (λz hz=>hp z (Ha _ hz)) λz hz=>h z (Ha _ hz)));have e:((eN (y::r):Nat):Int)=y.1^y.2.toNat*eN r:=by show ((y.1.toNat^y.2.toNat*eN r:Nat):Int)=_;rw [Im,M7,Hb (by lia)]
  rw [e];exact fu h1
theorem EW {x y:Int} (hx:Pm x) (hy:Pm y) (ne:y≠x):Co x y:=hy.co λh=>by have:=hx.two;have:=hy.two;have:=Hx (by lia) h;exact hx.no y (by lia) (by lia) h
theorem Et {a b:List (Int × Int)} (ha:∀ y∈a,Pm y.1) (hb:∀ y∈b,Pm y.1) (ne:∀ x∈a,∀ y∈b,y.1≠x.1):Co (eN a:Int) (eN b:Int) :=
 uD b hb λy hy=>fu (uD a ha λx hx=>fu (EW (ha x hx) (hb y hy) (ne x hx y hy)))
theorem Br {p g k a d u v:Int} {ps:List (Int × Int)} (p2:2<=p) (hP:Part (p-1) ps) (k0:0<k) (B:Gcd.CC k (p-1) d u v) :
  Rt p g k a d (eN (ps.filter λy=>decide (d%y.1=0))) ((p-1)/(eN (ps.filter λy=>decide (d%y.1=0)):Int)):=by
 have hpm:∀ y∈ps,Pm y.1:=λy hy=>(hP.ok y hy).1;have e:=qR (λy=>decide (d%y.1=0)) ps;have eP:(eN ps:Int)=p-1:=by rw [fv ps hpm,hP.prod]
 have d0:0<d:=by
  rcases KR B.g0 with z | z
  ·exact z
  ·have:=B.da;rw [<- z] at this;have:=Nr.mp this;lia
 have a1:∀ y∈ps.filter (λy=>decide (d%y.1=0)),Pm y.1:=λy hy=>hpm y (IB.mp hy).1;have a2:∀ y∈ps.filter (λy=>!decide (d%y.1=0)),Pm y.1:=λy hy=>hpm y (IB.mp hy).1;have i0:=lE _ a1;have o0:=lE _ a2;have co:=Et a1 a2 λx hx y hy z=>by have h1:=(IB.mp hx).2;have h2:=(IB.mp hy).2;rw [z] at h2;simp at h1 h2;exact h2 h1
 have e1:((eN (ps.filter λy=>decide (d%y.1=0)):Nat):Int)*(eN (ps.filter λy=>!decide (d%y.1=0)):Nat)=p-1:=by rw [<- eP,<- e,Im]
 have e2:(p-1)/((eN (ps.filter λy=>decide (d%y.1=0)):Nat):Int)=(eN (ps.filter λy=>!decide (d%y.1=0)):Nat):=by rw [<- e1,HW _ (by lia)]
 rw [e2];refine Rt.of k0 d0 B.da B.lin (by lia) (by lia) e1 co ?_
 -- d divides inner: it has nothing in common with outer
 have cd:Co d (eN (ps.filter λy=>!decide (d%y.1=0)):Nat):=uD _ a2 λy hy=>by have h2:=(IB.mp hy).2;simp at h2;exact (a2 y hy).co λz=>h2 (Ig z)
 refine (fu cd).dvd ?_;rw [Ia,e1];exact B.db
end Num
namespace Num
theorem l7 {p:Int} (hp:2<=p):∀{k l:Nat} {R T:Int},¬p∣R->¬p∣T->p^k*R=p^l*T->k=l/\R=T
 | 0,0,R,T,_,_,e=>by rw [HS,Jl,Jl] at e;exact⟨rfl,e⟩
 | 0,l+1,R,T,h,_,e=>by rw [HS,Jl,Hu,Ia (p^l),Ib] at e;exact absurd ⟨_,e⟩ h
 | k+1,0,R,T,_,h,e=>by rw [HS,Jl,Hu,Ia (p^k),Ib] at e;exact absurd ⟨_,e.symm⟩ h
 | k+1,l+1,R,T,h,h',e=>by rw [Hu,Hu,Ia (p^k),Ia (p^l),Ib,Ib] at e;obtain⟨e1,e2⟩:=l7 hp h h' (Jg (by lia) e);exact⟨by rw [e1],e2⟩
theorem Part.tail {n:Int} {x:Int × Int} {r:List (Int × Int)} (h:Part n (x::r)):Part (cw r) r:=⟨λp hp=>h.ok p (Ha _ hp),(Jz.mp h.rise).2,rfl⟩
theorem Part.nd {n:Int} {x:Int × Int} {r:List (Int × Int)} (h:Part n (x::r)):¬x.1∣cw r:=λz=>by obtain⟨y,hy,e⟩:=i9 (h.ok x (Hi ..)).1 (λp hp=>(h.ok p (Ha _ hp)).1) z;have:=(Jz.mp h.rise).1 y hy;lia
theorem Part.hd {n:Int} {x:Int × Int} {r:List (Int × Int)} (h:Part n (x::r)) {q:Int} (hq:Pm q) (hd:q∣n):x.1<=q:=by
 obtain⟨y,hy,e⟩:=i9 hq (λp hp=>(h.ok p hp).1) (h.prod▸hd);rcases Hw.mp hy with rfl | hy
 ·lia
 ·have:=(Jz.mp h.rise).1 y hy;lia
theorem Part.dv {n:Int} {ps:List (Int × Int)} (h:Part n ps) {x:Int × Int} (hx:x∈ps):x.1∣n:=h.prod▸fW hx (h.ok x hx).2.1
theorem Part.one:∀{ps qs:List (Int × Int)} {n:Int},Part n ps->Part n qs->ps=qs
 | [],[],_,_,_=>rfl
 | [],y::t,n,h,h'=>by exfalso;have e:n=1:=h.prod.symm;have:=(h'.ok y (Hi ..)).1.two;have:=Hx (by decide) (e▸h'.dv (Hi ..));lia
 | x::r,[],n,h,h'=>by exfalso;have e:n=1:=h'.prod.symm;have:=(h.ok x (Hi ..)).1.two;have:=Hx (by decide) (e▸h.dv (Hi ..));lia
 | (p,k)::r,(q,l)::t,n,h,h'=>by
  have hp:=h.ok _ (Hi ..);have hq:=h'.ok _ (Hi ..);have e1:p<=q:=h.hd hq.1 (h'.dv (Hi ..));have e2:q<=p:=h'.hd hp.1 (h.dv (Hi ..));obtain rfl:p=q:=by lia
  obtain⟨a,b⟩:=l7 hp.1.two h.nd h'.nd (h.prod.trans h'.prod.symm);have:k=l:=by have:=hp.2.1;have:=hq.2.1;simp only at *;lia
  subst this;rw [Part.one h.tail (b▸h'.tail)]
noncomputable def EU:List (Int × Int)->Int
 | []=>1
 | x::r=>x.1^(x.2.toNat-1)*(x.1-1)*EU r
theorem nZ:∀{ps:List (Int × Int)},(∀ p∈ps,Pm p.1)->0<cw ps
 | [],_=>by decide
 | x::r,h=>Ma (bK (by have:=(h x (Hi ..)).two;lia) _) (nZ λp hp=>h p (Ha _ hp))
theorem Part.pos {n:Int} {ps:List (Int × Int)} (h:Part n ps):0<n:=h.prod▸nZ λp hp=>(h.ok p hp).1
structure Dv (A:Int) (F:List (List (Int × Int))):Prop where
 part:∀ s∈F,Part (cw s) s
 nodup:(F.map cw).Nodup
 mem:∀ d,d∈F.map cw↔0<d/\d∣A
 sum:(F.map EU).sum=A
theorem Dv.start:Dv 1 [[]]:=⟨λs hs=>by rw [Ho.mp hs];exact⟨λ_ z=>by simp at z,Mn,rfl⟩,by simp,λd=>by
  show d∈[1]↔_;rw [Ho];exact⟨λe=>by rw [e];exact⟨by decide,Lo _⟩,fun⟨a,b⟩=>by have:=Hx (by decide) b;lia⟩,rfl⟩
structure Ds (n:Int) (ds:List Int):Prop where
 rise:ds.Pairwise (·<·)
 mem:∀ d,d∈ds↔0<d/\d∣n
theorem yq {l:List Int} (h:l.Pairwise (·<=·)) (nd:l.Nodup):l.Pairwise (·<·) :=
 (h.and nd).imp fun⟨a,b⟩=>by lia
theorem iF:∀{l m:List Int},l.Pairwise (·<·)->m.Pairwise (·<·)->(∀ a,a∈l↔a∈m)->l=m
 | [],[],_,_,_=>rfl
 | [],y::m,_,_,h=>by have:=(h y).mpr (Hi ..);simp at this
 | x::l,[],_,_,h=>by have:=(h x).mp (Hi ..);simp at this
 | x::l,y::m,hl,hm,h=>by
  obtain⟨a,b⟩:=Jz.mp hl;obtain⟨c,d⟩:=Jz.mp hm;have e:x=y:=by
   rcases Hw.mp ((h x).mp (Hi ..)) with z | z
   ·exact z
   ·rcases Hw.mp ((h y).mpr (Hi ..)) with w | w
    ·exact w.symm
    ·have:=a y w;have:=c x z;lia
  subst e;rw [iF b d λz=>?_];constructor
  ·intro hz;rcases Hw.mp ((h z).mp (Ha _ hz)) with w | w
   ·have:=a z hz;lia
   ·exact w
  ·intro hz;rcases Hw.mp ((h z).mpr (Ha _ hz)) with w | w
   ·have:=c z hz;lia
   ·exact w
theorem Ds.one {n:Int} {ds es:List Int} (h:Ds n ds) (h':Ds n es):ds=es:=iF h.rise h'.rise λa=>(h.mem a).trans (h'.mem a).symm
theorem Dv.ds {n:Int} {F:List (List (Int × Int))} {ds:List Int} (h:Dv n F) (p:ds.Perm (F.map cw)) (s:ds.Pairwise (·<=·)):Ds n ds :=
 ⟨yq s (p.nodup_iff.mpr h.nodup),λd=>p.mem_iff.trans (h.mem d)⟩
theorem lF (p:Int->Bool):∀ l:List Int,l.length=(l.filter p).length+(l.filter (λd=>!p d)).length
 | []=>rfl
 | x::l=>by have:=lF p l;cases e:p x<;>simp [List.filter_cons,e]<;>lia
theorem vP {n:Int} (hn:n<=10^9) {l:List Int} (nd:l.Nodup) (h:∀ d∈l,0<d/\d∣n) (n0:0<n):l.length<=63246:=by
 have lo:(l.filter (λd=>decide (d<31623))).length<=31623:=by
  have:=pS 31623 ((l.filter (λd=>decide (d<31623))).map Int.toNat) ?_ ?_
  ·simpa using this
  ·refine J7.mpr ((nd.filter _).imp_of_mem λ{a b} ha hb ne e=>ne ?_);have h1:=h a (IB.mp ha).1;have h2:=h b (IB.mp hb).1;lia
  ·intro x hx;obtain⟨d,hd,rfl⟩:=HE.mp hx;have:=(IB.mp hd).2;simp at this;lia
 have hi:(l.filter (λd=>!decide (d<31623))).length<=31623:=by
  have:=pS 31623 ((l.filter (λd=>!decide (d<31623))).map λd=>(n/d).toNat) ?_ ?_
  ·simpa using this
  ·refine J7.mpr ((nd.filter _).imp_of_mem λ{a b} ha hb ne e=>ne ?_);have h1:=h a (IB.mp ha).1;have h2:=h b (IB.mp hb).1;obtain⟨c,hc⟩:=h1.2;obtain⟨c',hc'⟩:=h2.2;have e1:n/a=c:=by rw [hc];exact HW _ (by lia)
   have e2:n/b=c':=by rw [hc'];exact HW _ (by lia)
   rw [e1,e2] at e;have c0:0<c:=by
    rcases (by lia:c<=0∨0<c) with z | z
    ·have:=Iu (show 0<=a by lia) z;lia
    ·exact z
   have c0':0<c':=by
    rcases (by lia:c'<=0∨0<c') with z | z
    ·have:=Iu (show 0<=b by lia) z;lia
    ·exact z
   obtain rfl:c=c':=by lia
   exact Int.eq_of_mul_eq_mul_right (by lia) (hc.symm.trans hc')
  ·intro x hx;obtain⟨d,hd,rfl⟩:=HE.mp hx;have h1:=(IB.mp hd).2;simp at h1;have h2:n/d<=n/31623:=by refine MC (by decide) ?_;have:=Int.ediv_mul_le n (show d≠0 by lia);have:=HK h1 (JB (show 0<=n by lia) (show 0<=d by lia));lia
   have:n/31623<31623:=Int.ediv_lt_of_lt_mul (by decide) (by lia);lia
 have:=lF (λd:Int=>decide (d<31623)) l;lia
noncomputable def ins (x:Int × Int):List (Int × Int)->List (Int × Int)
 | []=>[x]
 | y::r=>if x.1<y.1 then x::y::r else y::ins x r
end Num
namespace Tim
open PySem PyProof.Rows
noncomputable abbrev kk (x:HJ):Int:=numOf x.1
def wW (x:HJ):Prop:=∃ n t,x.1=.int n t
def eO (xs:Array HJ):Prop:=∀ p∈xs.toList,wW p
theorem eO.at {xs:Array HJ} (h:eO xs) {i:Nat} (hi:i<xs.size):wW xs[i]:=h _ (by simp)
section
variable {prog:Hq} {w:HU} {A:HX} {E:G2->G5->Prop} {s:G5} {a₀:Array HJ}
theorem pH {st:IE} {x y:HJ} {Q:Option Bool->IE->Prop} (hk:kindOf st=oneType') (hx:wW x) (hy:wW y) (h:Q (GZ (decide (kk x<kk y))) st) :
  wpS (model prog w) A E s (lt' x y) Q st:=by
 obtain⟨n,t,e⟩:=hx;obtain⟨m,u,e'⟩:=hy;unfold kk at h;rw [e,e'] at h;rw [lt'_eq];refine HF (wpS_get ?_);rw [hk,keyLt'_oneType,e,e'];exact HF (Oe (MQ (oneLt_int ⟨rfl,Hv h⟩)))
theorem el {st:IE} {xs:Array HJ} {i:Nat} {Q:HJ->IE->Prop} (hi:i<xs.size) (h:Q xs[i] st) :
  wpS (model prog w) A E s (elem' xs i) Q st:=by
 rw [elem'_eq,getElem?_pos xs i hi];exact Hv h
noncomputable def pf:Bool->HJ->Array HJ->Nat->Nat->Nat->StateT IE Pj (Option Nat):=sortPriv% PySem.Builtin.gallop
def jF (left:Bool) (v:Int) (xs:Array HJ) (i:Nat):Prop:=if left=true then K xs i<v else K xs i<=v
instance (left:Bool) (v:Int) (xs:Array HJ) (i:Nat):Decidable (jF left v xs i):=by unfold jF;infer_instance
theorem jF.mono {left:Bool} {v:Int} {xs:Array HJ} {i j:Nat} (h:jF left v xs j) (le:K xs i<=K xs j):jF left v xs i:=by unfold jF at *;split at h<;>rename_i c<;>simp only [c,if_true,if_false,Jm]<;>lia
def Up (xs:Array HJ) (lo hi:Nat):Prop:=∀ i j,lo<=i->i<=j->j<hi->K xs i<=K xs j
theorem beyond {st:IE} {left:Bool} {key:HJ} {xs:Array HJ} {i:Nat} {Q:Option Bool->IE->Prop} (hk:kindOf st=oneType') (hn:eO xs) (hy:wW key)
  (hi:i<xs.size) (h:Q (GZ (decide (jF left (kk key) xs i))) st) :
  wpS (model prog w) A E s (do let x <- elem' xs i;if left=true then lt' x key else do let r <- lt' key x;pure (Rq (λb=>!b) r)) Q st:=by
 have hx:=hn.at hi;have e:K xs i=kk xs[i]:=K_eq hi;refine HF (el hi ?_);cases left with
 | true =>rw [if_pos rfl];refine pH hk hx hy ?_;unfold jF at h;simpa [e] using h
 | false =>
  rw [if_neg (by simp)];refine HF (pH hk hy hx (Hv ?_));unfold jF at h;simp only [Jm,if_false,e] at h;have:(Rq (λb=>!b) (GZ (decide (kk key<kk xs[i]))))=GZ (decide (kk xs[i]<=kk key)):=by
   simp only [Q8,Ql];by_cases c:kk key<kk xs[i]
   ·rw [decide_eq_true c,decide_eq_false (by lia)];rfl
   ·rw [decide_eq_false c,decide_eq_true (by lia)];rfl
  rw [this];exact h
theorem FR {st:IE} {left:Bool} {key:HJ} {xs:Array HJ} {base n hint:Nat} {Q:Option Nat->IE->Prop} (hk:kindOf st=oneType') (hn:eO xs) (hy:wW key)
  (hb:base+n<=xs.size) (hh:hint<n) (up:Up xs base (base+n))
  (q:∀ k,k<=n->(∀ i,i<k->jF left (kk key) xs (base+i))->(∀ i,k<=i->i<n->¬jF left (kk key) xs (base+i))->Q (GZ k) st) :
  wpS (model prog w) A E s (pf left key xs base n hint) Q st:=by
 have mono:∀ i j,i<=j->j<n->jF left (kk key) xs (base+j)->jF left (kk key) xs (base+i):=λi j a b c=>c.mono (up _ _ (by lia) (by lia) (by lia));generalize hB:(λi=>jF left (kk key) xs (base+i))=B at mono q;have hBd:∀ i,jF left (kk key) xs (base+i)=B i:=λi=>by rw [<- hB]
 simp only [hBd] at mono q;have bey:∀{i:Nat} {Q:Option Bool->IE->Prop},i<n->(B i->Q (GZ true) st)->(¬B i->Q (GZ false) st)->wpS (model prog w) A E s (do let x <- elem' xs (base+i);if left=true then lt' x key else do let r <- lt' key x;pure (Rq (λb=>!b) r)) Q st:=by
  intro i Q hi h1 h2;refine beyond hk hn hy (by lia) ?_;by_cases c:B i
  ·rw [decide_eq_true (by rw [hBd];exact c)];exact h1 c
  ·rw [decide_eq_false (by rw [hBd];exact c)];exact h2 c
 have last:∀(lo hi:Nat) (f:Nat->Option (Option Nat) × Nat × Nat->StateT IE Pj (ForInStep (Option (Option Nat) × Nat × Nat))) (g:Option (Option Nat) × Nat × Nat->StateT IE Pj (Option Nat)),lo<=hi->hi<=n->(∀ i,i<lo->B i)->(∀ i,hi<=i->i<n->¬B i) ->
   (∀ x l h Q',(l≥h->Q' (Rr (none,l,h)) st)->(l<h->h<=n->B (l+(h-l)/2)->Q' (JI (none,l+(h-l)/2+1,h)) st)->(l<h->h<=n->¬B (l+(h-l)/2)->Q' (JI (none,l,l+(h-l)/2)) st)->h<=n->wpS (model prog w) A E s (f x (none,l,h)) Q' st) ->
   (∀ k,Q (GZ k) st->wpS (model prog w) A E s (g (none,k,k)) Q st) ->
   wpS (model prog w) A E s (forIn [:n] ((none,lo,hi):Option (Option Nat) × Nat × Nat) f >>= g) Q st:=by
  intro lo hi f g h1 h2 h3 h4 hf hg;refine HF (KS (JA (I:=λx c st'=>st'=st/\∃ l h,c=(none,l,h)/\l<=h/\h<=n/\h-l<=n-x/\(∀ i,i<l->B i)/\(∀ i,h<=i->i<n->¬B i))
   (Q:=λc st'=>st'=st/\∃ l,c=(none,l,l)/\l<=n/\(∀ i,i<l->B i)/\(∀ i,l<=i->i<n->¬B i)) ?step ?fin ⟨rfl,lo,hi,rfl,h1,h2,by lia,h3,h4⟩) ?post)
  case post =>rintro c st' ⟨rfl,l,rfl,a,b,d⟩;exact hg _ (q l a b d)
  case fin =>
   rintro c st' ⟨rfl,l,h,rfl,a,b,d,e,f⟩;have:l=h:=by lia
   subst this;exact⟨rfl,l,rfl,b,e,f⟩
  case step =>
   rintro x c st' _ _ ⟨rfl,l,h,rfl,a,b,d,e,f⟩;refine hf x l h _ (λg=>?_) (λg g' c=>?_) (λg g' c=>?_) b
   ·have:l=h:=by lia
    subst this;exact⟨rfl,l,rfl,b,e,f⟩
   ·exact⟨rfl,_,_,rfl,by lia,b,by lia,λi hi=>mono i _ (by lia) (by lia) c,f⟩
   ·exact⟨rfl,_,_,rfl,by lia,by lia,by lia,e,λi h1 h2 bi=>c (mono _ i h1 h2 bi)⟩
 unfold pf;refine HF (bey hh (λc0=>?_) λc0=>?_)
 ·dsimp only;rw [if_pos rfl];refine HF (KS (JA (I:=λx c st'=>st'=st/\∃ l o,c=(none,l,o)/\x+1<=o/\l<o/\hint+l<n/\B (hint+l))
   (Q:=λc st'=>st'=st/\∃ l o,c=(none,l,o)/\l<o/\hint+l<n/\B (hint+l)/\(hint+o<n->¬B (hint+o))) ?step ?fin ⟨rfl,0,1,rfl,by lia,by lia,by lia,c0⟩) ?post)
  case post =>
   rintro c st' ⟨rfl,l,o,rfl,a,b,d,e⟩;refine last (hint+l+1) (hint+min o (n-hint)) _ _ (by lia) (by lia) (λi hi=>mono i _ (by lia) b d) (λi h1 h2 bi=>?_) ?_ ?_
   ·exact e (by lia) (mono (hint+o) i (by lia) h2 bi)
   ·intro x l h Q' q1 q2 q3 hh';dsimp only;by_cases g:l≥h
    ·rw [if_pos g];exact Hv (q1 g)
    ·rw [if_neg g];refine HF (bey (by lia) (λc=>?_) λc=>?_)
     ·exact Hv (q2 (by lia) hh' c)
     ·exact Hv (q3 (by lia) hh' c)
   ·exact λk hk=>Hv hk
  case fin =>rintro c st' ⟨rfl,l,o,rfl,a,b,d,e⟩;exact⟨rfl,l,o,rfl,b,d,e,λ_=>by lia⟩
  case step =>
   rintro x c st' _ _ ⟨rfl,l,o,rfl,a,b,d,e⟩;dsimp only;by_cases g:o≥n-hint
   ·rw [if_pos g];exact Hv ⟨rfl,l,o,rfl,b,d,e,λ_=>by lia⟩
   ·rw [if_neg g];refine HF (bey (by lia) (λc=>?_) λc=>?_)
    ·exact Hv ⟨rfl,o,2*o+1,rfl,by lia,by lia,by lia,c⟩
    ·exact Hv ⟨rfl,l,o,rfl,b,d,e,λ_=>c⟩
 ·dsimp only;rw [if_neg (by simp)];refine HF (KS (JA (I:=λx c st'=>st'=st/\∃ l o,c=(none,l,o)/\x+1<=o/\l<o/\l<=hint/\¬B (hint-l))
   (Q:=λc st'=>st'=st/\∃ l o,c=(none,l,o)/\l<o/\l<=hint/\¬B (hint-l)/\(o<=hint->B (hint-o))) ?step ?fin ⟨rfl,0,1,rfl,by lia,by lia,by lia,c0⟩) ?post)
  case post =>
   rintro c st' ⟨rfl,l,o,rfl,a,b,d,e⟩;refine last (hint+1-min o (hint+1)) (hint-l) _ _ (by lia) (by lia) (λi hi=>mono i (hint-o) (by lia) (by lia) (e (by lia))) (λi h1 h2 bi=>?_) ?_ ?_
   ·exact d (mono _ i (by lia) h2 bi)
   ·intro x l h Q' q1 q2 q3 hh';dsimp only;by_cases g:l≥h
    ·rw [if_pos g];exact Hv (q1 g)
    ·rw [if_neg g];refine HF (bey (by lia) (λc=>?_) λc=>?_)
     ·exact Hv (q2 (by lia) hh' c)
     ·exact Hv (q3 (by lia) hh' c)
   ·exact λk hk=>Hv hk
  case fin =>rintro c st' ⟨rfl,l,o,rfl,a,b,d,e⟩;exact⟨rfl,l,o,rfl,b,d,e,λ_=>by lia⟩
  case step =>
   rintro x c st' _ _ ⟨rfl,l,o,rfl,a,b,d,e⟩;dsimp only;by_cases g:o≥hint+1
   ·rw [if_pos g];exact Hv ⟨rfl,l,o,rfl,b,d,e,λ_=>by lia⟩
   ·rw [if_neg g];refine HF (bey (by lia) (λc=>?_) λc=>?_)
    ·exact Hv ⟨rfl,l,o,rfl,b,d,e,λ_=>c⟩
    ·exact Hv ⟨rfl,o,2*o+1,rfl,by lia,by lia,by lia,c⟩
end
end Tim
namespace Tim
open PySem PyProof.Rows
def R (x y:HJ):Prop:=kk x<=kk y
abbrev fR (l:List HJ):Prop:=l.Pairwise R
structure Mg (o X Y T:List HJ):Prop where
 sx:fR (o++X)
 sy:fR (o++Y)
 pm:(o++(X++Y)).Perm T
theorem Mg.swap {o X Y T:List HJ} (h:Mg o X Y T):Mg o Y X T:=⟨h.sy,h.sx,(MD.append_left o).trans h.pm⟩
theorem Mg.left {o X1 X2 Y T:List HJ} (h:Mg o (X1++X2) Y T) (c:∀ x∈X1,∀ y∈Y,R x y):Mg (o++X1) X2 Y T:=by
 refine⟨by rw [Iy];exact h.sx,?_,by have:=h.pm;simpa only [Iy] using this⟩;have h1:=HG.mp h.sx;have h2:=HG.mp h.sy;have h3:=HG.mp h1.2.1;rw [Iy];refine HG.mpr ⟨h1.1,HG.mpr ⟨h3.1,h2.2.1,c⟩,λa ha b hb=>?_⟩;rcases IC.mp hb with hb | hb
 ·exact h1.2.2 a ha b (JT _ hb)
 ·exact h2.2.2 a ha b hb
theorem Mg.right {o X Y1 Y2 T:List HJ} (h:Mg o X (Y1++Y2) T) (c:∀ y∈Y1,∀ x∈X,R y x):Mg (o++Y1) X Y2 T:=(h.swap.left c).swap
def Out (z T:List HJ):Prop:=fR z/\z.Perm T
theorem Mg.xS {o X T:List HJ} (h:Mg o X [] T):Out (o++X) T:=⟨h.sx,by have:=h.pm;rwa [Jj] at this⟩
theorem Mg.AA {o Y T:List HJ} (h:Mg o [] Y T):Out (o++Y) T:=⟨h.sy,by have:=h.pm;rwa [List.nil_append] at this⟩
theorem Mg.EF {o Y T:List HJ} {x:HJ} (h:Mg o [x] Y T) (c:∀ y∈Y,R y x):Out (o++Y++[x]) T :=
 (Mg.right (Y1:=Y) (Y2:=[]) (by rwa [Jj]) λy hy z hz=>by rw [Ho.mp hz];exact c y hy).xS
structure Mh (o X Y T:List HJ):Prop where
 sx:fR (X++o)
 sy:fR (Y++o)
 pm:((X++Y)++o).Perm T
theorem Mh.swap {o X Y T:List HJ} (h:Mh o X Y T):Mh o Y X T:=⟨h.sy,h.sx,(MD.append_right o).trans h.pm⟩
theorem Mh.left {o X1 X2 Y T:List HJ} (h:Mh o (X1++X2) Y T) (c:∀ y∈Y,∀ x∈X2,R y x):Mh (X2++o) X1 Y T:=by
 refine⟨by rw [<- Iy];exact h.sx,?_,?_⟩
 ·have h1:=HG.mp h.sx;have h2:=HG.mp h.sy;have h3:=HG.mp h1.1;refine HG.mpr ⟨h2.1,HG.mpr ⟨h3.2.1,h1.2.1,λa ha b hb=>h1.2.2 a (Hm _ ha) b hb⟩,λa ha b hb=>?_⟩;rcases IC.mp hb with hb | hb
  ·exact c a ha b hb
  ·exact h2.2.2 a ha b hb
 ·refine Q9 ?_ h.pm;rw [<- Iy];refine List.Perm.append_right o ?_;rw [Iy,Iy];exact MD.append_left X1
theorem Mh.right {o X Y1 Y2 T:List HJ} (h:Mh o X (Y1++Y2) T) (c:∀ x∈X,∀ y∈Y2,R x y):Mh (Y2++o) X Y1 T:=(h.swap.left c).swap
theorem Mh.xS {o X T:List HJ} (h:Mh o X [] T):Out (X++o) T:=⟨h.sx,by have:=h.pm;rwa [Jj] at this⟩
theorem Mh.AA {o Y T:List HJ} (h:Mh o [] Y T):Out (Y++o) T:=h.swap.xS
theorem Mh.EG {o X T:List HJ} {y:HJ} (h:Mh o X [y] T) (c:∀ x∈X,R y x):Out ([y]++X++o) T:=by
 have:=(Mh.left (X1:=[]) (X2:=X) h λz hz x hx=>by rw [Ho.mp hz];exact c x hx).AA
 rwa [<- Iy] at this
theorem ext_toList (xs:Array HJ) (a b:Nat):(xs.extract a b).toList=(xs.toList.drop a).take (b-a):=by simp [Array.toList_extract,List.extract_eq_take_drop]
theorem drop_cons {xs:Array HJ} {i:Nat} (h:i<xs.size):xs.toList.drop i=xs[i]::xs.toList.drop (i+1):=by
 have h':i<xs.toList.length:=by simpa using h
 rw [List.drop_eq_getElem_cons h'];simp
theorem fI {xs:Array HJ} {i:Nat} (h:i<xs.size):xs.toList.take (i+1)=xs.toList.take i++[xs[i]]:=by
 have h':i<xs.toList.length:=by simpa using h
 rw [List.take_succ_eq_append_getElem h'];simp
theorem dh {xs:Array HJ} {a k:Nat} {x:HJ} (h:x∈(xs.toList.drop a).take k):∃ i,∃(hi:a+i<xs.size),i<k/\x=xs[a+i]:=by
 obtain⟨i,hi,e⟩:=Ke h;have h1:i<k:=by have:=hi;rw [HB] at this;lia
 have h2:a+i<xs.size:=by rw [HB,JU] at hi;simp at hi;lia
 refine⟨i,h2,h1,?_⟩;rw [<- e,LB,LC];simp
theorem nO {xs:Array HJ} {a:Nat} {x:HJ} (h:x∈xs.toList.take a):∃ i,∃(hi:i<xs.size),i<a/\x=xs[i]:=by obtain⟨i,hi,h1,e⟩:=dh (xs:=xs) (a:=0) (k:=a) (by simpa using h);exact⟨i,by lia,h1,by simpa using e⟩
theorem gY {xs:Array HJ} {a n:Nat} (hn:a+n<=xs.size) (h:fR ((xs.toList.drop a).take n)):Up xs a (a+n):=by
 intro i j h1 h2 h3;rw [K_eq (by lia),K_eq (by lia)];by_cases e:i=j
 ·subst e;exact Je _
 ·have hl:((xs.toList.drop a).take n).length=n:=by simp;lia
  have:=JN.mp h (i-a) (j-a) (by lia) (by lia) (by lia);unfold R kk at this;simp only [LB,LC,Pa] at this;simpa only [show a+(i-a)=i by lia,show a+(j-a)=j by lia] using this
theorem wM {xs:Array HJ} {a n:Nat} (h:Up xs a (a+n)):fR ((xs.toList.drop a).take n):=by
 refine JN.mpr λi j hi hj hij=>?_;have h1:j<n:=by rw [HB] at hj;lia
 have h2:a+j<xs.size:=by rw [HB,JU] at hj;simp at hj;lia
 have:=h (a+i) (a+j) (by lia) (by lia) (by lia);rw [K_eq (by lia),K_eq h2] at this;unfold R kk;simpa only [LB,LC,Pa] using this
theorem sE {xs:Array HJ} {a:Nat} (ha:a<=xs.size) (h:fR (xs.toList.drop a)):Up xs a (a+(xs.size-a)):=by refine gY (by lia) ?_;rw [II (by simp)];exact h
theorem sF {xs:Array HJ} {a:Nat} (ha:a<=xs.size) (h:fR (xs.toList.take a)):Up xs 0 (0+a):=gY (by lia) (by simpa using h)
theorem lh {xs:Array HJ} {i:Nat} (h:i<xs.size):K xs i=kk xs[i]:=K_eq h
end Tim
namespace Tim
open PySem PyProof.Rows
noncomputable def rm:Array HJ->Array HJ->StateT IE Pj (Array HJ):=sortPriv% PySem.Builtin.mergeLo
noncomputable def rj:Array HJ->Array HJ->StateT IE Pj (Array HJ):=sortPriv% PySem.Builtin.mergeHi
structure Sm (st st':IE):Prop where
 kind:kindOf st'=kindOf st
 arr:arrOf st'=arrOf st
 pend:pendingOf st'=pendingOf st
 failed:failedOf st'=failedOf st
theorem Sm.refl (st:IE):Sm st st:=⟨rfl,rfl,rfl,rfl⟩
theorem Sm.trans {a b c:IE} (h:Sm a b) (g:Sm b c):Sm a c:=⟨g.kind.trans h.kind,g.arr.trans h.arr,g.pend.trans h.pend,g.failed.trans h.failed⟩
noncomputable def qc:Nat->StateT IE Pj Unit:=sortPriv% PySem.Builtin.setMinGallop
section
variable {prog:Hq} {w:HU} {A:HX} {E:G2->G5->Prop} {s:G5} {xs ys:Array HJ}
theorem DW {st:IE} {g:Nat} {Q:Unit->IE->Prop} (q:∀ st',Sm st st'->Q () st'):wpS (model prog w) A E s (qc g) Q st:=by unfold qc;exact NF (q _ ⟨rfl,rfl,rfl,rfl⟩)
def J (xs ys out:Array HJ) (ia ib:Nat):Prop:=Mg out.toList (xs.toList.drop ia) (ys.toList.drop ib) (xs.toList++ys.toList)
theorem kP {zs:Array HJ} {i:Nat} (hi:i<zs.size) (h:fR (zs.toList.drop i)) {x:HJ} (hx:x∈zs.toList.drop i):R zs[i] x:=by
 rw [drop_cons hi] at h hx;rcases Hw.mp hx with rfl | hx
 ·exact Je _
 ·exact (Jz.mp h).1 x hx
theorem J.sX {out:Array HJ} {ia ib:Nat} (h:J xs ys out ia ib):fR (xs.toList.drop ia):=(HG.mp h.sx).2.1
theorem J.sY {out:Array HJ} {ia ib:Nat} (h:J xs ys out ia ib):fR (ys.toList.drop ib):=(HG.mp h.sy).2.1
theorem J.oh {out:Array HJ} {ia ib:Nat} (h:J xs ys out ia ib) (hb:ib<ys.size) (ha:ia<xs.size) (c:R ys[ib] xs[ia]):J xs ys (out.push ys[ib]) ia (ib+1):=by have sX:=h.sX;unfold J at *;rw [NW];refine Mg.right (Y1:=[ys[ib]]) (by rw [OM,<- drop_cons hb];exact h) λy hy x hx=>?_;rw [Ho.mp hy];exact IZ c (kP ha sX hx)
theorem J.oa {out:Array HJ} {ia ib:Nat} (h:J xs ys out ia ib) (hb:ib<ys.size) (ha:ia<xs.size) (c:R xs[ia] ys[ib]):J xs ys (out.push xs[ia]) (ia+1) ib:=by have sY:=h.sY;unfold J at *;rw [NW];refine Mg.left (X1:=[xs[ia]]) (by rw [OM,<- drop_cons ha];exact h) λy hy x hx=>?_;rw [Ho.mp hy];exact IZ c (kP hb sY hx)
theorem J.zV {out:Array HJ} {ia ib k:Nat} (h:J xs ys out ia ib) (hb:ib<ys.size) (c:∀ i,i<k->K xs (ia+i)<=kk ys[ib]):J xs ys (out++xs.extract ia (ia+k)) (ia+k) ib:=by have sY:=h.sY;unfold J at *;rw [IX,ext_toList,show ia+k-ia=k by lia];refine Mg.left (by rw [<- Pb,HZ];exact h) λx hx y hy=>?_;obtain⟨i,hi,h1,rfl⟩:=dh hx;have:=c i h1;rw [lh hi] at this;exact IZ this (kP hb sY hy)
theorem J.zW {out:Array HJ} {ia ib k:Nat} (h:J xs ys out ia ib) (ha:ia<xs.size) (c:∀ i,i<k->K ys (ib+i)<kk xs[ia]):J xs ys (out++ys.extract ib (ib+k)) ia (ib+k):=by have sX:=h.sX;unfold J at *;rw [IX,ext_toList,show ib+k-ib=k by lia];refine Mg.right (by rw [<- Pb,HZ];exact h) λx hx y hy=>?_;obtain⟨i,hi,h1,rfl⟩:=dh hx;have:=c i h1;rw [lh hi] at this;exact IZ (IT this) (kP ha sX hy)
def kC (xs ys z:Array HJ):Prop:=Out z.toList (xs.toList++ys.toList)
theorem kO (zs:Array HJ) (a:Nat):(zs.extract a zs.size).toList=zs.toList.drop a:=by rw [ext_toList,II (by simp)]
theorem J.done {out:Array HJ} {ia ib:Nat} (h:J xs ys out ia ib) (c:ib=ys.size∨ia=xs.size):kC xs ys (out++xs.extract ia xs.size++ys.extract ib ys.size):=by
 unfold J at h;unfold kC;rw [IX,IX,kO,kO];rcases c with rfl | rfl
 ·rw [Mw (l:=ys.toList) (by simp)] at h ⊢;rw [Jj];exact h.xS
 ·rw [Mw (l:=xs.toList) (by simp)] at h ⊢;rw [Jj];exact h.AA
theorem J.last {out:Array HJ} {ia ib:Nat} (h:J xs ys out ia ib) (e:ia+1=xs.size) (l:∀ y∈ys.toList,∀ x,xs.toList.getLast?=GZ x->R y x):kC xs ys (out++ys.extract ib ys.size++xs.extract ia xs.size):=by
 unfold J at h;unfold kC;rw [IX,IX,kO,kO];have h1:xs.toList.drop ia=[xs[ia]]:=by rw [drop_cons (by lia),Mw (by simp;lia)]
 rw [h1] at h ⊢;refine h.EF λy hy=>l y (Jy hy) _ ?_;rw [NJ];simp only [HV,show xs.size-1=ia by lia];simp
section
variable {β:Type} {st:IE} {Q:β->IE->Prop}
theorem qz {zs:Array HJ} {i:Nat} {f:HJ->StateT IE Pj β} (hi:i<zs.size) (h:wpS (model prog w) A E s (f zs[i]) Q st):wpS (model prog w) A E s (elem' zs i >>= f) Q st:=HF (el hi h)
theorem Aw {g:Nat} {f:Unit->StateT IE Pj β} (h:∀ st',Sm st st'->wpS (model prog w) A E s (f ()) Q st'):wpS (model prog w) A E s (qc g >>= f) Q st:=HF (DW h)
theorem Av {left:Bool} {key:HJ} {zs:Array HJ} {base n hint:Nat} {f:Option Nat->StateT IE Pj β} (hk:kindOf st=oneType') (hn:eO zs) (hy:wW key) (hb:base+n<=zs.size) (hh:hint<n) (up:Up zs base (base+n))
  (h:∀ k,k<=n->(∀ i,i<k->jF left (kk key) zs (base+i))->(∀ i,k<=i->i<n->¬jF left (kk key) zs (base+i))->wpS (model prog w) A E s (f (GZ k)) Q st):wpS (model prog w) A E s (pf left key zs base n hint >>= f) Q st:=HF (FR hk hn hy hb hh up h)
theorem Gk {x y:HJ} {f:Option Bool->StateT IE Pj β} (hk:kindOf st=oneType') (hx:wW x) (hy:wW y) (h:wpS (model prog w) A E s (f (GZ (decide (kk x<kk y)))) Q st):wpS (model prog w) A E s (lt' x y >>= f) Q st:=HF (pH hk hx hy h)
theorem dD {c:Prop} [Decidable c] {t e:StateT IE Pj β} (hc:c) (h:wpS (model prog w) A E s t Q st):wpS (model prog w) A E s (if c then t else e) Q st:=by rw [if_pos hc];exact h
theorem dB {c:Prop} [Decidable c] {t e:StateT IE Pj β} (hc:¬c) (h:wpS (model prog w) A E s e Q st):wpS (model prog w) A E s (if c then t else e) Q st:=by rw [if_neg hc];exact h
end
inductive Iv (xs ys:Array HJ) (n:Nat) {ρ:Type}:Option (Array HJ) × Array HJ × Nat × Nat × ρ->Prop
 | mk {out ia ib r} (j:J xs ys out ia ib) (h1:ia+1<xs.size) (h2:ib<ys.size) (h3:n<=ia+ib):Iv xs ys n (none,out,ia,ib,r)
inductive CG (xs ys:Array HJ) {ρ:Type}:Option (Array HJ) × ρ->Prop
 | mk {z r} (o:kC xs ys z):CG xs ys (GZ z,r)
structure Hid (T:Prop):Prop where
 un:T
theorem vH {T G:Prop} (m:Hid T->G) (t:T):G:=m ⟨t⟩
theorem GV {st:IE} {Q:Array HJ->IE->Prop} (hk:kindOf st=oneType') (nX:eO xs) (nY:eO ys) (px:0<xs.size) (py:0<ys.size) (sx:fR xs.toList) (sy:fR ys.toList)
  (f:R ys[0] xs[0]) (l:∀ y∈ys.toList,∀ x,xs.toList.getLast?=GZ x->R y x)
  (q:∀ z st',Sm st st'->kC xs ys z->Q z st'):wpS (model prog w) A E s (rm xs ys) Q st:=by
 have J0:J xs ys #[] 0 0:=⟨by simpa using sx,by simpa using sy,by simp⟩
 have J1:J xs ys #[ys[0]] 0 1:=by simpa using J0.oh py px f
 unfold rm;refine HF (Oe (Ll ⟨rfl,?_⟩));dsimp only;refine qz py ?_;by_cases e1:1=ys.size
 ·refine dD (by simpa using e1) ?_;exact Hv (q _ _ (Sm.refl _) (J1.done (.inl e1)))
 refine dB (by simpa using e1) ?_;by_cases e2:0+1=xs.size
 ·refine dD (by simpa using e2) ?_;exact Hv (q _ _ (Sm.refl _) (J1.last e2 l))
 refine dB (by simpa using e2) ?_;refine HF (wpS_get ?_);refine HF (KS (JA (I:=λx c st'=>Sm st st'/\Iv xs ys (x+1) c)
  (Q:=λc st'=>Sm st st'/\CG xs ys c) ?step ?fin ⟨Sm.refl _,.mk J1 (by lia) (by lia) (by lia)⟩) ?post)
 case post =>rintro c st' ⟨sm,⟨o⟩⟩;exact Hv (q _ st' sm o)
 case fin =>rintro c st' ⟨sm,⟨j,h1,h2,h3⟩⟩;lia
 case step =>
  rintro x c st' _ hx ⟨sm,@⟨out,ia,ib,mg,j,h1,h2,h3⟩⟩;dsimp only;have hk':kindOf st'=oneType':=sm.kind.trans hk;refine HF (KS (JA (I:=λy c st2=>st2=st'/\Iv xs ys (x+1+y) c)
   (Q:=λc st2=>st2=st'/\(Iv xs ys (x+2) c∨CG xs ys c))
   ?istep ?ifin ⟨rfl,.mk j h1 h2 (by lia)⟩) ?ipost)
  case ifin =>rintro c st2 ⟨rfl,⟨j,h1,h2,h3⟩⟩;lia
  case istep =>
   rintro y c st2 _ hy ⟨rfl,@⟨out,ia,ib,⟨ac,bc⟩,j,h1,h2,h3⟩⟩;dsimp only;refine qz h2 ?_;refine qz (by lia) ?_;refine Gk hk' (nY.at h2) (nX.at (by lia)) ?_;by_cases c:kk ys[ib]<kk xs[ia]
   ·rw [decide_eq_true c];dsimp only;refine dD rfl ?_;refine qz h2 ?_;have j':=j.oh h2 (by lia) (IT c);by_cases e:ib+1=ys.size
    ·refine dD (by simpa using e) ?_;exact Hv ⟨rfl,.inr ⟨j'.done (.inl e)⟩⟩
    ·refine dB (by simpa using e) ?_;split
     ·exact Hv ⟨rfl,.inl ⟨j',h1,by lia,by lia⟩⟩
     ·exact Hv ⟨rfl,⟨j',h1,by lia,by lia⟩⟩
   ·rw [decide_eq_false c];dsimp only;refine dB (by simp) ?_;refine qz (by lia) ?_;have j':=j.oa h2 (by lia) (show R _ _ from L5.mp c);by_cases e:ia+1+1=xs.size
    ·refine dD (by simpa using e) ?_;exact Hv ⟨rfl,.inr ⟨j'.last e l⟩⟩
    ·refine dB (by simpa using e) ?_;split
     ·exact Hv ⟨rfl,.inl ⟨j',by lia,h2,by lia⟩⟩
     ·exact Hv ⟨rfl,⟨j',by lia,h2,by lia⟩⟩
  case ipost =>
   rintro c st2 ⟨rfl,@⟨out,ia,ib,⟨ac,bc⟩,j,h1,h2,h3⟩ | @⟨z,r,o⟩⟩
   ·dsimp only;refine HF (Oe (Ll ⟨rfl,?_⟩));refine HF (KS (JA (I:=λy c st3=>Sm st2 st3/\Iv xs ys (x+2+y) c)
     (Q:=λc st3=>Sm st2 st3/\(Iv xs ys (x+2) c∨CG xs ys c))
     ?gstep ?gfin ⟨Sm.refl _,.mk j h1 h2 (by lia)⟩) ?gpost)
    case gfin =>rintro c st3 ⟨sm3,⟨j,h1,h2,h3⟩⟩;lia
    case gpost =>
     rintro c st3 ⟨sm3,@⟨out,ia,ib,⟨mg,ac,bc⟩,j,h1,h2,h3⟩ | @⟨z,r,o⟩⟩
     ·dsimp only;refine Aw λst4 sm4=>?_;exact Hv ⟨(sm.trans sm3).trans sm4,⟨j,h1,h2,by lia⟩⟩
     ·obtain⟨r1,r2,r3,r4,r5,r6⟩:=r;exact Hv ⟨sm.trans sm3,⟨o⟩⟩
    case gstep =>
     rintro y c st3 _ hy ⟨sm3,@⟨out,ia,ib,⟨mg,ac,bc⟩,j,h1,h2,h3⟩⟩;dsimp only
     refine' vH (λkey=>?main1) ?key1
     case main1 =>
      by_cases cg:mg > 1
      ·refine dD cg ?_;generalize mg-1=g;revert g;exact key.un
      ·refine dB cg ?_;exact key.un mg
     intro g;refine Aw λst4 sm4=>?_;have hk4:kindOf st4=oneType':=(sm3.trans sm4).kind.trans hk';have sm5:=sm3.trans sm4;clear sm3 sm4 hk' sm;refine qz h2 ?_;refine Av hk4 nX (nY.at h2) (by lia) (by lia) (sE (by lia) j.sX) λk hk1 hk2 hk3=>?_;dsimp only;have j1:J xs ys (out++xs.extract ia (ia+k)) (ia+k) ib:=j.zV h2 λi hi=>by have:=hk2 i hi;unfold jF at this;simpa using this
     have big:∀ i,ia+k<=i->i<xs.size->kk ys[ib]<K xs i:=λi g1 g2=>by have:=hk3 (i-ia) (by lia) (by lia);rw [show ia+(i-ia)=i by lia] at this;unfold jF at this;simpa using this
     clear hk2 hk3
     refine' vH (λkey=>?main2) ?key2
     case main2 =>
      by_cases ck:k > 0
      ·refine dD ck ?_;by_cases e5:ia+k+1=xs.size
       ·refine dD (by simpa using e5) ?_;exact Hv ⟨sm5,.inr ⟨j1.last e5 l⟩⟩
       refine dB (by simpa using e5) ?_;by_cases e6:ia+k=xs.size
       ·refine dD (by simpa using e6) ?_;exact Hv ⟨sm5,.inr ⟨j1.done (.inr e6)⟩⟩
       refine dB (by simpa using e6) ?_;have hA:ia+k+1<xs.size:=by lia
       have hB:=big (ia+k) (Hd _) (by lia);have hC:x+2+y<=ia+k+ib:=by lia
       have j2:=j1;revert j2 hA hB hC;generalize out++xs.extract ia (ia+k)=o;generalize ia+k=i;revert o i;exact key.un
      ·refine dB ck ?_;exact key.un _ _ h1 (big ia (by lia) (by lia)) h3 j
     clear j1 big j h1 h3 hk1;intro out ia hA hB h3 jA;have hI:ia<xs.size:=by lia
     rw [lh (by lia)] at hB;refine qz h2 ?_;have jB:=jA.oh h2 (by lia) (IT hB);by_cases e:ib+1=ys.size
     ·refine dD (by simpa using e) ?_;exact Hv ⟨sm5,.inr ⟨jB.done (.inl e)⟩⟩
     refine dB (by simpa using e) ?_;refine qz (by lia) ?_;refine Av hk4 nY (nX.at (by lia)) (by lia) (by lia) (sE (by lia) jB.sY) λk2 g1 g2 g3=>?_;dsimp only;have jC:=jB.zW (k:=k2) (by lia) (λi hi=>by have:=g2 i hi;unfold jF at this;simpa using this);clear g2;have g4:∀ i,k2<=i->i<ys.size-(ib+1)->kk xs[ia]<=K ys (ib+1+i):=λi z z'=>by have:=g3 i z z';unfold jF at this;simpa using this
     clear g3
     refine' vH (λkey=>?main3) ?key3
     case main3 =>
      by_cases c2:k2 > 0
      ·refine dD c2 ?_;by_cases e3:ib+1+k2=ys.size
       ·refine dD (by simpa using e3) ?_;exact Hv ⟨sm5,.inr ⟨jC.done (.inl e3)⟩⟩
       refine dB (by simpa using e3) ?_;have gA:ib+1+k2<ys.size:=by lia
       have gB:=g4 k2 (Hd _) (by lia);have gC:x+2+y+1<=ia+(ib+1+k2):=by lia
       have jE:=jC;revert jE gA gB gC;generalize out.push ys[ib]++ys.extract (ib+1) (ib+1+k2)=o;generalize ib+1+k2=i;revert o i;exact key.un
      ·refine dB c2 ?_;exact key.un _ _ (by lia) (g4 0 (by lia) (by lia)) (by lia) jB
     clear jC jB g4 g1;intro o i gA gB gC jC;refine qz (by lia) ?_;have jD:=jC.oa gA (by lia) (by rw [lh gA] at gB;exact gB);clear jC jA gB hB e h2 h3 nX nY;split
     ·rename_i e4;exact Hv ⟨sm5,.inr ⟨jD.last (by simpa using e4) l⟩⟩
     ·rename_i e4;have e4':¬ia+1+1=xs.size:=λz=>e4 (by simpa using z);split
      ·exact Hv ⟨sm5,.inl ⟨jD,by lia,by lia,by lia⟩⟩
      ·exact Hv ⟨sm5,⟨jD,by lia,by lia,by lia⟩⟩
   ·obtain⟨r1,r2,r3,r4,r5⟩:=r;exact Hv ⟨sm,⟨o⟩⟩
end
end Tim
namespace Tim
open PySem PyProof.Rows
section
variable {prog:Hq} {w:HU} {A:HX} {E:G2->G5->Prop} {s:G5} {xs ys:Array HJ}
def Jh (xs ys out:Array HJ) (na nb:Nat):Prop:=Mh out.reverse.toList (xs.toList.take na) (ys.toList.take nb) (xs.toList++ys.toList)
theorem le_last {zs:Array HJ} {i:Nat} (hi:i<zs.size) (h:fR (zs.toList.take (i+1))) {x:HJ} (hx:x∈zs.toList.take (i+1)):R x zs[i]:=by
 rw [fI hi] at h hx;rcases IC.mp hx with hx | hx
 ·exact (HG.mp h).2.2 x hx _ (Ho.mpr rfl)
 ·rw [Ho.mp hx];exact Je _
theorem Jh.sX {out:Array HJ} {na nb:Nat} (h:Jh xs ys out na nb):fR (xs.toList.take na):=(HG.mp h.sx).1
theorem Jh.sY {out:Array HJ} {na nb:Nat} (h:Jh xs ys out na nb):fR (ys.toList.take nb):=(HG.mp h.sy).1
theorem Jh.oa {out:Array HJ} {na nb:Nat} (h:Jh xs ys out (na+1) nb) (ha:na<xs.size) (c:∀ y∈ys.toList.take nb,R y xs[na]):Jh xs ys (out.push xs[na]) na nb:=by unfold Jh at *;rw [fI ha] at h;have:=h.left (X2:=[xs[na]]) (λy hy x hx=>by rw [Ho.mp hx];exact c y hy);simpa using this
theorem Jh.oh {out:Array HJ} {na nb:Nat} (h:Jh xs ys out na (nb+1)) (hb:nb<ys.size) (c:∀ x∈xs.toList.take na,R x ys[nb]):Jh xs ys (out.push ys[nb]) na nb:=by unfold Jh at *;rw [fI hb] at h;have:=h.right (Y2:=[ys[nb]]) (λy hy x hx=>by rw [Ho.mp hx];exact c y hy);simpa using this
theorem sI (zs:Array HJ) {a b:Nat} (h:a<=b):zs.toList.take b=zs.toList.take a++(zs.extract a b).toList:=by
 rw [ext_toList,<- Ru];have:zs.toList.take a=(zs.toList.take b).take a:=by rw [List.take_take,Nat.min_eq_left h]
 rw [this,HZ]
theorem Jh.zV {out:Array HJ} {na nb a:Nat} (h:Jh xs ys out na nb) (ha:a<=na) (c:∀ y∈ys.toList.take nb,∀ x∈(xs.extract a na).toList,R y x):Jh xs ys (out++(xs.extract a na).reverse) a nb:=by unfold Jh at *;rw [sI xs ha] at h;have:=h.left c;rw [Pc,ON,IX];exact this
theorem Jh.zW {out:Array HJ} {na nb b:Nat} (h:Jh xs ys out na nb) (hb:b<=nb) (c:∀ x∈xs.toList.take na,∀ y∈(ys.extract b nb).toList,R x y):Jh xs ys (out++(ys.extract b nb).reverse) na b:=by unfold Jh at *;rw [sI ys hb] at h;have:=h.right c;rw [Pc,ON,IX];exact this
theorem iV (zs:Array HJ) (a:Nat):(zs.extract 0 a).toList=zs.toList.take a:=by rw [ext_toList];simp
theorem Jh.done {out:Array HJ} {na nb:Nat} (h:Jh xs ys out na nb) (c:na=0∨nb=0):kC xs ys (xs.extract 0 na++ys.extract 0 nb++out.reverse):=by
 unfold Jh at h;unfold kC;rw [IX,IX,iV,iV];rcases c with rfl | rfl
 ·rw [NG] at h ⊢;exact h.AA
 ·rw [NG] at h ⊢;rw [Jj];exact h.xS
theorem Jh.first {out:Array HJ} {na nb:Nat} (h:Jh xs ys out na nb) (py:0<ys.size) (e:nb=1) (l:∀ x∈xs.toList,R ys[0] x):kC xs ys (ys.extract 0 nb++xs.extract 0 na++out.reverse):=by
 unfold Jh at h;unfold kC;rw [IX,IX,iV,iV];subst e;have h1:ys.toList.take 1=[ys[0]]:=by rw [show 1=0+1 from rfl,fI py];simp
 rw [h1] at h ⊢;exact h.EG λx hx=>l x (Iq hx)
theorem uN {zs:Array HJ} {a b:Nat} {x:HJ} (h:x∈(zs.extract a b).toList):∃ i,∃(hi:i<zs.size),a<=i/\i<b/\x=zs[i]:=by rw [ext_toList] at h;obtain⟨i,hi,h1,rfl⟩:=dh h;exact⟨a+i,hi,by lia,by lia,rfl⟩
inductive Iw (xs ys:Array HJ) (n:Nat) {ρ:Type}:Option (Array HJ) × Nat × Nat × Array HJ × ρ->Prop
 | mk {na nb out r} (j:Jh xs ys out na nb) (h1:0<na) (h2:na<=xs.size) (h3:1<nb) (h4:nb<=ys.size) (h5:na+nb+n<=xs.size+ys.size):Iw xs ys n (none,na,nb,out,r)
theorem GU {st:IE} {Q:Array HJ->IE->Prop} (hk:kindOf st=oneType') (nX:eO xs) (nY:eO ys) (px:0<xs.size) (py:0<ys.size) (sx:fR xs.toList) (sy:fR ys.toList)
  (f:∀ x∈xs.toList,R ys[0] x) (l:∀ y∈ys.toList,R y (xs[xs.size-1]'(by lia)))
  (q:∀ z st',Sm st st'->kC xs ys z->Q z st'):wpS (model prog w) A E s (rj xs ys) Q st:=by
 have J0:Jh xs ys #[] (xs.size-1+1) ys.size:=by
  refine⟨?_,?_,?_⟩
  ·rw [II (by simp;lia)];simpa using sx
  ·rw [II (by simp)];simpa using sy
  ·rw [II (by simp;lia),II (by simp)];simp
 have J1:Jh xs ys #[xs[xs.size-1]] (xs.size-1) ys.size:=by have:=J0.oa (by lia) (λy hy=>l y (Iq hy));simpa using this
 unfold rj;refine HF (Oe (Ll ⟨rfl,?_⟩));dsimp only;refine qz (by lia) ?_;by_cases e1:xs.size-1=0
 ·refine dD (by simpa using e1) ?_;exact Hv (q _ _ (Sm.refl _) (J1.done (.inl e1)))
 refine dB (by simpa using e1) ?_;by_cases e2:ys.size=1
 ·refine dD (by simpa using e2) ?_;exact Hv (q _ _ (Sm.refl _) (J1.first py e2 f))
 refine dB (by simpa using e2) ?_;refine HF (wpS_get ?_);refine HF (KS (JA (I:=λx c st'=>Sm st st'/\Iw xs ys (x+1) c)
  (Q:=λc st'=>Sm st st'/\CG xs ys c) ?step ?fin ⟨Sm.refl _,.mk J1 (by lia) (by lia) (by lia) (by lia) (by lia)⟩) ?post)
 case post =>rintro c st' ⟨sm,⟨o⟩⟩;exact Hv (q _ st' sm o)
 case fin =>rintro c st' ⟨sm,⟨j,h1,h2,h3,h4,h5⟩⟩;lia
 case step =>
  rintro x c st' _ hx ⟨sm,@⟨na,nb,out,mg,j,h1,h2,h3,h4,h5⟩⟩;dsimp only;have hk':kindOf st'=oneType':=sm.kind.trans hk;refine HF (KS (JA (I:=λy c st2=>st2=st'/\Iw xs ys (x+1+y) c)
   (Q:=λc st2=>st2=st'/\(Iw xs ys (x+2) c∨CG xs ys c))
   ?istep ?ifin ⟨rfl,.mk j h1 h2 h3 h4 (by lia)⟩) ?ipost)
  case ifin =>rintro c st2 ⟨rfl,⟨j,h1,h2,h3,h4,h5⟩⟩;lia
  case istep =>
   rintro y c st2 _ hy ⟨rfl,@⟨na,nb,out,⟨ac,bc⟩,j,h1,h2,h3,h4,h5⟩⟩;dsimp only;obtain⟨na,rfl⟩:∃ m,na=m+1:=⟨na-1,by lia⟩
   obtain⟨nb,rfl⟩:∃ m,nb=m+1:=⟨nb-1,by lia⟩
   refine qz (by lia) ?_;refine qz (by lia) ?_;simp only [L6];refine Gk hk' (nY.at (by lia)) (nX.at (by lia)) ?_;by_cases c:kk ys[nb]<kk xs[na]
   ·rw [decide_eq_true c];dsimp only;refine dD rfl ?_;refine qz (by lia) ?_;have j':=j.oa (by lia) λy hy=>IZ (le_last (by lia) j.sY hy) (IT c);by_cases e:na=0
    ·refine dD (by simpa using e) ?_;exact Hv ⟨rfl,.inr ⟨j'.done (.inl e)⟩⟩
    ·refine dB (by simpa using e) ?_;split
     ·exact Hv ⟨rfl,.inl ⟨j',by lia,by lia,by lia,by lia,by lia⟩⟩
     ·exact Hv ⟨rfl,⟨j',by lia,by lia,by lia,by lia,by lia⟩⟩
   ·rw [decide_eq_false c];dsimp only;refine dB (by simp) ?_;refine qz (by lia) ?_;have j':=j.oh (by lia) λy hy=>IZ (le_last (by lia) j.sX hy) (L5.mp c);by_cases e:nb=1
    ·refine dD (by simpa using e) ?_;exact Hv ⟨rfl,.inr ⟨j'.first py e f⟩⟩
    ·refine dB (by simpa using e) ?_;split
     ·exact Hv ⟨rfl,.inl ⟨j',by lia,by lia,by lia,by lia,by lia⟩⟩
     ·exact Hv ⟨rfl,⟨j',by lia,by lia,by lia,by lia,by lia⟩⟩
  case ipost =>
   rintro c st2 ⟨rfl,@⟨na,nb,out,⟨ac,bc⟩,j,h1,h2,h3,h4,h5⟩ | @⟨z,r,o⟩⟩
   ·dsimp only;refine HF (Oe (Ll ⟨rfl,?_⟩));refine HF (KS (JA (I:=λy c st3=>Sm st2 st3/\Iw xs ys (x+2+y) c)
     (Q:=λc st3=>Sm st2 st3/\(Iw xs ys (x+2) c∨CG xs ys c))
     ?gstep ?gfin ⟨Sm.refl _,.mk j h1 h2 h3 h4 (by lia)⟩) ?gpost)
    case gfin =>rintro c st3 ⟨sm3,⟨j,h1,h2,h3,h4,h5⟩⟩;lia
    case gpost =>
     rintro c st3 ⟨sm3,@⟨na,nb,out,⟨mg,ac,bc⟩,j,h1,h2,h3,h4,h5⟩ | @⟨z,r,o⟩⟩
     ·dsimp only;refine Aw λst4 sm4=>?_;exact Hv ⟨(sm.trans sm3).trans sm4,⟨j,h1,h2,h3,h4,by lia⟩⟩
     ·obtain⟨r1,r2,r3,r4,r5,r6⟩:=r;exact Hv ⟨sm.trans sm3,⟨o⟩⟩
    case gstep =>
     rintro y c st3 _ hy ⟨sm3,@⟨na,nb,out,⟨mg,ac,bc⟩,j,h1,h2,h3,h4,h5⟩⟩;obtain⟨nb,rfl⟩:∃ m,nb=m+1:=⟨nb-1,by lia⟩
     dsimp only
     refine' vH (λkey=>?main1) ?key1
     case main1 =>
      by_cases cg:mg > 1
      ·refine dD cg ?_;generalize mg-1=g;revert g;exact key.un
      ·refine dB cg ?_;exact key.un mg
     intro g;refine Aw λst4 sm4=>?_;have hk4:kindOf st4=oneType':=(sm3.trans sm4).kind.trans hk';have sm5:=sm3.trans sm4;clear sm3 sm4 hk' sm;simp only [L6];have hI:nb<ys.size:=by lia
     refine qz hI ?_;refine Av hk4 nX (nY.at hI) (by lia) (by lia) (sF (by lia) j.sX) λat_ g1 g2 g3=>?_;dsimp only;have low:∀ x∈xs.toList.take at_,R x ys[nb]:=λx hx=>by obtain⟨i,hi,h,rfl⟩:=nO hx;have:=g2 i h;unfold jF at this;rw [Lq,lh hi] at this;unfold R;simpa using this
     have j1:Jh xs ys (out++(xs.extract at_ na).reverse) at_ (nb+1):=j.zV g1 λy hy x hx=>by
      obtain⟨i,hi,h,h',rfl⟩:=uN hx;have:=g3 i h h';unfold jF at this;rw [Lq,lh hi] at this;have h6:kk ys[nb]<kk xs[i]:=by simpa using this
      exact IZ (le_last hI j.sY hy) (IT h6)
     clear g2 g3
     refine' vH (λkey=>?main2) ?key2
     case main2 =>
      by_cases ck:na-at_ > 0
      ·refine dD ck ?_;by_cases e5:at_=0
       ·refine dD (by simpa using e5) ?_;exact Hv ⟨sm5,.inr ⟨j1.done (.inl e5)⟩⟩
       refine dB (by simpa using e5) ?_;have pA:0<at_:=by lia
       have pB:at_<=xs.size:=by lia
       have pC:at_+(nb+1)+(x+2+y)<=xs.size+ys.size:=by lia
       have j2:=j1;have low2:=low;revert pA pB pC j2 low2;generalize out++(xs.extract at_ na).reverse=o;generalize na-at_=d;revert o d;exact key.un
      ·refine dB ck ?_;obtain rfl:at_=na:=by lia
       exact key.un _ _ h1 h2 h5 j low
     clear j1 j low;intro o d pA pB pC jA low;obtain⟨m,rfl⟩:∃ m,at_=m+1:=⟨at_-1,by lia⟩
     have hM:m<xs.size:=by lia
     refine qz hI ?_;have jB:=jA.oh hI low;clear jA low;by_cases e:nb=1
     ·refine dD (by simpa using e) ?_;exact Hv ⟨sm5,.inr ⟨jB.first py e f⟩⟩
     refine dB (by simpa using e) ?_;simp only [L6];refine qz hM ?_;refine Av hk4 nY (nX.at hM) (by lia) (by lia) (sF (by lia) jB.sY) λb2 f1 f2 f3=>?_;dsimp only;have low2:∀ y∈ys.toList.take b2,R y xs[m]:=λy hy=>by
      obtain⟨i,hi,h,rfl⟩:=nO hy;have:=f2 i h;unfold jF at this;rw [Lq,lh hi] at this;unfold R;have:kk ys[i]<kk xs[m]:=by simpa using this
      lia
     have jC:=jB.zW f1 λx hx y hy=>by
      obtain⟨i,hi,h,h',rfl⟩:=uN hy;have:=f3 i h h';unfold jF at this;rw [Lq,lh hi] at this;have h6:kk xs[m]<=kk ys[i]:=by simpa using this
      exact IZ (le_last hM jB.sX hx) h6
     clear f2 f3
     refine' vH (λkey=>?main3) ?key3
     case main3 =>
      by_cases c2:nb-b2 > 0
      ·refine dD c2 ?_;by_cases e3:b2=1
       ·refine dD (by simpa using e3) ?_;exact Hv ⟨sm5,.inr ⟨jC.first py e3 f⟩⟩
       refine dB (by simpa using e3) ?_;by_cases e4:b2=0
       ·refine dD (by simpa using e4) ?_;exact Hv ⟨sm5,.inr ⟨jC.done (.inr e4)⟩⟩
       refine dB (by simpa using e4) ?_;have pD:1<b2:=by lia
       have jE:=jC;have low3:=low2;revert pD jE low3;generalize o.push ys[nb]++(ys.extract b2 nb).reverse=o2;generalize nb-b2=d2;revert o2 d2;exact key.un
      ·refine dB c2 ?_;obtain rfl:b2=nb:=by lia
       exact key.un _ _ (by lia) jB low2
     clear jC jB low2;intro o2 d2 pD jC low2;refine qz hM ?_;have jD:=jC.oa hM low2;clear jC low2 e nX nY;by_cases e8:m=0
     ·refine dD (by simpa using e8) ?_;exact Hv ⟨sm5,.inr ⟨jD.done (.inl e8)⟩⟩
     refine dB (by simpa using e8) ?_;split
     ·exact Hv ⟨sm5,.inl ⟨jD,by lia,by lia,by lia,by lia,by lia⟩⟩
     ·exact Hv ⟨sm5,⟨jD,by lia,by lia,by lia,by lia,by lia⟩⟩
   ·obtain⟨r1,r2,r3,r4,r5⟩:=r;exact Hv ⟨sm,⟨o⟩⟩
end
end Tim
namespace Tim
open PySem PyProof.Rows
theorem zo:∀(z U V W:List HJ) (n o:Nat) (a:Array HJ),a.toList=U++(V++W)->U.length=o+n->V.length=z.length ->
  ((z.zipIdx n).foldl (λa (x:HJ × Nat)=>match x with | (p,j)=>a.setIfInBounds (o+j) p) a).toList=U++(z++W)
 | [],U,V,W,n,o,a,h,e,l=>by rw [LX,Md] at l;subst l;simpa using h
 | x::z,U,[],W,n,o,a,h,e,l=>by simp at l
 | x::z,U,v::V,W,n,o,a,h,e,l=>by
  rw [List.zipIdx_cons,List.foldl_cons];have h':(a.setIfInBounds (o+n) x).toList=(U++[x])++(V++W):=by rw [NH,h,<- e,OO _ _ (Hd _),K6];simp
  have:=zo z (U++[x]) V W (n+1) o _ h' (by simp;lia) (by simpa using l);simpa using this
theorem at_of {a:Array HJ} {U V W:List HJ} (h:a.toList=U++(V++W)) {i:Nat} (hi:i<V.length):∃(g:U.length+i<a.size),a[U.length+i]=V[i]:=by
 have hl:a.size=U.length+(V.length+W.length):=by rw [<- HV,h];simp
 refine⟨by lia,?_⟩;have:a.toList[U.length+i]?=GZ V[i]:=by rw [h,IG (by lia),Nat.add_sub_cancel_left,IW hi,Hf hi]
 have g:U.length+i<a.size:=by lia
 rw [ID,Jf g] at this;exact Ja this
theorem CP {a:Array HJ} {U V W:List HJ} (h:a.toList=U++(V++W)) {i:Nat} (hi:i<V.length):K a (U.length+i)=kk V[i]:=by obtain⟨g,e⟩:=at_of h hi;rw [lh g,e]
theorem CB {a:Array HJ} {U V W:List HJ} (h:a.toList=U++(V++W)) (s:fR V):Up a U.length (U.length+V.length):=by
 have hl:a.size=U.length+(V.length+W.length):=by rw [<- HV,h];simp
 refine gY (by lia) ?_;rw [h,Rv,Rw];exact s
theorem uJ {a:Array HJ} {U V W:List HJ} (h:a.toList=U++(V++W)) {k m:Nat} (hm:m<=V.length):(a.extract (U.length+k) (U.length+m)).toList=(V.take m).drop k:=by rw [ext_toList,h,<- Pb,Rv,show U.length+m-(U.length+k)=m-k by lia,<- Ru,List.take_append_of_le_length hm]
section
variable {prog:Hq} {w:HU} {A:HX} {E:G2->G5->Prop} {s:G5}
theorem z7 {st st1:IE} {Q:PUnit->IE->Prop} (h:Q ⟨⟩ st1):wpS (model prog w) A E s (set st1:StateT IE Pj PUnit) Q st:=by unfold wpS;rw [StateT.run_set];exact G8 ⟨rfl,h⟩
theorem GS {st:IE} {i:Nat} {p1 p2:List (Nat × Nat × Nat)} {P X Y S:List HJ} {pw pw':Nat} {Q:Bool->IE->Prop} (hk:kindOf st=oneType') (hn:eO (arrOf st)) (hf:failedOf st=none)
  (hp:(pendingOf st).toList=p1++(P.length,X.length,pw)::(P.length+X.length,Y.length,pw')::p2) (hi:p1.length=i)
  (ha:(arrOf st).toList=P++(X++(Y++S))) (sX:fR X) (sY:fR Y) (nX:0<X.length) (nY:0<Y.length)
  (q:∀ st' C,kindOf st'=oneType'->failedOf st'=none->(pendingOf st').toList=p1++(P.length,X.length+Y.length,pw)::p2->(arrOf st').toList=P++(C++S)->fR C->C.Perm (X++Y)->Q true st') :
  wpS (model prog w) A E s (mergeAt' i) Q st:=by
 have hb:(arrOf st).toList=(P++X)++(Y++S):=by rw [ha];simp
 have lb:(P++X).length=P.length+X.length:=by simp
 have hsz:(arrOf st).size=P.length+X.length+Y.length+S.length:=by rw [<- HV,ha];simp;lia
 have i0:(pendingOf st)[i]?=GZ (P.length,X.length,pw):=by rw [<- ID,hp,IG (by lia)];simp [hi]
 have i1:(pendingOf st)[i+1]?=GZ (P.length+X.length,Y.length,pw'):=by rw [<- ID,hp,IG (by lia)];simp [hi,show i+1-i=1 by lia]
 have pd:(((pendingOf st).setIfInBounds i (P.length,X.length+Y.length,pw)).eraseIdxIfInBounds (i+1)).toList=p1++(P.length,X.length+Y.length,pw)::p2:=by
  rw [Array.toList_eraseIdxIfInBounds,NH,hp,<- hi,OO _ _ (Hd _),K6,List.set_cons_zero,
   List.eraseIdx_append_of_length_le (by lia),show p1.length+1-p1.length=1 by lia]
  rfl
 obtain⟨gy,ey⟩:=at_of hb (i:=0) nY;simp only [lb,Sn] at gy ey;have kY:∀{j:Nat} (h:j<Y.length),K (arrOf st) (P.length+X.length+j)=kk Y[j]:=λh=>by have:=CP hb h;rwa [lb] at this
 unfold mergeAt';refine HF (wpS_get ?_);rw [i0,i1];dsimp only;refine HF (z7 ?_);refine HF (el gy ?_);refine HF (FR (by exact hk) hn (hn.at gy) (show P.length+X.length<=(arrOf st).size by lia) nX (CB ha sX) λk k1 k2 k3=>?_);dsimp only;simp only [jF,Jm,if_false] at k2 k3;have hd:∀{y:HJ},y∈Y->kk Y[0]<=kk y:=λ{y} hy=>by
  obtain⟨j,hj,rfl⟩:=Ke hy;by_cases e:j=0
  ·subst e;exact Je _
  ·exact JN.mp sY 0 j nY hj (by lia)
 have ls:∀{x:HJ},x∈X->kk x<=kk X[X.length-1]:=λ{x} hx=>by
  obtain⟨j,hj,rfl⟩:=Ke hx;by_cases e:j=X.length-1
  ·subst e;exact Je _
  ·exact JN.mp sX j (X.length-1) hj (by lia) (by lia)
 have f1:∀ x∈X.take k,∀ y∈Y,R x y:=λx hx y hy=>by obtain⟨j,hj,rfl⟩:=Ke hx;rw [HB] at hj;have:=k2 j (by lia);rw [CP ha (by lia),ey] at this;rw [LB];exact IZ this (hd hy)
 have f2:∀ x∈X.drop k,kk Y[0]<kk x:=λx hx=>by obtain⟨j,hj,rfl⟩:=Ke hx;rw [JU] at hj;have:=k3 (k+j) (by lia) (by lia);rw [CP ha (by lia),ey] at this;rw [LC];lia
 by_cases e1:X.length-k=0
 ·rw [if_pos (by simpa using e1)];refine Hv (q _ (X++Y) hk hf pd (by simpa using ha) ?_ (Rx _));rw [show X=X.take k by rw [II (by lia)]];exact HG.mpr ⟨by rw [II (by lia)];exact sX,sY,f1⟩
 rw [if_neg (by simpa using e1)];obtain⟨gx,ex⟩:=at_of ha (i:=X.length-1) (by lia);have gx':P.length+k+(X.length-k)-1=P.length+(X.length-1):=by lia
 rw [gx'];refine HF (el gx ?_);refine HF (FR (by exact hk) hn (hn.at gx) (show P.length+X.length+Y.length<=(arrOf st).size by lia) (by lia) (by have:=CB hb sY;rwa [lb] at this) λm m1 m2 m3=>?_);dsimp only;simp only [jF,if_true,ex] at m2 m3;have g1:∀ y∈Y.take m,kk y<kk X[X.length-1]:=λy hy=>by obtain⟨j,hj,rfl⟩:=Ke hy;rw [HB] at hj;have:=m2 j (by lia);rw [kY (by lia)] at this;rw [LB];exact this
 have g2:∀ y∈Y.drop m,∀ x∈X,R x y:=λy hy x hx=>by obtain⟨j,hj,rfl⟩:=Ke hy;rw [JU] at hj;have:=m3 (m+j) (by lia) (by lia);rw [kY (by lia)] at this;rw [LC];exact IZ (ls hx) (L5.mp this)
 by_cases e2:m=0
 ·rw [if_pos (by simpa using e2)];refine Hv (q _ (X++Y) hk hf pd (by simpa using ha) ?_ (Rx _));exact HG.mpr ⟨sX,sY,λx hx y hy=>g2 y (by rw [e2];exact hy) x hx⟩
 rw [if_neg (by simpa using e2)];have xl:((arrOf st).extract (P.length+k) (P.length+X.length)).toList=X.drop k:=by rw [uJ ha (Hd _),HY]
 have yl:((arrOf st).extract (P.length+X.length) (P.length+X.length+m)).toList=Y.take m:=by have:=uJ hb (k:=0) (m:=m) (by lia);rw [lb] at this;simpa using this
 have sx:fR (X.drop k):=sX.sublist (NX ..);have sy:fR (Y.take m):=sY.sublist (Ml ..);have mem:∀{l:List HJ} {z:Array HJ},z.toList=l->(∀ x∈l,wW x)->eO z:=λe h=>by intro p hp';rw [e] at hp';exact h p hp'
 have aX:∀ x∈X.drop k,wW x:=λx hx=>hn x (by rw [ha];exact Hm _ (JT _ (Jy hx)));have aY:∀ x∈Y.take m,wW x:=λx hx=>hn x (by rw [hb];exact Hm _ (JT _ (Iq hx)));generalize hxs:(arrOf st).extract (P.length+k) (P.length+X.length)=xs at xl;generalize hys:(arrOf st).extract (P.length+X.length) (P.length+X.length+m)=ys at yl;have zx:xs.size=X.length-k:=by rw [<- HV,xl];simp
 have zy:ys.size=m:=by rw [<- HV,yl];simp;lia
 have vX:=mem xl aX;have vY:=mem yl aY;have y0:ys[0]'(by lia)=Y[0]:=by
  have:ys.toList[0]?=GZ Y[0]:=by rw [yl,Kq (by lia)];simp [nY]
  rw [ID,Jf (by lia)] at this;exact Ja this
 have ff:∀ x∈xs.toList,R (ys[0]'(by lia)) x:=λx hx=>by rw [y0];rw [xl] at hx;exact IT (f2 x hx)
 have xlast:xs[xs.size-1]'(by lia)=X[X.length-1]:=by
  have:xs.toList[xs.size-1]?=GZ X[X.length-1]:=by rw [xl,List.getElem?_drop,Hf (by lia)];congr 2;lia
  rw [ID,Jf (by lia)] at this;exact Ja this
 have ll:∀ y∈ys.toList,R y (xs[xs.size-1]'(by lia)):=λy hy=>by rw [xlast];rw [yl] at hy;exact IT (g1 y hy)
 have fin:∀ z st',Sm (SortSt.mk' (kindOf st) (arrOf st) (((pendingOf st).setIfInBounds i (P.length,X.length+Y.length,pw)).eraseIdxIfInBounds (i+1)) (gallopOf st) (failedOf st)) st'->kC xs ys z ->
   wpS (model prog w) A E s (do
    modify λt=>setArr t (z.toList.zipIdx.foldl (λa (x:HJ × Nat)=>match x with | (p,j)=>a.setIfInBounds (P.length+k+j) p) (arrOf t))
    let t <- get
    pure (failedOf t).isNone) Q st':=λz st' sm o=>by
  refine HF (NF (HF (wpS_get ?_)));have hz:z.toList.Perm (X.drop k++Y.take m):=by have:=o.2;rwa [xl,yl] at this
  have hzl:(X.drop k++Y.take m).length=z.toList.length:=hz.length_eq.symm;have ha':(arrOf st').toList=(P++X.take k)++((X.drop k++Y.take m)++(Y.drop m++S)):=by rw [sm.arr];show (arrOf st).toList=_;rw [ha];simp only [Iy];rw [<- Iy (X.take k),HZ,<- Iy (Y.take m),HZ]
  have key:=zo z.toList (P++X.take k) (X.drop k++Y.take m) (Y.drop m++S) 0 (P.length+k) (arrOf st') ha' (by simp;lia) hzl;have fl:failedOf st'=none:=sm.failed.trans hf;show wpS _ _ _ _ (pure (failedOf st').isNone) Q _;rw [fl];refine Hv (q _ (X.take k++(z.toList++Y.drop m)) (sm.kind.trans hk) fl ((congrArg P7 sm.pend).trans pd) ?_ ?_ ?_)
  ·refine key.trans ?_;simp only [Iy]
  ·have mz:∀{c},c∈z.toList->c∈X.drop k∨c∈Y.take m:=λh=>IC.mp (hz.mem_iff.mp h);refine HG.mpr ⟨sX.sublist (Ml ..),HG.mpr ⟨o.1,sY.sublist (NX ..),λc hc y hy=>?_⟩,λx hx c hc=>?_⟩
   ·rcases mz hc with h | h
    ·exact g2 y hy c (Jy h)
    ·have:=HG.mp (show fR (Y.take m++Y.drop m) by rw [HZ];exact sY);exact this.2.2 c h y hy
   ·rcases IC.mp hc with hc | hc
    ·rcases mz hc with h | h
     ·have:=HG.mp (show fR (X.take k++X.drop k) by rw [HZ];exact sX);exact this.2.2 x hx c h
     ·exact f1 x hx c (Iq h)
    ·exact f1 x hx c (Jy hc)
  ·refine ((hz.append_right (Y.drop m)).append_left (X.take k)).trans ?_;rw [Iy,HZ,<- Iy,HZ]
 split
 ·refine HF (GV (by exact hk) vX vY (by lia) (by lia) (by rw [xl];exact sx) (by rw [yl];exact sy) (ff _ (by simp)) (λy hy x hx=>?_) λz st' sm o=>fin z st' sm o);have:x=xs[xs.size-1]'(by lia):=by rw [NJ,HV,ID,Jf (by lia)] at hx;exact (Ja hx).symm
  rw [this];exact ll y hy
 ·exact HF (GU (by exact hk) vX vY (by lia) (by lia) (by rw [xl];exact sx) (by rw [yl];exact sy) ff ll λz st' sm o=>fin z st' sm o)
end
end Tim
namespace Tim
open PySem PyProof.Rows
def Dn (xs:Array HJ) (lo hi:Nat):Prop:=∀ i j,lo<=i->i<=j->j<hi->K xs j<=K xs i
structure Fr (lo:Nat) (st st':IE):Prop where
 kind:kindOf st'=kindOf st
 failed:failedOf st'=failedOf st
 pend:pendingOf st'=pendingOf st
 perm:(arrOf st').Perm (arrOf st)
 low:∀ i,i<lo->(arrOf st')[i]?=(arrOf st)[i]?
theorem Fr.refl (lo:Nat) (st:IE):Fr lo st st:=⟨rfl,rfl,rfl,Array.Perm.refl _,λ_ _=>rfl⟩
theorem Fr.trans {lo:Nat} {a b c:IE} (h:Fr lo a b) (g:Fr lo b c):Fr lo a c :=
 ⟨g.kind.trans h.kind,g.failed.trans h.failed,g.pend.trans h.pend,g.perm.trans h.perm,λi hi=>(g.low i hi).trans (h.low i hi)⟩
theorem Fr.size {lo:Nat} {st st':IE} (h:Fr lo st st'):(arrOf st').size=(arrOf st).size:=h.perm.size_eq
theorem Fr.oO {lo:Nat} {st st':IE} (h:Fr lo st st') (n:eO (arrOf st)):eO (arrOf st'):=λp hp=>n p ((KU.mp h.perm).mem_iff.mp hp)
theorem Fr.Ea {lo i j:Nat} {st:IE} (hi:lo<=i) (hj:j<=(arrOf st).size):Fr lo st (setArr st (mirror (arrOf st) i j ((j-i)/2))) :=
 ⟨rfl,rfl,rfl,mirror_perm _ _ _ _,λk hk=>by
  show (mirror (arrOf st) i j ((j-i)/2))[k]?=_;rw [getElem?_mirror_all hj,if_neg (by lia)]⟩
theorem tM {xs:Array HJ} {i j:Nat} (hj:j<=xs.size) (e:∀ k,i<=k->k<j->K xs k=K xs (j-1)) (k:Nat):K (mirror xs i j ((j-i)/2)) k=K xs k:=by
 rw [SY hj];split
 ·rw [e _ (by lia) (by lia),e k (by lia) (by lia)]
 ·rfl
theorem Up.next {xs:Array HJ} {lo x:Nat} (h:Up xs lo (lo+x)) (hx:1<=x) (c:¬K xs (lo+x)<K xs (lo+x-1)):Up xs lo (lo+(x+1)):=by
 intro i j h1 h2 h3;by_cases e:j<lo+x
 ·exact h i j h1 h2 e
 ·obtain rfl:j=lo+x:=by lia
  by_cases e':i=lo+x
  ·rw [e'];exact Je _
  ·exact IZ (h i (lo+x-1) h1 (by lia) (by lia)) (L5.mp c)
theorem Dn.next {xs:Array HJ} {lo x:Nat} (h:Dn xs lo (lo+x)) (hx:1<=x) (c:K xs (lo+x)<=K xs (lo+x-1)):Dn xs lo (lo+(x+1)):=by
 intro i j h1 h2 h3;by_cases e:j<lo+x
 ·exact h i j h1 h2 e
 ·obtain rfl:j=lo+x:=by lia
  by_cases e':i=lo+x
  ·rw [e'];exact Je _
  ·exact IZ c (h i (lo+x-1) h1 (by lia) (by lia))
theorem Dn.Ea {xs:Array HJ} {lo hi:Nat} (d:Dn xs lo hi) (h:hi<=xs.size):Up (mirror xs lo hi ((hi-lo)/2)) lo hi:=λi j a b c=>by rw [SY h,SY h,if_pos (by lia),if_pos (by lia)];exact d _ _ (by lia) (by lia) (by lia)
section
variable {prog:Hq} {w:HU} {A:HX} {E:G2->G5->Prop} {s:G5}
theorem nN {st:IE} {i j:Nat} {Q:Option Bool->IE->Prop} (hk:kindOf st=oneType') (hn:eO (arrOf st)) (hi:i<(arrOf st).size) (hj:j<(arrOf st).size)
  (h1:K (arrOf st) i<K (arrOf st) j->Q (GZ true) st) (h2:¬K (arrOf st) i<K (arrOf st) j->Q (GZ false) st):wpS (model prog w) A E s (ltAt' i j) Q st:=by
 rw [ltAt'_eq];refine HF (wpS_get ?_);refine HF (el hi (HF (el hj (pH hk (hn.at hi) (hn.at hj) ?_))));rw [<- lh hi,<- lh hj];by_cases c:K (arrOf st) i<K (arrOf st) j
 ·rw [decide_eq_true c];exact h1 c
 ·rw [decide_eq_false c];exact h2 c
theorem asc {st:IE} {lo nrem a:Nat} {f:Nat->Option (Option Nat) × Nat->StateT IE Pj (ForInStep (Option (Option Nat) × Nat))} {Q:Option (Option Nat) × Nat->IE->Prop}
  (hf:∀ x n Q',1<=n->n<nrem->(K (arrOf st) (lo+n)<K (arrOf st) (lo+n-1)->Q' (Rr (none,n)) st)->(¬K (arrOf st) (lo+n)<K (arrOf st) (lo+n-1)->Q' (JI (none,n+1)) st)->wpS (model prog w) A E s (f x (none,n)) Q' st)
  (ha:1<=a) (han:a<=nrem) (up:Up (arrOf st) lo (lo+a))
  (q:∀ n,a<=n->n<=nrem->Up (arrOf st) lo (lo+n)->(n=nrem∨K (arrOf st) (lo+n)<K (arrOf st) (lo+n-1))->Q (none,n) st):wpS (model prog w) A E s (forIn [a:nrem] (none,a) f) Q st:=by
 refine JA (I:=λx c st'=>st'=st/\c=(none,x)/\Up (arrOf st) lo (lo+x)) ?step ?fin ⟨rfl,rfl,up⟩
 case fin =>rintro c st' ⟨rfl,rfl,u⟩;rw [show max a nrem=nrem by lia] at u ⊢;exact q nrem han (Hd _) u (.inl rfl)
 case step =>rintro x c st' h1 h2 ⟨rfl,rfl,u⟩;exact hf x x _ (by lia) h2 (λc=>q x h1 (by lia) u (.inr c)) λc=>⟨rfl,rfl,u.next (by lia) c⟩
theorem cnt {st:IE} {lo nrem:Nat} {Q:Option Nat->IE->Prop} (hk:kindOf st=oneType') (hn:eO (arrOf st)) (h1:1<=nrem) (hz:lo+nrem<=(arrOf st).size)
  (q:∀ m st',Fr lo st st'->1<=m->m<=nrem->Up (arrOf st') lo (lo+m)->Q (GZ m) st'):wpS (model prog w) A E s (countRun' lo nrem) Q st:=by
 unfold countRun';refine HF (asc (lo:=lo) ?_ (Hd 1) h1 (λi j a b c=>by rw [show i=j by lia];exact Je _) λn n1 n2 u o=>?_)
 ·intro x n Q' a b q1 q2;dsimp only;exact HF (nN hk hn (by lia) (by lia) (λc=>Hv (q1 c)) λc=>Hv (q2 c))
 dsimp only;by_cases e1:n=nrem
 ·rw [if_pos (by simpa using e1)];exact Hv (q n st (Fr.refl _ _) n1 n2 u)
 rw [if_neg (by simpa using e1)];have lt:=o.resolve_left e1;by_cases e2:n > 1
 case' pos =>
  rw [if_pos e2];refine HF (nN hk hn (by lia) (by lia) (λc=>Hv (q n st (Fr.refl _ _) n1 n2 u)) λc=>?_);dsimp only;rw [if_neg (by simp)];have all:∀ k,lo<=k->k<lo+n->K (arrOf st) k=K (arrOf st) (lo+n-1):=λk a b=>by have:=u lo k (Hd _) a b;have:=u k (lo+n-1) a (by lia) (by lia);lia
  refine HF (Pe ?_);have km:=tM (xs:=arrOf st) (i:=lo) (j:=lo+n) (by lia) all;obtain⟨st1,hst1,fr,d⟩:∃ st1,setArr st (mirror (arrOf st) lo (lo+n) ((lo+n-lo)/2))=st1/\Fr lo st st1/\Dn (arrOf st1) lo (lo+(n+1)):=by
   refine⟨_,rfl,Fr.Ea (Hd _) (by lia),Dn.next (λi j a b c=>?_) n1 ?_⟩
   ·show K (mirror _ _ _ _) j<=K (mirror _ _ _ _) i;rw [km,km,all i a (by lia),all j (by lia) c];exact Je _
   ·show K (mirror _ _ _ _) _<=K (mirror _ _ _ _) _;rw [km,km];exact IT lt
  rw [hst1]
 case' neg =>
  rw [if_neg e2];obtain rfl:n=1:=by lia
  obtain⟨fr,d⟩:Fr lo st st/\Dn (arrOf st) lo (lo+(1+1)):=by refine⟨Fr.refl _ _,Dn.next (λi j a b c=>?_) (Hd _) (IT lt)⟩;rw [show i=j by lia];exact Je _
 all_goals
  refine HF (Oe (Ll ⟨rfl,?_⟩));refine HF (KS (JA (I:=λx c st2=>∃ neq,c=(none,x,neq)/\Fr lo st st2/\Dn (arrOf st2) lo (lo+x)/\neq+1<=x/\(∀ i,lo+x-(neq+1)<=i->i<lo+x->K (arrOf st2) i=K (arrOf st2) (lo+x-1)))
   (Q:=λc st2=>∃ x neq,c=(none,x,neq)/\Fr lo st st2/\Dn (arrOf st2) lo (lo+x)/\1<=x/\x<=nrem/\neq+1<=x/\(∀ i,lo+x-(neq+1)<=i->i<lo+x->K (arrOf st2) i=K (arrOf st2) (lo+x-1)))
   ?step ?fin ⟨0,rfl,fr,d,by lia,λi a b=>by congr 1;lia⟩) ?post)
  case fin =>rintro c st2 ⟨neq,rfl,f2,d2,l2,e⟩;rw [Of (by lia)] at d2 l2 e ⊢;exact⟨_,neq,rfl,f2,d2,h1,Hd _,l2,e⟩
  case step =>
   rintro x c st2 x1 x2 ⟨neq,rfl,f2,d2,l2,e⟩;dsimp only;have z2:=f2.size;have k2:=f2.kind.trans hk;refine HF (nN k2 (f2.oO hn) (by lia) (by lia) (λc=>?_) λc=>?_)
   ·dsimp only;rw [if_pos rfl];by_cases g:neq > 0
    ·rw [if_pos g];have km:=tM (xs:=arrOf st2) (i:=lo+x-(neq+1)) (j:=lo+x) (by lia) e;refine HF (Pe (Hv ⟨0,rfl,f2.trans (Fr.Ea (by lia) (by lia)),Dn.next (λi j a b c=>?_) (by lia) ?_,by lia,λi a b=>by congr 1;lia⟩))
     ·show K (mirror _ _ _ _) j<=K (mirror _ _ _ _) i;rw [km,km];exact d2 i j a b c
     ·show K (mirror _ _ _ _) _<=K (mirror _ _ _ _) _;rw [km,km];exact IT c
    ·rw [if_neg g];exact Hv ⟨0,rfl,f2,d2.next (by lia) (IT c),by lia,λi a b=>by congr 1;lia⟩
   ·dsimp only;rw [if_neg (by simp)];refine HF (nN k2 (f2.oO hn) (by lia) (by lia) (λc'=>?_) λc'=>?_)
    ·exact Hv ⟨x,neq,rfl,f2,d2,by lia,by lia,l2,e⟩
    ·have eq:K (arrOf st2) (lo+x)=K (arrOf st2) (lo+x-1):=by lia
     refine Hv ⟨neq+1,rfl,f2,d2.next (by lia) (by lia),by lia,λi a b=>?_⟩;rw [show lo+(x+1)-1=lo+x by lia];by_cases g:i=lo+x
     ·rw [g]
     ·rw [eq];exact e i (by lia) (by lia)
  case post =>
   rintro c st2 ⟨x,neq,rfl,f2,d2,x1,x2,l2,e⟩;dsimp only;have z2:=f2.size;by_cases g:neq > 0
   case' pos =>
    rw [if_pos g];have km:=tM (xs:=arrOf st2) (i:=lo+x-(neq+1)) (j:=lo+x) (by lia) e;refine HF (Pe ?_);obtain⟨st3,hst3,f3,d3⟩:∃ st3,setArr st2 (mirror (arrOf st2) (lo+x-(neq+1)) (lo+x) ((lo+x-(lo+x-(neq+1)))/2))=st3/\Fr lo st st3/\Dn (arrOf st3) lo (lo+x):=by refine⟨_,rfl,f2.trans (Fr.Ea (by lia) (by lia)),λi j a b c=>?_⟩;show K (mirror _ _ _ _) j<=K (mirror _ _ _ _) i;rw [km,km];exact d2 i j a b c
    rw [hst3]
   case' neg =>rw [if_neg g];have f3:=f2;have d3:=d2
   all_goals
    have z3:=f3.size;refine HF (Pe ?_);have f4:=f3.trans (Fr.Ea (i:=lo) (j:=lo+x) (Hd _) (by lia));have u4:=d3.Ea (by lia);have z4:=f4.size;refine HF (asc (lo:=lo) ?_ x1 x2 u4 λn n1 n2 u o=>?_)
    ·intro x n Q' a b q1 q2;dsimp only;exact HF (nN (f4.kind.trans hk) (f4.oO hn) (by lia) (by lia) (λc=>Hv (q1 c)) λc=>Hv (q2 c))
    ·exact Hv (q n _ f4 (by lia) n2 u)
theorem GI {lo k l:Nat} {xs:Array HJ} (u:Up xs lo (lo+k)) (hk:lo+k<xs.size) (hl:l<=k) (h1:∀ i,i<l->K xs (lo+i)<=K xs (lo+k)) (h2:∀ i,l<=i->i<k->K xs (lo+k)<K xs (lo+i)) :
  Up (bubble xs (lo+k) (lo+k-(lo+l))) lo (lo+(k+1)):=by
 have h1':∀ i,lo<=i->i<lo+l->K xs i<=K xs (lo+k):=λi a b=>by have:=h1 (i-lo) (by lia);rwa [show lo+(i-lo)=i by lia] at this
 have h2':∀ i,lo+l<=i->i<lo+k->K xs (lo+k)<K xs i:=λi a b=>by have:=h2 (i-lo) (by lia) (by lia);rwa [show lo+(i-lo)=i by lia] at this
 intro i j a b c;rw [K_bubble hk (by lia),K_bubble hk (by lia)]
 repeat' split
 all_goals first
  | (exfalso;lia)
  | exact Je _
  | exact h1' _ (by lia) (by lia)
  | exact IT (h2' _ (by lia) (by lia))
  | exact u _ _ (by lia) (by lia) (by lia)
theorem bin {st:IE} {lo n ok:Nat} {Q:Bool->IE->Prop} (hk:kindOf st=oneType') (hn:eO (arrOf st)) (hz:lo+n<=(arrOf st).size) (h1:1<=ok) (ho:ok<=n) (u:Up (arrOf st) lo (lo+ok))
  (q:∀ st',Fr lo st st'->Up (arrOf st') lo (lo+n)->Q true st'):wpS (model prog w) A E s (binarySort' lo n ok) Q st:=by
 unfold binarySort';refine HF (KS (JA (I:=λk c st'=>c=(none,())/\Fr lo st st'/\Up (arrOf st') lo (lo+k))
  (Q:=λc st'=>c=(none,())/\Fr lo st st'/\Up (arrOf st') lo (lo+n)) ?step ?fin ⟨rfl,Fr.refl _ _,by rw [Nat.max_eq_left h1];exact u⟩) ?post)
 case post =>rintro c st' ⟨rfl,f,u'⟩;exact Hv (q st' f u')
 case fin =>rintro c st' ⟨rfl,f,u'⟩;rw [show max (max ok 1) n=n by lia] at u';exact⟨rfl,f,u'⟩
 case step =>
  rintro k c st' k1 k2 ⟨rfl,f,u'⟩;have z:=f.size;dsimp only;refine HF (KS (JA (I:=λx c st2=>st2=st'/\∃ l r,c=(none,l,r)/\l<=r/\r<=k/\r-l<=k-x/\(∀ i,i<l->K (arrOf st') (lo+i)<=K (arrOf st') (lo+k))/\(∀ i,r<=i->i<k->K (arrOf st') (lo+k)<K (arrOf st') (lo+i)))
   (Q:=λc st2=>st2=st'/\∃ l,c=(none,l,l)/\l<=k/\(∀ i,i<l->K (arrOf st') (lo+i)<=K (arrOf st') (lo+k))/\(∀ i,l<=i->i<k->K (arrOf st') (lo+k)<K (arrOf st') (lo+i)))
   ?istep ?ifin ⟨rfl,0,k,rfl,by lia,by lia,by lia,λi hi=>by lia,λi a b=>by lia⟩) ?ipost)
  case ifin =>
   rintro c st2 ⟨rfl,l,r,rfl,a,b,d,e,g⟩;obtain rfl:l=r:=by lia
   exact⟨rfl,l,rfl,b,e,g⟩
  case istep =>
   rintro x c st2 _ hx ⟨rfl,l,r,rfl,a,b,d,e,g⟩;dsimp only;by_cases o:l≥r
   ·rw [if_pos o];obtain rfl:l=r:=by lia
    exact Hv ⟨rfl,l,rfl,b,e,g⟩
   ·rw [if_neg o];refine HF (nN (f.kind.trans hk) (f.oO hn) (by lia) (by lia) (λc=>?_) λc=>?_)
    ·exact Hv ⟨rfl,_,_,rfl,by lia,by lia,by lia,e,λi h1 h2=>PZ c (u' _ _ (by lia) (by lia) (by lia))⟩
    ·exact Hv ⟨rfl,_,_,rfl,by lia,by lia,by lia,λi h1=>IZ (u' _ _ (by lia) (by lia) (by lia)) (L5.mp c),g⟩
  case ipost =>rintro c st2 ⟨rfl,l,rfl,a,b,d⟩;dsimp only;refine HF (NF (Hv ⟨rfl,f.trans ⟨rfl,rfl,rfl,bubble_perm _ _ _,λi hi=>?_⟩,GI u' (show lo+k<(arrOf st2).size by lia) a b d⟩));have:=getElem?_bubble (xs:=arrOf st2) (src:=lo+k) (by lia) (lo+k-(lo+l)) (by lia) i;rw [if_neg (by lia),if_neg (by lia)] at this;exact this
end
end Tim
namespace Tim
open PySem PyProof.Rows
def Pd:Nat->List (Nat × Nat × Nat)->List (List HJ)->Prop
 | _,[],[]=>True
 | o,x::p,r::rs=>x.1=o/\x.2.1=r.length/\0<r.length/\fR r/\Pd (o+r.length) p rs
 | _,_,_=>False
theorem Pd.len:∀{o:Nat} {p:List (Nat × Nat × Nat)} {rs:List (List HJ)},Pd o p rs->p.length=rs.length/\p.length<=rs.flatten.length
 | _,[],[],_=>⟨rfl,IV _⟩
 | _,x::p,r::rs,h=>by have:=Pd.len h.2.2.2.2;have h2:=h.2.2.1;simp only [Ji,NY,HN];lia
theorem Pd.push:∀{o:Nat} {p:List (Nat × Nat × Nat)} {rs:List (List HJ)} {r:List HJ} {z:Nat},Pd o p rs->0<r.length->fR r->Pd o (p++[(o+rs.flatten.length,r.length,z)]) (rs++[r])
 | o,[],[],r,z,h,n,s=>⟨rfl,rfl,n,s,trivial⟩
 | o,x::p,r'::rs,r,z,h,n,s=>by have:=Pd.push (z:=z) h.2.2.2.2 n s;rw [MR] at this;refine⟨h.1,h.2.1,h.2.2.1,h.2.2.2.1,?_⟩;rw [NY,HN];exact this
theorem Pd.alike:∀{o:Nat} {p p':List (Nat × Nat × Nat)} {rs:List (List HJ)},Pd o p rs->p'.map (λx=>(x.1,x.2.1))=p.map (λx=>(x.1,x.2.1))->Pd o p' rs
 | _,[],[],[],_,_=>trivial
 | _,[],_::_,[],_,e=>by simp at e
 | _,_::_,[],_::_,_,e=>by simp at e
 | o,x::p,x'::p',r::rs,h,e=>by simp only [HH,KA,Prod.mk.injEq] at e;exact⟨e.1.1.trans h.1,e.1.2.trans h.2.1,h.2.2.1,h.2.2.2.1,Pd.alike h.2.2.2.2 e.2⟩
theorem Pd.two:∀{i o:Nat} {p:List (Nat × Nat × Nat)} {rs:List (List HJ)},Pd o p rs->i+1<p.length->∃ p1 pw pw' p2 rs1 X Y rs2,p1.length=i/\rs=rs1++X::Y::rs2 /\
   p=p1++(o+rs1.flatten.length,X.length,pw)::(o+rs1.flatten.length+X.length,Y.length,pw')::p2/\fR X/\fR Y/\0<X.length/\0<Y.length /\
   ∀ C z,fR C->C.length=X.length+Y.length->Pd o (p1++(o+rs1.flatten.length,X.length+Y.length,z)::p2) (rs1++C::rs2)
 | 0,o,x::y::p,X::Y::rs,h,_=>by obtain⟨x1,x2,x3⟩:=x;obtain⟨y1,y2,y3⟩:=y;obtain⟨a,b,c,d,e,f,g,h,k⟩:=h;simp only at a b e f;subst a b e f;exact⟨[],x3,y3,p,[],X,Y,rs,rfl,rfl,rfl,d,h,c,g,λC z s l=>⟨rfl,l.symm,by lia,s,by rw [l,<- MR];exact k⟩⟩
 | i+1,o,x::p,X::rs,h,l=>by
  obtain⟨p1,pw,pw',p2,rs1,X',Y',rs2,e1,e2,e3,s1,s2,n1,n2,f⟩:=Pd.two (i:=i) h.2.2.2.2 (by simp at l ⊢;lia);refine⟨x::p1,pw,pw',p2,X::rs1,X',Y',rs2,by simp [e1],by rw [e2];rfl,?_,s1,s2,n1,n2,λC z s l=>⟨h.1,h.2.1,h.2.2.1,h.2.2.2.1,?_⟩⟩
  ·rw [e3];simp [MR]
  ·have:=f C z s l;simpa [MR] using this
 | 0,_,[_],[_],_,l=>by simp at l
 | 0,_,_::_::_,[_],h,_=>h.2.2.2.2.elim
structure Ws (a₀:Array HJ) (T:List HJ) (lo:Nat) (st:IE):Prop where
 kind:kindOf st=oneType'
 failed:failedOf st=none
 perm:(arrOf st).Perm a₀
 ex:∃ rs,Pd 0 (pendingOf st).toList rs/\rs.flatten.length=lo/\(arrOf st).toList=rs.flatten++T
theorem Ws.ES {a₀:Array HJ} {T:List HJ} {lo:Nat} {st:IE} (h:Ws a₀ T lo st):(pendingOf st).size<=lo:=by obtain⟨rs,h1,h2,h3⟩:=h.ex;have:=h1.len.2;rw [HV] at this;lia
theorem Ws.oO {a₀:Array HJ} {T:List HJ} {lo:Nat} {st:IE} (h:Ws a₀ T lo st) (n:eO a₀):eO (arrOf st):=λp hp=>n p ((KU.mp h.perm).mem_iff.mp hp)
theorem AX {f:Nat × Nat × Nat->Nat × Nat × Nat} (hf:∀ x,((f x).1,(f x).2.1)=(x.1,x.2.1)) (p:Array (Nat × Nat × Nat)) (i:Nat):(p.modify i f).toList.map (λx=>(x.1,x.2.1))=p.toList.map (λx=>(x.1,x.2.1)):=by
 refine Qp λj=>?_;rw [He,He,ID,ID,Array.getElem?_modify];split
 ·cases p[j]? with
  | none=>rfl
  | some x=>simp only [Q8];rw [hf]
 ·rfl
theorem EE (c:Prop) [Decidable c] (p:Nat) (h:¬p<=1):(if c then p-2-1 else p-2)+1<p:=by split<;>lia
section
variable {prog:Hq} {w:HU} {A:HX} {E:G2->G5->Prop} {s:G5} {a₀:Array HJ} {T:List HJ} {lo:Nat}
theorem EL {st:IE} {i:Nat} {Q:Bool->IE->Prop} (hn:eO a₀) (h:Ws a₀ T lo st) (hi:i+1<(pendingOf st).size) (q:∀ st',Ws a₀ T lo st'->(pendingOf st').size+1=(pendingOf st).size->Q true st') :
  wpS (model prog w) A E s (mergeAt' i) Q st:=by
 obtain⟨rs,h1,h2,h3⟩:=h.ex;obtain⟨p1,pw,pw',p2,rs1,X,Y,rs2,e1,e2,e3,sX,sY,nX,nY,f⟩:=h1.two (i:=i) (by rw [HV];exact hi);simp only [Lq] at e3 f;have ha:(arrOf st).toList=rs1.flatten++(X++(Y++(rs2.flatten++T))):=by rw [h3,e2];simp
 refine GS h.kind (h.oO hn) h.failed e3 e1 ha sX sY nX nY λst' C k fl pd ar sC pC=>q st' ⟨k,fl,?_,rs1++C::rs2,?_,?_,?_⟩ ?_
 ·refine KU.mpr (Q9 ?_ (KU.mp h.perm));rw [ar,ha];refine List.Perm.append_left _ ?_;rw [<- Iy X];exact pC.append_right _
 ·rw [pd];exact f C pw sC (by rw [pC.length_eq];simp)
 ·rw [<- h2,e2];have:=pC.length_eq;simp only [List.flatten_append,NY,HN] at this ⊢;lia
 ·rw [ar];simp
 ·rw [<- HV,<- HV,pd,e3];simp;lia
theorem runs {st:IE} {Q:Unit->IE->Prop} (hn:eO a₀) (hk:kindOf st=oneType') (hf:failedOf st=none) (hp:pendingOf st=#[]) (ha:arrOf st=a₀) (h2:2<=a₀.size)
  (q:∀ st',(arrOf st').Perm a₀->failedOf st'=none->fR (arrOf st').toList->Q () st'):wpS (model prog w) A E s sortRuns' Q st:=by
 unfold sortRuns';refine HF (wpS_get ?_);have hz:(arrOf st).size=a₀.size:=by rw [ha]
 dsimp only;simp only [hz];generalize (sortPriv% PySem.Builtin.minRun) a₀.size a₀.size 0=mr;refine HF (KS (JA (I:=λx c st'=>∃ lo T,c=(none,lo)/\Ws a₀ T lo st'/\x<=lo/\lo+T.length=a₀.size) (Q:=λc st'=>c=(none,a₀.size)/\Ws a₀ [] a₀.size st')
  ?step ?fin ⟨0,a₀.toList,rfl,⟨hk,hf,by rw [ha],[],by rw [hp];trivial,rfl,by rw [ha];simp⟩,Hd _,by simp⟩) ?post)
 case fin =>
  rintro c st' ⟨lo,T,rfl,W,x1,x2⟩;rw [Of (IV _)] at x1;obtain rfl:T=[]:=Md.mp (by lia);obtain rfl:lo=a₀.size:=by simpa using x2
  exact⟨rfl,W⟩
 case step =>
  rintro x c st1 _ hx ⟨lo,T,rfl,W,x1,x2⟩;dsimp only;by_cases e0:lo≥a₀.size
  ·rw [if_pos e0];obtain rfl:T=[]:=Md.mp (by lia);obtain rfl:lo=a₀.size:=by simpa using x2
   exact Hv ⟨rfl,W⟩
  rw [if_neg e0];have z1:(arrOf st1).size=a₀.size:=W.perm.size_eq;refine HF (cnt W.kind (W.oO hn) (by lia) (show lo+(a₀.size-lo)<=(arrOf st1).size by lia) λm st2 fr m1 m2 u=>?_);dsimp only;have back:∀(n:Nat) (st3:IE),Fr lo st1 st3->1<=n->n<=a₀.size-lo->Up (arrOf st3) lo (lo+n)->∃ r T',Ws a₀ (r++T') lo st3/\r.length=n/\fR r/\lo+n+T'.length=a₀.size:=by
   intro n st3 f n1 n2 u3;obtain⟨rs,p1,p2,p3⟩:=W.ex;have z3:=f.size;have tk:(arrOf st3).toList.take lo=rs.flatten:=by
    have:(arrOf st3).toList.take lo=(arrOf st1).toList.take lo:=by
     refine Qp λj=>?_;by_cases c:j<lo
     ·rw [Kq c,Kq c,ID,ID];exact f.low j c
     ·rw [ME (by rw [HB];lia),ME (by rw [HB];lia)]
    rw [this,p3,<- p2,Rw]
   refine⟨((arrOf st3).toList.drop lo).take n,((arrOf st3).toList.drop lo).drop n,⟨f.kind.trans W.kind,f.failed.trans W.failed,f.perm.trans W.perm,rs,?_,p2,?_⟩,?_,wM u3,?_⟩
   ·rw [f.pend];exact p1
   ·rw [HZ,<- tk,HZ]
   ·simp;lia
   ·simp;lia
  have last:∀(n:Nat) (r T':List HJ) (st3 st4:IE),Ws a₀ (r++T') lo st3->r.length=n->fR r->1<=n->lo+n+T'.length=a₀.size->kindOf st4=kindOf st3->failedOf st4=failedOf st3->arrOf st4=arrOf st3->pendingOf st4=(pendingOf st3).push (lo,n,0)->Ws a₀ T' (lo+n) st4:=by
   intro n r T' st3 st4 W3 l3 s3 n1 _ a b c d;obtain⟨rs,p1,p2,p3⟩:=W3.ex;refine⟨a.trans W3.kind,b.trans W3.failed,by rw [c];exact W3.perm,rs++[r],?_,?_,?_⟩
   ·rw [d,NW];have:=p1.push (z:=0) (r:=r) (by lia) s3;rw [Lq,p2,l3] at this;exact this
   ·simp [p2,l3]
   ·rw [c,p3];simp
  have z2:=fr.size;by_cases e1:m<mr
  case' pos =>rw [if_pos e1];refine HF (Oe (Ll ⟨rfl,?_⟩));refine HF (bin (n:=min (a₀.size-lo) (mr)) (fr.kind.trans W.kind) (fr.oO (W.oO hn)) (show lo+min (a₀.size-lo) (mr)<=(arrOf st2).size by lia) m1 (by lia) u λst3 fr3 u3=>?_);rw [if_neg (by simp)];obtain⟨r,T',W3,l3,s3,t3⟩:=back _ st3 (fr.trans fr3) (by lia) (by lia) u3;have n1:1<=min (a₀.size-lo) (mr):=by lia
  case' neg =>rw [if_neg e1];obtain⟨r,T',W3,l3,s3,t3⟩:=back m st2 fr m1 m2 u;have n1:=m1
  all_goals
   refine HF (wpS_get ?_);split
   ·refine HF (KS (JA (I:=λ_ c st'=>c=(none,())/\Ws a₀ (r++T') lo st') (Q:=λc st'=>c=(none,())/\Ws a₀ (r++T') lo st') ?step3 (λ_ _ h=>h) ⟨rfl,W3⟩) ?post3)
    case step3 =>
     rintro y c st' _ hy ⟨rfl,W'⟩;refine HF (wpS_get ?_);by_cases g:(pendingOf st').size > 1
     ·rw [if_pos g,Jf (show (pendingOf st').size-2<(pendingOf st').size by lia)];dsimp only;split
      ·exact Hv ⟨rfl,W'⟩
      ·refine HF (EL hn W' (show (pendingOf st').size-2+1<(pendingOf st').size by lia) λst'' W'' _=>?_);exact Hv ⟨rfl,W''⟩
     ·rw [if_neg g];exact Hv ⟨rfl,W'⟩
    case post3 =>
     rintro c st' ⟨rfl,W'⟩;have W4:∀ pw,Ws a₀ (r++T') lo (setPending st' ((pendingOf st').modify ((pendingOf st').size-1) λx=>(x.1,x.2.1,pw))):=λpw=>by obtain⟨rs,p1,p2,p3⟩:=W'.ex;exact⟨W'.kind,W'.failed,W'.perm,rs,p1.alike (AX (f:=λx=>(x.1,x.2.1,pw)) (λ_=>rfl) _ _),p2,p3⟩
     refine HF (NF ?_);refine HF (NF ?_);exact Hv ⟨_,T',rfl,last _ r T' _ _ (W4 _) l3 s3 n1 t3 rfl rfl rfl rfl,by lia,t3⟩
   ·exact HF (NF (Hv ⟨_,T',rfl,last _ r T' _ _ W3 l3 s3 n1 t3 rfl rfl rfl rfl,by lia,t3⟩))
 case post =>
  rintro c st1 ⟨rfl,W⟩;dsimp only;refine HF (KS (JA (I:=λx c st'=>c=(none,())/\Ws a₀ [] a₀.size st'/\(pendingOf st').size+x<=a₀.size+1) (Q:=λc st'=>c=(none,())/\Ws a₀ [] a₀.size st'/\(pendingOf st').size<=1)
   ?step2 ?fin2 ⟨rfl,W,by have:=W.ES;lia⟩) ?post2)
  case fin2 =>rintro c st' ⟨rfl,W',h⟩;rw [Of (IV _)] at h;exact⟨rfl,W',by lia⟩
  case step2 =>
   rintro x c st' _ hx ⟨rfl,W',h⟩;refine HF (wpS_get ?_);by_cases e:(pendingOf st').size<=1
   ·rw [if_pos e];exact Hv ⟨rfl,W',e⟩
   ·rw [if_neg e];have fin:∀ i,i+1<(pendingOf st').size->wpS (model prog w) A E s (mergeAt' i) (λr st''=>r=true/\Ws a₀ [] a₀.size st''/\(pendingOf st'').size+(x+1)<=a₀.size+1) st':=λi hi =>EL hn W' hi λst'' W'' h'=>⟨rfl,W'',by lia⟩
    refine HF (KS (fin _ ?_) ?_)
    ·exact EE _ _ e
    ·rintro r st'' ⟨rfl,W'',h'⟩;exact Hv ⟨rfl,W'',h'⟩
  case post2 =>
   rintro c st' ⟨rfl,W',h⟩;refine Hv (q st' W'.perm W'.failed ?_);obtain⟨rs,p1,p2,p3⟩:=W'.ex;have l:=p1.len.1;rw [HV] at l;rw [p3,Jj]
   match rs,p1,l,p2 with
   | [],_,_,p2=>simp at p2;lia
   | [r],p1,_,_ =>
    match hpe:(pendingOf st').toList,p1 with
    | [x],p1=>simpa using p1.2.2.2.1
   | _::_::_,_,l,_=>simp at l;lia
end
end Tim
namespace Tim
open PySem PyProof.Rows
theorem sS {vs:List G2} {ns:List Int} (hI:Ly vs ns):eO (pairsOf vs):=hI.intKeys
theorem BJ {xs:Array HJ} {k:Nat} (hk:k=xs.size) (h:fR xs.toList):SortedTo xs k:=by subst hk;have:=gY (xs:=xs) (a:=0) (n:=xs.size) (by lia) (by rw [Ry,II (by simp)];exact h);exact λi j h1 h2=>this i j (IV _) h1 (by lia)
section
variable {prog:Hq} {w:HU} {A:HX} {E:G2->G5->Prop} {s:G5}
theorem vb {a:G6} {vs:List G2} {ns:List Int} {n:Nat} {P:Fin->G5->Prop} (ho:s.heap.get? a=GZ (seqObj "list" vs.toArray n)) (hI:Ly vs ns) (hl:vs.length<=sizeLine)
  (h:∀(out:Array G2) (ns':List Int),Ly out.toList ns'->ns'.Perm ns->ns'.Pairwise (·<=·)->P (.done (.ret .none)) { s with heap:=sortedHeap s.heap a vs out }) :
  wpAny (model prog w) A (Kj.«list.sort» ⟨[.ref a],[]⟩) P E s:=by
 by_cases vP:vs.length<64
 ·exact list_sort_tree ho hI vP h
 have sz:¬vs.toArray.size<2:=by rw [Ic];lia
 have lt:=Hn ho;rw [list_sort_plain];refine G3 (listItems_at ho rfl (G3 (Se ho rfl ?_ (by simpa using hl) (by simp))));obtain⟨c,h1⟩:∃ c,(s.heap.update a (MH λ_=>#[])).get? a=GZ (seqObj "list" #[] c):=⟨_,get?_update_seq ho _⟩
 refine G3 (seqEpoch_at h1 rfl ?_);refine G3 (wpAny_newTuple ?_ (by simpa using hl));refine G3 (PF ?_ (by simp));refine JZ ?_;have h2:(((s.heap.update a (MH λ_=>#[])).push (seqObj "tuple" vs.toArray 0)).push (seqObj "list" #[] 0)).get? a=GZ (seqObj "list" #[] c):=by
  refine Eq.trans (Qq _ _ _ ?_) (Eq.trans (Qq _ _ _ ?_) h1)
  ·rw [size_push',ML];exact HP (LA lt)
  ·rw [ML];exact HP lt
 dsimp only;rw [if_neg sz,if_neg sz];obtain⟨u,v,r,rfl⟩:∃ u v r,vs=u::v::r:=by
  match vs,vP with
  | u::v::r,_=>exact⟨u,v,r,rfl⟩
  | [_],vP=>simp at vP
  | [],vP=>simp at vP
 rw [keyKind_ints hI];refine G3 (G8 ?_);have run:=runs (prog:=prog) (w:=w) (A:=A) (E:=E) (s:={ s with heap:=((s.heap.update a (MH λ_=>#[])).push (seqObj "tuple" (u::v::r).toArray 0)).push (seqObj "list" #[] 0) })
  (a₀:=pairsOf (u::v::r)) (st:=SortSt.mk' oneType' (pairsOf (u::v::r)) #[] 7 none)
  (Q:=λ_ t=>(arrOf t).Perm (pairsOf (u::v::r))/\failedOf t=none/\fR (arrOf t).toList) (sS hI) rfl rfl rfl rfl (by rw [pairsOf_size];simp) λt p f q=>⟨p,f,q⟩
 refine G3 (IK run ?_ λ_ _ e=>e);rintro⟨_,t⟩ s' ⟨rfl,p,f,q⟩;obtain⟨ns',i1,i2,i3⟩:=sorted_out hI p (BJ p.size_eq.symm q);refine G3 (seqEpoch_at h2 rfl ?_);refine G3 (Se h2 rfl ?_ (by simp) ?_)
 ·dsimp only;rw [f];simp only [bne_self_eq_false,Jm,if_false];exact G8 (h _ ns' i1 i2 i3)
 ·rw [Array.size_map,p.size_eq,pairsOf_size];lia
theorem wL {l:G6} {vs:List G2} {ns:List Int} {Q:G2->G5->Prop} (hl:s.heap.IsList l vs.toArray) (hI:Ly vs ns) (hz:vs.length<=sizeLine)
  (h:∀(out:Array G2) (ns':List Int),Ly out.toList ns'->ns'.Perm ns->ns'.Pairwise (·<=·)->Q (.ref (s.heap.objs.size+1)) { s with heap:=sortedAll s.heap vs out }) :
  wpAny (model prog w) A (call (.builtin "sorted") [.ref l]) Q E s:=by
 have z1:((s.heap.push (seqObj "list" #[] 0)).update s.heap.objs.size (MH (·++vs.toArray))).objs.size=s.heap.objs.size+1:=(ML ..).trans (size_push' ..);refine LL kind_sorted plain_sorted entry_sorted (args_sorted1 _) ?_;refine G3 (m:=checkCount "sorted" 1 1 _) (G8 (G3 (collect_list hl ?_ hz)));refine G3 (PF ?_ hz);have z2:=Hs ((s.heap.push (seqObj "list" #[] 0)).update s.heap.objs.size (MH (·++vs.toArray))) (o:=seqObj "list" vs.toArray 0) rfl;rw [z1] at z2;show wpAny _ _ _ _ _ { s with heap:=((s.heap.push (seqObj "list" #[] 0)).update _ _).push (seqObj "list" vs.toArray 0) };simp only [z1];refine G3 (JZ (Ko Rz ⟨_,z2,rfl⟩ Ra (vb z2 hI hz λout ns' a b c=>⟨_,rfl,G8 ⟨_,rfl,h out ns' a b c⟩⟩) (RA _)))
end
end Tim
namespace L2
open PySem PySem.Spec PyProof.Rows
theorem eU:∀{us:List G2} {ns:List Int},Ly us ns->Vals (ns.map V.int) us
 | _,_,.nil=>.nil
 | _,_,.cons n t h=>.cons ⟨t,rfl⟩ (eU h)
def zt (K:G1):List V->Hp->VK->Prop:=λxs H Q=>∃(a:G6) (ns:List Int),xs=[.ref a]/\aM K H a (ns.map V.int)/\∀(p:G6) (ns':List Int),ns'.Perm ns->ns'.Pairwise (·<=·)->H p=none->Q (.ref p) (upd H p (.lst (ns'.map V.int)))
theorem iM {X:Cx}:eA X (.builtin "sorted") (zt X.K):=by
 intro pins s σ H xs us Q I r h;obtain⟨a,ns,rfl,hq,q⟩:=h;obtain⟨u,rfl,ru⟩:=vals1 r;cases ru;obtain⟨its,rv,p,hz⟩:=I.list hq;have il:=intsAre_of rv;have zl:its.length=(ns.map V.int).length:=rv.length.symm;replace hz:its.length<=sizeLine:=by rw [zl];exact hz
 refine Tim.wL p.isList il hz λout ns' ho hp hs=>?_;obtain⟨e,he⟩:=sortedAll_at s.heap its out;have I1:Inv X pins σ H { s with heap:=sortedAll s.heap its out }:=I.kept (t':=s.toks) λb o x=>sortedAll_old x;have fT:H (s.heap.objs.size+1)=none:=I.hok.fresh (MT _);have lo:ns'.length=its.length:=by have:=rv.length;rw [G4] at this;rw [hp.length_eq];exact this
 refine⟨.ref (s.heap.objs.size+1),upd H (s.heap.objs.size+1) (.lst (ns'.map V.int)),?_,rfl,q _ ns' hp hs fT⟩;exact I1.adopt (T:=s.heap.objs.size+1) (o:=.lst (ns'.map V.int)) (I.mR (MT _) fT) ⟨by rw [G4,lo];exact hz,out.toList,e,eU ho,by rw [he]⟩
end L2
namespace Num
open PySem PySem.Spec PyProof.Rows
theorem LF.F0 {n g g':Int} (h:LF n g) (h':LF n g'):g=g':=by
 rcases (by lia:g<g'∨g=g'∨g'<g) with z | z | z
 ·exact absurd h.ord (h'.no g h.one z)
 ·exact z
 ·exact absurd h'.ord (h.no g' h'.one z)
theorem fQ.one {n:Int} {d:Hy} (h:fQ n d):∀{d'},fQ n d'->d=d':=by
 induction h with
 | mk p g ps ds h1 h2 h3 h4 h5 h6 ih =>
  intro d' h';cases h' with
  | mk _ g' ps' ds' k1 k2 k3 k4 k5 k6 =>
   obtain rfl:=h3.F0 k3;obtain rfl:=h4.one k4;have:rowsOf ps ds=rowsOf ps ds':=by unfold rowsOf;refine Nf λi hi=>?_;have il:=IF.mp hi;have g:=Hf il;rw [ih i _ _ g (k6 i _ _ g)]
   rw [this]
theorem mw {ps:List (Int × Int)} {ds:Nat->Hy} {r:Hy} (h:r∈rowsOf ps ds):∃ i q k,ps[i]?=GZ (q,k)/\r=.tuple [ds i,.int k]:=by unfold rowsOf at h;obtain⟨i,hi,rfl⟩:=HE.mp h;have il:=IF.mp hi;have g:=Hf il;exact⟨i,_,_,g,by rw [Ka,g];rfl⟩
theorem j6 {m:Nat}:∀{ds:List Hy},(∀ d∈ds,d.depth<=m)->Kh ds<=m
 | [],_=>by simp [Kh]
 | d::ds,h=>by have h1:=h d (Hi ..);have h2:=j6 λe he=>h e (Ha _ he);simp only [Kh];lia
theorem nt:∀{ds:List Hy},(∀ d∈ds,d.canLay0=true)->IQ ds=true
 | [],_=>rfl
 | d::ds,h=>by simp [IQ,h d (Hi ..),nt λe he=>h e (Ha _ he)]
theorem fQ.deep {n:Int} {d:Hy} (h:fQ n d):d.canLay0=true/\∃ k:Nat,d.depth+1<=3*k/\(2:Int)^k<=2*(n-1):=by
 induction h with
 | mk p g ps ds h1 h2 h3 h4 h5 h6 ih =>
  have p2:=h1.two;have lay:IQ (rowsOf ps ds)=true:=nt λr hr=>by obtain⟨i,q,k,hi,rfl⟩:=mw hr;simp [Ms,IQ,(ih i q k hi).1]
  refine⟨by simp [Ms,IQ,lay],?_⟩;by_cases e2:p=2
  ·subst e2;have hps:ps=[]:=by have:Part (1:Int) ps:=h4;exact this.one ⟨λ_ z=>by simp at z,Mn,rfl⟩
   subst hps;exact⟨1,by simp [Mr,Kh,rowsOf],by decide⟩
  ·-- each prime of the parts is at most half
   obtain⟨k,hk,hk2⟩:∃ k:Nat,(∀ i q m,ps[i]?=GZ (q,m)->(ds i).depth+1<=3*k)/\(2:Int)^(k+1)<=2*(p-1):=by
    have half:∀ i q m,ps[i]?=GZ (q,m)->2*(q-1)*2<=2*(p-1):=λi q m hi=>by
     have hq:=h4.ok _ (Hc hi);have dv:q∣p-1:=h4.dv (Hc hi);obtain⟨c,hc⟩:=dv;have q2:=hq.1.two;have c0:1<=c:=by
      rcases (by lia:c<=0∨1<=c) with z | z
      ·have:=Iu (show 0<=q by lia) z;simp only at *;lia
      ·exact z
     rcases (by lia:c=1∨2<=c) with z | z
     ·-- p-1 is a prime: so p is 3
      rw [z,Jo] at hc;have od:p%2=1:=by
       rcases (by lia:p%2=0∨p%2=1) with y | y
       ·exact absurd (HD y) (h1.no 2 (by decide) (by lia))
       ·exact y
      have q2':q=2:=by
       rcases (by lia:q=2∨2<q) with y | y
       ·exact y
       ·exact absurd (HD (show q%2=0 by lia)) (hq.1.no 2 (by decide) y)
      lia
     ·have:=HK z (show 0<=q by lia);lia
    have all:∀ i q m,ps[i]?=GZ (q,m)->∃ k:Nat,(ds i).depth+1<=3*k/\(2:Int)^(k+1)<=2*(p-1):=λi q m hi=>by obtain⟨k,a,b⟩:=(ih i q m hi).2;exact⟨k,a,by rw [Hu];have:=half i q m hi;lia⟩
    -- the greatest of them
    have key:∀ n:Nat,n<=ps.length->∃ k:Nat,(∀ i q m,i<n->ps[i]?=GZ (q,m)->(ds i).depth+1<=3*k)/\(2:Int)^(k+1)<=2*(p-1):=by
     intro n
     induction n with
     | zero=>exact λ_=>⟨0,λi q m hi=>by lia,by rw [Hu,HS];lia⟩
     | succ n ihn =>
      intro hn;obtain⟨k,a,b⟩:=ihn (by lia);obtain⟨k',a',b'⟩:=all n _ _ (Hf (show n<ps.length by lia));rcases So k k' with z | z
      ·refine⟨k',λi q m hi h=>?_,b'⟩;rcases (by lia:i<n∨i=n) with y | y
       ·have:=a i q m y h;lia
       ·subst y;exact a'
      ·refine⟨k,λi q m hi h=>?_,b⟩;rcases (by lia:i<n∨i=n) with y | y
       ·exact a i q m y h
       ·subst y;lia
    obtain⟨k,a,b⟩:=key ps.length (Hd _);exact⟨k,λi q m hi=>a i q m (G9.mp hi).1 hi,b⟩
   refine⟨k+1,?_,hk2⟩;have rows:Kh (rowsOf ps ds)<=3*k:=j6 λr hr=>by obtain⟨i,q,m,hi,rfl⟩:=mw hr;have:=hk i q m hi;simp only [Mr,Kh];lia
   simp only [Mr,Kh];lia
theorem fQ.depth {n:Int} {d:Hy} (h:fQ n d):d.depth<=90:=by
 obtain⟨_,k,a,b⟩:=h.deep;have:n<=10^9:=by cases h;assumption
 have k30:k<=30:=by
  rcases (by lia:k<=30∨31<=k) with z | z
  ·exact z
  ·exfalso;have e:(2:Int)^k=2^31*2^(k-31):=by rw [<- Pw.pow_add];congr 1;lia
   have p0:=bK (show (0:Int)<2 by decide) (k-31);have:=HK (show (1:Int)<=2^(k-31) by lia) (show (0:Int)<=2^31 by decide);have:(2:Int)^31=2147483648:=by decide
   lia
 lia
end Num
namespace L2
open PySem PySem.Spec PyProof.Rows
abbrev CK (h:Ip) (z TI TO T:G6) (f:Bool):Prop:=h.get? z=GZ { cls:=.type "zip",dict:=none,data:=.fields #[rawInt T,.bool f,.bool false,.ref TI,.ref TO],slots:=#[] }
def ZS (h:Ip) (z TI TO i1 i2:G6):Prop:=(Qn h z TI TO .none/\∃ u v,KW h TO u v)∨∃ T f o,CK h z TI TO T f/\h.get? T=GZ o/\T≠z/\T≠TO/\T≠i1/\T≠i2
theorem ZS.type {s:G5} {z TI TO i1 i2:G6} (h:ZS s.heap z TI TO i1 i2):s.TypeIs (.ref z) "zip":=by rcases h with⟨h,_⟩|⟨T,f,o,h,_⟩<;>exact⟨_,h,rfl⟩
theorem ZS.at {h h':Ip} {z TI TO i1 i2:G6} (x:ZS h z TI TO i1 i2) (e1:∀ o,h.get? z=GZ o->h'.get? z=GZ o) (e2:∀ o,h.get? TO=GZ o->h'.get? TO=GZ o) (e3:∀ c o,h.get? c=GZ o->∃ o',h'.get? c=GZ o'):ZS h' z TI TO i1 i2:=by
 rcases x with⟨h1,u,v,h2⟩|⟨T,f,o,h1,h2,h3⟩
 ·exact .inl ⟨e1 _ h1,u,v,e2 _ h2⟩
 ·obtain⟨o',ho⟩:=e3 T o h2;exact .inr ⟨T,f,o',e1 _ h1,ho,h3⟩
section
variable {prog:Hq} {w:HU} {A:HX} {E:G2->G5->Prop} {s:G5}
end
section
variable {X:Cx} {pins:List (G6 × Kl)} {σ:St} {k1 k2:Sd} {a b z TI TO i1 i2 S:G6} {xs ys:List V} {H0 H:Hp} {i:Nat} {s:G5} {ps:List G6} {c:Nat}
end
variable {X:Cx}
theorem rh {K:G1} {k1 k2:Sd} {a b:G6} {xs ys:List V} {g:TG} {tb:TS} {D:Ends} {σ:St} {H:Hp} (Pv:Nat->St->Hp->Prop) (h0:Pv 0 σ H) (hxy:xs.length=ys.length) (hl:∀ i σ H,i<=xs.length->Pv i σ H->sM k1 K H a xs/\sM k2 K H b ys)
  (hs:∀ i x y σ H p,xs[i]?=GZ x->ys[i]?=GZ y->Pv i σ H->H p=none->g (.ref p) σ (upd H p (.tup [x,y])) λσ2 H2=>tb { D with nx:=Pv (i+1),ct:=Pv (i+1),bk:=D.nx } σ2 H2) (hd:∀ σ H,Pv xs.length σ H->D.nx σ H):Loop (Ei k1 k2 K a b) g tb D σ H:=by
 refine⟨λi m σ H=>m=xs.length-i/\i<=xs.length/\Pv i σ H,⟨xs.length,by simp,IV _,h0⟩,?_⟩;rintro i m σ H ⟨rfl,hi,p⟩;obtain⟨q,q'⟩:=hl i σ H hi p;by_cases hlt:i<xs.length
 ·have hx:xs[i]?=GZ xs[i]:=Hf hlt;have hy:=Hf (show i<ys.length by lia);refine .inr ⟨⟨xs,ys,_,_,q,q',hx,hy⟩,Pv (i+1),λσ' H' p'=>⟨xs.length-(i+1),by lia,rfl,hlt,p'⟩,λx H' y=>?_⟩;obtain⟨pt,u,v,f,e1,e2,e3,e4⟩:=y;subst e1 e4;exact hs i u v σ H pt (e2 xs q) (e3 ys q') p f
 ·have e:i=xs.length:=by lia
  subst e;exact .inl ⟨⟨xs,q,Hd _⟩,hd σ H p⟩
def BP (J:It) (g:TG) (tt:TT) (te:TE) (ys:List V) (σ:St) (N:List V->Hp->Prop) (H1:Hp):Prop:=∃ W:Nat->Nat->List V->Hp->Prop,(∃ m,W 0 m ys H1)/\∀ i m zs H,W i m zs H ->
 (J.stop i H/\N zs H) ∨
 (J.go i H/\zs.length<sizeLine/\∃ N2:List V->Hp->Prop,(∀ zs' H',N2 zs' H'->∃ m',m'<m/\W (i+1) m' zs' H') /\
  ∀ x H',J.yld i H x H'->g x σ H' λσ2 H2=>bB σ σ2/\tt σ2 H2 λb H3=>if b=true then te σ2 H3 λv H4=>N2 (zs++[v]) H4 else N2 zs H3)
theorem CJ {wi:TI} {g:TG} {tt:TT} {te:TE} {ys:List V} {σ:St} {H:Hp} {N:List V->Hp->Prop}:D8 wi g tt te ys σ H N=wi σ H λJ H1=>BP J g tt te ys σ N H1:=rfl
def w5 (J:It) (js:List (Option Nat)) (g1:TG) (tt1:TT) (wi2:TI) (g2:TG) (tt2:TT) (te:TE) (σ:St) (Q:VK) (H1:Hp):Prop:=∃ W:Nat->Nat->List V->Hp->Prop,(∃ m,W 0 m [] H1)/\∀ i m ys H,W i m ys H ->
 (J.stop i H/\ys.length<=sizeLine/\∀ p,H p=none->Q (.ref p) (upd H p (.lst ys))) ∨
 (J.go i H/\True/\∃ N:List V->Hp->Prop,(∀ ys' H',N ys' H'->∃ m',m'<m/\W (i+1) m' ys' H') /\
  ∀ x H',J.yld i H x H'->g1 x (bV js σ) H' λσ2 H2=>bB (bV js σ) σ2/\tt1 σ2 H2 λb H3=>if b=true then D8 wi2 g2 tt2 te ys σ2 H3 N else N ys H3)
theorem BD {js:List (Option Nat)} {wi1 wi2:TI} {g1 g2:TG} {tt1 tt2:TT} {te:TE} {σ:St} {H:Hp} {Q:VK}:Fd js wi1 g1 tt1 wi2 g2 tt2 te σ H Q=wi1 σ H λJ H1=>w5 J js g1 tt1 wi2 g2 tt2 te σ Q H1:=rfl
theorem tF {K:G1} {a:G6} {xs ys:List V} {g:TG} {tt:TT} {te:TE} {σ:St} {N:List V->Hp->Prop} {H1:Hp} (Pv:Nat->List V->Hp->Prop) (h0:Pv 0 ys H1) (hl:∀ i zs H,i<=xs.length->Pv i zs H->aM K H a xs/\zs.length<sizeLine)
  (hs:∀ i x zs H,xs[i]?=GZ x->Pv i zs H->g x σ H λσ2 H2=>bB σ σ2/\tt σ2 H2 λb H3=>if b=true then te σ2 H3 λv H4=>Pv (i+1) (zs++[v]) H4 else Pv (i+1) zs H3)
  (hd:∀ zs H,Pv xs.length zs H->N zs H):BP (Ah K a) g tt te ys σ N H1:=by
 refine⟨λi m zs H=>m=xs.length-i/\i<=xs.length/\Pv i zs H,⟨xs.length,by simp,IV _,h0⟩,?_⟩;rintro i m zs H ⟨rfl,hi,p⟩;obtain⟨q,z⟩:=hl i zs H hi p;by_cases hlt:i<xs.length
 ·refine .inr ⟨⟨xs,xs[i],q,by simp [hlt]⟩,z,Pv (i+1),λzs' H' p'=>⟨xs.length-(i+1),by lia,rfl,hlt,p'⟩,λx H' y=>?_⟩;obtain⟨e,y⟩:=y;subst e;exact hs i x zs _ (y xs q) p
 ·have e:i=xs.length:=by lia
  subst e;exact .inl ⟨⟨xs,q,Hd _⟩,hd zs H p⟩
theorem qJ {K:G1} {a:G6} {xs:List V} {js:List (Option Nat)} {g1 g2:TG} {tt1 tt2:TT} {wi2:TI} {te:TE} {σ:St} {Q:VK} {H1:Hp} (Pv:Nat->List V->Hp->Prop) (h0:Pv 0 [] H1) (hl:∀ i ys H,i<=xs.length->Pv i ys H->aM K H a xs/\ys.length<=sizeLine)
  (hs:∀ i x ys H,xs[i]?=GZ x->Pv i ys H->g1 x (bV js σ) H λσ2 H2=>bB (bV js σ) σ2/\tt1 σ2 H2 λb H3=>if b=true then D8 wi2 g2 tt2 te ys σ2 H3 (Pv (i+1)) else Pv (i+1) ys H3)
  (hd:∀ ys H p,Pv xs.length ys H->H p=none->Q (.ref p) (upd H p (.lst ys))):w5 (Ah K a) js g1 tt1 wi2 g2 tt2 te σ Q H1:=by
 refine⟨λi m ys H=>m=xs.length-i/\i<=xs.length/\Pv i ys H,⟨xs.length,by simp,IV _,h0⟩,?_⟩;rintro i m ys H ⟨rfl,hi,p⟩;obtain⟨q,z⟩:=hl i ys H hi p;by_cases hlt:i<xs.length
 ·refine .inr ⟨⟨xs,xs[i],q,by simp [hlt]⟩,True.intro,Pv (i+1),λys' H' p'=>⟨xs.length-(i+1),by lia,rfl,hlt,p'⟩,λx H' y=>?_⟩;obtain⟨e,y⟩:=y;subst e;exact hs i x ys _ (y xs q) p
 ·have e:i=xs.length:=by lia
  subst e;exact .inl ⟨⟨xs,q,Hd _⟩,z,λq hq=>hd ys H q p hq⟩
theorem y7 {X:Cx} {tg l:Ik} {tl:TE} {K:G1} (hK:X.K=K) (hl:PE X l tl):PI X tg l (x8 K tl):=hK▸aW hl
theorem zj {X:Cx} {elt t1 i1 t2 i2:Ik} {f1 f2:List Ik} {scope:Kf} {pos:K8} {N':List HA} {js:List (Option Nat)} {cl:List (HA × G6)} {wi1 wi2:TI} {g1 g2:TG} {tt1 tt2:TT} {te:TE} {i0:Nat} {x0:HA} {pos' pos2:K8} (hN0:X.N.Nodup) (hi0:X.N[i0]?=GZ x0) (hx0:Loc X.env.scope x0) (Qf:X.calm=true)
  (K:fU X N' js scope cl) (hi:PI X t1 i1 wi1)
  (hg:∀ C s₂ H₂ fp,PG (cR X N' scope cl C s₂ H₂ fp) t1 g1) (ht:∀ C s₂ H₂ fp,mL (cR X N' scope cl C s₂ H₂ fp) f1 tt1)
  (hi2:∀ C s₂ H₂ fp,PI (cR X N' scope cl C s₂ H₂ fp) t2 i2 wi2) (hg2:∀ C s₂ H₂ fp,PG (cR X N' scope cl C s₂ H₂ fp) t2 g2) (ht2:∀ C s₂ H₂ fp,mL (cR X N' scope cl C s₂ H₂ fp) f2 tt2) (he:∀ C s₂ H₂ fp,PE (cR X N' scope cl C s₂ H₂ fp) elt te)
  (hsw:swapsWith (.ListComp elt [⟨t1,i1,f1,0⟩,⟨t2,i2,f2,0⟩] scope pos) (GZ (.Name x0 pos')) pos2.line X.env=pure true) (hf0:X.fn x0=true∨X.env.scope.names.lookup x0=GZ .local)
  (hs:autoParam (∀ x,foldedSetIterable i1 X.env x=pure x) Z4._auto_1) (hs2:∀ env x,foldedSetIterable i2 env x=pure x:=by intro _ _;rfl) :
  PS X (.Assign [.Name x0 pos'] (.ListComp elt [⟨t1,i1,f1,0⟩,⟨t2,i2,f2,0⟩] scope pos) pos2) (ur (Fd js wi1 g1 tt1 wi2 g2 tt2 te) (cS i0)):=by
 intro pins s σ H Dn I h;rw [OI _ _ _ _ hsw];refine G3 (JX (G3 ?_));unfold evalThenUse;refine G3 ?_;refine LR (use:=GZ (assign (.Name x0 pos') X.env)) rfl hs K.clos K.kind K.names (a9 (hi pins s σ H _ I h) λv s1 h1=>a9 h1 λitv s2 h2=>?_);obtain⟨H2,I2⟩:∃ H2,Inv X pins σ H2 s2:=by obtain⟨_,_,_,_,H2,_,I2,_⟩:=h2;exact⟨H2,I2⟩
 refine yk (Q:=λx H1=>cS i0 x σ H1 Dn.nx) (Ex:=λ_ _ _ _ _ _=>False) (Bd:=λEx acc env Ps s=>wpAny (model X.prog X.w) X.A (eval i2 env) (λx s₄=>wpAny (model X.prog X.w) X.A (pyIter x) (λit2 s₅=>codeAny (model X.prog X.w) X.A (.compStart (.ListComp elt [⟨t1,i1,f1,0⟩,⟨t2,i2,f2,0⟩] scope pos) 1 it2 acc env) (λr s₆=>match r with | .ok _=>Ps s₆ | .error _=>False) s₅) Ex s₄) Ex s) (Cc:=λ_=>True) (tb:=D8 wi2 g2 tt2 te) Qf
  (λ_ _ _ it acc env I turn n h hE=>oX I (hs2 env) turn n h hE) K (λC s H f _=>hg C s H f) (λC s H f _=>ht C s H f)
  (λC s₂ H₂ fp lc D ys vys P σ H s N Ps I rv ok z q k=>xt (Y:=cR X N' scope cl C s₂ H₂ fp) rfl Qf rfl (hi2 C s₂ H₂ fp) (hg2 C s₂ H₂ fp) (ht2 C s₂ H₂ fp) (he C s₂ H₂ fp) I rv ok q k) (λ_ _ _ _ _ _ _ _ _ z=>z.elim) h2 λC D vys H4 s5 hm hDe hDleC hDC nD nC hI qn=>?_
 obtain⟨m5,hn5⟩:=hm;have le:=Hg hDe hDleC;have key:Inv X pins σ (upd H4 D (.lst vys)) s5:=hI s5.heap ⟨rfl,λ_ _=>rfl⟩;have nC':upd H4 D (.lst vys) C=none:=by rw [ao (IJ hDC)];exact nC
 have CL:C≠X.env.locals:=λz=>by have:=I2.lt;rw [<- z] at this;exact Jt _ (Hr this le)
 have Cfs:C∉X.fs:=λz=>I2.yy le z;obtain⟨oC,es,ep,gC,dC,skC,fdC⟩:=hn5;have J1:Inv X ((C,oC)::pins) σ (upd H4 D (.lst vys)) s5:=key.eG λp hp=>by
  rcases Hw.mp hp with z | z
  ·subst z;exact⟨gC,nC',CL,Cfs,λv z=>by rw [dC] at z;cases z⟩
  ·exact key.pin p (Hm _ z)
 show wpAny _ _ (assign (.Name x0 pos') X.env (.ref D)) _ _ _;refine N5 ?_;refine bS J1 hN0 hi0 hx0 (show RelV (.ref D) (.ref D) from rfl) (λs6 I6=>?_) hf0;have pC:=(I6.pin (C,oC) (Hm _ (Hi ..))).1;refine⟨m5,⟨oC,es,ep,pC,dC,skC,fdC⟩,λh' hsb'=>?_⟩;have I7:Inv X pins (σ.set i0 (GZ (.ref D))) (upd H4 D (.lst vys)) s6:=I6.eG λp hp=>I6.pin p (Hm _ (Ha _ hp));have I8:=I7.turned (t':=s6.toks) (it:=C) (λb o hb e=>hsb'.extBut b o hb e) nC' CL (.inr (Hg I2.sz le))
  (λx c e=>by
   obtain⟨v,q⟩:=I2.cell x c e;exact HP (Hr q.lt le))
  (λp hp=>HP (Hr (Hn (I2.pin p hp).1) le))
 exact G8 (G8 ⟨_,_,I8,qn⟩)
def zr:List V->Hp->VK->Prop:=λxs H Q=>∃(a:G6) (kvs:List (Key × V)) (ns:List Int),xs=[.ref a]/\H a=GZ (.dK kvs)/\kvs.map (·.1)=ns.map Jk/\∀(p:G6) (ns':List Int),ns'.Perm ns->ns'.Pairwise (·<=·)->H p=none->Q (.ref p) (upd H p (.lst (ns'.map V.int)))
theorem uK:∀{us:List G2} {ns:List Int},us.length=ns.length->(∀(j:Nat) (v:G2),us[j]?=GZ v->∃ n t,ns[j]?=GZ n/\v=.int n t)->Ly us ns
 | [],[],_,_=>.nil
 | u::us,n::ns,hl,h=>by obtain⟨n',t,e1,e2⟩:=h 0 u rfl;cases e1;subst e2;exact .cons _ t (uK (by simpa using hl) λj v e=>by simpa using h (j+1) v (by simpa using e))
 | [],_::_,hl,_=>by simp at hl
 | _::_,[],hl,_=>by simp at hl
theorem oU {X:Cx} (hc:X.calm=true):eA X (.builtin "sorted") zr:=by
 intro pins s σ H xs us Q I r h;obtain⟨a,kvs,ns,rfl,ha,hk,q⟩:=h;obtain⟨u,rfl,ru⟩:=vals1 r;cases ru;obtain⟨z,hd,vs,rel,dd⟩:=xH I.hok ha;obtain⟨ep,da⟩:=dd.dictAt;have kl:vs.map (·.1)=ns.map Jk:=rel.keys.symm.trans hk;have nl:vs.length=ns.length:=by have:=congrArg QP kl;simpa using this
 have zl:vs.length<=sizeLine:=by rw [<- rel.length];exact z
 refine LL kind_sorted plain_sorted entry_sorted (args_sorted1 _) ?_;refine G3 (m:=checkCount "sorted" 1 1 _) (G8 ?_);refine G3 (PySem.W.kdu_collect (A:=X.A.in1) (PySem.W.kdl_dict (knd:=bH X.prog X.w) (kvs:=vs) (ep:=ep) hd) (I.ok.hd hc) da zl λh' tk acc hk' hacc=>?_);have al:acc.toList.length=vs.length:=by rw [HV];exact hacc.1
 have hI:Ly acc.toList ns:=uK (al.trans nl) λj v e=>by
  obtain⟨k,x,e1,e2⟩:=hacc.2 j v (by rw [<- ID];exact e);have e3:(ns.map Jk)[j]?=GZ k:=by rw [<- kl,He,e1];rfl
  rw [He] at e3;obtain⟨n,e4,e5⟩:=Hj.mp e3;rcases bD e2 with⟨i,t,e6,e7⟩|⟨i,t,e6,e7⟩
  ·rw [e6] at e5;cases e5;exact⟨n,t,e4,e7⟩
  ·rw [e6] at e5;cases e5
 refine G3 (PF ?_ (by rw [al];exact zl));have z2:=Hs h' (o:=seqObj "list" acc.toList.toArray 0) rfl;refine G3 (JZ (Ko Rz ⟨_,z2,rfl⟩ Ra (Tim.vb z2 hI (by rw [al];exact zl) λout ns' a b c=>⟨_,rfl,G8 ⟨_,rfl,?_⟩⟩) (RA _)));have lt:∀ b o,s.heap.get? b=GZ o->b<h'.objs.size:=λb o e=>Hn (hk' b o e);have old:∀ b o,s.heap.get? b=GZ o->(sortedHeap (h'.push (seqObj "list" acc.toList.toArray 0)) h'.objs.size acc.toList out).get? b=GZ o:=λb o e=>by rw [sortedHeap_old (HP (lt b o e)) (by rw [IM];exact LA (lt b o e))];exact G7 _ (hk' b o e)
 have I0:Inv X pins σ H { s with heap:=h',toks:=tk }:=I.kept hk';have I1:Inv X pins σ H { s with heap:=sortedHeap (h'.push (seqObj "list" acc.toList.toArray 0)) h'.objs.size acc.toList out,toks:=tk }:=I.kept old;obtain⟨e,he⟩:=sortedHeap_at (out:=out) z2;have fT:H h'.objs.size=none:=I0.hok.fresh (Hd _);have lo:ns'.length=acc.toList.length:=by rw [b.length_eq,<- nl,al]
 refine⟨.ref h'.objs.size,upd H h'.objs.size (.lst (ns'.map V.int)),?_,rfl,q _ ns' b c fT⟩;exact I1.adopt (T:=h'.objs.size) (o:=.lst (ns'.map V.int)) (I0.mR (Hd _) fT) ⟨by rw [G4,lo,al];exact zl,out.toList,e,eU a,he⟩
section
variable {X:Cx}
end
end L2
namespace L2
open PySem PySem.Spec PyProof.Rows PySem.W
section
variable {M:P6} {A:HX} {E:G2->G5->Prop} {s:G5} {base:Ip} {env:MA} {outer:List MA} {L e T:G6} {C:G2} {dd:Option G6} {fl:G2}
end
section
variable {P:Hq} {w:HU} {K:G1} {mg:HA->Option G2} {base:Ip} {N:List HA} {qual:HA} {scope:Kf} {f:G6} {cd:G2} {A:HX} {outer:List MA} {s:G5} {H:Hp} {E:XK}
end
section
variable {P:Hq} {w:HU} {K:G1} {mg:HA->Option G2} {base:Ip} {N:List HA} {qual:HA} {sc:Kf} {f:G6} {cd:G2} {A:HX} {outer:List MA} {s:G5} {H:Hp} {E:XK}
variable {elt target iter:Ik} {ifs:List Ik} {scope:Kf} {pos:K8} {N':List HA} {js:List (Option Nat)} {cl:List (HA × G6)} {wi:TI} {g:TG} {tt:TT} {te:TE}
end
end L2
namespace L2
open PySem PySem.Spec PyProof.Rows
def F4 (K:G1) (neg:Bool):R2:=λx y H Q=>∃ d ds,dv K H d x/\dv K H (.list ds) y/\d.canLay0=true/\IQ ds=true/\d.depth<=60/\Q (.bl (if neg then !(ds.any λe=>JH e d) else ds.any λe=>JH e d)) H
theorem DJ {X:Cx} (hu:X.A.units+64<cLine):jY X (compareOp .In) (F4 X.K false):=by intro pins s σ H x y v u Q I rx ry h;obtain⟨d,ds,hd,hs,c1,c2,c3,q⟩:=h;obtain⟨as,ra⟩:=dZ I d hd rx;obtain⟨bs,rb⟩:=dZ I _ hs ry;exact SeqAt.in_list_reads rb ra c2 c1 (by lia) ⟨.bl _,H,I,rfl,q⟩
structure jZ (k:Nat) (A:HX):Prop where
 dp:A.depth+3*k+5<recursionLimit
 un:A.units+16*k+200<cLine
theorem jZ.mono {j k:Nat} {A:HX} (r:jZ k A) (h:j<=k):jZ j A:=⟨by have:=r.dp;lia,by have:=r.un;lia⟩
theorem jZ.deeper {k:Nat} {A:HX} (r:jZ (k+1) A) (env:MA):jZ k (A.deeper env) :=
 ⟨by have:=r.dp;show A.depth+1+3*k+5<_;lia,by have:=r.un;show A.units+3+16*k+200<_;lia⟩
theorem jZ.units {k:Nat} {A:HX} (r:jZ k A):A.units+64<cLine:=by have:=r.un;lia
section
variable {CX:kB} {P:Hq} {w:HU} {K:G1} {mg:HA->Option G2} {base:Ip} {k:Nat} {f:G6} {fd:JF} {N ps:List HA} {sp:Sp}
end
def Bl (K:G1):V->List V->Hp->VK->Prop:=λx vs H Q=>∃ l xs y d ds,∃ j:Nat,x=.ref l/\vs=[y]/\H l=GZ (.lst xs)/\aP K H ds xs/\dv K H d y/\d.canLay0=true/\IQ ds=true/\d.depth<=60/\(∃ z,ds[j]?=GZ z/\JH z d=true)/\(∀ i z,i<j->ds[i]?=GZ z->JH z d=false)/\Q (.int j) H
theorem v7 {X:Cx} (hu:X.A.units+64<cLine):Gg X "list.index" (Bl X.K):=by
 intro pins s σ H x vs v us Q I rx rv h;obtain⟨l,xs,y,d,ds,j,rfl,rfl,hH,hds,hd,c1,c2,c3,⟨z1,hz1,hz2⟩,no,q⟩:=h;cases rx;obtain⟨u,rfl,ru⟩:=rv.one;obtain⟨z,its,n,r,hl,e⟩:=I.AW hH;obtain⟨as,ra⟩:=dZ I d hd ru;obtain⟨bs,rb⟩:=dZ (v:=.ref l) (u:=.ref l) I (.list ds) ⟨l,xs,rfl,aM.of hH,hds⟩ rfl;cases rb with
 | list h1 h2 h3 h4 =>
  rw [e] at h1;cases h1;cases h3;have hm:=SeqAt.readsAll_map _ _ _ c2 h4;have hlen:ds.length=its.length:=by rw [<- hm];simp
  have hj:j<its.length:=by rw [<- hlen];exact (G9.mp hz1).1
  have hs:its.length<=sizeLine:=by rw [<- r.length];exact z
  have at_:∀ i (hi:i<its.length) w,ds[i]?=GZ w->Oz s.heap its[i]=w:=λi hi w hw=>by rw [<- hm,He,Hf (by simpa using hi)] at hw;simpa using hw
  refine NA Pf ⟨_,e,rfl⟩ F.entry_list_index (F.args_list_index_2 _ _) (SeqAt.list_indexAt l its.toArray n none #[] u (λy=>JH (Oz s.heap y) d) j (by simpa using hj) (by rw [L9] at hs;lia) ?_ ?_) ⟨e,SeqAt.items_eqAt h4 ra c2 c1 (by lia),⟨.int j,H,I.tok _,⟨_,rfl⟩,q⟩⟩
  ·show JH (Oz s.heap its[j]) d=true;rw [at_ j hj z1 hz1];exact hz2
  ·intro i hi hlt;have hi':i<its.length:=by simpa using hi
   show JH (Oz s.heap its[i]) d=false;have hx:i<ds.length:=by lia
   rw [at_ i hi' _ (Hf hx)];exact no i _ hlt (Hf hx)
theorem n8 {X:Cx} {a:Ik} {ta:TE} (K:G1) (hK:X.K=K) (ha:PE X a ta) (he:∀ whole,isTrue a X.env whole=(do let v <- whole;standAt a.pos;holding [v] (truthy v))) :
  PT X a (λσ H Q=>ta σ H λx H'=>∃ k,xj K x H' k/\Q k H'):=hK▸bR ha he
end L2
set_option maxHeartbeats 8000000
namespace K
open PySem PySem.Spec PyProof.Rows L2
noncomputable def top (i:Nat):Le:=PySem.Challenge.pw_rootprime_k68_roots_by_small_primes.main.body.getD i (.Pass ⟨0,0,0,0⟩)
theorem rg {α:Type} {us:List α} {n:Nat} (h:us.length=n+1):∃ a r,us=a::r/\r.length=n:=by
 cases us with
 | nil=>cases h
 | cons a r=>exact⟨a,r,rfl,Nat.succ.inj h⟩
theorem B5 {α:Type} {us:List α} (h:us.length=1):∃ a,us=[a]:=(rg h).elim λa h=>h.elim λr h=>⟨a,h.1.trans (congrArg (a::·) (Lh h.2))⟩
theorem ym {α:Type} {us:List α} (h:us.length=2):∃ a b,us=[a,b]:=(rg h).elim λa h=>h.elim λr h=>(B5 h.2).elim λb h2=>⟨a,b,h.1.trans (congrArg (a::·) h2)⟩
theorem EH {α:Type} {us:List α} (h:us.length=3):∃ a b c,us=[a,b,c]:=(rg h).elim λa h=>h.elim λr h=>(ym h.2).elim λb h2=>h2.elim λc h2=>⟨a,b,c,h.1.trans (congrArg (a::·) h2)⟩
theorem EI {α:Type} {us:List α} (h:us.length=4):∃ a b c d,us=[a,b,c,d]:=(rg h).elim λa h=>h.elim λr h=>(EH h.2).elim λb h2=>h2.elim λc h2=>h2.elim λd h2=>⟨a,b,c,d,h.1.trans (congrArg (a::·) h2)⟩
theorem dc {N P:List HA} {sc:Kf} (a:autoParam (sc.kind=.function) Z3._auto_1) (b:autoParam (sc.isCoroutine=false) Z3._auto_1) (c:autoParam (sc.isGenerator=false) Z3._auto_1) (d:autoParam (N.Nodup) Z5._auto_1) (e:autoParam (N.take P.length=P) Z3._auto_1) (f:autoParam (∀ x∈P,sc.names.lookup x=GZ .local∨sc.names.lookup x=GZ .cell) Z5._auto_1) (g:autoParam (∀ y∈sc.names,y.2≠.free) Z5._auto_1):av N P sc:=⟨a,b,c,d,e,f,g⟩
theorem dI {F:G1} {mg:HA->Option G2} {x:HA} {h:Ip} {f:G6} {st:Le} {oc:G2} {od an:Option G6} {osl:Array (Option G2)} {kV doc pm cdv ct:G2} (X:F.In h) (G:h.Ns mainGlobals mg) (a:autoParam (Sk F mainGlobals x=GZ (GZ (.ref f))) Z6._auto_1) (l:autoParam (F.lookup f=GZ ⟨oc,od,.func (JD x x (bo st) (aO st) (ak st) .none kV doc pm an cdv ct),osl⟩) Z6._auto_1) (c:autoParam (Mm F cdv x=true) Z6._auto_1) (kk:autoParam (Kt F (.ref f)=true) Z6._auto_1):ay (cY X) mg x st:=xC X G a l c kk
theorem lz {X:Cx} {N':List HA} {js:List (Option Nat)} {scope:Kf} {cl:List (HA × G6)} (clos:closureFor scope X.env=pure cl) (kind:scope.kind=.function) (nocell:autoParam (∀ y∈scope.names,y.2=.cell->scope.names.lookup y.1=GZ .cell/\∀ p∈js.zip N',p.1.isSome=true->p.2≠y.1) Z5._auto_1) (names:autoParam (∀ y∈scope.names,y.2=.local->scope.names.lookup y.1=GZ .local) Z5._auto_1) (sub:AllIn X.env cl) (has:jH cl scope.names) (j:iK X scope cl js N'):fU X N' js scope cl:=C5 clos kind nocell names sub has j
theorem bj {X:Cx} {pos:K8} {i:Nat} {x:HA} {e:Ik} {te:TE} {pos':K8} (hN:X.N.Nodup) (he:PE X e te) (hi:autoParam (X.N[i]?=GZ x) Z3._auto_1) (hx:Loc X.env.scope x:=by exact HL rfl) (hs:autoParam (swapsWith e (GZ (.Name x pos')) pos.line X.env=pure false) Z0._auto_1) (hf:autoParam (X.fn x=true∨X.env.scope.names.lookup x=GZ .local) Z2._auto_1):PS X (.Assign [.Name x pos'] e pos) (ur te (cS i)):=iI hN hi hx he hs hf
theorem bJ {X:Cx} {CX:kB} {k n:Nat} {x:HA} {ps:List HA} {sp:Sp} {E:XK} {e:Ik} {es:List Ik} {t:TA} {p pos:K8} (C:Callee X.prog X.w X.K X.mg X.base CX k x ps sp) (hr:bL n X.A) (hx:Passes CX X E) (ha:PA X (e::es) t) (hm:autoParam (k<=n) Z1._auto_1) (hg:autoParam (Gl X x) Z3._auto_1) (hdb:autoParam ((x==("__debug__":HA))=false) Z1._auto_1) (he:autoParam (starEach (e::es) X.env=(false,eval e X.env)::starEach es X.env) Z0._auto_1) (hpl:autoParam ((backTo pos (starEach es X.env)).any (·.1)=false) Z0._auto_1):PE X (.Call (.Name x p) (e::es) [] pos) (sG sp [] E t):=cT C (hr.mono hm) hg hx ha hdb he hpl
noncomputable def GA {α:Type} (n:Nat):(List α->Prop)->Prop:=n.rec (λP=>P []) λ_ f P=>∀ a,f λr=>P (a::r)
theorem Gp {α:Type} {n:Nat} {P:List α->Prop} (q:GA n P):∀ us,us.length=n->P us:=by
 induction n generalizing P with
 | zero =>
  intro us h;cases us with
  | nil=>exact q
  | cons a r=>cases h
 | succ n ih =>intro us h;obtain⟨a,r,e,h2⟩:=rg h;rw [e];exact ih (P:=λr=>P (a::r)) (q a) r h2
theorem cO {P:Hq} {w:HU} {F:G1} {mg:HA->Option G2} {base:Ip} {k:Nat} {x:HA} {ps:List HA} {sp:Sp} {st:Le} {N:List HA} (D:ay F mg x st) (S:av N ps (ak st))
  (Qt:∀(f:G6) (cdv:G2) (A:HX) (outer:List MA) (s:G5) (H:Hp) (vs:List V) (Q:VK) (E:XK),bL k (A.deeper (envOfC x (ak st) s.heap.objs.size f cdv))->sp vs H Q E->∃ t,gN (eR aQ P w F mg base N x (ak st) f cdv A outer s H E).kh (aO st) t/\t { nx:=λ_ H'=>Q .non H',rt:=Q } (start N vs) H)
  (hb:∀(kV doc pm:G2) (an:Option G6) (cdv ct:G2) (us:List G2),us.length=ps.length->bindArgs (JD x x (bo st) (aO st) (ak st) .none kV doc pm an cdv ct) ⟨us,[]⟩=pure (ps.zip us):=by
    intro _ _ _ _ _ _;refine Gp ?_
    repeat intro _
    exact rfl)
  (len:∀ vs H Q E,sp vs H Q E->vs.length=ps.length):Callee P w F mg base aQ (k+1) x ps sp:=vF D hb S len Qt
theorem cX {P:Hq} {w:HU} {F:G1} {mg:HA->Option G2} {base:Ip} {k:Nat} {x:HA} {ps:List HA} {sp:Sp} {st:Le} {N:List HA} (D:ay F mg x st) (S:av N ps (ak st))
  (Qt:∀(f:G6) (cdv:G2) (A:HX) (outer:List MA) (s:G5) (H:Hp) (vs:List V) (Q:VK) (E:XK),bL k (A.deeper (envOfC x (ak st) s.heap.objs.size f cdv))->sp vs H Q E->∃ t,gN (eR (d7 P w) P w F mg base N x (ak st) f cdv A outer s H E) (aO st) t/\t { nx:=λ_ H'=>Q .non H',rt:=Q } (start N vs) H)
  (hb:∀(kV doc pm:G2) (an:Option G6) (cdv ct:G2) (us:List G2),us.length=ps.length->bindArgs (JD x x (bo st) (aO st) (ak st) .none kV doc pm an cdv ct) ⟨us,[]⟩=pure (ps.zip us):=by
    intro _ _ _ _ _ _;refine Gp ?_
    repeat intro _
    exact rfl)
  (len:∀ vs H Q E,sp vs H Q E->vs.length=ps.length):Callee P w F mg base (d7 P w) (k+1) x ps sp:=sV D hb S len Qt
end K
set_option hygiene false in
local macro_rules | `(tactic| k_data) => `(tactic| (iterate 2 ((try dsimp only [bC, Fi, Cu, Cm, BE, F7, D0, tC, Fh, rI, Ca, rU, Gz, Cy, ur, cS, mG, Fp, Fe, Gw, DY, Cs, E7, Gx, Ff, Ck, tB, E8, Cq, nE, AN, sG, BC, DZ, B1, B3, x8, EB, Gy, Fl, Cv, vx, Ct, Gr, Gu, Gv, Cn, Ce, Cp, qu, B0, EC, zS, D2, D1, Ga, Fm, tE, lJ, sH, zR, Fb, E4, pY, E9, vw, zQ, zP, zO, BD, List.getElem?_cons_zero, List.getElem?_cons_succ, List.set_cons_zero, List.set_cons_succ, List.nil_append, List.cons_append, Ee, GJ, Eu]); (try simp only [Option.some.injEq, exists_eq_left', exists_and_left, List.cons.injEq, V.int.injEq, V.bl.injEq, and_true, true_and, and_assoc, decide_eq_true_eq, List.append_nil, Int.reduceToNat, Int.reducePow, Int.reduceLT, Int.reduceLE, Int.reduceNeg, Int.zero_add, Nat.reducePow, Nat.reduceLT, Int.reduceAdd, Int.reduceSub, Int.reduceMul, V.ref.injEq, kX, zX, exists_eq_left, exists_eq', exists_eq, exists_const, Bv, Bt, Bw, Bx, By, Bu, Bz, reduceIte, reduceCtorEq, Bool.not_eq_true', decide_eq_false_iff_not, Int.reduceAbs, Bool.not_true, Bool.not_false, if_true, Bool.false_eq_true, if_false, CJ]))))
namespace K
open PySem PySem.Spec PyProof.Rows L2
section
variable {P:Hq} {w:HU} {K:G1} {mg:HA->Option G2} {base:Ip}
theorem Ax {i:Int} (h:(decide (i.natAbs<10^250))=true):Bd i:=Hr (of_decide_eq_true h) xr
def r8 (K:G1):Sp:=λvs H Q _=>∃(a:G6) (ns:List Int) (k:Nat),vs=[.ref a,.int k]/\aM K H a (ns.map V.int)/\∀ c,Q (.int c) H
theorem fM:av ["_law_script","_law_k"] ["_law_script","_law_k"] (ak (top 54)):=dc
theorem v8 (D:ay K mg "_law_cell_at" (top 54)) (f':mg "len"=none):Callee P w K mg base aQ 1 "_law_cell_at" ["_law_script","_law_k"] (r8 K):=by refine cO (len:=by intro _ _ _ _ h;repeat (first | (obtain⟨rfl,_⟩:=h;exact rfl) | obtain⟨_,h⟩:=h)) D fM (λf cdv A outer s H vs Q E hr h=>?_);obtain⟨a,ns,k,rfl,hS,q⟩:=h;have nd:=fM.nd;refine⟨_,(ae (aU (aB fK (pv 1) (aF bf rfl f' Ir (aa (pv 0) af)) (aC _)) (ai (aA (aG bG (pv 0) (pv 1) (λ_ _=>rfl)))) aH) (ai (aA ah))),?_⟩;show bC _ _ _ [GZ (.ref a),GZ (.int k)] H;k_data;refine df hS ?_;refine⟨_,rfl,?_⟩;rw [G4];refine aV (λc=>?_) (λc=>q _);refine kS hS (by lia) (by rw [G4];exact c) λv hv=>?_;obtain⟨i,_,rfl⟩:=HE.mp hv;exact q i
def vq:Sp:=λvs H Q _=>∃(c:Int) (b:Bool),vs=[.int c,.bl b]/\∀ p l H',aw H H'->H p=none->H' p=GZ (uq l b)->Ad l b->Q (.ref p) H'
theorem ik:av ["_law_cell","_law_free"] ["_law_cell","_law_free"] (ak (top 55)):=dc
theorem yO (D:ay K mg "_law_state" (top 55)):Callee P w K mg base aQ 1 "_law_state" ["_law_cell","_law_free"] vq:=by
 refine cO (len:=by intro _ _ _ _ h;repeat (first | (obtain⟨rfl,_⟩:=h;exact rfl) | obtain⟨_,h⟩:=h)) D ik (λf cdv A outer s H vs Q E hr h=>?_);obtain⟨c,b,rfl,q⟩:=h;have nd:=ik.nd;refine⟨_,(ae (aU (bR (pv 1) (λ_=>rfl)) (ai (aA (uT (je bF (pv 0) (je bF fL uW)) rfl rfl (by intro z;cases z) (by decide)))) aH) (ai (aA (uT (je bF (au cq ah (au aK (pv 0) ah)) (je bF fL uW)) rfl rfl (by intro z;cases z) (by decide))))),?_⟩;show bC _ _ _ [GZ (.int c),GZ (.bl b)] H;k_data;refine aV (λz=>λp hp=>⟨ag,[(Lj "left",.int c),(Lj "free",.bl true)],rfl,by show 2<=15;decide,?_⟩) (λz=>λp hp=>⟨ag,[(Lj "left",.int (1+c%2147483646)),(Lj "free",.bl false)],rfl,by show 2<=15;decide,?_⟩)
 ·subst z;rw [jV];exact q p c _ (aj hp) hp ag (.inl rfl)
 ·have z:b=false:=by simpa using z
  subst z;rw [jV];exact q p (1+c%2147483646) _ (aj hp) hp ag (.inr ⟨by lia,by lia⟩)
def mE:Sp:=λvs H Q _=>∃(p:G6) (m l:Int) (b:Bool),vs=[.ref p,.int m]/\H p=GZ (uq l b)/\Ad l b/\0<m/\m<10^200/\∀ r H',0<=r->r<m->Up p b H H'->Q (.int r) H'
theorem jg:av ["_law_state_here","_law_many","_law_found"] ["_law_state_here","_law_many"] (ak (top 56)):=dc
theorem A6 (D:ay K mg "_law_take" (top 56)):Callee P w K mg base aQ 1 "_law_take" ["_law_state_here","_law_many"] mE:=by
 refine cO (len:=by intro _ _ _ _ h;repeat (first | (obtain⟨rfl,_⟩:=h;exact rfl) | obtain⟨_,h⟩:=h)) D jg (λf cdv A outer s H vs Q E hr h=>?_);obtain⟨p,m,l,b,rfl,hp,hl,hm,hm1,q⟩:=h;have nd:=jg.nd;refine⟨_,(ae (aU (bR (gU (dJ hr) (pv 0) bF (λ_ _=>rfl)) (λ_=>rfl)) (ae (bj (i:=2) nd (au aK (gU (dJ hr) (pv 0) bF (λ_ _=>rfl)) (pv 1))) (ae (jf (dJ hr) (pv 0) bF (au bI (gU (dJ hr) (pv 0) bF (λ_ _=>rfl)) (pv 1)) rfl) (ai (aA (pv 2))))) aH) (ae (jf (dJ hr) (pv 0) bF (au aK (au aI (gU (dJ hr) (pv 0) bF (λ_ _=>rfl)) ah) ah) rfl) (ai (aA (au aK (au bI (au aK (au aI (gU (dJ hr) (pv 0) bF (λ_ _=>rfl)) ah) ah) ah) (pv 1)))))),?_⟩;show bC _ _ _ [GZ (.ref p),GZ (.int m),none] H;k_data;refine⟨_,xY hp,b,kX.mpr rfl,?_⟩;refine aV (λz=>?_) (λz=>?_)
 ·subst z;refine⟨_,iY hp,l,rfl,hm,_,iY hp,l,rfl,hm,Bd.of (by lia) (by lia),_,rQ hp,?_⟩;exact q _ _ (Hl _ (by lia)) (Hk _ hm) ⟨_,.inl rfl,rfl⟩
 ·have z:b=false:=by simpa using z
  subst z;obtain⟨l0,l1⟩:0<=l/\l<2147483647:=by rcases hl with z | z;cases z;exact z
  refine⟨_,iY hp,l,rfl,Bd.of (by lia) (by lia),Ax (by decide),_,rQ hp,_,iY ag,_,rfl,Bd.of (by lia) (by lia),Ax (by decide),Ax (by decide),hm,?_⟩;exact q _ _ (Hl _ (by lia)) (Hk _ hm) ⟨_,.inr ⟨by lia,by lia⟩,rfl⟩
def si:Sp:=λvs H Q _=>∃(p:G6) (l:Int) (b:Bool),vs=[.ref p]/\H p=GZ (uq l b)/\Ad l b/\∀ x H',-(10^56)<x->x<10^56->Up p b H H'->Q (.int x) H'
theorem gE:av ["_law_state_here","_law_way","_law_found","_law_k"] ["_law_state_here"] (ak (top 57)):=dc
theorem wd (D:ay K mg "_law_number" (top 57)) (c__law_take:Callee P w K mg base aQ 1 "_law_take" ["_law_state_here","_law_many"] mE) (K':mg "range"=none):Callee P w K mg base aQ 2 "_law_number" ["_law_state_here"] si:=by
 refine cO (len:=by intro _ _ _ _ h;repeat (first | (obtain⟨rfl,_⟩:=h;exact rfl) | obtain⟨_,h⟩:=h)) D gE (λf cdv A outer s H vs Q E hr h=>?_);obtain⟨p,l,b,rfl,hp,hl,q⟩:=h;have nd:=gE.nd;refine⟨_,(ae (bj (i:=1) nd (bJ c__law_take hr aE (aa (pv 0) (aa ah af)))) (ae (aU (aB cM (pv 1) ah (aC _)) (ai (aA (au cp (bJ c__law_take hr aE (aa (pv 0) (aa ah af))) ah))) aH) (ae (aU (aB cM (pv 1) ah (aC _)) (ai (aA (au cp (bJ c__law_take hr aE (aa (pv 0) (aa (au aI ah (au lV ah ah)) af))) (au lV ah ah)))) aH) (ae (bj (i:=2) nd ah) (ae (bN HC rfl (b8 rfl K' (aa ah af)) (aq (i:=3) nd rfl (HL rfl) (.inr rfl)) (ai (bj (i:=2) nd (au cq (au aI (pv 2) (au lV ah ah)) (bJ c__law_take hr aE (aa (pv 0) (aa (au lV ah ah) af))))))) (ai (aA (au aI (pv 2) (au cp (au aI ah (bJ c__law_take hr aE (aa (pv 0) (aa ah af)))) ah))))))))),?_⟩;show bC _ _ _ [GZ (.ref p),none,none,none] H;k_data;refine⟨p,4,l,b,rfl,hp,hl,by lia,by lia,λr1 H1 r10 r11 u1=>?_⟩;obtain⟨l1,k1,e1⟩:=u1.at;refine⟨rfl,?_⟩;refine aV (λz=>?_) (λz=>⟨rfl,aV (λz2=>?_) (λz2=>?_)⟩)
 ·exact⟨p,21,l1,b,rfl,e1,k1,by lia,by lia,λr2 H2 r20 r21 u2=>⟨_,rfl,q _ _ (by lia) (by lia) (u1.trans u2)⟩⟩
 ·exact⟨Ax (by decide),Ax (by decide),p,200000000,l1,b,rfl,e1,k1,by lia,by lia,λr2 H2 r20 r21 u2=>⟨_,rfl,q _ _ (by lia) (by lia) (u1.trans u2)⟩⟩
 have pw:∀ i:Nat,i<8->(10:Int)^(8*i)<=10^56:=by decide
 refine cI (λi σ' H'=>∃(x:Int) (o:Option V),σ'=[GZ (.ref p),GZ (.int r1),GZ (.int x),o]/\0<=x/\x<10^(8*i)/\Up p b H H') ⟨0,none,rfl,by lia,by decide,u1⟩ ?_ ?_
 ·rintro i σ' H' hi ⟨x,o,rfl,x0,x1,u⟩;have p1:=pw i (by lia);have p2:(10:Int)^(8*(i+1))=10^(8*i)*100000000:=by rw [OZ,Pw.pow_add];rfl
  obtain⟨l2,k2,e2⟩:=u.at;k_data;refine⟨Bd.of (by lia) (by lia),Ax (by decide),p,100000000,l2,b,rfl,e2,k2,by lia,by lia,λr2 H2 r20 r21 u2=>?_⟩;refine⟨r2,rfl,by lia,?_,u.trans u2⟩;rw [p2];generalize (10:Int)^(8*i)=Y at *;lia
 ·rintro σ' H' ⟨x,o,rfl,x0,x1,u⟩;obtain⟨l2,k2,e2⟩:=u.at;k_data;have p1:=pw 7 (by lia);refine⟨p,2,l2,b,rfl,e2,k2,by lia,by lia,λr2 H2 r20 r21 u2=>?_⟩;refine⟨r2,rfl,Ax (by decide),Bd.of (by lia) (by lia),Bd.of (by lia) (by lia),Bd.of (by lia) (by lia),?_⟩;have x2:x<10^56:=PZ x1 p1;rcases (by lia:r2=0∨r2=1) with z | z
  ·subst z;exact q _ _ (by lia) (by lia) (u.trans u2)
  ·subst z;exact q _ _ (by lia) (by lia) (u.trans u2)
def jX (a:Int):Prop := -(10^240)<=a/\a<=10^240
theorem jX.bd {a:Int} (h:jX a):Bd a:=Bd.of (by have:=h.1;lia) (by have:=h.2;lia)
def dS:Sp:=λvs H Q _=>∃ a b:Int,vs=[.int a,.int b]/\jX a/\jX b/\∀ g u v p H',Gcd.CC a b g u v->aw H H'->H' p=GZ (.tup [.int g,.int u,.int v])->Q (.ref p) H'
theorem mx:av ["a","b","g","u","v","next_g","next_u","next_v","times"] ["a","b"] (ak (top 10)):=dc
structure DS where
 (g u v ng nu nv:Int)
 t:Option V
theorem tQ (D:ay K mg "divisor" (top 10)) (n_abs:mg "abs"=none):Callee P w K mg base aQ 1 "divisor" ["a","b"] dS:=by
 refine cO (len:=by intro _ _ _ _ h;repeat (first | (obtain⟨rfl,_⟩:=h;exact rfl) | obtain⟨_,h⟩:=h)) D mx (λf cdv A outer s H vs Q E hr h=>?_);obtain⟨a,b,rfl,ha,hb,q⟩:=h;have nd:=mx.nd;refine⟨_,(ae (uX (i:=2) (j:=3) (k:=4) rfl nd rfl rfl rfl (by decide) (by decide) (by decide) rfl rfl rfl (aa (aF lr rfl n_abs L2.boot_abs (aa (pv 0) af)) (aa ah (aa ah af))) rfl) (ae (uX (i:=5) (j:=6) (k:=7) rfl nd rfl rfl rfl (by decide) (by decide) (by decide) rfl rfl rfl (aa (aF lr rfl n_abs L2.boot_abs (aa (pv 1) af)) (aa ah (aa ah af))) rfl) (ae (bQ HC (aB eY (pv 5) ah (aC _)) (ae (bj (i:=8) nd (au bI (pv 2) (pv 5))) (ae (pU (i:=2) (j:=5) rfl nd rfl rfl (by decide) rfl rfl (aa (pv 5) (aa (au cp (pv 2) (au aI (pv 8) (pv 5))) af)) rfl) (ae (pU (i:=3) (j:=6) rfl nd rfl rfl (by decide) rfl rfl (aa (pv 6) (aa (au cp (pv 3) (au aI (pv 8) (pv 6))) af)) rfl) (ai (pU (i:=4) (j:=7) rfl nd rfl rfl (by decide) rfl rfl (aa (pv 7) (aa (au cp (pv 4) (au aI (pv 8) (pv 7))) af)) rfl)))))) (ai (aA (aL (aa (pv 2) (aa (gh (aB fK (pv 0) ah (aC _)) (rN mH (pv 3)) (pv 3)) (aa (gh (aB fK (pv 1) ah (aC _)) (rN mH (pv 4)) (pv 4)) af))))))))),?_⟩;show bC _ _ _ [GZ (.int a),GZ (.int b),none,none,none,none,none,none,none] H;k_data;have hA:0<=(if a<0 then -a else a)/\(if a<0 then -a else a)<=10^240:=by have:=ha.1;have:=ha.2;split<;>lia
 have hB:0<=(if b<0 then -b else b)/\(if b<0 then -b else b)<=10^240:=by have:=hb.1;have:=hb.2;split<;>lia
 refine bU (α:=DS) (λx=>[GZ (.int a),GZ (.int b),GZ (.int x.g),GZ (.int x.u),GZ (.int x.v),GZ (.int x.ng),GZ (.int x.nu),GZ (.int x.nv),x.t])
  (λx H'=>H'=H/\Gcd.J (if a<0 then -a else a) (if b<0 then -b else b) x.g x.u x.v x.ng x.nu x.nv/\x.g<=10^240/\x.ng<=10^240) (λx=>x.ng.toNat)
  ⟨_,1,0,_,0,1,none⟩ rfl ⟨rfl,Gcd.J.start hA.1 hB.1,hA.2,hB.2⟩ ?_
 rintro x H1 ⟨rfl,j,hg,hng⟩;k_data;refine aV (λc=>?_) (λc=>?_)
 ·refine⟨_,λ_ _ z=>z,?_⟩;obtain⟨s1,s2,s3,s4⟩:=j.small hA.1 hB.1 hA.2 hB.2 (by lia);obtain⟨j',l,q0,ql⟩:=j.turn c;have bg:jX x.ng:=⟨by lia,hng⟩
  have bq:jX (x.g/x.ng):=⟨by lia,by lia⟩
  refine⟨c,bg.bd,bq.bd,bg.bd,bq.bd,jX.bd s3,bq.bd,jX.bd s4,⟨x.ng,x.nu,x.nv,x.g-x.g/x.ng*x.ng,x.u-x.g/x.ng*x.nu,x.v-x.g/x.ng*x.nv,GZ (.int (x.g/x.ng))⟩,rfl,rfl,j',hng,by show (x.g-x.g/x.ng*x.ng)<=_;lia,by show (x.g-x.g/x.ng*x.ng).toNat<x.ng.toNat;lia⟩
 ·have e:x.ng=0:=by have:=j.n0;lia
  rw [e] at j;have z:=j.done;refine aV (λca=>?_) (λca=>?_)<;>simp only [ca,if_true,if_false] at z ⊢<;>refine aV (λcb=>?_) (λcb=>?_)<;>simp only [cb,if_true,if_false] at z ⊢ <;>
   exact⟨by show 3<=sizeLine;decide,λp hp=>q _ _ _ p _ z (aj hp) ag⟩
end
end K
namespace K
open PySem PySem.Spec PyProof.Rows L2
structure Gd (n a g:Int):Prop where
 pos:0<g
 dn:g∣n
 da:g∣a
 gr:∀ d:Int,d∣n->d∣a->d∣g
theorem Gd.one {n a g g':Int} (h:Gd n a g) (h':Gd n a g'):g=g' :=
 OC (Hx h'.pos (h'.gr g h.dn h.da)) (Hx h.pos (h.gr g' h'.dn h'.da))
theorem iT {n a g:Int} (dn:g∣n):g∣a%n↔g∣a:=by
 have e:=Jd a n;constructor
 ·intro h;rw [<- e];exact Jx (JV dn) h
 ·intro h;have:a%n=a-n*(a/n):=by lia
  rw [this];exact Mb h (JV dn)
theorem Gd.of {n a g u v:Int} (hn:0<n) (z:Gcd.CC (a%n) n g u v):Gd n a g:=by
 refine⟨?_,z.db,(iT z.db).mp z.da,λd h1 h2=>?_⟩
 ·have:=z.g0;rcases (by lia:g=0∨0<g) with e | e
  ·have:=z.db;rw [e] at this;have:=Nr.mp this;lia
  ·exact e
 ·rw [<- z.lin];exact Jx (Hh ((iT h1).mpr h2)) (Hh h1)
theorem Dj {n a u v:Int} (hn:0<n) (z:Gcd.CC (a%n) n 1 u v):n∣u%n*a-1:=by
 have e:=z.lin;have e1:=Jd a n;have e2:=Jd u n;refine⟨u*(a/n)-v-u/n*a,?_⟩;generalize a%n=x at *;generalize u%n=y at *;generalize a/n=s at *;generalize u/n=t at *
 grind
section
variable {P:Hq} {w:HU} {K:G1} {mg:HA->Option G2} {base:Ip}
def dU (C:G6):Sp:=λvs H Q E=>∃ n a:Int,vs=[.int n,.int a]/\0<n/\n<=10^240/\∀ g,Gd n a g ->
 (g=1->∀ r H',0<=r->r<n->n∣r*a-1->aw H H'->Q (.int r) H') /\
 (1<g->∀ x dx H',aw H H'->H x=none->H' x=GZ (XO x C (GZ dx))->H' dx=GZ (.xd [("divisor",.int g)])->E (.ref C) (GZ x) H')
theorem my:av ["n","a","g","u","v"] ["n","a"] (ak (top 11)):=dc
theorem tR {C:G6} (D:ay K mg "inverse" (top 11)) (c_divisor:Callee P w K mg base aQ 1 "divisor" ["a","b"] dS) (x_NoInverse:sR P w K mg base "NoInverse" C "divisor"):Callee P w K mg base (d7 P w) 3 "inverse" ["n","a"] (dU C):=by
 refine cX (len:=by intro _ _ _ _ h;repeat (first | (obtain⟨rfl,_⟩:=h;exact rfl) | obtain⟨_,h⟩:=h)) D my (λf cdv A outer s H vs Q E hr h=>?_);obtain⟨n,a,rfl,hn,hn1,q⟩:=h;have nd:=my.nd;refine⟨_,(ae (dW (bJ c_divisor hr aE (aa (au aK (pv 1) (pv 0)) (aa (pv 0) af))) (bY (n:=3) rfl (az (aq (i:=2) nd rfl (HL rfl) (.inr rfl)) (az (aq (i:=3) nd rfl (HL rfl) (.inr rfl)) (az (aq (i:=4) nd rfl (HL rfl) (.inr rfl)) aT))))) (ae (aU (aB eY (pv 2) ah (aC _)) (ai (dX (pQ x_NoInverse (hr.mono (by decide)) rfl (aa (pv 2) af)))) aH) (gN.kh (ai (aA (au aK (pv 3) (pv 0))))))),?_⟩;show bC _ _ _ [GZ (.int n),GZ (.int a),none,none,none] H;k_data;have r0:=Hl a (show n≠0 by lia);have r1:=Hk a hn;refine⟨hn,a%n,n,rfl,⟨by lia,by lia⟩,⟨by lia,by lia⟩,λg u v p H1 z hs hh=>?_⟩;have G:=Gd.of hn z;obtain⟨q1,q2⟩:=q g G;refine⟨p,_,rfl,bE.of hh,rfl,?_⟩;k_data;refine aV (λc=>?_) (λc=>?_)
 ·intro x dx hx hdx ne;have ne':dx≠x:=ne;refine⟨C,GZ dx,ag,x_NoInverse.cls,?_,?_⟩
  ·cases e:H x with
   | none=>rfl
   | some o=>rw [hs _ _ e] at hx;cases hx
  ·refine q2 c x dx _ ?_ ?_ ag ?_
   ·intro b o e;have e1:=hs _ _ e;have bx:b≠x:=λy=>by rw [y,hx] at e1;cases e1
    have bd:b≠dx:=λy=>by rw [y,hdx] at e1;cases e1
    rw [ao bx,ao bx,ao bd,ao bx];exact e1
   ·cases e:H x with
    | none=>rfl
    | some o=>rw [hs _ _ e] at hx;cases hx
   ·rw [ao ne',ao ne',ag]
 ·have g1:g=1:=by have:=G.pos;lia
  subst g1;exact⟨hn,q1 rfl _ _ (Hl _ (by lia)) (Hk _ hn) (Dj hn z) hs⟩
end
end K
namespace K
open PySem PySem.Spec PyProof.Rows L2
section
variable {P:Hq} {w:HU} {K:G1} {mg:HA->Option G2} {base:Ip}
def cV (C:G6):Sp:=λvs H Q E=>∃ n a e:Int,vs=[.int n,.int a,.int e]/\0<n/\n<=10^120 /\
 (0<=e->∀ H',aw H H'->Q (.int (a^e.toNat%n)) H') /\
 (e<0->∀ g,Gd n a g ->
  (g=1->∀ b H',0<=b->b<n->n∣b*a-1->aw H H'->Q (.int (b^(-e).toNat%n)) H') /\
  (1<g->∀ x dx H',aw H H'->H x=none->H' x=GZ (XO x C (GZ dx))->H' dx=GZ (.xd [("divisor",.int g)])->E (.ref C) (GZ x) H'))
theorem rX:av ["n","a","e","base","left","rest"] ["n","a","e"] (ak (top 18)):=dc
theorem yK {C:G6} (D:ay K mg "power" (top 18)) (c_inverse:Callee P w K mg base (d7 P w) 3 "inverse" ["n","a"] (dU C)) (n_abs:mg "abs"=none):Callee P w K mg base (d7 P w) 4 "power" ["n","a","e"] (cV C):=by
 refine cX (len:=by intro _ _ _ _ h;repeat (first | (obtain⟨rfl,_⟩:=h;exact rfl) | obtain⟨_,h⟩:=h)) D rX (λf cdv A outer s H vs Q E hr h=>?_);obtain⟨n,a,e,rfl,hn,hn1,q1,q2⟩:=h;have nd:=rX.nd;refine⟨_,(ae (bj (i:=3) nd (au aK (pv 1) (pv 0))) (ae (gj (aU (aB fK (pv 2) ah (aC _)) (ai (bj (i:=3) nd (bJ c_inverse hr lX (aa (pv 0) (aa (pv 1) af))))) aH)) (gN.kh (ae (bj (i:=4) nd (aF lr rfl n_abs L2.boot_abs (aa (pv 2) af))) (ae (bj (i:=5) nd (au aK ah (pv 0))) (ae (bQ HC (aB eY (pv 4) ah (aC _)) (ae (gj (aU (aB cM (au aK (pv 4) ah) ah (aC _)) (ai (bj (i:=5) nd (au aK (au aI (pv 5) (pv 3)) (pv 0)))) aH)) (ae (bj (i:=3) nd (au aK (au aI (pv 3) (pv 3)) (pv 0))) (ai (fE (i:=4) nd rfl (HL rfl) ah (i4 qY)))))) (ai (aA (pv 5))))))))),?_⟩;show bC _ _ _ [GZ (.int n),GZ (.int a),GZ (.int e),none,none,none] H;k_data;refine⟨hn,λσ' H'=>aw H H'/\∃ b:Int,σ'=[GZ (.int n),GZ (.int a),GZ (.int e),GZ (.int b),none,none]/\0<=b/\b<n/\Q (.int (b^e.natAbs%n)) H',?_,?_⟩
 ·k_data;refine aV (λc=>?_) (λc=>?_)
  ·refine⟨n,a,rfl,hn,by lia,λg G=>⟨λe1 r H' r0 r1 r2 hs=>?_,λg1 x dx H' hs hx hX hd=>?_⟩⟩
   ·have:=(q2 c g G).1 e1 r H' r0 r1 r2 hs;rw [show (-e).toNat=e.natAbs by lia] at this;exact⟨hs,r,rfl,r0,r1,this⟩
   ·exact (q2 c g G).2 g1 x dx H' hs hx hX hd
  ·have:=q1 (by lia) H (aw.refl _);rw [show e.toNat=e.natAbs by lia,<- Pw.ja] at this;exact⟨aw.refl _,Hl _ (by lia),Hk _ hn,this⟩
 ·rintro σ' H' ⟨hs,b,rfl,hb0,hb1,q⟩;k_data;refine⟨hn,?_⟩;have ee:(if e<0 then -e else e)=(e.natAbs:Int):=by split<;>lia
  rw [ee];refine bU (α:=Int × Nat × Int) (λx=>[GZ (.int n),GZ (.int a),GZ (.int e),GZ (.int x.1),GZ (.int x.2.1),GZ (.int x.2.2)]) (λx H1=>H1=H'/\0<=x.1/\x.1<n/\0<=x.2.2/\x.2.2<n/\x.2.2*x.1^x.2.1%n=b^e.natAbs%n) (λx=>x.2.1) (b,e.natAbs,1%n) rfl ⟨rfl,hb0,hb1,Hl _ (by lia),Hk _ hn,?_⟩ ?_
  ·show 1%n*b^e.natAbs%n=_;rw [Pw.B7,Jl]
  rintro⟨b',l,r⟩ H1 ⟨rfl,h1,h2,h3,h4,h5⟩;replace h1:0<=b':=h1;replace h2:b'<n:=h2;replace h3:0<=r:=h3;replace h4:r<n:=h4;replace h5:r*b'^l%n=b^e.natAbs%n:=h5;k_data;refine aV (λc=>?_) (λc=>?_)
  ·refine⟨_,λ_ _ z=>z,λσ' H2=>H2=H1/\σ'=[GZ (.int n),GZ (.int a),GZ (.int e),GZ (.int b'),GZ (.int l),GZ (.int (if l%2=1 then r*b'%n else r))],?_,?_⟩
   ·k_data;refine aV (λc=>?_) (λc=>?_)
    ·exact⟨Bd.of (by lia) (by lia),Bd.of (by lia) (by lia),hn,by rw [if_pos (by lia)]⟩
    ·rw [if_neg (by lia)]
   rintro σ' H2 ⟨rfl,rfl⟩;k_data;have r0:0<=(if l%2=1 then r*b'%n else r)/\(if l%2=1 then r*b'%n else r)<n:=by
    split
    ·exact⟨Hl _ (by lia),Hk _ hn⟩
    ·exact⟨h3,h4⟩
   refine⟨Bd.of (by lia) (by lia),Bd.of (by lia) (by lia),hn,Ax (by decide),(b'*b'%n,l/2,if l%2=1 then r*b'%n else r),rfl,(by show (l:Int)/2=((l/2:Nat):Int);lia),rfl,Hl _ (by lia),Hk _ hn,r0.1,r0.2,?_,?_⟩
   ·show (if l%2=1 then r*b'%n else r)*(b'*b'%n)^(l/2)%n=_;rw [Pw.step];exact h5
   ·show l/2<l;lia
  ·have l0:l=0:=by lia
   subst l0;rw [HS,Jo] at h5;have h6:r%n=r:=Ii h3 h4;rw [<- h5,h6] at q;exact q
end
end K
namespace L2
open PySem PySem.Spec PyProof.Rows
theorem bw {X:Cx} (K:G1) (h:X.K=K):Ek X (DR K):=h▸aS
theorem qZ {X:Cx} (K:G1) (h:X.K=K):Ek X (wH K):=h▸bG
theorem fC {X:Cx} {pos:K8} {es:List Ik} {k:Nat} {t:BQ} {n:Nat} (K:G1) (e:X.K=K) (hc:X.calm=true) (h:En X es t)
  (hn:autoParam ((assignEach es X.env).length=n) Z0._auto_1) (hst:autoParam ((assignEach es X.env).findIdx? (·.1)=none) Z0._auto_1):PG X (.Tuple es k pos) (vR K n t):=e▸bY hc h hn hst
end L2
namespace K
open PySem PySem.Spec PyProof.Rows L2
section
variable {P:Hq} {w:HU} {K:G1} {mg:HA->Option G2} {base:Ip}
theorem aJ {X:Cx}:Passes (d7 P w) X E0:=by intro pins σ H1 s1 e s' I hq;obtain⟨x,C,T,dd,H',_,_,_,_,_,_,_,_,_,_,z⟩:=hq;exact z.elim
theorem bA {H:Hp} {q:G6} {xs:List V} {k:Int} {v:V} {Q:VK} (t:bE K H q xs) (e:wX xs k=GZ v) (h:Q v H):DR K (.ref q) (.int k) H Q:=⟨q,xs,k,v,rfl,rfl,t,e,h⟩
theorem kJ {x:V} {r:List V}:wX (x::r) 0=GZ x:=by unfold wX B4;simp
def GN (row:Hy) (q:Int):Prop:=∃ ds es,row=.tuple (.tuple (.int q::ds)::es)
def Ge (rows:List Hy) (qs:List Int):Prop:=rows.length=qs.length/\∀(i:Nat) (row:Hy),rows[i]?=GZ row->∃ q,qs[i]?=GZ q/\GN row q
def mD (K:G1):Sp:=λvs H Q _=>∃ v rows qs,vs=[v]/\dv K H (.tuple rows) v/\Ge rows qs/\rows.length<=10^6/\∀ p H',aw H H'->H p=none->H' p=GZ (.lst (qs.map V.int))->Q (.ref p) H'
theorem eQ {n x:Int} (hn:2<=n):x%n=1↔Num.Al n x 1:=by
 constructor
 ·intro h;refine⟨x/n,?_⟩;have:=Int.emod_add_mul_ediv x n;lia
 ·rintro⟨k,hk⟩;rw [show x=1+n*k by lia,Int.add_mul_emod_self_left];exact Ii (by lia) (by lia)
theorem fZ (P:Int->Prop) {g:Int} (h1:1<=g) (h:P g):∃ m,1<=m/\m<=g/\P m/\∀ a,1<=a->a<m->¬P a:=by
 have:∀(k:Nat) (g:Int),g.toNat=k->1<=g->P g->∃ m,1<=m/\m<=g/\P m/\∀ a,1<=a->a<m->¬P a:=by
  intro k
  induction k using LW with
  | ind k ih =>
   intro g hk h1 hg;by_cases c:∃ a,1<=a/\a<g/\P a
   ·obtain⟨a,a1,a2,a3⟩:=c;obtain⟨m,m1,m2,m3,m4⟩:=ih a.toNat (by lia) a rfl a1 a3;exact⟨m,m1,by lia,m3,m4⟩
   ·exact⟨g,h1,Je _,hg,λa a1 a2 a3=>c ⟨a,a1,a2,a3⟩⟩
 exact this _ g rfl h1 h
theorem EJ {p:Int} (hp:Num.Pm p):∃ g,Num.LF p g:=by obtain⟨g,g1,g2,g3⟩:=Num.AM hp;obtain⟨m,m1,m2,m3,m4⟩:=fZ (λa=>Num.Ord p a (p-1).toNat) g1 g3;exact⟨m,m1,by lia,m3,m4⟩
theorem Ba {n:Int} {ps:List (Int × Int)} (h:Num.Part n ps) (hn:1<=n):∀ q∈ps.map (·.1),2<=q/\q<=n:=λq hq=>by obtain⟨x,hx,rfl⟩:=HE.mp hq;obtain⟨o1,o2,_⟩:=h.ok x hx;have:=Num.fW hx o2;rw [h.prod] at this;exact⟨o1.two,Hx (by lia) this⟩
def jr:Sp:=λvs H Q _=>∃(n a:Int) (e:Int),vs=[.int n,.int a,.int e]/\0<n/\n<=10^100/\0<=e/\Q (.int (a^e.toNat%n)) H
theorem ic:av ["_law_n","_law_a","_law_e","_law_found","_law_base"] ["_law_n","_law_a","_law_e"] (ak (top 58)):=dc
theorem wc (D:ay K mg "_law_power" (top 58)):Callee P w K mg base aQ 1 "_law_power" ["_law_n","_law_a","_law_e"] jr:=by
 refine cO (len:=by intro _ _ _ _ h;repeat (first | (obtain⟨rfl,_⟩:=h;exact rfl) | obtain⟨_,h⟩:=h)) D ic (λf cdv A outer s H vs Q E hr h=>?_);obtain⟨n,a,e,rfl,hn,hn1,he,q⟩:=h;have nd:=ic.nd;refine⟨_,(ae (bj (i:=3) nd (au aK ah (pv 0))) (ae (bj (i:=4) nd (au aK (pv 1) (pv 0))) (ae (bQ HC (aB eY (pv 2) ah (aC _)) (ae (gj (aU (aB cM (au aK (pv 2) ah) ah (aC _)) (ai (bj (i:=3) nd (au aK (au aI (pv 3) (pv 4)) (pv 0)))) aH)) (ae (bj (i:=4) nd (au aK (au aI (pv 4) (pv 4)) (pv 0))) (ai (bj (i:=2) nd (au bI (pv 2) ah)))))) (ai (aA (pv 3)))))),?_⟩;show bC _ _ _ [GZ (.int n),GZ (.int a),GZ (.int e),none,none] H;k_data;refine⟨hn,hn,?_⟩;have r0:=λx:Int=>Hl x (show n≠0 by lia);have r1:=λx:Int=>Hk x hn;refine bU (α:=Nat × Int × Int) (λx=>[GZ (.int n),GZ (.int a),GZ (.int (x.1:Int)),GZ (.int x.2.1),GZ (.int x.2.2)]) (λx H1=>H1=H/\0<=x.2.2/\x.2.2<n/\0<=x.2.1/\x.2.1<n/\x.2.1*x.2.2^x.1%n=a^e.toNat%n) (λx=>x.1) (e.toNat,1%n,a%n) (by rw [show ((e.toNat:Nat):Int)=e by lia]) ⟨rfl,r0 a,r1 a,r0 1,r1 1,?_⟩ ?_
 ·show 1%n*(a%n)^e.toNat%n=_;rw [Pw.B7,Jl,Pw.ja]
 rintro⟨l,r,b⟩ H1 ⟨rfl,h1,h2,h3,h4,h5⟩;replace h1:0<=b:=h1;replace h2:b<n:=h2;replace h3:0<=r:=h3;replace h4:r<n:=h4;replace h5:r*b^l%n=a^e.toNat%n:=h5;k_data;refine aV (λc=>?_) (λc=>?_)
 ·refine⟨_,λ_ _ z=>z,λσ' H2=>H2=H1/\σ'=[GZ (.int n),GZ (.int a),GZ (.int (l:Int)),GZ (.int (if l%2=1 then r*b%n else r)),GZ (.int b)],?_,?_⟩
  ·k_data;refine aV (λc=>?_) (λc=>?_)
   ·exact⟨Bd.of (by lia) (by lia),Bd.of (by lia) (by lia),hn,by rw [if_pos (by lia)]⟩
   ·rw [if_neg (by lia)]
  rintro σ' H2 ⟨rfl,rfl⟩;k_data;have z0:0<=(if l%2=1 then r*b%n else r)/\(if l%2=1 then r*b%n else r)<n:=by
   split
   ·exact⟨r0 _,r1 _⟩
   ·exact⟨h3,h4⟩
  refine⟨Bd.of (by lia) (by lia),Bd.of (by lia) (by lia),hn,Ax (by decide),(l/2,(if l%2=1 then r*b%n else r),b*b%n),(by show (l:Int)/2=((l/2:Nat):Int);lia),rfl,rfl,r0 _,r1 _,z0.1,z0.2,?_,?_⟩
  ·show (if l%2=1 then r*b%n else r)*(b*b%n)^(l/2)%n=_;rw [Pw.step];exact h5
  ·show l/2<l;lia
 ·have l0:l=0:=by lia
  subst l0;rw [HS,Jo,Ii h3 h4] at h5;rw [h5];exact q
def kU:Sp:=λvs H Q _=>∃ p a:Int,vs=[.int p,.int a]/\Num.Pm p/\p<=10^60 /\ -(10^60)<=a/\a<=10^60/\¬p∣a/\∀ r,1<=r->r<p->Num.Ord p a r.toNat->Q (.int r) H
theorem ip:av ["_law_p","_law_a","_law_here","_law_many"] ["_law_p","_law_a"] (ak (top 59)):=dc
theorem yP (D:ay K mg "_law_steps" (top 59)):Callee P w K mg base aQ 1 "_law_steps" ["_law_p","_law_a"] kU:=by
 refine cO (len:=by intro _ _ _ _ h;repeat (first | (obtain⟨rfl,_⟩:=h;exact rfl) | obtain⟨_,h⟩:=h)) D ip (λf cdv A outer s H vs Q E hr h=>?_);obtain⟨p,a,rfl,hp,p9,a0,a1,na,q⟩:=h;have p2:=hp.two;have nd:=ip.nd;refine⟨_,(ae (bj (i:=2) nd (au aK (pv 1) (pv 0))) (ae (bj (i:=3) nd ah) (ae (bQ HC (aB eC (pv 2) ah (aC _)) (ae (bj (i:=2) nd (au aK (au aI (pv 2) (pv 1)) (pv 0))) (ai (bj (i:=3) nd (au cq (pv 3) ah))))) (ai (aA (pv 3)))))),?_⟩;show bC _ _ _ [GZ (.int p),GZ (.int a),none,none] H;k_data;have r0:=λx:Int=>Hl x (show p≠0 by lia);have r1:=λx:Int=>Hk x (show 0<p by lia);have fm:=(eQ p2).mpr (Num.jM hp na);refine⟨by lia,?_⟩;refine bU (α:=Int × Nat) (λx=>[GZ (.int p),GZ (.int a),GZ (.int x.1),GZ (.int (x.2:Int))]) (λx H1=>H1=H/\x.1=a^x.2%p/\1<=x.2/\(x.2:Int)<=p-1/\∀ j:Nat,1<=j->j<x.2->a^j%p≠1) (λx=>(p+1-(x.2:Int)).toNat) (a%p,1) rfl ⟨rfl,by rw [Hu,HS,Jl],Hd _,by show (1:Int)<=p-1;lia,λj j1 (j2:j<1)=>by lia⟩ ?_;rintro⟨h,k⟩ H1 ⟨eH,hh,k1,k2,no⟩;replace hh:h=a^k%p:=hh;replace k1:1<=k:=k1;replace k2:(k:Int)<=p-1:=k2;replace no:∀ j:Nat,1<=j->j<k->a^j%p≠1:=no;rw [eH];have h0:=r0 (a^k);have h1:=r1 (a^k);rw [<- hh] at h0 h1;k_data;refine aV (λc=>?_) (λc=>?_)
 ·have kp:(k:Int)<p-1:=by
   rcases (by lia:(k:Int)<p-1∨(k:Int)=p-1) with z | z
   ·exact z
   ·rw [show (p-1).toNat=k by lia,<- hh] at fm;exact absurd fm c
  refine⟨_,λ_ _ z=>z,Bd.of (by lia) (by lia),Bd.of (by lia) (by lia),by lia,(h*a%p,k+1),rfl,rfl,?_,by lia,by show ((k+1:Nat):Int)<=p-1;lia,λj j1 (j2:j<k+1)=>?_,by show (p+1-((k+1:Nat):Int)).toNat<(p+1-(k:Int)).toNat;lia⟩
  ·show h*a%p=a^(k+1)%p;rw [hh,Hu,Kr,LS,<- Kr]
  ·rcases (by lia:j<k∨j=k) with z | z
   ·exact no j j1 z
   ·rw [z,<- hh];exact c
 ·have c':h=1:=by lia
  have al:=(eQ p2).mp (show a^k%p=1 by rw [<- hh,c']);exact q (k:Int) (by lia) (by lia) (by rw [IH];exact Num.i8 (by lia) al λj j0 jk z=>no j (by lia) jk ((eQ p2).mpr z))
noncomputable def kj (p:Int × Int):Hy:=.tuple [.int p.1,.int p.2]
def jU (K:G1):Sp:=λvs H Q _=>∃ n:Int,vs=[.int n]/\1<=n/\n<=10^9/\∀ ps us p H',Num.Part n ps->ps.length<=29->aw H H'->H p=none->H' p=GZ (.lst us)->aP K H' (ps.map kj) us->Q (.ref p) H'
structure sP (n d:Int):Prop where
 two:2<=d
 no:∀ e:Int,2<=e->e<d->¬e∣n
theorem sP.step {n d:Int} (h:sP n d) (hk:¬d∣n):sP n (d+1):=⟨by have:=h.two;lia,λe e2 ed=>by
 rcases (by lia:e<d∨e=d) with z | z
 ·exact h.no e e2 z
 ·rw [z];exact hk⟩
theorem gF:av ["_law_n","_law_found","_law_d","_law_many"] ["_law_n"] (ak (top 60)):=dc
theorem tW (D:ay K mg "_law_parted" (top 60)):Callee P w K mg base aQ 1 "_law_parted" ["_law_n"] (jU K):=by
 refine cO (len:=by intro _ _ _ _ h;repeat (first | (obtain⟨rfl,_⟩:=h;exact rfl) | obtain⟨_,h⟩:=h)) D gF (λf cdv A outer s H vs Q E hr h=>?_);obtain⟨n,rfl,n1,n9,q⟩:=h;have nd:=gF.nd;refine⟨_,(ae (bj (i:=1) nd (bX af)) (ae (bj (i:=2) nd ah) (ae (bQ HC (aB eY (pv 0) ah (aC _)) (ae (bj (i:=3) nd ah) (ae (bQ HC (aB cM (au aK (pv 0) (pv 2)) ah (aC _)) (ae (bj (i:=0) nd (au bI (pv 0) (pv 2))) (ai (bj (i:=3) nd (au cq (pv 3) ah))))) (ae (gj (aU (aB eY (pv 3) ah (aC _)) (ai (eI (rK Kx Kz PySem.F.type_list_append gR (pv 1) (aa (aL (aa (pv 2) (aa (pv 3) af))) af)))) aH)) (ai (bj (i:=2) nd (au cq (pv 2) ah))))))) (ai (aA (pv 1)))))),?_⟩;show bC _ _ _ [GZ (.int n),none,none,none] H;k_data;refine⟨by decide,λpp hpp=>?_⟩;refine bU (α:=Int × Int × Option V) (λx=>[GZ (.int x.1),GZ (.ref pp),GZ (.int x.2.1),x.2.2]) (λx H1=>aw H H1/\∃(ps:List (Int × Int)) (us:List V) (pr:Int),H1 pp=GZ (.lst us)/\aP K H1 (ps.map kj) us/\Num.Way n ps x.1 pr/\sP x.1 x.2.1/\x.2.1<=10^9+10) (λx=>(10^9+20-x.2.1).toNat+x.1.toNat*10^10) (n,2,none) rfl ⟨aj hpp,[],[],2,ag,rfl,.start (by lia),⟨by show (2:Int)<=2;decide,λd d0 (d1:d<2)=>by lia⟩,by show (2:Int)<=10^9+10;decide⟩ ?_;rintro⟨left,e,o⟩ H1 ⟨hs,ps,us,pr,epp,hd,W,Ie,d9⟩;replace W:Num.Way n ps left pr:=W;replace Ie:sP left e:=Ie;replace d9:e<=10^9+10:=d9;have l1:=W.pos;have e2:=Ie.two;have ln:left<=n:=by have z:=W.two;have p0:=Num.bK (show (0:Int)<2 by decide) ps.length;have:=Il (show (1:Int)<=2^ps.length by lia) (show 0<=left by lia);lia
 k_data;refine aV (λc3=>?_) (λc3=>?_)
 ·have dl:e<=left:=by
   rcases (by lia:e<=left∨left<e) with z | z
   ·exact z
   ·exact absurd (Lo left) (Ie.no left (by lia) z)
  refine⟨_,λ_ _ z=>z,?_⟩;refine bU (α:=Int × Nat) (λx=>[GZ (.int x.1),GZ (.ref pp),GZ (.int e),GZ (.int (x.2:Int))]) (λx H3=>H3=H1/\left=e^x.2*x.1/\1<=x.1/\x.1<=left) (λx=>x.1.toNat) (left,0) rfl ⟨rfl,by rw [HS,Jl],by lia,Je _⟩ ?_;rintro⟨lf,k⟩ H3 ⟨rfl,f1,f2,f3⟩;replace f1:left=e^k*lf:=f1;replace f2:1<=lf:=f2;replace f3:lf<=left:=f3;k_data;refine⟨by lia,?_⟩;refine aV (λc4=>?_) (λc4=>?_)
  ·obtain⟨y,hy⟩:=HD c4;have ey:lf/e=y:=by rw [hy];exact HW _ (by lia)
   have y1:1<=y:=by
    rcases (by lia:y<=0∨1<=y) with z | z
    ·have:=Iu (show 0<=e by lia) z;lia
    ·exact z
   have yl:y<lf:=by rw [hy];have:=Il e2 (show 0<=y by lia);lia
   refine⟨_,λ_ _ z=>z,by lia,Bd.of (by lia) (by lia),(y,k+1),?_,rfl,?_,y1,by show y<=left;lia,by show y.toNat<lf.toNat;lia⟩
   ·rw [ey];rfl
   ·show left=e^(k+1)*y;rw [f1,hy,Hu,Ib]
  ·have ng:¬e∣lf:=λz=>c4 (Ig z);refine⟨λσ' H4=>aw H H4/\σ'=[GZ (.int lf),GZ (.ref pp),GZ (.int e),GZ (.int (k:Int))]/\∃(ps:List (Int × Int)) (us:List V) (pr:Int),H4 pp=GZ (.lst us)/\aP K H4 (ps.map kj) us/\Num.Way n ps lf pr/\sP lf (e+1)/\(k=0->lf=left)/\(0<k->lf<left),?_,?_⟩
   ·k_data;refine aV (λc5=>?_) (λc5=>?_)
    ·have k1:1<=k:=by lia
     have hL:Ld.m8 left e:=⟨e2,(by
      obtain⟨k',rfl⟩:∃ k',k=k'+1:=⟨k-1,by lia⟩
      rw [f1,Hu];exact JV ⟨e^k',Ia _ _⟩),Ie.no⟩
     have W2:=W.step n9 c3 hL f1 f2 k1 ng;have len:=W.len n9;have ul:us.length=ps.length:=by rw [hd.length,G4]
     have lt:lf<left:=by
      obtain⟨k',rfl⟩:∃ k',k=k'+1:=⟨k-1,by lia⟩
      have p0:=Num.bK (show 0<e by lia) k';have h1:e<=e^(k'+1):=by rw [Hu];have:=Il (show 1<=e^k' by lia) (show 0<=e by lia);lia
      have:=Il (show 2<=e^(k'+1) by lia) (show 0<=lf by lia);lia
     refine⟨.inl ⟨rfl,_,aM.of epp⟩,by show 2<=sizeLine;decide,λpt hpt=>?_⟩;have s2:=aj (o:=.tup [V.int e,V.int (k:Int)]) hpt;have npt:pp≠pt:=λz=>by rw [<- z,epp] at hpt;cases hpt
     have el':=s2 _ _ epp;have et:upd H3 pt (.tup [V.int e,V.int (k:Int)]) pt=GZ (.tup [V.int e,V.int (k:Int)]):=ag;have hd2:=aP.same s2 _ hd;have S2:=hs.trans s2;generalize upd H3 pt _=H4 at *;refine⟨pp,us,.ref pt,rfl,rfl,el',JG (show us.length<=29 by lia) (by decide),S2.upd hpp,ps++[(e,(k:Int))],us++[.ref pt],ag,?_,e,W2,sP.step ⟨e2,λd d2 de z=>Ie.no d d2 de (by rw [f1];exact Hh z)⟩ ng,λz=>absurd z (by lia),λ_=>lt⟩;rw [HQ];refine aP.append (aP.but el' (λb o ne h=>by rw [ao ne];exact h) _ (i6 (λ_=>rfl) ps) hd2) (.one (dv.tup (xs:=[V.int e,V.int (k:Int)]) ?_ ⟨_,_,rfl,rfl,.one rfl⟩));rw [ao (IJ npt)];exact et
    ·have k0:k=0:=by lia
     subst k0;rw [HS,Jl] at f1;subst f1;exact⟨hs,ps,us,epp,hd,pr,W,Ie.step ng,λ_=>rfl,λz=>absurd z (by lia)⟩
   ·rintro σ' H4 ⟨S4,rfl,ps',us',pr',g1,g2,g3,g4,g5,g6⟩;k_data;refine⟨(lf,e+1,GZ (.int (k:Int))),rfl,rfl,rfl,S4,⟨ps',us',g1,g2,pr',g3,g4,by show e+1<=10^9+10;lia⟩,?_⟩;show (10^9+20-(e+1)).toNat+lf.toNat*10^10<(10^9+20-e).toNat+left.toNat*10^10;rcases Io k with z | z
    ·have:=g5 z;lia
    ·have:=g6 z;lia
 ·have z:left=1:=by lia
  subst z;exact q ps us pp H1 W.done (W.len n9) hs hpp epp hd
theorem rT {ps:List (Int × Int)} {p:Int × Int} {ds ds':Nat->Hy} (h:∀ j,j<ps.length->ds' j=ds j):Num.rowsOf (ps++[p]) ds'=Num.rowsOf ps ds++[.tuple [ds' ps.length,.int p.2]]:=by
 unfold Num.rowsOf;rw [HN,JC,KZ,HQ];congr 1
 ·refine Nf λj hj=>?_;have:=IF.mp hj;rw [h j this,Ka,Ka,IW this]
 ·simp
theorem jI {H:Hp} {q k:Int} {v:V} (h:dv K H (kj (q,k)) v):∃ p,v=.ref p/\bE K H p [.int q,.int k]:=by obtain⟨p,xs,rfl,h1,x,r,rfl,d1,y,r',rfl,d2,h4⟩:=h;cases h4;cases d1;cases d2;exact⟨p,rfl,h1⟩
def gJ (K:G1) (L:Nat):Sp:=λvs H Q _=>∃ n:Int,vs=[.int n]/\Num.Pm n/\n<=10^9/\Num.Ht L n/\∀ d v H',Num.fQ n d->aw H H'->dv K H' d v->Q v H'
theorem eT:av ["_law_p","_law_full"] ["_law_p"] (ak (top 61)):=dc
theorem tV {L:Nat} (D:ay K mg "_law_paper" (top 61)) (c__law_parted:Callee P w K mg base aQ 1 "_law_parted" ["_law_n"] (jU K)) (c__law_steps:Callee P w K mg base aQ 1 "_law_steps" ["_law_p","_law_a"] kU) (c__law_paper:Callee P w K mg base aQ (L+2) "_law_paper" ["_law_p"] (gJ K L)) (J':mg "tuple"=none):Callee P w K mg base aQ (L+3) "_law_paper" ["_law_p"] (gJ K (L+1)):=by
 refine cO (len:=by intro _ _ _ _ h;repeat (first | (obtain⟨rfl,_⟩:=h;exact rfl) | obtain⟨_,h⟩:=h)) D eT (λf cdv A outer s H vs Q E hr h=>?_);obtain⟨n,rfl,hp,hn,hH,q⟩:=h;have n2:=hp.two;obtain⟨g,G⟩:=EJ hp;have g1:=G.one;have g2:=G.lt;have nd:=eT.nd;refine⟨_,(ae (bj (i:=1) nd ah) (ae (bQ HC (aB fK (cT c__law_steps (hr.mono (by lia)) rfl aE (aa (pv 0) (aa (pv 1) af))) (au cp (pv 0) ah) (aC _)) (ai (bj (i:=1) nd (au cq (pv 1) ah)))) (ai (aA (aL (aa (pv 0) (aa (pv 1) (aa (dQ cu rfl J' L2.boot_tuple (aa (dN rfl (lz (sub:=by repeat (first | exact True.intro | refine⟨rfl,?_⟩)) (has:=by repeat (first | exact True.intro | refine⟨rfl,?_⟩ | refine⟨True.intro,?_⟩)) (j:=by repeat (first | exact True.intro | refine⟨⟨rfl,rfl,.inl rfl,.inl rfl⟩,?_⟩)) (N':=["_law_q","_law_many"]) (js:=[none,none]) rfl rfl) (aW (cT c__law_parted (hr.mono (by lia)) rfl aE (aa (au cp (pv 0) ah) af))) (λ_ _ _ _=>(fC K rfl (n:=2) rfl (az (aq (i:=0) (show IA [("_law_q":HA),("_law_many":HA)] from by decide +kernel) rfl (HL rfl) (.inr rfl)) (az (aq (i:=1) (show IA [("_law_q":HA),("_law_many":HA)] from by decide +kernel) rfl (HL rfl) (.inr rfl)) aT)))) (λ_ _ _ _=>aZ) (λ_ _ _ _=>(aL (aa (cT c__law_paper (hr.mono (by lia)) rfl aE (aa (pv 0) af)) (aa (pv 1) af))))) af)) af)))))))),?_⟩;show bC _ _ _ [GZ (.int n),none] H;k_data;refine bU (α:=Int) (λx=>[GZ (.int n),GZ (.int x)]) (λx H2=>H2=H/\1<=x/\x<=g) (λx=>(g-x).toNat) 1 rfl ⟨rfl,Je _,g1⟩ ?_;rintro x H2 ⟨eH,x1,x2⟩;replace x1:1<=x:=x1;replace x2:x<=g:=x2;rw [eH];k_data;refine⟨n,x,rfl,hp,by lia,by lia,by lia,λz=>by have:=Hx (by lia) z;lia,λr r1 rn o=>⟨_,rfl,?_⟩⟩;refine aV (λc=>?_) (λc=>?_)
 ·have ne:x≠g:=λz=>by have:=o.pM (z▸G.ord);lia
  exact⟨_,λ_ _ z=>z,x+1,rfl,rfl,by lia,by lia,by lia⟩
 ·have xg:x=g:=by
   rcases (by lia:x=g∨x<g) with z | z
   ·exact z
   ·refine absurd ?_ (G.no x x1 z);rw [show (n-1).toNat=r.toNat by lia];exact o
  subst xg;refine⟨n-1,rfl,by lia,by lia,λps us p H1 hP hl s1 f1 h1 hd=>?_⟩;have ul:us.length=ps.length:=by rw [hd.length,G4]
  have at_:∀{i:Nat} {v:V},us[i]?=GZ v->∃ q' k',ps[i]?=GZ (q',k')/\(Num.Pm q'/\1<=k')/\q'∣n-1/\q'<=n-1/\∃ pt,v=.ref pt/\bE K H1 pt [.int q',.int k']:=by
   intro i v hx;obtain⟨d,hd',hv⟩:=hd.get hx;rw [He] at hd';obtain⟨⟨q',k'⟩,hy,rfl⟩:=Hj.mp hd';have hok:=hP.ok _ (Hc hy);have hdv:q'∣n-1:=by
    have:=Num.fW (Hc hy) hok.2.1
    rwa [hP.prod] at this
   exact⟨q',k',hy,⟨hok.1,hok.2.1⟩,hdv,Hx (by lia) hdv,jI hv⟩
  refine⟨p,rfl,⟨_,aM.of h1⟩,?_⟩;refine bh (xs:=us) (λi zs H5=>aw H1 H5/\∃ ds,(∀ j q k,(ps.take i)[j]?=GZ (q,k)->Num.fQ q (ds j))/\aP K H5 (Num.rowsOf (ps.take i) ds) zs) ⟨aw.refl _,λ_=>.none,λj q k z=>by simp at z,rfl⟩ (by rw [ul];exact Hg hl (by decide)) (λi zs H5 hi ⟨e1,ds,e2,e3⟩=>⟨aM.of (e1 _ _ h1),by rw [e3.length,Num.cJ,HB];lia⟩) ?_ ?_
  ·rintro i v zs H5 hx ⟨s5,ds,hds,hz⟩;obtain⟨q',k',hy,hok,hdv,ql,pt,rfl,tt⟩:=at_ hx;show vR K 2 _ _ [none,none] _ _;refine⟨pt,_,rfl,tt.same s5,rfl,?_⟩;k_data;refine⟨True.intro,q',rfl,hok.1,by lia,hH q' hok.1 hdv,λd v H6 hp6 s6 hv6=>⟨by show 2<=sizeLine;decide,λp7 hp7=>?_⟩⟩;have s7:=aj (o:=.tup [v,V.int k']) hp7;have tk:ps.take (i+1)=ps.take i++[(q',k')]:=by rw [HI,hy];rfl
   have il:i<ps.length:=(G9.mp hy).1;have tl:(ps.take i).length=i:=by rw [HB];lia
   refine⟨(s5.trans s6).trans s7,λj=>if j=i then d else ds j,λj q k hj=>?_,?_⟩
   ·rw [tk] at hj;rcases (by lia:j<i∨j=i∨i<j) with z | z | z
    ·rw [IW (by lia)] at hj;show Num.fQ q (if j=i then d else ds j);rw [if_neg (by lia)];exact hds j q k hj
    ·subst z;rw [IG (by lia),tl,K6] at hj;show Num.fQ q (if j=j then d else ds j);rw [if_pos rfl];cases hj;exact hp6
    ·rw [ME (by simp;lia)] at hj;cases hj
   ·rw [tk,rT (ds:=ds) (λj hj=>if_neg (by lia)),tl,if_pos rfl];exact aP.append (aP.same (s6.trans s7) _ hz) (.one (dv.tup ag ⟨_,_,rfl,dv.same s7 _ hv6,.one rfl⟩))
  ·rintro zs H5 p5 ⟨s5,ds,hds,hz⟩ hp5;rw [ul,HY] at hds hz;have s6:=aj (o:=.lst zs) hp5;refine⟨p5,rfl,zs,.inl ⟨aM.of ag,λl hl'=>⟨by show 3<=sizeLine;decide,λp8 hp8=>?_⟩⟩⟩;generalize upd H5 p5 _=H6 at *;have s7:=aj (o:=.tup zs) hl';have e7:upd H6 l (.tup zs) l=GZ (.tup zs):=ag;generalize upd H6 l _=H7 at *;have s8:=aj (o:=.tup [V.int n,V.int x,V.ref l]) hp8;refine q _ _ _ (.mk n x ps ds hp hn G hP hl hds) ((((s1.trans s5).trans s6).trans s7).trans s8) (dv.tup ag ⟨_,_,rfl,rfl,_,_,rfl,rfl,.one (dv.tup (s8 _ _ e7) (aP.same ((s6.trans s7).trans s8) _ hz))⟩)
theorem tU (D:ay K mg "_law_paper" (top 61)):Callee P w K mg base aQ 2 "_law_paper" ["_law_p"] (gJ K 0):=by refine cO (len:=by intro _ _ _ _ h;repeat (first | (obtain⟨rfl,_⟩:=h;exact rfl) | obtain⟨_,h⟩:=h)) D eT (λf cdv A outer s H vs Q E hr h=>?_);obtain⟨n,rfl,hp,hn,hH,q⟩:=h;exact hH.elim
theorem lS (D:ay K mg "_law_paper" (top 61)) (c__law_parted:Callee P w K mg base aQ 1 "_law_parted" ["_law_n"] (jU K)) (c__law_steps:Callee P w K mg base aQ 1 "_law_steps" ["_law_p","_law_a"] kU) (J':mg "tuple"=none):∀ L:Nat,Callee P w K mg base aQ (L+2) "_law_paper" ["_law_p"] (gJ K L)
 | 0=>tU D
 | L+1=>(tV D c__law_parted c__law_steps (lS D c__law_parted c__law_steps J' L) J').mono (by lia)
def oB (K:G1):Sp:=λvs H Q _=>∃ n:Int,vs=[.int n]/\Num.Pm n/\n<=10^9/\∀ d v H',Num.fQ n d->aw H H'->dv K H' d v->Q v H'
theorem AV (h:Callee P w K mg base aQ (30+2) "_law_paper" ["_law_p"] (gJ K 30)):Callee P w K mg base aQ 32 "_law_paper" ["_law_p"] (oB K) :=
 Callee.imp h λvs H Q E z=>by obtain⟨n,h1,h2,h3,q⟩:=z;exact⟨n,h1,h2,h3,Num.Df h2 h3,q⟩
theorem gT {n:Int} {d:Hy} (h:Num.fQ n d):∃ g ps ds,d=.tuple [.int n,.int g,.tuple (Num.rowsOf ps ds)]/\Num.LF n g/\Num.Part (n-1) ps/\ps.length<=29/\∀ i q k,ps[i]?=GZ (q,k)->Num.fQ q (ds i):=by
 cases h with
 | mk _ g ps ds h1 h2 h3 h4 h5 h6=>exact⟨g,ps,ds,rfl,h3,h4,h5,h6⟩
theorem fb {n:Int} {d:Hy} (h:Num.fQ n d):Num.Pm n/\n<=10^9:=by
 cases h with
 | mk _ _ _ _ a b=>exact⟨a,b⟩
theorem mO {H:Hp} {d1 d2 d3:Hy} {v:V} (h:dv K H (.tuple [d1,d2,d3]) v):∃ p x1 x2 x3,v=.ref p/\bE K H p [x1,x2,x3]/\dv K H d1 x1/\dv K H d2 x2/\dv K H d3 x3:=by obtain⟨p,xs,rfl,h1,x1,r1,rfl,e1,x2,r2,rfl,e2,x3,r3,rfl,e3,z⟩:=h;cases z;exact⟨p,x1,x2,x3,rfl,h1,e1,e2,e3⟩
theorem EX {n d:Int} (hn:1<n) (d2:2<=d) (no:∀ k,2<=k->k<d->¬k∣n) (h:n<d*d):Num.Pm n:=⟨by lia,λe e2 en hd=>by
 rcases (by lia:e<d∨d<=e) with z | z
 ·exact no e e2 z hd
 ·obtain⟨c,hc⟩:=hd;have c2:2<=c:=by
   rcases (by lia:c<=0∨c=1∨2<=c) with y | y | y
   ·have:=Iu (show 0<=e by lia) y;lia
   ·rw [y] at hc;lia
   ·exact y
  have cd:c<d:=by
   rcases (by lia:c<d∨d<=c) with y | y
   ·exact y
   ·have:=LI z y (by lia) (by lia);lia
  exact no c c2 cd ⟨e,by rw [hc,Ia]⟩⟩
theorem DN {n:Nat} (h2:2<=n) (h:∀ k,k<60->2<=k->¬k∣n) (hn:n<3600):Num.Pm (n:Int) :=
 EX (d:=60) (by lia) (by lia) (λk k2 kn hd=>h k.toNat (by lia) (by lia) (by
  have:(k.toNat:Int)=k:=by lia
  exact Hz.mp (by rw [this];exact hd))) (by lia)
def GL (row:Hy) (y:Int × Int):Prop:=∃ ds,row=.tuple [.tuple (.int y.1::ds),.int y.2]
def Ag (rows:List Hy) (ps:List (Int × Int)):Prop:=rows.length=ps.length/\∀(i:Nat) (row:Hy),rows[i]?=GZ row->∃ y,ps[i]?=GZ y/\GL row y
def qh (K:G1):Sp:=λvs H Q _=>∃(v:V) (rows:List Hy) (ps:List (Int × Int)),vs=[v]/\dv K H (.tuple rows) v/\Ag rows ps/\rows.length<=10^6/\∀ p us H',aw H H'->H p=none->H' p=GZ (.lst us)->aP K H' (ps.map kj) us->Q (.ref p) H'
theorem x5 {H:Hp} {rows:List Hy} {ps:List (Int × Int)} {xs:List V} (hd:aP K H rows xs) (h:Ag rows ps) {i:Nat} {x:V} (hx:xs[i]?=GZ x):∃ q k pt pq r,ps[i]?=GZ (q,k)/\x=.ref pt/\bE K H pt [.ref pq,.int k]/\bE K H pq (.int q::r):=by obtain⟨d,hd',hv⟩:=hd.get hx;obtain⟨⟨q,k⟩,hy,ds,rfl⟩:=h.2 i d hd';obtain⟨pt,ys,rfl,h1,x1,r1,rfl,e1,x2,r2,rfl,e2,z⟩:=hv;cases z;obtain⟨pq,zs,rfl,h2,y1,r3,rfl,f1,f2⟩:=e1;cases f1;cases e2;exact⟨q,k,pt,pq,r3,hy,rfl,h1,h2⟩
theorem b9:av ["parts"] ["parts"] (ak (top 16)):=dc
theorem rD (D:ay K mg "parting_in" (top 16)):Callee P w K mg base aQ 1 "parting_in" ["parts"] (qh K):=by
 refine cO (len:=by intro _ _ _ _ h;repeat (first | (obtain⟨rfl,_⟩:=h;exact rfl) | obtain⟨_,h⟩:=h)) D b9 (λf cdv A outer s H vs Q E hr h=>?_);obtain⟨v,rows,ps,rfl,hd,hh,h6,q⟩:=h;have nd:=b9.nd;refine⟨_,(ai (aA (dN rfl (lz (sub:=by repeat (first | exact True.intro | refine⟨rfl,?_⟩)) (has:=by repeat (first | exact True.intro | refine⟨rfl,?_⟩ | refine⟨True.intro,?_⟩)) (j:=by repeat (first | exact True.intro | refine⟨⟨rfl,rfl,.inl rfl,.inl rfl⟩,?_⟩)) (N':=["row"]) (js:=[none]) rfl rfl) (l6 (pv 0)) (λ_ _ _ _=>(aq (i:=0) (show IA [("row":HA)] from by decide +kernel) rfl (HL rfl) (.inr rfl))) (λ_ _ _ _=>aZ) (λ_ _ _ _=>(aL (aa (aG (bw K rfl) (aG (bw K rfl) (pv 0) ah (λ_ _=>rfl)) ah (λ_ _=>rfl)) (aa (aG (bw K rfl) (pv 0) ah (λ_ _=>rfl)) af))))))),?_⟩;show mG _ _ [GZ v] H;obtain⟨p,xs,rfl,hS,ht⟩:=hd;have xl:=ht.length;have rl:=hh.1;k_data;refine⟨⟨_,hS⟩,?_⟩;refine gO (xs:=xs) (λi zs H3=>aw H H3/\aP K H3 ((ps.take i).map kj) zs) ⟨aw.refl _,rfl⟩ (Hg (by lia) (show 10^6<=sizeLine by decide)) (λi zs H3 hi ⟨e1,e2⟩=>⟨hS.same e1,by rw [e2.length,G4,HB];lia⟩) ?_ ?_
 ·rintro i x zs H3 hx ⟨s3,hz⟩;obtain⟨q',k',pt,pq,r,hy,rfl,t1,t2⟩:=x5 ht hh hx;show cS 0 _ [none] _ _;k_data;refine⟨True.intro,bA (t1.same s3) kJ (bA (t2.same s3) kJ (bA (t1.same s3) rfl ⟨by show 2<=sizeLine;decide,λp4 hp4=>?_⟩))⟩;have s4:=aj (o:=.tup [V.int q',V.int k']) hp4;refine⟨s3.trans s4,?_⟩;rw [HI,hy,HQ];exact aP.append (aP.same s4 _ hz) (.one (dv.tup ag ⟨_,_,rfl,rfl,.one rfl⟩))
 ·rintro zs H3 p3 ⟨s3,hz⟩ hp3;rw [show xs.length=ps.length by lia,HY] at hz;exact q p3 zs _ (s3.trans (aj hp3)) (s3.free hp3) ag (aP.same (aj hp3) _ hz)
def zE:Sp:=λvs H Q _=>∃ n q:Int,vs=[.int n,.int q]/\0<=n/\n<=10^50/\2<=q/\q<=10^50/\∀ t:Nat,n<=q^(t+1)->Q (.int t) H
theorem iw:av ["n","prime","times","product"] ["n","prime"] (ak (top 21)):=dc
theorem A3 (D:ay K mg "most_times" (top 21)):Callee P w K mg base aQ 1 "most_times" ["n","prime"] zE:=by
 refine cO (len:=by intro _ _ _ _ h;repeat (first | (obtain⟨rfl,_⟩:=h;exact rfl) | obtain⟨_,h⟩:=h)) D iw (λf cdv A outer s H vs Q E hr h=>?_);obtain⟨n,q',rfl,n0,n9,q2,q9,q⟩:=h;have nd:=iw.nd;refine⟨_,(ae (bj (i:=2) nd ah) (ae (bj (i:=3) nd (pv 1)) (ae (bQ HC (aB fK (pv 3) (pv 0) (aC _)) (ae (fE (i:=3) nd rfl (HL rfl) (pv 1) (i4 iZ)) (ai (fE (i:=2) nd rfl (HL rfl) ah (i4 pF))))) (ai (aA (pv 2)))))),?_⟩;show bC _ _ _ [GZ (.int n),GZ (.int q'),none,none] H;k_data;refine bU (α:=Nat) (λt=>[GZ (.int n),GZ (.int q'),GZ (.int (t:Int)),GZ (.int (q'^(t+1)))]) (λt H1=>H1=H/\(t=0∨q'^t<n)) (λt=>(n-q'^(t+1)).toNat) 0 (by rw [Hu,HS,Jl];rfl) ⟨rfl,.inl rfl⟩ ?_;rintro t H1 ⟨rfl,ht⟩;replace ht:t=0∨q'^t<n:=ht;have p0:0<q'^(t+1):=Num.bK (by lia) _;k_data;refine aV (λc=>?_) (λc=>?_)
 ·have up:q'^(t+1)*2<=q'^(t+1)*q':=HK q2 (by lia);refine⟨_,λ_ _ z=>z,Bd.of (by lia) (by lia),Bd.of (by lia) (by lia),t+1,?_,rfl,.inr c,?_⟩
  ·rw [Hu q' (t+1)];rfl
  ·show (n-q'^(t+1+1)).toNat<(n-q'^(t+1)).toNat;rw [Hu q' (t+1)];lia
 ·exact q t (by lia)
def jt (K:G1):Sp:=λvs H Q _=>∃(n a:Int) (p:G6) (us:List V) (ps:List (Int × Int)),vs=[.int n,.int a,.ref p]/\0<n/\n<=10^60/\0<=a/\a<n/\H p=GZ (.lst us)/\aP K H (ps.map kj) us/\(∀ y∈ps,2<=y.1/\0<=y.2/\y.2<=10^6)/\∀ H',aw H H'->Q (.int (a^Num.eN ps%n)) H'
theorem kM (ps:List (Int × Int)) (q k:Int):Num.eN (ps++[(q,k)])=Num.eN ps*q.toNat^k.toNat:=by rw [Num.cK];show Num.eN ps*(q.toNat^k.toNat*1)=_;rw [KI]
theorem xR:∀{ps:List (Int × Int)},(∀ y∈ps,2<=y.1)->Num.eN ps≠0
 | [],_=>by decide
 | p::r,h=>by have:=h p (Hi ..);exact Nat.mul_ne_zero (K0 (K4 (by lia))) (xR λy z=>h y (Ha _ z))
theorem pow_step {n a q:Int} {M j:Nat} (n0:0<n):(a^(M*q.toNat^j)%n)^q.toNat%n=a^(M*q.toNat^(j+1))%n:=by rw [Num.Al.iff.mp ((Num.Al.rest n (a^(M*q.toNat^j))).pow q.toNat),Num.bp,Jq,Jn]
theorem ou:av ["n","a","parting","rest","prime","many","turn"] ["n","a","parting"] (ak (top 22)):=dc
theorem wg {C:G6} (D:ay K mg "raised" (top 22)) (Qe:Callee P w K mg base (d7 P w) 4 "power" ["n","a","e"] (cV C)) (K':mg "range"=none):Callee P w K mg base aQ 5 "raised" ["n","a","parting"] (jt K):=by
 refine cO (len:=by intro _ _ _ _ h;repeat (first | (obtain⟨rfl,_⟩:=h;exact rfl) | obtain⟨_,h⟩:=h)) D ou (λf cdv A outer s H vs Q E hr h=>?_);obtain⟨n,a,p,us,ps,rfl,n0,n9,a0,a1,hp,hd,hok,q⟩:=h;have nd:=ou.nd;refine⟨_,(ae (bj (i:=3) nd (pv 1)) (ae (bN HC rfl (aW (pv 2)) (bY (n:=2) rfl (az (aq (i:=4) nd rfl (HL rfl) (.inr rfl)) (az (aq (i:=5) nd rfl (HL rfl) (.inr rfl)) aT))) (ai (bN HC rfl (b8 rfl K' (aa (pv 5) af)) (aq (i:=6) nd rfl (HL rfl) (.inr rfl)) (ai (bj (i:=3) nd (bJ Qe hr aJ (aa (pv 0) (aa (pv 3) (aa (pv 4) af))))))))) (ai (aA (pv 3))))),?_⟩;show bC _ _ _ [GZ (.int n),GZ (.int a),GZ (.ref p),none,none,none,none] H;have ul:us.length=ps.length:=by rw [hd.length,G4]
 k_data;refine⟨⟨_,aM.of hp⟩,?_⟩;refine cL (xs:=us) (λi σ' H'=>aw H H'/\∃ o4 o5 o6,σ'=[GZ (.int n),GZ (.int a),GZ (.ref p),GZ (.int (a^Num.eN (ps.take i)%n)),o4,o5,o6]) ⟨aw.refl _,none,none,none,?_⟩ (λi σ' H' _ h=>aM.of (h.1 _ _ hp)) ?_ ?_
 ·show _=[_,_,_,GZ (V.int (a^1%n)),none,none,none];rw [NS,Ii a0 a1]
 ·rintro i x σ' H' hx ⟨s',o4,o5,o6,rfl⟩;obtain⟨d,hd',hv⟩:=hd.get hx;rw [He] at hd';obtain⟨⟨q',k'⟩,hy,rfl⟩:=Hj.mp hd';obtain⟨q2,k0,k6⟩:=hok _ (Hc hy);replace q2:2<=q':=q2;replace k0:0<=k':=k0;replace k6:k'<=10^6:=k6;obtain⟨pt,rfl,tt⟩:=jI hv;refine⟨pt,_,rfl,tt.same s',rfl,?_⟩;k_data;refine⟨by lia,by lia,?_⟩;refine cI (λj σ2 H2=>aw H H2/\∃ o6,σ2=[GZ (.int n),GZ (.int a),GZ (.ref p),GZ (.int (a^(Num.eN (ps.take i)*q'.toNat^j)%n)),GZ (.int q'),GZ (.int k'),o6]) ⟨s',o6,by rw [K3,KI]⟩ ?_ ?_
  ·rintro j σ2 H2 hj ⟨s2,o6,rfl⟩;k_data;refine⟨n,_,q',rfl,n0,by lia,λ_ H3 s3=>⟨s2.trans s3,?_⟩,λz=>absurd z (by lia)⟩;rw [pow_step n0]
  ·rintro σ2 H2 ⟨s2,o6,rfl⟩;refine⟨s2,GZ (.int q'),GZ (.int k'),o6,?_⟩;rw [HI,hy];show _=[_,_,_,GZ (V.int (a^Num.eN (ps.take i++[(q',k')])%n)),_,_,_];rw [kM]
 ·rintro σ' H' ⟨s',o4,o5,o6,rfl⟩;rw [ul,HY];k_data;exact q H' s'
def qj:Sp:=λvs H Q _=>∃(n a q:Int) (k:Nat),vs=[.int n,.int a,.int q]/\2<=n/\n<=10^60/\0<=a/\a<n/\2<=q/\a^q.toNat^k%n=1/\∀(t:Nat) H',t<=k->a^q.toNat^t%n=1->(∀ j,j<t->a^q.toNat^j%n≠1)->aw H H'->Q (.int t) H'
theorem fP:av ["n","a","prime","times","rest"] ["n","a","prime"] (ak (top 24)):=dc
theorem yQ {C:G6} (D:ay K mg "times_to_one" (top 24)) (Qe:Callee P w K mg base (d7 P w) 4 "power" ["n","a","e"] (cV C)):Callee P w K mg base aQ 5 "times_to_one" ["n","a","prime"] qj:=by
 refine cO (len:=by intro _ _ _ _ h;repeat (first | (obtain⟨rfl,_⟩:=h;exact rfl) | obtain⟨_,h⟩:=h)) D fP (λf cdv A outer s H vs Q E hr h=>?_);obtain⟨n,a,q',k,rfl,n2,n9,a0,a1,q2,hk,q⟩:=h;have nd:=fP.nd;refine⟨_,(ae (bj (i:=3) nd ah) (ae (bj (i:=4) nd (pv 1)) (ae (bQ HC (aB eC (pv 4) ah (aC _)) (ae (bj (i:=4) nd (bJ Qe hr aJ (aa (pv 0) (aa (pv 4) (aa (pv 2) af))))) (ai (fE (i:=3) nd rfl (HL rfl) ah (i4 pF))))) (ai (aA (pv 3)))))),?_⟩;show bC _ _ _ [GZ (.int n),GZ (.int a),GZ (.int q'),none,none] H;k_data;refine bU (α:=Nat) (λt=>[GZ (.int n),GZ (.int a),GZ (.int q'),GZ (.int (t:Int)),GZ (.int (a^q'.toNat^t%n))]) (λt H1=>aw H H1/\t<=k/\∀ j,j<t->a^q'.toNat^j%n≠1) (λt=>k-t) 0 (by rw [K3,NS,Ii a0 a1];rfl) ⟨aw.refl _,IV _,λj hj=>absurd hj (Na _)⟩ ?_;rintro t H1 ⟨s1,tk,no⟩;replace tk:t<=k:=tk;replace no:∀ j,j<t->a^q'.toNat^j%n≠1:=no;k_data;refine aV (λc=>?_) (λc=>?_)
 ·have tk':t≠k:=λz=>c (z▸hk);refine⟨_,λ_ _ z=>z,n,_,q',rfl,by lia,by lia,λ_ H2 s2=>⟨t+1,?_,s1.trans s2,by lia,λj hj=>?_,?_⟩,λz=>absurd z (by lia)⟩
  ·have:=pow_step (n:=n) (a:=a) (M:=1) (q:=q') (j:=t) (by lia);rw [QT,QT] at this;rw [this];rfl
  ·rcases (by lia:j<t∨j=t) with z | z
   ·exact no j z
   ·rw [z];exact c
  ·show k-(t+1)<k-t;lia
 ·exact q t H1 tk (by simpa using c) no s1
def kW (K:G1):Sp:=λvs H Q _=>∃(p:G6) (us:List V) (ps:List (Int × Int)),vs=[.ref p]/\H p=GZ (.lst us)/\aP K H (ps.map kj) us/\(∀ y∈ps,2<=y.1/\0<=y.2/\y.2<=10^6)/\Num.eN ps<=10^100/\∀ H',aw H H'->Q (.int (Num.eN ps)) H'
theorem xQ {ps:List (Int × Int)} (h:∀ y∈ps,2<=y.1) {i:Nat} {q k:Int} (hy:ps[i]?=GZ (q,k)) {j:Nat} (hj:j<=k.toNat):Num.eN (ps.take i)*q.toNat^j<=Num.eN ps/\q.toNat<=Num.eN (ps.take i)*q.toNat^k.toNat*Num.eN (ps.drop (i+1))*q.toNat:=by
 have pos:∀ l:List (Int × Int),(∀ y∈l,2<=y.1)->0<Num.eN l:=by
  intro l
  induction l with
  | nil=>intro _;exact QU
  | cons p r ih =>intro hl;have:=hl p (Hi ..);exact K2 (K4 (by lia)) (ih λy z=>hl y (Ha _ z))
 have q2:2<=q:=h _ (Hc hy);have e:ps=ps.take i++[(q,k)]++ps.drop (i+1):=by
  have h1:ps.take (i+1)=ps.take i++[(q,k)]:=by rw [HI,hy];rfl
  rw [<- h1,HZ]
 have p1:=pos (ps.take i) λy z=>h y (Iq z);have p2:=pos (ps.drop (i+1)) λy z=>h y (Jy z);have e2:Num.eN ps=Num.eN (ps.take i)*q.toNat^k.toNat*Num.eN (ps.drop (i+1)):=by have:Num.eN ps=Num.eN (ps.take i++[(q,k)]++ps.drop (i+1)):=congrArg _ e;rw [this,Num.cK,kM]
 have p3:0<q.toNat^k.toNat:=K4 (by lia);constructor
 ·rw [e2];refine Hg (PB _ (M3 (by lia) hj)) ?_;exact Og _ p2
 ·exact Kb _ (K2 (K2 p1 p3) p2)
theorem kA:av ["parting","whole","prime","many","turn"] ["parting"] (ak (top 8)):=dc
theorem yT (D:ay K mg "whole_of" (top 8)) (K':mg "range"=none):Callee P w K mg base aQ 1 "whole_of" ["parting"] (kW K):=by
 refine cO (len:=by intro _ _ _ _ h;repeat (first | (obtain⟨rfl,_⟩:=h;exact rfl) | obtain⟨_,h⟩:=h)) D kA (λf cdv A outer s H vs Q E hr h=>?_);obtain⟨p,us,ps,rfl,hp,hd,hok,h100,q⟩:=h;have nd:=kA.nd;refine⟨_,(ae (bj (i:=1) nd ah) (ae (bN HC rfl (aW (pv 0)) (bY (n:=2) rfl (az (aq (i:=2) nd rfl (HL rfl) (.inr rfl)) (az (aq (i:=3) nd rfl (HL rfl) (.inr rfl)) aT))) (ai (bN HC rfl (b8 rfl K' (aa (pv 3) af)) (aq (i:=4) nd rfl (HL rfl) (.inr rfl)) (ai (fE (i:=1) nd rfl (HL rfl) (pv 2) (i4 iZ)))))) (ai (aA (pv 1))))),?_⟩;show bC _ _ _ [GZ (.ref p),none,none,none,none] H;have ul:us.length=ps.length:=by rw [hd.length,G4]
 k_data;refine⟨⟨_,aM.of hp⟩,?_⟩;refine cL (xs:=us) (λi σ' H'=>aw H H'/\∃ o4 o5 o6,σ'=[GZ (.ref p),GZ (.int (Num.eN (ps.take i))),o4,o5,o6]) ⟨aw.refl _,none,none,none,rfl⟩ (λi σ' H' _ h=>aM.of (h.1 _ _ hp)) ?_ ?_
 ·rintro i x σ' H' hx ⟨s',o4,o5,o6,rfl⟩;obtain⟨d,hd',hv⟩:=hd.get hx;rw [He] at hd';obtain⟨⟨q',k'⟩,hy,rfl⟩:=Hj.mp hd';obtain⟨q2,k0,k6⟩:=hok _ (Hc hy);replace q2:2<=q':=q2;replace k0:0<=k':=k0;replace k6:k'<=10^6:=k6;obtain⟨pt,rfl,tt⟩:=jI hv;refine⟨pt,_,rfl,tt.same s',rfl,?_⟩;k_data;refine⟨by lia,by lia,?_⟩;refine cI (λj σ2 H2=>H2=H'/\∃ o6,σ2=[GZ (.ref p),GZ (.int ((Num.eN (ps.take i)*q'.toNat^j:Nat):Int)),GZ (.int q'),GZ (.int k'),o6]) ⟨rfl,o6,by rw [K3,KI]⟩ ?_ ?_
  ·rintro j σ2 H2 hj ⟨rfl,o6,rfl⟩;have g1:=(xQ (λy z=>(hok y z).1) hy (j:=j) (by lia)).1;have g2:=(xQ (λy z=>(hok y z).1) hy (j:=1) (by lia)).1;have qb:q'.toNat<=10^100:=by
    rw [SR] at g2;have:0<Num.eN (ps.take i):=by
     rcases Io (Num.eN (ps.take i)) with z | z
     ·exact absurd z (xR λy z=>(hok y (Iq z)).1)
     ·exact z
    have:=Kb q'.toNat this;lia
   k_data;refine⟨Bd.of (by lia) (by lia),Bd.of (by lia) (by lia),?_⟩;rw [Jq,<- Jn,Im _ q'.toNat,show (q'.toNat:Int)=q' by lia]
  ·rintro σ2 H2 ⟨rfl,o6,rfl⟩;refine⟨s',GZ (.int q'),GZ (.int k'),o6,?_⟩;rw [HI,hy];show _=[_,GZ (V.int (Num.eN (ps.take i++[(q',k')]):Nat)),_,_,_];rw [kM]
 ·rintro σ' H' ⟨s',o4,o5,o6,rfl⟩;rw [ul,HY];k_data;exact q H' s'
theorem aP.Cz {H:Hp}:∀(m:Nat) {ds:List Hy} {us:List V},aP K H ds us->aP K H (ds.take m) (us.take m)/\aP K H (ds.drop m) (us.drop m)
 | 0,ds,us,h=>⟨by simp only [NG];exact rfl,by simpa using h⟩
 | m+1,[],us,h=>by cases h;exact⟨rfl,rfl⟩
 | m+1,d::ds,us,h=>by obtain⟨x,r,rfl,h1,h2⟩:=h;have ih:=Cz m h2;exact⟨⟨x,_,rfl,h1,ih.1⟩,ih.2⟩
theorem xA {us:List V} {m:Nat} (h:m<=us.length):fV us none (GZ (m:Int))=us.take m:=by
 unfold fV;have e1:HT.mT us.length 0 none=0:=rfl;have e2:HT.mT us.length us.length (GZ (m:Int))=m:=by simp only [HT.mT];split<;>lia
 rw [e1,e2,Ry,OA]
theorem xx {us:List V} {m:Nat} (h:m<=us.length):fV us (GZ (m:Int)) none=us.drop m:=by
 unfold fV;have e1:HT.mT us.length us.length none=us.length:=rfl;have e2:HT.mT us.length 0 (GZ (m:Int))=m:=by simp only [HT.mT];split<;>lia
 rw [e1,e2];exact II (by rw [JU];lia)
def ju (K:G1) (L:Nat):Sp:=λvs H Q _=>∃(n a:Int) (p:G6) (us:List V) (ps:List (Int × Int)),vs=[.int n,.int a,.ref p]/\(1<=L/\ps.length<=2^(L-1))/\ps.length<=10^6/\2<=n/\n<=10^60/\0<=a/\a<n/\H p=GZ (.lst us)/\aP K H (ps.map kj) us/\(∀ y∈ps,Num.Pm y.1/\0<=y.2/\y.2<=10^6)/\ps.Pairwise (λx y=>y.1≠x.1)/\a^Num.eN ps%n=1 /\
 ∀ pt ts H',Num.TO n a ps ts->aw H H'->H pt=none->H' pt=GZ (.lst (ts.map V.int))->Q (.ref pt) H'
theorem cU:av ["n","a","parting","half","ahead","behind"] ["n","a","parting"] (ak (top 23)):=dc
theorem wq (D:ay K mg "times_in_order" (top 23)):Callee P w K mg base aQ 6 "times_in_order" ["n","a","parting"] (ju K 0):=by refine cO (len:=by intro _ _ _ _ h;repeat (first | (obtain⟨rfl,_⟩:=h;exact rfl) | obtain⟨_,h⟩:=h)) D cU (λf cdv A outer s H vs Q E hr h=>?_);obtain⟨n,a,p,us,ps,rfl,hL,_⟩:=h;exact absurd hL.1 (by decide)
theorem wt {L:Nat} (D:ay K mg "times_in_order" (top 23)) (c_raised:Callee P w K mg base aQ 5 "raised" ["n","a","parting"] (jt K)) (c_times_to_one:Callee P w K mg base aQ 5 "times_to_one" ["n","a","prime"] qj) (c_times_in_order:Callee P w K mg base aQ (L+6) "times_in_order" ["n","a","parting"] (ju K L)) (f':mg "len"=none):Callee P w K mg base aQ (L+7) "times_in_order" ["n","a","parting"] (ju K (L+1)):=by
 refine cO (len:=by intro _ _ _ _ h;repeat (first | (obtain⟨rfl,_⟩:=h;exact rfl) | obtain⟨_,h⟩:=h)) D cU (λf cdv A outer s H vs Q E hr h=>?_);obtain⟨n,a,p,us,ps,rfl,hL,h6,n2,n9,a0,a1,hp,hd,hok,pw,h1,q⟩:=h;have nd:=cU.nd;refine⟨_,(ae (aU (aB cM (aF bf rfl f' Ir (aa (pv 2) af)) ah (aC _)) (ai (aA (bX af))) aH) (ae (aU (aB cM (aF bf rfl f' Ir (aa (pv 2) af)) ah (aC _)) (ai (aA (bX (aa (cT c_times_to_one (hr.mono (by lia)) rfl aE (aa (pv 0) (aa (pv 1) (aa (aG aS (aG bG (pv 2) ah (λ_ _=>rfl)) ah (λ_ _=>rfl)) af)))) af)))) aH) (ae (bj (i:=3) nd (au bI (aF bf rfl f' Ir (aa (pv 2) af)) ah)) (ae (bj (i:=4) nd (lZ qd (pv 2) uU (gW (pv 3)))) (ae (bj (i:=5) nd (lZ qd (pv 2) (gW (pv 3)) uU)) (ai (aA (au yU (cT c_times_in_order (hr.mono (by lia)) rfl aE (aa (pv 0) (aa (cT c_raised (hr.mono (by lia)) rfl aE (aa (pv 0) (aa (pv 1) (aa (pv 5) af)))) (aa (pv 4) af)))) (cT c_times_in_order (hr.mono (by lia)) rfl aE (aa (pv 0) (aa (cT c_raised (hr.mono (by lia)) rfl aE (aa (pv 0) (aa (pv 1) (aa (pv 4) af)))) (aa (pv 5) af)))))))))))),?_⟩;show bC _ _ _ [GZ (.int n),GZ (.int a),GZ (.ref p),none,none,none] H;have ul:us.length=ps.length:=by rw [hd.length,G4]
 k_data;refine df (aM.of hp) ⟨rfl,?_⟩;refine aV (λc=>?_) (λc=>?_)
 ·have e0:ps=[]:=Lh (by injection c;lia);subst e0;refine⟨by show 0<=sizeLine;decide,λp1 hp1=>q p1 [] _ (.none ?_) (aj hp1) hp1 ag⟩;have:a^1%n=1:=h1;rw [NS] at this;exact Num.Al.iff.mpr (by rw [this];exact (Ii (by lia) (by lia)).symm)
 refine df (aM.of hp) ⟨rfl,?_⟩;refine aV (λc1=>?_) (λc1=>?_)
 ·have l1:ps.length=1:=by injection c1;lia
  obtain⟨⟨q',k'⟩,rfl⟩:∃ y,ps=[y]:=by
   cases ps with
   | nil=>cases l1
   | cons y r=>cases r with
    | nil=>exact⟨y,rfl⟩
    | cons _ _=>simp at l1
  obtain⟨pq,k0,k6⟩:=hok (q',k') (Ho.mpr rfl);replace pq:Num.Pm q':=pq;obtain⟨u,r,rfl,hv,z⟩:=hd;cases z;obtain⟨pt,rfl,tt⟩:=jI hv;refine kS (aM.of hp) (by lia) (by show (0:Int)<1;decide) λv hv=>?_;have ev:v=V.ref pt:=Ho.mp hv;subst ev;have h1':a^q'.toNat^k'.toNat%n=1:=by
   have:a^(q'.toNat^k'.toNat*1)%n=1:=h1
   rwa [KI] at this
  refine bA tt kJ ⟨n,a,q',k'.toNat,rfl,n2,n9,a0,a1,pq.two,h1',λt H1 _ t1 t2 s1=>⟨by show 1<=sizeLine;decide,λp2 hp2=>?_⟩⟩;refine q p2 [(t:Int)] _ (.one pq ((eQ n2).mp t1) λj hj z=>t2 j hj ((eQ n2).mpr z)) (s1.trans (aj hp2)) (s1.free hp2) ag
 have l2:2<=ps.length:=by have h0:us.length≠0:=λz=>c (by rw [z];rfl);have h1:us.length≠1:=λz=>c1 (by rw [z];rfl);lia
 refine df (aM.of hp) ⟨_,rfl,Bd.of (by lia) (by lia),?_⟩;obtain⟨m,em,m1,m2⟩:∃ m:Nat,(us.length:Int)/2=m/\1<=m/\m=ps.length/2:=⟨us.length/2,by lia,by lia,by lia⟩
 rw [em];refine⟨p,us,rfl,aM.of hp,λpa hpa=>?_⟩;rw [xA (by lia)];have s1:=aj (o:=.lst (us.take m)) hpa;have ea:upd H pa (.lst (us.take m)) pa=GZ (.lst (us.take m)):=ag;generalize upd H pa _=H1 at *;refine⟨p,us,rfl,aM.of (s1 _ _ hp),λpb hpb=>?_⟩;rw [xx (by lia)];have s2:=aj (o:=.lst (us.drop m)) hpb;have eb:upd H1 pb (.lst (us.drop m)) pb=GZ (.lst (us.drop m)):=ag;generalize upd H1 pb _=H2 at *;have S2:=s1.trans s2;have hT:=aP.Cz m (aP.same S2 _ hd);rw [<- List.map_take,<- List.map_drop] at hT;have okA:∀ y∈ps.take m,Num.Pm y.1/\0<=y.2/\y.2<=10^6:=λy z=>hok y (Iq z);have okB:∀ y∈ps.drop m,Num.Pm y.1/\0<=y.2/\y.2<=10^6:=λy z=>hok y (Jy z);have ne:∀ x∈ps.take m,∀ y∈ps.drop m,y.1≠x.1:=by rw [<- HZ m ps,HG] at pw;exact pw.2.2
 have pwA:(ps.take m).Pairwise (λx y=>y.1≠x.1):=pw.sublist (Ml ..);have pwB:(ps.drop m).Pairwise (λx y=>y.1≠x.1):=pw.sublist (NX ..);have h1A:Num.Al n (a^(Num.eN (ps.take m)*Num.eN (ps.drop m))) 1:=by rw [<- Num.cK,HZ];exact (eQ n2).mp h1
 have lA:(ps.take m).length<=2^(L-1)/\(ps.drop m).length<=2^(L-1)/\1<=L:=by
  have hL2:ps.length<=2^L:=hL.2;have L1:1<=L:=by
   rcases Io L with z | z
   ·subst z;simp at hL2;lia
   ·exact z
  obtain⟨L',rfl⟩:∃ L',L=L'+1:=⟨L-1,by lia⟩
  rw [Jq] at hL2;rw [HB,JU];refine⟨?_,?_,by lia⟩<;>(simp only [L6];lia)
 have md:∀ e:Nat,0<=a^e%n/\a^e%n<n:=λe=>⟨Hl _ (by lia),Hk _ (by lia)⟩
 have p1:∀ e E:Nat,Num.Al n (a^(e*E)) 1->(a^e%n)^E%n=1:=λe E z=>by rw [Num.Al.iff.mp ((Num.Al.rest n (a^e)).pow E),Num.bp];exact (eQ n2).mpr z
 refine⟨n,a,pb,_,ps.drop m,rfl,by lia,n9,a0,a1,eb,hT.2,λy z=>⟨(okB y z).1.two,(okB y z).2⟩,λH3 s3=>?_⟩;refine⟨n,_,pa,_,ps.take m,rfl,⟨lA.2.2,lA.1⟩,by rw [HB];lia,n2,n9,(md _).1,(md _).2,s3 _ _ (s2 _ _ ea),aP.same s3 _ hT.1,okA,pwA,p1 _ _ (by rw [Ij];exact h1A),λpt ts H4 hTO s4 f4 e4=>?_⟩;have S4:=s3.trans s4;refine⟨n,a,pa,_,ps.take m,rfl,by lia,n9,a0,a1,S4 _ _ (s2 _ _ ea),aP.same S4 _ hT.1,λy z=>⟨(okA y z).1.two,(okA y z).2⟩,λH5 s5=>?_⟩;refine⟨n,_,pb,_,ps.drop m,rfl,⟨lA.2.2,lA.2.1⟩,by rw [JU];lia,n2,n9,(md _).1,(md _).2,s5 _ _ (S4 _ _ eb),aP.same (S4.trans s5) _ hT.2,okB,pwB,p1 _ _ h1A,λpt2 ts2 H6 hTO2 s6 f6 e6=>?_⟩;have tl:(ts.map V.int).length+(ts2.map V.int).length<=10^6:=by rw [G4,G4,hTO.len,hTO2.len,HB,JU];lia
 refine⟨pt,pt2,_,_,rfl,rfl,s6 _ _ (s5 _ _ e4),e6,Hg tl (by decide),λpl hpl=>?_⟩;have S6:=((S2.trans S4).trans s5).trans s6;have:=Num.TO.two (λy z=>(okA y z).1) (λy z=>(okB y z).1) ne (by rw [Num.cK];exact h1A) (hTO.al (Num.Al.rest n _)) (hTO2.al (Num.Al.rest n _));rw [HZ] at this;refine q pl (ts++ts2) _ this (S6.trans (aj hpl)) (S6.free hpl) ?_;rw [HQ];exact ag
theorem rF (D:ay K mg "times_in_order" (top 23)) (c_raised:Callee P w K mg base aQ 5 "raised" ["n","a","parting"] (jt K)) (c_times_to_one:Callee P w K mg base aQ 5 "times_to_one" ["n","a","prime"] qj) (f':mg "len"=none):∀ L:Nat,Callee P w K mg base aQ (L+6) "times_in_order" ["n","a","parting"] (ju K L)
 | 0=>wq D
 | L+1=>wt D c_raised c_times_to_one (rF D c_raised c_times_to_one f' L) f'
def vm (K:G1):Sp:=λvs H Q _=>∃(p:G6) (xs:List V) (rows:List Hy) (ps:List (Int × Int)),vs=[.ref p]/\H p=GZ (.lst xs)/\aP K H rows xs/\Ag rows ps/\rows.length<=10^6/\∀ p us H',aw H H'->H p=none->H' p=GZ (.lst us)->aP K H' (ps.map kj) us->Q (.ref p) H'
theorem yJ (D:ay K mg "parting_in" (top 16)):Callee P w K mg base aQ 1 "parting_in" ["parts"] (vm K):=by
 refine cO (len:=by intro _ _ _ _ h;repeat (first | (obtain⟨rfl,_⟩:=h;exact rfl) | obtain⟨_,h⟩:=h)) D b9 (λf cdv A outer s H vs Q E hr h=>?_);obtain⟨p,xs,rows,ps,rfl,hS,ht,hh,h6,q⟩:=h;have nd:=b9.nd;refine⟨_,(ai (aA (dN rfl (lz (sub:=by repeat (first | exact True.intro | refine⟨rfl,?_⟩)) (has:=by repeat (first | exact True.intro | refine⟨rfl,?_⟩ | refine⟨True.intro,?_⟩)) (j:=by repeat (first | exact True.intro | refine⟨⟨rfl,rfl,.inl rfl,.inl rfl⟩,?_⟩)) (N':=["row"]) (js:=[none]) rfl rfl) (aW (pv 0)) (λ_ _ _ _=>(aq (i:=0) (show IA [("row":HA)] from by decide +kernel) rfl (HL rfl) (.inr rfl))) (λ_ _ _ _=>aZ) (λ_ _ _ _=>(aL (aa (aG (bw K rfl) (aG (bw K rfl) (pv 0) ah (λ_ _=>rfl)) ah (λ_ _=>rfl)) (aa (aG (bw K rfl) (pv 0) ah (λ_ _=>rfl)) af))))))),?_⟩;show mG _ _ [GZ (.ref p)] H;have xl:=ht.length;have rl:=hh.1;k_data;refine⟨⟨_,aM.of hS⟩,?_⟩;refine bh (xs:=xs) (λi zs H3=>aw H H3/\aP K H3 ((ps.take i).map kj) zs) ⟨aw.refl _,rfl⟩ (Hg (by lia) (show 10^6<=sizeLine by decide)) (λi zs H3 hi ⟨e1,e2⟩=>⟨aM.of (e1 _ _ hS),by rw [e2.length,G4,HB];lia⟩) ?_ ?_
 ·rintro i x zs H3 hx ⟨s3,hz⟩;obtain⟨q',k',pt,pq,r,hy,rfl,t1,t2⟩:=x5 ht hh hx;show cS 0 _ [none] _ _;k_data;refine⟨True.intro,bA (t1.same s3) kJ (bA (t2.same s3) kJ (bA (t1.same s3) rfl ⟨by show 2<=sizeLine;decide,λp4 hp4=>?_⟩))⟩;have s4:=aj (o:=.tup [V.int q',V.int k']) hp4;refine⟨s3.trans s4,?_⟩;rw [HI,hy,HQ];exact aP.append (aP.same s4 _ hz) (.one (dv.tup ag ⟨_,_,rfl,rfl,.one rfl⟩))
 ·rintro zs H3 p3 ⟨s3,hz⟩ hp3;rw [show xs.length=ps.length by lia,HY] at hz;exact q p3 zs _ (s3.trans (aj hp3)) (s3.free hp3) ag (aP.same (aj hp3) _ hz)
noncomputable def iG (p a e:Int) (y:Hy × Int × Int):Hy:=.tuple [y.1,.int y.2.2,.int (a^(e/y.2.1).toNat%p)]
noncomputable def kf (ps:List (Int × Int)) (ds:Nat->Hy) (ts:List Int) (i:Nat):Option (Hy × Int × Int):=match ps[i]?,ts[i]? with
 | some y,GZ t=>if 0<t then GZ (ds i,y.1,t) else none
 | _,_=>none
noncomputable def cj (ps:List (Int × Int)) (ds:Nat->Hy) (ts:List Int) (n:Nat):List (Hy × Int × Int):=(IY n).filterMap (kf ps ds ts)
noncomputable def dF (ps:List (Int × Int)) (ds:Nat->Hy) (ts:List Int):List (Hy × Int × Int):=cj ps ds ts ps.length
theorem fY {ps:List (Int × Int)} {ds:Nat->Hy} {ts:List Int} {i:Nat} {q k t:Int} (hp:ps[i]?=GZ (q,k)) (ht:ts[i]?=GZ t):cj ps ds ts (i+1)=cj ps ds ts i++(if 0<t then [(ds i,q,t)] else []):=by
 unfold cj;rw [KZ,List.filterMap_append];congr 1;have:kf ps ds ts i=if 0<t then GZ (ds i,q,t) else none:=by unfold kf;rw [hp,ht]
 by_cases c:0<t
 ·rw [if_pos c] at this ⊢;simp [this]
 ·rw [if_neg c] at this ⊢;simp [this]
theorem iD {ps:List (Int × Int)} {ds:Nat->Hy} {ts:List Int} {n:Nat} {y:Hy × Int × Int} (h:y∈cj ps ds ts n):∃ i k,ps[i]?=GZ (y.2.1,k)/\ts[i]?=GZ y.2.2/\0<y.2.2/\y.1=ds i:=by
 unfold cj at h;obtain⟨i,_,e⟩:=Nw.mp h;unfold kf at e;cases hp:ps[i]? with
 | none=>rw [hp] at e;cases e
 | some z =>
  cases ht:ts[i]? with
  | none=>rw [hp,ht] at e;cases e
  | some t =>
   rw [hp,ht] at e;by_cases c:0<t
   ·have e':(if 0<t then GZ (ds i,z.1,t) else none)=GZ y:=e;rw [if_pos c] at e';cases e';exact⟨i,z.2,hp,ht,c,rfl⟩
   ·have e':(if 0<t then GZ (ds i,z.1,t) else none)=GZ y:=e;rw [if_neg c] at e';cases e'
theorem lL {ps:List (Int × Int)} {ds:Nat->Hy} {ts:List Int} {n:Nat}:(cj ps ds ts n).length<=n:=by unfold cj;exact Hg (List.length_filterMap_le ..) (by rw [Jb];exact Hd _)
noncomputable def kp (y:Hy × Int × Int):Int × Int:=(y.2.1,y.2.2)
noncomputable def kD (y:Hy × Int × Int):Hy:=.tuple [y.1,.int y.2.2]
theorem jP {ps:List (Int × Int)} {ds:Nat->Hy} {ts:List Int} (hl:ts.length=ps.length) (h0:∀ t∈ts,0<=t):∀ n,n<=ps.length->Num.eN ((cj ps ds ts n).map kp)=Num.eN (((ps.map (·.1)).zip ts).take n)
 | 0,_=>rfl
 | n+1,h=>by
  have ih:=jP (ds:=ds) hl h0 n (by lia);have hp:ps[n]?=GZ (ps[n].1,ps[n].2):=Hf (by lia);have ht:ts[n]?=GZ ts[n]:=Hf (by lia);have hz:((ps.map (·.1)).zip ts)[n]?=GZ (ps[n].1,ts[n]):=by rw [Ki];exact⟨by rw [He,hp];rfl,ht⟩
  rw [fY hp ht,HI,hz,HQ,Num.cK,ih];show _=Num.eN (((ps.map (·.1)).zip ts).take n++[(ps[n].1,ts[n])]);rw [kM];have t0:=h0 ts[n] (List.getElem_mem _);by_cases c:0<ts[n]
  ·rw [if_pos c];show _*(ps[n].1.toNat^ts[n].toNat*1)=_;rw [KI]
  ·rw [if_neg c,show ts[n].toNat=0 by lia,K3];rfl
theorem BY {ps:List (Int × Int)} {ds:Nat->Hy} (h:∀ i q k,ps[i]?=GZ (q,k)->Num.fQ q (ds i)):Ag (Num.rowsOf ps ds) ps:=by refine⟨Num.cJ,λi row hr=>?_⟩;have hi:=(G9.mp hr).1;rw [Num.cJ] at hi;have hg:ps[i]?=GZ (ps[i].1,ps[i].2):=Hf hi;rw [Num.mv hg] at hr;cases hr;obtain⟨g,rows,e⟩:=(h i _ _ hg).head;exact⟨_,hg,_,by rw [e]⟩
theorem Bp {H:Hp} {ps:List (Int × Int)} {ds:Nat->Hy} {xs:List V} (hd:aP K H (Num.rowsOf ps ds) xs) {i:Nat} {x:V} (hx:xs[i]?=GZ x):∃ q k pt u,ps[i]?=GZ (q,k)/\x=.ref pt/\bE K H pt [u,.int k]/\dv K H (ds i) u:=by obtain⟨d,hd',hv⟩:=hd.get hx;have hi:=(G9.mp hd').1;rw [Num.cJ] at hi;have hg:=Hf hi;rw [Num.mv hg] at hd';cases hd';obtain⟨pt,ys,rfl,h1,x1,r1,rfl,e1,x2,r2,rfl,e2,z⟩:=hv;cases z;cases e2;exact⟨ps[i].1,ps[i].2,pt,x1,hg,rfl,h1,e1⟩
def zH (K:G1):Sp:=λvs H Q _=>∃(v:V) (p a g:Int) (ps:List (Int × Int)) (ds:Nat->Hy),vs=[.int p,.int a,v]/\dv K H (.tuple (Num.rowsOf ps ds)) v/\Num.fQ p (.tuple [.int p,.int g,.tuple (Num.rowsOf ps ds)])/\Num.Part (p-1) ps/\ps.length<=29/\(∀ i q k,ps[i]?=GZ (q,k)->Num.fQ q (ds i))/\¬p∣a /\ -(10^60)<=a/\a<=10^60 /\
 ∀(e:Int) (ts:List Int) (u:V) (H':Hp),1<=e->e<p->Num.Ord p a e.toNat->Num.TO p a ps ts->aw H H'->dv K H' (.tuple [.int e,.tuple ((dF ps ds ts).map (iG p a e))]) u->Q u H'
theorem ix:av ["n","a","parts","parting","times","kept","e"] ["n","a","parts"] (ak (top 20)):=dc
theorem pL {C:G6} (D:ay K mg "order_from" (top 20)) (c_parting_in:Callee P w K mg base aQ 1 "parting_in" ["parts"] (qh K)) (c_parting_inL:Callee P w K mg base aQ 1 "parting_in" ["parts"] (vm K)) (c_most_times:Callee P w K mg base aQ 1 "most_times" ["n","prime"] zE) (c_raised:Callee P w K mg base aQ 5 "raised" ["n","a","parting"] (jt K)) (c_times_in_order:Callee P w K mg base aQ 12 "times_in_order" ["n","a","parting"] (ju K 6)) (c_whole_of:Callee P w K mg base aQ 1 "whole_of" ["parting"] (kW K)) (Qe:Callee P w K mg base (d7 P w) 4 "power" ["n","a","e"] (cV C)) (n_min:mg "min"=none) (Qu:mg "zip"=none) (J':mg "tuple"=none):Callee P w K mg base aQ 13 "order_from" ["n","a","parts"] (zH K):=by
 refine cO (len:=by intro _ _ _ _ h;repeat (first | (obtain⟨rfl,_⟩:=h;exact rfl) | obtain⟨_,h⟩:=h)) D ix (λf cdv A outer s H vs Q E hr h=>?_);obtain⟨v,p,a,g,ps,ds,rfl,hd,hp,hP,hl29,hds,na,a0,a1,q⟩:=h;obtain⟨pm,p9⟩:=fb hp;have p2:=pm.two;have nd:=ix.nd;refine⟨_,(ae (gX (i0:=3) nd rfl (HL rfl) rfl (lz (sub:=by repeat (first | exact True.intro | refine⟨rfl,?_⟩)) (has:=by repeat (first | exact True.intro | refine⟨rfl,?_⟩ | refine⟨True.intro,?_⟩)) (j:=by repeat (first | exact True.intro | refine⟨⟨rfl,rfl,.inl rfl,.inl rfl⟩,?_⟩)) (N':=["prime","many","n"]) (js:=[none,none,GZ 0]) rfl rfl) (aW (bJ c_parting_in hr aE (aa (pv 2) af))) (λ_ _ _ _=>(fC K rfl (n:=2) rfl (az (aq (i:=0) (show IA [("prime":HA),("many":HA),("n":HA)] from by decide +kernel) rfl (HL rfl) (.inr rfl)) (az (aq (i:=1) (show IA [("prime":HA),("many":HA),("n":HA)] from by decide +kernel) rfl (HL rfl) (.inr rfl)) aT)))) (λ_ _ _ _=>aZ) (λ_ _ _ _=>(aL (aa (pv 0) (aa (aF (vE rfl) rfl n_min L2.boot_min (aa (pv 1) (aa (bJ c_most_times hr aE (aa (pv 2) (aa (pv 0) af))) af))) af)))) (by rfl) (by first | exact .inl rfl | exact .inr rfl)) (ae (aU (aB eC (bJ c_raised hr aE (aa (pv 0) (aa (au aK (pv 1) (pv 0)) (aa (pv 3) af)))) ah (aC _)) zm aH) (gN.kh (ae (bj (i:=4) nd (bJ c_times_in_order hr aE (aa (pv 0) (aa (au aK (pv 1) (pv 0)) (aa (pv 3) af))))) (ae (gX (i0:=5) nd rfl (HL rfl) rfl (lz (sub:=by repeat (first | exact True.intro | refine⟨rfl,?_⟩)) (has:=by repeat (first | exact True.intro | refine⟨rfl,?_⟩ | refine⟨True.intro,?_⟩)) (j:=by repeat (first | exact True.intro | refine⟨⟨rfl,rfl,.inl rfl,.inl rfl⟩,?_⟩)) (N':=["row","many"]) (js:=[none,none]) rfl rfl) (ue .t .l rfl Qu (aa (pv 2) (aa (pv 4) af))) (λ_ _ _ _=>(fC K rfl (n:=2) rfl (az (aq (i:=0) (show IA [("row":HA),("many":HA)] from by decide +kernel) rfl (HL rfl) (.inr rfl)) (az (aq (i:=1) (show IA [("row":HA),("many":HA)] from by decide +kernel) rfl (HL rfl) (.inr rfl)) aT)))) (λ_ _ _ _=>(fc (aB eY (pv 1) ah (aC _)))) (λ_ _ _ _=>(aL (aa (aG (bw K rfl) (pv 0) ah (λ_ _=>rfl)) (aa (pv 1) af)))) (by rfl) (by first | exact .inl rfl | exact .inr rfl)) (ae (iI (i:=6) nd rfl (MJ rfl) (bJ c_whole_of hr aE (aa (bJ c_parting_inL hr aE (aa (pv 5) af)) af))) (ai (aA (aL (aa (pv 6) (aa (dQ cu rfl J' L2.boot_tuple (aa (dN rfl (lz (sub:=by repeat (first | exact True.intro | refine⟨rfl,?_⟩)) (has:=by repeat (first | exact True.intro | refine⟨rfl,?_⟩ | refine⟨True.intro,?_⟩)) (j:=by repeat (first | exact True.intro | refine⟨⟨rfl,rfl,.inl rfl,.inl rfl⟩,?_⟩)) (N':=["paper","many","n","a","e"]) (js:=[none,none,GZ 0,GZ 1,GZ 6]) rfl rfl) (aW (pv 5)) (λ_ _ _ _=>(fC K rfl (n:=2) rfl (az (aq (i:=0) (show IA [("paper":HA),("many":HA),("n":HA),("a":HA),("e":HA)] from by decide +kernel) rfl (HL rfl) (.inr rfl)) (az (aq (i:=1) (show IA [("paper":HA),("many":HA),("n":HA),("a":HA),("e":HA)] from by decide +kernel) rfl (HL rfl) (.inr rfl)) aT)))) (λ_ _ _ _=>aZ) (λ_ _ _ _=>(aL (aa (pv 0) (aa (pv 1) (aa (bJ Qe hr aJ (aa (pv 2) (aa (pv 3) (aa (au bI (pv 4) (aG (bw K rfl) (pv 0) ah (λ_ _=>rfl))) af)))) af)))))) af)) af))))))))))),?_⟩;show bC _ _ _ [GZ (.int p),GZ (.int a),GZ v,none,none,none,none] H;obtain⟨pr,xs,rfl,hSr,hdr⟩:=hd;have xl:xs.length=ps.length:=by rw [hdr.length,Num.cJ]
 have eE:Num.eN ps=(p-1).toNat:=by have:=Num.fv ps λy z=>(hP.ok y z).1;rw [hP.prod] at this;lia
 have big:∀{zs:List (Int × Int)},(∀ y∈zs,2<=y.1)->Num.eN zs<=(p-1).toNat->∀{i:Nat} {q k:Int},zs[i]?=GZ (q,k)->q.toNat^k.toNat<=(p-1).toNat/\k<=29:=by
  intro zs h2 hz i q k hy;have g1:=(xQ h2 hy (j:=k.toNat) (Hd _)).1;have e0:Num.eN (zs.take i)≠0:=xR λy z=>h2 y (Iq z);have g2:q.toNat^k.toNat<=(p-1).toNat:=Hg (Kb _ (Nat.pos_of_ne_zero e0)) (Hg g1 hz);have q2:2<=q:=h2 _ (Hc hy);have g3:(2:Int)^k.toNat<=q^k.toNat:=Num.two_pow_le q2 _;have g4:q^k.toNat=((q.toNat^k.toNat:Nat):Int):=by rw [M7,show (q.toNat:Int)=q by lia]
  have g5:k.toNat<=29:=Num.two_le (by lia);exact⟨g2,by lia⟩
 have okP:∀ y∈ps,Num.Pm y.1/\0<=y.2/\y.2<=10^6:=λy hy=>by obtain⟨o1,o2,_⟩:=hP.ok y hy;obtain⟨i,hi⟩:=JQ.mp hy;have:=(big (λy z=>(hP.ok y z).1.two) (Mi eE) hi).2;exact⟨o1,by lia,by lia⟩
 have pwP:ps.Pairwise (λx y=>y.1≠x.1):=hP.rise.imp λh=>by lia
 k_data;refine⟨.ref pr,_,ps,rfl,⟨pr,xs,rfl,hSr,hdr⟩,BY hds,by rw [Num.cJ];lia,λp1 us1 H1 s1 f1 e1 d1=>?_⟩;refine⟨p1,rfl,⟨_,aM.of e1⟩,?_⟩;have ul:us1.length=ps.length:=by rw [d1.length,G4]
 refine bh (xs:=us1) (λi zs H3=>aw H1 H3/\aP K H3 ((ps.take i).map kj) zs) ⟨aw.refl _,rfl⟩ (by rw [ul];exact Hg hl29 (by decide)) (λi zs H3 hi ⟨z1,z2⟩=>⟨aM.of (z1 _ _ e1),by rw [z2.length,G4,HB];lia⟩) ?_ ?_
 ·rintro i x zs H3 hx ⟨s3,hz⟩;obtain⟨d,hd',hv⟩:=d1.get hx;rw [He] at hd';obtain⟨⟨q',k'⟩,hy,rfl⟩:=Hj.mp hd';obtain⟨pq,k0,k6⟩:=okP _ (Hc hy);replace pq:Num.Pm q':=pq;replace k0:0<=k':=k0;have q2:=pq.two;obtain⟨pt,rfl,tt⟩:=jI hv;have qb:=(big (λy z=>(okP y z).1.two) (Mi eE) hy).1;have q9:q'<=10^9:=by have:=(Ba hP (by lia) q' (HE.mpr ⟨_,Hc hy,rfl⟩)).2;lia
  show vR K 2 _ _ [none,none,GZ (.int p)] _ _;refine⟨pt,_,rfl,tt.same s3,rfl,?_⟩;k_data;refine⟨⟨rfl,True.intro⟩,p,q',rfl,by lia,by lia,q2,by lia,λt ht=>⟨(t:Int),rfl,by show 2<=sizeLine;decide,λp4 hp4=>?_⟩⟩;have em:(if (t:Int)<k' then (t:Int) else k')=k':=by
   rw [if_neg];intro z;have g4:q'^(t+1)=((q'.toNat^(t+1):Nat):Int):=by rw [M7,show (q'.toNat:Int)=q' by lia]
   have g5:q'.toNat^(t+1)<=q'.toNat^k'.toNat:=M3 (by lia) (by lia);lia
  rw [em];have s4:=aj (o:=.tup [V.int q',V.int k']) hp4;refine⟨s3.trans s4,?_⟩;rw [HI,hy,HQ];exact aP.append (aP.same s4 _ hz) (.one (dv.tup ag ⟨_,_,rfl,rfl,.one rfl⟩))
 ·rintro zs H3 p3 ⟨s3,hz⟩ hp3;rw [ul,HY] at hz;have s4:=aj (o:=.lst zs) hp3;have e4:upd H3 p3 (.lst zs) p3=GZ (.lst zs):=ag;generalize upd H3 p3 _=H4 at *;have S4:=(s1.trans s3).trans s4;have d4:=aP.same s4 _ hz;have r0:=Hl a (show p≠0 by lia);have r1:=Hk a (show 0<p by lia);have one:(a%p)^Num.eN ps%p=1:=by rw [eE];exact (eQ p2).mpr (((Num.Al.rest p a).pow _).trans (Num.jM pm na))
  refine⟨by lia,p,a%p,p3,zs,ps,rfl,by lia,by lia,r0,r1,e4,d4,λy z=>⟨(okP y z).1.two,(okP y z).2⟩,λH5 s5=>⟨rfl,?_⟩⟩;rw [one,if_neg (by intro z;exact z rfl)];refine⟨by lia,p,a%p,p3,zs,ps,rfl,⟨by decide,by show ps.length<=32;lia⟩,by lia,p2,by lia,r0,r1,s5 _ _ e4,aP.same s5 _ d4,okP,pwP,one,λp6 ts H6 hTO s6 f6 e6=>?_⟩;have hTO':=hTO.al (Num.Al.rest p a);have S6:=(S4.trans s5).trans s6;have tl:ts.length=ps.length:=hTO.len;have eZ:Num.eN ((cj ps ds ts ps.length).map kp)=Num.eN ((ps.map (·.1)).zip ts):=by rw [jP tl hTO.nn _ (Hd _),II];rw [Rb,G4];lia
  have oE:=hTO'.ord;rw [<- eZ] at oE;have eP:0<Num.eN ((cj ps ds ts ps.length).map kp)/\Num.eN ((cj ps ds ts ps.length).map kp)<=(p-1).toNat:=by refine⟨oE.pos,La (by lia) (oE.dv _ (Num.jM pm na))⟩
  k_data;refine⟨⟨xs,hSr.same S6⟩,⟨_,aM.of e6⟩,?_⟩;refine vG (xs:=xs) (ys:=ts.map V.int) (λi zs H7=>aw H6 H7/\aP K H7 ((cj ps ds ts i).map kD) zs) ⟨aw.refl _,rfl⟩ (by rw [G4,tl,xl]) (by rw [xl];exact Hg hl29 (by decide)) (λi zs H7 hi ⟨z1,z2⟩=>⟨hSr.same (S6.trans z1),aM.of (z1 _ _ e6),by rw [z2.length,G4];exact lL⟩) ?_ ?_
  ·rintro i x y zs H7 p7 hx hy ⟨s7,hz7⟩ hp7;obtain⟨q',k',pt,u,hpi,rfl,t1,t2⟩:=Bp hdr hx;rw [He] at hy;obtain⟨t,ht,rfl⟩:=Hj.mp hy;have s8:=aj (o:=.tup [V.ref pt,V.int t]) hp7;show vR K 2 _ _ [none,none] _ _;refine⟨p7,_,rfl,bE.of ag,rfl,?_⟩;generalize upd H7 p7 _=H8 at *;have S8:=(S6.trans s7).trans s8;rw [fY hpi ht];k_data;refine⟨True.intro,aV (λc=>?_) (λc=>?_)⟩
   ·rw [if_pos c];refine bA (t1.same S8) kJ ⟨by show 2<=sizeLine;decide,λp9 hp9=>?_⟩;have s9:=aj (o:=.tup [u,V.int t]) hp9;refine⟨(s7.trans s8).trans s9,?_⟩;rw [HQ];exact aP.append (aP.same (s8.trans s9) _ hz7) (.one (dv.tup ag ⟨_,_,rfl,dv.same (S8.trans s9) _ t2,.one rfl⟩))
   ·rw [if_neg c,Jj];exact⟨s7.trans s8,aP.same s8 _ hz7⟩
  ·rintro zs H7 p7 ⟨s7,hz7⟩ hp7;rw [xl] at hz7;have s8:=aj (o:=.lst zs) hp7;have e8:upd H7 p7 (.lst zs) p7=GZ (.lst zs):=ag;generalize upd H7 p7 _=H8 at *;have S8:=(S6.trans s7).trans s8;have d8:=aP.same s8 _ hz7;have kl:(cj ps ds ts ps.length).length<=29:=Hg lL hl29;have kmem:∀ y∈cj ps ds ts ps.length,Num.Pm y.2.1/\0<y.2.2/\y.2.2<=29/\Num.fQ y.2.1 y.1:=λy hy=>by
    obtain⟨i,k,h1,h2,h3,h4⟩:=iD hy;have hz:((ps.map (·.1)).zip ts)[i]?=GZ (y.2.1,y.2.2):=by rw [Ki];exact⟨by rw [He,h1];rfl,h2⟩
    have h5:=(big (zs:=(ps.map (·.1)).zip ts) (λz hz=>by
     have:=(LV (show (z.1,z.2)∈_ from hz)).1;obtain⟨w',hw',e⟩:=HE.mp this;rw [<- e];exact (okP w' hw').1.two) (by rw [<- eZ];exact eP.2) hz).2
    exact⟨(okP _ (Hc h1)).1,h3,h5,by rw [h4];exact hds i _ _ h1⟩
   obtain⟨ks,hks⟩:∃ ks,cj ps ds ts ps.length=ks:=⟨_,rfl⟩
   rw [hks] at eZ oE eP kl kmem d8;have zl:zs.length=ks.length:=by rw [d8.length,G4]
   refine⟨p7,zs,ks.map kD,ks.map kp,rfl,e8,d8,⟨by rw [G4,G4],λi row hr=>?_⟩,by rw [G4];lia,λp9 us9 H9 s9 f9 e9 d9=>?_⟩
   ·rw [He] at hr;obtain⟨y,hy,rfl⟩:=Hj.mp hr;obtain⟨g',rows',e'⟩:=(kmem y (Hc hy)).2.2.2.head;exact⟨kp y,by rw [He,hy];rfl,_,by show Sr [y.1,.int y.2.2]=_;rw [e'];rfl⟩
   refine⟨p9,us9,_,rfl,e9,d9,λy hy=>?_,by lia,λH10 s10=>?_⟩
   ·obtain⟨z,hz,rfl⟩:=HE.mp hy;obtain⟨m1,m2,m3,_⟩:=kmem z hz;exact⟨m1.two,by show 0<=z.2.2;lia,by show z.2.2<=10^6;lia⟩
   have S10:=s9.trans s10;refine⟨p7,rfl,⟨_,aM.of (S10 _ _ e8)⟩,?_⟩;have eb:(1:Int)<=(Num.eN (ks.map kp):Int)/\(Num.eN (ks.map kp):Int)<p:=by lia
   have oE':Num.Ord p a ((Num.eN (ks.map kp):Int)).toNat:=by rw [IH];exact oE
   generalize (Num.eN (ks.map kp):Int)=e at *;refine bh (xs:=zs) (λi rs H11=>aw H10 H11/\aP K H11 ((ks.take i).map (iG p a e)) rs) ⟨aw.refl _,rfl⟩ (by rw [zl];exact Hg kl (by decide)) (λi rs H11 hi ⟨z1,z2⟩=>⟨aM.of (z1 _ _ (S10 _ _ e8)),by rw [z2.length,G4,HB];lia⟩) ?_ ?_
   ·rintro i x rs H11 hx ⟨s11,hr⟩;obtain⟨d,hd',hv⟩:=(aP.same (S10.trans s11) _ d8).get hx;rw [He] at hd';obtain⟨y,hy,rfl⟩:=Hj.mp hd';obtain⟨m1,m2,m3,m4⟩:=kmem y (Hc hy);obtain⟨pt,ys,rfl,h1,x1,r1,rfl,e1',x2,r2,rfl,e2',z⟩:=hv;cases z;cases e2';have e1d:=e1';obtain⟨g',rows',e'⟩:=m4.head;rw [e'] at e1';obtain⟨pq,zs',rfl,h2,y1,r3,rfl,f1',f2⟩:=e1';cases f1';have q2:=m1.two;have q9:=(fb m4).2;show vR K 2 _ _ [none,none,GZ (.int p),GZ (.int a),GZ (.int e)] _ _;refine⟨pt,_,rfl,h1,rfl,?_⟩;k_data;refine⟨⟨rfl,rfl,rfl,True.intro⟩,bA h2 kJ ⟨y.2.1,rfl,by lia,Bd.of (by lia) (by lia),p,a,e/y.2.1,rfl,by lia,by lia,λ_ H12 s12=>⟨by show 3<=sizeLine;decide,λp13 hp13=>?_⟩,λz=>absurd z (by have:=JB (show 0<=e by lia) (show 0<=y.2.1 by lia);lia)⟩⟩;have s13:=aj (o:=.tup [V.ref pq,V.int y.2.2,V.int (a^(e/y.2.1).toNat%p)]) hp13;refine⟨(s11.trans s12).trans s13,?_⟩;rw [HI,hy,HQ];exact aP.append (aP.same (s12.trans s13) _ hr) (.one (dv.tup ag ⟨_,_,rfl,dv.same (s12.trans s13) _ e1d,_,_,rfl,rfl,.one rfl⟩))
   ·rintro rs H11 p11 ⟨s11,hr⟩ hp11;rw [zl,HY] at hr;have s12:=aj (o:=.lst rs) hp11;refine⟨p11,rfl,rs,.inl ⟨aM.of ag,λl hl'=>⟨by show 2<=sizeLine;decide,λp13 hp13=>?_⟩⟩⟩;generalize upd H11 p11 _=H12 at *;have s13:=aj (o:=.tup rs) hl';have e13:upd H12 l (.tup rs) l=GZ (.tup rs):=ag;generalize upd H12 l _=H13 at *;have s14:=aj (o:=.tup [V.int e,V.ref l]) hp13;have ek:dF ps ds ts=ks:=hks;refine q e ts _ _ eb.1 eb.2 oE' hTO' (((((S8.trans S10).trans s11).trans s12).trans s13).trans s14) ?_;rw [ek];exact dv.tup ag ⟨_,_,rfl,rfl,.one (dv.tup (s14 _ _ e13) (aP.same ((s12.trans s13).trans s14) _ hr))⟩
def CT (p a:Int) (rows:Hy) (r:Hy):Prop:=∃(e:Int) (ps:List (Int × Int)) (ds:Nat->Hy) (ts:List Int),rows=.tuple (Num.rowsOf ps ds)/\Num.Part (p-1) ps/\ps.length<=29/\(∀ i q k,ps[i]?=GZ (q,k)->Num.fQ q (ds i))/\1<=e/\e<p/\Num.Ord p a e.toNat/\Num.TO p a ps ts/\r=.tuple [.int e,.tuple ((dF ps ds ts).map (iG p a e))]
def vi (K:G1) (C:G6):Sp:=λvs H Q E=>∃(v:V) (p a g:Int) (rows:Hy),vs=[v,.int a]/\dv K H (.tuple [.int p,.int g,rows]) v/\Num.fQ p (.tuple [.int p,.int g,rows]) /\ -(10^60)<=a/\a<=10^60/\(p∣a->Ft C H E) /\
 (¬p∣a->∀ r u H',CT p a rows r->aw H H'->dv K H' r u->Q u H')
theorem rW:av ["paper","a","p","full","parts"] ["paper","a"] (ak (top 25)):=dc
theorem yH {C:G6} (D:ay K mg "order" (top 25)) (c_order_from:Callee P w K mg base aQ 13 "order_from" ["n","a","parts"] (zH K)) (x_Nought:xk K mg "Nought" C):Callee P w K mg base (d7 P w) 14 "order" ["paper","a"] (vi K C):=by
 refine cX (len:=by intro _ _ _ _ h;repeat (first | (obtain⟨rfl,_⟩:=h;exact rfl) | obtain⟨_,h⟩:=h)) D rW (λf cdv A outer s H vs Q E hr h=>?_);obtain⟨v,p,a,g,rows,rfl,hd,hp,a0,a1,q1,q2⟩:=h;obtain⟨pm,p9⟩:=fb hp;have p2:=pm.two;have nd:=rW.nd;refine⟨_,(ae (dW (pv 0) (bY (n:=3) rfl (az (aq (i:=2) nd rfl (HL rfl) (.inr rfl)) (az (aq (i:=3) nd rfl (HL rfl) (.inr rfl)) (az (aq (i:=4) nd rfl (HL rfl) (.inr rfl)) aT))))) (ae (aU (aB cM (au aK (pv 1) (pv 2)) ah (aC _)) (ai (dX (ud x_Nought rfl))) aH) (gN.kh (ai (aA (bJ c_order_from hr aE (aa (pv 2) (aa (pv 1) (aa (pv 4) af))))))))),?_⟩;show bC _ _ _ [GZ v,GZ (.int a),none,none,none] H;obtain⟨g',ps,ds,eq,hg,hP,hl29,hds⟩:=gT hp;cases eq;obtain⟨pp,y1,y2,vr,rfl,tS,e0,eg,dr⟩:=mO hd;cases e0;cases eg;k_data;refine⟨pp,_,rfl,tS,rfl,?_⟩;k_data;refine⟨by lia,aV (λc=>?_) (λc=>?_)⟩
 ·exact λx hx=>gP x_Nought.cls (aw.refl _) hx (q1 (HD c))
 ·have na:¬p∣a:=λz=>c (Ig z);exact⟨vr,p,a,g,ps,ds,rfl,dr,hp,hP,hl29,hds,na,a0,a1,λe ts u H' e1 e2 o t s' hu=>q2 na _ u H' ⟨e,ps,ds,ts,rfl,hP,hl29,hds,e1,e2,o,t,rfl⟩ s' hu⟩
def PW (p a k y:Int):Prop:=∃ b:Int,(0<=k/\b=a∨k<0/\p∣b*a-1)/\y=b^k.natAbs%p
theorem kL {H:Hp} {m n:Int} {v:V} (h:dv K H (kj (m,n)) v):∃ q,v=.ref q/\bE K H q [.int m,.int n]:=by obtain⟨q,xs,e,h1,h2⟩:=h;obtain⟨x,r,e1,d1,h3⟩:=h2;obtain⟨y,r',e2,d2,h4⟩:=h3;cases h4;cases d1;cases d2;subst e1;subst e2;exact⟨q,e,h1⟩
theorem Eg {a b g u v:Int} (ha:0<a) (z:Gcd.CC a b g u v):Crt.G a b g:=by
 refine⟨?_,z.da,z.db,⟨u,v,z.lin⟩⟩;have:=z.g0;rcases (by lia:g=0∨0<g) with e | e
 ·have h:=z.da;rw [e] at h;have:=Nr.mp h;lia
 ·exact e
theorem AY {g x:Int}:(!decide (x%g=0))=decide (¬g∣x):=by
 by_cases h:g∣x
 ·rw [Ig h];simp [h]
 ·have:¬x%g=0:=λz=>h (HD z);simp [h,this]
theorem F1 {a d L:Int} (hd:0<d) (h0:-L<=a) (h1:a<=L):-L<=a/d/\a/d<=L:=by
 have L0:0<=L:=by lia
 have h2:L*1<=L*d:=HK (show 1<=d by lia) L0;refine⟨MC hd (by rw [OX];lia),OP hd (by lia)⟩
theorem Ef {M m g:Int} (hm:0<m) (G:Crt.G M m g):0<m/g/\m/g<=m/\Gd (m/g) (M/g) 1:=by
 have g0:=G.pos;obtain⟨A,hA⟩:=G.da;obtain⟨L,hL⟩:=G.db;have e1:m/g=L:=by rw [hL];exact HW _ (by lia)
 have e2:M/g=A:=by rw [hA];exact HW _ (by lia)
 obtain⟨u,v,e⟩:=G.lin;have e4:u*A+v*L=1:=Jg (show g≠0 by lia) (Crt.a1 (by rw [hA,hL] at e;exact e));rw [e1,e2];have L0:0<L:=by
  rcases (by lia:L<=0∨0<L) with z | z
  ·have:=Iu (IT g0) z;lia
  ·exact z
 refine⟨L0,?_,by decide,QV _,QV _,λd h1 h2=>?_⟩
 ·rw [hL];have:=Il (show 1<=g by lia) (IT L0);lia
 ·rw [<- e4];exact Jx (Hh h2) (Hh h1)
def vd (K:G1):Sp:=λvs H Q _=>∃(v1 v2:V) (m n m' n':Int),vs=[v1,v2]/\dv K H (kj (m,n)) v1/\dv K H (kj (m',n')) v2/\0<m/\m<=10^20/\0<m'/\m'<=10^20/\∀ g H',Crt.G m m' g->aw H H'->Q (.bl (decide (¬g∣n-n'))) H'
theorem ji:av ["one","other"] ["one","other"] (ak (top 36)):=dc
theorem yC (D:ay K mg "are_apart" (top 36)) (c_divisor:Callee P w K mg base aQ 1 "divisor" ["a","b"] dS):Callee P w K mg base aQ 2 "are_apart" ["one","other"] (vd K):=by refine cO (len:=by intro _ _ _ _ h;repeat (first | (obtain⟨rfl,_⟩:=h;exact rfl) | obtain⟨_,h⟩:=h)) D ji (λf cdv A outer s H vs Q E hr h=>?_);obtain⟨v1,v2,m,n,m',n',rfl,h1,h2,hm,hm1,hm',hm1',q⟩:=h;obtain⟨q1,rfl,t1⟩:=kL h1;obtain⟨q2,rfl,t2⟩:=kL h2;have nd:=ji.nd;refine⟨_,(ai (aA (dy eC (au aK (au cp (aG aS (pv 0) ah (λ_ _=>rfl)) (aG aS (pv 1) ah (λ_ _=>rfl))) (aG aS (bJ c_divisor hr aE (aa (aG aS (pv 0) ah (λ_ _=>rfl)) (aa (aG aS (pv 1) ah (λ_ _=>rfl)) af))) ah (λ_ _=>rfl))) ah (aC _)))),?_⟩;show mG _ _ [GZ (.ref q1),GZ (.ref q2)] H;k_data;refine bA t1 rfl (bA t2 rfl ⟨n,rfl,n',rfl,bA t1 rfl (bA t2 rfl ?_)⟩);refine⟨m,m',rfl,⟨by lia,by lia⟩,⟨by lia,by lia⟩,λg u v p H1 z s1 e1=>?_⟩;have G:=Eg hm z;refine bA (bE.of e1) rfl ⟨g,rfl,G.pos,?_⟩;rw [AY];exact q g H1 G s1
def zD (K:G1):Sp:=λvs H Q _=>∃(v1 v2:V) (M N m n:Int),vs=[v1,v2]/\dv K H (kj (M,N)) v1/\dv K H (kj (m,n)) v2/\0<M/\M<=10^220/\0<=N/\N<M/\0<m/\m<=10^20 /\ -(10^80)<=n/\n<=10^80/\(∀ g,Crt.G M m g->g∣n-N) /\
 ∀ p W x H',Crt.CD M N m n W x->W<=M*m->aw H H'->H p=none->H' p=GZ (.tup [.int W,.int x])->Q (.ref p) H'
theorem fj:av ["one","other","modulus","number","other_modulus","other_number","g","left","times","whole"] ["one","other"] (ak (top 37)):=dc
theorem A1 {C:G6} (D:ay K mg "both_together" (top 37)) (c_divisor:Callee P w K mg base aQ 1 "divisor" ["a","b"] dS) (c_inverse:Callee P w K mg base (d7 P w) 3 "inverse" ["n","a"] (dU C)):Callee P w K mg base aQ 4 "both_together" ["one","other"] (zD K):=by refine cO (len:=by intro _ _ _ _ h;repeat (first | (obtain⟨rfl,_⟩:=h;exact rfl) | obtain⟨_,h⟩:=h)) D fj (λf cdv A outer s H vs Q E hr h=>?_);obtain⟨v1,v2,M,N,m,n,rfl,h1,h2,hM,hM1,hN,hN1,hm,hm1,hn,hn1,hd,q⟩:=h;obtain⟨q1,rfl,t1⟩:=kL h1;obtain⟨q2,rfl,t2⟩:=kL h2;have nd:=fj.nd;refine⟨_,(ae (dW (pv 0) (bY (n:=2) rfl (az (aq (i:=2) nd rfl (HL rfl) (.inr rfl)) (az (aq (i:=3) nd rfl (HL rfl) (.inr rfl)) aT)))) (ae (dW (pv 1) (bY (n:=2) rfl (az (aq (i:=4) nd rfl (HL rfl) (.inr rfl)) (az (aq (i:=5) nd rfl (HL rfl) (.inr rfl)) aT)))) (ae (bj (i:=6) nd (aG aS (bJ c_divisor hr aE (aa (pv 2) (aa (pv 4) af))) ah (λ_ _=>rfl))) (ae (bj (i:=7) nd (au bI (pv 4) (pv 6))) (ae (bj (i:=8) nd (au aK (au aI (au bI (au cp (pv 5) (pv 3)) (pv 6)) (bJ c_inverse hr aJ (aa (pv 7) (aa (au bI (pv 2) (pv 6)) af)))) (pv 7))) (ae (bj (i:=9) nd (au aI (pv 2) (pv 7))) (ai (aA (aL (aa (pv 9) (aa (au aK (au cq (pv 3) (au aI (pv 2) (pv 8))) (pv 9)) af))))))))))),?_⟩;show bC _ _ _ [GZ (.ref q1),GZ (.ref q2),none,none,none,none,none,none,none,none] H;k_data;refine⟨q1,_,rfl,t1,rfl,?_⟩;k_data;refine⟨q2,_,rfl,t2,rfl,?_⟩;k_data;refine⟨M,m,rfl,⟨by lia,by lia⟩,⟨by lia,by lia⟩,λg u v p H1 z s1 e1=>?_⟩;have G:=Eg hM z;have g0:=G.pos;have gm:g<=m:=Hx hm G.db;refine bA (bE.of e1) rfl ?_;k_data;obtain⟨L0,L1,GD⟩:=Ef hm G;have qb:=F1 (a:=n-N) (d:=g) (L:=10^221) g0 (by lia) (by lia);have bg:Bd g:=Bd.of (by lia) (by lia);refine⟨g0,bg,g0,bg,g0,bg,m/g,M/g,rfl,L0,by lia,λg' G'=>⟨λ_ r H2 r0 r1 r2 s2=>?_,λz=>absurd z (by have:=GD.one G';lia)⟩⟩;have B:=Crt.both (N:=N) (n:=n) (r:=r) hM hm G (hd g G) r2;have W1:M*(m/g)<=M*m:=HK L1 (IT hM);have t0:=Hl ((n-N)/g*r) (show m/g≠0 by lia);have t1':=Hk ((n-N)/g*r) L0;refine⟨r,rfl,Bd.of (by lia) (by lia),Bd.of (by lia) (by lia),L0,Bd.of (by lia) (by lia),Bd.of (by lia) (by lia),Bd.of (by lia) (by lia),Bd.of (by lia) (by lia),B.pos,by show 2<=sizeLine;decide,λp3 hp3=>?_⟩;exact q p3 _ _ _ B W1 ((s1.trans s2).D5 hp3) ((s1.trans s2).free hp3) ag
def Ap (pls:List (Int × Int)) (i j:Nat):Prop:=∃ p q g,pls[i]?=GZ p/\pls[j]?=GZ q/\Crt.G p.1 q.1 g/\¬g∣p.2-q.2
def DB (p:Int × Int):Prop:=0<p.1/\p.1<=10^18 /\ -(10^80)<=p.2/\p.2<=10^80
def vf (K:G1):Sp:=λvs H Q _=>∃(a:G6) (us:List V) (pls:List (Int × Int)),vs=[.ref a]/\aM K H a us/\aP K H (pls.map kj) us/\(∀ p∈pls,DB p)/\pls.length<=20 /\
 (∀ i j p H',i<j->Ap pls i j->(∀ i' j',i'<j'->(i'<i∨(i'=i/\j'<j))->¬Ap pls i' j')->aw H H'->H p=none->H' p=GZ (.tup [.int (i:Nat),.int (j:Nat)])->Q (.ref p) H') /\
 (∀ H',(∀ i j,i<j->¬Ap pls i j)->aw H H'->Q .non H')
theorem gH:av ["places","i","one","j","other"] ["places"] (ak (top 35)):=dc
theorem yD (D:ay K mg "first_apart" (top 35)) (c_are_apart:Callee P w K mg base aQ 2 "are_apart" ["one","other"] (vd K)) (n_enumerate:mg "enumerate"=none):Callee P w K mg base aQ 3 "first_apart" ["places"] (vf K):=by
 refine cO (len:=by intro _ _ _ _ h;repeat (first | (obtain⟨rfl,_⟩:=h;exact rfl) | obtain⟨_,h⟩:=h)) D gH (λf cdv A outer s H vs Q E hr h=>?_);obtain⟨a,us,pls,rfl,hS,hd,hok,hlen,q1,q2⟩:=h;have nd:=gH.nd;refine⟨_,(ae (bN HC rfl (pR rfl n_enumerate (aa (pv 0) af)) (bY (n:=2) rfl (az (aq (i:=1) nd rfl (HL rfl) (.inr rfl)) (az (aq (i:=2) nd rfl (HL rfl) (.inr rfl)) aT))) (ai (bN HC rfl (pR rfl n_enumerate (aa (pv 0) af)) (bY (n:=2) rfl (az (aq (i:=3) nd rfl (HL rfl) (.inr rfl)) (az (aq (i:=4) nd rfl (HL rfl) (.inr rfl)) aT))) (ai (aU (PW.pt (uj (aB fK (pv 1) (pv 3) (aC _)) (pV (bR (bJ c_are_apart hr aE (aa (pv 2) (aa (pv 4) af))) (λ_=>rfl))))) (ai (aA (aL (aa (pv 1) (aa (pv 3) af))))) aH))))) (ai (aA c9))),?_⟩;show bC _ _ _ [GZ (.ref a),none,none,none,none] H;k_data;have hul:us.length=pls.length:=by rw [hd.length,G4]
 have at_:∀{k:Nat} {x:V},us[k]?=GZ x->∃ p,pls[k]?=GZ p/\DB p/\dv K H (kj p) x:=by intro k x hx;obtain⟨d,e,hv⟩:=hd.get hx;rw [He] at e;obtain⟨p,e1,e2⟩:=Hj.mp e;subst e2;exact⟨p,e1,hok p (Hc e1),hv⟩
 refine⟨⟨_,hS⟩,?_⟩;refine jS (xs:=us) (λi σ' H'=>(∃ o1 o2 o3 o4:Option V,σ'=[GZ (.ref a),o1,o2,o3,o4])/\aw H H'/\∀ i' j',i'<j'->i'<i->¬Ap pls i' j') ⟨⟨_,_,_,_,rfl⟩,aw.refl _,λ_ _ _ z=>absurd z (by lia)⟩ (λi σ' H' _ h=>hS.same h.2.1) ?_ ?_
 ·rintro i x σ' H' p hx ⟨⟨o1,o2,o3,o4,rfl⟩,hs,hno⟩ hp;have s1:=hs.trans (aj (o:=.tup [.int i,x]) hp);refine⟨p,_,rfl,bE.of ag,rfl,?_⟩;generalize upd H' p _=H1 at *;k_data;refine⟨⟨_,hS.same s1⟩,?_⟩;refine jS (xs:=us) (λj σ' H2=>(∃ o3 o4:Option V,σ'=[GZ (.ref a),GZ (.int (i:Int)),GZ x,o3,o4])/\aw H H2/\∀ j',j'<j->i<j'->¬Ap pls i j') ⟨⟨_,_,rfl⟩,s1,λ_ z=>absurd z (by lia)⟩ (λj σ' H2 _ h=>hS.same h.2.1) ?_ ?_
  ·rintro j y σ' H2 p2 hy ⟨⟨o3,o4,rfl⟩,hs2,hno2⟩ hp2;have s3:=hs2.trans (aj (o:=.tup [.int j,y]) hp2);refine⟨p2,_,rfl,bE.of ag,rfl,?_⟩;generalize upd H2 p2 _=H3 at *;k_data;refine aV (λc=>?_) (λc=>?_)
   ·obtain⟨pi,ei,oi,di⟩:=at_ hx;obtain⟨pj,ej,oj,dj⟩:=at_ hy;refine⟨x,y,pi.1,pi.2,pj.1,pj.2,rfl,dv.same s3 _ di,dv.same s3 _ dj,oi.1,IZ oi.2.1 (by decide),oj.1,IZ oj.2.1 (by decide),λg H4 G s4=>⟨_,kX.mpr rfl,?_⟩⟩;by_cases dvd:g∣pi.2-pj.2
    ·rw [if_neg (by simp [dvd])];refine⟨s3.trans s4,λj' z1 z2=>?_⟩;rcases (by lia:j'<j∨j'=j) with z | z
     ·exact hno2 j' z z2
     ·subst z;rintro⟨p',q',g',e1,e2,e3,e4⟩;rw [ei] at e1;cases e1;rw [ej] at e2;cases e2;obtain rfl:=G.one e3;exact e4 dvd
    ·rw [if_pos (by simp [dvd])];refine⟨by show 2<=sizeLine;decide,λp3 hp3=>?_⟩;refine q1 i j p3 _ (by lia) ⟨pi,pj,g,ei,ej,G,dvd⟩ (λi' j' z1 z2=>?_) ((s3.trans s4).D5 hp3) ((s3.trans s4).free hp3) ag;rcases z2 with z2 | ⟨z2,z3⟩
     ·exact hno i' j' z1 z2
     ·subst z2;exact hno2 j' z3 z1
   ·refine⟨s3,λj' z1 z2=>?_⟩;rcases (by lia:j'<j∨j'=j) with z | z
    ·exact hno2 j' z z2
    ·lia
  ·rintro σ' H2 ⟨⟨o3,o4,rfl⟩,hs2,hno2⟩;refine⟨⟨_,_,_,_,rfl⟩,hs2,λi' j' z1 z2=>?_⟩;rcases (by lia:i'<i∨i'=i) with z | z
   ·exact hno i' j' z1 z
   ·subst z;by_cases z3:j'<us.length
    ·exact hno2 j' z3 z1
    ·rintro⟨p',q',g',e1,e2,e3,e4⟩;have:=(G9.mp e2).1;lia
 ·rintro σ' H' ⟨⟨o1,o2,o3,o4,rfl⟩,hs,hno⟩;k_data;refine q2 H' (λi j z=>?_) hs;by_cases z3:i<us.length
  ·exact hno i j z z3
  ·rintro⟨p',q',g',e1,e2,e3,e4⟩;have:=(G9.mp e1).1;lia
def zI (K:G1):Sp:=λvs H Q _=>∃(a:G6) (us:List V) (pls:List (Int × Int)),vs=[.ref a]/\aM K H a us/\aP K H (pls.map kj) us/\(∀ p∈pls,DB p)/\pls.length<=12 /\
 (∀ i j p H',i<j->Ap pls i j->(∀ i' j',i'<j'->(i'<i∨(i'=i/\j'<j))->¬Ap pls i' j')->aw H H'->H p=none->H' p=GZ (.tup [.str "apart",.int (i:Nat),.int (j:Nat)])->Q (.ref p) H') /\
 (∀ W x p H',(∀ i j,i<j->¬Ap pls i j)->Crt.Told pls W x->W<=10^220->aw H H'->H p=none->H' p=GZ (.tup [.int W,.int x])->Q (.ref p) H')
theorem fO:av ["places","apart","told","place"] ["places"] (ak (top 34)):=dc
theorem DF (D:ay K mg "put_together" (top 34)) (c_first_apart:Callee P w K mg base aQ 3 "first_apart" ["places"] (vf K)) (c_both_together:Callee P w K mg base aQ 4 "both_together" ["one","other"] (zD K)):Callee P w K mg base aQ 5 "put_together" ["places"] (zI K):=by
 refine cO (len:=by intro _ _ _ _ h;repeat (first | (obtain⟨rfl,_⟩:=h;exact rfl) | obtain⟨_,h⟩:=h)) D fO (λf cdv A outer s H vs Q E hr h=>?_);obtain⟨a,us,pls,rfl,hS,hd,hok,hlen,q1,q2⟩:=h;have nd:=fO.nd;refine⟨_,(ae (bj (i:=1) nd (bJ c_first_apart hr aE (aa (pv 0) af))) (ae (aU (aB i7 (pv 1) c9 (aC _)) (ai (aA (aL (aa bF (aa (aG aS (pv 1) ah (λ_ _=>rfl)) (aa (aG aS (pv 1) ah (λ_ _=>rfl)) af)))))) aH) (ae (bj (i:=2) nd (aL (aa ah (aa ah af)))) (ae (bN HC rfl (aW (pv 0)) (aq (i:=3) nd rfl (HL rfl) (.inr rfl)) (ai (bj (i:=2) nd (bJ c_both_together hr aE (aa (pv 2) (aa (pv 3) af)))))) (ai (aA (pv 2))))))),?_⟩;show bC _ _ _ [GZ (.ref a),none,none,none] H;k_data;have hul:us.length=pls.length:=by rw [hd.length,G4]
 refine⟨a,us,pls,rfl,hS,hd,hok,by lia,λi j p H1 ij ap no s1 f1 e1=>?_,λH1 no s1=>?_⟩
 ·show ite _ _ _;rw [if_pos (by intro z;cases z)];refine bA (bE.of e1) rfl (bA (bE.of e1) rfl ⟨by show 3<=sizeLine;decide,λp2 hp2=>?_⟩);exact q1 i j p2 _ ij ap no (s1.D5 hp2) (s1.free hp2) ag
 show ite _ _ _;rw [if_neg (by simp)];refine⟨by show 2<=sizeLine;decide,λp hp=>?_⟩;have s2:=s1.trans (aj (o:=.tup [V.int 1,V.int 0]) hp);refine⟨⟨_,hS.same s2⟩,?_⟩;have pw:∀ i:Nat,i<=12->(10:Int)^(18*i)<=10^216:=by decide
 refine cL (xs:=us) (λi σ' H'=>∃(r:G6) (M N:Int) (o3:Option V),σ'=[GZ (.ref a),GZ .non,GZ (.ref r),o3]/\aw H H'/\H r=none/\H' r=GZ (.tup [.int M,.int N])/\Crt.Told (pls.take i) M N/\M<=10^(18*i))
  ⟨p,1,0,none,rfl,s2,s1.free hp,ag,by rw [NG];exact .nil,by decide⟩ (λi σ' H' _ h=>by obtain⟨_,_,_,_,_,s,_⟩:=h;exact hS.same s) ?_ ?_
 ·rintro i x σ' H' hx ⟨r,M,N,o3,rfl,hs,hr',er,T,hM⟩;obtain⟨d,ed,hv⟩:=hd.get hx;rw [He] at ed;obtain⟨pl,e1,e2⟩:=Hj.mp ed;subst e2;have ok:=hok pl (Hc e1);have il:i<pls.length:=(G9.mp e1).1;have p1:=pw i (by lia);have p2:(10:Int)^(18*(i+1))=10^(18*i)*10^18:=by rw [OZ,Pw.pow_add]
  have o2:=ok.2.1;have o3':=ok.2.2;k_data;refine⟨.ref r,x,M,N,pl.1,pl.2,rfl,dv.tup (ds:=[.int M,.int N]) er ⟨_,_,rfl,rfl,.one rfl⟩,dv.same hs _ hv,T.pos,by lia,T.x0,T.x1,ok.1,by lia,o3'.1,o3'.2,λg G=>?_,λp3 W y H3 B hW s3 f3 e3=>?_⟩
  ·have fit:∀ p'∈pls.take i,∀ d,Crt.G p'.1 pl.1 d->d∣p'.2-pl.2:=by
    intro p' hp' d hd';obtain⟨i',e'⟩:=JQ.mp hp';have hi':=(G9.mp e').1;rw [HB] at hi';rw [Kq (by lia)] at e';have na:=no i' i (by lia);by_cases z:d∣p'.2-pl.2
    ·exact z
    ·exact absurd ⟨p',pl,d,e',e1,hd',z⟩ na
   exact T.fits G fit λp' hp'=>Crt.BO (hok p' (Iq hp')).1 ok.1
  ·have tk:pls.take (i+1)=pls.take i++[pl]:=by rw [HI,e1];rfl
   refine⟨p3,rfl,hs.trans s3,hs.free f3,W,y,e3,?_,?_⟩
   ·rw [tk];exact T.step B
   ·rw [p2];exact IZ hW (LI hM o2 (IT ok.1) (by have:=T.pos;lia))
 ·rintro σ' H' ⟨r,M,N,o3,rfl,hs,hr',er,T,hM⟩;k_data;rw [hul,HY] at T;rw [hul] at hM;have p1:=pw pls.length hlen;exact q2 M N r H' no T (by lia) hs hr' er
def mC:Sp:=λvs H Q _=>∃ a b:Int,vs=[.int a,.int b]/\0<a/\0<=b/\∀ g,Gd a b g->Q (.int g) H
theorem gz:av ["_law_one","_law_other"] ["_law_one","_law_other"] (ak (top 63)):=dc
theorem v9 (D:ay K mg "_law_common" (top 63)):Callee P w K mg base aQ 1 "_law_common" ["_law_one","_law_other"] mC:=by
 refine cO (len:=by intro _ _ _ _ h;repeat (first | (obtain⟨rfl,_⟩:=h;exact rfl) | obtain⟨_,h⟩:=h)) D gz (λf cdv A outer s H vs Q E hr h=>?_);obtain⟨a,b,rfl,ha,hb,q⟩:=h;have nd:=gz.nd;refine⟨_,(ae (bQ HC (aB eC (pv 1) ah (aC _)) (ai (pU (i:=0) (j:=1) rfl nd rfl rfl (by decide) rfl rfl (aa (pv 1) (aa (au aK (pv 0) (pv 1)) af)) rfl))) (ai (aA (pv 0)))),?_⟩;show bC _ _ _ [GZ (.int a),GZ (.int b)] H;k_data;refine bU (α:=Int × Int) (λx=>[GZ (.int x.1),GZ (.int x.2)]) (λx H'=>H'=H/\0<x.1/\0<=x.2/\∀ d:Int,(d∣x.1/\d∣x.2)↔(d∣a/\d∣b)) (λx=>x.2.toNat) (a,b) rfl ⟨rfl,ha,hb,λ_=>Iff.rfl⟩ ?_;rintro⟨x,y⟩ H1 ⟨rfl,hx,hy,hd⟩;k_data;refine aV (λc=>?_) (λc=>?_)
 ·have hy':0<y:=by have:0<=y:=hy;lia
  refine⟨_,λ_ _ z=>z,hy',(y,x%y),rfl,rfl,hy',Hl _ (by lia),λd=>?_,?_⟩
  ·rw [<- hd d];constructor
   ·rintro⟨h1,h2⟩;exact⟨(iT h1).mp h2,h1⟩
   ·rintro⟨h1,h2⟩;exact⟨h2,(iT h2).mpr h1⟩
  ·have:=Hk x hy';show (x%y).toNat<y.toNat;lia
 ·have c':y=0:=by lia
  subst c';refine q x ⟨hx,((hd x).mp ⟨Lo x,Mt x⟩).1,((hd x).mp ⟨Lo x,Mt x⟩).2,λd h1 h2=>((hd d).mpr ⟨h1,h2⟩).1⟩
end
end K
namespace K
open PySem PySem.Spec PyProof.Rows L2
section
variable {P:Hq} {w:HU} {K:G1} {mg:HA->Option G2} {base:Ip} {C:G6}
theorem v5 {H:Hp} {a:G6} {kvs:List (Key × V)} {Q:VK} (h:H a=GZ (.dK kvs)) (q:Q (.int kvs.length) H):zq [.ref a] H Q:=⟨a,_,rfl,.inr ⟨_,h,rfl⟩,q⟩
theorem FV {H:Hp} {a:G6} {kvs:List (List Key × V)} {Q:VK} (h:H a=GZ (.dT kvs)) (q:Q (.int kvs.length) H):zq [.ref a] H Q:=⟨a,_,rfl,.inl ⟨_,h,rfl⟩,q⟩
def vp:Sp:=λvs H Q _=>∃ p q w:Int,vs=[.int p,.int q,.int w]/\2<=p/\p<=10^60/\1<=q/\q<=10^6/\0<=w/\w<p/\Num.Ord p w q.toNat/\∀ t H',aw H H'->H t=none->H' t=GZ (.dK (dG p w (rt q.toNat)))->Q (.ref t) H'
theorem gI:av ["p","q","w","table","rest"] ["p","q","w"] (ak (top 32)):=dc
theorem yN (D:ay K mg "small_steps" (top 32)) (f':mg "len"=none):Callee P w K mg base aQ 1 "small_steps" ["p","q","w"] vp:=by
 refine cO (len:=by intro _ _ _ _ h;repeat (first | (obtain⟨rfl,_⟩:=h;exact rfl) | obtain⟨_,h⟩:=h)) D gI (λf cdv A outer s H vs Q E hr h=>?_);obtain⟨p,q',w',rfl,p2,p9,q1,q6,w0,w1,o,q⟩:=h;have nd:=gI.nd;refine⟨_,(ae (bj (i:=3) nd rL) (ae (bj (i:=4) nd ah) (ae (bQ HC (aB fK (au aI (aF c6 rfl f' Ir (aa (pv 3) af)) (aF c6 rfl f' Ir (aa (pv 3) af))) (pv 1) (aC _)) (ae (jf (dJ hr) (pv 3) (pv 4) (aF c6 rfl f' Ir (aa (pv 3) af)) rfl) (ai (bj (i:=4) nd (au aK (au aI (pv 4) (pv 2)) (pv 0)))))) (ai (aA (pv 3)))))),?_⟩;show bC _ _ _ [GZ (.int p),GZ (.int q'),GZ (.int w'),none,none] H;k_data;intro t ht;refine bU (α:=Nat) (λi=>[GZ (.int p),GZ (.int q'),GZ (.int w'),GZ (.ref t),GZ (.int (w'^i%p))]) (λi H1=>H1=upd H t (.dK (dG p w' i))/\∀ j,j<i->j*j<q'.toNat) (λi=>q'.toNat+1-i) 0 ?_ ⟨rfl,λj z=>absurd z (Na _)⟩ ?_
 ·rw [HS,Ii (by decide) (by lia)]
 rintro i H1 ⟨rfl,hi⟩;have e1:upd H t (.dK (dG p w' i)) t=GZ (.dK (dG p w' i)):=ag;k_data;refine v5 e1 (v5 e1 ⟨_,rfl,_,rfl,?_⟩);rw [fH];have q0:0<q'.toNat:=by lia
 have ii:i<=1001:=by
  rcases KG 1001 i with z | z
  ·have:=hi 1001 z;lia
  ·exact z
 refine⟨Bd.of (by lia) (by lia),Bd.of (by lia) (by lia),aV (λc=>?_) (λc=>?_)⟩
 ·have c':i*i<q'.toNat:=by
   have:((i*i:Nat):Int)<q':=by rw [Im];exact c
   lia
  have iq:i<q'.toNat:=by
   rcases Io i with z | z
   ·lia
   ·have:=Kb i z;lia
  have r0:=Hl (w'^i) (show p≠0 by lia);have r1:=Hk (w'^i) (show 0<p by lia);have hv:bZ (dG p w' i) (Jk (w'^i%p))=none:=jv λj hj e=>by have:=o.ml (by lia) iq e;lia
  refine⟨_,λ_ _ z=>z,v5 e1 ⟨_,mI.k (k:=Jk (w'^i%p)) e1 (by rw [fH];exact JG ii (by decide)),Bd.of (by lia) (by lia),Bd.of (by lia) (by lia),by lia,i+1,?_,?_,λj hj=>?_,by lia⟩⟩
  ·rw [Hu,Kr,LS,<- Kr]
  ·rw [rP _ hv,vz,fH,jw]
  ·rcases (by lia:j<i∨j=i) with z | z
   ·exact hi j z
   ·rw [z];exact c'
 ·have e:rt q'.toNat=i:=E3 (by
   have:q'<=((i*i:Nat):Int):=by rw [Im];lia
   lia) hi
  exact q t _ (aj ht) ht (by rw [e];exact e1)
def vg (C:G6):Sp:=λvs H Q _=>∃(x dx:G6) (m:Int),vs=[.ref x,.int m]/\H x=GZ (.ins C dx [])/\0<=m/\m<=10^6/\∀ d H',(∀ b o,b≠x->H b=GZ o->H' b=GZ o)->d≠x->H d=none->cf C ⟨x,dx,d,m,0,[]⟩ H'->Q .non H'
theorem fg:av ["self","most"] ["self","most"] (ak (inClass (top 31) 0)):=dc
theorem yE (D:CS K C "__init__" "Kept.__init__" (inClass (top 31) 0)) (cl:mY K C) (na_most:cF K C "most") (na_counted:cF K C "counted") (na_laid:cF K C "laid"):bO P w K mg base aQ 1 C "__init__" ["self","most"] (vg C):=by
 refine fA D (λ_ _ _ _ _ _ us hl=>by obtain⟨_,_,rfl⟩:=ym hl;exact rfl) fg (λvs H Q E h=>by obtain⟨a,b,c,rfl,_⟩:=h;rfl) (λf cdv A outer s H vs Q E hr h=>?_);obtain⟨x,dx,m,rfl,hx,m0,m1,q⟩:=h;have nd:=fg.nd;refine⟨_,(ae (uh (pv 0) (pv 1) rfl) (ae (uh (pv 0) ah rfl) (ai (uh (pv 0) yW rfl)))),?_⟩;show bC _ _ _ [GZ (.ref x),GZ (.int m)] H;k_data;refine⟨C,dx,[],hx,cl,na_most,by decide,C,dx,_,ag,cl,na_counted,by show 1<1000;decide,λd hd=>?_⟩;have nx:d≠x:=λz=>by rw [z,ag] at hd;cases hd
 refine⟨C,dx,_,by rw [ao (IJ nx),ag],cl,na_laid,by show 2<1000;decide,q d _ (λb o hb e=>?_) nx (by rw [ao nx,ao nx] at hd;exact hd) ⟨ag,⟨[],?_,rfl,Rm,λy v e=>by cases e⟩,m0,m1⟩⟩
 ·rw [ao hb,ao (λz=>by rw [z] at hb e;rw [ao hb,ao hb,e] at hd;cases hd),ao hb,ao hb];exact e
 ·rw [ao nx,ag]
def zC (C:G6):Sp:=λvs H Q _=>∃(k:KH) (n:Int),vs=[.ref k.a,.int n]/\cf C k H/\∀ H',(∀ b,b≠k.a->H' b=H b)->cf C (iL k n) H'->Q .non H'
theorem eJ:av ["self","many"] ["self","many"] (ak (inClass (top 31) 4)):=dc
theorem A2 (D:CS K C "add_steps" "Kept.add_steps" (inClass (top 31) 4)) (cl:mY K C) (na_counted:cF K C "counted"):bO P w K mg base aQ 1 C "add_steps" ["self","many"] (zC C):=by refine fA D (λ_ _ _ _ _ _ us hl=>by obtain⟨_,_,rfl⟩:=ym hl;exact rfl) eJ (λvs H Q E h=>by obtain⟨a,b,rfl,_⟩:=h;rfl) (λf cdv A outer s H vs Q E hr h=>?_);obtain⟨k,n,rfl,kp,q⟩:=h;have nd:=eJ.nd;refine⟨_,(ai (wG (pv 0) (pv 1) Di)),?_⟩;show pY _ _ _ _ _ _ [GZ (.ref k.a),GZ (.int n)] H;k_data;refine⟨C,k.dx,Dl k,kp.ins,cl,na_counted,_,rfl,k.c,n,rfl,rfl,k.dx,Dl k,kp.ins,by show 3<1000;decide,q _ (λb hb=>ao hb) (kp.FT rfl)⟩
def Bs (H:Hp) (ks:List (Int × Int × Int)) (bs:List G6):Prop:=bs.length=ks.length/\∀(i:Nat) b,bs[i]?=GZ b->∃ y,ks[i]?=GZ y/\H b=GZ (.tup ((k3 y).map kV))
def sA (C:G6):Sp:=λvs H Q _=>∃(k:KH),vs=[.ref k.a]/\cf C k H/\∀ p bs H',H p=none->aw H H'->H' p=GZ (.lst (bs.map V.ref))->Bs H k.ks bs->Q (.ref p) H'
theorem gw:av ["self"] ["self"] (ak (inClass (top 31) 2)):=dc
theorem tT (D:CS K C "tables" "Kept.tables" (inClass (top 31) 2)) (cl:mY K C) (na_laid:cF K C "laid") (M9:mg "list"=none):bO P w K mg base aQ 1 C "tables" ["self"] (sA C):=by
 refine fA D (λ_ _ _ _ _ _ us hl=>by obtain⟨_,rfl⟩:=B5 hl;exact rfl) gw (λvs H Q E h=>by obtain⟨a,rfl,_⟩:=h;rfl) (λf cdv A outer s H vs Q E hr h=>?_);obtain⟨k,rfl,kp,q⟩:=h;have nd:=gw.nd;refine⟨_,(ai (aA (dQ (sU rfl) rfl M9 L2.boot_list (aa (iH (pv 0) rfl) af)))),?_⟩;show mG _ _ [GZ (.ref k.a)] H;k_data;obtain⟨kvs,kd⟩:=kp.ex;refine⟨C,_,_,kp.ins,cl,na_laid,_,rfl,k.d,kvs,rfl,kd.dict,λp bs hl hb hp=>?_⟩;refine q p bs _ hp (aj hp) ag ⟨hl.trans kd.len,λi b e=>?_⟩;obtain⟨ky,v,e1,e2⟩:=hb i b e;have e3:(k.ks.map k3)[i]?=GZ ky:=by rw [<- kd.keys,He,e1];rfl
 rw [He] at e3;obtain⟨y,e4,rfl⟩:=Hj.mp e3;exact⟨y,e4,e2⟩
def zJ (C:G6):Sp:=λvs H Q _=>∃(k:KH) (p q w:Int),vs=[.ref k.a,.int p,.int q,.int w]/\cf C k H/\ux k/\2<=p/\p<=10^60/\1<=q/\q<=10^6/\0<=w/\w<p/\Num.Ord p w q.toNat/\∀ t H',cf C (jW k (p,q,w)) H'->dP k.a k.d H H'->H' t=GZ (.dK (dG p w (rt q.toNat)))->Q (.ref t) H'
theorem d5:av ["self","p","q","w","key","table"] ["self","p","q","w"] (ak (inClass (top 31) 3)):=dc
theorem yF (D:CS K C "used_table" "Kept.used_table" (inClass (top 31) 3)) (cl_Kept:mY K C) (na_laid:cF K C "laid") (na_most:cF K C "most") (f':mg "len"=none) (c_small_steps:Callee P w K mg base aQ 1 "small_steps" ["p","q","w"] vp)
  (c_Kept_add_steps:bO P w K mg base aQ 1 C "add_steps" ["self","many"] (zC C)) (c_Kept_tables:bO P w K mg base aQ 1 C "tables" ["self"] (sA C)):bO P w K mg base aQ 2 C "used_table" ["self","p","q","w"] (zJ C):=by
 refine fA D (λ_ _ _ _ _ _ us hl=>by obtain⟨_,_,_,_,rfl⟩:=EI hl;exact rfl) d5 (λvs H Q E h=>by obtain⟨a,b,c,d,rfl,_⟩:=h;rfl) (λf cdv A outer s H vs Q E hr h=>?_);obtain⟨k,p,q',w',rfl,kp,le,p2,p9,q1,q6,w0,w1,o,q⟩:=h;have nd:=d5.nd;refine⟨_,(ae (bj (i:=4) nd (aL (aa (pv 1) (aa (pv 2) (aa (pv 3) af))))) (ae (gj (aU (ui (DL (dJ hr) (pv 4) (iH (pv 0) rfl))) (ai (bj (i:=5) nd (rM (dJ hr) (iH (pv 0) rfl) (pv 4) ⟨rfl,rfl,rfl,rfl⟩))) (ae (bj (i:=5) nd (bJ c_small_steps hr aE (aa (pv 1) (aa (pv 2) (aa (pv 3) af))))) (ai (eI (lY c_Kept_add_steps cl_Kept (hr.mono (by decide)) aE (pv 0) (aa (aF c6 rfl f' Ir (aa (pv 5) af)) af))))))) (ae (jf (dJ hr) (iH (pv 0) rfl) (pv 4) (pv 5) rfl) (ae (gj (aU (aB eY (aF c6 rfl f' Ir (aa (iH (pv 0) rfl) af)) (iH (pv 0) rfl) (aC _)) (ai (eI (rM (dJ hr) (iH (pv 0) rfl) (aG bG (wz c_Kept_tables cl_Kept (hr.mono (by decide)) aE (pv 0)) ah (λ_ _=>rfl)) ⟨rfl,rfl,rfl,rfl⟩))) aH)) (ai (aA (pv 5))))))),?_⟩;show bC _ _ _ [GZ (.ref k.a),GZ (.int p),GZ (.int q'),GZ (.int w'),none,none] H;k_data;refine⟨by show 3<=sizeLine;decide,λp1 hp1=>?_⟩;have s1:=aj (o:=.tup [V.int p,V.int q',V.int w']) hp1;have e1:upd H p1 (.tup [V.int p,V.int q',V.int w']) p1=GZ (.tup ((k3 (p,q',w')).map kV)):=ag;have kp1:=kp.same s1;generalize upd H p1 _=H1 at *;obtain⟨kvs,kd⟩:=kp1.ex;generalize hx:((p,q',w'):Int × Int × Int)=x at *;refine⟨λσ' H'=>∃(t:G6) (c':Int),σ'=[GZ (.ref k.a),GZ (.int p),GZ (.int q'),GZ (.int w'),GZ (.ref p1),GZ (.ref t)]/\c'=(jW k x).c/\H' k.a=GZ (.ins C k.dx (Dl { k with c:=c' }))/\H' k.d=GZ (.dT (bP kvs (k3 x)))/\H' t=GZ (.dK (dG p w' (rt q'.toNat)))/\dP k.a k.d H1 H',?_,?_⟩
 ·k_data;refine⟨C,_,_,kp1.ins,cl_Kept,na_laid,_,rfl,k.d,rfl,_,fq.t kd.dict e1,?_⟩;refine aV (λc=>?_) (λc=>?_)
  ·have mem:x∈k.ks:=kd.mem.mp c;have ec:(jW k x).c=k.c:=if_pos mem;obtain⟨v,hv⟩:=K9.mp c;obtain⟨t,rfl,ht⟩:=kd.tab x v hv;subst hx;rw [ec];exact⟨C,_,_,kp1.ins,cl_Kept,na_laid,_,rfl,k.d,rfl,.inr ⟨_,.inl kd.dict⟩,kvs,kd.dict,_,e1,_,hv,t,rfl,by rw [ao kp1.ne];exact kp1.ins,ag,by rw [ao (kp1.apart ht (by intro _ _ _ z;cases z) (by intro _ z;cases z)).2];exact ht,dP.Fs⟩
  ·have mem:x∉k.ks:=λz=>c (kd.mem.mpr z);have hv:bZ kvs (k3 x)=none:=by
    cases e:bZ kvs (k3 x) with
    | none=>rfl
    | some v=>rw [e] at c;exact absurd rfl c
   refine⟨p,q',w',rfl,p2,p9,q1,q6,w0,w1,o,λt H2 s2 ft ht=>⟨k.dx,Dl k,(kp1.same s2).ins,rfl,v5 ht ⟨k,_,rfl,kp1.same s2,λH3 oth kp3=>⟨t,rfl,?_,?_,?_,λb u ba bd e=>?_⟩⟩⟩⟩
   ·have ec:(jW k x).c=k.c+((dG p w' (rt q'.toNat)).length:Int):=by rw [fH,<- hx];rw [<- hx] at mem;exact if_neg mem
    rw [ec];exact kp3.ins
   ·rw [oth _ (IJ kp1.ne),vL hv];exact s2 _ _ kd.dict
   ·rw [oth _ (λz=>by rw [z,(kp1.same s2).ins] at ht;cases ht)];exact ht
   ·rw [oth _ ba];exact s2 _ _ e
 ·rintro σ' H2 ⟨t,c',rfl,ec,ia,hd,ht,b2⟩;k_data;have ap1:=kp1.apart e1 (by intro _ _ _ z;cases z) (by intro _ z;cases z);have kl:kvs.length<=10^6:=by have h1:=kd.len;have h2:(k.ks.length:Int)<=k.most:=le;have h3:=kp.m1;lia
  have tne:t≠k.d:=kg ht hd (by intro z;cases z);refine⟨C,_,_,ia,cl_Kept,na_laid,_,rfl,k.d,rfl,_,mI.t hd (b2 _ _ ap1.1 ap1.2 e1) ?_,?_⟩
  ·have:=qP kvs (k3 x);exact JG (Hg this kl) (by decide)
  rw [rP _ (by rw [jy,if_pos rfl])];have nad:k.a≠k.d:=kp1.ne;have b4:dP k.a k.d H1 (upd H2 k.d (.dT (bP kvs (k3 x)++[(k3 x,.ref t)]))):=b2.trans dP.Fs;have a4:upd H2 k.d (.dT (bP kvs (k3 x)++[(k3 x,.ref t)])) k.a=GZ (.ins C k.dx (Dl { k with c:=c' })):=by rw [ao nad];exact ia
  have t4:upd H2 k.d (.dT (bP kvs (k3 x)++[(k3 x,.ref t)])) t=GZ (.dK (dG p w' (rt q'.toNat))):=by rw [ao tne];exact ht
  have d4:upd H2 k.d (.dT (bP kvs (k3 x)++[(k3 x,.ref t)])) k.d=GZ (.dT (bP kvs (k3 x)++[(k3 x,.ref t)])):=ag;generalize upd H2 k.d _=H4 at *;have kd4:=kd.use (H':=H4) (x:=x) (t:=t) (λy v ⟨t',e,z⟩=>⟨t',e,kp1.keep b4 z⟩) ⟨t,rfl,by rw [<- hx];exact t4⟩ d4;have kp4:cf C { k with c:=c',ks:=cz k.ks x } H4:=⟨a4,⟨_,kd4.dict,kd4.keys,kd4.nd,kd4.tab⟩,kp.m0,kp.m1⟩
  have l4:=kd4.len;refine⟨λσ' H'=>σ'=[GZ (.ref k.a),GZ (.int p),GZ (.int q'),GZ (.int w'),GZ (.ref p1),GZ (.ref t)]/\cf C (jW k x) H'/\dP k.a k.d H1 H'/\H' t=GZ (.dK (dG p w' (rt q'.toNat))),?_,?_⟩
  ·k_data;refine⟨C,_,_,a4,cl_Kept,na_laid,_,rfl,FV d4 ⟨C,_,_,a4,cl_Kept,na_most,_,rfl,_,rfl,k.most,rfl,aV (λc=>?_) (λc=>?_)⟩⟩
   ·have c2:k.most<((cz k.ks x).length:Int):=by rw [<- show (bP kvs (k3 x)++[(k3 x,V.ref t)]).length=(cz k.ks x).length from l4];exact c
    generalize bP kvs (k3 x)++[(k3 x,V.ref t)]=kvs4 at *;obtain⟨q0,v0,r,rfl⟩:∃ q0 v0 r,kvs4=(q0,v0)::r:=by
     cases kvs4 with
     | nil=>have:=kp.m0;simp at c;lia
     | cons y r=>exact⟨y.1,y.2,r,rfl⟩
    refine⟨C,_,_,a4,cl_Kept,na_laid,_,rfl,k.d,rfl,.inr ⟨_,.inl d4⟩,k.dx,_,a4,rfl,{ k with c:=c',ks:=cz k.ks x },rfl,kp4,λpl bs H5 fpl s5 e5 hb=>?_⟩;obtain⟨b0,bs',rfl⟩:∃ b0 bs',bs=b0::bs':=by
     cases bs with
     | nil=>have h1:=hb.1;have h2:(0:Nat)=(cz k.ks x).length:=h1;have:=kp.m0;lia
     | cons y r=>exact⟨y,r,rfl⟩
    obtain⟨y,hy,hb0⟩:=hb.2 0 b0 rfl;have ey:q0=k3 y:=by have h1:(((q0,v0)::r).map (·.1))[0]?=((cz k.ks x).map k3)[0]?:=congrArg (·[0]?) kd4.keys;rw [He (l:=cz k.ks x),show (cz k.ks x)[0]?=GZ y from hy] at h1;exact Ja h1
    refine⟨pl,_,0,_,rfl,rfl,aM.of e5,kJ,_,s5 _ _ d4,_,b0,rfl,by rw [ey];exact s5 _ _ hb0,_,b7 rfl,?_⟩;rw [drop_tail kd4.nodup];have hk:∀ b u,b≠k.d->H4 b=GZ u->upd H5 k.d (.dT r) b=GZ u:=λb u n e=>by rw [ao n];exact s5 _ _ e
    have cut:=kd4.cut hk ag;have ek:jW k x={ k with c:=c',ks:=(cz k.ks x).tail }:=by rw [ec];unfold jW qL;rw [if_pos c2]
    rw [ek];exact⟨⟨hk _ _ nad a4,⟨_,cut.dict,cut.keys,cut.nd,cut.tab⟩,kp.m0,kp.m1⟩,b4.trans λb u ba bd e=>hk b u bd e,hk _ _ tne t4⟩
   ·have c2:¬k.most<((cz k.ks x).length:Int):=by rw [<- show (bP kvs (k3 x)++[(k3 x,V.ref t)]).length=(cz k.ks x).length from l4];exact c
    have ek:jW k x={ k with c:=c',ks:=cz k.ks x }:=by rw [ec];unfold jW qL;rw [if_neg c2]
    rw [ek];exact⟨kp4,b4,t4⟩
  ·rintro σ' H5 ⟨rfl,kp5,b5,t5⟩;k_data;exact q t H5 kp5 ((dP.of s1).trans b5) t5
theorem xF {d m i:Nat} (m0:0<m) (h:i*m<=d) (h1:d-i*m<m):i=d/m/\d-i*m=d%m:=by
 have e:=Lw d m;have hd:d/m=i:=by
  rw [Nat.div_eq_iff m0];constructor
  ·exact h
  ·lia
 refine⟨hd.symm,?_⟩;rw [hd,Ij] at e;lia
def oH:Sp:=λvs H Q _=>∃(p back c w:Int) (t:G6) (q d:Nat),vs=[.int p,.ref t,.int back,.int c]/\2<=p/\p<=10^60/\Num.Ord p w q/\q<=10^6/\H t=GZ (.dK (dG p w (rt q)))/\0<=back/\back<p/\Num.Al p (back*w^rt q) 1/\d<q/\c=w^d%p/\∀ r H',aw H H'->H r=none->H' r=GZ (.tup [.int (d/rt q:Nat),.int (d%rt q:Nat)])->Q (.ref r) H'
theorem kz:av ["p","table","back","c","i","rest"] ["p","table","back","c"] (ak (top 44)):=dc
theorem t7 (D:ay K mg "steps_to" (top 44)):Callee P w K mg base aQ 1 "steps_to" ["p","table","back","c"] oH:=by
 refine cO (len:=by intro _ _ _ _ h;repeat (first | (obtain⟨rfl,_⟩:=h;exact rfl) | obtain⟨_,h⟩:=h)) D kz (λf cdv A outer s H vs Q E hr h=>?_);obtain⟨p,back,c,w',t,q',d,rfl,p2,p9,o,q6,ht,b0,b1,hb,dq,rfl,q⟩:=h;have nd:=kz.nd;refine⟨_,(ae (bj (i:=4) nd ah) (ae (bj (i:=5) nd (pv 3)) (ae (bQ HC (ui (nR (dJ hr) (pv 5) (pv 1))) (ae (bj (i:=5) nd (au aK (au aI (pv 5) (pv 2)) (pv 0))) (ai (fE (i:=4) nd rfl (HL rfl) ah (i4 pF))))) (ai (aA (aL (aa (pv 4) (aa (gU (dJ hr) (pv 1) (pv 5) (λ_ _=>rfl)) af)))))))),?_⟩;show bC _ _ _ [GZ (.int p),GZ (.ref t),GZ (.int back),GZ (.int (w'^d%p)),none,none] H;k_data;have m0:=zz o.pos;have mq:=Cd o.pos;generalize hm:rt q'=m at *;refine bU (α:=Nat) (λi=>[GZ (.int p),GZ (.ref t),GZ (.int back),GZ (.int (w'^d%p)),GZ (.int (i:Int)),GZ (.int (w'^(d-i*m)%p))]) (λi H1=>H1=H/\i*m<=d) (λi=>d+1-i) 0 (by rw [Nq,OA];rfl) ⟨rfl,by rw [Nq];exact IV _⟩ ?_;rintro i H1 ⟨rfl,hi⟩;replace hi:i*m<=d:=hi;have r0:=Hl (w'^(d-i*m)) (show p≠0 by lia);have r1:=Hk (w'^(d-i*m)) (show 0<p by lia);k_data;by_cases lt:d-i*m<m
 ·have hv:bZ (dG p w' m) (Jk (w'^(d-i*m)%p))=GZ (.int ((d-i*m:Nat):Int)):=zU (λi j hi hj e=>o.ml (by lia) (by lia) e) _ lt;have dg:=fq.k (k:=Jk (w'^(d-i*m)%p)) ht;rw [hv] at dg;obtain⟨e1,e2⟩:=xF m0 hi lt;refine⟨_,dg,?_⟩;rw [if_neg (by simp)];refine⟨_,dg,⟨by show 2<=sizeLine;decide,λr hr'=>q r _ (aj hr') hr' ?_⟩⟩;rw [<- e1,<- e2];exact ag
 ·have hv:bZ (dG p w' m) (Jk (w'^(d-i*m)%p))=none:=jv λj hj e=>by have:=o.ml (i:=j) (j:=d-i*m) (by lia) (by lia) e;lia
  have dg:=fq.k (k:=Jk (w'^(d-i*m)%p)) ht;rw [hv] at dg;refine⟨_,dg,?_⟩;rw [if_pos (by simp)];have i1:(i+1)*m<=d:=by rw [Qr];lia
  have im:i<=d:=Hg (Og i m0) hi;refine⟨_,λ_ _ z=>z,Bd.of (by lia) (by lia),Bd.of (by lia) (by lia),by lia,i+1,?_,rfl,i1,by show d+1-(i+1)<d+1-i;lia⟩;have e:w'^(d-i*m)%p*back%p=w'^(d-(i+1)*m)%p:=by
   have h1:d-i*m=(d-(i+1)*m)+m:=by rw [Qr] at i1 ⊢;lia
   refine Num.Al.iff.mp ?_;have h2:=((Num.Al.rest p (w'^(d-i*m))).mul (Num.Al.refl p back))
   rw [h1,MZ,Ib,Ia (w'^m) back] at h2;rw [h1,MZ];have h3:=(Num.Al.refl p (w'^(d-(i+1)*m))).mul hb;rw [Jo] at h3;exact h2.trans h3
  rw [e];rfl
def zF (K:G1):Sp:=λvs H Q _=>∃(q x n:Nat) (a:G6),vs=[.int q,.ref a]/\0<q/\q<=10^60/\x%q^n<=10^60/\n<=1000/\H a=GZ (.lst ((Num.c7 x q n).map λd=>V.int (d:Nat)))/\∀ H',aw H H'->Q (.int (x%q^n:Nat)) H'
theorem dO:av ["q","row","number","digit"] ["q","row"] (ak (top 45)):=dc
theorem A4 (D:ay K mg "number_of" (top 45)):Callee P w K mg base aQ 1 "number_of" ["q","row"] (zF K):=by
 refine cO (len:=by intro _ _ _ _ h;repeat (first | (obtain⟨rfl,_⟩:=h;exact rfl) | obtain⟨_,h⟩:=h)) D dO (λf cdv A outer s H vs Q E hr h=>?_);obtain⟨q',x,n,a,rfl,q0,q9,x9,n9,ha,q⟩:=h;have nd:=dO.nd;refine⟨_,(ae (bj (i:=2) nd ah) (ae (bN HC rfl (aW (DM (pv 1) (gW (rN mH ah)))) (aq (i:=3) nd rfl (HL rfl) (.inr rfl)) (ai (bj (i:=2) nd (au cq (au aI (pv 2) (pv 0)) (pv 3))))) (ai (aA (pv 2))))),?_⟩;show bC _ _ _ [GZ (.int (q':Int)),GZ (.ref a),none,none] H;k_data;have dl:=Num.iQ (x:=x) (q:=q') (n:=n);refine⟨_,aM.of ha,λp hp=>⟨⟨_,aM.of ag⟩,?_⟩⟩;have s1:=aj (o:=.lst ((Num.c7 x q' n).map λd:Nat=>V.int (d:Int)).reverse) hp;have e1:upd H p (.lst ((Num.c7 x q' n).map λd:Nat=>V.int (d:Int)).reverse) p=GZ (.lst ((Num.c7 x q' n).map λd:Nat=>V.int (d:Int)).reverse):=ag;generalize upd H p _=H1 at *;refine cL (xs:=((Num.c7 x q' n).map λd:Nat=>V.int (d:Int)).reverse) (λi σ' H'=>H'=H1/\∃ o3,σ'=[GZ (.int (q':Int)),GZ (.ref a),GZ (.int ((x%q'^n/q'^(n-i):Nat):Int)),o3]) ⟨rfl,none,?_⟩ (λi σ' H' _ h=>by rw [h.1];exact aM.of e1) ?_ ?_
 ·rw [OA,QK (Ou _ (K4 q0))];rfl
 ·rintro i v σ' H' hv ⟨rfl,o3,rfl⟩;have hi:i<n:=by have:=(G9.mp hv).1;rw [Kd,G4,dl] at this;exact this
  rw [OQ (by rw [G4,dl];exact hi),G4,dl,He,Num.uH (by lia)] at hv;cases hv;have b1:x%q'^n/q'^(n-i)<=10^60:=Hg (OE _ _) x9;have bd:Bd ((x%q'^n/q'^(n-i):Nat):Int):=by generalize x%q'^n/q'^(n-i)=z at b1;exact Bd.of (by lia) (by lia)
  k_data;refine⟨bd,Bd.of (by lia) (by lia),?_⟩;have e:=Num.rC (x:=x) (n:=n) q0 hi;rw [<- Im,<- M5,e]
 ·rintro σ' H' ⟨rfl,o3,rfl⟩;rw [Kd,G4,dl,K6,K3,QW];k_data;exact q H' s1
def zG (K:G1):Sp:=λvs H Q _=>∃(q x n:Nat) (a:G6),vs=[.int q,.ref a]/\0<q/\q<=10^60/\x%q^n<=10^60/\n<=1000/\bE K H a ((Num.c7 x q n).map λd=>V.int (d:Nat))/\∀ H',aw H H'->Q (.int (x%q^n:Nat)) H'
theorem A5 (D:ay K mg "number_of" (top 45)):Callee P w K mg base aQ 1 "number_of" ["q","row"] (zG K):=by
 refine cO (len:=by intro _ _ _ _ h;repeat (first | (obtain⟨rfl,_⟩:=h;exact rfl) | obtain⟨_,h⟩:=h)) D dO (λf cdv A outer s H vs Q E hr h=>?_);obtain⟨q',x,n,a,rfl,q0,q9,x9,n9,ha,q⟩:=h;have nd:=dO.nd;refine⟨_,(ae (bj (i:=2) nd ah) (ae (bN HC rfl (l6 (Be (pv 1) (gW (rN mH ah)))) (aq (i:=3) nd rfl (HL rfl) (.inr rfl)) (ai (bj (i:=2) nd (au cq (au aI (pv 2) (pv 0)) (pv 3))))) (ai (aA (pv 2))))),?_⟩;show bC _ _ _ [GZ (.int (q':Int)),GZ (.ref a),none,none] H;unfold Cw;k_data;have dl:=Num.iQ (x:=x) (q:=q') (n:=n);refine⟨_,ha,λp hp=>⟨⟨_,bE.of ag⟩,?_⟩⟩;have s1:=aj (o:=.tup ((Num.c7 x q' n).map λd:Nat=>V.int (d:Int)).reverse) hp;have e1:upd H p (.tup ((Num.c7 x q' n).map λd:Nat=>V.int (d:Int)).reverse) p=GZ (.tup ((Num.c7 x q' n).map λd:Nat=>V.int (d:Int)).reverse):=ag;generalize upd H p _=H1 at *;refine yn (xs:=((Num.c7 x q' n).map λd:Nat=>V.int (d:Int)).reverse) (λi σ' H'=>H'=H1/\∃ o3,σ'=[GZ (.int (q':Int)),GZ (.ref a),GZ (.int ((x%q'^n/q'^(n-i):Nat):Int)),o3]) ⟨rfl,none,?_⟩ (λi σ' H' _ h=>by rw [h.1];exact bE.of e1) ?_ ?_
 ·rw [OA,QK (Ou _ (K4 q0))];rfl
 ·rintro i v σ' H' hv ⟨rfl,o3,rfl⟩;have hi:i<n:=by have:=(G9.mp hv).1;rw [Kd,G4,dl] at this;exact this
  rw [OQ (by rw [G4,dl];exact hi),G4,dl,He,Num.uH (by lia)] at hv;cases hv;have b1:x%q'^n/q'^(n-i)<=10^60:=Hg (OE _ _) x9;have bd:Bd ((x%q'^n/q'^(n-i):Nat):Int):=by generalize x%q'^n/q'^(n-i)=z at b1;exact Bd.of (by lia) (by lia)
  k_data;refine⟨bd,Bd.of (by lia) (by lia),?_⟩;have e:=Num.rC (x:=x) (n:=n) q0 hi;rw [<- Im,<- M5,e]
 ·rintro σ' H' ⟨rfl,o3,rfl⟩;rw [Kd,G4,dl,K6,K3,QW];k_data;exact q H' s1
theorem xX {p b g:Int} (h:Num.Co b p) (G:Gd p b g):g=1:=by
 obtain⟨u,v,e⟩:=h;have g1:g∣1:=by rw [<- e];exact Jx (Hh G.da) (Hh G.dn)
 exact Int.eq_one_of_dvd_one (by have:=G.pos;lia) g1
theorem zh {C0:G6} {p b:Int} {n:Nat} {H:Hp} {Q:VK} {E:XK} (p2:2<=p) (p9:p<=10^60) (co:Num.Co b p) (q:∀ r H',0<=r->r<p->Num.Al p (r*b^n) 1->aw H H'->Q (.int r) H'):cV C0 [.int p,.int b,.int (-(n:Int))] H Q E:=by
 have r0:=λz:Int=>Hl z (show p≠0 by lia);have r1:=λz:Int=>Hk z (show 0<p by lia);refine⟨p,b,-(n:Int),rfl,by lia,by lia,λh H' s=>?_,λh g G=>⟨λ_ i H' i0 i1 i2 s=>?_,λz=>absurd z (by rw [xX co G];decide)⟩⟩
 ·have n0:n=0:=by lia
  subst n0;exact q _ H' (r0 _) (r1 _) (((Num.Al.rest p _).mul (Num.Al.refl p _)).trans (by rw [show (-((0:Nat):Int)).toNat=0 by decide,HS];exact Num.Al.refl p _)) s
 ·rw [show (-(-(n:Int))).toNat=n by lia];refine q _ H' (r0 _) (r1 _) (((Num.Al.rest p _).mul (Num.Al.refl p _)).trans ?_) s;rw [<- M0];have:=Num.Al.pow (show Num.Al p (i*b) 1 from i2) n
  rwa [NR] at this
theorem lq {k k':KH} {H H':Hp} {f:G6} (kp:cf C k' H') (ea:k'.a=k.a) (ed:k'.d=k.d) (b:dP k.a k.d H H') (hf:H' f=none):H f=none:=by
 cases z:H f with
 | none=>rfl
 | some u =>
  by_cases c1:f=k.a
  ·rw [c1,<- ea,kp.ins] at hf;cases hf
  ·by_cases c2:f=k.d
   ·obtain⟨kvs,kd⟩:=kp.ex;rw [c2,<- ed,kd.dict] at hf;cases hf
   ·rw [b f u c1 c2 z] at hf;cases hf
theorem Dt {k:KH} {H:Hp} {f:G6} {o o':HO} (kp:cf C k H) (h:H f=GZ o) (h1:∀ C dx fs,o≠.ins C dx fs) (h2:∀ kvs,o≠.dT kvs) (h3:∀ kvs,o≠.dK kvs):cf C k (upd H f o'):=by obtain⟨na,nd⟩:=kp.apart h h1 h2;obtain⟨kvs,kd⟩:=kp.ex;refine⟨by rw [ao (IJ na)];exact kp.ins,⟨kvs,by rw [ao (IJ nd)];exact kd.dict,kd.keys,kd.nd,λx v e=>?_⟩,kp.m0,kp.m1⟩;obtain⟨t,e1,e2⟩:=kd.tab x v e;exact⟨t,e1,by rw [ao (kg e2 h (IJ (h3 _)))];exact e2⟩
theorem dP.trans' {a d f:G6} {H H':Hp} {o:HO} (b:dP a d H H') (hf:H f=none):dP a d H (upd H' f o):=λc u x y e=>by rw [ao (λz=>by rw [z,hf] at e;cases e)];exact b c u x y e
theorem Er {k:KH}:iL k 0=k:=by unfold iL;rw [Ni]
theorem Es {k:KH} {m n:Int}:iL (iL k m) n=iL k (m+n):=by unfold iL;rw [Int.add_assoc]
noncomputable def stK (x q n:Nat):Int:=(((Num.c7 x q n).map λd=>d/rt q+1).sum:Nat)
theorem zM {x q n:Nat}:stK x q (n+1)=stK x q n+((x/q^n%q/rt q:Nat)+1:Int):=by unfold stK;rw [Num.ny,HQ,List.sum_append];simp
noncomputable def xD (k:KH) (p b:Int) (e q x n:Nat):KH:=iL (jW k (p,(q:Int),b^(e/q)%p)) (stK x q n)
def sf (K:G1) (C:G6):Sp:=λvs H Q _=>∃(k:KH) (p b a:Int) (e q n x:Nat) (pt:G6),vs=[.int p,.int b,.int a,.ref pt,.ref k.a]/\bE K H pt [.int e,.int q,.int n]/\cf C k H/\ux k/\2<=p/\p<=10^60 /\ -(10^60)<=a/\a<=10^60/\Num.Ord p b e/\e<=10^60/\x<e/\Num.Al p a (b^x)/\1<=q/\q<=10^6/\1<=n/\n<=1000/\q^n∣e /\
 ∀ t H',cf C (xD k p b e q x n) H'->dP k.a k.d H H'->H t=none->H' t=GZ (.tup ((Num.c7 x q n).map λd=>V.int (d:Nat)))->Q (.ref t) H'
theorem oq:av ["p","b","a","part","keeper","e","q","many","w","table","back","found","left","turn","c","i","j"] ["p","b","a","part","keeper"] (ak (top 43)):=dc
theorem wa {C0:G6} (D:ay K mg "digits" (top 43)) (cl_Kept:mY K C) (Qe:Callee P w K mg base (d7 P w) 4 "power" ["n","a","e"] (cV C0)) (c_inverse:Callee P w K mg base (d7 P w) 3 "inverse" ["n","a"] (dU C0)) (c_Kept_used_table:bO P w K mg base aQ 2 C "used_table" ["self","p","q","w"] (zJ C)) (c_Kept_add_steps:bO P w K mg base aQ 1 C "add_steps" ["self","many"] (zC C)) (c_number_of:Callee P w K mg base aQ 1 "number_of" ["q","row"] (zF K)) (c_steps_to:Callee P w K mg base aQ 1 "steps_to" ["p","table","back","c"] oH) (f':mg "len"=none) (K':mg "range"=none) (J':mg "tuple"=none):Callee P w K mg base aQ 5 "digits" ["p","b","a","part","keeper"] (sf K C):=by
 refine cO (len:=by intro _ _ _ _ h;repeat (first | (obtain⟨rfl,_⟩:=h;exact rfl) | obtain⟨_,h⟩:=h)) D oq (λf cdv A outer s H vs Q E hr h=>?_);obtain⟨k,p,b,a,e,q',n,x,pt,rfl,hpt,kp,le,p2,p9,a0,a1,o,e9,xe,al,q1,q6,n1,n9,dv,q⟩:=h;have nd:=oq.nd;refine⟨_,(ae (dW (pv 3) (bY (n:=3) rfl (az (aq (i:=5) nd rfl (HL rfl) (.inr rfl)) (az (aq (i:=6) nd rfl (HL rfl) (.inr rfl)) (az (aq (i:=7) nd rfl (HL rfl) (.inr rfl)) aT))))) (ae (bj (i:=8) nd (bJ Qe hr aJ (aa (pv 0) (aa (pv 1) (aa (au bI (pv 5) (pv 6)) af))))) (ae (bj (i:=9) nd (lY c_Kept_used_table cl_Kept (hr.mono (by decide)) aE (pv 4) (aa (pv 0) (aa (pv 6) (aa (pv 8) af))))) (ae (bj (i:=10) nd (bJ c_inverse hr aJ (aa (pv 0) (aa (bJ Qe hr aJ (aa (pv 0) (aa (pv 8) (aa (aF c6 rfl f' Ir (aa (pv 9) af)) af)))) af)))) (ae (bj (i:=11) nd (bX af)) (ae (bj (i:=12) nd (pv 5)) (ae (bN HC rfl (b8 rfl K' (aa (pv 7) af)) (aq (i:=13) nd rfl (HL rfl) (.inr rfl)) (ae (fE (i:=12) nd rfl (HL rfl) (pv 6) (i4 qY)) (ae (bj (i:=14) nd (bJ Qe hr aJ (aa (pv 0) (aa (au aI (pv 2) (bJ Qe hr aJ (aa (pv 0) (aa (pv 1) (aa (rN mH (bJ c_number_of hr aE (aa (pv 6) (aa (pv 11) af)))) af))))) (aa (pv 12) af))))) (ae (dW (bJ c_steps_to hr aE (aa (pv 0) (aa (pv 9) (aa (pv 10) (aa (pv 14) af))))) (bY (n:=2) rfl (az (aq (i:=15) nd rfl (HL rfl) (.inr rfl)) (az (aq (i:=16) nd rfl (HL rfl) (.inr rfl)) aT)))) (ae (eI (lY c_Kept_add_steps cl_Kept (hr.mono (by decide)) aE (pv 4) (aa (au cq (pv 15) ah) af))) (ai (eI (rK Kx Kz PySem.F.type_list_append gR (pv 11) (aa (au cq (au aI (pv 15) (aF c6 rfl f' Ir (aa (pv 9) af))) (pv 16)) af))))))))) (ai (aA (dQ cu rfl J' L2.boot_tuple (aa (pv 11) af))))))))))),?_⟩;show bC _ _ _ [GZ (.int p),GZ (.int b),GZ (.int a),GZ (.ref pt),GZ (.ref k.a),none,none,none,none,none,none,none,none,none,none,none,none] H;k_data;refine⟨pt,_,rfl,hpt,rfl,?_⟩;k_data;have o0:=o.pos;have qe:q'∣e:=Lb (by obtain⟨m,rfl⟩:∃ m,n=m+1:=⟨n-1,by lia⟩;exact⟨q'^m,by rw [Jq,Ij]⟩) dv;have em:=λz:Int=>Hl z (show p≠0 by lia);have el:=λz:Int=>Hk z (show 0<p by lia);refine⟨by lia,Bd.of (by lia) (by lia),p,b,_,rfl,by lia,by lia,λ_ H1 s1=>?_,λz=>absurd z (by have:=JB (a:=(e:Int)) (b:=(q':Int)) (by lia) (by lia);lia)⟩;have ew:((e:Int)/(q':Int)).toNat=e/q':=by rw [<- Oh];rfl
 rw [ew];have ow:Num.Ord p (b^(e/q')%p) q':=Num.lW (Num.Al.rest p _).symm (Num.gS o qe);have hw:Num.Al p (b^(e/q')%p) (b^(e/q')):=Num.Al.rest p _;have w0:=em (b^(e/q'));have w1:=el (b^(e/q'));unfold xD at q;generalize b^(e/q')%p=w' at *;have kp1:=kp.same s1;refine⟨k.dx,_,kp1.ins,rfl,k,p,q',w',rfl,kp1,le,p2,p9,by lia,by lia,w0,w1,by rw [IH];exact ow,λt H2 kp2 b2 ht=>v5 ht ?_⟩;rw [IH] at ht;rw [fH,IH];have mq:=Cd (q:=q') (by lia);have m0:=zz (q:=q') (by lia);have m6:=Bq q6;refine⟨p,w',_,rfl,by lia,by lia,λ_ H3 s3=>?_,λz=>absurd z (by lia)⟩;rw [IH];have cow:Num.Co (w'^rt q'%p) p:=(ow.co.pow _).yA (Num.Al.rest p _).symm;refine⟨p,_,rfl,by lia,by lia,λg G=>⟨λ_ bk H4 bk0 bk1 bk2 s4=>?_,λz=>absurd z (by rw [xX cow G];decide)⟩⟩;have hbk:Num.Al p (bk*w'^rt q') 1:=((Num.Al.refl p bk).mul (Num.Al.rest p _)).symm.trans bk2;refine⟨by decide,λfo hfo=>⟨by lia,by lia,?_⟩⟩;have S4:=s3.trans s4;have s5:=aj (o:=.lst ([]:List V)) hfo;have e5:upd H4 fo (.lst ([]:List V)) fo=GZ (.lst ((Num.c7 x q' 0).map λd:Nat=>V.int (d:Int))):=ag;have ffo:H fo=none:=lq (kp2.same S4) rfl rfl ((dP.of s1).trans (b2.trans (dP.of S4))) hfo;have kp5:=(kp2.same S4).same s5;have t5:=s5 _ _ (S4 _ _ ht);have b5:dP k.a k.d H (upd H4 fo (.lst ([]:List V))):=(dP.of s1).trans (b2.trans (dP.of (S4.trans s5)));generalize upd H4 fo (.lst ([]:List V))=H5 at *;refine cI (λi σ' H'=>cf C (iL (jW k (p,(q':Int),w')) (stK x q' i)) H'/\dP k.a k.d H H'/\H' fo=GZ (.lst ((Num.c7 x q' i).map λd:Nat=>V.int (d:Int)))/\H' t=GZ (.dK (dG p w' (rt q')))/\∃ o1 o2 o3 o4,σ'=[GZ (.int p),GZ (.int b),GZ (.int a),GZ (.ref pt),GZ (.ref k.a),GZ (.int (e:Int)),GZ (.int (q':Int)),GZ (.int (n:Int)),GZ (.int w'),GZ (.ref t),GZ (.int bk),GZ (.ref fo),GZ (.int ((e/q'^i:Nat):Int)),o1,o2,o3,o4]) ⟨?_,b5,e5,t5,none,none,none,none,by rw [K3,QW]⟩ ?_ ?_
 ·show cf C (iL _ 0) H5;rw [Er];exact kp5
 ·rintro i σ' H6 hi ⟨kp6,b6,e6,t6,o1,o2,o3,o4,rfl⟩;k_data;have xq:x%q'^i<=10^60:=Hg (RB _ _) (by lia);refine⟨by lia,Bd.of (by lia) (by lia),q',x,i,fo,rfl,by lia,by lia,xq,by lia,e6,λH7 s7=>⟨_,rfl,?_⟩⟩;refine zh p2 p9 o.co λr H8 r0 r1 hr' s8=>⟨_,rfl,Bd.of (by lia) (by lia),Bd.of (by lia) (by lia),?_⟩
  have el1:((e/q'^i:Nat):Int)/(q':Int)=((e/q'^(i+1):Nat):Int):=by rw [Jq,<- Ow,Oh (e/q'^i)]
  rw [el1];refine⟨p,_,_,rfl,by lia,by lia,λ_ H9 s9=>?_,λz=>absurd z (L5.mpr (Ls _))⟩;rw [IH];have dq:q'^(i+1)∣e:=Lb (Nat.pow_dvd_pow q' hi) dv;have key:=Num.Al.iff.mp (Num.xE o dq al hr' hw);rw [key];have S9:=(s7.trans s8).trans s9;have d0:x/q'^i%q'<q':=Ou _ (by lia);refine⟨p,bk,_,w',t,q',x/q'^i%q',rfl,p2,p9,ow,q6,S9 _ _ t6,bk0,bk1,hbk,d0,rfl,λrr H10 s10 frr hrr=>⟨rr,_,rfl,bE.of hrr,rfl,?_⟩⟩;k_data;have kp10:=(kp6.same S9).same s10;have e10:=s10 _ _ (S9 _ _ e6);have t10:=s10 _ _ (S9 _ _ t6);have b10:=b6.trans (dP.of (S9.trans s10));refine⟨_,_,kp10.ins,rfl,iL (jW k (p,(q':Int),w')) (stK x q' i),_,rfl,kp10,λH11 oth kp11=>?_⟩;have nfo:fo≠k.a:=(kp10.apart e10 (by intro _ _ _ z;cases z) (by intro _ z;cases z)).1;have nfd:fo≠k.d:=(kp10.apart e10 (by intro _ _ _ z;cases z) (by intro _ z;cases z)).2;have ntf:t≠fo:=kg t10 e10 (by intro z;cases z);have nta:t≠k.a:=(kp10.apart t10 (by intro _ _ _ z;cases z) (by intro _ z;cases z)).1;have e11:=(oth fo nfo).trans e10;have t11:=(oth t nta).trans t10;have b11:dP k.a k.d H H11:=b10.trans λb u ba _ e=>by rw [oth b ba];exact e
  rw [Es,<- zM] at kp11;have dl:=Num.iQ (x:=x) (q:=q') (n:=i);have dd:((x/q'^i%q' / rt q':Nat):Int)*((rt q':Nat):Int)+((x/q'^i%q'%rt q':Nat):Int)=((x/q'^i%q':Nat):Int):=by rw [<- Im,<- M5,QJ]
  have db:Bd ((x/q'^i%q' / rt q':Nat):Int):=by have h1:x/q'^i%q' / rt q'<=x/q'^i%q':=OE _ _;generalize x/q'^i%q' / rt q'=z at h1;generalize x/q'^i%q'=z' at h1 d0;exact Bd.of (by lia) (by lia)
  refine⟨.inl ⟨rfl,_,aM.of e11⟩,v5 t11 ⟨_,rfl,db,by rw [fH];exact Bd.of (by lia) (by lia),fo,_,_,rfl,rfl,e11,by rw [G4,dl];exact wK (by lia),?_⟩⟩;rw [fH,dd];refine⟨Dt kp11 e11 (by intro _ _ _ z;cases z) (by intro _ z;cases z) (by intro _ z;cases z),dP.trans' b11 ffo,?_,by rw [ao ntf];exact t11⟩;rw [ag,Num.ny,HQ];rfl
 ·rintro σ' H6 ⟨kp6,b6,e6,t6,o1,o2,o3,o4,rfl⟩;k_data;refine⟨_,.inl ⟨aM.of e6,λl hl=>q l _ (kp6.same (aj hl)) (b6.trans (dP.of (aj hl))) (lq kp6 rfl rfl b6 hl) ag⟩⟩
theorem xp {x y:V} {r:List V}:wX (x::y::r) 1=GZ y:=by unfold wX B4;simp;rw [if_pos (by lia)];rfl
def GK (row:Hy) (y:Int × Int):Prop:=∃ ds r,row=.tuple (.tuple (.int y.1::ds)::.int y.2::r)
def Af (rows:List Hy) (ps:List (Int × Int)):Prop:=rows.length=ps.length/\∀(i:Nat) (row:Hy),rows[i]?=GZ row->∃ y,ps[i]?=GZ y/\GK row y
def vj (K:G1):Sp:=λvs H Q _=>∃(v:V) (rows:List Hy) (ps:List (Int × Int)),vs=[v]/\dv K H (.tuple rows) v/\Af rows ps/\rows.length<=10^6/\∀ p us H',aw H H'->H p=none->H' p=GZ (.lst us)->aP K H' (ps.map kj) us->Q (.ref p) H'
theorem De {H:Hp} {rows:List Hy} {ps:List (Int × Int)} {xs:List V} (hd:aP K H rows xs) (h:Af rows ps) {i:Nat} {x:V} (hx:xs[i]?=GZ x):∃ q k pt pq r r',ps[i]?=GZ (q,k)/\x=.ref pt/\bE K H pt (.ref pq::.int k::r')/\bE K H pq (.int q::r):=by obtain⟨d,hd',hv⟩:=hd.get hx;obtain⟨⟨q,k⟩,hy,ds,r0,rfl⟩:=h.2 i d hd';obtain⟨pt,ys,rfl,h1,x1,r1,rfl,e1,x2,r2,rfl,e2,_⟩:=hv;obtain⟨pq,zs,rfl,h2,y1,r3,rfl,f1,f2⟩:=e1;cases f1;cases e2;exact⟨q,k,pt,pq,r3,r2,hy,rfl,h1,h2⟩
theorem yI (D:ay K mg "parting_in" (top 16)):Callee P w K mg base aQ 1 "parting_in" ["parts"] (vj K):=by
 refine cO (len:=by intro _ _ _ _ h;repeat (first | (obtain⟨rfl,_⟩:=h;exact rfl) | obtain⟨_,h⟩:=h)) D b9 (λf cdv A outer s H vs Q E hr h=>?_);obtain⟨v,rows,ps,rfl,hd,hh,h6,q⟩:=h;have nd:=b9.nd;refine⟨_,(ai (aA (dN rfl (lz (sub:=by repeat (first | exact True.intro | refine⟨rfl,?_⟩)) (has:=by repeat (first | exact True.intro | refine⟨rfl,?_⟩ | refine⟨True.intro,?_⟩)) (j:=by repeat (first | exact True.intro | refine⟨⟨rfl,rfl,.inl rfl,.inl rfl⟩,?_⟩)) (N':=["row"]) (js:=[none]) rfl rfl) (l6 (pv 0)) (λ_ _ _ _=>(aq (i:=0) (show IA [("row":HA)] from by decide +kernel) rfl (HL rfl) (.inr rfl))) (λ_ _ _ _=>aZ) (λ_ _ _ _=>(aL (aa (aG (bw K rfl) (aG (bw K rfl) (pv 0) ah (λ_ _=>rfl)) ah (λ_ _=>rfl)) (aa (aG (bw K rfl) (pv 0) ah (λ_ _=>rfl)) af))))))),?_⟩;show mG _ _ [GZ v] H;obtain⟨p,xs,rfl,hS,ht⟩:=hd;have xl:=ht.length;have rl:=hh.1;k_data;refine⟨⟨_,hS⟩,?_⟩;refine gO (xs:=xs) (λi zs H3=>aw H H3/\aP K H3 ((ps.take i).map kj) zs) ⟨aw.refl _,rfl⟩ (Hg (by lia) (show 10^6<=sizeLine by decide)) (λi zs H3 hi ⟨e1,e2⟩=>⟨hS.same e1,by rw [e2.length,G4,HB];lia⟩) ?_ ?_
 ·rintro i x zs H3 hx ⟨s3,hz⟩;obtain⟨q',k',pt,pq,r,r',hy,rfl,t1,t2⟩:=De ht hh hx;show cS 0 _ [none] _ _;k_data;refine⟨True.intro,bA (t1.same s3) kJ (bA (t2.same s3) kJ (bA (t1.same s3) xp ⟨by show 2<=sizeLine;decide,λp4 hp4=>?_⟩))⟩;have s4:=aj (o:=.tup [V.int q',V.int k']) hp4;refine⟨s3.trans s4,?_⟩;rw [HI,hy,HQ];exact aP.append (aP.same s4 _ hz) (.one (dv.tup ag ⟨_,_,rfl,rfl,.one rfl⟩))
 ·rintro zs H3 p3 ⟨s3,hz⟩ hp3;rw [show xs.length=ps.length by lia,HY] at hz;exact q p3 zs _ (s3.trans (aj hp3)) (s3.free hp3) ag (aP.same (aj hp3) _ hz)
def Cf (K:G1) (CF:G6):Sp:=λvs H Q E=>∃(a:G6) (ns:List Int),vs=[.ref a]/\aM K H a (ns.map V.int)/\ns.length<=10^6/\((∀ n∈ns,n<=10^6)->Q .non H)/\(∀ m∈ns,(∀ n∈ns,n<=m)->10^6<m->Ae CF "part" (.int m) H E)
theorem iz:av ["primes"] ["primes"] (ak (top 41)):=dc
theorem DC {CF:G6} (D:ay K mg "refuse_far" (top 41)) (x_TooFar:sR P w K mg base "TooFar" CF "part") (g_FARTHEST:∃ t,mg "FARTHEST"=GZ (.int 1000000 t)) (n_max:mg "max"=none):Callee P w K mg base (d7 P w) 3 "refuse_far" ["primes"] (Cf K CF):=by
 refine cX (len:=by intro _ _ _ _ h;repeat (first | (obtain⟨rfl,_⟩:=h;exact rfl) | obtain⟨_,h⟩:=h)) D iz (λf cdv A outer s H vs Q E hr h=>?_);obtain⟨a,ns,rfl,hS,n6,q1,q2⟩:=h;obtain⟨gt,g_FARTHEST⟩:=g_FARTHEST;have nd:=iz.nd;refine⟨_,(ai (aU (PW.pt (uj (bR (pv 0) (λ_=>rfl)) (pV (aB eY (aF (nq rfl) rfl n_max L2.boot_max (aa (pv 0) af)) (pP (v:=.int 1000000) rfl g_FARTHEST ⟨_,rfl⟩) (aC _))))) (ai (dX (pQ x_TooFar (hr.mono (by decide)) rfl (aa (aF (nq rfl) rfl n_max L2.boot_max (aa (pv 0) af)) af)))) aH)),?_⟩;show DY _ _ _ _ [GZ (.ref a)] H;k_data;refine⟨!(ns.map V.int).isEmpty,.inl ⟨_,hS,rfl⟩,aV (λc=>?_) (λc=>?_)⟩
 ·have ne:ns≠[]:=λz=>by rw [z] at c;cases c
  refine⟨a,ns,rfl,hS,ne,λm hm hM=>⟨m,rfl,aV (λc1=>⟨a,ns,rfl,hS,ne,λm' hm' hM' x dx hx hdx nx=>?_⟩) (λc1=>q1 λn hn=>by have:=hM n hn;lia)⟩⟩;have:m'=m:=by have h1:=hM m' hm';have h2:=hM' m hm;lia
  subst this;exact jL x_TooFar.cls (aw.refl _) hx hdx nx (q2 m' hm hM (by lia))
 ·refine q1 λn hn=>?_;cases ns with
  | nil=>cases hn
  | cons y r=>exact absurd rfl c
end
end K
namespace L2
open PySem PySem.Spec PyProof.Rows
theorem sT {X:Cx} (K:G1) (h:X.K=K):eA X (.builtin "len") (Bm K):=h▸bf
end L2
namespace K
open PySem PySem.Spec PyProof.Rows L2
section
variable {P:Hq} {w:HU} {K:G1} {mg:HA->Option G2} {base:Ip} {C:G6}
structure CU (e:Nat) (ps:List (Int × Int)):Prop where
 ok:∀ y∈ps,Num.Pm y.1/\y.1<=10^6/\1<=y.2/\y.2<=1000
 ne:ps.Pairwise (λx y=>x.1≠y.1)
 eq:Num.eN ps=e
 len:ps.length<=12
theorem jJ:∀{ps:List (Int × Int)} {y:Int × Int},y∈ps->y.1.toNat^y.2.toNat∣Num.eN ps
 | p::r,y,h=>by
  show _∣p.1.toNat^p.2.toNat*Num.eN r;rcases Hw.mp h with rfl | h
  ·exact Nat.dvd_mul_right _ _
  ·exact Lb (jJ h) (Nat.dvd_mul_left _ _)
theorem xO {z:Nat}:∀{ps:List (Int × Int)},(∀ y∈ps,Num.Pm y.1)->ps.Pairwise (λx y=>x.1≠y.1)->(∀ y∈ps,y.1.toNat^y.2.toNat∣z)->Num.eN ps∣z
 | [],_,_,_=>O2 _
 | p::r,h,ne,hd=>by
  show p.1.toNat^p.2.toNat*Num.eN r∣z;obtain⟨n1,n2⟩:=Jz.mp ne;have co:=Num.xP (b:=r) (λy hy=>h y (Ha _ hy)) [p] (λy hy=>by rw [Ho.mp hy];exact h p (Hi ..)) λx hx y hy=>by rw [Ho.mp hx];exact (n1 y hy).symm
  have e1:Num.eN [p]=p.1.toNat^p.2.toNat:=KI _;rw [e1] at co;exact co.mul_dvd_of_dvd_of_dvd (hd p (Hi ..)) (xO (λy hy=>h y (Ha _ hy)) n2 λy hy=>hd y (Ha _ hy))
noncomputable def wZ (x:Nat) (y:Int × Int):Int × Int:=(((y.1.toNat^y.2.toNat:Nat):Int),((x%y.1.toNat^y.2.toNat:Nat):Int))
theorem uf {x:Nat} {y:Int × Int}:(wZ x y).1∣(x:Int)-(wZ x y).2:=by show ((y.1.toNat^y.2.toNat:Nat):Int)∣(x:Int)-((x%y.1.toNat^y.2.toNat:Nat):Int);have h:=Lw x (y.1.toNat^y.2.toNat);refine⟨((x/y.1.toNat^y.2.toNat:Nat):Int),?_⟩;rw [<- Im];lia
theorem BG {e x:Nat} {ps:List (Int × Int)} (h:CU e ps) (hx:x<e):Crt.Told (ps.map (wZ x)) e x where
 pos:=by lia
 x0:=by lia
 x1:=by lia
 dv:=λp hp=>by obtain⟨y,hy,rfl⟩:=HE.mp hp;rw [<- h.eq];exact Hz.mpr (jJ hy)
 le:=λz hz=>by rw [<- h.eq];refine P0.mpr (xO (λy hy=>(h.ok y hy).1) h.ne λy hy=>?_);exact P0.mp (hz _ (HE.mpr ⟨y,hy,rfl⟩))
 al:=λp hp=>by obtain⟨y,hy,rfl⟩:=HE.mp hp;exact uf
theorem yw {x:Nat} {ps:List (Int × Int)} {i j:Nat}:¬Ap (ps.map (wZ x)) i j:=fun⟨p,q,g,e1,e2,G,nd⟩=>by rw [He] at e1 e2;obtain⟨y,_,rfl⟩:=Hj.mp e1;obtain⟨y',_,rfl⟩:=Hj.mp e2;have h1:=KJ G.da (uf (x:=x) (y:=y));have h2:=KJ G.db (uf (x:=x) (y:=y'));have:=Mb h2 h1;rw [show (x:Int)-(wZ x y').2-((x:Int)-(wZ x y).2)=(wZ x y).2-(wZ x y').2 by lia] at this;exact nd this
noncomputable def DV (x:Nat) (y:Int × Int):Hy:=.tuple [.int y.1,.tuple (((Num.c7 x y.1.toNat y.2.toNat).map λd:Nat=>(d:Int)).map J6)]
theorem yu:∀ ns:List Int,gf (ns.map J6)=true:=i6 λ_=>rfl
theorem yv {x:Nat} {y:Int × Int}:wY (DV x y)=true:=by show gf [.int y.1,.tuple (((Num.c7 x y.1.toNat y.2.toNat).map λd:Nat=>(d:Int)).map J6)]=true;have:=yu ((Num.c7 x y.1.toNat y.2.toNat).map λd:Nat=>(d:Int));show (true && (gf (((Num.c7 x y.1.toNat y.2.toNat).map λd:Nat=>(d:Int)).map J6) && true))=true;rw [this];rfl
noncomputable def jo (k:KH) (p b:Int) (e x:Nat) (ps:List (Int × Int)):KH:=ps.foldl (λk y=>xD k p b e y.1.toNat x y.2.toNat) k
theorem qX {H:Hp}:∀{ns:List Int} {ds:List V},aP K H (ns.map J6) ds->ds=ns.map V.int
 | [],_,h=>h
 | n::ns,_,⟨x,r,e,h,t⟩=>by subst e;rw [qX t,show x=V.int n from h];rfl
theorem qa {p b:Int} {e x:Nat}:∀(ps:List (Int × Int)) (k:KH),(jo k p b e x ps).a=k.a/\(jo k p b e x ps).d=k.d/\(jo k p b e x ps).most=k.most
 | [],k=>⟨rfl,rfl,rfl⟩
 | y::r,k=>qa r (xD k p b e y.1.toNat x y.2.toNat)
theorem oA {k:KH} {p b:Int} {e x:Nat} {ps:List (Int × Int)} {y:Int × Int}:jo k p b e x (ps++[y])=xD (jo k p b e x ps) p b e y.1.toNat x y.2.toNat:=by unfold jo;rw [List.foldl_append];rfl
def xf (C:G6) (ko:Option KH) (v:V) (H:Hp):Prop:=match ko with
 | none=>v=.non
 | some k=>v=.ref k.a/\cf C k H/\ux k
def mZ (C:G6) (ko:Option KH) (f:KH->KH) (H H':Hp):Prop:=match ko with
 | none=>aw H H'
 | some k=>dP k.a k.d H H'/\cf C (f k) H'/\ux (f k)
noncomputable def EZ (x e:Nat) (ps:List (Int × Int)):Hy:=.tuple [.int x,.tuple [.str "is",.int e,.tuple (ps.map (DV x))]]
def su (K:G1) (C:G6):Sp:=λvs H Q _=>∃(p b a:Int) (e x:Nat) (vo vk:V) (rows:List Hy) (ps:List (Int × Int)) (ko:Option KH),vs=[.int p,.int b,.int a,vo,vk]/\dv K H (.tuple [.int e,.tuple rows]) vo/\Af rows ps/\CU e ps/\xf C ko vk H/\2<=p/\p<=10^60 /\ -(10^60)<=a/\a<=10^60/\Num.Ord p b e/\e<=10^18/\x<e/\Num.Al p a (b^x) /\
 ∀ u H',mZ C ko (λk=>jo k p b e x ps) H H'->dv K H' (EZ x e ps) u->Q u H'
def GH (K:G1) (C:G6) (k:KH) (p b:Int) (e x:Nat) (ps:List (Int × Int)) (H1:Hp) (i:Nat) (zs:List V) (H3:Hp):Prop:=dP k.a k.d H1 H3/\cf C (jo k p b e x (ps.take i)) H3/\ux (jo k p b e x (ps.take i))/\aP K H3 ((ps.take i).map (DV x)) zs
theorem oz:av ["p","b","a","order_paper","kept","e","parts","keeper","rows","places"] ["p","b","a","order_paper","kept"] (ak (top 42)):=dc
theorem wm (D:ay K mg "sought" (top 42)) (cl_Kept:mY K C) (o_Kept:D9 K mg "Kept" C) (c_Kept___init__:bO P w K mg base aQ 1 C "__init__" ["self","most"] (vg C)) (c_digits:Callee P w K mg base aQ 5 "digits" ["p","b","a","part","keeper"] (sf K C)) (c_parting_inG:Callee P w K mg base aQ 1 "parting_in" ["parts"] (vj K)) (c_whole_of:Callee P w K mg base aQ 1 "whole_of" ["parting"] (kW K)) (c_number_ofT:Callee P w K mg base aQ 1 "number_of" ["q","row"] (zG K)) (c_put_together:Callee P w K mg base aQ 5 "put_together" ["places"] (zI K)) (f':mg "len"=none) (J':mg "tuple"=none):Callee P w K mg base aQ 6 "sought" ["p","b","a","order_paper","kept"] (su K C):=by
 refine cO (len:=by intro _ _ _ _ h;repeat (first | (obtain⟨rfl,_⟩:=h;exact rfl) | obtain⟨_,h⟩:=h)) D oz (λf cdv A outer s H vs Q E hr h=>?_);obtain⟨p,b,a,e,x,vo,vk,rows,ps,ko,rfl,hvo,hds,oR,pre,p2,p9,a0,a1,o,e18,xe,al,q⟩:=h;have nd:=oz.nd;refine⟨_,(ae (dW (pv 3) (bY (n:=2) rfl (az (aq (i:=5) nd rfl (MJ rfl) (.inl rfl)) (az (aq (i:=6) nd rfl (HL rfl) (.inr rfl)) aT)))) (ae (gj (iI (i:=7) nd rfl (MJ rfl) (gh (aB DK (pv 4) c9 (aC _)) (yX o_Kept c_Kept___init__ (hr.mono (by decide)) rfl aE (aa ah af)) (pv 4)))) (ae (bj (i:=8) nd (dQ cu rfl J' L2.boot_tuple (aa (dN rfl (lz (sub:=by repeat (first | exact True.intro | refine⟨rfl,?_⟩)) (has:=by repeat (first | exact True.intro | refine⟨rfl,?_⟩ | refine⟨True.intro,?_⟩)) (j:=by repeat (first | exact True.intro | refine⟨⟨rfl,rfl,.inl rfl,.inl rfl⟩,?_⟩)) (N':=["q","many","p","b","a","keeper","e"]) (js:=[none,none,GZ 0,GZ 1,GZ 2,GZ 7,GZ 5]) rfl rfl) (aW (bJ c_parting_inG hr aE (aa (pv 6) af))) (λ_ _ _ _=>(fC K rfl (n:=2) rfl (az (aq (i:=0) (show IA [("q":HA),("many":HA),("p":HA),("b":HA),("a":HA),("keeper":HA),("e":HA)] from by decide +kernel) rfl (HL rfl) (.inr rfl)) (az (aq (i:=1) (show IA [("q":HA),("many":HA),("p":HA),("b":HA),("a":HA),("keeper":HA),("e":HA)] from by decide +kernel) rfl (HL rfl) (.inr rfl)) aT)))) (λ_ _ _ _=>aZ) (λ_ _ _ _=>(aL (aa (pv 0) (aa (bJ c_digits hr aE (aa (pv 2) (aa (pv 3) (aa (pv 4) (aa (aL (aa (pv 6) (aa (pv 0) (aa (pv 1) af)))) (aa (pv 5) af)))))) af))))) af))) (ae (gX (i0:=9) nd rfl (HL rfl) rfl (lz (sub:=by repeat (first | exact True.intro | refine⟨rfl,?_⟩)) (has:=by repeat (first | exact True.intro | refine⟨rfl,?_⟩ | refine⟨True.intro,?_⟩)) (j:=by repeat (first | exact True.intro | refine⟨⟨rfl,rfl,.inl rfl,.inl rfl⟩,?_⟩)) (N':=["q","row"]) (js:=[none,none]) rfl rfl) (l6 (pv 8)) (λ_ _ _ _=>(fC K rfl (n:=2) rfl (az (aq (i:=0) (show IA [("q":HA),("row":HA)] from by decide +kernel) rfl (HL rfl) (.inr rfl)) (az (aq (i:=1) (show IA [("q":HA),("row":HA)] from by decide +kernel) rfl (HL rfl) (.inr rfl)) aT)))) (λ_ _ _ _=>aZ) (λ_ _ _ _=>(aL (aa (bJ c_whole_of hr aE (aa (bX (aa (aL (aa (pv 0) (aa (aF (sT K rfl) rfl f' Ir (aa (pv 1) af)) af))) af)) af)) (aa (bJ c_number_ofT hr aE (aa (pv 0) (aa (pv 1) af))) af)))) (by rfl) (by first | exact .inl rfl | exact .inr rfl)) (ai (aA (aL (aa (aG aS (bJ c_put_together hr aE (aa (pv 9) af)) ah (λ_ _=>rfl)) (aa (aL (aa bF (aa (pv 5) (aa (pv 8) af)))) af))))))))),?_⟩;show bC _ _ _ [GZ (.int p),GZ (.int b),GZ (.int a),GZ vo,GZ vk,none,none,none,none,none] H;obtain⟨po,ys,rfl,hSo,ve,r1,rfl,h1,vr,r2,rfl,hvr,z⟩:=hvo;cases z;cases h1;k_data;refine⟨po,_,rfl,hSo,rfl,?_⟩;k_data;refine⟨λσ' H'=>∃ k:KH,σ'=[GZ (.int p),GZ (.int b),GZ (.int a),GZ (.ref po),GZ vk,GZ (.int (e:Int)),GZ vr,GZ (.ref k.a),none,none]/\cf C k H'/\ux k/\aw H H'/\∀ H2,dP k.a k.d H' H2->cf C (jo k p b e x ps) H2->ux (jo k p b e x ps)->mZ C ko (λk=>jo k p b e x ps) H H2,?_,?_⟩
 ·k_data;cases ko with
  | none =>
   have pre':vk=.non:=pre;rw [if_pos pre'];intro x' dx hx hdx ne;have S:aw H (upd (upd H dx (.own x')) x' (.ins C dx [])):=(aj hdx).upd hx;refine⟨x',dx,1,rfl,ag,by decide,by decide,λd H2 keep ndx fd kp=>?_⟩;have S2:aw H H2:=λb o eb=>keep b o (λz=>by rw [z,hx] at eb;cases eb) (S b o eb);have hd:H d=none:=by
    rw [ao ndx] at fd;by_cases z:d=dx
    ·rw [z];exact hdx
    ·rw [ao z] at fd;exact fd
   refine⟨rfl,⟨x',dx,d,1,0,[]⟩,rfl,kp,by show (0:Int)<=1;decide,S2,λH3 b3 _ _ b o eb=>b3 b o (λz=>by rw [z,hx] at eb;cases eb) (λz=>by rw [z,hd] at eb;cases eb) (S2 b o eb)⟩
  | some k =>obtain⟨rfl,kp,le⟩:=pre;rw [if_neg (by intro z;cases z)];exact⟨k,rfl,kp,le,aw.refl _,λH2 b kp' le'=>⟨b,kp',le'⟩⟩
 ·rintro σ' H1 ⟨k,rfl,kp,le,s1,post⟩;k_data;have rl:=hds.1;have pl12:=oR.len;refine⟨vr,rows,ps,rfl,dv.same s1 _ hvr,hds,by lia,λpl us H2 s2 fpl epl hus=>⟨pl,rfl,⟨_,aM.of epl⟩,?_⟩⟩;have kp2:=kp.same s2;have ul:us.length=ps.length:=by rw [hus.length,G4]
  refine bh (xs:=us) (λi zs H3=>GH K C k p b e x ps H2 i zs H3) ⟨dP.refl,kp2,le,rfl⟩ (Hg (show us.length<=12 by lia) (by decide)) (λi zs H3 hi ⟨z1,z2,z3,z4⟩=>⟨aM.of (kp2.keep z1 epl),by rw [z4.length,G4,HB];lia⟩) ?_ ?_
  ·rintro i v zs H3 hx ⟨b3,kp3,le3,hz⟩;obtain⟨d,hd',hv⟩:=hus.get hx;rw [He] at hd';obtain⟨⟨q',t'⟩,hy,rfl⟩:=Hj.mp hd';obtain⟨pt,rfl,tt⟩:=jI hv;obtain⟨pm,q6,t1,t9⟩:=oR.ok _ (Hc hy);have dE:=jJ (Hc hy);rw [oR.eq] at dE;replace pm:Num.Pm q':=pm;replace q6:q'<=10^6:=q6;replace t1:1<=t':=t1;replace t9:t'<=1000:=t9;have q2:=pm.two;obtain⟨qn,rfl⟩:∃ n:Nat,q'=n:=⟨q'.toNat,by lia⟩
   obtain⟨tn,rfl⟩:∃ n:Nat,t'=n:=⟨t'.toNat,by lia⟩
   replace dE:qn^tn∣e:=dE;have kps:=kp2.cW b3;obtain⟨sa,sd,sm⟩:=qa (p:=p) (b:=b) (e:=e) (x:=x) (ps.take i) k;refine⟨pt,_,rfl,tt.cW kps,rfl,?_⟩;show nE (cS 0) (nE (cS 1) AN) _ [none,none,GZ (.int p),GZ (.int b),GZ (.int a),GZ (.ref k.a),GZ (.int (e:Int))] _ _;k_data;refine⟨⟨rfl,rfl,rfl,rfl,rfl,True.intro⟩,by show 3<=sizeLine;decide,λp4 hp4=>?_⟩;have s4:=aj (o:=.tup [V.int (e:Int),V.int (qn:Int),V.int (tn:Int)]) hp4;refine⟨jo k p b e x (ps.take i),p,b,a,e,qn,tn,x,p4,by rw [sa],bE.of ag,kp3.same s4,le3,p2,p9,a0,a1,o,by lia,xe,al,by lia,by lia,by lia,by lia,dE,λt H5 kp5 b5 ft ht=>⟨by show 2<=sizeLine;decide,λp6 hp6=>?_⟩⟩;rw [sa,sd] at b5;have s6:=aj (o:=.tup [V.int (qn:Int),V.ref t]) hp6;have e1:ps.take (i+1)=ps.take i++[((qn:Int),(tn:Int))]:=by rw [HI,hy];rfl
   have bb:dP k.a k.d H3 (upd H5 p6 (.tup [V.int (qn:Int),V.ref t])):=(dP.of s4).trans (b5.trans (dP.of s6));refine⟨b3.trans bb,?_,?_,?_⟩
   ·rw [e1,oA];exact kp5.same s6
   ·rw [e1,oA];exact (le3.use kp3.m0).add
   ·rw [e1,HQ];have kk:∀ a xs,Rd H3 a (.tup xs)->Rd (upd H5 p6 (.tup [V.int (qn:Int),V.ref t])) a (.tup xs):=λc xs z=>kp3.cW (by rw [sa,sd];exact bb) c xs z;refine aP.append (aP.cW kk _ (i6 (λ_=>yv) _) hz) (.one (dv.tup ag ⟨_,_,rfl,rfl,.one (dv.tup (s6 _ _ ht) ?_)⟩));have:=aP.ints (K:=K) (H:=upd H5 p6 (.tup [V.int (qn:Int),V.ref t])) ((Num.c7 x qn tn).map λd:Nat=>(d:Int));rw [Nt (f:=λd:Nat=>(d:Int)) (g:=V.int)] at this;exact this
  ·rintro zs H3 p3 ⟨b3,kp3,le3,hz⟩ hp3;rw [show us.length=ps.length from ul,HY] at hz kp3 le3;obtain⟨sa,sd,sm⟩:=qa (p:=p) (b:=b) (e:=e) (x:=x) ps k;refine⟨p3,rfl,zs,.inl ⟨aM.of ag,λl hl=>⟨⟨_,bE.of ag⟩,?_⟩⟩⟩;have S4:aw H3 (upd (upd H3 p3 (.lst zs)) l (.tup zs)):=(aj hp3).trans (aj hl);have el:upd (upd H3 p3 (.lst zs)) l (.tup zs) l=GZ (.tup zs):=ag;generalize upd (upd H3 p3 (.lst zs)) l (.tup zs)=H4 at *;have hz4:=aP.same S4 _ hz;have zl:zs.length=ps.length:=by rw [hz.length,G4]
   refine gO (xs:=zs) (λi ws H5=>aw H4 H5/\aP K H5 ((ps.take i).map λy=>kj (wZ x y)) ws) ⟨aw.refl _,rfl⟩ (Hg (show zs.length<=12 by lia) (by decide)) (λi ws H5 hi ⟨z1,z2⟩=>⟨bE.of (z1 _ _ el),by rw [z2.length,G4,HB];lia⟩) ?_ ?_
   ·rintro i v ws H5 hx ⟨s5,hw⟩;obtain⟨d,hd',hv⟩:=hz4.get hx;rw [He] at hd';obtain⟨⟨q',t'⟩,hy,rfl⟩:=Hj.mp hd';obtain⟨pm,q6,t1,t9⟩:=oR.ok _ (Hc hy);have dE:=jJ (Hc hy);rw [oR.eq] at dE;replace pm:Num.Pm q':=pm;replace q6:q'<=10^6:=q6;replace t1:1<=t':=t1;replace t9:t'<=1000:=t9;have q2:=pm.two;obtain⟨qn,rfl⟩:∃ n:Nat,q'=n:=⟨q'.toNat,by lia⟩
    obtain⟨tn,rfl⟩:∃ n:Nat,t'=n:=⟨t'.toNat,by lia⟩
    replace dE:qn^tn∣e:=dE;obtain⟨pr,ys,rfl,hSr,v1,r1,rfl,f1,v2,r2,rfl,⟨pd,ds,rfl,hSd,hdd⟩,z⟩:=hv;cases z;cases f1;have ed:=qX hdd;rw [Nt] at ed;replace ed:ds=(Num.c7 x qn tn).map λd:Nat=>V.int (d:Int):=ed;subst ed;have dl:=Num.iQ (x:=x) (q:=qn) (n:=tn);refine⟨pr,_,rfl,hSr.same s5,rfl,?_⟩;show nE (cS 0) (nE (cS 1) AN) _ [none,none] _ _;k_data;refine⟨True.intro,i5 (hSd.same s5) ?_⟩;rw [G4,dl];refine⟨by show 2<=sizeLine;decide,λp6 hp6=>⟨by show 1<=sizeLine;decide,λp7 hp7=>?_⟩⟩;have s6:=aj (o:=.tup [V.int (qn:Int),V.int (tn:Int)]) hp6;have s7:=aj (o:=.lst [V.ref p6]) hp7;have e6:=s7 _ _ (show upd H5 p6 (.tup [V.int (qn:Int),V.int (tn:Int)]) p6=_ from ag);have e7:upd (upd H5 p6 (.tup [V.int (qn:Int),V.int (tn:Int)])) p7 (.lst [V.ref p6]) p7=GZ (.lst [V.ref p6]):=ag;have S7:=s6.trans s7;generalize upd (upd H5 p6 (.tup [V.int (qn:Int),V.int (tn:Int)])) p7 (.lst [V.ref p6])=H7 at *;have eN1:Num.eN [((qn:Int),(tn:Int))]=qn^tn:=KI _;have qe:qn^tn<=e:=La (by lia) dE;refine⟨p7,[V.ref p6],[((qn:Int),(tn:Int))],rfl,e7,.one (dv.tup e6 ⟨_,_,rfl,rfl,.one rfl⟩),λy hy=>by rw [Ho.mp hy];exact⟨q2,by lia,by show (tn:Int)<=10^6;lia⟩,by rw [eN1];lia,λH8 s8=>?_⟩;rw [eN1];have S8:=(s5.trans S7).trans s8;refine⟨qn,x,tn,pd,rfl,by lia,by lia,Hg (RB _ _) (by lia),by lia,hSd.same S8,λH9 s9=>⟨by show 2<=sizeLine;decide,λp9 hp9=>?_⟩⟩;have s10:=aj (o:=.tup [V.int ((qn^tn:Nat):Int),V.int ((x%qn^tn:Nat):Int)]) hp9;have S10:=((S7.trans s8).trans s9).trans s10;refine⟨s5.trans S10,?_⟩;rw [HI,hy,HQ];exact aP.append (aP.same S10 _ hw) (.one (dv.tup ag ⟨_,_,rfl,rfl,.one rfl⟩))
   ·rintro ws H5 p5 ⟨s5,hw⟩ hp5;rw [show zs.length=ps.length from zl,HY] at hw;have s6:=aj (o:=.lst ws) hp5;have hw6:=aP.same s6 _ hw;rw [show (ps.map λy=>kj (wZ x y))=(ps.map (wZ x)).map kj from by rw [Nt];rfl] at hw6;refine⟨p5,ws,ps.map (wZ x),rfl,aM.of ag,hw6,λy hy=>?_,by rw [G4];exact pl12,λi j _ _ _ ap=>absurd ap yw,λW N pw H7 _ told _ s7 fw ew=>?_⟩
    ·obtain⟨y',hy',rfl⟩:=HE.mp hy;have dE:=jJ hy';rw [oR.eq] at dE;have qe:y'.1.toNat^y'.2.toNat<=e:=La (by lia) dE;have q0:0<y'.1.toNat^y'.2.toNat:=OH dE (by lia);have xm:x%y'.1.toNat^y'.2.toNat<=x:=RB _ _;show 0<((y'.1.toNat^y'.2.toNat:Nat):Int)/\((y'.1.toNat^y'.2.toNat:Nat):Int)<=10^18 /\ -(10^80)<=((x%y'.1.toNat^y'.2.toNat:Nat):Int)/\((x%y'.1.toNat^y'.2.toNat:Nat):Int)<=10^80;generalize x%y'.1.toNat^y'.2.toNat=z1 at *;generalize y'.1.toNat^y'.2.toNat=z2 at *;lia
    ·obtain⟨eW,eN⟩:=told.one (BG oR xe);subst eW;subst eN;refine bA (bE.of ew) xp ⟨by show 3<=sizeLine;decide,λp8 hp8=>⟨by show 2<=sizeLine;decide,λp9 hp9=>?_⟩⟩;have s8:=aj (o:=.tup [V.str "is",V.int (e:Int),V.ref l]) hp8;have s9:=aj (o:=.tup [V.int (x:Int),V.ref p8]) hp9;have SS:=(((S4.trans s5).trans s6).trans s7).trans (s8.trans s9);have S5:=((s5.trans s6).trans s7).trans (s8.trans s9);refine q _ _ (post _ ((dP.of s2).trans (b3.trans (dP.of SS))) (kp3.same SS) le3) (dv.tup ag ⟨_,_,rfl,rfl,.one (dv.tup (s9 _ _ ag) ⟨_,_,rfl,rfl,_,_,rfl,rfl,.one (dv.tup (S5 _ _ el) (aP.same S5 _ hz4))⟩)⟩)
theorem nJ {ps:List (Int × Int)} {ds:Nat->Hy} {ts:List Int} (hr:ps.Pairwise λa b=>a.1<b.1) (hl:ts.length=ps.length):∀ n,n<=ps.length->((cj ps ds ts n).map kp).Pairwise (λa b=>a.1<b.1)/\∀ y∈(cj ps ds ts n).map kp,∃ i,i<n/\(ps[i]?).map (·.1)=GZ y.1
 | 0,_=>⟨.nil,λy hy=>by cases hy⟩
 | n+1,h=>by
  obtain⟨r,m⟩:=nJ (ds:=ds) hr hl n (by lia);have hp:ps[n]?=GZ (ps[n].1,ps[n].2):=Hf (by lia);have ht:ts[n]?=GZ ts[n]:=Hf (by lia);rw [fY hp ht,HQ];by_cases c:0<ts[n]
  ·rw [if_pos c];refine⟨HG.mpr ⟨r,Od _ _,λa ha b hb=>?_⟩,λy hy=>?_⟩
   ·obtain⟨i,hi,ei⟩:=m a ha;obtain⟨z,e1,e2⟩:=Hj.mp ei;rw [Ho.mp hb,<- e2];have hz:ps[i]=z:=by rw [Hf (show i<ps.length by lia)] at e1;exact Ja e1
    have:=JN.mp hr i n (by lia) (by lia) hi;rw [hz] at this;exact this
   ·rcases IC.mp hy with z | z
    ·obtain⟨i,hi,e⟩:=m y z;exact⟨i,by lia,e⟩
    ·rw [Ho.mp z];exact⟨n,by lia,by rw [hp];rfl⟩
  ·rw [if_neg c,Jc,Jj];exact⟨r,λy hy=>let ⟨i,hi,e⟩:=m y hy;⟨i,by lia,e⟩⟩
theorem vW {p a:Int} {e:Nat} {ps:List (Int × Int)} {ds:Nat->Hy} {ts:List Int} (hP:Num.Part (p-1) ps) (to:Num.TO p a ps ts) (o:Num.Ord p a e) (e9:e<=10^9):Num.Part e ((dF ps ds ts).map kp):=by
 have e1:=jP (ds:=ds) to.len to.nn ps.length (Hd _);rw [II (by rw [Rb,G4];lia),to.ord.pM o] at e1;have hm:∀ y∈(dF ps ds ts).map kp,Num.Pm y.1/\1<=y.2:=λy hy=>by obtain⟨z,hz,rfl⟩:=HE.mp hy;obtain⟨i,k,h1,h2,h3,_⟩:=iD hz;exact⟨(hP.ok _ (Hc h1)).1,by show 1<=z.2.2;lia⟩
 refine⟨λy hy=>⟨(hm y hy).1,(hm y hy).2,?_⟩,(nJ hP.rise to.len ps.length (Hd _)).1,?_⟩
 ·have hd:=jJ hy;have e1':Num.eN ((dF ps ds ts).map kp)=e:=e1;rw [e1'] at hd;have h1:=La o.pos hd;have q2:=(hm y hy).1.two;have h2:2^y.2.toNat<=y.1.toNat^y.2.toNat:=Nat.pow_le_pow_left (by lia) _;rcases KG 30 y.2.toNat with z | z
  ·have:=M3 (show 0<2 by decide) (show 31<=y.2.toNat by lia);have h3:(2:Nat)^31<=10^9:=Hg this (Hg h2 (Hg h1 e9));exact absurd h3 (by decide)
  ·lia
 ·rw [<- Num.fv _ λy hy=>(hm y hy).1];exact congrArg _ e1
noncomputable def asc:Nat->Nat->Nat
 | _,0=>1
 | lo,n+1=>lo*asc (lo+1) n
theorem rH:∀{ps:List (Int × Int)} {lo:Nat},(∀ y∈ps,(lo:Int)<=y.1/\2<=y.1/\1<=y.2)->ps.Pairwise (λa b=>a.1<b.1)->asc lo ps.length<=Num.eN ps
 | [],_,_,_=>Hd _
 | p::r,lo,h,hr=>by
  obtain⟨h1,h2,h3⟩:=h p (Hi ..);obtain⟨r1,r2⟩:=Jz.mp hr;show lo*asc (lo+1) r.length<=p.1.toNat^p.2.toNat*Num.eN r;refine O3 ?_ (rH (λy hy=>?_) r2)
  ·exact Hg (show lo<=p.1.toNat by lia) (Nat.le_self_pow (by lia) _)
  ·have:=h y (Ha _ hy);have:=r1 y hy;lia
theorem qB:∀(n:Nat) {m lo:Nat},0<lo->n<=m->asc lo n<=asc lo m
 | 0,m,lo,l0,_=>by
  have:∀(m lo:Nat),0<lo->1<=asc lo m:=by
   intro m
   induction m with
   | zero=>intro _ _;exact Hd _
   | succ m ih=>intro lo l0;exact K2 l0 (ih (lo+1) (by lia))
  exact this m lo l0
 | n+1,0,_,_,h=>absurd h (by lia)
 | n+1,m+1,lo,l0,h=>PB lo (qB n (by lia) (by lia))
theorem rJ {e:Nat} {ps:List (Int × Int)} (h:Num.Part e ps) (e9:e<=10^9):ps.length<=12:=by
 have h1:=rH (lo:=2) (λy hy=>⟨(h.ok y hy).1.two,(h.ok y hy).1.two,(h.ok y hy).2.1⟩) h.rise;have h2:Num.eN ps=e:=by have:=Num.fv ps λy hy=>(h.ok y hy).1;rw [h.prod] at this;lia
 rcases KG 12 ps.length with z | z
 ·have h3:asc 2 13<=asc 2 ps.length:=qB 13 (by decide) z;exact absurd (Hg h3 (Hg h1 (by rw [h2];exact e9))) (by decide)
 ·exact z
theorem wy {e:Nat} {ps:List (Int × Int)} (h:Num.Part e ps) (e9:e<=10^9) (h6:∀ y∈ps,y.1<=10^6):CU e ps where
 ok:=λy hy=>by obtain⟨a,b,c⟩:=h.ok y hy;exact⟨a,h6 y hy,b,by lia⟩
 ne:=h.rise.imp λz=>by lia
 eq:=by have:=Num.fv ps λy hy=>(h.ok y hy).1;rw [h.prod] at this;lia
 len:=rJ h e9
noncomputable def EO (e:Nat) (r:Int):Hy:=.tuple [.none,.tuple [.str "none",.int e,.int r]]
def qr (K:G1) (C CN CF:G6):Sp:=λvs H Q E=>∃(v vk:V) (p b a g:Int) (rows:Hy) (ko:Option KH),vs=[v,.int b,.int a,vk]/\dv K H (.tuple [.int p,.int g,rows]) v/\Num.fQ p (.tuple [.int p,.int g,rows]) /\ -(10^60)<=b/\b<=10^60 /\ -(10^60)<=a/\a<=10^60/\xf C ko vk H/\(p∣a∨p∣b->Ft CN H E) /\
 (¬p∣a->¬p∣b->∀ e:Nat,Num.Ord p b e->(e:Int)<p ->
  (¬Num.Al p (a^e) 1->∀ u H',aw H H'->dv K H' (EO e (a^e%p)) u->Q u H') /\
  (∀ x,x<e->Num.Al p a (b^x)->∀ ps,Num.Part e ps ->
   ((∀ y∈ps,y.1<=10^6)->∀ u H',mZ C ko (λk=>jo k p b e x ps) H H'->dv K H' (EZ x e ps) u->Q u H') /\
   (∀ m∈ps.map (·.1),(∀ n∈ps.map (·.1),n<=m)->10^6<m->Ae CF "part" (.int m) H E)))
theorem xf.same {ko:Option KH} {v:V} {H H':Hp} (h:xf C ko v H) (s:aw H H'):xf C ko v H':=by
 cases ko with
 | none=>exact h
 | some k=>exact⟨h.1,h.2.1.same s,h.2.2⟩
theorem mZ.pre {ko:Option KH} {f:KH->KH} {H H1 H':Hp} (s:aw H H1) (h:mZ C ko f H1 H'):mZ C ko f H H':=by
 cases ko with
 | none=>exact s.trans h
 | some k=>exact⟨(dP.of s).trans h.1,h.2⟩
theorem Ae.pre {CN:G6} {f:HA} {v:V} {H H1:Hp} {E:XK} (s:aw H H1) (h:Ae CN f v H E):Ae CN f v H1 E:=λx dx H' s' fr e=>h x dx H' (s.trans s') (s.free fr) e
theorem rZ:av ["paper","b","a","kept","p","e","parts","rest"] ["paper","b","a","kept"] (ak (top 40)):=dc
theorem yS {CN CF C0:G6} (D:oK K mg "which" (top 40) #[.none]) (c_order:Callee P w K mg base (d7 P w) 14 "order" ["paper","a"] (vi K CN)) (Qe:Callee P w K mg base (d7 P w) 4 "power" ["n","a","e"] (cV C0)) (c_refuse_far:Callee P w K mg base (d7 P w) 3 "refuse_far" ["primes"] (Cf K CF)) (c_primes_in:Callee P w K mg base aQ 1 "primes_in" ["parts"] (mD K)) (c_sought:Callee P w K mg base aQ 6 "sought" ["p","b","a","order_paper","kept"] (su K C)) (x_Nought:xk K mg "Nought" CN):kH P w K mg base (d7 P w) 15 "which" ["paper","b","a","kept"] [.none] (qr K C CN CF):=by
 refine qH D (λ_ _ _ _ _ _ _ us hl=>by obtain⟨_,_,_,_,rfl⟩:=EI (show us.length=4 by simpa using hl);exact ⟨_,rfl,rfl⟩) (λ_ _ _ _ _ _ _ us hl=>by obtain⟨_,_,_,rfl⟩:=EH (show us.length=3 by simpa using hl);exact ⟨_,rfl,rfl⟩) rZ (λvs H Q E h=>by obtain⟨_,_,_,_,_,_,_,_,rfl,_⟩:=h;rfl) (λf cdv A outer s H vs Q E hr h=>?_);obtain⟨v,vk,p,b,a,g,rows,ko,rfl,hd,hp,b0,b1,a0,a1,pre,qN,q⟩:=h;obtain⟨pm,p9⟩:=fb hp;have p2:=pm.two;have nd:=rZ.nd;refine⟨_,(ae (bj (i:=4) nd (aG aS (pv 0) ah (λ_ _=>rfl))) (ae (aU (aB cM (au aK (pv 2) (pv 4)) ah (aC _)) (ai (dX (ud x_Nought rfl))) aH) (ae (dW (bJ c_order hr lX (aa (pv 0) (aa (pv 1) af))) (bY (n:=2) rfl (az (aq (i:=5) nd rfl (HL rfl) (.inr rfl)) (az (aq (i:=6) nd rfl (HL rfl) (.inr rfl)) aT)))) (ae (bj (i:=7) nd (bJ Qe hr aJ (aa (pv 4) (aa (pv 2) (aa (pv 5) af))))) (ae (aU (aB eC (pv 7) ah (aC _)) (gN.kh (ai (aA (aL (aa c9 (aa (aL (aa bF (aa (pv 5) (aa (pv 7) af)))) af)))))) aH) (ae (eI (bJ c_refuse_far hr lX (aa (bJ c_primes_in hr aE (aa (pv 6) af)) af))) (gN.kh (ai (aA (bJ c_sought hr aE (aa (pv 4) (aa (pv 1) (aa (pv 2) (aa (aL (aa (pv 5) (aa (pv 6) af))) (aa (pv 3) af))))))))))))))),?_⟩;show bC _ _ _ [GZ v,GZ (.int b),GZ (.int a),GZ vk,none,none,none,none] H;obtain⟨pp,y1,y2,vr,rfl,tS,e0,eg,dr⟩:=mO hd;cases e0;cases eg;k_data;refine bA tS kJ ⟨p,rfl,by lia,aV (λc=>?_) (λc=>?_)⟩
 ·exact λx hx=>gP x_Nought.cls (aw.refl _) hx (qN (.inl (HD c)))
 have na:¬p∣a:=λz=>c (Ig z);refine⟨.ref pp,p,b,g,rows,rfl,hd,hp,b0,b1,λz=>qN (.inr z),λnb r u H1 hr1 s1 hu=>?_⟩;obtain⟨e',ps,ds,ts,er,hP,hl29,hds,e1,e2,o,to,rfl⟩:=hr1;obtain⟨e,rfl⟩:∃ n:Nat,e'=n:=⟨e'.toNat,by lia⟩
 rw [IH] at o;have e9:e<=10^9:=by lia
 obtain⟨q1,q2⟩:=q na nb e o e2;obtain⟨po,ys,rfl,hSo,ve,r1,rfl,h1,vrr,r2,rfl,hvr,z⟩:=hu;cases z;cases h1;have hpart:=vW (ds:=ds) hP to o e9;have hG:Af ((dF ps ds ts).map (iG p b e)) ((dF ps ds ts).map kp):=by refine⟨by rw [G4,G4],λi row hrow=>?_⟩;rw [He] at hrow;obtain⟨y,hy,rfl⟩:=Hj.mp hrow;obtain⟨j,k,h1,h2,h3,h4⟩:=iD (Hc hy);obtain⟨g',rr,eg⟩:=(hds j _ _ h1).head;exact⟨kp y,by rw [He,hy];rfl,_,_,by unfold iG;rw [h4,eg];rfl⟩
 have hQ:Ge ((dF ps ds ts).map (iG p b e)) (((dF ps ds ts).map kp).map (·.1)):=by refine⟨by rw [G4,G4,G4],λi row hrow=>?_⟩;obtain⟨y,hy,d1,d2,ed⟩:=hG.2 i row hrow;exact⟨y.1,by rw [He,hy];rfl,d1,_,ed⟩
 generalize (dF ps ds ts).map kp=pl at *;generalize (dF ps ds ts).map (iG p b e)=rws at *;have rl:=hG.1;have pl12:=rJ hpart e9;refine⟨po,_,rfl,hSo,rfl,?_⟩;k_data;refine⟨p,a,_,rfl,by lia,by lia,λ_ H2 s2=>?_,λz=>absurd z (by lia)⟩;rw [IH];have S2:=s1.trans s2;refine⟨rfl,aV (λc1=>?_) (λc1=>?_)⟩
 ·refine⟨by show 3<=sizeLine;decide,λp3 hp3=>⟨by show 2<=sizeLine;decide,λp4 hp4=>?_⟩⟩;have s3:=aj (o:=.tup [V.str "none",V.int (e:Int),V.int (a^e%p)]) hp3;have s4:=aj (o:=.tup [V.non,V.ref p3]) hp4;exact q1 (λz=>c1 (congrArg V.int ((eQ p2).mpr z))) _ _ (S2.trans (s3.trans s4)) (dv.tup ag ⟨_,_,rfl,rfl,.one (dv.tup (s4 _ _ ag) ⟨_,_,rfl,rfl,_,_,rfl,rfl,.one rfl⟩)⟩)
 ·have al1:Num.Al p (a^e) 1:=(eQ p2).mp (V.int.inj (Classical.not_not.mp c1));obtain⟨x,xe,alx⟩:=Num.jc pm o al1;obtain⟨q3,q4⟩:=q2 x xe alx pl hpart;refine⟨vrr,rws,_,rfl,dv.same s2 _ hvr,hQ,by lia,λpm' H3 s3 f3 e3=>?_⟩;have S3:=S2.trans s3;refine⟨pm',pl.map (·.1),rfl,aM.of e3,by rw [G4];lia,λall6=>⟨by show 2<=sizeLine;decide,λp5 hp5=>?_⟩,λm hm hM m6=>Ae.pre S3 (q4 m hm hM m6)⟩;have s5:=aj (o:=.tup [V.int (e:Int),vrr]) hp5;have h6:∀ y∈pl,y.1<=10^6:=λy hy=>all6 _ (HE.mpr ⟨y,hy,rfl⟩);refine⟨p,b,a,e,x,.ref p5,vk,rws,pl,ko,rfl,dv.tup ag ⟨_,_,rfl,rfl,.one (dv.same (s2.trans (s3.trans s5)) _ hvr)⟩,hG,wy hpart e9 h6,pre.same (S3.trans s5),p2,by lia,a0,a1,o,by lia,xe,alx,λu H' post hu=>q3 h6 u H' (post.pre (S3.trans s5)) hu⟩
end
end K
namespace L2
open PySem PySem.Spec PyProof.Rows PySem.W
theorem Dy {K:G1} {mg:HA->Option G2} {h:Ip} {x:HA} {C:G6} (_:K.In h) (a:mg x=GZ (.ref C)) (p1:plainGet K C Sh=true) (p2:hasDictIn K C=true) (p3:plainOver K C=true) (p4:findIn K (.ref C) "__setattr__"=GZ (GZ (.builtin "object.__setattr__"))) (p5:makesIn K C=true) (p6:keepIn K (.ref C)=true):D9 K mg x C:=Dz a p1 p2 p3 p4 p5 p6
end L2
namespace K
open PySem PySem.Spec PyProof.Rows L2
section
variable {P:Hq} {w:HU} {K:G1} {mg:HA->Option G2} {base:Ip} {C:G6}
def m7 (C a d:G6) (H:Hp):Prop:=∃ k:KH,k.a=a/\k.d=d/\cf C k H/\ux k
theorem m7.cW {a d:G6} {H H':Hp} (h:m7 C a d H) (b:dP a d H H'):∀ a xs,Rd H a (.tup xs)->Rd H' a (.tup xs):=by obtain⟨k,rfl,rfl,z,u⟩:=h;exact z.cW b
theorem m7.keep {a d:G6} {H H':Hp} (h:m7 C a d H) (bt:dP a d H H') {b:G6} {o:HO} (e:H b=GZ o) (h1:∀ C dx fs,o≠.ins C dx fs) (h2:∀ kvs,o≠.dT kvs):H' b=GZ o:=by obtain⟨k,rfl,rfl,z,u⟩:=h;exact z.keep bt e h1 h2
theorem m7.free {a d:G6} {H H':Hp} {f:G6} (h:m7 C a d H') (b:dP a d H H') (hf:H' f=none):H f=none:=by obtain⟨k,rfl,rfl,z,u⟩:=h;exact lq (k:=k) z rfl rfl b hf
end
end K
namespace K
open PySem PySem.Spec PyProof.Rows L2
section
variable {P:Hq} {w:HU} {K:G1} {mg:HA->Option G2} {base:Ip}
def oF (K:G1) (C:G6):Sp:=λvs H Q E=>∃(v:V) (p d g:Int) (rows:Hy),vs=[v,.int d]/\dv K H (.tuple [.int p,.int g,rows]) v/\Num.fQ p (.tuple [.int p,.int g,rows]) /\ -(10^60)<=d/\d<=10^60/\((d<1∨(p-1)%d≠0)->Ft C H E) /\
 (1<=d->(p-1)%d=0->∀ H',aw H H'->Q (.int (g^((p-1)/d).toNat%p)) H')
theorem kq:av ["paper","d","p","full","parts"] ["paper","d"] (ak (top 26)):=dc
theorem tY {C C':G6} (D:ay K mg "of_order" (top 26)) (Qe:Callee P w K mg base (d7 P w) 4 "power" ["n","a","e"] (cV C')) (x_NoOrder:xk K mg "NoOrder" C):Callee P w K mg base (d7 P w) 5 "of_order" ["paper","d"] (oF K C):=by
 refine cX (len:=by intro _ _ _ _ h;repeat (first | (obtain⟨rfl,_⟩:=h;exact rfl) | obtain⟨_,h⟩:=h)) D kq (λf cdv A outer s H vs Q E hr h=>?_);obtain⟨v,p,d,g,rows,rfl,hd,hp,d0,d1,q1,q2⟩:=h;obtain⟨pm,p9⟩:=fb hp;have p2:=pm.two;have nd:=kq.nd;refine⟨_,(ae (dW (pv 0) (bY (n:=3) rfl (az (aq (i:=2) nd rfl (HL rfl) (.inr rfl)) (az (aq (i:=3) nd rfl (HL rfl) (.inr rfl)) (az (aq (i:=4) nd rfl (HL rfl) (.inr rfl)) aT))))) (ae (aU (PW.pt (gu (aB fK (pv 1) ah (aC _)) (mh (aB eC (au aK (au cp (pv 2) ah) (pv 1)) ah (aC _))))) (ai (dX (ud x_NoOrder rfl))) aH) (gN.kh (ai (aA (bJ Qe hr aJ (aa (pv 2) (aa (pv 3) (aa (au bI (au cp (pv 2) ah) (pv 1)) af))))))))),?_⟩;show bC _ _ _ [GZ v,GZ (.int d),none,none,none] H;obtain⟨pp,y1,y2,vr,rfl,tS,e0,eg,dr⟩:=mO hd;cases e0;cases eg;k_data;refine⟨pp,_,rfl,tS,rfl,?_⟩;k_data;refine aV (λc=>?_) (λc=>⟨by lia,aV (λc2=>?_) (λc2=>?_)⟩)
 ·exact λx hx=>gP x_NoOrder.cls (aw.refl _) hx (q1 (.inl c))
 ·exact λx hx=>gP x_NoOrder.cls (aw.refl _) hx (q1 (.inr c2))
 ·exact⟨by lia,Bd.of (by lia) (by lia),p,g,(p-1)/d,rfl,by lia,by lia,λ_ H1 s1=>q2 (by lia) (by simpa using c2) H1 s1,λz=>absurd z (by have:=JB (show 0<=p-1 by lia) (show 0<=d by lia);lia)⟩
def Dg (p k d:Int):Prop:=∃ u v,Gcd.CC k (p-1) d u v
theorem Dg.pos {p k d:Int} (h:Dg p k d) (k0:0<k):0<d:=by
 obtain⟨u,v,B⟩:=h;rcases KR B.g0 with z | z
 ·exact z
 ·have:=B.da;rw [<- z] at this;have:=Nr.mp this;lia
theorem Dg.one {p k d d':Int} (h:Dg p k d) (h':Dg p k d'):d=d':=by
 obtain⟨u,v,B⟩:=h;obtain⟨u',v',B'⟩:=h';have l1:d∣d':=by rw [<- B'.lin];exact Jx (Hh B.da) (Hh B.db)
 have l2:d'∣d:=by rw [<- B.lin];exact Jx (Hh B'.da) (Hh B'.db)
 exact Int.dvd_antisymm B.g0 B'.g0 l1 l2
def sg:Sp:=λvs H Q _=>∃(p k a:Int),vs=[.int p,.int k,.int a]/\0<p/\p<=10^100/\0<k/\k<=10^100/\(p∣a->Q (.int 1) H)/\(¬p∣a->∀ d H',Dg p k d->aw H H'->Q (.int d) H')
theorem eK:av ["p","k","a"] ["p","k","a"] (ak (top 28)):=dc
theorem DD (D:ay K mg "how_many_roots" (top 28)) (c_divisor:Callee P w K mg base aQ 1 "divisor" ["a","b"] dS):Callee P w K mg base aQ 2 "how_many_roots" ["p","k","a"] sg:=by refine cO (len:=by intro _ _ _ _ h;repeat (first | (obtain⟨rfl,_⟩:=h;exact rfl) | obtain⟨_,h⟩:=h)) D eK (λf cdv A outer s H vs Q E hr h=>?_);obtain⟨p,k,a,rfl,p0,p1,k0,k1,q1,q2⟩:=h;have nd:=eK.nd;refine⟨_,(ai (aA (gh (aB cM (au aK (pv 2) (pv 0)) ah (aC _)) ah (aG aS (bJ c_divisor hr aE (aa (pv 1) (aa (au cp (pv 0) ah) af))) ah (λ_ _=>rfl))))),?_⟩;show mG _ _ [GZ (.int p),GZ (.int k),GZ (.int a)] H;k_data;refine⟨p0,aV (λc=>q1 (HD c)) (λc=>⟨k,p-1,rfl,⟨by lia,by lia⟩,⟨by lia,by lia⟩,λg u v t H' B s' e=>bA (bE.of e) kJ (q2 (λz=>c (Ig z)) g H' ⟨u,v,B⟩ s')⟩)⟩
noncomputable def B9 (e r:Int):Hy:=.tuple [.str "none",.int e,.int r]
def uo (K:G1):Sp:=λvs H Q _=>∃(p k a:Int),vs=[.int p,.int k,.int a]/\Num.Pm p/\p<=10^100/\0<k/\k<=10^100/\(p∣a->Q .non H) /\
 (¬p∣a->∀ d,Dg p k d->(Num.Al p (a^((p-1)/d).toNat) 1->∀ H',aw H H'->Q .non H')/\(¬Num.Al p (a^((p-1)/d).toNat) 1->∀ u H',aw H H'->dv K H' (B9 ((p-1)/d) (a^((p-1)/d).toNat%p)) u->Q u H'))
theorem iB:av ["p","k","a","e","rest"] ["p","k","a"] (ak (top 29)):=dc
theorem uQ {C:G6} (D:ay K mg "shown_none" (top 29)) (c_how_many_roots:Callee P w K mg base aQ 2 "how_many_roots" ["p","k","a"] sg) (Qe:Callee P w K mg base (d7 P w) 4 "power" ["n","a","e"] (cV C)):Callee P w K mg base aQ 5 "shown_none" ["p","k","a"] (uo K):=by
 refine cO (len:=by intro _ _ _ _ h;repeat (first | (obtain⟨rfl,_⟩:=h;exact rfl) | obtain⟨_,h⟩:=h)) D iB (λf cdv A outer s H vs Q E hr h=>?_);obtain⟨p,k,a,rfl,pm,p1,k0,k1,q1,q2⟩:=h;have p2:=pm.two;have nd:=iB.nd;refine⟨_,(ae (aU (aB cM (au aK (pv 2) (pv 0)) ah (aC _)) (ai (aA c9)) aH) (ae (bj (i:=3) nd (au bI (au cp (pv 0) ah) (bJ c_how_many_roots hr aE (aa (pv 0) (aa (pv 1) (aa (pv 2) af)))))) (ae (bj (i:=4) nd (bJ Qe hr aJ (aa (pv 0) (aa (pv 2) (aa (pv 3) af))))) (ai (aA (gh (aB cM (pv 4) ah (aC _)) c9 (aL (aa bF (aa (pv 3) (aa (pv 4) af)))))))))),?_⟩;show bC _ _ _ [GZ (.int p),GZ (.int k),GZ (.int a),none,none] H;k_data;refine⟨by lia,aV (λc=>q1 (HD c)) (λc=>?_)⟩;have na:¬p∣a:=λz=>c (Ig z);refine⟨p,k,a,rfl,by lia,p1,k0,k1,λz=>absurd z na,λ_ d H1 D s1=>?_⟩;have d0:=D.pos k0;have hd1:d<=p-1:=by obtain⟨u,v,B⟩:=id D;exact Hx (by lia) B.db
 have e0:=JB (show 0<=p-1 by lia) (show 0<=d by lia);obtain⟨q3,q4⟩:=q2 na d D;refine⟨d,rfl,d0,Bd.of (by lia) (by lia),p,a,(p-1)/d,rfl,by lia,by lia,λ_ H2 s2=>⟨rfl,aV (λc2=>?_) (λc2=>⟨by show 3<=sizeLine;decide,λt ht=>?_⟩)⟩,λz=>absurd z (by lia)⟩
 ·have c3:=V.int.inj c2;exact q3 (Num.Al.iff.mpr (by rw [c3,Ii (by decide) (by lia)])) H2 (s1.trans s2)
 ·have s3:=aj (o:=.tup [V.str "none",V.int ((p-1)/d),V.int (a^((p-1)/d).toNat%p)]) ht;exact q4 (λz=>c2 (by rw [Num.Al.iff.mp z,Ii (by decide) (by lia)])) _ _ ((s1.trans s2).trans s3) ⟨t,_,rfl,bE.of ag,_,_,rfl,rfl,_,_,rfl,rfl,_,_,rfl,rfl,rfl⟩
def sD:Sp:=λvs H Q _=>∃(p r t m:Int),vs=[.int p,.int r,.int t,.int m]/\0<p/\p<=10^100/\0<=r/\r<p/\0<=t/\t<p/\0<=m/\m<=10^6/\∀ l H',aw H H'->H l=none->H' l=GZ (.lst (((IY m.toNat).map λi=>r*t^i%p).map V.int))->Q (.ref l) H'
theorem iu:av ["p","root","turn","many","found","number","step"] ["p","root","turn","many"] (ak (top 48)):=dc
theorem wu (D:ay K mg "all_turned" (top 48)) (K':mg "range"=none):Callee P w K mg base aQ 1 "all_turned" ["p","root","turn","many"] sD:=by
 refine cO (len:=by intro _ _ _ _ h;repeat (first | (obtain⟨rfl,_⟩:=h;exact rfl) | obtain⟨_,h⟩:=h)) D iu (λf cdv A outer s H vs Q E hr h=>?_);obtain⟨p,r,t,m,rfl,p0,p1,r0,r1,t0,t1,m0,m1,q⟩:=h;have nd:=iu.nd;refine⟨_,(ae (bj (i:=4) nd (bX af)) (ae (bj (i:=5) nd (pv 1)) (ae (bN HC rfl (b8 rfl K' (aa (pv 3) af)) (aq (i:=6) nd rfl (HL rfl) (.inr rfl)) (ae (eI (rK Kx Kz PySem.F.type_list_append gR (pv 4) (aa (pv 5) af))) (ai (bj (i:=5) nd (au aK (au aI (pv 5) (pv 2)) (pv 0)))))) (ai (aA (pv 4)))))),?_⟩;show bC _ _ _ [GZ (.int p),GZ (.int r),GZ (.int t),GZ (.int m),none,none,none] H;k_data;refine⟨by decide,λl hl=>?_⟩;refine⟨by lia,by lia,?_⟩;refine cI (λi σ' H'=>(∃ o6,σ'=[GZ (.int p),GZ (.int r),GZ (.int t),GZ (.int m),GZ (.ref l),GZ (.int (r*t^i%p)),o6])/\H'=upd H l (.lst (((IY i).map λi=>r*t^i%p).map V.int))) ⟨⟨_,by rw [HS,Jo,Ii r0 r1]⟩,rfl⟩ ?_ ?_
 ·rintro i σ' H' hi ⟨⟨o6,rfl⟩,rfl⟩;have hi6:i<10^6:=by lia
  k_data;refine⟨.inl ⟨rfl,_,aM.of ag⟩,uy ag (by rw [G4,Jb];exact Hr hi6 (by decide)) ?_⟩;have m0:=Hl (r*t^i) (show p≠0 by lia);have m1:=Hk (r*t^i) p0;refine⟨Bd.of (by lia) (by lia),Bd.of (by lia) (by lia),p0,?_,?_⟩
  ·rw [Num.Al.iff.mp ((Num.Al.rest p (r*t^i)).mul (Num.Al.refl p t)),Ib,<- Hu]
  ·rw [vz,KZ,HQ (f:=λi=>r*t^i%p)];rfl
 ·rintro σ' H' ⟨⟨o6,rfl⟩,rfl⟩;k_data;exact q l _ (aj hl) hl ag
end
end K
namespace K
open PySem PySem.Spec PyProof.Rows L2
section
variable {P:Hq} {w:HU} {K:G1} {mg:HA->Option G2} {base:Ip} {C:G6}
theorem uA {C:G6} {H:Hp} {Q:VK} {E:XK} {p a z:Int} (pm:Num.Pm p) (p9:p<=10^9) (na:¬p∣a) (q:∀ r H',0<=r->r<p->Num.Al p r (Num.Pz (p-1) a z)->aw H H'->Q (.int r) H'):cV C [.int p,.int a,.int z] H Q E:=by
 have p2:=pm.two;obtain⟨n0,hf⟩:=Num.iW pm na;refine⟨p,a,z,rfl,by lia,by lia,λz0 H' s=>q _ _ (Hl _ (by lia)) (Hk _ (by lia)) ((Num.Al.rest _ _).trans (Num.fF n0 hf z0).symm) s,λz0 g gd=>⟨λg1 b H' b0 b1 hb s=>?_,λg1=>?_⟩⟩
 ·exact q _ _ (Hl _ (by lia)) (Hk _ (by lia)) ((Num.Al.rest _ _).trans (Num.DP n0 hf (pm.co na) z0 hb)) s
 ·have:=Hx (by lia) gd.dn;rcases KR this with c | c
  ·exact absurd gd.dn (pm.no g (by lia) c)
  ·exact absurd (c▸gd.da) na
theorem uz {C:G6} {H:Hp} {Q:VK} {E:XK} {n a:Int} (n0:0<n) (n9:n<=10^100) (co:Num.Co a n) (q:∀ r H',0<=r->r<n->n∣r*a-1->aw H H'->Q (.int r) H'):dU C [.int n,.int a] H Q E:=by
 refine⟨n,a,rfl,n0,by lia,λg gd=>⟨λ_ r H' r0 r1 hr s=>q r H' r0 r1 hr s,λg1=>?_⟩⟩;obtain⟨u,v,e⟩:=co;have:g∣1:=by rw [<- e];exact Jx (Hh gd.da) (Hh gd.dn)
 have:=Hx (by decide) this;lia
theorem Ar {CN CF:G6} {H:Hp} {Q:VK} {E:XK} {v:V} {p g a b:Int} {rows:Hy} {e z:Nat} (hd:dv K H (.tuple [.int p,.int g,rows]) v) (hp:Num.fQ p (.tuple [.int p,.int g,rows])) (sm:∀ q,Num.Pm q->q∣(e:Int)->q<=10^6)
  (o:Num.Ord p b e) (ze:z<e) (al:Num.Al p a (b^z)) (b0:-(10^60)<=b) (b1:b<=10^60) (a0:-(10^60)<=a) (a1:a<=10^60)
  (q:∀ t r H',aw H H'->bE K H' t [.int z,r]->Q (.ref t) H'):qr K C CN CF [v,.int b,.int a,.non] H Q E:=by
 obtain⟨pm,p9⟩:=fb hp;have nb:¬p∣b:=pm.unit o.co;have na:¬p∣a:=pm.unit ((o.co.pow z).yA al.symm);refine⟨v,.non,p,b,a,g,rows,none,rfl,hd,hp,b0,b1,a0,a1,rfl,λh=>h.elim (λh=>absurd h na) λh=>absurd h nb,λ_ _ e' o' _=>?_⟩;have ee:=o'.pM o;subst ee;refine⟨λn1=>absurd ?_ n1,λx xe alx ps hps=>⟨λh6 u H' post hu=>?_,λm hm _ m6=>?_⟩⟩
 ·have h1:=al.pow e';rw [Num.bp,Ij] at h1;exact h1.trans (Num.aN o.one)
 ·have:=Num.wF o xe ze alx al;subst this;obtain⟨po,ys,rfl,hSo,ve,r1,rfl,h1,vr,r2,rfl,hvr,z⟩:=hu;cases z;cases h1;exact q _ _ _ post hSo
 ·obtain⟨y,hy,rfl⟩:=HE.mp hm;have hy2:=hps.ok y hy;have:=sm y.1 hy2.1 (by rw [<- hps.prod];exact Num.fW hy hy2.2.1);lia
def oG (K:G1):Sp:=λvs H Q _=>∃(v:V) (p g k a d:Int) (rows:Hy),vs=[v,.int k,.int a]/\dv K H (.tuple [.int p,.int g,rows]) v/\Num.fQ p (.tuple [.int p,.int g,rows])/\0<k/\k<=10^100/\¬p∣a/\Dg p k d/\d<=10^6/\Num.Al p (a^((p-1)/d).toNat) 1 /\
 ∀ r H',0<=r->r<p->Num.Al p (r^k.toNat) a->aw H H'->Q (.int r) H'
theorem kr:av ["paper","k","a","p","full","parts","many","inner","outer","g","u","v","outer_root","base","exponent","inner_root"] ["paper","k","a"] (ak (top 49)):=dc
theorem tZ {C0 C1 CN CF:G6} (D:ay K mg "one_root" (top 49)) (c_how_many_roots:Callee P w K mg base aQ 2 "how_many_roots" ["p","k","a"] sg) (c_whole_of:Callee P w K mg base aQ 1 "whole_of" ["parting"] (kW K)) (c_parting_in:Callee P w K mg base aQ 1 "parting_in" ["parts"] (qh K)) (c_divisor:Callee P w K mg base aQ 1 "divisor" ["a","b"] dS) (Qe:Callee P w K mg base (d7 P w) 4 "power" ["n","a","e"] (cV C0)) (c_inverse:Callee P w K mg base (d7 P w) 3 "inverse" ["n","a"] (dU C1)) (c_which:kH P w K mg base (d7 P w) 15 "which" ["paper","b","a","kept"] [.none] (qr K C CN CF)):Callee P w K mg base aQ 16 "one_root" ["paper","k","a"] (oG K):=by
 refine cO (len:=by intro _ _ _ _ h;repeat (first | (obtain⟨rfl,_⟩:=h;exact rfl) | obtain⟨_,h⟩:=h)) D kr (λf cdv A outer s H vs Q E hr h=>?_);obtain⟨v,p,g,k,a,d,rows,rfl,hd,pap,k0,k1,na,D,d6,h1,q⟩:=h;obtain⟨pm,p9⟩:=fb pap;have p2:=pm.two;obtain⟨g',ps,ds,e',hg,hP,hl29,hds⟩:=gT pap;simp only [L7,KA,MN,and_true,true_and] at e';obtain⟨rfl,rfl⟩:=e';have nd:=kr.nd;refine⟨_,(ae (dW (pv 0) (bY (n:=3) rfl (az (aq (i:=3) nd rfl (HL rfl) (.inr rfl)) (az (aq (i:=4) nd rfl (HL rfl) (.inr rfl)) (az (aq (i:=5) nd rfl (HL rfl) (.inr rfl)) aT))))) (ae (iI (i:=6) nd rfl (MJ rfl) (bJ c_how_many_roots hr aE (aa (pv 3) (aa (pv 1) (aa (pv 2) af))))) (ae (bj (i:=7) nd (bJ c_whole_of hr aE (aa (dN rfl (lz (sub:=by repeat (first | exact True.intro | refine⟨rfl,?_⟩)) (has:=by repeat (first | exact True.intro | refine⟨rfl,?_⟩ | refine⟨True.intro,?_⟩)) (j:=by repeat (first | exact True.intro | refine⟨⟨rfl,rfl,.inl rfl,.inl rfl⟩,?_⟩)) (N':=["prime","times","many"]) (js:=[none,none,GZ 6]) rfl rfl) (aW (bJ c_parting_in hr aE (aa (pv 5) af))) (λ_ _ _ _=>(fC K rfl (n:=2) rfl (az (aq (i:=0) (show IA [("prime":HA),("times":HA),("many":HA)] from by decide +kernel) rfl (HL rfl) (.inr rfl)) (az (aq (i:=1) (show IA [("prime":HA),("times":HA),("many":HA)] from by decide +kernel) rfl (HL rfl) (.inr rfl)) aT)))) (λ_ _ _ _=>(fc (aB cM (au aK (pv 2) (pv 0)) ah (aC _)))) (λ_ _ _ _=>(aL (aa (pv 0) (aa (pv 1) af))))) af))) (ae (bj (i:=8) nd (au bI (au cp (pv 3) ah) (pv 7))) (ae (dW (bJ c_divisor hr aE (aa (pv 7) (aa (pv 8) af))) (bY (n:=3) rfl (az (aq (i:=9) nd rfl (HL rfl) (.inr rfl)) (az (aq (i:=10) nd rfl (HL rfl) (.inr rfl)) (az (aq (i:=11) nd rfl (HL rfl) (.inr rfl)) aT))))) (ae (bj (i:=12) nd (bJ Qe hr aJ (aa (pv 3) (aa (pv 2) (aa (au aI (au aI (pv 10) (pv 7)) (bJ c_inverse hr aJ (aa (pv 8) (aa (pv 1) af)))) af))))) (ae (bj (i:=13) nd (bJ Qe hr aJ (aa (pv 3) (aa (pv 4) (aa (pv 8) af))))) (ae (bj (i:=14) nd (aG aS (yV c_which (.cons (show RelV V.non _ from rfl) .nil) (hr.mono (by decide)) rfl aJ (aa (pv 0) (aa (pv 13) (aa (bJ Qe hr aJ (aa (pv 3) (aa (pv 2) (aa (au aI (pv 11) (pv 8)) af)))) af)))) ah (λ_ _=>rfl))) (ae (bj (i:=15) nd (bJ Qe hr aJ (aa (pv 3) (aa (pv 13) (aa (au aI (au bI (pv 14) (pv 6)) (bJ c_inverse hr aJ (aa (au bI (pv 7) (pv 6)) (aa (au bI (pv 1) (pv 6)) af)))) af))))) (ai (aA (au aK (au aI (pv 12) (pv 15)) (pv 3))))))))))))),?_⟩;show bC _ _ _ [GZ v,GZ (.int k),GZ (.int a),none,none,none,none,none,none,none,none,none,none,none,none,none] H;obtain⟨pp,y1,y2,vr,rfl,tS,e0,eg,dr⟩:=mO (id hd);cases e0;cases eg;k_data;refine⟨pp,_,rfl,tS,rfl,?_⟩;k_data;refine⟨p,k,a,rfl,by lia,by lia,k0,k1,λz=>absurd z na,λ_ d' H1 D' s1=>?_⟩;cases D.one D';have d0:=D.pos k0;obtain⟨du,dw,B⟩:=D;refine⟨vr,_,ps,rfl,dv.same s1 _ dr,BY hds,by rw [Num.cJ];exact Hg hl29 (by decide),λl us H2 s2 fl el dl=>⟨l,rfl,⟨_,aM.of el⟩,?_⟩⟩;have ul:us.length=ps.length:=by rw [dl.length,G4]
 have R:=Num.Br (g:=g) (a:=a) p2 hP k0 B;have hpm:∀ y∈ps,Num.Pm y.1:=λy hy=>(hP.ok y hy).1;refine bh (xs:=us) (λi ys H'=>aw H2 H'/\aP K H' (((ps.take i).filter λy=>decide (d%y.1=0)).map kj) ys/\ys.length<=i) ⟨aw.refl _,rfl,Hd _⟩ (by rw [ul];exact Hg hl29 (by decide)) (λi ys H' _ h=>⟨aM.of (h.1 _ _ el),h.2.2⟩) ?_ ?_
 ·rintro i x ys H3 hx ⟨s3,d3,l3⟩;obtain⟨dd,hdd,hv⟩:=(aP.same s3 _ dl).get hx;rw [He,Hj] at hdd;obtain⟨⟨y1,y2⟩,hy,rfl⟩:=hdd;obtain⟨pt,zs,rfl,hSt,x1,r1,rfl,e1,x2,r2,rfl,e2,z⟩:=hv;cases z;cases e1;cases e2;have yp:=(hpm _ (Hc hy)).two;have tk:ps.take (i+1)=ps.take i++[(y1,y2)]:=by rw [HI,hy];rfl
  simp only [bV,HH,Jc,KN];k_data;refine⟨pt,_,rfl,hSt,rfl,?_⟩;k_data;refine⟨⟨rfl,True.intro⟩,_,rfl,d,rfl,by lia,?_⟩;rw [tk,NI,HQ];refine aV (λc=>⟨by show 2<=sizeLine;decide,λpn hpn=>?_⟩) (λc=>?_)
  ·have s4:=aj (o:=.tup [V.int y1,V.int y2]) hpn;refine⟨s3.trans s4,?_,by simp;lia⟩;rw [IL (by simp [c])];exact (aP.same s4 _ d3).append ⟨_,_,rfl,⟨pn,_,rfl,bE.of ag,_,_,rfl,rfl,_,_,rfl,rfl,rfl⟩,rfl⟩
  ·refine⟨s3,?_,by lia⟩;rw [Iz (by simp [c])];simpa using d3
 ·rintro ys H3 l2 ⟨s3,d3,l3⟩ hl2;rw [ul,HY] at d3;have s4:=aj (o:=.lst ys) hl2;have e4:upd H3 l2 (.lst ys) l2=GZ (.lst ys):=ag;generalize upd H3 l2 (.lst ys)=H4 at *;have d4:=aP.same s4 _ d3;generalize hF:(ps.filter λy=>decide (d%y.1=0))=F at *;have hFp:∀ y∈F,y∈ps/\d%y.1=0:=λy hy=>by rw [<- hF] at hy;have:=IB.mp hy;exact⟨this.1,by simpa using this.2⟩
  have i0:=R.i0;have o0:=R.o0;have io:=R.io;have iN:((Num.eN F:Nat):Int)<=p-1:=Hx (by lia) ⟨_,io.symm⟩;have oN:(p-1)/((Num.eN F:Nat):Int)<=p-1:=Hx (by lia) ⟨_,by rw [Ia];exact io.symm⟩;refine⟨l2,ys,F,rfl,e4,d4,λy hy=>?_,by lia,λH5 s5=>⟨_,rfl,i0,Bd.of (by lia) (by lia),?_⟩⟩
  ·have:=(hP.ok y (hFp y hy).1)
   have:=this.1.two;lia
  generalize hI:((Num.eN F:Nat):Int)=I at *;generalize hO:(p-1)/I=O at *;have eF:I.toNat=Num.eN F:=by lia
  refine⟨I,O,rfl,⟨by lia,by lia⟩,⟨by lia,by lia⟩,λgg u v t H6 B2 s6 e6=>⟨t,_,rfl,bE.of e6,rfl,?_⟩⟩;have g1:gg=1:=by
   obtain⟨s',t',e'⟩:=R.cio;have:gg∣1:=by rw [<- e'];exact Jx (Hh B2.da) (Hh B2.db)
   have h2:=Hx (by decide) this;have h0:=B2.g0;rcases KR h0 with z | z
   ·lia
   ·rw [<- z] at this;have:=Nr.mp this;lia
  subst g1;have lin:=B2.lin;have bu:=B2.bu;have bv:=B2.bv;k_data;have uI:-(10^20)<=u*I/\u*I<=10^20:=by
   have h1:(u*I).natAbs<=10^9*10^9:=by rw [Int.natAbs_mul];exact O3 (by lia) (by lia)
   lia
  refine⟨Bd.of (by lia) (by lia),Bd.of (by lia) (by lia),uz o0 (by lia) R.cko λiv H7 iv0 iv1 hiv s7=>⟨iv,rfl,Bd.of (by lia) (by lia),Bd.of (by lia) (by lia),uA pm p9 na λr1 H8 r10 r11 hr1 s8=>?_⟩⟩;have lf:=hg.ord;refine⟨p,g,O,rfl,by lia,by lia,λ_ H9 s9=>?_,λz=>absurd z (by lia)⟩;have hb:=Num.Al.rest p (g^O.toNat);have b0:=Hl (g^O.toNat) (show p≠0 by lia);have b1:=Hk (g^O.toNat) (show 0<p by lia);generalize g^O.toNat%p=b at *;refine⟨Bd.of (by lia) (by lia),Bd.of (by lia) (by lia),uA pm p9 na λc H10 c0 c1 hc s10=>?_⟩;have ob:=R.base lf hb;obtain⟨x,xI,hx⟩:=Num.jc pm ob (R.GR pm na hc);have dx:=R.dx pm na lf h1 hb hc hx;have sm:∀ q,Num.Pm q->q∣((I.toNat:Nat):Int)->q<=10^6:=λq hq hdv=>by
   rcases Ox (∃ y∈F,y.1=q) with⟨y,hy,rfl⟩ | hn
   ·have:=Hx d0 (HD (hFp y hy).2);lia
   ·refine absurd ?_ (Num.BV hq (b:=F) (λy hy=>hpm y (hFp y hy).1) λy hy z=>hn ⟨y,hy,z⟩);rw [eF] at hdv;have q2:=hq.two;rw [<- Hb (show 0<=q by lia)] at hdv;exact Hz.mp hdv
  have S10:aw H H10:=((((((((s1.trans s2).trans s3).trans s4).trans s5).trans s6).trans s7).trans s8).trans s9).trans s10;refine Ar (dv.same S10 _ hd) pap sm ob xI hx (by lia) (by lia) (by lia) (by lia) λtt rr H11 s11 hT=>bA hT kJ ?_;have Id:0<I/d:=by
   obtain⟨y,hy⟩:=R.di;rw [hy,HW _ (by lia)];rcases NQ y 0 with z | z | z
   ·have:=LM d0 z;lia
   ·rw [z,Oy] at hy;lia
   ·exact z
  have Id2:I/d<=I:=N8 _ (by lia);have x0:0<=(x:Int)/d:=JB (by lia) (by lia);have x1:(x:Int)/d<=x:=N8 _ (by lia);refine⟨_,rfl,d0,Bd.of (by lia) (by lia),d0,Bd.of (by lia) (by lia),d0,Bd.of (by lia) (by lia),uz Id (by lia) R.cki λw' H12 w0 w1 hw s12=>?_⟩;refine⟨w',rfl,Bd.of (by lia) (by lia),Bd.of (by lia) (by lia),p,b,_,rfl,by lia,by lia,λ_ H13 s13=>⟨r1,rfl,_,rfl,Bd.of (by lia) (by lia),Bd.of (by have:=Hl (b^((x:Int)/d*w').toNat) (show p≠0 by lia);lia) (by have:=Hk (b^((x:Int)/d*w').toNat) (show 0<p by lia);lia),by lia,?_⟩,λz=>absurd z (L5.mpr (JR x0 w0))⟩;exact q _ H13 (Hl _ (by lia)) (Hk _ (by lia)) (((Num.Al.rest p _).pow _).trans (R.root k0 pm na lf lin hiv hr1 hb hc hx dx w0 hw (Num.Al.rest p _))) (((S10.trans s11).trans s12).trans s13)
structure kI (p k a d:Int) (rs:List Int):Prop where
 rise:rs.Pairwise (·<·)
 len:(rs.length:Int)=d
 ok:∀ r∈rs,0<=r/\r<p/\Num.Al p (r^k.toNat) a
 all:∀ x,0<=x->x<p->Num.Al p (x^k.toNat) a->x∈rs
noncomputable def CA (r t:Int):Hy:=.tuple [.str "turned",.int r,.int t]
def qi (K:G1) (CM:G6) (M:Int):Sp:=λvs H Q E=>∃(v:V) (p g k a:Int) (rows:Hy),vs=[v,.int k,.int a]/\dv K H (.tuple [.int p,.int g,rows]) v/\Num.fQ p (.tuple [.int p,.int g,rows])/\0<k/\k<=10^60 /\
 (p∣a->∀ t l s H',aw H H'->H l=none->bE K H' t [.ref l,s]->H' l=GZ (.lst [.int 0])->dv K H' (.tuple [.str "nought"]) s->Q (.ref t) H') /\
 (¬p∣a->∀ d,Dg p k d ->
  (¬Num.Al p (a^((p-1)/d).toNat) 1->∀ t l s H',aw H H'->H l=none->bE K H' t [.ref l,s]->H' l=GZ (.lst [])->dv K H' (B9 ((p-1)/d) (a^((p-1)/d).toNat%p)) s->Q (.ref t) H') /\
  (Num.Al p (a^((p-1)/d).toNat) 1->(400<d->Ae CM "many" (.int d) H E)/\(d<=400->d<=M/\∀ rs r0 tn t l s H',kI p k a d rs->rs[0]?=GZ r0->0<=tn->tn<p->Num.Ord p tn d.toNat->aw H H'->H l=none->bE K H' t [.ref l,s]->H' l=GZ (.lst (rs.map V.int))->dv K H' (CA r0 tn) s->Q (.ref t) H')))
theorem Bn {p:Int} (pm:Num.Pm p) {r t k d x:Int} (k0:0<k) (D:Dg p k d) (nr:¬p∣r) (hx:Num.Al p (x^k.toNat) (r^k.toNat)) (ot:Num.Ord p t d.toNat):∃ i,i<d.toNat/\Num.Al p x (r*t^i):=by
 have p2:=pm.two;have d0:=D.pos k0;obtain⟨b,c,e⟩:=pm.co nr;have hb0:b*r=1-c*p:=by lia
 have hb:Num.Al p (b*r) 1:=⟨-c,by rw [hb0];grind⟩
 have s1:Num.Al p ((x*b)^k.toNat) 1:=by have h1:=hx.mul (Num.Al.refl p (b^k.toNat));have h2:=hb.pow k.toNat;rw [NR,M0,Ia] at h2;rw [M0];exact h1.trans h2
 have nx:¬p∣x*b:=λz=>by
  obtain⟨y,hy⟩:=z;have k':k.toNat=(k.toNat-1)+1:=by lia
  have h3:Num.Al p ((x*b)^k.toNat) 0:=by rw [k',Hu];exact⟨(x*b)^(k.toNat-1)*y,by rw [hy];grind⟩
  exact pm.uO (h3.symm.trans s1)
 have s2:=Num.jM pm nx;obtain⟨m,om,_⟩:=Num.pO (N:=(p-1).toNat) (by lia) s2;have m1:=Hz.mpr (om.dv _ s1);have m2:=Hz.mpr (om.dv _ s2);rw [Hb (by lia)] at m1 m2;have m3:(m:Int)∣d:=by obtain⟨u,v,B⟩:=D;rw [<- B.lin];exact Jx (Hh m1) (Hh m2)
 have s3:Num.Al p ((x*b)^d.toNat) 1:=by rw [<- Hb (show 0<=d by lia)] at m3;obtain⟨y,hy⟩:=Hz.mp m3;rw [hy];exact Num.aN om.one
 obtain⟨i,hi,hs⟩:=Num.jc pm ot s3;refine⟨i,hi,?_⟩;have h4:=(Num.Al.refl p r).mul hs;have h5:Num.Al p (r*(x*b)) x:=by have:=(Num.Al.refl p x).mul hb;rw [Jo] at this;rw [show r*(x*b)=x*(b*r) by grind];exact this
 exact h5.symm.trans h4
theorem nS {p:Int} (pm:Num.Pm p) {r t k a d:Int} {ns:List Int} (k0:0<k) (d0:0<d) (dk:d∣k) (D:Dg p k d) (r0:0<=r) (r1:r<p) (nr:¬p∣r) (hr:Num.Al p (r^k.toNat) a) (ot:Num.Ord p t d.toNat) (hp:ns.Perm ((IY d.toNat).map λi=>r*t^i%p)) (hs:ns.Pairwise (·<=·)):kI p k a d ns:=by
 have p2:=pm.two;have nd:((IY d.toNat).map λi=>r*t^i%p).Nodup:=by refine J7.mpr ?_;refine Ks (λ{i j} hi hj h e=>h (Num.wU pm ot nr (IF.mp hi) (IF.mp hj) (Num.Al.iff.mpr e))) List.nodup_range
 have nd':=hp.nodup_iff.mpr nd;refine⟨?_,?_,λx hx=>?_,λx x0 x1 hx=>?_⟩
 ·exact (hs.and nd').imp fun⟨h1,h2⟩=>by lia
 ·have:=hp.length_eq;rw [G4,Jb] at this;lia
 ·obtain⟨i,_,rfl⟩:=HE.mp (hp.mem_iff.mp hx);refine⟨Hl _ (by lia),Hk _ (by lia),((Num.Al.rest p _).pow _).trans (Num.wV pm ot ?_ hr i)⟩;have:((d.toNat:Nat):Int)∣((k.toNat:Nat):Int):=by rw [Hb (by lia),Hb (by lia)];exact dk
  exact Hz.mp this
 ·refine hp.mem_iff.mpr (HE.mpr ?_);obtain⟨i,hi,e⟩:=Bn pm k0 D nr (hx.trans hr.symm) ot;exact⟨i,IF.mpr hi,by rw [<- Num.Al.iff.mp e,Ii x0 x1]⟩
theorem rY:av ["paper","k","a","p","none","many","turn","found"] ["paper","k","a"] (ak (top 47)):=dc
theorem yM {CN CM:G6} (D:ay K mg "roots" (top 47)) (c_shown_none:Callee P w K mg base aQ 5 "shown_none" ["p","k","a"] (uo K)) (c_how_many_roots:Callee P w K mg base aQ 2 "how_many_roots" ["p","k","a"] sg) (c_of_order:Callee P w K mg base (d7 P w) 5 "of_order" ["paper","d"] (oF K CN)) (c_all_turned:Callee P w K mg base aQ 1 "all_turned" ["p","root","turn","many"] sD) (c_one_root:Callee P w K mg base aQ 16 "one_root" ["paper","k","a"] (oG K)) (x_TooMany:sR P w K mg base "TooMany" CM "many") (g_MOST_TOLD:∃ t,mg "MOST_TOLD"=GZ (.int 400 t)) (n_sorted:mg "sorted"=none):Callee P w K mg base (d7 P w) 17 "roots" ["paper","k","a"] (qi K CM 400):=by
 refine cX (len:=by intro _ _ _ _ h;repeat (first | (obtain⟨rfl,_⟩:=h;exact rfl) | obtain⟨_,h⟩:=h)) D rY (λf cdv A outer s H vs Q E hr h=>?_);obtain⟨v,p,g,k,a,rows,rfl,hd,pap,k0,k1,q1,q2⟩:=h;obtain⟨pm,p9⟩:=fb pap;have p2:=pm.two;obtain⟨t0,g_MOST_TOLD⟩:=g_MOST_TOLD;have nd:=rY.nd;refine⟨_,(ae (bj (i:=3) nd (aG aS (pv 0) ah (λ_ _=>rfl))) (ae (aU (aB cM (au aK (pv 2) (pv 3)) ah (aC _)) (gN.kh (ai (aA (aL (aa (bX (aa ah af)) (aa (aL (aa bF af)) af)))))) aH) (ae (bj (i:=4) nd (bJ c_shown_none hr aE (aa (pv 3) (aa (pv 1) (aa (pv 2) af))))) (ae (aU (aB i7 (pv 4) c9 (aC _)) (gN.kh (ai (aA (aL (aa (bX af) (aa (pv 4) af)))))) aH) (ae (bj (i:=5) nd (bJ c_how_many_roots hr aE (aa (pv 3) (aa (pv 1) (aa (pv 2) af))))) (ae (aU (aB eY (pv 5) (pP (v:=.int 400) rfl g_MOST_TOLD ⟨_,rfl⟩) (aC _)) (ai (dX (pQ x_TooMany (hr.mono (by decide)) rfl (aa (pv 5) af)))) aH) (gN.kh (ae (bj (i:=6) nd (bJ c_of_order hr aJ (aa (pv 0) (aa (pv 5) af)))) (ae (bj (i:=7) nd (aF iM rfl n_sorted LU (aa (bJ c_all_turned hr aE (aa (pv 3) (aa (bJ c_one_root hr aE (aa (pv 0) (aa (pv 1) (aa (pv 2) af)))) (aa (pv 6) (aa (pv 5) af))))) af))) (ai (aA (aL (aa (pv 7) (aa (aL (aa bF (aa (aG bG (pv 7) ah (λ_ _=>rfl)) (aa (pv 6) af)))) af)))))))))))))),?_⟩;show bC _ _ _ [GZ v,GZ (.int k),GZ (.int a),none,none,none,none,none] H;obtain⟨pp,y1,y2,vr,rfl,tS,e0,eg,dr⟩:=mO (id hd);cases e0;cases eg;k_data;refine bA tS kJ ⟨p,rfl,by lia,aV (λc=>⟨by decide,λl hl=>⟨by decide,λs hs=>⟨by show 2<=sizeLine;decide,λt ht=>?_⟩⟩⟩) (λc=>?_)⟩
 ·have s1:=aj (o:=.lst [V.int 0]) hl;have s2:=aj (o:=.tup [V.str "nought"]) hs;have s3:=aj (o:=.tup [V.ref l,V.ref s]) ht;exact q1 (HD c) t l (.ref s) _ ((s1.trans s2).trans s3) hl (bE.of ag) (s3 _ _ (s2 _ _ ag)) ⟨s,_,rfl,bE.of (s3 _ _ ag),_,_,rfl,rfl,rfl⟩
 have na:¬p∣a:=λz=>c (Ig z);refine⟨p,k,a,rfl,pm,by lia,k0,by lia,λz=>absurd z na,λ_ d D=>⟨λal H1 s1=>?_,λnal u H1 s1 hu=>?_⟩⟩
 ·refine aV (λc2=>absurd rfl c2) (λ_=>?_);refine⟨p,k,a,rfl,by lia,by lia,k0,by lia,λz=>absurd z na,λ_ d' H2 D' s2=>⟨d',rfl,?_⟩⟩;cases D.one D';have d0:=D.pos k0;have hdv:d∣p-1:=by obtain⟨u,v,B⟩:=id D;exact B.db
  have hdk:d∣k:=by obtain⟨u,v,B⟩:=id D;exact B.da
  have hd1:d<=p-1:=Hx (by lia) hdv;obtain⟨q3,q4⟩:=(q2 na d D).2 al;refine aV (λc4 x dx hx hdx nx=>jL x_TooMany.cls (s1.trans s2) hx hdx nx (q3 c4)) (λc4=>?_);obtain⟨d63,q5⟩:=q4 (by lia);obtain⟨g',ps,ds,e',hg,hP,hl29,hds⟩:=gT pap;simp only [L7,KA,MN,and_true,true_and] at e';obtain⟨rfl,rfl⟩:=e';refine⟨.ref pp,p,d,g,_,rfl,dv.same (s1.trans s2) _ hd,pap,by lia,by lia,λz=>absurd z (by have:=Ig hdv;lia),λ_ _ H3 s3=>?_⟩;have ot:Num.Ord p (g^((p-1)/d).toNat%p) d.toNat:=by
   have e1:((p-1)/d).toNat=(p-1).toNat/d.toNat:=by
    have:(((p-1).toNat/d.toNat:Nat):Int)=(p-1)/d:=by rw [Oh,Hb (by lia),Hb (by lia)]
    rw [<- this,IH]
   rw [e1];refine Num.lW (Num.Al.rest p _).symm (Num.gS hg.ord ?_);have:((d.toNat:Nat):Int)∣(((p-1).toNat:Nat):Int):=by rw [Hb (by lia),Hb (by lia)];exact hdv
   exact Hz.mp this
  have t0:=Hl (g^((p-1)/d).toNat) (show p≠0 by lia);have t1:=Hk (g^((p-1)/d).toNat) (show 0<p by lia);generalize g^((p-1)/d).toNat%p=tn at *;refine⟨.ref pp,p,g,k,a,d,_,rfl,dv.same ((s1.trans s2).trans s3) _ hd,pap,k0,by lia,na,D,by lia,al,λr H4 r0 r1 hr s4=>⟨p,r,tn,d,rfl,by lia,by lia,r0,r1,t0,t1,by lia,by lia,λl H5 s5 hl el=>⟨l,_,rfl,aM.of el,λl2 ns hp hs hl2=>?_⟩⟩⟩;have nr:¬p∣r:=λz=>by
   have k0':k.toNat=(k.toNat-1)+1:=by lia
   have h1:p∣r^k.toNat:=by rw [k0',Hu];exact Hh z
   have h2:p∣r^k.toNat-a:=hr;have:=Mb h1 h2;rw [show r^k.toNat-(r^k.toNat-a)=a by lia] at this;exact na this
  have RO:=nS pm k0 d0 hdk D r0 r1 nr hr ot hp hs;have S5:=(((s1.trans s2).trans s3).trans s4).trans s5;have s6:=aj (o:=.lst (ns.map V.int)) hl2;have e6:upd H5 l2 (.lst (ns.map V.int)) l2=GZ (.lst (ns.map V.int)):=ag;generalize upd H5 l2 (.lst (ns.map V.int))=H6 at *;have ln:=RO.len
  match ns,RO,ln,e6 with
  | [],_,ln,_=>simp at ln;lia
  | n0::nr',RO,ln,e6 =>k_data;refine eS (aM.of e6) (Je 0) rfl ⟨by show 3<=sizeLine;decide,λs hs'=>⟨by show 2<=sizeLine;decide,λt ht=>?_⟩⟩;have s7:=aj (o:=.tup [V.str "turned",V.int n0,V.int tn]) hs';have s8:=aj (o:=.tup [V.ref l2,V.ref s]) ht;exact q5 (n0::nr') n0 tn t l2 (.ref s) _ RO rfl t0 t1 ot (((S5.trans s6).trans s7).trans s8) (S5.free hl2) (bE.of ag) (s8 _ _ (s7 _ _ e6)) ⟨s,_,rfl,bE.of (s8 _ _ ag),_,_,rfl,rfl,_,_,rfl,rfl,_,_,rfl,rfl,rfl⟩
 ·have un:u≠.non:=by obtain⟨_,_,rfl,_⟩:=hu;intro z;cases z
  refine aV (λ_=>?_) (λc2=>absurd un c2);refine⟨by decide,λl hl=>⟨by show 2<=sizeLine;decide,λt ht=>?_⟩⟩;have s2:=aj (o:=.lst []) hl;have s3:=aj (o:=.tup [V.ref l,u]) ht;exact (q2 na d D).1 nal t l u _ ((s1.trans s2).trans s3) (s1.free hl) (bE.of ag) (s3 _ _ ag) (dv.same (s2.trans s3) _ hu)
end
end K
namespace K
open PySem PySem.Spec PyProof.Rows L2
section
noncomputable def aD:List Int->Int
 | []=>1
 | x::r=>x*aD r
theorem bM:∀{l:List Int} {x:Int},aD (l++[x])=aD l*x
 | [],x=>by show x*1=1*x;lia
 | y::l,x=>by show y*aD (l++[x])=y*aD l*x;rw [bM,Ib]
noncomputable def iC (p k a:Int) (n:Nat):List Int:=((IY n).map λi:Nat=>(i:Int)).filter λx=>decide (x^k.toNat%p=a%p)
theorem iR {p k a x:Int} {n:Nat}:x∈iC p k a n↔0<=x/\x<n/\x^k.toNat%p=a%p:=by
 unfold iC;rw [IB,HE];constructor
 ·rintro⟨⟨i,hi,rfl⟩,h⟩;exact⟨by lia,by have:=IF.mp hi;lia,by simpa using h⟩
 ·rintro⟨h0,h1,h2⟩;exact⟨⟨x.toNat,IF.mpr (by lia),by lia⟩,by simpa using h2⟩
theorem iJ {n:Nat} (f:Int->Bool):(((IY n).map λi:Nat=>(i:Int)).filter f).Pairwise (·<·):=by refine S0 _ (J7.mpr ?_);exact Lp.imp λh=>by lia
theorem lD {p k a:Int} {n:Nat}:(iC p k a n).Pairwise (·<·):=iJ _
noncomputable def dz (ls:List Int) (As:List (List Int)):List Int:=((IY (aD ls).toNat).map λi:Nat=>(i:Int)).filter λx=>decide (∀ q∈ls.zip As,x%q.1∈q.2)
theorem cQ {ls:List Int} {As:List (List Int)} {x:Int}:x∈dz ls As↔0<=x/\x<aD ls/\∀ q∈ls.zip As,x%q.1∈q.2:=by
 unfold dz;rw [IB,HE,decide_eq_true_eq];constructor
 ·rintro⟨⟨i,hi,rfl⟩,h⟩;exact⟨by lia,by have:=IF.mp hi;lia,h⟩
 ·rintro⟨h0,h1,h2⟩;exact⟨⟨x.toNat,IF.mpr (by lia),by lia⟩,h2⟩
theorem lj {ls:List Int} {As:List (List Int)}:(dz ls As).Pairwise (·<·):=iJ _
def FH (ls:List Int):Prop:=(∀ p∈ls,Num.Pm p)/\ls.Pairwise (·<·)
theorem FH.nd:∀{ls:List Int} {p:Int},Num.Pm p->(∀ q∈ls,Num.Pm q/\p≠q)->¬p∣aD ls
 | [],p,pm,_,h=>by have:=Hx (by decide) (show p∣1 from h);have:=pm.two;lia
 | q::ls,p,pm,hl,h=>by
  obtain⟨h1,h2⟩:=hl q (by simp);have ih:=FH.nd pm λx hx=>hl x (Ha _ hx);have pq:¬p∣q:=λz=>by have:=Hx (by have:=h1.two;lia) z;exact h1.no p pm.two (by lia) z
  exact ih (pm.or h pq)
theorem dR:∀{ls:List Int},(∀ p∈ls,Num.Pm p)->0<aD ls
 | [],_=>by decide
 | p::ls,h=>Ma (by have:=(h p (by simp)).two;lia) (dR λq hq=>h q (Ha _ hq))
theorem nU:∀{ls:List Int} {p:Int},p∈ls->p∣aD ls
 | q::ls,p,h=>by
  rcases Hw.mp h with rfl | h
  ·exact Int.dvd_mul_right _ _
  ·exact Hh (nU h)
theorem iU {x y p:Int} (h:p∣x-y):x%p=y%p:=Num.Al.iff.mp h
structure Cr (p W:Int) (f:Int->Int->Int):Prop where
 z0:∀ y x,0<=f y x/\f y x<p*W
 m1:∀ y x,f y x%p=y%p
 m2:∀ y x,f y x%W=x%W
 on:∀ z z',0<=z->z<p*W->0<=z'->z'<p*W->z%p=z'%p->z%W=z'%W->z=z'
theorem Ew {p W:Int} (pm:Num.Pm p) (W0:0<W) (n:¬p∣W):∃ f,Cr p W f:=by
 obtain⟨u,v,e⟩:=pm.co n;have p2:=pm.two;have pW:0<p*W:=Ma (by lia) W0;refine⟨λy x=>(y*(u*W)+x*(v*p))%(p*W),λy x=>⟨Hl _ (by lia),Hk _ pW⟩,λy x=>?_,λy x=>?_,λz z' h1 h2 h3 h4 h5 h6=>?_⟩
 ·show (y*(u*W)+x*(v*p))%(p*W)%p=_;rw [Jw _ ⟨W,rfl⟩];exact iU ⟨x*v-y*v,by grind⟩
 ·show (y*(u*W)+x*(v*p))%(p*W)%W=_;rw [Jw _ ⟨p,Ia _ _⟩];exact iU ⟨y*u-x*u,by grind⟩
 ·obtain⟨s,hs⟩:=Num.Al.iff.mpr h5;obtain⟨t,ht⟩:=Num.Al.iff.mpr h6;have:p*W∣z-z':=⟨u*s+v*t,by grind⟩
  have e1:=Num.Al.iff.mp (show Num.Al (p*W) z z' from this)
  rwa [Ii h1 h2,Ii h3 h4] at e1
theorem iX {α β γ:Type} (f:α->β->γ) (L:List β):∀ A:List α,(A.flatMap λy=>L.map (f y)).length=A.length*L.length
 | []=>by simp
 | y::A=>by rw [Qs,HN,G4,iX f L A,Ji,Qr];lia
theorem lG {α β γ:Type} {f:α->β->γ} {L:List β}:∀{A:List α},A.Nodup->L.Nodup->(∀ y∈A,∀ y'∈A,∀ x∈L,∀ x'∈L,f y x=f y' x'->y=y'/\x=x')->(A.flatMap λy=>L.map (f y)).Nodup
 | [],_,_,_=>by simp
 | y::A,hA,hL,h=>by
  have hA':=Kg.mp hA;rw [Qs,NT];refine⟨?_,lG hA'.2 hL λy1 h1 y2 h2=>h y1 (Ha _ h1) y2 (Ha _ h2),λa ha b hb e=>?_⟩
  ·refine J7.mpr (Ks (R:=(·≠·)) (λ{a b} ha hb n e=>n ?_) hL);exact (h y (by simp) y (by simp) a ha b hb e).2
  ·obtain⟨x,hx,rfl⟩:=HE.mp ha;obtain⟨y',hy',hb⟩:=QL.mp hb;obtain⟨x',hx',rfl⟩:=HE.mp hb;have:=(h y (by simp) y' (Ha _ hy') x hx x' hx' e).1;exact hA'.1 (this▸hy')
theorem mn {l:List Int} (h:l.Pairwise (·<·)):l.Nodup:=h.imp λh=>by lia
end
end K
namespace K
open PySem PySem.Spec PyProof.Rows L2
section
structure Found (ps:List Int) (As:List (List Int)) (ns:List Int):Prop where
 nd:ns.Nodup
 mem:∀ x,x∈ns↔x∈dz ps As
theorem fD:∀{l m:List Int},aD (l++m)=aD l*aD m
 | [],m=>(Jl _).symm
 | x::l,m=>by show x*aD (l++m)=x*aD l*aD m;rw [fD,Ib]
theorem ma {ps:List Int} (h:∀ p∈ps,Num.Pm p) (i:Nat):aD (ps.take i)<=aD ps:=by have h1:=dR (ls:=ps.take i) λq hq=>h q (Iq hq);have h2:=dR (ls:=ps.drop i) λq hq=>h q (Jy hq);have e:=fD (l:=ps.take i) (m:=ps.drop i);rw [HZ] at e;have:=HK (show 1<=aD (ps.drop i) by lia) (show 0<=aD (ps.take i) by lia);lia
theorem BF {W p n r M x:Int} {f:Int->Int->Int} (W0:0<W) (p0:0<p) (C:Cr p W f) (T:Crt.Told [(W,n),(p,r)] M x):x=f r n:=by
 have d1:M∣p*W:=T.le _ λq hq=>by
  simp only [Hw,Js,or_false] at hq;rcases hq with rfl | rfl
  ·exact⟨p,Ia _ _⟩
  ·exact⟨W,rfl⟩
 have:=Hx (Ma p0 W0) d1;obtain⟨z0,z1⟩:=C.z0 r n;have x1:=T.x1;refine C.on x _ T.x0 (by lia) z0 z1 ?_ ?_
 ·rw [C.m1];exact iU (T.al (p,r) (by simp))
 ·rw [C.m2];exact iU (T.al (W,n) (by simp))
theorem EN {W p n r:Int} (pm:Num.Pm p) (nW:¬p∣W) {i j:Nat} (ij:i<j):¬Ap [(W,n),(p,r)] i j:=by
 rintro⟨a,b,g,ha,hb,G,nd⟩;have hj:=(G9.mp hb).1;have hj2:j<2:=hj;obtain⟨rfl,rfl⟩:i=0/\j=1:=by lia
 cases ha;cases hb;have p2:=pm.two;have g0:=G.pos;have gp:g<=p:=Hx (by lia) G.db;rcases (by lia:g=1∨(2<=g/\g<p)∨g=p) with rfl | ⟨h1,h2⟩ | rfl
 ·exact nd (QV _)
 ·exact pm.no g h1 h2 G.db
 ·exact nW G.da
theorem Found.nil:Found [] [] [0]:=⟨by simp,λx=>by
 rw [cQ,Ho];constructor
 ·rintro rfl;exact⟨by decide,by decide,λq hq=>by simp at hq⟩
 ·rintro⟨h0,h1,_⟩;have:x<1:=h1;lia⟩
theorem Found.snoc {ps:List Int} {As:List (List Int)} {ns:List Int} {p:Int} {A:List Int} {f:Int->Int->Int} (F:Found ps As ns) (hl:ps.length=As.length) (W0:0<aD ps) (C:Cr p (aD ps) f) (hA:A.Nodup) (hr:∀ r∈A,0<=r/\r<p):Found (ps++[p]) (As++[A]) (ns.flatMap λn=>A.map λr=>f r n):=by
 have dq:∀(q:Int × List Int),q∈ps.zip As->q.1∣aD ps:=λq hq=>nU (LV hq).1;have z:(ps++[p]).zip (As++[A])=ps.zip As++[(p,A)]:=Q5 hl;refine⟨lG F.nd hA λy hy y' hy' x hx x' hx' e=>?_,λx=>?_⟩
 ·obtain⟨x0,x1⟩:=hr x hx;obtain⟨x0',x1'⟩:=hr x' hx';obtain⟨y0,y1,_⟩:=cQ.mp ((F.mem y).mp hy);obtain⟨y0',y1',_⟩:=cQ.mp ((F.mem y').mp hy');have e1:=C.m1 x y;have e2:=C.m2 x y;rw [e,C.m1,Ii x0 x1,Ii x0' x1'] at e1;rw [e,C.m2,Ii y0 y1,Ii y0' y1'] at e2;exact⟨e2.symm,e1.symm⟩
 ·rw [QL,cQ,z,bM,Ia (aD ps)];constructor
  ·rintro⟨n,hn,h⟩;obtain⟨r,hr',rfl⟩:=HE.mp h;obtain⟨n0,n1,hq'⟩:=cQ.mp ((F.mem n).mp hn);obtain⟨z0,z1⟩:=C.z0 r n;obtain⟨r0,r1⟩:=hr r hr';refine⟨z0,z1,λq hq=>?_⟩;rcases IC.mp hq with hq | hq
   ·have:=hq' q hq
    rwa [<- Jw (f r n) (dq q hq),C.m2,Jw _ (dq q hq)]
   ·cases Ho.mp hq;show f r n%p∈A;rw [C.m1,Ii r0 r1];exact hr'
  ·rintro⟨h0,h1,h2⟩;have m0:=Hl x (show aD ps≠0 by lia);have m1:=Hk x W0;refine⟨x%aD ps,(F.mem _).mpr (cQ.mpr ⟨m0,m1,λq hq=>?_⟩),HE.mpr ⟨x%p,h2 (p,A) (Hm _ (Ho.mpr rfl)),?_⟩⟩
   ·rw [Jw _ (dq q hq)];exact h2 q (JT _ hq)
   ·obtain⟨z0,z1⟩:=C.z0 (x%p) (x%aD ps);exact C.on _ _ z0 z1 h0 h1 (by rw [C.m1,LS]) (by rw [C.m2,LS])
theorem Found.perm {ps:List Int} {As:List (List Int)} {ns:List Int} (F:Found ps As ns):ns.Perm (dz ps As):=(List.perm_ext_iff_of_nodup F.nd (mn lj)).mpr F.mem
theorem Found.len {ps:List Int} {As:List (List Int)} {ns:List Int} (F:Found ps As ns) {B:Int} (hB:aD ps<=B):ns.length<=B.toNat:=by rw [F.perm.length_eq];unfold dz;refine Hg (JP _ _) ?_;rw [G4,Jb];lia
end
section
variable {P:Hq} {w:HU} {K:G1} {mg:HA->Option G2} {base:Ip}
def Ab (H:Hp) (As:List (List Int)) (us:List V):Prop:=us.length=As.length/\∀(i:Nat) u,us[i]?=GZ u->∃ l A,u=.ref l/\As[i]?=GZ A/\H l=GZ (.lst (A.map V.int))
theorem Ab.same {H H':Hp} {As:List (List Int)} {us:List V} (h:Ab H As us) (s:aw H H'):Ab H' As us:=⟨h.1,λi u e=>by
 obtain⟨l,A,h1,h2,h3⟩:=h.2 i u e;exact⟨l,A,h1,h2,s _ _ h3⟩⟩
structure Fu (ps:List Int) (As:List (List Int)):Prop where
 pm:∀ p∈ps,Num.Pm p
 up:ps.Pairwise (·<·)
 len:ps.length=As.length
 rs:∀(i:Nat) p A,ps[i]?=GZ p->As[i]?=GZ A->A.Nodup/\∀ r∈A,0<=r/\r<p
 le:aD ps<=1000
def Cj (K:G1):Sp:=λvs H Q _=>∃(pa ra:G6) (ps:List Int) (As:List (List Int)) (us:List V),vs=[.ref pa,.ref ra]/\H pa=GZ (.lst (ps.map V.int))/\H ra=GZ (.lst us)/\Ab H As us/\Fu ps As/\∀ l H',aw H H'->H l=none->H' l=GZ (.lst ((dz ps As).map V.int))->Q (.ref l) H'
def Ej (pa ra:G6) (ps:List Int) (As:List (List Int)) (H0:Hp) (i:Nat) (σ':L2.St) (H':Hp):Prop:=∃(l:G6) (ns:List Int) (o4 o5:Option V),σ'=[GZ (.ref pa),GZ (.ref ra),GZ (.int (aD (ps.take i))),GZ (.ref l),o4,o5]/\aw H0 H'/\H' l=GZ (.lst (ns.map V.int))/\Found (ps.take i) (As.take i) ns
theorem fN:av ["primes","rests","whole","found","p","choice"] ["primes","rests"] (ak (top 52)):=dc
theorem DH (D:ay K mg "all_together" (top 52)) (c_put_together:Callee P w K mg base aQ 5 "put_together" ["places"] (zI K)) (Qu:mg "zip"=none) (n_sorted:mg "sorted"=none):Callee P w K mg base aQ 6 "all_together" ["primes","rests"] (Cj K):=by
 refine cO (len:=by intro _ _ _ _ h;repeat (first | (obtain⟨rfl,_⟩:=h;exact rfl) | obtain⟨_,h⟩:=h)) D fN (λf cdv A outer s H vs Q E hr h=>?_);obtain⟨pa,ra,ps,As,us,rfl,hp,hra,hL,J,q⟩:=h;have nd:=fN.nd;refine⟨_,(ae (iI (i:=2) nd rfl (MJ rfl) ah) (ae (bj (i:=3) nd (bX (aa ah af))) (ae (bN HC rfl (ue .l .l rfl Qu (aa (pv 0) (aa (pv 1) af))) (bY (n:=2) rfl (az (aq (i:=4) nd rfl (MJ rfl) (.inl rfl)) (az (aq (i:=5) nd rfl (MJ rfl) (.inl rfl)) aT))) (ae (zj (i0:=3) nd rfl (HL rfl) rfl (lz (sub:=by repeat (first | exact True.intro | refine⟨rfl,?_⟩)) (has:=by repeat (first | exact True.intro | refine⟨rfl,?_⟩ | refine⟨True.intro,?_⟩)) (j:=by repeat (first | exact True.intro | refine⟨⟨rfl,rfl,.inl rfl,.inl rfl⟩,?_⟩)) (N':=["number","rest","whole","p","choice"]) (js:=[none,none,GZ 2,GZ 4,GZ 5]) rfl rfl) (aW (pv 3)) (λ_ _ _ _=>(aq (i:=0) (show IA [("number":HA),("rest":HA),("whole":HA),("p":HA),("choice":HA)] from by decide +kernel) rfl (HL rfl) (.inr rfl))) (λ_ _ _ _=>aZ) (λ_ _ _ _=>(y7 (K:=K) rfl (pv 4))) (λ_ _ _ _=>(aq (i:=1) (show IA [("number":HA),("rest":HA),("whole":HA),("p":HA),("choice":HA)] from by decide +kernel) rfl (HL rfl) (.inr rfl))) (λ_ _ _ _=>aZ) (λ_ _ _ _=>(aG (bw K rfl) (bJ c_put_together hr aE (aa (bX (aa (aL (aa (pv 2) (aa (pv 0) af))) (aa (aL (aa (pv 3) (aa (pv 1) af))) af))) af)) ah (λ_ _=>rfl))) (by rfl) (by first | exact .inl rfl | exact .inr rfl)) (ai (fE (i:=2) nd rfl (MJ rfl) (pv 4) (i4 iZ))))) (ai (aA (aF iM rfl n_sorted LU (aa (pv 3) af))))))),?_⟩;show bC _ _ _ [GZ (.ref pa),GZ (.ref ra),none,none,none,none] H;k_data;refine⟨by show 1<=sizeLine;decide,λl0 hl0=>?_⟩;have s0:=aj (o:=.lst [V.int 0]) hl0;have e0:upd H l0 (.lst [V.int 0]) l0=GZ (.lst ([0].map V.int)):=ag;generalize upd H l0 (.lst [V.int 0])=H0 at *;have hp0:=s0 _ _ hp;have hra0:=s0 _ _ hra;have hL0:=hL.same s0;have ul:us.length=ps.length:=by rw [hL.1,J.len]
 refine⟨⟨_,aM.of hp0⟩,⟨_,aM.of hra0⟩,rh (k1:=.l) (k2:=.l) (xs:=ps.map V.int) (ys:=us) (Ej pa ra ps As H0) ⟨l0,[0],none,none,rfl,aw.refl _,e0,Found.nil⟩ (by rw [G4,ul]) (λi σ' H' _ ⟨_,_,_,_,_,s1,_⟩=>⟨aM.of (s1 _ _ hp0),aM.of (s1 _ _ hra0)⟩) ?_ ?_⟩
 ·rintro i x y σ' H1 p1 hx hy ⟨l,ns,o4,o5,rfl,s1,el,F⟩ hp1;rw [He] at hx;obtain⟨p,hx',rfl⟩:=Hj.mp hx;obtain⟨la,A,rfl,hA,ela⟩:=hL0.2 i y hy;have s2:=aj (o:=.tup [V.int p,V.ref la]) hp1;refine⟨p1,_,rfl,bE.of ag,rfl,?_⟩;k_data;have S2:=s1.trans s2;have el2:=s2 _ _ el;have ela2:=S2 _ _ ela;generalize upd H1 p1 (.tup [V.int p,V.ref la])=H2 at *;have mp:=Hc hx';have pm:=J.pm p mp;have p2:=pm.two;have W0:=dR (ls:=ps.take i) λq hq=>J.pm q (Iq hq);obtain⟨hAn,hAr⟩:=J.rs i p A hx' hA;have iA:i<ps.length:=(G9.mp hx').1;have nW:¬p∣aD (ps.take i):=FH.nd pm λq hq=>⟨J.pm q (Iq hq),λe=>by
   obtain⟨j,hj,ej⟩:=List.mem_take_iff_getElem.mp hq;obtain⟨hi',ei⟩:=G9.mp hx';have:=JN.mp J.up j i (by lia) hi' (by lia);lia⟩
  obtain⟨f,C⟩:=Ew pm W0 nW;have Wle:aD (ps.take i)*p<=1000:=by have:=ma J.pm (i+1);rw [HI,hx'] at this;have e:aD (ps.take i++(GZ p).toList)=aD (ps.take i)*p:=bM;have:=J.le;lia
  have F':Found (ps.take (i+1)) (As.take (i+1)) (ns.flatMap λn=>A.map λr=>f r n):=by rw [HI,HI,hx',hA];exact F.snoc (by rw [HB,HB,J.len]) W0 C hAn hAr
  have bl:ns.length*A.length<=1000:=by
   have:=F'.len (B:=1000) (by rw [HI,hx'];exact IZ (Int.le_of_eq bM) Wle)
   rwa [iX (λn r=>f r n)] at this
  have n9:=HK (show 1<=p by lia) (IT W0);have p9:=Il (show 1<=aD (ps.take i) by lia) (show 0<=p by lia);generalize hW:aD (ps.take i)=W at *;refine⟨⟨_,aM.of el2⟩,qJ (xs:=ns.map V.int) (λj ys H'=>aw H2 H'/\ys=((ns.take j).flatMap λn=>A.map λr=>f r n).map V.int) ⟨aw.refl _,rfl⟩ (λj ys H' hj h=>⟨aM.of (h.1 _ _ el2),?_⟩) ?_ ?_⟩
  ·rw [h.2,G4,iX (λn r=>f r n),HB];exact Hg (Ku _ (QM _ _)) (Hg bl (by decide))
  ·rintro j v ys H5 hv ⟨s5,rfl⟩;rw [He] at hv;obtain⟨n,hn,rfl⟩:=Hj.mp hv;obtain⟨n0,n1,_⟩:=cQ.mp ((F.mem n).mp (Hc hn));rw [hW] at n1;simp only [bV,HH,Jc,KN];k_data;have nl:=(G9.mp hn).1;have al:A.length<=1000:=Hg (by have:=Ku A.length (show 1<=ns.length by lia);lia) bl;refine⟨⟨rfl,rfl,rfl,True.intro⟩,_,rfl,la,rfl,⟨_,aM.of (s5 _ _ ela2)⟩,?_⟩;refine tF (xs:=A.map V.int) (λm zs H'=>aw H2 H'/\zs=(((ns.take j).flatMap λn=>A.map λr=>f r n)++(A.take m).map λr=>f r n).map V.int) ⟨s5,by simp⟩ (λm zs H' hm h=>⟨aM.of (h.1 _ _ ela2),?_⟩) ?_ (λzs H' h=>⟨h.1,?_⟩)
   ·rw [h.2,G4,HN,iX (λn r=>f r n),G4,HB,HB];have:=Ku A.length (QM j ns.length);exact JG (show _<=2000 by lia) (by decide)
   ·rintro m v zs H6 hv ⟨s6,rfl⟩;rw [He] at hv;obtain⟨r,hr',rfl⟩:=Hj.mp hv;obtain⟨r0,r1⟩:=hAr r (Hc hr');k_data;refine⟨⟨rfl,rfl,rfl,rfl,True.intro⟩,_,rfl,by show 2<=sizeLine;decide,λq1 hq1=>⟨_,rfl,by show 2<=sizeLine;decide,λq2 hq2=>⟨by show 2<=sizeLine;decide,λq3 hq3=>?_⟩⟩⟩;have t1:=aj (o:=.tup [V.int W,V.int n]) hq1;have t2:=aj (o:=.tup [V.int p,V.int r]) hq2;have t3:=aj (o:=.lst [V.ref q1,V.ref q2]) hq3;refine⟨q3,_,[(W,n),(p,r)],rfl,aM.of ag,⟨_,_,rfl,dv.tup (t3 _ _ (t2 _ _ ag)) ⟨_,_,rfl,rfl,.one rfl⟩,.one (dv.tup (t3 _ _ ag) ⟨_,_,rfl,rfl,.one rfl⟩)⟩,λpl hpl=>?_,by show 2<=12;decide,λi' j' _ _ ij ap=>absurd ap (EN pm nW ij),λM x q4 H7 _ T _ s7 f7 e7=>bA (bE.of e7) xp ⟨s6.trans (((t1.trans t2).trans t3).trans s7),?_⟩⟩
    ·simp only [Hw,Js,or_false] at hpl;rcases hpl with rfl | rfl
     ·exact⟨by show 0<W;lia,by show W<=10^18;lia,by show -(10^80)<=n;lia,by show n<=10^80;lia⟩
     ·exact⟨by show 0<p;lia,by show p<=10^18;lia,by show -(10^80)<=r;lia,by show r<=10^80;lia⟩
    ·rw [BF W0 (by lia) C T,HI,hr'];simp
   ·rw [h.2,G4,HY,HI,hn,List.flatMap_append];simp
  ·rintro ys H5 pz ⟨s5,rfl⟩ hpz;rw [G4,HY];have e1:aD (ps.take (i+1))=W*p:=by rw [HI,hx',<- hW];exact bM
   exact⟨Bd.of (by lia) (by lia),Bd.of (by lia) (by lia),pz,_,GZ (.int p),GZ (.ref la),by rw [e1],S2.trans (s5.trans (aj hpz)),ag,F'⟩
 ·rintro σ' H1 ⟨l,ns,o4,o5,rfl,s1,el,F⟩;k_data;rw [G4,HY,show ps.length=As.length from J.len,HY] at F;refine⟨l,_,rfl,aM.of el,λl2 ms hp' hs hl2=>?_⟩;have nd':=hp'.nodup_iff.mpr F.nd;have rise:ms.Pairwise (·<·):=(hs.and nd').imp fun⟨h1,h2⟩=>by lia
  obtain rfl:ms=dz ps As:=Num.iF rise lj λx=>(hp'.mem_iff).trans (F.mem x);exact q l2 _ ((s0.trans s1).trans (aj hl2)) ((s0.trans s1).free hl2) ag
end
end K
namespace K
open PySem PySem.Spec PyProof.Rows L2
section
variable {P:Hq} {w:HU} {K:G1} {mg:HA->Option G2} {base:Ip} {C:G6}
noncomputable def gc (k p:Int):Nat:=Ov k.toNat (p-1).toNat
theorem C6 {p k d:Int} (h:Dg p k d) (p1:1<=p) (k0:0<k):d=(gc k p:Nat):=by
 have d0:=h.pos k0;unfold gc;obtain⟨u,v,B⟩:=h;have e1:((k.toNat:Nat):Int)=k:=Hb (by lia);have e2:(((p-1).toNat:Nat):Int)=p-1:=Hb (by lia);have e3:((d.toNat:Nat):Int)=d:=Hb (by lia);have h1:d.toNat∣Ov k.toNat (p-1).toNat:=O1 (Hz.mp (by rw [e3,e1];exact B.da)) (Hz.mp (by rw [e3,e2];exact B.db));have h2:Ov k.toNat (p-1).toNat∣d.toNat:=by
  refine Hz.mp ?_;rw [e3,<- B.lin];refine Jx (Hh ?_) (Hh ?_)
  ·rw [<- e1];exact Hz.mpr (by rw [e1];exact Ob _ _)
  ·rw [<- e2];exact Hz.mpr (by rw [e2];exact Mv _ _)
 have:=Oa h1 h2;lia
theorem Aq {H:Hp} {Q:VK} {E:XK} {k p:Int} (k0:0<k) (p1:1<=p) (q:Q (.int (gc k p:Nat)) H):mC [.int k,.int (p-1)] H Q E :=
 ⟨k,p-1,rfl,k0,by lia,λg G=>by
  have g0:=G.pos;have e1:((k.toNat:Nat):Int)=k:=Hb (by lia);have e2:(((p-1).toNat:Nat):Int)=p-1:=Hb (by lia);have e3:((g.toNat:Nat):Int)=g:=Hb (by lia);have h1:g.toNat∣gc k p:=O1 (Hz.mp (by rw [e3,e1];exact G.dn)) (Hz.mp (by rw [e3,e2];exact G.da));have h2:gc k p∣g.toNat:=Hz.mp (by
   rw [e3];exact G.gr _ (KJ (Hz.mpr (Ob _ _)) ⟨1,by lia⟩) (KJ (Hz.mpr (Mv _ _)) ⟨1,by lia⟩))
  rw [show g=((gc k p:Nat):Int) by rw [<- Oa h1 h2,e3]];exact q⟩
theorem Bo {p g k a d:Int} (pm:Num.Pm p) (og:Num.Ord p g (p-1).toNat) (k0:0<k) (D:Dg p k d) (al:Num.Al p (a^((p-1)/d).toNat) 1):∃ r,0<=r/\r<p/\Num.Al p (r^k.toNat) a:=by
 have p2:=pm.two;have d0:=D.pos k0;obtain⟨u,v,B⟩:=D;have hd:=B.db;have lin:=B.lin;have ec:=Pg hd;have e0:=JB (show 0<=p-1 by lia) (show 0<=d by lia);have q0:0<(p-1)/d:=by
  rcases KR e0 with z | z
  ·exact z
  ·rw [<- z,Oy] at ec;lia
 have en:(p-1).toNat=d.toNat*((p-1)/d).toNat:=by
  have:(((p-1).toNat:Nat):Int)=((d.toNat*((p-1)/d).toNat:Nat):Int):=by rw [Im,Hb (by lia),Hb e0,Hb (by lia),ec]
  lia
 have o':=Num.gS og (q:=((p-1)/d).toNat) ⟨d.toNat,by rw [en,Ij]⟩;rw [show (p-1).toNat/((p-1)/d).toNat=d.toNat by rw [en,PY _ (by lia)]] at o';obtain⟨x,_,hx⟩:=Num.jc pm o' al;refine⟨Num.Pz (p-1) g (u*x)%p,Hl _ (by lia),Hk _ (by lia),?_⟩;have h1:Num.Al p (Num.Pz (p-1) g (u*x)%p) (Num.Pz (p-1) g (u*x)):=Num.Al.iff.mpr (Jw _ (Lo _));have n0:0<p-1:=by lia
 have h2:=(h1.pow k.toNat).trans (Num.mi n0 og.one (u*x) k.toNat);rw [Hb (by lia),Num.dY (z:=u*x*k) (y:=d*x) ⟨-(v*x),by rw [<- lin];grind⟩] at h2;have h3:=h2.trans (Num.fF n0 og.one (z:=d*x) (JR (by lia) (by lia)));rw [show (d*(x:Int)).toNat=d.toNat*x by
  have:(((d*(x:Int)).toNat:Nat):Int)=((d.toNat*x:Nat):Int):=by rw [Im,Hb (JR (by lia) (by lia)),Hb (by lia)]
  lia,<- Num.bp] at h3
 exact h3.trans hx.symm
theorem tj {p g k a d:Int} (pm:Num.Pm p) (og:Num.Ord p g (p-1).toNat) (k0:0<k) (na:¬p∣a) (D:Dg p k d) (al:Num.Al p (a^((p-1)/d).toNat) 1):kI p k a d (iC p k a p.toNat):=by
 have p2:=pm.two;have d0:=D.pos k0;obtain⟨r,r0,r1,hr⟩:=Bo pm og k0 D al;have hdk:d∣k:=by obtain⟨u,v,B⟩:=id D;exact B.da
 have hdp:d∣p-1:=by obtain⟨u,v,B⟩:=id D;exact B.db
 have k':k.toNat=(k.toNat-1)+1:=by lia
 have nr:¬p∣r:=λz=>na (by
  have h4:p∣r^k.toNat:=by rw [k',Hu];exact Hh z
  have h5:p∣r^k.toNat-a:=hr;have:=Mb h4 h5
  rwa [show r^k.toNat-(r^k.toNat-a)=a by lia] at this)
 have ot:Num.Ord p (g^((p-1).toNat/d.toNat)) d.toNat:=Num.gS og (Hz.mp (by rw [Hb (by lia),Hb (by lia)];exact hdp));have RO:kI p k a d ((((IY d.toNat).map λi=>r*(g^((p-1).toNat/d.toNat))^i%p)).mergeSort):=nS pm k0 d0 hdk D r0 r1 nr hr ot (List.mergeSort_perm ..) (by
  have:=List.pairwise_mergeSort (le:=λa b:Int=>decide (a<=b)) (λa b c h1 h2=>by simp at *;lia) (λa b=>by simp;lia) ((IY d.toNat).map λi=>r*(g^((p-1).toNat/d.toNat))^i%p);exact this.imp λh=>by simpa using h)
 have ep:((p.toNat:Nat):Int)=p:=Hb (by lia);have e:iC p k a p.toNat=(((IY d.toNat).map λi=>r*(g^((p-1).toNat/d.toNat))^i%p)).mergeSort:=Num.iF lD RO.rise λx=>by rw [iR,ep];exact⟨fun⟨h0,h1,h2⟩=>RO.all x h0 h1 (Num.Al.iff.mpr h2),λh=>⟨(RO.ok x h).1,(RO.ok x h).2.1,Num.Al.iff.mp (RO.ok x h).2.2⟩⟩
 rw [e];exact RO
noncomputable abbrev cP (k a p:Int):List Int:=iC p k a p.toNat
theorem pT {p x:Int} {k:Int} (pm:Num.Pm p) (k0:0<k):p∣x^k.toNat↔p∣x:=by
 have k':k.toNat=(k.toNat-1)+1:=by lia
 constructor
 ·intro h;rcases Ox (p∣x) with z | z
  ·exact z
  ·exact absurd h (pm.unit ((pm.co z).pow _))
 ·intro h;rw [k',Hu];exact Hh h
theorem iS {p k a:Int} (pm:Num.Pm p) (k0:0<k) (pa:p∣a):cP k a p=[0]:=by
 have p2:=pm.two;have ep:((p.toNat:Nat):Int)=p:=Hb (by lia);refine Num.iF lD (by simp) λx=>?_;rw [iR,Ho,ep,Ig pa];constructor
 ·rintro⟨h0,h1,h2⟩;have:=(pT pm k0).mp (HD h2);rcases KR h0 with z | z
  ·have:=Hx z this;lia
  ·exact z.symm
 ·rintro rfl;exact⟨Je _,by lia,Ig ((pT pm k0).mpr (Mt p))⟩
theorem C7 {p k a d x:Int} (pm:Num.Pm p) (k0:0<k) (na:¬p∣a) (D:Dg p k d) (h3:Num.Al p (x^k.toNat) a):Num.Al p (a^((p-1)/d).toNat) 1:=by
 have p2:=pm.two;have d0:=D.pos k0;have hdk:d∣k:=by obtain⟨u,v,B⟩:=id D;exact B.da
 have hdp:d∣p-1:=by obtain⟨u,v,B⟩:=id D;exact B.db
 have nx:¬p∣x:=λz=>na (by
  have h4:=(pT pm k0).mpr z;have h5:p∣x^k.toNat-a:=h3;have:=Mb h4 h5
  rwa [show x^k.toNat-(x^k.toNat-a)=a by lia] at this)
 have h4:=(h3.pow ((p-1)/d).toNat).symm;rw [Num.bp] at h4;refine h4.trans ?_;obtain⟨c,hc⟩:=hdk;have c0:0<=c:=by
  rcases Int.lt_or_le c 0 with z | z
  ·have:=LM d0 z;lia
  ·exact z
 have e0:=JB (show 0<=p-1 by lia) (show 0<=d by lia);have e2:k.toNat*((p-1)/d).toNat=(p-1).toNat*c.toNat:=by
  have:((k.toNat*((p-1)/d).toNat:Nat):Int)=(((p-1).toNat*c.toNat:Nat):Int):=by
   rw [Im,Im,Hb (by lia),Hb e0,Hb (by lia),Hb c0,hc];have:=Pg hdp
   grind
  lia
 rw [e2];exact Num.aN (Num.jM pm nx)
theorem lC {p k a d:Int} (pm:Num.Pm p) (k0:0<k) (na:¬p∣a) (D:Dg p k d) (nal:¬Num.Al p (a^((p-1)/d).toNat) 1):cP k a p=[]:=MO.mpr λx hx=>nal (C7 pm k0 na D (Num.Al.iff.mpr (iR.mp hx).2.2))
theorem C8 {p k a:Int} (pm:Num.Pm p):(cP k a p).Nodup/\∀ r∈cP k a p,0<=r/\r<p:=⟨mn lD,λr hr=>by
 have p2:=pm.two;obtain⟨h0,h1,_⟩:=iR.mp hr;exact⟨h0,by lia⟩⟩
theorem tf {p k a:Int} (pm:Num.Pm p):((cP k a p).length:Int)<=p:=by
 have p2:=pm.two;have:(cP k a p).length<=p.toNat:=by unfold cP iC;refine Hg (JP _ _) ?_;rw [G4,Jb];exact Hd _
 lia
def j4 (K:G1) (p k a:Int) (s:V) (H:Hp):Prop:=(p∣a/\dv K H (.tuple [.str "nought"]) s)∨(¬p∣a/\∃ r0 tn,(cP k a p)[0]?=GZ r0/\0<=tn/\tn<p/\Num.Ord p tn (cP k a p).length/\dv K H (CA r0 tn) s)
theorem j4.same {p k a:Int} {s:V} {H H':Hp} (h:j4 K p k a s H) (ss:aw H H'):j4 K p k a s H':=by
 rcases h with⟨h1,h2⟩|⟨h1,r0,tn,h2,h3,h4,h5,h6⟩
 ·exact .inl ⟨h1,dv.same ss _ h2⟩
 ·exact .inr ⟨h1,r0,tn,h2,h3,h4,h5,dv.same ss _ h6⟩
def vB (K:G1) (p k a:Int) (v:V) (H:Hp):Prop:=∃ t l s,v=.ref t/\bE K H t [.ref l,s]/\H l=GZ (.lst ((cP k a p).map V.int))/\j4 K p k a s H
theorem vB.same {p k a:Int} {v:V} {H H':Hp} (h:vB K p k a v H) (ss:aw H H'):vB K p k a v H':=by obtain⟨t,l,s,rfl,h1,h2,h3⟩:=h;exact⟨t,l,s,rfl,h1.same ss,ss _ _ h2,h3.same ss⟩
theorem Au {CM:G6} {H:Hp} {Q:VK} {E:XK} {v:V} {p g k a:Int} {rows:Hy} (hd:dv K H (.tuple [.int p,.int g,rows]) v) (pap:Num.fQ p (.tuple [.int p,.int g,rows])) (p9:p<=400) (k0:0<k) (k1:k<=10^60) (ne:cP k a p≠[])
  (q:∀ v H',aw H H'->vB K p k a v H'->Q v H'):qi K CM 400 [v,.int k,.int a] H Q E:=by
 obtain⟨pm,_⟩:=fb pap;have p2:=pm.two;obtain⟨g',ps,ds,e',hg,_⟩:=gT pap;simp only [L7,KA,MN,and_true,true_and] at e';obtain⟨rfl,rfl⟩:=e';refine⟨v,p,g,k,a,_,rfl,hd,pap,k0,k1,λpa t l s H' ss fl hT el hs=>q _ H' ss ⟨t,l,s,rfl,hT,by rw [iS pm k0 pa];exact el,.inl ⟨pa,hs⟩⟩,λna d D=>?_⟩;have d1:d<=p-1:=by obtain⟨u,v,B⟩:=id D;exact Hx (by lia) B.db
 refine⟨λnal=>absurd (lC pm k0 na D nal) ne,λal=>⟨λc=>absurd c (by lia),λ_=>⟨by lia,λrs r0 tn t l s H' RO er t0 t1 ot ss fl hT el hs=>?_⟩⟩⟩;have R2:=tj pm hg.ord k0 na D al;have ln:((cP k a p).length:Int)=d:=R2.len;obtain rfl:rs=cP k a p:=Num.iF RO.rise R2.rise λx=>⟨λh=>R2.all x (RO.ok x h).1 (RO.ok x h).2.1 (RO.ok x h).2.2,λh=>RO.all x (R2.ok x h).1 (R2.ok x h).2.1 (R2.ok x h).2.2⟩
 exact q _ H' ss ⟨t,l,s,rfl,hT,el,.inr ⟨na,r0,tn,er,t0,t1,by rw [show (cP k a p).length=d.toNat by lia];exact ot,hs⟩⟩
theorem fe:∀{l:List Int},(∀ x∈l,1<=x)->1<=aD l
 | [],_=>by decide
 | x::l,h=>by have h1:=fe (l:=l) λy hy=>h y (Ha _ hy);have h2:=HK h1 (show 0<=x by have:=h x (by simp);lia);have:=h x (by simp);show 1<=x*aD l;lia
theorem nV {l:List Int} (h:∀ x∈l,1<=x) (i:Nat):1<=aD (l.take i)/\aD (l.take i)<=aD l:=by have h1:=fe (l:=l.take i) λq hq=>h q (Iq hq);have h2:=fe (l:=l.drop i) λq hq=>h q (Jy hq);have e:=fD (l:=l.take i) (m:=l.drop i);rw [HZ] at e;have:=HK h2 (show 0<=aD (l.take i) by lia);exact⟨h1,by lia⟩
def vn (K:G1):Sp:=λvs H Q _=>∃(l:G6) (ns:List Int),vs=[.ref l]/\aM K H l (ns.map V.int)/\(∀ n∈ns,1<=n/\n<=10^8)/\aD ns<=10^8/\Q (.int (aD ns)) H
theorem iy:av ["numbers","product","number"] ["numbers"] (ak (top 14)):=dc
theorem yL (D:ay K mg "product_of" (top 14)):Callee P w K mg base aQ 1 "product_of" ["numbers"] (vn K):=by
 refine cO (len:=by intro _ _ _ _ h;repeat (first | (obtain⟨rfl,_⟩:=h;exact rfl) | obtain⟨_,h⟩:=h)) D iy (λf cdv A outer s H vs Q E hr h=>?_);obtain⟨l,ns,rfl,hl,hn,n5,q⟩:=h;have nd:=iy.nd;refine⟨_,(ae (bj (i:=1) nd ah) (ae (bN HC rfl (aW (pv 0)) (aq (i:=2) nd rfl (HL rfl) (.inr rfl)) (ai (fE (i:=1) nd rfl (HL rfl) (pv 2) (i4 iZ)))) (ai (aA (pv 1))))),?_⟩;show bC _ _ _ [GZ (.ref l),none,none] H;k_data;refine⟨⟨_,hl⟩,?_⟩;refine cL (xs:=ns.map V.int) (λi σ' H'=>(∃ o2,σ'=[GZ (.ref l),GZ (.int (aD (ns.take i))),o2])/\H'=H) ⟨⟨_,rfl⟩,rfl⟩ (λi σ' H' _ h=>h.2▸hl) ?_ ?_
 ·rintro i x σ' H' hx ⟨⟨o2,rfl⟩,rfl⟩;rw [He] at hx;obtain⟨n,hn',rfl⟩:=Hj.mp hx;obtain⟨n0,n1⟩:=hn n (Hc hn');obtain⟨t0,t1⟩:=nV (λx hx=>(hn x hx).1) i;k_data;refine⟨Bd.of (by lia) (by lia),Bd.of (by lia) (by lia),?_⟩;rw [HI,hn'];rw [show aD (ns.take i++(GZ n).toList)=aD (ns.take i)*n from bM]
 ·rintro σ' H' ⟨⟨o2,rfl⟩,rfl⟩;k_data;rw [G4,HY];exact q
noncomputable def fk (k a:Int) (ps:List Int):List (List Int):=ps.map (cP k a)
noncomputable def dA (k a:Int) (ps:List Int):Int:=aD (ps.map λp=>((cP k a p).length:Int))
structure mN (ps:List Int) (ds:List Hy):Prop where
 len:ds.length=ps.length
 pap:∀(i:Nat) p d,ps[i]?=GZ p->ds[i]?=GZ d->Num.fQ p d
 up:ps.Pairwise (·<·)
 le:aD ps<=1000
 vP:∀ p∈ps,p<=400
theorem mN.pm {ps:List Int} {ds:List Hy} (h:mN ps ds):∀ p∈ps,Num.Pm p:=λp hp=>by obtain⟨i,hi⟩:=JQ.mp hp;have hl:=(G9.mp hi).1;exact (fb (h.pap i p _ hi (Hf (by have:=h.len;lia)))).1
theorem mN.Gn {ps:List Int} {ds:List Hy} {k a:Int} (h:mN ps ds):Fu ps (fk k a ps):=⟨h.pm,h.up,by unfold fk;rw [G4],λi p A hp hA=>by
 unfold fk at hA;rw [He,hp] at hA;cases hA;exact C8 (h.pm p (Hc hp)),h.le⟩
theorem mN.at {ps:List Int} {ds:List Hy} (h:mN ps ds) {H:Hp} {us:List V} (hd:aP K H ds us) {i:Nat} {x:V} (hx:us[i]?=GZ x):∃ p g rows,ps[i]?=GZ p/\Num.fQ p (.tuple [.int p,.int g,rows])/\dv K H (.tuple [.int p,.int g,rows]) x:=by obtain⟨d,h1,h2⟩:=hd.get hx;have hi:=(G9.mp h1).1;rw [h.len] at hi;have hp:=Hf hi;have hP:=h.pap i _ d hp h1;obtain⟨g,qs,ds0,rfl,_⟩:=gT hP;exact⟨_,g,_,hp,hP,h2⟩
theorem l8 {f:Int->Int}:∀{ps:List Int},(∀ p∈ps,1<=f p/\f p<=p)->aD (ps.map f)<=aD ps
 | [],_=>Je _
 | p::ps,h=>by
  have ih:=l8 λq hq=>h q (Ha _ hq);have h1:=fe (l:=ps.map f) λx hx=>by obtain⟨q,hq,rfl⟩:=HE.mp hx;exact (h q (Ha _ hq)).1
  obtain⟨f1,f2⟩:=h p (by simp);show f p*aD (ps.map f)<=p*aD ps;exact LI f2 ih (by lia) (by lia)
theorem uR {p g:Int} {rows:Hy} (pap:Num.fQ p (.tuple [.int p,.int g,rows])):Num.Ord p g (p-1).toNat:=by obtain⟨g',ps',ds',e',hg,_⟩:=gT pap;simp only [L7,KA,MN,and_true,true_and] at e';obtain⟨rfl,_⟩:=e';exact hg.ord
theorem xM {p g k a d:Int} {rows:Hy} (pap:Num.fQ p (.tuple [.int p,.int g,rows])) (k0:0<k) (na:¬p∣a) (D:Dg p k d) (ne:cP k a p≠[]):((cP k a p).length:Int)=d:=by
 have pm:=(fb pap).1;rcases Ox (Num.Al p (a^((p-1)/d).toNat) 1) with al | nal
 ·exact (tj pm (uR pap) k0 na D al).len
 ·exact absurd (lC pm k0 na D nal) ne
noncomputable def rB (n e r:Int):Hy:=.tuple [.str "none",.int n,.int e,.int r]
def xh (K:G1) (k a:Int) (ps:List Int) (s:V) (H:Hp):Prop:=∃ b q rows,s=.ref b/\bE K H b [.str "by",.ref q]/\bE K H q rows/\rows.length=ps.length/\∀(i:Nat) p v,ps[i]?=GZ p->rows[i]?=GZ v->j4 K p k a v H
def Ci (K:G1) (CM:G6):Sp:=λvs H Q E=>∃(pa:G6) (us:List V) (ps:List Int) (ds:List Hy) (k a:Int),vs=[.ref pa,.int k,.int a]/\H pa=GZ (.lst us)/\aP K H ds us/\mN ps ds/\ps.length<=12/\0<k/\k<=10^60 /\
 (∀(n:Nat) p,ps[n]?=GZ p->cP k a p=[]->¬p∣a->(∀(j:Nat) q,j<n->ps[j]?=GZ q->cP k a q≠[])->∀ t l s H',aw H H'->H l=none->bE K H' t [.ref l,s]->H' l=GZ (.lst [])->dv K H' (rB n ((p-1)/(gc k p:Nat)) (a^((p-1)/(gc k p:Nat)).toNat%p)) s->Q (.ref t) H') /\
 ((∀ p∈ps,cP k a p≠[])->(400<dA k a ps->Ae CM "many" (.int (dA k a ps)) H E)/\(dA k a ps<=400->∀ t l s H',aw H H'->H l=none->bE K H' t [.ref l,s]->H' l=GZ (.lst ((dz ps (fk k a ps)).map V.int))->xh K k a ps s H'->Q (.ref t) H'))
theorem kx:av ["papers","k","a","n","paper","none","many","told","found"] ["papers","k","a"] (ak (top 51)):=dc
theorem DG {CM:G6} (D:ay K mg "roots_of" (top 51)) (c_shown_none:Callee P w K mg base aQ 5 "shown_none" ["p","k","a"] (uo K)) (c_how_many_roots:Callee P w K mg base aQ 2 "how_many_roots" ["p","k","a"] sg) (c_product_of:Callee P w K mg base aQ 1 "product_of" ["numbers"] (vn K)) (c_roots:Callee P w K mg base (d7 P w) 17 "roots" ["paper","k","a"] (qi K CM 400)) (c_all_together:Callee P w K mg base aQ 6 "all_together" ["primes","rests"] (Cj K)) (x_TooMany:sR P w K mg base "TooMany" CM "many") (g_MOST_TOLD:∃ t,mg "MOST_TOLD"=GZ (.int 400 t)) (n_enumerate:mg "enumerate"=none) (J':mg "tuple"=none):Callee P w K mg base (d7 P w) 18 "roots_of" ["papers","k","a"] (Ci K CM):=by
 refine cX (len:=by intro _ _ _ _ h;repeat (first | (obtain⟨rfl,_⟩:=h;exact rfl) | obtain⟨_,h⟩:=h)) D kx (λf cdv A outer s H vs Q E hr h=>?_);obtain⟨pa,us,ps,ds,k,a,rfl,hpa,hds,J,l12,k0,k1,q1,q2⟩:=h;obtain⟨t0,g_MOST_TOLD⟩:=g_MOST_TOLD;have nd:=kx.nd;refine⟨_,(ae (DO (bN HC rfl (pR rfl n_enumerate (aa (pv 0) af)) (bY (n:=2) rfl (az (aq (i:=3) nd rfl (HL rfl) (.inr rfl)) (az (aq (i:=4) nd rfl (HL rfl) (.inr rfl)) aT))) (ae (bj (i:=5) nd (bJ c_shown_none hr aE (aa (aG aS (pv 4) ah (λ_ _=>rfl)) (aa (pv 1) (aa (pv 2) af))))) (ai (aU (aB i7 (pv 5) c9 (aC _)) (ai (aA (aL (aa (bX af) (aa (aL (aa bF (aa (pv 3) (aa (aG aS (pv 5) ah (λ_ _=>rfl)) (aa (aG aS (pv 5) ah (λ_ _=>rfl)) af))))) af))))) aH))))) (ae (bj (i:=6) nd (bJ c_product_of hr aE (aa (dN rfl (lz (sub:=by repeat (first | exact True.intro | refine⟨rfl,?_⟩)) (has:=by repeat (first | exact True.intro | refine⟨rfl,?_⟩ | refine⟨True.intro,?_⟩)) (j:=by repeat (first | exact True.intro | refine⟨⟨rfl,rfl,.inl rfl,.inl rfl⟩,?_⟩)) (N':=["paper","k","a"]) (js:=[none,GZ 1,GZ 2]) rfl rfl) (aW (pv 0)) (λ_ _ _ _=>(aq (i:=0) (show IA [("paper":HA),("k":HA),("a":HA)] from by decide +kernel) rfl (HL rfl) (.inr rfl))) (λ_ _ _ _=>aZ) (λ_ _ _ _=>(bJ c_how_many_roots hr aE (aa (aG (bw K rfl) (pv 0) ah (λ_ _=>rfl)) (aa (pv 1) (aa (pv 2) af)))))) af))) (ae (aU (aB eY (pv 6) (pP (v:=.int 400) rfl g_MOST_TOLD ⟨_,rfl⟩) (aC _)) (ai (dX (pQ x_TooMany (hr.mono (by decide)) rfl (aa (pv 6) af)))) aH) (gN.kh (ae (gX (i0:=7) nd rfl (HL rfl) rfl (lz (sub:=by repeat (first | exact True.intro | refine⟨rfl,?_⟩)) (has:=by repeat (first | exact True.intro | refine⟨rfl,?_⟩ | refine⟨True.intro,?_⟩)) (j:=by repeat (first | exact True.intro | refine⟨⟨rfl,rfl,.inl rfl,.inl rfl⟩,?_⟩)) (N':=["paper","k","a"]) (js:=[none,GZ 1,GZ 2]) rfl rfl) (aW (pv 0)) (λ_ _ _ _=>(aq (i:=0) (show IA [("paper":HA),("k":HA),("a":HA)] from by decide +kernel) rfl (HL rfl) (.inr rfl))) (λ_ _ _ _=>aZ) (λ_ _ _ _=>(bJ c_roots hr aJ (aa (pv 0) (aa (pv 1) (aa (pv 2) af))))) (by rfl) (by first | exact .inl rfl | exact .inr rfl)) (ae (bj (i:=8) nd (bJ c_all_together hr aE (aa (dN rfl (lz (sub:=by repeat (first | exact True.intro | refine⟨rfl,?_⟩)) (has:=by repeat (first | exact True.intro | refine⟨rfl,?_⟩ | refine⟨True.intro,?_⟩)) (j:=by repeat (first | exact True.intro | refine⟨⟨rfl,rfl,.inl rfl,.inl rfl⟩,?_⟩)) (N':=["paper"]) (js:=[none]) rfl rfl) (aW (pv 0)) (λ_ _ _ _=>(aq (i:=0) (show IA [("paper":HA)] from by decide +kernel) rfl (HL rfl) (.inr rfl))) (λ_ _ _ _=>aZ) (λ_ _ _ _=>(aG (bw K rfl) (pv 0) ah (λ_ _=>rfl)))) (aa (dN rfl (lz (sub:=by repeat (first | exact True.intro | refine⟨rfl,?_⟩)) (has:=by repeat (first | exact True.intro | refine⟨rfl,?_⟩ | refine⟨True.intro,?_⟩)) (j:=by repeat (first | exact True.intro | refine⟨⟨rfl,rfl,.inl rfl,.inl rfl⟩,?_⟩)) (N':=["row"]) (js:=[none]) rfl rfl) (aW (pv 7)) (λ_ _ _ _=>(aq (i:=0) (show IA [("row":HA)] from by decide +kernel) rfl (HL rfl) (.inr rfl))) (λ_ _ _ _=>aZ) (λ_ _ _ _=>(aG (bw K rfl) (pv 0) ah (λ_ _=>rfl)))) af)))) (ai (aA (aL (aa (pv 8) (aa (aL (aa bF (aa (dQ cu rfl J' L2.boot_tuple (aa (dN rfl (lz (sub:=by repeat (first | exact True.intro | refine⟨rfl,?_⟩)) (has:=by repeat (first | exact True.intro | refine⟨rfl,?_⟩ | refine⟨True.intro,?_⟩)) (j:=by repeat (first | exact True.intro | refine⟨⟨rfl,rfl,.inl rfl,.inl rfl⟩,?_⟩)) (N':=["row"]) (js:=[none]) rfl rfl) (aW (pv 7)) (λ_ _ _ _=>(aq (i:=0) (show IA [("row":HA)] from by decide +kernel) rfl (HL rfl) (.inr rfl))) (λ_ _ _ _=>aZ) (λ_ _ _ _=>(aG (bw K rfl) (pv 0) ah (λ_ _=>rfl)))) af)) af))) af))))))))))),?_⟩;show bC _ _ _ [GZ (.ref pa),GZ (.int k),GZ (.int a),none,none,none,none,none,none] H;have ul:us.length=ps.length:=by rw [hds.length,J.len]
 k_data;refine⟨⟨_,aM.of hpa⟩,jS (xs:=us) (λi σ' H'=>(∃ o3 o4 o5,σ'=[GZ (.ref pa),GZ (.int k),GZ (.int a),o3,o4,o5,none,none,none])/\aw H H'/\∀(j:Nat) q,j<i->ps[j]?=GZ q->cP k a q≠[]) ⟨⟨_,_,_,rfl⟩,aw.refl _,λ_ _ z=>absurd z (by lia)⟩ (λi σ' H' _ h=>aM.of (h.2.1 _ _ hpa)) ?_ ?_⟩
 ·rintro i x σ' H1 p1 hx ⟨⟨o3,o4,o5,rfl⟩,s1,hj⟩ hp1;obtain⟨p,g,rows,hp,pap,hv⟩:=J.at hds hx;obtain⟨pm,p9⟩:=fb pap;have p2:=pm.two;have s2:=aj (o:=.tup [V.int (i:Int),x]) hp1;refine⟨p1,_,rfl,bE.of ag,rfl,?_⟩;k_data;have S2:=s1.trans s2;generalize upd H1 p1 (.tup [V.int (i:Int),x])=H2 at *;obtain⟨pp,y1,y2,vr,rfl,tS,e0,eg,dr⟩:=mO (dv.same S2 _ hv);cases e0;cases eg;have next:∀{H3:Hp},aw H2 H3->cP k a p≠[]->aw H H3/\∀(j:Nat) q,j<i+1->ps[j]?=GZ q->cP k a q≠[]:=λs3 ne=>⟨S2.trans s3,λj q hji hq=>by
   rcases (by lia:j<i∨j=i) with z | rfl
   ·exact hj j q z hq
   ·rw [hp] at hq;cases hq;exact ne⟩
  refine bA tS kJ ⟨p,k,a,rfl,pm,by lia,k0,by lia,λpa'=>?_,λna d D=>⟨λal H3 s3=>?_,λnal u H3 s3 hu=>?_⟩⟩
  ·refine aV (λc2=>absurd rfl c2) (λ_=>?_);exact next (aw.refl _) (by rw [iS pm k0 pa'];simp)
  ·refine aV (λc2=>absurd rfl c2) (λ_=>?_);exact next s3 λz=>by have d0:=D.pos k0;have RO:=tj pm (uR pap) k0 na D al;have:=RO.len;rw [show iC p k a p.toNat=[] from z] at this;simp at this;lia
  ·obtain⟨pn,n1,n2,n3,rfl,tN,e1,e2,e3⟩:=mO hu;cases e1;cases e2;cases e3;refine aV (λ_=>?_) (λc2=>absurd (λz=>nomatch z) c2);have due0:=lC pm k0 na D nal;have ed:=C6 D (by lia) k0;refine⟨by show 0<=sizeLine;decide,λl hl=>bA (tN.same (aj hl)) xp (bA (tN.same (aj hl)) rfl ⟨by show 4<=sizeLine;decide,λs hs=>⟨by show 2<=sizeLine;decide,λt ht=>?_⟩⟩)⟩;have t1:=aj (o:=.lst []) hl;have t2:=aj (o:=.tup [V.str "none",V.int (i:Int),V.int ((p-1)/d),V.int (a^((p-1)/d).toNat%p)]) hs;have t3:=aj (o:=.tup [V.ref l,V.ref s]) ht;have S:=(t1.trans t2).trans t3;subst ed;exact q1 i p hp due0 na hj t l (.ref s) _ ((S2.trans s3).trans S) ((S2.trans s3).free hl) (bE.of ag) (t3 _ _ (t2 _ _ ag)) (dv.tup (t3 _ _ ag) ⟨_,_,rfl,rfl,_,_,rfl,rfl,_,_,rfl,rfl,.one rfl⟩)
 ·rintro σ' H1 ⟨⟨o3,o4,o5,rfl⟩,s1,hj⟩;k_data;have ne:∀ p∈ps,cP k a p≠[]:=λp hp=>by obtain⟨i,hi⟩:=JQ.mp hp;exact hj i p (by have:=(G9.mp hi).1;lia) hi
  obtain⟨q3,q4⟩:=q2 ne;have hpa1:=s1 _ _ hpa;refine⟨⟨_,aM.of hpa1⟩,?_⟩;refine bh (xs:=us) (λi ys H'=>aw H1 H'/\ys=((ps.take i).map λp=>((cP k a p).length:Int)).map V.int) ⟨aw.refl _,rfl⟩ (by rw [ul];exact Hg l12 (by decide)) (λi ys H' hi h=>⟨aM.of (h.1 _ _ hpa1),by rw [h.2,G4,G4,HB];exact Rc ..⟩) ?_ ?_
  ·rintro i x ys H2 hx ⟨s2,rfl⟩;obtain⟨p,g,rows,hp,pap,hv⟩:=J.at hds hx;have mp:=Hc hp;obtain⟨pm,p9⟩:=fb pap;have p2:=pm.two;obtain⟨pp,y1,y2,vr,rfl,tS,e0,eg,dr⟩:=mO (dv.same (s1.trans s2) _ hv);cases e0;cases eg;have snoc:∀ m:Int,((cP k a p).length:Int)=m->((ps.take i).map λp=>((cP k a p).length:Int)).map V.int++[V.int m]=((ps.take (i+1)).map λp=>((cP k a p).length:Int)).map V.int:=λm e=>by rw [HI,hp,<- e];simp
   simp only [bV,HH,Jc,KN];k_data;refine⟨⟨rfl,rfl,True.intro⟩,bA tS kJ ⟨_,rfl,_,rfl,p,k,a,rfl,by lia,by lia,k0,by lia,λpa'=>⟨s2,snoc 1 (by rw [iS pm k0 pa'];rfl)⟩,λna d H3 D s3=>⟨s2.trans s3,snoc d (xM pap k0 na D (ne p mp))⟩⟩⟩
  rintro ys H2 pl ⟨s2,rfl⟩ hpl;have s3:=aj (o:=.lst (((ps.take us.length).map λp=>((cP k a p).length:Int)).map V.int)) hpl;rw [ul,HY] at s3 ⊢;have each:∀ p∈ps,1<=((cP k a p).length:Int)/\((cP k a p).length:Int)<=p:=λp hp=>⟨by have:=Nd.mpr (ne p hp);lia,tf (J.pm p hp)⟩
  have m9:dA k a ps<=1000:=IZ (l8 each) J.le;refine⟨pl,_,rfl,aM.of ag,λn hn=>?_,IZ m9 (by decide),_,rfl,?_⟩
  ·obtain⟨p,hp,rfl⟩:=HE.mp hn;obtain⟨e1,e2⟩:=each p hp;have:=J.vP p hp;exact⟨e1,by lia⟩
  have S3:=s1.trans (s2.trans s3);generalize upd H2 pl (.lst ((ps.map λp=>((cP k a p).length:Int)).map V.int))=H3 at *;refine aV (λc4 x dx hx hdx nx=>jL x_TooMany.cls S3 hx hdx nx (q3 c4)) (λc4=>?_);have hpa3:=S3 _ _ hpa;refine⟨⟨_,aM.of hpa3⟩,?_⟩;refine bh (xs:=us) (λi ys H'=>aw H3 H'/\ys.length=i/\∀(j:Nat) p v,ps[j]?=GZ p->ys[j]?=GZ v->vB K p k a v H') ⟨aw.refl _,rfl,λj p v _ z=>by simp at z⟩ (by rw [ul];exact Hg l12 (by decide)) (λi ys H' hi h=>⟨aM.of (h.1 _ _ hpa3),by lia⟩) ?_ ?_
  ·rintro i x ys H4 hx ⟨s4,yl,hy⟩;obtain⟨p,g,rows,hp,pap,hv⟩:=J.at hds hx;have mp:=Hc hp;simp only [bV,HH,Jc,KN];k_data;refine⟨⟨rfl,rfl,True.intro⟩,_,rfl,_,rfl,Au (dv.same (S3.trans s4) _ hv) pap (J.vP p mp) k0 k1 (ne p mp) λv H5 s5 hT=>⟨s4.trans s5,by rw [HN,yl];rfl,λj q v' hq hv'=>?_⟩⟩;rcases KG j i with z | z
   ·rw [IW (by lia)] at hv';exact (hy j q v' hq hv').same s5
   ·rw [IG (by lia)] at hv';have j0:j=i:=by have:=(G9.mp hv').1;simp at this;lia
    subst j0;rw [yl,K6] at hv';cases hv';rw [hp] at hq;cases hq;exact hT
  rintro tl H4 pt ⟨s4,tlen,hT⟩ hpt;have s5:=aj (o:=.lst tl) hpt;have e5:upd H4 pt (.lst tl) pt=GZ (.lst tl):=ag;have S5:=S3.trans (s4.trans s5);replace hT:∀(j:Nat) p v,ps[j]?=GZ p->tl[j]?=GZ v->vB K p k a v (upd H4 pt (.lst tl)):=λj p v z1 z2=>(hT j p v z1 z2).same s5;generalize upd H4 pt (.lst tl)=H5 at *;have hpa5:=S5 _ _ hpa;rw [ul] at tlen;refine⟨⟨_,aM.of hpa5⟩,?_⟩;refine bh (xs:=us) (λi ys H'=>H'=H5/\ys=(ps.take i).map V.int) ⟨rfl,rfl⟩ (by rw [ul];exact Hg l12 (by decide)) (λi ys H' hi h=>⟨aM.of (h.1▸hpa5),by rw [h.2,G4,HB];exact Rc ..⟩) ?_ ?_
  ·rintro i x ys H6 hx ⟨rfl,rfl⟩;obtain⟨p,g,rows,hp,pap,hv⟩:=J.at hds hx;obtain⟨pp,y1,y2,vr,rfl,tS,e0,eg,dr⟩:=mO (dv.same S5 _ hv);cases e0;cases eg;simp only [bV,HH,Jc,KN];k_data;refine⟨True.intro,bA tS kJ ⟨rfl,?_⟩⟩;rw [HI,hp];simp
  rintro ys H6 pq ⟨rfl,rfl⟩ hpq;rw [ul,HY];have s7:=aj (o:=.lst (ps.map V.int)) hpq;have e7:upd H6 pq (.lst (ps.map V.int)) pq=GZ (.lst (ps.map V.int)):=ag;generalize upd H6 pq (.lst (ps.map V.int))=H7 at *;have e57:=s7 _ _ e5;refine⟨pt,rfl,⟨_,aM.of e57⟩,?_⟩;refine bh (xs:=tl) (λi ys H'=>H'=H7/\ys.length=i/\∀(j:Nat) v,ys[j]?=GZ v->∃ l A,v=.ref l/\(fk k a ps)[j]?=GZ A/\H7 l=GZ (.lst (A.map V.int))) ⟨rfl,rfl,λj v z=>by simp at z⟩ (by rw [tlen];exact Hg l12 (by decide)) (λi ys H' hi h=>⟨aM.of (h.1▸e57),by lia⟩) ?_ ?_
  ·rintro i x ys H8 hx ⟨rfl,yl,hy⟩;have il:=(G9.mp hx).1;have hp:=Hf (show i<ps.length by lia);obtain⟨t,l,s,rfl,hT1,hT2,hT3⟩:=(hT i _ x hp hx).same s7;simp only [bV,HH,Jc,KN];k_data;refine⟨True.intro,bA hT1 kJ ⟨rfl,by rw [HN,yl];rfl,λj v hv=>?_⟩⟩;rcases KG j i with z | z
   ·rw [IW (by lia)] at hv;obtain⟨l,A,h1,h2,h3⟩:=hy j v hv;exact⟨l,h1,A,h2,h3⟩
   ·rw [IG (by lia)] at hv;have j0:j=i:=by have:=(G9.mp hv).1;simp at this;lia
    subst j0;rw [yl,K6] at hv;cases hv;exact⟨l,rfl,_,by unfold fk;rw [He,hp];rfl,hT2⟩
  rintro ws H8 pr ⟨rfl,wl,hw⟩ hpr;have s9:=aj (o:=.lst ws) hpr;refine⟨pq,pr,ps,fk k a ps,ws,rfl,s9 _ _ e7,ag,⟨by unfold fk;rw [wl,tlen,G4],λi u hu=>?_⟩,J.Gn,λl H9 s10 fl el=>?_⟩
  ·obtain⟨l,A,h1,h2,h3⟩:=hw i u hu;exact⟨l,A,h1,h2,s9 _ _ h3⟩
  have S10:=s9.trans s10;have e10:=S10 _ _ e57;refine⟨pt,rfl,⟨_,aM.of e10⟩,?_⟩;refine bh (xs:=tl) (λi ys H'=>H'=H9/\ys.length=i/\∀(j:Nat) p v,ps[j]?=GZ p->ys[j]?=GZ v->j4 K p k a v H9) ⟨rfl,rfl,λj p v _ z=>by simp at z⟩ (by rw [tlen];exact Hg l12 (by decide)) (λi ys H' hi h=>⟨aM.of (h.1▸e10),by lia⟩) ?_ ?_
  ·rintro i x ys H11 hx ⟨rfl,yl,hy⟩;have il:=(G9.mp hx).1;have hp:=Hf (show i<ps.length by lia);obtain⟨t,l',s,rfl,hT1,hT2,hT3⟩:=(hT i _ x hp hx).same (s7.trans S10);simp only [bV,HH,Jc,KN];k_data;refine⟨True.intro,bA hT1 xp ⟨rfl,by rw [HN,yl];rfl,λj p v hq hv=>?_⟩⟩;rcases KG j i with z | z
   ·rw [IW (by lia)] at hv;exact hy j p v hq hv
   ·rw [IG (by lia)] at hv;have j0:j=i:=by have:=(G9.mp hv).1;simp at this;lia
    subst j0;rw [yl,K6] at hv;cases hv;rw [hp] at hq;cases hq;exact hT3
  rintro rows H11 pz ⟨rfl,rwl,hrows⟩ hpz;have s12:=aj (o:=.lst rows) hpz;refine⟨pz,rfl,rows,.inl ⟨aM.of ag,λl2 hl2=>⟨by show 2<=sizeLine;decide,λb hb=>⟨by show 2<=sizeLine;decide,λt ht=>?_⟩⟩⟩⟩;have s13:=aj (o:=.tup rows) hl2;have s14:=aj (o:=.tup [V.str "by",V.ref l2]) hb;have s15:=aj (o:=.tup [V.ref l,V.ref b]) ht;have S15:=s12.trans (s13.trans (s14.trans s15));have T:=(S5.trans s7).trans s9;exact q4 (L5.mp c4) t l (.ref b) _ ((T.trans s10).trans S15) (T.free fl) (bE.of ag) (S15 _ _ el) ⟨b,l2,rows,rfl,bE.of (s15 _ _ ag),bE.of (s15 _ _ (s14 _ _ ag)),by rw [rwl,tlen],λi p v z1 z2=>(hrows i p v z1 z2).same S15⟩
end
end K
namespace L2
open PySem PySem.Spec PyProof.Rows
theorem eB {lo:Int} {n:Nat} {js:List (Option Nat)} {g:TG} {tt:TT} {te:TE} {σ:St} {Q:VK} {H1:Hp} (Pv:Nat->List V->Hp->Prop) (h0:Pv 0 [] H1) (hx:n<=sizeLine) (hl:∀ i ys H,i<=n->Pv i ys H->ys.length<=i)
  (hs:∀ i ys H,i<n->Pv i ys H->g (.int (lo+(i:Int))) (bV js σ) H λσ2 H2=>bB (bV js σ) σ2/\tt σ2 H2 λb H3=>if b=true then te σ2 H3 λv H4=>Pv (i+1) (ys++[v]) H4 else Pv (i+1) ys H3)
  (hd:∀ ys H p,Pv n ys H->H p=none->Q (.ref p) (upd H p (.lst ys))):qA (Ai lo n) js g tt te σ Q H1:=by
 refine⟨λi m ys H=>m=n-i/\i<=n/\Pv i ys H,⟨n,by simp,IV _,h0⟩,?_⟩;rintro i m ys H ⟨rfl,hi,p⟩;have hy:=hl i ys H hi p;by_cases hlt:i<n
 ·refine .inr ⟨hlt,by lia,Pv (i+1),λys' H' p'=>⟨n-(i+1),by lia,rfl,by lia,p'⟩,?_⟩;rintro x H' ⟨rfl,rfl⟩;exact hs i ys H' hlt p
 ·have e:i=n:=by lia
  subst e;exact .inl ⟨Hd _,by lia,λq hq=>hd ys H q p hq⟩
end L2
namespace K
open PySem PySem.Spec PyProof.Rows L2
section
variable {P:Hq} {w:HU} {K:G1} {mg:HA->Option G2} {base:Ip}
noncomputable def sN (ns:List Int):List (Key × V):=ns.map λn=>((Jk n:Key),V.bl true)
theorem qw:∀{ns:List Int} (n:Int),bZ (sN ns) (Jk n)=if n∈ns then GZ (V.bl true) else none
 | [],n=>by simp [sN,bZ]
 | m::ns,n=>by
  show bZ (((Jk m:Key),V.bl true)::sN ns) _=_;by_cases c:m=n
  ·subst c;rw [b7 rfl,if_pos (Hi ..)]
  ·rw [bT (λz=>c (NK z)),qw n];by_cases c2:n∈ns
   ·rw [if_pos c2,if_pos (Ha _ c2)]
   ·rw [if_neg c2,if_neg (λz=>by rcases Hw.mp z with y | y;exact c y.symm;exact c2 y)]
theorem Bj {ns:List Int} (n:Int):putK (sN ns) (Jk n) (.bl true)=sN (if n∈ns then ns else ns++[n]):=by
 unfold putK;rw [jx,qw];by_cases c:n∈ns
 ·rw [if_pos c,if_pos c,if_pos (by rfl)];unfold sN;rw [Nt];refine Nf λm hm=>?_;show (if (Jk m:Key)=Jk n then _ else _)=_;by_cases c2:(Jk m:Key)=Jk n
  ·rw [if_pos c2]
  ·rw [if_neg c2]
 ·rw [if_neg c,if_neg c,if_neg (by simp)];unfold sN;rw [HQ];rfl
theorem yh (ns:List Int):(sN ns).map (·.1)=ns.map Jk:=by unfold sN;rw [Nt];rfl
theorem AU (ns:List Int):(sN ns).length=ns.length:=by unfold sN;rw [G4]
theorem EV:Num.Pm 67:=DN (n:=67) (by decide) (by decide) (by decide)
def sk:Sp:=λvs H Q _=>∃(p:G6) (l:Int) (b:Bool),vs=[.ref p]/\H p=GZ (uq l b)/\Ad l b/\∀(pl:G6) (ls:List Int) (H':Hp),(∀ n∈ls,Num.Pm n/\n<=67)->ls.length<=3->ls.Pairwise (·<·)->aD ls<=1000->Us p b H H'->H pl=none->H' pl=GZ (.lst (ls.map V.int))->Q (.ref pl) H'
structure Fx (ns:List Int):Prop where
 ok:∀ n∈ns,Num.Pm n/\n<=67
 nd:ns.Nodup
 le:aD ns<=1000
theorem Fx.more {ns:List Int} {n:Int} (h:Fx ns) (pm:Num.Pm n) (n9:n<=67) (no:n∉ns) (le:aD ns*n<=1000):Fx (ns++[n]):=⟨λm hm=>by
 rcases IC.mp hm with z | z
 ·exact h.ok m z
 ·rw [Ho.mp z];exact⟨pm,n9⟩,by
 rw [NT];exact⟨h.nd,by simp,λa ha b hb e=>no (by rw [Ho] at hb;rw [<- hb,<- e];exact ha)⟩,by rw [bM];exact le⟩
theorem ug {l m:List Int} (h:l.Perm m):aD l=aD m:=by
 induction h with
 | nil=>rfl
 | cons x _ ih=>show x*_=x*_;rw [ih]
 | swap x y l=>show y*(x*aD l)=x*(y*aD l);rw [<- Ib,Ia y x,Ib]
 | trans _ _ h1 h2=>exact h1.trans h2
def GG (p fd:G6) (b:Bool) (H:Hp) (i:Nat) (σ':L2.St) (H':Hp):Prop:=∃(ns:List Int) (o3 o4:Option V),σ'=[GZ (.ref p),GZ (.ref fd),GZ (.int (aD ns)),o3,o4]/\Us p b H H'/\H' fd=GZ (.dK (sN ns))/\ns.length<=i/\Fx ns
def GB (n:Int) (H:Hp) (i:Nat) (zs:List V) (H1:Hp):Prop:=H1=H/\zs.length<=i/\(zs.length=0↔∀ j:Nat,j<i->¬(2+(j:Int))∣n)
theorem gG:av ["_law_state_here","_law_found","_law_whole_here","_law_k","_law_n"] ["_law_state_here"] (ak (top 62)):=dc
theorem tX (D:ay K mg "_law_primes" (top 62)) (c__law_take:Callee P w K mg base aQ 1 "_law_take" ["_law_state_here","_law_many"] mE) (K':mg "range"=none) (f':mg "len"=none) (n_sorted:mg "sorted"=none):Callee P w K mg base aQ 2 "_law_primes" ["_law_state_here"] sk:=by
 refine cO (len:=by intro _ _ _ _ h;repeat (first | (obtain⟨rfl,_⟩:=h;exact rfl) | obtain⟨_,h⟩:=h)) D gG (λf cdv A outer s H vs Q E hr h=>?_);obtain⟨p,l,b,rfl,hp,hl,q⟩:=h;have nd:=gG.nd;refine⟨_,(ae (bj (i:=1) nd rL) (ae (bj (i:=2) nd ah) (ae (bN HC rfl (b8 rfl K' (aa (au cq ah (bJ c__law_take hr aE (aa (pv 0) (aa ah af)))) af)) (aq (i:=3) nd rfl (HL rfl) (.inr rfl)) (ae (iI (i:=4) nd rfl (MJ rfl) (au cq ah (bJ c__law_take hr aE (aa (pv 0) (aa (aG bG (bX (aa ah (aa ah af))) (bJ c__law_take hr aE (aa (pv 0) (aa ah af))) (λ_ _=>rfl)) af))))) (ae (bQ HC (aB eY (aF bf rfl f' Ir (aa (dN rfl (lz (sub:=by repeat (first | exact True.intro | refine⟨rfl,?_⟩)) (has:=by repeat (first | exact True.intro | refine⟨rfl,?_⟩ | refine⟨True.intro,?_⟩)) (j:=by repeat (first | exact True.intro | refine⟨⟨rfl,rfl,.inl rfl,.inl rfl⟩,?_⟩)) (N':=["_law_d","_law_n"]) (js:=[none,GZ 4]) rfl rfl) (wC rfl K' (aa ah (aa (pv 4) af))) (λ_ _ _ _=>(aq (i:=0) (show IA [("_law_d":HA),("_law_n":HA)] from by decide +kernel) rfl (HL rfl) (.inr rfl))) (λ_ _ _ _=>(fc (aB cM (au aK (pv 1) (pv 0)) ah (aC _)))) (λ_ _ _ _=>(pv 0))) af)) ah (aC _)) (ai (iI (i:=4) nd rfl (MJ rfl) (au cq (pv 4) ah)))) (ai (aU (PW.pt (uj (ui (nR (dJ hr) (pv 4) (pv 1))) (pV (aB fK (au aI (pv 2) (pv 4)) ah (aC _))))) (ae (jf (dJ hr) (pv 1) (pv 4) fL rfl) (ai (bj (i:=2) nd (au aI (pv 2) (pv 4))))) aH))))) (ai (aA (aF (oU rfl) rfl n_sorted LU (aa (pv 1) af))))))),?_⟩;show bC _ _ _ [GZ (.ref p),none,none,none,none] H;k_data;intro fd hfd;have nfd:fd≠p:=λz=>by rw [z,hp] at hfd;cases hfd
 have u0:Us p b H (upd H fd (.dK [])):=(Us.refl hp hl).lay hfd;have ef0:upd H fd (.dK []) fd=GZ (.dK (sN [])):=ag;generalize upd H fd _=H0 at *;obtain⟨l0,k0,e0⟩:=u0.1;refine⟨p,3,l0,b,rfl,e0,k0,by decide,by decide,λr2 H2 r20 r21 u2=>⟨_,rfl,by lia,by lia,?_⟩⟩;have U2:=u0.trans u2.us;have ef2:=u2.us.2 _ _ nfd ef0;refine cI (λi σ' H'=>GG p fd b H i σ' H') ⟨[],none,none,rfl,U2,ef2,Hd _,⟨λn hn=>by simp at hn,by simp,by decide⟩⟩ ?_ ?_
 ·rintro i σ' H3 hi ⟨ns,o3,o4,rfl,U3,ef3,nl,hns⟩;obtain⟨l3,k3,e3⟩:=U3.1;k_data;refine⟨by show 2<=sizeLine;decide,λp4 hp4=>?_⟩;have np4:p4≠fd:=λz=>by rw [z,ef3] at hp4;cases hp4
  have np4':p4≠p:=λz=>by rw [z,e3] at hp4;cases hp4
  have U4:=U3.lay (o:=.lst [V.int 12,V.int 66]) hp4;have e4:upd H3 p4 (.lst [V.int 12,V.int 66]) p4=GZ (.lst [V.int 12,V.int 66]):=ag;have ef4:upd H3 p4 (.lst [V.int 12,V.int 66]) fd=GZ (.dK (sN ns)):=(ao (IJ np4)).trans ef3;generalize upd H3 p4 _=H4 at *;obtain⟨l4,k4,et4⟩:=U4.1;refine⟨p,2,l4,b,rfl,et4,k4,by decide,by decide,λr5 H5 r50 r51 u5=>?_⟩;have e5:=u5.us.2 _ _ np4' e4;have ef5:=u5.us.2 _ _ nfd ef4;have U5:=U4.trans u5.us;obtain⟨l5,k5,et5⟩:=u5.at;refine kS (aM.of e5) r50 (by show r5<(2:Int);exact r51) λv hv=>?_;obtain⟨m,rfl,m0,m1⟩:∃ m,v=.int m/\0<m/\m<=66:=by simp only [Hw,Js,or_false] at hv;rcases hv with rfl | rfl<;>exact⟨_,rfl,by lia,by lia⟩
  refine⟨p,m,l5,b,rfl,et5,k5,m0,by lia,λr6 H6 r60 r61 u6=>⟨r6,rfl,?_⟩⟩;have U6:=U5.trans u6.us;have ef6:=u6.us.2 _ _ nfd ef5;refine bU (α:=Int) (λx=>[GZ (.ref p),GZ (.ref fd),GZ (.int (aD ns)),GZ (.int (i:Int)),GZ (.int x)]) (λx H8=>Us p b H H8/\H8 fd=GZ (.dK (sN ns))/\2<=x/\x<=67) (λx=>(67-x).toNat) (2+r6) rfl ⟨U6,ef6,by show 2<=2+r6;lia,by show 2+r6<=67;lia⟩ ?_;rintro n H8 ⟨U8,ef8,n2,n3⟩;replace n2:2<=n:=n2;replace n3:n<=67:=n3;k_data;refine⟨by lia,by lia,?_⟩;refine eB (λj zs H9=>GB n H8 j zs H9) ⟨rfl,Hd _,by simp⟩ (Hg (show (n-2).toNat<=200 by lia) (by decide)) (λj zs H9 hj h=>h.2.1) ?_ ?_
  ·rintro j zs H9 hj ⟨eH,zl,zi⟩;rw [eH];show cS 0 _ [none,GZ (.int n)] _ _;k_data;refine⟨⟨rfl,True.intro⟩,by lia,aV (λc=>?_) (λc=>?_)⟩
   ·refine⟨rfl,by rw [HN,JC];lia,?_⟩;rw [HN,JC];exact⟨λz=>by lia,λz=>absurd (HD c) (z j (by lia))⟩
   ·refine⟨rfl,by lia,?_⟩;rw [zi];constructor
    ·intro z j' hj';rcases (by lia:j'<j∨j'=j) with y | y
     ·exact z j' y
     ·rw [y];exact λw=>c (Ig w)
    ·exact λz j' hj'=>z j' (by lia)
  rintro zs H9 p9 ⟨eH,zl,zi⟩ hp9;rw [eH] at hp9 ⊢;have hpm:zs.length=0↔Num.Pm n:=by
   rw [zi];constructor
   ·intro z;refine⟨n2,λd d2 dn=>?_⟩;have:=z (d-2).toNat (by lia)
    rwa [show 2+(((d-2).toNat:Nat):Int)=d by lia] at this
   ·intro z j hj;exact z.no _ (by lia) (by lia)
  have U9:=U8.lay (o:=.lst zs) hp9;have ef9:upd H8 p9 (.lst zs) fd=GZ (.dK (sN ns)):=(ao (λz=>by rw [<- z,ef8] at hp9;cases hp9)).trans ef8;have ep9:upd H8 p9 (.lst zs) p9=GZ (.lst zs):=ag;generalize upd H8 p9 _=H10 at *;refine df (aM.of ep9) ⟨_,rfl,?_⟩;refine aV (λc=>?_) (λc=>?_)
  ·have:n≠67:=λz=>by have:=hpm.mpr (z▸EV);lia
   exact⟨_,λ_ _ z=>z,n+1,rfl,U9,ef9,by lia,by lia,by lia⟩
  ·have pm:=hpm.mp (by lia);k_data;refine⟨_,fq.k (k:=Jk n) ef9,?_⟩;rw [qw];by_cases c2:n∈ns
   ·rw [if_pos c2,if_neg (by simp)];exact⟨ns,_,_,rfl,U9,ef9,by lia,hns⟩
   rw [if_neg c2,if_pos (show (none:Option V).isSome=false from rfl)];have l1:=dR λq hq=>(hns.ok q hq).1;have l9:=hns.le;refine⟨Bd.of (by lia) (by lia),Bd.of (by lia) (by lia),aV (λc3=>?_) (λ_=>⟨ns,_,_,rfl,U9,ef9,by lia,hns⟩)⟩;refine⟨_,mI.k (k:=Jk n) ef9 (by rw [AU];exact JG (show ns.length<=5 by lia) (by decide)),Bd.of (by lia) (by lia),Bd.of (by lia) (by lia),ns++[n],_,_,by rw [bM],U9.set hfd nfd,?_,by rw [HN,JC];lia,hns.more pm n3 c2 (by lia)⟩;rw [ag,Bj,if_neg c2]
 ·rintro σ' H3 ⟨ns,o3,o4,rfl,U3,ef3,nl,hns⟩;k_data;refine⟨fd,_,ns,rfl,ef3,yh ns,λpl ls hpm hso hpl=>?_⟩;have nd':=hpm.nodup_iff.mpr hns.nd;refine q pl ls _ (λn hn=>hns.ok n (hpm.mem_iff.mp hn)) (by rw [hpm.length_eq];lia) ((hso.and nd').imp fun⟨h1,h2⟩=>by lia) (by rw [ug hpm];exact hns.le) (U3.lay hpl) (U3.free hpl) ag
end
end K
namespace K
open PySem PySem.Spec PyProof.Rows L2
section
variable {P:Hq} {w:HU} {K:G1} {mg:HA->Option G2} {base:Ip} {C:G6}
theorem ye {x:Int} {zs:List Int} {H:Hp} {p:G6} {Q:VK} (h:aM K H p (zs.map V.int)) (q:Q (.bl (!decide (x∈zs))) H):Gs K true (.int x) (.ref p) H Q:=by
 refine⟨p,_,rfl,.inl h,rfl,by simp [fX],?_⟩;have:Fy (.int x) (zs.map V.int)=decide (x∈zs):=by
  unfold Fy;rw [Lv,N9,decide_eq_true_iff];constructor
  ·rintro⟨v,hv,e⟩;obtain⟨y,hy,rfl⟩:=HE.mp hv;have:y=x:=by simpa [xU] using e
   rw [<- this];exact hy
  ·intro hx;exact⟨.int x,HE.mpr ⟨x,hx,rfl⟩,by simp [xU]⟩
 rw [if_pos rfl,this];exact q
theorem Az {p k a:Int} {n:Nat}:(iC p k a n).length<=n:=by unfold iC;refine Hg (JP _ _) ?_;simp
theorem z8 {ps:List Int} {As:List (List Int)} {i:Nat} {p:Int} {A:List Int} (h1:ps[i]?=GZ p) (h2:As[i]?=GZ A):(p,A)∈ps.zip As:=JQ.mpr ⟨i,Ki.mpr ⟨h1,h2⟩⟩
def sj:Sp:=λvs H Q _=>∃(p:G6) (l:Int) (b:Bool),vs=[.ref p]/\H p=GZ (uq l b)/\Ad l b/\∀ k H',0<k->k<=10^9->Us p b H H'->Q (.int k) H'
theorem h9:av ["_law_state_here"] ["_law_state_here"] (ak (top 64)):=dc
theorem we (D:ay K mg "_law_order" (top 64)) (c__law_take:Callee P w K mg base aQ 1 "_law_take" ["_law_state_here","_law_many"] mE):Callee P w K mg base aQ 2 "_law_order" ["_law_state_here"] sj:=by
 refine cO (len:=by intro _ _ _ _ h;repeat (first | (obtain⟨rfl,_⟩:=h;exact rfl) | obtain⟨_,h⟩:=h)) D h9 (λf cdv A outer s H vs Q E hr h=>?_);obtain⟨p,l,b,rfl,hp,hl,q⟩:=h;have nd:=h9.nd;refine⟨_,(ai (aA (au cq ah (bJ c__law_take hr aE (aa (pv 0) (aa (aG bG (bX (aa ah (aa ah (aa (au lV ah ah) af)))) (bJ c__law_take hr aE (aa (pv 0) (aa ah af))) (λ_ _=>rfl)) af)))))),?_⟩;show mG _ _ [GZ (.ref p)] H;k_data;refine⟨by show 3<=sizeLine;decide,λp4 hp4=>?_⟩;have np4:p4≠p:=λz=>by rw [z,hp] at hp4;cases hp4
 have U4:=(Us.refl hp hl).lay (o:=.lst [V.int 12,V.int 1000,V.int 1000000000]) hp4;have e4:upd H p4 (.lst [V.int 12,V.int 1000,V.int 1000000000]) p4=GZ (.lst [V.int 12,V.int 1000,V.int 1000000000]):=ag;generalize upd H p4 _=H4 at *;obtain⟨l4,k4,et4⟩:=U4.1;refine⟨p,3,l4,b,rfl,et4,k4,by decide,by decide,λr5 H5 r50 r51 u5=>?_⟩;have e5:=u5.us.2 _ _ np4 e4;have U5:=U4.trans u5.us;obtain⟨l5,k5,et5⟩:=u5.at;refine kS (aM.of e5) r50 (by show r5<(3:Int);exact r51) λv hv=>?_;obtain⟨m,rfl,m0,m1⟩:∃ m,v=.int m/\0<m/\m<=10^9:=by simp only [Hw,Js,or_false] at hv;rcases hv with rfl | rfl | rfl<;>exact⟨_,rfl,by lia,by lia⟩
 exact⟨p,m,l5,b,rfl,et5,k5,m0,by lia,λr6 H6 r60 r61 u6=>⟨r6,rfl,q _ H6 (by lia) (by lia) (U5.trans u6.us)⟩⟩
def vh (K:G1):Sp:=λvs H Q _=>∃(pa:G6) (ps:List Int) (k a:Int),vs=[.ref pa,.int k,.int a]/\H pa=GZ (.lst (ps.map V.int))/\(∀ p∈ps,Num.Pm p/\p<=400)/\ps.length<=12/\0<k/\∀ l us H',aw H H'->H l=none->H' l=GZ (.lst us)->Ab H' (fk k a ps) us->Q (.ref l) H'
theorem h8:av ["_law_primes_here","_law_k","_law_a"] ["_law_primes_here","_law_k","_law_a"] (ak (top 65)):=dc
theorem yG (D:ay K mg "_law_lists" (top 65)) (c__law_power:Callee P w K mg base aQ 1 "_law_power" ["_law_n","_law_a","_law_e"] jr) (K':mg "range"=none):Callee P w K mg base aQ 2 "_law_lists" ["_law_primes_here","_law_k","_law_a"] (vh K):=by
 refine cO (len:=by intro _ _ _ _ h;repeat (first | (obtain⟨rfl,_⟩:=h;exact rfl) | obtain⟨_,h⟩:=h)) D h8 (λf cdv A outer s H vs Q E hr h=>?_);obtain⟨pa,ps,k,a,rfl,hpa,hps,l12,k0,q⟩:=h;have nd:=h8.nd;refine⟨_,(ai (aA (dN rfl (lz (sub:=by repeat (first | exact True.intro | refine⟨rfl,?_⟩)) (has:=by repeat (first | exact True.intro | refine⟨rfl,?_⟩ | refine⟨True.intro,?_⟩)) (j:=by repeat (first | exact True.intro | refine⟨⟨rfl,rfl,.inl rfl,.inl rfl⟩,?_⟩)) (N':=["_law_p","_law_k","_law_a"]) (js:=[none,GZ 1,GZ 2]) rfl rfl) (aW (pv 0)) (λ_ _ _ _=>(aq (i:=0) (show IA [("_law_p":HA),("_law_k":HA),("_law_a":HA)] from by decide +kernel) rfl (MJ rfl) (.inl rfl))) (λ_ _ _ _=>aZ) (λ_ _ _ _=>(dN rfl (lz (sub:=by repeat (first | exact True.intro | refine⟨rfl,?_⟩)) (has:=by repeat (first | exact True.intro | refine⟨rfl,?_⟩ | refine⟨True.intro,?_⟩)) (j:=by repeat (first | exact True.intro | refine⟨⟨rfl,rfl,.inl rfl,.inl rfl⟩,?_⟩)) (N':=["_law_x","_law_p","_law_k","_law_a"]) (js:=[none,GZ 0,GZ 1,GZ 2]) rfl rfl) (b8 rfl K' (aa (pv 0) af)) (λ_ _ _ _=>(aq (i:=0) (show IA [("_law_x":HA),("_law_p":HA),("_law_k":HA),("_law_a":HA)] from by decide +kernel) rfl (HL rfl) (.inr rfl))) (λ_ _ _ _=>(fc (aB cM (bJ c__law_power hr aE (aa (pv 1) (aa (pv 0) (aa (pv 2) af)))) (au aK (pv 3) (pv 1)) (aC _)))) (λ_ _ _ _=>(pv 0))))))),?_⟩;show mG _ _ [GZ (.ref pa),GZ (.int k),GZ (.int a)] H;k_data;refine⟨⟨_,aM.of hpa⟩,?_⟩;refine bh (xs:=ps.map V.int) (λi ys H'=>aw H H'/\ys.length=i/\∀(j:Nat) v,ys[j]?=GZ v->∃ l A,v=.ref l/\(fk k a ps)[j]?=GZ A/\H' l=GZ (.lst (A.map V.int))) ⟨aw.refl _,rfl,λj v z=>by simp at z⟩ (by rw [G4];exact Hg l12 (by decide)) (λi ys H' hi h=>⟨aM.of (h.1 _ _ hpa),by lia⟩) ?_ ?_
 ·rintro i x ys H1 hx ⟨s1,yl,hy⟩;rw [He] at hx;obtain⟨p,hp,rfl⟩:=Hj.mp hx;obtain⟨pm,p9⟩:=hps p (Hc hp);have p2:=pm.two;have ep:((p.toNat:Nat):Int)=p:=Hb (by lia);simp only [bV,HH,Jc,KN];k_data;refine⟨⟨rfl,rfl,True.intro⟩,by lia,by lia,?_⟩;refine eB (λj zs H'=>H'=H1/\zs=(iC p k a j).map V.int) ⟨rfl,rfl⟩ (Hg (show p.toNat<=400 by lia) (by decide)) (λj zs H' _ h=>by rw [h.2,G4];exact Az) ?_ ?_
  ·rintro j zs H7 hj ⟨rfl,rfl⟩;have dsu:iC p k a (j+1)=iC p k a j++(if ((j:Nat):Int)^k.toNat%p=a%p then [((j:Nat):Int)] else []):=by
    unfold iC;rw [KZ,HQ,NI];congr 1;simp only [HH,Jc];split
    ·rename_i h;rw [IL (by simpa using h)];rfl
    ·rename_i h;rw [Iz (by simpa using h)];rfl
   simp only [bV,HH,Jc,KN];k_data;refine⟨⟨rfl,rfl,rfl,True.intro⟩,_,rfl,_,rfl,p,j,k,rfl,by lia,by lia,by lia,_,rfl,_,rfl,a,rfl,p,rfl,by lia,rfl,?_⟩;rw [dsu];refine aV (λc=>⟨rfl,?_⟩) (λc=>⟨rfl,?_⟩)
   ·rw [if_pos (V.int.inj c),HQ];rfl
   ·rw [if_neg (λz=>c (by rw [z])),Jj]
  rintro zs H7 l ⟨rfl,rfl⟩ hl;have s2:=aj (o:=.lst ((iC p k a p.toNat).map V.int)) hl;refine⟨s1.trans s2,by rw [HN,yl];rfl,λj v hv=>?_⟩;rcases KG j i with z | z
  ·rw [IW (by lia)] at hv;obtain⟨l',A,h1,h2,h3⟩:=hy j v hv;exact⟨l',h1,A,h2,s2 _ _ h3⟩
  ·rw [IG (by lia)] at hv;have j0:j=i:=by have:=(G9.mp hv).1;simp at this;lia
   subst j0;rw [yl,K6] at hv;cases hv;exact⟨l,rfl,cP k a p,by unfold fk;rw [He,hp];rfl,ag⟩
 ·rintro ys H1 l ⟨s1,yl,hy⟩ hl;have s2:=aj (o:=.lst ys) hl;refine q l ys _ (s1.trans s2) (s1.free hl) ag ⟨by rw [yl];unfold fk;rw [G4,G4],λj v hv=>?_⟩;obtain⟨l',A,h1,h2,h3⟩:=hy j v hv;exact⟨l',A,h1,h2,s2 _ _ h3⟩
def mF (K:G1):Sp:=λvs H Q _=>∃(pa:G6) (ps:List Int),vs=[.ref pa]/\H pa=GZ (.lst (ps.map V.int))/\(∀ n∈ps,1<=n/\n<=10^8)/\aD ps<=10^8/\Q (.int (aD ps)) H
theorem ir:av ["_law_primes_here","_law_whole_here","_law_p"] ["_law_primes_here"] (ak (top 69)):=dc
theorem wx (D:ay K mg "_law_whole" (top 69)):Callee P w K mg base aQ 1 "_law_whole" ["_law_primes_here"] (mF K):=by
 refine cO (len:=by intro _ _ _ _ h;repeat (first | (obtain⟨rfl,_⟩:=h;exact rfl) | obtain⟨_,h⟩:=h)) D ir (λf cdv A outer s H vs Q E hr h=>?_);obtain⟨l,ns,rfl,hl,hn,n5,q⟩:=h;have nd:=ir.nd;refine⟨_,(ae (bj (i:=1) nd ah) (ae (bN HC rfl (aW (pv 0)) (aq (i:=2) nd rfl (HL rfl) (.inr rfl)) (ai (bj (i:=1) nd (au aI (pv 1) (pv 2))))) (ai (aA (pv 1))))),?_⟩;show bC _ _ _ [GZ (.ref l),none,none] H;k_data;refine⟨⟨_,aM.of hl⟩,?_⟩;refine cL (xs:=ns.map V.int) (λi σ' H'=>(∃ o2,σ'=[GZ (.ref l),GZ (.int (aD (ns.take i))),o2])/\H'=H) ⟨⟨_,rfl⟩,rfl⟩ (λi σ' H' _ h=>h.2▸aM.of hl) ?_ ?_
 ·rintro i x σ' H' hx ⟨⟨o2,rfl⟩,rfl⟩;rw [He] at hx;obtain⟨n,hn',rfl⟩:=Hj.mp hx;obtain⟨n0,n1⟩:=hn n (Hc hn');obtain⟨t0,t1⟩:=nV (λx hx=>(hn x hx).1) i;k_data;refine⟨Bd.of (by lia) (by lia),Bd.of (by lia) (by lia),?_⟩;rw [HI,hn'];rw [show aD (ns.take i++(GZ n).toList)=aD (ns.take i)*n from bM]
 ·rintro σ' H' ⟨⟨o2,rfl⟩,rfl⟩;k_data;rw [G4,HY];exact q
def vc (K:G1):Sp:=λvs H Q _=>∃(pa la:G6) (ps:List Int) (As:List (List Int)) (us:List V) (x:Int),vs=[.ref pa,.ref la,.int x]/\H pa=GZ (.lst (ps.map V.int))/\H la=GZ (.lst us)/\Ab H As us/\Fu ps As/\0<=x/\x<aD ps/\∀ H',aw H H'->Q (.bl (decide (x∈dz ps As))) H'
theorem fh:av ["_law_primes_here","_law_lists_here","_law_x","_law_p","_law_alike"] ["_law_primes_here","_law_lists_here","_law_x"] (ak (top 70)):=dc
theorem yB (D:ay K mg "_law_is_alike" (top 70)) (Qu:mg "zip"=none):Callee P w K mg base aQ 1 "_law_is_alike" ["_law_primes_here","_law_lists_here","_law_x"] (vc K):=by
 refine cO (len:=by intro _ _ _ _ h;repeat (first | (obtain⟨rfl,_⟩:=h;exact rfl) | obtain⟨_,h⟩:=h)) D fh (λf cdv A outer s H vs Q E hr h=>?_);obtain⟨pa,la,ps,As,us,x,rfl,hpa,hla,hL,J,x0,x1,q⟩:=h;have nd:=fh.nd;refine⟨_,(ae (bN HC rfl (ue .l .l rfl Qu (aa (pv 0) (aa (pv 1) af))) (bY (n:=2) rfl (az (aq (i:=3) nd rfl (HL rfl) (.inr rfl)) (az (aq (i:=4) nd rfl (HL rfl) (.inr rfl)) aT))) (ai (aU (aB pN (au aK (pv 2) (pv 3)) (pv 4) (by with_unfolding_all rfl)) (ai (aA fL)) aH))) (ai (aA fL))),?_⟩;show bC _ _ _ [GZ (.ref pa),GZ (.ref la),GZ (.int x),none,none] H;k_data;have ul:us.length=ps.length:=by rw [hL.1,J.len]
 refine⟨⟨_,aM.of hpa⟩,⟨_,aM.of hla⟩,rh (k1:=.l) (k2:=.l) (xs:=ps.map V.int) (ys:=us) (λi σ' H'=>(∃ o3 o4,σ'=[GZ (.ref pa),GZ (.ref la),GZ (.int x),o3,o4])/\aw H H'/\∀(j:Nat) p A,j<i->ps[j]?=GZ p->As[j]?=GZ A->x%p∈A) ⟨⟨_,_,rfl⟩,aw.refl _,λ_ _ _ z=>absurd z (by lia)⟩ (by rw [G4,ul]) (λi σ' H' _ h=>⟨aM.of (h.2.1 _ _ hpa),aM.of (h.2.1 _ _ hla)⟩) ?_ ?_⟩
 ·rintro i y z σ' H1 p1 hy hz ⟨⟨o3,o4,rfl⟩,s1,hj⟩ hp1;rw [He] at hy;obtain⟨p,hp,rfl⟩:=Hj.mp hy;obtain⟨l,A,rfl,hA,el⟩:=hL.2 i z hz;have s2:=aj (o:=.tup [V.int p,V.ref l]) hp1;refine⟨p1,_,rfl,bE.of ag,rfl,?_⟩;k_data;have S2:=s1.trans s2;generalize upd H1 p1 (.tup [V.int p,V.ref l])=H2 at *;have p2:=(J.pm p (Hc hp)).two;refine⟨by lia,ye (aM.of (S2 _ _ el)) ⟨_,rfl,?_⟩⟩;refine aV (λc=>?_) (λc=>?_)
  ·have c':¬x%p∈A:=by simpa using c
   have:=q H2 S2
   rwa [decide_eq_false λz=>c' ((cQ.mp z).2.2 (p,A) (z8 hp hA))] at this
  ·have c':x%p∈A:=by simpa using c
   refine⟨S2,λj p' A' hji hp' hA'=>?_⟩;rcases (by lia:j<i∨j=i) with z | rfl
   ·exact hj j p' A' z hp' hA'
   ·rw [hp] at hp';cases hp';rw [hA] at hA';cases hA';exact c'
 ·rintro σ' H1 ⟨⟨o3,o4,rfl⟩,s1,hj⟩;k_data;have:=q H1 s1
  rwa [decide_eq_true (cQ.mpr ⟨x0,x1,λqq hq=>by
   obtain⟨j,hj'⟩:=JQ.mp hq;obtain⟨h1,h2⟩:=Ki.mp hj';exact hj j _ _ (by have:=(G9.mp h1).1;simpa using this) h1 h2⟩)] at this
def qp (K:G1):Sp:=λvs H Q _=>∃(pa:G6) (us:List V) (ps:List Int) (ds:List Hy) (k a:Int),vs=[.ref pa,.int k,.int a]/\H pa=GZ (.lst us)/\aP K H ds us/\mN ps ds/\ps.length<=12/\0<k/\k<=10^60 /\
 (∀(n:Nat) p,ps[n]?=GZ p->cP k a p=[]->¬p∣a->(∀(j:Nat) q,j<n->ps[j]?=GZ q->cP k a q≠[])->∀ r t l s H',aw H H'->H l=none->bE K H' t [.ref l,s]->H' l=GZ (.lst [])->dv K H' (rB n ((p-1)/(gc k p:Nat)) (a^((p-1)/(gc k p:Nat)).toNat%p)) s->H' r=GZ (.lst [.ref t,.non])->H r=none->l≠r->Q (.ref r) H') /\
 ((∀ p∈ps,cP k a p≠[])->(400<dA k a ps->∀ r H',aw H H'->H' r=GZ (.lst [.non,.int (dA k a ps)])->H r=none->Q (.ref r) H')/\(dA k a ps<=400->∀ r t l s H',aw H H'->H l=none->bE K H' t [.ref l,s]->H' l=GZ (.lst ((dz ps (fk k a ps)).map V.int))->xh K k a ps s H'->H' r=GZ (.lst [.ref t,.non])->H r=none->l≠r->Q (.ref r) H'))
theorem jh:av ["_law_papers","_law_k","_law_a","_law_found","_law_many","error"] ["_law_papers","_law_k","_law_a"] (ak (top 66)):=dc
theorem yR {CM:G6} (D:ay K mg "_law_told" (top 66)) (c_roots_of:Callee P w K mg base (d7 P w) 18 "roots_of" ["papers","k","a"] (Ci K CM)) (x_TooMany:sR P w K mg base "TooMany" CM "many") (mM:R6 K CM (.ref CM)=GZ true):Callee P w K mg base aQ 19 "_law_told" ["_law_papers","_law_k","_law_a"] (qp K):=by
 refine cO (len:=by intro _ _ _ _ h;repeat (first | (obtain⟨rfl,_⟩:=h;exact rfl) | obtain⟨_,h⟩:=h)) D jh (λf cdv A outer s H vs Q E hr h=>?_);obtain⟨pa,us,ps,ds,k,a,rfl,hpa,hds,J,l12,k0,k1,q1,q2⟩:=h;have nd:=jh.nd;refine⟨_,(ae (bj (i:=3) nd c9) (ae (bj (i:=4) nd c9) (ae (Bh (i:=3) c_roots_of (hr.mono (by decide)) rfl rfl rfl nd rfl rfl (aa (pv 0) (aa (pv 1) (aa (pv 2) af))) (ET (i:=5) x_TooMany.cls rfl x_TooMany.at_ nd rfl rfl (λ_=>(ai (bj (i:=4) nd (y4 K rfl (pv 5))))))) (ai (aA (bX (aa (pv 3) (aa (pv 4) af)))))))),?_⟩;show bC _ _ _ [GZ (.ref pa),GZ (.int k),GZ (.int a),none,none,none] H;k_data;refine⟨pa,us,ps,ds,k,a,rfl,hpa,hds,J,l12,k0,k1,λn p hp h0 na hj t l s H1 s1 fl hT el hs=>⟨by show 2<=sizeLine;decide,λr hr'=>?_⟩,λne=>⟨λc4 x dx H1 s1 fx ex ed=>?_,λc4 t l s H1 s1 fl hT el hs=>⟨by show 2<=sizeLine;decide,λr hr'=>?_⟩⟩⟩
 ·have s2:=aj (o:=.lst [V.ref t,V.non]) hr';exact q1 n p hp h0 na hj r t l s _ (s1.trans s2) fl (hT.same s2) (s2 _ _ el) (dv.same s2 _ hs) ag (s1.free hr') (λz=>by rw [<- z,el] at hr';cases hr')
 ·refine⟨CM,rfl,x,rfl,GZ dx,ex,x_TooMany.cls,mM,CM,dx,.inl ex,x_TooMany.cls,x_TooMany.nof,_,ed,_,rfl,by show 2<=sizeLine;decide,λr hr'=>?_⟩;exact (q2 ne).1 c4 r _ (s1.trans (aj hr')) ag (s1.free hr')
 ·have s2:=aj (o:=.lst [V.ref t,V.non]) hr';obtain⟨b,qq,rows,rfl,h1,h2,h3,h4⟩:=hs;exact (q2 ne).2 c4 r t l _ _ (s1.trans s2) fl (hT.same s2) (s2 _ _ el) ⟨b,qq,rows,rfl,h1.same s2,h2.same s2,h3,λi p v z1 z2=>(h4 i p v z1 z2).same s2⟩ ag (s1.free hr') (λz=>by rw [<- z,el] at hr';cases hr')
theorem tq {H:Hp}:∀{ds:List Hy} {us:List V},us.length=ds.length->(∀(i:Nat) u d,us[i]?=GZ u->ds[i]?=GZ d->dv K H d u)->aP K H ds us
 | [],[],_,_=>rfl
 | [],_::_,h,_=>by simp at h
 | _::_,[],h,_=>by simp at h
 | d::ds,u::us,h,f=>⟨u,us,rfl,f 0 u d rfl rfl,tq (by simpa using h) λi u' d' z1 z2=>f (i+1) u' d' (by simpa using z1) (by simpa using z2)⟩
theorem xN {H:Hp}:∀{us:List V},(∀ v∈us,∃ d,dv K H d v)->∃ ds,aP K H ds us
 | [],_=>⟨[],rfl⟩
 | u::us,h=>by obtain⟨d,hd⟩:=h u (by simp);obtain⟨ds,hds⟩:=xN λv hv=>h v (Ha _ hv);exact⟨d::ds,u,us,rfl,hd,hds⟩
noncomputable def yo (As:List (List Int)):List Hy:=As.map λA=>PyData.list (A.map J6)
theorem Ab.aP {H:Hp} {As:List (List Int)} {us:List V} (h:Ab H As us):aP K H (yo As) us:=tq (by unfold yo;rw [G4];exact h.1) λi u d hu hd=>by obtain⟨l,A,rfl,hA,el⟩:=h.2 i u hu;unfold yo at hd;rw [He,hA] at hd;cases hd;exact dv.lst el (aP.ints _)
theorem yj:∀ ns:List Int,IQ (ns.map J6)=true
 | []=>rfl
 | n::ns=>yj ns
theorem tI:∀ As:List (List Int),IQ (yo As)=true
 | []=>rfl
 | A::As=>by show (IQ (A.map J6) && IQ (yo As))=true;rw [yj,tI As];rfl
theorem AG {A:List Int}:JH (.list (A.map J6)) (.list [])=decide (A=[]):=by cases A<;>rfl
theorem any_nil {As:List (List Int)}:((yo As).any λe=>JH e (.list []))=true↔[]∈As:=by
 unfold yo;rw [List.any_map,N9];constructor
 ·rintro⟨A,hA,e⟩;cases A with
  | nil=>exact hA
  | cons x A=>cases e
 ·exact λh=>⟨[],h,rfl⟩
theorem nc {k a:Int} {ps:List Int} {i:Nat} {p:Int} (h:ps[i]?=GZ p):(fk k a ps)[i]?=GZ (cP k a p):=by unfold fk;rw [He,h];rfl
def sh (K:G1):Sp:=λvs H Q _=>∃(al:G6) (s:V) (p k a:Int),vs=[.int p,.ref al,s]/\H al=GZ (.lst ((cP k a p).map V.int))/\Num.Pm p/\p<=400/\0<k/\j4 K p k a s H/\∀ H',aw H H'->Q (.bl true) H'
theorem gD:av ["_law_p","_law_alike","_law_row"] ["_law_p","_law_alike","_law_row"] (ak (top 67)):=dc
theorem wb (D:ay K mg "_law_is_row" (top 67)) (c__law_steps:Callee P w K mg base aQ 1 "_law_steps" ["_law_p","_law_a"] kU) (P':mg "isinstance"=none) (J':mg "tuple"=none) (P1:mg "int"=none) (Pq:mg "bool"=none) (f':mg "len"=none):Callee P w K mg base aQ 2 "_law_is_row" ["_law_p","_law_alike","_law_row"] (sh K):=by
 refine cO (len:=by intro _ _ _ _ h;repeat (first | (obtain⟨rfl,_⟩:=h;exact rfl) | obtain⟨_,h⟩:=h)) D gD (λf cdv A outer s H vs Q E hr h=>?_);obtain⟨al,s,p,k,a,rfl,hal,pm,p9,k0,hs,q⟩:=h;have p2:=pm.two;have nd:=gD.nd;refine⟨_,(ae (aU (aB (lU hr.units) (pv 1) (bX (aa ah af)) (aC _)) (ai (aA (dy (lU hr.units) (pv 2) (aL (aa bF af)) (aC _)))) aH) (ae (aU (PW.pt (gu (gk (bR (aF cZ rfl P' PyProof.Rows.boot_isinstance (aa (pv 2) (aa (fB (v:=.ty "tuple") rfl J' L2.boot_tuple rfl) af))) (λ_=>rfl))) (gu (aB eC (aF bf rfl f' Ir (aa (pv 2) af)) ah (aC _)) (gu (aB eC (aG aS (pv 2) ah (λ_ _=>rfl)) bF (aC _)) (mh (aB eC (aG aS (pv 2) ah (λ_ _=>rfl)) (aG bG (pv 1) ah (λ_ _=>rfl)) (aC _))))))) (ai (aA fL)) aH) (ae (aU (PW.pt (gu (gk (bR (aF cZ rfl P' PyProof.Rows.boot_isinstance (aa (aG aS (pv 2) ah (λ_ _=>rfl)) (aa (fB (v:=.ty "int") rfl P1 L2.boot_int rfl) af))) (λ_=>rfl))) (gu (gk (bR (aF cZ rfl P' PyProof.Rows.boot_isinstance (aa (aG aS (pv 2) ah (λ_ _=>rfl)) (aa (fB (v:=.ty "int") rfl P1 L2.boot_int rfl) af))) (λ_=>rfl))) (mh (bR (aF cZ rfl P' PyProof.Rows.boot_isinstance (aa (aG aS (pv 2) ah (λ_ _=>rfl)) (aa (fB (v:=.ty "bool") rfl Pq L2.boot_bool rfl) af))) (λ_=>rfl)))))) (ai (aA fL)) aH) (ai (aA (ub (dy fK ah (aG aS (pv 2) ah (λ_ _=>rfl)) (aC _)) (ub (dy fK (aG aS (pv 2) ah (λ_ _=>rfl)) (pv 0) (aC _)) (yZ (dy cM (bJ c__law_steps hr aE (aa (pv 0) (aa (aG aS (pv 2) ah (λ_ _=>rfl)) af))) (aF bf rfl f' Ir (aa (pv 1) af)) (aC _)))))))))),?_⟩;show bC _ _ _ [GZ (.int p),GZ (.ref al),GZ s] H;k_data;refine⟨by show 1<=sizeLine;decide,λp1 hp1=>?_⟩;have s1:=aj (o:=.lst [V.int 0]) hp1;refine qK (bs:=cP k a p) (cs:=[0]) (aM.of (s1 _ _ hal)) (aM.of ag) ⟨_,rfl,?_⟩;rcases hs with⟨pa,hs⟩|⟨na,r0,tn,hr0,t0,t1,ot,hs⟩
 ·rw [if_pos (show (if false=true then !decide (cP k a p=[0]) else decide (cP k a p=[0]))=true by rw [iS pm k0 pa];rfl)];refine⟨by show 1<=sizeLine;decide,λp2 hp2=>?_⟩;have s2:=aj (o:=.tup [V.str "nought"]) hp2;exact ly (dv.same (s1.trans s2) _ hs) (dv.tup ag (.one rfl)) (by decide +kernel) (by decide) (q _ (s1.trans s2))
 have n0:cP k a p≠[0]:=λz=>na (by
  have h:(0:Int)∈cP k a p:=by rw [z];simp
  have h2:=(iR.mp h).2.2;rw [Ig ((pT pm k0).mpr (Mt p))] at h2;exact HD h2.symm)
 rw [if_neg (show ¬(if false=true then !decide (cP k a p=[0]) else decide (cP k a p=[0]))=true by simpa using n0)];have hs1:=dv.same s1 _ hs;have hal1:=s1 _ _ hal;generalize upd H p1 (.lst [V.int 0])=H1 at *;obtain⟨pn,x1,x2,x3,rfl,hT,e1,e2,e3⟩:=mO (id hs1);cases e1;cases e2;cases e3;refine kR hs1 ⟨true,rfl,?_⟩;rw [if_neg (by decide)];refine i5 hT ⟨rfl,?_⟩;rw [if_neg (λz=>z rfl)];refine bA hT kJ ⟨rfl,?_⟩;rw [if_neg (λz=>z rfl)];refine bA hT xp (eS (aM.of hal1) (Je 0) (v:=.int r0) (by show (S1 V.int (cP k a p))[0]?=_;rw [He,hr0];rfl) ⟨rfl,?_⟩);rw [if_neg (λz=>z rfl)];refine bA hT xp (uL (d:=.int r0) rfl ⟨true,rfl,?_⟩);rw [if_neg (by decide)];refine bA hT rfl (uL (d:=.int tn) rfl ⟨true,rfl,?_⟩);rw [if_neg (by decide)];refine bA hT rfl (yf (d:=.int tn) rfl ⟨false,rfl,?_⟩);rw [if_neg (by decide)];have tn0:tn≠0:=λz=>pm.unit ot.co (by rw [z];exact Mt p);have ntn:¬p∣tn:=λz=>by have:=Hx (by lia) z;lia
 refine bA hT rfl ⟨tn,rfl,aV (λ_=>bA hT rfl ⟨tn,rfl,aV (λ_=>bA hT rfl ⟨p,tn,rfl,pm,by lia,by lia,by lia,ntn,λr r1 r2 o=>df (aM.of hal1) ⟨rfl,?_⟩⟩) (λc=>absurd t1 c)⟩) (λc=>absurd (show 0<tn by lia) c)⟩;have er:=o.pM ot;rw [G4,show r=((cP k a p).length:Int) by lia,decide_eq_true rfl];exact q _ s1
def j3 (K:G1) (k a:Int) (ps:List Int) (s:V) (H:Hp):Prop:=(∃(n:Nat) (p:Int),ps[n]?=GZ p/\cP k a p=[]/\¬p∣a/\(∀(j:Nat) q,j<n->ps[j]?=GZ q->cP k a q≠[])/\dv K H (rB n ((p-1)/(gc k p:Nat)) (a^((p-1)/(gc k p:Nat)).toNat%p)) s)∨((∀ p∈ps,cP k a p≠[])/\xh K k a ps s H)
theorem rV {k a:Int} {ps:List Int} {rows:List V} {H:Hp} (h3:rows.length=ps.length) (h4:∀(i:Nat) p v,ps[i]?=GZ p->rows[i]?=GZ v->j4 K p k a v H):∃ rs,aP K H rs rows:=xN λv hv=>by
 obtain⟨i,hi⟩:=JQ.mp hv;have il:=(G9.mp hi).1;rcases h4 i _ v (Hf (by lia)) hi with⟨_,h⟩|⟨_,_,_,_,_,_,_,h⟩
 ·exact⟨_,h⟩
 ·exact⟨_,h⟩
theorem j3.ex {k a:Int} {ps:List Int} {s:V} {H:Hp} (hs:j3 K k a ps s H):∃ ts,dv K H (.tuple ts) s:=by
 rcases hs with⟨n,p,_,_,_,_,h⟩|⟨_,b,qq,rows,rfl,h1,h2,h3,h4⟩
 ·exact⟨_,h⟩
 ·obtain⟨rs,hrs⟩:=rV h3 h4;exact⟨[.str "by",.tuple rs],b,_,rfl,h1,_,_,rfl,rfl,.one ⟨qq,_,rfl,h2,hrs⟩⟩
theorem j3.same {k a:Int} {ps:List Int} {s:V} {H H':Hp} (hs:j3 K k a ps s H) (ss:aw H H'):j3 K k a ps s H':=by
 rcases hs with⟨n,p,h1,h2,h3,h4,h⟩|⟨h0,b,qq,rows,h5,h1,h2,h3,h4⟩
 ·exact .inl ⟨n,p,h1,h2,h3,h4,dv.same ss _ h⟩
 ·exact .inr ⟨h0,b,qq,rows,h5,h1.same ss,h2.same ss,h3,λi p v z1 z2=>(h4 i p v z1 z2).same ss⟩
def sr (K:G1):Sp:=λvs H Q _=>∃(pa la:G6) (ps:List Int) (k a:Int) (us:List V) (s:V),vs=[.ref pa,.int k,.int a,.ref la,s]/\H pa=GZ (.lst (ps.map V.int))/\H la=GZ (.lst us)/\Ab H (fk k a ps) us/\(∀ p∈ps,Num.Pm p/\p<=400)/\ps.length<=12/\0<k/\k<=10^60/\j3 K k a ps s H/\∀ H',aw H H'->Q (.bl true) H'
theorem ig:av ["_law_primes_here","_law_k","_law_a","_law_lists_here","_law_shown_here","_law_n","_law_e"] ["_law_primes_here","_law_k","_law_a","_law_lists_here","_law_shown_here"] (ak (top 68)):=dc
theorem wk (D:ay K mg "_law_shown" (top 68)) (c__law_is_row:Callee P w K mg base aQ 2 "_law_is_row" ["_law_p","_law_alike","_law_row"] (sh K)) (c__law_common:Callee P w K mg base aQ 1 "_law_common" ["_law_one","_law_other"] mC) (c__law_power:Callee P w K mg base aQ 1 "_law_power" ["_law_n","_law_a","_law_e"] jr) (P':mg "isinstance"=none) (J':mg "tuple"=none) (f':mg "len"=none) (K':mg "range"=none):Callee P w K mg base aQ 3 "_law_shown" ["_law_primes_here","_law_k","_law_a","_law_lists_here","_law_shown_here"] (sr K):=by
 refine cO (len:=by intro _ _ _ _ h;repeat (first | (obtain⟨rfl,_⟩:=h;exact rfl) | obtain⟨_,h⟩:=h)) D ig (λf cdv A outer s' H vs Q E hr h=>?_);obtain⟨pa,la,ps,k,a,us,s,rfl,hpa,hla,hL,hps,l12,k0,k1,hs,q⟩:=h;have nd:=ig.nd;refine⟨_,(ae (aU (gk (bR (aF cZ rfl P' PyProof.Rows.boot_isinstance (aa (pv 4) (aa (fB (v:=.ty "tuple") rfl J' L2.boot_tuple rfl) af))) (λ_=>rfl))) (ai (aA fL)) aH) (ae (aU (aB (DJ hr.units) (bX af) (pv 3) (by with_unfolding_all rfl)) (ae (bj (i:=5) nd (rK Kx Pf PySem.F.type_list_index (v7 hr.units) (pv 3) (aa (bX af) af))) (ae (bj (i:=6) nd (au bI (au cp (aG bG (pv 0) (pv 5) (λ_ _=>rfl)) ah) (bJ c__law_common hr aE (aa (pv 1) (aa (au cp (aG bG (pv 0) (pv 5) (λ_ _=>rfl)) ah) af))))) (ai (aA (dy (lU hr.units) (pv 4) (aL (aa bF (aa (pv 5) (aa (pv 6) (aa (bJ c__law_power hr aE (aa (aG bG (pv 0) (pv 5) (λ_ _=>rfl)) (aa (pv 2) (aa (pv 6) af)))) af))))) (aC _)))))) aH) (ae (aU (PW.pt (gu (aB eC (aF bf rfl f' Ir (aa (pv 4) af)) ah (aC _)) (gu (aB eC (aG aS (pv 4) ah (λ_ _=>rfl)) bF (aC _)) (gu (gk (bR (aF cZ rfl P' PyProof.Rows.boot_isinstance (aa (aG aS (pv 4) ah (λ_ _=>rfl)) (aa (fB (v:=.ty "tuple") rfl J' L2.boot_tuple rfl) af))) (λ_=>rfl))) (mh (aB eC (aF bf rfl f' Ir (aa (aG aS (pv 4) ah (λ_ _=>rfl)) af)) (aF bf rfl f' Ir (aa (pv 0) af)) (aC _))))))) (ai (aA fL)) aH) (ai (aA (dy cM (aF bf rfl f' Ir (aa (dN rfl (lz (sub:=by repeat (first | exact True.intro | refine⟨rfl,?_⟩)) (has:=by repeat (first | exact True.intro | refine⟨rfl,?_⟩ | refine⟨True.intro,?_⟩)) (j:=by repeat (first | exact True.intro | refine⟨⟨rfl,rfl,.inl rfl,.inl rfl⟩,?_⟩)) (N':=["_law_n","_law_primes_here","_law_lists_here","_law_shown_here"]) (js:=[none,GZ 0,GZ 3,GZ 4]) rfl rfl) (b8 rfl K' (aa (aF bf rfl f' Ir (aa (pv 0) af)) af)) (λ_ _ _ _=>(aq (i:=0) (show IA [("_law_n":HA),("_law_primes_here":HA),("_law_lists_here":HA),("_law_shown_here":HA)] from by decide +kernel) rfl (HL rfl) (.inr rfl))) (λ_ _ _ _=>(fc (gk (n8 K rfl (bJ c__law_is_row hr aE (aa (aG (qZ K rfl) (pv 1) (pv 0) (λ_ _=>rfl)) (aa (aG (qZ K rfl) (pv 2) (pv 0) (λ_ _=>rfl)) (aa (aG (bw K rfl) (aG (bw K rfl) (pv 3) ah (λ_ _=>rfl)) (pv 0) (λ_ _=>rfl)) af)))) (λ_=>rfl))))) (λ_ _ _ _=>(pv 0))) af)) ah (aC _))))))),?_⟩;show bC _ _ _ [GZ (.ref pa),GZ (.int k),GZ (.int a),GZ (.ref la),GZ s,none,none] H;k_data;obtain⟨d0,hd0⟩:=hs.ex;refine kR hd0 ⟨true,rfl,?_⟩;rw [if_neg (by decide)];refine⟨by show 0<=sizeLine;decide,λp1 hp1=>?_⟩;have s1:=aj (o:=.lst []) hp1;have e1:upd H p1 (.lst []) p1=GZ (.lst []):=ag;generalize upd H p1 (.lst [])=H1 at *;have hL1:=hL.same s1;refine⟨.list [],yo (fk k a ps),dv.lst e1 rfl,dv.lst (s1 _ _ hla) hL1.aP,rfl,tI _,by decide,_,rfl,?_⟩;rcases hs with⟨n,p,hp,h0,na,hj,hs⟩|⟨ne,hs⟩
 ·have hin:[]∈fk k a ps:=Hc (h0▸nc (k:=k) (a:=a) hp);rw [if_pos (show (if false=true then _ else _)=true from any_nil.mpr hin)];refine⟨.inl ⟨rfl,_,aM.of (s1 _ _ hla)⟩,by show 0<=sizeLine;decide,λp2 hp2=>?_⟩;have s2:=aj (o:=.lst []) hp2;have e2:upd H1 p2 (.lst []) p2=GZ (.lst []):=ag;generalize upd H1 p2 (.lst [])=H2 at *;have S2:=s1.trans s2;have hpa2:=S2 _ _ hpa;obtain⟨pm,p9⟩:=hps p (Hc hp);have p2':=pm.two;have gpos:0<gc k p:=Oc _ (by lia);have gle:gc k p<=(p-1).toNat:=La (by lia) (Mv _ _);have at_:∀{Q:VK} {H':Hp},H' pa=GZ (.lst (ps.map V.int))->Q (.int p) H'->wH K (.ref pa) (.int (n:Int)) H' Q:=λh q=>eS (aM.of h) (Ls n) (v:=.int p) (by show (S1 V.int ps)[n]?=_;rw [He,hp];rfl) q;refine⟨la,us,.ref p2,.list [],yo (fk k a ps),n,rfl,rfl,S2 _ _ hla,(hL.same S2).aP,dv.lst e2 rfl,rfl,tI _,by decide,⟨_,by unfold yo;rw [He,nc hp,h0];rfl,rfl⟩,λi z hi hz=>?_,?_⟩
  ·unfold yo at hz;have il:i<ps.length:=by have:=(G9.mp hp).1;lia
   have hq:=Hf il;rw [He,nc hq] at hz;cases hz;rw [AG,decide_eq_false (hj i _ hi hq)]
  ·refine at_ hpa2 ⟨p,rfl,at_ hpa2 ⟨p,rfl,Aq k0 (by lia) ⟨_,rfl,by lia,Bd.of (by lia) (by lia),at_ hpa2 ⟨p,a,_,rfl,by lia,by lia,JB (by lia) (by lia),by show 4<=sizeLine;decide,λp3 hp3=>?_⟩⟩⟩⟩;have s3:=aj (o:=.tup [V.str "none",V.int (n:Int),V.int ((p-1)/((gc k p:Nat):Int)),V.int (a^((p-1)/((gc k p:Nat):Int)).toNat%p)]) hp3;have cs:Ms (.str "none")=true:=by decide +kernel
   refine ly (dv.same (S2.trans s3) _ hs) (dv.tup ag ⟨_,_,rfl,rfl,_,_,rfl,rfl,_,_,rfl,rfl,.one rfl⟩) ?_ ?_ (q _ (S2.trans s3))
   ·simp only [rB,Ms,IQ] at cs ⊢;simpa using cs
   ·simp [rB,Mr,Kh]
 ·have nin:¬[]∈fk k a ps:=λh=>by unfold fk at h;obtain⟨p,hp,e⟩:=HE.mp h;exact ne p hp e
  rw [if_neg (show ¬(if false=true then _ else _)=true from λz=>nin (any_nil.mp z))];obtain⟨b,qq,rows,rfl,h1,h2,h3,h4⟩:=hs;refine i5 (h1.same s1) ⟨rfl,?_⟩;rw [if_neg (λz=>z rfl)];refine bA (h1.same s1) kJ ⟨rfl,?_⟩;rw [if_neg (λz=>z rfl)];obtain⟨rs,hrs⟩:=rV h3 h4;refine bA (h1.same s1) xp (kR (d:=.tuple rs) ⟨qq,_,rfl,h2.same s1,aP.same s1 _ hrs⟩ ⟨true,rfl,?_⟩);rw [if_neg (by decide)];refine bA (h1.same s1) xp (i5 (h2.same s1) (df (aM.of (s1 _ _ hpa)) ⟨rfl,?_⟩));rw [if_neg (λz=>z (by rw [h3,G4]))];refine df (aM.of (s1 _ _ hpa)) ⟨_,rfl,by rw [G4];lia,by rw [G4];lia,?_⟩;rw [IH,G4];refine eB (λi ys H'=>aw H1 H'/\ys=[]) ⟨aw.refl _,rfl⟩ (Hg l12 (by decide)) (λi ys H' _ h=>by rw [h.2];exact IV _) ?_ ?_
  ·rintro i ys H2 hi ⟨s2,rfl⟩;have hp:=Hf hi;have S2:=s1.trans s2;obtain⟨l,A,hu,hA,el⟩:∃ l A,us[i]?=GZ (.ref l)/\A=cP k a ps[i]/\H l=GZ (.lst (A.map V.int)):=by
    have hl:i<us.length:=by rw [hL.1];unfold fk;rw [G4];exact hi
    obtain⟨l,A,e1,e2,e3⟩:=hL.2 i _ (Hf hl);rw [nc hp] at e2;cases e2;exact⟨l,_,by rw [Hf hl,e1],rfl,e3⟩
   subst hA;have hv:=Hf (show i<rows.length by lia);obtain⟨pm,p9⟩:=hps _ (Hc hp);simp only [bV,HH,Jc,KN];k_data;refine⟨⟨rfl,rfl,rfl,True.intro⟩,_,rfl,eS (aM.of (S2 _ _ hpa)) (Ls i) (v:=.int ps[i]) (by show (S1 V.int ps)[i]?=_;rw [He,hp];rfl) ⟨_,rfl,eS (aM.of (S2 _ _ hla)) (Ls i) hu ⟨_,rfl,bA (h1.same S2) xp ⟨qq,rows,i,_,rfl,rfl,h2.same S2,oQ hv,l,_,ps[i],k,a,rfl,S2 _ _ el,pm,p9,k0,(h4 i _ _ hp hv).same S2,λH3 s3=>⟨true,rfl,?_⟩⟩⟩⟩⟩;rw [if_neg (by decide)];exact s2.trans s3
  ·rintro ys H2 pz ⟨s2,rfl⟩ hpz;refine df (aM.of ag) ⟨rfl,?_⟩;exact q _ ((s1.trans s2).trans (aj hpz))
theorem rO {f:Int->Int}:∀{ps:List Int},(∀ p∈ps,0<=f p/\f p<=p)->0<=aD (ps.map f)/\aD (ps.map f)<=aD ps
 | [],_=>⟨by show (0:Int)<=1;decide,Je _⟩
 | p::ps,h=>by obtain⟨h1,h2⟩:=rO λq hq=>h q (Ha _ hq);obtain⟨f1,f2⟩:=h p (by simp);exact⟨JR f1 h1,LI f2 h2 h1 (by lia)⟩
def xi (K:G1) (k a:Int) (ps:List Int) (r:G6) (H:Hp):Prop:=(400<dA k a ps/\H r=GZ (.lst [.non,.int (dA k a ps)]))∨(dA k a ps<=400/\∃ t l s,H r=GZ (.lst [.ref t,.non])/\bE K H t [.ref l,s]/\H l=GZ (.lst ((dz ps (fk k a ps)).map V.int))/\j3 K k a ps s H)
def sq (K:G1):Sp:=λvs H Q _=>∃(pa la r:G6) (ps:List Int) (k a:Int) (us:List V),vs=[.ref pa,.int k,.int a,.ref la,.ref r]/\H pa=GZ (.lst (ps.map V.int))/\H la=GZ (.lst us)/\Ab H (fk k a ps) us/\(∀ p∈ps,Num.Pm p/\p<=400)/\Fu ps (fk k a ps)/\ps.length<=12/\0<k/\k<=10^60/\xi K k a ps r H/\∀ H',aw H H'->Q (.bl true) H'
theorem ie:av ["_law_primes_here","_law_k","_law_a","_law_lists_here","_law_told_here","_law_many","_law_alike","_law_found"] ["_law_primes_here","_law_k","_law_a","_law_lists_here","_law_told_here"] (ak (top 71)):=dc
theorem wj (D:ay K mg "_law_right" (top 71)) (c__law_whole:Callee P w K mg base aQ 1 "_law_whole" ["_law_primes_here"] (mF K)) (c__law_is_alike:Callee P w K mg base aQ 1 "_law_is_alike" ["_law_primes_here","_law_lists_here","_law_x"] (vc K)) (c__law_shown:Callee P w K mg base aQ 3 "_law_shown" ["_law_primes_here","_law_k","_law_a","_law_lists_here","_law_shown_here"] (sr K)) (P':mg "isinstance"=none) (J':mg "tuple"=none) (f':mg "len"=none) (K':mg "range"=none):Callee P w K mg base aQ 4 "_law_right" ["_law_primes_here","_law_k","_law_a","_law_lists_here","_law_told_here"] (sq K):=by
 refine cO (len:=by intro _ _ _ _ h;repeat (first | (obtain⟨rfl,_⟩:=h;exact rfl) | obtain⟨_,h⟩:=h)) D ie (λf cdv A outer s' H vs Q E hr h=>?_);obtain⟨pa,la,r,ps,k,a,us,rfl,hpa,hla,hL,hps,J,l12,k0,k1,hT,q⟩:=h;have nd:=ie.nd;refine⟨_,(ae (bj (i:=5) nd ah) (ae (bN HC rfl (aW (pv 3)) (aq (i:=6) nd rfl (HL rfl) (.inr rfl)) (ai (bj (i:=5) nd (au aI (pv 5) (aF bf rfl f' Ir (aa (pv 6) af)))))) (ae (aU (aB eY (pv 5) ah (aC _)) (ai (aA (dy (lU hr.units) (pv 4) (bX (aa c9 (aa (pv 5) af))) (aC _)))) aH) (ae (aU (PW.pt (gu (aB i7 (aG bG (pv 4) ah (λ_ _=>rfl)) c9 (aC _)) (gu (gk (bR (aF cZ rfl P' PyProof.Rows.boot_isinstance (aa (aG bG (pv 4) ah (λ_ _=>rfl)) (aa (fB (v:=.ty "tuple") rfl J' L2.boot_tuple rfl) af))) (λ_=>rfl))) (mh (aB eC (aF bf rfl f' Ir (aa (aG bG (pv 4) ah (λ_ _=>rfl)) af)) ah (aC _)))))) (ai (aA fL)) aH) (ae (gX (i0:=7) nd rfl (HL rfl) rfl (lz (sub:=by repeat (first | exact True.intro | refine⟨rfl,?_⟩)) (has:=by repeat (first | exact True.intro | refine⟨rfl,?_⟩ | refine⟨True.intro,?_⟩)) (j:=by repeat (first | exact True.intro | refine⟨⟨rfl,rfl,.inl rfl,.inl rfl⟩,?_⟩)) (N':=["_law_x","_law_primes_here","_law_lists_here"]) (js:=[none,GZ 0,GZ 3]) rfl rfl) (b8 rfl K' (aa (bJ c__law_whole hr aE (aa (pv 0) af)) af)) (λ_ _ _ _=>(aq (i:=0) (show IA [("_law_x":HA),("_law_primes_here":HA),("_law_lists_here":HA)] from by decide +kernel) rfl (HL rfl) (.inr rfl))) (λ_ _ _ _=>(fc (n8 K rfl (bJ c__law_is_alike hr aE (aa (pv 1) (aa (pv 2) (aa (pv 0) af)))) (λ_=>rfl)))) (λ_ _ _ _=>(pv 0)) (by rfl) (by first | exact .inl rfl | exact .inr rfl)) (ai (aA (ub (dy (lU hr.units) (aG aS (aG bG (pv 4) ah (λ_ _=>rfl)) ah (λ_ _=>rfl)) (pv 7) (aC _)) (yZ (bJ c__law_shown hr aE (aa (pv 0) (aa (pv 1) (aa (pv 2) (aa (pv 3) (aa (aG aS (aG bG (pv 4) ah (λ_ _=>rfl)) ah (λ_ _=>rfl)) af))))))))))))))),?_⟩;show bC _ _ _ [GZ (.ref pa),GZ (.int k),GZ (.int a),GZ (.ref la),GZ (.ref r),none,none,none] H;k_data;have lens:∀ i,0<=aD ((ps.take i).map λp=>((cP k a p).length:Int))/\aD ((ps.take i).map λp=>((cP k a p).length:Int))<=1000:=λi=>by
  have h1:=rO (f:=λp=>((cP k a p).length:Int)) (ps:=ps.take i) λp hp=>⟨Ls _,tf (J.pm p (Iq hp))⟩
  have h2:=ma J.pm i;have:=J.le;exact⟨h1.1,by lia⟩
 have ul:us.length=ps.length:=by rw [hL.1];unfold fk;rw [G4]
 refine⟨⟨_,aM.of hla⟩,cL (xs:=us) (λi σ' H'=>(∃ o6,σ'=[GZ (.ref pa),GZ (.int k),GZ (.int a),GZ (.ref la),GZ (.ref r),GZ (.int (aD ((ps.take i).map λp=>((cP k a p).length:Int)))),o6,none])/\H'=H) ⟨⟨_,rfl⟩,rfl⟩ (λi σ' H' _ h=>h.2▸aM.of hla) ?_ ?_⟩
 ·rintro i x σ' H1 hx ⟨⟨o6,rfl⟩,rfl⟩;have il:=(G9.mp hx).1;have hp:=Hf (show i<ps.length by lia);obtain⟨l,A,rfl,hA,el⟩:=hL.2 i x hx;rw [nc hp] at hA;cases hA;obtain⟨m0,m1⟩:=lens i;have d9:=tf (k:=k) (a:=a) (J.pm _ (Hc hp));have p9:=(hps _ (Hc hp)).2;k_data;have e1:(ps.take (i+1)).map (λp=>((cP k a p).length:Int))=(ps.take i).map (λp=>((cP k a p).length:Int))++[((cP k a ps[i]).length:Int)]:=by rw [HI,hp,HQ];rfl
  refine df (aM.of el) ⟨_,rfl,Bd.of (by lia) (by lia),by rw [G4];exact Bd.of (by lia) (by lia),?_⟩;rw [G4,e1,bM];exact⟨rfl,rfl⟩
 ·rintro σ' H1 ⟨⟨o6,rfl⟩,rfl⟩;rw [ul,HY];k_data;show if 400<dA k a ps then _ else _
  rcases hT with⟨c4,hr'⟩|⟨c4,t,l,s,hr',hT,el,hs⟩
  ·rw [if_pos c4];refine⟨by show 2<=sizeLine;decide,λp1 hp1=>?_⟩;have s1:=aj (o:=.lst [V.non,V.int (dA k a ps)]) hp1;exact ly (d:=.list [.none,.int (dA k a ps)]) (dv.lst (s1 _ _ hr') ⟨_,_,rfl,rfl,.one rfl⟩) (dv.lst ag ⟨_,_,rfl,rfl,.one rfl⟩) rfl (by simp [Mr,Kh]) (q _ s1)
  ·rw [if_neg (by lia)];obtain⟨ds,hds⟩:=hs.ex;have at0':∀{Q:VK} {H':Hp},H' r=GZ (.lst [.ref t,.non])->Q (.ref t) H'->wH K (.ref r) (.int 0) H' Q:=λh q=>eS (aM.of h) (by decide) (v:=.ref t) rfl q;refine eS (aM.of hr') (by decide) (v:=.non) rfl ?_;rw [if_neg (λz=>z rfl)];refine at0' hr' (kR (d:=.tuple [.list ((dz ps (fk k a ps)).map J6),.tuple ds]) ⟨t,_,rfl,hT,_,_,rfl,dv.lst el (aP.ints _),.one hds⟩ ⟨true,rfl,?_⟩);rw [if_neg (by decide)];refine at0' hr' (i5 hT ⟨rfl,?_⟩);rw [if_neg (λz=>z rfl)];have W0:=dR J.pm;have W9:=J.le;refine⟨pa,ps,rfl,hpa,λn hn=>⟨by have:=(J.pm n hn).two;lia,by have:=(hps n hn).2;lia⟩,by lia,_,rfl,by lia,by lia,?_⟩;have rng:((IY (aD ps).toNat).map λi:Nat=>(i:Int)).filter (λx=>decide (x∈dz ps (fk k a ps)))=dz ps (fk k a ps):=Num.iF (iJ _) lj λx=>by rw [IB,decide_eq_true_iff];refine⟨λh=>h.2,λh=>⟨?_,h⟩⟩;obtain⟨h0,h1,_⟩:=cQ.mp h;exact HE.mpr ⟨x.toNat,IF.mpr (by lia),by lia⟩
   refine eB (λi ys H'=>aw H1 H'/\ys=((((IY i).map λi:Nat=>(i:Int)).filter λx=>decide (x∈dz ps (fk k a ps)))).map V.int) ⟨aw.refl _,rfl⟩ (Hg (show (aD ps).toNat<=1000 by lia) (by decide)) (λi ys H' _ h=>by rw [h.2,G4];refine Hg (JP _ _) ?_;rw [G4,Jb];exact Hd _) ?_ ?_
   ·rintro i ys H2 hi ⟨s2,rfl⟩;simp only [bV,HH,Jc,KN];k_data;refine⟨⟨rfl,rfl,True.intro⟩,_,rfl,_,rfl,pa,la,ps,fk k a ps,us,i,rfl,s2 _ _ hpa,s2 _ _ hla,hL.same s2,J,by lia,by lia,λH3 s3=>⟨_,kX.mpr rfl,?_⟩⟩;rw [KZ,HQ,NI,HQ];refine aV (λc=>⟨s2.trans s3,?_⟩) (λc=>⟨s2.trans s3,?_⟩)
    ·rw [HH,Jc,IL (p:=λx=>decide (x∈dz ps (fk k a ps))) c];rfl
    ·rw [HH,Jc,Iz (p:=λx=>decide (x∈dz ps (fk k a ps))) c];simp
   ·rintro ys H2 p2 ⟨s2,rfl⟩ hp2;rw [rng];have s3:=aj (o:=.lst ((dz ps (fk k a ps)).map V.int)) hp2;have e3:upd H2 p2 (.lst ((dz ps (fk k a ps)).map V.int)) p2=GZ (.lst ((dz ps (fk k a ps)).map V.int)):=ag;generalize upd H2 p2 (.lst ((dz ps (fk k a ps)).map V.int))=H3 at *;have S3:=s2.trans s3;refine at0' (S3 _ _ hr') (bA (hT.same S3) kJ (qK (aM.of (S3 _ _ el)) (aM.of e3) ⟨true,by simp,?_⟩));rw [if_pos rfl];refine at0' (S3 _ _ hr') (bA (hT.same S3) xp ⟨pa,la,ps,k,a,us,s,rfl,S3 _ _ hpa,S3 _ _ hla,hL.same S3,hps,l12,k0,k1,hs.same S3,λH4 s4=>q H4 (S3.trans s4)⟩)
end
end K
namespace K
open PySem PySem.Spec PyProof.Rows L2
section
variable {P:Hq} {w:HU} {K:G1} {mg:HA->Option G2} {base:Ip}
theorem xy {ns:List Int} {lo hi:Option Int} {x:V} (h:x∈fV (ns.map V.int) lo hi):∃ c,x=.int c:=by unfold fV at h;have:=Jy (Iq h);obtain⟨c,_,e⟩:=HE.mp this;exact⟨c,e.symm⟩
theorem Bk {a d L:Int} (hd:0<d) (h0:-L<=a) (h1:a<=L):-L<=a/d/\a/d<=L:=by
 have L0:0<=L:=by lia
 have h2:L*1<=L*d:=HK (show 1<=d by lia) L0;refine⟨MC hd (by rw [OX];lia),OP hd (by lia)⟩
def Cg (K:G1):Sp:=λvs H Q _=>∃(a:G6) (ns:List Int),vs=[.ref a]/\aM K H a (ns.map V.int)/\ns.length<=63/\∀ H',Q (.bl true) H'
end
end K
namespace K
open PySem PySem.Spec PyProof.Rows L2
section
variable {P:Hq} {w:HU} {K:G1} {mg:HA->Option G2} {base:Ip} {C:G6}
theorem zu {ps:List (Int × Int)} {ds:Nat->Hy} {r:Hy} (h:r∈Num.rowsOf ps ds):∃ i q k,ps[i]?=GZ (q,k)/\r=.tuple [ds i,.int k]:=by unfold Num.rowsOf at h;obtain⟨i,hi,e⟩:=HE.mp h;have hi':=IF.mp hi;have g:=Hf hi';refine⟨i,ps[i].1,ps[i].2,g,?_⟩;rw [<- e,Ka,g];rfl
theorem rA:∀{ds:List Hy},(∀ d∈ds,wY d=true)->gf ds=true
 | [],_=>rfl
 | d::ds,h=>by rw [gf,h d (Hi ..),rA λe z=>h e (Ha _ z)];rfl
theorem A9 {n:Int} {d:Hy} (h:Num.fQ n d):wY d=true:=by
 induction h with
 | mk n g ps ds h1 h2 h3 h4 h5 h6 ih =>simp only [wY,gf,Sf,Bool.true_and];refine rA λr hr=>?_;obtain⟨i,q,k,h,rfl⟩:=zu hr;simp only [wY,gf,Sf];exact ih i q k h
theorem me:∀{l:List Int},(0:Int)∈l->aD l=0
 | x::l,h=>by
  show x*aD l=0;rcases Hw.mp h with z | z
  ·rw [<- z,Qk]
  ·rw [me z,Oy]
def ToldF (K:G1) (k a:Int) (ps:List Int) (H:Hp) (r:G6) (H':Hp):Prop:=(400<dA k a ps/\H' r=GZ (.lst [.non,.int (dA k a ps)]))∨(dA k a ps<=400/\∃ t l s,H l=none/\H' r=GZ (.lst [.ref t,.non])/\bE K H' t [.ref l,s]/\H' l=GZ (.lst ((dz ps (fk k a ps)).map V.int))/\j3 K k a ps s H')
theorem ToldF.is {k a:Int} {ps:List Int} {H H':Hp} {r:G6} (h:ToldF K k a ps H r H'):xi K k a ps r H':=by
 rcases h with h | ⟨h1,t,l,s,_,h2⟩
 ·exact .inl h
 ·exact .inr ⟨h1,t,l,s,h2⟩
theorem xn {H:Hp} {Q:VK} {E:XK} {pa:G6} {us:List V} {ps:List Int} {ds:List Hy} {k a:Int} (hpa:H pa=GZ (.lst us)) (hds:aP K H ds us) (J:mN ps ds) (l12:ps.length<=12) (k0:0<k) (k1:k<=10^60) (q:∀ r H',aw H H'->ToldF K k a ps H r H'->Q (.ref r) H'):qp K [.ref pa,.int k,.int a] H Q E:=by
 refine⟨pa,us,ps,ds,k,a,rfl,hpa,hds,J,l12,k0,k1,λn p hp h0 na hj r t l s H' ss fl hT el hs er fr ne=>q r H' ss (.inr ?_),λne=>⟨λc r H' ss er fr=>q r H' ss (.inl ⟨c,er⟩),λc r t l s H' ss fl hT el hs er fr _=>q r H' ss (.inr ⟨c,t,l,s,fl,er,hT,el,.inr ⟨ne,hs⟩⟩)⟩⟩;have m0:dA k a ps=0:=me (HE.mpr ⟨p,Hc hp,by rw [h0];rfl⟩);have a0:dz ps (fk k a ps)=[]:=MO.mpr λx hx=>by have:=(cQ.mp hx).2.2 (p,cP k a p) (z8 hp (nc hp));rw [h0] at this;cases this
 exact⟨by lia,t,l,s,fl,er,hT,by rw [a0];exact el,.inl ⟨n,p,hp,h0,na,hj,hs⟩⟩
def GC (H2:Hp) (ls:List Int) (K:G1) (i:Nat) (zs:List V) (H':Hp):Prop:=aw H2 H'/\∃ ds,aP K H' ds zs/\ds.length=(ls.take i).length/\∀(j:Nat) p d,(ls.take i)[j]?=GZ p->ds[j]?=GZ d->Num.fQ p d
def GF (sc:G6) (L:List V) (H:Hp) (pc:G6) (σ':L2.St) (H':Hp):Prop:=∃ o1 o2 o3 o4 o5 o6 o7 o8 o9 o10,σ'=[GZ (.ref sc),o1,o2,o3,o4,o5,o6,o7,o8,o9,o10]/\aw H H'/\H' pc=GZ (.lst L)
def FC (sc p1 pp pa:G6) (c k W:Int) (b:Bool) (H3:Hp) (σ':L2.St) (H':Hp):Prop:=∃(a:Int) (o8 o9 o10:Option V),σ'=[GZ (.ref sc),GZ (.int c),GZ (.ref p1),GZ (.ref pp),GZ (.ref pa),GZ (.int k),GZ (.int a),GZ (.int W),o8,o9,o10]/\Us p1 b H3 H'
theorem zB:av ["_law_script","_law_cell","_law_state_here","_law_primes_here","_law_papers","_law_k","_law_a","_law_whole_here","_law_lists_here","_law_turn","_law_told_here"] ["_law_script"] (ak (top 72)):=dc
theorem DE {fl:G6} {fdl:JF} (F:w6 K "law" "law" (top 72) fl fdl) (c__law_state:Callee P w K mg base aQ 1 "_law_state" ["_law_cell","_law_free"] vq) (c__law_cell_at:Callee P w K mg base aQ 1 "_law_cell_at" ["_law_script","_law_k"] (r8 K)) (c__law_take:Callee P w K mg base aQ 1 "_law_take" ["_law_state_here","_law_many"] mE) (c__law_primes:Callee P w K mg base aQ 2 "_law_primes" ["_law_state_here"] sk) (c__law_order:Callee P w K mg base aQ 2 "_law_order" ["_law_state_here"] sj) (c__law_number:Callee P w K mg base aQ 2 "_law_number" ["_law_state_here"] si) (c__law_paper:Callee P w K mg base aQ 32 "_law_paper" ["_law_p"] (oB K)) (c__law_whole:Callee P w K mg base aQ 1 "_law_whole" ["_law_primes_here"] (mF K)) (c__law_power:Callee P w K mg base aQ 1 "_law_power" ["_law_n","_law_a","_law_e"] jr) (c__law_lists:Callee P w K mg base aQ 2 "_law_lists" ["_law_primes_here","_law_k","_law_a"] (vh K)) (c__law_told:Callee P w K mg base aQ 19 "_law_told" ["_law_papers","_law_k","_law_a"] (qp K)) (c__law_right:Callee P w K mg base aQ 4 "_law_right" ["_law_primes_here","_law_k","_law_a","_law_lists_here","_law_told_here"] (sq K)) (K':mg "range"=none):cE P w K mg base aQ 33 fl fdl ["_law_script"] (Cg K):=by
 refine AK F zB (λvs H Q E h=>by obtain⟨a,b,rfl,_⟩:=h;rfl) (λcdv A outer s H vs Q E hr h=>?_);obtain⟨sc,ns,rfl,hS,h63,q⟩:=h;have nd:=zB.nd;refine⟨_,(ae (bN HC rfl (aW (au yU (lZ qd (pv 0) (gW ah) (gW ah)) (bX (aa ah af)))) (aq (i:=1) nd rfl (HL rfl) (.inr rfl)) (ae (bj (i:=2) nd (bJ c__law_state hr aE (aa (pv 1) (aa (dy cM (au aK (bJ c__law_cell_at hr aE (aa (pv 0) (aa ah af))) ah) ah (aC _)) af)))) (ae (bj (i:=3) nd (bJ c__law_primes hr aE (aa (pv 2) af))) (ae (gX (i0:=4) nd rfl (HL rfl) rfl (lz (sub:=by repeat (first | exact True.intro | refine⟨rfl,?_⟩)) (has:=by repeat (first | exact True.intro | refine⟨rfl,?_⟩ | refine⟨True.intro,?_⟩)) (j:=by repeat (first | exact True.intro | refine⟨⟨rfl,rfl,.inl rfl,.inl rfl⟩,?_⟩)) (N':=["_law_p"]) (js:=[none]) rfl rfl) (aW (pv 3)) (λ_ _ _ _=>(aq (i:=0) (show IA [("_law_p":HA)] from by decide +kernel) rfl (HL rfl) (.inr rfl))) (λ_ _ _ _=>aZ) (λ_ _ _ _=>(bJ c__law_paper hr aE (aa (pv 0) af))) (by rfl) (by first | exact .inl rfl | exact .inr rfl)) (ae (bj (i:=5) nd (bJ c__law_order hr aE (aa (pv 2) af))) (ae (bj (i:=6) nd (bJ c__law_number hr aE (aa (pv 2) af))) (ae (bj (i:=7) nd (bJ c__law_whole hr aE (aa (pv 3) af))) (ae (gj (aU (aB cM (bJ c__law_take hr aE (aa (pv 2) (aa ah af))) ah (aC _)) (ai (bj (i:=6) nd (au cq (bJ c__law_power hr aE (aa (pv 7) (aa (pv 6) (aa (pv 5) af)))) (au aI (pv 7) (bJ c__law_take hr aE (aa (pv 2) (aa ah af))))))) aH)) (ae (bj (i:=8) nd (bJ c__law_lists hr aE (aa (pv 3) (aa (pv 5) (aa (pv 6) af))))) (ai (bN HC rfl (b8 rfl K' (aa ah af)) (aq (i:=9) nd rfl (HL rfl) (.inr rfl)) (ae (bj (i:=10) nd (bJ c__law_told hr aE (aa (pv 4) (aa (pv 5) (aa (pv 6) af))))) (ae (aU (gk (bR (bJ c__law_right hr aE (aa (pv 3) (aa (pv 5) (aa (pv 6) (aa (pv 8) (aa (pv 10) af)))))) (λ_=>rfl))) (ai (aA fL)) aH) (ai (aU (aB i7 (aG bG (pv 10) ah (λ_ _=>rfl)) c9 (aC _)) (ai (eI (rK Kx Kz PySem.F.type_list_append gR (aG aS (aG bG (pv 10) ah (λ_ _=>rfl)) ah (λ_ _=>rfl)) (aa ah af)))) aH))))))))))))))) (ai (aA fL))),?_⟩;show bC _ _ _ [GZ (.ref sc),none,none,none,none,none,none,none,none,none,none] H;k_data;refine⟨sc,_,rfl,hS,λpc hpc=>⟨by show 1<=sizeLine;decide,λpz hpz=>?_⟩⟩;have s4:=aj (o:=.lst (fV (ns.map V.int) (GZ 1) (GZ 8))) hpc;have s5:=aj (o:=.lst [V.int 0]) hpz;have e4:upd (upd H pc (.lst (fV (ns.map V.int) (GZ 1) (GZ 8)))) pz (.lst [V.int 0]) pc=GZ (.lst (fV (ns.map V.int) (GZ 1) (GZ 8))):=s5 _ _ ag;have e5:upd (upd H pc (.lst (fV (ns.map V.int) (GZ 1) (GZ 8)))) pz (.lst [V.int 0]) pz=GZ (.lst [V.int 0]):=ag;have S5:=s4.trans s5;generalize upd (upd H pc _) pz _=H5 at *;have cl:(fV (ns.map V.int) (GZ 1) (GZ 8)).length<=63:=Hg (j5 _ _ _) (by rw [G4];exact h63);have hin:∀ x∈fV (ns.map V.int) (GZ 1) (GZ 8)++[V.int 0],∃ c,x=.int c:=by
  intro x hx;rcases IC.mp hx with y | y
  ·exact xy y
  ·exact⟨0,Ho.mp y⟩
 refine⟨pc,pz,_,_,rfl,rfl,e4,e5,Hg (show _+1<=64 by lia) (by decide),λpl hpl=>⟨pl,rfl,⟨_,aM.of ag⟩,?_⟩⟩;generalize fV (ns.map V.int) (GZ 1) (GZ 8)++[V.int 0]=L at *;have S6:=S5.trans (aj (o:=.lst L) hpl);have e6:upd H5 pl (.lst L) pl=GZ (.lst L):=ag;generalize upd H5 pl _=H6 at *;refine cL (xs:=L) (λi σ' H'=>GF sc L H pl σ' H') ⟨_,_,_,_,_,_,_,_,_,_,rfl,S6,e6⟩ (λi σ' H' _ h=>by obtain⟨_,_,_,_,_,_,_,_,_,_,_,_,z⟩:=h;exact aM.of z) ?_ ?_
 ·rintro i x σ' H7 hx ⟨o1,o2,o3,o4,o5,o6,o7,o8,o9,o10,rfl,S7,e7⟩;obtain⟨c,rfl⟩:=hin x (Hc hx);k_data;refine⟨sc,ns,0,rfl,hS.same S7,λc0=>⟨c0,rfl,c,_,rfl,λp1 l1 H8 s8 f8 e8 k8=>?_⟩⟩;refine⟨p1,l1,_,rfl,e8,k8,λpp ls H9 hls ll up W9 u9 f9 e9=>?_⟩;obtain⟨l9,k9,et9⟩:=u9.1;have npp:pp≠p1:=λz=>by rw [z,et9] at e9;cases e9
  have hW:1<=aD ls:=fe λn hn=>by have:=(hls n hn).1.two;lia
  refine⟨pp,rfl,⟨_,aM.of e9⟩,?_⟩;refine bh (xs:=ls.map V.int) (λi zs H'=>GC H9 ls K i zs H') ⟨aw.refl _,[],rfl,rfl,λj p d z=>by simp at z⟩ (by rw [G4];exact Hg ll (by decide)) (λi zs H' hi ⟨z1,ds,z2,z3,_⟩=>⟨aM.of (z1 _ _ e9),by rw [z2.length,z3,HB];lia⟩) ?_ ?_
  ·rintro i x zs H3 hx ⟨s3,ds,hz,hl,hP⟩;rw [He] at hx;obtain⟨p,hy,rfl⟩:=Hj.mp hx;obtain⟨pm,p9⟩:=hls p (Hc hy);show cS 0 _ [none] _ _;k_data;have il:=(G9.mp hy).1;have tl:(ls.take i).length=i:=by rw [HB];lia
   have tk:ls.take (i+1)=ls.take i++[p]:=by rw [HI,hy];rfl
   refine⟨True.intro,p,rfl,pm,by lia,λd v H4 hd s4 hv=>⟨s3.trans s4,ds++[d],aP.append (aP.same s4 _ hz) (.one hv),by rw [tk,HN,HN,hl];rfl,λj p' d' z1 z2=>?_⟩⟩;rw [tk] at z1;rcases KG j i with z | z
   ·rw [IW (by lia)] at z1 z2;exact hP j p' d' z1 z2
   ·rw [IG (by lia)] at z1 z2;have j0:j-(ls.take i).length=0:=by have:=(G9.mp z1).1;simpa using this
    rw [j0] at z1;rw [show j-ds.length=0 by lia] at z2;cases z1;cases z2;exact hd
  rintro us H2 pa ⟨s2,ds,hz,hdl,hP⟩ hpa;rw [G4,HY] at hP hdl;have J:mN ls ds:=⟨hdl,hP,up,W9,λp hp=>by have:=(hls p hp).2;lia⟩
  have s3:=s2.trans (aj (o:=.lst us) hpa);have hd:=aP.same (aj (o:=.lst us) hpa) _ hz;have epa:upd H2 pa (.lst us) pa=GZ (.lst us):=ag;generalize upd H2 pa _=H3 at *;have e3:=s3 _ _ e9;have et3:=s3 _ _ et9;have npa:pa≠p1:=λz=>by rw [z,et3] at epa;cases epa
  refine⟨p1,l9,_,rfl,et3,k9,λk H10 k0 k1 u10=>?_⟩;obtain⟨l10,k10,et10⟩:=u10.1;refine⟨p1,l10,_,rfl,et10,k10,λa H11 a0 a1 u11=>?_⟩;obtain⟨b,eb,U11⟩:∃ b,decide (c0%2=0)=b/\Us p1 b H3 H11:=⟨_,rfl,u10.trans u11.us⟩
  rw [eb] at et3;refine⟨pp,ls,rfl,U11.2 _ _ npp e3,λn hn=>⟨by have:=(hls n hn).1.two;lia,by have:=(hls n hn).2;lia⟩,by lia,?_⟩;refine⟨FC sc p1 pp pa c k (aD ls) b H3,?_,?_⟩
  ·k_data;obtain⟨l11,k11,et11⟩:=U11.1;refine⟨p1,2,l11,_,rfl,et11,k11,by decide,by decide,λy H12 y0 y1 u12=>⟨rfl,?_⟩⟩;obtain⟨l12,k12,et12⟩:=u12.at;have U12:=U11.trans u12.us;refine aV (λ_=>?_) (λ_=>⟨a,_,_,_,rfl,U12⟩);have m0:=Hl (a^k.toNat) (show aD ls≠0 by lia);have m1:=Hk (a^k.toNat) (show 0<aD ls by lia);refine⟨aD ls,a,k,rfl,by lia,by lia,by lia,p1,1000,l12,_,rfl,et12,k12,by decide,by decide,λz H13 z0 z1 u13=>⟨z,rfl,Bd.of (by lia) (by lia),Bd.of (by lia) (by lia),_,rfl,_,_,_,_,rfl,U12.trans u13.us⟩⟩
  rintro σ' H14 ⟨a',o8',o9',o10',rfl,U14⟩;have e14:=U14.2 _ _ npp e3;have epa14:=U14.2 _ _ npa epa;have kT:=U14.cW et3;have hd14:aP K H14 ds us:=tq hd.length λi u d hu hdd=>by
   obtain⟨d',h1,h2⟩:=hd.get hu;rw [hdd] at h1;cases h1;have il:i<ls.length:=by have:=(G9.mp hdd).1;lia
   exact dv.cW kT _ (A9 (hP i _ d (Hf il) hdd)) h2
  have S14:aw H7 H14:=U14.same (((u9.same s8 f8)).trans s3) f8;k_data;refine⟨pp,ls,k,a',rfl,e14,λp hp=>⟨(hls p hp).1,by have:=(hls p hp).2;lia⟩,by lia,k0,λla us2 H15 s15 fl15 el15 L15=>?_⟩;refine cI (λi σ' H'=>(∃ o9 o10,σ'=[GZ (.ref sc),GZ (.int c),GZ (.ref p1),GZ (.ref pp),GZ (.ref pa),GZ (.int k),GZ (.int a'),GZ (.int (aD ls)),GZ (.ref la),o9,o10])/\aw H15 H') ⟨⟨_,_,rfl⟩,aw.refl _⟩ ?_ ?_
  ·rintro i σ' H16 hi ⟨⟨o9,o10,rfl⟩,s16⟩;k_data;have S:=s15.trans s16;refine xn (S _ _ epa14) (aP.same S _ hd14) J (by lia) k0 (by lia) λr H17 s17 hT=>?_;have S17:=S.trans s17;refine⟨pp,la,r,ls,k,a',us2,rfl,S17 _ _ e14,(s16.trans s17) _ _ el15,L15.same (s16.trans s17),λp hp=>⟨(hls p hp).1,by have:=(hls p hp).2;lia⟩,J.Gn,by lia,k0,by lia,hT.is,λH18 s18=>⟨true,rfl,?_⟩⟩;rw [if_neg (by decide)];have s1618:=(s16.trans s17).trans s18;rcases hT with⟨c4,er⟩|⟨c4,t,l,s,fl,er,hT,el,hs⟩
   ·refine eS (aM.of (s18 _ _ er)) (by decide) (v:=.non) rfl (aV (λc=>absurd rfl c) λ_=>s1618)
   ·refine eS (aM.of (s18 _ _ er)) (by decide) (v:=.ref t) rfl (aV (λ_=>?_) λc=>absurd (λz=>nomatch z) c);have el18:=s18 _ _ el;refine eS (aM.of (s18 _ _ er)) (by decide) (v:=.ref t) rfl (bA (hT.same s18) kJ ⟨.inl ⟨rfl,_,aM.of el18⟩,uy el18 (JG (show (dz ls (fk k a' ls)).length<=1000 from ?_) (by decide)) (s1618.upd (s16.free fl))⟩);unfold dz;refine Hg (JP _ _) ?_;rw [G4,Jb];lia
  ·rintro σ' H16 ⟨⟨o9,o10,rfl⟩,s16⟩;have S16:=(S14.trans s15).trans s16;exact⟨_,_,_,_,_,_,_,_,_,_,rfl,S7.trans S16,S16 _ _ e7⟩
 ·rintro σ' H7 ⟨o1,o2,o3,o4,o5,o6,o7,o8,o9,o10,rfl,S7,e7⟩;k_data;exact q _
end
end K
namespace K
open PySem PySem.Spec PyProof.Rows L2
section
variable {P:Hq} {w:HU} {K:G1} {mg:HA->Option G2} {base:Ip}
theorem jj:av ["parts"] ["parts"] (ak (top 15)):=dc
theorem rE (D:ay K mg "primes_in" (top 15)):Callee P w K mg base aQ 1 "primes_in" ["parts"] (mD K):=by
 refine cO (len:=by intro _ _ _ _ h;repeat (first | (obtain⟨rfl,_⟩:=h;exact rfl) | obtain⟨_,h⟩:=h)) D jj (λf cdv A outer s H vs Q E hr h=>?_);obtain⟨v,rows,qs,rfl,hd,⟨hl,hq⟩,h6,q⟩:=h;have nd:=jj.nd;refine⟨_,(ai (aA (dN rfl (lz (sub:=by repeat (first | exact True.intro | refine⟨rfl,?_⟩)) (has:=by repeat (first | exact True.intro | refine⟨rfl,?_⟩ | refine⟨True.intro,?_⟩)) (j:=by repeat (first | exact True.intro | refine⟨⟨rfl,rfl,.inl rfl,.inl rfl⟩,?_⟩)) (N':=["row"]) (js:=[none]) rfl rfl) (l6 (pv 0)) (λ_ _ _ _=>(aq (i:=0) (show IA [("row":HA)] from by decide +kernel) rfl (HL rfl) (.inr rfl))) (λ_ _ _ _=>aZ) (λ_ _ _ _=>(aG (bw K rfl) (aG (bw K rfl) (pv 0) ah (λ_ _=>rfl)) ah (λ_ _=>rfl)))))),?_⟩;show mG _ _ [GZ v] H;obtain⟨p,xs,rfl,hS,ht⟩:=hd;k_data;have xl:=ht.length;refine⟨⟨_,hS⟩,?_⟩;refine gO (xs:=xs) (λi zs H3=>H3=H/\zs=(qs.take i).map V.int) ⟨rfl,rfl⟩ (Hg (by lia) (show 10^6<=sizeLine by decide)) (λi zs H3 hi ⟨e1,e2⟩=>⟨by rw [e1];exact hS,by rw [e2];simp;lia⟩) ?_ ?_
 ·rintro i x zs H3 hx ⟨rfl,rfl⟩;obtain⟨d,hd,hv⟩:=ht.get hx;obtain⟨q',hq',ds,es,rfl⟩:=hq i d hd;obtain⟨p1,x1,rfl,t1,u,r1,rfl,hv2,_⟩:=hv;obtain⟨p2,x2,rfl,t2,u',r2,rfl,hv3,_⟩:=hv2;cases hv3;show cS 0 _ [none] _ _;k_data;refine⟨True.intro,bA t1 kJ (bA t2 kJ ⟨rfl,?_⟩)⟩;rw [HI,hq',HQ];rfl
 ·rintro zs H3 p3 ⟨rfl,rfl⟩ hp3;rw [show xs.length=qs.length by lia,HY];exact q p3 _ (aj hp3) hp3 ag
end
end K
namespace PySem.W.Fast
noncomputable def tw17112932677175736522:=0
noncomputable def tw6827316188661160000:=0
noncomputable def tw12513327483681754208:=0
noncomputable def tw5708296258570552544:=0
noncomputable def tw4998938745888257280:=0
noncomputable def tw16924769213685593440:=0
noncomputable def tw17563098016425869824:=0
noncomputable def tw14028746632878861952:=0
noncomputable def tw16241561422848786080:=0
noncomputable def tw5216143644107072192:=0
noncomputable def tw9656394370034468832:=0
noncomputable def tw2732670488775918689:=0
noncomputable def tw15098835277357573377:=0
noncomputable def tw14439828462789428513:=0
noncomputable def tw2511154204076941665:=0
noncomputable def tw492865948570054177:=0
noncomputable def tw1034466722032261825:=0
noncomputable def tw732919876231279457:=0
noncomputable def tw13318851948352091073:=0
noncomputable def tw3498293145690760129:=0
noncomputable def tw1831446002186272770:=0
noncomputable def tw1828876359888516130:=0
noncomputable def tw15879398086419910786:=0
noncomputable def tw14962795185363198082:=0
noncomputable def tw17902558903872285026:=0
noncomputable def tw7400146580032041506:=0
noncomputable def tw4667167164962910754:=0
noncomputable def tw17373208584730099875:=0
noncomputable def tw15611439227406011555:=0
noncomputable def tw10503389725379937507:=0
noncomputable def tw11101607676137454915:=0
noncomputable def tw448774270417910115:=0
noncomputable def tw16148864899844250051:=0
noncomputable def tw12587067971561459235:=0
noncomputable def tw17460413348424538691:=0
noncomputable def tw12325112673249897059:=0
noncomputable def tw632795171363782243:=0
noncomputable def tw3918807153700051587:=0
noncomputable def tw281104624295844515:=0
noncomputable def tw6378977326784212675:=0
noncomputable def tw9638694174875826947:=0
noncomputable def tw14791415902886372131:=0
noncomputable def tw18297061555105196003:=0
noncomputable def tw8463785415574455364:=0
noncomputable def tw17474064196914387076:=0
noncomputable def tw7841114590486289700:=0
noncomputable def tw5377037950698215748:=0
noncomputable def tw14338211332524666212:=0
noncomputable def tw10813754248070669828:=0
noncomputable def tw5299870535512124996:=0
noncomputable def tw17191483686827628196:=0
noncomputable def tw2604575626695691940:=0
noncomputable def tw18155154274387077028:=0
noncomputable def tw1350029107974595749:=0
noncomputable def tw3782974706591217861:=0
noncomputable def tw14011661115842388165:=0
noncomputable def tw10157422123767536101:=0
noncomputable def tw3959155814076026373:=0
noncomputable def tw17556577379491664453:=0
noncomputable def tw14778910045217858245:=0
noncomputable def tw16904284757330002821:=0
noncomputable def tw16653052707329842117:=0
noncomputable def tw14322597343238995941:=0
noncomputable def tw7666240366111142950:=0
noncomputable def tw3618000236115180678:=0
noncomputable def tw1683178605273223526:=0
noncomputable def tw9388307661416456710:=0
noncomputable def tw1207271507303439910:=0
noncomputable def tw6697818367690730695:=0
noncomputable def tw9937453703542451431:=0
noncomputable def tw4768288999771530503:=0
noncomputable def tw2670945253560538407:=0
noncomputable def tw17765534233017988423:=0
noncomputable def tw12738075401381964295:=0
noncomputable def tw16630019879074064903:=0
noncomputable def tw8753984701488120359:=0
noncomputable def tw6058440563255623367:=0
noncomputable def tw11633028627736676199:=0
noncomputable def tw9213784825503749031:=0
noncomputable def tw1136553030558984264:=0
noncomputable def tw9865426782769323176:=0
noncomputable def tw7213804358068832488:=0
noncomputable def tw4765354717299936712:=0
noncomputable def tw9766082054866307560:=0
noncomputable def tw17398509565306409448:=0
noncomputable def tw11117777689690778184:=0
noncomputable def tw522237294842365608:=0
noncomputable def tw16944185919611402920:=0
noncomputable def tw35494925518451688:=0
noncomputable def tw7378621261575214056:=0
noncomputable def tw2587507233870994441:=0
noncomputable def tw10582370181108136041:=0
noncomputable def tw10501724703715732617:=0
noncomputable def tw15418066831917834441:=0
noncomputable def tw5326056854566236361:=0
noncomputable def tw17324101872857592041:=0
noncomputable def tw15205843706740565289:=0
noncomputable def tw548230798106954121:=0
noncomputable def tw3799597394051483017:=0
noncomputable def tw1879263408619539881:=0
noncomputable def tw8998861225027774121:=0
noncomputable def tw2598490782269099018:=0
noncomputable def tw10996715777273271434:=0
noncomputable def tw8425516260141588778:=0
noncomputable def tw308827057784274314:=0
noncomputable def tw18396398825129737802:=0
noncomputable def tw3100727655171570314:=0
noncomputable def tw11899579884024722250:=0
noncomputable def tw3599920208863078250:=0
noncomputable def tw10202119555259902027:=0
noncomputable def tw7726894578266649707:=0
noncomputable def tw3664026699550930379:=0
noncomputable def tw13466423028527347339:=0
noncomputable def tw3775971563829134091:=0
noncomputable def tw1395062979156966219:=0
noncomputable def tw2515429510103339915:=0
noncomputable def tw2801349279765587980:=0
noncomputable def tw8124756991205837964:=0
noncomputable def tw17803981250782680204:=0
noncomputable def tw3556472985954528620:=0
noncomputable def tw12137533854309105100:=0
noncomputable def tw10521077716193854956:=0
noncomputable def tw7986678645575971404:=0
noncomputable def tw16491765604200773196:=0
noncomputable def tw5180652520922824300:=0
noncomputable def tw584856384039712460:=0
noncomputable def tw12536380025839029004:=0
noncomputable def tw2926876976991837004:=0
noncomputable def tw6983137985859043373:=0
noncomputable def tw1883810765031262381:=0
noncomputable def tw7128380243154263469:=0
noncomputable def tw1213513330005752493:=0
noncomputable def tw15564764306754918125:=0
noncomputable def tw12350855382712158222:=0
noncomputable def tw6204554465471769614:=0
noncomputable def tw4907880099323401422:=0
noncomputable def tw14252772930162499886:=0
noncomputable def tw1790872673091504494:=0
noncomputable def tw5141011048215794254:=0
noncomputable def tw3730733304057239310:=0
noncomputable def tw13527640707224283086:=0
noncomputable def tw9790431335547235343:=0
noncomputable def tw8168076540533531727:=0
noncomputable def tw15175888896740687983:=0
noncomputable def tw17838731736370583727:=0
noncomputable def tw9806334330334560559:=0
noncomputable def tw14547636890140922159:=0
noncomputable def tw17720240153987577263:=0
noncomputable def tw16765567740346776079:=0
noncomputable def tw2699458485087522415:=0
noncomputable def tw6599894592942758575:=0
noncomputable def tw8800418291184982831:=0
noncomputable def tw156475568255987599:=0
noncomputable def tw12624687136161564720:=0
noncomputable def tw16526956285179284656:=0
noncomputable def tw6927907147412402352:=0
noncomputable def tw3510846267811341520:=0
noncomputable def tw10459222015117860144:=0
noncomputable def tw10079871424873521744:=0
noncomputable def tw15659293732701452112:=0
noncomputable def tw11366933488963703696:=0
noncomputable def tw178927841466905552:=0
noncomputable def tw17822929418170344465:=0
noncomputable def tw9162433979518757905:=0
noncomputable def tw14974743638874223665:=0
noncomputable def tw4289162856459238481:=0
noncomputable def tw5130888765340914833:=0
noncomputable def tw4596116030150544689:=0
noncomputable def tw5357598220675184945:=0
noncomputable def tw18373289527810524593:=0
noncomputable def tw16572953556049791409:=0
noncomputable def tw5512340172235077201:=0
noncomputable def tw11444552456491406993:=0
noncomputable def tw9147706275056262929:=0
noncomputable def tw11755024473657278225:=0
noncomputable def tw5773244551889902449:=0
noncomputable def tw16147017174282686417:=0
noncomputable def tw17631018349572185073:=0
noncomputable def tw7304243042968789138:=0
noncomputable def tw3721547131942434162:=0
noncomputable def tw10398979670017714738:=0
noncomputable def tw9371219198265230994:=0
noncomputable def tw6261932947249099506:=0
noncomputable def tw14156953509075964690:=0
noncomputable def tw17335430494623296434:=0
noncomputable def tw12678476051662402482:=0
noncomputable def tw5953906340548625491:=0
noncomputable def tw14994381833164408915:=0
noncomputable def tw5170278814719087987:=0
noncomputable def tw4887289496310250963:=0
noncomputable def tw2823842542729054771:=0
noncomputable def tw12199012953722212147:=0
noncomputable def tw3606021185462007603:=0
noncomputable def tw8369525294281486259:=0
noncomputable def tw12168591571726870483:=0
noncomputable def tw6514192862948546772:=0
noncomputable def tw3657497442398585108:=0
noncomputable def tw13329030598829541684:=0
noncomputable def tw6428244752176942388:=0
noncomputable def tw14741666608722003380:=0
noncomputable def tw9314477410482125460:=0
noncomputable def tw6737178052223968948:=0
noncomputable def tw9935570742107553492:=0
noncomputable def tw4090477088316389076:=0
noncomputable def tw990487805532655380:=0
noncomputable def tw1871117328548634452:=0
noncomputable def tw8381721801196610933:=0
noncomputable def tw14625495746721580469:=0
noncomputable def tw10371181655079103029:=0
noncomputable def tw10035237378947557045:=0
noncomputable def tw16609337192959466389:=0
noncomputable def tw4597183906825862069:=0
noncomputable def tw4481753881911645141:=0
noncomputable def tw8412374333101032502:=0
noncomputable def tw448010631557439606:=0
noncomputable def tw12169840501177161878:=0
noncomputable def tw11426747316258104598:=0
noncomputable def tw8116405719443204438:=0
noncomputable def tw10671836526209569238:=0
noncomputable def tw11802323584134274550:=0
noncomputable def tw2062070012048419350:=0
noncomputable def tw6942138684623321750:=0
noncomputable def tw11167069447304115894:=0
noncomputable def tw13733534967228585686:=0
noncomputable def tw703955832982781814:=0
noncomputable def tw5084565597871464471:=0
noncomputable def tw13727566194643955863:=0
noncomputable def tw8662769541535789239:=0
noncomputable def tw7888990735831735511:=0
noncomputable def tw1489789549387330839:=0
noncomputable def tw3029986625294457239:=0
noncomputable def tw18345345142521730519:=0
noncomputable def tw14278917075405230551:=0
noncomputable def tw10017461960067979895:=0
noncomputable def tw3709900522794975959:=0
noncomputable def tw16343756042771928216:=0
noncomputable def tw1697082320679461016:=0
noncomputable def tw2894312925732797848:=0
noncomputable def tw3242169729772822008:=0
noncomputable def tw16680678652857474744:=0
noncomputable def tw8623729994985061176:=0
noncomputable def tw16652999317661893432:=0
noncomputable def tw159958027712183128:=0
noncomputable def tw493714056693461912:=0
noncomputable def tw8215567808027017144:=0
noncomputable def tw9488668860897568728:=0
noncomputable def tw7320343704657754104:=0
noncomputable def tw14613920667381207257:=0
noncomputable def tw251632019742797241:=0
noncomputable def tw5047283253860494809:=0
noncomputable def tw9268610461618622009:=0
noncomputable def tw2181214132121482841:=0
noncomputable def tw2721186743634283289:=0
noncomputable def tw12459480997627244377:=0
noncomputable def tw17621834725137561433:=0
noncomputable def tw705659105725239225:=0
noncomputable def tw13705392283487888698:=0
noncomputable def tw8312604464387394010:=0
noncomputable def tw8666368472303873562:=0
noncomputable def tw507915401601897146:=0
noncomputable def tw15918390150370529018:=0
noncomputable def tw15343446617834150650:=0
noncomputable def tw13216290097679471514:=0
noncomputable def tw7493374214043068603:=0
noncomputable def tw15236776534888509819:=0
noncomputable def tw678769449146567067:=0
noncomputable def tw12480031541060900475:=0
noncomputable def tw5470117678847023035:=0
noncomputable def tw13466695254194958299:=0
noncomputable def tw5604322534128194588:=0
noncomputable def tw7170214366133987516:=0
noncomputable def tw8471210980610292924:=0
noncomputable def tw14468727576383188220:=0
noncomputable def tw7085767704906823996:=0
noncomputable def tw3946897582085872988:=0
noncomputable def tw1028988983861480828:=0
noncomputable def tw13290736989355323932:=0
noncomputable def tw3825105150656660092:=0
noncomputable def tw4891645851919663996:=0
noncomputable def tw6534105256889056156:=0
noncomputable def tw7379033321400553468:=0
noncomputable def tw9366702447314291869:=0
noncomputable def tw11335651193786555805:=0
noncomputable def tw2931525985969179069:=0
noncomputable def tw13843957072614913629:=0
noncomputable def tw16410598053897716445:=0
noncomputable def tw774969120278910845:=0
noncomputable def tw15709950538918805405:=0
noncomputable def tw5651945308175392669:=0
noncomputable def tw18093049443635024829:=0
noncomputable def tw7081560265826536445:=0
noncomputable def tw7227917264829173822:=0
noncomputable def tw10199648682796231902:=0
noncomputable def tw15751385048183234814:=0
noncomputable def tw3858400142980179262:=0
noncomputable def tw9286138187324369630:=0
noncomputable def tw13332463301301300030:=0
noncomputable def tw4219742394276401022:=0
noncomputable def tw13869447667592360894:=0
noncomputable def tw8702514111015703518:=0
noncomputable def tw6504025017427441759:=0
noncomputable def tw4135681959041780927:=0
noncomputable def tw7081252436593598815:=0
noncomputable def tw12220059742172952991:=0
noncomputable def tw8977978657106098623:=0
noncomputable def tw7248270947518036447:=0
noncomputable def tw9302270061652887199:=0
noncomputable def tw7912700930540525343:=0
noncomputable def tw5560301422392863519:=0
noncomputable def tw6735714895922384767:=0
end PySem.W.Fast
namespace K
open PySem PySem.Spec PyProof.Rows L2
theorem vU:oM "TooFar.__init__" "part" "part" (inClass (top 4) 0):=⟨⟨rfl,rfl,rfl,by decide +kernel,rfl,by decide +kernel,by decide +kernel⟩,⟨_,_,_,_,rfl,λ_=>rfl,λ_=>rfl⟩,rfl,rfl,by decide,by decide,λ_ _ _ _ _ _ us hl=>by obtain⟨_,_,rfl⟩:=ym hl;exact rfl⟩
theorem pE:oM "NoInverse.__init__" "divisor" "divisor" (inClass (top 5) 0):=⟨⟨rfl,rfl,rfl,by decide +kernel,rfl,by decide +kernel,by decide +kernel⟩,⟨_,_,_,_,rfl,λ_=>rfl,λ_=>rfl⟩,rfl,rfl,by decide,by decide,λ_ _ _ _ _ _ us hl=>by obtain⟨_,_,rfl⟩:=ym hl;exact rfl⟩
theorem tG:oM "TooMany.__init__" "many" "many" (inClass (top 6) 0):=⟨⟨rfl,rfl,rfl,by decide +kernel,rfl,by decide +kernel,by decide +kernel⟩,⟨_,_,_,_,rfl,λ_=>rfl,λ_=>rfl⟩,rfl,rfl,by decide,by decide,λ_ _ _ _ _ _ us hl=>by obtain⟨_,_,rfl⟩:=ym hl;exact rfl⟩
end K
open PySem PySem.W PyProof.Rows L2
set_option maxHeartbeats 0 in
theorem PySem.Challenge.cw_rootprime_k68_roots_by_small_primes_holds : PySem.Challenge.rw_rootprime_k68_roots_by_small_primes.Holds := by
 w_on;o_law;k_head;(case hw=>w_witness2)
 k_fill
 refine L2.z6 (l:=PySem.Challenge.rw_rootprime_k68_roots_by_small_primes) (n:=63) (k:=33) (x := "_law_script") (CX:=L2.aQ) (sp:=K.Cg) rfl (by decide) rfl ⟨rfl,by decide,by decide,rfl⟩ (λw h Y=>Rl Y) ?F ?S ?C
 case F =>
  intro w mg fa h KX G hmg;have d_whole_of:L2.ay (L2.cY KX) mg "whole_of" (K.top 8):=K.dI KX G;have d_divisor:L2.ay (L2.cY KX) mg "divisor" (K.top 10):=K.dI KX G;have d_inverse:L2.ay (L2.cY KX) mg "inverse" (K.top 11):=K.dI KX G;have d_product_of:L2.ay (L2.cY KX) mg "product_of" (K.top 14):=K.dI KX G;have d_primes_in:L2.ay (L2.cY KX) mg "primes_in" (K.top 15):=K.dI KX G;have d_parting_in:L2.ay (L2.cY KX) mg "parting_in" (K.top 16):=K.dI KX G;have d_power:L2.ay (L2.cY KX) mg "power" (K.top 18):=K.dI KX G;have d_order_from:L2.ay (L2.cY KX) mg "order_from" (K.top 20):=K.dI KX G;have d_most_times:L2.ay (L2.cY KX) mg "most_times" (K.top 21):=K.dI KX G;have d_raised:L2.ay (L2.cY KX) mg "raised" (K.top 22):=K.dI KX G;have d_times_in_order:L2.ay (L2.cY KX) mg "times_in_order" (K.top 23):=K.dI KX G;have d_times_to_one:L2.ay (L2.cY KX) mg "times_to_one" (K.top 24):=K.dI KX G;have d_order:L2.ay (L2.cY KX) mg "order" (K.top 25):=K.dI KX G;have d_of_order:L2.ay (L2.cY KX) mg "of_order" (K.top 26):=K.dI KX G;have d_how_many_roots:L2.ay (L2.cY KX) mg "how_many_roots" (K.top 28):=K.dI KX G;have d_shown_none:L2.ay (L2.cY KX) mg "shown_none" (K.top 29):=K.dI KX G;have d_small_steps:L2.ay (L2.cY KX) mg "small_steps" (K.top 32):=K.dI KX G;have d_put_together:L2.ay (L2.cY KX) mg "put_together" (K.top 34):=K.dI KX G;have d_first_apart:L2.ay (L2.cY KX) mg "first_apart" (K.top 35):=K.dI KX G;have d_are_apart:L2.ay (L2.cY KX) mg "are_apart" (K.top 36):=K.dI KX G;have d_both_together:L2.ay (L2.cY KX) mg "both_together" (K.top 37):=K.dI KX G;have d_which:L2.oK (L2.cY KX) mg "which" (K.top 40) #[.none]:=by
   dsimp only [L2.cY]
   refine' L2.vK KX G ?a ?l ?c ?k ?t ?e
   (case a=>k_is);(case l=>k_is);(case c=>k_is);(case k=>k_is);(case t=>k_is);(case e=>rfl)
  have d_refuse_far:L2.ay (L2.cY KX) mg "refuse_far" (K.top 41):=K.dI KX G;have d_sought:L2.ay (L2.cY KX) mg "sought" (K.top 42):=K.dI KX G;have d_digits:L2.ay (L2.cY KX) mg "digits" (K.top 43):=K.dI KX G;have d_steps_to:L2.ay (L2.cY KX) mg "steps_to" (K.top 44):=K.dI KX G;have d_number_of:L2.ay (L2.cY KX) mg "number_of" (K.top 45):=K.dI KX G;have d_roots:L2.ay (L2.cY KX) mg "roots" (K.top 47):=K.dI KX G;have d_all_turned:L2.ay (L2.cY KX) mg "all_turned" (K.top 48):=K.dI KX G;have d_one_root:L2.ay (L2.cY KX) mg "one_root" (K.top 49):=K.dI KX G;have d_roots_of:L2.ay (L2.cY KX) mg "roots_of" (K.top 51):=K.dI KX G;have d_all_together:L2.ay (L2.cY KX) mg "all_together" (K.top 52):=K.dI KX G;have d__law_cell_at:L2.ay (L2.cY KX) mg "_law_cell_at" (K.top 54):=K.dI KX G;have d__law_state:L2.ay (L2.cY KX) mg "_law_state" (K.top 55):=K.dI KX G;have d__law_take:L2.ay (L2.cY KX) mg "_law_take" (K.top 56):=K.dI KX G;have d__law_number:L2.ay (L2.cY KX) mg "_law_number" (K.top 57):=K.dI KX G;have d__law_power:L2.ay (L2.cY KX) mg "_law_power" (K.top 58):=K.dI KX G;have d__law_steps:L2.ay (L2.cY KX) mg "_law_steps" (K.top 59):=K.dI KX G;have d__law_parted:L2.ay (L2.cY KX) mg "_law_parted" (K.top 60):=K.dI KX G;have d__law_paper:L2.ay (L2.cY KX) mg "_law_paper" (K.top 61):=K.dI KX G;have d__law_primes:L2.ay (L2.cY KX) mg "_law_primes" (K.top 62):=K.dI KX G;have d__law_common:L2.ay (L2.cY KX) mg "_law_common" (K.top 63):=K.dI KX G;have d__law_order:L2.ay (L2.cY KX) mg "_law_order" (K.top 64):=K.dI KX G;have d__law_lists:L2.ay (L2.cY KX) mg "_law_lists" (K.top 65):=K.dI KX G;have d__law_told:L2.ay (L2.cY KX) mg "_law_told" (K.top 66):=K.dI KX G;have d__law_is_row:L2.ay (L2.cY KX) mg "_law_is_row" (K.top 67):=K.dI KX G;have d__law_shown:L2.ay (L2.cY KX) mg "_law_shown" (K.top 68):=K.dI KX G;have d__law_whole:L2.ay (L2.cY KX) mg "_law_whole" (K.top 69):=K.dI KX G;have d__law_is_alike:L2.ay (L2.cY KX) mg "_law_is_alike" (K.top 70):=K.dI KX G;have d__law_right:L2.ay (L2.cY KX) mg "_law_right" (K.top 71):=K.dI KX G;have d_law:L2.ay (L2.cY KX) mg "law" (K.top 72):=K.dI KX G;have n_abs:mg "abs"=none:=IS KX G (by k_is);have P1:mg "int"=none:=IS KX G (by k_is);have K':mg "range"=none:=IS KX G (by k_is);have J':mg "tuple"=none:=IS KX G (by k_is);have n_all:mg "all"=none:=IS KX G (by k_is);have M9:mg "list"=none:=IS KX G (by k_is);have n_min:mg "min"=none:=IS KX G (by k_is);have n_max:mg "max"=none:=IS KX G (by k_is);have f':mg "len"=none:=IS KX G (by k_is);have Qu:mg "zip"=none:=IS KX G (by k_is);have n_enumerate:mg "enumerate"=none:=IS KX G (by k_is);have n_sorted:mg "sorted"=none:=IS KX G (by k_is);have P':mg "isinstance"=none:=IS KX G (by k_is);have Pq:mg "bool"=none:=IS KX G (by k_is)
  refine' L2.cH (JY (n := "PrimeError") KX G ?xa) (λa_PrimeError=>?g1)
  (case xa=>k_is)
  refine' L2.cH (L2.hJ KX a_PrimeError ?l ?c2 ?c3 ?e1 ?e2 ?e3 ?e4 ?e5 ?e6 ?ob ?kp) (λc_PrimeError=>?g2)
  (case l=>k_is);(case c2=>rfl);(case c3=>rfl);(case e1=>k_is);(case e2=>k_is);(case e3=>k_is);(case e4=>k_is);(case e5=>k_is);(case e6=>k_is);(case ob=>exact⟨_,_,_,_,_,_,_,_,_,_,_,_,_,_,_,_,rfl,rfl,rfl,rfl⟩);(case kp=>k_is)
  refine' L2.cH (L2.qx a_PrimeError c_PrimeError.2 c_PrimeError.1 ?i) (λx_PrimeError=>?g3)
  (case i=>k_is)
  refine' L2.cH (JY (n := "Nought") KX G ?xa) (λa_Nought=>?g4)
  (case xa=>k_is)
  refine' L2.cH (L2.hJ KX a_Nought ?l ?c2 ?c3 ?e1 ?e2 ?e3 ?e4 ?e5 ?e6 ?ob ?kp) (λc_Nought=>?g5)
  (case l=>k_is);(case c2=>rfl);(case c3=>rfl);(case e1=>k_is);(case e2=>k_is);(case e3=>k_is);(case e4=>k_is);(case e5=>k_is);(case e6=>k_is);(case ob=>exact⟨_,_,_,_,_,_,_,_,_,_,_,_,_,_,_,_,rfl,rfl,rfl,rfl⟩);(case kp=>k_is)
  refine' L2.cH (L2.qx a_Nought c_Nought.2 c_Nought.1 ?i) (λx_Nought=>?g6)
  (case i=>k_is)
  refine' L2.cH (JY (n := "NoOrder") KX G ?xa) (λa_NoOrder=>?g7)
  (case xa=>k_is)
  refine' L2.cH (L2.hJ KX a_NoOrder ?l ?c2 ?c3 ?e1 ?e2 ?e3 ?e4 ?e5 ?e6 ?ob ?kp) (λc_NoOrder=>?g8)
  (case l=>k_is);(case c2=>rfl);(case c3=>rfl);(case e1=>k_is);(case e2=>k_is);(case e3=>k_is);(case e4=>k_is);(case e5=>k_is);(case e6=>k_is);(case ob=>exact⟨_,_,_,_,_,_,_,_,_,_,_,_,_,_,_,_,rfl,rfl,rfl,rfl⟩);(case kp=>k_is)
  refine' L2.cH (L2.qx a_NoOrder c_NoOrder.2 c_NoOrder.1 ?i) (λx_NoOrder=>?g9)
  (case i=>k_is)
  refine' L2.cH (JY (n := "TooFar") KX G ?xa) (λa_TooFar=>?g10)
  (case xa=>k_is)
  refine' L2.cH (L2.hJ KX a_TooFar ?l ?c2 ?c3 ?e1 ?e2 ?e3 ?e4 ?e5 ?e6 ?ob ?kp) (λc_TooFar=>?g11)
  (case l=>k_is);(case c2=>rfl);(case c3=>rfl);(case e1=>k_is);(case e2=>k_is);(case e3=>k_is);(case e4=>k_is);(case e5=>k_is);(case e6=>k_is);(case ob=>exact⟨_,_,_,_,_,_,_,_,_,_,_,_,_,_,_,_,rfl,rfl,rfl,rfl⟩);(case kp=>k_is)
  refine' L2.cH (L2.qy K.vU a_TooFar c_TooFar.2 c_TooFar.1 ?nf ?i ?fn ?l ?cc ?kk) (λx_TooFar=>?g12)
  (case nf=>k_is);(case i=>k_is);(case fn=>k_is);(case l=>k_is);(case cc=>k_is);(case kk=>k_is)
  refine' L2.cH (JY (n := "NoInverse") KX G ?xa) (λa_NoInverse=>?g13)
  (case xa=>k_is)
  refine' L2.cH (L2.hJ KX a_NoInverse ?l ?c2 ?c3 ?e1 ?e2 ?e3 ?e4 ?e5 ?e6 ?ob ?kp) (λc_NoInverse=>?g14)
  (case l=>k_is);(case c2=>rfl);(case c3=>rfl);(case e1=>k_is);(case e2=>k_is);(case e3=>k_is);(case e4=>k_is);(case e5=>k_is);(case e6=>k_is);(case ob=>exact⟨_,_,_,_,_,_,_,_,_,_,_,_,_,_,_,_,rfl,rfl,rfl,rfl⟩);(case kp=>k_is)
  refine' L2.cH (L2.qy K.pE a_NoInverse c_NoInverse.2 c_NoInverse.1 ?nf ?i ?fn ?l ?cc ?kk) (λx_NoInverse=>?g15)
  (case nf=>k_is);(case i=>k_is);(case fn=>k_is);(case l=>k_is);(case cc=>k_is);(case kk=>k_is)
  refine' L2.cH (JY (n := "TooMany") KX G ?xa) (λa_TooMany=>?g16)
  (case xa=>k_is)
  refine' L2.cH (L2.hJ KX a_TooMany ?l ?c2 ?c3 ?e1 ?e2 ?e3 ?e4 ?e5 ?e6 ?ob ?kp) (λc_TooMany=>?g17)
  (case l=>k_is);(case c2=>rfl);(case c3=>rfl);(case e1=>k_is);(case e2=>k_is);(case e3=>k_is);(case e4=>k_is);(case e5=>k_is);(case e6=>k_is);(case ob=>exact⟨_,_,_,_,_,_,_,_,_,_,_,_,_,_,_,_,rfl,rfl,rfl,rfl⟩);(case kp=>k_is)
  refine' L2.cH (L2.qy K.tG a_TooMany c_TooMany.2 c_TooMany.1 ?nf ?i ?fn ?l ?cc ?kk) (λx_TooMany=>?g18)
  (case nf=>k_is);(case i=>k_is);(case fn=>k_is);(case l=>k_is);(case cc=>k_is);(case kk=>k_is)
  refine' L2.cH (L2.Dx c_TooMany c_TooMany ?xa) (λmM=>?g19)
  (case xa=>k_is)
  refine' L2.cH (JY (n := "Kept") KX G ?xa) (λa_Kept=>?g20)
  (case xa=>k_is)
  refine' L2.cH (L2.Dy KX a_Kept ?p1 ?p2 ?p3 ?p4 ?p5 ?p6) (λo_Kept=>?g21)
  (case p1=>k_is);(case p2=>k_is);(case p3=>k_is);(case p4=>k_is);(case p5=>k_is);(case p6=>k_is)
  refine' L2.cH (L2.lN (m := "__init__") (qual := "Kept.__init__") (st:=L2.inClass (K.top 31) 0) o_Kept ?xa ?fn ?kk ?l ?cc) (λm_Kept___init__=>?g22)
  (case xa=>k_is);(case fn=>k_is);(case kk=>k_is);(case l=>k_is);(case cc=>k_is)
  refine' L2.cH (L2.lN (m := "steps") (qual := "Kept.steps") (st:=L2.inClass (K.top 31) 1) o_Kept ?xa ?fn ?kk ?l ?cc) (λm_Kept_steps=>?g23)
  (case xa=>k_is);(case fn=>k_is);(case kk=>k_is);(case l=>k_is);(case cc=>k_is)
  refine' L2.cH (L2.lN (m := "tables") (qual := "Kept.tables") (st:=L2.inClass (K.top 31) 2) o_Kept ?xa ?fn ?kk ?l ?cc) (λm_Kept_tables=>?g24)
  (case xa=>k_is);(case fn=>k_is);(case kk=>k_is);(case l=>k_is);(case cc=>k_is)
  refine' L2.cH (L2.lN (m := "used_table") (qual := "Kept.used_table") (st:=L2.inClass (K.top 31) 3) o_Kept ?xa ?fn ?kk ?l ?cc) (λm_Kept_used_table=>?g25)
  (case xa=>k_is);(case fn=>k_is);(case kk=>k_is);(case l=>k_is);(case cc=>k_is)
  refine' L2.cH (L2.lN (m := "add_steps") (qual := "Kept.add_steps") (st:=L2.inClass (K.top 31) 4) o_Kept ?xa ?fn ?kk ?l ?cc) (λm_Kept_add_steps=>?g26)
  (case xa=>k_is);(case fn=>k_is);(case kk=>k_is);(case l=>k_is);(case cc=>k_is)
  refine' L2.cH (L2.pJ (f := "most") o_Kept ?xa) (λna_most=>?g27)
  (case xa=>k_is)
  refine' L2.cH (L2.pJ (f := "counted") o_Kept ?xa) (λna_counted=>?g28)
  (case xa=>k_is)
  refine' L2.cH (L2.pJ (f := "laid") o_Kept ?xa) (λna_laid=>?g29)
  (case xa=>k_is)
  refine' L2.cH (JY (n := "FARTHEST") KX G ?xa) (λg_FARTHEST=>?g30)
  (case xa=>k_is)
  refine' L2.cH (JY (n := "MOST_TOLD") KX G ?xa) (λg_MOST_TOLD=>?g31)
  (case xa=>k_is)
  refine L2.AR hmg d_law (λ_ _ _ _ _ _ _=>rfl) λbase f fd kb F=>?_;have dvr:=λP w=>K.tQ (P:=P) (w:=w) (base:=base) d_divisor n_abs;have inv:=λP w=>K.tR (P:=P) (w:=w) (base:=base) d_inverse (dvr P w) (x_NoInverse _ _ _);have pw:=λP w=>K.yK (P:=P) (w:=w) (base:=base) d_power (inv P w) n_abs;have pi:=λP w=>K.rE (P:=P) (w:=w) (base:=base) d_primes_in;have ra:=λP w=>K.wg (P:=P) (w:=w) (base:=base) d_raised (pw P w) K';have wo:=λP w=>K.yT (P:=P) (w:=w) (base:=base) d_whole_of K';have od:=λP w=>K.yH (P:=P) (w:=w) (base:=base) d_order (K.pL d_order_from (K.rD d_parting_in) (K.yJ d_parting_in) (K.A3 d_most_times) (ra P w) (K.rF d_times_in_order (ra P w) (K.yQ d_times_to_one (pw P w)) f' 6) (wo P w) (pw P w) n_min Qu J') x_Nought;have put:=λP w=>K.DF (P:=P) (w:=w) (base:=base) d_put_together (K.yD d_first_apart (K.yC d_are_apart (dvr P w)) n_enumerate) (K.A1 d_both_together (dvr P w) (inv P w));have ki:=λP w=>K.yE (P:=P) (w:=w) (mg:=mg) (base:=base) m_Kept___init__ o_Kept.cls na_most na_counted na_laid;have ka:=λP w=>K.A2 (P:=P) (w:=w) (mg:=mg) (base:=base) m_Kept_add_steps o_Kept.cls na_counted;have kt:=λP w=>K.tT (P:=P) (w:=w) (mg:=mg) (base:=base) m_Kept_tables o_Kept.cls na_laid M9;have ku:=λP w=>K.yF (P:=P) (w:=w) (mg:=mg) (base:=base) m_Kept_used_table o_Kept.cls na_laid na_most f' (K.yN d_small_steps f') (ka P w) (kt P w);have dg:=λP w=>K.wa (P:=P) (w:=w) (base:=base) d_digits o_Kept.cls (pw P w) (inv P w) (ku P w) (ka P w) (K.A4 d_number_of) (K.t7 d_steps_to) f' K' J';have so:=λP w=>K.wm (P:=P) (w:=w) (base:=base) d_sought o_Kept.cls o_Kept (ki P w) (dg P w) (K.yI d_parting_in) (wo P w) (K.A5 d_number_of) (put P w) f' J';have whD:=λP w=>K.yS (P:=P) (w:=w) (base:=base) d_which (od P w) (pw P w) (K.DC d_refuse_far (x_TooFar _ _ _) ⟨_,g_FARTHEST⟩ n_max) (pi P w) (so P w) x_Nought;have hm:=λP w=>K.DD (P:=P) (w:=w) (base:=base) d_how_many_roots (dvr P w);have on:=λP w=>K.tZ (P:=P) (w:=w) (base:=base) d_one_root (hm P w) (wo P w) (K.rD d_parting_in) (dvr P w) (pw P w) (inv P w) (whD P w);have rt:=λP w=>K.yM (P:=P) (w:=w) (base:=base) d_roots (K.uQ d_shown_none (hm P w) (pw P w)) (hm P w) (K.tY d_of_order (pw P w) x_NoOrder) (K.wu d_all_turned K') (on P w) (x_TooMany _ _ _) ⟨_,g_MOST_TOLD⟩ n_sorted;have tk:=λP w=>K.A6 (P:=P) (w:=w) (base:=base) d__law_take;have sp:=λP w=>K.yP (P:=P) (w:=w) (base:=base) d__law_steps;have lp:=λP w=>K.wc (P:=P) (w:=w) (base:=base) d__law_power;have cm:=λP w=>K.v9 (P:=P) (w:=w) (base:=base) d__law_common;have wl:=λP w=>K.wx (P:=P) (w:=w) (base:=base) d__law_whole;have rof:=λP w=>K.DG (P:=P) (w:=w) (base:=base) d_roots_of (K.uQ d_shown_none (hm P w) (pw P w)) (hm P w) (K.yL d_product_of) (rt P w) (K.DH d_all_together (put P w) Qu n_sorted) (x_TooMany _ _ _) ⟨_,g_MOST_TOLD⟩ n_enumerate J';have rig:=λP w=>K.wj (P:=P) (w:=w) (base:=base) d__law_right (wl P w) (K.yB d__law_is_alike Qu) (K.wk d__law_shown (K.wb d__law_is_row (sp P w) P' J' P1 Pq f') (cm P w) (lp P w) P' J' f' K') P' J' f' K';exact K.DE F (K.yO d__law_state) (K.v8 d__law_cell_at f') (tk _ _) (K.tX d__law_primes (tk _ _) K' f' n_sorted) (K.we d__law_order (tk _ _)) (K.wd d__law_number (tk _ _) K') (K.AV (K.lS d__law_paper (K.tW d__law_parted) (sp _ _) J' 30)) (wl _ _) (lp _ _) (K.yG d__law_lists (lp _ _) K') (K.yR d__law_told (rof _ _) (x_TooMany _ _ _) mM) (rig _ _) K'
 case S=>exact λK H a ns hl hO hS=>⟨a,ns,rfl,hS,hl,λ_=>rfl⟩
 case C=>exact λ_ _ _ _ z=>z
